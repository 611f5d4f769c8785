import PyProof.Rows.All
import Wide.All
import OpenK.AllK
import Wide.FinOn
import PyProof.EqAt
import PyProof.EqKinds
import PyProof.NeKinds
import PyProof.TupleCall
import KE.KIsAll
import KE.KIsNot
import KE.RegKIsAll
import OpenK.KOwn
import PyProof.NsDelKeeps
import PyProof.ReprRoads
import PyProof.ExcArgsOwn
import PyProof.IsiH_list
import Lean
import PyProof.StationsW
import PyProof.Rows.Catch
import OpenK.KMake
import PyProof.DictIter
import KE.KDictList
import PyProof.DictItems
import PyProof.DictWalks
import PyProof.TupleOfSeq
import PySem.SetTable
import PyProof.SetKind
import PyProof.IsRules
import PyProof.Rows.SetFrom
import PyProof.FactsAll.set
import KE.KSortTup
import PyProof.Meets
import PyProof.AutoListH
import PyProof.ListMulRoad
import PyProof.FactsAll.tuple_2
import Wide.Seal
import PyProof.Rows.Range3
import PyProof.CallType
import PyProof.EnumMake
import PyProof.Rows.CallKwBuiltin
import KE.LcSums
import KE.KRevIter
import PyProof.Rows.SortLt
import PyProof.DefCall
import PySem.Challenge.RW_frontways_k33_whole_rings_and_ways
set_option linter.all false
set_option autoImplicit false
set_option Elab.async false
set_option maxRecDepth 100000
set_option maxHeartbeats 4000000
set_option maxHeartbeats 8000000
set_option tactic.hygienic false
universe u
set_option compiler.extract_closed false
theorem zA0(h:True:=by rfl):True:=h
theorem zA1(h:True:=by decide):True:=h
theorem zA2(h:True:=by intro _;rfl):True:=h
open Option renaming some->pX,none->pY
theorem pZ{c:Prop}{h:Decidable c}(n:¬c){α:Sort u}{t e:α}:ite c t e=e:=if_neg n
theorem p6{c:Prop}{h:Decidable c}(n:c){α:Sort u}{t e:α}:ite c t e=t:=if_pos n
theorem p7{p:Prop}[Decidable p](h:p):decide p=true:=decide_eq_true h
theorem p8{p:Prop}[Decidable p](h:¬p):decide p=false:=decide_eq_false h
theorem qA{p:Prop}[Decidable p](h:decide p=true):p:=of_decide_eq_true h
theorem qB{a b:Prop}(h:a)(k:¬a):b:=(k h).elim
abbrev qC:=List Int
abbrev qD:=List qC
abbrev qE:=List Nat
abbrev qG:=Bool->PySem.Shared->Prop
abbrev qH:=Unit->PySem.Shared->Prop
abbrev qJ:=List (PySem.Addr×PySem.Obj)
abbrev qM:=List PySem.Str
abbrev qN:=List PySem.Expr
abbrev qP:=Option Nat
abbrev qQ:=List PySem.Addr
open PySem renaming wpAny_bind->Ap,Value->As,Shared->AA,wpAny_pure->AC,Program->AK,model->AM,World->AQ,Paired->A7,FuncData->BI,Around->BO,cLine->Cn,starEach->Cs,SetTable->CS,mainGlobals->C6,wpAny_call_entry->Da,wpAny_newObj_type->De,boot_len->DB,wpAny_holding->DC,compareOp->DM,sysModules->DT,codeAny_builtin->DU,wpAny_mono->D2,sizeLine_eq->EQ,Scope->ES,wpAny_setState_of->EX,codeAny_mono->E7,wpAny_forIn_list->Fa,wpAny_Call_Name_kw->Fh,wpAny_truthy_bool->FO,wpAny_typeNameOfWhole_keyiter->FV,rawInt->FY,mem_of_lookup->F0,wpAny_passesOwn->G0,wpAny_specialOf->G1,binaryOp->G2,wpAny_rule->G8,wpAny_setField->He,NameKind->Hk,wpAny_typeNameOf_keyiter->Hm,wpAny_isInstance->Hn,behindInMarks->Iq,plainId_quiet->Iy,atKey->IE,bootBuiltins->IT,backTo->IU,wpAny_seqItems->IZ,firstArgMember->JA,assignEach->JS,wpAny_askSetting->J2,sliceBounds->J6,wpAny_ite_split->J9,wpAny_pyIter_tuple->Ki,tupleKind_room_in1->Kt,intKind->KA,wpAny_dictEntries->KU,pyNext->K2,wpAny_of_eq->K5,wpAny_newList->K9,swapsWith->Lm,isSubtype_tuple_tuple->LF,wpAny_execs_nil->LH,letOwnedTupleGo->LI,wpAny_typeOf->LP,tupleKeyHash->LW,holding->MA,wpAny_runValue->MD,tupleKind->MO,DictEntry->MU,wpAny_tupleItemsOf->MZ,attributeBase->M3,wpAny_attempt->M5,setSearchFrom->M8,wpAny_pyIter_list->Nc,foldedSetIterable->Nl,wpAny_pyIter_slot->Nw,getItem->NN,callerA->NO,valueAt->NR,wpAny_execs_cons->NX,concat_meets->N0,noFill_tuple_add->N1,wpAny_comprehension_free->N2,wpAny_dictEpoch->OL,wpAny_updateSeq->OP,wpAny_pyNext_range_end->OS,wpAny_pyIter_rangeiter->OT,keywordEach->OV,subscripted->OY,wpAny_field->O1,wpAny_Assign_Subscript->O3,wpAny_isTrue_Compare1->O7,pyIter->O8,BindsTo->Pc,collect->Pf,wpAny_fieldsOf->Ps,wpAny_isOneOf_keyiter->Pt,wpAny_eqIsQuiet_tuple->PH,builtinLookup_eq_fast->PQ,isSubtype_type->PU,wpAny_load->P4,wpAny_call->P6,bindL->P7,bindC->P8,call_meets->Qb,isInstance->QE,codeAny_call_builtin->QH,reduceHash->QI,wpAny_standAt->QR,seq_tuple_add->QU,wpAny_handled->QY,wpAny_setEntries_of->Q6,Within->RC,assign->RF,wpAny_pyIter_range->RH,getMethod->RI,Result->RO,wpAny_getItem_heap->Sc,wpAny_setItem_heap->Se,call_meetsIn->Sf,wpAny_pyHash_tuple->Si,wpAny_eqBool_tuple->Sj,eqIsQuiet->Sk,pickOrder->Su,storedH->SE,wpAny_assign_Name->SH,slot_list_getitem->SL,wpAny_pyIter_enum->SR,eqIsQuiet_byValue->SS,ofAClassStatement->SU,searchCouldBeSeen->SV,wpAny_storeSet_of->SW,seqIndex_of->S5,wpAny_throw->S7,wpAny_pyHash_int->Tk,wpAny_eqBool_int->Tl,GenState->To,bindArgs->TC,backToKw->TD,beq_builtin_none->TR,builtinsNs->T5,isTrue->T8,wpAny_Name->T9,CmpOp->Uf,call->UC,IsEnum->UD,checkCount->UE,IsTupleKey->UF,wpAny_ret_mkInt->UH,codeAny_of_tree->UN,typeLookup_type->UP,setsByText->UQ,standAt->UZ,setItem->U0,recursionLimit->U1,Keyword->U3,isSubtype_stop->U4,carriedByValue->U6,cellsFrom->VA,Model->VZ,data2->We,Params->WV,compEnvC->WZ,setRelay->W2,entryFor->W4,argsOk->W5
open PySem.W renaming Frag->Au,mg_none_of->BN,findIn->C0,keepIn->C9,emptyDict->D3,fnOf->EK,instObj->EZ,mg_of->E9,nsIn->GO,codeIn->Hd,makesIn->IB,plainGet->JU,hasDictIn->KI,isFn->LL,plainGet_of->Me,lookIn->MB,callWith_K->MS,plainOver->No,takerIn->OG,OpenLaw->OI,cellsFrom_some->OW,methodCall_KW->Pd,looks_findIn->P5,callWith_K0->Q4,make_core->SK,handedIn->Tu,InitBack->Tx,makes_of->TB,WalkO->VO,kas_item->W9
open List renaming length_map->AB,getD_eq_getElem?_getD->AD,getElem?_eq_some_iff->AF,mem_cons_self->AI,mem_cons_of_mem->AJ,getElem?_eq_getElem->AL,range->AO,size_toArray->AU,mem_range->AV,mem_map->AY,getElem?_map->Bi,getElem?_append_left->Bn,mem_of_getElem?->By,length_append->Bz,map_append->BE,mem_cons->BF,map_cons->BG,length_take->BS,mem_filter->BV,length_range->B0,append_nil->B3,mem_append_right->B4,pairwise_map->B5,mem_singleton->Cb,getElem?_append_right->Cc,mem_append->Cf,pairwise_iff_getElem->Co,length_filter_le->Ct,mem_iff_getElem->CC,pairwise_append->CD,take_length->CI,append_assoc->CL,pairwise_cons->CO,filter_append->C3,length_cons->DE,map_congr_left->DJ,lookup_cons->D0,take_add_one->D4,length_singleton->D7,getElem?_eq_none->D8,map_map->Ee,nodup_cons->Ex,length_set->EA,filter_cons_of_neg->EE,all_eq_true->EL,length->ER,filter_cons_of_pos->EV,lookup->E6,mem_iff_getElem?->Fm,take_append_drop->Fu,perm_append_comm->FA,mem_append_left->FB,getElem?_take_of_lt->FD,find?_cons->FE,range_succ->FH,reverse_reverse->FL,ext_getElem?->FR,pairwise_singleton->FX,getElem?_range->F3,mem_map_of_mem->F4,reverse_append->F5,length_drop->F7,getElem_mem->F8,drop_sublist->G5,Nodup->Ha,length_erase_of_mem->HE,nodup_range->HK,mem_reverse->HM,filterMap_cons->HQ,length_eq_zero_iff->HZ,any_cons->Ix,length_nil->ID,getElem?_set_self->IJ,drop_eq_nil_of_le->IN,take_sublist->IP,getElem_take->IQ,nodup_append->IS,map_nil->IX,toArray->JI,getElem?_set_ne->JP,not_mem_nil->JY,mem_erase_of_ne->J0,filter_cons->J1,length_eraseIdx_of_lt->J5,getElem?_inj->KW,length_pos_of_mem->K6,take_of_length_le->K7,getElem_map->Lc,mem_of_mem_take->LZ,length_eraseIdx->Mb,take_succ_cons->My,mem_filterMap->MR,getElem_drop->NB,reverse_perm->NC,getLast?_eq_none_iff->NG,getLast?_eq_some_iff->NH,drop_eq_getElem_cons->NL,map_set->On,mem_of_mem_eraseIdx->Op,getElem?_replicate->Os,of_mem_zip->OH,filter_map->OM,foldl_cons->ON,filter_nil->OO,pairwise_lt_range->O5,filter_eq_nil_iff->O6,nodup_nil->Po,drop_drop->PY,take_zero->P0,pairwise_reverse->P3,getElem_toArray->QA,mem_of_mem_drop->QO,map_take->Q0,map_drop->Q1,length_pos_iff->Q8,zip_cons_cons->RU,map_singleton->Sm,getElem?_drop->Sr,extract->Sz,mapM_toArray->SY,getElem_inj->Ts,cons_append->TL,map->TZ,nil_append->UT,replicate->U2,take->VE,all_cons->VM,map_id'->W7,all_map->W8,map_id->XO
open PyProof.Rows renaming Keyed->AE,wpS_bind->AN,arrOf->AR,wpS_pure->AX,SortSt->BA,pendingOf->BC,seqObj->C4,boot_tuple->Db,wpS_forRange->Do,elem'->Dx,boot_sorted->DF,wpS_mono->D1,SortKind->Eg,callWith_type1->EC,IntsAre->Fk,failedOf->FI,wpS_modify->Hc,boot_list->IM,wpS_get->JJ,AllBare->KB,callWith_builtin1->LM,wpS_lift->MH,envOfC->MT,listUpdate_at->M4,reverseSlice'->M9,listItems_at->N3,boot_range->OE,entry_list_sort->OK,ltAt'->OQ,subscriptTail_builtinR->OZ,slot_list_sort->Pl,args_list_sort->Pm,boot_max->Pw,gallopOf->QP,Constant_none->QQ,plain_sorted->R7,entry_sorted->R8,args_sorted1->Sa,IsTup->SC,kind_sorted->S8,seqEpoch_at->Ta,general'->TW,Subscript_->UA,setArr->US,keyLt'->UU,wpAny_notIn_heap->UX,keyLt'_oneType->U7,sortedHeap_old->U9,boot_all->XT,boot_int->XU,boot_min->XW,lt_int->X1
open PySem.Heap renaming get?_push_of_some->AG,get?_push_size->AS,lt_size->Be,get?_update_other->DZ,size_push->D5,get?_update_self->D6,SameBut->EG,ExtBut->S6,size_update->TK
open Nat renaming le_refl->AH,zero_le->BD,ne_of_lt->BM,le_trans->BQ,lt_of_lt_of_le->B9,lt_of_le_of_lt->C1,lt_or_ge->C7,le_of_lt->DD,lt_irrefl->EF,add_sub_cancel->EN,lt_succ_of_lt->FS,lt_succ_self->F6,pow_le_pow_right->Hb,sub_self->HH,zero_add->Kb,le_succ->K3,add_le_add_right->LG,pow_succ->LX,mod_lt->LY,lt_trichotomy->NA,le_succ_of_le->NE,le_add_right->NS,le_of_eq->NU,zero_lt_succ->NV,not_lt_zero->OF,lt_of_lt_of_eq->Q9,lt_of_le_of_ne->Re,eq_zero_or_pos->Sn,add_zero->So,one_le_two_pow->SA,le_of_lt_succ->SF,add_sub_of_le->SG,le_of_not_lt->Tb,sub_sub_self->Th,div_eq_of_lt->TU,min_eq_left->UV,lt_trans->Wp,ne_of_gt->WB,succ_pos->W1,not_lt->XX
open PySem.Paired renaming length->AT,snoc->S9
open PySem.Value renaming ref->AW,none->CY,type->DS,isInt_shape->FM,bool->JO,isInt->ML,int->MM,isStrOf->VI,str->X3
open Array renaming length_toList->AZ,getElem?_eq_getElem->A9,getElem?_toList->BY,getElem?_eq_some_iff->C2,toList_append->C5,getD->DI,toList_extract->FK,getElem?_eq_none->F9,getD_eq_getD_getElem?->GH,perm_iff_toList_perm->G4,size_setIfInBounds->HL,forIn_toList->IF,toList_push->IR,toList_reverse->J3,getElem_mem_toList->N7,eraseIdxIfInBounds->N8,toList_map->N9,toArray_toList->Qr,toList_modify->Q7,toList->RE,getElem_mem->SZ,toList_inj->T3,replicate->UI
open Option.some renaming inj->A8
open Bool renaming false_ne_true->BB,false_eq_true->BU,not_true->E8,and_eq_true->Fc,beq_eq_decide_eq->Lv,eq_iff_iff->LJ,false_and->O9,and_false->Pe,not_false->U5,false_or->VT,or_false->VY
open ForInStep renaming done->BH,yield->CM
open Classical renaming byContradiction->CA,choose->EO,choose_spec->Fn,propDecidable->OA
open Ne renaming symm->CB
open PySem.NameKind renaming free->CF,cell->FU
open Int renaming toNat_natCast->CH,emod_lt_of_pos->DA,toNat_of_nonneg->DL,le_trans->Ev,emod_nonneg->EI,le_of_lt->E3,eq_ofNat_of_zero_le->Ic,toNat->IA,not_lt->IG,le_refl->IL,lt_irrefl->Q3,ofNat_lt->Rc,emod_eq_of_lt->S4,zero_add->WA,mul_one->XB
open PySem.Obj renaming mapSeq->CU,data_mapFields->EM,isFreed_of_fields->Jn,cls_mapFields->KP,mapFields->M6,putSet->UK
open List.Pairwise renaming imp_of_mem->C8,nil->KM,cons->Sb
open PySem.Heap.SameBut renaming update->DH,refl->X9
open PySem.Around renaming under_plainId->DV,under->NY
open PySem.SetTable renaming insertAt->D9,runEnd->EW,Probe->HR,turns->NI,grown->UM
open PySem.PassesOwn renaming never->EB
open PySem.F renaming plainAttrs_list->ED,slot_dict_keyiterator_next->ET,slot_list_append->FF,type_list_append->FG,slot_tuple_iterator_next->G3,called_set->HP,plain_list_iadd->HU,slot_tuple_hash->HV,slot_tuple_eq->JE,args_tuple_add_2->Kk,entry_tuple_add->KG,slot_tuple_add->K4,slot_tuple_lt->Lu,slot_dict_get->LD,args_dict_keyiterator_next_1->LV,entry_dict_keyiterator_next->Mc,args_tuple_iterator_next_1->MC,entry_tuple_iterator_next->MV,entry_proto_collect->MX,plain_proto_collect->MY,slot_dict_getitem->NF,args_tuple_lt_2->Oy,args_dict_get_3->OB,entry_list_iadd->OC,entry_tuple_lt->OX,entry_dict_get->O4,slot_dict_len->PD,slot_set_iter->PV,slot_dict_iter->TN,plain_set_new->UO
open False renaming elim->EH
open List.Perm renaming append_left->EJ,refl->KF,append_right->K8,nodup_iff->Mo,trans->OR,cons->PF,swap->PM
open PySem.Builtin.Range renaming rangeSize->EU,small->J7,rangeFitsLong->VC
open Sum renaming inl->Ff,inr->NM
open Option renaming isSome_iff_exists->FC,isSome_map->KS,map_some->LU,isSome_iff_ne_none->NJ,map_eq_some_iff->O2,getD_none->TH,none->XI
open PySem.Builtin.List renaming listExtendWith->Go,listTooLong->Kn,listLengthHint->M0,listSameRef->N6
open PyProof.Rows.F renaming plain_set_update_loop->GM,entry_set_update_loop->Kx
open PySem.Challenge renaming pw_frontways_k33_whole_rings_and_ways->GY
open True renaming intro->G6
open PySem.Builtin.SmallTypes renaming nextOf->G7
open PySem.Calls renaming call_function_entry->G9,spliced_cons->IC,spliced_nil->KL,Name_function_global->M1,callWith_builtin->O0,evalArgs_plain->P9
open PyProof.Rows.SortSt renaming mk'->IH
open PySem.Str renaming ofString->IY
open PySem.SetTable.layClean renaming free->J4
open PySem.Builtin.Tuple renaming tupleHashOf->J8,tupleExact->N5,tupleCompareSizes->T4,tupleItemsOf->VW
open PySem.SeqAt.EqAt renaming int_int->Kj,same->LO,none_int->Mm,int_none->Mn,int_str->Rs,str_int->RA
open PySem.MeetsSeq renaming plain_remove_loop->K0,entry_remove_loop->S3
open Or renaming inl->K1,inr->MQ
open PySem.SeqAt renaming EqAt->LN,notIn_tupleAt->Q5,notIn_listAt->RY,in_tupleAt->TJ,in_listAt->UB
open PySem.Builtin.Dict_items renaming ownsTuple->ME
open PySem.SetTable.probe renaming go->MG
open Int.ofNat renaming inj->M7
open PySem.Builtin renaming sorted->N4
open PyProof renaming noPylong_small->OU
open PySem.Builtin.Dict renaming showsAll->Pp,dictSlotNone->Wl
open Prod renaming ext->QN
open List.cons renaming inj->Q2
open PySem.Code renaming isFrame->RR,quiet_builtin->R6,frames->XG
open PySem.WalksT renaming enumerateD->SO
open Array.Perm renaming refl->UR
open Eq renaming symm->UY
open PySem.Builtin.Frozenset renaming updateFrom->U8,newClass->VX,sizeOf->W6
open PySem.SeqAt.RcNeAt renaming lists_lengths->VQ,lists->X7
open PySem.W.Looks renaming of_pure->VS,ld->W0,here->X0
open PySem.Shared renaming TypeIs->VU
open PySem.EqNone renaming eq_none_none->V0,eq_none_bool->V1,eq_bool_none->V2,ne_none_none->V5,ne_none_bool->V6,ne_bool_none->V7,eq_none_int->WC,eq_none_str->WE,eq_int_none->WF,eq_str_none->WH,ne_none_int->WJ,ne_none_str->WN,ne_int_none->WO,ne_str_none->WS
open PySem.EqMixed renaming eq_bool_str->V3,eq_str_bool->V4,ne_bool_str->V8,ne_str_bool->V9,eq_int_str->WG,eq_str_int->WI,ne_int_str->WP,ne_str_int->WU
open PySem.pickOrder renaming go->W3
open String.Pos.Raw renaming mk_le_mk->Xs
open PySem.CmpOp renaming NotIn->Xt,In->Ya
open PySem.Walks renaming range->XA,list->XZ
open PySem.IsRange renaming new->XE
open PySem.Moved renaming trans->XN
open PySem.W.WShape renaming has->XY
open PySem.Heap.IsSliceOf renaming new->X4
open PyProof.Rows.IsTup renaming new->X5
open PySem.W.WData renaming int->X6
open PySem.Within renaming cons->X8
open PySem.Heap.DictOfH renaming new->Yf
open PySem.Heap.DictOf renaming new->YA
theorem fv{a b c:Nat}(h0:a<c)(h1:b=c):a<b:=Q9 h0 h1.symm
theorem qj{a b c:Nat}:a<c->c<b->a<b:=Wp
theorem qk{a b:Nat}:(↑a:Int)=(↑b:Int)->a=b:=Int.ofNat_inj.mp
theorem qt{a b:Nat}  : a<=b+a:=Nat.le_add_left a b
theorem qm{a b c:Nat}:a<c->c<=b->a<b:=B9
theorem qg{a b c:Nat}:a+c<b->a<b:=Nat.lt_of_add_right_lt
theorem qf{a b:Nat}:¬b<a->a<=b:=Tb
theorem qF{a b c:Nat}(h0:c=a)(h1:c<=b):a<=b:=le_of_eq_of_le h0.symm h1
theorem rN{a b c:Nat}:a<c->c=b->a<b:=Q9
theorem uk{a b c:Nat}:a+(c+1)=b->a<b:=by lia
theorem qu{a b:Nat}:b<=a->¬a<b:=XX.mpr
theorem qv{a:Nat}  : ¬a<0:=OF a
theorem qi{a b:Nat}  : a<=a+b:=NS a b
theorem qo{a:Nat}  : (0:Int)<=(↑a:Int):=Int.natCast_nonneg a
theorem qw{a b c:Nat}(h0:a<b):a<b+c:=Nat.lt_add_right c h0
theorem um{a b c:Nat}:a<b-c+c->c<=b->a<b:=by lia
theorem qK{a b:Nat}(h0:b=a):a<=b:=NU h0.symm
theorem qy{a b c:Nat}:a+c<=b->a<=b:=Nat.le_of_add_right_le
theorem rB{a:Nat}  : a<a+1:=Nat.lt_add_one a
theorem rC{a:Int}  : (0:Int)+a=a:=WA a
theorem qL{a b:Nat}:a<b->a=b->False:=by lia
theorem qq{a b c:Nat}:a<=c->c<b->a<b:=C1
theorem qO{a b:Nat}:a<b->(↑a:Int)<(↑b:Int):=Rc.mpr
theorem rX{a b:Nat}:(↑a:Int)<(↑b:Int)->a<b:=Rc.mp
theorem tm{a b c:Nat}:a=c->c<=b->a<=b:=le_of_eq_of_le
theorem q5{a b:Nat}:a<b+1->a<=b:=SF
theorem rf{a b:Nat}:a<=b->a+(b-a)=b:=SG
theorem rY{a b:Nat}:a<b->a<=b:=Nat.le_of_succ_le
theorem qI{a b:Nat}  : a-b<=a:=Nat.sub_le a b
theorem tt{a b c d:Nat}:a+(c+b)=d->a+b+c=d:=by lia
theorem rP{a b:Int}:b<=a->¬a<b:=Int.not_lt_of_ge
theorem tu{a b:Nat}:a<b+1->¬a=b->a<b:=by lia
theorem rh{a b c d:Nat}:a+(c+b)<d->a+b+c<d:=by lia
theorem rZ{a:Int}{b:Nat}(h0:(0:Int)<=a)(h1:a<(↑b:Int)):IA a<b:=(Int.toNat_lt h0).mpr h1
theorem rq{a b c:Nat}:a+b+c=a+(c+b):=by lia
theorem rD{a b c:Nat}:a<=b->a<=b+c:=Nat.le_add_right_of_le
theorem tz{a b:Int}:a<b->a<=b:=E3
theorem qr{a b:Nat}:1<=a->a<=b->a-1<b:=Nat.sub_one_lt_of_le
theorem uo{a:Nat}:¬a<=1->2<=a:=by lia
theorem rQ{a:Nat}  : ¬(↑a:Int)<(0:Int):=Int.not_ofNat_neg a
theorem rE{a b:Nat}:a=b->a<=b:=by lia
theorem r8{a:Nat}:a<2->a<=1:=SF
theorem rF{a b:Nat}:a<=b->¬a<b->a=b:=by lia
theorem se{a:Nat}  : 0<a+1:=NV a
theorem uq{a b c:Nat}:b-a=c+1->a<b:=by lia
theorem ur{a b c d:Nat}:a-b=d+c->a-(b+c)=d:=by lia
theorem sf{a:Nat}:1<=a->a-1<a:=Nat.sub_one_lt_of_lt
theorem sg{a b:Nat}:a+2<b->a+1+1<b:=by lia
theorem rG{a:Nat}  : a<=a:=AH a
theorem tD{a b c:Nat}:a<c->a-b<c:=Nat.sub_lt_of_lt
theorem rH{a b:Nat}:a<=b->¬b=a->a+1<=b:=by lia
theorem sj{a b:Nat}:¬b<=a->a<b:=Nat.lt_of_not_le
theorem tF{a:Nat}  : 0<a+2:=NV (a+1)
theorem sk{a:Nat}  : 0<=a:=BD a
theorem ut{a b:Int}(h0:b<a):a≠b:=CB (Int.ne_of_lt h0)
theorem rR{a b c:Nat}:a<=c->c<=b->a<=b:=BQ
theorem sq{a:Nat}  : ¬a<a:=EF a
theorem uw{a b:Nat}:a<=b->b-a=0->a=b:=by lia
theorem rJ{a b:Nat}:a<b->a<=b-1:=Nat.le_sub_one_of_lt
theorem rK{a:Nat}:¬a=0->1<=a:=Nat.one_le_iff_ne_zero.mpr
theorem rA{a b:Nat}:a<b->¬a+1=b->a+1<b:=Re
theorem tG{a b c:Nat}(h0:a<c):a+b<c+b:=Nat.add_lt_add_right h0 b
theorem rS{a b:Nat}(h0:b<a):a-(b+1)<a-b:=Nat.sub_succ_lt_self a b h0
theorem tH{a b c:Nat}:a-(b+c)=a-c-b:=by lia
theorem tI{a:Nat}:a<=4100->a<=100000:=by lia
theorem sM{a b c:Nat}:a<min b c->a<b:=by lia
theorem ux{a:Nat}:2<=a->¬a<=1:=Nat.not_le_of_lt
theorem rL{a b c d:Nat}:a+d<=c->b<d->a+b<c:=by lia
theorem tJ{a b c:Nat}(h0:a<=c):a+b<=c+b:=LG h0 b
theorem uy{a b c:Nat}:a=c->c<b->a<b:=lt_of_eq_of_lt
theorem sN{a b c:Nat}(h0:a<c+b)(h1:b<=a):a-b<c:=Nat.sub_lt_right_of_lt_add h1 h0
theorem tK{a:Nat}  : 1<a+2:=Nat.one_lt_succ_succ a
theorem sO{a b:Nat}:a >= b->¬a<b:=XX.mpr
theorem sP{a b c:Nat}(h0:c<b)(h1:c=a):a<b:=lt_of_eq_of_lt h1.symm h0
theorem tL{a:Nat}:a<=1->a=0\/a=1:=Nat.le_one_iff_eq_zero_or_eq_one.mp
theorem tM{a b:Nat}:a<=b->a<b+1:=Nat.lt_succ_of_le
theorem sQ{a:Nat}:a<2->a=0\/a=1:=by lia
theorem rM{a b:Int}:¬b<=a->a<b:=Int.lt_of_not_ge
theorem tN{a b c:Nat}:a<=c->a-b<=c:=by lia
theorem tO{a b c:Nat}:a<b+1-c->a<=b-c:=by lia
theorem sR{a b:Nat}:a<=b->¬a=b->a<b:=Re
theorem tP{a b:Nat}:a<=b->a >= b->a=b:=Nat.le_antisymm
theorem rT{a b c:Nat}:b<=a/\a<b+c->a-b<c:=by lia
theorem rV{a:Nat}:a >= 2->¬a<=1:=by lia
theorem uz{a b c:Nat}:a<min c b->a<b:=by lia
theorem uA{a b c d:Nat}:a=c-d->c<=b+d->a<=b:=by lia
theorem uB{a b:Nat}:a≠0->a<=b->a-1<b:=by lia
theorem uC{a b c:Nat}:a<=b->c<a->a-1<b:=by lia
theorem tQ{a:Nat}  : a*2=a+a:=Nat.mul_two a
theorem uD{a b c:Nat}:a<c-2+2->c<b+1->¬c<=1->a<b:=by lia
theorem uE{a b c d e:Nat}:c<d->c=e->d=e->a=b:=by lia
theorem uF{a b c:Nat}:b<=a->¬b+c<a->¬b+c=a->a-b<c:=by lia
theorem uG{a:Nat}:a<=10->(↑a:Int)<=(1000:Int):=by lia
theorem tR{a b c d e:Nat}:d+e<=c->d=a->e=b->a+b<=c:=by lia
theorem uH{a b:Nat}:b<=a->a-(a-b)=b:=Th
theorem tT{a b:Nat}:b<=a->a-b+b=a:=Nat.sub_add_cancel
theorem sT{a b:Nat}:2<=a->a<=b->a-1<b:=by lia
theorem sU{a b:Nat}(h0:a<b):0+a<b:=(Nat.add_lt_of_lt_sub' h0)
theorem uI{a b:Nat}:a<b+1->a≠0->a-1<b:=by lia
theorem uJ{a b:Nat}:a+1<=b->a<b:=Nat.lt_of_succ_le
theorem sV{a b c:Nat}(h0:a<b+c)(h1:b<=a):a-b<c:=Nat.sub_lt_left_of_lt_add h1 h0
theorem sX{a b c:Nat}:c+a<=b->a<=b-c:=Nat.le_sub_of_add_le'
theorem sY{a b c:Nat}:a+c<=b->a+(b-a)=b:=by lia
theorem uL{a:Nat}  : 0+a=a:=Kb a
theorem uM{a:Nat}  : ¬a>a:=EF a
theorem tU{a b:Int}:b<a->¬a<b:=Int.lt_asymm
theorem uN{a b c d:Nat}:(↑a:Int)-(↑c:Int)=(↑d:Int)->a<b+(c+1)->¬b=d->a<b+c:=by lia
theorem uO{a b c d e:Nat}:(↑b:Int)-(↑c:Int)=(↑d:Int)->a=e->e<d->a<=b:=by lia
theorem uP{a b:Nat}:a<=b->a<IA ((↑b:Int)+(1:Int)-(2:Int))+(2:Nat):=by lia
theorem uQ{a b c d:Nat}:a<c-d+d->c<=b->d<=c->a<=b:=by lia
theorem uR{a b:Nat}:2<=b->a<b+IA ((↑a:Int)-(1:Int)):=by lia
theorem tV{a:Int}{b:Nat}{c:Int}:(0:Int)<=c->a<(↑b:Int)->c<(↑b:Int)->IA a<b:=by lia
theorem tW{a b c:Nat}  : a+(b+c)=a+b+c:=UY (Nat.add_assoc a b c)
theorem uT{a:Nat}  : a+1≠0:=CB (Nat.zero_ne_add_one a)
theorem uU{a b c d:Nat}:a+(c+b)=d->a+b+(c+b-b)=d:=by lia
theorem tX{a b c:Nat}:a<c->c<=b->a<=b:=by lia
theorem tY{a:Nat}:a<=12->a<=1000:=by lia
theorem uV{a:Int}:a<=(1000:Int)->IA a<=(1000:Nat):=Int.toNat_le.mpr
theorem t5{a b c:Nat}:a<=c+1->c<b->a<=b:=by lia
theorem t6{a b c d e:Nat}:a+e<=d->b<e->a+b-c<d:=by lia
theorem uW{a b:Nat}:a<b->min a b=a:=by lia
theorem uX{a b c d e:Nat}:a+3*(c+b)+d<e->a+b+3*c+d<e:=by lia
theorem uY{a b c:Nat}:c<b->c=a->a<=b:=by lia
theorem t8{a b:Int}:b<=a->-a<=-b:=Int.neg_le_neg
theorem sZ{a:Nat}:2<=a->1<=a:=by lia
theorem t9{a:Nat}:2<=a->¬a-1=1->2<=a-1:=by lia
theorem uZ{a b:Nat}(h0:a<b+1)(h1:b<=a):a=b:=Nat.eq_of_le_of_lt_succ h1 h0
theorem uc{a b c d:Nat}:a<=b+d->a<=b+c+d:=by lia
theorem ud{a b c:Nat}:a=c->¬b<c->a<=b:=by lia
theorem ue{a b c d:Nat}:a<b+d->d<=c->a<b+c:=by lia
theorem uf{a b c d:Nat}:a<c-d+d->c<b+1->c >= d->a<b:=by lia
theorem u3{a b:Nat}:¬a<=b->¬a<b:=by lia
theorem u4{a b:Nat}:¬a<=b->¬a=b:=by lia
theorem ug{a b c d:Nat}:a<=c->c=b-1->d<b->a+1<=b:=by lia
theorem u5{a:Nat}:1<=a->(1:Int)<=(↑a:Int):=by lia
theorem uh{a b c d:Nat}:b=min (c-a) d->¬a >= c->a+b<=c:=by lia
theorem u6{a:Nat}:(↑a:Int)+(1:Int)=(↑(a+(1:Nat)):Int):=by lia
theorem ui{a b c:Nat}:a<b-c+c->c<=b->a+1+(b-a-1)=b:=by lia
theorem u7{a b c:Nat}:b<a->¬(a<=b/\b<c):=by lia
theorem u8{a b c:Nat}:a<b+(c+1)->¬a<b+c->a=b+c:=Nat.eq_of_lt_succ_of_not_lt
theorem u9{a b c:Nat}(h0:c<=b):a-b<=a-c:=Nat.sub_le_sub_left h0 a
theorem va{a b:Nat}:¬a+b<b:=by lia
theorem vb{a b c:Nat}(h0:b<c):a+b<a+c:=Nat.add_lt_add_left h0 a
theorem vc{a b:Nat}:a<=b->(↑a:Int)-(↑b:Int)<=(0:Int):=by lia
theorem vd{a b:Int}:a<(0:Int)->max (0:Int) (min (a+b) b)=(↑(IA (a+b)):Int):=by lia
theorem ve{a:Int}{b:Nat}:max (0:Int) (min a (↑b:Int))=(↑(min (IA a) b):Int):=by lia
theorem vf{a b c:Nat}:b<=a->c<=b->a-(b-c)=a-b+c:=by lia
theorem vg{a b:Nat}(h0:a<=b):a=b-(b-a):=UY (Th h0)
theorem vh{a b:Nat}:a<b-1+(b-(b-1))->b-1<=a->a=b-1:=by lia
theorem vi{a b c:Nat}(h0:b<=c)(h1:c<=a):a-b=a-c+(c-b):=UY (Nat.sub_add_sub_cancel h1 h0)
theorem vj{a b c:Nat}:a<c+(b-c)->c<=b->a<b:=by lia
theorem vk{a b c d e:Nat}:a+c+d<=e->b<=a->a-b+c+(d+b)<=e:=by lia
theorem vn{a b c d:Nat}:2<=b->a+b+c<=d->a+(b-1)+(c+1)<=d:=by lia
theorem vo{a b c d e:Nat}:a+c+d<=e->a-b+c+d<=e:=by lia
theorem vp{a b:Nat}:a<b->0+a<=b:=by lia
theorem vq{a b c:Nat}:a<c->¬c-b>0->a<b:=by lia
theorem vt{a b:Nat}:a<=b->0+a<=b:=by lia
theorem vw{a b c d:Nat}:a<=c+d->a+b<=c+(d+b):=by lia
theorem vx{a b c d:Nat}:a<=c+d->a+b<=c+b+d:=by lia
theorem vy{a b:Nat}:a<b->a+1+(b-(a+1))<=b:=by lia
theorem vA{a b c:Nat}:a<=b->b<c->a+(b-a)<c:=by lia
theorem vB{a b c d:Nat}:a<c->b+d<=a->a-b<c-b:=by lia
theorem vC{a b c d:Nat}:a+d<=b->b<c->a+(b-a)<c:=by lia
theorem vD{a:Nat}:¬a>0->a=0:=Nat.eq_zero_of_not_pos
theorem vE{a b c:Nat}:a+c<b->a+(b-a)<=b:=by lia
theorem vF{a b:Nat}:a<=b->a+0<=b:=Xs.mp
theorem vG{a b c d:Nat}:a<b+c->b+d<=a->a-b<c:=by lia
theorem vH{a b c d:Nat}:a<c->d<b->d=c->a<b:=by lia
theorem vI{a b c d e:Nat}:a+d<=e->b<=d->c=e->a+b<=c:=by lia
theorem vJ{a b c d:Nat}:b<d->d=c->a+b<a+c:=by lia
theorem vK{a b c d e:Nat}:c=a+d-e->¬(e<=b/\b<e+c)->¬b<e->a<=b:=by lia
theorem vL{a b:Nat}:a=b->¬b=0->1<=a:=by lia
theorem vM{a:Nat}:2<=a->a<=1->False:=by lia
theorem vN{a b c:Nat}:b<=c->c<a->a≠b:=by lia
theorem vO{a b:Nat}(h0:b+1<=a):a≠b:=CB (BM h0)
theorem vP{a b c d:Nat}:a-d<=c+1->d<b->a-b<=c:=by lia
theorem vQ{a b c:Nat}:b<=c->¬a >= b->a+(b-a) / 2<c:=by lia
theorem vR{a b c d:Nat}:a<=b->b-a<=c-max d c->a=b:=by lia
theorem vS:(0:Nat)<(1:Nat):=by lia
theorem vT{a:Nat}:0+a<=a:=by lia
theorem vU{a b c:Nat}:¬b >= c-a->a+b<c:=by lia
theorem vV{a:Nat}:a<2*a+1:=by lia
theorem vW{a b c:Nat}:a<=c->a+b<=2*c+b:=by lia
theorem vX{a:Int}{b c:Nat}:(0:Int)<=a/\a<(↑c:Int)->b=c->IA a<b:=by lia
theorem vY{a b c:Int}:a<c->c<=b->a<=b:=by lia
theorem vZ{a b c d e f g:Nat}:a<=c->b<=e->e<=f->e<g->d=min f g->a+b<=c+d:=by lia
theorem v5{a b:Nat}:a>b->a-2<a:=by lia
theorem v6{a:Nat}:a>1->a-2+1<a:=by lia
theorem v7{a b c d:Nat}:a<=c->b<=d->a+b<=c+d:=Nat.add_le_add
theorem v8{a b c:Nat}:b<=c-a->¬a >= c->a+b<=c:=by lia
theorem v9{a b c:Nat}(h0:c >= a):a+b<=c+b:=LG h0 b
theorem wa{a b:Nat}(h0:b<=a):a=b+(a-b):=UY (SG h0)
theorem wb{a b c d:Nat}:b<min d (c-a)->a+b<c:=by lia
theorem wc{a b c d:Nat}:a+d<=c->b>1->b<=d->a+b-1<c:=by lia
theorem wd{a b:Nat}:1+1<=b->a+b-1<a+b:=by lia
theorem rW{a:Nat}:a<=4096->a<=10000:=by lia
theorem tj{a b:Nat}:b<a->¬a<b+1:=by lia
theorem uj{a b c d:Nat}:b=a->b<=min c d->d<=4096->a<=10000:=by lia
theorem we{a:Nat}:a<=10->(↑a:Int)<=(10:Int):=by lia
theorem wg{a b c d:Nat}:a=c-d->c<=b->a<=b:=by lia
theorem wj{a:Nat}{b:Int}:a<IA b->(↑a:Int)<b:=by lia
theorem wk{a:Nat}{b:Int}{c:Nat}:a<c->c<IA b->(↑a:Int)<b:=by lia
theorem wm{a b c:Nat}:b<=a/\a<c->¬a<b:=by lia
theorem wo{a b c d:Nat}:c=b->d<=a/\a<c->a<b:=by lia
theorem wq{a b c d:Nat}:a<b->b=c->c<=a/\a<d->False:=by lia
theorem wt{a:Int}:(3:Int)+a%(5:Int)<=(10:Int):=by lia
theorem wu{a:Int}:(2:Int)+a%(9:Int)<=(10:Int):=by lia
theorem ww{a:Nat}:2<=a->(↑a:Int)≠(0:Int):=by lia
theorem wx{a:Nat}:2<=a->(0:Int)<(↑a:Int):=by lia
theorem wz{a:Nat}:2<=a->(0:Int)<(↑a:Int)-(1:Int):=by lia
theorem wA{a b:Nat}:a=b->b<=10->a<=11:=by lia
theorem wB{a b:Nat}:a=b->b<=10000->a<=16777216:=by lia
variable{a b d f it D l p C dx fa S fP fA fC fS I fR fI fK fT Gc fB da fG fX fE fW:PySem.Addr}{c e tg aI dv:PySem.Expr}{us vs ah its':List As}{x name qual q:PySem.Str}{u cd bg pm a6 ct oc dc:As}{o ob:PySem.Obj}{P prog:AK}{w:AQ}{h h' base:PySem.Heap}{α β:Type}{ae:List (PySem.Addr×PySem.Obj)}{s s':AA}{g':Array To}{t' i j M n lo hi tk k' m z ep hd kl kr i' a7 ia ib ac bc na nb sa l':Nat}{ch fp wr:List PySem.Addr}{A:BO}{E Q:As->AA->Prop}{pos a9 oA bv p2 br tp p1 ip:PySem.Pos}{op:Uf}{K:Au}{st ar bm:BA}{es db fc:List PySem.Expr}{body:List PySem.Stmt}{R ss L R':List qE}{pl fi:Nat->qP}{mA mg:PySem.Str->Option As}{ns ms hs:qC}{fd ft ff fdC du gm ie om cS mY mI fdX fdE fdW:BI}{ps cE own fr:List PySem.Str}{sc scope:ES}{an od:Option PySem.Addr}{jI sl:Array (Option As)}{T:String}{items:Array As}{vals:Nat->qC×PySem.Addr}{YP:AQ->PySem.Heap->Prop}{B:As->As->As->Option PySem.Addr->As->As->List As->PySem.Sem (List (PySem.Str×As))}{ix rc ly:qE}{tn:Nat->PySem.Heap->Prop}{as:qD}{κ:Eg}{ks:List (qC×PySem.Addr)}{owner:Array qP}{hashes:Array Int}{a₀ arr out gv:Array AE}{left:Bool}
namespace L2
inductive E1 {α0:Type} (p:α0->Prop):Prop
 | mk (a0:α0) (h:p a0):E1 p
inductive E2 {α0 α1:Type} (p:α0->α1->Prop):Prop
 | mk (a0:α0) (a1:α1) (h:p a0 a1):E2 p
inductive E4 {α0 α1 α2 α3:Type} (p:α0->α1->α2->α3->Prop):Prop
 | mk (a0:α0) (a1:α1) (a2:α2) (a3:α3) (h:p a0 a1 a2 a3):E4 p
inductive E5 {α0 α1 α2 α3 α4:Type} (p:α0->α1->α2->α3->α4->Prop):Prop
 | mk (a0:α0) (a1:α1) (a2:α2) (a3:α3) (a4:α4) (h:p a0 a1 a2 a3 a4):E5 p
inductive A2 (p0 p1:Prop):Prop
 | mk (h0:p0) (h1:p1):A2 p0 p1
inductive A3 (p0 p1 p2:Prop):Prop
 | mk (h0:p0) (h1:p1) (h2:p2):A3 p0 p1 p2
inductive A4 (p0 p1 p2 p3:Prop):Prop
 | mk (h0:p0) (h1:p1) (h2:p2) (h3:p3):A4 p0 p1 p2 p3
inductive A5 (p0 p1 p2 p3 p4:Prop):Prop
 | mk (h0:p0) (h1:p1) (h2:p2) (h3:p3) (h4:p4):A5 p0 p1 p2 p3 p4
inductive A6 (p0 p1 p2 p3 p4 p5:Prop):Prop
 | mk (h0:p0) (h1:p1) (h2:p2) (h3:p3) (h4:p4) (h5:p5):A6 p0 p1 p2 p3 p4 p5
end L2
namespace L2
open PySem PySem.Spec PyProof.Rows
abbrev Key:=Sum Int Str
def keyIs:Key->As->Bool
 | .inl k,v=>ML k v
 | .inr x,v=>VI x v
def keyH(w:AQ):Key->Int
 | .inl k=>hashInt k
 | .inr x=>hashStr w x
theorem Bl:∀{k:Key}{v:As},keyIs k v=true->(∃i t,k=Ff i/\v=MM i t)\/(∃x t,k=NM x/\v=X3 x t)
 | .inl i,v,h=>by
  obtain⟨t,e⟩:=FM (k:=i) (v:=v) h;exact .inl ⟨i,t,rfl,e⟩
 | .inr x,v,h=>by
  obtain⟨t,e⟩:=Value.isStrOf_shape (x:=x) (v:=v) h;exact .inr ⟨x,t,rfl,e⟩
theorem Yq(i:Int)(t:Tok):keyIs (.inl i) (.int i t)=true:=by simp[keyIs,ML]
theorem YZ(x:Str)(t:Tok):keyIs (.inr x) (.str x t)=true:=by simp[keyIs,VI]
theorem AEu(a b:Int):decide ((Ff a:Key)=Ff b)=(a==b):=by
 by_cases e:a=b
 .subst e;simp
 .have h:¬ (Ff a:Key)=Ff b:=λq=>e (Sum.inl.inj q)
  rw[p8 h];exact(beq_eq_false_iff_ne.mpr e).symm
theorem AEM(a b:Str):decide ((NM a:Key)=NM b)=decide (a=b):=by
 by_cases e:a=b
 .subst e;simp
 .have h:¬ (NM a:Key)=NM b:=λq=>e (Sum.inr.inj q)
  rw[p8 h,p8 e]
theorem AEq(a:Int)(b:Str):decide ((Ff a:Key)=NM b)=false:=p8 (λq=>nomatch q)
theorem ADv(a:Str)(b:Int):decide ((NM a:Key)=Ff b)=false:=p8 (λq=>nomatch q)
def Bm(prog:AK)(w:AQ):PySem.KeyKind prog w Key where
 is:=keyIs
 hash:=keyH w
 inj:=λv a b ha hb=>by
  rcases Bl ha with⟨i,t,rfl,rfl⟩| ⟨x,t,rfl,rfl⟩
  .rcases Bl hb with⟨j,u,rfl,e⟩| ⟨y,u,rfl,e⟩
   .injection e with e1 _;rw[e1]
   .exact nomatch e
  .rcases Bl hb with⟨j,u,rfl,e⟩| ⟨y,u,rfl,e⟩
   .exact nomatch e
   .injection e with e1 _;rw[e1]
 byValue:=λk v h=>by
  rcases Bl h with⟨i,t,rfl,rfl⟩| ⟨x,t,rfl,rfl⟩<;>rfl
 pyHash:=λhv h=>by
  rcases Bl hv with⟨i,t,rfl,rfl⟩| ⟨x,t,rfl,rfl⟩
  .exact Tk h
  .exact wpAny_pyHash_str h
 eqBool:=λhu hv h=>by
  rcases Bl hu with⟨i,t,rfl,rfl⟩| ⟨x,t,rfl,rfl⟩
  .rcases Bl hv with⟨j,u,rfl,rfl⟩| ⟨y,u,rfl,rfl⟩
   .rw[AEu] at h;exact Tl h
   .rw[AEq] at h;exact Rs i t y u _ _ _ _ h
  .rcases Bl hv with⟨j,u,rfl,rfl⟩| ⟨y,u,rfl,rfl⟩
   .rw[ADv] at h;exact RA x t j u _ _ _ _ h
   .rw[AEM] at h;exact wpAny_eqBool_str h
 «strs»:=λk x t v h=>by
  rcases Bl h with⟨i,u,rfl,e⟩| ⟨y,u,rfl,e⟩
  .exact nomatch e
  .injection e with e1 _
   subst e1;cases v<;>rfl
theorem SQ(prog:AK)(w:AQ)(i:Int)(t:Tok):(Bm prog w).is (.inl i) (.int i t)=true:=Yq i t
theorem Rh(prog:AK)(w:AQ)(x:Str)(t:Tok):(Bm prog w).is (.inr x) (.str x t)=true:=YZ x t
inductive V where
 | non| bl (b:Bool)| int (i:Int)| str (x:Str)| byt (b:Array UInt8)| flt (b:UInt64)| ref (a:Addr)| ty (n:String)
 deriving DecidableEq
variable{xs:List L2.V}{v y:L2.V}
def RelV:V->As->Prop
 | .non,u=>u=CY
 | .bl b,u=>u=JO b
 | .int i,u=>∃t,u=MM i t
 | .str x,u=>∃t,u=X3 x t
 | .byt b,u=>∃t,u=Value.bytes b t
 | .flt b,u=>∃t,u=Value.float b t
 | .ref a,u=>u=AW a
 | .ty n,u=>u=DS n
abbrev Vals:List V->List As->Prop:=A7 RelV
theorem Vals.length(r:Vals xs us):xs.length=us.length:=AT r
theorem Vals.get:∀{xs:List V}{us:List As}{i:Nat}{x:V},Vals xs us->xs[i]?=pX x->∃u,us[i]?=pX u/\RelV x u
 | _,_,_,_,.nil,e=>by simp at e
 | _,_,0,_,.cons r _,e=>by simp at e;subst e;exact⟨_,rfl,r⟩
 | _,_,i+1,x,.cons _ t,e=>by
  obtain⟨u,h1,h2⟩:=Vals.get (i:=i) (x:=x) t (by simpa using e);exact⟨u,by simpa using h1,h2⟩
theorem Vals.set{x:V}(r:RelV x u):∀{xs:List V}{us:List As} (i:Nat),Vals xs us->Vals (xs.set i x) (us.set i u)
 | _,_,_,.nil=>.nil
 | _,_,0,.cons _ t=>.cons r t
 | _,_,i+1,.cons q t=>.cons q (Vals.set r i t)
theorem Vals.append:∀{xs ys:List V}{us ws:List As},Vals xs us->Vals ys ws->Vals (xs++ys) (us++ws)
 | _,_,_,_,.nil,s=>s
 | _,_,_,_,.cons r t,s=>.cons r (Vals.append t s)
theorem Vals.take:∀{xs:List V}{us:List As} (n:Nat),Vals xs us->Vals (xs.take n) (us.take n)
 | _,_,0,_=>.nil
 | _,_,_+1,.nil=>.nil
 | _,_,n+1,.cons r t=>.cons r (Vals.take n t)
theorem Vals.drop:∀{xs:List V}{us:List As} (n:Nat),Vals xs us->Vals (xs.drop n) (us.drop n)
 | _,_,0,r=>r
 | _,_,_+1,.nil=>.nil
 | _,_,n+1,.cons _ t=>Vals.drop n t
def RelO:Option V->Option As->Prop
 | some v,pX u=>RelV v u
 | none,pY=>True
 | _,_=>False
def KV{κ:Type}:List (κ×V)->List (κ×As)->Prop:=A7 λ(p:κ×V) (q:κ×As)=>p.1=q.1/\RelV p.2 q.2
def kV:Key->V
 | .inl i=>.int i
 | .inr x=>.str x
inductive HO where
 | lst (xs:List V)
 | tup (xs:List V)
 | dK (ag:List (Key×V))| dT (ag:List (List Key×V))
 | set (S:Int->Bool) (n:Nat)
 | ins (C dx:Addr) (fs:List (Str×V))
 | own (x:Addr)
 | xd (fs:List (Str×V))
 | met (f x:Addr)
 | rng (lo hi:Int)
 | frz (o:Obj) (u:HO)
 | tbl (ps:Array As)
 | ext (φ:Heap->Prop)
abbrev Hp:=Addr->Option HO
variable{H H':L2.Hp}
def upd(H:Hp)(a:Addr)(o:HO):Hp:=λb=>if b=a then pX o else H b
theorem Ab{o:HO}:upd H a o a=pX o:=by unfold upd;rw[p6 rfl]
theorem Ae{o:HO}(h:b≠a):upd H a o b=H b:=by unfold upd;rw[pZ h]
theorem Ge{o u:HO}:upd (upd H a o) a u=upd H a u:=by
 funext b;unfold upd;split<;>rfl
theorem Cj{o u:HO}(h:H a=pX o)(h':H b=pX u)(d:o≠u):a≠b:=by
 intro e;subst e;rw[h] at h';exact d (A8 h')
theorem Ac{o:HO}(h:H a=pX o)(h':H b=pY):a≠b:=by
 intro e;subst e;rw[h] at h';cases h'
section
variable (P:AK)(w:AQ)
def ObjOk(H:Hp)(h:Heap)(a:Addr):HO->Prop
 | .lst xs=>xs.length<=sizeLine/\∃(ah:List As) (n:Nat),Vals xs ah/\h.get? a=pX {cls:=.type "list",data:=.seq ah.toArray n}
 | .tup xs=>xs.length<=sizeLine/\∃ah:List As,Vals xs ah/\SC h a ah.toArray
 | .dK ag=>ag.length<=sizeLine/\(a==DT)=false/\∃vs,KV ag vs/\h.DictOf (Bm P w) a vs
 | .dT ag=>ag.length<=sizeLine/\(a==DT)=false/\∃xs:List (List Key×Addr×As),
   A7 (λ(p:List Key×V) (q:List Key×Addr×As)=>p.1=q.1/\H q.2.1=pX (.tup (p.1.map kV))/\RelV p.2 q.2.2) ag xs /\
   ∃o es ep,h.get? a=pX o/\o.ExactDict/\o.data=.dict es ep/\es.toList=xs.map (entryOfKey (MO (Bm P w)))/\(xs.map (·.1)).Nodup
 | .set S n=>h.SetOf (KA P w) a S n
 | .ins C dx fs=>H dx=pX (.own a)/\fs.length<=1000/\dx≠a/\h.get? a=pX (EZ C dx) /\
   ∃mA,h.Ns1 dx mA/\(∀f,RelO (fs.lookup f) (mA f))/\RC mA (fs.map (·.1))
 | .own _=>∃o,h.get? a=pX o
 | .xd fs=>∃mA,h.Ns1 a mA/\∀f,RelO (fs.lookup f) (mA f)
 | .rng lo hi=>∃t u v,h.get? a=pX {cls:=.type "range",data:=.fields #[.int lo t,.int hi u,.int 1 v]}
 | .frz o u=>h.get? a=pX o/\ObjOk H h a u
 | .tbl ps=>h.get? a=pX {cls:=.none,data:=.fields ps}
 | .met f x=>h.get? a=pX (PySem.W.methodObj (.ref f) (.ref x))
 | .ext φ=>φ h/\(∃o,h.get? a=pX o)/\∀h1 h2:Heap,φ h1->(∀o,h1.get? a=pX o->h2.get? a=pX o)->φ h2
def HOk(H:Hp)(h:Heap):Prop:=∀a o,H a=pX o->ObjOk P w H h a o
end
section
variable{o:HO}
theorem ObjOk.lt(x:ObjOk P w H h a o):a<h.objs.size:=by
 cases o with
 | lst xs=>obtain⟨_,_,_,_,e⟩:=x;exact Be e
 | tup xs=>obtain⟨_,_,_,p⟩:=x;exact p.lt
 | dK ag=>obtain⟨_,_,_,_,o,_,_,e,_⟩:=x;exact Be e
 | dT ag=>obtain⟨_,_,_,_,o,_,_,e,_⟩:=x;exact Be e
 | set S n=>obtain⟨o,_,_,_,e,_⟩:=x;exact Be e
 | ins C dx fs=>obtain⟨_,_,_,e,_⟩:=x;exact Be e
 | own y=>obtain⟨_,e⟩:=x;exact Be e
 | xd fs=>obtain⟨_,⟨_,_,_,e,_⟩,_⟩:=x;exact Be e
 | rng lo hi=>obtain⟨_,_,_,e⟩:=x;exact Be e
 | frz ob u=>obtain⟨e,_⟩:=x;exact Be e
 | tbl ps=>exact Be x
 | met f y=>exact Be x
 | ext φ=>obtain⟨_,⟨_,e⟩,_⟩:=x;exact Be e
theorem qR{F G:α->β->Prop}:∀{l₁:List α}{l₂:List β},A7 F l₁ l₂->(∀a b,F a b->G a b)->A7 G l₁ l₂
 | _,_,.nil,_=>.nil
 | _,_,.cons r t,f=>.cons (f _ _ r) (qR t f)
theorem ObjOk.stay(x:ObjOk P w H h a o)(k:∀b u,(b=a\/H b=pX (.own a))->h.get? b=pX u->h'.get? b=pX u)
  (ho:∀b,H b=pX (.own a)->H' b=pX (.own a)) (ht:∀b xs,H b=pX (.tup xs)->H' b=pX (.tup xs)):ObjOk P w H' h' a o:=by
 induction o with
 | lst xs=>obtain⟨z,ah,n,r,e⟩:=x;exact⟨z,ah,n,r,k _ _ (.inl rfl) e⟩
 | tup xs=>obtain⟨z,ah,r,ob,e,c⟩:=x;exact⟨z,ah,r,ob,k _ _ (.inl rfl) e,c⟩
 | dK ag=>obtain⟨z,y,vs,r,ob,es,ep,e,c⟩:=x;exact⟨z,y,vs,r,ob,es,ep,k _ _ (.inl rfl) e,c⟩
 | dT ag =>
  obtain⟨z,y,xs,r,ob,es,ep,e,c⟩:=x;exact⟨z,y,xs,qR r λp q z=>⟨z.1,ht _ _ z.2.1,z.2.2⟩,ob,es,ep,k _ _ (.inl rfl) e,c⟩
 | set S n=>obtain⟨ob,es,ep,t,e,c⟩:=x;exact⟨ob,es,ep,t,k _ _ (.inl rfl) e,c⟩
 | ins C dx fs =>
  obtain⟨d,z,ne,e,mA,⟨od,es,ep,e2,c⟩,r⟩:=x;exact⟨ho _ d,z,ne,k _ _ (.inl rfl) e,mA,⟨od,es,ep,k _ _ (.inr d) e2,c⟩,r⟩
 | own y=>obtain⟨ob,e⟩:=x;exact⟨ob,k _ _ (.inl rfl) e⟩
 | xd fs=>obtain⟨mA,⟨od,es,ep,e,c⟩,r⟩:=x;exact⟨mA,⟨od,es,ep,k _ _ (.inl rfl) e,c⟩,r⟩
 | rng lo hi=>obtain⟨t,u,v,e⟩:=x;exact⟨t,u,v,k _ _ (.inl rfl) e⟩
 | frz ob u ih=>obtain⟨e,q⟩:=x;exact⟨k _ _ (.inl rfl) e,ih q⟩
 | tbl ps =>
  have e:=x;exact k a _ (.inl rfl) e
 | met f y =>
  have e:=x;exact k a _ (.inl rfl) e
 | ext φ=>obtain⟨p,⟨o,e⟩,st⟩:=x;exact⟨st _ _ p λo q=>k _ _ (.inl rfl) q,⟨o,k _ _ (.inl rfl) e⟩,st⟩
theorem HOk.lt(x:HOk P w H h)(e:H a=pX o):a<h.objs.size:=(x a o e).lt
theorem HOk.fresh(x:HOk P w H h)(e:h.objs.size<=a):H a=pY:=by
 cases q:H a with
 | none=>rfl
 | some u=>exact qB (B9 (x.lt q) e) (EF _)
theorem HOk.kept(x:HOk P w H h)(k:∀b u,h.get? b=pX u->h'.get? b=pX u):HOk P w H h':=λa o e =>
 (x a o e).stay (λb u _ q=>k b u q) (λ_ q=>q) λ_ _ q=>q
theorem HOk.laid(x:HOk P w H h)(k:∀b u,h.get? b=pX u->h'.get? b=pX u)(hp:h.objs.size<=a)(new:ObjOk P w (upd H a o) h' a o):HOk P w (upd H a o) h':=λb u e=>by
 have hn:=x.fresh hp;by_cases hb:b=a
 .subst hb;rw[Ab] at e;cases e;exact new
 .rw[Ae hb] at e
  exact(x b u e).stay (λc v _ q=>k c v q) (λc q=>by rw[Ae (Ac q hn)];exact q) λc xs q=>by rw[Ae (Ac q hn)];exact q
end
def Rd(H:Hp)(a:Addr)(u:HO):Prop:=H a=pX u\/∃o,H a=pX (.frz o u)
theorem Rd.ok{u:HO}(r:Rd H a u)(x:HOk P w H h):ObjOk P w H h a u:=by
 rcases r with r| ⟨o,r⟩
 .exact x a u r
 .obtain⟨_,q⟩:=x a _ r
  exact q
def Mut:Option HO->Prop
 | some (.lst _)=>True
 | some (.dK _)=>True
 | some (.dT _)=>True
 | some (.set _ _)=>True
 | some (.ins _ _ _)=>True
 | some (.ext _)=>True
 | _=>False
section
variable{x e:Addr}{o':HO}
theorem HOk.write(ok:HOk P w H h)(mu:Mut (H x))(he:e=x\/H e=pX (.own x))(k:∀b u,b≠e->h.get? b=pX u->h'.get? b=pX u)(m7:∃u,h'.get? e=pX u)
  (new:ObjOk P w (upd H x o') h' x o'):HOk P w (upd H x o') h':=λb u q=>by
 have n9:∀c y,H c=pX (.own y)->c≠x:=λc y r z=>by subst z;rw[r] at mu;exact mu
 have ntup:∀c xs,H c=pX (.tup xs)->c≠x:=λc xs r z=>by subst z;rw[r] at mu;exact mu
 by_cases hb:b=x
 .subst hb;rw[Ab] at q;cases q;exact new
 .rw[Ae hb] at q
  by_cases hbe:b=e
  .have q':H b=pX (.own x):=by
    rcases he with z| z
    .exact qB (hbe.trans z) hb
    .rw[hbe];exact z
   rw[q] at q';cases q';obtain⟨v,hv⟩:=m7;exact⟨v,by rw[hbe];exact hv⟩
  .refine(ok b u q).stay (λc v hc r=>k c v ?_ r) (λc r=>by rw[Ae (n9 c b r)];exact r) λc xs r=>by rw[Ae (ntup c xs r)];exact r
   rcases hc with rfl| hc
   .exact hbe
   .rintro rfl
    rcases he with z| z
    .exact n9 c b hc z
    .rw[hc] at z;cases z;exact hb rfl
end
structure Un(fs ex:qQ)(H H':Hp)(h h':Heap):Prop where
 keep:∀b o,h.get? b=pX o->H b=none->b∉fs->b∉ex->h'.get? b=pX o
 slot:∀b o,h.get? b=pX o->H b=none->b∈fs->b∉ex->∃sl,h'.get? b=pX {o with slots:=sl}
 free:∀b o,h.get? b=pX o->H b=none->b∉ex->H' b=pY
 there:∀b o,h.get? b=pX o->b∉ex->∃o',h'.get? b=pX o'
 tups:∀b xs,H b=pX (.tup xs)->H' b=pX (.tup xs)
 frzs:∀b o u,H b=pX (.frz o u)->H' b=pX (.frz o u)
 tbls:∀b ps,H b=pX (.tbl ps)->∃more,H' b=pX (.tbl (ps++more))
section
variable{fs fs' ex ex':qQ}{H1 H2:Hp}{h1 h2:Heap}{x e:Addr}{o:HO}
theorem Un.any(u:Un fs ex H H1 h h1)(q:h.get? b=pX ob)(n:H b=pY)(hx:b∉ex):∃sl,h1.get? b=pX {ob with slots:=sl}:=by
 by_cases hb:b∈fs
 .exact u.slot b ob q n hb hx
 .exact⟨ob.slots,u.keep b ob q n hb hx⟩
theorem Un.kept(k:∀b u,h.get? b=pX u->h'.get? b=pX u):Un fs ex H H h h' :=
 ⟨λb ob q _ _ _=>k b ob q,λb ob q _ _ _=>⟨ob.slots,k b ob q⟩,λ_ _ _ n _=>n,λb ob q _=>⟨ob,k b ob q⟩,λ_ _ q=>q,λ_ _ _ q=>q,λ_ ps q=>⟨#[],by rw[q];simp⟩⟩
theorem Un.refl:Un fs ex H H h h:=Un.kept λ_ _ q=>q
theorem Un.laid(k:∀b u,h.get? b=pX u->h'.get? b=pX u)(hp:h.objs.size<=a)(hn:H a=pY):Un fs ex H (upd H a o) h h' where
 keep:=λb u q _ _ _=>k b u q
 slot:=λb u q _ _ _=>⟨u.slots,k b u q⟩
 free:=λb u q n _=>by rw[Ae (BM (B9 (Be q) hp))];exact n
 there:=λb u q _=>⟨u,k b u q⟩
 tups:=λb xs q=>by rw[Ae (Ac q hn)];exact q
 frzs:=λb u xs q=>by rw[Ae (Ac q hn)];exact q
 tbls:=λb ps q=>⟨#[],by rw[Ae (Ac q hn),q];simp⟩
theorem Un.write(mu:Mut (H x))(he:e=x\/H e=pX (.own x))(k:∀b u,b≠e->h.get? b=pX u->h'.get? b=pX u)(m7:∃u,h'.get? e=pX u):Un fs ex H (upd H x o) h h':=by
 have hx:∀b,H b=none->b≠x:=λb n z=>by subst z;rw[n] at mu;exact mu
 have hb:∀b,H b=none->b≠e:=λb n z=>by
  subst z;rcases he with r| r
  .exact hx b n r
  .rw[n] at r;cases r
 have hm:∀b u,H b=pX u->¬ Mut (pX u)->b≠x:=λb u q nm z=>by subst z;rw[q] at mu;exact nm mu
 refine⟨λb u q n _ _=>k b u (hb b n) q,λb u q n _ _=>⟨u.slots,k b u (hb b n) q⟩,λb u q n _=>by rw[Ae (hx b n)];exact n,λb u q _=>?_,
  λb xs q=>by rw[Ae (hm b _ q λz=>z)];exact q,λb u xs q=>by rw[Ae (hm b _ q λz=>z)];exact q,λb ps q=>⟨#[],by rw[Ae (hm b _ q λz=>z),q];simp⟩⟩
 by_cases hbe:b=e
 .subst hbe;exact m7
 .exact⟨u,k b u hbe q⟩
end
def trk(h:Heap)(H:Hp):qQ:=(AO h.objs.size).filter λa=>(H a).isSome
def hidT(h:Heap)(H:Hp):Heap:=PySem.W.hideAll h (trk h H)
theorem Xk(h:Heap)(H:Hp):(hidT h H).objs.size=h.objs.size:=PySem.W.hideAll_size _ _
theorem Zk(e:h.get? b=pX o)(n:H b=pY):(hidT h H).get? b=pX o :=
 PySem.W.hideAll_get _ e λhm=>by
  have q:=(BV.mp hm).2;rw[n] at q;simp at q
theorem ACJ(e:(hidT h H).get? b=pX o):h.get? b=pX o/\H b=pY:=by
 have e':=PySem.W.of_hideAll (trk h H) e;refine⟨e',?_⟩;cases q:H b with
 | none=>rfl
 | some x =>
  have hm:b∈trk h H:=BV.mpr ⟨AV.mpr (Be e'),by simp[q]⟩;have z:(hidT h H).get? b=pY:=PySem.W.hideAll_none (trk h H) hm;rw[z] at e;cases e
def allNews(g h:Heap)(L:Addr):qJ:=(AO h.objs.size).filterMap λa=>if a=L\/(g.get? a).isSome=true then pY else(h.get? a).map λo=>(a,o)
def rest(g h:Heap)(L d:Addr):qJ:=(allNews g h L).filter λp=>decide (p.1≠d)
structure Mod(K:Au)(mg:Str->Option As)(base:Heap):Prop where
 kin:K.In base
 glob:base.Ns C6 mg
 blt:∃mb,base.Ns T5 mb/\∀x:Str,x≠"__name__"->mb x=IT x
 nolimit:base.NoLimit
structure Cx where
 prog:AK
 w:AQ
 K:Au
 mg:Str->Option As
 base:Heap
 A:BO
 N:qM
 s₀:AA
 H₀:Hp
 env:Env
 outer:List Env
 stack:List Env
 ex:qQ
 fn:Str->Bool
 calm:Bool
 pn:qJ
 xe:As->AA->Prop
variable{X:L2.Cx}
def frs(l:List Env):qQ:=l.filterMap (·.frame)
abbrev Cx.fs(X:Cx):qQ:=frs X.outer
def Vis(sc:ES)(x:Str):Prop:=sc.names.lookup x=pX .local\/sc.names.lookup x=pX .cell\/sc.names.lookup x=pX .free
def Loc(sc:ES)(x:Str):Prop:=sc.names.lookup x=pX .local\/sc.names.lookup x=pX .cell
def Look(env:Env)(h:Heap)(m:Str->Option As)(x:Str)(u:As):Prop :=
 (env.kindOf x=pX .local/\m x=pX u)\/((env.kindOf x=pX .cell\/env.kindOf x=pX .free)/\∃c,env.cells.lookup x=pX c/\h.IsCell c (pX u))
structure Cx.Ok(X:Cx):Prop where
 mod:Mod X.K X.mg X.base
 kind:X.env.scope.kind=.function
 glob:X.env.globals=C6
 blt:X.env.builtins=T5
 above:X.s₀.heap.objs.size<=X.env.locals
 inj:∀x y c,X.env.cells.lookup x=pX c->X.env.cells.lookup y=pX c->x=y
 has:∀x,(X.env.kindOf x=pX .cell\/X.env.kindOf x=pX .free)->∃c,X.env.cells.lookup x=pX c
 cab:∀x c,X.fn x=true->X.env.cells.lookup x=pX c->X.s₀.heap.objs.size<=c
 hd:X.calm=true->X.A.handled=pY
 frames:X.A.frames=pX X.stack
 stk:X.stack=X.outer\/(X.stack=X.env::X.outer/\X.env.frame=pX X.env.locals)
 exf:∀b∈X.ex,b≠X.env.locals/\∀x c,X.env.cells.lookup x=pX c->c≠b
 bs:∀b o,X.base.get? b=pX o->X.s₀.heap.get? b=pX o/\X.H₀ b=pY
 bsz:X.base.objs.size<=X.s₀.heap.objs.size
 noex:∀b o,X.base.get? b=pX o->b∉X.ex
 exfs:∀b∈X.ex,b∉X.fs
 funs:X.s₀.heap.FunFrames X.base X.outer
 frf:∀b∈X.fs,X.H₀ b=pY
structure Inv(X:Cx)(ae:qJ)(σ:List (Option V))(H:Hp)(s:AA):Prop where
 ok:X.Ok
 os:s.os=X.s₀.os
 bare:KB s.gens
 base:Un X.fs X.ex X.H₀ H X.s₀.heap s.heap
 loc:∃m,s.heap.Ns X.env.locals m/\∀(i:Nat) (x:Str) (v:V),X.N[i]?=pX x->σ[i]?=pX (pX v)->Vis X.env.scope x->∃u,RelV v u/\Look X.env s.heap m x u
 cell:∀x c,X.env.cells.lookup x=pX c->∃v,s.heap.IsCell c v
 free:H X.env.locals=pY
 freeC:∀x c,X.env.cells.lookup x=pX c->H c=pY
 pin:∀p∈X.pn++ae,s.heap.get? p.1=pX p.2/\H p.1=pY/\p.1≠X.env.locals/\p.1∉X.fs/\∀v,p.2.data≠.cell v
 hok:HOk X.prog X.w H s.heap
 len:σ.length=X.N.length
section
variable{σ:List (Option V)}
theorem Cx.Ok.nofr(ok:X.Ok)(e:X.base.get? b=pX o):b∉X.fs:=λhb=>by
 have:=(ok.funs.mem hb).1;rw[e] at this;cases this
theorem Inv.bs(I:Inv X ae σ H s):∀b o,X.base.get? b=pX o->s.heap.get? b=pX o/\H b=pY:=λb o e =>
 ⟨I.base.keep b o (I.ok.bs b o e).1 (I.ok.bs b o e).2 (I.ok.nofr e) (I.ok.noex b o e),I.base.free b o (I.ok.bs b o e).1 (I.ok.bs b o e).2 (I.ok.noex b o e)⟩
theorem Inv.bk(I:Inv X ae σ H s):∀b o,X.base.get? b=pX o->s.heap.get? b=pX o:=λb o e=>(I.bs b o e).1
theorem Inv.mod(I:Inv X ae σ H s):Mod X.K X.mg X.base:=I.ok.mod
theorem Inv.kIn(I:Inv X ae σ H s):X.K.In s.heap:=I.ok.mod.kin.keeps I.bk
theorem Inv.lt(I:Inv X ae σ H s):X.env.locals<s.heap.objs.size:=let ⟨_,hn,_⟩:=I.loc;hn.lt
theorem Inv.sz(I:Inv X ae σ H s):X.s₀.heap.objs.size<=s.heap.objs.size:=BQ I.ok.above (DD I.lt)
theorem Inv.nofs(I:Inv X ae σ H s)(h:s.heap.objs.size<=a):a∉X.fs:=λhb=>by
 obtain⟨_,o,ho,_⟩:=I.ok.funs.mem hb;exact qB (B9 (Be ho) (BQ I.sz h)) (EF _)
theorem Inv.cne(I:Inv X ae σ H s):∀x c,X.env.cells.lookup x=pX c->c≠X.env.locals:=λx c e z=>by
 obtain⟨v,o,ho,hd⟩:=I.cell x c e;obtain⟨m,⟨o',es,ep,c8,dq,_⟩,_⟩:=I.loc;rw[z,c8] at ho;cases ho;rw[dq] at hd;cases hd
theorem Inv.funs(I:Inv X ae σ H s):s.heap.FunFrames X.base X.outer:=by
 have all:∀(l:List Env),(∀b∈frs l,b∈X.fs)->X.s₀.heap.FunFrames X.base l->s.heap.FunFrames X.base l:=by
  intro l
  induction l with
  | nil=>intro _ _;trivial
  | cons env r ih =>
   intro hs hl;obtain⟨hk,⟨L,o,hf,hn,ho,hd⟩,hr⟩:=hl;have hL:=hs L (by unfold frs;rw[HQ,hf];exact AI);obtain⟨sl,e⟩:=I.base.slot L o ho (I.ok.frf L hL) hL λz=>I.ok.exfs L z hL;exact⟨hk,⟨L,_,hf,hn,e,hd⟩,ih (λb hb=>hs b (by unfold frs;rw[HQ,hf];exact AJ _ hb)) hr⟩
 exact all X.outer (λ_ hb=>hb) I.ok.funs
theorem Inv.stack(I:Inv X ae σ H s):s.heap.FunFrames X.base X.stack:=by
 rcases I.ok.stk with e| ⟨e,hf⟩
 .rw[e];exact I.funs
 .rw[e]
  obtain⟨m,hn,_⟩:=I.loc;refine .cons (by rw[I.ok.kind];decide) hf hn ?_ I.funs;exact Heap.get?_none_of_le (BQ I.ok.bsz I.ok.above)
theorem Inv.stkSub(I:Inv X ae σ H s):∀b∈frs X.stack,b∈X.env.locals::X.fs:=λb hb=>by
 rcases I.ok.stk with e| ⟨e,hf⟩
 .rw[e] at hb;exact AJ _ hb
 .rw[e] at hb
  unfold frs at hb;rw[HQ,hf] at hb;exact hb
theorem Inv.stkFree(I:Inv X ae σ H s):∀b∈frs X.stack,H b=pY:=λb hb=>by
 rcases BF.mp (I.stkSub b hb) with e| hb
 .rw[e];exact I.free
 .obtain⟨_,o,ho,_⟩:=I.ok.funs.mem hb
  exact I.base.free b o ho (I.ok.frf b hb) λz=>I.ok.exfs b z hb
theorem Inv.step{d':Drawn}(I:Inv X ae σ H s)
  (fo:∀b∈ch,(b∈X.ex\/X.s₀.heap.objs.size<=b)/\b≠X.env.locals/\(∀x c,X.env.cells.lookup x=pX c->c≠b)/\∀p∈X.pn++ae,p.1≠b)
  (keep:∀b o,b≠X.env.locals->b∉X.fs->b∉ch->s.heap.get? b=pX o->H b=none->h'.get? b=pX o)
  (slot:∀b o,b≠X.env.locals->b∈X.fs->b∉ch->s.heap.get? b=pX o->H b=none->∃sl,h'.get? b=pX {o with slots:=sl}) (free:∀b o,b∉ch->s.heap.get? b=pX o->H b=none->H' b=pY)
  (there:∀b o,b∉ch->s.heap.get? b=pX o->∃o',h'.get? b=pX o')
  (tups:∀b xs,H b=pX (.tup xs)->H' b=pX (.tup xs)) (frzs:∀b o u,H b=pX (.frz o u)->H' b=pX (.frz o u)) (tbls:∀b ps,H b=pX (.tbl ps)->∃more,H' b=pX (.tbl (ps++more)))
  (ns:∀m,s.heap.Ns X.env.locals m->h'.Ns X.env.locals m) (hok:HOk X.prog X.w H' h') (hg:KB g') :
  Inv X ae σ H' {s with heap:=h',gens:=g',drawn:=d',toks:=t'}:=by
 have oX:∀b o,X.s₀.heap.get? b=pX o->b≠X.env.locals:=λb o e=>BM (B9 (Be e) I.ok.above);have neC:∀b o,X.s₀.heap.get? b=pX o->b∉X.ex->b∉ch:=λb o e hx hb=>by
  rcases (fo b hb).1 with z| z
  .exact hx z
  .exact qB (B9 (Be e) z) (EF _)
 have kN:∀x c,X.env.cells.lookup x=pX c->∀v,s.heap.IsCell c v->h'.IsCell c v:=λx c e v ⟨o,ho,hd⟩=>by
  have n6:c∉ch:=λz=>(fo c z).2.2.1 x c e rfl;by_cases hc:c∈X.fs
  .obtain⟨sl,q⟩:=slot c o (I.cne x c e) hc n6 ho (I.freeC x c e)
   exact⟨_,q,hd⟩
  .exact⟨o,keep c o (I.cne x c e) hc n6 ho (I.freeC x c e),hd⟩
 refine⟨I.ok,I.os,hg,⟨λb o e n hb hx=>?_,λb o e n hb hx=>?_,λb o e n hx=>?_,λb o e hx=>?_,λb xs e=>tups b xs (I.base.tups b xs e),λb o xs e=>frzs b o xs (I.base.frzs b o xs e),λb ps e=>?_⟩,?_,λx c e=>?_,?_,λx c e=>?_,λp hp=>?_,hok,I.len⟩
 .exact keep b o (oX b o e) hb (neC b o e hx) (I.base.keep b o e n hb hx) (I.base.free b o e n hx)
 .obtain⟨sl,e1⟩:=I.base.slot b o e n hb hx
  obtain⟨sl',e2⟩:=slot b _ (oX b o e) hb (neC b o e hx) e1 (I.base.free b o e n hx);exact⟨sl',e2⟩
 .obtain⟨o',e1⟩:=I.base.there b o e hx
  exact free b o' (neC b o e hx) e1 (I.base.free b o e n hx)
 .obtain⟨o',e1⟩:=I.base.there b o e hx
  exact there b o' (neC b o e hx) e1
 .obtain⟨m1,e1⟩:=I.base.tbls b ps e
  obtain⟨m2,e2⟩:=tbls b _ e1;exact⟨m1++m2,by rw[e2,Array.append_assoc]⟩
 .obtain⟨m,hn,hl⟩:=I.loc
  refine⟨m,ns m hn,λi x v e1 e2 e3=>?_⟩;obtain⟨u,r,l⟩:=hl i x v e1 e2 e3;refine⟨u,r,?_⟩;rcases l with l| ⟨k,c,e,z⟩
  .exact .inl l
  .exact .inr ⟨k,c,e,kN x c e _ z⟩
 .obtain⟨v,z⟩:=I.cell x c e
  exact⟨v,kN x c e v z⟩
 .obtain⟨m,⟨o,_,_,ho,_⟩,_⟩:=I.loc
  exact free _ o (λz=>(fo _ z).2.1 rfl) ho I.free
 .obtain⟨v,o,ho,hd⟩:=I.cell x c e
  exact free c o (λz=>(fo c z).2.2.1 x c e rfl) ho (I.freeC x c e)
 .obtain⟨e,n,ne,nf,d⟩:=I.pin p hp
  have n6:p.1∉ch:=λz=>(fo p.1 z).2.2.2 p hp rfl;exact⟨keep p.1 p.2 ne nf n6 e n,free p.1 p.2 n6 e n,ne,nf,d⟩
theorem Inv.un(I:Inv X ae σ H s)(u:Un X.fs [] H H' s.heap h')(hok:HOk X.prog X.w H' h'):Inv X ae σ H' {s with heap:=h',toks:=t'}:=by
 obtain⟨m,⟨o,es,ep,ho,r⟩,_⟩:=id I.loc;obtain⟨sl,hL⟩:=u.any ho I.free (by simp);exact I.step (g':=s.gens) (d':=s.drawn) (ch:=[]) (λ_ z=>nomatch z) (λb o _ hb _ e n=>u.keep b o e n hb (by simp)) (λb o _ hb _ e n=>u.slot b o e n hb (by simp)) (λb o _ e n=>u.free b o e n (by simp)) (λb o _ e=>u.there b o e (by simp)) u.tups u.frzs u.tbls (λm' hm=>by
  obtain⟨o',bo,gN,c8,r'⟩:=hm;rw[ho] at c8;cases c8;exact⟨_,bo,gN,hL,r'⟩) hok I.bare
theorem Inv.call{d':Drawn}(I:Inv X ae σ H s)(u:Un (frs X.stack) ch H H' s.heap h')(hok:HOk X.prog X.w H' h')(hg:KB g')
  (fo:∀b∈ch,(b∈X.ex\/X.s₀.heap.objs.size<=b)/\b≠X.env.locals/\(∀x c,X.env.cells.lookup x=pX c->c≠b)/\∀p∈X.pn++ae,p.1≠b) :
  Inv X ae σ H' {s with heap:=h',gens:=g',drawn:=d',toks:=t'}:=by
 obtain⟨m,⟨o,es,ep,ho,r⟩,_⟩:=id I.loc;obtain⟨sl,hL⟩:=u.any ho I.free λz=>(fo _ z).2.1 rfl;exact I.step (ch:=ch) fo (λb o hL hb hc e n=>u.keep b o e n (λz=>(BF.mp (I.stkSub b z)).elim hL hb) hc) (λb o _ _ hc e n=>u.any e n hc) (λb o hc e n=>u.free b o e n hc) (λb o hc e=>u.there b o e hc) u.tups u.frzs u.tbls (λm' hm=>by
  obtain⟨o',bo,gN,c8,r'⟩:=hm;rw[ho] at c8;cases c8;exact⟨_,bo,gN,hL,r'⟩) hok hg
theorem Inv.turned(I:Inv X ae σ H s)(k:∀b o,b≠it->s.heap.get? b=pX o->h'.get? b=pX o)(hn:H it=pY)(hL:it≠X.env.locals)
  (h1:it∈X.ex\/X.s₀.heap.objs.size<=it) (h2:∀x c,X.env.cells.lookup x=pX c->c≠it) (h3:∀p∈X.pn++ae,p.1≠it):Inv X ae σ H {s with heap:=h',toks:=t'}:=by
 have pU:∀b u,H b=pX u->b≠it:=λb u e z=>by rw[z,hn] at e;cases e
 refine I.step (g':=s.gens) (d':=s.drawn) (ch:=[it]) (λb hb=>?_) (λb o _ _ hc e _=>k b o (λz=>hc (by simp[z])) e) (λb o _ _ hc e _=>⟨o.slots,k b o (λz=>hc (by simp[z])) e⟩) (λ_ _ _ _ n=>n)
  (λb o hc e=>⟨o,k b o (λz=>hc (by simp[z])) e⟩) (λ_ _ e=>e) (λ_ _ _ e=>e) (λb ps e=>⟨#[],by rw[e];simp⟩) (λm hm=>?_) (λb u e=>?_) I.bare
 .have e:b=it:=by simpa using hb
  subst e;exact⟨h1,hL,h2,h3⟩
 .obtain⟨o,es,ep,ho,r⟩:=hm
  exact⟨o,es,ep,k _ o (CB hL) ho,r⟩
 .refine(I.hok b u e).stay (λc v hc q=>k c v ?_ q) (λ_ q=>q) λ_ _ q=>q
  rcases hc with z| z
  .rw[z];exact pU b u e
  .exact pU c _ z
theorem Inv.tok(I:Inv X ae σ H s)(t:Nat):Inv X ae σ H {s with toks:=t}:=I.un (h':=s.heap) (t':=t) Un.refl I.hok
theorem Inv.kept(I:Inv X ae σ H s)(k:∀b u,s.heap.get? b=pX u->h'.get? b=pX u):Inv X ae σ H {s with heap:=h',toks:=t'}:=I.un (Un.kept k) (I.hok.kept k)
theorem Inv.laid{o:HO}(I:Inv X ae σ H s)(k:∀b u,s.heap.get? b=pX u->h'.get? b=pX u)(hp:s.heap.objs.size<=a)(new:ObjOk X.prog X.w (upd H a o) h' a o) :
  Inv X ae σ (upd H a o) {s with heap:=h',toks:=t'}:=I.un (Un.laid k hp (I.hok.fresh hp)) (I.hok.laid k hp new)
theorem Inv.write{x e:Addr}{o:HO}(I:Inv X ae σ H s)(mu:Mut (H x))(he:e=x\/H e=pX (.own x))(k:∀b u,b≠e->s.heap.get? b=pX u->h'.get? b=pX u)(m7:∃u,h'.get? e=pX u)
  (new:ObjOk X.prog X.w (upd H x o) h' x o):Inv X ae σ (upd H x o) {s with heap:=h',toks:=t'}:=I.un (Un.write mu he k m7) (I.hok.write mu he k m7 new)
theorem Inv.pins_of{i8:qJ}(I:Inv X ae σ H s)(h:∀p∈i8,s.heap.get? p.1=pX p.2/\H p.1=pY/\p.1≠X.env.locals/\p.1∉X.fs/\∀v,p.2.data≠.cell v):Inv X i8 σ H s :=
 ⟨I.ok,I.os,I.bare,I.base,I.loc,I.cell,I.free,I.freeC,λp hp=>(Cf.mp hp).elim (λz=>I.pin p (FB _ z)) (h p),I.hok,I.len⟩
theorem Rq{N:qM}(hN:N.Nodup)(a:N[i]?=pX x)(b:N[j]?=pX x):i=j:=by
 obtain⟨h1,e1⟩:=AF.mp a;obtain⟨h2,e2⟩:=AF.mp b;exact(Ts hN).mp (e1.trans e2.symm)
theorem Nr{M:VZ}{Q:qH}(I:Inv X ae σ H s)(hN:X.N.Nodup)(hi:X.N[i]?=pX x)(hx:Loc X.env.scope x)(r:RelV v u)
  (h:∀s',Inv X ae (σ.set i (pX v)) H s'->(∃a,EG a s.heap s'.heap/\(a=X.env.locals\/X.env.cells.lookup x=pX a))->Q () s') (hf:X.fn x=true\/X.env.scope.names.lookup x=pX .local:=by first| exact .inl rfl| exact .inr rfl| assumption):wpAny M A (storeName X.env x u) Q E s:=by
 obtain⟨m,hn,hl⟩:=id I.loc;have hcls:(X.env.scope.kind == .class||(X.env.scope.kind == .module&&X.env.locals != X.env.globals))=false:=by rw[I.ok.kind];rfl
 have hiσ:i<σ.length:=by rw[I.len];exact(AF.mp hi).1
 have cne:=I.cne;have eh:∀{a:Addr}{h':Heap},(∃o,s.heap.get? a=pX o/\H a=pY)->EG a s.heap h'->HOk X.prog X.w H h':=λ{a h'} ha hs b ob e=>by
  obtain⟨_,_,jv⟩:=ha;refine(I.hok b ob e).stay (λc w' hc q=>(hs.2 c ?_).trans q) (λ_ q=>q) λ_ _ q=>q;rintro rfl;rcases hc with rfl| hc
  .rw[jv] at e;cases e
  .rw[jv] at hc;cases hc
 rcases hx with hk| hk
 .refine wpAny_storeName_local hk hn (λh' pE hs=>?_) hcls
  obtain⟨oL,_,_,gp,_⟩:=id hn;refine h _ ⟨I.ok,I.os,I.bare,⟨λb o e n hb hx=>?_,λb o e n hb hx=>?_,I.base.free,λb o e hx=>?_,I.base.tups,I.base.frzs,I.base.tbls⟩,⟨_,pE,λj y v' e1 e2 e3=>?_⟩,λy c e=>?_,I.free,I.freeC,λp hp=>?_,eh ⟨oL,gp,I.free⟩ hs,by simpa using I.len⟩ ⟨_,hs,.inl rfl⟩
  .exact(hs.2 b (BM (B9 (Be e) I.ok.above))).trans (I.base.keep b o e n hb hx)
  .obtain⟨sl,e1⟩:=I.base.slot b o e n hb hx
   exact⟨sl,(hs.2 b (BM (B9 (Be e) I.ok.above))).trans e1⟩
  .obtain⟨o',e1⟩:=I.base.there b o e hx
   exact⟨o',(hs.2 b (BM (B9 (Be e) I.ok.above))).trans e1⟩
  .by_cases hj:j=i
   .subst hj
    rw[hi] at e1;cases e1;rw[IJ hiσ] at e2;cases e2;exact⟨u,r,.inl ⟨hk,by simp⟩⟩
   .rw[JP (CB hj)] at e2
    obtain⟨u',r',q⟩:=hl j y v' e1 e2 e3;refine⟨u',r',?_⟩;rcases q with⟨k,e⟩| ⟨k,c,e,z⟩
    .refine .inl ⟨k,?_⟩
     have:y≠x:=λe=>hj (Rq hN e1 (e ▸ hi));simp[this,e]
    .exact .inr ⟨k,c,e,z.sameBut hs (cne y c e)⟩
  .obtain⟨w',z⟩:=I.cell y c e
   exact⟨w',z.sameBut hs (cne y c e)⟩
  .obtain⟨e,n,ne,nf,d⟩:=I.pin p hp
   exact⟨(hs.2 p.1 ne).trans e,n,ne,nf,d⟩
 .have hfn:X.fn x=true:=by
   rcases hf with z| z
   .exact z
   .rw[z] at hk;cases hk
  obtain⟨c,hc⟩:=I.ok.has x (.inl hk);obtain⟨w',z⟩:=I.cell x c hc;refine wpAny_storeName_cell I.ok.kind hk hc z (λh' ny hs=>?_);obtain⟨oc,hoc,hocd⟩:=id z;refine h {s with heap:=h'} ⟨I.ok,I.os,I.bare,⟨λb o e n hb hx=>?_,λb o e n hb hx=>?_,I.base.free,λb o e hx=>?_,I.base.tups,I.base.frzs,I.base.tbls⟩,⟨m,hn.sameBut hs (CB (cne x c hc)),λj y v' e1 e2 e3=>?_⟩,λy c' e=>?_,I.free,I.freeC,λp hp=>?_,eh ⟨oc,hoc,I.freeC x c hc⟩ hs,by simpa using I.len⟩ ⟨c,hs,.inr hc⟩
  .exact(hs.2 b (BM (B9 (Be e) (I.ok.cab x c hfn hc)))).trans (I.base.keep b o e n hb hx)
  .obtain⟨sl,e1⟩:=I.base.slot b o e n hb hx
   exact⟨sl,(hs.2 b (BM (B9 (Be e) (I.ok.cab x c hfn hc)))).trans e1⟩
  .obtain⟨o',e1⟩:=I.base.there b o e hx
   exact⟨o',(hs.2 b (BM (B9 (Be e) (I.ok.cab x c hfn hc)))).trans e1⟩
  .by_cases hj:j=i
   .subst hj
    rw[hi] at e1;cases e1;rw[IJ hiσ] at e2;cases e2;exact⟨u,r,.inr ⟨.inl hk,c,hc,ny⟩⟩
   .rw[JP (CB hj)] at e2
    obtain⟨u',r',q⟩:=hl j y v' e1 e2 e3;refine⟨u',r',?_⟩;rcases q with q| ⟨k,c',e,z'⟩
    .exact .inl q
    .refine .inr ⟨k,c',e,z'.sameBut hs ?_⟩
     rintro rfl;exact hj (Rq hN e1 (I.ok.inj _ _ _ e hc ▸ hi))
  .by_cases hcc:c'=c
   .subst hcc;exact⟨_,ny⟩
   .obtain⟨w2,z2⟩:=I.cell y c' e
    exact⟨w2,z2.sameBut hs hcc⟩
  .obtain⟨e,n,ne,nf,d⟩:=I.pin p hp
   refine⟨(hs.2 p.1 ?_).trans e,n,ne,nf,d⟩;intro q;rw[q,hoc] at e;have q':=A8 e;exact d w' (by rw[<- q'];exact hocd)
theorem Sx{M:VZ}{Q:qH}(I:Inv X ae σ H s)(hN:X.N.Nodup)(hi:X.N[i]?=pX x)(hx:Loc X.env.scope x)(r:RelV v u)
  (h:∀s',Inv X ae (σ.set i (pX v)) H s'->Q () s') (hf:X.fn x=true\/X.env.scope.names.lookup x=pX .local:=by first| exact .inl rfl| exact .inr rfl| assumption):wpAny M A (storeName X.env x u) Q E s :=
 Nr I hN hi hx r (λs' I' _=>h s' I') hf
theorem Inv.call'(I:Inv X ae σ H s)(ho:s'.os=s.os)(u:Un (frs X.stack) ch H H' s.heap s'.heap)(hok:HOk X.prog X.w H' s'.heap)(hg:KB s'.gens)
  (fo:∀b∈ch,(b∈X.ex\/X.s₀.heap.objs.size<=b)/\b≠X.env.locals/\(∀x c,X.env.cells.lookup x=pX c->c≠b)/\∀p∈X.pn++ae,p.1≠b):Inv X ae σ H' s':=by
 obtain⟨h',g',d',t',o'⟩:=s';have e:=ho;subst e;exact I.call (g':=g') (t':=t') (d':=d') u hok hg fo
end
abbrev XK:=As->Option Addr->Hp->Prop
abbrev St:=List (Option V)
variable{σ:L2.St}
abbrev VK:=V->Hp->Prop
abbrev TE:=St->Hp->VK->Prop
variable{te:L2.TE}
abbrev TT:=St->Hp->(Bool->Hp->Prop)->Prop
variable{tc:L2.TT}
abbrev TA:=St->Hp->(List V->Hp->Prop)->Prop
structure Ends where
 nx:St->Hp->Prop
 rt:VK
 bk:St->Hp->Prop:=λ_ _=>False
 ct:St->Hp->Prop:=λ_ _=>False
abbrev TS:=Ends->St->Hp->Prop
def EP(X:Cx)(ae:qJ)(σ:St)(Q:VK)(u:As)(s':AA):Prop:=∃v H',Inv X ae σ H' s'/\RelV v u/\Q v H'
def TP(X:Cx)(ae:qJ)(σ:St)(Q:Bool->Hp->Prop)(b:Bool)(s':AA):Prop:=∃H',Inv X ae σ H' s'/\Q b H'
def AP(X:Cx)(ae:qJ)(σ:St)(Q:List V->Hp->Prop)(us:List As)(s':AA):Prop:=∃vs H',Inv X ae σ H' s'/\Vals vs us/\Q vs H'
def SP(X:Cx)(ae:qJ)(D:Ends)(f:Flow)(s':AA):Prop :=
 match f with
 | .next=>∃σ' H',Inv X ae σ' H' s'/\D.nx σ' H'
 | .brk=>∃σ' H',Inv X ae σ' H' s'/\D.bk σ' H'
 | .cont=>∃σ' H',Inv X ae σ' H' s'/\D.ct σ' H'
 | .ret u=>∃v σ' H',Inv X ae σ' H' s'/\RelV v u/\D.rt v H'
def PE(X:Cx)(e:Expr)(t:TE):Prop :=
 ∀(ae:qJ) (s:AA) (σ:St) (H:Hp) (Q:VK),Inv X ae σ H s->t σ H Q->wpAny (AM X.prog X.w) X.A (eval e X.env) (EP X ae σ Q) X.xe s
def PT(X:Cx)(e:Expr)(t:TT):Prop :=
 ∀(ae:qJ) (s:AA) (σ:St) (H:Hp) (Q:Bool->Hp->Prop),Inv X ae σ H s->t σ H Q->wpAny (AM X.prog X.w) X.A (T8 e X.env (eval e X.env)) (TP X ae σ Q) X.xe s
def PW(X:Cx)(e:Expr)(t:TT):Prop :=
 ∀(eC:Sem As) (ae:qJ) (s:AA) (σ:St) (H:Hp) (Q:Bool->Hp->Prop),Inv X ae σ H s->t σ H Q->wpAny (AM X.prog X.w) X.A (T8 e X.env eC) (TP X ae σ Q) X.xe s
theorem qS{t:TT}(h:PW X e t):PT X e t:=h _
def PA(X:Cx)(es:qN)(t:TA):Prop :=
 ∀(pos:Pos) (ae:qJ) (s:AA) (σ:St) (H:Hp) (Q:List V->Hp->Prop),Inv X ae σ H s->t σ H Q->wpAny (AM X.prog X.w) X.A (spliced (IU pos (Cs es X.env))) (AP X ae σ Q) X.xe s
def PS(X:Cx)(st:Stmt)(t:TS):Prop :=
 ∀(ae:qJ) (s:AA) (σ:St) (H:Hp) (D:Ends),Inv X ae σ H s->t D σ H->wpAny (AM X.prog X.w) X.A (exec st X.env) (SP X ae D) X.xe s
def PSs(X:Cx)(st:List Stmt)(t:TS):Prop :=
 ∀(ae:qJ) (s:AA) (σ:St) (H:Hp) (D:Ends),Inv X ae σ H s->t D σ H->wpAny (AM X.prog X.w) X.A (execs st X.env) (SP X ae D) X.xe s
theorem thn{t:Sem α}{Q Q':α->AA->Prop}{M:VZ}(h:wpAny M A t Q E s)(hQ:∀a s,Q a s->Q' a s):wpAny M A t Q' E s:=D2 h hQ λ_ _ x=>x
section
def AFP(i:Nat):TE:=λσ H Q=>∃v,σ[i]?=pX (pX v)/\Q v H
def tC(v:V):TE:=λ_ H Q=>Q v H
theorem AEd(hN:X.N[i]?=pX x)(hv:Vis X.env.scope x)(hd:autoParam ((x==("__debug__" : Str))=false) zA1._auto_1)(g5:autoParam ((x==("__classdict__" : Str))=false) zA1._auto_1):PE X (.Name x pos) (AFP i):=by
 intro ae s σ H Q I h;obtain⟨v,e,h⟩:=h;obtain⟨m,hn,hl⟩:=I.loc;obtain⟨u,r,l⟩:=hl i x v hN e hv;have fin:EP X ae σ Q u s:=⟨v,H,I,r,h⟩;rcases l with⟨hk,hm⟩| ⟨hk,c,hc,eA⟩
 .exact T9 (wpAny_loadName_local I.ok.kind hk hn hm fin) hd
 .rcases hk with hk| hk
  .exact T9 (wpAny_loadName_cell I.ok.kind hk hc eA fin) hd
  .exact T9 (wpAny_loadName_free I.ok.kind hk hc eA fin g5) hd
theorem Ai{i j pos}:PE X (.Constant (.int i) j pos) (tC (.int i)):=λ_ _ _ H _ I h=>wpAny_Constant_int ⟨.int i,H,I.tok _,⟨_,rfl⟩,h⟩
theorem Oa{b j pos}:PE X (.Constant (.bool b) j pos) (tC (.bl b)):=λ_ _ _ H _ I h=>Constant_bool ⟨.bl b,H,I,rfl,h⟩
theorem Gz{j pos}:PE X (.Constant .none j pos) (tC .non):=λ_ _ _ H _ I h=>QQ ⟨.non,H,I,rfl,h⟩
def Gl(X:Cx)(x:Str):Prop:=X.env.kindOf x=pX .globalImplicit
theorem Jf(I:Inv X ae σ H s)(hg:Gl X x)(hm:X.mg x=pX u)(h:Q u s)
  (hd:autoParam ((x==("__debug__" : Str))=false) zA1._auto_1):wpAny (AM X.prog X.w) X.A (eval (.Name x pos) X.env) Q E s :=
 M1 I.ok.kind hg (Calls.loadGlobal_global (by rw[I.ok.glob];exact I.mod.glob.keeps I.bk) hm h) hd
theorem Fz(I:Inv X ae σ H s)(hg:Gl X x)(hm:X.mg x=pY)(hv:IT x=pX u)(h:Q u s)
  (hn:autoParam (x≠"__name__") zA1._auto_1) (hd:autoParam ((x==("__debug__" : Str))=false) zA1._auto_1):wpAny (AM X.prog X.w) X.A (eval (.Name x pos) X.env) Q E s:=by
 obtain⟨mb,h1,h2⟩:=I.mod.blt;exact M1 I.ok.kind hg (Calls.loadGlobal_builtin (by rw[I.ok.glob];exact I.mod.glob.keeps I.bk) hm (by rw[I.ok.blt];exact h1.keeps I.bk) ((h2 x hn).trans hv) h) hd
theorem Gm(hg:Gl X x)(hm:X.mg x=pX u)(r:RelV v u)(hd:autoParam ((x==("__debug__" : Str))=false) zA1._auto_1):PE X (.Name x pos) (tC v) :=
 λ_ _ _ H _ I h=>Jf I hg hm ⟨v,H,I,r,h⟩ hd
variable{a b:Expr}{ta tb:TE}
def PC(X:Cx)(op:Uf)(a b:Expr)(t:TE):Prop :=
 ∀(ae:qJ) (s:AA) (σ:St) (H:Hp) (Q:VK),Inv X ae σ H s->t σ H Q ->
  wpAny (AM X.prog X.w) X.A (eval a X.env) (λv s₁=>wpAny (AM X.prog X.w) X.A (eval b X.env) (λu s₂=>wpAny (AM X.prog X.w) X.A (DM op v u) (EP X ae σ Q) X.xe s₂) X.xe s₁) X.xe s
theorem AAL(b:Expr)(h:op≠.In)(h2:op≠.NotIn):Iq op b=false:=by
 have e1:(op==Ya)=false:=by cases op<;>first| rfl| exact qB rfl h
 have e2:(op==Xt)=false:=by cases op<;>first| rfl| exact qB rfl h2
 cases b<;>simp[Iq,e1,e2]
def AGF(ta:TE):TE:=λσ H Q=>ta σ H λx H1=>Q (.bl (decide (x=.non))) H1
def AFe(ta:TE):TE:=λσ H Q=>ta σ H λx H1=>Q (.bl (!decide (x=.non))) H1
theorem RelV.none_iff{x:V}{v:As}(r:RelV x v):(v==CY)=decide (x=.non):=by
 cases x with
 | non=>cases r;rfl
 | bl _=>cases r;rfl
 | int _=>obtain⟨t,rfl⟩:=r;rfl
 | str _=>obtain⟨t,rfl⟩:=r;rfl
 | byt _=>obtain⟨t,rfl⟩:=r;rfl
 | flt _=>obtain⟨t,rfl⟩:=r;rfl
 | ref _=>cases r;rfl
 | ty _=>cases r;rfl
theorem Uc{j a9}(ha:PE X a ta):PC X .Is a (.Constant .none j a9) (AGF ta):=by
 intro ae s σ H Q I h;refine thn (ha ae s σ H _ I h) λv s1 ⟨x,H1,I1,r1,q1⟩=>?_;exact QQ (is_none_gen ⟨.bl _,H1,I1,by rw[r1.none_iff];rfl,q1⟩)
theorem ADL{j a9}(ha:PE X a ta):PC X .IsNot a (.Constant .none j a9) (AFe ta):=by
 intro ae s σ H Q I h;refine thn (ha ae s σ H _ I h) λv s1 ⟨x,H1,I1,r1,q1⟩=>?_;exact QQ (isnot_none_gen ⟨.bl _,H1,I1,by rw[r1.none_iff];rfl,q1⟩)
def tB(t:TE):TT:=λσ H Q=>t σ H λx H1=>∃c,x=.bl c/\Q c H1
theorem Gs{t:TE}(h:PC X op a b t)(h1:Iq op b=false:=by first| exact AAL _ (by decide) (by decide)| rfl):PT X (.Compare a [op] [b] pos) (tB t):=by
 intro ae s σ H Q I hw;refine O7 (thn (h ae s σ H _ I hw) λv s1 h1=>thn h1 λu s2 h2=>thn h2 λc s3 ⟨x,H1,I1,r1,q1⟩=>?_) h1;obtain⟨d,rfl,q⟩:=q1;cases r1;exact FO ⟨H1,I1,q⟩
theorem Il{t:TE}(h:PE X e t)(he:autoParam (∀eC,T8 e X.env eC=(do let v <- eC;UZ e.pos;MA [v] (truthy v))) zA2._auto_1):PT X e (tB t):=by
 intro ae s σ H Q I hw;refine isTrue_plain (thn (h ae s σ H _ I hw) λv s1 ⟨x,H1,I1,r1,q1⟩=>?_) (he _);obtain⟨d,rfl,q⟩:=q1;cases r1;exact FO ⟨H1,I1,q⟩
variable{tA tB':TT}{rest:qN}
def AGN(t u:TT):TT:=λσ H Q=>t σ H λc H1=>if c=true then u σ H1 Q else Q false H1
def tOr(t u:TT):TT:=λσ H Q=>t σ H λc H1=>if c=true then Q true H1 else u σ H1 Q
def AFz(t:TT):TT:=λσ H Q=>t σ H λc H1=>Q (!c) H1
theorem Je(ha:PT X a tA):PW X (.BoolOp .And [a] pos) tA:=by
 intro wh ae s σ H Q I h;refine isTrue_and (thn (ha ae s σ H Q I h) λc s1 e=>?_);cases c with
 | true=>exact isTrue_and_nil e
 | false=>exact e
theorem QB(ha:PT X a tA):PW X (.BoolOp .Or [a] pos) tA:=by
 intro wh ae s σ H Q I h;refine isTrue_or (thn (ha ae s σ H Q I h) λc s1 e=>?_);cases c with
 | false=>exact isTrue_or_nil e
 | true=>exact e
theorem Ox(ha:PT X a tA)(hb:PW X (.BoolOp .And (b::rest) pos) tB'):PW X (.BoolOp .And (a::b::rest) pos) (AGN tA tB'):=by
 intro wh ae s σ H Q I h;refine isTrue_and (thn (ha ae s σ H _ I h) λc s1 ⟨H1,I1,q1⟩=>?_);cases c with
 | true=>exact hb wh ae s1 σ H1 Q I1 q1
 | false=>exact⟨H1,I1,q1⟩
theorem RK(ha:PT X a tA)(hb:PW X (.BoolOp .Or (b::rest) pos) tB'):PW X (.BoolOp .Or (a::b::rest) pos) (tOr tA tB'):=by
 intro wh ae s σ H Q I h;refine isTrue_or (thn (ha ae s σ H _ I h) λc s1 ⟨H1,I1,q1⟩=>?_);cases c with
 | true=>exact⟨H1,I1,q1⟩
 | false=>exact hb wh ae s1 σ H1 Q I1 q1
theorem AAg(ha:PT X a tA):PT X (.UnaryOp .Not a pos) (AFz tA):=by
 intro ae s σ H Q I h;exact isTrue_not (ha ae s σ H (λc H1=>Q (!c) H1) I h)
def AGJ(ta tb:TE):TE:=λσ H Q=>ta σ H λx H1=>∃c,x=.bl c/\if c=true then Q (.bl true) H1 else tb σ H1 Q
theorem AFJ{op}{t:TE}(h:PE X a t):PE X (.BoolOp op [a] pos) t:=λae s σ H Q I hw=>BoolOp_one (h ae s σ H Q I hw)
theorem AFi(ha:PE X a ta)(hb:PE X (.BoolOp .Or (b::rest) pos) tb):PE X (.BoolOp .Or (a::b::rest) pos) (AGJ ta tb):=by
 intro ae s σ H Q I h;refine BoolOp_or (thn (ha ae s σ H _ I h) λv s1 ⟨x,H1,I1,r1,q1⟩=>?_);obtain⟨c,rfl,q1⟩:=q1;cases r1;refine FO ?_;cases c with
 | false=>exact hb ae s1 σ H1 Q I1 q1
 | true=>exact⟨.bl true,H1,I1,rfl,q1⟩
def tIf(t:TT)(ta tb:TE):TE:=λσ H Q=>t σ H λc H1=>if c=true then ta σ H1 Q else tb σ H1 Q
theorem Sw(hc:PT X c tA)(ha:PE X a ta)(hb:PE X b tb):PE X (.IfExp c a b pos) (tIf tA ta tb):=by
 intro ae s σ H Q I h;refine wpAny_IfExp (thn (hc ae s σ H _ I h) λd s1 ⟨H1,I1,q1⟩=>?_);cases d with
 | true=>exact ha ae s1 σ H1 Q I1 q1
 | false=>exact hb ae s1 σ H1 Q I1 q1
end
def SqL(K:Au)(H:Hp)(a:Addr)(xs:List V):Prop :=
 Rd H a (.lst xs) \/
  ∃(o:Obj) (ah:Array As) (n:Nat),K.lookup a=pX o/\o.cls=.type "list"/\o.dict=pY/\o.data=.seq ah n/\ah.size<=sizeLine/\Vals xs ah.toList
def SqT(K:Au)(H:Hp)(a:Addr)(xs:List V):Prop :=
 Rd H a (.tup xs) \/
  ∃(o:Obj) (ah:Array As) (n:Nat),K.lookup a=pX o/\o.cls=.type "tuple"/\o.data=.seq ah n/\ah.size<=sizeLine/\Vals xs ah.toList
def absV:As->Option V
 | .none=>pX .non
 | .bool b=>pX (.bl b)
 | .int i _=>pX (.int i)
 | .str x _=>pX (.str x)
 | .bytes b _=>pX (.byt b)
 | .float b _=>pX (.flt b)
 | .ref a=>pX (.ref a)
 | .type n=>pX (.ty n)
 | _=>pY
theorem RelV.abs{x:V}(r:RelV x u):absV u=pX x:=by
 cases x with
 | non=>cases r;rfl
 | bl _=>cases r;rfl
 | int _=>obtain⟨t,rfl⟩:=r;rfl
 | str _=>obtain⟨t,rfl⟩:=r;rfl
 | byt _=>obtain⟨t,rfl⟩:=r;rfl
 | flt _=>obtain⟨t,rfl⟩:=r;rfl
 | ref _=>cases r;rfl
 | ty _=>cases r;rfl
theorem RelV.inj{x:V}(r:RelV x u)(q:RelV y u):x=y:=A8 (r.abs.symm.trans q.abs)
theorem Vals.inj:∀{xs ys:List V}{us:List As},Vals xs us->Vals ys us->xs=ys
 | _,_,_,.nil,.nil=>rfl
 | _,_,_,.cons r t,.cons r' t'=>by rw[r.inj r',Vals.inj t t']
section
variable{ys:List V}
theorem SqL.of(h:H a=pX (.lst xs)):SqL K H a xs:=.inl (.inl h)
def qX:=@SqL.of
theorem SqT.of(h:H a=pX (.tup xs)):SqT K H a xs:=.inl (.inl h)
def qY:=@SqT.of
theorem Inv.list(I:Inv X ae σ H s)(h:SqL X.K H a xs):∃ah:List As,Vals xs ah/\PlainL s.heap a ah.toArray/\xs.length<=sizeLine:=by
 rcases h with h| ⟨o,ah,n,hk,hc,hd,hs,hz,r⟩
 .obtain⟨z,ah,n,r,e⟩:=h.ok I.hok
  exact⟨ah,r,⟨_,n,e,rfl,rfl,rfl⟩,z⟩
 .refine⟨ah.toList,r,⟨o,n,I.kIn a o hk,hc,hd,by simpa using hs⟩,?_⟩
  have e:=r.length;simp only[AZ] at e;exact tm e hz
theorem Inv.tuple(I:Inv X ae σ H s)(h:SqT X.K H a xs):∃ah:List As,Vals xs ah/\SC s.heap a ah.toArray/\xs.length<=sizeLine:=by
 rcases h with h| ⟨o,ah,n,hk,hc,hs,hz,r⟩
 .obtain⟨z,ah,r,p⟩:=h.ok I.hok
  exact⟨ah,r,p,z⟩
 .refine⟨ah.toList,r,⟨o,I.kIn a o hk,hc,n,by simpa using hs⟩,?_⟩
  have e:=r.length;simp only[AZ] at e;exact tm e hz
theorem Inv.list_inj(I:Inv X ae σ H s)(h:SqL X.K H a xs)(h':SqL X.K H a ys):xs=ys:=by
 obtain⟨ah,r,⟨o,n,e,_,_,d⟩,_⟩:=I.list h;obtain⟨its',r',⟨o',n',e',_,_,d'⟩,_⟩:=I.list h';rw[e] at e';cases e';rw[d] at d';injection d' with d1 _
 have:ah=its':=by simpa using congrArg RE d1
 subst this;exact r.inj r'
theorem Inv.tuple_inj(I:Inv X ae σ H s)(h:SqT X.K H a xs)(h':SqT X.K H a ys):xs=ys:=by
 obtain⟨ah,r,⟨o,e,_,n,d⟩,_⟩:=I.tuple h;obtain⟨its',r',⟨o',e',_,n',d'⟩,_⟩:=I.tuple h';rw[e] at e';cases e';rw[d] at d';injection d' with d1 _
 have:ah=its':=by simpa using congrArg RE d1
 subst this;exact r.inj r'
end
abbrev Cx.wish(X:Cx)(E:As->AA->Prop):Cx:={X with xe:=E}
abbrev Cx.nox(X:Cx):Cx:=X.wish λ_ _=>False
theorem Cx.Ok.wish(ok:X.Ok)(E:As->AA->Prop):(X.wish E).Ok :=
 ⟨ok.mod,ok.kind,ok.glob,ok.blt,ok.above,ok.inj,ok.has,ok.cab,ok.hd,ok.frames,ok.stk,ok.exf,ok.bs,ok.bsz,ok.noex,ok.exfs,ok.funs,ok.frf⟩
theorem Cx.Ok.unwish(ok:(X.wish E).Ok):X.Ok :=
 ⟨ok.mod,ok.kind,ok.glob,ok.blt,ok.above,ok.inj,ok.has,ok.cab,ok.hd,ok.frames,ok.stk,ok.exf,ok.bs,ok.bsz,ok.noex,ok.exfs,ok.funs,ok.frf⟩
theorem Inv.wish(I:Inv X ae σ H s)(E:As->AA->Prop):Inv (X.wish E) ae σ H s:=⟨I.ok.wish E,I.os,I.bare,I.base,I.loc,I.cell,I.free,I.freeC,I.pin,I.hok,I.len⟩
theorem Inv.unwish(I:Inv (X.wish E) ae σ H s):Inv X ae σ H s:=⟨I.ok.unwish,I.os,I.bare,I.base,I.loc,I.cell,I.free,I.freeC,I.pin,I.hok,I.len⟩
theorem SP.unwish{D:Ends}{f:Flow}(h:SP (X.wish E) ae D f s'):SP X ae D f s':=by
 cases f with
 | next=>obtain⟨σ',H',I,q⟩:=h;exact⟨σ',H',I.unwish,q⟩
 | brk=>obtain⟨σ',H',I,q⟩:=h;exact⟨σ',H',I.unwish,q⟩
 | cont=>obtain⟨σ',H',I,q⟩:=h;exact⟨σ',H',I.unwish,q⟩
 | ret u=>obtain⟨v,σ',H',I,r,q⟩:=h;exact⟨v,σ',H',I.unwish,r,q⟩
theorem PSs.nox{st:List Stmt}{t:TS}(h:PSs X.nox st t):PSs X st t:=λae s σ H D I hw =>
 D2 (h ae s σ H D (I.wish _) hw) (λ_ _ q=>q.unwish) λ_ _ z=>EH z
section
variable{st:Stmt}{rest:List Stmt}{t u:TS}
def AFN:TS:=λD σ H=>D.nx σ H
def AGP(t u:TS):TS:=λD σ H=>t {D with nx:=u D} σ H
theorem BL:PSs X [] AFN:=λ_ _ σ H _ I h=>LH ⟨σ,H,I,h⟩
theorem Af(h1:PS X st t)(h2:PSs X rest u):PSs X (st::rest) (AGP t u):=by
 intro ae s σ H D I h;refine NX (thn (h1 ae s σ H {D with nx:=u D} I h) λf s1 q=>?_);cases f with
 | next =>
  obtain⟨σ',H',I',q⟩:=q;exact h2 ae s1 σ' H' D I' q
 | ret v=>exact q
 | brk=>exact q
 | cont=>exact q
theorem Aj(h1:PS X st t):PSs X [st] t:=by
 intro ae s σ H D I h;refine NX (thn (h1 ae s σ H D I h) λf s1 q=>?_);cases f with
 | next=>exact LH q
 | ret v=>exact q
 | brk=>exact q
 | cont=>exact q
theorem Inv.quiet(I:Inv X ae σ H s):interactive X.env=false:=by simp[interactive,I.ok.kind]
def AFw(te:TE):TS:=λD σ H=>te σ H λ_ H1=>D.nx σ H1
theorem DP(he:PE X e te)(hs:autoParam (Lm e pY pos.line X.env=pure false) zA0._auto_1):PS X (.Expr e pos) (AFw te):=by
 intro ae s σ H D I h;exact wpAny_Expr_any (thn (he ae s σ H _ I h) λv s1 ⟨x,H1,I1,r1,q1⟩=>⟨σ,H1,I1,q1⟩) I.quiet hs
def AGL(te:TE):TS:=λD σ H=>te σ H D.rt
theorem Aq(he:PE X e te):PS X (.Return (pX e) pos) (AGL te):=by
 intro ae s σ H D I h;exact wpAny_Return_some (thn (he ae s σ H _ I h) λv s1 ⟨x,H1,I1,r1,q1⟩=>⟨x,σ,H1,I1,r1,q1⟩)
def AGH(c:TT)(t u:TS):TS:=λD σ H=>c σ H λb H1=>if b=true then t D σ H1 else u D σ H1
theorem CQ{a b:List Stmt}(hc:PT X c tc)(ha:PSs X a t)(hb:PSs X b u):PS X (.If c a b pos) (AGH tc t u):=by
 intro ae s σ H D I h;refine wpAny_If (thn (hc ae s σ H _ I h) λd s1 ⟨H1,I1,q1⟩=>?_);cases d with
 | true=>exact ha ae s1 σ H1 D I1 q1
 | false=>exact hb ae s1 σ H1 D I1 q1
def ADt:TS:=λ_ _ _=>False
theorem Cz{sts:List Stmt}:PSs X sts ADt:=λ_ _ _ _ _ _ h=>h.elim
end
abbrev TG:=V->St->Hp->(St->Hp->Prop)->Prop
abbrev TGs:=List V->St->Hp->(St->Hp->Prop)->Prop
def PG(X:Cx)(ck:Expr)(t:TG):Prop :=
 ∀(ae:qJ) (s:AA) (σ:St) (H:Hp) (v:V) (u:As) (Q:St->Hp->Prop),Inv X ae σ H s->RelV v u->t v σ H Q ->
  wpAny (AM X.prog X.w) X.A (RF ck X.env u) (λ_ s'=>∃σ' H',Inv X ae σ' H' s'/\Q σ' H') X.xe s
def PGs(X:Cx)(ts:qN)(t:TGs):Prop :=
 ∀(ae:qJ) (s:AA) (σ:St) (H:Hp) (vs:List V) (us:List As) (Q:St->Hp->Prop),Inv X ae σ H s->Vals vs us->t vs σ H Q ->
  wpAny (AM X.prog X.w) X.A (assignInOrder ((JS ts X.env).map (·.2)) us) (λ_ s'=>∃σ' H',Inv X ae σ' H' s'/\Q σ' H') X.xe s
abbrev TSet:=V->V->V->Hp->(Hp->Prop)->Prop
def PSet(X:Cx)(t:TSet):Prop :=
 ∀(ae:qJ) (s:AA) (σ:St) (H:Hp) (o i v:V) (ov iv u:As) (Q:Hp->Prop),Inv X ae σ H s->RelV o ov->RelV i iv->RelV v u->t o i v H Q ->
  wpAny (AM X.prog X.w) X.A (U0 ov iv u) (λ_ s'=>∃H',Inv X ae σ H' s'/\Q H') X.xe s
def gName(i:Nat):TG:=λv σ H Q=>Q (σ.set i (pX v)) H
theorem XJ(hN:X.N.Nodup)(hi:X.N[i]?=pX x)(hx:Loc X.env.scope x)(hf:X.fn x=true\/X.env.scope.names.lookup x=pX .local:=by first| exact .inl rfl| exact .inr rfl| assumption):PG X (.Name x pos) (gName i):=by
 intro ae s σ H v u Q I r h;exact SH (Sx I hN hi hx r (λs' I'=>⟨_,H,I',h⟩) hf)
theorem Bf(hN:X.N.Nodup)(hi:autoParam (X.N[i]?=pX x) zA0._auto_1)(hx:Loc X.env.scope x:=by first| exact K1 rfl| exact MQ rfl)(hf:X.fn x=true\/X.env.scope.names.lookup x=pX .local:=by first| exact K1 rfl| exact MQ rfl):PG X (.Name x pos) (gName i):=XJ hN hi hx hf
theorem BK(hN:X.N.Nodup:=by exact qA rfl)(hi:autoParam (X.N[i]?=pX x) zA0._auto_1)(hx:Loc X.env.scope x:=by first| exact K1 rfl| exact MQ rfl)(hf:X.fn x=true\/X.env.scope.names.lookup x=pX .local:=by first| exact K1 rfl| exact MQ rfl):PG X (.Name x pos) (gName i):=XJ hN hi hx hf
def gNil:TGs:=λvs σ H Q=>vs=[]/\Q σ H
def gCons(t:TG)(u:TGs):TGs:=λvs σ H Q=>∃v r,vs=v::r/\t v σ H λσ' H'=>u r σ' H' Q
theorem FN:PGs X [] gNil:=by
 intro ae s σ H vs us Q I r h;obtain⟨e,h⟩:=h;subst e;cases r;exact assignInOrder_nil ⟨σ,H,I,h⟩
theorem Bo{t:TG}{u:TGs}(h1:PG X e t)(h2:PGs X es u)
  (hs:autoParam ((JS (e::es) X.env).map (·.2)=RF e X.env::(JS es X.env).map (·.2)) zA0._auto_1):PGs X (e::es) (gCons t u):=by
 intro ae s σ H vs us Q I r h;obtain⟨v,vr,e1,h⟩:=h;subst e1;cases r with
 | cons r rr =>
  rw[hs];refine assignInOrder_cons (thn (h1 ae s σ H _ _ _ I r h) λ_ s1 ⟨σ1,H1,I1,q1⟩=>?_);exact h2 ae s1 σ1 H1 _ _ Q I1 rr q1
def gTup(K:Au)(n:Nat)(t:TGs):TG:=λv σ H Q=>∃a xs,v=.ref a/\SqT K H a xs/\xs.length=n/\t xs σ H Q
theorem PL{k:Nat}{t:TGs}(hc:X.calm=true)(h:PGs X es t)
  (hn:autoParam ((JS es X.env).length=n) zA0._auto_1) (cK:autoParam ((JS es X.env).findIdx? (·.1)=pY) zA0._auto_1):PG X (.Tuple es k pos) (gTup X.K n t):=by
 intro ae s σ H v u Q I r hw;obtain⟨a,xs,e1,hq,hl,hw⟩:=hw;subst e1;cases r;obtain⟨ah,rv,ht,hz⟩:=I.tuple hq;refine assign_Tuple_tuple (I.ok.hd hc) ht (by simp[hn,<- hl,rv.length]) cK λh' hx=>?_;have I1:=I.kept (t':=s.toks) λb o e=>hx b o (BM (Be e)) e;exact h ae _ σ H xs _ Q I1 (by simpa using rv) hw
def gSub(to ti:TE)(t:TSet):TG:=λv σ H Q=>to σ H λo H1=>ti σ H1 λi H2=>t o i v H2 λH3=>Q σ H3
theorem Oi{o i:Expr}{to ti:TE}{t:TSet}(ho:PE X o to)(hi:PE X i ti)(hs:PSet X t)
  (ha:autoParam (∀v,RF (.Subscript o i pos) X.env v=(do
   let ov <- MA [v] (eval o X.env)
   let iv <- MA [v,ov] (eval i X.env)
   UZ pos
   MA [v,ov,iv] (U0 ov iv v)
   release [v,ov,iv] [])) zA2._auto_1):PG X (.Subscript o i pos) (gSub to ti t):=by
 intro ae s σ H v u Q I r h;rw[ha];refine Ap (DC (thn (ho ae s σ H _ I h) λov s1 ⟨x,H1,I1,r1,q1⟩=>?_));refine Ap (DC (thn (hi ae s1 σ H1 _ I1 q1) λiv s2 ⟨y,H2,I2,r2,q2⟩=>?_));refine Ap (QR (Ap (DC (thn (hs ae s2 σ H2 x y v ov iv u _ I2 r1 r2 r q2) λ_ s3 ⟨H3,I3,q3⟩=>?_))));exact wpAny_release ⟨σ,H3,I3,q3⟩
def ACY(te:TE)(g:TG):TS:=λD σ H=>te σ H λx H1=>g x σ H1 D.nx
theorem Gu{g:TG}(he:PE X e te)(hg:PG X tg g)(hs:autoParam (swapsWithSole [tg] e pos.line X.env=pure false) zA0._auto_1)(hw:autoParam (swappedStores [tg] e X.env=pure pY) zA0._auto_1)
  (h1:autoParam ((JS [tg] X.env).map (·.2)=[RF tg X.env]) zA0._auto_1):PS X (.Assign [tg] e pos) (ACY te g):=by
 intro ae s σ H D I h;refine wpAny_Assign_stores (thn (he ae s σ H _ I h) λv s1 ⟨x,H1,I1,r1,q1⟩=>?_) hs hw;rw[h1];exact thn (hg ae s1 σ H1 x v _ I1 r1 q1) λ_ s2 q=>q
theorem AEf(hN:X.N.Nodup)(hi:X.N[i]?=pX x)(hx:Loc X.env.scope x)(he:PE X e te)(hs:autoParam (Lm e (pX (.Name x a9)) pos.line X.env=pure false) zA0._auto_1)(hf:X.fn x=true\/X.env.scope.names.lookup x=pX .local:=by first| exact .inl rfl| exact .inr rfl| assumption) :
  PS X (.Assign [.Name x a9] e pos) (ACY te (gName i)):=by
 intro ae s σ H D I h;refine wpAny_Assign_Name (thn (he ae s σ H _ I h) λv s1 ⟨y,H1,I1,r1,q1⟩=>?_) hs;exact Sx I1 hN hi hx r1 (λs2 I2=>⟨_,H1,I2,q1⟩) hf
theorem Am(hN:X.N.Nodup)(he:PE X e te)(hi:autoParam (X.N[i]?=pX x) zA0._auto_1)(hx:Loc X.env.scope x:=by first| exact K1 rfl| exact MQ rfl)(hs:autoParam (Lm e (pX (.Name x a9)) pos.line X.env=pure false) zA0._auto_1)(hf:X.fn x=true\/X.env.scope.names.lookup x=pX .local:=by first| exact K1 rfl| exact MQ rfl) :
  PS X (.Assign [.Name x a9] e pos) (ACY te (gName i)):=AEf hN hi hx he hs hf
def AEo(c:TT)(tb:TS):TS:=λD σ H=>∃W:Nat->St->Hp->Prop,(∃m,W m σ H)/\∀m σ H,W m σ H ->
 c σ H λb H1=>if b=true then ∃N:St->Hp->Prop,(∀σ' H',N σ' H'->∃m',m'<m/\W m' σ' H')/\tb {D with nx:=N,ct:=N,bk:=D.nx} σ H1 else D.nx σ H1
theorem AAP{tb:TS}(hp:PassesOwn (AM X.prog X.w) X.A X.env X.xe)(hc:PT X c tc)(hb:PSs X body tb):PS X (.While c body [] pos) (AEo tc tb):=by
 intro ae s σ H D I h;obtain⟨W,⟨m0,w0⟩,turn⟩:=h;refine wpAny_While (codeAny_whileLoop (λn s'=>∃σ' H',Inv X ae σ' H' s'/\W n σ' H') ?_ m0 ⟨σ,H,I,w0⟩);rintro n s1 ⟨σ1,H1,I1,w1⟩;refine G0 hp (thn (hc ae s1 σ1 H1 _ I1 (turn n σ1 H1 w1)) λb s2 ⟨H2,I2,q2⟩=>?_);cases b with
 | true =>
  obtain⟨N,hN,q2⟩:=q2;rw[p6 rfl];refine G0 hp (thn (hb ae s2 σ1 H2 _ I2 q2) λf s3 q3=>?_);cases f with
  | next =>
   obtain⟨σ3,H3,I3,n3⟩:=q3;obtain⟨m',hm,w3⟩:=hN σ3 H3 n3;exact⟨m',hm,σ3,H3,I3,w3⟩
  | cont =>
   obtain⟨σ3,H3,I3,n3⟩:=q3;obtain⟨m',hm,w3⟩:=hN σ3 H3 n3;exact⟨m',hm,σ3,H3,I3,w3⟩
  | brk=>exact q3
  | ret v=>exact q3
 | false =>
  rw[pZ BB];exact LH ⟨σ1,H2,I2,q2⟩
structure It where
 go:Nat->Hp->Prop
 yld:Nat->Hp->V->Hp->Prop
 stop:Nat->Hp->Prop
def FpOk(X:Cx)(ae:qJ)(H:Hp)(b:Addr):Prop :=
 H b=pY/\b≠X.env.locals/\b∉X.fs/\(b∈X.ex\/X.s₀.heap.objs.size<=b)/\(∀x c,X.env.cells.lookup x=pX c->c≠b)/\∀p∈X.pn++ae,p.1≠b
theorem Inv.fpOk(I:Inv X ae σ H s)(hb:s.heap.objs.size<=b)(hn:H' b=pY):FpOk X ae H' b:=by
 refine⟨hn,WB (B9 I.lt hb),I.nofs hb,.inr (BQ I.sz hb),λx c e z=>?_,λp hp z=>?_⟩
 .obtain⟨v,q⟩:=I.cell x c e
  exact qB (B9 q.lt (by rw[z];exact hb)) (EF _)
 .exact qB (B9 (Be (I.pin p hp).1) (by rw[z];exact hb)) (EF _)
structure Turn(P:AK)(w:AQ)(K:Au)(tg:Expr)(J:It)(fp:qQ)(it:Addr)(tn:Nat->Heap->Prop):Prop where
 mem:it∈fp
 obj:∀i h,tn i h->∀b∈fp,∃o,h.get? b=pX o/\∀v,o.data≠.cell v
 keep:∀i h h',tn i h->(∀b∈fp,∀o,h.get? b=pX o->h'.get? b=pX o)->tn i h'
 item:∀(X:Cx),X.prog=P->X.w=w->X.K=K->X.calm=true->∀(i:Nat) (ae:qJ) (s:AA) (σ:St) (H:Hp) (E:As->AA->Prop),Inv X ae σ H s->(∀b∈fp,FpOk X ae H b)->tn i s.heap->J.go i H ->
  wpAny (AM P w) X.A (K2 (.ref it)) (λr s1=>∃u,r=pX u /\
   wpAny (AM P w) X.A (LI tg (.ref it) u) (λ_ s2=>∃x H',Inv X ae σ H' s2/\RelV x u/\J.yld i H x H'/\tn (i+1) s2.heap/\∀b∈fp,H' b=pY) E s1) E s
 done:∀(X:Cx),X.prog=P->X.w=w->X.K=K->X.calm=true->∀(i:Nat) (ae:qJ) (s:AA) (σ:St) (H:Hp) (E:As->AA->Prop),Inv X ae σ H s->(∀b∈fp,FpOk X ae H b)->tn i s.heap->J.stop i H ->
  wpAny (AM P w) X.A (K2 (.ref it)) (λr s1=>r=pY/\Inv X ae σ H s1) E s
 self:∀(A:BO) (i:Nat) (s:AA) (Q:As->AA->Prop) (E:As->AA->Prop),tn i s.heap->Q (.ref it) s->wpAny (AM P w) A (O8 (.ref it)) Q E s
abbrev TI:=St->Hp->(It->Hp->Prop)->Prop
def PIE(X:Cx)(ae:qJ)(σ:St)(tg:Expr)(R:It->Hp->Prop)(itv:As)(s2:AA):Prop :=
 ∃(it:Addr) (fp:qQ) (tn:Nat->Heap->Prop) (J:It) (H':Hp),itv=.ref it/\Inv X ae σ H' s2/\Turn X.prog X.w X.K tg J fp it tn/\tn 0 s2.heap/\(∀b∈fp,FpOk X ae H' b)/\R J H'
def PI(X:Cx)(tg iter:Expr)(wi:TI):Prop :=
 ∀(ae:qJ) (s:AA) (σ:St) (H:Hp) (R:It->Hp->Prop),Inv X ae σ H s->wi σ H R ->
  wpAny (AM X.prog X.w) X.A (eval iter X.env) (λv s1=>wpAny (AM X.prog X.w) X.A (O8 v) (PIE X ae σ tg R) X.xe s1) X.xe s
theorem Xi{M:VZ}{n:String}{vs:Array As}{Q:qH}(ho:s.heap.get? it=pX o)(hc:o.cls=.type n)(hd:o.data=.fields vs)
  (hn:["enumerate","zip","dict_itemiterator","dict_reverseitemiterator","odict_iterator","itertools.zip_longest","itertools.pairwise"].contains n=false) (hQ:Q () s):wpAny M A (LI tg (.ref it) u) Q E s:=by
 unfold LI;cases tg<;>first
  | exact AC hQ
  | (cases u<;>first
    | exact AC hQ
    | (
      refine Ap (P4 ho ?_);rw[hc,hd];show wpAny M A (if(["enumerate","zip","dict_itemiterator","dict_reverseitemiterator","odict_iterator","itertools.zip_longest","itertools.pairwise"].contains n&&vs[0]? == pX (FY _))=true then _ else _) Q E s;rw[pZ (by intro h;rw[hn,O9] at h;cases h)];exact AC hQ))
def Itl(K:Au)(a:Addr):It :=
 ⟨λi H=>∃xs x,SqL K H a xs/\xs[i]?=pX x,λi H x H'=>H'=H/\∀xs,SqL K H a xs->xs[i]?=pX x,λi H=>∃xs,SqL K H a xs/\xs.length<=i⟩
def Itt(K:Au)(a:Addr):It :=
 ⟨λi H=>∃xs x,SqT K H a xs/\xs[i]?=pX x,λi H x H'=>H'=H/\∀xs,SqT K H a xs->xs[i]?=pX x,λi H=>∃xs,SqT K H a xs/\xs.length<=i⟩
def Itr(lo:Int)(n:Nat):It:=⟨λi _=>i<n,λi H x H'=>H'=H/\x=.int (lo+i),λi _=>n<=i⟩
theorem Xp(a it:Addr):Turn P w K tg (Itl K a) [it] it (λi h=>h.IsListIter it a i) where
 mem:=by simp
 obj:=λi h st b hb=>by
  have e:b=it:=by simpa using hb
  subst e;obtain⟨o,e,c,d⟩:=st;exact⟨o,e,λv z=>by rw[d] at z;cases z⟩
 keep:=λi h h' st k=>st.at λo e=>k it (by simp) o e
 item:=by
  intro X hP hw hK hc i ae s σ H E I hf st hg;subst hP hw hK;obtain⟨xs,x,hq,hx⟩:=hg;obtain⟨ah,rv,p,hz⟩:=I.list hq;obtain⟨u,hu,ru⟩:=rv.get hx;obtain⟨f0,f1,f2,f3,f4,f5⟩:=hf it (by simp);refine wpAny_pyNext_list_item st p.isList (x:=u) (by simpa using hu) λh' ar sb=>?_;have I1:=I.turned (t':=s.toks) (λb o hb e=>(sb.2 b hb).trans e) f0 f1 f3 f4 f5;obtain⟨o,e,c,d⟩:=id ar;exact⟨u,rfl,Xi (s:={s with heap:=h'}) e c d (by decide) ⟨x,H,I1,ru,⟨rfl,λys hy=>by rw[I.list_inj hy hq];exact hx⟩,ar,λb hb=>(hf b hb).1⟩⟩
 done:=by
  intro X hP hw hK hc i ae s σ H E I hf st hg;subst hP hw hK;obtain⟨xs,hq,hx⟩:=hg;obtain⟨ah,rv,p,hz⟩:=I.list hq;obtain⟨f0,f1,f2,f3,f4,f5⟩:=hf it (by simp);have hl:=rv.length;exact wpAny_pyNext_list_end (I.ok.hd hc) st p.isList (by simp;exact qF hl hx) λh' eb=>⟨rfl,I.turned (t':=s.toks) (λb o hb e=>eb b o hb e) f0 f1 f3 f4 f5⟩
 self:=λ_ _ _ _ _ st h=>wpAny_pyIter_listiter st h
theorem Uj(a it:Addr):Turn P w K tg (Itt K a) [it] it (λi h=>h.IsTupleIter it a i) where
 mem:=by simp
 obj:=λi h st b hb=>by
  have e:b=it:=by simpa using hb
  subst e;obtain⟨o,e,c,d⟩:=st;exact⟨o,e,λv z=>by rw[d] at z;cases z⟩
 keep:=λi h h' st k=>st.at λo e=>k it (by simp) o e
 item:=by
  intro X hP hw hK hc i ae s σ H E I hf st hg;subst hP hw hK;obtain⟨xs,x,hq,hx⟩:=hg;obtain⟨ah,rv,p,hz⟩:=I.tuple hq;obtain⟨u,hu,ru⟩:=rv.get hx;obtain⟨f0,f1,f2,f3,f4,f5⟩:=hf it (by simp);refine wpAny_pyNext_tuple_item st p (x:=u) (by simpa using hu) λh' ar sb=>?_;have I1:=I.turned (t':=s.toks) (λb o hb e=>(sb.2 b hb).trans e) f0 f1 f3 f4 f5;obtain⟨o,e,c,d⟩:=id ar;exact⟨u,rfl,Xi (s:={s with heap:=h'}) e c d (by decide) ⟨x,H,I1,ru,⟨rfl,λys hy=>by rw[I.tuple_inj hy hq];exact hx⟩,ar,λb hb=>(hf b hb).1⟩⟩
 done:=by
  intro X hP hw hK hc i ae s σ H E I hf st hg;subst hP hw hK;obtain⟨xs,hq,hx⟩:=hg;obtain⟨ah,rv,p,hz⟩:=I.tuple hq;obtain⟨f0,f1,f2,f3,f4,f5⟩:=hf it (by simp);have hl:=rv.length;exact wpAny_pyNext_tuple_end (I.ok.hd hc) st p (by simp;exact qF hl hx) λh' eb=>⟨rfl,I.turned (t':=s.toks) (λb o hb e=>eb b o hb e) f0 f1 f3 f4 f5⟩
 self:=λ_ _ _ _ _ st h=>wpAny_pyIter_tupleiter st h
theorem Us(it:Addr)(lo:Int)(n:Nat):Turn P w K tg (Itr lo n) [it] it (λi h=>IsRangeIter h it (lo+(i:Nat)*1) ((n:Int)-(i:Nat)) 1) where
 mem:=by simp
 obj:=λi h st b hb=>by
  have e:b=it:=by simpa using hb
  subst e;exact⟨_,st,λv z=>by
   have z':=z;cases z'⟩
 keep:=λi h h' st k=>k it (by simp) _ st
 item:=by
  intro X hP hw hK hc i ae s σ H E I hf st hg;subst hP hw hK;obtain⟨f0,f1,f2,f3,f4,f5⟩:=hf it (by simp);have W:=XA (prog:=X.prog) (w:=X.w) (I.ok.hd hc) it lo 1 n;refine W.item i s _ _ hg st λv h' tk hv ar kk=>?_;obtain⟨t,rfl⟩:=hv;have I1:Inv X ae σ H {s with heap:=h',toks:=tk}:=I.turned (λb o hb e=>kk b o (by simpa using hb) e) f0 f1 f3 f4 f5;refine⟨_,rfl,Xi (s:={s with heap:=h',toks:=tk}) (n:="range_iterator") ar rfl rfl (by decide) ⟨.int (lo+i),H,I1,⟨t,?_⟩,⟨rfl,rfl⟩,ar,λb hb=>(hf b hb).1⟩⟩;rw[XB]
 done:=by
  intro X hP hw hK hc i ae s σ H E I hf st hg;subst hP hw hK;obtain⟨f0,f1,f2,f3,f4,f5⟩:=hf it (by simp);exact OS (I.ok.hd hc) st (by have:n<=i:=hg;exact vc this) λh' eb=>⟨rfl,I.turned (t':=s.toks) (λb o hb e=>eb b o hb e) f0 f1 f3 f4 f5⟩
 self:=λ_ _ _ _ _ st h=>OT st h
def AFa(K:Au)(tl:TE):TI:=λσ H R=>tl σ H λx H1=>∃a,x=.ref a/\(∃xs,SqL K H1 a xs)/\R (Itl K a) H1
def AFd(K:Au)(tl:TE):TI:=λσ H R=>tl σ H λx H1=>∃a,x=.ref a/\(∃xs,SqT K H1 a xs)/\R (Itt K a) H1
theorem CT{l:Expr}{tl:TE}(hl:PE X l tl):PI X tg l (AFa X.K tl):=by
 intro ae s σ H R I h;refine thn (hl ae s σ H _ I h) λv s1 ⟨x,H1,I1,r1,q1⟩=>?_;obtain⟨a,e,⟨xs,hq⟩,q⟩:=q1;subst e;cases r1;obtain⟨ah,rv,p,hz⟩:=I1.list hq;refine Nc p.isList ?_;refine⟨s1.heap.objs.size,[s1.heap.objs.size],_,_,H1,rfl,I1.kept (t':=s1.toks) λb o e=>AG _ e,Xp a _,⟨_,AS _ rfl,rfl,rfl⟩,λb hb=>?_,q⟩;have e:b=s1.heap.objs.size:=by simpa using hb
 subst e;exact I1.fpOk (AH _) (I1.hok.fresh (AH _))
theorem ABr{l:Expr}{tl:TE}(hl:PE X l tl):PI X tg l (AFd X.K tl):=by
 intro ae s σ H R I h;refine thn (hl ae s σ H _ I h) λv s1 ⟨x,H1,I1,r1,q1⟩=>?_;obtain⟨a,e,⟨xs,hq⟩,q⟩:=q1;subst e;cases r1;obtain⟨ah,rv,p,hz⟩:=I1.tuple hq;refine Ki p ?_;refine⟨s1.heap.objs.size,[s1.heap.objs.size],_,_,H1,rfl,I1.kept (t':=s1.toks) λb o e=>AG _ e,Uj a _,⟨_,AS _ rfl,rfl,rfl⟩,λb hb=>?_,q⟩;have e:b=s1.heap.objs.size:=by simpa using hb
 subst e;exact I1.fpOk (AH _) (I1.hok.fresh (AH _))
theorem Rj{R:It->Hp->Prop}{lo hi:Int}{t u v:Tok}(I:Inv X ae σ H s)(h1:-(2 ^ 62)<=lo)(h2:lo<2 ^ 62)(h3:-(2 ^ 62)<=hi)(h4:hi<2 ^ 62)
  (q:R (Itr lo (hi-lo).toNat) H):wpAny (AM X.prog X.w) X.A (O8 (.ref s.heap.objs.size)) (PIE X ae σ tg R) E {s with heap:=s.heap.push {cls:=.type "range",data:=.fields #[.int lo t,.int hi u,.int 1 v]},toks:=tk}:=by
 refine RH (XE ..) (small_one h1 h2 h3 h4) ?_;have I1:Inv X ae σ H {s with heap:=s.heap.push {cls:=.type "range",data:=.fields #[.int lo t,.int hi u,.int 1 v]},toks:=tk}:=I.kept λb o e=>AG _ e;refine⟨(s.heap.push {cls:=.type "range",data:=.fields #[.int lo t,.int hi u,.int 1 v]}).objs.size,[(s.heap.push {cls:=.type "range",data:=.fields #[.int lo t,.int hi u,.int 1 v]}).objs.size],_,_,H,rfl,
  I1.kept (t':=tk) λb o e=>AG _ e,Us _ lo (hi-lo).toNat,?_,λb hb=>?_,q⟩
 .have e1:lo+((0:Nat):Int)*1=lo:=by simp
  have e2:(((hi-lo).toNat:Nat):Int)-((0:Nat):Int)=EU lo hi 1:=by rw[rangeSize_one];split<;>lia
  rw[e1,e2];exact AS _ rfl
 .have e:b=(s.heap.push {cls:=.type "range",data:=.fields #[.int lo t,.int hi u,.int 1 v]}).objs.size:=by simpa using hb
  subst e;exact I1.fpOk (AH _) (I1.hok.fresh (AH _))
def AFl(ta:TA):TI:=λσ H R=>ta σ H λvs H1=>∃j:Int,vs=[.int j]/\-(2 ^ 62)<=j/\j<2 ^ 62/\R (Itr 0 j.toNat) H1
def AFq(ta:TA):TI:=λσ H R=>ta σ H λvs H1=>∃i j:Int,vs=[.int i,.int j]/\(-(2 ^ 62)<=i/\i<2 ^ 62/\-(2 ^ 62)<=j/\j<2 ^ 62)/\R (Itr i (j-i).toNat) H1
theorem Dz{a:Expr}{ta:TA}{p:Pos}(hg:Gl X "range")(hm:X.mg "range" = pY)(ha:PA X [a] ta)(hs:autoParam (Cs [a] X.env=[(false,eval a X.env)]) zA0._auto_1):PI X tg (.Call (.Name "range" p) [a] [] pos) (AFl ta):=by
 intro ae s σ H R I h;refine Call_ (Fz I hg hm OE (EC (thn (ha pos ae s σ H _ I h) λus s1 ⟨vs,H1,I1,r1,q1⟩=>?_) hs rfl));obtain⟨j,e,q1,q2,q⟩:=q1;subst e;cases r1 with
 | cons r rr =>
  cases rr;obtain⟨t,rfl⟩:=r;exact call_range_1 (Rj I1 (by lia) (by lia) q1 q2 (by simpa using q))
theorem Xo{a b:Expr}{ta:TA}{p:Pos}(hg:Gl X "range")(hm:X.mg "range" = pY)(ha:PA X [a,b] ta)(hs:autoParam (Cs [a,b] X.env=[(false,eval a X.env),(false,eval b X.env)]) zA0._auto_1)(kB:autoParam (Cs [b] X.env=[(false,eval b X.env)]) zA0._auto_1) :
  PI X tg (.Call (.Name "range" p) [a,b] [] pos) (AFq ta):=by
 intro ae s σ H R I h;refine Call_ (Fz I hg hm OE (EC (thn (ha pos ae s σ H _ I h) λus s1 ⟨vs,H1,I1,r1,q1⟩=>?_) (by rw[hs,kB]) (by rw[kB];rfl)));obtain⟨i,j,e,⟨q1,q2,q3,q4⟩,q⟩:=q1;subst e;cases r1 with
 | cons r rr =>
  cases rr with
  | cons r' rr =>
   cases rr;obtain⟨t,rfl⟩:=r;obtain⟨t',rfl⟩:=r';exact call_range_2 (Rj I1 q1 q2 q3 q4 q)
def AGA(wi:TI)(g:TG)(tb:TS):TS:=λD σ H=>wi σ H λJ H1=>∃W:Nat->Nat->St->Hp->Prop,(∃m,W 0 m σ H1)/\∀i m σ H,W i m σ H ->
 (J.stop i H/\D.nx σ H)\/(J.go i H/\∃N:St->Hp->Prop,(∀σ' H',N σ' H'->∃m',m'<m/\W (i+1) m' σ' H')/\∀x H',J.yld i H x H'->g x σ H' λσ2 H2=>tb {D with nx:=N,ct:=N,bk:=D.nx} σ2 H2)
def pinsAt(fp:qQ)(h:Heap):qJ:=fp.filterMap λb=>(h.get? b).map λo=>(b,o)
theorem FT(hb:b∈fp)(e:h.get? b=pX o):(b,o)∈pinsAt fp h:=MR.mpr ⟨b,hb,by rw[e];rfl⟩
theorem YK{p:Addr×Obj}(hp:p∈pinsAt fp h):p.1∈fp/\h.get? p.1=pX p.2:=by
 obtain⟨b,hb,e⟩:=MR.mp hp;cases q:h.get? b with
 | none=>rw[q] at e;cases e
 | some o =>
  rw[q] at e;have e':=A8 e;subst e';exact⟨hb,q⟩
theorem Inv.pinned(I:Inv X ae σ H s)(hf:∀b∈fp,FpOk X ae H b)(ho:∀b∈fp,∃o,s.heap.get? b=pX o/\∀v,o.data≠.cell v):Inv X (ae++pinsAt fp s.heap) σ H s :=
 I.pins_of λp hp=>(Cf.mp hp).elim (λz=>I.pin p (B4 _ z)) λz=>by
  obtain⟨hb,e⟩:=YK z;obtain⟨f0,f1,f2,_⟩:=hf p.1 hb;obtain⟨o,e',d⟩:=ho p.1 hb;rw[e] at e';cases e';exact⟨e,f0,f1,f2,d⟩
theorem Inv.unpinned{pl:qJ}(I:Inv X (ae++pl) σ H s):Inv X ae σ H s:=I.pins_of λp hp=>I.pin p (B4 _ (FB _ hp))
theorem En{iter:Expr}{wi:TI}{g:TG}{tb:TS}(hp:PassesOwn (AM X.prog X.w) X.A X.env X.xe)(hc:X.calm=true)(hi:PI X tg iter wi)(hg:PG X tg g)(hb:PSs X body tb)
  (hs:autoParam (∀x,Nl iter X.env x=pure x) zA2._auto_1):PS X (.For tg iter body [] pos) (AGA wi g tb):=by
 intro ae s σ H D I h;refine wpAny_For (thn (hi ae s σ H _ I h) λv s1 h1=>thn h1 λitv s2 h2=>?_) hs;obtain⟨it,fp,tn,J,H2,e,I2,T,a8,f2,W,⟨m0,w0⟩,turn⟩:=h2;subst e;have dL:∀{H':Hp},(∀b∈fp,H' b=pY)->∀b∈fp,FpOk X ae H' b:=λhn b hb=>⟨hn b hb,(f2 b hb).2⟩;refine codeAny_forLoop_any (λn s'=>∃i σ' H',Inv X ae σ' H' s'/\tn i s'.heap/\(∀b∈fp,H' b=pY)/\W i n σ' H') ?_ m0 ⟨0,σ,H2,I2,a8,λb hb=>(f2 b hb).1,w0⟩;rintro n s3 ⟨i,σ3,H3,I3,cm,fr3,w3⟩;rcases turn i n σ3 H3 w3 with⟨stop,qn⟩| ⟨go,N,hN,step⟩
 .refine G0 hp (thn (T.done X rfl rfl rfl hc i ae s3 σ3 H3 X.xe I3 (dL fr3) cm stop) λr s4 ⟨hr,I4⟩=>?_)
  subst hr;exact LH ⟨σ3,H3,I4,qn⟩
 .refine G0 hp (thn (T.item X rfl rfl rfl hc i ae s3 σ3 H3 X.xe I3 (dL fr3) cm go) λr s4 ⟨u,hr,h4⟩=>?_)
  subst hr;refine G0 hp (thn h4 λ_ s5 ⟨x,H5,I5,r5,y5,mQ,fr5⟩=>?_);have I5':=I5.pinned (dL fr5) (T.obj _ _ mQ);refine G0 hp (thn (hg _ s5 σ3 H5 x u _ I5' r5 (step x H5 y5)) λ_ s6 ⟨σ6,H6,I6,q6⟩=>?_);refine G0 hp (thn (hb _ s6 σ6 H6 _ I6 q6) λf s7 q7=>?_);have again:∀{σ7:St}{H7:Hp},Inv X (ae++pinsAt fp s5.heap) σ7 H7 s7->N σ7 H7->∃m,m<n/\∃i σ' H',Inv X ae σ' H' s7/\tn i s7.heap/\(∀b∈fp,H' b=pY)/\W i m σ' H':=λ{σ7 H7} I7 n7=>by
   obtain⟨m',hm,w7⟩:=hN σ7 H7 n7;refine⟨m',hm,i+1,σ7,H7,I7.unpinned,T.keep _ _ _ mQ λb hb o e=>(I7.pin (b,o) (B4 _ (B4 _ (FT hb e)))).1,λb hb=>?_,w7⟩;obtain⟨o,e,d⟩:=T.obj _ _ mQ b hb;exact(I7.pin (b,o) (B4 _ (B4 _ (FT hb e)))).2.1
  cases f with
  | next=>obtain⟨σ7,H7,I7,n7⟩:=q7;exact again I7 n7
  | cont=>obtain⟨σ7,H7,I7,n7⟩:=q7;exact again I7 n7
  | brk=>obtain⟨σ7,H7,I7,q7⟩:=q7;exact⟨σ7,H7,I7.unpinned,q7⟩
  | ret v=>obtain⟨x7,σ7,H7,I7,r7,q7⟩:=q7;exact⟨x7,σ7,H7,I7.unpinned,r7,q7⟩
theorem Eu{g:TG}{tb:TS}{D:Ends}(Pv:Nat->St->Hp->Prop)(h0:Pv 0 σ H)(hl:∀i σ H,i<=xs.length->Pv i σ H->SqL K H a xs)
  (hs:∀i x σ H,xs[i]?=pX x->Pv i σ H->g x σ H λσ2 H2=>tb {D with nx:=Pv (i+1),ct:=Pv (i+1),bk:=D.nx} σ2 H2) (hd:∀σ H,Pv xs.length σ H->D.nx σ H) :
  ∃W:Nat->Nat->St->Hp->Prop,(∃m,W 0 m σ H)/\∀i m σ H,W i m σ H ->
   ((Itl K a).stop i H/\D.nx σ H)\/((Itl K a).go i H/\∃N:St->Hp->Prop,(∀σ' H',N σ' H'->∃m',m'<m/\W (i+1) m' σ' H')/\∀x H',(Itl K a).yld i H x H'->g x σ H' λσ2 H2=>tb {D with nx:=N,ct:=N,bk:=D.nx} σ2 H2):=by
 refine⟨λi m σ H=>m=xs.length-i/\i<=xs.length/\Pv i σ H,⟨xs.length,by simp,BD _,h0⟩,?_⟩;rintro i m σ H ⟨rfl,hi,p⟩;have q:=hl i σ H hi p;by_cases bn:i<xs.length
 .refine .inr ⟨⟨xs,xs[i],q,by simp[bn]⟩,Pv (i+1),λσ' H' p'=>⟨xs.length-(i+1),rS bn,rfl,bn,p'⟩,λx H' y=>?_⟩
  obtain⟨e,y⟩:=y;subst e;exact hs i x σ _ (y xs q) p
 .have e:i=xs.length:=rF hi bn
  subst e;exact .inl ⟨⟨xs,q,AH _⟩,hd σ H p⟩
theorem ABt{g:TG}{tb:TS}{D:Ends}(Pv:Nat->St->Hp->Prop)(h0:Pv 0 σ H)(hl:∀i σ H,i<=xs.length->Pv i σ H->SqT K H a xs)
  (hs:∀i x σ H,xs[i]?=pX x->Pv i σ H->g x σ H λσ2 H2=>tb {D with nx:=Pv (i+1),ct:=Pv (i+1),bk:=D.nx} σ2 H2) (hd:∀σ H,Pv xs.length σ H->D.nx σ H) :
  ∃W:Nat->Nat->St->Hp->Prop,(∃m,W 0 m σ H)/\∀i m σ H,W i m σ H ->
   ((Itt K a).stop i H/\D.nx σ H)\/((Itt K a).go i H/\∃N:St->Hp->Prop,(∀σ' H',N σ' H'->∃m',m'<m/\W (i+1) m' σ' H')/\∀x H',(Itt K a).yld i H x H'->g x σ H' λσ2 H2=>tb {D with nx:=N,ct:=N,bk:=D.nx} σ2 H2):=by
 refine⟨λi m σ H=>m=xs.length-i/\i<=xs.length/\Pv i σ H,⟨xs.length,by simp,BD _,h0⟩,?_⟩;rintro i m σ H ⟨rfl,hi,p⟩;have q:=hl i σ H hi p;by_cases bn:i<xs.length
 .refine .inr ⟨⟨xs,xs[i],q,by simp[bn]⟩,Pv (i+1),λσ' H' p'=>⟨xs.length-(i+1),rS bn,rfl,bn,p'⟩,λx H' y=>?_⟩
  obtain⟨e,y⟩:=y;subst e;exact hs i x σ _ (y xs q) p
 .have e:i=xs.length:=rF hi bn
  subst e;exact .inl ⟨⟨xs,q,AH _⟩,hd σ H p⟩
theorem Xx{lo:Int}{g:TG}{tb:TS}{D:Ends}(Pv:Nat->St->Hp->Prop)(h0:Pv 0 σ H)
  (hs:∀i σ H,i<n->Pv i σ H->g (.int (lo+i)) σ H λσ2 H2=>tb {D with nx:=Pv (i+1),ct:=Pv (i+1),bk:=D.nx} σ2 H2) (hd:∀σ H,Pv n σ H->D.nx σ H) :
  ∃W:Nat->Nat->St->Hp->Prop,(∃m,W 0 m σ H)/\∀i m σ H,W i m σ H ->
   ((Itr lo n).stop i H/\D.nx σ H)\/((Itr lo n).go i H/\∃N:St->Hp->Prop,(∀σ' H',N σ' H'->∃m',m'<m/\W (i+1) m' σ' H')/\∀x H',(Itr lo n).yld i H x H'->g x σ H' λσ2 H2=>tb {D with nx:=N,ct:=N,bk:=D.nx} σ2 H2):=by
 refine⟨λi m σ H=>m=n-i/\i<=n/\Pv i σ H,⟨n,by simp,BD _,h0⟩,?_⟩;rintro i m σ H ⟨rfl,hi,p⟩;by_cases bn:i<n
 .refine .inr ⟨bn,Pv (i+1),λσ' H' p'=>⟨n-(i+1),rS bn,rfl,bn,p'⟩,λx H' y=>?_⟩
  obtain⟨e,y⟩:=y;subst e y;exact hs i σ _ bn p
 .have e:i=n:=rF hi bn
  subst e;exact .inl ⟨AH _,hd σ H p⟩
abbrev R2:=V->V->Hp->VK->Prop
def OpR(X:Cx)(f:As->As->Sem As)(r:R2):Prop :=
 ∀(ae:qJ) (s:AA) (σ:St) (H:Hp) (x y:V) (v u:As) (Q:VK),Inv X ae σ H s->RelV x v->RelV y u->r x y H Q ->
  wpAny (AM X.prog X.w) X.A (f v u) (EP X ae σ Q) X.xe s
def UnR(X:Cx)(f:As->Sem As)(r:V->Hp->VK->Prop):Prop :=
 ∀(ae:qJ) (s:AA) (σ:St) (H:Hp) (x:V) (v:As) (Q:VK),Inv X ae σ H s->RelV x v->r x H Q ->
  wpAny (AM X.prog X.w) X.A (f v) (EP X ae σ Q) X.xe s
def CallR(X:Cx)(f:As)(r:List V->Hp->VK->Prop):Prop :=
 ∀(ae:qJ) (s:AA) (σ:St) (H:Hp) (xs:List V) (us:List As) (Q:VK),Inv X ae σ H s->Vals xs us->r xs H Q ->
  wpAny (AM X.prog X.w) X.A (call f us) (EP X ae σ Q) X.xe s
def tOp(r:R2)(ta tb:TE):TE:=λσ H Q=>ta σ H λx H1=>tb σ H1 λy H2=>r x y H2 Q
def tUn(r:V->Hp->VK->Prop)(ta:TE):TE:=λσ H Q=>ta σ H λx H1=>r x H1 Q
def rI(C:Int->Int->Prop)(g:Int->Int->V):R2:=λx y H Q=>E2 λi j=>A4 (x=.int i) (y=.int j) (C i j) (Q (g i j) H)
def rI0(g:Int->Int->V):R2:=λx y H Q=>E2 λi j=>A3 (x=.int i) (y=.int j) (Q (g i j) H)
def rU(g:Int->V):V->Hp->VK->Prop:=λx H Q=>∃i,x=.int i/\Q (g i) H
section
variable{a b:Expr}{ta tb tc:TE}
theorem binT(ha:PE X a ta)(hb:PE X b tb){R:V->V->Hp->Prop}(I:Inv X ae σ H s)
  (h:ta σ H λx H1=>tb σ H1 λy H2=>R x y H2){f:As->As->Sem As}
  (hf:∀v u s2 x y H2,Inv X ae σ H2 s2->RelV x v->RelV y u->R x y H2->wpAny (AM X.prog X.w) X.A (f v u) Q X.xe s2) :
  wpAny (AM X.prog X.w) X.A (eval a X.env) (λv s₁=>wpAny (AM X.prog X.w) X.A (eval b X.env) (λu s₂=>wpAny (AM X.prog X.w) X.A (f v u) Q X.xe s₂) X.xe s₁) X.xe s:=by
 refine thn (ha ae s σ H _ I h) λv s1 ⟨x,H1,I1,r1,q1⟩=>?_;refine thn (hb ae s1 σ H1 _ I1 q1) λu s2 ⟨y,H2,I2,r2,q2⟩=>?_;exact hf v u s2 x y H2 I2 r1 r2 q2
theorem Ar{op:Operator}{r:R2}(ho:OpR X (G2 op) r)(ha:PE X a ta)(hb:PE X b tb):PE X (.BinOp a op b pos) (tOp r ta tb):=by
 intro ae s σ H Q I h;exact wpAny_BinOp (binT ha hb I h λv u s2 x y H2 I2 rx ry q=>ho ae s2 σ H2 x y v u Q I2 rx ry q)
theorem WY{op:UnaryOp}{r:V->Hp->VK->Prop}(ho:UnR X (unaryOp op) r)(ha:PE X a ta):PE X (.UnaryOp op a pos) (tUn r ta):=by
 intro ae s σ H Q I h;exact UnaryOp_ (thn (ha ae s σ H _ I h) λv s1 ⟨x,H1,I1,r1,q1⟩=>ho ae s1 σ H1 x v Q I1 r1 q1)
theorem opI{f:As->As->Sem As}{C:Int->Int->Prop}{g:Int->Int->Int}
  (rule:∀(i j:Int) (t u:Tok) (s:AA) (Q:As->AA->Prop) (E:As->AA->Prop),C i j->Q (.int (g i j) s.toks) {s with toks:=s.toks+1}->wpAny (AM X.prog X.w) X.A (f (.int i t) (.int j u)) Q E s) :
  OpR X f (rI C λi j=>.int (g i j)):=by
 intro ae s σ H x y v u Q I rx ry h;obtain⟨i,j,rfl,rfl,hc,q⟩:=h;obtain⟨t,rfl⟩:=rx;obtain⟨t',rfl⟩:=ry;exact rule i j t t' s _ _ hc ⟨.int (g i j),H,I.tok _,⟨_,rfl⟩,q⟩
theorem opI0{f:As->As->Sem As}{g:Int->Int->Int}
  (rule:∀(i j:Int) (t u:Tok) (s:AA) (Q:As->AA->Prop) (E:As->AA->Prop),Q (.int (g i j) s.toks) {s with toks:=s.toks+1}->wpAny (AM X.prog X.w) X.A (f (.int i t) (.int j u)) Q E s) :
  OpR X f (rI0 λi j=>.int (g i j)):=by
 intro ae s σ H x y v u Q I rx ry h;obtain⟨i,j,rfl,rfl,q⟩:=h;obtain⟨t,rfl⟩:=rx;obtain⟨t',rfl⟩:=ry;exact rule i j t t' s _ _ ⟨.int (g i j),H,I.tok _,⟨_,rfl⟩,q⟩
theorem opB0{f:As->As->Sem As}{g:Int->Int->Bool}
  (rule:∀(i j:Int) (t u:Tok) (s:AA) (Q:As->AA->Prop) (E:As->AA->Prop),Q (.bool (g i j)) s->wpAny (AM X.prog X.w) X.A (f (.int i t) (.int j u)) Q E s) :
  OpR X f (rI0 λi j=>.bl (g i j)):=by
 intro ae s σ H x y v u Q I rx ry h;obtain⟨i,j,rfl,rfl,q⟩:=h;obtain⟨t,rfl⟩:=rx;obtain⟨t',rfl⟩:=ry;exact rule i j t t' s _ _ ⟨.bl (g i j),H,I,rfl,q⟩
def CDiv(i j:Int):Prop:=0<j/\j<1073741824
def CMul(i j:Int):Prop:=(-(2 ^ 64)<i/\i<2 ^ 64)\/(-(2 ^ 64)<j/\j<2 ^ 64)
theorem CMul.ok{i j:Int}(h:CMul i j):IntMulOk i j:=by
 rcases h with⟨h1,h2⟩| ⟨h1,h2⟩
 .exact .of_left (intBits_le_64 h1 h2)
 .exact .of_right (intBits_le_64 h1 h2)
theorem CZ:OpR X (G2 .Add) (rI0 λi j=>.int (i+j)):=opI0 λ_ _ _ _ _ _ _ q=>add_int q
theorem Fv:OpR X (G2 .Sub) (rI0 λi j=>.int (i-j)):=opI0 λ_ _ _ _ _ _ _ q=>sub_int q
theorem Ir:OpR X (G2 .Mult) (rI CMul λi j=>.int (i*j)):=opI λ_ _ _ _ _ _ _ hc q=>mul_int q hc.ok
theorem FW:OpR X (G2 .FloorDiv) (rI CDiv λi j=>.int (i / j)):=opI λi j _ _ _ _ _ hc q=>by
 have h1:=hc.1;have h2:=hc.2;exact floordiv_int (ut h1) (by rw[Int.fdiv_eq_ediv_of_nonneg i (tz h1)];exact q) (.inl (OU (by lia)))
theorem Cq:OpR X (G2 .Mod) (rI (λ_ j=>0<j) λi j=>.int (i%j)):=opI λi j _ _ _ _ _ hc q=>by
 have h1:=hc;exact mod_int' (ut hc) (by rw[Int.fmod_eq_emod_of_nonneg i (tz hc)];exact q)
theorem unI{f:As->Sem As}{g:Int->Int}
  (rule:∀(i:Int) (t:Tok) (s:AA) (Q:As->AA->Prop) (E:As->AA->Prop),Q (.int (g i) s.toks) {s with toks:=s.toks+1}->wpAny (AM X.prog X.w) X.A (f (.int i t)) Q E s) :
  UnR X f (rU λi=>.int (g i)):=by
 intro ae s σ H x v Q I rx h;obtain⟨i,rfl,q⟩:=h;obtain⟨t,rfl⟩:=rx;exact rule i t s _ _ ⟨.int (g i),H,I.tok _,⟨_,rfl⟩,q⟩
theorem QF:UnR X (unaryOp .USub) (rU λi=>.int (-i)):=unI λ_ _ _ _ _ q=>neg_int q
end
def scal:V->V->Bool
 | .non,.non=>true| .non,.int _=>true| .int _,.non=>true| .non,.bl _=>true| .bl _,.non=>true| .non,.str _=>true| .str _,.non=>true
 | .int _,.int _=>true| .bl _,.bl _=>true| .str _,.str _=>true| .byt _,.byt _=>true
 | .int _,.str _=>true| .str _,.int _=>true| .bl _,.str _=>true| .str _,.bl _=>true
 | _,_=>false
def rEq:R2:=λx y H Q=>scal x y=true/\Q (.bl (decide (x=y))) H
def rNe:R2:=λx y H Q=>scal x y=true/\Q (.bl (!decide (x=y))) H
theorem WQ{i j:Int}:decide (V.int i=V.int j)=(i==j):=by
 rw[LJ];simp
theorem ABf{i j:Bool}:decide (V.bl i=V.bl j)=(i==j):=by
 rw[LJ];simp
theorem Xf{i j:Str}:decide (V.str i=V.str j)=(i==j):=by
 rw[LJ];simp
theorem WK{i j:Array UInt8}:decide (V.byt i=V.byt j)=(i.toList==j.toList):=by
 rw[LJ];cases i;cases j;simp
section
variable{a b:Expr}{ta tb tc:TE}
theorem BP{Q:VK}{k k':Bool}(I:Inv X ae σ H s)(q:Q (.bl k) H)(e:k=k'):EP X ae σ Q (.bool k') s:=by
 subst e;exact⟨.bl k,H,I,rfl,q⟩
theorem Hl:OpR X (DM .Eq) rEq:=by
 intro ae s σ H x y v u Q I rx ry h;obtain⟨hs,q⟩:=h;cases x with
 | non =>
  cases rx;cases y with
  | non=>cases ry;exact V0 (BP I q (by simp))
  | bl j=>cases ry;exact V1 (BP I q (by simp))
  | int j=>obtain⟨t',rfl⟩:=ry;exact WC (BP I q (by simp))
  | str j=>obtain⟨t',rfl⟩:=ry;exact WE (BP I q (by simp))
  | _=>exact qB hs BB
 | bl i =>
  cases rx;cases y with
  | non=>cases ry;exact V2 (BP I q (by simp))
  | bl j=>cases ry;exact eq_bool (BP I q ABf)
  | str j=>obtain⟨t',rfl⟩:=ry;exact V3 (BP I q (by simp))
  | _=>exact qB hs BB
 | int i =>
  obtain⟨t,rfl⟩:=rx;cases y with
  | non=>cases ry;exact WF (BP I q (by simp))
  | int j=>obtain⟨t',rfl⟩:=ry;exact eq_int (BP I q WQ)
  | str j=>obtain⟨t',rfl⟩:=ry;exact WG (BP I q (by simp))
  | _=>exact qB hs BB
 | str i =>
  obtain⟨t,rfl⟩:=rx;cases y with
  | non=>cases ry;exact WH (BP I q (by simp))
  | bl j=>cases ry;exact V4 (BP I q (by simp))
  | int j=>obtain⟨t',rfl⟩:=ry;exact WI (BP I q (by simp))
  | str j=>obtain⟨t',rfl⟩:=ry;exact eq_str (BP I q Xf)
  | _=>exact qB hs BB
 | byt i =>
  obtain⟨t,rfl⟩:=rx;cases y with
  | byt j=>obtain⟨t',rfl⟩:=ry;exact PySem.W.eq_bytes (BP I q WK)
  | _=>exact qB hs BB
 | _=>cases y<;>exact qB hs BB
theorem ADb:OpR X (DM .NotEq) rNe:=by
 intro ae s σ H x y v u Q I rx ry h;obtain⟨hs,q⟩:=h;cases x with
 | non =>
  cases rx;cases y with
  | non=>cases ry;exact V5 (BP I q (by simp))
  | bl j=>cases ry;exact V6 (BP I q (by simp))
  | int j=>obtain⟨t',rfl⟩:=ry;exact WJ (BP I q (by simp))
  | str j=>obtain⟨t',rfl⟩:=ry;exact WN (BP I q (by simp))
  | _=>exact qB hs BB
 | bl i =>
  cases rx;cases y with
  | non=>cases ry;exact V7 (BP I q (by simp))
  | bl j=>cases ry;exact ne_bool (BP I q (congrArg not ABf))
  | str j=>obtain⟨t',rfl⟩:=ry;exact V8 (BP I q (by simp))
  | _=>exact qB hs BB
 | int i =>
  obtain⟨t,rfl⟩:=rx;cases y with
  | non=>cases ry;exact WO (BP I q (by simp))
  | int j=>obtain⟨t',rfl⟩:=ry;exact ne_int (BP I q (congrArg not WQ))
  | str j=>obtain⟨t',rfl⟩:=ry;exact WP (BP I q (by simp))
  | _=>exact qB hs BB
 | str i =>
  obtain⟨t,rfl⟩:=rx;cases y with
  | non=>cases ry;exact WS (BP I q (by simp))
  | bl j=>cases ry;exact V9 (BP I q (by simp))
  | int j=>obtain⟨t',rfl⟩:=ry;exact WU (BP I q (by simp))
  | str j=>obtain⟨t',rfl⟩:=ry;exact ne_str (BP I q (congrArg not Xf))
  | _=>exact qB hs BB
 | byt i =>
  obtain⟨t,rfl⟩:=rx;cases y with
  | byt j=>obtain⟨t',rfl⟩:=ry;exact PySem.W.ne_bytes (BP I q (congrArg not WK))
  | _=>exact qB hs BB
 | _=>cases y<;>exact qB hs BB
theorem Kf:OpR X (DM .Lt) (rI0 λi j=>.bl (decide (i<j))):=opB0 λ_ _ _ _ _ _ _ q=>lt_int q
theorem ABZ:OpR X (DM .Gt) (rI0 λi j=>.bl (decide (j<i))):=opB0 λ_ _ _ _ _ _ _ q=>gt_int q
theorem ADj:OpR X (DM .GtE) (rI0 λi j=>.bl (decide (j<=i))):=opB0 λ_ _ _ _ _ _ _ q=>ge_int q
theorem nomark(b:Expr)(h:autoParam (op≠.In) zA1._auto_1)(h2:autoParam (op≠.NotIn) zA1._auto_1):Iq op b=false:=by
 have e1:(op==Ya)=false:=by cases op<;>first| rfl| exact qB rfl h
 have e2:(op==Xt)=false:=by cases op<;>first| rfl| exact qB rfl h2
 cases b<;>simp[Iq,e1,e2]
theorem Ej{r:R2}(ho:OpR X (DM op) r)(ha:PE X a ta)(hb:PE X b tb)(hm:Iq op b=false:=by exact nomark _):PE X (.Compare a [op] [b] pos) (tOp r ta tb):=by
 intro ae s σ H Q I h;exact wpAny_Compare1 (binT ha hb I h λv u s2 x y H2 I2 rx ry q=>ho ae s2 σ H2 x y v u Q I2 rx ry q) hm
def AFK(t:TE):TT:=λσ H Q=>t σ H λx H'=>∃k,x=.bl k/\Q k H'
theorem Av{r:R2}(ho:OpR X (DM op) r)(ha:PE X a ta)(hb:PE X b tb)(hm:Iq op b=false:=by exact nomark _):PT X (.Compare a [op] [b] pos) (AFK (tOp r ta tb)):=by
 intro ae s σ H Q I h;refine O7 (thn (ha ae s σ H _ I h) λv s1 ⟨x,H1,I1,r1,q1⟩=>thn (hb ae s1 σ H1 _ I1 q1) λu s2 ⟨y,H2,I2,r2,q2⟩ =>
  thn (ho ae s2 σ H2 x y v u _ I2 r1 r2 q2) λc s3 ⟨z,H3,I3,r3,k,e,q3⟩=>?_) hm
 subst e;cases r3;exact FO ⟨H3,I3,q3⟩
theorem line63:(sizeLine:Nat)<2 ^ 63:=by rw[EQ];decide
theorem vals1{x:V}(r:Vals [x] us):∃u,us=[u]/\RelV x u:=by
 cases r with
 | cons r1 r2=>cases r2;exact⟨_,rfl,r1⟩
theorem vals2{x:V}(r:Vals [x,y] us):∃u w',us=[u,w']/\RelV x u/\RelV y w':=by
 cases r with
 | cons r1 r2 =>
  cases r2 with
  | cons r3 r4=>cases r4;exact⟨_,_,rfl,r1,r3⟩
theorem Xl(hc:X.calm=true):CallR X (.builtin "max") (λxs H Q=>∃i j,xs=[.int i,.int j]/\Q (.int (if j>i then j else i)) H):=by
 intro ae s σ H xs us Q I r h;obtain⟨i,j,rfl,q⟩:=h;obtain⟨u,w',rfl,⟨t,rfl⟩,⟨t',rfl⟩⟩:=vals2 r;refine max_two_ints (I.ok.hd hc) λh' tk k=>⟨_,H,I.kept k,?_,q⟩;by_cases hj:j>i
 .rw[p6 hj,p6 hj];exact⟨_,rfl⟩
 .rw[pZ hj,pZ hj];exact⟨_,rfl⟩
theorem Xq(hc:X.calm=true):CallR X (.builtin "min") (λxs H Q=>∃i j,xs=[.int i,.int j]/\Q (.int (if j<i then j else i)) H):=by
 intro ae s σ H xs us Q I r h;obtain⟨i,j,rfl,q⟩:=h;obtain⟨u,w',rfl,⟨t,rfl⟩,⟨t',rfl⟩⟩:=vals2 r;refine min_two_ints (I.ok.hd hc) λh' tk k=>⟨_,H,I.kept k,?_,q⟩;by_cases hj:j<i
 .rw[p6 hj,p6 hj];exact⟨_,rfl⟩
 .rw[pZ hj,pZ hj];exact⟨_,rfl⟩
theorem Yy:CallR X (.type "int") (λxs H Q=>(∃i,xs=[.int i]/\Q (.int i) H)\/∃k,xs=[.bl k]/\Q (.int (if k then 1 else 0)) H):=by
 intro ae s σ H xs us Q I r h;rcases h with⟨i,rfl,q⟩| ⟨k,rfl,q⟩
 .obtain⟨u,rfl,t,rfl⟩:=vals1 r
  exact call_int_int ⟨.int i,H,I,⟨_,rfl⟩,q⟩
 .obtain⟨u,rfl,r1⟩:=vals1 r
  cases r1;exact call_int_bool ⟨.int (if k then 1 else 0),H,I.tok _,⟨_,rfl⟩,q⟩
end
structure ObjM(h:Heap)(x dx C:Addr)(mA:Str->Option As):Prop where
 obj:h.get? x=pX (EZ C dx)
 ns:h.Ns1 dx mA
 ne:dx≠x
set_option tactic.hygienic true in
theorem YB(n:h.Ns1 dx mA):∃od,h.get? dx=pX od/\∀name,MB name od=pX (mA name):=by
 obtain⟨o,es,ep,ho,hd,hk,_,hm⟩:=n;refine⟨o,ho,λname=>?_⟩;have e:=hm name;unfold nsFind findBy at e;rw[<- Array.find?_toList] at e;unfold MB;rw[hd];dsimp only;split
 .rename_i y q
  rw[q] at e;exact congrArg pX e
 .rename_i q
  rw[q] at e;have a:es.toList.any (·.refKey)=false:=by
   rw[List.any_eq_false];intro y hy;obtain⟨z,t,hkey⟩:=hk y (Array.mem_toList_iff.mp hy);simp[DictEntry.refKey,hkey]
  have a':¬ es.toList.any (·.refKey)=true:=by rw[a];exact BB
  rw[pZ a'];exact congrArg pX e
theorem ObjM.look{x:Addr}(I:ObjM h x dx C mA):∃od,PySem.W.InstAt h x (EZ C dx) C (pX od)/\∀name,MB name od=pX (mA name) :=
 let ⟨od,ho,hl⟩:=YB I.ns
 ⟨od,⟨I.obj,rfl,rfl,ho⟩,hl⟩
section
variable{x:Addr}{v:As}
theorem get_map{expr:Bool}(X:K.In s.heap)(I:ObjM s.heap x dx C mA)(hg:JU K C name=true)(hh:KI K C=true)
  (ha:C0 K (.ref C) name=pX pY) (hv:mA name=pX v) (g9:Tu v=true) (h:Q v {s with toks:=s.toks+1}) :
  wpAny (AM prog w) A (getAttr (.ref x) name expr) Q E s:=by
 obtain⟨od,J,hl⟩:=I.look;exact PySem.W.get_value X J (Me hg).1 (PySem.W.findObj_own hh ha rfl (by rw[hl,hv])) g9 h
theorem ABR{pl:Sem Bool}{Q:As×List As->AA->Prop}(X:K.In s.heap)(I:ObjM s.heap x dx C mA)(hg:JU K C name=true)
  (hf:C0 K (.ref C) name=pX (pX (.ref f))) (ht:LL K (.ref f)=true) (hv:mA name=pY) (h:Q (.ref f,[.ref x]) s) :
  wpAny (AM prog w) A (RI (.ref x) name pl) Q E s:=by
 obtain⟨od,J,hl⟩:=I.look;exact PySem.W.method_fn X J (Me hg).1 (Me hg).2 hf (beq_iff_eq.mp ht) (by show(MB name od).map (·.isSome)=pX false;rw[hl,hv];rfl) h
theorem ACa{ns:qM}{Q:qH}(X:K.In s.heap)(I:ObjM s.heap x dx C mA)
  (hs:C0 K (.ref C) "__setattr__" = pX (pX (.builtin "object.__setattr__"))) (hp:No K C=true) (ht:OG K C name=pX pY) (hh:KI K C=true)
  (hw:RC mA ns) (hsz:ns.length<=sizeLine)
  (h:∀h',ObjM h' x dx C (λy=>if y=name then pX v else mA y)->EG dx s.heap h'->Q () {s with heap:=h',toks:=s.toks+2}) :
  wpAny (AM prog w) A (setAttr (.ref x) name v) Q E s:=by
 obtain⟨od,J,hl⟩:=I.look;refine PySem.W.set_plain X J hs (PySem.W.osa_open (s:={s with toks:=s.toks+1}) (r:=pY) X J hp ht λb=>?_);obtain⟨cd,hc,dq⟩:=PySem.W.any_some hh;have hx:=I.obj;refine Ap (AC (Ap (Ap (wpAny_loadPart hx (Ap (X0 (s:={s with toks:=s.toks+1}) (PySem.W.looks_clsIn X hc) ?_))))));rw[dq];refine AC (a:=pX dx) (Ap (AC (Ap ?_)));refine wpAny_nsSet1 (s:={s with toks:=s.toks+1}) I.ns λh' hn2 kB=>?_;obtain⟨oD,esD,epD,hoD,hdD,hcD⟩:=hn2.count (X8 name v hw);refine Ap (wpAny_lookBehind hoD (by rw[hdD];exact pastItsLine_dict (BQ hcD (by rw[DE];exact tJ hsz))) ?_);exact AC (h _ ⟨(kB.2 _ (CB I.ne)).trans I.obj,hn2,I.ne⟩ kB)
theorem AAH{R:RO->AA->Prop}{kw:List (Str×As)}(X:K.In s.heap)(hm:IB K C=true)
  (hi:C0 K (.ref C) "__init__" = pX (pX (.ref f))) (hf:PySem.W.typeIn K (.ref f)=pX (.type "function"))
  (h:codeAny (AM prog w) (A.under (.builtin "type.__call__" ⟨.ref C::vs,kw⟩)) (.call (.ref f) ⟨.ref (s.heap.objs.size+1)::vs,kw⟩) (Tx (s.heap.objs.size+1) R)
   {s with heap:=(s.heap.push D3).push (EZ C s.heap.objs.size)}) :
  codeAny (AM prog w) A (.call (.ref C) ⟨vs,kw⟩) R s:=by
 obtain⟨hh,g,d,t,os⟩:=s;exact SK (TB X hm) (P5 X hi) (λself=>PySem.W.bind_fn X self hf) (.inl rfl) h
theorem Ye{R:RO->AA->Prop}(X:K.In s.heap)(hm:IB K C=true)
  (hi:C0 K (.ref C) "__init__" = pX (pX (.builtin "object.__init__")))
  (hb:∀self,PySem.W.Looks (AM prog w) s.heap (bindSpecial (.builtin "object.__init__") self) (.builtin "object.__init__",[self]))
  (h:codeAny (AM prog w) (A.under (.builtin "type.__call__" ⟨[.ref C],[]⟩)) (.call (.builtin "object.__init__") ⟨[.ref (s.heap.objs.size+1)],[]⟩) (Tx (s.heap.objs.size+1) R)
   {s with heap:=(s.heap.push D3).push (EZ C s.heap.objs.size)}) :
  codeAny (AM prog w) A (.call (.ref C) ⟨[],[]⟩) R s:=by
 obtain⟨hh,g,d,t,os⟩:=s;exact SK (TB X hm) (P5 X hi) hb (.inr ⟨rfl,rfl⟩) h
end
def putF(f:Str)(v:V):List (Str×V)->List (Str×V)
 | []=>[(f,v)]
 | (g,x)::r=>if g=f then(g,v)::r else(g,x)::putF f v r
theorem Ah(f g:Str)(v:V):∀fs:List (Str×V),(putF f v fs).lookup g=if g=f then pX v else fs.lookup g
 | []=>by
  show E6 g [(f,v)]=_;by_cases h:g=f
  .have hb:(g==f)=true:=beq_iff_eq.mpr h
   simp only[E6,hb,p6 h]
  .have hb:=beq_eq_false_iff_ne.mpr h
   simp only[E6,hb,pZ h]
 | (k,x)::r=>by
  have ih:=Ah f g v r;rw[show putF f v ((k,x)::r)=(if k=f then(k,v)::r else(k,x)::putF f v r) from rfl];by_cases hk:k=f
  .rw[p6 hk]
   by_cases h:g=k
   .have hb:=beq_iff_eq.mpr h
    simp only[E6,hb,p6 (h.trans hk)]
   .have hb:=beq_eq_false_iff_ne.mpr h
    simp only[E6,hb,pZ (λe:g=f=>h (e.trans hk.symm))]
  .rw[pZ hk]
   by_cases h:g=k
   .have hb:=beq_iff_eq.mpr h
    simp only[E6,hb,pZ (λe:g=f=>hk (h.symm.trans e))]
   .have hb:=beq_eq_false_iff_ne.mpr h
    simp only[E6,hb];exact ih
theorem JB(f:Str)(v:V):∀fs:List (Str×V),f∈(putF f v fs).map (·.1)/\∀g,g∈fs.map (·.1)->g∈(putF f v fs).map (·.1)
 | []=>⟨by simp[putF],λg h=>by simp at h⟩
 | (k,x)::r=>by
  obtain⟨i1,i2⟩:=JB f v r;rw[show putF f v ((k,x)::r)=(if k=f then(k,v)::r else(k,x)::putF f v r) from rfl];by_cases hk:k=f
  .rw[p6 hk]
   subst hk;exact⟨by simp,λg h=>by simpa using h⟩
  .rw[pZ hk]
   refine⟨?_,λg h=>?_⟩
   .rw[BG]
    exact AJ _ i1
   .rw[BG] at h ⊢
    rcases BF.mp h with e| e
    .exact BF.mpr (.inl e)
    .exact AJ _ (i2 g e)
theorem JT(f:Str)(v:V):∀fs:List (Str×V),(putF f v fs).length<=fs.length+1
 | []=>by simp[putF]
 | (k,x)::r=>by
  have ih:=JT f v r;rw[show putF f v ((k,x)::r)=(if k=f then(k,v)::r else(k,x)::putF f v r) from rfl];by_cases hk:k=f
  .rw[p6 hk,DE,DE];exact qi
  .rw[pZ hk,DE,DE];exact tJ ih
theorem qT{o:Option As}(r:RelO (pX v) o):∃u,o=pX u/\RelV v u:=by
 cases o with
 | none=>exact r.elim
 | some u=>exact⟨u,rfl,r⟩
theorem qU{o:Option As}(r:RelO pY o):o=pY:=by
 cases o with
 | none=>rfl
 | some u=>exact r.elim
theorem Yv(r:RelV v u):Tu u=true:=by
 cases v with
 | non=>cases r;rfl
 | bl b=>cases r;rfl
 | int i=>obtain⟨t,e⟩:=r;cases e;rfl
 | str x=>obtain⟨t,e⟩:=r;cases e;rfl
 | byt b=>obtain⟨t,e⟩:=r;cases e;rfl
 | flt b=>obtain⟨t,e⟩:=r;cases e;rfl
 | ref a=>cases r;rfl
 | ty n=>cases r;rfl
section
variable{fs fs':List (Str×V)}
theorem Pr(hok:HOk P w H h)(e:H a=pX (.ins C dx fs)):∃mA,ObjM h a dx C mA/\(∀f,RelO (fs.lookup f) (mA f))/\RC mA (fs.map (·.1))/\fs.length<=1000/\H dx=pX (.own a):=by
 obtain⟨d,z,ne,ob,mA,n,r,q⟩:=(hok a _ e);exact⟨mA,⟨ob,n,ne⟩,r,q,z,d⟩
end
structure Cls(K:Au)(C:Addr):Prop where
 pg:JU K C Str.empty=true
 hd:KI K C=true
 po:No K C=true
 sa:C0 K (.ref C) "__setattr__" = pX (pX (.builtin "object.__setattr__"))
theorem Cls.get(c:Cls K C)(f:Str):JU K C f=true:=c.pg
def NoAttr(K:Au)(C:Addr)(f:Str):Prop:=C0 K (.ref C) f=pX pY
theorem NoAttr.taker{f:Str}(n:NoAttr K C f):OG K C f=pX pY:=by
 unfold OG;rw[show C0 K (.ref C) f=pX pY from n];rfl
structure Meth(K:Au)(C:Addr)(m:Str)(f:Addr):Prop where
 at_:C0 K (.ref C) m=pX (pX (.ref f))
 fn:LL K (.ref f)=true
 kp:C9 K (.ref f)=true
section
variable{fs:List (Str×V)}{f:Str}
theorem Uz{b:Bool}(I:Inv X ae σ H s)(e:H a=pX (.ins C dx fs))(c:Cls X.K C)(n:NoAttr X.K C f)(l:fs.lookup f=pX v)
  (h:∀u s',Inv X ae σ H s'->RelV v u->Q u s'):wpAny (AM X.prog X.w) A (getAttr (.ref a) f b) Q E s:=by
 obtain⟨mA,O,r,_,_,_⟩:=Pr I.hok e;obtain⟨u,hu,ru⟩:=qT (v:=v) (o:=mA f) (by rw[<- l];exact r f);exact get_map I.kIn O (c.get f) c.hd n hu (Yv ru) (h u _ (I.tok _) ru)
theorem KN{m:Str}{g:Addr}{pl:Sem Bool}{Q:As×List As->AA->Prop}(I:Inv X ae σ H s)(e:H a=pX (.ins C dx fs))(c:Cls X.K C)(k:Meth X.K C m g)(l:fs.lookup m=pY)
  (h:Q (.ref g,[.ref a]) s):wpAny (AM X.prog X.w) A (RI (.ref a) m pl) Q E s:=by
 obtain⟨mA,O,r,_,_,_⟩:=Pr I.hok e;have hn:=qU (by rw[<- l];exact r m);exact ABR I.kIn O (c.get m) k.at_ k.fn hn h
theorem Vm{Q:qH}(I:Inv X ae σ H s)(e:H a=pX (.ins C dx fs))(c:Cls X.K C)(n:NoAttr X.K C f)(hl:fs.length<1000)(ry:RelV y u)
  (h:∀s',Inv X ae σ (upd H a (.ins C dx (putF f y fs))) s'->Q () s'):wpAny (AM X.prog X.w) A (setAttr (.ref a) f u) Q E s:=by
 obtain⟨mA,O,r,wi,_,ho⟩:=Pr I.hok e;have hz:(fs.map (·.1)).length<=sizeLine:=by rw[AB,EQ];lia
 refine ACa I.kIn O c.sa c.po n.taker c.hd wi hz λh' O' sb=>h _ ?_;have hd:∃o,h'.get? dx=pX o:=let ⟨o,_,_,e',_⟩:=O'.ns;⟨o,e'⟩
 refine I.write (x:=a) (e:=dx) (by rw[e];exact G6) (.inr ho) (λb q hb z=>(sb.2 b hb).trans z) hd ?_;refine⟨by rw[Ae O.ne];exact ho,?_,O.ne,O'.obj,_,O'.ns,λg=>?_,λg hg=>?_⟩
 .have:=JT f y fs;exact t5 this hl
 .rw[Ah]
  by_cases q:g=f
  .rw[p6 q,p6 q];exact ry
  .rw[pZ q,pZ q];exact r g
 .by_cases q:g=f
  .rw[q];exact(JB f y fs).1
  .refine(JB f y fs).2 g (wi g λz=>hg ?_)
   show(if g=f then pX u else mA g)=pY;rw[pZ q];exact z
theorem Inv.made(I:Inv X ae σ H s):Inv X ae σ (upd (upd H s.heap.objs.size (.own (s.heap.objs.size+1))) (s.heap.objs.size+1) (.ins C s.heap.objs.size []))
  {s with heap:=(s.heap.push D3).push (EZ C s.heap.objs.size)}:=by
 have e1:(s.heap.push D3).get? s.heap.objs.size=pX D3:=AS s.heap rfl;have e2:((s.heap.push D3).push (EZ C s.heap.objs.size)).get? (s.heap.objs.size+1)=pX (EZ C s.heap.objs.size):=by
  have:=AS (s.heap.push D3) (o:=EZ C s.heap.objs.size) rfl
  rwa [D5] at this
 have e3:(s.heap.push D3).Ns s.heap.objs.size (λ_=>pY):=⟨D3,#[],_,e1,rfl,(λe he=>qB he (by simp)),λ_=>rfl⟩;have I1:=I.laid (a:=s.heap.objs.size) (o:=.own (s.heap.objs.size+1)) (h':=s.heap.push D3) (t':=s.toks) (λb u q=>AG _ q) (AH _) ⟨_,e1⟩;refine I1.laid (a:=s.heap.objs.size+1) (o:=.ins C s.heap.objs.size []) (t':=s.toks) (λb u q=>AG _ q) (NU (D5 _ _)) ?_;have ne:s.heap.objs.size≠s.heap.objs.size+1:=BM (F6 _);refine⟨by rw[Ae ne,Ab],BD _,ne,e2,λ_=>pY,(Heap.Ns1.of_empty e3).at λo q=>AG _ q,λ_=>G6,λy hy=>qB rfl hy⟩
theorem ABv{env:Env}{f:Str}(hb:M3 e f env (eval e env)=eval e env)
  (h:wpAny (AM prog w) A (eval e env) (λo s₁=>wpAny (AM prog w) A (getAttr o f true) Q E s₁) E s):wpAny (AM prog w) A (eval (.Attribute e f pos) env) Q E s :=
 Attribute_any_ h (by rw[arm_eval_Attribute,hb])
end
def AFy(K:Au)(ta:TE)(f:Str):TE:=λσ H Q=>ta σ H λx H1=>E5 λa C dx fs v=>A6 (x=.ref a) (H1 a=pX (.ins C dx fs)) (Cls K C) (NoAttr K C f) (fs.lookup f=pX v) (Q v H1)
def AGG(K:Au)(ta tv:TE)(f:Str):TS:=λD σ H=>tv σ H λy H1=>ta σ H1 λx H2=>∃a C dx fs,x=.ref a/\H2 a=pX (.ins C dx fs)/\Cls K C/\NoAttr K C f/\fs.length<1000 /\
 D.nx σ (upd H2 a (.ins C dx (putF f y fs)))
section
variable{o:Expr}{f:Str}{ta tv:TE}
theorem Bc(he:PE X e ta)(hb:M3 e f X.env (eval e X.env)=eval e X.env):PE X (.Attribute e f pos) (AFy X.K ta f):=by
 intro ae s σ H Q I h;refine ABv hb (thn (he ae s σ H _ I h) λu s1 ⟨x,H1,I1,rx,a,C,dx,fs,v,ex,ea,c,n,l,q⟩=>?_);subst ex;obtain rfl:u=AW a:=rx;exact Uz I1 ea c n l λu' s2 I2 ru=>⟨v,H1,I2,ru,q⟩
theorem Dp(ha:PE X o ta)(hv:PE X aI tv)(hs:Lm aI (pX (.Attribute o f a9)) pos.line X.env=pure false):PS X (.Assign [.Attribute o f a9] aI pos) (AGG X.K ta tv f):=by
 intro ae s σ H D I h;refine plainObj_wpAny_Assign_Attribute (thn (hv ae s σ H _ I h) λu s1 ⟨y,H1,I1,ry,q⟩=>thn (ha ae s1 σ H1 _ I1 q) λov s2 ⟨x,H2,I2,rx,a,C,dx,fs,ex,ea,c,n,l,q2⟩=>?_) hs;subst ex;obtain rfl:ov=AW a:=rx;exact Vm I2 ea c n l ry λs3 I3=>⟨σ,_,I3,q2⟩
end
structure Room(k:Nat)(A:BO):Prop where
 hd:A.handled=pY
 dp:A.depth+3*k+5<U1
 un:A.units+16*k+200<Cn
 gd:A.guards=pX []
theorem Room.mono{k:Nat}(r:Room k A)(h:j<=k):Room j A:=⟨r.hd,by have:=r.dp;lia,by have:=r.un;lia,r.gd⟩
theorem Room.deeper{k:Nat}(r:Room (k+1) A)(env:Env):Room k (A.deeper env) :=
 ⟨r.hd,by have:=r.dp;show A.depth+1+3*k+5<_;exact uX this,by have:=r.un;show A.units+3+16*k+200<_;lia,r.gd⟩
theorem Tz{kw:List (Str×As)}:(A.under (.builtin "type.__call__" ⟨.ref C::us,kw⟩)).depth=A.depth+1:=by
 first| rfl| simp[NY,Code.weight,Code.isCreation,Code.isGuard,Code.isCaller,XG,RR,guardIds]
theorem Vl{kw:List (Str×As)}:(A.under (.builtin "type.__call__" ⟨.ref C::us,kw⟩)).units=A.units+1:=by
 first| rfl| simp[NY,Code.cUnits,XG,RR]
theorem TY{kw:List (Str×As)}(hg:A.guards=pX []):(A.under (.builtin "type.__call__" ⟨.ref C::us,kw⟩)).guards=pX []:=by
 have h:(Code.builtin "type.__call__" ⟨.ref C::us,kw⟩).isGuard=false:=by
  show guardIds.contains "type.__call__" = false;decide+kernel
 simp[NY,Code.guards,h,pushGuards,hg]
theorem Room.make{k:Nat}(r:Room (k+1) A)(C:Addr)(us:List As)(kw:List (Str×As)):Room k (A.under (.builtin "type.__call__" ⟨.ref C::us,kw⟩)) :=
 ⟨r.hd,by have:=r.dp;rw[Tz];exact uX this,by have:=r.un;rw[Vl];lia,TY r.gd⟩
theorem Room.depth{k:Nat}(r:Room k A):A.depth<U1:=by have:=r.dp;lia
theorem Room.units{k:Nat}(r:Room k A):A.units+64<Cn:=by have:=r.un;lia
def AFv:TA:=λ_ H Q=>Q [] H
def AFL(ta:TE)(tr:TA):TA:=λσ H Q=>ta σ H λx H1=>tr σ H1 λxs H2=>Q (x::xs) H2
section
variable{t:TA}
theorem Ad:PA X [] AFv:=λ_ _ _ _ H Q I h=>KL ⟨[],H,I,.nil,h⟩
theorem Aa(ha:PE X e te)(hr:PA X es t)(hs:autoParam (Cs (e::es) X.env=(false,eval e X.env)::Cs es X.env) zA0._auto_1):PA X (e::es) (AFL te t):=by
 intro pos ae s σ H Q I h;rw[hs];refine IC (thn (ha ae s σ H _ I h) λu s1 ⟨x,H1,I1,r1,q1⟩=>?_);exact thn (hr pos ae s1 σ H1 _ I1 q1) λus s2 ⟨xs,H2,I2,r2,q2⟩=>⟨x::xs,H2,I2,.cons r1 r2,q2⟩
def AGD(t:TA):TE:=λσ H Q=>t σ H λxs H1=>xs.length<=sizeLine/\∀p,H1 p=none->Q (.ref p) (upd H1 p (.tup xs))
def AGM(t:TA):TE:=λσ H Q=>t σ H λxs H1=>xs.length<=sizeLine/\∀p,H1 p=none->Q (.ref p) (upd H1 p (.lst xs))
theorem Br{x1}(h:PA X es t):PE X (.Tuple es x1 pos) (AGD t):=by
 intro ae s σ H Q I hq;refine wpAny_Tuple_spliced (thn (h pos ae s σ H _ I hq) λus s1 ⟨xs,H1,I1,r,z,q⟩=>⟨by rw[<- r.length];exact z,?_⟩);have hf:=I1.hok.fresh (AH _);refine⟨.ref s1.heap.objs.size,upd H1 s1.heap.objs.size (.tup xs),I1.laid (t':=s1.toks) (λb u e=>AG _ e) (AH _) ?_,rfl,q _ hf⟩;exact⟨z,us,r,⟨_,AS _ rfl,rfl,_,rfl⟩⟩
theorem Dm(h:PA X es t):PE X (.List es pos) (AGM t):=by
 intro ae s σ H Q I hq;refine wpAny_List_spliced (thn (h pos ae s σ H _ I hq) λus s1 ⟨xs,H1,I1,r,z,q⟩=>⟨by rw[<- r.length];exact z,?_⟩);have hf:=I1.hok.fresh (AH _);refine⟨.ref s1.heap.objs.size,upd H1 s1.heap.objs.size (.lst xs),I1.laid (t':=s1.toks) (λb u e=>AG _ e) (AH _) ?_,rfl,q _ hf⟩;exact⟨z,us,0,r,AS _ rfl⟩
end
abbrev Sp:=List V->Hp->VK->XK->Prop
variable{sp:L2.Sp}
abbrev CXT:=List Env->Hp->AA->XK->As->AA->Prop
variable{CX:L2.CXT}
structure Env0(P:AK)(w:AQ)(K:Au)(mg:Str->Option As)(base:Heap)(A:BO)(outer:List Env)(s:AA)(H:Hp):Prop where
 frames:A.frames=pX outer
 mod:Mod K mg base
 bs:∀b o,base.get? b=pX o->s.heap.get? b=pX o/\H b=pY
 bsz:base.objs.size<=s.heap.objs.size
 funs:s.heap.FunFrames base outer
 frf:∀b∈frs outer,H b=pY
 hok:HOk P w H s.heap
 bare:KB s.gens
def CE(outer:List Env)(P:AK)(w:AQ)(H:Hp)(s:AA)(Q:VK)(u:As)(s':AA):Prop :=
 ∃v H',s'.os=s.os/\KB s'.gens/\Un (frs outer) [] H H' s.heap s'.heap/\HOk P w H' s'.heap/\RelV v u/\Q v H'
def CR(CX:CXT)(outer:List Env)(P:AK)(w:AQ)(H:Hp)(s:AA)(Q:VK)(E:XK)(r:RO)(s':AA):Prop :=
 match r with
 | .ok (.ret u)=>CE outer P w H s Q u s'
 | .ok _=>False
 | .error e=>CX outer H s E e s'
structure FnOk(P:AK)(w:AQ)(K:Au)(mg:Str->Option As)(base:Heap)(CX:CXT)(k:Nat)(f:Addr)(fd:BI)(ps:qM)(sp:Sp):Prop where
 len:∀vs H Q E,sp vs H Q E->vs.length=ps.length
 run:∀(A:BO) (outer:List Env) (s:AA) (H:Hp) (args:Args) (us:List As) (vs:List V) (Q:VK) (E:XK),Room k A->Env0 P w K mg base A outer s H->Pc s fd args (ps.zip us)->Vals vs us->sp vs H Q E ->
  codeAny (AM P w) A (.call (.ref f) args) (CR CX outer P w H s Q E) s
theorem Env0.make{outer:List Env}(e:Env0 P w K mg base A outer s H)(C:Addr)(us:List As)(kw:List (Str×As)) :
  Env0 P w K mg base (A.under (.builtin "type.__call__" ⟨.ref C::us,kw⟩)) outer s H:=⟨by first| exact e.frames| (simpa [NY,Code.envs,RR,pushEnvs] using e.frames),e.mod,e.bs,e.bsz,e.funs,e.frf,e.hok,e.bare⟩
theorem Inv.env0(I:Inv X ae σ H s):Env0 X.prog X.w X.K X.mg X.base X.A X.stack s H :=
 ⟨I.ok.frames,I.ok.mod,I.bs,BQ I.ok.bsz I.sz,I.stack,I.stkFree,I.hok,I.bare⟩
theorem Inv.after{Q:VK}(I:Inv X ae σ H s)(h:CE X.stack X.prog X.w H s Q u s'):EP X ae σ Q u s':=by
 obtain⟨v,H',os,bare,un,hok,r,q⟩:=h;obtain⟨hh,g,d,t,os'⟩:=s';obtain rfl:os'=s.os:=os;exact⟨v,H',I.call (h':=hh) (g':=g) (d':=d) (t':=t) (ch:=[]) un hok bare (λb z=>qB z (by simp)),r,q⟩
def ADf(sp:Sp)(cw:List V)(E:XK)(t:TA):TE:=λσ H Q=>t σ H λvs H1=>sp (vs++cw) H1 Q E
def ADn(C:Addr)(m:Str)(sp:Sp)(cw:List V)(E:XK)(ta:TE)(t:TA):TE:=λσ H Q=>ta σ H λx H1=>∃a dx fs,x=.ref a/\H1 a=pX (.ins C dx fs)/\fs.lookup m=pY /\
 t σ H1 λvs H2=>sp (x::(vs++cw)) H2 Q E
def AFo(C:Addr)(sp:Sp)(cw:List V)(E:XK)(t:TA):TE:=λσ H Q=>t σ H λvs H1=>∀x dx,H1 x=none->H1 dx=none->dx≠x ->
 sp (.ref x::(vs++cw)) (upd (upd H1 dx (.own x)) x (.ins C dx [])) (λv H2=>v=.non/\Q (.ref x) H2) E
def Binds(K:Au)(fd:BI)(ps:qM)(ds:List As):Prop :=
 ∀(s:AA) (us:List As),K.In s.heap->(us++ds).length=ps.length->Pc s fd ⟨us,[]⟩ (ps.zip (us++ds))
theorem Binds.all(h:∀us:List As,us.length=ps.length->TC fd ⟨us,[]⟩=pure (ps.zip us)):Binds K fd ps []:=λs us _ hl=>by
 rw[B3] at hl ⊢;exact .of_eq (h us hl)
def Passes(CX:CXT)(X:Cx)(E:XK):Prop:=∀(ae:qJ) (σ:St) (H:Hp) (s:AA) (e:As) (s':AA),Inv X ae σ H s->CX X.stack H s E e s'->X.xe e s'
section
variable{k:Nat}{cw:List V}{ds:List As}{E:XK}{m:Str}{p:Pos}{o:Expr}{ta:TE}{t:TA}
theorem Ux{Q:VK}{vs:List V}(F:FnOk X.prog X.w X.K X.mg X.base CX k f fd ps sp)(hr:Room k X.A)(hb:Binds X.K fd ps ds)(hd:Vals cw ds)(hx:Passes CX X E)
  (I:Inv X ae σ H s) (r:Vals vs us) (h:sp (vs++cw) H Q E):wpAny (AM X.prog X.w) X.A (call (.ref f) us) (EP X ae σ Q) X.xe s:=by
 have r2:=r.append hd;have hl:(us++ds).length=ps.length:=by rw[<- r2.length];exact F.len _ _ _ _ h
 refine P6 (E7 (F.run X.A X.stack s H ⟨us,[]⟩ (us++ds) (vs++cw) Q E hr I.env0 (hb s us I.kIn hl) r2 h) λr s' hq=>?_);cases r with
 | error e=>exact hx ae σ H s e s' I hq
 | ok fl =>
  cases fl with
  | ret u=>exact I.after hq
  | next=>exact EH hq
  | brk=>exact EH hq
  | cont=>exact EH hq
theorem Vy(F:FnOk X.prog X.w X.K X.mg X.base CX k f fd ps sp)(hr:Room k X.A)(hg:Gl X x)(hm:X.mg x=pX (.ref f))(hk:C9 X.K (.ref f)=true)(hb:Binds X.K fd ps ds)(hd:Vals cw ds)(hx:Passes CX X E)
  (ha:PA X (e::es) t) (g6:autoParam ((x==("__debug__" : Str))=false) zA1._auto_1) (he:autoParam (Cs (e::es) X.env=(false,eval e X.env)::Cs es X.env) zA0._auto_1) (eW:autoParam ((IU pos (Cs es X.env)).any (·.1)=false) zA0._auto_1) :
  PE X (.Call (.Name x p) (e::es) [] pos) (ADf sp cw E t):=by
 intro ae s σ H Q I h;refine Fh (Jf I hg hm ?_ g6);refine MS (h₀:=X.base) I.ok.mod.kin hk (thn (ha pos ae s σ H _ I h) λus s1 ⟨vs,H1,I1,r,q⟩=>⟨I1.kIn,?_⟩) he eW;exact Ux F hr hb hd hx I1 r q
theorem CV{pl:Sem Bool}(he:PE X o ta)(c:Cls X.K C)(hm:Meth X.K C m f)(F:FnOk X.prog X.w X.K X.mg X.base CX k f fd ps sp)(hr:Room k X.A)(hb:Binds X.K fd ps ds)(hd:Vals cw ds)(hx:Passes CX X E)(ha:PA X (e::es) t)
  (cK:autoParam (Cs (e::es) X.env=(false,eval e X.env)::Cs es X.env) zA0._auto_1) (eW:autoParam ((IU pos (Cs es X.env)).any (·.1)=false) zA0._auto_1)
  (ht:autoParam (eval (.Call (.Attribute o m bv) (e::es) [] pos) X.env=(do
   let ov <- eval o X.env
   UZ bv.atName
   let (f,first) <- MA [ov] (RI ov m pl)
   callWith pos f first (IU pos (Cs (e::es) X.env)) (TD pos (OV [] X.env)))) zA0._auto_1) :
  PE X (.Call (.Attribute o m bv) (e::es) [] pos) (ADn C m sp cw E ta t):=by
 intro ae s σ H Q I h;refine Pd (pl:=pl) (thn (he ae s σ H _ I h) λu s1 ⟨x,H1,I1,rx,a,dx,fs,ex,ea,l,q⟩=>?_) ht;subst ex;obtain rfl:u=AW a:=rx;refine KN I1 ea c hm l ?_;refine MS (first:=[.ref a]) (h₀:=X.base) I.ok.mod.kin hm.kp (thn (ha pos ae s1 σ H1 _ I1 q) λus s2 ⟨vs,H2,I2,r,q2⟩=>⟨I2.kIn,?_⟩) cK eW;exact Ux (us:=.ref a::us) (vs:=.ref a::vs) F hr hb hd hx I2 (.cons rfl r) q2
theorem Dl{pl:Sem Bool}(he:PE X o ta)(c:Cls X.K C)(hm:Meth X.K C m f)(F:FnOk X.prog X.w X.K X.mg X.base CX k f fd ps sp)(hr:Room k X.A)(hb:Binds X.K fd ps ds)(hd:Vals cw ds)(hx:Passes CX X E)
  (ht:autoParam (eval (.Call (.Attribute o m bv) [] [] pos) X.env=(do
   let ov <- eval o X.env
   UZ bv.atName
   let (f,first) <- MA [ov] (RI ov m pl)
   callWith pos f first (IU pos (Cs [] X.env)) (TD pos (OV [] X.env)))) zA0._auto_1) :
  PE X (.Call (.Attribute o m bv) [] [] pos) (ADn C m sp cw E ta AFv):=by
 intro ae s σ H Q I h;refine Pd (pl:=pl) (thn (he ae s σ H _ I h) λu s1 ⟨x,H1,I1,rx,a,dx,fs,ex,ea,l,q⟩=>?_) ht;subst ex;obtain rfl:u=AW a:=rx;refine KN I1 ea c hm l ?_;exact Q4 (first:=[.ref a]) I1.kIn hm.kp (Ux (us:=[.ref a]) (vs:=[.ref a]) F hr hb hd hx I1 (.cons rfl .nil) q)
structure Mk(K:Au)(C f:Addr):Prop where
 makes:IB K C=true
 init:C0 K (.ref C) "__init__" = pX (pX (.ref f))
 fn:LL K (.ref f)=true
 kp:C9 K (.ref C)=true
theorem AAy{Q:VK}{vs:List V}(M:Mk X.K C f)(F:FnOk X.prog X.w X.K X.mg X.base CX k f fd ps sp)(hr:Room (k+1) X.A)(hb:Binds X.K fd ps ds)(hd:Vals cw ds)
  (hx:Passes CX X E) (I:Inv X ae σ H s) (r:Vals vs us)
  (h:∀x dx,H x=none->H dx=none->dx≠x->sp (.ref x::(vs++cw)) (upd (upd H dx (.own x)) x (.ins C dx [])) (λv H2=>v=.non/\Q (.ref x) H2) E) :
  wpAny (AM X.prog X.w) X.A (call (.ref C) us) (EP X ae σ Q) X.xe s:=by
 have hq:=h (s.heap.objs.size+1) s.heap.objs.size (I.hok.fresh (K3 _)) (I.hok.fresh (AH _)) (BM (F6 _));have I2:=Inv.made (C:=C) I;have r2:Vals (V.ref (s.heap.objs.size+1)::(vs++cw)) (AW (s.heap.objs.size+1)::(us++ds)):=.cons rfl (r.append hd);have hl:(AW (s.heap.objs.size+1)::us++ds).length=ps.length:=by
  have e:=r2.length;rw[F.len _ _ _ _ hq] at e;exact e.symm
 refine P6 (AAH (f:=f) I.kIn M.makes M.init (beq_iff_eq.mp M.fn) (E7 (F.run _ X.stack _ _ ⟨AW (s.heap.objs.size+1)::us,[]⟩ (AW (s.heap.objs.size+1)::(us++ds)) _ _ E (hr.make C us [])
  (I2.env0.make C us []) (hb _ (AW (s.heap.objs.size+1)::us) I2.kIn hl) r2 hq) λr s' f7=>?_))
 cases r with
 | error e=>exact hx ae σ _ _ e s' I2 f7
 | ok fl =>
  cases fl with
  | ret u =>
   obtain⟨v,H',I3,rv,ev,q3⟩:=I2.after f7;subst ev;exact⟨rv,⟨V.ref (s.heap.objs.size+1),H',I3,rfl,q3⟩⟩
  | next=>exact EH f7
  | brk=>exact EH f7
  | cont=>exact EH f7
theorem Hy(M:Mk X.K C f)(F:FnOk X.prog X.w X.K X.mg X.base CX k f fd ps sp)(hr:Room (k+1) X.A)(hg:Gl X x)(hm:X.mg x=pX (.ref C))(hb:Binds X.K fd ps ds)(hd:Vals cw ds)(hx:Passes CX X E)
  (ha:PA X (e::es) t) (g6:autoParam ((x==("__debug__" : Str))=false) zA1._auto_1) (he:autoParam (Cs (e::es) X.env=(false,eval e X.env)::Cs es X.env) zA0._auto_1) (eW:autoParam ((IU pos (Cs es X.env)).any (·.1)=false) zA0._auto_1) :
  PE X (.Call (.Name x p) (e::es) [] pos) (AFo C sp cw E t):=by
 intro ae s σ H Q I h;refine Fh (Jf I hg hm ?_ g6);refine MS (h₀:=X.base) I.ok.mod.kin M.kp (thn (ha pos ae s σ H _ I h) λus s1 ⟨vs,H1,I1,r,q⟩=>⟨I1.kIn,?_⟩) he eW;exact AAy M F hr hb hd hx I1 r q
end
structure FnScope(N P:qM)(sc:ES):Prop where
 kind:sc.kind=.function
 co:sc.isCoroutine=false
 gen:sc.isGenerator=false
 nd:N.Nodup
 pre:N.take P.length=P
 par:∀x∈P,sc.names.lookup x=pX .local\/sc.names.lookup x=pX .cell
 nofree:∀y∈sc.names,y.2≠.free
abbrev zl0:qM:=["points","ties"]
abbrev zl1:qM:=["many","tie"]
abbrev zl2:qM:=["self","many","ties"]
abbrev zl3:qM:=["self"]
abbrev zl4:qM:=["self","point"]
abbrev zl5:qM:=["web","number"]
abbrev zl6:qM:=["self","n","rows","head"]
abbrev zl7:qM:=["places","row"]
abbrev zl8:qM:=["self","web","rule"]
abbrev zl9:qM:=["self","state","point"]
abbrev zl10:qM:=["self","web","state"]
abbrev zl11:qM:=["self","web","state","number"]
abbrev zl12:qM:=["self","web","state","point"]
abbrev zl13:qM:=["self","a","b"]
abbrev zl14:qM:=["self","web"]
abbrev zl15:qM:=["_law_script","_law_k"]
abbrev zl16:qM:=["_law_many","_law_rows_here"]
abbrev zl17:qM:=["_law_many","_law_rows_here","_law_one","_law_other"]
abbrev zl18:qM:=["_law_rows_here","_law_one","_law_other"]
abbrev zl19:qM:=["many","ties"]
abbrev zl20:qM:=["rows","top"]
abbrev zl21:qM:=["n","rows","top"]
abbrev zl22:qM:=["self","number","reached"]
abbrev zl23:qM:=["state","tie"]
abbrev zl24:qM:=["self","state","tie"]
abbrev zl25:qM:=["web","rule"]
abbrev zl26:qM:=["_law_cell"]
abbrev zl27:qM:=["_law_many","_law_number"]
abbrev zl28:qM:=["_law_many","_law_rows_here","_law_rings_here","_law_one","_law_other"]
abbrev zl29:qM:=["_law_many","_law_rows_here","_law_rings_here","_law_tie"]
theorem fscp{N P:qM}(h:(sc.kind=.function/\sc.isCoroutine=false)/\sc.isGenerator=false/\N.Nodup/\N.take P.length=P/\(∀x∈P,sc.names.lookup x=pX .local\/sc.names.lookup x=pX .cell)/\∀y∈sc.names,y.2≠.free):FnScope N P sc :=
 ⟨h.1.1,h.1.2,h.2.1,h.2.2.1,h.2.2.2.1,h.2.2.2.2.1,h.2.2.2.2.2⟩
theorem Mq{kindOf:Str->Option Hk}{x:Str}:∀{binds:List (Str×As)}{m:Str->Option As},(∀v,(x,v)∉binds)->P7 kindOf binds m x=m x
 | [],_,_=>rfl
 | (n,v)::r,m,h=>by
  unfold P7;rw[Mq λw hw=>h w (AJ _ hw)];split
  .have:x≠n:=by rintro rfl;exact h v AI
   simp[this]
  .rfl
theorem Nj{kindOf:Str->Option Hk}{x:Str}:∀{binds:List (Str×As)}{m:Str->Option As},(∀v,(x,v)∉binds)->P8 kindOf binds m x=m x
 | [],_,_=>rfl
 | (n,v)::r,m,h=>by
  unfold P8;rw[Nj λw hw=>h w (AJ _ hw)];split
  .rfl
  .have:x≠n:=by rintro rfl;exact h v AI
   simp[this]
theorem Nm{kindOf:Str->Option Hk}{x:Str}{v:As}:∀{P:qM}{vs:List As}{i:Nat}{m:Str->Option As},P.Nodup->P[i]?=pX x->vs[i]?=pX v->kindOf x=pX .local ->
  P7 kindOf (P.zip vs) m x=pX v
 | [],_,_,_,_,h,_,_=>by simp at h
 | _::_,[],_,_,_,_,h,_=>by simp at h
 | p::P,w::vs,0,m,nd,h1,h2,hk=>by
  simp at h1 h2;subst h1;subst h2;show P7 kindOf ((p,w)::P.zip vs) m p=_;unfold P7;rw[Mq λv hv=>(Ex.mp nd).1 (OH hv).1,p6 hk];simp
 | p::P,w::vs,i+1,m,nd,h1,h2,hk=>by
  show P7 kindOf ((p,w)::P.zip vs) m x=_;unfold P7;exact Nm (i:=i) (Ex.mp nd).2 (by simpa using h1) (by simpa using h2) hk
theorem Nq{kindOf:Str->Option Hk}{x:Str}{v:As}:∀{P:qM}{vs:List As}{i:Nat}{m:Str->Option As},P.Nodup->P[i]?=pX x->vs[i]?=pX v->kindOf x≠pX .local ->
  P8 kindOf (P.zip vs) m x=pX v
 | [],_,_,_,_,h,_,_=>by simp at h
 | _::_,[],_,_,_,_,h,_=>by simp at h
 | p::P,w::vs,0,m,nd,h1,h2,hk=>by
  simp at h1 h2;subst h1;subst h2;show P8 kindOf ((p,w)::P.zip vs) m p=_;unfold P8;rw[Nj λv hv=>(Ex.mp nd).1 (OH hv).1,pZ hk];simp
 | p::P,w::vs,i+1,m,nd,h1,h2,hk=>by
  show P8 kindOf ((p,w)::P.zip vs) m x=_;unfold P8;exact Nq (i:=i) (Ex.mp nd).2 (by simpa using h1) (by simpa using h2) hk
def start(N:qM)(vs:List V):St:=vs.map pX++U2 (N.length-vs.length) pY
def cxOf(CX:CXT)(P:AK)(w:AQ)(K:Au)(mg:Str->Option As)(base:Heap)(N:qM)(qual:Str)(scope:ES)(f:Addr)(cd:As)(A:BO)(outer:List Env)(s:AA)(H:Hp)(E:XK):Cx where
 prog:=P
 w:=w
 K:=K
 mg:=mg
 base:=base
 A:=A.deeper (MT qual scope s.heap.objs.size f cd)
 N:=N
 s₀:=s
 H₀:=H
 env:=MT qual scope s.heap.objs.size f cd
 outer:=outer
 stack:=MT qual scope s.heap.objs.size f cd::outer
 ex:=[]
 calm:=true
 fn:=λ_=>true
 pn:=[]
 xe:=λe s'=>wpAny (AM P w) (A.deeper (MT qual scope s.heap.objs.size f cd)) (leaving (MT qual scope s.heap.objs.size f cd) e) (λ_ pP=>CX outer H s E e pP) (λe' pP=>CX outer H s E e' pP) s'
theorem Ti(h:sc.names.lookup x=pX .cell):∃c,(VA n sc.names []).lookup x=pX c:=by
 have q:=OW sc.names n [] (.inl h);exact FC.mp q
theorem Yo{N:qM}{outer:List Env}{s1:AA}{E:XK}{vs:List V}
  (S:FnScope N ps scope) (hd:A.handled=pY) (e0:Env0 P w K mg base A outer s H) (hl:vs.length=ps.length) (r:Vals vs us)
  (x:InCallC s s.heap.objs.size (P7 (MT qual scope s.heap.objs.size f cd).kindOf (ps.zip us) λ_=>pY) (VA (s.heap.objs.size+1) scope.names []) (P8 (MT qual scope s.heap.objs.size f cd).kindOf (ps.zip us) λ_=>pY) s1) :
  Inv (cxOf CX P w K mg base N qual scope f cd A outer s H E) [] (start N vs) H s1:=by
 have eW:ps.length<=N.length:=by have:=congrArg ER S.pre;rw[BS] at this;lia
 obtain⟨h1,tk,rfl,hk⟩:=x.done;have pT:∀b:Addr,b∉(cxOf CX P w K mg base N qual scope f cd A outer s H E).ex:=λb z=>qB (show b∈([]:qQ) from z) (by simp);refine⟨⟨e0.mod,S.kind,rfl,rfl,AH _,λy z c h1 h2=>?_,λy hy=>?_,λy c _ h=>?_,λ_=>hd,Around.frames_deeper e0.frames,.inr ⟨rfl,rfl⟩,λb z=>qB z (pT b),e0.bs,e0.bsz,λb _ _=>pT b,λb z=>qB z (pT b),e0.funs,e0.frf⟩,
  rfl,e0.bare,Un.kept hk,⟨_,x.toInCall.ns,λi y v h1 h2 h3=>?_⟩,λy c h=>⟨_,x.cell y c h⟩,e0.hok.fresh (AH _),λy c h=>?_,λp hp=>qB (show p∈([]:qJ) from hp) (by simp),e0.hok.kept hk,?_⟩
 .exact name_of_addr x.apart (F0 h1) (F0 h2)
 .have hy:=hy
  rcases hy with hy| hy
  .exact Ti hy
  .exact qB rfl (S.nofree _ (F0 hy))
 .exact DD (x.above y c (F0 h))
 .have hi:i<vs.length:=by
   unfold start at h2;by_cases hi:i<vs.length
   .exact hi
   .rw[Cc (by simpa using hi)] at h2
    rw[Os] at h2;split at h2<;>cases h2
  have ha:vs[i]?=pX v:=by
   unfold start at h2;rw[Bn (by simpa using hi),Bi] at h2;cases e:vs[i]? with
   | none=>rw[e] at h2;cases h2
   | some a=>rw[e] at h2;cases h2;rfl
  obtain⟨u,hu,rv⟩:=r.get ha;have hp:ps[i]?=pX y:=by
   rw[<- S.pre,FD (rN hi hl)];exact h1
  have ndP:ps.Nodup:=by rw[<- S.pre];exact S.nd.sublist (IP _ _)
  refine⟨u,rv,?_⟩;rcases S.par y (By hp) with k| k
  .exact .inl ⟨k,Nm ndP hp hu k⟩
  .obtain⟨c,e⟩:=Ti (n:=s.heap.objs.size+1) k
   refine .inr ⟨.inl k,c,e,?_⟩;have q:=x.cell y c e;rw[Nq ndP hp hu (by show scope.names.lookup y≠_;rw[k];decide)] at q;exact q
 .exact e0.hok.fresh (DD (x.above y c (F0 h)))
 .unfold start
  show _=N.length;rw[Bz,AB,List.length_replicate];lia
theorem AFQ{k:Nat}{params:Arguments}{dV kV:As}{N:qM} (lk:K.lookup f=pX ⟨oc,od,.func (EK name qual params body scope dV kV bg pm an a6 ct),jI⟩) (g5:Hd K a6 qual=true) (S:FnScope N ps scope)
  (len:∀vs H Q E,sp vs H Q E->vs.length=ps.length)
  (gX:∀(A:BO) (outer:List Env) (s:AA) (H:Hp) (vs:List V) (Q:VK) (E:XK),Room k (A.deeper (MT qual scope s.heap.objs.size f a6))->sp vs H Q E ->
   ∃t,PSs (cxOf CX P w K mg base N qual scope f a6 A outer s H E) body t/\t {nx:=λ_ H'=>Q .non H',rt:=Q} (start N vs) H) :
  FnOk P w K mg base CX (k+1) f (EK name qual params body scope dV kV bg pm an a6 ct) ps sp:=by
 refine⟨len,λA outer s H args us vs Q E hr e0 hb r hG=>?_⟩;have hl:=len _ _ _ _ hG;have KX:=e0.mod.kin.keeps λb o e=>(e0.bs b o e).1;have lim:=e0.mod.nolimit.keeps λb o e=>(e0.bs b o e).1;have on:∀y∈ps.zip us,scope.names.lookup y.1=pX .local\/(scope.names.lookup y.1=pX .cell/\((VA (s.heap.objs.size+1) scope.names []).lookup y.1).isSome=true):=λ⟨n,v⟩ hy=>by
  rcases S.par n (OH hy).1 with q| q
  .exact .inl q
  .exact .inr ⟨q,OW _ _ _ (.inl q)⟩
 refine codeAny_call_function hr.depth (KX _ _ lk) rfl S.co S.gen rfl (PySem.W.codeRec_of KX g5) (hb _ _ _ _ ?_);refine wpAny_newFunctionEnv_cells S.kind on λenv he s1 x=>?_;subst he;refine⟨lim.keeps x.toInCall.keep,codeAny_func ?_⟩;obtain⟨t,ht,hq⟩:=gX A outer s H vs Q E (hr.deeper _) hG;have I:Inv (cxOf CX P w K mg base N qual scope f a6 A outer s H E) [] (start N vs) H s1:=Yo S hr.hd e0 hl r x;refine D2 (ht [] s1 (start N vs) H _ I hq) (λfl s' hs=>?_) λe s' hs=>hs;have fin:∀{σ':St}{H':Hp}{v:V}{u:As},Inv (cxOf CX P w K mg base N qual scope f a6 A outer s H E) [] σ' H' s'->RelV v u->Q v H'->CE outer P w H s Q u s' :=
  λ{σ' H' v u} J rv q=>⟨v,H',J.os,J.bare,J.base,J.hok,rv,q⟩
 cases fl with
 | ret u =>
  obtain⟨v,σ',H',J,rv,q⟩:=hs;exact fin J rv q
 | next =>
  obtain⟨σ',H',J,q⟩:=hs;exact fin (v:=V.non) (u:=CY) J rfl q
 | brk =>
  obtain⟨_,_,_,q⟩:=hs;exact EH q
 | cont =>
  obtain⟨_,_,_,q⟩:=hs;exact EH q
section
variable{p:Pos}{t:TA}{id:String}{r:List V->Hp->VK->Prop}
def tCB(r:List V->Hp->VK->Prop)(t:TA):TE:=λσ H Q=>t σ H λvs H1=>r vs H1 Q
theorem Aw(hc:CallR X (.builtin id) r)(hg:Gl X x)(hm:X.mg x=pY)(hv:IT x=pX (.builtin id))(ha:PA X (e::es) t)(hn:autoParam (x≠"__name__") zA1._auto_1)(g6:autoParam ((x==("__debug__" : Str))=false) zA1._auto_1)
  (he:autoParam (Cs (e::es) X.env=(false,eval e X.env)::Cs es X.env) zA0._auto_1) (eW:autoParam ((IU pos (Cs es X.env)).any (·.1)=false) zA0._auto_1):PE X (.Call (.Name x p) (e::es) [] pos) (tCB r t):=by
 intro ae s σ H Q I h;refine Fh (Fz I hg hm hv ?_ hn g6);exact LM (thn (ha pos ae s σ H _ I h) λus s1 ⟨vs,H1,I1,r1,q1⟩=>hc ae s1 σ H1 vs us Q I1 r1 q1) he eW
theorem BX(hc:CallR X (.type T) r)(hg:Gl X x)(hm:X.mg x=pY)(hv:IT x=pX (.type T))(ha:PA X (e::es) t)(hn:autoParam (x≠"__name__") zA1._auto_1)(g6:autoParam ((x==("__debug__" : Str))=false) zA1._auto_1)
  (he:autoParam (Cs (e::es) X.env=(false,eval e X.env)::Cs es X.env) zA0._auto_1) (eW:autoParam ((IU pos (Cs es X.env)).any (·.1)=false) zA0._auto_1):PE X (.Call (.Name x p) (e::es) [] pos) (tCB r t):=by
 intro ae s σ H Q I h;refine Fh (Fz I hg hm hv ?_ hn g6);exact EC (thn (ha pos ae s σ H _ I h) λus s1 ⟨vs,H1,I1,r1,q1⟩=>hc ae s1 σ H1 vs us Q I1 r1 q1) he eW
end
end L2
variable{xs ys:List L2.V}{H H' H1 H2:L2.Hp}{X:L2.Cx}{σ τ:L2.St}{v y:L2.V}{te to tv td:L2.TE}{tc:L2.TT}{r:L2.V->List L2.V->L2.Hp->L2.VK->Prop}{CX:L2.CXT}{sp:L2.Sp}{J:L2.It}{ag:List (List L2.Key×L2.V)}{i5:List (L2.TE×L2.TE)}{fl:List (PySem.Str×L2.V)}
namespace HT
open PySem PyProof.Rows
def lexLt:qC->qC->Bool
 | [],[]=>false
 | [],_::_=>true
 | _::_,[]=>false
 | x::xs,y::ys=>if x=y then lexLt xs ys else decide (x<y)
theorem Bs(x y:Int)(xs ys:qC):lexLt (x::xs) (y::ys)=if x=y then lexLt xs ys else decide (x<y):=rfl
theorem Lh:lexLt [] []=false:=rfl
theorem Jz(y:Int)(ys:qC):lexLt [] (y::ys)=true:=rfl
theorem Lg(x:Int)(xs:qC):lexLt (x::xs) []=false:=rfl
theorem ABb(A:BO)(s:AA)(a:Int)(t:Tok)(c:Int)(u:Tok):∃e,LN A s (.int a t) (.int c u) e/\(e=true↔a=c) :=
 ⟨(a==c),Kj a t c u,by simp⟩
theorem ABQ(A:BO)(s:AA)(a:Int)(t:Tok)(c:Int)(u:Tok)(prog:AK)(w:AQ)(E:As->AA->Prop)(Q:As->AA->Prop)(h:Q (.bool (decide (a<c))) s) :
  wpAny (AM prog w) A (richCompare .Lt (.int a t) (.int c u)) Q E s :=
 (X1 h:wpAny (AM prog w) A (DM .Lt (.int a t) (.int c u)) Q E s)
section
open PySem.SeqAt
open PySem.AutoSeq1 (wpAny_loadPart')
open PySem.MeetsSeq PySem.MeetsSeq2 PySem.MeetsSeq3
theorem Gq(l b:Addr)(items be:Array As)(n n2:Nat)(dd f':Option Addr)(sl gg:Array (Option As))(ns ms:qC)(hi:Fk items.toList ns)(hj:Fk be.toList ms) :
  Meets (Builtin.«tuple.__lt__» ⟨[.ref l,.ref b],[]⟩)
   (λ_ R s=>s.heap.get? l=pX {cls:=.type "tuple",dict:=dd,data:=.seq items n,slots:=sl}/\s.heap.get? b=pX {cls:=.type "tuple",dict:=f',data:=.seq be n2,slots:=gg} /\
    R (.ok (.ret (.bool (lexLt ns ms)))) s) :=
 .of_wp λprog w A R s h=>by
  obtain⟨hp,g,d,tk,os⟩:=s;obtain⟨hl,hb,h⟩:=h;have f2:=AutoSeq1.sub_tuple_tuple;have z1:items.size=ns.length:=by rw[<- hi.length];simp
  have z2:be.size=ms.length:=by rw[<- hj.length];simp
  wp_walk using wpAny_loadPart' hl,wpAny_loadPart' hb,Fa _ (λrest b s'=>b.1=pY/\s'=⟨hp,g,d,tk,os⟩/\∃(vs ws:List As) (fF mV:qC),rest=vs.zip ws /\
   Fk vs fF/\Fk ws mV/\fF.length+be.size=mV.length+items.size/\R (.ok (.ret (.bool (lexLt fF mV)))) ⟨hp,g,d,tk,os⟩) _
  case turn =>
   rintro⟨y,x⟩ rest b s' ⟨ii,rfl,vs,ws,fF,mV,hz,nw,hwi,aT,hR⟩;cases nw with
   | nil=>rw[List.zip_nil_left] at hz;cases hz
   | cons a t hvi' =>
    cases hwi with
    | nil=>rw[List.zip_nil_right] at hz;cases hz
    | cons c u hwi' =>
     rw[RU] at hz;injection hz with hyx hrest
     injection hyx with hy hx
     subst hy hx;rw[Bs] at hR;simp only[DE] at aT;obtain⟨e,he,oC⟩:=ABb A.in1 ⟨hp,g,d,tk,os⟩ a t c u;refine Ap (he prog w _ _ ?_);cases e with
     | true =>
      rw[p6 (oC.mp rfl)] at hR
      wp_walk
      exact⟨rfl,rfl,_,_,_,_,hrest,hvi',hwi',by lia,hR⟩
     | false =>
      rw[pZ (λq=>qB (oC.mpr q) BB)] at hR;have hri:=ABQ A.in1 ⟨hp,g,d,tk,os⟩ a t c u prog w
      wp_walk using hri
      exact⟨_,rfl,by simpa using hR⟩
  case fin =>
   rintro⟨b1,b2⟩ s' ⟨ii,rfl,vs,ws,fF,mV,hz,nw,hwi,aT,hR⟩;simp only at ii;subst ii;have hv:lexLt fF mV=decide (items.size<be.size):=by
    cases nw with
    | nil =>
     cases hwi with
     | nil =>
      rw[Lh];exact(p8 (by lia)).symm
     | cons c u hw =>
      simp only[ID,DE] at aT;rw[Jz];exact(p7 (by lia)).symm
    | cons a t hv =>
     cases hwi with
     | nil =>
      simp only[ID,DE] at aT;rw[Lg];exact(p8 (by lia)).symm
     | cons c u hw =>
      rw[RU] at hz;cases hz
   rw[hv] at hR
   wp_walk
   exact⟨_,rfl,by simpa [T4] using hR⟩
  case h =>
   exact⟨rfl,rfl,items.toList,be.toList,ns,ms,rfl,hi,hj,by lia,h⟩
end
theorem Ul{be:Array As}(hl:SC s.heap l items)(hb:SC s.heap b be)(hi:Fk items.toList ns)(hj:Fk be.toList ms)
  (hu:A.units<Cn) (h:Q (.bool (lexLt ns ms)) s):wpAny (AM prog w) A (DM .Lt (.ref l) (.ref b)) Q E s:=by
 obtain⟨⟨cls,dd,data,sl⟩,ho,hc,n,hd⟩:=id hl;obtain⟨⟨iL,f',We,gg⟩,dQ,eJ,n2,eI⟩:=id hb;simp only at hc hd eJ eI;subst hc hd eJ eI;exact richCompare_meets_room (op:=.Lt) ⟨_,ho,rfl⟩ ⟨_,dQ,rfl⟩ Lu OX (Oy _ _) (Gq l b items be n n2 dd f' sl gg ns ms hi hj)
  ⟨ho,dQ,show JO (lexLt ns ms)≠Value.notImplemented/\Q (.bool (lexLt ns ms)) s from⟨(λx=>nomatch x),h⟩⟩ hu
theorem ACQ{t:Addr}{ws:List As}(ht:SC s.heap t vs.toArray)(hb:SC s.heap b ws.toArray)(hv:vs≠[])
  (h1:ws=[]->Q (.ref t) s) (h2:ws≠[]->Q (.ref s.heap.objs.size) {s with heap:=s.heap.push {cls:=.type "tuple",data:=.seq (vs++ws).toArray}})
  (hsz:vs.length+ws.length<=sizeLine):wpAny (AM prog w) A (G2 .Add (.ref t) (.ref b)) Q E s:=by
 obtain⟨⟨cls,dd,data,sl⟩,ho,hc,n,hd⟩:=id ht;obtain⟨⟨iL,f',We,gg⟩,dQ,eJ,n2,eI⟩:=id hb;simp only at hc hd eJ eI;subst hc hd eJ eI;have e:vs.toArray++ws.toArray=(vs++ws).toArray:=by simp
 by_cases hw:ws=[]
 .exact N0 ⟨_,ho,rfl⟩ ⟨_,dQ,rfl⟩ N1 QU K4 KG (Kk _ _)
   (tuple_addW1 t b vs.toArray ws.toArray n n2 dd f' sl gg (by simpa using hv) (by simp[hw])) ⟨ho,dQ,h1 hw⟩
 .refine N0 ⟨_,ho,rfl⟩ ⟨_,dQ,rfl⟩ N1 QU K4 KG (Kk _ _)
   (tuple_addW2 t b vs.toArray ws.toArray n n2 dd f' sl gg (by simpa using hv) (by simpa using hw) (by rw[AU,AU];exact hsz)) ⟨ho,dQ,?_⟩
  rw[e];exact h2 hw
def sIx(n d:Nat):Option Int->Nat
 | none=>d
 | some v=>if v<0 then(v+(n:Int)).toNat else min v.toNat n
theorem Qn(n d:Nat):sIx n d pY=d:=rfl
theorem Wv(n d k:Nat):sIx n d (pX (k:Int))=min k n:=by
 show(if(k:Int)<0 then((k:Int)+(n:Int)).toNat else min (k:Int).toNat n)=min k n;rw[pZ rQ,CH]
end HT
namespace L2
open PySem PySem.Spec PyProof.Rows
abbrev TO:=St->Hp->(Option Int->Hp->Prop)->Prop
def PO(X:Cx)(e:Option Expr)(t:TO):Prop :=
 ∀(ae:qJ) (s:AA) (σ:St) (H:Hp) (Q:Option Int->Hp->Prop),Inv X ae σ H s->t σ H Q ->
  wpAny (AM X.prog X.w) X.A (evalPart e X.env) (λu s'=>∃o H',Inv X ae σ H' s'/\IsPart u o/\Q o H') X.xe s
def ACk:TO:=λ_ H Q=>Q pY H
def AFV(t:TE):TO:=λσ H Q=>t σ H λx H1=>∃i,x=.int i/\Q (pX i) H1
theorem intsAre_of:∀{us:List As},Vals (ns.map V.int) us->Fk us ns:=by
 induction ns with
 | nil=>intro us r;rw[IX] at r;cases r;exact .nil
 | cons n ns ih =>
  intro us r;rw[BG] at r;cases r with
  | cons r1 r2 =>
   obtain⟨t,e⟩:=r1;subst e;exact .cons n t (ih r2)
section
variable{lo hi:Option Expr}{tl th:TO}
theorem Wb:PO X pY ACk:=by
 intro ae s σ H Q I h;rw[evalPart_none];exact AC ⟨pY,H,I,.none,h⟩
theorem Jb(h:PE X e te):PO X (pX e) (AFV te):=by
 intro ae s σ H Q I hw;rw[evalPart_some];refine thn (h ae s σ H _ I hw) λu s1 ⟨x,H1,I1,r1,q1⟩=>?_;obtain⟨i,rfl,q⟩:=q1;obtain⟨t,rfl⟩:=r1;exact⟨pX i,H1,I1,.int i t,q⟩
def SlR(X:Cx)(r:V->Option Int->Option Int->Hp->VK->Prop):Prop :=
 ∀(ae:qJ) (s:AA) (σ:St) (H:Hp) (x:V) (v vl vu:As) (lo hi:Option Int) (sl:Addr) (Q:VK),Inv X ae σ H s->RelV x v->s.heap.IsSliceOf sl vl vu .none->IsPart vl lo->IsPart vu hi->r x lo hi H Q ->
  ∃T id,typeLookup (.type T) "__getitem__" = pure (pX (.builtin id))/\s.TypeIs v T/\wpAny (AM X.prog X.w) X.A (NN v (.ref sl)) (EP X ae σ Q) X.xe s
def tSl(r:V->Option Int->Option Int->Hp->VK->Prop)(te:TE)(tl th:TO):TE:=λσ H Q=>te σ H λx H1=>tl σ H1 λl H2=>th σ H2 λu H3=>r x l u H3 Q
theorem Lf{r:V->Option Int->Option Int->Hp->VK->Prop}(hr:SlR X r)(he:PE X e te)(hl:PO X lo tl)(hu:PO X hi th):PE X (.Subscript e (.Slice lo hi pY p2) pos) (tSl r te tl th):=by
 intro ae s σ H Q I h;refine UA (thn (he ae s σ H _ I h) λv s1 ⟨x,H1,I1,r1,q1⟩=>?_);refine wpAny_Slice (thn (hl ae s1 σ H1 _ I1 q1) λvl s2 ⟨l,H2,I2,pl,q2⟩=>thn (hu ae s2 σ H2 _ I2 q2) λvu s3 ⟨u,H3,I3,pu,q3⟩=>?_);rw[evalPart_none];refine AC ?_;have I4:Inv X ae σ H3 {s3 with heap:=s3.heap.push {cls:=.type "slice",data:=.fields #[vl,vu,.none]}}:=I3.kept (t':=s3.toks) λb ob q=>AG _ q;obtain⟨T,id,hT,ht,hg⟩:=hr ae {s3 with heap:=s3.heap.push {cls:=.type "slice",data:=.fields #[vl,vu,.none]}} σ H3 x v vl vu l u s3.heap.objs.size Q I4 r1 (X4 ..) pl pu q3;exact tail_any (ops:=[.ref s3.heap.objs.size,v]) ht hT hg (by with_unfolding_all rfl)
def cutV(xs:List V)(lo hi:Option Int):List V:=(xs.drop (HT.sIx xs.length 0 lo)).take (HT.sIx xs.length xs.length hi-HT.sIx xs.length 0 lo)
theorem Te(xs:List V)(lo hi:Option Int):(cutV xs lo hi).length<=xs.length:=by
 unfold cutV;rw[BS,F7];lia
def rCatT(K:Au):R2:=λx y H Q=>∃a b xs ys,x=.ref a/\y=.ref b/\SqT K H a xs/\SqT K H b ys/\xs≠[]/\xs.length+ys.length<=sizeLine /\
 (ys=[]->Q (.ref a) H)/\(ys≠[]->∀p,H p=none->Q (.ref p) (upd H p (.tup (xs++ys))))
theorem Vals.nil_iff(r:Vals xs us):us=[]↔xs=[]:=by
 cases r with
 | nil=>simp
 | cons _ _=>simp
theorem ADQ:OpR X (G2 .Add) (rCatT X.K):=by
 intro ae s σ H x y v u Q I rx ry h;obtain⟨a,b,xs,ys,rfl,rfl,ha,hb,hx,hz,q1,q2⟩:=h;cases rx;cases ry;obtain⟨ah,r1,p1,_⟩:=I.tuple ha;obtain⟨cv,r2,p2,_⟩:=I.tuple hb;refine HT.ACQ p1 p2 (λz=>hx (r1.nil_iff.mp z)) (λz=>⟨.ref a,H,I,rfl,q1 (r2.nil_iff.mp z)⟩) (λz=>?_) (by rw[<- r1.length,<- r2.length];exact hz);refine⟨.ref s.heap.objs.size,_,I.laid (t':=s.toks) (o:=.tup (xs++ys)) (λb ob q=>AG _ q) (AH _) ?_,rfl,q2 (λw=>z (r2.nil_iff.mpr w)) _ (I.hok.fresh (AH _))⟩;exact⟨by rw[Bz];exact hz,_,r1.append r2,X5 _ _⟩
end
def ixN(n:Nat)(i:Int):qP:=if 0<=i then(if i<n then pX i.toNat else pY) else if -(n:Int)<=i then pX (i+n).toNat else pY
def atI{α:Type}(xs:List α)(i:Int):Option α:=(ixN xs.length i).bind λj=>xs[j]?
theorem Wz{i:Int}(h:ixN n i=pX j):seqIndex? i n=pX j/\j<n/\-(n:Int)<=i/\i<n:=by
 unfold ixN at h;by_cases h0:0<=i
 .rw[p6 h0] at h
  by_cases h1:i<n
  .rw[p6 h1] at h
   have e:=A8 h;exact⟨by rw[S5 h0 h1,e],by lia,by lia,h1⟩
  .rw[pZ h1] at h;cases h
 .rw[pZ h0] at h
  by_cases h1:-(n:Int)<=i
  .rw[p6 h1] at h
   have e:=A8 h;exact⟨by rw[seqIndex_neg (rM h0) h1,e],by lia,h1,by lia⟩
  .rw[pZ h1] at h;cases h
theorem atI_get{xs:List α}{i:Int}{v:α}(h:atI xs i=pX v):∃j,seqIndex? i xs.length=pX j/\xs[j]?=pX v/\j<xs.length/\-(xs.length:Int)<=i/\i<xs.length:=by
 unfold atI at h;cases e:ixN xs.length i with
 | none=>rw[e] at h;cases h
 | some j =>
  rw[e] at h;obtain⟨h1,h2,h3,h4⟩:=Wz e;exact⟨j,h1,h,h2,h3,h4⟩
theorem CN{xs:List α}{v:α}(h:xs[j]?=pX v):atI xs (j:Int)=pX v:=by
 have hj:=(AF.mp h).1;have e:ixN xs.length (j:Int)=pX j:=by
  unfold ixN;rw[p6 qo,p6 (qO hj)];simp
 unfold atI;rw[e];exact h
def ACU(b:Expr):Prop:=∀o i,OY b false o i=operate [o,i] (NN o i)
def IxR(X:Cx)(r:R2):Prop :=
 ∀(aI bi:Expr) (ae:qJ) (s:AA) (σ:St) (H:Hp) (x y:V) (v u:As) (Q:VK),Inv X ae σ H s->RelV x v->RelV y u->r x y H Q ->
  OY bi false v u=operate [v,u] (NN v u)->wpAny (AM X.prog X.w) X.A (subscriptTail aI bi v u) (EP X ae σ Q) X.xe s
def MtR(X:Cx)(id:String)(r:V->List V->Hp->VK->Prop):Prop :=
 ∀(ae:qJ) (s:AA) (σ:St) (H:Hp) (x:V) (xs:List V) (v:As) (us:List As) (Q:VK),Inv X ae σ H s->RelV x v->Vals xs us->r x xs H Q ->
  wpAny (AM X.prog X.w) X.A (call (.builtin id) (v::us)) (EP X ae σ Q) X.xe s
section
variable{a b:Expr}{ta tb:TE}
theorem Ay{r:R2}(hr:IxR X r)(ha:PE X a ta)(hb:PE X b tb)(hs:ACU b:=by exact λ_ _=>rfl):PE X (.Subscript a b pos) (tOp r ta tb):=by
 intro ae s σ H Q I h;exact UA (binT ha hb I h λv u s2 x y H2 I2 rx ry q=>hr a b ae s2 σ H2 x y v u Q I2 rx ry q (hs _ _))
def rIxL(K:Au):R2:=λx y H Q=>E4 λp xs i v=>A5 (x=.ref p) (y=.int i) (SqL K H p xs) (atI xs i=pX v) (Q v H)
def rIxT(K:Au):R2:=λx y H Q=>E4 λp xs i v=>A5 (x=.ref p) (y=.int i) (SqT K H p xs) (atI xs i=pX v) (Q v H)
theorem Cm:IxR X (rIxL X.K):=by
 intro aI bi ae s σ H x y v u Q I rx ry h hs;obtain⟨p,xs,i,z,rfl,rfl,hq,he,q⟩:=h;cases rx;obtain⟨t,rfl⟩:=ry;obtain⟨ah,r,pl,hz⟩:=I.list hq;obtain⟨j,h1,h2,h3,h4,h5⟩:=atI_get he;obtain⟨w,ew,dk⟩:=r.get h2;have hl:=r.length;have hn:=line63;have fin:EP X ae σ Q w s:=⟨z,H,I,dk,q⟩;by_cases h0:0<=i
 .have hj:i.toNat=j:=by
   rw[S5 h0 h5] at h1;exact A8 h1
  exact item_listR pl.isList h0 (by lia) (by rw[hj];simpa using ew) fin hs
 .have hj:(i+(ah.toArray.size:Int)).toNat=j:=by
   rw[seqIndex_neg (rM h0) h4] at h1;rw[AU,<- hl];exact A8 h1
  exact OZ (x:=w) pl.isList.typeIs SL.lookup
   (wpAny_getItem_list_neg (Q:=λr s'=>r=w/\EP X ae σ Q r s') pl.isList (rM h0) (by rw[AU]<;>lia) (by lia) (by rw[hj];simpa using ew) ⟨rfl,fin⟩) hs
theorem Bg:IxR X (rIxT X.K):=by
 intro aI bi ae s σ H x y v u Q I rx ry h hs;obtain⟨p,xs,i,z,rfl,rfl,hq,he,q⟩:=h;cases rx;obtain⟨t,rfl⟩:=ry;obtain⟨ah,r,pl,hz⟩:=I.tuple hq;obtain⟨j,h1,h2,h3,h4,h5⟩:=atI_get he;obtain⟨w,ew,dk⟩:=r.get h2;have hl:=r.length;have hn:=line63;have fin:EP X ae σ Q w s:=⟨z,H,I,dk,q⟩;exact OZ (x:=w) pl.typeIs slot_tuple_getitem.lookup
  (getItem_tuple (j:=j) (Q:=λr s'=>r=w/\EP X ae σ Q r s') pl (by lia) (by lia) (by rw[AU,<- hl];exact h1) (by simpa using ew) ⟨rfl,fin⟩) hs
theorem Tr(ah:List As)(n j:Nat)(u:As):CU (·.setIfInBounds j u) {cls:=.type "list",data:=.seq ah.toArray n}={cls:=.type "list",data:=.seq (ah.set j u).toArray n}:=by
 simp[CU]
theorem Inv.lst(I:Inv X ae σ H s)(h:H p=pX (.lst xs)) :
  ∃(ah:List As) (n:Nat),Vals xs ah/\s.heap.get? p=pX {cls:=.type "list",data:=.seq ah.toArray n}/\xs.length<=sizeLine:=by
 obtain⟨z,ah,n,r,e⟩:=I.hok p _ h;exact⟨ah,n,r,e,z⟩
theorem Inv.lstUpd{n':Nat}{f:Obj->Obj}(I:Inv X ae σ H s)(h:H p=pX (.lst xs))
  (ho:s.heap.get? p=pX {cls:=.type "list",data:=.seq ah.toArray n}) (hf:f {cls:=.type "list",data:=.seq ah.toArray n}={cls:=.type "list",data:=.seq its'.toArray n'}) (r:Vals ys its') (hz:ys.length<=sizeLine) (t:Nat) :
  Inv X ae σ (upd H p (.lst ys)) {s with heap:=s.heap.update p f,toks:=t}:=by
 have e:(s.heap.update p f).get? p=pX {cls:=.type "list",data:=.seq its'.toArray n'}:=by
  rw[D6 f ho (by rw[hf]<;>rfl),hf]
 refine I.write (x:=p) (e:=p) (by rw[h];trivial) (.inl rfl) (λb u hb q=>(DZ _ _ (CB hb)).trans q) ⟨_,e⟩ ?_;exact⟨hz,its',n',r,e⟩
def rSetL:V->V->V->Hp->(Hp->Prop)->Prop:=λo i v H Q=>E4 λp xs k j=>A5 (o=.ref p) (i=.int k) (H p=pX (.lst xs)) (ixN xs.length k=pX j) (Q (upd H p (.lst (xs.set j v))))
theorem set_list:PSet X rSetL:=by
 intro ae s σ H o i v ov iv u Q I ro ri rv h;obtain⟨p,xs,k,j,rfl,rfl,hp,hj,q⟩:=h;cases ro;obtain⟨t,rfl⟩:=ri;obtain⟨ah,n,r,ho,hz⟩:=I.lst hp;obtain⟨h1,h2,h3,h4⟩:=Wz hj;have hl:=r.length;have hn:=line63;have I':Inv X ae σ (upd H p (.lst (xs.set j v))) {s with heap:=s.heap.update p (CU (·.setIfInBounds j u))} :=
  I.lstUpd hp ho (Tr ah n j u) (r.set rv j) (by rw[EA];exact hz) s.toks
 by_cases h0:0<=k
 .have hk:k.toNat=j:=by
   rw[S5 h0 h4] at h1;exact A8 h1
  exact PySem.W.ki_setAt ho h0 (by lia) (by rw[AU,<- hl];exact h4) (by rw[hk];exact⟨_,I',q⟩)
 .have hk:(k+(ah.toArray.size:Int)).toNat=j:=by
   rw[seqIndex_neg (rM h0) h3] at h1;rw[AU,<- hl];exact A8 h1
  exact PySem.W.ki_setBack ho (rM h0) (by rw[AU,<- hl];exact h3) (by lia) (by rw[hk];exact⟨_,I',q⟩)
theorem Pg(lo hi:Option Int)(n:Nat):(J6 lo hi pY n).1=((HT.sIx n 0 lo:Nat):Int)/\(J6 lo hi pY n).2.1=((HT.sIx n n hi:Nat):Int)/\(J6 lo hi pY n).2.2=1:=by
 refine⟨?_,?_,rfl⟩
 .cases lo with
  | none=>simp[J6,HT.sIx]
  | some i =>
   simp only[J6,HT.sIx,TH,show(1:Int)>0 by decide,if_true];by_cases h:i<0
   .simp only[h,if_true]<;>exact vd h
   .simp only[h,if_false]<;>exact ve
 .cases hi with
  | none=>simp[J6,HT.sIx]
  | some i =>
   simp only[J6,HT.sIx,TH,show(1:Int)>0 by decide,if_true];by_cases h:i<0
   .simp only[h,if_true]<;>exact vd h
   .simp only[h,if_false]<;>exact ve
theorem MJ(ah:List As)(lo hi:Option Int):slicePick ah.toArray lo hi pY=((ah.drop (HT.sIx ah.length 0 lo)).take (HT.sIx ah.length ah.length hi-HT.sIx ah.length 0 lo)).toArray:=by
 obtain⟨h1,h2,h3⟩:=Pg lo hi ah.toArray.size;unfold slicePick;rw[h1,h2,h3];simp only[sliceRange_one,pick_run,AU]<;>rfl
def rSlL(K:Au):V->Option Int->Option Int->Hp->VK->Prop:=λx lo hi H Q=>E2 λa xs=>A3 (x=.ref a) (SqL K H a xs) (∀p,H p=none->Q (.ref p) (upd H p (.lst (cutV xs lo hi))))
theorem Om:SlR X (rSlL X.K):=by
 intro ae s σ H x v vl vu lo hi sl Q I rx hs pl pu h;obtain⟨a,xs,rfl,hx,q⟩:=h;cases rx;obtain⟨ah,r,ht,hz⟩:=I.list hx;have aT:=r.length;refine⟨"list",_,SL.lookup,ht.isList.typeIs,?_⟩;refine wpAny_getItem_list_slice ht.isList hs pl pu .none (by simp) ?_ (by rw[AU]<;>exact qF aT hz);rw[MJ,<- aT];refine⟨.ref s.heap.objs.size,_,I.laid (t':=s.toks) (o:=.lst (cutV xs lo hi)) (λb ob q=>AG _ q) (AH _) ?_,rfl,q _ (I.hok.fresh (AH _))⟩;exact⟨BQ (Te xs lo hi) hz,_,0,(r.drop (HT.sIx xs.length 0 lo)).take (HT.sIx xs.length xs.length hi-HT.sIx xs.length 0 lo),AS _ rfl⟩
def flatV:V->Bool
 | .non=>true
 | .bl _=>true
 | .int _=>true
 | .str _=>true
 | _=>false
def eqV:V->V->Bool
 | .non,.non=>true
 | .bl a,.bl b=>a==b
 | .bl a,.int b=>(if a then 1 else 0)==b
 | .int a,.bl b=>a==(if b then 1 else 0)
 | .int a,.int b=>a==b
 | .str a,.str b=>a==b
 | _,_=>false
theorem ADq{x:V}{v:As}(ry:RelV y u)(rx:RelV x v)(fy:flatV y=true)(fx:flatV x=true):LN A s u v (eqV y x):=by
 cases y with
 | non =>
  cases ry;cases x with
  | non=>cases rx;exact LO _
  | bl b=>cases rx;exact SeqAt.EqAt.none_bool b
  | int b=>obtain⟨t,rfl⟩:=rx;exact Mm b t
  | str b=>obtain⟨t,rfl⟩:=rx;exact SeqAt.EqAt.none_str b t
  | _=>exact qB fx BB
 | bl a =>
  cases ry;cases x with
  | non=>cases rx;exact SeqAt.EqAt.bool_none a
  | bl b=>cases rx;exact SeqAt.EqAt.bool_bool a b
  | int b=>obtain⟨t,rfl⟩:=rx;exact SeqAt.EqAt.bool_int a b t
  | str b=>obtain⟨t,rfl⟩:=rx;exact SeqAt.EqAt.bool_str a b t
  | _=>exact qB fx BB
 | int a =>
  obtain⟨t',rfl⟩:=ry;cases x with
  | non=>cases rx;exact Mn a t'
  | bl b=>cases rx;exact SeqAt.EqAt.int_bool a t' b
  | int b=>obtain⟨t,rfl⟩:=rx;exact Kj a t' b t
  | str b=>obtain⟨t,rfl⟩:=rx;exact Rs a t' b t
  | _=>exact qB fx BB
 | str a =>
  obtain⟨t',rfl⟩:=ry;cases x with
  | non=>cases rx;exact SeqAt.EqAt.str_none a t'
  | bl b=>cases rx;exact SeqAt.EqAt.str_bool a t' b
  | int b=>obtain⟨t,rfl⟩:=rx;exact RA a t' b t
  | str b=>obtain⟨t,rfl⟩:=rx;exact SeqAt.EqAt.str_str a t' b t
  | _=>exact qB fx BB
 | _=>exact qB fy BB
def eqU(x:V)(u:As):Bool:=match u with
 | .none=>eqV .non x
 | .bool b=>eqV (.bl b) x
 | .int i _=>eqV (.int i) x
 | .str z _=>eqV (.str z) x
 | _=>false
theorem Zd{x:V}(r:RelV y u)(f:flatV y=true):eqU x u=eqV y x:=by
 cases y with
 | non=>cases r;rfl
 | bl b=>cases r;rfl
 | int i=>obtain⟨t,rfl⟩:=r;rfl
 | str z=>obtain⟨t,rfl⟩:=r;rfl
 | _=>exact qB f BB
theorem IW{x:V}:∀{xs:List V}{us:List As},Vals xs us->xs.all flatV=true->us.any (eqU x)=xs.any λy=>eqV y x
 | _,_,.nil,_=>rfl
 | y::xs,u::us,.cons r t,f=>by
  rw[VM,Fc] at f;rw[Ix,Ix,Zd r f.1,IW t f.2]
theorem Fq{A:BO}{s:AA}{x:V}{v:As}(rx:RelV x v)(fx:flatV x=true):∀{xs:List V}{us:List As},Vals xs us->xs.all flatV=true->∀u∈us,LN A s u v (eqU x u)
 | _,_,.nil,_=>λu hu=>by cases hu
 | y::xs,u::us,.cons r t,f=>λu' hu=>by
  rw[VM,Fc] at f;rcases BF.mp hu with rfl| hu
  .rw[Zd r f.1];exact ADq r rx f.1 fx
  .exact Fq rx fx t f.2 u' hu
def inV(x:V)(xs:List V):Bool:=xs.any λy=>eqV y x
def rIn(K:Au)(neg:Bool):R2:=λx y H Q=>E2 λp xs=>A5 (y=.ref p) ((SqL K H p xs\/SqT K H p xs)) (flatV x=true) (xs.all flatV=true) (Q (.bl (if neg then !inV x xs else inV x xs)) H)
theorem MP:OpR X (DM .In) (rIn X.K false):=by
 intro ae s σ H x y v u Q I rx ry h;obtain⟨p,xs,rfl,hq,fx,fs,q⟩:=h;cases ry;rcases hq with hq| hq
 .obtain⟨ah,r,pl,hz⟩:=I.list hq
  refine UB (eqU x) pl.isList (λw hw=>Fq rx fx r fs w (by simpa using hw)) ⟨.bl _,H,I,rfl,?_⟩;rw[show ah.toArray.any (eqU x)=ah.any (eqU x) by simp,IW r fs];exact q
 .obtain⟨ah,r,pl,hz⟩:=I.tuple hq
  refine TJ (eqU x) pl (λw hw=>Fq rx fx r fs w (by simpa using hw)) ⟨.bl _,H,I,rfl,?_⟩;rw[show ah.toArray.any (eqU x)=ah.any (eqU x) by simp,IW r fs];exact q
theorem QS:OpR X (DM .NotIn) (rIn X.K true):=by
 intro ae s σ H x y v u Q I rx ry h;obtain⟨p,xs,rfl,hq,fx,fs,q⟩:=h;cases ry;rcases hq with hq| hq
 .obtain⟨ah,r,pl,hz⟩:=I.list hq
  refine RY (eqU x) pl.isList (λw hw=>Fq rx fx r fs w (by simpa using hw)) ⟨.bl _,H,I,rfl,?_⟩;rw[show ah.toArray.any (eqU x)=ah.any (eqU x) by simp,IW r fs];exact q
 .obtain⟨ah,r,pl,hz⟩:=I.tuple hq
  refine Q5 (eqU x) pl (λw hw=>Fq rx fx r fs w (by simpa using hw)) ⟨.bl _,H,I,rfl,?_⟩;rw[show ah.toArray.any (eqU x)=ah.any (eqU x) by simp,IW r fs];exact q
theorem BJ:CallR X (.builtin "len") (λxs H Q=>∃p ys,xs=[.ref p]/\(SqL X.K H p ys\/SqT X.K H p ys)/\Q (.int ys.length) H):=by
 intro ae s σ H xs us Q I r h;obtain⟨p,ys,rfl,hq,q⟩:=h;obtain⟨u,rfl,rx⟩:=vals1 r;cases rx;have hn:=line63;rcases hq with hq| hq
 .obtain⟨ah,r',pl,hz⟩:=I.list hq
  have aT:=r'.length;exact Calls.call_len_list pl.isList (by simp only[AU]<;>lia) ⟨.int ys.length,H,I.tok _,⟨s.toks+1,by rw[AU,aT]⟩,q⟩
 .obtain⟨ah,r',pl,hz⟩:=I.tuple hq
  have aT:=r'.length;exact len_tuple pl (by simp only[AU]<;>lia) ⟨.int ys.length,H,I.tok _,⟨s.toks+1,by rw[AU,aT]⟩,q⟩
theorem Fd:CallR X (.type "list") (λxs H Q=>∃p ys,xs=[.ref p]/\(SqL X.K H p ys\/SqT X.K H p ys)/\∀l,H l=none->Q (.ref l) (upd H l (.lst ys))):=by
 intro ae s σ H xs us Q I r h;obtain⟨p,ys,rfl,hq,q⟩:=h;obtain⟨u,rfl,rx⟩:=vals1 r;cases rx;have fin:∀(ah:List As),Vals ys ah->ys.length<=sizeLine->∀(h':Heap) (c':Nat),(∀b o',s.heap.get? b=pX o'->h'.get? b=pX o') ->
   h'.get? s.heap.objs.size=pX {cls:=.type "list",dict:=pY,data:=.seq ah.toArray c',slots:=#[]}->EP X ae σ Q (.ref s.heap.objs.size) {s with heap:=h'}:=λah r' hz h' c' kp e =>
  ⟨.ref s.heap.objs.size,_,I.laid (t':=s.toks) kp (AH _) (show ObjOk X.prog X.w _ h' _ (.lst ys) from⟨hz,ah,c',r',e⟩),rfl,q _ (I.hok.fresh (AH _))⟩
 rcases hq with hq| hq
 .obtain⟨ah,r',pl,hz⟩:=I.list hq
  have aT:=r'.length;obtain⟨o,ho,hc,n,hd⟩:=pl.isList;exact call_list_seq p (.inl rfl) ho hc hd (λh' c' kp e=>fin ah r' hz h' c' kp e) (by simp only[AU]<;>exact qF aT hz)
 .obtain⟨ah,r',pl,hz⟩:=I.tuple hq
  have aT:=r'.length;obtain⟨o,ho,hc,n,hd⟩:=pl;exact call_list_seq p (.inr rfl) ho hc hd (λh' c' kp e=>fin ah r' hz h' c' kp e) (by simp only[AU]<;>exact qF aT hz)
theorem Bt:CallR X (.type "tuple") (λxs H Q=>∃p ys,xs=[.ref p]/\((SqL X.K H p ys/\∀l,H l=none->Q (.ref l) (upd H l (.tup ys)))\/(SqT X.K H p ys/\Q (.ref p) H))):=by
 intro ae s σ H xs us Q I r h;obtain⟨p,ys,rfl,h⟩:=h;obtain⟨u,rfl,rx⟩:=vals1 r;cases rx;rcases h with⟨hq,q⟩| ⟨hq,q⟩
 .obtain⟨ah,r',pl,hz⟩:=I.list hq
  have aT:=r'.length;refine call_tuple_list pl.isList (λh' kp=>?_) (by simp only[AU]<;>exact qF aT hz);have I1:=I.kept (t':=s.toks) kp;have I2:Inv X ae σ (upd H h'.objs.size (.tup ys)) {s with heap:=h'.push {cls:=.type "tuple",data:=.seq ah.toArray}} :=
   I1.laid (t':=s.toks) (λb o e=>AG _ e) (AH _) (⟨hz,ah,r',X5 _ _⟩)
  exact⟨.ref h'.objs.size,_,I2,rfl,q _ (I1.hok.fresh (AH _))⟩
 .obtain⟨ah,r',pl,hz⟩:=I.tuple hq
  exact call_tuple_same pl ⟨.ref p,H,I,rfl,q⟩
def tyV(K:Au)(T:String)(x:V)(H:Hp):Prop:=match x with
 | .str _=>T = "str"
 | .int _=>T = "int"
 | .ref p=>(T = "list"/\∃xs,SqL K H p xs)\/(T = "tuple"/\∃o,K.lookup p=pX o/\o.cls=.type "tuple"/\o.dict=pY) \/
   (T = "dict"/\((∃ag,H p=pX (.dK ag))\/∃ag,H p=pX (.dT ag)))\/(T = "set"/\∃S n,H p=pX (.set S n))
 | _=>False
theorem AEb{x:V}{v:As}(I:Inv X ae σ H s)(r:RelV x v)(ty:tyV X.K T x H) :
  s.TypeIs v T/\∀a,v=.ref a->∃ob,s.heap.get? a=pX ob/\ob.dict=pY:=by
 cases x with
 | str z =>
  obtain⟨t,rfl⟩:=r;cases ty;exact⟨typeIs_str s z t,λ_ e=>nomatch e⟩
 | int i =>
  obtain⟨t,rfl⟩:=r;cases ty;exact⟨typeIs_int s i t,λ_ e=>nomatch e⟩
 | ref p =>
  cases r;rcases ty with⟨rfl,xs,hq⟩| ⟨rfl,o,hk,hc,hd⟩| ⟨rfl,hk⟩| ⟨rfl,S,n,hk⟩
  .obtain⟨ah,_,pl,_⟩:=I.list hq
   refine⟨pl.isList.typeIs,λa e=>?_⟩;cases e;obtain⟨o,n,e,c,hd,_⟩:=pl;exact⟨o,e,hd⟩
  .refine⟨⟨o,I.kIn p o hk,hc⟩,λa e=>?_⟩
   cases e;exact⟨o,I.kIn _ o hk,hd⟩
  .have z:∃o,s.heap.get? p=pX o/\o.ExactDict:=by
    rcases hk with⟨ag,hk⟩| ⟨ag,hk⟩
    .obtain⟨_,_,_,_,o,_,_,e,ex,_⟩:=I.hok p _ hk
     exact⟨o,e,ex⟩
    .obtain⟨_,_,_,_,o,_,_,e,ex,_⟩:=I.hok p _ hk
     exact⟨o,e,ex⟩
   obtain⟨o,e,ex⟩:=z;refine⟨⟨o,e,ex.1⟩,λa e2=>?_⟩;cases e2;exact⟨o,e,ex.2.1⟩
  .obtain⟨o,_,_,_,e,ex,_⟩:=I.hok p _ hk
   refine⟨⟨o,e,ex.1⟩,λa e2=>?_⟩;cases e2;exact⟨o,e,ex.2.1⟩
 | _=>exact EH ty
def tBM(K:Au)(T:String)(r:V->List V->Hp->VK->Prop)(to:TE)(t:TA):TE:=λσ H Q=>to σ H λx H1=>tyV K T x H1/\t σ H1 λxs H2=>r x xs H2 Q
variable{o:Expr}{t:TA}{id:String}
theorem Js(pa:PlainAttrs T)(slot:Slot T name id)(hty:typeOf (.builtin id)=pure (.type "method_descriptor"))(hm:MtR X id r)(ho:PE X o to)(ha:PA X (e::es) t)
  (oB:autoParam (M3 o name X.env (eval o X.env)=eval o X.env) zA0._auto_1)
  (hU:autoParam (((IU br (Cs (e::es) X.env)).all (λx=>!x.1)&&(TD br (OV [] X.env)).all (λx=>x.1.isSome)
   && decide ((e::es).length+([]:List U3).length+(if([]:List U3).isEmpty then 0 else 1)<30))=true) zA0._auto_1)
  (oP:autoParam ((bv.endLine==br.line)=true) zA0._auto_1) (hs:autoParam (Cs (e::es) X.env=(false,eval e X.env)::Cs es X.env) zA0._auto_1) (kX:autoParam ((IU br (Cs es X.env)).any (·.1)=false) zA0._auto_1) :
  PE X (.Call (.Attribute o name bv) (e::es) [] br) (tBM X.K T r to t):=by
 intro ae s σ H Q I h;refine wpAny_Call_method_late oB hU oP rfl (thn (ho ae s σ H _ I h) λv s1 ⟨x,H1,I1,r1,ty,q1⟩=>?_);obtain⟨h1,h2⟩:=AEb I1 r1 ty;refine⟨T,id,pa,slot,hty,h1,h2,?_⟩;have hA:=ha br ae s1 σ H1 _ I1 q1;rw[hs] at hA ⊢;refine O0 (by show(false||(IU br (Cs es X.env)).any (·.1))=false;rw[kX]<;>rfl) (P9 ?_);exact thn hA λus s2 ⟨vs,H2,I2,r2,q2⟩=>hm ae s2 σ H2 x vs v us Q I2 r1 r2 q2
end
def MtM(X:Cx)(id:String)(r:V->List V->Hp->VK->Prop):Prop :=
 ∀(ae:qJ) (s:AA) (σ:St) (H:Hp) (x:V) (xs:List V) (v:As) (us:List As) (Q:VK),Inv X ae σ H s->RelV x v->Vals xs us->r x xs H Q ->
  wpAny (AM X.prog X.w) X.A (call (.builtin id) (v::us)) (EP X ae σ Q) X.xe s
theorem Vals.one:∀{x:V}{us:List As},Vals [x] us->∃u,us=[u]/\RelV x u
 | _,_,.cons r .nil=>⟨_,rfl,r⟩
section
variable{zs:List V}
theorem Inv.lset{f:Array As->Array As}(I:Inv X ae σ H s)(hH:H l=pX (.lst xs))
  (e:s.heap.get? l=pX {cls:=.type "list",data:=.seq ah.toArray n}) (hf:f ah.toArray=its'.toArray) (hv:Vals ys its') (hz:ys.length<=sizeLine) :
  Inv X ae σ (upd H l (.lst ys)) {s with heap:=s.heap.update l (CU f),toks:=t'}:=by
 have q:=PySem.IsL.update e f;rw[hf] at q;refine I.write (x:=l) (e:=l) (by rw[hH];exact trivial) (.inl rfl) (λb' u hb hu=>(DZ s.heap (CU f) (CB hb)).trans hu) ⟨_,q⟩ ?_;exact⟨hz,its',_,hv,q⟩
theorem Inv.lnew(I:Inv X ae σ H s)(hv:Vals ys ah)(hz:ys.length<=sizeLine) :
  Inv X ae σ (upd H s.heap.objs.size (.lst ys)) {s with heap:=s.heap.push {cls:=.type "list",data:=.seq ah.toArray},toks:=t'} :=
 I.laid (λ_ _ q=>AG _ q) (AH _) ⟨hz,ah,0,hv,AS _ rfl⟩
theorem Inv.fresh(I:Inv X ae σ H s):H s.heap.objs.size=pY:=I.hok.fresh (AH _)
theorem Inv.lstM(I:Inv X ae σ H s)(hH:H l=pX (.lst xs)):xs.length<=sizeLine/\∃(ah:List As) (n:Nat),Vals xs ah/\xs.length=ah.length/\s.heap.get? l=pX {cls:=.type "list",data:=.seq ah.toArray n}:=by
 obtain⟨z,ah,n,r,e⟩:=I.hok l _ hH;exact⟨z,ah,n,r,r.length,e⟩
theorem ABU(h:n<=sizeLine):Kn n=false:=by
 unfold Kn;exact p8 (by lia)
end
def ACW:V->List V->Hp->VK->Prop:=λx vs H Q=>∃l xs y,x=.ref l/\vs=[y]/\H l=pX (.lst xs)/\xs.length<sizeLine/\Q .non (upd H l (.lst (xs++[y])))
theorem EY:MtM X "list.append" ACW:=by
 intro ae s σ H x vs v us Q I rx rv h;obtain⟨l,xs,y,rfl,rfl,hH,hz,q⟩:=h;cases rx;obtain⟨u,rfl,ru⟩:=rv.one;obtain⟨z,ah,n,r,hl,e⟩:=I.lstM hH;refine Qb F.slot_list_append ⟨_,e,rfl⟩ F.entry_list_append (F.args_list_append_2 _ _) (PySem.list_append l ah.toArray n u (by rw[AU];exact uY hz hl)) ⟨e,?_⟩;refine⟨.non,_,I.lset (its':=ah++[u]) hH e (by simp) (r.append (.cons ru .nil)) ?_,rfl,q⟩;rw[Bz,D7];exact hz
def ACx:V->List V->Hp->VK->Prop:=λx vs H Q=>∃l b xs zs,x=.ref l/\vs=[.ref b]/\H l=pX (.lst xs)/\H b=pX (.lst zs)/\xs.length+zs.length<=sizeLine/\Q .non (upd H l (.lst (xs++zs)))
theorem YS:MtM X "list.extend" ACx:=by
 intro ae s σ H x vs v us Q I rx rv h;obtain⟨l,b,xs,zs,rfl,rfl,hH,hB,hz,q⟩:=h;cases rx;obtain⟨u,rfl,ru⟩:=rv.one;cases ru;obtain⟨z,ah,n,r,hl,e⟩:=I.lstM hH;obtain⟨z2,cv,n2,r2,hl2,e2⟩:=I.lstM hB;have hsz:ah.toArray.size+cv.toArray.size<=sizeLine:=by rw[AU,AU];exact tR hz hl hl2
 have ou:¬ (!ah.toArray.isEmpty&&Kn (ah.toArray.size+cv.toArray.size))=true:=by
  rw[ABU hsz,Pe];exact BB
 refine Qb F.slot_list_extend ⟨_,e,rfl⟩ F.entry_list_extend (F.args_list_extend_2 _ _)
  (AutoSeq1.list_extend_list_list_0 l ah.toArray n b cv.toArray n2 ou (by rw[AU];exact qF hl z) (rD hsz)) ⟨e,e2,?_⟩
 refine⟨.non,_,I.lset (its':=ah++cv) hH e (by simp) (r.append r2) ?_,rfl,q⟩;rw[Bz];exact hz
def rCat:R2:=λx y H Q=>E4 λl b xs zs=>A6 (x=.ref l) (y=.ref b) (H l=pX (.lst xs)) (H b=pX (.lst zs)) (xs.length+zs.length<=sizeLine) (∀p,H p=none->Q (.ref p) (upd H p (.lst (xs++zs))))
theorem AFI:OpR X (G2 .Add) rCat:=by
 intro ae s σ H x y v u Q I rx ry h;obtain⟨l,b,xs,zs,rfl,rfl,hH,hB,hz,q⟩:=h;cases rx;cases ry;obtain⟨z,ah,n,r,hl,e⟩:=I.lstM hH;obtain⟨z2,cv,n2,r2,hl2,e2⟩:=I.lstM hB;refine PySem.P.add_list e e2 ?_ (by rw[AU,AU];exact tR hz hl hl2);have ea:ah.toArray++cv.toArray=(ah++cv).toArray:=by simp
 rw[ea];exact⟨.ref _,_,I.lnew (t':=s.toks) (r.append r2) (by rw[Bz];exact hz),rfl,q _ I.fresh⟩
end L2
namespace Att
open PySem PySem.W PySem.Calls PyProof.Rows
theorem JV{P:WV}:∀(ns:qC) (vs:List As),WellAll P h vs (ns.map X6)->Fk vs ns:=by
 intro ns
 induction ns with
 | nil =>
  intro vs w;rw[IX] at w;cases w;exact .nil
 | cons n ns ih =>
  intro vs w;rw[BG] at w;cases w with
  | cons a b =>
   cases a;exact .cons _ _ (ih _ b)
theorem YM{l:OpenLaw}(hn:l.most=pX n){P:WV}{args:List WData}{vals:List As}
  (iE:l.row.toRowW.claim.pre args=true) (hwl:WellAll P h vals args) :
  ∃a vs ns,vals=[AW a]/\args=[WData.list (ns.map X6)]/\h.get? a=pX {cls:=.type "list",data:=.seq vs.toArray}/\Fk vs ns/\ns.length<=n:=by
 have hsh:=(pre_splitW iE).1;have hc:l.pre.holds [] {args:=args}=true:=(pre_splitW iE).2;obtain⟨d,r,rfl,h1,h2⟩:=hasAllW_cons hsh;obtain rfl:=hasAllW_nil h2;obtain⟨xs,rfl,h3⟩:=hasW_list h1;obtain⟨ns,rfl⟩:=items_int h3;have aT:ns.length<=n:=by
  unfold OpenLaw.pre at hc;have h4:(WTm.not (.lt (.lit (.int (n:Int))) (.len (.arg 0)))).holds [] {args:=[.list (ns.map .int)]}=true:=by
   have h4:=(holds_andW hc).1;rw[hn] at h4;exact h4
  have h5:=condW_of h4 (w_not (w_lt w_lit (w_len_list (w_arg rfl))));rw[AB] at h5;refine Tb λq=>?_;have q':(n:Int)<((ns.length:Nat):Int):=qO q
  first
   | (rw[p7 q'] at h5;exact qB h5 (by decide))
   | (simp at h5;lia)
 cases hwl with
 | cons w1 w2 =>
  cases w2;cases w1 with
  | list ho bq=>exact⟨_,_,ns,rfl,rfl,ho,JV ns _ bq,aT⟩
theorem YT(l:OpenLaw)(args:List WData):l.row.toRowW.claim.post args (.bool true) args=true :=
 postW_of (r:=l.row.toRowW) (X:=(true==true))
  (show XY [] (.bool true) .bool=true by first| rfl| decide| simp[XY,WShape.arms,WShape.armsAll])
  (w_eq_bool (w_res rfl) w_lit) rfl
theorem Qz{l:OpenLaw}{q:AK}{XP:(Str->Option As)->Heap->Prop}{d:DefRec}
  (hn:l.most=pX n) (pG:d.params.defaults=[])
  (call:∀(w:AQ) (s₀ s₁:AA) (mg mb:Str->Option As) (fa:Addr) (o:Obj) (pm cd bg:As) (a:Addr) (vs:List As) (ns:qC),
   Ground q cE [] XP w s₀ mg mb s₁.heap->YP w s₁.heap ->
   s₁.heap.get? fa=pX o->o.data=.func (docDef d.name d.params d.body d.scope pm cd bg)->s₁.heap.CodeRec cd d.name->mg d.name=pX (.ref fa) ->
   s₁.heap.get? a=pX {cls:=.type "list",data:=.seq vs.toArray}->Fk vs ns->ns.length<=n->s₁.gens=#[] ->
   codeAny (AM l.prog w) NO (.call (.ref fa) ⟨[.ref a],[]⟩) (λr s'=>r=.ok (.ret (.bool true))/\OldK s₁.heap s'.heap/\s'.os=s₁.os/\KB s'.gens) s₁) :
  WalkO q cE XP YP l.row.toRowW d [] (λf vs=>UC f vs):=by
 intro w s₀ s₁ mg mb G Y fa o pm cd bg dV kV ho hd g5 hD hmg hg args vals as iE hlay hrd hwl l8;obtain rfl:dV=.none:=Dflts.none hD pG;obtain rfl:kV=.none:=Dflts.noKw hD;obtain⟨a,vs,ns,rfl,rfl,md,h7,aT⟩:=YM hn iE hwl;refine enter_call (E7 (call w s₀ s₁ mg mb fa o pm cd bg a vs ns G Y ho (fd_plain hd) g5 hmg md h7 aT hg) λr s' hq=>?_);obtain⟨rfl,h2,h3,h4⟩:=hq;exact⟨.inl ⟨.bool true,.bool true,[],rfl,λ_=>rfl,.bool true,YT l _,λ_=>⟨KM,λ_ hm=>(nomatch hm)⟩⟩,h2,h3,h4⟩
end Att
namespace L2
open PySem PySem.Spec PyProof.Rows
theorem Ny:∀{vs:List As}{ns:qC},Fk vs ns->Vals (ns.map V.int) vs
 | _,_,.nil=>.nil
 | _,_,.cons n t h=>.cons ⟨t,rfl⟩ (Ny h)
def Only(H:Hp):Prop:=∀b,H b=pY\/∃o xs,H b=pX (.frz o (.lst xs))
theorem ABJ{mb:Str->Option As}{k:Nat}{s₁:AA}
  (KX:K.In s₁.heap) (h9:s₁.heap.Ns C6 mg) (hb:s₁.heap.Ns T5 mb) (hbb:∀x:Str,x≠"__name__"->mb x=IT x) (hlim:s₁.heap.NoLimit) (hg:s₁.gens=#[])
  (ha:s₁.heap.get? a=pX {cls:=.type "list",data:=.seq vs.toArray}) (hi:Fk vs ns) (hl:ns.length<=sizeLine) (hr:Room k NO)
  (F:∀base:Heap,K.In base->base.Ns C6 mg->FnOk P w K mg base CX k fa fd [x] sp) (oJ:∀(s:AA) (u:As),Pc s fd ⟨[u],[]⟩ [(x,u)])
  (hG:∀H:Hp,Only H->SqL K H a (ns.map V.int)->sp [.ref a] H (λv _=>v=.bl true) λ_ _ _=>False)
  (hCX:∀H e s',CX [] H s₁ (λ_ _ _=>False) e s'->False) :
  codeAny (AM P w) NO (.call (.ref fa) ⟨[.ref a],[]⟩) (λr s'=>r=.ok (.ret (.bool true))/\OldK s₁.heap s'.heap/\s'.os=s₁.os/\KB s'.gens) s₁:=by
 have rv:=Ny hi;have lenV:=hi.length;have ng:∀H:Hp,Only H->SqL K H a (ns.map V.int)->HOk P w H s₁.heap->(∀b,H b≠none->b=a)->(H a≠none->K.lookup a=pY) ->
   codeAny (AM P w) NO (.call (.ref fa) ⟨[.ref a],[]⟩) (λr s'=>r=.ok (.ret (.bool true))/\OldK s₁.heap s'.heap/\s'.os=s₁.os/\KB s'.gens) s₁:=by
  intro H hO hS hok hA hK;have base_of:∀{b:Addr}{o:Obj},s₁.heap.get? b=pX o->H b=none->(hidT s₁.heap H).get? b=pX o:=λe n=>Zk e n;have pT:∀{b:Addr}{o:Obj}{es:Array MU}{ep:Nat},s₁.heap.get? b=pX o->o.data=.dict es ep->H b=pY:=λ{b o es ep} e d=>by
   cases q:H b with
   | none=>rfl
   | some u =>
    have e':=hA b (by rw[q];simp);subst e';rw[ha] at e;cases e;have d':=d;cases d'
  have nsK:∀{b:Addr}{m:Str->Option As},s₁.heap.Ns b m->(hidT s₁.heap H).Ns b m:=λ{b m} ⟨o,es,ep,e,d,r⟩=>⟨o,es,ep,base_of e (pT e d),d,r⟩;have hKb:K.In (hidT s₁.heap H):=λb o e=>base_of (KX b o e) (by
   cases q:H b with
   | none=>rfl
   | some u =>
    have e':=hA b (by rw[q];simp);subst e';rw[hK (by rw[q];simp)] at e;cases e)
  have hM:Mod K mg (hidT s₁.heap H):=⟨hKb,nsK h9,⟨mb,nsK hb,hbb⟩,let ⟨mc,h1,h2⟩:=hlim;⟨mc,nsK h1,h2⟩⟩;have e0:Env0 P w K mg (hidT s₁.heap H) NO [] s₁ H:=⟨rfl,hM,λb o e=>ACJ e,NU (Xk _ _),trivial,λb hb=>qB (show b∈([]:qQ) from hb) (by simp),hok,.of_eq hg⟩;refine E7 ((F _ hKb (nsK h9)).run NO [] s₁ H ⟨[.ref a],[]⟩ [.ref a] [.ref a] _ _ hr e0 (oJ s₁ (.ref a)) (.cons rfl .nil) (hG H hO hS)) λr s' h=>?_;cases r with
  | error e=>exact(hCX H e s' h).elim
  | ok fl =>
   cases fl with
   | next=>exact EH h
   | brk=>exact EH h
   | cont=>exact EH h
   | ret u =>
    obtain⟨v,H',os,bare,un,hok',r',q⟩:=h;have q':=q;subst q';obtain rfl:u=JO true:=r';refine⟨rfl,OldK.of_keep λb o e=>?_,os,bare⟩;cases q:H b with
    | none=>exact un.keep b o e q (by intro z;exact qB (show b∈([]:qQ) from z) (by simp)) (by simp)
    | some u =>
     rcases hO b with z| ⟨ob,xs,z⟩
     .rw[q] at z;cases z
     .have z2:=un.frzs b ob _ z
      obtain⟨e1,_⟩:=hok b _ z;obtain⟨e2,_⟩:=hok' b _ z2;rw[e] at e1;cases e1;exact e2
 cases hk:K.lookup a with
 | some o =>
  have e:=KX a o hk;rw[ha] at e;cases e;refine ng (λ_=>pY) (λ_=>.inl rfl) (.inr ⟨_,vs.toArray,_,hk,rfl,rfl,rfl,by rw[AU,lenV];exact hl,by simpa using rv⟩) (λb u z=>by have z':=z;cases z') (λb z=>qB rfl z) λz=>qB rfl z
 | none =>
  refine ng (λb=>if b=a then pX (.frz {cls:=.type "list",data:=.seq vs.toArray} (.lst (ns.map V.int))) else pY) (λb=>?_) (.inl (.inr ⟨{cls:=.type "list",data:=.seq vs.toArray},p6 rfl⟩)) (λb u z=>?_) (λb z=>?_) λ_=>hk
  .by_cases hb:b=a
   .exact .inr ⟨_,_,p6 hb⟩
   .exact .inl (pZ hb)
  .by_cases hb:b=a
   .have z':=(p6 hb).symm.trans z
    cases z';subst hb;exact⟨ha,by rw[AB];exact hl,vs,_,rv,ha⟩
   .have z':=(pZ hb).symm.trans z
    cases z'
  .by_cases hb:b=a
   .exact hb
   .exact qB (pZ hb) z
theorem ACP{l:OI}{k:Nat}{q:AK}{XP:(Str->Option As)->Heap->Prop}{d:DefRec}{K:WV->Au}{CX:AQ->CXT}{sp:AQ->Sp}
  (hn:l.most=pX n) (hn2:n<=sizeLine) (pG:d.params.defaults=[]) (hr:Room k NO)
  (hY:∀(w:AQ) (h:Heap),YP w h->(K w.params).In h)
  (F:∀(w:AQ) (mg:Str->Option As) (fa:Addr) (h:Heap),(K w.params).In h->h.Ns C6 mg->mg d.name=pX (.ref fa) ->
   ∃fd:BI,(∀(s:AA) (u:As),Pc s fd ⟨[u],[]⟩ [(x,u)]) /\
    ∀base:Heap,(K w.params).In base->base.Ns C6 mg->FnOk l.prog w (K w.params) mg base (CX w) k fa fd [x] (sp w))
  (hG:∀(w:AQ) (H:Hp) (a:Addr) (ns:qC),ns.length<=n->Only H->SqL (K w.params) H a (ns.map V.int)->sp w [.ref a] H (λv _=>v=.bl true) λ_ _ _=>False)
  (hCX:∀(w:AQ) (H:Hp) (s:AA) (e:As) (s':AA),CX w [] H s (λ_ _ _=>False) e s'->False) :
  VO q cE XP YP l.row.toRowW d [] (λf vs=>UC f vs):=by
 refine Att.Qz hn pG λw s₀ s₁ mg mb fa o pm cd bg a vs ns G Y ho hd g5 hmg md h7 aT hg=>?_;have KX:=hY w _ Y;obtain⟨fd,hb,hF⟩:=F w mg fa _ KX G.T.g hmg;exact ABJ KX G.T.g G.T.b G.T.builtins G.T.nolimit hg md h7 (BQ aT hn2) hr hF hb (λH hO hS=>hG w H a ns aT hO hS) λH e s'=>hCX w H s₁ e s'
def inClass(s:Stmt)(j:Nat):Stmt:=match s with
 | .ClassDef _ _ _ body _ _ _ _ _ _ _=>body.getD j (.Pass ⟨0,0,0,0⟩)
 | _=>.Pass ⟨0,0,0,0⟩
def Dd(s:Stmt):Arguments:=match s with
 | .FunctionDef _ a _ _ _ _ _ _ _ _=>a
 | _=>{posonlyargs:=[],args:=[],vararg:=pY,kwonlyargs:=[],kw_defaults:=[],kwarg:=pY,defaults:=[]}
def Cg(s:Stmt):List Stmt:=match s with
 | .FunctionDef _ _ b _ _ _ _ _ _ _=>b
 | _=>[]
def Ag(s:Stmt):ES:=match s with
 | .FunctionDef _ _ _ _ _ _ sc _ _ _=>sc
 | _=>{kind:=.function,names:=[],isGenerator:=false,isCoroutine:=false}
abbrev CX0:CXT:=λ_ _ _ _ _ _=>False
abbrev E0:XK:=λ_ _ _=>False
theorem pass0:Passes CX0 X E0:=λ_ _ _ _ _ _ _ h=>h.elim
structure Cal(P:AK)(w:AQ)(K:Au)(mg:Str->Option As)(base:Heap)(n:Nat)(f:Addr)(fd:BI)(x:Str)(ps:qM)(sp:Sp):Prop where
 G:FnOk P w K mg base CX0 n f fd ps sp
 b:Binds K fd ps []
 k:C9 K (.ref f)=true
 m:mg x=pX (.ref f)
theorem Bd{t:TA}{p:Pos}(c:Cal X.prog X.w X.K X.mg X.base n f fd x ps sp)(hr:Room n X.A)(hg:Gl X x)
  (ha:PA X (e::es) t) (g6:autoParam ((x==("__debug__" : Str))=false) zA1._auto_1) (he:autoParam (Cs (e::es) X.env=(false,eval e X.env)::Cs es X.env) zA0._auto_1) (eW:autoParam ((IU pos (Cs es X.env)).any (·.1)=false) zA0._auto_1) :
  PE X (.Call (.Name x p) (e::es) [] pos) (ADf sp [] E0 t):=Vy c.G hr hg c.m c.k c.b .nil pass0 ha g6 he eW
structure Fun(K:Au)(x qual:Str)(st:Stmt)(f:Addr)(fd:BI):Prop where
 ex:∃(oc:As) (od:Option Addr) (kV bg pm:As) (an:Option Addr) (a6 ct:As) (jI:Array (Option As)),
  fd=EK x qual (Dd st) (Cg st) (Ag st) .none kV bg pm an a6 ct/\K.lookup f=pX ⟨oc,od,.func fd,jI⟩/\Hd K a6 qual=true
 kp:C9 K (.ref f)=true
theorem Fun.ok{st:Stmt}{N:qM}{k:Nat}(F:Fun K x qual st f fd)(S:FnScope N ps (Ag st))(len:∀vs H Q E,sp vs H Q E->vs.length=ps.length)
  (gX:∀(a6:As) (A:BO) (outer:List Env) (s:AA) (H:Hp) (vs:List V) (Q:VK) (E:XK),Room k (A.deeper (MT qual (Ag st) s.heap.objs.size f a6))->sp vs H Q E ->
   ∃t,PSs (cxOf CX0 P w K mg base N qual (Ag st) f a6 A outer s H E).nox (Cg st) t/\t {nx:=λ_ H'=>Q .non H',rt:=Q} (start N vs) H):FnOk P w K mg base CX0 (k+1) f fd ps sp:=by
 obtain⟨oc,od,kV,bg,pm,an,a6,ct,jI,rfl,lk,g5⟩:=F.ex;refine AFQ lk g5 S len λA outer s H vs Q E hr hG=>?_;obtain⟨t,h,q⟩:=gX a6 A outer s H vs Q E hr hG;exact⟨t,h.nox,q⟩
theorem Fun.binds{st:Stmt}(F:Fun K x qual st f fd)
  (h:∀(kV bg pm:As) (an:Option Addr) (a6 ct:As) (us:List As),us.length=ps.length->TC (EK x qual (Dd st) (Cg st) (Ag st) .none kV bg pm an a6 ct) ⟨us,[]⟩=pure (ps.zip us)):Binds K fd ps []:=by
 obtain⟨oc,od,kV,bg,pm,an,a6,ct,jI,rfl,lk,g5⟩:=F.ex;exact .all (h kV bg pm an a6 ct)
theorem Kw{st:Stmt}{kV:As}(l:K.lookup f=pX ⟨oc,od,.func (EK x qual (Dd st) (Cg st) (Ag st) .none kV bg pm an a6 ct),jI⟩)
  (c:Hd K a6 qual=true) (k:C9 K (.ref f)=true):Fun K x qual st f (EK x qual (Dd st) (Cg st) (Ag st) .none kV bg pm an a6 ct):=⟨⟨oc,od,kV,bg,pm,an,a6,ct,jI,rfl,l,c⟩,k⟩
theorem BZ(h:n<=1000):n<sizeLine:=C1 h (by decide)
theorem pv(i:Nat)(hN:autoParam (X.N[i]?=pX x) zA0._auto_1)(hv:Vis X.env.scope x:=by first| exact K1 rfl| exact MQ (K1 rfl)| exact MQ (MQ rfl))(hd:autoParam ((x==("__debug__" : Str))=false) zA1._auto_1)
  (g5:autoParam ((x==("__classdict__" : Str))=false) zA1._auto_1):PE X (.Name x pos) (AFP i):=AEd hN hv hd g5
theorem iteF{A B:Prop}(h:B):if false=true then A else B:=by
 rw[pZ BB];exact h
theorem iteT{A B:Prop}(h:A):if true=true then A else B:=by
 rw[p6 rfl];exact h
theorem ite2{c A B:Prop}[Decidable c](h1:c->A)(h2:¬ c->B):if c then A else B:=by
 by_cases h:c
 .rw[p6 h]
  exact h1 h
 .rw[pZ h]
  exact h2 h
def Same(H H':Hp):Prop:=∀b o,H b=pX o->H' b=pX o
theorem Same.refl(H:Hp):Same H H:=λ_ _ h=>h
def qZ:=@Same.refl
theorem Same.trans(a:Same H H1)(b:Same H1 H2):Same H H2:=λc o h=>b c o (a c o h)
theorem Same.free(e:Same H H')(h:H' l=XI):H l=XI:=by
 cases q:H l with
 | none=>rfl
 | some o =>
  rw[e l o q] at h;cases h
theorem Same.seq(e:Same H H')(h:SqL K H a xs):SqL K H' a xs:=by
 rcases h with(h| ⟨o,h⟩)| h
 .exact .inl (.inl (e _ _ h))
 .exact .inl (.inr ⟨o,e _ _ h⟩)
 .exact .inr h
def cloOf(cells:List (Str×Addr)):List (Str×Hk)->List (Str×Addr)->List (Str×Addr)
 | [],cs=>cs
 | (n,k)::r,cs=>cloOf cells r (if k == .free then match cells.lookup n with| some c=>(n,c)::cs| none=>cs else cs)
theorem NZ{cells:List (Str×Addr)}:∀{names:List (Str×Hk)}{cs:List (Str×Addr)},(∀x c,cs.lookup x=pX c->cells.lookup x=pX c)->∀x c,(cloOf cells names cs).lookup x=pX c->cells.lookup x=pX c
 | [],_,h=>h
 | (n,k)::r,cs,h=>by
  unfold cloOf;refine NZ (names:=r) ?_;intro x c e;by_cases hk:(k==CF)=true
  .rw[p6 hk] at e
   cases q:cells.lookup n with
   | none=>rw[q] at e;exact h x c e
   | some d =>
    rw[q] at e;rw[D0] at e;cases hx:x==n with
    | true =>
     rw[hx] at e;have hxn:x=n:=eq_of_beq hx;subst hxn;rw[q];exact e
    | false=>rw[hx] at e;exact h x c e
  .rw[pZ hk] at e;exact h x c e
theorem cloOf_mono{cells:List (Str×Addr)}{x:Str}:∀{names:List (Str×Hk)}{cs:List (Str×Addr)},(cs.lookup x).isSome=true->((cloOf cells names cs).lookup x).isSome=true
 | [],_,h=>h
 | (n,k)::r,cs,h=>by
  unfold cloOf;refine cloOf_mono (names:=r) ?_;by_cases hk:(k==CF)=true
  .rw[p6 hk]
   cases q:cells.lookup n with
   | none=>exact h
   | some d =>
    show(E6 x ((n,d)::cs)).isSome=true;rw[D0];cases hx:x==n with
    | true=>rfl
    | false=>exact h
  .rw[pZ hk];exact h
theorem Nh{cells:List (Str×Addr)}{x:Str}(hc:(cells.lookup x).isSome=true):∀{names:List (Str×Hk)}{cs:List (Str×Addr)},(x,CF)∈names->((cloOf cells names cs).lookup x).isSome=true
 | [],_,h=>by cases h
 | (n,k)::r,cs,h=>by
  unfold cloOf;rcases BF.mp h with e| h
  .cases e
   refine cloOf_mono ?_;rw[p6 (show(CF==CF)=true from rfl)];obtain⟨d,q⟩:=FC.mp hc;rw[q];rw[D0,beq_self_eq_true];rfl
  .exact Nh hc h
theorem Vr{env:Env}:∀(names:List (Str×Hk)) (cs:List (Str×Addr)),(∀y∈names,y.2=.free->(env.cells.lookup y.1).isSome=true) ->
  (forIn names cs λ(x:Str×Hk) (r:List (Str×Addr))=>match x with
   | (name,kind)=>if(kind == .free)=true then do let c <- cellOf env name;pure (CM ((name,c)::r)) else pure (CM r):Sem (List (Str×Addr)))=pure (cloOf env.cells names cs)
 | [],cs,_=>rfl
 | (n,k)::r,cs,h=>by
  have hr:∀y∈r,y.2=.free->(env.cells.lookup y.1).isSome=true:=λy hy=>h y (AJ _ hy);rw[List.forIn_cons];unfold cloOf;by_cases hk:(k==CF)=true
  .have hf:k=.free:=by simpa using hk
   obtain⟨d,q⟩:=FC.mp (h (n,k) AI hf);have q':=q;have eA:cellOf env n=pure d:=by unfold cellOf;rw[q']
   simp only[hk,if_true,eA,pure_bind,q'];exact Vr r _ hr
  .simp only[hk,if_false,pure_bind,BU]
   exact Vr r _ hr
theorem ZS{env:Env}(h:∀y∈scope.names,y.2=.free->(env.cells.lookup y.1).isSome=true):closureFor scope env=pure (cloOf env.cells scope.names []):=by
 unfold closureFor;have e:=Vr (env:=env) scope.names [] h;simp only[bind_pure];exact e
theorem Ds{env:Env}:∀{names:List (Str×Hk)}{x:Str},names.lookup x=pX .free ->
  (names.map λ(n,k)=>if(k==CF&&env.scope.kind == .function&&env.kindOf n==pX .cell) then(n,FU) else(n,k)).lookup x=pX .cell \/
  (names.map λ(n,k)=>if(k==CF&&env.scope.kind == .function&&env.kindOf n==pX .cell) then(n,FU) else(n,k)).lookup x=pX .free
 | [],_,h=>by simp at h
 | (n,k)::r,x,h=>by
  have ih:=@Ds env r x;rw[BG];show E6 x ((if(k==CF&&env.scope.kind == .function&&env.kindOf n==pX .cell)=true then(n,FU) else(n,k))::_)=_\/E6 x ((if(k==CF&&env.scope.kind == .function&&env.kindOf n==pX .cell)=true then(n,FU) else(n,k))::_)=_;cases hx:x==n with
  | true =>
   rw[D0,hx] at h;have hk:k=.free:=by simpa using h
   by_cases hc:(k==CF&&env.scope.kind == .function&&env.kindOf n==pX .cell)=true
   .rw[p6 hc];left;rw[D0,hx]
   .rw[pZ hc];right;rw[D0,hx,hk]
  | false =>
   rw[D0,hx] at h;by_cases hc:(k==CF&&env.scope.kind == .function&&env.kindOf n==pX .cell)=true
   .rw[p6 hc];rw[D0,hx];exact ih h
   .rw[pZ hc];rw[D0,hx];exact ih h
theorem JK{env:Env}{x:Str}:∀{names:List (Str×Hk)},(∀y∈names,y.2≠.cell) ->
  (
   (names.map λ(n,k)=>if(k==CF&&env.scope.kind == .function&&env.kindOf n==pX .cell) then(n,FU) else(n,k)).lookup x=pX .cell \/
   (names.map λ(n,k)=>if(k==CF&&env.scope.kind == .function&&env.kindOf n==pX .cell) then(n,FU) else(n,k)).lookup x=pX .free)->(x,CF)∈names
 | [],_,h=>by simp at h
 | (n,k)::r,hc,h=>by
  have ih:=@JK env x r λy hy=>hc y (AJ _ hy);rw[BG] at h;have h':E6 x ((if(k==CF&&env.scope.kind == .function&&env.kindOf n==pX .cell)=true then(n,FU) else(n,k))::_)=_\/E6 x ((if(k==CF&&env.scope.kind == .function&&env.kindOf n==pX .cell)=true then(n,FU) else(n,k))::_)=_:=h;by_cases hb:(k==CF&&env.scope.kind == .function&&env.kindOf n==pX .cell)=true
  .rw[p6 hb] at h'
   have hk:k=.free:=by simp at hb;exact hb.1.1
   rw[D0] at h';cases hx:x==n with
   | true =>
    have:x=n:=eq_of_beq hx;subst this;subst hk;exact AI
   | false=>rw[hx] at h';exact AJ _ (ih h')
  .rw[pZ hb] at h'
   rw[D0] at h';cases hx:x==n with
   | true =>
    rw[hx] at h';have:x=n:=eq_of_beq hx;subst this;rcases h' with h' | h'
    .exact qB (A8 h') (hc (x,k) AI)
    .have hk:=A8 h'
     subst hk;exact AI
   | false=>rw[hx] at h';exact AJ _ (ih h')
def compOk(eK sc:ES):Bool :=
 (decide (sc.kind=.function))&&sc.names.all (λy=>decide (y.2≠.cell))&&sc.names.all (λy=>decide (y.2=.local->sc.names.lookup y.1=pX .local)) &&
  sc.names.all (λy=>decide (y.2=.free->eK.names.lookup y.1=pX .cell\/eK.names.lookup y.1=pX .free))
structure CompOk(eK sc:ES):Prop where
 kind:sc.kind=.function
 nocell:∀y∈sc.names,y.2≠.cell
 loc:∀y∈sc.names,y.2=.local->sc.names.lookup y.1=pX .local
 free:∀y∈sc.names,y.2=.free->eK.names.lookup y.1=pX .cell\/eK.names.lookup y.1=pX .free
theorem CompOk.of{eK:ES}(h:compOk eK sc=true):CompOk eK sc:=by
 unfold compOk at h;rw[Fc,Fc,Fc] at h;obtain⟨⟨⟨h1,h2⟩,h3⟩,h4⟩:=h;exact⟨qA h1,λy hy=>qA (EL.mp h2 y hy),λy hy=>qA (EL.mp h3 y hy),λy hy=>qA (EL.mp h4 y hy)⟩
abbrev cloX(X:Cx)(scope:ES):List (Str×Addr):=cloOf X.env.cells scope.names []
def cxComp(X:Cx)(N':qM)(scope:ES)(fp:qQ)(s:AA)(H:Hp):Cx where
 prog:=X.prog
 w:=X.w
 K:=X.K
 mg:=X.mg
 base:=X.base
 A:=X.A
 N:=N'
 s₀:=s
 H₀:=H
 env:=WZ scope (cloX X scope) s.heap.objs.size X.env
 outer:=X.stack
 stack:=X.stack
 ex:=fp
 fn:=λ_=>false
 calm:=X.calm
 pn:=[]
 xe:=λ_ _=>False
def FreeAt(X:Cx)(sc:ES):qM->qE->Prop
 | [],[]=>True
 | x::fr,j::ix=>(X.N[j]?=pX x/\sc.names.lookup x=pX .free)/\FreeAt X sc fr ix
 | _,_=>False
def start2(σ:St)(own:qM)(ix:qE):St:=U2 own.length pY++ix.map λj=>(σ[j]?).join
theorem Uh:∀{fr:qM}{ix:qE},FreeAt X sc fr ix->(start2 σ own ix).length=(own++fr).length:=by
 intro fr ix h;have:fr.length=ix.length:=by
  induction fr generalizing ix with
  | nil=>cases ix with
   | nil=>rfl
   | cons _ _=>exact h.elim
  | cons x fr ihf=>cases ix with
   | nil=>exact h.elim
   | cons j ix=>simp[ihf h.2]
 simp[start2,this]
theorem Ld{X:Cx}{sc:ES}{σ:St}{x:Str}{v:V}:∀{fr:qM}{ix:qE}{i:Nat},FreeAt X sc fr ix->fr[i]?=pX x->(ix.map λj=>(σ[j]?).join)[i]?=pX (pX v) ->
  ∃j:Nat,X.N[j]?=pX x/\σ[j]?=pX (pX v)/\sc.names.lookup x=pX .free
 | [],_,_,_,h,_=>by simp at h
 | _::_,[],_,h,_,_=>h.elim
 | y::fr,j::ix,0,h,h1,h2=>by
  have e1:y=x:=by simpa using h1
  subst e1;have e2:(σ[j]?).join=pX v:=by simpa using h2
  refine⟨j,h.1.1,?_,h.1.2⟩;cases q:σ[j]? with
  | none=>rw[q] at e2;cases e2
  | some o=>rw[q] at e2;cases o with
   | none=>cases e2
   | some z =>
         have:z=v:=by simpa using e2
         rw[this]
 | y::fr,j::ix,i+1,h,h1,h2=>Ld (fr:=fr) (ix:=ix) (i:=i) h.2 (by simpa using h1) (by simpa using h2)
theorem Uu(h:FreeAt X sc fr ix)(h1:(own++fr)[i]?=pX x)(h2:(start2 σ own ix)[i]?=pX (pX v)) :
  ∃j:Nat,X.N[j]?=pX x/\σ[j]?=pX (pX v)/\sc.names.lookup x=pX .free:=by
 by_cases hi:i<own.length
 .unfold start2 at h2
  rw[Bn (by simpa using hi),Os,p6 hi] at h2;cases h2
 .unfold start2 at h2
  rw[Cc (by simpa using hi)] at h2;rw[Cc (by simpa using hi)] at h1;exact Ld h h1 (by simpa using h2)
def PIfs(X:Cx)(db:qN)(t:TT):Prop :=
 ∀(ae:qJ) (s:AA) (σ:St) (H:Hp) (Q:Bool->Hp->Prop),Inv X ae σ H s->t σ H Q ->
  wpAny (AM X.prog X.w) X.A (forIn db true λc r=>if r=true then do let ok <- T8 c X.env (eval c X.env);pure (CM ok) else pure (CM r)) (TP X ae σ Q) X.xe s
def AEs:TT:=λ_ H Q=>Q true H
theorem Ec:PIfs X [] AEs:=λ_ _ _ H _ I h=>wpAny_tests_nil ⟨H,I,h⟩
theorem Cd{t:TT}(h:PT X c t):PIfs X [c] t:=λae s σ H Q I hw=>wpAny_tests_one (h ae s σ H Q I hw)
theorem Ft{R:RO->AA->Prop}{ck iter:Expr}{it acc:As}{env:Env}(I:Nat->AA->Prop)
  (turn:∀n s,I n s->wpAny (AM prog w) A (K2 it) (λr s₁=>match r with
   | none=>R (.ok .next) s₁
   | some v=>wpAny (AM prog w) A (LI ck it v) (λ_ s₁'=>wpAny (AM prog w) A (RF ck env v) (λ_ s₂ =>
     wpAny (AM prog w) A (forIn db true λc r=>if r=true then do let ok <- T8 c env (eval c env);pure (CM ok) else pure (CM r)) (λok s₃ =>
      if ok=true then wpAny (AM prog w) A (eval dv env) (λx s₄ =>
       wpAny (AM prog w) A (call (.builtin "list.append") [acc,x]) (λ_ s₅=>∃m,m<n/\I m s₅) (λ_ _=>False) s₄) (λ_ _=>False) s₃
      else ∃m,m<n/\I m s₃) (λ_ _=>False) s₂) (λ_ _=>False) s₁') (λ_ _=>False) s₁) (λ_ _=>False) s)
  (n:Nat) (h:I n s) :
  codeAny (AM prog w) A (.compLoop (.ListComp dv [⟨ck,iter,db,0⟩] scope pos) 0 it acc env) R s:=by
 refine codeAny_loop rfl I (λn s hI=>?_) n h;refine wpAny_noted ?_;rw[compTurn_list];refine Ap (QR (Ap (D2 (turn n s hI) (λr s₁ h₁=>?_) λ_ _ h'=>h'.elim)));cases r with
 | none=>exact AC h₁
 | some v =>
  refine Ap (D2 h₁ (λ_ s₁' h₁'=>?_) λ_ _ h'=>h'.elim);refine Ap (D2 h₁' (λ_ s₂ h₂=>Ap (D2 h₂ (λok s₃ h₃=>?_) λ_ _ h'=>h'.elim)) λ_ _ h'=>h'.elim);cases ok with
  | false=>exact AC ⟨rfl,h₃⟩
  | true =>
   exact Ap (Ap (D2 h₃ (λx s₄ h₄=>Ap (D2 h₄ (λ_ s₅ h₅=>AC (AC ⟨rfl,h₅⟩)) λ_ _ h'=>h'.elim)) λ_ _ h'=>h'.elim))
def Behind(X:Cx)(ae:qJ)(σ:St)(R:Hp->Prop)(C:Addr)(s':AA):Prop :=
 ∃(H':Hp) (m:Str->Option As),Inv X ae σ H' s'/\s'.heap.Ns C m/\FpOk X ae H' C/\R H'
theorem Inv.sameBut(I:Inv X ae σ H s)(f:FpOk X ae H C)(sb:EG C s.heap h'):Inv X ae σ H {s with heap:=h'}:=by
 obtain⟨f0,f1,f2,f3,f4,f5⟩:=f;exact I.turned (t':=s.toks) (λb o hb e=>(sb.2 b hb).trans e) f0 f1 f3 f4 f5
def Fe(J:It)(D:Addr)(g:TG)(tc:TT)(te:TE)(R:Hp->Prop)(τ:St)(H:Hp):Prop :=
 ∃W:Nat->Nat->St->Hp->Prop,(∃m,W 0 m τ H)/\∀i m τ H,W i m τ H ->
  (J.stop i H/\R H)\/(J.go i H/\∃N:St->Hp->Prop,(∀τ' H',N τ' H'->∃m',m'<m/\W (i+1) m' τ' H')/\∀x H',J.yld i H x H'->g x τ H' λτ2 H2=>tc τ2 H2 λb H3 =>
   if b=true then te τ2 H3 λv H4=>∃ys,H4 D=pX (.lst ys)/\ys.length<sizeLine/\N τ2 (upd H4 D (.lst (ys++[v]))) else N τ2 H3)
section
variable{iter:Expr}{g:TG}
theorem VP{R:Hp->Prop}{h₁:Heap}{m0:Str->Option As}(hc:X.calm=true)(ok:CompOk X.env.scope scope)(ky:FreeAt X scope fr ix)
  (hg:PG (cxComp X (own++fr) scope fp s H) tg g) (hi:PIfs (cxComp X (own++fr) scope fp s H) db tc) (he:PE (cxComp X (own++fr) scope fp s H) dv te)
  (I3:Inv X ae σ H s) (T:Turn X.prog X.w X.K tg J fp it tn) (cm:tn 0 s.heap) (f3:∀b∈fp,FpOk X ae H b)
  (h9:h₁.Ns s.heap.objs.size m0) (hsb:EG s.heap.objs.size (s.heap.push ob) h₁) (hq:Fe J D g tc te R (start2 σ own ix) H) :
  codeAny (AM X.prog X.w) X.A (.compStart (.ListComp dv [⟨tg,iter,db,0⟩] scope pos) 0 (.ref it) (.ref D) (WZ scope (cloX X scope) s.heap.objs.size X.env))
   (λr s'=>r=.ok .next/\Behind X ae σ R s.heap.objs.size s') {s with heap:=h₁,toks:=tk}:=by
 have b6:∀b o,s.heap.get? b=pX o->h₁.get? b=pX o:=λb o e=>hsb.extBut b o (BM (Be e)) (AG _ e);have sub:∀x c,(cloX X scope).lookup x=pX c->X.env.cells.lookup x=pX c:=NZ (λx c e=>by simp at e);have gT:∀x,(x,CF)∈scope.names->X.env.kindOf x=pX .cell\/X.env.kindOf x=pX .free:=λx hx=>ok.free (x,.free) hx rfl;have has:∀x,(x,CF)∈scope.names->∃c,(cloX X scope).lookup x=pX c:=λx hx=>by
  obtain⟨c,i6⟩:=I3.ok.has x (gT x hx);exact FC.mp (Nh (by rw[i6];rfl) hx)
 have lt3:∀b∈fp,b<s.heap.objs.size:=λb hb=>by
  obtain⟨o,ho,_⟩:=T.obj 0 _ cm b hb;exact Be ho
 have ku:∀b∈fp,b∉frs X.stack:=λb hb hs=>by
  rcases BF.mp (I3.stkSub b hs) with z| z
  .exact(f3 b hb).2.1 z
  .exact(f3 b hb).2.2.1 z
 have kc:∀b∈fp,∀x c,(cloX X scope).lookup x=pX c->c≠b:=λb hb x c h=>(f3 b hb).2.2.2.2.1 x c (sub x c h);have I4:Inv (cxComp X (own++fr) scope fp s H) [] (start2 σ own ix) H {s with heap:=h₁,toks:=tk}:=by
  refine⟨⟨I3.ok.mod,ok.kind,I3.ok.glob,I3.ok.blt,AH _,?inj,?has,?cab,I3.ok.hd,I3.ok.frames,.inl rfl,?exf,I3.bs,BQ I3.ok.bsz I3.sz,?noex,ku,I3.stack,I3.stkFree⟩,
   rfl,I3.bare,Un.kept b6,⟨m0,h9,?loc⟩,?cell,I3.hok.fresh (AH _),?freeC,?pin,I3.hok.kept b6,?len⟩
  case inj=>exact λx y c h1 h2=>I3.ok.inj x y c (sub x c h1) (sub y c h2)
  case has=>exact λx hx=>has x (JK ok.nocell hx)
  case cab=>exact λx c h=>by cases h
  case exf=>exact λb hb=>⟨BM (lt3 b hb),kc b hb⟩
  case noex =>
   intro b o e hb;rcases (f3 b hb).2.2.2.1 with z| z
   .exact I3.ok.noex b o e z
   .exact qB (B9 (B9 (Be e) I3.ok.bsz) z) (EF _)
  case loc =>
   intro i x v e1 e2 e3;obtain⟨j,a1,a2,a3⟩:=Uu ky e1 e2;have mem:=F0 a3;obtain⟨m,hn,hl⟩:=I3.loc;have ok1:=gT x mem;obtain⟨u,r,l⟩:=hl j x v a1 a2 (ok1.elim (λz=>.inr (.inl z)) λz=>.inr (.inr z));rcases l with⟨k,_⟩| ⟨k,c,i6,o,ho,hd⟩
   .rcases ok1 with z| z
    .rw[k] at z;cases z
    .rw[k] at z;cases z
   .obtain⟨c',ny⟩:=has x mem
    have e:=sub x c' ny;rw[i6] at e;cases e;exact⟨u,r,.inr ⟨Ds a3,c,ny,o,b6 _ _ ho,hd⟩⟩
  case cell =>
   intro x c h;obtain⟨v,o,ho,hd⟩:=I3.cell x c (sub x c h);exact⟨v,o,b6 _ _ ho,hd⟩
  case freeC=>exact λx c h=>I3.freeC x c (sub x c h)
  case pin=>exact λp hp=>qB (show p∈([]:qJ) from hp) (by simp)
  case len=>exact Uh ky
 have st4:=T.keep 0 _ _ cm λb _ o e=>b6 b o e;have dL:∀{H':Hp},(∀b∈fp,H' b=pY)->∀b∈fp,FpOk (cxComp X (own++fr) scope fp s H) [] H' b:=λ{H'} hn b hb =>
  ⟨hn b hb,BM (lt3 b hb),ku b hb,.inl hb,kc b hb,λp hp=>qB (show p∈([]:qJ) from hp) (by simp)⟩
 obtain⟨W,⟨m1,w0⟩,turn⟩:=hq;have loop:codeAny (AM X.prog X.w) X.A (.compLoop (.ListComp dv [⟨tg,iter,db,0⟩] scope pos) 0 (.ref it) (.ref D) (WZ scope (cloX X scope) s.heap.objs.size X.env))
   (λr s'=>r=.ok .next/\Behind X ae σ R s.heap.objs.size s') {s with heap:=h₁,toks:=tk}:=by
  refine Ft (λn s'=>∃i τ H',Inv (cxComp X (own++fr) scope fp s H) [] τ H' s'/\tn i s'.heap/\(∀b∈fp,H' b=pY)/\W i n τ H') ?_ m1 ⟨0,_,H,I4,st4,λb hb=>(f3 b hb).1,w0⟩;rintro n s5 ⟨i,τ5,H5,I5,mQ,fr5,w5⟩;rcases turn i n τ5 H5 w5 with⟨stop,qn⟩| ⟨go,N,hN,step⟩
  .refine thn (T.done (cxComp X (own++fr) scope fp s H) rfl rfl rfl hc i [] s5 τ5 H5 _ I5 (dL fr5) mQ stop) λr s6 ⟨hr,I6⟩=>?_
   subst hr;obtain⟨m6,hn6,_⟩:=I6.loc;exact⟨rfl,H5,m6,I3.call' (ch:=fp) I6.os I6.base I6.hok I6.bare (λb hb=>⟨(f3 b hb).2.2.2.1,(f3 b hb).2.1,(f3 b hb).2.2.2.2.1,(f3 b hb).2.2.2.2.2⟩),hn6,I3.fpOk (AH _) I6.free,qn⟩
  .refine thn (T.item (cxComp X (own++fr) scope fp s H) rfl rfl rfl hc i [] s5 τ5 H5 _ I5 (dL fr5) mQ go) λr s6 ⟨u,hr,h6⟩=>?_
   subst hr;refine thn h6 λ_ s7 ⟨x,H7,I7,r7,y7,st7,fr7⟩=>?_;have I7':=I7.pinned (dL fr7) (T.obj _ _ st7);have again:∀{τ8:St}{H8:Hp}{s8:AA},Inv (cxComp X (own++fr) scope fp s H) ([]++pinsAt fp s7.heap) τ8 H8 s8->N τ8 H8 ->
     ∃m,m<n/\∃i τ H',Inv (cxComp X (own++fr) scope fp s H) [] τ H' s8/\tn i s8.heap/\(∀b∈fp,H' b=pY)/\W i m τ H':=λ{τ8 H8 s8} I8 n8=>by
    obtain⟨m',hm,w8⟩:=hN τ8 H8 n8;refine⟨m',hm,i+1,τ8,H8,I8.unpinned,T.keep _ _ _ st7 λb hb o e=>(I8.pin (b,o) (B4 _ (B4 _ (FT hb e)))).1,λb hb=>?_,w8⟩;obtain⟨o,e,d⟩:=T.obj _ _ st7 b hb;exact(I8.pin (b,o) (B4 _ (B4 _ (FT hb e)))).2.1
   refine thn (hg _ s7 τ5 H7 x u _ I7' r7 (step x H7 y7)) λ_ s8 ⟨τ8,H8,I8,q8⟩=>?_;refine thn (hi _ s8 τ8 H8 _ I8 q8) λb s9 ⟨H9,I9,q9⟩=>?_;cases b with
   | false=>exact again I9 q9
   | true =>
    refine thn (he _ s9 τ8 H9 _ I9 q9) λuv s10 ⟨v,H10,I10,r10,ys,hD,hz,q10⟩=>?_;refine thn (EY (X:=cxComp X (own++fr) scope fp s H) _ s10 τ8 H10 (.ref D) [v] (.ref D) [uv] (λ_ H'=>N τ8 H') I10 rfl (.cons r10 .nil) ⟨D,ys,v,rfl,rfl,hD,hz,q10⟩) λ_ s11 ⟨_,H11,I11,_,q11⟩=>?_;exact again I11 q11
 exact codeAny_compStart_list loop (T.self X.A 0 _ _ _ st4 loop)
theorem Qu{R:V->Hp->Prop}(hc:X.calm=true)(ok:CompOk X.env.scope scope)(ky:FreeAt X scope fr ix)
  (hg:∀fp s H,PG (cxComp X (own++fr) scope fp s H) tg g) (hi:∀fp s H,PIfs (cxComp X (own++fr) scope fp s H) db tc) (he:∀fp s H,PE (cxComp X (own++fr) scope fp s H) dv te)
  (I2:Inv X ae σ H s) (T:Turn X.prog X.w X.K tg J fp it tn) (a8:tn 0 s.heap) (f2:∀b∈fp,FpOk X ae H b)
  (hq:∀D,H D=none->Fe J D g tc te (R (.ref D)) (start2 σ own ix) (upd H D (.lst []))) :
  wpAny (AM X.prog X.w) X.A (newList []) (λacc s₃=>wpAny (AM X.prog X.w) X.A (newFunctionEnv scope X.env.globals (cloX X scope) [] X.env.qual pY .none (pX X.env)) (λpJ s₄ =>
   codeAny (AM X.prog X.w) X.A (.compStart (.ListComp dv [⟨tg,iter,db,0⟩] scope pos) 0 (.ref it) acc {pJ with scope:=relabel scope X.env})
    (λr s'=>r=.ok .next/\∃v,RelV v acc/\Behind X ae σ (R v) pJ.locals s') s₄) E s₃) E s:=by
 refine De (wpAny_newFunctionEnv ok.nocell (by intro y hy;simp at hy) (λh₁ hns₁ hsb₁=>?_) ok.kind);have hD:=I2.hok.fresh (AH _);have I3:Inv X ae σ (upd H s.heap.objs.size (.lst [])) {s with heap:=s.heap.push {cls:=.type "list",dict:=pY,data:=.seq ([]:List As).toArray}} :=
  I2.laid (t':=s.toks) (λb u e=>AG _ e) (AH _) ⟨BD _,[],0,.nil,AS _ rfl⟩
 have cm:tn 0 (s.heap.push {cls:=.type "list",dict:=pY,data:=.seq ([]:List As).toArray}):=T.keep 0 _ _ a8 λb _ o e=>AG _ e;have f3:∀b∈fp,FpOk X ae (upd H s.heap.objs.size (.lst [])) b:=λb hb=>by
  obtain⟨f0,fr⟩:=f2 b hb;obtain⟨o,ho,_⟩:=T.obj 0 _ a8 b hb;exact⟨by rw[Ae (BM (Be ho))];exact f0,fr⟩
 refine E7 (VP (R:=R (.ref s.heap.objs.size)) (D:=s.heap.objs.size) hc ok ky (hg _ _ _) (hi _ _ _) (he _ _ _) I3 T cm f3 hns₁ hsb₁ (hq _ hD)) λr s' ⟨e,b⟩=>⟨e,V.ref s.heap.objs.size,rfl,b⟩
def ADl(own:qM)(ix:qE)(wi:TI)(g:TG)(tc:TT)(te:TE):TE:=λσ H Q=>wi σ H λJ H1=>∀D,H1 D=none->Fe J D g tc te (Q (.ref D)) (start2 σ own ix) (upd H1 D (.lst []))
end
section
variable{iter:Expr}{g:TG}{wi:TI}
theorem Nb(I:Inv X ae σ H s)(ok:CompOk X.env.scope scope):∀y∈scope.names,y.2=.free->(X.env.cells.lookup y.1).isSome=true:=λy hy hf=>by
 obtain⟨c,h⟩:=I.ok.has y.1 (ok.free y hy hf);rw[h];rfl
theorem CP(eK:ES)(own fr:qM)(ix:qE)(hc:X.calm=true)(ho:X.env.scope=eK)(hok:compOk eK scope=true)(ky:FreeAt X scope fr ix)(bp:PI X tg iter wi)
  (hg:∀fp s H,PG (cxComp X (own++fr) scope fp s H) tg g) (hi:∀fp s H,PIfs (cxComp X (own++fr) scope fp s H) db tc) (he:∀fp s H,PE (cxComp X (own++fr) scope fp s H) dv te)
  (hs:autoParam (∀x,Nl iter X.env x=pure x) zA2._auto_1):PE X (.ListComp dv [⟨tg,iter,db,0⟩] scope pos) (ADl own ix wi g tc te):=by
 intro ae s σ H Q I h;have ok:=CompOk.of (ho ▸ hok);rw[eval_ListComp];refine N2 (use:=pY) rfl hs (ZS (Nb I ok)) ok.kind ok.loc (thn (bp ae s σ H _ I h) λxv s₁ h₁=>thn h₁ λitv s₂ h₂=>?_);obtain⟨it,fp,tn,J,H2,rfl,I2,T,a8,f2,hq⟩:=h₂;refine thn (Qu (R:=Q) hc ok ky hg hi he I2 T a8 f2 hq) λacc s₃ h₃=>thn h₃ λpJ s₄ h₄=>E7 h₄ λr s' ⟨hr,v,rv,H',m,I',hn,fpo,q⟩=>?_;subst hr;exact⟨m,hn,λh' sb=>⟨v,H',I'.sameBut fpo sb,rv,q⟩⟩
set_option tactic.hygienic true in
theorem QG{nh:Pos}(eK:ES)(own fr:qM)(ix:qE)(hN:X.N.Nodup)(hx:X.N[i]?=pX x)(hl:Loc X.env.scope x)(hc:X.calm=true)(ho:X.env.scope=eK)(hok:compOk eK scope=true)(ky:FreeAt X scope fr ix)(bp:PI X tg iter wi)
  (hg:∀fp s H,PG (cxComp X (own++fr) scope fp s H) tg g) (hi:∀fp s H,PIfs (cxComp X (own++fr) scope fp s H) db tc) (he:∀fp s H,PE (cxComp X (own++fr) scope fp s H) dv te)
  (hsw:autoParam (Lm (.ListComp dv [⟨tg,iter,db,0⟩] scope pos) (pX (.Name x a9)) nh.line X.env=pure true) zA0._auto_1) (hs:autoParam (∀x,Nl iter X.env x=pure x) zA2._auto_1)
  (hf:X.fn x=true\/X.env.scope.names.lookup x=pX .local:=by first| exact .inl rfl| exact .inr rfl| assumption) :
  PS X (.Assign [.Name x a9] (.ListComp dv [⟨tg,iter,db,0⟩] scope pos) nh) (ACY (ADl own ix wi g tc te) (gName i)):=by
 intro ae s σ H D I h;have ok:=CompOk.of (ho ▸ hok);rw[exec_Assign_Name_used _ _ _ _ hsw];refine Ap (QR (Ap ?_));refine Ap (D2 (N2 (use:=pX (RF (.Name x a9) X.env)) (Q:=λ_ s'=>SP X ae D .next s') rfl hs (ZS (Nb I ok)) ok.kind ok.loc
  (thn (bp ae s σ H _ I h) λxv s₁ h₁=>thn h₁ λitv s₂ h₂=>?_)) (λ_ s' hq=>AC (AC hq)) λ_ _ e=>e)
 obtain⟨it,fp,tn,J,H2,rfl,I2,T,a8,f2,hq⟩:=h₂;refine thn (Qu (R:=λv H'=>D.nx (σ.set i (pX v)) H') hc ok ky hg hi he I2 T a8 f2 hq) λacc s₃ h₃=>thn h₃ λpJ s₄ h₄=>E7 h₄ λr s' ⟨hr,v,rv,H',m,I',hn,fpo,q⟩=>?_;subst hr;refine SH (Nr I' hN hx hl rv (λpP I'' fo=>?_) hf);obtain⟨a,sb,ha⟩:=fo;have hCa:pJ.locals≠a:=by
  rcases ha with z| z
  .rw[z];exact fpo.2.1
  .exact λe=>fpo.2.2.2.2.1 x a z e.symm
 exact⟨m,hn.sameBut sb hCa,λh' sb'=>⟨_,H',I''.sameBut fpo sb',q⟩⟩
end
theorem Ia{items}{x:As}(bp:s.heap.IsTupleIter it l i)
  (hl:s.heap.IsTuple l items) (hx:items[i]?=pX x)
  (hQ:∀h',h'.IsTupleIter it l (i+1)->EG it s.heap h'->Q x {s with heap:=h'}) :
  wpAny (AM prog w) A (G7 (.ref it)) Q E s:=by
 obtain⟨o,ho,hc,hd⟩:=id bp;obtain⟨ol,iq,_,nl,mr⟩:=hl;unfold G7;refine Ap (wpAny_callSpecial?_slot (name:=IY "__next__") bp.typeIs G3
  (Da G3 bp.typeIs MV ?_ (MC _)))
 show wpAny _ _ (field (.ref it) 0 >>= _) _ _ s;refine Ap (O1 ho hd (x:=.ref l) rfl ?_);rw[pZ (show ¬ ((AW l==CY)=true) from BB)];refine Ap (O1 ho hd (x:=.int i 0) rfl ?_);refine Ap (IZ iq mr ?_);simp only[CH,hx];refine Ap (He ho hd (by simp) (AC ⟨x,rfl,AC (hQ _ ?_ (DH ..))⟩));exact⟨_,D6 _ ho (Jn (EM hd _)),(KP ..).trans hc,by
  rw[EM hd];simp[FY]⟩
theorem Iw{items}(hh:A.handled=pY)
  (bp:s.heap.IsTupleIter it l i) (hl:s.heap.IsTuple l items) (hx:items[i]?=pY)
  (hE:∀h' e,S6 it s.heap h'->(∃o,h'.get? e=pX o/\o.cls=.type "StopIteration")->E (.ref e) {s with heap:=h'}) :
  wpAny (AM prog w) A (G7 (.ref it)) Q E s:=by
 obtain⟨o,ho,hc,hd⟩:=id bp;obtain⟨ol,iq,_,nl,mr⟩:=hl;unfold G7;refine Ap (wpAny_callSpecial?_slot (name:=IY "__next__") bp.typeIs G3
  (Da G3 bp.typeIs MV ?_ (MC _)))
 show wpAny _ _ (field (.ref it) 0 >>= _) _ _ s;refine Ap (O1 ho hd (x:=.ref l) rfl ?_);rw[pZ (show ¬ ((AW l==CY)=true) from BB)];refine Ap (O1 ho hd (x:=.int i 0) rfl ?_);refine Ap (IZ iq mr ?_);simp only[CH,hx];refine Ap (G8 (Ap (He ho hd (by simp) ?_)));refine Ap ?_;refine Ap (De ?_ (by size_fits));refine Ap (m:=JA _ _) (K5 (a:=CY) (by first| rfl| (simp only[JA];rfl)) ?_);refine De ?_ (by size_fits);refine Ap (QY ?_)
 first| rw[show A.in1.handled=pY from hh]| rw[hh]
 refine Ap (AC (S7 ?_));exact hE _ _ (((DH ..).extBut.push _).push _) ⟨_,AS _ rfl,rfl⟩
theorem RM(hh:A.handled=pY)(it l:Addr)(df:l≠it)(items:Array As) :
  Draws prog w A it [it,l] items.size (λi v=>items[i]?=pX v) (λi h=>h.IsTupleIter it l i/\h.IsTuple l items) where
 live:=λ_ _ st=>let ⟨o,ho,_⟩:=st.1;⟨o,ho⟩
 frame:=λ_ _ _ st hk=>⟨st.1.at λo e=>hk it (by simp) o e,st.2.at λo e=>hk l (by simp) o e⟩
 item:=λi s Q E hi st hQ=>by
  refine Ia st.1 st.2 (x:=items[i]) (by simp[hi]) λh' e9 kD=>?_;exact hQ _ h' s.toks (by simp[hi]) ⟨e9,st.2.extBut kD.extBut df⟩ kD
 done:=λs Q E st hE=>Iw hh st.1 st.2 (by simp) hE
section
open AutoSeq1 (wpAny_loadPart')
set_option tactic.hygienic true in
theorem Fi(l:Addr)(items:Array As)(n:Nat)(dct:Option Addr)(sl:Array (Option As)) :
  Meets (Builtin.«enumerate.__new__» ⟨[.type "enumerate",.ref l],[]⟩) (λ_ R s=>s.heap.get? l=pX {cls:=.type "tuple",dict:=dct,data:=.seq items n,slots:=sl} /\
   R (.ok (.ret (.ref (s.heap.push {cls:=.type "tuple_iterator",data:=.fields #[.ref l,.int 0 0]}).objs.size)))
    {s with heap:=(s.heap.push {cls:=.type "tuple_iterator",data:=.fields #[.ref l,.int 0 0]}).push {cls:=.type "enumerate",data:=.fields #[.none,.bool false,.ref s.heap.objs.size,FY 0,.none,.none]}}) :=
 .of_wp λprog w A R s h=>by
  obtain⟨hp,g,d,tk,os⟩:=s;obtain⟨hl,h⟩:=h;have kS:=sub_enumerate;have hL:Heap.IsTuple (Shared.heap ⟨hp,g,d,tk,os⟩) l items:=⟨_,hl,rfl,n,rfl⟩
  wp_walk using wpAny_loadPart' hl
  refine wpAny_stack_any λst=>AC ?_;split
  .rename_i c _ _ _ _ _
   cases (c==DS "enumerate")
   .wp_walk using wpAny_loadPart' hl,Ki hL
    exact⟨_,rfl,h⟩
   .wp_walk using wpAny_loadPart' hl,Ki hL
    exact⟨_,rfl,h⟩
  .wp_walk using wpAny_loadPart' hl,Ki hL
   exact⟨_,rfl,h⟩
end
theorem GQ(hL:s.heap.IsTuple l items)
  (h:∀h',UD h' (s.heap.objs.size+1) s.heap.objs.size 0 .none->h'.IsTupleIter s.heap.objs.size l 0->h'.objs.size=s.heap.objs.size+2 ->
   (∀b o,s.heap.get? b=pX o->h'.get? b=pX o)->Q (.ref (s.heap.objs.size+1)) {s with heap:=h'}) :
  wpAny (AM prog w) A (call (.type "enumerate") [.ref l]) Q E s:=by
 obtain⟨⟨c,dct,dt,sl⟩,hl,hc,n,hd⟩:=hL
 replace hc:c=.type "tuple":=hc
 replace hd:dt=.seq items n:=hd
 subst hc hd;refine callType_new F.called_enumerate (by decide) (F.typeCall_enumerate_1 _) (F.newCall_enumerate_1 _) (λobj=>F.args_object_init_2 obj _) F.entry_enumerate_new
  (Fi l items n dct sl) ⟨hl,?_⟩
 have hz:(s.heap.push {cls:=.type "tuple_iterator",data:=.fields #[.ref l,.int 0 0]}).objs.size=s.heap.objs.size+1:=D5 ..;rw[hz];have he:UD ((s.heap.push {cls:=.type "tuple_iterator",data:=.fields #[.ref l,.int 0 0]}).push
   {cls:=.type "enumerate",data:=.fields #[.none,.bool false,.ref s.heap.objs.size,FY 0,.none,.none]}) (s.heap.objs.size+1) s.heap.objs.size 0 .none:=by
  have:=AS (s.heap.push {cls:=.type "tuple_iterator",data:=.fields #[.ref l,.int 0 0]})
   (o:={cls:=.type "enumerate",data:=.fields #[.none,.bool false,.ref s.heap.objs.size,FY 0,.none,.none]}) rfl
  rw[hz] at this;exact this
 refine⟨⟨_,he,rfl⟩,h _ he ⟨_,AG _ (AS _ rfl),rfl,rfl⟩ (by rw[D5,hz]) λb o x=>AG _ (AG _ x)⟩
theorem Inv.walked(I:Inv X ae σ H s)(k:∀b o,b∉wr->s.heap.get? b=pX o->h'.get? b=pX o)(hf:∀b∈wr,FpOk X ae H b):Inv X ae σ H {s with heap:=h',toks:=t'}:=by
 have pU:∀b u,H b=pX u->b∉wr:=λb u e z=>by rw[(hf b z).1] at e;cases e
 refine I.step (g':=s.gens) (d':=s.drawn) (ch:=wr) (λb hb=>?_) (λb o _ _ hc e _=>k b o hc e) (λb o _ _ hc e _=>⟨o.slots,k b o hc e⟩) (λ_ _ _ _ n=>n)
  (λb o hc e=>⟨o,k b o hc e⟩) (λ_ _ e=>e) (λ_ _ _ e=>e) (λb ps e=>⟨#[],by rw[e];simp⟩) (λm hm=>?_) (λb u e=>?_) I.bare
 .obtain⟨f0,f1,f2,f3,f4,f5⟩:=hf b hb
  exact⟨f3,f1,f4,f5⟩
 .obtain⟨o,es,ep,ho,r⟩:=hm
  exact⟨o,es,ep,k _ o (λz=>(hf _ z).2.1 rfl) ho,r⟩
 .refine(I.hok b u e).stay (λc v hc q=>k c v ?_ q) (λ_ q=>q) λ_ _ q=>q
  rcases hc with z| z
  .rw[z];exact pU b u e
  .exact pU c _ z
theorem Inv.track{o:HO}(I:Inv X ae σ H s)(f:FpOk X ae H a)(new:ObjOk X.prog X.w (upd H a o) s.heap a o):Inv X ae σ (upd H a o) s:=by
 obtain⟨f0,f1,f2,f3,f4,f5⟩:=f;have ne:∀b u,H b=pX u->b≠a:=λb u e z=>by rw[z,f0] at e;cases e
 obtain⟨hh,g,d,t,os⟩:=s;refine I.step (h':=hh) (g':=g) (d':=d) (t':=t) (ch:=[a]) (λb hb=>?_) (λb o _ _ _ e _=>e) (λb o _ _ _ e _=>⟨o.slots,e⟩) (λb o hc _ n=>?_) (λb o _ e=>⟨o,e⟩)
  (λb xs e=>?_) (λb u xs e=>?_) (λb ps e=>⟨#[],?_⟩) (λm hm=>hm) (λb u e=>?_) I.bare
 .have e:b=a:=by simpa using hb
  subst e;exact⟨f3,f1,f4,f5⟩
 .rw[Ae (λz=>hc (by simp[z]))];exact n
 .rw[Ae (ne b _ e)];exact e
 .rw[Ae (ne b _ e)];exact e
 .rw[Ae (ne b _ e),e];simp
 .by_cases hb:b=a
  .subst hb;rw[Ab] at e;cases e;exact new
  .rw[Ae hb] at e
   exact(I.hok b u e).stay (λ_ _ _ q=>q) (λc q=>by rw[Ae (ne c _ q)];exact q) λc xs q=>by rw[Ae (ne c _ q)];exact q
def Ien(S:Hp->List V->Prop):It :=
 ⟨λi H=>∃xs x,S H xs/\xs[i]?=pX x,λi H v H'=>∃T x,v=.ref T/\H T=pY/\H'=upd H T (.tup [.int i,x])/\∀xs,S H xs->xs[i]?=pX x,λi H=>∃xs,S H xs/\xs.length=i⟩
theorem Xr{k:Nat}{S:Hp->List V->Prop}{e l:Addr}{St0:Nat->Heap->Prop}
  (oh:e≠it)
  (obj:∀i h,St0 i h->∃o,h.get? it=pX o/\∀v,o.data≠.cell v)
  (keep:∀i h h',St0 i h->(∀o,h.get? it=pX o->h'.get? it=pX o)->St0 i h')
  (drw:∀(X:Cx),X.prog=P->X.w=w->X.K=K->X.calm=true->∀(i:Nat) (ae:qJ) (s:AA) (σ:St) (H:Hp) (xs:List V),Inv X ae σ H s->St0 i s.heap->(∃b6,UD s.heap e it i b6)->S H xs ->
   ∃(ah:List As) (fp:qQ) (St:Nat->Heap->Prop),Vals xs ah/\Draws P w X.A.in1 it fp ah.toArray.size (λi v=>ah.toArray[i]?=pX v) St/\St i s.heap/\e∉fp/\it∈fp/\(∀j h,St j h->St0 j h))
  (inj:∀(X:Cx),X.K=K->∀(ae:qJ) (s:AA) (σ:St) (H:Hp) (xs ys:List V),Inv X ae σ H s->S H xs->S H ys->xs=ys) :
  Turn P w K (.Tuple fc k tp) (Ien S) [e,it] e (λi h=>(∃b6,UD h e it i b6)/\St0 i h) where
 mem:=by simp
 obj:=λi h st b hb=>by
  obtain⟨⟨b6,he⟩,hs⟩:=st;rcases BF.mp hb with rfl| hb
  .exact⟨_,he,λv z=>by
    have z':=z;cases z'⟩
  .have e1:b=it:=by simpa using hb
   subst e1;exact obj i h hs
 keep:=λi h h' st k=>⟨let ⟨b6,he⟩:=st.1;⟨b6,k e (by simp) _ he⟩,keep i h h' st.2 λo q=>k it (by simp) o q⟩
 item:=by
  intro X hP hw hK hc i ae s σ H E I hf st hg;obtain⟨xs,x,hq,hx⟩:=hg;obtain⟨ah,fp,St,rv,Dr,cK,hef,hif,js⟩:=drw X hP hw hK hc i ae s σ H xs I st.2 st.1 hq;subst hP hw;obtain⟨u,hu,ru⟩:=rv.get hx;have hi:i<ah.toArray.size:=by rw[AU];exact(AF.mp hu).1
  have iF:ah.toArray[i]?=pX u:=by simpa using hu
  have WT:=SO Dr e oh hef hif;refine WT.item i s _ _ hi ⟨st.1,cK⟩ λT vals h' tk hPt hsz hT pD hk=>⟨.ref T,rfl,?_⟩;obtain⟨t,y,hy,rfl⟩:=hPt;have hTw:=WT.apart i T _ pD;rw[iF] at hy;have hy':=A8 hy;subst hy';have hwr:=hf;have I1:Inv X ae σ H {s with heap:=h',toks:=tk}:=I.walked hk hwr;have hTn:=I.hok.fresh hsz;have I2:Inv X ae σ (upd H T (.tup [.int i,x])) {s with heap:=h',toks:=tk}:=by
   refine I1.track (I.fpOk hsz hTn) ⟨by show 2<=sizeLine;decide,[.int i t,u],.cons ⟨t,rfl⟩ (.cons ru .nil),?_⟩;exact hT
  have pK:∀b∈[e,it],FpOk X ae (upd H T (.tup [.int i,x])) b:=λb hb=>by
   obtain⟨f0,fr⟩:=hf b hb;have ne:b≠T:=λz=>hTw (by rw[<- z];exact hb);exact⟨by rw[Ae ne];exact f0,fr⟩
  refine WT.go fc k tp i T _ _ _ pD λh'' kg hk''=>?_;refine⟨.ref T,_,I2.walked (t':=tk) hk'' pK,rfl,⟨T,x,rfl,hTn,rfl,λys hy=>by rw[inj X hK ae s σ H ys xs I hy hq];exact hx⟩,⟨kg.1,js _ _ kg.2⟩,λb hb=>(pK b hb).1⟩
 done:=by
  intro X hP hw hK hc i ae s σ H E I hf st hg;obtain⟨xs,hq,hx⟩:=hg;obtain⟨ah,fp,St,rv,Dr,cK,hef,hif,js⟩:=drw X hP hw hK hc i ae s σ H xs I st.2 st.1 hq;subst hP hw;have hl:=rv.length;have hi:i=ah.toArray.size:=by rw[AU];lia
  subst hi;exact(SO Dr e oh hef hif).done s _ _ ⟨st.1,cK⟩ λh' tk hk=>⟨rfl,I.walked hk hf⟩
 self:=λA i s Q E st h=>by
  obtain⟨⟨b6,he⟩,_⟩:=st;exact SR he h
theorem ABW{u:Obj}(ha:h.get? a=pX o)(hb:h.get? b=pX u)(hc:o.cls≠u.cls):a≠b:=λe=>by
 subst e;rw[ha] at hb;cases hb;exact hc rfl
theorem Uv{k:Nat}{e:Addr}(oh:e≠it) :
  Turn P w K (.Tuple fc k tp) (Ien λH xs=>SqT K H a xs) [e,it] e (λi h=>(∃b6,UD h e it i b6)/\h.IsTupleIter it a i):=by
 refine Xr (l:=a) oh (λi h st=>?_) (λi h h' st k=>st.at k) (λX hP hw hK hc i ae s σ H xs I st he hq=>?_) (λX hK ae s σ H xs ys I h1 h2=>?_)
 .obtain⟨o,e,c,d⟩:=st
  exact⟨o,e,λv z=>by rw[d] at z;cases z⟩
 .subst hP hw hK
  obtain⟨ah,rv,p,hz⟩:=I.tuple hq;obtain⟨b6,he⟩:=he;obtain⟨ol,iq,i6,_⟩:=id p;obtain⟨oi,mE,hci,_⟩:=id st;have h1:=ABW iq mE (by rw[i6,hci];decide);have h2:=ABW he iq (by rw[i6];show DS "enumerate"≠DS "tuple";decide);exact⟨ah,[it,a],_,rv,RM (A:=X.A.in1) (I.ok.hd hc) it a h1 ah.toArray,⟨st,p⟩,by simp[oh,h2],by simp,λj h z=>z.1⟩
 .subst hK
  exact I.tuple_inj h1 h2
section
variable{k:Nat}
def AGI(K:Au)(ta:TA):TI:=λσ H R=>ta σ H λvs H1=>∃a,vs=[.ref a]/\(∃xs,SqT K H1 a xs)/\R (Ien λH xs=>SqT K H a xs) H1
theorem Rt{l:Expr}{ta:TA}{p:Pos}(hg:Gl X "enumerate")(hm:X.mg "enumerate" = pY)(ha:PA X [l] ta)(hs:autoParam (Cs [l] X.env=[(false,eval l X.env)]) zA0._auto_1) :
  PI X (.Tuple fc k tp) (.Call (.Name "enumerate" p) [l] [] pos) (AGI X.K ta):=by
 intro ae s σ H R I h;refine Call_ (Fz I hg hm boot_enumerate (EC (thn (ha pos ae s σ H _ I h) λus s1 ⟨vs,H1,I1,r1,q1⟩=>?_) hs rfl));obtain⟨a,rfl,⟨xs,hq⟩,q⟩:=q1;obtain⟨u,rfl,ru⟩:=r1.one;cases ru;obtain⟨ah,rv,pl,hz⟩:=I1.tuple hq;refine GQ pl λh' he bp hsz hk=>SR he ?_;have I2:=I1.kept (t':=s1.toks) hk;refine⟨s1.heap.objs.size+1,[s1.heap.objs.size+1,s1.heap.objs.size],_,_,H1,rfl,I2,Uv (Nat.succ_ne_self _),⟨⟨_,he⟩,bp⟩,λb hb=>?_,q⟩;have e:s1.heap.objs.size<=b:=by
  rcases BF.mp hb with rfl| hb
  .exact K3 _
  .rw[Cb.mp hb];exact AH _
 exact I1.fpOk e (I1.hok.fresh e)
end
theorem Hv{g:TG}{R:Hp->Prop}(n:Nat)(Pv:Nat->St->Hp->Prop)(h0:Pv 0 τ H)(hgo:∀i τ H,i<n->Pv i τ H->J.go i H)(oO:∀τ H,Pv n τ H->J.stop n H)
  (hs:∀i τ H x H',i<n->Pv i τ H->J.yld i H x H'->g x τ H' λτ2 H2=>tc τ2 H2 λb H3=>if b=true then te τ2 H3 λv H4=>∃ys,H4 D=pX (.lst ys)/\ys.length<sizeLine/\Pv (i+1) τ2 (upd H4 D (.lst (ys++[v]))) else Pv (i+1) τ2 H3)
  (hd:∀τ H,Pv n τ H->R H):Fe J D g tc te R τ H:=by
 refine⟨λi m τ H=>m=n-i/\i<=n/\Pv i τ H,⟨n,by simp,BD _,h0⟩,?_⟩;rintro i m τ H ⟨rfl,hi,p⟩;by_cases bn:i<n
 .exact .inr ⟨hgo i τ H bn p,Pv (i+1),λτ' H' p'=>⟨n-(i+1),rS bn,rfl,bn,p'⟩,λx H' y=>hs i τ H x H' bn p y⟩
 .have e:i=n:=rF hi bn
  subst e;exact .inl ⟨oO τ H p,hd τ H p⟩
theorem Lz{Q:List As->AA->Prop}(hl:s.heap.IsTuple l vs.toArray)
  (h:Q vs {s with heap:=(s.heap.push (C4 "list" #[] 0)).update s.heap.objs.size (CU (·++vs.toArray))}) (hsz:vs.length<=sizeLine:=by size_fits) :
  wpAny (AM prog w) A (Pf (.ref l)) Q E s:=by
 obtain⟨o,ho,hc,n,hd⟩:=id hl;unfold Pf;refine Ap (MD (DU entry_proto_collect' ?_));refine Ap (K9 (AC ⟨R6 _ (by decide+kernel),DU entry_list_iadd' ?_⟩));show wpAny _ _ (Go (.ref s.heap.objs.size) (.ref l) (.ref s.heap.objs.size)) _ _ {s with heap:=s.heap.push (C4 "list" #[] 0)};unfold Go;have c8:(s.heap.push (C4 "list" #[] 0)).get? l=pX o:=AG _ ho;refine Ap (LP (T:="tuple") ⟨o,c8,hc⟩ ?_);have ht:(DS "tuple" == DS "tuple")=true:=by rfl
 rw[p6 (by rw[ht];simp)];refine Ap (N3 c8 hd ?_);refine Ap (N3 (xs:=#[]) (n:=0) (AS _ rfl) rfl ?_);rw[pZ (by simp)];refine Ap (M4 (xs:=#[]) (n:=0) (AS _ rfl) rfl ?_ (BD _) (by simp only[Array.size_append,AU,ID];lia));refine AC ?_;show wpAny (AM prog w) A (do
   let o <- load s.heap.objs.size
   match o.data with
   | .seq xs _=>pure xs.toList
   | _=>unsupported "internal:collect") Q E {s with heap:=(s.heap.push (C4 "list" #[] 0)).update s.heap.objs.size (CU (·++vs.toArray))}
 refine Ap (P4 (get?_update_seq (AS _ rfl) _) ?_);show wpAny _ _ (pure ((#[]:Array As)++vs.toArray).toList) Q E _;rw[show((#[]:Array As)++vs.toArray).toList=vs by simp];exact AC h
theorem Oz(hl:s.heap.IsTuple l vs.toArray)(hI:Fk vs ns)(nc:vs.length<64)
  (h:∀(out:Array As) (fF:qC),Fk out.toList fF->fF.Perm ns->fF.Pairwise (·<=·)->Q (.ref (s.heap.objs.size+1)) {s with heap:=sortedAll s.heap vs out}) :
  wpAny (AM prog w) A (call (.builtin "sorted") [.ref l]) Q E s:=by
 refine G9 S8 R7 R8 (Sa _) ?_;unfold N4;refine Ap (m:=UE "sorted" 1 1 _) (AC ?_);refine Ap (Lz hl ?_ (by
                       have:(64:Nat)<=sizeLine:=by decide
                       exact tX nc this))
 refine Ap (K9 ?_);have hsz:((s.heap.push (C4 "list" #[] 0)).update s.heap.objs.size (CU (·++vs.toArray))).objs.size=s.heap.objs.size+1:=by
  rw[TK,size_push']
 have gp:(((s.heap.push (C4 "list" #[] 0)).update s.heap.objs.size (CU (·++vs.toArray))).push (C4 "list" vs.toArray 0)).get? (s.heap.objs.size+1)=pX (C4 "list" vs.toArray 0):=by
  rw[<- hsz];exact AS _ rfl
 rw[hsz];refine Ap (DC (Da Pl ⟨_,gp,rfl⟩ OK (list_sort_tree gp hI nc λout fF a1 a2 a3=>⟨_,rfl,?_⟩) (Pm _)));exact AC ⟨_,rfl,h out fF a1 a2 a3⟩
def ADT(K:Au):List V->Hp->VK->Prop:=λxs H Q=>∃(p:Addr) (ns:qC),xs=[.ref p]/\(SqL K H p (ns.map V.int)\/SqT K H p (ns.map V.int))/\ns.length<64/\∀(l:Addr) (ms:qC),H l=none->ms.Perm ns->ms.Pairwise (·<=·)->Q (.ref l) (upd H l (.lst (ms.map V.int)))
theorem HY:∀{us:List As}{ns:qC},Fk us ns->Vals (ns.map V.int) us
 | _,_,.nil=>.nil
 | _,_,.cons n t r=>.cons ⟨t,rfl⟩ (HY r)
theorem Tc:CallR X (.builtin "sorted") (ADT X.K):=by
 intro ae s σ H xs us Q I r h;obtain⟨p,ns,rfl,hq,nc,q⟩:=h;obtain⟨u,rfl,ru⟩:=r.one;cases ru;have fin:∀(ah:List As) (out:Array As) (ms:qC),Fk out.toList ms->ms.Perm ns->ms.Pairwise (·<=·)->EP X ae σ Q (.ref (s.heap.objs.size+1)) {s with heap:=sortedAll s.heap ah out}:=λah out ms a1 a2 a3=>by
  obtain⟨e,he⟩:=sortedAll_at s.heap ah out;have hn:=I.hok.fresh (K3 _);have hv:=HY a1;have hms:=a2.length_eq;refine⟨.ref (s.heap.objs.size+1),_,I.laid (a:=s.heap.objs.size+1) (o:=.lst (ms.map V.int)) (t':=s.toks) (λb o=>sortedAll_old) (K3 _) ⟨?_,out.toList,e,hv,?_⟩,rfl,q _ ms hn a2 a3⟩
  .rw[AB,hms]
   exact BQ (DD nc) (by decide)
  .rw[Qr]
   exact he
 rcases hq with hq| hq
 .obtain⟨ah,rv,pl,hz⟩:=I.list hq
  have hl:=rv.length;rw[AB] at hl;exact sorted_ints pl.isList (intsAre_of rv) (sP nc hl) λout ms a1 a2 a3=>fin ah out ms a1 a2 a3
 .obtain⟨ah,rv,pl,hz⟩:=I.tuple hq
  have hl:=rv.length;rw[AB] at hl;exact Oz pl (intsAre_of rv) (sP nc hl) λout ms a1 a2 a3=>fin ah out ms a1 a2 a3
abbrev Rep(α:Type):=Hp->α->V->Prop
def rInt:Rep Int:=λ_ i v=>v=.int i
def rTup(K:Au){α:Type}(R:Rep α):Rep (List α):=λH as v=>∃p xs,v=.ref p/\SqT K H p xs/\A7 (R H) as xs
def rLst(K:Au){α:Type}(R:Rep α):Rep (List α):=λH as v=>∃p xs,v=.ref p/\SqL K H p xs/\A7 (R H) as xs
theorem Paired.get{F:α->β->Prop}:∀{l₁:List α}{l₂:List β}{i:Nat}{b:β},A7 F l₁ l₂->l₂[i]?=pX b->∃a,l₁[i]?=pX a/\F a b
 | _,_,_,_,.nil,e=>by simp at e
 | _,_,0,_,.cons r _,e=>by simp at e;subst e;exact⟨_,rfl,r⟩
 | _,_,i+1,b,.cons _ t,e=>by
  obtain⟨a,h1,h2⟩:=Paired.get (i:=i) (b:=b) t (by simpa using e);exact⟨a,by simpa using h1,h2⟩
theorem qV{F:α->β->Prop}:∀{l₁:List α}{l₂:List β}{i:Nat}{a:α},A7 F l₁ l₂->l₁[i]?=pX a->∃b,l₂[i]?=pX b/\F a b
 | _,_,_,_,.nil,e=>by simp at e
 | _,_,0,_,.cons r _,e=>by simp at e;subst e;exact⟨_,rfl,r⟩
 | _,_,i+1,a,.cons _ t,e=>by
  obtain⟨b,h1,h2⟩:=qV (i:=i) (a:=a) t (by simpa using e);exact⟨b,by simpa using h1,h2⟩
theorem Paired.app{F:α->β->Prop}:∀{l₁ m₁:List α}{l₂ m₂:List β},A7 F l₁ l₂->A7 F m₁ m₂->A7 F (l₁++m₁) (l₂++m₂)
 | _,_,_,_,.nil,s=>s
 | _,_,_,_,.cons r t,s=>.cons r (Paired.app t s)
theorem Paired.one{F:α->β->Prop}{a:α}{b:β}(h:F a b):A7 F [a] [b]:=.cons h .nil
def qc:=@Paired.one
theorem Paired.uniq{F:α->β->Prop}(fn:∀a a' b,F a b->F a' b->a=a'):∀{l₁ l₁':List α}{l₂:List β},A7 F l₁ l₂->A7 F l₁' l₂->l₁=l₁'
 | _,_,_,.nil,.nil=>rfl
 | _,_,_,.cons r t,.cons r' t'=>by rw[fn _ _ _ r r',Paired.uniq fn t t']
theorem paired_ints{H:Hp}:∀(ns:qC),A7 (rInt H) ns (ns.map V.int)
 | []=>.nil
 | _::r=>.cons rfl (paired_ints r)
theorem GJ{H:Hp}:∀{ns:qC}{xs:List V},A7 (rInt H) ns xs->xs=ns.map V.int
 | _,_,.nil=>rfl
 | _,_,.cons r t=>by rw[BG,<- GJ t];exact congrArg (·::_) r
structure Dat(X:Cx){α:Type}[DecidableEq α](n:Nat)(R:Rep α):Prop where
 eq:∀(ae:qJ) (s:AA) (σ:St) (H:Hp) (A:BO) (a b:α) (x y:V) (u v:As),Inv X ae σ H s->A.units+n<Cn->R H a x->R H b y->RelV x u->RelV y v->LN A s u v (decide (a=b))
 fn:∀(ae:qJ) (s:AA) (σ:St) (H:Hp) (a b:α) (x:V),Inv X ae σ H s->R H a x->R H b x->a=b
section
variable[DecidableEq α]{R:Rep α}
theorem DX:Dat X 0 rInt where
 eq:=λae s σ H A a b x y u v I hu ha hb ru rv=>by
  cases ha;cases hb;obtain⟨t,rfl⟩:=ru;obtain⟨t',rfl⟩:=rv;have e:=Kj (A:=A) (s:=s) a t b t';rw[Lv] at e;exact e
 fn:=λae s σ H a b x I ha hb=>by
  cases ha;exact(V.int.inj hb)
theorem Gy{as bs:List α}{k:Nat}(h1:as.length=m)(h2:bs.length=k):((AO (min m k)).all (λj=>decide (as[j]?=bs[j]?))&&m==k)=decide (as=bs):=by
 subst h1;subst h2;by_cases e:as=bs
 .subst e
  simp
 .rw[p8 e]
  cases q:((AO (min as.length bs.length)).all (λj=>decide (as[j]?=bs[j]?))&&as.length==bs.length) with
  | false=>rfl
  | true =>
   rw[Fc] at q;obtain⟨q1,q2⟩:=q;have hl:as.length=bs.length:=by simpa using q2
   refine qB (FR λj=>?_) e;by_cases hj:j<as.length
   .exact qA (EL.mp q1 j (AV.mpr (by lia)))
   .rw[D8 (qf hj),D8 (by lia)]
theorem Sh{as bs:List α}(h1:as.length=m)(h2:bs.length=m):((AO m).all (λj=>decide (as[j]?=bs[j]?)))=decide (as=bs):=by
 have e:=Gy h1 h2;rw[Nat.min_self,beq_self_eq_true,Bool.and_true] at e;exact e
theorem Dat.place(D:Dat X n R)(I:Inv X ae σ H s)(hu:A.units+n<Cn){as bs:List α}{f6:List As}
  (pa:A7 (R H) as xs) (pb:A7 (R H) bs ys) (ra:Vals xs ah) (rb:Vals ys f6):∀(j:Nat) (h1:j<ah.toArray.size) (h2:j<f6.toArray.size),LN A s ah.toArray[j] f6.toArray[j] (decide (as[j]?=bs[j]?)):=by
 intro j h1 h2;rw[AU] at h1 h2;have hx:j<xs.length:=by rw[ra.length];exact h1
 have hy:j<ys.length:=by rw[rb.length];exact h2
 have ex:=AL hx;have ey:=AL hy;obtain⟨u,ic,ru⟩:=ra.get ex;obtain⟨v,hv1,rv⟩:=rb.get ey;obtain⟨a,ha,qa⟩:=Paired.get pa ex;obtain⟨b,hb,qb⟩:=Paired.get pb ey;have e1:ah.toArray[j]=u:=by
  rw[QA];rw[AL h1] at ic;exact A8 ic
 have e2:f6.toArray[j]=v:=by
  rw[QA];rw[AL h2] at hv1;exact A8 hv1
 rw[e1,e2,ha,hb];have e3:decide (pX a=pX b)=decide (a=b):=by simp
 rw[e3];exact D.eq ae s σ H A a b _ _ u v I hu qa qb ru rv
theorem DR(D:Dat X n R):Dat X (n+1) (rTup X.K R) where
 eq:=λae s σ H A as bs x y u v I hu ha hb ru rv=>by
  obtain⟨p,xs,rfl,hp,pa⟩:=ha;obtain⟨q,ys,rfl,hq,pb⟩:=hb;cases ru;cases rv;by_cases e:p=q
  .subst e
   have exy:=I.tuple_inj hp hq;subst exy;have eab:=Paired.uniq (λa a' b h1 h2=>D.fn ae s σ H a a' b I h1 h2) pa pb;subst eab;rw[p7 rfl];exact LO _
  .obtain⟨ah,ra,ta,_⟩:=I.tuple hp
   obtain⟨f6,rb,tb,_⟩:=I.tuple hq;have l1:as.length=ah.toArray.size:=by rw[AU,<- ra.length];exact AT pa
   have l2:bs.length=f6.toArray.size:=by rw[AU,<- rb.length];exact AT pb
   have r:=SeqAt.RcAt.tuples (A:=A) (s:=s) (e:=λj=>decide (as[j]?=bs[j]?)) ta tb (qg hu) (D.place (A:=A.in1) I (by show A.units+1+n<Cn;exact rh hu) pa pb ra rb);rw[Gy l1 l2] at r;exact .of_refs e r
 fn:=λae s σ H as bs x I ha hb=>by
  obtain⟨p,xs,rfl,hp,pa⟩:=ha;obtain⟨q,ys,e,hq,pb⟩:=hb;cases e;have exy:=I.tuple_inj hp hq;subst exy;exact Paired.uniq (λa a' b h1 h2=>D.fn ae s σ H a a' b I h1 h2) pa pb
theorem Rz(D:Dat X n R)(I:Inv X ae σ H s)(hu:A.units+(n+1)<Cn){q:Addr}{as bs:List α}
  (hp:SqL X.K H p xs) (hq:SqL X.K H q ys) (pa:A7 (R H) as xs) (pb:A7 (R H) bs ys):SeqAt.RcAt A s (.ref p) (.ref q) (decide (as=bs))/\SeqAt.RcNeAt A s (.ref p) (.ref q) (!decide (as=bs)):=by
 obtain⟨ah,ra,ta,_⟩:=I.list hp;obtain⟨f6,rb,tb,_⟩:=I.list hq;have l1:as.length=ah.toArray.size:=by rw[AU,<- ra.length];exact AT pa
 have l2:bs.length=f6.toArray.size:=by rw[AU,<- rb.length];exact AT pb
 by_cases hs:ah.toArray.size=f6.toArray.size
 .have r:=SeqAt.RcAt.lists (A:=A) (s:=s) (e:=λj=>decide (as[j]?=bs[j]?)) ta.isList tb.isList hs (qg hu) (D.place (A:=A.in1) I (by show A.units+1+n<Cn;exact rh hu) pa pb ra rb)
  have r':=X7 (A:=A) (s:=s) (e:=λj=>decide (as[j]?=bs[j]?)) ta.isList tb.isList hs (qg hu) (D.place (A:=A.in1) I (by show A.units+1+n<Cn;exact rh hu) pa pb ra rb);rw[Sh l1 (l2.trans hs.symm)] at r r';exact⟨r,r'⟩
 .have hb:(ah.toArray.size != f6.toArray.size)=true:=by simpa using hs
  have e:as≠bs:=λe=>hs (by rw[<- l1,<- l2,e]);rw[p8 e];exact⟨SeqAt.RcAt.lists_lengths ta.isList tb.isList hb (qg hu),VQ ta.isList tb.isList hb (qg hu)⟩
def rEqL(K:Au){α:Type}[DecidableEq α](R:Rep α):R2:=λx y H Q=>∃as bs,rLst K R H as x/\rLst K R H bs y/\Q (.bl (decide (as=bs))) H
def rNeL(K:Au){α:Type}[DecidableEq α](R:Rep α):R2:=λx y H Q=>∃as bs,rLst K R H as x/\rLst K R H bs y/\Q (.bl (!decide (as=bs))) H
theorem Tw(D:Dat X n R)(hu:X.A.units+(n+1)<Cn):OpR X (DM .Eq) (rEqL X.K R):=by
 intro ae s σ H x y v u Q I rx ry h;obtain⟨as,bs,⟨p,xs,rfl,hp,pa⟩,⟨q,ys,rfl,hq,pb⟩,h⟩:=h;cases rx;cases ry;exact(Rz D I hu hp hq pa pb).1 X.prog X.w _ _ ⟨.bl _,H,I,rfl,h⟩
theorem AAv(D:Dat X n R)(hu:X.A.units+(n+1)<Cn):OpR X (DM .NotEq) (rNeL X.K R):=by
 intro ae s σ H x y v u Q I rx ry h;obtain⟨as,bs,⟨p,xs,rfl,hp,pa⟩,⟨q,ys,rfl,hq,pb⟩,h⟩:=h;cases rx;cases ry;exact(Rz D I hu hp hq pa pb).2 X.prog X.w _ _ ⟨.bl _,H,I,rfl,h⟩
open Classical in
noncomputable def isDat(R:Rep α)(H:Hp)(a:α)(u:As):Bool:=decide (∃z,RelV z u/\R H a z)
theorem Jy(D:Dat X n R)(I:Inv X ae σ H s){a b:α}{z:V}(rz:RelV z u)(hb:R H b z):isDat R H a u=decide (b=a):=by
 unfold isDat;by_cases e:b=a
 .subst e
  rw[p7 rfl];exact @decide_eq_true _ (OA _) ⟨z,rz,hb⟩
 .rw[p8 e]
  refine @decide_eq_false _ (OA _) ?_;rintro⟨z',rz',h'⟩;have ez:=rz'.inj rz;subst ez;exact e (D.fn ae s σ H b a z' I hb h')
set_option tactic.hygienic true in
theorem Ib(D:Dat X n R){ae:qJ}{s:AA}{σ:St}{H:Hp}(I:Inv X ae σ H s){a:α}:∀{as:List α}{xs:List V}{ah:List As},A7 (R H) as xs->Vals xs ah->ah.any (isDat R H a)=decide (a∈as)
 | _,_,_,.nil,.nil=>by simp
 | _,_,_,.cons (l₁:=as) r t,.cons rv tv=>by
  rw[Ix,Jy D I rv r,Ib D I t tv]
  rename_i b _ _ _ _
  by_cases e:b=a
  .subst e;simp
  .have e':¬ a=b:=λz=>e z.symm
   simp[e,e']
theorem Gb(D:Dat X n R){ae:qJ}{s:AA}{σ:St}{H:Hp}{A:BO}(I:Inv X ae σ H s)(hu:A.units+n<Cn){a:α}{x:V}{v:As}(rx:RelV x v)(ha:R H a x) :
  ∀{as:List α}{xs:List V}{ah:List As},A7 (R H) as xs->Vals xs ah->∀u∈ah,LN A s u v (isDat R H a u)
 | _,_,_,.nil,.nil=>λu hm=>by cases hm
 | _,_,_,.cons r t,.cons rv tv=>λu hm=>by
  rcases BF.mp hm with rfl| hm
  .rw[Jy D I rv r]
   exact D.eq ae s σ H A _ a _ x _ v I hu r ha rv rx
  .exact Gb D I hu rx ha t tv u hm
def rInL(K:Au){α:Type}[DecidableEq α](R:Rep α)(neg:Bool):R2:=λx y H Q=>∃a as,R H a x/\(rLst K R H as y\/rTup K R H as y)/\Q (.bl (if neg then !decide (a∈as) else decide (a∈as))) H
theorem VL(D:Dat X n R)(hu:X.A.units+(n+1)<Cn):OpR X (DM .In) (rInL X.K R false):=by
 intro ae s σ H x y v u Q I rx ry h;obtain⟨a,as,ha,hs,h⟩:=h;have ic:X.A.in1.units+n<Cn:=by show X.A.units+1+n<Cn;exact rh hu
 rcases hs with⟨p,xs,rfl,hp,pa⟩| ⟨p,xs,rfl,hp,pa⟩
 .cases ry
  obtain⟨ah,r,pl,_⟩:=I.list hp;refine UB (isDat R H a) pl.isList (λw hw=>Gb D I ic rx ha pa r w (by simpa using hw)) ⟨.bl _,H,I,rfl,?_⟩;rw[show ah.toArray.any (isDat R H a)=ah.any (isDat R H a) by simp,Ib D I pa r];exact h
 .cases ry
  obtain⟨ah,r,pl,_⟩:=I.tuple hp;refine TJ (isDat R H a) pl (λw hw=>Gb D I ic rx ha pa r w (by simpa using hw)) ⟨.bl _,H,I,rfl,?_⟩;rw[show ah.toArray.any (isDat R H a)=ah.any (isDat R H a) by simp,Ib D I pa r];exact h
theorem Xz(D:Dat X n R)(hu:X.A.units+(n+1)<Cn):OpR X (DM .NotIn) (rInL X.K R true):=by
 intro ae s σ H x y v u Q I rx ry h;obtain⟨a,as,ha,hs,h⟩:=h;have ic:X.A.in1.units+n<Cn:=by show X.A.units+1+n<Cn;exact rh hu
 rcases hs with⟨p,xs,rfl,hp,pa⟩| ⟨p,xs,rfl,hp,pa⟩
 .cases ry
  obtain⟨ah,r,pl,_⟩:=I.list hp;refine RY (isDat R H a) pl.isList (λw hw=>Gb D I ic rx ha pa r w (by simpa using hw)) ⟨.bl _,H,I,rfl,?_⟩;rw[show ah.toArray.any (isDat R H a)=ah.any (isDat R H a) by simp,Ib D I pa r];exact h
 .cases ry
  obtain⟨ah,r,pl,_⟩:=I.tuple hp;refine Q5 (isDat R H a) pl (λw hw=>Gb D I ic rx ha pa r w (by simpa using hw)) ⟨.bl _,H,I,rfl,?_⟩;rw[show ah.toArray.any (isDat R H a)=ah.any (isDat R H a) by simp,Ib D I pa r];exact h
end
def TSm(H H':Hp):Prop:=∀b u,H b=pX u->(∃xs,u=.tup xs\/∃o,u=.frz o (.tup xs))->H' b=pX u
theorem TSm.trans(a:TSm H H1)(b:TSm H1 H2):TSm H H2:=λc u h t=>b c u (a c u h t) t
theorem Same.ts(e:Same H H'):TSm H H':=λb u h _=>e b u h
theorem TSm.lst{o:HO}(h:H l=pX (.lst xs)):TSm H (upd H l o):=λb u hb t=>by
 rw[Ae ?_]
 .exact hb
 .rintro rfl
  rw[h] at hb;cases hb;obtain⟨ys,e| ⟨o,e⟩⟩:=t
  .cases e
  .cases e
def qd:=@TSm.lst
theorem TSm.new{o:HO}(h:H p=pY):TSm H (upd H p o):=λb u hb _=>by rw[Ae (Ac hb h)];exact hb
theorem TSm.seq(e:TSm H H')(h:SqT K H a xs):SqT K H' a xs:=by
 rcases h with(h| ⟨o,h⟩)| h
 .exact .inl (.inl (e _ _ h ⟨xs,.inl rfl⟩))
 .exact .inl (.inr ⟨o,e _ _ h ⟨xs,.inr ⟨o,rfl⟩⟩⟩)
 .exact .inr h
theorem Paired.imp{F G:α->β->Prop}(f:∀a b,F a b->G a b):∀{l₁:List α}{l₂:List β},A7 F l₁ l₂->A7 G l₁ l₂
 | _,_,.nil=>.nil
 | _,_,.cons r t=>.cons (f _ _ r) (Paired.imp f t)
def TRep{α:Type}(R:Rep α):Prop:=∀H H' a x,TSm H H'->R H a x->R H' a x
theorem Ao:TRep rInt:=λ_ _ _ _ _ h=>h
theorem Ak{R:Rep α}(t:TRep R):TRep (rTup K R):=λH H' as x e h=>by
 obtain⟨p,xs,rfl,hp,pa⟩:=h;exact⟨p,xs,rfl,e.seq hp,Paired.imp (λa b=>t H H' a b e) pa⟩
theorem Same.new(h:H p=pY)(o:HO):Same H (upd H p o):=λb u q=>by rw[Ae (Ac q h)];exact q
def qe:=@Same.new
abbrev rPair(K:Au):Rep qC:=rTup K rInt
theorem Ea(h:H p=pX (.tup (ns.map V.int))):rPair K H ns (.ref p):=⟨p,_,rfl,qY h,paired_ints ns⟩
theorem Bk{x:V}(h:rPair K H ns x):∃p,x=.ref p/\SqT K H p (ns.map V.int):=by
 obtain⟨p,xs,rfl,hp,pa⟩:=h;rw[GJ pa] at hp;exact⟨p,rfl,hp⟩
def rSeq(K:Au):Rep qC:=λH t x=>rLst K rInt H t x\/rPair K H t x
theorem AAn{x:V}(h:rSeq K H ns x):∃p,x=.ref p/\(SqL K H p (ns.map V.int)\/SqT K H p (ns.map V.int)):=by
 rcases h with⟨p,xs,rfl,hp,pa⟩| h
 .rw[GJ pa] at hp
  exact⟨p,rfl,.inl hp⟩
 .obtain⟨p,e,hp⟩:=Bk h
  exact⟨p,e,.inr hp⟩
section
variable{g:TG}{R:Hp->Prop}
abbrev putD(D:Addr)(N:St->Hp->Prop)(te:TE)(τ2:St):Bool->Hp->Prop:=λb H3=>if b=true then te τ2 H3 λv H4=>∃ys,H4 D=pX (.lst ys)/\ys.length<sizeLine/\N τ2 (upd H4 D (.lst (ys++[v]))) else N τ2 H3
theorem yesD{N:St->Hp->Prop}(h:te τ H λv H4=>∃ys,H4 D=pX (.lst ys)/\ys.length<sizeLine/\N τ (upd H4 D (.lst (ys++[v])))):AEs τ H (putD D N te τ):=by
 show putD D N te τ true H;unfold putD;rw[p6 rfl];exact h
theorem yesN{N:St->Hp->Prop}{x:V}(h:te (τ.set i (pX x)) H λv H4=>∃ys,H4 D=pX (.lst ys)/\ys.length<sizeLine/\N (τ.set i (pX x)) (upd H4 D (.lst (ys++[v])))):gName i x τ H λτ2 H2=>AEs τ2 H2 (putD D N te τ2):=yesD h
theorem CW(Pv:Nat->St->Hp->Prop)(h0:Pv 0 τ H)(hl:∀i τ H,i<=xs.length->Pv i τ H->SqL K H a xs)
  (hs:∀i x τ H,xs[i]?=pX x->Pv i τ H->g x τ H λτ2 H2=>tc τ2 H2 (putD D (Pv (i+1)) te τ2)) (hd:∀τ H,Pv xs.length τ H->R H):Fe (Itl K a) D g tc te R τ H:=by
 refine Hv xs.length Pv h0 (λi τ H hi p=>⟨xs,xs[i],hl i τ H (DD hi) p,by simp[hi]⟩) (λτ H p=>⟨xs,hl _ τ H (AH _) p,AH _⟩) (λi τ H x H' hi p y=>?_) hd;obtain⟨e,y⟩:=y;subst e;exact hs i x τ _ (y xs (hl i τ _ (DD hi) p)) p
theorem Mt(Pv:Nat->St->Hp->Prop)(h0:Pv 0 τ H)(hl:∀i τ H,i<=xs.length->Pv i τ H->SqT K H a xs)
  (hs:∀i x τ H,xs[i]?=pX x->Pv i τ H->g x τ H λτ2 H2=>tc τ2 H2 (putD D (Pv (i+1)) te τ2)) (hd:∀τ H,Pv xs.length τ H->R H):Fe (Itt K a) D g tc te R τ H:=by
 refine Hv xs.length Pv h0 (λi τ H hi p=>⟨xs,xs[i],hl i τ H (DD hi) p,by simp[hi]⟩) (λτ H p=>⟨xs,hl _ τ H (AH _) p,AH _⟩) (λi τ H x H' hi p y=>?_) hd;obtain⟨e,y⟩:=y;subst e;exact hs i x τ _ (y xs (hl i τ _ (DD hi) p)) p
theorem Cp{lo:Int}(Pv:Nat->St->Hp->Prop)(h0:Pv 0 τ H)
  (hs:∀i τ H,i<n->Pv i τ H->g (.int (lo+i)) τ H λτ2 H2=>tc τ2 H2 (putD D (Pv (i+1)) te τ2)) (hd:∀τ H,Pv n τ H->R H):Fe (Itr lo n) D g tc te R τ H:=by
 refine Hv n Pv h0 (λi τ H hi p=>hi) (λτ H p=>AH _) (λi τ H x H' hi p y=>?_) hd;obtain⟨e,y⟩:=y;subst e y;exact hs i τ _ hi p
theorem Jw{S:Hp->List V->Prop}(Pv:Nat->St->Hp->Prop)(h0:Pv 0 τ H)(hl:∀i τ H,i<=xs.length->Pv i τ H->S H xs)
  (hs:∀i x τ H T,xs[i]?=pX x->H T=none->Pv i τ H->g (.ref T) τ (upd H T (.tup [.int i,x])) λτ2 H2=>tc τ2 H2 (putD D (Pv (i+1)) te τ2)) (hd:∀τ H,Pv xs.length τ H->R H):Fe (Ien S) D g tc te R τ H:=by
 refine Hv xs.length Pv h0 (λi τ H hi p=>⟨xs,xs[i],hl i τ H (DD hi) p,by simp[hi]⟩) (λτ H p=>⟨xs,hl _ τ H (AH _) p,rfl⟩) (λi τ H x H' hi p y=>?_) hd;obtain⟨T,z,rfl,hT,rfl,y⟩:=y;exact hs i z τ H T (y xs (hl i τ _ (DD hi) p)) hT p
end
theorem Bp{k:Nat}(hr:Room k A)(h:autoParam (n<=64) zA1._auto_1):A.units+n<Cn:=C1 (Nat.add_le_add_left h _) hr.units
theorem Jo(hK:X.K=K){k:Nat}{t:TGs}(hc:X.calm=true)(h:PGs X es t)
  (hn:autoParam ((JS es X.env).length=n) zA0._auto_1) (cK:autoParam ((JS es X.env).findIdx? (·.1)=pY) zA0._auto_1):PG X (.Tuple es k pos) (gTup K n t):=by subst hK;exact PL hc h hn cK
theorem FP(hK:X.K=K):OpR X (DM .In) (rIn K false):=by subst hK;exact MP
theorem Er(hK:X.K=K):OpR X (DM .NotIn) (rIn K true):=by subst hK;exact QS
theorem Ly(hK:X.K=K):CallR X (.builtin "len") (λxs H Q=>∃p ys,xs=[.ref p]/\(SqL K H p ys\/SqT K H p ys)/\Q (.int ys.length) H):=by subst hK;exact BJ
theorem Qo(hK:X.K=K):IxR X (rIxL K):=by subst hK;exact Cm
theorem WW(hK:X.K=K):IxR X (rIxT K):=by subst hK;exact Bg
theorem Ey(x:Int):∀(tie:qC),inV (.int x) (tie.map V.int)=decide (x∈tie)
 | []=>rfl
 | z::r=>by
  have ih:=Ey x r;unfold inV at ih ⊢;rw[BG,Ix,ih];show((z==x)||decide (x∈r))=decide (x∈z::r);by_cases e:z=x
  .subst e;simp
  .have e':¬ x=z:=λq=>e q.symm
   simp[e,e']
theorem iteNN{c A B:Prop}{inst:Decidable c}(hc:¬ c)(h:A):if(!decide c)=true then A else B:=by
 rw[p8 hc];exact iteT h
theorem iteNP{c A B:Prop}{inst:Decidable c}(hc:c)(h:B):if(!decide c)=true then A else B:=by
 rw[p7 hc];exact iteF h
theorem iteN{c A B:Prop}{inst:Decidable c}(hc:¬ c)(h:B):if decide c=true then A else B:=by
 rw[p8 hc];exact iteF h
theorem iteP{c A B:Prop}{inst:Decidable c}(hc:c)(h:A):if decide c=true then A else B:=by
 rw[p7 hc];exact iteT h
theorem AAk{k:Int}(h0:0<=k)(h:k<(ns.length:Int)):∃v:Int,atI (ns.map V.int) k=pX (.int v):=by
 have hk:k.toNat<ns.length:=rZ h0 h;have ek:k=((k.toNat:Nat):Int):=by lia
 have q:atI (ns.map V.int) ((k.toNat:Nat):Int)=pX (.int ns[k.toNat]):=CN (by rw[Bi,AL hk]<;>rfl);rw[<- ek] at q;exact⟨_,q⟩
theorem small(h:n<=1000):n<=sizeLine:=DD (BZ h)
def srt:qC->qC
 | [a,b]=>if b<a then [b,a] else [a,b]
 | t=>t
theorem Cu(a b:Int):srt [a,b]=if b<a then [b,a] else [a,b]:=rfl
theorem YC{a b:Int}(h:ms.Perm [a,b])(s:ms.Pairwise (·<=·)):ms=srt [a,b]:=by
 have hl:=h.length_eq
 match ms,hl,h,s with
 | [x,y],_,h,s =>
  have hxy:x<=y:=by simpa using s
  have hx:x∈[a,b]:=h.mem_iff.mp (by simp);have hy:y∈[a,b]:=h.mem_iff.mp (by simp);have ha:a∈[x,y]:=h.mem_iff.mpr (by simp);have hb:b∈[x,y]:=h.mem_iff.mpr (by simp);simp only[BF,JY,or_false] at hx hy ha hb;rw[Cu];split
  .have e1:x=b:=by lia
   have e2:y=a:=by lia
   rw[e1,e2]
  .have e1:x=a:=by lia
   have e2:y=b:=by lia
   rw[e1,e2]
def OkTie(m:Int)(t:qC):Prop:=∃a b,t=[a,b]/\0<=a/\a<m/\0<=b/\b<m/\a≠b
structure OkTies(m:Int)(as:qD):Prop where
 ok:∀t∈as,OkTie m t
 nd:(as.map srt).Nodup
theorem OkTies.take_new{m:Int}{t:qC}(h:OkTies m as)(ht:as[i]?=pX t):srt t∉(as.take i).map srt:=by
 intro hm;obtain⟨u,hu,e⟩:=AY.mp hm;obtain⟨j,hj,ej⟩:=CC.mp hu;have hji:j<i:=by rw[BS] at hj;exact sM hj
 have hi:=(AF.mp ht).1;have et:=(AF.mp ht).2;have eu:as[j]'(qj hji hi)=u:=by rw[<- ej,IQ]
 have hnd:=h.nd;have:=(Ts (h₀:=by rw[AB];exact qj hji hi) (h₁:=by rw[AB];exact hi) hnd (i:=j) (j:=i)).mp (by rw[Lc,Lc,et,eu,e]);exact qL hji this
def Ax(p:Int):Nat->qD->qC
 | _,[]=>[]
 | k,t::r=>if p∈t then(k:Int)::Ax p (k+1) r else Ax p (k+1) r
theorem NP(p:Int)(t:qC):∀(k:Nat) (as:qD),Ax p k (as++[t])=Ax p k as++(if p∈t then [((k+as.length:Nat):Int)] else [])
 | k,[]=>by
  show(if p∈t then(k:Int)::Ax p (k+1) [] else Ax p (k+1) [])=_;split<;>simp[Ax]
 | k,u::r=>by
  have ih:=NP p t (k+1) r;have e:k+1+r.length=k+(u::r).length:=by simp;exact rq
  rw[e] at ih;show(if p∈u then(k:Int)::Ax p (k+1) (r++[t]) else Ax p (k+1) (r++[t]))=(if p∈u then(k:Int)::Ax p (k+1) r else Ax p (k+1) r)++_;rw[ih];split<;>rfl
abbrev hits(p:Int)(as:qD):qC:=Ax p 0 as
theorem Mr{p:Int}{t:qC}(h:as[i]?=pX t):hits p (as.take (i+1))=hits p (as.take i)++(if p∈t then [(i:Int)] else []):=by
 have hi:=(AF.mp h).1;have e:as.take (i+1)=as.take i++[t]:=by rw[D4,h];rfl
 rw[e,hits,NP];have:0+(as.take i).length=i:=by rw[BS];lia
 rw[this]
theorem Jq(p:Int):∀(k:Nat) (as:qD),(Ax p k as).length<=as.length
 | _,[]=>AH _
 | k,t::r=>by
  have ih:=Jq p (k+1) r;show(if p∈t then(k:Int)::Ax p (k+1) r else Ax p (k+1) r).length<=r.length+1;split
  .simp;exact ih
  .exact rD ih
theorem max_list(hc:X.calm=true):CallR X (.builtin "max") (λxs H Q=>∃(p:Addr) (ns:qC),xs=[.ref p]/\SqL X.K H p (ns.map V.int)/\0<ns.length/\∀m,m∈ns->(∀a∈ns,a<=m)->Q (.int m) H):=by
 intro ae s σ H xs us Q I r h;obtain⟨p,ns,rfl,hq,df,q⟩:=h;obtain⟨u0,rfl,ru⟩:=r.one;cases ru;obtain⟨ah,rv,pl,hz⟩:=I.list hq;have hi:=intsAre_of rv;have hl:=pl.isList;obtain⟨ys,e⟩:=hi.allInts.items;have h9:ns=ys.toList.map (·.1):=by rw[<- hi.numsOf,<- nums_intItems,<- e]
 have hsz:0<ys.size:=by
  rw[h9,AB,AZ] at df;exact df
 rw[e] at hl;refine max_intList (I.ok.hd hc) hl hsz λv h' tk hv hk=>?_;obtain⟨t,rfl⟩:=intItems_at hv;obtain⟨h1,h2⟩:=argBest_gt (numAt ys) (ys.size-1);refine⟨.int (numAt ys (argBest (λi j=>decide (numAt ys i>numAt ys j)) (ys.size-1))),H,I.kept hk,⟨t,rfl⟩,q _ ?_ λa ha=>?_⟩
 .rw[h9,numAt_eq]
  exact getD_mem (by rw[AB,AZ];lia)
 .rw[h9] at ha
  obtain⟨j,hj,rfl⟩:=mem_getD ha;rw[AB,AZ] at hj;rw[<- numAt_eq];exact h2 j (rJ hj)
def upTo(n:Nat)(f:Int->Bool):qC:=((AO n).map λ(i:Nat)=>(i:Int)).filter f
def lies(ns:qC)(k:Int):Bool:=match ns with
 | []=>false
 | a::r=>decide (a<k)&&decide (k<=(a::r).getLast (by simp))
set_option tactic.hygienic true in
theorem Ho{p x:Int}:∀{k:Nat}{as:qD},x∈Ax p k as↔∃i:Nat,∃t,as[i]?=pX t/\p∈t/\x=((k+i:Nat):Int)
 | k,[]=>by simp[Ax]
 | k,u::r=>by
  have ih:=@Ho p x (k+1) r;have e:Ax p k (u::r)=if p∈u then(k:Int)::Ax p (k+1) r else Ax p (k+1) r:=rfl
  rw[e];constructor
  .intro h
   split at h
   .rename_i hu
    rcases BF.mp h with h| h
    .exact⟨0,u,rfl,hu,by simpa using h⟩
    .obtain⟨i,t,h1,h2,h3⟩:=ih.mp h
     exact⟨i+1,t,by simpa using h1,h2,by rw[h3];congr 1;exact rq⟩
   .obtain⟨i,t,h1,h2,h3⟩:=ih.mp h
    exact⟨i+1,t,by simpa using h1,h2,by rw[h3];congr 1;exact rq⟩
  .rintro⟨i,t,h1,h2,h3⟩
   cases i with
   | zero =>
    have:u=t:=by simpa using h1
    subst this;rw[p6 h2];exact BF.mpr (.inl (by simpa using h3))
   | succ i =>
    have hm:=ih.mpr ⟨i,t,by simpa using h1,h2,by rw[h3];congr 1;lia⟩;split
    .exact AJ _ hm
    .exact hm
theorem JC(p:Int):∀(k:Nat) (as:qD),(Ax p k as).Pairwise (· < ·)
 | _,[]=>KM
 | k,u::r=>by
  have ih:=JC p (k+1) r;have e:Ax p k (u::r)=if p∈u then(k:Int)::Ax p (k+1) r else Ax p (k+1) r:=rfl
  rw[e];split
  .refine Sb (λx hx=>?_) ih
   obtain⟨i,t,_,_,h3⟩:=Ho.mp hx;rw[h3];lia
  .exact ih
theorem QD:∀{ns:qC} (h:ns≠[]),ns.Pairwise (· < ·)->∀x∈ns,x<=ns.getLast h
 | [],h,_,_,_=>qB rfl h
 | [a],_,_,x,hx=>by
  have:x=a:=by simpa using hx
  subst this;exact IL _
 | a::b::r,_,pw,x,hx=>by
  have h2:=CO.mp pw;have e:(a::b::r).getLast (by simp)=(b::r).getLast (by simp):=by simp
  rw[e];have l:=QD (ns:=b::r) (by simp) h2.2;rcases BF.mp hx with hx| hx
  .subst hx
   have h3:=h2.1 b (by simp);have h4:=l b (by simp);exact vY h3 h4
  .exact l x hx
end L2
namespace L2
def Cl(S:Int->Prop)(es:qD):Prop:=∀e∈es,∀x∈e,∀y∈e,S x->S y
def gh(h:qC)(p:Int):Int:=h.getD p.toNat 0
abbrev below(n:Nat):qC:=(AO n).map λ(i:Nat)=>(i:Int)
theorem XS:∀{l m:qC},l.Pairwise (· < ·)->m.Pairwise (· < ·)->(∀x,x∈l↔x∈m)->l=m
 | [],[],_,_,_=>rfl
 | [],b::m,_,_,h=>by have:=(h b).mpr (by simp);cases this
 | a::l,[],_,_,h=>by have:=(h a).mp (by simp);cases this
 | a::l,b::m,pl,pm,h=>by
  obtain⟨l1,l2⟩:=CO.mp pl;obtain⟨m1,m2⟩:=CO.mp pm;have ab:a=b:=by
   have ha:=(h a).mp (by simp);have hb:=(h b).mpr (by simp);rcases BF.mp ha with ha| ha
   .exact ha
   .rcases BF.mp hb with hb| hb
    .exact hb.symm
    .have h1:=m1 a ha
     have h2:=l1 b hb;lia
  subst ab;refine congrArg (a::·) (XS l2 m2 λx=>?_);constructor
  .intro hx
   rcases BF.mp ((h x).mp (AJ _ hx)) with e| e
   .have:=l1 x hx
    lia
   .exact e
  .intro hx
   rcases BF.mp ((h x).mpr (AJ _ hx)) with e| e
   .have:=m1 x hx
    lia
   .exact e
def under(n:Nat)(h:qC)(x:Int):qC:=upTo n λp=>decide (gh h p=x)
def usd(es:qD)(fs:qC):Nat:=(es.filter λe=>e.all λx=>decide (x∈fs)).length
def Pass(es:qD)(f0:qC)(j:Nat)(f:qC):Prop :=
 (f=f0/\Cl (·∈f0) (es.take j))\/(usd es f0+1<=usd es f/\¬ Cl (·∈f0) es)
def pick(as:qD)(ms:qC):qD:=ms.map λk=>as.getD k.toNat []
def sel(as:qD)(ms:qC):Nat->qD
 | 0=>[]
 | i+1=>sel as ms i++(if(i:Int)∈ms then [as.getD i []] else [])
end L2
namespace L2
open PySem PySem.Spec PyProof.Rows
theorem Px:∀{xs:List V}{us:List As},xs.length=us.length->(∀(i:Nat) (x:V) (u:As),xs[i]?=pX x->us[i]?=pX u->RelV x u)->Vals xs us
 | [],[],_,_=>.nil
 | [],_::_,h,_=>by simp at h
 | _::_,[],h,_=>by simp at h
 | x::xs,u::us,h,f=>.cons (f 0 x u rfl rfl) (Px (by simpa using h) λi y v h1 h2=>f (i+1) y v (by simpa using h1) (by simpa using h2))
theorem JH:CallR X (.type "range") (λxs H Q=>∃j,xs=[.int j]/\∀r,H r=none->Q (.ref r) (upd H r (.rng 0 j))):=by
 intro ae s σ H xs us Q I r h;obtain⟨j,rfl,q⟩:=h;obtain⟨u,rfl,t,rfl⟩:=r.one;refine call_range_1 ?_;have hn:=I.hok.fresh (AH _);exact⟨.ref s.heap.objs.size,_,I.laid (a:=s.heap.objs.size) (o:=.rng 0 j) (λb u e=>AG _ e) (AH _) ⟨_,_,_,AS _ rfl⟩,rfl,q _ hn⟩
def rEqT(K:Au){α:Type}[DecidableEq α](R:Rep α):R2:=λx y H Q=>∃as bs,rTup K R H as x/\rTup K R H bs y/\Q (.bl (decide (as=bs))) H
theorem Vq[DecidableEq α]{R:Rep α}(D:Dat X n R)(hu:X.A.units+(n+1)<Cn):OpR X (DM .Eq) (rEqT X.K R):=by
 intro ae s σ H x y v u Q I rx ry h;obtain⟨as,bs,⟨p,xs,rfl,hp,pa⟩,⟨q,ys,rfl,hq,pb⟩,h⟩:=h;cases rx;cases ry;obtain⟨ah,ra,ta,_⟩:=I.tuple hp;obtain⟨f6,rb,tb,_⟩:=I.tuple hq;have l1:as.length=ah.toArray.size:=by rw[AU,<- ra.length];exact AT pa
 have l2:bs.length=f6.toArray.size:=by rw[AU,<- rb.length];exact AT pb
 refine SeqAt.eq_tupleAt (e:=λj=>decide (as[j]?=bs[j]?)) ta tb (qg hu) (D.place (A:=X.A.in1) I (by show X.A.units+1+n<Cn;exact rh hu) pa pb ra rb) ?_;rw[Gy l1 l2];exact⟨.bl _,H,I,rfl,h⟩
end L2
namespace PySem
def Ctx0(o:Obj):Prop:=∃vs,o.data=.fields vs/\vs[2]?=pX .none
def Ctx2(h:Heap)(e:Addr):Prop:=∃o,h.get? e=pX o/\Ctx0 o
end PySem
namespace L2
open PySem PySem.Spec PyProof.Rows
structure Fly(P:AK)(w:AQ)(outer:List Env)(H H':Hp)(s s':AA)(a:Addr)(cls:As):Prop where
 os:s'.os=s.os
 bare:KB s'.gens
 un:Un (frs outer) [] H H' s.heap s'.heap
 new:H' a=pY
 ctx:Ctx2 s'.heap a
 fly:∃B a0,Heap.FlyingW B outer a cls a0 s'.heap/\HOk P w H' B/\∀b o',(∃o,s.heap.get? b=pX o)->s'.heap.get? b=pX o'->b∉frs outer->B.get? b=pX o'
def CXF(P:AK)(w:AQ):CXT:=λouter H s E e s'=>∃a cls H',e=.ref a/\Fly P w outer H H' s s' a cls/\E cls pY H'
def sx(X:Cx)(a:Addr)(oe:Obj):Cx:={X with A:=X.A.mark (pX (.ref a)),calm:=false,pn:=X.pn++[(a,oe)],xe:=λ_ _=>False}
def XP(X:Cx)(ae:qJ)(σ:St)(E:XK)(x:As)(s2:AA):Prop:=∃H1 s1,Inv X ae σ H1 s1/\CXF X.prog X.w X.stack H1 s1 E x s2
section
variable{id:String}{o:Expr}{t:TA}{l:Expr}{tl:TE}
theorem WL(hK:X.K=K)(hl:PE X l tl):PI X tg l (AFd K tl):=by subst hK;exact ABr hl
end
section
variable{st:Stmt}{rest:List Stmt}{t u:TS}
def AGQ(t u:TS):TS:=λD σ H=>∃M:St->Hp->Prop,t {D with nx:=M} σ H/\∀σ' H',M σ' H'->u D σ' H'
theorem XQ(h1:PS X st t)(h2:PSs X rest u):PSs X (st::rest) (AGQ t u):=by
 intro ae s σ H D I h;obtain⟨M,ha,hb⟩:=h;refine NX (thn (h1 ae s σ H {D with nx:=M} I ha) λf s1 q=>?_);cases f with
 | next =>
  obtain⟨σ',H',I',q⟩:=q;exact h2 ae s1 σ' H' D I' (hb _ _ q)
 | ret v=>exact q
 | brk=>exact q
 | cont=>exact q
theorem Ed(hK:X.K=K):CallR X (.type "tuple") (λxs H Q=>∃p ys,xs=[.ref p]/\((SqL K H p ys/\∀l,H l=none->Q (.ref l) (upd H l (.tup ys)))\/(SqT K H p ys/\Q (.ref p) H))):=by subst hK;exact Bt
end
end L2
namespace L2
open PySem PySem.Spec PyProof.Rows PySem.W
theorem Vals.app(h:Vals xs us)(k:Vals ys vs):Vals (xs++ys) (us++vs):=by
 induction h with
 | nil=>exact k
 | cons r t ih=>exact .cons r ih
def rAddL(K:Au):R2:=λx y H Q=>∃a b xs ys,x=.ref a/\y=.ref b/\SqL K H a xs/\SqL K H b ys/\xs.length+ys.length<=sizeLine/\∀p,H p=none->Q (.ref p) (upd H p (.lst (xs++ys)))
theorem Jc:OpR X (G2 .Add) (rAddL X.K):=by
 intro ae s σ H x y v u Q I rx ry h;obtain⟨a,b,xs,ys,rfl,rfl,ha,hb,hz,q⟩:=h;cases rx;cases ry;obtain⟨vs,r1,p1,_⟩:=I.list ha;obtain⟨ws,r2,p2,_⟩:=I.list hb;have hl:=p1.isList;have ii:=p2.isList;obtain⟨⟨cls,dd,data,sl⟩,ho,hc,n,hd⟩:=id hl;obtain⟨⟨iL,f',We,gg⟩,dQ,eJ,n2,eI⟩:=id ii;simp only at hc hd eJ eI;subst hc hd eJ eI;have e:vs.toArray++ws.toArray=(vs++ws).toArray:=by simp
 have l1:=r1.length;have l2:=r2.length;refine N0 ⟨_,ho,rfl⟩ ⟨_,dQ,rfl⟩ noFill_list_add seq_list_add PySem.F.slot_list_add PySem.F.entry_list_add (PySem.F.args_list_add_2 _ _) (list_addW a b vs.toArray ws.toArray n n2 dd f' sl gg (by rw[AU,AU];exact tR hz l1 l2)) ⟨ho,dQ,?_⟩;rw[e];refine⟨.ref s.heap.objs.size,_,I.laid (t':=s.toks) (o:=.lst (xs++ys)) (λb ob q=>AG _ q) (AH _) ?_,rfl,q _ (I.hok.fresh (AH _))⟩;exact⟨by rw[Bz];exact hz,_,0,Vals.app r1 r2,AS _ rfl⟩
structure Own(K:Frag)(C:Addr):Prop where
 ha:findIn K (.ref C) "__class__" = pX (pX (.builtin "object.__class__"))
 hn:specialIn K (.builtin "object.__class__") "__get__" = pX (pX (.builtin "getset_descriptor.__get__"))
 tk:takesIn K (.builtin "object.__class__")=pX true
 hm:mroIn K C (.type "object")=pX true
 is:kitOne K (.ref C) (.ref C)=pX true
end L2
namespace L2
open PySem PySem.Spec PyProof.Rows
open PySem.W
section
variable{p:Pos}
def AFM(C:Addr):TE:=λ_ H Q=>∀y dx,H y=none->H dx=none->dx≠y->Q (.ref y) (upd (upd H dx (.own y)) y (.ins C dx []))
theorem ACc(mk:makesIn X.K C=true)(hi:findIn X.K (.ref C) "__init__" = pX (pX (.builtin "object.__init__")))(kp:keepIn X.K (.ref C)=true)(hg:Gl X x)(hm:X.mg x=pX (.ref C))
  (g6:autoParam ((x==("__debug__" : Str))=false) zA1._auto_1):PE X (.Call (.Name x p) [] [] pos) (AFM C):=by
 intro ae s σ H Q I h;refine Fh (Jf I hg hm ?_ g6);refine Q4 I.kIn kp (P6 ?_);have hq:=h (s.heap.objs.size+1) s.heap.objs.size (I.hok.fresh (K3 _)) (I.hok.fresh (AH _)) (BM (F6 _));have I2:=Inv.made (C:=C) I;refine Ye I.kIn mk hi (λself=>VS (oi_bind self)) ?_;have Y:=makes_of (M:=AM X.prog X.w) I.kIn mk;have e2:((s.heap.push D3).push (EZ C s.heap.objs.size)).get? (s.heap.objs.size+1)=pX (EZ C s.heap.objs.size):=by
  have:=AS (s.heap.push D3) (o:=EZ C s.heap.objs.size) rfl
  rwa [D5] at this
 have t1:Looks (AM X.prog X.w) ((s.heap.push D3).push (EZ C s.heap.objs.size)) (typeOf (.ref (s.heap.objs.size+1))) (.ref C):=(W0 e2).andThen .now;have t2:Looks (AM X.prog X.w) ((s.heap.push D3).push (EZ C s.heap.objs.size)) (QE (.ref (s.heap.objs.size+1)) (.type "object")) true:=t1.andThen (Y.top.keeps λb o e=>AG _ (AG _ e));refine QH oi_plain entry_oi (@check_slot (AM X.prog X.w) _ _ _ "object.__init__" "object" "__init__" (.ref (s.heap.objs.size+1)) [] [] _ oi_kind oi_split t2 (oi_args (.ref (s.heap.objs.size+1))) ?_);rw[oi_run];exact AC (And.intro rfl ⟨.ref (s.heap.objs.size+1),_,I2,rfl,hq⟩)
end
end L2
namespace L2
open PySem PySem.Spec PyProof.Rows
section
variable{κ:Type}[DecidableEq κ]
def valV(ag:List (κ×V))(k:κ):Option V:=(ag.find? λkv=>decide (kv.1=k)).map (·.2)
def putK(ag:List (κ×V))(k:κ)(v:V):List (κ×V) :=
 if(ag.any λkv=>decide (kv.1=k))=true then ag.map (λkv=>if kv.1=k then(kv.1,v) else kv) else ag++[(k,v)]
theorem Bw{p:κ×V}{r:List (κ×V)}{k:κ}(e:p.1=k):valV (p::r) k=pX p.2:=by simp[valV,FE,e]
theorem Bx{p:κ×V}{r:List (κ×V)}{k:κ}(e:¬ p.1=k):valV (p::r) k=valV r k:=by simp[valV,FE,e]
theorem Fp(k:κ):∀ag:List (κ×V),(ag.any λkv=>decide (kv.1=k))=(valV ag k).isSome
 | []=>rfl
 | p::r=>by
  rw[Ix];by_cases e:p.1=k
  .simp only[Bw e,p7 e,Bool.true_or,Option.isSome_some]
  .rw[Bx e,p8 e,VT];exact Fp k r
theorem Rg(k j:κ)(y:V):∀ag:List (κ×V),valV (ag.map λkv=>if kv.1=k then(kv.1,y) else kv) j=(valV ag j).map λx=>if j=k then y else x
 | []=>rfl
 | p::r=>by
  have ih:=Rg k j y r;rw[BG];by_cases h:p.1=k
  .rw[p6 h]
   by_cases e:p.1=j
   .rw[Bw (p:=(p.1,y)) e,Bw e,LU,p6 (e.symm.trans h)]
   .rw[Bx (p:=(p.1,y)) e,Bx e,ih]
  .rw[pZ h]
   by_cases e:p.1=j
   .rw[Bw (p:=p) e,Bw e,LU,pZ (λz=>h (e.trans z))]
   .rw[Bx (p:=p) e,Bx e,ih]
theorem Oc(k j:κ)(y:V):∀ag:List (κ×V),valV ag k=none->valV (ag++[(k,y)]) j=if j=k then pX y else valV ag j
 | [],_=>by
  by_cases e:k=j
  .rw[p6 e.symm];exact Bw (p:=(k,y)) e
  .rw[pZ (λz=>e z.symm)];exact Bx (p:=(k,y)) e
 | p::r,hn=>by
  rw[TL];have hk:¬ p.1=k:=λz=>by rw[Bw z] at hn;cases hn
  rw[Bx hk] at hn;have ih:=Oc k j y r hn;by_cases e:p.1=j
  .rw[Bw e,Bw e,pZ (λz=>hk (e.trans z))]
  .rw[Bx e,Bx e,ih]
theorem Eb(ag:List (κ×V))(k j:κ)(y:V):valV (putK ag k y) j=if j=k then pX y else valV ag j:=by
 unfold putK;by_cases a:(ag.any λkv=>decide (kv.1=k))=true
 .rw[p6 a,Rg]
  rw[Fp] at a;by_cases e:j=k
  .obtain⟨x,hx⟩:=FC.mp a
   rw[p6 e,e,hx,LU,p6 rfl]
  .rw[pZ e]
   cases valV ag j with
   | none=>rfl
   | some x=>rw[LU,pZ e]
 .rw[pZ a]
  refine Oc k j y ag ?_;rw[Fp] at a;cases q:valV ag k with
  | none=>rfl
  | some x=>rw[q] at a;exact(a rfl).elim
theorem CJ(ag:List (κ×V))(k:κ)(v:V):(putK ag k v).length<=ag.length+1:=by
 unfold putK;split
 .rw[AB];exact qi
 .rw[Bz,DE,ID];lia
theorem HX{ag:List (κ×V)}{k:κ}(v:V)(h:valV ag k=pY):putK ag k v=ag++[(k,v)]:=by
 unfold putK;rw[Fp,h];exact pZ (by decide)
theorem RelO.isSome_eq{o:Option V}{u:Option As}(r:RelO o u):o.isSome=u.isSome:=by
 cases o with
 | none=>cases u with
  | none=>rfl
  | some _=>exact r.elim
 | some _=>cases u with
  | none=>exact r.elim
  | some _=>rfl
theorem RelO.getD{o:Option V}{u:Option As}{d:V}{d':As}(r:RelO o u)(rd:RelV d d'):RelV (o.getD d) (u.getD d'):=by
 cases o with
 | none=>cases u with
  | none=>exact rd
  | some _=>exact r.elim
 | some _=>cases u with
  | none=>exact r.elim
  | some _=>exact r
theorem KV.val{ag:List (κ×V)}{vs:List (κ×As)}(r:KV ag vs)(k:κ):RelO (valV ag k) (NR vs k):=by
 unfold KV at r
 induction r with
 | nil=>exact G6
 | @cons p q ps qs h t ih =>
  obtain⟨h1,h2⟩:=h;by_cases e:p.1=k
  .have e':=h1.symm.trans e
   have b:NR (q::qs) k=pX q.2:=by simp[NR,FE,e']
   rw[Bw e,b];exact h2
  .have e':¬ q.1=k:=λz=>e (h1.trans z)
   have b:NR (q::qs) k=NR qs k:=by simp[NR,FE,e']
   rw[Bx e,b];exact ih
theorem KV.any{ag:List (κ×V)}{vs:List (κ×As)}(r:KV ag vs)(k:κ):(ag.any λkv=>decide (kv.1=k))=vs.any λkv=>decide (kv.1=k):=by
 unfold KV at r
 induction r with
 | nil=>rfl
 | cons h t ih=>rw[Ix,Ix,ih,h.1]
theorem KV.repl{ag:List (κ×V)}{vs:List (κ×As)}(r:KV ag vs)(k:κ)(ry:RelV y u) :
  KV (ag.map λkv=>if kv.1=k then(kv.1,y) else kv) (vs.map λkv=>if kv.1=k then(kv.1,u) else kv):=by
 unfold KV at r ⊢
 induction r with
 | nil=>exact .nil
 | @cons p q ps qs h t ih =>
  rw[BG,BG];refine .cons ?_ ih;obtain⟨h1,h2⟩:=h;by_cases e:p.1=k
  .rw[p6 e,p6 (h1.symm.trans e)];exact⟨h1,ry⟩
  .rw[pZ e,pZ (λz=>e (h1.trans z))];exact⟨h1,h2⟩
theorem KV.put{ag:List (κ×V)}{vs:List (κ×As)}(r:KV ag vs)(k:κ)(ry:RelV y u):KV (putK ag k y) (stored vs k u):=by
 unfold putK stored;rw[r.any k];by_cases e:(vs.any λkv=>decide (kv.1=k))=true
 .rw[p6 e,p6 e];exact r.repl k ry
 .rw[pZ e,pZ e];exact S9 r ⟨rfl,ry⟩
theorem KV.length{ag:List (κ×V)}{vs:List (κ×As)}(r:KV ag vs):ag.length=vs.length:=AT r
end
theorem Nz{k:Key}(r:RelV (kV k) u):(Bm P w).is k u=true:=by
 cases k with
 | inl i=>obtain⟨t,e⟩:=r;subst e;exact SQ P w i t
 | inr x=>obtain⟨t,e⟩:=r;subst e;exact Rh P w x t
theorem Oe{P:AK}{w:AQ}:∀{ks:List Key}{us:List As},Vals (ks.map kV) us->ItemsAre (Bm P w) ks us
 | [],_,r=>by rw[IX] at r;cases r;exact .nil
 | k::ks,_,r=>by
  rw[BG] at r;cases r with
  | cons h t=>exact .cons (Nz h) (Oe t)
abbrev KT(H:Hp):List (List Key×V)->List (List Key×Addr×As)->Prop:=A7 λp q=>p.1=q.1/\H q.2.1=pX (.tup (p.1.map kV))/\RelV p.2 q.2.2
theorem KT.val{xs:List (List Key×Addr×As)}(r:KT H ag xs)(k:List Key):RelO (valV ag k) ((IE xs k).map (·.2)):=by
 induction r with
 | nil=>exact G6
 | @cons p q ps qs h t ih =>
  obtain⟨h1,_,h2⟩:=h;by_cases e:p.1=k
  .have e':=h1.symm.trans e
   have b:IE (q::qs) k=pX q.2:=by simp[IE,FE,e']
   rw[Bw e,b];exact h2
  .have e':¬ q.1=k:=λz=>e (h1.trans z)
   have b:IE (q::qs) k=IE qs k:=by simp[IE,FE,e']
   rw[Bx e,b];exact ih
theorem KT.repl{xs:List (List Key×Addr×As)}(r:KT H ag xs)(k:List Key)(ry:RelV y u) :
  KT H (ag.map λkv=>if kv.1=k then(kv.1,y) else kv) (xs.map (putAt k u)):=by
 induction r with
 | nil=>exact .nil
 | @cons p q ps qs h t ih =>
  rw[BG,BG];refine .cons ?_ ih;obtain⟨h1,h2,h3⟩:=h;unfold putAt;by_cases e:p.1=k
  .rw[p6 e,p6 (h1.symm.trans e)];exact⟨h1,h2,ry⟩
  .rw[pZ e,pZ (λz=>e (h1.trans z))];exact⟨h1,h2,h3⟩
theorem KT.put{xs:List (List Key×Addr×As)}(r:KT H ag xs)(k:List Key)(hb:H b=pX (.tup (k.map kV)))(ry:RelV y u) :
  KT H (putK ag k y) (SE xs k b u):=by
 have e:(ag.any λkv=>decide (kv.1=k))=(IE xs k).isSome:=by
  rw[Fp,(r.val k).isSome_eq,KS]
 unfold putK SE;rw[e];by_cases q:(IE xs k).isSome=true
 .rw[p6 q,p6 q];exact r.repl k ry
 .rw[pZ q,pZ q];exact S9 r ⟨rfl,hb,ry⟩
theorem KT.keeps{xs:List (List Key×Addr×As)}(r:KT H ag xs)(ht:∀b ys,H b=pX (.tup ys)->H' b=pX (.tup ys)):KT H' ag xs :=
 qR r λ_ _ z=>⟨z.1,ht _ _ z.2.1,z.2.2⟩
theorem ADo{u:HO}(ok:HOk P w H h)(e:Rd H a u):ObjOk P w H h a u:=e.ok ok
theorem Od{ag:List (Key×V)}(ok:HOk P w H h)(e:Rd H a (.dK ag)):ag.length<=sizeLine/\(a==DT)=false/\∃vs,KV ag vs/\h.DictOf (Bm P w) a vs :=
 show ObjOk P w H h a (.dK ag) from ADo ok e
theorem ADh{ag:List (Key×V)}(ok:HOk P w H h)(e:H a=pX (.dK ag)):ag.length<=sizeLine/\(a==DT)=false/\∃vs,KV ag vs/\h.DictOf (Bm P w) a vs:=Od ok (.inl e)
theorem Kq{ks:List Key}(ok:HOk P w H h)(e:H a=pX (.tup (ks.map kV))):(MO (Bm P w)).is h ks a:=by
 obtain⟨_,ah,r,o,h1,h2,n,h3⟩:=(ok a _ e);exact⟨o,ah.toArray,n,h1,h2,h3,by simpa using Oe r⟩
theorem Mv(ok:HOk P w H h)(e:Rd H a (.dT ag)):ag.length<=sizeLine/\(a==DT)=false /\
  ∃xs,KT H ag xs/\h.DictOfH (MO (Bm P w)) a xs:=by
 obtain⟨z,y,xs,r,o,es,ep,h1,h2,h3,h4,h5⟩:=(ADo ok e);refine⟨z,y,xs,r,o,es,ep,h1,h2,h3,h4,λx hx=>?_,h5⟩;have all:∀{l:List (List Key×V)}{m:List (List Key×Addr×As)},KT H l m->∀x∈m,(MO (Bm P w)).is h x.1 x.2.1:=by
  intro l m q
  induction q with
  | nil=>intro x hx;exact nomatch hx
  | @cons p q ps qs hq t ih =>
   intro x hx;rcases BF.mp hx with e| hx
   .subst e
    exact Kq ok (by rw[<- hq.1];exact hq.2.1)
   .exact ih x hx
 exact all r x hx
theorem AFT(ok:HOk P w H h)(e:H a=pX (.dT ag)):ag.length<=sizeLine/\(a==DT)=false /\
  ∃xs,KT H ag xs/\h.DictOfH (MO (Bm P w)) a xs:=Mv ok (.inl e)
def DGet(H:Hp)(a:Addr)(y:V)(r:Option V):Prop :=
 (∃ag k,Rd H a (.dK ag)/\y=kV k/\r=valV ag k)\/∃ag k b,Rd H a (.dT ag)/\y=.ref b/\H b=pX (.tup (k.map kV))/\r=valV ag k
def DPut(H:Hp)(a:Addr)(y v:V)(H':Hp):Prop :=
 (∃ag k,H a=pX (.dK ag)/\y=kV k/\ag.length<sizeLine/\H'=upd H a (.dK (putK ag k v))) \/
 ∃ag k b,H a=pX (.dT ag)/\y=.ref b/\H b=pX (.tup (k.map kV))/\ag.length<sizeLine/\H'=upd H a (.dT (putK ag k v))
theorem DGet.k{H:Hp}{a:Addr}{ag:List (Key×V)}{k:Key}(e:H a=pX (.dK ag)):DGet H a (kV k) (valV ag k):=.inl ⟨ag,k,.inl e,rfl,rfl⟩
theorem qW{k:List Key}(e:H a=pX (.dT ag))(eb:H b=pX (.tup (k.map kV))):DGet H a (.ref b) (valV ag k):=.inr ⟨ag,k,b,.inl e,rfl,eb,rfl⟩
section
variable{r:As}{o:Option V}
theorem Inv.big(I:Inv X ae σ H s):DT<s.heap.objs.size:=by
 have h:=(I.mod.glob.keeps I.bk).lt;exact Wp (by decide) h
theorem Yr(hu:A.units+1<Cn)(I:Inv X ae σ H s)(g:DGet H a y (pX v))(ry:RelV y u)(h:∀w' s',Inv X ae σ H s'->RelV v w'->Q w' s') :
  wpAny (AM X.prog X.w) A (NN (.ref a) u) Q E s:=by
 rcases g with⟨ag,k,e,ey,l⟩| ⟨ag,k,b,e,ey,eb,l⟩
 .subst ey
  obtain⟨z,hd,vs,bX,dd⟩:=Od I.hok e;obtain⟨w',hw,dk⟩:=qT (v:=v) (o:=NR vs k) (by rw[l];exact bX.val k);exact wpAny_getItem_of (Nz ry) dd.mapOf hw (h w' _ (I.tok _) dk)
 .subst ey
  cases ry;obtain⟨z,hd,xs,bX,dd⟩:=Mv I.hok e;obtain⟨w',hw,dk⟩:=qT (v:=v) (o:=(IE xs k).map (·.2)) (by rw[l];exact bX.val k);obtain⟨p,hp,iO⟩:=O2.mp hw;refine Sc (Kt hu) (Kq I.hok eb) dd hp ?_;rw[iO];exact h w' _ (I.tok _) dk
theorem AGC(hu:A.units+1<Cn)(I:Inv X ae σ H s)(g:DGet H a y o)(ry:RelV y u)(h:∀s',Inv X ae σ H s'->Q (.bool o.isSome) s') :
  wpAny (AM X.prog X.w) A (DM .In u (.ref a)) Q E s:=by
 rcases g with⟨ag,k,e,ey,l⟩| ⟨ag,k,b,e,ey,eb,l⟩
 .subst ey
  obtain⟨z,hd,vs,bX,dd⟩:=Od I.hok e;refine wpAny_in_of (Nz ry) hd dd.mapOf ?_;rw[<- (bX.val k).isSome_eq,<- l];exact h _ (I.tok _)
 .subst ey
  cases ry;obtain⟨z,hd,xs,bX,dd⟩:=Mv I.hok e;refine wpAny_in_heap (Kt hu) (Kq I.hok eb) hd dd ?_;have q:=(bX.val k).isSome_eq;rw[KS] at q;rw[<- q,<- l];exact h _ (I.tok _)
theorem JX{ob:HO}(I:Inv X ae σ H s)(mu:Mut (H a))(hs:EG a s.heap h')(he:∃q,h'.get? a=pX q)(new:ObjOk X.prog X.w (upd H a ob) h' a ob) :
  Inv X ae σ (upd H a ob) {s with heap:=h',toks:=t'} :=
 I.write (x:=a) (e:=a) mu (.inl rfl) (λb q hb z=>(hs.2 b hb).trans z) he new
theorem ABG{ag:List (Key×V)}{vs:List (Key×As)}(z:ag.length<=sizeLine)(hd:(a==DT)=false)(bX:KV ag vs)(dd:h'.DictOf (Bm P w) a vs) :
  ObjOk P w H' h' a (.dK ag):=⟨z,hd,vs,bX,dd⟩
theorem Xy{Q:qH}(hu:A.units+1<Cn)(I:Inv X ae σ H s)(g:DPut H a y v H')(ry:RelV y u)(rv:RelV v r)(h:∀s',Inv X ae σ H' s'->Q () s') :
  wpAny (AM X.prog X.w) A (U0 (.ref a) u r) Q E s:=by
 rcases g with⟨ag,k,e,ey,l,eH⟩| ⟨ag,k,b,e,ey,eb,l,eH⟩
 .subst ey eH
  obtain⟨z,hd,vs,bX,dd⟩:=ADh I.hok e;have hz:vs.length<=sizeLine:=by rw[<- bX.length];exact z
  have hl:(putK ag k v).length<=sizeLine:=by have:=CJ ag k v;exact t5 this l
  refine wpAny_setItem_pairs (hsz:=hz) (Nz ry) dd λh' ig hs=>h _ ?_;have he:∃q,h'.get? a=pX q:=let ⟨q,_,_,hq,_⟩:=ig;⟨q,hq⟩
  exact JX I (by rw[e];exact G6) hs he (ABG hl hd (bX.put k rv) ig)
 .subst ey eH
  cases ry;obtain⟨z,hd,xs,bX,dd⟩:=AFT I.hok e;have hz:xs.length<=sizeLine:=by rw[<- AT bX];exact z
  have hl:(putK ag k v).length<=sizeLine:=by have:=CJ ag k v;exact t5 this l
  refine Se (hsz:=hz) (Kt hu) (Kq I.hok eb) dd λh' ig hs=>h _ ?_;obtain⟨q,es,ep,hq,h2,h3,h4,_,h5⟩:=ig;refine JX I (by rw[e];exact G6) hs ⟨q,hq⟩ ⟨hl,hd,_,(bX.put k eb rv).keeps λc ys ec=>?_,q,es,ep,hq,h2,h3,h4,h5⟩;rw[Ae (Cj ec e (λz=>nomatch z))];exact ec
end
def NoSl(i:Expr):Prop:=∀ov iv,OY i false ov iv=operate [ov,iv] (NN ov iv)
theorem Xe{env:Env}{bi:Expr}{id:String}
  (hl:typeLookup (.type T) "__getitem__" = pure (pX (.builtin id))) (hs:NoSl bi)
  (h:wpAny (AM prog w) A (eval aI env) (λo s₁=>wpAny (AM prog w) A (eval bi env) (λi s₂=>s₂.TypeIs o T/\wpAny (AM prog w) A (NN o i) Q E s₂) E s₁) E s) :
  wpAny (AM prog w) A (eval (.Subscript aI bi pos) env) Q E s:=by
 refine UA (D2 h (λo s₁ h₁=>D2 h₁ (λi s₂ h₂=>?_) λ_ _ x=>x) λ_ _ x=>x);obtain⟨hT,h₂⟩:=h₂;unfold subscriptTail;refine Ap ?_;rw[getitemInPython_of_ne hT.not_modules];refine Ap (G1 hT hl ?_);have fin:wpAny (AM prog w) A (OY bi false o i) (λr s₃=>wpAny (AM prog w) A (letTemporaryGo aI o r >>= λ_=>pure r) Q E s₃) E s₂:=by
  rw[hs o i];exact wpAny_operating (D2 h₂ (λr s₃ h₃=>Ap (wpAny_letTemporaryGo (AC h₃))) λ_ _ x=>x)
 first
  | exact AC (Ap fin)
  | exact Ap (AC (Ap fin))
  | exact Ap fin
theorem Sy{o:Option V}(I:Inv X ae σ H s)(g:DGet H a y o):s.TypeIs (.ref a) "dict":=by
 rcases g with⟨ag,k,e,_,_⟩| ⟨ag,k,b,e,_,_,_⟩
 .obtain⟨_,_,vs,_,dd⟩:=Od I.hok e
  exact dd.typeIs
 .obtain⟨_,_,xs,_,dd⟩:=Mv I.hok e
  exact dd.typeIs
def AFZ(td ty:TE):TE:=λσ H Q=>td σ H λx H1=>ty σ H1 λy H2=>∃a v,x=.ref a/\DGet H2 a y (pX v)/\Q v H2
def AGK(ty td:TE):TE:=λσ H Q=>ty σ H λy H1=>td σ H1 λx H2=>∃a o,x=.ref a/\DGet H2 a y o/\Q (.bl o.isSome) H2
def AFu(td ty tv:TE):TS:=λD σ H=>tv σ H λv H1=>td σ H1 λx H2=>ty σ H2 λy H3=>∃a H4,x=.ref a/\DPut H3 a y v H4/\D.nx σ H4
section
variable{o i:Expr}{ty:TE}
theorem QX(hu:X.A.units+1<Cn)(ho:PE X o td)(hi:PE X i ty)(hs:NoSl i):PE X (.Subscript o i pos) (AFZ td ty):=by
 intro ae s σ H Q I h;refine Xe NF.lookup hs (thn (ho ae s σ H _ I h) λu s1 ⟨x,H1,I1,rx,q1⟩=>thn (hi ae s1 σ H1 _ I1 q1) λiv s2 ⟨y,H2,I2,ry,a,v,ex,g,q2⟩=>?_);subst ex;obtain rfl:u=AW a:=rx;exact⟨Sy I2 g,Yr hu I2 g ry λw' s3 I3 dk=>⟨v,H2,I3,dk,q2⟩⟩
theorem ABO(hu:X.A.units+1<Cn)(hi:PE X i ty)(ho:PE X o td):PC X .In i o (AGK ty td):=by
 intro ae s σ H Q I h;refine thn (hi ae s σ H _ I h) λiv s1 ⟨y,H1,I1,ry,q1⟩=>thn (ho ae s1 σ H1 _ I1 q1) λu s2 ⟨x,H2,I2,rx,a,ov,ex,g,q2⟩=>?_;subst ex;obtain rfl:u=AW a:=rx;exact AGC hu I2 g ry λs3 I3=>⟨.bl ov.isSome,H2,I3,rfl,q2⟩
theorem Jg(hu:X.A.units+1<Cn)(ho:PE X o td)(hi:PE X i ty)(hv:PE X aI tv)(hs:Lm aI (pX (.Subscript o i a9)) pos.line X.env=pure false) :
  PS X (.Assign [.Subscript o i a9] aI pos) (AFu td ty tv):=by
 intro ae s σ H D I h;refine O3 (thn (hv ae s σ H _ I h) λr s1 ⟨v,H1,I1,rv,q1⟩=>thn (ho ae s1 σ H1 _ I1 q1) λu s2 ⟨x,H2,I2,rx,q2⟩=>thn (hi ae s2 σ H2 _ I2 q2) λiv s3 ⟨y,H3,I3,ry,a,H4,ex,g,q3⟩=>?_) hs;subst ex;obtain rfl:u=AW a:=rx;exact Xy hu I3 g ry rv λs4 I4=>⟨σ,H4,I4,q3⟩
end
theorem AAo(h:Heap)(hb:DT<h.objs.size):ObjOk P w H (h.push {cls:=.type "dict",data:=.dict #[]}) h.objs.size (.dK []) :=
 ⟨BD _,beq_eq_false_iff_ne.mpr (CB (BM hb)),[],.nil,YA h⟩
theorem Zq(h:Heap)(hb:DT<h.objs.size):ObjOk P w H (h.push {cls:=.type "dict",data:=.dict #[]}) h.objs.size (.dT []) :=
 ⟨BD _,beq_eq_false_iff_ne.mpr (CB (BM hb)),[],.nil,_,#[],0,AS _ rfl,⟨rfl,rfl,rfl⟩,rfl,rfl,Po⟩
def AEH:TE:=λ_ H Q=>∀p,H p=none->Q (.ref p) (upd H p (.dT []))
theorem Zf:PE X (.Dict [] [] pos) AEH:=λae s σ H Q I h =>
 wpAny_Dict_empty ⟨.ref s.heap.objs.size,_,I.laid (a:=s.heap.objs.size) (o:=.dT []) (t':=s.toks) (λ_ _ q=>AG _ q) (AH _) (Zq s.heap I.big),rfl,h _ (I.hok.fresh (AH _))⟩
def Vg:List (TE×TE)->St->Hp->(List (V×V)->Hp->Prop)->Prop
 | [],_,H,Q=>Q [] H
 | (tk,tv)::r,σ,H,Q=>tk σ H λx H1=>tv σ H1 λy H2=>Vg r σ H2 λps H3=>Q ((x,y)::ps) H3
abbrev VV:List (V×V)->List (As×As)->Prop:=A7 λp q=>RelV p.1 q.1/\RelV p.2 q.2
def PPs(X:Cx)(pos:Pos)(keys:List (Option Expr))(ci:qN)(i5:List (TE×TE)):Prop :=
 ∀(ae:qJ) (s:AA) (σ:St) (H:Hp) (Q:List (V×V)->Hp->Prop),Inv X ae σ H s->Vg i5 σ H Q ->
  wpAny (AM X.prog X.w) X.A (evalPairs (pairTrees keys ci X.env pos)) (λvs s'=>∃ps H',Inv X ae σ H' s'/\VV ps vs/\Q ps H') X.xe s
theorem Wd:PPs X pos [] [] []:=λae s σ H Q I h=>pairTrees_nil_walk ⟨[],H,I,.nil,h⟩
theorem Kp{k v:Expr}{ks:List (Option Expr)}{vs:qN}{tk:TE}(hk:PE X k tk)(hv:PE X v tv)(hr:PPs X pos ks vs i5) :
  PPs X pos (pX k::ks) (v::vs) ((tk,tv)::i5):=λae s σ H Q I h =>
 pairTrees_cons_walk (thn (hk ae s σ H _ I h) λu s1 ⟨x,H1,I1,rx,q1⟩=>thn (hv ae s1 σ H1 _ I1 q1) λw2 s2 ⟨y,H2,I2,ry,q2⟩ =>
  thn (hr ae s2 σ H2 _ I2 q2) λws s3 ⟨ps,H3,I3,bX,q3⟩=>⟨(x,y)::ps,H3,I3,.cons ⟨rx,ry⟩ bX,q3⟩)
def mergeK(ag more:List (Key×V)):List (Key×V):=more.foldl (λacc kv=>putK acc kv.1 kv.2) ag
theorem KV.merge:∀{more:List (Key×V)}{rs:List (Key×As)}{ag:List (Key×V)}{vs:List (Key×As)},KV more rs->KV ag vs->KV (mergeK ag more) (merged vs rs):=by
 intro more rs ag vs r;unfold KV at r
 induction r generalizing ag vs with
 | nil=>intro q;exact q
 | @cons p q ps qs h t ih =>
  intro r0;have e:KV (putK ag p.1 p.2) (stored vs q.1 q.2):=by
   have:=r0.put p.1 h.2;rw[<- h.1];exact this
  exact ih e
theorem Gp:∀(more ag:List (Key×V)),(mergeK ag more).length<=ag.length+more.length
 | [],ag=>by show ag.length<=ag.length+0;exact qi
 | p::r,ag=>by
  have h1:=Gp r (putK ag p.1 p.2);have h2:=CJ ag p.1 p.2;show(mergeK (putK ag p.1 p.2) r).length<=_;rw[DE];lia
theorem Jt{P:AK}{w:AQ}:∀{ag:List (Key×V)}{ws:List (As×As)},VV (ag.map λkv=>(kV kv.1,kv.2)) ws->∃rs,Carries (Bm P w) ws rs/\KV ag rs
 | [],_,r=>by rw[IX] at r;cases r;exact⟨[],G6,.nil⟩
 | p::ag,_,r=>by
  rw[BG] at r;cases r with
  | @cons a b as bs h t =>
   obtain⟨rs,c,q⟩:=Jt (P:=P) (w:=w) t;obtain⟨b1,b2⟩:=b;exact⟨(p.1,b2)::rs,⟨Nz h.1,rfl,c⟩,.cons ⟨rfl,h.2⟩ q⟩
def AFh(i5:List (TE×TE)):TE:=λσ H Q=>∀p,H p=none->Vg i5 σ (upd H p (.dK [])) λps H2=>H2 p=pX (.dK [])/\∃ag:List (Key×V),ps=ag.map (λkv=>(kV kv.1,kv.2))/\ag.length<=15/\Q (.ref p) (upd H2 p (.dK (mergeK [] ag)))
theorem Xc{keys:List (Option Expr)}{ci:qN}(h:PPs X pos keys ci i5)(bq:keys.all (·.isSome)=true)(hl:keys.length=ci.length)(h0:keys≠[])
  (h15:keys.length<=15):PE X (.Dict keys ci pos) (AFh i5):=by
 intro ae s σ H Q I q;have hn:=I.hok.fresh (AH s.heap.objs.size);have I1:=I.laid (a:=s.heap.objs.size) (o:=.dK []) (h':=s.heap.push {cls:=.type "dict",data:=.dict #[]}) (t':=s.toks) (λ_ _ q=>AG _ q) (AH _) (AAo s.heap I.big);refine wpAny_Dict_walk (knd:=Bm X.prog X.w) bq hl h0 h15 (thn (h ae _ σ _ _ I1 (q _ hn)) λws s2 ⟨ps,H2,I2,bX,e,ag,ep,lk,q2⟩=>?_);subst ep;obtain⟨rs,c,rk⟩:=Jt (P:=X.prog) (w:=X.w) bX;obtain⟨z,hd,vs0,r0,dd⟩:=ADh I2.hok e;cases r0;refine⟨rs,c,dd,λh' ig hs=>⟨.ref s.heap.objs.size,_,?_,rfl,q2⟩⟩;have hz:(mergeK [] ag).length<=sizeLine:=by
  have h1:=Gp ag [];rw[ID] at h1;rw[EQ];lia
 have he:∃q,h'.get? s.heap.objs.size=pX q:=let ⟨q,_,_,hq,_⟩:=ig;⟨q,hq⟩
 exact JX I2 (by rw[e];exact G6) hs he (ABG hz hd (rk.merge .nil) ig)
structure M2(X:Cx)(o:Expr)(m:Str)(bv:Pos)(e f:Expr)(br:Pos):Prop where
 base:M3 o m X.env (eval o X.env)=eval o X.env
 few:((IU br (Cs [e,f] X.env)).all (λx=>!x.1)&&(TD br (OV [] X.env)).all (λx=>x.1.isSome)
  && decide (([e,f]:qN).length+([]:List U3).length+(if([]:List U3).isEmpty then 0 else 1)<30))=true
 line:(bv.endLine==br.line)=true
 trees:IU br (Cs [e,f] X.env)=[(false,eval e X.env),(false,eval f X.env)]
def IsD(H:Hp)(a:Addr):Prop:=(∃ag,Rd H a (.dK ag))\/∃ag,Rd H a (.dT ag)
theorem AEg(I:Inv X ae σ H s)(d:IsD H a) :
  s.TypeIs (.ref a) "dict"/\(∀b,AW a=.ref b->∃ob,s.heap.get? b=pX ob/\ob.dict=pY)/\(a==DT)=false:=by
 rcases d with⟨ag,e⟩| ⟨ag,e⟩
 .obtain⟨_,hd,vs,_,dd⟩:=Od I.hok e
  refine⟨dd.typeIs,λb q=>?_,hd⟩;cases q;obtain⟨ob,_,_,h1,h2,_⟩:=dd;exact⟨ob,h1,h2.2.1⟩
 .obtain⟨_,hd,xs,_,dd⟩:=Mv I.hok e
  refine⟨dd.typeIs,λb q=>?_,hd⟩;cases q;obtain⟨ob,_,_,h1,h2,_⟩:=dd;exact⟨ob,h1,h2.2.1⟩
section
variable{d:V}{r:As}{o:Option V}
theorem AEp(hu:A.units+1<Cn)(I:Inv X ae σ H s)(g:DGet H a y o)(ry:RelV y u)(rd:RelV d r)(h:∀w' s',Inv X ae σ H s'->RelV (o.getD d) w'->Q w' s') :
  wpAny (AM X.prog X.w) A (call (.builtin "dict.get") [.ref a,u,r]) Q E s:=by
 rcases g with⟨ag,k,e,ey,l⟩| ⟨ag,k,b,e,ey,eb,l⟩
 .subst ey
  obtain⟨z,hd,vs,bX,dd⟩:=Od I.hok e;refine Sf LD dd.typeIs O4 (OB _ _ _) (meets_dict_get_default (Bm X.prog X.w) a (Nz ry) hd r) ⟨_,dd.mapOf,h _ _ (I.tok _) ?_⟩;rw[l];exact(bX.val k).getD rd
 .subst ey
  cases ry;obtain⟨z,hd,xs,bX,dd⟩:=Mv I.hok e;refine Sf LD dd.typeIs O4 (OB _ _ _) (meetsH_dict_get_default (MO (Bm X.prog X.w)) a b hd r) ⟨Kt hu,k,xs,Kq I.hok eb,dd,h _ _ (I.tok _) ?_⟩;rw[l];exact(bX.val k).getD rd
end
def AEh(td ty tx:TE):TE:=λσ H Q=>td σ H λx H1=>∃a,x=.ref a/\IsD H1 a/\ty σ H1 λy H2=>tx σ H2 λz H3=>∃o,DGet H3 a y o/\Q (o.getD z) H3
section
variable{o f:Expr}{ty tx:TE}
theorem AAd(hu:X.A.units+1<Cn)(ho:PE X o td)(he:PE X e ty)(hf:PE X f tx)(m:M2 X o "get" bv e f br):PE X (.Call (.Attribute o "get" bv) [e,f] [] br) (AEh td ty tx):=by
 intro ae s σ H Q I h;refine wpAny_Call_method m.base m.few m.line PySem.F.plainAttrs_dict LD PySem.F.type_dict_get (thn (ho ae s σ H _ I h) λu s1 ⟨x,H1,I1,rx,a,ex,d,q1⟩=>?_);subst ex;obtain rfl:u=AW a:=rx;obtain⟨t1,t2,_⟩:=AEg I1 d;refine⟨t1,t2,?_⟩;rw[m.trees];refine O0 rfl (P9 (IC (thn (he ae s1 σ H1 _ I1 q1) λiv s2 ⟨y,H2,I2,ry,q2⟩ =>
  IC (thn (hf ae s2 σ H2 _ I2 q2) λfv s3 ⟨z,H3,I3,rz,ov,g,q3⟩=>KL ?_))))
 exact AEp hu I3 g ry rz λw' s4 I4 dk=>⟨_,H3,I4,dk,q3⟩
end
end L2
namespace L2
open PySem PySem.Spec PyProof.Rows
open Sem (wp)
theorem Yp{es:Array MU}(hd:(d==DT)=false)(hT:s.TypeIs (.ref d) "dict")(ho:s.heap.get? d=pX o)(fk:o.data=.dict es ep)
  (hQ:Q (.ref s.heap.objs.size) {s with heap:=s.heap.push {cls:=.type "dict_keyiterator",data:=.fields #[.ref d,.int 0 0,.int es.size 0,.int ep 0]}}) :
  wpAny (AM prog w) A (O8 (.ref d)) Q E s:=by
 refine Nw hT TN (Da TN hT F.entry_dict_iter ?_ (F.args_dict_iter_1 _));unfold Builtin.«dict.__iter__»;refine Ap ?_;unfold Wl;refine Ap (wpAny_notOrdered_dict hT ?_);refine AC ?_;show wpAny _ _ (Pp d >>= _) _ _ s;unfold Pp;rw[pZ (by rw[hd];exact BB)];refine Ap (AC ?_);refine Ap (KU ho fk ?_);refine Ap (OL ho fk ?_);refine Ap (De (AC ⟨_,rfl, "dict_keyiterator",_,⟨_,AS _ rfl,rfl⟩,ET.lookup,?_⟩));simpa [FY] using hQ
theorem ABN{es:Array MU}{od:Obj}{Q:Option As->AA->Prop}(bp:s.heap.IsKeyIter it d i es.size ep)
  (pI:s.heap.get? d=pX od) (ot:od.data=.dict es ep) (hlt':i<es.size)
  (hQ:∀h',h'.IsKeyIter it d (i+1) es.size ep->EG it s.heap h'->Q (pX es[i].key) {s with heap:=h'}) :
  wpAny (AM prog w) A (K2 (.ref it)) Q E s:=by
 obtain⟨o,ho,hc,hd⟩:=id bp;unfold K2;refine Ap (M5 (wpAny_callSpecial?_slot (name:=IY "__next__") bp.typeIs ET
  (Da ET bp.typeIs Mc ?_ (LV _))))
 refine Ap (AC ?_);refine Ap ?_;refine Ap ?_
 first| refine Ap (FV bp.typeIs (AC ?_))| refine Ap (Hm bp.typeIs (AC ?_))
 refine Ap (Ps ho hd ?_);have hown:ME "dict_keyiterator" = false:=by decide
 show wpAny _ _ (if(AW d==CY)=true then _ else _) _ _ s;rw[pZ (show ¬ ((AW d==CY)=true) from BB)];refine Ap (AC ?_);refine Ap (KU pI ot ?_);rw[pZ (by simp)];refine Ap (AC ?_);refine Ap (OL pI ot ?_);rw[pZ (by simp)];refine AC ?_;simp only[show ¬ ((i:Int)<0) from rQ,if_false,CH,A9 hlt'];refine Ap ?_
 first| refine Ap (FV bp.typeIs (AC ?_))| refine Ap (Hm bp.typeIs (AC ?_))
 refine Ap (Pt bp.typeIs ?_);show wpAny _ _ (setField (.ref it) 1 (FY ((i:Int)+1)) >>= _) _ _ s;refine Ap (He ho hd (by simp) ?_);have e9:(s.heap.update it (M6 (·.setIfInBounds 1 (FY ((i:Int)+1))))).IsKeyIter it d (i+1) es.size ep :=
  ⟨_,D6 _ ho (Jn (EM hd _)),(KP ..).trans hc,by rw[EM hd];simp[FY]⟩
 refine Ap (DC ?_);refine Ap (Pt (s:={s with heap:=s.heap.update it (M6 (·.setIfInBounds 1 (FY ((i:Int)+1))))}) e9.typeIs ?_);exact AC (AC ⟨_,rfl,AC (hQ _ e9 (DH ..))⟩)
theorem ZD{es:Array MU}{od:Obj}{Q:Option As->AA->Prop}(hh:A.handled=pY)(bp:s.heap.IsKeyIter it d i es.size ep)
  (pI:s.heap.get? d=pX od) (ot:od.data=.dict es ep) (nq:es.size<=i)
  (hQ:∀h',S6 it s.heap h'->Q pY {s with heap:=h'}):wpAny (AM prog w) A (K2 (.ref it)) Q E s:=by
 obtain⟨o,ho,hc,hd⟩:=id bp;unfold K2;refine Ap (M5 (wpAny_callSpecial?_slot (name:=IY "__next__") bp.typeIs ET
  (Da ET bp.typeIs Mc ?_ (LV _))))
 refine Ap (AC ?_);refine Ap ?_;refine Ap ?_
 first| refine Ap (FV bp.typeIs (AC ?_))| refine Ap (Hm bp.typeIs (AC ?_))
 refine Ap (Ps ho hd ?_);have hown:ME "dict_keyiterator" = false:=by decide
 show wpAny _ _ (if(AW d==CY)=true then _ else _) _ _ s;rw[pZ (show ¬ ((AW d==CY)=true) from BB)];refine Ap (AC ?_);refine Ap (KU pI ot ?_);rw[pZ (by simp)];refine Ap (AC ?_);refine Ap (OL pI ot ?_);rw[pZ (by simp)];refine AC ?_;simp only[show ¬ ((i:Int)<0) from rQ,if_false,CH,F9 nq];refine Ap ?_
 first| refine Ap (FV bp.typeIs (AC ?_))| refine Ap (Hm bp.typeIs (AC ?_))
 show wpAny _ _ (setField (.ref it) 0 .none >>= _) _ _ s;refine Ap (He ho hd (by simp) ?_);refine Ap ?_;refine Ap (De ?_ (by size_fits));refine Ap (m:=JA _ _) (K5 (a:=CY) (by first| rfl| (simp only[JA];rfl)) ?_);refine De ?_ (by size_fits);refine Ap (QY ?_);rw[show A.in1.handled=pY from hh];refine Ap (AC (S7 ?_));refine Ap (Hn (T:="StopIteration") (b:=true) ⟨_,AS _ rfl,rfl⟩ U4 ?_);exact AC (hQ _ (((DH ..).extBut.push _).push _))
end L2
namespace L2
open PySem PySem.Spec PyProof.Rows
section
variable{es:Array MU}
theorem Ub(hh:A.handled=pY)(I:Addr)(df:d≠I)(hd:o.data=.dict es ep) :
  Walks prog w A I [I,d] [I] es.size (λi v=>∃e,es[i]?=pX e/\v=e.key) (λi h=>h.IsKeyIter I d i es.size ep/\h.get? d=pX o) where
 sub:=λb hb=>by simp at hb;simp[hb]
 frame:=λ_ _ _ st hk=>⟨st.1.at λo e=>hk I (by simp) o e,hk d (by simp) o st.2⟩
 item:=λi s Q E hi st hQ=>by
  refine ABN st.1 st.2 hd hi λh' e9 kD=>?_;exact hQ _ h' s.toks ⟨es[i],by simp[hi],rfl⟩ ⟨e9,kD.extBut d o df st.2⟩ λb o hb e=>kD.extBut b o (λh=>hb (by simp[h])) e
 done:=λs Q E st hQ=>ZD hh st.1 st.2 hd (AH _) λh' he'=>hQ h' s.toks λb o hb e=>he' b o (λh=>hb (by simp[h])) e
 self:=λ_ _ _ _ st hQ=>wpAny_pyIter_keyiter st.1 hQ
theorem AAS(lo:(d==DT)=false)(hx:o.ExactDict)(hd:o.data=.dict es ep) :
  PySem.W.KdlSrc prog w "dict" d d es.size (λi v=>∃e,es[i]?=pX e/\v=e.key) (λh=>h.get? d=pX o) where
 type:=λ_ hm=>⟨o,hm,hx.1⟩
 there:=λ_ hm=>⟨Be hm,Be hm⟩
 keep:=λ_ _ hm hk=>hk d (.inl rfl) o hm
 notList:=by decide
 notTuple:=by decide
 hint:=λ_ _ _ _ hm hq=>PySem.W.kdl_hint_dict ⟨o,hm,hx.1⟩ hq
 iter:=λ_ _ hh hm=>⟨_,_,(λ_ _ hq=>Yp lo ⟨o,hm,hx.1⟩ hm hd hq),Ub hh _ (BM (Be hm)) hd,⟨⟨_,AS _ rfl,rfl,rfl⟩,AG _ hm⟩⟩
end
def KeyL(H:Hp):List (List Key×V)->List V->Prop:=A7 λkv y=>∃b,y=.ref b/\H b=pX (.tup (kv.1.map kV))
theorem XH{H:Hp}:∀{ag:List (List Key×V)}{xs:List (List Key×Addr×As)},KT H ag xs->KeyL H ag (xs.map λx=>.ref x.2.1)
 | _,_,.nil=>.nil
 | _,_,.cons h t=>.cons ⟨_,rfl,h.2.1⟩ (XH t)
theorem PJ(hc:X.calm=true):CallR X (.type "list") (λxs H Q=>∃p ag,xs=[.ref p]/\H p=pX (.dT ag)/\∀l ys,H l=none->KeyL H ag ys->Q (.ref l) (upd H l (.lst ys))):=by
 intro ae s σ H xs us Q I rr h;obtain⟨p,ag,rfl,hp,q⟩:=h;obtain⟨u,rfl,ru⟩:=rr.one;cases ru;obtain⟨z,lo,ts,kt,o,es,ep,h1,h2,h3,h4,h5⟩:=(I.hok p _ hp);have hl:es.size=ag.length:=by
  rw[<- AZ,h4,AB];exact(AT kt).symm
 refine PySem.W.kdl_call (AAS lo h2 h3) (I.ok.hd hc) h1 (by rw[hl];exact z) λh' tk av c' hk hS aS=>?_;have hn:=I.hok.fresh (AH _);refine⟨.ref s.heap.objs.size,_,I.laid (a:=s.heap.objs.size) (o:=.lst (ts.map λx=>V.ref x.2.1)) (t':=tk) hk (AH _) ⟨?_,av.toList,c',?_,?_⟩,rfl,q _ _ hn (XH kt)⟩
 .rw[AB,<- AT kt];exact z
 .refine Px (by rw[AB];exact(AT kt).symm.trans (hl.symm.trans (aS.1.symm.trans (AZ).symm))) λi x u e1 e2=>?_
  have e2':av[i]?=pX u:=by simpa using e2
  obtain⟨e,e3,rfl⟩:=aS.2 i u e2';rw[<- BY,h4,Bi] at e3;rw[Bi] at e1;cases g:ts[i]? with
  | none=>rw[g] at e1;cases e1
  | some t =>
   rw[g] at e1 e3;cases e1;cases e3;rfl
 .simpa using hS
theorem Kz:∀ns:qC,HT.lexLt ns ns=false
 | []=>rfl
 | x::xs=>by rw[HT.Bs,p6 rfl];exact Kz xs
def rAddT(K:Au):R2:=λx y H Q=>∃a b xs ys,x=.ref a/\y=.ref b/\SqT K H a xs/\SqT K H b ys/\xs.length+ys.length<=sizeLine /\
 (xs=[]->Q (.ref b) H)/\(xs≠[]->ys=[]->Q (.ref a) H)/\(xs≠[]->ys≠[]->∀p,H p=none->Q (.ref p) (upd H p (.tup (xs++ys))))
theorem ABw:OpR X (G2 .Add) (rAddT X.K):=by
 intro ae s σ H x y v u Q I rx ry h;obtain⟨a,b,xs,ys,rfl,rfl,ha,hb,hz,q0,q1,q2⟩:=h;by_cases e:xs=[]
 .cases rx;cases ry
  obtain⟨ah,r1,p1,_⟩:=I.tuple ha;obtain⟨cv,r2,p2,_⟩:=I.tuple hb;subst e;cases r1;obtain⟨⟨cls,dd,data,sl⟩,ho,hc,n,hd⟩:=id p1;obtain⟨⟨iL,f',We,gg⟩,dQ,eJ,n2,eI⟩:=id p2;simp only at hc hd eJ eI;subst hc hd eJ eI;exact N0 ⟨_,ho,rfl⟩ ⟨_,dQ,rfl⟩ N1 QU K4 KG (Kk _ _)
   (tuple_addW0 a b #[] cv.toArray n n2 dd f' sl gg rfl) ⟨ho,dQ,⟨.ref b,H,I,rfl,q0 rfl⟩⟩
 .exact ADQ ae s σ H _ _ v u Q I rx ry ⟨a,b,xs,ys,rfl,rfl,ha,hb,e,hz,q1 e,q2 e⟩
end L2
namespace L2
open PySem PySem.Spec PyProof.Rows
open AutoSeq1 (wpAny_loadPart')
theorem Lx{Q:List As->AA->Prop}{r:Addr}{a b c:Int}{t u v:Tok}(hh:A.handled=pY)(hr:IsRange s.heap r a b c t u v)(dE:J7 a b c=true)
  (hn:EU a b c=n) (aT:n<=2 ^ 24)
  (hQ:∀h' tk acc,(∀b o,s.heap.get? b=pX o->h'.get? b=pX o)->ItemsOf (λi v=>∃t,v=.int (a+i*c) t) acc n->Q acc.toList {s with heap:=h',toks:=tk}) :
  wpAny (AM prog w) A (Pf (.ref r)) Q E s:=by
 unfold Pf;refine Ap (MD (DU MX ?_));rw[DV MY _];refine Ap (De ?_);refine AC ⟨Iy HU _,DU OC ?_⟩;rw[DV HU _];have hS:(s.heap.push {cls:=.type "list",data:=.seq ([]:List As).toArray}).get? s.heap.objs.size=pX {cls:=.type "list",data:=.seq #[] 0}:=AS _ rfl;have gL:∀(h':Heap) (tk:Nat) (av:Array As) (c':Nat),(∀b o,b≠s.heap.objs.size->(s.heap.push {cls:=.type "list",data:=.seq ([]:List As).toArray}).get? b=pX o->h'.get? b=pX o)->h'.get? s.heap.objs.size=pX {cls:=.type "list",dict:=pY,data:=.seq av c',slots:=#[]} ->
   ItemsOf (λi v=>∃t,v=.int (a+i*c) t) av n->wpAny (AM prog w) A (match AW s.heap.objs.size with
   | AW a=>do
    match (<- load a).data with
     | Data.seq xs _=>pure xs.toList
     | _=>unsupported "internal:collect"
   | _=>unsupported "internal:collect") Q E {s with heap:=h',toks:=tk}:=λh' tk av c' hk c5 aS=>by
  refine Ap (P4 c5 ?_);refine AC ?_;exact hQ h' tk av (λb o e=>hk b o (BM (Be e)) (AG _ e)) aS
 refine D2 (wpAny_extend_range (A:=A) (R:=λr s'=>∃h' tk av c',r=.ok (.ret (.ref s.heap.objs.size))/\s'={s with heap:=h',toks:=tk}/\(∀b o,b≠s.heap.objs.size->(s.heap.push {cls:=.type "list",data:=.seq ([]:List As).toArray}).get? b=pX o->h'.get? b=pX o)/\h'.get? s.heap.objs.size=pX {cls:=.type "list",dict:=pY,data:=.seq av c',slots:=#[]}/\ItemsOf (λi v=>∃t,v=.int (a+i*c) t) av n)
  (s:={s with heap:=s.heap.push {cls:=.type "list",data:=.seq ([]:List As).toArray}}) hh (AG _ hr) dE hn aT s.heap.objs.size (.ref s.heap.objs.size) 0 hS λh' tk av c' hk c5 aS=>⟨h',tk,av,c',rfl,rfl,hk,c5,aS⟩) (λfin s' h=>?_) (λe s' h=>?_)
 .cases fin with
  | done f =>
   obtain⟨h',tk,av,c',e,rfl,hk,c5,aS⟩:=h;cases e;exact gL h' tk av c' hk c5 aS
  | again c'=>exact⟨h.1,E7 h.2 λr pP hr=>by obtain⟨h',tk,av,c',rfl,rfl,hk,c5,aS⟩:=hr;exact gL h' tk av c' hk c5 aS⟩
 .obtain⟨_,_,_,_,e,_⟩:=h
  cases e
theorem meets_tuple_range(r:Addr)(a b c:Int)(t u v:Tok)(n:Nat)(dE:J7 a b c=true)(hn:EU a b c=n)(aT:n<=1000) :
  Meets (Builtin.«tuple.__new__» ⟨[.type "tuple",.ref r],[]⟩)
   (λA R s=>A.handled=pY/\IsRange s.heap r a b c t u v/\∀(h':Heap) (tk:Nat) (acc:Array As),(∀b o',s.heap.get? b=pX o'->h'.get? b=pX o')->ItemsOf (λi v=>∃t,v=.int (a+i*c) t) acc n ->
    R (.ok (.ret (.ref h'.objs.size))) {s with heap:=h'.push {cls:=.type "tuple",data:=.seq acc},toks:=tk}) :=
 .of_wp λprog w A R s h=>by
  obtain⟨hp,g,d,tk,os⟩:=s;obtain⟨hh,ht,h⟩:=h;have kS:=sub_tuple_self;have hinit:=init_tuple_lookup;have hmh:=madeHere_tuple;have hT:VU ⟨hp,g,d,tk,os⟩ (.ref r) "range":=⟨_,ht,rfl⟩
  wp_walk using wpAny_loadPart' ht,LP hT,Lx (A:=A.in1) hh ht dE hn (by lia)
  intro h' tk' acc hk aS;show wpAny _ _ (N5 acc.toList.toArray >>= λv=>ret v) _ _ _;unfold N5;refine Ap (De ?_ (by show acc.toList.toArray.size<=sizeLine;rw[Qr,aS.1];exact small aT));refine AC ⟨_,rfl,?_⟩;have e:acc.toList.toArray=acc:=by simp
  rw[e];exact h h' tk' acc hk aS
theorem Fj(hc:X.calm=true):CallR X (.type "tuple") (λxs H Q=>∃r j,xs=[.ref r]/\H r=pX (.rng 0 j)/\0<=j/\j<=1000/\∀l,H l=none->Q (.ref l) (upd H l (.tup ((below j.toNat).map V.int)))):=by
 intro ae s σ H xs us Q I rr h;obtain⟨r,j,rfl,hr,j0,j1,q⟩:=h;obtain⟨u,rfl,ru⟩:=rr.one;cases ru;obtain⟨t1,t2,t3,e⟩:=I.hok r _ hr;refine callType_new PySem.F.called_tuple (by decide) (PySem.F.typeCall_tuple_1 _) (PySem.F.newCall_tuple_1 _) (λobj=>PySem.F.args_object_init_2 obj _) PySem.F.entry_tuple_new
  (meets_tuple_range r 0 j 1 t1 t2 t3 j.toNat (small_one (by lia) (by lia) (by lia) (by lia)) (by rw[rangeSize_one];split<;>lia) (uV j1)) ⟨I.ok.hd hc,e,λh' tk acc hk aS=>⟨⟨_,AS _ rfl,rfl⟩,?_⟩⟩
 have I1:Inv X ae σ H {s with heap:=h',toks:=tk}:=I.kept hk;have hn:=I1.hok.fresh (AH _);refine⟨.ref h'.objs.size,_,I1.laid (a:=h'.objs.size) (o:=.tup ((below j.toNat).map V.int)) (t':=tk) (λb o e=>AG _ e) (AH _) ⟨?_,acc.toList,?_,⟨_,AS _ rfl,rfl,0,by simp⟩⟩,rfl,q _ hn⟩
 .rw[AB,AB,B0]
  exact small (uV j1)
 .refine Px (by simp[aS.1]) λi x u h1 h2=>?_
  have k8:acc[i]?=pX u:=by simpa using h2
  obtain⟨t,rfl⟩:=aS.2 i u k8;have hi:i<j.toNat:=by
   have:=(C2.mp k8).1;rw[aS.1] at this;exact this
  rw[Bi,Bi,F3 hi] at h1;have ex:=(A8 h1).symm;subst ex;exact⟨t,by rw[XB,WA]⟩
end L2
namespace ST
open PySem PySem.SetTable
theorem Bb:∀{l₁ l₂:qE},l₁.Nodup->(∀x∈l₁,x∈l₂)->l₁.length<=l₂.length
 | [],_,_,_=>BD _
 | a::t,l₂,nd,hs=>by
  obtain⟨n1,n2⟩:=Ex.mp nd;have ha:=hs a AI;have hl:=HE ha;have ih:=Bb (l₂:=l₂.erase a) n2 λx hx=>(J0 (λ(e:x=a)=>n1 (by rw[<- e];exact hx))).mpr (hs x (AJ _ hx));have:0<l₂.length:=K6 ha;simp;exact ug ih hl this
end ST
namespace ST
open PySem PySem.W PyProof.Rows
theorem Ii:∀{x y:qC},HT.lexLt x y=true->HT.lexLt y x=false
 | [],[],h=>by cases h
 | [],_::_,_=>rfl
 | _::_,[],h=>by cases h
 | a::x,b::y,h=>by
  rw[HT.Bs] at h ⊢;by_cases c:a=b
  .rw[p6 c] at h
   rw[p6 c.symm];exact Ii h
  .rw[pZ c] at h
   rw[pZ (CB c)];have:=qA h;exact p8 (tU this)
end ST
namespace L2
open PySem PySem.Spec PyProof.Rows
theorem Qw{prog:AK}{w:AQ}:∀{ns:qC}{us:List As},Vals (ns.map V.int) us->ItemsAre (KA prog w) ns us
 | [],_,.nil=>.nil
 | n::ns,_,.cons ⟨t,e⟩ r=>by
  subst e;exact .cons (intKind_is prog w n t) (Qw r)
end L2
namespace SI
open PySem PySem.SetTable ST PyProof.Rows
section
variable{es:Array (Int×As)}{t:CS}{ks:qC}
def Added(ks:qC)(k:Int)(bu:qC):Prop:=(k∈ks/\bu=ks)\/(k∉ks/\bu.Perm (k::ks))
end
end SI
namespace NK
open PySem
section
variable{κ:Type}[DecidableEq κ](kd:KeyKind P w κ)
def IsP(g:Heap)(p:κ×List κ)(x:Addr):Prop:=∃ob ah c v b,g.get? x=pX ob/\ob.cls=.type "tuple"/\ob.data=.seq ah c/\ah.toList=[v,.ref b]/\kd.is p.1 v=true/\UF kd g p.2 b
def hashP(p:κ×List κ):Int:=QI (J8 [kd.hash p.1,LW kd p.2])
variable{kd}
theorem IsP.ty{p:κ×List κ}{x:Addr}(h:IsP kd s.heap p x):s.TypeIs (.ref x) "tuple":=by
 obtain⟨ob,_,_,_,_,e,c,_⟩:=h;exact⟨ob,e,c⟩
theorem IsP.one{g:Heap}{p q:κ×List κ}{x:Addr}(h:IsP kd g p x)(h':IsP kd g q x):p=q:=by
 obtain⟨ob,ah,c,v,b,e,_,d,l,k,t⟩:=h;obtain⟨ob',its',c',v',b',e',_,d',l',k',t'⟩:=h';obtain rfl:ob=ob':=A8 (e.symm.trans e');rw[d] at d';obtain⟨rfl,rfl⟩:ah=its'/\c=c':=by cases d';exact⟨rfl,rfl⟩
 rw[l] at l';injection l' with z1 z2
 injection z2 with z2 _
 injection z2 with z2
 subst z1;subst z2;exact QN (kd.inj _ _ _ k k') (t.inj t')
theorem IsP.stays{g g':Heap}{p:κ×List κ}{x y:Addr}{es ep}(h:IsP kd g p x)(e:g.get? y=pX ob)(d:ob.data=.dict es ep)(sb:EG y g g'):IsP kd g' p x:=by
 obtain⟨o1,ah,c,v,b,e1,c1,d1,l,k,t⟩:=h;have ne:x≠y:=λz=>by
  rw[z,e] at e1;cases e1;rw[d] at d1;cases d1
 exact⟨o1,ah,c,v,b,(sb.2 x ne).trans e1,c1,d1,l,k,t.keeps e d sb⟩
theorem ZF{p:κ×List κ}{x:Addr}{R:Int->AA->Prop}(hu:A.units+1<Cn)(h:IsP kd s.heap p x)(q:R (hashP kd p) {s with toks:=s.toks+(p.2.length+3)}):wpAny (AM P w) A (pyHash (.ref x)) R E s:=by
 have ty:=h.ty;obtain⟨ob,ah,c,v,b,e,_,d,l,k,t⟩:=h;unfold pyHash
 first| unfold pyHashByItsType| skip
 first| refine Ap (wpAny_cRoomFor_or (.inr (qg hu)) ?_)| skip
 refine Ap (G1 ty HV.lookup ?_);show wpAny _ _ (if(pX (Value.builtin "tuple.__hash__")==pX CY)=true then _ else _) _ _ _;rw[pZ (by rw[TR];exact BB)];refine Ap (G1 ty HV.lookup ?_);show wpAny _ _ (callSpecialIfBoundUnlessNone? (.ref x) "__hash__" _ >>= _) _ _ _;refine Ap (wpAny_callSpecialIfBoundUnlessNone?_slot ty HV (Da HV ty PySem.F.entry_tuple_hash ?_ (PySem.F.args_tuple_hash_1 _)));show wpAny _ _ (VW (.ref x) >>= _) _ _ _;refine Ap (MZ e d (Ap ?_));rw[<- IF,l];refine Fa _ (λrest (z:Array Int) s'=>(rest=[v,.ref b]/\z=#[]/\s'=s)\/(rest=[.ref b]/\z=#[kd.hash p.1]/\s'={s with toks:=s.toks+1})\/(rest=[]/\z=#[kd.hash p.1,LW kd p.2]/\s'={s with toks:=s.toks+1+(p.2.length+1)}))
  _ ?_ ?_ _ _ (.inl ⟨rfl,rfl,rfl⟩)
 .rintro y rest z s' (⟨er,rfl,rfl⟩| ⟨er,rfl,rfl⟩| ⟨er,_⟩)
  .cases er
   refine Ap (kd.pyHash k ?_)
   first
    | exact AC (.inr (.inl ⟨rfl,rfl,rfl⟩))
    | exact Ap (AC (AC (.inr (.inl ⟨rfl,rfl,rfl⟩))))
  .cases er
   refine Ap (Si (by show A.units+1<Cn;exact hu) t ?_)
   first
    | exact AC (.inr (.inr ⟨rfl,rfl,rfl⟩))
    | exact Ap (AC (AC (.inr (.inr ⟨rfl,rfl,rfl⟩))))
  .cases er
 .rintro z s' (⟨er,_⟩| ⟨er,_⟩| ⟨_,rfl,rfl⟩)
  .cases er
  .cases er
  .have et:{s with toks:=s.toks+1+(p.2.length+1)+1}={s with toks:=s.toks+(p.2.length+3)}:=by
    congr 1
    lia
   show wpAny _ _ (retInt (J8 [kd.hash p.1,LW kd p.2])) _ _ _;refine UH ?_;unfold hashP QI at q;generalize J8 [kd.hash p.1,LW kd p.2]=hv at q;show wpAny _ _ (if(decide (-(2:Int) ^ 63<=hv)&&decide (hv<2 ^ 63))=true then _ else _) _ _ _;by_cases c0:(decide (-(2:Int) ^ 63<=hv)&&decide (hv<2 ^ 63))=true
   .rw[p6 c0] at q ⊢
    refine AC ?_;rw[<- et] at q;exact q
   .rw[pZ c0] at q ⊢
    refine Ap (G8 (AC ?_));rw[<- et] at q;exact q
theorem ACm{p q:κ×List κ}{x y:Addr}{R:Fin->AA->Prop}(hu:A.units<Cn)(h:IsP kd s.heap p x)(h':IsP kd s.heap q y)(r:R (.done (.ret (.bool (decide (p=q))))) s) :
  wpAny (AM P w) A (Builtin.«tuple.__eq__» ⟨[.ref x,.ref y],[]⟩) R E s:=by
 have ty:=h'.ty;obtain⟨o1,i1,c1,v1,b1,e1,_,d1,l1,k1,t1⟩:=h;obtain⟨o2,i2,c2,v2,b2,e2,_,d2,l2,k2,t2⟩:=h';show wpAny _ _ (QE (.ref y) (.type "tuple") >>= _) _ _ _;refine Ap (Hn ty LF ?_);simp only[E8,BU,if_false];refine Ap (MZ e1 d1 (Ap (MZ e2 d2 (Ap ?_))));have sz:(i1.size==i2.size)=true:=by
  have z1:i1.size=2:=by rw[<- AZ,l1];rfl
  have z2:i2.size=2:=by rw[<- AZ,l2];rfl
  rw[z1,z2];rfl
 rw[l1,l2];refine Fa _ (λrest z s'=>z.1=pY/\s'=s/\(rest=[(v1,v2),(.ref b1,.ref b2)]\/(rest=[(.ref b1,.ref b2)]/\p.1=q.1)\/(rest=[]/\p=q))) _ ?_ ?_ _ _ ⟨rfl,rfl,.inl rfl⟩
 .rintro⟨u,v⟩ rest z s' ⟨hz,rfl,er| ⟨er,pq⟩| ⟨er,_⟩⟩
  .cases er
   refine Ap (kd.eqBool (a:=p.1) (b:=q.1) k1 k2 ?_);by_cases c:p.1=q.1
   .rw[p7 c]
    simp only[E8,BU,if_false];exact AC ⟨rfl,rfl,.inr (.inl ⟨trivial,c⟩)⟩
   .rw[p8 c]
    simp only[U5,if_true];rw[p8 (λz=>c (by rw[z]))] at r;exact Ap (AC (AC (AC r)))
  .cases er
   refine Ap (Sj hu t1 t2 ?_);by_cases c:p.2=q.2
   .rw[p7 c]
    simp only[E8,BU,if_false];exact AC ⟨rfl,rfl,.inr (.inr ⟨trivial,QN pq c⟩)⟩
   .rw[p8 c]
    simp only[U5,if_true];rw[p8 (λz=>c (by rw[z]))] at r;exact Ap (AC (AC (AC r)))
  .cases er
 .rintro⟨z1,z2⟩ s' ⟨hz,rfl,er| ⟨er,_⟩| ⟨_,pq⟩⟩
  .cases er
  .cases er
  .dsimp only at hz
   subst hz;refine AC ?_;rw[p7 pq] at r;show R (.done (.ret (.bool (i1.size==i2.size)))) s';rw[sz];exact r
theorem ACN{p q:κ×List κ}{x y:Addr}{R:qG}(hu:A.units+1<Cn)(h:IsP kd s.heap p x)(h':IsP kd s.heap q y)(r:R (decide (p=q)) s):wpAny (AM P w) A (eqBool (.ref x) (.ref y)) R E s:=by
 unfold eqBool
 try with_reducible refine DC ?_
 show wpAny _ _ (if(AW x==AW y)=true then _ else _) _ _ _;by_cases c:(AW x==AW y)=true
 .rw[p6 c]
  obtain rfl:x=y:=by have z:=eq_of_beq c;injection z
  obtain rfl:=h.one h';rw[p7 rfl] at r;exact Ap (G8 (AC r))
 .rw[pZ c]
  refine Ap (wpAny_richCompare_same_room (op:=.Eq) h.ty h'.ty JE (Da JE h.ty PySem.F.entry_tuple_eq (ACm ?_ h h' ⟨_,rfl,(λe=>nomatch e),FO r⟩) (PySem.F.args_tuple_eq_2 _ _)) (qg hu));show A.units+1<Cn;exact hu
theorem RX{ks:List κ}{x:Addr}{R:qG}(h:UF kd s.heap ks x)(r:R true s):wpAny (AM P w) A (Sk (n+1) (.ref x)) R E s:=by
 have ty:=h.typeIs;obtain⟨ob,ah,c,e,_,d,ia⟩:=h;unfold Sk;refine Ap (G1 ty JE.lookup ?_);show wpAny _ _ (QE (.ref x) (.type "tuple") >>= _) _ _ _;refine Ap (Hn ty LF ?_);simp only[E8,BU,if_false];refine Ap (IZ e d (Ap ?_));show wpAny _ _ (forIn ah _ _) _ _ _;rw[<- IF];refine Fa _ (λrest z s'=>z.1=pY/\s'=s/\∀v∈rest,U6 v=true) _ (λv rest z s' ⟨hz,es,al⟩=>?_) (λz s' ⟨hz,es,_⟩=>?_) _ _ ⟨rfl,rfl,ia.byValue⟩
 .subst es
  rw[SS _ (al v AI)];refine Ap (AC ?_);simp only[E8,BU,if_false];exact AC ⟨rfl,rfl,λu h=>al u (AJ _ h)⟩
 .subst es
  obtain⟨z1,z2⟩:=z;dsimp only at hz;subst hz;exact AC r
theorem Vh{p:κ×List κ}{x:Addr}{R:qG}(h:IsP kd s.heap p x)(r:R true s):wpAny (AM P w) A (Sk 8 (.ref x)) R E s:=by
 have ty:=h.ty;obtain⟨ob,ah,c,v,b,e,_,d,l,k,t⟩:=h;unfold Sk;refine Ap (G1 ty JE.lookup ?_);show wpAny _ _ (QE (.ref x) (.type "tuple") >>= _) _ _ _;refine Ap (Hn ty LF ?_);simp only[E8,BU,if_false];refine Ap (IZ e d (Ap ?_));show wpAny _ _ (forIn ah _ _) _ _ _;rw[<- IF,l];refine Fa _ (λrest z s'=>z.1=pY/\s'=s/\(rest=[v,.ref b]\/rest=[.ref b]\/rest=[])) _ (λu rest z s' ⟨hz,es,er⟩=>?_) (λz s' ⟨hz,es,_⟩=>?_) _ _ ⟨rfl,rfl,.inl rfl⟩
 .subst es
  rcases er with er| er| er
  .cases er
   rw[SS _ (kd.byValue _ _ k)];refine Ap (AC ?_);simp only[E8,BU,if_false];exact AC ⟨rfl,rfl,.inr (.inl trivial)⟩
  .cases er
   refine Ap (RX t ?_);simp only[E8,BU,if_false];exact AC ⟨rfl,rfl,.inr (.inr trivial)⟩
  .cases er
 .subst es
  obtain⟨z1,z2⟩:=z;dsimp only at hz;subst hz;exact AC r
end
def Ef{P:AK}{w:AQ}{κ:Type}[DecidableEq κ](kd:KeyKind P w κ):HeapKind P w (κ×List κ) where
 is:=IsP kd
 hash:=hashP kd
 draws:=λp=>p.2.length+3
 room:=λA=>A.units+1<Cn
 inj:=λa b=>a.one b
 keeps:=λa b c d=>a.stays b c d
 pyHash:=λa b c=>ZF a b c
 eqBool:=λa b c d=>ACN a b c d
 quiet:=λa b=>Vh a b
def oIs:Option Int->As->Bool
 | some i,v=>ML i v
 | none,v=>match v with
  | .none=>true
  | _=>false
def oHash:Option Int->Int
 | some i=>hashInt i
 | none=>QI 0xFCA86420
theorem Ci:∀{k:Option Int}{v:As},oIs k v=true->(∃i t,k=pX i/\v=MM i t)\/(k=pY/\v=CY)
 | some i,v,h=>by
  obtain⟨t,e⟩:=FM (k:=i) (v:=v) h;exact .inl ⟨i,t,rfl,e⟩
 | none,v,h=>by
  cases v<;>first| exact .inr ⟨rfl,rfl⟩| cases h
theorem hash_none{Q:Int->AA->Prop}(h:Q (QI 0xFCA86420) {s with toks:=s.toks+1}):wpAny (AM P w) A (pyHash .none) Q E s :=
 PySem.W.pyHash_slot (T:="NoneType") rfl PySem.F.slot_NoneType_hash PySem.F.entry_NoneType_hash (PySem.F.args_NoneType_hash_1 _) (TR _) (.inl rfl) (Ap (AC (Ap (wpAny_mkInt (AC ⟨_,_,rfl,h⟩)))))
def optKind(P:AK)(w:AQ):KeyKind P w (Option Int) where
 is:=oIs
 hash:=oHash
 inj:=λv a b ha hb=>by
  rcases Ci ha with⟨i,t,rfl,rfl⟩| ⟨rfl,rfl⟩
  .rcases Ci hb with⟨j,u,rfl,e⟩| ⟨rfl,e⟩
   .injection e with e1 _;rw[e1]
   .cases e
  .rcases Ci hb with⟨j,u,rfl,e⟩| ⟨rfl,e⟩
   .cases e
   .rfl
 byValue:=λk v h=>by
  rcases Ci h with⟨i,t,rfl,rfl⟩| ⟨rfl,rfl⟩<;>rfl
 pyHash:=λhv h=>by
  rcases Ci hv with⟨i,t,rfl,rfl⟩| ⟨rfl,rfl⟩
  .exact Tk h
  .exact hash_none h
 eqBool:=λhu hv h=>by
  rcases Ci hu with⟨i,t,rfl,rfl⟩| ⟨rfl,rfl⟩
  .rcases Ci hv with⟨j,u,rfl,rfl⟩| ⟨rfl,rfl⟩
   .have e:decide ((pX i:Option Int)=pX j)=(i==j):=by
     by_cases c:i=j
     .subst c;simp
     .rw[p8 (λz=>c (A8 z))]
      exact(beq_eq_false_iff_ne.mpr c).symm
    rw[e] at h;exact Tl h
   .exact Mn i t _ _ _ _ h
  .rcases Ci hv with⟨j,u,rfl,rfl⟩| ⟨rfl,rfl⟩
   .exact Mm j u _ _ _ _ h
   .exact LO .none _ _ _ _ h
 «strs»:=λk x t v h=>by
  rcases Ci h with⟨i,u,rfl,e⟩| ⟨rfl,e⟩
  .cases e
  .cases e
end NK
namespace L2
open PySem
def oV:Option Int->V
 | some i=>.int i
 | none=>.non
theorem ADk{k:Option Int}(r:RelV (oV k) u):(NK.optKind P w).is k u=true:=by
 cases k with
 | some i =>
  obtain⟨t,rfl⟩:=r;show ML i (.int i t)=true;simp[ML]
 | none =>
  cases r;rfl
theorem oV_items{P:AK}{w:AQ}:∀{ks:List (Option Int)}{us:List As},Vals (ks.map oV) us->ItemsAre (NK.optKind P w) ks us
 | [],_,r=>by rw[IX] at r;cases r;exact .nil
 | k::ks,_,r=>by
  rw[BG] at r;cases r with
  | cons h t=>exact .cons (ADk h) (oV_items t)
abbrev OKey:=Option Int×List (Option Int)
def dO(P:AK)(w:AQ)(a:Addr)(xs:List (OKey×Addr×As)):HO:=.ext λg=>∃o es ep,g.get? a=pX o/\o.ExactDict/\o.data=.dict es ep/\es.toList=xs.map (entryOfKey (NK.Ef (NK.optKind P w)))/\(xs.map (·.1)).Nodup
def OAt(K:Au)(H:Hp)(p:OKey)(x:Addr):Prop:=∃b,H x=pX (.tup [oV p.1,.ref b])/\SqT K H b (p.2.map oV)
theorem OAt.ts{p:OKey}{x:Addr}(h:OAt K H p x)(t:TSm H H'):OAt K H' p x:=let ⟨b,e1,e2⟩:=h;⟨b,t _ _ e1 ⟨_,.inl rfl⟩,t.seq e2⟩
abbrev KO(K:Au)(H:Hp):List (OKey×V)->List (OKey×Addr×As)->Prop:=A7 λp q=>p.1=q.1/\OAt K H p.1 q.2.1/\RelV p.2 q.2.2
def DO(K:Au)(P:AK)(w:AQ)(H:Hp)(a:Addr)(ag:List (OKey×V)):Prop:=ag.length<=sizeLine/\(a==DT)=false/\∃xs,H a=pX (dO P w a xs)/\KO K H ag xs
theorem DO.keep{ag:List (OKey×V)}(h:DO K P w H a ag)(e:∀o,H a=pX o->H' a=pX o)(t:TSm H H'):DO K P w H' a ag:=by
 obtain⟨z,y,xs,e1,r⟩:=h;exact⟨z,y,xs,e _ e1,Paired.imp (λ_ _ q=>⟨q.1,q.2.1.ts t,q.2.2⟩) r⟩
theorem KO.val{ag:List (OKey×V)}{xs:List (OKey×Addr×As)}(r:KO K H ag xs)(k:OKey):RelO (valV ag k) ((IE xs k).map (·.2)):=by
 induction r with
 | nil=>exact G6
 | @cons p q ps qs h t ih =>
  by_cases e:p.1=k
  .have b:IE (q::qs) k=pX q.2:=by simp[IE,FE,h.1.symm.trans e]
   rw[Bw e,b];exact h.2.2
  .have b:IE (q::qs) k=IE qs k:=by simp[IE,FE,show ¬ q.1=k from λz=>e (h.1.trans z)]
   rw[Bx e,b];exact ih
theorem KO.put{ag:List (OKey×V)}{xs:List (OKey×Addr×As)}(r:KO K H ag xs){k:OKey}(hb:OAt K H k b)(ry:RelV y u)(new:valV ag k=pY):KO K H (putK ag k y) (SE xs k b u):=by
 have e:IE xs k=pY:=by
  have z:=(r.val k).isSome_eq;rw[new,KS] at z;cases g:IE xs k with
  | none=>rfl
  | some q=>rw[g] at z;cases z
 rw[HX y new,storedH_new e];exact S9 r ⟨rfl,hb,ry⟩
theorem Ht{p:OKey}{x:Addr}(I:Inv X ae σ H s)(e:OAt X.K H p x):(NK.Ef (NK.optKind X.prog X.w)).is s.heap p x:=by
 obtain⟨b,e1,e2⟩:=e;obtain⟨_,ah,r,o,h1,h2,n,h3⟩:=(show ObjOk X.prog X.w H s.heap x (.tup [oV p.1,.ref b]) from I.hok x _ e1);obtain⟨us,ru,⟨o2,g1,g2,n2,g3⟩,_⟩:=I.tuple e2;cases r with
 | @cons _ v _ _ r1 r =>
  cases r with
  | @cons _ v2 _ _ r2 r =>
   cases r;cases r2;exact⟨o,_,n,v,b,h1,h2,h3,rfl,ADk r1,o2,us.toArray,n2,g1,g2,g3,by simpa using oV_items ru⟩
theorem XR{ag:List (OKey×V)}(I:Inv X ae σ H s)(d:DO X.K X.prog X.w H a ag):ag.length<=sizeLine/\(a==DT)=false/\∃xs,H a=pX (dO X.prog X.w a xs)/\KO X.K H ag xs/\s.heap.DictOfH (NK.Ef (NK.optKind X.prog X.w)) a xs:=by
 obtain⟨z,y,xs,e,r⟩:=d;obtain⟨⟨o,es,ep,h1,h2,h3,h4,h5⟩,_⟩:=(show ObjOk X.prog X.w H s.heap a (dO X.prog X.w a xs) from I.hok a _ e);refine⟨z,y,xs,e,r,o,es,ep,h1,h2,h3,h4,λx hx=>?_,h5⟩;obtain⟨i,hi⟩:=Fm.mp hx;obtain⟨p,_,e1,e2,_⟩:=Paired.get r hi;rw[<- e1];exact Ht I e2
theorem AAT{xs:List (OKey×Addr×As)}(d:h.DictOfH (NK.Ef (NK.optKind P w)) a xs):ObjOk P w H' h a (dO P w a xs):=by
 obtain⟨o,es,ep,h1,h2,h3,h4,_,h5⟩:=d;refine⟨⟨o,es,ep,h1,h2,h3,h4,h5⟩,⟨o,h1⟩,λg1 g2 ⟨o',bo,gN,z1,z2⟩ st=>⟨o',bo,gN,st _ z1,z2⟩⟩
def OGet(K:Au)(P:AK)(w:AQ)(H:Hp)(a:Addr)(y:V)(r:Option V):Prop:=∃ag p x,DO K P w H a ag/\y=.ref x/\OAt K H p x/\valV ag p=r
theorem ADs{r:Option V}(I:Inv X ae σ H s)(g:OGet X.K X.prog X.w H a y r):s.TypeIs (.ref a) "dict":=by
 obtain⟨ag,p,x,d,_⟩:=g;obtain⟨_,_,xs,_,_,dd⟩:=XR I d;exact dd.typeIs
theorem Xw(hu:A.units+2<Cn)(I:Inv X ae σ H s)(g:OGet X.K X.prog X.w H a y (pX v))(ry:RelV y u)(q:∀w' s',Inv X ae σ H s'->RelV v w'->Q w' s'):wpAny (AM X.prog X.w) A (NN (.ref a) u) Q E s:=by
 obtain⟨ag,p,x,d,rfl,k,l⟩:=g;cases (show u=AW x from ry);obtain⟨z,hd,xs,e,bX,dd⟩:=XR I d;obtain⟨w',hw,dk⟩:=qT (v:=v) (o:=(IE xs p).map (·.2)) (by rw[<- l];exact bX.val p);obtain⟨pv,hp,iO⟩:=O2.mp hw;refine Sc (knd:=NK.Ef (NK.optKind X.prog X.w)) (k:=p) (by show A.units+1+1<Cn;exact sg hu) (Ht I k) dd hp ?_;rw[iO];exact q w' _ (I.tok _) dk
theorem ADW{r:Option V}(hu:A.units+2<Cn)(I:Inv X ae σ H s)(g:OGet X.K X.prog X.w H a y r)(ry:RelV y u)(q:∀s',Inv X ae σ H s'->Q (.bool (!r.isSome)) s'):wpAny (AM X.prog X.w) A (DM .NotIn u (.ref a)) Q E s:=by
 obtain⟨ag,p,x,d,rfl,k,l⟩:=g;cases (show u=AW x from ry);obtain⟨z,hd,xs,e,bX,dd⟩:=XR I d;refine UX (knd:=NK.Ef (NK.optKind X.prog X.w)) (k:=p) (by show A.units+1+1<Cn;exact sg hu) (Ht I k) hd dd ?_;have c:=(bX.val p).isSome_eq;rw[KS] at c;rw[<- c,l];exact q _ (I.tok _)
theorem Yz{r:As}{ag:List (OKey×V)}{p:OKey}{x:Addr}{Q:qH}(hu:A.units+2<Cn)(I:Inv X ae σ H s)(d:DO X.K X.prog X.w H a ag)(ey:y=.ref x)(k:OAt X.K H p x)(new:valV ag p=pY)(hl:ag.length<sizeLine)(ry:RelV y u)(rv:RelV v r)
  (q:∀(H':Hp) s',(∀b,b≠a->H' b=H b)->DO X.K X.prog X.w H' a (putK ag p v)->Inv X ae σ H' s'->Q () s'):wpAny (AM X.prog X.w) A (U0 (.ref a) u r) Q E s:=by
 subst ey;cases (show u=AW x from ry);obtain⟨z,hd,xs,e,bX,dd⟩:=XR I d;have hz:xs.length<=sizeLine:=by rw[<- AT bX];exact z
 refine Se (hsz:=hz) (knd:=NK.Ef (NK.optKind X.prog X.w)) (k:=p) (by show A.units+1+1<Cn;exact sg hu) (Ht I k) dd λh' ig hs=>?_;have he:∃o,h'.get? a=pX o:=let ⟨o,_,_,ho,_⟩:=ig;⟨o,ho⟩
 have tE:TSm H (upd H a (dO X.prog X.w a (SE xs p x r))):=λb u hb t=>by
  rw[Ae (λz=>by
   rw[z,e] at hb;cases hb;obtain⟨ys,e| ⟨o,e⟩⟩:=t
   .cases e
   .cases e)]
  exact hb
 refine q (upd H a (dO X.prog X.w a (SE xs p x r))) _ (λb hb=>Ae hb) ⟨?_,hd,_,Ab,Paired.imp (λ_ _ c=>⟨c.1,c.2.1.ts tE,c.2.2⟩) (KO.put bX k rv new)⟩ (JX I (by rw[e];exact G6) hs he (AAT ig));rw[HX v new,Bz,D7];exact hl
def ADu(K:Au)(P:AK)(w:AQ):TE:=λ_ H Q=>∀p,H p=none->DO K P w (upd H p (dO P w p [])) p []->Q (.ref p) (upd H p (dO P w p []))
def AFS(K:Au)(P:AK)(w:AQ)(td ty:TE):TE:=λσ H Q=>td σ H λx H1=>ty σ H1 λy H2=>∃a v,x=.ref a/\OGet K P w H2 a y (pX v)/\Q v H2
def ADU(K:Au)(P:AK)(w:AQ)(ty td:TE):TE:=λσ H Q=>ty σ H λy H1=>td σ H1 λx H2=>∃a r,x=.ref a/\OGet K P w H2 a y r/\Q (.bl (!r.isSome)) H2
def AFX(K:Au)(P:AK)(w:AQ)(td ty tv:TE):TS:=λD σ H=>tv σ H λv H1=>td σ H1 λx H2=>ty σ H2 λy H3=>∃a ag p b,x=.ref a/\y=.ref b/\DO K P w H3 a ag/\OAt K H3 p b/\valV ag p=pY/\ag.length<sizeLine /\
 ∀H4,(∀c,c≠a->H4 c=H3 c)->DO K P w H4 a (putK ag p v)->D.nx σ H4
section
variable{o i:Expr}{ty:TE}
theorem Zt:PE X (.Dict [] [] pos) (ADu X.K X.prog X.w):=λae s σ H Q I h=>by
 have hn:=I.hok.fresh (AH s.heap.objs.size);have ns:(s.heap.objs.size==DT)=false:=beq_eq_false_iff_ne.mpr (CB (BM I.big));refine wpAny_Dict_empty ⟨.ref s.heap.objs.size,_,I.laid (a:=s.heap.objs.size) (o:=dO X.prog X.w s.heap.objs.size []) (t':=s.toks) (λ_ _ q=>AG _ q) (AH _) (AAT (Yf _)),rfl,h _ hn ⟨BD _,ns,[],Ab,.nil⟩⟩
theorem ADK(hu:X.A.units+2<Cn)(ho:PE X o td)(hi:PE X i ty)(hs:NoSl i):PE X (.Subscript o i pos) (AFS X.K X.prog X.w td ty):=by
 intro ae s σ H Q I h;refine Xe NF.lookup hs (thn (ho ae s σ H _ I h) λu s1 ⟨x,H1,I1,rx,q1⟩=>thn (hi ae s1 σ H1 _ I1 q1) λiv s2 ⟨y,H2,I2,ry,a,v,ex,g,q2⟩=>?_);subst ex;obtain rfl:u=AW a:=rx;exact⟨ADs I2 g,Xw hu I2 g ry λw' s3 I3 dk=>⟨v,H2,I3,dk,q2⟩⟩
theorem Yh(hu:X.A.units+2<Cn)(hi:PE X i ty)(ho:PE X o td):PC X .NotIn i o (ADU X.K X.prog X.w ty td):=by
 intro ae s σ H Q I h;refine thn (hi ae s σ H _ I h) λiv s1 ⟨y,H1,I1,ry,q1⟩=>thn (ho ae s1 σ H1 _ I1 q1) λu s2 ⟨x,H2,I2,rx,a,r,ex,g,q2⟩=>?_;subst ex;obtain rfl:u=AW a:=rx;exact ADW hu I2 g ry λs3 I3=>⟨.bl (!r.isSome),H2,I3,rfl,q2⟩
theorem ACy(hu:X.A.units+2<Cn)(ho:PE X o td)(hi:PE X i ty)(hv:PE X aI tv)(hs:Lm aI (pX (.Subscript o i a9)) pos.line X.env=pure false):PS X (.Assign [.Subscript o i a9] aI pos) (AFX X.K X.prog X.w td ty tv):=by
 intro ae s σ H D I h;refine O3 (thn (hv ae s σ H _ I h) λr s1 ⟨v,H1,I1,rv,q1⟩=>thn (ho ae s1 σ H1 _ I1 q1) λu s2 ⟨x,H2,I2,rx,q2⟩=>thn (hi ae s2 σ H2 _ I2 q2) λiv s3 ⟨y,H3,I3,ry,a,ag,p,b,ex,ey,d,k,new,hl,q3⟩=>?_) hs;subst ex;obtain rfl:u=AW a:=rx;exact Yz hu I3 d ey k new hl ry rv λH4 s4 oth d4 I4=>⟨σ,H4,I4,q3 H4 oth d4⟩
end
end L2
namespace K33
open PySem L2
def top(i:Nat):Stmt:=GY.main.body.getD i (.Pass ⟨0,0,0,0⟩)
abbrev Ke:Stmt:=inClass (top 22) 0
abbrev AAi:Stmt:=inClass (top 22) 1
abbrev ZK:Stmt:=inClass (top 22) 2
abbrev sAt:Stmt:=inClass (top 22) 3
abbrev AEI:Stmt:=top 23
abbrev AFH:Stmt:=top 24
abbrev AEX:Stmt:=top 25
abbrev Vb:Stmt:=top 14
abbrev Jl:Stmt:=top 16
abbrev PK:Stmt:=inClass (top 15) 0
abbrev Jk:Stmt:=inClass (top 15) 1
abbrev AAw:Stmt:=inClass (top 15) 2
abbrev Wa:Stmt:=inClass (top 18) 3
abbrev UW:Stmt:=inClass (top 34) 0
abbrev Qc:Stmt:=inClass (top 34) 1
abbrev Gh:Stmt:=inClass (top 34) 2
abbrev WM:Stmt:=inClass (top 34) 3
abbrev Hu:Stmt:=inClass (top 34) 4
abbrev ACr:Stmt:=inClass (top 34) 5
abbrev Vu:Stmt:=inClass (top 35) 0
abbrev QJ:Stmt:=inClass (top 35) 2
abbrev Qa:Stmt:=inClass (top 35) 3
abbrev ABq:Stmt:=top 37
abbrev ABY:Stmt:=top 41
abbrev AEr:Stmt:=top 42
abbrev Qi:Stmt:=top 43
abbrev ABe:Stmt:=top 44
abbrev Ui:Stmt:=top 45
abbrev Zc:Stmt:=top 46
abbrev Dq:Stmt:=top 47
abbrev Ph:Stmt:=top 48
abbrev Ve:Stmt:=top 49
abbrev Zi:Stmt:=top 50
theorem ja:¬ (("amount" : Str) = "joints"):=by decide+kernel
def flds(z:Int)(j:Addr):List (Str×V):=putF "joints" (.ref j) (putF "amount" (.int z) [])
theorem JM(z:Int)(j:Addr):(flds z j).lookup ("amount" : Str)=pX (.int z):=by
 unfold flds;rw[Ah,pZ ja,Ah,p6 rfl]
theorem JN(z:Int)(j:Addr):(flds z j).lookup ("joints" : Str)=pX (.ref j):=by
 unfold flds;rw[Ah,p6 rfl]
theorem ACz(z:Int)(j:Addr){m:Str}(h1:¬ m = "joints")(h2:¬ m = "amount"):(flds z j).lookup m=pY:=by
 unfold flds;rw[Ah,pZ h1,Ah,pZ h2]
 all_goals rfl
structure Txt(K:Au)(mg:Str->Option As)(C:Addr):Prop where
 cl:Cls K C
 nA:NoAttr K C "amount"
 nJ:NoAttr K C "joints"
 mgC:mg "Web" = pX (.ref C)
 mp:∃t,mg "MOST_POINTS" = pX (.int 10 t)
 mt:∃t,mg "MOST_TIES" = pX (.int 12 t)
 len:mg "len" = pY
 range:mg "range" = pY
 int:mg "int" = pY
 max:mg "max" = pY
 min:mg "min" = pY
 sorted:mg "sorted" = pY
 tuple:mg "tuple" = pY
 list:mg "list" = pY
 bool:mg "bool" = pY
 enum:mg "enumerate" = pY
 isi:mg "isinstance" = pY
def WebAt(K:Au)(C:Addr)(H:Hp)(p:Addr)(z:Int)(as:qD):Prop:=∃dx j,H p=pX (.ins C dx (flds z j))/\rTup K (rPair K) H as (.ref j)
theorem WebAt.same{z:Int}(h:WebAt K C H p z as)(e:Same H H'):WebAt K C H' p z as:=by
 obtain⟨dx,j,h1,h2⟩:=h;exact⟨dx,j,e _ _ h1,Ak (Ak Ao) _ _ _ _ e.ts h2⟩
def Zj(K:Au):Sp:=λvs H Q _=>∃(a:Addr) (ns:qC) (k:Int),vs=[.ref a,.int k]/\SqL K H a (ns.map V.int)/\0<=k/\∀c:Int,Q (.int c) H
def ADa:Sp:=λvs H Q _=>∃(p t:Int),vs=[.int p,.int t]/\1<=p/\p<=10/\0<=t/\t<=12/\Q .non H
def ADZ(K:Au):Sp:=λvs H Q _=>∃(m a b:Int) (t:Addr),vs=[.int m,.ref t]/\SqT K H t [.int a,.int b]/\0<=a/\a<b/\b<m/\Q .non H
def ADe(K:Au):Sp:=λvs H Q _=>∃(m:Int) (l:Addr) (xs:List V) (as:qD),vs=[.int m,.ref l]/\SqL K H l xs/\A7 (rSeq K H) as xs/\OkTies m as/\as.length<=12 /\
 ∀(j:Addr) (H':Hp),Same H H'->rTup K (rPair K) H' (as.map srt) (.ref j)->Q (.ref j) H'
def JG(K:Au)(C:Addr):Sp:=λvs H Q _=>∃(p dx l:Addr) (m:Int) (xs:List V) (as:qD),vs=[.ref p,.int m,.ref l]/\H p=pX (.ins C dx [])/\SqL K H l xs/\A7 (rSeq K H) as xs/\OkTies m as/\as.length<=12/\1<=m/\m<=10 /\
 ∀(H':Hp),(∀b o,H b=pX o->b≠p->H' b=pX o)->WebAt K C H' p m (as.map srt)->Q .non H'
def Ko(K:Au)(C:Addr):Sp:=λvs H Q _=>∃(p:Addr) (m:Int) (as:qD),vs=[.ref p]/\WebAt K C H p m as/\Q (.int m) H
def VJ(K:Au)(C:Addr):Sp:=λvs H Q _=>∃(p:Addr) (m:Int) (as:qD),vs=[.ref p]/\WebAt K C H p m as/\∀(l:Addr) (H':Hp),Same H H'->H l=none->rLst K (rPair K) H' as (.ref l)->Q (.ref l) H'
def AFW(K:Au)(C:Addr):Sp:=λvs H Q _=>∃(p:Addr) (m x:Int) (as:qD),vs=[.ref p,.int x]/\WebAt K C H p m as/\as.length<=12 /\
 ∀(l:Addr) (H':Hp),Same H H'->H l=none->H' l=pX (.lst ((hits x as).map V.int))->Q (.ref l) H'
def Rp(K:Au):Sp:=λvs H Q _=>∃(a:Addr) (ns:qC),vs=[.ref a]/\SqL K H a (ns.map V.int)/\ns.length<=63/\∀H',Q (.bl true) H'
theorem AFR:FnScope zl0 zl0 (Ag AEI):=fscp (by decide+kernel)
theorem ADy(F:Fun K "refuse_amounts" "refuse_amounts" AEI f fd)(T:Txt K mg C):FnOk P w K mg base CX0 1 f fd zl0 ADa:=by
 refine F.ok AFR (λvs H Q E h=>?_) (λa6 A outer s H vs Q E hr h=>?_)
 .obtain⟨p,t,rfl,_⟩:=h
  rfl
 obtain⟨p,t,rfl,h1,h2,h3,h4,q⟩:=h;obtain⟨t1,e1⟩:=T.mp;obtain⟨t2,e2⟩:=T.mt;refine⟨_,Af (CQ (qS (RK (Av Kf (pv 0) Ai) (QB (Av ABZ (pv 0) (Gm (v:=.int 10) rfl e1 ⟨t1,rfl⟩))))) Cz BL)
  (Aj (CQ (Av ABZ (pv 1) (Gm (v:=.int 12) rfl e2 ⟨t2,rfl⟩)) Cz BL)),?_⟩
 refine⟨_,rfl,_,_,rfl,rfl,_,rfl,?_⟩;refine iteN (rP h1) ?_;refine⟨_,rfl,_,_,rfl,rfl,_,rfl,?_⟩;refine iteN (rP h2) ?_;refine⟨_,rfl,_,_,rfl,rfl,_,rfl,?_⟩;refine iteN (rP h4) ?_;exact q
theorem AFg:FnScope zl1 zl1 (Ag AEX):=fscp (by decide+kernel)
theorem at0{a b:V}:atI [a,b] 0=pX a:=rfl
theorem at1{a b:V}:atI [a,b] 1=pX b:=rfl
theorem AEl(F:Fun K "refuse_points" "refuse_points" AEX f fd):FnOk P w K mg base CX0 1 f fd zl1 (ADZ K):=by
 refine F.ok AFg (λvs H Q E h=>?_) (λa6 A outer s H vs Q E hr h=>?_)
 .obtain⟨m,a,b,t,rfl,_⟩:=h
  rfl
 obtain⟨m,a,b,t,rfl,hT,h0,h1,h2,q⟩:=h;refine⟨_,Af (CQ (qS (RK (Av Kf (Ay Bg (pv 1) Ai) Ai) (QB (Av ADj (Ay Bg (pv 1) Ai) (pv 0))))) Cz BL)
  (Aj (CQ (Av Hl (Ay Bg (pv 1) Ai) (Ay Bg (pv 1) Ai)) Cz BL)),?_⟩
 refine⟨_,rfl,t,_,_,_,rfl,rfl,hT,at0,_,_,rfl,rfl,_,rfl,?_⟩;refine iteN (rP h0) ?_;refine⟨_,rfl,t,_,_,_,rfl,rfl,hT,at1,_,rfl,_,_,rfl,rfl,_,rfl,?_⟩;refine iteN (by lia) ?_;refine⟨_,rfl,t,_,_,_,rfl,rfl,hT,at0,_,rfl,t,_,_,_,rfl,rfl,hT,at1,rfl,_,rfl,?_⟩;refine iteN (λe=>?_) q;have:=V.int.inj e;lia
theorem Wo:FnScope ["many","ties","checked","handed","tie"] zl19 (Ag AFH):=fscp (by decide+kernel)
theorem ADx(F:Fun K "checked_ties" "checked_ties" AFH f fd)(T:Txt K mg C)(GP:Cal P w K mg base 1 fP ft "refuse_points" zl1 (ADZ K)) :
  FnOk P w K mg base CX0 2 f fd zl19 (ADe K):=by
 refine F.ok Wo (λvs H Q E h=>?_) (λa6 A outer s H vs Q E hr h=>?_)
 .obtain⟨m,l,xs,as,rfl,_⟩:=h
  rfl
 obtain⟨m,l,xs,as,rfl,hS,pa,ok,h12,q⟩:=h;refine⟨_,Af (Am (i:=2) Wo.nd (Dm Ad))
  (Af (En EB rfl (CT (pv 1)) (Bf (i:=3) Wo.nd)
   (Af (Am (i:=4) Wo.nd (BX Bt rfl T.tuple Db (Aa (Aw Tc rfl T.sorted DF (Aa (pv 3) Ad)) Ad)))
   (Af (DP (Bd GP hr rfl (Aa (pv 0) (Aa (pv 4) Ad))))
   (Af (CQ (Av (VL (DR DX) (Bp hr)) (pv 4) (pv 2) rfl) Cz BL)
   (Aj (DP (Js ED FF FG EY (pv 2) (Aa (pv 4) Ad))))))))
  (Aj (Aq (BX Bt rfl T.tuple Db (Aa (pv 2) Ad))))),?_⟩
 refine⟨BD _,λc hc=>?_⟩;have lx:=AT pa;refine⟨_,rfl,l,rfl,⟨_,(qe hc _).seq hS⟩,Eu (K:=K) (a:=l) (xs:=xs) (λi σ H2=>∃(hv tv:Option V) (ys:List V),σ=[pX (.int m),pX (.ref l),pX (.ref c),hv,tv]/\Same H H2/\H2 c=pX (.lst ys)/\A7 (rPair K H2) ((as.take i).map srt) ys)
  ⟨pY,pY,[],rfl,qe hc _,Ab,.nil⟩ (λi σ H2 _ ⟨_,_,_,_,sm,_⟩=>sm.seq hS) ?_ ?_⟩
 .rintro i x σ H2 hx ⟨hv,tv,ys,rfl,sm,hC,pc⟩
  obtain⟨t,ht,rt0⟩:=Paired.get pa hx;obtain⟨p,rfl,hp⟩:=AAn rt0;obtain⟨a,b,rfl,a0,a1,b0,b1,nab⟩:=ok.ok t (By ht);have iO:SqL K H2 p ([a,b].map V.int)\/SqT K H2 p ([a,b].map V.int):=hp.elim (λz=>.inl (sm.seq z)) λz=>.inr (sm.ts.seq z);refine⟨_,rfl,p,[a,b],rfl,iO,(by show 2<64;decide),λl1 ms mF perm pw=>?_⟩;have em:=YC perm pw;subst em;refine⟨l1,_,rfl,.inl ⟨qX Ab,λt1 e7=>?_⟩⟩;have hT:(upd (upd H2 l1 (.lst ((srt [a,b]).map V.int))) t1 (.tup ((srt [a,b]).map V.int))) t1=pX (.tup ((srt [a,b]).map V.int)):=Ab;have s1:Same H2 (upd (upd H2 l1 (.lst ((srt [a,b]).map V.int))) t1 (.tup ((srt [a,b]).map V.int))):=(qe mF _).trans (qe e7 _);generalize hH3:upd (upd H2 l1 (.lst ((srt [a,b]).map V.int))) t1 (.tup ((srt [a,b]).map V.int))=H3 at hT s1 ⊢;have aT:(srt [a,b]).length=2:=by rw[Cu];split<;>rfl
  have pts:∃u v:Int,srt [a,b]=[u,v]/\0<=u/\u<v/\v<m:=by
   rw[Cu];split
   .exact⟨b,a,rfl,b0,by lia,a1⟩
   .exact⟨a,b,rfl,a0,by lia,b1⟩
  obtain⟨u,v,euv,u0,uv,vm⟩:=pts;have hT2:SqT K H3 t1 [.int u,.int v]:=by
   have e:=qY (K:=K) hT;rw[euv] at e;exact e
  refine⟨_,rfl,_,rfl,m,u,v,t1,rfl,hT2,u0,uv,vm,?_⟩;have hC3:=s1 _ _ hC;have pc3:=Paired.imp (λa b=>Ak Ao H2 H3 a b s1.ts) pc;have rt:rPair K H3 (srt [a,b]) (.ref t1):=Ea hT;refine⟨_,rfl,_,rfl,_,_,rt,.inl ⟨c,ys,rfl,qX hC3,pc3⟩,_,rfl,?_⟩;refine iteN (ok.take_new ht) ?_;have hys:ys.length<=12:=by
   rw[<- AT pc,AB,BS];lia
  refine⟨_,rfl,.inl ⟨rfl,_,qX hC3⟩,_,rfl,c,ys,_,rfl,rfl,hC3,BZ (tY hys),?_⟩;refine⟨_,_,_,rfl,λb o e=>?_,Ab,?_⟩
  .rw[Ae (Ac e hc)]
   exact s1 _ _ (sm b o e)
  .have e:as.take (i+1)=as.take i++[[a,b]]:=by rw[D4,ht];rfl
   rw[e,BE,Sm];have ts:TSm H3 (upd H3 c (.lst (ys++[.ref t1]))):=qd hC3;exact Paired.app (Paired.imp (λa b=>Ak Ao H3 _ a b ts) pc3) (qc (Ak Ao H3 _ _ _ ts rt))
 .rintro σ H2 ⟨hv,tv,ys,rfl,sm,hC,pc⟩
  rw[<- lx,CI] at pc;refine⟨_,rfl,c,_,rfl,.inl ⟨qX hC,λj hj=>?_⟩⟩;refine q j _ (sm.trans (qe hj _)) ⟨j,ys,rfl,qY Ab,?_⟩;exact Paired.imp (λa b=>Ak Ao H2 _ a b (TSm.new hj)) pc
theorem VF:FnScope zl2 zl2 (Ag Ke):=fscp (by decide+kernel)
theorem HN(F:Fun K "__init__" "Web.__init__" Ke f fd)(T:Txt K mg C)
  (GA:Cal P w K mg base 1 fA ff "refuse_amounts" zl0 ADa)
  (GC:Cal P w K mg base 2 fC fdC "checked_ties" zl19 (ADe K)) :
  FnOk P w K mg base CX0 3 f fd zl2 (JG K C):=by
 refine F.ok VF (λvs H Q E h=>?_) (λa6 A outer s H vs Q E hr h=>?_)
 .obtain⟨p,dx,l,m,xs,as,rfl,_⟩:=h
  rfl
 obtain⟨p,dx,l,m,xs,as,rfl,hP,hS,pa,ok,h12,h1,h10,q⟩:=h;have lx:=AT pa;refine⟨_,Af (DP (Bd GA (hr.mono (by decide)) rfl (Aa (pv 1) (Aa (Aw BJ rfl T.len DB (Aa (pv 2) Ad)) Ad))))
  (Af (Dp (pv 0) (pv 1) rfl)
  (Aj (Dp (pv 0) (Bd GC hr rfl (Aa (pv 1) (Aa (pv 2) Ad))) rfl))),?_⟩
 refine⟨_,rfl,_,rfl,l,_,rfl,.inl hS,m,_,rfl,h1,h10,qo,by lia,?_⟩;refine⟨_,rfl,_,rfl,p,C,dx,[],rfl,hP,T.cl,T.nA,(by decide),?_⟩;have ts:TSm H (upd H p (.ins C dx (putF "amount" (.int m) []))):=λb u hb t=>by
  rw[Ae ?_]
  .exact hb
  .rintro rfl
   rw[hP] at hb;cases hb;obtain⟨ys,e| ⟨o,e⟩⟩:=t
   .cases e
   .cases e
 have sl:∀{a:Addr}{zs:List V},SqL K H a zs->SqL K (upd H p (.ins C dx (putF "amount" (.int m) []))) a zs:=λ{a zs} h=>by
  rcases h with(h| ⟨o,h⟩)| h
  .exact .inl (.inl (by rw[Ae (Cj h hP (by intro z;cases z))];exact h))
  .exact .inl (.inr ⟨o,by rw[Ae (Cj h hP (by intro z;cases z))];exact h⟩)
  .exact .inr h
 have pa':A7 (rSeq K (upd H p (.ins C dx (putF "amount" (.int m) [])))) as xs:=Paired.imp (λt x h=>by
  rcases h with⟨q,zs,rfl,hq,pz⟩| h
  .exact .inl ⟨q,zs,rfl,sl hq,pz⟩
  .exact .inr (Ak Ao _ _ _ _ ts h)) pa
 refine⟨_,rfl,_,rfl,m,l,xs,as,rfl,sl hS,pa',ok,h12,λj H' sm rj=>?_⟩;have jb:=sm _ _ Ab;refine⟨_,rfl,p,C,dx,_,rfl,jb,T.cl,T.nJ,(by show 1<1000;decide),?_⟩;refine q _ (λb o e hb=>?_) ⟨dx,j,Ab,?_⟩
 .rw[Ae hb]
  exact sm _ _ (by rw[Ae hb];exact e)
 .refine Ak (Ak Ao) _ _ _ _ (λb u hb t=>?_) rj
  rw[Ae ?_]
  .exact hb
  .rintro rfl
   rw[jb] at hb;cases hb;obtain⟨ys,e| ⟨o,e⟩⟩:=t
   .cases e
   .cases e
theorem scSize:FnScope zl3 zl3 (Ag AAi):=fscp (by decide+kernel)
theorem ACp(F:Fun K "size" "Web.size" AAi f fd)(T:Txt K mg C):FnOk P w K mg base CX0 1 f fd zl3 (Ko K C):=by
 refine F.ok scSize (λvs H Q E h=>?_) (λa6 A outer s H vs Q E hr h=>?_)
 .obtain⟨p,m,as,rfl,_⟩:=h
  rfl
 obtain⟨p,m,as,rfl,⟨dx,j,hP,hj⟩,q⟩:=h;refine⟨_,Aj (Aq (Bc (pv 0) rfl)),?_⟩;exact⟨_,rfl,p,C,dx,_,_,rfl,hP,T.cl,T.nA,JM _ _,q⟩
theorem AEv:FnScope zl3 zl3 (Ag ZK):=fscp (by decide+kernel)
theorem ABx(F:Fun K "ties" "Web.ties" ZK f fd)(T:Txt K mg C):FnOk P w K mg base CX0 1 f fd zl3 (VJ K C):=by
 refine F.ok AEv (λvs H Q E h=>?_) (λa6 A outer s H vs Q E hr h=>?_)
 .obtain⟨p,m,as,rfl,_⟩:=h
  rfl
 obtain⟨p,m,as,rfl,⟨dx,j,hP,j',xs,ej,hj,pj⟩,q⟩:=h;cases ej;refine⟨_,Aj (Aq (BX Fd rfl T.list IM (Aa (Bc (pv 0) rfl) Ad))),?_⟩;refine⟨_,rfl,p,C,dx,_,_,rfl,hP,T.cl,T.nJ,JN _ _,j,xs,rfl,.inr hj,λl hl=>?_⟩;refine q l _ (qe hl _) hl ⟨l,xs,rfl,qX Ab,?_⟩;exact Paired.imp (λa b=>Ak Ao H _ a b (TSm.new hl)) pj
theorem AGO:FnScope zl4 zl4 (Ag sAt):=fscp (by decide+kernel)
theorem AFn(F:Fun K "at" "Web.at" sAt f fd)(T:Txt K mg C):FnOk P w K mg base CX0 1 f fd zl4 (AFW K C):=by
 refine F.ok AGO (λvs H Q E h=>?_) (λa6 A outer s H vs Q E hr h=>?_)
 .obtain⟨p,m,x,as,rfl,_⟩:=h
  rfl
 obtain⟨p,m,x,as,rfl,⟨dx,j,hP,j',xs,ej,hj,pj⟩,h12,q⟩:=h;cases ej;refine⟨_,Aj (Aq (CP (Ag sAt) ["number","tie"] ["point"] [1] rfl rfl (by decide+kernel) ⟨⟨rfl,by decide+kernel⟩,trivial⟩ (Rt rfl T.enum (Aa (Bc (pv 0) rfl) Ad))
  (λ_ _ _=>Jo (K:=K) (n:=2) rfl rfl (Bo (BK (i:=0)) (Bo (BK (i:=1)) FN)))
  (λ_ _ _=>Cd (Av (FP (K:=K) rfl) (pv 2) (pv 1) rfl))
  (λ_ _ _=>pv 0))),?_⟩
 refine⟨_,rfl,p,C,dx,_,_,rfl,hP,T.cl,T.nJ,JN _ _,j,rfl,⟨_,hj⟩,λD hD=>?_⟩;have lx:=AT pj;refine Jw (xs:=xs) (λi τ H2=>∃n t:Option V,τ=[n,t,pX (.int x)]/\Same H H2/\H2 D=pX (.lst ((hits x (as.take i)).map V.int))) ⟨pY,pY,rfl,qe hD _,Ab⟩
  (λi τ H2 _ ⟨_,_,_,sm,_⟩=>sm.ts.seq hj) ?_ ?_
 .rintro i y τ H2 T1 hy pF ⟨n,t,rfl,sm,lv⟩
  obtain⟨tie,ht,rt⟩:=Paired.get pj hy;obtain⟨q1,rfl,hq1⟩:=Bk rt;have s1:Same H2 (upd H2 T1 (.tup [.int i,.ref q1])):=qe pF _;refine⟨T1,_,rfl,qY Ab,rfl,_,_,rfl,_,_,rfl,rfl,?_⟩;refine⟨_,rfl,_,rfl,q1,_,rfl,.inr (s1.ts.seq (sm.ts.seq hq1)),rfl,?_,_,rfl,?_⟩
  .simp[flatV]
  .rw[pZ (by decide),Ey]
   have hD3:=s1 _ _ lv;have bn:=(AF.mp ht).1;refine ite2 (λc=>?_) (λc=>?_)
   .have c':=qA c
    refine⟨_,rfl,_,hD3,?_,_,_,rfl,λb o e=>?_,?_⟩
    .have:(hits x (as.take i)).length<=(as.take i).length:=Jq x 0 (as.take i)
     rw[AB];rw[BS] at this;exact BZ (by lia)
    .rw[Ae (Ac e hD)]
     exact s1 _ _ (sm b o e)
    .rw[Ab,Mr ht,p6 c',BE]
     rfl
   .have c':¬ x∈tie:=λz=>c (p7 z)
    refine⟨_,_,rfl,sm.trans s1,?_⟩;rw[hD3,Mr ht,pZ c',B3]
 .rintro τ H2 ⟨n,t,rfl,sm,lv⟩
  rw[<- lx,CI] at lv;exact q D H2 sm hD lv
end K33
namespace G
abbrev Row:=Nat×Nat×Nat
def Low(aa:List Row)(t k l:Nat):Prop:=l<k/\(l<=1\/∃r,aa[l-2]?=pX r/\t<r.1)
def Ok(n:Nat)(aa:List Row):Prop:=∀(i:Nat) (r:Row),aa[i]?=pX r->r.1<n/\Low aa r.1 (i+2) r.2.1/\Low aa r.1 (i+2) r.2.2
structure Least(n:Nat)(aa:List Row):Prop where
 ok:Ok n aa
 pos:∀(i:Nat) (r:Row),aa[i]?=pX r->r.2.2≠0
 one:∀(i j:Nat) (r:Row),aa[i]?=pX r->aa[j]?=pX r->i=j
def rank(n:Nat)(aa:List Row)(k:Nat):Nat:=if k<2 then n+1-k else(aa.getD (k-2) (0,0,0)).1
def ledF(aa:List Row):Nat->Nat->qE->Bool
 | 0,_,_=>false
 | f+1,k,s=>if k<=1 then decide (k=1/\s=[]) else
  let r:=aa.getD (k-2) (0,0,0)
  match s with
  | []=>ledF aa f r.2.1 []
  | x::xs=>if x<r.1 then false else if x=r.1 then ledF aa f r.2.2 xs else ledF aa f r.2.1 (x::xs)
def led(aa:List Row)(k:Nat)(s:qE):Bool:=ledF aa (k+1) k s
def Knot(aa:List Row)(k:Nat):Prop:=k<aa.length+2
section
variable{aa:List Row}
theorem Bj{k:Nat}(h:Knot aa k)(h2:2<=k):aa[k-2]?=pX (aa.getD (k-2) (0,0,0)):=by
 have:k-2<aa.length:=by unfold Knot at h;exact sN h h2
 rw[AL this,AD,AL this];rfl
theorem Ok.low(o:Ok n aa){r:Row}(h:aa[i]?=pX r):r.1<n/\r.2.1<i+2/\r.2.2<i+2/\r.1<rank n aa r.2.1/\r.1<rank n aa r.2.2/\Knot aa r.2.1/\Knot aa r.2.2:=by
 obtain⟨h1,h2,h3⟩:=o i r h;have hi:=(AF.mp h).1;have rk:∀l,Low aa r.1 (i+2) l->r.1<rank n aa l/\Knot aa l:=by
  intro l hl;obtain⟨a,b⟩:=hl;refine⟨?_,by unfold Knot;lia⟩;unfold rank;by_cases c:l<2
  .rw[p6 c];lia
  .rw[pZ c]
   rcases b with b| ⟨r',e,z⟩
   ·lia
   .rw[AD,e];exact z
 exact⟨h1,h2.1,h3.1,(rk _ h2).1,(rk _ h3).1,(rk _ h2).2,(rk _ h3).2⟩
theorem YW(o:Ok n aa):∀(f k:Nat) (s:qE),k<f->Knot aa k->ledF aa (f+1) k s=ledF aa f k s:=by
 intro f
 induction f with
 | zero=>intro k s h;lia
 | succ f ih =>
  intro k s hk kn;unfold ledF;by_cases c:k<=1
  .rw[p6 c,p6 c]
  rw[pZ c,pZ c];obtain⟨h1,h2,h3,_,_,k1,k2⟩:=o.low (Bj kn (uo c));have e1:∀s,ledF aa (f+1) (aa.getD (k-2) (0,0,0)).2.1 s=ledF aa f (aa.getD (k-2) (0,0,0)).2.1 s:=λs=>ih _ _ (uD h2 hk c) k1;have e2:∀s,ledF aa (f+1) (aa.getD (k-2) (0,0,0)).2.2 s=ledF aa f (aa.getD (k-2) (0,0,0)).2.2 s:=λs=>ih _ _ (uD h3 hk c) k2;cases s with
  | nil=>exact e1 _
  | cons x xs =>
   show(if _ then _ else if _ then ledF aa (f+1) _ _ else ledF aa (f+1) _ _)=_;rw[e1,e2]
theorem JW(o:Ok n aa){k:Nat}(s:qE)(kn:Knot aa k):∀d,ledF aa (k+1+d) k s=led aa k s
 | 0=>rfl
 | d+1=>by rw[show k+1+(d+1)=(k+1+d)+1 from tW,YW o _ k s (by lia) kn,JW o s kn d]
theorem Eh(s:qE):led aa 1 s=decide (s=[]):=by
 unfold led ledF;simp
theorem Cv(s:qE):led aa 0 s=false:=by
 unfold led ledF;simp
theorem Ek(o:Ok n aa){k:Nat}(kn:Knot aa k)(h2:2<=k):led aa k []=led aa (aa.getD (k-2) (0,0,0)).2.1 []:=by
 obtain⟨h1,k8,h3,_,_,k1,k2⟩:=o.low (Bj kn h2);unfold led
 conv=>lhs;unfold ledF
 rw[pZ (ux h2)];have:=JW o [] k1 (k-(aa.getD (k-2) (0,0,0)).2.1-1);rw[show(aa.getD (k-2) (0,0,0)).2.1+1+(k-(aa.getD (k-2) (0,0,0)).2.1-1)=k from ui k8 h2] at this;exact this
theorem CG(o:Ok n aa){k x:Nat}{xs:qE}(kn:Knot aa k)(h2:2<=k):led aa k (x::xs) =
  if x<(aa.getD (k-2) (0,0,0)).1 then false else if x=(aa.getD (k-2) (0,0,0)).1 then led aa (aa.getD (k-2) (0,0,0)).2.2 xs else led aa (aa.getD (k-2) (0,0,0)).2.1 (x::xs):=by
 obtain⟨h1,k8,h3,_,_,k1,k2⟩:=o.low (Bj kn h2);unfold led
 conv=>lhs;unfold ledF
 rw[pZ (ux h2)];have e1:=JW o (x::xs) k1 (k-(aa.getD (k-2) (0,0,0)).2.1-1);rw[show(aa.getD (k-2) (0,0,0)).2.1+1+(k-(aa.getD (k-2) (0,0,0)).2.1-1)=k from ui k8 h2] at e1;have e2:=JW o xs k2 (k-(aa.getD (k-2) (0,0,0)).2.2-1);rw[show(aa.getD (k-2) (0,0,0)).2.2+1+(k-(aa.getD (k-2) (0,0,0)).2.2-1)=k from ui h3 h2] at e2;show(if _ then _ else if _ then ledF aa k _ _ else ledF aa k _ _)=_;rw[e1,e2];rfl
def Way(n:Nat)(aa:List Row)(k:Nat)(s:qE):Prop:=led aa k s=true/\s.Pairwise (· < ·)/\∀x∈s,x<n/\rank n aa k<=x
theorem AAf(L:Least n aa){k:Nat}{s:qE}(kn:Knot aa k)(h2:2<=k)(w:Way n aa (aa.getD (k-2) (0,0,0)).2.2 s):Way n aa k ((aa.getD (k-2) (0,0,0)).1::s):=by
 obtain⟨w1,w2,w3⟩:=w;obtain⟨h1,k8,h3,r1,r2,k1,k2⟩:=L.ok.low (Bj kn h2);have rk:rank n aa k=(aa.getD (k-2) (0,0,0)).1:=by unfold rank;rw[pZ (qu h2)]
 refine⟨?_,?_,?_⟩
 .rw[CG L.ok kn h2,pZ sq,p6 rfl];exact w1
 .exact Sb (λx hx=>by have:=(w3 x hx).2;exact qm r2 this) w2
 .intro x hx
  rcases BF.mp hx with rfl| hx
  .exact⟨h1,rE rk⟩
  .have:=w3 x hx
   exact⟨this.1,by lia⟩
theorem ADH:Way n aa 1 []:=⟨by rw[Eh];rfl,.nil,λx hx=>nomatch hx⟩
theorem off(o:Ok n aa){b x:Nat}{xs:qE}(kb:Knot aa b)(h:x<rank n aa b):led aa b (x::xs)=false:=by
 unfold rank at h;by_cases c:b<2
 .have hb:b=0\/b=1:=sQ c
  rcases hb with rfl| rfl
  .exact Cv _
  .rw[Eh];rfl
 .rw[pZ c] at h
  rw[CG o kb (qf c),p6 h]
end
section
variable{t:Nat}{aa af new:List Row}
def tieOf(aa:List Row)(k:Nat):Nat:=(aa.getD (k-2) (0,0,0)).1
def outOf(aa:List Row)(k:Nat):Nat:=(aa.getD (k-2) (0,0,0)).2.1
def intoOf(aa:List Row)(k:Nat):Nat:=(aa.getD (k-2) (0,0,0)).2.2
structure Closed(aa:List Row)(rc:qE):Prop where
 two:∀k∈rc,2<=k
 knot:∀k∈rc,Knot aa k
 out:∀k∈rc,outOf aa k<=1\/outOf aa k∈rc
 into:∀k∈rc,intoOf aa k<=1\/intoOf aa k∈rc
structure Kept(n t:Nat)(aa:List Row)(rc:qE)(af:List Row)(pl:Nat->qP):Prop where
 least:Least n af
 ge:∀r∈af,t<=r.1
 z:pl 0=pX 0
 o:pl 1=pX 1
 has:∀k∈rc,t<=tieOf aa k->∃p,pl k=pX p/\Knot af p/\tieOf aa k<=rank n af p
theorem Yi(hn:∀k∈rc,tieOf aa k<n):Kept n n aa rc [] (λk=>if k=0 then pX 0 else if k=1 then pX 1 else pY) :=
 ⟨⟨λi r h=>by simp at h,λi r h=>by simp at h,λi j r h=>by simp at h⟩,λr h=>(nomatch h),rfl,rfl,λk hk h=>qB (hn k hk) (qu h)⟩
theorem KY{p:Nat}(h:Knot af p):rank n (af++new) p=rank n af p:=by
 unfold rank;by_cases c:p<2
 .rw[p6 c,p6 c]
 .rw[pZ c,pZ c,AD,AD,Bn (by unfold Knot at h;lia)]
theorem Fx{p:Nat}(h:Knot af p):Knot (af++new) p:=by unfold Knot at *;rw[Bz];lia
theorem Kept.low(I:Kept n (t+1) aa rc af pl)(o:Ok n aa)(hn:t<n){l:Nat}(h:l<=1\/l∈rc)(z:l<=1\/t<tieOf aa l):∃p,pl l=pX p/\Knot af p/\t<rank n af p:=by
 rcases C7 l 2 with c| c
 .have e:l=0\/l=1:=sQ c
  rcases e with rfl| rfl
  .exact⟨0,I.z,by unfold Knot;exact tF,by unfold rank;rw[p6 (by decide)];lia⟩
  .exact⟨1,I.o,by unfold Knot;exact tK,by unfold rank;rw[p6 (by decide)];lia⟩
 .have hr:=h.resolve_left (rV c)
  have hz:=z.resolve_left (rV c);obtain⟨p,h1,h2,h3⟩:=I.has l hr hz;exact⟨p,h1,h2,qm hz h3⟩
def rowIn(aa:List Row)(pl:Nat->qP)(k:Nat):Row:=(tieOf aa k,(pl (outOf aa k)).getD 0,(pl (intoOf aa k)).getD 0)
theorem Closed.low(c:Closed aa rc)(o:Ok n aa){k:Nat}(h:k∈rc):tieOf aa k<n/\(outOf aa k<=1\/tieOf aa k<tieOf aa (outOf aa k))/\(intoOf aa k<=1\/tieOf aa k<tieOf aa (intoOf aa k)):=by
 obtain⟨h1,h2,h3⟩:=o _ _ (Bj (c.knot k h) (c.two k h));refine⟨h1,h2.2.imp id λ⟨r,e,z⟩=>?_,h3.2.imp id λ⟨r,e,z⟩=>?_⟩
 .show(aa.getD (k-2) (0,0,0)).1<(aa.getD ((aa.getD (k-2) (0,0,0)).2.1-2) (0,0,0)).1
  rw[AD (l:=aa) (i:=(aa.getD (k-2) (0,0,0)).2.1-2),e];exact z
 .show(aa.getD (k-2) (0,0,0)).1<(aa.getD ((aa.getD (k-2) (0,0,0)).2.2-2) (0,0,0)).1
  rw[AD (l:=aa) (i:=(aa.getD (k-2) (0,0,0)).2.2-2),e];exact z
theorem Kept.row(I:Kept n (t+1) aa rc af pl)(c:Closed aa rc)(o:Ok n aa)(hn:t<n){k:Nat}(h:k∈rc)(ht:tieOf aa k=t) :
  ∃a b,pl (outOf aa k)=pX a/\pl (intoOf aa k)=pX b/\rowIn aa pl k=(t,a,b)/\Knot af a/\Knot af b/\t<rank n af a/\t<rank n af b:=by
 obtain⟨_,z1,z2⟩:=c.low o h;obtain⟨a,a1,a2,a3⟩:=I.low o hn (c.out k h) (by rw[<- ht];exact z1);obtain⟨b,b1,b2,b3⟩:=I.low o hn (c.into k h) (by rw[<- ht];exact z2);exact⟨a,b,a1,b1,by unfold rowIn;rw[a1,b1,ht];rfl,a2,b2,a3,b3⟩
theorem ABP{p k:Nat}(h:Knot af p)(hk:af.length+2<=k)(z:t<rank n af p):Low (af++new) t k p:=by
 refine⟨by unfold Knot at h;exact qm h hk,?_⟩;rcases C7 p 2 with c| c
 .exact .inl (r8 c)
 .refine .inr ⟨af.getD (p-2) (0,0,0),?_,?_⟩
  .rw[Bn (by unfold Knot at h;lia)]
   exact Bj h c
  .unfold rank at z
   rw[pZ (sO c)] at z;exact z
theorem Kept.step(I:Kept n (t+1) aa rc af pl)(c:Closed aa rc)(o:Ok n aa)(hn:t<n)(hw:∀r,r∈new->∃k,k∈rc/\tieOf aa k=t/\r=rowIn aa pl k/\r.2.2≠0)(nd:new.Nodup)
  (h1:∀k,k∉rc\/tieOf aa k≠t->fi k=pl k)
  (h2:∀k∈rc,tieOf aa k=t->∃p,fi k=pX p/\((∃i,(af++new)[i]?=pX (rowIn aa pl k)/\p=i+2)\/(rowIn aa pl k∉af++new/\p=(rowIn aa pl k).2.1))) :
  Kept n t aa rc (af++new) fi:=by
 have at_new:∀(i:Nat) (r:Row),af.length<=i->(af++new)[i]?=pX r->new[i-af.length]?=pX r:=λi r hi e=>by rw[Cc hi] at e;exact e
 have at_old:∀(i:Nat) (r:Row),i<af.length->(af++new)[i]?=pX r->af[i]?=pX r:=λi r hi e=>by rw[Bn hi] at e;exact e
 have tn:∀r∈new,∃a b,r=(t,a,b)/\b≠0/\Knot af a/\Knot af b/\t<rank n af a/\t<rank n af b:=λr hr=>by
  obtain⟨k,k1,k2,k3,k4⟩:=hw r hr;obtain⟨a,b,_,_,e,x1,x2,x3,x4⟩:=I.row c o hn k1 k2;rw[e] at k3;refine⟨a,b,k3,?_,x1,x2,x3,x4⟩;rw[k3] at k4;exact k4
 have two:∀k∈rc,k≠0/\k≠1:=λk hk=>by have:=c.two k hk;lia
 refine⟨⟨?_,?_,?_⟩,?_,?_,?_,?_⟩
 .intro i r e
  rcases C7 i af.length with hi| hi
  .obtain⟨z1,z2,z3⟩:=I.least.ok i r (at_old i r hi e)
   refine⟨z1,⟨z2.1,z2.2.imp id λ⟨q,e,z⟩=>⟨q,?_,z⟩⟩,⟨z3.1,z3.2.imp id λ⟨q,e,z⟩=>⟨q,?_,z⟩⟩⟩
   .rw[Bn (by have:=(AF.mp e).1;exact this)];exact e
   .rw[Bn (by have:=(AF.mp e).1;exact this)];exact e
  .obtain⟨a,b,rfl,_,x1,x2,x3,x4⟩:=tn r (By (at_new i r hi e))
   exact⟨hn,ABP x1 (v9 hi) x3,ABP x2 (v9 hi) x4⟩
 .intro i r e
  rcases C7 i af.length with hi| hi
  .exact I.least.pos i r (at_old i r hi e)
  .obtain⟨a,b,rfl,x,_⟩:=tn r (By (at_new i r hi e))
   exact x
 .intro i j r e1 e2
  have kq:∀(i j:Nat),i<af.length->af.length<=j->(af++new)[i]?=pX r->(af++new)[j]?=pX r->False:=λi j hi hj e1 e2=>by
   have g:=I.ge r (By (at_old i r hi e1));obtain⟨a,b,rfl,_⟩:=tn r (By (at_new j r hj e2));have g':=g;lia
  rcases C7 i af.length with hi| hi
  .rcases C7 j af.length with hj| hj
   .exact I.least.one i j r (at_old i r hi e1) (at_old j r hj e2)
   .exact(kq i j hi hj e1 e2).elim
  .rcases C7 j af.length with hj| hj
   .exact(kq j i hj hi e2 e1).elim
   .have a1:=at_new i r hi e1
    have a2:=at_new j r hj e2;have:=(KW (AF.mp a1).1 nd).mp (a1.trans a2.symm);lia
 .intro r hr
  rcases Cf.mp hr with hr| hr
  .have:=I.ge r hr;exact qy this
  .obtain⟨a,b,rfl,_⟩:=tn r hr
   exact AH t
 .rw[h1 0 (.inl λh=>(two 0 h).1 rfl)];exact I.z
 .rw[h1 1 (.inl λh=>(two 1 h).2 rfl)];exact I.o
 .intro k hk hJ
  by_cases e:tieOf aa k=t
  .obtain⟨p,p1,p2⟩:=h2 k hk e
   refine⟨p,p1,?_⟩;obtain⟨a,b,_,_,re,x1,x2,x3,x4⟩:=I.row c o hn hk e;rcases p2 with⟨i,i1,rfl⟩| ⟨i1,rfl⟩
   .have il:=(AF.mp i1).1
    refine⟨by unfold Knot;exact tG il,?_⟩;unfold rank;rw[pZ va,EN,AD,i1,re];show tieOf aa k<=t;exact rE e
   .rw[re]
    refine⟨Fx x1,?_⟩;rw[KY x1,e];exact DD x3
  .obtain⟨p,p1,p2,p3⟩:=I.has k hk (rH hJ e)
   exact⟨p,by rw[h1 k (.inr e)];exact p1,Fx p2,by rw[KY p2];exact p3⟩
end
section
variable{d t k1 k2 m1 m2:Nat}{ss:qD}{aa more bt b4:List Row}
theorem Ja{l k:Nat}(h:Low aa t k l):Low (aa++more) t k l:=⟨h.1,h.2.imp id λ⟨q,e,z⟩=>⟨q,by rw[Bn (AF.mp e).1];exact e,z⟩⟩
theorem AEt(o:Ok n aa)(ht:t<n)(h1:Low aa t (aa.length+2) k1)(h2:Low aa t (aa.length+2) k2):Ok n (aa++[(t,k1,k2)]):=by
 intro j r e;rcases C7 j aa.length with c| c
 .rw[Bn c] at e
  obtain⟨z1,z2,z3⟩:=o j r e;exact⟨z1,Ja z2,Ja z3⟩
 .rw[Cc c] at e
  have j0:j=aa.length:=by
   have:=(AF.mp e).1;simp at this;lia
  subst j0;rw[HH] at e;cases e;exact⟨ht,Ja h1,Ja h2⟩
theorem SX{k:Nat}(kn:Knot aa k)(up:k<=1\/t+1<=tieOf aa k):Low aa t (aa.length+2) k:=by
 refine⟨kn,?_⟩;rcases C7 k 2 with c| c
 .exact .inl (r8 c)
 .exact .inr ⟨_,Bj kn c,by have:=up.resolve_left (rV c);unfold tieOf at this;exact uJ this⟩
theorem ABz{k:Nat}(kn:Knot aa k)(h2:2<=k):tieOf (aa++more) k=tieOf aa k:=by
 unfold tieOf;rw[AD,AD,Bn (by unfold Knot at kn;exact sN kn h2)]
end
section
variable{t:Nat}{aa af new more:List Row}
theorem AAa(o:Ok n aa):∀(f k:Nat) (s:qE),Knot aa k->ledF (aa++more) f k s=ledF aa f k s:=by
 intro f
 induction f with
 | zero=>intro k s h;rfl
 | succ f ih =>
  intro k s kn;unfold ledF;by_cases c:k<=1
  .rw[p6 c,p6 c]
  rw[pZ c,pZ c];have eg:(aa++more).getD (k-2) (0,0,0)=aa.getD (k-2) (0,0,0):=by
   rw[AD,AD,Bn (by unfold Knot at kn;lia)]
  obtain⟨h1,h2,h3,_,_,k1,k2⟩:=o.low (Bj kn (uo c));rw[eg];cases s with
  | nil=>exact ih _ _ k1
  | cons x xs =>
   show(if _ then _ else if _ then ledF (aa++more) f _ _ else ledF (aa++more) f _ _)=_;rw[ih _ _ k1,ih _ _ k2]
theorem DQ(o:Ok n aa){k:Nat}(s:qE)(kn:Knot aa k):led (aa++more) k s=led aa k s:=AAa o _ _ _ kn
def RowLt(a b:Row):Prop:=b.1<a.1\/(a.1=b.1/\(a.2.1<b.2.1\/(a.2.1=b.2.1/\a.2.2<b.2.2)))
structure Kept2(n t:Nat)(aa:List Row)(rc:qE)(af:List Row)(pl:Nat->qP):Prop where
 base:Kept n t aa rc af pl
 sem:∀k∈rc,t<=tieOf aa k->∀p,pl k=pX p->∀s,led af p s=led aa k s
 img:∀k∈rc,t<=tieOf aa k->∀p,pl k=pX p->(2<=p/\af[p-2]?=pX (rowIn aa pl k))\/((rowIn aa pl k).2.2=0/\p=(rowIn aa pl k).2.1)
 sur:∀(i:Nat) (r:Row),af[i]?=pX r->∃k∈rc,t<=tieOf aa k/\pl k=pX (i+2)
 srt:af.Pairwise RowLt
theorem VH(hn:∀k∈rc,tieOf aa k<n):Kept2 n n aa rc [] (λk=>if k=0 then pX 0 else if k=1 then pX 1 else pY) :=
 ⟨Yi hn,λk hk h=>qB (hn k hk) (qu h),λk hk h=>qB (hn k hk) (qu h),λi r h=>by simp at h,.nil⟩
theorem Tt(c:Closed aa rc)(o:Ok n aa)(h1:∀k,k∉rc\/tieOf aa k≠t->fi k=pl k){k:Nat}(hk:k∈rc)(ht:t<=tieOf aa k):rowIn aa fi k=rowIn aa pl k:=by
 have two:∀k,k<=1->k∉rc:=λk h z=>by have:=c.two k z;exact vM this h
 obtain⟨_,z1,z2⟩:=c.low o hk;have e1:fi (outOf aa k)=pl (outOf aa k):=by
  rcases z1 with z| z
  .exact h1 _ (.inl (two _ z))
  .exact h1 _ (.inr (vN ht z))
 have e2:fi (intoOf aa k)=pl (intoOf aa k):=by
  rcases z2 with z| z
  .exact h1 _ (.inl (two _ z))
  .exact h1 _ (.inr (vN ht z))
 unfold rowIn;rw[e1,e2]
theorem Kept2.low(I:Kept2 n (t+1) aa rc af pl){l p:Nat}(h:l<=1\/l∈rc)(z:l<=1\/t<tieOf aa l)(hp:pl l=pX p)(s:qE):led af p s=led aa l s:=by
 rcases C7 l 2 with c| c
 .have e:l=0\/l=1:=sQ c
  rcases e with rfl| rfl
  .rw[I.base.z] at hp
   cases hp;rw[Cv,Cv]
  .rw[I.base.o] at hp
   cases hp;rw[Eh,Eh]
 .exact I.sem l (h.resolve_left (rV c)) (z.resolve_left (rV c)) p hp s
theorem Kept2.step(I:Kept2 n (t+1) aa rc af pl)(c:Closed aa rc)(o:Ok n aa)(hn:t<n)(hw:∀r,r∈new->∃k,k∈rc/\tieOf aa k=t/\r=rowIn aa pl k/\r.2.2≠0)(nd:new.Nodup)
  (hw2:∀k∈rc,tieOf aa k=t->(rowIn aa pl k).2.2≠0->rowIn aa pl k∈new) (so:new.Pairwise RowLt)
  (h1:∀k,k∉rc\/tieOf aa k≠t->fi k=pl k)
  (h2:∀k∈rc,tieOf aa k=t->∃p,fi k=pX p/\((∃i,(af++new)[i]?=pX (rowIn aa pl k)/\p=i+2)\/(rowIn aa pl k∉af++new/\p=(rowIn aa pl k).2.1))) :
  Kept2 n t aa rc (af++new) fi:=by
 have B:=I.base.step c o hn hw nd h1 h2;have kH:=I.base.least.ok;have at_:∀k∈rc,tieOf aa k=t->∀p,fi k=pX p->(∃i,(af++new)[i]?=pX (rowIn aa pl k)/\p=i+2)\/((rowIn aa pl k).2.2=0/\p=(rowIn aa pl k).2.1):=λk hk ht p hp=>by
  obtain⟨p',e,h⟩:=h2 k hk ht;rw[hp] at e;cases e;rcases h with h| ⟨nm,e⟩
  .exact .inl h
  .refine .inr ⟨?_,e⟩
   rcases Sn (rowIn aa pl k).2.2 with z| z
   .exact z
   .exact qB (B4 _ (hw2 k hk ht (by lia))) nm
 have b6:∀k∈rc,t+1<=tieOf aa k->∀p,fi k=pX p->pl k=pX p:=λk hk ht p hp=>by rw[h1 k (.inr (vO ht))] at hp;exact hp
 refine⟨B,λk hk ht p hp s=>?_,λk hk ht p hp=>?_,λi r e=>?_,?_⟩
 .by_cases e:tieOf aa k=t
  .obtain⟨a,b,ea,eb,re,x1,x2,x3,x4⟩:=I.base.row c o hn hk e
   obtain⟨_,z1,z2⟩:=c.low o hk;have la:=I.low (c.out k hk) (by rw[<- e];exact z1) ea;have lb:=I.low (c.into k hk) (by rw[<- e];exact z2) eb;have kk:=c.knot k hk;have k2:=c.two k hk;have et:(aa.getD (k-2) (0,0,0)).1=t:=e;rcases at_ k hk e p hp with⟨i,hi,rfl⟩| ⟨w0,rfl⟩
   .have il:=(AF.mp hi).1
    have kp:Knot (af++new) (i+2):=by unfold Knot;exact tG il
    have eg:(af++new).getD (i+2-2) (0,0,0)=(t,a,b):=by rw[EN,AD,hi,re];rfl
    cases s with
    | nil =>
     rw[Ek B.least.ok kp qt,eg,Ek o kk k2];rw[DQ kH [] x1];exact la []
    | cons x xs =>
     rw[CG B.least.ok kp qt,eg,CG o kk k2,et];rw[DQ kH _ x1,DQ kH _ x2,la,lb];rfl
   .rw[re] at w0
    have b0:b=0:=w0;rw[re];rw[DQ kH _ x1,la];have oE:∀s,led aa (intoOf aa k) s=false:=λs=>by rw[<- lb,b0,Cv]
    have oq:∀x xs,x<=t->led aa (outOf aa k) (x::xs)=false:=λx xs h=>by rw[<- la];exact off kH x1 (qq h x3)
    cases s with
    | nil=>rw[Ek o kk k2];rfl
    | cons x xs =>
     rw[CG o kk k2,et];by_cases c1:x<t
     .rw[p6 c1];exact oq x xs (rY c1)
     .rw[pZ c1]
      by_cases c2:x=t
      .rw[p6 c2]
       show _=led aa (intoOf aa k) xs;rw[oE];exact oq x xs (rE c2)
      .rw[pZ c2];rfl
  .have oR:=b6 k hk (rH ht e) p hp
   obtain⟨p',e1,e2,_⟩:=I.base.has k hk (rH ht e);rw[oR] at e1;cases e1;rw[DQ kH s e2];exact I.sem k hk (rH ht e) p oR s
 .rw[Tt c o h1 hk ht]
  by_cases e:tieOf aa k=t
  .rcases at_ k hk e p hp with⟨i,hi,rfl⟩| h
   .exact .inl ⟨qt,hi⟩
   .exact .inr h
  .rcases I.img k hk (rH ht e) p (b6 k hk (rH ht e) p hp) with⟨h2,h3⟩| h
   .refine .inl ⟨h2,?_⟩
    rw[Bn (AF.mp h3).1];exact h3
   .exact .inr h
 .rcases C7 i af.length with hi| hi
  .rw[Bn hi] at e
   obtain⟨k,hk,ht,hp⟩:=I.sur i r e;exact⟨k,hk,qy ht,by rw[h1 k (.inr (vO ht))];exact hp⟩
  .have e':=e
   rw[Cc hi] at e';obtain⟨k,hk,ht,rfl,w0⟩:=hw r (By e');obtain⟨p,hp,h⟩:=h2 k hk ht;refine⟨k,hk,qK ht,?_⟩;rcases h with⟨j,hj,rfl⟩| ⟨nm,_⟩
   .rw[B.least.one i j _ e hj]
    exact hp
   .exact qB (By e) nm
 .refine CD.mpr ⟨I.srt,so,λa ha b hb=>.inl ?_⟩
  have:=I.base.ge a ha;obtain⟨k,_,hk,rfl,_⟩:=hw b hb;show tieOf aa k<a.1;lia
structure Canon(n:Nat)(af:List Row)(top:Nat):Prop where
 least:Least n af
 srt:af.Pairwise RowLt
 knot:Knot af top
 led:∀p,2<=p->Knot af p->p=top\/∃r∈af,r.2.1=p\/r.2.2=p
theorem Kept2.canon(I:Kept2 n 0 aa rc af pl)(c:Closed aa rc)(o:Ok n aa){top:Nat}(ht:top<=1\/top∈rc)(hp:pl top=pX hd)(par:∀k∈rc,k=top\/∃k'∈rc,k<k'/\(outOf aa k'=k\/intoOf aa k'=k)) :
  Canon n af hd/\∀s,led af hd s=led aa top s:=by
 have key:∀d k p,k∈rc->aa.length+2-k<=d->pl k=pX p->2<=p->p=hd\/∃r∈af,r.2.1=p\/r.2.2=p:=by
  intro d
  induction d with
  | zero =>
   intro k p hk dq _ _;have:=c.knot k hk;unfold Knot at this;lia
  | succ d ih =>
   intro k p hk dq lj p2;rcases par k hk with rfl| ⟨k',a5,lt,ch⟩
   .rw[hp] at lj
    exact .inl (A8 lj).symm
   .obtain⟨p',oR,_⟩:=I.base.has k' a5 (BD _)
    have im:=I.img k' a5 (BD _) p' oR;rcases ch with e| e
    .have ep:(rowIn aa pl k').2.1=p:=by
      show(pl (outOf aa k')).getD 0=p;rw[e,lj];rfl
     rcases im with⟨_,h3⟩| ⟨_,h4⟩
     .exact .inr ⟨_,By h3,.inl ep⟩
     .rw[ep] at h4
      subst h4;have:=c.knot k' a5;unfold Knot at this;exact ih k' p' a5 (vP dq lt) oR p2
    .have ep:(rowIn aa pl k').2.2=p:=by
      show(pl (intoOf aa k')).getD 0=p;rw[e,lj];rfl
     rcases im with⟨_,h3⟩| ⟨h4,_⟩
     .exact .inr ⟨_,By h3,.inr ep⟩
     ·lia
 refine⟨⟨I.base.least,I.srt,?_,λp p2 kp=>?_⟩,λs=>?_⟩
 .rcases ht with h| h
  .have:top=0\/top=1:=tL h
   rcases this with rfl| rfl
   .rw[I.base.z] at hp;cases hp;unfold Knot;exact tF
   .rw[I.base.o] at hp;cases hp;unfold Knot;exact tK
  .obtain⟨p,e,kn,_⟩:=I.base.has top h (BD _)
   rw[hp] at e;cases e;exact kn
 .obtain⟨k,hk,_,lj⟩:=I.sur (p-2) _ (Bj kp p2)
  rw[show p-2+2=p from tT p2] at lj;exact key _ k p hk (AH _) lj p2
 .rcases ht with h| h
  .have:top=0\/top=1:=tL h
   rcases this with rfl| rfl
   .rw[I.base.z] at hp;cases hp;rw[Cv,Cv]
   .rw[I.base.o] at hp;cases hp;rw[Eh,Eh]
  .exact I.sem top h (BD _) hd hp s
end
section
variable{A B:List Row}{a b k:Nat}
theorem LQ(L:Least n A):∀(f k:Nat),k<f->Knot A k->k≠0->∃s,Way n A k s/\(2<=k->∃xs,s=rank n A k::xs)/\(k=1->s=[])
 | 0,k,h,_,_=>by lia
 | f+1,k,h,kn,k0=>by
  rcases C7 k 2 with c| c
  .have e:k=1:=by lia
   subst e;exact⟨[],ADH,λz=>by lia,λ_=>rfl⟩
  .obtain⟨_,_,h3,_,_,_,k2⟩:=L.ok.low (Bj kn c)
   have w0:=L.pos _ _ (Bj kn c);obtain⟨s,hs,_⟩:=LQ L f _ (uf h3 h c) k2 w0;refine⟨_,AAf L kn c hs,λ_=>⟨s,?_⟩,λz=>by lia⟩;unfold rank;rw[pZ (sO c)]
structure Sim(A B:List Row)(k k':Nat):Prop where
 ka:Knot A k
 kb:Knot B k'
 eq:∀s,led A k s=led B k' s
theorem Sim.symm(S:Sim A B k k'):Sim B A k' k:=⟨S.kb,S.ka,λs=>(S.eq s).symm⟩
theorem Sim.no(LA:Least n A)(LB:Least n B)(S:Sim A B k k'):¬ rank n A k<rank n B k':=λh=>by
 have k0:k≠0:=λe=>by
  subst e;have:rank n B k'<=n+1:=by
   unfold rank;by_cases c:k'<2
   .rw[p6 c];exact qI
   .rw[pZ c]
    have:=(LB.ok.low (Bj S.kb (qf c))).1;lia
  have e:rank n A 0=n+1:=by unfold rank;rw[p6 (by decide)];rfl
  lia
 obtain⟨s,⟨w1,_,_⟩,s2,s1⟩:=LQ LA _ k (F6 _) S.ka k0;rcases C7 k 2 with c| c
 .have e:k=1:=by lia
  subst e;rw[s1 rfl,S.eq] at w1;have e1:rank n A 1=n:=by unfold rank;rw[p6 (by decide)];rfl
  have k1:k'=0:=by
   unfold rank at h e1;rw[e1] at h;by_cases c':k'<2
   .rw[p6 c'] at h;lia
   .rw[pZ c'] at h
    have:=(LB.ok.low (Bj S.kb (qf c'))).1;lia
  rw[k1,Cv] at w1;cases w1
 .obtain⟨xs,rfl⟩:=s2 c
  rw[S.eq,off LB.ok S.kb h] at w1;cases w1
theorem Sim.rank_eq(LA:Least n A)(LB:Least n B)(S:Sim A B k k'):rank n A k=rank n B k':=by
 have h1:=S.no LA LB;have h2:=S.symm.no LB LA;lia
theorem HS(L:Least n A)(kn:Knot A k):2<=k↔rank n A k<n:=by
 unfold rank;constructor
 .intro h
  rw[pZ (qu h)];exact(L.ok.low (Bj kn h)).1
 .intro h
  rcases C7 k 2 with c| c
  .rw[p6 c] at h;lia
  .exact c
theorem Sim.small(LA:Least n A)(LB:Least n B)(S:Sim A B k k')(h:k<=1):k=k':=by
 have e:=S.rank_eq LA LB;have z:=HS LA S.ka;have z':=HS LB S.kb;have:¬ 2<=k':=λc=>by have:=z'.mp c;rw[<- e] at this;have:=z.mpr this;exact vM this h
 unfold rank at e;rw[p6 (by lia),p6 (sj this)] at e;lia
theorem Sim.child(LA:Least n A)(LB:Least n B)(S:Sim A B k k')(h:2<=k):2<=k'/\tieOf A k=tieOf B k'/\Sim A B (outOf A k) (outOf B k')/\Sim A B (intoOf A k) (intoOf B k'):=by
 have e:=S.rank_eq LA LB;have k2:=(HS LB S.kb).mpr (by rw[<- e];exact(HS LA S.ka).mp h);have et:tieOf A k=tieOf B k':=by
  unfold rank at e;rw[pZ (qu h),pZ (qu k2)] at e;exact e
 obtain⟨_,_,_,ra,_,ka1,ka2⟩:=LA.ok.low (Bj S.ka h);obtain⟨_,_,_,rb,_,kb1,kb2⟩:=LB.ok.low (Bj S.kb k2);refine⟨k2,et,⟨ka1,kb1,λs=>?_⟩,⟨ka2,kb2,λs=>?_⟩⟩
 .cases s with
  | nil =>
   have:=S.eq [];rw[Ek LA.ok S.ka h,Ek LB.ok S.kb k2] at this;exact this
  | cons x xs =>
   by_cases c:x<=tieOf A k
   .rw[show led A (outOf A k) (x::xs)=false from off LA.ok ka1 (by show x<rank n A (A.getD (k-2) (0,0,0)).2.1;unfold tieOf at c;exact qq c ra),show led B (outOf B k') (x::xs)=false from off LB.ok kb1 (by show x<rank n B (B.getD (k'-2) (0,0,0)).2.1;unfold tieOf at c et;lia)]
   .have:=S.eq (x::xs)
    rw[CG LA.ok S.ka h,CG LB.ok S.kb k2] at this;unfold tieOf at c et;rw[pZ (u3 c),pZ (u4 c),pZ (by lia),pZ (by lia)] at this;exact this
 .have:=S.eq (tieOf A k::s)
  rw[CG LA.ok S.ka h,CG LB.ok S.kb k2] at this;unfold tieOf at this et;rw[pZ sq,p6 rfl,pZ (by lia),p6 et] at this;exact this
end
def up(s:qE):qC:=s.map λ(x:Nat)=>(x:Int)
theorem ABH:∀{s u:qE},up s=up u->s=u
 | [],[],_=>rfl
 | [],_::_,h=>by cases h
 | _::_,[],h=>by cases h
 | x::s,y::u,h=>by
  have h':(x:Int)::up s=(y:Int)::up u:=h;injection h' with h1 h2
  rw[ABH h2,M7 h1]
theorem Xm{aa af:List Row}(I:Kept2 n 0 aa rc af pl)(c:Closed aa rc):af.length<=aa.length:=by
 have ex:∀i,i<af.length->∃k,k∈rc/\pl k=pX (i+2):=λi hi=>by
  obtain⟨k,hk,_,e⟩:=I.sur i _ (AL hi);exact⟨k,hk,e⟩
 let g:Nat->Nat:=λi=>if h:i<af.length then EO (ex i h) else 0
 have hg:∀i,i<af.length->g i∈rc/\pl (g i)=pX (i+2):=λi hi=>by
  have z:=Fn (ex i hi);show(if h:i<af.length then EO (ex i h) else 0)∈rc/\pl (if h:i<af.length then EO (ex i h) else 0)=pX (i+2);rw[dif_pos hi];exact z
 have nd:((AO af.length).map g).Nodup:=by
  unfold Ha;rw[B5];refine C8 (λ{a b} ha hb h e=>?_) (HK (n:=af.length));have h1:=(hg a (AV.mp ha)).2;have h2:=(hg b (AV.mp hb)).2;rw[e,h2] at h1;injection h1 with h1
  lia
 have z:=ST.Bb nd (l₂:=(AO aa.length).map (·+2)) λx hx=>by
  obtain⟨i,hi,rfl⟩:=AY.mp hx;have hk:=(hg i (AV.mp hi)).1;have a:=c.two _ hk;have b:g i<aa.length+2:=c.knot _ hk;exact AY.mpr ⟨g i-2,AV.mpr (by lia),by lia⟩
 rw[AB,AB,B0,B0] at z;exact z
section
variable{t:Nat}{A aa af:List Row}
theorem Sim.inj(L:Least n A):∀(f k k':Nat),k<f->Sim A A k k'->k=k':=by
 intro f
 induction f with
 | zero=>intro k k' h;lia
 | succ f ih =>
  intro k k' hk S;rcases C7 k 2 with c| c
  .exact S.small L L (r8 c)
  .obtain⟨c',et,so,si⟩:=S.child L L c
   have ra:=Bj S.ka c;have rb:=Bj S.kb c';obtain⟨_,a1,a2,_⟩:=L.ok.low ra;have e1:=ih _ _ (by show(A.getD (k-2) (0,0,0)).2.1<f;exact uf a1 hk c) so;have e2:=ih _ _ (by show(A.getD (k-2) (0,0,0)).2.2<f;exact uf a2 hk c) si;have er:=QN et (QN e1 e2);rw[er] at ra;have:=L.one _ _ _ ra rb;lia
theorem Vz(L:Least n A){a b:Nat}(ka:Knot A a)(kb:Knot A b)(h:∀s,led A a s=led A b s):a=b:=Sim.inj L (a+1) a b (F6 _) ⟨ka,kb,h⟩
theorem YJ{P:Nat->Prop}{top:Nat}(pt:P top)(ps:∀k,P k->2<=k->Knot aa k->P (outOf aa k)/\P (intoOf aa k))(c:Closed aa rc)(par:∀k∈rc,k=top\/∃k'∈rc,k<k'/\(outOf aa k'=k\/intoOf aa k'=k)):∀(d k:Nat),aa.length+2-k<=d->k∈rc->P k:=by
 intro d
 induction d with
 | zero=>intro k h hk;have:k<aa.length+2:=c.knot k hk;lia
 | succ d ih =>
  intro k h hk;rcases par k hk with rfl| ⟨k',a5,lt,e⟩
  .exact pt
  .have:k<aa.length+2:=c.knot k hk
   have z:=ps k' (ih k' (vP h lt) a5) (c.two k' a5) (c.knot k' a5);rcases e with rfl| rfl
   .exact z.1
   .exact z.2
def lowH(t:Nat):qE->Bool
 | []=>false
 | x::_=>decide (x<=t)
end
section
variable{A aa more:List Row}{k:Nat}
theorem ADX(aa:List Row)(r:Row):(aa++[r]).getD (aa.length+2-2) (0,0,0)=r:=by
 rw[EN,AD,Cc rG,HH];rfl
theorem ZR(aa:List Row)(r:Row):Knot (aa++[r]) (aa.length+2):=by
 unfold Knot;rw[Bz,D7];lia
theorem Yc{t:Nat}(ks:qE)(hk:∀k∈ks,2<=k/\Knot A k/\tieOf A k=t)(nd:ks.Nodup):ks.length<=(A.filter λr=>decide (r.1=t)).length:=by
 have kS:∀i∈(ks.map (· - 2)),i<A.length/\(A.getD i (0,0,0)).1=t:=λi hi=>by
  obtain⟨k,a5,rfl⟩:=AY.mp hi;obtain⟨k2,kn,ht⟩:=hk k a5;exact⟨by unfold Knot at kn;exact sN kn k2,ht⟩
 have nd2:(ks.map (· - 2)).Nodup:=by
  unfold Ha;rw[B5];refine C8 (λ{a b} ha hb h e=>h ?_) nd;have:=(hk a ha).1;have:=(hk b hb).1;lia
 have z:=ST.Bb nd2 (l₂:=(AO A.length).filter λi=>decide ((A.getD i (0,0,0)).1=t)) λi hi=>by
  obtain⟨h1,h2⟩:=kS i hi;exact BV.mpr ⟨AV.mpr h1,p7 h2⟩
 rw[AB] at z;refine BQ z (NU ?_);have e:A=(AO A.length).map λi=>A.getD i (0,0,0):=by
  apply FR;intro i;rw[Bi];by_cases c:i<A.length
  .rw[F3 c,AL c]
   simp[AD,c]
  .rw[D8 (qf c),D8 (by rw[B0];exact qf c)]
   rfl
 conv=>rhs;rw[e,OM,AB]
 rfl
def behind(aa:List Row)(t:Nat)(ks:qE):qE:=ks.filter λk=>decide (k<2)||decide (t<tieOf aa k)
end
def addRow(S:List (List qE))(r:Row):List (List qE):=S++[S.getD r.2.1 []++(S.getD r.2.2 []).map (r.1::·)]
def setsUp(aa:List Row):List (List qE):=aa.foldl addRow [[],[[]]]
def setsOf(aa:List Row)(k:Nat):List qE:=(setsUp aa).getD k []
theorem Fg(aa:List Row)(r:Row):setsUp (aa++[r])=addRow (setsUp aa) r:=by unfold setsUp;rw[List.foldl_append];rfl
theorem DG:∀(aa:List Row),(setsUp aa).length=aa.length+2:=by
 intro aa
 suffices h:∀(l:List Row) (S:List (List qE)),(l.foldl addRow S).length=S.length+l.length by
  unfold setsUp;rw[h];show 2+_=_;lia
 intro l
 induction l with
 | nil=>intro S;simp
 | cons a l ih =>
  intro S;rw[ON,ih];unfold addRow;rw[Bz];simp;exact rq
def num(n:Nat):qE->Nat
 | []=>0
 | x::xs=>2 ^ (n-1-x)+num n xs
theorem QV{n:Nat}:∀{s:qE}{t:Nat},s.Pairwise (· < ·)->(∀x∈s,t<=x/\x<n)->num n s<2 ^ (n-t)
 | [],t,_,_=>Nat.two_pow_pos _
 | x::xs,t,h,hr=>by
  obtain⟨h1,h2⟩:=CO.mp h;obtain⟨x1,x2⟩:=hr x AI;have ih:=QV (t:=x+1) h2 λy hy=>⟨h1 y hy,(hr y (AJ _ hy)).2⟩;have e:2 ^ (n-x)=2 ^ (n-1-x)+2 ^ (n-1-x):=by
   rw[show n-x=(n-1-x)+1 by lia,LX];exact tQ
  have le:2 ^ (n-x)<=2 ^ (n-t):=Hb (by decide) (u9 x1);have e2:n-(x+1)=n-1-x:=tH;rw[e2] at ih;show 2 ^ (n-1-x)+num n xs<_;lia
section
variable{aa:List Row}
structure InOrder(n:Nat)(aa:List Row)(k:Nat)(L:List qE):Prop where
 mem:∀s,s∈L↔led aa k s=true
 ord:L.Pairwise λs u=>num n s<num n u
 way:∀s∈L,s.Pairwise (· < ·)/\∀x∈s,rank n aa k<=x/\x<n
theorem ZQ{l m:List α}{k:Nat}{d:α}(h:k<l.length):(l++m).getD k d=l.getD k d:=by
 rw[AD,AD,Bn h]
theorem UG(o:Ok n aa)(r:Row){k:Nat}(kn:Knot aa k):setsOf (aa++[r]) k=setsOf aa k:=by
 unfold setsOf;rw[Fg];unfold addRow;exact ZQ (by rw[DG];exact kn)
theorem Vs(aa:List Row)(r:Row):setsOf (aa++[r]) (aa.length+2)=setsOf aa r.2.1++(setsOf aa r.2.2).map (r.1::·):=by
 unfold setsOf;rw[Fg];unfold addRow;rw[AD,Cc (by rw[DG];exact AH _),DG,HH];rfl
theorem InOrder.app(o:Ok n aa){r:Row}{k:Nat}(kn:Knot aa k)(I:InOrder n aa k L):InOrder n (aa++[r]) k L :=
 ⟨λs=>by rw[DQ o s kn];exact I.mem s,I.ord,λs hs=>by rw[KY kn];exact I.way s hs⟩
theorem HN{r:Row}(o:Ok n (aa++[r])):Ok n aa:=λi q e=>by
 have il:=(AF.mp e).1;obtain⟨h1,h2,h3⟩:=o i q (by rw[Bn il];exact e);have low:∀l,Low (aa++[r]) q.1 (i+2) l->Low aa q.1 (i+2) l:=λl ⟨a,b⟩=>⟨a,b.imp id λ⟨u,e,z⟩=>⟨u,by rw[Bn (by lia)] at e;exact e,z⟩⟩;exact⟨h1,low _ h2,low _ h3⟩
theorem HW:∀(m:Nat) (aa:List Row),aa.length=m->Ok n aa->∀k,Knot aa k->InOrder n aa k (setsOf aa k):=by
 intro m
 induction m with
 | zero =>
  intro aa h o k kn;have e:=HZ.mp h;subst e;have:k=0\/k=1:=by unfold Knot at kn;simp at kn;exact sQ kn
  rcases this with rfl| rfl
  .refine⟨λs=>?_,.nil,λs hs=>by cases hs⟩
   rw[Cv];exact⟨λh=>(by cases h),λh=>(by cases h)⟩
  .refine⟨λs=>?_,FX _ _,λs hs=>?_⟩
   .rw[Eh,decide_eq_true_iff]
    exact Cb
   .rw[Cb.mp hs]
    exact⟨.nil,λx hx=>by cases hx⟩
 | succ m ih =>
  intro aa h o k kn;have ne:aa≠[]:=λe=>by rw[e] at h;cases h
  obtain⟨init,r,rfl⟩:∃init r,aa=init++[r]:=⟨aa.dropLast,aa.getLast ne,(List.dropLast_concat_getLast ne).symm⟩;have hl:init.length=m:=by simpa using h
  have oi:=HN o;have I:=ih init hl oi;by_cases c:k<init.length+2
  .rw[UG oi r c]
   exact(I k c).app oi c
  .have ek:k=init.length+2:=by unfold Knot at kn;simp at kn;lia
   subst ek;have hi:(init++[r])[init.length]?=pX r:=by simp
   obtain⟨t1,l1,l2,r1,r2,_,_⟩:=o.low hi;have kn1:=l1;have kn2:=l2;have I1:=(I _ kn1).app (r:=r) oi kn1;have I2:=(I _ kn2).app (r:=r) oi kn2;have eg:(init++[r]).getD (init.length+2-2) (0,0,0)=r:=by rw[EN,AD,hi];rfl
   have rk:rank n (init++[r]) (init.length+2)=r.1:=by unfold rank;rw[pZ va,eg]
   rw[Vs];refine⟨λs=>?_,?_,λs hs=>?_⟩
   .rw[Cf,AY]
    cases s with
    | nil =>
     rw[Ek o kn qt,eg,I1.mem];exact⟨λh=>h.elim id λ⟨u,_,e⟩=>(by cases e),.inl⟩
    | cons x xs =>
     rw[CG o kn qt,eg,I1.mem];by_cases c1:x<r.1
     .rw[p6 c1]
      refine⟨λh=>?_,λh=>by cases h⟩;rcases h with h| ⟨u,_,e⟩
      .rw[off o (Fx kn1) (qj c1 r1)] at h;exact h
      .injection e with e _;lia
     .rw[pZ c1]
      by_cases c2:x=r.1
      .rw[p6 c2]
       subst c2;refine⟨λh=>?_,λh=>.inr ⟨xs,(I2.mem xs).mpr h,rfl⟩⟩;rcases h with h| ⟨u,hu,e⟩
       .rw[off o (Fx kn1) r1] at h;cases h
       .injection e with _ e
        rw[<- e];exact(I2.mem u).mp hu
      .rw[pZ c2]
       refine⟨λh=>h.elim id λ⟨u,_,e⟩=>(by injection e with e _;lia),.inl⟩
   .refine CD.mpr ⟨I1.ord,?_,λs hs u hu=>?_⟩
    .rw[B5]
     exact I2.ord.imp λ{a b} h=>by show 2 ^ _+_<2 ^ _+_;exact vb h
    .obtain⟨v,hv,rfl⟩:=AY.mp hu
     obtain⟨w1,w2⟩:=I1.way s hs;have:=QV (n:=n) (t:=r.1+1) w1 λx hx=>⟨by have:=(w2 x hx).1;lia,(w2 x hx).2⟩;rw[show n-(r.1+1)=n-1-r.1 from tH] at this;show _<2 ^ (n-1-r.1)+_;exact qw this
   .rw[rk]
    rcases Cf.mp hs with hs| hs
    .obtain⟨w1,w2⟩:=I1.way s hs
     exact⟨w1,λx hx=>⟨by have:=(w2 x hx).1;exact tX r1 this,(w2 x hx).2⟩⟩
    .obtain⟨v,hv,rfl⟩:=AY.mp hs
     obtain⟨w1,w2⟩:=I2.way v hv;refine⟨.cons (λx hx=>by have:=(w2 x hx).1;exact qm r2 this) w1,λx hx=>?_⟩;rcases BF.mp hx with rfl| hx
     .exact⟨AH _,t1⟩
     .exact⟨by have:=(w2 x hx).1;exact tX r2 this,(w2 x hx).2⟩
end
abbrev Sta:=qC
section
variable{t k:Nat}{aa more:List Row}{f:qE->Bool}
structure Lead(aa:List Row)(t k:Nat)(f:qE->Bool):Prop where
 kn:Knot aa k
 up:k<=1\/t<=tieOf aa k
 eq:∀s,led aa k s=f s
theorem Lead.app(o:Ok n aa)(h:Lead aa t k f):Lead (aa++more) t k f:=by
 refine⟨Fx h.kn,?_,λs=>by rw[DQ o s h.kn,h.eq]⟩;rcases C7 1 k with c| c
 .rw[ABz h.kn c];exact h.up
 .exact .inl c
theorem Np(h:∀s,f s=false):Lead aa t 0 f:=⟨by unfold Knot;exact tF,.inl sk,λs=>by rw[Cv,h]⟩
theorem Zy(h:∀s,f s=decide (s=[])):Lead aa t 1 f:=⟨by unfold Knot;exact tK,.inl rG,λs=>by rw[Eh,h]⟩
def Cnt(t:Nat)(more:List Row):Prop:=∀j,(more.filter λr=>decide (r.1=j)).length<=if j<t then 0 else 2 ^ (j-t)
theorem cnt_nil:Cnt t []:=λj=>BD _
theorem AAq{m1 m2:List Row}(h1:Cnt (t+1) m1)(h2:Cnt (t+1) m2):Cnt t (m1++m2++[(t,kl,kr)]):=λj=>by
 have a:=h1 j;have b:=h2 j;rw[C3,C3,Bz,Bz];rcases NA j t with c| c| c
 .rw[p6 (by lia)] at a b
  rw[p6 c,EE (by simp;lia)];show _+_+0<=0;lia
 .subst c
  rw[p6 (by lia)] at a b;rw[pZ sq,HH,EV (by simp)];show _+_+1<=1;lia
 .rw[pZ (by lia)] at a b
  rw[pZ (by lia),EE (by simp;lia)];have e:2 ^ (j-t)=2 ^ (j-(t+1))+2 ^ (j-(t+1)):=by
   rw[show j-t=(j-(t+1))+1 by lia,LX];exact tQ
  show _+_+0<=_;lia
end
abbrev StO:=List (Option Int)
section
variable (lef tak pas:Nat->StO->Option StO)(ful:StO->Bool)
def stepO(t:Nat)(g:Option StO->qE->Bool)(st:StO):qE->Bool
 | []=>g (lef t st) []
 | x::xs=>if x<t then false else if x=t then g (tak t st) xs else g (lef t st) (x::xs)
def semO:Nat->Nat->Option StO->qE->Bool
 | _,_,pY,_=>false
 | 0,t,pX r,s=>match pas t r with
  | none=>false
  | some st=>ful st&&decide (s=[])
 | d+1,t,pX r,s=>match pas t r with
  | none=>false
  | some st=>stepO lef tak t (semO d (t+1)) st s
end
theorem Yk{t:Nat}{aa:List Row}{lef tak:Nat->StO->Option StO}{g:Option StO->qE->Bool}{st:StO}(o:Ok n aa)(tn:t<n)(hl:Lead aa (t+1) kl (g (lef t st)))(hr:Lead aa (t+1) kr (g (tak t st))) :
  Ok n (aa++[(t,kl,kr)])/\Lead (aa++[(t,kl,kr)]) t (aa.length+2) (stepO lef tak t g st):=by
 have o2:Ok n (aa++[(t,kl,kr)]):=AEt o tn (SX hl.kn hl.up) (SX hr.kn hr.up);have e:=ADX aa (t,kl,kr);have kn:=ZR aa (t,kl,kr);refine⟨o2,kn,.inr ?_,λs=>?_⟩
 .unfold tieOf
  rw[e];exact AH _
 .cases s with
  | nil =>
   rw[Ek o2 kn qt,e,DQ o _ hl.kn,hl.eq];rfl
  | cons x xs =>
   rw[CG o2 kn qt,e,DQ o _ hl.kn,DQ o _ hr.kn,hl.eq,hr.eq];rfl
def stayS(st:StO)(p:Nat):Bool:=decide (st.getD p pY=pY\/st.getD p pY=pX (p:Int))
def passS1(st:StO)(p:Nat):Option StO:=if st=[] then pX st else if stayS st p=true then pX (st.set p pY) else pY
def passS:StO->qE->Option StO
 | st,[]=>pX st
 | st,p::ps=>(passS1 st p).bind λs=>passS s ps
def tiedS(st:StO)(a b:Nat):StO:=match st.getD a pY,st.getD b pY with
 | some i,pX j=>(((st.set a pY).set b pY).set i.toNat (pX j)).set j.toNat (pX i)
 | _,_=>st
def IV(st:StO)(a b:Nat):Option StO:=if((AO st.length).filter λp=>decide (p≠a/\p≠b)).all (stayS st)=true then pX [] else pY
def takeS(st:StO)(a b:Nat):Option StO :=
 if st=[]\/st.getD a pY=pY\/st.getD b pY=pY then pY
 else if st.getD a pY=pX (b:Int) then IV st a b else pX (tiedS st a b)
structure VldS(z:Nat)(st:StO):Prop where
 len:st=[]\/st.length=z
 pts:∀p i,st.getD p pY=pX i->0<=i/\i<z
theorem Cw(l:StO)(p q:Nat)(v:Option Int)(h:q≠p):(l.set p v).getD q pY=l.getD q pY:=by
 rw[AD,AD,JP (CB h)]
theorem DK(l:StO)(p:Nat)(v:Option Int):(l.set p v).getD p pY=if p<l.length then v else pY:=by
 rw[AD];by_cases c:p<l.length
 .rw[IJ c,p6 c]
  rfl
 .rw[D8 (by rw[EA];exact qf c),pZ c]
  rfl
theorem VldS.set{st:StO}(h:VldS z st)(p:Nat)(v:Option Int)(hv:∀i,v=pX i->0<=i/\i<z):VldS z (st.set p v):=by
 refine⟨?_,λq i e=>?_⟩
 .rcases h.len with e| e
  .left;rw[e];rfl
  .right;rw[EA];exact e
 .by_cases c:q=p
  .subst c
   rw[DK] at e;split at e
   .exact hv i e
   .cases e
  .rw[Cw _ _ _ _ c] at e
   exact h.pts q i e
set_option tactic.hygienic true in
theorem VldS.tied{st:StO}{a b:Nat}(h:VldS z st):VldS z (tiedS st a b):=by
 unfold tiedS;split
 .rename_i i j ei ej
  exact((((h.set a pY (λ_ z=>by cases z)).set b pY (λ_ z=>by cases z)).set _ _ (λk e=>by cases e;exact h.pts b _ ej)).set _ _ (λk e=>by cases e;exact h.pts a _ ei))
 .exact h
end G
variable{aa:List G.Row}
namespace K33
open PySem L2 G
def onB(bs:qD)(p x:Nat):Bool:=decide ((p:Int)∈bs.getD x [])
theorem YG(hK:X.K=K)(hc:X.calm=true):CallR X (.builtin "max") (λxs H Q=>∃(p:Addr) (ns:qC),xs=[.ref p]/\SqL K H p (ns.map V.int)/\0<ns.length/\∀m,m∈ns->(∀a∈ns,a<=m)->Q (.int m) H):=by subst hK;exact max_list hc
theorem ABj(hK:X.K=K):OpR X (G2 .Add) (rAddL K):=by subst hK;exact Jc
def Lp(bs:qD)(p:Nat):Nat:=match (hits (p:Int) bs).getLast? with
 | none=>0
 | some x=>(x+1).toNat
theorem ACZ{bs:qD}{p:Nat}{x:Int}(h:x∈hits (p:Int) bs):0<=x/\x<bs.length:=by
 obtain⟨i,t,e,_,rfl⟩:=L2.Ho.mp h;have:=(AF.mp e).1;lia
theorem AEw{bs:qD}{p:Nat}{m:Int}(h1:m∈(-1:Int)::hits (p:Int) bs)(h2:∀a∈(-1:Int)::hits (p:Int) bs,a<=m):m=(Lp bs p:Int)-1:=by
 unfold Lp;cases e:(hits (p:Int) bs).getLast? with
 | none =>
  have e':=NG.mp e;rw[e'] at h1;have:m=-1:=by simpa using h1
  rw[this];rfl
 | some x =>
  obtain⟨ne,ex⟩:=NH.mp e|> λ⟨ys,h⟩=>(⟨by rw[h];simp,by simp[h]⟩:∃ne:hits (p:Int) bs≠[],(hits (p:Int) bs).getLast ne=x)
  have xm:x∈hits (p:Int) bs:=by rw[<- ex];exact List.getLast_mem ne
  have x0:=(ACZ xm).1;have:=h2 x (AJ _ xm);have mx:m=x:=by
   rcases BF.mp h1 with rfl| h1
   ·lia
   .have:=QD ne (JC _ 0 bs) m h1
    lia
  dsimp only;lia
theorem ADg{bs:qD}{p x:Nat}(xl:x<bs.length)(h:onB bs p x=true):x<Lp bs p:=by
 have hm:=qA h;rw[AD,AL xl] at hm;have xm:(x:Int)∈hits (p:Int) bs:=L2.Ho.mpr ⟨x,_,AL xl,hm,by lia⟩;unfold Lp;cases e:(hits (p:Int) bs).getLast? with
 | none=>rw[NG.mp e] at xm;cases xm
 | some y =>
  obtain⟨ne,ey⟩:=NH.mp e|> λ⟨ys,h⟩=>(⟨by rw[h];simp,by simp[h]⟩:∃ne:hits (p:Int) bs≠[],(hits (p:Int) bs).getLast ne=y)
  have:=QD ne (JC _ 0 bs) x xm;dsimp only;lia
def nI(ks:qE):List V:=ks.map λ(k:Nat)=>V.int (k:Int)
theorem Ep(ks:qE):(nI ks).length=ks.length:=by unfold nI;rw[AB]
theorem AAt{ks:qE}{x:V}(h:(nI ks)[j]?=pX x):∃k:Nat,ks[j]?=pX k/\x=.int (k:Int):=by
 unfold nI at h;rw[Bi] at h;cases g:ks[j]? with
 | none=>rw[g] at h;cases h
 | some k=>rw[g] at h;cases h;exact⟨k,rfl,rfl⟩
def behP(bs:qD)(z t:Nat):qE:=(AO z).filter λp=>decide (Lp bs p=t)
def ABT(K:Au)(C:Addr):Sp:=λvs H Q _=>∃(p:Addr) (t z:Nat) (bs:qD),vs=[.ref p,.int t]/\WebAt K C H p z bs/\z<=10/\bs.length<=12/\∀(l:Addr) (H':Hp),Same H H'->H l=none->H' l=pX (.lst (nI (behP bs z t)))->Q (.ref l) H'
theorem AEj:FnScope zl5 zl5 (Ag Jl):=fscp (by decide+kernel)
theorem ACo(F:Fun K "points_behind" "points_behind" Jl f fd)(T:Txt K mg C)(GS:FnOk P w K mg base CX0 1 fS du zl3 (Ko K C))(bS:Binds K du zl3 [])(mS:Meth K C "size" fS)
  (GA:FnOk P w K mg base CX0 1 fA ff zl4 (AFW K C)) (bA:Binds K ff zl4 []) (mA:Meth K C "at" fA):FnOk P w K mg base CX0 2 f fd zl5 (ABT K C):=by
 refine F.ok AEj (λvs H Q E h=>?_) (λa6 A outer s H vs Q E hr h=>?_)
 .obtain⟨p,t,z,bs,rfl,_⟩:=h
  rfl
 obtain⟨p,t,z,bs,rfl,hW,z10,b12,q⟩:=h;obtain⟨dx,j,hp,_⟩:=id hW;refine⟨_,Aj (Aq (CP (Ag Jl) ["point"] ["number","web"] [1,0] rfl rfl (by decide+kernel) ⟨⟨rfl,by decide+kernel⟩,⟨rfl,by decide+kernel⟩,trivial⟩ (Dz rfl T.range (Aa (Dl (pv 0) T.cl mS GS hr bS .nil pass0) Ad))
   (λ_ _ _=>BK (i:=0))
   (λ_ _ _=>Cd (Av Hl (Aw (YG (K:=K) rfl rfl) rfl T.max Pw (Aa (Ar (ABj (K:=K) rfl) (Dm (Aa (WY QF Ai) Ad)) (CV (pv 2) T.cl mA GA hr bA .nil pass0 (Aa (pv 0) Ad))) Ad)) (Ar Fv (pv 1) Ai)))
   (λ_ _ _=>pv 0))),?_⟩
 refine⟨_,rfl,p,dx,_,rfl,hp,rfl,p,z,bs,rfl,hW,_,rfl,by lia,by lia,λZ hZ=>?_⟩;refine Cp (lo:=0) (n:=(z:Int).toNat) (λj τ H2=>∃o:Option V,τ=[o,pX (.int t),pX (.ref p)]/\Same H H2/\H2 Z=pX (.lst (nI ((AO j).filter λp=>decide (Lp bs p=t))))) ⟨pY,rfl,qe hZ _,Ab⟩ ?_ ?_
 .rintro j τ H2 hj ⟨o,rfl,s2,eZ⟩
  have ej:(0:Int)+j=(j:Int):=rC;rw[ej];refine⟨1,rfl,(by decide),λM hM=>?_⟩;have s3:=s2.trans (qe hM (.lst [.int (-1)]));refine⟨_,rfl,p,dx,_,rfl,s3 _ _ hp,rfl,_,rfl,p,z,j,bs,rfl,hW.same s3,b12,λl H4 s4 hl el=>?_⟩;have aT:(hits (j:Int) bs).length<=bs.length:=Jq _ 0 bs;have eM4:=s4 _ _ Ab;refine⟨M,l,_,_,rfl,rfl,qX eM4,qX el,DD (BZ (by rw[AB];show 1+_<=1000;lia)),λN hN=>?_⟩;have s5:=qe hN (.lst (V.int (-1)::(hits (j:Int) bs).map V.int));refine⟨N,(-1:Int)::hits (j:Int) bs,rfl,qX Ab,by simp,λm hm hx=>?_⟩;have e:=AEw hm hx;have s6:=(s3.trans s4).trans s5;have eZ6:=s5 _ _ (s4 _ _ (qe hM _ _ _ eZ));refine⟨_,rfl,_,_,rfl,rfl,rfl,_,rfl,?_⟩;have lz:((AO j).filter λp=>decide (Lp bs p=t)).length<=j:=BQ (Ct ..) (by rw[B0];exact AH _);refine ite2 (λc=>?_) (λc=>?_)
  .have c':Lp bs j=t:=by
    have:=qA c;injection this with this
    lia
   refine⟨_,rfl,_,eZ6,BZ (by rw[Ep];lia),_,rfl,λb o e=>?_,?_⟩
   .rw[Ae (Ac e hZ)]
    exact s6 b o e
   .rw[Ab,FH,C3,EV (by simpa using c')]
    unfold nI;rw[BE];rfl
  .have c':¬ Lp bs j=t:=λz=>c (p7 (by rw[e,z]))
   refine⟨_,rfl,s6,?_⟩;rw[FH,C3,EE (by simpa using c'),OO,B3];exact eZ6
 .rintro τ H2 ⟨o,rfl,s2,eZ⟩
  rw[CH] at eZ;exact q Z H2 s2 hZ eZ
end K33
namespace L2
open PySem PySem.Spec PyProof.Rows
section
variable{es:Array MU}
theorem Lq(d:Addr)(hd:(d==DT)=false) :
  MeetsIn prog w (Builtin.«dict.__len__» ⟨[.ref d],[]⟩) (λ_ R s=>∃o es ep,s.heap.get? d=pX o/\o.data=.dict es ep/\R (.ok (.ret (.int es.size s.toks))) {s with toks:=s.toks+1}) :=
 .of_wp λA R s ⟨o,es,ep,ho,fk,h⟩=>by
  show wpAny _ _ (dictSize d >>= _) _ _ s;unfold dictSize;refine Ap (Ap (KU ho fk (AC ?_)));refine Ap (wpAny_pendingCount_other hd ?_);refine UH ?_;rw[So];exact h
theorem ADG(hd:(d==DT)=false)(hT:s.TypeIs (.ref d) "dict")(ho:s.heap.get? d=pX o)(fk:o.data=.dict es ep)(hfit:(es.size:Int)<2 ^ 63)
  (h:Q (.int es.size (s.toks+1)) {s with toks:=s.toks+1+1}):wpAny (AM prog w) A (call (.builtin "len") [.ref d]) Q E s:=by
 refine G9 kind_len plain_len entry_len (args_len1 _) ?_;unfold Builtin.«len»;refine Ap (m:=oneArg "len" _) (AC ?_);refine Ap (m:=callSpecial? (.ref d) (IY "__len__")) (wpAny_callSpecial?_slot (name:=IY "__len__") hT PD
  (Sf PD hT PySem.F.entry_dict_len (PySem.F.args_dict_len_1 _) (Lq d hd) ⟨o,es,ep,ho,fk,?_⟩))
 refine Ap (DC (AC ?_));refine Ap (wpAny_letGo ?_);rw[pZ rQ];rw[pZ (by lia)];exact Ap (wpAny_mkInt (AC ⟨_,rfl,h⟩))
end
theorem Rb:CallR X (.builtin "len") (λxs H Q=>∃p ag,xs=[.ref p]/\H p=pX (.dT ag)/\Q (.int ag.length) H):=by
 intro ae s σ H xs us Q I rr h;obtain⟨p,ag,rfl,hp,q⟩:=h;obtain⟨u,rfl,ru⟩:=rr.one;cases ru;obtain⟨z,lo,ts,kt,o,es,ep,h1,h2,h3,h4,h5⟩:=(I.hok p _ hp);have hl:es.size=ag.length:=by
  rw[<- AZ,h4,AB];exact(AT kt).symm
 refine ADG lo ⟨o,h1,h2.1⟩ h1 h3 (by rw[hl];rw[EQ] at z;lia) ?_;exact⟨.int ag.length,H,I.tok _,⟨_,by rw[hl]⟩,q⟩
def Itd(lo:Int)(n:Nat):It:=⟨λi _=>i<n,λi H x H'=>H'=H/\x=.int (lo-i),λi _=>n<=i⟩
theorem Yj(it:Addr)(lo:Int)(n:Nat):Turn P w K tg (Itd lo n) [it] it (λi h=>IsRangeIter h it (lo+(i:Nat)*(-1)) ((n:Int)-(i:Nat)) (-1)) where
 mem:=by simp
 obj:=λi h st b hb=>by
  have e:b=it:=by simpa using hb
  subst e;exact⟨_,st,λv z=>by
   have z':=z;cases z'⟩
 keep:=λi h h' st k=>k it (by simp) _ st
 item:=by
  intro X hP hw hK hc i ae s σ H E I hf st hg;subst hP hw hK;obtain⟨f0,f1,f2,f3,f4,f5⟩:=hf it (by simp);have W:=XA (prog:=X.prog) (w:=X.w) (I.ok.hd hc) it lo (-1) n;refine W.item i s _ _ hg st λv h' tk hv ar kk=>?_;obtain⟨t,rfl⟩:=hv;have I1:Inv X ae σ H {s with heap:=h',toks:=tk}:=I.turned (λb o hb e=>kk b o (by simpa using hb) e) f0 f1 f3 f4 f5;refine⟨_,rfl,Xi (s:={s with heap:=h',toks:=tk}) (n:="range_iterator") ar rfl rfl (by decide) ⟨.int (lo-i),H,I1,⟨t,?_⟩,⟨rfl,rfl⟩,ar,λb hb=>(hf b hb).1⟩⟩
  congr 1
  lia
 done:=by
  intro X hP hw hK hc i ae s σ H E I hf st hg;subst hP hw hK;obtain⟨f0,f1,f2,f3,f4,f5⟩:=hf it (by simp);exact OS (I.ok.hd hc) st (by have:n<=i:=hg;exact vc this) λh' eb=>⟨rfl,I.turned (t':=s.toks) (λb o hb e=>eb b o hb e) f0 f1 f3 f4 f5⟩
 self:=λ_ _ _ _ _ st h=>OT st h
theorem rangeSize_down(a b:Int):EU a b (-1)=if b<a then a-b else 0:=by
 unfold EU;simp only[show ¬ ((-1:Int)>0) by decide,if_false];split
 .rw[show(- -1:Int)=1 from rfl,Int.ediv_one];lia
 .rfl
theorem small_down{a b:Int}(ha:-(2 ^ 62)<=a)(ha':a<2 ^ 62)(hb:-(2 ^ 62)<=b)(ii:b<2 ^ 62):J7 a b (-1)=true:=by
 unfold J7;rw[rangeSize_down];simp only[VC,Fc,Bool.or_eq_true,decide_eq_true_eq,beq_iff_eq,show ¬ ((-1:Int)>0) by decide,if_false];split<;>lia
theorem Yg{R:It->Hp->Prop}{lo hi:Int}{t u v:Tok}(I:Inv X ae σ H s)(h1:-(2 ^ 62)<=lo)(h2:lo<2 ^ 62)(h3:-(2 ^ 62)<=hi)(h4:hi<2 ^ 62)
  (q:R (Itd lo (lo-hi).toNat) H):wpAny (AM X.prog X.w) X.A (O8 (.ref s.heap.objs.size)) (PIE X ae σ tg R) E {s with heap:=s.heap.push {cls:=.type "range",data:=.fields #[.int lo t,.int hi u,.int (-1) v]},toks:=tk}:=by
 refine RH (XE ..) (small_down h1 h2 h3 h4) ?_;have I1:Inv X ae σ H {s with heap:=s.heap.push {cls:=.type "range",data:=.fields #[.int lo t,.int hi u,.int (-1) v]},toks:=tk}:=I.kept λb o e=>AG _ e;refine⟨(s.heap.push {cls:=.type "range",data:=.fields #[.int lo t,.int hi u,.int (-1) v]}).objs.size,[(s.heap.push {cls:=.type "range",data:=.fields #[.int lo t,.int hi u,.int (-1) v]}).objs.size],_,_,H,rfl,
  I1.kept (t':=tk) λb o e=>AG _ e,Yj _ lo (lo-hi).toNat,?_,λb hb=>?_,q⟩
 .have e1:lo+((0:Nat):Int)*(-1)=lo:=by simp
  have e2:(((lo-hi).toNat:Nat):Int)-((0:Nat):Int)=EU lo hi (-1):=by rw[rangeSize_down];split<;>lia
  rw[e1,e2];exact AS _ rfl
 .have e:b=(s.heap.push {cls:=.type "range",data:=.fields #[.int lo t,.int hi u,.int (-1) v]}).objs.size:=by simpa using hb
  subst e;exact I1.fpOk (AH _) (I1.hok.fresh (AH _))
def AFs(ta:TA):TI:=λσ H R=>ta σ H λvs H1=>∃i j:Int,vs=[.int i,.int j,.int (-1)]/\(-(2 ^ 62)<=i/\i<2 ^ 62/\-(2 ^ 62)<=j/\j<2 ^ 62)/\R (Itd i (i-j).toNat) H1
theorem Mp{a b:Expr}{ta:TA}{p:Pos}(hg:Gl X "range")(hm:X.mg "range" = pY)(ha:PA X [a,b,c] ta)(hs:autoParam (Cs [a,b,c] X.env=[(false,eval a X.env),(false,eval b X.env),(false,eval c X.env)]) zA0._auto_1)(kB:autoParam (Cs [b,c] X.env=[(false,eval b X.env),(false,eval c X.env)]) zA0._auto_1) :
  PI X tg (.Call (.Name "range" p) [a,b,c] [] pos) (AFs ta):=by
 intro ae s σ H R I h;refine Call_ (Fz I hg hm OE (EC (thn (ha pos ae s σ H _ I h) λus s1 ⟨vs,H1,I1,r1,q1⟩=>?_) (by rw[hs,kB]) (by rw[kB];rfl)));obtain⟨i,j,e,⟨q1,q2,q3,q4⟩,q⟩:=q1;subst e;cases r1 with
 | cons r rr =>
  cases rr with
  | cons r' rr =>
   cases rr with
   | cons r'' rr =>
    cases rr;obtain⟨t,rfl⟩:=r;obtain⟨t',rfl⟩:=r';obtain⟨t'',rfl⟩:=r'';exact call_range_3 (by decide) (Yg I1 q1 q2 q3 q4 q) (.inl (OU (by decide)))
theorem Qx{lo:Int}{g:TG}{tb:TS}{D:Ends}(Pv:Nat->St->Hp->Prop)(h0:Pv 0 σ H)
  (hs:∀i σ H,i<n->Pv i σ H->g (.int (lo-i)) σ H λσ2 H2=>tb {D with nx:=Pv (i+1),ct:=Pv (i+1),bk:=D.nx} σ2 H2) (hd:∀σ H,Pv n σ H->D.nx σ H) :
  ∃W:Nat->Nat->St->Hp->Prop,(∃m,W 0 m σ H)/\∀i m σ H,W i m σ H ->
   ((Itd lo n).stop i H/\D.nx σ H)\/((Itd lo n).go i H/\∃N:St->Hp->Prop,(∀σ' H',N σ' H'->∃m',m'<m/\W (i+1) m' σ' H')/\∀x H',(Itd lo n).yld i H x H'->g x σ H' λσ2 H2=>tb {D with nx:=N,ct:=N,bk:=D.nx} σ2 H2):=by
 refine⟨λi m σ H=>m=n-i/\i<=n/\Pv i σ H,⟨n,by simp,BD _,h0⟩,?_⟩;rintro i m σ H ⟨rfl,hi,p⟩;by_cases bn:i<n
 .refine .inr ⟨bn,Pv (i+1),λσ' H' p'=>⟨n-(i+1),rS bn,rfl,bn,p'⟩,λx H' y=>?_⟩
  obtain⟨e,y⟩:=y;subst e y;exact hs i σ _ bn p
 .have e:i=n:=rF hi bn
  subst e;exact .inl ⟨AH _,hd σ H p⟩
theorem Yt{bs:List Bool}(r:Vals (bs.map V.bl) us):us=bs.map JO:=by
 induction bs generalizing us with
 | nil=>cases r;rfl
 | cons b bs ih =>
  rw[BG] at r;cases r with
  | cons h t =>
   rw[ih t,BG]
   congr 1
theorem KQ(hc:X.calm=true):CallR X (.builtin "all") (λxs H Q=>∃(p:Addr) (bs:List Bool),xs=[.ref p]/\SqL X.K H p (bs.map V.bl)/\Q (.bl (bs.all id)) H):=by
 intro ae s σ H xs us Q I r h;obtain⟨p,bs,rfl,hq,q⟩:=h;obtain⟨u0,rfl,ru⟩:=r.one;cases ru;obtain⟨ah,rv,pl,hz⟩:=I.list hq;have e:=Yt rv;subst e;have hl:=pl.isList;have bn:p<s.heap.objs.size:=by obtain⟨_,e,_⟩:=hl;exact Be e
 refine call_all_walk (Nc hl ?_);refine⟨s.heap.objs.size,[s.heap.objs.size,p],[s.heap.objs.size],(bs.map JO).toArray.size,_,_,λi=>(bs[i]?).getD true,rfl,XZ (A:=X.A.in1) (I.ok.hd hc) _ p (BM bn) (bs.map JO).toArray,
  ⟨⟨_,AS _ rfl,rfl,rfl⟩,hl.push _⟩,λi v s' Q' E' hP hQ=>?_,λh' tk hk=>?_⟩
 .have jb:(bs.map JO)[i]?=pX v:=by simpa using hP
  rw[Bi] at jb;cases g:bs[i]? with
  | none=>rw[g] at jb;cases jb
  | some b =>
   rw[g] at jb;cases jb;simp only[g,Option.getD_some] at hQ;exact FO hQ
 .have e:((AO (bs.map JO).toArray.size).all λi=>(bs[i]?).getD true)=bs.all id:=by
   rw[AU,AB];exact LSm.range_all bs
  rw[e];exact⟨.bl (bs.all id),H,I.kept (LSm.kept_iter hk),rfl,q⟩
end L2
namespace L2
theorem smallN(h:n<=100000):n<PySem.sizeLine:=C1 h (by decide)
end L2
namespace K33s
open PySem L2 G
def top(i:Nat):Stmt:=GY.main.body.getD i (.Pass ⟨0,0,0,0⟩)
abbrev WR:Stmt:=top 8
abbrev Lb:Stmt:=top 10
abbrev QC:Stmt:=top 11
abbrev sIn:Stmt:=top 12
abbrev Ke:Stmt:=inClass (top 7) 0
abbrev Vn:Stmt:=inClass (top 7) 2
abbrev ADp:Stmt:=inClass (top 7) 3
theorem ra:¬ (("amount" : Str) = "rows"):=by decide+kernel
theorem ha:¬ (("amount" : Str) = "head"):=by decide+kernel
theorem hr':¬ (("rows" : Str) = "head"):=by decide+kernel
def flds(z:Int)(j:Addr)(h:Int):List (Str×V):=putF "head" (.int h) (putF "rows" (.ref j) (putF "amount" (.int z) []))
theorem JM(z:Int)(j:Addr)(h:Int):(flds z j h).lookup ("amount" : Str)=pX (.int z):=by
 unfold flds;rw[Ah,pZ ha,Ah,pZ ra,Ah,p6 rfl]
theorem Ys(z:Int)(j:Addr)(h:Int):(flds z j h).lookup ("rows" : Str)=pX (.ref j):=by
 unfold flds;rw[Ah,pZ hr',Ah,p6 rfl]
structure Txt(K:Au)(mg:Str->Option As)(C:Addr):Prop where
 cl:Cls K C
 nA:NoAttr K C "amount"
 nR:NoAttr K C "rows"
 nH:NoAttr K C "head"
 mgC:mg "Sieve" = pX (.ref C)
 len:mg "len" = pY
 range:mg "range" = pY
 int:mg "int" = pY
 sorted:mg "sorted" = pY
 set:mg "set" = pY
 tuple:mg "tuple" = pY
 list:mg "list" = pY
 bool:mg "bool" = pY
 enum:mg "enumerate" = pY
 all:mg "all" = pY
 isi:mg "isinstance" = pY
 min:mg "min" = pY
 rev:mg "reversed" = pY
def rRow(K:Au):Rep Row:=λH r v=>∃p,v=.ref p/\SqT K H p [.int r.1,.int r.2.1,.int r.2.2]
theorem Ca:TRep (rRow K):=λH H' r v t ⟨p,a,b⟩=>⟨p,a,t.seq b⟩
def SvAt(K:Au)(C:Addr)(H:Hp)(p:Addr)(z:Int)(aa:List Row)(h:Int):Prop:=∃dx j,H p=pX (.ins C dx (flds z j h))/\rTup K (rRow K) H aa (.ref j)
theorem SvAt.same{z hd:Int}{aa:List Row}(h:SvAt K C H p z aa hd)(e:Same H H'):SvAt K C H' p z aa hd:=by
 obtain⟨dx,j,h1,h2⟩:=h;exact⟨dx,j,e _ _ h1,Ak Ca _ _ _ _ e.ts h2⟩
def JG(K:Au)(C:Addr):Sp:=λvs H Q _=>∃(p dx l:Addr) (z h:Int) (xs:List V) (aa:List Row),vs=[.ref p,.int z,.ref l,.int h]/\H p=pX (.ins C dx [])/\SqL K H l xs/\A7 (rRow K H) aa xs /\
 ∀(H':Hp),(∀b o,H b=pX o->b≠p->H' b=pX o)->SvAt K C H' p z aa h->Q .non H'
def ADd(K:Au)(C:Addr):Sp:=λvs H Q _=>∃(p:Addr) (z h:Int) (aa:List Row),vs=[.ref p]/\SvAt K C H p z aa h/\Q (.int h) H
def Wc(K:Au)(C:Addr):Sp:=λvs H Q _=>∃(p:Addr) (z h:Int) (aa:List Row),vs=[.ref p]/\SvAt K C H p z aa h/\∀(l:Addr) (ys:List V) (H':Hp),Same H H'->H l=none->H' l=pX (.lst ys)->A7 (rRow K H') aa ys->Q (.ref l) H'
theorem ADY:FnScope zl3 zl3 (Ag Vn):=fscp (by decide+kernel)
theorem AAh(F:Fun K "knots" "Sieve.knots" Vn f fd)(T:Txt K mg C):FnOk P w K mg base CX0 1 f fd zl3 (Wc K C):=by
 refine F.ok ADY (λvs H Q E h=>?_) (λa6 A outer s H vs Q E hr h=>?_)
 .obtain⟨p,z,hd,aa,rfl,_⟩:=h
  rfl
 obtain⟨p,z,hd,aa,rfl,⟨dx,j,hP,j',xs,ej,hj,pj⟩,q⟩:=h;cases ej;refine⟨_,Aj (Aq (BX Fd rfl T.list IM (Aa (Bc (pv 0) rfl) Ad))),?_⟩;refine⟨_,rfl,p,C,dx,_,_,rfl,hP,T.cl,T.nR,Ys _ _ _,j,xs,rfl,.inr hj,λl hl=>?_⟩;refine q l xs _ (qe hl _) hl Ab ?_;exact Paired.imp (λa b=>Ca H _ a b (TSm.new hl)) pj
theorem YH(z:Int)(j:Addr)(h:Int):(flds z j h).lookup ("head" : Str)=pX (.int h):=by
 unfold flds;rw[Ah,p6 rfl]
theorem AFk:FnScope zl3 zl3 (Ag ADp):=fscp (by decide+kernel)
theorem AEy(F:Fun K "top" "Sieve.top" ADp f fd)(T:Txt K mg C):FnOk P w K mg base CX0 1 f fd zl3 (ADd K C):=by
 refine F.ok AFk (λvs H Q E h=>?_) (λa6 A outer s H vs Q E hr h=>?_)
 .obtain⟨p,z,hd,aa,rfl,_⟩:=h
  rfl
 obtain⟨p,z,hd,aa,rfl,⟨dx,j,hP,hj⟩,q⟩:=h;refine⟨_,Aj (Aq (Bc (pv 0) rfl)),?_⟩;exact⟨_,rfl,p,C,dx,_,_,rfl,hP,T.cl,T.nH,YH _ _ _,q⟩
theorem VF:FnScope zl6 zl6 (Ag Ke):=fscp (by decide+kernel)
theorem HN(F:Fun K "__init__" "Sieve.__init__" Ke f fd)(T:Txt K mg C):FnOk P w K mg base CX0 1 f fd zl6 (JG K C):=by
 refine F.ok VF (λvs H Q E h=>?_) (λa6 A outer s H vs Q E hr h=>?_)
 .obtain⟨p,dx,l,z,h,xs,aa,rfl,_⟩:=h
  rfl
 obtain⟨p,dx,l,z,h,xs,aa,rfl,hP,hS,pa,q⟩:=h;refine⟨_,Af (Dp (pv 0) (pv 1) rfl)
  (Af (Dp (pv 0) (BX Bt rfl T.tuple Db (Aa (pv 2) Ad)) rfl)
  (Aj (Dp (pv 0) (pv 3) rfl))),?_⟩
 have sl:∀{H:Hp}{fs gs:List (Str×V)}{a:Addr}{zs:List V},H p=pX (.ins C dx fs)->SqL K H a zs->SqL K (upd H p (.ins C dx gs)) a zs:=λ{H fs gs a zs} hP h=>by
  rcases h with(h| ⟨o,h⟩)| h
  .exact .inl (.inl (by rw[Ae (Cj h hP (by intro z;cases z))];exact h))
  .exact .inl (.inr ⟨o,by rw[Ae (Cj h hP (by intro z;cases z))];exact h⟩)
  .exact .inr h
 have ts:∀{H:Hp}{fs gs:List (Str×V)},H p=pX (.ins C dx fs)->TSm H (upd H p (.ins C dx gs)):=λ{H fs gs} hP b u hb t=>by
  rw[Ae ?_]
  .exact hb
  .rintro rfl
   rw[hP] at hb;cases hb;obtain⟨ys,e| ⟨o,e⟩⟩:=t
   .cases e
   .cases e
 refine⟨_,rfl,_,rfl,p,C,dx,[],rfl,hP,T.cl,T.nA,(by decide),?_⟩;refine⟨_,rfl,l,xs,rfl,.inl ⟨sl hP hS,λj hj=>?_⟩⟩;have jp:p≠j:=λe=>by rw[<- e,Ab] at hj;cases hj
 have hP2:(upd (upd H p (.ins C dx (putF "amount" (.int z) []))) j (.tup xs)) p=pX (.ins C dx (putF "amount" (.int z) [])):=by rw[Ae jp,Ab]
 have t2:=ts (gs:=putF "rows" (.ref j) (putF "amount" (.int z) [])) hP2;refine⟨_,rfl,p,C,dx,_,rfl,hP2,T.cl,T.nR,(by show 1<1000;decide),?_⟩;have t3:=ts (H:=upd (upd (upd H p (.ins C dx (putF "amount" (.int z) []))) j (.tup xs)) p (.ins C dx (putF "rows" (.ref j) (putF "amount" (.int z) [])))) (gs:=flds z j h) Ab;refine⟨_,rfl,_,rfl,p,C,dx,_,rfl,Ab,T.cl,T.nH,(by show 2<1000;decide),?_⟩;refine q _ (λb o e hb=>?_) ⟨dx,j,Ab,j,xs,rfl,t3.seq (t2.seq (qY Ab)),?_⟩
 .rw[Ae hb,Ae hb,Ae ?_,Ae hb]
  .exact e
  .rintro rfl
   rw[Ae hb,e] at hj;cases hj
 .exact Paired.imp (λa b r=>Ca _ _ _ _ t3 (Ca _ _ _ _ t2 (Ca _ _ _ _ (TSm.new hj) (Ca _ _ _ _ (ts hP) r)))) pa
abbrev Sq(K:Au)(H:Hp)(l:Addr)(xs:List V):Prop:=SqL K H l xs\/SqT K H l xs
theorem Sq.same(h:Sq K H l xs)(e:Same H H'):Sq K H' l xs:=h.elim (λz=>.inl (e.seq z)) λz=>.inr (e.ts.seq z)
def rIxA(K:Au):R2:=λx y H Q=>rIxL K x y H Q\/rIxT K x y H Q
theorem Fo:IxR X (rIxA X.K):=by
 intro aI bi ae s σ H x y v u Q I rx ry h hs;rcases h with h| h
 .exact Cm aI bi ae s σ H x y v u Q I rx ry h hs
 .exact Bg aI bi ae s σ H x y v u Q I rx ry h hs
theorem QL(hK:X.K=K):IxR X (rIxA K):=by subst hK;exact Fo
theorem ixA{i:Int}{Q:VK}(h:Sq K H p xs)(e:atI xs i=pX v)(q:Q v H):rIxA K (.ref p) (.int i) H Q :=
 h.elim (λz=>.inl ⟨p,_,i,_,rfl,rfl,z,e,q⟩) λz=>.inr ⟨p,_,i,_,rfl,rfl,z,e,q⟩
def rRowA(K:Au)(H:Hp)(r:Row)(v:V):Prop:=∃p,v=.ref p/\Sq K H p [.int r.1,.int r.2.1,.int r.2.2]
theorem ZC{r:Row}(e:Same H H')(h:rRowA K H r v):rRowA K H' r v:=let ⟨p,a,b⟩:=h;⟨p,a,b.same e⟩
def RowsAt(K:Au)(H:Hp)(l:Addr)(aa:List Row):Prop:=∃xs,Sq K H l xs/\A7 (rRowA K H) aa xs
theorem RowsAt.same{aa:List Row}(h:RowsAt K H l aa)(e:Same H H'):RowsAt K H' l aa:=let ⟨xs,a,b⟩:=h;⟨xs,a.same e,Paired.imp (λ_ _ r=>ZC e r) b⟩
theorem RowsAt.of{aa:List Row}(h:rLst K (rRow K) H aa (.ref l)):RowsAt K H l aa:=by
 obtain⟨l',xs,e,hS,pa⟩:=h;cases e;exact⟨xs,.inl hS,Paired.imp (λ_ _ ⟨p,a,b⟩=>⟨p,a,.inr b⟩) pa⟩
abbrev iN(s:qE):List V:=s.map λ(x:Nat)=>V.int (x:Int)
theorem Py{aa:List Row}{k:Nat}(h:RowsAt K H l aa)(kn:Knot aa k)(h2:2<=k) :
  ∃xs p,Sq K H l xs/\atI xs ((k:Int)-2)=pX (.ref p)/\Sq K H p [.int (aa.getD (k-2) (0,0,0)).1,.int (aa.getD (k-2) (0,0,0)).2.1,.int (aa.getD (k-2) (0,0,0)).2.2]:=by
 obtain⟨xs,hS,pa⟩:=h;obtain⟨v,hv,p,rfl,hp⟩:=qV pa (Bj kn h2);exact⟨xs,p,hS,by rw[show(k:Int)-2=((k-2:Nat):Int) by lia];exact CN hv,hp⟩
theorem at0{a b c:V}:atI [a,b,c] 0=pX a:=rfl
theorem at1{a b c:V}:atI [a,b,c] 1=pX b:=rfl
theorem at2{a b c:V}:atI [a,b,c] 2=pX c:=rfl
def lay(aa:List Row)(t:Nat)(rc:qE)(j:Nat):qE:=(rc.take j).filter λk=>decide (tieOf aa k=t)
theorem RZ{aa:List Row}{t:Nat}{k:Nat}(h:rc[j]?=pX k):lay aa t rc (j+1)=lay aa t rc j++if tieOf aa k=t then [k] else []:=by
 unfold lay;rw[D4,h,C3];by_cases c:tieOf aa k=t
 .simp[c]
 .simp[c]
theorem Hw{aa:List Row}{t:Nat}{k:Nat}:k∈lay aa t rc rc.length↔k∈rc/\tieOf aa k=t:=by
 unfold lay;rw[CI,BV];simp
theorem Ih(h:n<=20000):n<sizeLine:=C1 h (by decide)
def has(ag:List (Key×V))(k:Nat):Prop:=(valV ag (.inl (k:Int))).isSome=true
theorem has_put{ag:List (Key×V)}{a k:Nat}:has (putK ag (.inl (a:Int)) v) k↔k=a\/has ag k:=by
 unfold has;rw[Eb];by_cases e:k=a
 .subst e;simp
 .rw[pZ (λz=>e (by injection z with z;exact qk z))]
  exact⟨.inr,λh=>h.resolve_left e⟩
def rcOf(ag:List (Key×V))(i:Nat):qE:=((AO i).map (·+2)).filter λk=>(valV ag (.inl (k:Int))).isSome
theorem Mu(ag:List (Key×V))(i:Nat):rcOf ag (i+1)=rcOf ag i++if(valV ag (.inl ((i+2:Nat):Int))).isSome=true then [i+2] else []:=by
 unfold rcOf;rw[FH,BE,C3,Sm,J1,OO]
theorem Ju{ag:List (Key×V)}{k:Nat}:k∈rcOf ag i↔2<=k/\k<i+2/\has ag k:=by
 unfold rcOf has;rw[BV,AY];constructor
 .rintro⟨⟨a,ha,rfl⟩,h⟩
  rw[AV] at ha;exact⟨qt,tG ha,h⟩
 .rintro⟨h1,h2,h3⟩
  exact⟨⟨k-2,AV.mpr (sN h2 h1),tT h1⟩,h3⟩
theorem AAX(ag:List (Key×V))(i:Nat):(rcOf ag i).length<=i:=by
 unfold rcOf;refine BQ (Ct _ _) ?_;rw[AB,B0];exact AH _
theorem getD_map:∀(aa:List Row),(AO aa.length).map (λi=>aa.getD i (0,0,0))=aa:=λaa=>by
 apply FR;intro i;by_cases c:i<aa.length
 .simp[c]
 .simp[c]
theorem ABM{aa:List Row}{t:Nat}(h:rc.Sublist ((AO m).map (·+2)))(hm:m<=aa.length):(lay aa t rc j).length<=(aa.filter λr=>decide (r.1=t)).length:=by
 have h1:(lay aa t rc j).Sublist (((AO aa.length).map (·+2)).filter λk=>decide (tieOf aa k=t)):=by
  unfold lay;exact(((IP _ _).trans h).trans ((List.range_sublist.mpr hm).map _)).filter _
 refine BQ h1.length_le ?_;have e:(aa.filter λr=>decide (r.1=t))=(((AO aa.length).filter λi=>decide ((aa.getD i (0,0,0)).1=t)).map λi=>aa.getD i (0,0,0)):=by
  conv=>lhs;rw[<- getD_map aa]
  rw[OM];rfl
 rw[e,AB,OM,AB];exact AH _
theorem AEe(ag:List (Key×V))(i:Nat):(rcOf ag i).Sublist ((AO i).map (·+2)):=List.filter_sublist
def AFU(K:Au):Sp:=λvs H Q _=>∃(d p:Addr) (r:Row) (x y:Nat) (ag:List (Key×V)),vs=[.ref d,.ref p]/\H d=pX (.dK ag)/\rRowA K H r (.ref p)/\valV ag (.inl (r.2.1:Int))=pX (.int x)/\valV ag (.inl (r.2.2:Int))=pX (.int y) /\
 ∀t,H t=none->Q (.ref t) (upd H t (.tup [.int r.1,.int x,.int y]))
def Xh(K:Au):Sp:=λvs H Q _=>∃(l:Addr) (n top:Nat) (aa:List Row),vs=[.ref l,.int top]/\RowsAt K H l aa/\Ok n aa/\aa.length<=4100/\Knot aa top /\
 ∀(D:Addr) (rc:qE) (H':Hp),Same H H'->H D=none->H' D=pX (.lst (iN rc))->Closed aa rc->(top<=1\/top∈rc)->(∀t j,(lay aa t rc j).length<=(aa.filter λr=>decide (r.1=t)).length)->(∀k∈rc,k=top\/∃k'∈rc,k<k'/\(outOf aa k'=k\/intoOf aa k'=k))->Q (.ref D) H'
theorem AGB:FnScope zl7 zl7 (Ag sIn):=fscp (by decide+kernel)
theorem AFj(F:Fun K "row_in_places" "row_in_places" sIn f fd):FnOk P w K mg base CX0 1 f fd zl7 (AFU K):=by
 refine F.ok AGB (λvs H Q E h=>?_) (λa6 A outer s H vs Q E hr h=>?_)
 .obtain⟨d,p,r,x,y,ag,rfl,_⟩:=h
  rfl
 obtain⟨d,p,r,x,y,ag,rfl,hd,⟨p',e,hp⟩,hx,hy,q⟩:=h;cases e;refine⟨_,Aj (Aq (Br (Aa (Ay Fo (pv 1) Ai) (Aa (QX (Bp hr) (pv 0) (Ay Fo (pv 1) Ai) (λ_ _=>rfl)) (Aa (QX (Bp hr) (pv 0) (Ay Fo (pv 1) Ai) (λ_ _=>rfl)) Ad))))),?_⟩;refine⟨_,rfl,ixA hp at0 ⟨_,rfl,_,rfl,ixA hp at1 ⟨d,.int x,rfl,?_,_,rfl,_,rfl,ixA hp at2 ⟨d,.int y,rfl,?_,(by show 3<=sizeLine;decide),q⟩⟩⟩⟩
 .have:=DGet.k (k:=.inl (r.2.1:Int)) hd
  rw[hx] at this;exact this
 .have:=DGet.k (k:=.inl (r.2.2:Int)) hd
  rw[hy] at this;exact this
theorem Pq:FnScope ["rows","top","reached","knot"] zl20 (Ag QC):=fscp (by decide+kernel)
theorem AAQ(F:Fun K "reached_knots" "reached_knots" QC f fd)(T:Txt K mg C):FnOk P w K mg base CX0 1 f fd zl20 (Xh K):=by
 refine F.ok Pq (λvs H Q E h=>?_) (λa6 A outer s H vs Q E hr h=>?_)
 .obtain⟨l,n,top,aa,rfl,_⟩:=h
  rfl
 obtain⟨l,n,top,aa,rfl,hL,ok,r60,kt,q⟩:=h;refine⟨_,Af (Am (i:=2) Pq.nd (Xc (Kp (pv 1) Oa Wd) rfl rfl (by intro z;cases z) (by decide)))
  (Af (En EB rfl (Mp rfl T.range (Aa (pv 1) (Aa Ai (Aa (WY QF Ai) Ad)))) (Bf (i:=3) Pq.nd)
   (Aj (CQ (Gs (ABO (Bp hr) (pv 3) (pv 2)))
    (Af (Jg (Bp hr) (pv 2) (Ay Fo (Ay Fo (pv 0) (Ar Fv (pv 3) Ai)) Ai) Oa rfl)
    (Aj (Jg (Bp hr) (pv 2) (Ay Fo (Ay Fo (pv 0) (Ar Fv (pv 3) Ai)) Ai) Oa rfl))) BL)))
  (Aj (Aq (CP (Ag QC) ["knot"] ["reached"] [2] rfl rfl (by decide+kernel) ⟨⟨rfl,by decide+kernel⟩,trivial⟩ (Xo rfl T.range (Aa Ai (Aa (Ar CZ (pv 1) Ai) Ad)))
   (λ_ _ _=>BK (i:=0))
   (λ_ _ _=>Cd (Gs (ABO (Bp hr) (pv 0) (pv 1)) rfl))
   (λ_ _ _=>pv 0))))),?_⟩
 refine λD hD=>⟨_,rfl,Ab,[(.inl (top:Int),.bl true)],rfl,(by show 1<=15;decide),?_⟩;have s0:Same H (upd (upd H D (.dK [])) D (.dK (mergeK [] [(.inl (top:Int),.bl true)]))):=λb o e=>by rw[Ae (Ac e hD),Ae (Ac e hD)];exact e
 refine⟨_,rfl,_,rfl,(top:Int),1,rfl,⟨by lia,by have:top<aa.length+2:=kt;lia,by lia,by lia⟩,?_⟩;refine Qx (lo:=(top:Int)) (n:=((top:Int)-1).toNat) (λi σ H2=>∃(ag:List (Key×V)) (kv:Option V),σ=[pX (.ref l),pX (.int top),pX (.ref D),kv]/\Same H H2/\H2 D=pX (.dK ag)/\ag.length<=1+2*i/\has ag top /\
   (∀k:Nat,top<k+i->k<=top->has ag k->has ag (outOf aa k)/\has ag (intoOf aa k))/\(∀k:Nat,has ag k->k<=top)/\∀k:Nat,2<=k->has ag k->k=top\/∃k',2<=k'/\has ag k'/\k<k'/\(outOf aa k'=k\/intoOf aa k'=k))
  ⟨_,pY,rfl,s0,Ab,by show 1<=1;decide,?_,λk h1 h2=>by lia,?_,?_⟩ ?_ ?_
 .show has (putK [] (.inl (top:Int)) (.bl true)) top
  exact has_put.mpr (.inl rfl)
 .intro k hk
  rcases has_put.mp (show has (putK [] (.inl (top:Int)) (.bl true)) k from hk) with e| e
  .exact rE e
  .exact qB e (by intro z;cases z)
 .intro k _ hk
  rcases has_put.mp (show has (putK [] (.inl (top:Int)) (.bl true)) k from hk) with e| e
  .exact .inl e
  .exact qB e (by intro z;cases z)
 .rintro i σ H2 hi ⟨ag,kv,rfl,sm,eD,hl,ht,hc,hb,hpar⟩
  obtain⟨k,ek,k2⟩:∃k:Nat,(top:Int)-i=k/\2<=k:=⟨((top:Int)-i).toNat,by lia,by lia⟩;have kk:Knot aa k:=by unfold Knot at *;lia
  rw[ek];refine⟨_,rfl,_,rfl,D,_,rfl,DGet.k (k:=.inl (k:Int)) eD,_,rfl,?_⟩;refine ite2 (λc=>?_) (λc=>?_)
  .have mO:=hL.same sm
   obtain⟨xs,p,hS,ha,hp⟩:=Py mO kk k2;obtain⟨_,lo,li,_⟩:=ok.low (Bj kk k2);have z1:ag.length<sizeLine:=Ih (by unfold Knot at kt;lia);refine⟨_,rfl,_,rfl,_,rfl,_,_,rfl,rfl,ixA hS ha (ixA hp at1 ⟨D,_,rfl,.inl ⟨ag,.inl ((aa.getD (k-2) (0,0,0)).2.1:Int),eD,rfl,z1,rfl⟩,?_⟩)⟩;have l1:=CJ ag (.inl ((aa.getD (k-2) (0,0,0)).2.1:Int)) (.bl true);have z2:(putK ag (.inl ((aa.getD (k-2) (0,0,0)).2.1:Int)) (.bl true)).length<sizeLine:=Ih (by unfold Knot at kt;lia);have sm2:Same H (upd H2 D (.dK (putK ag (.inl ((aa.getD (k-2) (0,0,0)).2.1:Int)) (.bl true)))):=λb o e=>by rw[Ae (Ac e hD)];exact sm b o e
   obtain⟨xs2,p2,hS2,ha2,iO⟩:=Py (hL.same sm2) kk k2;refine⟨_,rfl,_,rfl,_,rfl,_,_,rfl,rfl,ixA hS2 ha2 (ixA iO at2 ⟨D,_,rfl,.inl ⟨_,.inl ((aa.getD (k-2) (0,0,0)).2.2:Int),Ab,rfl,z2,rfl⟩,?_⟩)⟩;have l2:=CJ (putK ag (.inl ((aa.getD (k-2) (0,0,0)).2.1:Int)) (.bl true)) (.inl ((aa.getD (k-2) (0,0,0)).2.2:Int)) (.bl true);have hup:∀k',has (putK (putK ag (.inl ((aa.getD (k-2) (0,0,0)).2.1:Int)) (.bl true)) (.inl ((aa.getD (k-2) (0,0,0)).2.2:Int)) (.bl true)) k'->k'=outOf aa k\/k'=intoOf aa k\/has ag k':=λk' h=>by
    rcases has_put.mp h with e| h
    .exact .inr (.inl e)
    rcases has_put.mp h with e| h
    .exact .inl e
    exact .inr (.inr h)
   have hkk:=c;have kle:k<=top:=by lia
   have lo':outOf aa k<k:=by unfold outOf;exact um lo k2
   have li':intoOf aa k<k:=by unfold intoOf;exact um li k2
   refine⟨_,_,rfl,λb o e=>?_,Ab,by lia,has_put.mpr (.inr (has_put.mpr (.inr ht))),λk' h1 h2 h3=>?_,λk' h=>?_,λk' h2 h=>?_⟩
   .rw[Ae (Ac e hD),Ae (Ac e hD)]
    exact sm b o e
   .by_cases e:k'=k
    .subst e
     exact⟨has_put.mpr (.inr (has_put.mpr (.inl rfl))),has_put.mpr (.inl rfl)⟩
    .have h4:has ag k':=by
      rcases has_put.mp h3 with e' | h3
      ·lia
      rcases has_put.mp h3 with e' | h3
      ·lia
      exact h3
     obtain⟨y1,y2⟩:=hc k' (uN ek h1 e) h2 h4;exact⟨has_put.mpr (.inr (has_put.mpr (.inr y1))),has_put.mpr (.inr (has_put.mpr (.inr y2)))⟩
   .rcases hup k' h with e| e| e
    .exact uO ek e lo'
    .exact uO ek e li'
    .exact hb k' e
   .have keep:has (putK (putK ag (.inl ((aa.getD (k-2) (0,0,0)).2.1:Int)) (.bl true)) (.inl ((aa.getD (k-2) (0,0,0)).2.2:Int)) (.bl true)) k:=has_put.mpr (.inr (has_put.mpr (.inr hkk)))
    rcases hup k' h with e| e| e
    .exact .inr ⟨k,k2,keep,uy e lo',.inl e.symm⟩
    .exact .inr ⟨k,k2,keep,uy e li',.inr e.symm⟩
    .rcases hpar k' h2 e with z| ⟨u,z1,z2,z3⟩
     .exact .inl z
     .exact .inr ⟨u,z1,has_put.mpr (.inr (has_put.mpr (.inr z2))),z3⟩
  .refine⟨ag,_,rfl,sm,eD,by lia,ht,λk' h1 h2 h3=>?_,hb,hpar⟩
   by_cases e:k'=k
   .subst e
    exact qB h3 c
   .exact hc k' (uN ek h1 e) h2 h3
 .rintro σ H2 ⟨ag,kv,rfl,sm,eD,hl,ht,hc,hb,hpar⟩
  refine⟨_,rfl,_,_,rfl,rfl,2,(top:Int)+1,rfl,⟨by lia,by lia,by lia,by unfold Knot at kt;lia⟩,λL kR=>?_⟩;have oX:D≠L:=λe=>by rw[<- e,eD] at kR;cases kR
  have nL:=sm.free kR;refine Cp (lo:=2) (n:=((top:Int)+1-2).toNat) (λi τ H3=>∃kv:Option V,τ=[kv,pX (.ref D)]/\Same H H3/\H3 D=pX (.dK ag)/\H3 L=pX (.lst (iN (rcOf ag i)))) ⟨pY,rfl,sm.trans (qe kR _),by rw[Ae oX];exact eD,Ab⟩ ?_ ?_
  .rintro i τ H3 hi ⟨kv,rfl,sm3,mH,eL3⟩
   have ei:(2:Int)+i=((i+2:Nat):Int):=by lia
   rw[ei];refine⟨_,rfl,_,rfl,D,_,rfl,DGet.k (k:=.inl ((i+2:Nat):Int)) mH,_,rfl,?_⟩;have lr:=AAX ag i;refine ite2 (λc=>?_) (λc=>?_)
   .refine⟨_,rfl,_,eL3,Ih (by rw[AB];unfold Knot at kt;lia),_,rfl,λb o e=>?_,by rw[Ae oX];exact mH,?_⟩
    .rw[Ae (Ac e nL)]
     exact sm3 b o e
    .rw[Ab,Mu,p6 c]
     unfold iN;rw[BE];rfl
   .refine⟨_,rfl,sm3,mH,?_⟩
    rw[eL3,Mu,pZ c,B3]
  .rintro τ H3 ⟨kv,rfl,sm3,mH,eL3⟩
   have all:∀k,k∈rcOf ag ((top:Int)+1-2).toNat->2<=k/\k<=top/\has ag k:=λk hk=>by
    obtain⟨a,b,c⟩:=Ju.mp hk;exact⟨a,by lia,c⟩
   have back:∀k,k<=top->has ag k->k<=1\/k∈rcOf ag ((top:Int)+1-2).toNat:=λk h1 h2=>by
    rcases C7 k 2 with c| c
    .exact .inl (r8 c)
    .exact .inr (Ju.mpr ⟨c,uP h1,h2⟩)
   have kn:∀k,k<=top->Knot aa k:=λk h=>by unfold Knot at *;exact qq h kt
   refine q L _ H3 sm3 nL eL3 ⟨λk hk=>(all k hk).1,λk hk=>kn k (all k hk).2.1,λk hk=>?_,λk hk=>?_⟩ (back top (AH _) ht) (λt j=>ABM (AEe _ _) (by unfold Knot at kt;lia)) (λk hk=>by
     obtain⟨a1,b1,c1⟩:=all k hk;rcases hpar k a1 c1 with z| ⟨u,u2,z1,z2⟩
     .exact .inl z
     .exact .inr ⟨u,Ju.mpr ⟨u2,by have:=hb u z1;exact uP this,z1⟩,z2⟩)
   .obtain⟨a,b,c⟩:=all k hk
    obtain⟨_,lo,li,_⟩:=ok.low (Bj (kn k b) a);exact back _ (by unfold outOf;exact uQ lo b a) (hc k (uR a) b c).1
   .obtain⟨a,b,c⟩:=all k hk
    obtain⟨_,lo,li,_⟩:=ok.low (Bj (kn k b) a);exact back _ (by unfold intoOf;exact uQ li b a) (hc k (uR a) b c).2
def ik3(r:Row):List Key:=[.inl (r.1:Int),.inl (r.2.1:Int),.inl (r.2.2:Int)]
abbrev r3(r:Row):List V:=[.int r.1,.int r.2.1,.int r.2.2]
def r3i(r:Row):qC:=[(r.1:Int),(r.2.1:Int),(r.2.2:Int)]
theorem ABu{a b:Row}(h:ik3 a=ik3 b):a=b:=by
 obtain⟨a1,a2,a3⟩:=a;obtain⟨b1,b2,b3⟩:=b;simp[ik3] at h;obtain⟨h1,h2,h3⟩:=h;injection h1 with h1
 injection h2 with h2
 injection h3 with h3
 have e1:a1=b1:=h1;have e2:a2=b2:=h2;have e3:a3=b3:=h3;rw[e1,e2,e3]
theorem Jd{a b:Row}(h:r3i a=r3i b):a=b:=by
 obtain⟨a1,a2,a3⟩:=a;obtain⟨b1,b2,b3⟩:=b;simp[r3i] at h;obtain⟨h1,h2,h3⟩:=h;have e1:a1=b1:=qk h1;have e2:a2=b2:=qk h2;have e3:a3=b3:=qk h3;rw[e1,e2,e3]
def numKV:Nat->List Row->List (List Key×V)
 | _,[]=>[]
 | i,r::rs=>(ik3 r,.int (i:Int))::numKV (i+1) rs
def numOf:Nat->List Row->Row->qP
 | _,[],_=>pY
 | i,a::rs,r=>if a=r then pX i else numOf (i+1) rs r
theorem Iu:∀(i:Nat) (af:List Row),(numKV i af).length=af.length
 | _,[]=>rfl
 | i,_::rs=>by show(numKV (i+1) rs).length+1=rs.length+1;rw[Iu]
theorem Ig(r:Row):∀(i:Nat) (af:List Row),valV (numKV i af) (ik3 r)=(numOf i af r).map λ(m:Nat)=>V.int (m:Int)
 | _,[]=>rfl
 | i,a::rs=>by
  by_cases e:a=r
  .rw[numKV,Bw (by show ik3 a=ik3 r;rw[e]),numOf,p6 e];rfl
  .rw[numKV,Bx (λz=>e (ABu z)),numOf,pZ e];exact Ig r (i+1) rs
theorem Kr(r:Row):∀(i:Nat) (af:List Row) (m:Nat),numOf i af r=pX m->∃j,af[j]?=pX r/\m=i+j
 | _,[],_,h=>by cases h
 | i,a::rs,m,h=>by
  unfold numOf at h;by_cases e:a=r
  .rw[p6 e] at h
   cases h;exact⟨0,by rw[e];rfl,rfl⟩
  .rw[pZ e] at h
   obtain⟨j,h1,h2⟩:=Kr r (i+1) rs m h;exact⟨j+1,by simpa using h1,by lia⟩
theorem Ka(r:Row):∀(i:Nat) (af:List Row),numOf i af r=none->r∉af
 | _,[],_=>λh=>nomatch h
 | i,a::rs,h=>by
  unfold numOf at h;by_cases e:a=r
  .rw[p6 e] at h;cases h
  .rw[pZ e] at h
   intro hm;rcases BF.mp hm with rfl| hm
   .exact e rfl
   .exact Ka r (i+1) rs h hm
theorem Mx(r:Row):∀(i:Nat) (af:List Row),r∉af->numOf i af r=pY
 | _,[],_=>rfl
 | i,a::rs,h=>by
  unfold numOf;rw[pZ (λe=>h (by rw[e];exact AI ..))];exact Mx r (i+1) rs λz=>h (AJ _ z)
theorem Mf:∀(i:Nat) (af:List Row) (r:Row),numKV i (af++[r])=numKV i af++[(ik3 r,.int ((i+af.length:Nat):Int))]
 | i,[],r=>rfl
 | i,a::rs,r=>by
  show(ik3 a,V.int (i:Int))::numKV (i+1) (rs++[r])=(ik3 a,V.int (i:Int))::(numKV (i+1) rs++[(ik3 r,V.int ((i+(rs.length+1):Nat):Int))]);rw[Mf (i+1) rs r];rw[show i+1+rs.length=i+(rs.length+1) from rq]
theorem Xu{af:List Row}{r:Row}(h:r∉af):putK (numKV 2 af) (ik3 r) (.int (((numKV 2 af).length:Int)+2))=numKV 2 (af++[r]):=by
 rw[HX _ (by rw[Ig,Mx r 2 af h];rfl),Mf,Iu]
 congr 4
 lia
theorem Mj{K:Au}{H:Hp}:∀{i:Nat}{af:List Row}{ys:List V},KeyL H (numKV i af) ys->A7 (rRow K H) af ys
 | _,[],_,.nil=>.nil
 | i,r::rs,_,.cons ⟨b,e,hb⟩ t=>.cons ⟨b,e,qY hb⟩ (Mj t)
theorem Iz:∀(ms:qD),(∀m∈ms,∃r,m=r3i r)->∃new:List Row,ms=new.map r3i
 | [],_=>⟨[],rfl⟩
 | m::ms,h=>by
  obtain⟨r,rfl⟩:=h m (AI ..);obtain⟨new,rfl⟩:=Iz ms λx hx=>h x (AJ _ hx);exact⟨r::new,rfl⟩
theorem Xv:∀{new:List Row},(new.map r3i).Pairwise (λa b=>HT.lexLt a b=true)->new.Nodup:=λ{new} h=>by
 have h2:=B5.mp h;exact h2.imp λ{a b} z e=>by rw[e,Kz] at z;cases z
def plOf(pl:Nat->qP)(place:Nat->Nat)(ks:qE)(k:Nat):qP:=if k∈ks then pX (place k) else pl k
theorem ABp{place:Nat->Nat}{ks:qE}{a k:Nat}:plOf pl place (ks++[a]) k=if k=a then pX (place a) else plOf pl place ks k:=by
 unfold plOf;by_cases e:k=a
 .subst e;simp
 .by_cases h:k∈ks
  .simp[h,e]
  .simp[h,e]
def PlD(ag:List (Key×V))(pl:Nat->qP):Prop:=∀k:Nat,valV ag (.inl (k:Int))=(pl k).map λ(p:Nat)=>V.int (p:Int)
theorem PlD.put{ag:List (Key×V)}{place:Nat->Nat}{ks:qE}{a:Nat}(h:PlD ag (plOf pl place ks)):PlD (putK ag (.inl (a:Int)) (.int (place a:Nat))) (plOf pl place (ks++[a])):=λk=>by
 rw[Eb,ABp];by_cases e:k=a
 .subst e;rw[p6 rfl,p6 rfl];rfl
 .rw[pZ (λz=>e (by injection z with z;exact qk z)),pZ e]
  exact h k
end K33s
namespace G
section
variable{t:Nat}{A af:List Row}
def FewB(aa:List Row)(top:Nat):Prop:=∃P:Nat->Prop,P top/\(∀k,P k->2<=k->Knot aa k->P (outOf aa k)/\P (intoOf aa k)) /\
 ∀(t:Nat) (ks:qE),(∀k∈ks,P k/\2<=k/\Knot aa k/\tieOf aa k=t/\∃s,led aa (intoOf aa k) s=true)->ks.Pairwise (λa b=>∃s,led aa a s≠led aa b s)->ks.length<=300
theorem FewB.sel{top:Nat}(F:FewB aa top)(I:Kept2 n (t+1) aa rc af pl)(c:Closed aa rc)(o:Ok n aa)(hn:t<n)(par:∀k∈rc,k=top\/∃k'∈rc,k<k'/\(outOf aa k'=k\/intoOf aa k'=k)) :
  ∀new:List Row,new.Nodup->(∀r∈new,∃k,k∈rc/\tieOf aa k=t/\r=rowIn aa pl k/\r.2.2≠0)->new.length<=300:=by
 intro new nd hw;obtain⟨P,pt,ps,few⟩:=F;have hP:∀k∈rc,P k:=λk hk=>YJ pt ps c par _ k (AH _) hk;obtain⟨g,hg⟩:∃g:Row->Nat,∀r∈new,g r∈rc/\tieOf aa (g r)=t/\r=rowIn aa pl (g r)/\r.2.2≠0 :=
  ⟨λr=>if h:r∈new then EO (hw r h) else 0,λr h=>by
   dsimp only;rw[dif_pos h];exact Fn (hw r h)⟩
 have kH:=I.base.least.ok;have key:∀r∈new,∃a b,r=(t,a,b)/\Knot af a/\Knot af b/\b≠0/\(∀s,led af a s=led aa (outOf aa (g r)) s)/\(∀s,led af b s=led aa (intoOf aa (g r)) s)/\(∀xs,led aa (g r) (t::xs)=led af b xs)/\∀s,led af a s=if lowH t s=true then false else led aa (g r) s:=λr hr=>by
  obtain⟨hk,ht,e,w0⟩:=hg r hr;obtain⟨a,b,ea,eb,re,x1,x2,x3,x4⟩:=I.base.row c o hn hk ht;obtain⟨_,z1,z2⟩:=c.low o hk;have la:=I.low (c.out _ hk) (by rw[<- ht];exact z1) ea;have lb:=I.low (c.into _ hk) (by rw[<- ht];exact z2) eb;have kk:=c.knot _ hk;have k2:=c.two _ hk;have et:(aa.getD (g r-2) (0,0,0)).1=t:=ht;refine⟨a,b,e.trans re,x1,x2,?_,la,lb,λxs=>?_,λs=>?_⟩
  .rw[e,re] at w0
   exact w0
  .rw[CG o kk k2,et,pZ (EF _),p6 rfl,lb]
   rfl
  .cases s with
   | nil=>rw[la,Ek o kk k2,pZ (by intro z;cases z)];rfl
   | cons x xs =>
    by_cases cs:x<=t
    .rw[p6 (show lowH t (x::xs)=true from p7 cs)]
     exact off kH x1 (qq cs x3)
    .rw[pZ (show ¬ lowH t (x::xs)=true from λz=>cs (qA z)),la,CG o kk k2,et,pZ (u3 cs),pZ (u4 cs)]
     rfl
 have:=few t (new.map g) (λk hk=>by
  obtain⟨r,hr,rfl⟩:=AY.mp hk;obtain⟨h1,h2,h3,h4⟩:=hg r hr;obtain⟨a,b,_,_,kb,b0,_,lb,_⟩:=key r hr;refine⟨hP _ h1,c.two _ h1,c.knot _ h1,h2,?_⟩;obtain⟨s,w,_⟩:=LQ I.base.least (b+1) b (F6 _) kb b0;exact⟨s,by rw[<- lb];exact w.1⟩) (by
  rw[B5];refine C8 (λ{r r'} hr hr' ne=>?_) nd;refine CA λh=>ne ?_;have same:∀s,led aa (g r) s=led aa (g r') s:=λs=>CA λz=>h ⟨s,z⟩;obtain⟨a,b,er,ka,kb,_,_,_,lb,la⟩:=key r hr;obtain⟨a',b',er',ka',kb',_,_,_,lb',e8⟩:=key r' hr';have e1:=Vz I.base.least ka ka' λs=>by rw[la,e8,same]
  have e2:=Vz I.base.least kb kb' λs=>by rw[<- lb,<- lb',same]
  rw[er,er',e1,e2])
 rwa [AB] at this
theorem Tn{α:Type}[DecidableEq α]:∀{l₁ l₂:List α},l₁.Nodup->(∀x∈l₁,x∈l₂)->l₁.length<=l₂.length
 | [],_,_,_=>BD _
 | a::t,l₂,nd,hs=>by
  obtain⟨n1,n2⟩:=Ex.mp nd;have ha:=hs a AI;have hl:=HE ha;have ih:=Tn (l₂:=l₂.erase a) n2 λx hx=>(J0 (λ(e:x=a)=>n1 (by rw[<- e];exact hx))).mpr (hs x (AJ _ hx));have:0<l₂.length:=K6 ha;simp;exact ug ih hl this
def allB:Nat->List (List Bool)
 | 0=>[[]]
 | n+1=>(allB n).map (true::·)++(allB n).map (false::·)
theorem Tg:∀n,(allB n).length=2 ^ n
 | 0=>rfl
 | n+1=>by
  show((allB n).map (true::·)++(allB n).map (false::·)).length=_;rw[Bz,AB,AB,Tg n,LX];lia
theorem Qq:∀{n:Nat}{l:List Bool},l.length=n->l∈allB n
 | 0,[],_=>by simp[allB]
 | n+1,b::l,h=>by
  have:=Qq (n:=n) (l:=l) (by simpa using h);cases b with
  | true=>exact FB _ (F4 this)
  | false=>exact B4 _ (F4 this)
 | 0,_::_,h=>by cases h
 | _+1,[],h=>by cases h
def subs12:List qE:=[[],[9],[10],[11],[9,10],[9,11],[10,11],[9,10,11]]
theorem ACl{s:qE}(w:s.Pairwise (· < ·))(bd:∀x∈s,9<=x/\x<12):s∈subs12:=by
 match s,w,bd with
 | [],_,_=>exact by decide
 | [x],_,bd =>
  have:=bd x (AI ..);have:x=9\/x=10\/x=11:=by lia
  rcases this with rfl| rfl| rfl<;>decide
 | [x,y],w,bd =>
  have h1:=bd x (AI ..);have h2:=bd y (AJ _ (AI ..));have lt:=(CO.mp w).1 y (AI ..);have:(x=9/\y=10)\/(x=9/\y=11)\/(x=10/\y=11):=by lia
  rcases this with⟨rfl,rfl⟩| ⟨rfl,rfl⟩| ⟨rfl,rfl⟩<;>decide
 | x::y::z::r,w,bd =>
  have h1:=bd x (AI ..);have h2:=bd y (AJ _ (AI ..));have h3:=bd z (AJ _ (AJ _ (AI ..)));have l1:=(CO.mp w).1 y (AI ..);have w2:=(CO.mp w).2;have l2:=(CO.mp w2).1 z (AI ..);obtain rfl:x=9:=by lia
  obtain rfl:y=10:=by lia
  obtain rfl:z=11:=by lia
  cases r with
  | nil=>decide
  | cons u r =>
   have hu:=bd u (by simp);have l3:=(CO.mp (CO.mp w2).2).1 u (AI ..);lia
theorem Vc(o:Ok n aa)(pV:n<=12)(c:Cnt 0 aa)(top:Nat):FewB aa top:=by
 refine⟨λ_=>True,trivial,λ_ _ _ _=>⟨trivial,trivial⟩,λt ks hk un=>?_⟩;have nd:ks.Nodup:=un.imp λ{a b} ⟨s,h⟩ e=>h (by rw[e]);rcases C7 t 9 with c9| c9
 .have z:=Yc (A:=aa) (t:=t) ks (λk h=>⟨(hk k h).2.1,(hk k h).2.2.1,(hk k h).2.2.2.1⟩) nd
  have y:=c t;rw[pZ qv,Nat.sub_zero] at y;have:2 ^ t<=2 ^ 8:=Hb (by decide) (by lia);lia
 .have lim:∀{k:Nat}{s:qE},Knot aa k->2<=k->tieOf aa k=t->led aa k s=true->s∈subs12:=λ{k s} kn k2 tk ld=>by
   have I0:=HW _ _ rfl o _ kn;obtain⟨w1,w2⟩:=I0.way s ((I0.mem s).mpr ld);refine ACl w1 λx hx=>?_;have z:=w2 x hx;unfold rank at z;rw[pZ (qu k2)] at z;have e:(aa.getD (k-2) (0,0,0)).1=t:=tk;lia
  have z:=Tn (l₁:=ks.map λk=>subs12.map (led aa k)) (l₂:=allB 8) (by
   unfold Ha;rw[B5];refine C8 (λ{a b} ha hb ⟨s,ne⟩ e=>ne ?_) un;obtain⟨_,a2,ka,ta,_⟩:=hk a ha;obtain⟨_,b2,kb,tb,_⟩:=hk b hb;have same:∀s∈subs12,led aa a s=led aa b s:=λs hs=>(List.map_inj_left.mp e) s hs;cases ea:led aa a s with
   | true=>rw[<- same s (lim ka a2 ta ea),ea]
   | false =>
    cases eb:led aa b s with
    | true=>rw[<- same s (lim kb b2 tb eb),ea] at eb;exact eb
    | false=>rfl) λx hx=>by
   obtain⟨k,_,rfl⟩:=AY.mp hx;exact Qq (by rw[AB];rfl)
  rw[AB,Tg] at z;lia
end
end G
namespace SB
open PySem PySem.SetTable
def iter{α:Type}(f:α->α):Nat->α->α
 | 0,x=>x
 | n+1,x=>iter f n (f x)
theorem Bv{α:Type}(f:α->α):∀(m n:Nat) (x:α),iter f (m+n) x=iter f n (iter f m x)
 | 0,n,x=>by rw[Kb];rfl
 | m+1,n,x=>by
  rw[Nat.succ_add];exact Bv f m n (f x)
theorem Ym(f:α->α)(n:Nat)(x:α):iter f (n+1) x=f (iter f n x):=Bv f n 1 x
def Mask(m:Nat):Prop:=m=7\/m=31\/m=127\/m=511
def step(M:Nat)(p:HR):HR :=
 if p.more>0 then {p with j:=p.j+1,more:=p.more-1} else
 {p with j:=(leap M p.i p.perturb).1,more:=EW M (leap M p.i p.perturb).1-(leap M p.i p.perturb).1,i:=(leap M p.i p.perturb).1,perturb:=(leap M p.i p.perturb).2}
theorem Gv(t:CS)(p:HR):t.advance p=step t.mask p:=by
 unfold advance step;split<;>rfl
theorem PB(M i:Nat):EW M i-i<=9:=by
 unfold EW;split<;>lia
structure Fine(M:Nat)(p:HR):Prop where
 more:p.more<=9
 i:p.i<=M
 j:p.j<=M
 jm:p.j+p.more<=M
 dummy:p.dummy=pY
theorem Vi(h:i<=M):i+(EW M i-i)<=M:=by
 unfold EW;split<;>lia
theorem Hr(M i p:Nat):(leap M i p).1<=M:=by
 unfold leap;have:=LY (i*5+1+p / 32) (show 0<M+1 from se);exact q5 this
theorem Fine.step{M:Nat}{p:HR}(h:Fine M p):Fine M (step M p):=by
 unfold SB.step;by_cases c:p.more>0
 .rw[p6 c]
  have:=h.jm;have:=h.more;exact⟨by show p.more-1<=9;exact tN this,h.i,by show p.j+1<=M;lia,by show p.j+1+(p.more-1)<=M;lia,h.dummy⟩
 .rw[pZ c]
  exact⟨PB _ _,Hr _ _ _,Hr _ _ _,Vi (Hr _ _ _),h.dummy⟩
theorem Fine.iter{M:Nat}:∀(n:Nat) {p:HR},Fine M p->Fine M (iter (SB.step M) n p)
 | 0,_,h=>h
 | n+1,_,h=>Fine.iter n h.step
theorem Fine.start(t:CS)(h:Int):Fine t.mask (t.probeStart h):=by
 have:=LY (bits h) (show 0<t.mask+1 from se);have hi:bits h%(t.mask+1)<=t.mask:=q5 this;exact⟨PB _ _,hi,hi,Vi hi,rfl⟩
theorem Wj{M:Nat}:∀(k:Nat) {p:HR},p.more=k->∃q,SB.iter (step M) (k+1) p=q/\q.i=(leap M p.i p.perturb).1/\q.perturb=(leap M p.i p.perturb).2/\q.j=q.i/\q.more<=9
 | 0,p,e=>by
  refine⟨_,rfl,?_⟩;show(step M p).i=_/\(step M p).perturb=_/\(step M p).j=(step M p).i/\(step M p).more<=9;unfold step;rw[pZ (by lia)];exact⟨rfl,rfl,rfl,PB _ _⟩
 | k+1,p,e=>by
  have hs:step M p={p with j:=p.j+1,more:=p.more-1}:=by unfold step;rw[p6 (by lia)]
  obtain⟨q,h1,h2⟩:=Wj (M:=M) k (p:=step M p) (by rw[hs];show p.more-1=k;lia);rw[hs] at h2;exact⟨q,h1,h2⟩
def leaps(M:Nat):Nat->Nat×Nat->Nat×Nat:=SB.iter (λx=>leap M x.1 x.2)
theorem Le{M:Nat}:∀(k:Nat) {p:HR},p.more<=9->∃m,m<=10*k/\((SB.iter (step M) m p).i,(SB.iter (step M) m p).perturb)=leaps M k (p.i,p.perturb)/\(SB.iter (step M) m p).more<=9/\(0<k->(SB.iter (step M) m p).j=(SB.iter (step M) m p).i)
 | 0,p,h=>⟨0,sk,rfl,h,λz=>qB z sq⟩
 | k+1,p,h=>by
  obtain⟨q,e,q1,q2,q3,q4⟩:=Wj (M:=M) p.more (p:=p) rfl;obtain⟨m,hm,h1,h2,h3⟩:=Le k q4;refine⟨(p.more+1)+m,by lia,?_,?_,λ_=>?_⟩
  .rw[Bv,e,h1]
   show leaps M k (q.i,q.perturb)=leaps M k (leap M p.i p.perturb);rw[q1,q2]
  .rw[Bv,e];exact h2
  .rw[Bv,e]
   by_cases c:0<k
   .exact h3 c
   .have:k=0:=by lia
    subst this;have:m=0:=by lia
    subst this;exact q3
theorem Em{M:Nat}:∀(k:Nat) (x:Nat×Nat),(leaps M k x).2=x.2 / 32 ^ k
 | 0,x=>by simp[leaps,SB.iter]
 | k+1,x=>by
  show(leaps M k (leap M x.1 x.2)).2=_;rw[Em k];show x.2 / 32 / 32 ^ k=_;rw[Nat.div_div_eq_div_mul,LX,Nat.mul_comm]
def lc(n i:Nat):Nat:=(i*5+1)%n
theorem HF{M:Nat}:∀(k i:Nat),leaps M k (i,0)=(SB.iter (lc (M+1)) k i,0)
 | 0,i=>rfl
 | k+1,i=>by
  show leaps M k (leap M i 0)=_;have:leap M i 0=(lc (M+1) i,0):=by unfold leap lc;simp
  rw[this,HF k];rfl
theorem cyc8:∀j,j<8->∃k,k<8/\SB.iter (lc 8) k 0=j:=by decide+kernel
theorem cyc32:∀j,j<32->∃k,k<32/\SB.iter (lc 32) k 0=j:=by decide+kernel
theorem cyc128:∀j,j<128->∃k,k<128/\SB.iter (lc 128) k 0=j:=by decide+kernel
def iters(f:Nat->Nat):Nat->Nat->qE
 | 0,_=>[]
 | n+1,x=>x::iters f n (f x)
theorem Rf(f:Nat->Nat):∀(n x j:Nat),j∈iters f n x->∃k,k<n/\SB.iter f k x=j
 | 0,x,j,h=>by cases h
 | n+1,x,j,h=>by
  rcases BF.mp h with rfl| h
  .exact⟨0,NV _,rfl⟩
  .obtain⟨k,hk,e⟩:=Rf f n (f x) j h
   exact⟨k+1,Nat.succ_lt_succ hk,e⟩
theorem all512:((AO 512).all λj=>(iters (lc 512) 512 0).contains j)=true:=by decide+kernel
theorem cyc512:∀j,j<512->∃k,k<512/\SB.iter (lc 512) k 0=j:=λj hj=>Rf _ _ _ _ (List.contains_iff_mem.mp (EL.mp all512 j (AV.mpr hj)))
theorem cyc(h:Mask M):(∀j,j<M+1->∃k,k<M+1/\SB.iter (lc (M+1)) k 0=j)/\SB.iter (lc (M+1)) (M+1) 0=0:=by
 rcases h with rfl| rfl| rfl| rfl
 .exact⟨cyc8,by decide+kernel⟩
 .exact⟨cyc32,by decide+kernel⟩
 .exact⟨cyc128,by decide+kernel⟩
 .exact⟨cyc512,by decide+kernel⟩
theorem Wx(h:Mask M)(hi:i<M+1)(hj:j<M+1):∃k,k<M+1/\SB.iter (lc (M+1)) k i=j:=by
 obtain⟨c1,c2⟩:=cyc h;obtain⟨a,ha,ea⟩:=c1 i hi;obtain⟨b,hb,eb⟩:=c1 j hj;by_cases c:a<=b
 .refine⟨b-a,tD hb,?_⟩
  rw[<- ea,<- Bv,show a+(b-a)=b from rf c,eb]
 .refine⟨M+1+b-a,by lia,?_⟩
  rw[<- ea,<- Bv,show a+(M+1+b-a)=(M+1)+b by lia,Bv,c2,eb]
theorem Bb:∀{l₁ l₂:qE},l₁.Nodup->(∀x∈l₁,x∈l₂)->l₁.length<=l₂.length
 | [],_,_,_=>BD _
 | a::t,l₂,nd,hs=>by
  obtain⟨n1,n2⟩:=Ex.mp nd;have ha:=hs a AI;have hl:=HE ha;have ih:=Bb (l₂:=l₂.erase a) n2 λx hx=>(J0 (λ(e:x=a)=>n1 (by rw[<- e];exact hx))).mpr (hs x (AJ _ hx));have:0<l₂.length:=K6 ha;simp;exact ug ih hl this
theorem ACv{place:Array Nat}(h:place.size<=M):∃j,j<M+1/\j∉place.toList:=by
 refine CA λc=>?_;have all:∀j∈AO (M+1),j∈place.toList:=λj hj=>CA λz=>c ⟨j,AV.mp hj,z⟩;have:=Bb HK all;rw[B0,AZ] at this;lia
theorem Oj(h:Int):bits h<2 ^ 64:=by
 unfold bits;have h1:=EI h (show(2 ^ 64:Int)≠0 by decide);have h2:=DA h (show(0:Int)<2 ^ 64 by decide);lia
theorem La{M:Nat}:∀(n:Nat) (p:HR),(SB.iter (step M) n p).perturb<=p.perturb
 | 0,_=>AH _
 | n+1,p=>by
  refine BQ (La n (step M p)) ?_;unfold step;split
  .exact AH _
  .exact Nat.div_le_self _ _
theorem Ml{place:Array Nat}(hM:Mask M)(hs:place.size<=M){p:HR}(hp:Fine M p)(hb:p.perturb<2 ^ 64):∃m,m<10*NI M/\(SB.iter (step M) m p).j∉place.toList:=by
 obtain⟨j,hj,nj⟩:=ACv hs;obtain⟨m1,hm1,e1,k1,_⟩:=Le (M:=M) 13 (p:=p) hp.more;generalize hq:SB.iter (step M) m1 p=q at *;have fq:Fine M q:=by rw[<- hq];exact hp.iter m1
 have pz:q.perturb=0:=by
  have h2:=congrArg Prod.snd e1;rw[Em] at h2;have h3:q.perturb=p.perturb / 32 ^ 13:=h2;rw[h3];exact TU (B9 hb (by decide))
 obtain⟨k,hk,ek⟩:=Wx hM (i:=lc (M+1) q.i) (j:=j) (LY _ (W1 _)) hj;obtain⟨m2,hm2,e2,_,k2⟩:=Le (M:=M) (k+1) (p:=q) fq.more;refine⟨m1+m2,?_,?_⟩
 .unfold NI
  lia
 .rw[Bv,hq,k2 (W1 _)]
  have h1:=congrArg Prod.fst e2;rw[pz,HF] at h1;have h2:(SB.iter (step M) m2 q).i=SB.iter (lc (M+1)) k (lc (M+1) q.i):=h1;rw[h2,ek];exact nj
theorem Kv{xs:Array Nat}{j:Nat}(so:xs.toList.Pairwise (· < ·)):∀(aw lo hi:Nat),lo<=hi->hi<=xs.size->hi-lo<=aw->(∀k,k<lo->xs.getD k j<j)->(∀k,hi<=k->k<xs.size->j<=xs.getD k j) ->
  (∀k,k<below.go xs j aw lo hi->xs.getD k j<j)/\(∀k,below.go xs j aw lo hi<=k->k<xs.size->j<=xs.getD k j)/\below.go xs j aw lo hi<=xs.size
 | 0,lo,hi,h1,h2,h3,h4,h5=>by
  have:lo=hi:=by lia
  subst this;exact⟨h4,h5,h2⟩
 | aw+1,lo,hi,h1,h2,h3,h4,h5=>by
  unfold below.go;by_cases c:lo<hi
  .rw[p6 c]
   have hm:(lo+hi) / 2<xs.size:=by lia
   have so':=Co.mp so;have gd:∀k,k<xs.size->xs.getD k j=xs.toList.getD k j:=λk hk=>by simp[DI,hk]
   by_cases d:xs.getD ((lo+hi) / 2) j<j
   .simp only[p6 d]
    refine Kv so aw _ hi (by lia) h2 (by lia) (λk hk=>?_) h5;by_cases e:k=(lo+hi) / 2
    .rw[e];exact d
    .have a5:k<(lo+hi) / 2:=tu hk e
     have z:=so' k ((lo+hi) / 2) (by simpa using(show k<xs.size from qj a5 hm)) (by simpa using hm) a5;have g1:xs.getD k j=xs[k]'(qj a5 hm):=by simp[DI,show k<xs.size from qj a5 hm]
     have g2:xs.getD ((lo+hi) / 2) j=xs[(lo+hi) / 2]'hm:=by simp[DI,hm]
     rw[g2] at d;rw[g1];simp at z;exact qj z d
   .simp only[pZ d]
    refine Kv so aw lo _ (by lia) (rY hm) (by lia) h4 (λk hk hJ=>?_);by_cases e:k=(lo+hi) / 2
    .rw[e];exact qf d
    .have z:=so' ((lo+hi) / 2) k (by simpa using hm) (by simpa using hJ) (by lia)
     have g1:xs.getD k j=xs[k]'hJ:=by simp[DI,hJ]
     have g2:xs.getD ((lo+hi) / 2) j=xs[(lo+hi) / 2]'hm:=by simp[DI,hm]
     rw[g2] at d;rw[g1];simp at z;lia
  .rw[pZ c]
   have:lo=hi:=rF h1 c;subst this;exact⟨h4,h5,h2⟩
theorem Es{xs:Array Nat}(so:xs.toList.Pairwise (· < ·)):(∀k,k<below xs j->xs.getD k j<j)/\(∀k,below xs j<=k->k<xs.size->j<=xs.getD k j)/\below xs j<=xs.size :=
 Kv so xs.size 0 xs.size (BD _) (AH _) (AH _) (λk hk=>qB hk qv) (λk h1 h2=>qB h2 (qu h1))
theorem below_at{xs:Array Nat}(so:xs.toList.Pairwise (· < ·))(h:j∈xs.toList):xs[below xs j]?=pX j:=by
 obtain⟨b1,b2,b3⟩:=Es (j:=j) so;obtain⟨k,hk,e⟩:=CC.mp h;have a5:k<xs.size:=by simpa using hk
 have e':xs[k]=j:=by simpa using e
 have g1:xs.getD k j=j:=by simp[DI,a5,e']
 have h1:below xs j<=k:=by
  refine CA λc=>?_;have:=b1 k (sj c);exact qL this g1
 by_cases c:below xs j=k
 .rw[c,A9 a5,e']
 .have hb:below xs j<xs.size:=qq h1 a5
  have z:=Co.mp so (below xs j) k (by simpa using hb) hk (sR h1 c);have b:=b2 (below xs j) (AH _) hb;have g2:xs.getD (below xs j) j=xs[below xs j]'hb:=by simp[DI,hb]
  rw[g2] at b;simp at z;lia
structure Tab(t:CS):Prop where
 mask:Mask t.mask
 none:t.dummies=#[]
 size:t.place.size<=t.mask
 le:∀j∈t.place.toList,j<=t.mask
 rise:t.place.toList.Pairwise (· < ·)
theorem slot_of{t:CS}(T:Tab t)(j:Nat):(t.slot j=.empty/\j∉t.place.toList)\/∃i,t.slot j=.live i/\t.place[i]?=pX j:=by
 unfold slot;by_cases c:t.place[below t.place j]?=pX j
 .right
  exact⟨below t.place j,by simp[c],c⟩
 .left
  have hd:has t.dummies j=false:=by rw[T.none];unfold has;simp
  refine⟨by simp[c,hd],λh=>c (below_at T.rise h)⟩
def way(t:CS)(p:HR)(m:Nat):Nat:=(SB.iter (step t.mask) m p).j
theorem Ra(t:CS)(p:HR)(m:Nat):way t (step t.mask p) m=way t p (m+1):=rfl
theorem ADi{t:CS}(T:Tab t){hashAt:Nat->Int}{h:Int}:∀(aw:Nat) (p:HR),p.dummy=none->(∃m,m<aw/\way t p m∉t.place.toList) ->
  ∃m,(∀m',m'<m->∃i,t.place[i]?=pX (way t p m')/\hashAt i≠h) /\
   (
    (way t p m∉t.place.toList/\MG t hashAt h aw p=pX (.empty (way t p m) pY)) \/
    ∃i,t.place[i]?=pX (way t p m)/\t.slot (way t p m)=.live i/\hashAt i=h/\MG t hashAt h aw p=pX (.candidate (way t p m) i (SB.iter (step t.mask) (m+1) p)))
 | 0,p,_,⟨m,hm,_⟩=>qB hm qv
 | aw+1,p,hd,⟨m0,hm0,n0⟩=>by
  unfold MG;rcases slot_of T p.j with⟨e,ne⟩| ⟨i,e,pi⟩
  .refine⟨0,λm' h=>qB h qv,.inl ⟨ne,?_⟩⟩
   rw[e];show pX (Met.empty p.j p.dummy)=_;rw[hd];rfl
  .by_cases c:hashAt i=h
   .refine⟨0,λm' h=>qB h qv,.inr ⟨i,pi,e,c,?_⟩⟩
    rw[e];simp only[c,beq_self_eq_true,if_true];rw[Gv];rfl
   .have m1:m0≠0:=λz=>by
     subst z;exact n0 (by rw[Fm];exact⟨i,by rw[BY];exact pi⟩)
    have dq:(step t.mask p).dummy=pY:=by unfold step;split<;>exact hd
    obtain⟨m,h1,h2⟩:=ADi T (hashAt:=hashAt) (h:=h) aw (step t.mask p) dq ⟨m0-1,uI hm0 m1,by rw[Ra,show m0-1+1=m0 by lia];exact n0⟩;have ee:MG t hashAt h (aw+1) p=MG t hashAt h aw (step t.mask p):=by
     show(match t.slot p.j with| .empty=>pX (Met.empty p.j p.dummy)| .dummy=>MG t hashAt h aw (t.advance {p with dummy:=pX p.j})| .live i=>if hashAt i==h then pX (.candidate p.j i (t.advance p)) else MG t hashAt h aw (t.advance p))=_;rw[e];have cb:(hashAt i==h)=false:=by simpa using c
     simp only[cb,BU,if_false];rw[Gv]
    refine⟨m+1,λm' cr=>?_,?_⟩
    .by_cases z:m'=0
     .subst z;exact⟨i,pi,c⟩
     .have:=h1 (m'-1) (by lia)
      rw[Ra,show m'-1+1=m' by lia] at this;exact this
    .rw[e]
     have cb:(hashAt i==h)=false:=by simpa using c
     simp only[cb,BU,if_false,Gv];exact h2
def Loc(t:CS)(hs:qC):Prop:=∀(ay j:Nat) (h:Int),t.place[ay]?=pX j->hs[ay]?=pX h->∃m,way t (t.probeStart h) m=j/\∀m',m'<m->way t (t.probeStart h) m'∈t.place.toList
theorem AAe{t:CS}(T:Tab t){hashAt:Nat->Int}{h:Int}{p:HR}(hp:Fine t.mask p)(hb:p.perturb<2 ^ 64) :
  ∃m,(∀m',m'<m->∃i,t.place[i]?=pX (way t p m')/\hashAt i≠h) /\
   (
    (way t p m∉t.place.toList/\t.probe hashAt h p=pX (.empty (way t p m) pY)) \/
    ∃i,t.place[i]?=pX (way t p m)/\t.slot (way t p m)=.live i/\hashAt i=h/\t.probe hashAt h p=pX (.candidate (way t p m) i (SB.iter (step t.mask) (m+1) p))) :=
 ADi T _ p hp.dummy (Ml T.mask T.size hp hb)
theorem Az(xs:Array α)(p:Nat)(x:α):(D9 xs p x).toList=xs.toList.take p++[x]++xs.toList.drop p:=by
 unfold D9;simp;exact K7 (by simp)
structure Put(t:CS)(j:Nat):Prop where
 le:j<=t.mask
 new:j∉t.place.toList
 room:t.place.size+1<=t.mask
theorem Ip{t:CS}(T:Tab t):(t.put j).1={t with place:=D9 t.place (below t.place j) j}/\(t.put j).2=below t.place j:=by
 unfold put;have hd:has t.dummies j=false:=by rw[T.none];unfold has;simp
 simp[hd]
theorem ACt{t:CS}(T:Tab t)(P:Put t j):Tab (t.put j).1:=by
 obtain⟨e,_⟩:=Ip T (j:=j);obtain⟨b1,b2,b3⟩:=Es (j:=j) T.rise;rw[e];refine⟨T.mask,T.none,?_,λk hk=>?_,?_⟩
 .show(D9 t.place (below t.place j) j).size<=t.mask
  have:=congrArg ER (Az t.place (below t.place j) j);simp at this;have:=P.room;lia
 .have a5:=hk
  rw[Az] at a5;rcases Cf.mp a5 with a5| a5
  .rcases Cf.mp a5 with a5| a5
   .exact T.le k (LZ a5)
   .rw[Cb.mp a5];exact P.le
  .exact T.le k (QO a5)
 .rw[Az]
  have so:=T.rise;have get:∀k (hk:k<t.place.size),t.place.getD k j=t.place.toList[k]'(by simpa using hk):=λk hk=>by simp[DI,hk]
  refine CD.mpr ⟨CD.mpr ⟨so.sublist (IP _ _),FX _ _,λa ha b hb=>?_⟩,so.sublist (G5 _ _),λa ha b hb=>?_⟩
  .rw[Cb.mp hb]
   obtain⟨k,hk,rfl⟩:=CC.mp ha;rw[BS] at hk;have hJ:k<t.place.size:=by simp at hk;exact uz hk
   have:=b1 k (sM hk);rw[get k hJ] at this;rw[IQ];exact this
  .obtain⟨k,hk,rfl⟩:=CC.mp hb
   rw[F7] at hk;have hJ:below t.place j+k<t.place.size:=by simp at hk;lia
   rw[NB];have z:=b2 (below t.place j+k) qi hJ;rw[get _ hJ] at z;have ne:t.place.toList[below t.place j+k]'(by simpa using hJ)≠j:=λe=>P.new (e ▸ F8 _);rcases Cf.mp ha with ha| ha
   .obtain⟨i,hi,rfl⟩:=CC.mp ha
    rw[BS] at hi;rw[IQ];exact Co.mp so i (below t.place j+k) (uz hi) (by simpa using hJ) (by lia)
   .rw[Cb.mp ha]
    lia
theorem ACd{t:CS}(T:Tab t)(hl:hs.length=t.place.size)(L:Loc t hs){h:Int}(hm:∀m',m'<m->way t (t.probeStart h) m'∈t.place.toList) :
  Loc (t.put (way t (t.probeStart h) m)).1 (hs.take (t.put (way t (t.probeStart h) m)).2++[h]++hs.drop (t.put (way t (t.probeStart h) m)).2):=by
 generalize hj:way t (t.probeStart h) m=j;obtain⟨e,e2⟩:=Ip T (j:=j);obtain⟨_,_,b3⟩:=Es (j:=j) T.rise;rw[e,e2];generalize hp:below t.place j=p at *;have mem:∀k,k∈t.place.toList->k∈(D9 t.place p j).toList:=λk hk=>by
  rw[Az];rw[<- Fu p t.place.toList] at hk;rcases Cf.mp hk with hk| hk
  .exact FB _ (FB _ hk)
  .exact B4 _ hk
 have memj:j∈(D9 t.place p j).toList:=by
  rw[Az];exact FB _ (B4 _ (Cb.mpr rfl))
 intro ay k h' hk hh;have a5:(D9 t.place p j).toList[ay]?=pX k:=by simpa using hk
 rw[Az] at a5;have wy:∀(q:HR) m,way {t with place:=D9 t.place p j} q m=way t q m:=λ_ _=>rfl;have ps:∀h,({t with place:=D9 t.place p j}:CS).probeStart h=t.probeStart h:=λ_=>rfl;have lt:(t.place.toList.take p).length=p:=by rw[BS,AZ];lia
 have lh:(hs.take p).length=p:=by rw[BS];lia
 rw[CL] at a5 hh;have b6:∀i,t.place.toList[i]?=pX k->hs[i]?=pX h'->∃m,way {t with place:=D9 t.place p j} (({t with place:=D9 t.place p j}:CS).probeStart h') m=k/\∀m',m'<m->way {t with place:=D9 t.place p j} (({t with place:=D9 t.place p j}:CS).probeStart h') m'∈({t with place:=D9 t.place p j}:CS).place.toList:=λi a b=>by
  obtain⟨m,x,y⟩:=L i k h' (by rw[<- BY];exact a) b;exact⟨m,x,λm' cr=>mem _ (y m' cr)⟩
 by_cases c:ay<p
 .rw[Bn (by lia),FD c] at a5 hh
  exact b6 ay a5 hh
 .rw[Cc (by lia)] at a5 hh
  rw[lt] at a5;rw[lh] at hh;by_cases d:ay=p
  .subst d
   simp at a5 hh;subst a5 hh;exact⟨m,hj,λm' cr=>mem _ (hm m' cr)⟩
  .rw[Cc (by simp;lia)] at a5 hh
   simp only[D7,Sr] at a5 hh;rw[show p+(ay-p-1)=ay-1 by lia] at a5 hh;exact b6 (ay-1) a5 hh
def Bq(M i perturb:Nat):HR:={j:=i,more:=EW M i-i,i:=i,perturb:=perturb,dummy:=pY}
theorem Jv{M:Nat}:∀(m:Nat) (p:HR),m<=p.more->SB.iter (step M) m p={p with j:=p.j+m,more:=p.more-m}
 | 0,p,_=>by cases p;rfl
 | m+1,p,h=>by
  have hs:step M p={p with j:=p.j+1,more:=p.more-1}:=by unfold step;rw[p6 (by lia)]
  show SB.iter (step M) m (step M p)=_;rw[Jv m (step M p) (by rw[hs];show m<=p.more-1;lia),hs];rw[show p.j+1+m=p.j+(m+1) from rq,show p.more-1-m=p.more-(m+1) by lia]
theorem Ur{pe:Nat}:SB.iter (step M) (EW M i-i+1) (Bq M i pe)=Bq M (leap M i pe).1 (leap M i pe).2:=by
 rw[Ym,Jv (EW M i-i) (Bq M i pe) (AH _)];unfold step;rw[pZ (by show ¬ (EW M i-i-(EW M i-i)>0);lia)];rfl
theorem Yx(M i:Nat):i<=EW M i:=by
 unfold EW;split<;>lia
def wayM(M:Nat)(p:HR)(m:Nat):Nat:=(SB.iter (step M) m p).j
theorem Xd{M:Nat}{owner:Array qP}:∀(aw i pe:Nat),i<=M->(∃k,k<aw/\owner.getD (leaps M k (i,pe)).1 (pX 0)=pY) ->
  ∃m,J4 M owner aw i pe=pX (wayM M (Bq M i pe) m)/\owner.getD (wayM M (Bq M i pe) m) (pX 0)=pY/\∀m',m'<m->(owner.getD (wayM M (Bq M i pe) m') (pX 0)).isSome=true
 | 0,i,pe,_,⟨k,hk,_⟩=>qB hk qv
 | aw+1,i,pe,hi,⟨k,hk,nk⟩=>by
  have ge:=Yx M i;have wy:∀m,m<=EW M i-i->wayM M (Bq M i pe) m=i+m:=λm hm=>by
   unfold wayM;rw[Jv m (Bq M i pe) hm];rfl
  unfold J4;cases hf:(AO (EW M i+1-i)).find? λk=>(owner.getD (i+k) (pX 0)).isNone with
  | some k' =>
   have h1:=List.find?_some hf;have h2:=AV.mp (List.mem_of_find?_eq_some hf);refine⟨k',?_,?_,λm' cr=>?_⟩
   .rw[wy k' (tO h2)]
   .rw[wy k' (tO h2)]
    simpa using h1
   .rw[wy m' (by lia)]
    obtain⟨_,as,bs,e,hb⟩:=List.find?_eq_some_iff_append.mp hf;have hl:as.length=k':=by
     have:(AO (EW M i+1-i))[as.length]?=pX k':=by rw[e];simp
     rw[F3 (by have:=congrArg ER e;simp at this;lia)] at this;exact A8 this
    have hm:m'∈as:=by
     have:(AO (EW M i+1-i))[m']?=pX m':=F3 (qj cr h2);rw[e,Bn (fv cr hl)] at this;exact By this
    have:=hb m' hm;simpa [NJ] using this
  | none =>
   have hn:=List.find?_eq_none.mp hf;have all:∀m,m<=EW M i-i->(owner.getD (i+m) (pX 0)).isSome=true:=λm hm=>by
    have:=hn m (AV.mpr (by lia));simpa [NJ] using this
   have k0:k≠0:=λz=>by
    subst z;have:=all 0 (BD _);have nk':owner.getD i (pX 0)=pY:=nk;rw[So,nk'] at this;cases this
   obtain⟨m,h1,h2,h3⟩:=Xd aw (leap M i pe).1 (leap M i pe).2 (Hr _ _ _) ⟨k-1,uI hk k0,by
    have e:leaps M k (i,pe)=leaps M (k-1) (leap M i pe):=by
     obtain⟨k',rfl⟩:∃k',k=k'+1:=⟨k-1,by lia⟩;rfl
    rw[e] at nk;exact nk⟩
   have sh:∀m,wayM M (Bq M (leap M i pe).1 (leap M i pe).2) m=wayM M (Bq M i pe) (EW M i-i+1+m):=λm=>by
    unfold wayM;rw[Bv,Ur]
   rw[sh] at h1 h2;refine⟨EW M i-i+1+m,h1,h2,λm' cr=>?_⟩;by_cases c:m'<=EW M i-i
   .rw[wy m' c]
    exact all m' c
   .have:=h3 (m'-(EW M i-i+1)) (by lia)
    rw[sh,show EW M i-i+1+(m'-(EW M i-i+1))=m' by lia] at this;exact this
structure Own(M:Nat)(owner:Array qP)(hs:qC):Prop where
 size:owner.size=M+1
 has:∀ay,ay<hs.length->∃j:Nat,owner[j]?=pX (pX ay)
 at_:∀(j ay:Nat),owner[j]?=pX (pX ay)->ay<hs.length/\∃m,wayM M (Bq M (bits (hs.getD ay 0)%(M+1)) (bits (hs.getD ay 0))) m=j/\∀m',m'<m->(owner.getD (wayM M (Bq M (bits (hs.getD ay 0)%(M+1)) (bits (hs.getD ay 0))) m') (pX 0)).isSome=true
 one:∀(j j' ay:Nat),owner[j]?=pX (pX ay)->owner[j']?=pX (pX ay)->j=j'
theorem Own.start(M:Nat):Own M (UI (M+1) pY) []:=by
 have no:∀(j ay:Nat),¬ (UI (M+1) (pY:qP))[j]?=pX (pX ay):=λj ay e=>by
  rw[Array.getElem?_replicate] at e;split at e<;>cases e
 exact⟨Array.size_replicate ..,λay h=>qB h (by simp),λj ay e=>qB e (no j ay),λj _ ay e=>qB e (no j ay)⟩
theorem Own.free(O:Own M owner hs)(h:hs.length<=M):∃j,j<M+1/\owner.getD j (pX 0)=pY:=by
 refine CA λc=>?_;have all:∀j,j<M+1->∃ay,owner[j]?=pX (pX ay):=λj hj=>by
  have bj:j<owner.size:=by rw[O.size];exact hj
  cases e:owner[j] with
  | none=>exact qB ⟨j,hj,by simp[DI,bj,e]⟩ c
  | some ay=>exact⟨ay,by rw[A9 bj,e]⟩
 have key:∀n,n<=M+1->∃l:qE,l.length=n/\l.Nodup/\∀x∈l,∃j,j<n/\owner[j]?=pX (pX x):=by
  intro n
  induction n with
  | zero=>exact λ_=>⟨[],rfl,Po,λx hx=>by cases hx⟩
  | succ n ih =>
   intro hn;obtain⟨l,l1,l2,l3⟩:=ih (qy hn);obtain⟨ay,e⟩:=all n (uJ hn);refine⟨ay::l,by simp[l1],Ex.mpr ⟨λhm=>?_,l2⟩,λx hx=>?_⟩
   .obtain⟨j,hj,ej⟩:=l3 ay hm
    have:=O.one _ _ _ ej e;exact qL hj this
   .rcases BF.mp hx with rfl| hx
    .exact⟨n,rB,e⟩
    .obtain⟨j,hj,ej⟩:=l3 x hx
     exact⟨j,qw hj,ej⟩
 obtain⟨l,l1,l2,l3⟩:=key (M+1) (AH _);have:=Bb (l₂:=AO hs.length) l2 λx hx=>by
  obtain⟨j,_,ej⟩:=l3 x hx;exact AV.mpr (O.at_ j x ej).1
 rw[B0] at this;lia
theorem RB{M:Nat}:∀(k:Nat) (x:Nat×Nat),x.1<=M->(leaps M k x).1<=M
 | 0,x,h=>h
 | k+1,x,h=>RB k (leap M x.1 x.2) (Hr _ _ _)
theorem Yb(a b:Nat)(x:Nat×Nat):leaps M (a+b) x=leaps M b (leaps M a x):=Bv _ a b x
theorem Own.next(hM:Mask M)(O:Own M owner hs)(hl:hs.length<=M)(h:Int) :
  ∃j,J4 M owner (NI M) (bits h%(M+1)) (bits h)=pX j/\Own M (owner.setIfInBounds j (pX hs.length)) (hs++[h]):=by
 obtain⟨f,hf,nf⟩:=O.free hl;have hi:bits h%(M+1)<=M:=by
  have:=LY (bits h) (show 0<M+1 from se);exact q5 this
 have reach:∃k,k<NI M/\owner.getD (leaps M k (bits h%(M+1),bits h)).1 (pX 0)=pY:=by
  have p13:(leaps M 13 (bits h%(M+1),bits h)).2=0:=by
   rw[Em];exact TU (B9 (Oj h) (by decide))
  have i13:=RB (M:=M) 13 (bits h%(M+1),bits h) hi;obtain⟨k,hk,ek⟩:=Wx hM (i:=(leaps M 13 (bits h%(M+1),bits h)).1) (j:=f) (tM i13) hf;refine⟨13+k,by unfold NI;lia,?_⟩;have e:leaps M 13 (bits h%(M+1),bits h)=((leaps M 13 (bits h%(M+1),bits h)).1,0):=QN rfl p13;rw[Yb,e,HF,ek];exact nf
 obtain⟨m,h1,h2,h3⟩:=Xd (M:=M) (owner:=owner) (NI M) _ (bits h) hi reach;refine⟨_,h1,?_⟩;generalize hj:wayM M (Bq M (bits h%(M+1)) (bits h)) m=j at h2;have hjs:j<owner.size:=by
  refine CA λc=>?_;have:owner.getD j (pX 0)=pX 0:=by simp[DI,c]
  rw[this] at h2;cases h2
 have hjn:owner[j]?=pX pY:=by
  rw[A9 hjs];simp[DI,hjs] at h2;rw[h2]
 have get:∀k,(owner.setIfInBounds j (pX hs.length))[k]?=if k=j then pX (pX hs.length) else owner[k]?:=λk=>by
  rw[Array.getElem?_setIfInBounds];by_cases c:j=k
  .subst c
   simp[hjs]
  .rw[pZ c,pZ (CB c)]
 have some_of:∀k,(owner.getD k (pX 0)).isSome=true->((owner.setIfInBounds j (pX hs.length)).getD k (pX 0)).isSome=true:=λk hk=>by
  rw[GH,get];split
  .rfl
  .rw[GH] at hk
   exact hk
 have gd:∀ay,ay<hs.length->(hs++[h]).getD ay 0=hs.getD ay 0:=λay hi=>by
  rw[AD,AD,Bn hi]
 have gl:(hs++[h]).getD hs.length 0=h:=by rw[AD];simp
 refine⟨by rw[HL];exact O.size,λay hi=>?_,λk ay e=>?_,λk k' ay e e'=>?_⟩
 .by_cases c:ay<hs.length
  .obtain⟨k,ek⟩:=O.has ay c
   refine⟨k,?_⟩;rw[get,pZ (λz=>by rw[z,hjn] at ek;cases ek)];exact ek
  .have:ay=hs.length:=by simp at hi;lia
   exact⟨j,by rw[get,p6 rfl,this]⟩
 .rw[get] at e
  by_cases c:k=j
  .rw[p6 c] at e
   have:hs.length=ay:=by simpa using e
   subst this;refine⟨by simp,m,?_,λm' cr=>?_⟩
   .rw[gl,hj,c]
   .rw[gl]
    exact some_of _ (h3 m' cr)
  .rw[pZ c] at e
   obtain⟨i1,m1,w1,w2⟩:=O.at_ k ay e;refine⟨by simp;lia,m1,?_,λm' cr=>?_⟩
   .rw[gd ay i1];exact w1
   .rw[gd ay i1];exact some_of _ (w2 m' cr)
 .rw[get] at e e'
  by_cases c:k=j
  .by_cases c':k'=j
   .rw[c,c']
   .rw[p6 c] at e
    rw[pZ c'] at e';have:hs.length=ay:=by simpa using e
    have:=(O.at_ k' ay e').1;lia
  .by_cases c':k'=j
   .rw[pZ c] at e
    rw[p6 c'] at e';have:hs.length=ay:=by simpa using e'
    have:=(O.at_ k ay e).1;lia
   .rw[pZ c] at e
    rw[pZ c'] at e';exact O.one _ _ _ e e'
set_option tactic.hygienic true in
theorem Zx(hM:Mask M)(h:hashes.size<=M):∃owner,layClean M hashes=pX owner/\Own M owner hashes.toList:=by
 unfold layClean;rw[<- Array.foldl_toList];have key:∀(l done:qC) (owner:Array qP),Own M owner done->done.length+l.length<=M ->
   ∃b7,(l.foldl (λacc h=>do
    let (owner,k) <- acc
    let j <- J4 M owner (NI M) (bits h%(M+1)) (bits h)
    pure (owner.setIfInBounds j (pX k),k+1)) (pX (owner,done.length)))=pX (b7,done.length+l.length)/\Own M b7 (done++l):=by
  intro l
  induction l with
  | nil=>exact λdone owner O _=>⟨owner,rfl,by rw[B3];exact O⟩
  | cons a t ih =>
   intro done owner O hl;simp at hl;obtain⟨j,ej,O'⟩:=O.next hM (qy hl) a
   obtain⟨b7,e,O''⟩:=ih (done++[a]) _ O' (by simp;lia);refine⟨b7,?_,by simpa using O''⟩;rw[ON];have:(do
    let (owner,k) <- pX (owner,done.length)
    let j <- J4 M owner (NI M) (bits a%(M+1)) (bits a)
    pure (owner.setIfInBounds j (pX k),k+1))=pX (owner.setIfInBounds j (pX done.length),done.length+1):=by
    show(do
     let j <- J4 M owner (NI M) (bits a%(M+1)) (bits a)
     pure (owner.setIfInBounds j (pX done.length),done.length+1))=_
    rw[ej];rfl
   rw[this];rw[show(done++[a]).length=done.length+1 by simp] at e;rw[e];simp;exact rq
 obtain⟨b7,e,O⟩:=key hashes.toList [] _ (Own.start M) (by simpa using h);refine⟨b7,?_,by simpa using O⟩;have e':=congrArg (Option.map Prod.fst) e;exact e'
def pairs(owner:Array qP)(l:qE):List (Nat×Nat):=l.filterMap λj=>(owner.getD j pY).map (j,·)
theorem Io{l:qE}{ay:Nat}:(j,ay)∈pairs owner l↔j∈l/\owner.getD j pY=pX ay:=by
 unfold pairs;rw[MR];constructor
 .rintro⟨k,hk,e⟩
  cases o:owner.getD k pY with
  | none=>rw[o] at e;cases e
  | some x =>
   rw[o] at e;have e':=A8 e;cases e';exact⟨hk,o⟩
 .rintro⟨hj,e⟩
  exact⟨j,hj,by rw[e];rfl⟩
theorem LC{owner:Array qP}:∀{l:qE},l.Pairwise (· < ·)->((pairs owner l).map (·.1)).Pairwise (· < ·)
 | [],_=>.nil
 | a::t,h=>by
  obtain⟨h1,h2⟩:=CO.mp h;have ih:=LC (owner:=owner) h2;unfold pairs;rw[HQ];cases o:owner.getD a pY with
  | none=>exact ih
  | some x =>
   show((a,x)::pairs owner t|>.map (·.1)).Pairwise (· < ·);rw[BG];refine CO.mpr ⟨λb hb=>?_,ih⟩;obtain⟨⟨b',i⟩,hm,rfl⟩:=AY.mp hb;exact h1 b' (Io.mp hm).1
theorem GF:∀{l₁ l₂:qE},l₁.Nodup->(∀x∈l₁,x∈l₂)->l₂.length<=l₁.length->l₁.Perm l₂
 | [],l₂,_,_,h=>by
  have:l₂=[]:=HZ.mp (by simpa using h);rw[this]
 | a::t,l₂,nd,hs,h=>by
  obtain⟨n1,n2⟩:=Ex.mp nd;have ha:=hs a AI;have hp:=List.perm_cons_erase ha;have hl:=HE ha;have ih:=GF (l₂:=l₂.erase a) n2 (λx hx=>(J0 (λ(e:x=a)=>n1 (by rw[<- e];exact hx))).mpr (hs x (AJ _ hx))) (by simp at h;exact uA hl h);exact(PF a ih).trans hp.symm
theorem ACG(hM:Mask M)(h:hashes.size<=M)(finger moves:Nat)(led plain:Bool) :
  ∃(place aE:Array Nat),laid M finger moves led plain hashes=pX ({mask:=M,place:=place,dummies:=#[],finger:=finger,led:=led,moves:=moves,plain:=plain},aE) /\
   Tab {mask:=M,place:=place,dummies:=#[],finger:=finger,led:=led,moves:=moves,plain:=plain}/\place.size=hashes.size/\aE.toList.Perm (AO hashes.size) /\
   Loc {mask:=M,place:=place,dummies:=#[],finger:=finger,led:=led,moves:=moves,plain:=plain} (aE.toList.map λi=>hashes.toList.getD i 0):=by
 obtain⟨owner,e,O⟩:=Zx hM h;have gd:∀j ay,owner.getD j pY=pX ay↔owner[j]?=pX (pX ay):=λj ay=>by
  rw[GH];cases o:owner[j]? with
  | none=>simp
  | some x=>simp
 have rl:=O5 (n:=M+1);have rise:=LC (owner:=owner) rl;have mem:∀j ay,(j,ay)∈pairs owner (AO (M+1))↔owner[j]?=pX (pX ay):=λj ay=>by
  rw[Io,gd];refine⟨λz=>z.2,λz=>⟨AV.mpr ?_,z⟩⟩;have:=(C2.mp z).1;rw[O.size] at this;exact this
 have nd:((pairs owner (AO (M+1))).map (·.2)).Nodup:=by
  have r:=B5.mp rise;refine B5.mpr (r.imp_of_mem λ{a b} ha hb lt z=>?_);obtain⟨a1,a2⟩:=a;obtain⟨b1,b2⟩:=b;have z':=z;subst z';have:=O.one _ _ _ ((mem a1 a2).mp ha) ((mem b1 a2).mp hb);simp at lt;exact qL lt this
 have sub:∀x∈(pairs owner (AO (M+1))).map (·.2),x∈AO hashes.size:=λx hx=>by
  obtain⟨⟨j,i⟩,hm,rfl⟩:=AY.mp hx;have:=(O.at_ j i ((mem j i).mp hm)).1;exact AV.mpr (by simpa using this)
 have sup:∀x∈AO hashes.size,x∈(pairs owner (AO (M+1))).map (·.2):=λx hx=>by
  obtain⟨j,ej⟩:=O.has x (by simpa using hx);exact AY.mpr ⟨(j,x),(mem j x).mpr ej,rfl⟩
 have l1:=Bb HK sup;have l2:=Bb nd sub;rw[B0] at l1 l2;have perm:=GF nd sub (by rw[B0];exact l1);have ll:(pairs owner (AO (M+1))).length=hashes.size:=by
  rw[AB] at l1 l2;lia
 refine⟨((pairs owner (AO (M+1))).map (·.1)).toArray,((pairs owner (AO (M+1))).map (·.2)).toArray,?_,?_,?_,?_,?_⟩
 .unfold laid
  rw[e];rfl
 .refine⟨hM,rfl,?_,λj hj=>?_,?_⟩
  .rw[AU,AB,ll]
   exact h
  .have bj:=hj
   obtain⟨⟨k,i⟩,hm,rfl⟩:=AY.mp bj;have:=AV.mp (Io.mp hm).1;show k<=M;exact q5 this
  .exact rise
 .rw[AU,AB,ll]
 .exact perm
 .intro ay j hh hj hh'
  have bj:((pairs owner (AO (M+1))).map (·.1))[ay]?=pX j:=by simpa using hj
  have hh2:=hh';rw[Bi] at bj;rw[Bi,Bi] at hh2;cases o:(pairs owner (AO (M+1)))[ay]? with
  | none=>rw[o] at bj;cases bj
  | some x =>
   obtain⟨k,i⟩:=x;rw[o] at bj hh2;have ek:=A8 bj;have ei:hashes.toList.getD i 0=hh:=A8 hh2;subst ek;obtain⟨_,m,w1,w2⟩:=O.at_ k i ((mem k i).mp (By o));rw[ei] at w1 w2;refine⟨m,w1,λm' cr=>?_⟩;have z:=w2 m' cr;have hb:bits hh%(M+1)<=M:=by
    have:=LY (bits hh) (show 0<M+1 from se);exact q5 this
   have fh:Fine M (Bq M (bits hh%(M+1)) (bits hh)):=⟨PB _ _,hb,hb,Vi hb,rfl⟩;have wl:wayM M (Bq M (bits hh%(M+1)) (bits hh)) m'<=M:=(fh.iter m').j;show wayM M (Bq M (bits hh%(M+1)) (bits hh)) m'∈(pairs owner (AO (M+1))).map (·.1);generalize wayM M (Bq M (bits hh%(M+1)) (bits hh)) m'=wv at z wl;have hw:wv<owner.size:=by rw[O.size];exact tM wl
   cases q:owner[wv] with
   | none =>
    have:owner.getD wv (pX 0)=pY:=by simp[DI,hw,q]
    rw[this] at z;cases z
   | some i'=>exact AY.mpr ⟨(wv,i'),(mem wv i').mpr (by rw[A9 hw,q]),rfl⟩
abbrev IK(prog:AK)(w:AQ)(h:Heap)(ks:qC)(a:Addr):Prop:=UF (KA prog w) h ks a
abbrev hsh(prog:AK)(w:AQ)(ks:qC):Int:=LW (KA prog w) ks
theorem Pj{ks:qC}(h:ItemsAre (KA prog w) ks vs):∀v∈vs,∃n t,v=.int n t:=by
 induction h with
 | nil=>intro v hv;cases hv
 | cons h1 _ ih =>
  intro v hv;rcases BF.mp hv with rfl| hv
  .obtain⟨t,e⟩:=FM h1
   exact⟨_,t,e⟩
  .exact ih v hv
theorem ACO{ks:qC}{Q:qG}(hk:IK prog w s.heap ks a)(h:Q true s):wpAny (AM prog w) A (hashByValue 8 (.ref a)) Q E s:=by
 have hT:=hk.typeIs;obtain⟨o,items,n,ho,_,hd,hi⟩:=hk;have kU:=Pj hi;unfold hashByValue;refine Ap (G1 hT F.slot_tuple_hash.lookup ?_);refine Ap (IZ ho hd ?_);refine Ap ?_;rw[<- IF];refine Fa _ (λrest r s'=>r.1=pY/\s'=s/\∀v∈rest,∃n t,v=MM n t) _ ?_ ?_ _ _ ⟨rfl,rfl,kU⟩
 .rintro v rest r s' ⟨hr,rfl,bq⟩
  obtain⟨n,t,rfl⟩:=bq v AI;refine Ap (AC ?_);exact AC ⟨rfl,rfl,λu iF=>bq u (AJ _ iF)⟩
 .rintro⟨r1,r2⟩ s' ⟨hr,rfl,_⟩
  simp only at hr;subst hr;exact AC h
theorem RW{ks:qC}{Q:qG}(hk:IK prog w s.heap ks a)(h:Q false s):wpAny (AM prog w) A (SU 8 (.ref a)) Q E s:=by
 have hT:=hk.typeIs;obtain⟨o,items,n,ho,_,hd,hi⟩:=hk;have kU:=Pj hi;unfold SU;refine Ap (LP hT ?_);show wpAny _ _ ((if("tuple" == "tuple")=true then pure true else isSubtype (.type "tuple") (.type "tuple")) >>= _) _ _ s;rw[p6 (by decide)];refine Ap (AC ?_);refine Ap (IZ ho hd ?_);refine Ap ?_;rw[<- IF];refine Fa _ (λrest r s'=>r.1=pY/\s'=s/\∀v∈rest,∃n t,v=MM n t) _ ?_ ?_ _ _ ⟨rfl,rfl,kU⟩
 .rintro v rest r s' ⟨hr,rfl,bq⟩
  obtain⟨n,t,rfl⟩:=bq v AI;refine Ap (AC ?_);exact AC ⟨rfl,rfl,λu iF=>bq u (AJ _ iF)⟩
 .rintro⟨r1,r2⟩ s' ⟨hr,rfl,_⟩
  simp only at hr;subst hr;exact AC h
theorem ABL{ks:qC}{Q:qG}(hk:IK prog w s.heap ks a)(stored:List As)(cK:∀v∈stored,∃k b,v=.ref b/\IK prog w s.heap k b)(h:Q false s):wpAny (AM prog w) A (SV (.ref a) stored) Q E s:=by
 unfold SV;refine Ap ?_;refine Fa _ (λrest r s'=>r.1=pY/\s'=s/\∀v∈rest,∃k b,v=AW b/\IK prog w s.heap k b) _ ?_ ?_ _ _ ⟨rfl,rfl,cK⟩
 .rintro v rest r s' ⟨hr,rfl,bq⟩
  have tl:∀u∈rest,∃k b,u=AW b/\IK prog w s'.heap k b:=λu iF=>bq u (AJ _ iF);obtain⟨k,b,rfl,hb⟩:=bq v AI;dsimp only;by_cases c:(a==b)=true
  .rw[p6 (by rw[c];rfl)]
   exact AC ⟨rfl,rfl,tl⟩
  .rw[pZ (by simp[c,U6])]
   refine Ap (PH hk ?_);simp only[E8,BU,if_false];refine Ap (PH hb ?_);simp only[E8,BU,if_false];refine Ap (RW hk ?_);simp only[BU,if_false];refine Ap (RW hb ?_);simp only[BU,if_false];exact AC ⟨rfl,rfl,tl⟩
 .rintro⟨r1,r2⟩ s' ⟨hr,rfl,_⟩
  simp only at hr;subst hr;exact AC h
theorem Vt{P:Nat->Prop}:∀(m:Nat),P m->∃n,P n/\∀n',n'<n->¬ P n':=by
 intro m
 induction m using Nat.strongRecOn with
 | ind m ih =>
  intro h;by_cases c:∃n,n<m/\P n
  .obtain⟨n,hn,hp⟩:=c
   exact ih n hn hp
  .exact⟨m,h,λn' pE hp=>c ⟨n',pE,hp⟩⟩
def ledOf(w:AQ):Bool:=!w.params.followText "set-order"
structure TS(prog:AK)(w:AQ)(h:Heap)(S:Addr)(es:Array (Int×As))(t:CS)(ks:List (qC×Addr)):Prop where
 obj:∃o ep,h.get? S=pX o/\o.ExactSet/\o.data=.set es ep t
 tab:Tab t
 len:es.size=t.place.size
 loc:Loc t (es.toList.map (·.1))
 els:es.toList=ks.map λx=>(hsh prog w x.1,AW x.2)
 nd:(ks.map (·.1)).Nodup
 few:t.place.size*5<t.mask*3
 pl:t.plain=true
 ld:t.led=ledOf w
theorem XM{t:CS}(T:Tab t):t.fill=t.place.size:=by unfold fill;rw[T.none];rfl
theorem Gj{t:CS}(T:Tab t)(e:n=t.place.size):t.fits n=true:=by
 unfold SetTable.fits;rw[XM T,e];have:=T.size;simp[this]
section
variable{es:Array (Int×As)}{t:CS}
theorem TS.at_(X:TS prog w h S es t ks)(hi:t.place[i]?=pX j):∃x,ks[i]?=pX x/\es[i]?=pX (hsh prog w x.1,AW x.2):=by
 have hl:=(C2.mp hi).1;have hle:i<es.toList.length:=by rw[AZ,X.len];exact hl
 cases o:ks[i]? with
 | none =>
  have l2:=congrArg ER X.els;rw[AB] at l2;have:=List.getElem?_eq_none_iff.mp o;lia
 | some x =>
  refine⟨x,rfl,?_⟩;rw[<- BY,X.els,Bi,o];rfl
theorem Nv{t:CS}(T:Tab t)(h:t.place[i]?=pX j)(h':t.place[i']?=pX j):i=i':=by
 obtain⟨a,ea⟩:=C2.mp h;obtain⟨b,eb⟩:=C2.mp h';have r:=Co.mp T.rise;rcases NA i i' with c| c| c
 .have:=r i i' (by simpa using a) (by simpa using b) c
  simp at this;exact uE this ea eb
 .exact c
 .have:=r i' i (by simpa using b) (by simpa using a) c
  simp at this;exact uE this eb ea
set_option tactic.hygienic true in
theorem ZG{k:qC}(X:TS prog w s.heap S es t ks)(hK:∀x∈ks,IK prog w s.heap x.1 x.2)(hk:IK prog w s.heap k a)(hu:A.units<Cn){N:Nat}
  (hN:way t (t.probeStart (hsh prog w k)) N∉t.place.toList) (hB:∀m,m<N->way t (t.probeStart (hsh prog w k)) m∈t.place.toList) {Q:SetFound->AA->Prop}
  (h1:k∈ks.map (·.1)->Q (.there pY) s) (h2:k∉ks.map (·.1)->Q (.free (way t (t.probeStart (hsh prog w k)) N) false) s) :
  ∀(aw c:Nat) (d6:Option HR),c<=N->N-c<aw->d6.getD (t.probeStart (hsh prog w k))=SB.iter (step t.mask) c (t.probeStart (hsh prog w k)) ->
   (∀m,m<c->∀(i:Nat) (x:qC×Addr),t.place[i]?=pX (way t (t.probeStart (hsh prog w k)) m)->ks[i]?=pX x->x.1≠k) ->
   wpAny (AM prog w) A (M8 S (.ref a) (hsh prog w k) true aw d6) Q E s:=by
 obtain⟨o,ep,ho,c6,hd⟩:=X.obj;have hf:=Gj X.tab X.len;intro aw
 induction aw with
 | zero=>intro c d6 _ h;lia
 | succ aw ih =>
  intro c d6 hc hfu cK hV;unfold M8;refine Ap (EX ho hd hf ?_);dsimp only;have hg:t.gaveWay=false:=by
   unfold SetTable.gaveWay;rcases X.tab.mask with e| e| e| e<;>rw[e]<;>decide
  rw[hg];simp only[BU,if_false];have fh:Fine t.mask (SB.iter (step t.mask) c (t.probeStart (hsh prog w k))):=(Fine.start t _).iter c;have hb:(SB.iter (step t.mask) c (t.probeStart (hsh prog w k))).perturb<2 ^ 64:=C1 (La c _) (Oj _);obtain⟨m,hm,kA⟩:=AAe X.tab (hashAt:=λi=>(es[i]?.map (·.1)).getD 0) (h:=hsh prog w k) fh hb;have wy:∀m,way t (SB.iter (step t.mask) c (t.probeStart (hsh prog w k))) m=way t (t.probeStart (hsh prog w k)) (c+m):=λm=>by
   unfold way;rw[Bv]
  have iA:∀{i j:Nat},t.place[i]?=pX j->j∈t.place.toList:=λ{i j} e=>by
   rw[Fm];exact⟨i,by rw[BY];exact e⟩
  have hV':∀m',m'<c+m->∀(i:Nat) (x:qC×Addr),t.place[i]?=pX (way t (t.probeStart (hsh prog w k)) m')->ks[i]?=pX x->x.1≠k:=λm' cr i x hi hx ek=>by
   by_cases z:m'<c
   .exact hV m' z i x hi hx ek
   .obtain⟨i',bh,df⟩:=hm (m'-c) (by lia)
    rw[wy,show c+(m'-c)=m' by lia] at bh;have:=Nv X.tab hi bh;subst this;obtain⟨y,hy,ey⟩:=X.at_ hi;rw[hx] at hy;cases hy;refine df ?_;rw[ey,<- ek];rfl
  have ltN:way t (t.probeStart (hsh prog w k)) (c+m)∈t.place.toList->c+m<N:=λz=>by
   refine CA λzz=>?_;by_cases q:c+m=N
   .rw[q] at z;exact hN z
   .obtain⟨i',bh,_⟩:=hm (N-c) (uF hc zz q)
    rw[wy,show c+(N-c)=N from rf hc] at bh;exact hN (iA bh)
  split
  .rename_i met heq
   rw[cK] at heq;rcases kA with⟨df,e⟩| ⟨i,hi,hsl,hhash,e⟩
   .obtain rfl:=A8 (heq.symm.trans e)
    dsimp only;have hcN:c+m=N:=by
     rw[wy] at df;refine CA λq=>?_;by_cases z:c+m<N
     .exact df (hB _ z)
     .obtain⟨i',bh,_⟩:=hm (N-c) (uF hc z q)
      rw[wy,show c+(N-c)=N from rf hc] at bh;exact hN (iA bh)
    rw[wy,hcN];refine AC (h2 λgz=>?_);obtain⟨x,hx,ex⟩:=AY.mp gz;obtain⟨i,hi⟩:=Fm.mp hx;have hil:i<t.place.size:=by
     have l1:=(AF.mp hi).1;have l2:=congrArg ER X.els;rw[AB,AZ,X.len] at l2;exact fv l1 l2
    obtain⟨m1,w1,w2⟩:=X.loc i t.place[i] (hsh prog w x.1) (A9 hil) (by rw[X.els,Ee,Bi,hi];rfl);rw[ex] at w1 w2;have hm1:m1<N:=by
     refine CA λq=>?_;by_cases z:m1=N
     .subst z
      rw[w1] at hN;exact hN (iA (A9 hil))
     .exact hN (w2 N (by lia))
    exact hV' m1 (fv hm1 hcN) i x (by rw[w1];exact A9 hil) hi ex
   .obtain rfl:=A8 (heq.symm.trans e)
    dsimp only;rw[wy] at hi hsl ⊢;have bn:=ltN (iA hi);obtain⟨x,hx,mN⟩:=X.at_ hi;have hxb:=hK x (By hx);have nV:wpAny (AM prog w) A (do
      let pX (_,y):=es[i]? | unsupported "internal:set-entry"
      let equal <- MA [y] (eqBool y (.ref a))
      let (bo,_,t') <- setState S
      if true&&equal then return .there pY
      let pX same:=t'.sameMemory t.moves t.mask| unsupported "set.changed-during-lookup:is-the-new-block-at-the-old-address"
      let still <- match (if same then t'.slot (way t (t.probeStart (hsh prog w k)) (c+m)) else .empty) with
       | .live i'=>match bo[i']? with
        | some (_,y')=>do pure (if <- isSame y' y then pX i' else pY)
        | none=>pure pY
       | _=>pure pY
      match still with
      | none=>rule "set.search.anew";M8 S (.ref a) (hsh prog w k) true aw pY
      | some i'=>if equal then return .there (pX i') else M8 S (.ref a) (hsh prog w k) true aw (pX (SB.iter (step t.mask) (m+1) (SB.iter (step t.mask) c (t.probeStart (hsh prog w k)))))) Q E s:=by
     rw[mN];dsimp only;refine Ap (DC (Sj hu hxb hk ?_));refine Ap (EX ho hd hf ?_);dsimp only;by_cases ek:x.1=k
     .rw[p7 ek]
      exact AC (h1 (AY.mpr ⟨x,By hx,ek⟩))
     .rw[p8 ek]
      simp only[Pe,BU,if_false];have sm:t.sameMemory t.moves t.mask=pX true:=by unfold sameMemory;simp
      rw[sm];dsimp only;simp only[if_true,hsl];rw[mN];dsimp only;refine Ap (wpAny_isSame_ref_self ?_);simp only[if_true];refine Ap (AC ?_);dsimp only;refine ih (c+m+1) _ bn (by lia) ?_ ?_
      .rw[<- Bv]
       rfl
      .intro m' cr i' x' bh ik ek'
       by_cases z:m'<c+m
       .exact hV' m' z i' x' bh ik ek'
       .have:m'=c+m:=by lia
        subst this;have:=Nv X.tab hi bh;subst this;rw[hx] at ik;cases ik;exact ek ek'
    cases b9:t.led with
    | true =>
     exact nV
    | false =>
     refine Ap (ABL hk _ ?_ ?_)
     .intro v hv
      obtain⟨e',he',rfl⟩:=AY.mp hv;have he2:e'∈es.toList:=by
       have:e'∈es/\e'.1=hsh prog w k:=by simpa using he'
       simpa using this.1
      rw[X.els] at he2;obtain⟨y,hy,rfl⟩:=AY.mp he2;exact⟨y.1,y.2,rfl,hK y hy⟩
     .exact nV
  .rename_i gc
   rcases kA with⟨_,e⟩| ⟨i,_,_,_,e⟩
   .exact(gc _ (by rw[cK];exact e)).elim
   .exact(gc _ (by rw[cK];exact e)).elim
end
theorem GD{α:Type}{l:List α}(d:α):∀{aE:qE},(∀i∈aE,i<l.length)->aE.filterMap (λi=>l[i]?)=aE.map λi=>l.getD i d
 | [],_=>rfl
 | i::r,h=>by
  have hi:=h i AI;rw[HQ,AL hi,BG,GD d λj hj=>h j (AJ _ hj)];simp[AD,hi]
theorem Uy(l:List α):(AO l.length).filterMap (λi=>l[i]?)=l:=by
 cases l with
 | nil=>rfl
 | cons d r =>
  rw[GD d λi hi=>AV.mp hi];apply FR;intro i;by_cases hi:i<(d::r).length
  .rw[Bi,F3 hi,AL hi]
   show pX ((d::r).getD i d)=_;rw[AD,AL hi];rfl
  .rw[D8 (by simpa using hi),D8 (qf hi)]
theorem Gf{l:List α}{aE:qE}(h:aE.Perm (AO l.length)):(aE.filterMap λi=>l[i]?).Perm l:=by
 have:=h.filterMap λi=>l[i]?;rw[Uy] at this;exact this
section
variable{es:Array (Int×As)}{t:CS}
theorem stored(ho:h.get? S=pX o)(c6:o.ExactSet)(hd:o.data=.set es ep t)(bo:Array (Int×As))(t':CS) :
  ∃o' gN,(h.update S (UK bo t')).get? S=pX o'/\o'.ExactSet/\o'.data=.set bo gN t':=by
 have hg:(h.update S (UK bo t')).get? S=pX {o with data:=.set bo (ep+1) t'}:=by
  have:=D6 (UK bo t') ho (by rw[putSet_of bo t' hd];rfl);rw[putSet_of bo t' hd] at this;exact this
 exact⟨_,_,hg,c6,rfl⟩
theorem AAG(hs:s.heap=h)(ho:h.get? S=pX o)(c6:o.ExactSet)(hd:o.data=.set es ep t)(T:Tab t)(hl:es.size=t.place.size)(hel:es.toList=ks.map λx=>(hsh prog w x.1,AW x.2))
  (nd:(ks.map (·.1)).Nodup) (eQ:t.mask*3<=t.place.size*5) (hU:(t.place.size-1)*5<t.mask*3) (dA:ks.length<=301) (eW:t.plain=true) (hld:t.led=ledOf w) {Q:qH}
  (q:∀h' bo t' bu,EG S h h'->TS prog w h' S bo t' bu->bu.Perm ks->Q () {s with heap:=h'}) :
  wpAny (AM prog w) A (W2 S (UM es.size)) Q E s:=by
 subst hs;have m4:ks.length=es.size:=by
  have:=congrArg ER hel;rw[AB,AZ] at this;exact this.symm
 have key:∃M,sizeAbove (UM es.size)=M+1/\Mask M/\es.size<=M/\es.size*5<M*3:=by
  rcases T.mask with e| e| e| e
  .have:es.size=5:=by rw[e] at eQ hU;lia
   rw[this];exact⟨31,by decide,.inr (.inl rfl),by decide,by decide⟩
  .have:es.size=19:=by rw[e] at eQ hU;lia
   rw[this];exact⟨127,by decide,.inr (.inr (.inl rfl)),by decide,by decide⟩
  .have:es.size=77:=by rw[e] at eQ hU;lia
   rw[this];exact⟨511,by decide,.inr (.inr (.inr rfl)),by decide,by decide⟩
  .rw[e] at eQ
   lia
 obtain⟨M,eM,hM,hle,nz⟩:=key;unfold W2;refine Ap (EX ho hd (Gj T hl) ?_);dsimp only;have hz:¬ (sizeAbove (UM es.size)>sizeLine):=by
  rw[eM,EQ];rcases hM with e| e| e| e<;>lia
 rw[pZ hz];obtain⟨place,aE,el,T2,hps,mJ,L2⟩:=ACG hM (hashes:=es.map (·.1)) (by simpa using hle) t.finger (t.movedTo M) t.led t.plain;have erl:t.relaid (es.map (·.1)) (UM es.size)=pX ({mask:=M,place:=place,dummies:=#[],finger:=t.finger,led:=t.led,moves:=t.movedTo M,plain:=t.plain},aE):=by
  unfold relaid;rw[eM];exact el
 refine Ap ?_;show wpAny _ _ (do
  let pX (t,aE):=t.relaid (es.map (·.1)) (UM es.size)| unsupported "internal:set-table-without-room"
  let bo:=aE.filterMap (es[·]?)
  if bo.size != es.size then unsupported "internal:set-table-lost-an-element"
  pure (bo,t)) _ _ _
 rw[erl];dsimp only;have hsz:(es.map (·.1)).size=es.toList.length:=by simp
 rw[hsz] at mJ;have ef:(aE.filterMap (es[·]?)).toList=aE.toList.filterMap λi=>es.toList[i]?:=by
  rw[Array.toList_filterMap]
  congr 1
  funext i
  rw[BY]
 have hp:=Gf mJ;have mN:(aE.filterMap (es[·]?)).size=es.size:=by
  rw[<- AZ,ef,hp.length_eq,AZ]
 rw[pZ (by rw[mN];simp)];refine AC ?_;dsimp only;refine SW ho hd ?_ (by rw[mN,EQ];rcases hM with e| e| e| e<;>lia);obtain⟨o',gN,c8,iX,dq⟩:=stored ho c6 hd (aE.filterMap (es[·]?)) {mask:=M,place:=place,dummies:=#[],finger:=t.finger,led:=t.led,moves:=t.movedTo M,plain:=t.plain};have hpk:(aE.toList.filterMap λi=>ks[i]?).Perm ks:=Gf (by rw[AZ] at mJ;rw[m4];exact mJ);refine q _ _ _ (aE.toList.filterMap λi=>ks[i]?) (DH ..) ⟨⟨o',gN,c8,iX,dq⟩,T2,?_,?_,?_,?_,?_,eW,hld⟩ hpk
 .rw[mN,hps];simp
 .have e1:(aE.filterMap (es[·]?)).toList.map (·.1)=aE.toList.map λi=>(es.map (·.1)).toList.getD i 0:=by
   rw[ef,GD (0,CY) (λi hi=>by have:=AV.mp (mJ.mem_iff.mp hi);exact this),Ee];refine DJ λi hi=>?_;have bh:=AV.mp (mJ.mem_iff.mp hi);have g0:i<es.size:=by simpa using bh
   simp[AD,g0]
  rw[e1];exact L2
 .rw[ef,hel,List.map_filterMap]
  congr 1
  funext i
  rw[Bi]
 .exact(Mo (hpk.map (·.1))).mpr nd
 .rw[hps]
  simpa using nz
def Added(ks:List (qC×Addr))(k:qC)(a:Addr)(bu:List (qC×Addr)):Prop:=(k∈ks.map (·.1)/\bu=ks)\/(k∉ks.map (·.1)/\bu.Perm ((k,a)::ks))
theorem VG{k:qC}(X:TS prog w s.heap S es t ks)(hK:∀x∈ks,IK prog w s.heap x.1 x.2)(hk:IK prog w s.heap k a)(hu:A.units<Cn)(h60:ks.length<=300){Q:qG}
  (q:∀b h' bo t' bu,EG S s.heap h'->TS prog w h' S bo t' bu->Added ks k a bu->Q b {s with heap:=h'}) :
  wpAny (AM prog w) A (setAddHashed S (.ref a) (hsh prog w k)) Q E s:=by
 obtain⟨o,ep,ho,c6,hd⟩:=X.obj;have hf:=Gj X.tab X.len;have fh:Fine t.mask (t.probeStart (hsh prog w k)):=Fine.start t _;have m4:ks.length=t.place.size:=by
  have:=congrArg ER X.els;rw[AB,AZ,X.len] at this;exact this.symm
 obtain⟨m0,hm0,nm0⟩:=Ml X.tab.mask X.tab.size fh (Oj (hsh prog w k));obtain⟨N,hN,kF⟩:=Vt (P:=λm=>way t (t.probeStart (hsh prog w k)) m∉t.place.toList) m0 nm0;have hNle:N<=m0:=CA λc=>kF m0 (sj c) nm0;have hB:∀m,m<N->way t (t.probeStart (hsh prog w k)) m∈t.place.toList:=λm hm=>CA λc=>kF m hm c;have hM:t.mask<=511:=by rcases X.tab.mask with e| e| e| e<;>lia
 unfold setAddHashed setAddHashedIn;refine DC (Ap (EX ho hd hf ?_));dsimp only;have hbs:byScan (.ref a) es=false:=rfl;rw[hbs];unfold setSearch;refine Ap (ZG X hK hk hu hN hB ?_ ?_ 100000 0 pY (BD _) (by unfold NI at hm0;lia) rfl (λm hm=>qB hm qv))
 .intro gz
  exact AC (by
   have:=q false s.heap es t ks (X9 S s.heap) X (.inl ⟨gz,rfl⟩);exact this)
 .intro hnm
  dsimp only;refine Ap (EX ho hd hf ?_);dsimp only;generalize hj:way t (t.probeStart (hsh prog w k)) N=j;have P:Put t j:=by
   refine⟨?_,?_,?_⟩
   .rw[<- hj];exact(fh.iter N).j
   .rw[<- hj];exact hN
   .have:=X.few
    rcases X.tab.mask with e| e| e| e<;>rw[e] at this ⊢<;>lia
  have T1:=ACt X.tab P;have L1:=ACd X.tab (by rw[AB,AZ,X.len]) X.loc hB;rw[hj] at L1;obtain⟨e1,e2⟩:=Ip X.tab (j:=j);have b3:=(Es (j:=j) X.tab.rise).2.2;have pm:(t.put j).1.mask=t.mask:=by rw[e1]
  have pp:(t.put j).1.plain=true:=by rw[e1];exact X.pl
  have pd:(t.put j).1.led=ledOf w:=by rw[e1];exact X.ld
  have ps:(t.put j).1.place.size=t.place.size+1:=by
   rw[e1];have:=congrArg ER (Az t.place (below t.place j) j);simp at this;show(D9 t.place (below t.place j) j).size=_;lia
  rw[e2] at L1;generalize hp:below t.place j=p at *;generalize e7:(t.put j).1=t1 at *;have oY:(D9 es p (hsh prog w k,AW a)).toList=(ks.take p++[(k,a)]++ks.drop p).map λx=>(hsh prog w x.1,AW x.2):=by
   rw[Az,X.els,BE,BE,Q0,Q1];rfl
  have i7:(D9 es p (hsh prog w k,AW a)).size=es.size+1:=by
   have:=congrArg ER (Az es p (hsh prog w k,AW a));simp at this;have:=X.len;lia
  have dS:(ks.take p++[(k,a)]++ks.drop p).Perm ((k,a)::ks):=by
   have:=List.perm_middle (a:=(k,a)) (l₁:=ks.take p) (l₂:=ks.drop p);rw[Fu] at this;rw[CL];exact this
  have nd1:=(Mo (dS.map (·.1))).mpr (by rw[BG];exact Ex.mpr ⟨hnm,X.nd⟩);have mF:(D9 es p (hsh prog w k,AW a)).toList.map (·.1)=(es.toList.map (·.1)).take p++[hsh prog w k]++(es.toList.map (·.1)).drop p:=by
   rw[Az,BE,BE,Q0,Q1];rfl
  have e3:=e2;have go:∀(t2:CS),Tab t2->t2.mask=t1.mask->t2.place=t1.place->t2.plain=true->t2.led=ledOf w->wpAny (AM prog w) A (do
    storeSet S (D9 es p (hsh prog w k,AW a)) t2
    if(!false&&t2.tooFull)=true then do
     W2 S (UM (es.size+1))
     pure true
    else pure true) Q E s:=by
   intro t2 T2 m2 p2 q2 r2;refine Ap (SW ho hd ?_ (by rw[i7,EQ];have:=X.len;lia));obtain⟨o',gN,c8,iX,dq⟩:=stored ho c6 hd (D9 es p (hsh prog w k,AW a)) t2;have L2:Loc t2 ((D9 es p (hsh prog w k,AW a)).toList.map (·.1)):=by
    rw[mF];intro ay jj h' a1 a2;rw[p2] at a1;obtain⟨m,w1,w2⟩:=L1 ay jj h' a1 a2;refine⟨m,?_,λm' cr=>?_⟩
    .unfold way probeStart at w1 ⊢
     rw[m2];exact w1
    .have:=w2 m' cr
     unfold way probeStart at this ⊢;rw[m2,p2];exact this
   have tf:t2.tooFull=decide (t.mask*3<=(t.place.size+1)*5):=by
    unfold tooFull;rw[XM T2,p2,m2,ps,pm]
   rw[tf];by_cases c:t.mask*3<=(t.place.size+1)*5
   .rw[p7 c]
    rw[<- i7];refine Ap (AAG (ks:=ks.take p++[(k,a)]++ks.drop p) rfl c8 iX dq T2 (by rw[i7,p2,ps,X.len]) oY nd1 ?_ ?_ ?_ q2 r2 ?_)
    .rw[p2,m2,ps,pm];exact c
    .rw[p2,m2,ps,pm]
     have:=X.few;lia
    .rw[dS.length_eq]
     simp;exact h60
    .intro h' bo t' bu sb X' pk
     exact AC (q true h' bo t' bu ((DH ..).trans sb) X' (.inr ⟨hnm,pk.trans dS⟩))
   .rw[p8 c]
    exact AC (q true _ _ t2 _ (DH ..) ⟨⟨o',gN,c8,iX,dq⟩,T2,by rw[i7,p2,ps,X.len],L2,oY,nd1,by rw[p2,m2,ps,pm];exact sj c,q2,r2⟩ (.inr ⟨hnm,dS⟩))
  rw[e3];simp only[pp,if_true];refine Ap (ACO hk ?_);exact go t1 T1 rfl rfl pp pd
theorem AEU{k:qC}(X:TS prog w s.heap S es t ks)(hK:∀x∈ks,IK prog w s.heap x.1 x.2)(hk:IK prog w s.heap k a)(hu:A.units<Cn)(h60:ks.length<=300){Q:qG}
  (q:∀b h' bo t' bu,EG S s.heap h'->TS prog w h' S bo t' bu->Added ks k a bu->Q b {s with heap:=h',toks:=s.toks+(k.length+1)}) :
  wpAny (AM prog w) A (setAdd S (.ref a)) Q E s:=by
 unfold setAdd;refine DC ?_;refine Ap (Si hu hk ?_);exact VG (s:={s with toks:=s.toks+(k.length+1)}) X hK hk hu h60 λb h' bo t' bu sb X' ad=>q b h' bo t' bu sb X' ad
end
structure Of(vals:Nat->qC×Addr)(i:Nat)(ks:List (qC×Addr)):Prop where
 sub:∀x∈ks,∃j,j<i/\x=vals j
 sup:∀j,j<i->(vals j).1∈ks.map (·.1)
 len:ks.length<=i
theorem Of.next{bu:List (qC×Addr)}(h:Of vals i ks)(a:Added ks (vals i).1 (vals i).2 bu):Of vals (i+1) bu:=by
 rcases a with⟨hm,rfl⟩| ⟨hm,p⟩
 .refine⟨λx hx=>?_,λj hj=>?_,by have:=h.len;exact rD this⟩
  .obtain⟨j,hj,e⟩:=h.sub x hx
   exact⟨j,qw hj,e⟩
  .by_cases c:j=i
   .rw[c];exact hm
   .exact h.sup j (tu hj c)
 .refine⟨λx hx=>?_,λj hj=>?_,by rw[p.length_eq];have:=h.len;simp;exact this⟩
  .rcases BF.mp (p.mem_iff.mp hx) with e| hx
   .exact⟨i,rB,e⟩
   .obtain⟨j,hj,e⟩:=h.sub x hx
    exact⟨j,qw hj,e⟩
  .have pm:=(p.map (·.1)).mem_iff (a:=(vals j).1)
   by_cases c:j=i
   .subst c
    exact pm.mpr (by rw[BG];exact AI)
   .exact pm.mpr (by rw[BG];exact AJ _ (h.sup j (tu hj c)))
theorem Gg{k:qC}(hk:IK prog w h k a)(e:∀o,h.get? a=pX o->h'.get? a=pX o):IK prog w h' k a:=by
 obtain⟨o,items,n,ho,r⟩:=hk;exact⟨o,items,n,e o ho,r⟩
theorem Wf{es:Array (Int×As)}{t:CS}(X:TS prog w h S es t ks)(e:∀o,h.get? S=pX o->h'.get? S=pX o):TS prog w h' S es t ks:=by
 obtain⟨o,ep,ho,r⟩:=X.obj;exact⟨⟨o,ep,e o ho,r⟩,X.tab,X.len,X.loc,X.els,X.nd,X.few,X.pl,X.ld⟩
theorem Zh{led:Bool}(hw:led=ledOf w)(hg:h.get? S=pX {cls:=.type "set",dict:=pY,data:=.set #[] 0 (.fresh 0 0 led)}):TS prog w h S #[] (.fresh 0 0 led) []:=by
 refine⟨⟨_,0,hg,⟨rfl,rfl,rfl⟩,rfl⟩,⟨.inl rfl,rfl,BD _,λj hj=>(by cases hj),.nil⟩,rfl,λay j h' a=>?_,rfl,.nil,by show 0*5<7*3;decide,rfl,hw⟩;cases a
theorem ABo(a:As){Q₁:As->AA->Prop}(h:Q₁ (.ref s.heap.objs.size) {s with heap:=s.heap.push {cls:=.type "set",dict:=pY,data:=.set #[] 0 (.fresh 0 0 (ledOf w))}}) :
  codeAny (AM prog w) A (.call (.builtin "set.__new__") ⟨[.type "set",a],[]⟩) (wants Q₁ E) s:=by
 refine UN ?_;refine Ap (K5 (F.newCall_set_1 a) (AC ⟨Iy UO _,DU F.entry_set_new ?_⟩));rw[DV UO _];unfold Builtin.«set.__new__» VX;have sself:=sub_set_self;obtain⟨hp,g,d,tk,os⟩:=s;dsimp only
 wp_walk
 refine J2 (AC ?_);refine Ap (wpAny_alloc (AC ?_));exact AC h
theorem ABK{l:List α}:∀{k:Nat}{y:α},l[k]?=pX y->(y::l.eraseIdx k).Perm l:=by
 induction l with
 | nil=>intro k y h;simp at h
 | cons a t ih =>
  intro k y h;cases k with
  | zero =>
   obtain rfl:a=y:=by simpa using h
   exact KF _
  | succ k =>
   have h':t[k]?=pX y:=by simpa using h
   exact(PM a y _).trans (PF a (ih h'))
set_option tactic.hygienic true in
theorem Vx{α:Type}(next:Nat->Nat):∀(aw k:Nat) (left:List α) (out:Array α),left.length<=aw->(W3 next aw k left out).toList.Perm (out.toList++left)
 | 0,k,left,out,h=>by
  have:left=[]:=HZ.mp (by lia);subst this;rw[B3];exact KF _
 | aw+1,k,left,out,h=>by
  unfold W3;cases e:left[next k%left.length]? with
  | none =>
   have hl:left=[]:=by
    cases left with
    | nil=>rfl
    | cons a t =>
     have:=LY (next k) (show 0<(a::t).length by simp);rw[AL this] at e;cases e
   subst hl;rw[B3]
  | some x =>
   have hi:=(AF.mp e).1;have hl:=J5 hi;have ih:=Vx next aw (k+1) (left.eraseIdx (next k%left.length)) (out.push x) (uA hl h)
   refine ih.trans ?_;rw[IR,CL];exact EJ _ (ABK e)
set_option tactic.hygienic true in
theorem ADR(next:Nat->Nat)(xs:Array α):(Su next xs).toList.Perm xs.toList:=by
 have:=Vx next xs.size 0 xs.toList #[] (by simp)
 unfold Su;simpa using this
namespace F
theorem KC:W4 table "set.__iter__" = pX Builtin.«frozenset.__iter__» :=
 entryFor_alias (id':="frozenset.__iter__") (by kernel_rfl) (by first| rfl| decide+kernel) (by decide+kernel) (by kernel_rfl)
theorem Sg:Manifest.owners.lookup (String.ofList ['r','o','t','a','r','e','t','i','_','t','e','s'].reverse)=pX Manifest.sig_set_iterator:=by kernel_rfl
theorem Dv:Slot "set_iterator" "__next__" "set_iterator.__next__":=.of (owner:="set_iterator") (n:="__next__") (by rw[UP,PQ];kernel_rfl) (by decide+kernel) (by decide+kernel) (by decide+kernel) (by first| exact .inl (by decide+kernel)| exact .inr (by decide+kernel)) (by rw[PU];kernel_rfl)
theorem Ls:W4 table "set_iterator.__next__" = pX Builtin.«set_iterator.__next__»:=entryFor_of_tree (by kernel_rfl)
theorem Pn(a:As):W5 "set_iterator.__next__" ⟨[a],[]⟩:=by
 unfold W5;rw[signature?_of (id:="set_iterator.__next__") (n:=['_','_','t','x','e','n','_','_']) (o:=['r','o','t','a','r','e','t','i','_','t','e','s']) (by kernel_rfl) Sg];kernel_rfl
theorem Hq:Slot "set_iterator" "__iter__" "set_iterator.__iter__":=.of (owner:="set_iterator") (n:="__iter__") (by rw[UP,PQ];kernel_rfl) (by decide+kernel) (by decide+kernel) (by decide+kernel) (by first| exact .inl (by decide+kernel)| exact .inr (by decide+kernel)) (by rw[PU];kernel_rfl)
theorem QW(a:As):W5 "set_iterator.__iter__" ⟨[a],[]⟩:=by
 unfold W5;rw[signature?_of (id:="set_iterator.__iter__") (n:=['_','_','r','e','t','i','_','_']) (o:=['r','o','t','a','r','e','t','i','_','t','e','s']) (by kernel_rfl) Sg];kernel_rfl
theorem MF:W4 table "set_iterator.__iter__" = pX Builtin.«dict_keyiterator.__iter__» :=
 entryFor_alias (id':="dict_keyiterator.__iter__") (by kernel_rfl) (by first| rfl| decide+kernel| (unfold String.splitOn;simp +decide [String.splitOnAux])) (by decide+kernel) (by kernel_rfl)
end F
def SI(h:Heap)(I S:Addr)(slot i n ep:Nat):Prop:=∃o,h.get? I=pX o/\o.cls=.type "set_iterator"/\o.data=.fields #[FY slot,FY i,.ref S,FY n,FY ep]
theorem SI.typeIs{slot:Nat}(x:SI s.heap I S slot i n ep):s.TypeIs (.ref I) "set_iterator":=let ⟨o,ho,hc,_⟩:=x;⟨o,ho,hc⟩
section
variable{es:Array (Int×As)}{t:CS}
def text(w:AQ):Bool:=w.params.followText "set-order"
def ord(w:AQ)(S:Addr)(ep:Nat)(es:Array (Int×As)):Array (Int×As):=if text w=true then Su (w.params.setOrder S ep) es else es
theorem Sd(w:AQ)(S:Addr)(ep:Nat)(es:Array (Int×As)):(ord w S ep es).toList.Perm es.toList:=by
 unfold ord;split
 .exact ADR _ _
 .exact KF _
def slotAt(w:AQ)(t:CS)(i:Nat):Nat:=if text w=true then 0 else if i=0 then 0 else t.place.getD (i-1) 0+1
theorem Uk(hx:text w=false)(T:Tab t)(hi:i<=t.place.size):below t.place (slotAt w t i)=i:=by
 obtain⟨b1,b2,b3⟩:=Es (j:=slotAt w t i) T.rise;have r:=Co.mp T.rise;have gd:∀k (hk:k<t.place.size) d,t.place.getD k d=t.place.toList[k]'(by simpa using hk):=λk hk d=>by simp[DI,hk]
 have sl:∀h0:i≠0,slotAt w t i=t.place.toList[i-1]'(by simp;exact uB h0 hi)+1:=λh0=>by
  unfold slotAt;rw[hx,pZ (by decide),pZ h0,gd (i-1) (uB h0 hi)]
 rcases NA (below t.place (slotAt w t i)) i with c| c| c
 .have z:=b2 _ (AH _) (qm c hi)
  rw[gd _ (qm c hi)] at z;have slz:=sl (by lia);by_cases d:below t.place (slotAt w t i)=i-1
  .have:t.place.toList[below t.place (slotAt w t i)]'(by simp;exact qm c hi)=t.place.toList[i-1]'(by simp;exact uC hi c):=by congr 1
   lia
  .have:=r (below t.place (slotAt w t i)) (i-1) (by simp;exact qm c hi) (by simp;exact uC hi c) (by lia)
   lia
 .exact c
 .have z:=b1 i c
  rw[gd i (qm c b3)] at z;by_cases h0:i=0
  .have:slotAt w t i=0:=by unfold slotAt;rw[hx,pZ (by decide),p6 h0]
   lia
  .have slz:=sl h0
   have:=r (i-1) i (by simp;lia) (by simp;exact qm c b3) (by lia);lia
theorem ADS(ho:s.heap.get? S=pX o)(hd:o.data=.set es ep t)(T:Tab t)(hl:es.size=t.place.size)(hp:t.plain=true)(b9:t.led=ledOf w){Q:Option (As×Nat)->AA->Prop}
  (q:Q (((ord w S ep es)[i]?).map λe=>(e.2,slotAt w t (i+1))) s) (hi:i<=es.size):wpAny (AM prog w) A (setNext S (slotAt w t i) i ep) Q E s:=by
 have hf:=Gj T hl;unfold setNext;refine Ap (EX ho hd hf ?_);dsimp only;unfold UQ;refine Ap (Ap (J2 (AC ?_)));cases hx:text w with
 | true =>
  have ik:(AM prog w).w.params.followText "set-order" = true:=hx;simp only[ik,if_true,bne_self_eq_false,BU,if_false];unfold setWalk UQ;refine Ap (Ap (EX ho hd hf ?_));refine Ap (Ap (J2 (AC ?_)));simp only[ik,if_true];refine Ap (J2 (AC ?_));refine AC ?_;have e1:ord w S ep es=Su (w.params.setOrder S ep) es:=by unfold ord;rw[hx];rfl
  have e2:∀i,slotAt w t i=0:=λi=>by unfold slotAt;rw[hx];rfl
  rw[e1,e2] at q;rw[e2];exact q
 | false =>
  have ik:(AM prog w).w.params.followText "set-order" = false:=hx;have nO:t.led=true:=by rw[b9];unfold ledOf;rw[show w.params.followText "set-order" = false from hx];rfl
  have e1:ord w S ep es=es:=by unfold ord;rw[hx];rfl
  rw[e1] at q;simp only[ik,BU,if_false];refine J9 (λhab=>?_) (λ_=>?_)
  .have g7:(!t.plain&&decide (es.size>1))=true:=hab
   rw[hp] at g7;cases g7
  refine Ap ?_;show wpAny _ _ (if(!t.led && !es.isEmpty)=true then unsupported "set:maker-not-led" else pure ()) _ _ _;rw[nO];refine AC (AC ?_);rw[Uk hx T (by rw[<- hl];exact hi)];by_cases c:i<es.size
  .have c2:i<t.place.size:=by rw[<- hl];exact c
   rw[A9 c] at q ⊢;rw[A9 c2];have e3:slotAt w t (i+1)=t.place[i]+1:=by
    unfold slotAt;rw[hx,pZ (by decide),pZ (by lia)];simp[DI,c2]
   rw[e3] at q;exact q
  .rw[F9 (by lia)] at q ⊢
   exact q
def SSt(w:AQ)(I S:Addr)(o:Obj)(es:Array (Int×As))(t:CS)(ep i:Nat)(h:Heap):Prop:=h.get? S=pX o/\SI h I S (slotAt w t i) i es.size ep
theorem WX(hh:A.handled=pY)(df:S≠I)(hd:o.data=.set es ep t)(T:Tab t)(hl:es.size=t.place.size)(hp:t.plain=true)(b9:t.led=ledOf w)(st:SSt w I S o es t ep i s.heap)(hi:i<=es.size){Q:Option As->AA->Prop}
  (q1:∀e h',(ord w S ep es)[i]?=pX e->SSt w I S o es t ep (i+1) h'->EG I s.heap h'->Q (pX e.2) {s with heap:=h'})
  (q2:(ord w S ep es)[i]?=none->∀h',S6 I s.heap h'->Q pY {s with heap:=h'}):wpAny (AM prog w) A (K2 (.ref I)) Q E s:=by
 obtain⟨ho,x⟩:=st;obtain⟨oi,mE,hci,oM⟩:=id x;unfold K2;refine Ap (M5 (wpAny_callSpecial?_slot (name:=IY "__next__") x.typeIs F.Dv (Da F.Dv x.typeIs F.Ls ?_ (F.Pn _))));unfold Builtin.«set_iterator.__next__»;refine Ap (K5 (a:=(AW I,[])) rfl ?_)
 try dsimp only
 refine Ap (Ps mE oM ?_);refine Ap (Q6 ho hd (Gj T hl) ?_);simp only[bne_self_eq_false,BU,if_false];show wpAny _ _ (setNext S (((slotAt w t i:Nat):Int)).toNat (((i:Nat):Int)).toNat (((ep:Nat):Int)).toNat >>= _) _ _ s;rw[CH,CH,CH];refine Ap (ADS ho hd T hl hp b9 ?_ hi);cases e:(ord w S ep es)[i]? with
 | some v =>
  refine Ap (He mE oM (by simp) ?_);have g1:=D6 (M6 (λfs=>fs.setIfInBounds 0 (FY ((slotAt w t (i+1):Nat):Int)))) mE (Jn (EM oM _));have d1:=EM oM (λfs=>fs.setIfInBounds 0 (FY ((slotAt w t (i+1):Nat):Int)));refine Ap (He g1 d1 (by simp) ?_);have g2:=D6 (M6 (λfs=>fs.setIfInBounds 1 (FY ((i:Int)+1)))) g1 (Jn (EM d1 _));have d2:=EM d1 (λfs=>fs.setIfInBounds 1 (FY ((i:Int)+1)));refine AC ⟨_,rfl,AC (q1 v _ e ⟨?_,_,g2,?_,?_⟩ ((DH ..).trans (DH ..)))⟩
  .exact(DZ _ _ (CB df)).trans ((DZ _ _ (CB df)).trans ho)
  .exact(KP ..).trans ((KP ..).trans hci)
  .rw[d2]
   simp
 | none =>
  refine Ap (He mE oM (by simp) ?_);refine Ap ?_;refine Ap (De ?_ (by size_fits));refine Ap (m:=JA _ _) (K5 (a:=CY) (by first| rfl| (simp only[JA];rfl)) ?_);refine De ?_ (by size_fits);refine Ap (QY ?_);rw[show A.in1.handled=pY from hh];refine Ap (AC (S7 ?_));refine Ap (Hn (T:="StopIteration") (b:=true) ⟨_,AS _ rfl,rfl⟩ U4 ?_);exact AC (q2 e _ (((DH ..).extBut.push _).push _))
theorem KD(w:AQ)(S:Addr)(ep:Nat)(es:Array (Int×As)):(ord w S ep es).size=es.size:=by
 rw[<- AZ,(Sd w S ep es).length_eq,AZ]
theorem YL(hh:A.handled=pY)(df:S≠I)(hd:o.data=.set es ep t)(T:Tab t)(hl:es.size=t.place.size)(hp:t.plain=true)(b9:t.led=ledOf w) :
  Walks prog w A I [I,S] [I] es.size (λi v=>∃e,(ord w S ep es)[i]?=pX e/\v=e.2) (λi h=>i<=es.size/\SSt w I S o es t ep i h) where
 sub:=λb hb=>by simp at hb;simp[hb]
 frame:=λi h h' ⟨hi,h1,oi,h2,r⟩ hk=>⟨hi,hk S (by simp) o h1,oi,hk I (by simp) oi h2,r⟩
 item:=λi s Q E hi ⟨bh,st⟩ hQ=>by
  refine WX hh df hd T hl hp b9 st bh (λe h' ge ar sb=>hQ _ h' s.toks ⟨e,ge,rfl⟩ ⟨hi,ar⟩ λb ob hb eo=>?_) (λz=>?_)
  .rw[sb.2 b (λ(q:b=I)=>hb (by simp[q]))]
   exact eo
  .have:=KD w S ep es
   rw[Array.getElem?_eq_none_iff] at z;lia
 done:=λs Q E ⟨_,st⟩ hQ=>by
  refine WX hh df hd T hl hp b9 st (AH _) (λe h' ge ar sb=>?_) (λz h' eb=>hQ h' s.toks λb ob hb eo=>eb b ob (λq=>hb (by simp[q])) eo);have:=(C2.mp ge).1;rw[KD] at this;lia
 self:=λi s Q E ⟨_,_,x⟩ hQ=>by
  refine Nw x.typeIs F.Hq (Da F.Hq x.typeIs F.MF ?_ (F.QW _));exact AC ⟨_,rfl, "set_iterator",_,x.typeIs,F.Dv.lookup,hQ⟩
theorem AAV(ho:s.heap.get? S=pX o)(c6:o.ExactSet)(hd:o.data=.set es ep t)(T:Tab t)(hl:es.size=t.place.size)(hp:t.plain=true)
  (q:∀x,(s.heap.push x).get? s.heap.objs.size=pX x->SSt w s.heap.objs.size S o es t ep 0 (s.heap.push x)->Q (.ref s.heap.objs.size) {s with heap:=s.heap.push x}):wpAny (AM prog w) A (O8 (.ref S)) Q E s:=by
 have hf:=Gj T hl;have tS:s.TypeIs (.ref S) "set":=⟨o,ho,c6.1⟩;refine Nw tS PV (Da PV tS F.KC ?_ (PySem.F.args_set_iter_1 _));unfold Builtin.«frozenset.__iter__»;refine Ap (K5 (a:=S) rfl ?_);refine Ap (m:=W6 S) (Ap (Q6 ho hd hf (AC ?_)));refine Ap (m:=setDrawn S) ?_;unfold setDrawn UQ;refine Ap (EX ho hd hf ?_);refine Ap (Ap (J2 (AC ?_)));refine AC ?_;refine J9 (λhab=>?_) (λ_=>?_)
 .have g7:(!w.params.followText "set-order" && (!t.plain&&decide (es.size>1)))=true:=hab
  rw[hp] at g7;simp at g7
 refine Ap (AC ?_);refine Ap (wpAny_setEpoch_of ho hd hf ?_);unfold newFields;refine Ap (De ?_);have z:slotAt w t 0=0:=by
  unfold slotAt;split
  .rfl
  .rfl
 refine AC ⟨_,rfl, "set_iterator",_,⟨_,AS _ rfl,rfl⟩,F.Dv.lookup,q _ (AS _ rfl) ⟨AG _ ho,_,AS _ rfl,rfl,?_⟩⟩;rw[z];rfl
theorem AAp(ho:s.heap.get? S=pX o)(c6:o.ExactSet){Q:qG}(h:Q false s):wpAny (AM prog w) A (M0 (.ref S)) Q E s:=by
 have tS:s.TypeIs (.ref S) "set":=⟨o,ho,c6.1⟩;unfold M0;refine Ap (G1 tS PySem.F.slot_set_len.lookup ?_);generalize hid:("set.__len__" : String)=id0
 wp_delta
 rw[show splitId id0=pX ("set","__len__") from by subst hid;decide+kernel];subst hid;refine Ap (Hn (T:="set") (b:=true) tS (by rw[PU];kernel_rfl) ?_);refine J9 (λhab=>qB hab (by decide)) (λ_=>?_);refine J9 (λ_=>?_) (λhab=>qB (by decide+kernel) hab);refine Ap (LP tS ?_);exact AC h
theorem Vo{R:RO->AA->Prop}(hh:A.handled=pY)(ho:s.heap.get? S=pX o)(c6:o.ExactSet)(hd:o.data=.set es ep t)(T:Tab t)(hl:es.size=t.place.size)(hp:t.plain=true)(b9:t.led=ledOf w)(dA:es.size<=301)
  (D:Addr) (res:As) (c₀:Nat) (hD:s.heap.get? D=pX {cls:=.type "list",data:=.seq #[] c₀})
  (hR:∀h' tk av c',(∀b ob,b≠D->s.heap.get? b=pX ob->h'.get? b=pX ob)->h'.get? D=pX {cls:=.type "list",dict:=pY,data:=.seq av c',slots:=#[]} ->
   ItemsOf (λi v=>∃e,(ord w S ep es)[i]?=pX e/\v=e.2) av es.size->R (.ok (.ret res)) {s with heap:=h',toks:=tk}) :
  wpAny (AM prog w) A.in1 (Go (.ref D) (.ref S) res)
   (λfin s'=>match fin with| .done f=>R (.ok f) s' | .again c'=>c'.quiet=true/\codeAny (AM prog w) A c' R s') (λe s'=>R (.error e) s') s:=by
 have tS:s.TypeIs (.ref S) "set":=⟨o,ho,c6.1⟩;have nDS:D≠S:=λe=>by
  rw[e,ho] at hD;cases hD;cases hd
 have nSI:=BM (Be ho);have nDI:=BM (Be hD);have nDf:D∉[s.heap.objs.size,S]:=λhm=>by
  rcases BF.mp hm with e| hm
  .exact nDI e
  .exact nDS (Cb.mp hm)
 have W:=(YL (prog:=prog) (A:=A.in1) (o:=o) hh nSI hd T hl hp b9).toS;unfold Go;refine Ap (LP (T:="set") tS ?_);have c1:N6 (.ref D) (.ref S)=false:=by simp[N6,nDS]
 have c2:(DS "set" == DS "list")=false:=by decide
 have c3:(DS "set" == DS "tuple")=false:=by decide
 simp only[c1,c2,c3,VY,BU,if_false];refine Ap (AAV ho c6 hd T hl hp λx gx st=>?_);refine Ap (DC (AAp (s:={s with heap:=s.heap.push x}) (AG _ ho) c6 ?_));refine J9 (λ_=>?_) (λhab=>qB (by decide+kernel) hab);have hD1:(s.heap.push x).get? D=pX {cls:=.type "list",data:=.seq #[] c₀}:=AG _ hD;refine Ap (G8 ?_);refine Ap ?_;refine Ap (OP hD1 rfl ?_);have lv:=D6 (CU (·.push CY)) hD1 rfl;refine OP (hz:=by seq_fits) lv rfl ?_;have hD3:=D6 (CU (·.pop)) lv rfl;have keep:∀b ob,b≠D->(s.heap.push x).get? b=pX ob->(((s.heap.push x).update D (CU (·.push CY))).update D (CU (·.pop))).get? b=pX ob:=λb ob hb e=>(DZ _ _ (CB hb)).trans ((DZ _ _ (CB hb)).trans e);obtain⟨st1,oi,a8,cm⟩:=st;refine AC ⟨Iy F.plain_extend_loop _,?_⟩;refine codeAny_extend_loopS W (by rw[EQ];lia) D nDf res es.size 0 _ _ _ rfl (BD _) ⟨BD _,keep S o nDS.symm st1,oi,keep _ oi (CB nDI) a8,cm⟩ hD3 (ItemsOf.nil _) λs' av c' hm c5 aS=>?_;rw[Moved.eq_with hm];refine hR s'.heap s'.toks av c' (λb ob hb e=>hm.heap b ob (λgz=>?_) (keep b ob hb (AG _ e))) c5 aS;rcases BF.mp gz with e' | gz
 .exact hb e'
 .exact qB (Be e) (by rw[Cb.mp gz];exact EF _)
end
end SB
namespace SB
open PySem PySem.W PyProof.Rows
def kw{α:Type}(lt:Nat->Nat->Bool)(n:Nat):KasT α->(α->Prop)->Prop
 | .ret a,Q=>Q a
 | .ask i j k,Q=>i<n/\j<n/\kw lt n (k (lt i j)) Q
abbrev g(p:Array Nat)(k:Nat):Nat:=p.getD k 0
structure PP(n:Nat)(p:Array Nat):Prop where
 size:p.size=n
 lt:∀k,k<n->g p k<n
 inj:∀k k',k<n->k'<n->g p k=g p k'->k=k'
structure Tot(n:Nat)(lt:Nat->Nat->Bool):Prop where
 or:∀i j,i<n->j<n->i≠j->lt i j=false->lt j i=true
 as:∀i j,i<n->j<n->lt i j=true->lt j i=false
 tr:∀i j k,i<n->j<n->k<n->lt i j=true->lt j k=true->lt i k=true
def Up(lt:Nat->Nat->Bool)(p:Array Nat)(m:Nat):Prop:=∀a b,a<b->b<m->lt (g p a) (g p b)=true
def Dn(lt:Nat->Nat->Bool)(p:Array Nat)(m:Nat):Prop:=∀a b,a<b->b<m->lt (g p b) (g p a)=true
section
variable{lt:Nat->Nat->Bool}{p:Array Nat}
theorem AAx(n:Nat):PP n (JI (AO n)):=by
 have ge:∀k,k<n->g (JI (AO n)) k=k:=λk hk=>by
  unfold g;rw[GH];simp[hk]
 refine⟨by simp,λk hk=>by rw[ge k hk];exact hk,λk k' hk a5 e=>?_⟩;rw[ge k hk,ge k' a5] at e;exact e
end
end SB
namespace TM
open PySem PyProof.Rows
def JD:Nat->Nat->StateT BA Sem qP:=sortPriv% PySem.Builtin.countRun
theorem Pb(lo a7:Nat):JD lo a7=(do
 let mut n:=1
 for _ in [1:a7] do
  let pX smaller <- OQ (lo+n) (lo+n-1)| return pY
  if smaller then break
  n:=n+1
 if n==a7 then return pX n
 if n>1 then
  let pX rose <- OQ lo (lo+n-1)| return pY
  if rose then return pX n
  M9 lo (lo+n)
 rule "list.sort.descending-run"
 n:=n+1
 let mut neq:=0
 for _ in [n:a7] do
  let pX smaller <- OQ (lo+n) (lo+n-1)| return pY
  if smaller then
   if neq>0 then M9 (lo+n-(neq+1)) (lo+n)
   neq:=0
  else
   let pX larger <- OQ (lo+n-1) (lo+n)| return pY
   if larger then break
   neq:=neq+1
  n:=n+1
 if neq>0 then M9 (lo+n-(neq+1)) (lo+n)
 M9 lo (lo+n)
 for _ in [n:a7] do
  let pX smaller <- OQ (lo+n) (lo+n-1)| return pY
  if smaller then break
  n:=n+1
 return pX n):=rfl
def N(rk:AE->Int)(xs:Array AE)(i:Nat):Int:=match xs[i]? with
 | some p=>rk p
 | none=>0
variable{rk:AE->Int}
theorem El{xs ys:Array AE}(h:xs[i]?=ys[j]?):N rk xs i=N rk ys j:=by unfold N;rw[h]
def Al(G:AE->Prop)(xs:Array AE):Prop:=∀(i:Nat) (x:AE),xs[i]?=pX x->G x
theorem Al.perm{G:AE->Prop}{xs ys:Array AE}(h:Al G xs)(p:ys.Perm xs):Al G ys:=λi x e=>by
 have m:x∈ys.toList:=by
  obtain⟨hl,rfl⟩:=C2.mp e;exact N7 hl
 have m2:=(G4.mp p).mem_iff.mp m;obtain⟨k,hk,e⟩:=CC.mp m2;exact h k x (by rw[<- BY,AL hk,e])
def Di(rk:AE->Int)(xs:Array AE):Prop:=(xs.toList.map rk).Nodup
theorem Di.perm{xs ys:Array AE}(h:Di rk xs)(p:ys.Perm xs):Di rk ys:=((G4.mp p).map rk).nodup_iff.mpr h
theorem Di.ne{xs:Array AE}(h:Di rk xs)(ij:i<j)(jl:j<xs.size):N rk xs i≠N rk xs j:=by
 have il:i<xs.size:=qj ij jl;have:=Co.mp h i j (by simpa using il) (by simpa using jl) ij;unfold N;rw[A9 il,A9 jl];simpa using this
def Up(rk:AE->Int)(xs:Array AE)(lo hi:Nat):Prop:=∀i j,lo<=i->i<=j->j<hi->N rk xs i<=N rk xs j
def Down(rk:AE->Int)(xs:Array AE)(lo hi:Nat):Prop:=∀i j,lo<=i->i<=j->j<hi->N rk xs j<=N rk xs i
structure Ba(G:AE->Prop)(rk:AE->Int)(κ:Eg)(a₀:Array AE)(st:BA):Prop where
 perm:(AR st).Perm a₀
 kind:kindOf st=κ
 failed:FI st=pY
 all:Al G a₀
 di:Di rk a₀
structure Nx(lo:Nat)(st ar:BA):Prop where
 perm:(AR ar).Perm (AR st)
 kind:kindOf ar=kindOf st
 failed:FI ar=FI st
 pend:BC ar=BC st
 low:∀i,i<lo->(AR ar)[i]?=(AR st)[i]?
theorem Nx.refl(lo:Nat)(st:BA):Nx lo st st:=⟨UR _,rfl,rfl,rfl,λ_ _=>rfl⟩
theorem Nx.trans{a b c:BA}(h:Nx lo a b)(k:Nx lo b c):Nx lo a c:=⟨k.perm.trans h.perm,k.kind.trans h.kind,k.failed.trans h.failed,k.pend.trans h.pend,λi hi=>(k.low i hi).trans (h.low i hi)⟩
theorem Ba.nx{G:AE->Prop}(h:Ba G rk κ a₀ st)(n:Nx lo st ar):Ba G rk κ a₀ ar:=⟨n.perm.trans h.perm,n.kind.trans h.kind,n.failed.trans h.failed,h.all,h.di⟩
theorem Ba.size{G:AE->Prop}(h:Ba G rk κ a₀ st):(AR st).size=a₀.size:=h.perm.size_eq
theorem Ba.ne{G:AE->Prop}(h:Ba G rk κ a₀ st)(ij:i<j)(jl:j<a₀.size):N rk (AR st) i≠N rk (AR st) j:=(h.di.perm h.perm).ne ij (by rw[h.size];exact jl)
section
variable{G:AE->Prop}
def Cmp(prog:AK)(w:AQ)(A:BO)(E:As->AA->Prop)(s:AA)(κ:Eg)(G:AE->Prop)(rk:AE->Int):Prop :=
 ∀x y,G x->G y->∀(st:BA) (Q:Option Bool->BA->Prop),kindOf st=κ->Q (pX (decide (rk x<rk y))) st->wpS (AM prog w) A E s (lt' x y) Q st
theorem BW{xs:Array AE}{Q:AE->BA->Prop}(hi:i<xs.size)(h:Q xs[i] st):wpS (AM prog w) A E s (Dx xs i) Q st:=by
 rw[elem'_eq,A9 hi];exact AX h
theorem FQ{xs:Array AE}(hi:i<xs.size):N rk xs i=rk xs[i]:=by unfold N;rw[A9 hi]
theorem Al.at{xs:Array AE}(h:Al G xs)(hi:i<xs.size):G xs[i]:=h i _ (A9 hi)
theorem RL(C:Cmp prog w A E s κ G rk)(B:Ba G rk κ a₀ st){Q:Option Bool->BA->Prop}(hi:i<a₀.size)(hj:j<a₀.size)(h:Q (pX (decide (N rk (AR st) i<N rk (AR st) j))) st):wpS (AM prog w) A E s (OQ i j) Q st:=by
 have bh:i<(AR st).size:=by rw[B.size];exact hi
 have bj:j<(AR st).size:=by rw[B.size];exact hj
 have al:=B.all.perm B.perm;rw[ltAt'_eq];refine AN (JJ ?_);refine AN (BW bh (AN (BW bj ?_)));refine C _ _ (al.at bh) (al.at bj) st Q B.kind ?_;rw[<- FQ (rk:=rk) bh,<- FQ (rk:=rk) bj];exact h
theorem Rv{xs:Array AE}(hj:j<=xs.size)(k:Nat):N rk (mirror xs i j ((j-i) / 2)) k=if i<=k/\k<j then N rk xs (i+j-1-k) else N rk xs k:=by
 have e:=getElem?_mirror_all (i:=i) hj k;by_cases h1:i<=k/\k<j
 .rw[p6 h1] at e ⊢;exact El e
 .rw[pZ h1] at e ⊢;exact El e
theorem Ry{xs:Array AE}{io d:Nat}(hs:io<xs.size)(hd:d<=io)(k:Nat):N rk (bubble xs io d) k=if k=io-d then N rk xs io else if io-d<k/\k<=io then N rk xs (k-1) else N rk xs k:=by
 have e:=getElem?_bubble hs d hd k;by_cases h1:k=io-d
 .rw[p6 h1] at e ⊢;exact El e
 .rw[pZ h1] at e ⊢
  by_cases h2:io-d<k/\k<=io
  .rw[p6 h2] at e ⊢;exact El e
  .rw[pZ h2] at e ⊢;exact El e
theorem AEP(hh:hi<=(AR st).size):Nx lo st (US st (mirror (AR st) lo hi ((hi-lo) / 2))):=⟨mirror_perm _ _ _ _,rfl,rfl,rfl,λi bh=>by
 rw[getElem?_mirror_all hh,pZ (u7 bh)]⟩
theorem Zo(C:Cmp prog w A E s κ G rk)(B:Ba G rk κ a₀ st)(h1:1<=n)(hn:n<a7)(hs:lo+a7<=a₀.size)(up:Up rk (AR st) lo (lo+n)){Q:Option Bool->BA->Prop}
  (hy:N rk (AR st) (lo+n)<N rk (AR st) (lo+n-1)->Q (pX true) st) (gc:Up rk (AR st) lo (lo+(n+1))->Q (pX false) st):wpS (AM prog w) A E s (OQ (lo+n) (lo+n-1)) Q st:=by
 refine RL C B (rL hs hn) (t6 hs hn) ?_;by_cases c:N rk (AR st) (lo+n)<N rk (AR st) (lo+n-1)
 .rw[p7 c]
  exact hy c
 .rw[p8 c]
  refine gc λi j li ij jh=>?_;by_cases d:j<lo+n
  .exact up i j li ij d
  .by_cases e:i=j
   .rw[e];exact IL _
   .have:=up i (lo+n-1) li (by lia) (by lia)
    have ej:j=lo+n:=u8 jh d;rw[ej];lia
theorem Wq(C:Cmp prog w A E s κ G rk){n0:Nat}(B:Ba G rk κ a₀ st)(h1:1<=n0)(hn:n0<=a7)(hs:lo+a7<=a₀.size)(up:Up rk (AR st) lo (lo+n0)){Q:(Option qP×Nat)->BA->Prop}
  (h:∀n,n0<=n->n<=a7->Up rk (AR st) lo (lo+n)->(n<a7->N rk (AR st) (lo+n)<N rk (AR st) (lo+n-1))->Q (pY,n) st) :
  wpS (AM prog w) A E s (forIn [n0:a7] ((pY,n0):Option qP×Nat) λ_ r=>do
   let x <- OQ (lo+r.2) (lo+r.2-1)
   match x with
   | some smaller=>if smaller=true then pure (BH (pY,r.2)) else pure (CM (pY,r.2+1))
   | _=>pure (BH (pX pY,r.2))) Q st:=by
 refine Do (I:=λx c ar=>ar=st/\c=(pY,x)/\n0<=x/\x<=a7/\Up rk (AR st) lo (lo+x)) ?_ ?_ ⟨rfl,rfl,AH _,hn,up⟩
 .rintro x c ar ax xb ⟨rfl,rfl,_,_,dP⟩
  refine AN (Zo C B (rR h1 ax) xb hs dP (λlt=>?_) (λup2=>?_))
  .exact AX (h x ax (by lia) dP λ_=>lt)
  .exact AX ⟨rfl,rfl,rD ax,xb,up2⟩
 .rintro c ar ⟨rfl,rfl,a1,a2,dP⟩
  refine h _ a1 a2 dP λz=>?_;lia
end
variable{rk:AE->Int}{G:AE->Prop}
theorem Ln(C:Cmp prog w A E s κ G rk)(B:Ba G rk κ a₀ st)(h1:1<=a7)(hs:lo+a7<=a₀.size){Q:qP->BA->Prop}
  (h:∀n ar,1<=n->n<=a7->Nx lo st ar->Up rk (AR ar) lo (lo+n)->Q (pX n) ar):wpS (AM prog w) A E s (JD lo a7) Q st:=by
 rw[Pb];refine AN (Wq C B (AH 1) h1 hs (λi j li ij jh=>by
  have:i=j:=by lia
  rw[this];exact IL _) λn n1 nn up lt=>?_)
 dsimp only;by_cases c:n=a7
 .rw[p6 (by rw[c];exact beq_self_eq_true _)]
  exact AX (h n st n1 nn (Nx.refl _ _) up)
 rw[pZ (by intro z;exact c (beq_iff_eq.mp z))];have sm:=lt (sR nn c);by_cases d:n>1
 .rw[p6 d]
  refine AN (RL C B (by lia) (wc hs d nn) ?_);have a1:=up lo (lo+n-1) (AH _) (by lia) (by lia);have a2:=B.ne (i:=lo) (j:=lo+n-1) (by lia) (wc hs d nn);rw[p7 (show N rk (AR st) lo<N rk (AR st) (lo+n-1) by lia)];exact AX (h n st n1 nn (Nx.refl _ _) up)
 rw[pZ d];have e1:n=1:=by lia
 subst e1;have wn:lo+1-1=lo:=by lia
 rw[wn] at sm;refine AN (MH (G8 ⟨rfl,?_⟩));refine AN (D1 (Do (I:=λx c ar=>ar=st/\c=(pY,x,0)/\2<=x/\x<=a7/\Down rk (AR st) lo (lo+x)) (Q:=λc ar=>ar=st/\∃m,c=(pY,m,0)/\2<=m/\m<=a7/\Down rk (AR st) lo (lo+m)) ?_ ?_ ⟨rfl,rfl,AH _,by lia,?_⟩) ?_)
 .rintro x c ar ax xb ⟨rfl,rfl,x2,_,dn⟩
  dsimp only;refine AN (RL C B (rL hs xb) (t6 hs xb) ?_);by_cases c1:N rk (AR ar) (lo+x)<N rk (AR ar) (lo+x-1)
  .rw[p7 c1]
   dsimp only;rw[p6 rfl,pZ uM];refine AX ⟨rfl,rfl,by lia,xb,λi j li ij jh=>?_⟩;by_cases d1:j<lo+x
   .exact dn i j li ij d1
   .have ej:j=lo+x:=u8 jh d1
    subst ej;by_cases e:i=lo+x
    .rw[e];exact IL _
    .have:=dn i (lo+x-1) li (by lia) (wd ax)
     exact vY c1 this
  .rw[p8 c1]
   dsimp only;rw[pZ (by decide)];refine AN (RL C B (t6 hs xb) (rL hs xb) ?_);have a2:=B.ne (i:=lo+x-1) (j:=lo+x) (wd ax) (rL hs xb);rw[p7 (show N rk (AR ar) (lo+x-1)<N rk (AR ar) (lo+x) by lia)];dsimp only;rw[p6 rfl];exact AX ⟨rfl,x,rfl,x2,by lia,dn⟩
 .rintro c ar ⟨rfl,rfl,a1,a2,dn⟩
  exact⟨rfl,_,rfl,a1,a2,dn⟩
 .intro i j li ij jh
  by_cases e:i=j
  .rw[e];exact IL _
  .rw[show i=lo by lia,show j=lo+1 by lia]
   exact tz sm
 .rintro c ar ⟨rfl,m,rfl,m2,mn,dn⟩
  dsimp only;rw[pZ uM,reverseSlice'_eq];have sz:lo+m<=(AR ar).size:=by rw[B.size];lia
  have nx:=AEP (st:=ar) (lo:=lo) sz;refine AN (Hc ?_);have up2:Up rk (AR (US ar (mirror (AR ar) lo (lo+m) ((lo+m-lo) / 2)))) lo (lo+m):=λi j li ij jh=>by
   rw[Rv sz,Rv sz,p6 (by lia),p6 (by lia)];exact dn _ _ (by lia) (u9 ij) (by lia)
  refine AN (Wq C (B.nx nx) (sZ m2) mn hs up2 λn' n1' nn' dP _=>?_);exact AX (h n' _ (by lia) nn' nx dP)
def LR:Nat->Nat->Nat->StateT BA Sem Bool:=sortPriv% PySem.Builtin.binarySort
theorem Tj(lo n ok:Nat):LR lo n ok=(do
 for k in [max ok 1:n] do
  let mut l:=0
  let mut r:=k
  for _ in [0:k] do
   if l >= r then break
   let m:=(l+r) / 2
   let pX less <- OQ (lo+k) (lo+m)| return false
   if less then r:=m else l:=m+1
  moveDown' (lo+k) (lo+l)
 return true):=rfl
theorem Ou(C:Cmp prog w A E s κ G rk){ok:Nat}(B:Ba G rk κ a₀ st)(hn:lo+n<=a₀.size)(hok:ok<=n)(up:Up rk (AR st) lo (lo+ok)){Q:Bool->BA->Prop}
  (h:∀ar,Nx lo st ar->Up rk (AR ar) lo (lo+n)->Q true ar):wpS (AM prog w) A E s (LR lo n ok) Q st:=by
 rw[Tj];refine AN (D1 (Do (I:=λk c ar=>c=(pY,())/\Nx lo st ar/\Up rk (AR ar) lo (lo+min k n))
  (Q:=λc ar=>c=(pY,())/\Nx lo st ar/\Up rk (AR ar) lo (lo+n)) ?step ?fin ?init) ?post)
 case post =>
  rintro c ar ⟨rfl,nx,dP⟩;exact AX (h ar nx dP)
 case init =>
  refine⟨rfl,Nx.refl _ _,λi j li ij jh=>?_⟩;by_cases e:i=j
  .rw[e];exact IL _
  .exact up i j li ij (by lia)
 case fin =>
  rintro c ar ⟨hc,nx,dP⟩;refine⟨hc,nx,?_⟩
  rwa [show min (max (max ok 1) n) n=n by lia] at dP
 case step =>
  rintro k c ar hak hkn ⟨rfl,nx,dP⟩;rw[show min k n=k from uW hkn] at dP;have B':=B.nx nx;have hk:lo+k<a₀.size:=rL hn hkn;refine AN (D1 (Do (I:=λx c cf=>cf=ar/\∃l r,c=(pY,l,r)/\l<=r/\r<=k/\r-l<=k-x /\
    (∀i,lo<=i->i<lo+l->N rk (AR ar) i<=N rk (AR ar) (lo+k))/\(∀i,lo+r<=i->i<lo+k->N rk (AR ar) (lo+k)<N rk (AR ar) i))
   (Q:=λc cf=>cf=ar/\∃l r,c=(pY,l,r)/\l<=k /\
    (∀i,lo<=i->i<lo+l->N rk (AR ar) i<=N rk (AR ar) (lo+k))/\(∀i,lo+l<=i->i<lo+k->N rk (AR ar) (lo+k)<N rk (AR ar) i)) ?istep ?ifin ?iinit) ?ipost)
  case iinit=>exact⟨rfl,0,k,rfl,sk,rG,rG,λi hi=>by lia,λi h1 h2=>by lia⟩
  case ifin =>
   rintro c cf ⟨rfl,l,r,rfl,hlr,hrk,hm,l8,hhi⟩;have:l=r:=vR hlr hm;subst this;exact⟨rfl,l,l,rfl,hrk,l8,hhi⟩
  case istep =>
   rintro x c cf _ hxk ⟨rfl,l,r,rfl,hlr,hrk,hm,l8,hhi⟩;dsimp only;by_cases nq:l >= r
   .rw[p6 nq]
    have:l=r:=tP hlr nq;subst this;exact AX ⟨rfl,l,l,rfl,hrk,l8,hhi⟩
   .rw[pZ nq]
    refine AN (RL C B' hk (by lia) ?_);by_cases hless:N rk (AR cf) (lo+k)<N rk (AR cf) (lo+(l+r) / 2)
    .simp only[hless,decide_true,if_true]
     refine AX ⟨rfl,l,(l+r) / 2,rfl,by lia,by lia,by lia,l8,λi h1 h2=>?_⟩;exact Int.lt_of_lt_of_le hless (dP _ _ qi h1 h2)
    .simp only[hless,decide_false,BU,if_false]
     refine AX ⟨rfl,(l+r) / 2+1,r,rfl,by lia,hrk,by lia,λi h0 h1=>?_,hhi⟩;exact Ev (dP i (lo+(l+r) / 2) h0 (by lia) (by lia)) (IG.mp hless)
  case ipost =>
   rintro c cf ⟨rfl,l,r,rfl,hlk,l8,hhi⟩;show wpS _ _ _ _ (do moveDown' (lo+k) (lo+l);pure (CM (pY,()))) _ _;rw[moveDown'_eq];have m4:lo+k<(AR cf).size:=by rw[B'.size];exact hk
   have nx2:Nx lo cf (US cf (bubble (AR cf) (lo+k) (lo+k-(lo+l)))):=⟨bubble_perm _ _ _,rfl,rfl,rfl,λi hi=>by
    rw[getElem?_bubble m4 _ qI,pZ (by lia),pZ (by lia)]⟩
   refine AN (Hc (AX ⟨rfl,nx.trans nx2,?_⟩));rw[show min (k+1) n=k+1 by lia];intro i j li d5 hj;rw[Ry m4 qI,Ry m4 qI,show lo+k-(lo+k-(lo+l))=lo+l by lia]
   repeat' split
   all_goals first
    | (exfalso;omega)
    | exact IL _
    | exact l8 _ (by omega) (by omega)
    | exact E3 (hhi _ (by lia) (by lia))
    | exact dP _ _ (by lia) (by lia) (by lia)
variable{rk:AE->Int}{G:AE->Prop}
def Ck:Bool->AE->Array AE->Nat->Nat->Nat->StateT BA Sem qP:=sortPriv% PySem.Builtin.gallop
def Ei(left:Bool)(key:AE)(arr:Array AE)(base i:Nat):StateT BA Sem (Option Bool):=do
  let x <- Dx arr (base+i)
  if left then lt' x key else return (<- lt' key x).map (!·)
theorem Ue(left:Bool)(key:AE)(arr:Array AE)(base n hint:Nat):Ck left key arr base n hint=(do
 let mut lastofs:=0
 let mut ofs:=1
 let mut lo:=0
 let mut hi:=0
 let pX right <- Ei left key arr base hint| return pY
 if right then
  let maxofs:=n-hint
  for _ in [0:n] do
   if ofs >= maxofs then break
   let pX more <- Ei left key arr base (hint+ofs)| return pY
   if !more then break
   lastofs:=ofs
   ofs:=2*ofs+1
  lo:=hint+lastofs+1
  hi:=hint+min ofs maxofs
 else
  let maxofs:=hint+1
  for _ in [0:n] do
   if ofs >= maxofs then break
   let pX found <- Ei left key arr base (hint-ofs)| return pY
   if found then break
   lastofs:=ofs
   ofs:=2*ofs+1
  lo:=hint+1-min ofs maxofs
  hi:=hint-lastofs
 for _ in [0:n] do
  if lo >= hi then break
  let m:=lo+(hi-lo) / 2
  let pX more <- Ei left key arr base m| return pY
  if more then lo:=m+1 else hi:=m
 return pX hi):=rfl
def bey(rk:AE->Int)(left:Bool)(key:AE)(arr:Array AE)(base i:Nat):Bool:=if left then decide (N rk arr (base+i)<rk key) else !decide (rk key<N rk arr (base+i))
theorem VN(C:Cmp prog w A E s κ G rk){key:AE}{base:Nat}{Q:Option Bool->BA->Prop}(hk:G key)(al:Al G arr)(kd:kindOf st=κ)(hi:base+i<arr.size)(h:Q (pX (bey rk left key arr base i)) st) :
  wpS (AM prog w) A E s (Ei left key arr base i) Q st:=by
 unfold Ei;refine AN (BW hi ?_);unfold bey at h;rw[FQ hi] at h;cases left with
 | true =>
  rw[p6 rfl] at h ⊢;exact C _ _ (al.at hi) hk st _ kd h
 | false =>
  rw[pZ (by decide)] at h ⊢;refine AN (C _ _ hk (al.at hi) st _ kd (AX ?_));exact h
def Mono(p:Nat->Bool)(n:Nat):Prop:=∀i j,i<=j->j<n->p j=true->p i=true
theorem Et{key:AE}{base:Nat}(up:Up rk arr base (base+n)):Mono (bey rk left key arr base) n:=λi j ij jn h=>by
 have:=up (base+i) (base+j) qi (by lia) (vb jn);unfold bey at h ⊢;cases left with
 | true =>
  rw[p6 rfl] at h ⊢;have:=qA h;exact p7 (by lia)
 | false =>
  rw[pZ (by decide)] at h ⊢;have h':¬ rk key<N rk arr (base+j):=λz=>by rw[p7 z] at h;cases h
  rw[p8 (by lia)];rfl
theorem Cy(C:Cmp prog w A E s κ G rk){key:AE}{base hint:Nat}{Q:qP->BA->Prop}(hk:G key)(al:Al G arr)(kd:kindOf st=κ)(hn:base+n<=arr.size)(hh:hint<n)(mo:Mono (bey rk left key arr base) n)
  (h:∀k,k<=n->(∀i,i<k->bey rk left key arr base i=true)->(∀i,k<=i->i<n->bey rk left key arr base i=false)->Q (pX k) st):wpS (AM prog w) A E s (Ck left key arr base n hint) Q st:=by
 rw[Ue];generalize hp:bey rk left key arr base=p at mo h;have ask:∀{i:Nat}{Q:Option Bool->BA->Prop},i<n->Q (pX (p i)) st->wpS (AM prog w) A E s (Ei left key arr base i) Q st:=λ{i Q} hi q=>VN C hk al kd (rL hn hi) (by rw[hp];exact q);have kQ:∀{k:Nat},(k<n->p k=false)->∀i,k<=i->i<n->p i=false:=λ{k} hk i ki il=>by
  cases e:p i with
  | false=>rfl
  | true =>
   have:=mo k i ki il e;rw[hk (qq ki il)] at this;cases this
 have fin:∀{lo hi:Nat},lo<=hi->hi<=n->(∀i,i<lo->p i=true)->(∀i,hi<=i->i<n->p i=false) ->
   ∀{Q':(Option qP×Nat×Nat)->BA->Prop},(∀l,l<=n->(∀i,i<l->p i=true)->(∀i,l<=i->i<n->p i=false)->Q' (pY,l,l) st) ->
   wpS (AM prog w) A E s (forIn [0:n] ((pY,lo,hi):Option qP×Nat×Nat) λ_ r =>
     if r.2.1 >= r.2.2 then pure (BH (pY,r.2.1,r.2.2))
     else do
      let x <- Ei left key arr base (r.2.1+(r.2.2-r.2.1) / 2)
      match x with
      | some more =>
       if more=true then pure (CM (pY,r.2.1+(r.2.2-r.2.1) / 2+1,r.2.2))
       else pure (CM (pY,r.2.1,r.2.1+(r.2.2-r.2.1) / 2))
      | _=>pure (BH (pX pY,r.2.1,r.2.2))) Q' st:=λ{lo hi} lh pE ht hf {Q'} h'=>by
  refine D1 (Do (I:=λx c ar=>ar=st/\∃l r,c=(pY,l,r)/\l<=r/\r<=n/\r-l<=n-x/\(∀i,i<l->p i=true)/\(∀i,r<=i->i<n->p i=false))
   (Q:=λc ar=>ar=st/\∃l,c=(pY,l,l)/\l<=n/\(∀i,i<l->p i=true)/\(∀i,l<=i->i<n->p i=false)) ?_ ?_ ⟨rfl,lo,hi,rfl,lh,pE,by lia,ht,hf⟩) ?_
  .rintro x c ar _ xn ⟨rfl,l,r,rfl,lr,rn,sz,tr,fa⟩
   dsimp only;by_cases c1:l >= r
   .rw[p6 c1]
    have:l=r:=tP lr c1;subst this;exact AX ⟨rfl,l,rfl,rn,tr,fa⟩
   .rw[pZ c1]
    refine AN (ask (vQ rn c1) ?_);cases e:p (l+(r-l) / 2) with
    | true =>
     dsimp only;rw[p6 rfl];exact AX ⟨rfl,_,r,rfl,by lia,rn,by lia,λi hi=>mo i _ (q5 hi) (vQ rn c1) e,fa⟩
    | false =>
     dsimp only;rw[pZ (by decide)];exact AX ⟨rfl,l,_,rfl,qi,by lia,by lia,tr,kQ λ_=>e⟩
  .rintro c ar ⟨rfl,l,r,rfl,lr,rn,sz,tr,fa⟩
   have:l=r:=vR lr sz;subst this;exact⟨rfl,l,rfl,rn,tr,fa⟩
  .rintro c ar ⟨rfl,l,rfl,ln,tr,fa⟩
   exact h' l ln tr fa
 refine AN (ask hh ?_);cases ph:p hint with
 | true =>
  dsimp only;rw[p6 rfl];refine AN (D1 (Do (I:=λx c ar=>ar=st/\∃l o,c=(pY,l,o)/\l<o/\x+1<=o/\hint+l<n/\p (hint+l)=true)
   (Q:=λc ar=>ar=st/\∃l o,c=(pY,l,o)/\l<o/\hint+l<n/\p (hint+l)=true/\(o<n-hint->p (hint+o)=false)) ?_ ?_ ⟨rfl,0,1,rfl,vS,vT,by lia,ph⟩) ?_)
  .rintro x c ar _ xn ⟨rfl,l,o,rfl,lo,xo,ln,pl⟩
   dsimp only;by_cases c1:o >= n-hint
   .rw[p6 c1]
    exact AX ⟨rfl,l,o,rfl,lo,ln,pl,λz=>qB z (sO c1)⟩
   .rw[pZ c1]
    refine AN (ask (vU c1) ?_);cases e:p (hint+o) with
    | true =>
     dsimp only;rw[pZ (by decide)];exact AX ⟨rfl,o,_,rfl,vV,vW xo,vU c1,e⟩
    | false =>
     dsimp only;rw[p6 (by decide)];exact AX ⟨rfl,l,o,rfl,lo,ln,pl,λ_=>e⟩
  .rintro c ar ⟨rfl,l,o,rfl,lo,xo,ln,pl⟩
   exact⟨rfl,l,o,rfl,lo,ln,pl,λz=>qB z (by lia)⟩
  .rintro c ar ⟨rfl,l,o,rfl,lo,ln,pl,pf⟩
   dsimp only;refine AN (fin (lo:=hint+l+1) (hi:=hint+min o (n-hint)) (by lia) (by lia) (λi hi=>mo i (hint+l) (q5 hi) ln pl) ?_ λk kn kt kf=>AX (h k kn kt kf));by_cases c1:o<n-hint
   .rw[show hint+min o (n-hint)=hint+o by lia]
    exact kQ λ_=>pf c1
   .rw[show hint+min o (n-hint)=n by lia]
    exact λi a b=>qB a (by lia)
 | false =>
  dsimp only;rw[pZ (by decide)];refine AN (D1 (Do (I:=λx c ar=>ar=st/\∃l o,c=(pY,l,o)/\l<o/\x+1<=o/\l<=hint/\p (hint-l)=false)
   (Q:=λc ar=>ar=st/\∃l o,c=(pY,l,o)/\l<o/\l<=hint/\p (hint-l)=false/\(o<hint+1->p (hint-o)=true)) ?_ ?_ ⟨rfl,0,1,rfl,vS,vT,sk,ph⟩) ?_)
  .rintro x c ar _ xn ⟨rfl,l,o,rfl,lo,xo,ln,pl⟩
   dsimp only;by_cases c1:o >= hint+1
   .rw[p6 c1]
    exact AX ⟨rfl,l,o,rfl,lo,ln,pl,λz=>qB z (sO c1)⟩
   .rw[pZ c1]
    refine AN (ask (tD hh) ?_);cases e:p (hint-o) with
    | true =>
     dsimp only;rw[p6 rfl];exact AX ⟨rfl,l,o,rfl,lo,ln,pl,λ_=>e⟩
    | false =>
     dsimp only;rw[pZ (by decide)];exact AX ⟨rfl,o,_,rfl,vV,vW xo,by lia,e⟩
  .rintro c ar ⟨rfl,l,o,rfl,lo,xo,ln,pl⟩
   exact⟨rfl,l,o,rfl,lo,ln,pl,λz=>qB z (by lia)⟩
  .rintro c ar ⟨rfl,l,o,rfl,lo,ln,pl,pt⟩
   dsimp only;refine AN (fin (lo:=hint+1-min o (hint+1)) (hi:=hint-l) (by lia) (by lia) ?_ (kQ λ_=>pl) λk kn kt kf=>AX (h k kn kt kf));by_cases c1:o<hint+1
   .rw[show hint+1-min o (hint+1)=hint+1-o by lia]
    exact λi hi=>mo i (hint-o) (tO hi) (tD hh) (pt c1)
   .rw[show hint+1-min o (hint+1)=0 by lia]
    exact λi hi=>qB hi qv
variable{rk:AE->Int}{G:AE->Prop}
def Srt(rk:AE->Int)(l:List AE):Prop:=l.Pairwise λx y=>rk x<=rk y
structure MI(rk:AE->Int)(a b out:List AE)(ia ib:Nat):Prop where
 perm:(out++(a.drop ia++b.drop ib)).Perm (a++b)
 srt:Srt rk out
 oa:∀x∈out,∀y∈a.drop ia,rk x<=rk y
 ob:∀x∈out,∀y∈b.drop ib,rk x<=rk y
theorem RV(l:List α)(i k:Nat):l.drop i=(l.drop i).take k++l.drop (i+k):=by rw[<- PY];exact(Fu k (l.drop i)).symm
theorem MI.takeA{a b out:List AE}(m:MI rk a b out ia ib)(sa:Srt rk a)(k:Nat)(h:∀y∈(a.drop ia).take k,∀z∈b.drop ib,rk y<=rk z):MI rk a b (out++(a.drop ia).take k) (ia+k) ib:=by
 have e:=RV a ia k;have sd:Srt rk (a.drop ia):=sa.sublist (G5 ..);refine⟨?_,?_,?_,?_⟩
 .refine OR ?_ m.perm
  rw[CL];refine EJ _ ?_;rw[<- CL,<- e]
 .refine CD.mpr ⟨m.srt,sd.sublist (IP ..),λx hx y hy=>m.oa x hx y (LZ hy)⟩
 .intro x hx y hy
  rcases Cf.mp hx with hx| hx
  .exact m.oa x hx y (by rw[e];exact B4 _ hy)
  .unfold Srt at sd
   rw[e] at sd;exact(CD.mp sd).2.2 x hx y hy
 .intro x hx y hy
  rcases Cf.mp hx with hx| hx
  .exact m.ob x hx y hy
  .exact h x hx y hy
theorem MI.takeB{a b out:List AE}(m:MI rk a b out ia ib)(sb:Srt rk b)(k:Nat)(h:∀y∈(b.drop ib).take k,∀z∈a.drop ia,rk y<=rk z):MI rk a b (out++(b.drop ib).take k) ia (ib+k):=by
 have e:=RV b ib k;have sd:Srt rk (b.drop ib):=sb.sublist (G5 ..);refine⟨?_,?_,?_,?_⟩
 .refine OR ?_ m.perm
  rw[CL];refine EJ _ ?_;rw[<- CL];refine(K8 _ (FA)).trans ?_;rw[CL,<- e]
 .refine CD.mpr ⟨m.srt,sd.sublist (IP ..),λx hx y hy=>m.ob x hx y (LZ hy)⟩
 .intro x hx y hy
  rcases Cf.mp hx with hx| hx
  .exact m.oa x hx y hy
  .exact h x hx y hy
 .intro x hx y hy
  rcases Cf.mp hx with hx| hx
  .exact m.ob x hx y (by rw[e];exact B4 _ hy)
  .unfold Srt at sd
   rw[e] at sd;exact(CD.mp sd).2.2 x hx y hy
def Mg(rk:AE->Int)(a b r:List AE):Prop:=r.Perm (a++b)/\Srt rk r
theorem MI.doneB{a b out:List AE}(m:MI rk a b out ia ib)(sa:Srt rk a)(h:b.length<=ib):Mg rk a b (out++a.drop ia++b.drop ib):=by
 rw[IN h,B3];have p:=m.perm;rw[IN h,B3] at p;exact⟨p,CD.mpr ⟨m.srt,sa.sublist (G5 ..),m.oa⟩⟩
theorem MI.doneA{a b out:List AE}(m:MI rk a b out ia ib)(sb:Srt rk b)(h:a.length<=ia):Mg rk a b (out++a.drop ia++b.drop ib):=by
 rw[IN h,B3];have p:=m.perm;rw[IN h,UT] at p;exact⟨p,CD.mpr ⟨m.srt,sb.sublist (G5 ..),m.ob⟩⟩
theorem MI.last{a b out:List AE}(m:MI rk a b out ia ib)(sb:Srt rk b)(h:ia+1=a.length)(hl:∀y∈b,∀z∈a.drop ia,rk y<=rk z):Mg rk a b (out++b.drop ib++a.drop ia):=by
 refine⟨?_,?_⟩
 .refine OR ?_ m.perm
  rw[CL];exact EJ _ FA
 .have one:Srt rk (a.drop ia):=by
   have l1:(a.drop ia).length=1:=by rw[F7];lia
   obtain⟨x,ex⟩:=List.length_eq_one_iff.mp l1;rw[ex];exact FX ..
  refine CD.mpr ⟨CD.mpr ⟨m.srt,sb.sublist (G5 ..),m.ob⟩,one,λx hx y hy=>?_⟩;rcases Cf.mp hx with hx| hx
  .exact m.oa x hx y hy
  .exact hl x (QO hx) y hy
variable{rk:AE->Int}{G:AE->Prop}
theorem ifc{c:Prop}{i j:Decidable c}{x y u v:α}(h1:x=u)(h2:y=v):(@ite α c i x y)=(@ite α c j u v):=by rw[h1,h2];congr
def DW:Nat->StateT BA Sem Unit:=sortPriv% PySem.Builtin.setMinGallop
theorem Va(g:Nat):DW g=modify λs=>IH (kindOf s) (AR s) (BC s) g (FI s):=rfl
abbrev loDone(a b out:Array AE)(ia ib:Nat):Array AE:=out++a.extract ia a.size++b.extract ib b.size
abbrev loLast(a b out:Array AE)(ia ib:Nat):Array AE:=out++b.extract ib b.size++a.extract ia a.size
abbrev S1:=Option (Array AE)×Array AE×Nat×Nat×Nat×Nat
abbrev S2:=Option (Array AE)×Array AE×Nat×Nat×Nat×Nat×Nat
abbrev S0:=Option (Array AE)×Array AE×Nat×Nat×Nat
def loOne(a b:Array AE)(mg:Nat)(r:S1):StateT BA Sem (ForInStep S1):=do
 let y <- Dx b r.2.2.2.1
 let x <- Dx a r.2.2.1
 let c <- lt' y x
 match c with
 | some bWins =>
  if bWins=true then do
   let y <- Dx b r.2.2.2.1
   if(r.2.2.2.1+1==b.size)=true then
    pure (BH (pX (loDone a b (r.2.1.push y) r.2.2.1 (r.2.2.2.1+1)),r.2.1.push y,r.2.2.1,r.2.2.2.1+1,0,r.2.2.2.2.2+1))
   else if r.2.2.2.2.2+1 >= mg then
    pure (BH (pY,r.2.1.push y,r.2.2.1,r.2.2.2.1+1,0,r.2.2.2.2.2+1))
   else pure (CM (pY,r.2.1.push y,r.2.2.1,r.2.2.2.1+1,0,r.2.2.2.2.2+1))
  else do
   let x <- Dx a r.2.2.1
   if(r.2.2.1+1+1==a.size)=true then
    pure (BH (pX (loLast a b (r.2.1.push x) (r.2.2.1+1) r.2.2.2.1),r.2.1.push x,r.2.2.1+1,r.2.2.2.1,r.2.2.2.2.1+1,0))
   else if r.2.2.2.2.1+1 >= mg then
    pure (BH (pY,r.2.1.push x,r.2.2.1+1,r.2.2.2.1,r.2.2.2.2.1+1,0))
   else pure (CM (pY,r.2.1.push x,r.2.2.1+1,r.2.2.2.1,r.2.2.2.2.1+1,0))
 | _=>pure (BH (pX (loDone a b r.2.1 r.2.2.1 r.2.2.2.1),r.2.1,r.2.2.1,r.2.2.2.1,r.2.2.2.2.1,r.2.2.2.2.2))
def loEnd(a b:Array AE)(mg ac bc:Nat)(out:Array AE)(ia ib:Nat):StateT BA Sem (ForInStep S2):=do
 let x <- Dx a ia
 if(ia+1+1==a.size)=true then pure (BH (pX (loLast a b (out.push x) (ia+1) ib),out.push x,ia+1,ib,mg,ac,bc))
 else if(decide (ac<7)&&decide (bc<7))=true then pure (BH (pY,out.push x,ia+1,ib,mg,ac,bc))
 else pure (CM (pY,out.push x,ia+1,ib,mg,ac,bc))
def loMid(a b:Array AE)(mg k bc:Nat)(out:Array AE)(ia ib:Nat):StateT BA Sem (ForInStep S2):=do
 let y <- Dx b ib
 if(ib+1==b.size)=true then pure (BH (pX (loDone a b (out.push y) ia (ib+1)),out.push y,ia,ib+1,mg,k,bc))
 else do
  let x <- Dx a ia
  let r <- Ck true x b (ib+1) (b.size-(ib+1)) 0
  match r with
  | some k' =>
   if k'>0 then
    if(ib+1+k'==b.size)=true then pure (BH (pX (loDone a b (out.push y++b.extract (ib+1) (ib+1+k')) ia (ib+1+k')),out.push y++b.extract (ib+1) (ib+1+k'),ia,ib+1+k',mg,k,k'))
    else loEnd a b mg k k' (out.push y++b.extract (ib+1) (ib+1+k')) ia (ib+1+k')
   else loEnd a b mg k k' (out.push y) ia (ib+1)
  | _=>pure (BH (pX (loDone a b (out.push y) ia (ib+1)),out.push y,ia,ib+1,mg,k,bc))
def loGal(a b:Array AE)(mg ac bc:Nat)(out:Array AE)(ia ib:Nat):StateT BA Sem (ForInStep S2):=do
 DW mg
 let y <- Dx b ib
 let r <- Ck false y a ia (a.size-ia) 0
 match r with
 | some k =>
  if k>0 then
   if(ia+k+1==a.size)=true then pure (BH (pX (loLast a b (out++a.extract ia (ia+k)) (ia+k) ib),out++a.extract ia (ia+k),ia+k,ib,mg,k,bc))
   else if(ia+k==a.size)=true then pure (BH (pX (loDone a b (out++a.extract ia (ia+k)) (ia+k) ib),out++a.extract ia (ia+k),ia+k,ib,mg,k,bc))
   else loMid a b mg k bc (out++a.extract ia (ia+k)) (ia+k) ib
  else loMid a b mg k bc out ia ib
 | _=>pure (BH (pX (loDone a b out ia ib),out,ia,ib,mg,ac,bc))
def Hz:Array AE->Array AE->StateT BA Sem (Array AE):=sortPriv% PySem.Builtin.mergeLo
theorem Ut(a b:Array AE):Hz a b=(do
 rule "list.sort.merge-lo"
 let total:=a.size+b.size
 let done (out:Array AE) (ia ib:Nat):=out++a.extract ia a.size++b.extract ib b.size
 let lastOfA (out:Array AE) (ia ib:Nat):=out++b.extract ib b.size++a.extract ia a.size
 let mut out:Array AE:=#[<- Dx b 0]
 let mut ia:=0
 let mut ib:=1
 if ib==b.size then return done out ia ib
 if ia+1==a.size then return lastOfA out ia ib
 let mut minGallop:=QP (<- get)
 for _ in [0:total] do
  let mut acount:=0
  let mut bcount:=0
  for _ in [0:total] do
   let pX bWins <- lt' (<- Dx b ib) (<- Dx a ia)| return done out ia ib
   if bWins then
    out:=out.push (<- Dx b ib);ib:=ib+1;bcount:=bcount+1;acount:=0
    if ib==b.size then return done out ia ib
    if bcount >= minGallop then break
   else
    out:=out.push (<- Dx a ia);ia:=ia+1;acount:=acount+1;bcount:=0
    if ia+1==a.size then return lastOfA out ia ib
    if acount >= minGallop then break
  rule "list.sort.gallop"
  minGallop:=minGallop+1
  for _ in [0:total] do
   if minGallop>1 then minGallop:=minGallop-1
   DW minGallop
   let pX k <- Ck false (<- Dx b ib) a ia (a.size-ia) 0| return done out ia ib
   acount:=k
   if k>0 then
    out:=out++a.extract ia (ia+k);ia:=ia+k
    if ia+1==a.size then return lastOfA out ia ib
    if ia==a.size then return done out ia ib
   out:=out.push (<- Dx b ib);ib:=ib+1
   if ib==b.size then return done out ia ib
   let pX k <- Ck true (<- Dx a ia) b ib (b.size-ib) 0| return done out ia ib
   bcount:=k
   if k>0 then
    out:=out++b.extract ib (ib+k);ib:=ib+k
    if ib==b.size then return done out ia ib
   out:=out.push (<- Dx a ia);ia:=ia+1
   if ia+1==a.size then return lastOfA out ia ib
   if acount<7&&bcount<7 then break
  minGallop:=minGallop+1
  DW minGallop
 unsupported "internal:list.sort.merge-bound"):=rfl
set_option pp.proofs true in
theorem TX(a b:Array AE):Hz a b=(do
 liftM (rule "list.sort.merge-lo")
 let y <- Dx b 0
 if(1==b.size)=true then pure (loDone a b #[y] 0 1)
 else if(0+1==a.size)=true then pure (loLast a b #[y] 0 1)
 else do
  let g <- get
  let r <- forIn [0:a.size+b.size] ((pY,#[y],0,1,QP g):S0) λ_ r0=>do
   let r1 <- forIn [0:a.size+b.size] ((pY,r0.2.1,r0.2.2.1,r0.2.2.2.1,0,0):S1) λ_ r=>loOne a b r0.2.2.2.2 r
   match r1.1 with
   | some x=>pure (BH ((pX x,r1.2.1,r1.2.2.1,r1.2.2.2.1,r0.2.2.2.2):S0))
   | none=>do
    liftM (rule "list.sort.gallop")
    let r2 <- forIn [0:a.size+b.size] ((pY,r1.2.1,r1.2.2.1,r1.2.2.2.1,r0.2.2.2.2+1,r1.2.2.2.2.1,r1.2.2.2.2.2):S2) λ_ r =>
     if r.2.2.2.2.1>1 then loGal a b (r.2.2.2.2.1-1) r.2.2.2.2.2.1 r.2.2.2.2.2.2 r.2.1 r.2.2.1 r.2.2.2.1
     else loGal a b r.2.2.2.2.1 r.2.2.2.2.2.1 r.2.2.2.2.2.2 r.2.1 r.2.2.1 r.2.2.2.1
    match r2.1 with
    | some x=>pure (BH ((pX x,r2.2.1,r2.2.2.1,r2.2.2.2.1,r2.2.2.2.2.1):S0))
    | none=>do
     DW (r2.2.2.2.2.1+1)
     pure (CM ((pY,r2.2.1,r2.2.2.1,r2.2.2.2.1,r2.2.2.2.2.1+1):S0))
  match r.1 with
  | some x=>pure x
  | none=>unsupported "internal:list.sort.merge-bound"):=by
 rw[Ut];dsimp only
 congr 1
 funext _
 congr 1
 funext y
 refine ifc rfl (ifc rfl ?_)
 congr 1
 funext g
 congr 1
 .congr 1
  funext x r0
  congr 1
  funext r1
  obtain⟨o1,r1⟩:=r1;cases o1 with
  | some x=>rfl
  | none =>
   dsimp only
   congr 1
   funext u
   congr 1
   funext r2
   obtain⟨o2,r2⟩:=r2;cases o2<;>rfl
 .funext r
  obtain⟨o,r⟩:=r;cases o<;>rfl
variable{rk:AE->Int}{G:AE->Prop}
structure Gx(st ar:BA):Prop where
 arr:AR ar=AR st
 kind:kindOf ar=kindOf st
 failed:FI ar=FI st
 pend:BC ar=BC st
theorem Gx.refl(st:BA):Gx st st:=⟨rfl,rfl,rfl,rfl⟩
theorem Qt{b:Array AE}(h:ib<b.size):(out.push b[ib]).toList=out.toList++(b.toList.drop ib).take 1:=by
 rw[IR]
 congr 1
 have hl:ib<b.toList.length:=by simpa using h
 rw[NL hl,My,P0];simp
theorem Xg{a:Array AE}(i k:Nat):(out++a.extract i (i+k)).toList=out.toList++(a.toList.drop i).take k:=by
 rw[C5,FK]
 congr 1
 simp[Sz]
theorem Hx(a:Array AE)(i:Nat):(a.extract i a.size).toList=a.toList.drop i:=by
 rw[FK];simp[Sz];rw[K7 (by simp)]
theorem Ru(a b out:Array AE)(ia ib:Nat):(loDone a b out ia ib).toList=out.toList++a.toList.drop ia++b.toList.drop ib:=by
 unfold loDone;rw[C5,C5,Hx,Hx]
theorem AAZ(a b out:Array AE)(ia ib:Nat):(loLast a b out ia ib).toList=out.toList++b.toList.drop ib++a.toList.drop ia:=by
 unfold loLast;rw[C5,C5,Hx,Hx]
theorem Dh{a:Array AE}{z:AE}(h:z∈a.toList.drop i):∃j,i<=j/\∃hj:j<a.size,z=a[j]:=by
 obtain⟨k,hk,e⟩:=CC.mp h;rw[F7] at hk;refine⟨i+k,by lia,by
               have:a.toList.length=a.size:=by simp
               lia,?_⟩
 rw[<- e,NB];simp
theorem CK{a:Array AE}{k:Nat}{z:AE}(h:z∈(a.toList.drop i).take k):∃j,i<=j/\j<i+k/\∃hj:j<a.size,z=a[j]:=by
 obtain⟨n,hk,e⟩:=CC.mp h;rw[BS,F7] at hk;have:a.toList.length=a.size:=by simp
 refine⟨i+n,qi,by lia,by lia,?_⟩;rw[<- e,IQ,NB];simp
theorem Eo{a:Array AE}(sa:Srt rk a.toList)(ij:i<=j)(hj:j<a.size):rk (a[i]'(qq ij hj))<=rk a[j]:=by
 by_cases e:i=j
 .subst e;exact IL _
 .have:=Co.mp sa i j (by simp;exact qq ij hj) (by simpa using hj) (sR ij e)
  simpa using this
theorem Oq{a:Array AE}(sa:Srt rk a.toList)(h:hi<=a.size):Up rk a lo hi:=λi j li ij jh=>by
 rw[FQ (show i<a.size by lia),FQ (show j<a.size from qm jh h)];exact Eo sa ij (qm jh h)
section
variable{a b:Array AE}
def At(rk:AE->Int)(a b out:Array AE)(ia ib:Nat):Prop:=MI rk a.toList b.toList out.toList ia ib/\ia+1<a.size/\ib<b.size
structure Lo(G:AE->Prop)(rk:AE->Int)(a b:Array AE):Prop where
 ga:Al G a
 gb:Al G b
 sa:Srt rk a.toList
 sb:Srt rk b.toList
 hl:∀y∈b.toList,∀z∈a.toList.drop (a.size-1),rk y<=rk z
theorem Lo.done(L:Lo G rk a b)(m:MI rk a.toList b.toList out.toList ia ib)(h:b.size<=ib):Mg rk a.toList b.toList (loDone a b out ia ib).toList:=by
 rw[Ru];exact m.doneB L.sa (by simpa using h)
theorem Lo.doneA(L:Lo G rk a b)(m:MI rk a.toList b.toList out.toList ia ib)(h:a.size<=ia):Mg rk a.toList b.toList (loDone a b out ia ib).toList:=by
 rw[Ru];exact m.doneA L.sb (by simpa using h)
theorem Lo.last(L:Lo G rk a b)(m:MI rk a.toList b.toList out.toList ia ib)(h:ia+1=a.size):Mg rk a.toList b.toList (loLast a b out ia ib).toList:=by
 rw[AAZ];refine m.last L.sb (by simpa using h) λy hy z hz=>L.hl y hy z ?_;rw[show a.size-1=ia by lia];exact hz
theorem Lo.stepB(L:Lo G rk a b)(m:MI rk a.toList b.toList out.toList ia ib)(hb:ib<b.size)(h:∀j,ia<=j->∀hj:j<a.size,rk b[ib]<=rk a[j]):MI rk a.toList b.toList (out.push b[ib]).toList ia (ib+1):=by
 rw[Qt hb];refine m.takeB L.sb 1 λy hy z hz=>?_;obtain⟨j,j1,j2,hj,rfl⟩:=CK hy;have:j=ib:=uZ j2 j1;subst this;obtain⟨i,i1,hi,rfl⟩:=Dh hz;exact h i i1 hi
theorem Lo.stepA(L:Lo G rk a b)(m:MI rk a.toList b.toList out.toList ia ib)(ha:ia<a.size)(h:∀j,ib<=j->∀hj:j<b.size,rk a[ia]<=rk b[j]):MI rk a.toList b.toList (out.push a[ia]).toList (ia+1) ib:=by
 rw[Qt ha];refine m.takeA L.sa 1 λy hy z hz=>?_;obtain⟨j,j1,j2,hj,rfl⟩:=CK hy;have:j=ia:=uZ j2 j1;subst this;obtain⟨i,i1,hi,rfl⟩:=Dh hz;exact h i i1 hi
theorem Lo.manyA(L:Lo G rk a b){k:Nat}(m:MI rk a.toList b.toList out.toList ia ib)(h:∀i,ia<=i->i<ia+k->∀hi:i<a.size,∀j,ib<=j->∀hj:j<b.size,rk a[i]<=rk b[j]):MI rk a.toList b.toList (out++a.extract ia (ia+k)).toList (ia+k) ib:=by
 rw[Xg];refine m.takeA L.sa k λy hy z hz=>?_;obtain⟨i,i1,i2,hi,rfl⟩:=CK hy;obtain⟨j,j1,hj,rfl⟩:=Dh hz;exact h i i1 i2 hi j j1 hj
theorem Lo.manyB(L:Lo G rk a b){k:Nat}(m:MI rk a.toList b.toList out.toList ia ib)(h:∀i,ib<=i->i<ib+k->∀hi:i<b.size,∀j,ia<=j->∀hj:j<a.size,rk b[i]<=rk a[j]):MI rk a.toList b.toList (out++b.extract ib (ib+k)).toList ia (ib+k):=by
 rw[Xg];refine m.takeB L.sb k λy hy z hz=>?_;obtain⟨i,i1,i2,hi,rfl⟩:=CK hy;obtain⟨j,j1,hj,rfl⟩:=Dh hz;exact h i i1 i2 hi j j1 hj
theorem QZ(g:Gx st ar)(m:Nat):Gx st (IH (kindOf ar) (AR ar) (BC ar) m (FI ar)):=⟨g.arr,g.kind,g.failed,g.pend⟩
theorem setMin{g:Nat}{Q:Unit->BA->Prop}(h:Q () (IH (kindOf st) (AR st) (BC st) g (FI st))):wpS (AM prog w) A E s (DW g) Q st:=by
 rw[Va];exact Hc h
def E1(rk:AE->Int)(a b:Array AE)(st:BA)(m:Nat)(r:S1)(ar:BA):Prop:=Gx st ar/\((∃x y,r=(pX x,y)/\Mg rk a.toList b.toList x.toList)\/∃out ia ib ac bc,r=(pY,out,ia,ib,ac,bc)/\At rk a b out ia ib/\m<=ia+ib)
def E2(rk:AE->Int)(a b:Array AE)(st:BA)(m:Nat)(r:S2)(ar:BA):Prop:=Gx st ar/\((∃x y,r=(pX x,y)/\Mg rk a.toList b.toList x.toList)\/∃out ia ib mg ac bc,r=(pY,out,ia,ib,mg,ac,bc)/\At rk a b out ia ib/\m<=ia+ib)
def Y1(rk:AE->Int)(a b:Array AE)(st:BA)(m:Nat)(r:S1)(ar:BA):Prop:=Gx st ar/\∃out ia ib ac bc,r=(pY,out,ia,ib,ac,bc)/\At rk a b out ia ib/\m<=ia+ib
def Y2(rk:AE->Int)(a b:Array AE)(st:BA)(m:Nat)(r:S2)(ar:BA):Prop:=Gx st ar/\∃out ia ib mg ac bc,r=(pY,out,ia,ib,mg,ac,bc)/\At rk a b out ia ib/\m<=ia+ib
theorem Yl(C:Cmp prog w A E s κ G rk)(L:Lo G rk a b){mg:Nat}(kd:kindOf bm=κ)(g:Gx bm st)(at_:At rk a b out ia ib)(hm:m<=ia+ib) :
  wpS (AM prog w) A E s (loOne a b mg (pY,out,ia,ib,ac,bc)) (λr ar=>match r with| .done c'=>E1 rk a b bm (m+1) c' ar| .yield c'=>Y1 rk a b bm (m+1) c' ar) st:=by
 obtain⟨mi,la,lb⟩:=at_;have e8:ia<a.size:=qg la;unfold loOne;dsimp only;refine AN (BW lb (AN (BW e8 (AN (C _ _ (L.gb.at lb) (L.ga.at e8) st _ (g.kind.trans kd) ?_)))));by_cases c:rk b[ib]<rk a[ia]
 .rw[p7 c]
  dsimp only;rw[p6 rfl];refine AN (BW lb ?_);have bE:=L.stepB mi lb λj j1 hj=>Ev (E3 c) (Eo L.sa j1 hj);by_cases c1:ib+1=b.size
  .rw[p6 (by rw[c1];exact beq_self_eq_true _)]
   exact AX ⟨g,.inl ⟨_,_,rfl,L.done bE (qK c1)⟩⟩
  .rw[pZ (by intro z;exact c1 (beq_iff_eq.mp z))]
   by_cases c2:bc+1 >= mg
   .rw[p6 c2]
    exact AX ⟨g,.inr ⟨_,_,_,_,_,rfl,⟨bE,la,rA lb c1⟩,vw hm⟩⟩
   .rw[pZ c2]
    exact AX ⟨g,_,_,_,_,_,rfl,⟨bE,la,rA lb c1⟩,vw hm⟩
 .rw[p8 c]
  dsimp only;rw[pZ (by decide)];refine AN (BW e8 ?_);have bE:=L.stepA mi e8 λj j1 hj=>Ev (IG.mp c) (Eo L.sb j1 hj);by_cases c1:ia+1+1=a.size
  .rw[p6 (by rw[c1];exact beq_self_eq_true _)]
   exact AX ⟨g,.inl ⟨_,_,rfl,L.last bE c1⟩⟩
  .rw[pZ (by intro z;exact c1 (beq_iff_eq.mp z))]
   by_cases c2:ac+1 >= mg
   .rw[p6 c2]
    exact AX ⟨g,.inr ⟨_,_,_,_,_,rfl,⟨bE,rA la c1,lb⟩,vx hm⟩⟩
   .rw[pZ c2]
    exact AX ⟨g,_,_,_,_,_,rfl,⟨bE,rA la c1,lb⟩,vx hm⟩
theorem MN(L:Lo G rk a b){mg:Nat}(g:Gx bm st)(mi:MI rk a.toList b.toList out.toList ia ib)(la:ia+1<a.size)(lb:ib<b.size)(h:∀j,ib<=j->∀hj:j<b.size,rk (a[ia]'(qg la))<=rk b[j])(hm:m<=ia+ib) :
  wpS (AM prog w) A E s (loEnd a b mg ac bc out ia ib) (λr ar=>match r with| .done c'=>E2 rk a b bm m c' ar| .yield c'=>Y2 rk a b bm m c' ar) st:=by
 have e8:ia<a.size:=qg la;unfold loEnd;refine AN (BW e8 ?_);have bE:=L.stepA mi e8 h;by_cases c1:ia+1+1=a.size
 .rw[p6 (by rw[c1];exact beq_self_eq_true _)]
  exact AX ⟨g,.inl ⟨_,_,rfl,L.last bE c1⟩⟩
 .rw[pZ (by intro z;exact c1 (beq_iff_eq.mp z))]
  by_cases c2:(decide (ac<7)&&decide (bc<7))=true
  .rw[p6 c2]
   exact AX ⟨g,.inr ⟨_,_,_,_,_,_,rfl,⟨bE,rA la c1,lb⟩,uc hm⟩⟩
  .rw[pZ c2]
   exact AX ⟨g,_,_,_,_,_,_,rfl,⟨bE,rA la c1,lb⟩,uc hm⟩
theorem Dy{key:AE}{base:Nat}(h:base+i<arr.size):bey rk false key arr base i=!decide (rk key<rk arr[base+i]):=by
 unfold bey;rw[pZ (by decide),FQ h]
theorem Ez{key:AE}{base:Nat}(h:base+i<arr.size):bey rk true key arr base i=decide (rk arr[base+i]<rk key):=by
 unfold bey;rw[p6 rfl,FQ h]
theorem Mh(C:Cmp prog w A E s κ G rk)(L:Lo G rk a b){mg k:Nat}(kd:kindOf bm=κ)(g:Gx bm st)(mi:MI rk a.toList b.toList out.toList ia ib)(la:ia+1<a.size)(lb:ib<b.size)(h:∀j,ia<=j->∀hj:j<a.size,rk b[ib]<=rk a[j])(hm:m<=ia+ib) :
  wpS (AM prog w) A E s (loMid a b mg k bc out ia ib) (λr ar=>match r with| .done c'=>E2 rk a b bm m c' ar| .yield c'=>Y2 rk a b bm m c' ar) st:=by
 have e8:ia<a.size:=qg la;unfold loMid;refine AN (BW lb ?_);have bE:=L.stepB mi lb h;by_cases c1:ib+1=b.size
 .rw[p6 (by rw[c1];exact beq_self_eq_true _)]
  exact AX ⟨g,.inl ⟨_,_,rfl,L.done bE (qK c1)⟩⟩
 .rw[pZ (by intro z;exact c1 (beq_iff_eq.mp z))]
  refine AN (BW e8 ?_);refine AN (Cy C (L.ga.at e8) L.gb (g.kind.trans kd) (vy lb) (by lia) (Et (Oq L.sb (vy lb))) λk' kn kt kf=>?_);dsimp only;have t1:∀i,ib+1<=i->i<ib+1+k'->∀hi:i<b.size,rk b[i]<rk a[ia]:=λi i1 i2 hi=>by
   have z:=kt (i-(ib+1)) (sV i2 i1);rw[Ez (vA i1 hi)] at z;have e:ib+1+(i-(ib+1))=i:=rf i1;simp only[e] at z;exact qA z
  have t2:∀j,ib+1+k'<=j->∀hj:j<b.size,rk a[ia]<=rk b[j]:=λi i1 hi=>by
   have z:=kf (i-(ib+1)) (sX i1) (vB hi i1);rw[Ez (vC i1 hi)] at z;have e:ib+1+(i-(ib+1))=i:=sY i1;simp only[e] at z;exact IG.mp (of_decide_eq_false z)
  by_cases c2:k'>0
  .rw[p6 c2]
   have fg:=L.manyB (k:=k') bE λi i1 i2 hi j j1 hj=>Ev (E3 (t1 i i1 i2 hi)) (Eo L.sa j1 hj);by_cases c3:ib+1+k'=b.size
   .rw[p6 (by rw[c3];exact beq_self_eq_true _)]
    exact AX ⟨g,.inl ⟨_,_,rfl,L.done fg (qK c3)⟩⟩
   .rw[pZ (by intro z;exact c3 (beq_iff_eq.mp z))]
    exact MN L g fg la (by lia) t2 (by lia)
  .rw[pZ c2]
   have:k'=0:=vD c2;subst this;exact MN L g bE la (rA lb c1) t2 (by lia)
theorem NQ(C:Cmp prog w A E s κ G rk)(L:Lo G rk a b){mg:Nat}(kd:kindOf bm=κ)(g:Gx bm st)(at_:At rk a b out ia ib)(hm:m<=ia+ib) :
  wpS (AM prog w) A E s (loGal a b mg ac bc out ia ib) (λr ar=>match r with| .done c'=>E2 rk a b bm m c' ar| .yield c'=>Y2 rk a b bm m c' ar) st:=by
 obtain⟨mi,la,lb⟩:=at_;have e8:ia<a.size:=qg la;unfold loGal;refine AN (setMin ?_);have g':=QZ g mg;generalize IH (kindOf st) (AR st) (BC st) mg (FI st)=st1 at g';refine AN (BW lb ?_);refine AN (Cy C (L.gb.at lb) L.ga (g'.kind.trans kd) (vE la) (by lia) (Et (Oq L.sa (vE la))) λk kn kt kf=>?_);dsimp only;have t1:∀i,ia<=i->i<ia+k->∀hi:i<a.size,rk a[i]<=rk b[ib]:=λi i1 i2 hi=>by
  have z:=kt (i-ia) (sV i2 i1);rw[Dy (vA i1 hi)] at z;have e:ia+(i-ia)=i:=rf i1;simp only[e] at z;refine IG.mp λy=>?_;rw[p7 y] at z;cases z
 have t2:∀j,ia+k<=j->∀hj:j<a.size,rk b[ib]<=rk a[j]:=λi i1 hi=>by
  have z:=kf (i-ia) (sX i1) (vB hi i1);rw[Dy (vC i1 hi)] at z;have e:ia+(i-ia)=i:=sY i1;simp only[e] at z;have z':decide (rk b[ib]<rk a[i])=true:=by
   cases q:decide (rk b[ib]<rk a[i]) with
   | true=>rfl
   | false=>rw[q] at z;cases z
  exact E3 (qA z')
 by_cases c2:k>0
 .rw[p6 c2]
  have fg:=L.manyA (k:=k) mi λi i1 i2 hi j j1 hj=>Ev (t1 i i1 i2 hi) (Eo L.sb j1 hj);by_cases c3:ia+k+1=a.size
  .rw[p6 (by rw[c3];exact beq_self_eq_true _)]
   exact AX ⟨g',.inl ⟨_,_,rfl,L.last fg c3⟩⟩
  .rw[pZ (by intro z;exact c3 (beq_iff_eq.mp z))]
   by_cases c4:ia+k=a.size
   .rw[p6 (by rw[c4];exact beq_self_eq_true _)]
    exact AX ⟨g',.inl ⟨_,_,rfl,L.doneA fg (qK c4)⟩⟩
   .rw[pZ (by intro z;exact c4 (beq_iff_eq.mp z))]
    exact Mh C L kd g' fg (by lia) lb t2 (uc hm)
 .rw[pZ c2]
  have:k=0:=vD c2;subst this;exact Mh C L kd g' mi la lb t2 hm
theorem Tp(C:Cmp prog w A E s κ G rk)(L:Lo G rk a b)(kd:kindOf st=κ)(a1:1<=a.size)(b1:1<=b.size)(hf:∀j,∀hj:j<a.size,rk b[0]<=rk a[j]){Q:Array AE->BA->Prop}(h:∀r ar,Gx st ar->Mg rk a.toList b.toList r.toList->Q r ar):wpS (AM prog w) A E s (Hz a b) Q st:=by
 rw[TX];refine AN (MH (G8 ⟨rfl,?_⟩));refine AN (BW b1 ?_);have mi0:MI rk a.toList b.toList (#[]:Array AE).toList 0 0:=⟨KF _,KM,λx hx=>(by cases hx),λx hx=>(by cases hx)⟩;have mi:=L.stepB mi0 b1 λj _ hj=>hf j hj;by_cases c1:1=b.size
 .rw[p6 (by rw[<- c1];rfl)]
  exact AX (h _ _ (Gx.refl _) (L.done mi (qK c1)))
 rw[pZ (by intro z;exact c1 (beq_iff_eq.mp z))];by_cases c2:0+1=a.size
 .rw[p6 (by rw[<- c2];rfl)]
  exact AX (h _ _ (Gx.refl _) (L.last mi c2))
 rw[pZ (by intro z;exact c2 (beq_iff_eq.mp z))];refine AN (JJ ?_);refine AN (D1 (Do (I:=λx c ar=>Gx st ar/\∃out ia ib mg,c=(pY,out,ia,ib,mg)/\At rk a b out ia ib/\x+1<=ia+ib)
  (Q:=λc ar=>Gx st ar/\∃x y,c=(pX x,y)/\Mg rk a.toList b.toList x.toList) ?_ ?_ ⟨Gx.refl _,_,_,_,_,rfl,⟨mi,by lia,sR b1 c1⟩,rG⟩) ?_)
 .rintro x c ar _ xn ⟨g,out,ia,ib,mg,rfl,at_,xm⟩
  dsimp only;refine AN (D1 (Do (I:=λy c ar=>Y1 rk a b st (x+1+y) c ar) (Q:=E1 rk a b st (x+2)) ?_ ?_ ⟨g,_,_,_,_,_,rfl,at_,vF xm⟩) ?_)
  .rintro y c a8 _ yn ⟨g2,out2,ia2,ib2,ac,bc,rfl,at2,hm⟩
   refine D1 (Yl C L kd g2 at2 hm) λr cm hr=>?_;cases r with
   | done c' =>
    obtain⟨g3,q⟩:=hr;refine⟨g3,q.imp id λ⟨o,i,j,k,l,e,a',b'⟩=>⟨o,i,j,k,l,e,a',by lia⟩⟩
   | yield c'=>exact hr
  .rintro c a8 ⟨g2,out2,ia2,ib2,ac,bc,rfl,at2,hm⟩
   exact⟨g2,.inr ⟨_,_,_,_,_,rfl,at2,by lia⟩⟩
  .rintro c a8 ⟨g2,⟨r,y,rfl,m⟩| ⟨out2,ia2,ib2,ac,bc,rfl,at2,hm⟩⟩
   .exact AX ⟨g2,_,_,rfl,m⟩
   .refine AN (MH (G8 ⟨rfl,?_⟩))
    refine AN (D1 (Do (I:=λy c ar=>Y2 rk a b st (x+2) c ar) (Q:=E2 rk a b st (x+2)) ?_ ?_ ⟨g2,_,_,_,_,_,_,rfl,at2,hm⟩) ?_)
    .rintro y c cm _ yn ⟨g3,out3,ia3,ib3,mg3,ac3,bc3,rfl,at3,hm3⟩
     split
     .exact D1 (NQ C L kd g3 at3 hm3) λr st4 hr=>by cases r<;>exact hr
     .exact D1 (NQ C L kd g3 at3 hm3) λr st4 hr=>by cases r<;>exact hr
    .rintro c cm ⟨g3,out3,ia3,ib3,mg3,ac3,bc3,rfl,at3,hm3⟩
     exact⟨g3,.inr ⟨_,_,_,_,_,_,rfl,at3,hm3⟩⟩
    .rintro c cm ⟨g3,⟨r,y,rfl,m⟩| ⟨out3,ia3,ib3,mg3,ac3,bc3,rfl,at3,hm3⟩⟩
     .exact AX ⟨g3,_,_,rfl,m⟩
     .refine AN (setMin (AX ⟨QZ g3 _,_,_,_,_,rfl,at3,by lia⟩))
 .rintro c ar ⟨g,out,ia,ib,mg,rfl,⟨_,la,lb⟩,xm⟩
  lia
 .rintro c ar ⟨g,x,y,rfl,m⟩
  exact AX (h _ _ g m)
end
variable{rk:AE->Int}{G:AE->Prop}
abbrev hiDone(a b out:Array AE)(na nb:Nat):Array AE:=a.extract 0 na++b.extract 0 nb++out.reverse
abbrev Gi(a b out:Array AE)(na nb:Nat):Array AE:=b.extract 0 nb++a.extract 0 na++out.reverse
abbrev T1:=Option (Array AE)×Nat×Nat×Array AE×Nat×Nat
abbrev T2:=Option (Array AE)×Nat×Nat×Array AE×Nat×Nat×Nat
abbrev T0:=Option (Array AE)×Nat×Nat×Array AE×Nat
def hiOne(a b:Array AE)(mg:Nat)(r:T1):StateT BA Sem (ForInStep T1):=do
 let y <- Dx b (r.2.2.1-1)
 let x <- Dx a (r.2.1-1)
 let c <- lt' y x
 match c with
 | some aWins =>
  if aWins=true then do
   let x <- Dx a (r.2.1-1)
   if(r.2.1-1==0)=true then
    pure (BH (pX (hiDone a b (r.2.2.2.1.push x) (r.2.1-1) r.2.2.1),r.2.1-1,r.2.2.1,r.2.2.2.1.push x,r.2.2.2.2.1+1,0))
   else if r.2.2.2.2.1+1 >= mg then
    pure (BH (pY,r.2.1-1,r.2.2.1,r.2.2.2.1.push x,r.2.2.2.2.1+1,0))
   else pure (CM (pY,r.2.1-1,r.2.2.1,r.2.2.2.1.push x,r.2.2.2.2.1+1,0))
  else do
   let y <- Dx b (r.2.2.1-1)
   if(r.2.2.1-1==1)=true then
    pure (BH (pX (Gi a b (r.2.2.2.1.push y) r.2.1 (r.2.2.1-1)),r.2.1,r.2.2.1-1,r.2.2.2.1.push y,0,r.2.2.2.2.2+1))
   else if r.2.2.2.2.2+1 >= mg then
    pure (BH (pY,r.2.1,r.2.2.1-1,r.2.2.2.1.push y,0,r.2.2.2.2.2+1))
   else pure (CM (pY,r.2.1,r.2.2.1-1,r.2.2.2.1.push y,0,r.2.2.2.2.2+1))
 | _=>pure (BH (pX (hiDone a b r.2.2.2.1 r.2.1 r.2.2.1),r.2.1,r.2.2.1,r.2.2.2.1,r.2.2.2.2.1,r.2.2.2.2.2))
def hiEnd(a b:Array AE)(mg ac bc:Nat)(out:Array AE)(na nb:Nat):StateT BA Sem (ForInStep T2):=do
 let x <- Dx a (na-1)
 if(na-1==0)=true then pure (BH (pX (hiDone a b (out.push x) (na-1) nb),na-1,nb,out.push x,mg,ac,bc))
 else if(decide (ac<7)&&decide (bc<7))=true then pure (BH (pY,na-1,nb,out.push x,mg,ac,bc))
 else pure (CM (pY,na-1,nb,out.push x,mg,ac,bc))
def hiMid(a b:Array AE)(mg k bc:Nat)(out:Array AE)(na nb:Nat):StateT BA Sem (ForInStep T2):=do
 let y <- Dx b (nb-1)
 if(nb-1==1)=true then pure (BH (pX (Gi a b (out.push y) na (nb-1)),na,nb-1,out.push y,mg,k,bc))
 else do
  let x <- Dx a (na-1)
  let r <- Ck true x b 0 (nb-1) (nb-1-1)
  match r with
  | some t =>
   if nb-1-t>0 then
    if(t==1)=true then pure (BH (pX (Gi a b (out.push y++(b.extract t (nb-1)).reverse) na t),na,t,out.push y++(b.extract t (nb-1)).reverse,mg,k,nb-1-t))
    else if(t==0)=true then pure (BH (pX (hiDone a b (out.push y++(b.extract t (nb-1)).reverse) na t),na,t,out.push y++(b.extract t (nb-1)).reverse,mg,k,nb-1-t))
    else hiEnd a b mg k (nb-1-t) (out.push y++(b.extract t (nb-1)).reverse) na t
   else hiEnd a b mg k (nb-1-t) (out.push y) na (nb-1)
  | _=>pure (BH (pX (hiDone a b (out.push y) na (nb-1)),na,nb-1,out.push y,mg,k,bc))
def hiGal(a b:Array AE)(mg ac bc:Nat)(out:Array AE)(na nb:Nat):StateT BA Sem (ForInStep T2):=do
 DW mg
 let y <- Dx b (nb-1)
 let r <- Ck false y a 0 na (na-1)
 match r with
 | some t =>
  if na-t>0 then
   if(t==0)=true then pure (BH (pX (hiDone a b (out++(a.extract t na).reverse) t nb),t,nb,out++(a.extract t na).reverse,mg,na-t,bc))
   else hiMid a b mg (na-t) bc (out++(a.extract t na).reverse) t nb
  else hiMid a b mg (na-t) bc out na nb
 | _=>pure (BH (pX (hiDone a b out na nb),na,nb,out,mg,ac,bc))
def Hh:Array AE->Array AE->StateT BA Sem (Array AE):=sortPriv% PySem.Builtin.mergeHi
theorem UJ(a b:Array AE):Hh a b=(do
 rule "list.sort.merge-hi"
 let total:=a.size+b.size
 let done (out:Array AE) (na nb:Nat):=a.extract 0 na++b.extract 0 nb++out.reverse
 let firstOfB (out:Array AE) (na nb:Nat):=b.extract 0 nb++a.extract 0 na++out.reverse
 let mut na:=a.size-1
 let mut nb:=b.size
 let mut out:Array AE:=#[<- Dx a na]
 if na==0 then return done out na nb
 if nb==1 then return firstOfB out na nb
 let mut minGallop:=QP (<- get)
 for _ in [0:total] do
  let mut acount:=0
  let mut bcount:=0
  for _ in [0:total] do
   let pX aWins <- lt' (<- Dx b (nb-1)) (<- Dx a (na-1))| return done out na nb
   if aWins then
    na:=na-1;out:=out.push (<- Dx a na);acount:=acount+1;bcount:=0
    if na==0 then return done out na nb
    if acount >= minGallop then break
   else
    nb:=nb-1;out:=out.push (<- Dx b nb);bcount:=bcount+1;acount:=0
    if nb==1 then return firstOfB out na nb
    if bcount >= minGallop then break
  rule "list.sort.gallop"
  minGallop:=minGallop+1
  for _ in [0:total] do
   if minGallop>1 then minGallop:=minGallop-1
   DW minGallop
   let pX at_ <- Ck false (<- Dx b (nb-1)) a 0 na (na-1)| return done out na nb
   let k:=na-at_
   acount:=k
   if k>0 then
    out:=out++(a.extract at_ na).reverse;na:=at_
    if na==0 then return done out na nb
   nb:=nb-1;out:=out.push (<- Dx b nb)
   if nb==1 then return firstOfB out na nb
   let pX at_ <- Ck true (<- Dx a (na-1)) b 0 nb (nb-1)| return done out na nb
   let k:=nb-at_
   bcount:=k
   if k>0 then
    out:=out++(b.extract at_ nb).reverse;nb:=at_
    if nb==1 then return firstOfB out na nb
    if nb==0 then return done out na nb
   na:=na-1;out:=out.push (<- Dx a na)
   if na==0 then return done out na nb
   if acount<7&&bcount<7 then break
  minGallop:=minGallop+1
  DW minGallop
 unsupported "internal:list.sort.merge-bound"):=rfl
theorem Qv(a b:Array AE):Hh a b=(do
 liftM (rule "list.sort.merge-hi")
 let x <- Dx a (a.size-1)
 if(a.size-1==0)=true then pure (hiDone a b #[x] (a.size-1) b.size)
 else if(b.size==1)=true then pure (Gi a b #[x] (a.size-1) b.size)
 else do
  let g <- get
  let r <- forIn [0:a.size+b.size] ((pY,a.size-1,b.size,#[x],QP g):T0) λ_ r0=>do
   let r1 <- forIn [0:a.size+b.size] ((pY,r0.2.1,r0.2.2.1,r0.2.2.2.1,0,0):T1) λ_ r=>hiOne a b r0.2.2.2.2 r
   match r1.1 with
   | some x=>pure (BH ((pX x,r1.2.1,r1.2.2.1,r1.2.2.2.1,r0.2.2.2.2):T0))
   | none=>do
    liftM (rule "list.sort.gallop")
    let r2 <- forIn [0:a.size+b.size] ((pY,r1.2.1,r1.2.2.1,r1.2.2.2.1,r0.2.2.2.2+1,r1.2.2.2.2.1,r1.2.2.2.2.2):T2) λ_ r =>
     if r.2.2.2.2.1>1 then hiGal a b (r.2.2.2.2.1-1) r.2.2.2.2.2.1 r.2.2.2.2.2.2 r.2.2.2.1 r.2.1 r.2.2.1
     else hiGal a b r.2.2.2.2.1 r.2.2.2.2.2.1 r.2.2.2.2.2.2 r.2.2.2.1 r.2.1 r.2.2.1
    match r2.1 with
    | some x=>pure (BH ((pX x,r2.2.1,r2.2.2.1,r2.2.2.2.1,r2.2.2.2.2.1):T0))
    | none=>do
     DW (r2.2.2.2.2.1+1)
     pure (CM ((pY,r2.2.1,r2.2.2.1,r2.2.2.2.1,r2.2.2.2.2.1+1):T0))
  match r.1 with
  | some x=>pure x
  | none=>unsupported "internal:list.sort.merge-bound"):=by
 rw[UJ];dsimp only
 congr 1
 funext _
 congr 1
 funext y
 refine ifc rfl (ifc rfl ?_)
 congr 1
 funext g
 congr 1
 .congr 1
  funext x r0
  congr 1
  funext r1
  obtain⟨o1,r1⟩:=r1;cases o1 with
  | some x=>rfl
  | none =>
   dsimp only
   congr 1
   funext u
   congr 1
   funext r2
   obtain⟨o2,r2⟩:=r2;cases o2<;>rfl
 .funext r
  obtain⟨o,r⟩:=r;cases o<;>rfl
variable{rk:AE->Int}{G:AE->Prop}
abbrev nk(rk:AE->Int):AE->Int:=λx=>- rk x
theorem Ug{a b l q:List AE}(m:Mg (nk rk) b.reverse a.reverse l)(e:q=l.reverse):Mg rk a b q:=by
 obtain⟨p,sr⟩:=m;subst e;refine⟨(NC l).trans (p.trans ?_),?_⟩
 .exact(((NC b).append (NC a))).trans FA
 .exact P3.mpr (sr.imp λ{x y} h=>by
   have:- rk x<=- rk y:=h;lia)
theorem Dg{a:Array AE}(h:n<=a.size):a.toList.reverse.drop (a.size-n)=(a.toList.take n).reverse:=by
 rw[List.drop_reverse]
 congr 2
 simp;exact uH h
section
variable{a b:Array AE}
def HAt(rk:AE->Int)(a b out:Array AE)(na nb:Nat):Prop:=MI (nk rk) b.toList.reverse a.toList.reverse out.toList (b.size-nb) (a.size-na)/\na<=a.size/\nb<=b.size
structure Hi(G:AE->Prop)(rk:AE->Int)(a b:Array AE):Prop where
 ga:Al G a
 gb:Al G b
 sa:Srt rk a.toList
 sb:Srt rk b.toList
 hf:∀j,∀hj:j<a.size,∀h0:0<b.size,rk b[0]<=rk a[j]
theorem Fb{l:List AE}(h:Srt rk l):Srt (nk rk) l.reverse:=P3.mpr (h.imp λ{x y} h=>by show-rk y<=- rk x;exact t8 h)
theorem Ew{a:Array AE}{z:AE}(hn:n<=a.size)(h:z∈a.toList.reverse.drop (a.size-n)):∃j,j<n/\∃hj:j<a.size,z=a[j]:=by
 rw[Dg hn] at h;have h':=HM.mp h;obtain⟨k,hk,e⟩:=CC.mp h';rw[BS] at hk;have:a.toList.length=a.size:=by simp
 refine⟨k,sM hk,by lia,?_⟩;rw[<- e,IQ];simp
theorem rtake{a:Array AE}{t:Nat}(hn:n<=a.size)(ht:t<=n):(a.toList.reverse.drop (a.size-n)).take (n-t)=((a.toList.drop t).take (n-t)).reverse:=by
 rw[Dg hn,List.take_reverse]
 congr 1
 have:a.toList.length=a.size:=by simp
 rw[BS,show min n a.toList.length-(n-t)=t by lia,List.drop_take]
theorem TF{a:Array AE}{t:Nat}(hn:n<=a.size)(ht:t<=n):(out++(a.extract t n).reverse).toList=out.toList++(a.toList.reverse.drop (a.size-n)).take (n-t):=by
 rw[rtake hn ht,C5,J3,FK]
theorem Og{a:Array AE}(h1:1<=n)(hn:n<=a.size):(out.push (a[n-1]'(qr h1 hn))).toList=out.toList++(a.toList.reverse.drop (a.size-n)).take 1:=by
 have:=rtake (a:=a) (n:=n) (t:=n-1) hn qI;rw[show n-(n-1)=1 from uH h1] at this;rw[this,IR]
 congr 1
 have hl:n-1<a.toList.length:=by simp;exact qr h1 hn
 rw[NL hl,My,P0];simp
theorem Hi.stepA(L:Hi G rk a b)(m:HAt rk a b out na nb)(h1:1<=na)(h:∀j,j<nb->∀hj:j<b.size,rk b[j]<=rk (a[na-1]'(by have:=m.2.1;exact qr h1 this))):HAt rk a b (out.push (a[na-1]'(by have:=m.2.1;exact qr h1 this))) (na-1) nb:=by
 obtain⟨mi,ha,hb⟩:=m;refine⟨?_,tN ha,hb⟩;rw[Og h1 ha,show a.size-(na-1)=a.size-na+1 from vf ha h1];refine mi.takeB (Fb L.sa) 1 λy hy z hz=>?_;rw[show(1:Nat)=na-(na-1) from vg h1,rtake ha qI] at hy;obtain⟨j,j1,j2,hj,rfl⟩:=CK (HM.mp hy);have:j=na-1:=vh j2 j1;subst this;obtain⟨i,i1,hi,rfl⟩:=Ew hb hz;have:=h i i1 hi;show-_<=- _;lia
theorem Hi.stepB(L:Hi G rk a b)(m:HAt rk a b out na nb)(h1:1<=nb)(h:∀j,j<na->∀hj:j<a.size,rk a[j]<=rk (b[nb-1]'(by have:=m.2.2;exact qr h1 this))):HAt rk a b (out.push (b[nb-1]'(by have:=m.2.2;exact qr h1 this))) na (nb-1):=by
 obtain⟨mi,ha,hb⟩:=m;refine⟨?_,ha,tN hb⟩;rw[Og h1 hb,show b.size-(nb-1)=b.size-nb+1 from vf hb h1];refine mi.takeA (Fb L.sb) 1 λy hy z hz=>?_;rw[show(1:Nat)=nb-(nb-1) from vg h1,rtake hb qI] at hy;obtain⟨j,j1,j2,hj,rfl⟩:=CK (HM.mp hy);have:j=nb-1:=vh j2 j1;subst this;obtain⟨i,i1,hi,rfl⟩:=Ew ha hz;have:=h i i1 hi;show-_<=- _;lia
theorem Hi.manyA(L:Hi G rk a b){t:Nat}(m:HAt rk a b out na nb)(ht:t<=na)(h:∀i,t<=i->i<na->∀hi:i<a.size,∀j,j<nb->∀hj:j<b.size,rk b[j]<=rk a[i]):HAt rk a b (out++(a.extract t na).reverse) t nb:=by
 obtain⟨mi,ha,hb⟩:=m;refine⟨?_,rR ht ha,hb⟩;rw[TF ha ht,show a.size-t=a.size-na+(na-t) from vi ht ha];refine mi.takeB (Fb L.sa) _ λy hy z hz=>?_;rw[rtake ha ht] at hy;obtain⟨i,i1,i2,hi,rfl⟩:=CK (HM.mp hy);obtain⟨j,j1,hj,rfl⟩:=Ew hb hz;have:=h i i1 (vj i2 ht) hi j j1 hj;show-_<=- _;exact t8 this
theorem Hi.manyB(L:Hi G rk a b){t:Nat}(m:HAt rk a b out na nb)(ht:t<=nb)(h:∀i,t<=i->i<nb->∀hi:i<b.size,∀j,j<na->∀hj:j<a.size,rk a[j]<=rk b[i]):HAt rk a b (out++(b.extract t nb).reverse) na t:=by
 obtain⟨mi,ha,hb⟩:=m;refine⟨?_,ha,rR ht hb⟩;rw[TF hb ht,show b.size-t=b.size-nb+(nb-t) from vi ht hb];refine mi.takeA (Fb L.sb) _ λy hy z hz=>?_;rw[rtake hb ht] at hy;obtain⟨i,i1,i2,hi,rfl⟩:=CK (HM.mp hy);obtain⟨j,j1,hj,rfl⟩:=Ew ha hz;have:=h i i1 (vj i2 ht) hi j j1 hj;show-_<=- _;exact t8 this
theorem Gk(a:Array AE)(n:Nat):(a.extract 0 n).toList=a.toList.take n:=by
 rw[FK];simp[Sz]
theorem Hi.doneA(L:Hi G rk a b)(m:HAt rk a b out na nb)(z:na=0):Mg rk a.toList b.toList (hiDone a b out na nb).toList:=by
 subst z;obtain⟨mi,ha,hb⟩:=m;refine Ug (mi.doneB (Fb L.sb) (by simp)) ?_;rw[Dg hb,Dg ha];unfold hiDone;rw[C5,C5,J3,Gk,Gk,F5,F5,FL,FL,CL]
theorem Hi.doneB(L:Hi G rk a b)(m:HAt rk a b out na nb)(z:nb=0):Mg rk a.toList b.toList (hiDone a b out na nb).toList:=by
 subst z;obtain⟨mi,ha,hb⟩:=m;refine Ug (mi.doneA (Fb L.sa) (by simp)) ?_;rw[Dg hb,Dg ha];unfold hiDone;rw[C5,C5,J3,Gk,Gk,F5,F5,FL,FL,CL]
theorem Hi.first(L:Hi G rk a b)(m:HAt rk a b out na nb)(z:nb=1):Mg rk a.toList b.toList (Gi a b out na nb).toList:=by
 subst z;obtain⟨mi,ha,hb⟩:=m;refine Ug (mi.last (Fb L.sa) (by simp;exact tT hb) λy hy z hz=>?_) ?_
 .obtain⟨j,j1,hj,rfl⟩:=Ew hb hz
  have:j=0:=by lia
  subst this;obtain⟨i,hi,rfl⟩:=CC.mp (HM.mp hy);have bh:i<a.size:=by simpa using hi
  have:=L.hf i bh hj;simp;exact this
 .rw[Dg hb,Dg ha]
  unfold Gi;rw[C5,C5,J3,Gk,Gk,F5,F5,FL,FL,CL]
def F1(rk:AE->Int)(a b:Array AE)(st:BA)(m:Nat)(r:T1)(ar:BA):Prop:=Gx st ar/\((∃x y,r=(pX x,y)/\Mg rk a.toList b.toList x.toList)\/∃out na nb ac bc,r=(pY,na,nb,out,ac,bc)/\HAt rk a b out na nb/\1<=na/\2<=nb/\na+nb+m<=a.size+b.size)
def F2(rk:AE->Int)(a b:Array AE)(st:BA)(m:Nat)(r:T2)(ar:BA):Prop:=Gx st ar/\((∃x y,r=(pX x,y)/\Mg rk a.toList b.toList x.toList)\/∃out na nb mg ac bc,r=(pY,na,nb,out,mg,ac,bc)/\HAt rk a b out na nb/\1<=na/\2<=nb/\na+nb+m<=a.size+b.size)
def Z1(rk:AE->Int)(a b:Array AE)(st:BA)(m:Nat)(r:T1)(ar:BA):Prop:=Gx st ar/\∃out na nb ac bc,r=(pY,na,nb,out,ac,bc)/\HAt rk a b out na nb/\1<=na/\2<=nb/\na+nb+m<=a.size+b.size
def Z2(rk:AE->Int)(a b:Array AE)(st:BA)(m:Nat)(r:T2)(ar:BA):Prop:=Gx st ar/\∃out na nb mg ac bc,r=(pY,na,nb,out,mg,ac,bc)/\HAt rk a b out na nb/\1<=na/\2<=nb/\na+nb+m<=a.size+b.size
theorem YQ(C:Cmp prog w A E s κ G rk)(L:Hi G rk a b){mg:Nat}(kd:kindOf bm=κ)(g:Gx bm st)(at_:HAt rk a b out na nb)(n1:1<=na)(n2:2<=nb)(hm:na+nb+m<=a.size+b.size) :
  wpS (AM prog w) A E s (hiOne a b mg (pY,na,nb,out,ac,bc)) (λr ar=>match r with| .done c'=>F1 rk a b bm (m+1) c' ar| .yield c'=>Z1 rk a b bm (m+1) c' ar) st:=by
 obtain⟨_,ha,hb⟩:=id at_;have la:na-1<a.size:=qr n1 ha;have lb:nb-1<b.size:=sT n2 hb;unfold hiOne;dsimp only;refine AN (BW lb (AN (BW la (AN (C _ _ (L.gb.at lb) (L.ga.at la) st _ (g.kind.trans kd) ?_)))));by_cases c:rk b[nb-1]<rk a[na-1]
 .rw[p7 c]
  dsimp only;rw[p6 rfl];refine AN (BW la ?_);have bE:=L.stepA at_ n1 λj j1 hj=>Ev (Eo L.sb (show j<=nb-1 from rJ j1) lb) (E3 c);by_cases c1:na-1=0
  .rw[p6 (by rw[c1];rfl)]
   exact AX ⟨g,.inl ⟨_,_,rfl,L.doneA bE c1⟩⟩
  .rw[pZ (by intro z;exact c1 (beq_iff_eq.mp z))]
   by_cases c2:ac+1 >= mg
   .rw[p6 c2]
    exact AX ⟨g,.inr ⟨_,_,_,_,_,rfl,bE,rK c1,n2,vk hm n1⟩⟩
   .rw[pZ c2]
    exact AX ⟨g,_,_,_,_,_,rfl,bE,rK c1,n2,vk hm n1⟩
 .rw[p8 c]
  dsimp only;rw[pZ (by decide)];refine AN (BW lb ?_);have bE:=L.stepB at_ (sZ n2) λj j1 hj=>Ev (Eo L.sa (show j<=na-1 from rJ j1) la) (IG.mp c);by_cases c1:nb-1=1
  .rw[p6 (by rw[c1];rfl)]
   exact AX ⟨g,.inl ⟨_,_,rfl,L.first bE c1⟩⟩
  .rw[pZ (by intro z;exact c1 (beq_iff_eq.mp z))]
   by_cases c2:bc+1 >= mg
   .rw[p6 c2]
    exact AX ⟨g,.inr ⟨_,_,_,_,_,rfl,bE,n1,t9 n2 c1,vn n2 hm⟩⟩
   .rw[pZ c2]
    exact AX ⟨g,_,_,_,_,_,rfl,bE,n1,t9 n2 c1,vn n2 hm⟩
theorem Mi(L:Hi G rk a b){mg:Nat}(g:Gx bm st)(at_:HAt rk a b out na nb)(n1:1<=na)(n2:2<=nb)(h:∀j,j<nb->∀hj:j<b.size,rk b[j]<=rk (a[na-1]'(by have:=at_.2.1;exact qr n1 this)))(hm:na+nb+m<=a.size+b.size) :
  wpS (AM prog w) A E s (hiEnd a b mg ac bc out na nb) (λr ar=>match r with| .done c'=>F2 rk a b bm m c' ar| .yield c'=>Z2 rk a b bm m c' ar) st:=by
 obtain⟨_,ha,hb⟩:=id at_;have la:na-1<a.size:=qr n1 ha;unfold hiEnd;refine AN (BW la ?_);have bE:=L.stepA at_ n1 h;by_cases c1:na-1=0
 .rw[p6 (by rw[c1];rfl)]
  exact AX ⟨g,.inl ⟨_,_,rfl,L.doneA bE c1⟩⟩
 .rw[pZ (by intro z;exact c1 (beq_iff_eq.mp z))]
  by_cases c2:(decide (ac<7)&&decide (bc<7))=true
  .rw[p6 c2]
   exact AX ⟨g,.inr ⟨_,_,_,_,_,_,rfl,bE,rK c1,n2,vo hm⟩⟩
  .rw[pZ c2]
   exact AX ⟨g,_,_,_,_,_,_,rfl,bE,rK c1,n2,vo hm⟩
theorem Nk(C:Cmp prog w A E s κ G rk)(L:Hi G rk a b){mg k:Nat}(kd:kindOf bm=κ)(g:Gx bm st)(at_:HAt rk a b out na nb)(n1:1<=na)(n2:2<=nb)(h:∀j,j<na->∀hj:j<a.size,rk a[j]<=rk (b[nb-1]'(by have:=at_.2.2;exact sT n2 this)))(hm:na+nb+m<=a.size+b.size) :
  wpS (AM prog w) A E s (hiMid a b mg k bc out na nb) (λr ar=>match r with| .done c'=>F2 rk a b bm m c' ar| .yield c'=>Z2 rk a b bm m c' ar) st:=by
 obtain⟨_,ha,hb⟩:=id at_;have la:na-1<a.size:=qr n1 ha;have lb:nb-1<b.size:=sT n2 hb;unfold hiMid;refine AN (BW lb ?_);have bE:=L.stepB at_ (sZ n2) h;by_cases c1:nb-1=1
 .rw[p6 (by rw[c1];rfl)]
  exact AX ⟨g,.inl ⟨_,_,rfl,L.first bE c1⟩⟩
 .rw[pZ (by intro z;exact c1 (beq_iff_eq.mp z))]
  refine AN (BW la ?_);refine AN (Cy C (L.ga.at la) L.gb (g.kind.trans kd) (vp lb) (by lia) (Et (Oq L.sb (vp lb))) λt kn kt kf=>?_);dsimp only;have t1:∀i,i<t->∀hi:i<b.size,rk b[i]<rk a[na-1]:=λi i1 hi=>by
   have z:=kt i i1;rw[Ez (sU hi)] at z;simp only[Kb] at z;exact qA z
  have t2:∀j,t<=j->j<nb-1->∀hj:j<b.size,rk a[na-1]<=rk b[j]:=λi i1 i2 hi=>by
   have z:=kf i i1 i2;rw[Ez (sU hi)] at z;simp only[Kb] at z;exact IG.mp (of_decide_eq_false z)
  by_cases c2:nb-1-t>0
  .rw[p6 c2]
   have fg:=L.manyB (t:=t) bE kn λi i1 i2 hi j j1 hj=>Ev (Eo L.sa (show j<=na-1 from rJ j1) la) (t2 i i1 i2 hi);by_cases c3:t=1
   .rw[p6 (by rw[c3];rfl)]
    exact AX ⟨g,.inl ⟨_,_,rfl,L.first fg c3⟩⟩
   .rw[pZ (by intro z;exact c3 (beq_iff_eq.mp z))]
    by_cases c4:t=0
    .rw[p6 (by rw[c4];rfl)]
     exact AX ⟨g,.inl ⟨_,_,rfl,L.doneB fg c4⟩⟩
    .rw[pZ (by intro z;exact c4 (beq_iff_eq.mp z))]
     exact Mi L g fg n1 (by lia) (λj j1 hj=>E3 (t1 j j1 hj)) (by lia)
  .rw[pZ c2]
   exact Mi L g bE n1 (t9 n2 c1) (λj j1 hj=>E3 (t1 j (vq j1 c2) hj)) (by lia)
theorem Ng(C:Cmp prog w A E s κ G rk)(L:Hi G rk a b){mg:Nat}(kd:kindOf bm=κ)(g:Gx bm st)(at_:HAt rk a b out na nb)(n1:1<=na)(n2:2<=nb)(hm:na+nb+m<=a.size+b.size) :
  wpS (AM prog w) A E s (hiGal a b mg ac bc out na nb) (λr ar=>match r with| .done c'=>F2 rk a b bm m c' ar| .yield c'=>Z2 rk a b bm m c' ar) st:=by
 obtain⟨_,ha,hb⟩:=id at_;have lb:nb-1<b.size:=sT n2 hb;unfold hiGal;refine AN (setMin ?_);have g':=QZ g mg;generalize IH (kindOf st) (AR st) (BC st) mg (FI st)=st1 at g';refine AN (BW lb ?_);refine AN (Cy C (L.gb.at lb) L.ga (g'.kind.trans kd) (vt ha) (sf n1) (Et (Oq L.sa (vt ha))) λt kn kt kf=>?_);dsimp only;have t1:∀i,i<t->∀hi:i<a.size,rk a[i]<=rk b[nb-1]:=λi i1 hi=>by
  have z:=kt i i1;rw[Dy (sU hi)] at z;simp only[Kb] at z;refine IG.mp λy=>?_;rw[p7 y] at z;cases z
 have t2:∀j,t<=j->j<na->∀hj:j<a.size,rk b[nb-1]<=rk a[j]:=λi i1 i2 hi=>by
  have z:=kf i i1 i2;rw[Dy (sU hi)] at z;simp only[Kb] at z;have z':decide (rk b[nb-1]<rk a[i])=true:=by
   cases q:decide (rk b[nb-1]<rk a[i]) with
   | true=>rfl
   | false=>rw[q] at z;cases z
  exact E3 (qA z')
 by_cases c2:na-t>0
 .rw[p6 c2]
  have fg:=L.manyA (t:=t) at_ kn λi i1 i2 hi j j1 hj=>Ev (Eo L.sb (show j<=nb-1 from rJ j1) lb) (t2 i i1 i2 hi);by_cases c3:t=0
  .rw[p6 (by rw[c3];rfl)]
   exact AX ⟨g',.inl ⟨_,_,rfl,L.doneA fg c3⟩⟩
  .rw[pZ (by intro z;exact c3 (beq_iff_eq.mp z))]
   exact Nk C L kd g' fg (rK c3) n2 (λj j1 hj=>t1 j j1 hj) (by lia)
 .rw[pZ c2]
  exact Nk C L kd g' at_ n1 n2 (λj j1 hj=>t1 j (vq j1 c2) hj) hm
theorem TV(C:Cmp prog w A E s κ G rk)(L:Hi G rk a b)(kd:kindOf st=κ)(a1:1<=a.size)(b1:1<=b.size)(hl:∀j,∀hj:j<b.size,rk b[j]<=rk (a[a.size-1]'(sf a1))){Q:Array AE->BA->Prop}(h:∀r ar,Gx st ar->Mg rk a.toList b.toList r.toList->Q r ar):wpS (AM prog w) A E s (Hh a b) Q st:=by
 rw[Qv];refine AN (MH (G8 ⟨rfl,?_⟩));refine AN (BW (sf a1) ?_);have mi0:HAt rk a b #[] a.size b.size:=⟨by
  rw[HH,HH];exact⟨FA.trans FA,KM,λx hx=>(by cases hx),λx hx=>(by cases hx)⟩,AH _,AH _⟩
 have mi:=L.stepA mi0 a1 λj _ hj=>hl j hj;by_cases c1:a.size-1=0
 .rw[p6 (by rw[c1];rfl)]
  exact AX (h _ _ (Gx.refl _) (L.doneA mi c1))
 rw[pZ (by intro z;exact c1 (beq_iff_eq.mp z))];by_cases c2:b.size=1
 .rw[p6 (by rw[c2];rfl)]
  exact AX (h _ _ (Gx.refl _) (L.first mi c2))
 rw[pZ (by intro z;exact c2 (beq_iff_eq.mp z))];refine AN (JJ ?_);refine AN (D1 (Do (I:=λx c ar=>Gx st ar/\∃out na nb mg,c=(pY,na,nb,out,mg)/\HAt rk a b out na nb/\1<=na/\2<=nb/\na+nb+(x+1)<=a.size+b.size)
  (Q:=λc ar=>Gx st ar/\∃x y,c=(pX x,y)/\Mg rk a.toList b.toList x.toList) ?_ ?_ ⟨Gx.refl _,_,_,_,_,rfl,mi,rK c1,by lia,by lia⟩) ?_)
 .rintro x c ar _ xn ⟨g,out,na,nb,mg,rfl,at_,n1,n2,xm⟩
  dsimp only;refine AN (D1 (Do (I:=λy c ar=>Z1 rk a b st (x+1+y) c ar) (Q:=F1 rk a b st (x+2)) ?_ ?_ ⟨g,_,_,_,_,_,rfl,at_,n1,n2,by lia⟩) ?_)
  .rintro y c a8 _ yn ⟨g2,out2,na2,nb2,ac,bc,rfl,at2,m1,m2,hm⟩
   refine D1 (YQ C L kd g2 at2 m1 m2 hm) λr cm hr=>?_;cases r with
   | done c' =>
    obtain⟨g3,q⟩:=hr;refine⟨g3,q.imp id λ⟨o,i,j,k,l,e,a',b',c',d'⟩=>⟨o,i,j,k,l,e,a',b',c',by lia⟩⟩
   | yield c'=>exact hr
  .rintro c a8 ⟨g2,out2,na2,nb2,ac,bc,rfl,at2,m1,m2,hm⟩
   exact⟨g2,.inr ⟨_,_,_,_,_,rfl,at2,m1,m2,by lia⟩⟩
  .rintro c a8 ⟨g2,⟨r,y,rfl,m⟩| ⟨out2,na2,nb2,ac,bc,rfl,at2,m1,m2,hm⟩⟩
   .exact AX ⟨g2,_,_,rfl,m⟩
   .refine AN (MH (G8 ⟨rfl,?_⟩))
    refine AN (D1 (Do (I:=λy c ar=>Z2 rk a b st (x+2) c ar) (Q:=F2 rk a b st (x+2)) ?_ ?_ ⟨g2,_,_,_,_,_,_,rfl,at2,m1,m2,hm⟩) ?_)
    .rintro y c cm _ yn ⟨g3,out3,na3,nb3,mg3,ac3,bc3,rfl,at3,k1,k2,hm3⟩
     split
     .exact D1 (Ng C L kd g3 at3 k1 k2 hm3) λr st4 hr=>by cases r<;>exact hr
     .exact D1 (Ng C L kd g3 at3 k1 k2 hm3) λr st4 hr=>by cases r<;>exact hr
    .rintro c cm ⟨g3,out3,na3,nb3,mg3,ac3,bc3,rfl,at3,k1,k2,hm3⟩
     exact⟨g3,.inr ⟨_,_,_,_,_,_,rfl,at3,k1,k2,hm3⟩⟩
    .rintro c cm ⟨g3,⟨r,y,rfl,m⟩| ⟨out3,na3,nb3,mg3,ac3,bc3,rfl,at3,k1,k2,hm3⟩⟩
     .exact AX ⟨g3,_,_,rfl,m⟩
     .refine AN (setMin (AX ⟨QZ g3 _,_,_,_,_,rfl,at3,k1,k2,by lia⟩))
 .rintro c ar ⟨g,out,na,nb,mg,rfl,at_,n1,n2,xm⟩
  lia
 .rintro c ar ⟨g,x,y,rfl,m⟩
  exact AX (h _ _ g m)
end
variable{rk:AE->Int}{G:AE->Prop}
def lay(arr:Array AE)(sa:Nat)(r:Array AE):Array AE:=r.toList.zipIdx.foldl (λa (p,j)=>a.setIfInBounds (sa+j) p) arr
theorem Ri(sa:Nat):∀(l:List AE) (k:Nat) (arr:Array AE),sa+k+l.length<=arr.size->∀q:Nat,
  ((l.zipIdx k).foldl (λa (x:AE×Nat)=>a.setIfInBounds (sa+x.2) x.1) arr).size=arr.size/\((l.zipIdx k).foldl (λa (x:AE×Nat)=>a.setIfInBounds (sa+x.2) x.1) arr)[q]?=if sa+k<=q/\q<sa+k+l.length then l[q-(sa+k)]? else arr[q]?
 | [],k,arr,h,q=>by
  refine⟨rfl,?_⟩;rw[pZ (by simp)];rfl
 | x::l,k,arr,h,q=>by
  rw[DE] at h;rw[List.zipIdx_cons,ON];have ih:=Ri sa l (k+1) (arr.setIfInBounds (sa+k) x) (by rw[HL];lia) q;refine⟨ih.1.trans HL,ih.2.trans ?_⟩;rw[DE];by_cases c:sa+k<=q/\q<sa+k+(l.length+1)
  .rw[p6 c]
   by_cases d:q=sa+k
   .subst d
    rw[pZ (by lia),Array.getElem?_setIfInBounds_self_of_lt (by lia)];simp
   .rw[p6 (by lia),show q-(sa+k)=(q-(sa+(k+1)))+1 by lia,List.getElem?_cons_succ]
  .rw[pZ c,pZ (by lia),Array.getElem?_setIfInBounds_ne (by lia)]
theorem Pk{r:Array AE}(h:sa+r.size<=arr.size)(q:Nat):(lay arr sa r)[q]?=if sa<=q/\q<sa+r.size then r[q-sa]? else arr[q]?:=by
 have:=(Ri sa r.toList 0 arr (by simpa using h) q).2;unfold lay;simpa using this
theorem Zn{r:Array AE}{mid:Nat}(lm:lo<=mid)(mh:mid<=hi)(ha:hi<=arr.size)(p:r.toList.Perm ((arr.extract lo mid).toList++(arr.extract mid hi).toList)):(lay arr lo r).Perm arr:=by
 have rl:r.size=hi-lo:=by
  have:=p.length_eq;simp at this;lia
 have e:(lay arr lo r).toList=arr.toList.take lo++(r.toList++arr.toList.drop hi):=by
  apply FR;intro q;rw[BY,Pk (by lia)];by_cases c:q<lo
  .rw[pZ (u7 c),Bn (by simp;lia),FD c,BY]
  .rw[Cc (by simp;lia)]
   have e1:(arr.toList.take lo).length=lo:=by simp;lia
   rw[e1];by_cases d:q<hi
   .rw[p6 (by lia),Bn (by simp;lia),BY]
   .rw[pZ (by lia),Cc (by simp;lia),Sr,AZ,rl,BY]
    congr 1
    lia
 have e2:arr.toList=arr.toList.take lo++(((arr.extract lo mid).toList++(arr.extract mid hi).toList)++arr.toList.drop hi):=by
  have x1:(arr.extract lo mid).toList=(arr.toList.drop lo).take (mid-lo):=by rw[FK]
  have x2:(arr.extract mid hi).toList=(arr.toList.drop mid).take (hi-mid):=by rw[FK]
  rw[x1,x2,CL];have y2:(arr.toList.drop mid).take (hi-mid)++arr.toList.drop hi=arr.toList.drop mid:=by
   rw[show arr.toList.drop hi=(arr.toList.drop mid).drop (hi-mid) by rw[PY];congr 1;exact wa mh];exact Fu ..
  rw[y2];have y1:(arr.toList.drop lo).take (mid-lo)++arr.toList.drop mid=arr.toList.drop lo:=by
   rw[show arr.toList.drop mid=(arr.toList.drop lo).drop (mid-lo) by rw[PY];congr 1;exact wa lm];exact Fu ..
  rw[y1];exact(Fu ..).symm
 refine G4.mpr ?_;rw[e,e2];have e3:(VE lo arr.toList++(((arr.extract lo mid).toList++(arr.extract mid hi).toList)++arr.toList.drop hi)).take lo=VE lo arr.toList:=by rw[<- e2]
 have e4:(VE lo arr.toList++(((arr.extract lo mid).toList++(arr.extract mid hi).toList)++arr.toList.drop hi)).drop hi=arr.toList.drop hi:=by rw[<- e2]
 first
  | exact EJ _ (K8 _ p)
  | (rw[e3,e4];exact EJ _ (K8 _ p))
theorem FJ(h:Al G arr)(i j:Nat):Al G (arr.extract i j):=λk x e=>by
 rw[Array.getElem?_extract] at e;split at e
 .exact h _ x e
 .cases e
theorem srt_extract(h:Up rk arr i j)(hj:j<=arr.size):Srt rk (arr.extract i j).toList:=by
 unfold Srt;rw[Co];intro p q hp hq pq;simp at hp hq;have:=h (i+p) (i+q) qi (by lia) (by lia);rw[FQ (wb hp),FQ (wb hq)] at this;simpa using this
theorem ABS{k:Nat}(h:k<(arr.extract i j).size):(arr.extract i j)[k]=arr[i+k]'(by simp at h;lia):=by simp
def Ch(rk:AE->Int)(arr:Array AE):List (Nat×Nat×Nat)->Nat->Nat->Prop
 | [],lo,hi=>lo=hi
 | (s,n,_)::rest,lo,hi=>s=lo/\1<=n/\Up rk arr lo (lo+n)/\Ch rk arr rest (lo+n) hi
theorem Ch.le:∀{l:List (Nat×Nat×Nat)}{lo hi:Nat},Ch rk arr l lo hi->lo+l.length<=hi
 | [],lo,hi,h=>by have h':lo=hi:=h;simp;exact rE h'
 | (s,n,_)::rest,lo,hi,⟨_,h1,_,h⟩=>by have:=Ch.le h;simp;lia
theorem Up.congr(h:Up rk arr lo hi)(e:∀i,lo<=i->i<hi->gv[i]?=arr[i]?):Up rk gv lo hi:=λi j li ij jh=>by
 rw[El (e i li (qq ij jh)),El (e j (rR li ij) jh)];exact h i j li ij jh
theorem Ch.congr:∀{l:List (Nat×Nat×Nat)}{lo hi:Nat},Ch rk arr l lo hi->(∀i,lo<=i->i<hi->gv[i]?=arr[i]?)->Ch rk gv l lo hi
 | [],lo,hi,h,_=>h
 | (s,n,_)::rest,lo,hi,⟨e1,h1,u,h⟩,e=>by
  have le:=Ch.le h;exact⟨e1,h1,u.congr λi li il=>e i li (by lia),Ch.congr h λi li il=>e i (qy li) il⟩
theorem Ch.cut:∀{l m:List (Nat×Nat×Nat)}{lo hi:Nat},Ch rk arr (l++m) lo hi↔∃mid,Ch rk arr l lo mid/\Ch rk arr m mid hi
 | [],m,lo,hi=>⟨λh=>⟨lo,rfl,h⟩,λ⟨mid,e,h⟩=>by have e':lo=mid:=e;rw[e'];exact h⟩
 | (s,n,x)::l,m,lo,hi=>⟨λ⟨e1,h1,u,h⟩=>by
   obtain⟨mid,a,b⟩:=Ch.cut.mp h;exact⟨mid,⟨e1,h1,u,a⟩,b⟩,λ⟨mid,⟨e1,h1,u,a⟩,b⟩=>⟨e1,h1,u,Ch.cut.mpr ⟨mid,a,b⟩⟩⟩
variable{rk:AE->Int}{G:AE->Prop}
def Fw:Nat->StateT BA Sem Bool:=sortPriv% PySem.Builtin.mergeAt
abbrev Dw(st:BA)(p:Array (Nat×Nat×Nat)):BA:=IH (kindOf st) (AR st) p (QP st) (FI st)
theorem SJ(i:Nat):Fw i=(do
 let s <- get
 let (pX (sa,na,power),pX (sb,nb,_)):=((BC s)[i]?,(BC s)[i+1]?)| unsupported "internal:list.sort.pending"
 set (Dw s (((BC s).setIfInBounds i (sa,na+nb,power)).eraseIdxIfInBounds (i+1)))
 let pX k <- Ck false (<- Dx (AR s) sb) (AR s) sa na 0| return false
 let (sa,na):=(sa+k,na-k)
 if na==0 then return true
 let pX nb <- Ck true (<- Dx (AR s) (sa+na-1)) (AR s) sb nb (nb-1)| return false
 if nb==0 then return true
 let x:=(AR s).extract sa sb
 let y:=(AR s).extract sb (sb+nb)
 let merged <- if na<=nb then Hz x y else Hh x y
 modify λs=>US s (lay (AR s) sa merged)
 return (FI (<- get)).isNone):=rfl
theorem ACu{σ:Type}{M:VZ}{x:σ}{Q:PUnit->σ->Prop}{st:σ}(h:Q ⟨⟩ x):wpS M A E s (set x:StateT σ Sem PUnit) Q st:=by
 unfold wpS;rw[StateT.run_set];exact AC ⟨rfl,h⟩
theorem Qm(C:Cmp prog w A E s κ G rk)(B:Ba G rk κ a₀ st){pa sb pb:Nat}(hp1:(BC st)[i]?=pX (sa,na,pa))(iO:(BC st)[i+1]?=pX (sb,nb,pb))(kC:sb=sa+na)(n1:1<=na)(n2:1<=nb)(hz:sb+nb<=a₀.size)(ua:Up rk (AR st) sa (sa+na))(ub:Up rk (AR st) sb (sb+nb)){Q:Bool->BA->Prop}
  (h:∀ar,Ba G rk κ a₀ ar->BC ar=((BC st).setIfInBounds i (sa,na+nb,pa)).eraseIdxIfInBounds (i+1)->(∀q,q<sa\/sb+nb<=q->(AR ar)[q]?=(AR st)[q]?)->Up rk (AR ar) sa (sb+nb)->Q true ar):wpS (AM prog w) A E s (Fw i) Q st:=by
 have sz:=B.size;have al:=B.all.perm B.perm;rw[SJ];refine AN (JJ ?_);rw[hp1,iO];dsimp only;refine AN (ACu ?_);have B1:Ba G rk κ a₀ (Dw st (((BC st).setIfInBounds i (sa,na+nb,pa)).eraseIdxIfInBounds (i+1))):=⟨B.perm,B.kind,B.failed,B.all,B.di⟩;have hb:sb<(AR st).size:=by lia
 refine AN (BW hb ?_);refine AN (Cy C (al.at hb) al B1.kind (uY hb kC) (by lia) (Et ua) λk kn kt kf=>?_);dsimp only;have t1:∀q,sa<=q->q<sa+k->N rk (AR st) q<=N rk (AR st) sb:=λq q1 q2=>by
  have z:=kt (q-sa) (sV q2 q1);rw[Dy (by lia)] at z;have e:sa+(q-sa)=q:=rf q1;simp only[e] at z;rw[FQ (show q<(AR st).size by lia),FQ hb];refine IG.mp λy=>?_;rw[p7 y] at z;cases z
 have t2:∀q,sa+k<=q->q<sa+na->N rk (AR st) sb<N rk (AR st) q:=λq q1 q2=>by
  have z:=kf (q-sa) (sX q1) (vG q2 q1);rw[Dy (by lia)] at z;have e:sa+(q-sa)=q:=sY q1;simp only[e] at z;rw[FQ (show q<(AR st).size from vH q2 hb kC),FQ hb];cases c:decide (rk (AR st)[sb]<rk ((AR st)[q]'(vH q2 hb kC))) with
  | true=>exact qA c
  | false=>rw[c] at z;cases z
 by_cases c1:na-k=0
 .rw[p6 (by rw[c1];rfl)]
  refine AX (h _ B1 rfl (λ_ _=>rfl) λp q sp pq qh=>?_);by_cases d:q<sa+na
  .exact ua p q sp pq d
  .by_cases d':p<sa+na
   .exact Ev (t1 p sp (by lia)) (ub sb q (AH _) (ud kC d) qh)
   .exact ub p q (ud kC d') pq qh
 rw[pZ (by intro z;exact c1 (beq_iff_eq.mp z))];have hl:sa+k+(na-k)-1<(AR st).size:=by lia
 refine AN (BW hl ?_);refine AN (Cy C (al.at hl) al B1.kind (by lia) (sf n2) (Et ub) λm mn mt mf=>?_);dsimp only;have el:sa+k+(na-k)-1=sb-1:=by lia
 have u1:∀q,sb<=q->q<sb+m->N rk (AR st) q<N rk (AR st) (sb-1):=λq q1 q2=>by
  have z:=mt (q-sb) (sV q2 q1);rw[Ez (by lia)] at z;have e:sb+(q-sb)=q:=rf q1;simp only[e,el] at z;rw[FQ (show q<(AR st).size by lia),FQ (show sb-1<(AR st).size from sP hl el)];exact qA z
 have u2:∀q,sb+m<=q->q<sb+nb->N rk (AR st) (sb-1)<=N rk (AR st) q:=λq q1 q2=>by
  have z:=mf (q-sb) (sX q1) (vG q2 q1);rw[Ez (by lia)] at z;have e:sb+(q-sb)=q:=sY q1;simp only[e,el] at z;rw[FQ (show q<(AR st).size by lia),FQ (show sb-1<(AR st).size from sP hl el)];exact IG.mp (of_decide_eq_false z)
 by_cases c2:m=0
 .rw[p6 (by rw[c2];rfl)]
  refine AX (h _ B1 rfl (λ_ _=>rfl) λp q sp pq qh=>?_);by_cases d:q<sa+na
  .exact ua p q sp pq d
  .by_cases d':p<sa+na
   .exact Ev (ua p (sb-1) sp (by lia) (by lia)) (u2 q (by lia) qh)
   .exact ub p q (ud kC d') pq qh
 rw[pZ (by intro z;exact c2 (beq_iff_eq.mp z))];have exs:((AR st).extract (sa+k) sb).size=sb-(sa+k):=by simp;lia
 have eys:((AR st).extract sb (sb+m)).size=m:=by simp;lia
 have sx:Srt rk ((AR st).extract (sa+k) sb).toList:=srt_extract (λp q a b c=>ua p q (qy a) b (rN c kC)) (rY hb);have sy:Srt rk ((AR st).extract sb (sb+m)).toList:=srt_extract (λp q a b c=>ub p q a b (ue c mn)) (vI hz mn sz);have atx:∀j,∀hj:j<((AR st).extract (sa+k) sb).size,rk ((AR st).extract (sa+k) sb)[j]=N rk (AR st) (sa+k+j):=λj hj=>by
  rw[ABS hj,FQ (by lia)]
 have aty:∀j,∀hj:j<((AR st).extract sb (sb+m)).size,rk ((AR st).extract sb (sb+m))[j]=N rk (AR st) (sb+j):=λj hj=>by
  rw[ABS hj,FQ (by lia)]
 have first:∀j,∀hj:j<((AR st).extract (sa+k) sb).size,∀h0:0<((AR st).extract sb (sb+m)).size,rk (((AR st).extract sb (sb+m))[0]'h0)<=rk ((AR st).extract (sa+k) sb)[j]:=λj hj h0=>by
  rw[atx j hj,aty 0 h0,So];exact E3 (t2 _ qi (by lia))
 have kx:∀j,∀hj:j<((AR st).extract sb (sb+m)).size,rk ((AR st).extract sb (sb+m))[j]<=N rk (AR st) (sb-1):=λj hj=>by
  rw[aty j hj];exact E3 (u1 _ qi (vJ hj eys))
 have fin:∀(r:Array AE) (a8:BA),Gx (Dw st (((BC st).setIfInBounds i (sa,na+nb,pa)).eraseIdxIfInBounds (i+1))) a8->Mg rk ((AR st).extract (sa+k) sb).toList ((AR st).extract sb (sb+m)).toList r.toList ->
   wpS (AM prog w) A E s (do modify λs=>US s (lay (AR s) (sa+k) r);let g <- get;pure (FI g).isNone) Q a8:=λr a8 g ⟨pm,sr⟩=>by
  have rs:r.size=sb+m-(sa+k):=by
   have:=pm.length_eq;simp at this;lia
  have ea:=g.arr;have hs:sa+k+r.size<=(AR st).size:=by lia
  refine AN (Hc ?_);refine AN (JJ ?_);have ef:=g.failed.trans B.failed;rw[ef];have lp:=Zn (arr:=AR st) (r:=r) (lo:=sa+k) (mid:=sb) (hi:=sb+m) (by lia) qi (vI hz mn sz) pm;have mem:∀j,∀hj:j<r.size,∃q,sa+k<=q/\q<sb+m/\rk r[j]=N rk (AR st) q:=λj hj=>by
   have:r[j]∈r.toList:=N7 hj;rcases Cf.mp (pm.mem_iff.mp this) with z| z
   .obtain⟨q,hq,e⟩:=CC.mp z
    have f7:q<((AR st).extract (sa+k) sb).size:=by rw[<- AZ];exact hq
    exact⟨sa+k+q,qi,by lia,by rw[<- e,<- atx q f7];simp⟩
   .obtain⟨q,hq,e⟩:=CC.mp z
    have f7:q<((AR st).extract sb (sb+m)).size:=by rw[<- AZ];exact hq
    exact⟨sb+q,by lia,vJ f7 eys,by rw[<- e,<- aty q f7];simp⟩
  have laid:∀q,N rk (lay (AR st) (sa+k) r) q=if c:sa+k<=q/\q<sa+k+r.size then rk (r[q-(sa+k)]'(rT c)) else N rk (AR st) q:=λq=>by
   have e:=Pk (arr:=AR st) (r:=r) (sa:=sa+k) hs q;by_cases c:sa+k<=q/\q<sa+k+r.size
   .rw[dif_pos c]
    rw[p6 c] at e;unfold N;rw[e,A9 (rT c)]
   .rw[dif_neg c]
    rw[pZ c] at e;exact El e
  refine AX (h _ ⟨?_,g.kind.trans B.kind,ef,B.all,B.di⟩ g.pend (λq hq=>?_) ?_)
  .rw[ea]
   exact lp.trans B.perm
  .rw[ea,Pk hs,pZ (by lia)]
  .rw[ea]
   intro p q sp pq qh;rw[laid p,laid q];by_cases cp:sa+k<=p/\p<sa+k+r.size
   .rw[dif_pos cp]
    by_cases cq:sa+k<=q/\q<sa+k+r.size
    .rw[dif_pos cq]
     exact Eo sr (by lia) (rT cq)
    .rw[dif_neg cq]
     obtain⟨v,v1,v2,ev⟩:=mem (p-(sa+k)) (rT cp);rw[ev];by_cases d:v<sb
     .exact Ev (ua v (sb-1) (qy v1) (rJ d) (by lia)) (u2 q (by lia) qh)
     .exact ub v q (qf d) (by lia) qh
   .rw[dif_neg cp]
    by_cases cq:sa+k<=q/\q<sa+k+r.size
    .rw[dif_pos cq]
     obtain⟨v,v1,v2,ev⟩:=mem (q-(sa+k)) (rT cq);rw[ev];by_cases d:v<sb
     .exact ua p v sp (by lia) (rN d kC)
     .exact Ev (t1 p sp (by lia)) (ub sb v (AH _) (qf d) (ue v2 mn))
    .rw[dif_neg cq]
     by_cases d:q<sa+k
     .exact ua p q sp pq (ue d kn)
     .by_cases d2:p<sa+k
      .exact Ev (t1 p sp d2) (ub sb q (AH _) (vK rs cq d) qh)
      .exact ub p q (vK rs cp d2) pq qh
 by_cases c3:na-k<=m
 .rw[p6 c3]
  refine AN (Tp C ⟨FJ al _ _,FJ al _ _,sx,sy,λy hy z hz=>?_⟩ B1.kind (by lia) (vL eys c2) (λj hj=>first j hj (by lia)) λr a8 g mg=>fin r a8 g mg);obtain⟨j,j1,hj,rfl⟩:=Dh hz;obtain⟨q,hq,e⟩:=CC.mp hy;have f7:q<((AR st).extract sb (sb+m)).size:=by rw[<- AZ];exact hq
  have e':y=((AR st).extract sb (sb+m))[q]:=by rw[<- e];simp
  rw[e',atx j hj,show sa+k+j=sb-1 by lia];exact kx q f7
 .rw[pZ c3]
  refine AN (TV C ⟨FJ al _ _,FJ al _ _,sx,sy,λj hj h0=>first j hj h0⟩ B1.kind (by lia) (vL eys c2) (λj hj=>?_) λr a8 g mg=>fin r a8 g mg);rw[atx _ (by lia),show sa+k+(((AR st).extract (sa+k) sb).size-1)=sb-1 by lia];exact kx j hj
variable{rk:AE->Int}{G:AE->Prop}
def QM:Nat->Nat->Nat->Nat:=sortPriv% PySem.Builtin.minRun
def powerT:Nat->Nat->Nat->Nat->Nat:=sortPriv% PySem.Builtin.power
def Mz:StateT BA Sem Unit:=sortPriv% PySem.Builtin.sortRuns
theorem PX:Mz=(do
 let size:=(AR (<- get)).size
 let minrun:=QM size size 0
 let mut lo:=0
 for _ in [0:size] do
  if lo >= size then break
  let pX found <- JD lo (size-lo)| return
  let mut n:=found
  if n<minrun then
   rule "list.sort.binary-insertion"
   let force:=min (size-lo) minrun
   if !(<- LR lo force n) then return
   n:=force
  if let pX (s1,n1,_):=(BC (<- get)).back? then
   let pw:=powerT size (2*s1+n1) (2*s1+n1+n1+n) size
   for _ in [0:size] do
    let p:=BC (<- get)
    let pX (_,_,older):=(if p.size>1 then p[p.size-2]? else pY)| break
    if older<=pw then break
    if !(<- Fw (p.size-2)) then return
   modify λs=>Dw s ((BC s).modify ((BC s).size-1) λ(st,len,_)=>(st,len,pw))
  modify λs=>Dw s ((BC s).push (lo,n,0))
  lo:=lo+n
 for _ in [0:size] do
  let p:=BC (<- get)
  if p.size<=1 then break
  let i:=p.size-2
  let before:=if i>0 then p[i-1]?.map (·.2.1) else pY
  let i:=if before.any (· < (p[i+1]?.elim 0 (·.2.1))) then i-1 else i
  if !(<- Fw i) then return):=rfl
structure Rn(G:AE->Prop)(rk:AE->Int)(κ:Eg)(a₀:Array AE)(lo:Nat)(st:BA):Prop where
 ba:Ba G rk κ a₀ st
 ch:Ch rk (AR st) (BC st).toList 0 lo
theorem LK{α:Type}:∀{l:List α}{i:Nat}{x y:α},l[i]?=pX x->l[i+1]?=pX y->l=l.take i++x::y::l.drop (i+2)
 | a::b::l,0,x,y,h1,h2=>by
  simp at h1 h2;subst h1 h2;rfl
 | a::l,i+1,x,y,h1,h2=>by
  have:=LK (l:=l) (i:=i) (x:=x) (y:=y) (by simpa using h1) (by simpa using h2);rw[My,TL]
  congr 1
theorem Yu{p:Array (Nat×Nat×Nat)}{x y v:Nat×Nat×Nat}(h1:p[i]?=pX x)(h2:p[i+1]?=pX y):((p.setIfInBounds i v).eraseIdxIfInBounds (i+1)).toList=p.toList.take i++v::p.toList.drop (i+2):=by
 have hi:=(C2.mp h2).1;have e:=LK (l:=p.toList) (i:=i) (x:=x) (y:=y) (by rw[BY];exact h1) (by rw[BY];exact h2);have tl:(p.toList.take i).length=i:=by simp;lia
 have es:(p.setIfInBounds i v).toList=p.toList.take i++v::y::p.toList.drop (i+2):=by
  rw[Array.toList_setIfInBounds]
  conv=>lhs;rw[e]
  rw[List.set_append_right _ _ (rE tl),tl,HH];rfl
 have hz:i+1<(p.setIfInBounds i v).size:=by rw[HL];exact hi
 rw[N8,dif_pos hz,Array.toList_eraseIdx,es,List.eraseIdx_append_of_length_le (by lia),tl]
 congr 1
 rw[show i+1-i=1 by lia];rfl
theorem Pz(C:Cmp prog w A E s κ G rk)(R:Rn G rk κ a₀ lo st)(hl:lo<=a₀.size)(hi:i+1<(BC st).size){Q:Bool->BA->Prop}
  (h:∀ar,Rn G rk κ a₀ lo ar->(BC ar).size+1=(BC st).size->(∀q,lo<=q->(AR ar)[q]?=(AR st)[q]?)->Q true ar):wpS (AM prog w) A E s (Fw i) Q st:=by
 obtain⟨sa,na,pa,e1⟩:∃sa na pa,(BC st)[i]?=pX (sa,na,pa):=⟨_,_,_,A9 (qg hi)⟩;obtain⟨sb,nb,pb,e2⟩:∃sb nb pb,(BC st)[i+1]?=pX (sb,nb,pb):=⟨_,_,_,A9 hi⟩;have e:=LK (l:=(BC st).toList) (i:=i) (by rw[BY];exact e1) (by rw[BY];exact e2);have ch:=R.ch;rw[e] at ch;obtain⟨mid,c1,rfl,n1,ua,rfl,n2,ub,c2⟩:=Ch.cut.mp ch;have le:=c2.le;have le1:=c1.le;have z2:sa+na+nb<=lo:=qy le;refine Qm C R.ba e1 e2 rfl n1 n2 (rR z2 hl) ua ub λar B' pe low up=>?_;have pl:=Yu (v:=(sa,na+nb,pa)) e1 e2;refine h ar ⟨B',?_⟩ ?_ λq hq=>low q (.inr (by lia))
 .rw[pe,pl]
  refine Ch.cut.mpr ⟨sa,c1.congr λq _ hq=>low q (.inl hq),rfl,rD n1,?_,?_⟩
  .rw[show sa+(na+nb)=sa+na+nb from tW]
   exact up
  .rw[show sa+(na+nb)=sa+na+nb from tW]
   exact c2.congr λq hq _=>low q (.inr hq)
 .have:=congrArg ER pl
  rw[<- pe] at this;simp at this;lia
theorem Ch.mod{f:Nat×Nat×Nat->Nat×Nat×Nat}(hf:∀x,(f x).1=x.1/\(f x).2.1=x.2.1):∀{l:List (Nat×Nat×Nat)}{lo hi:Nat} (i:Nat),Ch rk arr l lo hi->Ch rk arr (l.modify i f) lo hi
 | [],lo,hi,i,h=>by rw[List.modify_nil];exact h
 | (a,n,p)::l,lo,hi,0,⟨e1,h1,u,h⟩=>by
  rw[List.modify_zero_cons];have:=hf (a,n,p);generalize f (a,n,p)=y at this;obtain⟨y1,y2,y3⟩:=y;obtain⟨z1,z2⟩:=this;subst z1 z2;exact⟨e1,h1,u,h⟩
 | (a,n,p)::l,lo,hi,i+1,⟨e1,h1,u,h⟩=>by
  rw[List.modify_succ_cons];exact⟨e1,h1,u,Ch.mod hf i h⟩
theorem ADP{c:Prop}{i:Decidable c}{a b:Nat}(h1:a<=m)(h2:b<=m):(@ite Nat c i a b)<=m:=by
 split
 .exact h1
 .exact h2
theorem MK(C:Cmp prog w A E s κ G rk)(B:Ba G rk κ a₀ st)(hp:BC st=#[]){Q:Unit->BA->Prop}
  (h:∀ar,Ba G rk κ a₀ ar->Up rk (AR ar) 0 a₀.size->Q () ar):wpS (AM prog w) A E s Mz Q st:=by
 rw[PX];refine AN (JJ ?_);dsimp only;rw[B.size];refine AN (D1 (Do (I:=λx c ar=>∃lo,c=(pY,lo)/\x<=lo/\lo<=a₀.size/\Rn G rk κ a₀ lo ar) (Q:=λc ar=>c=(pY,a₀.size)/\Rn G rk κ a₀ a₀.size ar) ?_ ?_ ⟨0,rfl,AH _,BD _,B,by rw[hp];rfl⟩) ?_)
 .rintro x c st1 _ xn ⟨lo,rfl,xl,ll,R⟩
  dsimp only;by_cases c1:lo >= a₀.size
  .rw[p6 c1]
   have:lo=a₀.size:=tP ll c1;subst this;exact AX ⟨rfl,R⟩
  rw[pZ c1];refine AN (Ln C R.ba (by lia) (by lia) λn a8 n1 nn nx up=>?_);dsimp only;have R2:Rn G rk κ a₀ lo a8:=⟨R.ba.nx nx,by rw[nx.pend];exact R.ch.congr λi _ hi=>nx.low i hi⟩;by_cases c2:n<QM a₀.size a₀.size 0
  .rw[p6 c2]
   refine AN (MH (G8 ⟨rfl,?_⟩));obtain⟨f,ef⟩:∃f,f=min (a₀.size-lo) (QM a₀.size a₀.size 0):=⟨_,rfl⟩;rw[<- ef];refine AN (Ou C R2.ba (n:=f) (uh ef c1) (by lia) up λcm nx3 up3=>?_);have R3:Rn G rk κ a₀ lo cm:=⟨R2.ba.nx nx3,by rw[nx3.pend];exact R2.ch.congr λi _ hi=>nx3.low i hi⟩;rw[pZ (by decide)];refine AN (JJ ?_);have put:∀{st4:BA},Rn G rk κ a₀ lo st4->(∀q,lo<=q->(AR st4)[q]?=(AR cm)[q]?)->Rn G rk κ a₀ (lo+f) (Dw st4 ((BC st4).push (lo,f,0))):=λ{st4} R4 e4=>⟨⟨R4.ba.perm,R4.ba.kind,R4.ba.failed,R4.ba.all,R4.ba.di⟩,by
    rw[IR];exact Ch.cut.mpr ⟨lo,R4.ch,rfl,by lia,up3.congr λq hq _=>e4 q hq,rfl⟩⟩
   cases hb:(BC cm).back? with
   | none =>
    dsimp only;exact AN (Hc (AX ⟨lo+f,rfl,vZ xl n1 nn c2 ef,uh ef c1,put R3 λ_ _=>rfl⟩))
   | some v =>
    obtain⟨s1,m1,q1⟩:=v;dsimp only;refine AN (D1 (Do (I:=λ_ c st4=>c=(pY,())/\Rn G rk κ a₀ lo st4/\∀q,lo<=q->(AR st4)[q]?=(AR cm)[q]?) (Q:=λc st4=>c=(pY,())/\Rn G rk κ a₀ lo st4/\∀q,lo<=q->(AR st4)[q]?=(AR cm)[q]?) ?_ (λ_ _ h=>h) ⟨rfl,R3,λ_ _=>rfl⟩) ?_)
    .rintro y c st4 _ _ ⟨rfl,R4,e4⟩
     refine AN (JJ ?_);by_cases d1:(BC st4).size>1
     .rw[p6 d1,A9 (show(BC st4).size-2<(BC st4).size from v5 d1)]
      dsimp only;split
      .exact AX ⟨rfl,R4,e4⟩
      .refine AN (Pz C R4 ll (v6 d1) λmQ R5 _ e5=>?_)
       rw[pZ (by decide)];exact AX ⟨rfl,R5,λq hq=>(e5 q hq).trans (e4 q hq)⟩
     .rw[pZ d1]
      exact AX ⟨rfl,R4,e4⟩
    .rintro c st4 ⟨rfl,R4,e4⟩
     dsimp only;refine AN (Hc (AN (Hc (AX ⟨lo+f,rfl,vZ xl n1 nn c2 ef,uh ef c1,?_⟩))));refine put (st4:=Dw st4 ((BC st4).modify ((BC st4).size-1) _)) ⟨⟨R4.ba.perm,R4.ba.kind,R4.ba.failed,R4.ba.all,R4.ba.di⟩,?_⟩ e4;show Ch rk (AR st4) ((BC st4).modify ((BC st4).size-1) _).toList 0 lo;rw[Q7];refine Ch.mod (f:=_) ?_ _ R4.ch;exact λ_=>⟨rfl,rfl⟩
  .rw[pZ c2]
   refine AN (JJ ?_);have put:∀{st4:BA},Rn G rk κ a₀ lo st4->(∀q,lo<=q->(AR st4)[q]?=(AR a8)[q]?)->Rn G rk κ a₀ (lo+n) (Dw st4 ((BC st4).push (lo,n,0))):=λ{st4} R4 e4=>⟨⟨R4.ba.perm,R4.ba.kind,R4.ba.failed,R4.ba.all,R4.ba.di⟩,by
    rw[IR];exact Ch.cut.mpr ⟨lo,R4.ch,rfl,n1,up.congr λq hq _=>e4 q hq,rfl⟩⟩
   cases hb:(BC a8).back? with
   | none =>
    dsimp only;exact AN (Hc (AX ⟨lo+n,rfl,v7 xl n1,v8 nn c1,put R2 λ_ _=>rfl⟩))
   | some v =>
    obtain⟨s1,m1,q1⟩:=v;dsimp only;refine AN (D1 (Do (I:=λ_ c st4=>c=(pY,())/\Rn G rk κ a₀ lo st4/\∀q,lo<=q->(AR st4)[q]?=(AR a8)[q]?) (Q:=λc st4=>c=(pY,())/\Rn G rk κ a₀ lo st4/\∀q,lo<=q->(AR st4)[q]?=(AR a8)[q]?) ?_ (λ_ _ h=>h) ⟨rfl,R2,λ_ _=>rfl⟩) ?_)
    .rintro y c st4 _ _ ⟨rfl,R4,e4⟩
     refine AN (JJ ?_);by_cases d1:(BC st4).size>1
     .rw[p6 d1,A9 (show(BC st4).size-2<(BC st4).size from v5 d1)]
      dsimp only;split
      .exact AX ⟨rfl,R4,e4⟩
      .refine AN (Pz C R4 ll (v6 d1) λmQ R5 _ e5=>?_)
       rw[pZ (by decide)];exact AX ⟨rfl,R5,λq hq=>(e5 q hq).trans (e4 q hq)⟩
     .rw[pZ d1]
      exact AX ⟨rfl,R4,e4⟩
    .rintro c st4 ⟨rfl,R4,e4⟩
     dsimp only;refine AN (Hc (AN (Hc (AX ⟨lo+n,rfl,v7 xl n1,v8 nn c1,?_⟩))));refine put (st4:=Dw st4 ((BC st4).modify ((BC st4).size-1) _)) ⟨⟨R4.ba.perm,R4.ba.kind,R4.ba.failed,R4.ba.all,R4.ba.di⟩,?_⟩ e4;show Ch rk (AR st4) ((BC st4).modify ((BC st4).size-1) _).toList 0 lo;rw[Q7];refine Ch.mod (f:=_) ?_ _ R4.ch;exact λ_=>⟨rfl,rfl⟩
 .rintro c ar ⟨lo,rfl,xl,ll,R⟩
  have:lo=a₀.size:=by lia
  subst this;exact⟨rfl,R⟩
 .rintro c ar ⟨rfl,R⟩
  dsimp only;refine AN (D1 (Do (I:=λx c a8=>c=(pY,())/\Rn G rk κ a₀ a₀.size a8/\((BC a8).size<=1\/(BC a8).size+x<=a₀.size)) (Q:=λc a8=>c=(pY,())/\Rn G rk κ a₀ a₀.size a8/\(BC a8).size<=1) ?_ ?_ ⟨rfl,R,.inr ?_⟩) ?_)
  .rintro x c a8 _ xn ⟨rfl,R2,sz⟩
   refine AN (JJ ?_);by_cases d1:(BC a8).size<=1
   .rw[p6 d1]
    exact AX ⟨rfl,R2,d1⟩
   .rw[pZ d1]
    refine AN (Pz C R2 (AH _) ?_ λcm R3 z3 _=>?_)
    .exact C1 (LG (ADP (m:=(BC a8).size-2) qI rG) 1) (by lia)
    .rw[pZ (by decide)]
     exact AX ⟨rfl,R3,by lia⟩
  .rintro c a8 ⟨rfl,R2,sz⟩
   exact⟨rfl,R2,by lia⟩
  .have:=R.ch.le
   simp at this;exact vF this
  .rintro c a8 ⟨rfl,R2,sz⟩
   refine AX (h a8 R2.ba ?_);have ch:=R2.ch;cases e:(BC a8).toList with
   | nil =>
    rw[e] at ch;have z:0=a₀.size:=ch;intro i j _ _ hj;lia
   | cons v l =>
    rw[e] at ch;obtain⟨v1,v2,v3⟩:=v;have ln:l=[]:=by
     have:=congrArg ER e;simp at this;exact HZ.mp (by lia)
    subst ln;obtain⟨_,_,u,z⟩:=ch;have z':=z;rw[<- z'];exact u
end TM
namespace SB
open PySem PySem.W PyProof.Rows
theorem Ii:∀{x y:qC},HT.lexLt x y=true->HT.lexLt y x=false
 | [],[],h=>by cases h
 | [],_::_,_=>rfl
 | _::_,[],h=>by cases h
 | a::x,b::y,h=>by
  rw[HT.Bs] at h ⊢;by_cases c:a=b
  .rw[p6 c] at h
   rw[p6 c.symm];exact Ii h
  .rw[pZ c] at h
   rw[pZ (CB c)];have:=qA h;exact p8 (tU this)
theorem Vp:∀{x y:qC},x≠y->HT.lexLt x y=false->HT.lexLt y x=true
 | [],[],n,_=>qB rfl n
 | [],_::_,_,h=>by cases h
 | _::_,[],_,_=>rfl
 | a::x,b::y,n,h=>by
  rw[HT.Bs] at h ⊢;by_cases c:a=b
  .rw[p6 c] at h
   rw[p6 c.symm];exact Vp (λe=>n (by rw[c,e])) h
  .rw[pZ c] at h
   rw[pZ (CB c)];have:=of_decide_eq_false h;exact p7 (by lia)
theorem Vk:∀{x y z:qC},HT.lexLt x y=true->HT.lexLt y z=true->HT.lexLt x z=true
 | [],[],_,h,_=>by cases h
 | [],_::_,[],_,h=>by cases h
 | [],_::_,_::_,_,_=>rfl
 | _::_,[],_,h,_=>by cases h
 | _::_,_::_,[],_,h=>by cases h
 | a::x,b::y,c::z,h,k=>by
  rw[HT.Bs] at h k ⊢;by_cases ab:a=b
  .rw[p6 ab] at h
   by_cases bc:b=c
   .rw[p6 bc] at k
    rw[p6 (ab.trans bc)];exact Vk h k
   .rw[pZ bc] at k
    rw[pZ (λe=>bc (by lia))];have:=qA k;exact p7 (by lia)
  .rw[pZ ab] at h
   have h':=qA h;by_cases bc:b=c
   .rw[p6 bc] at k
    rw[pZ (by lia)];exact p7 (by lia)
   .rw[pZ bc] at k
    have k':=qA k;rw[pZ (by lia)];exact p7 (by lia)
theorem ABc{b fin:Bool}{Q:qG}{x y:qC}(hx:ItemsAre (KA prog w) x vs):∀{y:qC}{us:List As} (i:Nat),ItemsAre (KA prog w) y us->fin=decide (x.length<y.length)->Q (HT.lexLt x y) s->KatLex prog w A b fin Q (vs.zip us) i s:=by
 induction hx with
 | nil =>
  intro y us i hy hf q;cases hy with
  | nil=>rw[hf];exact q
  | cons h1 t=>rw[hf];exact q
 | @cons k v ks vs' hk ht ih =>
  intro y us i hy hf q;cases hy with
  | nil=>rw[hf];exact q
  | @cons k' v' bu us' a5 ht' =>
   rw[HT.Bs] at q;refine kat_cons ((KA prog w).eqBool hk a5 ?_);by_cases c:k=k'
   .rw[p6 c] at q
    rw[p7 c];refine kat_yes (ih (i+1) ht' ?_ q);rw[hf];simp
   .rw[pZ c] at q
    rw[p8 c];refine kat_no ?_;obtain⟨t1,rfl⟩:=FM hk;obtain⟨t2,rfl⟩:=FM a5;cases (b&&i==0) with
    | true =>
     rw[<- U7];exact kat_lt_int q
    | false=>exact kat_one _ _ (lt_int q)
theorem AEV{b:Bool}{x y:qC}{c:Addr}{Q:qG}(hx:IK prog w s.heap x a)(hy:IK prog w s.heap y c)(q:Q (HT.lexLt x y) s):wpAny (AM prog w) A (UU (tuples' b) (.ref a) (.ref c)) Q E s:=by
 obtain⟨ox,xs,n,gx,cx,dx,ix⟩:=hx;obtain⟨oy,ys,k,gy,cy,dy,iy⟩:=hy;refine kat_lt gx dx gy dy (ABc (x:=x) (y:=y) (us:=ys.toList) ix 0 iy ?_ q);have l1:=ix.length;have l2:=iy.length;rw[l1,l2,AZ,AZ]
structure Row(prog:AK)(w:AQ)(h:Heap)(vs:List As)(ks:List (qC×Addr)):Prop where
 vals:vs=ks.map λx=>AW x.2
 keys:∀x∈ks,IK prog w h x.1 x.2
 full:∀x∈ks,x.1≠[]
 nd:(ks.map (·.1)).Nodup
def ltK(ks:List (qC×Addr))(i j:Nat):Bool:=HT.lexLt (ks.getD i ([],0)).1 (ks.getD j ([],0)).1
section
theorem Row.tups(R:Row prog w h vs ks):∃fs,KatTups h vs fs/\fs.length=vs.length/\∀v∈fs,∃n t,v=MM n t:=by
 obtain⟨e,hk,hf,hn⟩:=R;clear hn;subst e
 induction ks with
 | nil=>exact⟨[],trivial,rfl,λv hv=>by cases hv⟩
 | cons x r ih =>
  obtain⟨fs,t,l,q⟩:=ih (λy hy=>hk y (AJ _ hy)) (λy hy=>hf y (AJ _ hy));obtain⟨o,xs,n,gx,cx,dx,ix⟩:=hk x AI;have hx:=hf x AI;obtain⟨xk,xa⟩:=x;cases hxs:xs.toList with
  | nil =>
   rw[hxs] at ix;cases ix;exact qB rfl hx
  | cons f rest =>
   have hf0:xs[0]?=pX f:=by rw[<- BY,hxs];rfl
   have hi:=Pj ix f (by rw[hxs];exact AI);refine⟨f::fs,KatTups.cons gx cx dx hf0 t,by simp[l],λv hv=>?_⟩;rcases BF.mp hv with rfl| hv
   .exact hi
   .exact q v hv
theorem perm_back{f:α->β}{l m:List β}(p:l.Perm m):∀ks:List α,m=ks.map f->∃bu:List α,bu.Perm ks/\l=bu.map f:=by
 induction p with
 | nil =>
  intro ks e;cases ks with
  | nil=>exact⟨[],.refl _,rfl⟩
  | cons _ _=>cases e
 | @cons x l1 l2 _ ih =>
  intro ks e;cases ks with
  | nil=>cases e
  | cons k r =>
   rw[BG] at e;obtain⟨e1,e2⟩:=Q2 e;obtain⟨r',p',e'⟩:=ih r e2;exact⟨k::r',p'.cons k,by rw[BG,e1,e']⟩
 | swap x y l1 =>
  intro ks e
  match ks,e with
  | [],e=>cases e
  | [_],e=>simp at e
  | a::b::r,e =>
   rw[BG,BG] at e;obtain⟨e1,e2⟩:=Q2 e;obtain⟨e3,e4⟩:=Q2 e2;exact⟨b::a::r,PM ..,by rw[BG,BG,e1,e3,e4]⟩
 | trans _ _ ih1 ih2 =>
  intro ks e;obtain⟨k2,p2,e2⟩:=ih2 ks e;obtain⟨k1,p1,e1⟩:=ih1 k2 e2;exact⟨k1,p1.trans p2,e1⟩
theorem Ni{ks:qC}(h:ItemsAre (KA prog w) ks us):ks=us.map numOf:=by
 induction h with
 | nil=>rfl
 | cons h1 _ ih =>
  obtain⟨t,e⟩:=FM h1;rw[BG,<- ih,e];rfl
theorem AFm{k k':qC}(x:IK prog w h k a)(y:IK prog w h k' a):k=k':=by
 obtain⟨o,items,n,ho,_,hd,hi⟩:=x;obtain⟨o',items',n',c8,_,dq,bh⟩:=y;rw[ho] at c8;cases c8;rw[hd] at dq;cases dq;rw[Ni hi,Ni bh]
set_option tactic.hygienic true in
theorem JQ{α:Type}{p q:α->Bool}:∀{l:List α}{x:α},(∀y∈l,p y=true->q y=true)->x∈l->p x=false->q x=true->(l.filter p).length<(l.filter q).length
 | [],x,_,h,_,_=>by cases h
 | a::l,x,hs,hx,px,qx=>by
  have le:∀{m:List α},(∀y∈m,p y=true->q y=true)->(m.filter p).length<=(m.filter q).length:=λ{m}=>by
   induction m with
   | nil=>exact λ_=>AH _
   | cons b m ih =>
    intro hm;have:=ih λy hy=>hm y (AJ _ hy);rw[J1,J1];have hb:=hm b (AI ..);split
    .rename_i pb
     rw[p6 (hb pb)];simp;exact this
    .split
     .simp;exact rD this
     .exact this
  have hl:=le λy hy=>hs y (AJ _ hy);rw[J1,J1];rcases BF.mp hx with rfl| hx
  .rw[pZ (by rw[px];decide),p6 qx]
   simp;exact tM hl
  .have ih:=JQ (λy hy=>hs y (AJ _ hy)) hx px qx
   have ha:=hs a (AI ..);split
   .rename_i pa
    rw[p6 (ha pa)];simp;exact ih
   .split
    .simp;exact qw ih
    .exact ih
def cntK(ks:List (qC×Addr))(k:qC):Int:=((ks.filter λy=>HT.lexLt y.1 k).length:Int)
open Classical in
noncomputable def rkK(ks:List (qC×Addr))(x:AE):Int:=if h:∃i,i<ks.length/\x.1=AW (ks.getD i ([],0)).2 then cntK ks (ks.getD (EO h) ([],0)).1 else 0
def itK(ks:List (qC×Addr))(i:Nat):AE:=(AW (ks.getD i ([],0)).2,AW (ks.getD i ([],0)).2)
theorem Td{a b:qC}(ha:a∈ks.map (·.1))(h:HT.lexLt a b=true):cntK ks a<cntK ks b:=by
 obtain⟨x,hx,rfl⟩:=AY.mp ha;unfold cntK;have:=JQ (p:=λy:qC×Addr=>HT.lexLt y.1 x.1) (q:=λy=>HT.lexLt y.1 b) (l:=ks) (x:=x) (λy _ e=>Vk e h) hx (by
  cases c:HT.lexLt x.1 x.1 with
  | false=>rfl
  | true=>have:=Ii c;rw[c] at this;cases this) h
 exact qO this
end
theorem Gd{p:Array Nat}(P:PP n p):p.toList.Perm (AO n):=by
 refine SB.GF ?_ (λx hx=>?_) (by rw[B0,AZ,P.size];exact AH _)
 .refine Co.mpr λi j hi hj d5 e=>?_
  have bh:i<n:=by rw[<- P.size];simpa using hi
  have bj:j<n:=by rw[<- P.size];simpa using hj
  have g0:i<p.size:=by simpa using hi
  have hj2:j<p.size:=by simpa using hj
  have:=P.inj i j bh bj (by simpa [g,DI,g0,hj2] using e);exact qL d5 this
 .obtain⟨i,hi,rfl⟩:=CC.mp hx
  have g0:i<p.size:=by simpa using hi
  have:=P.lt i (by rw[<- P.size];exact g0);refine AV.mpr ?_;simpa [g,DI,g0] using this
section
variable{es:Array (Int×As)}{t:CS}
theorem TQ{Q:List As->AA->Prop}(hh:A.handled=pY)(ho:s.heap.get? S=pX o)(c6:o.ExactSet)(hd:o.data=.set es ep t)(T:Tab t)(hl:es.size=t.place.size)(hp:t.plain=true)(b9:t.led=ledOf w)(dA:es.size<=301)
  (q:∀(h':Heap) (tk:Nat) (acc:Array As),(∀b ob,s.heap.get? b=pX ob->h'.get? b=pX ob)->s.heap.objs.size<=h'.objs.size->acc.toList.map (λv=>v)=(ord w S ep es).toList.map (·.2)->Q acc.toList {s with heap:=h',toks:=tk}) :
  wpAny (AM prog w) A (Pf (.ref S)) Q E s:=by
 unfold Pf;refine Ap (MD (DU MX ?_));rw[DV MY _];refine Ap (De ?_);refine AC ⟨Iy HU _,DU OC ?_⟩;rw[DV HU _];have gD:(s.heap.push {cls:=.type "list",data:=.seq ([]:List As).toArray}).get? s.heap.objs.size=pX {cls:=.type "list",data:=.seq #[] 0}:=AS _ rfl;have gL:∀(h':Heap) (tk:Nat) (av:Array As) (c':Nat),(∀b ob,b≠s.heap.objs.size->(s.heap.push {cls:=.type "list",data:=.seq ([]:List As).toArray}).get? b=pX ob->h'.get? b=pX ob)->h'.get? s.heap.objs.size=pX {cls:=.type "list",dict:=pY,data:=.seq av c',slots:=#[]} ->
   ItemsOf (λi v=>∃e,(ord w S ep es)[i]?=pX e/\v=e.2) av es.size->wpAny (AM prog w) A (match AW s.heap.objs.size with
   | AW a=>do
    match (<- load a).data with
     | Data.seq xs _=>pure xs.toList
     | _=>unsupported "internal:collect"
   | _=>unsupported "internal:collect") Q E {s with heap:=h',toks:=tk}:=λh' tk av c' hk c5 aS=>by
  refine Ap (P4 c5 ?_);refine AC ?_;refine q h' tk av (λb ob e=>hk b ob (BM (Be e)) (AG _ e)) (DD (Be c5)) ?_;rw[W7];apply FR;intro i;rw[Bi,BY,BY];by_cases c:i<es.size
  .have c1:i<av.size:=by rw[aS.1];exact c
   obtain⟨e,ge,ev⟩:=aS.2 i _ (A9 c1);rw[A9 c1,ge,ev];rfl
  .rw[F9 (by rw[aS.1];exact qf c),F9 (by rw[KD];exact qf c)]
   rfl
 refine D2 (Vo (A:=A) (R:=λr s'=>∃h' tk av c',r=.ok (.ret (.ref s.heap.objs.size))/\s'={s with heap:=h',toks:=tk}/\(∀b ob,b≠s.heap.objs.size->(s.heap.push {cls:=.type "list",data:=.seq ([]:List As).toArray}).get? b=pX ob->h'.get? b=pX ob)/\h'.get? s.heap.objs.size=pX {cls:=.type "list",dict:=pY,data:=.seq av c',slots:=#[]}/\ItemsOf (λi v=>∃e,(ord w S ep es)[i]?=pX e/\v=e.2) av es.size)
  (s:={s with heap:=s.heap.push {cls:=.type "list",data:=.seq ([]:List As).toArray}}) hh (AG _ ho) c6 hd T hl hp b9 dA s.heap.objs.size (.ref s.heap.objs.size) 0 gD λh' tk av c' hk c5 aS=>⟨h',tk,av,c',rfl,rfl,hk,c5,aS⟩) (λfin s' h=>?_) (λe s' h=>?_)
 .cases fin with
  | done f =>
   obtain⟨h',tk,av,c',e,rfl,hk,c5,aS⟩:=h;cases e;exact gL h' tk av c' hk c5 aS
  | again c'=>exact⟨h.1,E7 h.2 λr pP hr=>by obtain⟨h',tk,av,c',rfl,rfl,hk,c5,aS⟩:=hr;exact gL h' tk av c' hk c5 aS⟩
 .obtain⟨_,_,_,_,e,_⟩:=h
  cases e
end
end SB
namespace SB
open PySem PySem.SetTable
section
set_option tactic.hygienic true in
theorem Xn{R:RO->AA->Prop}{G:Array To->Array To->Prop}{P:Nat->As->Prop}{St:Nat->AA->Prop}
  (W:WalksS prog w A.in1 I fp wr G n P St) (S:Addr) (hSf:S∉fp) (vals:Nat->qC×Addr) (hP:∀i v,P i v->v=.ref (vals i).2) (hn:∀ks:List (qC×Addr),(∀x∈ks,∃j,j<n/\x=vals j)->(ks.map (·.1)).Nodup->ks.length<=300) (nu:∀i,i<n->(vals i).2∉S::wr) (hu:A.in1.units<Cn)
  (hR:∀s' bo t' bu,TS prog w s'.heap S bo t' bu->Of vals n bu->Moved (S::wr) G s s'->R (.ok (.ret .none)) s') :
  ∀(k i:Nat) (s₁:AA) (es:Array (Int×As)) (t:CS) (ks:List (qC×Addr)),n-i=k->i<=n->St i s₁->TS prog w s₁.heap S es t ks->(∀j,j<n->IK prog w s₁.heap (vals j).1 (vals j).2)->Of vals i ks->Moved (S::wr) G s s₁ ->
   codeAny (AM prog w) A (.builtin "set.update.loop" ⟨[.ref S,.ref I],[]⟩) R s₁:=by
 have nSw:S∉wr:=λh=>hSf (W.sub _ h);have inS:∀b∈wr,b∈S::wr:=λb hb=>AJ _ hb;intro k
 induction k with
 | zero =>
  intro i s₁ es t ks hk hi cK X hK O mv;obtain rfl:i=n:=uw hi hk;refine DU Kx ?_;rw[DV GM _];show wpAny _ A.in1 (K2 (.ref I) >>= _) _ _ s₁;refine Ap (W.done s₁ _ _ cK λs₂ m2=>?_);show wpAny _ A.in1 (ret CY) _ _ s₂;exact AC (hR s₂ es t ks (Wf X λo e=>m2.heap S o nSw e) O (XN W.gtrans mv (m2.mono inS)))
 | succ k ih =>
  intro i s₁ es t ks hk hi cK X hK O mv;have lt:i<n:=uq hk;refine DU Kx ?_;rw[DV GM _];show wpAny _ A.in1 (K2 (.ref I) >>= _) _ _ s₁;refine Ap (W.item i s₁ _ _ lt cK λv s₂ pv a8 m2=>?_);obtain rfl:=hP i v pv;have X2:TS prog w s₂.heap S es t ks:=Wf X λo e=>m2.heap S o nSw e;have hK2:∀j,j<n->IK prog w s₂.heap (vals j).1 (vals j).2:=λj hj=>Gg (hK j hj) λo e=>m2.heap _ o (λz=>nu j hj (inS _ z)) e;show wpAny _ A.in1 (MA [AW (vals i).2] (setAdd S (.ref (vals i).2)) >>= _) _ _ s₂;refine Ap (DC (AEU X2 (λx hx=>?_) (hK2 i lt) hu (hn ks (λx hx=>let ⟨j,hj,e⟩:=O.sub x hx;⟨j,qj hj lt,e⟩) X2.nd) λb h' bo t' bu sb X' ad=>?_))
  .obtain⟨j,hj,rfl⟩:=O.sub x hx
   exact hK2 j (qj hj lt)
  .refine AC ⟨Iy GM _,ih (i+1) _ bo t' bu (ur hk) lt (W.frame _ s₂ _ _ a8 (NS _ _) λb hb o e=>?_) X' (λj hj=>Gg (hK2 j hj) λo e=>?_) (O.next ad) ?_⟩
   .rw[sb.2 b (λ(z:b=S)=>hSf (by rw[<- z];exact hb))]
    exact e
   .rw[sb.2 _ (λ(z:(vals j).2=S)=>nu j hj (by rw[z];exact AI))]
    exact e
   .refine XN W.gtrans mv ((m2.mono inS).then_heap (NS _ _) λb o hb e=>?_)
    rw[sb.2 b (λ(z:b=S)=>hb (by rw[z];exact AI))];exact e
end
theorem ACg(hh:A.handled=pY)(hu:A.units+6<Cn)(hl:s.heap.IsList l items)(hv:∀(i:Nat) (v:As),items[i]?=pX v->v=AW (vals i).2)
  (hK:∀j,j<items.size->IK prog w s.heap (vals j).1 (vals j).2) (dA:∀ks:List (qC×Addr),(∀x∈ks,∃j,j<items.size/\x=vals j)->(ks.map (·.1)).Nodup->ks.length<=300)
  (q:∀h' tk es t ks,TS prog w h' s.heap.objs.size es t ks->Of vals items.size ks->(∀b o,s.heap.get? b=pX o->h'.get? b=pX o)->Q (.ref s.heap.objs.size) {s with heap:=h',toks:=tk}) :
  wpAny (AM prog w) A (call (.type "set") [.ref l]) Q E s:=by
 obtain⟨c,tl,hmro⟩:=HP.mro;have made:=HP.made;have ssub:=HP.sub;have nt:=HP.notType;have cc:=HP.canCreate;have tc:=F.typeCall_set_1 (.ref l);refine P6 (UN ?_);show wpAny _ _ (callAny (.type "set") _) _ _ _;refine AC ⟨R6 _ (by decide+kernel),DU F.entry_type_call ?_⟩;rw[Around.under_plain (weight_type_call_type "set" [.ref l] []) rfl]
 repeat (any_goals (first| assumption| wp_step))
 refine E7 (ABo (.ref l) (E:=E) (Q₁:=λobj s₁=>∃led:Bool,led=ledOf w/\obj=.ref s.heap.objs.size/\s₁={s with heap:=s.heap.push {cls:=.type "set",dict:=pY,data:=.set #[] 0 (.fresh 0 0 led)}}) ⟨_,rfl,rfl,rfl⟩) λr s₁ hr=>?_;cases r with
 | error e=>exact hr
 | ok fl =>
  cases fl with
  | ret obj =>
   obtain⟨led,b9,rfl,rfl⟩:=hr;have gS:(s.heap.push {cls:=.type "set",dict:=pY,data:=.set #[] 0 (.fresh 0 0 led)}).get? s.heap.objs.size=pX {cls:=.type "set",dict:=pY,data:=.set #[] 0 (.fresh 0 0 led)}:=AS _ rfl;have tS:VU {s with heap:=s.heap.push {cls:=.type "set",dict:=pY,data:=.set #[] 0 (.fresh 0 0 led)}} (.ref s.heap.objs.size) "set":=⟨_,gS,rfl⟩;have il:=HP.init.lookup;have ib:=HP.init.bind (.ref s.heap.objs.size)
   repeat (any_goals (first| assumption| wp_step))
   refine E7 (QH (R:=wants (λr s₂=>r=.none/\∃h' tk es t ks,s₂={s with heap:=h',toks:=tk}/\TS prog w h' s.heap.objs.size es t ks/\Of vals items.size ks/\(∀b o,s.heap.get? b=pX o->h'.get? b=pX o)) E) HP.init.plain F.entry_set_init (check_set_init_1 tS ?_)) λr₂ s₂ hr₂=>?_
   .obtain⟨⟨ocls,oF,odata,lP⟩,iq,i6,nl,mr⟩:=id hl
    simp only at i6 mr;subst i6 mr;have hol2:(s.heap.push {cls:=.type "set",dict:=pY,data:=.set #[] 0 (.fresh 0 0 led)}).get? l=pX {cls:=.type "list",dict:=oF,data:=.seq items nl,slots:=lP}:=AG _ iq;have s1:=F.sub_list_set;have s2:=F.sub_list_frozenset;have s3:(DS "list" == DS "dict")=false:=by decide
    have mF:(s.heap.push {cls:=.type "set",dict:=pY,data:=.set #[] 0 (.fresh 0 0 led)}).IsList l items:=⟨_,hol2,rfl,nl,rfl⟩;unfold Builtin.«set.__init__» noKeywords U8;generalize hPI:O8=PI
    wp_walk
    subst hPI;refine Nc mF ?_;refine Ap (MD ?_);have ll:l<s.heap.objs.size:=Be iq;have h3:A.in1.in1.in1.handled=pY:=by simp[hh]
    have nI:l≠(s.heap.push {cls:=.type "set",dict:=pY,data:=.set #[] 0 (.fresh 0 0 led)}).objs.size:=by
     rw[D5];exact BM (FS ll)
    have nS:s.heap.objs.size∉[(s.heap.push {cls:=.type "set",dict:=pY,data:=.set #[] 0 (.fresh 0 0 led)}).objs.size,l]:=by
     rw[D5];simp only[BF,Cb,JY,or_false,not_or];exact⟨BM (F6 _),WB ll⟩
    have lows:∀j,j<items.size->(vals j).2<s.heap.objs.size:=λj hj=>by
     obtain⟨o,_,_,ho,_⟩:=hK j hj;exact Be ho
    have gE:∀(x:Obj) b o,s.heap.get? b=pX o->((s.heap.push {cls:=.type "set",dict:=pY,data:=.set #[] 0 (.fresh 0 0 led)}).push x).get? b=pX o:=λx b o e=>AG _ (AG _ e);refine Xn (s:=_) ((XZ h3 _ l nI items).toS) s.heap.objs.size nS vals hv dA (λj hj z=>?_) ?_ (λs' bo t' bu X' O' mv=>?_) (items.size-0) 0 _ #[] (.fresh 0 0 led) [] (by lia) (BD _)
     ⟨⟨_,AS _ rfl,rfl,rfl⟩,(mF.push _)⟩ (Zh b9 (AG _ gS)) (λj hj=>Gg (hK j hj) λo e=>gE _ _ _ e) ⟨λx hx=>(by cases hx),λj hj=>qB hj qv,AH _⟩ (Moved.refl λ_=>rfl)
    .have:=lows j hj
     rw[D5] at z;simp only[BF,Cb,JY,or_false] at z;rcases z with z| z
     .exact qB z (BM this)
     .exact qB z (BM (FS this))
    .show A.units+1+1+1<Cn
     lia
    .obtain⟨h',g',d',tk',os'⟩:=s'
     have eg:g'=s.gens:=mv.gens;have ed:d'=s.drawn:=mv.drawn;have eo:os'=s.os:=mv.os;subst eg ed eo;show wpAny _ _ _ _ _ _;refine AC ?_;show wpAny _ _ (ret CY) _ _ _;refine AC ⟨rfl,h',tk',bo,t',bu,rfl,X',O',λb o e=>?_⟩;have hb:=Be e;refine mv.heap b o ?_ (gE _ b o e);rw[D5];simp only[BF,Cb,JY,or_false,not_or];exact⟨BM hb,BM (FS hb)⟩
   .cases r₂ with
    | error e=>exact hr₂
    | ok fl₂ =>
     cases fl₂ with
     | ret r =>
      obtain⟨rfl,h',tk,es,t,ks,rfl,X',O',kp⟩:=hr₂
      repeat (any_goals (first| assumption| wp_step))
      exact q _ _ _ _ _ X' O' kp
     | _=>exact hr₂.elim
  | _=>exact hr.elim
end SB
namespace L2
open PySem PySem.Spec PyProof.Rows
theorem ik_ofB(I:Inv X ae σ H s)(h:SqT X.K H b (ns.map V.int)):SB.IK X.prog X.w s.heap ns b:=by
 obtain⟨ah,r,⟨o,ho,hc,n,hd⟩,_⟩:=I.tuple h;exact⟨o,ah.toArray,n,ho,hc,hd,by simpa using Qw r⟩
end L2
namespace SB
open PySem PySem.W PyProof.Rows
structure RowE(prog:AK)(w:AQ)(h:Heap)(vs:List As)(ks:List (qC×Addr)):Prop where
 vals:vs=ks.map λx=>AW x.2
 keys:∀x∈ks,IK prog w h x.1 x.2
 nd:(ks.map (·.1)).Nodup
theorem RowE.tot(R:RowE prog w h vs ks):Tot ks.length (ltK ks):=by
 have ne:∀i j,i<ks.length->j<ks.length->i≠j->(ks.getD i ([],0)).1≠(ks.getD j ([],0)).1:=λi j hi hj d5 e=>by
  have r:=Co.mp R.nd;have g1:(ks.getD i ([],0)).1=(ks.map (·.1))[i]'(by simpa using hi):=by simp[AD,hi]
  have g2:(ks.getD j ([],0)).1=(ks.map (·.1))[j]'(by simpa using hj):=by simp[AD,hj]
  rw[g1,g2] at e;rcases Nat.lt_or_gt_of_ne d5 with c| c
  .exact r i j _ _ c e
  .exact r j i _ _ c e.symm
 exact⟨λi j hi hj d5 e=>Vp (ne i j hi hj d5) e,λi j _ _ e=>Ii e,λi j k _ _ _ e1 e2=>Vk e1 e2⟩
theorem AAs(h:ItemsAre (KA prog w) ns vs):Fk vs ns:=by
 induction h with
 | nil=>exact .nil
 | cons h1 _ ih =>
  obtain⟨t,rfl⟩:=FM h1;exact .cons _ t ih
theorem Oh{x:qC}(hx:IK prog w s.heap x a):∃items:Array As,SC s.heap a items/\Fk items.toList x:=by
 obtain⟨o,xs,n,g,c,d,i⟩:=hx;exact⟨xs,⟨o,g,c,n,d⟩,AAs i⟩
theorem Kh(x y:As):UU TW x y=oneLt' false x y:=rfl
theorem AEZ{x y:qC}{c:Addr}{Q:qG}(hu:A.units<Cn)(hx:IK prog w s.heap x a)(hy:IK prog w s.heap y c)(q:Q (HT.lexLt x y) s):wpAny (AM prog w) A (UU TW (.ref a) (.ref c)) Q E s:=by
 obtain⟨i1,t1,j1⟩:=Oh hx;obtain⟨i2,t2,j2⟩:=Oh hy;rw[Kh];exact kat_one _ _ (HT.Ul t1 t2 j1 j2 hu q)
theorem AFG{x y:qC}{c:Addr}{Q:qG}(hu:A.units<Cn)(hx:IK prog w s.heap x a)(hy:IK prog w s.heap y c)(q:Q (HT.lexLt x y) s):wpAny (AM prog w) A (UU oneType' (.ref a) (.ref c)) Q E s:=by
 obtain⟨i1,t1,j1⟩:=Oh hx;obtain⟨i2,t2,j2⟩:=Oh hy;obtain⟨⟨cls,dd,data,sl⟩,ho,hc,n,hd⟩:=id t1;obtain⟨⟨iL,f',We,gg⟩,dQ,eJ,n2,eI⟩:=id t2;simp only at hc hd eJ eI;subst hc hd eJ eI;rw[U7,oneLt'_eq];refine Ap (wpAny_cRoomFor hu ?_);refine Ap (wpAny_callSpecialIfBound?_slot (T:="tuple") ⟨_,ho,rfl⟩ Lu ?_);exact Qb Lu ⟨_,ho,rfl⟩ OX (Oy _ _) (HT.Gq a c i1 i2 n n2 dd f' sl gg x y j1 j2) ⟨ho,dQ,FO q⟩
theorem NT:∀(ks:List (qC×Addr)) {Q:List (Option As)->AA->Prop},(∀x∈ks,IK prog w s.heap x.1 x.2)->(∀fs:List (Option As),fs.map (·.isSome)=ks.map (λx=>!x.1.isEmpty)->Q fs s)->wpAny (AM prog w) A ((ks.map λx=>AW x.2).mapM firstOfTuple') Q E s
 | [],_,_,h=>by rw[IX,List.mapM_nil];exact AC (h [] rfl)
 | x::ks,Q,hk,h=>by
  obtain⟨o,xs,n,ho,hc,hd,hi⟩:=hk x AI;rw[BG,List.mapM_cons];refine Ap ?_;rw[kas_first_eq];refine Ap (X0 ((W0 ho).andThen .now) ?_);rw[hc,pZ (by first| decide| simp)];refine Ap (N3 ho hd (AC ?_));refine Ap (NT ks (Q:=λbs s'=>wpAny (AM prog w) A (pure (xs[0]?::bs)) Q E s') (λy hy=>hk y (AJ _ hy)) λfs mX=>AC (h _ ?_));rw[BG,BG,mX]
  congr 1
  have l:=hi.length;rw[AZ] at l;by_cases e:x.1=[]
  .rw[e] at l ⊢
   rw[F9 (by simp at l;exact qK l)];rfl
  .have:0<xs.size:=by
    have:=Q8.mpr e;exact rN this l
   rw[A9 this];cases hx:x.1 with
   | nil=>exact qB hx e
   | cons a b=>rfl
theorem ACT{Q:Eg->AA->Prop}(hk:∀x∈ks,IK prog w s.heap x.1 x.2)(he:∃x∈ks,x.1=[])(q1:Q TW s)(q2:Q oneType' s):wpAny (AM prog w) A (keyKind' (ks.map λx=>AW x.2).toArray) Q E s:=by
 rw[kat_kind_eq,SY,map_eq_pure_bind];refine Ap (Ap (NT ks hk λfs mX=>AC ?_));have bq:¬ ((fs.toArray.all λx=>x.isSome)=true):=λh=>by
  obtain⟨x,hx,ex⟩:=he;obtain⟨i,hi,gx⟩:=List.getElem_of_mem hx;have l:fs.length=ks.length:=by simpa using congrArg ER mX
  have z:(fs.map (·.isSome))[i]?=(ks.map (λx=>!x.1.isEmpty))[i]?:=by rw[mX]
  have g0:i<fs.length:=fv hi l;rw[Bi,Bi,AL hi,AL g0,gx] at z;have z':fs[i].isSome=false:=by simpa [ex] using z
  have:=EL.mp (by simpa using h) fs[i] (F8 g0);rw[z'] at this;exact qB this (by decide)
 rw[pZ bq];refine wpAny_ite ?_;split
 .exact AC q1
 .rw[oneTypeOnly'_eq,SY,map_eq_pure_bind]
  refine Ap (Ap (Ap (kas_mapM (r:=DS "tuple") _ (λv hv Q' hq=>?_) (AC ?_))))
  .obtain⟨x,hx,rfl⟩:=AY.mp hv
   obtain⟨o,xs,n,ho,hc,hd,hi⟩:=hk x hx;refine X0 ((W0 ho).andThen .now) ?_;rw[hc];exact hq
  .have pN:∀T:As,(T==T)=true->((TZ (λ_=>T) (ks.map λx=>AW x.2)).toArray.all λx=>x==T)=true:=λT hT=>by
    simp only[List.all_toArray,W8,EL];intro _ _;exact hT
   have h0:(TZ (λ_=>DS "tuple") (ks.map λx=>AW x.2)).toArray[0]?=pX (DS "tuple"):=by
    obtain⟨x,hx,_⟩:=he;cases ks with
    | nil=>cases hx
    | cons a b=>simp
   rw[h0];simp only[pN (DS "tuple") (by decide),if_true];exact AC (AC q2)
def KOk(prog:AK)(w:AQ)(κ:Eg):Prop:=∀(A:BO) (E:As->AA->Prop) (s:AA) (x y:qC) (a c:Addr) (Q:qG),A.units<Cn->IK prog w s.heap x a->IK prog w s.heap y c->Q (HT.lexLt x y) s ->
 wpAny (AM prog w) A (UU κ (.ref a) (.ref c)) Q E s
theorem kind_any{Q:Eg->AA->Prop}(R:RowE prog w s.heap vs ks)(h2:2<=ks.length)(q:∀κ,KOk prog w κ->Q κ s):wpAny (AM prog w) A (keyKind' vs.toArray) Q E s:=by
 by_cases c:∃x∈ks,x.1=[]
 .rw[R.vals]
  exact ACT R.keys c (q _ λA E s x y a c Q hu hx hy h=>AEZ hu hx hy h) (q _ λA E s x y a c Q hu hx hy h=>AFG hu hx hy h)
 .have R':Row prog w s.heap vs ks:=⟨R.vals,R.keys,λx hx e=>c ⟨x,hx,e⟩,R.nd⟩
  obtain⟨fs,kt,lf,mX⟩:=R'.tups;have lk:ks.length=vs.length:=by rw[R.vals,AB]
  exact kat_kind (T:=.type "int") kt (by lia) (λv hv=>by obtain⟨n,t,rfl⟩:=mX v hv;exact VS rfl) (by decide) (q _ λA E s x y a c Q hu hx hy h=>AEV hx hy h)
theorem Mw(R:RowE prog w h vs ks)(e:∀x∈ks,∀o,h.get? x.2=pX o->h'.get? x.2=pX o):RowE prog w h' vs ks:=⟨R.vals,λx hx=>Gg (R.keys x hx) λo=>e x hx o,R.nd⟩
theorem RowE.key(R:RowE prog w h vs ks)(hi:i<ks.length):IK prog w h (ks.getD i ([],0)).1 (ks.getD i ([],0)).2:=by
 have e:ks.getD i ([],0)=ks[i]:=by simp[AD,hi]
 rw[e];exact R.keys _ (F8 hi)
theorem RowE.rk(R:RowE prog w h vs ks)(hi:i<ks.length):rkK ks (itK ks i)=cntK ks (ks.getD i ([],0)).1:=by
 have ex:∃j,j<ks.length/\(itK ks i).1=AW (ks.getD j ([],0)).2:=⟨i,hi,rfl⟩;unfold rkK;rw[dif_pos ex];obtain⟨hj,ej⟩:=Fn ex;have ea:(ks.getD i ([],0)).2=(ks.getD (EO ex) ([],0)).2:=by
  have:AW (ks.getD i ([],0)).2=AW (ks.getD (EO ex) ([],0)).2:=ej;injection this
 have k1:=R.key hi;have k2:=R.key hj;rw[<- ea] at k2;rw[AFm k1 k2]
theorem RowE.rk_lt(R:RowE prog w h vs ks)(hi:i<ks.length)(hj:j<ks.length):decide (rkK ks (itK ks i)<rkK ks (itK ks j))=ltK ks i j:=by
 rw[R.rk hi,R.rk hj];have mk:∀{i:Nat},i<ks.length->(ks.getD i ([],0)).1∈ks.map (·.1):=λ{i} hi=>F4 (by
  have e:ks.getD i ([],0)=ks[i]:=by simp[AD,hi]
  rw[e];exact F8 hi)
 unfold ltK;cases c:HT.lexLt (ks.getD i ([],0)).1 (ks.getD j ([],0)).1 with
 | true=>exact p7 (Td (mk hi) c)
 | false =>
  refine p8 ?_;by_cases e:(ks.getD i ([],0)).1=(ks.getD j ([],0)).1
  .rw[e];exact Q3 _
  .have:=Td (ks:=ks) (mk hj) (Vp e c)
   exact tU this
theorem ZJ(hκ:KOk prog w κ)(hu:A.units<Cn)(R:RowE prog w s.heap vs ks) :
  wpAny (AM prog w) A (sortRuns'.run (IH κ (vs.toArray.zip vs.toArray) #[] 7 pY)) (λr s'=>s'=s/\∃p:Array Nat,PP ks.length p/\Up (ltK ks) p ks.length/\AR r.2=p.map (W9 (vs.toArray.zip vs.toArray))/\FI r.2=pY) E s:=by
 have lk:ks.length=vs.length:=by rw[R.vals,AB]
 have T:=R.tot;have gi:∀i,i<ks.length->W9 (vs.toArray.zip vs.toArray) i=itK ks i:=λi hi=>by
  rw[kat_item rfl];unfold itK;rw[R.vals];simp[AD,hi]
 have e0:(vs.toArray.zip vs.toArray).toList=(AO ks.length).map (itK ks):=by
  have:=congrArg RE (kas_range (vs.toArray.zip vs.toArray));rw[<- this,N9,show(vs.toArray.zip vs.toArray).size=ks.length by rw[lk];simp];exact DJ λi hi=>gi i (AV.mp hi)
 have C:TM.Cmp prog w A E s κ (λx=>∃i,i<ks.length/\x=itK ks i) (rkK ks):=λx y ⟨i,hi,ex⟩ ⟨j,hj,ey⟩ st Q kd q=>by
  subst ex ey;rw[lt'_eq];refine AN (JJ ?_);rw[kd];refine AN (MH (M5 (hκ _ _ _ _ _ _ _ _ hu (R.key hi) (R.key hj) ⟨rfl,?_⟩)));rw[R.rk_lt hi hj] at q;exact AX q
 have al:TM.Al (λx=>∃i,i<ks.length/\x=itK ks i) (vs.toArray.zip vs.toArray):=λi x e=>by
  rw[<- BY,e0,Bi] at e;cases g:(AO ks.length)[i]? with
  | none=>rw[g] at e;cases e
  | some k =>
   rw[g] at e;have hk:=AV.mp (By g);exact⟨k,hk,(A8 e).symm⟩
 have di:TM.Di (rkK ks) (vs.toArray.zip vs.toArray):=by
  unfold TM.Di;rw[e0,Ee];unfold Ha;rw[B5];refine C8 (λ{i j} hi hj ij e=>?_) HK;have bh:=AV.mp hi;have bj:=AV.mp hj;have e':rkK ks (itK ks i)=rkK ks (itK ks j):=e;have z1:=R.rk_lt bh bj;have z2:=R.rk_lt bj bh;rw[e',p8 (Q3 _)] at z1;rw[e',p8 (Q3 _)] at z2;have:=T.or i j bh bj ij z1.symm;rw[<- z2] at this;cases this
 have W:=TM.MK C (st:=IH κ (vs.toArray.zip vs.toArray) #[] 7 pY) (a₀:=vs.toArray.zip vs.toArray) ⟨UR _,rfl,rfl,al,di⟩ rfl
  (Q:=λ_ ar=>∃p:Array Nat,PP ks.length p/\Up (ltK ks) p ks.length/\AR ar=p.map (W9 (vs.toArray.zip vs.toArray))/\FI ar=pY) λar B up=>by
  have pm:=G4.mp B.perm;rw[e0] at pm;obtain⟨l,pl,el⟩:=perm_back pm (AO ks.length) rfl;have ll:l.length=ks.length:=by rw[pl.length_eq,B0]
  have lt:∀{k:Nat},k<ks.length->g l.toArray k<ks.length/\l[k]?=pX (g l.toArray k):=λ{k} hk=>by
   have a5:k<l.length:=fv hk ll;have e:g l.toArray k=l[k]:=by unfold g;simp[DI,a5]
   rw[e];exact⟨AV.mp (pl.mem_iff.mp (F8 a5)),AL a5⟩
  have nd:=pl.nodup_iff.mpr HK;have at_:∀{k:Nat},k<ks.length->TM.N (rkK ks) (AR ar) k=rkK ks (itK ks (g l.toArray k)):=λ{k} hk=>by
   unfold TM.N;rw[<- BY,el,Bi,(lt hk).2];rfl
  have sz:(vs.toArray.zip vs.toArray).size=ks.length:=by rw[lk];simp
  refine⟨l.toArray,⟨by simpa using ll,λk hk=>(lt hk).1,λk k' hk a5 e=>?_⟩,λx y xy hy=>?_,?_,B.failed⟩
  .have a1:=(lt hk).2
   have a2:=(lt a5).2;rw[<- e] at a2;exact(KW (fv hk ll) nd).mp (a1.trans a2.symm)
  .have hx:x<ks.length:=qj xy hy
   have u:=up x y (BD _) (rY xy) (by rw[sz];exact hy);rw[at_ hx,at_ hy] at u;cases c:ltK ks (g l.toArray x) (g l.toArray y) with
   | true=>rfl
   | false =>
    have ne:g l.toArray x≠g l.toArray y:=λe=>by
     have a1:=(lt hx).2;have a2:=(lt hy).2;rw[<- e] at a2;have:=(KW (fv hx ll) nd).mp (a1.trans a2.symm);exact qL xy this
    have z:=T.or _ _ (lt hx).1 (lt hy).1 ne c;rw[<- R.rk_lt (lt hy).1 (lt hx).1] at z;have:=qA z;lia
  .apply T3.mp
   rw[el,N9];refine DJ λi hi=>(gi i ?_).symm;exact AV.mp (pl.mem_iff.mp (by simpa using hi))
 exact D2 W (λr s' h=>h) λ_ _ e=>e
theorem Ky{P:PySem.Fin->AA->Prop}(ho:s.heap.get? a=pX (C4 "list" vs.toArray n))(R:RowE prog w s.heap vs ks)(hz:vs.length<=100000)(hu:A.units<Cn)
  (h:∀p:Array Nat,PP ks.length p->Up (ltK ks) p ks.length->P (.done (.ret .none)) {s with heap:=sortedHeap s.heap a vs (JI (p.toList.map λi=>vs.getD i CY))}) :
  wpAny (AM prog w) A (Builtin.«list.sort» ⟨[.ref a],[]⟩) P E s:=by
 have la:=Be ho;have lk:ks.length=vs.length:=by rw[R.vals,AB]
 rw[list_sort_plain];refine Ap (N3 ho rfl ?_);refine Ap (M4 ho rfl ?_);obtain⟨e1,ho1⟩:∃e1,(s.heap.update a (CU λ_=>#[])).get? a=pX (C4 "list" #[] e1):=⟨_,get?_update_seq ho (λ_=>#[])⟩;refine Ap (Ta ho1 rfl ?_);refine Ap (wpAny_newTuple ?_);refine Ap (K9 ?_);refine DC ?_;have hoa:(((s.heap.update a (CU λ_=>#[])).push (C4 "tuple" vs.toArray 0)).push (C4 "list" #[] 0)).get? a=pX (C4 "list" #[] e1):=AG _ (AG _ ho1);dsimp only;have vz:vs.toArray.size=vs.length:=by simp
 by_cases h2:vs.toArray.size<2
 .rw[p6 h2,p6 h2]
  refine Ap (AC ?_);rw[StateT.run_pure];refine Ap (AC ?_);dsimp only;have out:((vs.toArray.zip vs.toArray).map (·.2))=JI ((JI (AO ks.length)).toList.map λi=>vs.getD i CY):=by
   apply T3.mp;rw[N9,Array.toList_zip,List.map_snd_zip (by simp),lk];apply FR;intro i;by_cases c:i<vs.length
   .simp[c]
   .simp[c]
  refine Ap (Ta hoa rfl ?_);refine Ap (M4 hoa rfl ?_ (hsz2:=by rw[Array.size_map,Array.size_zip,vz,EQ];lia));simp only[bne_self_eq_false,BU,if_false];refine AC ?_;rw[show(AR (IH TW (vs.toArray.zip vs.toArray) #[] 7 pY)).map (·.2)=_ from out];exact h _ (AAx _) λx y hxy hy=>qB hxy (by lia)
 .rw[pZ h2,pZ h2]
  have R1:RowE prog w (((s.heap.update a (CU λ_=>#[])).push (C4 "tuple" vs.toArray 0)).push (C4 "list" #[] 0)) vs ks:=Mw R λx hx o gx=>by
   have ne:x.2≠a:=λe=>by
    obtain⟨o',_,_,go',co',_⟩:=R.keys x hx;rw[e,ho] at go';cases go';have z:DS "list" = DS "tuple":=co';exact qB z (by decide)
   exact AG _ (AG _ ((DZ _ _ (CB ne)).trans gx))
  refine Ap (kind_any (s:={s with heap:=((s.heap.update a (CU λ_=>#[])).push (C4 "tuple" vs.toArray 0)).push (C4 "list" #[] 0)}) R1 (by lia) λκ hκ=>?_);refine Ap (D2 (ZJ hκ hu (s:={s with heap:=((s.heap.update a (CU λ_=>#[])).push (C4 "tuple" vs.toArray 0)).push (C4 "list" #[] 0)}) R1) ?_ λ_ _ e=>e)
  .rintro⟨⟨⟩,ar⟩ s' ⟨rfl,p,P1,P2,har,hf⟩
   have hout:=kat_snds (ks:=vs) (vs:=vs) rfl har;rw[hout];refine Ap (Ta hoa rfl ?_);refine Ap (M4 hoa rfl ?_ (hsz2:=by rw[AU,AB,AZ,P1.size,EQ];lia));rw[hf];simp only[bne_self_eq_false,BU,if_false];exact AC (h p P1 P2)
section
variable{es:Array (Int×As)}{t:CS}
theorem Rx(hu:A.units+2<Cn)(hh:A.handled=pY)(X:TS prog w s.heap S es t ks)(hK:∀x∈ks,IK prog w s.heap x.1 x.2)(dA:ks.length<=301)
  (q:∀(h':Heap) (tk:Nat) (D:Addr) (ko:List (qC×Addr)) (e:Nat),(∀b ob,s.heap.get? b=pX ob->h'.get? b=pX ob)->s.heap.objs.size<=D->h'.get? D=pX (C4 "list" (ko.map λx=>AW x.2).toArray e)->ko.Perm ks->(ko.map (·.1)).Pairwise (λa b=>HT.lexLt a b=true)->Q (.ref D) {s with heap:=h',toks:=tk}) :
  wpAny (AM prog w) A (call (.builtin "sorted") [.ref S]) Q E s:=by
 obtain⟨o,ep,ho,c6,hd⟩:=X.obj;have lks:ks.length=es.size:=by
  have:=congrArg ER X.els;rw[AB,AZ] at this;exact this.symm
 refine G9 S8 R7 R8 (Sa _) ?_;unfold N4;refine Ap (m:=UE "sorted" 1 1 _) (AC ?_);refine Ap (TQ (A:=A.in1) (by simp[hh]) ho c6 hd X.tab X.len X.pl X.ld (qF lks dA) λh1 tk1 acc kp hsz aS=>?_);have op:=Sd w S ep es;rw[X.els] at op;obtain⟨k1,p1,e1⟩:=perm_back op ks rfl;rw[e1,W7,Ee] at aS;have hvs:=aS;generalize hv:acc.toList=vs at hvs;have lvs:vs.length=ks.length:=by rw[hvs,AB,p1.length_eq]
 refine Ap (K9 ?_ (by rw[EQ];lia));have gp:(h1.push (C4 "list" vs.toArray 0)).get? h1.objs.size=pX (C4 "list" vs.toArray 0):=AS _ rfl;have lT:∀b ob,s.heap.get? b=pX ob->(h1.push (C4 "list" vs.toArray 0)).get? b=pX ob:=λb ob e=>AG _ (kp b ob e);have R:RowE prog w (h1.push (C4 "list" vs.toArray 0)) vs k1:=⟨hvs,λx hx=>Gg (hK x (p1.mem_iff.mp hx)) λob e=>lT _ ob e,(Mo (p1.map (·.1))).mpr X.nd⟩;refine Ap (DC (Da Pl ⟨_,gp,rfl⟩ OK (Ky (s:={s with heap:=h1.push (C4 "list" vs.toArray 0),toks:=tk1}) gp R (by lia) (sg hu) λp P1 P2=>⟨_,rfl,?_⟩) (Pm _)));refine AC ⟨_,rfl,?_⟩;obtain⟨e,he⟩:=sortedHeap_at (out:=JI (p.toList.map λi=>vs.getD i CY)) gp;have lk1:=p1.length_eq;have eo:(p.toList.map λi=>vs.getD i CY)=(p.toList.map λi=>k1.getD i ([],0)).map λx=>AW x.2:=by
  rw[Ee];refine DJ λi hi=>?_;have bh:=AV.mp ((Gd P1).mem_iff.mp hi);rw[hvs];simp[AD,bh]
 rw[eo] at he ⊢;have pk:(p.toList.map λi=>k1.getD i ([],0)).Perm k1:=by
  have z:=SB.Gf (l:=k1) (Gd P1);rw[SB.GD ([],0) λi hi=>AV.mp ((Gd P1).mem_iff.mp hi)] at z;exact z
 refine q _ tk1 h1.objs.size _ e (λb ob eb=>?_) hsz he (pk.trans p1) ?_
 .have hb:=Be (kp b ob eb)
  rw[U9 (BM hb) (by rw[D5];exact FS hb)];exact lT b ob eb
 .rw[Ee]
  refine Co.mpr λi j hi hj d5=>?_;have bh:i<p.size:=by simpa using hi
  have bj:j<p.size:=by simpa using hj
  have z:=P2 i j d5 (by rw[<- P1.size];exact bj);unfold ltK g at z;simpa [DI,bh,bj] using z
end
end SB
namespace L2
open PySem PySem.Spec PyProof.Rows
def YX(K:Au)(te:TE):TE:=λσ H Q=>te σ H λv H1=>∃a xs rs,v=.ref a/\SqL K H1 a xs/\A7 (rPair K H1) rs xs/\(∀ms:qD,ms.Nodup->(∀m∈ms,m∈rs)->ms.length<=300) /\
 ∀l ys ms,H1 l=none->ms.Pairwise (λa b=>HT.lexLt a b=true)->(∀r,r∈ms↔r∈rs)->A7 (rPair K H1) ms ys->A7 (λm y=>∃i:Nat,rs[i]?=pX m/\xs[i]?=pX y) ms ys->Q (.ref l) (upd H1 l (.lst ys))
theorem Rk(hc:X.calm=true)(hu:X.A.units+7<Cn)(hg:Gl X "sorted")(hm:X.mg "sorted" = pY)(ke:Gl X "set")(hm2:X.mg "set" = pY)(he:PE X e te)
  (hv:IT "sorted" = pX (.builtin "sorted"):=by exact DF) (hv2:IT "set" = pX (.type "set"):=by decide+kernel)
  (s1:autoParam (Cs [e] X.env=(false,eval e X.env)::Cs [] X.env) zA0._auto_1)
  (s2:autoParam (Cs [.Call (.Name "set" p2) [e] [] ip] X.env=(false,eval (.Call (.Name "set" p2) [e] [] ip) X.env)::Cs [] X.env) zA0._auto_1) :
  PE X (.Call (.Name "sorted" p1) [.Call (.Name "set" p2) [e] [] ip] [] pos) (YX X.K te):=by
 intro ae s σ H Q I h;refine Fh (Fz I hg hm hv ?_ (by decide) (by decide));refine LM ?_ s2 rfl;rw[s2];refine IC ?_;refine Fh (Fz I ke hm2 hv2 ?_ (by decide) (by decide));refine EC ?_ s1 rfl;rw[s1];refine IC (thn (he ae s σ H _ I h) λu s1 ⟨x,H1,I1,r1,q1⟩=>?_);refine KL ?_;obtain⟨a,xs,rs,rfl,ha,pr,dA,q⟩:=q1;cases r1;obtain⟨ah,r,pl,_⟩:=I1.list ha;have lx:=r.length;have lr:=AT pr;have hl:=pl.isList;have at_:∀i:Nat,i<ah.length->∃b ns,ah[i]?=pX (.ref b)/\xs[i]?=pX (.ref b)/\rs[i]?=pX ns/\rPair X.K H1 ns (.ref b):=λi hi=>by
  have hx:i<xs.length:=fv hi lx;obtain⟨ns,h9,rp⟩:=Paired.get pr (AL hx);obtain⟨b,eb,hb⟩:=Bk rp;obtain⟨u,iF,ru⟩:=r.get (AL hx);rw[eb] at ru rp;cases ru;exact⟨b,ns,iF,by rw[AL hx,eb],h9,rp⟩
 have pick:∃vals:Nat->qC×Addr,∀i:Nat,i<ah.length->ah[i]?=pX (.ref (vals i).2)/\rs[i]?=pX (vals i).1/\rPair X.K H1 (vals i).1 (.ref (vals i).2)/\xs[i]?=pX (.ref (vals i).2):=by
  refine⟨λi=>if h:i<ah.length then(EO (Fn (at_ i h)),EO (at_ i h)) else([],0),λi hi=>?_⟩;have z:=Fn (Fn (at_ i hi));dsimp only;rw[dif_pos hi];exact⟨z.1,z.2.2.1,z.2.2.2,z.2.1⟩
 obtain⟨vals,b5⟩:=pick;have hsz:ah.toArray.size=ah.length:=by simp
 have few:∀ks:List (qC×Addr),(∀x∈ks,∃j,j<ah.length/\x=vals j)->(ks.map (·.1)).Nodup->ks.length<=300:=λks hs hn=>by
  have:=dA (ks.map (·.1)) hn λm hm=>by
   obtain⟨x,hx,rfl⟩:=AY.mp hm;obtain⟨j,hj,rfl⟩:=hs x hx;exact By (b5 j hj).2.1
  rwa [AB] at this
 refine SB.ACg (items:=ah.toArray) (vals:=vals) (I1.ok.hd hc) (by lia) hl (λi v hv=>?_) (λj hj=>?_) (by rw[hsz];exact few) λh' tk es t ks T O kp=>?_
 .have hi:i<ah.length:=by
   have:=(C2.mp hv).1;rw[hsz] at this;exact this
  have z:=(b5 i hi).1;have g9:ah[i]?=pX v:=by simpa using hv
  rw[g9] at z;exact A8 z
 .rw[hsz] at hj
  obtain⟨b,eb,hb⟩:=Bk (b5 j hj).2.2.1;cases eb;exact ik_ofB I1 hb
 refine KL ?_;rw[hsz] at O;have hK:∀x∈ks,SB.IK X.prog X.w h' x.1 x.2:=λx hx=>by
  obtain⟨j,hj,rfl⟩:=O.sub x hx;obtain⟨b,eb,hb⟩:=Bk (b5 j hj).2.2.1;cases eb;exact SB.Gg (ik_ofB I1 hb) λo e=>kp _ o e
 have inrs:∀j,j<ah.length->(vals j).1∈rs:=λj hj=>By (b5 j hj).2.1;have hSz:s1.heap.objs.size<=h'.objs.size:=by
  obtain⟨o,_,ho,_⟩:=T.obj;exact DD (Be ho)
 refine SB.Rx (s:={s1 with heap:=h',toks:=tk}) (by lia) (I1.ok.hd hc) T hK (NE (few ks O.sub T.nd)) λh2 tk2 D ko e lT hD he pk so=>?_;have hD':=BQ hSz hD;have hn:=I1.hok.fresh hD';have lko:ko.length<=301:=by rw[pk.length_eq];exact NE (few ks O.sub T.nd)
 have kov:∀x∈ko,∃j,j<ah.length/\x=vals j:=λx hx=>O.sub x (pk.mem_iff.mp hx);have vl:∀l:List (qC×Addr),Vals (l.map λx=>V.ref x.2) (l.map λx=>AW x.2):=λl=>by
  induction l with
  | nil=>exact .nil
  | cons x r ih=>exact .cons rfl ih
 have pv:∀l:List (qC×Addr),(∀x∈l,∃j,j<ah.length/\x=vals j)->A7 (rPair X.K H1) (l.map (·.1)) (l.map λx=>V.ref x.2):=λl=>by
  induction l with
  | nil=>exact λ_=>.nil
  | cons x r ih =>
   intro hh;obtain⟨j,hj,rfl⟩:=hh x AI;exact .cons (b5 j hj).2.2.1 (ih λy hy=>hh y (AJ _ hy))
 have pw:∀l:List (qC×Addr),(∀x∈l,∃j,j<ah.length/\x=vals j)->A7 (λm y=>∃i:Nat,rs[i]?=pX m/\xs[i]?=pX y) (l.map (·.1)) (l.map λx=>V.ref x.2):=λl=>by
  induction l with
  | nil=>exact λ_=>.nil
  | cons x r ih =>
   intro hh;obtain⟨j,hj,rfl⟩:=hh x AI;exact .cons ⟨j,(b5 j hj).2.1,(b5 j hj).2.2.2⟩ (ih λy hy=>hh y (AJ _ hy))
 refine⟨.ref D,_,I1.laid (o:=.lst (ko.map λx=>V.ref x.2)) (a:=D) (t':=tk2) (λb o eb=>lT b o (kp b o eb)) hD' ⟨?_,ko.map (λx=>AW x.2),e,vl ko,he⟩,rfl,q D _ (ko.map (·.1)) hn so (λrr=>?_) (pv ko kov) (pw ko kov)⟩
 .rw[AB]
  exact small (by lia)
 .constructor
  .intro hr
   obtain⟨x,hx,rfl⟩:=AY.mp hr;obtain⟨j,hj,rfl⟩:=kov x hx;exact inrs j hj
  .intro hr
   obtain⟨j,hj⟩:=Fm.mp hr;have hjl:j<ah.length:=by
    have:=(AF.mp hj).1;lia
   have z:=(b5 j hjl).2.1;rw[hj] at z;cases z;exact(pk.map (·.1)).mem_iff.mpr (O.sup j hjl)
end L2
namespace K33s
open PySem L2 G
def Wi(K:Au)(C:Addr):Sp:=λvs H Q _=>∃(l:Addr) (n top:Nat) (aa:List Row),vs=[.int n,.ref l,.int top]/\RowsAt K H l aa/\Ok n aa/\n<=12/\aa.length<=4100/\FewB aa top/\Knot aa top /\
 ∀(p:Addr) (af:List Row) (hd:Nat) (H':Hp),Same H H'->SvAt K C H' p n af hd->Canon n af hd->(∀s,led af hd s=led aa top s)->(af.length<=4000/\af.length<=aa.length/\∀t,(af.filter λr=>decide (r.1=t)).length<=300)->Q (.ref p) H'
def pl01:List (Key×V):=mergeK [] [(Ff (0:Int),V.int 0),(Ff (1:Int),V.int 1)]
theorem Zu:PlD pl01 λk=>if k=0 then pX 0 else if k=1 then pX 1 else pY:=by
 intro k;show valV (putK (putK ([]:List (Key×V)) (Ff (0:Int)) (V.int 0)) (Ff (1:Int)) (V.int 1)) (Ff (k:Int))=_;rw[Eb,Eb];by_cases k1:k=1
 .subst k1;rfl
 by_cases k0:k=0
 .subst k0;rfl
 rw[pZ (λz=>k1 (by injection z with z;lia)),pZ (λz=>k0 (by injection z with z;lia))];dsimp only;rw[pZ k0,pZ k1];rfl
theorem AEi:pl01.length<=2+4100*0:=by
 show(putK (putK ([]:List (Key×V)) (Ff (0:Int)) (V.int 0)) (Ff (1:Int)) (V.int 1)).length<=2+4100*0;exact BQ (CJ _ _ _) (Nat.succ_le_succ (CJ _ _ _))
def LayR(aa:List Row)(pl:Nat->qP)(H:Hp)(k:Nat)(v:V):Prop:=∃q b,v=.ref q/\H q=pX (.tup [.int k,.ref b])/\H b=pX (.tup (r3 (rowIn aa pl k)))
theorem LayR.keeps{aa:List Row}{k:Nat}(e:∀a xs,H a=pX (.tup xs)->H' a=pX (.tup xs))(h:LayR aa pl H k v):LayR aa pl H' k v :=
 let ⟨q,b,h1,h2,h3⟩:=h;⟨q,b,h1,e _ _ h2,e _ _ h3⟩
def RowR(H:Hp)(r:Row)(v:V):Prop:=∃b,v=.ref b/\H b=pX (.tup (r3 r))
theorem RowR.keeps{r:Row}(e:∀a xs,H a=pX (.tup xs)->H' a=pX (.tup xs))(h:RowR H r v):RowR H' r v :=
 let ⟨b,h1,h2⟩:=h;⟨b,h1,e _ _ h2⟩
def sel(aa:List Row)(pl:Nat->qP)(ly:qE)(j:Nat):List Row:=((ly.take j).map (rowIn aa pl)).filter λr=>decide (r.2.2≠0)
theorem SM{aa:List Row}{k:Nat}(h:ly[j]?=pX k):sel aa pl ly (j+1)=sel aa pl ly j++if(rowIn aa pl k).2.2≠0 then [rowIn aa pl k] else []:=by
 unfold sel;rw[D4,h,BE,C3];by_cases c:(rowIn aa pl k).2.2≠0
 .simp[c]
 .simp[c]
theorem Ws(aa:List Row)(pl:Nat->qP)(ly:qE)(j:Nat):(sel aa pl ly j).length<=ly.length:=by
 unfold sel;refine BQ (Ct _ _) ?_;rw[AB,BS];lia
theorem Pu{aa:List Row}{r:Row}:r∈sel aa pl ly ly.length↔∃k∈ly,r=rowIn aa pl k/\r.2.2≠0:=by
 unfold sel;rw[CI,BV,AY];constructor
 .rintro⟨⟨k,hk,rfl⟩,h⟩
  exact⟨k,hk,rfl,qA h⟩
 .rintro⟨k,hk,rfl,h⟩
  exact⟨⟨k,hk,rfl⟩,p7 h⟩
def placeOf(aa:List Row)(pl:Nat->qP)(af:List Row)(k:Nat):Nat:=(numOf 2 af (rowIn aa pl k)).getD (rowIn aa pl k).2.1
theorem Jr{α β γ:Type}{F:β->γ->Prop}{f:α->β}:∀{l:List α}{m:List γ},A7 (λa b=>F (f a) b) l m->A7 F (l.map f) m
 | _,_,.nil=>.nil
 | _,_,.cons h t=>.cons h (Jr t)
theorem ADV{aa new:List Row}{t:Nat}(h:(new.map r3i).Pairwise (λa b=>HT.lexLt a b=true))(hw:∀r,r∈new->∃k,k∈rc/\tieOf aa k=t/\r=rowIn aa pl k/\r.2.2≠0):new.Pairwise RowLt:=by
 have h2:new.Pairwise (λa b=>HT.lexLt (r3i a) (r3i b)=true):=B5.mp h;have tie:∀r∈new,r.1=t:=λr hr=>by
  obtain⟨k,_,h,e,_⟩:=hw r hr;rw[e];exact h
 refine C8 (λ{a b} ha hb z=>?_) h2;have ea:=tie a ha;have eb:=tie b hb;obtain⟨a1,a2,a3⟩:=a;obtain⟨b1,b2,b3⟩:=b;dsimp only at ea eb;subst ea;subst eb;unfold r3i at z;dsimp only at z;rw[HT.Bs,p6 rfl,HT.Bs] at z;refine .inr ⟨rfl,?_⟩;dsimp only;by_cases c:(a2:Int)=b2
 .rw[p6 c,HT.Bs] at z
  by_cases d:(a3:Int)=b3
  .rw[p6 d] at z
   cases z
  .rw[pZ d] at z
   have:=qA z;exact .inr ⟨qk c,rX this⟩
 .rw[pZ c] at z
  have:=qA z;exact .inl (rX this)
theorem Du:FnScope ["n","rows","top","reached","numbers","places","tie","layer","row","knot"] zl21 (Ag Lb):=fscp (by decide+kernel)
theorem ABl(F:Fun K "least_graph" "least_graph" Lb f fd)(T:Txt K mg C)(M:Mk K C fS)
  (GR:Cal P w K mg base 1 fR gm "reached_knots" zl20 (Xh K))
  (GI:Cal P w K mg base 1 fI ie "row_in_places" zl7 (AFU K))
  (GS:FnOk P w K mg base CX0 1 fS du zl6 (JG K C)) (bS:Binds K du zl6 []) :
  FnOk P w K mg base CX0 3 f fd zl21 (Wi K C):=by
 refine F.ok Du (λvs H Q E h=>?_) (λa6 A outer s H vs Q E hr h=>?_)
 .obtain⟨l,n,top,aa,rfl,_⟩:=h
  rfl
 obtain⟨l,n,top,aa,rfl,hL,ok,pV,r72,fw,kt,q⟩:=h;have ce:Room 1 _:=hr.mono (by decide);refine⟨_,Af (Am (i:=3) Du.nd (Bd GR ce rfl (Aa (pv 1) (Aa (pv 2) Ad))))
  (Af (Am (i:=4) Du.nd Zf)
  (Af (Am (i:=5) Du.nd (Xc (Kp Ai Ai (Kp Ai Ai Wd)) rfl rfl (by intro z;cases z) (by decide)))
  (Af (En EB rfl (Mp rfl T.range (Aa (Ar Fv (pv 0) Ai) (Aa (WY QF Ai) (Aa (WY QF Ai) Ad)))) (Bf (i:=6) Du.nd)
   (Af (QG (i:=7) (Ag Lb) ["knot"] ["places","rows","tie"] [5,1,6] Du.nd rfl (K1 rfl) rfl rfl (by decide+kernel) ⟨⟨rfl,by decide+kernel⟩,⟨rfl,by decide+kernel⟩,⟨rfl,by decide+kernel⟩,trivial⟩ (CT (pv 3))
    (λ_ _ _=>BK (i:=0))
    (λ_ _ _=>Cd (Av Hl (Ay (QL (K:=K) rfl) (Ay (QL (K:=K) rfl) (pv 2) (Ar Fv (pv 0) Ai)) Ai) (pv 3)))
    (λ_ _ _=>Br (Aa (pv 0) (Aa (Bd GI ce rfl (Aa (pv 1) (Aa (Ay (QL (K:=K) rfl) (pv 2) (Ar Fv (pv 0) Ai)) Ad))) Ad))))
   (Af (En EB rfl (CT (Rk rfl (Bp hr) rfl T.sorted rfl T.set
     (CP (Ag Lb) ["knot","row"] [] [] rfl rfl (by decide+kernel) trivial (CT (pv 7))
      (λ_ _ _=>Jo (K:=K) (n:=2) rfl rfl (Bo (BK (i:=0)) (Bo (BK (i:=1)) FN)))
      (λ_ _ _=>Cd (Av ADb (Ay (WW (K:=K) rfl) (pv 1) Ai) Ai))
      (λ_ _ _=>pv 1)))) (Bf (i:=8) Du.nd)
    (Aj (Jg (Bp hr) (pv 4) (pv 8) (Ar CZ (Aw Rb rfl T.len DB (Aa (pv 4) Ad)) Ai) rfl)))
   (Aj (En EB rfl (CT (pv 7)) (Jo (K:=K) (n:=2) rfl rfl (Bo (Bf (i:=9) Du.nd) (Bo (Bf (i:=8) Du.nd) FN)))
    (Aj (Jg (Bp hr) (pv 5) (pv 9) (AAd (Bp hr) (pv 4) (pv 8) (Ay Bg (pv 8) Ai) ⟨rfl,rfl,rfl,rfl⟩) rfl)))))))
  (Aj (Aq (Hy M GS hr rfl T.mgC bS .nil pass0 (Aa (pv 0) (Aa (BX (PJ rfl) rfl T.list IM (Aa (pv 4) Ad)) (Aa (QX (Bp hr) (pv 5) (pv 2) (λ_ _=>rfl)) Ad))))))))),?_⟩
 refine⟨_,rfl,_,rfl,l,n,top,aa,rfl,hL,ok,r72,kt,λR rc H1 s1 nR eR cl tr rl0 par=>?_⟩;have rl:∀t j,(lay aa t rc j).length<=4100:=λt j=>BQ (rl0 t j) (BQ (Ct ..) r72);refine λN hN=>?_;have nN:H N=pY:=s1.free hN;have s2:=s1.trans (qe hN (.dT []));refine λD hD=>⟨Ab,[(.inl (0:Int),.int 0),(.inl (1:Int),.int 1)],rfl,(by show 2<=15;decide),?_⟩;have nD:H D=pY:=s2.free hD;have RN:R≠N:=Ac eR hN;have RD:R≠D:=Ac (show(upd H1 N (.dT [])) R=pX (.lst (iN rc)) by rw[Ae RN];exact eR) hD;have ND:N≠D:=Ac (show(upd H1 N (.dT [])) N=pX (.dT []) from Ab) hD;refine⟨_,rfl,_,_,rfl,rfl,1,rfl,1,rfl,(n:Int)-1,-1,rfl,⟨by lia,by lia,by lia,by lia⟩,?_⟩;refine Qx (lo:=(n:Int)-1) (n:=((n:Int)-1 - -1).toNat) (λi σ H2=>∃(af:List Row) (ag:List (Key×V)) (pl:Nat->qP) (o6 o7 o8 o9:Option V),σ=[pX (.int n),pX (.ref l),pX (.int top),pX (.ref R),pX (.ref N),pX (.ref D),o6,o7,o8,o9]/\Same H H2 /\
   H2 R=pX (.lst (iN rc))/\H2 N=pX (.dT (numKV 2 af))/\H2 D=pX (.dK ag)/\PlD ag pl/\Kept2 n (n-i) aa rc af pl/\af.length<=300*i/\ag.length<=2+4100*i/\∀t,(af.filter λr=>decide (r.1=t)).length<=300)
  ⟨[],_,λk=>if k=0 then pX 0 else if k=1 then pX 1 else pY,pY,pY,pY,pY,rfl,λb o e=>?_,?_,?_,Ab,?_,?_,by simp,?_,λt=>BD _⟩ ?_ ?_
 .rw[Ae (Ac e nD),Ae (Ac e nD)]
  exact s2 b o e
 .rw[Ae RD,Ae RD,Ae RN]
  exact eR
 .rw[Ae ND,Ae ND,Ab]
  rfl
 .exact Zu
 .exact VH λk hk=>(cl.low ok hk).1
 .exact AEi
 .rintro i σ H2 hi ⟨af,ag,pl,o6,o7,o8,o9,rfl,sm,lL,eN2,l7,pd,kp,nl,kl,cn⟩
  obtain⟨t,et,tn,tn',tlt⟩:∃t:Nat,(n:Int)-1-i=t/\n-i=t+1/\n-(i+1)=t/\t<n:=⟨n-1-i,by lia,by lia,tH,by lia⟩;rw[et];rw[tn] at kp;have mO:=hL.same sm;refine⟨_,rfl,R,rfl,⟨_,qX lL⟩,λY hY=>?_⟩;have nY:H Y=pY:=sm.free hY;refine CW (K:=K) (a:=R) (xs:=iN rc) (λj τ H3=>∃(kv:Option V) (ys:List V),τ=[kv,pX (.ref D),pX (.ref l),pX (.int t)]/\Same H2 H3/\H3 Y=pX (.lst ys)/\A7 (LayR aa pl H3) (lay aa t rc j) ys)
   ⟨pY,[],rfl,qe hY _,Ab,.nil⟩ (λj τ H3 _ ⟨_,_,_,s3,_⟩=>s3.seq (qX lL)) ?_ ?_
  .rintro j x τ H3 hx ⟨kv,ys,rfl,s3,eY,py⟩
   obtain⟨k,hk,rfl⟩:∃k:Nat,rc[j]?=pX k/\x=.int (k:Int):=by
    unfold iN at hx;rw[Bi] at hx;cases g:rc[j]? with
    | none=>rw[g] at hx;cases hx
    | some k=>rw[g] at hx;cases hx;exact⟨k,rfl,rfl⟩
   have km:=By hk;obtain⟨xs,p,hS,ha,hp⟩:=Py (mO.same s3) (cl.knot k km) (cl.two k km);refine⟨_,rfl,_,rfl,_,_,rfl,rfl,ixA hS ha (ixA hp at0 ⟨_,rfl,rfl,_,rfl,?_⟩)⟩;refine ite2 (λc=>?_) (λc=>?_)
   .have c':tieOf aa k=t:=by
     have:=qA c;injection this with this
     exact M7 this
    obtain⟨a,b,pa,pb,re,_⟩:=kp.base.row cl ok tlt km c';have ik:valV ag (Ff (((aa.getD (k-2) (0,0,0)).2.1:Nat):Int))=pX (.int (a:Int)):=by
     have:=pd (outOf aa k);rw[pa] at this;exact this
    have hy':valV ag (Ff (((aa.getD (k-2) (0,0,0)).2.2:Nat):Int))=pX (.int (b:Int)):=by
     have:=pd (intoOf aa k);rw[pb] at this;exact this
    refine⟨_,rfl,_,rfl,_,rfl,_,rfl,_,_,rfl,rfl,ixA hS ha ⟨D,p,aa.getD (k-2) (0,0,0),a,b,ag,rfl,s3 _ _ l7,⟨p,rfl,hp⟩,ik,hy',λu hu=>?_⟩⟩;refine⟨(by show 2<=sizeLine;decide),λv hv=>?_⟩;have er:[V.int ((aa.getD (k-2) (0,0,0)).1:Nat),V.int (a:Int),V.int (b:Int)]=r3 (rowIn aa pl k):=by
     rw[re,<- c'];rfl
    rw[er];rw[er] at hv;have su:=qe hu (.tup (r3 (rowIn aa pl k)));have sv:=qe hv (.tup [.int (k:Int),.ref u]);have eY2:=sv _ _ (su _ _ eY);have ll:=rl t j;have ly:ys.length<=4100:=by rw[<- AT py];exact ll
    have kt:∀a xs,(upd (upd H3 u (.tup (r3 (rowIn aa pl k)))) v (.tup [.int (k:Int),.ref u])) a=pX (.tup xs)->(upd (upd (upd H3 u (.tup (r3 (rowIn aa pl k)))) v (.tup [.int (k:Int),.ref u])) Y (.lst (ys++[.ref v]))) a=pX (.tup xs):=λa xs e=>by
     rw[Ae (Cj e eY2 (by intro z;cases z))];exact e
    refine⟨_,eY2,smallN (tI ly),_,_,rfl,λb o e=>?_,Ab,?_⟩
    .rw[Ae (Ac e hY)]
     exact sv _ _ (su _ _ (s3 b o e))
    .rw[RZ hk,p6 c']
     refine Paired.app (Paired.imp (λa b r=>(r.keeps λa xs e=>sv _ _ (su _ _ e)).keeps kt) py) (qc ⟨v,u,rfl,kt _ _ Ab,kt _ _ (sv _ _ Ab)⟩)
   .have c':¬ tieOf aa k=t:=λe=>c (p7 (by show V.int ((tieOf aa k:Nat):Int)=V.int (t:Int);rw[e]))
    refine⟨_,_,rfl,s3,eY,?_⟩;rw[RZ hk,pZ c',B3];exact py
  .rintro τ H3 ⟨kv,ys,rfl,s3,eY,py⟩
   have rcl:(iN rc).length=rc.length:=AB ..;rw[rcl] at py;have ll:=rl t rc.length;have ly:ys.length<=4100:=by rw[<- AT py];exact ll
   refine⟨_,rfl,Y,rfl,⟨_,qX eY⟩,λZ hZ=>?_⟩;refine CW (K:=K) (a:=Y) (xs:=ys) (λj τ H4=>∃(o1 o2:Option V) (zs:List V),τ=[o1,o2]/\Same H3 H4/\H4 Z=pX (.lst zs)/\A7 (RowR H4) (sel aa pl (lay aa t rc rc.length) j) zs)
    ⟨pY,pY,[],rfl,qe hZ _,Ab,.nil⟩ (λj τ H4 _ ⟨_,_,_,_,s4,_⟩=>s4.seq (qX eY)) ?_ ?_
   .rintro j x τ H4 hx ⟨o1,o2,zs,rfl,s4,eZ,pz⟩
    obtain⟨k,hk,u,b,rfl,hu,hb⟩:=Paired.get py hx;have hu4:=s4 _ _ hu;have hb4:=s4 _ _ hb;refine⟨u,_,rfl,qY hu4,rfl,_,_,rfl,_,_,rfl,rfl,?_⟩;refine⟨_,rfl,b,_,_,_,rfl,rfl,qY hb4,at2,rfl,_,rfl,?_⟩;have zl:zs.length<=4100:=by rw[<- AT pz];exact BQ (Ws _ _ _ _) ll
    refine ite2 (λc=>?_) (λc=>?_)
    .have c':(rowIn aa pl k).2.2≠0:=λe=>by
      rw[e] at c;exact qB c (by decide)
     refine⟨_,rfl,_,eZ,smallN (tI zl),_,_,_,rfl,λb o e=>?_,Ab,?_⟩
     .rw[Ae (Ac e hZ)]
      exact s4 b o e
     .rw[SM hk,p6 c']
      have kz:∀a xs,H4 a=pX (.tup xs)->(upd H4 Z (.lst (zs++[.ref b]))) a=pX (.tup xs):=λa xs e=>by rw[Ae (Cj e eZ (by intro z;cases z))];exact e
      exact Paired.app (Paired.imp (λa b r=>r.keeps kz) pz) (qc ⟨b,rfl,kz _ _ hb4⟩)
    .have c':(rowIn aa pl k).2.2=0:=by
      rcases Sn (rowIn aa pl k).2.2 with e| e
      .exact e
      .exact qB (by rw[p8 (λz=>by injection z with z;lia)];rfl) c
     refine⟨_,_,_,rfl,s4,eZ,?_⟩;rw[SM hk,pZ (λz=>z c'),B3];exact pz
   .rintro τ H4 ⟨o1,o2,zs,rfl,s4,eZ,pz⟩
    rw[<- AT py] at pz;have zl:(sel aa pl (lay aa t rc rc.length) (lay aa t rc rc.length).length).length<=4100:=BQ (Ws _ _ _ _) ll;refine⟨Z,zs,(sel aa pl (lay aa t rc rc.length) (lay aa t rc rc.length).length).map r3i,rfl,qX eZ,Jr (Paired.imp (λr v ⟨b,e,hb⟩=>by rw[e];exact Ea (ns:=r3i r) hb) pz),λms nd hm=>?_,λS m9 ms hS so mem pr pw=>?_⟩
    .obtain⟨new,rfl⟩:=Iz ms λm cr=>by
      obtain⟨r',_,e⟩:=AY.mp (hm m cr);exact⟨r',e.symm⟩
     rw[AB];refine fw.sel kp cl ok tlt par new ((B5.mp nd).imp λh e=>h (by rw[e])) λr hr=>?_;obtain⟨r',h1,h2⟩:=AY.mp (hm _ (F4 hr));rw[Jd h2] at h1;obtain⟨k,h1,h2,h3⟩:=Pu.mp h1;obtain⟨h4,h5⟩:=Hw.mp h1;exact⟨k,h4,h5,h2,h3⟩
    obtain⟨new,rfl⟩:=Iz ms λm hm=>by
     obtain⟨r',_,e⟩:=AY.mp ((mem m).mp hm);exact⟨r',e.symm⟩
    have nd:=Xv so;have nZ:∀r∈new,r∈sel aa pl (lay aa t rc rc.length) (lay aa t rc rc.length).length:=λr hr=>by
     obtain⟨r',h1,h2⟩:=AY.mp ((mem (r3i r)).mp (F4 hr));rw[<- Jd h2];exact h1
    have hw:∀r,r∈new->∃k,k∈rc/\tieOf aa k=t/\r=rowIn aa pl k/\r.2.2≠0:=λr hr=>by
     obtain⟨k,h1,h2,h3⟩:=Pu.mp (nZ r hr);obtain⟨h4,h5⟩:=Hw.mp h1;exact⟨k,h4,h5,h2,h3⟩
    have hw2:∀k∈rc,tieOf aa k=t->(rowIn aa pl k).2.2≠0->rowIn aa pl k∈new:=λk hk hkt w0=>by
     have h0:r3i (rowIn aa pl k)∈new.map r3i:=(mem _).mpr (F4 (Pu.mpr ⟨k,Hw.mpr ⟨hk,hkt⟩,rfl,w0⟩));obtain⟨r',h1,h2⟩:=AY.mp h0;rw[<- Jd h2];exact h1
    have newl:new.length<=300:=fw.sel kp cl ok tlt par new nd hw;have ly':m9.length=new.length:=by rw[<- AT pr,AB]
    have sS:=qe hS (.lst m9);have mm:=sS _ _ (s4 _ _ (s3 _ _ eN2));have kK:=sS _ _ (s4 _ _ (s3 _ _ l7));have gV:=sS _ _ (s4 _ _ (s3 _ _ lL));have eY4:=sS _ _ (s4 _ _ eY);have SN:S≠N:=Cj (show(upd H4 S (.lst m9)) S=pX (.lst m9) from Ab) mm (by intro z;cases z);refine⟨S,rfl,⟨_,qX Ab⟩,?_⟩;refine Eu (K:=K) (a:=S) (xs:=m9) (λj σ H5=>∃o8:Option V,σ=[pX (.int n),pX (.ref l),pX (.int top),pX (.ref R),pX (.ref N),pX (.ref D),pX (.int t),pX (.ref Y),o8,o9]/\(∀b o,b≠N->(upd H4 S (.lst m9)) b=pX o->H5 b=pX o) /\
      H5 N=pX (.dT (numKV 2 (af++new.take j)))) ⟨o8,rfl,λb o _ e=>e,by rw[P0,B3];exact mm⟩ (λj σ H5 _ ⟨_,_,k5,_⟩=>qX (k5 _ _ SN Ab)) ?_ ?_
    .rintro j x σ H5 hx ⟨o8,rfl,k5,eN5⟩
     obtain⟨m,hm,i',hi1,g0⟩:=Paired.get pw hx;obtain⟨r,hr,rfl⟩:∃r,new[j]?=pX r/\m=r3i r:=by
      rw[Bi] at hm;cases g:new[j]? with
      | none=>rw[g] at hm;cases hm
      | some r=>rw[g] at hm;cases hm;exact⟨r,rfl,rfl⟩
     obtain⟨r',hr',b,rfl,hb⟩:=Paired.get pz g0;have er:r'=r:=by
      rw[Bi,hr'] at hi1;exact Jd (A8 hi1)
     subst er;have bN:b≠N:=Cj (sS _ _ hb) mm (by intro z;cases z);have hb5:=k5 _ _ bN (sS _ _ hb);have rn:r'∉af++new.take j:=λhm=>by
      rcases Cf.mp hm with hm| hm
      .have:=kp.base.ge r' hm
       obtain⟨k,_,h5,h2,_⟩:=hw r' (By hr);rw[h2] at this;have e:(rowIn aa pl k).1=tieOf aa k:=rfl;lia
      .obtain⟨j',bj⟩:=Fm.mp hm
       rw[List.getElem?_take] at bj;split at bj
       .have:=(KW (AF.mp bj).1 nd).mp (bj.trans hr.symm)
        lia
       .cases bj
     have nl2:(af++new.take j).length<=300*13:=by
      rw[Bz,BS];lia
     refine⟨_,rfl,N,_,rfl,eN5,_,_,rfl,rfl,_,rfl,_,rfl,N,_,rfl,.inr ⟨_,ik3 r',b,eN5,rfl,hb5,by rw[Iu];exact smallN (by lia),rfl⟩,?_⟩;refine⟨_,rfl,λb o hb e=>by rw[Ae hb];exact k5 b o hb e,?_⟩;rw[Ab,Xu rn,D4,hr];rw[CL];rfl
    .rintro σ H5 ⟨o8,rfl,k5,eN5⟩
     rw[ly',CI] at eN5;have DN:D≠N:=Cj kK mm (by intro z;cases z);have RN4:R≠N:=Cj gV mm (by intro z;cases z);have YN:Y≠N:=Cj eY4 mm (by intro z;cases z);have dm:=k5 _ _ DN kK;have fm:=k5 _ _ RN4 gV;have eY5:=k5 _ _ YN eY4;have YD:Y≠D:=Cj eY5 dm (by intro z;cases z);refine⟨_,rfl,Y,rfl,⟨_,qX eY5⟩,?_⟩;refine Eu (K:=K) (a:=Y) (xs:=ys) (λj σ H6=>∃(o8 o9:Option V) (bb:List (Key×V)),σ=[pX (.int n),pX (.ref l),pX (.int top),pX (.ref R),pX (.ref N),pX (.ref D),pX (.int t),pX (.ref Y),o8,o9]/\(∀b o,b≠D->H5 b=pX o->H6 b=pX o) /\
       H6 D=pX (.dK bb)/\PlD bb (plOf pl (placeOf aa pl (af++new)) ((lay aa t rc rc.length).take j))/\bb.length<=ag.length+j) ⟨o8,o9,ag,rfl,λb o _ e=>e,dm,?_,qi⟩ (λj σ H6 _ ⟨_,_,_,_,k6,_⟩=>qX (k6 _ _ YD eY5)) ?_ ?_
     .intro k
      rw[pd k];unfold plOf;rw[pZ (by simp)]
     .rintro j x σ H6 hx ⟨o8,o9,bb,rfl,k6,f8,me,kl6⟩
      obtain⟨k,hk,u,b,rfl,hu,hb⟩:=Paired.get py hx;have up:∀a xs,H3 a=pX (.tup xs)->H6 a=pX (.tup xs):=λa xs e=>by
       have e4:=sS _ _ (s4 _ _ e);have e5:=k5 _ _ (Cj e4 mm (by intro z;cases z)) e4;exact k6 _ _ (Cj e5 dm (by intro z;cases z)) e5
      have eN6:=k6 _ _ (CB DN) eN5;have jl:j<ys.length:=(AF.mp hx).1;refine⟨u,_,rfl,qY (up _ _ hu),rfl,_,_,rfl,_,_,rfl,rfl,?_⟩;refine⟨_,rfl,N,rfl,.inr ⟨_,.inl eN6⟩,_,rfl,_,rfl,b,_,_,_,rfl,rfl,qY (up _ _ hb),at1,_,qW (k:=ik3 (rowIn aa pl k)) eN6 (up _ _ hb),?_⟩;refine⟨_,rfl,_,rfl,D,_,rfl,.inl ⟨bb,Ff (k:Int),f8,rfl,smallN (by lia),rfl⟩,?_⟩;have ev:(valV (numKV 2 (af++new)) (ik3 (rowIn aa pl k))).getD (V.int ((rowIn aa pl k).2.1:Nat))=V.int ((placeOf aa pl (af++new) k:Nat):Int):=by
       rw[Ig];unfold placeOf;cases numOf 2 (af++new) (rowIn aa pl k)<;>rfl
      rw[ev];refine⟨_,_,_,rfl,λb o hb e=>by rw[Ae hb];exact k6 b o hb e,Ab,?_,by have:=CJ bb (Ff (k:Int)) (V.int ((placeOf aa pl (af++new) k:Nat):Int));lia⟩;rw[D4,hk];exact PlD.put me
     .rintro σ H6 ⟨o8,o9,bb,rfl,k6,f8,me,kl6⟩
      rw[<- AT py,CI] at me;refine⟨af++new,bb,_,_,_,_,_,rfl,λb o e=>?_,k6 _ _ (Cj fm dm (by intro z;cases z)) fm,k6 _ _ (CB DN) eN5,f8,me,?_,by rw[Bz];lia,by lia,λt1=>?_⟩
      .have e4:=sS _ _ (s4 _ _ (s3 _ _ (sm b o e)))
       exact k6 _ _ (Ac e nD) (k5 _ _ (Ac e nN) e4)
      .rw[tn']
       refine kp.step cl ok tlt hw nd hw2 (ADV so hw) (λk hk=>?_) (λk hk ht=>?_)
       .unfold plOf
        rw[pZ (λz=>by
         obtain⟨z1,z2⟩:=Hw.mp z;rcases hk with hk| hk
         .exact hk z1
         .exact hk z2)]
       .refine⟨placeOf aa pl (af++new) k,by unfold plOf;rw[p6 (Hw.mpr ⟨hk,ht⟩)],?_⟩
        unfold placeOf;cases g:numOf 2 (af++new) (rowIn aa pl k) with
        | some m =>
         obtain⟨j,h1,h2⟩:=Kr _ _ _ _ g;exact .inl ⟨j,h1,by show m=j+2;lia⟩
        | none=>exact .inr ⟨Ka _ _ _ g,rfl⟩
      .rw[C3,Bz]
       by_cases c:t1=t
       .rw[O6.mpr λr hr z=>by
         have:=kp.base.ge r hr;have:=qA z;lia]
        have:=Ct (λr:Row=>decide (r.1=t1)) new;simp only[ID];lia
       .rw[O6 (l:=new)|>.mpr λr hr z=>by
         obtain⟨k,_,h5,h2,_⟩:=hw r hr;have:=qA z;rw[h2] at this;have e:(rowIn aa pl k).1=tieOf aa k:=rfl;lia]
        exact cn t1
 .rintro σ H2 ⟨af,ag,pl,o6,o7,o8,o9,rfl,sm,lL,eN2,l7,pd,kp,nl,kl,cn⟩
  have e0:n-((n:Int)-1 - -1).toNat=0:=by lia
  rw[e0] at kp;have ht:∃p:Nat,pl top=pX p:=by
   rcases tr with h| h
   .have:top=0\/top=1:=tL h
    rcases this with rfl| rfl
    .exact⟨0,kp.base.z⟩
    .exact⟨1,kp.base.o⟩
   .obtain⟨p,hp,_⟩:=kp.base.has top h (BD _)
    exact⟨p,hp⟩
  obtain⟨hd,ehd⟩:=ht;refine⟨_,rfl,_,rfl,N,_,rfl,eN2,λA0 ys hA kL=>?_⟩;have sA:=qe hA (.lst ys);refine⟨_,rfl,_,rfl,D,.int hd,rfl,?_,?_⟩
  .have:=DGet.k (k:=.inl (top:Int)) (sA _ _ l7)
   rw[pd top,ehd] at this;exact this
  .intro x dx hx hdx ne
   have hx2:(upd (upd H2 A0 (.lst ys)) dx (.own x)) x=pY:=by rw[Ae (CB ne)];exact hx
   have s4:=(qe hdx (.own x)).trans (qe hx2 (.ins C dx []));refine⟨x,dx,A0,n,hd,ys,af,rfl,Ab,s4.seq (qX Ab),Paired.imp (λa b r=>Ca _ _ _ _ s4.ts (Ca _ _ _ _ sA.ts r)) (Mj kL),λH' hs sv=>⟨rfl,q x af hd H' (λb o e=>?_) sv (kp.canon cl ok tr ehd par).1 (kp.canon cl ok tr ehd par).2 ⟨by lia,Xm kp cl,cn⟩⟩⟩;have e1:=s4 _ _ (sA _ _ (sm b o e));refine hs b o e1 λz=>?_;rw[z] at e;have:=sA _ _ (sm _ o e);rw[hx] at this;cases this
theorem tsX{R:Addr}(e:∀b o,b≠R->H b=pX o->H' b=pX o)(hR:H R=pX (.lst xs)):TSm H H':=λb u hb t=>e b u (λz=>by
 subst z;rw[hR] at hb;cases hb;obtain⟨ys,e| ⟨o,e⟩⟩:=t
 .cases e
 .cases e) hb
theorem take_snoc{l:List α}{x:α}(h:l[i]?=pX x):l.take (i+1)=l.take i++[x]:=by rw[D4,h];rfl
theorem Ij:∀ns:qC,(ns.map V.int).all flatV=true
 | []=>rfl
 | _::r=>Ij r
theorem ACz(z:Int)(j:Addr)(h:Int){m:Str}(h1:¬ m = "head")(h2:¬ m = "rows")(h3:¬ m = "amount"):(flds z j h).lookup m=pY:=by
 unfold flds;rw[Ah,pZ h1,Ah,pZ h2,Ah,pZ h3]
 all_goals rfl
theorem Tf(hK:X.K=K):OpR X (G2 .Add) (rAddT K):=by subst hK;exact ABw
theorem ACb{aa:List Row}(o:Ok n aa)(j:Nat):Ok n (aa.take j):=λi q e=>by
 have il:=(AF.mp e).1;have ij:i<j:=by rw[BS] at il;exact sM il
 obtain⟨h1,h2,h3⟩:=o i q (by rw[FD ij] at e;exact e);have low:∀l,Low aa q.1 (i+2) l->Low (aa.take j) q.1 (i+2) l:=λl ⟨a,b⟩=>⟨a,b.imp id λ⟨u,e,z⟩=>⟨u,by rw[FD (by lia)];exact e,z⟩⟩;exact⟨h1,low _ h2,low _ h3⟩
theorem Wm{aa:List Row}{k:Nat}(I:InOrder n aa k L):L.length<=2 ^ n:=by
 have h:(L.map (num n)).Pairwise (· < ·):=by rw[B5];exact I.ord
 have z:=ST.Bb (l₁:=L.map (num n)) (l₂:=AO (2 ^ n)) (h.imp λ{a b} h=>BM h) λx hx=>by
  obtain⟨s,hs,rfl⟩:=AY.mp hx;obtain⟨w1,w2⟩:=I.way s hs;have:=QV (n:=n) (t:=0) w1 λx hx=>⟨BD _,(w2 x hx).2⟩;exact AV.mpr this
 rw[AB,B0] at z;exact z
theorem Hs{s:qE}(h:s.Pairwise (· < ·))(hs:∀x∈s,x<n):s.length<=n:=by
 have z:=ST.Bb (l₁:=s) (l₂:=AO n) (h.imp λ{a b} h=>BM h) λx hx=>AV.mpr (hs x hx);rw[B0] at z;exact z
theorem pow12(h:n<=12):2 ^ n<=4096:=Hb (by decide) h
def rTies(K:Au)(H:Hp)(s:qE)(v:V):Prop:=∃p,v=.ref p/\H p=pX (.tup ((up s).map V.int))
theorem Ga(t:TSm H H')(h:A7 (rTies K H) ss ys):A7 (rTies K H') ss ys:=Paired.imp (λ_ _ ⟨p,e,hp⟩=>⟨p,e,t p _ hp ⟨_,.inl rfl⟩⟩) h
def rSets(K:Au)(H0:Hp)(S:Addr)(H:Hp)(ss:List qE)(v:V):Prop:=∃p ys,v=.ref p/\H0 p=pY/\p≠S/\H p=pX (.lst ys)/\A7 (rTies K H) ss ys
theorem OJ{H0:Hp}(e:∀b o,b≠S->H b=pX o->H' b=pX o)(hS:H S=pX (.lst xs))(h:rSets K H0 S H ss v):rSets K H0 S H' ss v:=by
 obtain⟨p,ys,rfl,h0,ne,hp,pr⟩:=h;exact⟨p,ys,rfl,h0,ne,e _ _ ne hp,Ga (tsX e hS) pr⟩
def Ua(K:Au)(C:Addr):Sp:=λvs H Q _=>∃(p:Addr) (n hd:Nat) (aa:List Row),vs=[.ref p]/\SvAt K C H p n aa hd/\Ok n aa/\Knot aa hd/\n<=12/\aa.length<=4000 /\
 ∀(L:Addr) (ys:List V) (H':Hp),Same H H'->H L=none->H' L=pX (.lst ys)->A7 (rTies K H') (setsOf aa hd) ys->Q (.ref L) H'
theorem VD:FnScope ["sieve","sets","row"] ["sieve"] (Ag WR):=fscp (by decide+kernel)
theorem ABy(F:Fun K "sets_of" "sets_of" WR f fd)(T:Txt K mg C)
  (GK:FnOk P w K mg base CX0 1 fK om zl3 (Wc K C)) (bK:Binds K om zl3 []) (mK:Meth K C "knots" fK)
  (GT:FnOk P w K mg base CX0 1 fT cS zl3 (ADd K C)) (bT:Binds K cS zl3 []) (mT:Meth K C "top" fT) :
  FnOk P w K mg base CX0 2 f fd ["sieve"] (Ua K C):=by
 refine F.ok VD (λvs H Q E h=>?_) (λa6 A outer s H vs Q E hr h=>?_)
 .obtain⟨p,n,hd,aa,rfl,_⟩:=h
  rfl
 obtain⟨p,n,hd,aa,rfl,hV,ok,kn,pV,r9,q⟩:=h;have ce:Room 1 _:=hr.mono (by decide);refine⟨_,Af (Am (i:=1) VD.nd (Dm (Aa (Dm Ad) (Aa (Dm (Aa (Br Ad) Ad)) Ad))))
  (Af (En EB rfl (CT (Dl (pv 0) T.cl mK GK ce bK .nil pass0)) (Bf (i:=2) VD.nd)
   (Aj (DP (Js ED FF FG EY (pv 1) (Aa (Ar Jc (Ay Cm (pv 1) (Ay Bg (pv 2) Ai))
    (CP (Ag WR) ["some"] ["row"] [2] rfl rfl (by decide+kernel) ⟨⟨rfl,by decide+kernel⟩,trivial⟩ (CT (Ay Cm (pv 1) (Ay Bg (pv 2) Ai)))
     (λ_ _ _=>BK (i:=0)) (λ_ _ _=>Ec)
     (λ_ _ _=>Ar (Tf (K:=K) rfl) (Br (Aa (Ay (WW (K:=K) rfl) (pv 1) Ai) Ad)) (pv 0)))) Ad)))))
  (Aj (Aq (Ay Cm (pv 1) (Dl (pv 0) T.cl mT GT ce bT .nil pass0))))),?_⟩
 obtain⟨dx,jj,hp,_⟩:=id hV;refine⟨BD _,λL0 kR=>⟨BD _,λT0 hT0=>⟨(by show 1<=sizeLine;decide),λL1 mw=>⟨(by show 2<=sizeLine;decide),λS hS=>?_⟩⟩⟩⟩;have sA:=qe kR (.lst []);have sB:=qe hT0 (.tup []);have sC:=qe mw (.lst [.ref T0]);have sD:=qe hS (.lst [.ref L0,.ref L1]);have s0:=sA.trans (sB.trans (sC.trans sD));have hSn:H S=pY:=by
  rcases h:H S with _| o
  .rfl
  .rw[(sA.trans (sB.trans sC)) _ _ h] at hS
   cases hS
 have n1:H L1=pY:=by
  rcases h:H L1 with _| o
  .rfl
  .rw[(sA.trans sB) _ _ h] at mw
   cases mw
 have e0:=(sB.trans (sC.trans sD)) _ _ (Ab (H:=H) (a:=L0) (o:=.lst []));have eT:=(sC.trans sD) _ _ (Ab (H:=upd H L0 (.lst [])) (a:=T0) (o:=.tup []));have e1:=sD _ _ (Ab (H:=upd (upd H L0 (.lst [])) T0 (.tup [])) (a:=L1) (o:=.lst [.ref T0]));have eS:(upd (upd (upd (upd H L0 (.lst [])) T0 (.tup [])) L1 (.lst [.ref T0])) S (.lst [.ref L0,.ref L1])) S=pX (.lst [.ref L0,.ref L1]):=Ab;have neS0:=Ac ((sB.trans sC) _ _ (Ab (H:=H) (a:=L0) (o:=.lst []))) hS;have neS1:=Ac (Ab (H:=upd (upd H L0 (.lst [])) T0 (.tup [])) (a:=L1) (o:=.lst [.ref T0])) hS;generalize upd (upd (upd (upd H L0 (.lst [])) T0 (.tup [])) L1 (.lst [.ref T0])) S (.lst [.ref L0,.ref L1])=H1 at s0 e0 eT e1 eS;refine⟨_,rfl,p,dx,_,rfl,s0 _ _ hp,rfl,p,n,hd,aa,rfl,hV.same s0,λl ys H2 s2 hl el px=>?_⟩;have lS:l≠S:=λe=>by
  rw[e,eS] at hl;cases hl
 have lx:=AT px;refine⟨l,rfl,⟨_,qX el⟩,?_⟩;refine Eu (K:=K) (a:=l) (xs:=ys) (λi σ H3=>∃(o:Option V) (xs:List V),σ=[pX (.ref p),pX (.ref S),o]/\(∀b u,b≠S->H2 b=pX u->H3 b=pX u)/\H3 S=pX (.lst xs)/\A7 (rSets K H S H3) (setsUp (aa.take i)) xs)
  ⟨pY,_,rfl,λb u _ e=>e,s2 _ _ eS,?_⟩ (λi σ H3 _ ⟨_,_,_,sm,_,_⟩=>qX (sm _ _ lS el)) ?_ ?_
 .exact .cons ⟨L0,[],rfl,kR,neS0,s2 _ _ e0,.nil⟩ (.cons ⟨L1,[.ref T0],rfl,n1,neS1,s2 _ _ e1,qc ⟨T0,rfl,s2 _ _ eT⟩⟩ .nil)
 .rintro i x σ H3 hx ⟨o,xs,rfl,sm,eS3,pS⟩
  have il:i<aa.length:=by rw[lx];exact(AF.mp hx).1
  obtain⟨r,hr',b,rfl,hb⟩:=Paired.get px hx;have m5:=(tsX sm (s2 _ _ eS)).seq hb;have okt:=ACb ok i;have lt:(aa.take i).length=i:=by rw[BS];exact uW il
  obtain⟨t1,lo1,lo2⟩:=ok i r hr';have kno:Knot (aa.take i) r.2.1:=by
   have:=lo1.1;show r.2.1<_;rw[lt];exact this
  have kni:Knot (aa.take i) r.2.2:=by
   have:=lo2.1;show r.2.2<_;rw[lt];exact this
  have IO:=HW _ _ rfl okt _ kno;have II:=HW _ _ rfl okt _ kni;have lO:=Wm IO;have lI:=Wm II;have p12:=pow12 pV;have lxs:=AT pS;rw[DG,lt] at lxs;have at_:∀k,Knot (aa.take i) k->∃v,xs[k]?=pX v/\rSets K H S H3 (setsOf (aa.take i) k) v:=λk hk=>by
   have kl:k<(setsUp (aa.take i)).length:=by rw[DG];exact hk
   obtain⟨v,h1,h2⟩:=qV pS (AL kl);refine⟨v,h1,?_⟩;unfold setsOf;rw[AD,AL kl];exact h2
  obtain⟨_,hvo,Lo,yo,rfl,o0,oS,eo,po⟩:=at_ _ kno;obtain⟨_,nw,Li,yi,rfl,i0,iS,ei,pi_⟩:=at_ _ kni;have lyo:=AT po;have lyi:=AT pi_;refine⟨_,rfl,.inl ⟨rfl,_,qX eS3⟩,_,rfl,_,rfl,b,_,_,_,rfl,rfl,m5,at1,S,_,_,_,rfl,rfl,qX eS3,CN hvo,?_⟩;refine⟨_,rfl,_,rfl,b,_,_,_,rfl,rfl,m5,at2,S,_,_,_,rfl,rfl,qX eS3,CN nw,Li,rfl,⟨_,qX ei⟩,λD hD=>?_⟩;refine CW (K:=K) (a:=Li) (xs:=yi) (λj τ H4=>∃(o:Option V) (zs:List V),τ=[o,pX (.ref b)]/\Same H3 H4/\H4 D=pX (.lst zs)/\A7 (rTies K H4) (((setsOf (aa.take i) r.2.2).take j).map (r.1::·)) zs) ⟨pY,[],rfl,qe hD _,Ab,.nil⟩ (λj τ H4 _ ⟨_,_,_,s3,_⟩=>s3.seq (qX ei)) ?_ ?_
  .rintro j y τ H4 hy ⟨o,zs,rfl,s4,eD,pz⟩
   obtain⟨u,hu,ru⟩:=Paired.get pi_ hy;have jl:=(AF.mp hu).1;obtain⟨w1,w2⟩:=II.way u (By hu);have ul:=Hs w1 λx hx=>(w2 x hx).2;obtain⟨c,rfl,hc0⟩:=ru;have hc:SqT K H4 c ((up u).map V.int):=qY (s4 _ _ hc0);have hb4:=s4.ts.seq m5;have lz:=AT pz;rw[AB,BS] at lz;refine⟨_,rfl,b,_,_,_,rfl,rfl,hb4,at0,(by show 1<=sizeLine;decide),λT1 pF=>?_⟩;have s5:=qe pF (.tup [.int (r.1:Int)]);have hc5:=s5.ts.seq hc;have eT1:(upd H4 T1 (.tup [.int (r.1:Int)])) T1=pX (.tup [.int (r.1:Int)]):=Ab;have fin:∀(c2:Addr) (H6:Hp),Same H4 H6->H6 c2=pX (.tup ((up (r.1::u)).map V.int))->∃ys,H6 D=pX (.lst ys)/\ys.length<sizeLine/\∃(o:Option V) (zs:List V),[pX (V.ref c),pX (V.ref b)]=[o,pX (V.ref b)]/\Same H3 (upd H6 D (.lst (ys++[.ref c2])))/\(upd H6 D (.lst (ys++[.ref c2]))) D=pX (.lst zs)/\A7 (rTies K (upd H6 D (.lst (ys++[.ref c2])))) (((setsOf (aa.take i) r.2.2).take (j+1)).map (r.1::·)) zs:=λc2 H6 s6 h6=>by
    have f8:=s6 _ _ eD;have tl:=qd (o:=.lst (zs++[.ref c2])) f8;refine⟨zs,f8,C1 (show zs.length<=4096 by lia) (by decide),_,_,rfl,λb' o' e'=>?_,Ab,?_⟩
    .rw[Ae (Ac e' hD)]
     exact s6 _ _ (s4 b' o' e')
    .rw[take_snoc hu,BE]
     exact Paired.app (Ga tl (Ga s6.ts pz)) (qc (⟨c2,rfl,tl _ _ h6 ⟨_,.inl rfl⟩⟩))
   refine⟨_,rfl,T1,c,_,_,rfl,rfl,qY eT1,hc5,BQ (show _<=100000 by rw[AB];unfold up;rw[AB];show 1+_<=100000;lia) (by decide),λz=>(by cases z),λ_ z=>?_,λ_ z T2 hT2=>?_⟩
   .have u0:u=[]:=by
     cases u with
     | nil=>rfl
     | cons a t=>cases z
    subst u0;exact fin T1 _ s5 eT1
   .exact fin T2 _ (s5.trans (qe hT2 _)) Ab
  .rintro τ H4 ⟨o,zs,rfl,s4,eD,pz⟩
   have lz:=AT pz;rw[<- lyi,CI] at pz lz;rw[AB] at lz;refine⟨Lo,D,_,_,rfl,rfl,qX (s4 _ _ eo),qX eD,BQ (show _<=8192 by lia) (by decide),λN hN=>?_⟩;have s5:=qe hN (.lst (yo++zs));have s6:=s4.trans s5;have mM:=s6 _ _ eS3;have neN:N≠S:=λe=>by
    rw[e,s4 _ _ eS3] at hN;cases hN
   have hN0:H N=pY:=by
    rcases h:H N with _| u
    .rfl
    .have h2:=s2 _ _ (s0 _ _ h)
     rw[s4 _ _ (sm _ _ neN h2)] at hN;cases hN
   refine⟨S,xs,_,rfl,rfl,mM,C1 (show xs.length<=100000 by lia) (by decide),?_⟩;have k7:∀b u,b≠S->upd H4 N (.lst (yo++zs)) b=pX u->upd (upd H4 N (.lst (yo++zs))) S (.lst (xs++[.ref N])) b=pX u:=λb u ne e=>by rw[Ae ne];exact e
   refine⟨_,_,rfl,λb u ne e=>k7 _ _ ne (s6 _ _ (sm b u ne e)),Ab,?_⟩;rw[take_snoc hr',Fg];unfold addRow;refine Paired.app (Paired.imp (λa v h=>OJ k7 mM (OJ (λb u _ e=>s6 b u e) eS3 h)) pS) (qc ⟨N,_,rfl,hN0,neN,k7 _ _ neN Ab,?_⟩);have t7:=tsX k7 mM;exact Ga t7 (Ga s5.ts (Paired.app (Ga s4.ts po) pz))
 .rintro σ H3 ⟨o,xs,rfl,sm,eS3,pS⟩
  have tr:aa.take ys.length=aa:=by rw[<- lx,CI]
  rw[tr] at pS;have hV3:SvAt K C H3 p n aa hd:=by
   refine SvAt.same hV λb u e=>sm b u (Ac e hSn) (s2 _ _ (s0 b u e))
  have sH:Same H H3:=λb u e=>sm b u (Ac e hSn) (s2 _ _ (s0 b u e));refine⟨_,rfl,_,rfl,p,dx,_,rfl,sH _ _ hp,rfl,p,n,hd,aa,rfl,hV3,?_⟩;have kl:hd<(setsUp aa).length:=by rw[DG];exact kn
  obtain⟨v,h1,L,zs,rfl,L0',LS,eL,pL⟩:=qV pS (AL kl);refine⟨S,_,_,_,rfl,rfl,qX eS3,CN h1,q L zs H3 sH L0' eL ?_⟩;unfold setsOf;rw[AD,AL kl];exact pL
end K33s
namespace G
abbrev Fs:=Nat->qP
def SymF(f:Fs):Prop:=∀x y,f x=pX y->f y=pX x
def stayF(f:Fs)(p:Nat):Prop:=f p=pY\/f p=pX p
def tieF(f:Fs)(a b i j:Nat):Fs:=λx=>if x=j then pX i else if x=i then pX j else if x=a\/x=b then pY else f x
def acc(z:Nat):Fs->List (Nat×Nat)->Prop
 | _,[]=>False
 | f,e::E=>∃i j,f e.1=pX i/\f e.2=pX j/\((i=e.2/\E=[]/\∀p,p<z->p≠e.1->p≠e.2->stayF f p)\/(i≠e.2/\acc z (tieF f e.1 e.2 i j) E))
section
variable{f:Fs}{a b c d k l:Nat}
theorem SymF.tie(h:SymF f)(ha:f a=pX i)(hb:f b=pX j)(ab:a≠b)(ib:i≠b):SymF (tieF f a b i j):=by
 intro x y e;have h1:=h _ _ ha;have h2:=h _ _ hb;have h3:=h x y;unfold tieF at *
 grind (splits:=60)
theorem Qs(h:SymF f)(ha:f a=pX i)(hb:f b=pX j)(ab:a≠b)(ib:i≠b)(hc:tieF f a b i j c=pX k):∃k',f c=pX k':=by
 have h1:=h _ _ ha;have h2:=h _ _ hb;unfold tieF at hc
 grind (splits:=60)
theorem Zw(h:SymF f)(ha:f a=pX i)(hb:f b=pX j)(hc:f c=pX k)(hd:f d=pX l)(ab:a≠b)(cd:c≠d)(ib:i≠b)(kd:k≠d){j':Nat}
  (h1:tieF f a b i j c=pX k') (h2:tieF f a b i j d=pX l') (h3:tieF f c d k l a=pX i') (h4:tieF f c d k l b=pX j') :
  (k'=d↔i'=b)/\(k'≠d->tieF (tieF f a b i j) c d k' l'=tieF (tieF f c d k l) a b i' j'):=by
 have e1:=h _ _ ha;have e2:=h _ _ hb;have e3:=h _ _ hc;have e4:=h _ _ hd;constructor
 .unfold tieF at *
  grind (splits:=60)
 .intro n
  funext x
  unfold tieF at *
  grind (splits:=60)
theorem ZL(h:SymF f)(ha:f a=pX i)(hb:f b=pX j)(hc:f c=pX k)(hd:f d=pX l)(ab:a≠b)(cd:c≠d)(ib:i≠b)(kd:k≠d)
  (h1:tieF f a b i j c=pX k') (h2:tieF f a b i j d=pX l'):∃i' j',tieF f c d k l a=pX i'/\tieF f c d k l b=pX j':=by
 have e1:=h _ _ ha;have e2:=h _ _ hb;have e3:=h _ _ hc;have e4:=h _ _ hd;unfold tieF at *
 grind (splits:=60)
theorem Zr(h:SymF f)(ha:f a=pX i)(hb:f b=pX j)(hc:f c=pX d)(ab:a≠b)(cd:c≠d)(ib:i≠b)
  (h1:tieF f a b i j c=pX k') (h2:tieF f a b i j d=pX l'):k'=d/\i≠c/\i≠d/\¬ stayF (tieF f a b i j) i:=by
 have e1:=h _ _ ha;have e2:=h _ _ hb;have e3:=h _ _ hc;unfold stayF tieF at *
 grind (splits:=60)
theorem ABX(h:SymF f)(ha:f a=pX i)(hb:f b=pX j)(hc:f c=pX k)(hd:f d=pX l)(ab:a≠b)(cd:c≠d)(ib:i≠b)(kd:k≠d)
  (h1:tieF f a b i j c=pX d) (h2:tieF f a b i j d=pX l') (h3:tieF f c d k l a=pX b) (h4:tieF f c d k l b=pX i') {p:Nat} (pa:p≠a) (pb:p≠b)
  (hs:p≠c->p≠d->stayF (tieF f a b i j) p):stayF (tieF f c d k l) p:=by
 have e1:=h _ _ ha;have e2:=h _ _ hb;have e3:=h _ _ hc;have e4:=h _ _ hd;unfold stayF tieF at *
 grind (splits:=60)
def RngF(z:Nat)(f:Fs):Prop:=∀x y,f x=pX y->x<z
theorem RngF.tie(r:RngF z f)(h:SymF f)(ha:f a=pX i)(hb:f b=pX j):RngF z (tieF f a b i j):=by
 intro x y e;have h1:=r _ _ (h _ _ ha);have h2:=r _ _ (h _ _ hb);have h3:=r x y;unfold tieF at *
 grind
theorem acc_swap(h:SymF f)(r:RngF z f)(ab:a≠b)(cd:c≠d){E:List (Nat×Nat)}:acc z f ((a,b)::(c,d)::E)->acc z f ((c,d)::(a,b)::E):=by
 rintro⟨i,j,ha,hb,⟨_,e,_⟩| ⟨ib,k',l',h1,h2,hh⟩⟩
 .cases e
 obtain⟨k,hc⟩:=Qs h ha hb ab ib h1;obtain⟨l,hd⟩:=Qs h ha hb ab ib h2;have kd:k≠d:=by
  intro e;subst e;obtain⟨e1,n1,n2,n3⟩:=Zr h ha hb hc ab cd ib h1 h2;rcases hh with⟨_,_,hs⟩| ⟨ne,_⟩
  .exact n3 (hs i (r _ _ (h _ _ ha)) n1 n2)
  .exact ne e1
 obtain⟨i',j',h3,h4⟩:=ZL h ha hb hc hd ab cd ib kd h1 h2;obtain⟨oW,eq1⟩:=Zw h ha hb hc hd ab cd ib kd h1 h2 h3 h4;refine⟨k,l,hc,hd,.inr ⟨kd,i',j',h3,h4,?_⟩⟩;rcases hh with⟨e,eE,hs⟩| ⟨ne,ac⟩
 .have e':=oW.mp e
  refine .inl ⟨e',eE,λp pz pa pb=>?_⟩;rw[show k'=d from e] at h1;rw[show i'=b from e'] at h3;exact ABX h ha hb hc hd ab cd ib kd h1 h2 h3 h4 pa pb λpc pd=>hs p pz pc pd
 .refine .inr ⟨λe=>ne (oW.mpr e),?_⟩
  rw[<- eq1 ne];exact ac
theorem Ss{E E':List (Nat×Nat)}(p:E.Perm E'):∀{f:Fs},SymF f->RngF z f->(∀e∈E,e.1≠e.2)->acc z f E->acc z f E':=by
 induction p with
 | nil=>intro f _ _ _ h;exact h
 | cons x p ih =>
  rintro f h r ne ⟨i,j,ha,hb,⟨e1,e2,hs⟩| ⟨n1,ac⟩⟩
  .refine⟨i,j,ha,hb,.inl ⟨e1,?_,hs⟩⟩
   subst e2;exact List.nil_perm.mp p
  .have nx:=ne x (AI ..)
   exact⟨i,j,ha,hb,.inr ⟨n1,ih (h.tie ha hb nx n1) (r.tie h ha hb) (λe he=>ne e (AJ _ he)) ac⟩⟩
 | swap x y l =>
  intro f h r ne;exact acc_swap h r (ne y (AI ..)) (ne x (AJ _ (AI ..)))
 | trans p q ih1 ih2 =>
  intro f h r ne ac;exact ih2 h r (λe he=>ne e (p.mem_iff.mpr he)) (ih1 h r ne ac)
theorem Qy(h:SymF f)(ab:a≠b){E:List (Nat×Nat)}(ac:acc z f ((a,b)::E)):acc z f ((b,a)::E):=by
 obtain⟨i,j,ha,hb,⟨e1,e2,hs⟩| ⟨n1,ac⟩⟩:=ac
 .have e:j=a:=by
   have:=h _ _ ha;rw[show i=b from e1,hb] at this;exact A8 this
  exact⟨j,i,hb,ha,.inl ⟨e,e2,λp pz pa pb=>hs p pz pb pa⟩⟩
 .refine⟨j,i,hb,ha,.inr ⟨λe=>n1 ?_,?_⟩⟩
  .have:=h _ _ hb
   rw[show j=a from e,ha] at this;exact A8 this
  .have e:tieF f b a j i=tieF f a b i j:=by
    have e1:=h _ _ ha;have e2:=h _ _ hb
    funext x
    unfold tieF
    grind (splits:=60)
   rw[e];exact ac
theorem acc_open:∀{E:List (Nat×Nat)}{f:Fs},SymF f->RngF z f->(∀e∈E,e.1≠e.2)->∀{p:Nat},(∀e∈E,e.1≠p/\e.2≠p)->¬ stayF f p->¬ acc z f E
 | [],_,_,_,_,_,_,_=>id
 | e::E,f,h,r,ne,p,np,op=>by
  rintro⟨i,j,ha,hb,⟨e1,e2,hs⟩| ⟨n1,ac⟩⟩
  .obtain⟨n1,n2⟩:=np e (AI ..)
   have pz:p<z:=by
    unfold stayF at op;cases hp:f p with
    | none=>exact qB (.inl hp) op
    | some q=>exact r _ _ hp
   exact op (hs p pz (CB n1) (CB n2))
  .have nx:=ne e (AI ..)
   obtain⟨n3,n4⟩:=np e (AI ..);refine acc_open (h.tie ha hb nx n1) (r.tie h ha hb) (λx hx=>ne x (AJ _ hx)) (λx hx=>np x (AJ _ hx)) ?_ ac;have e1:=h _ _ ha;have e2:=h _ _ hb;unfold stayF tieF at *
   grind (splits:=60)
end
def oI(o:qP):Option Int:=o.map λn=>(n:Int)
structure Rl(z:Nat)(P:Nat->Prop)(st:StO)(f:Fs):Prop where
 len:st.length=z
 at_:∀x,x<z->¬ P x->st.getD x pY=oI (f x)
 ps:∀x,x<z->P x->st.getD x pY=pY/\stayF f x
 sym:SymF f
 rng:RngF z f
section
variable{P:Nat->Prop}{st:StO}{f:Fs}
theorem Rl.congr{P':Nat->Prop}(h:Rl z P st f)(e:∀x,x<z->(P x↔P' x)):Rl z P' st f:=⟨h.len,λx hx n=>h.at_ x hx λp=>n ((e x hx).mp p),λx hx p=>h.ps x hx ((e x hx).mpr p),h.sym,h.rng⟩
theorem Rl.stay(h:Rl z P st f){x:Nat}(hx:x<z):stayS st x=true↔stayF f x:=by
 unfold stayS;rw[decide_eq_true_iff];by_cases p:P x
 .obtain⟨h1,h2⟩:=h.ps x hx p
  exact⟨λ_=>h2,λ_=>.inl h1⟩
 .rw[h.at_ x hx p]
  unfold stayF oI;cases f x with
  | none=>simp
  | some y =>
   simp;lia
theorem Rl.ne(h:Rl z P st f){x:Nat}(hx:x<z):¬ st=[]:=λe=>by
 have:=h.len;rw[e] at this;exact qB hx (by rw[<- this];exact OF _)
theorem Rl.pass(h:Rl z P st f){p:Nat}(hp:p<z):(passS1 st p=pY/\¬ stayF f p)\/(∃ar,passS1 st p=pX ar/\Rl z (λq=>P q\/q=p) ar f):=by
 unfold passS1;rw[pZ (h.ne hp)];by_cases c:stayS st p=true
 .rw[p6 c]
  refine .inr ⟨_,rfl,by rw[EA];exact h.len,λx hx n=>?_,λx hx pp=>?_,h.sym,h.rng⟩
  .rw[Cw _ _ _ _ λe=>n (.inr e)]
   exact h.at_ x hx λq=>n (.inl q)
  .by_cases e:x=p
   .subst e
    rw[DK,p6 (by rw[h.len];exact hx)];exact⟨rfl,(h.stay hx).mp c⟩
   .rw[Cw _ _ _ _ e]
    exact h.ps x hx (pp.resolve_right e)
 .rw[pZ c]
  exact .inl ⟨rfl,λs=>c ((h.stay hp).mpr s)⟩
theorem Rl.passes:∀(ps:qE) {P:Nat->Prop}{st:StO},Rl z P st f->(∀p∈ps,p<z)->(passS st ps=pY/\∃p∈ps,¬ stayF f p)\/(∃ar,passS st ps=pX ar/\Rl z (λq=>P q\/q∈ps) ar f)
 | [],P,st,h,_=>.inr ⟨st,rfl,h.congr λx _=>⟨.inl,λe=>e.resolve_right JY⟩⟩
 | p::ps,P,st,h,hp=>by
  show((passS1 st p).bind (λs=>passS s ps)=pY/\_)\/(∃ar,(passS1 st p).bind (λs=>passS s ps)=pX ar/\_);rcases h.pass (hp p (AI ..)) with⟨e,n⟩| ⟨s1,e,h1⟩
  .rw[e]
   exact .inl ⟨rfl,p,AI ..,n⟩
  .rw[e]
   rcases Rl.passes ps h1 λq hq=>hp q (AJ _ hq) with⟨e2,q,hq,n⟩| ⟨s2,e2,h2⟩
   .exact .inl ⟨e2,q,AJ _ hq,n⟩
   .refine .inr ⟨s2,e2,h2.congr λx _=>?_⟩
    rw[BF];exact or_assoc
theorem getD4{st:StO}{a b x:Nat}{v w:Option Int}(ha:a<st.length)(hb:b<st.length)(hi:i<st.length)(hj:j<st.length):((((st.set a pY).set b pY).set i v).set j w).getD x pY=if x=j then w else if x=i then v else if x=a\/x=b then pY else st.getD x pY:=by
 by_cases c1:x=j
 .rw[p6 c1,c1,DK,p6 (by simp only[EA];exact hj)]
 rw[pZ c1,Cw _ _ _ _ c1];by_cases c2:x=i
 .rw[p6 c2,c2,DK,p6 (by simp only[EA];exact hi)]
 rw[pZ c2,Cw _ _ _ _ c2];by_cases c3:x=b
 .rw[p6 (.inr c3),c3,DK]
  split<;>rfl
 rw[Cw _ _ _ _ c3];by_cases c4:x=a
 .rw[p6 (.inl c4),c4,DK]
  split<;>rfl
 rw[Cw _ _ _ _ c4,pZ λe=>e.elim c4 c3]
theorem Rl.tie(h:Rl z P st f){a b:Nat}(az:a<z)(bz:b<z)(na:¬ P a)(nb:¬ P b)(ab:a≠b)(ha:f a=pX i)(hb:f b=pX j)(ib:i≠b):Rl z P (tiedS st a b) (tieF f a b i j):=by
 have iz:=h.rng _ _ (h.sym _ _ ha);have jz:=h.rng _ _ (h.sym _ _ hb);have e1:st.getD a pY=pX (i:Int):=by rw[h.at_ a az na,ha];rfl
 have e2:st.getD b pY=pX (j:Int):=by rw[h.at_ b bz nb,hb];rfl
 have et:tiedS st a b=(((st.set a pY).set b pY).set i (pX (j:Int))).set j (pX (i:Int)):=by
  unfold tiedS;rw[e1,e2];rfl
 have np:∀{x y:Nat},¬ P x->f x=pX y->¬ P y:=λ{x y} n e p=>by
  rcases (h.ps y (h.rng _ _ (h.sym _ _ e)) p).2 with s| s
  .rw[h.sym _ _ e] at s;cases s
  .rw[h.sym _ _ e] at s
   exact n (A8 s ▸ p)
 have ni:=np na ha;have nj:=np nb hb;have l:=h.len;refine⟨by rw[et];simp only[EA];exact l,λx hx n=>?_,λx hx p=>?_,h.sym.tie ha hb ab ib,h.rng.tie h.sym ha hb⟩
 .rw[et,getD4 (fv az l) (fv bz l) (fv iz l) (fv jz l)]
  unfold tieF;rw[h.at_ x hx n];split
  .rfl
  .split
   .rfl
   .split<;>rfl
 .have x1:x≠j:=λe=>nj (e ▸ p)
  have x2:x≠i:=λe=>ni (e ▸ p);have x3:x≠a:=λe=>na (e ▸ p);have x4:x≠b:=λe=>nb (e ▸ p);obtain⟨h1,h2⟩:=h.ps x hx p;rw[et,getD4 (fv az l) (fv bz l) (fv iz l) (fv jz l),pZ x1,pZ x2,pZ (λe=>e.elim x3 x4)];refine⟨h1,?_⟩;unfold stayF tieF;rw[pZ x1,pZ x2,pZ (λe=>e.elim x3 x4)];exact h2
end
section
variable{ea eb L:Nat->Nat}
abbrev semS(z:Nat)(ea eb L:Nat->Nat):Nat->Nat->Option StO->qE->Bool:=semO (λ_ s=>pX s) (λt s=>takeS s (ea t) (eb t)) (λt s=>passS s ((AO z).filter λp=>decide (L p=t))) (λs=>decide (s=[]))
theorem Iv:∀ps:qE,passS [] ps=pX []
 | []=>rfl
 | _::ps=>Iv ps
theorem GZ(d t:Nat)(s:qE):semS z ea eb L d t pY s=false:=by cases d<;>rfl
theorem above{t d x:Nat}{xs:qE}(pw:(x::xs).Pairwise (· < ·))(h:∀y∈x::xs,t<=y/\y<t+(d+1))(c:¬ x=t):∀y∈x::xs,t+1<=y/\y<t+1+d:=λy hy=>by
 have h1:=h x (AI ..);have h2:=h y hy;rcases BF.mp hy with e| e
 ·lia
 .have:=(CO.mp pw).1 y e
  lia
theorem Jp:∀(d t:Nat) (sl:qE),sl.Pairwise (· < ·)->(∀x∈sl,t<=x/\x<t+d)->(semS z ea eb L d t (pX []) sl=true↔sl=[])
 | 0,t,sl,pw,h=>by
  have e:sl=[]:=by
   cases sl with
   | nil=>rfl
   | cons x xs=>have:=h x (AI ..);lia
  subst e;simp[semS,semO,Iv]
 | d+1,t,sl,pw,h=>by
  have e:semS z ea eb L (d+1) t (pX []) sl=stepO (λ_ s=>pX s) (λt s=>takeS s (ea t) (eb t)) t (semS z ea eb L d (t+1)) [] sl:=by simp[semS,semO,Iv]
  rw[e];cases sl with
  | nil=>exact Jp d (t+1) [] .nil λx hx=>by cases hx
  | cons x xs =>
   have hx:=h x (AI ..);show(if x<t then false else if x=t then semS z ea eb L d (t+1) (takeS [] (ea t) (eb t)) xs else semS z ea eb L d (t+1) (pX []) (x::xs))=true↔_;rw[pZ (wm hx)];by_cases c:x=t
   .rw[p6 c,show takeS [] (ea t) (eb t)=pY from p6 (.inl rfl),GZ]
    exact⟨λh=>(by cases h),λh=>(by cases h)⟩
   .rw[pZ c]
    exact Jp d (t+1) (x::xs) pw (above pw h c)
theorem Tv(z1:1<=z)(hz:∀x,x<n->ea x<z/\eb x<z/\ea x≠eb x/\x<L (ea x)/\x<L (eb x)):∀(d t:Nat) (st:StO) (f:Fs) (sl:qE),t+d=n->Rl z (λp=>L p<t) st f->sl.Pairwise (· < ·)->(∀x∈sl,t<=x/\x<t+d) ->
  (semS z ea eb L d t (pX st) sl=true↔acc z f (sl.map λx=>(ea x,eb x))):=by
 intro d
 induction d with
 | zero =>
  intro t st f sl e R pw hs;have sn:sl=[]:=by
   cases sl with
   | nil=>rfl
   | cons x xs=>have:=hs x AI;lia
  subst sn;refine⟨λh=>?_,λh=>h.elim⟩;rcases R.passes ((AO z).filter λp=>decide (L p=t)) (λp hp=>AV.mp (BV.mp hp).1) with⟨e1,_⟩| ⟨s',e1,R'⟩
  .simp[semS,semO,e1] at h
  .simp only[semS,semO,e1,Fc,decide_eq_true_iff] at h
   exact qB h.1 (R'.ne z1)
 | succ d ih =>
  intro t st f sl e R pw hs;have edge:∀x∈sl.map (λx=>(ea x,eb x)),x.1≠x.2:=λx hx=>by
   obtain⟨y,hy,rfl⟩:=AY.mp hx;exact(hz y (by have:=hs y hy;exact wo e this)).2.2.1
  rcases R.passes ((AO z).filter λp=>decide (L p=t)) (λp hp=>AV.mp (BV.mp hp).1) with⟨e1,p,hp,np⟩| ⟨s',e1,R0⟩
  .have lp:=qA (BV.mp hp).2
   refine⟨λh=>by simp[semS,semO,e1] at h,λh=>?_⟩;refine qB h (acc_open R.sym R.rng edge (λx hx=>?_) np);obtain⟨y,hy,rfl⟩:=AY.mp hx;obtain⟨h1,h2,h3,h4,h5⟩:=hz y (by have:=hs y hy;exact wo e this);have:=hs y hy;exact⟨λc=>by rw[show ea y=p from c] at h4;exact wq h4 lp this,λc=>by rw[show eb y=p from c] at h5;exact wq h5 lp this⟩
  have R':Rl z (λp=>L p<t+1) s' f:=R0.congr λx hx=>by
   rw[BV,AV,decide_eq_true_iff];lia
  have e2:semS z ea eb L (d+1) t (pX st) sl=stepO (λ_ s=>pX s) (λt s=>takeS s (ea t) (eb t)) t (semS z ea eb L d (t+1)) s' sl:=by simp only[semS,semO,e1]
  rw[e2];cases sl with
  | nil=>exact ih (t+1) s' f [] (tt e) R' .nil λx hx=>by cases hx
  | cons x xs =>
   have hx:=hs x (AI ..);show(if x<t then false else if x=t then semS z ea eb L d (t+1) (takeS s' (ea t) (eb t)) xs else semS z ea eb L d (t+1) (pX s') (x::xs))=true↔_;rw[pZ (wm hx)];by_cases c:x=t
   .subst c
    rw[p6 rfl];obtain⟨az,bz,ab,la,lb⟩:=hz x (uk e);have pw':=(CO.mp pw).2;have kD:∀y∈xs,x+1<=y/\y<x+1+d:=λy hy=>by
     have h1:=(CO.mp pw).1 y hy;have h2:=hs y (AJ _ hy);lia
    have ga:=R'.at_ _ az (tj la);have gb:=R'.at_ _ bz (tj lb);show _↔∃i j,f (ea x)=pX i/\f (eb x)=pX j/\_;unfold takeS;cases fa:f (ea x) with
    | none =>
     rw[fa] at ga;rw[p6 (.inr (.inl ga)),GZ];exact⟨λh=>(by cases h),λ⟨i,j,h,_⟩=>(by cases h)⟩
    | some i =>
     cases fb:f (eb x) with
     | none =>
      rw[fb] at gb;rw[p6 (.inr (.inr gb)),GZ];exact⟨λh=>(by cases h),λ⟨i,j,_,h,_⟩=>(by cases h)⟩
     | some j =>
      rw[fa] at ga;rw[fb] at gb;have n0:¬ (s'=[]\/s'.getD (ea x) pY=pY\/s'.getD (eb x) pY=pY):=by
       rintro(h| h| h)
       .exact R'.ne z1 h
       .rw[ga] at h;cases h
       .rw[gb] at h;cases h
      rw[pZ n0,ga];by_cases cl:i=eb x
      .rw[p6 (show oI (pX i)=pX (eb x:Int) by rw[cl];rfl)]
       have all:((AO s'.length).filter λp=>decide (p≠ea x/\p≠eb x)).all (stayS s')=true↔∀p,p<z->p≠ea x->p≠eb x->stayF f p:=by
        rw[EL,R'.len];constructor
        .intro h p pz n1 n2
         exact(R'.stay pz).mp (h p (BV.mpr ⟨AV.mpr pz,p7 ⟨n1,n2⟩⟩))
        .intro h p hp
         obtain⟨h1,h2⟩:=BV.mp hp;have pz:=AV.mp h1;obtain⟨n1,n2⟩:=qA h2;exact(R'.stay pz).mpr (h p pz n1 n2)
       unfold IV;by_cases ca:((AO s'.length).filter λp=>decide (p≠ea x/\p≠eb x)).all (stayS s')=true
       .rw[p6 ca,Jp d (x+1) xs pw' kD]
        refine⟨λh=>⟨i,j,rfl,rfl,.inl ⟨cl,by rw[h];rfl,all.mp ca⟩⟩,?_⟩;rintro⟨i',j',h1,h2,⟨_,h3,_⟩| ⟨h3,_⟩⟩
        .exact List.map_eq_nil_iff.mp h3
        .exact qB (A8 h1 ▸ cl) h3
       .rw[pZ ca,GZ]
        refine⟨λh=>(by cases h),?_⟩;rintro⟨i',j',h1,h2,⟨_,_,h3⟩| ⟨h3,_⟩⟩
        .exact qB (all.mpr h3) ca
        .exact qB (A8 h1 ▸ cl) h3
      .rw[pZ (show ¬ oI (pX i)=pX (eb x:Int) from λh=>cl (by unfold oI at h;simp at h;exact qk h))]
       have RT:=R'.tie az bz (tj la) (tj lb) ab fa fb cl;rw[ih (x+1) _ _ xs (tt e) RT pw' kD];refine⟨λh=>⟨i,j,rfl,rfl,.inr ⟨cl,h⟩⟩,?_⟩;rintro⟨i',j',h1,h2,⟨h3,_⟩| ⟨_,h3⟩⟩
       .exact qB (A8 h1 ▸ h3) cl
       .cases h1
        cases h2;exact h3
   .rw[pZ c]
    exact ih (t+1) s' f (x::xs) (tt e) R' pw λy hy=>by have:=above pw hs c y hy;exact this
end
end G
namespace K33
open PySem L2 G
structure Gro(K:Au)(mg:Str->Option As)(Gc:Addr):Prop where
 cl:Cls K Gc
 mgG:mg "Growth" = pX (.ref Gc)
 nW:NoAttr K Gc "web"
 nU:NoAttr K Gc "rule"
 nA:NoAttr K Gc "amount"
 nB:NoAttr K Gc "behind"
 nR:NoAttr K Gc "rows"
 nK:NoAttr K Gc "known"
def gf(W r:Addr)(n:Int)(Bh R D:Addr):List (Str×V):=putF "known" (.ref D) (putF "rows" (.ref R) (putF "behind" (.ref Bh) (putF "amount" (.int n) (putF "rule" (.ref r) (putF "web" (.ref W) [])))))
section
variable (W r Bh R D:Addr)(n:Int)
theorem KH:(gf W r n Bh R D).lookup ("known" : Str)=pX (.ref D):=by unfold gf;rw[Ah,p6 rfl]
theorem Qg:(gf W r n Bh R D).lookup ("rows" : Str)=pX (.ref R):=by unfold gf;rw[Ah,pZ (by decide+kernel),Ah,p6 rfl]
theorem YF:(gf W r n Bh R D).lookup ("behind" : Str)=pX (.ref Bh):=by unfold gf;rw[Ah,pZ (by decide+kernel),Ah,pZ (by decide+kernel),Ah,p6 rfl]
theorem Nt:(gf W r n Bh R D).lookup ("amount" : Str)=pX (.int n):=by unfold gf;rw[Ah,pZ (by decide+kernel),Ah,pZ (by decide+kernel),Ah,pZ (by decide+kernel),Ah,p6 rfl]
theorem Jm:(gf W r n Bh R D).lookup ("rule" : Str)=pX (.ref r):=by unfold gf;rw[Ah,pZ (by decide+kernel),Ah,pZ (by decide+kernel),Ah,pZ (by decide+kernel),Ah,pZ (by decide+kernel),Ah,p6 rfl]
theorem Qh:(gf W r n Bh R D).lookup ("web" : Str)=pX (.ref W):=by unfold gf;rw[Ah,pZ (by decide+kernel),Ah,pZ (by decide+kernel),Ah,pZ (by decide+kernel),Ah,pZ (by decide+kernel),Ah,pZ (by decide+kernel),Ah,p6 rfl]
theorem AGR{m:Str}(h1:¬ m = "known")(h2:¬ m = "rows")(h3:¬ m = "behind")(h4:¬ m = "amount")(h5:¬ m = "rule")(h6:¬ m = "web"):(gf W r n Bh R D).lookup m=pY:=by
 unfold gf;rw[Ah,pZ h1,Ah,pZ h2,Ah,pZ h3,Ah,pZ h4,Ah,pZ h5,Ah,pZ h6]
 all_goals rfl
end
structure Wr where
 ps:StO->Nat->Option StO
 tk:StO->Nat->Nat->Option StO
 fu:StO->Bool
 pre:StO->Nat->Nat->Prop
 vld:Nat->StO->Prop
 fl:List (Str×V)
 nP:fl.lookup ("passed" : Str)=pY
 nL:fl.lookup ("left" : Str)=pY
 nT:fl.lookup ("taken" : Str)=pY
 nU:fl.lookup ("fulfilled" : Str)=pY
 nB:fl.lookup ("begun" : Str)=pY
def passU(u:Wr):StO->qE->Option StO
 | st,[]=>pX st
 | st,p::ps=>(u.ps st p).bind λs=>passU u s ps
theorem Nu(u:Wr):∀(ps qs:qE) (st:StO),passU u st (ps++qs)=(passU u st ps).bind λs=>passU u s qs
 | [],qs,st=>rfl
 | p::ps,qs,st=>by
  show(u.ps st p).bind _=((u.ps st p).bind _).bind _;cases u.ps st p with
  | none=>rfl
  | some s=>exact Nu u ps qs s
structure Gr(u:Wr)(K:Au)(C Dc Gc:Addr)(g W r Bh R D:Addr)(z:Nat)(bs:qD)(H:Hp):Prop where
 ins:∃dx,H g=pX (.ins Gc dx (gf W r bs.length Bh R D))
 web:WebAt K C H W z bs
 rul:∃dx,H r=pX (.ins Dc dx u.fl)
 beh:∃ys,H Bh=pX (.lst ys)/\Bh≠R/\A7 (λt v=>∃l,v=.ref l/\l≠R/\H l=pX (.lst (nI (behP bs z t)))) (AO (bs.length+1)) ys
section
variable{u:Wr}{Dc g W r Bh R:Addr}{bs:qD}{φ:Heap->Prop}
theorem tsRD(e:∀b o,b≠R->b≠D->H b=pX o->H' b=pX o)(hR:H R=pX (.lst xs))(hD:H D=pX (.ext φ)):TSm H H':=λb u hb t=>by
 have ne:∀{x:Addr}{o:HO},H x=pX o->(∀ys,o≠.tup ys)->(∀q ys,o≠.frz q (.tup ys))->b≠x:=λ{x o} hx h1 h2 zz=>by
  rw[zz,hx] at hb;cases hb;obtain⟨ys,e| ⟨q,e⟩⟩:=t
  .exact h1 ys e
  .exact h2 q ys e
 exact e b u (ne hR (by intro _ z;cases z) (by intro _ _ z;cases z)) (ne hD (by intro _ z;cases z) (by intro _ _ z;cases z)) hb
theorem Gr.keep(h:Gr u K C Dc Gc g W r Bh R D z bs H)(e:∀b o,b≠R->b≠D->H b=pX o->H' b=pX o)(hR:H R=pX (.lst xs))(hD:H D=pX (.ext φ)):Gr u K C Dc Gc g W r Bh R D z bs H':=by
 have ts:=tsRD e hR hD;have ni:∀{x c dx:Addr}{fs:List (Str×V)},H x=pX (.ins c dx fs)->H' x=pX (.ins c dx fs):=λ{x c dx fs} hx=>e _ _ (Cj hx hR (by intro z;cases z)) (Cj hx hD (by intro z;cases z)) hx;have nl:∀{x:Addr}{l:List V},x≠R->H x=pX (.lst l)->H' x=pX (.lst l):=λ{x l} hn hx=>e _ _ hn (Cj hx hD (by intro z;cases z)) hx;obtain⟨d1,i1⟩:=h.ins;obtain⟨d2,j,i2,i3⟩:=h.web;obtain⟨d3,i4⟩:=h.rul;obtain⟨ys,b1,b2,b3⟩:=h.beh;exact⟨⟨d1,ni i1⟩,⟨d2,j,ni i2,Ak (Ak Ao) _ _ _ _ ts i3⟩,⟨d3,ni i4⟩,⟨ys,nl b2 b1,b2,Paired.imp (λt v ⟨l,c1,c2,c3⟩=>⟨l,c1,c2,nl c2 c3⟩) b3⟩⟩
theorem Gr.same(h:Gr u K C Dc Gc g W r Bh R D z bs H)(e:Same H H'):Gr u K C Dc Gc g W r Bh R D z bs H':=by
 obtain⟨d1,i1⟩:=h.ins;obtain⟨d3,i4⟩:=h.rul;obtain⟨ys,b1,b2,b3⟩:=h.beh;exact⟨⟨d1,e _ _ i1⟩,h.web.same e,⟨d3,e _ _ i4⟩,⟨ys,e _ _ b1,b2,Paired.imp (λt v ⟨l,c1,c2,c3⟩=>⟨l,c1,c2,e _ _ c3⟩) b3⟩⟩
end
def StAt(K:Au)(H:Hp)(b:Addr)(st:StO):Prop:=SqT K H b (st.map oV)
def RS(u:Wr)(K:Au)(z:Nat)(H:Hp)(v:V):Option StO->Prop
 | none=>v=.non
 | some st=>∃b,v=.ref b/\StAt K H b st/\u.vld z st
def Ql(u:Wr)(K:Au)(D:Addr):Sp:=λvs H Q _=>∃(p:V) (b dx a:Addr) (q z:Nat) (st:StO),vs=[.ref a,p,.ref b,.int q]/\H a=pX (.ins D dx u.fl)/\StAt K H b st/\u.vld z st/\q<z/\z<=10 /\
 ∀(v':V) (H':Hp),Same H H'->RS u K z H' v' (u.ps st q)->Q v' H'
def VB(u:Wr)(K:Au)(C Dc Gc:Addr):Sp:=λvs H Q _=>∃(g W r Bh R D:Addr) (z t:Nat) (bs:qD) (v:V) (o:Option StO),vs=[.ref g,.int t,v]/\Gr u K C Dc Gc g W r Bh R D z bs H/\z<=10/\t<=bs.length/\RS u K z H v o /\
 ∀(v':V) (H':Hp),Same H H'->RS u K z H' v' (o.bind λr=>passU u r (behP bs z t))->Q v' H'
section
variable{u:Wr}
theorem Ot:FnScope ["self","number","reached","state","point"] zl22 (Ag AAw):=fscp (by decide+kernel)
theorem Wk(F:Fun K "past_points" "Growth.past_points" AAw f fd)(cD:Cls K D)(O:Gro K mg Gc)(GP:FnOk P w K mg base CX0 3 fP ft zl12 (Ql u K D))(bP:Binds K ft zl12 [])(mP:Meth K D "passed" fP) :
  FnOk P w K mg base CX0 4 f fd zl22 (VB u K C D Gc):=by
 refine F.ok Ot (λvs H Q E h=>?_) (λa6 A outer s H vs Q E hr h=>?_)
 .obtain⟨g,W,r,Bh,R,Dk,z,t,bs,v,o,rfl,_⟩:=h
  rfl
 obtain⟨g,W,r,Bh,R,Dk,z,t,bs,v,o,rfl,gr,z10,tb,rs,q⟩:=h;refine⟨_,Af (Am (i:=3) Ot.nd (pv 2))
  (Af (En EB rfl (CT (Ay Cm (Bc (pv 0) rfl) (pv 1))) (Bf (i:=4) Ot.nd)
   (Aj (CQ (Gs (ADL (pv 3))) (Aj (Am (i:=3) Ot.nd (CV (Bc (pv 0) rfl) cD mP GP hr bP .nil pass0 (Aa (Bc (pv 0) rfl) (Aa (pv 3) (Aa (pv 4) Ad)))))) BL)))
  (Aj (Aq (pv 3)))),?_⟩
 obtain⟨dg,hg⟩:=gr.ins;obtain⟨dr,gI⟩:=gr.rul;obtain⟨ys,hB,_,pB⟩:=gr.beh;have lB:=AT pB;rw[B0] at lB;have tl:t<ys.length:=by lia
 obtain⟨t',ht',l,el,_,hl⟩:=Paired.get pB (AL tl);have et:t'=t:=by
  have:=(AF.mp ht').2;rw[List.getElem_range] at this;exact this.symm
 subst et;have oH:atI ys (t':Int)=pX (.ref l):=by
  rw[<- el];exact CN (AL tl)
 refine⟨_,rfl,?_⟩;refine⟨_,rfl,g,Gc,dg,_,_,rfl,hg,O.cl,O.nB,YF _ _ _ _ _ _,_,rfl,Bh,ys,_,_,rfl,rfl,qX hB,oH,l,rfl,⟨_,qX hl⟩,?_⟩;refine Eu (K:=K) (a:=l) (xs:=nI (behP bs z t')) (λi σ H2=>∃(v':V) (o4:Option V),σ=[pX (.ref g),pX (.int t'),pX v,pX v',o4]/\Same H H2/\RS u K z H2 v' (o.bind λr=>passU u r ((behP bs z t').take i)))
  ⟨v,pY,rfl,qZ _,by
   have e:(o.bind λr=>passU u r ((behP bs z t').take 0))=o:=by cases o<;>rfl
   rw[e];exact rs⟩ (λi σ H2 _ ⟨_,_,_,s2,_⟩=>s2.seq (qX hl)) ?_ ?_
 .rintro i x σ H2 hx ⟨v',o4,rfl,s2,rs2⟩
  obtain⟨pt,hp,rfl⟩:=AAt hx;have pz:=AV.mp (BV.mp (By hp)).1;have step:(o.bind λr=>passU u r ((behP bs z t').take (i+1)))=(o.bind λr=>passU u r ((behP bs z t').take i)).bind λs=>u.ps s pt:=by
   cases o with
   | none=>rfl
   | some r =>
    rw[D4,hp];show passU u r (_++[pt])=_;rw[Nu u]
    congr 1
    funext s
    show(u.ps s pt).bind (λs=>pX s)=_;cases u.ps s pt<;>rfl
  cases e:(o.bind λr=>passU u r ((behP bs z t').take i)) with
  | none =>
   rw[e] at rs2 step;cases rs2;refine⟨_,rfl,_,rfl,iteF ⟨.non,_,rfl,s2,?_⟩⟩;rw[step];exact rfl
  | some st =>
   rw[e] at rs2 step;obtain⟨b,rfl,hb,sl⟩:=rs2;refine⟨_,rfl,_,rfl,iteT ?_⟩;refine⟨_,rfl,g,Gc,dg,_,_,rfl,s2 _ _ hg,O.cl,O.nU,Jm _ _ _ _ _ _,r,dr,_,rfl,s2 _ _ gI,u.nP,_,rfl,g,Gc,dg,_,_,rfl,s2 _ _ hg,O.cl,O.nW,Qh _ _ _ _ _ _,_,rfl,_,rfl,.ref W,b,dr,r,pt,z,st,rfl,s2 _ _ gI,hb,sl,pz,z10,λv3 H3 s3 rs3=>?_⟩;refine⟨_,_,rfl,s2.trans s3,?_⟩;rw[step];exact rs3
 .rintro σ H2 ⟨v',o4,rfl,s2,rs2⟩
  rw[Ep,CI] at rs2;exact⟨_,rfl,q v' H2 s2 rs2⟩
end
def ea(bs:qD)(t:Nat):Nat:=((bs.getD t []).getD 0 0).toNat
def eb(bs:qD)(t:Nat):Nat:=((bs.getD t []).getD 1 0).toNat
def OkB(z:Nat)(bs:qD):Prop:=∀t∈bs,∃x y:Nat,t=[(x:Int),(y:Int)]/\x<z/\y<z
def lefU(_:Nat)(st:StO):Option StO:=pX st
def takU(u:Wr)(bs:qD)(t:Nat)(st:StO):Option StO:=u.tk st (ea bs t) (eb bs t)
abbrev semC(u:Wr)(bs:qD)(z d t:Nat):Option StO->qE->Bool:=semO lefU (takU u bs) (λt r=>passU u r (behP bs z t)) u.fu d t
def Good(u:Wr)(bs:qD)(z:Nat)(G:Nat->Option StO->Prop):Prop:=∀(t:Nat) (o:Option StO) (st:StO),t<bs.length->G t o->(o.bind λr=>passU u r (behP bs z t))=pX st->u.pre st (ea bs t) (eb bs t)/\G (t+1) (pX st)/\G (t+1) (takU u bs t st)
abbrev keyC(t:Nat)(st:StO):OKey:=(pX (t:Int),st)
theorem RG{t:Nat}{st ar:StO}(h:keyC t st=keyC t' ar):t=t'/\st=ar:=by
 injection h with h1 h2
 injection h1 with h1
 exact⟨qk h1,h2⟩
def Known(u:Wr)(bs:qD)(z:Nat)(aa:List Row)(ag:List (OKey×V)):Prop:=∀(t:Nat) (st:StO) (v:V),valV ag (keyC t st)=pX v->∃k:Nat,v=.int k/\t<bs.length/\Lead aa t k (stepO lefU (takU u bs) t (semC u bs z (bs.length-1-t) (t+1)) st)
theorem Known.app{u:Wr}{bs:qD}{aa more:List Row}{ag:List (OKey×V)}(o:Ok bs.length aa)(h:Known u bs z aa ag):Known u bs z (aa++more) ag:=λt st v hv=>let ⟨k,e,tl,ld⟩:=h t st v hv;⟨k,e,tl,ld.app o⟩
theorem Ud{x:Addr}{t:Nat}{st:StO}(hx:H x=pX (.tup [.int (t:Int),.ref b]))(hb:StAt K H b st):OAt K H (keyC t st) x:=⟨b,hx,hb⟩
structure Rw(u:Wr)(P:AK)(w:AQ)(K:Au)(R D:Addr)(bs:qD)(z:Nat)(H:Hp)(aa:List Row)(ag:List (OKey×V)):Prop where
 at_:∃xs,H R=pX (.lst xs)/\A7 (K33s.rRow K H) aa xs
 dn:DO K P w H D ag
 ok:Ok bs.length aa
 kn:Known u bs z aa ag
 len:ag.length<=aa.length
def Old(t:Nat)(ag bb:List (OKey×V)):Prop:=∀(t':Nat) (st:StO),t'<t->valV bb (keyC t' st)=valV ag (keyC t' st)
theorem ABd{u:Wr}{bs:qD}{d t:Nat}{o:Option StO}(h:(o.bind λr=>passU u r (behP bs z t))=pY)(s:qE):semC u bs z d t o s=false:=by
 cases o with
 | none=>cases d<;>rfl
 | some r =>
  have h':passU u r (behP bs z t)=pY:=h;cases d with
  | zero=>show(match passU u r (behP bs z t) with| none=>false| some st=>_)=false;rw[h']
  | succ d=>show(match passU u r (behP bs z t) with| none=>false| some st=>_)=false;rw[h']
theorem XD{u:Wr}{bs:qD}{t:Nat}{o:Option StO}{st:StO}(h:(o.bind λr=>passU u r (behP bs z t))=pX st)(s:qE):semC u bs z 0 t o s=(u.fu st&&decide (s=[])):=by
 cases o with
 | none=>cases h
 | some r =>
  have h':passU u r (behP bs z t)=pX st:=h;show(match passU u r (behP bs z t) with| none=>false| some st=>u.fu st&&decide (s=[]))=_;rw[h']
theorem AAu{u:Wr}{bs:qD}{d t:Nat}{o:Option StO}{st:StO}(h:(o.bind λr=>passU u r (behP bs z t))=pX st):semC u bs z (d+1) t o=stepO lefU (takU u bs) t (semC u bs z d (t+1)) st:=by
 funext s
 cases o with
 | none=>cases h
 | some r =>
  have h':passU u r (behP bs z t)=pX st:=h;show(match passU u r (behP bs z t) with| none=>false| some st=>stepO lefU (takU u bs) t (semC u bs z d (t+1)) st s)=_;rw[h']
def Vf:Sp:=λvs H Q _=>∃(r p b x:V),vs=[r,p,b,x]/\Q b H
def AAm(u:Wr)(K:Au):Sp:=λvs H Q _=>∃(r p:V) (b:Addr) (st:StO),vs=[r,p,.ref b]/\StAt K H b st/\Q (.bl (u.fu st)) H
def PN(u:Wr)(K:Au)(C D:Addr):Sp:=λvs H Q _=>∃(a p b dx:Addr) (t z:Nat) (bs:qD) (st:StO),vs=[.ref a,.ref p,.ref b,.int t]/\H a=pX (.ins D dx u.fl)/\WebAt K C H p z bs/\OkB z bs/\StAt K H b st/\u.vld z st/\u.pre st (ea bs t) (eb bs t)/\t<bs.length/\z<=10 /\
 ∀(v':V) (H':Hp),Same H H'->RS u K z H' v' (takU u bs t st)->Q v' H'
def KJ(u:Wr)(P:AK)(w:AQ)(K:Au)(C Dc Gc:Addr)(d:Nat):Sp:=λvs H Q _=>∃(g W r Bh R D:Addr) (z t:Nat) (bs:qD) (v:V) (o:Option StO) (aa:List Row) (ag:List (OKey×V)) (G:Nat->Option StO->Prop),vs=[.ref g,.int t,v]/\t+d=bs.length/\Gr u K C Dc Gc g W r Bh R D z bs H/\1<=z/\z<=10/\bs.length<=12/\OkB z bs/\Good u bs z G/\G t o/\RS u K z H v o/\Rw u P w K R D bs z H aa ag/\aa.length+2 ^ d<=4100 /\
 ∀(k:Nat) (more:List Row) (bb:List (OKey×V)) (H':Hp),(∀b o,b≠R->b≠D->H b=pX o->H' b=pX o)->Rw u P w K R D bs z H' (aa++more) bb->Lead (aa++more) t k (semC u bs z d t o)->Old t ag bb->Cnt t more->more.length+1<=2 ^ d->Q (.int k) H'
section
variable{u:Wr}{R:Addr}{bs:qD}{aa:List Row}{ag:List (OKey×V)}
theorem Rw.same(h:Rw u P w K R D bs z H aa ag)(e:Same H H'):Rw u P w K R D bs z H' aa ag:=by
 obtain⟨xs,h1,h2⟩:=h.at_;exact⟨⟨xs,e _ _ h1,Paired.imp (λ_ _ r=>K33s.Ca _ _ _ _ e.ts r) h2⟩,h.dn.keep (λo=>e _ o) e.ts,h.ok,h.kn,h.len⟩
end
section
variable{u:Wr}
theorem Fl:FnScope ["self","number","reached","state","without","having"] zl22 (Ag Jk):=fscp (by decide+kernel)
theorem KZ(d:Nat){fL fU:Addr}{oQ nF:BI}(F:Fun K "knot_at" "Growth.knot_at" Jk f fd)(T:Txt K mg C)(cD:Cls K D)(O:Gro K mg Gc)
  (GP:FnOk P w K mg base CX0 4 fP ft zl22 (VB u K C D Gc)) (bP:Binds K ft zl22 []) (mP:Meth K Gc "past_points" fP)
  (GL:FnOk P w K mg base CX0 1 fL oQ zl11 Vf) (bL:Binds K oQ zl11 []) (mL:Meth K D "left" fL)
  (GT:FnOk P w K mg base CX0 3 fT cS zl11 (PN u K C D)) (bT:Binds K cS zl11 []) (mT:Meth K D "taken" fT)
  (GU:FnOk P w K mg base CX0 1 fU nF zl10 (AAm u K)) (bU:Binds K nF zl10 []) (mU:Meth K D "fulfilled" fU) (hG:∀vs H Q E,d≠0->KJ u P w K C D Gc (d-1) vs H Q E->sp vs H Q E) (GK:FnOk P w K mg base CX0 (d+4) f fd zl22 sp) (bK:Binds K fd zl22 []) (mK:Meth K Gc "knot_at" f) :
  FnOk P w K mg base CX0 (d+5) f fd zl22 (KJ u P w K C D Gc d):=by
 refine F.ok Fl (λvs H Q E h=>?_) (λa6 A outer s H vs Q E hr h=>?_)
 .obtain⟨g,W,r,Bh,R,Dk,z,t,bs,v,o,aa,ag,G,rfl,_⟩:=h
  rfl
 obtain⟨g,W,r,Bh,R,Dk,z,t,bs,v,o,aa,ag,G,rfl,td,gr,z1,z10,b8,kM,gd,go,rs,rw0,r6,q⟩:=h;have ce:Room 1 _:=hr.mono (by lia);have fz:Room 2 _:=hr.mono (by lia);have mW:Room 3 _:=hr.mono (by lia);have pM:Room 4 _:=hr.mono qt;refine⟨_,Af (Am (i:=3) Fl.nd (CV (pv 0) O.cl mP GP pM bP .nil pass0 (Aa (pv 1) (Aa (pv 2) Ad))))
  (Af (CQ (Gs (Uc (pv 3))) (Aj (Aq Ai)) BL)
  (Af (CQ (Av Hl (pv 1) (Bc (pv 0) rfl)) (Aj (Aq (Sw (Il (CV (Bc (pv 0) rfl) cD mU GU ce bU .nil pass0 (Aa (Bc (pv 0) rfl) (Aa (pv 3) Ad)))) Ai Ai))) BL)
  (XQ (CQ (Gs (Yh (Bp hr) (Br (Aa (pv 1) (Aa (pv 3) Ad))) (Bc (pv 0) rfl)) rfl)
   (Af (Am (i:=4) Fl.nd (CV (pv 0) O.cl mK GK hr bK .nil pass0 (Aa (Ar CZ (pv 1) Ai) (Aa (CV (Bc (pv 0) rfl) cD mL GL ce bL .nil pass0 (Aa (Bc (pv 0) rfl) (Aa (pv 3) (Aa (pv 1) Ad)))) Ad))))
   (Af (Am (i:=5) Fl.nd (CV (pv 0) O.cl mK GK hr bK .nil pass0 (Aa (Ar CZ (pv 1) Ai) (Aa (CV (Bc (pv 0) rfl) cD mT GT mW bT .nil pass0 (Aa (Bc (pv 0) rfl) (Aa (pv 3) (Aa (pv 1) Ad)))) Ad))))
   (Af (DP (Js ED FF FG EY (Bc (pv 0) rfl) (Aa (Br (Aa (pv 1) (Aa (pv 4) (Aa (pv 5) Ad)))) Ad)))
   (Aj (ACy (Bp hr) (Bc (pv 0) rfl) (Br (Aa (pv 1) (Aa (pv 3) Ad))) (Ar CZ (Aw BJ rfl T.len DB (Aa (Bc (pv 0) rfl) Ad)) Ai) rfl))))) BL)
  (Aj (Aq (ADK (Bp hr) (Bc (pv 0) rfl) (Br (Aa (pv 1) (Aa (pv 3) Ad))) (λ_ _=>rfl))))))),?_⟩
 obtain⟨dg,hg⟩:=gr.ins;obtain⟨dr,gI⟩:=gr.rul;have p2:1<=2 ^ d:=SA;refine⟨_,rfl,g,dg,_,rfl,hg,rfl,_,rfl,_,rfl,g,W,r,Bh,R,Dk,z,t,bs,v,o,rfl,gr,z10,by lia,rs,λv' H1 s1 rs1=>?_⟩;have gr1:=gr.same s1;have rw1:=rw0.same s1;have hg1:=s1 _ _ hg;have oo:=s1 _ _ gI;cases e:(o.bind λr=>passU u r (behP bs z t)) with
 | none =>
  rw[e] at rs1;cases rs1;refine⟨_,rfl,_,rfl,iteT ?_⟩;exact q 0 [] ag H1 (λb o _ _ e=>s1 _ _ e) (by rw[B3];exact rw1) (Np (ABd e)) (λ_ _ _=>rfl) cnt_nil (by simpa using p2)
 | some st =>
  rw[e] at rs1;obtain⟨b,rfl,hb,sl⟩:=rs1;refine⟨_,rfl,_,rfl,iteF ?_⟩;refine⟨_,rfl,_,rfl,g,Gc,dg,_,_,rfl,hg1,O.cl,O.nA,Nt _ _ _ _ _ _,rfl,_,rfl,?_⟩;by_cases d0:d=0
  .subst d0
   refine iteP (by rw[show t=bs.length by lia]) ?_;refine⟨_,rfl,g,Gc,dg,_,_,rfl,hg1,O.cl,O.nU,Jm _ _ _ _ _ _,r,dr,_,rfl,oo,u.nU,_,rfl,g,Gc,dg,_,_,rfl,hg1,O.cl,O.nW,Qh _ _ _ _ _ _,_,rfl,_,_,b,st,rfl,hb,_,rfl,?_⟩;refine ite2 (λc=>?_) (λc=>?_)
   .exact q 1 [] ag H1 (λb o _ _ e=>s1 _ _ e) (by rw[B3];exact rw1) (Zy λs=>by rw[XD e,c,Bool.true_and]) (λ_ _ _=>rfl) cnt_nil (by simpa using p2)
   .exact q 0 [] ag H1 (λb o _ _ e=>s1 _ _ e) (by rw[B3];exact rw1) (Np λs=>by rw[XD e,(Bool.not_eq_true _).mp c,O9]) (λ_ _ _=>rfl) cnt_nil (by simpa using p2)
  .obtain⟨d',rfl⟩:∃d',d=d'+1:=⟨d-1,by lia⟩
   have tn:t<bs.length:=uk td;refine iteN (λz=>by injection z with z;lia) ?_;have pd:2 ^ (d'+1)=2 ^ d'+2 ^ d':=by rw[LX];exact tQ
   have pd1:1<=2 ^ d':=SA;refine⟨λσ' H'=>∃(o4 o5:Option V) (k:Nat) (more:List Row) (bb:List (OKey×V)),σ'=[pX (.ref g),pX (.int t),pX v,pX (.ref b),o4,o5]/\(∀b o,b≠R->b≠Dk->H b=pX o->H' b=pX o)/\Gr u K C D Gc g W r Bh R Dk z bs H'/\Rw u P w K R Dk bs z H' (aa++more) bb/\valV bb (keyC t st)=pX (.int k)/\Lead (aa++more) t k (semC u bs z (d'+1) t o)/\Old t ag bb/\Cnt t more/\more.length+1<=2 ^ (d'+1)/\StAt K H' b st,?_,?_⟩
   .refine⟨_,rfl,_,rfl,(by show 2<=sizeLine;decide),λx hx=>?_⟩
    have sx:=qe hx (.tup [.int (t:Int),.ref b]);have ke:=sx _ _ hg1;have oG:=rw1.same sx;have gr2:=gr1.same sx;have hb2:StAt K (upd H1 x (.tup [.int (t:Int),.ref b])) b st:=sx.ts.seq hb;refine⟨_,rfl,g,Gc,dg,_,_,rfl,ke,O.cl,O.nK,KH _ _ _ _ _ _,Dk,valV ag (keyC t st),rfl,⟨ag,keyC t st,x,oG.dn,rfl,Ud Ab hb2,rfl⟩,_,rfl,?_⟩;have s2:=s1.trans sx;cases ev:valV ag (keyC t st) with
    | some v0 =>
     obtain⟨k,rfl,_,ld⟩:=rw0.kn t st v0 ev;refine iteF ⟨_,_,k,[],ag,rfl,λb o _ _ e=>s2 _ _ e,gr2,by rw[B3];exact oG,ev,?_,λ_ _ _=>rfl,cnt_nil,by simp;exact p2,hb2⟩;rw[B3,AAu e,show d'=bs.length-1-t by lia];exact ld
    | none =>
     refine iteT ?_;have hr2':=sx _ _ oo;have e1:((t:Int)+1)=((t+1:Nat):Int):=u6;refine⟨_,rfl,g,dg,_,rfl,ke,rfl,_,rfl,_,_,rfl,rfl,_,rfl,g,Gc,dg,_,_,rfl,ke,O.cl,O.nU,Jm _ _ _ _ _ _,r,dr,_,rfl,hr2',u.nL,_,rfl,g,Gc,dg,_,_,rfl,ke,O.cl,O.nW,Qh _ _ _ _ _ _,_,rfl,_,rfl,_,_,_,_,rfl,?_⟩;refine hG _ _ _ _ uT ⟨g,W,r,Bh,R,Dk,z,t+1,bs,.ref b,pX st,aa,ag,G,congrArg (λi=>[V.ref g,V.int i,V.ref b]) e1,uU td,gr2,z1,z10,b8,kM,gd,(gd t o st tn go e).2.1,⟨b,rfl,hb2,sl⟩,oG,by rw[EN];lia,λk1 bt kvs1 H3 kp3 m8 ld1 oj cnt1 ml1=>?_⟩;rw[EN] at ld1 ml1;obtain⟨xs2,lL,_⟩:=id oG.at_;obtain⟨_,_,ax2,l7,_⟩:=id oG.dn;have l9:=gr2.keep kp3 lL l7;have ts3:=tsRD kp3 lL l7;obtain⟨dg3,hg3⟩:=l9.ins;obtain⟨dr3,nv⟩:=l9.rul;have m5:StAt K H3 b st:=ts3.seq hb2;refine⟨_,rfl,g,dg3,_,rfl,hg3,rfl,_,rfl,_,_,rfl,rfl,_,rfl,g,Gc,dg3,_,_,rfl,hg3,O.cl,O.nU,Jm _ _ _ _ _ _,r,dr3,_,rfl,nv,u.nT,_,rfl,g,Gc,dg3,_,_,rfl,hg3,O.cl,O.nW,Qh _ _ _ _ _ _,_,rfl,_,rfl,r,W,b,dr3,t,z,bs,st,rfl,nv,l9.web,kM,m5,sl,(gd t o st tn go e).1,tn,z10,λv4 H4 s4 rs4=>?_⟩;have jS:=m8.same s4;have gr4:=l9.same s4;refine hG _ _ _ _ uT ⟨g,W,r,Bh,R,Dk,z,t+1,bs,v4,takU u bs t st,aa++bt,kvs1,G,congrArg (λi=>[V.ref g,V.int i,v4]) e1,uU td,gr4,z1,z10,b8,kM,gd,(gd t o st tn go e).2.2,rs4,jS,by rw[EN,Bz];lia,λk2 b4 ma H5 kp5 kP ld2 gE cnt2 ml2=>?_⟩;rw[EN] at ld2 ml2;obtain⟨xs4,gV,_⟩:=id jS.at_;obtain⟨_,_,ax4,kK,_⟩:=id jS.dn;have gr5:=gr4.keep kp5 gV kK;have ts5:=tsRD kp5 gV kK;obtain⟨dg5,hg5⟩:=gr5.ins;have hb5:StAt K H5 b st:=ts5.seq (s4.ts.seq m5);obtain⟨e6,fm,px5⟩:=id kP.at_;obtain⟨_,_,ax5,dm,_⟩:=id kP.dn;have lx5:=AT px5;refine⟨_,rfl,g,Gc,dg5,_,_,rfl,hg5,O.cl,O.nR,Qg _ _ _ _ _ _,.inl ⟨rfl,_,qX fm⟩,_,rfl,_,rfl,_,rfl,(by show 3<=sizeLine;decide),λy hy=>?_⟩;have sy:=qe hy (.tup [.int (t:Int),.int (k1:Int),.int (k2:Int)]);have l5:e6.length<=4100:=by
      rw[<- lx5];simp only[Bz];lia
     refine⟨R,_,_,rfl,rfl,sy _ _ fm,smallN (tI l5),?_⟩;obtain⟨ok6,ld6⟩:=Yk (lef:=lefU) (tak:=takU u bs) (g:=semC u bs z d' (t+1)) (st:=st) kP.ok tn (ld1.app m8.ok) ld2;have RD:=Cj fm dm (by intro z;cases z);have gR:=Cj hg5 fm (by intro z;cases z);have nG:=sy _ _ fm;have tl6:=qd (o:=.lst (e6++[.ref y])) nG;have k6:∀c o,c≠R->H5 c=pX o->(upd (upd H5 y (.tup [.int (t:Int),.int (k1:Int),.int (k2:Int)])) R (.lst (e6++[.ref y]))) c=pX o:=λc o h e=>by rw[Ae h];exact sy _ _ e
     have pO:=gr5.keep (H':=upd (upd H5 y (.tup [.int (t:Int),.int (k1:Int),.int (k2:Int)])) R (.lst (e6++[.ref y]))) (λc o h _ e=>k6 c o h e) fm dm;have dn6:=kP.dn.keep (H':=upd (upd H5 y (.tup [.int (t:Int),.int (k1:Int),.int (k2:Int)])) R (.lst (e6++[.ref y]))) (λo=>k6 _ o (CB RD)) (sy.ts.trans tl6);have oU:StAt K (upd (upd H5 y (.tup [.int (t:Int),.int (k1:Int),.int (k2:Int)])) R (.lst (e6++[.ref y]))) b st:=(sy.ts.trans tl6).seq hb5;have iP:(upd (upd H5 y (.tup [.int (t:Int),.int (k1:Int),.int (k2:Int)])) R (.lst (e6++[.ref y]))) R=pX (.lst (e6++[.ref y])):=Ab;have px6:A7 (K33s.rRow K (upd (upd H5 y (.tup [.int (t:Int),.int (k1:Int),.int (k2:Int)])) R (.lst (e6++[.ref y])))) (aa++bt++b4++[(t,k1,k2)]) (e6++[.ref y]):=by
      refine Paired.app (Paired.imp (λ_ _ c=>K33s.Ca _ _ _ _ (sy.ts.trans tl6) c) px5) (qc ⟨y,rfl,qY ?_⟩);rw[Ae (Cj Ab nG (by intro z;cases z))];exact Ab
     generalize upd (upd H5 y (.tup [.int (t:Int),.int (k1:Int),.int (k2:Int)])) R (.lst (e6++[.ref y]))=H6 at k6 pO dn6 oU iP px6;obtain⟨dg6,hg6⟩:=pO.ins;obtain⟨_,_,ax6,f8,_⟩:=id dn6;have new:valV ma (keyC t st)=pY:=by rw[gE t st rB,oj t st rB,ev]
     have kl2:=kP.len;refine⟨_,rfl,g,Gc,dg6,_,_,rfl,hg6,O.cl,O.nR,Qg _ _ _ _ _ _,R,_,rfl,.inl (qX iP),_,_,rfl,rfl,_,rfl,g,Gc,dg6,_,_,rfl,hg6,O.cl,O.nK,KH _ _ _ _ _ _,_,rfl,_,rfl,(by show 2<=sizeLine;decide),λu hu=>?_⟩;have su:=qe hu (.tup [.int (t:Int),.ref b]);refine⟨Dk,ma,keyC t st,u,rfl,rfl,dn6.keep (λo=>su _ o) su.ts,Ud Ab (su.ts.seq oU),new,smallN (by rw[lx5] at kl2;lia),λH9 oth dn9=>?_⟩;have kl:(((e6++[V.ref y]).length:Nat):Int)+1=(((aa++bt++b4).length+2:Nat):Int):=by
      rw[Bz,D7,<- lx5];lia
     rw[show(λ(i j:Int)=>V.int (i+j)) (((e6++[V.ref y]).length:Nat):Int) 1=V.int (((aa++bt++b4).length+2:Nat):Int) from congrArg V.int kl] at dn9;have k9:∀c o,c≠Dk->H6 c=pX o->H9 c=pX o:=λc o h e=>by rw[oth c h];exact su _ _ e
     have eas:aa++(bt++b4++[(t,k1,k2)])=aa++bt++b4++[(t,k1,k2)]:=by simp only[CL]
     have ts9:=tsRD (R:=R) (D:=Dk) (λc o _ h e=>k9 c o h e) iP f8;refine⟨_,_,(aa++bt++b4).length+2,bt++b4++[(t,k1,k2)],putK ma (keyC t st) (.int (((aa++bt++b4).length+2:Nat):Int)),rfl,λc o h1 h2 e=>?_,?_,?_,?_,?_,?_,AAq cnt1 cnt2,?_,ts9.seq oU⟩
     .exact k9 _ _ h2 (k6 _ _ h1 (kp5 _ _ h1 h2 (s4 _ _ (kp3 _ _ h1 h2 (s2 _ _ e)))))
     .exact pO.keep (λc o _ h e=>k9 c o h e) iP f8
     .rw[eas]
      refine⟨⟨_,k9 _ _ RD iP,Paired.imp (λ_ _ c=>K33s.Ca _ _ _ _ ts9 c) px6⟩,dn9,ok6,λt' ar v' g9=>?_,?_⟩
      .rw[Eb] at g9
       by_cases c:keyC t' ar=keyC t st
       .rw[p6 c] at g9
        cases g9;obtain⟨rfl,rfl⟩:=RG c;refine⟨_,rfl,tn,?_⟩;rw[show bs.length-1-t'=d' by lia];exact ld6
       .rw[pZ c] at g9
        exact(kP.kn.app kP.ok) t' ar v' g9
      .rw[HX _ new,Bz,D7,Bz,D7]
       exact tJ kl2
     .rw[Eb,p6 rfl]
     .rw[eas,AAu e]
      exact ld6
     .intro t' ar lt
      rw[Eb,pZ (λc=>by have:=(RG c).1;exact qL lt this),gE t' ar (qw lt),oj t' ar (qw lt)]
     .simp only[Bz,D7]
      lia
   .rintro σ H6 ⟨o4,o5,k,more,bb,rfl,kp,pO,rw6,val,ld,b6,cnt,ml,oU⟩
    obtain⟨dg6,hg6⟩:=pO.ins;refine⟨_,rfl,g,Gc,dg6,_,_,rfl,hg6,O.cl,O.nK,KH _ _ _ _ _ _,_,rfl,_,rfl,(by show 2<=sizeLine;decide),λy hy=>?_⟩;have sy:=qe hy (.tup [.int (t:Int),.ref b]);exact⟨Dk,.int k,rfl,⟨bb,keyC t st,y,rw6.dn.keep (λo=>sy _ o) sy.ts,rfl,Ud Ab (sy.ts.seq oU),val⟩,q k more bb _ (λc o h1 h2 e=>sy _ _ (kp c o h1 h2 e)) (rw6.same sy) ld b6 cnt ml⟩
end
def Wh(u:Wr)(P:AK)(w:AQ)(K:Au)(C Dc Gc:Addr):Sp:=λvs H Q _=>∃(g dx W r dr:Addr) (z:Nat) (bs:qD),vs=[.ref g,.ref W,.ref r]/\H g=pX (.ins Gc dx [])/\W≠g/\r≠g/\WebAt K C H W z bs/\H r=pX (.ins Dc dr u.fl)/\z<=10/\bs.length<=12 /\
 ∀(Bh R D:Addr) (H':Hp),(∀b o,H b=pX o->b≠g->H' b=pX o)->Gr u K C Dc Gc g W r Bh R D z bs H'->Rw u P w K R D bs z H' [] []->H R=none->H D=none->Q .non H'
section
variable{u:Wr}
theorem ACh:FnScope zl8 zl8 (Ag PK):=fscp (by decide+kernel)
theorem RP(F:Fun K "__init__" "Growth.__init__" PK f fd)(T:Txt K mg C)(O:Gro K mg Gc)
  (GT:FnOk P w K mg base CX0 1 fT cS zl3 (VJ K C)) (bT:Binds K cS zl3 []) (mT:Meth K C "ties" fT)
  (GB:Cal P w K mg base 2 fB mY "points_behind" zl5 (ABT K C)) :
  FnOk P w K mg base CX0 3 f fd zl8 (Wh u P w K C D Gc):=by
 refine F.ok ACh (λvs H Q E h=>?_) (λa6 A outer s H vs Q E hr h=>?_)
 .obtain⟨g,dx,W,r,dr,z,bs,rfl,_⟩:=h
  rfl
 obtain⟨g,dx,W,r,dr,z,bs,rfl,hg,Wg,rg,hW,gI,z10,b8,q⟩:=h;have ce:Room 1 _:=hr.mono (by decide);refine⟨_,Af (Dp (pv 0) (pv 1) rfl)
  (Af (Dp (pv 0) (pv 2) rfl)
  (Af (Dp (pv 0) (Aw BJ rfl T.len DB (Aa (Dl (pv 1) T.cl mT GT ce bT .nil pass0) Ad)) rfl)
  (Af (Dp (pv 0) (CP (Ag PK) ["number"] ["web"] [1] rfl rfl (by decide+kernel) ⟨⟨rfl,by decide+kernel⟩,trivial⟩ (Dz rfl T.range (Aa (Ar CZ (Bc (pv 0) rfl) Ai) Ad))
   (λ_ _ _=>BK (i:=0)) (λ_ _ _=>Ec)
   (λ_ _ _=>Bd GB hr rfl (Aa (pv 1) (Aa (pv 0) Ad)))) rfl)
  (Af (Dp (pv 0) (Dm Ad) rfl)
  (Aj (Dp (pv 0) Zt rfl)))))),?_⟩
 have tsI:∀{H0:Hp}{fs gs:List (Str×V)},H0 g=pX (.ins Gc dx fs)->TSm H0 (upd H0 g (.ins Gc dx gs)):=λ{H0 fs gs} hP b u hb t=>by
  rw[Ae ?_]
  .exact hb
  .rintro rfl
   rw[hP] at hb;cases hb;obtain⟨ys,e| ⟨o,e⟩⟩:=t
   .cases e
   .cases e
 refine⟨_,rfl,_,rfl,g,Gc,dx,[],rfl,hg,O.cl,O.nW,(by decide),?_⟩;refine⟨_,rfl,_,rfl,g,Gc,dx,_,rfl,Ab,O.cl,O.nU,(by show 1<1000;decide),?_⟩;rw[Ge];have k1:∀b o,b≠g->H b=pX o->(upd H g (.ins Gc dx (putF "rule" (.ref r) (putF "web" (.ref W) [])))) b=pX o:=λb o h e=>by rw[Ae h];exact e
 have ts1:=tsI (gs:=putF "rule" (.ref r) (putF "web" (.ref W) [])) hg;have g1:(upd H g (.ins Gc dx (putF "rule" (.ref r) (putF "web" (.ref W) [])))) g=pX (.ins Gc dx (putF "rule" (.ref r) (putF "web" (.ref W) []))):=Ab;generalize upd H g (.ins Gc dx (putF "rule" (.ref r) (putF "web" (.ref W) [])))=H1 at k1 ts1 g1;have hW1:WebAt K C H1 W z bs:=by
  obtain⟨d,j,a1,a2⟩:=hW;exact⟨d,j,k1 _ _ Wg a1,Ak (Ak Ao) _ _ _ _ ts1 a2⟩
 obtain⟨dw,jw,hw1,_⟩:=id hW1;refine⟨_,rfl,W,dw,_,rfl,hw1,rfl,W,z,bs,rfl,hW1,λl H2 s2 hl hL=>?_⟩;obtain⟨l',ts,el,hX,px⟩:=hL;cases el;have lt:=(AT px).symm;refine⟨l,_,rfl,.inl hX,_,rfl,g,Gc,dx,_,rfl,s2 _ _ g1,O.cl,O.nA,(by show 2<1000;decide),?_⟩;have g2:=s2 _ _ g1;rw[lt];have k3:∀b o,b≠g->H b=pX o->(upd H2 g (.ins Gc dx (putF "amount" (.int (bs.length:Nat)) (putF "rule" (.ref r) (putF "web" (.ref W) []))))) b=pX o:=λb o h e=>by rw[Ae h];exact s2 _ _ (k1 b o h e)
 have ts3:=ts1.trans (s2.ts.trans (tsI (gs:=putF "amount" (.int (bs.length:Nat)) (putF "rule" (.ref r) (putF "web" (.ref W) []))) g2));have g3:(upd H2 g (.ins Gc dx (putF "amount" (.int (bs.length:Nat)) (putF "rule" (.ref r) (putF "web" (.ref W) []))))) g=pX (.ins Gc dx (putF "amount" (.int (bs.length:Nat)) (putF "rule" (.ref r) (putF "web" (.ref W) [])))):=Ab;generalize upd H2 g (.ins Gc dx (putF "amount" (.int (bs.length:Nat)) (putF "rule" (.ref r) (putF "web" (.ref W) []))))=H3 at k3 ts3 g3;have hW3:WebAt K C H3 W z bs:=by
  obtain⟨d,j,a1,a2⟩:=hW;exact⟨d,j,k3 _ _ Wg a1,Ak (Ak Ao) _ _ _ _ ts3 a2⟩
 refine⟨_,rfl,g,Gc,dx,_,_,rfl,g3,O.cl,O.nA,(by rw[Ah,p6 rfl]),_,_,rfl,rfl,_,rfl,by lia,by lia,λBh hBh=>?_⟩;refine Cp (lo:=0) (n:=(((bs.length:Nat):Int)+1).toNat) (λj τ H4=>∃(o:Option V) (ys:List V),τ=[o,pX (.ref W)]/\Same H3 H4/\H4 Bh=pX (.lst ys)/\A7 (λt v=>∃l,v=.ref l/\l≠Bh/\H4 l=pX (.lst (nI (behP bs z t)))) (AO j) ys) ⟨pY,[],rfl,qe hBh _,Ab,.nil⟩ ?_ ?_
 .rintro j τ H4 hj ⟨o,ys,rfl,s4,eB,pB⟩
  have ej:(0:Int)+j=(j:Int):=rC;rw[ej];have ly:=AT pB;rw[B0] at ly;refine yesN ⟨_,rfl,_,rfl,W,j,z,bs,rfl,hW3.same s4,z10,b8,λm H5 s5 hm em=>?_⟩;have GB.m:m≠Bh:=λz=>by rw[z,eB] at hm;cases hm
  refine⟨_,s5 _ _ eB,BZ (by lia),_,_,rfl,λb o e=>?_,Ab,?_⟩
  .rw[Ae (Ac e hBh)]
   exact s5 _ _ (s4 b o e)
  .rw[FH]
   refine Paired.app (Paired.imp (λt v ⟨l,e1,e2,e3⟩=>⟨l,e1,e2,by rw[Ae e2];exact s5 _ _ e3⟩) pB) (qc ⟨m,rfl,GB.m,by rw[Ae GB.m];exact em⟩)
 rintro τ H4 ⟨o,ys,rfl,s4,eB,pB⟩;rw[show(((bs.length:Nat):Int)+1).toNat=bs.length+1 by lia] at pB;have g4:=s4 _ _ g3;have gB:Bh≠g:=λz=>by rw[z,g4] at eB;cases eB
 refine⟨_,rfl,g,Gc,dx,_,rfl,g4,O.cl,O.nB,(by show 3<1000;decide),?_⟩;have nBH:H Bh=pY:=by
  cases e:H Bh with
  | none=>rfl
  | some o=>have:=k3 _ _ gB e;rw[hBh] at this;cases this
 refine⟨BD _,λR hR=>?_⟩;have gR:R≠g:=λz=>by rw[z,Ab] at hR;cases hR
 have hR4:H4 R=pY:=by rw[Ae gR] at hR;exact hR
 have BR:=Ac eB hR4;refine⟨_,rfl,g,Gc,dx,_,rfl,by rw[Ae (CB gR)];exact Ab,O.cl,O.nR,(by show 4<1000;decide),?_⟩;refine λDk hD dn0=>?_;have gD:Dk≠g:=λz=>by rw[z,Ab] at hD;cases hD
 have RD:Dk≠R:=λz=>by rw[z,Ae gR,Ab] at hD;cases hD
 have hD4:H4 Dk=pY:=by rw[Ae gD,Ae RD,Ae gD] at hD;exact hD
 refine⟨_,rfl,g,Gc,dx,_,rfl,by rw[Ae (CB gD)];exact Ab,O.cl,O.nK,(by show 5<1000;decide),?_⟩;have fin:∀b o,b≠g->H4 b=pX o->(upd (upd (upd (upd (upd H4 g (.ins Gc dx (putF "behind" (.ref Bh) (putF "amount" (.int (bs.length:Nat)) (putF "rule" (.ref r) (putF "web" (.ref W) [])))))) R (.lst [])) g (.ins Gc dx (putF "rows" (.ref R) (putF "behind" (.ref Bh) (putF "amount" (.int (bs.length:Nat)) (putF "rule" (.ref r) (putF "web" (.ref W) []))))))) Dk (dO P w Dk [])) g (.ins Gc dx (gf W r (bs.length:Nat) Bh R Dk))) b=pX o:=λb o h e=>by
  rw[Ae h,Ae (Ac e hD4),Ae h,Ae (Ac e hR4),Ae h];exact e
 have fT:TSm H4 (upd (upd (upd (upd (upd H4 g (.ins Gc dx (putF "behind" (.ref Bh) (putF "amount" (.int (bs.length:Nat)) (putF "rule" (.ref r) (putF "web" (.ref W) [])))))) R (.lst [])) g (.ins Gc dx (putF "rows" (.ref R) (putF "behind" (.ref Bh) (putF "amount" (.int (bs.length:Nat)) (putF "rule" (.ref r) (putF "web" (.ref W) []))))))) Dk (dO P w Dk [])) g (.ins Gc dx (gf W r (bs.length:Nat) Bh R Dk))):=λb u hb t=>fin b u (λz=>by
  rw[z,g4] at hb;cases hb;obtain⟨ys,e| ⟨o,e⟩⟩:=t
  .cases e
  .cases e) hb
 have b6:∀x,x≠g->H4 x=none->H x=pY:=λx h n=>by
  cases e:H x with
  | none=>rfl
  | some o=>have:=s4 _ _ (k3 _ _ h e);rw[n] at this;cases this
 refine q Bh R Dk _ (λb o e h=>fin b o h (s4 _ _ (k3 b o h e))) ⟨⟨dx,Ab⟩,?_,⟨dr,fin _ _ rg (s4 _ _ (k3 _ _ rg gI))⟩,⟨ys,fin _ _ gB eB,BR,Paired.imp (λt v ⟨l,e1,e2,e3⟩=>⟨l,e1,Ac e3 hR4,fin _ _ (λz=>by rw[z,g4] at e3;cases e3) e3⟩) pB⟩⟩ ?_ (b6 R gR hR4) (b6 Dk gD hD4)
 .obtain⟨d,j,a1,a2⟩:=hW3.same s4
  exact⟨d,j,fin _ _ Wg a1,Ak (Ak Ao) _ _ _ _ fT a2⟩
 .refine⟨⟨[],by rw[Ae gR,Ae (CB RD),Ae gR,Ab],.nil⟩,dn0.keep (λo e=>by rw[Ae gD];exact e) (tsI (fs:=_) (by rw[Ae (CB gD)];exact Ab)),λi r h=>(by simp at h),λt st v hv=>(by cases hv),AH _⟩
end
section
variable{u:Wr}
theorem JF{fP fL fT fU:Addr}{ft oQ cS nF:BI}(F:Fun K "knot_at" "Growth.knot_at" Jk f fd)(T:Txt K mg C)(cD:Cls K D)(O:Gro K mg Gc)
  (GP:FnOk P w K mg base CX0 4 fP ft zl22 (VB u K C D Gc)) (bP:Binds K ft zl22 []) (mP:Meth K Gc "past_points" fP)
  (GL:FnOk P w K mg base CX0 1 fL oQ zl11 Vf) (bL:Binds K oQ zl11 []) (mL:Meth K D "left" fL)
  (GT:FnOk P w K mg base CX0 3 fT cS zl11 (PN u K C D)) (bT:Binds K cS zl11 []) (mT:Meth K D "taken" fT)
  (GU:FnOk P w K mg base CX0 1 fU nF zl10 (AAm u K)) (bU:Binds K nF zl10 []) (mU:Meth K D "fulfilled" fU)
  (bK:Binds K fd zl22 []) (mK:Meth K Gc "knot_at" f):∀d,FnOk P w K mg base CX0 (d+5) f fd zl22 (KJ u P w K C D Gc d)
 | 0=>KZ 0 F T cD O GP bP mP GL bL mL GT bT mT GU bU mU (sp:=λ_ _ _ _=>False) (λ_ _ _ _ h=>qB rfl h) (F.ok Fl (λvs H Q E h=>EH h) (λa6 A outer s H vs Q E hr h=>EH h)) bK mK
 | d+1=>KZ (d+1) F T cD O GP bP mP GL bL mL GT bT mT GU bU mU (sp:=KJ u P w K C D Gc d) (λ_ _ _ _ _ h=>h) (JF F T cD O GP bP mP GL bL mL GT bT mT GU bU mU bK mK d) bK mK
end
end K33
namespace L2
open PySem
def rO:Rep (Option Int):=λ_ c v=>v=oV c
theorem AEQ{a b:Option Int}(h:oV a=oV b):a=b:=by
 cases a<;>cases b<;>first| rfl| (cases h;done)| (injection h with h;rw[h])
theorem QT:Dat X 0 rO where
 eq:=λae s σ H A a b x y u v I hu ha hb ru rv=>by
  cases ha;cases hb;cases a with
  | none =>
   cases ru;cases b with
   | none =>
    cases rv;rw[p7 rfl];exact LO .none
   | some j =>
    obtain⟨t,rfl⟩:=rv;rw[p8 (by intro z;cases z)];exact Mm j t
  | some i =>
   obtain⟨t,rfl⟩:=ru;cases b with
   | none =>
    cases rv;rw[p8 (by intro z;cases z)];exact Mn i t
   | some j =>
    obtain⟨t',rfl⟩:=rv;have e:=Kj (A:=A) (s:=s) i t j t';rw[Lv] at e;rw[show decide ((pX i:Option Int)=pX j)=decide (i=j) from decide_eq_decide.mpr ⟨A8,λz=>by rw[z]⟩];exact e
 fn:=λae s σ H a b x I ha hb=>AEQ (ha.symm.trans hb)
theorem KR{H:Hp}:∀(st:List (Option Int)),A7 (rO H) st (st.map oV)
 | []=>.nil
 | c::st=>.cons rfl (KR st)
end L2
namespace K33
open PySem L2 G
structure Dn(K:Au)(mg:Str->Option As)(a:Addr):Prop where
 mgD:mg "DONE" = pX (.ref a)
 at_:∀H,SqT K H a []
theorem Vj{st:StO}(h:StAt K H b st):rTup K rO H st (.ref b):=⟨b,_,rfl,h,KR st⟩
theorem Jx{st:StO}{p:Nat}(h:p<st.length):atI (st.map oV) (p:Int)=pX (oV (st.getD p pY)):=CN (by rw[Bi,AD,AL h];rfl)
theorem ADM(c:Option Int):flatV (oV c)=true:=by cases c<;>rfl
theorem ADz(c:Option Int)(p:Nat):inV (oV c) [V.non,V.int (p:Int)]=decide (c=pY\/c=pX (p:Int)):=by
 cases c with
 | none=>rfl
 | some i =>
  show(eqV .non (.int i)||(eqV (.int (p:Int)) (.int i)||false))=_;have e1:eqV .non (.int i)=false:=rfl;have e2:eqV (.int (p:Int)) (.int i)=decide ((p:Int)=i):=by
   first
    | rfl
    | (unfold eqV;rw[Lv])
  rw[e1,e2,VT,VY];refine decide_eq_decide.mpr ⟨λh=>.inr (by rw[h]),λh=>?_⟩;rcases h with h| h
  .cases h
  .injection h with h
   exact h.symm
structure NoF(fl:List (Str×V)):Prop where
 nP:fl.lookup ("passed" : Str)=pY
 nL:fl.lookup ("left" : Str)=pY
 nT:fl.lookup ("taken" : Str)=pY
 nU:fl.lookup ("fulfilled" : Str)=pY
 nB:fl.lookup ("begun" : Str)=pY
 nM:fl.lookup ("may_stay" : Str)=pY
 nC:fl.lookup ("closed" : Str)=pY
 nR:fl.lookup ("refuse_web" : Str)=pY
def uS(fl:List (Str×V))(h:NoF fl):Wr:=⟨passS1,takeS,λst=>decide (st=[]),λ_ _ _=>True,VldS,fl,h.nP,h.nL,h.nT,h.nU,h.nB⟩
def Uo(K:Au):Sp:=λvs H Q _=>∃(a:V) (b:Addr) (p:Nat) (st:StO),vs=[a,.ref b,.int p]/\StAt K H b st/\p<st.length/\∀H',Same H H'->Q (.bl (stayS st p)) H'
section
variable{hf:NoF fl}
theorem AEW:FnScope zl9 zl9 (Ag WM):=fscp (by decide+kernel)
theorem Vw(F:Fun K "may_stay" "Strands.may_stay" WM f fd):FnOk P w K mg base CX0 1 f fd zl9 (Uo K):=by
 refine F.ok AEW (λvs H Q E h=>?_) (λa6 A outer s H vs Q E hr h=>?_)
 .obtain⟨a,b,p,st,rfl,_⟩:=h
  rfl
 obtain⟨a,b,p,st,rfl,hb,pl,q⟩:=h;refine⟨_,Aj (Aq (Ej MP (Ay Bg (pv 1) (pv 2)) (Br (Aa Gz (Aa (pv 2) Ad))) rfl)),?_⟩;refine⟨_,rfl,_,rfl,b,_,_,_,rfl,rfl,hb,Jx pl,_,rfl,(by show 2<=sizeLine;decide),λt ht=>?_⟩;refine⟨t,_,rfl,.inr (qY Ab),ADM _,rfl,?_⟩;rw[pZ (by decide),ADz];exact q _ (qe ht _)
theorem AFf:FnScope zl10 zl10 (Ag ACr):=fscp (by decide+kernel)
theorem Zv(F:Fun K "fulfilled" "Strands.fulfilled" ACr f fd)(N:Dn K mg da):FnOk P w K mg base CX0 1 f fd zl10 (AAm (uS fl hf) K):=by
 refine F.ok AFf (λvs H Q E h=>?_) (λa6 A outer s H vs Q E hr h=>?_)
 .obtain⟨r,p,b,st,rfl,_⟩:=h
  rfl
 obtain⟨r,p,b,st,rfl,hb,q⟩:=h;refine⟨_,Aj (Aq (Ej (Vq QT (Bp hr)) (pv 2) (Gm (v:=.ref da) rfl N.mgD rfl))),?_⟩;exact⟨_,rfl,st,[],Vj hb,⟨da,[],rfl,N.at_ _,.nil⟩,q⟩
theorem ADw:FnScope zl11 zl11 (Ag Wa):=fscp (by decide+kernel)
theorem Wu(F:Fun K "left" "Rule.left" Wa f fd):FnOk P w K mg base CX0 1 f fd zl11 Vf:=by
 refine F.ok ADw (λvs H Q E h=>?_) (λa6 A outer s H vs Q E hr h=>?_)
 .obtain⟨r,p,b,x,rfl,_⟩:=h
  rfl
 obtain⟨r,p,b,x,rfl,q⟩:=h;exact⟨_,Aj (Aq (pv 2)),⟨_,rfl,q⟩⟩
theorem AAz:FnScope zl12 zl12 (Ag Hu):=fscp (by decide+kernel)
theorem Ma(F:Fun K "passed" "Strands.passed" Hu f fd)(T:Txt K mg C)(cD:Cls K D)(N:Dn K mg da)(GA:FnOk P w K mg base CX0 1 fA ff zl9 (Uo K))(bA:Binds K ff zl9 [])(mA:Meth K D "may_stay" fA) :
  FnOk P w K mg base CX0 3 f fd zl12 (Ql (uS fl hf) K D):=by
 refine F.ok AAz (λvs H Q E h=>?_) (λa6 A outer s H vs Q E hr h=>?_)
 .obtain⟨p,b,dx,a,q,z,st,rfl,_⟩:=h
  rfl
 obtain⟨p,b,dx,a,qp,z,st,rfl,ha,hb,vl,qz,z10,q⟩:=h;have ce:Room 1 _:=hr.mono (by decide);refine⟨_,Af (CQ (Av (Vq QT (Bp hr)) (pv 2) (Gm (v:=.ref da) rfl N.mgD rfl)) (Aj (Aq (pv 2))) BL)
  (Af (CQ (Il (CV (pv 0) cD mA GA ce bA .nil pass0 (Aa (pv 2) (Aa (pv 3) Ad))))
   (Aj (Aq (BX Bt rfl T.tuple Db (Aa (CP (Ag Hu) ["other","end"] ["point"] [3] rfl rfl (by decide+kernel) ⟨⟨rfl,by decide+kernel⟩,trivial⟩ (Rt rfl T.enum (Aa (pv 2) Ad))
    (λ_ _ _=>Jo (K:=K) (n:=2) rfl rfl (Bo (BK (i:=0)) (Bo (BK (i:=1)) FN)))
    (λ_ _ _=>Ec)
    (λ_ _ _=>Sw (Av Hl (pv 0) (pv 2)) Gz (pv 1))) Ad)))) BL)
  (Aj (Aq Gz))),?_⟩
 refine⟨_,rfl,st,[],Vj hb,⟨da,[],rfl,N.at_ _,.nil⟩,_,rfl,?_⟩;by_cases c0:st=[]
 .refine iteP c0 ⟨_,rfl,q _ _ (qZ _) ?_⟩
  show RS (uS fl hf) K z H (.ref b) (passS1 st qp);unfold passS1;rw[p6 c0];exact⟨b,rfl,hb,vl⟩
 refine iteN c0 ?_;have ln:=VldS.len vl|>.resolve_left c0
 have ql:qp<st.length:=fv qz ln;refine⟨_,rfl,a,dx,_,rfl,ha,hf.nM,_,rfl,_,rfl,.ref a,b,qp,st,rfl,hb,ql,λH1 s1=>⟨_,rfl,?_⟩⟩;have gu:StAt K H1 b st:=s1.ts.seq hb;refine ite2 (λc=>?_) (λc=>?_)
 .have e:passS1 st qp=pX (st.set qp pY):=by unfold passS1;rw[pZ c0,p6 c]
  have q:∀(v':V) (H':Hp),Same H H'->RS (uS fl hf) K z H' v' (passS1 st qp)->Q v' H':=q;rw[e] at q;refine⟨_,rfl,b,rfl,⟨_,gu⟩,λZ hZ=>?_⟩;refine Jw (xs:=st.map oV) (λi τ H2=>∃n t:Option V,τ=[n,t,pX (.int qp)]/\Same H1 H2/\H2 Z=pX (.lst (((st.set qp pY).take i).map oV))) ⟨pY,pY,rfl,qe hZ _,Ab⟩ (λi τ H2 _ ⟨_,_,_,sm,_⟩=>sm.ts.seq gu) ?_ ?_
  .rintro i y τ H2 T1 hy pF ⟨n,t,rfl,sm,eZ⟩
   obtain⟨v,hv,rfl⟩:∃v,st[i]?=pX v/\y=oV v:=by
    rw[Bi] at hy;cases g:st[i]? with
    | none=>rw[g] at hy;cases hy
    | some v=>rw[g] at hy;cases hy;exact⟨v,rfl,rfl⟩
   have il:=(AF.mp hv).1;have s2:Same H2 (upd H2 T1 (.tup [.int i,oV v])):=qe pF _;refine⟨T1,_,rfl,qY Ab,rfl,_,_,rfl,_,_,rfl,rfl,yesD ?_⟩;have fin:∀u:Option Int,(st.set qp pY)[i]?=pX u->∃n t:Option V,[pX (.int (i:Int)),pX (oV v),pX (.int (qp:Int))]=[n,t,pX (V.int qp)]/\Same H1 (upd (upd H2 T1 (.tup [.int i,oV v])) Z (.lst (((st.set qp pY).take i).map oV++[oV u])))/\(upd (upd H2 T1 (.tup [.int i,oV v])) Z (.lst (((st.set qp pY).take i).map oV++[oV u]))) Z=pX (.lst (((st.set qp pY).take (i+1)).map oV)):=λu hu=>by
    refine⟨_,_,rfl,λb o e=>?_,?_⟩
    .rw[Ae (Ac e hZ)]
     exact s2 _ _ (sm b o e)
    .rw[Ab,D4,hu,BE]
     rfl
   have sl:(((st.set qp pY).take i).map oV).length<sizeLine:=BZ (by rw[AB,BS];lia);refine⟨_,rfl,_,rfl,rfl,_,rfl,?_⟩;refine ite2 (λe=>?_) (λe=>?_)
   .have e':i=qp:=by have:=qA e;injection this with this;exact qk this
    subst e';exact⟨_,s2 _ _ eZ,sl,fin pY (IJ il)⟩
   .have e':i≠qp:=λz=>e (p7 (by rw[z]))
    exact⟨_,rfl,_,s2 _ _ eZ,sl,fin v (by rw[JP (CB e')];exact hv)⟩
  .rintro τ H2 ⟨n,t,rfl,sm,eZ⟩
   rw[AB,show st.length=(st.set qp pY).length by rw[EA],CI] at eZ;refine⟨Z,_,rfl,.inl ⟨qX eZ,λt ht=>?_⟩⟩;exact q _ _ (s1.trans (sm.trans (qe ht _))) ⟨t,rfl,qY Ab,VldS.set vl qp pY (λi z=>by cases z)⟩
 .have e:passS1 st qp=pY:=by unfold passS1;rw[pZ c0,pZ c]
  have q:∀(v':V) (H':Hp),Same H H'->RS (uS fl hf) K z H' v' (passS1 st qp)->Q v' H':=q;rw[e] at q;exact q _ _ s1 rfl
end
theorem QK{k:Nat}(h:k<n):ixN n (k:Int)=pX k:=by
 unfold ixN;simp;lia
def Um(K:Au):Sp:=λvs H Q _=>∃(b tq:Addr) (x y i j:Nat) (st:StO),vs=[.ref b,.ref tq]/\StAt K H b st/\SqT K H tq [.int (x:Int),.int (y:Int)]/\x<st.length/\y<st.length/\i<st.length/\j<st.length/\st.length<=11/\st.getD x pY=pX (i:Int)/\st.getD y pY=pX (j:Int) /\
 ∀(b':Addr) (H':Hp),Same H H'->StAt K H' b' (tiedS st x y)->Q (.ref b') H'
section
variable{hf:NoF fl}
theorem Qf:FnScope ["state","tie","ends","one","other"] zl23 (Ag ABq):=fscp (by decide+kernel)
theorem ADN(F:Fun K "strands_tied" "strands_tied" ABq f fd)(T:Txt K mg C):FnOk P w K mg base CX0 1 f fd zl23 (Um K):=by
 refine F.ok Qf (λvs H Q E h=>?_) (λa6 A outer s H vs Q E hr h=>?_)
 .obtain⟨b,tq,x,y,i,j,st,rfl,_⟩:=h
  rfl
 obtain⟨b,tq,x,y,i,j,st,rfl,hb,ht,xl,yl,il,jl,s11,ex,ey,q⟩:=h;refine⟨_,Af (Am (i:=2) Qf.nd (BX Fd rfl T.list IM (Aa (pv 0) Ad)))
  (Af (Am (i:=3) Qf.nd (Ay Bg (pv 0) (Ay Bg (pv 1) Ai)))
  (Af (Am (i:=4) Qf.nd (Ay Bg (pv 0) (Ay Bg (pv 1) Ai)))
  (Af (Gu Gz (Oi (pv 2) (Ay Bg (pv 1) Ai) set_list))
  (Af (Gu Gz (Oi (pv 2) (Ay Bg (pv 1) Ai) set_list))
  (Af (Gu (pv 4) (Oi (pv 2) (pv 3) set_list))
  (Af (Gu (pv 3) (Oi (pv 2) (pv 4) set_list))
  (Aj (Aq (BX Bt rfl T.tuple Db (Aa (pv 2) Ad)))))))))),?_⟩
 have gx:=Jx xl;have gy:=Jx yl;rw[ex] at gx;rw[ey] at gy;refine⟨_,rfl,b,_,rfl,.inr hb,λL hL=>?_⟩;have s1:=qe hL (.lst (st.map oV));have gu:StAt K (upd H L (.lst (st.map oV))) b st:=s1.ts.seq hb;have e7:=s1.ts.seq ht;refine⟨_,rfl,_,rfl,tq,_,_,_,rfl,rfl,e7,at0,b,_,_,_,rfl,rfl,gu,gx,?_⟩;refine⟨_,rfl,_,rfl,tq,_,_,_,rfl,rfl,e7,at1,b,_,_,_,rfl,rfl,gu,gy,?_⟩;have ml:(st.map oV).length=st.length:=AB ..;refine⟨_,rfl,_,rfl,tq,_,_,_,rfl,rfl,e7,at0,L,_,_,x,rfl,rfl,Ab,QK (by rw[ml];exact xl),?_⟩;have j3:=(qd (o:=.lst ((st.map oV).set x .non)) (Ab (H:=H) (a:=L) (o:=.lst (st.map oV)))).seq e7;rw[Ge];rw[Ge] at j3;refine⟨_,rfl,_,rfl,tq,_,_,_,rfl,rfl,j3,at1,L,_,_,y,rfl,rfl,Ab,QK (by rw[EA,ml];exact yl),?_⟩;rw[Ge];refine⟨_,rfl,_,rfl,_,rfl,L,_,_,i,rfl,rfl,Ab,QK (by simp only[EA];rw[ml];exact il),?_⟩;rw[Ge];refine⟨_,rfl,_,rfl,_,rfl,L,_,_,j,rfl,rfl,Ab,QK (by simp only[EA];rw[ml];exact jl),?_⟩;rw[Ge];refine⟨_,rfl,L,_,rfl,.inl ⟨qX Ab,λt ht=>?_⟩⟩;refine q t _ (λc o e=>?_) ?_
 .rw[Ae (Ac (show(upd H L _) c=pX o by rw[Ae (Ac e hL)];exact e) ht),Ae (Ac e hL)]
  exact e
 .refine qY ?_
  rw[Ab];unfold tiedS;rw[ex,ey];dsimp only;rw[CH,CH,On,On,On,On];rfl
end
def DY(st:StO)(x y j:Nat):qE:=(AO j).filter λp=>decide (p≠x/\p≠y)
def Qp(fl:List (Str×V))(hf:NoF fl)(K:Au)(D:Addr):Sp:=λvs H Q _=>∃(a b tq dx:Addr) (x y z:Nat) (st:StO),vs=[.ref a,.ref b,.ref tq]/\H a=pX (.ins D dx fl)/\StAt K H b st/\SqT K H tq [.int (x:Int),.int (y:Int)]/\st.length<=11 /\
 ∀(v':V) (H':Hp),Same H H'->RS (uS fl hf) K z H' v' (IV st x y)->Q v' H'
section
variable{hf:NoF fl}
theorem Rm:FnScope ["self","state","tie","others"] zl24 (Ag Gh):=fscp (by decide+kernel)
theorem Ms(F:Fun K "closed" "Strands.closed" Gh f fd)(T:Txt K mg C)(cD:Cls K D)(bq:mg "all" = pY)(N:Dn K mg da)(GA:FnOk P w K mg base CX0 1 fA ff zl9 (Uo K))(bA:Binds K ff zl9 [])(mA:Meth K D "may_stay" fA) :
  FnOk P w K mg base CX0 2 f fd zl24 (Qp fl hf K D):=by
 refine F.ok Rm (λvs H Q E h=>?_) (λa6 A outer s H vs Q E hr h=>?_)
 .obtain⟨a,b,tq,dx,x,y,z,st,rfl,_⟩:=h
  rfl
 obtain⟨a,b,tq,dx,x,y,z,st,rfl,ha,hb,ht,s11,q⟩:=h;refine⟨_,Af (QG (i:=3) (Ag Gh) ["point"] ["tie"] [2] Rm.nd rfl (K1 rfl) rfl rfl (by decide+kernel) ⟨⟨rfl,by decide+kernel⟩,trivial⟩ (Dz rfl T.range (Aa (Aw BJ rfl T.len DB (Aa (pv 1) Ad)) Ad))
   (λ_ _ _=>BK (i:=0))
   (λ_ _ _=>Cd (Av (Er (K:=K) rfl) (pv 0) (pv 1) rfl)) (λ_ _ _=>pv 0))
  (Af (CQ (Il (Aw (KQ rfl) rfl bq XT (Aa (CP (Ag Gh) ["point"] ["self","state"] [0,1] rfl rfl (by decide+kernel) ⟨⟨rfl,by decide+kernel⟩,⟨rfl,by decide+kernel⟩,trivial⟩ (CT (pv 3))
    (λ_ _ _=>BK (i:=0)) (λ_ _ _=>Ec)
    (λ_ _ _=>CV (pv 1) cD mA GA hr bA .nil pass0 (Aa (pv 2) (Aa (pv 0) Ad)))) Ad))) (Aj (Aq (Gm (v:=.ref da) rfl N.mgD rfl))) BL)
  (Aj (Aq Gz))),?_⟩
 have ml:(st.map oV).length=st.length:=AB ..;refine⟨_,rfl,b,_,rfl,.inr hb,_,rfl,by lia,by rw[ml];lia,λZ hZ=>?_⟩;refine Cp (lo:=0) (n:=((((st.map oV).length:Nat):Int)).toNat) (λj τ H2=>∃o:Option V,τ=[o,pX (.ref tq)]/\Same H H2/\H2 Z=pX (.lst (nI (DY st x y j)))) ⟨pY,rfl,qe hZ _,Ab⟩ ?_ ?_
 .rintro j τ H2 hj ⟨o,rfl,s2,eZ⟩
  have ej:(0:Int)+j=(j:Int):=rC;rw[ej];have jl:j<st.length:=by rw[ml] at hj;lia
  have lo:(DY st x y j).length<=j:=BQ (Ct ..) (by rw[B0];exact AH _);refine⟨_,rfl,_,rfl,tq,_,rfl,.inr (s2.ts.seq ht),rfl,rfl,_,rfl,?_⟩;have e:inV (V.int (j:Int)) [V.int (x:Int),V.int (y:Int)]=decide ((j:Int)∈[(x:Int),(y:Int)]):=Ey (j:Int) [(x:Int),(y:Int)];rw[p6 rfl,e];by_cases c:j≠x/\j≠y
  .rw[p8 (by intro z;simp at z;lia)]
   refine iteT ⟨_,rfl,_,eZ,BZ (by rw[Ep];lia),_,rfl,λb o e=>?_,?_⟩
   .rw[Ae (Ac e hZ)]
    exact s2 b o e
   .rw[Ab]
    unfold DY;rw[FH,C3,EV (by simpa using c)];unfold nI;rw[BE];rfl
  .rw[p7 (by simp;lia)]
   refine iteF ⟨_,rfl,s2,?_⟩;unfold DY;rw[FH,C3,EE (by simpa using c),OO,B3];exact eZ
 .rintro τ H2 ⟨o,rfl,s2,eZ⟩
  rw[ml,CH] at eZ;have ol:∀p∈DY st x y st.length,p<st.length:=λp hp=>AV.mp (BV.mp hp).1;have lo:(DY st x y st.length).length<=st.length:=BQ (Ct ..) (by rw[B0];exact AH _);refine⟨_,rfl,Z,rfl,⟨_,qX eZ⟩,λY hY=>?_⟩;refine CW (K:=K) (a:=Z) (xs:=nI (DY st x y st.length)) (λj τ H3=>∃o:Option V,τ=[o,pX (.ref a),pX (.ref b)]/\Same H2 H3/\H3 Y=pX (.lst ((((DY st x y st.length).take j).map (stayS st)).map V.bl))) ⟨pY,rfl,qe hY _,Ab⟩ (λj τ H3 _ ⟨_,_,s3,_⟩=>s3.seq (qX eZ)) ?_ ?_
  .rintro j v τ H3 hv ⟨o,rfl,s3,eY⟩
   obtain⟨p,hp,rfl⟩:=AAt hv;have jl:=(AF.mp hp).1;have oT:=s2.trans s3;refine yesN ⟨_,rfl,a,dx,_,rfl,oT _ _ ha,hf.nM,_,rfl,_,rfl,.ref a,b,p,st,rfl,oT.ts.seq hb,ol p (By hp),λH4 s4=>?_⟩;refine⟨_,s4 _ _ eY,BZ (by rw[AB,AB,BS];lia),_,rfl,λb o e=>?_,?_⟩
   .rw[Ae (Ac e hY)]
    exact s4 _ _ (s3 b o e)
   .rw[Ab,D4,hp,BE,BE]
    rfl
  .rintro τ H3 ⟨o,rfl,s3,eY⟩
   rw[Ep,CI] at eY;have oT:=s2.trans s3;refine⟨Y,_,rfl,qX eY,_,rfl,?_⟩;have e:(((DY st x y st.length).map (stayS st)).all id)=(DY st x y st.length).all (stayS st):=by rw[W8];rfl
   rw[e];refine ite2 (λc=>?_) (λc=>?_)
   .refine q _ _ oT ?_
    unfold IV;rw[p6 (by exact c)];exact⟨da,rfl,N.at_ _,⟨.inl rfl,λp i z=>by cases z⟩⟩
   .refine q _ _ oT ?_
    unfold IV;rw[pZ (by exact c)];exact rfl
theorem Wn:FnScope ["self","web","state","number","tie"] zl11 (Ag Qc):=fscp (by decide+kernel)
theorem Ro(F:Fun K "taken" "Strands.taken" Qc f fd)(T:Txt K mg C)(cD:Cls K D)(N:Dn K mg da)(GA:FnOk P w K mg base CX0 2 fA ff zl24 (Qp fl hf K D))(bA:Binds K ff zl24 [])(mA:Meth K D "closed" fA)
  (GT:FnOk P w K mg base CX0 1 fT cS zl3 (VJ K C)) (bT:Binds K cS zl3 []) (mT:Meth K C "ties" fT)
  (GS:Cal P w K mg base 1 fS du "strands_tied" zl23 (Um K)) :
  FnOk P w K mg base CX0 3 f fd zl11 (PN (uS fl hf) K C D):=by
 refine F.ok Wn (λvs H Q E h=>?_) (λa6 A outer s H vs Q E hr h=>?_)
 .obtain⟨a,p,b,dx,t,z,bs,st,rfl,_⟩:=h
  rfl
 obtain⟨a,p,b,dx,t,z,bs,st,rfl,ha,hW,kM,hb,vl,_,tl,z10,q⟩:=h;have vl:VldS z st:=vl;have fz:Room 2 _:=hr.mono (by decide);have ce:Room 1 _:=hr.mono (by decide);refine⟨_,Af (Am (i:=4) Wn.nd (Ay Cm (Dl (pv 1) T.cl mT GT ce bT .nil pass0) (pv 3)))
  (Af (CQ (qS (RK (Av (Vq QT (Bp hr)) (pv 2) (Gm (v:=.ref da) rfl N.mgD rfl))
    (RK (Gs (Uc (Ay Bg (pv 2) (Ay Bg (pv 4) Ai)))) (QB (Gs (Uc (Ay Bg (pv 2) (Ay Bg (pv 4) Ai)))))))) (Aj (Aq Gz)) BL)
  (Af (CQ (Av Hl (Ay Bg (pv 2) (Ay Bg (pv 4) Ai)) (Ay Bg (pv 4) Ai)) (Aj (Aq (CV (pv 0) cD mA GA fz bA .nil pass0 (Aa (pv 2) (Aa (pv 4) Ad))))) BL)
  (Aj (Aq (Bd GS ce rfl (Aa (pv 2) (Aa (pv 4) Ad))))))),?_⟩
 obtain⟨dw,jw,hp,_⟩:=id hW;refine⟨_,rfl,p,dw,_,rfl,hp,rfl,p,z,bs,rfl,hW,λl H1 s1 hl hL=>?_⟩;obtain⟨l',xs,el,hX,px⟩:=hL;cases el;have lx:=AT px;have xl:t<xs.length:=rN tl lx;obtain⟨tie,ht,rt⟩:=Paired.get px (AL xl);obtain⟨tq,etq,my⟩:=Bk rt;obtain⟨x,y,rfl,xz,yz⟩:=kM tie (By ht);have oH:atI xs (t:Int)=pX (.ref tq):=by
  rw[<- etq];exact CN (AL xl)
 have gt:bs.getD t []=[(x:Int),(y:Int)]:=by rw[AD,ht];rfl
 have eX:ea bs t=x:=by unfold ea;rw[gt];rfl
 have eY:eb bs t=y:=by unfold eb;rw[gt];rfl
 have fe:SqT K H1 tq [.int (x:Int),.int (y:Int)]:=my;have gu:StAt K H1 b st:=s1.ts.seq hb;have q':∀(v':V) (H':Hp),Same H1 H'->RS (uS fl hf) K z H' v' (takeS st x y)->Q v' H':=λv' H' s' r'=>q v' H' (s1.trans s') (by show RS (uS fl hf) K z H' v' (takeS st (ea bs t) (eb bs t));rw[eX,eY];exact r');refine⟨_,rfl,l,xs,_,_,rfl,rfl,hX,oH,?_⟩;refine⟨_,rfl,st,[],Vj gu,⟨da,[],rfl,N.at_ _,.nil⟩,_,rfl,?_⟩;by_cases c0:st=[]
 .refine iteP c0 (iteT (q' _ _ (qZ _) ?_))
  unfold takeS;rw[p6 (.inl c0)];exact rfl
 refine iteN c0 ?_;have ln:=vl.len.resolve_left c0;have gx:=Jx (st:=st) (p:=x) (fv xz ln);have gy:=Jx (st:=st) (p:=y) (fv yz ln);refine⟨_,rfl,_,rfl,tq,_,_,_,rfl,rfl,fe,at0,b,_,_,_,rfl,rfl,gu,gx,_,rfl,?_⟩;cases ex:st.getD x pY with
 | none =>
  refine iteT (iteT (q' _ _ (qZ _) ?_));unfold takeS;rw[p6 (.inr (.inl ex))];exact rfl
 | some i =>
  rw[ex] at gx;refine iteF ?_;refine⟨_,rfl,_,rfl,tq,_,_,_,rfl,rfl,fe,at1,b,_,_,_,rfl,rfl,gu,gy,_,rfl,?_⟩;cases ey:st.getD y pY with
  | none =>
   refine iteT (q' _ _ (qZ _) ?_);unfold takeS;rw[p6 (.inr (.inr ey))];exact rfl
  | some j =>
   rw[ey] at gy;have hi:=vl.pts x i ex;have hj:=vl.pts y j ey;have nt:¬ (st=[]\/st.getD x pY=pY\/st.getD y pY=pY):=λh=>by
    rcases h with h| h| h
    .exact c0 h
    .rw[ex] at h;cases h
    .rw[ey] at h;cases h
   refine iteF ?_;refine⟨_,rfl,_,rfl,tq,_,_,_,rfl,rfl,fe,at0,b,_,_,_,rfl,rfl,gu,gx,_,rfl,tq,_,_,_,rfl,rfl,fe,at1,rfl,_,rfl,?_⟩;by_cases c2:i=(y:Int)
   .refine iteP (by rw[c2];rfl) ?_
    refine⟨_,rfl,a,dx,_,rfl,s1 _ _ ha,hf.nC,_,rfl,_,rfl,a,b,tq,dx,x,y,z,st,rfl,s1 _ _ ha,gu,fe,wA ln z10,λv' H' s' r'=>q' v' H' s' ?_⟩;unfold takeS;rw[pZ nt,p6 (by rw[ex,c2])];exact r'
   .refine iteN (λz=>c2 (by injection z)) ?_
    refine⟨_,rfl,_,rfl,b,tq,x,y,i.toNat,j.toNat,st,rfl,gu,fe,fv xz ln,fv yz ln,vX hi ln,vX hj ln,wA ln z10,by rw[ex,DL hi.1],by rw[ey,DL hj.1],λb' H' s' ii=>q' _ H' s' ?_⟩;unfold takeS;rw[pZ nt,pZ (by rw[ex];intro z;exact c2 (A8 z))];exact⟨b',rfl,ii,vl.tied⟩
end
def rngS(z:Nat):StO:=(AO z).map λ(p:Nat)=>pX (p:Int)
theorem Dj(z:Nat):(rngS z).length=z:=by unfold rngS;rw[AB,B0]
theorem Hf{p:Nat}(h:p<z):(rngS z).getD p pY=pX (p:Int):=by
 unfold rngS;rw[AD,Bi,F3 h];rfl
theorem RQ(z:Nat):VldS z (rngS z):=⟨.inr (Dj z),λp i e=>by
 by_cases c:p<z
 .rw[Hf c] at e
  cases e;lia
 .rw[AD,D8 (by rw[Dj];exact qf c)] at e
  cases e⟩
abbrev Kd:=Option (Addr×Nat×Nat)
def wf(et:Addr):List (Str×V):=putF "ends" (.ref et) []
theorem Hg(et:Addr){m:Str}(h:¬ m = "ends"):(wf et).lookup m=pY:=by
 unfold wf;rw[Ah,pZ h];rfl
theorem Ji(et:Addr):(wf et).lookup ("ends" : Str)=pX (.ref et):=by
 unfold wf;rw[Ah,p6 rfl]
def flK:Kd->List (Str×V)
 | none=>[]
 | some (e,_)=>wf e
theorem noK:∀κ:Kd,NoF (flK κ)
 | none=>⟨rfl,rfl,rfl,rfl,rfl,rfl,rfl,rfl⟩
 | some (e,_)=>⟨Hg e (by decide+kernel),Hg e (by decide+kernel),Hg e (by decide+kernel),Hg e (by decide+kernel),Hg e (by decide+kernel),Hg e (by decide+kernel),Hg e (by decide+kernel),Hg e (by decide+kernel)⟩
abbrev uK(κ:Kd):Wr:=uS (flK κ) (noK κ)
def heK(K:Au)(H:Hp):Kd->Prop
 | none=>True
 | some (e,a,b)=>SqT K H e [.int (a:Int),.int (b:Int)]
theorem AEm(t:TSm H H'):∀{κ:Kd},heK K H κ->heK K H' κ
 | none,_=>trivial
 | some _,h=>t.seq h
def okK(z:Nat):Kd->Prop
 | none=>True
 | some (_,a,b)=>a<z/\b<z/\a≠b
def bgK(z:Nat):Kd->StO
 | none=>rngS z
 | some (_,a,b)=>tiedS (rngS z) a b
def idF(z:Nat):Fs:=λp=>if p<z then pX p else pY
def fnK(z:Nat):Kd->Fs
 | none=>idF z
 | some (_,a,b)=>tieF (idF z) a b a b
theorem Fy{p:Nat}(h:p<z):idF z p=pX p:=p6 h
set_option tactic.hygienic true in
theorem ABV{p q:Nat}(h:idF z p=pX q):p<z/\q=p:=by
 unfold idF at h;split at h
 .rename_i c
  exact⟨c,(A8 h).symm⟩
 .cases h
theorem idF_sym(z:Nat):SymF (idF z):=λx y h=>by
 obtain⟨h1,h2⟩:=ABV h;rw[h2];exact Fy h1
theorem Qj(z:Nat):RngF z (idF z):=λx y h=>(ABV h).1
theorem ADc(z:Nat){P:Nat->Prop}(n:∀p,¬ P p):Rl z P (rngS z) (idF z):=⟨Dj z,λx hx _=>by rw[Hf hx,Fy hx];rfl,λx _ p=>(n x p).elim,idF_sym z,Qj z⟩
theorem AFY{P:Nat->Prop}(n:∀p,¬ P p):∀{κ:Kd},okK z κ->Rl z P (bgK z κ) (fnK z κ)
 | none,_=>ADc z n
 | some (_,a,b),⟨ha,hb,ab⟩=>(ADc z n).tie ha hb (n a) (n b) ab (Fy ha) (Fy hb) ab
theorem AEa:∀{κ:Kd},VldS z (bgK z κ)
 | none=>RQ z
 | some _=>(RQ z).tied
def edK:Kd->List (Nat×Nat)
 | none=>[]
 | some (_,a,b)=>[(a,b)]
theorem AEJ:∀{κ:Kd},okK z κ->∀(E:List (Nat×Nat)),acc z (fnK z κ) E↔acc z (idF z) (edK κ++E)
 | none,_,E=>Iff.rfl
 | some (_,a,b),⟨ha,hb,ab⟩,E=>by
  constructor
  .exact λh=>⟨a,b,Fy ha,Fy hb,.inr ⟨ab,h⟩⟩
  .rintro⟨i,j,h1,h2,h⟩
   cases (Fy ha).symm.trans h1;cases (Fy hb).symm.trans h2;rcases h with⟨e,_⟩| ⟨_,h⟩
   .exact qB e ab
   .exact h
def XF(K:Au)(D:Addr):Sp:=λvs H Q _=>∃(p dx:Addr) (a b:Nat),vs=[.ref p,.int (a:Int),.int (b:Int)]/\H p=pX (.ins D dx []) /\
 ∀(e:Addr) (H':Hp),(∀b o,H b=pX o->b≠p->H' b=pX o)->heK K H' (pX (e,a,b))->H' p=pX (.ins D dx (wf e))->Q .non H'
def ABi(K:Au)(C D:Addr):Sp:=λvs H Q _=>∃(r p dx et:Addr) (z a b:Nat) (bs:qD),vs=[.ref r,.ref p]/\H r=pX (.ins D dx (wf et))/\SqT K H et [.int (a:Int),.int (b:Int)]/\WebAt K C H p z bs/\a<z/\b<z/\a≠b/\Q .non H
def Qd(κ:Kd)(K:Au)(C D:Addr):Sp:=λvs H Q _=>∃(r p dx:Addr) (z:Nat) (bs:qD),vs=[.ref r,.ref p]/\H r=pX (.ins D dx (flK κ))/\heK K H κ/\okK z κ/\WebAt K C H p z bs/\z<=10 /\
 ∀(b':Addr) (H':Hp),Same H H'->StAt K H' b' (bgK z κ)->Q (.ref b') H'
theorem AAc(z:Nat):(below (z:Int).toNat).map V.int=(rngS z).map oV:=by
 rw[CH];unfold rngS below;simp only[Ee];rfl
theorem ACi:FnScope zl13 zl13 (Ag Vu):=fscp (by decide+kernel)
theorem Zb(F:Fun K "__init__" "Ways.__init__" Vu f fd)(cD:Cls K D)(nE:NoAttr K D "ends"):FnOk P w K mg base CX0 1 f fd zl13 (XF K D):=by
 refine F.ok ACi (λvs H Q E h=>?_) (λa6 A outer s H vs Q E hr h=>?_)
 .obtain⟨p,dx,a,b,rfl,_⟩:=h
  rfl
 obtain⟨p,dx,a,b,rfl,hp,q⟩:=h;refine⟨_,Aj (Dp (pv 0) (Br (Aa (pv 1) (Aa (pv 2) Ad))) rfl),?_⟩;refine⟨_,rfl,_,rfl,(by show 2<=sizeLine;decide),λe he=>?_⟩;have s1:=qe he (.tup [V.int (a:Int),V.int (b:Int)]);refine⟨_,rfl,p,D,dx,[],rfl,s1 _ _ hp,cD,nE,(by show 0<1000;decide),?_⟩;refine q e _ (λb o h n=>?_) (qY ?_) Ab
 .rw[Ae n]
  exact s1 _ _ h
 .rw[Ae (λe'=>?_)]
  .exact Ab
  .rw[e',hp] at he
   cases he
theorem scRefW:FnScope ["self","web","end"] zl14 (Ag QJ):=fscp (by decide+kernel)
theorem ACX(F:Fun K "refuse_web" "Ways.refuse_web" QJ f fd)(T:Txt K mg C)(cD:Cls K D)(nE:NoAttr K D "ends")(GS:FnOk P w K mg base CX0 1 fS du zl3 (Ko K C))(bS:Binds K du zl3 [])(mS:Meth K C "size" fS) :
  FnOk P w K mg base CX0 2 f fd zl14 (ABi K C D):=by
 refine F.ok scRefW (λvs H Q E h=>?_) (λa6 A outer s H vs Q E hr h=>?_)
 .obtain⟨r,p,dx,et,z,a,b,bs,rfl,_⟩:=h
  rfl
 obtain⟨r,p,dx,et,z,a,b,bs,rfl,h0,ht,hW,az,bz,ab,q⟩:=h;obtain⟨dw,jw,hp,_⟩:=id hW;refine⟨_,Af (En EB rfl (ABr (Bc (pv 0) rfl)) (Bf (i:=2) scRefW.nd)
   (Aj (CQ (qS (RK (Av Kf (pv 2) Ai) (QB (Av ADj (pv 2) (Dl (pv 1) T.cl mS GS hr bS .nil pass0))))) Cz BL)))
  (Aj (CQ (Av Hl (Ay Bg (Bc (pv 0) rfl) Ai) (Ay Bg (Bc (pv 0) rfl) Ai)) Cz BL)),?_⟩
 refine⟨_,rfl,r,D,dx,_,_,rfl,h0,cD,nE,Ji et,et,rfl,⟨_,ht⟩,?_⟩;refine ABt (K:=K) (a:=et) (xs:=[.int (a:Int),.int (b:Int)]) (λi σ H2=>∃o:Option V,H2=H/\σ=[pX (.ref r),pX (.ref p),o]) ⟨pY,rfl,rfl⟩ (λi σ H2 _ ⟨_,e,_⟩=>by rw[e];exact ht) ?_ ?_
 .rintro i x σ H2 hx ⟨o,rfl,rfl⟩
  obtain⟨c,rfl,cz⟩:∃c:Nat,x=.int (c:Int)/\c<z:=by
   match i,hx with
   | 0,hx=>cases hx;exact⟨a,rfl,az⟩
   | 1,hx=>cases hx;exact⟨b,rfl,bz⟩
   | i+2,hx=>cases hx
  refine⟨_,rfl,_,_,rfl,rfl,_,rfl,iteN rQ ?_⟩;exact⟨_,rfl,_,rfl,p,dw,_,rfl,hp,rfl,p,z,bs,rfl,hW,_,_,rfl,rfl,_,rfl,iteN (by lia) ⟨_,rfl,rfl⟩⟩
 .rintro σ H2 ⟨o,rfl,rfl⟩
  exact⟨_,rfl,r,D,dx,_,_,rfl,h0,cD,nE,Ji et,et,_,_,_,rfl,rfl,ht,at0,_,rfl,r,D,dx,_,_,rfl,h0,cD,nE,Ji et,et,_,_,_,rfl,rfl,ht,at1,rfl,_,rfl,iteN (λz=>ab (by injection z with z;exact qk z)) q⟩
theorem ACw:FnScope zl14 zl14 (Ag UW):=fscp (by decide+kernel)
theorem ABg(F:Fun K "begun" "Strands.begun" UW f fd)(T:Txt K mg C)(GS:FnOk P w K mg base CX0 1 fS du zl3 (Ko K C))(bS:Binds K du zl3 [])(mS:Meth K C "size" fS) :
  FnOk P w K mg base CX0 3 f fd zl14 (Qd pY K C D):=by
 refine F.ok ACw (λvs H Q E h=>?_) (λa6 A outer s H vs Q E hr h=>?_)
 .obtain⟨r,p,dx,z,bs,rfl,_⟩:=h
  rfl
 obtain⟨r,p,dx,z,bs,rfl,h0,_,_,hW,z10,q⟩:=h;have ce:Room 1 _:=hr.mono (by decide);refine⟨_,Aj (Aq (BX (Fj rfl) rfl T.tuple Db (Aa (BX JH rfl T.range OE (Aa (Dl (pv 1) T.cl mS GS ce bS .nil pass0) Ad)) Ad))),?_⟩;obtain⟨dw,jw,hw,_⟩:=id hW;refine⟨_,rfl,p,dw,_,rfl,hw,rfl,p,z,bs,rfl,hW,(z:Int),rfl,λR hR=>⟨R,(z:Int),rfl,Ab,qo,uG z10,λt ht=>?_⟩⟩;refine q t _ ((qe hR _).trans (qe ht _)) (qY ?_);rw[Ab,AAc];rfl
theorem AAR:FnScope zl14 zl14 (Ag Qa):=fscp (by decide+kernel)
theorem Yd(F:Fun K "begun" "Ways.begun" Qa f fd)(T:Txt K mg C)(cD:Cls K D)(nE:NoAttr K D "ends")
  (GR:FnOk P w K mg base CX0 2 fR gm zl14 (ABi K C D)) (bR:Binds K gm zl14 []) (mR:Meth K D "refuse_web" fR)
  (GS:FnOk P w K mg base CX0 1 fS du zl3 (Ko K C)) (bS:Binds K du zl3 []) (mS:Meth K C "size" fS)
  (GT:Cal P w K mg base 1 fT cS "strands_tied" zl23 (Um K)) (x:Addr×Nat×Nat) :
  FnOk P w K mg base CX0 3 f fd zl14 (Qd (pX x) K C D):=by
 obtain⟨et,a,b⟩:=x;refine F.ok AAR (λvs H Q E h=>?_) (λa6 A outer s H vs Q E hr h=>?_)
 .obtain⟨r,p,dx,z,bs,rfl,_⟩:=h
  rfl
 obtain⟨r,p,dx,z,bs,rfl,h0,ht,⟨az,bz,ab⟩,hW,z10,q⟩:=h;have ht:SqT K H et [.int (a:Int),.int (b:Int)]:=ht;obtain⟨dw,jw,hp,_⟩:=id hW;have ce:Room 1 _:=hr.mono (by decide);have fz:Room 2 _:=hr.mono (by decide);refine⟨_,Af (DP (CV (pv 0) cD mR GR fz bR .nil pass0 (Aa (pv 1) Ad)))
  (Aj (Aq (Bd GT ce rfl (Aa (BX (Fj rfl) rfl T.tuple Db (Aa (BX JH rfl T.range OE (Aa (Dl (pv 1) T.cl mS GS ce bS .nil pass0) Ad)) Ad)) (Aa (Bc (pv 0) rfl) Ad))))),?_⟩
 refine⟨_,rfl,r,dx,_,rfl,h0,Hg et (by decide+kernel),_,rfl,r,p,dx,et,z,a,b,bs,rfl,h0,ht,hW,az,bz,ab,?_⟩;refine⟨_,rfl,p,dw,_,rfl,hp,rfl,p,z,bs,rfl,hW,_,rfl,λR hR=>?_⟩;have s1:=qe hR (.rng 0 (z:Int));refine⟨R,(z:Int),rfl,Ab,qo,uG z10,λt hT=>?_⟩;have s2:=s1.trans (qe hT (.tup ((below (z:Int).toNat).map V.int)));refine⟨_,rfl,r,D,dx,_,_,rfl,s2 _ _ h0,cD,nE,Ji et,t,et,a,b,a,b,rngS z,rfl,?_,s2.ts.seq ht,by rw[Dj];exact az,by rw[Dj];exact bz,by rw[Dj];exact az,by rw[Dj];exact bz,by rw[Dj];lia,Hf az,Hf bz,λb' H' s' ii=>q b' H' (s2.trans s') ii⟩;refine qY ?_;rw[Ab,AAc]
def edg(bs:qD)(s:qE):List (Nat×Nat):=s.map λx=>(ea bs x,eb bs x)
def Apart(bs:qD):Prop:=∀x,x<bs.length->ea bs x≠eb bs x
def Oo(κ:Kd)(K:Au)(C Dc S:Addr):Sp:=λvs H Q _=>∃(W r dr:Addr) (z:Nat) (bs:qD),vs=[.ref W,.ref r]/\WebAt K C H W z bs/\H r=pX (.ins Dc dr (flK κ))/\heK K H κ/\okK z κ/\1<=z/\z<=10/\bs.length<=12/\OkB z bs/\Apart bs /\
 ∀(p:Addr) (af:List Row) (hd:Nat) (H':Hp),Same H H'->K33s.SvAt K S H' p bs.length af hd->Canon bs.length af hd->(∀s:qE,s.Pairwise (· < ·)->(∀x∈s,x<bs.length)->(led af hd s=true↔acc z (idF z) (edK κ++edg bs s)))->af.length<=4000->Q (.ref p) H'
theorem ACI{bs:qD}(h:OkB z bs){t:Nat}(tn:t<bs.length):ea bs t<z/\eb bs t<z/\t<Lp bs (ea bs t)/\t<Lp bs (eb bs t):=by
 have hbt:=AL tn;obtain⟨x,y,e,xz,yz⟩:=h bs[t] (F8 tn);have gd:bs.getD t []=bs[t]:=by rw[AD,hbt];rfl
 have ex:ea bs t=x:=by unfold ea;rw[gd,e];rfl
 have ey:eb bs t=y:=by unfold eb;rw[gd,e];rfl
 rw[ex,ey];refine⟨xz,yz,ADg tn ?_,ADg tn ?_⟩<;>(unfold onB;rw[gd,e];simp)
theorem AEO(κ:Kd){bs:qD}:Good (uK κ) bs z (λ_ _=>True):=λt o st tn g e=>⟨trivial,trivial,trivial⟩
theorem Ww(κ:Kd):∀(ps:qE) (st:StO),passU (uK κ) st ps=passS st ps
 | [],st=>rfl
 | p::ps,st=>by
  show(passS1 st p).bind _=(passS1 st p).bind _
  congr 1
  funext s
  exact Ww κ ps s
theorem AFr{κ:Kd}{bs:qD}(h:OkB z bs)(ap:Apart bs)(z1:1<=z)(ok:okK z κ)(s:qE)(pw:s.Pairwise (· < ·))(hs:∀x∈s,x<bs.length):semC (uK κ) bs z bs.length 0 (pX (bgK z κ)) s=true↔acc z (idF z) (edK κ++edg bs s):=by
 have e:(λt r=>passU (uK κ) r (behP bs z t))=λt st=>passS st ((AO z).filter λp=>decide (Lp bs p=t)):=by
  funext t r
  exact Ww κ _ r
 show semO lefU (takU (uK κ) bs) (λt r=>passU (uK κ) r (behP bs z t)) (uK κ).fu bs.length 0 (pX (bgK z κ)) s=true↔_;rw[e,<- AEJ ok];exact Tv (z:=z) (n:=bs.length) (ea:=ea bs) (eb:=eb bs) (L:=Lp bs) z1 (λx xn=>by obtain⟨a,b,c,d⟩:=ACI h xn;exact⟨a,b,ap x xn,c,d⟩) bs.length 0 (bgK z κ) (fnK z κ) s uL (AFY (λp hp=>qB hp (OF _)) ok) pw λx hx=>⟨BD _,by have:=hs x hx;lia⟩
theorem Ov:FnScope ["web","rule","growth","top"] zl25 (Ag Vb):=fscp (by decide+kernel)
theorem Rr{κ:Kd}(F:Fun K "grown" "grown" Vb f fd)(cD:Cls K D)(O:Gro K mg Gc)(M:Mk K Gc fI)
  (GI:FnOk P w K mg base CX0 3 fI ie zl8 (Wh (uK κ) P w K C D Gc)) (bI:Binds K ie zl8 [])
  (GK:∀d,FnOk P w K mg base CX0 (d+5) fK om zl22 (KJ (uK κ) P w K C D Gc d)) (bK:Binds K om zl22 []) (mK:Meth K Gc "knot_at" fK)
  (GB:FnOk P w K mg base CX0 3 fB mY zl14 (Qd κ K C D)) (bB:Binds K mY zl14 []) (mB:Meth K D "begun" fB)
  (GG:Cal P w K mg base 3 fG mI "least_graph" zl21 (K33s.Wi K S)) :
  FnOk P w K mg base CX0 18 f fd zl25 (Oo κ K C D S):=by
 refine F.ok Ov (λvs H Q E h=>?_) (λa6 A outer s H vs Q E hr h=>?_)
 .obtain⟨W,r,dr,z,bs,rfl,_⟩:=h
  rfl
 obtain⟨W,r,dr,z,bs,rfl,hW,gI,heκ,okκ,z1,z10,b8,kM,ap,q⟩:=h;have fz:Room 2 _:=hr.mono (by decide);have mW:Room 3 _:=hr.mono (by decide);have hrM:Room (3+1) _:=hr.mono (by decide);have hrK:Room (bs.length+5) _:=hr.mono (by lia);refine⟨_,Af (Am (i:=2) Ov.nd (Hy M GI hrM rfl O.mgG bI .nil pass0 (Aa (pv 0) (Aa (pv 1) Ad))))
  (Af (Am (i:=3) Ov.nd (CV (pv 2) O.cl mK (GK bs.length) hrK bK .nil pass0 (Aa Ai (Aa (CV (pv 1) cD mB GB mW bB .nil pass0 (Aa (pv 0) Ad)) Ad))))
  (Aj (Aq (Bd GG mW rfl (Aa (Bc (pv 2) rfl) (Aa (Bc (pv 2) rfl) (Aa (pv 3) Ad))))))),?_⟩
 refine⟨_,rfl,_,rfl,λg dx hg hdx ne=>?_⟩;have ke:(upd H dx (.own g)) g=pY:=by rw[Ae (CB ne)];exact hg
 have s1:=(qe hdx (.own g)).trans (qe ke (.ins Gc dx []));obtain⟨dw,jw,hw,_⟩:=id hW;refine⟨g,dx,W,r,dr,z,bs,rfl,Ab,Ac hw hg,Ac gI hg,hW.same s1,s1 _ _ gI,z10,b8,λBh R Dk H2 k2 gr rw0 nR0 nD0=>⟨rfl,?_⟩⟩;have s2:Same H H2:=λb o e=>k2 _ _ (s1 _ _ e) (Ac e hg);obtain⟨dg,hg2'⟩:=gr.ins;refine⟨_,rfl,g,dg,_,rfl,hg2',rfl,_,rfl,r,dr,_,rfl,s2 _ _ gI,(noK κ).nB,_,rfl,r,W,dr,z,bs,rfl,s2 _ _ gI,AEm s2.ts heκ,okκ,gr.web,z10,λb H3 s3 hb=>?_⟩;have m8:=rw0.same s3;have l9:=gr.same s3;have p2:2 ^ bs.length<=2 ^ 12:=Hb (by decide) b8;refine⟨g,W,r,Bh,R,Dk,z,0,bs,.ref b,pX (bgK z κ),[],[],λ_ _=>True,rfl,uL,l9,z1,z10,b8,kM,AEO κ,trivial,⟨b,rfl,hb,AEa⟩,m8,by show 0+_<=_;lia,λk more bb H4 kp jS ld _ cnt ml=>?_⟩;rw[UT] at jS ld;obtain⟨xs3,eR3,_⟩:=id m8.at_;obtain⟨_,_,ax3,mH,_⟩:=id m8.dn;have gr4:=l9.keep kp eR3 mH;obtain⟨dg4,hg4⟩:=gr4.ins;obtain⟨xs4,gV,px4⟩:=id jS.at_;refine⟨_,rfl,g,Gc,dg4,_,_,rfl,hg4,O.cl,O.nA,Nt _ _ _ _ _ _,_,rfl,g,Gc,dg4,_,_,rfl,hg4,O.cl,O.nR,Qg _ _ _ _ _ _,_,rfl,R,bs.length,k,more,rfl,K33s.RowsAt.of ⟨R,xs4,rfl,qX gV,px4⟩,jS.ok,b8,by lia,Vc jS.ok b8 cnt k,ld.kn,λp af hd H' s' h1 h2 h3 h4=>?_⟩;have none_back:∀{x:Addr},(upd (upd H dx (.own g)) g (.ins Gc dx [])) x=none->H x=pY:=λ{x} n=>by
  cases e:H x with
  | none=>rfl
  | some o=>have:=s1 _ _ e;rw[n] at this;cases this
 refine q p af hd H' (λb o e=>s' _ _ (kp _ _ (Ac e (none_back nR0)) (Ac e (none_back nD0)) (s3 _ _ (s2 _ _ e)))) h1 h2 (λs pw hs=>?_) h4.1;rw[h3 s,ld.eq s];exact AFr kM ap z1 okκ s pw hs
end K33
namespace L2
open PySem PySem.Spec PySem.W PyProof.Rows
abbrev xo(oe:Obj):HO:=.frz oe (.ext λ_=>True)
end L2
namespace PySem.SeqAt
open PySem.AutoSeq1 (wpAny_loadPart')
open MeetsSeq
theorem Lj(l:Addr)(items:Array As)(n:Nat)(x:As)(e:As->Bool)(j:Nat)(hj:j<items.size)(bp:e items[j]=true)(k:Nat)(hs1:items.size<=sizeLine) :
  ∀i:Nat,j-i=k->i<=j->(∀m (hm:m<items.size),i<=m->m<j->e items[m]=false)->Meets (Builtin.«list.remove.loop» ⟨[.ref l,x,FY i],[]⟩)
   (λA R s=>s.heap.get? l=pX {cls:=.type "list",dict:=pY,data:=.seq items n,slots:=#[]}/\(∀y,y∈items->EqAt A.in1 s y x (e y))/\R (.ok (.ret .none)) {s with heap:=s.heap.update l (CU λxs=>xs.eraseIdxIfInBounds j)}):=by
 induction k with
 | zero =>
  intro i hk d5 gc prog w A R s h;obtain⟨hp,g,d,tk,os⟩:=s;obtain⟨hl,he,h⟩:=h;have hij':i=j:=uw d5 hk;subst hij'
  wp_walk using wpAny_loadPart' hl
  have hi:items[((i:Nat):Int).toNat]?=pX items[i]:=by simp[hj]
  rw[hi];refine Ap (he _ (SZ hj) prog w _ _ ?_);rw[bp];have hz':(items.eraseIdxIfInBounds i).size<=sizeLine+1:=BQ (size_erased items _) (NE hs1)
  wp_walk using(OP hl rfl (hz:=hs1) (_hz':=hz')),wpAny_loadPart' hl
  simpa using h
 | succ k ih =>
  intro i hk d5 gc prog w A R s h;obtain⟨hp,g,d,tk,os⟩:=s;obtain⟨hl,he,h⟩:=h;have bn:i<items.size:=qq d5 hj
  wp_walk using wpAny_loadPart' hl
  have hi:items[((i:Nat):Int).toNat]?=pX items[i]:=by simp[bn]
  have hc:((i:Int)+1)=((i+1:Nat):Int):=by push_cast;rfl
  rw[hi];refine Ap (he _ (SZ bn) prog w _ _ ?_);rw[gc i bn (AH _) (uq hk)]
  wp_walk
  rw[hc];exact⟨Iy K0 _,DU S3 (by
   rw[DV K0 _];exact ih (i+1) (ur hk) (by lia) (λm hm h1 h2=>gc m hm (qy h1) h2) prog w A R _ ⟨hl,he,h⟩)⟩
theorem Lk(l:Addr)(items:Array As)(n:Nat)(x:As)(e:As->Bool)(j:Nat)(hj:j<items.size)
  (bp:e items[j]=true) (gc:∀m (hm:m<items.size),m<j->e items[m]=false) (hs1:items.size<=sizeLine) :
  Meets (Builtin.«list.remove» ⟨[.ref l,x],[]⟩)
   (λA R s=>s.heap.get? l=pX {cls:=.type "list",dict:=pY,data:=.seq items n,slots:=#[]}/\(∀y,y∈items->EqAt A.in1 s y x (e y))/\R (.ok (.ret .none)) {s with heap:=s.heap.update l (CU λxs=>xs.eraseIdxIfInBounds j)}):=by
 intro prog w A R s h;obtain⟨hp,g,d,tk,os⟩:=s;obtain⟨hl,he,h⟩:=h
 wp_walk using wpAny_loadPart' hl
 exact⟨Iy K0 _,DU S3 (by
  rw[DV K0 _];exact Lj l items n x e j hj bp _ hs1 0 rfl (BD _) (λm hm _ h2=>gc m hm h2) prog w A R _ ⟨hl,he,h⟩)⟩
end PySem.SeqAt
namespace L2
open PySem PySem.Spec PySem.W PyProof.Rows
section
variable[DecidableEq α]{R:Rep α}
theorem Ku:∀{xs:List V}{us:List As},Vals xs us->∀j,Vals (xs.eraseIdx j) (us.eraseIdx j)
 | _,_,.nil,_=>.nil
 | _,_,.cons r t,0=>t
 | _,_,.cons r t,j+1=>.cons r (Ku t j)
def ACV{α:Type}(R:Rep α):V->List V->Hp->VK->Prop:=λx vs H Q=>∃(l:Addr) (xs:List V) (y:V) (a:α) (as:List α) (j:Nat),x=.ref l/\vs=[y]/\H l=pX (.lst xs)/\A7 (R H) as xs/\R H a y/\as[j]?=pX a/\(∀m,m<j->as[m]?≠pX a)/\Q .non (upd H l (.lst (xs.eraseIdx j)))
theorem Yn(D:Dat X n R)(hu:X.A.units+(n+1)<Cn):MtM X "list.remove" (ACV R):=by
 intro ae s σ H x vs v us Q I rx rv h;obtain⟨l,xs,y,a,as,j,rfl,rfl,hH,pa,ra,hj,gc,q⟩:=h;cases rx;obtain⟨u,rfl,ry⟩:=rv.one;obtain⟨z,ah,m,r,hl,e⟩:=I.lstM hH;have ic:X.A.in1.units+n<Cn:=by show X.A.units+1+n<Cn;exact rh hu
 have lx:=AT pa;have at_:∀m (hm:m<ah.toArray.size),∃am,as[m]?=pX am/\isDat R H a ah.toArray[m]=decide (am=a):=λm hm=>by
  have cr:m<xs.length:=by rw[hl];simpa using hm
  have e1:xs[m]?=pX xs[m]:=AL cr;obtain⟨am,ea,rm⟩:=Paired.get pa e1;obtain⟨w,hw,dk⟩:=r.get e1;have e2:ah.toArray[m]=w:=by
   have:ah[m]?=pX w:=hw;simpa using(AF.mp this).2
  refine⟨am,ea,?_⟩;rw[e2];exact Jy D I dk rm
 have bj:j<ah.toArray.size:=by
  have:=(AF.mp hj).1;rw[lx,hl] at this;simpa using this
 refine Qb F.slot_list_remove ⟨_,e,rfl⟩ F.entry_list_remove (F.args_list_remove_2 _ _) (SeqAt.Lk l ah.toArray m u (isDat R H a) j bj ?_ (λm hm hmj=>?_) ?_) ⟨e,λw hw=>Gb D I ic ry ra pa r w (by simpa using hw),?_⟩
 .obtain⟨am,e1,e2⟩:=at_ j bj
  rw[e2];rw[hj] at e1;cases e1;exact p7 rfl
 .obtain⟨am,e1,e2⟩:=at_ m hm
  rw[e2];exact p8 λz=>gc m hmj (by rw[e1,z])
 .rw[AU,<- hl]
  exact z
 .refine⟨.non,_,I.lset (t':=s.toks) (its':=ah.eraseIdx j) hH e ?_ (Ku r j) ?_,rfl,q⟩
  .rw[AU] at bj
   simp[N8,bj]
  .rw[Mb]
   split<;>lia
end
end L2
namespace K33
open PySem L2 G
def Uq:Sp:=λvs H Q _=>∃(c:Int),vs=[.int c]/\∀n:Int,Q (.int n) H
theorem AEk:FnScope zl15 zl15 (Ag ABY):=fscp (by decide+kernel)
theorem ACe(F:Fun K "_law_at" "_law_at" ABY f fd)(T:Txt K mg C):FnOk P w K mg base CX0 1 f fd zl15 (Zj K):=by
 refine F.ok AEk (λvs H Q E h=>?_) (λa6 A outer s H vs Q E hr h=>?_)
 .obtain⟨a,ns,k,rfl,_⟩:=h
  rfl
 obtain⟨a,ns,k,rfl,hS,h0,q⟩:=h;refine⟨_,Af (CQ (Av Kf (pv 1) (Aw BJ rfl T.len DB (Aa (pv 0) Ad))) (Aj (Aq (Ay Cm (pv 0) (pv 1)))) BL)
  (Aj (Aq Ai)),?_⟩
 refine⟨_,rfl,_,rfl,a,_,rfl,.inl hS,k,_,rfl,rfl,_,rfl,?_⟩;by_cases hc:k<((ns.map V.int).length:Int)
 .obtain⟨v,hv⟩:=AAk h0 (by rw[AB] at hc;exact hc)
  exact iteP hc ⟨_,rfl,_,rfl,a,_,k,_,rfl,rfl,hS,hv,q v⟩
 .exact iteN hc (q 0)
theorem Zz:FnScope ["_law_cell","_law_one","_law_two"] zl26 (Ag AEr):=fscp (by decide+kernel)
theorem AEc(F:Fun K "_law_mixed" "_law_mixed" AEr f fd):FnOk P w K mg base CX0 1 f fd zl26 Uq:=by
 refine F.ok Zz (λvs H Q E h=>?_) (λa6 A outer s H vs Q E hr h=>?_)
 .obtain⟨c,rfl,_⟩:=h
  rfl
 obtain⟨c,rfl,q⟩:=h;refine⟨_,Af (Am (i:=1) Zz.nd (Ar Cq (Ar CZ (Ar Ir (pv 0) Ai) Ai) Ai))
  (Af (Am (i:=2) Zz.nd (Ar Cq (Ar Ir (pv 1) (pv 1)) Ai))
  (Aj (Aq (Ar CZ (Ar Ir (Ar CZ (Ar Ir (pv 1) Ai) (pv 2)) Ai) (Ar Cq (Ar Ir (pv 2) (pv 2)) Ai))))),?_⟩
 refine⟨_,rfl,_,_,rfl,rfl,.inr ⟨by decide,by decide⟩,_,_,rfl,rfl,_,_,rfl,rfl,(by show(0:Int)<2147483647;decide),?_⟩;have h1:=EI (c*48271+12345) (show(2147483647:Int)≠0 by decide);have h2:=DA (c*48271+12345) (show(0:Int)<2147483647 by decide);dsimp only;generalize (c*48271+12345)%2147483647=x at h1 h2;refine⟨_,rfl,_,rfl,_,_,rfl,rfl,.inl ⟨by lia,by lia⟩,_,_,rfl,rfl,(by show(0:Int)<2147483629;decide),?_⟩;have h3:=EI (x*x) (show(2147483629:Int)≠0 by decide);have h4:=DA (x*x) (show(0:Int)<2147483629 by decide);dsimp only;generalize x*x%2147483629=y at h3 h4;exact⟨_,rfl,_,_,rfl,rfl,.inl ⟨by lia,by lia⟩,_,rfl,_,_,rfl,rfl,_,_,rfl,rfl,.inr ⟨by decide,by decide⟩,_,rfl,_,rfl,_,_,rfl,rfl,.inl ⟨by lia,by lia⟩,_,_,rfl,rfl,(by show(0:Int)<2147483587;decide),_,_,rfl,rfl,q _⟩
end K33
namespace K35
open PySem L2
def DownP(i:Nat)(t:qC):Prop:=∃a b:Nat,t=[(a:Int),(b:Int)]/\b<a/\a<i
def newP(i j:Nat):qD:=(AO j).map λ(o:Nat)=>[(i:Int),(o:Int)]
theorem Km{a b:Nat}(h:b<a):srt [(a:Int),(b:Int)]=[(b:Int),(a:Int)]:=by rw[Cu,p6 (qO h)]
theorem ACS{a b:Nat}(h:b<a):srt [(b:Int),(a:Int)]=[(b:Int),(a:Int)]:=by rw[Cu,pZ (by lia)]
theorem Yw(i j:Nat):newP i (j+1)=newP i j++[[(i:Int),(j:Int)]]:=by
 unfold newP;rw[FH,BE];rfl
theorem Ze{t:qC}(h:t∈newP i i):DownP (i+1) t:=by
 obtain⟨o,ho,rfl⟩:=AY.mp h;exact⟨i,o,rfl,AV.mp ho,rB⟩
theorem ADJ{ps:qD}(hd:∀t∈ps,DownP i t)(hn:(ps.map srt).Nodup):((ps++newP i i).map srt).Nodup:=by
 have e:(newP i i).map srt=(AO i).map λ(o:Nat)=>[(o:Int),(i:Int)]:=by
  unfold newP;rw[Ee];refine DJ λo ho=>?_;exact Km (AV.mp ho)
 rw[BE,e,IS];refine⟨hn,?_,?_⟩
 .unfold Ha
  rw[B5];refine HK.imp λ{a b} h z=>h ?_;injection z with z _
  exact qk z
 .rintro t ht u hu rfl
  obtain⟨t0,h0,rfl⟩:=AY.mp ht;obtain⟨a,b,rfl,ba,ai⟩:=hd t0 h0;obtain⟨o,ho,e⟩:=AY.mp hu;rw[Km ba] at e;injection e with e1 e2
  injection e2 with e2 _
  lia
theorem Zg{ps:qD}{p:qC}(hn:(ps.map srt).Nodup)(hj:ps[j]?=pX p):∀m,m<j->ps[m]?≠pX p:=λm hm z=>by
 have jl:=(AF.mp hj).1;have ml:=(AF.mp z).1;refine(Co.mp hn) m j (by rw[AB];exact ml) (by rw[AB];exact jl) hm ?_;rw[Lc,Lc,(AF.mp z).2,(AF.mp hj).2]
theorem Kc{α:Type}:∀{l:List α}{j:Nat}{p:α},l[j]?=pX p->(p::l.eraseIdx j).Perm l
 | [],j,p,h=>by cases h
 | a::l,0,p,h=>by
  cases h;exact KF _
 | a::l,j+1,p,h=>(PM a p _).trans (PF a (Kc (l:=l) (j:=j) (by simpa using h)))
theorem ACH{ps:qD}{p p':qC}(hn:((as++ps).map srt).Nodup)(hj:ps[j]?=pX p)(e:srt p'=srt p):(((as++[p'])++ps.eraseIdx j).map srt).Nodup:=by
 obtain⟨jl,ej⟩:=AF.mp hj;have pm:=Kc hj;have e2:(((as++[p'])++ps.eraseIdx j).map srt)=((as++(p::ps.eraseIdx j)).map srt):=by
  rw[CL,BE,BE (l₁:=as)];show _++(srt p'::_)=_++(srt p::_);rw[e];rfl
 rw[e2];exact(((EJ as pm).map srt).nodup_iff).mpr hn
theorem Paired.erase{F:α->β->Prop}:∀{l:List α}{m:List β},A7 F l m->∀j,A7 F (l.eraseIdx j) (m.eraseIdx j)
 | _,_,.nil,_=>.nil
 | _,_,.cons h t,0=>t
 | _,_,.cons h t,j+1=>.cons h (Paired.erase t j)
end K35
namespace K33
open PySem L2 G K35
def Wt(K:Au):Sp:=λvs H Q _=>∃(m n:Int),vs=[.int m,.int n]/\1<=m/\m<=10/\∀(l:Addr) (xs:List V) (as:qD) (H':Hp),Same H H'->H l=none->H' l=pX (.lst xs)->A7 (rPair K H') as xs->OkTies m as->as.length<=12->Q (.ref l) H'
theorem Cr:FnScope ["_law_many","_law_number","_law_pairs","_law_one","_law_wanted","_law_rows_here","_law_other"] zl27 (Ag Qi):=fscp (by decide+kernel)
theorem AAj(F:Fun K "_law_rows" "_law_rows" Qi f fd)(T:Txt K mg C)
  (GX:Cal P w K mg base 1 fX fdX "_law_mixed" zl26 Uq):FnOk P w K mg base CX0 2 f fd zl27 (Wt K):=by
 refine F.ok Cr (λvs H Q E h=>?_) (λa6 A outer s H vs Q E hr h=>?_)
 .obtain⟨m,c,rfl,_⟩:=h
  rfl
 obtain⟨m,n,rfl,m1,m10,q⟩:=h;have ce:Room 1 _:=hr.mono (by decide);refine⟨_,Af (Am (i:=2) Cr.nd (Dm Ad))
  (Af (En EB rfl (Dz rfl T.range (Aa (pv 0) Ad)) (Bf (i:=3) Cr.nd)
   (Aj (DP (Js ED PySem.F.slot_list_extend PySem.F.type_list_extend YS (pv 2) (Aa (CP (Ag Qi) ["_law_other"] ["_law_one"] [3] rfl rfl (by decide+kernel) ⟨⟨rfl,by decide+kernel⟩,trivial⟩ (Dz rfl T.range (Aa (pv 3) Ad))
    (λ_ _ _=>BK (i:=0)) (λ_ _ _=>Ec) (λ_ _ _=>Br (Aa (pv 1) (Aa (pv 0) Ad)))) Ad)))))
  (Af (Am (i:=4) Cr.nd (Ar Cq (pv 1) Ai))
  (Af (Am (i:=1) Cr.nd (Ar FW (pv 1) Ai))
  (Af (Am (i:=5) Cr.nd (Dm Ad))
  (Af (AAP EB (qS (Ox (Av Kf (Aw BJ rfl T.len DB (Aa (pv 5) Ad)) (pv 4)) (Je (Av (AAv (DR DX) (Bp hr)) (pv 2) (Dm Ad)))))
   (XQ (CQ (Av Hl (pv 1) Ai) (Aj (Am (i:=1) Cr.nd (Bd GX ce rfl (Aa (Ar CZ (pv 0) (Ar Ir Ai (Aw BJ rfl T.len DB (Aa (pv 5) Ad)))) Ad)))) BL)
   (Af (Gu (Ay Cm (pv 2) (Ar Cq (pv 1) (Aw BJ rfl T.len DB (Aa (pv 2) Ad)))) (PL rfl (Bo (Bf (i:=3) Cr.nd) (Bo (Bf (i:=6) Cr.nd) FN))))
   (Af (Am (i:=1) Cr.nd (Ar FW (pv 1) (Aw BJ rfl T.len DB (Aa (pv 2) Ad))))
   (Af (DP (Js ED PySem.F.slot_list_remove PySem.F.type_list_remove (Yn (DR DX) (Bp hr)) (pv 2) (Aa (Br (Aa (pv 3) (Aa (pv 6) Ad))) Ad)))
   (Af (DP (Js ED FF FG EY (pv 5) (Aa (Ay Cm (Dm (Aa (Br (Aa (pv 3) (Aa (pv 6) Ad))) (Aa (Br (Aa (pv 6) (Aa (pv 3) Ad))) Ad))) (Ar Cq (pv 1) Ai)) Ad)))
   (Aj (Am (i:=1) Cr.nd (Ar FW (pv 1) Ai)))))))))
  (Aj (Aq (pv 5)))))))),?_⟩
 refine⟨BD _,λPa hPa=>?_⟩;have s0:=qe hPa (.lst []);have e0:(upd H Pa (.lst [])) Pa=pX (.lst []):=Ab;generalize upd H Pa (.lst [])=H0 at s0 e0;refine⟨_,rfl,m,rfl,by lia,by lia,?_⟩;refine Xx (lo:=0) (n:=m.toNat) (λi σ H2=>∃(o3:Option V) (ps:qD) (xs:List V),σ=[pX (.int m),pX (.int n),pX (.ref Pa),o3,pY,pY,pY]/\Same H H2/\H2 Pa=pX (.lst xs)/\A7 (rPair K H2) ps xs/\(∀t∈ps,DownP i t)/\(ps.map srt).Nodup/\ps.length<=10*i) ⟨pY,[],[],rfl,s0,e0,.nil,λt h=>by(cases h),Po,AH _⟩ ?_ ?_
 .rintro i σ H2 hi ⟨o3,ps,xs,rfl,sm,eP,pp,dn,nd,ln⟩
  have ei:(0:Int)+i=(i:Int):=rC;rw[ei];have i9:i<10:=by lia
  refine⟨_,rfl,.inl ⟨rfl,_,qX eP⟩,_,rfl,(i:Int),rfl,by lia,by lia,λZ hZ=>?_⟩;have PZ:Pa≠Z:=Ac eP hZ;refine Cp (lo:=0) (n:=(i:Int).toNat) (λj τ H3=>∃(o:Option V) (ys:List V),τ=[o,pX (.int i)]/\Same H2 H3/\H3 Z=pX (.lst ys)/\A7 (rPair K H3) (newP i j) ys) ⟨pY,[],rfl,qe hZ _,Ab,.nil⟩ ?_ ?_
  .rintro j τ H3 hj ⟨o,ys,rfl,s3,eZ,py⟩
   have ej:(0:Int)+j=(j:Int):=rC;rw[ej];have ly:=AT py;have l2:(newP i j).length=j:=by unfold newP;rw[AB,B0]
   refine⟨_,rfl,_,rfl,(by show 2<=sizeLine;decide),λt ht=>?_⟩;have s4:=qe ht (.tup [.int (i:Int),.int (j:Int)]);have tZ:t≠Z:=λz=>by rw[z,eZ] at ht;cases ht
   refine⟨ys,s4 _ _ eZ,BZ (by lia),_,_,rfl,λb o e=>?_,Ab,?_⟩
   .rw[Ae (Ac e hZ)]
    exact s4 _ _ (s3 b o e)
   .rw[Yw]
    have ts:TSm H3 (upd (upd H3 t (.tup [.int (i:Int),.int (j:Int)])) Z (.lst (ys++[.ref t]))):=s4.ts.trans (qd (s4 _ _ eZ));exact Paired.app (Paired.imp (λa b=>Ak Ao _ _ a b ts) py) (qc (Ea (ns:=[(i:Int),(j:Int)]) (by rw[Ae tZ];exact Ab)))
  .rintro τ H3 ⟨o,ys,rfl,s3,eZ,py⟩
   rw[CH] at py;have ly:=AT py;have lx:=AT pp;have l2:(newP i i).length=i:=by unfold newP;rw[AB,B0]
   refine⟨Pa,Z,xs,ys,rfl,rfl,s3 _ _ eP,eZ,DD (BZ (by lia)),?_⟩;have ts:TSm H3 (upd H3 Pa (.lst (xs++ys))):=qd (s3 _ _ eP);refine⟨_,ps++newP i i,xs++ys,rfl,λb o e=>?_,Ab,Paired.app (Paired.imp (λa b=>Ak Ao _ _ a b (s3.ts.trans ts)) pp) (Paired.imp (λa b=>Ak Ao _ _ a b ts) py),λt ht=>?_,ADJ dn nd,by rw[Bz];lia⟩
   .rw[Ae (Ac e hPa)]
    exact s3 _ _ (sm b o e)
   .rcases Cf.mp ht with ht| ht
    .obtain⟨a,b,e,h1,h2⟩:=dn t ht
     exact⟨a,b,e,h1,qw h2⟩
    .exact Ze ht
 rintro σ H2 ⟨o3,ps,xs,rfl,sm,eP,pp,dn,nd,ln⟩;refine⟨_,rfl,_,_,rfl,rfl,(by show(0:Int)<13;decide),?_⟩;refine⟨_,rfl,_,_,rfl,rfl,⟨by decide,by decide⟩,?_⟩;refine⟨BD _,λR hR=>?_⟩;have w1:=DA n (show(0:Int)<13 by decide);have PR:Pa≠R:=Ac eP hR;have hRH:H R=pY:=by
  cases e:H R with
  | none=>rfl
  | some o=>have:=sm _ _ e;rw[hR] at this;cases this
 have mz:(m.toNat:Int)=m:=DL (by lia);refine⟨λk σ H3=>∃(o3 o6:Option V) (nn:Int) (ps as:qD) (xs ys:List V),σ=[pX (.int m),pX (.int nn),pX (.ref Pa),o3,pX (.int (n%13)),pX (.ref R),o6]/\k=ps.length/\Same H H3/\H3 Pa=pX (.lst xs)/\H3 R=pX (.lst ys)/\A7 (rPair K H3) ps xs/\A7 (rPair K H3) as ys/\(∀t∈ps,DownP m.toNat t)/\(∀t∈as,OkTie m t)/\((as++ps).map srt).Nodup/\ps.length<=100/\as.length<=12,?_,?_⟩
 .refine⟨_,_,_,_,ps,[],xs,[],rfl,rfl,sm.trans (qe hR _),by rw[Ae PR];exact eP,Ab,Paired.imp (λa b=>Ak Ao _ _ a b (qe hR _).ts) pp,.nil,dn,λt h=>(by cases h),nd,by lia,BD _⟩
 rintro k σ H3 ⟨o3,o6,nn,ps,as,xs,ys,rfl,rfl,s3,eP,eR,pp,pr,dn,ok,nd,ln,l4⟩;have lx:=AT pp;have ly:=AT pr;have fin:∀H4,Same H3 H4->Q (.ref R) H4:=λH4 s4=>q R ys as H4 (s3.trans s4) hRH (s4 _ _ eR) (Paired.imp (λa b=>Ak Ao _ _ a b s4.ts) pr) ⟨ok,by
  rw[BE] at nd;exact(IS.mp nd).1⟩ l4
 refine⟨_,rfl,R,_,rfl,.inl (qX eR),_,rfl,_,_,rfl,rfl,_,rfl,?_⟩;by_cases c1:n%13<=((ys.length:Nat):Int)
 .exact iteN (rP c1) (iteF ⟨_,rfl,fin _ (qZ _)⟩)
 refine iteP (rM c1) ?_;refine⟨_,rfl,BD _,λW hW=>?_⟩;have s4:=qe hW (.lst []);refine⟨ps,[],⟨Pa,xs,rfl,qX (s4 _ _ eP),Paired.imp (λa b=>Ak Ao _ _ a b s4.ts) pp⟩,⟨W,[],rfl,qX Ab,.nil⟩,_,rfl,?_⟩;by_cases c2:ps=[]
 .exact iteNP c2 ⟨_,rfl,fin _ s4⟩
 refine iteNN c2 ?_;have mZ:=s4 _ _ eP;have gV:=s4 _ _ eR;have pp4:A7 (rPair K (upd H3 W (.lst []))) ps xs:=Paired.imp (λa b=>Ak Ao _ _ a b s4.ts) pp;have pr4:A7 (rPair K (upd H3 W (.lst []))) as ys:=Paired.imp (λa b=>Ak Ao _ _ a b s4.ts) pr;have s34:=s3.trans s4;generalize upd H3 W (.lst [])=H4 at s4 mZ gV pp4 pr4 s34;have pl:0<ps.length:=Q8.mpr c2;refine⟨λσ' H'=>∃m',m'<ps.length/\_,λσ' H' h=>h,?_⟩;refine⟨λσ' H'=>∃nn':Int,H4=H'/\σ'=[pX (.int m),pX (.int nn'),pX (.ref Pa),o3,pX (.int (n%13)),pX (.ref R),o6],?_,?_⟩
 .refine⟨_,rfl,rfl,_,rfl,ite2 (λ_=>?_) (λ_=>⟨nn,rfl,rfl⟩)⟩
  exact⟨_,rfl,_,rfl,R,_,rfl,.inl (qX gV),_,_,rfl,rfl,.inl ⟨by decide,by decide⟩,_,_,rfl,rfl,_,rfl,λn'=>⟨n',rfl,rfl⟩⟩
 rintro σ' H' ⟨nn,rfl,rfl⟩;have xl:(0:Int)<(xs.length:Nat):=by lia
 have j0:=EI nn (show((xs.length:Nat):Int)≠0 by lia);have j1:=DA nn xl;obtain⟨j,ej⟩:=Ic j0;have jl:j<xs.length:=by lia
 obtain⟨x,hx⟩:∃x,xs[j]?=pX x:=⟨_,AL jl⟩;obtain⟨p,hp,rp⟩:=Paired.get pp4 hx;obtain⟨t,rfl,ht⟩:=Bk rp;obtain⟨a,b,rfl,ba,am⟩:=dn p (By hp);refine⟨_,rfl,_,rfl,_,rfl,Pa,_,rfl,.inl (qX mZ),_,_,rfl,rfl,xl,Pa,_,_,_,rfl,rfl,qX mZ,by rw[ej];exact CN hx,t,_,rfl,ht,rfl,_,_,rfl,_,_,rfl,rfl,?_⟩;refine⟨_,rfl,_,rfl,Pa,_,rfl,.inl (qX mZ),_,_,rfl,rfl,⟨xl,by lia⟩,?_⟩;refine⟨_,rfl,.inl ⟨rfl,_,qX mZ⟩,_,rfl,_,rfl,(by show 2<=sizeLine;decide),λt2 j3=>?_⟩;have s5:=qe j3 (.tup [.int (a:Int),.int (b:Int)]);have et2:(upd H4 t2 (.tup [.int (a:Int),.int (b:Int)])) t2=pX (.tup [.int (a:Int),.int (b:Int)]):=Ab;have pp5:A7 (rPair K (upd H4 t2 (.tup [.int (a:Int),.int (b:Int)]))) ps xs:=Paired.imp (λa b=>Ak Ao _ _ a b s5.ts) pp4;have pr5:A7 (rPair K (upd H4 t2 (.tup [.int (a:Int),.int (b:Int)]))) as ys:=Paired.imp (λa b=>Ak Ao _ _ a b s5.ts) pr4;have eP5:=s5 _ _ mZ;have fm:=s5 _ _ gV;have s35:=s34.trans s5;generalize upd H4 t2 (.tup [.int (a:Int),.int (b:Int)])=H5 at s5 et2 pp5 pr5 eP5 fm s35;have nps:(ps.map srt).Nodup:=by
  rw[BE] at nd;exact(IS.mp nd).2.1
 refine⟨Pa,xs,.ref t2,[(a:Int),(b:Int)],ps,j,rfl,rfl,eP5,pp5,Ea (ns:=[(a:Int),(b:Int)]) et2,hp,Zg nps hp,?_⟩;have l6:TSm H5 (upd H5 Pa (.lst (xs.eraseIdx j))):=qd eP5;have eP6:(upd H5 Pa (.lst (xs.eraseIdx j))) Pa=pX (.lst (xs.eraseIdx j)):=Ab;have iP:(upd H5 Pa (.lst (xs.eraseIdx j))) R=pX (.lst ys):=by rw[Ae (CB PR)];exact fm
 have s6:Same H (upd H5 Pa (.lst (xs.eraseIdx j))):=λb o e=>by
  rw[Ae (Ac e hPa)];exact s35 b o e
 have pp6:A7 (rPair K (upd H5 Pa (.lst (xs.eraseIdx j)))) (ps.eraseIdx j) (xs.eraseIdx j):=Paired.imp (λa b=>Ak Ao _ _ a b l6) (Paired.erase pp5 j);have pr6:A7 (rPair K (upd H5 Pa (.lst (xs.eraseIdx j)))) as ys:=Paired.imp (λa b=>Ak Ao _ _ a b l6) pr5;generalize upd H5 Pa (.lst (xs.eraseIdx j))=H6 at l6 eP6 iP s6 pp6 pr6;refine⟨_,rfl,.inl ⟨rfl,_,qX iP⟩,_,rfl,_,rfl,(by show 2<=sizeLine;decide),λt3 ht3=>?_⟩;refine⟨_,rfl,_,rfl,(by show 2<=sizeLine;decide),λt4 ht4=>?_⟩;refine⟨(by show 2<=sizeLine;decide),λL hL=>?_⟩;have s7:=(qe ht3 (.tup [.int (a:Int),.int (b:Int)])).trans ((qe ht4 (.tup [.int (b:Int),.int (a:Int)])).trans (qe hL (.lst [.ref t3,.ref t4])));have e3:(upd (upd (upd H6 t3 (.tup [.int (a:Int),.int (b:Int)])) t4 (.tup [.int (b:Int),.int (a:Int)])) L (.lst [.ref t3,.ref t4])) t3=pX (.tup [.int (a:Int),.int (b:Int)]):=(qe hL _) _ _ ((qe ht4 _) _ _ Ab);have e4:(upd (upd (upd H6 t3 (.tup [.int (a:Int),.int (b:Int)])) t4 (.tup [.int (b:Int),.int (a:Int)])) L (.lst [.ref t3,.ref t4])) t4=pX (.tup [.int (b:Int),.int (a:Int)]):=(qe hL _) _ _ Ab;have eL:(upd (upd (upd H6 t3 (.tup [.int (a:Int),.int (b:Int)])) t4 (.tup [.int (b:Int),.int (a:Int)])) L (.lst [.ref t3,.ref t4])) L=pX (.lst [.ref t3,.ref t4]):=Ab;generalize upd (upd (upd H6 t3 (.tup [.int (a:Int),.int (b:Int)])) t4 (.tup [.int (b:Int),.int (a:Int)])) L (.lst [.ref t3,.ref t4])=H7 at s7 e3 e4 eL;have v0:=EI (nn / ((xs.length:Nat):Int)) (show(2:Int)≠0 by decide);have v1:=DA (nn / ((xs.length:Nat):Int)) (show(0:Int)<2 by decide);obtain⟨x',p',oH,esr,okp,rp'⟩:∃(x':Addr) (p':qC),atI [V.ref t3,V.ref t4] (nn / ((xs.length:Nat):Int)%2)=pX (.ref x')/\srt p'=srt [(a:Int),(b:Int)]/\OkTie m p'/\rPair K H7 p' (.ref x'):=by
  generalize nn / ((xs.length:Nat):Int)%2=vv at v0 v1;obtain⟨k,rfl⟩:=Ic v0
  match k,v1 with
  | 0,_=>exact⟨t3,[(a:Int),(b:Int)],CN rfl,rfl,⟨_,_,rfl,qo,wj am,qo,wk ba am,by lia⟩,Ea (ns:=[(a:Int),(b:Int)]) e3⟩
  | 1,_=>exact⟨t4,[(b:Int),(a:Int)],CN rfl,by rw[ACS ba,Km ba],⟨_,_,rfl,qo,wk ba am,qo,wj am,by lia⟩,Ea (ns:=[(b:Int),(a:Int)]) e4⟩
  | k+2,h=>exact qB h (by lia)
 have eR7:=s7 _ _ iP;refine⟨_,rfl,_,_,rfl,rfl,(by show(0:Int)<2;decide),L,_,_,_,rfl,rfl,qX eL,oH,R,ys,_,rfl,rfl,eR7,BZ (by lia),?_⟩;refine⟨_,rfl,_,_,rfl,rfl,⟨by decide,by decide⟩,?_⟩;have ts8:TSm H7 (upd H7 R (.lst (ys++[.ref x']))):=qd eR7;refine⟨(ps.eraseIdx j).length,?_,_,_,_,ps.eraseIdx j,as++[p'],xs.eraseIdx j,ys++[.ref x'],rfl,rfl,λb o e=>?_,?_,Ab,Paired.imp (λa b=>Ak Ao _ _ a b (s7.ts.trans ts8)) pp6,Paired.app (Paired.imp (λa b=>Ak Ao _ _ a b (s7.ts.trans ts8)) pr6) (qc (Ak Ao _ _ _ _ ts8 rp')),λt ht=>dn t (Op ht),λt ht=>?_,ACH nd hp esr,?_,?_⟩
 .rw[Mb,p6 (by lia)]
  lia
 .rw[Ae (Ac e hRH)]
  exact s7 _ _ (s6 b o e)
 .rw[Ae PR]
  exact s7 _ _ eP6
 .rcases Cf.mp ht with ht| ht
  .exact ok t ht
  .rw[Cb.mp ht]
   exact okp
 .rw[Mb]
  split<;>lia
 .rw[Bz]
  show as.length+1<=12;lia
end K33
namespace K33
open PySem L2 G
theorem RJ{x:Nat}{a b:Nat}(h:as[x]?=pX [(a:Int),(b:Int)]):(ea (as.map srt) x=a/\eb (as.map srt) x=b)\/(ea (as.map srt) x=b/\eb (as.map srt) x=a):=by
 have e:(as.map srt).getD x []=srt [(a:Int),(b:Int)]:=by
  rw[AD,Bi,h];rfl
 unfold ea eb;rw[e,Cu];split
 .exact .inr ⟨rfl,rfl⟩
 .exact .inl ⟨rfl,rfl⟩
theorem WD(ok:OkTies (z:Int) as){x:Nat}(h:x<as.length):∃a b:Nat,as[x]?=pX [(a:Int),(b:Int)]/\a<z/\b<z/\a≠b:=by
 obtain⟨a,b,e,a0,a1,b0,b1,n⟩:=ok.ok as[x] (F8 h);refine⟨a.toNat,b.toNat,by rw[AL h,e,DL a0,DL b0],tV b0 a1 b1,rZ b0 b1,by lia⟩
theorem Ik(ok:OkTies (z:Int) as):Apart (as.map srt):=λx hx=>by
 rw[AB] at hx;obtain⟨a,b,e,_,_,n⟩:=WD ok hx;rcases RJ e with⟨h1,h2⟩| ⟨h1,h2⟩
 .rw[h1,h2];exact n
 .rw[h1,h2];exact CB n
theorem XC(h:OkTies (z:Int) as):OkB z (as.map srt):=λt ht=>by
 obtain⟨u,hu,rfl⟩:=AY.mp ht;obtain⟨a,b,e,a0,a1,b0,b1,n⟩:=h.ok u hu;rw[e,Cu];split
 .exact⟨b.toNat,a.toNat,by rw[DL a0,DL b0],tV a0 b1 a1,rZ a0 a1⟩
 .exact⟨a.toNat,b.toNat,by rw[DL a0,DL b0],rZ a0 a1,tV a0 b1 a1⟩
def TlAt(K:Au)(H:Hp)(l:Addr)(as:qD):Prop:=∃xs,SqL K H l xs/\A7 (rPair K H) as xs
theorem TlAt.same(h:TlAt K H l as)(e:Same H H'):TlAt K H' l as:=let ⟨xs,a,b⟩:=h;⟨xs,e.seq a,Paired.imp (λa b r=>Ak Ao _ _ a b e.ts r) b⟩
structure Sol(n:Nat)(A:qE->Prop)(ss:List qE):Prop where
 mem:∀s,s∈ss↔(s.Pairwise (· < ·)/\(∀x∈s,x<n)/\A s)
 ord:ss.Pairwise λs u=>num n s<num n u
def RingS(z:Nat)(as:qD)(E:List (Nat×Nat))(s:qE):Prop:=acc z (idF z) (E++edg (as.map srt) s)
def AAb(K:Au):Sp:=λvs H Q _=>∃(c:Int),vs=[.int c]/\∀(t l:Addr) (z:Nat) (as:qD) (H':Hp),Same H H'->SqT K H' t [.int (z:Int),.ref l]->TlAt K H' l as->OkTies (z:Int) as->2<=z->z<=10->as.length<=12->Q (.ref t) H'
structure In(K:Au)(l:Addr)(z:Nat)(as:qD)(H:Hp):Prop where
 tl:TlAt K H l as
 ok:OkTies (z:Int) as
 z1:1<=z
 z10:z<=10
 a12:as.length<=12
theorem In.same(h:In K l z as H)(e:Same H H'):In K l z as H':=⟨h.tl.same e,h.ok,h.z1,h.z10,h.a12⟩
def Told(K:Au)(H':Hp)(L:Addr)(ss:List qE):Prop:=∃ys,SqL K H' L ys/\A7 (rPair K H') (ss.map up) ys
theorem Told.same{L:Addr}(h:Told K H L ss)(e:Same H H'):Told K H' L ss:=let ⟨xs,a,b⟩:=h;⟨xs,e.seq a,Paired.imp (λa b r=>Ak Ao _ _ a b e.ts r) b⟩
def Jh(K:Au):Sp:=λvs H Q _=>∃(l:Addr) (z:Nat) (as:qD),vs=[.int (z:Int),.ref l]/\In K l z as H /\
 ∀(L:Addr) (ss:List qE) (H':Hp),Same H H'->H L=none->Told K H' L ss->Sol as.length (RingS z as []) ss->Q (.ref L) H'
def Vd(K:Au):Sp:=λvs H Q _=>∃(l:Addr) (z a b:Nat) (as:qD),vs=[.int (z:Int),.ref l,.int (a:Int),.int (b:Int)]/\In K l z as H/\a<z/\b<z/\a≠b /\
 ∀(L:Addr) (ss:List qE) (H':Hp),Same H H'->H L=none->Told K H' L ss->Sol as.length (RingS z as [(a,b)]) ss->Q (.ref L) H'
theorem Kg{K:Au}{H:Hp}:∀{ss:List qE}{ys:List V},A7 (K33s.rTies K H) ss ys->A7 (rPair K H) (ss.map up) ys
 | _,_,.nil=>.nil
 | _,_,.cons ⟨p,e,h⟩ t=>.cons ⟨p,_,e,qY h,paired_ints _⟩ (Kg t)
theorem ZP{af:List Row}{A:qE->Prop}(cn:Canon n af hd)(ld:∀s:qE,s.Pairwise (· < ·)->(∀x∈s,x<n)->(led af hd s=true↔A s)):Sol n A (setsOf af hd):=by
 have I:=HW _ _ rfl cn.least.ok _ cn.knot;refine⟨λs=>⟨λh=>?_,λ⟨pw,lt,h⟩=>(I.mem s).mpr ((ld s pw lt).mpr h)⟩,I.ord⟩;obtain⟨pw,lt⟩:=I.way s h;have lt:=λx hx=>(lt x hx).2;exact⟨pw,lt,(ld s pw lt).mp ((I.mem s).mp h)⟩
theorem AFc{ι:Type}{k:Nat}{sp:ι->Sp}(h:∀i,FnOk P w K mg base CX k f fd ps (sp i)):FnOk P w K mg base CX k f fd ps (λvs H Q E=>∃i,sp i vs H Q E) :=
 ⟨λvs H Q E ⟨i,s⟩=>(h i).1 vs H Q E s,λA outer s H args us vs Q E r e b v ⟨i,q⟩=>(h i).2 A outer s H args us vs Q E r e b v q⟩
theorem UL:FnScope ["_law_cell","_law_number"] zl26 (Ag ABe):=fscp (by decide+kernel)
theorem ACR(F:Fun K "_law_web" "_law_web" ABe f fd)
  (GX:Cal P w K mg base 1 fX fdX "_law_mixed" zl26 Uq)
  (GR:Cal P w K mg base 2 fR gm "_law_rows" zl27 (Wt K)) :
  FnOk P w K mg base CX0 3 f fd zl26 (AAb K):=by
 refine F.ok UL (λvs H Q E h=>?_) (λa6 A outer s H vs Q E hr h=>?_)
 .obtain⟨c,rfl,_⟩:=h
  rfl
 obtain⟨c,rfl,q⟩:=h;have ce:Room 1 _:=hr.mono (by decide);have fz:Room 2 _:=hr.mono (by decide);refine⟨_,Af (Am (i:=1) UL.nd (Ar FW (pv 0) Ai))
  (Af (CQ (Av Hl (Ar Cq (pv 0) Ai) Ai)
   (Af (Am (i:=1) UL.nd (Bd GX ce rfl (Aa (pv 0) Ad)))
   (Aj (Aq (Br (Aa (Ar CZ Ai (Ar Cq (pv 1) Ai)) (Aa (Bd GR fz rfl (Aa (Ar CZ Ai (Ar Cq (pv 1) Ai)) (Aa (Ar FW (pv 1) Ai) Ad))) Ad)))))) BL)
  (Aj (Aq (Br (Aa (Ar CZ Ai (Ar Cq (pv 1) Ai)) (Aa (Bd GR fz rfl (Aa (Ar CZ Ai (Ar Cq (pv 1) Ai)) (Aa (Ar FW (pv 1) Ai) Ad))) Ad)))))),?_⟩
 have fin:∀{m:Int} (m2:2<=m) (m10:m<=10) (l:Addr) (xs:List V) (as:qD) (H':Hp),Same H H'->H' l=pX (.lst xs)->A7 (rPair K H') as xs->OkTies m as->as.length<=12->∀t,H' t=none->Q (.ref t) (upd H' t (.tup [V.int m,V.ref l])):=λ{m} m2 m10 l xs as H' s' el pl ok a12 t ht=>by
  have em:((m.toNat:Nat):Int)=m:=DL (by lia);have s2:=qe ht (.tup [V.int m,V.ref l]);refine q t l m.toNat as _ (s'.trans s2) (qY (by rw[Ab,em])) (TlAt.same ⟨xs,qX el,pl⟩ s2) (by rw[em];exact ok) (by lia) (by lia) a12
 refine⟨_,rfl,_,_,rfl,rfl,⟨by decide,by decide⟩,?_⟩;refine⟨_,rfl,_,_,rfl,rfl,(by show(0:Int)<2;decide),rfl,_,rfl,ite2 (λ_=>?_) (λ_=>?_)⟩
 .refine⟨_,rfl,c,rfl,λn=>?_⟩
  have h1:=EI n (show(5:Int)≠0 by decide);have h2:=DA n (show(0:Int)<5 by decide);refine⟨_,rfl,_,_,rfl,rfl,(by show(0:Int)<5;decide),_,_,rfl,rfl,_,rfl,_,_,rfl,rfl,(by show(0:Int)<5;decide),_,_,rfl,rfl,_,rfl,_,_,rfl,rfl,⟨by decide,by decide⟩,3+n%5,n / 5,rfl,by lia,wt,λl xs as H' s' _ el pl ok a12=>⟨(by show 2<=sizeLine;decide),fin (by lia) wt l xs as H' s' el pl ok a12⟩⟩
 .have h1:=EI (c / 2) (show(9:Int)≠0 by decide)
  have h2:=DA (c / 2) (show(0:Int)<9 by decide);refine⟨_,rfl,_,_,rfl,rfl,(by show(0:Int)<9;decide),_,_,rfl,rfl,_,rfl,_,_,rfl,rfl,(by show(0:Int)<9;decide),_,_,rfl,rfl,_,rfl,_,_,rfl,rfl,⟨by decide,by decide⟩,2+c / 2%9,c / 2 / 9,rfl,by lia,wu,λl xs as H' s' _ el pl ok a12=>⟨(by show 2<=sizeLine;decide),fin (by lia) wu l xs as H' s' el pl ok a12⟩⟩
theorem ACs:FnScope zl16 zl16 (Ag Ui):=fscp (by decide+kernel)
theorem ZM(F:Fun K "_law_rings" "_law_rings" Ui f fd)(T:Txt K mg C)
  (M:Mk K C fI) (mkW:IB K D=true) (hiW:C0 K (.ref D) "__init__" = pX (pX (.builtin "object.__init__"))) (kpW:C9 K (.ref D)=true) (mgW:mg "Rings" = pX (.ref D))
  (GI:FnOk P w K mg base CX0 3 fI ie zl2 (JG K C)) (bI:Binds K ie zl2 [])
  (GG:Cal P w K mg base 18 fG mI "grown" zl25 (Oo pY K C D S))
  (GE:Cal P w K mg base 2 fE fdE "sets_of" ["sieve"] (K33s.Ua K S)) :
  FnOk P w K mg base CX0 19 f fd zl16 (Jh K):=by
 refine F.ok ACs (λvs H Q E h=>?_) (λa6 A outer s H vs Q E hr h=>?_)
 .obtain⟨l,z,as,rfl,_⟩:=h
  rfl
 obtain⟨l,z,as,rfl,B,q⟩:=h;have fz:Room 2 _:=hr.mono (by decide);have pM:Room (3+1) _:=hr.mono (by decide);have l0:Room 18 _:=hr.mono (by decide);refine⟨_,Aj (Aq (Bd GE fz rfl (Aa (Bd GG l0 rfl (Aa (Hy M GI pM rfl T.mgC bI .nil pass0 (Aa (pv 0) (Aa (pv 1) Ad))) (Aa (ACc mkW hiW kpW rfl mgW) Ad))) Ad))),?_⟩;obtain⟨xs,hl,pl⟩:=B.tl;have z10:=B.z10;have z1:=B.z1;have bl:(as.map srt).length=as.length:=AB ..;refine⟨_,rfl,_,rfl,λW dW nW ndW nWd=>?_⟩;have sW:Same H (upd (upd H dW (.own W)) W (.ins C dW [])):=λb o e=>by
  rw[Ae (Ac e nW),Ae (Ac e ndW)];exact e
 refine⟨W,dW,l,(z:Int),xs,as,rfl,Ab,sW.seq hl,Paired.imp (λt x h=>.inr (Ak Ao _ _ _ _ sW.ts h)) pl,B.ok,B.a12,u5 z1,we z10,λH1 k1 hW=>⟨rfl,?_⟩⟩;have s1:Same H H1:=λb o e=>k1 b o (sW b o e) (Ac e nW);intro r dr nr ndr nrd;have sr:Same H1 (upd (upd H1 dr (.own r)) r (.ins D dr [])):=λb o e=>by
  rw[Ae (Ac e nr),Ae (Ac e ndr)];exact e
 refine⟨W,r,dr,z,as.map srt,rfl,hW.same sr,Ab,trivial,trivial,B.z1,z10,by rw[bl];exact B.a12,XC B.ok,Ik B.ok,λp af hd H2 s2 hV cn ld r4=>?_⟩;rw[bl] at hV cn ld;refine⟨p,_,hd,af,rfl,hV,cn.least.ok,cn.knot,B.a12,r4,λL ys H3 s3 nL eL pL=>?_⟩;have pH:=s1.trans (sr.trans s2);refine q L _ H3 (pH.trans s3) ?_ ⟨ys,qX eL,Kg pL⟩ (ZP cn ld);cases e:H L with
 | none=>rfl
 | some o=>rw[pH _ _ e] at nL;cases nL
theorem scWays:FnScope zl17 zl17 (Ag Zc):=fscp (by decide+kernel)
theorem ACf{fN:Addr}{fdN:BI}(F:Fun K "_law_ways" "_law_ways" Zc f fd)(T:Txt K mg C)
  (M:Mk K C fI) (MW:Mk K D fN) (mgW:mg "Ways" = pX (.ref D))
  (GI:FnOk P w K mg base CX0 3 fI ie zl2 (JG K C)) (bI:Binds K ie zl2 [])
  (GN:FnOk P w K mg base CX0 1 fN fdN zl13 (XF K D)) (bN:Binds K fdN zl13 [])
  (GG:∀x,FnOk P w K mg base CX0 18 fG mI zl25 (Oo (pX x) K C D S)) (bG:Binds K mI zl25 []) (kG:C9 K (.ref fG)=true) (mG:mg "grown" = pX (.ref fG))
  (GE:Cal P w K mg base 2 fE fdE "sets_of" ["sieve"] (K33s.Ua K S)) :
  FnOk P w K mg base CX0 19 f fd zl17 (Vd K):=by
 refine F.ok scWays (λvs H Q E h=>?_) (λa6 A outer s H vs Q E hr h=>?_)
 .obtain⟨l,z,a,b,as,rfl,_⟩:=h
  rfl
 obtain⟨l,z,a,b,as,rfl,B,az,bz,ab,q⟩:=h;have fz:Room 2 _:=hr.mono (by decide);have pM:Room (3+1) _:=hr.mono (by decide);have hrN:Room (1+1) _:=hr.mono (by decide);have l0:Room 18 _:=hr.mono (by decide);have GX:=AFc GG;refine⟨_,Aj (Aq (Bd GE fz rfl (Aa (Vy GX l0 rfl mG kG bG .nil pass0 (Aa (Hy M GI pM rfl T.mgC bI .nil pass0 (Aa (pv 0) (Aa (pv 1) Ad))) (Aa (Hy MW GN hrN rfl mgW bN .nil pass0 (Aa (pv 2) (Aa (pv 3) Ad))) Ad))) Ad))),?_⟩;obtain⟨xs,hl,pl⟩:=B.tl;have z10:=B.z10;have z1:=B.z1;have bl:(as.map srt).length=as.length:=AB ..;refine⟨_,rfl,_,rfl,λW dW nW ndW nWd=>?_⟩;have sW:Same H (upd (upd H dW (.own W)) W (.ins C dW [])):=λb o e=>by
  rw[Ae (Ac e nW),Ae (Ac e ndW)];exact e
 refine⟨W,dW,l,(z:Int),xs,as,rfl,Ab,sW.seq hl,Paired.imp (λt x h=>.inr (Ak Ao _ _ _ _ sW.ts h)) pl,B.ok,B.a12,u5 z1,we z10,λH1 k1 hW=>⟨rfl,?_⟩⟩;have s1:Same H H1:=λb o e=>k1 b o (sW b o e) (Ac e nW);refine⟨_,rfl,_,rfl,λr dr nr ndr nrd=>?_⟩;have sr:Same H1 (upd (upd H1 dr (.own r)) r (.ins D dr [])):=λb o e=>by
  rw[Ae (Ac e nr),Ae (Ac e ndr)];exact e
 refine⟨r,dr,a,b,rfl,Ab,λet H2 k2 he hr'=>⟨rfl,?_⟩⟩;have s2:Same H1 H2:=λb o e=>k2 b o (sr b o e) (Ac e nr);refine⟨(et,a,b),W,r,dr,z,as.map srt,rfl,hW.same s2,hr',he,⟨az,bz,ab⟩,z1,z10,by rw[bl];exact B.a12,XC B.ok,Ik B.ok,λp af hd H3 s3 hV cn ld r4=>?_⟩;rw[bl] at hV cn ld;refine⟨p,_,hd,af,rfl,hV,cn.least.ok,cn.knot,B.a12,r4,λL ys H4 s4 nL eL pL=>?_⟩;have pH:=s1.trans (s2.trans s3);refine q L _ H4 (pH.trans s4) ?_ ⟨ys,qX eL,Kg pL⟩ (ZP cn ld);cases e:H L with
 | none=>rfl
 | some o=>rw[pH _ _ e] at nL;cases nL
theorem rise_ext{s u:qE}(hs:s.Pairwise (· < ·))(hu:u.Pairwise (· < ·))(h:∀x,x∈s↔x∈u):s=u:=by
 have im:∀{l:qE},l.Pairwise (· < ·)->(l.map λ(x:Nat)=>(x:Int)).Pairwise (· < ·):=λh=>B5.mpr (h.imp λh=>Rc.mpr h);have e:=L2.XS (im hs) (im hu) λx=>⟨λhx=>by
  obtain⟨y,hy,rfl⟩:=AY.mp hx;exact AY.mpr ⟨y,(h y).mp hy,rfl⟩,λhx=>by
  obtain⟨y,hy,rfl⟩:=AY.mp hx;exact AY.mpr ⟨y,(h y).mpr hy,rfl⟩⟩
 exact List.map_inj_right (λ_ _ h=>M7 h)|>.mp e
theorem Hj[DecidableEq α]{l m:List α}(hl:l.Nodup)(hm:m.Nodup)(h:∀x,x∈l↔x∈m):l.Perm m:=by
 rw[List.perm_iff_count];intro a;rw[hl.count,hm.count];by_cases c:a∈l
 .rw[p6 c,p6 ((h a).mp c)]
 .rw[pZ c,pZ λz=>c ((h a).mpr z)]
theorem Sol.nd{A:qE->Prop}(h:Sol n A ss):ss.Nodup:=h.ord.imp λ{a b} l e=>by rw[e] at l;exact EF _ l
theorem Sol.uniq{A:qE->Prop}{uu:List qE}(h:Sol n A ss)(g:Sol n A uu):ss=uu:=by
 have p:=Hj h.nd g.nd λs=>(h.mem s).trans (g.mem s).symm;exact p.eq_of_pairwise (λa b _ _ h1 h2=>qB h1 (Nat.lt_asymm h2)) h.ord g.ord
theorem insR{k:Nat}{t:qE}(kn:k<n)(pw:t.Pairwise (· < ·))(lt:∀x∈t,x<n):∃s:qE,s.Pairwise (· < ·)/\(∀x∈s,x<n)/\∀x,x∈s↔x=k\/x∈t :=
 ⟨(
  AO n).filter λx=>decide (x=k\/x∈t),O5.filter _,λx hx=>AV.mp (BV.mp hx).1,λx=>by
  rw[BV,AV,decide_eq_true_iff];exact⟨λh=>h.2,λh=>⟨h.elim (λe=>e ▸ kn) (lt x),h⟩⟩⟩
abbrev cutS(k:Nat)(s:qE):qE:=s.filter λx=>decide (x≠k)
theorem Dt{k x:Nat}{s:qE}:x∈cutS k s↔x∈s/\x≠k:=by rw[BV,decide_eq_true_iff]
theorem Ol{s:qE}(h:s.Pairwise (· < ·)):s.Nodup:=h.imp λh=>BM h
theorem Ks{k:Nat}{s:qE}(pw:s.Pairwise (· < ·))(h:k∈s):s.Perm (k::cutS k s) :=
 Hj (Ol pw) (Ex.mpr ⟨λc=>(Dt.mp c).2 rfl,(Ol pw).filter _⟩) λx=>by
  rw[BF,Dt];by_cases e:x=k
  .subst e;exact⟨λ_=>.inl rfl,λ_=>h⟩
  .exact⟨λhx=>.inr ⟨hx,e⟩,λhx=>(hx.resolve_left e).1⟩
theorem AEz(ok:OkTies (z:Int) as){s:qE}(lt:∀x∈s,x<as.length):∀e∈edg (as.map srt) s,e.1≠e.2:=λe he=>by
 obtain⟨x,hx,rfl⟩:=AY.mp he;exact Ik ok x (by rw[AB];exact lt x hx)
theorem Ie(ok:OkTies (z:Int) as){k a b:Nat}(hk:as[k]?=pX [(a:Int),(b:Int)])(ab:a≠b){s t:qE}(lt:∀x∈s,x<as.length)(p:s.Perm (k::t)):RingS z as [] s↔RingS z as [(a,b)] t:=by
 have ne:=AEz ok lt;have pe:(edg (as.map srt) s).Perm ((ea (as.map srt) k,eb (as.map srt) k)::edg (as.map srt) t):=p.map _;have ne2:∀e∈(ea (as.map srt) k,eb (as.map srt) k)::edg (as.map srt) t,e.1≠e.2:=λe he=>ne e (pe.mem_iff.mpr he);have sw:acc z (idF z) ((ea (as.map srt) k,eb (as.map srt) k)::edg (as.map srt) t)↔acc z (idF z) ((a,b)::edg (as.map srt) t):=by
  rcases RJ hk with⟨e1,e2⟩| ⟨e1,e2⟩
  .rw[e1,e2]
  .rw[e1,e2]
   exact⟨Qy (idF_sym z) (CB ab),Qy (idF_sym z) ab⟩
 show acc z (idF z) (edg (as.map srt) s)↔acc z (idF z) ((a,b)::edg (as.map srt) t);rw[<- sw];exact⟨Ss pe (idF_sym z) (Qj z) ne,Ss pe.symm (idF_sym z) (Qj z) ne2⟩
theorem ZW{k:Nat}(hR:Sol as.length (RingS z as []) R):((R.filter λs=>decide (k∈s)).map (cutS k)).Nodup:=by
 unfold Ha;rw[B5];refine C8 (λ{s u} hs hu ne e=>ne ?_) (hR.nd.filter _);obtain⟨h1,h2⟩:=BV.mp hs;obtain⟨h3,h4⟩:=BV.mp hu;have h2:=qA h2;have h4:=qA h4;refine rise_ext ((hR.mem s).mp h1).1 ((hR.mem u).mp h3).1 λx=>?_;by_cases c:x=k
 .subst c;exact⟨λ_=>h4,λ_=>h2⟩
 .have m1:=Dt (k:=k) (x:=x) (s:=s)
  have m2:=Dt (k:=k) (x:=x) (s:=u);rw[show cutS k s=cutS k u from e] at m1;exact⟨λh=>(m2.mp (m1.mpr ⟨h,c⟩)).1,λh=>(m1.mp (m2.mpr ⟨h,c⟩)).1⟩
theorem AEx(ok:OkTies (z:Int) as){k a b:Nat}(hk:as[k]?=pX [(a:Int),(b:Int)])(ab:a≠b){W:List qE}(hR:Sol as.length (RingS z as []) R)(hW:Sol as.length (RingS z as [(a,b)]) W) :
  ((R.filter λs=>decide (k∈s)).map (cutS k)).Perm (W.filter λs=>decide (k∉s)):=by
 have kn:=(AF.mp hk).1;refine Hj (ZW hR) (hW.nd.filter _) λt=>?_
 .rw[AY,BV,decide_eq_true_iff,hW.mem]
  constructor
  .rintro⟨s,hs,rfl⟩
   obtain⟨h1,h2⟩:=BV.mp hs;have h2:=qA h2;obtain⟨pw,lt,rg⟩:=(hR.mem s).mp h1;exact⟨⟨pw.filter _,λx hx=>lt x (Dt.mp hx).1,(Ie ok hk ab lt (Ks pw h2)).mp rg⟩,λc=>(Dt.mp c).2 rfl⟩
  .rintro⟨⟨pw,lt,rg⟩,nk⟩
   obtain⟨s,ps,ls,ms⟩:=insR kn pw lt;have ks:k∈s:=(ms k).mpr (.inl rfl);have ec:cutS k s=t:=rise_ext (ps.filter _) pw λx=>by
    rw[Dt,ms];by_cases c:x=k
    .subst c;exact⟨λh=>qB rfl h.2,λh=>qB h nk⟩
    .exact⟨λh=>h.1.resolve_left c,λh=>⟨.inr h,c⟩⟩
   have pp:=Ks ps ks;rw[ec] at pp;exact⟨s,BV.mpr ⟨(hR.mem s).mpr ⟨ps,ls,(Ie ok hk ab ls pp).mpr rg⟩,p7 ks⟩,ec⟩
def dnK(k x:Nat):Nat:=if k<x then x-1 else x
def upK(k x:Nat):Nat:=if x<k then x else x+1
theorem AFb(k x:Nat):dnK k (upK k x)=x:=by unfold dnK upK;split<;>split<;>lia
theorem AFt{k x:Nat}(h:x≠k):upK k (dnK k x)=x:=by unfold dnK upK;split<;>split<;>lia
theorem AFp(k x:Nat):upK k x≠k:=by unfold upK;split<;>lia
theorem AFx{k x y:Nat}(h:x<y)(hx:x≠k)(hy:y≠k):dnK k x<dnK k y:=by unfold dnK;split<;>split<;>lia
theorem AFO{k x y:Nat}(h:x<y):upK k x<upK k y:=by unfold upK;split<;>split<;>lia
theorem get_erase{l:List α}{k x:Nat}(h:x≠k):(l.eraseIdx k)[dnK k x]?=l[x]?:=by
 rw[List.getElem?_eraseIdx];unfold dnK;split<;>split<;>first| rfl| omega| (congr 1;lia)
theorem Uw{k x:Nat}(h:x≠k):ea ((as.eraseIdx k).map srt) (dnK k x)=ea (as.map srt) x/\eb ((as.eraseIdx k).map srt) (dnK k x)=eb (as.map srt) x:=by
 have e:((as.eraseIdx k).map srt).getD (dnK k x) []=(as.map srt).getD x []:=by
  rw[AD,AD,Bi,Bi,get_erase h]
 unfold ea eb;rw[e];exact⟨rfl,rfl⟩
theorem OD{k:Nat}{s:qE}(h:k∉s):edg ((as.eraseIdx k).map srt) (s.map (dnK k))=edg (as.map srt) s:=by
 unfold edg;rw[Ee];refine DJ λx hx=>?_;obtain⟨e1,e2⟩:=Uw (as:=as) (k:=k) (x:=x) λe=>h (e ▸ hx);show(_,_)=_;rw[e1,e2]
theorem Zm{k:Nat}(kn:k<as.length)(hR:Sol as.length (RingS z as []) R)(dC:Sol (as.eraseIdx k).length (RingS z (as.eraseIdx k) []) R') :
  R'.Perm ((R.filter λs=>decide (k∉s)).map (TZ (dnK k))):=by
 have le:(as.eraseIdx k).length=as.length-1:=J5 kn;refine Hj dC.nd ?_ λt=>?_
 .unfold Ha
  rw[B5];refine C8 (λ{s u} hs hu ne e=>ne ?_) (hR.nd.filter _);have h2:=qA (BV.mp hs).2;have h4:=qA (BV.mp hu).2;have back:∀{s:qE},k∉s->(s.map (dnK k)).map (upK k)=s:=λ{s} h=>by
   rw[Ee];exact(DJ (g:=id) λx hx=>AFt (k:=k) λe=>h (e ▸ hx)).trans (XO s)
  rw[<- back h2,<- back h4,e]
 .rw[dC.mem,AY]
  constructor
  .rintro⟨pw,lt,rg⟩
   have nk:k∉t.map (upK k):=λh=>by
    obtain⟨x,_,e⟩:=AY.mp h;exact AFp k x e
   have eb:(t.map (upK k)).map (dnK k)=t:=by
    rw[Ee];exact(DJ (g:=id) λx _=>AFb k x).trans (XO t)
   refine⟨t.map (upK k),BV.mpr ⟨(hR.mem _).mpr ⟨B5.mpr (pw.imp AFO),λx hx=>?_,?_⟩,p7 nk⟩,eb⟩
   .obtain⟨y,hy,rfl⟩:=AY.mp hx
    have:=lt y hy;unfold upK;split<;>lia
   .show acc z (idF z) (edg (as.map srt) (t.map (upK k)))
    rw[<- OD nk,eb];exact rg
  .rintro⟨s,hs,rfl⟩
   obtain⟨h1,h2⟩:=BV.mp hs;have nk:=qA h2;obtain⟨pw,lt,rg⟩:=(hR.mem s).mp h1;refine⟨B5.mpr (C8 (λ{x y} hx hy h=>AFx h (λe=>nk (e ▸ hx)) λe=>nk (e ▸ hy)) pw),λx hx=>?_,?_⟩
   .obtain⟨y,hy,rfl⟩:=AY.mp hx
    have:=lt y hy;have n:y≠k:=λe=>nk (e ▸ hy);unfold dnK;split<;>lia
   .show acc z (idF z) (edg ((as.eraseIdx k).map srt) (s.map (dnK k)))
    rw[OD nk];exact rg
theorem ends_app{u:qC}{x:Nat}(h:x<as.length):ea ((as++[u]).map srt) x=ea (as.map srt) x/\eb ((as++[u]).map srt) x=eb (as.map srt) x:=by
 have e:((as++[u]).map srt).getD x []=(as.map srt).getD x []:=by
  rw[AD,AD,BE,Bn (by rw[AB];exact h)]
 unfold ea eb;rw[e];exact⟨rfl,rfl⟩
theorem Jj{u:qC}{s:qE}(h:∀x∈s,x<as.length):edg ((as++[u]).map srt) s=edg (as.map srt) s:=by
 unfold edg;refine DJ λx hx=>?_;obtain⟨e1,e2⟩:=ends_app (u:=u) (h x hx);rw[e1,e2]
theorem ABa{a b:Nat}(ab:a≠b)(ok:OkTies (z:Int) (as++[[(a:Int),(b:Int)]])){W:List qE}(hR:Sol as.length (RingS z as []) R)(hW:Sol as.length (RingS z as [(a,b)]) W)
  (dC:Sol (as++[[(a:Int),(b:Int)]]).length (RingS z (as++[[(a:Int),(b:Int)]]) []) R'):R'.Perm (R++W.map (·++[as.length])):=by
 have ln:(as++[[(a:Int),(b:Int)]]).length=as.length+1:=by rw[Bz];rfl
 have hk:(as++[[(a:Int),(b:Int)]])[as.length]?=pX [(a:Int),(b:Int)]:=by rw[Cc (AH _),HH];rfl
 have out:∀{t:qE},(∀x∈t,x<as.length)->as.length∉t:=λh c=>EF _ (h _ c);refine Hj dC.nd (IS.mpr ⟨hR.nd,?_,λs hs u hu e=>?_⟩) λt=>?_
 .unfold Ha
  rw[B5];exact hW.nd.imp λne e=>ne (List.append_cancel_right e)
 .subst e
  obtain⟨v,hv,rfl⟩:=AY.mp hu;exact out ((hR.mem _).mp hs).2.1 (B4 _ (Cb.mpr rfl))
 .rw[dC.mem,Cf,AY]
  constructor
  .rintro⟨pw,lt,rg⟩
   by_cases c:as.length∈t
   .right
    have lc:∀x∈cutS as.length t,x<as.length:=λx hx=>by
     obtain⟨h1,h2⟩:=Dt.mp hx;have:=lt x h1;lia
    have et:cutS as.length t++[as.length]=t:=rise_ext (CD.mpr ⟨pw.filter _,FX ..,λx hx y hy=>by rw[Cb.mp hy];exact lc x hx⟩) pw λx=>by
     rw[Cf,Dt,Cb];by_cases e:x=as.length
     .subst e;exact⟨λ_=>c,λ_=>.inr rfl⟩
     .exact⟨λh=>(h.resolve_right e).1,λh=>.inl ⟨h,e⟩⟩
    have rw_:=(Ie ok hk ab lt (Ks pw c)).mp rg;refine⟨cutS as.length t,(hW.mem _).mpr ⟨pw.filter _,lc,?_⟩,et⟩;show acc z (idF z) ([(a,b)]++edg (as.map srt) (cutS as.length t));rw[<- Jj lc];exact rw_
   .left
    have lc:∀x∈t,x<as.length:=λx hx=>by
     have:=lt x hx;have:x≠as.length:=λe=>c (e ▸ hx);lia
    refine(hR.mem t).mpr ⟨pw,lc,?_⟩;show acc z (idF z) (edg (as.map srt) t);rw[<- Jj lc];exact rg
  .rintro(h| ⟨u,hu,rfl⟩)
   .obtain⟨pw,lt,rg⟩:=(hR.mem t).mp h
    refine⟨pw,λx hx=>by have:=lt x hx;lia,?_⟩;show acc z (idF z) (edg ((as++[[(a:Int),(b:Int)]]).map srt) t);rw[Jj lt];exact rg
   .obtain⟨pw,lt,rg⟩:=(hW.mem u).mp hu
    have lt':∀x∈u++[as.length],x<(as++[[(a:Int),(b:Int)]]).length:=λx hx=>by
     rw[ln];rcases Cf.mp hx with h| h
     .have:=lt x h;exact qw this
     .rw[Cb.mp h];exact rB
    refine⟨CD.mpr ⟨pw,FX ..,λx hx y hy=>by rw[Cb.mp hy];exact lt x hx⟩,lt',(Ie ok hk ab lt' (t:=u) ?_).mpr ?_⟩
    .exact FA
    .show acc z (idF z) ([(a,b)]++edg ((as++[[(a:Int),(b:Int)]]).map srt) u)
     rw[Jj lt];exact rg
end K33
namespace SB
open PySem PySem.W PyProof.Rows
theorem Qe(hu:A.units+3<Cn)(hl:s.heap.IsList l vs.toArray)(R:RowE prog w s.heap vs ks)(dA:ks.length<=10000)
  (q:∀(h':Heap) (D:Addr) (ko:List (qC×Addr)) (e:Nat),(∀b ob,s.heap.get? b=pX ob->h'.get? b=pX ob)->s.heap.objs.size<=D->h'.get? D=pX (C4 "list" (ko.map λx=>AW x.2).toArray e)->ko.Perm ks->(ko.map (·.1)).Pairwise (λa b=>HT.lexLt a b=true)->Q (.ref D) {s with heap:=h'}) :
  wpAny (AM prog w) A (call (.builtin "sorted") [.ref l]) Q E s:=by
 have lvs:vs.length=ks.length:=by rw[R.vals,AB]
 refine G9 S8 R7 R8 (Sa _) ?_;unfold N4;refine Ap (m:=UE "sorted" 1 1 _) (AC ?_);refine Ap (collect_list hl ?_ (by rw[EQ];exact wB lvs dA));refine Ap (K9 ?_ (by rw[EQ];exact wB lvs dA));have hsz:((s.heap.push (C4 "list" #[] 0)).update s.heap.objs.size (CU (·++vs.toArray))).objs.size=s.heap.objs.size+1:=by
  rw[TK,D5]
 have gp:(((s.heap.push (C4 "list" #[] 0)).update s.heap.objs.size (CU (·++vs.toArray))).push (C4 "list" vs.toArray 0)).get? (s.heap.objs.size+1)=pX (C4 "list" vs.toArray 0):=by
  rw[<- hsz];exact AS _ rfl
 have lT:∀b ob,s.heap.get? b=pX ob->(((s.heap.push (C4 "list" #[] 0)).update s.heap.objs.size (CU (·++vs.toArray))).push (C4 "list" vs.toArray 0)).get? b=pX ob:=λb ob e =>
  AG _ ((DZ _ _ (CB (BM (Be e)))).trans (AG _ e))
 show wpAny _ _ _ _ _ {s with heap:=((s.heap.push (C4 "list" #[] 0)).update s.heap.objs.size (CU (·++vs.toArray))).push (C4 "list" vs.toArray 0)};rw[hsz];have R1:RowE prog w (((s.heap.push (C4 "list" #[] 0)).update s.heap.objs.size (CU (·++vs.toArray))).push (C4 "list" vs.toArray 0)) vs ks:=Mw R λx hx o e=>lT _ o e;refine Ap (DC (Da Pl ⟨_,gp,rfl⟩ OK (Ky (s:={s with heap:=((s.heap.push (C4 "list" #[] 0)).update s.heap.objs.size (CU (·++vs.toArray))).push (C4 "list" vs.toArray 0)}) gp R1 (by lia) (by show A.units+1+1<Cn;lia) λp P1 P2=>⟨_,rfl,?_⟩) (Pm _)));refine AC ⟨_,rfl,?_⟩;obtain⟨e,he⟩:=sortedHeap_at (out:=JI (p.toList.map λi=>vs.getD i CY)) gp;have eo:(p.toList.map λi=>vs.getD i CY)=(p.toList.map λi=>ks.getD i ([],0)).map λx=>AW x.2:=by
  rw[Ee];refine DJ λi hi=>?_;have bh:i<ks.length:=AV.mp ((Gd P1).mem_iff.mp hi);rw[R.vals];simp[AD,bh]
 rw[eo] at he ⊢;have pk:(p.toList.map λi=>ks.getD i ([],0)).Perm ks:=by
  have z:=SB.Gf (l:=ks) (Gd P1);rw[SB.GD ([],0) λi hi=>AV.mp ((Gd P1).mem_iff.mp hi)] at z;exact z
 refine q _ (s.heap.objs.size+1) _ e (λb ob eb=>?_) (K3 _) he pk ?_
 .have hb:=Be eb
  rw[U9 (BM (FS hb)) (by rw[D5,hsz];exact FS (FS hb))];exact lT b ob eb
 .rw[Ee]
  refine Co.mpr λi j hi hj d5=>?_;have bh:i<p.size:=by simpa using hi
  have bj:j<p.size:=by simpa using hj
  have z:=P2 i j d5 (by rw[<- P1.size];exact bj);unfold ltK g at z;simpa [DI,bh,bj] using z
end SB
namespace L2
open PySem PySem.Spec PyProof.Rows
def ABs(K:Au):List V->Hp->VK->Prop:=λxs H Q=>∃(p:Addr) (ys:List V) (ds:qD),xs=[.ref p]/\SqL K H p ys/\A7 (rPair K H) ds ys/\ds.length<=10000/\ds.Nodup /\
 ∀(l:Addr) (zs:List V) (ms:qD),H l=none->ms.Perm ds->ms.Pairwise (λa b=>HT.lexLt a b=true)->A7 (rPair K H) ms zs->Q (.ref l) (upd H l (.lst zs))
theorem Ce(hu:X.A.units+3<Cn):CallR X (.builtin "sorted") (ABs X.K):=by
 intro ae s σ H xs us Q I r h;obtain⟨p,ys,ds,rfl,hq,pd,dA,nd,q⟩:=h;obtain⟨u,rfl,ru⟩:=r.one;cases ru;obtain⟨ah,rv,pl,hz⟩:=I.list hq;have keys:∀(ds:qD) (ys:List V) (ah:List As),A7 (rPair X.K H) ds ys->Vals ys ah->∃ks:List (qC×Addr),ks.map (·.1)=ds/\ah=ks.map (λx=>AW x.2)/\ys=ks.map (λx=>V.ref x.2)/\∀x∈ks,rPair X.K H x.1 (.ref x.2):=by
  intro ds ys ah p
  induction p generalizing ah with
  | nil=>intro v;cases v;exact⟨[],rfl,rfl,rfl,λ_ h=>by cases h⟩
  | cons h1 _ ih =>
   intro v;cases v with
   | cons r1 v =>
    obtain⟨ks,e1,e2,e3,e4⟩:=ih _ v;obtain⟨p,rfl,_⟩:=Bk h1;cases r1;exact⟨(_,p)::ks,by rw[BG,e1],by rw[BG,e2],by rw[BG,e3],λx hx=>by
     rcases BF.mp hx with rfl| hx
     .exact h1
     .exact e4 x hx⟩
 obtain⟨kd,e1,e2,e3,e4⟩:=keys ds ys ah pd rv;have lk:kd.length=ds.length:=by rw[<- e1,AB]
 have R:SB.RowE X.prog X.w s.heap ah kd:=by
  refine⟨e2,λx hx=>?_,by rw[e1];exact nd⟩;obtain⟨b,eb,hb⟩:=Bk (e4 x hx);cases eb;exact ik_ofB I hb
 refine SB.Qe hu pl.isList R (tm lk dA) λh' D ko e kp hD he pk so=>?_;have vl:∀l:List (qC×Addr),Vals (l.map λx=>V.ref x.2) (l.map λx=>AW x.2):=λl=>by
  induction l with
  | nil=>exact .nil
  | cons x r ih=>exact .cons rfl ih
 have pv:∀l:List (qC×Addr),(∀x∈l,x∈kd)->A7 (rPair X.K H) (l.map (·.1)) (l.map λx=>V.ref x.2):=λl=>by
  induction l with
  | nil=>exact λ_=>.nil
  | cons x r ih =>
   intro hh;exact .cons (e4 x (hh x AI)) (ih λy hy=>hh y (AJ _ hy))
 refine⟨.ref D,_,I.laid (o:=.lst (ko.map λx=>V.ref x.2)) (a:=D) (t':=s.toks) kp hD ⟨?_,_,e,vl ko,he⟩,rfl,q D _ (ko.map (·.1)) (I.hok.fresh hD) (e1 ▸ pk.map (·.1)) so (pv ko λx hx=>pk.mem_iff.mp hx)⟩;rw[AB,pk.length_eq,lk];exact BQ dA (show 10000<=sizeLine by decide)
end L2
namespace K33
open PySem L2 G
def Nf(st:Stmt):ES:=match st with
 | .Assign _ (.Call _ [.ListComp _ _ sc _] _ _) _=>sc
 | .Assign _ (.ListComp _ _ sc _) _=>sc
 | _=>Ag st
def relab(o sc:ES):ES:={sc with names:=sc.names.map λ(n,k)=>if(k==CF&&o.kind == .function&&o.names.lookup n==pX .cell) then(n,FU) else(n,k)}
theorem Ed(hK:X.K=K):CallR X (.type "tuple") (λxs H Q=>∃p ys,xs=[.ref p]/\((SqL K H p ys/\∀l,H l=none->Q (.ref l) (upd H l (.tup ys)))\/(SqT K H p ys/\Q (.ref p) H))):=by subst hK;exact Bt
theorem ABk(s:qE):(up s).map V.int=nI s:=by
 unfold nI up;rw[Ee];rfl
theorem JZ(s:qE)(k:Nat):nI (s++[k])=nI s++[.int (k:Int)]:=by
 unfold nI;rw[BE];rfl
theorem ADm{s:qE}(h:(nI s)[i]?=pX v):∃k,s[i]?=pX k/\v=.int (k:Int):=by
 unfold nI at h;rw[Bi] at h;cases e:s[i]? with
 | none=>rw[e] at h;cases h
 | some k=>rw[e] at h;exact⟨k,rfl,(A8 h).symm⟩
theorem Ow(s:qE):(nI s).all flatV=true:=by
 unfold nI;rw[EL];intro v hv;obtain⟨p,_,rfl⟩:=AY.mp hv;rfl
theorem VR(ks:qE)(k:Nat):inV (V.int (k:Int)) (nI ks)=decide (k∈ks):=by
 rw[<- ABk,Ey];refine decide_eq_decide.mpr ⟨λh=>?_,λh=>AY.mpr ⟨k,h,rfl⟩⟩;obtain⟨x,hx,e⟩:=AY.mp h;exact(M7 e) ▸ hx
theorem Sol.len{A:qE->Prop}(h:Sol n A ss)(pV:n<=12):ss.length<=4096:=by
 have nd:(ss.map (num n)).Nodup:=by
  unfold Ha;rw[B5];exact h.ord.imp λl=>BM l
 have z:=ST.Bb (l₁:=ss.map (num n)) (l₂:=AO (2 ^ n)) nd λx hx=>by
  obtain⟨s,hs,rfl⟩:=AY.mp hx;obtain⟨w1,w2,_⟩:=(h.mem s).mp hs;exact AV.mpr (QV (n:=n) (t:=0) w1 λx hx=>⟨BD _,w2 x hx⟩)
 rw[AB,B0] at z;have:2 ^ n<=2 ^ 12:=Hb (by decide) pV;lia
theorem Hs{s:qE}(h:s.Pairwise (· < ·))(hs:∀x∈s,x<n):s.length<=n:=by
 have z:=ST.Bb (l₁:=s) (l₂:=AO n) (Ol h) λx hx=>AV.mpr (hs x hx);rw[B0] at z;exact z
theorem Ob(h:ss.Nodup):(ss.map up).Nodup:=by
 unfold Ha;rw[B5];exact h.imp λn e=>n (ABH e)
theorem Tq{l m:qD}(hl:l.Pairwise λa b=>HT.lexLt a b=true)(hm:m.Pairwise λa b=>HT.lexLt a b=true)(p:l.Perm m):l=m :=
 p.eq_of_pairwise (λa b _ _ h1 h2=>by rw[ST.Ii h1] at h2;cases h2) hl hm
theorem Za(k:Nat)(s:qE)(x:Nat):cutS k (s++[x])=cutS k s++if x=k then [] else [x]:=by
 unfold cutS;rw[C3];by_cases e:x=k
 .rw[p6 e,EE (by simpa using e)]
  rfl
 .rw[pZ e,EV (by simpa using e)]
  rfl
theorem Im{p:α->Bool}{l:List α}{x:α}(h:l[i]?=pX x):(l.take (i+1)).filter p=(l.take i).filter p++if p x=true then [x] else []:=by
 rw[K33s.take_snoc h,C3];by_cases e:p x=true
 .rw[p6 e,EV e]
  rfl
 .rw[pZ e,EE e]
  rfl
theorem Xj{t:Addr}{s:qE}(h:SqT K H t (nI s)):rPair K H (up s) (.ref t):=⟨t,_,rfl,h,by rw[<- ABk];exact paired_ints _⟩
theorem Bu(e:TSm H H'){ds:qD}(h:A7 (rPair K H) ds ys):A7 (rPair K H') ds ys:=Paired.imp (λa b r=>Ak Ao _ _ a b e r) h
theorem Told.get(pR:A7 (rPair K H) (R.map up) ys)(hy:ys[i]?=pX y):∃(t:Addr) (s:qE),R[i]?=pX s/\y=.ref t/\SqT K H t (nI s):=by
 obtain⟨u,hu,ru⟩:=Paired.get pR hy;rw[Bi] at hu;cases e:R[i]? with
 | none=>rw[e] at hu;cases hu
 | some s =>
  rw[e] at hu;cases hu;obtain⟨t,rfl,ht⟩:=Bk ru;rw[ABk] at ht;exact⟨t,s,rfl,rfl,ht⟩
theorem AEn{k:Nat}(h1:k<=xs.length):cutV xs pY (pX (k:Int))=xs.take k:=by
 unfold cutV;rw[HT.Qn,HT.Wv,UV h1];simp
theorem ABh{k:Nat}(h1:k<=xs.length):cutV xs (pX (k:Int)) pY=xs.drop k:=by
 unfold cutV;rw[HT.Qn,HT.Wv,UV h1];exact K7 (by rw[F7];exact AH _)
theorem JR{α β:Type}{F:α->β->Prop}:∀{l₁:List α}{l₂:List β} (n:Nat),A7 F l₁ l₂->A7 F (l₁.take n) (l₂.take n)
 | _,_,0,_=>by simp;exact .nil
 | _,_,n+1,.nil=>.nil
 | _,_,n+1,.cons r t=>.cons r (JR n t)
theorem JL{α β:Type}{F:α->β->Prop}:∀{l₁:List α}{l₂:List β} (n:Nat),A7 F l₁ l₂->A7 F (l₁.drop n) (l₂.drop n)
 | _,_,0,h=>h
 | _,_,n+1,.nil=>.nil
 | _,_,n+1,.cons r t=>JL n t
theorem ZV{z:Int}(h:OkTies z as)(k:Nat):OkTies z (as.eraseIdx k):=⟨λt ht=>h.ok t (Op ht),h.nd.sublist ((List.eraseIdx_sublist ..).map srt)⟩
def Xa(K:Au):Sp:=λvs H Q _=>∃(l Lr:Addr) (z k:Nat) (as:qD) (R:List qE),vs=[.int (z:Int),.ref l,.ref Lr,.int (k:Int)]/\In K l z as H/\Told K H Lr R/\Sol as.length (RingS z as []) R/\k<as.length/\∀H',Same H H'->Q (.bl true) H'
abbrev byTieN:qM:=["_law_many","_law_rows_here","_law_rings_here","_law_tie","_law_one","_law_other","_law_cut","_law_ways_here","_law_left","_law_kept"]
theorem FZ:FnScope byTieN ["_law_many","_law_rows_here","_law_rings_here","_law_tie"] (Ag Dq):=fscp (by decide+kernel)
theorem ZX(F:Fun K "_law_by_tie" "_law_by_tie" Dq f fd)(T:Txt K mg C)
  (GR:Cal P w K mg base 19 fR gm "_law_rings" zl16 (Jh K))
  (GW:Cal P w K mg base 19 fW fdW "_law_ways" zl17 (Vd K)) :
  FnOk P w K mg base CX0 20 f fd zl29 (Xa K):=by
 refine F.ok FZ (λvs H Q E h=>?_) (λa6 A outer s H vs Q E hr h=>?_)
 .obtain⟨l,Lr,z,k,as,R,rfl,_⟩:=h
  rfl
 obtain⟨l,Lr,z,k,as,R,rfl,B,hT,hR,kn,q⟩:=h;have de:Room 19 _:=hr.mono (by decide);have hu:_+3<Cn:=Bp hr;refine⟨_,Af (Gu (Ay Cm (pv 1) (pv 3)) (PL rfl (Bo (Bf (i:=4) FZ.nd) (Bo (Bf (i:=5) FZ.nd) FN))))
  (Af (Am (i:=6) FZ.nd (Aw (Ce hu) rfl T.sorted DF (Aa (CP (Ag Dq) ["_law_some"] ["_law_tie"] [3] rfl rfl (by decide+kernel) ⟨⟨rfl,by decide+kernel⟩,trivial⟩ (CT (pv 2))
    (λ_ _ _=>BK (i:=0))
    (λ_ _ _=>Cd (Av (FP (K:=K) rfl) (pv 1) (pv 0) rfl))
    (λ_ _ _=>BX (Ed (K:=K) rfl) rfl T.tuple Db (Aa (CP (relab (Ag Dq) (Nf ((Cg Dq).getD 1 Dq))) ["_law_k"] ["_law_tie"] [1] rfl rfl (by decide+kernel) ⟨⟨rfl,by decide+kernel⟩,trivial⟩ (WL (K:=K) rfl (pv 0))
     (λ_ _ _=>BK (i:=0))
     (λ_ _ _=>Cd (Av ADb (pv 0) (pv 1))) (λ_ _ _=>pv 0)) Ad))) Ad)))
  (Af (Am (i:=7) FZ.nd (Aw (Ce hu) rfl T.sorted DF (Aa (CP (Ag Dq) ["_law_some"] ["_law_tie"] [3] rfl rfl (by decide+kernel) ⟨⟨rfl,by decide+kernel⟩,trivial⟩ (CT (Bd GW de rfl (Aa (pv 0) (Aa (pv 1) (Aa (pv 4) (Aa (pv 5) Ad))))))
    (λ_ _ _=>BK (i:=0))
    (λ_ _ _=>Cd (Av (Er (K:=K) rfl) (pv 1) (pv 0) rfl)) (λ_ _ _=>pv 0)) Ad)))
  (Af (CQ (Av (AAv (DR DX) (Bp hr)) (pv 6) (pv 7)) (Aj (Aq Oa)) BL)
  (Af (Am (i:=8) FZ.nd (Ar AFI (Lf Om (pv 1) Wb (Jb (pv 3))) (Lf Om (pv 1) (Jb (Ar CZ (pv 3) Ai)) Wb)))
  (Af (QG (i:=9) (Ag Dq) ["_law_some"] ["_law_tie"] [3] FZ.nd rfl (K1 rfl) rfl rfl (by decide+kernel) ⟨⟨rfl,by decide+kernel⟩,trivial⟩ (CT (pv 2))
    (λ_ _ _=>BK (i:=0))
    (λ_ _ _=>Cd (Av (Er (K:=K) rfl) (pv 1) (pv 0) rfl))
    (λ_ _ _=>BX (Ed (K:=K) rfl) rfl T.tuple Db (Aa (CP (relab (Ag Dq) (Nf ((Cg Dq).getD 5 Dq))) ["_law_k"] ["_law_tie"] [1] rfl rfl (by decide+kernel) ⟨⟨rfl,by decide+kernel⟩,trivial⟩ (WL (K:=K) rfl (pv 0))
     (λ_ _ _=>BK (i:=0))
     (λ_ _ _=>Ec) (λ_ _ _=>Ar Fv (pv 0) (BX Yy rfl T.int XU (Aa (Ej ABZ (pv 0) (pv 1)) Ad)))) Ad)))
  (Aj (Aq (Ej (Tw (DR DX) (Bp hr)) (Aw (Ce hu) rfl T.sorted DF (Aa (Bd GR de rfl (Aa (pv 0) (Aa (pv 8) Ad))) Ad)) (Aw (Ce hu) rfl T.sorted DF (Aa (pv 9) Ad)))))))))),?_⟩
 obtain⟨xs,hl,pl⟩:=B.tl;obtain⟨a,b,hk,az,bz,ab⟩:=WD B.ok kn;obtain⟨v,hv,rv⟩:=qV pl hk;obtain⟨tq,rfl,my⟩:=Bk rv;refine⟨_,rfl,_,rfl,l,_,_,_,rfl,rfl,hl,CN hv,tq,_,rfl,my,rfl,_,_,rfl,_,_,rfl,rfl,?_⟩;obtain⟨lw,kT,pR⟩:=id hT;have a12:=B.a12;have lR:=hR.len a12;have lp:=AT pR;rw[AB] at lp;refine⟨_,rfl,Lr,rfl,⟨_,kT⟩,λZ hZ=>?_⟩;refine CW (K:=K) (a:=Lr) (xs:=lw) (λi τ H2=>∃(o:Option V) (zs:List V),τ=[o,pX (.int (k:Int))]/\Same H H2/\H2 Z=pX (.lst zs)/\A7 (rPair K H2) ((((R.take i).filter λs=>decide (k∈s)).map (cutS k)).map up) zs) ⟨pY,[],rfl,qe hZ _,Ab,.nil⟩ (λi τ H2 _ ⟨_,_,_,sm,_⟩=>sm.seq kT) ?_ ?_
 .rintro i y τ H2 hy ⟨o,zs,rfl,s2,eZ,pz⟩
  obtain⟨t,s,hs,rfl,ht⟩:=Told.get (Bu s2.ts pR) hy;obtain⟨pw,lt,_⟩:=(hR.mem s).mp (By hs);have sl:=Hs pw lt;have il:=(AF.mp hs).1;have lz:=AT pz;have lf:=Ct (λs=>decide (k∈s)) (R.take i);rw[AB,AB] at lz;rw[BS] at lf;refine⟨_,rfl,_,rfl,t,_,rfl,.inr ht,rfl,Ow s,_,rfl,?_⟩;rw[pZ (show ¬ (false=true) by decide),VR];rw[Im hs];by_cases c:k∈s
  .refine iteP c ?_
   rw[p6 (p7 c)];refine⟨_,rfl,t,rfl,⟨_,ht⟩,λY hY=>?_⟩;refine Mt (K:=K) (a:=t) (xs:=nI s) (λj τ H3=>∃o:Option V,τ=[o,pX (.int (k:Int))]/\Same H2 H3/\H3 Y=pX (.lst (nI (cutS k (s.take j))))) ⟨pY,rfl,qe hY _,Ab⟩ (λj τ H3 _ ⟨_,_,s3,_⟩=>s3.ts.seq ht) ?_ ?_
   .rintro j v τ H3 hv ⟨o,rfl,s3,eY⟩
    obtain⟨x,hx,rfl⟩:=ADm hv;have jl:=(AF.mp hx).1;have lc:(cutS k (s.take j)).length<=12:=BQ (Ct ..) (by rw[BS];lia);rw[K33s.take_snoc hx,Za];refine⟨_,rfl,_,rfl,rfl,_,rfl,?_⟩;by_cases e:x=k
    .refine iteNP (congrArg V.int (by rw[e])) ⟨_,rfl,s3,?_⟩
     rw[p6 e,B3];exact eY
    .refine iteNN (λz=>e (by injection z with z;exact qk z)) ⟨_,rfl,_,eY,BZ (by rw[Ep];exact tY lc),_,rfl,λb o e'=>?_,?_⟩
     .rw[Ae (Ac e' hY)]
      exact s3 b o e'
     .rw[Ab,pZ e,JZ]
   .rintro τ H3 ⟨o,rfl,s3,eY⟩
    rw[Ep,CI] at eY;refine⟨Y,_,rfl,.inl ⟨qX eY,λt1 e7=>?_⟩⟩;have s4:=s3.trans (qe e7 (.tup (nI (cutS k s))));have n5:=s4 _ _ eZ;have ts:TSm _ (upd (upd H3 t1 (.tup (nI (cutS k s)))) Z (.lst (zs++[V.ref t1]))):=qd n5;refine⟨zs,n5,C1 (show zs.length<=10000 from uj lz lf lR) (by decide),_,_,rfl,λb o e=>?_,Ab,?_⟩
    .rw[Ae (Ac e hZ)]
     exact s4 _ _ (s2 b o e)
    .rw[BE,BE]
     exact Paired.app (Bu (s4.ts.trans ts) pz) (qc (Xj (ts.seq (qY Ab))))
  .refine iteN c ⟨_,zs,rfl,s2,eZ,?_⟩
   rw[pZ (by simpa using c),B3];exact pz
 rintro τ H1 ⟨o,zs,rfl,s1,eZ,pz⟩;rw[<- lp,CI] at pz;have lz1:(((R.filter λs=>decide (k∈s)).map (cutS k)).map up).length<=10000:=by
  rw[AB,AB];exact BQ (Ct ..) (rW lR)
 refine⟨Z,zs,_,rfl,qX eZ,pz,lz1,Ob (ZW hR),λL1 og oK mw pm1 so1 pz1=>?_⟩;have sA:=s1.trans (qe mw (.lst og));have eL1:(upd H1 L1 (.lst og)) L1=pX (.lst og):=Ab;have pzA:=Bu (qe mw (.lst og)).ts pz1;generalize upd H1 L1 (.lst og)=HA at sA eL1 pzA;refine⟨_,rfl,_,rfl,_,rfl,_,rfl,l,z,a,b,as,rfl,B.same sA,az,bz,ab,λLw W HB sB nLw hTW hW=>?_⟩;obtain⟨yw,nX,pW⟩:=hTW;have lW:=hW.len a12;have nQ:=AT pW;rw[AB] at nQ;refine⟨Lw,rfl,⟨_,nX⟩,λZ2 hZ2=>?_⟩;refine CW (K:=K) (a:=Lw) (xs:=yw) (λi τ H2=>∃(o:Option V) (zs:List V),τ=[o,pX (.int (k:Int))]/\Same HB H2/\H2 Z2=pX (.lst zs)/\A7 (rPair K H2) (((W.take i).filter λs=>decide (k∉s)).map up) zs) ⟨pY,[],rfl,qe hZ2 _,Ab,.nil⟩ (λi τ H2 _ ⟨_,_,_,sm,_⟩=>sm.seq nX) ?_ ?_
 .rintro i y τ H2 hy ⟨o,zs,rfl,s2,eZ,pz⟩
  obtain⟨t,s,hs,rfl,ht⟩:=Told.get (Bu s2.ts pW) hy;have il:=(AF.mp hs).1;have lz:=AT pz;have lf:=Ct (λs=>decide (k∉s)) (W.take i);rw[AB] at lz;rw[BS] at lf;refine⟨_,rfl,_,rfl,t,_,rfl,.inr ht,rfl,Ow s,_,rfl,?_⟩;rw[p6 (show true=true from rfl),VR];rw[Im hs];by_cases c:k∈s
  .refine iteNP c ⟨_,zs,rfl,s2,eZ,?_⟩
   rw[pZ (by simpa using c),B3];exact pz
  .refine iteNN c ⟨_,rfl,zs,eZ,C1 (show zs.length<=10000 from uj lz lf lW) (by decide),_,_,rfl,λb o e=>?_,Ab,?_⟩
   .rw[Ae (Ac e hZ2)]
    exact s2 b o e
   .have ts:TSm _ (upd H2 Z2 (.lst (zs++[V.ref t]))):=qd eZ
    rw[p6 (p7 c),BE];exact Paired.app (Bu ts pz) (qc (Xj (ts.seq ht)))
 rintro τ HC ⟨o,zs2,rfl,sC,eZ2,pz2⟩;rw[<- nQ,CI] at pz2;refine⟨Z2,zs2,_,rfl,qX eZ2,pz2,by rw[AB];exact BQ (Ct ..) (rW lW),Ob (hW.nd.filter _),λL2 zs3 ms2 mO pm2 so2 pz3=>?_⟩;have sD:=sB.trans (sC.trans (qe mO (.lst zs3)));have em:oK=ms2:=Tq so1 so2 (pm1.trans (((AEx B.ok hk ab hR hW).map up).trans pm2.symm));subst em;have eL1':=sD _ _ eL1;refine⟨_,rfl,_,rfl,oK,oK,⟨L1,_,rfl,qX eL1',Bu sD.ts pzA⟩,⟨L2,_,rfl,qX Ab,Bu (qe mO (.lst zs3)).ts pz3⟩,_,rfl,?_⟩;rw[p7 (rfl:oK=oK)];refine iteF ?_;have s0D:=sA.trans sD;generalize upd HC L2 (.lst zs3)=HD at sD s0D;have lx:=AT pl;refine⟨_,rfl,_,rfl,_,rfl,l,xs,rfl,s0D.seq hl,λA1 hA1=>?_⟩;rw[AEn (by lia)];have sE:=s0D.trans (qe hA1 (.lst (xs.take k)));refine⟨_,rfl,_,rfl,_,_,rfl,rfl,_,rfl,l,xs,rfl,sE.seq hl,λA2 hA2=>?_⟩;have ek:(k:Int)+1=((k+1:Nat):Int):=u6;have ec:cutV xs (pX ((k:Int)+1)) pY=xs.drop (k+1):=by rw[ek];exact ABh (by lia)
 dsimp only;rw[ec];have sF:=qe hA2 (.lst (xs.drop (k+1)));have eA1:=sF _ _ (Ab (H:=HD) (a:=A1) (o:=.lst (xs.take k)));refine⟨A1,A2,_,_,rfl,rfl,eA1,Ab,BQ (show _<=1000 by rw[BS,F7];lia) (by decide),λLl hLl=>?_⟩;have sG:=sE.trans (sF.trans (qe hLl (.lst (xs.take k++xs.drop (k+1)))));have eLl:SqL K _ Ll (xs.take k++xs.drop (k+1)):=qX (Ab (H:=upd (upd HD A1 (.lst (xs.take k))) A2 (.lst (xs.drop (k+1)))) (a:=Ll) (o:=.lst (xs.take k++xs.drop (k+1))));generalize upd (upd (upd HD A1 (.lst (xs.take k))) A2 (.lst (xs.drop (k+1)))) Ll (.lst (xs.take k++xs.drop (k+1)))=HG at sG eLl;have tlG:TlAt K HG Ll (as.eraseIdx k):=⟨_,eLl,by
  rw[List.eraseIdx_eq_take_drop_succ];exact Paired.app (JR k (Bu sG.ts pl)) (JL (k+1) (Bu sG.ts pl))⟩
 refine⟨_,rfl,Lr,rfl,⟨_,sG.seq kT⟩,λZ3 hZ3=>?_⟩;refine CW (K:=K) (a:=Lr) (xs:=lw) (λi τ H2=>∃(o:Option V) (zs:List V),τ=[o,pX (.int (k:Int))]/\Same HG H2/\H2 Z3=pX (.lst zs)/\A7 (rPair K H2) ((((R.take i).filter λs=>decide (k∉s)).map (TZ (dnK k))).map up) zs) ⟨pY,[],rfl,qe hZ3 _,Ab,.nil⟩ (λi τ H2 _ ⟨_,_,_,sm,_⟩=>(sG.trans sm).seq kT) ?_ ?_
 .rintro i y τ H2 hy ⟨o,zs,rfl,s2,eZ,pz⟩
  obtain⟨t,s,hs,rfl,ht⟩:=Told.get (Bu (sG.trans s2).ts pR) hy;obtain⟨pw,lt,_⟩:=(hR.mem s).mp (By hs);have sl:=Hs pw lt;have il:=(AF.mp hs).1;have lz:=AT pz;have lf:=Ct (λs=>decide (k∉s)) (R.take i);rw[AB,AB] at lz;rw[BS] at lf;refine⟨_,rfl,_,rfl,t,_,rfl,.inr ht,rfl,Ow s,_,rfl,?_⟩;rw[p6 (show true=true from rfl),VR];rw[Im hs];by_cases c:k∈s
  .refine iteNP c ⟨_,zs,rfl,s2,eZ,?_⟩
   rw[pZ (by simpa using c),B3];exact pz
  .refine iteNN c ?_
   rw[p6 (p7 c)];refine⟨_,rfl,t,rfl,⟨_,ht⟩,λY hY=>?_⟩;refine Mt (K:=K) (a:=t) (xs:=nI s) (λj τ H3=>∃o:Option V,τ=[o,pX (.int (k:Int))]/\Same H2 H3/\H3 Y=pX (.lst (nI ((s.take j).map (dnK k))))) ⟨pY,rfl,qe hY _,Ab⟩ (λj τ H3 _ ⟨_,_,s3,_⟩=>s3.ts.seq ht) ?_ ?_
   .rintro j v τ H3 hv ⟨o,rfl,s3,eY⟩
    obtain⟨x,hx,rfl⟩:=ADm hv;have jl:=(AF.mp hx).1;refine yesN ⟨_,rfl,_,rfl,_,rfl,_,_,rfl,rfl,.inr ⟨_,rfl,_,_,rfl,rfl,?_⟩⟩;have ed:(x:Int)-(if decide ((k:Int)<(x:Int))=true then 1 else 0)=((dnK k x:Nat):Int):=by
     unfold dnK;by_cases c:k<x
     .rw[p6 (p7 (qO c)),p6 c];lia
     .rw[pZ (by simp;exact qf c),pZ c];lia
    show ∃ys,H3 Y=pX (.lst ys)/\ys.length<sizeLine/\∃o:Option V,_=[o,pX (V.int (k:Int))]/\Same H2 (upd H3 Y (.lst (ys++[V.int ((x:Int)-(if decide ((k:Int)<(x:Int))=true then 1 else 0))])))/\(upd H3 Y (.lst (ys++[V.int ((x:Int)-(if decide ((k:Int)<(x:Int))=true then 1 else 0))]))) Y=_;rw[ed];refine⟨_,eY,BZ (by rw[Ep,AB,BS];lia),_,rfl,λb o e'=>?_,?_⟩
    .rw[Ae (Ac e' hY)]
     exact s3 b o e'
    .rw[Ab,K33s.take_snoc hx,BE,BG,IX,JZ]
   .rintro τ H3 ⟨o,rfl,s3,eY⟩
    rw[Ep,CI] at eY;refine⟨Y,_,rfl,.inl ⟨qX eY,λt1 e7=>?_⟩⟩;have s4:=s3.trans (qe e7 (.tup (nI (s.map (dnK k)))));have n5:=s4 _ _ eZ;have ts:TSm _ (upd (upd H3 t1 (.tup (nI (s.map (dnK k))))) Z3 (.lst (zs++[V.ref t1]))):=qd n5;refine⟨zs,n5,C1 (show zs.length<=10000 from uj lz lf lR) (by decide),_,_,rfl,λb o e=>?_,Ab,?_⟩
    .rw[Ae (Ac e hZ3)]
     exact s4 _ _ (s2 b o e)
    .rw[BE,BE]
     exact Paired.app (Bu (s4.ts.trans ts) pz) (qc (Xj (ts.seq (qY Ab))))
 rintro τ HI ⟨o,zs4,rfl,sI,eZ3,pz4⟩;rw[<- lp,CI] at pz4;have le:(as.eraseIdx k).length=as.length-1:=J5 kn;refine⟨_,rfl,_,rfl,Ll,z,as.eraseIdx k,rfl,⟨tlG.same sI,ZV B.ok k,B.z1,B.z10,wg le a12⟩,λL5 R' HJ sJ nL5 hT5 dC=>?_⟩;obtain⟨y5,hL5,p5⟩:=hT5;have l5:=dC.len (wg le a12);have pm:=Zm kn hR dC;refine⟨L5,y5,_,rfl,hL5,p5,by rw[AB];exact rW l5,Ob dC.nd,λL6 zs6 ow hL6 pm6 so6 pz6=>?_⟩;have sK:=qe hL6 (.lst zs6);have sIK:=sJ.trans sK;refine⟨_,rfl,Z3,zs4,_,rfl,qX (sIK _ _ eZ3),Bu sIK.ts pz4,?_,Ob (pm.nodup_iff.mp dC.nd),λL7 zs7 ms7 hL7 pm7 so7 pz7=>?_⟩
 .rw[AB,AB]
  exact BQ (Ct ..) (rW lR)
 have em:ow=ms7:=Tq so6 so7 (pm6.trans ((pm.map up).trans pm7.symm));subst em;have sL:=qe hL7 (.lst zs7);refine⟨ow,ow,⟨L6,_,rfl,qX (sL _ _ Ab),Bu (sK.trans sL).ts pz6⟩,⟨L7,_,rfl,qX Ab,Bu sL.ts pz7⟩,?_⟩;rw[p7 (rfl:ow=ow)];exact q _ (sG.trans (sI.trans (sIK.trans sL)))
def Vv(K:Au):Sp:=λvs H Q _=>∃(l Lr:Addr) (z a b:Nat) (as:qD) (R:List qE),vs=[.int (z:Int),.ref l,.ref Lr,.int (a:Int),.int (b:Int)]/\In K l z as H/\Told K H Lr R/\Sol as.length (RingS z as []) R/\a<z/\b<z/\a≠b/\as.length<12/\[(a:Int),(b:Int)]∉as/\[(b:Int),(a:Int)]∉as/\∀H',Same H H'->Q (.bl true) H'
def Xb(K:Au):Sp:=λvs H Q _=>∃(l:Addr) (a b:Nat) (as:qD),vs=[.ref l,.int (a:Int),.int (b:Int)]/\TlAt K H l as/\∀(c:Bool) (H':Hp),Same H H'->(c=true↔([(a:Int),(b:Int)]∈as\/[(b:Int),(a:Int)]∈as))->Q (.bl c) H'
theorem ACn{a b:Nat}(h:OkTies (z:Int) as)(az:a<z)(bz:b<z)(ab:a≠b)(n1:[(a:Int),(b:Int)]∉as)(n2:[(b:Int),(a:Int)]∉as):OkTies (z:Int) (as++[[(a:Int),(b:Int)]]):=by
 refine⟨λt ht=>?_,?_⟩
 .rcases Cf.mp ht with h1| h1
  .exact h.ok t h1
  .rw[Cb.mp h1]
   exact⟨_,_,rfl,qo,qO az,qo,qO bz,by lia⟩
 .rw[BE]
  refine IS.mpr ⟨h.nd,by simp,λu hu v hv e=>?_⟩;have g9:v=srt [(a:Int),(b:Int)]:=by simpa using hv
  subst e;obtain⟨t,ht,e⟩:=AY.mp hu;obtain⟨x,y,rfl,x0,x1,y0,y1,ne⟩:=h.ok t ht;rw[g9,Cu,Cu] at e;split at e<;>split at e<;>injection e with e1 e2<;>injection e2 with e2 _<;>subst e1<;>subst e2
  .exact n1 ht
  .exact n2 ht
  .exact n2 ht
  .exact n1 ht
theorem ACq:FnScope zl18 zl18 (Ag Ve):=fscp (by decide+kernel)
theorem ABn(F:Fun K "_law_tied" "_law_tied" Ve f fd):FnOk P w K mg base CX0 1 f fd zl18 (Xb K):=by
 refine F.ok ACq (λvs H Q E h=>?_) (λa6 A outer s H vs Q E hr h=>?_)
 .obtain⟨l,a,b,as,rfl,_⟩:=h
  rfl
 obtain⟨l,a,b,as,rfl,⟨xs,hl,pl⟩,q⟩:=h;refine⟨_,Aj (Aq (AFi (Ej (VL (DR DX) (Bp hr)) (Br (Aa (pv 1) (Aa (pv 2) Ad))) (pv 0) rfl) (AFJ (Ej (VL (DR DX) (Bp hr)) (Br (Aa (pv 2) (Aa (pv 1) Ad))) (pv 0) rfl)))),?_⟩;refine⟨_,rfl,_,rfl,(by show 2<=sizeLine;decide),λt ht=>?_⟩;have s1:=qe ht (.tup [V.int (a:Int),V.int (b:Int)]);refine⟨_,rfl,_,as,⟨t,_,rfl,qY Ab,paired_ints [(a:Int),(b:Int)]⟩,.inl ⟨l,xs,rfl,s1.seq hl,Bu s1.ts pl⟩,_,rfl,?_⟩;rw[pZ (show ¬ (false=true) by decide)];by_cases c:[(a:Int),(b:Int)]∈as
 .exact iteP c (q true _ s1 ⟨λ_=>.inl c,λ_=>rfl⟩)
 refine iteN c ?_;refine⟨_,rfl,_,rfl,(by show 2<=sizeLine;decide),λt2 j3=>?_⟩;have s2:=s1.trans (qe j3 (.tup [V.int (b:Int),V.int (a:Int)]));refine⟨_,rfl,_,as,⟨t2,_,rfl,qY Ab,paired_ints [(b:Int),(a:Int)]⟩,.inl ⟨l,xs,rfl,s2.seq hl,Bu s2.ts pl⟩,?_⟩;rw[pZ (show ¬ (false=true) by decide)];exact q _ _ s2 ⟨λh=>.inr (by simpa using h),λh=>by simpa using(h.resolve_left c)⟩
theorem Qk:FnScope ["_law_many","_law_rows_here","_law_rings_here","_law_one","_law_other","_law_ways_here","_law_more"] zl28 (Ag Ph):=fscp (by decide+kernel)
theorem AAr(F:Fun K "_law_by_points" "_law_by_points" Ph f fd)(T:Txt K mg C)
  (GR:Cal P w K mg base 19 fR gm "_law_rings" zl16 (Jh K))
  (GW:Cal P w K mg base 19 fW fdW "_law_ways" zl17 (Vd K)) :
  FnOk P w K mg base CX0 20 f fd zl28 (Vv K):=by
 refine F.ok Qk (λvs H Q E h=>?_) (λa6 A outer s H vs Q E hr h=>?_)
 .obtain⟨l,Lr,z,a,b,as,R,rfl,_⟩:=h
  rfl
 obtain⟨l,Lr,z,a,b,as,R,rfl,B,hT,hR,az,bz,ab,n11,na,nb,q⟩:=h;have de:Room 19 _:=hr.mono (by decide);have hu:_+3<Cn:=Bp hr;refine⟨_,Af (Am (i:=5) Qk.nd (Bd GW de rfl (Aa (pv 0) (Aa (pv 1) (Aa (pv 3) (Aa (pv 4) Ad))))))
  (Af (Am (i:=6) Qk.nd (Bd GR de rfl (Aa (pv 0) (Aa (Ar Jc (pv 1) (Dm (Aa (Br (Aa (pv 3) (Aa (pv 4) Ad))) Ad))) Ad))))
  (Aj (Aq (Ej (Tw (DR DX) (Bp hr)) (Aw (Ce hu) rfl T.sorted DF (Aa (pv 6) Ad)) (Aw (Ce hu) rfl T.sorted DF (Aa (Ar Jc (pv 2)
   (CP (Ag Ph) ["_law_some"] ["_law_rows_here"] [1] rfl rfl (by decide+kernel) ⟨⟨rfl,by decide+kernel⟩,trivial⟩ (CT (pv 5))
    (λ_ _ _=>BK (i:=0)) (λ_ _ _=>Ec)
    (λ_ _ _=>Ar (K33s.Tf (K:=K) rfl) (pv 0) (Br (Aa (Aw (Ly (K:=K) rfl) rfl T.len DB (Aa (pv 1) Ad)) Ad))))) Ad)))))),?_⟩
 obtain⟨xs,hl,pl⟩:=B.tl;have lx:=AT pl;refine⟨_,rfl,_,rfl,_,rfl,_,rfl,l,z,a,b,as,rfl,B,az,bz,ab,λLw W H1 s1 nLw hTW hW=>?_⟩;obtain⟨yw,nX,pW⟩:=hTW;have lW:=hW.len B.a12;have nQ:=AT pW;rw[AB] at nQ;refine⟨_,rfl,_,rfl,_,rfl,_,rfl,(by show 2<=sizeLine;decide),λt ht=>⟨(by show 1<=sizeLine;decide),λA1 hA1=>?_⟩⟩;have s2:=(qe ht (.tup [V.int (a:Int),V.int (b:Int)])).trans (qe hA1 (.lst [V.ref t]));have et:(upd (upd H1 t (.tup [V.int (a:Int),V.int (b:Int)])) A1 (.lst [V.ref t])) t=pX (.tup [V.int (a:Int),V.int (b:Int)]):=qe hA1 _ _ _ Ab;have eA1:(upd (upd H1 t (.tup [V.int (a:Int),V.int (b:Int)])) A1 (.lst [V.ref t])) A1=pX (.lst [V.ref t]):=Ab;generalize upd (upd H1 t (.tup [V.int (a:Int),V.int (b:Int)])) A1 (.lst [V.ref t])=H2 at s2 et eA1;have s12:=s1.trans s2;refine⟨l,A1,_,_,rfl,rfl,s12.seq hl,qX eA1,BQ (show _<=1000 by show xs.length+1<=1000;lia) (by decide),λL3 hL3=>?_⟩;have s3:=qe hL3 (.lst (xs++[V.ref t]));have s13:=s12.trans s3;have tl3:TlAt K (upd H2 L3 (.lst (xs++[V.ref t]))) L3 (as++[[(a:Int),(b:Int)]]):=⟨_,qX Ab,Paired.app (Bu s13.ts pl) (qc (Ea (ns:=[(a:Int),(b:Int)]) (s3 _ _ et)))⟩;have okm:=ACn B.ok az bz ab na nb;refine⟨L3,z,as++[[(a:Int),(b:Int)]],rfl,⟨tl3,okm,B.z1,B.z10,by rw[Bz];show as.length+1<=12;exact n11⟩,λL4 R' H4 s4 nL4 hT4 dC=>?_⟩;obtain⟨y4,hL4,p4⟩:=hT4;have l4:=dC.len (by rw[Bz];show as.length+1<=12;exact n11);have s14:=s13.trans s4;refine⟨_,rfl,L4,y4,_,rfl,hL4,p4,by rw[AB];exact rW l4,Ob dC.nd,λL5 pC oZ hL5 pm5 so5 pz5=>?_⟩;have s5:=qe hL5 (.lst pC);have s15:=s14.trans s5;have s25:Same H1 (upd H4 L5 (.lst pC)):=s2.trans (s3.trans (s4.trans s5));have eL5:(upd H4 L5 (.lst pC)) L5=pX (.lst pC):=Ab;have pQ:=Bu s5.ts pz5;generalize upd H4 L5 (.lst pC)=H5 at s5 s15 s25 eL5 pQ;refine⟨_,rfl,_,rfl,Lw,rfl,⟨_,s25.seq nX⟩,λZ hZ=>?_⟩;refine CW (K:=K) (a:=Lw) (xs:=yw) (λi τ H6=>∃(o:Option V) (zs:List V),τ=[o,pX (.ref l)]/\Same H5 H6/\H6 Z=pX (.lst zs)/\A7 (rPair K H6) (((W.take i).map (·++[as.length])).map up) zs) ⟨pY,[],rfl,qe hZ _,Ab,.nil⟩ (λi τ H6 _ ⟨_,_,_,sm,_⟩=>(s25.trans sm).seq nX) ?_ ?_
 .rintro i y τ H6 hy ⟨o,zs,rfl,s6,eZ,pz⟩
  obtain⟨tw,s,hs,rfl,hts⟩:=Told.get (Bu (s25.trans s6).ts pW) hy;obtain⟨pw,lt,_⟩:=(hW.mem s).mp (By hs);have sl:=Hs pw lt;have il:=(AF.mp hs).1;have lz:=AT pz;rw[AB,AB,BS] at lz;refine yesN ⟨_,rfl,_,rfl,l,xs,rfl,.inl ((s15.trans s6).seq hl),(by show 1<=sizeLine;decide),λt1 e7=>?_⟩;have s7:=qe e7 (.tup [V.int ((xs.length:Nat):Int)]);have et1:(upd H6 t1 (.tup [V.int ((xs.length:Nat):Int)])) t1=pX (.tup [V.int ((xs.length:Nat):Int)]):=Ab;have fin:∀(c2:Addr) (H8:Hp),Same H6 H8->SqT K H8 c2 (nI (s++[as.length]))->∃ys,H8 Z=pX (.lst ys)/\ys.length<sizeLine/\∃(o:Option V) (zs:List V),[pX (V.ref tw),pX (V.ref l)]=[o,pX (V.ref l)]/\Same H5 (upd H8 Z (.lst (ys++[.ref c2])))/\(upd H8 Z (.lst (ys++[.ref c2]))) Z=pX (.lst zs)/\A7 (rPair K (upd H8 Z (.lst (ys++[.ref c2])))) (((W.take (i+1)).map (·++[as.length])).map up) zs:=λc2 H8 s8 h8=>by
   have eZ8:=s8 _ _ eZ;have ts:TSm _ (upd H8 Z (.lst (zs++[V.ref c2]))):=qd eZ8;refine⟨zs,eZ8,C1 (show zs.length<=10000 by lia) (by decide),_,_,rfl,λb o e=>?_,Ab,?_⟩
   .rw[Ae (Ac e hZ)]
    exact s8 _ _ (s6 b o e)
   .rw[K33s.take_snoc hs,BE,BE]
    exact Paired.app (Bu (s8.ts.trans ts) pz) (qc (Xj (ts.seq h8)))
  have en:nI s++[V.int ((xs.length:Nat):Int)]=nI (s++[as.length]):=by rw[JZ,lx]
  refine⟨tw,t1,_,_,rfl,rfl,s7.ts.seq hts,qY et1,BQ (show _<=100000 by rw[Ep];show s.length+1<=100000;lia) (by decide),λz0=>?_,λ_ z0=>(by cases z0),λ_ _ t2 j3=>?_⟩
  .refine fin t1 _ s7 (qY ?_)
   rw[et1,<- en,z0];rfl
  .refine fin t2 _ (s7.trans (qe j3 _)) (qY ?_)
   rw[Ab,en]
 rintro τ H6 ⟨o,zs,rfl,s6,eZ,pz⟩;rw[<- nQ,CI] at pz;obtain⟨lw,kT,pR⟩:=hT;have lR:=hR.len B.a12;have lp:=AT pR;rw[AB] at lp;have lz:=AT pz;rw[AB,AB] at lz;have s16:=s15.trans s6;refine⟨Lr,Z,_,_,rfl,rfl,s16.seq kT,qX eZ,BQ (show _<=100000 by lia) (by decide),λL7 hL7=>?_⟩;have s7:=qe hL7 (.lst (lw++zs));have pm:=ABa ab okm hR hW dC;have pr7:A7 (rPair K (upd H6 L7 (.lst (lw++zs)))) ((R++W.map (·++[as.length])).map up) (lw++zs):=by
  rw[BE];exact Paired.app (Bu (s16.trans s7).ts pR) (Bu s7.ts pz)
 refine⟨L7,_,_,rfl,qX Ab,pr7,?_,Ob (pm.nodup_iff.mp dC.nd),λL8 zs8 ms8 hL8 pm8 so8 pz8=>?_⟩
 .rw[AB,Bz,AB]
  lia
 have em:oZ=ms8:=Tq so5 so8 (pm5.trans ((pm.map up).trans pm8.symm));subst em;have s8:=qe hL8 (.lst zs8);have s58:=s6.trans (s7.trans s8);refine⟨oZ,oZ,⟨L5,_,rfl,qX (s58 _ _ eL5),Bu s58.ts pQ⟩,⟨L8,_,rfl,qX Ab,Bu s8.ts pz8⟩,?_⟩;rw[p7 (rfl:oZ=oZ)];exact q _ (s15.trans s58)
abbrev lawN:qM:=["_law_script","_law_many","_law_rows_here","_law_rings_here","_law_done","_law_cell","_law_one","_law_other","_law_case","_law_tie"]
theorem AAl{o r:Int}(z2:2<=z)(o0:0<=o)(oz:o<z)(r0:0<=r)(rz:r<(z:Int)-1):0<=(o+1+r)%(z:Int)/\(o+1+r)%(z:Int)<z/\(o+1+r)%(z:Int)≠o:=by
 have h1:=EI (o+1+r) (show(z:Int)≠0 from ww z2);have h2:=DA (o+1+r) (show(0:Int)<z from wx z2);refine⟨h1,h2,λe=>?_⟩;by_cases c:o+1+r<z
 .rw[S4 (by lia) c] at e
  lia
 .have e2:(o+1+r)%(z:Int)=o+1+r-z:=by
   rw[<- Int.sub_emod_right,S4 (by lia) (by lia)]
  lia
theorem ABm(ns:qC)(lo hi:Option Int):∃cs:qC,cutV (ns.map V.int) lo hi=cs.map V.int:=by
 unfold cutV;exact⟨(ns.drop (HT.sIx (ns.map V.int).length 0 lo)).take (HT.sIx (ns.map V.int).length (ns.map V.int).length hi-HT.sIx (ns.map V.int).length 0 lo),by rw[Q0,Q1]⟩
theorem int_at{cs:qC}(h:(cs.map V.int)[i]?=pX v):∃c,cs[i]?=pX c/\v=.int c:=by
 rw[Bi] at h;cases e:cs[i]? with
 | none=>rw[e] at h;cases h
 | some c=>rw[e] at h;exact⟨c,rfl,(A8 h).symm⟩
def pA(as:qD)(a b x:Nat):Bool:=decide ((a:Int)∈as.getD x [])&&decide ((b:Int)∈as.getD x [])
theorem ACj{a b:Nat}(h:[(a:Int),(b:Int)]∈as\/[(b:Int),(a:Int)]∈as):∃k ks,(AO as.length).filter (pA as a b)=k::ks/\k<as.length:=by
 obtain⟨x,hx,hp⟩:∃x,x<as.length/\pA as a b x=true:=by
  have go:∀{t:qC},t∈as->(a:Int)∈t->(b:Int)∈t->∃x,x<as.length/\pA as a b x=true:=λ{t} ht h1 h2=>by
   obtain⟨x,hx⟩:=List.getElem?_of_mem ht;refine⟨x,(AF.mp hx).1,?_⟩;have e:as.getD x []=t:=by rw[AD,hx];rfl
   unfold pA;rw[e,p7 h1,p7 h2];rfl
  rcases h with h| h
  .exact go h (by simp) (by simp)
  .exact go h (by simp) (by simp)
 have hm:x∈(AO as.length).filter (pA as a b):=BV.mpr ⟨AV.mpr hx,hp⟩;cases e:(AO as.length).filter (pA as a b) with
 | nil=>rw[e] at hm;cases hm
 | cons k ks =>
  have:k∈(AO as.length).filter (pA as a b):=by rw[e];exact AI ..
  exact⟨k,ks,rfl,AV.mp (BV.mp this).1⟩
theorem Gn:FnScope lawN ["_law_script"] (Ag Zi):=fscp (by decide+kernel)
theorem ADr{fV:Addr}{fdV:BI}(F:Fun K "law" "law" Zi f fd)(T:Txt K mg C)
  (GC:Cal P w K mg base 1 fC fdC "_law_at" zl15 (Zj K))
  (GV:Cal P w K mg base 3 fV fdV "_law_web" zl26 (AAb K))
  (GR:Cal P w K mg base 19 fR gm "_law_rings" zl16 (Jh K))
  (GB:Cal P w K mg base 20 fB mY "_law_by_tie" zl29 (Xa K))
  (GP:Cal P w K mg base 20 fP ft "_law_by_points" zl28 (Vv K))
  (GT:Cal P w K mg base 1 fT cS "_law_tied" zl18 (Xb K)) :
  FnOk P w K mg base CX0 21 f fd ["_law_script"] (Rp K):=by
 refine F.ok Gn (λvs H Q E h=>?_) (λa6 A outer s H vs Q E hr h=>?_)
 .obtain⟨a,ns,rfl,_⟩:=h
  rfl
 obtain⟨a,ns,rfl,hS,n63,q⟩:=h;have ce:Room 1 _:=hr.mono (by decide);have mW:Room 3 _:=hr.mono (by decide);have de:Room 19 _:=hr.mono (by decide);have oN:Room 20 _:=hr.mono (by decide);refine⟨_,Af (Gu (Bd GV mW rfl (Aa (Bd GC ce rfl (Aa (pv 0) (Aa Ai Ad))) Ad)) (PL rfl (Bo (Bf (i:=1) Gn.nd) (Bo (Bf (i:=2) Gn.nd) FN))))
  (Af (Am (i:=3) Gn.nd (Bd GR de rfl (Aa (pv 1) (Aa (pv 2) Ad))))
  (Af (Am (i:=4) Gn.nd (Dm Ad))
  (Af (En EB rfl (CT (Lf Om (pv 0) (Jb Ai) (Jb Ai))) (Bf (i:=5) Gn.nd)
   (Af (Am (i:=6) Gn.nd (Ar Cq (pv 5) (pv 1)))
   (Af (Am (i:=7) Gn.nd (Ar Cq (Ar CZ (Ar CZ (pv 6) Ai) (Ar Cq (Ar FW (pv 5) (pv 1)) (Ar Fv (pv 1) Ai))) (pv 1)))
   (Af (Am (i:=8) Gn.nd (Br (Aa (Aw (Xq rfl) rfl T.min XW (Aa (pv 6) (Aa (pv 7) Ad))) (Aa (Aw (Xl rfl) rfl T.max Pw (Aa (pv 6) (Aa (pv 7) Ad))) Ad))))
   (Aj (CQ (qS (Ox (Av (Xz (DR DX) (Bp hr)) (pv 8) (pv 4) rfl) (Je (Av Kf (Aw BJ rfl T.len DB (Aa (pv 4) Ad)) Ai))))
    (Af (DP (Js ED FF FG EY (pv 4) (Aa (pv 8) Ad)))
    (Aj (CQ (Il (Bd GT ce rfl (Aa (pv 2) (Aa (pv 6) (Aa (pv 7) Ad)))))
     (Af (Am (i:=9) Gn.nd (Ay Cm (CP (Ag Zi) ["_law_k"] ["_law_one","_law_other","_law_rows_here"] [6,7,2] rfl rfl (by decide+kernel) ⟨⟨rfl,by decide+kernel⟩,⟨rfl,by decide+kernel⟩,⟨rfl,by decide+kernel⟩,trivial⟩ (Dz rfl T.range (Aa (Aw BJ rfl T.len DB (Aa (pv 2) Ad)) Ad))
       (λ_ _ _=>BK (i:=0))
       (λ_ _ _=>Cd (qS (Ox (Av (FP (K:=K) rfl) (pv 1) (Ay (Qo (K:=K) rfl) (pv 3) (pv 0)) rfl) (Je (Av (FP (K:=K) rfl) (pv 2) (Ay (Qo (K:=K) rfl) (pv 3) (pv 0)) rfl)))))
       (λ_ _ _=>pv 0)) Ai))
     (Aj (CQ (AAg (Il (Bd GB oN rfl (Aa (pv 1) (Aa (pv 2) (Aa (pv 3) (Aa (pv 9) Ad))))))) (Aj (Aq Oa)) BL)))
     (Aj (CQ (qS (Ox (Av Kf (Aw BJ rfl T.len DB (Aa (pv 2) Ad)) Ai) (Je (AAg (Il (Bd GP oN rfl (Aa (pv 1) (Aa (pv 2) (Aa (pv 3) (Aa (pv 6) (Aa (pv 7) Ad))))))))))) (Aj (Aq Oa)) BL))))) BL))))))
  (Aj (Aq (Ej (Tw (DR DX) (Bp hr)) (Bd GR de rfl (Aa (pv 1) (Aa (pv 2) Ad))) (pv 3))))))),?_⟩
 refine⟨_,rfl,a,ns,0,rfl,hS,by lia,λc0=>⟨c0,rfl,λt l z as H1 s1 ht hT ok z2 z10 a12=>?_⟩⟩;refine⟨t,_,rfl,ht,rfl,_,_,rfl,_,_,rfl,rfl,?_⟩;have B1:In K l z as H1:=⟨hT,ok,sZ z2,z10,a12⟩;refine⟨_,rfl,_,rfl,l,z,as,rfl,B1,λLr R H2 s2 nLr hTr hR=>?_⟩;obtain⟨lw,kT,pR⟩:=id hTr;have B2:=B1.same s2;refine⟨BD _,λDn hDn=>?_⟩;have s3:=qe hDn (.lst []);have eD0:(upd H2 Dn (.lst [])) Dn=pX (.lst []):=Ab;generalize upd H2 Dn (.lst [])=H3 at s3 eD0;refine⟨_,rfl,_,rfl,_,rfl,a,_,rfl,(s1.trans (s2.trans s3)).seq hS,λSl hSl=>?_⟩;obtain⟨cs,ec⟩:=ABm ns (pX 1) (pX 63);rw[ec];have s4:=qe hSl (.lst (cs.map V.int));have eS0:(upd H3 Sl (.lst (cs.map V.int))) Sl=pX (.lst (cs.map V.int)):=Ab;have kK:=s4 _ _ eD0;have SD:Sl≠Dn:=λe=>by rw[e,eD0] at hSl;cases hSl
 have s24:=s3.trans s4;generalize upd H3 Sl (.lst (cs.map V.int))=H4 at s4 eS0 kK s24;refine⟨Sl,rfl,⟨_,qX eS0⟩,?_⟩;refine Eu (K:=K) (a:=Sl) (xs:=cs.map V.int) (λi σ HA=>∃(o5 o6 o7 o8 o9:Option V) (ds:qD) (ys:List V),σ=[pX (.ref a),pX (.int (z:Int)),pX (.ref l),pX (.ref Lr),pX (.ref Dn),o5,o6,o7,o8,o9]/\Same H2 HA/\HA Sl=pX (.lst (cs.map V.int))/\HA Dn=pX (.lst ys)/\A7 (rPair K HA) ds ys/\ds.length<=2) ⟨pY,pY,pY,pY,pY,[],[],rfl,s24,eS0,kK,.nil,by decide⟩ (λi σ HA _ ⟨_,_,_,_,_,_,_,_,_,e,_⟩=>qX e) ?_ ?_
 .rintro i v σ HA hv ⟨o5,o6,o7,o8,o9,ds,ys,rfl,sA,eS,eD,pd,dl⟩
  obtain⟨c,hc,rfl⟩:=int_at hv;have zp:(0:Int)<(z:Int):=wx z2;have o0:=EI c (show(z:Int)≠0 from ww z2);have oz:=DA c zp;have r0:=EI (c / (z:Int)) (show(z:Int)-1≠0 by lia);have rz:=DA (c / (z:Int)) (show(0:Int)<(z:Int)-1 from wz z2);obtain⟨y0,yz,yx⟩:=AAl z2 o0 oz r0 rz;refine⟨_,rfl,_,rfl,_,_,rfl,rfl,zp,?_⟩;refine⟨_,rfl,_,_,rfl,rfl,_,rfl,_,rfl,_,_,rfl,rfl,⟨zp,by lia⟩,_,rfl,_,_,rfl,rfl,_,_,rfl,rfl,(by show(0:Int)<(z:Int)-1;exact wz z2),_,_,rfl,rfl,_,rfl,_,_,rfl,rfl,zp,?_⟩;dsimp only;obtain⟨x,ex⟩:=Ic o0;rw[ex] at oz yx y0 yz ⊢;obtain⟨y,ey⟩:=Ic y0;rw[ey] at yz yx ⊢;have xz:x<z:=rX oz;have yz':y<z:=rX yz;have xy:x≠y:=λe=>yx (by rw[e]);refine⟨_,rfl,_,rfl,_,_,rfl,_,rfl,_,rfl,_,_,rfl,(by show 2<=sizeLine;decide),λt ht=>?_⟩;generalize (if(y:Int)<(x:Int) then(y:Int) else(x:Int))=m1;generalize (if(y:Int)>(x:Int) then(y:Int) else(x:Int))=m2;have s5:=qe ht (.tup [V.int m1,V.int m2]);have et:(upd HA t (.tup [V.int m1,V.int m2])) t=pX (.tup [V.int m1,V.int m2]):=Ab;have eS5:=s5 _ _ eS;have dm:=s5 _ _ eD;have m3:=Bu s5.ts pd;have sA5:=sA.trans s5;generalize upd HA t (.tup [V.int m1,V.int m2])=H5 at s5 et eS5 dm m3 sA5;have ly:=AT m3;refine⟨_,rfl,_,rfl,[m1,m2],ds,⟨t,_,rfl,qY et,paired_ints [m1,m2]⟩,.inl ⟨Dn,ys,rfl,qX dm,m3⟩,_,rfl,?_⟩;rw[p6 (show true=true from rfl)];have go:∀(HB:Hp) (o9:Option V) (ds:qD) (ys:List V),Same H2 HB->HB Sl=pX (.lst (cs.map V.int))->HB Dn=pX (.lst ys)->A7 (rPair K HB) ds ys->ds.length<=2->∃(o5 o6 o7 o8 o9':Option V) (ds:qD) (ys:List V),[pX (V.ref a),pX (.int (z:Int)),pX (.ref l),pX (.ref Lr),pX (.ref Dn),pX (.int c),pX (.int (x:Int)),pX (.int (y:Int)),pX (.ref t),o9]=[pX (.ref a),pX (.int (z:Int)),pX (.ref l),pX (.ref Lr),pX (.ref Dn),o5,o6,o7,o8,o9']/\Same H2 HB/\HB Sl=pX (.lst (cs.map V.int))/\HB Dn=pX (.lst ys)/\A7 (rPair K HB) ds ys/\ds.length<=2:=λHB o9 ds ys h1 h2 h3 h4 h5=>⟨_,_,_,_,_,ds,ys,rfl,h1,h2,h3,h4,h5⟩;refine ite2 (λ_=>?_) (λ_=>iteF (go _ _ ds ys sA5 eS5 dm m3 dl));refine⟨_,rfl,Dn,ys,rfl,.inl (qX dm),_,_,rfl,rfl,_,rfl,?_⟩;refine ite2 (λc2=>?_) (λ_=>go _ _ ds ys sA5 eS5 dm m3 dl);have c2':((ys.length:Nat):Int)<2:=qA c2;refine⟨_,rfl,.inl ⟨rfl,_,qX dm⟩,_,rfl,Dn,ys,_,rfl,rfl,dm,BZ (by lia),?_⟩;have l6:TSm H5 (upd H5 Dn (.lst (ys++[V.ref t]))):=qd dm;have s6:Same H2 (upd H5 Dn (.lst (ys++[V.ref t]))):=λb o e=>by
   rw[Ae (Ac e hDn)];exact sA5 b o e
  have mM:(upd H5 Dn (.lst (ys++[V.ref t]))) Sl=pX (.lst (cs.map V.int)):=by rw[Ae SD];exact eS5
  have f8:(upd H5 Dn (.lst (ys++[V.ref t]))) Dn=pX (.lst (ys++[V.ref t])):=Ab;have me:A7 (rPair K (upd H5 Dn (.lst (ys++[V.ref t])))) (ds++[[m1,m2]]) (ys++[V.ref t]):=Paired.app (Bu l6 m3) (qc ⟨t,_,rfl,l6.seq (qY et),paired_ints [m1,m2]⟩);have dl6:(ds++[[m1,m2]]).length<=2:=by rw[Bz];show ds.length+1<=2;lia
  generalize upd H5 Dn (.lst (ys++[V.ref t]))=H6 at l6 s6 mM f8 me;have fin:∀(HB:Hp) (o9:Option V),Same H6 HB->_:=λHB o9 sB=>go HB o9 (ds++[[m1,m2]]) (ys++[V.ref t]) (s6.trans sB) (sB _ _ mM) (sB _ _ f8) (Bu sB.ts me) dl6;have B6:=B2.same s6;have T6:=hTr.same s6;refine⟨_,rfl,_,rfl,_,rfl,l,x,y,as,rfl,B6.tl,λb H7 s7 hb=>⟨_,rfl,?_⟩⟩;have B7:=B6.same s7;have T7:=T6.same s7;obtain⟨xs,hl,pl⟩:=B7.tl;have lx:=AT pl;cases b with
  | true =>
   refine iteT ?_;obtain⟨k,ks,ek,kn⟩:=ACj (hb.mp rfl);refine⟨_,rfl,l,xs,rfl,.inl hl,_,rfl,by lia,by lia,λZ hZ=>?_⟩;refine Cp (lo:=0) (n:=((xs.length:Nat):Int).toNat) (λj τ H8=>∃o:Option V,τ=[o,pX (.int (x:Int)),pX (.int (y:Int)),pX (.ref l)]/\Same H7 H8/\H8 Z=pX (.lst (nI ((AO j).filter (pA as x y))))) ⟨pY,rfl,qe hZ _,Ab⟩ ?_ ?_
   .rintro j τ H8 hj ⟨o,rfl,s8,eZ⟩
    rw[CH] at hj;have ej:(0:Int)+j=(j:Int):=rC;rw[ej];have jn:j<as.length:=fv hj lx;obtain⟨v,hv,rv⟩:=qV pl (AL jn);obtain⟨tq,rfl,my⟩:=Bk rv;have eg:as.getD j []=as[j]:=by rw[AD,AL jn];rfl
    have lf:((AO j).filter (pA as x y)).length<=12:=BQ (Ct ..) (by rw[B0];lia);have es:(AO (j+1)).filter (pA as x y)=(AO j).filter (pA as x y)++if pA as x y j=true then [j] else []:=by
     rw[FH,C3];by_cases e:pA as x y j=true
     .rw[p6 e,EV e];rfl
     .rw[pZ e,EE e];rfl
    rw[es];have no:pA as x y j=false->∃o:Option V,[pX (V.int (j:Int)),pX (.int (x:Int)),pX (.int (y:Int)),pX (.ref l)]=[o,pX (.int (x:Int)),pX (.int (y:Int)),pX (.ref l)]/\Same H7 H8/\H8 Z=pX (.lst (nI ((AO j).filter (pA as x y)++if pA as x y j=true then [j] else []))):=λe=>⟨_,rfl,s8,by rw[e,pZ (by decide),B3];exact eZ⟩;refine⟨_,rfl,_,rfl,_,rfl,l,xs,_,_,rfl,rfl,s8.seq hl,CN hv,tq,_,rfl,.inr (s8.ts.seq my),rfl,K33s.Ij _,_,rfl,?_⟩;rw[pZ (show ¬ (false=true) by decide),Ey];by_cases c1:(x:Int)∈as[j]
    .refine iteP c1 ?_
     refine⟨_,rfl,_,rfl,_,rfl,l,xs,_,_,rfl,rfl,s8.seq hl,CN hv,tq,_,rfl,.inr (s8.ts.seq my),rfl,K33s.Ij _,_,rfl,?_⟩;rw[pZ (show ¬ (false=true) by decide),Ey];by_cases c3:(y:Int)∈as[j]
     .have e:pA as x y j=true:=by unfold pA;rw[eg,p7 c1,p7 c3];rfl
      refine iteP c3 ⟨_,rfl,_,eZ,BZ (by rw[Ep];exact tY lf),_,rfl,λb o e'=>?_,?_⟩
      .rw[Ae (Ac e' hZ)]
       exact s8 b o e'
      .rw[Ab,p6 e,JZ]
     .exact iteN c3 (no (by unfold pA;rw[eg,p8 c3,Pe]))
    .exact iteN c1 (no (by unfold pA;rw[eg,p8 c1,O9]))
   .rintro τ H8 ⟨o,rfl,s8,eZ⟩
    rw[CH,<- lx,ek] at eZ;refine⟨Z,_,_,_,rfl,rfl,qX eZ,(show atI (nI (k::ks)) ((0:Nat):Int)=pX (V.int (k:Int)) from CN rfl),?_⟩;have B8:=B7.same s8;refine⟨_,rfl,_,rfl,_,rfl,_,rfl,l,Lr,z,k,as,R,rfl,B8,T7.same s8,hR,kn,λH9 s9=>⟨true,rfl,iteF ?_⟩⟩;exact fin H9 _ (s7.trans (s8.trans s9))
  | false =>
   refine iteF ?_;refine⟨_,rfl,l,xs,rfl,.inl hl,_,_,rfl,rfl,_,rfl,?_⟩;refine ite2 (λc4=>?_) (λ_=>iteF (fin H7 _ s7));have c4':((xs.length:Nat):Int)<12:=qA c4;have nn:¬ ([(x:Int),(y:Int)]∈as\/[(y:Int),(x:Int)]∈as):=λh=>by cases hb.mpr h
   refine⟨_,rfl,_,rfl,_,rfl,_,rfl,_,rfl,l,Lr,z,x,y,as,R,rfl,B7,T7,hR,xz,yz',xy,by lia,λh=>nn (.inl h),λh=>nn (.inr h),λH9 s9=>⟨true,rfl,iteF ?_⟩⟩;exact fin H9 _ (s7.trans s9)
 .rintro σ HA ⟨o5,o6,o7,o8,o9,ds,ys,rfl,sA,eS,eD,pd,dl⟩
  have TA:=hTr.same sA;obtain⟨ya,hLa,pa⟩:=TA;refine⟨_,rfl,_,rfl,l,z,as,rfl,B2.same sA,λL9 R9 HB sB nL9 hT9 hR9=>?_⟩;have eR:R9=R:=hR9.uniq hR;subst eR;obtain⟨y9,hL9,p9⟩:=hT9;refine⟨_,rfl,_,_,⟨L9,y9,rfl,hL9,p9⟩,⟨Lr,ya,rfl,sB.seq hLa,Bu sB.ts pa⟩,?_⟩;rw[p7 rfl];exact q _
end K33
namespace L2
open PySem PySem.Spec PyProof.Rows
section
variable{p r s:Str}
theorem bn1(h:∀kV bg pm an a6 ct a,B kV bg pm an a6 ct [a]=pure [(p,a)])(kV bg pm:As)(an:Option Addr)(a6 ct:As)(us:List As)(hl:us.length=([p]:qM).length):B kV bg pm an a6 ct us=pure (([p]:qM).zip us):=by
 match us,hl with
 | [a],_=>exact h ..
theorem bn2(h:∀kV bg pm an a6 ct a b,B kV bg pm an a6 ct [a,b]=pure [(p,a),(q,b)])(kV bg pm:As)(an:Option Addr)(a6 ct:As)(us:List As)(hl:us.length=([p,q]:qM).length):B kV bg pm an a6 ct us=pure (([p,q]:qM).zip us):=by
 match us,hl with
 | [a,b],_=>exact h ..
theorem bn3(h:∀kV bg pm an a6 ct a b c,B kV bg pm an a6 ct [a,b,c]=pure [(p,a),(q,b),(r,c)])(kV bg pm:As)(an:Option Addr)(a6 ct:As)(us:List As)(hl:us.length=([p,q,r]:qM).length):B kV bg pm an a6 ct us=pure (([p,q,r]:qM).zip us):=by
 match us,hl with
 | [a,b,c],_=>exact h ..
theorem bn4(h:∀kV bg pm an a6 ct a b c d,B kV bg pm an a6 ct [a,b,c,d]=pure [(p,a),(q,b),(r,c),(s,d)])(kV bg pm:As)(an:Option Addr)(a6 ct:As)(us:List As)(hl:us.length=([p,q,r,s]:qM).length):B kV bg pm an a6 ct us=pure (([p,q,r,s]:qM).zip us):=by
 match us,hl with
 | [a,b,c,d],_=>exact h ..
end
section
variable{st:Stmt}
theorem bn5{p r s o:Str}(h:∀kV bg pm an a6 ct a b c d e,B kV bg pm an a6 ct [a,b,c,d,e]=pure [(p,a),(q,b),(r,c),(s,d),(o,e)])(kV bg pm:As)(an:Option Addr)(a6 ct:As)(us:List As)(hl:us.length=([p,q,r,s,o]:qM).length):B kV bg pm an a6 ct us=pure (([p,q,r,s,o]:qM).zip us):=by
 match us,hl with
 | [a,b,c,d,e],_=>exact h ..
inductive Df (K:Au) (x:Str) (st:Stmt):Prop
 | mk (f:Addr) (od an:Option Addr) (sl:Array (Option As)) (oc kV dc pm cd ct:As) (a:GO K C6 x=pX (pX (.ref f))) (l:K.lookup f=pX ⟨oc,od,.func (EK x x (Dd st) (Cg st) (Ag st) .none kV dc pm an cd ct),sl⟩) (c:Hd K cd x=true) (k:C9 K (.ref f)=true):Df K x st
inductive Md (K:Au) (C:Addr) (x q:Str) (st:Stmt):Prop
 | mk (f:Addr) (od an:Option Addr) (sl:Array (Option As)) (oc kV dc pm cd ct:As) (a:C0 K (.ref C) x=pX (pX (.ref f))) (i:LL K (.ref f)=true) (l:K.lookup f=pX ⟨oc,od,.func (EK x q (Dd st) (Cg st) (Ag st) .none kV dc pm an cd ct),sl⟩) (c:Hd K cd q=true) (k:C9 K (.ref f)=true):Md K C x q st
inductive DfO (K:Au) (mg:Str->Option As) (x:Str) (st:Stmt) (ps:qM):Prop
 | mk (f:Addr) (fd:BI) (F:Fun K x x st f fd) (b:Binds K fd ps []) (m:mg x=pX (.ref f)) (k:C9 K (.ref f)=true):DfO K mg x st ps
inductive MdO (K:Au) (C:Addr) (x q:Str) (st:Stmt) (ps:qM):Prop
 | mk (f:Addr) (fd:BI) (F:Fun K x q st f fd) (b:Binds K fd ps []) (m:Meth K C x f):MdO K C x q st ps
theorem Df.get(D:Df K x st)(X:K.In h)(G:h.Ns C6 mg)(hb:∀(kV bg pm:As) (an:Option Addr) (a6 ct:As) (us:List As),us.length=ps.length->TC (EK x x (Dd st) (Cg st) (Ag st) .none kV bg pm an a6 ct) ⟨us,[]⟩=pure (ps.zip us)):DfO K mg x st ps:=by
 cases D with
 | mk f od an sl oc kV dc pm cd ct a l c k=>exact⟨f,_,Kw l c k,(Kw l c k).binds hb,E9 X G a,k⟩
theorem Md.get(D:Md K C x q st)(hb:∀(kV bg pm:As) (an:Option Addr) (a6 ct:As) (us:List As),us.length=ps.length->TC (EK x q (Dd st) (Cg st) (Ag st) .none kV bg pm an a6 ct) ⟨us,[]⟩=pure (ps.zip us)):MdO K C x q st ps:=by
 cases D with
 | mk f od an sl oc kV dc pm cd ct a i l c k=>exact⟨f,_,Kw l c k,(Kw l c k).binds hb,⟨a,i,k⟩⟩
theorem Df.of{kV:As}(a:GO K C6 x=pX (pX (.ref f)))(l:K.lookup f=pX ⟨oc,od,.func (EK x x (Dd st) (Cg st) (Ag st) .none kV dc pm an cd ct),sl⟩)(c:Hd K cd x=true)(k:C9 K (.ref f)=true):Df K x st:=⟨f,od,an,sl,oc,kV,dc,pm,cd,ct,a,l,c,k⟩
theorem Md.of{kV:As}(a:C0 K (.ref C) x=pX (pX (.ref f)))(i:LL K (.ref f)=true)(l:K.lookup f=pX ⟨oc,od,.func (EK x q (Dd st) (Cg st) (Ag st) .none kV dc pm an cd ct),sl⟩)(c:Hd K cd q=true)(k:C9 K (.ref f)=true):Md K C x q st:=⟨f,od,an,sl,oc,kV,dc,pm,cd,ct,a,i,l,c,k⟩
structure Kl(K:Au)(n:Str)(D:Addr):Prop where
 y:GO K C6 n=pX (pX (.ref D))
 c:Cls K D
 mk_:IB K D=true
 kp:C9 K (.ref D)=true
theorem Kl.of(y:GO K C6 x=pX (pX (.ref C)))(a:JU K C Str.empty=true)(b:KI K C=true)(c:No K C=true)(d:C0 K (.ref C) "__setattr__" = pX (pX (.builtin "object.__setattr__")))(m:IB K C=true)(k:C9 K (.ref C)=true):Kl K x C:=⟨y,⟨a,b,c,d⟩,m,k⟩
def Nn(K:Au):qM->Prop
 | []=>True
 | x::l=>GO K C6 x=pX pY/\Nn K l
def Na(K:Au)(C:Addr):qM->Prop
 | []=>True
 | x::l=>C0 K (.ref C) x=pX pY/\Na K C l
theorem Nn.one{l:qM}(a:GO K C6 x=pX pY)(b:Nn K l):Nn K (x::l):=⟨a,b⟩
theorem Na.one{l:qM}(a:C0 K (.ref C) x=pX pY)(b:Na K C l):Na K C (x::l):=⟨a,b⟩
end
end L2
namespace PySem.W.Fast
def tw10114283720278417805:=True
def tw10190947310451890694:=True
def tw10198337985971628091:=True
def tw1029487905801800184:=True
def tw10392674275639459622:=True
def tw10408642907109999471:=True
def tw10422654229945502129:=True
def tw10469388334783973016:=True
def tw10536468190906921074:=True
def tw10604884140579946645:=True
def tw10654963200340836916:=True
def tw10703111019096710403:=True
def tw10748523283850031881:=True
def tw10773552130280357250:=True
def tw10879958262382736754:=True
def tw10892020227550604230:=True
def tw11101282474511913994:=True
def tw11252724217808720680:=True
def tw11291646827350562551:=True
def tw11313436806737833204:=True
def tw11329760324601461357:=True
def tw11539658847619316202:=True
def tw11576860282040899234:=True
def tw11681366027671941163:=True
def tw11766611092146125654:=True
def tw1198701440991475623:=True
def tw12033800178836992254:=True
def tw1211572333049517897:=True
def tw1219873019511514402:=True
def tw12203177587538097972:=True
def tw12270832692488037496:=True
def tw12285206964472603703:=True
def tw12323332822157871137:=True
def tw12333500333532161832:=True
def tw12339471717431981382:=True
def tw12385497244210088469:=True
def tw12498798737274295441:=True
def tw12526134602405033192:=True
def tw12557100535582478578:=True
def tw12594559962391363629:=True
def tw12777844444242347089:=True
def tw13004573621777879813:=True
def tw13051638077582895140:=True
def tw13068176142995727747:=True
def tw13121687053811181094:=True
def tw13188301830794989787:=True
def tw13566933165051977756:=True
def tw1361214295645390165:=True
def tw13681131492066011412:=True
def tw1378719892355076281:=True
def tw13815279654038489100:=True
def tw13858549395027314763:=True
def tw13867921045414104658:=True
def tw13897112579532570338:=True
def tw13952256720606295177:=True
def tw13992851592940770751:=True
def tw1431312973702013853:=True
def tw14389358497368260373:=True
def tw14434336395695101816:=True
def tw14455513271166933296:=True
def tw14491525928361837840:=True
def tw14541483266261139380:=True
def tw14598646892962399345:=True
def tw14620830540345353640:=True
def tw1487643848236294721:=True
def tw149660494443447384:=True
def tw14970016748515672839:=True
def tw15091084147763682327:=True
def tw15125024156496056996:=True
def tw15227691615541535733:=True
def tw15240587690503093730:=True
def tw15257317868129148242:=True
def tw15269284083858118843:=True
def tw15328320330798979766:=True
def tw15357167727173174921:=True
def tw1549599842046975274:=True
def tw15604463847721403833:=True
def tw15812660364939200247:=True
def tw15820948057219941423:=True
def tw15837063420416268627:=True
def tw15867037516398564284:=True
def tw15882820487431969931:=True
def tw15888497227522780490:=True
def tw16010195033132344441:=True
def tw16050339342587851055:=True
def tw1605625214400080888:=True
def tw16065195492806787082:=True
def tw16075721157818487368:=True
def tw16172944797255484908:=True
def tw16179300202755285471:=True
def tw16255437058862381246:=True
def tw16268170179650230170:=True
def tw16272526733582305838:=True
def tw16288323235999205358:=True
def tw16316514985808387717:=True
def tw16322045149426470482:=True
def tw16352004365826094013:=True
def tw16372881360405469860:=True
def tw16374508542492898152:=True
def tw16492046073555926003:=True
def tw16557681426461560971:=True
def tw16604352947508023142:=True
def tw16637730815463011726:=True
def tw16672782647707605771:=True
def tw16678515138319804284:=True
def tw16719606411163708513:=True
def tw16781045561520352488:=True
def tw16800232932673529617:=True
def tw16830165585761809618:=True
def tw16832141579581320271:=True
def tw17007482720030561036:=True
def tw17083107888868887702:=True
def tw17106272493011447650:=True
def tw17136841807520057997:=True
def tw17290570800573110403:=True
def tw17333321455635527283:=True
def tw17513057770849289952:=True
def tw1757367285999263866:=True
def tw17583733044419085804:=True
def tw17622541174789996529:=True
def tw17684361685998340870:=True
def tw17723879598078742283:=True
def tw17740884674453176616:=True
def tw17780916792234483056:=True
def tw17797853422385262568:=True
def tw17848656509224800782:=True
def tw1798328594221588647:=True
def tw18099592429427186097:=True
def tw18232661176482891519:=True
def tw18370545784142896430:=True
def tw18408194071593535757:=True
def tw1917178034529626893:=True
def tw1929596405796145460:=True
def tw1987590495134762566:=True
def tw2131472151172725304:=True
def tw2142156005865593652:=True
def tw2180684759675066466:=True
def tw2181896882582496473:=True
def tw2200140902944130472:=True
def tw2244276187875797724:=True
def tw2339901686598979329:=True
def tw2398279574526954920:=True
def tw247467559947702696:=True
def tw2629135792740770746:=True
def tw2676423162167172869:=True
def tw2694297894942874020:=True
def tw2989516619114954121:=True
def tw3082557772898194113:=True
def tw3105922636739108796:=True
def tw3111150691367092393:=True
def tw3118834006651231195:=True
def tw3136487760523700149:=True
def tw3146106405372684780:=True
def tw3179891383177032060:=True
def tw3205954859102811212:=True
def tw333169324824221517:=True
def tw3429171839484103535:=True
def tw3451152069036398518:=True
def tw3623010829845087537:=True
def tw3633194400987738867:=True
def tw3636285566652627139:=True
def tw3803136753901178898:=True
def tw3987616879747700195:=True
def tw4052262198034348650:=True
def tw4082517878748569364:=True
def tw4129202638230746639:=True
def tw4146063711252018576:=True
def tw4189041475907067752:=True
def tw4358112707841874190:=True
def tw4389747987207193262:=True
def tw4402062099722508275:=True
def tw4479883939663217733:=True
def tw454931143304972883:=True
def tw4554031913991136774:=True
def tw4625288123166960473:=True
def tw4629699824959058493:=True
def tw46727810456990980:=True
def tw4802439463987659851:=True
def tw4945233473922866618:=True
def tw5087718027840679169:=True
def tw5131761744325589433:=True
def tw516319362761834849:=True
def tw520288243660369863:=True
def tw5278589125359897218:=True
def tw5526127493517487242:=True
def tw576498092883933762:=True
def tw5820601508851086048:=True
def tw5867420048338614952:=True
def tw5980765048135406766:=True
def tw6033219857138307528:=True
def tw6049589150727545511:=True
def tw6056490189204089707:=True
def tw6086596317249284113:=True
def tw6196184238680675281:=True
def tw6212996815960150948:=True
def tw633752472745226350:=True
def tw6397476006352072166:=True
def tw6493640737401241574:=True
def tw6621913172281558238:=True
def tw6622375856289136888:=True
def tw6645878281045080712:=True
def tw6646267031311910306:=True
def tw6665735482685041108:=True
def tw6681602717625675131:=True
def tw6729010888127605536:=True
def tw6738170294016271207:=True
def tw6762409085850264569:=True
def tw6842830709922739959:=True
def tw6996554701098085389:=True
def tw7184381863144218637:=True
def tw7227882227678450517:=True
def tw740851255339111041:=True
def tw7465459370276394734:=True
def tw7471827802229089679:=True
def tw7502212542643261449:=True
def tw7508934143594266441:=True
def tw7562898731342210444:=True
def tw759631747035182475:=True
def tw7601697880053516188:=True
def tw7633308039299713316:=True
def tw7647425417335115483:=True
def tw768270562702844495:=True
def tw7738281478949556654:=True
def tw7791279053414272236:=True
def tw7860915236774100775:=True
def tw7893966128208282269:=True
def tw7998208618832341489:=True
def tw8006412759971047429:=True
def tw8027034850199667881:=True
def tw8130981100223863762:=True
def tw8140768755532535783:=True
def tw8197862797993569028:=True
def tw8245699492000326359:=True
def tw8292187761734015590:=True
def tw8332610559277775008:=True
def tw8335001285266522067:=True
def tw8354151633670983892:=True
def tw8539672196936358164:=True
def tw8574148836669480482:=True
def tw8597080774349240453:=True
def tw8651877130186023164:=True
def tw8696056554981633553:=True
def tw8702417358667295306:=True
def tw8812713566198517376:=True
def tw8817881709584641180:=True
def tw9000858110625028003:=True
def tw9013535206869759121:=True
def tw9186423164898519951:=True
def tw920887368344642085:=True
def tw9302635825650032939:=True
def tw937531972418638372:=True
def tw9594615165764222750:=True
def tw965993444529434977:=True
def tw9693426791026856689:=True
def tw9717045254477806945:=True
def tw9755115560770401508:=True
def tw981836104396471758:=True
def tw9826158387356749959:=True
def tw9829241714611888655:=True
def tw9867371484477660304:=True
end PySem.W.Fast
namespace K33
open PySem L2 G
theorem all_mk{l:OI}{Wy Sv Gw:Addr}(X:K.In h)(G:h.Ns C6 mg)(hfa:mg "law" = pX (.ref fa))
  (U_C:Kl K "Web" C) (U_D:Kl K "Rings" D) (U_Wy:Kl K "Ways" Wy) (U_Sv:Kl K "Sieve" Sv) (U_Gw:Kl K "Growth" Gw) (h_init:Md K C "__init__" "Web.__init__" Ke) (h_size:Md K C "size" "Web.size" AAi) (h_ties:Md K C "ties" "Web.ties" ZK) (h_at:Md K C "at" "Web.at" sAt) (h_amt:Df K "refuse_amounts" AEI) (h_chk:Df K "checked_ties" AFH) (h_pts:Df K "refuse_points" AEX) (h_cell:Df K "_law_at" ABY) (h_mix:Df K "_law_mixed" AEr) (h_graph:Df K "least_graph" K33s.Lb) (h_reach:Df K "reached_knots" K33s.QC) (h_in:Df K "row_in_places" K33s.sIn) (h_sets:Df K "sets_of" K33s.WR) (h_grown:Df K "grown" Vb) (h_behp:Df K "points_behind" Jl) (h_tied:Df K "strands_tied" ABq) (h_rows:Df K "_law_rows" Qi) (h_webl:Df K "_law_web" ABe) (h_rings:Df K "_law_rings" Ui) (h_ways:Df K "_law_ways" Zc) (h_bytie:Df K "_law_by_tie" Dq) (h_bypts:Df K "_law_by_points" Ph) (h_tiedl:Df K "_law_tied" Ve) (h_law:Df K "law" Zi) (h_taken:Md K D "taken" "Strands.taken" Qc) (h_passed:Md K D "passed" "Strands.passed" Hu) (h_ful:Md K D "fulfilled" "Strands.fulfilled" ACr) (h_left:Md K D "left" "Rule.left" Wa) (h_stay:Md K D "may_stay" "Strands.may_stay" WM) (h_closed:Md K D "closed" "Strands.closed" Gh) (h_wtaken:Md K Wy "taken" "Strands.taken" Qc) (h_wpassed:Md K Wy "passed" "Strands.passed" Hu) (h_wful:Md K Wy "fulfilled" "Strands.fulfilled" ACr) (h_wleft:Md K Wy "left" "Rule.left" Wa) (h_wstay:Md K Wy "may_stay" "Strands.may_stay" WM) (h_wclosed:Md K Wy "closed" "Strands.closed" Gh) (h_begun:Md K D "begun" "Strands.begun" UW) (h_wbegun:Md K Wy "begun" "Ways.begun" Qa) (h_wref:Md K Wy "refuse_web" "Ways.refuse_web" QJ) (h_winit:Md K Wy "__init__" "Ways.__init__" Vu) (h_sinit:Md K Sv "__init__" "Sieve.__init__" K33s.Ke) (h_knots:Md K Sv "knots" "Sieve.knots" K33s.Vn) (h_stop:Md K Sv "top" "Sieve.top" K33s.ADp) (h_ginit:Md K Gw "__init__" "Growth.__init__" PK) (h_knotat:Md K Gw "knot_at" "Growth.knot_at" Jk) (h_past:Md K Gw "past_points" "Growth.past_points" AAw) (N_C:Na K C ["amount","joints"]) (N_Sv:Na K Sv ["amount","rows","head"]) (N_Wy:Na K Wy ["ends"]) (N_Gw:Na K Gw ["web","rule","amount","behind","rows","known"]) (N_N:Nn K ["len","range","int","max","min","sorted","tuple","list","bool","enumerate","isinstance","all","set","reversed"]) {t0:Tok} (v0:GO K C6 "MOST_POINTS" = pX (pX (.int 10 t0))) {t1:Tok} (v1:GO K C6 "MOST_TIES" = pX (pX (.int 12 t1))) (lJ:C0 K (.ref D) "__init__" = pX (pX (.builtin "object.__init__"))){odd:Option Addr}{ndd:Nat}{sld:Array (Option As)} (y_done:GO K C6 "DONE" = pX (pX (.ref da))) (iw:K.lookup da=pX ⟨.type "tuple",odd,.seq #[] ndd,sld⟩) :
  ∃fd:BI,(∀(s:AA) (v:As),Pc s fd ⟨[v],[]⟩ [("_law_script",v)])/\∀base:Heap,K.In base->base.Ns C6 mg->FnOk l.prog w K mg base CX0 21 fa fd ["_law_script"] (Rp K):=by
 obtain⟨_,_,iB,bJ,aq⟩:=h_init.get (ps:=["self","many","ties"]) (bn3 (by intros;rfl));obtain⟨_,_,iC,au,m_size⟩:=h_size.get (ps:=["self"]) (bn1 (by intros;rfl));obtain⟨_,_,iD,aA,aB⟩:=h_ties.get (ps:=["self"]) (bn1 (by intros;rfl));obtain⟨_,_,lK,lM,lN⟩:=h_at.get (ps:=["self","point"]) (bn2 (by intros;rfl));obtain⟨_,_,jV,jW,jX,jY⟩:=h_amt.get X G (ps:=["points","ties"]) (bn2 (by intros;rfl));obtain⟨_,_,jZ,j4,j5,j6⟩:=h_chk.get X G (ps:=["many","ties"]) (bn2 (by intros;rfl));obtain⟨_,_,j7,j8,j9,kh⟩:=h_pts.get X G (ps:=["many","tie"]) (bn2 (by intros;rfl));obtain⟨_,_,iG,iH,iI,iJ⟩:=h_cell.get X G (ps:=["_law_script","_law_k"]) (bn2 (by intros;rfl));obtain⟨_,_,kj,dH,dI,dJ⟩:=h_mix.get X G (ps:=["_law_cell"]) (bn1 (by intros;rfl));obtain⟨_,_,dY,aQ,aR,aU⟩:=h_graph.get X G (ps:=["n","rows","top"]) (bn3 (by intros;rfl));obtain⟨_,_,dZ,d7,d8,d9⟩:=h_reach.get X G (ps:=["rows","top"]) (bn2 (by intros;rfl));obtain⟨_,_,lQ,lU,lV,k_in⟩:=h_in.get X G (ps:=["places","row"]) (bn2 (by intros;rfl));obtain⟨_,_,iK,bM,bO,bQ⟩:=h_sets.get X G (ps:=["sieve"]) (bn1 (by intros;rfl));obtain⟨_,_,aV,aW,aX,aY⟩:=h_grown.get X G (ps:=["web","rule"]) (bn2 (by intros;rfl));obtain⟨_,_,iM,bV,bW,bY⟩:=h_behp.get X G (ps:=["web","number"]) (bn2 (by intros;rfl));obtain⟨_,_,iQ,aJ,aK,aL⟩:=h_tied.get X G (ps:=["state","tie"]) (bn2 (by intros;rfl));obtain⟨_,_,iR,iT,iU,iV⟩:=h_rows.get X G (ps:=["_law_many","_law_number"]) (bn2 (by intros;rfl));obtain⟨_,_,iW,iY,iZ,jc⟩:=h_webl.get X G (ps:=["_law_cell"]) (bn1 (by intros;rfl));obtain⟨_,_,eF,aC,aD,aF⟩:=h_rings.get X G (ps:=["_law_many","_law_rows_here"]) (bn2 (by intros;rfl));obtain⟨_,_,jd,bZ,cg,cj⟩:=h_ways.get X G (ps:=["_law_many","_law_rows_here","_law_one","_law_other"]) (bn4 (by intros;rfl));obtain⟨_,_,eG,eN,eO,eU⟩:=h_bytie.get X G (ps:=["_law_many","_law_rows_here","_law_rings_here","_law_tie"]) (bn4 (by intros;rfl));obtain⟨_,_,eV,fj,fD,fH⟩:=h_bypts.get X G (ps:=["_law_many","_law_rows_here","_law_rings_here","_law_one","_law_other"]) (bn5 (by intros;rfl));obtain⟨_,_,fJ,fM,fO,fQ⟩:=h_tiedl.get X G (ps:=["_law_rows_here","_law_one","_law_other"]) (bn3 (by intros;rfl));obtain⟨_,_,fY,fZ,f9⟩:=h_taken.get (ps:=["self","web","state","number"]) (bn4 (by intros;rfl));obtain⟨_,_,cP,cQ,cR⟩:=h_passed.get (ps:=["self","web","state","point"]) (bn4 (by intros;rfl));obtain⟨_,_,kE,kI,kJ⟩:=h_ful.get (ps:=["self","web","state"]) (bn3 (by intros;rfl));obtain⟨_,_,je,jf,jg⟩:=h_left.get (ps:=["self","web","state","number"]) (bn4 (by intros;rfl));obtain⟨_,_,ji,cu,cA⟩:=h_stay.get (ps:=["self","state","point"]) (bn3 (by intros;rfl));obtain⟨_,_,cT,cU,cV⟩:=h_closed.get (ps:=["self","state","tie"]) (bn3 (by intros;rfl));obtain⟨_,_,cW,cX,cY⟩:=h_wtaken.get (ps:=["self","web","state","number"]) (bn4 (by intros;rfl));obtain⟨_,_,cB,cC,cF⟩:=h_wpassed.get (ps:=["self","web","state","point"]) (bn4 (by intros;rfl));obtain⟨_,_,jk,jo,jq⟩:=h_wful.get (ps:=["self","web","state"]) (bn3 (by intros;rfl));obtain⟨_,_,gj,gk,gn⟩:=h_wleft.get (ps:=["self","web","state","number"]) (bn4 (by intros;rfl));obtain⟨_,_,gq,aZ,bf⟩:=h_wstay.get (ps:=["self","state","point"]) (bn3 (by intros;rfl));obtain⟨_,_,cG,cH,cI⟩:=h_wclosed.get (ps:=["self","state","tie"]) (bn3 (by intros;rfl));obtain⟨_,_,gw,gA,gC⟩:=h_begun.get (ps:=["self","web"]) (bn2 (by intros;rfl));obtain⟨_,_,cZ,c7,dh⟩:=h_wbegun.get (ps:=["self","web"]) (bn2 (by intros;rfl));obtain⟨_,_,jr,jt,ju⟩:=h_wref.get (ps:=["self","web"]) (bn2 (by intros;rfl));obtain⟨_,_,gF,gG,bw⟩:=h_winit.get (ps:=["self","a","b"]) (bn3 (by intros;rfl));obtain⟨_,_,gH,gJ,bx⟩:=h_sinit.get (ps:=["self","n","rows","head"]) (bn4 (by intros;rfl));obtain⟨_,_,gK,gM,gO⟩:=h_knots.get (ps:=["self"]) (bn1 (by intros;rfl));obtain⟨_,_,jx,jy,jA⟩:=h_stop.get (ps:=["self"]) (bn1 (by intros;rfl));obtain⟨_,_,bC,bD,ao⟩:=h_ginit.get (ps:=["self","web","rule"]) (bn3 (by intros;rfl));obtain⟨_,_,aM,aj,ak⟩:=h_knotat.get (ps:=["self","number","reached"]) (bn3 (by intros;rfl));obtain⟨_,_,cJ,cL,cM⟩:=h_past.get (ps:=["self","number","reached"]) (bn3 (by intros;rfl));obtain⟨n0,n1,_⟩:=N_C;obtain⟨dj,jB,jC,_⟩:=N_Sv;obtain⟨aN,_⟩:=N_Wy;obtain⟨kO,jD,dz,dB,jE,gP,_⟩:=N_Gw;obtain⟨z0,z1,z2,z3,z4,z5,z6,z7,z8,z9,z10,bF,kW,bH,_⟩:=N_N;obtain⟨_,_,_,_,_,_,_,_,_,_,kY,kZ,lg,lq⟩:=h_law;have e:=hfa.symm.trans (E9 X G kY);cases e;have lu:=Kw (st:=Zi) kZ lg lq;have law_all:∀base:Heap,FnOk l.prog w K mg base CX0 21 _ _ ["_law_script"] (Rp K):=λbase=>by
  have T:Txt K mg C:=⟨U_C.c,n0,n1,E9 X G U_C.y,⟨_,E9 X G v0⟩,⟨_,E9 X G v1⟩,BN X G z0,BN X G z1,BN X G z2,BN X G z3,BN X G z4,BN X G z5,BN X G z6,BN X G z7,BN X G z8,BN X G z9,BN X G z10⟩;have lA:=ACe (P:=l.prog) (w:=w) (base:=base) iG T;have jF:=AEc (P:=l.prog) (w:=w) (mg:=mg) (base:=base) kj;have lX:=ADy (P:=l.prog) (w:=w) (base:=base) jV T;have lY:=AEl (P:=l.prog) (w:=w) (mg:=mg) (base:=base) j7;have lZ:=ADx jZ T ⟨lY,j8,kh,j9⟩;have dM:=HN iB T ⟨lX,jW,jY,jX⟩ ⟨lZ,j4,j6,j5⟩;have aG:=ACp (P:=l.prog) (w:=w) (base:=base) iC T;have aH:=ABx (P:=l.prog) (w:=w) (base:=base) iD T;have mC:=AFn (P:=l.prog) (w:=w) (base:=base) lK T;have TS:K33s.Txt K mg Sv:=⟨U_Sv.c,dj,jB,jC,E9 X G U_Sv.y,BN X G z0,BN X G z1,BN X G z2,BN X G z5,BN X G kW,BN X G z6,BN X G z7,BN X G z8,BN X G z9,BN X G bF,BN X G z10,BN X G z4,BN X G bH⟩;have Nd:Dn K mg da:=⟨E9 X G y_done,λH=>.inr ⟨_,#[],ndd,iw,rfl,rfl,BD _,.nil⟩⟩;have O:Gro K mg Gw:=⟨U_Gw.c,E9 X G U_Gw.y,kO,jD,dz,dB,jE,gP⟩;have jG:=K33s.HN (P:=l.prog) (w:=w) (base:=base) gH TS;have jH:=K33s.AAh (P:=l.prog) (w:=w) (base:=base) gK TS;have lC:=K33s.AEy (P:=l.prog) (w:=w) (base:=base) jx TS;have mD:=K33s.AFj (P:=l.prog) (w:=w) (mg:=mg) (base:=base) lQ;have jJ:=K33s.AAQ (P:=l.prog) (w:=w) (base:=base) dZ TS;have cN:=K33s.ABl dY TS ⟨U_Sv.mk_,bx.at_,bx.fn,U_Sv.kp⟩ ⟨jJ,d7,d9,d8⟩ ⟨mD,lU,k_in,lV⟩ jG gJ;have dN:=K33s.ABy iK TS jH gM gO lC jy jA;have dR:=ACo iM T aG au m_size mC lM lN;have aO:=ADN (P:=l.prog) (w:=w) (base:=base) iQ T;have cD:Cls K D:=U_D.c;have dU:=Vw (P:=l.prog) (w:=w) (mg:=mg) (base:=base) ji;have gQ:=λκ=>Ms (hf:=noK κ) cT T cD (BN X G bF) Nd dU cu cA;have jK:=λκ=>Ro (hf:=noK κ) fY T cD Nd (gQ κ) cU cV aH aA aB ⟨aO,aJ,aL,aK⟩;have gU:=λκ=>Ma (hf:=noK κ) cP T cD Nd dU cu cA;have mj:=λκ=>Zv (hf:=noK κ) (P:=l.prog) (w:=w) (base:=base) kE Nd;have lD:=Wu (P:=l.prog) (w:=w) (mg:=mg) (base:=base) je;have jL:=λκ=>RP (u:=uK κ) (D:=D) bC T O aH aA aB ⟨dR,bV,bY,bW⟩;have lE:=λκ=>Wk (C:=C) cJ cD O (gU κ) cQ cR;have gW:=λκ=>JF aM T cD O (lE κ) cL cM lD jf jg (jK κ) fZ f9 (mj κ) kI kJ aj ak;have ir:Cls K Wy:=U_Wy.c;have cO:=Vw (P:=l.prog) (w:=w) (mg:=mg) (base:=base) gq;have dD:=λκ=>Ms (hf:=noK κ) cG T ir (BN X G bF) Nd cO aZ bf;have gY:=λκ=>Ro (hf:=noK κ) cW T ir Nd (dD κ) cH cI aH aA aB ⟨aO,aJ,aL,aK⟩;have dF:=λκ=>Ma (hf:=noK κ) cB T ir Nd cO aZ bf;have lF:=λκ=>Zv (hf:=noK κ) (P:=l.prog) (w:=w) (base:=base) jk Nd;have jM:=Wu (P:=l.prog) (w:=w) (mg:=mg) (base:=base) gj;have gZ:=λκ=>RP (u:=uK κ) (D:=Wy) bC T O aH aA aB ⟨dR,bV,bY,bW⟩;have jN:=λκ=>Wk (C:=C) cJ ir O (dF κ) cC cF;have dG:=λκ=>JF aM T ir O (jN κ) cL cM jM gk gn (gY κ) cX cY (lF κ) jo jq aj ak;have jO:=ABg (D:=D) gw T aG au m_size;have mq:=ACX jr T ir aN aG au m_size;have g8:=Yd cZ T ir aN mq jt ju aG au m_size ⟨aO,aJ,aL,aK⟩;have jP:=Zb (P:=l.prog) (w:=w) (mg:=mg) (base:=base) gF ir aN;have jQ:=Rr (κ:=pY) aV cD O ⟨U_Gw.mk_,ao.at_,ao.fn,U_Gw.kp⟩ (jL pY) bD (gW pY) aj ak jO gA gC ⟨cN,aQ,aU,aR⟩;have iu:=λx=>Rr (κ:=pX x) aV ir O ⟨U_Gw.mk_,ao.at_,ao.fn,U_Gw.kp⟩ (gZ (pX x)) bD (dG (pX x)) aj ak (g8 x) c7 dh ⟨cN,aQ,aU,aR⟩;have lG:=AAj iR T ⟨jF,dH,dJ,dI⟩;have lH:=ACR iW ⟨jF,dH,dJ,dI⟩ ⟨lG,iT,iV,iU⟩;have aP:=ZM eF T ⟨U_C.mk_,aq.at_,aq.fn,U_C.kp⟩ U_D.mk_ lJ U_D.kp (E9 X G U_D.y) dM bJ ⟨jQ,aW,aY,aX⟩ ⟨dN,bM,bQ,bO⟩;have dX:=ACf jd T ⟨U_C.mk_,aq.at_,aq.fn,U_C.kp⟩ ⟨U_Wy.mk_,bw.at_,bw.fn,U_Wy.kp⟩ (E9 X G U_Wy.y) dM bJ jP gG iu aW aY aX ⟨dN,bM,bQ,bO⟩;have jR:=ZX eG T ⟨aP,aC,aF,aD⟩ ⟨dX,bZ,cj,cg⟩;have jT:=AAr eV T ⟨aP,aC,aF,aD⟩ ⟨dX,bZ,cj,cg⟩;have jU:=ABn (P:=l.prog) (w:=w) (mg:=mg) (base:=base) fJ;exact ADr lu T ⟨lA,iH,iJ,iI⟩ ⟨lH,iY,jc,iZ⟩ ⟨aP,aC,aF,aD⟩ ⟨jR,eN,eU,eO⟩ ⟨jT,fj,fH,fD⟩ ⟨jU,fM,fQ,fO⟩
 exact⟨_,λs v=>.of_eq rfl,λbase _ _=>law_all base⟩
theorem walk{l:OI}{q:AK}{XP:(Str->Option As)->Heap->Prop}{d:DefRec}{K:WV->Au}(hn:l.most=pX 63)(pG:d.params.defaults=[])
  (hY:∀(w:AQ) (h:Heap),YP w h->(K w.params).In h)
  (F:∀(w:AQ) (mg:Str->Option As) (fa:Addr) (h:Heap),(K w.params).In h->h.Ns C6 mg->mg d.name=pX (.ref fa) ->
   ∃fd:BI,(∀(s:AA) (u:As),Pc s fd ⟨[u],[]⟩ [("_law_script",u)])/\∀base:Heap,(K w.params).In base->base.Ns C6 mg->FnOk l.prog w (K w.params) mg base CX0 21 fa fd ["_law_script"] (Rp (K w.params))) :
  VO q cE XP YP l.row.toRowW d [] (λf vs=>UC f vs) :=
 L2.ACP (n:=63) (k:=21) (x:="_law_script") (CX:=λ_=>CX0) (sp:=λw=>Rp (K w.params)) hn (by decide) pG ⟨rfl,by decide,by decide,rfl⟩ hY F (λ_ _ a ns hl _ hS=>⟨a,ns,rfl,hS,hl,λ_=>rfl⟩) λ_ _ _ _ _ z=>z
end K33
open PySem PySem.W PyProof.Rows
set_option maxRecDepth 100000 in
set_option maxHeartbeats 0 in
theorem PySem.Challenge.cw_frontways_k33_whole_rings_and_ways_holds : PySem.Challenge.rw_frontways_k33_whole_rings_and_ways.Holds := by
 w_on;o_law;k_head;(case hw=>w_witness2)
 k_fill
 refine K33.walk (l:=PySem.Challenge.rw_frontways_k33_whole_rings_and_ways) rfl rfl (λw h Y=>PySem.W.kIn_of Y) ?F
 case F =>
  intro w mg fa h KX G hmg;apply K33.all_mk KX G hmg
  all_goals first
   | (refine' L2.Df.of ?a ?l ?c ?k;(case a=>k_is);(case l=>k_is);(case c=>k_is);(case k=>k_is))
   | (refine' L2.Md.of ?a ?i ?l ?c ?k;(case a=>k_is);(case i=>k_is);(case l=>k_is);(case c=>k_is);(case k=>k_is))
   | (refine' L2.Kl.of ?y ?a ?b ?c ?d ?m ?k;(case y=>k_is);(case a=>k_is);(case b=>k_is);(case c=>k_is);(case d=>k_is);(case m=>k_is);(case k=>k_is))
   | ((first| refine L2.Nn.one ?_ ?_| refine L2.Na.one ?_ ?_);(repeat' first| exact True.intro| refine L2.Nn.one ?_ ?_| refine L2.Na.one ?_ ?_);all_goals k_is)
   | k_is
