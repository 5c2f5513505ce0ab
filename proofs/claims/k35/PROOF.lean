
import PyProof.Rows.All
import Wide.All
import OpenK.KSplit
import OpenK.KNot
import OpenK.KApp
import KE.KEqSeq
import KE.KDictSum
import KE.KSortTup
import KE.KDictOf
import KE.KSortKey
import KE.BitLaws
import KE.KLam
import KE.KMinKey
import KE.KNestM
import KE.KStateDown
import KE.KIsAll
import KE.KDictList
import KE.KDictLaws
import KE.KNest
import Wide.FinOn
import Lean
import PyProof.EqAt
import PyProof.EqKinds
import PyProof.TupleCall
import PySem.Challenge.RW_oathduel_k35_whole_plans_win
set_option compiler.extract_closed false
set_option genSizeOf false
set_option genInjectivity false
set_option bootstrap.genMatcherCode false
set_option Elab.async false
set_option linter.all false
set_option maxRecDepth 100000
set_option maxHeartbeats 4000000
open Array renaming length_toList->OR,getElem?_toList->O3,getElem?_eq_getElem->Pp,getElem?_eq_some_iff->P0,contains_iff_mem->RM,perm_iff_toList_perm->RX,mem_toList_iff->Sf,toList_push->S9,toList_append->TJ,forIn_toList->Ug,getElem?_eq_none->UI,getD->U4,mk->Vb,toList_setIfInBounds->V1,toList_filterMap->Xr,toList_reverse->YC,size_map->YD,getElem_toList->YE,toList->Z8,replicate->aa6,size_zip->abU
open Array.Perm renaming refl->aa7
open Bool renaming true->N7,false->Oc,false_ne_true->Om,false_eq_true->OX,and_eq_true->Pj,eq_iff_iff->Qe,and_false->QU,or_eq_true->Q1,false_or->RQ,true_and->Si,rec->Va,not_true->WB,not_false->Yz,false_and->YA,and_eq_true_iff->YB,or_false->Y2,and_self->Y3,true_or->Z7,and_comm->YP,not_not->adv
open Decidable renaming byContradiction->V7
open False renaming elim->Qc
open ForInStep renaming yield->T5,done->abT
open Int renaming toNat_natCast->O8,emod_lt_of_pos->QI,emod_nonneg->Q0,lt_trans->RL,le_refl->Um,mul_le_mul_of_nonneg_right->U3,natCast_nonneg->VZ,fdiv_eq_ediv_of_nonneg->V0,neg_neg->Wq,lt_of_not_ge->WV,zero_add->Xp,le_of_lt->Xq,one_mul->Yy,lt_or_eq_of_le->Zv,not_lt->wd,lt_irrefl->YW,le_trans->pw,mul_one->O1,add_mul->aeg,not_lt_of_ge->lF,le_of_eq->aaP,le_of_not_gt->abe,lt_of_le_of_lt->abf,lt_of_lt_of_le->abg
open List renaming length_map->A',mem_of_getElem?->N5,getD_eq_getElem?_getD->N6,getElem?_eq_some_iff->N8,length_append->N9,getElem?_eq_getElem->N_,mem_singleton->Oi,take_of_length_le->Ol,contains_iff_mem->Oq,mem_cons_of_mem->Os,mem_cons_self->Ot,getElem?_map->Ow,size_toArray->OA,mem_cons->OC,length_cons->OE,mem_filter->OF,mem_append->OH,map_append->OI,length_take->OJ,mem_map->OK,length_singleton->OL,take_add_one->OM,getElem?_append_right->OP,map_cons->OU,getElem?_append_left->OV,map_map->OY,append_assoc->O5,range->O7,any_eq_true->O9,all_eq_true->Pc,pairwise_map->Ph,mem_append_right->Pn,length_filter_le->Po,append_nil->Pq,pairwise_cons->Pt,getElem?_eq_none->Py,length_range->PB,nodup_cons->PF,length_eq_zero_iff->PN,mem_range->PY,length_dropLast->PZ,mem_iff_getElem?->P4,filter_append->P5,getElem?_take_of_lt->P7,find?_cons->P8,filter_cons_of_pos->P',filter_cons_of_neg->Qa,nodup_append->Qj,take_append_drop->Qn,mem_map_of_mem->Qr,nodup_iff_pairwise_ne->Qt,take_append_of_le_length->Qv,length->Qw,filter_eq_nil_iff->Qz,length_drop->QF,mem_append_left->QH,not_mem_nil->QL,pairwise_iff_getElem->QM,mem_of_find?_eq_some->QN,map_congr_left->QQ,pairwise_append->Q3,getElem_mem->Q4,range_succ->Rb,length_nil->Rc,drop_eq_getElem_cons->Rg,lookup_cons->Rp,find?_eq_none->Rq,filter_cons->Rr,mem_of_mem_take->RB,filter_eq_self->RJ,any_cons->RO,Pairwise->RP,forall_mem_cons->Sa,all_map->Sb,all_cons->Sg,length_pos_iff->Sl,getElem_of_mem->Sm,getElem?_range->Sn,nodup_nil->Sw,lookup->Sy,length_pos_of_mem->SF,drop_of_length_le->SG,contains_cons->SH,foldl_cons->SM,take_sublist->S6,find?_append->S7,ext_getElem?->S8,reverse_reverse->Tg,map_nil->Tr,map_id'->Tt,any_map->Tu,Perm->Tv,mergeSort_perm->TC,filterMap_cons->TF,of_mem_zip->T3,nil_append->T4,pairwise_mergeSort->Ul,take_succ_eq_append_getElem->UD,getElem?_dropLast->UE,foldl_append->UF,findIdx_lt_length_of_exists->UG,filter_congr->UH,eraseIdxIfInBounds_toArray->UJ,pairwise_reverse->UN,dropLast_eq_take->UO,mem_reverse->U2,getElem?_append->U9,eq_nil_of_length_eq_zero->U_,dropLast_concat_getLast->Vk,forall_mem_nil->Vp,filter_sublist->Vq,take_take->VU,ne_nil_of_mem->VW,mem_filterMap->VX,drop_drop->VY,rel_of_pairwise_cons->V3,getLast?_eq_getElem?->V4,getElem?_zip_eq_some->V5,getElem?_eq_none_iff->V6,reverse_perm->Wl,reverse_cons->Wm,getElem_take->Wn,drop_sublist->Wo,length_erase_of_mem->Wz,idxOf_lt_length_iff->WA,eraseIdx_cons_succ->WU,range_succ_eq_map->Xk,not_of_lt_findIdx->Xl,getElem?_set_self->Xm,find?_cons_of_pos->Xn,find?_cons_of_neg->Xo,find?_some->XA,any_append->XB,all_append->XC,getElem?_toArray->XS,take_zero->Yp,mem_of_mem_drop->Yq,mem_of_getLast?->Yr,mem_erase_of_ne->Ys,getElem_toArray->Yt,getElem?_set_ne->Yu,getElem?_of_mem->Yv,findIdx_getElem->Yw,drop_left->Yx,take_succ_cons->YV,zip_cons_cons->Zr,map_inj_right->Zs,lookup_append->Zt,getElem_idxOf->Zu,idxOf_append->Z5,all_eq_false->Z6,nodup_range->aav,mem_toArray->aaw,map_snd_zip->aax,map_fst_zip->aay,getElem_inj->aaz,cons_ne_nil->aaA,length_zip->aa2,idxOf_cons->aa3,drop_left'->aa4,countP_map->aa5,take_left->abO,map->wh,find?->abQ,drop_zero->abR,map_drop->acJ,reverse->SY,all_nil->adt
open List.Pairwise renaming nil->Se,filter->Th,imp_of_mem->TV,map->Wp,sublist->adD,imp->ae_,and->ae'
open List.Perm renaming eq_of_pairwise->acK,append_left->adC,trans->afy,swap->agb
open List.cons renaming inj->agu
open Nat renaming le_refl->N',zero_le->OG,ne_of_lt->OQ,lt_of_lt_of_le->Pe,le_trans->Pm,le_of_lt->Pu,sub_self->P3,zero_add->Qq,succ_le_succ->QK,lt_succ_of_lt->QT,lt_or_ge->QZ,lt_irrefl->Q6,lt_trichotomy->Q9,lt_of_le_of_lt->Ro,pow_succ->Rw,pow_le_pow_right->R9,ne_of_gt->R_,eq_or_lt_of_le->SE,add_sub_assoc->S5,min_le_right->Tp,lt_succ_self->Tq,le_succ->Uk,le_of_eq->UC,mod_eq_of_lt->U0,le_add_right->U1,two_pow_pos->Vi,min_eq_left->Vj,lt_trans->VD,mod_two_eq_zero_or_one->VS,add_right_comm->VT,le_succ_of_le->Wj,le_of_lt_succ->Wk,add_assoc->Wy,div_eq_of_lt->WR,add_sub_cancel_left->WT,mod_lt->Xg,eq_zero_of_not_pos->Xh,div_div_eq_div_mul->Xi,add_zero->Xj,le_of_ble_eq_true->XR,ble->YM,add_le_add_left->YU,one_le_two_pow->Zn,eq_zero_or_pos->Zo,add_sub_cancel->Zq,succ_pos->Z1,mul_comm->Z2,lt_succ_of_le->Z3,le_of_succ_le->Z4,min_eq_right->aat,le_of_not_lt->hJ,add_mod->CW,le_add_left->L0,sub_zero->adp,min_self->adq,mul_add->O',mod_mul->O2,le_zero->aee,sub_le->ic,le_antisymm->h7,sub_lt_sub_left->ip,succ_lt_succ->j',add_sub_of_le->lB,add_comm->sx,min_le_left->ot,lt_of_succ_lt_succ->oj,not_lt_of_le->aaO,lt_of_not_le->I',le_of_succ_le_succ->I0,sub_pos_of_lt->abb,lt_of_le_of_ne->abc,eq_of_le_of_lt_succ->abd
open Ne renaming symm->P6
open Option renaming some->gV,none->Oa,map_eq_some_iff->PK,isSome_iff_exists->TU,map_some->TZ,isSome_map->Wi,rec->Xf,isSome_some->Zl,isNone_none->Zm,getD_none->aas,map->x9
open Option.some renaming inj->Oy
open Or renaming inr->Yo,inl->Zk
open Prod renaming ext->R8,snd->Yn,fst->rk,rec->Rt
open PyProof renaming noPylong_small->W9
open PyProof.Rows renaming wpS_bind->OZ,wpS_pure->Pf,arrOf->Pg,pendingOf->Pk,Keyed->PM,SortSt->PV,boot_tuple->P2,callWith_type1->Qk,seqObj->Qs,wpS_forRange->Q8,slot_tuple_getitem->Re,envOfC->Rf,failedOf->Ri,boot_all->RZ,IntsAre->Sk,wpS_mono->Sv,listUpdate_at->TR,boot_sorted->Uq,boot_list->UA,boot_dict->UB,boot_any->UM,callWith_builtin1->UZ,get?_update_seq->Vh,wpS_get->Wg,AllBare->Wh,callWith_kw->Wx,elem'->WQ,wpS_modify->W_,subscriptTail_builtinR->W',setPending->Xa,plain_sorted->Xb,mem_zip_self->Xc,entry_sorted->Xd,bitAnd_m1->Xe,entry_list_sort->Xz,kws_cons->XM,boot_max->XN,boot_int->XO,boot_abs->XQ,wpS_lift->Yg,slot_list_sort->Yh,seqEpoch_at->Yi,pairsOf_toList->Yj,kws_nil->Yk,kind_sorted->Yl,getElem?_mirror_all->YS,entry_tuple_getitem->YT,subscriptTail->Y0,call_abs_int->Y1,size_push'->Zi,args_tuple_getitem->Zj,mergeAt'->ZY,listItems_at->ZZ,args_sorted1->Z0,join_plain_closes->aar,getElem?_bubble->aaZ,boot_isinstance->aa0,pairsOf->ov,minRun'->n',sortedHeap_old->abF,sortedHeap->zz,slicePart_none->abH,boot_range->y4,args_list_sort->abJ,Subscript_->y3,SortKind->rr,tupleItemsOf_->acH,sortedHeap_at->acI,numOf->nv,setArr->mi,mirror->l',boot_bool->adn,KskOut->l0,IsTup->lC
open PyProof.Rows.F renaming plain_set_update_loop->QP,entry_set_update_loop->Tz
open PyProof.Rows.IntsAre renaming length->Ym
open PyProof.Rows.IsTup renaming new->tA
open PyProof.Rows.SortSt renaming mk'->VR
open PySem renaming wpAny_bind->B',Addr->J',Value->K',Shared->Od,wpAny_pure->Of,PyData->Oo,Program->Ou,FuncData->Oz,World->ON,model->OS,starEach->OW,mainGlobals->O_,Heap->Pd,Around->Pw,Expr->PD,mem_of_lookup->PL,cellsFrom->PP,Stmt->PQ,compareOp->PX,wpAny_holding->Qb,wpAny_truthy_bool->Qf,wpAny_newObj_type->Qg,boot_len->Qh,sizeLine_eq->Qm,wpAny_setState_of->Qu,wpAny_mono->Qx,wpAny_Call_Name_kw->Qy,eval->QA,sysModules->Q2,codeAny_builtin->Ra,wpAny_call_entry->Rl,backTo->RE,plainId_quiet->RN,wpAny_rule->RU,tupleKind_room_in1->RW,intKind->RY,cLine->R1,wpAny_passesOwn->R5,foldedSetIterable->R6,wpAny_callSpecial?_slot->So,binaryOp->Sq,Scope->Sx,rawInt->SC,codeAny_mono->SD,behindInMarks->SN,wpAny_pyIter_list->S2,relabel->S3,wpAny_tryCatch->Ta,wpAny_seqItems->Tb,intItems->Tc,wpAny_typeOf->Tj,Arguments->To,attributeBase->TL,OsState->TY,assignEach->T9,sliceBounds->Uh,wpAny_storeSet_of->Ut,bootBuiltins->Uu,builtinLookup_eq_fast->UL,pyNext->UT,call_meets->UU,builtinsNs->UV,Thread->UX,wpAny_newList->U6,keywordEach->U7,wpAny_execs_nil->Vd,letOwnedTupleGo->Ve,wpAny_setEntries_of->Vm,setAddHashed->Vv,getItem->Vw,argBest->Vx,tupleKind->VF,swapsWith->VG,NameKind->VN,wpAny_letGo->V_,valueAt->V',ofAClassStatement->Wa,holding->Wb,atKey->Wc,wpAny_comprehension_free->Wu,wpAny_attempt->Wv,wpAny_forIn_list->WE,wpAny_eqBool_int->WG,wpAny_askSetting->WH,noFill_tuple_add->WI,getMethod->WJ,wpAny_pyNext_range_end->W1,wpAny_pyIter_rangeiter->W2,wpAny_call->W3,call_meetsIn->W4,wpAny_updateSeq->Xv,wpAny_specialOf->Xw,typeLookup_type->Xx,wpAny_notOrdered_dict->XD,wpAny_isTrue_Compare1->XE,wpAny_eqIsQuiet_tuple->XF,wpAny_setField->X1,wpAny_loadName_local->X2,subscripted->X3,pyIter->X4,newFunctionEnv->X5,isSubtype_type->X6,dictSetDefault->X7,backToKw->X8,IsRangeIter->Yb,standAt->YG,seqIndex?->YH,pickOrder->YI,callerA->YJ,wpAny_loadName_cell->YN,kt_meets_setdefault->YO,seq_tuple_add->YZ,wpAny_pyIter_range->Y7,merged->Y8,getattributeRaised->Y9,denote->Y_,checkCount->Y',call->Za,IsPart->Zh,wpAny_sequenceKey->ZE,wpAny_pyIter_slot->ZF,wpAny_pyIter_enum->ZG,wpAny_assign_Name->ZH,setNext->ZI,searchCouldBeSeen->ZJ,name_of_addr->ZL,concat_meets->ZM,bindArgs->ZN,Within->ZO,ReadsAll->ZS,BindsTo->ZW,wpAny_pyIter_zip->aac,wpAny_isInstance->aad,wpAny_execs_cons->aae,wpAny_Dict_empty->aaf,seqItems?->CF,entryFor_of_tree->aah,assign->oa,Result->lA,Params->lD,wpAny_of_eq->Ip,wpAny_field->F',hashByValue->aaG,CmpOp->aaJ,wpAny_ite_split->aaR,pushCells_keeps->aaS,codeAny_of_tree->aaT,wpAny_newTuple->abj,wpAny_fieldsOf->abk,wpAny_Name->vu,typeLookup->vl,setAddHashedIn->abn,recursionLimit->abo,intKind_is->vb,fitsIndex_both->abq,firstArgMember->abr,entryFor_alias->abt,entryFor->rb,closureFor->va,callWith->q7,bindL->kz,bindC->ky,argsOk->ud,wpAny_standAt->Yf,signature?_of->ach,setSearchFrom->Ya,intBits_le_64->XU,evalPart_none->ack,call_list_seq->XP,bltViewBooted->Xt,treeTable->ti,storeName->th,PassesOwn->sy,storedH->qb,Keyword->pz,setField->T1,numAt->mu,compEnvC->VH,Operator->ad7,Model->nk,GenState->Ts,Fin->afn
open PySem.Around renaming under_plainId->QG,frames_deeper->Ye,under->ZX
open PySem.AutoListH renaming list_insert_list_int_val_1->YR
open PySem.Builtin renaming bitAnd->RA
open PySem.Builtin.Builtins renaming bindParams->VC
open PySem.Builtin.Dict renaming updateFrom->WO,pairItems->W8,keyAndDefault->abE,selfAndRest->acF,addKeywords->acG
open PySem.Builtin.Frozenset renaming newClass->VQ,updateFrom->aaY,sizeOf->acE,slot0->ac1
open PySem.Builtin.List renaming listLengthHint->VB,listFitsIndex->abD,listUpdate->ac0
open PySem.Builtin.Range renaming rangeSize->WN
open PySem.Builtin.Slice renaming slicePlaces->R4,sliceApplied->Tf,sliceAdjust->Tx,slicePartIndex->aaX,sliceFields->ab8
open PySem.Builtin.Tuple renaming tupleExact->QE,tupleItemsOf->VP
open PySem.Calls renaming call_function_entry->Tw,spliced_cons->Ue,callWith_builtin->Uz,evalArgs_plain->U8,Name_function_global->VO,spliced_nil->Wf
open PySem.Challenge renaming pw_oathduel_k35_whole_plans_win->O0,rw_oathduel_k35_whole_plans_win->QS
open PySem.Code renaming isFrame->ZV,frames->ad'
open PySem.Data renaming fields->aaI,cell->acZ
open PySem.DictEntry renaming refKey->afo
open PySem.EqMixed renaming ne_str_bool->ab4,ne_bool_str->ab5,eq_str_bool->ab6,eq_bool_str->ab7,ne_str_int->acA,ne_int_str->acB,eq_str_int->acC,eq_int_str->acD
open PySem.EqNone renaming ne_none_none->abY,ne_none_bool->abZ,ne_bool_none->ab0,eq_none_none->ab1,eq_none_bool->ab2,eq_bool_none->ab3,ne_str_none->acr,ne_none_str->acs,ne_none_int->acu,ne_int_none->acv,eq_str_none->acw,eq_none_str->acx,eq_none_int->acy,eq_int_none->acz
open PySem.F renaming plainAttrs_list->Pl,slot_list_append->Qp,type_list_append->QD,slot_dict_setdefault->QY,args_dict_setdefault_3->Rm,entry_dict_setdefault->Rz,plain_max_loop->RS,slot_list_index->SJ,args_tuple_add_2->TQ,slot_list_pop->Ud,type_list_index->Ui,entry_tuple_add->Uj,slot_tuple_add->Uy,entry_max_loop->WM,type_list_pop->XI,slot_list_insert->XJ,slot_list_count->Yd,entry_list_pop->aaq,slot_set_iter->aaV,plain_set_new->aaW
open PySem.Heap renaming get?_push_of_some->Oj,lt_size->OB,get?_push_size->OT,get?_update_other->PJ,get?_update_self->Rh,SameBut->RK,size_push->Su,get?_none_of_le->Yc,get?_push_ne->ZU,size_update->aap,mk->Sh
open PySem.Heap.DictOf renaming new->aaU
open PySem.Heap.IsSliceOf renaming new->aeP
open PySem.Heap.SameBut renaming update->Qo
open PySem.IsL renaming update->afm
open PySem.IsRange renaming new->T2
open PySem.NameKind renaming cell->TN,free->acq
open PySem.Obj renaming mapSeq->QO,data_mapFields->Uc,mapFields->Ww,isFreed_of_fields->XH,data_mapDictKeys->X',putSet->Zg,cls_mapFields->ZT
open PySem.PassesOwn renaming never->QX
open PySem.PyData renaming eqv->O4,canLayAll0->P1,none->P_,eqvAll->Rv,depthAll->SI,tuple->Tn,int->UY
open PySem.SeqAt renaming shaped->Qi,readOf->VA,readsAll_map->Zd,items_eqAt->aam,EqAt->R'
open PySem.SeqAt.EqAt renaming str_int->Ze,int_str->Zf,none_bool->ad4,bool_none->ad5,bool_bool->ad6,str_none->aem,str_bool->aen,none_str->aeo,none_int->aep,int_none->aeq,int_bool->aer,bool_str->aes,bool_int->aet,str_str->aeM,int_int->aeN,same->afx
open PySem.SetTable renaming below->Q5,insertAt->Ry,Probe->TM,insertAt_perm->Ux,runEnd->Vg,leap->WL,fresh->X9,bits->YQ,turns->kA
open PySem.SetTable.below renaming go->X_
open PySem.SetTable.layClean renaming free->SU
open PySem.SetTable.probe renaming go->WK
open PySem.Shared renaming TypeIs->Wr
open PySem.Str renaming ofString->Oh,join->ry,empty->td
open PySem.Txt renaming join->ZR
open PySem.Value renaming ref->Px,isInt_shape->R7,int->SQ,type->Ub,none->VM,str->YL,bool->Zc,float->aaH,isStrOf->WC,isInt->T8,bytes->ad3
open PySem.W renaming Frag->C',mg_none_of->Pr,findIn->Pz,nsIn->PH,keepIn->QB,boot_heap->QC,kia_one->QJ,emptyDict->QR,SharedT->QW,fnOf->Ru,kla_obj->RF,instObj->RG,plainGet->Sr,CodeHd->Ss,mg_of->SO,hasDictIn->S4,tabObj->Td,kitOne->Te,callWith_K->T_,boot_drawn->Ua,plainOver->Uv,codeIn->Uw,boot_toks->UW,makesIn->Vf,plainGet_of->Vn,kdu_collect->Vo,isFn->Vy,envX->Vz,lookIn->VJ,through->Wd,methodObj->We,OpenLaw->WY,cellsFrom_some->W6,absHeap->W7,takerIn->Xy,methodCall_KW->XG,topStub->YK,stepOk->Zb,kitx_list->ZP,kitx_dict->ZQ,kdl_dict->aaj,handedIn->aak,WalkO->rz,stepT->CB,topRun->mj
open PySem.W.Fast renaming tw5923862056798008813->VL
open PySem.W.Looks renaming here->aeL,ld->afl
open PySem.W.WData renaming int->L'
open PySem.W.WShape renaming has->aeK
open PySem.Walks renaming list->W5,range->Vr
open PySem.Within renaming cons->ae8
open PySem.pickOrder renaming go->ZK
open StateT renaming run_pure->aaQ
open Sum renaming inl->Pb,inr->SZ
open Sum.inl renaming inj->Rx
open True renaming intro->Q7
open _root_ renaming List->ab,Option->M',decide_eq_false->Ob,Bool->Oe,decide_eq_true->On,if_neg->Ov,if_pos->Ox,of_decide_eq_true->OO,decide_eq_true_iff->O6,congrArg->Pa,Array->Pi,beq_eq_false_iff_ne->PU,reduceIte->Qd,of_decide_eq_false->Rj,decide_eq_decide->Rk,if_false->RI,String->SB,ForInStep->SV,beq_self_eq_true->Ti,if_true->TX,or_false->Us,beq_iff_eq->US,DecidableEq->U',getElem?_pos->Vu,StateT->Wt,Unit->W0,bne_self_eq_false->ZD,forall_congr'->acf,modify->mr
namespace HD
open PySem PySem.W PySem.Calls PyProof.Rows
noncomputable def Ah (p:QW->UX->M' (QW×UX))(ok T:UX->Oe)(n:Nat):QW->UX->M' QW:=
 @Nat.rec (λ_=>QW->UX->M' QW) (λ_ _=>Oa)
  (λ_ i s t=>@Va (λ_=>M' QW)
   (@Va (λ_=>M' QW) Oa
    (@Xf (QW×UX) (λ_=>M' QW) Oa
     (λr=>@Rt QW UX (λ_=>M' QW) (λa b=>@Va (λ_=>M' QW) Oa (i a b) (YM a.toks 1000000000)) r) (p s t)) (ok t))
   (gV s) (T t)) n
theorem yg{T:SB->M' Builtin}{p:Ou}{w:ON}{N:Nat}{a:M' K'}:∀n s c t,
  Ah (CB (Y_ T) p w) (Zb N a) Wd n s t=gV c->mj T p w N a n s.abs t=gV c.abs
 |0,s,c,t,h=>by cases h
 |n+1,s,c,t,h=>by
  have h:@Va (λz=>M' QW)
   _
   _ _=gV c:=h
  unfold mj;cases e:Wd t with
  |true=>rw[e]at h;cases h;rfl
  |false=>
   rw[e]at h;cases k:Zb N a t with
   |false=>rw[k]at h;cases h
   |true=>
    rw[k]at h;cases H:CB _ p w s t with
    |none=>rw[H]at h;cases h
    |some r=>
     rw[H]at h;replace h:@Va (λz=>M' QW) Oa _ _=gV c:=h;rw[stepT_spec H];cases f:YM _ _ with
     |false=>rw[f]at h;cases h
     |true=>rw[f]at h;exact yg n _ _ _ h
noncomputable def rM (l:ab Obj):BT->Nat->M' (BT×Nat):=
 @List.rec Obj (λ_=>BT->Nat->M' (BT×Nat)) (λT n=>gV (T,n))
  (λo _ i T n=>@Va (λ_=>M'<|BT×Nat) Oa (i (T.ins n o)<|n+1) (((T.ins n o).get n).isSome)) l
theorem qC:∀l T t n N,rM l T n=gV (t,N)->W7 t N L=⟨(W7 T n L).objs++l.toArray,L⟩
 |[],T,t,n,N,h=>by
  cases h;rfl
 |o::l,T,t,n,N,h=>by
  replace h:@Va (λz=>M'<|BT×Nat) Oa (rM l _<|n+1) _=gV _:=h;cases H:((T.ins n o).get n).isSome with
  |false=>simp_all
  |true=>
   rw[H]at h;rw[qC l _ _ _ _ h,absHeap_ins H];show Sh ((W7 T n L).objs.push o++l.toArray) L=_
   simp
noncomputable def look {a:Type}(p:QW->UX->M' (QW×UX))(ok t:UX->Oe)(M:Nat)(os:TY)(P:lD)(st:UX)(F:Od->a):M' a:=
 @Xf (BT×Nat) (λ_=>M' a) Oa
  (λr=>@Rt BT Nat (λ_=>M' a) (λT n=>@Xf QW (λ_=>M' a) Oa (λs=>gV<|F s.abs) (Ah p ok t M ⟨T,n,(QC P).life,Vb [],Ua,UW,os⟩ st)) r)
  (rM (QC P).objs.toList .nil 0)
theorem Gp{c:Type}{t:SB->M' Builtin}{p:Ou}{w:ON}{N:Nat}{a:M' K'}{M:Nat}{os:TY}{F:Od->c}{b:c}
  (h:look (CB (Y_ t) p w) (Zb N a) Wd M os w.params (YK p) F=gV b):
  ∃s,mj t p w N a M ⟨QC w.params,Vb [],Ua,UW,os⟩ (YK p)=gV s/\F s=b:=by
 unfold look at h;cases H:rM _ _ 0 with
 |none=>rw[H]at h;cases h
 |some r=>
  obtain⟨T,n⟩:=r;rw[H]at h;replace h:@Xf QW (λz=>M' c) Oa _ (Ah _ _ Wd M _<|YK p)=gV b:=h;cases d:Ah _ _ Wd M _ _ with
  |none=>rw[d]at h;cases h
  |some s=>
   rw[d]at h;have e:=qC (L:=(QC w.params).life) _ _ _ _ _ H;have g:W7 T n (QC w.params).life=QC w.params:=by
    rw[e];show Sh (#[]++(QC _).objs.toList.toArray) _=_
    rw[Array.empty_append]
   have f:=yg _ _ _ _ d;refine⟨s.abs,?_,Oy h⟩;rw[<-f];show _=mj t p w N a M ⟨W7 T n _,Vb [],Ua,UW,os⟩ _
   rw[g]
noncomputable def xt (q:Ou)(s:Od):Oe:=xlAt q [] s&&recOk [] s
noncomputable def sn (p q:Ou)(loose:ab Str)(X:Od->Oe)(g:Oe)(s:Od):=Fast.tw4187177175401517315 q loose (VL p.main.body) X g s
noncomputable def seenA (p q:Ou)(loose:ab Str)(X:Od->Oe)(g:Oe)(w:ON)(s:Od):=((staticsOk (VL p.main.body) (QC w.params) s.heap&&namesBound p s.heap&&gensDone s&&laidKept (QC w.params) s.heap),(sn p q loose X g s).1)
noncomputable def seenB (p q:Ou)(loose:ab Str)(X:Od->Oe)(g:Oe)(s:Od):=((sn p q loose X g s).2.1,(sn p q loose X g s).2.2.1,(sn p q loose X g s).2.2.2.1,(sn p q loose X g s).2.2.2.2.1)
noncomputable def seenC (p q:Ou)(loose:ab Str)(X:Od->Oe)(g:Oe)(s:Od):=(sn p q loose X g s).2.2.2.2.2.1
noncomputable def seenD (p q:Ou)(loose:ab Str)(X:Od->Oe)(g:Oe)(s:Od):=((sn p q loose X g s).2.2.2.2.2.2.1,(sn p q loose X g s).2.2.2.2.2.2.2.1,(sn p q loose X g s).2.2.2.2.2.2.2.2)
noncomputable def lookAt {b:Type}(p:Ou)(m:Nat)(a:M' K')(M:Nat)(w:ON)(os:TY)(F:Od->b):M' b:=
 look (Fast.tw10156331382660048174 (Fast.tw11892475500146522536 Fast.tw14364793385576792824) p w) (Fast.tw6613529449190102663 m a) Wd M os w.params (YK p) F
theorem gn{c:Type}{p:Ou}{m:Nat}{a:M' K'}{M:Nat}{w:ON}{os:TY}{F:Od->c}{b:c}(h:lookAt p m a M w os F=gV b):
  ∃s,mj ti p w m a M ⟨QC w.params,Vb [],Ua,UW,os⟩ (YK p)=gV s/\F s=b:=by
 unfold lookAt at h;rw[<-Fast.te10156331382660048174,<-Fast.te11892475500146522536,<-Fast.te14364793385576792824,<-Fast.te6613529449190102663]at h;exact Gp h
theorem left{p q:Ou}{loose:ab Str}{X:Od->Oe}{n:Type}{Y:Od->n}{y:ON->n}{N:Nat}{g:Oe}{m:Nat}{A:M' K'}{M:Nat}
  (e:opening p=plainProg p.main.scope.names) (f:∀s,fenceModules? p s=gV s) (H:YM 600 N=N7) (u:YM M N=N7)
  (h:∀w:ON,((QC w.params).isNs O_&&(Vb []:Pi Ts).size == 0,(QC w.params).objs.size,(QC w.params).nsMap O_ "__annotations__")=(N7,m,A))
  (v:∀(w:ON) (os:TY),lookAt p m A M w os (seenA p q loose X g w)=gV (N7,expectedOf q)) (B:∀(w:ON) (os:TY),lookAt p m A M w os (seenB p q loose X g)=gV (Xt,N7,N7,pinGoodD<|drecsOf q))
  (C:∀(w:ON) (os:TY),lookAt p m A M w os (seenC p q loose X g)=gV (plainGoodE q<|looseW q loose)) (x:∀(w:ON) (os:TY),lookAt p m A M w os (seenD p q loose X g)=gV (plainGoodD q loose,wideGood q,clsGoodW q loose)) (z:∀(w:ON) (os:TY),lookAt p m A M w os Y=gV (y w)):
  LeftO p q loose X Y y N g:=λw=>by
 obtain⟨⟨E,G,d,k,os⟩,a,b⟩:=PK.mp<|boot_open e H f w;obtain⟨rfl,rfl,rfl,rfl⟩:E=QC _/\G=Vb []/\d=Ua/\k=UW:=by simpa using b
 obtain⟨Z,F,I⟩:_/\_/\_:=by simpa only [Prod.mk.injEq]using h w
 obtain⟨s,r,o⟩:=gn<|v w os;obtain⟨j,c,J⟩:=gn<|z w os;rw[r]at c;cases c;obtain⟨j,c,l⟩:=gn<|B w os;rw[r]at c;cases c;obtain⟨j,c,O⟩:=gn<|C w os;rw[r]at c;cases c;obtain⟨j,c,D⟩:=gn<|x w os;rw[r]at c;cases c;have L:=Pa rk o;have i:sn p q _ X g s=openGood q _:=R8 (Pa Yn o) (R8 (Pa (·.1) l) (R8 (Pa (·.2.1) l) (R8 (Pa (·.2.2.1) l) (R8 (Pa (·.2.2.2) l) (R8 O (R8 (Pa _ D) (R8 (Pa (·.2.1) D) (Pa (·.2.2) D))))))));unfold seenA at L;unfold sn at i;dsimp only at L;rw[<-Fast.te5923862056798008813]at L i;rw[<-Fast.te4187177175401517315]at i;have r:=topRun_mono (N-M) _ _ _ _ r;rw[show M+(N-M)=N by have:=XR u;lia]at r;have t:topFrom ti p w N ⟨QC w.params,Vb [],Ua,UW,os⟩=gV s:=by
  unfold topFrom;rw[Z,F,I,r];show(match staticsOk _ _ _&&namesBound p _&&gensDone s&&laidKept _ _ with|true=>_|false=>_)=_
  rw[L]
 unfold openEnds;rw[a];show(topFrom ti p w N _).map _=_
 rw[t];exact Pa gV<|R8 i J
theorem head{r:OpenRow}{q:Ou}{loose:ab Str}{lv:ab (Str×WData)}(H:Hook){d:DefRec}{k:ab (Str×PD)}{N:Nat}
  (l:LeftO r.prog q loose (λs=>xlAt q lv s&&recOk r.records s) H.obs H.val N) (a:defOf q r.name=gV (d,k)) (p:r.prog.theDef r.name=gV (d.params,d.body,d.scope)) (b:kwWritten? d.params.kwonlyargs d.params.kw_defaults=gV k)
  (h:(!r.writes || r.records.isEmpty)=N7) (c:r.wellSaid=N7) (ok:(chainsOk q&&opensWell r.prog&&(frees r.toRowW&&r.within.isEmpty))=N7) (g:r.prog.bare) (w:r.toRowW.promised)
  (i:rz q loose (XL q lv) H.says r.toRowW d k λf v=>Za f v):r.Holds:=
 holds_open l H.of H.keeps (λs e=>xl_of s (YB.mp e).1) XL.keeps a p b (λs e=>recFacts_of (YB.mp e).2) h c ok g w i
end HD
section
open PySem PySem.W PySem.Calls PyProof.Rows
set_option maxRecDepth 100000
set_option maxHeartbeats 0
noncomputable def K35.vQ:Ou:=view O0 [0,2,3,4,5,7,8,9,11,12,13,14,15,16,17,18,19,21,22,23,24,25,27,28,29,30,31,32,33,34,35,36,38,39,40,41,42,43,45,46,47,48,49,50,52,53,54,55,56,58,59,60,61,62,64,65,66,67,68,69,70,71,72,73,74,75,76,77,78,79,80,81,82,83,84,85,86,87,88]
theorem K35.said:OpenLaw.wellSaid QS=true:=(congrFun Fast.te9446332074065402090 QS).trans (by kernel_rfl)
theorem K35.seenA (w:ON)(os:TY):HD.lookAt O0 11 (gV (.ref 6)) 4047 w os (HD.seenA O0 K35.vQ [] (HD.xt K35.vQ) N7 w)=gV (N7,expectedOf K35.vQ):=by kernel_rfl
theorem K35.seenB (w:ON)(os:TY):HD.lookAt O0 11 (gV (.ref 6)) 4047 w os (HD.seenB O0 K35.vQ [] (HD.xt K35.vQ) N7)=gV (Xt,N7,N7,pinGoodD (drecsOf K35.vQ)):=by kernel_rfl
theorem K35.seenC (w:ON)(os:TY):HD.lookAt O0 11 (gV (.ref 6)) 4047 w os (HD.seenC O0 K35.vQ [] (HD.xt K35.vQ) N7)=gV (plainGoodE K35.vQ (looseW K35.vQ [])):=by kernel_rfl
theorem K35.seenD (w:ON)(os:TY):HD.lookAt O0 11 (gV (.ref 6)) 4047 w os (HD.seenD O0 K35.vQ [] (HD.xt K35.vQ) N7)=gV (plainGoodD K35.vQ [],wideGood K35.vQ,clsGoodW K35.vQ []):=by kernel_rfl
end
namespace L2
open PySem PySem.Spec PyProof.Rows
abbrev bj:=Sum Int Str
noncomputable def pP:bj->K'->Oe
 |.inl k,v=>T8 k v
 |.inr x,v=>WC x v
noncomputable def MX(w:ON):bj->Int
 |.inl k=>hashInt k
 |.inr x=>hashStr w x
theorem ci:∀{k:bj} {v:K'},pP k v=N7->(∃i t,k=Pb i/\v=SQ i t)\/(∃x t,k=SZ x/\v=YL x t)
 |.inl i,v,h=>by
  obtain⟨t,e⟩:=R7 h;exact .inl ⟨i,t,rfl,e⟩
 |.inr x,v,h=>by
  obtain⟨t,e⟩:=Value.isStrOf_shape h;exact .inr ⟨x,t,rfl,e⟩
theorem zk(i:Int)(t:Tok):pP (.inl i) (.int i t)=true:=by simp[pP,T8]
theorem zl(x:Str)(t:Tok):pP (.inr x) (.str x t)=true:=by simp[pP,WC]
theorem IM(a b:Int):decide ((Pb a:bj)=Pb b)=(a == b):=by
 lia
theorem IN(a b:Str):decide ((SZ a:bj)=SZ b)=decide (a=b):=by
 simp
theorem IP(a:Int)(b:Str):decide ((Pb a:bj)=SZ b)=false:=rfl
theorem IQ(a:Str)(b:Int):decide ((SZ a:bj)=Pb b)=false:=rfl
noncomputable def aZ(p:Ou)(w:ON):PySem.KeyKind p w bj where
 is:=pP
 hash:=MX w
 inj:=λv a b d c=>by
  rcases ci d with⟨i,t,rfl,rfl⟩|⟨x,t,rfl,rfl⟩
  ·rcases ci c with⟨j,u,rfl,e⟩|⟨y,u,rfl,e⟩
   ·simp_all
   simp_all
  rcases ci c with⟨j,u,rfl,e⟩|⟨y,u,rfl,e⟩
  ·simp_all
  simp_all
 byValue:=λk v h=>by
  rcases ci h with⟨i,t,rfl,rfl⟩|⟨x,t,rfl,rfl⟩<;>rfl
 pyHash:=λH h=>by
  rcases ci H with⟨i,t,rfl,rfl⟩|⟨x,t,rfl,rfl⟩
  ·exact wpAny_pyHash_int h
  exact wpAny_pyHash_str h
 eqBool:=λf H h=>by
  rcases ci f with⟨i,t,rfl,rfl⟩|⟨x,t,rfl,rfl⟩
  ·rcases ci H with⟨j,u,rfl,rfl⟩|⟨y,u,rfl,rfl⟩
   ·rw[IM]at h;exact WG h
   rw[IP]at h;exact Zf i t y u _ _ _ _ h
  rcases ci H with⟨j,u,rfl,rfl⟩|⟨y,u,rfl,rfl⟩
  ·rw[IQ]at h;exact Ze x t j u _ _ _ _ h
  rw[IN]at h;exact wpAny_eqBool_str h
 «strs»:=λk x t v h=>by
  rcases ci h with⟨i,u,rfl,e⟩|⟨y,u,rfl,e⟩
  ·simp_all
  injection e with E _;subst E;cases v<;>rfl
theorem tz(p:Ou)(w:ON)(i:Int)(t:Tok):(aZ p w).is (.inl i) (.int i t)=true:=zk i t
theorem tD(p:Ou)(w:ON)(x:Str)(t:Tok):(aZ p w).is (.inr x) (.str x t)=true:=zl x t
set_option genInjectivity true in
inductive V where
 |non|bl (b:Oe)|int (i:Int)|str (x:Str)|byt (b:Pi UInt8)|flt (b:UInt64)|ref (a:J')|ty (n:SB)
 deriving U'
def RelV:V->K'->Prop
 |.non,u=>u=VM
 |.bl b,u=>u=Zc b
 |.int i,u=>∃t,u=SQ i t
 |.str x,u=>∃t,u=YL x t
 |.byt b,u=>∃t,u=ad3 b t
 |.flt b,u=>∃t,u=aaH b t
 |.ref a,u=>u=Px a
 |.ty n,u=>u=Ub n
abbrev Vals:ab V->ab K'->Prop:=Paired RelV
theorem Vals.length(r:Vals x u):x.length=u.length:=Paired.length r
theorem Vals.get:∀{X:ab V} {U:ab K'} {i:Nat} {x:V},Vals X U->X[i]?=gV x->∃u,U[i]?=gV u/\RelV x u:=by
 intro X U i x h e;induction h generalizing i with
 |nil=>cases e
 |cons r t j=>
  cases i with
  |zero=>cases e;exact⟨_,rfl,r⟩
  |succ i=>exact j e
theorem Vals.set(r:RelV x u):∀{X:ab V} {U:ab K'} (i:Nat),Vals X U->Vals (X.set i x) (U.set i u)
 |_,_,_,.nil=>.nil
 |_,_,0,.cons _ t=>.cons r t
 |_,_,i+1,.cons q t=>.cons q<|Vals.set r i t
theorem Vals.append:∀{x y:ab V} {u w:ab K'},Vals x u->Vals y w->Vals (x++y) (u++w):=by
 intro x y u w h s;induction h with
 |nil=>exact s
 |cons r t i=>exact .cons r i
theorem Vals.take:∀{x:ab V} {u:ab K'} (n:Nat),Vals x u->Vals (x.take n) (u.take n):=by
 intro x u n h;induction h generalizing n with
 |nil=>cases n<;>exact .nil
 |cons r t i=>
  cases n with
  |zero=>exact .nil
  |succ n=>exact .cons r<|i n
theorem Vals.drop:∀{x:ab V} {u:ab K'} (n:Nat),Vals x u->Vals (x.drop n) (u.drop n)
 |_,_,0,r=>r
 |_,_,_+1,.nil=>.nil
 |_,_,n+1,.cons _ t=>Vals.drop n t
theorem Vals.none_of:∀{x:ab V} {u:ab K'} {i:Nat},Vals x u->x[i]?=Oa->u[i]?=none:=λ{x u i} r e=>by
 have h:=r.length;simp_all
def RelO:M' V->M' K'->Prop
 |some v,gV u=>RelV v u
 |none,Oa=>True
 |_,_=>False
def KV{a:Type}:ab (a×V)->ab (a×K')->Prop:=Paired λ(p:a×V) (q:a×K')=>p.1=q.1/\RelV p.2 q.2
noncomputable def kV:bj->V
 |.inl i=>.int i
 |.inr x=>.str x
set_option genInjectivity true in
inductive HO where
 |lst (xs:ab V)
 |tup (xs:ab V)
 |dK (k:ab (bj×V))|dT (k:ab (ab bj×V))
 |set (S:Int->Oe) (n:Nat)
 |ins (C dx:J') (fs:ab (Str×V))
 |own (x:J')
 |xd (fs:ab (Str×V))
 |met (f x:J')
 |rng (lo h:Int)
 |frz (o:Obj) (u:HO)
 |tbl (p:Pi K')
 |ext (a:Pd->Prop)
abbrev Hp:=J'->M' HO
noncomputable def upd(H:Hp)(a:J')(o:HO):Hp:=λb=>if b=a then gV o else H b
theorem aa:upd H a o a=gV o:=by unfold upd;simp
theorem ag(h:b≠a):upd H a o b=H b:=by unfold upd;rw[Ov h]
theorem eO:upd (upd H a o) a u=upd H a u:=by
 unfold upd;simp_all
theorem bp{H:Hp}(h:H a=gV o)(h':H b=gV u)(d:o≠u):a≠b:=by
 lia
theorem af{H:Hp}(h:H a=gV o)(h':H b=Oa):a≠b:=by
 lia
section
variable (P:Ou)(w:ON)
def ObjOk(H:Hp)(h:Pd)(a:J'):HO->Prop
 |.lst X=>X.length<=sizeLine/\∃(b:ab K') (n:Nat),Vals X b/\h.get? a=gV {cls:=.type "list",data:=.seq b.toArray n}
 |.tup X=>X.length<=sizeLine/\∃b:ab K',Vals X b/\lC h a b.toArray
 |.dK k=>k.length<=sizeLine/\(a == Q2)=Oc/\∃s,KV k s/\h.DictOf (aZ P w) a s
 |.dT k=>k.length<=sizeLine/\(a == Q2)=Oc/\∃X:ab (ab bj×J'×K'),
   Paired (λ(p:ab bj×V) (q:ab bj×J'×K')=>p.1=q.1/\H q.2.1=gV (.tup<|p.1.map kV)/\RelV p.2 q.2.2) k X/\
   ∃o e E,h.get? a=gV o/\o.ExactDict/\o.data=.dict e E/\e.toList=X.map (entryOfKey<|VF<|aZ P w)/\(X.map (·.1)).Nodup
 |.set S n=>h.SetOf (RY P w) a S n
 |.ins C d F=>H d=gV (.own a)/\F.length<=1000/\d≠a/\h.get? a=gV (RG C d)/\
   ∃m,h.Ns1 d m/\(∀f,RelO (F.lookup f)<|m f)/\ZO m (F.map (·.1))
 |.own _=>∃o,h.get? a=gV o
 |.xd F=>∃m,h.Ns1 a m/\∀f,RelO (F.lookup f)<|m f
 |.rng lo j=>∃t u v,h.get? a=gV {cls:=.type "range",data:=.fields #[.int lo t,.int j u,.int 1 v]}
 |.frz o u=>h.get? a=gV o/\ObjOk H h a u
 |.tbl l=>h.get? a=gV {cls:=.none,data:=.fields l}
 |.met f x=>h.get? a=gV (We (.ref f)<|.ref x)
 |.ext c=>c h/\(∃o,h.get? a=gV o)/\∀g i:Pd,c g->(∀o,g.get? a=gV o->i.get? a=gV o)->c i
def HOk(H:Hp)(h:Pd):Prop:=∀a o,H a=gV o->ObjOk P w H h a o
end
section
variable {P:Ou}{w:ON}{H:Hp}{h:Pd}{a:J'}
theorem ObjOk.lt(x:ObjOk P w H h a o):a<h.objs.size:=by
 cases o with
 |lst X=>obtain⟨z,z,z,z,e⟩:=x;exact OB e
 |tup X=>obtain⟨z,z,z,p⟩:=x;exact p.lt
 |dK k=>obtain⟨z,z,z,z,o,z,z,e,z⟩:=x;exact OB e
 |dT k=>obtain⟨z,z,z,z,o,z,z,e,z⟩:=x;exact OB e
 |set S n=>obtain⟨o,z,z,z,e,z⟩:=x;exact OB e
 |ins C d F=>obtain⟨z,z,z,e,z⟩:=x;exact OB e
 |own y=>obtain⟨z,e⟩:=x;exact OB e
 |xd F=>obtain⟨z,⟨z,z,z,e,z⟩,z⟩:=x;exact OB e
 |rng lo i=>obtain⟨z,z,z,e⟩:=x;exact OB e
 |frz O u=>obtain⟨e,z⟩:=x;exact OB e
 |tbl s=>exact OB (x)
 |met f y=>exact OB (x)
 |ext b=>obtain⟨z,⟨z,e⟩,z⟩:=x;exact OB e
theorem Paired.mapP{c d:Type}{F G:c->d->Prop}:∀{l:ab c} {L:ab d},Paired F l L->(∀a b,F a b->G a b)->Paired G l L:=by
 intro l L h f;induction h with
 |nil=>exact .nil
 |cons r t i=>exact .cons (f _ _ r) i
theorem Paired.imp'{c d:Type}{F G:c->d->Prop}(f:∀a b,F a b->G a b){l:ab c}{L:ab d}(r:Paired F l L):Paired G l L:=Paired.mapP r f
theorem ObjOk.stay(x:ObjOk P w H h a o)(k:∀b u,(b=a\/H b=gV (.own a))->h.get? b=gV u->h'.get? b=gV u)
  (B:∀b,H b=gV (.own a)->l b=gV (.own a)) (D:∀b X,H b=gV (.tup X)->l b=gV (.tup X)):ObjOk P w l h' a o:=by
 induction o with
 |lst X=>obtain⟨z,i,n,r,e⟩:=x;exact⟨z,i,n,r,k _ _ (.inl rfl) e⟩
 |tup X=>obtain⟨z,i,r,O,e,c⟩:=x;exact⟨z,i,r,O,k _ _ (.inl rfl) e,c⟩
 |dK s=>obtain⟨z,y,F,r,O,E,g,e,c⟩:=x;exact⟨z,y,F,r,O,E,g,k _ _ (.inl rfl) e,c⟩
 |dT s=>
  obtain⟨z,y,X,r,O,E,g,e,c⟩:=x;exact⟨z,y,X,Paired.mapP r λp q z=>⟨z.1,D _ _ z.2.1,z.2.2⟩,O,E,g,k _ _ (.inl rfl) e,c⟩
 |set S n=>obtain⟨O,E,g,t,e,c⟩:=x;exact⟨O,E,g,t,k _ _ (.inl rfl) e,c⟩
 |ins C L G=>
  obtain⟨d,z,N,e,m,⟨j,E,g,I,c⟩,r⟩:=x;exact⟨B _ d,z,N,k _ _ (.inl rfl) e,m,⟨j,E,g,k _ _ (.inr d) I,c⟩,r⟩
 |own y=>obtain⟨O,e⟩:=x;exact⟨O,k _ _ (.inl rfl) e⟩
 |xd G=>obtain⟨m,⟨j,E,g,e,c⟩,r⟩:=x;exact⟨m,⟨j,E,g,k _ _ (.inl rfl) e,c⟩,r⟩
 |rng lo M=>obtain⟨t,u,v,e⟩:=x;exact⟨t,u,v,k _ _ (.inl rfl) e⟩
 |frz O u J=>obtain⟨e,q⟩:=x;exact⟨k _ _ (.inl rfl) e,J q⟩
 |tbl A=>
  have e:=x;exact k a _ (.inl rfl) e
 |met f y=>
  have e:h.get? a=gV _:=x;show h'.get? a=gV _
  exact k a _ (.inl rfl) e
 |ext Q=>obtain⟨p,⟨o,e⟩,st⟩:=x;exact⟨st _ _ p λo q=>k _ _ (.inl rfl) q,⟨o,k _ _ (.inl rfl) e⟩,st⟩
theorem HOk.lt(x:HOk P w H h)(e:H a=gV o):a<h.objs.size:=(x a o e).lt
theorem HOk.fresh(x:HOk P w H h)(e:h.objs.size<=a):H a=none:=by
 cases q:H a with
 |none=>rfl
 |some u=>exact absurd (Pe (x.lt q) e)<|Q6 _
theorem HOk.kept(x:HOk P w H h)(k:∀b u,h.get? b=gV u->h'.get? b=gV u):HOk P w H h':=λa o e=>
 (x a o e).stay (λb u z q=>k b u q) (λz q=>q) λz z q=>q
theorem HOk.laid{h':Pd}{o:HO}(x:HOk P w H h)(k:∀b u,h.get? b=gV u->h'.get? b=gV u)(p:h.objs.size<=a)(n:ObjOk P w (upd H a o) h' a o):HOk P w (upd H a o) h':=λb u e=>by
 have d:=x.fresh p;by_cases f:b=a
 ·subst f;rw[aa]at e;cases e;exact n
 rw[ag f]at e;exact(x b u e).stay (λc v z q=>k c v q) (λc q=>by rwa[ag<|af q d]) λc X q=>by rwa[ag<|af q d]
end
def Rd(H:Hp)(a:J')(u:HO):Prop:=H a=gV u\/∃o,H a=gV (.frz o u)
theorem Rd.of(h:H a=gV u):Rd H a u:=.inl h
theorem Rd.ok(r:Rd H a u)(x:HOk P w H h):ObjOk P w H h a u:=by
 obtain r|⟨o,r⟩:=r
 ·exact x a u r
 obtain⟨z,q⟩:=x a _ r;exact q
def K2:M' HO->Prop
 |some (.lst _)=>True
 |some (.dK _)=>True
 |some (.dT _)=>True
 |some (.set _ _)=>True
 |some (.ins _ _ _)=>True
 |some (.ext _)=>True
 |_=>False
theorem HOk.write(ok:HOk P w H h)(m:K2 (H x))(g:e=x\/H e=gV (.own x))(k:∀b u,b≠e->h.get? b=gV u->h'.get? b=gV u)(o:∃u,h'.get? e=gV u)
  (N:ObjOk P w (upd H x O) h' x O):HOk P w (upd H x O) h':=λb u q=>by
 have A:∀c y,H c=gV (.own y)->c≠x:=λc y r z=>by subst z;rwa[r]at m
 have n:∀c X,H c=gV (.tup X)->c≠x:=λc X r z=>by subst z;rwa[r]at m
 by_cases d:b=x
 ·subst d;rw[aa]at q;cases q;exact N
 rw[ag d]at q;by_cases a:b=e
 ·have Q:H b=gV (.own x):=by
   lia
  rw[q]at Q;cases Q;obtain⟨v,i⟩:=o;exact⟨v,by rwa[a]⟩
 refine(ok b u q).stay (λc v f r=>k c v ?_ r) (λc r=>by rwa[ag<|A c b r]) λc X r=>by rwa[ag<|n c X r]
 grind
structure Un (fs ex:ab J')(H H':Hp)(h h':Pd):Prop where
 keep:∀b o,h.get? b=gV o->H b=Oa->b∉fs->b∉ex->h'.get? b=gV o
 slot:∀b o,h.get? b=gV o->H b=Oa->b∈fs->b∉ex->∃sl,h'.get? b=gV {o with slots:=sl}
 free:∀b o,h.get? b=gV o->H b=Oa->b∉ex->H' b=Oa
 there:∀b o,h.get? b=gV o->b∉ex->∃o',h'.get? b=gV o'
 tups:∀b xs,H b=gV (.tup xs)->H' b=gV (.tup xs)
 frzs:∀b o u,H b=gV (.frz o u)->H' b=gV (.frz o u)
 tbls:∀b ps,H b=gV (.tbl ps)->∃more,H' b=gV (.tbl<|ps++more)
theorem Un.any(u:Un f e H d h c)(q:h.get? b=gV o)(n:H b=Oa)(x:b∉e):∃s,c.get? b=gV {o with slots:=s}:=by
 by_cases a:b∈f
 ·exact u.slot b o q n a x
 exact⟨o.slots,u.keep b o q n a x⟩
theorem Un.kept(k:∀b u,h.get? b=gV u->h'.get? b=gV u):Un f e H H h h':=
 ⟨λb o q z z z=>k b o q,λb o q z z z=>⟨o.slots,k b o q⟩,λz z z n z=>n,λb o q z=>⟨o,k b o q⟩,λz z q=>q,λz z z q=>q,λz p q=>by simp_all⟩
theorem Un.refl:Un f e H H h h:=Un.kept λz z q=>q
theorem Un.laid(k:∀b u,h.get? b=gV u->h'.get? b=gV u)(p:h.objs.size<=a)(c:H a=Oa):Un f e H (upd H a o) h h' where
 keep:=λb u q z z z=>k b u q
 slot:=λb u q z z z=>⟨u.slots,k b u q⟩
 free:=λb u q n z=>by rwa[ag<|OQ<|Pe (OB q) p]
 there:=λb u q z=>⟨u,k b u q⟩
 tups:=λb x q=>by rwa[ag<|af q c]
 frzs:=λb u x q=>by rwa[ag<|af q c]
 tbls:=λb P q=>⟨#[],by rw[ag<|af q c,q];simp⟩
theorem Un.write(m:K2 (H x))(i:e=x\/H e=gV (.own x))(k:∀b u,b≠e->h.get? b=gV u->h'.get? b=gV u)(c:∃u,h'.get? e=gV u):Un F E H (upd H x o) h h':=by
 have f:∀b,H b=Oa->b≠x:=λb n z=>by subst z;rwa[n]at m
 have g:∀b,H b=Oa->b≠e:=λb n z=>by
  simp_all
 have d:∀b u,H b=gV u->¬K2 (gV u)->b≠x:=λb u q N z=>by simp_all
 refine⟨λb u q n y y=>k b u (g b n) q,λb u q n y y=>⟨u.slots,k b u (g b n) q⟩,λb u q n y=>by rwa[ag<|f b n],λb u q y=>?_,
  λb X q=>by rwa[ag<|d b _ q λz=>z],λb u X q=>by rwa[ag<|d b _ q λz=>z],λb p q=>⟨#[],by rw[ag<|d b _ q λz=>z,q];simp⟩⟩
 by_cases a:b=e
 ·subst a;exact c
 exact⟨u,k b u a q⟩
noncomputable def MK(h:Pd)(H:Hp):ab J':=(O7 h.objs.size).filter λa=>(H a).isSome
noncomputable def pD(h:Pd)(H:Hp):Pd:=PySem.W.hideAll h<|MK h H
theorem zm(h:Pd)(H:Hp):(pD h H).objs.size=h.objs.size:=PySem.W.hideAll_size _ _
theorem A4(e:h.get? b=gV o)(n:H b=Oa):(pD h H).get? b=gV o:=
 PySem.W.hideAll_get _ e λm=>by
  have q:=(OF.mp m).2;simp_all
theorem Fc(e:(pD h H).get? b=gV o):h.get? b=gV o/\H b=none:=by
 have E:=PySem.W.of_hideAll _ e;exists E;cases q:H b with
 |none=>rfl
 |some x=>
  have m:b∈MK h H:=OF.mpr ⟨PY.mpr<|OB E,by simp[q]⟩;have z:(pD h H).get? b=none:=PySem.W.hideAll_none _ m;lia
structure Mod (K:C')(mg:Str->M' K')(base:Pd):Prop where
 kin:K.In base
 glob:base.Ns O_ mg
 blt:∃mb,base.Ns UV mb/\∀x:Str,x≠"__name__"->mb x=Uu x
 nolimit:base.NoLimit
structure Cx where
 prog:Ou
 w:ON
 K:C'
 mg:Str->M' K'
 base:Pd
 A:Pw
 N:ab Str
 s₀:Od
 H₀:Hp
 env:Env
 outer:ab Env
 stack:ab Env
 ex:ab J'
 fn:Str->Oe
 calm:Oe
 pn:ab (J'×Obj)
 xe:K'->Od->Prop
noncomputable def vF(l:ab Env):ab J':=l.filterMap (·.frame)
noncomputable abbrev Cx.fs(X:Cx):ab J':=vF X.outer
def KU(s:Sx)(x:Str):Prop:=s.names.lookup x=gV .local\/s.names.lookup x=gV .cell\/s.names.lookup x=gV .free
def IR(s:Sx)(x:Str):Prop:=s.names.lookup x=gV .local\/s.names.lookup x=gV .cell
def MY(e:Env)(h:Pd)(m:Str->M' K')(x:Str)(u:K'):Prop:=
 (e.kindOf x=gV .local/\m x=gV u)\/((e.kindOf x=gV .cell\/e.kindOf x=gV .free)/\∃c,e.cells.lookup x=gV c/\h.IsCell c (gV u))
structure Cx.Ok (X:Cx):Prop where
 mod:Mod X.K X.mg X.base
 kind:X.env.scope.kind=.function
 glob:X.env.globals=O_
 blt:X.env.builtins=UV
 above:X.s₀.heap.objs.size<=X.env.locals
 inj:∀x y c,X.env.cells.lookup x=gV c->X.env.cells.lookup y=gV c->x=y
 has:∀x,(X.env.kindOf x=gV .cell\/X.env.kindOf x=gV .free)->∃c,X.env.cells.lookup x=gV c
 cab:∀x c,X.fn x=N7->X.env.cells.lookup x=gV c->X.s₀.heap.objs.size<=c
 hd:X.calm=N7->X.A.handled=Oa
 frames:X.A.frames=gV X.stack
 stk:X.stack=X.outer\/(X.stack=X.env::X.outer/\X.env.frame=gV X.env.locals)
 exf:∀b∈X.ex,b≠X.env.locals/\∀x c,X.env.cells.lookup x=gV c->c≠b
 bs:∀b o,X.base.get? b=gV o->X.s₀.heap.get? b=gV o/\X.H₀ b=Oa
 bsz:X.base.objs.size<=X.s₀.heap.objs.size
 noex:∀b o,X.base.get? b=gV o->b∉X.ex
 exfs:∀b∈X.ex,b∉X.fs
 funs:X.s₀.heap.FunFrames X.base X.outer
 frf:∀b∈X.fs,X.H₀ b=Oa
structure Inv (X:Cx)(Og:ab (J'×Obj))(σ:ab (M' V))(H:Hp)(s:Od):Prop where
 ok:X.Ok
 os:s.os=X.s₀.os
 bare:Wh s.gens
 base:Un X.fs X.ex X.H₀ H X.s₀.heap s.heap
 loc:∃m,s.heap.Ns X.env.locals m/\∀(i:Nat) (x:Str) (v:V),X.N[i]?=gV x->σ[i]?=gV (gV v)->KU X.env.scope x->∃u,RelV v u/\MY X.env s.heap m x u
 cell:∀x c,X.env.cells.lookup x=gV c->∃v,s.heap.IsCell c v
 free:H X.env.locals=Oa
 freeC:∀x c,X.env.cells.lookup x=gV c->H c=Oa
 pin:∀p∈X.pn++Og,s.heap.get? p.1=gV p.2/\H p.1=Oa/\p.1≠X.env.locals/\p.1∉X.fs/\∀v,p.2.data≠.cell v
 hok:HOk X.prog X.w H s.heap
 len:σ.length=X.N.length
theorem Cx.Ok.nofr{X:Cx}(ok:X.Ok)(e:X.base.get? b=gV o):b∉X.fs:=λh=>by
 have:=(ok.funs.mem h).1;lia
theorem Inv.bs(I:Inv X O a H s):∀b o,X.base.get? b=gV o->s.heap.get? b=gV o/\H b=none:=λb o e=>
 ⟨I.base.keep b o (I.ok.bs b o e).1 (I.ok.bs b o e).2 (I.ok.nofr e)<|I.ok.noex b o e,I.base.free b o (I.ok.bs b o e).1 (I.ok.bs b o e).2<|I.ok.noex b o e⟩
theorem Inv.bk(I:Inv X O a H s):∀b o,X.base.get? b=gV o->s.heap.get? b=gV o:=λb o e=>(I.bs b o e).1
theorem Inv.mod(I:Inv X O a H s):Mod X.K X.mg X.base:=I.ok.mod
theorem Inv.kIn(I:Inv X O a H s):X.K.In s.heap:=I.ok.mod.kin.keeps I.bk
theorem Inv.lt(I:Inv X O a H s):X.env.locals<s.heap.objs.size:=let ⟨_,h,_⟩:=I.loc;h.lt
theorem Inv.sz(I:Inv X O a H s):X.s₀.heap.objs.size<=s.heap.objs.size:=Pm I.ok.above<|Pu I.lt
theorem Inv.nofs(I:Inv X O d H s){a:J'}(h:s.heap.objs.size<=a):a∉X.fs:=λb=>by
 obtain⟨z,o,c,z⟩:=I.ok.funs.mem b;exact absurd (Pe (OB c)<|Pm I.sz h)<|Q6 _
theorem Inv.cne(I:Inv X O f H s):∀x c,X.env.cells.lookup x=gV c->c≠X.env.locals:=λx c e z=>by
 obtain⟨v,o,b,d⟩:=I.cell x c e;obtain⟨m,⟨g,E,p,h,a,y⟩,y⟩:=I.loc;simp_all
theorem Inv.funs(I:Inv X O q H s):s.heap.FunFrames X.base X.outer:=by
 have a:∀l,(∀b∈vF l,b∈X.fs)->X.s₀.heap.FunFrames X.base l->s.heap.FunFrames X.base l:=by
  intro l
  induction l with
  |nil=>intro y y;trivial
  |cons E r i=>
   intro f g;obtain⟨k,⟨L,o,h,n,j,m⟩,p⟩:=g;have c:=f L (by unfold vF;rw[TF,h];exact Ot);obtain⟨t,e⟩:=I.base.slot L o j (I.ok.frf L c) c λz=>I.ok.exfs L z c;exact⟨k,⟨L,_,h,n,e,m⟩,i (λb d=>f b<|by unfold vF;rw[TF,h];exact Os _ d) p⟩
 exact a _ (λy d=>d) I.ok.funs
theorem Inv.stack(I:Inv X O a H s):s.heap.FunFrames X.base X.stack:=by
 obtain e|⟨e,h⟩:=I.ok.stk
 ·rw[e];exact I.funs
 rw[e];obtain⟨m,n,z⟩:=I.loc;exact .cons (by rw[I.ok.kind];decide) h n (Yc<|Pm I.ok.bsz I.ok.above) I.funs
theorem Inv.stkSub(I:Inv X O a H s):∀b∈vF X.stack,b∈X.env.locals::X.fs:=λb h=>by
 obtain e|⟨e,f⟩:=I.ok.stk
 ·rw[e]at h;exact Os _ h
 rw[e]at h;unfold vF at h;rwa[TF,f]at h
theorem Inv.stkFree(I:Inv X O c H s):∀b∈vF X.stack,H b=none:=λb h=>by
 obtain e|h:=OC.mp (I.stkSub b h)
 ·rw[e];exact I.free
 obtain⟨y,o,a,y⟩:=I.ok.funs.mem h;exact I.base.free b o a (I.ok.frf b h) λz=>I.ok.exfs b z h
theorem Inv.step{g':Pi Ts}{t':Nat}{d':Drawn}{ch:ab J'}(I:Inv X Y σ H s)
  (a:∀b∈ch,(b∈X.ex\/X.s₀.heap.objs.size<=b)/\b≠X.env.locals/\(∀x c,X.env.cells.lookup x=gV c->c≠b)/\∀p∈X.pn++Y,p.1≠b)
  (g:∀b o,b≠X.env.locals->b∉X.fs->b∉ch->s.heap.get? b=gV o->H b=Oa->h'.get? b=gV o)
  (slot:∀b o,b≠X.env.locals->b∈X.fs->b∉ch->s.heap.get? b=gV o->H b=Oa->∃J,h'.get? b=gV {o with slots:=J}) (f:∀b o,b∉ch->s.heap.get? b=gV o->H b=Oa->A b=Oa)
  (t:∀b o,b∉ch->s.heap.get? b=gV o->∃O,h'.get? b=gV O)
  (T:∀b j,H b=gV (.tup j)->A b=gV (.tup j)) (F:∀b o u,H b=gV (.frz o u)->A b=gV (.frz o u)) (B:∀b P,H b=gV (.tbl P)->∃M,A b=gV (.tbl<|P++M))
  (ns:∀m,s.heap.Ns X.env.locals m->h'.Ns X.env.locals m) (Q:HOk X.prog X.w A h') (hg:Wh g'):
  Inv X Y σ A {s with heap:=h',gens:=g',drawn:=d',toks:=t'}:=by
 have L:∀b o,X.s₀.heap.get? b=gV o->b≠X.env.locals:=λb o e=>OQ<|Pe (OB e) I.ok.above;have C:∀b o,X.s₀.heap.get? b=gV o->b∉X.ex->b∉ch:=λb o e h w=>by
  obtain z|z:=(a b w).1
  ·exact h z
  exact absurd (Pe (OB e) z)<|Q6 _
 have D:∀x c,X.env.cells.lookup x=gV c->∀v,s.heap.IsCell c v->h'.IsCell c v:=λx c e v ⟨o,y,U⟩=>by
  have N:=λz=>(a c z).2.2.1 x c e rfl;by_cases Z:c∈X.fs
  ·obtain⟨J,q⟩:=slot c o (I.cne x c e) Z N y<|I.freeC x c e;exact⟨_,q,U⟩
  exact⟨o,g c o (I.cne x c e) Z N y<|I.freeC x c e,U⟩
 refine⟨I.ok,I.os,hg,⟨λb o e n w h=>?_,λb o e n w h=>?_,λb o e n h=>?_,λb o e h=>?_,λb j e=>T b j<|I.base.tups b j e,λb o j e=>F b o j<|I.base.frzs b o j e,λb P e=>?_⟩,?_,λx c e=>?_,?_,λx c e=>?_,λp hp=>?_,Q,I.len⟩
 ·exact g b o (L b o e) w (C b o e h) (I.base.keep b o e n w h)<|I.base.free b o e n h
 ·obtain⟨J,E⟩:=I.base.slot b o e n w h;obtain⟨W,G⟩:=slot b _ (L b o e) w (C b o e h) E<|I.base.free b o e n h;exact⟨W,G⟩
 ·obtain⟨O,E⟩:=I.base.there b o e h;exact f b O (C b o e h) E<|I.base.free b o e n h
 ·obtain⟨O,E⟩:=I.base.there b o e h;exact t b O (C b o e h) E
 ·obtain⟨m1,E⟩:=I.base.tbls b P e;grind
 ·obtain⟨m,hn,hl⟩:=I.loc;refine⟨m,ns m hn,λi x v E G e3=>?_⟩;obtain⟨u,r,l⟩:=hl i x v E G e3;exists u,r;obtain l|⟨k,c,e,z⟩:=l
  ·exact .inl l
  exact .inr ⟨k,c,e,D x c e _ z⟩
 ·obtain⟨v,z⟩:=I.cell x c e;exact⟨v,D x c e v z⟩
 ·obtain⟨m,⟨o,V,V,y,V⟩,V⟩:=I.loc;exact f _ o (λz=>(a _ z).2.1 rfl) y I.free
 ·obtain⟨v,o,y,U⟩:=I.cell x c e;exact f c o (λz=>(a c z).2.2.1 x c e rfl) y<|I.freeC x c e
 obtain⟨e,n,ne,nf,d⟩:=I.pin p hp;have N:=λz=>(a p.1 z).2.2.2 p hp rfl;exact⟨g p.1 p.2 ne nf N e n,f p.1 p.2 N e n,ne,nf,d⟩
theorem Inv.un(I:Inv X O g H s)(u:Un X.fs [] H d s.heap h')(k:HOk X.prog X.w d h'):Inv X O g d {s with heap:=h',toks:=t'}:=by
 obtain⟨m,⟨o,l,p,f,r⟩,y⟩:=id I.loc;obtain⟨q,L⟩:=u.any f I.free (by simp);exact I.step (ch:=[]) (λy z=>nomatch z) (λb o y a y e n=>u.keep b o e n a<|by simp) (λb o y a y e n=>u.slot b o e n a<|by simp) (λb o y e n=>u.free b o e n<|by simp) (λb o y e=>u.there b o e<|by simp) u.tups u.frzs u.tbls (λM i=>by
  obtain⟨t,E,c,h,j⟩:=i;rw[f]at h;cases h;exact⟨_,E,c,L,j⟩) k I.bare
theorem Inv.call{t':Nat}{d':Drawn}(I:Inv X O j H s)(u:Un (vF X.stack) ch H g s.heap h')(k:HOk X.prog X.w g h')(l:Wh g')
  (a:∀b∈ch,(b∈X.ex\/X.s₀.heap.objs.size<=b)/\b≠X.env.locals/\(∀x c,X.env.cells.lookup x=gV c->c≠b)/\∀p∈X.pn++O,p.1≠b):
  Inv X O j g {s with heap:=h',gens:=g',drawn:=d',toks:=t'}:=by
 obtain⟨m,⟨o,w,y,i,r⟩,Z⟩:=id I.loc;obtain⟨A,L⟩:=u.any i I.free λz=>(a _ z).2.1 rfl;exact I.step a (λb o L q h e n=>u.keep b o e n (λz=>(OC.mp<|I.stkSub b z).elim L q) h) (λb o Z Z h e n=>u.any e n h) (λb o h e n=>u.free b o e n h) (λb o h e=>u.there b o e h) u.tups u.frzs u.tbls (λM t=>by
  obtain⟨B,E,f,d,v⟩:=t;rw[i]at d;cases d;exact⟨_,E,f,L,v⟩) k l
theorem Inv.turned{t':Nat}(I:Inv X O a H s)(k:∀b o,b≠i->s.heap.get? b=gV o->h'.get? b=gV o)(d:H i=Oa)(L:i≠X.env.locals)
  (f:i∈X.ex\/X.s₀.heap.objs.size<=i) (g:∀x c,X.env.cells.lookup x=gV c->c≠i) (j:∀p∈X.pn++O,p.1≠i):Inv X O a H {s with heap:=h',toks:=t'}:=by
 refine I.step (ch:=[i]) (λb l=>?_) (λb o z z h e z=>k b o (by simp_all) e) (λb o z z h e z=>⟨o.slots,k b o (by simp_all) e⟩) (λz z z z n=>n)
  (λb o h e=>⟨o,k b o (by simp_all) e⟩) (λz z e=>e) (λz z z e=>e) (λb P e=>⟨#[],by rw[e];simp⟩) (λm t=>?_) (λb u e=>?_) I.bare
 ·have e:b=i:=by simpa using l
  subst e;exact⟨f,L,g,j⟩
 ·obtain⟨o,E,w,y,r⟩:=t;exact⟨o,E,w,k _ o (P6 L) y,r⟩
 refine(I.hok b u e).stay (λc v h q=>k c v ?_ q) (λz q=>q) λz z q=>q;lia
theorem Inv.tok(I:Inv X O a H s)(t:Nat):Inv X O a H {s with toks:=t}:=I.un Un.refl I.hok
theorem Inv.kept(I:Inv X O a H s)(k:∀b u,s.heap.get? b=gV u->h'.get? b=gV u):Inv X O a H {s with heap:=h',toks:=t'}:=I.un (Un.kept k)<|I.hok.kept k
theorem Inv.laid{a:J'}{o:HO}{t':Nat}(I:Inv X O c H s)(k:∀b u,s.heap.get? b=gV u->h'.get? b=gV u)(h:s.heap.objs.size<=a)(n:ObjOk X.prog X.w (upd H a o) h' a o):
  Inv X O c (upd H a o) {s with heap:=h',toks:=t'}:=I.un (Un.laid k h<|I.hok.fresh h)<|I.hok.laid k h n
theorem Inv.write{o:HO}{t':Nat}(I:Inv X O c H s)(m:K2 (H x))(a:e=x\/H e=gV (.own x))(k:∀b u,b≠e->s.heap.get? b=gV u->h'.get? b=gV u)(h:∃u,h'.get? e=gV u)
  (n:ObjOk X.prog X.w (upd H x o) h' x o):Inv X O c (upd H x o) {s with heap:=h',toks:=t'}:=I.un (Un.write m a k h)<|I.hok.write m a k h n
theorem Inv.pins_of(I:Inv X O b H s)(h:∀p∈a,s.heap.get? p.1=gV p.2/\H p.1=Oa/\p.1≠X.env.locals/\p.1∉X.fs/\∀v,p.2.data≠.cell v):Inv X a b H s:=
 ⟨I.ok,I.os,I.bare,I.base,I.loc,I.cell,I.free,I.freeC,λp c=>(OH.mp c).elim (λz=>I.pin p<|QH _ z)<|h p,I.hok,I.len⟩
theorem tE{N:ab Str}(h:N.Nodup){i j:Nat}{x:Str}(a:N[i]?=gV x) (b:N[j]?=gV x):i=j:=by
 obtain⟨H,e⟩:=N8.mp a;obtain⟨c,E⟩:=N8.mp b;exact(aaz h).mp<|e.trans E.symm
theorem pQ{M:nk}{A:Pw}{E:K'->Od->Prop}{Q:W0->Od->Prop}(I:Inv X Og σ H s)(hN:X.N.Nodup)(N:X.N[i]?=gV x)(t:IR X.env.scope x)(r:RelV v u)
  (h:∀s',Inv X Og (σ.set i<|gV v) H s'->(∃a,RK a s.heap s'.heap/\(a=X.env.locals\/X.env.cells.lookup x=gV a))->Q () s') (hf:X.fn x=N7\/X.env.scope.names.lookup x=gV .local:=by first|exact .inl rfl|exact .inr rfl|assumption):wpAny M A (th X.env x u) Q E s:=by
 obtain⟨m,hn,hl⟩:=id I.loc;have ac:(X.env.scope.kind == .class || (X.env.scope.kind == .module&&X.env.locals != X.env.globals))=false:=by rw[I.ok.kind];rfl
 have B:i<σ.length:=by rw[I.len];exact(N8.mp N).1
 have D:=I.cne;have O:∀{a:J'} {L:Pd},(∃o,s.heap.get? a=gV o/\H a=Oa)->RK a s.heap L->HOk X.prog X.w H L:=λ{a L} ha f b ob e=>by
  obtain⟨V,V,P⟩:=ha;refine(I.hok b ob e).stay (λc W l q=>(f.2 c ?_).trans q) (λV q=>q) λV V q=>q;lia
 obtain C|C:=t
 ·refine wpAny_storeName_local C hn (λL am f=>?_) ac;obtain⟨oL,V,V,an,V⟩:=id hn;refine h _ ⟨I.ok,I.os,I.bare,⟨λb o e n F t=>?_,λb o e n F t=>?_,I.base.free,λb o e t=>?_,I.base.tups,I.base.frzs,I.base.tbls⟩,⟨_,am,λj y v' g w e3=>?_⟩,λy c e=>?_,I.free,I.freeC,λp hp=>?_,O ⟨oL,an,I.free⟩ f,by simpa using I.len⟩ ⟨_,f,.inl rfl⟩
  ·exact(f.2 b<|OQ<|Pe (OB e) I.ok.above).trans<|I.base.keep b o e n F t
  ·obtain⟨sl,g⟩:=I.base.slot b o e n F t;exact⟨sl,(f.2 b<|OQ<|Pe (OB e) I.ok.above).trans g⟩
  ·obtain⟨o',g⟩:=I.base.there b o e t;exact⟨o',(f.2 b<|OQ<|Pe (OB e) I.ok.above).trans g⟩
  ·by_cases G:j=i
   ·subst G;rw[N]at g;cases g;rw[Xm B]at w;cases w;exact⟨u,r,.inl ⟨C,by simp⟩⟩
   rw[Yu<|P6 G]at w;obtain⟨u',r',q⟩:=hl j y v' g w e3;exists u',r';obtain⟨k,e⟩|⟨k,c,e,z⟩:=q
   ·refine .inl ⟨k,?_⟩;have:y≠x:=λe=>G<|tE hN g<|e▸N;simp_all
   exact .inr ⟨k,c,e,z.sameBut f<|D y c e⟩
  ·obtain⟨W,z⟩:=I.cell y c e;exact⟨W,z.sameBut f<|D y c e⟩
  obtain⟨e,n,Y,nf,d⟩:=I.pin p hp;exact⟨(f.2 p.1 Y).trans e,n,Y,nf,d⟩
 have J:X.fn x=true:=by
  simp_all
 obtain⟨c,l⟩:=I.ok.has x<|.inl C;obtain⟨W,z⟩:=I.cell x c l;refine wpAny_storeName_cell I.ok.kind C l z λL XW f=>?_;obtain⟨oc,T,as⟩:=id z;refine h _ ⟨I.ok,I.os,I.bare,⟨λb o e n F t=>?_,λb o e n F t=>?_,I.base.free,λb o e t=>?_,I.base.tups,I.base.frzs,I.base.tbls⟩,⟨m,hn.sameBut f<|P6<|D x c l,λj y v' g w e3=>?_⟩,λy Z e=>?_,I.free,I.freeC,λp hp=>?_,O ⟨oc,T,I.freeC x c l⟩ f,by simpa using I.len⟩ ⟨c,f,.inr l⟩
 ·exact(f.2 b<|OQ<|Pe (OB e)<|I.ok.cab x c J l).trans<|I.base.keep b o e n F t
 ·obtain⟨sl,g⟩:=I.base.slot b o e n F t;exact⟨sl,(f.2 b<|OQ<|Pe (OB e)<|I.ok.cab x c J l).trans g⟩
 ·obtain⟨o',g⟩:=I.base.there b o e t;exact⟨o',(f.2 b<|OQ<|Pe (OB e)<|I.ok.cab x c J l).trans g⟩
 ·by_cases G:j=i
  ·subst G;rw[N]at g;cases g;rw[Xm B]at w;cases w;exact⟨u,r,.inr ⟨.inl C,c,l,XW⟩⟩
  rw[Yu<|P6 G]at w;obtain⟨u',r',q⟩:=hl j y v' g w e3;exists u',r';obtain q|⟨k,Z,e,z'⟩:=q
  ·exact .inl q
  refine .inr ⟨k,Z,e,z'.sameBut f ?_⟩;rintro rfl;exact G<|tE hN g<|I.ok.inj _ _ _ e l▸N
 ·by_cases U:Z=c
  ·subst U;exact⟨_,XW⟩
  obtain⟨w2,z2⟩:=I.cell y Z e;exact⟨w2,z2.sameBut f U⟩
 obtain⟨e,n,Y,nf,d⟩:=I.pin p hp;refine⟨(f.2 p.1 ?_).trans e,n,Y,nf,d⟩;grind
theorem mI{M:nk}{A:Pw}{E:K'->Od->Prop}{Q:W0->Od->Prop}(I:Inv X O b H s)(N:X.N.Nodup)(c:X.N[i]?=gV x)(d:IR X.env.scope x)(r:RelV v u)
  (h:∀a,Inv X O (b.set i<|gV v) H a->Q () a) (f:X.fn x=N7\/X.env.scope.names.lookup x=gV .local:=by first|exact .inl rfl|exact .inr rfl|assumption):wpAny M A (th X.env x u) Q E s:=
 pQ I N c d r (λa e z=>h a e) f
theorem Inv.call'(I:Inv X O g H s)(o:a.os=s.os)(u:Un (vF X.stack) ch H f s.heap a.heap)(h:HOk X.prog X.w f a.heap)(i:Wh a.gens)
  (d:∀b∈ch,(b∈X.ex\/X.s₀.heap.objs.size<=b)/\b≠X.env.locals/\(∀x c,X.env.cells.lookup x=gV c->c≠b)/\∀p∈X.pn++O,p.1≠b):Inv X O g f a:=by
 obtain⟨k,G,D,t,j⟩:=a;have e:=o;subst e;exact I.call u h i d
abbrev XK:=K'->M' J'->Hp->Prop
abbrev St:=ab<|M' V
abbrev VK:=V->Hp->Prop
abbrev TE:=St->Hp->VK->Prop
abbrev TT:=St->Hp->(Oe->Hp->Prop)->Prop
abbrev TA:=St->Hp->(ab V->Hp->Prop)->Prop
structure iX where
 nx:St->Hp->Prop
 rt:VK
 bk:St->Hp->Prop:=λ_ _=>False
 ct:St->Hp->Prop:=λ_ _=>False
abbrev TS:=iX->St->Hp->Prop
def EP(X:Cx)(O:ab (J'×Obj))(a:St)(Q:VK)(u:K')(s:Od):Prop:=∃v H,Inv X O a H s/\RelV v u/\Q v H
def TP(X:Cx)(O:ab (J'×Obj))(a:St)(Q:Oe->Hp->Prop)(b:Oe)(s:Od):Prop:=∃H,Inv X O a H s/\Q b H
def AP(X:Cx)(O:ab (J'×Obj))(a:St)(Q:ab V->Hp->Prop)(u:ab K')(s:Od):Prop:=∃v H,Inv X O a H s/\Vals v u/\Q v H
def SP(X:Cx)(O:ab (J'×Obj))(D:iX)(f:Flow)(s:Od):Prop:=
 match f with
 |.next=>∃a H,Inv X O a H s/\D.nx a H
 |.brk=>∃a H,Inv X O a H s/\D.bk a H
 |.cont=>∃a H,Inv X O a H s/\D.ct a H
 |.ret u=>∃v a H,Inv X O a H s/\RelV v u/\D.rt v H
def PE(X:Cx)(e:PD)(t:TE):Prop:=
 ∀(O:ab (J'×Obj)) (s:Od) (a:St) (H:Hp) (Q:VK),Inv X O a H s->t a H Q->wpAny (OS X.prog X.w) X.A (QA e X.env) (EP X O a Q) X.xe s
def PT(X:Cx)(e:PD)(t:TT):Prop:=
 ∀(O:ab (J'×Obj)) (s:Od) (a:St) (H:Hp) (Q:Oe->Hp->Prop),Inv X O a H s->t a H Q->wpAny (OS X.prog X.w) X.A (isTrue e X.env<|QA e X.env) (TP X O a Q) X.xe s
def PW(X:Cx)(e:PD)(t:TT):Prop:=
 ∀(Y:Sem K') (O:ab (J'×Obj)) (s:Od) (a:St) (H:Hp) (Q:Oe->Hp->Prop),Inv X O a H s->t a H Q->wpAny (OS X.prog X.w) X.A (isTrue e X.env Y) (TP X O a Q) X.xe s
theorem PW.pt(h:PW X e t):PT X e t:=h _
def PA(X:Cx)(e:ab PD)(t:TA):Prop:=
 ∀(p:Pos) (O:ab (J'×Obj)) (s:Od) (a:St) (H:Hp) (Q:ab V->Hp->Prop),Inv X O a H s->t a H Q->wpAny (OS X.prog X.w) X.A (spliced<|RE p<|OW e X.env) (AP X O a Q) X.xe s
def PS(X:Cx)(st:PQ)(t:TS):Prop:=
 ∀(O:ab (J'×Obj)) (s:Od) (a:St) (H:Hp) (D:iX),Inv X O a H s->t D a H->wpAny (OS X.prog X.w) X.A (exec st X.env) (SP X O D) X.xe s
def PSs(X:Cx)(st:ab PQ)(t:TS):Prop:=
 ∀(O:ab (J'×Obj)) (s:Od) (a:St) (H:Hp) (D:iX),Inv X O a H s->t D a H->wpAny (OS X.prog X.w) X.A (execs st X.env) (SP X O D) X.xe s
theorem bL{b:Type}{t:Sem b}{Q q:b->Od->Prop}{M:nk}{A:Pw}{E:K'->Od->Prop}{s:Od}(h:wpAny M A t Q E s)(H:∀a s,Q a s->q a s):wpAny M A t q E s:=Qx h H λz z x=>x
inductive Ht (i:Nat)(a:St)(H:Hp)(Q:VK):Prop
 |mk (v:V)(h:a[i]?=gV (gV v)) (q:Q v H)
def mJ(i:Nat):TE:=λa H Q=>Ht i a H Q
def tC(v:V):TE:=λ_ H Q=>Q v H
theorem A5{X:Cx}{i:Nat}{x:Str}{p:Pos}(N:X.N[i]?=gV x) (j:KU X.env.scope x) (d:(x == ("__debug__":Str))=false:=by decide) (b:(x == ("__classdict__":Str))=false:=by decide):PE X (.Name x p) (mJ i):=by
 intro O s n H Q I h;obtain⟨v,e,h⟩:=h;obtain⟨m,o,q⟩:=I.loc;obtain⟨u,r,l⟩:=q i x v N e j;have f:EP X O n Q u s:=⟨v,H,I,r,h⟩;obtain⟨k,t⟩|⟨k,c,g,a⟩:=l
 ·exact vu (X2 I.ok.kind k o t f) d
 obtain k|k:=k
 ·exact vu (YN I.ok.kind k g a f) d
 exact vu (wpAny_loadName_free I.ok.kind k g a f b) d
theorem bW{i j p}:PE X (.Constant (.int i) j p) (tC<|.int i):=λz z z H z I h=>wpAny_Constant_int ⟨.int i,H,I.tok _,⟨_,rfl⟩,h⟩
theorem fj{b j p}:PE X (.Constant (.bool b) j p) (tC<|.bl b):=λz z z H z I h=>Constant_bool ⟨.bl b,H,I,rfl,h⟩
theorem ke{j p}:PE X (.Constant .none j p) (tC .non):=λz z z H z I h=>Constant_none ⟨.non,H,I,rfl,h⟩
theorem gT{x j p}:PE X (.Constant (.str x) j p) (tC<|.str x):=λz z z H z I h=>Calls.Constant_str ⟨.str x,H,I.tok _,⟨_,rfl⟩,h⟩
def Gl(X:Cx)(x:Str):Prop:=X.env.kindOf x=gV .globalImplicit
theorem lZ{E:K'->Od->Prop}{p:Pos}(I:Inv X O a H s)(g:Gl X x)(m:X.mg x=gV u)(h:Q u s)
  (d:(x == ("__debug__":Str))=false:=by decide):wpAny (OS X.prog X.w) X.A (QA (.Name x p) X.env) Q E s:=
 VO I.ok.kind g (Calls.loadGlobal_global (by rw[I.ok.glob];exact I.mod.glob.keeps I.bk) m h) d
theorem dZ{E:K'->Od->Prop}{p:Pos}(I:Inv X O c H s)(g:Gl X x)(m:X.mg x=Oa)(v:Uu x=gV u)(h:Q u s)
  (n:x≠"__name__":=by decide) (d:(x == ("__debug__":Str))=false:=by decide):wpAny (OS X.prog X.w) X.A (QA (.Name x p) X.env) Q E s:=by
 obtain⟨M,a,b⟩:=I.mod.blt;exact VO I.ok.kind g (Calls.loadGlobal_builtin (by rw[I.ok.glob];exact I.mod.glob.keeps I.bk) m (by rw[I.ok.blt];exact a.keeps I.bk) ((b x n).trans v) h) d
theorem Fd(g:Gl X x)(m:X.mg x=gV u)(r:RelV v u)(d:(x == ("__debug__":Str))=false:=by decide):PE X (.Name x p) (tC v):=
 λz z z H z I h=>lZ I g m ⟨v,H,I,r,h⟩ d
theorem l5{x:Str}{v:V}{u:K'}{p:Pos}(g:Gl X x)(m:X.mg x=Oa)(a:Uu x=gV u)(r:RelV v u)(n:x≠"__name__":=by decide)(d:(x == ("__debug__":Str))=false:=by decide):PE X (.Name x p) (tC v):=
 λz z z H z I h=>dZ I g m a ⟨v,H,I,r,h⟩ n d
def PC(X:Cx)(o:aaJ)(a b:PD)(t:TE):Prop:=
 ∀(O:ab (J'×Obj)) (s:Od) (e:St) (H:Hp) (Q:VK),Inv X O e H s->t e H Q->
  wpAny (OS X.prog X.w) X.A (QA a X.env) (λv c=>wpAny (OS X.prog X.w) X.A (QA b X.env) (λu d=>wpAny (OS X.prog X.w) X.A (PX o v u) (EP X O e Q) X.xe d) X.xe c) X.xe s
inductive IS (x:V)(Q:Oe->Hp->Prop)(H:Hp):Prop
 |mk (c:Oe)(h:x=.bl c)(q:Q c H)
def tB(t:TE):TT:=λa H Q=>t a H λx h=>IS x Q h
theorem vG(h:PC X o a b t)(e:SN o b=false:=by first|exact nobehind _ (by decide) (by decide)|rfl):PT X (.Compare a [o] [b] p) (tB t):=by
 intro O s f H Q I w;refine XE (bL (h O s f H _ I w) λv l e=>bL e λu m g=>bL g λc n ⟨x,i,j,r,k⟩=>?_) e;obtain⟨d,rfl,q⟩:=k;cases r;exact Qf ⟨i,j,q⟩
theorem re(h:PE X e t)(a:∀Y,isTrue e X.env Y=(do let v <-Y;YG e.pos;Wb [v] (truthy v)):=by intro z;rfl):PT X e (tB t):=by
 intro O s b H Q I w;refine isTrue_plain (bL (h O s b H _ I w) λv g ⟨x,c,i,r,f⟩=>?_)<|a _;obtain⟨d,rfl,q⟩:=f;cases r;exact Qf ⟨c,i,q⟩
def MZ(t u:TT):TT:=λa H Q=>t a H λc h=>if c=N7 then u a h Q else Q Oc h
def NG(t u:TT):TT:=λa H Q=>t a H λc h=>if c=N7 then Q N7 h else u a h Q
def M0(t:TT):TT:=λa H Q=>t a H λc h=>Q (!c) h
theorem xh(b:PT X a t):PW X (.BoolOp .And [a] p) t:=by
 intro w O s d H Q I h;refine isTrue_and<|bL (b O s d H Q I h) λc f e=>?_;cases c with
 |true=>exact isTrue_and_nil e
 |false=>exact e
theorem vH(b:PT X a t):PW X (.BoolOp .Or [a] p) t:=by
 intro w O s d H Q I h;refine isTrue_or<|bL (b O s d H Q I h) λc f e=>?_;cases c with
 |false=>exact isTrue_or_nil e
 |true=>exact e
theorem rf(f:PT X a T)(g:PW X (.BoolOp .And (b::r) p) t):PW X (.BoolOp .And (a::b::r) p) (MZ T t):=by
 intro w O s d H Q I h;refine isTrue_and<|bL (f O s d H _ I h) λc j ⟨e,i,q⟩=>?_;cases c with
 |true=>exact g w O j d e Q i q
 |false=>assumption
theorem lu(f:PT X a T)(g:PW X (.BoolOp .Or (b::r) p) t):PW X (.BoolOp .Or (a::b::r) p) (NG T t):=by
 intro w O s d H Q I h;refine isTrue_or<|bL (f O s d H _ I h) λc j ⟨e,i,q⟩=>?_;cases c with
 |true=>assumption
 |false=>exact g w O j d e Q i q
theorem mK(b:PT X a t):PT X (.UnaryOp .Not a p) (M0 t):=by
 intro O s d H Q I h;exact isTrue_not<|b O s d H _ I h
def K3(t T:TE):TE:=λa H Q=>t a H λx h=>∃c,x=.bl c/\if c=N7 then T a h Q else Q (.bl Oc) h
def M1(t T:TE):TE:=λa H Q=>t a H λx h=>∃c,x=.bl c/\if c=N7 then Q (.bl N7) h else T a h Q
def K4(t:TE):TE:=λa H Q=>t a H λx h=>∃c,x=.bl c/\Q (.bl (!c)) h
theorem rg{o}(h:PE X a t):PE X (.BoolOp o [a] p) t:=λO s b H Q I w=>BoolOp_one<|h O s b H Q I w
theorem rh(f:PE X a t)(g:PE X (.BoolOp .And (b::r) p) T):PE X (.BoolOp .And (a::b::r) p) (K3 t T):=by
 intro O s d H Q I h;refine BoolOp_and<|bL (f O s d H _ I h) λv j z=>?_;obtain⟨x,e,i,k,q⟩:=z;obtain⟨c,rfl,q⟩:=q;cases k;refine Qf ?_;cases c with
 |true=>exact g O j d e Q i q
 |false=>exact⟨.bl Oc,e,i,rfl,q⟩
theorem K5(f:PE X a t)(g:PE X (.BoolOp .Or (b::r) p) T):PE X (.BoolOp .Or (a::b::r) p) (M1 t T):=by
 intro O s d H Q I h;refine BoolOp_or<|bL (f O s d H _ I h) λv j z=>?_;obtain⟨x,e,i,k,q⟩:=z;obtain⟨c,rfl,q⟩:=q;cases k;refine Qf ?_;cases c with
 |false=>exact g O j d e Q i q
 |true=>exact⟨.bl N7,e,i,rfl,q⟩
theorem IT(b:PE X a t):PE X (.UnaryOp .Not a p) (K4 t):=by
 intro O s d H Q I h;refine UnaryOp_<|bL (b O s d H _ I h) λv f z=>?_;obtain⟨x,e,i,r,q⟩:=z;obtain⟨c,rfl,q⟩:=q;cases r;exact not_of<|Qf ⟨.bl _,e,i,rfl,q⟩
def NV(t:TT)(T b:TE):TE:=λa H Q=>t a H λc h=>if c=N7 then T a h Q else b a h Q
theorem mL(j:PT X c t)(k:PE X a T)(l:PE X b m):PE X (.IfExp c a b p) (NV t T m):=by
 intro O s e H Q I h;refine wpAny_IfExp<|bL (j O s e H _ I h) λd f z=>?_;obtain⟨g,i,q⟩:=z;cases d with
 |true=>exact k O f e g Q i q
 |false=>exact l O f e g Q i q
def SqL(K:C')(H:Hp)(a:J')(x:ab V):Prop:=
 Rd H a (.lst x)\/
  ∃(o:Obj) (P:Pi K') (n:Nat),K.lookup a=gV o/\o.cls=.type "list"/\o.dict=Oa/\o.data=.seq P n/\P.size<=sizeLine/\Vals x P.toList
def SqT(K:C')(H:Hp)(a:J')(x:ab V):Prop:=
 Rd H a (.tup x)\/
  ∃(o:Obj) (P:Pi K') (n:Nat),K.lookup a=gV o/\o.cls=.type "tuple"/\o.data=.seq P n/\P.size<=sizeLine/\Vals x P.toList
noncomputable def M3:K'->M' V
 |.none=>gV .non
 |.bool b=>gV<|.bl b
 |.int i _=>gV<|.int i
 |.str x _=>gV<|.str x
 |.bytes b _=>gV<|.byt b
 |.float b _=>gV<|.flt b
 |.ref a=>gV<|.ref a
 |.type n=>gV<|.ty n
 |_=>Oa
theorem RelV.abs(r:RelV x u):M3 u=gV x:=by
 cases x with
 |non=>cases r;rfl
 |bl _=>cases r;rfl
 |int _=>obtain⟨t,rfl⟩:=r;rfl
 |str _=>obtain⟨t,rfl⟩:=r;rfl
 |byt _=>obtain⟨t,rfl⟩:=r;rfl
 |flt _=>obtain⟨t,rfl⟩:=r;rfl
 |ref _=>cases r;rfl
 |ty _=>cases r;rfl
theorem RelV.inj(r:RelV x u)(q:RelV y u):x=y:=Oy<|r.abs.symm.trans q.abs
theorem Vals.inj:∀{x y:ab V} {u:ab K'},Vals x u->Vals y u->x=y:=by
 intro x y u h H;induction h generalizing y with
 |nil=>cases H;rfl
 |cons r t i=>
  cases H with
  |cons a T=>rw[r.inj a,i T]
theorem SqL.of{K:C'}(h:H a=gV (.lst x)):SqL K H a x:=.inl<|.inl h
theorem SqT.of{K:C'}(h:H a=gV (.tup x)):SqT K H a x:=.inl<|.inl h
theorem Inv.list(I:Inv X O f H s)(h:SqL X.K H a x):∃P,Vals x P/\PlainL s.heap a P.toArray/\x.length<=sizeLine:=by
 obtain h|⟨o,P,n,k,c,d,b,g,r⟩:=h
 ·obtain⟨z,P,n,r,e⟩:=h.ok I.hok;exact⟨P,r,⟨_,n,e,rfl,rfl,rfl⟩,z⟩
 exists P.toList,r,⟨o,n,I.kIn a o k,c,d,by assumption⟩;have e:=r.length;simp_all
theorem Inv.tuple(I:Inv X O d H s)(h:SqT X.K H a x):∃P,Vals x P/\lC s.heap a P.toArray/\x.length<=sizeLine:=by
 obtain h|⟨o,P,n,k,c,b,f,r⟩:=h
 ·obtain⟨z,P,r,p⟩:=h.ok I.hok;exact⟨P,r,p,z⟩
 exists P.toList,r,⟨o,I.kIn a o k,c,n,by assumption⟩;have e:=r.length;simp_all
theorem Inv.list_inj(I:Inv X O f H s)(h:SqL X.K H a x)(h':SqL X.K H a y):x=y:=by
 obtain⟨P,r,⟨o,n,e,z,z,d⟩,z⟩:=I.list h;obtain⟨i,b,⟨g,N,E,z,z,D⟩,z⟩:=I.list h';rw[e]at E;cases E;rw[d]at D;injection D with c _;have:P=i:=by simpa using Pa Z8 c
 subst this;exact r.inj b
theorem Inv.tuple_inj(I:Inv X O f H s)(h:SqT X.K H a x)(h':SqT X.K H a y):x=y:=by
 obtain⟨P,r,⟨o,e,z,n,d⟩,z⟩:=I.tuple h;obtain⟨i,b,⟨g,E,z,N,D⟩,z⟩:=I.tuple h';rw[e]at E;cases E;rw[d]at D;injection D with c _;have:P=i:=by simpa using Pa Z8 c
 subst this;exact r.inj b
noncomputable abbrev Cx.wish(X:Cx)(E:K'->Od->Prop):Cx:={X with xe:=E}
noncomputable abbrev Cx.nox(X:Cx):Cx:=X.wish λ_ _=>False
theorem Cx.Ok.wish{X:Cx}(ok:X.Ok)(E:K'->Od->Prop):(X.wish E).Ok:=
 ⟨ok.mod,ok.kind,ok.glob,ok.blt,ok.above,ok.inj,ok.has,ok.cab,ok.hd,ok.frames,ok.stk,ok.exf,ok.bs,ok.bsz,ok.noex,ok.exfs,ok.funs,ok.frf⟩
theorem Cx.Ok.unwish{X:Cx}{E:K'->Od->Prop}(ok:(X.wish E).Ok):X.Ok:=
 ⟨ok.mod,ok.kind,ok.glob,ok.blt,ok.above,ok.inj,ok.has,ok.cab,ok.hd,ok.frames,ok.stk,ok.exf,ok.bs,ok.bsz,ok.noex,ok.exfs,ok.funs,ok.frf⟩
theorem Inv.wish(I:Inv X O a H s)(E:K'->Od->Prop):Inv (X.wish E) O a H s:=⟨I.ok.wish E,I.os,I.bare,I.base,I.loc,I.cell,I.free,I.freeC,I.pin,I.hok,I.len⟩
theorem Inv.unwish(I:Inv (X.wish E) O a H s):Inv X O a H s:=⟨I.ok.unwish,I.os,I.bare,I.base,I.loc,I.cell,I.free,I.freeC,I.pin,I.hok,I.len⟩
theorem SP.unwish(h:SP (X.wish E) O D f s):SP X O D f s:=by
 cases f with
 |next=>obtain⟨a,H,I,q⟩:=h;exact⟨a,H,I.unwish,q⟩
 |brk=>obtain⟨a,H,I,q⟩:=h;exact⟨a,H,I.unwish,q⟩
 |cont=>obtain⟨a,H,I,q⟩:=h;exact⟨a,H,I.unwish,q⟩
 |ret u=>obtain⟨v,a,H,I,r,q⟩:=h;exact⟨v,a,H,I.unwish,r,q⟩
theorem PSs.nox{st:ab PQ}{t:TS}(h:PSs X.nox st t):PSs X st t:=λO s a H D I w=>
 Qx (h O s a H D (I.wish _) w) (λy y q=>q.unwish) λy y z=>Qc z
section
variable {X:Cx}{st:PQ}{t:TS}
def A6:TS:=λD a H=>D.nx a H
def zn(t u:TS):TS:=λD a H=>t {D with nx:=u D} a H
theorem aN:PSs X [] A6:=λz z a H z I h=>Vd ⟨a,H,I,h⟩
theorem ae{r:ab PQ}{u:TS}(b:PS X st t)(c:PSs X r u):PSs X (st::r) (zn t u):=by
 intro O s d H D I h;refine aae<|bL (b O s d H _ I h) λf e q=>?_;cases f with
 |next=>
  obtain⟨a,g,i,q⟩:=q;exact c O e a g D i q
 |ret v=>exact q
 |brk=>exact q
 |cont=>exact q
theorem ax(a:PS X st t):PSs X [st] t:=by
 intro O s b H D I h;refine aae<|bL (a O s b H D I h) λf c q=>?_;cases f with
 |next=>exact Vd q
 |ret v=>exact q
 |brk=>exact q
 |cont=>exact q
theorem Ff:PS X (.Pass p) A6:=λz z a H z I h=>wpAny_Pass ⟨a,H,I,h⟩
theorem Inv.quiet(I:Inv X O a H s):interactive X.env=false:=by simp[interactive,I.ok.kind]
def K6(T:TE):TS:=λD a H=>T a H λ_ h=>D.nx a h
theorem di(b:PE X e T)(c:VG e Oa p.line X.env=pure false:=by rfl):PS X (.Expr e p) (K6 T):=by
 intro O s a H D I h;exact wpAny_Expr_any (bL (b O s a H _ I h) (by rintro v f ⟨x,d,i,r,q⟩;exact ⟨a,d,i,q⟩)) I.quiet c
def Fg(T:TE):TS:=λD a H=>T a H D.rt
theorem IU(b:PE X e T):PS X (.Return (gV e) p) (Fg T):=by
 intro O s a H D I h;exact wpAny_Return_some<|bL (b O s a H _ I h) (by rintro v d ⟨x,c,i,r,q⟩;exact ⟨x,a,c,i,r,q⟩)
def K7:TS:=λD _ H=>D.rt .non H
theorem Fh:PS X (.Return Oa p) K7:=λz z a H z I h=>wpAny_Return_none ⟨.non,a,H,I,rfl,h⟩
def IV(c:TT)(t u:TS):TS:=λD a H=>c a H λb h=>if b=N7 then t D a h else u D a h
theorem bM(j:PT X c T)(k:PSs X a t)(l:PSs X b u):PS X (.If c a b p) (IV T t u):=by
 intro O s e H D I h;refine wpAny_If<|bL (j O s e H _ I h) λd f z=>?_;obtain⟨g,i,q⟩:=z;cases d with
 |true=>exact k O f e g D i q
 |false=>exact l O f e g D i q
def IW:TS:=λ_ _ _=>False
theorem fX:PS X st IW:=λz z z z z z h=>h.elim
end
abbrev TG:=V->St->Hp->(St->Hp->Prop)->Prop
abbrev Hu:=ab V->St->Hp->(St->Hp->Prop)->Prop
def PG(X:Cx)(z:PD)(t:TG):Prop:=
 ∀(O:ab (J'×Obj)) (s:Od) (b:St) (H:Hp) (v:V) (u:K') (Q:St->Hp->Prop),Inv X O b H s->RelV v u->t v b H Q->
  wpAny (OS X.prog X.w) X.A (oa z X.env u) (λ_ c=>∃a h,Inv X O a h c/\Q a h) X.xe s
def IX(X:Cx)(T:ab PD)(t:Hu):Prop:=
 ∀(O:ab (J'×Obj)) (s:Od) (b:St) (H:Hp) (v:ab V) (u:ab K') (Q:St->Hp->Prop),Inv X O b H s->Vals v u->t v b H Q->
  wpAny (OS X.prog X.w) X.A (assignInOrder ((T9 T X.env).map (·.2)) u) (λ_ c=>∃a h,Inv X O a h c/\Q a h) X.xe s
abbrev ML:=V->V->Hp->VK->Prop
def NH(X:Cx)(o:ad7)(t:ML):Prop:=
 ∀(O:ab (J'×Obj)) (s:Od) (a:St) (H:Hp) (x y:V) (v u:K') (Q:VK),Inv X O a H s->RelV x v->RelV y u->t x y H Q->
  wpAny (OS X.prog X.w) X.A (inplaceOp o v u) (EP X O a Q) X.xe s
section
variable {X:Cx}{pos:Pos}
def dH(i:Nat):TG:=λv a H Q=>Q (a.set i<|gV v) H
theorem xi(N:X.N.Nodup)(a:X.N[i]?=gV x)(b:IR X.env.scope x)(f:X.fn x=N7\/X.env.scope.names.lookup x=gV .local:=by first|exact .inl rfl|exact .inr rfl|assumption):PG X (.Name x pos) (dH i):=by
 intro O s d H v u Q I r h;exact ZH<|mI I N a b r (λe c=>⟨_,H,c,h⟩) f
def M4:Hu:=λv a H Q=>v=[]/\Q a H
def K8(t:TG)(u:Hu):Hu:=λs b H Q=>∃v r,s=v::r/\t v b H λa h=>u r a h Q
theorem l7:IX X [] M4:=by
 intro O s a H v u Q I r h;obtain⟨e,h⟩:=h;exact assignInOrder_nil ⟨a,H,I,h⟩
theorem fz(b:PG X e t)(c:IX X E u)
  (d:(T9 (e::E) X.env).map (·.2)=oa e X.env::(T9 E X.env).map (·.2):=by rfl):IX X (e::E) (K8 t u):=by
 intro O s f H m U Q I r h;obtain⟨v,n,g,h⟩:=h;subst g;cases r with
 |cons r i=>
  rw[d];exact assignInOrder_cons<|bL (b O s f H _ _ _ I r h) (by rintro z j ⟨a,k,l,q⟩;exact c O j a k _ _ Q l i q)
def K9(K:C')(n:Nat)(t:Hu):TG:=λv b H Q=>∃a x,v=.ref a/\SqT K H a x/\x.length=n/\t x b H Q
theorem A7{k:Nat}{n:Nat}(g:X.calm=N7)(h:IX X E t)
  (i:(T9 E X.env).length=n:=by rfl) (c:(T9 E X.env).findIdx? (·.1)=none:=by rfl):PG X (.Tuple E k pos) (K9 X.K n t):=by
 intro O s d H v u Q I r w;obtain⟨a,x,j,q,l,w⟩:=w;subst j;cases r;obtain⟨P,f,m,A⟩:=I.tuple q;refine assign_Tuple_tuple (I.ok.hd g) m (by simp[i,<-l,f.length]) c λp y=>?_;have z:Inv X O d H {s with heap:=p}:=I.kept λb o e=>y b o (OQ<|OB e) e;exact h O _ d H x _ Q z (by assumption) w
def IY(t:TE)(g:TG):TS:=λD a H=>t a H λx h=>g x a h D.nx
theorem A8(b:PE X e T)(c:PG X t g)(d:swapsWithSole [t] e pos.line X.env=pure false:=by rfl)(w:swappedStores [t] e X.env=pure none:=by rfl)
  (f:(T9 [t] X.env).map (·.2)=[oa t X.env]:=by rfl):PS X (.Assign [t] e pos) (IY T g):=by
 intro O s a H D I h;refine wpAny_Assign_stores (bL (b O s a H _ I h) λv i z=>?_) d w;obtain⟨x,j,k,r,Q⟩:=z;rw[f];exact bL (c O i a j x v _ k r Q) λy l q=>q
theorem IZ(N:X.N.Nodup)(a:X.N[i]?=gV x)(b:IR X.env.scope x)(c:PE X e t)(d:VG e (gV<|.Name x T) pos.line X.env=pure false:=by rfl)(f:X.fn x=N7\/X.env.scope.names.lookup x=gV .local:=by first|exact .inl rfl|exact .inr rfl|assumption):
  PS X (.Assign [.Name x T] e pos) (IY t<|dH i):=by
 intro O s g H D I h;exact wpAny_Assign_Name (bL (c O s g H _ I h) (by rintro v m ⟨y,j,k,r,q⟩;exact mI k N a b r (λn l=>⟨_,j,l,q⟩) f)) d
def M5(i:Nat)(t:TE)(T:ML):TS:=λD a H=>∃x,a[i]?=gV (gV x)/\t a H λy h=>T x y h λz b=>D.nx (a.set i<|gV z) b
theorem I_{T:Pos}(N:X.N.Nodup)(j:X.N[i]?=gV x)(f:IR X.env.scope x)(p:PE X e t)(q:NH X o B)(C:X.fn x=N7\/X.env.scope.names.lookup x=gV .local:=by first|exact .inl rfl|exact .inr rfl|assumption):
  PS X (.AugAssign (.Name x T) o e pos) (M5 i t B):=by
 intro O s n H D I h;obtain⟨v,E,h⟩:=h;obtain⟨m,F,G⟩:=I.loc;have g:KU X.env.scope x:=by obtain k|k:=f;exact .inl k;exact .inr<|.inl k
 obtain⟨u,r,l⟩:=G i x v j E g;refine wpAny_AugAssign_Name ?_;have go:wpAny (OS _ X.w) X.A (QA e _) (λw b=>wpAny (OS _ X.w) X.A _ (λr d=>wpAny (OS X.prog X.w) X.A (th _ x r) (λ_=>SP X O D .next) X.xe d) _ b) _ s:=bL (p O s n H _ I h) (by rintro w J ⟨y,L,M,P,Q⟩;exact bL (q O J n L v y u w _ M r P Q) (by rintro z s2 ⟨zv,U,W,Y,Z⟩;exact mI W N j f Y (λs3 I3=>⟨_,U,I3,Z⟩) C))
 obtain⟨a,hm⟩|⟨a,c,hc,A⟩:=l
 ·exact X2 I.ok.kind a F hm go
 obtain a|a:=a
 ·exact YN I.ok.kind a hc A go
 obtain k|k:=f
 ·have:X.env.scope.names.lookup x=gV _:=a;rw[k]at this;cases this
 have:X.env.scope.names.lookup x=gV _:=a;rw[k]at this;cases this
def NW(f:Int->Int->Int):ML:=λx y H Q=>∃i j,x=.int i/\y=.int j/\Q (.int<|f i j) H
theorem Ja:NH X .Add (NW λi j=>i+j):=by
 intro O s b H x y v u Q I r a h;obtain⟨i,j,e,E,q⟩:=h;subst e;subst E;obtain⟨t,rfl⟩:=r;obtain⟨T,rfl⟩:=a;exact iadd_int ⟨.int _,H,I.tok _,⟨_,rfl⟩,q⟩
end
def Jb(c:TT)(t:TS):TS:=λD a H=>∃W:Nat->St->Hp->Prop,(∃m,W m a H)/\∀m a H,W m a H->
 c a H λb h=>if b=N7 then∃N:St->Hp->Prop,(∀d e,N d e->∃M,M<m/\W M d e)/\t {D with nx:=N,ct:=N,bk:=D.nx} a h else D.nx a h
theorem jm(p:sy (OS X.prog X.w) X.A X.env X.xe)(x:PT X c T)(y:PSs X B z):PS X (.While c B [] P) (Jb T z):=by
 intro O s C H D I h;obtain⟨W,⟨M,E⟩,A⟩:=h;refine wpAny_While<|codeAny_whileLoop (λn F=>∃e l,Inv X O e l F/\W n e l) ?_ M ⟨C,H,I,E⟩;rintro n G ⟨d,o,J,L⟩;refine R5 p<|bL (x O G d o _ J<|A n d o L) λb U Z=>?_;obtain⟨r,t,q⟩:=Z;cases b with
 |true=>
  obtain⟨N,u,q⟩:=q;refine R5 p<|bL (y O U d r _ t q) λf Y Q=>?_;cases f with
  |next=>
   obtain⟨a,g,i,j⟩:=Q;obtain⟨m,k,w⟩:=u a g j;exact⟨m,k,a,g,i,w⟩
  |cont=>
   obtain⟨a,g,i,j⟩:=Q;obtain⟨m,k,w⟩:=u a g j;exact⟨m,k,a,g,i,w⟩
  |brk=>exact Q
  |ret v=>exact Q
 |false=>
  exact Vd ⟨d,r,t,q⟩
structure It where
 go:Nat->Hp->Prop
 yld:Nat->Hp->V->Hp->Prop
 stop:Nat->Hp->Prop
def pE(X:Cx)(O:ab (J'×Obj))(H:Hp)(b:J'):Prop:=
 H b=Oa/\b≠X.env.locals/\b∉X.fs/\(b∈X.ex\/X.s₀.heap.objs.size<=b)/\(∀x c,X.env.cells.lookup x=gV c->c≠b)/\∀p∈X.pn++O,p.1≠b
theorem Inv.fpOk{X:Cx}{O:ab (J'×Obj)}{d:St}{H a:Hp}{s:Od}{b:J'}(I:Inv X O d H s)(h:s.heap.objs.size<=b)(n:a b=Oa):pE X O a b:=by
 refine⟨n,R_<|Pe I.lt h,I.nofs h,.inr<|Pm I.sz h,λx c e z=>?_,λp f z=>?_⟩
 ·obtain⟨v,q⟩:=I.cell x c e;exact absurd (Pe q.lt<|by rwa[z])<|Q6 _
 exact absurd (Pe (OB (I.pin p f).1)<|by rwa[z])<|Q6 _
structure vI (P:Ou)(w:ON)(K:C')(tg:PD)(J:It)(fp:ab J')(it:J')(tn:Nat->Pd->Prop):Prop where
 mem:it∈fp
 obj:∀i h,tn i h->∀b∈fp,∃o,h.get? b=gV o/\∀v,o.data≠.cell v
 keep:∀i h h',tn i h->(∀b∈fp,∀o,h.get? b=gV o->h'.get? b=gV o)->tn i h'
 item:∀(X:Cx),X.prog=P->X.w=w->X.K=K->X.calm=N7->∀(i:Nat) (Og:ab (J'×Obj)) (s:Od) (σ:St) (H:Hp) (E:K'->Od->Prop),Inv X Og σ H s->(∀b∈fp,pE X Og H b)->tn i s.heap->J.go i H->
  wpAny (OS P w) X.A (UT<|.ref it) (λr s1=>∃u,r=gV u/\
   wpAny (OS P w) X.A (Ve tg (.ref it) u) (λ_ s2=>∃x H',Inv X Og σ H' s2/\RelV x u/\J.yld i H x H'/\tn (i+1) s2.heap/\∀b∈fp,H' b=Oa) E s1) E s
 done:∀(X:Cx),X.prog=P->X.w=w->X.K=K->X.calm=N7->∀(i:Nat) (Og:ab (J'×Obj)) (s:Od) (σ:St) (H:Hp) (E:K'->Od->Prop),Inv X Og σ H s->(∀b∈fp,pE X Og H b)->tn i s.heap->J.stop i H->
  wpAny (OS P w) X.A (UT<|.ref it) (λr s1=>r=Oa/\Inv X Og σ H s1) E s
 self:∀(A:Pw) (i:Nat) (s:Od) (Q:K'->Od->Prop) (E:K'->Od->Prop),tn i s.heap->Q (.ref it) s->wpAny (OS P w) A (X4<|.ref it) Q E s
abbrev TI:=St->Hp->(It->Hp->Prop)->Prop
def M6(X:Cx)(O:ab (J'×Obj))(a:St)(T:PD)(R:It->Hp->Prop)(i:K')(s:Od):Prop:=
 ∃(I:J') (f:ab J') (t:Nat->Pd->Prop) (J:It) (H:Hp),i=.ref I/\Inv X O a H s/\vI X.prog X.w X.K T J f I t/\t 0 s.heap/\(∀b∈f,pE X O H b)/\R J H
def PI(X:Cx)(t i:PD)(w:TI):Prop:=
 ∀(O:ab (J'×Obj)) (s:Od) (a:St) (H:Hp) (R:It->Hp->Prop),Inv X O a H s->w a H R->
  wpAny (OS X.prog X.w) X.A (QA i X.env) (λv b=>wpAny (OS X.prog X.w) X.A (X4 v) (M6 X O a t R) X.xe b) X.xe s
theorem xj{M:nk}{A:Pw}{E:K'->Od->Prop}{t:PD}{u:K'}{Q:W0->Od->Prop}(a:s.heap.get? i=gV o)(c:o.cls=.type n)(d:o.data=.fields v)
  (b:["enumerate","zip","dict_itemiterator","dict_reverseitemiterator","odict_iterator","itertools.zip_longest","itertools.pairwise"].contains n=Oc) (H:Q () s):wpAny M A (Ve t (.ref i) u) Q E s:=by
 cases t<;>first
  |exact Of H
  |(cases u<;>first
    |exact Of H
    |(refine B'<|wpAny_load a ?_
      rw[c,d];show wpAny M A (if(["enumerate","zip","dict_itemiterator","dict_reverseitemiterator","odict_iterator","itertools.zip_longest","itertools.pairwise"].contains n&&v[0]? == gV _)=N7 then _ else _) Q E s
      rw[Ov<|by intro h;rw[b]at h;cases h];exact Of H))
noncomputable def E7(K:C')(a:J'):It:=
 ⟨λi H=>∃X x,SqL K H a X/\X[i]?=gV x,λi H x h=>h=H/\∀X,SqL K H a X->X[i]?=gV x,λi H=>∃X,SqL K H a X/\X.length<=i⟩
noncomputable def Jc(K:C')(a:J'):It:=
 ⟨λi H=>∃X x,SqT K H a X/\X[i]?=gV x,λi H x h=>h=H/\∀X,SqT K H a X->X[i]?=gV x,λi H=>∃X,SqT K H a X/\X.length<=i⟩
noncomputable def Fi(lo:Int)(n:Nat):It:=⟨λi _=>i<n,λi H x h=>h=H/\x=.int (lo+i),λi _=>n<=i⟩
theorem zo{P:Ou}{w:ON}{K:C'}{T:PD}(a t:J'):vI P w K T (E7 K a) [t] t (λi h=>h.IsListIter t a i) where
 mem:=by simp
 obj:=λi h st b f=>by
  have e:b=t:=by simpa using f
  subst e;obtain⟨o,e,c,d⟩:=st;exact⟨o,e,λv z=>by lia⟩
 keep:=λi h g st k=>st.at λo e=>k t (by simp) o e
 item:=by
  intro X l m n J i O s L H E I j st r;subst l m n;obtain⟨M,x,q,y⟩:=r;obtain⟨N,A,p,U⟩:=I.list q;obtain⟨u,W,Y⟩:=A.get y;obtain⟨F,B,Z,C,D,G⟩:=j t (by simp);refine wpAny_pyNext_list_item st p.isList (x:=u) (by simp_all) λg Q sb=>?_;have I1:Inv X O L H {s with heap:=g}:=I.turned (λb o f e=>(sb.2 b f).trans e) F B C D G;obtain⟨o,e,c,d⟩:=id Q;exact⟨u,rfl,xj e c d (by rfl) ⟨x,H,I1,Y,⟨rfl,λys hy=>by rwa[I.list_inj hy q]⟩,Q,λb f=>(j b f).1⟩⟩
 done:=by
  intro X l m n J i O s L H E I j st r;subst l m n;obtain⟨M,q,y⟩:=r;obtain⟨N,A,p,U⟩:=I.list q;obtain⟨F,B,Z,C,D,G⟩:=j t (by simp);have hl:=A.length;exact wpAny_pyNext_list_end (I.ok.hd J) st p.isList (by simp;simp_all) λg eb=>⟨rfl,I.turned (λb o f e=>eb b o f e) F B C D G⟩
 self:=λV V V V V st h=>wpAny_pyIter_listiter st h
theorem vJ{P:Ou}{w:ON}{K:C'}{T:PD}(a t:J'):vI P w K T (Jc K a) [t] t (λi h=>h.IsTupleIter t a i) where
 mem:=by simp
 obj:=λi h st b f=>by
  have e:b=t:=by simpa using f
  subst e;obtain⟨o,e,c,d⟩:=st;exact⟨o,e,λv z=>by lia⟩
 keep:=λi h g st k=>st.at λo e=>k t (by simp) o e
 item:=by
  intro X l m n L i O s M H E I j st r;subst l m n;obtain⟨N,x,q,y⟩:=r;obtain⟨A,B,p,U⟩:=I.tuple q;obtain⟨u,W,Y⟩:=B.get y;obtain⟨F,C,Z,D,G,J⟩:=j t (by simp);refine wpAny_pyNext_tuple_item st (p) (x:=u) (by simp_all) λg Q sb=>?_;have I1:Inv X O M H {s with heap:=g}:=I.turned (λb o f e=>(sb.2 b f).trans e) F C D G J;obtain⟨o,e,c,d⟩:=id Q;exact⟨u,rfl,xj e c d (by rfl) ⟨x,H,I1,Y,⟨rfl,λys hy=>by rwa[I.tuple_inj hy q]⟩,Q,λb f=>(j b f).1⟩⟩
 done:=by
  intro X l m n L i O s M H E I j st r;subst l m n;obtain⟨N,q,y⟩:=r;obtain⟨A,B,p,U⟩:=I.tuple q;obtain⟨F,C,Z,D,G,J⟩:=j t (by simp);have hl:=B.length;exact wpAny_pyNext_tuple_end (I.ok.hd L) st (p) (by simp;simp_all) λg eb=>⟨rfl,I.turned (λb o f e=>eb b o f e) F C D G J⟩
 self:=λV V V V V st h=>wpAny_pyIter_tupleiter st h
theorem vK{P:Ou}{w:ON}{K:C'}{A:PD}(a:J')(lo:Int)(n:Nat):vI P w K A (Fi lo n) [a] a (λi h=>Yb h a (lo+(i:Nat)*1) ((n:Int)-(i:Nat)) 1) where
 mem:=by simp
 obj:=λi h st b c=>by
  have e:b=a:=by simpa using c
  subst e;exact⟨_,st,λv z=>by
   have Z:=z;cases Z⟩
 keep:=λi h d st k=>k a (by simp) _ st
 item:=by
  intro X g j l m i O s y H E I f st p;subst g j l;obtain⟨F,q,B,r,u,x⟩:=f a (by simp);have W:=Vr (prog:=X.prog) (w:=X.w) (I.ok.hd m) a lo 1 n;refine W.item i s _ _ p st λv d T C Q D=>?_;obtain⟨t,rfl⟩:=C;have G:Inv X O y H {s with heap:=d,toks:=T}:=I.turned (λb o c e=>D b o (by simpa using c) e) F q r u x;refine⟨_,rfl,xj Q rfl rfl (by rfl) ⟨.int<|lo+i,H,G,⟨t,?_⟩,⟨rfl,rfl⟩,Q,λb c=>(f b c).1⟩⟩;rw[O1]
 done:=by
  intro X g j l m i O s y H E I f st p;obtain⟨F,q,B,r,u,x⟩:=f a (by simp);exact W1 (I.ok.hd m) st (by have:n<=i:=p;lia) λd J=>⟨rfl,I.turned (λb o c e=>J b o c e) F q r u x⟩
 self:=λY Y Y Y Y st h=>W2 st h
inductive K_ (K:C')(x:V)(H:Hp)(R:It->Hp->Prop):Prop
 |mk (a:J')(h:x=.ref a)(e:∃xs,SqL K H a xs)(r:R (E7 K a) H)
inductive La (K:C')(x:V)(H:Hp)(R:It->Hp->Prop):Prop
 |mk (a:J')(h:x=.ref a)(e:∃xs,SqT K H a xs)(r:R (Jc K a) H)
def Lb(K:C')(t:TE):TI:=λa H R=>t a H λx h=>K_ K x h R
def Lc(K:C')(t:TE):TI:=λa H R=>t a H λx h=>La K x h R
theorem aH(d:PE X l t):PI X T l (Lb X.K t):=by
 intro O s f H R I h;refine bL (d O s f H _ I h) λv c y=>?_;obtain⟨x,g,i,r,Q⟩:=y;obtain⟨a,e,⟨m,j⟩,q⟩:=Q;subst e;cases r;obtain⟨P,n,p,z⟩:=i.list j;refine S2 p.isList<|⟨c.heap.objs.size,[c.heap.objs.size],_,_,g,rfl,i.kept λb o e=>Oj _ e,zo a _,⟨_,OT _ rfl,rfl,rfl⟩,λb k=>?_,q⟩;have e:b=c.heap.objs.size:=by simpa using k
 subst e;exact i.fpOk (N' _)<|i.hok.fresh<|N' _
theorem bX(d:PE X l t):PI X T l (Lc X.K t):=by
 intro O s f H R I h;refine bL (d O s f H _ I h) λv c y=>?_;obtain⟨x,g,i,r,Q⟩:=y;obtain⟨a,e,⟨m,j⟩,q⟩:=Q;subst e;cases r;obtain⟨P,n,p,z⟩:=i.tuple j;refine wpAny_pyIter_tuple ‹_›<|⟨c.heap.objs.size,[c.heap.objs.size],_,_,g,rfl,i.kept λb o e=>Oj _ e,vJ a _,⟨_,OT _ rfl,rfl,rfl⟩,λb k=>?_,q⟩;have e:b=c.heap.objs.size:=by simpa using k
 subst e;exact i.fpOk (N' _)<|i.hok.fresh<|N' _
theorem tF{O:ab (J'×Obj)}{a:St}{H:Hp}{s:Od}{R:It->Hp->Prop}{E:K'->Od->Prop}{lo h:Int}{t u v:Tok}{T:Nat}(I:Inv X O a H s)(c:-(2^62)<=lo)(d:lo<2^62)(f:-(2^62)<=h)(g:h<2^62)
  (q:R (Fi lo (h-lo).toNat) H):wpAny (OS X.prog X.w) X.A (X4<|.ref s.heap.objs.size) (M6 X O a m R) E {s with heap:=s.heap.push {cls:=.type "range",data:=.fields #[.int lo t,.int h u,.int 1 v]},toks:=T}:=by
 refine Y7 (T2 ..) (small_one c d f g) ?_;have i:Inv X O a H {s with heap:=s.heap.push {cls:=.type "range",data:=.fields #[.int lo t,.int h u,.int 1 v]},toks:=T}:=I.kept λb o e=>Oj _ e;refine⟨(s.heap.push _).objs.size,[(s.heap.push _).objs.size],_,_,H,rfl,
  i.kept λb o e=>Oj _ e,vK _ lo _,?_,λb j=>?_,q⟩
 ·have k:lo+((0:Nat))*1=lo:=by simp
  have l:(((h-lo).toNat))-((0:Nat))=WN lo h 1:=by rw[rangeSize_one];grind
  show Yb _ _ _ ((((h-lo).toNat))-((0:Nat))) 1
  rw[k,l];exact OT _ rfl
 have e:b=(s.heap.push {cls:=.type "range",data:=.fields #[.int lo t,.int h u,.int 1 v]}).objs.size:=by simpa using j
 subst e;exact i.fpOk (N' _)<|i.hok.fresh<|N' _
def Ld(t:TA):TI:=λa H R=>t a H λv h=>∃j:Int,v=[.int j]/\ -(2^62)<=j/\j<2^62/\R (Fi 0 j.toNat) h
def Le(t:TA):TI:=λa H R=>t a H λv h=>∃i j:Int,v=[.int i,.int j]/\(-(2^62)<=i/\i<2^62/\ -(2^62)<=j/\j<2^62)/\R (Fi i (j-i).toNat) h
theorem zp(g:Gl X "range")(m:X.mg "range"=Oa)(b:PA X [a] T)(c:OW [a] X.env=[(Oc,QA a X.env)]:=by rfl):PI X n (.Call (.Name "range" p) [a] [] P) (Ld T):=by
 intro O s d H R I h;refine Call_<|dZ I g m y4<|Qk (bL (b P O s d H _ I h) λu o z=>?_) c rfl;obtain⟨v,w,i,f,Q⟩:=z;obtain⟨j,e,Q,k,q⟩:=Q;subst e;cases f with
 |cons r l=>
  cases l;obtain⟨t,rfl⟩:=r;exact call_range_1 (tF i (by simp) (by simp) Q k<|by simp_all)
theorem zq{X:Cx}{T:PD}{p P:Pos}(g:Gl X "range")(m:X.mg "range"=Oa)(d:PA X [a,b] f)(k:OW [a,b] X.env=[(Oc,QA a X.env),(Oc,QA b X.env)]:=by rfl)(Z:OW [b] X.env=[(Oc,QA b X.env)]:=by rfl):
  PI X T (.Call (.Name "range" p) [a,b] [] P) (Le f):=by
 intro O s l H R I h;refine Call_ (dZ I g m y4<|Qk (bL (d P O s l H _ I h) λU y Y=>?_) (by rw[k,Z])<|by rw[Z];rfl);obtain⟨z,A,n,o,Q⟩:=Y;obtain⟨i,j,e,⟨Q,u,v,w⟩,q⟩:=Q;subst e;cases o with
 |cons r c=>
  cases c with
  |cons x c=>
   cases c;obtain⟨t,rfl⟩:=r;obtain⟨B,rfl⟩:=x;exact call_range_2<|tF n Q u v w q
def Lf(w:TI)(g:TG)(t:TS):TS:=λD a H=>w a H λJ d=>∃W:Nat->Nat->St->Hp->Prop,(∃m,W 0 m a d)/\∀i m a H,W i m a H->
 (J.stop i H/\D.nx a H)\/(J.go i H/\∃N:St->Hp->Prop,(∀b h,N b h->∃M,M<m/\W (i+1) M b h)/\∀x h,J.yld i H x h->g x a h λc e=>t {D with nx:=N,ct:=N,bk:=D.nx} c e)
noncomputable def mM(f:ab J')(h:Pd):ab (J'×Obj):=f.filterMap λb=>(h.get? b).map λo=>(b,o)
theorem gz(H:b∈f)(e:h.get? b=gV o):(b,o)∈mM f h:=VX.mpr ⟨b,H,by rw[e];rfl⟩
theorem zr(H:p∈mM f h):p.1∈f/\h.get? p.1=gV p.2:=by
 obtain⟨b,a,e⟩:=VX.mp H;cases q:h.get? b with
 |none=>rw[q]at e;cases e
 |some o=>
  rw[q]at e;have E:=Oy e;subst E;exact⟨a,q⟩
theorem Inv.pinned(I:Inv X O a H s)(c:∀b∈f,pE X O H b)(g:∀b∈f,∃o,s.heap.get? b=gV o/\∀v,o.data≠.cell v):Inv X (O++mM f s.heap) a H s:=
 I.pins_of λp i=>(OH.mp i).elim (λz=>I.pin p<|Pn _ z) λz=>by
  obtain⟨h,e⟩:=zr z;obtain⟨F,j,k,y⟩:=c p.1 h;obtain⟨o,E,d⟩:=g p.1 h;rw[e]at E;cases E;exact⟨e,F,j,k,d⟩
theorem Inv.unpinned(I:Inv X (O++P) a H s):Inv X O a H s:=I.pins_of λp h=>I.pin p<|Pn _<|QH _ h
theorem kh{P:Pos}(y:sy (OS X.prog X.w) X.A X.env X.xe)(hc:X.calm=N7)(hi:PI X tg t wi)(hg:PG X tg g)(c:PSs X B tb)
  (hs:∀x,R6 t X.env x=pure x:=by intro _;rfl):PS X (.For tg t B [] P) (Lf wi g tb):=by
 intro O s σ H D I h;refine wpAny_For (bL (hi O s σ H _ I h) λv s1 h1=>bL h1 λac s2 h2=>?_) hs;obtain⟨it,F,tn,J,H2,e,I2,T,Sj,f2,W,⟨m0,w0⟩,L⟩:=h2;subst e;have A:∀{q:Hp},(∀b∈F,q b=Oa)->∀b∈F,pE X O q b:=λhn b c=>⟨hn b c,(f2 b c).2⟩;refine codeAny_forLoop_any (λn s'=>∃i j q,Inv X O j q s'/\tn i s'.heap/\(∀b∈F,q b=Oa)/\W i n j q) ?_ m0 ⟨0,σ,H2,I2,Sj,λb c=>(f2 b c).1,w0⟩;rintro n s3 ⟨i,k,G,I3,Z9,z,w3⟩;obtain⟨C,qn⟩|⟨go,N,hN,step⟩:=L i n k G w3
 ·refine R5 y<|bL (T.done X rfl rfl rfl hc i O s3 k G _ I3 (A z) Z9 C) λr s4 V=>?_;obtain⟨M,I4⟩:=V;subst M;exact Vd ⟨k,G,I4,qn⟩
 refine R5 y<|bL (T.item X rfl rfl rfl hc i O s3 k G _ I3 (A z) Z9 go) λr s4 S=>?_;obtain⟨u,M,h4⟩:=S;subst M;refine R5 y<|bL h4 λ_ s5 R=>?_;obtain⟨x,H5,I5,r5,y5,w,U⟩:=R;have Y:=I5.pinned (A U)<|T.obj _ _ w;refine R5 y<|bL (hg _ s5 k H5 x u _ Y r5<|step x H5 y5) λ_ s6 K=>?_;obtain⟨Z,H6,I6,q6⟩:=K;refine R5 y<|bL (c _ s6 Z H6 _ I6 q6) λf s7 Q=>?_;have again:∀{a:St} {l:Hp},Inv X _ a l s7->N a l->∃m,m<n/\∃i j q,Inv X O j q s7/\tn i _/\(∀b∈F,q b=Oa)/\W i m j q:=λ{a l} p E=>by
  obtain⟨m',hm,w7⟩:=hN a l E;refine⟨m',hm,i+1,a,l,p.unpinned,T.keep _ _ _ w λb c o e=>(p.pin _<|Pn _<|Pn _<|gz c e).1,λb c=>?_,w7⟩;obtain⟨o,e,d⟩:=T.obj _ _ w b c;exact(p.pin _<|Pn _<|Pn _<|gz c e).2.1
 cases f with
 |next=>obtain⟨a,l,p,E⟩:=Q;exact again p E
 |cont=>obtain⟨a,l,p,E⟩:=Q;exact again p E
 |brk=>obtain⟨a,l,p,Q⟩:=Q;exact⟨a,l,p.unpinned,Q⟩
 |ret v=>obtain⟨x7,a,l,p,r7,Q⟩:=Q;exact⟨x7,a,l,p.unpinned,r7,Q⟩
theorem cx{K:C'}{a:J'}{X:ab V}{g:TG}{t:TS}{D:iX}{b:St}{H:Hp}(Pv:Nat->St->Hp->Prop)(j:Pv 0 b H)(l:∀i b H,i<=X.length->Pv i b H->SqL K H a X)
  (s:∀i x b H,X[i]?=gV x->Pv i b H->g x b H λc f=>t {D with nx:=Pv<|i+1,ct:=Pv<|i+1,bk:=D.nx} c f) (k:∀b H,Pv X.length b H->D.nx b H):
  ∃W:Nat->Nat->St->Hp->Prop,(∃m,W 0 m b H)/\∀i m b H,W i m b H->
   ((E7 K a).stop i H/\D.nx b H)\/((E7 K a).go i H/\∃N:St->Hp->Prop,(∀d h,N d h->∃M,M<m/\W (i+1) M d h)/\∀x h,(E7 K a).yld i H x h->g x b h λc f=>t {D with nx:=N,ct:=N,bk:=D.nx} c f):=by
 exists λi m b H=>m=X.length-i/\i<=X.length/\Pv i b H,⟨X.length,by simp,OG _,j⟩;rintro i m b H ⟨rfl,n,p⟩;have q:=l i b H n p;by_cases r:i<X.length
 ·refine .inr ⟨⟨X,X[i],q,by simp⟩,Pv<|i+1,λd h P=>⟨X.length-(i+1),ip r (Tq _),rfl,r,P⟩,λx h y=>?_⟩;obtain⟨e,y⟩:=y;subst e;exact s i x b _ (y X q) p
 have e:i=X.length:=h7 n (hJ r)
 subst e;exact .inl ⟨⟨X,q,N' _⟩,k b H p⟩
theorem fK{K:C'}{a:J'}{X:ab V}{g:TG}{t:TS}{D:iX}{b:St}{H:Hp}(Pv:Nat->St->Hp->Prop)(j:Pv 0 b H)(l:∀i b H,i<=X.length->Pv i b H->SqT K H a X)
  (s:∀i x b H,X[i]?=gV x->Pv i b H->g x b H λc f=>t {D with nx:=Pv<|i+1,ct:=Pv<|i+1,bk:=D.nx} c f) (k:∀b H,Pv X.length b H->D.nx b H):
  ∃W:Nat->Nat->St->Hp->Prop,(∃m,W 0 m b H)/\∀i m b H,W i m b H->
   ((Jc K a).stop i H/\D.nx b H)\/((Jc K a).go i H/\∃N:St->Hp->Prop,(∀d h,N d h->∃M,M<m/\W (i+1) M d h)/\∀x h,(Jc K a).yld i H x h->g x b h λc f=>t {D with nx:=N,ct:=N,bk:=D.nx} c f):=by
 exists λi m b H=>m=X.length-i/\i<=X.length/\Pv i b H,⟨X.length,by simp,OG _,j⟩;rintro i m b H ⟨rfl,n,p⟩;have q:=l i b H n p;by_cases r:i<X.length
 ·refine .inr ⟨⟨X,X[i],q,by simp⟩,Pv<|i+1,λd h P=>⟨X.length-(i+1),ip r (Tq _),rfl,r,P⟩,λx h y=>?_⟩;obtain⟨e,y⟩:=y;subst e;exact s i x b _ (y X q) p
 have e:i=X.length:=h7 n (hJ r)
 subst e;exact .inl ⟨⟨X,q,N' _⟩,k b H p⟩
theorem d9{lo:Int}{n:Nat}{g:TG}{t:TS}{D:iX}(Pv:Nat->St->Hp->Prop)(f:Pv 0 a H)
  (s:∀i a H,i<n->Pv i a H->g (.int<|lo+i) a H λb d=>t {D with nx:=Pv<|i+1,ct:=Pv<|i+1,bk:=D.nx} b d) (j:∀a H,Pv n a H->D.nx a H):
  ∃W:Nat->Nat->St->Hp->Prop,(∃m,W 0 m a H)/\∀i m a H,W i m a H->
   ((Fi lo n).stop i H/\D.nx a H)\/((Fi lo n).go i H/\∃N:St->Hp->Prop,(∀c h,N c h->∃M,M<m/\W (i+1) M c h)/\∀x h,(Fi lo n).yld i H x h->g x a h λb d=>t {D with nx:=N,ct:=N,bk:=D.nx} b d):=by
 exists λi m a H=>m=n-i/\i<=n/\Pv i a H,⟨n,by simp,OG _,f⟩;rintro i m a H ⟨rfl,k,p⟩;by_cases r:i<n
 ·refine .inr ⟨r,Pv<|i+1,λc h P=>⟨n-(i+1),ip r (Tq _),rfl,r,P⟩,λx h y=>?_⟩;obtain⟨e,y⟩:=y;subst e y;exact s i a _ r p
 have e:i=n:=h7 k (hJ r)
 subst e;exact .inl ⟨N' _,j a H p⟩
abbrev R2:=V->V->Hp->VK->Prop
def OpR(X:Cx)(f:K'->K'->Sem K')(r:R2):Prop:=
 ∀(O:ab (J'×Obj)) (s:Od) (a:St) (H:Hp) (x y:V) (v u:K') (Q:VK),Inv X O a H s->RelV x v->RelV y u->r x y H Q->
  wpAny (OS X.prog X.w) X.A (f v u) (EP X O a Q) X.xe s
def M7(X:Cx)(f:K'->Sem K')(r:V->Hp->VK->Prop):Prop:=
 ∀(O:ab (J'×Obj)) (s:Od) (a:St) (H:Hp) (x:V) (v:K') (Q:VK),Inv X O a H s->RelV x v->r x H Q->
  wpAny (OS X.prog X.w) X.A (f v) (EP X O a Q) X.xe s
def fk(X:Cx)(f:K')(r:ab V->Hp->VK->Prop):Prop:=
 ∀(O:ab (J'×Obj)) (s:Od) (a:St) (H:Hp) (x:ab V) (u:ab K') (Q:VK),Inv X O a H s->Vals x u->r x H Q->
  wpAny (OS X.prog X.w) X.A (call f u) (EP X O a Q) X.xe s
def M8(X:Cx)(r:V->Hp->(Oe->Hp->Prop)->Prop):Prop:=
 ∀(O:ab (J'×Obj)) (s:Od) (a:St) (H:Hp) (x:V) (v:K') (Q:Oe->Hp->Prop),Inv X O a H s->RelV x v->r x H Q->
  wpAny (OS X.prog X.w) X.A (truthy v) (TP X O a Q) X.xe s
def Fj(r:R2)(t T:TE):TE:=λa H Q=>t a H λx h=>T a h λy b=>r x y b Q
def NX(r:V->Hp->VK->Prop)(t:TE):TE:=λa H Q=>t a H λx h=>r x h Q
inductive NI (C:Int->Int->Prop)(g:Int->Int->V)(x y:V)(H:Hp)(Q:VK):Prop
 |mk (i j:Int)(hx:x=.int i)(h:y=.int j)(c:C i j)(q:Q (g i j) H)
inductive NJ (g:Int->Int->V)(x y:V)(H:Hp)(Q:VK):Prop
 |mk (i j:Int)(hx:x=.int i)(h:y=.int j)(q:Q (g i j) H)
inductive NK (g:Int->V)(x:V)(H:Hp)(Q:VK):Prop
 |mk (i:Int)(hx:x=.int i)(q:Q (g i) H)
def rI(C:Int->Int->Prop)(g:Int->Int->V):R2:=λx y H Q=>NI C g x y H Q
def Fk(g:Int->Int->V):R2:=λx y H Q=>NJ g x y H Q
def rU(g:Int->V):V->Hp->VK->Prop:=λx H Q=>NK g x H Q
theorem Jd(k:PE X a t)(l:PE X b T){R:V->V->Hp->Prop}(I:Inv X O d H s)
  (h:t d H λx j=>T d j λy c=>R x y c) {Q:K'->Od->Prop} {f:K'->K'->Sem K'}
  (m:∀v u i x y c,Inv X O d c i->RelV x v->RelV y u->R x y c->wpAny (OS X.prog X.w) X.A (f v u) Q X.xe i):
  wpAny (OS X.prog X.w) X.A (QA a X.env) (λv e=>wpAny (OS X.prog X.w) X.A (QA b X.env) (λu g=>wpAny (OS X.prog X.w) X.A (f v u) Q X.xe g) X.xe e) X.xe s:=bL (k O s d H _ I h) (by rintro v n ⟨x,j,o,r,q⟩;exact bL (l O n d j _ o q) (by rintro u i ⟨y,c,p,w,z⟩;exact m v u i x y c p r w z))
theorem eU(o:OpR X (Sq O) r)(c:PE X a t)(d:PE X b T):PE X (.BinOp a O b p) (Fj r t T):=by
 intro g s e H Q I h;exact wpAny_BinOp<|Jd c d I h λv u f x y i j k l q=>o g f e i x y v u Q j k l q
theorem Lg(o:M7 X (unaryOp p) r)(c:PE X a t):PE X (.UnaryOp p a P) (NX r t):=by
 intro O s b H Q I h;exact UnaryOp_<|bL (c O s b H _ I h) (by rintro v d ⟨x,e,i,f,q⟩;exact o O d b e x v Q i f q)
theorem Lh{f:K'->K'->Sem K'}{C:Int->Int->Prop}{g:Int->Int->Int}
  (rule:∀i j t u s Q E,C i j->Q (.int (g i j) s.toks) {s with toks:=s.toks+1}->wpAny (OS X.prog X.w) X.A (f (.int i t)<|.int j u) Q E s):
  OpR X f (rI C λi j=>.int<|g i j):=by
 intro O s b H x y v u Q I r a h;obtain⟨i,j,rfl,rfl,c,q⟩:=h;obtain⟨t,rfl⟩:=r;obtain⟨T,rfl⟩:=a;exact rule i j t T s _ _ c ⟨.int<|g i j,H,I.tok _,⟨_,rfl⟩,q⟩
theorem Je{f:K'->K'->Sem K'}{g:Int->Int->Int}
  (rule:∀i j t u s Q E,Q (.int (g i j) s.toks) {s with toks:=s.toks+1}->wpAny (OS X.prog X.w) X.A (f (.int i t)<|.int j u) Q E s):
  OpR X f (Fk λi j=>.int<|g i j):=by
 intro O s b H x y v u Q I r a h;obtain⟨i,j,rfl,rfl,q⟩:=h;obtain⟨t,rfl⟩:=r;obtain⟨T,rfl⟩:=a;exact rule i j t T s _ _ ⟨.int<|g i j,H,I.tok _,⟨_,rfl⟩,q⟩
theorem Fm{f:K'->K'->Sem K'}{g:Int->Int->Oe}
  (rule:∀i j t u s Q E,Q (.bool<|g i j) s->wpAny (OS X.prog X.w) X.A (f (.int i t)<|.int j u) Q E s):
  OpR X f (Fk λi j=>.bl<|g i j):=by
 intro O s b H x y v u Q I r a h;obtain⟨i,j,rfl,rfl,q⟩:=h;obtain⟨t,rfl⟩:=r;obtain⟨T,rfl⟩:=a;exact rule i j t T s _ _ ⟨.bl<|g i j,H,I,rfl,q⟩
def M9(i j:Int):Prop:=0<j/\j<1073741824
def M_(i j:Int):Prop:=0<=j/\j<=1000000/\i.natAbs<2^64
def CMul(i j:Int):Prop:=(-(2^64)<i/\i<2^64)\/(-(2^64)<j/\j<2^64)
theorem CMul.ok(h:CMul i j):IntMulOk i j:=by
 obtain⟨H,a⟩|⟨H,a⟩:=h
 ·exact .of_left<|XU H a
 exact .of_right<|XU H a
theorem vL(k:Nat):(0:Int)<=2^k:=VZ _
theorem vM:OpR X (Sq .Add) (Fk λi j=>.int<|i+j):=Je λz z z z z z z q=>add_int q
theorem Jf:OpR X (Sq .Sub) (Fk λi j=>.int<|i-j):=Je λz z z z z z z q=>sub_int q
theorem A9:OpR X (Sq .Mult) (rI CMul λi j=>.int<|i*j):=Lh λz z z z z z z h q=>mul_int q h.ok
theorem Fo:OpR X (Sq .FloorDiv) (rI M9 λi j=>.int<|i/j):=Lh λi j z z z z z h q=>by
 have H:=h.1;have a:=h.2;exact floordiv_int (by lia) (by rwa[V0 i<|by exact Xq H]) (.inl<|W9<|by omega)
theorem Jg:OpR X (Sq .Mod) (rI (λz j=>0<j) λi j=>.int<|i%j):=Lh λi j z z z z z h q=>by
 have H:=h;exact mod_int' (by lia) (by rwa[Int.fmod_eq_emod_of_nonneg i<|by exact Xq H])
theorem Jh:OpR X (Sq .LShift) (rI M_ λi j=>.int<|i*2^j.toNat):=Lh λz z z z z z z h q=>lshift_int_small h.1 h.2.1 h.2.2 q
theorem Ji:OpR X (Sq .RShift) (rI (λz j=>0<=j) λi j=>.int<|i/2^j.toNat):=Lh λi j z z z z z h q=>
 rshift_int h (by rwa[V0 i<|vL _])
theorem Jj:OpR X (Sq .BitAnd) (Fk λi j=>.int<|RA i j):=Je λz z z z z z z q=>and_int q
theorem NZ{f:K'->Sem K'}{g:Int->Int}
  (rule:∀i t s Q E,Q (.int (g i) s.toks) {s with toks:=s.toks+1}->wpAny (OS X.prog X.w) X.A (f<|.int i t) Q E s):
  M7 X f (rU λi=>.int<|g i):=by
 intro O s a H x v Q I r h;obtain⟨i,rfl,q⟩:=h;obtain⟨t,rfl⟩:=r;exact rule i t s _ _ ⟨.int<|g i,H,I.tok _,⟨_,rfl⟩,q⟩
theorem Jk:M7 X (unaryOp .USub) (rU λi=>.int (-i)):=NZ λz z z z z q=>neg_int q
noncomputable def Li:V->V->Oe
 |.non,.non=>N7|.non,.int _=>N7|.int _,.non=>N7|.non,.bl _=>N7|.bl _,.non=>N7|.non,.str _=>N7|.str _,.non=>N7
 |.int _,.int _=>N7|.bl _,.bl _=>N7|.str _,.str _=>N7|.byt _,.byt _=>N7
 |.int _,.str _=>N7|.str _,.int _=>N7|.bl _,.str _=>N7|.str _,.bl _=>N7
 |_,_=>Oc
def NL:R2:=λx y H Q=>Li x y=N7/\Q (.bl (decide (x=y))) H
def NM:R2:=λx y H Q=>Li x y=N7/\Q (.bl (!decide (x=y))) H
theorem xk:decide (V.int i=V.int j)=(i == j):=by
 rw[Qe];simp
theorem iY:decide (V.bl i=V.bl j)=(i == j):=by
 rw[Qe];simp
theorem xl:decide (V.str i=V.str j)=(i == j):=by
 rw[Qe];simp
theorem xm:decide (V.byt i=V.byt j)=(i.toList == j.toList):=by
 rw[Qe];simp
theorem a_(I:Inv X O a H s)(q:Q (.bl k) H)(e:k=b):EP X O a Q (.bool b) s:=by
 subst e;exact⟨.bl k,H,I,rfl,q⟩
theorem Lj:OpR X (PX .Eq) NL:=by
 intro O s c H x y v u Q I b r h;obtain⟨a,q⟩:=h;cases x with
 |non=>
  cases b;cases y with
  |non=>cases r;exact ab1 (a_ I q<|by simp)
  |bl j=>cases r;exact ab2 (a_ I q<|by simp)
  |int j=>obtain⟨T,rfl⟩:=r;exact acy (a_ I q<|by simp)
  |str j=>obtain⟨T,rfl⟩:=r;exact acx (a_ I q<|by simp)
  |_=>exact absurd ‹_› Om
 |bl i=>
  cases b;cases y with
  |non=>cases r;exact ab3 (a_ I q<|by simp)
  |bl j=>cases r;exact eq_bool<|a_ I q iY
  |str j=>obtain⟨T,rfl⟩:=r;exact ab7 (a_ I q<|by simp)
  |_=>exact absurd ‹_› Om
 |int i=>
  obtain⟨t,rfl⟩:=b;cases y with
  |non=>cases r;exact acz (a_ I q<|by simp)
  |int j=>obtain⟨T,rfl⟩:=r;exact eq_int<|a_ I q xk
  |str j=>obtain⟨T,rfl⟩:=r;exact acD (a_ I q<|by simp)
  |_=>exact absurd ‹_› Om
 |str i=>
  obtain⟨t,rfl⟩:=b;cases y with
  |non=>cases r;exact acw (a_ I q<|by simp)
  |bl j=>cases r;exact ab6 (a_ I q<|by simp)
  |int j=>obtain⟨T,rfl⟩:=r;exact acC (a_ I q<|by simp)
  |str j=>obtain⟨T,rfl⟩:=r;exact eq_str<|a_ I q xl
  |_=>exact absurd ‹_› Om
 |byt i=>
  obtain⟨t,rfl⟩:=b;cases y with
  |byt j=>obtain⟨T,rfl⟩:=r;exact PySem.W.eq_bytes<|a_ I q xm
  |_=>exact absurd ‹_› Om
 |_=>cases y<;>exact absurd ‹_› Om
theorem Lk:OpR X (PX .NotEq) NM:=by
 intro O s c H x y v u Q I b r h;obtain⟨a,q⟩:=h;cases x with
 |non=>
  cases b;cases y with
  |non=>cases r;exact abY (a_ I q<|by simp)
  |bl j=>cases r;exact abZ (a_ I q<|by simp)
  |int j=>obtain⟨T,rfl⟩:=r;exact acu (a_ I q<|by simp)
  |str j=>obtain⟨T,rfl⟩:=r;exact acs (a_ I q<|by simp)
  |_=>exact absurd ‹_› Om
 |bl i=>
  cases b;cases y with
  |non=>cases r;exact ab0 (a_ I q<|by simp)
  |bl j=>cases r;exact ne_bool<|a_ I q<|Pa not iY
  |str j=>obtain⟨T,rfl⟩:=r;exact ab5 (a_ I q<|by simp)
  |_=>exact absurd ‹_› Om
 |int i=>
  obtain⟨t,rfl⟩:=b;cases y with
  |non=>cases r;exact acv (a_ I q<|by simp)
  |int j=>obtain⟨T,rfl⟩:=r;exact ne_int<|a_ I q<|Pa not xk
  |str j=>obtain⟨T,rfl⟩:=r;exact acB (a_ I q<|by simp)
  |_=>exact absurd ‹_› Om
 |str i=>
  obtain⟨t,rfl⟩:=b;cases y with
  |non=>cases r;exact acr (a_ I q<|by simp)
  |bl j=>cases r;exact ab4 (a_ I q<|by simp)
  |int j=>obtain⟨T,rfl⟩:=r;exact acA (a_ I q<|by simp)
  |str j=>obtain⟨T,rfl⟩:=r;exact ne_str<|a_ I q<|Pa not xl
  |_=>exact absurd ‹_› Om
 |byt i=>
  obtain⟨t,rfl⟩:=b;cases y with
  |byt j=>obtain⟨T,rfl⟩:=r;exact PySem.W.ne_bytes<|a_ I q<|Pa not xm
  |_=>exact absurd ‹_› Om
 |_=>cases y<;>exact absurd ‹_› Om
theorem xn:OpR X (PX .Lt) (Fk λi j=>.bl (decide (i<j))):=Fm λz z z z z z z q=>lt_int q
theorem pR:OpR X (PX .LtE) (Fk λi j=>.bl (decide (i<=j))):=Fm λz z z z z z z q=>le_int q
theorem tG:OpR X (PX .Gt) (Fk λi j=>.bl (decide (j<i))):=Fm λz z z z z z z q=>gt_int q
theorem Hv:OpR X (PX .GtE) (Fk λi j=>.bl (decide (j<=i))):=Fm λz z z z z z z q=>ge_int q
theorem A_:OpR X (PX .Is) (λx y H Q=>y=.non/\Q (.bl (decide (x=.non))) H):=by
 intro O s b H x y v u Q I r a h;obtain⟨rfl,q⟩:=h;cases a;refine is_none_gen<|a_ I q ?_;cases x<;>first
  |(rfl)
  |(obtain⟨t,rfl⟩:=r;rfl)
theorem xo:OpR X (PX .IsNot) (λx y H Q=>y=.non/\Q (.bl (!decide (x=.non))) H):=by
 intro O s b H x y v u Q I r a h;obtain⟨rfl,q⟩:=h;cases a;refine isnot_none_gen<|a_ I q ?_;cases x<;>first
  |(rfl)
  |(obtain⟨t,rfl⟩:=r;rfl)
theorem OpR.or(h:OpR X f r)(h':OpR X f d):OpR X f (λx y H Q=>r x y H Q\/d x y H Q):=by
 intro O s a H x y v u Q I b c q;obtain q|q:=q
 ·exact h O s a H x y v u Q I b c q
 exact h' O s a H x y v u Q I b c q
theorem Ba(b:PD)(h:o≠.In:=by decide)(H:o≠.NotIn:=by decide):SN o b=false:=by
 have e:(o == CmpOp.In)=false:=by simp_all
 have E:(o == CmpOp.NotIn)=false:=by simp_all
 cases b<;>simp[SN,e,E]
theorem l8(c:OpR X (PX o) r)(d:PE X a t)(e:PE X b T)(m:SN o b=Oc):PE X (.Compare a [o] [b] p) (Fj r t T):=by
 intro O s f H Q I h;exact wpAny_Compare1 (Jd d e I h λv u g x y i j k l q=>c O g f i x y v u Q j k l q) m
def Bb(t:TE):TT:=λa H Q=>t a H λx h=>IS x Q h
theorem dj(f:OpR X (PX o) r)(g:PE X a t)(i:PE X b T)(m:SN o b=Oc):PT X (.Compare a [o] [b] p) (Bb<|Fj r t T):=by
 intro O s d H Q I h;refine XE (bL (g O s d H _ I h) λv j Z=>?_) m;obtain⟨x,l,n,q,w⟩:=Z;refine bL (i O j d l _ n w) λu A Y=>?_;obtain⟨y,B,C,D,E⟩:=Y;refine bL (f O A d B x y v u _ C q D E) λc M W=>?_;obtain⟨z,F,G,J,k,e,L⟩:=W
 subst e;cases J;exact Qf ⟨F,G,L⟩
def Bc(r b:R2)(t T c:TE):TE:=λa H Q=>t a H λx d=>T a d λy e=>r x y e λz h=>∃k,z=.bl k/\
 (if k=N7 then c a h λw f=>b y w f Q else Q (.bl Oc) h)
theorem Bd(m:OpR X (PX p) r)(g:OpR X (PX o) n)(t:PE X a T)(w:PE X b A)(B:PE X c C)
  (D:lastMarks [p,o] [b,c]=false:=by with_unfolding_all rfl):PE X (.Compare a [p,o] [b,c] P) (Bc r n T A C):=by
 intro O s f H Q I h;refine Compare_chain (bL (t O s f H _ I h) λv E V=>?_) D;obtain⟨x,F,G,J,L⟩:=V;refine chain_link (bL (w O E f F _ G L) λu M S=>?_);obtain⟨y,N,U,i,W⟩:=S;refine bL (m O M f N x y v u _ U J i W) λd Y R=>?_;obtain⟨z,j,l,Z,k,e,q⟩:=R
 subst e;cases Z;refine Qf ?_;cases k with
 |false=>exact ite_ff ⟨.bl Oc,j,l,rfl,q⟩
 |true=>exact ite_tt<|chain_last<|bL (B O Y f j _ l q) (by rintro w' s4 ⟨z',H4,I4,r4,q4⟩;exact g O s4 f H4 y z' u w' Q I4 i r4 q4)
theorem tH(m:OpR X (PX p) r)(g:OpR X (PX o) n)(t:PE X a T)(w:PE X b A)(B:PE X c C)
  (D:lastMarks [p,o] [b,c]=false:=by with_unfolding_all rfl):PT X (.Compare a [p,o] [b,c] P) (Bb<|Bc r n T A C):=by
 intro O s f H Q I h;refine isTrue_chain (bL (t O s f H _ I h) λv E V=>?_) D;obtain⟨x,F,G,J,L⟩:=V;refine test_link (bL (w O E f F _ G L) λu M S=>?_);obtain⟨y,N,U,i,W⟩:=S;refine bL (m O M f N x y v u _ U J i W) λd Y R=>?_;obtain⟨z,j,l,Z,k,e,q⟩:=R
 subst e;cases Z;refine Qf ?_;cases k with
 |false=>
  obtain⟨k',e',q'⟩:=q;cases e';exact ite_ff ⟨j,l,q'⟩
 |true=>
  refine ite_tt<|test_last<|bL (B O Y f j _ l q) λw' s4 K=>?_;obtain⟨z',H4,I4,r4,q4⟩:=K;refine bL (g O s4 f H4 y z' u w' _ I4 i r4 q4) λd' s5 hz=>?_;obtain⟨z2,H5,I5,r5,k2,e2,q5⟩:=hz;subst e2;cases r5;exact Qf ⟨H5,I5,q5⟩
def Fp(K:C')(x:V)(H:Hp)(k:Oe):Prop:=
 match x with
 |.non=>k=Oc
 |.bl b=>k=b
 |.int i=>k=(i != 0)
 |.str y=>y.length<=sizeLine/\k=((y.length:Int) != 0)
 |.byt y=>y.size<=sizeLine/\k=((y.size:Int) != 0)
 |.ref p=>(∃X,SqL K H p X/\k=!X.isEmpty)\/(∃X,SqT K H p X/\k=!X.isEmpty)\/∃s,H p=gV (.dK s)/\k=!s.isEmpty
 |_=>False
theorem vN{a:Type}{k:ab (a×V)}{v:ab (a×K')}(r:KV k v):(!v.isEmpty)=!k.isEmpty:=by
 cases r<;>rfl
theorem mN(r:Vals x P):(!P.toArray.isEmpty)=!x.isEmpty:=by
 cases r<;>simp
theorem mO:(sizeLine:Nat)<2^63:=by rw[Qm];simp
theorem Jl:M8 X (λx H Q=>∃k,Fp X.K x H k/\Q k H):=by
 intro O s u H x v Q I d h;obtain⟨k,e,q⟩:=h;have w:=mO;have A:sizeLine=16777216:=Qm;cases x with
 |non=>
  cases d;have E:k=false:=e;subst E;exact truthy_none ⟨H,I,q⟩
 |bl b=>
  cases d;have E:k=b:=e;subst E;exact Qf ⟨H,I,q⟩
 |int i=>
  obtain⟨t,rfl⟩:=d;have E:k=(i != 0):=e;subst E;exact PySem.P.truthy_int ⟨H,I,q⟩
 |str y=>
  obtain⟨t,rfl⟩:=d;obtain⟨j,E⟩:y.length<=sizeLine/\k=((y.length:Int) != 0):=e;subst E;exact PySem.P.truthy_str (by lia) ⟨H,I.tok _,q⟩
 |byt y=>
  obtain⟨t,rfl⟩:=d;obtain⟨j,E⟩:y.size<=sizeLine/\k=((y.size:Int) != 0):=e;subst E;exact PySem.W.truthy_bytes (Pm j (by decide)) ⟨H,I.tok _,q⟩
 |ref p=>
  cases d;have E:(∃c,SqL X.K H p c/\k=!c.isEmpty)\/(∃c,SqT X.K H p c/\k=!c.isEmpty)\/∃a,H p=gV (.dK a)/\k=!a.isEmpty:=e;obtain⟨c,f,E⟩|⟨c,f,E⟩|⟨a,f,E⟩:=E
  ·subst E;obtain⟨n,r,P,z⟩:=I.list f;have l:=r.length;exact wpAny_truthy_list P.isList (by simp only[OA];lia) ⟨H,I.tok _,by rw[mN r];exact q⟩
  ·subst E;obtain⟨n,r,P,z⟩:=I.tuple f;have l:=r.length;exact truthy_tuple P (by simp only[OA];lia) ⟨H,I.tok _,by rwa[mN r]⟩
  ·subst E;obtain⟨z,o,g,r,m⟩:a.length<=sizeLine/\(p == Q2)=Oc/\∃g,KV a g/\s.heap.DictOf (aZ _ X.w) p g:=I.hok p _ f;have l:=Paired.length r;exact wpAny_truthy_dict o m (by lia) ⟨H,I.tok _,by rwa[vN r]⟩
 |_=>exact(e).elim
theorem tI(d:PE X a t)(e:∀Y,isTrue a X.env Y=(do let v <-Y;YG a.pos;Wb [v] (truthy v))):
  PT X a (λb H Q=>t b H λx c=>∃k,Fp X.K x c k/\Q k c):=by
 intro O s b H Q I h;exact isTrue_plain (bL (d O s b H _ I h) (by rintro v f ⟨x,g,i,r,q⟩;exact Jl O f b g x v Q i r q))<|e _
theorem eV(r:Vals [x] U):∃u,U=[u]/\RelV x u:=by
 cases r with
 |cons a b=>cases b;exact⟨_,rfl,a⟩
theorem xp(r:Vals [x,y] U):∃u w,U=[u,w]/\RelV x u/\RelV y w:=by
 cases r with
 |cons a b=>
  cases b with
  |cons c d=>cases d;exact⟨_,_,rfl,a,c⟩
theorem Be:fk X (.builtin "abs") (λx H Q=>∃i,x=[.int i]/\Q (.int (if i<0 then -i else i)) H):=by
 intro O s a H x U Q I r h;obtain⟨i,rfl,q⟩:=h;obtain⟨u,rfl,t,rfl⟩:=eV r;exact Y1 λu T=>⟨.int _,H,I.tok _,⟨_,rfl⟩,q⟩
theorem zt:fk X (.type "int") (λx H Q=>(∃i,x=[.int i]/\Q (.int i) H)\/∃k,x=[.bl k]/\Q (.int (if k then 1 else 0)) H):=by
 intro O s b H x U Q I r h;obtain⟨i,rfl,q⟩|⟨k,rfl,q⟩:=h
 ·obtain⟨u,rfl,t,rfl⟩:=eV r;exact call_int_int ⟨.int i,H,I,⟨_,rfl⟩,q⟩
 obtain⟨u,rfl,a⟩:=eV r;cases a;exact call_int_bool ⟨.int _,H,I.tok _,⟨_,rfl⟩,q⟩
def Na(K:C')(x:V)(H:Hp)(n:Nat):Prop:=
 match x with
 |.str y=>y.length<=sizeLine/\n=y.length
 |.byt y=>y.size<=sizeLine/\n=y.size
 |.ref p=>(∃X,SqL K H p X/\n=X.length)\/∃X,SqT K H p X/\n=X.length
 |_=>False
inductive Jm (K:C')(xs:ab V)(H:Hp)(Q:VK):Prop
 |mk (x:V)(n:Nat)(h:xs=[x])(l:Na K x H n)(q:Q (.int n) H)
theorem cj:fk X (.builtin "len") (Jm X.K):=by
 intro O s i H a U Q I r h;obtain⟨x,n,rfl,e,q⟩:=h;obtain⟨u,rfl,b⟩:=eV r;have k:=Qm;cases x with
 |str y=>
  obtain⟨t,rfl⟩:=b;obtain⟨f,E⟩:y.length<=sizeLine/\n=y.length:=e;subst E;exact len_str (by lia) ⟨.int _,H,I.tok _,⟨_,rfl⟩,q⟩
 |byt y=>
  obtain⟨t,rfl⟩:=b;obtain⟨f,E⟩:y.size<=sizeLine/\n=y.size:=e;subst E;exact PySem.W.len_bytes (Pm f (by decide)) ⟨.int _,H,I.tok _,⟨_,rfl⟩,q⟩
 |ref p=>
  cases b;have E:=e;obtain⟨a,c,E⟩|⟨a,c,E⟩:=E
  ·subst E;obtain⟨g,d,P,z⟩:=I.list c;have l:=d.length;exact Calls.call_len_list P.isList (by simp only[OA];lia) ⟨.int _,H,I.tok _,⟨_,by simp only[OA];rw[l]⟩,q⟩
  ·subst E;obtain⟨g,d,P,z⟩:=I.tuple c;have l:=d.length;exact len_tuple P (by simp only[OA];lia) ⟨.int _,H,I.tok _,⟨_,by simp only[OA];rw[l]⟩,q⟩
 |_=>exact(e).elim
structure ObjM (h:Pd)(x dx C:J')(mA:Str->M' K'):Prop where
 obj:h.get? x=gV (RG C dx)
 ns:h.Ns1 dx mA
 ne:dx≠x
theorem zu{h:Pd}{d:J'}{m:Str->M' K'}(n:h.Ns1 d m):∃O,h.get? d=gV O/\∀N,VJ N O=gV (m N):=by
 obtain⟨o,E,p,H,b,k,x,c⟩:=n;refine⟨o,H,λN=>?_⟩;have e:=c N;unfold nsFind findBy at e;unfold VJ;rw[b];dsimp only
 split
 ·simp_all
 have a:E.toList.any (·.refKey)=false:=by
  rw[List.any_eq_false];intro y f;obtain⟨z,t,A⟩:=k y<|Sf.mp f;simp[afo,A]
 grind
theorem ObjM.look(I:ObjM h x d C m):∃o,PySem.W.InstAt h x (RG C d) C (gV o)/\∀n,VJ n o=gV (m n):=
 let ⟨o,H,l⟩:=zu I.ns
 ⟨o,⟨I.obj,rfl,rfl,H⟩,l⟩
section
variable {prog:Ou}{w:ON}{A:Pw}{E:K'->Od->Prop}{s:Od}{K:C'}{x dx C f:J'}{mA:Str->M' K'}{name:Str}{v:K'}
theorem Fq{e:Oe}{Q:K'->Od->Prop}(X:K.In s.heap)(I:ObjM s.heap x dx C mA)(H:Sr K C name=N7)(a:S4 K C=N7)
  (b:Pz K (.ref C) name=gV Oa) (c:mA name=gV v) (Z:aak v=N7) (h:Q v {s with toks:=s.toks+1}):
  wpAny (OS prog w) A (getAttr (.ref x) name e) Q E s:=by
 obtain⟨o,J,l⟩:=I.look;exact PySem.W.get_value X J (Vn H).1 (PySem.W.findObj_own a b rfl<|by rw[l,c]) Z h
theorem Bf{p:Sem Oe}{Q:K'×ab K'->Od->Prop}(X:K.In s.heap)(I:ObjM s.heap x dx C mA)(H:Sr K C name=N7)
  (a:Pz K (.ref C) name=gV (gV<|.ref f)) (t:Vy K (.ref f)=N7) (b:mA name=Oa) (h:Q (.ref f,[.ref x]) s):
  wpAny (OS prog w) A (WJ (.ref x) name p) Q E s:=by
 obtain⟨o,J,l⟩:=I.look;exact PySem.W.method_fn X J (Vn H).1 (Vn H).2 a (US.mp t) (by show(VJ _ o).map _=gV Oc;simp_all) h
theorem Fs{n:ab Str}{Q:W0->Od->Prop}(X:K.In s.heap)(I:ObjM s.heap x dx C mA)
  (e:Pz K (.ref C) "__setattr__"=gV (gV<|.builtin "object.__setattr__")) (p:Uv K C=N7) (t:Xy K C name=gV Oa) (g:S4 K C=N7)
  (i:ZO mA n) (z:n.length<=sizeLine)
  (h:∀h',ObjM h' x dx C (λy=>if y=name then gV v else mA y)->RK dx s.heap h'->Q () {s with heap:=h',toks:=s.toks+2}):
  wpAny (OS prog w) A (setAttr (.ref x) name v) Q E s:=by
 obtain⟨o,J,q⟩:=I.look;refine PySem.W.set_plain X J e<|PySem.W.osa_open X J p t λb=>?_;obtain⟨r,j,a⟩:=PySem.W.any_some g;have k:=I.obj;refine B'<|Of<|B'<|B'<|wpAny_loadPart k<|B'<|aeL (PySem.W.looks_clsIn X j) ?_;rw[a];refine Of<|B'<|Of<|B'<|wpAny_nsSet1 I.ns λh' H Z=>?_;obtain⟨O,l,m,D,c,d⟩:=H.count<|ae8 _ v i;exact B'<|wpAny_lookBehind D (by rw[c];exact pastItsLine_dict<|Pm d<|QK z)<|Of<|h _ ⟨(Z.2 _<|P6 I.ne).trans I.obj,H,I.ne⟩ Z
theorem Bg{R:lA->Od->Prop}{b:ab K'}{k:ab (Str×K')}(X:K.In s.heap)(H:Vf K C=N7)
  (i:Pz K (.ref C) "__init__"=gV (gV<|.ref f)) (c:PySem.W.typeIn K (.ref f)=gV (.type "function"))
  (h:codeAny (OS prog w) (A.under<|.builtin "type.__call__" ⟨.ref C::b,k⟩) (.call (.ref f) ⟨.ref (s.heap.objs.size+1)::b,k⟩) (PySem.W.InitBack (s.heap.objs.size+1) R)
   {s with heap:=(s.heap.push QR).push<|RG C s.heap.objs.size}):
  codeAny (OS prog w) A (.call (.ref C) ⟨b,k⟩) R s:=PySem.W.make_core (PySem.W.makes_of X H) (PySem.W.looks_findIn X i) (λa=>PySem.W.bind_fn X a c) (.inl rfl) h
end
noncomputable def fI(f:Str)(v:V):ab (Str×V)->ab (Str×V)
 |[]=>[(f,v)]
 |(g,x)::r=>if g=f then(g,v)::r else(g,x)::fI f v r
theorem lx(f g:Str)(v:V):∀F,(fI f v F).lookup g=if g=f then gV v else F.lookup g
 |[]=>by
  show Sy g [(f,v)]=_
  grind
 |(k,x)::r=>by
  have i:=lx f g v r;rw[show fI f v _=(if k=f then(k,v)::r else(k,x)::fI f v r)from rfl];grind
theorem ki(f:Str)(v:V):∀F,f∈(fI f v F).map (·.1)/\∀g,g∈F.map (·.1)->g∈(fI f v F).map (·.1)
 |[]=>⟨by simp[fI],λg h=>by simp at h⟩
 |(k,x)::r=>by
  obtain⟨i,I⟩:=ki f v r;rw[show fI f v _=(if k=f then(k,v)::r else(k,x)::fI f v r)from rfl];grind
theorem ly(f:Str)(v:V):∀F,(fI f v F).length<=F.length+1
 |[]=>by simp[fI]
 |(k,x)::r=>by
  have i:=ly f v r;rw[show fI f v _=(if k=f then(k,v)::r else(k,x)::fI f v r)from rfl];by_cases h:k=f
  ·simp_all
  simp_all
theorem RelO.some_of(r:RelO (gV v) o):∃u,o=gV u/\RelV v u:=by
 cases o with
 |none=>exact(r).elim
 |some u=>exact⟨u,rfl,r⟩
theorem RelO.none_of(r:RelO Oa o):o=none:=by
 cases o with
 |none=>rfl
 |some u=>exact(r).elim
theorem zw(r:RelV v u):aak u=true:=by
 cases v with
 |non=>cases(r);rfl
 |bl b=>cases(r);rfl
 |int i=>obtain⟨t,e⟩:=(r);cases e;rfl
 |str x=>obtain⟨t,e⟩:=(r);cases e;rfl
 |byt b=>obtain⟨t,e⟩:=(r);cases e;rfl
 |flt b=>obtain⟨t,e⟩:=(r);cases e;rfl
 |ref a=>cases(r);rfl
 |ty n=>cases(r);rfl
theorem ins_get(k:HOk P w H h)(e:H a=gV (.ins C D F)):∃m,ObjM h a D C m/\(∀f,RelO (F.lookup f)<|m f)/\ZO m (F.map (·.1))/\F.length<=1000/\H D=gV (.own a):=by
 obtain⟨d,z,N,o,m,n,r,q⟩:=(k a _ e);exact⟨m,⟨o,n,N⟩,r,q,z,d⟩
structure Cls (K:C')(C:J'):Prop where
 pg:Sr K C td=N7
 hd:S4 K C=N7
 po:Uv K C=N7
 sa:Pz K (.ref C) "__setattr__"=gV (gV<|.builtin "object.__setattr__")
theorem Cls.get{K:C'}{C:J'}(c:Cls K C)(f:Str):Sr K C f=true:=c.pg
def NoAttr(K:C')(C:J')(f:Str):Prop:=Pz K (.ref C) f=gV Oa
theorem NoAttr.taker{K:C'}{C:J'}{f:Str}(n:NoAttr K C f):Xy K C f=gV none:=by
 unfold Xy;rw[n];rfl
structure Ft (K:C')(C:J')(m:Str)(f:J'):Prop where
 at_:Pz K (.ref C) m=gV (gV<|.ref f)
 fn:Vy K (.ref f)=N7
 kp:QB K (.ref f)=N7
theorem vO{b:Oe}{Q:K'->Od->Prop}(I:Inv X o i H s)(e:H a=gV (.ins C D F))(c:Cls X.K C)(n:NoAttr X.K C f)(l:F.lookup f=gV v)
  (h:∀u d,Inv X o i H d->RelV v u->Q u d):wpAny (OS X.prog X.w) A (getAttr (.ref a) f b) Q E s:=by
 obtain⟨m,O,r,z,z,z⟩:=ins_get I.hok e;obtain⟨u,j,g⟩:=RelO.some_of (by rw[<-l];exact r f);exact Fq I.kIn O (c.get f) c.hd n j (zw g)<|h u _ (I.tok _) g
theorem mP{p:Sem Oe}{Q:K'×ab K'->Od->Prop}(I:Inv X o b H s)(e:H a=gV (.ins C d f))(c:Cls X.K C)(k:Ft X.K C m g)(l:f.lookup m=Oa)
  (h:Q (.ref g,[.ref a]) s):wpAny (OS X.prog X.w) A (WJ (.ref a) m p) Q E s:=by
 obtain⟨M,O,r,z,z,z⟩:=ins_get I.hok e;have n:=RelO.none_of (by rw[<-l];exact r m);exact Bf I.kIn O (c.get m) k.at_ k.fn n h
theorem vP{Q:W0->Od->Prop}(I:Inv X l p H s)(e:H a=gV (.ins C d F))(c:Cls X.K C)(n:NoAttr X.K C f)(M:F.length<1000)(t:RelV y u)
  (h:∀j,Inv X l p (upd H a<|.ins C d<|fI f y F) j->Q () j):wpAny (OS X.prog X.w) A (setAttr (.ref a) f u) Q E s:=by
 obtain⟨m,O,r,w,Z,k⟩:=ins_get I.hok e;have v:(F.map (·.1)).length<=sizeLine:=by rw[A',Qm];exact Pu (Pe M (by decide))
 refine Fs I.kIn O c.sa c.po n.taker c.hd w v λx i B=>h _ ?_;have D:∃o,x.get? d=gV o:=let ⟨o,_,_,G,_⟩:=i.ns;⟨o,G⟩
 refine I.write (by rw[e];exact Q7) (.inr k) (λb q J z=>(B.2 b J).trans z) D<|⟨by rwa[ag O.ne],?_,O.ne,i.obj,_,i.ns,λg=>?_,λg L=>?_⟩
 ·have:=ly f y F;lia
 ·rw[lx];by_cases q:g=f
  ·rwa[Ox q,Ox q]
  simp_all
 by_cases q:g=f
 ·rw[q];exact(ki f y F).1
 refine(ki f y F).2 g<|w g λz=>L ?_;simp_all
theorem Inv.made(I:Inv X O a H s):Inv X O a (upd (upd H s.heap.objs.size<|.own<|s.heap.objs.size+1) (s.heap.objs.size+1)<|.ins C s.heap.objs.size [])
  {s with heap:=(s.heap.push QR).push<|RG C s.heap.objs.size}:=by
 have E:(s.heap.push QR).get? _=gV QR:=OT _ rfl;have c:((s.heap.push QR).push<|RG C s.heap.objs.size).get? (s.heap.objs.size+1)=gV (RG C s.heap.objs.size):=by
  have:=OT (s.heap.push QR) (o:=RG C s.heap.objs.size) rfl
  rwa [Su]at this
 have d:(s.heap.push QR).Ns _ _:=⟨QR,#[],_,E,rfl,(λe h=>by simp_all),λz=>rfl⟩;have i:=I.laid (o:=.own<|s.heap.objs.size+1) (t':=s.toks) (λb u q=>Oj _ q) (N' _) ⟨_,E⟩;refine i.laid (λb u q=>Oj _ q) (UC<|Su _ _) ?_;have n:s.heap.objs.size≠s.heap.objs.size+1:=OQ<|Tq _;refine⟨by rw[ag n,aa],OG _,n,c,λz=>Oa,(Heap.Ns1.of_empty d).at λo q=>Oj _ q,λz=>Q7,λy f=>absurd rfl f⟩
theorem Fu{p:Ou}{w:ON}{P:Pos}{s:Od}{Q:K'->Od->Prop}(H:TL e f v (QA e v)=QA e v)
  (h:wpAny (OS p w) A (QA e v) (λo a=>wpAny (OS p w) A (getAttr o f N7) Q E a) E s):wpAny (OS p w) A (QA (.Attribute e f P) v) Q E s:=
 Attribute_any_ h (by rw[arm_eval_Attribute,H])
def Jn(K:C')(t:TE)(f:Str):TE:=λb H Q=>t b H λx h=>∃a C d F v,x=.ref a/\h a=gV (.ins C d F)/\Cls K C/\NoAttr K C f/\F.lookup f=gV v/\Q v h
def Jo(K:C')(t T:TE)(f:Str):TS:=λD b H=>T b H λy c=>t b c λx h=>∃a C d F,x=.ref a/\h a=gV (.ins C d F)/\Cls K C/\NoAttr K C f/\F.length<1000/\
 D.nx b (upd h a<|.ins C d<|fI f y F)
theorem Bh(b:PE X e t)(d:TL e f X.env (QA e X.env)=QA e X.env):PE X (.Attribute e f p) (Jn X.K t f):=by
 intro O s g H Q I h;refine Fu d<|bL (b O s g H _ I h) λu w z=>?_;obtain⟨x,i,j,r,a,C,D,F,v,E,k,c,n,l,q⟩:=z;subst E;obtain rfl:u=Px a:=r;exact vO j k c n l λU y m o=>⟨v,i,m,o,q⟩
theorem kn(d:PE X o t)(e:PE X v T)(g:VG v (gV<|.Attribute o f i) p.line X.env=pure Oc):PS X (.Assign [.Attribute o f i] v p) (Jo X.K t T f):=by
 intro O s b H D I h;refine plainObj_wpAny_Assign_Attribute (bL (e O s b H _ I h) λu j Y=>?_) g;obtain⟨y,k,m,r,q⟩:=Y;refine bL (d O j b k _ m q) λw G Z=>?_;obtain⟨x,J,z,A,a,C,L,M,E,B,c,n,l,Q⟩:=Z;subst E;obtain rfl:w=Px a:=A;exact vP z B c n l r λN F=>⟨b,_,F,Q⟩
inductive jn (K:C')(H:Hp):V->K'->Prop where
 |non:jn K H .non (.type "NoneType")
 |bl (x:Oe):jn K H (.bl x) (.type "bool")
 |int (i:Int):jn K H (.int i) (.type "int")
 |str (x:Str):jn K H (.str x) (.type "str")
 |flt (x:UInt64):jn K H (.flt x) (.type "float")
 |lst {a:J'} {xs:ab V} (e:H a=gV (.lst xs)):jn K H (.ref a) (.type "list")
 |frz {a:J'} {o:Obj} {xs:ab V} (e:H a=gV (.frz o<|.lst xs)):jn K H (.ref a) (.type "list")
 |tup {a:J'} {xs:ab V} (e:H a=gV (.tup xs)):jn K H (.ref a) (.type "tuple")
 |dK {a:J'} {k:ab (bj×V)} (e:H a=gV (.dK k)):jn K H (.ref a) (.type "dict")
 |dT {a:J'} {k:ab (ab bj×V)} (e:H a=gV (.dT k)):jn K H (.ref a) (.type "dict")
 |ins {a C dx:J'} {fs:ab (Str×V)} (e:H a=gV (.ins C dx fs)) (cl:Cls K C) (b:Pz K (.ref C) "__class__"=gV (gV<|.builtin "object.__class__"))
   (n:PySem.W.specialIn K (.builtin "object.__class__") "__get__"=gV (gV<|.builtin "getset_descriptor.__get__")) (h:PySem.W.takesIn K (.builtin "object.__class__")=gV N7)
   (m:PySem.W.mroIn K C (.type "object")=gV N7):jn K H (.ref a) (.ref C)
theorem zx(I:Inv X M N H s)(r:RelV x u)(T:jn X.K H x t)(e:Te X.K t c=gV b)(h:∀v,Q (.bool b) {s with toks:=v}):
  wpAny (OS X.prog X.w) A (call (.builtin "isinstance") [u,c]) Q E s:=by
 cases T with
 |non=>cases(r);exact QJ PySem.W.kitx_none I.kIn Q7 e (by simp) h
 |bl y=>cases(r);exact QJ PySem.W.kitx_bool I.kIn Q7 e (by simp) h
 |int i=>obtain⟨t,q⟩:=(r);cases q;exact QJ PySem.W.kitx_int I.kIn Q7 e (by simp) h
 |str y=>obtain⟨t,q⟩:=(r);cases q;exact QJ PySem.W.kitx_str I.kIn Q7 e (by simp) h
 |flt y=>obtain⟨t,q⟩:=(r);cases q;exact QJ PySem.W.kitx_float I.kIn Q7 e (by simp) h
 |@lst a g d=>
  cases(r);obtain⟨z,z,n,z,f⟩:=(I.hok a _ d);exact QJ ZP I.kIn ⟨_,f,rfl⟩ e (by simp) h
 |@frz a w g d=>
  cases(r);obtain⟨z,z,z,n,z,f⟩:=(I.hok a _ d);exact QJ ZP I.kIn ⟨_,f,rfl⟩ e (by simp) h
 |@tup a g d=>
  cases(r);obtain⟨z,z,z,p⟩:=(I.hok a _ d);obtain⟨o,f,j,z⟩:=p;exact QJ PySem.W.kitx_tuple I.kIn ⟨o,f,j⟩ e (by simp) h
 |@dK a k d=>
  cases(show u=Px a from r);obtain⟨z,z,P,z,p⟩:=(I.hok a _ d);obtain⟨o,B,D,f,j,z⟩:=p;exact QJ ZQ I.kIn ⟨o,f,j.1⟩ e (by simp) h
 |@dT a k d=>
  cases(show u=Px a from r);obtain⟨z,z,g,z,o,B,D,f,j,z⟩:=(I.hok a _ d);exact QJ ZQ I.kIn ⟨o,f,j.1⟩ e (by simp) h
 |@ins a C U W d m F G l L=>
  cases(r);obtain⟨Y,O,z⟩:=ins_get I.hok d;obtain⟨Z,J,z⟩:=O.look;exact QJ (PySem.W.kitx_own (m.get _) m.hd F G l L) I.kIn J e (by simp) h
structure Room (k:Nat)(A:Pw):Prop where
 hd:A.handled=Oa
 dp:A.depth+3*k+5<abo
 un:A.units+16*k+200<R1
theorem Room.mono(r:Room k A)(h:j<=k):Room j A:=⟨r.hd,by have:=r.dp;lia,by have:=r.un;lia⟩
theorem Room.deeper(r:Room (k+1) A)(e:Env):Room k (A.deeper e):=
 ⟨r.hd,by have:=r.dp;show A.depth+1+3*k+5<_;lia,by have:=r.un;show A.units+3+16*k+200<_;lia⟩
theorem vR{A:Pw}{C:J'}{u:ab K'}{k:ab (Str×K')}:(A.under<|.builtin "type.__call__" ⟨.ref C::u,k⟩).depth=A.depth+1:=by
 first|rfl|simp 
theorem vS{A:Pw}{C:J'}{u:ab K'}{k:ab (Str×K')}:(A.under<|.builtin "type.__call__" ⟨.ref C::u,k⟩).units=A.units+1:=by
 first|rfl|simp 
theorem Room.make(r:Room (k+1) A)(C:J')(u:ab K')(w:ab (Str×K')):Room k (A.under<|.builtin "type.__call__" ⟨.ref C::u,w⟩):=
 ⟨r.hd,by have:=r.dp;rw[vR];lia,by have:=r.un;rw[vS];lia⟩
theorem Room.depth(r:Room k A):A.depth<abo:=by have:=r.dp;lia
theorem Room.units(r:Room k A):A.units+64<R1:=by have:=r.un;lia
def vT:TA:=λ_ H Q=>Q [] H
def iR(t:TE)(T:TA):TA:=λa H Q=>t a H λx h=>T a h λX b=>Q (x::X) b
theorem gU:PA X [] vT:=λz z z z H Q I h=>Wf ⟨[],H,I,.nil,h⟩
theorem aP(b:PE X e T)(r:PA X E t)(c:OW (e::E) X.env=(Oc,QA e X.env)::OW E X.env:=by rfl):PA X (e::E) (iR T t):=by
 intro p O s a H Q I h;rw[c];exact Ue<|bL (b O s a H _ I h) (by rintro u d ⟨x,f,i,g,q⟩;exact bL (r p O d a f _ i q) (by rintro U o ⟨j,k,l,m,n⟩;exact ⟨x::j,k,l,.cons g m,n⟩))
def Nb(t:TA):TE:=λa H Q=>t a H λx h=>x.length<=sizeLine/\∀p,h p=Oa->Q (.ref p) (upd h p<|.tup x)
def Nc(t:TA):TE:=λa H Q=>t a H λx h=>x.length<=sizeLine/\∀p,h p=Oa->Q (.ref p) (upd h p<|.lst x)
theorem dI{x}(h:PA X E t):PE X (.Tuple E x p) (Nb t):=by
 intro O s d H Q I f;refine wpAny_Tuple_spliced<|bL (h p O s d H _ I f) λU a y=>?_;obtain⟨g,c,i,r,z,q⟩:=y;refine ⟨by rwa[<-r.length],?_⟩;have j:=i.hok.fresh<|N' _;exact⟨.ref _,upd c _<|.tup g,i.laid (λb u e=>Oj _ e) (N' _) (⟨z,U,r,⟨_,OT _ rfl,rfl,_,rfl⟩⟩),rfl,q _ j⟩
theorem Bi(h:PA X E t):PE X (.List E p) (Nc t):=by
 intro O s d H Q I f;refine wpAny_List_spliced<|bL (h p O s d H _ I f) λU a y=>?_;obtain⟨x,c,i,r,z,q⟩:=y;refine ⟨by rwa[<-r.length],?_⟩;have g:=i.hok.fresh<|N' _;exact⟨.ref _,upd c _<|.lst x,i.laid (λb u e=>Oj _ e) (N' _) (⟨z,U,0,r,OT _ rfl⟩),rfl,q _ g⟩
abbrev Sp:=ab V->Hp->VK->XK->Prop
abbrev Bj:=ab Env->Hp->Od->XK->K'->Od->Prop
structure Env0 (P:Ou)(w:ON)(K:C')(mg:Str->M' K')(base:Pd)(A:Pw)(outer:ab Env)(s:Od)(H:Hp):Prop where
 frames:A.frames=gV outer
 mod:Mod K mg base
 bs:∀b o,base.get? b=gV o->s.heap.get? b=gV o/\H b=Oa
 bsz:base.objs.size<=s.heap.objs.size
 funs:s.heap.FunFrames base outer
 frf:∀b∈vF outer,H b=Oa
 hok:HOk P w H s.heap
 bare:Wh s.gens
def CE(o:ab Env)(P:Ou)(w:ON)(H:Hp)(s:Od)(Q:VK)(u:K')(a:Od):Prop:=
 ∃v h,a.os=s.os/\Wh a.gens/\Un (vF o) [] H h s.heap a.heap/\HOk P w h a.heap/\RelV v u/\Q v h
def CR(C:Bj)(o:ab Env)(P:Ou)(w:ON)(H:Hp)(s:Od)(Q:VK)(E:XK)(r:lA)(a:Od):Prop:=
 match r with
 |.ok (.ret u)=>CE o P w H s Q u a
 |.ok _=>False
 |.error e=>C o H s E e a
structure aA (P:Ou)(w:ON)(K:C')(mg:Str->M' K')(base:Pd)(CX:Bj)(k:Nat)(f:J')(fd:Oz)(ps:ab Str)(sp:Sp):Prop where
 len:∀vs H Q E,sp vs H Q E->vs.length=ps.length
 run:∀(A:Pw) (outer:ab Env) (s:Od) (H:Hp) (args:Args) (us:ab K') (vs:ab V) (Q:VK) (E:XK),Room k A->Env0 P w K mg base A outer s H->ZW s fd args (ps.zip us)->Vals vs us->sp vs H Q E->
  codeAny (OS P w) A (.call (.ref f) args) (CR CX outer P w H s Q E) s
theorem Env0.make{P:Ou}{w:ON}{K:C'}{m:Str->M' K'}{b:Pd}{A:Pw}{o:ab Env}{s:Od}{H:Hp}(e:Env0 P w K m b A o s H)(C:J')(u:ab K')(k:ab (Str×K')):
  Env0 P w K m b (A.under<|.builtin "type.__call__" ⟨.ref C::u,k⟩) o s H:=⟨by first|exact e.frames|(simpa using e.frames),e.mod,e.bs,e.bsz,e.funs,e.frf,e.hok,e.bare⟩
theorem Inv.env0(I:Inv X O a H s):Env0 X.prog X.w X.K X.mg X.base X.A X.stack s H:=
 ⟨I.ok.frames,I.ok.mod,I.bs,Pm I.ok.bsz I.sz,I.stack,I.stkFree,I.hok,I.bare⟩
theorem Inv.after(I:Inv X O c H s)(h:CE X.stack X.prog X.w H s Q u a):EP X O c Q u a:=by
 obtain⟨v,e,os,B,U,k,r,q⟩:=h;obtain⟨f,g,d,t,o⟩:=a;obtain rfl:o=s.os:=os;exact⟨v,e,I.call U k B (λb z=>by simp_all),r,q⟩
def xq(s:Sp)(d:ab V)(E:XK)(t:TA):TE:=λa H Q=>t a H λv h=>s (v++d) h Q E
def tJ(C:J')(m:Str)(s:Sp)(d:ab V)(E:XK)(T:TE)(t:TA):TE:=λb H Q=>T b H λx h=>∃a D f,x=.ref a/\h a=gV (.ins C D f)/\f.lookup m=Oa/\
 t b h λv c=>s (x::(v++d)) c Q E
def Hw(C:J')(s:Sp)(D:ab V)(E:XK)(t:TA):TE:=λa H Q=>t a H λb h=>∀x d,h x=Oa->h d=Oa->d≠x->
 s (.ref x::(b++D)) (upd (upd h d<|.own x) x<|.ins C d []) (λv c=>v=.non/\Q (.ref x) c) E
def Binds(K:C')(f:Oz)(p:ab Str)(d:ab K'):Prop:=
 ∀(s:Od) (u:ab K'),K.In s.heap->(u++d).length=p.length->ZW s f ⟨u,[]⟩ (p.zip<|u++d)
theorem Binds.all{K:C'}{f:Oz}{p:ab Str}(h:∀u,u.length=p.length->ZN f ⟨u,[]⟩=pure (p.zip u)):Binds K f p []:=λs u z H=>by
 rw[Pq]at H ⊢;exact .of_eq<|h u H
def iZ(C:Bj)(X:Cx)(E:XK):Prop:=∀(O:ab (J'×Obj)) (b:St) (H:Hp) (s:Od) (e:K') (a:Od),Inv X O b H s->C X.stack H s E e a->X.xe e a
section
variable {X:Cx}{CX:Bj}{k:Nat}{f C:J'}{fd:Oz}{ps:ab Str}{sp:Sp}{dvs:ab V}{ds:ab K'}{E:XK}{x:Str}{p pos:Pos}{e:PD}{es:ab PD}{t:TA}
theorem vU{O:ab (J'×Obj)}{a:St}{H:Hp}{s:Od}{Q:VK}{U:ab K'}{v:ab V}(F:aA X.prog X.w X.K X.mg X.base CX k f fd ps sp)(c:Room k X.A)(d:Binds X.K fd ps ds)(g:Vals dvs ds)(i:iZ CX X E)
  (I:Inv X O a H s) (r:Vals v U) (h:sp (v++dvs) H Q E):wpAny (OS X.prog X.w) X.A (call (.ref f) U) (EP X O a Q) X.xe s:=by
 have b:=r.append g;have l:(U++ds).length=ps.length:=by rw[<-b.length];exact F.len _ _ _ _ h
 refine W3<|SD (F.run X.A _ s H _ _ _ Q E c I.env0 (d s U I.kIn l) b h) λr j q=>?_;cases r with
 |error e=>exact i O a H s e j I q
 |ok m=>
  cases m with
  |ret u=>exact I.after q
  |next=>exact Qc q
  |brk=>exact Qc q
  |cont=>exact Qc q
theorem Fv(F:aA X.prog X.w X.K X.mg X.base CX k f fd ps sp)(a:Room k X.A)(g:Gl X x)(m:X.mg x=gV (.ref f))(c:QB X.K (.ref f)=N7)(d:Binds X.K fd ps ds)(j:Vals dvs ds)(l:iZ CX X E)
  (n:PA X (e::es) t) (b:(x == ("__debug__":Str))=false:=by decide) (o:OW (e::es) X.env=(Oc,QA e X.env)::OW es X.env:=by rfl) (u:(RE pos<|OW es X.env).any (·.1)=false:=by rfl):
  PE X (.Call (.Name x p) (e::es) [] pos) (xq sp dvs E t):=by
 intro O s v H Q I h;exact Qy<|lZ I g m (T_ I.ok.mod.kin c (bL (n pos O s v H _ I h) (by rintro U w ⟨y,z,i,r,q⟩;exact ⟨i.kIn,vU F a d j l i r q⟩)) o u) b
theorem Fw{m:Str}{v:Pos}{o:PD}{T:TE}{P:Sem Oe}(w:PE X o T)(c:Cls X.K C)(d:Ft X.K C m f)(F:aA X.prog X.w X.K X.mg X.base CX k f fd ps sp)(y:Room k X.A)(z:Binds X.K fd ps ds)(A:Vals dvs ds)(B:iZ CX X E)(D:PA X (e::es) t)
  (b:OW (e::es) X.env=(Oc,QA e X.env)::OW es X.env:=by rfl) (G:(RE pos<|OW es X.env).any (·.1)=false:=by rfl)
  (J:QA (.Call (.Attribute o m v) (e::es) [] pos) X.env=(do
   let O <-QA o X.env
   YG v.atName
   let (f,first) <-Wb [O] (WJ O m P)
   q7 pos f first (RE pos<|OW (e::es) X.env) (X8 pos<|U7 [] X.env)):=by rfl):
  PE X (.Call (.Attribute o m v) (e::es) [] pos) (tJ C m sp dvs E T t):=by
 intro g s i H Q I h;refine XG (bL (w g s i H _ I h) λu L p=>?_) J;obtain⟨x,M,j,N,a,dx,fs,U,W,l,q⟩:=p;subst U;obtain rfl:u=Px a:=N;exact mP j W c d l<|T_ I.ok.mod.kin d.kp (bL (D pos g L i M _ j q) (by rintro Y s2 ⟨Z,H2,n,r,q2⟩;exact ⟨n.kIn,vU (v:=.ref a::Z) F y z A B n (.cons rfl r) q2⟩)) b G
theorem Bk{P:Sem Oe}(d:PE X o T)(c:Cls X.K C)(b:Ft X.K C m f)(F:aA X.prog X.w X.K X.mg X.base CX k f fd ps sp)(r:Room k X.A)(g:Binds X.K fd ps ds)(j:Vals dvs ds)(n:iZ CX X E)
  (w:QA (.Call (.Attribute o m v) [] [] pos) X.env=(do
   let O <-QA o X.env
   YG v.atName
   let (f,first) <-Wb [O] (WJ O m P)
   q7 pos f first (RE pos<|OW [] X.env) (X8 pos<|U7 [] X.env)):=by rfl):
  PE X (.Call (.Attribute o m v) [] [] pos) (tJ C m sp dvs E T vT):=by
 intro y s z H Q I h;refine XG (bL (d y s z H _ I h) λu G t=>?_) w;obtain⟨x,J,i,A,a,L,M,B,D,l,q⟩:=t;subst B;obtain rfl:u=Px a:=A;exact mP i D c b l<|PySem.W.callWith_K0 i.kIn b.kp<|vU (v:=[.ref a]) F r g j n i (.cons rfl .nil) q
structure Mk (K:C')(C f:J'):Prop where
 makes:Vf K C=N7
 init:Pz K (.ref C) "__init__"=gV (gV<|.ref f)
 fn:Vy K (.ref f)=N7
 kp:QB K (.ref C)=N7
theorem Bm{O:ab (J'×Obj)}{b:St}{H:Hp}{s:Od}{Q:VK}{U:ab K'}{c:ab V}(M:Mk X.K C f)(F:aA X.prog X.w X.K X.mg X.base CX k f fd ps sp)(j:Room (k+1) X.A)(l:Binds X.K fd ps ds)(m:Vals dvs ds)
  (n:iZ CX X E) (I:Inv X O b H s) (r:Vals c U)
  (h:∀x d,H x=Oa->H d=Oa->d≠x->sp (.ref x::(c++dvs)) (upd (upd H d<|.own x) x<|.ins C d []) (λv o=>v=.non/\Q (.ref x) o) E):
  wpAny (OS X.prog X.w) X.A (call (.ref C) U) (EP X O b Q) X.xe s:=by
 have q:=h _ _ (I.hok.fresh<|Uk _) (I.hok.fresh<|N' _)<|OQ<|Tq _;have i:=Inv.made (C:=C) I;have g:Vals (V.ref (s.heap.objs.size+1)::(c++dvs)) _:=.cons rfl<|r.append m;have w:(Px (s.heap.objs.size+1)::U++ds).length=ps.length:=by
  have e:=g.length;rw[F.len _ _ _ _ q]at e;exact e.symm
 refine W3 (Bg I.kIn M.makes M.init (US.mp M.fn) (SD (F.run _ _ _ _ _ _ _ _ E (j.make C U [])
  (i.env0.make C U []) (l _ _ i.kIn w) g q) λr y a=>?_))
 cases r with
 |error e=>exact n O b _ _ e y i a
 |ok z=>
  cases z with
  |ret u=>
   obtain⟨v,A,B,D,G,J⟩:=i.after a;subst G;exact⟨D,⟨V.ref<|s.heap.objs.size+1,A,B,rfl,J⟩⟩
  |next=>exact Qc a
  |brk=>exact Qc a
  |cont=>exact Qc a
theorem Fx(M:Mk X.K C f)(F:aA X.prog X.w X.K X.mg X.base CX k f fd ps sp)(a:Room (k+1) X.A)(g:Gl X x)(m:X.mg x=gV (.ref C))(c:Binds X.K fd ps ds)(d:Vals dvs ds)(j:iZ CX X E)
  (l:PA X (e::es) t) (b:(x == ("__debug__":Str))=false:=by decide) (n:OW (e::es) X.env=(Oc,QA e X.env)::OW es X.env:=by rfl) (u:(RE pos<|OW es X.env).any (·.1)=false:=by rfl):
  PE X (.Call (.Name x p) (e::es) [] pos) (Hw C sp dvs E t):=by
 intro O s o H Q I h;exact Qy<|lZ I g m (T_ I.ok.mod.kin M.kp (bL (l pos O s o H _ I h) (by rintro U v ⟨w,y,i,r,q⟩;exact ⟨i.kIn,Bm M F a c d j i r q⟩)) n u) b
end
structure ee (N P:ab Str)(sc:Sx):Prop where
 kind:sc.kind=.function
 co:sc.isCoroutine=Oc
 gen:sc.isGenerator=Oc
 nd:N.Nodup
 pre:N.take P.length=P
 par:∀x∈P,sc.names.lookup x=gV .local\/sc.names.lookup x=gV .cell
 nofree:∀y∈sc.names,y.2≠.free
theorem pS{kindOf:Str->M' VN}{x:Str}:∀{b:ab (Str×K')} {m:Str->M' K'},(∀v,(x,v)∉b)->kz kindOf b m x=m x
 |[],_,_=>rfl
 |(n,v)::r,m,h=>by
  unfold kz;rw[pS λw H=>h w<|Os _ H]
  split
  ·grind
  rfl
theorem pT{kindOf:Str->M' VN}{x:Str}:∀{b:ab (Str×K')} {m:Str->M' K'},(∀v,(x,v)∉b)->ky kindOf b m x=m x
 |[],_,_=>rfl
 |(n,v)::r,m,h=>by
  unfold ky;rw[pT λw H=>h w<|Os _ H]
  split
  ·rfl
  grind
theorem pU{kindOf:Str->M' VN}{x:Str}{v:K'}:∀{P:ab Str} {s:ab K'} {i:Nat} {m:Str->M' K'},P.Nodup->P[i]?=gV x->s[i]?=gV v->kindOf x=gV .local->
  kz kindOf (P.zip s) m x=gV v
 |[],_,_,_,_,h,_,_=>by simp at h
 |_::_,[],_,_,_,_,h,_=>by simp at h
 |p::P,w::s,0,m,n,H,a,k=>by
  simp at H a;subst H;subst a;show kz _ ((p,w)::P.zip s) m p=_
  unfold kz;rw[pS λv b=>(PF.mp n).1 (T3 b).1,Ox k];simp
 |p::P,w::s,i+1,m,n,H,a,k=>by
  show kz _ ((p,w)::P.zip s) m x=_
  exact pU (PF.mp n).2 (by assumption) (by assumption) k
theorem pV{kindOf:Str->M' VN}{x:Str}{v:K'}:∀{P:ab Str} {s:ab K'} {i:Nat} {m:Str->M' K'},P.Nodup->P[i]?=gV x->s[i]?=gV v->kindOf x≠gV .local->
  ky kindOf (P.zip s) m x=gV v
 |[],_,_,_,_,h,_,_=>by simp at h
 |_::_,[],_,_,_,_,h,_=>by simp at h
 |p::P,w::s,0,m,n,H,a,k=>by
  simp at H a;subst H;subst a;show ky _ ((p,w)::P.zip s) m p=_
  unfold ky;rw[pT λv b=>(PF.mp n).1 (T3 b).1,Ov k];simp
 |p::P,w::s,i+1,m,n,H,a,k=>by
  show ky _ ((p,w)::P.zip s) m x=_
  exact pV (PF.mp n).2 (by assumption) (by assumption) k
noncomputable def start(N:ab Str)(v:ab V):St:=v.map gV++List.replicate (N.length-v.length) Oa
noncomputable def ri(C:Bj)(P:Ou)(w:ON)(K:C')(mg:Str->M' K')(base:Pd)(N:ab Str)(q:Str)(a:Sx)(f:J')(c:K')(A:Pw)(outer:ab Env)(s:Od)(H:Hp)(E:XK):Cx where
 prog:=P
 w:=w
 K:=K
 mg:=mg
 base:=base
 A:=A.deeper (Rf q a s.heap.objs.size f c)
 N:=N
 s₀:=s
 H₀:=H
 env:=Rf q a s.heap.objs.size f c
 outer:=outer
 stack:=Rf q a s.heap.objs.size f c::outer
 ex:=[]
 calm:=N7
 fn:=λ_=>N7
 pn:=[]
 xe:=λe d=>wpAny (OS P w) (A.deeper<|Rf q a s.heap.objs.size f c) (leaving (Rf q a s.heap.objs.size f c) e) (λ_ b=>C outer H s E e b) (λg b=>C outer H s E g b) d
theorem tK{s:Sx}{n:Nat}{x:Str}(h:s.names.lookup x=gV .cell):∃c,(PP n s.names []).lookup x=gV c:=by
 have q:=W6 _ n []<|.inl h;exact TU.mp q
theorem zy{X:Bj}{P:Ou}{w:ON}{K:C'}{M:Str->M' K'}{B:Pd}{N l:ab Str}{Q:Str}{d:Sx}{f:J'}{F:K'}{A:Pw}{o:ab Env}{s J:Od}{H:Hp}{E:XK}{U:ab K'}{m:ab V}
  (S:ee N l d) (T:A.handled=Oa) (j:Env0 P w K M B A o s H) (Z:m.length=l.length) (r:Vals m U)
  (x:InCallC s s.heap.objs.size (kz (Rf Q d s.heap.objs.size f F).kindOf (l.zip U) λR=>Oa) (PP (s.heap.objs.size+1) d.names []) (ky (Rf Q d s.heap.objs.size f F).kindOf (l.zip U) λR=>Oa) J):
  Inv (ri X P w K M B N Q d f F A o s H E) [] (start N m) H J:=by
 have Xu:l.length<=N.length:=by have:=Pa Qw S.pre;rw[OJ]at this;lia
 obtain⟨G,tk,rfl,L⟩:=x.done;have n:∀b,b∉(ri X P w K M B N Q d f F A o s H E).ex:=λb z=>absurd (show b∈([])from z) (by simp);refine⟨⟨j.mod,S.kind,rfl,rfl,N' _,λy z c G g=>?_,λy t=>?_,λy c R h=>?_,λR=>T,Ye j.frames,.inr ⟨rfl,rfl⟩,λb z=>absurd z<|n b,j.bs,j.bsz,λb R R=>n b,λb z=>absurd z<|n b,j.funs,j.frf⟩,
  rfl,j.bare,Un.kept L,⟨_,x.toInCall.ns,λi y v G g h3=>?_⟩,λy c h=>⟨_,x.cell y c h⟩,j.hok.fresh<|N' _,λy c h=>?_,λp C=>absurd (show p∈([])from C) (by simp),j.hok.kept L,?_⟩
 ·exact ZL x.apart (PL G)<|PL g
 ·have t:=t;obtain t|t:=t
  ·exact tK t
  exact absurd rfl<|S.nofree _<|PL t
 ·exact Pu<|x.above y c<|PL h
 ·have I:i<m.length:=by
   unfold start at g;by_cases I:i<m.length
   ·exact I
   rw[OP<|by simpa using I]at g;rw[List.getElem?_replicate]at g
   split at g<;>cases g
  have W:m[i]?=gV v:=by
   unfold start at g;rw[OV (by simpa using I),Ow]at g;cases e:m[i]? with
   |none=>rw[e]at g;cases g
   |some a=>rw[e]at g;cases g;rfl
  obtain⟨u,O,Y⟩:=r.get W;have C:l[i]?=gV y:=by
   rwa[<-S.pre,P7<|by exact Pe I (UC Z)]
  have D:l.Nodup:=by rw[<-S.pre];exact S.nd.sublist<|S6 _ _
  exists u,Y;obtain k|k:=S.par y (N5 C)
  ·exact .inl ⟨k,pU D C O k⟩
  obtain⟨c,e⟩:=tK k;refine .inr ⟨.inl k,c,e,?_⟩;have q:=x.cell y c e;rwa[pV D C O (by show d.names.lookup y≠_;rw[k];decide)]at q
 ·exact j.hok.fresh<|Pu<|x.above y c<|PL h
 unfold start;show _=N.length
 rw[N9,A',List.length_replicate];lia
theorem Hx{X:Bj}{P:Ou}{w:ON}{K:C'}{M:Str->M' K'}{B:Pd}{k:Nat}{f:J'}{h l:Str}{p:To}{c:ab PQ}{a:Sx}{dV kV ZA pm j ct oc:K'}{an od:M' J'}
  {F:Pi (M' K')} {N D:ab Str} {G:Sp} (lk:K.lookup f=gV ⟨oc,od,.func<|Ru h l p c a dV kV ZA pm an j ct,F⟩) (L:Uw K j l=N7) (S:ee N D a)
  (len:∀d H Q E,G d H Q E->d.length=D.length)
  (T:∀A O s H d Q E,Room k (A.deeper<|Rf l a s.heap.objs.size f j)->G d H Q E->
   ∃t,PSs (ri X P w K M B N l a f j A O s H E) c t/\t {nx:=λ_ i=>Q .non i,rt:=Q} (start N d) H):
  aA P w K M B X (k+1) f (Ru h l p c a dV kV ZA pm an j ct) D G:=by
 refine⟨len,λA O s H ac us d Q E U z hb r C=>?_⟩;have hl:=len _ _ _ _ C;have KX:=z.mod.kin.keeps λb o e=>(z.bs b o e).1;have W:=z.mod.nolimit.keeps λb o e=>(z.bs b o e).1;have Y:∀y∈D.zip us,a.names.lookup y.1=gV _\/(a.names.lookup y.1=gV _/\((PP (s.heap.objs.size+1) _ []).lookup y.1).isSome=N7):=λ⟨n,v⟩ hy=>by
  obtain q|q:=S.par n (T3 hy).1
  ·exact .inl q
  exact .inr ⟨q,W6 _ _ _<|.inl q⟩
 refine codeAny_call_function U.depth (KX _ _ lk) rfl S.co S.gen rfl (PySem.W.codeRec_of KX L)<|hb _ _ _ _<|wpAny_newFunctionEnv_cells S.kind Y λam he s1 x=>?_;subst he;refine⟨W.keeps x.toInCall.keep,codeAny_func ?_⟩;obtain⟨t,ht,hq⟩:=T A O s H d Q E (U.deeper _) C;have I:Inv (ri X P w K M B N l a f j A O s H E) [] _ H s1:=zy S U.hd z hl r x;refine Qx (ht [] s1 _ H _ I hq) (λfl Z m=>?_) λe Z m=>m;have XX:∀{g:St} {i:Hp} {v:V} {u:K'},Inv (ri X P w K M B N l a f j A O s H E) [] g i Z->RelV v u->Q v i->CE O P w H s Q u Z:=
  λ{g i v u} J rv q=>⟨v,i,J.os,J.bare,J.base,J.hok,rv,q⟩
 cases fl with
 |ret u=>
  obtain⟨v,g,i,J,rv,q⟩:=m;exact XX J rv q
 |next=>
  obtain⟨g,i,J,q⟩:=m;exact XX (v:=V.non) J rfl q
 |brk=>
  obtain⟨_,_,_,q⟩:=m;exact Qc q
 |cont=>
  obtain⟨_,_,_,q⟩:=m;exact Qc q
section
variable {X:Cx}{x:Str}{p pos:Pos}{e:PD}{es:ab PD}{t:TA}{id:SB}{r:ab V->Hp->VK->Prop}
def NN(r:ab V->Hp->VK->Prop)(t:TA):TE:=λa H Q=>t a H λv h=>r v h Q
theorem aI(c:fk X (.builtin id) r)(g:Gl X x)(m:X.mg x=Oa)(v:Uu x=gV (.builtin id))(d:PA X (e::es) t)(n:x≠"__name__":=by decide)(b:(x == ("__debug__":Str))=false:=by decide)
  (f:OW (e::es) X.env=(Oc,QA e X.env)::OW es X.env:=by rfl) (u:(RE pos<|OW es X.env).any (·.1)=false:=by rfl):PE X (.Call (.Name x p) (e::es) [] pos) (NN r t):=by
 intro O s a H Q I h;exact Qy<|dZ I g m v (UZ (bL (d pos O s a H _ I h) (by rintro U i ⟨j,k,l,o,q⟩;exact c O i a k j U Q l o q)) f u) n b
theorem bF{T:SB}(c:fk X (.type T) r)(g:Gl X x)(m:X.mg x=Oa)(v:Uu x=gV (.type T))(d:PA X (e::es) t)(n:x≠"__name__":=by decide)(b:(x == ("__debug__":Str))=false:=by decide)
  (f:OW (e::es) X.env=(Oc,QA e X.env)::OW es X.env:=by rfl) (u:(RE pos<|OW es X.env).any (·.1)=false:=by rfl):PE X (.Call (.Name x p) (e::es) [] pos) (NN r t):=by
 intro O s a H Q I h;exact Qy<|dZ I g m v (Qk (bL (d pos O s a H _ I h) (by rintro U i ⟨j,k,l,o,q⟩;exact c O i a k j U Q l o q)) f u) n b
end
end L2
namespace HT
open PySem PyProof.Rows
theorem cat_tup{Q:K'->Od->Prop}(k:lC s.heap t v.toArray)(m:lC s.heap b W.toArray)(f:v≠[])
  (q:W=[]->Q (.ref t) s) (r:W≠[]->Q (.ref s.heap.objs.size) {s with heap:=s.heap.push {cls:=.type "tuple",data:=.seq (v++W).toArray}})
  (z:v.length+W.length<=sizeLine):wpAny (OS p w) A (Sq .Add (.ref t)<|.ref b) Q E s:=by
 obtain⟨⟨C,D,g,l⟩,o,i,n,j⟩:=id k;obtain⟨⟨u,d,data2,a⟩,h,H,N,Y⟩:=id m;simp only at i j H Y;subst i j H Y;have e:v.toArray++W.toArray=(v++W).toArray:=by simp
 by_cases c:W=[]
 ·exact ZM ⟨_,o,rfl⟩ ⟨_,h,rfl⟩ WI YZ Uy Uj (TQ _ _)
   (tuple_addW1 t b _ _ n N D d l a (by simpa using f)<|by simp[c]) ⟨o,h,q c⟩
 refine ZM ⟨_,o,rfl⟩ ⟨_,h,rfl⟩ WI YZ Uy Uj (TQ _ _)
  (tuple_addW2 t b _ _ n N D d l a (by simpa using f) (by simp_all)<|by assumption) ⟨o,h,?_⟩
 rw[e];exact r c
noncomputable def sIx(n d:Nat):M' Int->Nat
 |none=>d
 |some v=>if v<0 then(v+(n:Int)).toNat else min v.toNat n
theorem oD(n d k:Nat):sIx n d (gV (k:Int))=min k n:=by
 rfl
theorem Jp(n d:Nat)(H:d<=n)(o:M' Int):sIx n d o<=n:=by
 cases o with
 |none=>exact H
 |some v=>
  show(if v<0 then(v+(n)).toNat else min _ n)<=n
  by_cases h:v<0
  ·rw[Ox h];lia
  rw[Ov h];exact Tp _ _
theorem xr(v:Int)(n d:Nat):(if v<0 then max (v+(n:Int)) 0 else min v (n:Int))=((sIx n d (gV v):Nat):Int):=by
 show(if v<0 then max _ 0 else min v _)=(((if v<0 then(v+(n)).toNat else min _ n):Nat))
 grind
theorem vV(lo h:M' Int)(n:Nat):Tx lo h 1 (n:Int)=(((sIx n 0 lo:Nat):Int),((sIx n n h:Nat):Int)):=by
 unfold Tx;simp only ;refine R8 ?_ ?_
 ·cases lo with
  |none=>rfl
  |some v=>exact xr v n 0
 cases h with
 |none=>rfl
 |some v=>exact xr v n n
theorem vW(i j:Nat):R4 (i:Int) (j:Int) 1=j-i:=by
 unfold R4;have h:(1:Int)>0:=by simp
 simp only[h,TX,Int.ediv_one]
 split<;>lia
theorem mQ(p:Zh v o)(h:Q o s):wpAny (OS P w) A (aaX v) Q E s:=by
 cases p with
 |none=>exact abH h
 |int i t=>exact slicePart_int h
theorem sliceApplied_gen{l:J'}{v u:K'}{lo H:M' Int}{n:Nat}{Q:Int×Int×Nat->Od->Prop}(b:s.heap.IsSliceOf l v u .none)(P:Zh v lo)(c:Zh u H)
  (h:Q (((sIx n 0 lo:Nat):Int),1,sIx n n H-sIx n 0 lo) s):wpAny (OS p w) A (Tf (.ref l)<|pure (n:Int)) Q E s:=by
 obtain⟨os,a,d,Z⟩:=id b;refine B'<|B'<|F' a Z (x:=v) rfl<|B'<|F' a Z (x:=u) rfl<|B'<|F' a Z rfl<|Of<|B'<|abH<|B'<|mQ P<|B'<|mQ c<|B'<|Of ?_;show wpAny _ _ (match Tx lo H 1 (n)with|(lo,H)=>pure (lo,(1:Int),R4 lo H 1)) _ _ s
 rw[vV lo H n];show wpAny _ _ (pure _) _ _ s
 rw[vW];exact Of h
theorem Bn(X:Pi K')(i k:Nat):((O7 k).filterMap λ(m:Nat)=>X[((i:Int)+(m:Int)*1).toNat]?).toArray=((X.toList.drop i).take k).toArray:=by
 have e:(λ(m:Nat)=>X[((i:Int)+(m)*1).toNat]?)=λm=>X[i+m]?:=by
  grind
 rw[e];have:=pick_run X i k;have E:((λx=>X[x]?)∘λx=>i+x)=λm=>X[i+m]?:=rfl;simp_all
theorem getItem_tuple_cut{t l:J'}{i:Pi K'}{v u:K'}{lo H:M' Int}{Q:K'->Od->Prop}(b:lC s.heap t i)(e:s.heap.IsSliceOf l v u .none)(P:Zh v lo)(f:Zh u H)
  (g:¬(sIx i.size 0 lo=0/\sIx i.size i.size H=i.size))
  (h:Q (.ref s.heap.objs.size) {s with heap:=s.heap.push {cls:=.type "tuple",data:=.seq ((i.toList.drop<|sIx i.size 0 lo).take<|sIx i.size i.size H-sIx i.size 0 lo).toArray}})
  (z:i.size<=sizeLine):wpAny (OS p w) A (Vw (.ref t)<|.ref l) Q E s:=by
 have a:sizeOk (.seq ((i.toList.drop<|sIx i.size 0 lo).take<|sIx i.size i.size H-sIx i.size 0 lo).toArray):=by
  show((i.toList.drop<|sIx _ 0 lo).take<|sIx _ _ H-sIx _ 0 lo).toArray.size<=sizeLine
  rw[OA,OJ,QF,OR];exact Pm (Tp _ _) (Pm (ic _ _) z)
 obtain⟨os,c,j,Z⟩:=id e;have d:s.TypeIs (.ref l) _:=⟨os,c,j⟩;unfold Vw
 try with_reducible refine Qb ?_
 refine B'<|ZE b.typeIs (by rfl) ?_;refine B' (So b.typeIs Re
  (Rl Re b.typeIs YT ?_<|Zj _ _))
 show wpAny _ _ (VP _ >>=_) _ _ s
 refine B'<|acH b<|B'<|Tj d<|B'<|sliceApplied_gen e P f ?_;have W:¬((((sIx i.size 0 lo):Int) == 0&&(1:Int) == 1&&(sIx i.size i.size H-sIx i.size 0 lo) == i.size)=N7):=by
  simp_all
 show wpAny _ _ (if(((sIx _ 0 lo):Int) == 0&&(1) == 1&&(sIx _ _ H-sIx _ 0 lo) == i.size)=N7 then _ else _) _ _ s
 rw[Ov W,Bn]
 first
  |exact B'<|Qg (Of ⟨_,rfl,Of h⟩) a
  |exact B'<|Qg _ a
  |exact B'<|B'<|Qg _ a
  |exact B'<|B'<|Qg _ a
end HT
namespace L2
open PySem PySem.Spec PyProof.Rows
abbrev TO:=St->Hp->(M' Int->Hp->Prop)->Prop
def PO(X:Cx)(e:M' PD)(t:TO):Prop:=
 ∀(O:ab (J'×Obj)) (s:Od) (a:St) (H:Hp) (Q:M' Int->Hp->Prop),Inv X O a H s->t a H Q->
  wpAny (OS X.prog X.w) X.A (evalPart e X.env) (λu b=>∃o h,Inv X O a h b/\Zh u o/\Q o h) X.xe s
def Fy:TO:=λ_ H Q=>Q Oa H
def Ll(t:TE):TO:=λa H Q=>t a H λx h=>∃i,x=.int i/\Q (gV i) h
theorem i9:∀{u:ab K'},Vals (N.map V.int) u->Sk u N:=by
 induction N with
 |nil=>intro u r;cases r;exact .nil
 |cons n N i=>
  intro u r;cases r with
  |cons a b=>
   obtain⟨t,e⟩:=a;subst e;exact .cons n t<|i b
theorem l9:PO X Oa Fy:=by
 intro O s a H Q I h;exact Of ⟨Oa,H,I,.none,h⟩
theorem xu(h:PE X e T):PO X (gV e) (Ll T):=by
 intro O s a H Q I w;refine bL (h O s a H _ I w) λu f z=>?_;obtain⟨x,b,c,r,d⟩:=z;obtain⟨i,rfl,q⟩:=d;obtain⟨t,rfl⟩:=r;exact⟨gV i,b,c,.int i t,q⟩
def MM(X:Cx)(r:V->M' Int->M' Int->Hp->VK->Prop):Prop:=
 ∀(O:ab (J'×Obj)) (s:Od) (a:St) (H:Hp) (x:V) (v l u:K') (lo h:M' Int) (b:J') (Q:VK),Inv X O a H s->RelV x v->s.heap.IsSliceOf b l u .none->Zh l lo->Zh u h->r x lo h H Q->
  ∃T id,vl (.type T) "__getitem__"=pure (gV<|.builtin id)/\s.TypeIs v T/\wpAny (OS X.prog X.w) X.A (Vw v<|.ref b) (EP X O a Q) X.xe s
def N0(r:V->M' Int->M' Int->Hp->VK->Prop)(t:TE)(T h:TO):TE:=λa H Q=>t a H λx b=>T a b λl c=>h a c λu d=>r x l u d Q
theorem gW{X:Cx}{e:PD}{t:TE}{lo:M' PD}{i:M' PD}{g:TO}{j:TO}{p:Pos}{P:Pos}(m:MM X r)(n:PE X e t)(o:PO X lo g)(w:PO X i j):PE X (.Subscript e (.Slice lo i Oa P) p) (N0 r t g j):=by
 intro O s c H Q I h;refine y3<|bL (n O s c H _ I h) λv y V=>?_;obtain⟨x,z,A,B,C⟩:=V;refine wpAny_Slice<|bL (o O y c z _ A C) λd D S=>?_;obtain⟨l,E,F,G,J⟩:=S;refine bL (w O D c E _ F J) λf a R=>?_;obtain⟨u,k,L,M,N⟩:=R;refine Of ?_;have U:Inv X O c k {a with heap:=a.heap.push {cls:=.type "slice",data:=.fields #[d,f,.none]}}:=L.kept λb Z q=>Oj _ q;obtain⟨T,id,hT,W,Y⟩:=m O _ c k x v d f l u _ Q U B (aeP ..) G M N;exact tail_any W hT Y (by with_unfolding_all rfl)
noncomputable def cZ(x:ab V)(lo h:M' Int):ab V:=(x.drop<|HT.sIx x.length 0 lo).take<|HT.sIx x.length x.length h-HT.sIx x.length 0 lo
theorem lE(x:ab V)(lo h:M' Int):(cZ x lo h).length<=x.length:=by
 unfold cZ;rw[OJ,QF];exact Pm (Tp _ _) (ic _ _)
def Nd(K:C'):V->M' Int->M' Int->Hp->VK->Prop:=λx lo h H Q=>∃a X,x=.ref a/\SqT K H a X/\
 ¬(HT.sIx X.length 0 lo=0/\HT.sIx X.length X.length h=X.length)/\∀p,H p=Oa->Q (.ref p) (upd H p<|.tup<|cZ X lo h)
theorem Jq:MM X (Nd X.K):=by
 intro O s j H x v k u lo i m Q I d e p P h;obtain⟨a,c,rfl,f,w,q⟩:=h;cases d;obtain⟨g,r,t,z⟩:=I.tuple f;have l:g.toArray.size=c.length:=r.length.symm
 exists "tuple",_,PyProof.Rows.slot_tuple_getitem.lookup,t.typeIs;refine HT.getItem_tuple_cut t e p P (by rwa[l]) ?_ (by rwa[l]);rw[l];refine⟨.ref _,_,I.laid (λb o q=>Oj _ q) (N' _) ?_,rfl,q _<|I.hok.fresh<|N' _⟩;exact⟨Pm (lE c lo i) z,_,(r.drop<|HT.sIx _ 0 lo).take<|HT.sIx _ _ i-HT.sIx _ 0 lo,tA _ _⟩
def Lm(K:C'):R2:=λx y H Q=>∃a b X Y,x=.ref a/\y=.ref b/\SqT K H a X/\SqT K H b Y/\X≠[]/\X.length+Y.length<=sizeLine/\
 (Y=[]->Q (.ref a) H)/\(Y≠[]->∀p,H p=Oa->Q (.ref p) (upd H p<|.tup<|X++Y))
theorem Vals.nil_iff(r:Vals x u):u=[]↔x=[]:=by
 cases r with
 |nil=>simp
 |cons _ _=>simp
theorem Fz:OpR X (Sq .Add) (Lm X.K):=by
 intro O s n H x y v u Q I e f h;obtain⟨a,b,g,Y,rfl,rfl,i,j,k,d,l,m⟩:=h;cases e;cases f;obtain⟨o,c,p,Z⟩:=I.tuple i;obtain⟨A,r,P,Z⟩:=I.tuple j;refine HT.cat_tup p P (λz=>k<|c.nil_iff.mp z) (λz=>⟨.ref a,H,I,rfl,l<|r.nil_iff.mp z⟩) (λz=>⟨.ref _,_,I.laid (λb t q=>Oj _ q) (N' _) ?_,rfl,m (λw=>z<|r.nil_iff.mpr w) _<|I.hok.fresh<|N' _⟩) (by rwa[<-c.length,<-r.length]);exact⟨by simp_all,_,c.append r,tA _ _⟩
noncomputable def Jr(n:Nat)(i:Int):M' Nat:=if 0<=i then(if i<n then gV i.toNat else Oa)else if -(n:Int)<=i then gV (i+n).toNat else Oa
noncomputable def kq{a:Type}(x:ab a)(i:Int):M' a:=(Jr x.length i).bind λj=>x[j]?
theorem FA(h:Jr n i=gV j):YH i n=gV j/\j<n/\ -(n:Int)<=i/\i<n:=by
 unfold Jr at h;by_cases a:0<=i
 ·rw[Ox a]at h;by_cases H:i<n
  ·rw[Ox H]at h;have e:=Oy h;exact⟨by rw[seqIndex_of a H,e],by lia,by lia,H⟩
  simp_all
 rw[Ov a]at h;by_cases H:-(n)<=i
 ·rw[Ox H]at h;have e:=Oy h;exact⟨by rw[seqIndex_neg (WV a) H,e],by lia,H,by lia⟩
 simp_all
theorem rj{a:Type}{x:ab a}{i:Int}{v:a}(h:kq x i=gV v):∃j,YH i x.length=gV j/\x[j]?=gV v/\j<x.length/\ -(x.length:Int)<=i/\i<x.length:=by
 unfold kq at h;cases e:Jr x.length i with
 |none=>simp_all
 |some j=>
  rw[e]at h;obtain⟨H,b,c,d⟩:=FA e;exact⟨j,H,h,b,c,d⟩
theorem aK{a:Type}{x:ab a}{j:Nat}{v:a}(h:x[j]?=gV v):kq x (j:Int)=gV v:=by
 have H:=(N8.mp h).1;have e:Jr x.length (j)=gV j:=by
  unfold Jr;simp_all
 unfold kq;rwa[e]
def rn(b:PD):Prop:=∀o i,X3 b Oc o i=operate [o,i] (Vw o i)
def IxR(X:Cx)(r:R2):Prop:=
 ∀(e W:PD) (O:ab (J'×Obj)) (s:Od) (a:St) (H:Hp) (x y:V) (v u:K') (Q:VK),Inv X O a H s->RelV x v->RelV y u->r x y H Q->
  X3 W Oc v u=operate [v,u] (Vw v u)->wpAny (OS X.prog X.w) X.A (Y0 e W v u) (EP X O a Q) X.xe s
def MN(X:Cx)(id:SB)(r:V->ab V->Hp->VK->Prop):Prop:=
 ∀(O:ab (J'×Obj)) (s:Od) (a:St) (H:Hp) (x:V) (b:ab V) (v:K') (u:ab K') (Q:VK),Inv X O a H s->RelV x v->Vals b u->r x b H Q->
  wpAny (OS X.prog X.w) X.A (call (.builtin id)<|v::u) (EP X O a Q) X.xe s
section
variable {X:Cx}
theorem IxR.or(h:IxR X r)(h':IxR X f):IxR X (λx y H Q=>r x y H Q\/f x y H Q):=by
 intro e W O s a H x y v u Q I b c q d;obtain q|q:=q
 ·exact h e W O s a H x y v u Q I b c q d
 exact h' e W O s a H x y v u Q I b c q d
theorem Hy(c:IxR X r)(d:PE X a t)(e:PE X b T)(f:rn b):PE X (.Subscript a b p) (Fj r t T):=by
 intro O s g H Q I h;exact y3<|Jd d e I h λv u i x y j k l m q=>c a b O i g j x y v u Q k l m q<|f _ _
inductive Lo (K:C')(x y:V)(H:Hp)(Q:VK):Prop
 |mk (p:J')(xs:ab V)(i:Int)(v:V)(hx:x=.ref p)(a:y=.int i)(h:SqL K H p xs)(e:kq xs i=gV v)(q:Q v H)
inductive Lp (K:C')(x y:V)(H:Hp)(Q:VK):Prop
 |mk (p:J')(xs:ab V)(i:Int)(v:V)(hx:x=.ref p)(a:y=.int i)(h:SqT K H p xs)(e:kq xs i=gV v)(q:Q v H)
inductive Lq (x y:V)(H:Hp)(Q:VK):Prop
 |mk (z:Str)(i:Int)(c:Nat)(hx:x=.str z)(a:y=.int i)(h:z.length<=sizeLine)(e:kq z.cps.toList i=gV c)(q:Q (.str ⟨#[c]⟩) H)
def Lr(K:C'):R2:=λx y H Q=>Lo K x y H Q
def Ls(K:C'):R2:=λx y H Q=>Lp K x y H Q
def Lu:R2:=λx y H Q=>Lq x y H Q
theorem i0:IxR X (Lr X.K):=by
 intro e W O s d H x y v u Q I l m h f;obtain⟨p,J,i,z,rfl,rfl,n,o,q⟩:=h;cases l;obtain⟨t,rfl⟩:=m;obtain⟨A,r,P,L⟩:=I.list n;obtain⟨j,a,B,M,C,D⟩:=rj o;obtain⟨w,E,b⟩:=r.get B;have F:=r.length;have N:=mO;have g:EP X O d Q w s:=⟨z,H,I,b,q⟩;by_cases k:0<=i
 ·have c:i.toNat=j:=by
   rw[seqIndex_of k D]at a;exact Oy a
  exact item_listR P.isList k (by lia) (by rw[c];simpa using E) g f
 have c:(i+(A.toArray.size)).toNat=j:=by
  rw[seqIndex_neg (WV k) C]at a;rw[OA,<-F];exact Oy a
 exact W' P.isList.typeIs slot_list_getitem.lookup
  (wpAny_getItem_list_neg P.isList (WV k) (by simp_all) (by lia) (by rw[c];simpa using E) ⟨rfl,g⟩) f
theorem kf:IxR X (Ls X.K):=by
 intro e W O s b H x y v u Q I c d h f;obtain⟨p,B,i,z,rfl,rfl,g,k,q⟩:=h;cases c;obtain⟨t,rfl⟩:=d;obtain⟨C,r,P,D⟩:=I.tuple g;obtain⟨j,l,m,F,G,J⟩:=rj k;obtain⟨w,E,a⟩:=r.get m;have n:=r.length;have L:=mO;have o:EP X O b Q w s:=⟨z,H,I,a,q⟩;exact W' P.typeIs slot_tuple_getitem.lookup
  (getItem_tuple (j:=j) P (by lia) (by lia) (by simp_all) (by simpa using E) ⟨rfl,o⟩) f
theorem Js:IxR X Lu:=by
 intro e W O s o H x y v u Q I r b h d;obtain⟨z,i,c,rfl,rfl,p,f,q⟩:=h;obtain⟨t,rfl⟩:=r;obtain⟨T,rfl⟩:=b;obtain⟨j,a,g,w,k,l⟩:=rj f;have m:z.cps.toList.length=z.length:=by rfl
 rw[m]at a k l;have A:=mO;exact tail_any (typeIs_str s z t) slot_str_getitem.lookup (getItem_str (by
  lia) (by rw[a];simpa using g) ⟨.str _,H,I.tok _,⟨_,rfl⟩,q⟩) d
def Hz(K:C'):R2:=λx y H Q=>Lr K x y H Q\/Ls K x y H Q\/Lu x y H Q
theorem Bo:IxR X (Hz X.K):=i0.or<|kf.or Js
theorem r1x{i:Int}{n:Nat}(h:i<0):max 0 (min (i+n) n)=((i+n).toNat:Int):=by
 rw[Int.min_eq_left (by lia),Int.ofNat_toNat,Int.max_comm]
theorem r2x{i:Int}{n:Nat}(h:¬i<0):max 0 (min i n)=((min i.toNat n:Nat):Int):=by
 rw[Lean.Omega.Int.ofNat_min,Int.ofNat_toNat,Int.max_eq_left (Int.not_lt.1 h),Int.max_eq_right (Int.le_min.2 ⟨Int.not_lt.1 h,VZ n⟩)]
theorem ro(lo H:M' Int)(n:Nat):(Uh lo H Oa n).1=((HT.sIx n 0 lo:Nat):Int)/\(Uh lo H Oa n).2.1=((HT.sIx n n H:Nat):Int)/\(Uh lo H Oa n).2.2=1:=by
 refine⟨?_,?_,rfl⟩
 ·cases lo with
  |none=>rfl
  |some i=>
   simp only[Uh,HT.sIx,aas,show(1:Int)>0 by decide,TX];by_cases h:i<0
   ·simp only[h,TX];exact r1x h
   simp only[h,RI];exact r2x h
 cases H with
 |none=>rfl
 |some i=>
  simp only[Uh,HT.sIx,aas,show(1:Int)>0 by decide,TX];by_cases h:i<0
  ·simp only[h,TX];exact r1x h
  simp only[h,RI];exact r2x h
theorem pF(P:ab K')(lo h:M' Int):slicePick P.toArray lo h Oa=((P.drop<|HT.sIx P.length 0 lo).take<|HT.sIx P.length P.length h-HT.sIx P.length 0 lo).toArray:=by
 obtain⟨H,a,b⟩:=ro lo h _;unfold slicePick;rw[H,a,b];simp only[sliceRange_one,pick_run]<;>rfl
def Nf(K:C'):V->M' Int->M' Int->Hp->VK->Prop:=λx lo h H Q=>∃a s,x=.ref a/\SqL K H a s/\∀p,H p=Oa->Q (.ref p) (upd H p<|.lst<|cZ s lo h)
theorem l_:MM X (Nf X.K):=by
 intro O s g H x v j u lo i k Q I d e p P h;obtain⟨a,c,rfl,f,q⟩:=h;cases d;obtain⟨m,r,t,z⟩:=I.list f;have l:=r.length;exists "list",_,slot_list_getitem.lookup,t.isList.typeIs;refine wpAny_getItem_list_slice t.isList e p P .none (by simp) ?_ (by simp_all);rw[pF,<-l];refine⟨.ref _,_,I.laid (λb o q=>Oj _ q) (N' _) ?_,rfl,q _<|I.hok.fresh<|N' _⟩;exact⟨Pm (lE c lo i) z,_,0,(r.drop<|HT.sIx _ 0 lo).take<|HT.sIx _ _ i-HT.sIx _ 0 lo,OT _ rfl⟩
noncomputable def jo:V->Oe
 |.non=>N7
 |.bl _=>N7
 |.int _=>N7
 |.str _=>N7
 |_=>Oc
noncomputable def HA:V->V->Oe
 |.non,.non=>N7
 |.bl a,.bl b=>a == b
 |.bl a,.int b=>(if a then 1 else 0) == b
 |.int a,.bl b=>a == (if b then 1 else 0)
 |.int a,.int b=>a == b
 |.str a,.str b=>a == b
 |_,_=>Oc
theorem Jt(c:RelV y u)(r:RelV x v)(F:jo y=N7)(f:jo x=N7):R' A s u v (HA y x):=by
 cases y with
 |non=>
  cases c;cases x with
  |non=>cases r;exact afx _
  |bl b=>cases r;exact ad4 b
  |int b=>obtain⟨t,rfl⟩:=r;exact aep b t
  |str b=>obtain⟨t,rfl⟩:=r;exact aeo b t
  |_=>exact absurd ‹_› Om
 |bl a=>
  cases c;cases x with
  |non=>cases r;exact ad5 a
  |bl b=>cases r;exact ad6 a b
  |int b=>obtain⟨t,rfl⟩:=r;exact aet a b t
  |str b=>obtain⟨t,rfl⟩:=r;exact aes a b t
  |_=>exact absurd ‹_› Om
 |int a=>
  obtain⟨T,rfl⟩:=c;cases x with
  |non=>cases r;exact aeq a T
  |bl b=>cases r;exact aer a T b
  |int b=>obtain⟨t,rfl⟩:=r;exact aeN a T b t
  |str b=>obtain⟨t,rfl⟩:=r;exact Zf a T b t
  |_=>exact absurd ‹_› Om
 |str a=>
  obtain⟨T,rfl⟩:=c;cases x with
  |non=>cases r;exact aem a T
  |bl b=>cases r;exact aen a T b
  |int b=>obtain⟨t,rfl⟩:=r;exact Ze a T b t
  |str b=>obtain⟨t,rfl⟩:=r;exact aeM a T b t
  |_=>exact absurd ‹_› Om
 |_=>exact absurd ‹_› Om
noncomputable def vX(x:V)(u:K'):Oe:=match u with
 |.none=>HA .non x
 |.bool b=>HA (.bl b) x
 |.int i _=>HA (.int i) x
 |.str z _=>HA (.str z) x
 |_=>Oc
theorem Bp(r:RelV y u)(f:jo y=N7):vX x u=HA y x:=by
 cases y with
 |non=>cases r;rfl
 |bl b=>cases r;rfl
 |int i=>obtain⟨t,rfl⟩:=r;rfl
 |str z=>obtain⟨t,rfl⟩:=r;rfl
 |_=>exact absurd ‹_› Om
theorem jp:∀{s:ab V} {U:ab K'},Vals s U->s.all jo=N7->U.any (vX x)=s.any λy=>HA y x:=by
 intro s U h f;induction h with
 |nil=>rfl
 |cons r t i=>rw[Sg,Pj]at f;rw[RO,RO,Bp r f.1,i f.2]
theorem gX(b:RelV x v)(F:jo x=N7):∀{a:ab V} {U:ab K'},Vals a U->a.all jo=N7->∀u∈U,R' A s u v<|vX x u:=by
 intro a U h f;induction h with
 |nil=>intro u h;cases h
 |cons r t i=>
  intro c h;rw[Sg,Pj]at f;obtain rfl|h:=OC.mp h
  ·rw[Bp r f.1];exact Jt r b f.1 F
  exact i f.2 c h
noncomputable def gY(x:V)(s:ab V):Oe:=s.any λy=>HA y x
inductive NO (K:C')(n:Oe)(x y:V)(H:Hp)(Q:VK):Prop
 |mk (p:J')(xs:ab V)(a:y=.ref p)(h:SqL K H p xs\/SqT K H p xs)(f:jo x=N7)(fs:xs.all jo=N7)(q:Q (.bl (if n then !gY x xs else gY x xs)) H)
def MO(K:C')(n:Oe):R2:=λx y H Q=>NO K n x y H Q
theorem kr:OpR X (PX .In) (MO X.K Oc):=by
 intro O s e H x y v u Q I c d h;obtain⟨p,g,rfl,a,F,f,q⟩:=h;cases d;obtain a|a:=a
 ·obtain⟨P,r,l,z⟩:=I.list a;refine SeqAt.in_listAt _ l.isList (λw b=>gX c F r f w<|by simp_all) ⟨.bl _,H,I,rfl,?_⟩;rwa[show P.toArray.any _=P.any (vX x) by simp,jp r f]
 obtain⟨P,r,l,z⟩:=I.tuple a;refine SeqAt.in_tupleAt _ l (λw b=>gX c F r f w<|by simp_all) ⟨.bl _,H,I,rfl,?_⟩;rwa[show P.toArray.any _=P.any (vX x) by simp,jp r f]
theorem gD:OpR X (PX .NotIn) (MO X.K N7):=by
 intro O s e H x y v u Q I c d h;obtain⟨p,g,rfl,a,F,f,q⟩:=h;cases d;obtain a|a:=a
 ·obtain⟨P,r,l,z⟩:=I.list a;refine SeqAt.notIn_listAt _ l.isList (λw b=>gX c F r f w<|by simp_all) ⟨.bl _,H,I,rfl,?_⟩;rwa[show P.toArray.any _=P.any (vX x) by simp,jp r f]
 obtain⟨P,r,l,z⟩:=I.tuple a;refine SeqAt.notIn_tupleAt _ l (λw b=>gX c F r f w<|by simp_all) ⟨.bl _,H,I,rfl,?_⟩;rwa[show P.toArray.any _=P.any (vX x) by simp,jp r f]
theorem jq:fk X (.type "list") (λx H Q=>∃p y,x=[.ref p]/\(SqL X.K H p y\/SqT X.K H p y)/\∀l,H l=Oa->Q (.ref l) (upd H l<|.lst y)):=by
 intro v s w H x U Q I r h;obtain⟨p,y,rfl,f,q⟩:=h;obtain⟨u,rfl,A⟩:=eV r;cases A;have t:∀P,Vals y P->y.length<=sizeLine->∀a c,(∀b O,s.heap.get? b=gV O->a.get? b=gV O)->
   a.get? s.heap.objs.size=gV _->EP X v w Q _ {s with heap:=a}:=λP d z a c k e=>
  ⟨.ref _,_,I.laid k (N' _) (show ObjOk _ X.w _ a _ (.lst y)from⟨z,P,c,d,e⟩),rfl,q _<|I.hok.fresh<|N' _⟩
 obtain f|f:=f
 ·obtain⟨P,d,g,z⟩:=I.list f;have B:=d.length;obtain⟨o,i,j,n,m⟩:=g.isList;exact XP p (.inl rfl) i j m (λa c k e=>t P d z a c k e) (by simp_all)
 obtain⟨P,d,g,z⟩:=I.tuple f;have B:=d.length;obtain⟨o,i,j,n,m⟩:=g;exact XP p (.inr rfl) i j m (λa c k e=>t P d z a c k e) (by simp_all)
theorem bH:fk X (.type "tuple") (λx H Q=>∃p y,x=[.ref p]/\((SqL X.K H p y/\∀l,H l=Oa->Q (.ref l) (upd H l<|.tup y))\/(SqT X.K H p y/\Q (.ref p) H))):=by
 intro O s g H x U Q I r h;obtain⟨p,y,rfl,h⟩:=h;obtain⟨u,rfl,j⟩:=eV r;cases j;obtain⟨c,q⟩|⟨c,q⟩:=h
 ·obtain⟨P,d,f,z⟩:=I.list c;have n:=d.length;refine call_tuple_list f.isList (λa k=>?_) (by simp_all);have i:Inv X O g H {s with heap:=a}:=I.kept k;have m:Inv X O g (upd H _<|.tup y) {s with heap:=a.push _}:=
   i.laid (λb o e=>Oj _ e) (N' _) (⟨z,P,d,tA _ _⟩)
  exact⟨.ref _,_,m,rfl,q _<|i.hok.fresh<|N' _⟩
 obtain⟨P,d,f,z⟩:=I.tuple c;exact call_tuple_same f ⟨.ref p,H,I,rfl,q⟩
def Ng(K:C')(T:SB)(x:V)(H:Hp):Prop:=match x with
 |.str _=>T="str"
 |.int _=>T="int"
 |.ref p=>(T="list"/\∃s,SqL K H p s)\/(T="tuple"/\∃o,K.lookup p=gV o/\o.cls=.type "tuple"/\o.dict=Oa)\/
   (T="dict"/\((∃k,H p=gV (.dK k))\/∃k,H p=gV (.dT k)))\/(T="set"/\∃S n,H p=gV (.set S n))
 |_=>False
theorem Bq(I:Inv X g j H s)(r:RelV x v)(y:Ng X.K T x H):
  s.TypeIs v T/\∀a,v=.ref a->∃O,s.heap.get? a=gV O/\O.dict=none:=by
 cases x with
 |str z=>
  obtain⟨t,rfl⟩:=r;cases(y);exact⟨typeIs_str s z t,λw e=>nomatch e⟩
 |int i=>
  obtain⟨t,rfl⟩:=r;cases(y);exact⟨typeIs_int s i t,λw e=>nomatch e⟩
 |ref p=>
  cases r;obtain⟨rfl,l,q⟩|⟨rfl,o,h,f,d⟩|⟨rfl,h⟩|⟨rfl,S,n,h⟩:=y
  ·obtain⟨m,w,P,w⟩:=I.list q;refine⟨P.isList.typeIs,λa e=>?_⟩;cases e;obtain⟨o,n,e,c,d,w⟩:=P;exact⟨o,e,d⟩
  ·refine⟨⟨o,I.kIn p o h,f⟩,λa e=>?_⟩;cases e;exact⟨o,I.kIn _ o h,d⟩
  ·have z:∃o,s.heap.get? p=gV o/\o.ExactDict:=by
    obtain⟨k,h⟩|⟨k,h⟩:=h
    ·obtain⟨w,w,w,w,o,w,w,e,E,w⟩:=I.hok p _ h;exact⟨o,e,E⟩
    obtain⟨w,w,w,w,o,w,w,e,E,w⟩:=I.hok p _ h;exact⟨o,e,E⟩
   obtain⟨o,e,E⟩:=z;refine⟨⟨o,e,E.1⟩,λa b=>?_⟩;cases b;exact⟨o,e,E.2.1⟩
  ·obtain⟨o,w,w,w,e,E,w⟩:=I.hok p _ h;refine⟨⟨o,e,E.1⟩,λa b=>?_⟩;cases b;exact⟨o,e,E.2.1⟩
 |_=>exact Qc y
def Nh(K:C')(T:SB)(r:V->ab V->Hp->VK->Prop)(t:TE):TE:=λa H Q=>t a H λx h=>Ng K T x h/\r x [] h Q
def N1(K:C')(T:SB)(r:V->ab V->Hp->VK->Prop)(o:TE)(t:TA):TE:=λa H Q=>o a H λx h=>Ng K T x h/\t a h λs b=>r x s b Q
variable {o:PD}{to:TE}{name:Str}{Vt XY:Pos}{T id:SB}{r:V->ab V->Hp->VK->Prop}
theorem Ju(p:PlainAttrs T)(slot:Slot T name id)(y:typeOf (.builtin id)=pure (.type "method_descriptor"))(m:MN X id r)(d:PE X o to)
  (a:TL o name X.env (QA o X.env)=QA o X.env:=by rfl) (Y:(Vt.endLine == XY.line)=true:=by rfl):PE X (.Call (.Attribute o name Vt) [] [] XY) (Nh X.K T r to):=by
 intro O s b H Q I h;refine wpAny_Call_method0_late a Y<|bL (d O s b H _ I h) λv e z=>?_;obtain⟨x,f,i,c,t,q⟩:=z;obtain⟨g,j⟩:=Bq i c t;exact⟨T,id,p,slot,y,g,j,Uz rfl<|PySem.evalArgs_none<|m O e b f x [] v [] Q i c .nil q⟩
theorem fL{e:PD}{E:ab PD}{t:TA}(p:PlainAttrs T)(slot:Slot T name id)(y:typeOf (.builtin id)=pure (.type "method_descriptor"))(m:MN X id r)(g:PE X o to)(j:PA X (e::E) t)
  (a:TL o name X.env (QA o X.env)=QA o X.env:=by rfl)
  (A:((RE XY<|OW (e::E) X.env).all (λx=>!x.1)&&(X8 XY<|U7 [] X.env).all (λx=>x.1.isSome)
   &&decide ((e::E).length+([]:ab pz).length+(if([]:ab pz).isEmpty then 0 else 1)<30))=true:=by rfl)
  (Y:(Vt.endLine == XY.line)=true:=by rfl) (k:OW (e::E) X.env=(Oc,QA e X.env)::OW E X.env:=by rfl) (b:(RE XY<|OW E X.env).any (·.1)=false:=by rfl):
  PE X (.Call (.Attribute o name Vt) (e::E) [] XY) (N1 X.K T r to t):=by
 intro O s c H Q I h;refine wpAny_Call_method_late a A Y rfl<|bL (g O s c H _ I h) λv l Z=>?_;obtain⟨x,n,i,d,q,u⟩:=Z;obtain⟨w,z⟩:=Bq i d q;exists T,id,p,slot,y,w,z;have f:=j XY O l c n _ i u;rw[k]at f ⊢;exact Uz (by assumption)<|U8<|bL f (by rintro U B ⟨C,D,F,G,J⟩;exact m O B c D x C v U Q F d G J)
end
def Lv(X:Cx)(id:SB)(r:V->ab V->Hp->VK->Prop):Prop:=
 ∀(O:ab (J'×Obj)) (s:Od) (a:St) (H:Hp) (x:V) (b:ab V) (v:K') (u:ab K') (Q:VK),Inv X O a H s->RelV x v->Vals b u->r x b H Q->
  wpAny (OS X.prog X.w) X.A (call (.builtin id)<|v::u) (EP X O a Q) X.xe s
theorem Vals.one:∀{x:V} {U:ab K'},Vals [x] U->∃u,U=[u]/\RelV x u:=by
 rintro x U(z|⟨r,z|z⟩);exact⟨_,rfl,r⟩
theorem Vals.two:∀{x y:V} {U:ab K'},Vals [x,y] U->∃u v,U=[u,v]/\RelV x u/\RelV y v:=by
 rintro x y U(z|⟨r,z|⟨q,z|z⟩⟩);exact⟨_,_,rfl,r,q⟩
theorem Vals.zero:∀{u:ab K'},Vals [] u->u=[]
 |_,.nil=>rfl
theorem Vals.dropLast(h:Vals x u):Vals x.dropLast u.dropLast:=by
 induction h with
 |nil=>exact .nil
 |cons r t i=>
  cases t with
  |nil=>exact .nil
  |cons q T=>exact .cons r i
theorem Vals.eraseIdx:∀{x:ab V} {u:ab K'} (i:Nat),Vals x u->Vals (x.eraseIdx i) (u.eraseIdx i)
 |_,_,_,.nil=>.nil
 |_,_,0,.cons _ t=>t
 |_,_,i+1,.cons r t=>.cons r<|Vals.eraseIdx i t
theorem vY{c:Type}(l:ab c):l.eraseIdx (l.length-1)=l.dropLast:=by
 simp
theorem pW{a:Type}:∀(l:ab a) (i:Nat),(l.eraseIdx i).length<=l.length
 |[],_=>N' _
 |_::_,0=>Uk _
 |_::r,i+1=>QK<|pW r i
theorem Inv.lset{P i:ab K'}{n:Nat}{f:Pi K'->Pi K'}{t':Nat}(I:Inv X O a H s)(h:H l=gV (.lst x))
  (e:s.heap.get? l=gV {cls:=.type "list",data:=.seq P.toArray n}) (b:f P.toArray=i.toArray) (v:Vals y i) (z:y.length<=sizeLine):
  Inv X O a (upd H l<|.lst y) {s with heap:=s.heap.update l<|QO f,toks:=t'}:=by
 have q:=afm e f;rw[b]at q;exact I.write (by rw[h];exact trivial) (.inl rfl) (λB u c d=>(PJ _ _<|P6 c).trans d) ⟨_,q⟩<|⟨z,i,_,v,q⟩
theorem Inv.lnew{t':Nat}(I:Inv X O a H s)(h:Vals y P)(z:y.length<=sizeLine):
  Inv X O a (upd H s.heap.objs.size<|.lst y) {s with heap:=s.heap.push {cls:=.type "list",data:=.seq P.toArray},toks:=t'}:=
 I.laid (λx x q=>Oj _ q) (N' _) ⟨z,P,0,h,OT _ rfl⟩
theorem Inv.fresh(I:Inv X O a H s):H s.heap.objs.size=none:=I.hok.fresh<|N' _
theorem Inv.lstM(I:Inv X O a H s)(h:H l=gV (.lst x)):x.length<=sizeLine/\∃P n,Vals x P/\x.length=P.length/\s.heap.get? l=gV {cls:=.type "list",data:=.seq P.toArray n}:=by
 obtain⟨z,P,n,r,e⟩:=I.hok l _ h;exact⟨z,P,n,r,r.length,e⟩
inductive Lw (x:V)(vs:ab V)(H:Hp)(Q:VK):Prop
 |mk (l:J')(xs:ab V)(y:V)(hx:x=.ref l)(v:vs=[y])(h:H l=gV (.lst xs))(z:xs.length<sizeLine)(q:Q .non (upd H l<|.lst<|xs++[y]))
def FB:V->ab V->Hp->VK->Prop:=λx v H Q=>Lw x v H Q
theorem dz:Lv X "list.append" FB:=by
 intro O s f H x g v U Q I b c h;obtain⟨l,i,y,rfl,rfl,a,j,q⟩:=h;cases b;obtain⟨u,rfl,d⟩:=c.one;obtain⟨z,P,n,r,k,e⟩:=I.lstM a;refine UU Qp ⟨_,e,rfl⟩ F.entry_list_append (F.args_list_append_2 _ _) (PySem.list_append l _ n u<|by simp_all) ⟨e,⟨.non,_,I.lset (i:=P++[u]) a e (by simp) (r.append<|‹_›) ?_,rfl,q⟩⟩;rw[N9,OL];exact Wk (j' j)
def Ni:V->ab V->Hp->VK->Prop:=λx v H Q=>∃l X y,x=.ref l/\v=[]/\H l=gV (.lst X)/\X[X.length-1]?=gV y/\Q y (upd H l<|.lst X.dropLast)
theorem Jv:Lv X "list.pop" Ni:=by
 intro O s m H x o v U Q I d f h;obtain⟨l,p,y,rfl,rfl,c,g,q⟩:=h;cases d;have a:=f.zero;subst a;obtain⟨z,P,n,r,i,e⟩:=I.lstM c;obtain⟨u,j,k⟩:=r.get g;have b:P.toArray[P.toArray.size-1]?=gV u:=by
  simp_all
 refine UU Ud ⟨_,e,rfl⟩ aaq (F.args_list_pop_1 _) (MeetsSeq.list_pop_last l _ n u b<|by simp_all) ⟨e,⟨y,_,I.lset c e ?_ r.dropLast ?_,k,q⟩⟩
 ·simp
 grind
def Jw:V->ab V->Hp->VK->Prop:=λx v H Q=>∃l X i k y,x=.ref l/\v=[.int i]/\H l=gV (.lst X)/\ -(2^63)<=i/\i<2^63/\YH i X.length=gV k/\X[k]?=gV y/\Q y (upd H l<|.lst<|X.eraseIdx k)
theorem Br:Lv X "list.pop" Jw:=by
 intro O s C H x D v U Q I c d h;obtain⟨l,f,i,k,y,rfl,rfl,b,g,j,m,o,q⟩:=h;cases c;obtain⟨u,rfl,p⟩:=d.one;obtain⟨t,rfl⟩:=p;obtain⟨z,P,n,r,A,e⟩:=I.lstM b;obtain⟨w,B,a⟩:=r.get o;refine UU Ud ⟨_,e,rfl⟩ aaq (F.args_list_pop_2 _ _)
  (MeetsSeq.list_pop_at l _ n i t k w (abq g j) (by simp_all) (by simp_all)<|by simp_all) ⟨e,⟨y,_,I.lset b e ?_ (r.eraseIdx k) ?_,a,q⟩⟩
 ·simp
 have:=pW f k;lia
def Nj:R2:=λx y H Q=>∃l b X z,x=.ref l/\y=.ref b/\H l=gV (.lst X)/\H b=gV (.lst z)/\X.length+z.length<=sizeLine/\∀p,H p=Oa->Q (.ref p) (upd H p<|.lst<|X++z)
theorem mR:OpR X (Sq .Add) Nj:=by
 intro O s j H x y v u Q I c d h;obtain⟨l,b,k,Z,rfl,rfl,f,B,m,q⟩:=h;cases c;cases d;obtain⟨z,P,n,r,o,e⟩:=I.lstM f;obtain⟨p,a,N,g,W,E⟩:=I.lstM B;refine PySem.P.add_list e E ?_ (by simp_all);have i:P.toArray++a.toArray=(P++a).toArray:=by simp
 rw[i];exact⟨.ref _,_,I.lnew (r.append g) (by simp_all),rfl,q _ I.fresh⟩
section
variable {κ:Type}[U' κ]
noncomputable def b9(s:ab (κ×V))(k:κ):M' V:=(s.find? λv=>decide (v.1=k)).map (·.2)
noncomputable def cQ(s:ab (κ×V))(k:κ)(v:V):ab (κ×V):=
 if(s.any λa=>decide (a.1=k))=N7 then s.map (λa=>if a.1=k then(a.1,v)else a)else s++[(k,v)]
theorem cy{p:κ×V}{r:ab (κ×V)}{k:κ}(e:p.1=k):b9 (p::r) k=gV p.2:=by simp[b9,e]
theorem cm{p:κ×V}{r:ab (κ×V)}{k:κ}(e:¬p.1=k):b9 (p::r) k=b9 r k:=by simp[b9,e]
theorem gZ(k:κ):∀s,(s.any λv=>decide (v.1=k))=(b9 s k).isSome
 |[]=>rfl
 |p::r=>by
  rw[RO];by_cases e:p.1=k
  ·simp only[cy e,On e,Z7,Zl]
  rw[cm e,Ob e];exact gZ k r
theorem tL(k j:κ)(y:V):∀s,b9 (s.map λv=>if v.1=k then(v.1,y)else v) j=(b9 s j).map λx=>if j=k then y else x
 |[]=>rfl
 |p::r=>by
  have i:=tL k j y r;rw[OU];by_cases h:p.1=k
  ·rw[Ox h];by_cases e:p.1=j
   ·rw[cy (p:=(p.1,y)) e,cy e,TZ,Ox<|e.symm.trans h]
   rw[cm (p:=(p.1,y)) e,cm e,i]
  rw[Ov h];by_cases e:p.1=j
  ·rw[cy e,cy e,TZ,Ov λz=>h<|e.trans z]
  rw[cm e,cm e,i]
theorem pX(k j:κ)(y:V):∀s,b9 s k=Oa->b9 (s++[(k,y)]) j=if j=k then gV y else b9 s j
 |[],_=>by
  by_cases e:k=j
  ·rw[Ox e.symm];exact cy e
  ·rw[Ov λz=>e z.symm];exact cm e
 |p::r,h=>by
  rw[List.cons_append];have H:¬p.1=k:=λz=>by rw[cy z]at h;cases h
  rw[cm H]at h;have i:=pX k j y r h;by_cases e:p.1=j
  ·rw[cy e,cy e,Ov λz=>H<|e.trans z]
  rw[cm e,cm e,i]
theorem tN(s:ab (κ×V))(k j:κ)(y:V):b9 (cQ s k y) j=if j=k then gV y else b9 s j:=by
 unfold cQ;by_cases a:(s.any λv=>decide (v.1=k))=N7
 ·rw[Ox a,tL];rw[gZ]at a;by_cases e:j=k
  ·obtain⟨x,h⟩:=TU.mp a;rw[Ox e,e,h,TZ,Ox rfl]
  simp_all
 rw[Ov a];refine pX k j y s ?_;rw[gZ]at a;simp_all
theorem dA(s:ab (κ×V))(k:κ)(v:V):(cQ s k v).length<=s.length+1:=by
 unfold cQ
 split
 ·simp
 simp
theorem mS{s:ab (κ×V)}{k:κ}(v:V)(h:b9 s k=Oa):cQ s k v=s++[(k,v)]:=by
 unfold cQ;rw[gZ,h];rfl
theorem RelO.isSome_eq(r:RelO o u):o.isSome=u.isSome:=by
 cases o with
 |none=>cases u with
  |none=>rfl
  |some _=>exact(r).elim
 |some _=>cases u with
  |none=>exact(r).elim
  |some _=>rfl
theorem KV.val(r:KV s v)(k:κ):RelO (b9 s k) (V' v k):=by
 induction r with
 |nil=>exact Q7
 |@cons p q P Q h t i=>
  obtain⟨H,a⟩:=h;by_cases e:p.1=k
  ·have E:=H.symm.trans e;have b:V' (q::Q) k=gV q.2:=by simp[V',E]
   rwa[cy e,b]
  have E:¬q.1=k:=λz=>e<|H.trans z;have b:V' (q::Q) k=V' Q k:=by simp[V',E]
  rwa[cm e,b]
theorem KV.any(r:KV s a)(k:κ):(s.any λv=>decide (v.1=k))=a.any λv=>decide (v.1=k):=by
 induction r with
 |nil=>rfl
 |cons h t i=>simp_all
theorem KV.repl(r:KV s a)(k:κ)(b:RelV y u):
  KV (s.map λv=>if v.1=k then(v.1,y)else v) (a.map λv=>if v.1=k then(v.1,u)else v):=by
 induction r with
 |nil=>exact .nil
 |@cons p q P Q h t i=>
  rw[OU,OU];refine .cons ?_ i;obtain⟨H,c⟩:=h;by_cases e:p.1=k
  ·rw[Ox e,Ox<|H.symm.trans e];exact⟨H,b⟩
  rw[Ov e,Ov λz=>e<|H.trans z];exact⟨H,c⟩
theorem KV.put(r:KV s v)(k:κ)(a:RelV y u):KV (cQ s k y) (stored v k u):=by
 unfold cQ stored;rw[r.any k];by_cases e:(v.any λb=>decide (b.1=k))=N7
 ·rw[Ox e,Ox e];exact r.repl k a
 rw[Ov e,Ov e];exact Paired.snoc r ⟨rfl,a⟩
theorem KV.length{k:ab (κ×V)}{v:ab (κ×K')}(r:KV k v):k.length=v.length:=Paired.length r
end
theorem jr(r:RelV (kV k) u):(aZ P w).is k u=true:=by
 cases k with
 |inl i=>obtain⟨t,e⟩:=(r);subst e;exact tz P w i t
 |inr x=>obtain⟨t,e⟩:=(r);subst e;exact tD P w x t
theorem pY:∀{s:ab bj} {u:ab K'},Vals (s.map kV) u->ItemsAre (aZ P w) s u
 |[],_,r=>by cases r;exact .nil
 |k::s,_,r=>by
  cases r with
  |cons h t=>exact .cons (jr h)<|pY t
abbrev KT(H:Hp):ab (ab bj×V)->ab (ab bj×J'×K')->Prop:=Paired λp q=>p.1=q.1/\H q.2.1=gV (.tup<|p.1.map kV)/\RelV p.2 q.2.2
theorem KT.val(r:KT H s x)(k:ab bj):RelO (b9 s k) ((Wc x k).map (·.2)):=by
 induction r with
 |nil=>exact Q7
 |@cons p q P Q h t i=>
  obtain⟨a,y,c⟩:=h;by_cases e:p.1=k
  ·have E:=a.symm.trans e;have b:Wc (q::Q) k=gV q.2:=by simp[Wc,E]
   rwa[cy e,b]
  have E:¬q.1=k:=λz=>e<|a.trans z;have b:Wc (q::Q) k=Wc Q k:=by simp[Wc,E]
  rwa[cm e,b]
theorem KT.repl(r:KT H s x)(k:ab bj)(c:RelV y u):
  KT H (s.map λv=>if v.1=k then(v.1,y)else v) (x.map<|putAt k u):=by
 induction r with
 |nil=>exact .nil
 |@cons p q P Q h t i=>
  rw[OU];refine .cons ?_ i;obtain⟨a,b,d⟩:=h;unfold putAt;by_cases e:p.1=k
  ·rw[Ox e,Ox<|a.symm.trans e];exact⟨a,b,c⟩
  rw[Ov e,Ov λz=>e<|a.trans z];exact⟨a,b,d⟩
theorem KT.put(r:KT H s x)(k:ab bj)(h:H b=gV (.tup<|k.map kV))(a:RelV y u):
  KT H (cQ s k y) (qb x k b u):=by
 have e:(s.any λv=>decide (v.1=k))=(Wc x k).isSome:=by
  rw[gZ,(r.val k).isSome_eq,Wi]
 unfold cQ qb;rw[e];by_cases q:(Wc x k).isSome=N7
 ·rw[Ox q,Ox q];exact r.repl k a
 rw[Ov q,Ov q];exact Paired.snoc r ⟨rfl,h,a⟩
theorem KT.keeps(r:KT H k x)(h:∀b y,H b=gV (.tup y)->a b=gV (.tup y)):KT a k x:=
 Paired.mapP r λw w z=>⟨z.1,h _ _ z.2.1,z.2.2⟩
theorem HB(ok:HOk P w H h)(e:Rd H a u):ObjOk P w H h a u:=e.ok ok
theorem lG(ok:HOk P w H h)(e:Rd H a (.dK k)):k.length<=sizeLine/\(a == Q2)=Oc/\∃v,KV k v/\h.DictOf (aZ P w) a v:=
 HB ok e
theorem HC(ok:HOk P w H h)(e:H a=gV (.dK k)):k.length<=sizeLine/\(a == Q2)=Oc/\∃v,KV k v/\h.DictOf (aZ P w) a v:=lG ok<|.inl e
theorem i_(ok:HOk P w H h)(e:H a=gV (.tup<|k.map kV)):(VF<|aZ P w).is h k a:=by
 obtain⟨z,p,r,o,b,c,n,d⟩:=(ok a _ e);exact⟨o,p.toArray,n,b,c,d,by simpa using pY r⟩
theorem lH(ok:HOk P w H h)(e:Rd H a (.dT k)):k.length<=sizeLine/\(a == Q2)=Oc/\
  ∃X,KT H k X/\h.DictOfH (VF<|aZ P w) a X:=by
 obtain⟨z,y,X,r,o,E,d,f,g,i,j,n⟩:=(HB ok e);refine⟨z,y,X,r,o,E,d,f,g,i,j,λx b=>?_,n⟩;have A:∀{l:ab _} {m:ab _},KT H l m->∀x∈m,(VF<|aZ P w).is h x.1 x.2.1:=by
  intro l m q
  induction q with
  |nil=>intro x b;exact nomatch b
  |@cons p q s Q c t I=>
   intro x b;obtain e|b:=OC.mp b
   ·exact i_ ok (by simp_all)
   exact I x b
 exact A r x b
theorem Lx(ok:HOk P w H h)(e:H a=gV (.dT k)):k.length<=sizeLine/\(a == Q2)=Oc/\
  ∃x,KT H k x/\h.DictOfH (VF<|aZ P w) a x:=lH ok<|.inl e
def DGet(H:Hp)(a:J')(y:V)(r:M' V):Prop:=
 (∃s k,Rd H a (.dK s)/\y=kV k/\r=b9 s k)\/∃s k b,Rd H a (.dT s)/\y=.ref b/\H b=gV (.tup<|k.map kV)/\r=b9 s k
def DPut(H:Hp)(a:J')(y v:V)(h:Hp):Prop:=
 (∃s k,H a=gV (.dK s)/\y=kV k/\s.length<sizeLine/\h=upd H a (.dK<|cQ s k v))\/
 ∃s k b,H a=gV (.dT s)/\y=.ref b/\H b=gV (.tup<|k.map kV)/\s.length<sizeLine/\h=upd H a (.dT<|cQ s k v)
theorem DGet.k{H:Hp}{a:J'}{s:ab (bj×V)}{k:bj}(e:H a=gV (.dK s)):DGet H a (kV k) (b9 s k):=.inl ⟨s,k,.inl e,rfl,rfl⟩
theorem DGet.t{H:Hp}{a b:J'}{s:ab (ab bj×V)}{k:ab bj}(e:H a=gV (.dT s))(E:H b=gV (.tup<|k.map kV)):DGet H a (.ref b) (b9 s k):=.inr ⟨s,k,b,.inl e,rfl,E,rfl⟩
theorem DPut.k{H:Hp}{a:J'}{s:ab (bj×V)}{k:bj}{v:V}(e:H a=gV (.dK s))(h:s.length<sizeLine):DPut H a (kV k) v (upd H a<|.dK<|cQ s k v):=.inl ⟨s,k,e,rfl,h,rfl⟩
theorem DPut.t{H:Hp}{a b:J'}{s:ab (ab bj×V)}{k:ab bj}{v:V}(e:H a=gV (.dT s))(E:H b=gV (.tup<|k.map kV))(h:s.length<sizeLine):
  DPut H a (.ref b) v (upd H a<|.dT<|cQ s k v):=.inr ⟨s,k,b,e,rfl,E,h,rfl⟩
theorem Inv.big(I:Inv X O a H s):Q2<s.heap.objs.size:=by
 have h:=(I.mod.glob.keeps I.bk).lt;exact VD (by decide) h
theorem zA(n:A.units+1<R1)(I:Inv X O o H s)(g:DGet H a y (gV v))(j:RelV y u)(h:∀w m,Inv X O o H m->RelV v w->Q w m):
  wpAny (OS X.prog X.w) A (Vw (.ref a) u) Q E s:=by
 obtain⟨c,k,e,d,l⟩|⟨c,k,b,e,d,q,l⟩:=g
 ·subst d;obtain⟨z,t,x,W,D⟩:=lG I.hok e;obtain⟨w,f,r⟩:=RelO.some_of (by rw[l];exact W.val k);exact wpAny_getItem_of (jr j) D.mapOf f<|h w _ (I.tok _) r
 subst d;cases(j);obtain⟨z,t,B,W,D⟩:=lH I.hok e;obtain⟨w,f,r⟩:=RelO.some_of (by rw[l];exact W.val k);obtain⟨p,C,i⟩:=PK.mp f;refine wpAny_getItem_heap (RW n) (i_ I.hok q) D C ?_;rw[i];exact h w _ (I.tok _) r
theorem Nk(j:A.units+1<R1)(I:Inv X O m H s)(g:DGet H a y o)(r:RelV y u)(h:∀i,Inv X O m H i->Q (.bool o.isSome) i):
  wpAny (OS X.prog X.w) A (PX .In u<|.ref a) Q E s:=by
 obtain⟨c,k,e,d,l⟩|⟨c,k,b,e,d,n,l⟩:=g
 ·subst d;obtain⟨z,f,v,W,D⟩:=lG I.hok e;refine wpAny_in_of (jr r) f D.mapOf ?_;rw[<-(W.val k).isSome_eq,<-l];exact h _<|I.tok _
 subst d;cases(r);obtain⟨z,f,x,W,D⟩:=lH I.hok e;refine wpAny_in_heap (RW j) (i_ I.hok n) f D ?_;have q:=(W.val k).isSome_eq;rw[Wi]at q;rw[<-q,<-l];exact h _<|I.tok _
theorem FC(j:A.units+1<R1)(I:Inv X O m H s)(g:DGet H a y o)(r:RelV y u)(h:∀i,Inv X O m H i->Q (.bool (!o.isSome)) i):
  wpAny (OS X.prog X.w) A (PX .NotIn u<|.ref a) Q E s:=by
 obtain⟨c,k,e,d,l⟩|⟨c,k,b,e,d,n,l⟩:=g
 ·subst d;obtain⟨z,f,v,W,D⟩:=lG I.hok e;refine wpAny_notIn_of (jr r) f D.mapOf ?_;rw[<-(W.val k).isSome_eq,<-l];exact h _<|I.tok _
 subst d;cases(r);obtain⟨z,f,x,W,D⟩:=lH I.hok e;refine wpAny_notIn_heap (RW j) (i_ I.hok n) f D ?_;have q:=(W.val k).isSome_eq;rw[Wi]at q;rw[<-q,<-l];exact h _<|I.tok _
theorem jt{t':Nat}(I:Inv X O c H s)(m:K2 (H a))(h:RK a s.heap h')(e:∃q,h'.get? a=gV q)(n:ObjOk X.prog X.w (upd H a o) h' a o):
  Inv X O c (upd H a o) {s with heap:=h',toks:=t'}:=
 I.write m (.inl rfl) (λb q d z=>(h.2 b d).trans z) e n
theorem rp{H:Hp}(z:k.length<=sizeLine)(h:(a == Q2)=Oc)(W:KV k v)(d:h'.DictOf (aZ P w) a v):
  ObjOk P w H h' a (.dK k):=⟨z,h,v,W,d⟩
theorem zB(J:A.units+1<R1)(I:Inv X O L H s)(g:DPut H a y v M)(w:RelV y u)(x:RelV v r)(h:∀B,Inv X O L M B->Q () B):
  wpAny (OS X.prog X.w) A (setItem (.ref a) u r) Q E s:=by
 obtain⟨d,k,e,i,l,j⟩|⟨d,k,b,e,i,C,l,j⟩:=g
 ·subst i j;obtain⟨z,m,N,W,n⟩:=HC I.hok e;have o:N.length<=sizeLine:=by rwa[<-W.length]
  have p:(cQ d k v).length<=sizeLine:=by have:=dA d k v;lia
  refine wpAny_setItem_pairs (jr w) n λF D t=>h _ ?_;have P:∃q,F.get? a=gV q:=let ⟨q,_,_,f,_⟩:=D;⟨q,f⟩
  exact jt I (by rw[e];exact Q7) t P<|rp p m (W.put k x) D
 subst i j;cases(w);obtain⟨z,m,T,W,n⟩:=Lx I.hok e;have o:T.length<=sizeLine:=by rwa[<-Paired.length W]
 have p:(cQ d k v).length<=sizeLine:=by have:=dA d k v;lia
 refine wpAny_setItem_heap (RW J) (i_ I.hok C) n λF D t=>h _ ?_;obtain⟨q,U,Y,f,Z,h3,h4,V,h5⟩:=D;refine jt I (by rw[e];exact Q7) t ⟨q,f⟩ ⟨p,m,_,(W.put k C x).keeps λc ys G=>?_,q,U,Y,f,Z,h3,h4,h5⟩;rwa[ag<|bp G e (λz=>nomatch z)]
def Ly(i:PD):Prop:=∀o I,X3 i Oc o I=operate [o,I] (Vw o I)
theorem FD{p:Ou}{w:ON}{A:Pw}{E:K'->Od->Prop}{s:Od}{e:Env}{v W:PD}{P:Pos}{T id:SB}{Q:K'->Od->Prop}
  (l:vl (.type T) "__getitem__"=pure (gV<|.builtin id)) (g:Ly W)
  (h:wpAny (OS p w) A (QA v e) (λo b=>wpAny (OS p w) A (QA W e) (λi a=>a.TypeIs o T/\wpAny (OS p w) A (Vw o i) Q E a) E b) E s):
  wpAny (OS p w) A (QA (.Subscript v W P) e) Q E s:=by
 refine y3<|Qx h (λo b d=>Qx d (λi a H=>?_) λz z x=>x) λz z x=>x;obtain⟨hT,H⟩:=H;refine B'<|B'<|Xw hT l ?_;have X:wpAny (OS p w) A (X3 W Oc o i) (λr c=>wpAny (OS p w) A (letTemporaryGo v o r >>=λz=>pure r) Q E c) E a:=by
  rw[g o i];exact wpAny_operating<|Qx H (λr c f=>B'<|wpAny_letTemporaryGo<|Of f) λz z x=>x
 first
  |exact Of<|B' X
  |exact B'<|Of<|B' X
  |exact B' X
theorem tO(I:Inv X O f H s)(g:DGet H a y o):s.TypeIs (.ref a) "dict":=by
 obtain⟨c,k,e,z,z⟩|⟨c,k,b,e,z,z,z⟩:=g
 ·obtain⟨z,z,v,z,d⟩:=lG I.hok e;exact d.typeIs
 obtain⟨z,z,x,z,d⟩:=lH I.hok e;exact d.typeIs
def Lz(t T:TE):TE:=λb H Q=>t b H λx c=>T b c λy h=>∃a v,x=.ref a/\DGet h a y (gV v)/\Q v h
def Nl(t T:TE):TE:=λb H Q=>t b H λy c=>T b c λx h=>∃a o,x=.ref a/\DGet h a y o/\Q (.bl o.isSome) h
def FE(t T:TE):TE:=λb H Q=>t b H λy c=>T b c λx h=>∃a o,x=.ref a/\DGet h a y o/\Q (.bl (!o.isSome)) h
def LA(t T c:TE):TS:=λD b H=>c b H λv d=>t b d λx e=>T b e λy f=>∃a h,x=.ref a/\DPut f a y v h/\D.nx b h
theorem bS(d:X.A.units+1<R1)(e:PE X o t)(f:PE X i T)(j:Ly i):PE X (.Subscript o i p) (Lz t T):=by
 intro O s b H Q I h;refine FD PySem.F.slot_dict_getitem.lookup j<|bL (e O s b H _ I h) λu k Y=>?_;obtain⟨x,l,m,n,q⟩:=Y;refine bL (f O k b l _ m q) λC D Z=>?_;obtain⟨y,w,c,z,a,v,E,g,A⟩:=Z;subst E;obtain rfl:u=Px a:=n;exact⟨tO c g,zA d c g z λW F B r=>⟨v,w,B,r,A⟩⟩
theorem Jx(c:X.A.units+1<R1)(d:PE X i t)(e:PE X o T):PC X .In i o (Nl t T):=by
 intro O s b H Q I h;refine bL (d O s b H _ I h) λz f Y=>?_;obtain⟨y,j,k,r,q⟩:=Y;refine bL (e O f b j _ k q) λu A Z=>?_;obtain⟨x,l,m,n,a,v,E,g,p⟩:=Z;subst E;obtain rfl:u=Px a:=n;exact Nk c m g r λB w=>⟨.bl _,l,w,rfl,p⟩
theorem pZ(c:X.A.units+1<R1)(d:PE X i t)(e:PE X o T):PC X .NotIn i o (FE t T):=by
 intro O s b H Q I h;refine bL (d O s b H _ I h) λz f Y=>?_;obtain⟨y,j,k,r,q⟩:=Y;refine bL (e O f b j _ k q) λu A Z=>?_;obtain⟨x,l,m,n,a,v,E,g,p⟩:=Z;subst E;obtain rfl:u=Px a:=n;exact FC c m g r λB w=>⟨.bl _,l,w,rfl,p⟩
theorem rq(c:X.A.units+1<R1)(d:PE X o t)(f:PE X i T)(j:PE X e k)(l:VG e (gV<|.Subscript o i m) p.line X.env=pure Oc):
  PS X (.Assign [.Subscript o i m] e p) (LA t T k):=by
 intro O s b H D I h;refine wpAny_Assign_Subscript (bL (j O s b H _ I h) λr n S=>?_) l;obtain⟨v,q,w,z,Q⟩:=S;refine bL (d O n b q _ w Q) λu A R=>?_;obtain⟨x,B,C,E,F⟩:=R;refine bL (f O A b B _ C F) λU W V=>?_;obtain⟨y,Y,G,J,a,L,M,g,N⟩:=V;subst M;obtain rfl:u=Px a:=E;exact zB c G g J z λZ P=>⟨b,L,P,N⟩
theorem tP(h:Pd)(b:Q2<h.objs.size):ObjOk P w H (h.push {cls:=.type "dict",data:=.dict #[]}) h.objs.size (.dK []):=
 ⟨OG _,PU.mpr<|P6<|OQ b,[],.nil,aaU h⟩
theorem Bt(h:Pd)(b:Q2<h.objs.size):ObjOk P w H (h.push {cls:=.type "dict",data:=.dict #[]}) h.objs.size (.dT []):=
 ⟨OG _,PU.mpr<|P6<|OQ b,[],.nil,_,#[],0,OT _ rfl,⟨rfl,rfl,rfl⟩,rfl,rfl,Sw⟩
def Jy:TE:=λ_ H Q=>∀p,H p=Oa->Q (.ref p) (upd H p<|.dK [])
def Jz:TE:=λ_ H Q=>∀p,H p=Oa->Q (.ref p) (upd H p<|.dT [])
theorem Bu:PE X (.Dict [] [] p) Jy:=λO s a H Q I h=>
 aaf ⟨.ref _,_,I.laid (λz z q=>Oj _ q) (N' _)<|tP _ I.big,rfl,h _<|I.hok.fresh<|N' _⟩
theorem mT:PE X (.Dict [] [] p) Jz:=λO s a H Q I h=>
 aaf ⟨.ref _,_,I.laid (λz z q=>Oj _ q) (N' _)<|Bt _ I.big,rfl,h _<|I.hok.fresh<|N' _⟩
def vZ:ab (TE×TE)->St->Hp->(ab (V×V)->Hp->Prop)->Prop
 |[],_,H,Q=>Q [] H
 |(t,T)::r,a,H,Q=>t a H λx h=>T a h λy b=>vZ r a b λp c=>Q ((x,y)::p) c
abbrev VV:ab (V×V)->ab (K'×K')->Prop:=Paired λp q=>RelV p.1 q.1/\RelV p.2 q.2
def MP(X:Cx)(p:Pos)(v:ab (M' PD))(a:ab PD)(t:ab (TE×TE)):Prop:=
 ∀(O:ab (J'×Obj)) (s:Od) (b:St) (H:Hp) (Q:ab (V×V)->Hp->Prop),Inv X O b H s->vZ t b H Q->
  wpAny (OS X.prog X.w) X.A (evalPairs<|pairTrees v a X.env p) (λc d=>∃P h,Inv X O b h d/\VV P c/\Q P h) X.xe s
theorem xv:MP X p [] [] []:=λO s a H Q I h=>pairTrees_nil_walk ⟨[],H,I,.nil,h⟩
theorem mU(b:PE X k T)(c:PE X v d)(r:MP X p e f t):
  MP X p (gV k::e) (v::f) ((T,d)::t):=λO s a H Q I h=>
 pairTrees_cons_walk (bL (b O s a H _ I h) (by rintro u g ⟨x,i,j,l,q⟩;exact bL (c O g a i _ j q) (by rintro D m ⟨y,n,o,w,z⟩;exact bL (r O m a n _ o z) (by rintro E F ⟨P,A,B,W,C⟩;exact ⟨(x,y)::P,A,B,.cons ⟨l,w⟩ W,C⟩))))
noncomputable def fT(k m:ab (bj×V)):ab (bj×V):=m.foldl (λr v=>cQ r v.1 v.2) k
theorem KV.merge:∀{m:ab (bj×V)} {s:ab (bj×K')} {k:ab (bj×V)} {v:ab (bj×K')},KV m s->KV k v->KV (fT k m) (Y8 v s):=by
 intro m s k v r;induction r generalizing k v with
 |nil=>intro q;exact q
 |@cons p q P Q h t i=>
  intro a;have e:KV (cQ k p.1 p.2) (stored v q.1 q.2):=by
   have:=a.put p.1 h.2;rwa[<-h.1]
  exact i e
theorem iS:∀m k,(fT k m).length<=k.length+m.length
 |[],k=>by show k.length<=k.length+0;simp
 |p::r,k=>by
  have h:=iS r<|cQ k p.1 p.2;have H:=dA k p.1 p.2;show(fT _ r).length<=_
  grind
theorem mV:∀{k:ab (bj×V)} {W:ab (K'×K')},VV (k.map λv=>(kV v.1,v.2)) W->∃s,Carries (aZ P w) W s/\KV k s
 |[],_,r=>by cases r;exact⟨[],Q7,.nil⟩
 |p::k,_,r=>by
  cases r with
  |@cons a b A d h t=>
   obtain⟨s,c,q⟩:=mV (P:=P) (w:=w) t;obtain⟨e,B⟩:=b;exact⟨(p.1,B)::s,⟨jr h.1,rfl,c⟩,.cons ⟨rfl,h.2⟩ q⟩
def tQ(t:ab (TE×TE)):TE:=λa H Q=>∀p,H p=Oa->vZ t a (upd H p<|.dK []) λP h=>h p=gV (.dK [])/\∃k:ab (bj×V),P=k.map (λv=>(kV v.1,v.2))/\k.length<=15/\Q (.ref p) (upd h p<|.dK<|fT [] k)
theorem xw(h:MP X p v a t)(r:v.all (·.isSome)=N7)(l:v.length=a.length)(f:v≠[])
  (b:v.length<=15):PE X (.Dict v a p) (tQ t):=by
 intro O s g H Q I q;have n:=I.hok.fresh<|N' _;have j:=I.laid (t':=s.toks) (λZ Z q=>Oj _ q) (N' _)<|tP _ I.big;refine wpAny_Dict_walk (knd:=aZ _ X.w) r l f b<|bL (h O _ g _ _ j<|q _ n) λL M ⟨P,N,i,W,e,k,E,T,m⟩=>?_;subst E;obtain⟨o,c,u⟩:=mV W;obtain⟨z,w,x,y,D⟩:=HC i.hok e;cases y;refine⟨o,c,D,λA d B=>⟨.ref _,_,?_,rfl,m⟩⟩;have C:(fT [] k).length<=sizeLine:=by
  have F:=iS k [];rw[Rc]at F;rw[Qm];lia
 have G:∃q,A.get? _=gV q:=let ⟨q,_,_,J,_⟩:=d;⟨q,J⟩
 exact jt i (by rw[e];exact Q7) B G<|rp C w (u.merge .nil) d
structure M2 (X:Cx)(o:PD)(m:Str)(Vt:Pos)(e f:PD)(XY:Pos):Prop where
 base:TL o m X.env (QA o X.env)=QA o X.env
 few:((RE XY<|OW [e,f] X.env).all (λx=>!x.1)&&(X8 XY<|U7 [] X.env).all (λx=>x.1.isSome)
  &&decide (([e,f]:ab PD).length+([]:ab pz).length+(if([]:ab pz).isEmpty then 0 else 1)<30))=N7
 line:(Vt.endLine == XY.line)=N7
 trees:RE XY (OW [e,f] X.env)=[(Oc,QA e X.env),(Oc,QA f X.env)]
def NP(H:Hp)(a:J'):Prop:=(∃k,Rd H a<|.dK k)\/∃k,Rd H a<|.dT k
theorem JA(I:Inv X O g H s)(d:NP H a):
  s.TypeIs (.ref a) "dict"/\(∀b,Px a=.ref b->∃o,s.heap.get? b=gV o/\o.dict=Oa)/\(a == Q2)=false:=by
 obtain⟨k,e⟩|⟨k,e⟩:=d
 ·obtain⟨z,h,v,z,D⟩:=lG I.hok e;refine⟨D.typeIs,λb q=>?_,h⟩;cases q;obtain⟨o,z,z,c,f,z⟩:=D;exact⟨o,c,f.2.1⟩
 obtain⟨z,h,x,z,D⟩:=lH I.hok e;refine⟨D.typeIs,λb q=>?_,h⟩;cases q;obtain⟨o,z,z,c,f,z⟩:=D;exact⟨o,c,f.2.1⟩
end L2
namespace Att
open PySem PySem.W PySem.Calls PyProof.Rows
theorem lU:∀N v,WellAll P h v (N.map L')->Sk v N:=by
 intro N
 induction N with
 |nil=>
  intro v w;cases w;exact .nil
 |cons n N i=>
  intro v w;cases w with
  |cons a b=>
   cases a;exact .cons _ _<|i _ b
theorem zC{l:WY}{n:Nat}(i:l.most=gV n){P:lD}{h:Pd}{A:ab WData}{M:ab K'}
  (b:l.row.toRowW.claim.pre A=N7) (e:WellAll P h M A):
  ∃a v N,M=[Px a]/\A=[WData.list<|N.map L']/\h.get? a=gV {cls:=.type "list",data:=.seq v.toArray}/\Sk v N/\N.length<=n:=by
 have f:WShape.hasAll [] A _=true:=(pre_splitW b).1;have g:=(pre_splitW b).2;obtain⟨d,r,rfl,j,k⟩:=hasAllW_cons f;obtain rfl:=hasAllW_nil k;obtain⟨x,rfl,m⟩:=hasW_list j;obtain⟨N,rfl⟩:=items_int m;have Q:N.length<=n:=by
  have H:(WTm.not<|.lt (.lit<|.int (n))<|.len<|.arg 0).holds [] {args:=[.list<|N.map .int]}=true:=by
   have H:=(holds_andW g).1;rwa[i]at H
  have c:=condW_of H<|rfl;simp_all
 cases e with
 |cons w W=>
  cases W;cases w with
  |list p s=>exact⟨_,_,N,rfl,rfl,p,lU N _ s,Q⟩
theorem zE(l:WY)(a:ab WData):l.row.toRowW.claim.post a (.bool N7) a=true:=
 postW_of
  rfl
  (w_eq_bool (w_res rfl) w_lit) rfl
theorem attach_call{l:WY}{n:Nat}{q:Ou}{loose:ab Str}{X:(Str->M' K')->Pd->Prop}{y:ON->Pd->Prop}{d:DefRec}
  (u:l.most=gV n) (h:d.params.defaults=[])
  (call:∀w b s m M F o p c Z a v N,
   Ground q loose [] X w b m M s.heap->y w s.heap->
   s.heap.get? F=gV o->o.data=.func (docDef d.name d.params d.body d.scope p c Z)->s.heap.CodeRec c d.name->m d.name=gV (.ref F)->
   s.heap.get? a=gV {cls:=.type "list",data:=.seq v.toArray}->Sk v N->N.length<=n->s.gens=#[]->
   codeAny (OS l.prog w) YJ (.call (.ref F) ⟨[.ref a],[]⟩) (λr e=>r=.ok (.ret<|.bool N7)/\OldK s.heap e.heap/\e.os=s.os/\Wh e.gens) s):
  rz q loose X y l.row.toRowW d [] (λf v=>Za f v):=by
 intro w b s m M G Y F o p c Z x kV z B H D g C k E as A t I i J;obtain rfl:x=.none:=Dflts.none D h;obtain rfl:kV=.none:=Dflts.noKw D;obtain⟨a,v,N,rfl,rfl,j,L,Q⟩:=zC u A i;refine enter_call<|SD (call w b s m M F o p c Z a v N G Y z ‹_› H g j L Q C) λr e O=>?_;obtain⟨rfl,P,T,U⟩:=O;exact⟨.inl ⟨.bool N7,.bool N7,[],rfl,λ_=>rfl,.bool N7,zE l _,λ_=>⟨Se,λ_ W=>(nomatch W)⟩⟩,P,T,U⟩
end Att
namespace L2
open PySem PySem.Spec PyProof.Rows
theorem iu:∀{v:ab K'} {N:ab Int},Sk v N->Vals (N.map V.int) v:=by
 intro v N h;induction h with
 |nil=>exact .nil
 |cons n t h i=>exact .cons ⟨t,rfl⟩ i
noncomputable def dJ(s:PQ)(j:Nat):PQ:=match s with
 |.ClassDef _ _ _ b _ _ _ _ _ _ _=>b.getD j<|.Pass ⟨0,0,0,0⟩
 |_=>.Pass ⟨0,0,0,0⟩
noncomputable def fq(s:PQ):To:=match s with
 |.FunctionDef _ a _ _ _ _ _ _ _ _=>a
 |_=>{posonlyargs:=[],args:=[],vararg:=Oa,kwonlyargs:=[],kw_defaults:=[],kwarg:=Oa,defaults:=[]}
noncomputable def cP(s:PQ):ab PQ:=match s with
 |.FunctionDef _ _ b _ _ _ _ _ _ _=>b
 |_=>[]
noncomputable def aD(s:PQ):Sx:=match s with
 |.FunctionDef _ _ _ _ _ _ c _ _ _=>c
 |_=>{kind:=.function,names:=[],isGenerator:=Oc,isCoroutine:=Oc}
abbrev bw:Bj:=λ_ _ _ _ _ _=>False
abbrev E0:XK:=λ_ _ _=>False
theorem xx:iZ bw X E0:=λz z z z z z z h=>h.elim
structure Fun (K:C')(x qual:Str)(st:PQ)(f:J')(fd:Oz):Prop where
 ex:∃(oc:K') (od:M' J') (kV ZA pm:K') (an:M' J') (Q_ ct:K') (osl:Pi (M' K')),
  fd=Ru x qual (fq st) (cP st) (aD st) .none kV ZA pm an Q_ ct/\K.lookup f=gV ⟨oc,od,.func fd,osl⟩/\Uw K Q_ qual=N7
 kp:QB K (.ref f)=N7
section
variable {K:C'}
theorem Fun.ok{P:Ou}{w:ON}{m:Str->M' K'}{b:Pd}{x l:Str}{st:PQ}{f:J'}{i:Oz}{N p:ab Str}{k:Nat}{c:Sp}(F:Fun K x l st f i)(S:ee N p (aD st))(len:∀v H Q E,c v H Q E->v.length=p.length)
  (d:∀a A o s H v Q E,Room k (A.deeper<|Rf l (aD st) s.heap.objs.size f a)->c v H Q E->
   ∃t,PSs (ri bw P w K m b N l (aD st) f a A o s H E).nox (cP st) t/\t {nx:=λY j=>Q .non j,rt:=Q} (start N v) H):aA P w K m b bw (k+1) f i p c:=by
 obtain⟨n,u,kV,Z,y,z,a,C,O,rfl,L,e⟩:=F.ex;refine Hx L e S len λA o s H v Q E r g=>?_;obtain⟨t,h,q⟩:=d a A o s H v Q E r g;exact⟨t,h.nox,q⟩
theorem Fun.binds{x q:Str}{st:PQ}{f:J'}{d:Oz}{p:ab Str}(F:Fun K x q st f d)
  (h:∀kV Z P a Q c u,u.length=p.length->ZN (Ru x q (fq st) (cP st) (aD st) .none kV Z P a Q c) ⟨u,[]⟩=pure (p.zip u)):Binds K d p []:=by
 obtain⟨O,b,kV,Z,P,a,Q,c,o,rfl,l,H⟩:=F.ex;exact .all<|h kV Z P a Q c
theorem fun_mk{x q:Str}{st:PQ}{f:J'}{O:K'}{d a:M' J'}{o:Pi (M' K')}{kV Z p Q C:K'}(l:K.lookup f=gV ⟨O,d,.func<|Ru x q (fq st) (cP st) (aD st) .none kV Z p a Q C,o⟩)
  (c:Uw K Q q=N7) (k:QB K (.ref f)=N7):Fun K x q st f (Ru x q (fq st) (cP st) (aD st) .none kV Z p a Q C):=⟨⟨O,d,kV,Z,p,a,Q,C,o,rfl,l,c⟩,k⟩
end
theorem p9(h:Room k A):A.units+1<R1:=Ro (YU (by simp) _) h.units
theorem ap(h:n<=1000):n<sizeLine:=Ro h (by decide)
theorem nn'{l:List a}(i:Nat)(h:l[i]?=x):l[i]?=x:=h
theorem nn{p:Prop}(h:p:=by first|exact nn' 0 rfl|exact nn' 1 rfl|exact nn' 2 rfl|exact nn' 3 rfl|exact nn' 4 rfl|exact nn' 5 rfl|exact nn' 6 rfl|exact nn' 7 rfl|exact nn' 8 rfl|exact nn' 9 rfl|exact nn' 10 rfl|exact nn' 11 rfl|exact nn' 12 rfl):p:=h
theorem pv{X:Cx}(i:Nat){p:Pos}(H:X.N[i]?=gV x:=by exact nn)(v:KU X.env.scope x:=by first|exact Zk rfl|exact Yo (Zk rfl)|exact Yo<|Yo rfl)(d:(x == ("__debug__":Str))=false:=by decide)
  (h:(x == ("__classdict__":Str))=false:=by decide):PE X (.Name x p) (mJ i):=A5 H v d h
theorem ao{A B:Prop}(h:B):if Oc=N7 then A else B:=by
 assumption
theorem aq{A B:Prop}(h:A):if N7=N7 then A else B:=by
 assumption
theorem g8{c A B:Prop} [Decidable c] (H:c->A)(a:¬c->B):if c then A else B:=by
 simp_all
def Same(H h:Hp):Prop:=∀b o,H b=gV o->h b=gV o
theorem Same.refl(H:Hp):Same H H:=λz z h=>h
theorem Same.trans(a:Same H d)(b:Same d e):Same H e:=λc o h=>b c o<|a c o h
theorem Same.free(e:Same H a)(h:a l=Oa):H l=Oa:=by
 cases q:H l with
 |none=>rfl
 |some o=>
  rw[e l o q]at h;cases h
theorem Same.seq{K:C'}{H b:Hp}{a:J'}{x:ab V}(e:Same H b)(h:SqL K H a x):SqL K b a x:=by
 obtain(h|⟨o,h⟩)|h:=h
 ·exact .inl<|.inl<|e _ _ h
 ·exact .inl<|.inr ⟨o,e _ _ h⟩
 exact .inr h
section
variable {κ:Type}[U' κ]
theorem xy:∀{l:ab κ} {k:κ},l.Nodup->¬k∈l->(l++[k]).Nodup
 |[],k,_,_=>by simp
 |a::r,k,h,H=>by
  obtain⟨b,c⟩:=PF.mp h;refine PF.mpr ⟨λm=>?_,xy c λm=>H<|OC.mpr<|Yo m⟩;simp_all
end
end L2
namespace L2
open PySem
theorem aV(h:n<=10000):n<sizeLine:=Ro h (by decide)
def PR(H:Hp)(q:Int×Int)(v:V):Prop:=∃t,v=.ref t/\H t=gV (.tup [.int q.1,.int q.2])
theorem PR.mono(k:Same H a):∀{p:ab (Int×Int)} {T:ab V},Paired (PR H) p T->Paired (PR a) p T:=by
 intro p T h;induction h with
 |nil=>exact .nil
 |cons h t i=>
  obtain⟨t,e,h⟩:=h;exact .cons ⟨t,e,k _ _ h⟩ i
end L2
namespace TS
open PySem PyProof.Rows
structure Cm (prog:Ou)(w:ON)(A:Pw)(E:K'->Od->Prop)(s:Od) where
 num:PM->Int
 ok:PM->Prop
 kd:rr
 lt:∀{x y:PM} {Q:M' Oe->PV->Prop} {st:PV},kindOf st=kd->ok x->ok y->Q (gV (decide (num x<num y))) st->wpS (OS prog w) A E s (lt' x y) Q st
section
variable {prog:Ou}{w:ON}{A:Pw}{E:K'->Od->Prop}{s:Od}{C:Cm prog w A E s}{st:PV}{α:Type}
abbrev Cm.W(C:Cm prog w A E s)(m:Wt PV Sem α)(Q:α->PV->Prop)(st:PV):Prop:=wpS (OS prog w) A E s m Q st
noncomputable def Cm.K(C:Cm prog w A E s)(x:Pi PM)(i:Nat):Int:=(x[i]?.map C.num).getD 0
def Cm.Oks(C:Cm prog w A E s)(x:Pi PM):Prop:=∀p∈x.toList,C.ok p
theorem mdx{l r:Nat}(g:l<r):l<=(l+r)/2/\(l+r)/2<r:=⟨by lia,by lia⟩
theorem mnx{H O n i:Nat}(G:H<=n)(y:H+min O (n-H)<=i)(c:i<n):H+O<=i/\O<n-H:=by
 obtain h|h:=QZ O (n-H)
 ·rw[Nat.min_eq_left (Pu h)]at y;exact⟨y,h⟩
 rw[Nat.min_eq_right h,lB G]at y;exact absurd c (Nat.not_lt.2 y)
theorem mny{H O i:Nat}(a:i<H+1-min O (H+1)):i<=H-O/\O<H+1:=by
 obtain h|h:=QZ O (H+1)
 ·rw[Nat.min_eq_left (Pu h),Nat.succ_sub (Nat.le_of_lt_succ h)]at a;exact⟨Nat.le_of_lt_succ a,h⟩
 rw[Nat.min_eq_right h,Nat.sub_self]at a;cases a
theorem bsx{l r k x m:Nat}(H:r-l<=k-x)(a:l<=m)(b:m<r):r-(m+1)<=k-(x+1)/\m-l<=k-(x+1):=⟨Pm (Nat.sub_le_sub_left (Nat.succ_le_succ a) r) (Nat.sub_le_sub_right H 1),Nat.le_sub_one_of_lt (Pe (Nat.sub_lt_sub_right a b) H)⟩
theorem lkx{lo m u:Nat}(h:u<m):lo+(lo+m)-1-(lo+u)=lo+(m-1-u):=by
 rw[Nat.sub_sub,Nat.add_left_comm 1,Nat.add_sub_add_left,Nat.add_comm 1,Nat.add_sub_assoc h,Nat.sub_sub,Nat.add_comm 1]
theorem JB(h:C.Oks x)(H:i<x.size):∃p,x[i]?=gV p/\C.ok p/\C.K x i=C.num p:=
 ⟨x[i],Vu x i H,h _ (by simp),by unfold Cm.K;rw[Vu x i H];rfl⟩
theorem du(H:a[i]?=gV p)(h:Q p st):wpS (OS prog w) A E s (WQ a i) Q st:=by
 rw[elem'_eq,H];exact Pf h
theorem c7{c:Prop} [Decidable c] {x y:Wt PV Sem α}{Q:α->PV->Prop}(h:c->wpS (OS prog w) A E s x Q st)(H:¬c->wpS (OS prog w) A E s y Q st):wpS (OS prog w) A E s (if c then x else y) Q st:=by
 split
 ·exact h ‹_›
 exact H ‹_›
noncomputable def gE:Oe->PM->Pi PM->Nat->Nat->Nat->Wt PV Sem (M' Nat):=sortPriv% PySem.Builtin.gallop
noncomputable def FF(left:Oe)(k:PM)(a:Pi PM)(b i:Nat):Wt PV Sem (M' Oe):=do
 let x <-WQ a (b+i)
 if left then lt' x k else
  let r <-lt' k x
  return r.map (!·)
section
variable (left:Oe)(key:PM)(arr:Pi PM)(base n hint:Nat)
noncomputable def Bv(lo h:Nat):Wt PV Sem (M' Nat):=do
 let mut lo:=lo
 let mut h:=h
 for _ in [0:n] do
  if lo>=h then break
  let m:=lo+(h-lo)/2
  let gV M <-FF left key arr base m|return Oa
  if M then lo:=m+1 else h:=m
 return gV h
noncomputable def FG(m:Nat)(f:Nat->Nat)(t:Oe->Oe)(k:Nat->Nat->Wt PV Sem (M' Nat)):Wt PV Sem (M' Nat):=do
 let mut l:=0
 let mut o:=1
 for _ in [0:n] do
  if o>=m then break
  let gV M <-FF left key arr base (f o)|return Oa
  if t M then break
  l:=o
  o:=2*o+1
 k l o
theorem v9:gE left key arr base n hint=(do
 let gV right <-FF left key arr base hint|return Oa
 if right then FG left key arr base n (n-hint) (hint+·) not λl o=>Bv left key arr base n (hint+l+1) (hint+min o (n-hint))
 else FG left key arr base n (hint+1) (hint - ·) id λl o=>Bv left key arr base n (hint+1-min o (hint+1)) (hint-l)):=rfl
end
section
variable {left:Oe}{key:PM}{arr:Pi PM}{base n:Nat}{Q:M' Nat->PV->Prop}
def Nm(C:Cm prog w A E s)(left:Oe)(key:PM)(arr:Pi PM)(base n:Nat)(st:PV)(P:Nat->Oe):Prop:=∀(m:Nat) (q:M' Oe->PV->Prop),m<n->q (gV<|P m) st->C.W (FF left key arr base m) q st
theorem JC{lo H:Nat}{P:Nat->Oe}(B:Nm C left key arr base n st P)(f:∀i j,i<=j->j<n->P j=N7->P i=N7)(m:lo<=H)(o:H<=n)(p:∀i,i<lo->P i=N7)(t:∀i,H<=i->i<n->P i=Oc)
  (h:∀k,k<=n->(∀i,i<k->P i=N7)->(∀i,k<=i->i<n->P i=Oc)->Q (gV k) st):C.W (Bv left key arr base n lo H) Q st:=by
 unfold Bv;refine OZ (Sv (Q8 (I:=λx c q=>q=st/\∃l r,c=(Oa,l,r)/\l<=r/\r<=n/\r-l<=n-x/\(∀i,i<l->P i=N7)/\(∀i,r<=i->i<n->P i=Oc))
  (Q:=λc q=>q=st/\∃l,c=(Oa,l,l)/\l<=n/\(∀i,i<l->P i=N7)/\(∀i,l<=i->i<n->P i=Oc)) ?_ ?_ ⟨rfl,lo,H,rfl,m,o,Pm (ic _ _) o,p,t⟩) ?_)
 ·rintro x c q w F ⟨rfl,l,r,rfl,u,a,v,b,d⟩;dsimp only;refine c7 (λg=>Pf ?_) λg=>OZ<|B _ _ (by grind) ?_
  ·obtain rfl:l=r:=h7 u g
   exact⟨rfl,l,rfl,a,b,d⟩
  have q:l+(r-l)/2<r:=by lia
  have p:=bsx v (U1 l _) q;cases e:P (l+(r-l)/2)with
  |true=>exact Pf ⟨rfl,_,_,rfl,q,a,p.1,λi H=>by grind,d⟩
  |false=>exact Pf ⟨rfl,_,_,rfl,by simp,Pu (Pe q a),p.2,b,λi y z=>by
    cases D:P i with
    |false=>rfl
    |true=>rw[f _ i y z D]at e;cases e⟩
 ·rintro c q ⟨rfl,l,r,rfl,u,a,v,b,d⟩;obtain rfl:l=r:=by grind
  exact⟨rfl,l,rfl,a,b,d⟩
 rintro c q ⟨rfl,l,rfl,a,b,d⟩;exact Pf<|h l a b d
theorem Bw{k:Nat->Nat->Wt PV Sem (M' Nat)}(B:Nm C left key arr base n st P)(r:m<=n)(H:∀o,o<m->f o<n)(e:t (P<|f 0)=Oc)(i:1<=m)
  (h:∀l O,l<O->l<m->t (P<|f l)=Oc->(O<m->t (P<|f O)=N7)->C.W (k l O) Q st):C.W (FG left key arr base n m f t k) Q st:=by
 refine OZ (Sv (Q8 (I:=λx c q=>q=st/\∃l O,c=(Oa,l,O)/\l<O/\x<O/\l<m/\t (P<|f l)=Oc)
  (Q:=λc q=>q=st/\∃l O,c=(Oa,l,O)/\l<O/\l<m/\t (P<|f l)=Oc/\(O<m->t (P<|f O)=N7)) ?_ ?_ ⟨rfl,0,1,rfl,by simp,by simp,i,e⟩) ?_)
 ·rintro x c q _ u ⟨rfl,l,O,rfl,a,j,b,d⟩;exact c7 (λg=>Pf ⟨rfl,l,O,rfl,a,b,d,λ_=>absurd g (Nat.not_le_of_lt ‹_›)⟩) λg=>OZ<|B _ _ (by simp_all)<|c7 (λG=>Pf ⟨rfl,l,O,rfl,a,b,d,λ_=>G⟩) λG=>Pf ⟨rfl,_,_,rfl,by lia,by lia,I' g,by simpa using G⟩
 ·rintro c q ⟨rfl,l,O,rfl,a,j,b,d⟩;exact⟨rfl,l,O,rfl,a,b,d,λ_=>by lia⟩
 rintro c q ⟨rfl,l,O,rfl,a,b,d,p⟩;exact h l O a b d p
theorem Bx(z:kindOf st=C.kd)(N:C.ok key)(r:C.Oks arr)(Z:base+n<=arr.size)(G:H<n)(B:∀i j,i<=j->j<n->C.K arr (base+i)<=C.K arr (base+j))(U:∀i,i<n->C.K arr (base+i)≠C.num key)
  (h:∀k,k<=n->(∀i,i<k->C.K arr (base+i)<C.num key)->(∀i,k<=i->i<n->C.num key<C.K arr (base+i))->Q (gV k) st):C.W (gE left key arr base n H) Q st:=by
 have b:Nm C left key arr base n st λi=>decide (C.K arr (base+i)<C.num key):=λm Q' J q=>by
  obtain⟨p,L,I,e⟩:=JB r (i:=base+m) (by lia);have M:=U m J;simp only[e]at q M;refine OZ<|du L ?_;cases left
  ·refine OZ<|C.lt z N I<|Pf ?_;rw[show decide (C.num p<C.num key)=!decide (C.num key<C.num p) by rw[<-decide_not];exact Rk.mpr ⟨λ_=>lF (Xq ‹_›),λ_=>by lia⟩]at q;exact q
  exact C.lt z I N q
 have D:∀i j,i<=j->j<n->decide (C.K arr (base+j)<C.num key)=N7->decide (C.K arr (base+i)<C.num key)=true:=λi j t u g=>On<|Int.lt_of_le_of_lt (B i j t u)<|OO g;have F:∀i j,i<=j->j<n->decide (C.K arr (base+i)<C.num key)=Oc->decide (C.K arr (base+j)<C.num key)=false:=λi j t u g=>by
  have:=Rj g;have:=B i j t u;exact Ob (by lia)
 have X:∀{lo a},lo<=a->a<=n->(∀i,i<lo->decide (C.K arr (base+i)<C.num key)=N7)->(∀i,a<=i->i<n->decide (C.K arr (base+i)<C.num key)=Oc)->C.W (Bv left key arr base n lo a) Q st:=λv x d f=>
  JC b D v x d f λk P T W=>h k P (λi a=>OO<|T i a) λi y c=>by
   have:=Rj<|W i y c;have:=U i c;lia
 rw[v9];refine OZ<|b _ _ G ?_;dsimp only;refine c7 (λe=>Bw b (by simp) (by lia) (by rw[Xj,e];rfl) (by grind) λl O v x d f=>?_) λe=>Bw b (Wk (j' G)) (by grind) (by simpa using e) (by simp) λl O v x d f=>?_
 ·exact X (YU (Nat.le_min.2 ⟨v,x⟩) H) (Pm (YU (Nat.min_le_right _ _) H) (Nat.le_of_eq (lB (Pu G)))) (λi a=>D i (H+l) (Wk a) (Nat.add_lt_of_lt_sub' x)<|by simpa using d) λi y c=>F (H+O) i (mnx (Pu G) y c).1 c (by simpa using f (mnx (Pu G) y c).2)
 exact X (Pm (Nat.sub_le_sub_left (Nat.le_min.2 ⟨v,x⟩) (H+1)) (Nat.le_of_eq (Nat.succ_sub_succ H l))) (Pu (Ro (ic _ _) G)) (λi a=>D i _ (mny a).1 (Ro (ic _ _) G)<|f (mny a).2) λi y c=>F _ i y c d
end
end
abbrev R:=Pi PM
abbrev S:=Wt PV Sem
noncomputable def By(g:Nat):S W0:=mr λst=>VR (kindOf st) (Pg st) (Pk st) g<|Ri st
structure Sd where
 arr:R
 ia:Nat->Nat
 na:Nat->Nat
 gal:Oe->PM->Nat->S (M' Nat)
 kk:Nat->Nat->Nat
 ex:Nat->Nat->R
 nx:Nat->Nat->Nat
 v:Nat->ab PM
structure Mg where
 T:Type->Type
 m:{X:Type}->M' R->R->Nat->Nat->X->T X
 r:{X:Type}->T X->M' R
 o:{X:Type}->T X->R
 i:{X:Type}->T X->Nat
 j:{X:Type}->T X->Nat
 x:{X:Type}->T X->X
 a:Sd
 b:Sd
 sel:{β:Type}->Oe->S β->S β->S β
 don:R->Nat->Nat->R
 pa:{β:Type}->R->Nat->Nat->(R->S β)->S β->S β
 pb:{β:Type}->R->Nat->Nat->(R->S β)->S β->S β
 ta:{β:Type}->R->Nat->Nat->(R->S β)->S β->S β
 tb:{β:Type}->R->Nat->Nat->(R->S β)->S β->S β
 n:Nat
noncomputable def Mg.in1(M:Mg)(g:Nat)(c:M.T (Nat×Nat)):S (SV<|M.T<|Nat×Nat):=do
 let q <-WQ M.b.arr (M.b.ia<|M.j c)
 let p <-WQ M.a.arr (M.a.ia<|M.i c)
 let gV w <-lt' q p|return .done (M.m (gV<|M.don (M.o c) (M.i c)<|M.j c) (M.o c) (M.i c) (M.j c)<|M.x c)
 M.sel w (do
   let p <-WQ M.a.arr (M.a.ia<|M.i c)
   M.pa ((M.o c).push p) (M.a.na<|M.i c) (M.j c) (λx=>return .done<|M.m (gV x) ((M.o c).push p) (M.a.na<|M.i c) (M.j c) ((M.x c).1+1,0))
    (if(M.x c).1+1>=g then return .done (M.m Oa ((M.o c).push p) (M.a.na<|M.i c) (M.j c) ((M.x c).1+1,0))else return .yield (M.m Oa ((M.o c).push p) (M.a.na<|M.i c) (M.j c) ((M.x c).1+1,0))))
  (do
   let q <-WQ M.b.arr (M.b.ia<|M.j c)
   M.pb ((M.o c).push q) (M.i c) (M.b.na<|M.j c) (λx=>return .done<|M.m (gV x) ((M.o c).push q) (M.i c) (M.b.na<|M.j c) (0,(M.x c).2+1))
    (if(M.x c).2+1>=g then return .done (M.m Oa ((M.o c).push q) (M.i c) (M.b.na<|M.j c) (0,(M.x c).2+1))else return .yield (M.m Oa ((M.o c).push q) (M.i c) (M.b.na<|M.j c) (0,(M.x c).2+1))))
section
variable (M:Mg)(mg ac bc:Nat)(o:R)(i j:Nat)
noncomputable def Mg.gC:S (SV<|M.T<|Nat×Nat×Nat):=do
 let p <-WQ M.a.arr (M.a.ia i)
 M.pa (o.push p) (M.a.na i) j (λx=>return .done<|M.m (gV x) (o.push p) (M.a.na i) j (mg,ac,bc))
  (if(decide (ac<7)&&decide (bc<7))=N7 then return .done (M.m Oa (o.push p) (M.a.na i) j (mg,ac,bc))else return .yield (M.m Oa (o.push p) (M.a.na i) j (mg,ac,bc)))
noncomputable def Mg.gB:S (SV<|M.T<|Nat×Nat×Nat):=do
 let q <-WQ M.b.arr (M.b.ia j)
 M.pb (o.push q) i (M.b.na j) (λx=>return .done<|M.m (gV x) (o.push q) i (M.b.na j) (mg,ac,bc)) (do
  let gV u <-M.b.gal N7 (<-WQ M.a.arr<|M.a.ia i) (M.b.na j)|return .done (M.m (gV<|M.don (o.push q) i<|M.b.na j) (o.push q) i (M.b.na j) (mg,ac,bc))
  if M.b.kk (M.b.na j) u>0 then
   M.tb (o.push q++M.b.ex (M.b.na j) u) i (M.b.nx (M.b.na j) u) (λx=>return .done<|M.m (gV x) (o.push q++M.b.ex (M.b.na j) u) i (M.b.nx (M.b.na j) u) (mg,ac,M.b.kk (M.b.na j) u))
    (M.gC mg ac (M.b.kk (M.b.na j) u) (o.push q++M.b.ex (M.b.na j) u) i<|M.b.nx (M.b.na j) u)
  else M.gC mg ac (M.b.kk (M.b.na j) u) (o.push q) i (M.b.na j))
noncomputable def Mg.gA:S (SV<|M.T<|Nat×Nat×Nat):=do
 By mg
 let gV u <-M.a.gal Oc (<-WQ M.b.arr<|M.b.ia j) i|return .done (M.m (gV<|M.don o i j) o i j (mg,ac,bc))
 if M.a.kk i u>0 then
  M.ta (o++M.a.ex i u) (M.a.nx i u) j (λx=>return .done<|M.m (gV x) (o++M.a.ex i u) (M.a.nx i u) j (mg,M.a.kk i u,bc))
   (M.gB mg (M.a.kk i u) bc (o++M.a.ex i u) (M.a.nx i u) j)
 else M.gB mg (M.a.kk i u) bc o i j
noncomputable def Mg.out(c:M.T Nat):S (SV<|M.T Nat):=do
 let d <-forIn [0:M.n] (M.m Oa (M.o c) (M.i c) (M.j c) (0,0)) λ_=>M.in1 (M.x c)
 match M.r d with
 |some r=>return .done<|M.m (gV r) (M.o d) (M.i d) (M.j d)<|M.x c
 |none=>
  rule "list.sort.gallop"
  let C <-forIn [0:M.n] (M.m Oa (M.o d) (M.i d) (M.j d) (M.x c+1,M.x d)) λ_ c=>
   if(M.x c).1>1 then M.gA ((M.x c).1-1) (M.x c).2.1 (M.x c).2.2 (M.o c) (M.i c) (M.j c)else M.gA (M.x c).1 (M.x c).2.1 (M.x c).2.2 (M.o c) (M.i c) (M.j c)
  match M.r C with
  |some r=>return .done<|M.m (gV r) (M.o C) (M.i C) (M.j C) (M.x C).1
  |none=>
   By ((M.x C).1+1)
   return .yield (M.m Oa (M.o C) (M.i C) (M.j C)<|(M.x C).1+1)
noncomputable def Mg.run:S R:=do
 let c <-forIn [0:M.n] (M.m Oa o i j<|gallopOf (<-get)) λ_=>M.out
 match M.r c with
 |some r=>return r
 |none=>unsupported "internal:list.sort.merge-bound"
end
noncomputable def Nn(a:R):Sd where
 arr:=a
 ia:=λi=>i
 na:=λi=>i+1
 gal:=λl q i=>gE l q a i (a.size-i) 0
 kk:=λ_ u=>u
 ex:=λi u=>a.extract i (i+u)
 nx:=λi u=>i+u
 v:=λi=>a.toList.drop i
noncomputable def MQ(a:R):Sd where
 arr:=a
 ia:=λi=>i-1
 na:=λi=>i-1
 gal:=λl q i=>gE l q a 0 i (i-1)
 kk:=λi u=>i-u
 ex:=λi u=>(a.extract u i).reverse
 nx:=λ_ u=>u
 v:=λi=>(a.toList.take i).reverse
noncomputable def HE(a b o:R)(i j:Nat):R:=o++a.extract i a.size++b.extract j b.size
noncomputable def KW(a b o:R)(i j:Nat):R:=o++b.extract j b.size++a.extract i a.size
noncomputable def E8(a b:R):Mg where
 T:=λX=>M' R×R×Nat×Nat×X
 m:=λr o i j x=>(r,o,i,j,x)
 r:=λc=>c.1
 o:=λc=>c.2.1
 i:=λc=>c.2.2.1
 j:=λc=>c.2.2.2.1
 x:=λc=>c.2.2.2.2
 a:=Nn a
 b:=Nn b
 sel:=λw x y=>if w=N7 then y else x
 don:=HE a b
 pa:=λo i j f k=>if(i+1 == a.size)=N7 then f (KW a b o i j)else k
 pb:=λo i j f k=>if(j == b.size)=N7 then f (HE a b o i j)else k
 ta:=λo i j f k=>if(i+1 == a.size)=N7 then f (KW a b o i j)else if(i == a.size)=N7 then f (HE a b o i j)else k
 tb:=λo i j f k=>if(j == b.size)=N7 then f (HE a b o i j)else k
 n:=a.size+b.size
noncomputable def HF(a b o:R)(i j:Nat):R:=a.extract 0 i++b.extract 0 j++o.reverse
noncomputable def KY(a b o:R)(i j:Nat):R:=b.extract 0 j++a.extract 0 i++o.reverse
noncomputable def Bz(a b:R):Mg where
 T:=λX=>M' R×Nat×Nat×R×X
 m:=λr o i j x=>(r,i,j,o,x)
 r:=λc=>c.1
 o:=λc=>c.2.2.2.1
 i:=λc=>c.2.1
 j:=λc=>c.2.2.1
 x:=λc=>c.2.2.2.2
 a:=MQ a
 b:=MQ b
 sel:=λw x y=>if w=N7 then x else y
 don:=HF a b
 pa:=λo i j f k=>if(i == 0)=N7 then f (HF a b o i j)else k
 pb:=λo i j f k=>if(j == 1)=N7 then f (KY a b o i j)else k
 ta:=λo i j f k=>if(i == 0)=N7 then f (HF a b o i j)else k
 tb:=λo i j f k=>if(j == 1)=N7 then f (KY a b o i j)else if(j == 0)=N7 then f (HF a b o i j)else k
 n:=a.size+b.size
noncomputable def No:R->R->S R:=sortPriv% PySem.Builtin.mergeLo
noncomputable def Np:R->R->S R:=sortPriv% PySem.Builtin.mergeHi
theorem JD(a b:R):No a b=(do
 rule "list.sort.merge-lo"
 let q <-WQ b 0
 if(1 == b.size)=N7 then return HE a b #[q] 0 1
 else if(0+1 == a.size)=N7 then return KW a b #[q] 0 1
 else(E8 a b).run #[q] 0 1):=by kernel_rfl
theorem JF(a b:R):Np a b=(do
 rule "list.sort.merge-hi"
 let p <-WQ a (a.size-1)
 if(a.size-1 == 0)=N7 then return HF a b #[p] (a.size-1) b.size
 else if(b.size == 1)=N7 then return KY a b #[p] (a.size-1) b.size
 else(Bz a b).run #[p] (a.size-1) b.size):=by kernel_rfl
structure MI (r:PM->PM->Prop)(z o x y:ab PM):Prop where
 p:(o++(x++y)).Perm z
 u:(o++x).Pairwise r
 v:(o++y).Pairwise r
theorem MI.sw(h:MI r z o x y):MI r z o y x:=⟨(List.perm_append_comm.append_left o).trans h.p,h.v,h.u⟩
theorem MI.ta(T:∀a b c,r a b->r b c->r a c)(h:MI r z o (t++x) (q::y))(g:∀c∈t,r c q):MI r z (o++t) x (q::y):=by
 have u:=h.u;rw[<-O5]at u;have v:=Q3.mp h.v;refine⟨by simpa using h.p,u,Q3.mpr ⟨(Q3.mp u).1,v.2.1,λc H d e=>?_⟩⟩;obtain H|H:=OH.mp H
 ·exact v.2.2 c H d e
 obtain rfl|e:=OC.mp e
 ·exact g c H
 exact T _ _ _ (g c H)<|V3 v.2.1 e
section
variable {C:Cm prog w A E s}{r:PM->PM->Prop}{z:ab PM}{st:PV}{M:Mg}{la lb:Nat}{α:Type}
theorem BA{prog:Ou}{w:ON}{A:Pw}{E:K'->Od->Prop}{s:Od}(h:Q () (VR (kindOf st) (Pg st) (Pk st) g<|Ri st)):wpS (OS prog w) A E s (By g) Q st:=W_ h
structure FH (C:Cm prog w A E s)(r:PM->PM->Prop)(D:Sd):Prop where
 at_:∀{i p t},i<=D.arr.size->D.v i=p::t->D.arr[D.ia i]?=gV p/\D.v (D.na i)=t/\D.na i<=D.arr.size
 gal:∀{l q i Q st},i<=D.arr.size->kindOf st=C.kd->C.ok q->D.v i≠[]->(∀c∈D.v i,C.num c≠C.num q)->
  (∀u,D.nx i u<=D.arr.size->D.v i=(D.ex i u).toList++D.v (D.nx i u)->(∀c∈(D.ex i u).toList,r c q)->(∀c∈D.v (D.nx i u),r q c)->(¬D.kk i u>0->(D.ex i u).toList=[])->Q (gV u) st)->C.W (D.gal l q i) Q st
def tR(C:Cm prog w A E s)(z:ab PM)(x:R):Prop:=x.toList.Perm z/\x.toList.Pairwise λa b=>C.num a<C.num b
structure MS (M:Mg)(r:PM->PM->Prop)(z:ab PM)(o:R)(i j:Nat):Prop where
 m:MI r z o.toList (M.a.v i) (M.b.v j)
 i:i<=M.a.arr.size
 j:j<=M.b.arr.size
structure JG (C:Cm prog w A E s)(M:Mg)(r:PM->PM->Prop)(z:ab PM)(la lb:Nat):Prop where
 er:∀{X e o i j} {x:X},M.r (M.m e o i j x)=e
 eo:∀{X e o i j} {x:X},M.o (M.m e o i j x)=o
 ei:∀{X e o i j} {x:X},M.i (M.m e o i j x)=i
 ej:∀{X e o i j} {x:X},M.j (M.m e o i j x)=j
 ex:∀{X e o i j} {x:X},M.x (M.m e o i j x)=x
 n:M.n=z.length
 tr:∀a b c,r a b->r b c->r a c
 nd:(z.map C.num).Nodup
 ok:∀c∈z,C.ok c
 a:FH C r M.a
 b:FH C r M.b
 l1:1<=la
 l2:1<=lb
 sel:∀{α p q} {x y:S α} {Q st},C.num p≠C.num q->(r p q->C.W x Q st)->(r q p->C.W y Q st)->C.W (M.sel (decide (C.num q<C.num p)) x y) Q st
 pa:∀{α o i j} {f:R->S α} {k Q st},MS M r z o i j->la<=(M.a.v i).length+1->(∀x,tR C z x->C.W (f x) Q st)->(la<=(M.a.v i).length->C.W k Q st)->C.W (M.pa o i j f k) Q st
 pb:∀{α o i j} {f:R->S α} {k Q st},MS M r z o i j->lb<=(M.b.v j).length+1->(∀x,tR C z x->C.W (f x) Q st)->(lb<=(M.b.v j).length->C.W k Q st)->C.W (M.pb o i j f k) Q st
 ta:∀{α o i j} {f:R->S α} {k Q st},MS M r z o i j->(∀x,tR C z x->C.W (f x) Q st)->(la<=(M.a.v i).length->C.W k Q st)->C.W (M.ta o i j f k) Q st
 tb:∀{α o i j} {f:R->S α} {k Q st},MS M r z o i j->(∀x,tR C z x->C.W (f x) Q st)->(lb<=(M.b.v j).length->C.W k Q st)->C.W (M.tb o i j f k) Q st
structure Iv (M:Mg)(r:PM->PM->Prop)(z:ab PM)(la lb:Nat)(n:Nat)(o:R)(i j:Nat):Prop where
 m:MS M r z o i j
 a:la<=(M.a.v i).length
 b:lb<=(M.b.v j).length
 n:(M.a.v i).length+(M.b.v j).length+n<=z.length
theorem MI.ne(h:MI r z o x y)(n:(z.map C.num).Nodup)(H:c∈x)(a:q∈y):C.num c≠C.num q:=by
 have:=(h.p.map _).nodup_iff.mpr n;rw[OI,OI]at this;exact(Qj.mp (Qj.mp this).2.1).2.2 _ (Qr H) _<|Qr a
theorem p_{l:ab PM}{n:Nat}(H:1<=n)(h:n<=l.length):∃p t,l=p::t:=by
 cases l with
 |nil=>simp_all
 |cons p t=>exact⟨p,t,rfl⟩
def Go(C:Cm prog w A E s)(M:Mg)(r:PM->PM->Prop)(z:ab PM)(la lb n:Nat){X:Type}(c:M.T X):Prop:=(∃x,M.r c=gV x/\tR C z x)\/∃o i j e,c=M.m Oa o i j e/\Iv M r z la lb n o i j
variable (K:JG C M r z la lb)
include K
theorem BB(m:MS M r z o i j)(e:M.a.v i=p::t)(a:M.b.v j=q::u)(g:r p q):MS M r z (o.push p) (M.a.na i) j:=by
 obtain⟨y,c,d⟩:=K.a.at_ m.i e;have b:=m.m;refine⟨?_,d,m.j⟩;rw[c,S9,a];rw[e,a]at b;exact MI.ta K.tr b (by simpa using g)
theorem BC(m:MS M r z o i j)(e:M.a.v i=p::t)(a:M.b.v j=q::u)(g:r q p):MS M r z (o.push q) i (M.b.na j):=by
 obtain⟨y,c,d⟩:=K.b.at_ m.j a;have b:=m.m;refine⟨?_,m.i,d⟩;rw[c,S9,e];rw[e,a]at b;exact(MI.ta K.tr b.sw<|by simpa using g).sw
theorem MR(I:Iv M r z la lb n o i j):∃p t q u,M.a.v i=p::t/\M.b.v j=q::u/\C.ok p/\C.ok q/\C.num p≠C.num q/\M.a.arr[M.a.ia i]?=gV p/\M.b.arr[M.b.ia j]?=gV q/\M.a.v (M.a.na i)=t/\M.b.v (M.b.na j)=u:=by
 obtain⟨p,t,e⟩:=p_ K.l1 I.a;obtain⟨q,u,a⟩:=p_ K.l2 I.b;exact⟨p,t,q,u,e,a,K.ok p (I.m.m.p.mem_iff.mp<|by simp[e]),K.ok q (I.m.m.p.mem_iff.mp<|by simp[a]),I.m.m.ne K.nd (by simp[e]) (by simp[a]),(K.a.at_ I.m.i e).1,(K.b.at_ I.m.j a).1,(K.a.at_ I.m.i e).2.1,(K.b.at_ I.m.j a).2.1⟩
theorem LB(B:kindOf st=C.kd)(I:Iv M r z la lb n o i j):C.W (M.in1 J<|M.m Oa o i j e) (λx Q=>Q=st/\match x with|.done c=>Go C M r z la lb (n+1) c|.yield c=>∃o i j e,c=M.m Oa o i j e/\Iv M r z la lb (n+1) o i j) st:=by
 obtain⟨p,t,q,u,b,d,O,D,F,G,k,N,l⟩:=MR K I;have H:=I.n;have v:=I.a;have y:=I.b;rw[b]at H v;rw[d]at H y;rw[OE]at H v y;rw[OE]at H;unfold Mg.in1;rw[K.eo,K.ei,K.ej];refine OZ<|du k<|OZ<|du G<|OZ<|C.lt B D O<|K.sel F (λg=>?_) λg=>?_
 ·refine OZ<|du G ?_;have m:=BB K I.m b d g;refine K.pa m (by simp_all) (λx f=>Pf ⟨rfl,.inl ⟨x,K.er,f⟩⟩) λh=>?_;have a:Iv M r z la lb (n+1) _ _ j:=⟨m,h,I.b,by rw[N,d,OE];lia⟩;exact c7 (λw=>Pf ⟨rfl,.inr ⟨_,_,_,_,rfl,a⟩⟩) λw=>Pf ⟨rfl,_,_,_,_,rfl,a⟩
 refine OZ<|du k ?_;have m:=BC K I.m b d g;refine K.pb m (by simp_all) (λx f=>Pf ⟨rfl,.inl ⟨x,K.er,f⟩⟩) λh=>?_;have a:Iv M r z la lb (n+1) _ i _:=⟨m,I.a,h,by rw[l,b,OE];lia⟩;exact c7 (λw=>Pf ⟨rfl,.inr ⟨_,_,_,_,rfl,a⟩⟩) λw=>Pf ⟨rfl,_,_,_,_,rfl,a⟩
def fM(st Q:PV):Prop:=kindOf Q=kindOf st/\Pg Q=Pg st/\Pk Q=Pk st/\Ri Q=Ri st
abbrev JH(C:Cm prog w A E s)(M:Mg)(r:PM->PM->Prop)(z:ab PM)(la lb n:Nat)(st:PV){X:Type}(x:SV (M.T X))(Q:PV):Prop:=fM st Q/\match x with|.done c=>Go C M r z la lb n c|.yield c=>∃o i j e,c=M.m Oa o i j e/\Iv M r z la lb n o i j
theorem LC(H:fM a st)(I:Iv M r z la lb n o i j)(g:∀p q t u,M.a.v i=p::t->M.b.v j=q::u->r p q):C.W (M.gC v y B o i j) (JH C M r z la lb n a) st:=by
 obtain⟨p,t,q,u,e,b,w,w,w,G,D,c,w⟩:=MR K I;have f:=I.a;have k:=I.n;rw[e,OE]at f k;have m:=BB K I.m e b<|g p q t u e b;refine OZ<|du G<|K.pa m (by simp_all) (λx l=>Pf ⟨H,.inl ⟨x,K.er,l⟩⟩) λh=>?_;have d:Iv M r z la lb n _ _ j:=⟨m,h,I.b,by rw[c];lia⟩;exact c7 (λw=>Pf ⟨H,.inr ⟨_,_,_,_,rfl,d⟩⟩) λw=>Pf ⟨H,_,_,_,_,rfl,d⟩
theorem LD(F:kindOf a=C.kd)(H:fM a st)(I:Iv M r z la lb n o i j)(g:∀p q t u,M.a.v i=p::t->M.b.v j=q::u->r q p):C.W (M.gB mg ac bc o i j) (JH C M r z la lb n a) st:=by
 obtain⟨p,t,q,u,e,d,O,w,w,J,L,w,f⟩:=MR K I;have N:=I.b;have P:=I.n;rw[d,OE]at N P;have m:=BC K I.m e d<|g p q t u e d;refine OZ<|du L<|K.pb m (by simp_all) (λx k=>Pf ⟨H,.inl ⟨x,K.er,k⟩⟩) λh=>?_;have T:∀c∈M.b.v _,C.num c≠C.num p:=λc U=>(m.m.ne K.nd (by simp[e]) U).symm;refine OZ<|du J<|OZ<|K.b.gal m.j (H.1.trans F) O (λz=>by rw[z]at h;exact absurd (Pm K.l2 h)<|by decide) T λu W G X v Y=>?_;have y:=Pa Qw G;rw[N9]at y;refine c7 (λw=>?_) λZ=>?_
 ·have B:MS M r z (o.push q++M.b.ex (M.b.na j) u) i (M.b.nx (M.b.na j) u):=by
   have D:=m.m;refine⟨?_,m.i,W⟩;rw[TJ];rw[e,G]at D;rw[e];exact(MI.ta K.tr D.sw X).sw
  refine K.tb B (λx k=>Pf ⟨H,.inl ⟨x,K.er,k⟩⟩) λh2=>LC K H ⟨B,I.a,h2,by lia⟩ λp' Q t' u' b l=>?_;simp_all
 rw[Y Z,T4]at G;refine LC K H ⟨m,I.a,h,by rw[f];lia⟩ λp' Q t' u' b l=>?_;rw[e]at b;cases b;exact v Q (by simp[<-G,l])
theorem LF(H:kindOf a=C.kd)(d:fM a st)(I:Iv M r z la lb n o i j):C.W (M.gA l Z bc o i j) (JH C M r z la lb n a) st:=by
 obtain⟨p,t,q,u,v,e,op,O,w,gp,y,w⟩:=MR K I;have hn:=I.n;have N:∀c∈M.a.v i,C.num c≠C.num q:=λc B=>I.m.m.ne K.nd B (by simp[e]);refine OZ<|BA<|OZ<|du y<|OZ<|K.a.gal I.m.i (d.1.trans H) O (by simp[v]) N λu D g F G J=>?_;have h:=d;have L:=Pa Qw g;rw[N9]at L;refine c7 (λw=>?_) λQ=>?_
 ·have k:MS M r z (o++M.a.ex i u) (M.a.nx i u) j:=by
   have m:=I.m.m;refine⟨?_,D,I.m.j⟩;rw[TJ];rw[e,g]at m;rw[e];exact MI.ta K.tr m F
  refine K.ta k (λx T=>Pf ⟨d,.inl ⟨x,K.er,T⟩⟩) λU=>LD K H h ⟨k,U,I.b,by lia⟩ λP W X Y f b=>?_;simp_all
 rw[J Q]at g;refine LD K H h I λP W X Y f b=>?_;simp_all
theorem HG(k:kindOf st=C.kd)(I:Iv M r z la lb 1 o i j)(q:∀x a,fM st a->tR C z x->Q x a):C.W (M.run o i j) Q st:=by
 have B:∀{n o i j},Iv M r z la lb n o i j->n<z.length:=λI=>by
  have:=I.a;have:=I.n;have:=K.l1;lia
 refine OZ<|Wg<|OZ<|Sv (Q8 (I:=λx c a=>fM st a/\∃o i j e,c=M.m Oa o i j e/\Iv M r z la lb (x+1) o i j) (Q:=λc a=>fM st a/\∃x,M.r c=gV x/\tR C z x) ?_ ?_ ⟨⟨rfl,rfl,rfl,rfl⟩,_,_,_,_,rfl,I⟩) ?_
 ·rintro n c a y p ⟨g,o,i,j,e,rfl,I⟩;unfold Mg.out;rw[K.eo,K.ei,K.ej];refine OZ<|Sv (Q8 (I:=λx c b=>b=a/\∃o i j e,c=M.m Oa o i j e/\Iv M r z la lb (n+1+x) o i j) (Q:=λc b=>b=a/\Go C M r z la lb (n+2) c) ?_ ?_ ⟨rfl,_,_,_,_,rfl,I⟩) ?_
  ·rintro x c b y d ⟨rfl,o,i,j,e,rfl,I⟩;refine Sv (LB K (g.1.trans k) I) ?_;rintro (c|c) Z ⟨rfl,h⟩
   ·refine⟨rfl,h.imp id (by rintro ⟨o,i,j,e,l,f⟩;exact ⟨o,i,j,e,l,f.m,f.a,f.b,by have:=f.n;lia⟩)⟩
   exact⟨rfl,h⟩
  ·rintro c b ⟨y,o,i,j,e,rfl,I⟩;have:=B I;have:=K.n;lia
  rintro c b ⟨rfl,⟨x,e,d⟩|⟨o,i,j,e,rfl,I⟩⟩
  ·rw[e];exact Pf ⟨g,x,K.er,d⟩
  rw[K.er];refine OZ<|Yg<|RU ⟨rfl,?_⟩;rw[K.eo,K.ei,K.ej];refine OZ<|Sv (Q8 (I:=λy c Z=>fM st Z/\∃o i j e,c=M.m Oa o i j e/\Iv M r z la lb _ o i j) (Q:=λc Z=>fM st Z/\Go C M r z la lb _ c) ?_ (by rintro y y ⟨l,f⟩;exact ⟨l,.inr f⟩) ⟨g,_,_,_,_,rfl,I⟩) ?_
  ·rintro x c Z y y ⟨H,o,i,j,e,rfl,I⟩;rw[K.eo,K.ei,K.ej];refine c7 (λy=>Sv (LF K k H I) ?_) λy=>Sv (LF K k H I) ?_<;>(rintro (c|c) m h<;>exact h)
  rintro c Z ⟨H,⟨x,e,d⟩|⟨o,i,j,e,rfl,I⟩⟩
  ·rw[e];exact Pf ⟨H,x,K.er,d⟩
  rw[K.er];refine OZ<|BA<|Pf ⟨H,_,_,_,_,rfl,?_⟩;rwa[K.eo,K.ei,K.ej]
 ·rintro c a ⟨y,o,i,j,e,rfl,I⟩;have:=B I;have:=K.n;lia
 rintro c a ⟨g,x,e,d⟩;rw[e];exact Pf<|q x a g d
end
section
variable {C:Cm prog w A E s}{z o x y:ab PM}{st:PV}{a b:R}
theorem MI.end1(h:MI r z o x y)(e:x=[]\/y=[]):(o++(x++y)).Pairwise r:=by
 obtain rfl|rfl:=e
 ·exact h.v
 simpa using h.u
theorem MI.end2{p:PM}(t:∀a b c,r a b->r b c->r a c)(h:MI r z o [p] y)(g:∀c∈y,r c p):(o++(y++[p])).Pairwise r:=by
 have H:=h.sw;rw[<-Pq y]at H;simpa using(MI.ta t H g).v
abbrev Cm.lo(C:Cm prog w A E s)(x y:PM):Prop:=C.num x<C.num y
theorem v_(e:a.toList=P++(x++T))(h:i<x.length):C.K a (P.length+i)=C.num x[i]:=by
 unfold Cm.K;rw[<-O3,e,OP (U1 ..),WT,OV h,N_ h];rfl
theorem xz{l:Oe}{Q:M' Nat->PV->Prop}(e:a.toList=P++(x++T))(B:u=P.length)(D:n=x.length)(F:C.Oks a)(G:x.Pairwise C.lo)(I:kindOf st=C.kd)(J:C.ok q)(L:H<n)(U:∀c∈x,C.num c≠C.num q)
  (h:∀k,k<=n->(∀c∈x.take k,C.lo c q)->(∀c∈x.drop k,C.lo q c)->Q (gV k) st):C.W (gE l q a u n H) Q st:=by
 subst B D;have M:=Pa Qw e;simp only[OR]at M;refine Bx I J F (by simp_all) L (λi j f d=>?_) (λi v=>?_) λk f d N=>h k f (λc p=>?_) λc p=>?_
 ·rw[v_ e d,v_ e<|Ro f d];obtain e|g:=SE f
  ·subst e;exact Um _
  exact Xq<|QM.mp G i j _ d g
 ·rw[v_ e v];exact U _<|Q4 v
 ·obtain⟨m,r,t⟩:=Sm p;rw[OJ]at r;have:=d m (by simp_all);rw[v_ e<|by exact Pe r (Tp _ _)]at this;rwa[<-t,Wn]
 obtain⟨m,r,t⟩:=Sm p;rw[QF]at r;have:=N (k+m) (by simp) (by lia);rw[v_ e<|by lia]at this;rwa[<-t,List.getElem_drop]
theorem gP{prog:Ou}{w:ON}{A:Pw}{E:K'->Od->Prop}{s:Od}{c:Type}{i n:Nat}{x y:S c}{Q:c->PV->Prop}(h:i=n->wpS (OS prog w) A E s x Q st)(H:¬i=n->wpS (OS prog w) A E s y Q st):wpS (OS prog w) A E s (if(i == n)=N7 then x else y) Q st:=
 c7 (λe=>h<|by simpa using e) λe=>H (by simpa using e)
theorem qc(i k:Nat):(a.extract i<|i+k).toList=(a.toList.drop i).take k:=by
 simp
theorem BD(f:C.Oks a)(g:a.toList.Pairwise C.lo):FH C C.lo (Nn a) where
 at_:=λ{i p t} y e=>by
  have d:a.toList.drop i=p::t:=e;have h:=Pa (·[0]?) d;simp at h;exact⟨h,by show a.toList.drop (i+1)=t;rw[<-List.tail_drop,d];rfl,(P0.mp h).1⟩
 gal:=λ{l q i Q st} H j m v U h=>by
  have H:i<=a.size:=H;have D:i≠a.size:=λz=>v (SG<|by simp_all);refine xz (P:=a.toList.take i) (T:=[]) (by simp) (by simp_all) (by simp) f (g.sublist (Wo ..)) j m (abb (abc H D)) U λk F n r=>h k (by show i+k<=a.size;grind) ?_ (qc i k▸n) (λc u=>r c<|by rwa[VY]) λB=>?_
  ·show a.toList.drop i=(a.extract i<|i+k).toList++a.toList.drop (i+k)
   rw[qc,<-VY,Qn]
  obtain rfl:k=0:=Xh B;exact qc i 0
theorem BE(n:C.Oks a)(r:a.toList.Pairwise C.lo):FH C (λx y=>C.lo y x) (MQ a) where
 at_:=λ{i p t} H e=>by
  have H:i<=a.size:=H;have h:=Pa SY (show(a.toList.take i).reverse=p::t from e);rw[Tg,Wm]at h;cases i with
  |zero=>simp at h
  |succ i=>
   rw[UD<|by simpa using by exact Pe (Tq _) H]at h;obtain⟨j,f⟩:=List.append_inj' h rfl;refine⟨?_,?_,Z4 H⟩
   ·show a[i]?=gV p
    rw[Vu a i<|by exact Pe (Tq _) H];simpa using f
   show(a.toList.take i).reverse=t
   rw[j,Tg]
 gal:=λ{l q i Q st} H u v B U h=>by
  have H:i<=a.size:=H;have F:i≠0:=λz=>B (by subst z;rfl);refine xz (P:=[]) (T:=a.toList.drop i) (by simp) rfl (by simpa using by exact Eq.symm (Vj H)) n (r.sublist (S6 ..)) u v (by lia) (λc d=>U c<|U2.mpr d) λk j f m=>?_;have g:=qc (a:=a) k<|i-k;rw[show k+(i-k)=i by exact lB j]at g;rw[List.drop_take]at m;rw[VU,show min k i=k by exact Vj j]at f;refine h k (Pm j H) ?_ (λc d=>m c<|by simpa[MQ]using d) (λc d=>f c<|U2.mp d) λD=>?_
  ·show(a.toList.take i).reverse=(a.extract k i).reverse.toList++(a.toList.take k).reverse
   rw[YC,<-List.reverse_append,g,<-List.take_add,show k+(i-k)=i by exact lB j]
  show(a.extract k i).reverse.toList=[]
  rw[YC,g,show i-k=0 from Xh D];rfl
theorem LG(p:R)(i j:Nat):(HE a b p i j).toList=p.toList++(a.toList.drop i++b.toList.drop j):=by
 simp[HE,Ol]
theorem LH(p:R)(i j:Nat):(KW a b p i j).toList=p.toList++(b.toList.drop j++a.toList.drop i):=by
 simp[KW,Ol]
theorem LI(p:R):(HF a b p i j).toList=(p.toList++((b.toList.take j).reverse++(a.toList.take i).reverse)).reverse:=by
 simp[HF]
theorem LJ(p:R):(KY a b p i j).toList=(p.toList++((a.toList.take i).reverse++(b.toList.take j).reverse)).reverse:=by
 simp[KY]
section
variable (ka:C.Oks a)(kb:C.Oks b)(sa:a.toList.Pairwise C.lo)(sb:b.toList.Pairwise C.lo)(nd:((a.toList++b.toList).map C.num).Nodup)
include ka kb sa sb nd
theorem JI(g:∀c∈b.toList,∀p∈a.toList.drop (a.size-1),C.lo c p):JG C (E8 a b) C.lo (a.toList++b.toList) 2 1:=by
 have l:∀i,((E8 a b).a.v i).length=a.size-i:=λi=>by show(a.toList.drop i).length=_;simp
 have f:∀j,((E8 a b).b.v j).length=b.size-j:=λj=>by show(b.toList.drop j).length=_;simp
 have D:∀{o i j},MS (E8 a b) C.lo (a.toList++b.toList) o i j->(i=a.size\/j=b.size)->tR C (a.toList++b.toList) (HE a b o i j):=λ{o i j} m e=>by
  unfold tR;rw[LG];exact⟨m.m.p,m.m.end1<|e.imp (λe=>PN.mp<|by simp_all) λe=>PN.mp<|by simp_all⟩
 have L:∀{o i j},MS (E8 a b) C.lo (a.toList++b.toList) o i j->i+1=a.size->tR C (a.toList++b.toList) (KW a b o i j):=λ{o i j} m e=>by
  have d:=Rg (l:=a.toList) (i:=i) (Pe (Tq _) (UC e));rw[SG (l:=a.toList) (i:=i+1)<|by simpa using by exact UC (Eq.symm e)]at d;have M:MI C.lo (a.toList++b.toList) o.toList (a.toList.drop i) (b.toList.drop j):=m.m;unfold tR;rw[LH,d];rw[d]at M;exact⟨M.sw.p,M.end2 (λw w w=>RL) λc k=>g c (Yq k) _<|by rw[show a.size-1=i by lia,d];exact Oi.mpr rfl⟩
 refine⟨rfl,rfl,rfl,rfl,rfl,by simp[E8],λw w w=>RL,nd,λc k=>(OH.mp k).elim (ka c)<|kb c,BD ka sa,BD kb sb,by simp,by simp,λ{u p q x y Q st} N r t=>?_,λm n H h=>?_,λm n H h=>?_,λm H h=>?_,λm H h=>?_⟩
 ·exact c7 (λe=>t<|OO e) λe=>r<|(Zv<|wd.mp λz=>e<|On z).resolve_right N
 ·rw[l]at n h;exact gP (λe=>H _<|L m e) λe=>h (by lia)
 ·rw[f]at h;have:_<=b.size:=m.j;exact gP (λe=>H _<|D m<|.inr e) λe=>h (by lia)
 ·rw[l]at h;have:_<=a.size:=m.i;exact gP (λe=>H _<|L m e) λe=>gP (λe=>H _<|D m<|.inl e) λe=>h (by lia)
 rw[f]at h;have:_<=b.size:=m.j;exact gP (λe=>H _<|D m<|.inr e) λe=>h (by lia)
theorem JJ(g:∀c∈a.toList,∀q∈b.toList.take 1,C.lo q c):JG C (Bz a b) (λx y=>C.lo y x) (a.toList++b.toList) 1 2:=by
 have n:∀i,((Bz a b).a.v i).length=min i a.size:=λi=>by show(a.toList.take i).reverse.length=_;simp
 have r:∀j,((Bz a b).b.v j).length=min j b.size:=λj=>by show(b.toList.take j).reverse.length=_;simp
 have v:∀{l:ab PM},l.Perm (a.toList++b.toList)->l.Pairwise (λx y=>C.lo y x)->l.reverse.Perm _/\l.reverse.Pairwise _:=λd f=>⟨(Wl _).trans d,UN.mpr f⟩;have D:∀{o i j},MS (Bz a b) _ _ o i j->(i=0\/j=0)->tR C _ _:=λ{o i j} m e=>by
  unfold tR;rw[LI];exact v m.m.sw.p (m.m.sw.end1<|e.symm.imp (λe=>by subst e;rfl) λe=>by subst e;rfl)
 have L:∀{o i j},MS (Bz a b) _ _ o i j->j=1->tR C _ (KY a b o i j):=λ{o i j} m e=>by
  subst e;have B:1<=b.size:=m.j;have t:=UD (by assumption);have M:MI _ _ _ _ (b.toList.take 1).reverse:=m.m;unfold tR;rw[LJ,t];rw[t]at M g;exact v M.p<|M.sw.end2 (λw w w d f=>RL f d) λc k=>g c (RB<|U2.mp k) _<|Oi.mpr rfl
 refine⟨rfl,rfl,rfl,rfl,rfl,by simp[Bz],λw w w d f=>RL f d,nd,λc k=>(OH.mp k).elim (ka c)<|kb c,BE ka sa,BE kb sb,by simp,by simp,λ{F p q x y Q st} N d f=>?_,λm u H h=>?_,λm u H h=>?_,λm H h=>?_,λm H h=>?_⟩
 ·exact c7 (λe=>d<|OO e) λe=>f<|(Zv<|wd.mp λz=>e<|On z).resolve_right N
 ·rw[n]at h;have:_<=a.size:=m.i;exact gP (λe=>H _<|D m<|.inl e) λe=>h (by lia)
 ·rw[r]at u h;have:_<=b.size:=m.j;exact gP (λe=>H _<|L m e) λe=>h (by lia)
 ·rw[n]at h;have:_<=a.size:=m.i;exact gP (λe=>H _<|D m<|.inl e) λe=>h (by lia)
 rw[r]at h;have:_<=b.size:=m.j;exact gP (λe=>H _<|L m e) λe=>gP (λe=>H _<|D m<|.inr e) λe=>h (by lia)
variable (hk:kindOf st=C.kd)(na:1<=a.size)(nb:1<=b.size)(g0:∀ c∈a.toList,∀ q∈b.toList.take 1,C.lo q c)(g1:∀ c∈b.toList,∀ p∈a.toList.drop (a.size-1),C.lo c p){Q:R->PV->Prop}(h:∀ x QV,fM st QV->tR C (a.toList++b.toList) x->Q x QV)
include hk na nb g0 g1 h
theorem Nq:C.W (No a b) Q st:=by
 have K:=JI ka kb sa sb nd g1;obtain⟨p,t,e⟩:=p_ (l:=(E8 a b).a.v 0) (N' 1) (by assumption);obtain⟨q,u,d⟩:=p_ (N' 1) (by assumption);have m:MS _ _ _ _ 0 1:=BC K (o:=#[]) ⟨⟨.refl _,sa,sb⟩,OG _,OG _⟩ e d (g0 p (by rw[show a.toList=p::t from e];simp) q<|by rw[d];simp);rw[JD];refine OZ<|Yg<|RU ⟨rfl,OZ<|du (K.b.at_ (OG _) d).1 ?_⟩;have g:fM st st:=⟨rfl,rfl,rfl,rfl⟩;refine K.pb m (L0 ..) (λx H=>Pf<|h x _ g H) λf=>K.pa m ?_ (λx H=>Pf<|h x _ g H) λi=>HG K hk ⟨m,i,f,?_⟩ h
 ·rw[e];simp
 show(a.toList.drop 0).length+(b.toList.drop 1).length+1<=_
 simp;grind
theorem Nr:C.W (Np a b) Q st:=by
 have K:=JJ ka kb sa sb nd g0;obtain⟨p,t,d⟩:=p_ (l:=(Bz a b).a.v a.size) (N' 1) (by show 1<=(a.toList.take _).reverse.length;simpa using na);obtain⟨q,u,f⟩:=p_ (l:=(Bz a b).b.v b.size) (N' 1) (by show 1<=(b.toList.take _).reverse.length;simpa using nb);obtain⟨F,k,n⟩:=K.a.at_ (N' _) d;have v:∀{x:R},(x.toList.take x.size).reverse=x.toList.reverse:=λ{x}=>by rw[Ol<|by simp]
 have m:MS (Bz a b) (λx y=>C.lo y x) (a.toList++b.toList) #[p] (a.size-1) b.size:=by
  refine BB K (o:=#[]) ⟨⟨?_,?_,?_⟩,N' _,N' _⟩ d f<|g1 q ?_ p ?_
  ·show((a.toList.take _).reverse++(b.toList.take _).reverse).Perm _
   rw[v,v];exact(Wl _).append<|Wl _
  ·show(a.toList.take _).reverse.Pairwise _
   rw[v];exact UN.mpr sa
  ·show(b.toList.take _).reverse.Pairwise _
   rw[v];exact UN.mpr sb
  ·exact U2.mp<|v▸(show q∈(Bz a b).b.v _ by rw[f];simp)
  have:a.toList.drop (a.size-1)=[p]:=by
   have e:=Pa SY (show(a.toList.take _).reverse=p::t from d);rw[v,Tg,Wm]at e;have l:=Pa Qw e;simp at l;rw[e,aa4<|by simp;lia]
  rw[this];exact Oi.mpr rfl
 rw[JF];refine OZ<|Yg<|RU ⟨rfl,OZ<|du F ?_⟩;have g:fM st st:=⟨rfl,rfl,rfl,rfl⟩;refine K.pa m (L0 ..) (λx H=>Pf<|h x _ g H) λi=>K.pb m ?_ (λx H=>Pf<|h x _ g H) λj=>HG K hk ⟨m,i,j,?_⟩ h
 ·rw[f];simp
 show(a.toList.take<|a.size-1).reverse.length+(b.toList.take _).reverse.length+1<=_
 simp;lia
end
end
section
variable {C:Cm prog w A E s}{a₀:R}{lo n:Nat}{st QV:PV}{xs:R}
structure Bs (C:Cm prog w A E s)(a₀:R):Prop where
 ok:C.Oks a₀
 nd:(a₀.toList.map C.num).Nodup
structure SL (C:Cm prog w A E s)(a₀:R)(lo:Nat)(st QV:PV):Prop where
 perm:(Pg QV).Perm a₀
 kind:kindOf QV=C.kd
 failed:Ri QV=Oa
 pend:Pk QV=Pk st
 low:∀k,k<lo->(Pg QV)[k]?=(Pg st)[k]?
def Srt(C:Cm prog w A E s)(xs:R)(lo n:Nat):Prop:=∀i j,i<j->j<n->C.K xs (lo+i)<C.K xs (lo+j)
theorem Bs.of(b:Bs C a₀)(h:xs.Perm a₀):Bs C xs:=⟨λp H=>b.ok p<|(RX.mp h).mem_iff.mp H,((RX.mp h).map _).nodup_iff.mpr b.nd⟩
theorem Bs.ne(b:Bs C xs)(H:i<xs.size)(a:j<xs.size)(h:i≠j):C.K xs i≠C.K xs j:=by
 have:=(Qt.mp b.nd);unfold Cm.K;rw[Vu xs i H,Vu xs j a];intro e;obtain g|g:=Nat.lt_or_gt_of_ne h
 ·exact QM.mp this i j (by simpa using H) (by simpa using a) g (by simpa using e)
 exact QM.mp this j i (by simpa using a) (by simpa using H) g (by simpa using e.symm)
theorem HH(h:j<=xs.size)(k:Nat):C.K (l' xs i j<|(j-i)/2) k=if i<=k/\k<j then C.K xs (i+j-1-k)else C.K xs k:=by
 unfold Cm.K;rw[YS h]
 split<;>rfl
theorem HI(h:c<xs.size)(H:d<=c)(k:Nat):C.K (bubble xs c d) k=if k=c-d then C.K xs c else if c-d<k/\k<=c then C.K xs (k-1)else C.K xs k:=by
 unfold Cm.K;rw[aaZ h d H]
 split
 ·rfl
 split<;>rfl
theorem BF(b:Bs C (Pg st))(k:kindOf st=C.kd)(H:i<(Pg st).size)(a:j<(Pg st).size)(U:i≠j)(c:C.K (Pg st) i<C.K (Pg st) j->Q (gV N7) st)(d:C.K (Pg st) j<C.K (Pg st) i->Q (gV Oc) st):C.W (ltAt' i j) Q st:=by
 obtain⟨p,f,l,m⟩:=JB b.ok H;obtain⟨P,h,I,e⟩:=JB b.ok a;have N:=b.ne H a U;rw[m,e]at c d N;refine OZ<|Wg<|OZ<|du f<|OZ<|du h<|C.lt k l I ?_;by_cases g:C.num p<C.num P
 ·rw[On g];exact c g
 rw[Ob g];lia
theorem Srt.next(b:1<=x)(h:Srt C xs lo x)(g:C.K xs (lo+x-1)<C.K xs (lo+x)):Srt C xs lo (x+1):=λi j H c=>by
 by_cases a:j<x
 ·exact h i j H a
 obtain rfl:j=x:=by lia
 by_cases e:i=j-1
 ·rwa[e,<-S5 b]
 have:=h i (j-1) (by lia) (by omega);rw[<-S5 b]at this;exact RL this g
section
variable (b:Bs C a₀)(h:SL C a₀ lo st QV)(hn:lo+n<=a₀.size)
include b h hn
theorem HJ{f:Nat->M' (M' Nat)×Nat->Wt PV Sem (SV<|M' (M' Nat)×Nat)}{Q:M' (M' Nat)×Nat->PV->Prop}(o:1<=k)(a:k<=n)(e:Srt C (Pg QV) lo k)
  (i:∀x n,f x (Oa,n)=(do
   let r <-ltAt' (lo+n) (lo+n-1)
   match r with
   |some y=>if y=N7 then pure (abT (Oa,n))else pure (T5 (Oa,n+1))
   |_=>pure<|abT (gV Oa,n)))
  (q:∀m,k<=m->m<=n->Srt C (Pg QV) lo m->(m=n\/C.K (Pg QV) (lo+m)<C.K (Pg QV) (lo+m-1))->Q (Oa,m) QV):C.W (forIn [k:n] ((Oa,k):M' (M' Nat)×Nat) f) Q QV:=by
 refine Q8 (I:=λx c j=>j=QV/\c=(Oa,x)/\Srt C _ lo x) ?_ ?_ ⟨rfl,rfl,e⟩
 ·rintro x c j d l ⟨rfl,rfl,H⟩;have:=h.perm.size_eq;rw[i];exact OZ<|BF (b.of h.perm) h.kind (by lia) (by lia) (by lia) (λg=>Pf<|q x d (Pu l) H<|.inr g) λg=>Pf ⟨rfl,rfl,H.next (Pm o d) g⟩
 simp_all
theorem LK(t:1<=n)(q:∀m a,SL C a₀ lo st a->1<=m->m<=n->Srt C (Pg a) lo m->Q (gV m) a):C.W (countRun' lo n) Q QV:=by
 have z:=h.perm.size_eq;rw[countRun'_eq];refine OZ<|HJ b h hn (N' 1) t (λi j w w=>by lia) (λw w=>rfl) λm M d f r=>?_;dsimp only;refine c7 (λe=>Pf<|q m _ h M d f) λe=>?_;have y:=r.resolve_left (by simp_all);have B:m<n:=Nat.lt_of_le_of_ne d (by simp_all);refine c7 (λg=>OZ<|BF (b.of h.perm) h.kind (by lia) (by lia) (by lia) (λw=>Pf<|q m _ h M d f) λG=>?_) λg=>?_
 ·have:=f 0 (m-1) (abb g) (by lia);rw[Xj,<-S5 M]at this;exact absurd G (lF (Xq this))
 obtain rfl:m=1:=by lia
 refine OZ<|Yg<|RU ⟨rfl,?_⟩;refine OZ<|Sv (Q8 (I:=λx c a=>a=QV/\c=(Oa,x,0)/\∀i j,i<j->j<x->C.K (Pg QV) (lo+j)<C.K (Pg QV) (lo+i)) (Q:=λc a=>a=QV/\∃m,c=(Oa,m,0)/\2<=m/\m<=n/\∀i j,i<j->j<m->C.K (Pg QV) (lo+j)<C.K (Pg QV) (lo+i)) ?_ ?_ ⟨rfl,rfl,λi j I D=>?_⟩) ?_
 ·rintro x c a l F ⟨rfl,rfl,H⟩;dsimp only;refine OZ<|BF (b.of h.perm) h.kind (by lia) (by lia) (by lia) (λg=>Pf ⟨rfl,rfl,λi j I D=>?_⟩) λg=>?_
  ·by_cases J:j<x
   ·exact H i j I J
   obtain rfl:j=x:=by lia
   by_cases e:i=j-1
   ·rw[e,<-S5<|by exact Z4 l];exact g
   have:=H i (j-1) (by lia) (by lia);rw[<-S5<|by exact Z4 l]at this;exact RL g this
  exact OZ (BF (b.of h.perm) h.kind (by lia) (by lia) (by lia) (λw=>Pf ⟨rfl,x,rfl,l,Pu F,H⟩) λG=>absurd G<|lF (Xq g))
 ·rintro c a ⟨rfl,rfl,H⟩;rw[show max (1+1) n=n by lia]at H ⊢;exact⟨rfl,n,rfl,Wk (j' B),N' _,H⟩
 ·obtain rfl:i=0:=by lia
  obtain rfl:j=1:=by lia
  exact y
 rintro c a ⟨rfl,m,rfl,U,L,H⟩;dsimp only;have p:SL C _ lo st (mi a<|l' _ lo _<|(lo+m-lo)/2):=⟨(mirror_perm _ _ _ _).trans h.perm,h.kind,h.failed,h.pend,λk N=>by
  show(l' _ lo _<|(lo+m-lo)/2)[k]?=_
  rw[YS (by lia),Ov<|by lia];exact h.low k N⟩
 refine OZ<|wpS_reverse<|OZ<|HJ b p hn (Z4 U) L (λu v O W=>?_) (λw w=>rfl) λP X T o w=>Pf<|q P _ p (Z4 (Pm U X)) T o;show C.K (l' _ lo _<|(lo+m-lo)/2) _<C.K (l' _ lo _<|(lo+m-lo)/2) _
 rw[HH (by lia),HH (by lia),Ox (by lia),Ox<|by simp_all];have:=H (m-1-v) (m-1-u) (Nat.sub_lt_sub_left (Pe O (Nat.le_sub_one_of_lt W)) O) (by grind)
 rwa[lkx (VD O W),lkx W]
theorem LL{Q:Oe->PV->Prop}(z:ok<=n)(D:1<=n)(F:Srt C (Pg QV) lo ok)
  (q:∀a,SL C a₀ lo st a->Srt C (Pg a) lo n->Q N7 a):C.W (binarySort' lo n ok) Q QV:=by
 rw[binarySort'_eq];refine OZ (Sv (Q8 (I:=λk c a=>c=(Oa,())/\SL C a₀ lo st a/\Srt C (Pg a) lo (min k n))
  (Q:=λc a=>c=(Oa,())/\SL C a₀ lo st a/\Srt C (Pg a) lo n) ?_ ?_ ⟨rfl,h,λi j o I=>F i j o<|by lia⟩) ?_)
 ·rintro k c a J L ⟨rfl,H,d⟩;rw[show min k n=k by exact Vj (Pu L)]at d;have M:=H.perm.size_eq;have N:=b.of H.perm;refine OZ (Sv (Q8 (I:=λx c Z=>Z=a/\∃l r,c=(Oa,l,r)/\l<=r/\r<=k/\r-l<=k-x/\(∀i,i<l->C.K (Pg a) (lo+i)<C.K (Pg a) (lo+k))/\(∀i,r<=i->i<k->C.K (Pg a) (lo+k)<C.K (Pg a) (lo+i)))
   (Q:=λc Z=>Z=a/\∃l,c=(Oa,l,l)/\l<=k/\(∀i,i<l->C.K (Pg a) (lo+i)<C.K (Pg a) (lo+k))/\(∀i,l<=i->i<k->C.K (Pg a) (lo+k)<C.K (Pg a) (lo+i))) ?_ ?_ ⟨rfl,0,k,rfl,by simp,by simp,by simp,λi X=>absurd X (aaO (OG _)),λi D H=>absurd H (aaO D)⟩) ?_)
  ·rintro x c Z w Y ⟨rfl,l,r,rfl,O,t,P,B,f⟩;dsimp only;refine c7 (λg=>?_) λg=>have q:=mdx (Nat.not_le.1 g);OZ<|BF N H.kind (by lia) (by lia) (by lia) (λG=>Pf ⟨rfl,l,(l+r)/2,rfl,q.1,Pu (Pe q.2 t),(bsx P q.1 q.2).2,B,λi p y=>?_⟩) λG=>Pf ⟨rfl,(l+r)/2+1,r,rfl,q.2,t,(bsx P q.1 q.2).1,λi p=>?_,f⟩
   ·obtain rfl:l=r:=h7 O g
    exact Pf ⟨rfl,l,rfl,t,B,f⟩
   ·obtain e|e:=SE p
    ·exact e▸G
    exact RL G<|d _ _ e y
   obtain e|e:=SE (Wk p)
   ·exact e▸G
   exact RL (d _ _ e<|by lia) G
  ·rintro c Z ⟨rfl,l,r,rfl,O,t,P,B,f⟩;obtain rfl:l=r:=by lia
   exact⟨rfl,l,rfl,t,B,f⟩
  rintro c Z ⟨rfl,l,rfl,t,B,f⟩;dsimp only;rw[moveDown'_eq];refine OZ<|W_<|Pf ⟨rfl,⟨(bubble_perm _ _ _).trans H.perm,H.kind,H.failed,H.pend,λm T=>?_⟩,λi j o I=>?_⟩
  ·show(bubble (Pg Z) (lo+k)<|lo+k-(lo+l))[m]?=_
   rw[aaZ (by lia) _ (by simp),Ov (by omega),Ov<|by omega];exact H.low m T
  show C.K (bubble (Pg Z) (lo+k)<|lo+k-(lo+l)) (lo+i)<C.K (bubble (Pg Z) (lo+k)<|lo+k-(lo+l)) (lo+j)
  rw[HI (by lia) (by simp),HI (by lia) (by simp),Nat.sub_sub_self (YU t lo)];have sub:∀u v,lo<=u->u<v->v<lo+k->C.K (Pg Z) u<C.K (Pg Z) v:=λu v p y c3=>by
   have:=d (u-lo) (v-lo) (Nat.sub_lt_sub_right p y) (Nat.sub_lt_left_of_lt_add (Pm p (Pu y)) c3)
   rwa [lB p,lB (Pm p (Pu y))]at this
  have U:∀u,lo+l<=u->u<lo+k->C.K (Pg Z) (lo+k)<C.K (Pg Z) u:=λu p y=>by
   have z:=Pm (U1 lo l) p;have:=f (u-lo) (Nat.le_sub_of_add_le' p) (Nat.sub_lt_left_of_lt_add z y)
   rwa [lB z]at this
  repeat' split
  all_goals first
   |lia
   |exact B _ (by lia)
   |exact U _ (by lia) (by omega)
   |exact sub _ _ (by omega) (by omega) (by omega)
 ·rintro c a ⟨W,H,d⟩;exact⟨W,H,by rwa [show min (max _ n) n=n by exact aat (Nat.le_max_right _ _)]at d⟩
 rintro c a ⟨rfl,H,d⟩;exact Pf<|q a H d
end
end
theorem wa(i:Nat):ZY i=(do
 let t <-get
 let (gV (s,n,A),gV (b,N,_)):=((Pk t)[i]?,(Pk t)[i+1]?)|unsupported "internal:list.sort.pending"
 set (Xa t<|((Pk t).setIfInBounds i (s,n+N,A)).eraseIdxIfInBounds<|i+1)
 let gV k <-gE Oc (<-WQ (Pg t) b) (Pg t) s n 0|return Oc
 let (s,n):=(s+k,n-k)
 if n == 0 then return N7
 let gV N <-gE N7 (<-WQ (Pg t)<|s+n-1) (Pg t) b N (N-1)|return Oc
 if N == 0 then return N7
 let x:=(Pg t).extract s b
 let y:=(Pg t).extract b (b+N)
 let m <-if n<=N then No x y else Np x y
 mr λt=>mi t (m.toList.zipIdx.foldl (λa (p,j)=>a.setIfInBounds (s+j) p)<|Pg t)
 return (Ri (<-get)).isNone):=rfl
theorem HK(b:Nat):∀(m x P T:ab PM) (k:Nat) (a:R),b+k=P.length->m.length=x.length->a.toList=P++(x++T)->((m.zipIdx k).foldl (λa (q:PM×Nat)=>a.setIfInBounds (b+q.2) q.1) a).toList=P++(m++T)
 |[],x,P,T,k,a,_,h,e=>by
  obtain rfl:x=[]:=PN.mp h.symm;exact e
 |p::m,[],P,T,k,a,_,h,e=>by cases h
 |p::m,y::x,P,T,k,a,H,h,e=>by
  have:=HK b m x (P++[p]) T (k+1) (a.setIfInBounds (b+k) p) (by simpa using by lia) (by simpa using h) (by simp_all);simpa using this
section
variable {C:Cm prog w A E s}{st:PV}
theorem Nt{x X y Y z:ab PM}(h:(x++X).Pairwise C.lo)(H:(y++Y).Pairwise C.lo)(a:∀c∈x,∀d∈y++Y,C.lo c d)(b:∀d∈Y,∀c∈x++X,C.lo c d)(r:z.Perm (X++y))(s:z.Pairwise C.lo):(x++(z++Y)).Pairwise C.lo:=by
 obtain⟨p,q,t⟩:=List.pairwise_append.1 h;obtain⟨u,v,w⟩:=List.pairwise_append.1 H;refine List.pairwise_append.2 ⟨p,List.pairwise_append.2 ⟨s,v,λc m d n=>?_⟩,λc m d n=>?_⟩
 ·obtain k|k:=OH.1 (r.mem_iff.1 m)
  ·exact b d n c (Pn _ k)
  exact w c k d n
 obtain n|n:=OH.1 n
 ·obtain k|k:=OH.1 (r.mem_iff.1 n)
  ·exact t c m d k
  exact a c m d (QH _ k)
 exact a c m d (Pn _ n)
theorem LM{prog:Ou}{w:ON}{A:Pw}{E:K'->Od->Prop}{s:Od}{Q:W0->PV->Prop}{x:PV}(h:Q () x):wpS (OS prog w) A E s (set x:Wt PV Sem W0) Q st:=Of ⟨rfl,h⟩
theorem FI{T:ab PM}{Q:Oe->PV->Prop}(b:Bs C (Pg st))(u:kindOf st=C.kd)(U:Ri st=Oa)(e:(Pk st).toList=l1++(P.length,x.length,J)::(P.length+x.length,y.length,pb)::l2)(hi:l1.length=i)
  (g:(Pg st).toList=P++(x++(y++T))) (n1:x≠[]) (n2:y≠[]) (v:x.Pairwise C.lo) (I:y.Pairwise C.lo)
  (q:∀z L,kindOf L=C.kd->Ri L=Oa->(Pk L).toList=l1++(P.length,x.length+y.length,J)::l2->(Pg L).toList=P++(z++T)->z.Perm (x++y)->z.Pairwise C.lo->Q N7 L):C.W (ZY i) Q st:=by
 obtain⟨e1,e2,e3⟩:(Pk st)[i]?=gV (P.length,x.length,J)/\(Pk st)[i+1]?=gV (P.length+x.length,y.length,pb)/\(((Pk st).setIfInBounds i (P.length,x.length+y.length,J)).eraseIdxIfInBounds (i+1)).toList=l1++(P.length,x.length+y.length,J)::l2:=by
  rw[<-O3,<-O3,Array.toList_eraseIdxIfInBounds,V1,e];subst hi;simp[List.eraseIdx_append];lia
 have hl:=Pa Qw g;simp only[N9,OR]at hl;have W:=b.nd;rw[g,OI,OI]at W;have ne:∀c∈x,∀d∈y,C.num c≠C.num d:=λc h d H=>(Qj.mp (Qj.mp W).2.1).2.2 _ (Qr h) _<|Qr<|QH _ H;have ac:((x++y).map C.num).Nodup:=(OI▸(Qj.mp W).2.1).sublist (by simp);clear W;obtain⟨f,Y,rfl⟩:=List.exists_cons_of_ne_nil n2;obtain⟨B,l,rfl⟩:∃B l,x=B++[l]:=⟨_,_,(Vk n1).symm⟩;have am:(Pg st)[P.length+(B++[l]).length]?=gV f:=by
  rw[<-O3,g,<-O5,OP<|by simp];simp
 have an:(Pg st)[P.length+B.length]?=gV l:=by
  rw[<-O3,g];simp
 have oq:C.ok f:=b.ok f (by simp_all);have op:C.ok l:=b.ok l (by simp_all);rw[wa];refine OZ<|Wg ?_;rw[e1,e2];dsimp only;refine OZ<|LM<|OZ<|du am<|OZ<|xz g rfl rfl b.ok v u oq (by simp) (λc h=>ne c h f<|by simp) λk k1 k2 k3=>?_;dsimp only;generalize Z:B++[l]=X at*;have a1:∀c∈X.take k,∀d∈f::Y,C.lo c d:=λc h d H=>by
  obtain rfl|H:=OC.mp H
  ·exact k2 c h
  exact RL (k2 c h)<|V3 I H
 refine gP (λe=>Pf<|q (X++f::Y) _ u U e3 (by rw[O5];exact g) (.refl _)<|Q3.mpr ⟨v,I,λc h=>a1 c ?_⟩) λen=>?_
 ·rwa [Ol<|by grind]
 have as:=Pa Qw Z;simp only[N9,OL]at as;rw[show P.length+k+(X.length-k)-1=P.length+B.length by lia];refine OZ<|du an<|OZ<|xz (P:=P++X) (x:=f::Y) (T:=T) (by simpa using g) (by simp) rfl b.ok I u op (by simp) (λd H=>(ne l (by simp[<-Z]) d H).symm) λn m1 m2 m3=>?_;dsimp only;have a2:∀d∈(f::Y).drop n,∀c∈X,C.lo c d:=λd H c h=>by
  rw[<-Z]at h v;obtain h|h:=OH.mp h
  ·exact RL ((Q3.mp v).2.2 c h l<|Oi.mpr rfl)<|m3 d H
  exact Oi.mp h▸m3 d H
 refine gP (λe=>Pf<|q (X++f::Y) _ u U e3 (by rw[O5];exact g) (.refl _)<|Q3.mpr ⟨v,I,λc h d H=>a2 d ?_ c h⟩) λaC=>?_
 ·simp_all
 have D:((Pg st).extract (P.length+k)<|P.length+X.length).toList=X.drop k:=by
  have:=qc (a:=Pg st) (P.length+k)<|X.length-k;rw[show P.length+k+(X.length-k)=P.length+X.length by lia]at this;rw[this,g,<-VY,Yx,List.drop_append_of_le_length k1,List.take_left'<|by simp]
 have F:((Pg st).extract (P.length+X.length)<|P.length+X.length+n).toList=(f::Y).take n:=by
  rw[qc,g,<-O5,aa4 (by simp),Qv m1]
 have o:=Qn n<|f::Y;have r:=Qn k X;have kX:C.Oks ((Pg st).extract (P.length+k)<|P.length+X.length):=λc h=>b.ok c (by rw[D]at h;rw[g];simp[Yq h]);have kY:C.Oks ((Pg st).extract (P.length+X.length)<|P.length+X.length+n):=λc h=>b.ok c (by rw[F]at h;rw[g];simp only[OH];exact .inr<|.inr<|.inl<|RB h);have av:((X.drop k++(f::Y).take n).map C.num).Nodup:=ac.sublist<|((Wo ..).append (S6 ..)).map _;have sz:((Pg st).extract (P.length+k)<|P.length+X.length).size=X.length-k:=by rw[<-OR,D,QF]
 have az:((Pg st).extract (P.length+X.length)<|P.length+X.length+n).size=n:=by rw[<-OR,F,OJ];exact Vj m1
 have M:∀m G,fM (Xa st<|((Pk st).setIfInBounds i (P.length,X.length+(f::Y).length,J)).eraseIdxIfInBounds<|i+1) G->tR C (((Pg st).extract (P.length+k)<|P.length+X.length).toList++((Pg st).extract (P.length+X.length)<|P.length+X.length+n).toList) m->C.W (do
   mr λt=>mi t (m.toList.zipIdx.foldl (λa (p,j)=>a.setIfInBounds (P.length+k+j) p)<|Pg t)
   return (Ri (<-get)).isNone) Q G:=λm G N O=>by
  rw[D,F]at O;refine OZ<|W_<|OZ<|Wg ?_;rw[show(Ri<|mi G _).isNone=N7 by rw[show Ri (mi G _)=Oa from N.2.2.2.trans U];rfl];refine Pf<|q (X.take k++(m.toList++(f::Y).drop n)) _ (N.1.trans u) (N.2.2.2.trans U) (N.2.2.1▸e3) ?_ ?_<|Nt (r.symm▸v) (o.symm▸I) (o.symm▸a1) (r.symm▸a2) O.1 O.2
  ·have:=HK (P.length+k) m.toList (X.drop k++(f::Y).take n) (P++X.take k) ((f::Y).drop n++T) 0 (Pg G) (by simp_all) O.1.length_eq (by
    rw[show Pg G=Pg st from N.2.1,g];simp only[O5];rw[<-O5<|List.take n _,o,<-O5<|X.take k,r])
   simpa using this
  refine(O.1.append_right _|>.append_left _).trans ?_;rw[O5,o,<-O5,r]
 refine c7 (λw=>OZ<|Nq kX kY ?_ ?_ ?_ (by exact u) ?_ ?_ ?_ ?_ M) λw=>OZ<|Nr kX kY ?_ ?_ ?_ (by exact u) ?_ ?_ ?_ ?_ M
 all_goals first
  |(rw[D,F];exact av)
  |(rw[D];exact v.sublist (Wo ..))
  |(rw[F];exact I.sublist (S6 ..))
  |(rw[sz];lia)
  |(rw[az];lia)
  |(rw[D,F,VU]
    intro c h d H;rw[show min 1 n=1 by lia]at H;exact Oi.mp H▸k3 c h)
  |(rw[F,D,sz,VY,show k+(X.length-k-1)=B.length by lia,<-Z]
    intro c h d H;rw[Yx]at H;exact Oi.mp H▸m2 c h)
end
noncomputable def Nu(lo n:Nat):S (SV<|M' W0×Nat):=do
 mr λs=>Xa s ((Pk s).push (lo,n,0))
 return .yield (Oa,lo+n)
noncomputable def MT(e lo n:Nat):S (SV<|M' W0×Nat):=do
 match (Pk (<-get)).back? with
 |some (b,N,_)=>
  let P:=power' e (2*b+N) (2*b+N+N+n) e
  let c <-forIn [0:e] ((Oa,()):M' W0×W0) λ_ _=>do
   let p:=Pk (<-get)
   match (if p.size>1 then p[p.size-2]? else Oa)with
   |some (_,_,a)=>
    if a<=P then return .done (Oa,())
    else if(!(<-ZY<|p.size-2))=N7 then return .done (gV (),())
    else return .yield (Oa,())
   |_=>return .done (Oa,())
  match c.1 with
  |some r=>return .done (gV r,lo)
  |none=>
   mr λs=>Xa s ((Pk s).modify ((Pk s).size-1) λ(st,len,_)=>(st,len,P))
   Nu lo n
 |_=>Nu lo n
theorem FJ:sortRuns'=(do
 let s:=(Pg (<-get)).size
 let c <-forIn [0:s] ((Oa,0):M' W0×Nat) λz c=>do
  if c.2>=s then return .done (Oa,c.2)
  else
   let gV n <-countRun' c.2 (s-c.2)|return .done (gV (),c.2)
   if n<n' s s 0 then
    rule "list.sort.binary-insertion"
    if(!(<-binarySort' c.2 (min (s-c.2)<|n' s s 0) n))=N7 then return .done (gV (),c.2)
    else MT s c.2 (min (s-c.2)<|n' s s 0)
   else MT s c.2 n
 match c.1 with
 |some r=>return r
 |none=>
  for _ in [0:s] do
   let p:=Pk (<-get)
   if p.size<=1 then break
   let i:=p.size-2
   let b:=if i>0 then p[i-1]?.map (·.2.1)else Oa
   let i:=if b.any (· < (p[i+1]?.elim 0 (·.2.1)))then i-1 else i
   if !(<-ZY i)then return):=by kernel_rfl
section
variable {C:Cm prog w A E s}{a₀:R}{hi:Nat}{st:PV}
inductive Rn (C:Cm prog w A E s):Nat->ab (Nat×Nat×Nat)->ab PM->Prop
 |nil (lo:Nat):Rn C lo [] []
 |cons {lo p:Nat} {r:ab (Nat×Nat×Nat)} {x t:ab PM} (h:x≠[]) (H:x.Pairwise C.lo) (a:Rn C (lo+x.length) r t):Rn C lo ((lo,x.length,p)::r) (x++t)
theorem Rn.app{lo:Nat}{l L:ab (Nat×Nat×Nat)}{t T:ab PM}(h:Rn C lo l t)(h':Rn C (lo+t.length) L T):Rn C lo (l++L) (t++T):=by
 induction h with
 |nil=>exact h'
 |cons a b _ i=>
  rw[O5];exact .cons a b (i<|by rwa [N9,<-Wy]at h')
theorem Rn.split:∀{l:ab (Nat×Nat×Nat)} {lo:Nat} {t:ab PM},Rn C lo (l++L) t->∃T c,t=T++c/\Rn C lo l T/\Rn C (lo+T.length) L c
 |[],lo,t,h=>⟨[],t,rfl,.nil _,h⟩
 |_::l,_,_,.cons (x:=x) a b h=>by
  obtain⟨T,c,rfl,H,d⟩:=Rn.split h;exact⟨x++T,c,by simp,.cons a b H,by rwa [N9,<-Wy]⟩
theorem Rn.pow:∀{lo:Nat} {l L:ab (Nat×Nat×Nat)} {t:ab PM},Rn C lo l t->L.map (λq=>(q.1,q.2.1))=l.map (λq=>(q.1,q.2.1))->Rn C lo L t:=by
 intro lo l L t h e;induction h generalizing L with
 |nil lo=>
  cases L with
  |nil=>exact .nil lo
  |cons=>cases e
 |cons a b t i=>
  cases L with
  |nil=>cases e
  |cons x L=>obtain⟨u,v,p⟩:=x;obtain⟨c,d⟩:=agu e;cases c;exact .cons a b<|i d
theorem Rn.len{lo:Nat}{l:ab (Nat×Nat×Nat)}{t:ab PM}(h:Rn C lo l t):l.length<=t.length:=by
 induction h with
 |nil=>exact N' _
 |cons a _ _ i=>
  have:=Sl.mpr a;rw[OE,N9];lia
structure SR (C:Cm prog w A E s)(a₀:R)(hi:Nat)(u:ab PM)(st:PV):Prop where
 perm:(Pg st).Perm a₀
 kind:kindOf st=C.kd
 failed:Ri st=Oa
 runs:∃t,(Pg st).toList=t++u/\t.length=hi/\Rn C 0 (Pk st).toList t
variable {u:ab PM}
theorem BG(b:Bs C a₀)(h:SR C a₀ hi u st)(I:i+1<(Pk st).size)(q:∀a,SR C a₀ hi u a->(Pk a).size+1=(Pk st).size->Q N7 a):C.W (ZY i) Q st:=by
 obtain⟨t,d,g,H⟩:=h.runs;have c:(Pk st).toList=(Pk st).toList.take i++((Pk st)[i]::(Pk st)[i+1]::(Pk st).toList.drop (i+2)):=by
  rw[<-YE,<-YE,<-Rg,<-Rg,Qn]
 rw[c]at H;obtain⟨P,J,rfl,j,r⟩:=H.split;rw[Qq]at r;generalize (Pk st)[i]=L,(Pk st)[i+1]=M,(Pk st).toList.drop _=O at c r;cases r with
 |cons n m o=>
  cases o with
  |@cons _ _ _ y T N v U=>
   rw[O5,O5,O5]at d;refine FI (b.of h.perm) h.kind h.failed c (by simp;lia) d n N m v λz a x B k f p D=>?_;have l:=p.length_eq;rw[N9]at l;refine q a ⟨?_,x,B,P++(z++T),by rw[f];simp,?_,?_⟩ ?_
   ·refine .trans (RX.mpr ?_) h.perm;have:=(p.append_right<|T++u).append_left P;rw[O5]at this
    rwa [f,d]
   ·rw[<-g];simp[l,Wy]
   ·rw[k,<-l];exact j.app (by rw[Qq];exact .cons (λe=>n<|by rw[e]at l;exact PN.mp<|by simp at l;lia) D<|by rwa [l,<-Wy])
   have F:=Pa Qw k;have G:=Pa Qw c;simp only[N9,OE,OR]at F G;lia
theorem SR.push(h:SR C a₀ hi u st)(d:1<=n)(f:n<=u.length)(a:(u.take n).Pairwise C.lo):SR C a₀ (hi+n) (u.drop n) (Xa st<|(Pk st).push (hi,n,0)):=by
 obtain⟨t,b,c,r⟩:=h.runs;subst c;have H:(u.take n).length=n:=by simp_all
 refine⟨h.perm,h.kind,h.failed,t++u.take n,by rwa[O5,Qn],by rw[N9,H],?_⟩;show Rn C 0 _ _
 rw[S9];refine r.app ?_;have:=Rn.cons (lo:=t.length) (p:=0) (by grind) a<|.nil _;rw[Qq]
 rwa [H,Pq]at this
theorem HL{n lo:Nat}{Q:SV (M' W0×Nat)->PV->Prop}(h:SR C a₀ lo u st)(H:1<=n)(b:n<=u.length)(c:(u.take n).Pairwise C.lo)(q:∀a,SR C a₀ (lo+n) (u.drop n) a->Q (.yield (Oa,lo+n)) a):C.W (Nu lo n) Q st:=
 OZ (W_<|Pf<|q _<|h.push H b c)
theorem FK{b c:Type}(g:b->c)(f:b->b)(h:∀x,g (f x)=g x)(l:ab b)(i:Nat):(l.modify i f).map g=l.map g:=by
 refine S8 λj=>?_;rw[Ow,Ow,List.getElem?_modify];cases l[j]? with
 |none=>rfl
 |some a=>
  show gV _=gV _
  split
  ·rw[h]
  rfl
theorem HM{d n lo:Nat}{Q:SV (M' W0×Nat)->PV->Prop}(b:Bs C a₀)(h:SR C a₀ lo u st)(H:1<=n)(f:n<=u.length)(g:(u.take n).Pairwise C.lo)(q:∀i,SR C a₀ (lo+n) (u.drop n) i->Q (.yield (Oa,lo+n)) i):C.W (MT d lo n) Q st:=by
 refine OZ<|Wg ?_
 split
 ·refine OZ<|Sv (Q8 (I:=λx c a=>c=(Oa,())/\SR C _ lo u a) ?_ (λx x z=>z) ⟨rfl,h⟩) ?_
  ·rintro y c a x x ⟨rfl,r⟩;refine OZ<|Wg ?_;dsimp only
   split
   ·have j:(Pk a).size>1:=by
     simp_all
    exact c7 (λx=>Pf ⟨rfl,r⟩) λx=>OZ<|BG b r (by omega) λk l x=>Pf ⟨rfl,l⟩
   exact Pf ⟨rfl,r⟩
  rintro c a ⟨rfl,r⟩;obtain⟨t,m,o,p⟩:=r.runs;refine OZ<|W_<|HL ⟨r.perm,r.kind,r.failed,t,m,o,p.pow ?_⟩ H f g q;rw[Array.toList_modify];exact FK _ _ (by simp) _ _
 exact HL h H f g q
theorem mW:∀f n r,1<=n->1<=n' f n r
 |0,n,r,h=>Pm h<|U1 _ _
 |f+1,n,r,h=>by
  rw[minRun'_succ]
  split
  ·exact Nat.le_add_right_of_le h
  exact mW f _ _ (by lia)
theorem SL.sr{lo n:Nat}{Q:PV}(h:SL C a₀ lo st Q)(r:SR C a₀ lo u st)(l:lo+n<=a₀.size)(c:Srt C (Pg Q) lo n):∃U,SR C a₀ lo U Q/\n<=U.length/\(U.take n).Pairwise C.lo:=by
 obtain⟨t,d,H,f⟩:=r.runs;have z:=h.perm.size_eq;have e:(Pg Q).toList=t++(Pg Q).toList.drop lo:=by
  rw[<-Qn lo (Pg Q).toList]
  congr 1
  ·refine S8 λk=>?_;by_cases b:k<lo
   ·have:=h.low k b;rw[P7 b,O3,this,<-O3,d,OV<|by simp_all]
   rw[Py (by simp;exact Pm (ot _ _) (hJ b)),Py<|by simp_all]
  simp
 refine⟨(Pg Q).toList.drop lo,⟨h.perm,h.kind,h.failed,t,e,H,h.pend▸f⟩,by simp;lia,?_⟩;rw[QM];intro i j hi g a;simp only[OJ,QF,OR]at hi g;have:=c i j a (Pe g (ot _ _));rw[<-Pq<|List.drop lo _]at e;rw[<-H,v_ e (by simp;exact Pe hi (Tp _ _)),v_ e<|by simp;exact Pe g (Tp _ _)]at this;rwa[Wn,Wn]
theorem JK(b:Bs C a₀)(h:SR C a₀ 0 u st)(k:1<=a₀.size)(q:∀a,(Pg a).Perm a₀->Ri a=Oa->(Pg a).toList.Pairwise C.lo->Q () a):C.W sortRuns' Q st:=by
 rw[FJ];refine OZ<|Wg ?_;dsimp only;rw[h.perm.size_eq];have o:=mW a₀.size a₀.size 0 k;generalize n' a₀.size a₀.size 0=M at o;refine OZ (Sv (Q8 (I:=λx c a=>∃lo u,c=(Oa,lo)/\SR C a₀ lo u a/\(x<=lo\/lo=a₀.size))
  (Q:=λc a=>c=(Oa,a₀.size)/\∃u,SR C a₀ a₀.size u a) ?_ ?_ ⟨0,u,rfl,h,.inl<|N' _⟩) ?_)
 ·rintro x c a w D ⟨lo,u,rfl,r,F⟩;obtain⟨t,e,f,w⟩:=r.runs;have cD:=Pa Qw e;rw[N9,OR,r.perm.size_eq]at cD;dsimp only;refine c7 (λg=>?_) λg=>?_
  ·obtain rfl:lo=a₀.size:=by lia
   exact Pf ⟨rfl,u,r⟩
  refine OZ<|LK b (st:=a) ⟨r.perm,r.kind,r.failed,rfl,λw w=>rfl⟩ (by simp_all) (by grind) λm j k p G Z=>?_;dsimp only;refine c7 (λI=>OZ<|Yg<|RU ⟨rfl,OZ<|LL b k (n:=min (a₀.size-lo) M) (by grind) (by grind) (by grind) Z λJ L N=>?_⟩) λI=>?_
  ·obtain⟨U,i,v,y⟩:=L.sr r (by grind) N;exact HM b i (by grind) v y λz B=>⟨_,_,rfl,B,by grind⟩
  obtain⟨U,i,v,y⟩:=k.sr r (by simp_all) Z;exact HM b i p v y λz B=>⟨_,_,rfl,B,by lia⟩
 ·rintro c a ⟨lo,u,rfl,r,D⟩;obtain⟨t,e,f,w⟩:=r.runs;have cD:=Pa Qw e;rw[N9,OR,r.perm.size_eq]at cD;obtain rfl:lo=a₀.size:=by lia
  exact⟨rfl,u,r⟩
 rintro c a ⟨rfl,u,r⟩;have len:∀{st},SR C a₀ a₀.size u st->(Pk st).size<=a₀.size:=λr=>by
  obtain⟨t,w,f,n⟩:=r.runs;have:=n.len
  simp_all
 refine OZ<|Sv (Q8 (I:=λx c j=>c=(Oa,())/\SR C _ _ u j/\((Pk j).size+x<=a₀.size\/(Pk j).size<=1)) (Q:=λc j=>c=(Oa,())/\SR C a₀ a₀.size u j/\(Pk j).size<=1) ?_ ?_ ⟨rfl,r,by simp_all⟩) ?_
 ·rintro x c j w D ⟨rfl,d,H⟩;refine OZ (Wg<|c7 (λg=>Pf ⟨rfl,d,g⟩) λg=>OZ<|BG b d ?_ λJ i P=>Pf ⟨rfl,i,by lia⟩)
  repeat' split
  all_goals omega
 ·rintro c j ⟨rfl,d,H⟩;exact⟨rfl,d,by lia⟩
 rintro c j ⟨rfl,d,H⟩;obtain⟨t,e,f,n⟩:=d.runs;refine Pf<|q j d.perm d.failed ?_;have O:=Pa Qw e;rw[N9,OR,d.perm.size_eq,f]at O;rw[e,PN.mp (show u.length=0 by lia),Pq];rw[<-OR]at H;generalize (Pk j).toList=l at n H;cases n with
 |nil=>exact .nil
 |cons _ s r=>
  cases r with
  |nil=>simpa using s
  |cons=>simp only[OE]at H;lia
end
noncomputable def sH(h:Pd)(b:J')(u:ab K'):Pd:=((h.update b<|QO λ_=>#[]).push<|Qs "tuple" u.toArray 0).push<|Qs "list" #[] 0
theorem tT{d e:Type}{F:d->e->Prop}{B b:ab e}(p:b.Perm B):∀{A:ab d},Paired F A B->∃a,Paired F a b/\a.Perm A:=by
 induction p with
 |nil=>exact λh=>⟨_,h,.refl _⟩
 |cons x _ f=>
  rintro z (z|⟨r,t⟩);obtain⟨a,H,c⟩:=f t;exact⟨_,.cons r H,c.cons _⟩
 |swap x y l=>
  rintro z (z|⟨r,z|⟨g,t⟩⟩);exact⟨_,.cons g<|.cons r t,.swap ..⟩
 |trans _ _ i I=>
  intro A h;obtain⟨m,H,P⟩:=I h;obtain⟨j,c,k⟩:=i H;exact⟨j,c,k.trans P⟩
theorem paired_at'{d c:Type}{F:d->c->Prop}{A:ab d}{B:ab c}(h:Paired F A B):∀{i:Nat} {b:c},B[i]?=gV b->∃a,A[i]?=gV a/\F a b:=by
 induction h with
 |nil=>intro i b e;simp at e
 |cons r _ I=>
  intro i b e;cases i with
  |zero=>exact⟨_,rfl,Oy e▸r⟩
  |succ i=>exact I e
section
variable {κ:Type}{is:κ->K'->Prop}{key:κ->Int}
open Classical in
noncomputable def JL (is:κ->K'->Prop)(key:κ->Int)(v:K'):Int:=if h:∃k,is k v then key h.choose else 0
theorem wb(i:∀k a v,is k v->is a v->k=a)(h:is k v):JL is key v=key k:=by
 unfold JL;rw[dif_pos ⟨k,h⟩,i _ k v (Exists.choose_spec (p:=λk=>is k v) _) h]
theorem xA(i:∀k a v,is k v->is a v->k=a)(h:Paired is s u):u.map (JL is key)=s.map key:=by
 induction h with
 |nil=>rfl
 |cons r _ I=>rw[OU,OU,I,wb i r]
theorem sort_gen{P:Ou}{w:ON}{A:Pw}{E:K'->Od->Prop}{s:Od}{R:afn->Od->Prop}{F:rr}(B:s.heap.get? b=gV (Qs "list" u.toArray ep))(G:u.length<=10000)(I:∀k c v,is k v->is c v->k=c)(J:Paired is U u)(X:(U.map key).Nodup)
  (Y:2<=u.length->∀{Q:rr->Od->Prop},Q F {s with heap:=sH s.heap b u}->wpAny (OS P w) A (keyKind' u.toArray) Q E {s with heap:=sH s.heap b u})
  (lt:∀{E':K'->Od->Prop} {k c:κ} {x y:K'} {Q:Oe->Od->Prop},is k x->is c y->Q (decide (key k<key c)) {s with heap:=sH s.heap b u}->wpAny (OS P w) A (keyLt' F x y) Q E' {s with heap:=sH s.heap b u})
  (q:∀W a,Paired is a W->a.Perm U->(a.map key).Pairwise (· < ·)->R (.done<|.ret .none) {s with heap:=zz s.heap b u W.toArray}):wpAny (OS P w) A (Builtin.«list.sort» ⟨[.ref b],[]⟩) R E s:=by
 let C:Cm P w A E {s with heap:=sH s.heap b u}:=⟨λp=>JL is key p.1,λp=>∃k,is k p.1,F,λ{x y Q st} e ⟨k,H⟩ ⟨c,d⟩ h=>by
  rw[wb I H,wb I d]at h;rw[lt'_eq];refine OZ<|Wg ?_;rw[e];exact OZ<|Yg<|Wv<|lt H d ⟨rfl,Pf h⟩⟩
 have L:∀{n:Nat},n<=10000->n<=sizeLine:=λz=>by rw[Qm];exact Pm z (by decide)
 have XX:∀t,(Pg t).Perm (ov u)->(Pg t).toList.Pairwise C.lo->R (.done<|.ret .none) {s with heap:=zz s.heap b u ((Pg t).map (·.2))}/\((Pg t).map (·.2)).size<=sizeLine:=λt j hs=>by
  have f:(Pg t).toList.Perm (u.zip u):=by rw[<-Yj];exact RX.mp j
  have e:((Pg t).map (·.2)).toList=(Pg t).toList.map (·.2):=Array.toList_map;have M:((Pg t).toList.map (·.2)).Perm u:=by
   have:=f.map (·.2)
   rwa [aax<|N' _]at this
  obtain⟨a,H,d⟩:=tT M J;refine⟨?_,by rw[YD,j.size_eq,pairsOf_size];exact L G⟩;have:=q _ a H d (by
   rw[<-xA I H,OY,Ph];refine hs.imp_of_mem λ{x y} hx hy h=>?_;have D:=(Xc<|f.mem_iff.mp hx).1;have e2:=(Xc<|f.mem_iff.mp hy).1;show JL is key x.2<JL is key y.2
   rw[<-D,<-e2];exact h)
  rwa [<-e]at this
 rw[list_sort_plain];have RH:b<s.heap.objs.size:=OB B;obtain⟨D,m⟩:∃x,(s.heap.update b (QO λV=>#[])).get? b=gV (Qs "list" #[] x):=⟨_,Vh B _⟩;have o:(sH s.heap b u).get? b=gV (Qs "list" #[] D):=Oj _ (Oj _ m);refine B' (ZZ B rfl (B' (TR B rfl ?_ (by rw[OA];exact L G))));refine B' (Yi m rfl (B' (abj (B' (U6 (Qb ?_))) (by simp_all))));show wpAny (OS P w) A _ R E {s with heap:=sH s.heap b u}
 have go:∀t,Ri t=Oa->(Pg t).Perm (ov u)->(Pg t).toList.Pairwise C.lo->wpAny (OS P w) A (do
   let T:=(<-seqEpoch b) != D
   ac0 (.ref b) λV=>(Pg t).map (·.2)
   if let gV e:=Ri t then rule "list.sort.comparison-raised";throw e
   if T then rule "list.sort.modified";raiseError "ValueError" "list modified during sort"
   ret .none) R E {s with heap:=sH s.heap b u}:=λt h0 H d=>by
  obtain⟨f1,f2⟩:=XX t H d;refine B'<|Yi o rfl<|B'<|TR o rfl ?_ (OG _)<|Wj f2;rw[h0];simp only[ZD,OX,RI];exact Of f1
 by_cases g:u.toArray.size<2
 ·rw[Ox g,Ox g];refine B'<|Of ?_;dsimp only;rw[aaQ];refine B'<|Of<|go (VR general' (u.toArray.zip u.toArray) #[] 7 Oa) rfl (.refl _) ?_;have f:(u.toArray.zip u.toArray).toList.length<2:=by simp_all
  show(u.toArray.zip u.toArray).toList.Pairwise C.lo
  generalize (u.toArray.zip u.toArray).toList=l at f;cases l with
  |nil=>exact .nil
  |cons x r=>
   cases r with
   |nil=>exact List.pairwise_singleton _ _
   |cons y r=>exact absurd f<|by simp
 rw[Ov g,Ov g];rw[OA]at g;refine B'<|Y (hJ g) ?_;have hB:Bs C (ov u):=⟨λp j=>?_,?_⟩
 ·refine B'<|Qx (JK (C:=C) (u:=(ov u).toList) (Q:=λV t=>(Pg t).Perm (ov u)/\Ri t=Oa/\(Pg t).toList.Pairwise C.lo) hB ⟨.refl _,rfl,rfl,[],rfl,rfl,.nil _⟩ (by rw[pairsOf_size];exact Z4 (hJ g)) λt Z N O=>⟨Z,N,O⟩) ?_ λV V z=>z;rintro⟨⟨⟩,t⟩ s2 ⟨rfl,Z,N,O⟩;exact go t N Z O
 ·rw[Yj]at j;have M:=(Xc j).2;obtain⟨i,hi⟩:=P4.mp M;obtain⟨k,V,h⟩:=paired_at' J hi;exact⟨k,h⟩
 rw[Yj];show((u.zip u).map<|JL is key∘rk).Nodup
 rwa[<-OY,aay<|N' _,xA I J]
end
end TS
namespace L2
open PySem PySem.Spec PyProof.Rows
theorem qd{c d:Type}{F:c->d->Prop}:∀{A:ab c} {B:ab d},A.length=B.length->(∀(i:Nat) a b,A[i]?=gV a->B[i]?=gV b->F a b)->Paired F A B
 |[],[],_,_=>.nil
 |[],_::_,h,_=>by cases h
 |_::_,[],h,_=>by cases h
 |a::A,b::B,h,f=>.cons (f 0 a b rfl rfl)<|qd (by simpa using h) λi a b H e=>f (i+1) a b H e
structure SK (X:Cx)(H:Hp)(κ:Type) where
 vr:κ->V->Prop
 key:κ->Int
 kd:rr
 hp:Pd->Prop
 mono:∀{h h'},hp h->(∀b o,h.get? b=gV o->h'.get? b=gV o)->hp h'
 inj:∀{k k' x x' v},vr k x->RelV x v->vr k' x'->RelV x' v->k=k'
 kk:∀{A E s Q us} {ks:ab κ},hp s.heap->2<=us.length->Paired (λk v=>∃x,vr k x/\RelV x v) ks us->Q kd s->wpAny (OS X.prog X.w) A (keyKind' us.toArray) Q E s
 lt:∀{A E s Q k k' x x' v v'},hp s.heap->vr k x->RelV x v->vr k' x'->RelV x' v'->Q (decide (key k<key k')) s->wpAny (OS X.prog X.w) A (keyLt' kd v v') Q E s
section
variable {κ:Type}(S:SK X H κ)
theorem FL(h:Paired (λk v=>∃x,S.vr k x/\RelV x v) s z):∃t,Vals t z/\Paired S.vr s t:=by
 induction h with
 |nil=>exact⟨[],.nil,.nil⟩
 |cons r _ i=>
  obtain⟨x,a,b⟩:=r;obtain⟨t,c,d⟩:=i;exact⟨x::t,.cons b c,.cons a d⟩
theorem mY(I:Inv X O y H s)(A:S.hp s.heap)(P:c.length<=9000)(g:Paired (λk v=>∃x,S.vr k x/\RelV x v) p c)(N:(p.map S.key).Nodup)
  (q:∀l t a,H l=Oa->a.Perm p->(a.map S.key).Pairwise (· < ·)->Paired S.vr a t->Q (.ref l) (upd H l<|.lst t)):
  wpAny (OS X.prog X.w) X.A.in1 (do
   let l <-newList c
   let _ <-Wb [l] (call (.builtin "list.sort") [l] [])
   ret l) (λr B=>∃v,r=.done (.ret v)/\EP X O y Q v B) X.xe s:=by
 refine B' (U6 ?_<|by rw[Qm];exact Pm P (by decide));have h:(s.heap.push<|Qs "list" c.toArray 0).get? _=gV _:=OT _ rfl;have d:S.hp (TS.sH (s.heap.push<|Qs "list" c.toArray 0) _ c):=S.mono A λb o e=>Oj _<|Oj _<|(PJ _ _<|R_<|OB e).trans<|Oj _ e;refine B'<|Qb<|Rl Yh ⟨_,h,rfl⟩ Xz (TS.sort_gen h (Pm P (by decide)) (λk T v ⟨x,i,j⟩ ⟨C,m,n⟩=>S.inj i j m n) g N (λf=>S.kk d f g) (λ⟨x,i,j⟩ ⟨C,m,n⟩=>S.lt d i j m n) λz a D f F=>⟨_,rfl,?_⟩)<|abJ _;obtain⟨t,G,u⟩:=FL S D;obtain⟨e,J⟩:=acI h;refine Of ⟨_,rfl,.ref _,_,I.laid (o:=.lst t) (λb o E=>?_) (N' _) ⟨?_,z,e,G,J⟩,rfl,q _ t a (I.hok.fresh<|N' _) f F u⟩
 ·have w:=OB E;rw[abF (OQ w)<|by rw[Zi];exact QT w];exact Oj _ E
 have L:=Paired.length u;have M:=Paired.length g;rw[<-L,f.length_eq,M];exact Pu (aV<|Pm P (by decide))
noncomputable def xB(X:Cx)(H:Hp):SK X H Int where
 vr:=λk x=>x=.int k
 key:=λk=>k
 kd:=oneType'
 hp:=λ_=>True
 mono:=λh _=>h
 inj:=by
  rintro k b _ _ v rfl ⟨t,rfl⟩ rfl ⟨T,e⟩;simp_all
 kk:=λ{A E s Q u c} _ a h q=>by
  have i:Sk u c:=by
   clear a
   induction h with
   |nil=>exact .nil
   |cons r _ I=>
    obtain⟨_,rfl,t,rfl⟩:=r;exact .cons _ t I
  match u,a with
  |v1::d::vr,_=>
   rw[keyKind_ints i];exact Of q
 lt:=by
  rintro A E s Q k b _ _ _ _ _ rfl ⟨t,rfl⟩ rfl ⟨T,rfl⟩ q;exact oneLt_int q
theorem qe{k:ab Int}{t:ab V}(h:Paired (xB X H).vr k t):t=k.map V.int:=by
 induction h with
 |nil=>rfl
 |cons r _ i=>rw[OU,i,r]
theorem wc(B:X.calm=N7):fk X (.builtin "sorted") (λn H Q=>∃p a b,n=[.ref p]/\H p=gV (.dK a)/\a.map (·.1)=b.map Pb/\b.length<=9000/\
  ∀l E,H l=Oa->Tv E b->RP (·<=·) E->Q (.ref l) (upd H l<|.lst<|wh V.int E)):=by
 intro Og s σ H n us Q I r h;obtain⟨p,a,b,rfl,o,w,C,q⟩:=h;obtain⟨u,rfl,F⟩:=eV r;cases F;obtain⟨z,G,c,W,D⟩:a.length<=sizeLine/\(p == Q2)=Oc/\∃c,KV a c/\s.heap.DictOf _ p c:=I.hok p _ o;obtain⟨J,d⟩:=D.dictAt;have L:=Paired.length W;have f:c.map (·.1)=b.map Pb:=by
  rw[<-w];clear w o d D L z
  induction W with
  |nil=>rfl
  |cons r _ M=>simp_all
 have g:=Pa Qw f;simp only[A']at g;refine Tw Yl Xb Xd (Z0 _) ?_;refine B'<|Of ?_;refine B'<|Vo (aaj G) (I.ok.hd B) d (by simp_all) λO T P j A=>?_;have hl:P.toList.length=c.length:=A.1
 refine mY (xB X H) (p:=b) (I.kept j) trivial (by simp_all) ?_ ?_ λl ts e U Y Z h4=>?_
 ·refine qd (by simp_all) λi k v UR hv=>?_;obtain⟨k2,x,hx,m⟩:=A.2 i v (by rwa[<-O3]);have y:=Pa (·[i]?) f;simp only[Ow,hx,UR,TZ]at y;cases Oy y;obtain⟨t,et⟩:=R7 m;exact⟨.int k,rfl,t,et⟩
 ·obtain⟨S,S,S,S,S,S,S,S,N⟩:=D;rw[f,Qt,Ph]at N;exact(Tt b).symm▸N.imp λh z=>h<|Pa _ z
 rw[qe h4];exact q l e U Y<|((Tt e)▸Z).imp Xq
end
mutual
def RD(H:Hp):Oo->V->Prop
 |.none,v=>v=.non
 |.bool b,v=>v=.bl b
 |.int i,v=>v=.int i
 |.str x,v=>v=.str x
 |.list d,v=>∃a X,v=.ref a/\H a=gV (.lst X)/\cJ H d X
 |.tuple d,v=>∃a X,v=.ref a/\H a=gV (.tup X)/\cJ H d X
 |.dict _,_=>False
def cJ(H:Hp):ab Oo->ab V->Prop
 |[],x=>x=[]
 |d::D,x=>∃y Y,x=y::Y/\RD H d y/\cJ H D Y
end
theorem dm(h:H a=gV (.lst x))(r:cJ H d x):RD H (.list d) (.ref a):=⟨a,x,rfl,h,r⟩
theorem bn(h:H a=gV (.tup x))(r:cJ H d x):RD H (.tuple d) (.ref a):=⟨a,x,rfl,h,r⟩
theorem dC(h:RD H (.list d) v):∃a x,v=.ref a/\H a=gV (.lst x)/\cJ H d x:=by
 assumption
theorem ak(h:RD H (.tuple d) v):∃a x,v=.ref a/\H a=gV (.tup x)/\cJ H d x:=by
 assumption
theorem xC:RD H .none .non:=by rfl
theorem ma(b:Oe):RD H (.bool b) (.bl b):=by rfl
theorem cr(i:Int):RD H (.int i) (.int i):=by rfl
theorem cH(x:Str):RD H (.str x) (.str x):=by rfl
theorem aw:cJ H [] []:=by rfl
theorem ah(h:RD H d y)(t:cJ H D Y):cJ H (d::D) (y::Y):=⟨y,Y,rfl,h,t⟩
theorem bx(h:cJ H [] x):x=[]:=by
 assumption
theorem ai(h:cJ H (d::D) x):∃y Y,x=y::Y/\RD H d y/\cJ H D Y:=by
 assumption
theorem ju:∀N:ab Int,cJ H (N.map UY)<|N.map V.int
 |[]=>aw
 |n::r=>ah (cr n)<|ju r
theorem bI:∀{D:ab Oo} {x:ab V},cJ H D x->x.length=D.length
 |[],_,h=>by
  rw[bx h];rfl
 |d::D,_,h=>by
  obtain⟨y,Y,rfl,z,t⟩:=ai h;rw[OE,OE,bI t]
theorem cV:∀{D:ab Oo} {x:ab V} {j:Nat} {v:V},cJ H D x->x[j]?=gV v->RD H (D.getD j .none) v
 |[],_,_,_,h,e=>by rw[bx h]at e;cases e
 |d::D,_,j,v,h,e=>by
  obtain⟨y,Y,rfl,a,t⟩:=ai h;cases j with
  |zero=>
   simp_all
  |succ j=>exact cV (D:=D) t (by assumption)
mutual
theorem bJ(k:Same H g):∀d v,RD H d v->RD g d v
 |.none,v,h=>by unfold RD at h ⊢;exact h
 |.bool b,v,h=>by unfold RD at h ⊢;exact h
 |.int i,v,h=>by unfold RD at h ⊢;exact h
 |.str x,v,h=>by unfold RD at h ⊢;exact h
 |.list D,v,h=>by
  obtain⟨a,X,e,c,f⟩:=dC h;subst e;exact dm (k _ _ c)<|bN k D X f
 |.tuple D,v,h=>by
  obtain⟨a,X,e,c,f⟩:=ak h;subst e;exact bn (k _ _ c)<|bN k D X f
 |.dict _,v,h=>by
  unfold RD at h;exact h.elim
theorem bN(k:Same H a):∀D x,cJ H D x->cJ a D x
 |[],x,h=>by
  rw[bx h];exact aw
 |d::D,x,h=>by
  obtain⟨y,Y,e,b,c⟩:=ai h;subst e;exact ah (bJ k d y b)<|bN k D Y c
end
mutual
theorem cA(I:Inv X O m H s):∀d x v,RD H d x->RelV x v->∃A,Reads s.heap v d A
 |.none,x,v,h,r=>by
  unfold RD at h;subst h;cases r;exact⟨[],.none⟩
 |.bool b,x,v,h,r=>by
  unfold RD at h;subst h;cases r;exact⟨[],.bool b⟩
 |.int i,x,v,h,r=>by
  unfold RD at h;subst h;obtain⟨t,rfl⟩:=r;exact⟨[],.int i t⟩
 |.str y,x,v,h,r=>by
  unfold RD at h;subst h;obtain⟨t,rfl⟩:=r;exact⟨[],.str y t⟩
 |.list D,x,v,h,r=>by
  obtain⟨a,c,e,f,g⟩:=dC h;subst e;cases r;obtain⟨P,j,⟨o,n,E,k,z,l⟩,z⟩:=I.list<|SqL.of f;obtain⟨A,q⟩:=ku I D c P g j;exact⟨a::A,.list E k l<|by simpa using q⟩
 |.tuple D,x,v,h,r=>by
  obtain⟨a,c,e,f,g⟩:=ak h;subst e;cases r;obtain⟨P,j,⟨o,E,k,n,l⟩,z⟩:=I.tuple<|SqT.of f;obtain⟨A,q⟩:=ku I D c P g j;exact⟨A,.tuple E k l<|by simpa using q⟩
 |.dict _,x,v,h,_=>by
  unfold RD at h;exact h.elim
theorem ku(I:Inv X O i H s):∀D x v,cJ H D x->Vals x v->∃a,ZS s.heap v D a
 |[],x,v,h,r=>by
  rw[bx h]at r;cases r;exact⟨[],.nil⟩
 |d::D,x,v,h,r=>by
  obtain⟨y,Y,e,b,c⟩:=ai h;subst e;cases r with
  |cons f g=>
   obtain⟨a,q⟩:=cA I d y _ b f;obtain⟨B,Q⟩:=ku I D Y _ c g;exact⟨a++B,.cons q Q⟩
end
inductive LN (x y:V)(H:Hp)(Q:VK):Prop
 |mk (d D:Oo)(r:RD H d x)(b:RD H D y)(sa:Qi d=N7)(s:Qi D=N7)(q:Q (.bl<|O4 d D) H)
inductive LO (x y:V)(H:Hp)(Q:VK):Prop
 |mk (d D:Oo)(r:RD H d x)(b:RD H D y)(sa:Qi d=N7)(s:Qi D=N7)(q:Q (.bl (!O4 d D)) H)
def LP:R2:=λx y H Q=>LN x y H Q
def LQ:R2:=λx y H Q=>LO x y H Q
theorem JM(a:X.A.units+64<R1):OpR X (PX .Eq) LP:=by
 intro O s k H x y v u Q I r b h;obtain⟨d,D,c,e,f,g,q⟩:=h;obtain⟨A,i⟩:=cA I d x v c r;obtain⟨B,j⟩:=cA I D y u e b;exact eq_dataH i j f g a ⟨.bl _,H,I,rfl,q⟩
theorem JN(a:X.A.units+64<R1):OpR X (PX .NotEq) LQ:=by
 intro O s k H x y v u Q I r b h;obtain⟨d,D,c,e,f,g,q⟩:=h;obtain⟨A,i⟩:=cA I d x v c r;obtain⟨B,j⟩:=cA I D y u e b;exact ne_dataH i j f g a ⟨.bl _,H,I,rfl,q⟩
theorem d_(h:X.A.units+64<R1):OpR X (PX .Eq) (λx y H Q=>NL x y H Q\/LP x y H Q):=OpR.or Lj<|JM h
theorem mZ(h:X.A.units+64<R1):OpR X (PX .NotEq) (λx y H Q=>NM x y H Q\/LQ x y H Q):=OpR.or Lk<|JN h
theorem tU:fk X (.builtin "isinstance") (λa H Q=>∃x t c b,a=[x,.ty c]/\jn X.K H x t/\Te X.K t (.type c)=gV b/\Q (.bl b) H):=by
 intro O s f H a U Q I r h;obtain⟨x,t,c,b,rfl,T,e,q⟩:=h;obtain⟨u,w,rfl,d,y⟩:=xp r;obtain rfl:w=Ub c:=y;exact zx I d T e λk=>⟨.bl b,H,I.tok _,rfl,q⟩
noncomputable def fU(T c:SB):M' Oe:=if(Ub T == Ub c)=N7 then gV N7 else if PySem.W.kitMeta c=N7 then(fastBuiltinMro T).map (·.contains (Ub c))else Oa
theorem bA{K:C'}{T c:SB}{b:Oe}(h:fU T c=gV b):Te K (.type T) (.type c)=gV b:=h
noncomputable def rA:Oo->SB
 |.none=>"NoneType"
 |.bool _=>"bool"
 |.int _=>"int"
 |.str _=>"str"
 |.list _=>"list"
 |.tuple _=>"tuple"
 |.dict _=>"dict"
theorem iT{K:C'}{H:Hp}:∀d v,RD H d v->jn K H v (.type<|rA d)
 |.none,v,h=>by
  subst h;exact .non
 |.bool b,v,h=>by
  subst h;exact .bl b
 |.int i,v,h=>by
  subst h;exact .int i
 |.str x,v,h=>by
  subst h;exact .str x
 |.list D,v,h=>by
  obtain⟨a,X,e,c,z⟩:=dC h;subst e;exact .lst c
 |.tuple D,v,h=>by
  obtain⟨a,X,e,c,z⟩:=ak h;subst e;exact .tup c
 |.dict _,v,h=>by
  unfold RD at h;simp_all
noncomputable def JO:Oo->Oe
 |.tuple _=>N7
 |_=>Oc
noncomputable def kB:Oo->Oe
 |.int _=>N7
 |.bool _=>N7
 |_=>Oc
noncomputable def md:Oo->Oe
 |.bool _=>N7
 |_=>Oc
noncomputable def mf:Oo->Oe
 |.dict _=>N7
 |_=>Oc
theorem BH:fU "NoneType" "tuple"=gV Oc/\fU "bool" "tuple"=gV Oc/\fU "int" "tuple"=gV Oc/\fU "str" "tuple"=gV Oc/\fU "list" "tuple"=gV Oc/\fU "tuple" "tuple"=gV true:=by
 refine⟨?_,?_,?_,?_,?_,?_⟩<;>decide+kernel
theorem JP:fU "NoneType" "int"=gV Oc/\fU "bool" "int"=gV N7/\fU "int" "int"=gV N7/\fU "str" "int"=gV Oc/\fU "list" "int"=gV Oc/\fU "tuple" "int"=gV false:=by
 refine⟨?_,?_,?_,?_,?_,?_⟩<;>decide+kernel
theorem FM:fU "NoneType" "bool"=gV Oc/\fU "bool" "bool"=gV N7/\fU "int" "bool"=gV Oc/\fU "str" "bool"=gV Oc/\fU "list" "bool"=gV Oc/\fU "tuple" "bool"=gV false:=by
 refine⟨?_,?_,?_,?_,?_,?_⟩<;>decide+kernel
theorem iw{K:C'}(d:Oo)(h:mf d=Oc):Te K (.type<|rA d) (.type "tuple")=gV (JO d):=by
 cases d with
 |none=>rfl
 |bool _=>rfl
 |int _=>rfl
 |str _=>rfl
 |list _=>rfl
 |tuple _=>rfl
 |dict _=>rfl
theorem xD{K:C'}(d:Oo)(h:mf d=Oc):Te K (.type<|rA d) (.type "int")=gV (kB d):=by
 cases d with
 |none=>rfl
 |bool _=>rfl
 |int _=>rfl
 |str _=>rfl
 |list _=>rfl
 |tuple _=>rfl
 |dict _=>rfl
theorem jw{K:C'}(d:Oo)(h:mf d=Oc):Te K (.type<|rA d) (.type "bool")=gV (md d):=by
 cases d with
 |none=>rfl
 |bool _=>rfl
 |int _=>rfl
 |str _=>rfl
 |list _=>rfl
 |tuple _=>rfl
 |dict _=>rfl
theorem dD(h:RD H d v):mf d=false:=by
 cases d with
 |dict _=>
  unfold RD at h;simp_all
 |_=>rfl
def FN:V->ab V->Hp->VK->Prop:=λx v H Q=>∃l X i y,x=.ref l/\v=[.int i,y]/\H l=gV (.lst X)/\0<=i/\i<=X.length/\X.length<sizeLine/\Q .non (upd H l<|.lst<|X.take i.toNat++y::X.drop i.toNat)
theorem zF:MN X "list.insert" FN:=by
 intro O s k H x m v U Q I c d h;obtain⟨l,o,i,y,rfl,rfl,b,p,w,A,q⟩:=h;cases c;obtain⟨B,u,rfl,⟨t,rfl⟩,f⟩:=xp d;obtain⟨z,P,n,r,C,e⟩:=I.lstM b;have D:=Qm;have a:¬(!abD i)=true:=by
  rw[abq (by lia)<|by lia];exact Om
 refine UU XJ ⟨_,e,rfl⟩ F.entry_list_insert (F.args_list_insert_3 _ _ _) (YR l _ n i t u a<|by simp_all) ⟨e,?_⟩;refine⟨.non,_,I.lset b e ?_ ((r.take _).append<|.cons f<|r.drop _) ?_,rfl,q⟩
 ·have j:min i.toNat P.toArray.size=i.toNat:=by simp_all
  grind
 grind
structure Fn (P:Ou)(w:ON)(K:C')(mg:Str->M' K')(base:Pd)(k:Nat)(x:Str)(f:J')(fd:Oz)(ps:ab Str)(sp:Sp):Prop where
 ok:aA P w K mg base bw k f fd ps sp
 b:Binds K fd ps []
 kp:QB K (.ref f)=N7
 at_:mg x=gV (.ref f)
theorem LR{X:Cx}{j:Nat}{k:Nat}{f:J'}{F:Oz}{a:ab Str}{s:Sp}{x:Str}{p:Pos}{P:Pos}{e:PD}{E:ab PD}{t:TA}(G:Fn X.prog X.w X.K X.mg X.base j x f F a s)(r:Room k X.A)(h:j<=k)(g:Gl X x)(b:PA X (e::E) t)(H:(x == ("__debug__":Str))=false:=by decide)
  (c:OW (e::E) X.env=(Oc,QA e X.env)::OW E X.env:=by rfl) (u:(RE P<|OW E X.env).any (·.1)=false:=by rfl):PE X (.Call (.Name x p) (e::E) [] P) (xq s [] E0 t):=
 Fv G.ok (r.mono h) g G.at_ G.kp G.b .nil xx b H c u
theorem ad(h:H p=Oa)(o:HO):Same H (upd H p o):=λb u q=>by rwa[ag<|af q h]
theorem Same.upd_new(k:Same a H)(h:a p=Oa)(o:HO):Same a (upd H p o):=λb u q=>by rw[ag<|af q h];exact k b u q
theorem m6{a:Type}{x:ab a}{i:Int}(H:0<=i)(b:i<x.length):∃v,x[i.toNat]?=gV v/\kq x i=gV v:=by
 have h:i.toNat<x.length:=by simp_all
 have e:i=((i.toNat)):=by lia
 have q:kq x ((i.toNat))=gV _:=aK<|N_ h;rw[<-e]at q;exact⟨_,N_ h,q⟩
theorem BI{n:ab Int}{i:Int}(a:0<=i)(b:i<n.length):∃v,n[i.toNat]?=gV v/\kq (n.map V.int) i=gV (.int v):=by
 obtain⟨v,h,c⟩:=m6 (x:=n.map V.int) a (by simp_all);simp_all
def AllIn(f:Str->M' J'):ab (Str×J')->Prop
 |[]=>True
 |p::r=>f p.1=gV p.2/\AllIn f r
theorem AllIn.look:∀{C:ab (Str×J')},AllIn f C->∀{y:Str} {c:J'},C.lookup y=gV c->f y=gV c
 |[],_,y,c,e=>by cases e
 |(n,a)::r,h,y,c,e=>by
  rw[Rp]at e;cases q:(y == n)with
  |true=>
   rw[q]at e;have E:=eq_of_beq q;have b:=Oy e;rw[E,<-b];exact h.1
  |false=>
   rw[q]at e;exact AllIn.look h.2 e
noncomputable def bY(X:Cx)(s:Sx)(c:ab (Str×J'))(n:ab Str)(C:J')(f:ab J')(s₀:Od)(H₀:Hp):Cx where
 prog:=X.prog
 w:=X.w
 K:=X.K
 mg:=X.mg
 base:=X.base
 A:=X.A
 N:=n
 s₀:=s₀
 H₀:=H₀
 env:=VH s (PP (C+1) s.names c) C X.env
 outer:=X.stack
 stack:=X.stack
 ex:=f
 fn:=λx=>(c.lookup x).isNone
 calm:=X.calm
 pn:=[]
 xe:=λ_ _=>False
structure CompSc (X:Cx)(scope:Sx)(cl:ab (Str×J'))(NY:ab Str)(idx:ab (M' Nat)):Prop where
 clos:va scope X.env=pure cl
 all:AllIn (λy=>X.env.cells.lookup y) cl
 c2:∀n,((S3 scope X.env).names.all λq=>!(decide (q.2=.cell) || decide (q.2=.free)) || ((PP n scope.names cl).lookup q.1).isSome)=N7
 ix:((NY.zip idx).all λp=>match p.2 with
  |none=>N7
  |some i=>decide (X.N[i]?=gV p.1)&&(decide (X.env.kindOf p.1=gV .cell) || decide (X.env.kindOf p.1=gV .free))&&(decide ((S3 scope X.env).names.lookup p.1=gV .cell) || decide ((S3 scope X.env).names.lookup p.1=gV .free))&&(scope.names.all λq=>!decide (q.2=.cell) || !decide (q.1=p.1)))=N7
 len:idx.length=NY.length
 kind:scope.kind=.function
 names:∀y∈scope.names,y.2=.local->scope.names.lookup y.1=gV .local
theorem cN:∀N n C,PP n N C=PP n N []++C
 |[],_,_=>rfl
 |(x,k)::r,n,C=>by
  unfold PP
  split
  ·rw[cN r _<|(x,n)::C,cN r _ [(x,n)],O5];rfl
  exact cN r n C
theorem kC:∀{N:ab (Str×VN)} {n:Nat} {y:Str} {c:J'},(y,c)∈PP n N []->(y,TN)∈N
 |(x,k)::r,n,y,c,h=>by
  unfold PP at h
  split at h
  ·rw[cN]at h;obtain h|h:=OH.mp h
   ·exact Os _<|kC h
   simp_all
  exact Os _<|kC h
theorem m7(h:(PP n N C).lookup y=gV c):(y,c)∈PP n N []\/C.lookup y=gV c:=by
 rw[cN,Zt]at h;cases e:(PP n N []).lookup y with
 |some d=>
  rw[e]at h;cases h;exact .inl<|PL e
 |none=>
  rw[e]at h;exact .inr h
theorem BJ(h:∀q∈N,q.2=TN->q.1≠y):(PP n N c).lookup y=c.lookup y:=by
 rw[cN,Zt];cases e:(PP n N []).lookup y with
 |some d=>exact absurd rfl<|h _ (kC<|PL e) rfl
 |none=>rfl
theorem pG{M:nk}{A:Pw}{E:K'->Od->Prop}{s:Od}{a:Sx}{g:J'}{c:ab (Str×J')}{q:Str}{O:Env}{Q:Env->Od->Prop}
  (H:∀h',h'.Ns s.heap.objs.size (λz=>Oa)->(∀b o,s.heap.get? b=gV o->h'.get? b=gV o)->CellsOk h' (s.heap.objs.size+1) (PP (s.heap.objs.size+1) a.names [])->
   Q (newEnv a s.heap.objs.size g (PP (s.heap.objs.size+1) a.names c) q Oa .none (gV O) O.builtins) {s with heap:=h'}):
  wpAny M A (X5 a g c [] q Oa .none<|gV O) Q E s:=by
 refine B'<|wpAny_alloc<|B'<|wpAny_layCells _ (by simp) _ _ _ _ ?_;have ok:=cellsFrom_ok a.names (s.heap.push {cls:=.type "dict",data:=.dict #[]}) _ [] ⟨λz z m=>(nomatch m),Se⟩ (N' _);rw[Su]at ok;rw[Su ..];exact B'<|Of<|Of<|H _ ((Heap.Ns.new _<|.type _).keeps<|aaS _ _) (λb o e=>aaS _ _ b o<|Oj _ e) ok
noncomputable def BK(I:ab (M' Nat))(a:St):St:=I.map λo=>match o with
 |none=>Oa
 |some i=>(a[i]?).getD Oa
theorem CompSc.look(S:CompSc X s C N i)(n:Nat)(h:(S3 s X.env).names.lookup y=gV .cell\/(S3 s X.env).names.lookup y=gV .free):∃c,(PP n s.names C).lookup y=gV c:=by
 have m:∃k,(y,k)∈(S3 s X.env).names/\(k=.cell\/k=.free):=by
  obtain h|h:=h
  ·exact⟨_,PL h,.inl rfl⟩
  exact⟨_,PL h,.inr rfl⟩
 obtain⟨k,a,H⟩:=m;have q:=Pc.mp (S.c2 n) _ a;have e:(decide (k=TN) || decide (k=acq))=true:=by
  simp_all
 have Q:=q;rw[e]at Q;exact TU.mp Q
theorem BL{F:ab J'}{f:Pd}{m:Str->M' K'}{tk:Nat}(S:CompSc X d C NY l)(I:Inv X Og n H s)
  (B:∀b∈F,pE X Og H b) (r:∀b∈F,b<s.heap.objs.size) (G:f.Ns s.heap.objs.size m) (O:∀b o,s.heap.get? b=gV o->f.get? b=gV o) (D:CellsOk f (s.heap.objs.size+1) (PP (s.heap.objs.size+1) d.names [])):
  Inv (bY X d C NY s.heap.objs.size F s H) [] (BK l n) H {s with heap:=f,toks:=tk}:=by
 have hC:H _=none:=I.hok.fresh<|N' _;have J:∀{x:Str} {c:J'},C.lookup x=gV c->X.env.cells.lookup x=gV c:=λe=>S.all.look e;have L:∀{x:Str} {c:J'},X.env.cells.lookup x=gV c->c<s.heap.objs.size:=λ{x c} e=>by
  obtain⟨v,z⟩:=I.cell x c e;exact z.lt
 have t:∀{x:Str} {c:J'},(PP _ _ C).lookup x=gV c->((x,c)∈PP _ _ []/\s.heap.objs.size<c/\f.IsCell c Oa)\/(X.env.cells.lookup x=gV c/\c<s.heap.objs.size):=λ{x c} e=>by
  obtain h|h:=m7 e
  ·exact .inl ⟨h,(D.empty x c h).2,(D.empty x c h).1⟩
  exact .inr ⟨J h,L<|J h⟩
 have M:∀x y c,(PP _ _ C).lookup x=gV c->(PP _ _ C).lookup y=gV c->x=y:=λx y c N P=>by
  obtain a|a:=t N<;>obtain b|b:=t P
  ·exact ZL D.apart a.1 b.1
  ·exact absurd (VD a.2.1 b.2)<|Q6 _
  ·exact absurd (VD b.2.1 a.2)<|Q6 _
  exact I.ok.inj x y c a.1 b.1
 have ne:∀b∈F,∀x c,(PP _ _ C).lookup x=gV c->c≠b:=λb k x c e=>by
  obtain a|a:=t e
  ·exact R_<|VD (r b k) a.2.1
  exact(B b k).2.2.2.2.1 x c a.1
 have fr:∀x c,(PP _ _ C).lookup x=gV c->H c=none:=λx c e=>by
  obtain a|a:=t e
  ·exact I.hok.fresh<|Pu a.2.1
  exact I.freeC x c a.1
 have T:∀x c,(C.lookup x).isNone=N7->(PP _ _ C).lookup x=gV c->s.heap.objs.size<=c:=λx c hf e=>by
  obtain h|h:=m7 e
  ·exact Z4 (D.empty x c h).2
  rw[h]at hf;cases hf
 refine⟨⟨I.ok.mod,?_,I.ok.glob,I.ok.blt,N' _,M,λx hx=>S.look _ hx,T,I.ok.hd,I.ok.frames,.inl rfl,λb k=>⟨OQ<|r b k,ne b k⟩,
  I.bs,Pm I.ok.bsz I.sz,λb o e k=>?_,λb k U=>?_,I.stack,I.stkFree⟩,rfl,I.bare,Un.kept O,⟨m,G,λj y v N P h3=>?_⟩,λx c e=>?_,hC,fr,λp hp=>absurd (show p∈([]:ab _)from hp) (by simp),I.hok.kept O,?_⟩
 ·exact S.kind
 ·obtain z|z:=(B b k).2.2.2.1
  ·exact I.ok.noex b o e z
  exact absurd (Pe (OB e)<|Pm I.ok.bsz z)<|Q6 _
 ·obtain e|e:=OC.mp (I.stkSub b U)
  ·exact(B b k).2.1 e
  exact(B b k).2.2.1 e
 ·
  have g:(BK l n)[j]?=gV _:=P;unfold BK at g;rw[Ow]at g;cases W:l[j]? with
  |none=>rw[W]at g;cases g
  |some o=>
   rw[W]at g;cases o with
   |none=>cases g
   |some i=>
    have E:(n[i]?).getD Oa=gV v:=by simpa using g
    have e4:n[i]?=gV (gV v):=by
     cases q:n[i]? with
     |none=>rw[q]at E;cases E
     |some z=>
      rw[q]at E;exact Pa gV E
    have U:(NY.zip l)[j]?=gV (y,gV i):=by
     rw[V5];exact⟨N,W⟩
    have q:=Pc.mp S.ix _<|N5 U;have q':(decide _&&(decide (X.env.kindOf y=gV _) || decide (X.env.kindOf y=gV _))&&(decide ((S3 d _).names.lookup y=gV _) || decide ((S3 d _).names.lookup y=gV _))&&(d.names.all λq=>!decide _ || !decide (q.1=y)))=true:=q;rw[Pj,Pj,Pj,Q1,Q1]at q';obtain⟨⟨⟨q1,q2⟩,q3⟩,q4⟩:=q';have q5:∀q∈d.names,q.2=TN->q.1≠y:=λq hq e1 e2=>by
     have:=Pc.mp q4 q hq;rw[On e1,On e2]at this;cases this
    have Y:=OO q1;have Q:X.env.kindOf y=gV _\/X.env.kindOf y=gV _:=q2.elim (λz=>.inl<|OO z) λz=>.inr<|OO z;have w:(S3 d _).names.lookup y=gV _\/(S3 d _).names.lookup y=gV _:=q3.elim (λz=>.inl<|OO z) λz=>.inr<|OO z;obtain⟨mX,V,hl⟩:=I.loc;obtain⟨u,ru,lk⟩:=hl i y v Y e4<|.inr Q;refine⟨u,ru,.inr ⟨w,?_⟩⟩;obtain⟨c,A⟩:=S.look (s.heap.objs.size+1) w;have hc:=A;rw[BJ q5]at hc;obtain⟨hk,V⟩|⟨V,c',XW,Z⟩:=lk
    ·obtain z|z:=Q
     ·rw[hk]at z;cases z
     rw[hk]at z;cases z
    have e5:=J hc;rw[XW]at e5;cases e5;obtain⟨oc,ho,hd⟩:=Z;exact⟨_,A,oc,O _ _ ho,hd⟩
 ·obtain a|a:=t e
  ·exact⟨Oa,a.2.2⟩
  obtain⟨v,oc,ho,hd⟩:=I.cell x c a.1;exact⟨v,oc,O _ _ ho,hd⟩
 unfold BK;rw[A'];exact S.len
def JQ(Y:Cx)(i:ab PD)(t:TT):Prop:=
 ∀(O:ab (J'×Obj)) (s:Od) (a:St) (H:Hp) (Q:Oe->Hp->Prop),Inv Y O a H s->t a H Q->
  wpAny (OS Y.prog Y.w) Y.A (forIn i N7 λc r=>if r=N7 then do let ok <-isTrue c Y.env<|QA c Y.env;pure (T5 ok)else pure (T5 r)) (TP Y O a Q) Y.xe s
def KZ:TT:=λ_ H Q=>Q N7 H
theorem bV{A B:St->Hp->Prop}(h:A (c.set i<|gV x) H):dH i x c H (λa e=>KZ a e λb d=>if b=N7 then A a d else B a d):=by
 assumption
theorem iy:JQ Y [] KZ:=λO s a H Q I h=>wpAny_tests_nil ⟨H,I,h⟩
theorem cI(h:PT Y c t):JQ Y [c] t:=λO s a H Q I w=>wpAny_tests_one<|h O s a H Q I w
def gQ(J:It)(D:J')(g:TG)(t:TT)(T:TE)(e:St)(n:Hp)(Q:VK):Prop:=
 ∃W:Nat->Nat->St->ab V->Hp->Prop,(∃m,W 0 m e []<|upd n D<|.lst [])/\∀i m f Y H,W i m f Y H->H D=gV (.lst Y)/\
  ((J.stop i H/\Q (.ref D) H)\/(J.go i H/\∃N:St->ab V->Hp->Prop,(∀c d h,N c d h->∃M,M<m/\W (i+1) M c d h)/\
   ∀x j,J.yld i H x j->g x f j λa o=>t a o λb k=>if b=N7 then T a k λy l=>l D=gV (.lst Y)/\Y.length<sizeLine/\N a (Y++[y]) (upd l D<|.lst<|Y++[y])else N a Y k))
def tV(i:ab (M' Nat))(w:TI)(g:TG)(t:TT)(T:TE):TE:=λa H Q=>w a H λJ h=>∀D,h D=Oa->gQ J D g t T (BK i a) h Q
section
variable {R:lA->Od->Prop}
theorem g9{q F i:PD}{u:ab PD}{a:Sx}{P:Pos}{G J:K'}{e:Env}(I:Nat->Od->Prop)
  (L:∀n s,I n s->wpAny (OS p w) A (UT G) (λr b=>match r with
   |none=>R (.ok .next) b
   |some v=>wpAny (OS p w) A (Ve F G v) (λ_ f=>wpAny (OS p w) A (oa F e v) (λ_ g=>
     wpAny (OS p w) A (forIn u N7 λc r=>if r=N7 then do let ok <-isTrue c e<|QA c e;pure (T5 ok)else pure (T5 r)) (λok d=>
      if ok=N7 then wpAny (OS p w) A (QA q e) (λx j=>
       wpAny (OS p w) A (call (.builtin "list.append") [J,x]) (λ_ k=>∃m,m<n/\I m k) (λ_ _=>False) j) (λ_ _=>False) d
      else∃m,m<n/\I m d) (λ_ _=>False) g) (λ_ _=>False) f) (λ_ _=>False) b) (λ_ _=>False) s)
  (n:Nat) (h:I n s):
  codeAny (OS p w) A (.compLoop (.ListComp q [⟨F,i,u,0⟩] a P) 0 G J e) R s:=by
 refine codeAny_loop rfl I (λn s N=>?_) n h;show wpAny _ A _ _ _ s
 refine wpAny_noted ?_;rw[compTurn_list];refine B'<|Yf<|B'<|Qx (L n s N) (λr b l=>?_) λ_ _ H=>H.elim;cases r with
 |none=>exact Of l
 |some v=>
  refine B'<|Qx l (λ_ f y=>B'<|Qx y (λ_ g B=>B'<|Qx B (λok d o=>?_) λ_ _ H=>H.elim) λ_ _ H=>H.elim) λ_ _ H=>H.elim;cases ok with
  |false=>exact Of ⟨rfl,o⟩
  |true=>
   exact B'<|B'<|Qx o (λx j C=>B'<|Qx C (λ_ k D=>Of<|Of ⟨rfl,D⟩) λ_ _ H=>H.elim) λ_ _ H=>H.elim
end
structure CompEnd (X:Cx)(Og:ab (J'×Obj))(σ:St)(H:Hp)(C:J')(s:Od):Prop where
 inv:Inv X Og σ H s
 ns:∃m,s.heap.Ns C m
 free:H C=Oa
 loc:C≠X.env.locals
 young:X.s₀.heap.objs.size<=C
 cells:∀x c,X.env.cells.lookup x=gV c->c≠C
 pin:∀p∈X.pn++Og,p.1≠C
theorem CompEnd.gone(e:CompEnd X O a H C s)(h:RK C s.heap h'):Inv X O a H {s with heap:=h'}:=
 e.inv.turned (λb o c q=>(h.2 b c).trans q) e.free e.loc (.inr e.young) e.cells e.pin
theorem tX{Og:ab (J'×Obj)}{σ:St}{H:Hp}{s:Od}{Q:VK}{RR:K'->J'->lA->Od->Prop}(an:X.calm=N7)(S:CompSc X a G Y bc)(hi:PI X Sz L wi)
  (hg:∀C F w A,PG (bY X a G Y C F w A) Sz g) (ht:∀C F w A,JQ (bY X a G Y C F w A) as tt) (he:∀C F w A,PE (bY X a G Y C F w A) av te)
  (I:Inv X Og σ H s) (h:tV bc wi g tt te σ H Q)
  (bd:∀D C B s',CompEnd X Og σ B C s'->Q (.ref D) B->RR (.ref D) C (.ok .next) s'):
  wpAny (OS X.prog X.w) X.A (QA L X.env) (λx az=>wpAny (OS X.prog X.w) X.A (X4 x) (λit aC=>wpAny (OS X.prog X.w) X.A (newList []) (λRC aF=>
   wpAny (OS X.prog X.w) X.A (X5 a X.env.globals G [] X.env.qual Oa .none<|gV X.env) (λaL a0=>
    codeAny (OS X.prog X.w) X.A (.compStart (.ListComp av [⟨Sz,L,as,0⟩] a bf) 0 it RC {aL with scope:=S3 a X.env}) (RR RC aL.locals) a0) X.xe aF) X.xe aC) X.xe az) X.xe s:=by
 refine bL (hi Og s σ H _ I h) λv s1 h1=>bL h1 λcf f h2=>?_;obtain⟨it,F,tn,J,O,e,I2,T,Sj,f2,r2⟩:=h2;subst e;have hD:O f.heap.objs.size=none:=I2.hok.fresh<|N' _;have r3:=r2 f.heap.objs.size hD;have I3:Inv X Og σ (upd O f.heap.objs.size<|.lst []) {f with heap:=f.heap.push {cls:=.type "list",data:=.seq ([]:ab K').toArray}}:=
  I2.laid (t':=f.toks) (λb u q=>Oj _ q) (N' _) ⟨OG _,[],0,.nil,OT _ rfl⟩
 refine Qg<|pG λl a1 a2 S_=>?_;dsimp only at a1 a2 S_ ⊢;have a3:∀b∈F,b<f.heap.objs.size:=λb j=>by
  obtain⟨o,q,_⟩:=T.obj 0 _ Sj b j;exact OB q
 have bg:∀b∈F,b≠f.heap.objs.size:=λb j=>OQ<|a3 b j;have f3:∀b∈F,pE X Og (upd O f.heap.objs.size<|.lst []) b:=λb j=>⟨by rw[ag<|bg b j];exact(f2 b j).1,(f2 b j).2⟩;generalize a4:({f with heap:=f.heap.push {cls:=.type "list",data:=.seq ([]:ab K').toArray}}:Od)=k at I3;have E:k.heap=f.heap.push {cls:=.type "list",data:=.seq ([]:ab K').toArray}:=by rw[<-a4]
 have a5:∀b∈F,b<k.heap.objs.size:=λb j=>by
  rw[E,Su];exact QT<|a3 b j
 have bk:l.Ns k.heap.objs.size (λ_=>Oa):=by rw[E];exact a1
 have a6:∀b o,k.heap.get? b=gV o->l.get? b=gV o:=λb o q=>by
  rw[E]at q;exact a2 b o q
 have bl:CellsOk l (k.heap.objs.size+1) (PP (k.heap.objs.size+1) a.names []):=by rw[E];exact S_
 have Z9:tn 0 l:=T.keep _ _ _ Sj λb j o q=>a6 b o (by rw[E];exact Oj _ q);have P:=BL (tk:=f.toks) S I3 f3 a5 bk a6 bl;have e4:({k with heap:=l,toks:=f.toks}:Od)={f with heap:=l,toks:=f.toks}:=by rw[<-a4]
 rw[e4]at P;have eC:k.heap.objs.size=(f.heap.push {cls:=.type "list",data:=.seq ([]:ab K').toArray}).objs.size:=by rw[E]
 have bm:k.heap.get? k.heap.objs.size=none:=Yc<|N' _;obtain⟨W,⟨m0,w0⟩,br⟩:=r3;have bs:∀s4,s4={f with heap:=l,toks:=f.toks}->
   codeAny (OS X.prog X.w) X.A (.compLoop (.ListComp av [⟨Sz,L,as,0⟩] a bf) 0 (.ref it) (.ref f.heap.objs.size)<|VH a (PP (k.heap.objs.size+1) a.names G) k.heap.objs.size X.env) (RR (.ref f.heap.objs.size) k.heap.objs.size) s4:=by
  rintro s4 rfl;have ac:∀{B:Hp},(∀b∈F,B b=Oa)->∀b∈F,pE (bY X a G Y k.heap.objs.size F k<|upd O f.heap.objs.size<|.lst []) [] B b:=λ{B} hn b j=>
   ⟨hn b j,OQ<|a5 b j,(λz=>(P.ok.exfs b j) z),.inl j,λx c e=>(P.ok.exf b j).2 x c e,λp hp=>absurd (show p∈([]:ab (J'×Obj))from hp)<|by simp⟩
  refine g9 (λn s'=>∃i M ys B,Inv (bY X a G Y k.heap.objs.size F k<|upd O f.heap.objs.size<|.lst []) [] M B s'/\tn i s'.heap/\(∀b∈F,B b=Oa)/\W i n M ys B) ?_ m0
   ⟨0,_,[],_,P,Z9,λb j=>(f3 b j).1,w0⟩
  rintro n s5 ⟨i,U,ys,H5,I5,a7,a8,w5⟩;obtain⟨ch,bt⟩:=br i n U ys H5 w5;obtain⟨a9,qn⟩|⟨go,N,hN,step⟩:=bt
  ·refine bL (T.done (bY X a G Y k.heap.objs.size F k<|upd O f.heap.objs.size<|.lst []) rfl rfl rfl an i [] s5 U H5 (λ_ _=>False) I5 (ac a8) a7 a9) λr s6 R=>?_;obtain⟨hr,I6⟩:=R;subst hr;have I7:Inv X Og σ H5 s6:=I3.call' (a:=s6) (ch:=F) I6.os I6.base I6.hok I6.bare λb j=>⟨(f3 b j).2.2.2.1,(f3 b j).2.1,(f3 b j).2.2.2.2.1,(f3 b j).2.2.2.2.2⟩;refine bd _ _ H5 s6 ⟨I7,?_,I6.free,R_ I3.lt,I3.sz,λx c e=>?_,λp hp z=>?_⟩ qn
   ·obtain⟨m,hn,_⟩:=I6.loc;exact⟨m,hn⟩
   ·obtain⟨v,q⟩:=I3.cell x c e;exact OQ q.lt
   have q:=(I3.pin p hp).1;rw[z,bm]at q;cases q
  refine bL (T.item (bY X a G Y k.heap.objs.size F k<|upd O f.heap.objs.size<|.lst []) rfl rfl rfl an i [] s5 U H5 (λ_ _=>False) I5 (ac a8) a7 go) λr s6 K=>?_;obtain⟨u,hr,h6⟩:=K;subst hr;refine bL h6 λ_ s7 hz=>?_;obtain⟨x,H7,I7,r7,y7,am,b0⟩:=hz;have b1:=I7.pinned (ac b0)<|T.obj _ _ am;have ba:∀{t:St} {Z:ab V} {H8:Hp} {s8:Od},Inv (bY X a G Y k.heap.objs.size F k<|upd O f.heap.objs.size<|.lst []) ([]++mM F _) t H8 s8->N t Z H8->
    ∃m,m<n/\∃i M ys B,Inv (bY X a G Y _ F k<|upd O _<|.lst []) [] M B s8/\tn i _/\(∀b∈F,B b=Oa)/\W i m M ys B:=λ{t Z H8 s8} I8 n8=>by
   obtain⟨m',hm,w8⟩:=hN t Z H8 n8;refine⟨m',hm,i+1,t,Z,H8,I8.unpinned,T.keep _ _ _ am λb j o e=>(I8.pin _<|Pn _<|Pn _<|gz j e).1,λb j=>?_,w8⟩;obtain⟨o,e,d⟩:=T.obj _ _ am b j;exact(I8.pin _<|Pn _<|Pn _<|gz j e).2.1
  refine bL (hg _ _ _ _ _ s7 U H7 x u _ b1 r7<|step x H7 y7) λ_ s8 hv=>?_;obtain⟨t,H8,I8,q8⟩:=hv;refine bL (ht _ _ _ _ _ s8 t H8 _ I8 q8) λok s9 hy=>?_;obtain⟨H9,I9,q9⟩:=hy;cases ok with
  |false=>exact ao<|ba I9 q9
  |true=>
   refine aq<|bL (he _ _ _ _ _ s9 t H9 _ I9 q9) λy b2 hx=>?_;obtain⟨yv,bb,b3,b4,b5,b6,cc⟩:=hx;refine bL (dz _ b2 t bb (.ref _) _ (.ref _) [y] (λv B=>v=.non/\B=upd bb _ _) b3 rfl (.cons b4 .nil) ⟨_,ys,yv,rfl,rfl,b5,b6,rfl,rfl⟩) λ_ ck hw=>?_;obtain⟨_,co,cd,_,_,ce⟩:=hw;subst ce;exact ba cd cc
 have L1:=bs _ rfl;rw[eC]at L1;exact codeAny_compStart_list L1<|T.self _ 0 _ _ _ Z9 L1
theorem jx(A:X.calm=N7)(S:CompSc X a l N d)(n:PI X z i w)(o:∀C f b c,PG (bY X a l N C f b c) z g)(t:∀C f b c,JQ (bY X a l N C f b c) j T)
  (p:∀C f b c,PE (bY X a l N C f b c) E r) (u:∀x,R6 i X.env x=pure x:=by intro Z;rfl):PE X (.ListComp E [⟨z,i,j,0⟩] a P) (tV d w g T r):=by
 intro O s v H Q I h;refine Wu rfl u S.clos S.kind S.names ?_;refine tX (RR:=λy C=>compPost _ X.A _ Oa _ y C) A S n o t p I h ?_;intro D C B G e q;obtain⟨m,F⟩:=e.ns;exact⟨m,F,λJ k=>⟨.ref D,B,e.gone k,rfl,q⟩⟩
def tY(i:Nat)(t:TE):TS:=λD a H=>t a H λv h=>D.nx (a.set i<|gV v) h
theorem we{T A:Pos}(Q:X.N.Nodup)(U:X.N[i]?=gV x)(M:X.env.scope.names.lookup x=gV .local)(t:X.calm=N7)(S:CompSc X b u Y v)(W:PI X o r Z)
  (hg:∀C F c d,PG (bY X b u Y C F c d) o g) (ht:∀C F c d,JQ (bY X b u Y C F c d) k tt) (he:∀C F c d,PE (bY X b u Y C F c d) E te)
  (w:VG (.ListComp E [⟨o,r,k,0⟩] b p) (gV<|.Name x T) A.line X.env=pure N7) (hs:∀x,R6 r X.env x=pure x:=by intro f;rfl):
  PS X (.Assign [.Name x T] (.ListComp E [⟨o,r,k,0⟩] b p) A) (tY i<|tV v Z g tt te):=by
 intro O s σ H D I h;rw[exec_Assign_Name_used _ _ _ _ w];refine B'<|Yf<|B' ?_;show wpAny _ X.A (do let _ <-comprehension _ b _ _ _ Oc _<|gV<|oa _ _) _ _ s
 refine B'<|Qx (Wu rfl hs S.clos S.kind S.names ?_) (λf l hq=>Of<|Of hq) λf f e=>e;refine tX (RR:=λRC C=>compPost _ X.A _ _ _ RC C) t S W hg ht he I h ?_;intro y C j l e q;refine ZH<|pQ e.inv Q U (.inl M) (v:=.ref y) rfl (λB G sb=>?_)<|.inr M;obtain⟨a,n,J⟩:=sb;have N:C≠a:=by
  obtain rfl|J:=J
  ·exact e.loc
  exact λz=>e.cells _ _ J z.symm
 obtain⟨m,P⟩:=e.ns;have e2:CompEnd X O _ j C B:=⟨G,⟨m,P.sameBut n N⟩,e.free,e.loc,e.young,e.cells,e.pin⟩;exact⟨m,P.sameBut n N,λh' L=>⟨_,j,e2.gone L,q⟩⟩
section
variable {K:C'}{a D:J'}{xs:ab V}{g:TG}{tt:TT}{te:TE}{σ0:St}{H1:Hp}{Q:VK}
theorem bv(Pv:Nat->St->ab V->Hp->Prop)(j:Pv 0 σ0 [] (upd H1 D<|.lst []))(k:∀i c Y H,i<=xs.length->Pv i c Y H->H D=gV (.lst Y)/\SqL K H a xs)
  (s:∀i x c Y H,xs[i]?=gV x->Pv i c Y H->g x c H λd l=>tt d l λb h=>if b=N7 then te d h λy f=>f D=gV (.lst Y)/\Y.length<sizeLine/\Pv (i+1) d (Y++[y]) (upd f D<|.lst<|Y++[y])else Pv (i+1) d Y h)
  (n:∀c Y H,Pv xs.length c Y H->Q (.ref D) H):gQ (E7 K a) D g tt te σ0 H1 Q:=by
 exists λi m c Y H=>m=xs.length-i/\i<=xs.length/\Pv i c Y H,⟨xs.length,by simp,OG _,j⟩;rintro i m c Y H ⟨rfl,o,p⟩;obtain⟨t,q⟩:=k i c Y H o p;exists t;by_cases r:i<xs.length
 ·refine .inr ⟨⟨xs,xs[i],q,by simp⟩,Pv<|i+1,λu v w P=>⟨xs.length-(i+1),ip r (Tq _),rfl,r,P⟩,λx w y=>?_⟩;obtain⟨e,y⟩:=y;subst e;exact s i x c Y _ (y xs q) p
 have e:i=xs.length:=h7 o (hJ r)
 subst e;exact .inl ⟨⟨xs,q,N' _⟩,n c Y H p⟩
theorem tZ(Pv:Nat->St->ab V->Hp->Prop)(j:Pv 0 σ0 [] (upd H1 D<|.lst []))(k:∀i c Y H,i<=xs.length->Pv i c Y H->H D=gV (.lst Y)/\SqT K H a xs)
  (s:∀i x c Y H,xs[i]?=gV x->Pv i c Y H->g x c H λd l=>tt d l λb h=>if b=N7 then te d h λy f=>f D=gV (.lst Y)/\Y.length<sizeLine/\Pv (i+1) d (Y++[y]) (upd f D<|.lst<|Y++[y])else Pv (i+1) d Y h)
  (n:∀c Y H,Pv xs.length c Y H->Q (.ref D) H):gQ (Jc K a) D g tt te σ0 H1 Q:=by
 exists λi m c Y H=>m=xs.length-i/\i<=xs.length/\Pv i c Y H,⟨xs.length,by simp,OG _,j⟩;rintro i m c Y H ⟨rfl,o,p⟩;obtain⟨t,q⟩:=k i c Y H o p;exists t;by_cases r:i<xs.length
 ·refine .inr ⟨⟨xs,xs[i],q,by simp⟩,Pv<|i+1,λu v w P=>⟨xs.length-(i+1),ip r (Tq _),rfl,r,P⟩,λx w y=>?_⟩;obtain⟨e,y⟩:=y;subst e;exact s i x c Y _ (y xs q) p
 have e:i=xs.length:=h7 o (hJ r)
 subst e;exact .inl ⟨⟨xs,q,N' _⟩,n c Y H p⟩
theorem eh{lo:Int}(Pv:Nat->St->ab V->Hp->Prop)(j:Pv 0 σ0 [] (upd H1 D<|.lst []))(k:∀i c Y H,i<=n->Pv i c Y H->H D=gV (.lst Y))
  (s:∀i c Y H,i<n->Pv i c Y H->g (.int<|lo+i) c H λd l=>tt d l λb h=>if b=N7 then te d h λy f=>f D=gV (.lst Y)/\Y.length<sizeLine/\Pv (i+1) d (Y++[y]) (upd f D<|.lst<|Y++[y])else Pv (i+1) d Y h)
  (q:∀c Y H,Pv n c Y H->Q (.ref D) H):gQ (Fi lo n) D g tt te σ0 H1 Q:=by
 exists λi m c Y H=>m=n-i/\i<=n/\Pv i c Y H,⟨n,by simp,OG _,j⟩;rintro i m c Y H ⟨rfl,o,p⟩;exists k i c Y H o p;by_cases r:i<n
 ·refine .inr ⟨r,Pv<|i+1,λt u v P=>⟨n-(i+1),ip r (Tq _),rfl,r,P⟩,λx v y=>?_⟩;obtain⟨e,y⟩:=y;subst e y;exact s i c Y _ r p
 have e:i=n:=h7 o (hJ r)
 subst e;exact .inl ⟨N' _,q c Y H p⟩
end
theorem wf:∀{us:ab K'},Vals (ss.map V.str) us->StrsAre us ss:=by
 induction ss with
 |nil=>intro us r;cases r;exact .nil
 |cons n ns ih=>
  intro us r;cases r with
  |cons r1 r2=>
   obtain⟨t,e⟩:=r1;subst e;exact .cons n t<|ih r2
theorem FO:MN X "str.join" (λx b H Q=>∃a p y,x=.str a/\b=[.ref p]/\SqL X.K H p (y.map V.str)/\(y.map (·.length)).sum+y.length*a.length<=16777216/\Q (.str<|ZR a y) H):=by
 intro O s g H x b v U Q I c d h;obtain⟨a,p,y,rfl,rfl,e,z,q⟩:=h;obtain⟨t,rfl⟩:=c;obtain⟨u,rfl,f⟩:=eV d;cases f;obtain⟨i,r,P,w⟩:=I.list e;exact join_list P.isList (by simpa using wf r) z λT k=>⟨.str _,H,I.tok _,⟨_,rfl⟩,q⟩
noncomputable def rB:V->Oe
 |.bl _=>N7
 |.non=>N7
 |_=>Oc
noncomputable def gG:V->Oe
 |.bl b=>b
 |_=>Oc
theorem xE(r:Vals Y P)(H:Y.all rB=N7):TruthOf p w A (λi v=>P.toArray[i]?=gV v) (λi=>(Y[i]?).elim Oc gG):=by
 intro i v s Q E c q;have Z:P[i]?=gV v:=by simpa using c
 cases e:Y[i]? with
 |none=>
  rw[r.none_of e]at Z;cases Z
 |some y=>
  obtain⟨u,d,a⟩:=r.get e;rw[d]at Z;cases Z;have h:Q ((Y[i]?).elim Oc gG) s:=q;rw[e]at h;have f:=Pc.mp H y<|N5 e;cases y with
  |bl b=>
   cases a;exact Qf h
  |non=>
   cases a;exact truthy_none h
  |_=>cases f
theorem zG(Y:ab V):(O7 Y.length).any (λi=>(Y[i]?).elim Oc gG)=Y.any gG:=by
 rw[Qe];simp only[O9,PY];constructor
 ·rintro⟨i,H,h⟩;exists Y[i],Q4 H;simpa[H]using h
 rintro⟨y,a,h⟩;obtain⟨i,H,rfl⟩:=Sm a;exact⟨i,H,by simp_all⟩
theorem zH(Y:ab V):(O7 Y.length).all (λi=>(Y[i]?).elim Oc gG)=Y.all gG:=by
 rw[Qe];simp only[Pc,PY];constructor
 ·intro h y a;obtain⟨i,H,rfl⟩:=Sm a;simpa[H]using h i H
 simp_all
theorem m9(c:X.calm=N7):fk X (.builtin "any") (λx H Q=>∃p y,x=[.ref p]/\SqL X.K H p y/\y.all rB=N7/\Q (.bl<|y.any gG) H):=by
 intro O s t H x U Q I r h;obtain⟨p,y,rfl,a,d,q⟩:=h;obtain⟨u,rfl,f⟩:=eV r;cases f;obtain⟨P,v,g,z⟩:=I.list a;have l:=g.isList;obtain⟨o,j,Z⟩:=id l;have k:=OB j;refine call_any_walk<|S2 l<|⟨s.heap.objs.size,_,_,_,_,_,_,rfl,W5 (A:=X.A.in1) (I.ok.hd c) _ p (OQ k) _,⟨⟨_,OT _ rfl,rfl,rfl⟩,l.push _⟩,xE v d,λw T m=>?_⟩;have e:(O7 P.toArray.size).any (λi=>(y[i]?).elim Oc gG)=y.any gG:=by
  rw[OA,<-v.length];exact zG y
 rw[e];refine⟨.bl _,H,I.kept λb o e=>m b o ?_<|Oj _ e,rfl,q⟩;intro n;exact absurd (Oi.mp n)<|OQ<|OB e
theorem g_(c:X.calm=N7):fk X (.builtin "all") (λx H Q=>∃p y,x=[.ref p]/\SqL X.K H p y/\y.all rB=N7/\Q (.bl<|y.all gG) H):=by
 intro O s t H x U Q I r h;obtain⟨p,y,rfl,a,d,q⟩:=h;obtain⟨u,rfl,f⟩:=eV r;cases f;obtain⟨P,v,g,z⟩:=I.list a;have l:=g.isList;obtain⟨o,j,Z⟩:=id l;have k:=OB j;refine call_all_walk<|S2 l<|⟨s.heap.objs.size,_,_,_,_,_,_,rfl,W5 (A:=X.A.in1) (I.ok.hd c) _ p (OQ k) _,⟨⟨_,OT _ rfl,rfl,rfl⟩,l.push _⟩,xE v d,λw T m=>?_⟩;have e:(O7 P.toArray.size).all (λi=>(y[i]?).elim Oc gG)=y.all gG:=by
  rw[OA,<-v.length];exact zH y
 rw[e];refine⟨.bl _,H,I.kept λb o e=>m b o ?_<|Oj _ e,rfl,q⟩;intro n;exact absurd (Oi.mp n)<|OQ<|OB e
theorem m_:∀(l:ab K') (s:ab Int),l.length=s.length->(∀(i:Nat) (v:K'),l[i]?=gV v->∃(k:Int) (t:Tok),s[i]?=gV k/\v=.int k t)->Sk l s
 |[],[],_,_=>.nil
 |[],_::_,h,_=>by cases h
 |_::_,[],h,_=>by cases h
 |v::l,k::s,h,f=>by
  obtain⟨a,t,E,b⟩:=f 0 v rfl;have e:=Oy E;subst e b;exact .cons k t (m_ l s (by simpa using h) λi u H=>f (i+1) u<|by assumption)
theorem t4{a:Type}:∀{k:ab (a×V)} {v:ab (a×K')} {i:Nat} {q:a×K'},KV k v->v[i]?=gV q->∃p,k[i]?=gV p/\p.1=q.1/\RelV p.2 q.2:=by
 intro k v i q h e;change Paired _ _ _ at h;induction h generalizing i with
 |nil=>cases e
 |cons r t j=>
  cases i with
  |zero=>have E:=Oy e;subst E;exact⟨_,rfl,r.1,r.2⟩
  |succ i=>exact j e
theorem t5(hc:X.calm=N7):fk X (.builtin "sorted") (λF H Q=>∃p a d,F=[.ref p]/\H p=gV (.dK a)/\a.map (·.1)=d.map Pb/\d.length<64/\
  ∀l E,H l=Oa->Tv E d->RP (·<=·) E->Q (.ref l) (upd H l<|.lst<|wh V.int E)):=by
 intro G s J H F us Q I r h;obtain⟨p,a,d,rfl,hp,M,ac,q⟩:=h;obtain⟨u,rfl,ru⟩:=eV r;cases ru;obtain⟨z,hd,f,W,dd⟩:a.length<=sizeLine/\(p == Q2)=Oc/\∃f,KV a f/\s.heap.DictOf (aZ X.prog X.w) p f:=I.hok p _ hp;obtain⟨ep,j⟩:=dd.dictAt;have Ql:a.length=f.length:=Paired.length W;have am:d.length=a.length:=by
  have e:=Pa Qw M;rw[A',A']at e;exact e.symm
 refine Tw Yl Xb Xd (Z0 _) ?_;unfold Builtin.«sorted»;refine B' (m:=Y' "sorted" 1 1 _)<|Of ?_;refine B'<|Vo (A:=X.A.in1) (aaj (knd:=aZ X.prog X.w) hd) (I.ok.hd hc) j (by simp_all) λc T C m A=>?_;have N:C.toList.length=f.length:=by exact A.1
 have w:Sk C.toList d:=by
  refine m_ _ _ (by simp_all) λi v hv=>?_;obtain⟨k,x,hx,y⟩:=A.2 i v (by simp_all);obtain⟨q1,B,D,S⟩:=t4 W hx;have g:(a.map (·.1))[i]?=gV k:=by rw[Ow,B];exact Pa gV D
  rw[M,Ow]at g;cases P:d[i]? with
  |none=>simp_all
  |some n=>
   rw[P]at g;have e3:(Pb n)=k:=Oy g;subst e3;obtain⟨t,et⟩:=R7 y;exact⟨n,t,rfl,et⟩
 refine B' (U6 ?_<|by simp_all);have U:Inv X G J H {s with heap:=c,toks:=T}:=I.kept m;have L:(c.push<|Qs "list" C.toList.toArray 0).get? _=gV (Qs _ _ 0):=OT _ rfl;refine B'<|Qb<|Rl Yh ⟨_,L,rfl⟩ Xz (list_sort_tree L w (by simp_all) λO E a1 Y a3=>⟨_,rfl,Of ⟨_,rfl,?_⟩⟩)<|abJ _;have hn:=U.hok.fresh<|N' _;obtain⟨e,he⟩:=acI L;have I2:Inv X G J (upd H c.objs.size<|.lst<|E.map V.int) {s with heap:=zz (c.push<|Qs "list" C.toList.toArray 0) c.objs.size C.toList O,toks:=T}:=by
  refine U.laid (λb o Z=>?_) (N' _) ?_
  ·have hb:=OB Z;rw[abF (OQ hb)<|by rw[Zi];exact QT hb];exact Oj _ Z
  refine⟨?_,O.toList,e,?_,?_⟩
  ·rw[A',Y.length_eq];simp_all
  ·exact iu a1
  assumption
 exact⟨.ref _,_,I2,rfl,q _ E hn Y a3⟩
noncomputable def JR(K:C')(a:J'):It:=
 ⟨λi H=>∃X x,SqL K H a X/\X[i]?=gV x,λi H x h=>∃t v,H t=Oa/\x=.ref t/\h=upd H t (.tup [.int i,v])/\∀X,SqL K H a X->X[i]?=gV v,λi H=>∃X,SqL K H a X/\X.length<=i⟩
theorem zI{P:Ou}{w:ON}{K:C'}{J:ab PD}{k1:Nat}{L:Pos}(a e t:J')(U5:e≠t):vI P w K (.Tuple J k1 L) (JR K a) [e,t] e (λi h=>(∃O,IsEnum h e t i O)/\h.IsListIter t a i) where
 mem:=by simp
 obj:=λi h st b f=>by
  obtain⟨⟨O,g⟩,o,j,V,M⟩:=st;obtain rfl|f:=OC.mp f
  ·exact⟨_,g,λv z=>by
    simp_all⟩
  have e:b=t:=Oi.mp f;subst e;exact⟨o,j,λv z=>by lia⟩
 keep:=λi h h' st k=>by
  obtain⟨⟨O,g⟩,j⟩:=st;exact⟨⟨O,k e (by simp) _ g⟩,j.at λo e=>k t (by simp) o e⟩
 item:=by
  intro X Q T U d i Og s σ H E I B st W;subst Q T U;obtain⟨xs,x,F,Y⟩:=W;obtain⟨P9,Z,p,hz⟩:=I.list F;obtain⟨u,hu,ru⟩:=Z.get Y;obtain⟨⟨O,g⟩,j⟩:=st;obtain⟨f0,f1,f2,f3,f4,f5⟩:=B e (by simp);obtain⟨g0,G,g2,g3,g4,g5⟩:=B t (by simp);refine wpAny_pyNext_enum_item g j p.isList (x:=u) (by simp_all) U5 λh' ho ac ht as hk=>?_;refine⟨_,rfl,wpAny_letOwnedTupleGo_enum ho λl am A=>?_⟩;have C:e<s.heap.objs.size:=OB g;have V2:t<s.heap.objs.size:=by
   obtain⟨o,q,V⟩:=j;exact OB q
  have y:∀b o,b≠e->b≠t->s.heap.get? b=gV o->l.get? b=gV o:=λb o h3 M q=>A.extBut b o h3<|hk b o h3 M q;have I1:Inv X Og σ (upd H s.heap.objs.size<|.tup [.int i,x]) {s with heap:=l,toks:=s.toks+1}:=by
   have D:H s.heap.objs.size=none:=I.hok.fresh<|N' _;have an:l.get? s.heap.objs.size=gV {cls:=.type "tuple",data:=.seq #[.int i s.toks,u]}:=A.extBut _ _ (R_ C) ht;have N:∀b o,H b=gV o->b≠e/\b≠t:=λb o q=>(by lia);refine I.step (g':=s.gens) (d':=s.drawn) (t':=s.toks+1) (ch:=[e,t]) (λb f=>?_) (λb o V V d q V=>?_) (λb o V V d q V=>⟨o.slots,?_⟩) (λb o V q n=>?_) (λb o d q=>⟨o,?_⟩) (λb ys q=>?_) (λb ob ys q=>?_) (λb ps q=>⟨#[],?_⟩) (λm hm=>?_) (λb ob q=>?_) I.bare
   ·obtain rfl|f:=OC.mp f
    ·exact⟨f3,f1,f4,f5⟩
    have z:b=t:=Oi.mp f;subst z;exact⟨g3,G,g4,g5⟩
   ·simp_all
   ·simp_all
   ·rw[ag<|OQ<|OB q];exact n
   ·simp_all
   ·rw[ag<|af q D];exact q
   ·rw[ag<|af q D];exact q
   ·rw[ag<|af q D,q];simp
   ·obtain⟨o,J,ep,ho,r⟩:=hm;exact⟨o,J,ep,y _ o (P6 f1) (P6 G) ho,r⟩
   by_cases f:b=s.heap.objs.size
   ·subst f;rw[aa]at q;cases q;exact⟨by show 2<=sizeLine;decide,[.int i s.toks,u],.cons ⟨_,rfl⟩<|.cons ru .nil,⟨_,an,rfl,_,rfl⟩⟩
   rw[ag f]at q;refine(I.hok b ob q).stay (λc v d z=>?_) (λc z=>by rw[ag<|af z D];exact z) λc ys z=>by rw[ag<|af z D];exact z
   obtain d|d:=d
   ·subst d;exact y _ v (N _ _ q).1 (N _ _ q).2 z
   exact y _ v (N _ _ d).1 (N _ _ d).2 z
  refine⟨.ref s.heap.objs.size,_,I1,rfl,⟨s.heap.objs.size,x,I.hok.fresh<|N' _,rfl,rfl,λys hy=>by rw[I.list_inj hy F];exact Y⟩,⟨⟨u,by simpa using am⟩,ac.at λo q=>A.extBut t o (P6 U5) q⟩,λb f=>?_⟩;have RH:b<s.heap.objs.size:=by
   obtain rfl|f:=OC.mp f
   ·exact C
   rw[Oi.mp f];exact V2
  rw[ag<|OQ RH];exact(B b f).1
 done:=by
  intro X Q T U d i Og s σ H E I B st W;subst Q T U;obtain⟨xs,F,Y⟩:=W;obtain⟨P9,Z,p,hz⟩:=I.list F;obtain⟨⟨O,g⟩,j⟩:=st;obtain⟨g0,G,g2,g3,g4,g5⟩:=B t (by simp);have hl:=Z.length;exact wpAny_pyNext_enum_end (I.ok.hd d) g j p.isList (by simp;simp_all) λh' eb=>⟨rfl,I.turned (λb o f e=>eb b o f e) g0 G g3 g4 g5⟩
 self:=λV V V V V st h=>by
  obtain⟨⟨O,g⟩,V⟩:=st;exact ZG g h
def BN(f:V->Hp->Prop):ab V->Hp->Prop
 |[x],H=>f x H
 |_,_=>False
theorem jy:∀{v:ab V} {H:Hp},BN f v H->∃x,v=[x]/\f x H:=by
 intro v H h;cases v with
 |nil=>cases h
 |cons x v=>
  cases v with
  |nil=>exact⟨x,rfl,h⟩
  |cons=>cases h
def LS(K:C')(t:TE):TI:=λb H R=>t b H λx h=>∃a,x=.ref a/\(∃X,SqL K h a X)/\R (JR K a) h
theorem FP{E:ab PD}{n:Nat}{A:Pos}{p P:Pos}(o:Gl X "enumerate")(r:X.mg "enumerate"=Oa)(t:PE X l T)(g:OW [l] X.env=[(Oc,QA l X.env)]:=by rfl):
  PI X (.Tuple E n A) (.Call (.Name "enumerate" p) [l] [] P) (LS X.K T):=by
 intro O s j H R I h;have v:=aP t (gU) (by rw[g];rfl);refine Call_<|dZ I o r boot_enumerate<|Qk (bL (v P O s j H (BN _) I h) λU d Z=>?_) g rfl;obtain⟨L,c,i,w,Q⟩:=Z
 obtain⟨x,e,a,y,⟨k,z⟩,q⟩:=jy Q;subst e y;obtain⟨u,rfl,B⟩:=eV w;cases B;obtain⟨M,N,C,W⟩:=i.list z;refine call_enumerate_list C.isList λD m hit F G=>ZG m ?_;have J:Inv X O j c {d with heap:=D}:=i.kept G;refine⟨d.heap.objs.size+1,[d.heap.objs.size+1,d.heap.objs.size],_,_,c,rfl,J,zI a _ _<|Nat.succ_ne_self _,⟨⟨_,m⟩,hit⟩,λb f=>?_,q⟩;obtain rfl|f:=OC.mp f
 ·exact i.fpOk (Uk _)<|i.hok.fresh<|Uk _
 rw[Oi.mp f];exact i.fpOk (N' _)<|i.hok.fresh<|N' _
theorem t6{K:C'}{a:J'}{X:ab V}{g:TG}{T:TS}{D:iX}{b:St}{H:Hp}(Pv:Nat->St->Hp->Prop)(j:Pv 0 b H)(l:∀i b H,i<=X.length->Pv i b H->SqL K H a X)
  (s:∀i x b H t,X[i]?=gV x->Pv i b H->H t=Oa->g (.ref t) b (upd H t<|.tup [.int i,x]) λc f=>T {D with nx:=Pv<|i+1,ct:=Pv<|i+1,bk:=D.nx} c f) (k:∀b H,Pv X.length b H->D.nx b H):
  ∃W:Nat->Nat->St->Hp->Prop,(∃m,W 0 m b H)/\∀i m b H,W i m b H->
   ((JR K a).stop i H/\D.nx b H)\/((JR K a).go i H/\∃N:St->Hp->Prop,(∀d h,N d h->∃M,M<m/\W (i+1) M d h)/\∀x h,(JR K a).yld i H x h->g x b h λc f=>T {D with nx:=N,ct:=N,bk:=D.nx} c f):=by
 exists λi m b H=>m=X.length-i/\i<=X.length/\Pv i b H,⟨X.length,by simp,OG _,j⟩;rintro i m b H ⟨rfl,n,p⟩;have q:=l i b H n p;by_cases r:i<X.length
 ·refine .inr ⟨⟨X,X[i],q,by simp⟩,Pv<|i+1,λd h P=>⟨X.length-(i+1),ip r (Tq _),rfl,r,P⟩,λx h y=>?_⟩;obtain⟨t,v,o,rfl,rfl,y⟩:=y;exact s i v b H t (y X q) p o
 have e:i=X.length:=by lia
 subst e;exact .inl ⟨⟨X,q,N' _⟩,k b H p⟩
end L2
namespace L2
section
open PySem
theorem FQ(e:X.K=K)(h:PE X l t):PI X T l (Lc K t):=by subst e;exact bX h
theorem FR(e:X.K=K):IxR X (Hz K):=by subst e;exact Bo
theorem fA(e:X.K=K):OpR X (PX .In) (MO K Oc):=by subst e;exact kr
theorem iU(e:X.K=K):OpR X (PX .NotIn) (MO K N7):=by subst e;exact gD
theorem qf(e:X.K=K):fk X (.builtin "len") (Jm K):=by subst e;exact cj
end
end L2
namespace OD
open PySem L2
noncomputable def absI(i:Int):Int:=if i<0 then -i else i
theorem bB(h:0<=i):absI i=i:=by unfold absI;rw[Ov<|by simp_all]
def JS:Int->ab Int->Prop
 |_,[]=>True
 |b,l::r=>b<absI l/\JS (absI l) r
def ClOk(n:Int)(L:ab Int):Prop:=JS 0 L/\∀l∈L,absI l<=n
noncomputable def fB(c:ab Int):Oo:=.tuple<|c.map .int
noncomputable def jz(t:Str)(c:ab (ab Int)):Oo:=.tuple [.str t,.list<|c.map fB]
def WS(t:Str):Prop:=∀c∈t.cps.toList,c=119\/c=115
structure SOk (most:Int)(t:Str)(cs:ab (ab Int)):Prop where
 len:(t.length:Int)<=most
 ws:WS t
 many:cs.length<=16
 cl:∀c∈cs,ClOk t.length c
noncomputable def dP(p:ab (Int×Int)):ab (bj×V):=p.map λq=>(Pb q.1,V.int q.2)
noncomputable def pH(p:ab (Int×Int))(k s:Int):ab (Int×Int):=if(p.any λq=>decide (q.1=k))=N7 then p.map (λq=>if q.1=k then(q.1,s)else q)else p++[(k,s)]
theorem JT(p:ab (Int×Int))(k:Int):((dP p).any λv=>decide (v.1=(Pb k:bj)))=p.any λq=>decide (q.1=k):=by
 unfold dP;rw[Tu]
 congr 1
 grind
theorem JU(p:ab (Int×Int))(k s:Int):cQ (dP p) (Pb k) (V.int s)=dP (pH p k s):=by
 unfold cQ pH;rw[JT];by_cases h:(p.any λq=>decide (q.1=k))=N7
 ·rw[Ox h,Ox h];unfold dP;rw[OY,OY]
  congr 1
  funext q
  show(if(Pb q.1)=Pb k then((Pb q.1),V.int s)else(Pb q.1,V.int q.2))=(Pb (if q.1=k then(q.1,s)else q).1,V.int (if q.1=k then(q.1,s)else q).2)
  by_cases e:q.1=k
  ·rw[Ox (by rw[e]),Ox e]
  rw[Ov λz=>e<|Rx z,Ov e]
 rw[Ov h,Ov h];unfold dP;rw[OI];rfl
theorem FS(p:ab (Int×Int)):(dP p).map (·.1)=(p.map (·.1)).map Pb:=by
 unfold dP;rw[OY,OY];rfl
noncomputable def iV(p:ab (Int×Int))(k:Int):M' Int:=(p.find? λq=>decide (q.1=k)).map (·.2)
theorem JV(p:ab (Int×Int))(k:Int):b9 (dP p) (Pb k:bj)=(iV p k).map V.int:=by
 induction p with
 |nil=>rfl
 |cons q r i=>
  show b9 (((Pb q.1),V.int q.2)::dP r) _=_
  by_cases e:q.1=k
  ·rw[cy<|by rw[e]];simp[iV,e]
  rw[cm λz=>e<|Rx z,i];simp[iV,e]
structure DOk (n:Int)(ps:ab (Int×Int)):Prop where
 nd:(ps.map (·.1)).Nodup
 rng:∀q∈ps,1<=q.1/\q.1<=n
 sg:∀q∈ps,q.2=1\/q.2=-1
theorem DOk.nil(n:Int):DOk n []:=⟨Sw,(by simp),(by simp)⟩
theorem DOk.put(h:DOk n p)(d:1<=k/\k<=n)(c:s=1\/s=-1):DOk n (pH p k s)/\(pH p k s).length<=p.length+1:=by
 unfold pH;by_cases a:(p.any λq=>decide (q.1=k))=N7
 ·rw[Ox a];have e:(p.map λq=>if q.1=k then(q.1,s)else q).map (·.1)=p.map (·.1):=by
   rw[OY]
   congr 1
   funext q
   lia
  refine⟨⟨by rw[e];exact h.nd,λq H=>?_,λq H=>?_⟩,by simp⟩
  ·obtain⟨Q,b,rfl⟩:=OK.mp H
   split
   ·exact h.rng Q b
   exact h.rng Q b
  obtain⟨Q,b,rfl⟩:=OK.mp H
  split
  ·exact c
  exact h.sg Q b
 rw[Ov a];refine⟨⟨?_,λq H=>?_,λq H=>?_⟩,by simp⟩
 ·rw[OI];refine xy h.nd λm=>a ?_;simp_all
 ·obtain z|z:=OH.mp H
  ·exact h.rng q z
  rwa[Oi.mp z]
 obtain z|z:=OH.mp H
 ·exact h.sg q z
 rwa[Oi.mp z]
noncomputable def JW(p:ab (Int×Int))(k:Int):Int:=(iV p k).getD 1
theorem DOk.look(h:DOk n p)(H:k∈p.map (·.1)):iV p k=gV (JW p k)/\(JW p k=1\/JW p k=-1):=by
 obtain⟨q,a,e⟩:=OK.mp H;unfold JW iV;cases f:p.find? _ with
 |none=>
  have:=Rq.mp f q a;exact absurd (On e) this
 |some z=>exact⟨rfl,h.sg z<|QN f⟩
theorem t7(H:1<=k)(h:s=1\/s=-1):absI (k*s)=k:=by
 unfold absI;obtain rfl|rfl:=h
 ·rw[O1,Ov<|by lia]
 lia
theorem BO{f:Int->Int}:∀(s:ab Int) (b:Int),0<=b->(∀k∈s,b<k)->s.Pairwise (· < ·)->(∀k∈s,f k=1\/f k=-1)->JS b (s.map λk=>k*f k)
 |[],_,_,_,_,_=>trivial
 |k::r,b,g,H,p,h=>by
  have a:=H k Ot;have e:=t7 (show 1<=k by lia)<|h k Ot;obtain⟨P,c⟩:=Pt.mp p;show b<absI _/\JS _ _
  rw[e];exact⟨a,BO r k (Xq (abf g a)) P c λz d=>h z<|Os _ d⟩
theorem hG:∀{s:ab Int},s.Pairwise (·<=·)->s.Nodup->s.Pairwise (· < ·)
 |[],_,_=>Se
 |k::r,H,n=>by
  obtain⟨p,P⟩:=Pt.mp H;obtain⟨N,a⟩:=PF.mp n;refine Pt.mpr ⟨λz h=>?_,hG P a⟩;have:=p z h;have:k≠z:=λe=>N<|e▸h;lia
theorem DOk.clause{n:Int}{p:ab (Int×Int)}{s:ab Int}(h:DOk n p)(a:s.Perm (p.map (·.1)))(b:s.Pairwise (·<=·)):ClOk n (s.map λk=>k*JW p k):=by
 have m:∀k∈s,k∈p.map _:=λk H=>a.mem_iff.mp H;have r:∀k∈s,1<=k/\k<=n:=λk H=>by
  obtain⟨q,c,e⟩:=OK.mp<|m k H;rw[<-e];exact h.rng q c
 refine⟨BO s 0 (Um 0) (λk H=>by have:=(r k H).1;lia) (hG b<|a.nodup_iff.mpr h.nd) λk H=>(h.look<|m k H).2,λl d=>?_⟩;obtain⟨k,H,rfl⟩:=OK.mp d;rw[t7 (r k H).1 (h.look<|m k H).2];simp_all
theorem jA(h:RD H d v):∀{D:ab Oo} {x:ab V},cJ H D x->cJ H (D++[d]) (x++[v])
 |[],_,t=>by
  rw[bx t];exact ah h aw
 |_::D,_,t=>by
  obtain⟨y,Y,rfl,a,t⟩:=ai t;exact ah a<|jA h t
theorem cK{n:ab Int}{i:Nat}{x:V}(h:(n.map V.int)[i]?=gV x):∃z,x=.int z/\n[i]?=gV z:=by
 cases e:n[i]? with
 |none=>simp_all
 |some z=>
  simp_all
theorem t_(n:ab Int)(lo h:M' Int):∃m:ab Int,cZ (n.map V.int) lo h=m.map V.int/\m.length<=n.length:=by
 unfold cZ;rw[A'];refine⟨(n.drop<|HT.sIx n.length 0 lo).take<|HT.sIx n.length n.length h-HT.sIx n.length 0 lo,?_,?_⟩
 ·simp
 rw[OJ,QF];exact Pm (Tp _ _) (ic _ _)
theorem xF(a b:Str):(a++b).cps.toList=a.cps.toList++b.cps.toList:=by
 show(a.cps++b.cps).toList=_
 simp
theorem ua(h:e.cps.toList=[]):∀a,(ry e a).cps.toList=(a.map λs=>s.cps.toList).flatten
 |[]=>rfl
 |[x]=>by
  show x.cps.toList=_
  simp
 |x::y::r=>by
  show((x++e)++ry e _).cps.toList=_
  rw[xF,xF,h,ua h<|y::r];simp
def nc(s:Str):Prop:=s=⟨#[119]⟩\/s=⟨#[115]⟩
theorem ng:∀{a:ab Str},(∀s∈a,nc s)->(a.map λs=>s.cps.toList).flatten.length=a.length/\∀ch∈(a.map λs=>s.cps.toList).flatten,ch=119\/ch=115
 |[],_=>by simp
 |s::r,h=>by
  obtain⟨b,c⟩:=ng λz d=>h z<|Os _ d;rw[OU,List.flatten_cons];obtain rfl|rfl:=h s Ot
  ·refine⟨by rw[N9,b];show 1+r.length=r.length+1;exact sx _ _,λch H=>?_⟩;obtain z|z:=OH.mp H
   ·exact .inl (by simpa using z)
   exact c ch z
  refine⟨by rw[N9,b];show 1+r.length=r.length+1;exact sx _ _,λch H=>?_⟩;obtain z|z:=OH.mp H
  ·exact .inr (by simpa using z)
  exact c ch z
theorem LU:(Oh "").cps.toList=[]:=by rfl
theorem BP(h:∀s∈a,nc s):(ZR "" a).length=a.length/\WS (ZR "" a):=by
 have e:ZR (Oh "") a=ry _ a:=eq_of_beq<|aar _ a;obtain⟨b,c⟩:=ng h;have E:=ua LU a;refine⟨?_,?_⟩
 ·rw[e];show(ry _ a).cps.size=_
  rwa[<-OR,E]
 intro C H;rw[e,E]at H;exact c C H
theorem qg:∀{a:ab Str},(∀s∈a,nc s)->(a.map λs=>s.length).sum=a.length
 |[],_=>rfl
 |s::r,h=>by
  rw[OU,List.sum_cons,qg λz H=>h z<|Os _ H,OE];obtain rfl|rfl:=h s Ot
  ·show 1+_=_;exact sx _ _
  show 1+_=_;exact sx _ _
theorem LW(h:0<=j)(H:j<2):∃c,kq (Oh "ws").cps.toList j=gV c/\nc ⟨#[c]⟩:=by
 obtain rfl|rfl:=(by lia:j=0\/j=1)
 ·exact⟨119,by rfl,.inl rfl⟩
 exact⟨115,by rfl,.inr rfl⟩
def CL(H:Hp)(c:ab Int)(v:V):Prop:=∃t,v=.ref t/\H t=gV (.tup<|c.map V.int)
def CLs(H:Hp):ab (ab Int)->ab V->Prop:=Paired<|CL H
theorem CL.mono(h:CL H c v)(k:Same H a):CL a c v:=let ⟨t,e,z⟩:=h;⟨t,e,k _ _ z⟩
theorem CL.upd(h:CL H c v)(a:H q=gV (.lst x)):CL (upd H q o) c v:=by
 obtain⟨t,e,z⟩:=h;exact⟨t,e,by rwa[ag<|bp z a<|by intro w;cases w]⟩
theorem CLs.mono(k:Same H a):∀{c:ab (ab Int)} {x:ab V},CLs H c x->CLs a c x:=λh=>Paired.mapP h λz z h=>h.mono k
theorem CLs.upd(a:H q=gV (.lst y)):∀{c:ab (ab Int)} {x:ab V},CLs H c x->CLs (upd H q o) c x
 |_,_,.nil=>.nil
 |_,_,.cons h t=>.cons (h.upd a)<|CLs.upd a t
theorem CLs.snoc(h:CL H c v)(t:CLs H C x):CLs H (C++[c]) (x++[v]):=Paired.snoc t h
theorem CLs.length(h:CLs H c x):c.length=x.length:=Paired.length h
theorem CLs.get:∀{C:ab (ab Int)} {x:ab V} {j:Nat} {v:V},CLs H C x->x[j]?=gV v->∃c,C[j]?=gV c/\CL H c v:=by
 intro C x j v h e;change Paired _ _ _ at h;induction h generalizing j with
 |nil=>cases e
 |cons h t i=>
  cases j with
  |zero=>exact⟨_,rfl,by simp_all⟩
  |succ j=>exact i e
theorem CL.rd(h:CL H c v):RD H (fB c) v:=by
 obtain⟨t,rfl,z⟩:=h;exact bn z<|ju c
theorem CLs.rds:∀{c:ab (ab Int)} {x:ab V},CLs H c x->cJ H (c.map fB) x
 |_,_,.nil=>aw
 |_,_,.cons h t=>ah h.rd<|CLs.rds t
theorem CL.of(h:RD H (fB c) v):CL H c v:=by
 obtain⟨a,x,rfl,b,d⟩:=ak h;refine⟨a,rfl,?_⟩;rw[b];have:∀(N:ab Int) (x:ab V),cJ H (N.map UY) x->x=N.map V.int:=by
  intro N
  induction N with
  |nil=>intro x r;exact bx r
  |cons n r i=>
   intro x z;obtain⟨y,Y,rfl,e,t⟩:=ai z;have E:y=.int n:=by
    assumption
   rw[E,i Y t];rfl
 rw[this c x d]
theorem CLs.of:∀{C:ab (ab Int)} {x:ab V},cJ H (C.map fB) x->CLs H C x
 |[],x,h=>by
  rw[bx h];exact .nil
 |c::C,x,h=>by
  obtain⟨y,Y,rfl,a,b⟩:=ai h;exact .cons (CL.of a)<|CLs.of b
theorem xG(a:H p=gV (.tup [.str t,.ref q]))(b:H q=gV (.lst x))(h:CLs H c x):RD H (jz t c) (.ref p):=
 bn a (ah (cH t)<|ah (dm b h.rds) aw)
theorem fY(h:RD H (jz t c) v):∃p q x,v=.ref p/\H p=gV (.tup [.str t,.ref q])/\H q=gV (.lst x)/\CLs H c x:=by
 obtain⟨p,Y,rfl,b,d⟩:=ak h;obtain⟨y,Z,rfl,a,f⟩:=ai d;obtain⟨z,w,rfl,g,i⟩:=ai f;have j:=bx i;subst j;obtain⟨q,x,rfl,k,l⟩:=dC g;have e:y=.str t:=by
  assumption
 subst e;exact⟨p,q,x,rfl,b,k,CLs.of l⟩
theorem ja:∀C:ab (ab Int),P1 (C.map fB)=N7
 |[]=>rfl
 |c::r=>by
  show(P1 _&&P1 _)=N7
  rw[PySem.W.ke_canLayAll0,ja r];rfl
theorem zJ(h:d.canLay0=N7)(H:d.depth<=64):Qi d=true:=by
 unfold Qi;rw[h,On H];rfl
theorem gH(c:ab Int):O4 (fB c) (.tuple [])=decide (c=[]):=by
 cases c with
 |nil=>rfl
 |cons n r=>rfl
theorem xH:∀{c:ab Int} {b:Int},JS b c->(∀l∈c,absI l<=n)->b<=n->(c.length:Int)<=n-b
 |[],b,_,_,h=>by
  simp_all
 |l::r,b,h,H,e=>by
  have a:=H l Ot;have f:=xH h.2 (λz d=>H z<|Os _ d) a;have g:=h.1;grind
theorem xI:∀{c:ab Int} {b:Int},0<=b->JS b c->∀l∈c,1<=absI l
 |[],_,_,_,_,h=>nomatch h
 |x::r,b,a,h,l,H=>by
  have d:=h.1;obtain rfl|H:=OC.mp H
  ·lia
  exact xI (Xq (abf a d)) h.2 l H
theorem ClOk.pos(h:ClOk n c):∀l∈c,1<=absI l:=xI (Um 0) h.1
theorem ClOk.len(h:ClOk n c)(H:0<=n):(c.length:Int)<=n:=by
 have:=xH h.1 h.2 H;simp_all
noncomputable def hit(B:ab Oe)(l:Int):Oe:=match B[(absI l-1).toNat]? with
 |some b=>b == decide (0<l)
 |none=>Oc
theorem eu{a:Type}{f g:a->Oe}:∀{X:ab a},(∀x∈X,f x=g x)->X.any f=X.any g
 |[],_=>rfl
 |x::r,h=>by
  rw[RO,RO,h x Ot,eu λz H=>h z<|Os _ H]
theorem rC(c:ab Int)(l:Int):c.any (λx=>decide (x=l))=c.contains l:=by
 rw[Qe];simp
theorem bC(c:ab Int)(l:Int):gY (.int l) (c.map V.int)=c.contains l:=by
 unfold gY;rw[Tu,<-rC];rfl
theorem bG(r:St)(p:V->Oe)(f:V->V)(E:d=Oa::r)(k:h a=gV (.tup X))(g:h D=Oa)(u:X.length<=9000)
  (t:∀x∈X,∀H R,Same h H->R (p x) H->T (gV x::r) H R)
  (o:∀x∈X,p x=N7->∀H R,Same h H->R (f x) H->q (gV x::r) H R)
  (s:Q (.ref D) (upd h D<|.lst<|(X.filter p).map f)):gQ (Jc K a) D (dH 0) T q d h Q:=by
 have N:=af k g;refine tZ (xs:=X) (λi b y c=>(∃l,b=l::r)/\y=((X.take i).filter p).map f/\c=upd h D (.lst y)) ⟨⟨Oa,E⟩,rfl,rfl⟩ ?_ ?_ ?_
 ·rintro i b y c z ⟨z,z,rfl⟩;exact⟨aa,SqT.of<|by rwa[ag N]⟩
 ·rintro i x b y c m ⟨⟨l,rfl⟩,v,rfl⟩;have n:=N5 m;have e:X.take (i+1)=X.take i++[x]:=by rw[OM,m];rfl
  refine t x n _ _ (ad g _) ?_;cases j:p x with
  |true=>
   refine aq<|o x n j _ _ (ad g _) ⟨aa,?_,⟨_,rfl⟩,?_,eO⟩
   ·have:y.length<=X.length:=by
     rw[v,A'];exact Pm (Po _ _) (by rw[OJ];exact Tp _ _)
    exact aV (Pm this (Pm u (by decide)))
   simp_all
  |false=>
   simp_all
 simp_all
theorem eA(r:St)(p:V->Oe)(f:V->V)(E:d=Oa::r)(k:h a=gV (.lst X))(g:h D=Oa)(u:X.length<=9000)
  (t:∀x∈X,∀H R,Same h H->R (p x) H->T (gV x::r) H R)
  (o:∀x∈X,p x=N7->∀H R,Same h H->R (f x) H->q (gV x::r) H R)
  (s:Q (.ref D) (upd h D<|.lst<|(X.filter p).map f)):gQ (E7 K a) D (dH 0) T q d h Q:=by
 have N:=af k g;refine bv (xs:=X) (λi b y c=>(∃l,b=l::r)/\y=((X.take i).filter p).map f/\c=upd h D (.lst y)) ⟨⟨Oa,E⟩,rfl,rfl⟩ ?_ ?_ ?_
 ·rintro i b y c z ⟨z,z,rfl⟩;exact⟨aa,SqL.of<|by rwa[ag N]⟩
 ·rintro i x b y c m ⟨⟨l,rfl⟩,v,rfl⟩;have n:=N5 m;have e:X.take (i+1)=X.take i++[x]:=by rw[OM,m];rfl
  refine t x n _ _ (ad g _) ?_;cases j:p x with
  |true=>
   refine aq<|o x n j _ _ (ad g _) ⟨aa,?_,⟨_,rfl⟩,?_,eO⟩
   ·have:y.length<=X.length:=by
     rw[v,A'];exact Pm (Po _ _) (by rw[OJ];exact Tp _ _)
    exact aV (Pm this (Pm u (by decide)))
   simp_all
  |false=>
   simp_all
 simp_all
theorem ub(r:St)(f:Nat->V)(e:c=Oa::r)(g:h D=Oa)(m:n<=9000)
  (t:∀x H R,R N7 H->T (gV x::r) H R)
  (j:∀i,i<n->∀H R,Same h H->R (f i) H->k (gV (.int (0+(i:Int)))::r) H R)
  (q:Q (.ref D) (upd h D<|.lst<|(O7 n).map f)):gQ (Fi 0 n) D (dH 0) T k c h Q:=by
 refine eh (λi a y b=>(∃d,a=d::r)/\y=(O7 i).map f/\b=upd h D (.lst y)) ⟨⟨Oa,e⟩,rfl,rfl⟩ ?_ ?_ ?_
 ·rintro i a y b z ⟨z,z,rfl⟩;exact aa
 ·rintro i a y b l ⟨⟨d,rfl⟩,v,rfl⟩;refine t _ _ _<|aq<|j i l _ _ (ad g _) ⟨aa,?_,⟨_,rfl⟩,?_,eO⟩
  ·rw[v,A',PB];exact aV (by lia)
  rw[Rb,OI,<-v];rfl
 simp_all
theorem bO(c:ab Int)(p:Int->Oe)(q:V->Oe)(h:∀i,q (.int i)=p i):((c.map V.int).filter q).map (λx=>x)=(c.filter p).map V.int:=by
 rw[Tt];rw[List.filter_map];refine Pa _<|UH λx z=>h x
theorem bK{c:ab Int}{x:V}(h:x∈c.map V.int):∃z∈c,x=.int z:=by
 obtain⟨z,H,e⟩:=OK.mp h;exact⟨z,H,e.symm⟩
theorem JX(h:Qi d=N7):d.canLay0=true:=by
 unfold Qi at h;rw[Pj]at h;exact h.1
theorem JY{x y:V}{A B:Prop}(h:x=y)(b:B):if(!decide (x=y))=N7 then A else B:=by
 rwa[On h]
theorem NQ:fU "tuple" "tuple"=gV true:=by rfl
theorem NR:fU "list" "list"=gV true:=by rfl
theorem FT{B:ab Oe}{i:Nat}{x:V}(h:(B.map V.bl)[i]?=gV x):∃b,x=.bl b/\B[i]?=gV b:=by
 cases e:B[i]? with
 |none=>simp_all
 |some z=>
  simp_all
noncomputable def rD(p:Int->Oe):V->Oe
 |.int z=>p z
 |_=>Oc
noncomputable def E_(f:Int->V):V->V
 |.int z=>f z
 |x=>x
theorem wg{x:ab V}{f:V->V}:(x.filter λz=>N7).map f=x.map f:=by
 rw[RJ.mpr λz z=>rfl]
end OD
namespace L2
open PySem PySem.Spec PyProof.Rows
def Nv:R2:=λx y H Q=>∃(D:Oo) (s:ab Oo),RD H D x/\RD H (.list s) y/\D.canLay0=N7/\P1 s=N7/\D.depth<=60/\Q (.bl<|s.any λd=>O4 d D) H
theorem BQ(j:X.A.units+64<R1):OpR X (PX .In) Nv:=by
 intro O s k H x y v u Q I r a h;obtain⟨d,D,b,c,e,f,l,q⟩:=h;obtain⟨A,g⟩:=cA I d x v b r;obtain⟨B,i⟩:=cA I _ y u c a;refine SeqAt.in_list_reads i g f e ?_ ⟨.bl _,H,I,rfl,q⟩;have:min (SI D) _<=d.depth:=Tp _ _;lia
def qh(m:Str->M' K')(x:Str)(v:V):Prop:=∃u,m x=gV u/\RelV v u
theorem cB(h:Gl X x)(H:qh X.mg x v)(d:(x == ("__debug__":Str))=false:=by decide):PE X (.Name x p) (tC v):=by
 obtain⟨u,a,b⟩:=H;exact Fd h a b d
end L2
namespace OD
open PySem L2
noncomputable def cu(t:Str)(i:Nat):Oe:=decide (t.cps.toList[i]?=gV 119)
noncomputable def aj(b:Oe):Str:=if b=N7 then Oh "wisher" else Oh "spoiler"
theorem uc:Oh "wisher"≠Oh "spoiler":=by decide+kernel
theorem zK(h:aj a=aj b):a=b:=by
 cases a<;>cases b
 ·rfl
 ·exact absurd h.symm uc
 ·exact absurd h uc
 rfl
theorem c9(a b:Oe):decide (V.str (aj a)=V.str (aj b))=decide (a=b):=by
 refine Rk.mpr ⟨λh=>zK<|V.str.inj h,λh=>by rw[h]⟩
def MU(i n:Nat)(C:ab (ab Int)):Prop:=∀c∈C,∀l∈c,(i:Int)<absI l/\absI l<=(n:Int)
def qi(C:ab (ab Int)):Prop:=C.length<=900/\∀c∈C,c.length<=900
theorem au(l:Int):(0<=l/\absI l=l)\/(l<0/\absI l=-l):=by
 by_cases h:l<0
 ·exact .inr ⟨h,Ox h⟩
 exact .inl ⟨abe h,Ov h⟩
theorem HN:decide (V.str ⟨#[ch]⟩=V.str (Oh "w"))=decide (ch=119):=by
 have e:Oh "w"=⟨#[119]⟩:=by rfl
 simp_all
theorem wj(h:t.cps.toList[i]?=gV ch):cu t i=decide (ch=119):=by
 unfold cu;simp_all
end OD
namespace L2
open PySem PySem.Spec PyProof.Rows
noncomputable def zL(lo:Int)(n:Nat):It:=⟨λi _=>i<n,λi H x h=>h=H/\x=.int (lo-i),λi _=>n<=i⟩
theorem ue{P:Ou}{w:ON}{K:C'}{A:PD}(a:J')(lo:Int)(n:Nat):vI P w K A (zL lo n) [a] a (λi h=>Yb h a (lo+(i:Nat)*(-1)) ((n:Int)-(i:Nat)) (-1)) where
 mem:=by simp
 obj:=λi h st b c=>by
  have e:b=a:=by simpa using c
  subst e;exact⟨_,st,λv z=>by
   have Z:=z;cases Z⟩
 keep:=λi h d st k=>k a (by simp) _ st
 item:=by
  intro X g j l m i O s y H E I f st p;subst g j l;obtain⟨F,q,B,r,u,x⟩:=f a (by simp);have W:=Vr (prog:=X.prog) (w:=X.w) (I.ok.hd m) a lo (-1) n;refine W.item i s _ _ p st λv d T C Q D=>?_;obtain⟨t,rfl⟩:=C;have G:Inv X O y H {s with heap:=d,toks:=T}:=I.turned (λb o c e=>D b o (by simpa using c) e) F q r u x;refine⟨_,rfl,xj Q rfl rfl (by rfl) ⟨.int<|lo-i,H,G,⟨t,?_⟩,⟨rfl,rfl⟩,Q,λb c=>(f b c).1⟩⟩;lia
 done:=by
  intro X g j l m i O s y H E I f st p;obtain⟨F,q,B,r,u,x⟩:=f a (by simp);exact W1 (I.ok.hd m) st (by have:n<=i:=p;lia) λd J=>⟨rfl,I.turned (λb o c e=>J b o c e) F q r u x⟩
 self:=λY Y Y Y Y st h=>W2 st h
theorem zN{O:ab (J'×Obj)}{a:St}{H:Hp}{s:Od}{R:It->Hp->Prop}{E:K'->Od->Prop}{lo h:Int}{t u v:Tok}{T:Nat}(I:Inv X O a H s)(c:-(2^62)<=lo)(d:lo<2^62)(f:-(2^62)<=h)(g:h<2^62)
  (q:R (zL lo (lo-h).toNat) H):wpAny (OS X.prog X.w) X.A (X4<|.ref s.heap.objs.size) (M6 X O a m R) E {s with heap:=s.heap.push {cls:=.type "range",data:=.fields #[.int lo t,.int h u,.int (-1) v]},toks:=T}:=by
 refine Y7 (T2 ..) (PySem.W.small_down c d f g) ?_;have i:Inv X O a H {s with heap:=s.heap.push {cls:=.type "range",data:=.fields #[.int lo t,.int h u,.int (-1) v]},toks:=T}:=I.kept λb o e=>Oj _ e;refine⟨(s.heap.push {cls:=.type _,data:=.fields _}).objs.size,[(s.heap.push {cls:=.type _,data:=.fields _}).objs.size],_,_,H,rfl,
  i.kept λb o e=>Oj _ e,ue _ lo _,?_,λb j=>?_,q⟩
 ·have k:lo+((0:Nat))*(-1)=lo:=by simp
  have l:(((lo-h).toNat))-((0:Nat))=WN lo h (-1):=by rw[PySem.W.rangeSize_down];grind
  show Yb _ _ _ ((((lo-h).toNat))-((0:Nat))) _
  rw[k,l];exact OT _ rfl
 have e:b=(s.heap.push {cls:=.type "range",data:=.fields #[.int lo t,.int h u,.int (-1) v]}).objs.size:=by simpa using j
 subst e;exact i.fpOk (N' _)<|i.hok.fresh<|N' _
def LX(t:TA):TI:=λa H R=>t a H λv h=>∃i j:Int,v=[.int i,.int j,.int (-1)]/\(-(2^62)<=i/\i<2^62/\ -(2^62)<=j/\j<2^62)/\R (zL i (i-j).toNat) h
theorem zO{X:Cx}{g:PD}{a b c:PD}{T:TA}{p P:Pos}(k:Gl X "range")(m:X.mg "range"=Oa)(l:PA X [a,b,c] T)(n:OW [a,b,c] X.env=(Oc,QA a X.env)::OW [b,c] X.env:=by rfl)(Z:(RE P<|OW [b,c] X.env).any (·.1)=false:=by rfl):
  PI X g (.Call (.Name "range" p) [a,b,c] [] P) (LX T):=by
 intro O s o H R I h;refine Call_<|dZ I k m y4<|Qk (bL (l P O s o H _ I h) λU B Y=>?_) n Z;obtain⟨C,D,u,v,Q⟩:=Y;obtain⟨i,j,e,⟨Q,w,x,y⟩,q⟩:=Q;subst e;cases v with
 |cons r d=>
  cases d with
  |cons z d=>
   cases d with
   |cons f d=>
    cases d;obtain⟨t,rfl⟩:=r;obtain⟨E,rfl⟩:=z;obtain⟨A,rfl⟩:=f;exact call_range_3 (by decide) (zN u Q w x y q) (.inl<|rfl)
theorem nh{lo:Int}{n:Nat}{g:TG}{t:TS}{D:iX}(Pv:Nat->St->Hp->Prop)(f:Pv 0 a H)
  (s:∀i a H,i<n->Pv i a H->g (.int<|lo-i) a H λb d=>t {D with nx:=Pv<|i+1,ct:=Pv<|i+1,bk:=D.nx} b d) (j:∀a H,Pv n a H->D.nx a H):
  ∃W:Nat->Nat->St->Hp->Prop,(∃m,W 0 m a H)/\∀i m a H,W i m a H->
   ((zL lo n).stop i H/\D.nx a H)\/((zL lo n).go i H/\∃N:St->Hp->Prop,(∀c h,N c h->∃M,M<m/\W (i+1) M c h)/\∀x h,(zL lo n).yld i H x h->g x a h λb d=>t {D with nx:=N,ct:=N,bk:=D.nx} b d):=by
 exists λi m a H=>m=n-i/\i<=n/\Pv i a H,⟨n,by simp,OG _,f⟩;rintro i m a H ⟨rfl,k,p⟩;by_cases r:i<n
 ·refine .inr ⟨r,Pv<|i+1,λc h P=>⟨n-(i+1),ip r (Tq _),rfl,r,P⟩,λx h y=>?_⟩;obtain⟨e,y⟩:=y;subst e y;exact s i a _ r p
 have e:i=n:=h7 k (hJ r)
 subst e;exact .inl ⟨N' _,j a H p⟩
end L2
namespace OD
open PySem L2
noncomputable def gR(n:Nat)(N:Nat)(l:Int):Oe:=decide (N/2^(n-(absI l).toNat)%2=1) == decide (0<l)
noncomputable def BR(n:Nat)(C:ab (ab Int))(N:Nat):Oe:=C.all λc=>c.any<|gR n N
noncomputable def dG(t:Str)(c:ab (ab Int)):Nat->Nat->Nat->Oe
 |0,_,n=>BR t.length c n
 |f+1,i,n=>if cu t i=N7 then dG t c f (i+1) (2*n) || dG t c f (i+1) (2*n+1)else dG t c f (i+1) (2*n)&&dG t c f (i+1) (2*n+1)
noncomputable def jB(B:ab Oe):Nat:=B.foldl (λa b=>2*a+(if b=N7 then 1 else 0)) 0
theorem qj(B:ab Oe)(b:Oe):jB (B++[b])=2*jB B+(if b=N7 then 1 else 0):=by
 unfold jB;simp
theorem BS(m r e:Nat)(h:r<2):(2*m+r)/2^(e+1)=m/2^e:=by
 rw[Rw,Z2 _ 2,<-Xi];have:(2*m+r)/2=m:=by lia
 rw[this]
theorem BU{P:ab Oe->Prop}(h0:P [])(hs:∀bs b,P bs->P (bs++[b]))(bs:ab Oe):P bs:=by
 have:∀(r:ab Oe),P r.reverse:=by
  intro r
  induction r with
  |nil=>exact h0
  |cons b r ih=>
   rw[Wm];exact hs _ _ ih
 have z:=this bs.reverse
 simp_all
theorem BV(B:ab Oe):∀j,j<B.length->B[j]?=gV (decide (jB B/2^(B.length-1-j)%2=1)):=by
 induction B using BU with
 |h0=>intro j h;cases h
 |hs B b i=>
  intro j H;rw[N9,OL]at H ⊢;rw[qj];by_cases e:j<B.length
  ·rw[OV e,i j e];have E:B.length+1-1-j=(B.length-1-j)+1:=by grind
   rw[E,BS _ _ _ (by split<;>lia)]
  have E:j=B.length:=by lia
  subst E;rw[OP<|N' _,P3];have a:B.length+1-1-B.length=0:=by simp
  rw[a];show gV b=_
  cases b with
  |true=>simp
  |false=>simp
theorem FU(h:1<=absI l)(H:absI l<=(b.length:Int)):hit b l=gR b.length (jB b) l:=by
 unfold hit gR;rw[BV b _<|by omega];have e:b.length-1-(absI l-1).toNat=b.length-(absI l).toNat:=by
  obtain⟨k,e⟩:=Int.eq_ofNat_of_zero_le (Int.sub_nonneg_of_le h);rw[e,Nat.sub_sub,show absI l=(1+k:Nat) by lia];rfl
 rw[e]
theorem uf(k:Nat):((2:Int)^k)=((2^k:Nat):Int):=by
 rfl
theorem xJ(n:Nat):(1:Int)*2^((n:Int)).toNat=((2^n:Nat):Int):=by
 simp
theorem FV(n k:Nat):RA ((n:Int)/2^k) 1=((n/2^k%2:Nat):Int):=by
 have e:RA _ 1=(n)/2^k%2:=Xe _;assumption
theorem ug(n k:Nat):decide (V.int (RA ((n:Int)/2^k) 1)=V.int 1)=decide (n/2^k%2=1):=by
 rw[FV];refine Rk.mpr ⟨λh=>?_,λh=>?_⟩
 ·lia
 rw[h];rfl
theorem FW{n:Nat}{N:Nat}{z:Int}(h:absI z<=(n:Int))(H:1<=absI z):decide (V.bl (decide (V.int (RA ((N:Int)/2^((n:Int)-absI z).toNat) 1)=V.int 1))=V.bl (decide (0<z)))=gR n N z:=by
 rw[iY,ug];unfold gR;have e:((n)-absI z).toNat=n-(absI z).toNat:=by
  obtain⟨k,e⟩:=Int.eq_ofNat_of_zero_le (pw (by decide) H);rw[e];exact Int.toNat_sub n k
 rw[e]
noncomputable def wk(t:Str)(c:ab (ab Int))(i:Nat):ab V:=(O7 (2^i)).map λm=>V.bl<|dG t c (t.length-i) i m
theorem BW{t:Str}{c:ab (ab Int)}{i m:Nat}(h:m<2^i){j:Int}(H:j=(m:Int)):kq (wk t c i) j=gV (.bl<|dG t c (t.length-i) i m):=by
 subst H;refine aK ?_;unfold wk;rw[Ow,Sn h];rfl
theorem BX(h:k<t.length)(m:Nat):dG t c (t.length-k) k m=if cu t k=N7 then dG t c (t.length-(k+1)) (k+1) (2*m) || dG t c (t.length-(k+1)) (k+1) (2*m+1)else dG t c (t.length-(k+1)) (k+1) (2*m)&&dG t c (t.length-(k+1)) (k+1) (2*m+1):=by
 have e:t.length-k=(t.length-(k+1))+1:=by lia
 rw[e];rfl
def LV(H:Hp)(p:J')(t:Str)(c:ab (ab Int))(lo:Nat)(x:ab V):Prop:=∀d:Nat,d<x.length->∃a,x[d]?=gV (.ref a)/\a≠p/\H a=gV (.lst<|wk t c<|lo+d)
theorem LV.keep(h:LV H p t C lo x)(k:∀b o,H b=gV o->b≠p->e b=gV o):LV e p t C lo x:=λd f=>by
 obtain⟨a,g,c,i⟩:=h d f;exact⟨a,g,c,k a _ i c⟩
theorem LV.cons(h:LV H p t c lo x)(f:a≠p)(r:H a=gV (.lst<|wk t c l))(e:l+1=lo):LV H p t c l (.ref a::x):=λd g=>by
 cases d with
 |zero=>exact⟨a,rfl,f,r⟩
 |succ d=>
  obtain⟨b,i,j,k⟩:=h d (oj g);have E:l+(d+1)=lo+d:=by lia
  exact⟨b,by assumption,j,by rwa[E]⟩
theorem LV.at(h:LV H p t c 0 x)(e:d<x.length)(f:j=(d:Int)):∃a,kq x j=gV (.ref a)/\H a=gV (.lst<|wk t c d):=by
 obtain⟨a,g,z,b⟩:=h d e;rw[Qq]at b;subst f;exact⟨a,aK g,b⟩
theorem hand_at(h:H l=gV (.lst [.str<|Oh "spoiler",.str<|Oh "wisher"]))(b:Oe)(q:Q (.str<|aj b) H):Hz K (.ref l) (.int (if b then 1 else 0)) H Q:=by
 refine .inl ⟨l,_,_,.str<|aj b,rfl,rfl,SqL.of h,?_,q⟩;cases b<;>rfl
theorem SOk.rng(h:SOk m t C):MU 0 t.length C:=λc H l a=>⟨by have:=(h.cl c H).pos l a;lia,(h.cl c H).2 l a⟩
theorem SOk.small(h:SOk m t C)(a:t.length<=900):qi C:=⟨Pm h.many (by simp),λc H=>by
 have:=(h.cl c H).len (by simp);lia⟩
theorem FX(h:Q (a.set i<|gV v) H):dH i v a H Q:=h
noncomputable def cO(B:ab Oe)(v:Int)(p:Oe):V:=if((B.length:Nat):Int)<v then .non else match B[(v-1).toNat]? with
 |some b=>.bl<|b == p
 |none=>.non
theorem ni(h:((b.length:Nat):Int)<v):cO b v p=.non:=by
 unfold cO;rw[Ox h]
theorem fZ(c:1<=v)(d:v<=((B.length:Nat):Int)):∃b,kq (B.map V.bl) (v-1)=gV (.bl b)/\cO B v p=.bl (b == p):=by
 obtain⟨w,h,H⟩:=m6 (x:=B.map V.bl) (i:=v-1) (by simp_all) (by rw[A'];lia);obtain⟨b,rfl,a⟩:=FT h;exists b,H;unfold cO;simp_all
theorem uh(B:ab Oe)(v:Int)(p:Oe):cO B v p=.non\/∃b,cO B v p=.bl b:=by
 unfold cO
 split
 ·exact .inl rfl
 split
 ·exact .inr ⟨_,rfl⟩
 exact .inl rfl
theorem qk(h:1<=absI l):(cO B (absI l) (decide (0<l))=.non/\hit B l=Oc)\/cO B (absI l) (decide (0<l))=.bl (hit B l):=by
 unfold cO hit;by_cases g:((B.length))<absI l
 ·rw[Ox g,Py<|by omega];exact .inl ⟨rfl,rfl⟩
 rw[Ov g];cases e:B[(absI l-1).toNat]? with
 |none=>exact .inl ⟨rfl,rfl⟩
 |some b=>exact .inr rfl
theorem ui(c:ab Int)(B:ab Oe):((c.map<|(E_ λl=>cO B (absI l) (decide (0<l)))∘V.int).all rB)=true:=by
 rw[Sb];refine Pc.mpr λl z=>?_;show rB (cO B _ _)=N7
 obtain e|⟨b,e⟩:=uh B _ _
 ·rw[e];rfl
 rw[e];rfl
theorem wl(c:ab Int)(b:ab Oe)(h:∀l∈c,1<=absI l):(c.map<|(E_ λl=>cO b (absI l) (decide (0<l)))∘V.int).any gG=c.any (hit b):=by
 rw[Tu];refine eu λl H=>?_;show gG (cO b _ _)=hit b l
 obtain⟨e,E⟩|e:=qk (h l H)
 ·rw[e,E];rfl
 rw[e];rfl
theorem cut_to(x:ab V)(k:Nat):cZ x Oa (gV (k:Int))=x.take k:=by
 show(x.drop 0).take (min k _-0)=_
 simp
theorem BY(x:ab V)(k:Nat):cZ x (gV (k:Int)) Oa=x.drop k:=by
 show(x.drop<|min k _).take (x.length-min k _)=_
 by_cases h:k<=x.length
 ·rw[Vj h,Ol<|by simp]
 rw[aat (Pu (I' h)),SG<|N' _,SG (Pu (I' h)),List.take_nil]
theorem paired_get{b a:Type}{F:b->a->Prop}:∀{X:ab b} {U:ab a} {i:Nat} {u:a},Paired F X U->U[i]?=gV u->∃x,X[i]?=gV x/\F x u:=by
 intro X U i u h e;induction h generalizing i with
 |nil=>cases e
 |cons h t j=>
  cases i with
  |zero=>exact⟨_,rfl,by cases e;exact h⟩
  |succ i=>exact j e
theorem LY(b:Oe):decide (V.str (aj b)=V.str (Oh "wisher"))=b:=by
 have z:=c9 b N7;have Z:aj N7=Oh _:=rfl;simp_all
noncomputable def f_(m:Int):Int->ab Oo->Oe
 |_,[]=>N7
 |b,.int i::r=>if b<absI i/\absI i<=m then f_ m (absI i) r else Oc
 |_,_::_=>Oc
noncomputable def lV(m:Int):Oo->Oe
 |.tuple d=>f_ m 0 d
 |_=>Oc
theorem zP{a:Type}{l:ab a}{i:Nat}(d:a)(h:i<l.length):l.drop i=l.getD i d::l.drop (i+1):=by
 simp_all
theorem iz(h:∀z,d≠.int z):(kB d&&!md d)=false:=by
 cases d with
 |int z=>exact absurd rfl<|h z
 |_=>rfl
theorem nj(h:∀z,d≠.int z):f_ m b (d::r)=false:=by
 cases d with
 |int z=>exact absurd rfl<|h z
 |_=>rfl
theorem hO:f_ m b (.int z::r)=if b<absI z/\absI z<=m then f_ m (absI z) r else false:=rfl
theorem hU(d:Oo):(∃z,d=.int z)\/∀z,d≠.int z:=by
 lia
theorem ar(h:RD H (.int z) v):v=.int z:=by
 assumption
theorem aR(h:RD H (.str z) v):v=.str z:=by
 assumption
theorem JZ{a:Type}(l:ab a)(f:a->Oe):(l.map λx=>V.bl<|f x).all rB=N7/\(l.map λx=>V.bl<|f x).all gG=l.all f:=by
 constructor
 ·rw[Sb];exact Pc.mpr λz z=>rfl
 rw[Sb];rfl
theorem lI(n:ab Int):Qi (.list<|n.map .int)=true:=PySem.W.ke_shaped_ints n
def Nice(n:Nat)(d:Oo):Prop:=d.canLay0=N7/\d.depth<=n
theorem Nice.mono(h:Nice m d)(k:m<=n):Nice n d:=⟨h.1,Pm h.2 k⟩
theorem jC:∀{D:ab Oo} {n:Nat},(∀d∈D,Nice n d)->P1 D=N7/\SI D<=n
 |[],_,_=>⟨rfl,OG _⟩
 |d::D,n,h=>by
  have H:=h d Ot;have a:=jC λx b=>h x<|Os _ b;refine⟨?_,?_⟩
  ·show(d.canLay0&&P1 D)=N7
   rw[H.1,a.1];rfl
  exact Nat.max_le.mpr ⟨H.2,a.2⟩
theorem kE(h:∀d∈D,Nice n d):Nice (n+1) (.list D):=⟨(jC h).1,QK (jC h).2⟩
theorem nu(h:∀d∈D,Nice n d):Nice (n+1) (.tuple D):=⟨(jC h).1,QK (jC h).2⟩
theorem BZ(n:Nat)(i:Int):Nice n (.int i):=⟨rfl,OG _⟩
theorem jD(n:Nat)(h:PyData.strOk x=N7):Nice n (.str x):=⟨h,OG _⟩
theorem kF(n:Nat)(N:ab Int):∀d∈N.map UY,Nice n d:=λd h=>by
 obtain⟨i,z,rfl⟩:=OK.mp h;exact BZ n i
theorem Nice.shaped(h:Nice 8 d):Qi d=true:=zJ h.1 (Pm h.2<|by simp)
theorem ny(C:ab (ab Int)):∀d∈C.map fB,Nice 2 d:=λd h=>by
 obtain⟨c,z,rfl⟩:=OK.mp h;exact nu<|kF 1 c
end OD
namespace TB
open PySem PySem.SetTable
def Up(x:Pi Nat):Prop:=∀i k,i<k->k<x.size->x.getD i 0<x.getD k 0
theorem xK{x:Pi Nat}{i:Nat}(h:i<x.size)(a b:Nat):x.getD i a=x.getD i b:=by
 simp[U4,h]
theorem rE(u:Up x):∀f lo H,H-lo<=f->lo<=H->H<=x.size->(∀i,i<lo->x.getD i 0<j)->(∀i,H<=i->i<x.size->j<=x.getD i 0)->
  X_ x j f lo H<=x.size/\(∀i,i<X_ x j f lo H->x.getD i 0<j)/\(∀i,X_ x j f lo H<=i->i<x.size->j<=x.getD i 0)
 |0,lo,H,l,n,s,a,b=>by
  have e:lo=H:=by lia
  subst e;exact⟨s,a,b⟩
 |f+1,lo,H,l,n,s,a,b=>by
  unfold X_;by_cases h:lo<H
  ·rw[Ox h];have q:=TS.mdx h;have m:=Pe q.2 s;have p:=TS.bsx (x:=0) (k:=f+1) l q.1 q.2
   by_cases c:x.getD ((lo+H)/2) j<j
   ·simp only[Ox c];refine rE u f _ _ p.1 q.2 s (λi d=>?_) b;rw[xK m j 0]at c;obtain g|g:=QZ i _
    ·exact VD (u i _ g m) c
    have e:i=(lo+H)/2:=abd g d
    rwa[e]
   simp only[Ov c];refine rE u f _ _ p.2 q.1 (Pu m) a λi d k=>?_;obtain g|g:=QZ ((lo+H)/2) i
   ·exact Pm (by simp_all)<|Pu<|u _ i g k
   have e:i=(lo+H)/2:=h7 g d
   simp_all
  rw[Ov h];have e:lo=H:=h7 n (hJ h)
  subst e;exact⟨s,a,b⟩
theorem eB(u:Up x)(j:Nat):Q5 x j<=x.size/\(∀i,i<Q5 x j->x.getD i 0<j)/\(∀i,Q5 x j<=i->i<x.size->j<=x.getD i 0):=
 rE u _ 0 _ (by simp) (by simp) (by simp) (by simp) (by lia)
theorem nz(u:Up x)(h:x[i]?=gV j):Q5 x j=i:=by
 obtain⟨a,b,B⟩:=eB u j;obtain⟨H,e⟩:=P0.mp h;have E:x.getD i 0=j:=by simp[H,e]
 obtain g|g|g:=Q9 (Q5 x j) i
 ·have:=B _ (N' _) (VD g H);have:=u _ _ g H;omega
 ·exact g
 have:=b i g;simp_all
theorem wm(u:Up x)(h:x[i]?=gV j):Q5 x (j+1)=i+1:=by
 obtain⟨a,b,B⟩:=eB u<|j+1;obtain⟨H,e⟩:=P0.mp h;have E:x.getD i 0=j:=by simp[U4,H,e]
 obtain g|g|g:=Q9 (Q5 x<|j+1) (i+1)
 ·have:=B i (Wk g) H;lia
 ·exact g
 have:=b _ g;have:=u i (i+1) (by simp) (Pe g a);omega
theorem wn(u:Up x):Q5 x 0=0:=by
 obtain⟨B,b,a⟩:=eB u 0;obtain g|g:=Zo _
 ·exact g
 have:=b 0 g;simp_all
def Mk(m:Nat):Prop:=m=7\/m=31
structure zQ (t:SetTable):Prop where
 mask:Mk t.mask
 dum:t.dummies=#[]
 up:Up t.place
 le:∀j∈t.place,j<=t.mask
 room:t.place.size<=t.mask
noncomputable def j_(t:SetTable)(j:Nat):Oe:=t.place.contains j
theorem eX:j_ t j=N7↔∃i:Nat,t.place[i]?=gV j:=by
 unfold j_;rw[RM,Array.mem_iff_getElem?]
theorem xL(j:Nat):has #[] j=false:=by
 rfl
theorem ql(T:zQ t)(h:t.place[i]?=gV j):t.slot j=.live i:=by
 unfold slot;simp only[nz T.up h,h];simp
theorem nA(T:zQ t)(j:Nat):(∃i,t.place[i]?=gV j/\t.slot j=.live i)\/(j_ t j=Oc/\t.slot j=.empty):=by
 by_cases h:j_ t j=N7
 ·obtain⟨i,H⟩:=eX.mp h;exact .inl ⟨i,H,ql T H⟩
 refine .inr ⟨by simpa using h,?_⟩;unfold slot;have n:¬(t.place[Q5 t.place j]? == gV j)=true:=λz=>h<|eX.mpr ⟨_,by simpa using z⟩;simp only[n,T.dum,xL,RI,OX]
theorem kI:∀(n:Nat) (l:ab Nat),(∀e,e<n->e∈l)->n<=l.length
 |0,_,_=>OG _
 |n+1,l,h=>by
  have H:=h n (Tq _);have:=kI n (l.erase n) λe a=>(Ys<|OQ a).mpr (h e<|QT a);rw[Wz H]at this;have:=SF H;lia
theorem qm(T:zQ t):∃e,e<=t.mask/\j_ t e=false:=by
 by_cases h:∃e,e<=t.mask/\j_ t e=Oc
 ·exact h
 exfalso;have:=kI (t.mask+1) t.place.toList λe H=>by
  cases c:j_ t e with
  |true=>
   unfold j_ at c;simp_all
  |false=>exact absurd ⟨e,Wk H,c⟩ h
 have:=T.room;simp at*;lia
noncomputable def qo(m:Nat)(p:TM):TM:=
 if p.more>0 then{p with j:=p.j+1,more:=p.more-1}else
 {p with j:=(WL m p.i p.perturb).1,more:=Vg m (WL m p.i p.perturb).1-(WL m p.i p.perturb).1,i:=(WL m p.i p.perturb).1,perturb:=(WL m p.i p.perturb).2}
noncomputable def b_(m:Nat):Nat->TM->TM
 |0,p=>p
 |k+1,p=>b_ m k<|qo m p
theorem cL(m:Nat):∀a b p,b_ m (a+b) p=b_ m b (b_ m a p)
 |0,b,p=>by rw[Qq];rfl
 |a+1,b,p=>by
  rw[VT];exact cL m a b<|qo m p
noncomputable def start(m:Nat)(h:Int):TM:={j:=YQ h%(m+1),more:=Vg m (YQ h%(m+1))-YQ h%(m+1),i:=YQ h%(m+1),perturb:=YQ h,dummy:=Oa}
theorem uj(t:SetTable)(h:Int):t.probeStart h=start t.mask h:=rfl
structure zR (m:Nat)(p:TM):Prop where
 i:p.i<=m
 per:p.perturb<2^64
 j:p.j+p.more=Vg m p.i
 ij:p.i<=p.j
 dum:p.dummy=Oa
theorem eD(h:i<=m):Vg m i<=m/\i<=Vg m i/\Vg m i<=i+9:=by
 unfold Vg;split<;>lia
theorem FY(h:Int):YQ h<2^64:=by
 unfold YQ;lia
theorem eW(m:Nat)(h:Int):zR m (start m h):=by
 have H:YQ h%(m+1)<=m:=Wk<|Xg _<|Z1 _;have:=eD H;exact⟨H,FY h,by simp only[start];simp_all,N' _,rfl⟩
theorem rF(m i p:Nat):(WL m i p).1<=m:=Wk<|Xg _<|Z1 _
theorem B0(h:zR m p):zR m (qo m p):=by
 obtain⟨b,H,d,e,a⟩:=h;unfold qo;by_cases c:p.more>0
 ·rw[Ox c];exact⟨b,H,by lia,Wj e,a⟩
 rw[Ov c];have i:=rF m p.i p.perturb;have:=eD i;exact⟨i,Ro (Nat.div_le_self _ _) H,by simp_all,N' _,a⟩
theorem iA:∀(k:Nat) {p:TM},zR m p->zR m (b_ m k p)
 |0,_,h=>h
 |k+1,_,h=>iA k<|B0 h
theorem LZ(h:zR m p):p.j<=m:=by
 have:=(eD h.i).1;have:=h.j;lia
theorem mh:∀(n:Nat) {p:TM},zR m p->p.more=n->∃k,k=n+1/\(b_ m k p).i=(WL m p.i p.perturb).1/\(b_ m k p).perturb=(WL m p.i p.perturb).2/\(b_ m k p).j=(WL m p.i p.perturb).1/\∀l,l<=n->(b_ m l p).j=p.j+l
 |0,p,h,H=>by
  exists 1,rfl;have e:qo m p={p with j:=(WL m p.i p.perturb).1,more:=Vg m (WL m p.i p.perturb).1-(WL m p.i p.perturb).1,i:=(WL m p.i p.perturb).1,perturb:=(WL m p.i p.perturb).2}:=by
   unfold qo;simp_all
  show(qo m p).i=_/\(qo m p).perturb=_/\(qo m p).j=_/\_
  rw[e];refine⟨rfl,rfl,rfl,λl a=>?_⟩;have:l=0:=by simp_all
  subst this;rfl
 |n+1,p,h,H=>by
  have e:qo m p={p with j:=p.j+1,more:=p.more-1}:=by
   unfold qo;simp_all
  obtain⟨k,f,A,b,c,d⟩:=mh n (B0 h) (by simp_all);refine⟨k+1,by simp_all,?_,?_,?_,λl a=>?_⟩
  ·show(b_ m k<|qo m p).i=_
   rw[A,e]
  ·show(b_ m k<|qo m p).perturb=_
   rw[b,e]
  ·show(b_ m k<|qo m p).j=_
   rw[c,e]
  cases l with
  |zero=>rfl
  |succ l=>
   show(b_ m l<|qo m p).j=_
   rw[d l (I0 a),e];exact VT _ _ _
noncomputable def eZ(m:Nat):Nat->Nat×Nat->Nat×Nat
 |0,q=>q
 |k+1,q=>eZ m k<|WL m q.1 q.2
theorem xM(h:zR m p):p.more<=9:=by
 have:=eD h.i;have:=h.j;have:=h.ij;lia
theorem uk:∀(n:Nat) {p:TM},zR m p->∃k,k<=10*(n+1)/\(b_ m k p).j=(eZ m (n+1) (p.i,p.perturb)).1/\(b_ m k p).i=(eZ m (n+1) (p.i,p.perturb)).1/\(b_ m k p).perturb=(eZ m (n+1) (p.i,p.perturb)).2
 |0,p,h=>by
  obtain⟨k,H,a,A,b,z⟩:=mh _ h rfl;have:=xM h;exact⟨k,by simp_all,b,a,A⟩
 |n+1,p,h=>by
  obtain⟨k,H,a,A,b,z⟩:=mh _ h rfl;have:=xM h;obtain⟨e,f,B,c,d⟩:=uk n<|iA k h;rw[a,A]at B c d;refine⟨k+e,by lia,?_,?_,?_⟩
  ·rwa[cL]
  ·rwa[cL]
  rwa[cL]
theorem qp(m:Nat):∀a b q,eZ m (a+b) q=eZ m b (eZ m a q)
 |0,b,q=>by rw[Qq];rfl
 |a+1,b,q=>by
  rw[VT];exact qp m a b _
theorem qq(m:Nat):∀a q,(eZ m a q).2=q.2/32^a
 |0,q=>by simp[eZ]
 |a+1,q=>by
  show(eZ m a<|WL m q.1 q.2).2=_
  rw[qq m a];show q.2/32/32^a=_
  rw[Xi,Rw,Z2]
theorem ul(m:Nat):∀a q,q.1<=m->(eZ m a q).1<=m
 |0,_,h=>h
 |a+1,q,h=>ul m a _<|rF m _ _
noncomputable def A3(m:Nat):Nat->Nat->Nat
 |0,i=>i
 |k+1,i=>A3 m k<|(i*5+1)%(m+1)
theorem nC(m:Nat):∀a i,(eZ m a (i,0)).1=A3 m a i
 |0,_=>rfl
 |a+1,i=>by
  show(eZ m a<|WL m i 0).1=A3 m a _
  rw[<-nC m a];rfl
theorem jE(m b:Nat):∀a i,A3 m (a+b) i=A3 m b (A3 m a i)
 |0,i=>by rw[Qq];rfl
 |a+1,i=>by rw[VT];exact jE m b a _
theorem F0(l:Mk m):∀i,i<=m->∀e,e<=m->∃k,k<m+1/\A3 m k i=e:=by
 obtain rfl|rfl:=l<;>decide +kernel
theorem qr(H:Mk m)(h:zR m p)(a:e<=m):(∃n,13<=n+1/\n+1<=m+13/\(eZ m (n+1) (p.i,p.perturb)).1=e):=by
 have E:eZ m 13 (p.i,p.perturb)=((eZ m 13 (p.i,p.perturb)).1,0):=by
  refine R8 rfl ?_;rw[qq];have:=h.per;exact WR (Pe this<|by simp)
 have l:=ul m 13 (p.i,p.perturb) h.i;obtain⟨k,c,b⟩:=F0 H _ l _ a;refine⟨12+k,QK (U1 _ _),by lia,?_⟩;rwa[show 12+k+1=13+k by exact VT _ _ _,qp,E,nC]
theorem lK(H:Mk m)(h:zR m p)(a:e<=m):∃k,k<10*kA m/\(b_ m k p).j=e:=by
 obtain⟨n,c,d,b⟩:=qr H h a;obtain⟨k,f,A,z⟩:=uk n h;refine⟨k,?_,by rw[A,b]⟩;unfold kA;lia
theorem xP(T:zQ t)(hashAt:Nat->Int)(h:Int):∀k f p,k<f->j_ t (b_ t.mask k p).j=Oc->∃r,WK t hashAt h f p=gV r
 |0,0,_,a,_=>by simp_all
 |_+1,0,_,a,_=>by simp_all
 |0,f+1,p,_,o=>by
  obtain⟨i,b,z⟩|⟨z,H⟩:=nA T p.j
  ·have:=eX.mpr ⟨i,b⟩;rw[show(b_ _ 0 p).j=p.j from rfl,this]at o;cases o
  ·exact⟨.empty p.j _,by unfold WK;rw[H]⟩
 |k+1,f+1,p,a,o=>by
  obtain⟨i,b,H⟩|⟨z,H⟩:=nA T p.j
  ·by_cases c:(hashAt i == h)=N7
   ·exact⟨.candidate p.j i<|t.advance p,by unfold WK;simp_all⟩
   obtain⟨r,d⟩:=xP T _ h k f _ (oj a) o;exists r;unfold WK;rw[H];simp only[c];exact d
  exact⟨.empty p.j _,by unfold WK;rw[H]⟩
theorem xQ(T:zQ t)(hashAt:Nat->Int)(h:Int):∀f p r,p.dummy=Oa->WK t hashAt h f p=gV r->
  ∃k,(∀l,l<k->∃i,t.place[i]?=gV (b_ t.mask l p).j/\hashAt i≠h)/\
   ((r=.empty (b_ t.mask k p).j Oa/\j_ t (b_ t.mask k p).j=Oc)\/∃i,t.place[i]?=gV (b_ t.mask k p).j/\hashAt i=h/\r=.candidate (b_ t.mask k p).j i (b_ t.mask (k+1) p))
 |0,p,r,_,e=>by cases e
 |f+1,p,r,d,e=>by
  unfold WK at e;obtain⟨i,b,s⟩|⟨o,s⟩:=nA T p.j
  ·rw[s]at e;by_cases c:(hashAt i == h)=N7
   ·simp only[c]at e;have E:=Oy e;exact⟨0,λl H=>by simp_all,.inr ⟨i,b,by simpa using c,E.symm⟩⟩
   simp only[c]at e;have a:(qo t.mask p).dummy=none:=by
    unfold qo
    split<;>exact d
   obtain⟨k,g,j⟩:=xQ T _ h f _ r a e;refine⟨k+1,λl H=>?_,j⟩;cases l with
   |zero=>exact⟨i,b,by simpa using c⟩
   |succ l=>exact g l (oj H)
  rw[s]at e;have E:=Oy e;exact⟨0,λl H=>by simp_all,.inl ⟨by rw[<-E,d];rfl,o⟩⟩
theorem nE(T:zQ t)(hashAt:Nat->Int)(h:Int)(H:zR t.mask p):
  ∃r k,t.probe hashAt h p=gV r/\(∀l,l<k->∃i,t.place[i]?=gV (b_ t.mask l p).j/\hashAt i≠h)/\
   ((r=.empty (b_ t.mask k p).j Oa/\j_ t (b_ t.mask k p).j=Oc)\/∃i,t.place[i]?=gV (b_ t.mask k p).j/\hashAt i=h/\r=.candidate (b_ t.mask k p).j i (b_ t.mask (k+1) p)):=by
 obtain⟨e,b,o⟩:=qm T;obtain⟨k,c,E⟩:=lK T.mask H b;obtain⟨r,a⟩:=xP T _ h k _ p c (by rwa[E]);obtain⟨d,f,g⟩:=xQ T _ h _ p r H.dum a;exact⟨r,d,a,f,g⟩
def Path(o:Nat->Oe)(m:Nat)(h:Int)(j:Nat):Prop:=∃k,(b_ m k<|start m h).j=j/\∀l,l<k->o (b_ m l<|start m h).j=N7
theorem Path.mono(H:Path O m h j)(f:∀e,O e=N7->o e=N7):Path o m h j:=by
 obtain⟨k,a,b⟩:=H;exact⟨k,a,λl c=>f _<|b l c⟩
theorem pI(T:zQ t)(h:Int):∃j,t.freeSlot h=gV (j,Oc)/\j_ t j=Oc/\j<=t.mask/\Path (j_ t) t.mask h j:=by
 obtain⟨r,k,H,a,b⟩:=nE T _ h<|eW _ h;have U:h+1≠h:=by lia
 obtain⟨rfl,o⟩|⟨i,z,e,z⟩:=b
 ·refine⟨(b_ _ k<|start _ h).j,?_,o,LZ<|iA k<|eW _ h,k,rfl,λl c=>?_⟩
  ·unfold freeSlot;rw[uj,H];rfl
  obtain⟨i,d,z⟩:=a l c;exact eX.mpr ⟨i,d⟩
 exact absurd e U
theorem ins_get{a:Type}(X:Pi a)(b:p<=X.size)(x:a)(i:Nat):(Ry X p x)[i]?=if i<p then X[i]? else if i=p then gV x else X[i-1]?:=by
 rw[<-O3,SetTable.toList_insertAt];have H:(X.toList.take p).length=p:=by simp_all
 by_cases c:i<p
 ·rw[Ox c,OV (H.symm▸c),P7 c,O3]
 rw[Ov c,OP (H.symm▸Nat.not_lt.1 c),H]
 by_cases d:i=p
 ·simp[d]
 rw[Ov d];obtain⟨k,rfl⟩:=Nat.exists_eq_add_of_lt (Nat.lt_of_le_of_ne (Nat.not_lt.1 c) (Ne.symm d));rw[Nat.add_assoc,Nat.add_sub_cancel_left];show(X.toList.drop p)[k]?=_
 rw[List.getElem?_drop,O3];rfl
theorem jF{a:Type}(X:Pi a)(h:p<=X.size)(x:a):(Ry X p x).size=X.size+1:=by
 have:=(Ux X p x).length_eq;simpa using this
theorem hQ:Up x↔∀i k a b:Nat,i<k->x[i]?=gV a->x[k]?=gV b->a<b:=by
 constructor
 ·intro u i k a b h d e;obtain⟨H,g⟩:=P0.mp e;have:=u i k h H;simp_all
 intro f i k h H;have c:i<x.size:=VD h H
 have:=f i k _ _ h (Pp c)<|Pp H;simp_all
theorem getD_some{x:Pi Nat}{i a:Nat}(h:x[i]?=gV a):x.getD i 0=a/\i<x.size:=by
 obtain⟨H,e⟩:=P0.mp h;simp_all
theorem J0(T:zQ t)(o:j_ t j=Oc):Up (Ry t.place (Q5 t.place j) j):=by
 obtain⟨B,m,n⟩:=eB T.up j;have r:∀i a,t.place[i]?=gV a->(i<Q5 _ j->a<j)/\(Q5 _ j<=i->j<a):=λi a h=>by
  obtain⟨e,p⟩:=getD_some h;refine⟨λc=>by have:=m i c;simp_all,λc=>?_⟩;have:=n i c p;have U:a≠j:=λz=>by
   have:=eX.mpr ⟨i,z▸h⟩;simp_all
  lia
 have u:=hQ.mp T.up;refine hQ.mpr λi k a b f h H=>?_;rw[ins_get _ B]at h H;by_cases g:i<Q5 t.place j
 ·rw[Ox g]at h;by_cases C:k<Q5 t.place j
  ·rw[Ox C]at H;exact u i k a b f h H
  rw[Ov C]at H;by_cases d:k=Q5 t.place j
  ·have:=(r i a h).1 g;simp_all
  rw[Ov d]at H;exact u i _ a b (by lia) h H
 rw[Ov g]at h;have C:¬k<Q5 t.place j:=by lia
 rw[Ov C]at H;have d:¬k=Q5 t.place j:=by lia
 rw[Ov d]at H;by_cases l:i=Q5 t.place j
 ·have:=(r _ b H).2 (by lia);simp_all
 rw[Ov l]at h;exact u _ _ a b (by omega) h H
theorem F1(T:zQ t)(h:j_ t j=Oc)(H:j<=t.mask)(r:t.place.size+1<=t.mask):
  t.put j=({t with place:=Ry t.place (Q5 t.place j) j},Q5 t.place j)/\zQ {t with place:=Ry t.place (Q5 t.place j) j}/\(∀e,j_ {t with place:=Ry t.place (Q5 t.place j) j} e=N7↔j_ t e=N7\/e=j):=by
 obtain⟨b,B,d⟩:=eB T.up j;have a:∀e,e∈Ry t.place (Q5 t.place j) j↔e∈t.place\/e=j:=λe=>by
  rw[<-Sf,(Ux _ _ j).mem_iff];simp
 refine⟨?_,⟨T.mask,T.dum,J0 T h,λe c=>?_,?_⟩,λe=>?_⟩
 ·unfold put;simp only[T.dum,xL,RI,OX]
 ·obtain w|rfl:=(a e).mp c
  ·exact T.le e w
  exact H
 ·show(Ry _ _ j).size<=t.mask
  rwa[jF _ b]
 unfold j_;rw[RM,RM];exact a e
theorem nG:∀(b L:ab Nat),b.Nodup->L.Nodup->(∀x,x∈b↔x∈L)->b.Perm L
 |[],L,_,_,h=>by
  cases L with
  |nil=>rfl
  |cons a l=>exact absurd ((h a).mpr Ot) (by simp)
 |a::b,L,d,c,h=>by
  have f:=(h a).mp Ot;refine afy (.cons a ?_) (List.perm_cons_erase f).symm;obtain⟨n,N⟩:=PF.mp d;refine nG b _ N (c.erase a) λx=>?_;grind
structure Own (m:Nat)(owner:Pi (M' Nat))(js:ab Nat)(hs:ab Int):Prop where
 size:owner.size=m+1
 len:js.length=hs.length
 le:∀j∈js,j<=m
 at_:∀j q:Nat,owner[j]?=gV (gV q)↔js[q]?=gV j
 path:∀(q:Nat) (h:Int) (j:Nat),hs[q]?=gV h->js[q]?=gV j->Path (λe=>js.contains e) m h j
theorem Own.none_iff(O:Own m owner j s)(b:e<=m):(owner.getD e<|gV 0).isNone=N7↔j.contains e=false:=by
 have r:e<owner.size:=by rw[O.size];exact Z3 b
 have a:owner.getD e (gV 0)=owner[e]:=by simp[U4,r]
 have E:=Pp r;rw[a];cases c:owner[e]with
 |none=>
  simp only[Zm,true_iff];cases d:j.contains e with
  |false=>rfl
  |true=>
   obtain⟨q,h⟩:=P4.mp<|Oq.mp d;have:=(O.at_ e q).mpr h;lia
 |some q=>
  rw[c]at E;have:=(O.at_ e q).mp E;have H:=Oq.mpr<|N5 this;rw[H];simp
structure MV (m:Nat)(p:TM):Prop where
 ok:zR m p
 ij:p.j=p.i
theorem run_next{m:Nat}{p:TM}(R:MV m p):∃k,k=Vg m p.i+1-p.i/\MV m (b_ m k p)/\(b_ m k p).i=(WL m p.i p.perturb).1/\(b_ m k p).perturb=(WL m p.i p.perturb).2/\∀l,l<k->(b_ m l p).j=p.i+l:=by
 obtain⟨k,H,a,A,b,c⟩:=mh _ R.ok rfl;have d:=R.ok.j;have h:=R.ij;refine⟨k,by lia,⟨iA k R.ok,by rw[b,a]⟩,a,A,λl e=>?_⟩;rw[c l (by lia),h]
theorem qt(O:Own m owner J x):∀f p j,MV m p->SU m owner f p.i p.perturb=gV j->
  ∃k,(b_ m k p).j=j/\J.contains j=Oc/\j<=m/\∀l,l<k->J.contains (b_ m l p).j=N7
 |0,p,j,_,e=>by cases e
 |f+1,p,j,R,e=>by
  unfold SU at e;have y:=eD R.ok.i;obtain⟨a,b,R2,i,n,A⟩:=run_next R;cases c:(O7<|Vg m p.i+1-p.i).find? _ with
  |some k=>
   rw[c]at e;have E:=Oy e;obtain⟨C,o,q⟩:=List.find?_range_eq_some.mp c;have r:=PY.mp o;refine⟨k,by simp_all,?_,by lia,λl h=>?_⟩
   ·rw[<-E];exact(O.none_iff<|by lia).mp C
   ·rw[A l<|by lia];have H:=q l h;cases d:J.contains _ with
    |true=>rfl
    |false=>
     have s:=(O.none_iff<|by lia).mpr d;rw[s]at H;assumption
  |none=>
   rw[c]at e;have E:SU m _ f (WL m p.i _).1 (WL m p.i _).2=gV j:=e;rw[<-i,<-n]at E;obtain⟨k,t,u,v,w⟩:=qt O f _ j R2 E;refine⟨a+k,by rwa[cL],u,v,λl h=>?_⟩;obtain g|g:=QZ l a
   ·rw[A l g];have:=Rq.mp c l (PY.mpr<|Pe g (UC b));cases d:J.contains _ with
    |true=>rfl
    |false=>exact absurd ((O.none_iff<|by lia).mpr d) this
   have:=w (l-a) (by lia);rwa[<-cL,show a+(l-a)=l by exact lB g]at this
theorem xR(O:Own m owner J s)(h:e<=m)(H:J.contains e=Oc):∀n f i p,i<=m->n<f->(eZ m n (i,p)).1=e->∃j,SU m owner f i p=gV j
 |n,0,_,_,_,a,_=>by simp_all
 |n,f+1,i,p,b,a,l=>by
  unfold SU;have r:=eD b;cases c:(O7<|Vg m i+1-i).find? _ with
  |some k=>exact⟨i+k,rfl⟩
  |none=>
   cases n with
   |zero=>
    have E:i=e:=l;have:=Rq.mp c 0 (by grind);rw[E]at this;exact absurd ((O.none_iff h).mpr H) this
   |succ n=>exact xR O h H n f _ _ (rF m i p) (oj a) l
noncomputable def mo(m:Nat)(r:M' (Pi (M' Nat)×Nat))(h:Int):M' (Pi (M' Nat)×Nat):=do
 let (o,k) <-r
 let j <-SU m o (kA m) (YQ h%(m+1)) (YQ h)
 pure (o.setIfInBounds j<|gV k,k+1)
theorem zT(m:Nat)(h:Int):MV m (start m h):=⟨eW m h,rfl⟩
theorem B2(v:Mk m)(O:Own m owner J s)(h:Int)(I:J.length<=m):
  ∃A i,mo m (gV (owner,s.length)) h=gV (A,(s++[h]).length)/\Own m A i (s++[h]):=by
 obtain⟨e,b,x⟩:∃e,e<=m/\J.contains e=false:=by
  by_cases c:∃e,e<=m/\J.contains e=Oc
  ·exact c
  exfalso;have:=kI (m+1) J λe b=>by
   cases d:J.contains e with
   |true=>exact Oq.mp d
   |false=>exact absurd ⟨e,Wk b,d⟩ c
  lia
 obtain⟨n,L,M,N⟩:=qr v (eW m h) b;obtain⟨j,r⟩:=xR O b x (n+1) (kA m) (YQ h%(m+1)) (YQ h) (eW m h).i (by unfold kA;exact Z3 (Wj M)) N;obtain⟨k,y,B,C,D⟩:=qt O (kA m) (start m h) j (zT m h) r;have o:j<owner.size:=by rw[O.size];exact Z3 C
 have p:∀q,¬owner[j]?=gV (gV q):=λq z=>by
  have:=Oq.mpr<|N5<|(O.at_ j q).mp z;lia
 refine⟨owner.setIfInBounds j<|gV s.length,J++[j],?_,⟨?_,?_,?_,?_,?_⟩⟩
 ·unfold mo;simp_all
 ·rw[Array.size_setIfInBounds];exact O.size
 ·rw[N9,N9,O.len];rfl
 ·intro a H;obtain w|w:=OH.mp H
  ·exact O.le a w
  rwa[Oi.mp w]
 ·intro a q;rw[Array.getElem?_setIfInBounds];by_cases c:j=a
  ·subst c;rw[Ox rfl,Ox o];constructor
   ·intro z;have:s.length=q:=by simpa using z
    subst this;rw[<-O.len,OP<|N' _,P3];rfl
   intro z;obtain g|g|g:=Q9 q _
   ·rw[OV g]at z;exact absurd ((O.at_ j q).mpr z)<|p q
   ·rw[g,O.len]
   rw[Py<|by rw[N9,OL];exact Wk (j' g)]at z;cases z
  rw[Ov c,O.at_];constructor
  ·intro z;have:=(N8.mp z).1;rwa[OV this]
  intro z;obtain g|g|g:=Q9 q _
  ·rwa[OV g]at z
  ·simp_all
  rw[Py<|by rw[N9,OL];exact Wk (j' g)]at z;cases z
 have u:∀e,J.contains e=N7->(J++[j]).contains e=true:=λe b=>by
  rw[Oq]at b ⊢;exact QH _ b
 intro q t a f H;obtain g|g|g:=Q9 q _
 ·rw[OV g]at H;rw[OV<|by rwa[<-O.len]]at f;exact(O.path q t a f H).mono u
 ·rw[g,OP<|N' _]at H;rw[g,O.len,OP<|N' _]at f;have E:j=a:=by simpa using H
  have F:h=t:=by simpa using f
  subst E F;exact⟨k,y,λl G=>u _<|D l G⟩
 rw[Py<|by rw[N9,OL];exact Wk (j' g)]at H;cases H
theorem um(b:Mk m):∀Z H owner j,Own m owner j H->H.length+Z.length<=m+1->
  ∃a J,Z.foldl (mo m) (gV (owner,H.length))=gV (a,(H++Z).length)/\Own m a J (H++Z)
 |[],H,owner,j,O,_=>⟨owner,j,by simp,by simp_all⟩
 |h::r,H,owner,j,O,l=>by
  obtain⟨o,c,e,d⟩:=B2 b O h (by rw[O.len];simp at l;lia);obtain⟨f,g,E,i⟩:=um b r _ o c d (by simp at l ⊢;lia);refine⟨f,g,?_,?_⟩
  ·rw[SM,e,E];simp
  simp_all
theorem F2(m:Nat):Own m (aa6 (m+1) Oa) [] [] where
 size:=by simp
 len:=rfl
 le:=λz h=>nomatch h
 at_:=λj q=>by
  simp[Array.getElem?_replicate]
 path:=λq h j H=>by simp at H
theorem wo(h:Mk m)(T:Pi Int)(H:T.size<=m+1):∃owner J,layClean m T=gV owner/\Own m owner J T.toList:=by
 obtain⟨o,j,e,O⟩:=um h T.toList [] _ [] (F2 m) (by simp_all);refine⟨o,j,?_,by assumption⟩;unfold layClean;rw[<-Array.foldl_toList];show x9 _ (T.toList.foldl (mo m)<|gV (aa6 _ Oa,([]:ab Int).length))=_
 rw[e];rfl
theorem zU(B:Mk m)(finger moves:Nat)(led plain:Oe)(T:Pi Int)(M:T.size<=m):
  ∃t' Y,laid m finger moves led plain T=gV (t',Y)/\t'.mask=m/\t'.led=led/\t'.plain=plain/\zQ t'/\t'.place.size=T.size/\Y.toList.Perm (O7 T.size)/\
   ∀(i q j:Nat) (h:Int),Y[i]?=gV q->t'.place[i]?=gV j->T[q]?=gV h->Path (j_ t') m h j:=by
 obtain⟨r,J,e,O⟩:=wo B T (Wj M);have F:J.length=T.size:=by rw[O.len];simp
 let f:Nat->M' (Nat×Nat):=λj=>(r.getD j Oa).map (j,·)
 let L:ab (Nat×Nat):=(O7<|m+1).filterMap f
 have p:∀j b,f j=gV b↔j=b.1/\r[j]?=gV (gV b.2):=λj b=>by
  show(r.getD j Oa).map (j,·)=gV b↔_
  have E:r.getD j Oa=(r[j]?).getD none:=by simp
  rw[E];cases c:r[j]? with
  |none=>simp
  |some o=>
   cases o with
   |none=>simp
   |some q=>
    simp;constructor
    ·rintro rfl;simp
    simp_all
 have mem:∀b:Nat×Nat,b∈L↔J[b.2]?=gV b.1:=λb=>by
  show b∈(O7<|m+1).filterMap f↔_
  rw[VX];constructor
  ·rintro⟨j,Z,H⟩;obtain⟨rfl,n⟩:=(p j b).mp H;exact(O.at_ _ _).mp n
  intro h;have H:=O.le b.1<|N5 h;exact⟨b.1,by grind,(p b.1 b).mpr ⟨rfl,(O.at_ _ _).mpr h⟩⟩
 have P:L.Pairwise (λa b=>a.1<b.1):=by
  refine List.pairwise_filterMap.mpr<|ae_ (λ{a b} v x g y l=>?_) List.pairwise_lt_range;simp_all
 have N:(L.map (·.2)).Nodup:=by
  refine Ph.mpr<|TV (λ{a b} s d v=>?_) P;intro z;simp_all
 have C:(L.map (·.2)).Perm (O7 T.size):=by
  refine nG _ _ N aav λx=>?_;rw[OK,PY];constructor
  ·rintro⟨b,d,rfl⟩;have:=(N8.mp<|(mem b).mp d).1;simp_all
  simp_all
 have len:L.length=T.size:=by
  have:=C.length_eq;simpa using this
 have w:∀e,J.contains e=N7->(L.map (·.1)).toArray.contains e=true:=λe D=>by
  rw[Oq]at D;obtain⟨q,u⟩:=P4.mp D;rw[RM,aaw,OK];exact⟨(e,q),(mem _).mpr u,rfl⟩
 refine⟨{mask:=m,place:=(L.map (·.1)).toArray,dummies:=#[],finger,led,moves,plain},(L.map _).toArray,?_,rfl,rfl,rfl,⟨B,rfl,hQ.mpr λi k a b A s d=>?_,λj H=>?_,?_⟩,?_,C,λi q j h u H I=>?_⟩
 ·unfold laid;rw[e];rfl
 ·simp only[XS,Ow]at s d;obtain⟨x,g,rfl⟩:=PK.mp s;obtain⟨y,l,rfl⟩:=PK.mp d;obtain⟨t,rfl⟩:=N8.mp g;obtain⟨n,rfl⟩:=N8.mp l;exact QM.mp P i k t n A
 ·simp only[aaw,OK]at H;obtain⟨b,d,rfl⟩:=H;exact O.le _<|N5<|(mem b).mp d
 ·simp_all
 ·simp_all
 simp only[XS,Ow]at u H;obtain⟨x,g,rfl⟩:=PK.mp u;obtain⟨y,l,rfl⟩:=PK.mp H;rw[g]at l;obtain rfl:=Oy l;exact(O.path x.2 h x.1 (by rwa[O3])<|(mem x).mp<|N5 g).mono w
structure PT (t:SetTable)(hs:ab Int):Prop where
 tab:zQ t
 plain:t.plain=N7
 len:t.place.size=hs.length
 reach:∀(i:Nat) (h:Int) (j:Nat),hs[i]?=gV h->t.place[i]?=gV j->Path (j_ t) t.mask h j
structure TT (t:SetTable)(hs:ab Int):Prop extends PT t hs where
 small:5*hs.length<3*t.mask
 most:hs.length<=18
theorem F3(T:PT t h):t.fits h.length=true:=by
 unfold SetTable.fits;have:=T.tab.room;have e:t.fill<=t.mask:=by
  unfold fill;rw[T.tab.dum];assumption
 simp[T.len,e]
theorem B3(led:Oe):TT (.fresh 0 0 led) [] where
 tab:=⟨.inl rfl,rfl,λi k H a=>by simp[X9]at a,λj b=>by simp[X9]at b,by simp[X9]⟩
 plain:=rfl
 len:=rfl
 reach:=λi h j c=>by simp at c
 small:=by show 5*0<3*7;simp
 most:=by simp
noncomputable abbrev eE(e:Pi (Int×K')):ab Int:=e.toList.map (·.1)
theorem B4(e:Pi (Int×K'))(h:p<=e.size)(x:Int×K')(i:Nat):(eE<|Ry e p x)[i]?=if i<p then(eE e)[i]? else if i=p then gV x.1 else(eE e)[i-1]?:=by
 rw[Ow,O3,ins_get e h];by_cases c:i<p
 ·simp[c]
 by_cases d:i=p
 ·simp[d]
 simp[c,d]
theorem qu(T:TT t (eE E)){x:K'}(o:j_ t j=Oc)(k:j<=t.mask)(p:Path (j_ t) t.mask h j):
  t.put j=({t with place:=Ry t.place (Q5 t.place j) j},Q5 t.place j)/\PT {t with place:=Ry t.place (Q5 t.place j) j} (eE<|Ry E (Q5 t.place j) (h,x))/\(Ry E (Q5 t.place j) (h,x)).size=E.size+1/\Q5 t.place j<=E.size:=by
 have s:t.place.size=E.size:=by rw[T.len];simp
 obtain⟨B,v,w⟩:=eB T.tab.up j;have f:Q5 t.place j<=E.size:=by simp_all
 have r:t.place.size+1<=t.mask:=by
  have:=T.small;grind
 obtain⟨P,l,m⟩:=F1 T.tab o k r;have u:∀e,j_ t e=N7->j_ {t with place:=Ry _ _ j} e=true:=λe n=>(m e).mpr<|.inl n;refine⟨P,⟨l,T.plain,?_,λi g a b q=>?_⟩,jF _ f _,f⟩
 ·show(Ry _ _ j).size=_
  rw[jF _ B,s];simp[jF _ f]
 rw[B4 _ f]at b;have H:(Ry _ _ j)[i]?=gV a:=q;rw[ins_get _ B]at H;by_cases c:i<Q5 t.place j
 ·rw[Ox c]at b H;exact(T.reach i g a b H).mono u
 rw[Ov c]at b H;by_cases d:i=Q5 t.place j
 ·rw[Ox d]at b H;cases b;cases H;exact p.mono u
 rw[Ov d]at b H;exact(T.reach _ g a b H).mono u
theorem B5{b:Type}(e:Pi b):∀(l:ab Nat),(∀q∈l,q<e.size)->∀i:Nat,(l.filterMap λq=>e[q]?)[i]?=(l[i]?).bind λq=>e[q]?
 |[],_,i=>by simp
 |q::l,h,i=>by
  have H:=h q Ot;rw[TF,Pp H];cases i with
  |zero=>simp
  |succ i=>simpa using B5 e l (λa c=>h a<|Os _ c) i
def Fl(n:Nat):Prop:=n=5
theorem nI(T:PT t (eE E))(n:Fl E.size):
  ∃t' s,t.relaid (E.map (·.1)) (grown E.size)=gV (t',s)/\t'.led=t.led/\s.toList.Perm (O7 E.size)/\(s.filterMap (E[·]?)).toList.Perm E.toList/\(s.filterMap (E[·]?)).size=E.size/\TT t' (eE (s.filterMap (E[·]?))):=by
 obtain⟨m,em,l,d⟩:∃m,sizeAbove (grown E.size)-1=m/\Mk m/\5*E.size<3*m:=by
  rw[show E.size=5 from n];exact⟨31,by rfl,.inr rfl,by simp⟩
 have f:E.size<=18:=by unfold Fl at n;lia
 obtain⟨t',s,e,g,o,p,r,k,b,u⟩:=zU l _ _ _ _ (E.map _) (by simp;lia);rw[YD]at k b;have U:∀q∈s.toList,q<E.size:=λq w=>PY.mp<|b.mem_iff.mp w;have F:∀i,(s.filterMap _)[i]?=(s[i]?).bind _:=λi=>by
  rw[<-O3,Xr,B5 E _ U,O3]
 have A:(s.filterMap (E[·]?)).toList.Perm E.toList:=by
  rw[Xr];refine(b.filterMap _).trans ?_;rw[filterMap_getElem?_range]
 have z:(s.filterMap (E[·]?)).size=E.size:=by
  have:=A.length_eq
  assumption
 have H:(eE (s.filterMap (E[·]?))).length=E.size:=by
  grind
 refine⟨t',s,?_,o,b,A,z,⟨⟨r,p.trans T.plain,?_,λi h j a x=>?_⟩,?_,?_⟩⟩
 ·unfold relaid;rwa[em]
 ·rw[k,H]
 ·rw[Ow,O3,F]at a;cases c:s[i]? with
  |none=>simp_all
  |some q=>
   grind
 ·rwa[g,H]
 rwa[H]
theorem uo(T:PT t H)(h:t.tooFull=Oc)(l:H.length<=18):TT t H:=by
 refine⟨T,?_,l⟩;unfold tooFull fill at h;rw[T.len]at h;lia
theorem xS(T:PT t H)(h:t.tooFull=N7)(l:H.length<=18)(a:5*(H.length-1)<3*t.mask):Fl H.length:=by
 unfold tooFull fill at h;rw[T.tab.dum,T.len]at h;simp at h;unfold Fl;obtain e|e:=T.tab.mask<;>rw[e]at h a<;>lia
end TB
namespace SW
open PySem PySem.SetTable TB
noncomputable def be(w:ON):Oe:=w.params.followText "set-order"
def SetAt(w:ON)(h:Pd)(S:J')(e:Pi (Int×K'))(E:Nat):Prop:=
 ∃o t,h.get? S=gV o/\o.ExactSet/\o.data=.set e E t/\TT t (eE e)/\t.led=!be w
theorem SetAt.typeIs{w:ON}{s:Od}{S:J'}{e:Pi (Int×K')}{E:Nat}(h:SetAt w s.heap S e E):s.TypeIs (.ref S) "set":=let ⟨o,_,H,c,_⟩:=h;⟨o,H,c.1⟩
theorem SetAt.keep{S:J'}(x:SetAt w h S e E)(k:∀o,h.get? S=gV o->h'.get? S=gV o):SetAt w h' S e E:=
 let ⟨o,t,H,r⟩:=x;⟨o,t,k o H,r⟩
theorem SetAt.lt{S:J'}(x:SetAt w h S e E):S<h.objs.size:=let ⟨_,_,H,_⟩:=x;OB H
theorem dL(e:Pi (Int×K')):(eE e).length=e.size:=by simp
theorem dM(T:PT t (eE e)):t.fits e.size=true:=by
 have:=F3 T
 rwa [dL]at this
theorem nJ{b:Type}:∀(l:ab b) (i:Nat) (h:i<l.length),(l[i]::l.eraseIdx i).Perm l
 |[],_,h=>absurd h (by simp)
 |a::l,0,_=>by simp
 |a::l,i+1,h=>by
  have z:=nJ l i (oj h);exact(agb a _ _).trans<|z.cons a
theorem qv{a:Type}(next:Nat->Nat):∀(n k:Nat) (left:ab a) (o:Pi a),left.length=n->(ZK next n k left o).toList.Perm (o.toList++left)
 |0,k,left,o,h=>by
  have:=PN.mp h;subst this;unfold ZK;simp
 |n+1,k,left,o,h=>by
  have r:next k%left.length<left.length:=Xg _ (by simp_all)
  unfold ZK;rw[N_ r];refine(qv _ n _ _ _ (by rw[List.length_eraseIdx_of_lt r];lia)).trans ?_;rw[S9,O5];exact adC _<|nJ _ _ r
noncomputable def dq(w:ON)(S:J')(e:Pi (Int×K'))(E:Nat):Pi (Int×K'):=if be w=N7 then YI (w.params.setOrder S E) e else e
theorem nK(w:ON)(S:J')(e:Pi (Int×K'))(E:Nat):(dq w S e E).toList.Perm e.toList:=by
 unfold dq
 split
 ·have:=qv (w.params.setOrder S E) e.toList.length 0 _ #[] rfl;simpa[YI]using this
 rfl
theorem jb(w:ON)(S:J')(e:Pi (Int×K'))(E:Nat):(dq w S e E).size=e.size:=by
 have:=(nK w S e E).length_eq;simpa using this
theorem ft(h:Q (be w) s):wpAny (OS p w) A setsByText Q E s:=B'<|WH<|Of h
def At(w:ON)(t:SetTable)(slot i:Nat):Prop:=be w=N7\/Q5 t.place slot=i
theorem zV{S:J'}{a:Pi (Int×K')}{p slot i:Nat}{o:Obj}{t:SetTable}{x:Int×K'}{Q:M' (K'×Nat)->Od->Prop}
  (H:s.heap.get? S=gV o) (d:o.data=.set a p t) (T:TT t (eE a)) (l:t.led=!be w) (g:At w t slot i) (h:(dq w S a p)[i]?=gV x)
  (c:∀v,At w t v (i+1)->Q (gV (x.2,v)) s):wpAny (OS P w) A (ZI S slot i p) Q E s:=by
 have f:=dM T.toPT;refine B'<|Qu H d f<|B'<|ft ?_;by_cases b:be w=N7
 ·unfold dq at h;rw[Ox b]at h;rw[b]
  rw[Ox rfl,Ov<|by simp];refine B'<|B'<|Qu H d f<|B'<|ft ?_;rw[b]
  refine B'<|WH<|Of<|Of ?_;show Q (((YI (w.params.setOrder S p) a)[i]?).map _) s
  rw[h];exact c _<|.inl b
 have B:be w=false:=by simpa using b
 unfold dq at h;rw[Ov b]at h;rw[B]
 have e:Q5 t.place slot=i:=by
  obtain z|z:=g
  ·exact absurd z b
  exact z
 have k:=(P0.mp h).1;have m:i<t.place.size:=by rwa[T.len,dL]
 have j:=Pp m;show wpAny _ _ (if(!t.plain&&decide _)=N7 then _ else _) _ _ _
 rw[T.plain];show wpAny _ _ ((if(!t.led&&!a.isEmpty)=N7 then _ else _) >>=_) _ _ _
 rw[l,B];refine B'<|Of<|Of ?_;rw[e,h,j];exact c _<|.inr<|wm T.tab.up j
theorem B6{S:J'}{a:Pi (Int×K')}{p slot:Nat}{o:Obj}{t:SetTable}{Q:M' (K'×Nat)->Od->Prop}
  (h:s.heap.get? S=gV o) (H:o.data=.set a p t) (T:TT t (eE a)) (l:t.led=!be w) (d:At w t slot a.size)
  (c:Q Oa s):wpAny (OS P w) A (ZI S slot a.size p) Q E s:=by
 have f:=dM T.toPT;refine B'<|Qu h H f<|B'<|ft ?_;by_cases b:be w=N7
 ·rw[b]
  rw[Ox rfl,Ov<|by simp];refine B'<|B'<|Qu h H f<|B'<|ft ?_;rw[b]
  refine B'<|WH<|Of<|Of ?_;have e:(YI (w.params.setOrder S p) a)[a.size]?=none:=by
   have z:=jb w S a p;unfold dq at z;exact UI (by lia)
  show Q (((YI (w.params.setOrder S p) a)[a.size]?).map _) s
  rwa[e]
 have B:be w=false:=by simpa using b
 rw[B]
 have e:Q5 t.place slot=a.size:=by
  obtain z|z:=d
  ·exact absurd z b
  exact z
 show wpAny _ _ (if(!t.plain&&decide _)=N7 then _ else _) _ _ _
 rw[T.plain];show wpAny _ _ ((if(!t.led&&!a.isEmpty)=N7 then _ else _) >>=_) _ _ _
 rw[l,B];refine B'<|Of<|Of ?_;rwa[e,UI<|N' _]
theorem gc:Slot "set_iterator" "__next__" "set_iterator.__next__":=.of (owner:="set_iterator") (n:="__next__") (by rfl) (by rfl) (by rfl) (by rfl) (by first|exact .inl (by rfl)|exact .inr<|by decide+kernel) (by rfl)
theorem xT:Slot "set_iterator" "__iter__" "set_iterator.__iter__":=.of (owner:="set_iterator") (n:="__iter__") (by rfl) (by rfl) (by rfl) (by rfl) (by first|exact .inl (by rfl)|exact .inr<|by decide+kernel) (by rfl)
theorem xU:rb table "set_iterator.__next__"=gV Builtin.«set_iterator.__next__»:=aah (by rfl)
theorem F4:rb table "set_iterator.__iter__"=gV Builtin.«dict_keyiterator.__iter__»:=abt (id':="dict_keyiterator.__iter__") (by kernel_rfl) rfl (by decide+kernel) (by kernel_rfl)
theorem uq:rb table "set.__iter__"=gV Builtin.«frozenset.__iter__»:=abt (id':="frozenset.__iter__") (by kernel_rfl) rfl (by decide+kernel) (by kernel_rfl)
theorem HP:Manifest.owners.lookup (String.ofList ['r','o','t','a','r','e','t','i','_','t','e','s'].reverse)=gV Manifest.sig_set_iterator:=by kernel_rfl
theorem xV(a:K'):ud "set_iterator.__next__" ⟨[a],[]⟩:=by
 rfl
theorem F5(a:K'):ud "set_iterator.__iter__" ⟨[a],[]⟩:=by
 rfl
def IsIt(h:Pd)(I S:J')(slot i n e:Nat):Prop:=∃o,h.get? I=gV o/\o.cls=.type "set_iterator"/\o.data=.fields #[.int slot 0,.int i 0,.ref S,.int n 0,.int e 0]
theorem IsIt.typeIs{s:Od}{I S:J'}{slot i n e:Nat}(h:IsIt s.heap I S slot i n e):s.TypeIs (.ref I) "set_iterator":=let ⟨o,H,c,_⟩:=h;⟨o,H,c⟩
theorem IsIt.keep{h h':Pd}{I S:J'}{slot i n e:Nat}(x:IsIt h I S slot i n e)(k:∀o,h.get? I=gV o->h'.get? I=gV o):IsIt h' I S slot i n e:=let ⟨o,H,r⟩:=x;⟨o,k o H,r⟩
theorem F6{S:J'}{e:Pi (Int×K')}{p slot i:Nat}{o:Obj}{t:SetTable}{x:Int×K'}{Q:M' K'->Od->Prop}(U:S≠I)
  (hit:IsIt s.heap I S slot i e.size p) (f:s.heap.get? S=gV o) (g:o.data=.set e p t) (T:TT t (eE e)) (l:t.led=!be w) (k:At w t slot i) (m:(dq w S e p)[i]?=gV x)
  (n:∀v h',At w t v (i+1)->IsIt h' I S v (i+1) e.size p->RK I s.heap h'->Q (gV x.2) {s with heap:=h'}):
  wpAny (OS P w) A (UT<|.ref I) Q E s:=by
 obtain⟨O,H,a,h⟩:=id hit;have q:=dM T.toPT;refine B'<|Wv<|So hit.typeIs gc<|Rl gc hit.typeIs xU ?_<|xV _;refine B'<|Of<|B'<|abk H h ?_;refine B'<|Vm f g q ?_;rw[Ov<|by simp];show wpAny _ _ _ _ _ s
 refine B'<|zV f g T l k m λv b=>?_;show wpAny _ _ (T1 _ 0 _ >>=_) _ _ s
 refine B'<|X1 H h (by simp) ?_;have j:(s.heap.update I (Ww (·.setIfInBounds 0 (SC (v))))).get? I=gV (Ww (·.setIfInBounds 0 _) O):=Rh _ H<|XH<|Uc h _;have d:=Uc h (·.setIfInBounds 0 (SC (v)));show wpAny _ _ (T1 _ 1 _ >>=_) _ _ _
 refine B'<|X1 j d (by simp) ?_;have c:IsIt ((s.heap.update I (Ww (·.setIfInBounds 0 (SC (v))))).update I (Ww (·.setIfInBounds 1 (SC<|(i)+1)))) I S v (i+1) e.size p:=by
  refine⟨_,Rh _ j<|XH<|Uc d _,?_,?_⟩
  ·rwa[ZT,ZT]
  rw[Uc d];rfl
 exact Of ⟨_,rfl,Of<|n v _ b c<|(Qo ..).trans (Qo ..)⟩
theorem J1{I S:J'}{e:Pi (Int×K')}{p slot:Nat}{o:Obj}{t:SetTable}{Q:M' K'->Od->Prop}(b:A.handled=Oa)
  (hit:IsIt s.heap I S slot e.size e.size p) (a:s.heap.get? S=gV o) (d:o.data=.set e p t) (T:TT t (eE e)) (l:t.led=!be w) (c:At w t slot e.size)
  (f:∀h',Heap.ExtBut I s.heap h'->Q Oa {s with heap:=h'}):wpAny (OS P w) A (UT<|.ref I) Q E s:=by
 obtain⟨O,h,i,H⟩:=id hit;have g:=dM T.toPT;refine B'<|Wv<|So hit.typeIs gc<|Rl gc hit.typeIs xU ?_<|xV _;refine B'<|Of<|B'<|abk h H ?_;refine B'<|Vm a d g ?_;rw[Ov<|by simp];show wpAny _ _ _ _ _ s
 refine B'<|B6 a d T l c ?_;show wpAny _ _ _ _ _ s
 refine B'<|X1 h H (by simp) ?_;show wpAny _ _ (newExc _ [] >>=_) _ _ _
 refine B' ?_;simp only ;refine B' (Qg ?_<|by size_fits);refine B'<|Ip (a:=VM) (by rfl)<|Qg ?_ (by size_fits);simp only ;refine B'<|wpAny_handled ?_;rw[b];refine B'<|Of<|wpAny_throw ?_;exact B'<|aad ⟨_,OT _ rfl,rfl⟩ isSubtype_stop<|Of<|f _<|((Qo ..).extBut.push _).push _
theorem F7{I S:J'}{slot i n e:Nat}{Q:K'->Od->Prop}(hit:IsIt s.heap I S slot i n e)(h:Q (.ref I) s):wpAny (OS p w) A (X4<|.ref I) Q E s:=by
 refine ZF hit.typeIs xT<|Rl xT hit.typeIs F4 ?_<|F5 _;exact Of ⟨_,rfl,"set_iterator",_,hit.typeIs,gc.lookup,h⟩
theorem zX(D:A.handled=Oa)(I S:J')(U:S≠I)(a:Pi (Int×K'))(p:Nat):
  Walks P w A I [I,S] [I] a.size (λi v=>∃x,(dq w S a p)[i]?=gV x/\v=x.2)
   (λi h=>∃slot o t,IsIt h I S slot i a.size p/\h.get? S=gV o/\o.ExactSet/\o.data=.set a p t/\TT t (eE a)/\t.led=!be w/\At w t slot i) where
 sub:=λb c=>by simp_all
 frame:=λz z z st B=>by
  obtain⟨slot,o,t,H,d,j⟩:=st;exact⟨slot,o,t,H.keep λo e=>B I (by simp) o e,B S (by simp) o d,j⟩
 item:=λi s Q E F st f=>by
  obtain⟨slot,o,t,H,d,j,k,l,m,n⟩:=st;obtain⟨x,C⟩:∃x,(dq w S a p)[i]?=gV x:=⟨_,Pp (by rwa[jb])⟩;exact F6 U H d k l m n C λG q r u g=>f x.2 q _ ⟨x,C,rfl⟩ ⟨G,o,t,u,g.extBut S o U d,j,k,l,m,r⟩ λb O c e=>g.extBut b O (by simp_all) e
 done:=λs Q E st f=>by
  obtain⟨slot,o,t,H,d,j,k,l,m,n⟩:=st;exact J1 D H d k l m n λq y=>f q _ λb O c e=>y b O (by simp_all) e
 self:=λz z z z st f=>by
  obtain⟨slot,o,t,H,z⟩:=st;exact F7 H f
theorem B7{S:J'}{Q:K'->Od->Prop}(a:SetAt w s.heap S e b)
  (c:Q (.ref s.heap.objs.size) {s with heap:=s.heap.push {cls:=.type "set_iterator",data:=.fields #[.int 0 0,.int 0 0,.ref S,.int e.size 0,.int b 0]}}):
  wpAny (OS p w) A (X4<|.ref S) Q E s:=by
 have hT:=a.typeIs;obtain⟨o,t,h,g,H,T,l⟩:=a;have f:=dM T.toPT;refine ZF hT aaV<|Rl aaV hT uq ?_<|F.args_set_iter_1 _;refine B'<|Of ?_;refine B' ?_;refine B'<|Vm h H f<|Of<|B'<|B'<|Qu h H f<|B'<|ft<|Of ?_;have d:(!be w&&(!t.plain&&decide (e.size>1)))=false:=by rw[T.plain];simp
 show wpAny _ _ (if(!be w&&(!t.plain&&decide _))=N7 then _ else _) _ _ _
 rw[d];refine B'<|Of<|B'<|wpAny_setEpoch_of h H f<|B'<|Qg<|Of ⟨_,rfl,"set_iterator",_,⟨_,OT _ rfl,rfl⟩,gc.lookup,?_⟩;simpa[SC]using c
theorem F8(T:zQ t):At w t 0 0:=.inr<|wn T.up
inductive Two {c d:Type}(R:c->d->Prop):ab c->ab d->Prop
 |nil:Two R [] []
 |cons {a:c} {b:d} {A:ab c} {bs:ab d}:R a b->Two R A bs->Two R (a::A) (b::bs)
namespace Two
variable {α β:Type}{R:α->β->Prop}
theorem len(h:Two R a b):a.length=b.length:=by
 induction h with
 |nil=>rfl
 |cons _ _ i=>simp[i]
theorem app(h:Two R A B)(h':Two R a b):Two R (A++a) (B++b):=by
 induction h with
 |nil=>exact h'
 |cons x _ i=>exact .cons x i
theorem imp(h:Two R A B)(f:∀a b,R a b->r a b):Two r A B:=by
 induction h with
 |nil=>exact .nil
 |cons x _ i=>exact .cons (f _ _ x) i
theorem perm(p:B.Perm b):∀{a:ab α},Two R a B->∃A,a.Perm A/\Two R A b:=by
 induction p with
 |nil=>intro a h;exact⟨a,.refl _,h⟩
 |cons x _ d=>
  intro a h;cases h with
  |cons r t=>
   obtain⟨A,H,c⟩:=d t;exact⟨_,H.cons _,.cons r c⟩
 |swap x y l=>
  intro a h;cases h with
  |cons r t=>
   cases t with
   |cons e T=>exact⟨_,.swap _ _ _,.cons e<|.cons r T⟩
 |trans _ _ i I=>
  intro a h;obtain⟨k,H,c⟩:=i h;obtain⟨f,g,j⟩:=I c;exact⟨f,H.trans g,j⟩
theorem at_(h:Two R A B):∀{i:Nat} {b:β},B[i]?=gV b->∃a,A[i]?=gV a/\R a b:=by
 induction h with
 |nil=>intro i b e;simp at e
 |cons x _ I=>
  intro i b e;cases i with
  |zero=>simp at e;subst e;exact⟨_,rfl,x⟩
  |succ i=>simp_all
theorem mem(h:Two R A B)(H:b∈B):∃a,a∈A/\R a b:=by
 obtain⟨i,c⟩:=P4.mp H;obtain⟨a,d,e⟩:=h.at_ c;exact⟨a,N5 d,e⟩
theorem flip(h:Two R A B):Two (λb a=>R a b) B A:=by
 induction h with
 |nil=>exact .nil
 |cons x _ i=>exact .cons x i
end Two
theorem jG(h:n<=9000):n<=sizeLine:=by rw[Qm];exact Pm h (by decide)
def xW(w:ON)(h:Pd)(S:J')(s:Pi (Int×K'))(x:Int×K')(h':Pd):Prop:=
 RK S h h'/\∃e E,SetAt w h' S e E/\e.toList.Perm (s.toList++[x])
theorem stored{h:Pd}{S:J'}{o:Obj}{s e:Pi (Int×K')}{E:Nat}{t t':SetTable}(a:h.get? S=gV o)(H:o.data=.set s E t):
  (h.update S<|Zg e t').get? S=gV {o with data:=.set e (E+1) t'}:=by
 have z:=Rh (Zg e t') a (by rw[putSet_of e t' H];rfl)
 rwa [putSet_of e t' H]at z
theorem ur(e:Pi (Int×K'))(p:Nat)(x:Int×K'):(Ry e p x).toList.Perm (e.toList++[x]):=by
 have:=Ux e p x
 simp_all
theorem pJ(T:PT t (eE s))(h:Fl s.size):∃E a,relayAll t s (grown s.size)=(E,a,Oc)/\a.led=t.led/\E.toList.Perm s.toList/\TT a (eE E):=by
 obtain⟨a,Y,e,b,c,d,g,A⟩:=nI T h;refine⟨Y.filterMap _,a,?_,b,d,A⟩;unfold relayAll;have C:coversAll Y _=true:=List.isPerm_iff.mpr c
 have f:=dM A.toPT;simp_all
theorem B8{S:J'}{u:ab Int}{Q:Oe->Od->Prop}(J:(RY p w).is n x=N7)(hS:SetAt w s.heap S c L)
  (B:Two (λk (e:Int×K')=>(RY p w).is k e.2=N7/\e.1=(RY p w).hash k) u c.toList) (hn:c.size<=17)
  (M:n∈u->Q Oc s) (f:n∉u->∀h',xW w s.heap S c ((RY p w).hash n,x) h'->Q N7 {s with heap:=h'}):
  wpAny (OS p w) A (Vv S x<|(RY p w).hash n) Q E s:=by
 obtain⟨o,t,r,g,y,T,hl⟩:=hS;have N:=dM T.toPT;have U:∀k v,(RY p w).is k v=N7->v.scannable=N7/\plainKind v=true:=λk v h=>by
  obtain⟨t',rfl⟩:=R7 h;exact⟨rfl,rfl⟩
 have l:ElemsOf _ _:=λe C=>by
  obtain⟨k,V,H,h2⟩:=B.mem C;exact⟨⟨k,H,h2⟩,(U k e.2 H).1⟩
 obtain⟨i,Xu⟩:=U n x J;refine Qb<|B'<|Qu r y N ?_;dsimp only;rw[byScan_of i (by unfold scanBound;exact Ro hn (by decide)) l];refine B'<|B'<|RU<|B'<|wpAny_setScan_of J r y N l ?_;cases W:List.findIdx? _ c.toList with
 |some j=>
  refine Of<|Of<|M ?_;obtain⟨hj,D,V⟩:=List.findIdx?_eq_some_iff_getElem.mp W;obtain⟨k,F,H,V⟩:=B.mem<|Q4 hj;have:=(RY p w).inj _ _ _ D H;simp_all
 |none=>
  have X:n∉u:=λhm=>by
   obtain⟨e,C,H,V⟩:=B.flip.mem hm;grind
  obtain⟨a,b,eL,P,m,Y,G,Z⟩:∃a b,layNew t c _ x=(a,b,Oc,Oc)/\PT b (eE a)/\a.toList.Perm (c.toList++[((RY p w).hash n,x)])/\b.led=(!be w)/\b.mask=t.mask/\a.size=c.size+1:=by
   obtain⟨j,f1,f2,f3,f4⟩:=pI T.tab<|(RY p w).hash n;obtain⟨p1,P,Z,p4⟩:=qu T f2 f3 f4;refine⟨_,_,?_,P,ur _ _ _,hl,rfl,Z⟩;unfold layNew;rw[f1];simp only[p1];have z:=dM P;unfold SetTable.orStandIn;simp[z]
  rw[eL];refine B'<|Of ?_;rw[P.plain];rw[hashByValue_scannable 8 i,Xu];refine B'<|Of ?_;simp only[↓Qd,Si];refine B' (Ut r y ?_<|jG<|by lia);have I:=stored (e:=a) (t':=b) r y;have q:=Qo s.heap S<|Zg a b;cases O:b.tooFull with
  |false=>
   refine Of<|Of<|f X _ ⟨q,a,L+1,⟨_,b,I,g,rfl,uo P O (by simp_all),Y⟩,m⟩
  |true=>
   have h5:Fl a.size:=by
    have:=xS P O (by simp_all) (by
     have:=T.small;simp_all)
    rwa [dL]at this
   obtain⟨d,t2,r1,r2,r3,r4⟩:=pJ P h5;rw[r1];dsimp only;have l2:d.size=a.size:=by
    have:=r3.length_eq;assumption
   refine B' (Of<|B'<|Ut I rfl ?_<|jG<|by lia);have g2:=stored (e:=d) (t':=t2) I rfl;refine Of<|Of<|f X _ ⟨q.trans (Qo ..),d,L+1+1,⟨_,t2,g2,g,rfl,r4,by rwa[r2]⟩,r3.trans m⟩
end SW
namespace SW
open PySem PySem.SetTable TB
abbrev TK(p:Ou)(w:ON)(h:Pd)(k:ab Int)(a:J'):Prop:=IsTupleKey (RY p w) h k a
theorem jH(h:ItemsAre (RY p w) k s):∀v∈s,∃n t,v=SQ n t:=by
 induction h with
 |nil=>simp
 |cons a _ i=>
  intro v H;obtain rfl|H:=OC.mp H
  ·obtain⟨t,rfl⟩:=R7 a;exact⟨_,t,rfl⟩
  exact i v H
theorem qw(k:TK p w s.heap l a)(h:Q Oc s):wpAny (OS p w) A (Wa 8<|.ref a) Q E s:=by
 have hT:=k.typeIs;obtain⟨o,i,n,f,z,g,j⟩:=k;unfold Wa;refine B'<|Tj hT ?_;simp only ;refine B'<|Of<|B'<|Tb f g<|B' ?_;rw[<-Ug];refine WE _ (λd r b=>r.1=Oa/\b=s/\∀v∈d,∃n t,v=SQ n t) _ ?_ ?_ _ _ ⟨rfl,rfl,jH j⟩
 ·rintro v d r b ⟨H,rfl,e⟩;obtain⟨m,t,rfl⟩:=e v Ot;exact B'<|Of<|Of ⟨rfl,rfl,λu c=>e u<|Os _ c⟩
 rintro⟨q,x⟩ b ⟨H,rfl,z⟩;subst H;exact Of h
theorem B9(k:TK p w s.heap l a)(h:Q N7 s):wpAny (OS p w) A (aaG 8<|.ref a) Q E s:=by
 have hT:=k.typeIs;obtain⟨o,i,n,f,z,g,j⟩:=k;refine B'<|Xw hT F.slot_tuple_hash.lookup ?_;show wpAny _ _ _ _ _ s
 refine B'<|Tb f g<|B' ?_;rw[<-Ug];refine WE _ (λd r b=>r.1=Oa/\b=s/\∀v∈d,∃n t,v=SQ n t) _ ?_ ?_ _ _ ⟨rfl,rfl,jH j⟩
 ·rintro v d r b ⟨H,rfl,e⟩;obtain⟨m,t,rfl⟩:=e v Ot;exact B'<|Of<|Of ⟨rfl,rfl,λu c=>e u<|Os _ c⟩
 rintro⟨q,x⟩ b ⟨H,rfl,z⟩;subst H;exact Of h
theorem B_(g:TK p w s.heap m a)(j:∀y∈st,∃b k,y=Px b/\TK p w s.heap k b)(h:Q Oc s):
  wpAny (OS p w) A (ZJ (.ref a) st) Q E s:=by
 refine B'<|WE _ (λt r c=>r.1=Oa/\c=s/\∀y∈t,∃b k,y=Px b/\TK p w _ k b) _ ?_ ?_ _ _ ⟨rfl,rfl,j⟩
 ·rintro v t r c ⟨d,rfl,f⟩;obtain⟨b,k,rfl,i⟩:=f v Ot;by_cases e:(a == b)=N7
  ·simp only[e];exact Of ⟨rfl,rfl,λu H=>f u<|Os _ H⟩
  have l:(a == b)=false:=by simpa using e
  simp only[l];refine B'<|XF g ?_;exact B'<|XF i<|B'<|qw g<|B'<|qw i<|Of ⟨rfl,rfl,λu H=>f u<|Os _ H⟩
 rintro⟨n,o⟩ c ⟨d,rfl,z⟩;subst d;exact Of h
noncomputable abbrev hT(p:Ou)(w:ON)(k:ab Int):Int:=tupleKeyHash (RY p w) k
def RT(p:Ou)(w:ON)(h:Pd)(k:ab Int)(e:Int×K'):Prop:=e.1=hT p w k/\∃a,e.2=.ref a/\TK p w h k a
theorem lL{S a:J'}{d:Pi (Int×K')}{ep:Nat}{t:SetTable}{o:Obj}{U:ab (ab Int)}{k:ab Int}{Q:SetFound->Od->Prop}(hu:A.units<R1)
  (Y:s.heap.get? S=gV o) (hd:o.data=.set d ep t) (T:TT t (eE d)) (H:Two (RT p w s.heap) U d.toList) (hk:TK p w s.heap k a)
  (L:k∈U->Q (.there Oa) s) (P:k∉U->∀j,j_ t j=Oc->j<=t.mask->Path (j_ t) t.mask (hT p w k) j->Q (.free j Oc) s)
  (K:Nat) (D:j_ t (b_ t.mask K<|start t.mask<|hT p w k).j=Oc):
  ∀(n f c:Nat) (u:M' TM),K-c=n->n<f->u.getD (start t.mask<|hT p w k)=b_ t.mask c (start t.mask<|hT p w k)->
   (∀l,l<c->∃i:Nat,t.place[i]?=gV (b_ t.mask l<|start t.mask<|hT p w k).j/\U[i]?≠gV k)->
   wpAny (OS p w) A (Ya S (.ref a) (hT p w k) N7 f u) Q E s
 |n,0,c,u,hn,hf,_,_=>absurd hf (by simp)
 |n,f+1,c,u,hn,hf,ac,R0=>by
  have M:=dM T.toPT;have az:c<=K:=by
   obtain g|g:=QZ K c
   ·obtain⟨i,h,_⟩:=R0 K g;rw[eX.mpr ⟨i,h⟩]at D;cases D
   exact g
  have O:t.place.size=d.size:=by rw[T.len,dL]
  have N:∀(i:Nat) (e:Int×K'),d[i]?=gV e->∃B,U[i]?=gV B/\RT p w s.heap B e:=λi e he=>H.at_ (by simp_all);obtain⟨r,m,h1,h2,h3⟩:=nE T.tab (λi=>(d[i]?.map (·.1)).getD 0) (hT p w k)<|iA c<|eW t.mask<|hT p w k;have v:∀l,l<c+m->∃i:Nat,t.place[i]?=gV (b_ t.mask l<|start t.mask<|hT p w k).j/\U[i]?≠gV k:=λl hl=>by
   obtain g|g:=QZ l c
   ·exact R0 l g
   obtain⟨i,h,W⟩:=h2 (l-c) (by lia);rw[<-cL,show c+(l-c)=l by exact lB g]at h;refine⟨i,h,λz=>W ?_⟩;have F:i<d.size:=by rw[<-O];exact(P0.mp h).1
   obtain⟨B,C,X⟩:=N i d[i]<|Pp F;rw[z]at C;have:k=B:=Oy C;subst this;rw[Pp F];exact X.1
  have gw:t.gaveWay=false:=by
   unfold SetTable.gaveWay;obtain e|e:=T.tab.mask<;>rw[e]<;>rfl
  unfold Ya;refine B'<|Qu Y hd M ?_;dsimp only;rw[gw];simp only[OX,↓Qd];have am:t.probe (λi=>(d[i]?.map (·.1)).getD 0) (hT p w k) (u.getD<|t.probeStart<|hT p w k)=gV r:=by
   rw[uj,ac];exact h1
  erw [am]
  dsimp only;obtain⟨rfl,Z⟩|⟨i,h,hh,rfl⟩:=h3
  ·dsimp only;rw[<-cL]at Z;have WD:k∉U:=λhm=>by
    obtain⟨i,h⟩:=P4.mp hm;have F:i<d.size:=by
     have:=(N8.mp h).1;have:=H.len;simp_all
    obtain⟨B,C,X⟩:=N i d[i]<|Pp F;rw[h]at C;have:k=B:=Oy C;subst this;have hp:t.place[i]?=gV t.place[i]:=Pp (by simp_all);have an:(eE d)[i]?=gV (hT p w k):=by
     unfold eE;rw[Ow,O3,Pp F];simp[X.1]
    obtain⟨q,G,as⟩:=T.reach i (hT p w k) _ an hp;obtain g|g:=QZ q (c+m)
    ·obtain⟨i2,x,W⟩:=v q g;rw[G]at x;have:=(nz T.tab.up x).symm.trans<|nz T.tab.up hp;rw[this]at W;exact W h
    obtain g|g:=SE g
    ·rw[<-g]at G;rw[G,eX.mpr ⟨i,hp⟩]at Z;cases Z
    simp_all
   have z:=P WD _ Z (LZ<|iA _<|eW _ _) ⟨c+m,rfl,λl hl=>by
    obtain⟨i,h,_⟩:=v l hl;exact eX.mpr ⟨i,h⟩⟩
   rw[cL]at z;exact Of z
  dsimp only;have F:i<d.size:=by rw[<-O];exact(P0.mp h).1
  have I:d[i]?=gV d[i]:=Pp F;obtain⟨B,C,X,b,e3,e4⟩:=N i d[i] I;have aC:c+m<K:=by
   obtain g|g|g:=Q9 (c+m) K
   ·exact g
   ·rw[<-cL,g]at h;rw[eX.mpr ⟨i,h⟩]at D;cases D
   obtain⟨i2,x,_⟩:=v K g;rw[eX.mpr ⟨i2,x⟩]at D;cases D
  cases aF:t.led
  case' false=>
   simp only[Yz,↓Qd];refine B'<|B_ hk (λy hy=>?_) ?_
   simp only[OK,Sf,Array.mem_filter]at hy;obtain⟨e,⟨he,_⟩,rfl⟩:=hy;obtain⟨k2,_,_,b2,q1,q2⟩:=H.mem<|Sf.mpr he;exact⟨b2,k2,q1,q2⟩
  all_goals
   simp only[WB,OX,↓Qd];rw[I];dsimp only;refine B'<|Qb ?_;rw[e3];refine wpAny_eqBool_tuple hu e4 hk ?_;refine B'<|Qu Y hd M ?_;dsimp only;by_cases J:B=k
   ·subst J;rw[On rfl];simp only[Y3,↓Qd];exact Of<|L<|N5 C
   rw[Ob J];simp only[QU,OX,↓Qd];have av:t.sameMemory t.moves t.mask=gV true:=by
    unfold SetTable.sameMemory;simp
   rw[av];dsimp only;rw[ql T.tab h];simp only[↓Qd];rw[I];dsimp only;rw[e3];refine B' ?_;unfold isSame;simp only[Ti,↓Qd];refine Of (B'<|Of ?_)
   try dsimp only
   try simp only[OX,↓Qd]
   rw[<-cL];refine lL hu Y hd T H hk L P K D _ f _ _ rfl (by grind) rfl λl hl=>?_;obtain g|g:=QZ l _
   ·exact v l g
   have:l=c+m:=by lia
   subst this;rw[cL];exact⟨i,h,λz=>by
    lia⟩
section
theorem wp{S:J'}{Q:W0->Od->Prop}(H:s.heap.get? S=gV o)(x:o.ExactSet)(d:o.data=.set a f t)(T:PT t (eE a))(n:Fl a.size)(l:t.led=!be w)
  (h:∀h' b,RK S s.heap h'->SetAt w h' S b (f+1)->b.toList.Perm a.toList->Q () {s with heap:=h'}):wpAny (OS p w) A (setRelay S<|grown a.size) Q E s:=by
 have g:=dM T;obtain⟨c,Y,e,i,q,j,k,m⟩:=nI T n;refine B'<|Qu H d g ?_;dsimp only;rw[Ov (by rw[show a.size=5 from n];decide+kernel)];refine B' ?_;rw[e];show wpAny _ _ (if((Y.filterMap _).size != a.size)=N7 then _ else _) _ _ _
 rw[k,Ov<|by simp];refine Of ?_;show wpAny _ _ (storeSet S _ c) _ _ _
 exact Ut H d (h _ _ (Qo ..) ⟨_,c,stored H d,x,rfl,m,by rwa[i]⟩ j) (jG<|by unfold Fl at n;lia)
theorem xX{S a:J'}{u:ab (ab Int)}{k:ab Int}{Q:Oe->Od->Prop}(I:A.units<R1)(J:SetAt w s.heap S d L)
  (n:Two (RT p w s.heap) u d.toList) (hn:d.size<=17) (B:TK p w s.heap k a) (M:k∈u->Q Oc s) (f:k∉u->∀h',xW w s.heap S d (hT p w k,.ref a) h'->Q N7 {s with heap:=h'}):
  wpAny (OS p w) A (Vv S (.ref a)<|hT p w k) Q E s:=by
 obtain⟨o,t,h,H,g,T,q⟩:=J;have C:=dM T.toPT;obtain⟨e,N,Z⟩:=qm T.tab;obtain⟨K,D,U⟩:=lK T.tab.mask (eW _<|hT p w k) N;have r:K<100000:=by
  unfold kA at D;obtain z|z:=T.tab.mask<;>rw[z]at D<;>lia
 refine Qb<|B'<|Qu h g C ?_;dsimp only;refine B' (lL I h g T n B (λY=>?_) (λW j f2 f3 f4=>?_) K (by rwa[U]) K _ 0 Oa (by rfl) r rfl λl q=>absurd q<|by simp)
 ·exact Of<|M Y
 obtain⟨b,c,e1,e2,P,m,X,x,F⟩:∃b c,(t.put j).1=c/\Ry d (t.put j).2 _=b/\PT c (eE b)/\b.toList.Perm _/\c.led=(!be w)/\c.mask=t.mask/\b.size=d.size+1:=by
  obtain⟨p1,P,F,p4⟩:=qu T f2 f3 f4;rw[p1];exact⟨_,_,rfl,rfl,P,ur _ _ _,q,rfl,F⟩
 refine B'<|Qu h g C ?_;rw[e1,e2,P.plain];refine B'<|B9 B ?_;simp only[↓Qd,Si];refine B' (Ut h g ?_<|jG<|by lia);have G:=stored (e:=b) (t':=c) h g;have i:=Qo s.heap S<|Zg b c;cases O:c.tooFull with
 |false=>
  exact Of<|f W _ ⟨i,b,L+1,⟨_,c,G,H,rfl,uo P O (by simp_all),X⟩,m⟩
 |true=>
  have h5:Fl b.size:=by
   have:=xS P O (by simp_all) (by
    have:=T.small;simp_all)
   rwa [dL]at this
  rw[show d.size+1=b.size by exact Eq.symm F];exact B'<|wp G H rfl P h5 X λh' y q1 q2 q3=>Of<|f W _ ⟨i.trans q1,y,_,q2,q3.trans m⟩
structure Kind (prog:Ou)(w:ON)(κ:Type) where
 is:Pd->κ->K'->Prop
 hash:κ->Int
 room:Pw->Prop
 keep:∀{h h':Pd} {k:κ} {v:K'},is h k v->(∀b o,h.get? b=gV o->o.cls≠.type "set"->o.cls≠.type "list_iterator"->h'.get? b=gV o)->is h' k v
 pyHash:∀{A:Pw} {E:K'->Od->Prop} {s:Od} {k:κ} {v:K'} {Q:Int->Od->Prop},room A->is s.heap k v->(∀tk,Q (hash k) {s with toks:=tk})->wpAny (OS prog w) A (PySem.pyHash v) Q E s
 add:∀{A:Pw} {E:K'->Od->Prop} {s:Od} {S:J'} {es:Pi (Int×K')} {ep:Nat} {us:ab κ} {k:κ} {v:K'} {Q:Oe->Od->Prop},room A->SetAt w s.heap S es ep->
  Two (λk (e:Int×K')=>e.1=hash k/\is s.heap k e.2) us es.toList->es.size<=17->is s.heap k v->(k∈us->Q Oc s)->(k∉us->∀h',xW w s.heap S es (hash k,v) h'->Q N7 {s with heap:=h'})->
  wpAny (OS prog w) A (Vv S v<|hash k) Q E s
noncomputable def intK(p:Ou)(w:ON):Kind p w Int where
 is:=λ_ k v=>(RY p w).is k v=N7
 hash:=(RY p w).hash
 room:=λ_=>True
 keep:=λh _=>h
 pyHash:=λ_ h q=>(RY p w).pyHash h (q _)
 add:=λ_ H u n a o b=>B8 a H (u.imp λ_ _ z=>⟨z.2,z.1⟩) n o b
noncomputable def L4(p:Ou)(w:ON):Kind p w (ab Int) where
 is:=λh k v=>∃a,v=.ref a/\TK p w h k a
 hash:=hT p w
 room:=λA=>A.units<R1
 keep:=λ⟨a,e,o,i,n,H,c,r⟩ f=>⟨a,e,o,i,n,f a o H (by lia) (by lia),c,r⟩
 pyHash:=λu ⟨a,e,h⟩ q=>by subst e;exact wpAny_pyHash_tuple u h (q _)
 add:=λ{A E s S m t U k v Q} u g b j d H l=>by
  obtain⟨a,rfl,d⟩:=d;exact xX u g b j d H l
variable {κ:Type}
def Holds(C:Kind p w κ)(h:Pd)(S:J')(u:ab κ):Prop:=∃E a,SetAt w h S E a/\Two (λk (e:Int×K')=>e.1=C.hash k/\C.is h k e.2) u E.toList/\u.Nodup
end
section
variable {κ:Type}
theorem ut{C:Kind P w κ}{h h':Pd}{S:J'}{E:Pi (Int×K')}{U:ab κ}{k:κ}{v:K'}{o:Obj}(j:h.get? S=gV o)(l:o.cls=.type "set")(H:Two (λk (e:Int×K')=>e.1=C.hash k/\C.is h k e.2) U E.toList)(n:U.Nodup)(m:C.is h k v)(W:k∉U)(c:xW w h S E (C.hash k,v) h'):
  ∃u,Holds C h' S u/\(∀z,z∈u↔z∈U\/z=k)/\u.length=U.length+1:=by
 obtain⟨s,d,f,t,r⟩:=c;have i:∀{k:κ} {v:K'},C.is h k v->C.is h' k v:=λz=>C.keep z λb O g y Z=>(s.2 b λe=>by simp_all).trans g;have z:Two (λk (e)=>e.1=C.hash k/\C.is h' k e.2) _ (E.toList++[(C.hash k,v)]):=(H.imp λZ Z q=>⟨q.1,i q.2⟩).app<|.cons ⟨rfl,i m⟩ .nil;obtain⟨u,p,A⟩:=Two.perm r.symm z;refine⟨u,⟨d,f,t,A,p.nodup_iff.mp ?_⟩,λx=>?_,?_⟩
 ·rw[Qj];exact⟨n,by simp,λa c b B=>by
   rw[Oi.mp B];exact λe=>W<|e▸c⟩
 ·rw[<-p.mem_iff,OH,Oi]
 rw[<-p.length_eq,N9];rfl
theorem Ca(C:Kind p w κ)(B:C.room A.in1)(hh:A.in1.handled=Oa){D:Pd}{I S l:J'}{a:Pi K'}{F:ab κ}(ac:l≠I)(h:S≠I)(am:S≠l)(hn:a.size<=18)(aF:F.length=a.size)
  (an:∀o,D.get? S=gV o->o.cls=.type "set") (G:∀o,D.get? I=gV o->o.cls=.type "list_iterator") (as:∀(i:Nat) (v:K'),a[i]?=gV v->∃k,F[i]?=gV k/\C.is D k v) {R:lA->Od->Prop}:
  ∀(m i:Nat) (s:Od) (u:ab κ),a.size-i=m->i<=a.size->s.heap.IsListIter I l i->s.heap.IsList l a->Holds C s.heap S u->(∀z,z∈u↔z∈F.take i)->u.length<=i->
   (∀b o,b≠S->b≠I->D.get? b=gV o->s.heap.get? b=gV o)->
   (∀h' P J,Holds C h' S J->(∀z,z∈J↔z∈F)->(∀b o,b≠S->b≠I->D.get? b=gV o->h'.get? b=gV o)->R (.ok<|.ret .none) {s with heap:=h',toks:=P})->
   codeAny (OS p w) A (.builtin "set.update.loop" ⟨[.ref S,.ref I],[]⟩) R s:=by
 have W:=W5 (prog:=p) (w:=w) (A:=A.in1) hh I l ac a;intro m
 induction m with
 |zero=>
  intro i s u hm hi c Sj M f Ql Z Q;have e:i=a.size:=by lia
  subst e;refine Ra Tz ?_;rw[QG QP _];refine B' (m:=UT<|.ref I)<|W.done s _ _ ⟨c,Sj⟩ λh' P hk=>Of ?_;have U:∀b o,b≠I->s.heap.get? b=gV o->h'.get? b=gV o:=λb o hb e=>hk b o (by simpa using hb) e;refine Q h' P u ?_ (by grind) λb o r H e=>U b o H<|Z b o r H e;obtain⟨x,X,a1,a2,Y⟩:=M;refine⟨x,X,a1.keep λo e=>U S o h e,a2.imp λV V q=>⟨q.1,C.keep q.2 λb o E V y=>U b o (λz=>?_) E⟩,Y⟩;subst z;obtain⟨o',g1,g2,V⟩:=c;simp_all
 |succ m ih=>
  intro i s u hm hi c Sj M f Ql Z Q;have RH:i<a.size:=by lia
  refine Ra Tz ?_;rw[QG QP _];refine B' (m:=UT<|.ref I)<|W.item i s _ _ RH ⟨c,Sj⟩ λv h' P hv QV hk=>?_;have U:∀b o,b≠I->s.heap.get? b=gV o->h'.get? b=gV o:=λb o hb e=>hk b o (by simpa using hb) e;obtain⟨k,av,az⟩:=as i v hv;have g:C.is h' k v:=C.keep az λb o E e2 y=>U b o (λz=>y<|G o<|z▸E)<|Z b o (λz=>e2<|an o<|z▸E) (λz=>y<|G o<|z▸E) E;obtain⟨x,X,a1,a2,Y⟩:=M;have j:SetAt w h' S x X:=a1.keep λo e=>U S o h e;have d:Two (λk (e:Int×K')=>e.1=C.hash k/\C.is h' k e.2) u x.toList:=a2.imp λV V q=>⟨q.1,C.keep q.2 λb o E V y=>U b o (λz=>by
   subst z;obtain⟨o',g1,g2,V⟩:=c;simp_all) E⟩
  have aL:u.length=x.size:=by
   have:=d.len;assumption
  have L:∀z,z∈F.take (i+1)↔z∈u\/z=k:=λz=>by
   rw[OM,av,OH,f];simp
  refine B'<|Qb ?_;unfold setAdd;refine Qb<|B'<|C.pyHash B g λt=>?_;refine C.add (s:={s with heap:=h',toks:=t}) B j d (by lia) g (λUo=>?_) λWD H N=>?_
  ·refine Of ⟨RN QP _,ih (i+1) {s with heap:=h',toks:=t} u (by lia) RH QV.1 QV.2 ⟨x,X,j,d,Y⟩ (λz=>?_) (Wj Ql) (λb o r H e=>U b o H<|Z b o r H e) λh3 T n b1 b2 b3=>Q h3 T n b1 b2 b3⟩;simp_all
  obtain⟨o',t',o1,o2,V⟩:=id j;obtain⟨aC,c1,c2,c3⟩:=ut o1 o2.1 d Y g WD N;have sb:=N.1;refine Of ⟨RN QP _,ih (i+1) {s with heap:=H,toks:=t} aC (by grind) RH ?_ ?_ c1 (λz=>by rw[L,c2]) (by simp_all) (λb o r O e=>(sb.2 b r).trans<|U b o O<|Z b o r O e) λh3 T n b1 b2 b3=>Q h3 T n b1 b2 b3⟩
  ·exact QV.1.at λo e=>(sb.2 I λz=>h z.symm).trans e
  exact QV.2.at λo e=>(sb.2 l λz=>am z.symm).trans e
end
section
variable {κ:Type}
theorem F9(a:K')(h:Q (.ref s.heap.objs.size) {s with heap:=s.heap.push {cls:=.type "set",dict:=Oa,data:=.set #[] 0<|.fresh 0 0 (!be w)}}):
  codeAny (OS p w) A (.call (.builtin "set.__new__") ⟨[.type "set",a],[]⟩) (wants Q E) s:=by
 refine aaT<|B' (m:=checkBuiltinCall "set.__new__" ⟨[.type "set",a],[]⟩)<|Ip (F.newCall_set_1 a)<|Of ⟨RN aaW _,Ra F.entry_set_new ?_⟩;rw[QG aaW _];unfold Builtin.«set.__new__»;refine B' ?_;have H:wpAny (OS p w) A.in1 (VQ "set" ⟨[.type "set",a],[]⟩) (λr b=>r=(.type "set",[a])/\b=s) E s:=by
  have c:=sub_set_self
  wp_walk
  exact⟨rfl,rfl⟩
 refine Qx H (λr b z=>?_) λe b z=>z;obtain⟨rfl,rfl⟩:=z;refine B' ?_;refine B'<|ft ?_;simp only ;exact B'<|wpAny_alloc<|Of<|Of h
theorem call_set(C:Kind p w κ)(x:C.room A.in1.in1.in1)(hh:A.handled=Oa){l:J'}{I:Pi K'}{g:ab κ}{Q:K'->Od->Prop}(hl:s.heap.IsList l I)(hn:I.size<=18)(y:g.length=I.size)
  (B:∀(i:Nat) (v:K'),I[i]?=gV v->∃k,g[i]?=gV k/\C.is s.heap k v)
  (h:∀(h':Pd) (t:Nat) (u:ab κ),Holds C h' s.heap.objs.size u->(∀z,z∈u↔z∈g)->(∀b o,s.heap.get? b=gV o->h'.get? b=gV o)->Q (.ref s.heap.objs.size) {s with heap:=h',toks:=t}):
  wpAny (OS p w) A (call (.type "set") [.ref l]) Q E s:=by
 obtain⟨c,tl,ac⟩:=F.called_set.mro;have am:=F.called_set.made;have an:=F.called_set.sub;refine W3<|aaT ?_;show wpAny _ _ (callAny (.type "set") _) _ _ _
 refine Of ⟨Code.quiet_builtin _ (by decide+kernel),Ra F.entry_type_call ?_⟩;rw[Around.under_plain (weight_type_call_type "set" [.ref l] []) rfl];have h1:=F.called_set.notType;have h2:=F.called_set.canCreate;have as:=F.typeCall_set_1 (.ref l)
 repeat any_goals first|assumption|wp_step
 refine SD (F9 (.ref l) (E:=E) (Q:=λO a=>O=.ref s.heap.objs.size/\a={s with heap:=s.heap.push ({cls:=.type "set",dict:=Oa,data:=.set #[] 0<|.fresh 0 0 (!be w)}:Obj)}) ⟨rfl,rfl⟩) λr a D=>?_;cases r with
 |error e=>exact D
 |ok fl=>
  cases fl with
  |ret O=>
   obtain⟨rfl,rfl⟩:=D;have U:(s.heap.push ({cls:=.type "set",dict:=Oa,data:=.set #[] 0<|.fresh 0 0 (!be w)}:Obj)).get? s.heap.objs.size=gV ({cls:=.type "set",dict:=Oa,data:=.set #[] 0<|.fresh 0 0 (!be w)}:Obj):=OT _ rfl;have hT:Wr {s with heap:=s.heap.push ({cls:=.type "set",dict:=Oa,data:=.set #[] 0<|.fresh 0 0 (!be w)}:Obj)} (.ref s.heap.objs.size) "set":=⟨_,U,rfl⟩;have av:=F.called_set.init.lookup;have az:=F.called_set.init.bind (.ref s.heap.objs.size)
   repeat any_goals first|assumption|wp_step
   refine SD (codeAny_call_builtin (R:=wants (λr d=>r=.none/\∃h' t u,d={s with heap:=h',toks:=t}/\Holds C h' s.heap.objs.size u/\(∀z,z∈u↔z∈g)/\(∀b o,s.heap.get? b=gV o->h'.get? b=gV o)) E) F.called_set.init.plain F.entry_set_init<|check_set_init_1 hT ?_) λj d H=>?_
   ·obtain⟨ol,m,W,X,n⟩:=hl;obtain⟨aC,G,aF,J⟩:=ol;simp only at W n;subst W n;have L:(s.heap.push ({cls:=.type "set",dict:=Oa,data:=.set #[] 0<|.fresh 0 0 (!be w)}:Obj)).get? l=gV {cls:=.type "list",dict:=G,data:=.seq I X,slots:=J}:=Oj _ m;have aL:=F.sub_list_set;have a0:=F.sub_list_frozenset;have U5:(Ub "list" == Ub "dict")=false:=by rfl
    have Y:(s.heap.push ({cls:=.type "set",dict:=Oa,data:=.set #[] 0<|.fresh 0 0 (!be w)}:Obj)).IsList l I:=⟨_,L,rfl,X,rfl⟩;have q:l<s.heap.objs.size:=OB m;have M:(s.heap.push ({cls:=.type "set",dict:=Oa,data:=.set #[] 0<|.fresh 0 0 (!be w)}:Obj)).objs.size=s.heap.objs.size+1:=by rw[Su]
    unfold Builtin.«set.__init__» noKeywords aaY;generalize N:X4=PI
    wp_walk
    subst N;refine S2 Y<|B'<|wpAny_runValue ?_;have Z:((s.heap.push ({cls:=.type "set",dict:=Oa,data:=.set #[] 0<|.fresh 0 0 (!be w)}:Obj)).push {cls:=.type "list_iterator",data:=.fields #[.ref l,.int 0 0]}).get? s.heap.objs.size=gV ({cls:=.type "set",dict:=Oa,data:=.set #[] 0<|.fresh 0 0 (!be w)}:Obj):=Oj _ U;have g2:((s.heap.push ({cls:=.type "set",dict:=Oa,data:=.set #[] 0<|.fresh 0 0 (!be w)}:Obj)).push {cls:=.type "list_iterator",data:=.fields #[.ref l,.int 0 0]}).get? (s.heap.push ({cls:=.type "set",dict:=Oa,data:=.set #[] 0<|.fresh 0 0 (!be w)}:Obj)).objs.size=gV {cls:=.type "list_iterator",data:=.fields #[.ref l,.int 0 0]}:=OT _ rfl;refine Ca C x (by simp[hh]) (D:=(s.heap.push ({cls:=.type "set",dict:=Oa,data:=.set #[] 0<|.fresh 0 0 (!be w)}:Obj)).push {cls:=.type "list_iterator",data:=.fields #[.ref l,.int 0 0]}) (l:=l) (a:=I) (F:=g) (by rw[M];exact OQ<|QT q) (by rw[M];exact OQ<|Tq _) (R_ q) hn y (λo e=>?_) (λo e=>?_) (λi v hv=>?_) (I.size-0) 0 _ [] rfl (OG _) ⟨_,g2,rfl,rfl⟩ (Y.push _) ⟨#[],0,⟨({cls:=.type "set",dict:=Oa,data:=.set #[] 0<|.fresh 0 0 (!be w)}:Obj),_,Z,⟨rfl,rfl,rfl⟩,rfl,B3 _,rfl⟩,.nil,Sw⟩ (λz=>by simp) (N' _) (λb o V V e=>e) λh' t u b1 b2 b3=>?_
    ·rw[Z]at e;rw[<-Oy e]
    ·rw[g2]at e;rw[<-Oy e]
    ·obtain⟨k,q1,q2⟩:=B i v hv;exact⟨k,q1,C.keep q2 λb o e V V=>Oj _<|Oj _ e⟩
    show wpAny _ _ _ _ _ _
    refine Of ?_;show wpAny _ _ (ret VM) _ _ _
    refine Of ⟨rfl,h',t,u,rfl,b1,b2,λb o e=>b3 b o ?_ ?_<|Oj _<|Oj _ e⟩
    ·exact OQ<|OB e
    rw[M];exact OQ<|QT<|OB e
   ·cases j with
    |error e=>exact H
    |ok f=>
     cases f with
     |ret r=>
      obtain⟨rfl,h',t,u,rfl,P,T,UR⟩:=H
      repeat any_goals first|assumption|wp_step
      exact h _ _ u P T UR
     |_=>exact H.elim
  |_=>exact D.elim
end
section
variable {κ:Type}
theorem Cb(hT:s.TypeIs (.ref r) "set")(h:Q Oc s):wpAny (OS p w) A (VB<|.ref r) Q E s:=by
 refine B'<|Xw hT PySem.F.slot_set_len.lookup ?_;generalize H:("set.__len__")=i
 subst H
 exact B'<|aad hT (by rfl)<|aaR (λz=>absurd z<|by decide) λy=>aaR (λy=>B'<|Tj hT<|Of h) λz=>absurd (by rfl) z
theorem F_{S:J'}:PySem.W.KdlSrc p w "set" S S E.size (λi v=>∃x,(dq w S E a)[i]?=gV x/\v=x.2) (λh=>SetAt w h S E a) where
 type:=λz H=>H.typeIs
 there:=λz H=>⟨H.lt,H.lt⟩
 keep:=λz z H k=>H.keep λo e=>k S (.inl rfl) o e
 notList:=by rfl
 notTuple:=by rfl
 hint:=λz z z z H q=>Cb H.typeIs q
 iter:=λA s b H=>by
  obtain⟨o,t,c,d,f,T,l⟩:=id H;refine⟨_,_,λz z q=>B7 H q,zX b _ S (OQ H.lt) E a,0,o,t,⟨_,OT _ rfl,rfl,rfl⟩,Oj _ c,d,f,T,l,F8 T.tab⟩
theorem Ga{C:Kind p w κ}{h:Pd}{u:ab κ}{l:ab (Int×K')}(t:Two (λk (e:Int×K')=>e.1=C.hash k/\C.is h k e.2) u l):Two (λk v=>C.is h k v) u (l.map (·.2)):=by
 induction t with
 |nil=>exact .nil
 |cons r _ i=>exact .cons r.2 i
theorem collect_set(C:Kind p w κ)(H:A.handled=Oa){S:J'}{R:ab K'->Od->Prop}(l:Holds C s.heap S U)(z:U.length<=18)
  (h:∀h' t g u,(∀b o,s.heap.get? b=gV o->h'.get? b=gV o)->u.Perm U->Two (λk v=>C.is s.heap k v) u g->R g {s with heap:=h',toks:=t}):
  wpAny (OS p w) A (collect<|.ref S) R E s:=by
 obtain⟨d,f,m,j,B⟩:=l;have D:d.size=U.length:=by
  have:=j.len;simp_all
 refine Vo (F_) H m (jG<|by lia) λh' t r n a=>?_;obtain⟨u,P,q⟩:=Two.perm (nK w S d f).symm j;refine h h' t _ u n P.symm ?_;have e:r.toList=(dq w S d f).toList.map (·.2):=by
  refine S8 λi=>?_;rw[Ow,O3,O3];cases c:r[i]? with
  |none=>
   have:r.size<=i:=(by simp_all);rw[UI<|by rwa[jb,<-a.1]];rfl
  |some v=>
   obtain⟨x,y,rfl⟩:=a.2 i v c;rw[y];rfl
 rw[e];exact Ga q
end
end SW
namespace SW
open PySem TB
theorem Holds.le{p:Ou}{w:ON}{a:Type}{C:Kind p w a}{h:Pd}{S:J'}{u:ab a}(x:Holds C h S u):u.length<=18:=by
 obtain⟨e,E,⟨o,t,z,z,z,T,z⟩,A,z⟩:=x;have H:=A.len;have b:=T.most;simp_all
theorem Holds.nodup{p:Ou}{w:ON}{a:Type}{C:Kind p w a}{h:Pd}{S:J'}{u:ab a}(x:Holds C h S u):u.Nodup:=let ⟨_,_,_,_,n⟩:=x;n
noncomputable def tupL(p:Ou)(w:ON)(L:J'->ab Int->Prop):Kind p w (ab Int) where
 is:=λh k v=>∃a,v=.ref a/\TK p w h k a/\L a k
 hash:=hT p w
 room:=λA=>A.units<R1
 keep:=λ⟨a,e,h,l⟩ f=>by
  obtain⟨m,g,z⟩:=(L4 p w).keep (k:=_) (v:=.ref a) ⟨a,rfl,h⟩ f;cases g;exact⟨a,e,z,l⟩
 pyHash:=λH ⟨a,e,h,_⟩ q=>(L4 p w).pyHash H ⟨a,e,h⟩ q
 add:=λ{A E s S r t u k v Q} H i c n d o j=>by
  obtain⟨a,rfl,d,_⟩:=d;exact xX H i (c.imp λ_ _ z=>⟨z.1,let ⟨b,e,h,_⟩:=z.2;⟨b,e,h⟩⟩) n d o j
end SW
namespace Srt
noncomputable def lexKey(B:Int)(q:Int×Int):Int:=q.1*(2*B+1)+q.2
theorem lex_lt(H:-B<=b)(c:b<=B)(f:-B<=y)(i:y<=B):decide (lexKey B (a,b)<lexKey B (x,y))=if a == x then decide (b<y)else decide (a<x):=by
 unfold lexKey;by_cases e:a=x
 ·simp_all
 rw[Ov<|by simpa using e];have m:∀{u v:Int},u<v->(u+1)*(2*B+1)<=v*(2*B+1):=λh=>U3 (by lia) (by lia);refine Rk.mpr ⟨λz=>?_,λz=>?_⟩
 ·obtain g|g:=Int.lt_or_gt_of_ne e
  ·exact g
  have:=m g;lia
 have:=m z;lia
end Srt
namespace L2
open PySem PySem.Spec PySem.W PyProof.Rows
def N3(h:Pd)(t:J')(q:Int×Int):Prop:=∃o T y n,h.get? t=gV o/\o.cls=.type "tuple"/\o.data=.seq #[.int q.1 T,.int q.2 y] n
noncomputable def Cc(X:Cx)(B:Int)(H:Hp):SK X H (Int×Int) where
 vr:=λq x=>PR H q x/\ -B<=q.2/\q.2<=B
 key:=Srt.lexKey B
 kd:=tuples' N7
 hp:=λh=>∀(t:J') (q:Int×Int),H t=gV (.tup [.int q.1,.int q.2])->N3 h t q
 mono:=λh k t q e=>let ⟨o,T,y,n,a,b⟩:=h t q e;⟨o,T,y,n,k _ _ a,b⟩
 inj:=by
  rintro⟨a,b⟩ ⟨P,W⟩ _ _ v ⟨⟨t,rfl,e⟩,_⟩ rfl ⟨⟨m,rfl,l⟩,_⟩ r;cases(show Px t=Px m from r);simp_all
 kk:=λ{A E s Q U Y} hp p h q=>by
  obtain⟨f,u,Z,w⟩:∃f:ab K',KatTups s.heap U f/\f.length=U.length/\∀v∈f,∃i t,v=SQ i t:=by
   clear p
   induction h with
   |nil=>exact⟨[],.nil,rfl,λ_ z=>nomatch z⟩
   |cons r _ I=>
    obtain⟨f,u,p,w⟩:=I;obtain⟨_,⟨⟨t,rfl,e⟩,_⟩,rfl⟩:=r;obtain⟨o,T,y,n,a,b,c⟩:=hp t _ e;refine⟨_::f,.cons a b c rfl u,by simp_all,λv j=>?_⟩;rcases OC.mp j with rfl|j
    ·simp
    exact w v j
  exact kat_kind (T:=.type "int") u (by lia) (λv j=>by
   obtain⟨i,t,rfl⟩:=w v j;exact Looks.of_pure rfl) rfl q
 lt:=by
  rintro A E s Q ⟨a,b⟩ ⟨c,d⟩ _ _ _ _ hp ⟨⟨t,rfl,e⟩,C,D⟩ rfl ⟨⟨m,rfl,l⟩,F,J⟩ rfl h;rw[Srt.lex_lt C D F J]at h;obtain⟨ox,_,_,_,L,_,M⟩:=hp t _ e;obtain⟨oy,_,_,_,N,_,O⟩:=hp m _ l;refine kat_lt L M N O<|kat_cons<|WG<|kat_go (λg=>?_) λg=>?_
  ·rw[g,Ox rfl]at h;refine kat_yes<|kat_cons<|WG<|kat_go (λG=>?_) λG=>?_
   ·have e:b=d:=by simpa using G
    subst e;rw[Ob<|YW _]at h;exact kat_yes<|kat_nil h
   exact kat_no<|kat_one _ _<|lt_int h
  rw[g,Ov Om]at h;exact kat_no<|oneLt_int h
theorem Gb(h:-B<=q.2)(H:q.2<=B)(d:-B<=Q.2)(f:Q.2<=B)(e:Srt.lexKey B q=Srt.lexKey B Q):q=Q:=by
 obtain⟨a,b⟩:=q;obtain⟨x,y⟩:=Q;have c:=Srt.lex_lt (a:=a) (x:=x) h H d f;have E:=Srt.lex_lt (a:=x) (x:=a) d f h H;rw[Ob<|by rw[e];exact YW _]at c E;simp only[US]at c E
 split at c
 ·subst_vars
  exact R8 rfl (by lia)
 rename_i n;rw[Ov<|P6 n]at E;lia
theorem uu{κ A ι:Type}(S:ι->(H:Hp)->SK X H κ)(C:ι->Hp->SW.Kind X.prog X.w A)(E:κ->A)(B:∀k c,E k=E c->k=c)(rm:∀b H,(C b H).room X.A.in1.in1.in1)
  (D:∀{b O o H s},Inv X O o H s->(S b H).hp s.heap) (ac:∀{b H h k x v},(S b H).hp h->(S b H).vr k x->RelV x v->(C b H).is h (E k) v) (am:∀{b H h c v},(C b H).is h c v->∃k x,c=E k/\(S b H).vr k x/\RelV x v)
  (an:∀{b H k x c x'},(S b H).vr k x->(S b H).vr c x'->(S b H).key k=(S b H).key c->k=c) {rd:V->Hp->VK->Prop}
  (as:∀{x H Q},rd x H Q->∃b p W F,x=.ref p/\SqL X.K H p W/\Paired (S b H).vr F W/\F.length<=18/\
   ∀l t d,H l=Oa->d.Nodup->(∀q,q∈d↔q∈F)->(d.map (S b H).key).Pairwise (· < ·)->Paired (S b H).vr d t->Q (.ref l) (upd H l<|.lst t))
  {e:PD} {te:TE} {p1 Y q1 G:Pos} (hc:X.calm=N7) (av:Gl X "sorted") (az:X.mg "sorted"=Oa) (aC:Gl X "set") (aF:X.mg "set"=Oa) (he:PE X e te)
  (hs:OW [e] X.env=[(Oc,QA e X.env)]) (Zx:OW [.Call (.Name "set" Y) [e] [] G] X.env=[(Oc,QA (.Call (.Name "set" Y) [e] [] G) X.env)]):
  PE X (.Call (.Name "sorted" p1) [.Call (.Name "set" Y) [e] [] G] [] q1) (λo H Q=>te o H λx f=>rd x f Q):=by
 intro O s o H Q I h;refine Qy<|dZ I av az Uq ?_;refine UZ ?_ Zx rfl;rw[Zx];show wpAny _ _ (spliced<|(Oc,QA (.Call (.Name "set" Y) [e] [] G) X.env)::RE q1 (OW [] X.env)) _ _ s
 refine Ue<|Qy<|dZ I aC aF boot_set ?_;refine Qk (bL (aP he (gU (X:=X)) (by rw[hs];rfl) G O s o H (BN λx f=>rd x f Q) I h) λus s1 ⟨vs,f,Z,r1,aL⟩=>?_) hs rfl;obtain⟨x,e1,hx⟩:=jy aL;obtain⟨b,p,W,F,rfl,hq,J,a6,q⟩:=as hx;subst e1;obtain⟨u,rfl,ru⟩:=eV r1;cases ru;obtain⟨P9,rv,pl,hz⟩:=Z.list hq;have a7:=Paired.length J;have V2:=rv.length;refine SW.call_set (C b f) (rm b f) (Z.ok.hd hc) pl.isList (g:=F.map E) (by simp;lia) (by grind) (λi v hv=>?_) λh' tk U hS hm n=>?_
 ·have Z_:P9[i]?=gV v:=by simpa using hv
  have RH:i<P9.length:=(N8.mp Z_).1;obtain⟨tv,L⟩:∃tv,W[i]?=gV tv:=⟨_,N_ (by lia)⟩;obtain⟨v2,M,a0⟩:=rv.get L;rw[Z_]at M;cases M;obtain⟨k,e0,n⟩:=TS.paired_at' J L;exact⟨E k,by rw[Ow,e0];rfl,ac (D Z) n a0⟩
 have I2:Inv X O o f {s1 with heap:=h',toks:=tk}:=Z.kept n;refine Wf ?_;refine Tw Yl Xb Xd (Z0 _) ?_;unfold Builtin.«sorted»;refine B' (m:=Y' "sorted" 1 1 _)<|Of ?_;refine B'<|SW.collect_set (A:=X.A.in1) (C b f) (I2.ok.hd hc) hS hS.le λj a1 a2 a3 a4 g P=>?_;obtain⟨a,e2,w⟩:∃a,a3=a.map E/\Paired (λk v=>∃x,(S b f).vr k x/\RelV x v) a a2:=by
  clear g
  induction P with
  |nil=>exact⟨[],rfl,.nil⟩
  |cons r _ ih=>
   obtain⟨a,rfl,h⟩:=ih;obtain⟨k,x,rfl,y,j⟩:=am r;exact⟨k::a,rfl,.cons ⟨x,y,j⟩ h⟩
 have I3:Inv X O o f {s1 with heap:=j,toks:=a1}:=I2.kept a4;have N:a.Nodup:=by
  have:=g.nodup_iff.mpr hS.nodup;rw[e2,Qt,Ph]at this;exact this.imp λh z=>h<|Pa _ z
 have T:∀k∈a,∃x,(S b f).vr k x:=λk n=>by
  clear N e2 P g
  induction w with
  |nil=>cases n
  |cons r _ ih=>
   obtain rfl|n:=OC.mp n
   ·exact⟨_,r.choose_spec.1⟩
   exact ih n
 have WW:=Paired.length w;have a8:a.length=U.length:=by rw[<-g.length_eq,e2,A']
 have a9:=hS.le;refine mY (S b f) I3 (D I3) (by lia) w ?_ λl t d y j h3 h4=>q l t d y (j.nodup_iff.mpr N) (λk=>?_) h3 h4
 ·rw[Qt,Ph];refine(Qt.mp N).imp_of_mem λ{k c} m1 m2 h z=>?_;obtain⟨x,hx⟩:=T k m1;obtain⟨x',a5⟩:=T c m2;exact h<|an hx a5 z
 have m:∀k,E k∈U↔k∈a:=λk=>by
  rw[<-g.mem_iff,e2,OK];exact⟨λ⟨c,y,j⟩=>B _ _ j▸y,λh=>⟨k,h,rfl⟩⟩
 rw[j.mem_iff,<-m,hm,OK];exact⟨λ⟨c,y,j⟩=>B _ _ j▸y,λh=>⟨k,h,rfl⟩⟩
def L7(K:C'):V->Hp->VK->Prop:=λx H Q=>∃(p:J') (n:ab Int),x=.ref p/\SqL K H p (n.map V.int)/\n.length<=18/\
 ∀(l:J') (v:ab Int),H l=Oa->v.Nodup->(∀z,z∈v↔z∈n)->RP (·<=·) v->Q (.ref l) (upd H l<|.lst<|wh V.int v)
theorem qx:∀n,Paired (xB X H).vr n<|n.map V.int
 |[]=>.nil
 |_::n=>.cons rfl<|qx n
theorem Gc{j P m c:Pos}(o:X.calm=N7)(d:Gl X "sorted")(f:X.mg "sorted"=Oa)(g:Gl X "set")(i:X.mg "set"=Oa)(s:PE X e T)
  (u:OW [e] X.env=[(Oc,QA e X.env)]:=by rfl) (Z:OW [.Call (.Name "set" P) [e] [] c] X.env=[(Oc,QA (.Call (.Name "set" P) [e] [] c) X.env)]:=by rfl):
  PE X (.Call (.Name "sorted" j) [.Call (.Name "set" P) [e] [] c] [] m) (λw H Q=>T w H λx y=>L7 X.K x y Q):=
 uu (λY=>xB X) (λY Y=>SW.intK _ X.w) id (λY Y h=>h) (λY Y=>trivial) (λY=>trivial) (by rintro b H h k Y Y Y rfl ⟨t,rfl⟩;exact vb _ _ _ _) (λ{b H h z v} r=>by
   obtain⟨t,rfl⟩:=R7 r;exact⟨z,_,rfl,rfl,t,rfl⟩) (λY Y h=>h)
  (λ⟨p,n,e,A,B,q⟩=>⟨(),p,_,n,e,A,qx n,B,λl C a D E F G I=>by rw[qe I];exact q l a D E F<|((Tt a)▸G).imp Xq⟩) o d f g i s u Z
noncomputable def J2(q:Int×Int):ab Int:=[q.1,q.2]
def J3:V->Hp->VK->Prop:=λx H Q=>∃(p:J') (T:ab V) (s:ab (Int×Int)) (B:Int),x=.ref p/\H p=gV (.lst T)/\Paired (PR H) s T/\s.length<=18/\(∀q∈s,-B<=q.2/\q.2<=B)/\
 ∀(l:J') (t:ab V) (P:ab (Int×Int)),H l=Oa->P.Nodup->(∀q,q∈P↔q∈s)->(P.map<|Srt.lexKey B).Pairwise (·<=·)->Paired (PR H) P t->Q (.ref l) (upd H l<|.lst t)
theorem nM{c d:Type}{F G:c->d->Prop}{A:ab c}{B:ab d}(h:Paired F A B)(f:∀a∈A,∀b,F a b->G a b):Paired G A B:=by
 induction h with
 |nil=>exact .nil
 |cons r _ i=>exact .cons (f _ Ot _ r)<|i λa H=>f a<|Os _ H
theorem Cd{D P F f:Pos}(hu:X.A.units+64<R1)(G:X.calm=N7)(g:Gl X "sorted")(i:X.mg "sorted"=Oa)(j:Gl X "set")(m:X.mg "set"=Oa)(J:PE X e L)
  (M:OW [e] X.env=[(Oc,QA e X.env)]:=by rfl) (Z:OW [.Call (.Name "set" P) [e] [] f] X.env=[(Oc,QA (.Call (.Name "set" P) [e] [] f) X.env)]:=by rfl):
  PE X (.Call (.Name "sorted" D) [.Call (.Name "set" P) [e] [] f] [] F) (λC H Q=>L C H λx N=>J3 x N Q):=
 uu _ (λB H=>SW.tupL _ X.w λa k=>∃q,k=J2 q/\(Cc X B H).vr q _) J2 (λk k' h=>by simp[J2]at h;exact R8 h.1 h.2) (λV V=>by show X.A.in1.in1.in1.units<R1;simp;lia)
  (λ{b Og C H s} I t q e=>by
   obtain⟨P9,O,⟨o,E,u,n,v⟩,V⟩:=I.tuple<|SqT.of e;obtain⟨u1,u2,rfl,⟨U,rfl⟩,⟨W,rfl⟩⟩:=xp O;exact⟨o,U,W,n,E,u,v⟩)
  (by
   rintro b H h k V V Y ⟨⟨t,rfl,e⟩,bd⟩ rfl;obtain⟨o,tx,ty,n,A,w,y⟩:=Y t k e;exact⟨t,rfl,⟨o,_,n,A,w,y,.cons (vb _ _ _ _)<|.cons (vb _ _ _ _) .nil⟩,k,rfl,⟨t,rfl,e⟩,bd⟩)
  (λ⟨a,E,V,q,u,v⟩=>⟨q,.ref a,u,v,E⟩) (λc d=>Gb c.2.1 c.2.2 d.2.1 d.2.2)
  (λ⟨p,ts,ps,B,e,c,d,h3,h4,q⟩=>⟨B,p,ts,ps,e,SqL.of c,nM d λa ha V r=>⟨r,h4 a ha⟩,h3,λl T z A w y a4 a5=>q l T z A w y (a4.imp Xq)<|nM a5 λV V V r=>r.1⟩) G g i j m J M Z
end L2
namespace L2
open PySem PySem.Spec PyProof.Rows
structure Zp (z TI TO i1 i2:J'):Prop where
 a1:TI≠z
 a2:TO≠z
 a3:i1≠z
 a4:i2≠z
 a5:TI≠TO
 a6:TI≠i1
 a7:TI≠i2
 a8:TO≠i1
 a9:TO≠i2
 b1:i1≠i2
noncomputable def J4(K:C')(a b:J'):It:=
 ⟨λi H=>∃X Y x y,SqL K H a X/\SqL K H b Y/\X[i]?=gV x/\Y[i]?=gV y,
  λi H x h=>∃t u v,H t=Oa/\x=.ref t/\h=upd H t (.tup [u,v])/\(∀X,SqL K H a X->X[i]?=gV u)/\(∀Y,SqL K H b Y->Y[i]?=gV v),
  λi H=>∃X Y,SqL K H a X/\SqL K H b Y/\(X.length<=i\/Y.length<=i)⟩
theorem uv{TI TO:J'}(D:Zp z TI TO i I)(a:IsZip h z TI TO F)(H:IsPair h TO t T)(j:h.IsListIter i L q)(k:h.IsListIter I b r)(W:h.IsList L x)(w:h.IsList b y):ZipApart z TI TO i I L b:=by
 have n:∀{c l:J'} {o:Obj} {s:Pi K'},h.get? c=gV o->o.cls≠.type "list"->h.IsList l s->l≠c:=λm p ⟨O,e,E,Z⟩ z=>by
  simp_all
 obtain⟨u,C,d,Z⟩:=j;obtain⟨v,f,g,Z⟩:=k;exact⟨D.a1,D.a2,D.a3,D.a4,D.a5,D.a6,D.a7,D.a8,D.a9,D.b1,n a (by simp) W,n H (by simp) W,n C (by rw[d];decide) W,n f (by rw[g];decide) W,n a (by simp) w,n H (by simp) w,n C (by rw[d];decide) w,n f (by rw[g];decide) w⟩
theorem Ce{P:Ou}{w:ON}{K:C'}{es:ab PD}{k1:Nat}{an:Pos}(a b z TI TO f g:J')(D:Zp z TI TO f g):
  vI P w K (.Tuple es k1 an) (J4 K a b) [z,TI,TO,f,g] z (λi h=>IsZip h z TI TO .none/\IsPair h TI (.ref f) (.ref g)/\(∃c d,IsPair h TO c d)/\h.IsListIter f a i/\h.IsListIter g b i) where
 mem:=by simp
 obj:=λi h st c hc=>by
  obtain⟨B,J,⟨p,q,C⟩,⟨o4,F,V,e4⟩,⟨o5,G,V,e5⟩⟩:=st;simp only[OC,QL,Us]at hc;obtain rfl|rfl|rfl|rfl|rfl:=hc
  ·exact⟨_,B,λv y=>by cases y⟩
  ·exact⟨_,J,λv y=>by cases y⟩
  ·exact⟨_,C,λv y=>by cases y⟩
  ·exact⟨o4,F,λv y=>by lia⟩
  exact⟨o5,G,λv y=>by lia⟩
 keep:=λi h h' st k=>by
  obtain⟨B,J,⟨p,q,C⟩,F,G⟩:=st;exact⟨k z (by simp) _ B,k TI (by simp) _ J,⟨p,q,k TO (by simp) _ C⟩,F.at λo e=>k f (by simp) o e,G.at λo e=>k g (by simp) o e⟩
 item:=by
  intro X hP U hK hc i Og s σ H E I T st hg;subst hP U hK;obtain⟨xs,ys,x,y,L,M,hx,hy⟩:=hg;obtain⟨as,Y,p1,V⟩:=I.list L;obtain⟨av,Z,p2,V⟩:=I.list M;obtain⟨u1,WZ,az⟩:=Y.get hx;obtain⟨u2,aC,aF⟩:=Z.get hy;obtain⟨B,J,⟨p,q,C⟩,F,G⟩:=st;have DA:=uv D B C F G p1.isList p2.isList;refine wpAny_pyNext_zip_item DA B J C F G p1.isList p2.isList (x:=u1) (y:=u2) (by simp_all) (by simp_all) λh' g1 g2 g3 g4 g5 g6 hk=>?_;refine⟨_,rfl,wpAny_letOwnedTupleGo_zip g1 λN aL A=>?_⟩;have am:z<s.heap.objs.size:=OB B;have a0:TO<s.heap.objs.size:=OB C;have a1:TI<s.heap.objs.size:=OB J;have a2:f<s.heap.objs.size:=by
   obtain⟨o,e,V⟩:=F;exact OB e
  have a3:g<s.heap.objs.size:=by
   obtain⟨o,e,V⟩:=G;exact OB e
  have kk:∀c o,c≠z->c≠TO->c≠f->c≠g->s.heap.get? c=gV o->N.get? c=gV o:=λc o n1 n2 n3 n4 e=>A.extBut c o n1<|hk c o n1 n2 n3 n4 e;have t:∀c o,c∉[z,TO,f,g]->s.heap.get? c=gV o->N.get? c=gV o:=λc o j e=>(by simp_all);have j:H s.heap.objs.size=none:=I.hok.fresh<|N' _;have a4:IsPair N s.heap.objs.size u1 u2:=A.extBut _ _ (R_ am) g5;have nt:∀c o,H c=gV o->c∉[z,TO,f,g]:=λc o e O=>by
   have:c∈[z,TI,TO,f,g]:=by
    grind
   rw[(T c this).1]at e;cases e
  have I1:Inv X Og σ (upd H s.heap.objs.size<|.tup [x,y]) {s with heap:=N,toks:=s.toks}:=by
   refine I.step (g':=s.gens) (d':=s.drawn) (t':=s.toks) (ch:=[z,TO,f,g]) (λc W=>?_) (λc o V V W e V=>t c o W e) (λc o V V W e V=>⟨o.slots,t c o W e⟩) (λc o V e n=>?_) (λc o W e=>⟨o,t c o W e⟩) (λc ws e=>?_) (λc ob ws e=>?_) (λc ps e=>⟨#[],?_⟩) (λm O=>?_) (λc ob e=>?_) I.bare
   ·have l:c∈[z,TI,TO,f,g]:=by
     grind
    obtain⟨f0,f1,f2,f3,f4,f5⟩:=T c l;exact⟨f3,f1,f4,f5⟩
   ·rw[ag<|OQ<|OB e];exact n
   ·rw[ag<|af e j];exact e
   ·rw[ag<|af e j];exact e
   ·rw[ag<|af e j,e];simp
   ·obtain⟨o,ac,ep,ho,r⟩:=O;have Q:∀c,c∈[z,TI,TO,f,g]->c≠X.env.locals:=λc l=>(T c l).2.1;exact⟨o,ac,ep,by grind,r⟩
   by_cases hb:c=s.heap.objs.size
   ·subst hb;rw[aa]at e;cases e;exact⟨by show 2<=sizeLine;decide,[u1,u2],.cons az<|.cons aF .nil,⟨_,a4,rfl,_,rfl⟩⟩
   rw[ag hb]at e;refine(I.hok c ob e).stay (λd v u y=>?_) (λd y=>by rw[ag<|af y j];exact y) λd ws y=>by rw[ag<|af y j];exact y
   obtain u|u:=u
   ·subst u;exact t _ v (nt _ _ e) y
   exact t _ v (nt _ _ u) y
  refine⟨.ref s.heap.objs.size,_,I1,rfl,⟨s.heap.objs.size,x,y,j,rfl,rfl,λws U=>by rw[I.list_inj U L];exact hx,λws U=>by rw[I.list_inj U M];exact hy⟩,⟨aL,A.extBut _ _ D.a1<|hk _ _ D.a1 D.a5 D.a6 D.a7 J,⟨_,_,A.extBut _ _ D.a2 g2⟩,g3.at λo e=>A.extBut f o D.a3 e,g4.at λo e=>A.extBut g o D.a4 e⟩,λc W=>?_⟩;have RH:c<s.heap.objs.size:=by
   simp only[OC,QL,Us]at W;obtain rfl|rfl|rfl|rfl|rfl:=W
   ·exact am
   ·exact a1
   ·exact a0
   ·exact a2
   exact a3
  rw[ag<|OQ RH];exact(T c W).1
 done:=by
  intro X hP U hK hc i Og s σ H E I T st hg;subst hP U hK;obtain⟨xs,ys,L,M,hx⟩:=hg;obtain⟨as,Y,p1,V⟩:=I.list L;obtain⟨av,Z,p2,V⟩:=I.list M;obtain⟨B,J,⟨p,q,C⟩,F,G⟩:=st;have DA:=uv D B C F G p1.isList p2.isList;have l1:=Y.length;have l2:=Z.length;refine wpAny_pyNext_zip_end (I.ok.hd hc) DA B J C F G p1.isList p2.isList ?_ λh' hk=>⟨rfl,?_⟩
  ·simp_all
  have t:∀c o,c∉[z,TO,f,g]->s.heap.get? c=gV o->h'.get? c=gV o:=λc o j e=>(by simp_all);have nt:∀c o,H c=gV o->c∉[z,TO,f,g]:=λc o e O=>by
   have:c∈[z,TI,TO,f,g]:=by
    grind
   rw[(T c this).1]at e;cases e
  refine I.step (g':=s.gens) (d':=s.drawn) (t':=s.toks) (ch:=[z,TO,f,g]) (λc W=>?_) (λc o V V W e V=>t c o W e) (λc o V V W e V=>⟨o.slots,t c o W e⟩) (λc o V e n=>n) (λc o W e=>⟨o,t c o W e⟩) (λc ws e=>e) (λc ob ws e=>e) (λc ps e=>⟨#[],by rw[e];simp⟩) (λm O=>?_) (λc ob e=>?_) I.bare
  ·have l:c∈[z,TI,TO,f,g]:=by
    grind
   obtain⟨f0,f1,f2,f3,f4,f5⟩:=T c l;exact⟨f3,f1,f4,f5⟩
  ·obtain⟨o,ac,ep,ho,r⟩:=O;have Q:=λc l=>(T c l).2.1;exact⟨o,ac,ep,by grind,r⟩
  refine(I.hok c ob e).stay (λd v u y=>?_) (λd y=>y) λd ws y=>y;obtain u|u:=u
  ·subst u;exact t _ v (nt _ _ e) y
  exact t _ v (nt _ _ u) y
 self:=λV V V V V st h=>aac st.1 h
def L8(f:V->V->Hp->Prop):ab V->Hp->Prop
 |[x,y],H=>f x y H
 |_,_=>False
theorem Cf:∀{v:ab V} {H:Hp},L8 f v H->∃x y,v=[x,y]/\f x y H:=by
 intro v H h;cases v with
 |nil=>cases h
 |cons x v=>
  cases v with
  |nil=>cases h
  |cons y v=>
   cases v with
   |nil=>exact⟨x,y,rfl,h⟩
   |cons=>cases h
def Nw(K:C')(t T:TE):TI:=λc H R=>t c H λx d=>T c d λy h=>∃a b,x=.ref a/\y=.ref b/\(∃X,SqL K h a X)/\(∃Y,SqL K h b Y)/\R (J4 K a b) h
theorem Cg{E:ab PD}{J:Nat}{A:Pos}{p P:Pos}(L:Gl X "zip")(M:X.mg "zip"=Oa)(Q:PE X l T)(U:PE X m tm)(z:OW [l,m] X.env=[(Oc,QA l X.env),(Oc,QA m X.env)]:=by rfl)(Z:OW [m] X.env=[(Oc,QA m X.env)]:=by rfl):
  PI X (.Tuple E J A) (.Call (.Name "zip" p) [l,m] [] P) (Nw X.K T tm):=by
 intro O s B H R I h;have ha:=aP Q (aP U (gU)<|by rw[Z];rfl) (by rw[z,Z]);refine Call_ (dZ I L M boot_zip<|Qk (bL (ha P O s B H (L8 _) I h) λus d V=>?_) (by rw[z,Z])<|by rw[Z];rfl);obtain⟨vs,f,g,r1,q1⟩:=V;obtain⟨x,y,e,a,b,ex,ey,⟨C,k⟩,⟨Y,o⟩,q⟩:=Cf q1;subst e ex ey;obtain⟨u1,u2,rfl,r,t⟩:=xp r1;cases r;cases t;obtain⟨ac,am,u,S⟩:=g.list k;obtain⟨an,as,v,S⟩:=g.list o;refine call_zip_2 u.isList v.isList λh' G g2 g3 g4 g5 g6 hk=>aac G ?_;have I2:Inv X O B f {d with heap:=h'}:=g.kept hk;have F:∀n,pE X O f (d.heap.objs.size+n):=λn=>g.fpOk (U1 _ _)<|g.hok.fresh<|U1 _ _;have N:∀i j,i≠j->d.heap.objs.size+i≠d.heap.objs.size+j:=λi j w e=>w<|Nat.add_left_cancel e;have D:Zp (d.heap.objs.size+4) (d.heap.objs.size+2) (d.heap.objs.size+3) (d.heap.objs.size+0) (d.heap.objs.size+1):=⟨N _ _ (by decide),N _ _ (by decide),N _ _ (by decide),N _ _ (by decide),N _ _ (by decide),N _ _ (by decide),N _ _ (by decide),N _ _ (by decide),N _ _ (by decide),N _ _<|by decide⟩;refine⟨d.heap.objs.size+4,_,_,_,f,rfl,I2,Ce a b _ _ _ _ _ D,⟨G,g2,⟨_,_,g3⟩,g4,g5⟩,λc W=>?_,q⟩;simp only[OC,QL,Us]at W;obtain rfl|rfl|rfl|rfl|rfl:=W
 ·exact F 4
 ·exact F 2
 ·exact F 3
 ·exact F 0
 exact F 1
end L2
namespace OD
open PySem L2
noncomputable def aJ(t:Str)(h:Oe):ab Int:=((O7 t.length).filter λi=>cu t i == h).map λ(i:Nat)=>(i:Int)+1
theorem Ch:∀(a b:ab Int),a.Pairwise (· < ·)->b.Pairwise (· < ·)->(∀z,z∈a↔z∈b)->a=b
 |[],[],_,_,_=>rfl
 |[],y::b,_,_,h=>absurd ((h y).mpr Ot) (by simp)
 |x::a,[],_,_,h=>absurd ((h x).mp Ot) (by simp)
 |x::a,y::b,c,d,h=>by
  obtain⟨A,f⟩:=Pt.mp c;obtain⟨B,g⟩:=Pt.mp d;have e:x=y:=by
   obtain z|z:=OC.mp ((h x).mp Ot)
   ·exact z
   obtain w|w:=OC.mp ((h y).mpr Ot)
   ·exact w.symm
   have:=B x z;have:=A y w;lia
  subst e;rw[Ch a b f g λz=>?_];constructor
  ·intro H;obtain w|w:=OC.mp ((h z).mp<|Os _ H)
   ·have:=A z H;lia
   exact w
  intro H;obtain w|w:=OC.mp ((h z).mpr<|Os _ H)
  ·have:=B z H;lia
  exact w
theorem gs:∀{L:ab Int} {b:Int},f_ m b (L.map .int)=N7↔(b::L.map absI).Pairwise (· < ·)/\∀l∈L,absI l<=m
 |[],b=>by
  constructor
  ·simp
  ·intro y;rfl
 |l::r,b=>by
  rw[OU,hO];constructor
  ·intro h;by_cases c:b<absI l/\absI l<=m
   ·rw[Ox c]at h;obtain⟨a,d⟩:=gs.mp h;refine⟨Pt.mpr ⟨λz H=>?_,a⟩,λz H=>?_⟩
    ·obtain e|e:=OC.mp H
     ·simp_all
     have:=(Pt.mp a).1 z e;lia
    obtain e|e:=OC.mp H
    ·simp_all
    exact d z e
   simp_all
  rintro⟨a,d⟩;obtain⟨f,g⟩:=Pt.mp a;rw[Ox ⟨f _ Ot,d l Ot⟩];exact gs.mpr ⟨g,λz H=>d z<|Os _ H⟩
theorem wq{m:Int}{L v:ab Int}(n:v.Nodup)(i:∀z,z∈v↔z∈L.map absI)(s:v.Pairwise (·<=·)):
  (decide (L.map absI=v)&&decide ((((L.map absI).filter λz=>decide (z<1) || decide (z>m)).length:Int)=0))=f_ m 0 (L.map .int):=by
 rw[Qe,Pj,O6,O6,gs];have r:v.Pairwise (· < ·):=by
  refine(ae' s n).imp λ{a b} h=>?_;lia
 constructor
 ·rintro⟨d,g⟩;have c:∀z∈L.map absI,1<=z/\z<=m:=λz H=>by
   simp_all
  refine⟨Pt.mpr ⟨λz H=>?_,by simp_all⟩,λl f=>(c _<|Qr f).2⟩;have:=(c z H).1;lia
 rintro⟨d,g⟩;obtain⟨c,j⟩:=Pt.mp d;exists Ch _ _ j r λz=>(i z).symm;have:(L.map absI).filter (λz=>decide (z<1) || decide (z>m))=[]:=by
  refine Qz.mpr λz H=>?_;have:=c z H;obtain⟨l,f,rfl⟩:=OK.mp H;have:=g l f;lia
 rw[this];rfl
end OD
namespace L2
open PySem
theorem Cj(U:X.length=n)(W:Y.length=n)(Pv:Nat->St->ab V->Hp->Prop)(o:Pv 0 h [] (upd r D<|.lst []))(s:∀i d Z H,i<=n->Pv i d Z H->H D=gV (.lst Z)/\SqL K H a X/\SqL K H b Y)
  (w:∀i x y d Z H t,X[i]?=gV x->Y[i]?=gV y->Pv i d Z H->H t=Oa->g (.ref t) d (upd H t<|.tup [x,y]) λf A=>T f A λc k=>if c=N7 then B f k λz l=>l D=gV (.lst Z)/\Z.length<sizeLine/\Pv (i+1) f (Z++[z]) (upd l D<|.lst<|Z++[z])else Pv (i+1) f Z k)
  (C:∀d Z H,Pv n d Z H->Q (.ref D) H):gQ (J4 K a b) D g T B h r Q:=by
 exists λi m d Z H=>m=n-i/\i<=n/\Pv i d Z H,⟨n,by simp,OG _,o⟩;rintro i m d Z H ⟨rfl,E,p⟩;obtain⟨F,q,j⟩:=s i d Z H E p;exists F;by_cases G:i<n
 ·refine .inr ⟨⟨X,Y,X[i],Y[i],q,j,N_ _,N_ _⟩,Pv<|i+1,λI J L P=>⟨n-(i+1),ip G (Tq _),rfl,G,P⟩,λx L y=>?_⟩;obtain⟨t,u,v,M,rfl,rfl,N,O⟩:=y;exact w i u v d Z H t (N X q) (O Y j) p M
 have e:i=n:=h7 E (hJ G)
 subst e;exact .inl ⟨⟨X,Y,q,j,by simp_all⟩,C d Z H p⟩
theorem rG{X:Cx}(e:X.K=K){E:ab PD}{k n:Nat}{p:Pos}{t:Hu}(c:X.calm=N7)(h:IX X E t)(a:(T9 E X.env).length=n:=by rfl)(H:(T9 E X.env).findIdx? (·.1)=none:=by rfl):PG X (.Tuple E k p) (K9 K n t):=by
 subst e;exact A7 c h a H
end L2
namespace HT
open PySem PyProof.Rows
theorem getItem_tuple_by{Q:K'->Od->Prop}{lo st:Int}{n:Nat}(H:lC s.heap t i)(a:s.TypeIs (.ref b) "slice")
  (l:∀{A:Pw} {E:K'->Od->Prop} (d:Int×Int×Nat->Od->Prop),d (lo,st,n) s->wpAny (OS p w) A (Tf (.ref b)<|pure (i.size:Int)) d E s)
  (e:(lo == 0&&st == 1&&n == i.size)=N7->Q (.ref t) s)
  (f:(lo == 0&&st == 1&&n == i.size)=Oc->n<=sizeLine/\Q (.ref s.heap.objs.size) {s with heap:=s.heap.push {cls:=.type "tuple",data:=.seq ((O7 n).filterMap λ(k:Nat)=>i[(lo+(k:Int)*st).toNat]?).toArray}}):
  wpAny (OS p w) A (Vw (.ref t)<|.ref b) Q E s:=by
 unfold Vw
 try with_reducible refine Qb ?_
 refine B'<|ZE H.typeIs (by rfl) ?_;refine B'<|So H.typeIs Re<|Rl Re H.typeIs YT ?_<|Zj _ _;refine B' (m:=VP<|.ref t)<|acH H<|B'<|Tj a<|B'<|l _ ?_;show wpAny _ _ (if(lo == 0&&st == 1&&n == i.size)=N7 then _ else _) _ _ s
 cases c:(lo == 0&&st == 1&&n == i.size)with
 |true=>
  exact B'<|B'<|Tj H.typeIs<|Of<|B'<|RU<|Of ⟨_,rfl,Of<|e c⟩
 |false=>
  obtain⟨z,q⟩:=f c;have h:sizeOk (.seq ((O7 n).filterMap λ(k:Nat)=>i[(lo+(k)*st).toNat]?).toArray):=by
   show((O7 n).filterMap _).toArray.size<=sizeLine
   exact Pm (List.length_filterMap_le _ _) (by simp_all)
  first
   |exact B'<|Qg (Of ⟨_,rfl,Of q⟩) h
   |exact B'<|Qg _ h
   |exact B'<|B'<|Qg _ h
end HT
namespace L2
open PySem PySem.Spec PyProof.Rows
def HQ(K:C'):R2:=λx y H Q=>∃a b X Y,x=.ref a/\y=.ref b/\SqT K H a X/\SqT K H b Y/\X.length+Y.length<=sizeLine/\
 (X=[]->Q (.ref b) H)/\(X≠[]->Y=[]->Q (.ref a) H)/\(X≠[]->Y≠[]->∀p,H p=Oa->Q (.ref p) (upd H p<|.tup<|X++Y))
theorem Gd:OpR X (Sq .Add) (HQ X.K):=by
 intro O s q H x y v u Q I r g h;obtain⟨a,b,i,t,rfl,rfl,j,k,w,B,C,E⟩:=h;by_cases c:i=[]
 ·cases r;cases g;obtain⟨P,F,G,V⟩:=I.tuple j;obtain⟨A,Z,J,V⟩:=I.tuple k;have L:=F.nil_iff.mpr c;obtain⟨⟨M,N,l,T⟩,o,m,n,p⟩:=id G;obtain⟨⟨U,D,data2,f⟩,d,e,W,Y⟩:=id J;simp only at m p e Y;subst m p e Y;exact ZM ⟨_,o,rfl⟩ ⟨_,d,rfl⟩ WI YZ Uy Uj (TQ _ _) (tuple_addW0 a b _ _ n W N D T f<|by simp[L]) ⟨o,d,.ref b,H,I,rfl,B c⟩
 exact Fz O s q H _ _ v u Q I r g ⟨a,b,i,t,rfl,rfl,j,k,c,w,λz=>C c z,λz=>E c z⟩
def L9(K:C'):V->M' Int->M' Int->Hp->VK->Prop:=λx lo h H Q=>∃a X,x=.ref a/\SqT K H a X/\
 ((HT.sIx X.length 0 lo=0/\HT.sIx X.length X.length h=X.length)->Q (.ref a) H)/\(¬(HT.sIx X.length 0 lo=0/\HT.sIx X.length X.length h=X.length)->∀p,H p=Oa->Q (.ref p) (upd H p<|.tup<|cZ X lo h))
theorem Ge:MM X (L9 X.K):=by
 intro O s k H x v l m lo i n Q I g d p u h;obtain⟨a,b,rfl,j,q,o⟩:=h;by_cases w:HT.sIx b.length 0 lo=0/\HT.sIx b.length b.length i=b.length
 ·cases g;obtain⟨P,r,t,B⟩:=I.tuple j;have y:P.toArray.size=b.length:=r.length.symm
  exists "tuple",_,PyProof.Rows.slot_tuple_getitem.lookup,t.typeIs;obtain⟨os,f,z,Z⟩:=id d;have e:(((HT.sIx P.toArray.size 0 lo):Int) == 0&&(1:Int) == 1&&(HT.sIx P.toArray.size P.toArray.size i-HT.sIx P.toArray.size 0 lo) == P.toArray.size)=true:=by
   simp_all
  refine HT.getItem_tuple_by t ⟨os,f,z⟩ (λC A=>HT.sliceApplied_gen d p u A) (λZ=>⟨.ref a,H,I,rfl,q w⟩) λc=>?_;rw[e]at c;cases c
 exact Jq O s k H _ v l m lo i n Q I g d p u ⟨a,b,rfl,j,w,o w⟩
theorem nN{K:C'}(e:X.K=K):fk X (.type "tuple") (λx H Q=>∃p y,x=[.ref p]/\((SqL K H p y/\∀l,H l=Oa->Q (.ref l) (upd H l<|.tup y))\/(SqT K H p y/\Q (.ref p) H))):=by
 subst e;exact bH
end L2
namespace L2
open PySem
@[irreducible] def PEi (X:Cx) (e:PD) (t:TE):Prop:=PE X e t
@[irreducible] def PAi (X:Cx) (es:ab PD) (t:TA):Prop:=PA X es t
end L2
namespace KA
open PySem PyProof.Rows
def But(H h:Pd)(a k:J'):Prop:=∀b o,b≠a->b≠k->H.get? b=gV o->h.get? b=gV o
theorem But.upA(k:But c h a d)(f:Obj->Obj):But c (h.update a f) a d:=λb o H e q=>(PJ _ _<|P6 H).trans<|k b o H e q
theorem But.upK(k:But d h a c)(f:Obj->Obj):But d (h.update c f) a c:=λb o e H q=>(PJ _ _<|P6 H).trans<|k b o e H q
theorem HR{st:PV}(m:But q s.heap a k)(N:s.heap.get? k=gV (Qs "list" r e))(t:s.heap.get? a=gV (Qs "list" #[] f))(b:k≠a)
  (g:Sk r.toList z) (Q:z.length=v.length) (u:v.length<64) (p:(Pg st).Perm (r.zip v.toArray)) (x:SortedTo (Pg st) (Pg st).size) (l:Ri st=Oa)
  (h:∀h' T o c,But q h' a k->h'.get? a=gV (Qs "list" o c)->l0 Oc z v o.toList->P (.done<|.ret .none) {s with heap:=h',toks:=T}):
  wpAny (OS i w) A (ksk_tail a Oc f (.ref k) st) P E s:=by
 have H:r.size=v.length:=by
  have y:=g.length;simp_all
 have F:(Pg st).size=v.length:=by rw[p.size_eq,abU,H,OA,adq]
 have n:(s.heap.update k<|QO λZ=>(#[]:Pi K')).get? a=gV (Qs "list" #[] f):=(PJ _ _ b).trans t;obtain⟨C,d⟩:∃C,((s.heap.update k (QO λZ=>(#[]:Pi K'))).update a (QO λZ=>(Pg st).map (·.2))).get? a=gV (Qs "list" ((Pg st).map (·.2)) C):=
  ⟨_,Vh n λZ=>(Pg st).map (·.2)⟩
 unfold ksk_tail
 try dsimp only
 refine B'<|TR N rfl ?_ (by rw[H,Qm];exact Pu (Pe u (by decide)))<|OG _;refine B'<|V_ ?_;refine B'<|Yi n rfl ?_;refine B' (TR n rfl ?_ (OG _)<|by simp only[OX,RI,YD];rw[F,Qm];exact Pu (Pe u (by decide)));rw[l];simp only[ZD,OX,RI];have j:=ksk_out (b:=Oc) g p x;simp only[OX,RI]at j;exact Of<|h _ _ _ C ((m.upK _).upA _) d j
theorem Nx(p:But x s.heap a g)(n:s.heap.get? g=gV (Qs "list" r e))(N:s.heap.get? a=gV (Qs "list" #[] y))(f:g≠a)
  (k:Sk r.toList m) (q:m.length=v.length) (H:v.length<64)
  (h:∀h' T o c,But x h' a g->h'.get? a=gV (Qs "list" o c)->l0 Oc m v o.toList->P (.done<|.ret .none) {s with heap:=h',toks:=T}):
  wpAny (OS t w) A (ksk_end a Oc v.toArray y (.ref g) r) P E s:=by
 have z:r.size=v.length:=by
  have B:=k.length;simp_all
 have b:(r.zip v.toArray).size=v.length:=by simp_all
 unfold ksk_end
 try dsimp only
 by_cases d:v.toArray.size<2
 ·rw[Ox d,Ox d];refine HR (st:=VR _ (r.zip _) #[] 7 Oa) p n N f k q H (aa7 _) ?_ rfl h;intro i j C D;grind
 rw[Ov d,Ov d];rw[ksk_kind k<|by simp_all];refine B'<|Of ?_;refine B' (Qx (wpS_sortRuns (st:=VR _ _ #[] 7 Oa)
  (Q:=λl Q=>(Pg Q).Perm _/\Ri Q=Oa/\SortedTo (Pg Q) _)
  (ksk_intKeys k) ⟨aa7 _,rfl,rfl,rfl⟩ (by simp_all) (by rwa[b]) λQ F G I=>⟨F,G,I⟩) ?_ λl l e=>e)
 rintro⟨⟨⟩,Q⟩ M ⟨rfl,u,J,L⟩
 exact HR p n N f k q H u (by rwa[u.size_eq]) J h
theorem L_{f:K'}(L:But G s.heap a g)(M:s.heap.get? g=gV (Qs "list" #[] 0))(O:s.heap.get? a=gV (Qs "list" #[] I))(m:g≠a)
  (Q:z.length=l.length) (u:l.length<64)
  (y:∀(i:Nat) (v:K') (k:Int),l[i]?=gV v->z[i]?=gV k->∀(h:Pd) (d:Nat) (R:K'->Od->Prop),(∀t T,R (.int k T) {s with heap:=h,toks:=t})->
   wpAny (OS p w) A (call f [v]) R (λ_ _=>False) {s with heap:=h,toks:=d})
  (h:∀h' d o c,But G h' a g->h'.get? a=gV (Qs "list" o c)->l0 Oc z l o.toList->P (.done<|.ret .none) {s with heap:=h',toks:=d}):
  wpAny (OS p w) A (ksk_rest a f Oc l.toArray I<|.ref g) P E s:=by
 refine B'<|RU ?_
 first
  |rw[List.forIn_toArray]
  |(simp only )
  |rw[<-Ug]
 refine B' (ksk_fold (λi B=>∃h' d b e,B={s with heap:=h',toks:=d}/\But G h' a g/\h'.get? g=gV (Qs _ b e)/\h'.get? a=gV _/\Sk b.toList (z.take i)) l 0 s
  ⟨s.heap,s.toks,#[],0,rfl,L,M,O,by simpa using IntsAre.nil⟩ ?step ?done)
 case step=>
  rintro j x B J ⟨h',d,b,e,rfl,F,n,N,H⟩;simp only[Qq]at H ⊢;have hj:=(N8.mp J).1;obtain⟨k,q⟩:∃k,z[j]?=gV k:=⟨_,N_ (by lia)⟩;have hz:b.size<=l.length:=by
   have U:=H.length;grind
  refine B'<|Wv<|Qx (y j x k J q h' d (λv r=>∃t T,v=.int k T/\r={s with heap:=h',toks:=t}) λt T=>⟨t,T,rfl,rfl⟩) (λv r W=>?_) λ_ _ X=>X.elim;obtain⟨t,T,rfl,rfl⟩:=W
  obtain⟨C,D⟩:∃C,(h'.update g (QO _)).get? g=gV _:=⟨_,Vh n (·.push _)⟩;have Y:z.take (j+1)=z.take j++[k]:=by rw[OM,q];simp
  have Z:(b.push<|SQ k T).toList=b.toList++[SQ k T]:=by simp
  refine B' (TR n rfl (Of ⟨rfl,_,_,b.push<|.int k T,C,rfl,F.upK _,D,(PJ _ _ m).trans N,by rw[Z,Y];exact ksk_snoc H⟩) (by rw[Qm];lia)<|Pm (UC (Array.size_push ..))<|by rw[Qm];lia)
 case done=>
  rintro B ⟨h',d,b,e,rfl,F,n,N,H⟩;have UR:Sk b.toList z:=by
   grind
  exact B'<|ZZ n rfl<|Nx F n N m UR Q u h
theorem tree_{f:K'}(g:s.heap.get? a=gV (Qs "list" d.toArray n))(Q:z.length=d.length)(j:d.length<64)
  (l:∀(i:Nat) (v:K') (k:Int),d[i]?=gV v->z[i]?=gV k->∀(h:Pd) (t:Nat) (R:K'->Od->Prop),(∀T r,R (.int k r) {s with heap:=h,toks:=T})->
   wpAny (OS p w) A (call f [v]) R (λZ Z=>False) {s with heap:=h,toks:=t})
  (h:∀h' t O c,(∀b o,b≠a->s.heap.get? b=gV o->h'.get? b=gV o)->h'.get? a=gV (Qs "list" O c)->l0 Oc z d O.toList->P (.done<|.ret .none) {s with heap:=h',toks:=t}):
  wpAny (OS p w) A (ksk_tree a f Oc) P E s:=by
 have u:=OB g;obtain⟨m,H⟩:∃m,(s.heap.update a (QO λZ=>(#[]))).get? a=gV _:=⟨_,Vh g _ ⟩;have e:((s.heap.update a (QO λZ=>(#[]))).push (Qs "tuple" d.toArray 0)).objs.size=s.heap.objs.size+1:=by rw[Zi,aap]
 refine B'<|ZZ g rfl<|B'<|TR g rfl ?_ (by rw[OA,Qm];exact Pu (Pe j (by decide)))<|OG _;refine B'<|Yi H rfl<|B'<|abj (B'<|U6 (Qb ?_)<|OG _) (by show d.length<=_;rw[Qm];exact Pu (Pe j (by decide)));refine L_ (s:={s with heap:=((s.heap.update a<|QO _).push<|Qs _ _ 0).push<|Qs _ #[] 0}) (g:=((s.heap.update a<|QO _).push<|Qs _ _ 0).objs.size)
  (λb o x F q=>Oj _<|Oj _<|(PJ _ _<|P6 x).trans q) (OT _ rfl) (Oj _<|Oj _ H) (by rw[e];exact R_<|QT u) Q j l
  λh' t O c y B C=>h h' t O c (λb o D q=>y b o D (by rw[e];exact OQ<|QT<|OB q) q) B C
end KA
namespace L2
open PySem PySem.Spec PyProof.Rows
theorem Ck(i:Sk s n)(k:l0 Oc (n.map g) s o):∃E,Sk o E/\E.Perm n/\(E.map g).Pairwise (·<=·):=by
 obtain⟨P,H,e,f⟩:=k;have Q:=i.length;have a:∀p,p∈(n.map g).zip s->p.1=g (nv p.2)/\p.2∈s:=by
  rw[<-i.nums,OY,List.zip_map_left];intro p H;obtain⟨⟨u,v⟩,j,rfl⟩:=OK.mp H;have b:u=v/\u∈s:=Xc j;refine⟨?_,?_⟩
  ·show g _=g (nv v)
   rw[b.1]
  rw[<-b.1];exact b.2
 have I:=intsAre_map _ λv l=>by
  obtain⟨p,h,rfl⟩:=OK.mp l;exact i.all _ (a p<|H.mem_iff.mp h).2
 have m:((P.map Yn).map nv).Perm n:=by
  have b:=(H.map Yn).map nv;rwa[aax (by simp_all),i.nums]at b
 exists (P.map Yn).map nv,by rwa[e],m;rw[Ph,Ph,Ph];refine f.imp_of_mem λ{p q} h d r=>?_;have c:p.1<=q.1:=by assumption
 rwa[(a p<|H.mem_iff.mp h).1,(a q<|H.mem_iff.mp d).1]at c
theorem zY{Q:VK}(I:Inv X m w H s)(A:SqL X.K H p (N.map V.int))(B:N.length<64)
  (q:∀(l:J') (E:ab Int),H l=Oa->E.Perm N->(E.map OD.absI).Pairwise (·<=·)->Q (.ref l) (upd H l<|.lst<|E.map V.int)):
  wpAny (OS X.prog X.w) X.A (call (.builtin "sorted") [.ref p] [(Oh "key",.builtin "abs")]) (EP X m w Q) X.xe s:=by
 obtain⟨a,C,P,hz⟩:=I.list A;have g:=i9 C;have D:a.length=N.length:=Ym g;refine call_function_entry_kw Yl Xb Xd (ksk_s1 _ _) ?_;unfold Builtin.«sorted»;refine B' (m:=Y' "sorted" 1 1 _)<|Of ?_;refine B' (collect_list P.isList ?_<|by simp_all);refine B' (U6 ?_<|by simp_all);have z:((s.heap.push<|Qs "list" #[] 0).update s.heap.objs.size (QO (·++a.toArray))).objs.size=s.heap.objs.size+1:=by
  rw[aap,Zi]
 have L:(((s.heap.push<|Qs "list" #[] 0).update s.heap.objs.size (QO (·++a.toArray))).push<|Qs "list" a.toArray 0).get? (s.heap.objs.size+1)=gV (Qs "list" a.toArray 0):=by
  rw[<-z];exact OT _ rfl
 have d:∀b o,s.heap.get? b=gV o->(((s.heap.push<|Qs "list" #[] 0).update s.heap.objs.size (QO (·++a.toArray))).push<|Qs "list" a.toArray 0).get? b=gV o:=λb o q=>by
  have r:b<s.heap.objs.size:=OB q;rw[ZU _ _ _ (by rw[z];exact OQ<|QT r),Heap.get?_update_ne _ _ _ _<|OQ r,ZU _ _ _<|OQ r];exact q
 show wpAny _ _ _ _ _ {s with heap:=((s.heap.push<|Qs "list" #[] 0).update s.heap.objs.size (QO (·++a.toArray))).push<|Qs "list" a.toArray 0}
 rw[z];refine B'<|Qb<|wpAny_call_entry_kw Yh ⟨_,L,rfl⟩ Xz ?body (ksk_l1 _ _)
 case body=>
  show wpAny (OS X.prog X.w) X.A.in1.in1 (Builtin.«list.sort» ⟨[.ref<|s.heap.objs.size+1],_⟩) _ _ _
  rw[ksk_t4];refine KA.tree_ (z:=N.map OD.absI) (s:={s with heap:=((s.heap.push<|Qs "list" #[] 0).update s.heap.objs.size (QO (·++a.toArray))).push<|Qs "list" a.toArray 0}) L (by rw[A',D]) (by simp_all) (λi v k F f h T R G=>?_) λJ T O c M U W=>⟨_,rfl,?_⟩
  ·obtain⟨t,rfl⟩:=IntsAre.int_at g i v F;rw[Ow]at f;cases e:N[i]? with
   |none=>rw[e]at f;simp at f
   |some n=>
    rw[e]at f;have Y:gV _=gV k:=f;cases Y;have Z:N.getD i 0=n:=by simp_all
    rw[Z];exact Y1 λu j=>G j u
  refine Of ⟨_,rfl,?_⟩;obtain⟨E,i1,x,i3⟩:=Ck g W;have I2:Inv X m w (upd H (s.heap.objs.size+1)<|.lst<|E.map V.int) {s with heap:=J,toks:=T}:=by
   refine I.laid (λb o y=>?_) (Uk _) ?_
   ·have hb:=OB y;exact M b o (OQ<|QT hb)<|d b o y
   refine⟨?_,O.toList,c,iu i1,by simpa using U⟩;rw[A',x.length_eq];simp_all
  exact⟨.ref<|s.heap.objs.size+1,_,I2,rfl,q _ E (I.hok.fresh<|Uk _) x i3⟩
end L2
namespace KX
open PySem PyProof.Rows
theorem zZ(a v:K'):ud "max" ⟨[a],[(Oh "default",v)]⟩:=by rfl
section
variable {R:lA->Od->Prop}{St:Nat->Pd->Prop}
theorem Ma(W:Walks p w A.in1 I O G n P St)(B:Nat->Nat->Oe)(C:CmpOf p w A.in1 .Gt P B)(S:J')(r:S∉O):
  ∀k j s f c,n-(j+1)=k->j+1<=n->St (j+1) s.heap->P (Vx B j) f->
  s.heap.get? S=gV {cls:=.type "list",dict:=Oa,data:=.seq #[f,f] c,slots:=#[]}->
  (∀v h' y,P (Vx B<|n-1) v->(∀b o,b∉G->b≠S->s.heap.get? b=gV o->h'.get? b=gV o)->R (.ok<|.ret v) {s with heap:=h',toks:=y})->
  codeAny (OS p w) A (.builtin "max.loop" ⟨[.ref I,.none,.ref S],Z⟩) R s:=by
 have u:S∉G:=λh=>r<|W.sub _ h;have Q:(toString "max"++toString ".loop":SB)="max.loop":=by rfl
 intro k
 induction k with
 |zero=>
  intro j s f c X Y l g x z;have J:j+1=n:=by lia
  refine Ra WM ?_;rw[QG RS _];show wpAny _ A.in1 (CF (.ref S) >>=_) _ _ s
  refine B'<|Tb x rfl ?_;show wpAny _ A.in1 (tryCatch (UT<|.ref I) _ >>=_) _ _ s
  refine B'<|Ta<|W.done s _ _ (J▸l) λh' y U=>?_;have d:=U S _ u x;show wpAny _ A.in1 (updateSeq S (λV=>#[]) >>=_) _ _ _
  refine B' ?_;refine Xv d rfl<|B'<|V_<|Of ?_;refine z f _ y (by rw[<-J];exact g) λb o H a e=>(PJ _ _<|P6 a).trans<|U b o H e
 |succ k L=>
  intro j s f c X Y l g x z;have D:j+1<n:=by omega
  refine Ra WM ?_;rw[QG RS _];show wpAny _ A.in1 (CF (.ref S) >>=_) _ _ s
  refine B'<|Tb x rfl ?_;show wpAny _ A.in1 (tryCatch (UT<|.ref I) _ >>=_) _ _ s
  refine B'<|Ta<|W.item (j+1) s _ _ D l λv h' y M i U=>?_;have d:=U S _ u x;show wpAny _ A.in1 (tryCatch (Wb [v,v]<|richCompare .Gt v f >>=_) _ >>=_) _ _ _
  refine B'<|Ta<|Qb<|B'<|C (j+1) (Vx B j) v f _ _ _ M g ?_;refine B'<|Qb<|Qf ?_;refine B'<|V_<|Of ?_;cases N:B _ _ with
  |true=>
   simp only ;refine B'<|Xv d rfl<|B'<|V_ ?_;refine Of ⟨RN RS _,L _ _ v _ (by omega) D (W.frame _ _ _ i λb E o e=>?_) (by simp only[Vx,N];exact M) (Rh _ d rfl)
    λF m t q T=>?_⟩
   ·exact(PJ _ _ λh:S=b=>by simp_all).trans e
   ·exact z F m t q λb o H a e=>T b o H a<|(PJ _ _<|P6 a).trans<|U b o H e
  |false=>
   simp only[OX];refine B'<|V_ ?_;refine Of ⟨RN RS _,L _ _ f c (by omega) D i (by simp only[Vx,N,OX];exact g) d λF m t q T=>?_⟩;exact z F m t q λb o H a e=>T b o H a<|U b o H e
theorem J5(W:Walks p w A.in1 I F r n P St)(B:Nat->Nat->Oe)(l:CmpOf p w A.in1 .Gt P B)(S:J')(f:S∉F){d:K'}{D:Str}{c:Nat}(g:St 0 s.heap)
  (C:s.heap.get? S=gV {cls:=.type "list",dict:=Oa,data:=.seq #[] c,slots:=#[]})
  (E:0<n->∀v h' t,P (Vx B<|n-1) v->(∀b o,b∉r->b≠S->s.heap.get? b=gV o->h'.get? b=gV o)->R (.ok<|.ret v) {s with heap:=h',toks:=t})
  (G:n=0->∀h' t,(∀b o,b∉r->b≠S->s.heap.get? b=gV o->h'.get? b=gV o)->R (.ok<|.ret d) {s with heap:=h',toks:=t}):
  codeAny (OS p w) A (.builtin "max.loop" ⟨[.ref I,.none,.ref S],[(D,d)]⟩) R s:=by
 have m:S∉r:=λh=>f<|W.sub _ h;have Q:(toString "max"++toString ".loop":SB)="max.loop":=by rfl
 refine Ra WM ?_;rw[QG RS _];show wpAny _ A.in1 (CF (.ref S) >>=_) _ _ s
 refine B'<|Tb C rfl ?_;show wpAny _ _ (tryCatch _ _ >>=_) _ _ s
 by_cases q:0<n
 ·refine B'<|Ta<|W.item 0 s _ _ q g λv h' t J i U=>?_;have j:=U S _ m C;show wpAny _ _ (updateSeq S _ >>=_) _ _ _
  refine B'<|Xv j rfl ?_;refine Of ⟨RN RS _,Ma W B l S f _ 0 _ v _ rfl q (W.frame _ _ _ i λb u o e=>?_) J (Rh _ j rfl) λL x T y z=>?_⟩
  ·exact(PJ _ _ λh:S=b=>by simp_all).trans e
  exact E q L x T y λb o H a e=>z b o H a<|(PJ _ _<|P6 a).trans<|U b o H e
 have k:0=n:=by simp_all
 refine B'<|Ta<|W.done s _ _ (k▸g) λh' t U=>?_;exact B'<|RU<|Of<|G k.symm h' t λb o H a e=>U b o H e
end
theorem Mb{x d:K'}{Q:K'->Od->Prop}
  (h:wpAny (OS p w) A.in1 (X4 x) (λy a=>∃I f r n P St B,y=.ref I/\Walks p w A.in1 I f r n P St/\St 0 a.heap/\(∀b∈f,b<a.heap.objs.size)/\CmpOf p w A.in1 .Gt P B/\
   (0<n->∀v h' t,P (Vx B<|n-1) v->(∀b o,b∉r->a.heap.get? b=gV o->h'.get? b=gV o)->Q v {a with heap:=h',toks:=t})/\
   (n=0->∀h' t,(∀b o,b∉r->a.heap.get? b=gV o->h'.get? b=gV o)->Q d {a with heap:=h',toks:=t})) E s):
  wpAny (OS p w) A (call (.builtin "max") [x] [(Oh "default",d)]) Q E s:=by
 refine kmk_tree F.kind_max F.plain_max F.entry_max (zZ _ _) ?_;refine B'<|Ip rfl<|B'<|Of<|B'<|Qx h (λy a c=>?_) λg g e=>e;obtain⟨I,f,r,n,P,St,B,rfl,W,i,j,k,z,l⟩:=c;refine B'<|Qg ?_;have m:=λC=>Q6 _<|j _ C;refine Of ⟨RN RS _,J5 W B k _ m (W.frame _ _ _ i λb g o e=>Oj _ e) (OT _ rfl) (λq v h' t D u=>?_) λq h' t u=>?_⟩
 ·exact z q v h' t D λb o H e=>u b o H (OQ<|OB e)<|Oj _ e
 exact l q h' t λb o H e=>u b o H (OQ<|OB e)<|Oj _ e
theorem max_listD{d:K'}{Q:K'->Od->Prop}(c:A.handled=Oa)(f:s.heap.IsList l (Tc x))
  (h:0<x.size->∀v h' t,(Tc x)[Vx (λi j=>decide (mu x i>mu x j)) (x.size-1)]?=gV v->(∀b o,s.heap.get? b=gV o->h'.get? b=gV o)->Q v {s with heap:=h',toks:=t})
  (g:x.size=0->∀h' t,(∀b o,s.heap.get? b=gV o->h'.get? b=gV o)->Q d {s with heap:=h',toks:=t}):
  wpAny (OS p w) A (call (.builtin "max") [.ref l] [(Oh "default",d)]) Q E s:=by
 refine Mb<|iter_intList f λa e st H I=>?_;subst e;refine⟨_,_,_,_,_,_,_,rfl,W5 (A:=A.in1) c _ l I<|Tc x,st,H,CmpOf.ints_gt _ λz z=>intItems_at,λn v h' t P k=>?_,λn h' t k=>?_⟩
 ·exact h (by simpa[Tc]using n) v h' t (by simpa[Tc]using P)<|old_kept k
 exact g (by simpa[Tc]using n) h' t<|old_kept k
end KX
namespace L2
open PySem PySem.Spec PyProof.Rows
theorem uw(H:Sk s n)(e:s.toArray=Tc x)(g:0<x.size)(b:(Tc x)[Vx (λi j=>decide (mu x i>mu x j)) (x.size-1)]?=gV v):∃M t,v=.int M t/\M∈n/\∀a∈n,a<=M:=by
 have h:x.toList.map (·.1)=n:=by
  rw[<-nums_intItems,<-e];exact H.numsOf
 obtain⟨t,rfl⟩:=intItems_at b;obtain⟨k,c⟩:=argBest_gt (mu x)<|x.size-1;refine⟨_,t,rfl,?_,λa d=>?_⟩
 ·rw[numAt_eq,h];exact getD_mem (by grind)
 obtain⟨j,f,rfl⟩:=mem_getD d;rw[<-h,A',OR]at f;have:=c j (by lia);rwa[numAt_eq,h]at this
def Ny(K:C'):ab V->Hp->VK->Prop:=λx H Q=>∃(p:J') (n:ab Int),x=[.ref p]/\SqL K H p (n.map V.int)/\n≠[]/\∀M,M∈n->(∀a∈n,a<=M)->Q (.int M) H
theorem z_(c:X.calm=N7):fk X (.builtin "max") (Ny X.K):=by
 intro O s o H x w Q I r h;obtain⟨p,N,rfl,a,U,q⟩:=h;obtain⟨u,rfl,b⟩:=eV r;cases b;obtain⟨z,d,P,A⟩:=I.list a;have i:=i9 d;obtain⟨y,e⟩:=i.allInts.items;have l:=P.isList;rw[e]at l;have n:0<y.size:=by
  have f:(Tc y).size=y.size:=by simp[Tc]
  rw[<-f,<-e,OA,Ym i];exact Sl.mpr U
 refine max_intList (I.ok.hd c) l n λv B T g k=>?_;obtain⟨M,t,rfl,m,j⟩:=uw i e n g;exact⟨.int M,H,I.kept k,⟨t,rfl⟩,q M m j⟩
def Cl(K:C'):V->V->Hp->VK->Prop:=λx d H Q=>∃(p:J') (n:ab Int),x=.ref p/\SqL K H p (n.map V.int)/\(n=[]->Q d H)/\∀M,M∈n->(∀a∈n,a<=M)->Q (.int M) H
def Mc(K:C')(t T:TE):TE:=λa H Q=>t a H λx h=>T a h λd b=>Cl K x d b Q
theorem Gf{P z o:Pos}(A:X.calm=N7)(b:Gl X "max")(c:X.mg "max"=Oa)(B:PE X e C)(D:PE X E T)
  (f:OW [e] X.env=[(Oc,QA e X.env)]:=by rfl):
  PE X (.Call (.Name "max" P) [e] [⟨gV "default",E,z⟩] o) (Mc X.K C T):=by
 intro O s g H Q I h;refine Qy<|dZ I b c XN<|Wx (bL (aP B (gU) (by rw[f];rfl) o O s g H (BN _) I h) λus F ⟨G,j,J,L,k⟩=>?_) (by rw[f];rfl) (by rw[f];rfl) rfl rfl;obtain⟨x,N,l⟩:=jy k;subst N;obtain⟨u,rfl,U⟩:=eV L;refine XM<|bL (D O F g j _ J l) λW s2 ⟨d,a,i,Y,Z⟩=>Yk ?_;obtain⟨p,ns,rfl,hq,q0,q⟩:=Z;cases U;obtain⟨G,rv,pl,hz⟩:=i.list hq;have m:=i9 rv;obtain⟨y,e⟩:=m.allInts.items;have r:=pl.isList;rw[e]at r;have ac:y.size=ns.length:=by
  have l:(Tc y).size=y.size:=by simp[Tc]
  rw[<-l,<-e,OA,Ym m]
 show wpAny _ _ _ _ _ _
 refine KX.max_listD (i.ok.hd A) r (λw v h' tk hv n=>?_) λw h' tk n=>?_
 ·obtain⟨M,t,rfl,m1,m2⟩:=uw m e w hv;exact⟨.int M,a,i.kept n,⟨t,rfl⟩,q M m1 m2⟩
 exact⟨d,a,i.kept n,Y,q0<|PN.mp<|by lia⟩
def nO(K:C'):V->Hp->VK->Prop:=λx H Q=>∃(p:J') (n:ab Int),x=.ref p/\SqL K H p (n.map V.int)/\n.length<64/\
 ∀(l:J') (v:ab Int),H l=Oa->v.Perm n->(v.map OD.absI).Pairwise (·<=·)->Q (.ref l) (upd H l<|.lst<|v.map V.int)
def Cn(K:C')(t:TE):TE:=λa H Q=>t a H λx h=>nO K x h Q
theorem nQ{P m n j:Pos}(a:Gl X "sorted")(b:X.mg "sorted"=Oa)(c:Gl X "abs")(d:X.mg "abs"=Oa)(o:PE X e t)
  (f:OW [e] X.env=[(Oc,QA e X.env)]:=by rfl):
  PE X (.Call (.Name "sorted" P) [e] [⟨gV "key",.Name "abs" m,n⟩] j) (Cn X.K t):=by
 intro O s r H Q I h;refine Qy<|dZ I a b Uq<|Wx (bL (aP o (gU) (by rw[f];rfl) j O s r H (BN λx k=>nO X.K x k Q) I h) λU z Z=>?_) (by rw[f];rfl) (by rw[f];rfl) rfl rfl;obtain⟨A,k,l,v,g⟩:=Z;obtain⟨x,E,p,N,rfl,w,i,q⟩:=jy g;subst E;obtain⟨u,rfl,y⟩:=eV v;cases y;exact XM<|dZ l c d XQ<|Yk<|zY l w i q
end L2
namespace OD
open PySem L2
noncomputable def cC(f s:ab Int)(v:Int):Oe:=(f.filter λl=>!decide (absI l=v)).any λl=>s.contains (-l)
noncomputable def gb(f s:ab Int)(v:Int):ab Int:=(f++s.filter λl=>!f.contains l).filter λl=>!decide (absI l=v)
def Ups(c:ab Int):Prop:=(c.map absI).Pairwise (· < ·)
def Joins(f s:ab Int)(v:Int)(r:ab Int):Prop:=Ups r/\∀l,l∈r↔(l∈f\/l∈s)/\absI l≠v
theorem gi(h:absI a=absI b):a=b\/b=-a:=by
 obtain⟨z,e⟩|⟨z,e⟩:=au a<;>obtain⟨z,E⟩|⟨z,E⟩:=au b<;>lia
theorem Ups.tail(h:Ups (x::c)):Ups c:=(Pt.mp h).2
theorem Ups.head(h:Ups (x::c)):∀l∈c,absI x<absI l:=λl H=>(Pt.mp h).1 _<|Qr H
theorem Ups.inj(h:Ups c)(f:a∈c)(g:b∈c)(e:absI a=absI b):a=b:=by
 induction c with
 |nil=>cases f
 |cons x c I=>
  obtain i|d:=OC.mp f
  ·obtain E|H:=OC.mp g
   ·rw[i,E]
   have:=h.head b H;simp_all
  obtain E|H:=OC.mp g
  ·have:=h.head a d;simp_all
  exact I h.tail d H
theorem Ups.nodup(h:Ups c):c.Nodup:=(Ph.mp h).imp λ{a b} H e=>by simp_all
theorem jI:∀{a b:ab Int},Ups a->Ups b->(∀l,l∈a↔l∈b)->a=b
 |[],[],_,_,_=>rfl
 |[],y::b,_,_,h=>absurd ((h y).mpr Ot) (by simp)
 |x::a,[],_,_,h=>absurd ((h x).mp Ot) (by simp)
 |x::a,y::b,c,d,h=>by
  have e:x=y:=by
   obtain z|z:=OC.mp ((h x).mp Ot)
   ·exact z
   obtain w|w:=OC.mp ((h y).mpr Ot)
   ·exact w.symm
   have:=d.head x z;have:=c.head y w;lia
  subst e;rw[jI c.tail d.tail λz=>?_];constructor
  ·intro H;obtain w|w:=OC.mp ((h z).mp<|Os _ H)
   ·have:=c.head z H;simp_all
   exact w
  intro H;obtain w|w:=OC.mp ((h z).mpr<|Os _ H)
  ·have:=d.head z H;simp_all
  exact w
theorem Joins.uniq(h:Joins f s v a)(h':Joins f s v b):a=b:=jI h.1 h'.1 λl=>(h.2 l).trans (h'.2 l).symm
theorem fy:l∈gb f s v↔(l∈f\/l∈s)/\absI l≠v:=by
 unfold gb;grind
theorem jJ(h:cC f s v=Oc)(H:l∈f)(a:absI l≠v):-l∉s:=λb=>by
 have:cC f s v=true:=O9.mpr ⟨l,OF.mpr ⟨H,by rw[Ob a];rfl⟩,by simpa using b⟩;simp_all
theorem ux(H:Ups f)(c:Ups s)(h:cC f s v=Oc)(d:a∈gb f s v)(g:b∈gb f s v)(e:absI a=absI b):a=b:=by
 obtain⟨A,i⟩:=fy.mp d;obtain⟨B,j⟩:=fy.mp g;obtain A|A:=A<;>obtain B|B:=B
 ·exact H.inj A B e
 ·obtain z|z:=gi e
  ·exact z
  exact absurd (z▸B)<|jJ h A i
 ·obtain z|z:=gi e.symm
  ·exact z.symm
  exact absurd (z▸A)<|jJ h B j
 exact c.inj A B e
theorem wt(H:Ups f)(c:Ups s):(gb f s v).Nodup:=by
 refine Th _<|Qj.mpr ⟨H.nodup,Th _ c.nodup,?_⟩;grind
theorem nU:∀{r:ab Int},(r.map absI).Pairwise (·<=·)->r.Nodup->(∀a∈r,∀b∈r,absI a=absI b->a=b)->Ups r
 |[],_,_,_=>.nil
 |x::r,h,n,i=>by
  obtain⟨d,f⟩:=Pt.mp h;obtain⟨N,g⟩:=PF.mp n;refine Pt.mpr ⟨λz H=>?_,nU f g λa j b k=>i a (Os _ j) b<|Os _ k⟩;obtain⟨y,c,rfl⟩:=OK.mp H;have:=d _ H;have l:=λe=>N<|i x Ot y (Os _ c) e▸c;lia
theorem uy(H:Ups f)(c:Ups s)(d:cC f s v=Oc)(h:r.Perm (gb f s v))(o:(r.map absI).Pairwise (·<=·)):Joins f s v r:=
 ⟨nU o (h.nodup_iff.mpr<|wt H c) λa g b i e=>ux H c d (h.mem_iff.mp g) (h.mem_iff.mp i) e,λl=>h.mem_iff.trans fy⟩
noncomputable def fC(t:Str)(h:Oe)(c:ab Int):Int:=((c.filter λl=>!(cu t (absI l-1).toNat == h)).map absI).foldl max 0
noncomputable def aG(t:Str)(h:Oe)(c:ab Int):ab Int:=c.filter λl=>decide (absI l<=fC t h c)
theorem gj:∀(n:ab Int) (b:Int),(b<=n.foldl max b/\∀a∈n,a<=n.foldl max b)/\(n.foldl max b=b\/n.foldl max b∈n)
 |[],b=>by simp
 |x::r,b=>by
  obtain⟨⟨e,d⟩,H⟩:=gj r<|max b x;rw[SM];refine⟨⟨by lia,λa c=>?_⟩,?_⟩
  ·obtain rfl|c:=OC.mp c
   ·lia
   exact d a c
  grind
theorem Co{n:ab Int}{M:Int}(f:∀a∈n,0<=a)(h:M∈n\/M=0)(H:∀a∈n,a<=M)(b:0<=M):n.foldl max 0=M:=by
 obtain⟨⟨A,c⟩,d⟩:=gj n 0;have:n.foldl max 0<=M:=by
  obtain e|e:=d
  ·simp_all
  exact H _ e
 have:M<=n.foldl max 0:=by
  obtain h|h:=h
  ·exact c _ h
  rwa[h]
 lia
theorem eH:z∈aJ t w↔1<=z/\z<=(t.length:Int)/\cu t (z-1).toNat=w:=by
 unfold aJ;rw[OK];constructor
 ·rintro⟨i,a,rfl⟩;obtain⟨h,H⟩:=OF.mp a;have:=PY.mp h;exact⟨by lia,by lia,by simpa using H⟩
 rintro⟨h,H,b⟩;refine⟨(z-1).toNat,OF.mpr ⟨PY.mpr (by omega),?_⟩,by lia⟩;rw[b];exact Ti _
theorem Gg(H:1<=absI l)(b:absI l<=(t.length:Int)):(aJ t (!h)).contains (absI l)=!(cu t (absI l-1).toNat == h):=by
 cases g:cu t _ == h with
 |true=>
  cases z:(aJ t _).contains _ with
  |false=>rfl
  |true=>
   have Z:=(eH.mp<|by simpa using z).2.2;simp_all
 |false=>
  have G:cu t (absI l-1).toNat=!h:=by
   cases a:cu t _<;>cases h<;>simp_all
  have:=eH.mpr ⟨H,b,G⟩;simp_all
noncomputable def bT(f s:ab Int)(v:Int):ab Int:=(gb f s v).mergeSort λa b=>decide (absI a<=absI b)
theorem dE(H:Ups f)(d:Ups s)(g:cC f s v=Oc):Joins f s v (bT f s v):=by
 refine uy H d g (TC _ _) ?_;have h:=Ul (le:=λa b:Int=>decide (absI a<=absI b)) (by lia) (by lia)<|gb f s v;rw[Ph];exact h.imp λ{a b} e=>by simp_all
theorem Joins.eq(H:Ups f)(a:Ups s)(b:cC f s v=Oc)(h:Joins f s v r):r=bT f s v:=h.uniq<|dE H a b
noncomputable def aS(m:Nat):Oo->M' Nat
 |.int z=>if 0<=z/\z<(m:Int)then gV z.toNat else Oa
 |_=>Oa
theorem aX(h:aS m d=gV i):i<m/\d=.int (i:Int):=by
 cases d with
 |int z=>
  have H:(if 0<=z/\z<(m)then gV _ else Oa)=gV i:=h
  grind
 |_=>cases h
noncomputable def cb(w:Str):Oo->Oe
 |.str x=>decide (x=w)
 |_=>Oc
theorem hV(d:Oo)(w:Str):O4 d (.str w)=cb w d:=by
 cases d with
 |str x=>
  rfl
 |_=>rfl
noncomputable def bD(w:Str)(n:Nat):Oo->Oe
 |.tuple d=>decide (d.length=n)&&cb w (d.getD 0 .none)
 |_=>Oc
def al(n:Nat)(c:ab Int):Prop:=Ups c/\∀l∈c,1<=absI l/\absI l<=(n:Int)
noncomputable def dW(t:Str)(h:Oe)(s:ab (ab Int))(d:Oo):M' (ab Int):=(aS s.length d).map λi=>aG t h<|s.getD i []
noncomputable def c_(t:Str)(h:Oe)(f s:ab Int)(z:Int):Oe:=(aJ t (!h)).contains z&&(f.contains z&&(s.contains (-z)&&!cC f s z))
noncomputable def cX(t:Str)(h:Oe)(s:ab (ab Int))(d D a:Oo):M' (ab Int):=
 match aS s.length d,aS s.length D,a with
 |some i,gV j,.int z=>if c_ t h (s.getD i []) (s.getD j []) z=N7 then gV (bT (s.getD i []) (s.getD j []) z)else Oa
 |_,_,_=>Oa
def RV(H:Hp)(o:M' (ab Int))(v:V):Prop:=
 match o with
 |none=>v=.non
 |some c=>CL H c v
theorem xY:∀{c:ab Int} {n b:Int},Ups c->(∀l∈c,b<absI l/\absI l<=n)->(c.length:Int)<=max 0 (n-b)
 |[],n,b,_,_=>by simp;omega
 |x::c,n,b,h,g=>by
  have G:=g x Ot;have i:=xY h.tail λl H=>⟨h.head l H,(g l<|Os _ H).2⟩;grind
theorem aM(h:al n c):c.length<=n:=by
 have:=xY (b:=0) h.1 λl H=>⟨by have:=(h.2 l H).1;lia,(h.2 l H).2⟩;simp_all
noncomputable def qy(c:ab Int)(C:ab (ab Int)):Oe:=C.all λk=>c.any λl=>k.contains l
noncomputable def zD:Oo->Int
 |.int z=>z
 |_=>0
noncomputable def iW:Oo->ab Int
 |.tuple d=>d.map zD
 |_=>[]
noncomputable def fm(n:Nat)(c:ab (ab Int))(d:Oo):M' (ab Int):=if(lV (n:Int) d&&qy (iW d) c)=N7 then gV (iW d)else Oa
noncomputable def hW:Oo->Nat->Oo
 |.tuple d,i=>d.getD i .none
 |_,_=>.none
noncomputable def aE:Str:=Oh "given"
noncomputable def aW:Str:=Oh "hits"
noncomputable def aQ:Str:=Oh "join"
noncomputable def ay:Str:=Oh "drop"
noncomputable def fi(c:ab (ab Int))(d:Oo):M' (ab Int):=(aS c.length d).map λi=>c.getD i []
noncomputable def aB(t:Str)(c:ab (ab Int))(h:Oe)(s:ab (ab Int))(d:Oo):M' (ab Int):=
 if(!h&&bD aE 2 d)=N7 then fi c (hW d 1)
 else if(h&&bD aW 2 d)=N7 then fm t.length c (hW d 1)
 else if bD aQ 4 d=N7 then cX t h s (hW d 1) (hW d 2) (hW d 3)
 else if bD ay 2 d=N7 then dW t h s (hW d 1)
 else Oa
noncomputable def aY(t:Str)(C:ab (ab Int))(h:Oe)(s:ab (ab Int)):ab Oo->ab (ab Int)×Oe
 |[]=>(s,N7)
 |d::r=>match aB t C h s d with
  |none=>(s,Oc)
  |some c=>aY t C h (s++[c]) r
theorem uz:∀{d:ab Oo} {n b:Int},f_ n b d=N7->d=(d.map zD).map UY/\Ups (d.map zD)/\∀l∈d.map zD,b<absI l/\absI l<=n
 |[],_,_,_=>⟨rfl,.nil,λ_ h=>nomatch h⟩
 |e::d,n,b,h=>by
  obtain⟨z,rfl⟩|c:=hU e
  ·rw[hO]at h
   split at h
   ·rename_i f;obtain⟨g,i,a⟩:=uz h;refine⟨?_,Pt.mpr ⟨λy j=>?_,i⟩,λl H=>?_⟩
    ·rw[OU,OU,<-g];rfl
    ·obtain⟨l,H,rfl⟩:=OK.mp j;exact(a l H).1
    obtain rfl|H:=OC.mp H
    ·exact f
    have:=a l H;lia
   simp_all
  rw[nj c]at h;cases h
theorem rH{n:Nat}{d:Oo}(h:lV (n:Int) d=N7):d=fB (iW d)/\al n (iW d):=by
 cases d with
 |tuple D=>
  obtain⟨H,a,b⟩:=uz h;refine⟨?_,a,λl c=>?_⟩
  ·show Tn D=.tuple ((D.map zD).map _)
   rw[<-H]
  ·have:=b l c;assumption
 |_=>cases h
theorem xZ:∀{c:ab Int} {n b:Int},Ups c->(∀l∈c,b<absI l/\absI l<=n)->f_ n b (c.map .int)=N7
 |[],_,_,_,_=>rfl
 |x::c,n,b,h,g=>by
  rw[OU,hO,Ox<|g x Ot];exact xZ h.tail λl H=>⟨h.head l H,(g l<|Os _ H).2⟩
theorem x_(h:al n c):lV (n:Int) (fB c)=true:=xZ h.1 λl H=>⟨by have:=(h.2 l H).1;lia,(h.2 l H).2⟩
theorem Gh(c:ab Int):(c.map UY).map zD=c:=by
 rw[OY];exact List.map_id c
theorem Cp(c:ab Int):iW (fB c)=c:=Gh c
theorem eP{n:Nat}{C:ab (ab Int)}(h:∀c∈C,al n c){i:Nat}(H:i<C.length):al n (C.getD i []):=by
 simp_all
theorem gk(h:al n c):al n (aG t w c):=
 ⟨Ph.mpr<|Th _<|Ph.mp h.1,λl H=>h.2 l (OF.mp H).1⟩
theorem nV(h:al n f)(H:al n s)(a:cC f s v=Oc):al n (bT f s v):=by
 obtain⟨b,c⟩:=dE h.1 H.1 a;exact⟨b,λl d=>((c l).mp d).1.elim (h.2 l)<|H.2 l⟩
theorem Cq(H:∀c∈s,al n c)(h:dW t w s d=gV c):al n c:=by
 unfold dW at h;cases e:aS _ d with
 |none=>rw[e]at h;cases h
 |some i=>
  rw[e]at h;cases h;exact gk<|eP H (aX e).1
theorem Cr(a:∀c∈s,al n c)(h:cX t w s d D b=gV c):al n c:=by
 unfold cX at h;cases e:aS s.length d with
 |none=>simp_all
 |some i=>
 cases E:aS s.length D with
 |none=>simp_all
 |some j=>
 rw[e,E]at h;cases b with
 |int z=>
  have H:(if c_ t w _ _ z=N7 then gV _ else Oa)=gV c:=h
  split at H
  ·rename_i g;cases H;unfold c_ at g;refine nV (eP a (aX e).1) (eP a (aX E).1) ?_;lia
  simp_all
 |_=>cases h
theorem Ct(a:∀c∈C,al t.length c)(H:∀c∈s,al t.length c)(h:aB t C w s d=gV c):al t.length c:=by
 unfold aB at h
 split at h
 ·unfold fi at h;cases e:aS _ _ with
  |none=>rw[e]at h;cases h
  |some i=>
   rw[e]at h;cases h;exact eP a (aX e).1
 split at h
 ·unfold fm at h
  split at h
  ·rename_i g;cases h;rw[Pj]at g;exact(rH g.1).2
  simp_all
 split at h
 ·exact Cr H h
 split at h
 ·exact Cq H h
 simp_all
theorem eQ(a:∀c∈C,al t.length c):∀{D:ab Oo} {s:ab (ab Int)},(∀c∈s,al t.length c)->∀c∈(aY t C w s D).1,al t.length c
 |[],s,h=>h
 |d::r,s,h=>by
  show∀c∈(match aB t C w s d with|none=>(s,Oc)|some c=>aY t C w (s++[c]) r).1,al _ c
  cases e:aB t C w s d with
  |none=>exact h
  |some c=>
   refine eQ a λz H=>?_;obtain H|H:=OH.mp H
   ·exact h z H
   rw[Oi.mp H];exact Ct a h e
theorem iB{d:Oo}:∀{D:ab Oo} {s o:ab (ab Int)},aY t C H s D=(o,N7)->
  aY t C H s (D++[d])=match aB t C H o d with|none=>(o,Oc)|some c=>(o++[c],N7)
 |[],s,o,h=>by
  cases h;rfl
 |e::r,s,o,h=>by
  have a:(match aB t C H s e with|none=>(s,Oc)|some c=>aY t C H _ r)=(o,N7):=h;show(match aB t C H s e with|none=>(s,Oc)|some c=>aY t C H _<|r++[d])=_
  cases g:aB t C H s e with
  |none=>simp_all
  |some c=>
   rw[g]at a;exact iB a
theorem jK(h:bD w n d=N7):∃D,d=.tuple D/\D.length=n:=by
 cases d with
 |tuple D=>
  have H:(decide _&&cb w _)=true:=h;rw[Pj]at H;exact⟨D,rfl,OO H.1⟩
 |_=>cases h
theorem uA{n:Nat}:∀{c:ab Int} {b:Int},JS b c->Ups c/\∀l∈c,b<absI l
 |[],_,_=>⟨.nil,λz h=>nomatch h⟩
 |x::c,b,h=>by
  obtain⟨d,a⟩:=uA (n:=n) h.2;refine⟨Pt.mpr ⟨λy e=>?_,d⟩,λl H=>?_⟩
  ·obtain⟨l,H,rfl⟩:=OK.mp e;exact a l H
  obtain rfl|H:=OC.mp H
  ·exact h.1
  have:=a l H;have:=h.1;lia
theorem wu(r:St)(p:V->Oe)(f:V->V)(E:m=Oa::r)(w:d a=gV (.lst X))(o:d D=Oa)(F:X.length<=900)
  (z:∀x∈X,∀c R,Same d c->(∀H,Same c H->R (p x) H)->T (gV x::r) c R)
  (A:∀x∈X,p x=N7->∀c R,Same d c->(∀H,Same c H->R (f x) H)->B (gV x::r) c R)
  (C:∀b,Same d b->b D=gV (.lst<|(X.filter p).map f)->Q (.ref D) b):gQ (E7 K a) D (dH 0) T B m d Q:=by
 refine bv (xs:=X) (λi l y b=>(∃q,l=q::r)/\y=((X.take i).filter p).map f/\b D=gV (.lst y)/\Same d b) ⟨⟨Oa,E⟩,rfl,aa,ad o _⟩ ?_ ?_ ?_
 ·rintro i l y b Z ⟨Z,Z,h,k⟩;exact⟨h,SqL.of<|k _ _ w⟩
 ·rintro i x l y b s ⟨⟨q,rfl⟩,v,g,k⟩;have t:=N5 s;have e:X.take (i+1)=X.take i++[x]:=by rw[OM,s];rfl
  refine z x t _ _ k λG j=>?_;cases n:p x with
  |true=>
   refine aq<|A x t n _ _ (k.trans j) λI u=>⟨u _ _<|j _ _ g,?_,⟨_,rfl⟩,?_,aa,(k.trans<|j.trans u).upd_new o _⟩
   ·have:y.length<=X.length:=by
     rw[v,A'];exact Pm (Po _ _) (by rw[OJ];exact Tp _ _)
    exact ap (Pm this (Pm F (by decide)))
   simp_all
  |false=>
   refine ao ⟨⟨_,rfl⟩,?_,j _ _ g,k.trans j⟩;simp_all
 simp_all
theorem hZ:∀{a:ab Oo} {s:ab (ab Int)},aY t C h s (a++b)=if(aY t C h s a).2=N7 then aY t C h (aY t C h s a).1 b else aY t C h s a
 |[],s=>rfl
 |d::a,s=>by
  show(match aB t C h s d with|none=>(s,Oc)|some c=>aY t C h _<|a++b)=if(match aB t C h s d with|none=>(s,Oc)|some c=>aY t C h _ a).2=N7 then aY t C h (match aB t C h s d with|none=>(s,Oc)|some c=>aY t C h _ a).1 b else(match aB t C h s d with|none=>(s,Oc)|some c=>aY t C h _ a)
  cases e:aB t C h s d with
  |none=>rfl
  |some c=>exact hZ
theorem ya(h:aY t C H [] (D.take i)=(s,N7))(a:D[i]?=gV d)(l:aB t C H s d=Oa):aY t C H [] D=(s,Oc):=by
 have e:D=D.take i++d::D.drop (i+1):=by
  obtain⟨b,rfl⟩:=N8.mp a;simp
 rw[e,hZ,h];show(match aB t C H s d with|none=>(s,Oc)|some c=>aY t C H _<|D.drop<|i+1)=_
 rw[l]
theorem run_next{t:Str}{C:ab (ab Int)}{H:Oe}{D:ab Oo}{s:ab (ab Int)}{i:Nat}{d:Oo}{c:ab Int}(h:aY t C H [] (D.take i)=(s,N7))(a:D[i]?=gV d) (l:aB t C H s d=gV c):aY t C H [] (D.take<|i+1)=(s++[c],N7):=by
 rw[OM,a];show aY t C H [] (D.take i++[d])=_
 rw[iB h,l]
theorem bU:∀{D:ab Oo} {s o:ab (ab Int)},aY t C w s D=(o,N7)->o.length=s.length+D.length
 |[],s,o,h=>by
  cases h;rfl
 |d::r,s,o,h=>by
  have H:(match aB t C w s d with|none=>(s,Oc)|some c=>aY t C w _ r)=(o,N7):=h;cases g:aB t C w s d with
  |none=>simp_all
  |some c=>
   rw[g]at H;have:=bU H;rw[N9,OL]at this;rw[OE];lia
theorem getD_some{a:Type}{l:ab a}{i:Nat}{d:a}(h:i<l.length):l[i]?=gV (l.getD i d):=by
 rw[N6,N_ h];rfl
end OD
namespace L2
open PySem PySem.Spec PyProof.Rows
def Gi:R2:=λx y H Q=>∃(D:Oo) (s:ab Oo),RD H D x/\RD H (.list s) y/\D.canLay0=N7/\P1 s=N7/\D.depth<=60/\Q (.bl (!(s.any λd=>O4 d D))) H
theorem Aa(j:X.A.units+64<R1):OpR X (PX .NotIn) Gi:=by
 intro O s k H x y v u Q I r a h;obtain⟨d,D,b,c,e,f,l,q⟩:=h;obtain⟨A,g⟩:=cA I d x v b r;obtain⟨B,i⟩:=cA I _ y u c a;refine SeqAt.notIn_list_reads i g f e ?_ ⟨.bl _,H,I,rfl,q⟩;have:min (SI D) _<=d.depth:=Tp _ _;lia
end L2
namespace OD
open PySem L2
noncomputable def cn(o:Oe)(B:ab Oe)(l:Int):Oe:=match B[(absI l-1).toNat]? with
 |some b=>(b == decide (0<l)) == o
 |none=>Oc
noncomputable def nX(C:ab (ab Int))(b:ab Oe):Oe:=C.all λc=>c.any<|hit b
theorem uB(h:(absI l-1).toNat<B.length):cn o (B++[b]) l=cn o B l:=by
 unfold cn;rw[OV h]
theorem uC(h:(absI l-1).toNat=B.length):cn o (B++[b]) l=((b == decide (0<l)) == o):=by
 unfold cn;simp_all
theorem fD(h:b.length<=(absI l-1).toNat):cn o b l=false:=by
 unfold cn;rw[Py h]
theorem uD(a:l∈c)(h:fC t H c<absI l):cu t (absI l-1).toNat=H:=by
 cases g:cu t _ == H with
 |true=>exact eq_of_beq g
 |false=>
  have m:absI l∈(c.filter λl=>!(cu t (absI l-1).toNat == H)).map _:=Qr<|OF.mpr ⟨a,by rw[g];rfl⟩;have:=(gj ((c.filter _).map _) 0).1.2 _ m;unfold fC at h;omega
theorem iD(d:1<=z)(h:cn o B z=N7)(c:cn o B (-z)=N7):False:=by
 have e:absI (-z)=absI z:=by
  obtain⟨y,e⟩|⟨y,e⟩:=au z<;>obtain⟨y,E⟩|⟨y,E⟩:=au (-z)<;>lia
 unfold cn at h c;rw[e]at c;cases g:B[(absI z-1).toNat]? with
 |none=>rw[g]at h;cases h
 |some b=>
  rw[g]at h c;have H:=h;have a:=c;rw[On (by lia)]at H;rw[Ob (by lia)]at a;simp_all
theorem uE{a:Type}{p q:a->Oe}:∀{l:ab a},(∀x∈l,p x=q x)->l.all p=l.all q
 |[],_=>rfl
 |x::l,h=>by
  rw[Sg,Sg,h x Ot,uE λy H=>h y<|Os _ H]
end OD
namespace DP
open PySem
theorem Gj:vl (.type "list") "keys"=pure none:=by rfl
theorem yb:rb table "dict.update.loop"=gV Builtin.«dict.update.loop»:=aah (by rfl)
theorem mq:plainId "dict.update.loop"=true:=by decide+kernel
theorem Ab{Q:M' K'->Od->Prop}(x:s.heap.get? l=gV o)(f:o.cls=.type "list")(a:o.data=.seq X k)(i:o.dict=Oa)(j:A.handled=Oa)
  (h:∀h' T,(∀b o,s.heap.get? b=gV o->h'.get? b=gV o)->Q Oa {s with heap:=h',toks:=T}):wpAny (OS p w) A (getAttr? (.ref l) "keys") Q E s:=by
 obtain⟨c,D,m,n⟩:=o;simp only at f a i;subst f a i;obtain⟨q,g,d,T,os⟩:=s;have hT:∀t,(⟨q,g,d,t,os⟩:Od).TypeIs (.ref l) "list":=λZ=>⟨_,x,rfl⟩;have r:=sub_AttributeError;have u:=F.slot_list_getattribute.lookup;have v:=F.slot_list_getattribute.bind<|.ref l;have y:=am_list_getattr_none;unfold getAttr? getAttrBy? getAttrBy
 repeat (any_goals (first|assumption|exact hT _|((with_reducible show wpAny _ _ (call (Value.builtin "list.__getattribute__") _ _) _ _ _);refine UU F.slot_list_getattribute (hT _) am_entry_list_getattribute (F.args_list_getattribute_2 _ _) (meets_getattribute_miss_list l X k n "keys" _ Gj (by rfl)<|by decide+kernel) ⟨x,j,λh' t e H=>?_⟩)|wp_step))
 obtain⟨z,U,B⟩:=H.there;show wpAny _ _ (Y9 _ _ _ _ _ _ _) _ _ _
 unfold Y9
 repeat (any_goals (first|assumption|wp_step))
 exact h _ _ H.keeps
section
variable {prog:Ou}{w:ON}{K:Type}[U' K]{knd:KeyKind prog w K}{A:Pw}{s:Od}
theorem ww(a:s.heap.IsTuple t x)(h:Q x.toList s):wpAny (OS prog w) A (W8<|.ref t) Q E s:=by
 obtain⟨o,H,c,n,d⟩:=a;have hT:s.TypeIs (.ref t) _:=⟨o,H,c⟩;exact B'<|Tj hT<|B'<|Tb H d<|Of h
theorem Ac(hh:A.in1.handled=Oa){x:Pd}(y:l≠I)(h:d≠I)(B:d≠l)(hn:a.size<=sizeLine)(hm:M.length=a.size)
  (C:∀(i:Nat) (v:K'),a[i]?=gV v->∃f k t,M[i]?=gV f/\knd.is f.1 k=N7/\v=.ref t/\t≠d/\t≠I/\x.IsTuple t #[k,f.2]) {R:lA->Od->Prop}:
  ∀(m i:Nat) (s:Od) (T:Tok),a.size-i=m->i<=a.size->s.heap.IsListIter I l i->s.heap.IsList l a->s.heap.DictOf knd d (Y8 []<|M.take i)->
   (∀b o,b≠d->b≠I->x.get? b=gV o->s.heap.get? b=gV o)->
   (∀h' g,h'.DictOf knd d (Y8 [] M)->(∀b o,b≠d->b≠I->x.get? b=gV o->h'.get? b=gV o)->R (.ok<|.ret .none) {s with heap:=h',toks:=g})->
   codeAny (OS prog w) A (.builtin "dict.update.loop" ⟨[.ref d,.ref I,.int (i:Int) T,.none],[]⟩) R s:=by
 have W:=W5 (prog:=prog) (w:=w) (A:=A.in1) hh I l y a;intro m
 induction m with
 |zero=>
  intro i s T D hi j E c Z F;have e:i=a.size:=by lia
  subst e;refine Ra yb ?_;rw[QG mq _];refine B' (m:=UT<|.ref I)<|W.done s _ _ ⟨j,E⟩ λh' g G=>?_;have U:∀b o,b≠I->s.heap.get? b=gV o->h'.get? b=gV o:=λb o J e=>G b o (by simpa using J) e;refine B' (m:=acG d [])<|Of<|Of ?_;refine F h' g ?_ λb o q u e=>U b o u<|Z b o q u e;rw[Ol<|by exact UC hm]at c;obtain⟨o,L,N,H,r⟩:=c;exact⟨o,L,N,U d o h H,r⟩
 |succ m ih=>
  intro i s T D hi j E c Z F;have RH:i<a.size:=by lia
  refine Ra yb ?_;rw[QG mq _];refine B' (m:=UT<|.ref I)<|W.item i s _ _ RH ⟨j,E⟩ λv h' g hv QV G=>?_;have U:=λb o J e=>G b o (by simpa using J) e;obtain⟨f,k,t,O,P,rfl,Q,n,ht⟩:=C i v hv;have X:h'.IsTuple t _:=let ⟨o,H,r⟩:=ht;⟨o,U t o n<|Z t o Q n H,r⟩
  have Y:h'.DictOf knd d _:=let ⟨o,L,N,H,r⟩:=c;⟨o,L,N,U d o h H,r⟩
  have hz:(Y8 []<|M.take i).length<=sizeLine:=by
   have:=merged_length_le []<|M.take i;rw[OJ]at this;simp only[Rc]at this;lia
  refine B'<|Qb<|B'<|Ta<|ww X<|Qb<|wpAny_dictSet_pairs P Y λu Y4 sb=>?_;have e2:Y8 [] _=stored _ f.1 f.2:=merged_take_succ _ _ _ _ O;refine Of ⟨RN mq _,ih (i+1) _ 0 (by grind) RH ?_ ?_ (by rwa[e2]) (λb o q p e=>(sb.2 b q).trans<|U b o p<|Z b o q p e) λh3 ac b1 b2=>F h3 ac b1 b2⟩
  ·exact QV.1.at λo e=>(sb.2 I λz=>h z.symm).trans e
  exact QV.2.at λo e=>(sb.2 l λz=>B z.symm).trans e
theorem call_pairs{E:K'->Od->Prop}(L:A.handled=Oa){Q:K'->Od->Prop}(M:s.heap.get? l=gV p)(q:p.cls=.type "list")(Z:p.data=.seq I U)(u:p.dict=Oa)(X:I.size<=sizeLine)(Y:m.length=I.size)
  (z:∀(i:Nat) (v:K'),I[i]?=gV v->∃d k t,m[i]?=gV d/\knd.is d.1 k=N7/\v=.ref t/\s.heap.IsTuple t #[k,d.2])
  (h:∀(h':Pd) (T:Nat),h'.DictOf knd s.heap.objs.size (Y8 [] m)->(∀b o,s.heap.get? b=gV o->h'.get? b=gV o)->Q (.ref s.heap.objs.size) {s with heap:=h',toks:=T}):
  wpAny (OS prog w) A (call (.type "dict") [.ref l]) Q E s:=by
 refine callType_codes (Q₁:=λO a=>O=.ref s.heap.objs.size/\a={s with heap:=s.heap.push {cls:=.type "dict",data:=.dict #[]}}) F.kt_called_dict (F.kt_typeCall_dict_1 _) F.entry_dict_init (kt_code_dict_new _ ⟨rfl,rfl⟩) ?_;rintro O a ⟨rfl,rfl⟩;have c:(s.heap.push {cls:=.type "dict",data:=.dict #[]}).DictOf knd s.heap.objs.size []:=aaU s.heap;have W:=Oj {cls:=.type "dict",data:=.dict #[]} M;have RH:l<s.heap.objs.size:=OB M;have x:Wr {s with heap:=s.heap.push {cls:=.type "dict",data:=.dict #[]}} (.ref l) "list":=⟨_,W,q⟩;exists c.typeIs,F.args_dict_init_2 _ _;unfold Builtin.«dict.__init__»;refine B' ?_;refine B'<|XD c.typeIs ?_;show wpAny _ _ (pure _) _ _ _
 refine Of ?_;show wpAny _ _ _ _ _ _
 refine B'<|Tj x<|B'<|Ab W q Z u (by simpa using L) λH y f=>?_;have N:=f _ _ W;have g:H.IsList l I:=⟨_,N,q,U,Z⟩;simp only ;refine B'<|RU<|B'<|S2 g<|Of ?_;exists RN mq _;have B:=OT s.heap (o:={cls:=.type "dict",data:=.dict #[]}) rfl;have C:=f _ _ B;have D:=OB N;have G:=OB C;have J:H.DictOf knd _ []:=let ⟨o,es,ep,n,r⟩:=c;⟨o,es,ep,f _ _ n,r⟩
 have hit:(H.push {cls:=.type "list_iterator",data:=.fields #[.ref l,.int 0 0]}).get? _=gV _:=OT _ rfl;refine Ac (by simpa using L) (x:=H.push _) (OQ D) (OQ G) (R_ RH) X Y (λi v hv=>?_) _ 0 _ 0 rfl (OG _) ⟨_,hit,rfl,rfl⟩ (g.push _) (J.push _) (λb o V V e=>e) λh' T b1 b2=>?_
 ·obtain⟨d,k,t,a1,a2,a3,a4⟩:=z i v hv;obtain⟨o,n,r⟩:=a4;have j:=f _ _<|Oj _ n;exact⟨d,k,t,a1,a2,a3,OQ<|OB n,OQ<|OB j,o,Oj _ j,r⟩
 refine⟨rfl,h h' T b1 λb o e=>?_⟩;have P:=f _ _<|Oj _ e;exact b2 b o (OQ<|OB e) (OQ<|OB P)<|Oj _ P
end
end DP
namespace L2
open PySem PySem.Spec PyProof.Rows
structure yc (P:Ou)(w:ON)(K:C')(mg:Str->M' K')(base:Pd)(CX:Bj)(k:Nat)(C:J')(m:Str)(f:J')(fd:Oz)(ps:ab Str)(sp:Sp):Prop where
 ok:aA P w K mg base CX k f fd ps sp
 b:Binds K fd ps []
 cl:Cls K C
 me:Ft K C m f
structure Md (P:Ou)(w:ON)(K:C')(mg:Str->M' K')(base:Pd)(k:Nat)(x:Str)(C f:J')(fd:Oz)(ps:ab Str)(sp:Sp):Prop where
 ok:aA P w K mg base bw k f fd ps sp
 b:Binds K fd ps []
 mks:Mk K C f
 at_:mg x=gV (.ref C)
section
variable {X:Cx}{j k:Nat}{C f:J'}{fd:Oz}{ps:ab Str}{sp:Sp}{pos:Pos}{e:PD}{es:ab PD}{t:TA}
theorem nY{m:Str}{v:Pos}{o:PD}{T:TE}{p:Sem Oe}(G:yc X.prog X.w X.K X.mg X.base bw j C m f fd ps sp)(a:PE X o T)(r:Room k X.A)(h:j<=k)(b:PA X (e::es) t)
  (H:OW (e::es) X.env=(Oc,QA e X.env)::OW es X.env:=by rfl) (x:(RE pos<|OW es X.env).any (·.1)=false:=by rfl)
  (c:QA (.Call (.Attribute o m v) (e::es) [] pos) X.env=(do
   let O <-QA o X.env
   YG v.atName
   let (f,first) <-Wb [O] (WJ O m p)
   q7 pos f first (RE pos<|OW (e::es) X.env) (X8 pos<|U7 [] X.env)):=by rfl):
  PE X (.Call (.Attribute o m v) (e::es) [] pos) (tJ C m sp [] E0 T t):=Fw a G.cl G.me G.ok (r.mono h) G.b .nil xx b H x c
theorem Me{x:Str}{p:Pos}(G:Md X.prog X.w X.K X.mg X.base j x C f fd ps sp)(r:Room k X.A)(h:j+1<=k)(g:Gl X x)(a:PA X (e::es) t)(H:(x == ("__debug__":Str))=false:=by decide)
  (b:OW (e::es) X.env=(Oc,QA e X.env)::OW es X.env:=by rfl) (u:(RE pos<|OW es X.env).any (·.1)=false:=by rfl):
  PE X (.Call (.Name x p) (e::es) [] pos) (Hw C sp [] E0 t):=Fx G.mks G.ok (r.mono h) g G.at_ G.b .nil xx a H b u
end
theorem uF(ok:HOk P w H h):∀(T:ab J') (k:ab (bj×V)),T.length=k.length->(∀(i:Nat) (t:J') (a:bj×V),T[i]?=gV t->k[i]?=gV a->H t=gV (.tup [kV a.1,a.2]))->
  ∃m:ab (bj×K'),KV k m/\m.length=T.length/\m.map (·.1)=k.map (·.1)/\∀(i:Nat) (t:J'),T[i]?=gV t->∃a y,m[i]?=gV a/\(aZ P w).is a.1 y=N7/\h.IsTuple t #[y,a.2]
 |[],[],_,_=>⟨[],.nil,rfl,rfl,λi t e=>by simp at e⟩
 |[],_::_,e,_=>by simp at e
 |_::_,[],e,_=>by simp at e
 |t::T,a::k,e,p=>by
  obtain⟨m,A,d,f,g⟩:=uF ok T k (by simpa using e) λi c b E j=>p (i+1) c b (by assumption) (by assumption);obtain⟨Z,G,r,o,l,q,n,s⟩:=(ok t _<|p 0 t a rfl rfl);obtain⟨u,v,rfl,x,z⟩:=r.two;refine⟨(a.1,v)::m,.cons ⟨rfl,z⟩ A,by simp[d],by simp[f],λi c E=>?_⟩;cases i with
  |zero=>
   have B:t=c:=by simpa using E
   subst B;exact⟨(a.1,v),u,rfl,jr x,o,l,q,n,s⟩
  |succ i=>
   obtain⟨b,y,C,D,F⟩:=g i c (by assumption);exact⟨b,y,by assumption,D,F⟩
inductive HS (xs:ab V)(H:Hp)(Q:VK):Prop
 |mk (l:J')(T:ab J')(k:ab (bj×V))(hx:xs=[.ref l])(h:H l=gV (.lst<|T.map V.ref))(hl:T.length=k.length)(hp:∀(i:Nat) (t:J') (v:bj×V),T[i]?=gV t->k[i]?=gV v->H t=gV (.tup [kV v.1,v.2])) (nd:(k.map (·.1)).Nodup) (z:k.length<=9000)
  (q:∀d,H d=Oa->Q (.ref d) (upd H d<|.dK k)):HS xs H Q
theorem jc(g:X.calm=N7):fk X (.type "dict") HS:=by
 intro Og s σ H xs us Q I r h;obtain⟨l,t,k,rfl,j,o,p,N,z,q⟩:=h;obtain⟨u,rfl,w⟩:=r.one;cases w;obtain⟨z1,P,n,x,A,e⟩:=I.lstM j;obtain⟨m,B,a2,C,D⟩:=uF I.hok t k o p;refine DP.call_pairs (knd:=aZ _ X.w) (m:=m) (I.ok.hd g) e rfl rfl rfl (by simp_all) (by simp_all) (λi v E=>?_) λh' T d F=>?_
 ·have Z:P[i]?=gV v:=by simpa using E
  have G:i<t.length:=by
   have:=(N8.mp Z).1;simp_all
  have f:t[i]?=gV _:=N_ G;obtain⟨L,y,M,O,U⟩:=D i _ f;have W:(t.map V.ref)[i]?=gV (.ref t[i]):=by rw[Ow,f];rfl
  obtain⟨v',a,c⟩:=x.get W;rw[Z]at a;cases a;cases c;exact⟨L,y,_,M,O,rfl,U⟩
 rw[merged_nil_of_nodup m<|by simp_all]at d;refine⟨.ref _,_,I.laid (λb q Y=>F b q Y) (N' _)<|rp (Pm z (by decide)) (PU.mpr<|P6<|OQ I.big) B d,rfl,q _<|I.hok.fresh<|N' _⟩
noncomputable def Mf(a:J'):HO:=.ext λh=>∃o,h.get? a=gV o
noncomputable def cY(a:J')(o:Obj):HO:=.frz o<|Mf a
theorem jL(e:h.get? a=gV o):ObjOk P w H h a (cY a o):=
 ⟨e,⟨o,e⟩,⟨o,e⟩,λz z ⟨o,q⟩ k=>⟨o,k o q⟩⟩
theorem fN(x:HOk P w H h)(e:H a=gV (cY a o)):h.get? a=gV o:=(x a _ e).1
inductive CodeK (H:Hp)(qual:Str)(C:K'):Prop
 |mk (c:J')(o:Obj)(vs:Pi K')(t:Tok)(e:C=.ref c)(h:H c=gV (cY c o))(d:o.data=.fields vs)(q:vs[1]?=gV (.str qual t))
inductive TabAt (H:Hp)(T:J')(pos:Pos)(qual:Str):Prop
 |mk (p:Pi K')(h:H T=gV (.tbl p))(t:TriplesOk p.toList)(c:∀C,codeAmong pos p.toList=gV C->CodeK H qual C)
inductive LamAt (H:Hp)(f:J')(qual:Str)(params:To)(body:PD)(s:Sx)(clos:ab (Str×J')):Prop
 |mk (p C:K')(c:J')(h:H f=gV (cY f<|RF "<lambda>" qual params body s clos p c C))(k:CodeK H qual (.ref c))
def Off(T:J')(H h:Hp):Prop:=∀b o,b≠T->H b=gV o->h b=gV o
theorem CodeK.mono(x:CodeK H Q C)(k:∀b o,H b=gV (cY b o)->a b=gV (cY b o)):CodeK a Q C:=by
 obtain⟨c,O,v,t,e,h,d,q⟩:=x;exact⟨c,O,v,t,e,k _ _ h,d,q⟩
theorem LamAt.mono(x:LamAt H f Q p B s C)(k:∀b o,H b=gV (cY b o)->a b=gV (cY b o)):LamAt a f Q p B s C:=by
 obtain⟨P,v,c,h,q⟩:=x;exact⟨P,v,c,k _ _ h,q.mono k⟩
theorem TabAt.mono(x:TabAt H T p Q)(k:Same H a):TabAt a T p Q:=by
 obtain⟨P,h,t,c⟩:=x;exact⟨P,k _ _ h,t,λC e=>(c C e).mono λb o q=>k _ _ q⟩
inductive Mh (T:J')(pos:Pos)(qual:Str)(params:To)(body:PD)(s:Sx)(clos:ab (Str×J'))(H:Hp)(Q:VK):Prop
 |mk (t:TabAt H T pos qual)(q:∀(f:J') (h:Hp),H f=Oa->Off T H h->TabAt h T pos qual->LamAt h f qual params body s clos->Q (.ref f) h)
def Nz(T:J')(P:Pos)(q:Str)(p:To)(b:PD)(s:Sx)(c:ab (Str×J')):TE:=λ_ H Q=>Mh T P q p b s c H Q
structure rJ (mg:Str->M' K')(base:Pd)(c T:J'):Prop where
 code:Ss base c T
 bm:∃bm ob,mg "__builtins__"=gV (.ref bm)/\bm≠UV/\base.get? bm=gV ob/\ob.cls=.type "module"/\ob.dict=gV UV/\ob.data=.plain
theorem rK(L:rJ X.mg X.base c T)(I:Inv X i j H s)(hT:H T=gV (.tbl p)):s.heap.BuiltinsAt X.mg T:=by
 obtain⟨m,O,a,d,b,f,g,B⟩:=L.bm;refine⟨m,O,a,d,λq=>?_,λq=>?_,I.bk _ _ b,f,g,B⟩
 ·obtain⟨o,E,k,e,h,y⟩:=I.ok.mod.glob;simp_all
 have z:=(I.bs _ _ b).2;lia
theorem J6{X:Cx}{p:To}{B:PD}{a:Sx}{P:Pos}{c:J'}{T:J'}{f:ab (Str×J')}(L:rJ X.mg X.base c T)(hc:X.env.code=.ref c)(ac:defaultsOf p X.env=([],[]):=by rfl)(Vl:va a X.env=pure f:=by rfl):
  PE X (.Lambda p B a P) (Nz T P (X.env.qual++"<lambda>") p B a f):=by
 intro Og s σ H Q I ⟨am,hq⟩;refine PySem.W.kla_eval ac ?_;obtain⟨j,hT,y,D⟩:=am;have hP:s.heap.get? T=gV (Td j):=I.hok T _ hT;have Cs:Ss s.heap c T:=L.code.keeps I.bk;have hg:s.heap.Ns O_ X.mg:=I.ok.mod.glob.keeps I.bk;have an:O_≠T:=λq=>by
  obtain⟨o,es,ep,e,E,V⟩:=hg;lia
 have U:=rK L I hT;cases W:codeAmong P j.toList with
 |none=>
  refine PySem.W.kla_makeFunction (mg:=X.mg) Vl I.ok.glob hg hc Cs hP y W an U λC g h m Y r RH F G=>?_;obtain⟨c2,k,vs,t,e2,as,E,hv⟩:=F;cases e2;have fc:H C=none:=I.hok.fresh r;have nT:C≠T:=λz=>by lia
  have atT:upd (upd H T<|.tbl<|j++#[SC P.line,SC P.col,.ref C]) C (cY C k) T=gV (.tbl<|j++#[SC P.line,SC P.col,.ref C]):=by rw[ag<|P6 nT,aa]
  have A:upd (upd H T<|.tbl<|j++#[SC P.line,SC P.col,.ref C]) C (cY C k) C=gV (cY C k):=aa;have O:∀b,b≠T->b≠C->upd (upd H T<|.tbl<|j++#[SC P.line,SC P.col,.ref C]) C (cY C k) b=H b:=λb h1 h2=>by rw[ag h2,ag h1]
  generalize upd (upd H T<|.tbl<|j++#[SC P.line,SC P.col,.ref C]) C (cY C k)=w at atT A O;have neT:∀b u,H b=gV u->(∀j,u≠.tbl j)->b≠T:=λb u e n z=>by
   grind
  have neN:∀b,H b=Oa->b≠T:=λb e z=>by lia
  have N:∀b u,H b=gV u->b≠C:=λb u e z=>by lia
  have av:∀b o,s.heap.get? b=gV o->b≠C:=λb o e=>OQ<|Pe (OB e) r;have un:Un X.fs [] H w s.heap h:=by
   refine⟨λb o e n V V=>Y b o (neN b n) e,λb o e n V V=>⟨o.slots,Y b o (neN b n) e⟩,λb o e n V=>?_,λb o e V=>?_,λb xs e=>?_,λb o u e=>?_,λb qs e=>?_⟩
   ·rw[O b (neN b n)<|av b o e];exact n
   ·by_cases i:b=T
    ·exact⟨_,i▸G⟩
    exact⟨o,Y b o i e⟩
   ·simp_all
   ·simp_all
   by_cases i:b=T
   ·grind
   exact⟨#[],by rw[O b i<|N b _ e,e];simp⟩
  have az:HOk X.prog X.w w h:=λb u e=>by
   by_cases i:b=T
   ·subst i;rw[atT]at e;cases e;exact G
   by_cases J:b=C
   ·subst J;rw[A]at e;cases e;exact jL as
   rw[O b i J]at e;refine(I.hok b u e).stay (λd v x q=>Y d v ?_ q) (λd q=>?_) λd xs q=>?_
   ·lia
   ·simp_all
   simp_all
  have M:Inv X Og σ w {s with heap:=h,toks:=m}:=I.un (t':=m) un az;have Z:w h.objs.size=none:=M.hok.fresh<|N' _;have aC:H h.objs.size=none:=I.hok.fresh<|Pm r<|Pu RH;have I3:=M.laid (a:=h.objs.size) (o:=cY h.objs.size<|RF "<lambda>" (X.env.qual++"<lambda>") p B a f ((X.mg "__name__").getD .none) C g) (h':=h.push<|RF "<lambda>" (X.env.qual++"<lambda>") p B a f ((X.mg "__name__").getD .none) C g) (t':=m)
   (λb u e=>Oj _ e) (N' _) (jL<|OT _ rfl)
  have l:∀b u,w b=gV u->upd w h.objs.size (cY h.objs.size<|RF "<lambda>" (X.env.qual++"<lambda>") p B a f ((X.mg "__name__").getD .none) C g) b=gV u:=λb u e=>by
   rw[ag<|af e Z];exact e
  have ck:CodeK (upd w h.objs.size<|cY h.objs.size<|RF "<lambda>" (X.env.qual++"<lambda>") p B a f ((X.mg "__name__").getD .none) C g) (X.env.qual++"<lambda>") (.ref C):=⟨C,k,vs,t,rfl,l _ _ A,E,hv⟩;refine⟨.ref h.objs.size,_,I3,rfl,hq _ _ aC (λb u U e=>l _ _<|by rw[O b U<|N b _ e];exact e) ⟨_,l _ _ atT,?_,λcv e=>?_⟩ ⟨_,g,C,aa,ck⟩⟩
  ·rw[TJ];exact TriplesOk_snoc _ _ _ _ y
  ·rw[TJ]at e;have z:=codeAmong_snoc (c:=Px C) j.toList y W;simp_all
 |some cv=>
  obtain⟨C,k,vs,t,rfl,hC,E,hv⟩:=D cv W;refine PySem.W.kla_makeFunctionHit (mg:=X.mg) Vl I.ok.glob hg hc Cs hP y W U λg h m hk aF=>?_;have M:Inv X Og σ H {s with heap:=h,toks:=m}:=I.kept (t':=m) hk;have Z:H h.objs.size=none:=M.hok.fresh<|N' _;have I3:=M.laid (a:=h.objs.size) (o:=cY h.objs.size<|RF "<lambda>" (X.env.qual++"<lambda>") p B a f ((X.mg "__name__").getD .none) C g) (h':=h.push<|RF "<lambda>" (X.env.qual++"<lambda>") p B a f ((X.mg _).getD _) C g) (t':=m)
   (λb u e=>Oj _ e) (N' _) (jL<|OT _ rfl)
  have l:∀b u,H b=gV u->upd H _ (cY h.objs.size<|RF "<lambda>" (X.env.qual++"<lambda>") p B a f ((X.mg "__name__").getD .none) C g) b=gV u:=λb u e=>by
   rwa[ag<|af e Z]
  refine⟨.ref _,_,I3,rfl,hq _ _ Z (λb u V e=>l _ _ e) ⟨j,l _ _ hT,y,λcv e=>(D cv e).mono λb o q=>l _ _ q⟩ ⟨_,g,C,aa,⟨C,k,vs,t,rfl,l _ _ hC,E,hv⟩⟩⟩
abbrev dN:=ab<|J'×Obj
noncomputable def iP(H:Hp)(c:dN):Hp:=λb=>match c.lookup b with
 |some o=>gV<|cY b o
 |none=>H b
noncomputable def less(H:Hp)(c:dN):Hp:=λb=>match c.lookup b with
 |some _=>Oa
 |none=>H b
theorem fO(e:c.lookup b=gV o):iP H c b=gV (cY b o):=by unfold iP;rw[e]
theorem bh(e:c.lookup b=Oa):iP H c b=H b:=by unfold iP;rw[e]
theorem jM(e:c.lookup b=gV o):less H c b=none:=by unfold less;rw[e]
theorem bP(e:c.lookup b=Oa):less H c b=H b:=by unfold less;rw[e]
theorem aT(c:dN)(b:J'):c.lookup b=Oa\/∃o,c.lookup b=gV o:=by
 cases e:c.lookup b with
 |none=>exact .inl rfl
 |some o=>exact .inr ⟨o,rfl⟩
theorem Ad(h:∀b o,c.lookup b=gV o->H b=Oa):Same H (iP H c):=λb u e=>by
 obtain q|⟨o,q⟩:=aT c b
 ·rwa[bh q]
 rw[h b o q]at e;cases e
theorem qz:Same (less H c) H:=λb u e=>by
 obtain q|⟨o,q⟩:=aT c b
 ·rwa[bP q]at e
 rw[jM q]at e;cases e
theorem Ae(h:∀b o,c.lookup b=gV o->H b=gV (cY b o))(k:Same (less H c) a):Same H (iP a c):=λb u e=>by
 obtain q|⟨o,q⟩:=aT c b
 ·rw[bh q];exact k _ _ (by rwa[bP q])
 rwa[fO q,<-h b o q]
theorem Cu(h:∀b o,c.lookup b=gV o->H b=Oa)(k:Same (iP H c) a):Same H (less a c):=λb u e=>by
 obtain q|⟨o,q⟩:=aT c b
 ·rw[bP q];exact k _ _ (by rwa[bh q])
 rw[h b o q]at e;cases e
def J7(P:Ou)(w:ON)(K:C')(m:Str->M' K')(b:Pd)(k:Nat)(f:J')(p:Sp):Prop:=
 ∀(A:Pw) (o:ab Env) (s:Od) (H:Hp) (u:ab K') (v:ab V) (Q:VK) (E:XK),Room k A->Env0 P w K m b A o s H->Vals v u->p v H Q E->
  codeAny (OS P w) A (.call (.ref f) ⟨u,[]⟩) (CR bw o P w H s Q E) s
section
variable {X:Cx}{k:Nat}{f:J'}{fd:Oz}{sp:Sp}{x:Str}{p pos:Pos}{e:PD}{es:ab PD}{t:TA}
theorem Gk{Og:ab (J'×Obj)}{σ:St}{H:Hp}{s:Od}{Q:VK}{m:ab K'}{M:ab V}(F:aA X.prog X.w X.K X.mg X.base bw k f fd ps sp)(hr:Room k X.A)(hb:Binds X.K fd ps [])
  (I:Inv X Og σ H s) (r:Vals M m) (c:dN) (P:∀x,X.fn x=N7) (w:∀b o,c.lookup b=gV o->(∃x,X.env.cells.lookup x=gV b)/\s.heap.get? b=gV o)
  (h:sp M (iP H c) (λv H2=>Q v<|less H2 c) E0):wpAny (OS X.prog X.w) X.A (call (.ref f) m) (EP X Og σ Q) X.xe s:=by
 have N:∀b o,c.lookup b=gV o->H b=none:=λb o q=>by
  obtain⟨⟨x,a⟩,_⟩:=w b o q;exact I.freeC x b a
 have B:∀b o,c.lookup b=gV o->X.s₀.heap.objs.size<=b:=λb o q=>by
  obtain⟨⟨x,a⟩,_⟩:=w b o q;exact I.ok.cab x b (P x) a
 have T:∀b o,X.base.get? b=gV o->c.lookup b=none:=λb o q=>by
  obtain z|⟨O,z⟩:=aT c b
  ·exact z
  exact absurd (Pe (Pe (OB q) I.ok.bsz)<|B b O z)<|Q6 _
 have C:∀b∈vF X.stack,c.lookup b=none:=λb q=>by
  obtain z|⟨O,z⟩:=aT c b
  ·exact z
  obtain⟨⟨x,a⟩,_⟩:=w b O z;obtain e|i:=OC.mp (I.stkSub b q)
  ·exact absurd e<|I.cne x b a
  obtain⟨_,o,ho,_⟩:=I.ok.funs.mem i;exact absurd (Pe (OB ho)<|B b O z)<|Q6 _
 have U:∀b u,H b=gV u->c.lookup b=none:=λb u q=>by
  obtain z|⟨O,z⟩:=aT c b
  ·exact z
  simp_all
 have W:HOk X.prog X.w (iP H c) s.heap:=λb u q=>by
  obtain z|⟨o,z⟩:=aT c b
  ·rw[bh z]at q;refine(I.hok b u q).stay (λ_ _ _ y=>y) (λd y=>?_) λd Y y=>?_
   ·rw[bh<|U d _ y];exact y
   rw[bh<|U d _ y];exact y
  rw[fO z]at q;cases q;exact jL (w b o z).2
 have E:=I.env0;have e1:Env0 X.prog X.w X.K X.mg X.base X.A X.stack s (iP H c):=
  ⟨E.frames,E.mod,λb o q=>⟨(E.bs b o q).1,by rw[bh<|T b o q];exact(E.bs b o q).2⟩,E.bsz,E.funs,λb q=>by rw[bh<|C b q];exact E.frf b q,W,E.bare⟩
 have hl:m.length=ps.length:=by rw[<-r.length];exact F.len _ _ _ _ h
 have i:=hb s m I.kIn (by rwa[Pq]);rw[Pq]at i;refine W3<|SD (F.run X.A _ s _ _ m M _ E0 hr e1 i r h) λr s' D=>?_;cases r with
 |error e=>exact Qc D
 |ok fl=>
  cases fl with
  |next=>exact Qc D
  |brk=>exact Qc D
  |cont=>exact Qc D
  |ret u=>
   obtain⟨v,L,os,G,l,J,rv,q⟩:=D;obtain⟨Z,g,d,tk,ac⟩:=s';obtain rfl:ac=s.os:=os;have A:=λb o z=>l.frzs b o _ (by rw[fO z];rfl);have am:Un (vF X.stack) [] H (less L c) s.heap Z:=by
    refine⟨λb o e n j a=>?_,λb o e n j a=>?_,λb o e n a=>?_,λb o e a=>l.there b o e a,λb Y e=>?_,λb o u e=>?_,λb qs e=>?_⟩
    ·obtain z|⟨O,z⟩:=aT c b
     ·exact l.keep b o e (by rwa[bh z]) j a
     have e2:=(w b O z).2;rw[e]at e2;cases e2;exact fN J<|A b o z
    ·exact l.slot b o e (by rwa[bh<|C b j]) j a
    ·obtain z|⟨O,z⟩:=aT c b
     ·rw[bP z];exact l.free b o e (by rwa[bh z]) a
     exact jM z
    ·rw[bP<|U b _ e];exact l.tups b Y (by rwa[bh<|U b _ e])
    ·rw[bP<|U b _ e];exact l.frzs b o u (by rwa[bh<|U b _ e])
    rw[bP<|U b _ e];exact l.tbls b qs (by rwa[bh<|U b _ e])
   have an:HOk _ X.w (less L c) Z:=λb u e=>by
    have e':=qz _ _ e;refine(J b u e').stay (λ_ _ _ y=>y) (λd y=>?_) λd Y y=>?_
    ·obtain z|⟨O,z⟩:=aT c d
     ·rwa[bP z]
     rw[A d O z]at y;cases y
    obtain z|⟨O,z⟩:=aT c d
    ·rwa[bP z]
    rw[A d O z]at y;cases y
   exact⟨v,_,I.call am an G (λb z=>by simp_all),rv,q⟩
def yd(X:Cx)(a:St)(n:ab Str)(c:dN):Prop:=
 Paired (λ(y:Str) (q:J'×Obj)=>X.env.cells.lookup y=gV q.1/\∃u,q.2.data=.cell (gV u)/\∀(i:Nat) (v:V),X.N[i]?=gV y->a[i]?=gV (gV v)->RelV v u) n c
theorem uG(I:Inv X Z w H s):∀n:ab Str,(∀y∈n,X.env.kindOf y=gV .cell/\∃(i:Nat) (v:V),X.N[i]?=gV y/\w[i]?=gV (gV v))->
  ∃C:dN,yd X w n C/\∀q∈C,(∃y,X.env.cells.lookup y=gV q.1)/\s.heap.get? q.1=gV q.2
 |[],_=>⟨[],.nil,λq a=>absurd a<|by simp⟩
 |y::n,h=>by
  obtain⟨C,M,N⟩:=uG I n λz O=>h z<|Os _ O;obtain⟨F,i,v,A,B⟩:=h y Ot;obtain⟨m,hn,P⟩:=I.loc;have D:KU _ y:=.inr<|.inl F;have look:∀(i:Nat) (v:V),X.N[i]?=gV y->w[i]?=gV _->∃u,RelV v u/\∃c,X.env.cells.lookup y=gV c/\s.heap.IsCell c _:=λi v A B=>by
   obtain⟨u,r,l⟩:=P i y v A B D;obtain⟨G,x⟩|⟨x,c,E,Q⟩:=l
   ·rw[F]at G;cases G
   exact⟨u,r,c,E,Q⟩
  obtain⟨u,r,c,E,o,J,L⟩:=look i v A B;refine⟨(c,o)::C,.cons ⟨E,u,L,λj T U W=>?_⟩ M,λq a=>?_⟩
  ·obtain⟨u',Y,c',b,o',d,g⟩:=look j T U W;simp_all
  obtain rfl|a:=OC.mp a
  ·exact⟨⟨y,E⟩,J⟩
  exact N q a
theorem lM:∀{c:dN} {b:J'} {o:Obj},c.lookup b=gV o->(b,o)∈c
 |[],_,_,e=>by simp at e
 |(a,O)::c,b,o,e=>by
  rw[Rp]at e;cases h:(b == a)with
  |true=>
   simp_all
  |false=>
   rw[h]at e;exact Os _<|lM e
inductive Cv (X:Cx)(names:ab Str)(sp:Sp)(a:St)(vs:ab V)(H:Hp)(Q:VK):Prop
 |mk (has:∀y∈names,∃(i:Nat) (v:V),X.N[i]?=gV y/\a[i]?=gV (gV v)) (q:∀cs:dN,yd X a names cs->(∀b o,cs.lookup b=gV o->H b=Oa)->sp vs (iP H cs) (λv h=>Q v<|less h cs) E0)
def Cw(X:Cx)(n:ab Str)(sp:Sp)(t:TA):TE:=λa H Q=>t a H λv h=>Cv X n sp a v h Q
theorem Cy{P:ab Str}{n:ab Str}(F:aA X.prog X.w X.K X.mg X.base bw k f fd P sp)(j:Room k X.A)(l:Gl X x)(m:X.mg x=gV (.ref f))(u:QB X.K (.ref f)=N7)(v:Binds X.K fd P [])
  (w:PA X (e::es) t) (c:∀x,X.fn x=N7) (A:∀y∈n,X.env.kindOf y=gV .cell) (d:(x == ("__debug__":Str))=false:=by decide) (B:OW (e::es) X.env=(Oc,QA e X.env)::OW es X.env:=by rfl) (D:(RE pos<|OW es X.env).any (·.1)=false:=by rfl):
  PE X (.Call (.Name x p) (e::es) [] pos) (Cw X n sp t):=by
 intro O s E H Q I h;refine Qy<|lZ I l m (T_ I.ok.mod.kin u (bL (w pos O s E H _ I h) λU G Z=>?_) B D) d;obtain⟨M,N,i,r,has,q⟩:=Z;refine ⟨i.kIn,?_⟩;obtain⟨C,J,L⟩:=uG i n λy a=>⟨A y a,has y a⟩;have g:∀b o,C.lookup b=gV o->(∃x,X.env.cells.lookup x=gV b)/\G.heap.get? b=gV o:=λb o z=>L _<|lM z;exact Gk F j v i r C c g (q C J λb o z=>by
  obtain⟨⟨y,a⟩,Y⟩:=g b o z;exact i.freeC y b a)
inductive wx (X:Cx)(k:Nat)(f:J')(vs:ab V)(H:Hp)(Q:VK):Prop
 |mk (sp:Sp)(o:Obj)(fd:Oz)(F:J7 X.prog X.w X.K X.mg X.base k f sp)(h:H f=gV (cY f o))(d:o.data=.func fd)(q:sp vs H Q E0)
def J8(X:Cx)(k i:Nat)(t:TA):TE:=λa H Q=>∃f,a[i]?=gV (gV<|.ref f)/\t a H λv h=>wx X k f v h Q
theorem Cz(h:Pd)(x:∃o fd,h.get? f=gV o/\o.data=.func fd):∃k,(k=Keeper.frame\/k=Keeper.machine\/k=Keeper.boundFrame)/\PySem.W.Looks M h (PySem.keeperOf<|.ref f) k:=by
 obtain⟨o,fd,e,d⟩:=x;obtain⟨c,D,a,s⟩:=o;cases d;exact⟨.frame,.inl rfl,(afl e).andThen .now⟩
theorem CA(n:Room k X.A)(w:PA X (e::es) t)(N:X.N[i]?=gV x:=by rfl)(y:KU X.env.scope x:=by first|exact Zk rfl|exact Yo (Zk rfl)|exact Yo<|Yo rfl)(A:(x == ("__debug__":Str))=false:=by decide)
  (d:(x == ("__classdict__":Str))=false:=by decide) (m:OW (e::es) X.env=(Oc,QA e X.env)::OW es X.env:=by rfl) (B:(RE pos<|OW es X.env).any (·.1)=false:=by rfl):
  PE X (.Call (.Name x p) (e::es) [] pos) (J8 X k i t):=by
 intro O s c H Q I ⟨f,E,h⟩;refine Qy<|bL (A5 N y A d O s c H (λv a=>v=.ref f/\t c a _) I ⟨.ref f,E,rfl,h⟩) λu C Z=>?_;obtain⟨v,D,G,J,L,M⟩:=Z;subst L;obtain rfl:u=Px f:=J;rw[m];refine PySem.W.callWith_of (by show((Oc || (RE pos<|OW es _).any _) || Oc)=Oc;rw[B];rfl) Cz<|U8 ?_;have z:=w pos O C c D _ G M;rw[m]at z;refine bL z λU P V=>?_;obtain⟨g,a,j,r,sp,o,fd,F,T,l,q⟩:=V;refine ⟨⟨o,fd,fN j.hok T,l⟩,W3<|SD (F X.A _ P a U g Q E0 n j.env0 r q) λr Y b=>?_⟩;cases r with
 |error e=>exact Qc b
 |ok W=>
  cases W with
  |ret u=>exact j.after b
  |next=>exact Qc b
  |brk=>exact Qc b
  |cont=>exact Qc b
end
noncomputable def HU(P:Ou)(w:ON)(K:C')(mg:Str->M' K')(base:Pd)(N:ab Str)(q:Str)(e:Sx)(f c:J')(C:ab (Str×J'))(A:Pw)(outer:ab Env)(s:Od)(H:Hp):Cx where
 prog:=P
 w:=w
 K:=K
 mg:=mg
 base:=base
 A:=A.deeper (Vz q e s.heap.objs.size f (.ref c) C)
 N:=N
 s₀:=s
 H₀:=H
 env:=Vz q e s.heap.objs.size f (.ref c) C
 outer:=outer
 stack:=Vz q e s.heap.objs.size f (.ref c) C::outer
 ex:=[]
 calm:=N7
 fn:=λ_=>Oc
 pn:=[]
 xe:=λ_ _=>False
structure uH (x:Str)(xs:ab Str)(sc:Sx):Prop where
 kind:sc.kind=.function
 co:sc.isCoroutine=Oc
 gen:sc.isGenerator=Oc
 par:sc.names.lookup x=gV .local
 fr:∀y∈xs,sc.names.lookup y=gV .free
 all:∀y∈sc.names,y.2=.free->y.1∈xs
 nocell:∀y∈sc.names,y.2≠.cell
 nd:xs.Nodup
def CapAt(H:Hp)(c:dN)(a:ab V):Prop:=Paired (λ(p:J'×Obj) (v:V)=>H p.1=gV (cY p.1 p.2)/\∃u,p.2.data=.cell (gV u)/\RelV v u) c a
theorem CapAt.mono(x:CapAt H c v)(k:∀b o,H b=gV (cY b o)->h b=gV (cY b o)):CapAt h c v:=Paired.mapP x λy y z=>⟨k _ _ z.1,z.2⟩
theorem CapAt.look:∀{c:dN} {v:ab V},CapAt H c v->∀b o,c.lookup b=gV o->H b=gV (cY b o):=by
 intro c v h b o e;change Paired _ _ _ at h;induction h with
 |nil=>simp at e
 |@cons a _ c _ r t i=>
  obtain⟨a,O⟩:=a;rw[Rp]at e;cases h:(b == a)with
  |true=>simp_all
  |false=>rw[h]at e;exact i e
theorem uI:∀{X:ab Str} {c:dN} {f:ab V} {H:Hp} {j:Nat} {y:Str} {v:V},X.Nodup->CapAt H c f->X[j]?=gV y->f[j]?=gV v->∃b o u,(X.zip (c.map (·.1))).lookup y=gV b/\H b=gV (cY b o)/\o.data=.cell (gV u)/\RelV v u
 |[],_,_,_,_,_,_,_,_,e,_=>by simp at e
 |_::_,_,_,_,_,_,_,_,.nil,_,e=>by simp at e
 |x::X,(a,O)::c,w::f,H,0,y,v,_,.cons r _,g,i=>by
  simp at g i;subst g i;obtain⟨h,u,d,k⟩:=r;exact⟨a,O,u,by simp,h,d,k⟩
 |x::X,(a,O)::c,w::f,H,j+1,y,v,n,.cons _ t,g,i=>by
  obtain⟨N,l⟩:=PF.mp n;have E:X[j]?=gV y:=by assumption
  obtain⟨b,o,u,z,r⟩:=uI l t E (by simpa using i);refine⟨b,o,u,?_,r⟩;have m:y≠x:=λq=>N<|q▸N5 E;show((x,a)::X.zip _).lookup y=gV b
  rw[Rp];have p:(y == x)=false:=by simpa using m
  rwa[p]
theorem ye:∀{X:ab Str} {A:ab J'} {y:Str},X.length<=A.length->y∈X->∃c,(X.zip A).lookup y=gV c
 |[],_,_,_,h=>by simp at h
 |_::_,[],_,h,_=>by simp at h
 |x::X,a::A,y,H,h=>by
  show∃c,((x,a)::X.zip A).lookup y=gV c
  rw[Rp];cases b:(y == x)with
  |true=>exact⟨a,rfl⟩
  |false=>
   exact ye (I0 H)<|by simp_all
theorem yf{x:ab Str}{C:dN}{y:Str}{c:J'}(e:(x.zip (C.map (·.1))).lookup y=gV c):∃o,(c,o)∈C:=by
 have m:=(T3<|PL e).2;simp_all
theorem qA:∀(X:ab Str) (A:ab J'),A.Nodup->((X.zip A).map (·.2)).Nodup
 |[],_,_=>by simp
 |_::_,[],_=>by simp
 |x::X,a::A,h=>by
  obtain⟨H,c⟩:=PF.mp h;refine PF.mpr ⟨λm=>H ?_,qA X A c⟩;obtain⟨⟨y,b⟩,d,rfl⟩:=OK.mp m;exact(T3 d).2
theorem lN:∀{c:dN} {b:J'} {o:Obj},(b,o)∈c->∃O,c.lookup b=gV O
 |[],_,_,h=>by simp at h
 |(a,d)::c,b,o,h=>by
  rw[Rp];cases H:(b == a)with
  |true=>exact⟨d,rfl⟩
  |false=>
   have n:b≠a:=by simpa using H
   exact lN<|(OC.mp h).resolve_left λz=>n<|Pa rk z
inductive CC (P:Ou)(w:ON)(K:C')(mg:Str->M' K')(base:Pd)(k:Nat)(f:J')(qual:Str)(params:To)(body:PD)(e:Sx)(x:Str)(xs:ab Str)(vs:ab V)(H:Hp)(Q:VK):Prop
 |mk (v:V)(cs:dN)(a:ab V)(h0:vs=[v])(b:LamAt H f qual params body e (xs.zip (cs.map (·.1))))(d:CapAt H cs a)(g:xs.length=a.length)(i:(cs.map (·.1)).Nodup)
  (j:∀(c:J') (A:Pw) (outer:ab Env) (s:Od),Room k (A.deeper (Vz qual e s.heap.objs.size f (.ref c) (xs.zip (cs.map (·.1)))))->
   ∃t,PE (HU P w K mg base (x::xs) qual e f c (xs.zip (cs.map (·.1))) A outer s<|less H cs) body t/\t (gV v::a.map gV) (less H cs) (λu h=>Q u<|iP h cs)):CC P w K mg base k f qual params body e x xs vs H Q
theorem paired_len{a b:Type}{F:a->b->Prop}:∀{l:ab a} {L:ab b},Paired F l L->l.length=L.length:=by
 intro l L h;induction h with
 |nil=>rfl
 |cons r t i=>rw[OE,OE,i]
theorem Gm{P:Ou}{w:ON}{K:C'}{mg:Str->M' K'}{T:Pd}{k:Nat}{f:J'}{G:Str}{M:To}{U:PD}{g:Sx}{x:Str}{X:ab Str}{sp:Sp}(S:uH x X g)(a3:∀an pm am u c,ZN (PySem.W.kla_fn "<lambda>" G M U g an pm (.ref c) am) ⟨[u],[]⟩=pure [(x,u)])
  (h:∀vs H Q E,sp vs H Q E->CC P w K mg T k f G M U g x X vs H Q):J7 P w K mg T (k+1) f sp:=by
 intro A O s H us vs Q E hr D r a4;obtain⟨v,C,Vc,rfl,⟨pm,am,c,hf,c',oc,a5,tq,ec,hc,a6,hq⟩,Y,as,a7,R3⟩:=h vs H Q E a4;cases ec;obtain⟨u,rfl,ru⟩:=eV r;have a8:C.length=Vc.length:=paired_len Y;have of:=fN D.hok hf;have a9:s.heap.CodeRec (.ref c) G:=⟨c,oc,a5,tq,rfl,fN D.hok hc,a6,hq⟩;have ba:s.heap.NoLimit:=D.mod.nolimit.keeps λb o e=>(D.bs b o e).1;refine PySem.W.kla_callFunE hr.depth of rfl S.co S.gen rfl a9 ?_;rw[show ZN _ _=_ from a3 _ pm am u c];refine Of<|wpAny_newFunctionEnv S.nocell (λy Z=>?_) (λac bb av=>⟨ba.keeps λb o e=>?_,?_⟩) S.kind
 ·obtain rfl:y=(x,u):=Oi.mp Z;exact S.par
 ·exact av.extBut b o (OQ<|OB e)<|Oj _ e
 show codeAny _ _ (.expr U (Vz G g s.heap.objs.size f (.ref c) (X.zip (C.map (·.1))))) _ _
 have B:∀b o,s.heap.get? b=gV o->ac.get? b=gV o:=λb o e=>av.extBut b o (OQ<|OB e)<|Oj _ e;obtain⟨t,ht,bc⟩:=R3 c A O s<|hr.deeper _;have L:∀b o,C.lookup b=gV o->H b=gV (cY b o):=Y.look;have az:∀b o,(b,o)∈C->∃F,C.lookup b=gV F/\H b=gV (cY b F):=λb o m=>by
  obtain⟨F,e⟩:=lN m;exact⟨F,e,L b F e⟩
 have UP:∀b u,H b=gV u->(∀o,u≠cY b o)->C.lookup b=none:=λb u e n=>by
  obtain z|⟨o,z⟩:=aT C b
  ·exact z
  rw[L b o z]at e;cases e;exact absurd rfl<|n o
 have aC:∀b,H b=Oa->C.lookup b=none:=λb e=>by
  obtain z|⟨o,z⟩:=aT C b
  ·exact z
  rw[L b o z]at e;cases e
 have aF:HOk P w (less H C) s.heap:=λb u' e=>by
  have e':H b=gV u':=qz _ _ e;refine(D.hok b u' e').stay (λR R R y=>y) (λd y=>?_) λd zs y=>?_
  ·rw[bP<|UP d _ y λo z=>nomatch z];exact y
  rw[bP<|UP d _ y λo z=>nomatch z];exact y
 have bd:∀b,s.heap.objs.size<=b->less H C b=none:=λb N=>aF.fresh N;have W:∀b,H b=Oa->less H C b=none:=λb e=>by
  rw[bP<|aC b e];exact e
 have I:Inv (HU P w K mg T (x::X) G g f c (X.zip (C.map (·.1))) A O s<|less H C) [] (gV v::Vc.map gV) (less H C) {s with heap:=ac,toks:=s.toks+[(x,u)].length}:=by
  refine⟨⟨D.mod,S.kind,rfl,rfl,N' _,λy z c h1 h2=>?_,λy Z=>?_,λy c hz=>absurd (show Oc=N7 from hz) Om,λR=>hr.hd,Ye D.frames,.inr ⟨rfl,rfl⟩,λb z=>absurd (show b∈([]:ab J')from z) (by simp),λb o e=>⟨(D.bs b o e).1,W b (D.bs b o e).2⟩,D.bsz,λb R R z=>absurd (show b∈([]:ab J')from z) (by simp),λb z=>absurd (show b∈([]:ab J')from z) (by simp),D.funs,λb N=>W b<|D.frf b N⟩,
   rfl,D.bare,Un.kept B,⟨_,bb,λi y v' h1 h2 h3=>?_⟩,λy c h=>?_,bd _<|N' _,λy c h=>?_,λp hp=>absurd (show p∈([]:ab (J'×Obj))from hp) (by simp),aF.kept B,?_⟩
  ·exact ZL (Ph.mp<|qA X _ a7) (PL h1)<|PL h2
  ·have Z:g.names.lookup y=gV .cell\/g.names.lookup y=gV .free:=Z;obtain Z|Z:=Z
   ·exact absurd rfl<|S.nocell _<|PL Z
   exact ye (by rw[A',a8,as];exact N' _)<|S.all _ (PL Z) rfl
  ·replace h1:(x::X)[i]?=gV y:=h1;cases i with
   |zero=>
    simp at h1 h2;subst h1 h2;exact⟨u,ru,.inl ⟨S.par,by simp⟩⟩
   |succ j=>
    have aL:X[j]?=gV y:=by simpa using h1
    have bf:Vc[j]?=gV v':=by
     have q:(Vc.map gV)[j]?=gV (gV v'):=by simpa using h2
     rw[Ow]at q;obtain⟨a,ha,e⟩:=PK.mp q;cases e;exact ha
    obtain⟨b,o,u',z1,z2,z3,z4⟩:=uI S.nd Y aL bf;exact⟨u',z4,.inr ⟨.inr<|S.fr y<|N5 aL,b,z1,o,B _ _<|fN D.hok z2,z3⟩⟩
  ·obtain⟨o,m⟩:=yf h;obtain⟨F,e,z⟩:=az c o m;have cd:∃u,F.data=.cell (gV u):=by
    have bg:∀{l:dN} {cp:ab V},CapAt H l cp->∀b o,l.lookup b=gV o->∃u,o.data=.cell (gV u):=by
     intro l
     induction l with
     |nil=>intro cp R b o e;simp at e
     |cons a l ih=>
      intro cp hc b o e;cases hc with
      |cons r t=>
       obtain⟨a1,a2⟩:=a;rw[Rp]at e;cases N:(b == a1)with
       |true=>
        rw[N]at e;cases e;obtain⟨R,u,d,R⟩:=r;exact⟨u,d⟩
       |false=>
        rw[N]at e;exact ih t b o e
    exact bg Y c F e
   obtain⟨u',d'⟩:=cd;exact⟨gV u',F,B _ _<|fN D.hok z,d'⟩
  ·obtain⟨o,m⟩:=yf h;obtain⟨F,e,z⟩:=az c o m;exact jM e
  show(gV v::Vc.map gV).length=(x::X).length
  rw[OE,OE,A',as]
 refine PySem.W.kla_codeExpr<|Qx (ht [] _ _ _ _ I bc) (λu2 s' hs=>?_) λe s' hs=>Qc hs;obtain⟨v2,H',J,rv,q⟩:=hs;have un:Un (vF O) [] (less H C) H' s.heap _:=J.base;have bk:=λb o e n N=>un.keep b o e (W b n) N (by show b∉([]);simp);have bl:=λb o z=>by
  refine un.keep b o (fN D.hok<|L b o z) (jM z) (λN=>?_) (by show b∉([]);simp);have y:=D.frf b N;rw[L b o z]at y;cases y
 have a0:=λb o z=>un.free b o (fN D.hok<|L b o z) (jM z) (by simp);refine⟨v2,iP H' C,J.os,J.bare,⟨λb o e n N hx=>bk b o e n N,λb o e n N hx=>un.slot b o e (W b n) N hx,λb o e n hx=>?_,λb o e hx=>un.there b o e hx,λb zs e=>?_,λb o z e=>?_,λb qs e=>?_⟩,λb u' e=>?_,rv,q⟩
 ·rw[bh<|aC b n];exact un.free b o e (W b n) hx
 ·have z:=UP b _ e λo z=>nomatch z
  rw[bh z];exact un.tups b zs (by rwa[bP z])
 ·obtain y|⟨F,y⟩:=aT C b
  ·rw[bh y];exact un.frzs b o z (by rwa[bP y])
  rwa[fO y,<-L b F y]
 ·have z:=UP b _ e λo z=>nomatch z
  rw[bh z];exact un.tbls b qs (by rwa[bP z])
 obtain y|⟨F,y⟩:=aT C b
 ·rw[bh y]at e;refine(J.hok b u' e).stay (λR R R y=>y) (λd y'=>?_) λd zs y'=>?_
  ·obtain z|⟨F,z⟩:=aT C d
   ·rwa[bh z]
   rw[a0 d F z]at y';cases y'
  obtain z|⟨F,z⟩:=aT C d
  ·rwa[bh z]
  rw[a0 d F z]at y';cases y'
 rw[fO y]at e;cases e;exact jL<|bl b F y
theorem J9{X:Cx}{j:Nat}{k:Nat}{f:J'}{F:Oz}{a:ab Str}{s:Sp}{x:Str}{p:Pos}{P:Pos}{e:PD}{E:ab PD}{t:TA}(n:ab Str)(G:Fn X.prog X.w X.K X.mg X.base j x f F a s)(r:Room k X.A)(h:j<=k)(g:Gl X x)(H:∀x,X.fn x=N7)(v:∀y∈n,X.env.kindOf y=gV .cell)(c:PA X (e::E) t)(b:(x == ("__debug__":Str))=false:=by decide)
  (d:OW (e::E) X.env=(Oc,QA e X.env)::OW E X.env:=by rfl) (u:(RE P<|OW E X.env).any (·.1)=false:=by rfl):
  PE X (.Call (.Name x p) (e::E) [] P) (Cw X n s t):=Cy G.ok (r.mono h) g G.at_ G.kp G.b c H v b d u
structure FunL (K:C')(x qual:Str)(st:PQ)(f:J')(fd:Oz)(c:J'):Prop where
 ex:∃(oc:K') (od:M' J') (kV ZA pm:K') (an:M' J') (ct:K') (osl:Pi (M' K')),
  fd=Ru x qual (fq st) (cP st) (aD st) .none kV ZA pm an (.ref c) ct/\K.lookup f=gV ⟨oc,od,.func fd,osl⟩/\Uw K (.ref c) qual=N7
section
variable {K:C'}
theorem FunL.ok{P:Ou}{w:ON}{m:Str->M' K'}{b:Pd}{x l:Str}{st:PQ}{f c:J'}{i:Oz}{N p:ab Str}{k:Nat}{a:Sp}(F:FunL K x l st f i c)(S:ee N p (aD st))(len:∀v H Q E,a v H Q E->v.length=p.length)
  (d:∀A o s H v Q E,Room k (A.deeper<|Rf l (aD st) s.heap.objs.size f<|.ref c)->a v H Q E->
   ∃t,PSs (ri bw P w K m b N l (aD st) f (.ref c) A o s H E).nox (cP st) t/\t {nx:=λY j=>Q .non j,rt:=Q} (start N v) H):aA P w K m b bw (k+1) f i p a:=by
 obtain⟨n,u,kV,Z,y,z,C,O,rfl,L,e⟩:=F.ex;refine Hx L e S len λA o s H v Q E r g=>?_;obtain⟨t,h,q⟩:=d A o s H v Q E r g;exact⟨t,h.nox,q⟩
theorem FunL.toFun{x q:Str}{st:PQ}{f c:J'}{d:Oz}(F:FunL K x q st f d c)(k:QB K (.ref f)=N7):Fun K x q st f d:=by
 obtain⟨O,a,kV,Z,p,A,C,o,e,l,h⟩:=F.ex;exact⟨⟨O,a,kV,Z,p,A,.ref c,C,o,e,l,h⟩,k⟩
end
def HV(o:Obj)(T:J'):Prop:=∃(v:Pi K') (a:Str) (t:Tok) (A:Int) (g:Tok) (i:Oe) (N:Int) (b:Tok),o.cls=.type "code"/\o.data=.fields v/\v[11]?=gV (.ref T)/\v.getD 11 .none=.ref T/\v.getD 18 .none=.str a t/\
  v.getD 7 .none=.int A g/\v.getD 9 .none=.bool i/\v.getD 10 .none=.int N b
theorem qB{K:C'}{h:Pd}{c T:J'}{o:Obj}(X:K.In h)(l:K.lookup c=gV o)(p:HV o T)(n:c≠T):Ss h c T:=by
 obtain⟨v,a,t,A,g,i,N,b,H,d,e,f,j,k,m,q⟩:=p;exact⟨o,v,a,t,A,g,i,N,b,X _ _ l,H,d,e,f,j,k,m,q,n⟩
def BM(m:Str->M' K')(h:Pd):Prop:=∃b o,m "__builtins__"=gV (.ref b)/\b≠UV/\h.get? b=gV o/\o.cls=.type "module"/\o.dict=gV UV/\o.data=.plain
theorem Af{P:Ou}{w:ON}{K:C'}{y mb:Str->M' K'}{k:Nat}{fa a:J'}{fd:Oz}{x:Str}{sp:Sp}{f:Od}{i:ab K'}{E:ab Int}(t:ab J')
  (KX:K.In f.heap) (G:f.heap.Ns O_ y) (g:f.heap.Ns UV mb) (ac:∀x:Str,x≠"__name__"->mb x=Uu x) (am:BM y f.heap) (an:f.heap.NoLimit) (hg:f.gens=#[])
  (I:f.heap.get? a=gV {cls:=.type "list",data:=.seq i.toArray}) (hi:Sk i E) (hl:E.length<=sizeLine) (hr:Room k YJ)
  (hT:∀T∈t,f.heap.get? T=gV (Td #[])) (as:∀T∈t,K.lookup T=Oa) (av:∀T∈t,∃c,Ss f.heap c T)
  (F:∀B:Pd,K.In B->B.Ns O_ y->BM y B->aA P w K y B bw k fa fd [x] sp) (az:∀(s:Od) (u:K'),ZW s fd ⟨[u],[]⟩ [(x,u)])
  (aC:∀H:Hp,(∀T∈t,H T=gV (.tbl #[]))->SqL K H a (E.map V.int)->sp [.ref a] H (λv _=>v=.bl N7) λ_ _ _=>False):
  codeAny (OS P w) YJ (.call (.ref fa) ⟨[.ref a],[]⟩) (λr l=>r=.ok (.ret<|.bool N7)/\OldK f.heap l.heap/\l.os=f.os/\Wh l.gens) f:=by
 have rv:=iu hi;have aF:=hi.length;have N:∀T∈t,T≠a:=λT h z=>by
  have e:=hT T h;rw[z,I]at e;cases e
 have J:∀H:Hp,(∀b,H b≠Oa->b∈t\/b=a)->(∀T∈t,H T=gV (.tbl #[]))->(∀u,H a=gV u->∃o,u=.frz o (.lst<|E.map V.int))->SqL K H a (E.map V.int)->HOk P w H f.heap->(H a≠Oa->K.lookup a=Oa)->
   codeAny (OS P w) YJ (.call (.ref fa) ⟨[.ref a],[]⟩) (λr l=>r=.ok (.ret<|.bool N7)/\OldK f.heap l.heap/\l.os=f.os/\Wh l.gens) f:=by
  intro H hA L aL hS O hK;have A:∀{b:J'} {o:Obj},f.heap.get? b=gV o->H b=Oa->(pD f.heap H).get? b=gV o:=λe n=>A4 e n;have Q:∀{b:J'} {o:Obj},f.heap.get? b=gV o->(∀i n,o.data≠.seq i n)->(∀i,o.data≠.fields i)->H b=none:=λ{b o} e d1 d2=>by
   cases q:H b with
   |none=>rfl
   |some u=>
    obtain h|h:=hA b (by rw[q];simp)
    ·rw[hT b h]at e;cases e;exact absurd rfl<|d2 _
    subst h;rw[I]at e;cases e;exact absurd rfl<|d1 _ _
  have p:∀{b:J'} {m:Str->M' K'},f.heap.Ns b m->(pD f.heap H).Ns b m:=λ{b m} ⟨o,es,ep,e,d,r⟩=>⟨o,es,ep,A e (Q e (λi n z=>by rw[d]at z;cases z) λi z=>by rw[d]at z;cases z),d,r⟩;have U:K.In (pD f.heap H):=λb o e=>A (KX b o e) (by
   cases q:H b with
   |none=>rfl
   |some u=>
    obtain h|h:=hA b (by rw[q];simp)
    ·rw[as b h]at e;cases e
    subst h;rw[hK<|by rw[q];simp]at e;cases e)
  have a0:BM y (pD f.heap H):=by
   obtain⟨bm,ob,b1,b2,b3,b4,b5,b6⟩:=am;exact⟨bm,ob,b1,b2,A b3 (Q b3 (λi n z=>by rw[b6]at z;cases z) λi z=>by rw[b6]at z;cases z),b4,b5,b6⟩
  have hM:Mod K y (pD _ H):=⟨U,p G,⟨mb,p g,ac⟩,let ⟨mc,h1,h2⟩:=an;⟨mc,p h1,h2⟩⟩;have e0:Env0 P w K y (pD _ H) YJ [] f H:=⟨rfl,hM,λb o e=>Fc e,UC<|zm _ _,trivial,λb g=>absurd (show b∈([])from g) (by simp),O,.of_eq hg⟩;refine SD ((F _ U (p G) a0).run YJ [] f H _ [.ref a] [.ref a] _ _ hr e0 (az f<|.ref a) (.cons rfl .nil)<|aC H L hS) λr l h=>?_;cases r with
  |error e=>exact Qc h
  |ok fl=>
   cases fl with
   |next=>exact Qc h
   |brk=>exact Qc h
   |cont=>exact Qc h
   |ret u=>
    obtain⟨v,H',os,W,un,X,r',q⟩:=h;have q':v=.bl _:=q;subst q';obtain rfl:u=Zc _:=r';have Y:∀b o,f.heap.get? b=gV o->l.heap.get? b=gV o\/(b∈t/\o=Td #[]/\∃M,l.heap.get? b=gV (Td M)):=λb o e=>by
     cases q:H b with
     |none=>exact .inl (un.keep b o e q (by intro z;exact absurd (show b∈([])from z)<|by simp)<|by simp)
     |some u=>
      obtain z|z:=hA b (by rw[q];simp)
      ·obtain⟨M,D⟩:=un.tbls b #[]<|L b z;rw[hT b z]at e;cases e;exact .inr ⟨z,rfl,_,X b _ D⟩
      subst z;obtain⟨ob,rfl⟩:=aL u q;have D:=un.frzs b ob _ q;obtain⟨e1,_⟩:=O b _ q;obtain⟨e2,_⟩:=X b _ D;rw[e]at e1;cases e1;exact .inl e2
    refine⟨rfl,⟨λb o e=>?_,λb o e=>?_⟩,os,W⟩
    ·obtain z|⟨g,rfl,M,z⟩:=Y b o e
     ·exact .inl z
     obtain⟨c,C⟩:=av b g;exact .inr<|.inl ⟨(C.tab<|hT b g).isCodeTable,rfl,#[],M,rfl,by rw[z];simp⟩
    obtain z|⟨_,_,M,z⟩:=Y b o e
    ·exact⟨o,z⟩
    exact⟨_,z⟩
 cases hk:K.lookup a with
 |some o=>
  have e:=KX a o hk;rw[I]at e;cases e;refine J (λb=>if b∈t then gV _ else Oa) (λb z=>?_) (λT h=>Ox h) (λu z=>?_) (.inr ⟨_,i.toArray,_,hk,rfl,rfl,rfl,by rwa[OA,aF],by simpa using rv⟩) (λb u z=>?_) λz=>?_
  ·by_cases g:b∈t
   ·exact .inl g
   exact absurd (Ov g) z
  ·have Z:=(Ov λh=>N a h rfl).symm.trans z;cases Z
  ·by_cases g:b∈t
   ·have Z:=(Ox g).symm.trans z;cases Z;exact hT b g
   have Z:=(Ov g).symm.trans z;cases Z
  ·exact absurd (Ov λh=>N a h rfl) z
 |none=>
  refine J (λb=>if b∈t then gV _ else if b=a then gV (.frz {cls:=.type "list",data:=.seq i.toArray}<|.lst<|E.map _)else Oa) (λb z=>?_) (λT h=>Ox h) (λu z=>?_)
   (.inl<|.inr ⟨{cls:=.type _,data:=.seq _},(Ov λh=>N a h rfl).trans<|Ox rfl⟩) (λb u z=>?_) λ_=>hk
  ·by_cases g:b∈t
   ·exact .inl g
   by_cases j:b=a
   ·exact .inr j
   exact absurd ((Ov g).trans<|Ov j) z
  ·have Z:=((Ov λh=>N a h rfl).trans<|Ox rfl).symm.trans z;cases Z;exact⟨_,rfl⟩
  by_cases g:b∈t
  ·have Z:=(Ox g).symm.trans z;cases Z;exact hT b g
  have Z:=(Ov g).symm.trans z;by_cases j:b=a
  ·have D:=(Ox j).symm.trans Z;cases D;subst j;exact⟨I,by rwa[A'],i,_,rv,I⟩
  have D:=(Ov j).symm.trans Z;cases D
theorem walk_ofT{l:WY}{n k:Nat}{q:Ou}{loose:ab Str}{X:(Str->M' K')->Pd->Prop}{z:ON->Pd->Prop}{d:DefRec}{K:lD->C'}{B:ON->Sp}{x:Str}(t:ab J')
  (I:l.most=gV n) (g:n<=sizeLine) (i:d.params.defaults=[]) (J:Room k YJ)
  (M:∀(w:ON) (h:Pd),z w h->(K w.params).In h/\∀T∈t,h.get? T=gV (Td #[])) (j:∀P:lD,(t.all λT=>((K P).lookup T).isNone)=N7)
  (F:∀(w:ON) (m:Str->M' K') (e:J') (h:Pd),(K w.params).In h->h.Ns O_ m->m d.name=gV (.ref e)->
   ∃p:Oz,(∀(s:Od) (u:K'),ZW s p ⟨[u],[]⟩ [(x,u)])/\(∀T∈t,∃c,Ss h c T)/\
    ∀b:Pd,(K w.params).In b->b.Ns O_ m->BM m b->aA l.prog w (K w.params) m b bw k e p [x] (B w))
  (r:∀(w:ON) (H:Hp) (a:J') (N:ab Int),N.length<=n->(∀T∈t,H T=gV (.tbl #[]))->SqL (K w.params) H a (N.map V.int)->B w [.ref a] H (λv S=>v=.bl N7) λS S S=>False):
  rz q loose X z l.row.toRowW d [] (λf C=>Za f C):=by
 refine Att.attach_call I i λw D E m mb e o pm cd ZA a C N G Y ho hd O y A L Q U=>?_;obtain⟨KX,hT⟩:=M w _ Y;obtain⟨p,W,Z,hF⟩:=F w m e _ KX G.T.g y;exact Af t KX G.T.g G.T.b G.T.builtins G.T.bmain G.T.nolimit U A L (Pm Q g) J hT (λT h=>Option.isNone_iff_eq_none.mp<|Pc.mp (j _) T h) Z hF W λH h1 h2=>r w H a N Q h1 h2
noncomputable def NA:PD:=.Constant .none 0 ⟨0,0,0,0⟩
noncomputable def NB:ab PQ->PD
 |.Return (gV e) _::_=>e
 |_=>NA
noncomputable def NC:PD->Nat->PD
 |.Call _ e _ _,i=>e.getD i NA
 |_,_=>NA
noncomputable def J_:PD->To
 |.Lambda a _ _ _=>a
 |_=>{posonlyargs:=[],args:=[],vararg:=Oa,kwonlyargs:=[],kw_defaults:=[],kwarg:=Oa,defaults:=[]}
noncomputable def Ka:PD->PD
 |.Lambda _ b _ _=>b
 |e=>e
noncomputable def Kb:PD->Sx
 |.Lambda _ _ s _=>s
 |_=>{kind:=.function,names:=[],isGenerator:=Oc,isCoroutine:=Oc}
noncomputable def ND:PD->Pos
 |.Lambda _ _ _ p=>p
 |_=>⟨0,0,0,0⟩
theorem Off.free(k:Off T H b)(t:TabAt b T p Q)(h:b a=Oa):H a=none:=by
 cases q:H a with
 |none=>rfl
 |some o=>
  obtain⟨P,e,y⟩:=t;have n:a≠T:=λz=>by lia
  rw[k a o n q]at h;cases h
theorem Off.same(k:Off T H h)(a:Same h c):Off T H c:=λb o n e=>a _ _<|k b o n e
theorem Off.at_(k:Off T H h)(t:TabAt H T P q)(e:H b=gV o)(n:∀p,o≠.tbl p):h b=gV o:=by
 refine k b o (λz=>?_) e;obtain⟨p,E,y⟩:=t;grind
theorem CapAt.less(c:CapAt H C v)(e:H b=gV u)(n:∀o,u≠cY b o):less H C b=gV u:=by
 obtain z|⟨o,z⟩:=aT C b
 ·rwa[bP z]
 rw[c.look b o z]at e;grind
mutual
theorem rL(k:∀b X,H b=gV (.lst X)->g b=gV (.lst X))(t:∀b X,H b=gV (.tup X)->g b=gV (.tup X)):∀d v,RD H d v->RD g d v
 |.none,v,h=>by unfold RD at h ⊢;exact h
 |.bool b,v,h=>by unfold RD at h ⊢;exact h
 |.int i,v,h=>by unfold RD at h ⊢;exact h
 |.str x,v,h=>by unfold RD at h ⊢;exact h
 |.list D,v,h=>by
  obtain⟨a,X,e,c,f⟩:=dC h;subst e;exact dm (k _ _ c)<|nZ k t D X f
 |.tuple D,v,h=>by
  obtain⟨a,X,e,c,f⟩:=ak h;subst e;exact bn (t _ _ c)<|nZ k t D X f
 |.dict _,v,h=>by
  unfold RD at h;exact h.elim
theorem nZ(k:∀b x,H b=gV (.lst x)->a b=gV (.lst x))(t:∀b x,H b=gV (.tup x)->a b=gV (.tup x)):∀D x,cJ H D x->cJ a D x
 |[],x,h=>by unfold cJ at h ⊢;exact h
 |d::D,x,h=>by
  unfold cJ at h ⊢;obtain⟨y,Y,e,c,f⟩:=h;exact⟨y,Y,e,rL k t d y c,nZ k t D Y f⟩
end
theorem CD(r:RD H d v)(k:Off T H h)(t:TabAt H T p q):RD h d v:=
 rL (λy y e=>k.at_ t e λy z=>nomatch z) (λy y e=>k.at_ t e λy z=>nomatch z) d v r
theorem Gn(r:RD H d v)(c:CapAt H C a):RD (less H C) d v:=
 rL (λy y e=>c.less e λy z=>nomatch z) (λy y e=>c.less e λy z=>nomatch z) d v r
end L2
namespace L2
theorem TabAt.start(h:H T=gV (.tbl #[])):TabAt H T p q:=⟨#[],h,trivial,λc e=>nomatch e⟩
end L2
namespace L2
open PySem
theorem Ag(Pv:Nat->St->ab V->Hp->Prop)(k:Pv 0 f [] (upd l D<|.lst []))(n:∀i b Y H,i<=X.length->Pv i b Y H->H D=gV (.lst Y)/\SqL K H a X)
  (s:∀i x b Y H t,X[i]?=gV x->Pv i b Y H->H t=Oa->g (.ref t) b (upd H t<|.tup [.int (i:Nat),x]) λd o=>T d o λc h=>if c=N7 then u d h λy j=>j D=gV (.lst Y)/\Y.length<sizeLine/\Pv (i+1) d (Y++[y]) (upd j D<|.lst<|Y++[y])else Pv (i+1) d Y h)
  (w:∀b Y H,Pv X.length b Y H->Q (.ref D) H):gQ (JR K a) D g T u f l Q:=by
 exists λi m b Y H=>m=X.length-i/\i<=X.length/\Pv i b Y H,⟨X.length,by simp,OG _,k⟩;rintro i m b Y H ⟨rfl,z,p⟩;obtain⟨A,q⟩:=n i b Y H z p;exists A;by_cases r:i<X.length
 ·refine .inr ⟨⟨X,X[i],q,by simp⟩,Pv<|i+1,λB C E P=>⟨X.length-(i+1),by lia,rfl,r,P⟩,λx E y=>?_⟩;obtain⟨t,v,F,rfl,rfl,y⟩:=y;exact s i v b Y H t (y X q) p F
 have e:i=X.length:=by lia
 subst e;exact .inl ⟨⟨X,q,N' _⟩,w b Y H p⟩
end L2
namespace OD
open PySem L2
noncomputable def lO(h:Oe)(l:Int)(left:ab Int):ab Int×Oe:=if h=N7 then(left,decide (0<l))else(left.map λz=>-z,decide (l<0))
noncomputable def n9:Oo->M' Nat
 |.tuple [.str w,.int z]=>if w=ay then gV z.toNat else Oa
 |_=>Oa
noncomputable def b8(d:ab Oo)(o:ab (ab Int))(k:Nat):ab Int:=match n9 (d.getD k .none)with
 |some i=>(o.getD i []).filter λl=>!(o.getD k []).contains l
 |none=>[]
noncomputable def cW(h:Oe)(left:ab Int)(v:Int)(L:ab Int):ab (ab Int×Oe):=(L.filter λl=>decide (absI l=v)).map λl=>lO h l left
noncomputable def bi(h:Oe)(d:ab Oo)(o:ab (ab Int))(v:Int):Nat->ab (ab Int×Oe)
 |0=>[]
 |n+1=>bi h d o v n++cW h (o.getD n []) v (b8 d o n)
theorem yh:∀{D:ab Oo} {s o:ab (ab Int)},aY t C H s D=(o,N7)->∃T,o=s++T/\T.length=D.length/\∀k d,D[k]?=gV d->aB t C H (s++T.take k) d=gV (T.getD k [])
 |[],s,o,h=>by
  cases h;simp
 |e::r,s,o,h=>by
  have a:(match aB t C H s e with|none=>(s,Oc)|some c=>aY t C H _ r)=(o,N7):=h;cases g:aB t C H s e with
  |none=>simp_all
  |some c=>
   rw[g]at a;obtain⟨T,b,f,i⟩:=yh a;refine⟨c::T,by simp_all,by simp_all,λk d E=>?_⟩;cases k with
   |zero=>
    simp_all
   |succ k=>
    have:=i k d E;rwa[O5]at this
theorem n_(h:aY t c w [] D=(o,N7))(a:D[k]?=gV d):aB t c w (o.take k) d=gV (o.getD k []):=by
 obtain⟨T,H,z,b⟩:=yh h;subst H;exact b k d a
theorem kJ(h:ay≠w)(n:Nat)(z:Int):bD w n (.tuple [.str ay,.int z])=false:=by
 show(decide _&&decide _)=Oc
 rw[Ob h,QU]
theorem iE:aB t c h s (.tuple [.str ay,.int z])=dW t h s (.int z):=by
 unfold aB;rw[kJ (by decide+kernel),kJ (by decide+kernel),QU,QU,Ox (show bD ay 2 _=N7 by show(decide (2=2)&&decide (ay=ay))=N7;simp)];rfl
theorem rN(h:aY t C w [] d=(o,N7))(a:d[k]?=gV (.tuple [.str ay,.int z])):
  ∃i:Nat,z=(i:Int)/\i<k/\k<o.length/\o.getD k []=aG t w (o.getD i []):=by
 have H:=n_ h a;have b:=bU h;have f:=(N8.mp a).1;rw[iE]at H;unfold dW at H;rw[OJ]at H;cases g:aS _ _ with
 |none=>rw[g]at H;cases H
 |some i=>
  rw[g]at H;obtain⟨j,e⟩:=aX g;cases e;have c:aG t w _=o.getD k []:=Oy H;rw[Rc,Qq]at b;refine⟨i,rfl,Pe j (ot _ _),by omega,?_⟩;rw[<-c]
  rw[N6,N6,P7<|by exact Pe j (ot _ _)]
theorem Ai(m:∀c∈C,al t.length c)(h:aY t C b [] D=(o,N7))(n:k<D.length)(H:l∈b8 D o k):absI l∈aJ t b:=by
 unfold b8 at H;have j:=getD_some (d:=P_) n;generalize D.getD k _=d at H j;unfold n9 at H
 split at H
 ·rename_i i e
  split at e
  ·split at e
   ·rename_i w z f;subst f;cases e;obtain⟨i,rfl,r,s,e⟩:=rN h j;obtain⟨a,p⟩:=OF.mp H;have ok:al t.length (o.getD i []):=by
     have:=eQ (w:=b) m (D:=D) (s:=[]) (by simp);rw[h]at this;exact eP this (VD r s)
    have q:l∉aG t b (o.getD i []):=by grind
    refine eH.mpr ⟨(ok.2 l a).1,(ok.2 l a).2,uD a (WV λg=>q<|OF.mpr ⟨a,On g⟩)⟩
   simp_all
  simp_all
 simp_all
theorem yi(d:1<=v):∀{c:ab Int},Ups c->c.filter (λl=>decide (absI l=v))=[v,-v].filter λl=>c.contains l
 |[],_=>rfl
 |x::c,h=>by
  have i:=yi d h.tail;rw[Rr];by_cases H:absI x=v
  ·have n:∀l∈c,absI l≠v:=λl a z=>by have:=h.head l a;simp_all
   have E:c.filter (λl=>decide _)=[]:=Qz.mpr λl a=>by simpa using n l a
   have A:absI v=v:=by unfold absI;lia
   have f:absI (-v)=v:=by unfold absI;lia
   have N:v∉c:=λz=>n v z A;have g:=λz=>n _ z f;rw[Ox<|On H,E];obtain e|e:=gi (H.trans A.symm)
   ·subst e;have C:(x::c).contains x=true:=by simp
    have b:(x::c).contains (-x)=false:=by
     grind
    rw[Rr,Ox C,Rr,Ov<|by rw[b];decide];rfl
   subst e;have C:(x::c).contains (-x)=false:=by
    have:(-x == x)=false:=PU.mpr (by lia);simp_all
   grind
  rw[Ov (by simpa using H),i];refine UH λl a=>?_;have:l≠x:=λz=>by
   subst z;obtain e|e:=OC.mp a
   ·exact H (by rw[e];unfold absI;lia)
   rw[Oi.mp e]at H;exact H (by unfold absI;lia)
  simp_all
end OD
namespace L2
open PySem
theorem Gq{g:TG}{T:TS}{D:iX}(B:X.length=n)(C:n<=Y.length)(Pv:Nat->St->Hp->Prop)(k:Pv 0 c H)(l:∀i c H,i<=n->Pv i c H->SqL K H a X/\SqL K H b Y)
  (s:∀i x y c H t,X[i]?=gV x->Y[i]?=gV y->Pv i c H->H t=Oa->g (.ref t) c (upd H t<|.tup [x,y]) λd j=>T {D with nx:=Pv<|i+1,ct:=Pv<|i+1,bk:=D.nx} d j) (o:∀c H,Pv n c H->D.nx c H):
  ∃W:Nat->Nat->St->Hp->Prop,(∃m,W 0 m c H)/\∀i m c H,W i m c H->
   ((J4 K a b).stop i H/\D.nx c H)\/((J4 K a b).go i H/\∃N:St->Hp->Prop,(∀f h,N f h->∃M,M<m/\W (i+1) M f h)/\∀x h,(J4 K a b).yld i H x h->g x c h λd j=>T {D with nx:=N,ct:=N,bk:=D.nx} d j):=by
 exists λi m c H=>m=n-i/\i<=n/\Pv i c H,⟨n,by simp,OG _,k⟩;rintro i m c H ⟨rfl,r,p⟩;obtain⟨q,Q⟩:=l i c H r p;by_cases w:i<n
 ·refine .inr ⟨⟨X,Y,X[i],Y[i],q,Q,N_ _,N_ _⟩,Pv<|i+1,λf h P=>⟨n-(i+1),ip w (Tq _),rfl,w,P⟩,λx h y=>?_⟩;obtain⟨t,u,v,z,rfl,rfl,E,A⟩:=y;exact s i u v c H t (E X q) (A Y Q) p z
 have e:i=n:=h7 r (hJ w)
 subst e;exact .inl ⟨⟨X,Y,q,Q,by simp_all⟩,o c H p⟩
end L2
namespace L2
open PySem PySem.Spec PyProof.Rows
def Gr:V->ab V->Hp->VK->Prop:=λx v H Q=>∃(d:Oo) (D:ab Oo) (y:V) (l:J') (X:ab V) (j:Nat),x=.ref l/\v=[y]/\H l=gV (.lst X)/\cJ H D X/\RD H d y/\d.canLay0=N7/\P1 D=N7/\d.depth<=60/\j<D.length/\O4 (D.getD j .none) d=N7/\(∀m,m<j->O4 (D.getD m .none) d=Oc)/\Q (.int j) H
theorem kK(O:X.A.units+64<R1):Lv X "list.index" Gr:=by
 intro T s U H x Y v us Q I p w h;obtain⟨D,d,y,l,xs,j,rfl,rfl,k,Z,g,A,C,c3,hj,hit,W,q⟩:=h;cases p;obtain⟨u,rfl,B⟩:=w.one;obtain⟨z,P,n,r,hl,e⟩:=I.lstM k;obtain⟨as,E⟩:=cA I D y u g B;obtain⟨bs,G⟩:=cA I _ _ _ (dm k Z) rfl;have b:∃c,ZS s.heap P d c:=by
  cases G with
  |list o h2 J L=>
   rw[e]at o;cases o;cases J;exact⟨_,by simpa using L⟩
 obtain⟨c,b⟩:=b;have i:ZS s.heap P.toArray.toList d c:=by simpa using b
 have a:=Zd d P c C b;have Ql:P.length=d.length:=by rw[<-a,A']
 have t:∀m f,O4 _ D=O4 (d.getD m _) D:=λm f=>by
  have:d.getD m .none=VA s.heap P[m]:=by
   rw[<-a,N6,Ow,N_ f];rfl
  rw[this]
 refine UU SJ ⟨_,e,rfl⟩ F.entry_list_index (F.args_list_index_2 _ _) (SeqAt.list_indexAt l _ n Oa #[] u (λy=>O4 _ D) j (by simp_all) ?_ ?_ ?_) ⟨e,aam i E C A (by lia),?_⟩
 ·have:=Qm;lia
 ·exact(t j<|by simp_all).trans hit
 ·intro m f N;exact(t m<|by assumption).trans<|W m N
 exact⟨.int j,H,I.tok _,⟨_,rfl⟩,q⟩
end L2
namespace DP
open PySem
section
variable {prog:Ou}{w:ON}{K:Type}[U' K]{knd:HeapKind prog w K}{A:Pw}{s:Od}
theorem Aj{E:K'->Od->Prop}{v:K'}{Q:K'->Od->Prop}(u:knd.room A)(N:knd.is s.heap k a)(o:s.heap.DictOfH knd d X)(H:X.length<=sizeLine)
  (q:∀p,Wc X k=gV p->Q p.2 {s with toks:=s.toks+knd.draws k})
  (r:Wc X k=Oa->∀h',h'.DictOfH knd d (qb X k a v)->RK d s.heap h'->Q v {s with heap:=h',toks:=s.toks+knd.draws k}):wpAny (OS prog w) A (X7 d (.ref a) v) Q E s:=by
 obtain⟨O,D,t,G,B,g,b,i,c⟩:=o;refine Qb<|B'<|knd.pyHash u N<|B'<|wpAny_dictFind_heap u N G g b i c (λn=>?_) λj p l=>?_
 ·have m:=atKey_none_of_get n;have e:=not_mem_keys_of_get n;have st:=storedH_new m a v;refine B'<|RU<|B'<|wpAny_updateDictKeys (hz:=by rwa[size_of_entries b]) G g<|Of<|r m _ (⟨_,_,t+1,Rh _ G<|Obj.isFreed_of_dict<|X' g _,B.mapDictKeys _,X' g _,?_,λx h=>?_,?_⟩) (Qo ..)
  ·rw[st];simp[b,entryOfKey]
  ·rw[st]at h;obtain z|z:=OH.mp h
   ·exact knd.keeps (i x z) G g (Qo ..)
   rw[Oi.mp z];exact knd.keeps N G g (Qo ..)
  rw[st,OI,Qj];exact⟨c,by simp,λx h y C z=>by
   have f:y=k:=by simpa using C
   subst z f;exact e h⟩
 refine B'<|wpAny_dictEntries G g ?_;rw[entry_at b j,l];exact B'<|RU<|Of<|q p<|atKey_of_get c l
theorem meetsH_setd(b:(d == Q2)=Oc)(v:K'):MeetsIn prog w (Builtin.«dict.setdefault» ⟨[.ref d,.ref a,v],[]⟩) (λA R s=>knd.room A.in1/\∃k x,knd.is s.heap k a/\s.heap.DictOfH knd d x/\x.length<=sizeLine/\
  (∀p,Wc x k=gV p->R (.ok<|.ret p.2) {s with toks:=s.toks+knd.draws k})/\
  (Wc x k=Oa->∀h',h'.DictOfH knd d (qb x k a v)->RK d s.heap h'->R (.ok<|.ret v) {s with heap:=h',toks:=s.toks+knd.draws k})):=by
 refine .of_wp λA R s h=>?_;obtain⟨u,k,x,N,m,z,c,e⟩:=h;refine B'<|B'<|XD m.typeIs<|Of ?_;show wpAny _ _ (if(d == Q2)=N7 then _ else(X7 d _ v >>=_)) _ _ s
 rw[b];exact B'<|Aj u N m z (λp f=>Of ⟨_,rfl,c p f⟩) λn h' h H=>Of ⟨v,rfl,e n h' h H⟩
end
end DP
namespace L2
open PySem PySem.Spec PyProof.Rows
def HW(H:Hp)(a:J')(y z:V)(Q:VK):Prop:=(∃v,DGet H a y (gV v)/\Q v H)\/(DGet H a y Oa/\∃h,DPut H a y z h/\Q z h)
theorem Mi(e:H a=gV (.dK k))(g:Rd H a (.dK A)):A=k:=by
 obtain g|⟨z,g⟩:=g
 ·simp_all
 simp_all
theorem Mj(e:H a=gV (.dT k))(g:Rd H a (.dT A)):A=k:=by
 obtain g|⟨z,g⟩:=g
 ·simp_all
 simp_all
theorem Kc{R:K'->Od->Prop}(hu:A.units+1<R1)(I:Inv X Og σ H s)(g:HW H a y z Q)(N:RelV y u)(O:RelV z r)(h:∀v U F s',Inv X Og σ U s'->RelV v F->Q v U->R F s'):
  wpAny (OS X.prog X.w) A (call (.builtin "dict.setdefault") [.ref a,u,r]) R E s:=by
 obtain⟨v,⟨d,k,e,w,l⟩|⟨d,k,b,e,w,G,l⟩,q⟩|⟨⟨d,k,e,w,l⟩|⟨d,k,b,e,w,G,l⟩,U,p,q⟩:=g
 ·subst w;obtain⟨Z,m,J,W,D⟩:=lG I.hok e;obtain⟨F,B,C⟩:=RelO.some_of (v:=v) (o:=V' J k) (by rw[l];exact W.val k);refine W4 QY D.typeIs Rz (Rm _ _ _) (YO (aZ X.prog X.w) a (jr N) m r) ⟨J,D,by rw[<-W.length];exact Z,λv2 j=>?_,λn=>?_⟩
  ·rw[B]at j;cases j;exact h v H F _ (I.tok _) C q
  rw[B]at n;cases n
 ·subst w;cases(N);obtain⟨Z,m,L,W,D⟩:=lH I.hok e;obtain⟨F,B,C⟩:=RelO.some_of (o:=(Wc L k).map _) (by rw[l];exact W.val k);refine W4 QY D.typeIs Rz (Rm _ _ _) (DP.meetsH_setd (knd:=VF<|aZ _ X.w) m r) ⟨RW hu,k,L,i_ I.hok G,D,by rwa[<-Paired.length W],λp hp=>?_,λn=>?_⟩
  ·rw[hp]at B;cases B;exact h v H _ _ (I.tok _) C q
  rw[n]at B;cases B
 ·subst w;obtain⟨Z,m,J,W,D⟩:=lG I.hok e;have n:=RelO.none_of (by rw[l];exact W.val k);obtain⟨Y,i,t,f,l2,P⟩|⟨Y,i,b2,t,f,V⟩:=p
  ·obtain rfl:=Mi t e;obtain rfl:k=i:=by cases k<;>cases i<;>cases f<;>rfl
   subst P;have hl:(cQ d k z).length<=sizeLine:=by have:=dA d k z;lia
   refine W4 QY D.typeIs Rz (Rm _ _ _) (YO (aZ _ X.w) a (jr N) m r) ⟨J,D,by rwa[<-W.length],λv2 j=>(by rw[n]at j;cases j),λV h' o hs=>?_⟩;have he:∃q,h'.get? a=gV q:=let ⟨q,_,_,T,_⟩:=o;⟨q,T⟩
   exact h z _ r _ (jt I (by rw[t];exact Q7) hs he<|rp hl m (W.put k O) o) O q
  cases k<;>cases f
 subst w;cases(N);obtain⟨Z,m,L,W,D⟩:=lH I.hok e;have n:(Wc L k).map _=none:=RelO.none_of (by rw[l];exact W.val k);obtain⟨Y,i,t,f,l2,P⟩|⟨Y,i,b2,t,f,M,l2,P⟩:=p
 ·cases i<;>cases f
 obtain rfl:=Mj t e;cases f;have ek:i=k:=by
  rw[G]at M;have e3:=HO.tup.inj<|Oy M;exact(Zs (λx y ac=>by cases x<;>cases y<;>cases ac<;>rfl)|>.mp e3).symm
 subst ek;subst P;have hl:(cQ d i z).length<=sizeLine:=by have:=dA d i z;lia
 refine W4 QY D.typeIs Rz (Rm _ _ _) (DP.meetsH_setd (knd:=VF<|aZ _ X.w) m r) ⟨RW hu,i,L,i_ I.hok G,D,by rwa[<-Paired.length W],λp hp=>(by rw[hp]at n;cases n),λV h' o hs=>?_⟩;obtain⟨q2,es,ep,T,g2,g3,g4,V,g5⟩:=o;have am:ObjOk X.prog X.w (upd H a<|.dT<|cQ d i z) h' a (.dT<|cQ d i z):=by
  refine⟨hl,m,_,(W.put i G O).keeps λc ys ec=>?_,q2,es,ep,T,g2,g3,g4,g5⟩;rwa[ag<|bp ec t (λz=>nomatch z)]
 exact h z _ r _ (jt I (by rw[t];exact Q7) hs ⟨q2,T⟩ am) O q
def Kd(t T c:TE):TE:=λb H Q=>t b H λx h=>∃a,x=.ref a/\NP h a/\T b h λy d=>c b d λz e=>HW e a y z Q
theorem CG(c:X.A.units+1<R1)(j:PE X o t)(k:PE X e T)(l:PE X f n)(m:M2 X o "setdefault" p e f Y):PE X (.Call (.Attribute o "setdefault" p) [e,f] [] Y) (Kd t T n):=by
 intro O s b H Q I h;refine wpAny_Call_method m.base m.few m.line PySem.F.plainAttrs_dict QY PySem.F.type_dict_setdefault<|bL (j O s b H _ I h) λu w V=>?_;obtain⟨x,A,i,B,a,E,d,C⟩:=V;subst E;obtain rfl:u=Px a:=B;obtain⟨D,F,S⟩:=JA i d;exists D,F;rw[m.trees];exact Uz rfl<|U8<|Ue<|bL (k O w b A _ i C) (by rintro iv G ⟨y,J,L,M,N⟩;exact Ue<|bL (l O G b J _ L N) (by rintro fv s3 ⟨z,H3,P,U,g⟩;exact Wf<|Kc c P g M U λv W w' s4 Z r q=>⟨v,W,Z,r,q⟩))
theorem CH(h:PE X k t)(H:PE X v T):PE X (.Dict [gV k] [v] p) (tQ [(t,T)]):=xw (mU h H xv) rfl rfl (aaA _ _) (by simp)
theorem uJ(h:PE X k a)(H:PE X v b)(U:PE X c t)(Z:PE X d T):PE X (.Dict [gV k,gV c] [v,d] p) (tQ [(a,b),(t,T)]):=xw (mU h H<|mU U Z xv) rfl rfl (aaA _ _) (by show 2<=15;decide)
theorem Ak{K:C'}{a:PD}{t:TE}(e:X.K=K)(b:PE X a t)(c:∀Y,isTrue a X.env Y=(do let v <-Y;YG a.pos;Wb [v] (truthy v))):
  PT X a (λd H Q=>t d H λx h=>∃k,Fp K x h k/\Q k h):=by
 subst e;exact tI b c
theorem Gs{K:C'}{e:PD}{f:Str}{p:Pos}{t:TE}(E:X.K=K)(h:PE X e t)(H:TL e f X.env (QA e X.env)=QA e X.env):PE X (.Attribute e f p) (Jn K t f):=by
 subst E;exact Bh h H
def Gu:V->ab V->Hp->VK->Prop:=λx v H Q=>∃(D:Oo) (s:ab Oo) (y:V) (l:J') (X:ab V),x=.ref l/\v=[y]/\H l=gV (.lst X)/\cJ H s X/\RD H D y/\D.canLay0=N7/\P1 s=N7/\D.depth<=60/\Q (.int ((s.countP λd=>O4 d D:Nat):Int)) H
theorem Al(J:X.A.units+64<R1):Lv X "list.count" Gu:=by
 intro O s L H x M v U Q I k m h;obtain⟨D,a,y,l,N,rfl,rfl,i,Z,f,o,C,T,q⟩:=h;cases k;obtain⟨u,rfl,p⟩:=m.one;obtain⟨z,P,n,r,W,e⟩:=I.lstM i;obtain⟨Y,t⟩:=cA I D y u f p;obtain⟨bs,w⟩:=cA I _ _ _ (dm i Z) rfl;have b:∃c,ZS s.heap P a c:=by
  cases w with
  |list j h2 B E=>
   rw[e]at j;cases j;cases B;exact⟨_,by simpa using E⟩
 obtain⟨c,b⟩:=b;have g:ZS s.heap P.toArray.toList a c:=by simpa using b
 have A:=Zd a P c C b;refine UU Yd ⟨_,e,rfl⟩ F.entry_list_count (F.args_list_count_2 _ _) (SeqAt.list_countAt l _ n Oa #[] u λy=>O4 _ D) ⟨e,aam g t C o (by lia),?_⟩;exists .int _,H,I.tok _,⟨_,rfl⟩;have:P.toArray.toList.countP (λy=>O4 (VA s.heap y) D)=a.countP λd=>O4 d D:=by
  rw[<-A,aa5];rfl
 rwa[this]
theorem Ke{P:Sem Oe}(G:yc X.prog X.w X.K X.mg X.base bw j C m f F b s)(H:PE X o t)(r:Room k X.A)(h:j<=k)
  (a:QA (.Call (.Attribute o m v) [] [] p) X.env=(do
   let O <-QA o X.env
   YG v.atName
   let (f,first) <-Wb [O] (WJ O m P)
   q7 p f first (RE p<|OW [] X.env) (X8 p<|U7 [] X.env)):=by rfl):
  PE X (.Call (.Attribute o m v) [] [] p) (tJ C m s [] E0 t vT):=Bk H G.cl G.me G.ok (r.mono h) G.b .nil xx a
theorem Gv:OpR X (PX .IsNot) (λx y H Q=>∃a b,x=.bl a/\y=.bl b/\Q (.bl (!(a == b))) H):=by
 rintro O s d H x y v u Q I r c ⟨a,b,rfl,rfl,q⟩;cases r;cases c;exact PySem.wpAny_isNot_plain rfl ⟨.bl _,H,I,by cases a<;>cases b<;>rfl,q⟩
end L2
namespace L2
open PySem PySem.Spec PyProof.Rows
theorem HX{N Q:ab Str}{s:Sx}(a:s.kind=.function:=by rfl)(b:s.isCoroutine=false:=by rfl)(c:s.isGenerator=false:=by rfl)(d:N.Nodup:=by decide+kernel)(e:N.take Q.length=Q:=by rfl)
  (f:∀x∈Q,s.names.lookup x=gV .local\/s.names.lookup x=gV .cell:=by decide+kernel) (g:∀y∈s.names,y.2≠.free:=by decide+kernel):ee N Q s:=⟨a,b,c,d,e,f,g⟩
theorem nD(l:ab Str)(h:l.Nodup:=by decide+kernel):l.Nodup:=h
theorem cS{X:Cx}{s:Sx}{C:ab (Str×J')}{N:ab Str}{I:ab (M' Nat)}(a:va s X.env=pure C:=by with_unfolding_all rfl)
  (b:AllIn (λy=>X.env.cells.lookup y) C:=by with_unfolding_all first|exact trivial|exact⟨rfl,trivial⟩|exact⟨rfl,rfl,trivial⟩|exact⟨rfl,rfl,rfl,trivial⟩|exact⟨rfl,rfl,rfl,rfl,trivial⟩)
  (c:∀n,((S3 s X.env).names.all λq=>!(decide (q.2=.cell) || decide (q.2=.free)) || ((PP n s.names C).lookup q.1).isSome)=true:=by exact λz=>by rfl)
  (d:((N.zip I).all λp=>match p.2 with
  |none=>N7
  |some i=>decide (X.N[i]?=gV p.1)&&(decide (X.env.kindOf p.1=gV .cell) || decide (X.env.kindOf p.1=gV .free))&&(decide ((S3 s X.env).names.lookup p.1=gV .cell) || decide ((S3 s X.env).names.lookup p.1=gV .free))&&(s.names.all λq=>!decide (q.2=.cell) || !decide (q.1=p.1)))=true:=by rfl)
  (e:I.length=N.length:=by rfl) (f:s.kind=.function:=by rfl) (g:∀y∈s.names,y.2=.local->s.names.lookup y.1=gV .local:=by decide):CompSc X s C N I:=⟨a,b,c,d,e,f,g⟩
theorem Fun.okA{P:Ou}{w:ON}{K:C'}{m:Str->M' K'}{b:Pd}{x:Str}{q:Str}{st:PQ}{f:J'}{d:Oz}{N:ab Str}{p:ab Str}{k:Nat}{a:Sp}(F:Fun K x q st f d)(S:ee N p (aD st))
  (h:∀c A o s H v Q E,Room k (A.deeper<|Rf q (aD st) s.heap.objs.size f c)->a v H Q E->
   ∃t,PSs (ri bw P w K m b N q (aD st) f c A o s H E).nox (cP st) t/\t {nx:=λz e=>Q .non e,rt:=Q} (start N v) H)
  (len:∀v H Q E,a v H Q E->v.length=p.length:=by intro z z z z h;repeat (first|(cases h<;>subst_vars<;>rfl)|obtain⟨z,h⟩:=h)):aA P w K m b bw (k+1) f d p a:=F.ok S len h
def Fe(P:Ou)(w:ON)(K:C')(m:Str->M' K')(b:Pd)(k:Nat)(x:Str)(s:Sp):Prop:=∃f F p,Fn P w K m b k x f F p s
theorem Fa{X:Cx}{j:Nat}{k:Nat}{s:Sp}{x:Str}{p:Pos}{P:Pos}{e:PD}{E:ab PD}{t:TA}(G:Fe X.prog X.w X.K X.mg X.base j x s)(r:Room k X.A)(a:PA X (e::E) t)(h:j<=k:=by lia)(g:Gl X x:=by rfl)(H:(x == ("__debug__":Str))=false:=by decide)
  (b:OW (e::E) X.env=(Oc,QA e X.env)::OW E X.env:=by rfl) (u:(RE P<|OW E X.env).any (·.1)=false:=by rfl):PE X (.Call (.Name x p) (e::E) [] P) (xq s [] E0 t):=by
 obtain⟨z,z,z,G⟩:=G;exact LR G r h g a H b u
section
variable {X:Cx}{pos:Pos}
theorem NS(h:PE X a t)(H:PE X b T)(s:rn b:=by exact λz z=>rfl):PE X (.Subscript a b pos) (Fj (Hz X.K) t T):=Hy Bo h H s
theorem CI{a:PD}{b:PD}{t:TE}{T:TE}{K:C'}(h:PE X a t)(H:PE X b T)(s:rn b:=by exact λz z=>rfl)(e:X.K=K:=by rfl):PE X (.Subscript a b pos) (Fj (Hz K) t T):=Hy (FR e) h H s
theorem lW{x:Str}(i:Nat)(h:X.N.Nodup)(H:X.N[i]?=gV x:=by exact nn) (a:IR X.env.scope x:=by exact Zk rfl) (f:X.fn x=N7\/X.env.scope.names.lookup x=gV .local:=by first|exact .inl rfl|exact .inr rfl|assumption):PG X (.Name x pos) (dH i):=xi h H a f
theorem Am(h:OpR X (PX o) r)(H:PE X a t)(c:PE X b T)(m:SN o b=false:=by exact Ba _):PE X (.Compare a [o] [b] pos) (Fj r t T):=l8 h H c m
theorem pK(h:OpR X (PX o) r)(H:PE X a t)(c:PE X b T)(m:SN o b=false:=by exact Ba _):PT X (.Compare a [o] [b] pos) (Bb<|Fj r t T):=dj h H c m
theorem fV(h:PE X e t)(H:OW [e] X.env=[(Oc,QA e X.env)]:=by rfl):PA X [e] (iR t vT):=aP h gU H
theorem oe(h:PE X E t)(H:PE X e T)(a:OW [E,e] X.env=(Oc,QA E X.env)::OW [e] X.env:=by rfl)(b:OW [e] X.env=[(Oc,QA e X.env)]:=by rfl):PA X [E,e] (iR t<|iR T vT):=aP h (aP H gU b) a
theorem bu{K:C'}{H:Hp}{q:J'}{s:ab V}{i:Int}{v:V}{Q:VK}(h:H q=gV (.tup s))(e:kq s i=gV v)(g:Q v H):Hz K (.ref q) (.int i) H Q:=.inr<|.inl ⟨q,s,i,v,rfl,rfl,SqT.of h,e,g⟩
theorem iG{K:C'}{H:Hp}{q:J'}{s:ab V}{i:Int}{v:V}{Q:VK}(h:H q=gV (.lst s))(e:kq s i=gV v)(g:Q v H):Hz K (.ref q) (.int i) H Q:=.inl ⟨q,s,i,v,rfl,rfl,SqL.of h,e,g⟩
theorem dX(h:PE X e t):PSs X [.Return (gV e) pos] (Fg t):=ax<|IU h
end
end L2
namespace OD
open PySem L2
def Kf(h:Oe)(s:ab Int)(b:ab Oe):Prop:=∀l∈s,hit b l=h
theorem wy:∀{n:Nat},r∈bi H d o v n->∃k,k<n/\r∈cW H (o.getD k []) v (b8 d o k)
 |0,h=>nomatch h
 |n+1,h=>by
  obtain h|h:=OH.mp h
  ·obtain⟨k,a,z⟩:=wy h;exact⟨k,QT a,z⟩
  exact⟨n,by simp,h⟩
theorem yj:∀{n k:Nat},k<n->(∃r∈cW H (o.getD k []) v (b8 d o k),p r=N7)->∃a r,a<=k/\r∈cW H (o.getD a []) v (b8 d o a)/\p r=N7/\(bi H d o v n).find? p=gV r
 |0,k,h,_=>by simp_all
 |n+1,k,h,⟨r,c,f⟩=>by
  show∃a r,a<=k/\_/\_/\(bi H d o v n++cW H _ v _).find? p=gV r
  rw[S7];by_cases i:k<n
  ·obtain⟨a,b,Z,z,j,l⟩:=yj i ⟨r,c,f⟩;exact⟨a,b,Z,z,j,by rw[l];rfl⟩
  have e:k=n:=by lia
  subst e;cases g:(bi H d o v k).find? p with
  |some b=>
   obtain⟨a,Z,z⟩:=wy<|QN g;exact⟨a,b,Pu Z,z,XA g,rfl⟩
  |none=>
   cases G:(cW H _ v<|b8 d o k).find? p with
   |none=>exact absurd f<|Rq.mp G r c
   |some b=>exact⟨k,b,N' _,QN G,XA G,rfl⟩
theorem rO(h:1<=absI l)(H:absI l<=(b.length:Int)):hit b (-l)=!hit b l:=by
 have e:absI (-l)=absI l:=by
  obtain⟨z,e⟩|⟨z,e⟩:=au l<;>obtain⟨z,E⟩|⟨z,E⟩:=au (-l)<;>lia
 have d:decide (0 < -l)=!decide (0<l):=by
  by_cases g:0<l
  ·rw[On g,Ob<|by lia];rfl
  rw[Ob g,On (by obtain⟨z,e⟩|⟨z,e⟩:=au l<;>lia)];rfl
 unfold hit;rw[e,d,N_ (by lia)];lia
theorem uK(h:hit (b.take n) l=N7):hit b l=true:=by
 by_cases g:(absI l-1).toNat<n
 ·unfold hit at h ⊢;rwa[P7 g]at h
 unfold hit at h;rw[Py<|by rw[OJ];exact Pm (ot _ _) (hJ g)]at h;cases h
theorem yk(h:(absI l-1).toNat<n):hit (b.take n) l=hit b l:=by
 unfold hit;rw[P7 h]
theorem An(h:bD w n d=N7):∃r,d=.tuple (.str w::r)/\r.length+1=n:=by
 cases d with
 |tuple D=>
  unfold bD at h;rw[Pj]at h;cases D with
  |nil=>cases h.2
  |cons x r=>
   have H:cb w x=true:=h.2;cases x with
   |str y=>
    have:=OO H;subst this;exact⟨r,rfl,OO h.1⟩
   |_=>cases H
 |_=>cases h
theorem CJ(n:∀c∈s,al t.length c)(h:aB t C w s d=gV c):
  (w=Oc/\c∈C)\/(w=N7/\∀k∈C,∃l∈c,l∈k)\/(∃i j z,i<s.length/\j<s.length/\1<=z/\z<=(t.length:Int)/\(∀l∈s.getD i [],l=z\/l∈c)/\∀l∈s.getD j [],l=-z\/l∈c)\/∃i,i<s.length/\n9 d=gV i/\c=aG t w (s.getD i []):=by
 unfold aB at h
 split at h
 ·rename_i o;rw[Pj]at o;unfold fi at h;obtain⟨i,e,rfl⟩:=PK.mp h;refine .inl ⟨by simpa using o.1,?_⟩;rw[N6,N_ (aX e).1];exact Q4 _
 split at h
 ·rename_i p;rw[Pj]at p;unfold fm at h
  split at h
  ·rename_i g;cases h;rw[Pj]at g;refine .inr<|.inl ⟨p.1,λk A=>?_⟩;obtain⟨l,H,b⟩:=O9.mp<|Pc.mp g.2 k A;exact⟨l,H,Oq.mp b⟩
  simp_all
 split at h
 ·unfold cX at h;cases E:aS s.length (hW d 1)with
  |none=>simp_all
  |some i=>
  cases a:aS s.length (hW d 2)with
  |none=>simp_all
  |some j=>
  rw[E,a]at h;cases u:hW d 3 with
  |int z=>
   rw[u]at h;have f:(if c_ t w (s.getD i []) (s.getD j []) z=N7 then gV (bT (s.getD i []) (s.getD j []) z)else Oa)=gV c:=h
   split at f
   ·rename_i g;cases f;have M:=n _ (show s.getD i []∈s by rw[N6,N_ (aX E).1];exact Q4 _);have v:=n _ (show s.getD j []∈s by rw[N6,N_ (aX a).1];exact Q4 _);unfold c_ at g;simp only[Pj,Oq,eH]at g;obtain⟨⟨B,G,_⟩,D,F,I⟩:=g;have J:cC (s.getD i []) (s.getD j []) z=false:=by
     lia
    have y:=(dE M.1 v.1 J).2;have Q:absI z=z:=bB (by lia);have e:absI (-z)=z:=by
     obtain⟨_,L⟩|⟨_,L⟩:=au (-z)<;>lia
    refine .inr<|.inr<|.inl ⟨i,j,z,(aX E).1,(aX a).1,B,G,λl H=>?_,λl H=>?_⟩
    ·by_cases q:absI l=z
     ·exact .inl (M.1.inj H D<|by simp_all)
     exact .inr<|(y l).mpr ⟨.inl H,q⟩
    by_cases q:absI l=z
    ·exact .inl (v.1.inj H F<|by simp_all)
    exact .inr<|(y l).mpr ⟨.inr H,q⟩
   simp_all
  |_=>simp_all
 split at h
 ·rename_i N;obtain⟨r,rfl,H⟩:=An N
  match r,H with
  |[x],_=>
   obtain⟨i,e,rfl⟩:=PK.mp h;obtain⟨O,P⟩:=aX e;have m:x=.int (i):=P;subst m;refine .inr<|.inr<|.inr ⟨i,O,?_,rfl⟩;rfl
 simp_all
theorem eix{z:Int}(h:1<=z):1+(((z-1).toNat:Nat):Int)=z:=by
 rw[Int.toNat_of_nonneg (Int.sub_nonneg_of_le h),Int.add_comm,Int.sub_add_cancel]
theorem Ao(hc:∀c∈Q,al t.length c)(y:aY t Q w [] D=(o,N7))(hl:B.length=t.length)
  (hp:∀i r,i<t.length->cu t i=w->(bi w D o (1+(i:Int)) D.length).find? (λr=>r.1.all<|hit<|B.take i)=gV r->B[i]?=gV r.2):∀k,k<o.length->Kf w (o.getD k []) B->nX Q B=w:=by
 have ac:o.length=D.length:=by
  have:=bU y;simpa using this
 have u:∀c∈o,al t.length c:=by
  have:=eQ (w:=w) hc (D:=D) (s:=[]) (by simp);rw[y]at this;exact this
 intro k
 induction k using Nat.strongRecOn with
 |ind k ih=>
 intro hk v;by_cases W:∃f,f<k/\Kf w (o.getD f []) B
 ·obtain⟨f,A,H⟩:=W;exact ih f A (VD A hk) H
 have A:=n_ y<|getD_some (d:=P_) (show k<D.length by exact Pe hk (UC ac));have C:∀{i:Nat},i<k->(o.take k).getD i []=o.getD i []:=λ{i} q=>by simp_all
 have X:(o.take k).length=k:=by grind
 have N:∀{f:Nat},f<k->¬Kf w (o.getD f []) B:=λh z=>W ⟨_,h,z⟩;obtain⟨rfl,h⟩|⟨rfl,h⟩|⟨i,j,z,q,E,hz,am,a,b⟩|⟨i,q,hd,e⟩:=CJ (λc h=>u c<|RB h) A
 ·refine Z6.mpr ⟨_,h,λz=>?_⟩;obtain⟨l,H,p⟩:=O9.mp z;rw[v l H]at p;cases p
 ·refine Pc.mpr λc Zz=>?_;obtain⟨l,H,p⟩:=h c Zz;exact O9.mpr ⟨l,p,v l H⟩
 ·rw[X]at q E;rw[C q]at a;rw[C E]at b;have az:absI z=z:=bB (by lia);have n:=rO (b:=B) (l:=z) (by simp_all) (by simp_all);exfalso;by_cases g:hit B z=w
  ·refine N q λl h=>?_;obtain rfl|h:=a l h
   ·exact g
   exact v l h
  refine N E λl h=>?_;obtain rfl|h:=b l h
  ·rw[n];revert g;cases hit B z<;>cases w<;>simp
  exact v l h
 rw[X]at q;rw[C q]at e;have ok:=eP u (show i<o.length by exact VD q hk);exfalso;refine N q λl m=>?_;by_cases U:l∈o.getD k []
 ·exact v l U
 have F:fC t w (o.getD i [])<absI l:=by
  refine WV λg=>U ?_;rw[e];exact OF.mpr ⟨m,On g⟩
 have O:=uD m F;have r1:=ok.2 l m;have ei:=eix r1.1
 have T:b8 D o k=(o.getD i []).filter λl=>!(o.getD k []).contains l:=by
  unfold b8;rw[hd]
 have Y:∀L∈o.getD k [],(absI L-1).toNat<(absI l-1).toNat:=λL H=>by
  rw[e]at H;have p:=OO (OF.mp H).2;have h4:=(ok.2 L (OF.mp H).1).1;lia
 have G:(lO w l<|o.getD k []).1.all (hit<|B.take (absI l-1).toNat)=true:=by
  refine Pc.mpr λL H=>?_;unfold lO at H
  split at H
  ·rename_i d;rw[yk<|Y L H,v L H,d]
  rename_i I;obtain⟨s,p,rfl⟩:=OK.mp H;have e3:absI (-s)=absI s:=by
   obtain⟨_,e⟩|⟨_,e⟩:=au s<;>obtain⟨_,e'⟩|⟨_,e'⟩:=au (-s)<;>lia
  have m3:s∈o.getD i []:=by
   rw[e]at p;exact(OF.mp p).1
  have r3:=ok.2 s m3;rw[yk (by rw[e3];exact Y s p),rO r3.1 (by simp_all),v s p];lia
 obtain⟨f,r,z1,z2,z3,z4⟩:=yj (H:=w) (d:=D) (o:=o) (v:=absI l) (p:=λr=>r.1.all<|hit<|B.take (absI l-1).toNat) (n:=D.length) (k:=k) (by simp_all)
  ⟨lO w l<|o.getD k [],OK.mpr ⟨l,by grind,rfl⟩,G⟩
 obtain⟨x,h5,rfl⟩:=OK.mp z2;obtain⟨h6,J⟩:=OF.mp h5;have J:=OO J;have ek:f=k:=by
  refine Nat.le_antisymm z1<|hJ λRH=>N RH λL H=>?_;have Z:=Pc.mp z3;unfold lO at Z;by_cases d:w=N7
  ·rw[Ox d]at Z;rw[uK<|Z L H,d]
  rw[Ov d]at Z;have h8:=uK<|Z (-L)<|OK.mpr ⟨L,H,rfl⟩;have M:=(eP u (show f<o.length by exact Ro z1 hk)).2 L H;rw[rO M.1<|by simp_all]at h8;lia
 subst ek;rw[T]at h6;have el:x=l:=ok.1.inj (OF.mp h6).1 m J;subst el;have P:=hp (absI x-1).toNat _ (by lia) O (by rw[ei];exact z4);unfold hit;rw[P];show(_ == decide (0<x))=w
 unfold lO;cases w with
 |true=>simp
 |false=>
  show(decide (x<0) == decide (0<x))=Oc
  obtain⟨_,e⟩|⟨_,e⟩:=au x
  ·rw[Ob (lF ‹_›),On<|by lia];rfl
  rw[On ‹_›,Ob<|by exact lF (Xq ‹_›)];rfl
theorem qD(a:∀c∈C,al t.length c)(f:aY t C h [] d=(o,N7))(g:[]∈o)(l:b.length=t.length)
  (p:∀i r,i<t.length->cu t i=h->(bi h d o (1+(i:Int)) d.length).find? (λr=>r.1.all<|hit<|b.take i)=gV r->b[i]?=gV r.2):nX C b=h:=by
 obtain⟨k,H,e⟩:=Sm g;refine Ao a f l p k H ?_;rw[N6,N_ H,e];exact λy z=>nomatch z
end OD
namespace L2
open PySem PySem.Spec PyProof.Rows
theorem rP{P:ab K'->Prop}(h:∀x u,u.length=n->P (x::u))(u:ab K')(e:u.length=n+1):P u:=by
 obtain⟨x,r,rfl⟩:=List.exists_cons_of_length_eq_add_one e;exact h x r<|Nat.succ.inj e
theorem rQ{P:ab K'->Prop}(h:P [])(u:ab K')(e:u.length=0):P u:=by
 simp_all
structure DA (mg:Str->M' K')(K:C')(x:Str)(st:PQ)(f:J')(fd:Oz):Prop where
 F:Fun K x x st f fd
 a:mg x=gV (.ref f)
structure DM (K:C')(C:J')(m q:Str)(st:PQ)(f:J')(fd:Oz):Prop where
 F:Fun K m q st f fd
 a:Pz K (.ref C) m=gV (gV<|.ref f)
 i:Vy K (.ref f)=N7
section
variable (P:Ou)(w:ON)(base:Pd){K:C'}{mg:Str->M' K'}{x m q:Str}{st:PQ}{f C:J'}{fd:Oz}{k:Nat}{ps:ab Str}{sp:Sp}
abbrev MW(x q:Str)(st:PQ)(ps:ab Str):Prop:=∀(kV Z p:K') (a:M' J') (Q c:K') (u:ab K'),u.length=ps.length->ZN (Ru x q (fq st) (cP st) (aD st) .none kV Z p a Q c) ⟨u,[]⟩=pure (ps.zip u)
theorem DA.of{h:Pd}(X:K.In h)(G:h.Ns O_ mg)(a:PH K O_ x=gV (gV<|.ref f))(F:Fun K x x st f fd):DA mg K x st f fd:=⟨F,SO X G a⟩
theorem DM.of(a:Pz K (.ref C) m=gV (gV<|.ref f))(i:Vy K (.ref f)=N7)(F:Fun K m q st f fd):DM K C m q st f fd:=⟨F,a,i⟩
theorem Fun.bs(F:Fun K x q st f fd)(b:MW x q st ps:=by intro z z z z z z;(repeat' refine rP λz=>?_);exact rQ rfl):Binds K fd ps []:=F.binds b
theorem DA.fn(D:DA mg K x st f fd)(ok:aA P w K mg base bw k f fd ps sp)(b:MW x x st ps:=by intro z z z z z z;(repeat' refine rP λz=>?_);exact rQ rfl):Fn P w K mg base k x f fd ps sp:=⟨ok,D.F.binds b,D.F.kp,D.a⟩
theorem DM.mt{c:Bj}(D:DM K C m q st f fd)(l:Cls K C)(ok:aA P w K mg base c k f fd ps sp)(b:MW m q st ps:=by intro z z z z z z;(repeat' refine rP λz=>?_);exact rQ rfl):yc P w K mg base c k C m f fd ps sp:=⟨ok,D.F.binds b,l,⟨D.a,D.i,D.F.kp⟩⟩
end
section
variable (P:Ou)(w:ON)(base:Pd)
theorem DA.fe{K:C'}{m:Str->M' K'}{x:Str}{st:PQ}{f:J'}{d:Oz}{k:Nat}{p:ab Str}{s:Sp}(D:DA m K x st f d)(ok:aA P w K m base bw k f d p s)(b:MW x x st p:=by intro z z z z z z;(repeat' refine rP λz=>?_);exact rQ rfl):Fe P w K m base k x s:=⟨_,_,_,ok,D.F.binds b,D.F.kp,D.a⟩
end
theorem funL_mk{K:C'}{x q:Str}{st:PQ}{f c:J'}{O:K'}{b a:M' J'}{o:Pi (M' K')}{kV Z p C:K'}(l:K.lookup f=gV ⟨O,b,.func<|Ru x q (fq st) (cP st) (aD st) .none kV Z p a (.ref c) C,o⟩)
  (d:Uw K (.ref c) q=N7):FunL K x q st f (Ru x q (fq st) (cP st) (aD st) .none kV Z p a (.ref c) C) c:=⟨O,b,kV,Z,p,a,C,o,rfl,l,d⟩
end L2
namespace OD
open PySem L2
theorem uL(m:MU 0 t.length C)(o:Oe)(g:ab Oe->Oe):∀f B,B.length+f=t.length->dG t C f B.length (jB B)=o->∃r,B.length+r.length=t.length/\nX C (B++r)=o/\∀i,B.length<=i->i<t.length->cu t i≠o->(B++r)[i]?=gV (g<|(B++r).take i)
 |0,B,h,e=>by
  have p:B.length=t.length:=h
  refine⟨[],h,?_,λi w w=>by lia⟩;have E:=e;rw[<-E,Pq];refine uE λc q=>eu λl H=>?_;have:=m c q l H;rw[FU (by lia) (by simp_all),p]
 |f+1,B,h,e=>by
  have E:(if cu t _=N7 then dG t C f _ _ || dG t C f _ _ else dG t C f _ _&&dG t C f _ _)=o:=e;have d:∃b,dG t C f (B.length+1) (2*jB B+if b=N7 then 1 else 0)=o/\(cu t B.length≠o->b=g B):=by
   cases x:dG t C f (B.length+1) (2*jB B)<;>cases y:dG t C f (B.length+1) (2*jB B+1)<;>cases z:cu t _<;>cases o<;>rw[x,y,z]at E<;>
    first|(cases E;done)|exact⟨Oc,x,λz=>absurd rfl z⟩|exact⟨N7,y,λz=>absurd rfl z⟩|exact⟨g B,by cases g B<;>assumption,λw=>rfl⟩
  obtain⟨b,s,u⟩:=d;obtain⟨r,v,n,j⟩:=uL m o g f (B++[b]) (by rw[N9,OL];exact Eq.trans (VT _ _ _) h) (by rwa[qj,N9]);rw[O5]at n j;rw[N9,OL]at v j;refine⟨[b]++r,by rw[N9,OL];lia,n,λi a k c=>?_⟩;obtain rfl|a:=SE a
  ·rw[abO,OP<|N' _,P3,u c];rfl
  exact j i a k c
theorem og(H:∀c∈C,al t.length c)(h:aY t C w [] d=(o,N7))(e:[]∈o):dG t C t.length 0 0=w:=by
 obtain⟨r,a,f,g⟩:=uL (λc Z l j=>by have:=(H c Z).2 l j;assumption) _ (λb=>match (bi w d o (1+(b.length)) _).find? λr=>r.1.all (hit b)with
  |some r=>r.2
  |none=>Oc) _ [] (Qq _) rfl
 refine V7 λn=>n<|f.symm.trans<|qD H h e ((Qq _).symm.trans a) λi q k m p=>?_;rw[g i (OG _) k λz=>n<|z.symm.trans m,OJ,Vj (by rw[T4];have:=(Qq _).symm.trans a;lia),p]
end OD
namespace L2
open PySem PySem.Spec PyProof.Rows
structure Bl (mg:Str->M' K'):Prop where
 len:mg "len"=Oa
 range:mg "range"=Oa
 tuple:mg "tuple"=Oa
 sorted:mg "sorted"=Oa
 isinstance:mg "isinstance"=Oa
 int:mg "int"=Oa
 bool:mg "bool"=Oa
 list:mg "list"=Oa
 abs:mg "abs"=Oa
 all:mg "all"=Oa
 zip:mg "zip"=Oa
 set:mg "set"=Oa
 any:mg "any"=Oa
 max:mg "max"=Oa
 enumerate:mg "enumerate"=Oa
 dict:mg "dict"=Oa
 min:mg "min"=Oa
 g_WISHER:qh mg "WISHER" (.str<|Oh "wisher")
 g_SPOILER:qh mg "SPOILER" (.str<|Oh "spoiler")
section
variable {X:Cx}{x:Str}{pos T7:Pos}
theorem sT{e:PD}{t:TE}(i:Nat)(h:PE X e t)(H:X.N.Nodup:=by exact ee.nd<|by assumption)(a:X.N[i]?=gV x:=by exact nn) (b:IR X.env.scope x:=by first|exact Zk rfl|exact Yo rfl) (s:VG e (gV<|.Name x T7) pos.line X.env=pure false:=by rfl) (f:X.fn x=N7\/X.env.scope.names.lookup x=gV .local:=by first|exact .inl rfl|exact .inr rfl|assumption):
  PS X (.Assign [.Name x T7] e pos) (IY t<|dH i):=IZ H a b h s f
theorem fS{I:PD}{w:TI}{t:TS}{b:ab PQ}(i:Nat)(h:PI X (.Name x T7) I w)(H:PSs X b t)(p:sy (OS X.prog X.w) X.A X.env X.xe:=by exact QX)(c:X.calm=true:=by rfl)(g:PG X (.Name x T7) (dH i):=by exact lW _<|ee.nd<|by assumption)(s:∀x,R6 I X.env x=pure x:=by intro z;rfl):
  PS X (.For (.Name x T7) I b [] pos) (Lf w (dH i) t):=kh p c h g H s
end
theorem oo'{p:Prop}(h:p:=by first|exact d_ (Room.units ‹_›)|exact mZ (Room.units ‹_›)|exact A_|exact xo|exact xn|exact pR|exact tG|exact Hv|exact vM|exact Jf|exact A9|exact Fo|exact Jg|exact Jh|exact Ji|exact Jj):p:=h
theorem gg{p:Prop}(h:p:=by
 repeat' (show(_:Prop);first
  |(show PSs _ _ _;first|refine' dX ?_|refine' ax ?_|refine' ae ?_ ?_|exact aN)
  |(show PS _ _ _;first|refine' bM ?_ ?_ ?_|refine' di ?_|refine' kn ?_ ?_ rfl|refine' sT _ ?_)
  |(show PA _ _ _;first|refine' aP ?_ ?_|exact gU)
  |(show PT _ _ _;first|refine' pK oo' ?_ ?_|refine' dj kr ?_ ?_ (by with_unfolding_all rfl)|refine' dj gD ?_ ?_ (by with_unfolding_all rfl)|refine' PW.pt (lu ?_ ?_)|refine' PW.pt (rf ?_ ?_)|refine' mK ?_|refine' re ?_)
  |(show PW _ _ _;first|refine' lu ?_ ?_|refine' rf ?_ ?_|refine' vH ?_|refine' xh ?_)
  |(show PG _ _ _;first|exact lW _ (ee.nd ‹_›)|refine' A7 rfl ?_)
  |(show IX _ _ _;first|refine' fz ?_ ?_|exact l7)
  |(show PI _ _ _ _;first|refine' zp rfl (Bl.range ‹_›) ?_|refine' zq rfl (Bl.range ‹_›) ?_|refine' zO rfl (Bl.range ‹_›) ?_|refine' FP rfl (Bl.enumerate ‹_›) ?_)
  |(show PO _ _ _;first|refine' xu ?_|exact l9)
  |(show PE _ (.Name _ _) _;first|exact pv _|exact cB rfl (Bl.g_WISHER ‹_›)|exact cB rfl (Bl.g_SPOILER ‹_›)|exact l5 (v:=.ty "bool") rfl (Bl.bool ‹_›) adn rfl|exact l5 (v:=.ty "int") rfl (Bl.int ‹_›) XO rfl|exact l5 (v:=.ty "tuple") rfl (Bl.tuple ‹_›) P2 rfl|exact l5 (v:=.ty "list") rfl (Bl.list ‹_›) UA rfl)
  |(show PE _ (.Call (.Name _ _) _ _ _) _;first|refine' Fa ‹_› ‹_› ?_|refine' aI cj rfl (Bl.len ‹_›) Qh ?_|refine' aI tU rfl (Bl.isinstance ‹_›) aa0 ?_|refine' aI Be rfl (Bl.abs ‹_›) XQ ?_|refine' aI (m9 rfl) rfl (Bl.any ‹_›) UM ?_|refine' aI (g_ rfl) rfl (Bl.all ‹_›) RZ ?_|refine' bF bH rfl (Bl.tuple ‹_›) P2 ?_|refine' bF jq rfl (Bl.list ‹_›) UA ?_|refine' bF zt rfl (Bl.int ‹_›) XO ?_|refine' Me ‹_› ‹_› (by lia) rfl ?_)
  |(show PE _ (.Call _ _ _ _) _;first|refine' fL Pl Qp QD dz ?_ ?_|refine' Ju Pl Ud XI Jv ?_|refine' nY ‹_› ?_ ‹_› (by lia) ?_|refine' Ke ‹_› ?_ ‹_› (by lia))
  |(show PE _ (.BinOp _ _ _ _) _;first|refine' eU oo' ?_ ?_)
  |(show PE _ (.Compare _ _ _ _) _;first|refine' Am oo' ?_ ?_|refine' l8 kr ?_ ?_ (by with_unfolding_all rfl)|refine' l8 gD ?_ ?_ (by with_unfolding_all rfl))
  |(show PE _ _ _;first|exact bW|refine' NS ?_ ?_|exact gT|exact fj|exact ke|refine' dI ?_|refine' Bi ?_|refine' Bh ?_ rfl|refine' rh ?_ ?_|refine' K5 ?_ ?_|refine' rg ?_|refine' IT ?_|refine' Lg Jk ?_|refine' mL ?_ ?_ ?_)
  )):p:=h
theorem Fun.okB{P:Ou}{w:ON}{K:C'}{m:Str->M' K'}{b:Pd}{x q:Str}{st:PQ}{f:J'}{d:Oz}{N p:ab Str}{k:Nat}{a:Sp}(F:Fun K x q st f d)
  (h:∀c A o s H v Q E,ee N p (aD st)->Room k (A.deeper<|Rf q (aD st) s.heap.objs.size f c)->a v H Q E->
   ∃t,PSs (ri bw P w K m b N q (aD st) f c A o s H E).nox (cP st) t/\t {nx:=λy e=>Q .non e,rt:=Q} (start N v) H)
  (S:ee N p (aD st):=by exact HX) (len:∀v H Q E,a v H Q E->v.length=p.length:=by intro y y y y h;repeat (first|(cases h<;>subst_vars<;>rfl)|obtain⟨y,h⟩:=h)):aA P w K m b bw (k+1) f d p a:=F.okA S (λy y y y y y y y r z=>h _ _ _ _ _ _ _ _ S r z) len
section
variable {X:Cx}{x:Str}{elt iter:PD}{te:TE}{tt:TT}{wi:TI}{pos T7:Pos}{ifs:ab PD}{scope:Sx}{cl:ab (Str×J')}
theorem gS(N:ab Str)(i:ab (M' Nat))(a:PI X (.Name x T7) iter wi)(S:CompSc X scope cl N i:=by exact cS)(t:∀C f s H,JQ (bY X scope cl N C f s H) ifs tt:=by intro z z z z;first|exact iy|exact cI gg)(e:∀C f s H,PE (bY X scope cl N C f s H) elt te:=by intro z z z z;exact gg)(c:X.calm=true:=by rfl)
  (n:N.Nodup:=by decide+kernel) (g:∀C f s H,(bY X scope cl N C f s H).N.Nodup->PG (bY X scope cl N C f s H) (.Name x T7) (dH 0):=by exact λz z z z h=>lW 0 h) (b:∀x,R6 iter X.env x=pure x:=by intro z;rfl):PE X (.ListComp elt [⟨.Name x T7,iter,ifs,0⟩] scope pos) (tV i wi (dH 0) tt te):=jx c S a (λz z z z=>g _ _ _ _ n) t e b
theorem Ml{q:Pos}{a:Pos}{y:Str}(i:Nat)(N:ab Str)(I:ab (M' Nat))(b:PI X (.Name x T7) iter wi)(S:CompSc X scope cl N I:=by exact cS)(t:∀C f s H,JQ (bY X scope cl N C f s H) ifs tt:=by intro z z z z;first|exact iy|exact cI gg)(e:∀C f s H,PE (bY X scope cl N C f s H) elt te:=by intro z z z z;exact gg)(c:X.N.Nodup:=by exact ee.nd<|by assumption)(d:X.N[i]?=gV y:=by rfl) (l:X.env.scope.names.lookup y=gV .local:=by rfl) (g:X.calm=true:=by rfl)
  (n:N.Nodup:=by decide+kernel) (j:∀C f s H,(bY X scope cl N C f s H).N.Nodup->PG (bY X scope cl N C f s H) (.Name x T7) (dH 0):=by exact λz z z z h=>lW 0 h) (w:VG (.ListComp elt [⟨.Name x T7,iter,ifs,0⟩] scope pos) (gV<|.Name y q) a.line X.env=pure true:=by with_unfolding_all rfl) (k:∀x,R6 iter X.env x=pure x:=by intro z;rfl):
  PS X (.Assign [.Name y q] (.ListComp elt [⟨.Name x T7,iter,ifs,0⟩] scope pos) a) (tY i<|tV I wi (dH 0) tt te):=we c d l g S b (λz z z z=>j _ _ _ _ n) t e w k
end
end L2
namespace K35
open PySem L2 OD
seal PE PS PSs PA PT PG IX PI PO PW OpR PX Sq
noncomputable def cD(i:Nat):PQ:=PySem.Challenge.pw_oathduel_k35_whole_plans_win.main.body.getD i<|.Pass ⟨0,0,0,0⟩
noncomputable abbrev CK:PQ:=cD 64
noncomputable abbrev Mm:PQ:=cD 65
noncomputable abbrev CM:PQ:=cD 66
noncomputable abbrev HY:PQ:=cD 67
noncomputable def e_(n:ab Int)(k:Int):Int:=n.getD k.toNat 0
noncomputable def Ap(c k:Int)(b:Oe):Int:=if b=N7 then((c*48271+k*69621+11)%2147483629*((c*48271+k*69621+11)%2147483629)%2147483587)*((c*48271+k*69621+11)%2147483629*((c*48271+k*69621+11)%2147483629)%2147483587)%2147483563 else c
inductive rR (K:C')(vs:ab V)(H:Hp)(Q:VK)(E:XK):Prop
 |mk (a:J')(ns:ab Int)(k:Int)(h0:vs=[.ref a,.int k])(h:SqL K H a (ns.map V.int))(b:0<=k)(c:Q (.int<|e_ ns k) H)
inductive yl (vs:ab V)(H:Hp)(Q:VK)(E:XK):Prop
 |mk (c k:Int)(b:Oe)(h0:vs=[.int c,.int k,.bl b])(h:Q (.int<|Ap c k b) H)
def CN(n:Int)(H:Hp)(Q:VK):Prop:=∀(p:J') (l:ab Int) (h:Hp),Same H h->h p=gV (.tup<|l.map V.int)->ClOk n l->l.length<=4->Q (.ref p) h
def ym:Sp:=λv H Q _=>∃c n:Int,v=[.int c,.int n]/\0<=n/\n<1000/\CN n H Q
inductive wz (K:C')(vs:ab V)(H:Hp)(Q:VK)(E:XK):Prop
 |mk (a:J')(ns:ab Int)(most:Int)(h0:vs=[.ref a,.int most])(b:SqL K H a (ns.map V.int))(d:ns.length<=63)(e:0<=most)(f:most<20)(g:∀(p:J') (t:Str) (cs:ab (ab Int)) (h:Hp),Same H h->RD h (jz t cs) (.ref p)->SOk most t cs->(∀c∈cs,c.length<=4)->Q (.ref p) h)
noncomputable def CO(s:Int):Int:=if s=0 then 1 else -1
noncomputable def jN(p:ab (Int×Int)):ab (Int×Int):=p.map λq=>(q.1,CO q.2)
theorem CQ(p:ab (Int×Int))(k s:Int):jN (pH p k s)=pH (jN p) k (CO s):=by
 have e:((jN p).any λq=>decide (q.1=k))=(p.any λq=>decide (q.1=k)):=by
  unfold jN;rw[Tu];rfl
 unfold pH;rw[e]
 split
 ·unfold jN;rw[OY,OY];refine QQ λq z=>?_;lia
 unfold jN;rw[OI];rfl
theorem Aq(p:ab (Int×Int))(k:Int):iV (jN p) k=(iV p k).map CO:=by
 induction p with
 |nil=>rfl
 |cons q r i=>
  unfold jN at i ⊢;unfold iV at i ⊢;rw[OU,P8,P8];by_cases h:q.1=k
  ·simp[h]
  simp only[h];exact i
theorem qE(p:ab (Int×Int)):(jN p).map (·.1)=p.map (·.1):=by
 unfold jN;rw[OY];rfl
theorem wA(s:Int):CO s=1\/CO s=-1:=by
 unfold CO
 lia
theorem Kg(h:r=0\/r=1):kq [V.int 1,V.int (-1)] r=gV (.int<|CO r):=by
 obtain rfl|rfl:=h<;>rfl
theorem Kh:ee ["_law_script","_law_k"] ["_law_script","_law_k"] (aD CK):=HX
theorem Gw(F:Fun K "_law_cell_at" "_law_cell_at" CK f g)(T:Bl m):aA P w K m B bw 1 f g ["_law_script","_law_k"] (rR K):=by
 refine F.okA Kh λl A o s H p Q E r h=>?_;obtain⟨a,n,k,rfl,d,i,q⟩:=h;exists _,gg;exists _,rfl,_,rfl,.ref a,_,rfl,.inl ⟨_,d,rfl⟩,_,_,rfl,rfl,_,rfl;refine g8 (λc=>?_) λc=>?_
 ·have C:k<(((n.map _).length):Int):=OO c;rw[A']at C;obtain⟨v,b,j⟩:=BI i C;have e:e_ n k=v:=by
   unfold e_;rw[N6,b];rfl
  rw[e]at q;exact⟨_,rfl,_,rfl,.inl ⟨a,_,k,.int v,rfl,rfl,d,j,q⟩⟩
 have C:¬k<(((n.map _).length):Int):=λz=>c<|On z;rw[A']at C;have e:e_ n k=0:=by
  unfold e_;simp_all
 rwa[e]at q
theorem Ki(F:Fun K "_law_mix" "_law_mix" Mm f d):aA P w K m B bw 1 f d ["_law_cell","_law_k","_law_mixed"] yl:=by
 refine F.okB (N:=["_law_cell","_law_k","_law_mixed","_law_number_here"]) λa A o s H v Q E e r h=>?_;obtain⟨c,k,b,rfl,q⟩:=h;exists _,gg;exists _,rfl,_,rfl;cases b with
 |false=>exact aq ⟨_,rfl,q⟩
 |true=>
  exists _,rfl,_,_,rfl,rfl,.inr (by simp),_,rfl,_,_,rfl,rfl,.inr (by simp),_,_,rfl,rfl,_,_,rfl,rfl,_,_,rfl,rfl,(by simp);exists _,rfl,_,rfl,_,_,rfl,rfl,.inl (by grind),_,_,rfl,rfl,(by simp);exact⟨_,rfl,_,rfl,_,_,rfl,rfl,.inl ⟨by lia,by lia⟩,_,_,rfl,rfl,(by simp),q⟩
inductive uM (n:Int)(d:J')(c:Int)(H:Hp)(i:Nat)(a:ab (M' V))(h:Hp):Prop
 |mk (C:Int)(p:ab (Int×Int))(j:M' V)(I:a=[gV<|.int C,gV<|.int n,gV<|.ref d,gV<|.int<|c%5,j])(b:h d=gV (.dK<|dP p))(e:Same H h)(f:DOk n (jN p))(g:(∀z∈p,z.2=0\/z.2=1))(k:p.length<=i)
inductive uN (d:J')(ks:ab Int)(p:ab (Int×Int))(D:J')(h:Hp)(i:Nat)(a:ab (M' V))(ys:ab V)(H:Hp):Prop
 |mk (I:(∃v,a=[v,gV (.ref d)]))(c:ys=((ks.take i).map λk=>V.int<|k*JW (jN p) k))(e:H D=gV (.lst ys))(f:(∀b o,b≠D->h b=gV o->H b=gV o))
theorem CT(F:Fun K "_law_drawn" "_law_drawn" CM f fd)(T:Bl mg):aA P w K mg aL bw 1 f fd ["_law_number_here","_law_count"] ym:=by
 refine F.okB (N:=["_law_number_here","_law_count","_law_signs","_law_size","_law_k"]) λQ_ A ac s H vs Q E sc hr h=>?_;obtain⟨c,n,rfl,n0,n1,q⟩:=h;have hu:=hr.units;have WZ:=p9 hr;refine⟨_,(ae (sT 2 Bu)
  (ae gg
  (ae gg
  (ae (fS 4 gg (ax (bM gg (ae (rq WZ (pv 2) gg gg rfl)
    gg) aN)))
  (dX<|bF bH rfl T.tuple P2<|fV<|gS ["_law_variable","_law_signs"] [Oa,gV 2] (aH<|aI (t5 rfl) rfl T.sorted Uq<|fV<|pv 2) (e:=λS S S S=>(eU A9 (pv 0)<|CI (K:=K) gg<|bS WZ (pv 1) (pv 0) λS S=>rfl))))))),?_⟩
 intro d hd;have c5:=Q0 c (show(5:Int)≠0 by decide);have a0:=QI c (show(0:Int)<5 by decide);exists _,rfl,_,_,rfl,rfl,(by show(0:Int)<5;decide),_,rfl,_,_,rfl,rfl,⟨by decide,by decide⟩;refine⟨_,rfl,c%5,rfl,(by lia),(abg a0 (by decide)),d9 (lo:=0) (n:=(c%5).toNat)
  (uM n d c H)
  ⟨_,[],Oa,rfl,aa,ad hd _,DOk.nil n,(λS z=>nomatch z),N' _⟩ ?_ ?_⟩
 ·rintro i X Z hi ⟨C,p,jv,rfl,Y,J,a,j,hl⟩;refine⟨_,rfl,_,_,rfl,rfl,_,rfl,g8 (λg=>?_) λg=>?_⟩
  ·have g':0<n:=OO g;have m1:=Q0 C (show n≠0 by lia);have m2:=QI C g';have s1:=Q0 (C/n) (show(2:Int)≠0 by decide);have s2:=QI (C/n) (show(0:Int)<2 by decide);exists _,rfl,_,rfl,_,_,rfl,rfl,⟨g',abg n1 (by decide)⟩,_,_,rfl,rfl,(by show(0:Int)<2;decide);exists _,rfl,_,rfl,_,rfl,_,_,rfl,rfl,g',_,_,rfl,rfl,d,_,rfl,DPut.k (k:=Pb (1+C%n)) Y (by unfold dP;rw[A'];exact ap<|by lia);exists _,rfl,_,rfl,_,_,rfl,rfl,.inl ⟨by decide,by decide⟩,_,_,rfl,rfl,⟨by lia,by lia⟩;obtain⟨o1,o2⟩:=a.put (k:=1+C%n) (s:=CO<|C/n%2) (by lia)<|wA _;rw[<-CQ]at o1 o2;have ml:∀l,(jN l).length=l.length:=λl=>A' _;rw[ml,ml]at o2;refine⟨_,pH p (1+C%n)<|C/n%2,_,rfl,?_,J.upd_new hd _,o1,λz hz=>?_,by lia⟩
   ·rw[aa];exact Pa (λz=>gV<|HO.dK z)<|JU _ _ _
   unfold pH at hz
   split at hz
   ·obtain⟨y,hy,e⟩:=OK.mp hz
    split at e
    ·rw[<-e];show C/n%2=0\/C/n%2=1
     lia
    rw[<-e];exact j y hy
   obtain y|y:=OH.mp hz
   ·exact j z y
   rw[Oi.mp y];show C/n%2=0\/C/n%2=1
   lia
  exact⟨C,p,_,rfl,Y,J,a,j,Wj hl⟩
 rintro X Z ⟨C,p,jv,rfl,Y,J,a,j,hl⟩;refine⟨_,rfl,d,dP p,p.map (·.1),rfl,Y,FS p,by rw[A'];lia,λl m L v am=>⟨l,rfl,⟨_,SqL.of aa⟩,λD hD=>?_⟩⟩;have a1:m.length=p.length:=by rw[v.length_eq,A']
 have k3:=J.upd_new (J.free L)<|.lst<|m.map V.int;have u:upd Z l (.lst<|m.map V.int) d=gV (.dK<|dP p):=by rw[ag<|af Y L];exact Y
 have B:=@aa Z l (.lst<|m.map V.int);generalize upd Z l (.lst<|m.map V.int)=H3 at k3 u B hD;refine bv (K:=K) (a:=l) (xs:=m.map V.int) (uN d m p D H3)
  ⟨⟨Oa,rfl⟩,rfl,aa,λb o hb e=>by rw[ag hb];exact e⟩ ?_ ?_ ?_
 ·rintro i X M N S ⟨S,S,I,G⟩;exact⟨I,SqL.of<|G _ _ (af B hD) B⟩
 ·rintro i x X M N hx ⟨⟨v0,rfl⟩,O,I,G⟩;obtain⟨k,rfl,hk⟩:=cK hx;have km:k∈p.map (·.1):=v.mem_iff.mp<|N5 hk;obtain⟨U,a2⟩:=a.look (k:=k) (by rw[qE];exact km);rw[Aq]at U;obtain⟨r,XT,an⟩:=PK.mp U;have as:r=0\/r=1:=by
   unfold iV at XT;obtain⟨y,av,az⟩:=PK.mp XT;rw[<-az];exact j y<|QN av
  have V2:i<m.length:=(N8.mp hk).1;have a3:M.length<=60:=by
   rw[O,A',OJ];lia
  have nd:d≠D:=af u hD;refine bV ⟨_,rfl,_,rfl,(by show 2<=sizeLine;decide),λe he=>?_⟩;have aC:upd N e (.lst [.int 1,.int (-1)]) d=gV (.dK<|dP p):=by rw[ag<|af (G _ _ nd u) he];exact G _ _ nd u
  have hv:DGet (upd N e<|.lst [.int 1,.int (-1)]) d (.int k) (gV<|.int r):=by
   have z:=DGet.k (k:=Pb k) aC;rw[JV,XT]at z;exact z
  refine⟨_,rfl,_,rfl,d,_,rfl,hv,(iG aa (Kg as) ⟨_,_,rfl,rfl,.inr ⟨?_,?_⟩,?_,ap (Pm a3 (by decide)),⟨_,rfl⟩,?_,aa,λb o hb eb=>?_⟩)⟩
  ·obtain z|z:=wA r<;>rw[z]<;>decide
  ·obtain z|z:=wA r<;>rw[z]<;>decide
  ·rw[ag<|af I he];exact I
  ·rw[O,OM,hk,OI,an];rfl
  have W:=G b o hb eb;rw[ag hb,ag<|af W he];exact W
 rintro X M N ⟨S,O,I,G⟩;rw[A',Ol<|N' _]at O;have aF:M=(m.map λk=>k*JW (jN p) k).map V.int:=by rw[O,OY];rfl
 refine⟨D,M,rfl,.inl ⟨SqL.of I,λt ht=>?_⟩⟩;have nH:=k3.free hD;have k4:Same H N:=λb o e=>G b o (af e nH)<|k3 b o e;refine q t _ _ (k4.upd_new (k4.free ht) _) (by rw[aa,aF]) (a.clause (by rwa[qE]) am) ?_;rw[A'];lia
theorem xqx(a n:Nat):min (a+12) n-min a n<=12:=Nat.sub_le_of_le_add (by rw[Nat.add_comm 12,<-Nat.add_min_add_right];exact Nat.le_min.2 ⟨ot _ _,Pm (Nat.min_le_right _ _) (U1 _ _)⟩)
theorem Gx{n:ab Int}:(cZ (n.map V.int) (gV 3)<|gV 15).length<=12:=by
 unfold cZ;have e:HT.sIx (n.map V.int).length 0 (gV 3)=min 3 _:=rfl;rw[e,OJ];exact Pm (ot _ _) (xqx 3 _)
theorem iH(h:∀N,(∀a c,B D a c->N a c)->A {D with nx:=N} b H):zn A B D b H:=h _ λy y z=>z
inductive qF (a:J')(most:Int)(first:Int)(ns:ab Int)(q:J')(p:J')(H:Hp)(r:Int)(i:Nat)(b:ab (M' V))(h:Hp):Prop
 |mk (xs:ab V)(cs:ab (ab Int))(v:M' V)(I:b=[gV<|.ref a,gV<|.int most,gV<|.int first,gV<|.int (first/2%(most+1)),gV<|.int<|Ap (e_ ns 1) 1 (decide (V.int (first%2)=V.int 1)),gV<|.int<|e_ ns 2/7,gV<|.ref q,v,Oa])(d:h q=gV (.lst xs))(e:h p=gV (.lst<|cZ (ns.map V.int) (gV 3)<|gV 15))(f:CLs h cs xs)(g:Same H h)(j:cs.length=i)(k:∀c∈cs,ClOk r c/\c.length<=4)
inductive qG (r:Int)(H:Hp)(D:J')(i:Nat)(a:ab (M' V))(ys:ab V)(h:Hp):Prop
 |mk (I:(∃v,a=[v,gV<|.int r]))(b:(∃ss:ab Str,ys=ss.map V.str/\ss.length=i/\∀s∈ss,nc s))(c:h=upd H D (.lst ys))
inductive kL (ns:ab Int)(D:J')(H:Hp)(q:J')(xs:ab V)(cs:ab (ab Int))(r:Int)(i:Nat)(a:ab (M' V))(ys:ab V)(h:Hp):Prop
 |mk (I:(∃v,a=[v,gV<|.int<|e_ ns 2/7]))(b:h D=gV (.lst ys))(d:Same H h)(e:h q=gV (.lst xs))(f:CLs h cs xs)(C:ab (ab Int))(g:C.length<=i)(j:CLs h C ys)(k:∀c∈C,ClOk r c/\c.length<=4)
theorem Gy(F:Fun K "_law_sentence" "_law_sentence" HY f fd)(T:Bl mg)(bc:Fe P w K mg B 1 "_law_cell_at" (rR K))(bd:Fe P w K mg B 1 "_law_mix" yl)
  (bf:Fe P w K mg B 1 "_law_drawn" ym):aA P w K mg B bw 2 f fd ["_law_script","_law_most"] (wz K):=by
 refine F.okB (N:=["_law_script","_law_most","_law_first","_law_count","_law_turn","_law_odd","_law_clauses","_law_cell","_law_turns"]) λQ_ A a2 s H vs Q E sc hr h=>?_;obtain⟨a,n,m,rfl,hS,bg,o0,o1,q⟩:=h;refine⟨_,(ae gg
  (ae gg
  (ae gg
  (ae gg
  (ae gg
  (ae (fS 7 (aH<|gW l_ (pv 0) gg gg) gg)
  (ae gg
  (ae (sT 8<|fL PySem.F.plainAttrs_str PySem.F.slot_str_join PySem.F.type_str_join FO gT<|fV<|gS ["_law_k","_law_turn"] [Oa,gV 4] gg (e:=λS S S S=>(CI (K:=K) gT gg)))
  (dX<|dI<|oe (pv 8)<|gS ["_law_clause","_law_odd"] [Oa,gV 5] (aH<|pv 6) (t:=λS S S S=>(cI<|PW.pt<|lu (pK tG (aI (qf (K:=K) rfl) rfl T.len Qh<|fV<|pv 0) bW) gg))))))))))),?_⟩
 exists _,rfl,a,n,0,rfl,hS,Um 0;generalize e_ n 0=first
 exists _,rfl,_,_,rfl,rfl,⟨by decide,by decide⟩,_,rfl,_,_,rfl,rfl,_,_,rfl,rfl,(by show(0:Int)<m+1;lia);have x0:=Q0 (first/2) (show m+1≠0 by lia);have x1:=QI (first/2) (show 0<m+1 by lia);refine⟨_,rfl,a,n,1,rfl,hS,(by decide),_,rfl,_,_,rfl,rfl,(by show(0:Int)<2;decide),.inl ⟨rfl,_,_,_,rfl,?_⟩⟩;exists _,rfl,a,n,2,rfl,hS,(by decide),_,_,rfl,rfl,⟨by decide,by decide⟩;refine⟨OG _,λd p=>?_⟩;have am:H d=none:=p;have l:∃W,first/2%(m+1)=W:=⟨_,rfl⟩
 obtain⟨W,l⟩:=l;rw[l]at x0 x1;refine⟨_,rfl,3,rfl,15,rfl,a,_,rfl,(ad p _).seq hS,λZ an=>⟨Z,rfl,⟨_,SqL.of aa⟩,?_⟩⟩;obtain⟨ms,a3,S⟩:=t_ n (gV 3)<|gV 15;have bk:=Gx (n:=n);have k3:Same H (upd (upd H d<|.lst []) Z<|.lst<|cZ (n.map V.int) (gV 3)<|gV 15):=(ad p _).upd_new ((ad p _).free an) _;have as:=@aa (upd H d<|.lst []) Z (.lst<|cZ (n.map V.int) (gV 3)<|gV 15);have av:d≠Z:=af aa an;have az:upd (upd H d<|.lst []) Z (.lst<|cZ (n.map V.int) (gV 3)<|gV 15) d=gV (.lst []):=by rw[ag av];exact aa
 refine cx (K:=K) (a:=Z) (X:=cZ (n.map V.int) (gV 3)<|gV 15) (qF a m first n d Z H W)
  ⟨[],[],Oa,rfl,az,as,.nil,k3,rfl,λS z=>nomatch z⟩ ?_ ?_ ?_
 ·rintro i L j S ⟨S,S,S,S,S,g,S⟩;exact SqL.of g
 ·rintro i x L j M ⟨X,C,v7,rfl,G,g2,k,O,g5,r⟩;have V2:i<(cZ (n.map V.int) (gV 3)<|gV 15).length:=(N8.mp M).1;rw[a3]at M;obtain⟨cz,rfl,S⟩:=cK M;refine⟨_,rfl,.inl ⟨rfl,_,SqL.of G⟩,_,rfl,_,rfl,.ref d,_,rfl,.inl ⟨_,SqL.of G,rfl⟩,_,_,rfl,rfl,_,rfl,_,_,rfl,rfl,(by show(0:Int)<2;decide),.inl ⟨rfl,_,_,_,rfl,_,rfl,_,_,rfl,?_⟩⟩;rw[l];refine⟨x0,by lia,λp4 ls H4 k4 a4 a5 a6=>?_⟩;have h4:=k4 _ _ G;exists d,_,_,rfl,rfl,h4,(by rw[<-k.length,g5];exact ap<|by lia);refine⟨X++[.ref p4],C++[ls],_,by rw[l];rfl,aa,by rw[ag av.symm];exact k4 _ _ g2,CLs.snoc (CL.upd ⟨p4,rfl,a4⟩ h4)<|(k.mono k4).upd h4,λb o e=>?_,by rw[N9,g5];rfl,λc u=>?_⟩
  ·rw[ag<|af e am];exact k4 _ _<|O _ _ e
  obtain z|z:=OH.mp u
  ·exact r c z
  rw[Oi.mp z];exact⟨a5,a6⟩
 rintro L j ⟨X,C,v7,rfl,G,g2,k,O,g5,r⟩;have aC:C.length<=12:=by lia
 clear g2 as az k3;dsimp only;refine iH λN hN=>?_;have ac:∀X C j,j d=gV (.lst X)->CLs j C X->Same H j->C.length<=13->(∀c∈C,ClOk W c/\c.length<=4)->
   N [gV<|.ref a,gV<|.int m,gV<|.int first,gV<|.int (first/2%(m+1)),gV<|.int<|Ap (e_ n 1) 1 (decide (V.int (first%2)=V.int 1)),gV<|.int<|e_ n 2/7,gV<|.ref d,v7,Oa] j:=by
  clear G k O g5 r aC;intro X C j G k O g5 r;refine hN _ _ ?_;generalize Ap (e_ n 1) 1 (decide (V.int (first%2)=V.int 1))=r1;refine⟨rfl,_,rfl,first/2%(m+1),rfl,(by lia),(by lia),λD hD=>?_⟩;refine eh (lo:=0) (n:=(first/2%(m+1)).toNat) (qG r1 j D) ⟨⟨Oa,rfl⟩,⟨[],rfl,rfl,λS h=>nomatch h⟩,rfl⟩ ?_ ?_ ?_
  ·rintro i L Y H2 S ⟨S,S,rfl⟩;exact aa
  ·rintro i L Y H2 hi ⟨⟨v0,rfl⟩,⟨ss,rfl,aF,v⟩,rfl⟩;have e0:RA (r1/2^((0:Int)+(i:Int)).toNat) 1=r1/2^((0:Int)+(i:Int)).toNat%2:=Xe _;obtain⟨ch,a7,hs⟩:=LW (j:=RA (r1/2^((0:Int)+(i:Int)).toNat) 1) (by rw[e0];exact Q0 _<|by decide) (by rw[e0];exact QI _<|by decide);refine bV ⟨_,rfl,_,rfl,_,_,rfl,rfl,(by show(0:Int)<=0+(i:Int);lia),_,_,rfl,rfl,.inr<|.inr ⟨_,_,ch,rfl,rfl,(by decide+kernel),a7,aa,(by rw[A'];exact ap<|by lia),⟨_,rfl⟩,⟨ss++[⟨#[ch]⟩],by rw[OI];rfl,by rw[N9,aF];rfl,λz hz=>?_⟩,eO⟩⟩;obtain w|w:=OH.mp hz
   ·exact v z w
   rw[Oi.mp w];exact hs
  rintro L Y H2 ⟨S,⟨ss,rfl,aF,v⟩,rfl⟩;obtain⟨tl,tw⟩:=BP v;refine⟨_,D,ss,rfl,rfl,SqL.of aa,?_,?_⟩
  ·rw[qg v,show(Oh "").length=0 from by decide+kernel];lia
  generalize ZR (Oh "") ss=t at tl tw;have kD:Same j (upd j D<|.lst<|ss.map V.str):=ad hD _;have I:=kD _ _ G;have aL:=k.mono kD;have k2:=O.trans kD;clear hD;generalize upd j D (.lst<|ss.map V.str)=H2 at k2 I aL;have a8:(t.length:Int)=W:=by lia
  refine⟨_,rfl,_,rfl,d,rfl,⟨_,SqL.of I⟩,λD2 V9=>?_⟩;have a0:H D2=none:=k2.free V9;have nq:d≠D2:=af I V9;refine bv (K:=K) (a:=d) (xs:=X) (kL n D2 H d X C W)
   ⟨⟨Oa,rfl⟩,aa,k2.upd_new a0 _,by rw[ag nq];exact I,aL.mono<|ad V9 _,[],OG _,.nil,λS h=>nomatch h⟩ ?_ ?_ ?_
  ·rintro i L Y H4 S ⟨S,h1,S,h2,S⟩;exact⟨h1,SqL.of h2⟩
  ·rintro i x L Y H4 M ⟨⟨v0,rfl⟩,U,j2,j3,j4,J,j5,j6,j7⟩;have V2:i<X.length:=(N8.mp M).1;have Vl:=k.length;obtain⟨c,u,tc,rfl,Ur⟩:=j4.get M;have Zz:c∈C:=N5 u;have sz:Y.length<sizeLine:=by rw[<-j6.length];exact ap (by lia)
   have a9:d≠D2:=nq;have kp:∀v0,kL n D2 H d X C W (i+1) [gV v0,gV<|.int<|e_ n 2/7] (Y++[.ref tc]) (upd H4 D2<|.lst<|Y++[.ref tc]):=by
    intro v0;refine⟨⟨_,rfl⟩,aa,j2.upd_new a0 _,by rw[ag a9];exact j3,j4.upd U,J++[c],by rw[N9];exact QK j5,CLs.snoc (CL.upd ⟨tc,rfl,Ur⟩ U)<|j6.upd U,λz hz=>?_⟩;obtain y|y:=OH.mp hz
    ·exact j7 z y
    rw[Oi.mp y];exact r c Zz
   refine⟨_,rfl,.ref tc,_,rfl,.inr ⟨_,SqT.of Ur,rfl⟩,_,_,rfl,rfl,_,rfl,g8 (λS=>aq ⟨_,rfl,U,sz,kp _⟩) λS=>?_⟩;refine⟨_,rfl,_,_,rfl,rfl,⟨by decide,by decide⟩,_,_,rfl,rfl,(by show(0:Int)<8;decide),.inl ⟨rfl,_,rfl,g8 (λS=>⟨_,rfl,U,sz,kp _⟩) λS=>?_⟩⟩;exact⟨⟨_,rfl⟩,U,j2,j3,j4,J,Wj j5,j6,j7⟩
  rintro L Y H4 ⟨S,U,j2,j3,j4,J,j5,j6,j7⟩;refine⟨(by show 2<=sizeLine;decide),λp5 ba=>?_⟩;have k5:Same H4 (upd H4 p5<|.tup [.str t,.ref D2]):=ad ba _;have Vl:=k.length;refine q p5 t J _ (j2.trans k5) (xG aa (k5 _ _ U)<|j6.mono k5) ⟨by lia,tw,by lia,λc u=>?_⟩ λc u=>(j7 c u).2;rw[a8];exact(j7 c u).1
 refine⟨_,rfl,.ref d,_,rfl,.inl ⟨_,SqL.of G,rfl⟩,_,_,rfl,rfl,_,rfl,g8 (λc1=>?_) λc1=>?_⟩
 ·have a1:(0:Int)<((X.length:Nat):Int):=OO c1;refine⟨_,rfl,_,_,rfl,rfl,(by show(0:Int)<6;decide),.inl ⟨rfl,_,rfl,g8 (λc2=>?_) λc2=>?_⟩⟩
  ·have z0:=Q0 (e_ n 2/7/6) (show((X.length:Nat):Int)≠0 by lia);have z1:=QI (e_ n 2/7/6) a1;obtain⟨x,M,bb⟩:=m6 (x:=X) z0 z1;obtain⟨c,u,tc,rfl,Ur⟩:=k.get M;refine⟨_,rfl,.inl ⟨rfl,_,SqL.of G⟩,_,rfl,_,rfl,_,_,rfl,rfl,⟨by decide,by decide⟩,_,rfl,.ref d,_,rfl,.inl ⟨_,SqL.of G,rfl⟩,_,_,rfl,rfl,a1,(iG G bb ?_)⟩;exists d,_,_,rfl,rfl,G,(by rw[<-k.length];exact ap<|Pm aC (by decide));refine ac (X++[.ref tc]) (C++[c]) _ aa (CLs.snoc (CL.upd ⟨tc,rfl,Ur⟩ G)<|k.upd G) (λb o e=>?_) (by rw[N9];exact QK aC) λz hz=>?_
   ·rw[ag<|af e am];exact O _ _ e
   obtain y|y:=OH.mp hz
   ·exact r z y
   rw[Oi.mp y];exact r c<|N5 u
  exact ac X C j G k O (Wj aC) r
 exact ao<|ac X C j G k O (Wj aC) r
noncomputable abbrev yn:PQ:=cD 17
inductive oh (vs:ab V)(H:Hp)(Q:VK)(E:XK):Prop
 |mk (p:J')(t:Str)(w:V)(i:Nat)(h0:vs=[.ref p,.int<|(i:Int)+1])(h:H p=gV (.tup [.str t,w]))(a:i<t.length)(b:t.length<=900)(c:Q (.str<|aj<|cu t i) H)
theorem Ar(F:Fun K "hand_of" "hand_of" yn f d)(T:Bl m):aA P w K m B bw 1 f d ["sentence","variable"] oh:=by
 refine F.okB (N:=["sentence","variable","turns"]) λn A o s H r Q E u x h=>?_;obtain⟨p,t,w,i,rfl,c,j,y,q⟩:=h;refine⟨_,(ae gg
  (ae (bM (mK<|tH pR pR bW (pv 1) gg) (ax fX) aN)
  gg)),?_⟩
 refine⟨_,rfl,(bu c rfl ?_)⟩;have k:decide ((1:Int)<=(i)+1)=true:=On (by lia);have l:decide ((i)+1<=((t.length):Int))=true:=On (by lia);have v:i<t.cps.toList.length:=by
  assumption
 have a:=N_ v;have b:kq t.cps.toList ((i)+1-1)=gV t.cps.toList[i]:=by
  have e:(i:Int)+1-1=(i):=by simp
  rw[e];exact aK a
 exists _,rfl,_,_,rfl,rfl,_,rfl;rw[k];refine aq ⟨_,rfl,.str t,_,rfl,⟨Pu (ap<|Pm y (by decide)),rfl⟩,_,_,rfl,rfl,_,rfl,?_⟩;rw[l];refine ao<|⟨_,rfl,_,rfl,_,_,rfl,rfl,.inr<|.inr ⟨t,_,_,rfl,rfl,Pu (ap<|Pm y (by decide)),b,.inl ⟨rfl,_,rfl,?_⟩⟩⟩;rw[HN,<-wj a];cases g:cu t i with
 |true=>
  rwa[g]at q
 |false=>
  rwa[g]at q
noncomputable abbrev Kj:PQ:=cD 7
noncomputable abbrev Mn:PQ:=cD 13
noncomputable abbrev HZ:PQ:=cD 21
noncomputable abbrev wB:PQ:=cD 18
def jO:Sp:=λs H Q _=>∃v d,s=[v]/\RD H d v/\Q (.bl<|kB d&&!md d) H
def CU:Sp:=λs H Q _=>∃v d m,s=[v,.int m]/\RD H d v/\Q (.bl<|lV m d) H
inductive kM (vs:ab V)(H:Hp)(Q:VK)(E:XK):Prop
 |mk (p:J')(t:Str)(w:V)(hw:Oe)(h0:vs=[.ref p,.str<|aj hw])(a:H p=gV (.tup [.str t,w]))(b:t.length<=900)(c:∀(l:J') (h:Hp),Same H h->h l=gV (.lst<|(aJ t hw).map V.int)->Q (.ref l) h)
def rS:Sp:=λv H Q _=>∃b:Oe,v=[.str<|aj b]/\Q (.str<|aj (!b)) H
theorem cw(h:cJ H d s)(l:d.length=2):∃D a x X,d=[D,a]/\s=[x,X]/\RD H D x/\RD H a X:=by
 match d,l with
 |[D,a],_=>
  obtain⟨x,r,rfl,b,k⟩:=ai h;obtain⟨X,f,rfl,c,e⟩:=ai k;obtain rfl:=bx e;exact⟨_,_,x,X,rfl,rfl,b,c⟩
theorem H_{A B:Hp->Prop}(h:A H):KZ c H λb a=>if b=N7 then A a else B a:=by
 assumption
inductive Mo (H:Hp)(a:J')(most:Int)(ds:ab Oo)(i:Nat)(c:St)(h:Hp):Prop
 |mk (b:Int)(l:M' V)(h0:c=[gV<|.ref a,gV<|.int most,gV<|.int b,l])(d:h=H)(e:f_ most b (ds.drop i)=f_ most 0 ds)
inductive Ia (H:Hp)(D p:J')(t:Str)(hw:Oe)(i:Nat)(a:St)(ys:ab V)(h:Hp):Prop
 |mk (v:M' V)(h0:a=[v,gV (.str (aj hw)),gV (.ref p)])(b:ys=(((O7 i).filter λi=>cu t i == hw).map λ(i:Nat)=>V.int<|(i:Int)+1))(c:h=upd H D (.lst ys))
theorem Mp:ee ["thing"] ["thing"] (aD Kj):=HX
theorem Kk(F:Fun K "is_number" "is_number" Kj f c)(T:Bl m):aA P w K m b bw 1 f c ["thing"] jO:=by
 refine F.okA Mp λe A o s H g Q E r h=>?_;obtain⟨v,d,rfl,a,q⟩:=h;have n:=dD a;exists _,gg;exists _,rfl,v,_,"int",_,rfl,iT d v a,xD d n,_,rfl;cases I:kB d with
 |false=>
  rwa[I]at q
 |true=>
  rw[I]at q;exact aq ⟨_,rfl,v,_,"bool",_,rfl,iT d v a,jw d n,_,rfl,q⟩
theorem Kl(F:Fun K "is_set" "is_set" Mn f N)(T:Bl M)(Y:Fe P w K M B 1 "is_number" jO):aA P w K M B bw 2 f N ["thing","most"] CU:=by
 refine F.okB (N:=["thing","most","behind","literal"]) λW A o s H X Q E Z hr h=>?_;obtain⟨v,d,m,rfl,p,q⟩:=h;have O:=dD p;refine⟨_,(ae gg
  (ae gg
  (ae (fS 3 (bX<|pv 0) (ae (bM (PW.pt<|lu gg<|vH<|mK<|tH xn pR (pv 2) gg<|pv 1) (dX fj) aN)
   gg))
  (dX fj)))),?_⟩
 exists _,rfl,v,_,"tuple",_,rfl,iT d v p,iw d O,_,rfl;cases d with
 |tuple D=>
  refine ao ?_;obtain⟨a,x,rfl,u,G⟩:=ak p;have Ql:=bI G;refine⟨_,rfl,a,rfl,⟨_,SqT.of u⟩,fK (K:=K) (a:=a) (X:=x) (Mo H a m D)
   ⟨0,Oa,rfl,rfl,rfl⟩ (λi I J V U=>by obtain⟨V,V,V,e,V⟩:=U;rw[e];exact SqT.of u) ?_ ?_⟩
  ·rintro i y I J L ⟨b,l,rfl,rfl,c⟩;have V2:i<x.length:=(N8.mp L).1;have r:=cV G L;rw[zP P_<|by exact Pe V2 (UC Ql)]at c;exists _,rfl,y,_,rfl,r,_,rfl;obtain⟨z,n⟩|n:=hU (D.getD i .none)
   ·rw[n]at r c ⊢;obtain rfl:=ar r;refine ao ?_;exists _,rfl,_,rfl,z,rfl,_,_,rfl,rfl,_,rfl;rw[hO]at c;refine g8 (λt=>?_) λt=>?_
    ·have C:b<absI z:=OO t;exists _,rfl,_,_,rfl,rfl,_,rfl;refine g8 (λj=>?_) λj=>?_
     ·have k:¬absI z<=m:=λg=>by
       have e:decide (absI z<=m)=true:=On g;rw[show decide ((if z<0 then -z else z)<=m)=N7 from e]at j;cases j
      rw[Ov<|by simp_all]at c;show Q (.bl Oc) _
      rw[show lV m (.tuple D)=f_ m 0 D from rfl,<-c]at q;exact q
     have k:absI z<=m:=V7 λg=>by
      have e:decide (absI z<=m)=false:=Ob g;rw[show decide ((if z<0 then -z else z)<=m)=Oc from e]at j;exact j rfl
     rw[Ox ⟨C,k⟩]at c;exists _,rfl,z,rfl;exact⟨absI z,gV<|.int z,rfl,rfl,c⟩
    have C:¬b<absI z:=λg=>t<|On g;rw[Ov λg=>C g.1]at c;refine⟨_,rfl,aq ?_⟩;show Q (.bl Oc) _
    rw[show lV m (.tuple D)=f_ m 0 D from rfl,<-c]at q;exact q
   rw[iz n];rw[nj n]at c;refine aq<|aq ?_;show Q (.bl Oc) _
   rw[show lV m (.tuple D)=f_ m 0 D from rfl,<-c]at q;exact q
  ·rintro I J ⟨b,l,rfl,rfl,c⟩;show Q _ _
   rw[List.drop_eq_nil_of_le<|by exact UC (Eq.symm Ql)]at c;rw[show lV m _=f_ m 0 D from rfl,<-c]at q;exact q
 |_=>exact aq q
theorem Gz(F:Fun K "variables_of" "variables_of" HZ f r)(T:Bl m)(W:Fe P w K m b 1 "hand_of" oh):aA P w K m b bw 2 f r ["sentence","hand"] kM:=by
 refine F.okB (N:=["sentence","hand"]) λx A o s H B Q E C I h=>?_;obtain⟨p,t,w,a,rfl,d,u,q⟩:=h;exists _,(dX<|gS ["variable","hand","sentence"] [Oa,gV 1,gV 0] gg);refine⟨_,rfl,(bu d rfl ⟨.str t,_,rfl,⟨Pu (aV<|Pm u (by decide)),rfl⟩,_,_,rfl,rfl,?_⟩)⟩;refine⟨_,_,rfl,by lia,λD e=>?_⟩;have n:((t.length:Int)+1-1).toNat=t.length:=by simp
 refine eh (lo:=1) (n:=((t.length:Int)+1-1).toNat) (Ia H D p t a)
  ⟨Oa,rfl,rfl,rfl⟩ ?_ ?_ ?_
 ·rintro i j y k Z ⟨Z,Z,Z,rfl⟩;exact aa
 ·rintro i j y k l ⟨J,rfl,rfl,rfl⟩;rw[n]at l;have c:=ad e (.lst<|((O7 i).filter λi=>cu t i == a).map λ(i:Nat)=>V.int<|(i:Int)+1) _ _ d;have v:(1:Int)+(i:Int)=(i:Int)+1:=by lia
  rw[v];refine⟨_,rfl,_,rfl,p,t,w,i,rfl,c,l,u,_,rfl,.inl ⟨rfl,_,rfl,?_⟩⟩;rw[c9];by_cases G:cu t i=a
  ·have g:(cu t i == a)=true:=by rw[G];exact Ti _
   rw[On G];refine aq ⟨_,rfl,aa,?_,_,rfl,?_,eO⟩
   ·have:=Po (λi=>cu t i == a)<|O7 i;rw[PB]at this;rw[A'];exact aV (by lia)
   rw[Rb,P5,P' (p:=λi=>cu t i == a) g,OI];rfl
  rw[Ob G];refine ao ⟨_,rfl,?_,rfl⟩;rw[Rb,P5,Qa λz=>G<|by simpa using z];simp
 rintro j y k ⟨Z,Z,rfl,rfl⟩;refine q D _ (ad e _) ?_;rw[aa,n];unfold aJ;rw[OY];rfl
theorem GA:ee ["hand"] ["hand"] (aD wB):=HX
theorem CV(F:Fun K "other_hand" "other_hand" wB f d)(T:Bl m):aA P w K m B bw 1 f d ["hand"] rS:=by
 refine F.okA GA λa A o s H v Q E r h=>?_;obtain⟨b,rfl,q⟩:=h;exists _,gg;refine⟨_,rfl,.inl ⟨rfl,_,rfl,?_⟩⟩;cases b with
 |true=>exact aq q
 |false=>exact ao q
noncomputable abbrev Ib:PQ:=cD 23
noncomputable abbrev yo:PQ:=cD 24
noncomputable abbrev uO:PQ:=cD 25
def mv(H:Hp)(p:J')(c:ab Int):Prop:=H p=gV (.tup<|c.map V.int)
inductive wC (vs:ab V)(H:Hp)(Q:VK)(E:XK):Prop
 |mk (p q:J')(f s:ab Int)(v:Int)(h0:vs=[.ref p,.ref q,.int v])(a:mv H p f)(b:mv H q s)(c:f.length<=60)(d:s.length<=60)(e:∀h,Same H h->Q (.bl<|cC f s v) h)
inductive h_ (vs:ab V)(H:Hp)(Q:VK)(E:XK):Prop
 |mk (p q:J')(f s:ab Int)(v:Int)(h0:vs=[.ref p,.ref q,.int v])(a:mv H p f)(b:mv H q s)(c:f.length+s.length<=60)(d:Ups f)(e:Ups s)(g:cC f s v=Oc)(i:∀(l:J') (r:ab Int) (h:Hp),Same H h->Joins f s v r->mv h l r->Q (.ref l) h)
inductive gr (vs:ab V)(H:Hp)(Q:VK)(E:XK):Prop
 |mk (p q:J')(t:Str)(w:V)(hw:Oe)(c:ab Int)(h0:vs=[.ref p,.str<|aj hw,.ref q])(a:H p=gV (.tup [.str t,w]))(b:t.length<=900)(d:mv H q c)(e:c.length<=60)(f:(∀l∈c,1<=absI l/\absI l<=(t.length:Int)))(g:∀(l:J') (h:Hp),Same H h->mv h l (aG t hw c)->Q (.ref l) h)
theorem aU(c:ab Int):(c.map V.int).all jo=true:=by
 rw[Sb];exact Pc.mpr λz z=>rfl
theorem GB{a:Type}(l:ab a)(f:a->Oe):((l.map λx=>V.bl<|f x).all rB)=N7/\(l.map λx=>V.bl<|f x).any gG=l.any f:=by
 refine⟨by rw[Sb];exact Pc.mpr λz z=>rfl,?_⟩;rw[Tu];rfl
theorem om(c:ab Int)(p:Int->Oe)(f:Int->V):((c.map V.int).filter<|rD p).map (E_ f)=(c.filter p).map f:=by
 induction c with
 |nil=>rfl
 |cons x r i=>
  rw[OU];by_cases h:p x=N7
  ·rw[P' (a:=V.int x) h,P' h,OU,i];rfl
  rw[Qa (a:=V.int x) h,Qa h,i]
theorem GC{K:C'}{H:Hp}{p:J'}{n:ab Int}{Q:VK}(h:SqL K H p (n.map V.int))(b:∀a∈n,0<=a)(q:Q (.int<|n.foldl max 0) H):Cl K (.ref p) (.int 0) H Q:=
 ⟨p,n,rfl,h,λe=>by simp_all,λM m c=>by rwa[Co b (.inl m) c<|b M m]at q⟩
theorem yp(l:Int):0<=absI l:=by
 obtain⟨z,e⟩|⟨z,e⟩:=au l<;>lia
theorem GD(F:Fun K "stands_both_ways" "stands_both_ways" Ib f i)(T:Bl m):aA P w K m B bw 1 f i ["first","second","variable"] wC:=by
 refine F.okB (N:=["first","second","variable"]) λt A o s H u Q E y C h=>?_;obtain⟨p,q,f,s,v,rfl,c,j,G,I,n⟩:=h;exists _,(dX<|aI (m9 rfl) rfl T.any UM<|fV<|gS ["literal","second","variable"] [Oa,gV 1,gV 2] (bX<|pv 0) (e:=λZ Z Z Z=>(l8 (fA (K:=K) rfl) gg (pv 1)<|by rfl)));refine⟨_,rfl,p,rfl,⟨_,SqT.of c⟩,λD d=>?_⟩;refine bG [gV<|.ref q,gV<|.int v] (rD λl=>!decide (absI l=v)) (E_ λl=>.bl<|s.contains (-l)) rfl c d (by rw[A'];exact Pm G (by decide)) ?_ ?_ ?_
 ·intro x a b R k r;obtain⟨z,Z,rfl⟩:=bK a;refine⟨_,rfl,z,rfl,_,rfl,.inl ⟨rfl,_,rfl,?_⟩⟩;have e:decide (V.int (absI z)=V.int v)=decide (absI z=v):=by
   simp
  have g:R (!decide (absI z=v)) b:=r;rw[<-e]at g;exact g
 ·intro x a Z b R k r;obtain⟨z,Z,rfl⟩:=bK a;exists _,rfl,_,rfl,_,rfl,q,_,rfl,.inr<|SqT.of<|k _ _ j,rfl,aU s;show R (.bl<|gY (.int _)<|s.map _) b
  rwa[bC]
 rw[om];have e:=GB (f.filter λl=>!decide (absI l=v)) λl=>s.contains (-l);exists D,_,rfl,SqL.of aa,e.1;rw[e.2];exact n _<|ad d _
theorem As(F:Fun K "joined" "joined" yo f fd)(T:Bl mg):aA P w K mg J bw 1 f fd ["first","second","variable"] h_:=by
 refine F.okB (N:=["first","second","variable","both"]) λQ_ A o s H vs Q E sc hr h=>?_;obtain⟨p,q,f,s,v,rfl,M,N,h9,hf,hs,hb,q'⟩:=h;refine⟨_,(ae (sT 3<|eU mR gg<|gS ["literal","first"] [Oa,gV 0] (bX<|pv 1) (t:=λS S S S=>(cI<|dj (iU (K:=K) rfl) (pv 0) (pv 1)<|by rfl)))
  (dX<|bF bH rfl T.tuple P2<|fV<|nQ rfl T.sorted rfl T.abs<|gS ["literal","variable"] [Oa,gV 2]<|aH<|pv 3)),?_⟩
 refine⟨_,rfl,p,_,rfl,.inr<|SqT.of M,λL j=>?_⟩;have a:=ad j<|.lst<|f.map V.int;have O:=@aa H L (.lst<|f.map V.int);generalize upd H L (.lst<|f.map V.int)=U at a O;refine⟨_,rfl,q,rfl,⟨_,SqT.of<|a _ _ N⟩,λD W=>?_⟩;refine bG [gV<|.ref p] (rD λl=>!f.contains l) (λx=>x) rfl (a _ _ N) W (by rw[A'];lia) ?_ ?_ ?_
 ·intro x b c R k r;obtain⟨z,S,rfl⟩:=bK b;exists _,rfl,_,rfl,p,_,rfl,.inr<|SqT.of<|k _ _<|a _ _ M,rfl,aU f,_,rfl;show R (!gY (.int z) (f.map V.int)) c
  rw[bC];exact r
 ·intro x b S c R k r;exact⟨_,rfl,r⟩
 rw[bO s (λl=>!f.contains l) _ λi=>rfl];have m:=ad W<|.lst<|(s.filter λl=>!f.contains l).map V.int;have X:=@aa U D (.lst<|(s.filter λl=>!f.contains l).map V.int);generalize upd U D (.lst<|(s.filter λl=>!f.contains l).map V.int)=Y at m X;have WW:=Po (λl=>!f.contains l) s;refine⟨L,D,_,_,rfl,rfl,m _ _ O,X,by rw[A',A',Qm];lia,λn t=>?_⟩;rw[<-OI];have Z:=ad t<|.lst<|(f++s.filter λl=>!f.contains l).map V.int;have u:=@aa Y n (.lst<|(f++s.filter λl=>!f.contains l).map V.int);generalize upd Y n (.lst<|(f++s.filter λl=>!f.contains l).map V.int)=y at Z u;have ac:(f++s.filter λl=>!f.contains l).length<=60:=by rw[N9];lia
 refine⟨_,rfl,n,rfl,⟨_,SqL.of u⟩,λg d=>?_⟩;refine eA [gV<|.int v] (rD λl=>!decide (absI l=v)) (λx=>x) rfl u d (by rw[A'];exact Pm ac (by decide)) ?_ ?_ ?_
 ·intro x b c R k r;obtain⟨z,S,rfl⟩:=bK b;refine⟨_,rfl,z,rfl,_,rfl,.inl ⟨rfl,_,rfl,?_⟩⟩;have e:decide (V.int (absI z)=V.int v)=decide (absI z=v):=by
   simp
  have r':R (!decide (absI z=v)) c:=r;rw[<-e]at r';exact r'
 ·intro x b S c R k r;exact⟨_,rfl,r⟩
 rw[bO _ (λl=>!decide (absI l=v)) _ λi=>rfl];have k4:=ad d<|.lst<|(gb f s v).map V.int;have r4:=@aa y g (.lst<|(gb f s v).map V.int);have B:(gb f s v).length<64:=Ro (Po _ _) (Ro ac (by decide));show nO _ _ (upd y g<|.lst<|(gb f s v).map _) _
 generalize upd y g (.lst<|(gb f s v).map _)=H4 at k4 r4;refine⟨g,_,rfl,SqL.of r4,B,λL5 r C G ho=>?_⟩;exact⟨L5,_,rfl,.inl ⟨SqL.of aa,λL6 I=>q' L6 r _ ((((a.trans m).trans Z).trans k4).trans<|(ad C _).trans<|ad I _) (uy hf hs hb G ho) aa⟩⟩
theorem wD(F:Fun K "dropped" "dropped" uO f J)(T:Bl M)(U:Fe P w K M B 1 "other_hand" rS)(Ws:Fe P w K M B 2 "variables_of" kM):
  aA P w K M B bw 3 f J ["sentence","hand","literals"] gr:=by
 refine F.okB (N:=["sentence","hand","literals","others","last"]) λQ_ A O s H vs Q E sc hr h=>?_;obtain⟨p,q,t,w,b,c,rfl,L,N,m,W,g,X⟩:=h;refine⟨_,(ae gg
  (ae (sT 4<|Gf rfl rfl T.max (gS ["literal","others"] [Oa,gV 3] (bX<|pv 2) (t:=λS S S S=>(cI<|dj (fA (K:=K) rfl) gg (pv 1)<|by rfl))) bW)
  (dX<|bF bH rfl T.tuple P2<|fV<|gS ["literal","last"] [Oa,gV 4]<|bX<|pv 2))),?_⟩
 refine⟨_,rfl,_,rfl,b,rfl,p,t,w,!b,rfl,L,N,λl v j Y=>?_⟩;refine⟨_,rfl,q,rfl,⟨_,SqT.of<|j _ _ m⟩,λD y=>?_⟩;refine bG [gV<|.ref l] (rD λz=>(aJ t (!b)).contains<|absI z) (E_ λz=>.int<|absI z) rfl (j _ _ m) y (by rw[A'];exact Pm W (by decide)) ?_ ?_ ?_
 ·intro x d n R k r;obtain⟨z,S,rfl⟩:=bK d;exists _,rfl,z,rfl,_,rfl,l,_,rfl,.inl<|SqL.of<|k _ _ Y,rfl,aU _,_,rfl;show R (gY (.int<|absI z)<|(aJ t (!b)).map V.int) n
  rw[bC];exact r
 ·intro x d S n R k r;obtain⟨z,S,rfl⟩:=bK d;exact⟨_,rfl,z,rfl,r⟩
 have e:((c.map V.int).filter<|rD λz=>(aJ t (!b)).contains<|absI z).map (E_ λz=>.int<|absI z)=((c.filter λl=>!(cu t (absI l-1).toNat == b)).map absI).map V.int:=by
  rw[om,OY];have:(c.filter λz=>(aJ t (!b)).contains<|absI z)=c.filter λl=>!(cu t (absI l-1).toNat == b):=UH λz C=>Gg (g z C).1 (g z C).2;rw[this];rfl
 rw[e];have o:=ad y<|.lst<|((c.filter λl=>!(cu t (absI l-1).toNat == b)).map absI).map V.int;have G:=@aa v D (.lst<|((c.filter λl=>!(cu t (absI l-1).toNat == b)).map absI).map V.int);generalize upd v D (.lst<|((c.filter λl=>!(cu t (absI l-1).toNat == b)).map absI).map V.int)=H2 at o G;unfold tC;refine GC (n:=(c.filter λl=>!(cu t (absI l-1).toNat == b)).map absI) (SqL.of G) (λa Z=>?_) ?_
 ·obtain⟨z,S,rfl⟩:=OK.mp Z;exact yp z
 refine⟨_,rfl,q,rfl,⟨_,SqT.of<|o _ _<|j _ _ m⟩,λD2 I=>?_⟩;refine bG [gV<|.int<|fC t b c] (rD λl=>decide (absI l<=fC t b c)) (λx=>x) rfl (o _ _<|j _ _ m) I (by rw[A'];exact Pm W (by decide)) ?_ ?_ ?_
 ·intro x d n R k r;obtain⟨z,S,rfl⟩:=bK d;exact⟨_,rfl,z,rfl,_,rfl,_,_,rfl,rfl,_,rfl,r⟩
 ·intro x d S n R k r;exact⟨_,rfl,r⟩
 rw[bO c (λl=>decide _) _ λi=>rfl];exact⟨D2,_,rfl,.inl ⟨SqL.of aa,λL3 u=>X L3 _ (((j.trans o).trans<|ad I _).trans<|ad u _) aa⟩⟩
noncomputable abbrev CY:PQ:=cD 8
noncomputable abbrev Ic:PQ:=cD 9
noncomputable abbrev C0:PQ:=cD 27
noncomputable abbrev C1:PQ:=cD 32
noncomputable abbrev C2:PQ:=cD 31
inductive jP (vs:ab V)(H:Hp)(Q:VK)(E:XK):Prop
 |mk (v:V)(d:Oo)(many:Nat)(h0:vs=[v,.int (many:Int)])(h:RD H d v)(a:Q (.bl (aS many d).isSome) H)
inductive wE (vs:ab V)(H:Hp)(Q:VK)(E:XK):Prop
 |mk (v:V)(d:Oo)(w:Str)(n:Nat)(h0:vs=[v,.str w,.int (n:Int)])(h:RD H d v)(a:1<=n)(b:Qi (.str w)=N7)(c:(∀ds,d=.tuple ds->Qi (ds.getD 0 .none)=N7))(e:Q (.bl<|bD w n d) H)
inductive rT (vs:ab V)(H:Hp)(Q:VK)(E:XK):Prop
 |mk (p q:J')(t:V)(v:V)(d:Oo)(xs:ab V)(cs:ab (ab Int))(h0:vs=[.ref p,v])(h:H p=gV (.tup [t,.ref q]))(b:H q=gV (.lst xs))(c:CLs H cs xs)(e:cs.length<=900)(f:RD H d v)(g:∀a,RV H ((aS cs.length d).map λi=>cs.getD i []) a->Q a H)
inductive rV (vs:ab V)(H:Hp)(Q:VK)(E:XK):Prop
 |mk (p a:J')(t:Str)(w:V)(hw:Oe)(v:V)(d:Oo)(ys:ab V)(sets:ab (ab Int))(h0:vs=[.ref p,.str<|aj hw,v,.ref a])(e:H p=gV (.tup [.str t,w]))(f:t.length<=30)(g:H a=gV (.lst ys))(i:CLs H sets ys)(j:sets.length<=9000)(k:(∀c∈sets,al t.length c))(l:RD H d v)(m:∀b h,Same H h->RV h (dW t hw sets d) b->Q b h)
inductive rW (vs:ab V)(H:Hp)(Q:VK)(E:XK):Prop
 |mk (p a b:J')(t:Str)(w:V)(hw:Oe)(g x X d:V)(D e f:Oo)(ys:ab V)(sets:ab (ab Int))(h0:vs=[.ref p,.str<|aj hw,.ref b,.ref a])(k:H p=gV (.tup [.str t,w]))(l:t.length<=30)(m:H b=gV (.tup [g,x,X,d]))(n:H a=gV (.lst ys))(o:CLs H sets ys)(q:sets.length<=9000)(r:(∀c∈sets,al t.length c))(s:RD H D x)(u:RD H e X)(i:RD H f d)(j:∀v h,Same H h->RV h (cX t hw sets D e f) v->Q v h)
theorem C3(F:Fun K "is_place" "is_place" CY f k)(Y:Fe P w K M b 1 "is_number" jO):aA P w K M b bw 2 f k ["thing","many"] jP:=by
 refine F.okB (N:=["thing","many"]) λl A o s H p Q E r t h=>?_;obtain⟨v,d,m,rfl,j,q⟩:=h;exists _,(dX<|rh gg<|rg<|Bd pR xn bW (pv 0)<|pv 1);exists _,rfl,v,d,rfl,j,_,rfl;obtain⟨z,rfl⟩|n:=hU d
 ·obtain rfl:=ar j;have a:Q (.bl (if 0<=z/\z<(m)then gV _ else Oa).isSome) H:=q;exists _,rfl,_,_,rfl,rfl,_,rfl;by_cases g:0<=z
  ·rw[On g];refine aq ⟨_,rfl,_,_,rfl,rfl,?_⟩;by_cases i:z<(m)
   ·simp_all
   rw[Ov λc=>i c.2]at a;show Q (.bl _) H
   rwa[Ob i]
  rw[Ov λc=>g c.1]at a;rwa[Ob g]
 rw[iz n];have e:aS m d=none:=by
  cases d with
  |int z=>lia
  |_=>rfl
 rwa[e]at q
theorem GE(F:Fun K "begins_with" "begins_with" Ic f p)(T:Bl M):aA P w K M B bw 1 f p ["thing","word","many"] wE:=by
 refine F.okB (N:=["thing","word","many"]) λu A o s H y Q E C G h=>?_;obtain⟨v,d,W,n,rfl,i,I,j,k,q⟩:=h;have N:=dD i;exists _,gg;exists _,rfl,v,_,"tuple",_,rfl,iT d v i,iw d N,_,rfl;cases d with
 |tuple D=>
  obtain⟨a,x,rfl,l,m⟩:=ak i;have r:=bI m;refine aq ⟨_,rfl,.ref a,_,rfl,.inr ⟨_,SqT.of l,rfl⟩,_,rfl,.inl ⟨rfl,_,rfl,?_⟩⟩;have c:Q (.bl (decide (D.length=n)&&cb W (D.getD 0 .none))) H:=q;by_cases g:D.length=n
  ·rw[On g]at c;have e:decide (V.int ((x.length):Int)=V.int _)=true:=On (by rw[r,g]);rw[e];obtain⟨X,b⟩:∃X,x[0]?=gV X:=⟨_,N_ (by lia)⟩;have t:=cV m b;refine aq ⟨_,rfl,(bu l (aK b) ⟨_,rfl,.inr ⟨_,_,t,cH W,k D rfl,j,?_⟩⟩)⟩;rwa[hV]
  ·rw[Ob g]at c;have e:decide (V.int ((x.length):Int)=V.int (n))=false:=(by lia);rwa[e]
 |_=>exact ao q
theorem C4(F:Fun K "given_set" "given_set" C0 f u)(T:Bl m)(U:Fe P w K m b 2 "is_place" jP):aA P w K m b bw 3 f u ["sentence","place"] rT:=by
 refine F.okB (N:=["sentence","place"]) λD A o s H G Q E I J h=>?_;obtain⟨p,q,t,v,d,X,C,rfl,j,k,l,L,n,a⟩:=h;have y:=l.length;exists _,gg;refine⟨_,rfl,_,rfl,(bu j rfl ⟨.ref q,_,rfl,.inl ⟨_,SqL.of k,rfl⟩,v,d,X.length,rfl,n,_,rfl,?_⟩)⟩;rw[<-y];cases g:aS _ d with
 |none=>
  rw[g]at a;exact aq<|a _ rfl
 |some i=>
  rw[g]at a;obtain⟨M,rfl⟩:=aX g;obtain rfl:=ar n;obtain⟨x,r⟩:∃x,X[i]?=gV x:=⟨_,N_ (Pe M (UC y))⟩;obtain⟨c,z,B⟩:=l.get r;have e:C.getD i []=c:=by rw[N6,z];rfl
  refine ao ⟨_,rfl,(bu j rfl ⟨_,rfl,(iG k (aK r)<|a _ ?_)⟩)⟩;show CL H (C.getD i []) x
  rwa[e]
theorem C5(F:Fun K "drop_set" "drop_set" C1 f G)(T:Bl m)(U:Fe P w K m B 2 "is_place" jP)(I:Fe P w K m B 3 "dropped" gr):aA P w K m B bw 4 f G ["sentence","hand","place","ahead"] rV:=by
 refine F.okB (N:=["sentence","hand","place","ahead"]) λY A o s H Z Q E sc hr h=>?_;obtain⟨p,a,t,w,n,v,d,y,b,rfl,J,h9,r,u,h8,j,z,q⟩:=h;have L:=u.length;exists _,gg;exists _,rfl,_,rfl,.ref a,_,rfl,.inl ⟨_,SqL.of r,rfl⟩,v,d,y.length,rfl,z,_,rfl;rw[<-L];unfold dW at q;cases g:aS _ d with
 |none=>
  rw[g]at q;exact aq<|q _ _ (Same.refl _) rfl
 |some i=>
  rw[g]at q;obtain⟨hi,rfl⟩:=aX g;obtain rfl:=ar z;obtain⟨x,C⟩:∃x,y[i]?=gV x:=⟨_,N_ (Pe hi (UC L))⟩;obtain⟨c,D,l,rfl,M⟩:=u.get C;have e:b.getD i []=c:=by rw[N6,D];rfl
  have k:=j c<|N5 D;have Vl:=aM k;refine ao ⟨_,rfl,_,rfl,_,rfl,_,rfl,(iG r (aK C) ⟨p,l,t,w,n,c,rfl,J,Pm h9 (by decide),M,Pm Vl (Pm h9 (by decide)),k.2,λN O W X=>q _ _ W ?_⟩)⟩;show CL O (aG t n<|b.getD i []) _
  rw[e];exact⟨N,rfl,X⟩
theorem yq(h:aS s.length d=Oa):cX t H s d D a=none:=by
 unfold cX;rw[h]
theorem yr(h:aS s.length d=Oa):cX t H s D d a=none:=by
 unfold cX;rw[h];cases aS _ D<;>rfl
theorem yt(h:∀z,d≠.int z):cX t H s D a d=none:=by
 unfold cX
 simp_all
theorem yu{t:Str}{h:Oe}{z:Int}(H:aS s.length d=gV i)(a:aS s.length D=gV j):
  cX t h s d D (.int z)=if c_ t h (s.getD i []) (s.getD j []) z=N7 then gV (bT (s.getD i []) (s.getD j []) z)else none:=by
 unfold cX;rw[H,a]
theorem C6(F:Fun K "join_set" "join_set" C2 f fd)(T:Bl M)(Y5:Fe P w K M B 1 "is_number" jO)(am:Fe P w K M B 2 "is_place" jP)
  (an:Fe P w K M B 1 "other_hand" rS) (Ws:Fe P w K M B 2 "variables_of" kM) (as:Fe P w K M B 1 "stands_both_ways" wC) (av:Fe P w K M B 1 "joined" h_):
  aA P w K M B bw 3 f fd ["sentence","hand","line","ahead"] rW:=by
 refine F.okB (N:=["sentence","hand","line","ahead","variable","first","second"]) λQ_ A W s H vs Q E sc hr h=>?_;obtain⟨p,a,b,t,w,o,x0,x1,x2,x3,d1,d2,d3,Y,c,rfl,hp,h9,u,J,X,h8,v,r1,r2,r3,q⟩:=h;have Ql:=X.length;exists _,gg;refine⟨_,rfl,(bu u rfl ?_)⟩;refine⟨_,rfl,(bu u rfl ⟨_,rfl,.ref a,_,rfl,.inl ⟨_,SqL.of J,rfl⟩,x1,d1,Y.length,rfl,r1,_,rfl,?_⟩)⟩;rw[<-Ql];cases G:aS c.length d1 with
 |none=>
  rw[yq G]at q;exact aq<|aq<|q _ _ (Same.refl _) rfl
 |some i=>
 refine ao ⟨_,rfl,(bu u rfl ⟨_,rfl,.ref a,_,rfl,.inl ⟨_,SqL.of J,rfl⟩,x2,d2,Y.length,rfl,r2,_,rfl,?_⟩)⟩;rw[<-Ql];cases n:aS c.length d2 with
 |none=>
  rw[yr n]at q;exact aq<|aq<|q _ _ (Same.refl _) rfl
 |some j=>
 refine ao ⟨_,rfl,x3,d3,rfl,r3,_,rfl,?_⟩;obtain⟨z,rfl⟩|hn:=hU d3
 rotate_left
 ·rw[iz hn,yt hn]at*;exact aq<|q _ _ (Same.refl _) rfl
 obtain rfl:=ar r3;rw[yu G n]at q;obtain⟨hi,rfl⟩:=aX G;obtain⟨hj,rfl⟩:=aX n;obtain rfl:=ar r1;obtain rfl:=ar r2;obtain⟨y1,y⟩:∃x,Y[i]?=gV x:=⟨_,N_ (Pe hi (UC Ql))⟩;obtain⟨y2,C⟩:∃x,Y[j]?=gV x:=⟨_,N_ (Pe hj (UC Ql))⟩;obtain⟨g,hf,Z,rfl,WX⟩:=X.get y;obtain⟨m,D,l2,rfl,WW⟩:=X.get C;have ef:c.getD i []=g:=by rw[N6,hf];rfl
 have es:c.getD j []=m:=by rw[N6,D];rfl
 rw[ef,es]at q;have of:=v g<|N5 hf;have os:=v m<|N5 D;have cf:=aM of;have cs:=aM os;refine ao ?_;refine⟨_,rfl,_,rfl,(bu u rfl<|(iG J (aK y) ?_))⟩;refine⟨_,rfl,_,rfl,(bu u rfl<|(iG J (aK C) ?_))⟩;have L:c_ t o g m z=Oc->∀H',Same H H'->Q .non H':=λe H' k=>by
  rw[e]at q;exact q _ _ k rfl
 refine⟨_,rfl,_,rfl,_,rfl,o,rfl,p,t,w,!o,rfl,hp,Pm h9 (by decide),λl H1 d hl=>?_⟩;exists l,_,rfl,.inl<|SqL.of hl,rfl,aU _,_,rfl;show(if(!gY (.int z) ((aJ t (!o)).map V.int))=N7 then _ else _)
 rw[bC];cases I:(aJ t (!o)).contains z with
 |false=>exact aq<|aq<|L (by unfold c_;rw[I];rfl) _ d
 |true=>
 refine ao ⟨_,rfl,_,rfl,Z,_,rfl,.inr<|SqT.of<|d _ _ WX,rfl,aU _,_,rfl,?_⟩;show(if(!gY (.int z) (g.map V.int))=N7 then _ else _)
 rw[bC];cases N:g.contains z with
 |false=>exact aq<|aq<|L (by unfold c_;rw[I,N];rfl) _ d
 |true=>
 refine ao ⟨_,rfl,_,rfl,_,rfl,l2,_,rfl,.inr<|SqT.of<|d _ _ WW,rfl,aU _,_,rfl,?_⟩;show(if(!gY (.int (-z)) (m.map V.int))=N7 then _ else _)
 rw[bC];cases c3:m.contains (-z)with
 |false=>exact aq<|L (by unfold c_;rw[I,N,c3];rfl) _ d
 |true=>
 refine ao ⟨_,rfl,_,rfl,_,rfl,Z,l2,g,m,z,rfl,d _ _ WX,d _ _ WW,by lia,by lia,λH2 O=>⟨_,rfl,?_⟩⟩;cases U:cC g m z with
 |true=>exact aq<|L (by unfold c_;rw[I,N,c3,U];rfl) _<|d.trans O
 |false=>
 have ej:c_ t o g m z=true:=by unfold c_;rw[I,N,c3,U];rfl
 rw[ej]at q;refine ao ⟨_,rfl,_,rfl,_,rfl,Z,l2,g,m,z,rfl,O _ _<|d _ _ WX,O _ _<|d _ _ WW,by lia,of.1,os.1,U,λl3 r H3 k3 ac h3=>q _ _ ((d.trans O).trans k3) ?_⟩;rw[ac.eq of.1 os.1 U]at h3;exact⟨l3,rfl,h3⟩
noncomputable abbrev rX:PQ:=cD 28
noncomputable abbrev C7:PQ:=cD 29
noncomputable abbrev C8:PQ:=cD 30
noncomputable abbrev Ie:PQ:=cD 33
inductive rY (vs:ab V)(H:Hp)(Q:VK)(E:XK):Prop
 |mk (l t:J')(c k:ab Int)(h0:vs=[.ref l,.ref t])(h:mv H l c)(a:mv H t k)(b:Q (.bl (c.any λz=>k.contains z)) H)
inductive Ig (H:Hp)(l t:J')(c k:ab Int)(i:Nat)(a:St)(h:Hp):Prop
 |mk (v:M' V)(h0:a=[gV (.ref l),gV (.ref t),v])(b:h=H)(d:((c.take i).any λz=>k.contains z)=Oc)
inductive rZ (vs:ab V)(H:Hp)(Q:VK)(E:XK):Prop
 |mk (l q:J')(c:ab Int)(xs:ab V)(cs:ab (ab Int))(h0:vs=[.ref l,.ref q])(a:mv H l c)(b:c.length<=60)(d:H q=gV (.lst xs))(e:CLs H cs xs)(f:cs.length<=900)(g:∀h,Same H h->Q (.bl<|qy c cs) h)
inductive r_ (vs:ab V)(H:Hp)(Q:VK)(E:XK):Prop
 |mk (p q:J')(t:Str)(v:V)(d:Oo)(xs:ab V)(cs:ab (ab Int))(h0:vs=[.ref p,v])(b:H p=gV (.tup [.str t,.ref q]))(c:t.length<=30)(e:H q=gV (.lst xs))(f:CLs H cs xs)(g:cs.length<=900)(i:RD H d v)(j:∀a h,Same H h->RV h (fm t.length cs d) a->Q a h)
def jd(d:Oo):Prop:=∀D,d=.tuple D->Qi (D.getD 0 .none)=N7
inductive wF (vs:ab V)(H:Hp)(Q:VK)(E:XK):Prop
 |mk (p q a:J')(t:Str)(hw:Oe)(v:V)(d:Oo)(xs ys:ab V)(cs sets:ab (ab Int))(h0:vs=[.ref p,.str<|aj hw,v,.ref a])(i:H p=gV (.tup [.str t,.ref q]))(j:t.length<=30)(k:H q=gV (.lst xs))(l:CLs H cs xs)(m:cs.length<=900)(n:H a=gV (.lst ys))(o:CLs H sets ys)(r:sets.length<=9000)(s:(∀c∈sets,al t.length c))(e:RD H d v)(f:jd d)(g:∀b h,Same H h->RV h (aB t cs hw sets d) b->Q b h)
theorem gt(h:cJ H d s)(l:d.length=4):∃D c e f x X a b,d=[D,c,e,f]/\s=[x,X,a,b]/\RD H D x/\RD H c X/\RD H e a/\RD H f b:=by
 match d,l with
 |[D,c,e,f],_=>
  obtain⟨x,r,rfl,g,k⟩:=ai h;obtain⟨X,q,rfl,i,j⟩:=ai k;obtain⟨a,t,rfl,m,n⟩:=ai j;obtain⟨b,u,rfl,o,p⟩:=ai n;obtain rfl:=bx p;exact⟨_,_,_,_,x,X,a,b,rfl,rfl,g,i,m,o⟩
theorem Km:Qi (.str aQ)=true:=Nice.shaped (jD 8<|by decide+kernel)
theorem Kn:Qi (.str ay)=true:=Nice.shaped (jD 8<|by decide+kernel)
theorem Ko:Qi (.str aW)=true:=Nice.shaped (jD 8<|by decide+kernel)
theorem Kp:Qi (.str aE)=true:=Nice.shaped (jD 8<|by decide+kernel)
theorem GF{a:Type}(l:ab a)(f:a->Oe):((l.map λx=>V.bl<|f x).all rB)=N7/\(l.map λx=>V.bl<|f x).all gG=l.all f:=by
 refine⟨by rw[Sb];exact Pc.mpr λz z=>rfl,?_⟩;rw[Sb];rfl
noncomputable def uP(H:Hp)(c:ab Int)(x:V):Oe:=match x with
 |.ref p=>match H p with
  |some (.tup z)=>c.any λl=>z.contains<|.int l
  |_=>Oc
 |_=>Oc
theorem C9(Z:ab Int)(l:Int):(Z.map V.int).contains (.int l)=Z.contains l:=by
 simp
theorem sd(h:CL H k x):uP H c x=c.any λl=>k.contains l:=by
 obtain⟨p,rfl,a⟩:=h;unfold uP;simp only[a];exact eu λl z=>C9 k l
theorem oo:∀{C:ab (ab Int)} {X:ab V},CLs H C X->X.all (uP H c)=qy c C:=by
 intro C X h;change Paired _ _ _ at h;induction h with
 |nil=>rfl
 |cons h t i=>rw[Sg,sd h,i];rfl
theorem mw:ee ["literals","clause","literal"] ["literals","clause"] (aD rX):=HX
theorem C_(F:Fun K "hits" "hits" rX f p):aA P w K M b bw 1 f p ["literals","clause"] rY:=by
 have y:=mw;refine F.okA mw λB A o s H C Q E D h=>?_;obtain⟨l,t,c,k,rfl,d,U,q⟩:=h;refine⟨_,(ae (fS 2 (bX<|pv 0) gg)
  (dX fj)),⟨_,rfl,l,rfl,⟨_,SqT.of d⟩,fK (K:=K) (X:=c.map V.int) (Ig H l t c k) ⟨Oa,rfl,rfl,rfl⟩ ?_ ?_ ?_⟩⟩
 ·rintro i j m Z ⟨Z,Z,rfl,Z⟩;exact SqT.of d
 ·rintro i x j m r ⟨v,rfl,rfl,a⟩;obtain⟨z,rfl,n⟩:=cK r;have e:(if Oc=N7 then !gY (.int z) (k.map V.int)else gY (.int z) (k.map V.int))=k.contains z:=by
   rw[Ov Om,bC]
  exists _,rfl,_,rfl,t,_,rfl,.inr<|SqT.of U,rfl,aU k,_,rfl;rw[e];cases g:k.contains z with
  |true=>
   have u:=O9.mpr ⟨z,N5 n,g⟩;rwa[u]at q
  |false=>
   refine ao ⟨_,rfl,rfl,?_⟩;rw[OM,n,XB,a];show(k.contains z || Oc)=Oc
   rw[g];rfl
 rintro j m ⟨v,rfl,rfl,a⟩;rw[Ol<|by rw[A'];exact N' _]at a;rwa[a]at q
theorem Da(F:Fun K "hits_each" "hits_each" C7 f n)(T:Bl m)(L:Fe P w K m b 1 "hits" rY):aA P w K m b bw 2 f n ["literals","clauses"] rZ:=by
 refine F.okB (N:=["literals","clauses"]) λG A o s H I Q E J M h=>?_;obtain⟨l,q,c,X,N,rfl,p,O,d,a,W,t⟩:=h;have Y:=a.length;exists _,(dX<|aI (g_ rfl) rfl T.all RZ<|fV<|gS ["clause","literals"] [Oa,gV 0]<|aH<|pv 1);refine⟨_,rfl,q,rfl,⟨_,SqL.of d⟩,λD g=>eA [gV<|.ref l] (λZ=>N7) (λx=>.bl<|uP H c x) rfl d g (by lia) ?_ ?_ ?_⟩
 ·intro x j u R k r;exact r
 ·intro x j Z u R k r;obtain⟨i,y⟩:=P4.mp j;obtain⟨z,Z,v⟩:=a.get y;rw[sd v]at r;obtain⟨B,rfl,U⟩:=v;exact⟨_,rfl,_,rfl,l,B,c,z,rfl,k _ _ p,k _ _ U,r⟩
 have C:(X.filter _)=X:=RJ.mpr λZ Z=>rfl;rw[C];have e:=GF X<|uP H c;exists D,_,rfl,SqL.of aa,e.1;rw[e.2,oo a];exact t _<|ad g _
theorem Db(F:Fun K "hits_set" "hits_set" C8 f n)(T:Bl m)(r:Fe P w K m b 2 "is_set" CU)(u:Fe P w K m b 2 "hits_each" rZ):aA P w K m b bw 3 f n ["sentence","literals"] r_:=by
 refine F.okB (N:=["sentence","literals"]) λI A o s H J Q E L M h=>?_;obtain⟨p,q,t,v,d,x,c,rfl,e,N,y,z,B,i,a⟩:=h;exists _,gg;refine⟨_,rfl,_,rfl,(bu e rfl ⟨.str t,_,rfl,⟨Pu (aV<|Pm N (by decide)),rfl⟩,v,d,_,rfl,i,_,rfl,?_⟩)⟩;unfold fm at a;cases g:lV _ d with
 |false=>
  rw[g]at a;exact aq<|aq<|a _ _ (Same.refl _) rfl
 |true=>
 obtain⟨C,ok⟩:=rH g;have D:=CL.of (by rwa[<-C]);obtain⟨l,rfl,j⟩:=D;have O:=aM ok;refine ao ⟨_,rfl,_,rfl,(bu e rfl ⟨l,q,iW d,x,c,rfl,j,Pm O (Pm N (by decide)),y,z,B,λU k=>⟨_,rfl,?_⟩⟩)⟩;rw[g]at a;cases G:qy _ c with
 |false=>
  rw[G]at a;exact aq<|a _ _ k rfl
 |true=>
  rw[G]at a;exact ao ⟨_,rfl,a _ _ k ⟨l,rfl,k _ _ j⟩⟩
theorem GG(F:Fun K "line_set" "line_set" Ie f fd)(T:Bl M)(ac:Fe P w K M B 1 "begins_with" wE)(am:Fe P w K M B 3 "given_set" rT)
  (an:Fe P w K M B 3 "hits_set" r_) (as:Fe P w K M B 3 "join_set" rW) (av:Fe P w K M B 4 "drop_set" rV):aA P w K M B bw 5 f fd ["sentence","hand","line","ahead"] wF:=by
 refine F.okB (N:=["sentence","hand","line","ahead"]) λQ_ A O s H vs Q E sc hr h=>?_;obtain⟨p,q,a,t,e,v,d,xs,ys,C,c,rfl,I,J,hq,S_,h9,ha,hs,h8,n,j,i,g⟩:=h;exists _,gg;have ew:decide (V.str (aj e)=V.str (Oh "wisher"))=e:=by
  have z:=c9 e N7;have Z:aj N7=Oh "wisher":=rfl;simp_all
 have es:decide (V.str (aj e)=V.str (Oh "spoiler"))=!e:=by
  have z:=c9 e Oc;have Z:aj Oc=Oh "spoiler":=rfl;simp_all
 refine iH λN hN=>?_;have o:(!e&&bD aE 2 d)=Oc->N (L2.start ["sentence","hand","line","ahead"] [.ref p,.str<|aj e,v,.ref a]) H:=λu=>hN _ _ (by
  refine iH λN2 U=>?_;have y:(e&&bD aW 2 d)=Oc->N2 (L2.start ["sentence","hand","line","ahead"] [.ref p,.str<|aj e,v,.ref a]) H:=λG=>U _ _ (by
   have L:aB t C e c d=if bD aQ 4 d=N7 then cX t e c (hW d 1) (hW d 2) (hW d 3)else if bD ay 2 d=N7 then dW t e c (hW d 1)else none:=by
    unfold aB;rw[u,G];rfl
   rw[L]at g;exists _,rfl,v,d,aQ,4,rfl,j,by simp,Km,i,_,rfl;cases W:bD aQ 4 d with
   |true=>
    rw[W,Ox rfl]at g;obtain⟨Y,rfl,l⟩:=jK W;obtain⟨b,zs,rfl,k,m⟩:=ak j;obtain⟨d0,D,d2,d3,X,x,x2,x3,rfl,rfl,r0,r,r2,r3⟩:=gt m l;exact aq ⟨_,rfl,_,rfl,_,rfl,_,rfl,p,a,b,t,_,e,X,x,x2,x3,D,d2,d3,ys,c,rfl,I,J,k,ha,hs,h8,n,r,r2,r3,g⟩
   |false=>
   rw[W,Ov Om]at g;refine ao ⟨_,rfl,v,d,ay,2,rfl,j,by simp,Kn,i,_,rfl,?_⟩;cases c4:bD ay 2 d with
   |true=>
    rw[c4,Ox rfl]at g;obtain⟨Y,rfl,l⟩:=jK c4;obtain⟨b,zs,rfl,k,m⟩:=ak j;obtain⟨d0,D,X,x,rfl,rfl,r0,r⟩:=cw m l;exact aq ⟨_,rfl,_,rfl,_,rfl,(bu k rfl ⟨_,rfl,p,a,t,_,e,x,D,ys,c,rfl,I,J,ha,hs,h8,n,r,g⟩)⟩
   |false=>
    rw[c4,Ov Om]at g;exact ao<|g _ _ (Same.refl _) rfl)
  refine⟨_,rfl,.inl ⟨rfl,_,rfl,?_⟩⟩;dsimp only;rw[ew];cases e with
  |false=>exact ao<|ao<|y rfl
  |true=>
  refine aq ⟨_,rfl,v,d,aW,2,rfl,j,by simp,Ko,i,_,rfl,?_⟩;cases G:bD aW 2 d with
  |false=>exact ao<|y G
  |true=>
   have L:aB t C N7 c d=fm t.length C (hW d 1):=by
    unfold aB;rw[G];rfl
   rw[L]at g;obtain⟨Y,rfl,l⟩:=jK G;obtain⟨b,zs,rfl,k,m⟩:=ak j;obtain⟨d0,D,X,x,rfl,rfl,r0,r⟩:=cw m l;exact aq ⟨_,rfl,_,rfl,(bu k rfl ⟨p,q,t,x,D,xs,C,rfl,I,J,hq,S_,h9,r,g⟩)⟩)
 refine⟨_,rfl,.inl ⟨rfl,_,rfl,?_⟩⟩;dsimp only;rw[es];cases e with
 |true=>exact ao<|ao<|o rfl
 |false=>
 refine aq ⟨_,rfl,v,d,aE,2,rfl,j,by simp,Kp,i,_,rfl,?_⟩;cases u:bD aE 2 d with
 |false=>exact ao<|o u
 |true=>
  have L:aB t C Oc c d=fi C (hW d 1):=by
   unfold aB;rw[u];rfl
  rw[L]at g;obtain⟨Y,rfl,l⟩:=jK u;obtain⟨b,zs,rfl,k,m⟩:=ak j;obtain⟨d0,D,X,x,rfl,rfl,r0,r⟩:=cw m l;exact aq ⟨_,rfl,_,rfl,(bu k rfl ⟨p,q,_,x,D,xs,C,rfl,I,hq,S_,h9,r,λv' hv=>g _ _ (Same.refl _) hv⟩)⟩
noncomputable abbrev yw:PQ:=cD 34
inductive ou (vs:ab V)(H:Hp)(Q:VK)(E:XK):Prop
 |mk (p q pp L:J')(t:Str)(hw:Oe)(xs s:ab V)(cs:ab (ab Int))(ds:ab Oo)(out:ab (ab Int))(h0:vs=[.ref p,.ref pp])(g:H p=gV (.tup [.str t,.ref q]))(i:t.length<=30)(j:H q=gV (.lst xs))(k:CLs H cs xs)(m:cs.length<=900)(n:(∀c∈cs,al t.length c))(o:H pp=gV (.tup [.str<|aj hw,.ref L]))(r:H L=gV (.lst s))(u:cJ H ds s)(a:ds.length<=9000)(b:(∀d∈ds,jd d))(e:aY t cs hw [] ds=(out,N7))(f:∀l ys h,Same H h->H l=Oa->h l=gV (.lst ys)->CLs h out ys->Q (.ref l) h)
inductive oz (p:J')(pp:J')(s:J')(t:Str)(cs:ab (ab Int))(hw:Oe)(ds:ab Oo)(H:Hp)(i:Nat)(a:ab (M' V))(G:Hp):Prop
 |mk (x:M' V)(X:M' V)(b:M' V)(ys:ab V)(sets:ab (ab Int))(I:a=[gV<|.ref p,gV<|.ref pp,gV<|.ref s,x,X,b])(c:G s=gV (.lst ys))(d:CLs G sets ys)(e:aY t cs hw [] (ds.take i)=(sets,N7))(f:Same H G)
theorem Au(F:Fun K "sets_of" "sets_of" yw f fd)(T:Bl mg)(an:Fe P w K mg B 5 "line_set" wF):aA P w K mg B bw 6 f fd ["sentence","paper"] ou:=by
 refine F.okB (N:=["sentence","paper","sets","place","line","literals"]) λQ_ A O s H vs Q E sc hr h=>?_;obtain⟨p,q,pp,la,t,v,xs,ls,I,D,as,rfl,hp,ht,hq,S_,h9,SX,m,n,Z',h8,J,L,q'⟩:=h;have Ql:=bI Z';refine⟨_,(ae gg
  (ae (kh QX rfl gg gg
   (ae gg
   (ae (bM gg (ax fX) aN)
   gg)))
  (dX<|pv 2))),?_⟩
 refine⟨OG _,λM l=>?_⟩;have N:=ad l<|.lst [];refine⟨_,rfl,(bu (N _ _ m) rfl ⟨la,rfl,⟨_,SqL.of<|N _ _ n⟩,?_⟩)⟩;refine t6 (K:=K) (a:=la) (X:=ls) (oz p pp M t I v D H)
  ⟨Oa,Oa,Oa,[],[],rfl,aa,.nil,rfl,N⟩ ?_ ?_ ?_
 ·rintro i σ G V ⟨V,V,V,V,V,V,V,V,V,k⟩;exact SqL.of<|k _ _ n
 ·rintro i x σ G t1 hx ⟨x3,x4,x5,Y,a,rfl,y,r,g,U⟩ W;have V2:i<ls.length:=(N8.mp hx).1;have rx:=cV Z' hx;have z:=getD_some (d:=P_) (show i<D.length by exact Pe V2 (UC Ql));generalize D.getD i .none=d at rx z;have X:d∈D:=N5 z;have u:Same G (upd G t1<|.tup [.int i,x]):=ad W _;have j:=U.trans u;have Z:=bU g;rw[OJ,Rc]at Z;have ac:∀c∈a,al t.length c:=by
   have:=eQ (w:=v) SX (D:=D.take i) (s:=[]) (by simp);rw[g]at this;exact this
  exists t1,_,rfl,SqT.of aa,rfl,_,_,rfl,_,_,rfl,rfl;refine⟨_,rfl,_,rfl,(bu (j _ _ m) rfl ⟨_,rfl,_,rfl,p,q,M,t,v,x,d,xs,Y,I,a,rfl,j _ _ hp,ht,j _ _ hq,S_.mono j,h9,u _ _ y,r.mono u,by lia,ac,bJ j _ _ rx,J d X,λv' H3 k3 hv=>?_⟩)⟩;cases hl:aB t I v a d with
  |none=>
   rw[ya g z hl]at L;cases L
  |some c=>
   rw[hl]at hv;obtain⟨tc,rfl,Ur⟩:=hv;have am:=j.trans k3;have C:=k3 _ _<|u _ _ y;refine⟨_,rfl,rfl,_,rfl,ao ?_⟩;exists _,rfl,.inl ⟨rfl,_,SqL.of C⟩,_,rfl,M,_,_,rfl,rfl,C,(by rw[<-r.length];exact aV<|by lia);refine⟨_,_,_,Y++[.ref tc],a++[c],rfl,aa,CLs.snoc (CL.upd ⟨tc,rfl,Ur⟩ C)<|(r.mono<|u.trans k3).upd C,run_next g z hl,λb o e=>?_⟩;rw[ag<|af e l];exact am _ _ e
 rintro σ G ⟨x3,x4,x5,Y,a,rfl,y,r,g,U⟩;rw[Ol (by simp_all),L]at g;cases g;exact⟨_,rfl,q' _ _ _ U l y r⟩
noncomputable abbrev Mq:PQ:=cD 70
noncomputable abbrev Ih:PQ:=cD 71
noncomputable abbrev Dc:PQ:=cD 72
noncomputable abbrev Dd:PQ:=cD 73
noncomputable abbrev yx:PQ:=cD 74
inductive qH (vs:ab V)(H:Hp)(Q:VK)(E:XK):Prop
 |mk (t:Str)(hw:Oe)(l:Int)(h0:vs=[.str t,.str<|aj hw,.int l])(h:1<=absI l)(a:absI l<=t.length)(b:t.length<=900)(c:Q (.bl<|cu t (absI l-1).toNat == hw) H)
def De:Sp:=λs H Q _=>∃v d m,s=[v,.int m]/\RD H d v/\(∀x,d=.tuple x->x.length<=18)/\∀h,Same H h->Q (.bl<|lV m d) h
def K0(n:ab Int):Prop:=∀a∈n,∀b∈n,absI a=absI b->a=b
inductive se (vs:ab V)(H:Hp)(Q:VK)(E:XK):Prop
 |mk (p:J')(ns:ab Int)(h0:vs=[.ref p])(a:H p=gV (.lst<|ns.map V.int))(b:ns.length<=18)(c:K0 ns)(d:∀(l:J') (r:ab Int) (h:Hp),Same H h->mv h l r->Ups r->(∀x,x∈r↔x∈ns)->Q (.ref l) h)
inductive sh (vs:ab V)(H:Hp)(Q:VK)(E:XK):Prop
 |mk (q:J')(t:Str)(hw:Oe)(c:ab Int)(h0:vs=[.str t,.str<|aj hw,.ref q])(a:t.length<=30)(b:mv H q c)(d:al t.length c)(e:∀(l:J') (h:Hp),Same H h->mv h l (aG t hw c)->Q (.ref l) h)
theorem uQ:∀a b:ab Int,Rv (a.map .int) (b.map .int)=decide (a=b)
 |[],[]=>by rfl
 |[],_::_=>by rfl
 |_::_,[]=>by rfl
 |x::a,y::b=>by
  rw[OU,OU,Rv,uQ a b];have e:O4 (.int x) (.int y)=decide (x=y):=by
   rfl
  simp_all
theorem GH(a b:ab Int):O4 (.list<|a.map .int) (.list<|b.map .int)=decide (a=b):=uQ a b
theorem qI:∀{D:ab Oo} {m b:Int},f_ m b D=N7->∀d∈D,∃z,d=.int z
 |[],_,_,_,_,h=>nomatch h
 |e::D,m,b,h,d,H=>by
  obtain⟨z,rfl⟩|n:=hU e
  ·rw[hO]at h
   split at h
   ·obtain rfl|H:=OC.mp H
    ·exact⟨z,rfl⟩
    exact qI h d H
   simp_all
  rw[nj n]at h;cases h
noncomputable def Df(m:Int):V->Oe
 |.int z=>decide (z<1) || decide (z>m)
 |_=>Oc
theorem Dg(m:Int)(N:ab Int):(((N.map V.int).filter<|Df m).map id).length=(N.filter λz=>decide (z<1) || decide (z>m)).length:=by
 rw[A']
 induction N with
 |nil=>rfl
 |cons n r i=>
  rw[OU];by_cases h:(decide (n<1) || decide (n>m))=N7
  ·rw[P' (a:=V.int n) h,P' (p:=λz=>decide _ || decide (z>m)) h,OE,OE,i]
  rw[Qa (a:=V.int n) h,Qa (p:=λz=>decide _ || decide (z>m)) h,i]
noncomputable def pL:V->Oe
 |.int _=>N7
 |_=>Oc
theorem Ii(h:RD H d v):(kB d&&!md d)=pL v:=by
 cases d with
 |int z=>rw[ar h];rfl
 |none=>rw[h];rfl
 |bool b=>rw[h];rfl
 |str x=>rw[aR h];rfl
 |list D=>obtain⟨a,X,rfl,y⟩:=dC h;rfl
 |tuple D=>obtain⟨a,X,rfl,y⟩:=ak h;rfl
 |dict _=>unfold RD at h;simp_all
theorem yy:∀{D:ab Oo} {X:ab V},cJ H D X->(∃l:ab Int,D=l.map .int/\(X.filter λx=>!pL x)=[])\/((X.filter λx=>!pL x)≠[]/\∃d∈D,∀z,d≠.int z)
 |[],X,h=>by
  rw[bx h];exact .inl ⟨[],rfl,rfl⟩
 |d::D,X,h=>by
  obtain⟨y,Y,rfl,a,b⟩:=ai h;obtain⟨z,rfl⟩|n:=hU d
  ·obtain rfl:=ar a;obtain⟨l,rfl,e⟩|⟨e,d,c,n⟩:=yy b
   ·exact .inl ⟨z::l,rfl,e⟩
   exact .inr ⟨e,d,Os _ c,n⟩
  refine .inr ⟨?_,d,Ot,n⟩;have:pL y=false:=by rw[<-Ii a];exact iz n
  grind
theorem GI(H:-B<=b)(d:b<=B)(f:-B<=y)(i:y<=B)(h:Srt.lexKey B (a,b)<=Srt.lexKey B (x,y)):a<=x:=by
 unfold Srt.lexKey at h;dsimp only at h;have e:∀k,x+k=a->1<=k->False:=λk c H=>by
  have E:a*(2*B+1)=x*(2*B+1)+k*(2*B+1):=by rw[<-c,aeg]
  have j:2*B+1<=k*(2*B+1):=by
   have:=U3 H (show 0<=2*B+1 by lia);simp_all
  omega
 obtain g|g:=Int.lt_or_le x a
 ·exact(e (a-x) (by lia)<|by lia).elim
 exact g
theorem iI:∀{a b:ab Int},a.Nodup->(∀x∈a,x∈b)->a.length<=b.length
 |[],_,_,_=>OG _
 |x::a,b,h,g=>by
  obtain⟨d,f⟩:=PF.mp h;have H:=g x Ot;have:=iI f λy c=>(Ys (show y≠x from λe=>d<|by rwa[<-e])).mpr<|g y<|Os _ c;rw[Wz H]at this;have:=SF H;rw[OE];lia
noncomputable def Kq(n:ab Int):Int:=(n.map absI).foldl max 0
theorem yz(h:l∈n):absI l<=Kq n:=(gj _ 0).1.2 _<|Qr h
theorem si{n:ab Int}{B:Int}{p:ab (Int×Int)}(f:∀l∈n,-B<=l/\l<=B)(u:K0 n)(N:p.Nodup)(m:∀q,q∈p↔q∈n.map λl=>(absI l,l))(s:(p.map<|Srt.lexKey B).Pairwise (·<=·)):
  Ups (p.map (·.2))/\(∀x,x∈p.map (·.2)↔x∈n):=by
 have H:∀q∈p,q.1=absI q.2/\q.2∈n:=λq h=>by
  simp_all
 have mem:∀x,x∈p.map (·.2)↔x∈n:=λx=>by
  simp_all
 refine⟨nU ?_ ?_ ?_,mem⟩
 ·rw[OY,Ph];rw[Ph]at s;refine TV (λ{a b} c d h=>?_) s;show absI a.2<=absI b.2
  rw[<-(H a c).1,<-(H b d).1];have g:=f _ (H a c).2;have i:=f _ (H b d).2;exact GI g.1 g.2 i.1 i.2 h
 ·rw[Qt,Ph];exact TV (λ{a b} c d h e=>h (R8 (by rw[(H a c).1,(H b d).1,e]) e))<|Qt.mp N
 intro a c b d e;exact u a ((mem a).mp c) b ((mem b).mp d) e
theorem Kr(F:Fun K "_law_own" "_law_own" Mq f g)(T:Bl m):aA P w K m B bw 1 f g ["_law_turns","_law_hand","_law_literal"] qH:=by
 refine F.okB (N:=["_law_turns","_law_hand","_law_literal"]) λi A o s H j Q E k r h=>?_;obtain⟨t,b,l,rfl,L,n,p,q⟩:=h;exists _,gg;have v:(absI l-1).toNat<t.cps.toList.length:=by
  show _<t.length
  omega
 obtain⟨c,a⟩:∃c,t.cps.toList[(absI l-1).toNat]?=gV c:=⟨_,N_ v⟩;have d:kq t.cps.toList (absI l-1)=gV c:=by
  have e:absI l-1=(((absI l-1).toNat):Int):=by lia
  rw[e];exact aK a
 refine⟨_,rfl,_,rfl,l,rfl,_,_,rfl,rfl,.inr<|.inr ⟨t,_,_,rfl,rfl,Pu (aV<|Pm p (by decide)),d,.inl ⟨rfl,_,rfl,.inl ⟨rfl,.inl ⟨rfl,?_⟩⟩⟩⟩⟩;rw[HN,<-wj a,LY];have e:decide (V.bl (cu t (absI l-1).toNat)=V.bl b)=(cu t (absI l-1).toNat == b):=by
  cases cu t _<;>cases b<;>rfl
 rwa[e]
theorem Ks:ee ["_law_thing"] ["_law_thing"] (aD Dd):=HX
theorem GJ(F:Fun K "_law_number" "_law_number" Dd f c)(T:Bl m):aA P w K m b bw 1 f c ["_law_thing"] jO:=by
 refine F.okA Ks λe A o s H g Q E r h=>?_;obtain⟨v,d,rfl,a,q⟩:=h;have n:=dD a;exists _,gg;exists _,rfl,v,_,"int",_,rfl,iT d v a,xD d n,_,rfl;cases I:kB d with
 |false=>
  rwa[I]at q
 |true=>
  rw[I]at q;exact aq ⟨_,rfl,v,_,"bool",_,rfl,iT d v a,jw d n,_,rfl,q⟩
theorem Av(F:Fun K "_law_is_set" "_law_is_set" yx f fd)(T:Bl mg)(ZC:Fe P w K mg C 1 "_law_number" jO):aA P w K mg C bw 2 f fd ["_law_thing","_law_most"] De:=by
 refine F.okB (N:=["_law_thing","_law_most","_law_variables"]) λQ_ A ac s H vs Q E sc hr h=>?_;obtain⟨v,d,m,rfl,M,hz,q⟩:=h;have hu:=hr.units;have nd:=dD M;refine⟨_,(ae (bM (PW.pt<|lu gg<|vH<|pK tG (aI cj rfl T.len Qh<|fV<|gS ["_law_one"] [Oa]<|bX<|pv 0) bW) (dX fj) aN)
  (ae (Ml 2 ["_law_literal"] [Oa]<|bX<|pv 0)
  (dX<|rh (Am (d_ hu) (pv 2)<|Gc rfl rfl T.sorted rfl T.set<|pv 2)<|rg<|Am (d_ hu) (aI cj rfl T.len Qh<|fV<|gS ["_law_one","_law_most"] [Oa,gV 1]<|aH<|pv 2) bW))),?_⟩
 exists _,rfl,v,_,"tuple",_,rfl,iT d v M,iw d nd,_,rfl;cases d with
 |tuple N=>
  refine ao ?_;obtain⟨a,X,rfl,p,u⟩:=ak M;have Ql:=bI u;have am:=hz N rfl;have c:∀b,Same H b->Q (.bl<|f_ m 0 N) b:=q;refine⟨_,rfl,a,rfl,⟨_,SqT.of p⟩,λD0 G=>?_⟩;refine bG [] (λx=>!pL x) (λx=>x) rfl p G (by lia) (λx t b R k r=>?_) (λx S S b R S r=>⟨_,rfl,r⟩) ?_
  ·obtain⟨i,O⟩:=P4.mp t;have rx:=bJ k _ _<|cV u O;exists _,rfl,x,_,rfl,rx,_,rfl;rw[Ii rx];exact r
  rw[Tt];have I:=ad G<|.lst<|X.filter λx=>!pL x;have r0:=@aa H D0 (.lst<|X.filter λx=>!pL x);generalize upd H D0 (.lst<|X.filter λx=>!pL x)=B at I r0;exists .ref D0,_,rfl,.inl ⟨_,SqL.of r0,rfl⟩,_,_,rfl,rfl,_,rfl;obtain⟨l,rfl,e0⟩|⟨e0,d,Y4,hn⟩:=yy u
  rotate_left
  ·have UQ:(0:Int)<((X.filter λx=>!pL x).length:Int):=by
    simp_all
   have UK:f_ m 0 N=false:=by
    cases g:f_ m 0 N with
    |false=>rfl
    |true=>
     obtain⟨z,an⟩:=qI g _ Y4;exact absurd an<|hn z
   rw[UK]at c;show(if decide (((X.filter λx=>!pL x).length:Int)>0)=N7 then _ else _)
   rw[On UQ];exact aq<|c _ I
  ·rw[e0];refine ao ?_;replace p:=I _ _ p;replace u:=bN I _ _ u;replace c:∀b,Same B b->Q (.bl<|f_ m 0<|l.map .int) b:=λb k=>c b<|I.trans k;clear q M;rw[A']at Ql am;refine⟨_,rfl,a,rfl,⟨_,SqT.of p⟩,λD hD=>?_⟩;refine tZ (K:=K) (a:=a) (xs:=X) (λi U Z j=>(∃v0,U=[v0])/\Z=((l.map absI).take i).map V.int/\j=upd B D (.lst Z)) ⟨⟨Oa,rfl⟩,rfl,rfl⟩ ?_ ?_ ?_
   ·rintro i U Z j S ⟨S,S,rfl⟩;refine⟨aa,SqT.of ?_⟩;rw[ag<|af p hD];exact p
   ·rintro i y U Z j O ⟨⟨v0,rfl⟩,rfl,rfl⟩;have V2:i<X.length:=(N8.mp O).1;have hy:=cV u O;have J:l[i]?=gV (l.getD i 0):=by
     simp_all
    have e:(l.map UY).getD i .none=.int (l.getD i 0):=by
     rw[N6,Ow,J];rfl
    rw[e]at hy;obtain rfl:=ar hy;refine bV ⟨_,rfl,_,rfl,aa,?_,⟨_,rfl⟩,?_,eO⟩
    ·rw[A',OJ,A'];exact aV (by lia)
    rw[OM,Ow,J,OI];rfl
   ·rintro U Z j ⟨S,rfl,rfl⟩;rw[Ol<|by simp_all];have k3:Same B (upd B D<|.lst<|(l.map absI).map V.int):=ad hD _;have r3:=@aa B D (.lst<|(l.map absI).map V.int);generalize upd B D (.lst<|(l.map absI).map V.int)=j at k3 r3;refine⟨_,rfl,_,rfl,D,l.map absI,rfl,SqL.of r3,(by rw[A'];exact Pm am (by decide)),λl2 L WW as av Zx=>?_⟩;have W:Same j (upd j l2<|.lst<|L.map V.int):=ad WW _;have Y:=W _ _ r3;have s4:=@aa j l2 (.lst<|L.map V.int);generalize upd j l2 (.lst<|L.map V.int)=H4 at W Y s4;refine .inr ⟨.list<|(l.map absI).map .int,.list<|L.map .int,dm Y<|ju _,dm s4<|ju _,lI _,lI _,_,rfl,?_⟩;rw[GH];have az:=wq (m:=m) as av Zx;rw[<-az]at c;by_cases g:l.map absI=L
    ·rw[On g]at c ⊢;refine aq ⟨_,rfl,D,rfl,⟨_,SqL.of Y⟩,λD2 V9=>?_⟩;refine eA [gV<|.int m] (Df m) id rfl Y V9 (by rw[A',A'];exact Pm am (by decide)) (λx t b R S hR=>?_) (λx S S b R S hR=>⟨_,rfl,hR⟩) ?_
     ·obtain⟨z,S,rfl⟩:=OK.mp t;exists _,rfl,_,_,rfl,rfl,_,rfl;have o:R (decide (z<1) || decide (z>m)) b:=hR;cases g1:decide (z<1)with
      |true=>
       rw[g1]at o;exact aq o
      |false=>
       rw[g1]at o;exact ao ⟨_,rfl,_,rfl,_,_,rfl,rfl,_,rfl,o⟩
     refine⟨.ref D2,_,rfl,.inl ⟨_,SqL.of aa,rfl⟩,.inl ⟨rfl,?_⟩⟩;have q2:=c _<|k3.trans<|W.trans<|ad V9<|.lst<|(((l.map absI).map V.int).filter<|Df m).map id;rw[Dg];have e:∀n,decide (V.int (n:Int)=V.int 0)=decide ((n:Int)=0):=λn=>Rk.mpr ⟨λz=>V.int.inj z,λz=>by rw[z]⟩;rw[e];exact q2
    ·rw[Ob g]at c ⊢;exact ao<|c _<|k3.trans W
 |_=>exact aq<|aq<|q H<|Same.refl _
theorem GK(F:Fun K "_law_set" "_law_set" Ih f fd)(T:Bl mg):aA P w K mg as bw 1 f fd ["_law_literals"] se:=by
 refine F.okB (N:=["_law_literals"]) λQ_ A O s H U Q E sc hr h=>?_;obtain⟨p,n,rfl,hp,av,W,q⟩:=h;have hu:=hr.units;exists _,(dX<|bF bH rfl T.tuple P2<|fV<|jx (N:=["_law_variable","_law_literal"]) (d:=[Oa,Oa]) rfl cS (aH<|Cd hu rfl rfl T.sorted rfl T.set<|gS ["_law_literal"] [Oa]<|aH<|pv 0) (λS S S S=>(rG (K:=K) (n:=2) rfl rfl<|fz (lW 0<|nD ["_law_variable","_law_literal"])<|fz (lW 1<|nD ["_law_variable","_law_literal"]) l7)) (λS S S S=>iy) λS S S S=>(pv 1));refine⟨_,rfl,p,rfl,⟨_,SqL.of hp⟩,λD hD=>?_⟩;refine bv (K:=K) (a:=p) (xs:=n.map V.int) (λi c y a=>(∃r,c=[r])/\a D=gV (.lst y)/\Same H a/\Paired (PR a) ((n.take i).map λl=>(absI l,l)) y) ⟨⟨Oa,rfl⟩,aa,ad hD _,.nil⟩ ?_ ?_ ?_
 ·rintro i c y a S ⟨S,j,k,S⟩;exact⟨j,SqL.of<|k _ _ hp⟩
 ·rintro i x c y a m ⟨⟨r,rfl⟩,j,k,b⟩;have V2:i<(n.map V.int).length:=(N8.mp m).1;rw[A']at V2;obtain⟨z,rfl,u⟩:=cK m;have X:y.length=i:=by
   rw[<-Paired.length b,A',OJ];exact Vj (Pu V2)
  refine bV ⟨_,rfl,z,rfl,_,rfl,(by show 2<=sizeLine;decide),λB Y=>?_⟩;have d:Same a (upd a B<|.tup [.int (if z<0 then -z else z),.int z]):=ad Y _;have L:=d _ _ j;have g:=@aa a B (.tup [.int (if z<0 then -z else z),.int z]);generalize upd a B (.tup [.int (if z<0 then -z else z),.int z])=C at d L g;exists L,(by rw[X];exact aV<|by lia),⟨_,rfl⟩,aa,(k.trans d).upd_new hD _;have e:(n.take<|i+1).map (λl=>(absI l,l))=(n.take i).map (λl=>(absI l,l))++[(absI z,z)]:=by
   rw[OM,u,OI];rfl
  rw[e];have up:∀{qs:ab (Int×Int)} {U:ab V},Paired (PR C) qs U->Paired (PR<|upd C D<|.lst<|y++[.ref B]) qs U:=λhh=>Paired.mapP hh λq v ⟨t,et,ht⟩=>⟨t,et,by
   rw[ag λez=>by simp_all];exact ht⟩
  exact Paired.snoc (up<|PR.mono d b) (by
   exists B,rfl;rw[ag λez=>by lia];exact g)
 rintro c y a ⟨S,j,k,b⟩;rw[A',Ol<|N' _]at b;refine⟨D,y,n.map λl=>(absI l,l),Kq n,rfl,j,b,by rw[A'];exact Pm av (by decide),λq hq=>?_,λl G M hl nd hm I ac=>?_⟩
 ·obtain⟨z,u,rfl⟩:=OK.mp hq;have:=yz u;obtain⟨S,e⟩|⟨S,e⟩:=au z<;>(lia)
 have d:=ad hl<|.lst G;have g:=@aa a l (.lst G);have o:=PR.mono d ac;generalize upd a l (.lst G)=C at d g o;obtain⟨s1,s2⟩:=si (B:=Kq n) (λz u=>by
  have:=yz u;obtain⟨S,e⟩|⟨S,e⟩:=au z<;>constructor<;>lia) W nd hm I
 have Xu:=Paired.length o;have az:M.length<=18:=by
  have j:(M.map (·.2)).length<=n.length:=iI s1.nodup λx m=>(s2 x).mp m;rw[A']at j;lia
 refine⟨l,rfl,⟨_,SqL.of g⟩,λD2 V9=>?_⟩;refine bv (K:=K) (a:=l) (xs:=G) (λi c Z N=>(∃r v1,c=[r,v1])/\Z=((M.take i).map (·.2)).map V.int/\N=upd C D2 (.lst Z)) ⟨⟨Oa,Oa,rfl⟩,rfl,rfl⟩ ?_ ?_ ?_
 ·rintro i c Z N S ⟨S,S,rfl⟩;refine⟨aa,SqL.of ?_⟩;rw[ag<|af g V9];exact g
 ·rintro i x c Z N m ⟨⟨r,v1,rfl⟩,rfl,rfl⟩;have V2:i<G.length:=(N8.mp m).1;obtain⟨q,hq,tq,rfl,J⟩:=paired_get o m;have am:upd C D2 (.lst (((M.take i).map (·.2)).map V.int)) tq=gV (.tup [.int q.1,.int q.2]):=by
   rw[ag<|af J V9];exact J
  refine⟨tq,_,rfl,SqT.of am,rfl,_,_,rfl,_,_,rfl,rfl,H_ ⟨_,rfl,aa,(by rw[A'];exact aV<|by grind),⟨_,_,rfl⟩,?_,eO⟩⟩;rw[OM,hq,OI,OI];rfl
 rintro c Z N ⟨S,rfl,rfl⟩;rw[Ol<|by exact UC Xu];exact⟨D2,_,rfl,.inl ⟨SqL.of aa,λL3 an=>q L3 _ _ (((k.trans d).trans<|ad V9 _).trans<|ad an _) aa s1 s2⟩⟩
theorem Dh(F:Fun K "_law_dropped" "_law_dropped" Dc f fd)(T:Bl U)(YF:Fe P w K U B 1 "_law_own" qH):aA P w K U B bw 2 f fd ["_law_turns","_law_hand","_law_literals"] sh:=by
 refine F.okB (N:=["_law_turns","_law_hand","_law_literals","_law_last"]) λQ_ A O s H vs Q E sc hr h=>?_;obtain⟨q,t,b,c,rfl,h9,j,g,q'⟩:=h;have Vl:=aM g;refine⟨_,(ae (sT 3<|aI (z_ rfl) rfl T.max XN<|fV<|eU mR gg<|gS ["_law_literal","_law_turns","_law_hand"] [Oa,gV 0,gV 1]<|bX<|pv 2)
  (dX<|bF bH rfl T.tuple P2<|fV<|gS ["_law_literal","_law_last"] [Oa,gV 3]<|bX<|pv 2)),?_⟩
 refine⟨(by show 1<=sizeLine;decide),λL u=>?_⟩;have o:=ad u<|.lst [.int 0];have W:=@aa H L (.lst [.int 0]);generalize upd H L (.lst [.int 0])=X at o W;refine⟨_,rfl,q,rfl,⟨_,SqT.of<|o _ _ j⟩,λD Y=>?_⟩;refine bG [gV<|.str t,gV<|.str<|aj b] (rD λl=>!(cu t (absI l-1).toNat == b)) (E_ λz=>.int<|absI z) rfl (o _ _ j) Y (by rw[A'];exact Pm Vl (Pm h9 (by decide))) ?_ ?_ ?_
 ·intro x d v R k r;obtain⟨z,hz,rfl⟩:=bK d;have:=g.2 z hz;exact⟨_,rfl,_,rfl,_,rfl,t,b,z,rfl,this.1,this.2,Pm h9 (by decide),_,rfl,r⟩
 ·intro x d S v R k r;obtain⟨z,S,rfl⟩:=bK d;exact⟨_,rfl,z,rfl,r⟩
 have e:((c.map V.int).filter<|rD λl=>!(cu t (absI l-1).toNat == b)).map (E_ λz=>.int<|absI z)=((c.filter λl=>!(cu t (absI l-1).toNat == b)).map absI).map V.int:=by
  rw[om,OY];rfl
 rw[e];have ac:=Po (λl=>!(cu t (absI l-1).toNat == b)) c;have n:∀a∈(c.filter λl=>!(cu t (absI l-1).toNat == b)).map absI,0<=a:=λa y=>by
  obtain⟨z,S,rfl⟩:=OK.mp y;exact yp z
 have Z:fC t b c=((c.filter λl=>!(cu t (absI l-1).toNat == b)).map absI).foldl max 0:=rfl;have C:((c.filter λl=>!(cu t (absI l-1).toNat == b)).map absI).length<=30:=by
  rw[A'];exact Pm ac (Pm Vl h9)
 generalize (c.filter λl=>!(cu t (absI l-1).toNat == b)).map absI=m at n Z C;have G:=ad Y<|.lst<|m.map V.int;have r2:=@aa X D (.lst<|m.map V.int);generalize upd X D (.lst<|m.map V.int)=H2 at G r2;refine⟨L,D,_,_,rfl,rfl,G _ _ W,r2,(by rw[A',OL];exact Pu<|aV<|by lia),λp I=>?_⟩;have k3:=ad I<|.lst ([V.int 0]++m.map V.int);have r3:upd H2 p (.lst ([V.int 0]++m.map V.int)) p=gV (.lst<|(0::m).map V.int):=aa;generalize upd H2 p (.lst ([V.int 0]++m.map V.int))=H3 at k3 r3;refine⟨p,0::m,rfl,SqL.of r3,(by simp),λM m1 m2=>?_⟩;have eM:fC t b c=M:=by
  rw[Z];refine Co n ?_ (λa y=>m2 a<|Os _ y)<|m2 0 Ot;grind
 rw[<-eM];have J:=o.trans<|G.trans k3;refine⟨_,rfl,q,rfl,⟨_,SqT.of<|J _ _ j⟩,λD2 V9=>?_⟩;refine bG [gV<|.int<|fC t b c] (rD λl=>decide (absI l<=fC t b c)) (λx=>x) rfl (J _ _ j) V9 (by rw[A'];exact Pm Vl (Pm h9 (by decide))) ?_ ?_ ?_
 ·intro x d v R k r;obtain⟨z,S,rfl⟩:=bK d;exact⟨_,rfl,z,rfl,_,rfl,_,_,rfl,rfl,_,rfl,r⟩
 ·intro x d S v R k r;exact⟨_,rfl,r⟩
 rw[bO c (λl=>decide _) _ λi=>rfl];exact⟨D2,_,rfl,.inl ⟨SqL.of aa,λL3 N=>q' L3 _ ((J.trans<|ad V9 _).trans<|ad N _) aa⟩⟩
noncomputable abbrev Di:PQ:=cD 75
noncomputable abbrev Dj:PQ:=cD 76
inductive mx (vs:ab V)(H:Hp)(Q:VK)(E:XK):Prop
 |mk (a:J')(v:V)(d:Oo)(ys:ab V)(h0:vs=[.ref a,v])(h:H a=gV (.lst ys))(b:ys.length<=9000)(c:RD H d v)(e:Q (.bl (aS ys.length d).isSome) H)
inductive sj (vs:ab V)(H:Hp)(Q:VK)(E:XK):Prop
 |mk (p a b:J')(t:Str)(w:V)(hw:Oe)(zs:ab V)(ds:ab Oo)(ys:ab V)(sets:ab (ab Int))(h0:vs=[.ref p,.str<|aj hw,.ref a,.ref b])(e:H p=gV (.tup [.str t,w]))(f:t.length<=9)(g:H b=gV (.tup zs))(i:cJ H ds zs)(j:zs.length<=9000)(k:H a=gV (.lst ys))(l:CLs H sets ys)(m:sets.length<=9000)(n:(∀c∈sets,al t.length c))(d:∀v h,Same H h->RV h (if ds.length=4 then cX t hw sets (ds.getD 1 .none) (ds.getD 2 .none) (ds.getD 3 .none)else Oa) v->Q v h)
noncomputable def df(f s:ab Int)(v:Int):ab Int:=(f++s).filter λl=>!decide (absI l=v)
theorem eK:l∈df f s v↔(l∈f\/l∈s)/\absI l≠v:=by
 unfold df;rw[OF];simp
theorem yA(h:al n c)(H:l∈c)(a:-l∈c):False:=by
 have e:absI l=absI (-l):=by
  obtain⟨z,e⟩|⟨z,e⟩:=au l<;>obtain⟨z,E⟩|⟨z,E⟩:=au (-l)<;>lia
 have:=h.1.inj H a e;have b:=(h.2 l H).1;obtain⟨z,e⟩|⟨z,e⟩:=au l<;>lia
theorem Mr(j:al n f)(k:al n s):((df f s v).filter λl=>(df f s v).contains (0-l))≠[]↔cC f s v=true:=by
 constructor
 ·intro h;obtain⟨l,d⟩:=List.exists_mem_of_ne_nil _ h;obtain⟨i,c⟩:=OF.mp d;have H:(0-l)∈df f s v:=by simpa using c
  rw[show(0)-l=-l by lia]at H;obtain⟨a,A⟩:=eK.mp i;obtain⟨b,B⟩:=eK.mp H;obtain a|a:=a<;>obtain b|b:=b
  ·exact(yA j a b).elim
  ·cases g:cC f s v with
   |true=>rfl
   |false=>exact absurd b<|jJ g a A
  ·cases g:cC f s v with
   |true=>rfl
   |false=>
    refine absurd ?_<|jJ g b B;rwa[Wq]
  exact(yA k a b).elim
 intro h;obtain⟨l,d,m⟩:=O9.mp h;obtain⟨i,c⟩:=OF.mp d;have H:absI l≠v:=λe=>by rw[On e]at c;cases c
 have o:-l∈s:=by simpa using m
 have p:absI (-l)=absI l:=by
  obtain⟨z,e⟩|⟨z,e⟩:=au l<;>obtain⟨z,E⟩|⟨z,E⟩:=au (-l)<;>lia
 have M:l∈df f s v:=eK.mpr ⟨.inl i,H⟩;have q:0-l∈df f s v:=by
  rw[show(0)-l=-l by lia];exact eK.mpr ⟨.inr o,by rwa[p]⟩
 exact VW<|OF.mpr ⟨M,by simpa using q⟩
theorem Dk(H:al n f)(c:al n s)(d:cC f s v=Oc):K0 (df f s v):=by
 intro a g b h e;exact ux H.1 c.1 d (fy.mpr<|eK.mp g) (fy.mpr<|eK.mp h) e
theorem Aw(H:al t.length f):c_ t h f s z=(decide (1<=z)&&(f.contains z&&(s.contains (-z)&&(!(cu t (absI z-1).toNat == h)&&!cC f s z)))):=by
 unfold c_;rw[Qe];simp only[Pj,Oq,eH,decide_eq_true_eq];constructor
 ·rintro⟨⟨b,e,a⟩,A,c,d⟩;refine⟨b,A,c,?_,d⟩;rw[bB (by lia),a];simp
 rintro⟨b,A,c,a,d⟩;have:=(H.2 z A).2;rw[bB<|by lia]at this a;refine⟨⟨b,this,?_⟩,A,c,d⟩;cases g:cu t _<;>cases h<;>rw[g]at a<;>first|rfl|cases a
theorem GL(d:H a=gV (.tup x))(f:H b=gV (.tup y))(z:x.length+y.length<=sizeLine)(q:∀c h,Same H h->h c=gV (.tup<|x++y)->Q (.ref c) h):HQ K (.ref a) (.ref b) H Q:=
 ⟨a,b,x,y,rfl,rfl,SqT.of d,SqT.of f,z,λe=>q _ _ (Same.refl _) (by rwa[e]),λw e=>q _ _ (Same.refl _) (by simp_all),λw w p g=>q _ _ (ad g _) aa⟩
theorem my{a:Type}{l:ab a}{i:Nat}{d x:a}(h:l[i]?=gV x):l.getD i d=x:=by
 simp_all
theorem Dm(F:Fun K "_law_ahead" "_law_ahead" Di f k)(T:Bl m)(Z:Fe P w K m B 1 "_law_number" jO):aA P w K m B bw 2 f k ["_law_sets_here","_law_thing"] mx:=by
 refine F.okB (N:=["_law_sets_here","_law_thing"]) λp A o s H r Q E t u h=>?_;obtain⟨a,v,d,y,rfl,l,x,j,q⟩:=h;exists _,gg;exists _,rfl,v,d,rfl,j,_,rfl;obtain⟨z,rfl⟩|n:=hU d
 ·obtain rfl:=ar j;have b:Q (.bl (if 0<=z/\z<(y.length)then gV _ else Oa).isSome) H:=q;exists _,rfl,_,_,rfl,rfl,_,rfl;by_cases g:0<=z
  ·rw[On g];refine aq ⟨_,rfl,_,rfl,.ref a,_,rfl,.inl ⟨_,SqL.of l,rfl⟩,_,_,rfl,rfl,?_⟩;by_cases i:z<(y.length)
   ·simp_all
   rw[Ov λc=>i c.2]at b;show Q (.bl (decide _)) H
   rwa[Ob i]
  rw[Ov λc=>g c.1]at b;rwa[Ob g]
 rw[iz n];have e:aS y.length d=none:=by
  cases d with
  |int z=>lia
  |_=>rfl
 rwa[e]at q
theorem Dn(F:Fun K "_law_join" "_law_join" Dj f fd)(T:Bl X)(ZC:Fe P w K X B 1 "_law_number" jO)(az:Fe P w K X B 2 "_law_ahead" mx)
  (YF:Fe P w K X B 1 "_law_own" qH) (aC:Fe P w K X B 1 "_law_set" se):aA P w K X B bw 3 f fd ["_law_sentence_here","_law_hand","_law_sets_here","_law_line_here"] sj:=by
 refine F.okB (N:=["_law_sentence_here","_law_hand","_law_sets_here","_law_line_here","_law_rest"]) λQ_ A an s H vs Q E sc hr h=>?_;obtain⟨p,a,b,t,w,N,zs,ds,ys,o,rfl,hp,h9,m,Z',aF,O,hs,h8,Y,Z⟩:=h;have hu:=hr.units;have Ql:=hs.length;have aL:=bI Z';refine⟨_,(ae gg
  (ae gg
  (ae gg
  (ae (sT 4<|gS ["_law_literal","_law_line_here"] [Oa,gV 3] (bX<|eU Gd gg gg) (t:=λS S S S=>(cI<|pK (mZ hu) gg<|CI (K:=K) (pv 1) bW)))
  (ae (bM (pK tG (aI cj rfl T.len Qh<|fV<|gS ["_law_literal","_law_rest"] [Oa,gV 4] (aH<|pv 4) (t:=λS S S S=>(cI<|dj (fA (K:=K) rfl) gg (pv 1)<|by rfl))) bW) (dX ke) aN)
  gg))))),?_⟩
 refine⟨_,rfl,.ref b,_,rfl,.inr ⟨_,SqT.of m,rfl⟩,.inl ⟨rfl,?_⟩⟩;by_cases h4:ds.length=4
 rotate_left
 ·rw[Ov h4]at Z;exists _,rfl;have e:(!decide (V.int ((zs.length:Nat):Int)=V.int 4))=true:=by
   lia
  rw[e];exact aq<|aq<|Z _ _ (Same.refl _) rfl
 rw[Ox h4]at Z;obtain⟨d0,d1,d2,d3,x0,x1,x2,x3,rfl,rfl,r0,r1,v,r3⟩:=gt Z' h4;have q:∀v' n,Same H n->RV n (cX t N o d1 d2 d3) v'->Q v' n:=Z;clear Z;refine⟨_,rfl,ao ?_⟩;refine⟨_,rfl,_,rfl,(bu m rfl ⟨a,x1,d1,ys,rfl,O,by simp_all,r1,_,rfl,?_⟩)⟩;rw[<-Ql];cases G:aS o.length d1 with
 |none=>
  rw[yq G]at q;exact aq<|aq<|q _ _ (Same.refl _) rfl
 |some i=>
 refine ao ⟨_,rfl,_,rfl,(bu m rfl ⟨a,x2,d2,ys,rfl,O,by simp_all,v,_,rfl,?_⟩)⟩;rw[<-Ql];cases y:aS o.length d2 with
 |none=>
  rw[yr y]at q;exact aq<|aq<|q _ _ (Same.refl _) rfl
 |some j=>
 refine ao ⟨_,rfl,(bu m rfl ⟨x3,d3,rfl,r3,_,rfl,?_⟩)⟩;obtain⟨z,rfl⟩|hn:=hU d3
 rotate_left
 ·rw[iz hn];rw[yt hn]at q;exact aq<|q _ _ (Same.refl _) rfl
 obtain rfl:=ar r3;rw[yu G y]at q;obtain⟨hi,rfl⟩:=aX G;obtain⟨hj,rfl⟩:=aX y;obtain rfl:=ar r1;obtain rfl:=ar v;obtain⟨y1,C⟩:∃x,ys[i]?=gV x:=⟨_,N_ (by lia)⟩;obtain⟨y2,I⟩:∃x,ys[j]?=gV x:=⟨_,N_ (by lia)⟩;obtain⟨d,hf,l1,rfl,WX⟩:=hs.get C;obtain⟨g,ac,l2,rfl,WW⟩:=hs.get I;rw[my hf,my ac]at q;have U:=Y d (N5 hf);have os:=Y g (N5 ac);have cf:=aM U;have cs:=aM os;have u:=Aw (t:=t) (h:=N) (f:=d) (s:=g) (z:=z) U;refine ao ?_;have q0:c_ t N d g z=Oc->∀n,Same H n->Q .non n:=λe n k=>by
  rw[e]at q;exact q _ _ k rfl
 refine⟨_,rfl,(bu m rfl ⟨_,_,rfl,rfl,_,rfl,?_⟩)⟩;by_cases c0:1<=z
 rotate_left
 ·rw[On (show z<1 by exact WV c0)];exact aq<|aq<|q0 (by rw[u,Ob c0];rfl) _<|Same.refl _
 rw[Ob (show¬z<1 by exact lF c0)];rw[On c0,Si]at u;refine ao ⟨_,rfl,(bu m rfl ⟨_,rfl,_,rfl,(bu m rfl<|(iG O (aK C) ⟨l1,_,rfl,.inr<|SqT.of WX,rfl,aU _,_,rfl,?_⟩))⟩)⟩;show(if(!gY (.int z) (d.map V.int))=N7 then _ else _)
 rw[bC];cases c1:d.contains z with
 |false=>exact aq<|aq<|q0 (by rw[u,c1];rfl) _<|Same.refl _
 |true=>
 rw[c1,Si]at u;refine ao ⟨_,rfl,(bu m rfl ⟨_,_,rfl,rfl,_,rfl,_,rfl,(bu m rfl<|(iG O (aK I) ⟨l2,_,rfl,.inr<|SqT.of WW,rfl,aU _,_,rfl,?_⟩))⟩)⟩;show(if(!gY (.int (0-z)) (g.map V.int))=N7 then _ else _)
 rw[bC,Int.zero_sub];cases c2:g.contains (-z)with
 |false=>exact aq<|q0 (by rw[u,c2];rfl) _<|Same.refl _
 |true=>
 rw[c2,Si]at u;have am:=U.2 z<|Oq.mp c1;refine ao ⟨_,rfl,(bu hp rfl ⟨_,rfl,_,rfl,(bu m rfl ⟨t,N,z,rfl,am.1,am.2,Pm h9 (by decide),_,rfl,?_⟩)⟩)⟩;cases c3:(cu t (absI z-1).toNat == N)with
 |true=>exact aq<|q0 (by rw[u,c3];rfl) _<|Same.refl _
 |false=>
 rw[c3]at u;have J:c_ t N d g z=!cC d g z:=u;clear u;refine ao ⟨_,rfl,_,rfl,(bu m rfl<|(iG O (aK C) ⟨_,rfl,_,rfl,(bu m rfl<|(iG O (aK I) ?_))⟩))⟩;refine GL WX WW (by rw[A',A'];exact Pu<|aV<|by lia) λc H1 k1 hc=>?_;rw[<-OI]at hc;have as:(df d g z).length<=18:=by
  have:=Po (λl=>!decide (absI l=z))<|d++g;rw[N9]at this;unfold df;lia
 refine⟨c,rfl,⟨_,SqT.of hc⟩,λD hD=>?_⟩;refine bG [gV<|.ref b] (rD λl=>!decide (absI l=z)) (λx=>x) rfl hc hD (by rw[A',N9];lia) ?_ ?_ ?_
 ·intro x hx n R k r;obtain⟨l,S,rfl⟩:=bK hx;refine⟨_,rfl,l,rfl,_,rfl,(bu (k _ _<|k1 _ _ m) rfl<|.inl ⟨rfl,_,rfl,?_⟩)⟩;have e:decide (V.int (absI l)=V.int z)=decide (absI l=z):=by
   simp
  have r':R (!decide (absI l=z)) n:=r;rw[<-e]at r';exact r'
 ·intro x hx S n R k r;exact⟨_,rfl,r⟩
 rw[bO (d++g) (λl=>!decide (absI l=z)) _ λi=>rfl];have k2:=k1.trans<|ad hD<|.lst<|(df d g z).map V.int;have v:=@aa H1 D (.lst<|(df d g z).map V.int);change zn _ _ _ _ (upd H1 D<|.lst<|(df d g z).map V.int);generalize upd H1 D (.lst<|(df d g z).map V.int)=H2 at k2 v;refine⟨_,rfl,D,rfl,⟨_,SqL.of v⟩,λD2 V9=>?_⟩;refine eA [gV<|.ref D] (rD λl=>(df d g z).contains (0-l)) (λx=>x) rfl v V9 (by rw[A'];exact Pm as (by decide)) ?_ ?_ ?_
 ·intro x hx n R k r;obtain⟨l,S,rfl⟩:=bK hx;exists _,rfl,_,_,rfl,rfl,_,rfl,D,_,rfl,.inl<|SqL.of<|k _ _ v,rfl,aU _,_,rfl;show R (gY (.int (0-l))<|(df d g z).map V.int) n
  rw[bC];exact r
 ·intro x hx S n R k r;exact⟨_,rfl,r⟩
 rw[bO (df d g z) (λl=>(df d g z).contains (0-l)) _ λi=>rfl];have L:=Mr (v:=z) U os;generalize (df d g z).filter (λl=>(df d g z).contains (0-l))=M at L;have k3:=k2.trans<|ad V9<|.lst<|M.map V.int;have s3:=(ad V9<|.lst<|M.map V.int) _ _ v;have r3:=@aa H2 D2 (.lst<|M.map V.int);generalize upd H2 D2 (.lst<|M.map V.int)=H3 at k3 r3 s3;exists .ref D2,_,rfl,.inl ⟨_,SqL.of r3,rfl⟩,_,_,rfl,rfl,_,rfl;cases W:cC d g z with
 |true=>
  have UQ:=Sl.mpr<|L.mpr W;show(if decide (((M.map V.int).length:Int)>0)=N7 then _ else _)
  rw[On<|by rw[A'];lia];exact aq<|q0 (by rw[J,W];rfl) _ k3
 |false=>
 have he:M=[]:=by
  simp_all
 subst he;refine ao ⟨_,rfl,D,df d g z,rfl,s3,as,Dk U os W,λl r H4 k4 hl av hm=>?_⟩;rw[W]at J;rw[J]at q;refine q _ _ (k3.trans k4) ?_;have hj:Joins d g z r:=⟨av,λx=>(hm x).trans eK⟩;rw[hj.eq U.1 os.1 W]at hl;exact⟨l,rfl,hl⟩
noncomputable abbrev Do:PQ:=cD 77
noncomputable abbrev Dp:PQ:=cD 78
def sk(d:Oo):Prop:=∀D,d=.tuple D->D.length<=9000/\∀e,D.getD 1 .none=.tuple e->e.length<=18
inductive iJ (vs:ab V)(H:Hp)(Q:VK)(E:XK):Prop
 |mk (p q a:J')(t:Str)(hw:Oe)(v:V)(d:Oo)(xs ys:ab V)(cs sets:ab (ab Int))(h0:vs=[.ref p,.str<|aj hw,.ref a,v])(k:H p=gV (.tup [.str t,.ref q]))(l:t.length<=9)(m:H q=gV (.lst xs))(n:CLs H cs xs)(o:cs.length<=900)(r:(∀c∈cs,al t.length c))(s:H a=gV (.lst ys))(u:CLs H sets ys)(w:sets.length<=9000)(e:(∀c∈sets,al t.length c))(f:RD H d v)(g:jd d)(i:sk d)(j:∀b h,Same H h->RV h (aB t cs hw sets d) b->Q b h)
inductive su (vs:ab V)(H:Hp)(Q:VK)(E:XK):Prop
 |mk (p q pp L:J')(t:Str)(hw:Oe)(xs s:ab V)(cs:ab (ab Int))(ds:ab Oo)(h0:vs=[.ref p,.ref pp])(f:H p=gV (.tup [.str t,.ref q]))(g:t.length<=9)(i:H q=gV (.lst xs))(j:CLs H cs xs)(k:cs.length<=900)(m:(∀c∈cs,al t.length c))(n:H pp=gV (.tup [.str<|aj hw,.ref L]))(o:H L=gV (.lst s))(r:cJ H ds s)(a:ds.length<=9000)(b:(∀d∈ds,jd d/\sk d))(e:∀T l ys h,Same H h->h T=gV (.tup [.ref l,.bl (aY t cs hw [] ds).2])->H l=Oa->h l=gV (.lst ys)->CLs h (aY t cs hw [] ds).1 ys->Q (.ref T) h)
theorem Dq(h:∀D,d≠.tuple D):aB t c H s d=none:=by
 cases d with
 |tuple D=>lia
 |_=>cases H<;>rfl
theorem GM(h:D.nx a H):A6 D a H:=h
theorem Dr(h:cb w d=N7):d=.str w:=by
 cases d with
 |str x=>
  have:=OO ‹_›;rw[this]
 |_=>cases h
theorem gu(h:cb w d=N7)(H:decide (w=u)=Oc):cb u d=false:=by
 rwa[Dr h]
theorem wG:aB t c h s (.tuple d)=
  if cb aQ (d.getD 0 .none)=N7 then(if d.length=4 then cX t h s (d.getD 1 .none) (d.getD 2 .none) (d.getD 3 .none)else Oa)
  else if d.length=2 then(if(cb aE (d.getD 0 .none)&&!h)=N7 then fi c (d.getD 1 .none)else if(cb aW (d.getD 0 .none)&&h)=N7 then fm t.length c (d.getD 1 .none)else if cb ay (d.getD 0 .none)=N7 then dW t h s (d.getD 1 .none)else Oa)else none:=by
 have f:∀w n,bD w n (.tuple d)=(decide _&&cb w _):=λz z=>rfl;have a:∀i,hW (.tuple d) i=d.getD i _:=λz=>rfl;unfold aB;rw[f,f,f,f,a,a,a];by_cases j:cb aQ (d.getD 0 .none)=N7
 ·have H:=gu (u:=aE) j (by rfl);have b:=gu (u:=aW) j (by rfl);have e:=gu (u:=ay) j (by rfl);simp_all
 have J:cb aQ (d.getD 0 .none)=false:=by lia
 rw[J];by_cases l:d.length=2
 ·have D:=On l;have g:decide (d.length=4)=false:=Ob (by simp_all);simp only[D,g,Si,YA,OX,RI,Ox l];rw[YP _,YP h]
 simp_all
theorem hY{a:Type}{l:ab a}{p:a->Oe}:(l.filter λx=>!p x)=[]↔l.all p=true:=by
 simp
theorem Ds{c k:ab Int}:decide (V.int (((k.filter λl=>c.contains l).map V.int).length:Int)=V.int 0)=!(c.any λl=>k.contains l):=by
 rw[A'];cases g:c.any _ with
 |true=>
  obtain⟨l,h,H⟩:=O9.mp g;have:=OF.mpr ⟨Oq.mp H,Oq.mpr h⟩;have:=SF this;exact Ob λe=>by lia
 |false=>
  have:(k.filter λl=>c.contains l)=[]:=Qz.mpr λl h a=>by
   simp_all
  rw[this];rfl
theorem GN(h:cJ H d z)(l:0<d.length):∃x,z[0]?=gV x/\RD H (d.getD 0 .none) x:=by
 have Q:=bI h;obtain⟨x,a⟩:∃x,z[0]?=gV x:=⟨_,N_ (by lia)⟩;exact⟨x,a,cV h a⟩
theorem Dt(F:Fun K "_law_line" "_law_line" Do f fd)(T:Bl mg)(a8:Fe P w K mg O 3 "_law_join" sj)(a9:Fe P w K mg O 2 "_law_ahead" mx)
  (ba:Fe P w K mg O 2 "_law_is_set" De) (bb:Fe P w K mg O 2 "_law_dropped" sh):aA P w K mg O bw 4 f fd ["_law_sentence_here","_law_hand","_law_sets_here","_law_line_here"] iJ:=by
 refine F.okB (N:=["_law_sentence_here","_law_hand","_law_sets_here","_law_line_here"]) λQ_ A a0 s H vs Q E sc hr h=>?_;obtain⟨p,q,a,t,m,v,d,xs,ys,Y,u,rfl,hp,ht,hq,S_,h9,SX,ha,hs,h8,av,hd,az,aC,G⟩:=h;have hu:=hr.units;have nd:=dD hd;have Ql:=hs.length;have a1:=S_.length;refine⟨_,(ae gg
  (ae gg
  (ae gg
  (ae gg
  (ae (bM gg (ax<|bM (pK (d_ hu) (aI cj rfl T.len Qh<|fV<|gS ["_law_clause","_law_line_here"] [Oa,gV 3] (aH gg) (t:=λS S S S=>(cI<|pK (d_ hu) (aI (qf (K:=K) rfl) rfl T.len Qh<|fV<|gS ["_law_one","_law_line_here"] [Oa,gV 1] (FQ (K:=K) rfl<|pv 0) (t:=λS S S S=>(cI<|dj (fA (K:=K) rfl) (pv 0) (CI (K:=K) (pv 1) bW)<|by rfl))) bW))) bW) gg aN) aN)
  gg))))),?_⟩
 exists _,rfl,v,_,"tuple",_,rfl,iT d v hd,iw d nd,_,rfl;have ew:decide (V.str (aj m)=V.str (Oh "wisher"))=m:=by
  have z:=c9 m N7;have z2:aj N7=Oh "wisher":=rfl;simp_all
 have es:decide (V.str (aj m)=V.str (Oh "spoiler"))=!m:=by
  have z:=c9 m Oc;have z2:aj Oc=Oh "spoiler":=rfl;simp_all
 cases d with
 |tuple Z=>
  obtain⟨b,zs,rfl,U,hz⟩:=ak hd;have am:=bI hz;obtain⟨a2,aF⟩:=aC Z rfl;have an:=az Z rfl;rw[wG]at G;refine ao ⟨_,rfl,.ref b,_,rfl,.inr ⟨_,SqT.of U,rfl⟩,.inl ⟨rfl,_,rfl,?_⟩⟩;by_cases h0:Z.length=0
  ·have e:decide (V.int ((zs.length:Nat):Int)=V.int 0)=true:=On (by rw[am,h0];rfl);rw[e];have e2:Z=[]:=PN.mp h0;subst e2;exact aq<|G _ _ (Same.refl _) rfl
  have e:decide (V.int ((zs.length:Nat):Int)=V.int 0)=false:=Ob λz=>h0 (by have:=V.int.inj z;lia);rw[e];obtain⟨x0,aL,r0⟩:=GN hz (Nat.pos_of_ne_zero h0);refine ao ⟨_,rfl,(bu U (aK aL)<|.inr ⟨_,_,r0,cH _,an,Km,_,rfl,?_⟩)⟩;show(if O4 (Z.getD 0 .none) (.str aQ)=N7 then _ else _)
  rw[hV];cases c1:cb aQ (Z.getD 0 .none)with
  |true=>
   rw[c1,Ox rfl]at G;exact aq ⟨_,rfl,_,rfl,_,rfl,_,rfl,p,a,b,t,_,m,zs,Z,ys,u,rfl,hp,ht,U,hz,by simp_all,ha,hs,h8,av,G⟩
  |false=>
  rw[c1,Ov Om]at G;refine ao ⟨_,rfl,.ref b,_,rfl,.inr ⟨_,SqT.of U,rfl⟩,.inl ⟨rfl,_,rfl,?_⟩⟩;by_cases h2:Z.length=2
  rotate_left
  ·rw[Ov h2]at G;show(if(!decide (V.int ((zs.length:Nat):Int)=V.int 2))=N7 then _ else _)
   rw[Ob λz=>h2 (by have:=V.int.inj z;lia)];exact aq<|G _ _ (Same.refl _) rfl
  rw[Ox h2]at G;show(if(!decide (V.int ((zs.length:Nat):Int)=V.int 2))=N7 then _ else _)
  rw[On (show V.int ((zs.length:Nat):Int)=V.int 2 by rw[am,h2];rfl)];refine ao ?_;obtain⟨B,C,y0,x1,rfl,rfl,S,r1⟩:=cw hz h2;cases aL;have a3:∀es,C=.tuple es->es.length<=18:=aF;have as:Qi B=true:=an;replace r0:RD H B x0:=r0;replace c1:cb aQ B=false:=c1;replace G:∀I J,Same H J->RV J (if(cb aE B&&!m)=N7 then fi Y C else if(cb aW B&&m)=N7 then fm t.length Y C else if cb ay B=N7 then dW t m u C else Oa) I->Q I J:=G;clear aF an e h0 h2 am aC az a2;refine GM ?_;dsimp only;refine iH λN hN=>?_;have L:∀J,Same H J->(∀I j,Same H j->RV j (if(cb aW B&&m)=N7 then fm t.length Y C else if cb ay B=N7 then dW t m u C else Oa) I->Q I j)->N (L2.start ["_law_sentence_here","_law_hand","_law_sets_here","_law_line_here"] [.ref p,.str<|aj m,.ref a,.ref b]) J:=λH0 n q2=>hN _ _ (by
   clear G hN N;refine iH λN hN=>?_;have L:∀J,Same H J->(∀I j,Same H j->RV j (if cb ay B=N7 then dW t m u C else Oa) I->Q I j)->N (L2.start ["_law_sentence_here","_law_hand","_law_sets_here","_law_line_here"] [.ref p,.str<|aj m,.ref a,.ref b]) J:=λH0 n o=>hN _ _ (by
    clear q2 hN N;refine⟨_,rfl,(bu (n _ _ U) rfl<|.inr ⟨_,_,bJ n _ _ r0,cH _,as,Kn,_,rfl,?_⟩)⟩;show(if O4 B (.str ay)=N7 then _ else _)
    rw[hV];cases c4:cb ay B with
    |false=>
     rw[c4]at o;exact ao<|ao<|o _ _ n rfl
    |true=>
    rw[c4,Ox rfl]at o;refine aq ⟨_,rfl,_,rfl,(bu (n _ _ U) rfl ⟨a,x1,C,ys,rfl,n _ _ ha,by simp_all,bJ n _ _ r1,_,rfl,?_⟩)⟩;rw[<-Ql];unfold dW at o;cases g:aS u.length C with
    |none=>
     rw[g]at o;exact ao<|o _ _ n rfl
    |some i=>
     rw[g]at o;obtain⟨hi,rfl⟩:=aX g;obtain rfl:=ar r1;obtain⟨y,hy⟩:∃y,ys[i]?=gV y:=⟨_,N_ (Pe hi (UC Ql))⟩;obtain⟨c,hc,l,rfl,hl⟩:=hs.get hy;have a4:=av c (N5 hc);refine aq ⟨_,rfl,(bu (n _ _ hp) rfl ⟨_,rfl,_,rfl,_,rfl,(bu (n _ _ U) rfl ((iG (n _ _ ha) (aK hy) ⟨l,t,m,c,rfl,Pm ht (by decide),n _ _ hl,a4,λl2 j X WW=>o _ _ (n.trans X) ?_⟩)))⟩)⟩;show CL j (aG t m (u.getD i [])) _
     rw[my hc];exact⟨l2,rfl,WW⟩)
   refine⟨_,rfl,(bu (n _ _ U) rfl<|.inr ⟨_,_,bJ n _ _ r0,cH _,as,Ko,_,rfl,?_⟩)⟩;show(if O4 B (.str aW)=N7 then _ else _)
   rw[hV];cases c3:cb aW B with
   |false=>
    rw[c3]at q2;exact ao<|ao<|L _ n q2
   |true=>
   rw[c3]at q2;have c4:cb ay B=false:=gu c3 (by rfl);refine aq ⟨_,rfl,.inl ⟨rfl,_,rfl,?_⟩⟩;dsimp only;rw[ew];cases m with
   |false=>exact ao<|ao<|L _ n q2
   |true=>
   have o:∀I j,Same H j->RV j (fm t.length Y C) I->Q I j:=q2;have M:fm t.length Y C=Oa->∀J,Same H J->N (L2.start ["_law_sentence_here","_law_hand","_law_sets_here","_law_line_here"] [.ref p,.str<|aj N7,.ref a,.ref b]) J:=λe J k=>L _ k λI j X hv=>o _ _ X (by
    rw[c4]at hv;rw[e];exact hv)
   refine aq ⟨_,rfl,(bu (n _ _ U) rfl ⟨_,rfl,(bu (n _ _ hp) rfl ⟨.str t,_,rfl,⟨Pu (aV<|Pm ht (by decide)),rfl⟩,x1,C,_,rfl,bJ n _ _ r1,a3,λH1 k1=>⟨_,rfl,?_⟩⟩)⟩)⟩;have W:=n.trans k1;unfold fm at M o;cases g:lV (t.length:Int) C with
   |false=>
    rw[g]at M;exact ao<|M rfl _ W
   |true=>
   rw[g,Si]at M o;obtain⟨ed,ok⟩:=rH g;have Vl:CL H (iW C) x1:=CL.of (by rw[<-ed];exact r1);obtain⟨l,rfl,hl⟩:=Vl;have a5:=aM ok;generalize iW C=c at M o ok hl a5;refine aq ⟨_,rfl,(bu (W _ _ hp) rfl ⟨q,rfl,⟨_,SqL.of<|W _ _ hq⟩,λD hD=>?_⟩)⟩;refine wu [gV<|.ref b] (λx=>!uP H c x) (λx=>x) rfl (W _ _ hq) hD (by lia) ?_ ?_ ?_
   ·intro x hx J R k r;obtain⟨i,hi⟩:=P4.mp hx;obtain⟨kc,a6,Vl⟩:=S_.get hi;have a7:=Vl;have bc:=aM<|SX kc<|N5 a6;obtain⟨tc,rfl,Ur⟩:=Vl;have X:=W.trans k;refine⟨_,rfl,tc,rfl,⟨_,SqT.of<|X _ _ Ur⟩,λD2 V9=>?_⟩;refine bG [gV<|.ref b] (rD λz=>c.contains z) (λx=>x) rfl (X _ _ Ur) V9 (by rw[A'];lia) ?_ ?_ ?_
    ·intro y hy j R2 kk r2;obtain⟨z,S,rfl⟩:=bK hy;have k3:=X.trans kk;refine⟨_,rfl,_,rfl,(bu (k3 _ _ U) rfl ⟨l,_,rfl,.inr<|SqT.of<|k3 _ _ hl,rfl,aU c,_,rfl,?_⟩)⟩;show R2 (gY (.int z)<|c.map V.int) j
     rw[bC];exact r2
    ·intro y hy S j R2 kk r2;exact⟨_,rfl,r2⟩
    rw[bO kc (λz=>c.contains z) _ λi=>rfl];refine⟨.ref D2,_,rfl,.inl ⟨_,SqL.of aa,rfl⟩,.inl ⟨rfl,_,rfl,?_⟩⟩;rw[Ds,<-sd a7];exact r _<|ad V9 _
   ·intro x hx S J R k r;exact⟨_,rfl,r _<|Same.refl _⟩
   intro j X V9;rw[Tt]at V9;have ac:=W.trans X;refine⟨.ref D,_,rfl,.inl ⟨_,SqL.of V9,rfl⟩,.inl ⟨rfl,_,rfl,?_⟩⟩;have R0:=oo (c:=c) S_;cases g2:qy c Y with
   |true=>
    rw[g2]at o R0;rw[hY.mpr R0];exact aq ⟨_,rfl,(bu (ac _ _ U) rfl<|o _ _ ac ⟨l,rfl,ac _ _ hl⟩)⟩
   |false=>
    rw[g2]at M R0;have U5:(xs.filter λx=>!uP H c x)≠[]:=λe=>by
     rw[hY.mp e]at R0;cases R0
    have UQ:=Sl.mpr U5;show(if decide (V.int (((xs.filter λx=>!uP H c x).length:Nat):Int)=V.int 0)=N7 then _ else _)
    rw[Ob λe=>by have:=V.int.inj e;lia];exact ao<|M rfl _ ac)
  refine⟨_,rfl,(bu U rfl<|.inr ⟨_,_,r0,cH _,as,Kp,_,rfl,?_⟩)⟩;show(if O4 B (.str aE)=N7 then _ else _)
  rw[hV];cases c2:cb aE B with
  |false=>
   rw[c2]at G;exact ao<|ao<|L _ (Same.refl _) G
  |true=>
  rw[c2]at G;have c3:cb aW B=false:=gu c2 (by rfl);have c4:cb ay B=false:=gu c2 (by rfl);refine aq ⟨_,rfl,.inl ⟨rfl,_,rfl,?_⟩⟩;dsimp only;rw[es];cases m with
  |true=>exact ao<|ao<|L _ (Same.refl _) G
  |false=>
  have o:∀I j,Same H j->RV j (fi Y C) I->Q I j:=G;refine aq ⟨_,rfl,(bu hp rfl ⟨_,rfl,(bu U rfl ⟨q,x1,C,xs,rfl,hq,by lia,r1,_,rfl,?_⟩)⟩)⟩;rw[<-a1];unfold fi at o;cases g:aS Y.length C with
  |none=>
   rw[g]at o;refine ao<|L _ (Same.refl _) λI j X hv=>o _ _ X ?_;rw[c3,c4]at hv;exact hv
  |some i=>
   rw[g]at o;obtain⟨hi,rfl⟩:=aX g;obtain rfl:=ar r1;obtain⟨y,hy⟩:∃y,xs[i]?=gV y:=⟨_,N_ (by lia)⟩;obtain⟨c,hc,Vl⟩:=S_.get hy;refine aq ⟨_,rfl,(bu hp rfl ⟨_,rfl,(bu U rfl ((iG hq (aK hy) (o _ _ (Same.refl _) ?_))))⟩)⟩;show CL H (Y.getD i []) y
   rw[my hc];exact Vl
 |_=>exact aq (aq<|G _ _ (Same.refl _)<|by rw[Dq λZ e=>by cases e];rfl)
inductive uR (p:J')(pp:J')(s:J')(t:Str)(cs:ab (ab Int))(hw:Oe)(ds:ab Oo)(H:Hp)(i:Nat)(a:ab (M' V))(G:Hp):Prop
 |mk (x:M' V)(X:M' V)(ys:ab V)(sets:ab (ab Int))(I:a=[gV<|.ref p,gV<|.ref pp,gV<|.ref s,x,X])(b:G s=gV (.lst ys))(c:CLs G sets ys)(d:aY t cs hw [] (ds.take i)=(sets,N7))(e:Same H G)
theorem Du(F:Fun K "_law_sets" "_law_sets" Dp f fd)(Y6:Fe P w K mg B 4 "_law_line" iJ):aA P w K mg B bw 5 f fd ["_law_sentence_here","_law_paper_here"] su:=by
 refine F.okB (N:=["_law_sentence_here","_law_paper_here","_law_sets_here","_law_line_here","_law_found"]) λQ_ A X s H vs Q E sc hr h=>?_;obtain⟨p,q,pp,la,t,L,xs,ls,Z,D,rfl,hp,ht,hq,S_,h9,SX,v,y,Z',h8,z,M⟩:=h;have Ql:=bI Z';refine⟨_,(ae gg
  (ae (fS 3 (aH gg) gg)
  gg)),?_⟩
 refine⟨OG _,λj l=>?_⟩;have k1:=ad l<|.lst [];refine⟨_,rfl,(bu (k1 _ _ v) rfl ⟨la,rfl,⟨_,SqL.of<|k1 _ _ y⟩,?_⟩)⟩;refine cx (K:=K) (a:=la) (X:=ls) (uR p pp j t Z L D H)
  ⟨Oa,Oa,[],[],rfl,aa,.nil,rfl,k1⟩ ?_ ?_ ?_
 ·rintro i σ G V ⟨V,V,V,V,V,V,V,V,k⟩;exact SqL.of<|k _ _ y
 ·rintro i x σ G hx ⟨x3,x4,Y,a,rfl,N,u,m,g⟩;have V2:i<ls.length:=(N8.mp hx).1;have rx:=cV Z' hx;have O:=getD_some (d:=P_) (show i<D.length by exact Pe V2 (UC Ql));generalize D.getD i .none=d at rx O;have C:d∈D:=N5 O;have ac:=bU m;rw[OJ,Rc]at ac;have am:∀c∈a,al t.length c:=by
   have:=eQ (w:=L) SX (D:=D.take i) (s:=[]) (by simp);rw[m]at this;exact this
  refine⟨_,rfl,_,rfl,(bu (g _ _ v) rfl ⟨_,rfl,_,rfl,p,q,j,t,L,x,d,xs,Y,Z,a,rfl,g _ _ hp,ht,g _ _ hq,S_.mono g,h9,SX,N,u,by lia,am,bJ g _ _ rx,(z d C).1,(z d C).2,λv' H3 T U=>?_⟩)⟩;have I:=g.trans T;have J:=T _ _ N;cases W:aB t Z L a d with
  |none=>
   rw[W]at U;have Z_:v'=.non:=U;subst Z_;have hb:=ya m O W;rw[hb]at M;refine⟨_,rfl,rfl,_,rfl,aq ⟨_,rfl,(by show 2<=sizeLine;decide),λtp n=>?_⟩⟩;have r:=ad n<|.tup [.ref j,.bl Oc];exact M tp j Y _ (I.trans r) aa l (r _ _ J)<|(u.mono T).mono r
  |some c=>
   rw[W]at U;obtain⟨tc,rfl,Ur⟩:=U;refine⟨_,rfl,rfl,_,rfl,ao ?_⟩;exists _,rfl,.inl ⟨rfl,_,SqL.of J⟩,_,rfl,j,_,_,rfl,rfl,J,(by rw[<-u.length];exact aV<|by lia);refine⟨_,_,Y++[.ref tc],a++[c],rfl,aa,CLs.snoc (CL.upd ⟨tc,rfl,Ur⟩ J)<|(u.mono T).upd J,run_next m O W,λb o e=>?_⟩;rw[ag<|af e l];exact I _ _ e
 rintro σ G ⟨x3,x4,Y,a,rfl,N,u,m,g⟩;rw[Ol<|by simp_all]at m;rw[m]at M;refine⟨_,rfl,(by show 2<=sizeLine;decide),λtp n=>?_⟩;have r:=ad n<|.tup [.ref j,.bl N7];exact M tp j Y _ (g.trans r) aa l (r _ _ N)<|u.mono r
noncomputable abbrev Ms:PQ:=cD 35
noncomputable def pM(o:ab (ab Int)):Oe:=match o.getLast? with
 |some c=>decide (c=[])
 |none=>Oc
inductive Dv (vs:ab V)(H:Hp)(Q:VK)(E:XK):Prop
 |mk (l:J')(ys:ab V)(out:ab (ab Int))(h0:vs=[.ref l])(a:H l=gV (.lst ys))(b:CLs H out ys)(c:out.length<=9000)(d:∀h,Same H h->Q (.bl<|pM out) h)
theorem Dw(y:ab V):cZ y (gV (-1)) Oa=y.drop (y.length-1):=by
 unfold cZ;have e:HT.sIx y.length 0 (gV (-1))=y.length-1:=by
  unfold HT.sIx;lia
 have E:HT.sIx y.length _ Oa=y.length:=rfl;rw[e,E];exact Ol (by simp)
theorem Ax(o:ab (ab Int)):o.drop (o.length-1)=match o.getLast? with|some c=>[c]|none=>[]:=by
 obtain rfl|⟨i,c,rfl⟩:=List.eq_nil_or_concat o
 ·rfl
 simp
theorem CLs.drop':∀{c:ab (ab Int)} {x:ab V} (n:Nat),CLs H c x->CLs H (c.drop n) (x.drop n):=by
 intro c x n h;change Paired _ _ _ at h;induction h generalizing n with
 |nil=>cases n<;>exact .nil
 |cons r t i=>
  cases n with
  |zero=>exact .cons r t
  |succ n=>exact i n
theorem GO(o:ab (ab Int)):O4 (.list<|(o.drop<|o.length-1).map fB) (.list [.tuple []])=pM o:=by
 rw[Ax];unfold pM;cases o.getLast? with
 |none=>rfl
 |some c=>
  cases c with
  |nil=>rfl
  |cons x r=>rfl
theorem Kt(F:Fun K "end_empty" "end_empty" Ms f x):aA P w K M B bw 1 f x ["sets"] Dv:=by
 refine F.okB (N:=["sets"]) λJ A O s H L Q E N z h=>?_;obtain⟨l,y,o,rfl,C,i,T,q⟩:=h;have D:=z.units;exists _,(dX<|Am (d_ D) (gW l_ (pv 0) gg l9) gg);refine⟨_,rfl,_,rfl,_,rfl,l,_,rfl,SqL.of C,λp b=>?_⟩;have e:=Dw y;have c:=ad b<|.lst<|cZ y (gV (-1)) Oa;have r:upd H p (.lst<|cZ y (gV (-1)) Oa) p=gV (.lst<|y.drop<|y.length-1):=by rw[aa,e]
 generalize upd H p (.lst<|cZ y _ Oa)=j at c r;refine⟨(by simp),λt d=>?_⟩;have a:=ad d<|.tup [];have m:=@aa j t (.tup []);generalize upd j t _=n at a m;refine⟨(by show 1<=sizeLine;decide),λu g=>?_⟩;have k:=ad g<|.lst [.ref t];have v:=@aa n u (.lst [.ref t]);generalize upd n u _=G at k v;have I:CLs G (o.drop<|o.length-1) (y.drop<|y.length-1):=by
  rw[i.length];exact CLs.drop' _<|i.mono<|c.trans<|a.trans k
 refine .inr ⟨.list<|(o.drop<|o.length-1).map fB,.list _,dm ((a.trans k) _ _ r) I.rds,dm v<|ah (bn (k _ _ m) aw) aw,(Nice.mono (kE<|ny _)<|by simp).shaped,by rfl,?_⟩;rw[GO];exact q _<|c.trans<|a.trans k
noncomputable abbrev Mt:PQ:=cD 36
inductive yB (vs:ab V)(H:Hp)(Q:VK)(E:XK):Prop
 |mk (p q pp L:J')(t:Str)(hw:Oe)(xs s:ab V)(cs:ab (ab Int))(ds:ab Oo)(out:ab (ab Int))(h0:vs=[.ref p,.ref pp])(i:H p=gV (.tup [.str t,.ref q]))(j:t.length<=30)(k:H q=gV (.lst xs))(m:CLs H cs xs)(n:cs.length<=900)(o:(∀c∈cs,al t.length c))(r:H pp=gV (.tup [.str<|aj hw,.ref L]))(u:H L=gV (.lst s))(v:cJ H ds s)(a:ds.length<=9000)(b:(∀d∈ds,jd d))(e:aY t cs hw [] ds=(out,N7))(f:pM out=N7)(g:∀l ys h,Same H h->H l=Oa->h l=gV (.lst ys)->CLs h out ys->Q (.ref l) h)
theorem Ku(F:Fun K "whole_sets" "whole_sets" Mt f i)(G:Fe P w K m b 6 "sets_of" ou)(M:Fe P w K m b 1 "end_empty" Dv):aA P w K m b bw 7 f i ["sentence","paper"] yB:=by
 refine F.okB (N:=["sentence","paper","sets"]) λQ_ A O s H vs Q E sc hr h=>?_;obtain⟨p,q,j,L,t,n,x,u,C,D,o,rfl,v,z,B,I,J,X,c,d,Z,N,e,r,g,T⟩:=h;have U:o.length=D.length:=by
  have:=bU r;simpa using this
 refine⟨_,(ae gg
  (ae (bM gg (ax fX) aN)
  (dX<|pv 2))),?_⟩
 refine⟨_,rfl,_,rfl,p,q,j,L,t,n,x,u,C,D,o,rfl,v,z,B,I,J,X,c,d,Z,N,e,r,λl y H1 Y hl W a=>⟨_,rfl,l,y,o,rfl,W,a,by simp_all,λH2 k=>⟨_,rfl,?_⟩⟩⟩;rw[g];exact ao ⟨_,rfl,T l y H2 (Y.trans k) hl (k _ _ W)<|a.mono k⟩
def aO(d:Oo):Prop:=(∃k:Int,d=.tuple [.str aE,.int k])\/(∃c:ab Int,c.length<=18/\d=.tuple [.str aW,fB c])\/(∃k:Int,d=.tuple [.str ay,.int k])\/(∃i j z:Int,d=.tuple [.str aQ,.int i,.int j,.int z])
theorem dO(h:aO d):jd d/\sk d:=by
 obtain⟨k,rfl⟩|⟨c,H,rfl⟩|⟨k,rfl⟩|⟨i,j,z,rfl⟩:=h
 ·exact⟨λD e=>by cases e;exact Kp,λD e=>by cases e;exact⟨by show 2<=9000;decide,λE e=>by cases e⟩⟩
 ·exact⟨λD e=>by cases e;exact Ko,λD e=>by
   cases e;refine⟨by show 2<=9000;decide,λE e=>?_⟩;cases e;simp_all⟩
 ·exact⟨λD e=>by cases e;exact Kn,λD e=>by cases e;exact⟨by show 2<=9000;decide,λE e=>by cases e⟩⟩
 exact⟨λD e=>by cases e;exact Km,λD e=>by cases e;exact⟨by show 4<=9000;decide,λE e=>by cases e⟩⟩
theorem ib(h:RD H (.str x) v):RD a (.str x) v:=by assumption
theorem fE(h:RD H (.int x) v):RD a (.int x) v:=by assumption
theorem sA{H:Hp}{a q:J'}{z y:ab V}(h:H a=gV (.tup z))(b:H q=gV (.lst y)):a≠q:=λe=>by
 simp_all
theorem ie(g:aO d)(h:RD H d v)(m:H q=gV (.lst y)):RD (upd H q o) d v:=by
 obtain⟨k,rfl⟩|⟨c,t,rfl⟩|⟨k,rfl⟩|⟨i,j,z,rfl⟩:=g
 ·obtain⟨a,Z,rfl,b,f⟩:=ak h;exact bn (by rwa[ag<|sA b m])<|‹_›
 ·obtain⟨a,Z,rfl,b,f⟩:=ak h;obtain⟨D,n,x,X,e,rfl,r,l⟩:=cw f rfl;cases e;exact bn (by rwa[ag<|sA b m])<|ah (ib r)<|ah (CL.rd<|(CL.of l).upd m) aw
 ·obtain⟨a,Z,rfl,b,f⟩:=ak h;exact bn (by rwa[ag<|sA b m])<|‹_›
 obtain⟨a,Z,rfl,b,f⟩:=ak h;exact bn (by rwa[ag<|sA b m])<|‹_›
theorem fw(a:H q=gV (.lst s)):∀{D:ab Oo} {v:ab V},(∀d∈D,aO d)->cJ H D v->cJ (upd H q o) D v
 |[],v,_,h=>by
  assumption
 |d::D,v,g,h=>by
  obtain⟨y,Y,rfl,b,c⟩:=ai h;exact ah (ie (g d Ot) b a)<|fw a (λe f=>g e<|Os _ f) c
theorem oA:∀{c:ab Oo} {s:ab V} {D:ab Oo} {v:ab V},cJ H c s->cJ H D v->cJ H (c++D) (s++v)
 |[],s,D,v,h,g=>by
  rwa[h]
 |d::c,s,D,v,h,g=>by
  obtain⟨y,Y,rfl,a,b⟩:=ai h;exact ah a<|oA b g
theorem Dx(h:pM o=N7):1<=o.length/\o[o.length-1]?=gV []:=by
 unfold pM at h;cases e:o.getLast? with
 |none=>simp_all
 |some c=>
  rw[e]at h;have H:=OO h;subst H;rw[V4]at e;exact⟨by have:=(N8.mp e).1;lia,e⟩
noncomputable abbrev Ij:PQ:=cD 52
noncomputable def bzx:Oo->Int
 |.int i=>i
 |_=>0
noncomputable def bq(d:Oo):ab Int:=if cb aQ (hW d 0)=N7 then[bzx<|hW d 1,bzx<|hW d 2]else if cb ay (hW d 0)=N7 then[bzx<|hW d 1]else[]
theorem ig(k:Int):bq (.tuple [.str aE,.int k])=[]:=by
 rfl
theorem dw(k:Int):bq (.tuple [.str ay,.int k])=[k]:=by
 rfl
theorem cR(i j z:Int):bq (.tuple [.str aQ,.int i,.int j,.int z])=[i,j]:=by
 rfl
inductive Dy (vs:ab V)(H:Hp)(Q:VK)(E:XK):Prop
 |mk (v:V)(d:Oo)(h0:vs=[v])(hd:RD H d v)(g:aO d)(q:∀l h,Same H h->H l=Oa->h l=gV (.lst<|(bq d).map V.int)->Q (.ref l) h)
theorem GP(F:Fun K "named_by" "named_by" Ij f t):aA P w K M B bw 1 f t ["line"] Dy:=by
 refine F.okB (N:=["line"]) λC A O s H G Q E I J h=>?_;obtain⟨v,d,rfl,o,u,q⟩:=h;exists _,gg;obtain⟨k,rfl⟩|⟨c,L,rfl⟩|⟨k,rfl⟩|⟨i,j,z,rfl⟩:=u
 ·obtain⟨a,Z,rfl,b,g⟩:=ak o;obtain⟨D,p,x,X,e,rfl,r,m⟩:=cw g rfl;cases e;obtain rfl:=aR r;refine⟨_,rfl,(bu b rfl<|.inl ⟨rfl,_,rfl,?_⟩)⟩;rw[Ob (show¬V.str aE=V.str (Oh _) by decide+kernel)];refine ao ⟨_,rfl,(bu b rfl<|.inl ⟨rfl,_,rfl,?_⟩)⟩;rw[Ob (show¬V.str aE=V.str (Oh _) by decide+kernel)];refine ao ⟨OG _,λl n=>q l _ (ad n _) n ?_⟩;exact aa
 ·obtain⟨a,Z,rfl,b,g⟩:=ak o;obtain⟨D,p,x,X,e,rfl,r,m⟩:=cw g rfl;cases e;obtain rfl:=aR r;refine⟨_,rfl,(bu b rfl<|.inl ⟨rfl,_,rfl,?_⟩)⟩;rw[Ob (show¬V.str aW=V.str (Oh _) by decide+kernel)];refine ao ⟨_,rfl,(bu b rfl<|.inl ⟨rfl,_,rfl,?_⟩)⟩;rw[Ob (show¬V.str aW=V.str (Oh _) by decide+kernel)];exact ao ⟨OG _,λl n=>q l _ (ad n _) n aa⟩
 ·obtain⟨a,Z,rfl,b,g⟩:=ak o;obtain⟨D,p,x,X,e,rfl,r,m⟩:=cw g rfl;cases e;obtain rfl:=aR r;obtain rfl:=ar m;refine⟨_,rfl,(bu b rfl<|.inl ⟨rfl,_,rfl,?_⟩)⟩;rw[Ob (show¬V.str ay=V.str (Oh _) by decide+kernel)];refine ao ⟨_,rfl,(bu b rfl<|.inl ⟨rfl,_,rfl,?_⟩)⟩;rw[On (show V.str ay=V.str (Oh _)from rfl)];refine aq ⟨_,rfl,(bu b rfl ⟨(by show 1<=sizeLine;decide),λl n=>q l _ (ad n _) n ?_⟩)⟩;exact aa
 obtain⟨a,Z,rfl,b,g⟩:=ak o;obtain⟨D,p,N,T,x,X,U,W,e,rfl,r,m,y,Y⟩:=gt g rfl;cases e;obtain rfl:=aR r;obtain rfl:=ar m;obtain rfl:=ar y;refine⟨_,rfl,(bu b rfl<|.inl ⟨rfl,_,rfl,?_⟩)⟩;rw[On (show V.str aQ=V.str (Oh _)from rfl)];refine aq ⟨_,rfl,(bu b rfl ⟨_,rfl,(bu b rfl ⟨(by show 2<=sizeLine;decide),λl n=>q l _ (ad n _) n ?_⟩)⟩)⟩;exact aa
noncomputable abbrev Kv:PQ:=cD 54
noncomputable def gI(r:ab Int)(k:Int):ab Int:=if k∈r then r else r++[k]
noncomputable def bQ(n:Nat->ab Int)(l:Nat):Nat->ab Int
 |0=>[(l:Int)]
 |j+1=>if((l-j:Nat):Int)∈bQ n l j then(n<|l-j).foldl gI (bQ n l j)else bQ n l j
theorem Dz(r:ab Int)(k:Int):(gI r k).length<=r.length+1:=by
 unfold gI
 split
 ·exact Uk _
 simp
theorem kN:∀(s r:ab Int),(s.foldl gI r).length<=r.length+s.length
 |[],r=>N' _
 |k::s,r=>by
  have h:=kN s<|gI r k;have H:=Dz r k;rw[SM,OE];lia
theorem iK(h:∀i,(n i).length<=2):∀j,(bQ n l j).length<=1+2*j
 |0=>N' _
 |j+1=>by
  have I:=iK h (l:=l) j;have:=h<|l-j;have H:=kN (n<|l-j)<|bQ n l j;show(if _ then _ else _:ab Int).length<=_
  lia
theorem iL(d:Oo):(bq d).length<=2:=by
 unfold bq
 split
 ·exact N' _
 split<;>simp
noncomputable def dB(r:ab Int):ab (bj×V):=r.map λk=>((Pb k:bj),V.bl N7)
theorem DB:∀r k,(b9 (dB r) (Pb k:bj)).isSome=decide (k∈r):=λr k=>by
 unfold dB b9
 grind
theorem Kw(r:ab Int)(k:Int):cQ (dB r) (Pb k:bj) (V.bl N7)=dB (gI r k):=by
 by_cases h:k∈r
 ·unfold gI;rw[Ox h];unfold cQ;have e:((dB r).any λb=>decide (b.1=(Pb k)))=true:=by
   unfold dB;simp_all
  rw[Ox e];unfold dB;simp
 unfold gI;rw[Ov h,mS]
 ·unfold dB;rw[OI];rfl
 have:=DB r k;simp_all
theorem GQ(r:ab Int):(dB r).map (·.1)=r.map (Pb:Int->bj):=by
 unfold dB;rw[OY];rfl
inductive DC (vs:ab V)(H:Hp)(Q:VK)(E:XK):Prop
 |mk (L:J')(s:ab V)(ds:ab Oo)(last:Nat)(h0:vs=[.ref L,.int (last:Int)])(a:H L=gV (.lst s))(b:cJ H ds s)(c:∀d∈ds,aO d)(e:last<ds.length)(f:ds.length<=3000)
   (q:∀l v h,Same H h->H l=Oa->h l=gV (.lst<|v.map V.int)->Tv v (bQ (λi=>bq<|ds.getD i .none) last<|last+1)->RP (·<=·) v->Q (.ref l) h):DC vs H Q E
inductive Mu (l d:J')(last:Nat)(nm:Nat->ab Int)(H:Hp)(j:Nat)(a:St)(G:Hp):Prop
 |mk (x X:M' V)(i:a=[gV<|.ref l,gV<|.int (last:Int),gV<|.ref d,x,X])(I:G d=gV (.dK<|dB<|bQ nm last j))(b:Same H G)
inductive Mw (L d l:J')(last:Nat)(x:M' V)(r ks:ab Int)(H:Hp)(j:Nat)(a:St)(G:Hp):Prop
 |mk (X:M' V)(i:a=[gV<|.ref L,gV<|.int (last:Int),gV<|.ref d,x,X])(I:G d=gV (.dK<|dB<|(ks.take j).foldl gI r))(b:Same H G)(c:G l=gV (.lst<|ks.map V.int))
theorem wH{s r:ab Int}{j:Nat}{k:Int}(h:s[j]?=gV k):(s.take<|j+1).foldl gI r=gI ((s.take j).foldl gI r) k:=by
 rw[OM,h,UF];rfl
theorem Kx(F:Fun K "needed_by" "needed_by" Kv f fd)(T:Bl J)(ac:Fe P w K J b 1 "named_by" Dy):aA P w K J b bw 2 f fd ["lines","last"] DC:=by
 refine F.okB (N:=["lines","last","needed","place","ahead"]) λQ_ A O s H vs Q E sc hr h=>?_;obtain⟨U,ls,d,L,rfl,h1,W,h3,h4,h5,q⟩:=h;have hu:=hr.units;have Z:(A.deeper<|Rf "needed_by" (aD Kv) s.heap.objs.size f Q_).units+1<R1:=by lia
 have Ql:=bI W;refine⟨_,(ae (sT 2<|CH (pv 1) fj)
  (ae (fS 3 gg<|ax<|bM (vG<|Jx Z (pv 3)<|pv 2) (ax<|fS 4 (aH gg)<|ax<|rq Z (pv 2) (pv 4) fj rfl) aN)
  (dX<|aI (wc rfl) rfl T.sorted Uq<|fV<|pv 2))),?_⟩
 refine λD n=>⟨_,rfl,aa,[(Pb (L:Int),.bl N7)],rfl,(by simp),?_⟩;have Y:Same H (upd (upd H D<|.dK []) D<|.dK<|fT [] [(Pb (L:Int),.bl N7)]):=by rw[eO];exact ad n _
 have s1:upd (upd H D<|.dK []) D (.dK<|fT [] [(Pb (L:Int),.bl N7)]) D=gV (.dK<|dB [(L:Int)]):=aa;generalize upd (upd H D<|.dK []) D (.dK<|fT [] [(Pb (L:Int),.bl N7)])=H1 at Y s1 ⊢;refine⟨_,rfl,_,rfl,_,rfl,(L:Int),-1,rfl,by lia,nh (lo:=(L:Int)) (Mu U D L (λi=>bq<|d.getD i .none) H) ⟨Oa,Oa,rfl,s1,Y⟩ ?_ ?_⟩
 ·rintro j g G hj ⟨x3,X,rfl,I,a⟩;have am:j<=L:=by lia
  have ej:(L:Int)-(j:Int)=((L-j:Nat):Int):=by lia
  rw[ej];exists _,rfl,_,rfl,D,_,rfl,DGet.k (k:=Pb ((L-j:Nat):Int)) I;rw[DB];by_cases o:((L-j:Nat):Int)∈bQ (λi=>bq<|d.getD i .none) L j
  ·rw[On o];have e:bQ (λi=>bq<|d.getD i .none) L (j+1)=(bq<|d.getD (L-j) .none).foldl gI (bQ (λi=>bq<|d.getD i .none) L j):=Ox o;obtain⟨v,hv⟩:∃v,ls[L-j]?=gV v:=⟨_,N_ (by lia)⟩;have rv:=cV (bN a _ _ W) hv;have gd:aO (d.getD (L-j) .none):=h3 _ (N5 (getD_some (d:=P_) (Ro (ic _ _) h4)));have r:=iL (d.getD (L-j) .none);generalize t:bq (d.getD (L-j) .none)=u at e r;have c:=iK (n:=λi=>bq (d.getD i .none)) (l:=L) (λi=>iL _) j;generalize bQ (λi=>bq (d.getD i .none)) L j=RC at I e c;refine⟨_,rfl,aq ⟨_,rfl,_,rfl,(iG (a _ _ h1) (aK hv) ⟨v,d.getD (L-j) .none,rfl,rv,gd,λl G1 kg N y=>?_⟩)⟩⟩;rw[t]at y;refine⟨l,rfl,⟨_,SqL.of y⟩,cx (K:=K) (a:=l) (X:=u.map V.int) (Mw U D l L (gV (.int ((L-j:Nat):Int))) RC u H) ⟨_,rfl,kg _ _ I,a.trans kg,y⟩ ?_ ?_ ?_⟩
   ·rintro i g G2 S ⟨S,S,S,S,m⟩;exact SqL.of m
   ·rintro i x g G2 hx ⟨X,rfl,M,B,p⟩;obtain⟨k,rfl,hk⟩:=cK hx;have C:=kN (u.take i) RC;rw[OJ]at C;exists _,rfl,_,rfl,D,_,rfl,DPut.k (k:=Pb k) M (aV<|by unfold dB;grind);rw[Kw,<-wH hk];exists _,rfl,aa,B.upd_new n _;rwa[ag λz=>by lia]
   rintro g G2 ⟨X,rfl,M,B,p⟩;rw[A',Ol<|N' _,<-e]at M;exact⟨_,_,rfl,M,B⟩
  rw[Ob o];have e:bQ (λi=>bq<|d.getD i _) L (j+1)=bQ (λi=>bq<|d.getD i _) L j:=Ov o;exact⟨_,rfl,ao ⟨_,_,rfl,by rwa[e],a⟩⟩
 rintro g G ⟨x3,X,rfl,I,a⟩;have e:((L:Int) - -1).toNat=L+1:=by rfl
 rw[e]at I;have c:=iK (n:=λi=>bq<|d.getD i .none) (l:=L) (λi=>iL _)<|L+1;refine⟨_,rfl,D,_,_,rfl,I,GQ _,by lia,λl VE N hp hs=>q l VE _ (a.trans<|ad N _) (a.free N) aa hp hs⟩
noncomputable def gJ(c:ab Int):ab bj:=c.map Pb
theorem kO(c:ab Int):(gJ c).map kV=c.map V.int:=by
 unfold gJ;rw[OY];rfl
theorem hI:gJ a=gJ b↔a=b:=Zs λz z h=>Rx h
theorem Ay{a:Type}{l:ab a}{i:Nat}{x:a}(h:l[i]?=gV x):l.take (i+1)=l.take i++[x]:=by
 rw[OM,h];rfl
theorem Ky{a b c:ab Int}(h:Tv a c)(H:RP (·<=·) a)(d:Tv b c)(e:RP (·<=·) b):a=b:=
 acK (by lia) H e (h.trans d.symm)
theorem uS(g:aO d)(h:aB t C w s d=gV c):∀k∈bq d,0<=k/\k<(s.length:Int):=by
 obtain⟨k,rfl⟩|⟨n,o,rfl⟩|⟨k,rfl⟩|⟨i,j,z,rfl⟩:=g
 ·rw[ig];simp
 ·exact λy h=>nomatch h
 ·rw[dw];intro b U;unfold aB at h;have f:bD aE 2 (.tuple [.str ay,.int k])=false:=by
   rfl
  have F:bD aW 2 (.tuple [.str ay,.int k])=false:=by
   rfl
  rw[f,F,QU,QU]at h;have H:dW t w s (.int k)=gV c:=h;unfold dW at H;cases e:aS _ _ with
  |none=>rw[e]at H;cases H
  |some i=>
   obtain⟨m,A⟩:=aX e;simp_all
 rw[cR];intro b U;unfold aB at h;have f:bD aE 2 (.tuple [.str aQ,.int i,.int j,.int z])=false:=rfl;have F:bD aW 2 (.tuple [.str aQ,.int i,.int j,.int z])=false:=rfl;rw[f,F,QU,QU]at h;have H:cX t w s (.int i) (.int j) (.int z)=gV c:=h;unfold cX at H;cases e:aS s.length (.int i)with
 |none=>simp_all
 |some I=>
 cases E:aS s.length (.int j)with
 |none=>simp_all
 |some J=>
  obtain⟨m,A⟩:=aX e;obtain⟨p,B⟩:=aX E;obtain rfl|U:=OC.mp U
  ·simp_all
  simp_all
noncomputable abbrev Az:PQ:=cD 53
noncomputable def bR(f:Int->Int):Oo->Oo
 |.tuple [.str w,.int i,.int j,.int z]=>if w=aQ then .tuple [.str aQ,.int<|f i,.int<|f j,.int z]else .tuple [.str w,.int i,.int j,.int z]
 |.tuple [.str w,.int k]=>if w=ay then .tuple [.str ay,.int<|f k]else .tuple [.str w,.int k]
 |d=>d
theorem dF(f:Int->Int)(k:Int):bR f (.tuple [.str aE,.int k])=.tuple [.str aE,.int k]:=by
 rfl
theorem fb(f:Int->Int)(k:Int):bR f (.tuple [.str ay,.int k])=.tuple [.str ay,.int<|f k]:=by
 rfl
theorem ff(f:Int->Int)(i j z:Int):bR f (.tuple [.str aQ,.int i,.int j,.int z])=.tuple [.str aQ,.int<|f i,.int<|f j,.int z]:=by
 rfl
theorem oC(f:Int->Int)(c:ab Int):bR f (.tuple [.str aW,fB c])=.tuple [.str aW,fB c]:=rfl
theorem jQ(g:aO d):aO (bR f d):=by
 obtain⟨k,rfl⟩|⟨c,h,rfl⟩|⟨k,rfl⟩|⟨i,j,z,rfl⟩:=g
 ·exact .inl ⟨k,rfl⟩
 ·exact .inr<|.inl ⟨c,h,rfl⟩
 ·exact .inr<|.inr<|.inl ⟨_,rfl⟩
 exact .inr<|.inr<|.inr ⟨_,_,_,rfl⟩
theorem qJ(g:aO d):bq (bR f d)=(bq d).map f:=by
 obtain⟨k,rfl⟩|⟨c,h,rfl⟩|⟨k,rfl⟩|⟨i,j,z,rfl⟩:=g
 ·rfl
 ·rfl
 ·rfl
 rfl
inductive wI (vs:ab V)(H:Hp)(Q:VK)(E:XK):Prop
 |mk (v:V)(na:J')(d:Oo)(ns:ab Int)(h0:vs=[v,.ref na])(hd:RD H d v)(g:aO d)(n:H na=gV (.lst (ns.map V.int)))(r:∀k∈bq d,0<=k/\k<(ns.length:Int))(q:∀a h,Same H h->RD h (bR (λk=>ns.getD k.toNat 0) d) a->Q a h)
inductive wJ (vs:ab V)(H:Hp)(Q:VK)(E:XK):Prop
 |mk (v:V)(na:J')(d:Oo)(s:ab (bj×V))(f:Int->Int)(h0:vs=[v,.ref na])(hd:RD H d v)(g:aO d)(n:H na=gV (.dK s))(r:∀k∈bq d,b9 s (Pb k:bj)=gV (.int<|f k))(q:∀a h,Same H h->RD h (bR f d) a->Q a h)
theorem sB{N:ab Int}{k:Int}(h:0<=k/\k<(N.length:Int)):kq (N.map V.int) k=gV (.int<|N.getD k.toNat 0):=by
 obtain⟨n,rfl⟩:∃n:Nat,k=(n):=⟨k.toNat,by lia⟩;refine aK ?_;simp_all
theorem oE{H:Hp}{n:J'}{s:ab (bj×V)}{k z:Int}(a:H n=gV (.dK s))(h:b9 s (Pb k:bj)=gV (.int z)):DGet H n (.int k) (gV<|.int z):=by
 rw[<-h];exact DGet.k (k:=Pb k) a
theorem yC:ee ["line","numbers"] ["line","numbers"] (aD Az):=HX
theorem GR(F:Fun K "renamed" "renamed" Az f u):aA P w K M B bw 1 f u ["line","numbers"] wI:=by
 have J:=yC;refine F.okA yC λy A O s H L Q E r h=>?_;have T:=r.units;have W:(A.deeper<|Rf "renamed" (aD Az) s.heap.objs.size f y).units+1<R1:=by lia
 obtain⟨v,U,d,Y,rfl,n,C,p,r,q⟩:=h;exists _,gg;obtain⟨k,rfl⟩|⟨c,hc,rfl⟩|⟨k,rfl⟩|⟨i,j,z,rfl⟩:=C
 ·obtain⟨a,Z,rfl,b,g⟩:=ak n;obtain⟨D,t,x,X,e,rfl,m,o⟩:=cw g rfl;cases e;obtain rfl:=aR m;refine⟨_,rfl,(bu b rfl<|.inl ⟨rfl,_,rfl,?_⟩)⟩;rw[Ob (show¬V.str aE=V.str (Oh "join") by decide+kernel)];refine ao ⟨_,rfl,(bu b rfl<|.inl ⟨rfl,_,rfl,?_⟩)⟩;rw[Ob (show¬V.str aE=V.str (Oh "drop") by decide+kernel)];rw[dF]at q;exact ao ⟨_,rfl,q _ _ (Same.refl _) n⟩
 ·obtain⟨a,Z,rfl,b,g⟩:=ak n;obtain⟨D,t,x,X,e,rfl,m,o⟩:=cw g rfl;cases e;obtain rfl:=aR m;refine⟨_,rfl,(bu b rfl<|.inl ⟨rfl,_,rfl,?_⟩)⟩;rw[Ob (show¬V.str aW=V.str (Oh _) by decide+kernel)];refine ao ⟨_,rfl,(bu b rfl<|.inl ⟨rfl,_,rfl,?_⟩)⟩;rw[Ob (show¬V.str aW=V.str (Oh _) by decide+kernel)];exact ao ⟨_,rfl,q _ _ (Same.refl _) n⟩
 ·obtain⟨a,Z,rfl,b,g⟩:=ak n;obtain⟨D,t,x,X,e,rfl,m,o⟩:=cw g rfl;cases e;obtain rfl:=aR m;obtain rfl:=ar o;refine⟨_,rfl,(bu b rfl<|.inl ⟨rfl,_,rfl,?_⟩)⟩;rw[Ob (show¬V.str ay=V.str (Oh _) by decide+kernel)];refine ao ⟨_,rfl,(bu b rfl<|.inl ⟨rfl,_,rfl,?_⟩)⟩;rw[On (show V.str ay=V.str (Oh _)from rfl)];refine aq ⟨_,rfl,_,rfl,(bu b rfl<|(iG p (sB<|r k<|Oi.mpr rfl) ⟨(by show 2<=sizeLine;decide),λl N=>q _ _ (ad N _)<|bn aa<|ah (cH _)<|ah (cr _) aw⟩))⟩
 obtain⟨a,Z,rfl,b,g⟩:=ak n;obtain⟨D,t,d2,d3,x,X,x2,x3,e,rfl,m,o,G,I⟩:=gt g rfl;cases e;obtain rfl:=aR m;obtain rfl:=ar o;obtain rfl:=ar G;obtain rfl:=ar I;refine⟨_,rfl,(bu b rfl<|.inl ⟨rfl,_,rfl,?_⟩)⟩;rw[On (show V.str aQ=V.str (Oh _)from rfl)];refine aq ⟨_,rfl,_,rfl,(bu b rfl<|(iG p (sB<|r i Ot) ⟨_,rfl,_,rfl,(bu b rfl<|(iG p (sB<|r j<|Os _<|Oi.mpr rfl) ⟨_,rfl,(bu b rfl ⟨(by show 4<=sizeLine;decide),λl N=>q _ _ (ad N _)<|bn aa<|ah (cH _)<|ah (cr _)<|ah (cr _)<|ah (cr _) aw⟩)⟩))⟩))⟩
theorem GS(F:Fun K "renamed" "renamed" Az f y):aA P w K M B bw 1 f y ["line","numbers"] wJ:=by
 have T:=yC;refine F.okA yC λC A O s H U Q E r h=>?_;have Y:=r.units;have W:(A.deeper<|Rf "renamed" (aD Az) s.heap.objs.size f C).units+1<R1:=by lia
 obtain⟨v,N,d,G,f',rfl,n,I,p,r,q⟩:=h;refine⟨_,(ae (bM gg (dX<|dI<|aP gT<|aP (bS W (pv 1) gg λS S=>rfl)<|oe (bS W (pv 1) gg λS S=>rfl) gg) aN)
  (ae (bM gg (dX<|dI<|oe gT<|bS W (pv 1) gg λS S=>rfl) aN)
  (dX<|pv 0))),?_⟩
 obtain⟨k,rfl⟩|⟨c,hc,rfl⟩|⟨k,rfl⟩|⟨i,j,z,rfl⟩:=I
 ·obtain⟨a,Z,rfl,b,g⟩:=ak n;obtain⟨D,t,x,X,e,rfl,m,o⟩:=cw g rfl;cases e;obtain rfl:=aR m;refine⟨_,rfl,(bu b rfl<|.inl ⟨rfl,_,rfl,?_⟩)⟩;rw[Ob (show¬V.str aE=V.str (Oh "join") by decide+kernel)];refine ao ⟨_,rfl,(bu b rfl<|.inl ⟨rfl,_,rfl,?_⟩)⟩;rw[Ob (show¬V.str aE=V.str (Oh "drop") by decide+kernel)];exact ao ⟨_,rfl,q _ _ (Same.refl _) n⟩
 ·obtain⟨a,Z,rfl,b,g⟩:=ak n;obtain⟨D,t,x,X,e,rfl,m,o⟩:=cw g rfl;cases e;obtain rfl:=aR m;refine⟨_,rfl,(bu b rfl<|.inl ⟨rfl,_,rfl,?_⟩)⟩;rw[Ob (show¬V.str aW=V.str (Oh _) by decide+kernel)];refine ao ⟨_,rfl,(bu b rfl<|.inl ⟨rfl,_,rfl,?_⟩)⟩;rw[Ob (show¬V.str aW=V.str (Oh _) by decide+kernel)];exact ao ⟨_,rfl,q _ _ (Same.refl _) n⟩
 ·obtain⟨a,Z,rfl,b,g⟩:=ak n;obtain⟨D,t,x,X,e,rfl,m,o⟩:=cw g rfl;cases e;obtain rfl:=aR m;obtain rfl:=ar o;refine⟨_,rfl,(bu b rfl<|.inl ⟨rfl,_,rfl,?_⟩)⟩;rw[Ob (show¬V.str ay=V.str (Oh _) by decide+kernel)];refine ao ⟨_,rfl,(bu b rfl<|.inl ⟨rfl,_,rfl,?_⟩)⟩;rw[On (show V.str ay=V.str (Oh _)from rfl)];refine aq ⟨_,rfl,_,rfl,(bu b rfl ⟨N,_,rfl,oE p<|r k<|Oi.mpr rfl,(by show 2<=sizeLine;decide),λl u=>q _ _ (ad u _)<|bn aa<|ah (cH _)<|ah (cr _) aw⟩)⟩
 obtain⟨a,Z,rfl,b,g⟩:=ak n;obtain⟨D,t,d2,d3,x,X,x2,x3,e,rfl,m,o,J,L⟩:=gt g rfl;cases e;obtain rfl:=aR m;obtain rfl:=ar o;obtain rfl:=ar J;obtain rfl:=ar L;refine⟨_,rfl,(bu b rfl<|.inl ⟨rfl,_,rfl,?_⟩)⟩;rw[On (show V.str aQ=V.str (Oh _)from rfl)];refine aq ⟨_,rfl,_,rfl,(bu b rfl ⟨N,_,rfl,oE p<|r i Ot,_,rfl,_,rfl,(bu b rfl ⟨N,_,rfl,oE p<|r j<|Os _<|Oi.mpr rfl,_,rfl,(bu b rfl ⟨(by show 4<=sizeLine;decide),λl u=>q _ _ (ad u _)<|bn aa<|ah (cH _)<|ah (cr _)<|ah (cr _)<|ah (cr _) aw⟩)⟩)⟩)⟩
noncomputable abbrev Kz:PQ:=cD 55
noncomputable def ii(o:ab (ab Int)):ab Int:=o.map λc=>((o.idxOf c:Nat):Int)
theorem qK:∀{o:ab (ab Int)} {i:Nat} {c:ab Int},o[i]?=gV c->c∉o.take i->o.idxOf c=i
 |[],i,c,h,_=>by simp at h
 |x::o,0,c,h,_=>by
  simp_all
 |x::o,i+1,c,h,n=>by
  have a:x≠c:=λz=>n (by rw[z];exact Ot);have H:o[i]?=gV c:=by assumption
  have N:c∉o.take i:=λz=>(by simp_all);rw[aa3,qK H N];have:(x == c)=false:=by simpa using a
  rw[this];rfl
inductive DD (vs:ab V)(H:Hp)(Q:VK)(E:XK):Prop
 |mk (s:J')(ys:ab V)(out:ab (ab Int))(h0:vs=[.ref s])(a:H s=gV (.lst ys))(b:CLs H out ys)(c:out.length<=3000)(q:∀l h,Same H h->H l=Oa->h l=gV (.lst<|(ii out).map V.int)->Q (.ref l) h)
inductive Mx (s d:J')(out:ab (ab Int))(H:Hp)(i:Nat)(a:ab (M' V))(G:Hp):Prop
 |mk (x X:M' V)(D:ab (ab bj×V))(I:a=[gV<|.ref s,gV<|.ref d,x,X])(b:G d=gV (.dT D))(e:∀c:ab Int,b9 D (gJ c)=if c∈out.take i then gV (.int ((out.idxOf c:Nat):Int))else Oa)(f:D.length<=i)(g:Same H G)
theorem DE(r:St)(f:Nat->V)(E:c=Oa::r)(e:H a=gV (.lst X))(g:H D=Oa)(l:X.length<=9000)
  (k:∀i x,X[i]?=gV x->∀d R,Same H d->R (f i) d->t (gV x::r) d R) (q:Q (.ref D) (upd H D<|.lst<|(O7 X.length).map f)):gQ (E7 K a) D (dH 0) KZ t c H Q:=by
 have n:=af e g;refine bv (xs:=X) (λi b y h=>(∃v,b=v::r)/\y=(O7 i).map f/\h=upd H D (.lst y)) ⟨⟨Oa,E⟩,rfl,rfl⟩ ?_ ?_ ?_
 ·rintro i b y h z ⟨z,z,rfl⟩;exact⟨aa,SqL.of<|by rwa[ag n]⟩
 ·rintro i x b y h j ⟨⟨v,rfl⟩,rfl,rfl⟩;have m:=(N8.mp j).1;refine bV<|k i x j _ _ (ad g _) ⟨aa,aV (by rw[A',PB];lia),⟨_,rfl⟩,?_,?_⟩
  ·rw[Rb,OI];rfl
  rw[eO]
 simp_all
theorem KB(F:Fun K "first_places" "first_places" Kz f fd)(T:Bl mg):aA P w K mg Z bw 1 f fd ["sets"] DD:=by
 refine F.okB (N:=["sets","places","place","literals"]) λQ_ A O s H vs Q E sc hr h=>?_;have hu:=hr.units;have WZ:(A.deeper<|Rf "first_places" (aD Kz) s.heap.objs.size f Q_).units+1<R1:=by lia
 obtain⟨u,ys,o,rfl,v,B,h3,q⟩:=h;have Ql:=B.length;refine⟨_,(ae (sT 1 mT)
  (ae (kh QX rfl gg gg
   (ax<|di<|CG WZ (pv 1) (pv 3) (pv 2) ⟨rfl,rfl,rfl,rfl⟩))
  (dX<|gS ["literals","places"] [Oa,gV 1] (aH<|pv 0) (e:=λS S S S=>(bS WZ (pv 1) (pv 0) λS S=>rfl))))),?_⟩
 refine λl N=>?_;have k1:=ad N<|.dT [];have s1:=@aa H l (.dT []);refine⟨_,rfl,u,rfl,⟨_,SqL.of<|k1 _ _ v⟩,t6 (K:=K) (a:=u) (X:=ys) (Mx u l o H) ⟨Oa,Oa,[],rfl,s1,λc=>rfl,N' _,k1⟩ ?_ ?_ ?_⟩
 ·rintro i σ G S ⟨S,S,S,S,S,S,S,k⟩;exact SqL.of<|k _ _ v
 ·rintro i x σ G m L ⟨x2,x3,D,rfl,M,d,i3,I⟩ U;have W:Same G (upd G m<|.tup [.int i,x]):=ad U _;obtain⟨c,g,t,rfl,X⟩:=((B.mono I).mono W).get L;have V2:i<o.length:=(N8.mp g).1;have a:upd G m (.tup [.int i,.ref t]) t=gV (.tup<|(gJ c).map kV):=by rw[kO];exact X
  have J:=W _ _ M;have Y:=I.trans W;have p:=@aa G m (.tup [.int i,.ref t]);generalize upd G m (.tup [.int i,.ref t])=G1 at a J Y p ⊢;have et:=Ay g;exists m,_,rfl,SqT.of p,rfl,_,_,rfl,_,_,rfl,rfl;exists _,rfl,l,rfl,.inr ⟨_,.inl J⟩,_,rfl,_,rfl;have b:=d c;by_cases y:c∈o.take i
  ·rw[Ox y]at b;refine .inl ⟨.int ((o.idxOf c:Nat):Int),by rw[<-b];exact DGet.t J a,?_⟩;refine⟨_,_,D,rfl,J,λC=>?_,Wj i3,Y⟩;rw[d C,et];have:(C∈o.take i++[c])↔C∈o.take i:=by
    rw[OH,Oi];exact⟨λz=>z.elim id λz=>z▸y,.inl⟩
   simp only[this]
  rw[Ov y]at b;have ei:=qK g y;refine .inr ⟨by rw[<-b];exact DGet.t J a,_,DPut.t J a (aV<|by lia),?_⟩;refine⟨_,_,_,rfl,aa,λC=>?_,?_,Y.upd_new N _⟩
  ·rw[tN,et];by_cases e:C=c
   ·simp_all
   rw[Ov λz=>e<|hI.mp z,d C];simp_all
  have:=dA D (gJ c)<|.int (i:Int);lia
 rintro σ G ⟨x2,x3,D,rfl,M,d,i3,I⟩;rw[Ol<|by exact UC Ql]at d;refine⟨_,rfl,u,rfl,⟨_,SqL.of<|I _ _ v⟩,λDl n=>?_⟩;refine DE [gV<|.ref l] (λi=>.int ((o.idxOf (o.getD i []):Nat):Int)) rfl (I _ _ v) n (by lia) (λi x L H' R k r=>?_) ?_
 ·obtain⟨c,g,t,rfl,X⟩:=(B.mono<|I.trans k).get L;have a:H' t=gV (.tup<|(gJ c).map kV):=by rw[kO];exact X
  have b:=d c;rw[Ox<|N5 g]at b;have eg:o.getD i []=c:=by simp_all
  rw[eg]at r;exact⟨_,rfl,_,rfl,l,_,rfl,by rw[<-b];exact DGet.t (k _ _ M) a,r⟩
 have k5:=ad n<|.lst ((O7 ys.length).map λi:Nat=>V.int ((o.idxOf (o.getD i []):Nat):Int));refine q Dl _ (I.trans k5) (I.free n) ?_;rw[aa]
 congr 2
 unfold ii;rw[OY];refine S8 λj=>?_;rw[Ow,Ow];by_cases hj:j<o.length
 ·rw[Sn (by lia),N_ hj];show gV (V.int ((o.idxOf _:Nat):Int))=gV _
  rw[N6,N_ hj];rfl
 rw[Py (by rw[PB];lia),Py<|by exact hJ hj];rfl
theorem DF:x∈gI r k↔x∈r\/x=k:=by
 unfold gI
 split
 ·simp_all
 simp
theorem qL:∀{s r:ab Int} {x:Int},x∈s.foldl gI r↔x∈r\/x∈s
 |[],r,x=>by simp
 |k::s,r,x=>by
  rw[SM,qL,DF,OC,or_assoc]
theorem wK(h:r.Nodup):(gI r k).Nodup:=by
 unfold gI
 split
 ·exact h
 rename_i n;rw[Qj];exact⟨h,by simp,λx H y a z=>by rw[Oi.mp a]at z;exact n<|z▸H⟩
theorem lP:∀{k r:ab Int},r.Nodup->(k.foldl gI r).Nodup
 |[],_,h=>h
 |_::k,_,h=>lP (k:=k)<|wK h
section
variable {nm:Nat->ab Int}{last:Nat}
theorem fP:∀j,(bQ nm last j).Nodup
 |0=>by show([(last)]:ab Int).Nodup;simp
 |j+1=>by
  show(if _ then _ else _:ab Int).Nodup
  split
  ·exact lP<|fP j
  exact fP j
theorem eY:x∈bQ nm last (j+1)↔x∈bQ nm last j\/(((last-j:Nat):Int)∈bQ nm last j/\x∈nm (last-j)):=by
 show x∈(if _ then _ else _)↔_
 split
 ·rw[qL];simp_all
 simp_all
theorem je(h:x∈bQ nm last j):∀m,x∈bQ nm last (j+m)
 |0=>h
 |m+1=>eY.mpr<|.inl<|je h m
theorem fQ(H:∀i,i<=last->∀k∈nm i,0<=k/\k<(i:Int)):∀{j:Nat} {x:Int},x∈bQ nm last j->0<=x/\x<=(last:Int)
 |0,x,h=>by
  have a:=Oi.mp h;simp_all
 |j+1,x,h=>by
  obtain z|⟨y,z⟩:=eY.mp h
  ·exact fQ H z
  have:=H _ (ic _ _) x z;omega
theorem oG(H:∀i,i<=last->∀k∈nm i,0<=k/\k<(i:Int))(a:last-j<=p):∀m,(p:Int)∈bQ nm last (j+m)->(p:Int)∈bQ nm last j
 |0,h=>h
 |m+1,h=>by
  obtain z|⟨_,z⟩:=eY.mp ‹_›
  ·exact oG H a m z
  have:=H (last-(j+m)) (ic _ _) _ z;omega
theorem jR(H:∀i,i<=last->∀k∈nm i,0<=k/\k<(i:Int)){p:Nat}(h:(p:Int)∈bQ nm last (last+1)):∀k∈nm p,k∈bQ nm last (last+1):=λk b=>by
 have X:p<=last:=by
  have:=(fQ H h).2;simp_all
 have e:last+1=(last-p)+(p+1):=by lia
 rw[e]at h;have c:=oG H (by simp_all) _ h;have d:=eY.mpr<|.inr ⟨by rwa[show last-(last-p)=p by lia],by rwa[show last-(last-p)=p by lia]⟩;have a:=je d p;lia
theorem wL(j:Nat):(last:Int)∈bQ nm last j:=by
 have:=je (nm:=nm) (j:=0) (x:=(last)) (Oi.mpr rfl) j
 simp_all
end
theorem wM{o:ab (ab Int)}{k:Nat}{c:ab Int}(h:o[k]?=gV c):o.idxOf c<=k:=by
 obtain g|g:=QZ k (o.idxOf c)
 ·exact absurd (N8.mp h).2 (by
   have:=Xl g;simpa using this)
 exact g
theorem jf{o:ab (ab Int)}{c:ab Int}(h:c∈o):o.idxOf c<o.length/\o[o.idxOf c]?=gV c:=by
 have H:=WA.mpr h;exists H;rw[N_ H,Zu]
noncomputable abbrev My:PQ:=cD 56
theorem KC{A B:Hp->Prop}(h:A H):KZ c H λb a=>if b=N7 then A a else B a:=by
 assumption
inductive Ik (r:St)(h:Hp)(D:J')(es:Nat->Oo)(i:Nat)(a:St)(ys:ab V)(H:Hp):Prop
 |mk (v:M' V)(h0:a=v::r)(b:H D=gV (.lst ys))(c:Same h H)(d:cJ H ((O7 i).map es) ys)
theorem qM(r:St)(e:Nat->Oo)(E:k=Oa::r)(p:c a=gV (.lst X))(l:c D=Oa)(G:X.length<=9000)(u:∀i,i<X.length->aO (e i))
  (w:∀i x,X[i]?=gV x->∀H R,Same c H->(∀v h,Same H h->RD h (e i) v->R v h)->T (gV x::r) H R)
  (z:∀y H,Same c H->H D=gV (.lst y)->cJ H ((O7 X.length).map e) y->Q (.ref D) H):gQ (E7 K a) D (dH 0) KZ T k c Q:=by
 refine bv (xs:=X) (Ik r c D e) ⟨Oa,E,aa,ad l _,aw⟩ ?_ ?_ ?_
 ·rintro i q y m j ⟨j,j,f,b,j⟩;exact⟨f,SqL.of<|b _ _ p⟩
 ·rintro i x q y m s ⟨I,rfl,f,b,g⟩;have J:=(N8.mp s).1;refine bV<|w i x s _ _ b λv L n B=>?_;have o:=bI g;rw[A',PB]at o;have t:=n _ _ f;have A:∀d∈(O7<|i+1).map e,aO d:=λd C=>by
   grind
  refine⟨t,aV (by lia),_,rfl,aa,(b.trans n).upd_new l _,fw t A ?_⟩;rw[Rb,OI];exact oA (bN n _ _ g)<|ah B aw
 rintro q y m ⟨j,j,f,b,g⟩;exact z y m b f g
inductive DG (r:St)(h:Hp)(D:J')(ks:ab Int)(i:Nat)(a:St)(ys:ab V)(H:Hp):Prop
 |mk (v b:M' V)(T:ab J')(h0:a=v::b::r)(c:H D=gV (.lst ys))(d:Same h H)(e:ys=T.map V.ref)(f:T.length=i)(g:∀(j:Nat) (t:J') (k:Int),T[j]?=gV t->ks[j]?=gV k->H t=gV (.tup [.int k,.int (j:Int)]))
theorem kP{a b:Type}(d:a)(g:a->b)(l:ab a)(h:n=l.length):(O7 n).map (λi=>g<|l.getD i d)=l.map g:=by
 refine S8 λj=>?_;rw[Ow,Ow];by_cases H:j<l.length
 ·simp_all
 simp_all
noncomputable def oH(n:ab Int):ab (bj×V):=(O7 n.length).map λi=>((Pb (n.getD i 0):bj),V.int (i:Int))
theorem AA(n:ab Int):(oH n).map (·.1)=n.map (Pb:Int->bj):=by
 unfold oH;rw[OY];exact kP 0 _ n rfl
theorem DH(a:k∈n):b9 (oH n) (Pb k:bj)=gV (.int ((n.idxOf k:Nat):Int)):=by
 have g:∀(l:ab Int) (s:Nat),k∈l->b9 ((O7 l.length).map λi=>((Pb (l.getD i 0):bj),V.int ((s+i:Nat)))) (Pb k)=gV (.int ((s+l.idxOf k:Nat))):=by
  intro l
  induction l with
  |nil=>exact λy h=>nomatch h
  |cons x l I=>
   intro s m;rw[OE,Xk,OU];unfold b9;rw[P8];by_cases e:x=k
   ·simp_all
   have E:decide ((Pb ((x::l).getD 0 0):bj)=Pb k)=false:=Ob λz=>e<|Rx z;have H:=(OC.mp m).resolve_left λz=>e z.symm;have:=I (s+1) H;simp only[E];unfold b9 at this;rw[aa3,show(x == k)=Oc by simpa using e];simp_all
 have:=g n 0 a;simp only[Qq]at this;exact this
noncomputable def fF(d:ab Oo)(n:ab Int):ab Oo:=n.map λp=>bR (λk=>((n.idxOf k:Nat):Int))<|d.getD p.toNat .none
noncomputable def bE(o:ab (ab Int))(k:Int):Int:=(ii o).getD k.toNat 0
noncomputable def yD(d:ab Oo)(i:Nat):ab Int:=bq<|d.getD i .none
inductive DI (vs:ab V)(H:Hp)(Q:VK)(E:XK):Prop
 |mk (p q pp L:J')(t:Str)(hw:Oe)(xs s:ab V)(cs:ab (ab Int))(ds:ab Oo)(out:ab (ab Int))(h0:vs=[.ref p,.ref pp])(i:H p=gV (.tup [.str t,.ref q]))(j:t.length<=30)(k:H q=gV (.lst xs))(m:CLs H cs xs)(n:cs.length<=900)(o:(∀c∈cs,al t.length c))(u:H pp=gV (.tup [.str<|aj hw,.ref L]))(v:H L=gV (.lst s))(w:cJ H ds s)(a:ds.length<=3000)(b:(∀d∈ds,aO d))(e:aY t cs hw [] ds=(out,N7))(f:pM out=N7)
   (g:∀r l ys nd h,Same H h->H r=Oa->H l=Oa->h r=gV (.tup [.str<|aj hw,.ref l])->h l=gV (.lst ys)->cJ h (fF (ds.map<|bR<|bE out) nd) ys->Tv nd (bQ (yD<|ds.map<|bR<|bE out) (out.idxOf [])<|out.idxOf []+1)->RP (·<=·) nd->Q (.ref r) h):DI vs H Q E
theorem KD(F:Fun K "shortened_paper" "shortened_paper" My f fd)(T:Bl mg)(ck:Fe P w K mg B 7 "whole_sets" yB)(cl:Fe P w K mg B 1 "first_places" DD)(a9:Fe P w K mg B 1 "renamed" wI)(ba:Fe P w K mg B 2 "needed_by" DC)(bb:Fe P w K mg B 1 "renamed" wJ):aA P w K mg B bw 8 f fd ["sentence","paper"] DI:=by
 refine F.okB (N:=["sentence","paper","sets","firsts","lines","needed","numbers"]) λQ_ A bc s H vs Q E sc hr h=>?_;obtain⟨p,q,pp,la,t,hw,xs,ls,cs,D,o,rfl,hp,ht,hq,S_,h9,SX,X,Y,Z',h8,c,R3,aC,q'⟩:=h;have hu:=hr.units;have bd:o.length=D.length:=by
  have:=bU R3;simpa using this
 have co:=bI Z';obtain⟨he,Zy⟩:=Dx aC;refine⟨_,(ae gg
  (ae gg
  (ae (sT 4<|gS ["line","firsts"] [Oa,gV 3] (aH gg) (e:=λS S S S=>(Fa a9 hr gg)))
  (ae (sT 5<|Fa ba hr<|oe (pv 4)<|fL Pl SJ Ui (kK hu) (pv 2) gg)
  (ae (sT 6<|bF (jc rfl) rfl T.dict UB<|fV<|jx (N:=["number","place"]) (d:=[Oa,Oa]) rfl cS gg (λS S S S=>(rG (K:=K) (n:=2) rfl rfl<|fz (lW 0<|nD ["number","place"])<|fz (lW 1<|nD ["number","place"]) l7)) (λS S S S=>iy) λS S S S=>gg)
  (dX<|dI<|oe gg<|gS ["place","numbers","lines"] [Oa,gV 6,gV 4] (aH<|pv 5) (e:=λS S S S=>(Fa bb hr<|oe (CI (K:=K) (pv 2)<|pv 0)<|pv 1)))))))),?_⟩
 refine⟨_,rfl,_,rfl,p,q,pp,la,t,hw,xs,ls,cs,D,o,rfl,hp,ht,hq,S_,h9,SX,X,Y,Z',Pm h8 (by decide),(λd l=>(dO<|c d l).1),R3,aC,λsl ys H1 k1 cp Z Vs=>?_⟩;have ct:=Vs.length;refine⟨_,rfl,sl,ys,o,rfl,Z,Vs,by simp_all,λfl H2 k2 cv bf=>?_⟩;have C:=k1.trans k2;have cz:(ii o).length=D.length:=by unfold ii;rw[A',bd]
 have aF:∀(i:Nat) (d:Oo),D[i]?=gV d->∀k∈bq d,0<=k/\k<(i:Int):=λi d l k L=>by
  have bg:=n_ R3 l;have:=uS (c _<|N5 l) bg k L;grind
 refine⟨_,rfl,(bu (C _ _ X) rfl ⟨la,rfl,⟨_,SqL.of<|C _ _ Y⟩,λD1 bk=>?_⟩)⟩;refine qM [gV<|.ref fl] (λi=>bR (bE o)<|D.getD i .none) rfl (C _ _ Y) bk (by lia) (λi hi=>jQ<|by simp_all) (λi x y H' R k r=>?_) λl1 H3 k3 aL WX=>?_
 ·have V2:i<D.length:=by have:=(N8.mp y).1;simp_all
  have l:=getD_some (d:=P_) V2;have rx:=cV (bN (C.trans k) _ _ Z') y;exact⟨_,rfl,_,rfl,x,fl,D.getD i .none,ii o,rfl,rx,c _<|N5 l,k _ _ bf,(λz hz=>by have:=aF i _ l z hz;lia),r⟩
 rw[kP P_ (bR<|bE o) D<|by exact co]at WX;have g1:∀d∈D.map (bR<|bE o),aO d:=λd l=>by
  obtain⟨d',h',rfl⟩:=OK.mp l;exact jQ<|c d' h'
 have bl:([]:ab Int)∈o:=N5 Zy;obtain⟨a0,bm⟩:=jf bl;have br:=C.trans k3;have ac:=k2.trans k3;refine⟨_,rfl,_,rfl,.inl ⟨rfl,_,SqL.of<|ac _ _ Z⟩,OG _,λet bs=>?_⟩;have k4:=ad bs<|.tup [];have s4:=@aa H3 et (.tup []);generalize upd H3 et (.tup [])=H4 at k4 s4 ⊢;have eG:∀j,j<o.length->(o.map fB).getD j .none=fB (o.getD j []):=λj I=>by
  rw[N6,N6,Ow,N_ I];rfl
 refine⟨.tuple [],o.map fB,_,sl,ys,o.idxOf [],rfl,rfl,(ac.trans k4) _ _ Z,(Vs.mono<|ac.trans k4).rds,bn s4 aw,by rfl,ja o,by decide+kernel,by rw[A'];exact a0,?_,λm hm=>?_,?_⟩
 ·rw[eG _ a0,gH,N6,bm];rfl
 ·rw[eG _ (VD hm a0),gH];refine Ob λz=>?_;have bt:o[m]?=gV []:=by rw[N6,N_<|by exact VD hm a0]at z;rw[N_<|by exact VD hm a0];exact Pa gV z
  have:=wM bt;lia
 refine⟨D1,l1,D.map<|bR<|bE o,o.idxOf [],rfl,k4 _ _ aL,bN k4 _ _ WX,g1,by simp_all,by simp_all,λnl N H5 k5 c0 M a1 b0=>?_⟩;have u:Tv N (bQ (yD<|D.map<|bR<|bE o) (o.idxOf [])<|o.idxOf []+1):=a1;clear a1;have a2:∀i,i<=o.idxOf []->∀k∈yD (D.map<|bR<|bE o) i,0<=k/\k<(i:Int):=λi hi k L=>by
  have l:=getD_some (d:=P_) (show i<D.length by lia);have e1:(D.map<|bR<|bE o).getD i .none=bR (bE o) (D.getD i .none):=by rw[N6,Ow,l];rfl
  have U:k∈bq ((D.map<|bR<|bE o).getD i .none):=L;rw[e1,qJ<|c _<|N5 l]at U;obtain⟨k0,b1,rfl⟩:=OK.mp U;have c1:=aF i _ l k0 b1;obtain⟨n0,rfl⟩:∃n:Nat,k0=(n:Int):=⟨k0.toNat,by lia⟩;have am:n0<o.length:=by lia
  have ef:bE o (n0:Int)=((o.idxOf (o[n0]'am):Nat):Int):=by
   unfold bE ii;rw[O8,N6,Ow,N_ am];rfl
  have:=wM<|N_ am;rw[ef];lia
 have an:∀x∈N,0<=x/\x<=((o.idxOf []:Nat):Int):=λx y=>fQ a2<|u.mem_iff.mp y;have b2:N.Nodup:=u.nodup_iff.mpr<|fP _;have a3:N.length<=9000:=by
  have:=iK (n:=yD<|D.map<|bR<|bE o) (l:=o.idxOf []) (λi=>iL _)<|o.idxOf []+1;rw[u.length_eq];lia
 have b3:∀x∈N,∀k∈bq ((D.map<|bR<|bE o).getD x.toNat .none),k∈N:=λx y k L=>by
  have b4:=u.mem_iff.mp y;have c2:=an x y;obtain⟨n,rfl⟩:∃n:Nat,x=(n:Int):=⟨x.toNat,by lia⟩;rw[O8]at L;exact u.mem_iff.mpr<|jR a2 b4 k L
 have as:=k4.trans k5;have b5:=br.trans as;refine⟨_,rfl,nl,rfl,⟨_,SqL.of M⟩,λD2 a4=>?_⟩;refine Ag (K:=K) (a:=nl) (X:=N.map V.int) (DG [] H5 D2 N) ⟨Oa,Oa,[],rfl,aa,ad a4 _,rfl,rfl,λj t k h S=>by simp at h⟩ ?_ ?_ ?_
 ·rintro i σ zs G S ⟨S,S,S,S,i1,i2,S⟩;exact⟨i1,SqL.of<|i2 _ _ M⟩
 ·rintro i x σ zs G t0 y ⟨v0,v1,ts,rfl,i1,i2,rfl,i4,i5⟩ b6;obtain⟨k,rfl,L⟩:=cK y;have V2:=(N8.mp L).1;have k6:=ad b6<|.tup [.int (i:Nat),.int k];have s6:=@aa G t0 (.tup [.int (i:Nat),.int k]);generalize upd G t0 (.tup [.int (i:Nat),.int k])=G6 at k6 s6 ⊢;refine⟨t0,[.int (i:Nat),.int k],rfl,SqT.of s6,rfl,_,_,rfl,_,_,rfl,rfl,KC ⟨_,rfl,_,rfl,(by show 2<=sizeLine;decide),λtt cc=>?_⟩⟩;have k7:=ad cc<|.tup [.int k,.int (i:Nat)];have d7:=(k6.trans k7) _ _ i1;refine⟨d7,aV (by rw[A'];lia),_,_,ts++[tt],rfl,?_,(i2.trans<|k6.trans k7).upd_new a4 _,?_,by rw[N9,i4];rfl,λj t' k' I U=>?_⟩
  ·rw[aa]
  ·rw[OI];rfl
  have W:∀{b:J'} {zs:ab V},upd G6 tt (.tup [.int k,.int (i:Nat)]) b=gV (.tup zs)->upd (upd G6 tt<|.tup [.int k,.int (i:Nat)]) D2 (.lst<|ts.map V.ref++[.ref tt]) b=gV (.tup zs):=λe=>by
   rw[ag λz=>by simp_all];exact e
  obtain g|g:=QZ j ts.length
  ·rw[OV g]at I;exact W<|(k6.trans k7) _ _<|i5 j t' k' I U
  rw[OP g]at I;have cd:j=i:=by
   have:=(N8.mp I).1;rw[OL]at this;lia
  subst cd;rw[i4,P3]at I;cases I;rw[L]at U;cases U;exact W aa
 rintro σ zs G ⟨v0,v1,ts,rfl,i1,i2,rfl,i4,i5⟩;rw[A']at i4;refine⟨D2,ts,oH N,rfl,i1,?_,λj t' kv I av=>?_,?_,?_,λdn ce=>?_⟩
 ·unfold oH;rw[A',PB,i4]
 ·have c3:=(N8.mp I).1;unfold oH at av;rw[Ow,Sn<|by simp_all]at av;cases av;exact i5 j t' _ I (by simp_all)
 ·rw[AA];exact Wp _ (λa b h z=>h<|Rx z) b2
 ·unfold oH;rw[A',PB];exact a3
 have k8:=ad ce<|.dK<|oH N;have s8:=@aa G dn (.dK<|oH N);generalize upd G dn (.dK<|oH N)=G8 at k8 s8 ⊢;have J:=i2.trans k8;have O:=b5.trans J;refine⟨_,rfl,(bu (O _ _ X) rfl ⟨_,rfl,nl,rfl,⟨_,SqL.of<|J _ _ M⟩,λD3 a5=>?_⟩)⟩;refine qM [gV<|.ref dn,gV<|.ref D1] (λi=>bR (λk=>((N.idxOf k:Nat):Int))<|(D.map<|bR<|bE o).getD (N.getD i 0).toNat .none) rfl (J _ _ M) a5 (by simp_all) (λi hi=>?_) (λi x y H' R k r=>?_) λl3 H9 k9 cf a6=>?_
 ·rw[A']at hi;have y:=an _<|N5<|getD_some (d:=(0:Int)) hi;exact jQ (g1 _<|N5<|getD_some (d:=P_)<|by grind)
 ·obtain⟨z,rfl,hz⟩:=cK y;have ch:N.getD i 0=z:=by simp_all
  rw[ch]at r;have a7:=N5 hz;have c4:=an z a7;obtain⟨n,rfl⟩:∃n:Nat,z=(n:Int):=⟨z.toNat,by lia⟩;rw[O8]at r;have hn:n<(D.map<|bR<|bE o).length:=by rw[A'];lia
  have a8:=bN (as.trans<|J.trans k) _ _ WX;have c5:=bI a8;obtain⟨v,hv⟩:∃v,l1[n]?=gV v:=⟨_,N_ (by lia)⟩;have rv:=cV a8 hv;have Vl:=b3 _ a7;rw[O8]at Vl;exact⟨_,rfl,_,rfl,(iG ((as.trans (J.trans k)) _ _ aL) (aK hv) ⟨_,rfl,v,dn,(D.map (bR (bE o))).getD n .none,oH N,λk=>((N.idxOf k:Nat):Int),rfl,rv,g1 _ (N5 (getD_some (d:=P_) hn)),k _ _ s8,(λk' U=>DH (Vl k' U)),r⟩)⟩
 refine⟨(by show 2<=sizeLine;decide),λr nr=>?_⟩;have az:=ad nr<|.tup [.str<|aj hw,.ref D3];rw[A',kP (0:Int) (λp=>bR (λk=>((N.idxOf k:Nat):Int))<|(D.map<|bR<|bE o).getD p.toNat .none) N rfl]at a6;exact q' r D3 l3 N _ (O.trans<|k9.trans az) ((O.trans k9).free nr) (O.free a5) aa (az _ _ cf) (bN az _ _ a6) u b0
theorem gK(t:Str)(c:ab (ab Int))(h:Oe)(s:ab (ab Int))(k:Int):aB t c h s (.tuple [.str aE,.int k])=if h=N7 then Oa else fi c (.int k):=by
 cases h<;>rfl
theorem kQ(t:Str)(C:ab (ab Int))(h:Oe)(s:ab (ab Int))(c:ab Int):aB t C h s (.tuple [.str aW,fB c])=if h=N7 then fm t.length C (fB c)else none:=by
 cases h<;>rfl
theorem iM(t:Str)(c:ab (ab Int))(h:Oe)(s:ab (ab Int))(i j z:Int):aB t c h s (.tuple [.str aQ,.int i,.int j,.int z])=cX t h s (.int i) (.int j) (.int z):=by
 cases h<;>rfl
theorem gv{n:Nat}{k:Int}(h:0<=k/\k<(n:Int)):aS n (.int k)=gV k.toNat:=by
 show(if 0<=k/\k<(n)then gV _ else Oa)=_
 rw[Ox h]
theorem mz:cX t w s (.int i) (.int j) (.int z)=gV c↔(0<=i/\i<(s.length:Int))/\(0<=j/\j<(s.length:Int))/\c_ t w (s.getD i.toNat []) (s.getD j.toNat []) z=N7/\bT (s.getD i.toNat []) (s.getD j.toNat []) z=c:=by
 unfold cX;by_cases H:0<=i/\i<(s.length)
 ·by_cases a:0<=j/\j<(s.length)
  ·rw[gv H,gv a];simp_all
  have:aS _ (.int j)=none:=Ov a;rw[gv H,this];exact⟨λh=>(nomatch h),λh=>absurd h.2.1 a⟩
 have:aS _ (.int i)=none:=Ov H;rw[this];exact⟨λh=>(nomatch h),λh=>absurd h.1 H⟩
theorem oI:dW t w s (.int k)=gV c↔(0<=k/\k<(s.length:Int))/\aG t w (s.getD k.toNat [])=c:=by
 unfold dW;by_cases H:0<=k/\k<(s.length)
 ·rw[gv H];exact⟨λh=>⟨H,Oy h⟩,λh=>Pa gV h.2⟩
 have:aS _ (.int k)=none:=Ov H;rw[this];exact⟨λh=>(nomatch h),λh=>absurd h.1 H⟩
theorem DJ{A:ab (ab Int)}{f:Int->Int}(g:aO d)(h:aB t C w s d=gV c)
  (H:∀k∈bq d,(0<=f k/\f k<(A.length:Int))/\A.getD (f k).toNat []=s.getD k.toNat []):aB t C w A (bR f d)=gV c:=by
 obtain⟨k,rfl⟩|⟨n,o,rfl⟩|⟨k,rfl⟩|⟨i,j,z,rfl⟩:=g
 ·assumption
 ·assumption
 ·rw[fb,iE,oI];rw[iE,oI]at h;obtain⟨a,b⟩:=H k (Oi.mpr rfl);exact⟨a,by rw[b];exact h.2⟩
 rw[ff,iM,mz];rw[iM,mz]at h;obtain⟨e,B⟩:=H i (Ot);obtain⟨l,m⟩:=H j (Os _<|Oi.mpr rfl);rw[B,m];exact⟨e,l,h.2.2.1,h.2.2.2⟩
theorem GT(h:aO d):bR f (bR g d)=bR (λk=>f<|g k) d:=by
 obtain⟨k,rfl⟩|⟨c,H,rfl⟩|⟨k,rfl⟩|⟨i,j,z,rfl⟩:=h
 ·rfl
 ·rfl
 ·rfl
 rfl
theorem jg(h:0<=k/\k<(o.length:Int)):bE o k=((o.idxOf (o.getD k.toNat []):Nat):Int)/\o.getD (bE o k).toNat []=o.getD k.toNat []/\0<=bE o k/\bE o k<=k:=by
 obtain⟨n,rfl⟩:∃n:Nat,k=(n):=⟨k.toNat,by lia⟩;have a:n<o.length:=by simp_all
 have H:=getD_some (d:=([])) a;have e:bE o (n)=((o.idxOf (o.getD n []))):=by
  unfold bE ii;rw[O8,N6,Ow,H];rfl
 have m:=N5 H;obtain⟨c,b⟩:=jf m;have d:=wM H;simp_all
theorem oJ(r:aY t c w [] D=(o,N7))(H:∀d∈D,aO d){i:Nat}{d:Oo}(h:D[i]?=gV d):∀k∈bq d,0<=k/\k<(i:Int):=λk a=>by
 have:=uS (H _<|N5 h) (n_ r h) k a;grind
theorem DK{D:ab Oo}{o:ab (ab Int)}(H:∀d∈D,aO d)(h:D[i]?=gV d):yD (D.map<|bR<|bE o) i=(bq d).map (bE o):=by
 unfold yD;rw[N6,Ow,h];exact qJ<|H _<|N5 h
theorem KE(r:aY t C w [] D=(o,N7))(h:∀d∈D,aO d)(j:l<D.length):∀i,i<=l->∀k∈yD (D.map<|bR<|bE o) i,0<=k/\k<(i:Int):=λi m k H=>by
 have c:=getD_some (d:=P_) (show i<D.length by exact Ro m j);have f:o.length=D.length:=by
  have:=bU r;simpa using this
 rw[DK h c]at H;obtain⟨e,g,rfl⟩:=OK.mp H;have n:=oJ r h c e g;obtain⟨z,z,a,b⟩:=jg (o:=o) (k:=e) (by lia);lia
structure GU (t:Str)(cs:ab (ab Int))(hw:Oe)(ds:ab Oo)(out:ab (ab Int))(nd:ab Int):Prop where
 run:aY t cs hw [] (fF (ds.map<|bR<|bE out) nd)=(nd.map λp=>out.getD p.toNat [],N7)
 good:∀d∈fF (ds.map<|bR<|bE out) nd,aO d
 few:nd.length<=ds.length
 last:nd.getLast?=gV ((out.idxOf []:Nat):Int)
 nodup:(nd.map λp=>out.getD p.toNat []).Nodup
theorem Il{N:ab Int}(h:N.Pairwise (·<=·))(n:N.Nodup){i j:Nat}{x y:Int}(a:N[i]?=gV x) (H:N[j]?=gV y) (r:x<y):i<j:=by
 obtain g|g|g:=Q9 i j
 ·exact g
 ·simp_all
 have:=QM.mp h j i (N8.mp H).1 (N8.mp a).1 g;rw[(N8.mp H).2,(N8.mp a).2]at this;lia
theorem qN:∀{N:ab Int} {b n:Int},N.Pairwise (·<=·)->N.Nodup->(∀x∈N,b<=x/\x<n)->(N.length:Int)<=max 0 (n-b)
 |[],b,n,_,_,_=>by simp;omega
 |x::r,b,n,h,u,a=>by
  rw[Pt]at h;rw[PF]at u;have:=qN (b:=x+1) (n:=n) h.2 u.2 λy H=>by
   have c:=h.1 y H;have d:=a y<|Os _ H;have:x≠y:=λe=>u.1<|e▸H;lia
  have f:=a x Ot;grind
theorem GV(q:aY t C w [] D=(o,N7))(c:∀d∈D,aO d)(hm:[]∈o)(m:Tv N (bQ (yD<|D.map<|bR<|bE o) (o.idxOf [])<|o.idxOf []+1))(B:N.Pairwise (·<=·)):GU t C w D o N:=by
 have am:o.length=D.length:=by
  have:=bU q;simpa using this
 obtain⟨hE,E⟩:=jf hm;have A:=KE q c (show o.idxOf []<D.length by exact Pe hE (UC am));have U:∀x∈N,0<=x/\x<=((o.idxOf []:Nat):Int):=λx H=>fQ A<|m.mem_iff.mp H;have b:N.Nodup:=m.nodup_iff.mpr<|fP _;have F:∀x∈N,∀k∈yD (D.map<|bR<|bE o) x.toNat,k∈N:=λx H k f=>by
  have I:=m.mem_iff.mp H;have:=U x H;obtain⟨n,rfl⟩:∃n:Nat,x=(n:Int):=⟨x.toNat,by lia⟩;rw[O8]at f;exact m.mem_iff.mpr<|jR A I k f
 have X:∀x∈N,bE o x=x:=λx H=>by
  have G:∀(j:Nat) (x:Int),x∈bQ (yD<|D.map<|bR<|bE o) (o.idxOf []) j->x=(o.idxOf []:Nat)\/∃k,0<=k/\k<(o.length:Int)/\x=bE o k:=by
   intro j
   induction j with
   |zero=>exact λx h=>.inl<|Oi.mp h
   |succ j J=>
    intro x h;obtain z|⟨V,z⟩:=eY.mp h
    ·exact J x z
    have a:=getD_some (d:=P_) (show o.idxOf []-j<D.length by lia);rw[DK c a]at z;obtain⟨k0,L,rfl⟩:=OK.mp z;have hr:=oJ q c a k0 L;exact .inr ⟨k0,by lia,by lia,rfl⟩
  have M:∀k:Int,0<=k/\k<(o.length:Int)->bE o (bE o k)=bE o k:=λk f=>by
   obtain⟨O,e2,e3,e4⟩:=jg f;obtain⟨P,V,V,V⟩:=jg (o:=o) (k:=bE o k) (by lia);rw[P,e2,<-O]
  obtain z|⟨k,L,h1,z⟩:=G _ x (m.mem_iff.mp H)
  ·obtain⟨P,V,V,V⟩:=jg (o:=o) (k:=x) (by lia);rw[P,z,O8,N6,E];rfl
  rw[z];exact M k ⟨L,h1⟩
 have s:∀(i:Nat) (x:Int),N[i]?=gV x->(fF (D.map<|bR<|bE o) N)[i]?=gV (bR (λk=>((N.idxOf (bE o k):Nat):Int))<|D.getD x.toNat .none):=λi x H=>by
  have r:=U x<|N5 H;have a:=getD_some (d:=P_) (show x.toNat<D.length by lia);unfold fF;rw[Ow,H];show gV (bR _<|(D.map<|bR<|bE o).getD x.toNat .none)=_
  have O:(D.map<|bR<|bE o).getD x.toNat .none=bR (bE o) (D.getD x.toNat .none):=by rw[N6,Ow,a];rfl
  rw[O,GT<|c _<|N5 a]
 have Ql:(fF (D.map<|bR<|bE o) N).length=N.length:=by unfold fF;rw[A']
 refine⟨?_,?_,?_,?_,?_⟩
 ·have G:∀i,i<=N.length->aY t C w [] ((fF (D.map<|bR<|bE o) N).take i)=((N.take i).map λp=>o.getD p.toNat [],N7):=by
   intro i
   induction i with
   |zero=>exact λV=>rfl
   |succ i J=>
    intro l;have H:=getD_some (d:=(0:Int)) (show i<N.length by exact Pe (Tq _) l);generalize N.getD i 0=x at H;have u:=N5 H;have r:=U x u;have a:=getD_some (d:=P_) (show x.toNat<D.length by lia);have Q:=c _<|N5 a;have T:=n_ q a;have hl:aB t C w ((N.take i).map λp=>o.getD p.toNat []) (bR (λk=>((N.idxOf (bE o k):Nat):Int))<|D.getD x.toNat .none)=gV (o.getD x.toNat []):=by
     refine DJ Q T λk f=>?_;have an:=oJ q c a k f;obtain⟨V,f2,f3,f4⟩:=jg (o:=o) (k:=k) (by lia);have W:bE o k∈N:=F x u _ (by rw[DK c a];exact Qr f);have hj:=WA.mpr W;have v:N[N.idxOf (bE o k)]?=gV (bE o k):=by rw[N_ hj,Zu]
     have Y:=Il B b v H (by lia);rw[O8,A',OJ];refine⟨by lia,?_⟩;rw[N6,Ow,P7 Y,v];show o.getD (bE o k).toNat []=_
     rw[f2,N6,N6,P7<|by lia]
    rw[run_next (J<|Z4 l) (s i x H) hl,OM,H];show _=(((N.take i++[x]).map λp=>o.getD p.toNat []),N7)
    rw[OI];rfl
  have:=G N.length<|N' _;rw[Ol<|UC Ql,Ol<|N' _]at this;exact this
 ·intro d a;obtain⟨i,l⟩:=P4.mp a;have V2:i<N.length:=by
   have:=(N8.mp l).1;lia
  have H:=getD_some (d:=(0:Int)) V2;have r:=U _<|N5 H;have Z:=getD_some (d:=P_) (show(N.getD i 0).toNat<D.length by lia);rw[s i _ H]at l;cases l;exact jQ<|c _<|N5 Z
 ·have:=qN (b:=0) (n:=(D.length:Int)) B b λx H=>by
   have:=U x H;lia
  lia
 ·have ac:((o.idxOf []:Nat):Int)∈N:=m.mem_iff.mpr<|wL _;obtain⟨i,l⟩:=P4.mp ac;have V2:=(N8.mp l).1;have H:=getD_some (d:=(0:Int)) (show N.length-1<N.length by lia);have r:=U _<|N5 H;rw[V4,H];by_cases g:N.getD (N.length-1) 0<((o.idxOf []:Nat):Int)
  ·have:=Il B b H l g;lia
  congr 1
  lia
 refine Ph.mpr<|b.imp_of_mem λ{x y} H hy U5 e=>U5 ?_;have ex:=X x H;have ey:=X y hy;have r:=U x H;have as:=U y hy;obtain⟨a1,V⟩:=jg (o:=o) (k:=x) (by lia);obtain⟨a2,V⟩:=jg (o:=o) (k:=y) (by lia);rw[ex]at a1;rw[ey]at a2;rw[a1,a2,e]
structure SS where
 lw:Oe->ab Oo
 ow:Oe->ab (ab Int)
 bs:ab Oe
 fs:ab (M'<|ab Int)
 win:M' Oe
noncomputable def cT{a:Type}(F:Oe->ab a)(b:Oe)(x:a):Oe->ab a:=λc=>if c=b then F c++[x]else F c
theorem bo{a:Type}(F:Oe->ab a)(b:Oe)(x:a):cT F b x b=F b++[x]:=Ox rfl
theorem cE{a:Type}(F:Oe->ab a)(x:a)(h:c≠b):cT F b x c=F c:=Ov h
noncomputable def dR(h:Oe)(d:Oo)(c:ab Int)(S:SS):SS:=if c∈S.ow h then S else{S with lw:=cT S.lw h d,ow:=cT S.ow h c}
noncomputable def oK(k:Nat):Oo:=.tuple [.str ay,.int (k:Int)]
noncomputable def bz(t:Str)(h:Oe)(d:Oo)(c:ab Int)(S:SS):SS:=dR h (oK<|((dR h d c S).ow h).idxOf c) (aG t h c)<|dR h d c S
noncomputable def qO(i j:Nat)(v:Int):Oo:=.tuple [.str aQ,.int (i:Int),.int (j:Int),.int v]
noncomputable def cF(O:ab (ab Int))(f s:ab Int)(v:Int):Oo:=if f.contains (-v)=N7 then qO (O.idxOf s) (O.idxOf f) v else qO (O.idxOf f) (O.idxOf s) v
noncomputable def dY(b:Oe)(o:M' (ab Int))(S:SS):SS:={S with bs:=S.bs++[b],fs:=S.fs++[o]}
noncomputable def ca(S:SS):SS:={S with bs:=S.bs.dropLast,fs:=S.fs.dropLast}
noncomputable def fG(t:Str)(h:Oe):Nat->ab Int->SS->SS
 |0,_,S=>{S with win:=gV h}
 |k+1,c,S=>if(c.contains ((k:Int)+1) || c.contains (-((k:Int)+1)))=N7 then
   match S.fs.getD k Oa with
   |none=>dY (!S.bs.getD k Oc) (gV c)<|ca S
   |some F=>fG t h k (aG t h<|bT F c<|(k:Int)+1) (bz t h (cF (S.ow h) F c<|(k:Int)+1) (bT F c<|(k:Int)+1)<|ca S)
  else fG t h k c (ca S)
def AB(h:Oe)(b:ab Oe)(c:ab Int):Prop:=∀l∈c,cn h b l=N7
noncomputable def dS:Nat->ab Oe->Nat
 |_,[]=>0
 |n,b::r=>(if b=N7 then 2^n else 1)+dS (n-1) r
noncomputable def pend(f:ab (M'<|ab Int)):Nat:=(f.filter Option.isSome).length
noncomputable def cG(S:SS):Nat:=(S.lw N7).length+(S.lw Oc).length
def DL(t:Str)(S:SS)(k:Nat):Prop:=match S.fs.getD k Oa with
 |none=>S.bs.getD k Oc=Oc
 |some F=>S.bs.getD k Oc=N7/\F∈S.ow (!cu t k)/\AB (!cu t k) (S.bs.take k++[Oc]) F/\((k:Int)+1∈F\/ -((k:Int)+1)∈F)
structure ik (t:Str)(cs:ab (ab Int))(S:SS):Prop where
 run:∀hw,aY t cs hw [] (S.lw hw)=(S.ow hw,N7)
 good:∀hw,∀d∈S.lw hw,aO d
 nd:∀hw,(S.ow hw).Nodup
 flen:S.fs.length=S.bs.length
 blen:S.bs.length<=t.length
 fst:∀k,k<S.bs.length->DL t S k
def KF(S:SS):Prop:=∀h,([]:ab Int)∉S.ow h
theorem AC(h:aY t C H [] D=(o,N7))(g:aB t C H o d=gV c):aY t C H [] (D++[d])=(o++[c],N7):=by
 rw[iB h,g]
section
variable {S:SS}
theorem jh(h:c∈S.ow H):dR H d c S=S:=Ox h
theorem eS(h:c∉S.ow H):dR H d c S={S with lw:=cT S.lw H d,ow:=cT S.ow H c}:=Ov h
theorem hH:(dR h d c S).bs=S.bs:=by
 unfold dR
 split<;>rfl
theorem hX:(dR h d c S).fs=S.fs:=by
 unfold dR
 split<;>rfl
theorem gF:(dR h d c S).win=S.win:=by
 unfold dR
 split<;>rfl
theorem GW(H:x∈S.ow h):x∈(dR w d c S).ow h:=by
 by_cases g:c∈S.ow w
 ·rwa[jh g]
 rw[eS g];show x∈cT _ w c h
 by_cases e:h=w
 ·subst e;rw[bo];exact QH _ H
 rwa[cE _ _ e]
theorem mB:c∈(dR h d c S).ow h:=by
 by_cases g:c∈S.ow h
 ·rwa[jh g]
 rw[eS g];show c∈cT _ h c h
 rw[bo];exact Pn _<|Oi.mpr rfl
theorem oM(a:x∈(dR w d c S).ow h):x∈S.ow h\/(h=w/\x=c):=by
 by_cases g:c∈S.ow w
 ·rw[jh g]at a;exact .inl a
 rw[eS g]at a;have H:x∈cT _ w c h:=a;by_cases e:h=w
 ·subst e;rw[bo]at H;simp_all
 rw[cE _ _ e]at H;exact .inl H
theorem uT(h:c∉S.ow H):((dR H d c S).ow H).getLast?=gV c:=by
 rw[eS h];show(cT _ H c H).getLast?=_
 rw[bo,List.getLast?_append];rfl
theorem kR:cG (dR h d c S)<=cG S+1:=by
 by_cases g:c∈S.ow h
 ·rw[jh g];simp
 rw[eS g];show(cT _ h d N7).length+(cT _ h d Oc).length<=_
 unfold cG;cases h
 ·rw[bo,cE _ _ (by decide),N9,OL];exact N' _
 rw[bo,cE _ _ (by decide),N9,OL];lia
theorem KG(H:S'.bs=S.bs)(f:S'.fs=S.fs)(s:∀h x,x∈S.ow h->x∈S'.ow h)(h:DL t S k):DL t S' k:=by
 unfold DL at h ⊢;rw[H,f];cases e:S.fs.getD k Oa with
 |none=>rwa[e]at h
 |some F=>rw[e]at h;exact⟨h.1,s _ _ h.2.1,h.2.2⟩
theorem yE(I:ik t C S)(l:aB t C H (S.ow H) d=gV c)(f:aO d):ik t C (dR H d c S):=by
 by_cases g:c∈S.ow H
 ·rwa[jh g]
 have sub:=λh x (b:x∈S.ow h)=>GW (w:=H) (d:=d) (c:=c) b;rw[eS g]at sub ⊢;refine⟨λh=>?_,λh D i=>?_,λh=>?_,I.flen,I.blen,λk j=>KG (S:=S) rfl rfl sub<|I.fst k j⟩
 ·show aY t C h [] (cT _ H d h)=(cT _ H c h,N7)
  by_cases e:h=H
  ·subst e;rw[bo,bo];exact AC (I.run h) l
  rw[cE _ _ e,cE _ _ e];exact I.run h
 ·have a:D∈cT _ H d h:=i;by_cases e:h=H
  ·subst e;rw[bo]at a;obtain z|z:=OH.mp a
   ·exact I.good h D z
   simp_all
  rw[cE _ _ e]at a;exact I.good h D a
 show(cT _ H c h).Nodup
 by_cases e:h=H
 ·subst e;rw[bo,Qj];exact⟨I.nd h,by simp,λx b y m z=>by simp_all⟩
 rw[cE _ _ e];exact I.nd h
theorem qP(k:Nat):aO (oK k):=.inr<|.inr<|.inl ⟨_,rfl⟩
theorem iN(i j:Nat)(v:Int):aO (qO i j v):=.inr<|.inr<|.inr ⟨_,_,_,rfl⟩
theorem AD(h:c∈O):aB t C H O (oK<|O.idxOf c)=gV (aG t H c):=by
 obtain⟨b,a⟩:=jf h;unfold oK;rw[iE,oI];simp_all
theorem kT(I:ik t C S)(H:aB t C h (S.ow h) d=gV c)(g:aO d):ik t C (bz t h d c S):=
 yE (yE I H g) (AD mB) (qP _)
theorem fg:(bz t h d c S).bs=S.bs:=hH.trans hH
theorem il:(bz t h d c S).fs=S.fs:=hX.trans hX
theorem gq:(bz t h d c S).win=S.win:=gF.trans gF
theorem fh:cG (bz t h d c S)<=cG S+2:=by
 have H:=kR (h:=h) (d:=d) (c:=c) (S:=S);have a:=kR (h:=h) (d:=oK<|((dR h d c S).ow h).idxOf c) (c:=aG t h c) (S:=dR h d c S);unfold bz;lia
theorem kU:aG t h c∈(bz t h d c S).ow h:=mB
theorem kW(E:KF S):(aG t H c≠[]/\KF (bz t H d c S))\/(aG t H c=[]/\((bz t H d c S).ow H).getLast?=gV []/\∀h,h≠H->[]∉(bz t H d c S).ow h):=by
 have f:∀h,[]∈(bz t H d c S).ow h->h=H/\(aG t H c=[]\/c=[]):=λh x=>by
  obtain z|⟨z,e⟩:=oM x
  ·obtain z|⟨z,e⟩:=oM z
   ·exact absurd z<|E h
   exact⟨z,.inr e.symm⟩
  exact⟨z,.inl e.symm⟩
 by_cases g:aG t H c=[]
 ·refine .inr ⟨g,?_,λh n x=>n (f h x).1⟩;by_cases e:c=[]
  ·subst e;have U:aG t H []∈(dR H d [] S).ow H:=mB;unfold bz;rw[jh U];exact uT<|E H
  have n:aG t H c∉(dR H d c S).ow H:=λz=>by
   rw[g]at z;obtain z|⟨y,z⟩:=oM z
   ·exact E H z
   exact e z.symm
  unfold bz;rw[uT n,g]
 refine .inl ⟨g,λh x=>?_⟩;obtain z|z:=(f h x).2
 ·exact g z
 exact g (by rw[z];rfl)
end
theorem eT(z:Int):absI (-z)=absI z:=by
 obtain⟨y,e⟩|⟨y,e⟩:=au z<;>obtain⟨y,E⟩|⟨y,E⟩:=au (-z)<;>lia
theorem DN(H:1<=z)(h:absI l=z):l=z\/l=-z:=by
 obtain⟨y,e⟩|⟨y,e⟩:=au l<;>lia
def Im(t:Str)(h:Oe)(c:ab Int):Prop:=c=[]\/∃l∈c,cu t (absI l-1).toNat=!h/\∀m∈c,absI m<=absI l
theorem ji(h:al n c):Im t H (aG t H c):=by
 obtain e|e:=(gj _ 0).2
 ·refine .inl<|Qz.mpr λl a=>?_;have f:=(h.2 l a).1;have E:fC t H c=0:=e;lia
 obtain⟨l,a,b⟩:=OK.mp e;obtain⟨w,W⟩:=OF.mp a;have E:absI l=fC t H c:=b;refine .inr ⟨l,OF.mpr ⟨w,by lia⟩,?_,λm d=>?_⟩
 ·cases g:cu t _<;>cases H<;>rw[g]at W<;>first|rfl|cases W
 have:=(OF.mp d).2;simp_all
theorem DO(h:AB w b c)(H:l∈c)(a:1<=absI l):absI l<=(b.length:Int):=by
 obtain g|g:=QZ (absI l-1).toNat b.length
 ·omega
 have:=h l H;rw[fD g]at this;simp_all
theorem jS(h:AB w (B++[b]) c)(H:l∈c)(d:1<=absI l)(U:absI l≠(B.length:Int)+1):cn w B l=true:=by
 have e:=DO h H d;rw[N9,OL]at e;have a:=h l H;rwa[uB<|by omega]at a
theorem yF(f:z=(B.length:Int)+1)(h:AB H (B++[b]) c)(U:z∈c\/ -z∈c):(if(b == H)=N7 then z else -z)∈c:=by
 have k:∀l∈c,absI l=z->(b == decide _)=H:=λl d e=>by
  have a:=h l d;rw[uC<|by simp_all]at a;exact eq_of_beq a
 have p:absI z=z:=bB (by lia);have n:absI (-z)=z:=by rw[eT,p]
 obtain g|g:=U
 ·have:=k z g p;simp_all
 have:=k _ g n;rw[Ob (by lia)]at this;simp_all
theorem uU(j:z=(b.length:Int)+1)(k:al n f)(o:al n s)(h:AB H (b++[B]) f)(c:AB H (b++[q]) s):cC f s z=false:=by
 cases g:cC f s z with
 |false=>rfl
 |true=>
  obtain⟨l,d,i⟩:=O9.mp g;obtain⟨W,w⟩:=OF.mp d;have U:absI l≠(b.length)+1:=by
   simp_all
  have m:=Oq.mp i;have r:=(k.2 l W).1;have a:=jS h W r U;have A:=jS c m (by rwa[eT]) (by rwa[eT]);obtain⟨p,e⟩|⟨p,e⟩:=au l
  ·exact(iD (by simp_all) a A).elim
  exact(iD (by simp_all) A<|by rwa[Wq]).elim
theorem AE(h:Ups f)(H:Ups s)(c:cC f s z=Oc)(d:cC s f z=Oc):bT f s z=bT s f z:=by
 have a:=dE h H c;have b:=dE H h d;exact jI a.1 b.1 λl=>(a.2 l).trans (by rw[Or.comm];exact(b.2 l).symm)
theorem eF{a:Type}{l:ab a}{k:Nat}{d:a}(h:l.length=k+1):l=l.dropLast++[l.getD k d]:=by
 have U:l≠[]:=λz=>by simp_all
 have e:l.getD k d=l.getLast U:=by
  rw[List.getLast_eq_getElem];simp[h]
 rw[e];exact(Vk U).symm
section
variable {S:SS}
theorem yG(a:∀c∈C,al t.length c)(I:ik t C S)(H:Oe):∀c∈S.ow H,al t.length c:=λc h=>by
 have:=eQ (w:=H) a (D:=S.lw H) (s:=[]) (by simp);rw[I.run H]at this;exact this c h
theorem sC(I:ik t c S)(h:S.bs.length=k+1):ik t c (ca S):=by
 have l:S.bs.dropLast.length=k:=by rw[PZ,h];rfl
 have L:S.fs.dropLast.length=k:=by rw[PZ,I.flen,h];rfl
 refine⟨I.run,I.good,I.nd,L.trans l.symm,?_,λj H=>?_⟩
 ·show S.bs.dropLast.length<=_
  have:=I.blen;lia
 have a:j<k:=by
  have:j<S.bs.dropLast.length:=H;lia
 have:=I.fst j (by lia);unfold DL at this ⊢;have e:(ca S).fs.getD j Oa=S.fs.getD j none:=by
  show S.fs.dropLast.getD j Oa=_
  rw[N6,N6,UE,Ox<|by rw[I.flen];lia]
 have E:(ca S).bs.getD j Oc=S.bs.getD j false:=by
  show S.bs.dropLast.getD j Oc=_
  rw[N6,N6,UE,Ox<|by lia]
 have b:(ca S).bs.take j=S.bs.take j:=by
  show S.bs.dropLast.take j=_
  rw[UO,VU]
  lia
 rwa[e,E,b]
theorem uV(I:ik t c S)(k:S.bs.length<t.length)(h:DL t (dY b o S) S.bs.length):ik t c (dY b o S):=by
 refine⟨I.run,I.good,I.nd,?_,?_,λj H=>?_⟩
 ·show(S.fs++[o]).length=(S.bs++[b]).length
  rw[N9,N9,I.flen];rfl
 ·show(S.bs++[b]).length<=_
  rw[N9,OL];exact Wk (j' k)
 have a:j<S.bs.length+1:=by
  have:j<(S.bs++[b]).length:=H;simp_all
 by_cases e:j=S.bs.length
 ·simp_all
 have:=I.fst j (by lia);unfold DL at this ⊢;have E:(dY b o S).fs.getD j Oa=S.fs.getD j none:=by
  show(S.fs++[o]).getD j Oa=_
  rw[N6,N6,OV<|by rw[I.flen];lia]
 have d:(dY b o S).bs.getD j Oc=S.bs.getD j false:=by
  show(S.bs++[b]).getD j Oc=_
  rw[N6,N6,OV<|by lia]
 have f:(dY b o S).bs.take j=S.bs.take j:=Qv (Wk a);rwa[E,d,f]
theorem yH(I:ik t c S):DL t (dY b o S) S.bs.length↔match o with
  |none=>b=Oc
  |some F=>b=N7/\F∈S.ow (!cu t S.bs.length)/\AB (!cu t S.bs.length) (S.bs++[Oc]) F/\((S.bs.length:Int)+1∈F\/ -((S.bs.length:Int)+1)∈F):=by
 unfold DL;have e:(dY b o S).fs.getD S.bs.length Oa=o:=by
  show(S.fs++[o]).getD _ Oa=_
  rw[N6,OP (by rw[I.flen];exact N' _),I.flen,P3];rfl
 have E:(dY b o S).bs.getD S.bs.length Oc=b:=by
  show(S.bs++[b]).getD _ Oc=_
  rw[N6,OP<|N' _,P3];rfl
 have a:(dY b o S).bs.take _=S.bs:=abO;rw[e,E,a];rfl
theorem oN(a b:ab (M'<|ab Int)):pend (a++b)=pend a+pend b:=by
 unfold pend;simp
structure oO (t:Str)(cs:ab (ab Int))(hw:Oe)(c:ab Int)(S:SS):Prop where
 I:ik t cs S
 mem:c∈S.ow hw
 agr:AB hw S.bs c
 dr:Im t hw c
 win:S.win=Oa
 emp:(c≠[]/\KF S)\/(c=[]/\(S.ow hw).getLast?=gV []/\∀h,h≠hw->[]∉S.ow h)
inductive DQ (t:Str)(cs:ab (ab Int))(hw:Oe)(S S':SS):Prop
 |on (I:ik t cs S') (a:S'.win=Oa) (emp:KF S') (pre:ab Oe) (hb:S'.bs=pre++[N7]) (hp:(pre++[Oc]) <+:S.bs) (h:cG S'+2*pend S'.fs<=cG S+2*pend S.fs+2):DQ t cs hw S S'
 |won (I:ik t cs S') (a:S'.win=gV hw) (hb:S'.bs=[]) (he:(S'.ow hw).getLast?=gV []) (h:cG S'<=cG S+2*pend S.fs):DQ t cs hw S S'
theorem oQ(f:∀c∈C,al t.length c)(T:oO t C h c S)(g:S.bs.length=k+1)(U:(k:Int)+1∈c\/ -((k:Int)+1)∈c):h=!cu t k/\c≠[]/\KF S:=by
 have s:=yG f T.I h c T.mem;have a:c≠[]:=λz=>by simp_all
 refine⟨?_,a,T.emp.elim (λz=>z.2) λz=>absurd z.1 a⟩;obtain z|⟨l,H,b,d⟩:=T.dr
 ·exact absurd z a
 have i:=DO T.agr H (s.2 l H).1;have j:(k)+1<=absI l:=by
  obtain z|z:=U
  ·have:=d _ z;assumption
  have:=d _ z;rwa[eT]at this
 have e:(absI l-1).toNat=k:=by lia
 simp_all
structure Mz (t:Str)(cs:ab (ab Int))(hw:Oe)(k:Nat)(F c:ab Int)(S:SS):Prop where
 mF:F∈S.ow hw
 okF:al t.length F
 okC:al t.length c
 both:cC F c ((k:Int)+1)=Oc
 line:aB t cs hw (S.ow hw) (cF (S.ow hw) F c<|(k:Int)+1)=gV (bT F c<|(k:Int)+1)
 good:aO (cF (S.ow hw) F c<|(k:Int)+1)
 next:oO t cs hw (aG t hw<|bT F c<|(k:Int)+1) (bz t hw (cF (S.ow hw) F c<|(k:Int)+1) (bT F c<|(k:Int)+1)<|ca S)
theorem qQ(n:∀c∈C,al t.length c)(T:oO t C h c S)(d:S.bs.length=k+1)(M:(k:Int)+1∈c\/ -((k:Int)+1)∈c)(e:S.fs.getD k Oa=gV F):Mz t C h k F c S:=by
 obtain⟨B,N,O⟩:=oQ n T d M;have o:=eF (d:=Oc) d;have P:(ca S).bs.length=k:=by show S.bs.dropLast.length=k;rw[PZ,d];rfl
 have Q:=sC T.I d;have U:k<t.length:=by have:=T.I.blen;lia
 have s:=yG n T.I h c T.mem;have A:AB h ((ca S).bs++[S.bs.getD k Oc]) c:=by
  have:=T.agr;rw[o]at this;exact this
 have p:=T.I.fst k (by lia);unfold DL at p;rw[e]at p;obtain⟨r,m,H,u⟩:=p;rw[<-B]at m H;rw[r]at A;have v:S.bs.take k=(ca S).bs:=by
  show _=S.bs.dropLast
  rw[UO,d];rfl
 rw[v]at H;have a:=yG n T.I h F m;have f:(k:Int)+1=((ca S).bs.length)+1:=by rw[P]
 have g:=uU f a s H A;have D:=uU f s a A H;have E:=yF f H u;have G:=yF f A M;have X:=dE a.1 s.1 g;have w:=nV a s g;have i:(aJ t (!h)).contains ((k)+1)=true:=Oq.mpr<|eH.mpr ⟨by lia,by lia,by rw[show((k:Int)+1-1).toNat=k by lia,B,adv]⟩;obtain⟨iF,Z⟩:=jf m;obtain⟨iC,aC⟩:=jf T.mem;have I:(S.ow h).getD ((S.ow h).idxOf F) []=F:=by rw[N6,Z];rfl
 have J:(S.ow h).getD ((S.ow h).idxOf c) []=c:=by rw[N6,aC];rfl
 have Y:aB t C h (S.ow h) (cF (S.ow h) F c<|(k)+1)=gV (bT F c<|(k)+1):=by
  unfold cF;cases h with
  |true=>
   have L:-((k:Int)+1)∈F:=E;have b:(k:Int)+1∈c:=G;rw[Ox<|Oq.mpr L];unfold qO;rw[iM,mz];rw[O8,O8,I,J];refine⟨by lia,by lia,?_,AE s.1 a.1 D g⟩;unfold c_;rw[i,Oq.mpr b,Oq.mpr L,D];rfl
  |false=>
   have L:(k:Int)+1∈F:=E;have b:-((k:Int)+1)∈c:=G;have WD:¬F.contains (-((k)+1))=true:=λz=>by
    have:=a.1.inj L (Oq.mp z) (by rw[eT]);lia
   rw[Ov WD];unfold qO;rw[iM,mz];rw[O8,O8,I,J];refine⟨by lia,by lia,?_,rfl⟩;unfold c_;rw[i,Oq.mpr b,Oq.mpr L,g];rfl
 have j:aO (cF (S.ow h) F c<|(k)+1):=by
  unfold cF
  split
  ·exact iN _ _ _
  exact iN _ _ _
 have Ep:KF _:=O;have x:=fg (t:=t) (h:=h) (d:=cF (S.ow h) F c<|(k)+1) (c:=bT F c<|(k)+1) (S:=ca S);refine⟨m,a,s,g,Y,j,kT Q Y j,kU,?_,ji w,gq.trans T.win,kW Ep⟩;rw[x];intro l hl;have y:=(OF.mp hl).1;obtain⟨WX,W⟩:=(X.2 l).mp y;rw[f]at W;obtain q|q:=WX
 ·exact jS H q (a.2 l q).1 W
 exact jS A q (s.2 l q).1 W
theorem qR(d:∀c∈C,al t.length c)(T:oO t C w c S)(H:S.bs.length=k+1)(U:¬((k:Int)+1∈c\/ -((k:Int)+1)∈c)):oO t C w c (ca S):=by
 have b:=eF (d:=Oc) H;have s:=yG d T.I w c T.mem;refine⟨sC T.I H,T.mem,λl h=>?_,T.dr,T.win,T.emp⟩;have a:=T.agr;rw[b]at a;refine jS a h (s.2 l h).1 ?_;have:S.bs.dropLast.length=k:=by rw[PZ,H];rfl
 show absI l≠((S.bs.dropLast.length))+1
 rw[this];intro z;obtain q|q:=DN (by lia) z
 ·exact U<|.inl<|q▸h
 exact U<|.inr<|q▸h
theorem AF(d:∀c∈C,al t.length c)(T:oO t C w c S)(H:S.bs.length=k+1)(U:(k:Int)+1∈c\/ -((k:Int)+1)∈c)(e:S.fs.getD k Oa=Oa):S.bs.getD k Oc=Oc/\ik t C (dY N7 (gV c)<|ca S):=by
 obtain⟨a,g,E⟩:=oQ d T H U;have b:=eF (d:=Oc) H;have l:(ca S).bs.length=k:=by show S.bs.dropLast.length=k;rw[PZ,H];rfl
 have I:=sC T.I H;have i:k<t.length:=by have:=T.I.blen;lia
 have A:AB w ((ca S).bs++[S.bs.getD k Oc]) c:=by
  have:=T.agr;rwa[b]at this
 have f:=T.I.fst k (by lia);unfold DL at f;rw[e]at f;have h:=f;rw[h]at A;refine⟨h,uV I (by lia)<|(yH I).mpr ⟨rfl,?_,?_,?_⟩⟩
 ·rw[l,<-a];exact T.mem
 ·rwa[l,<-a]
 rwa[l]
theorem uW(I:ik t c S)(H:S.bs.length=k+1):pend S.fs=pend (ca S).fs+pend [S.fs.getD k Oa]:=by
 have h:=eF (d:=Oa) (I.flen.trans H)
 conv=>lhs;rw[h]
 exact oN _ _
theorem oS(b:∀c∈C,al t.length c):∀k c S,S.bs.length=k->oO t C h c S->DQ t C h S (fG t h k c S)
 |0,c,S,a,T=>by
  have H:=U_ a;have d:c=[]:=by
   cases c with
   |nil=>rfl
   |cons l r=>
    have:=T.agr l Ot;rw[H,fD<|OG _]at this;simp_all
  obtain⟨z,_⟩|⟨_,z,_⟩:=T.emp
  ·simp_all
  ·exact .won ⟨T.I.run,T.I.good,T.I.nd,T.I.flen,T.I.blen,T.I.fst⟩ rfl H z (by show cG S<=_;simp)
 |k+1,c,S,a,T=>by
  have f:=eF (d:=Oc) a;have u:(ca S).bs.length=k:=by show S.bs.dropLast.length=k;rw[PZ,a];rfl
  have m:=uW T.I a;have g:(ca S).bs <+:S.bs:=⟨_,f.symm⟩;have v:cG (ca S)=cG S:=rfl;unfold fG;by_cases U:(c.contains ((k)+1) || c.contains (-((k)+1)))=N7
  ·rw[Ox U];have A:(k:Int)+1∈c\/ -((k:Int)+1)∈c:=by
    rw[Q1]at U;exact U.imp Oq.mp Oq.mp
   cases e:S.fs.getD k Oa with
   |none=>
    obtain⟨i,x⟩:=AF b T a A e;show DQ t C h S _
    rw[i];refine .on x T.win (oQ b T a A).2.2 _ rfl ?_ ?_
    ·exists [];rw[Pq]
     conv=>rhs;rw[f]
     rw[i];rfl
    ·show cG S+2*pend ((ca S).fs++[gV c])<=_
     rw[oN,m];have:pend [gV c]=1:=rfl;lia
   |some F=>
    have J:=qQ b T a A e;have o:pend [gV F]=1:=rfl;rw[e,o]at m;have y:=fh (t:=t) (h:=h) (d:=cF (S.ow h) F c<|(k)+1) (c:=bT F c<|(k)+1) (S:=ca S);have L:=il (t:=t) (h:=h) (d:=cF (S.ow h) F c<|(k)+1) (c:=bT F c<|(k)+1) (S:=ca S);have s:=fg (t:=t) (h:=h) (d:=cF (S.ow h) F c<|(k)+1) (c:=bT F c<|(k)+1) (S:=ca S);have:=oS b k _ _ (by rwa[s]) J.next;cases this with
    |on I w em p H j n=>
     rw[s]at j;rw[L]at n;exact .on I w em p H (j.trans g) (by lia)
    |won I w H d n=>
     rw[L]at n;exact .won I w H d (by lia)
  rw[Ov U];have q:¬((k:Int)+1∈c\/ -((k:Int)+1)∈c):=λz=>U (by
   rw[Q1];exact z.imp Oq.mpr Oq.mpr)
  have:=oS b k c _ u<|qR b T a q;cases this with
  |on I w em p H j n=>exact .on I w em p H (j.trans g) (by lia)
  |won I w H d n=>exact .won I w H d (by lia)
end
noncomputable def cM(b:ab Oe)(c:ab Int):M' (ab Int):=if c.any (cn N7 b)=N7 then Oa else gV (c.filter λl=>decide ((b.length:Int)<absI l))
noncomputable def cg(b:ab Oe)(c:ab Int):ab Int:=c.filter<|cn N7 b
noncomputable def oT(t:Str)(b:ab Oe)(c:ab Int):Int:=(((cg b c).filter λl=>cu t (absI l-1).toNat)++cg b c).headD 0
noncomputable def cq(t:Str)(b:ab Oe)(r c:ab Int):ab Int:=if(r.any λl=>c.contains l)=N7 then r else r++[oT t b c]
noncomputable def gL(t:Str)(c:ab (ab Int))(b:ab Oe):ab Int:=c.foldl (cq t b) []
noncomputable def fJ(t:Str)(c:ab (ab Int))(B:ab Oe):ab Int:=(gL t c B).mergeSort λa b=>decide (absI a<=absI b)
noncomputable def gM(i:Nat):Oo:=.tuple [.str aE,.int (i:Int)]
noncomputable def lQ(c:ab Int):Oo:=.tuple [.str aW,fB c]
noncomputable def cU(t:Str)(b:ab Oe)(c:ab Int):Oe:=decide (cM b (aG t Oc c)=gV [])
noncomputable def fR(t:Str)(C:ab (ab Int))(S:SS):SS:=
 if C.any (cU t S.bs)=N7 then
  fG t Oc S.bs.length (aG t Oc<|C.getD (C.findIdx<|cU t S.bs) []) (bz t Oc (gM<|C.findIdx<|cU t S.bs) (C.getD (C.findIdx<|cU t S.bs) []) S)
 else if(C.all λc=>decide (cM S.bs (aG t Oc c)=Oa))=N7 then
  fG t N7 S.bs.length (aG t N7<|fJ t C S.bs) (bz t N7 (lQ<|fJ t C S.bs) (fJ t C S.bs) S)
 else dY Oc Oa S
theorem jT:∀n a b,dS n (a++b)=dS n a+dS (n-a.length) b
 |n,[],b=>by simp[dS]
 |n,x::a,b=>by
  show(if x=N7 then 2^n else 1)+dS _ (a++b)=(if x=N7 then 2^n else 1)+dS _ a+dS (n-(a.length+1)) b
  rw[jT _ a b];lia
theorem oU:∀n a,a.length<=n->dS n a+2<=2^(n+1)
 |n,[],_=>by
  show 0+2<=_
  have:=Zn (n:=n);rw[Rw];lia
 |0,x::a,h=>by simp at h
 |n+1,x::a,h=>by
  have:=oU n a (I0 h);show(if x=N7 then 2^(n+1)else 1)+dS n a+2<=2^(n+1)*2
  rw[Nat.add_assoc,Nat.mul_two];exact Nat.add_le_add (by split;exact N' _;exact Nat.one_le_two_pow) this
theorem DR(h:(p++[Oc]) <+:b)(H:b.length<=n):dS n b<dS n (p++[N7]):=by
 obtain⟨r,rfl⟩:=h;rw[N9,N9,OL]at H;rw[O5,jT n p _,jT n p _];have e:dS (n-p.length) ([Oc]++r)=1+dS _ r:=rfl;have E:dS (n-p.length) [N7]=2^(n-p.length):=by rfl
 have:=oU (n-p.length-1) r (by omega);rw[show n-p.length-1+1=n-p.length by lia]at this;lia
section
variable {S:SS}
theorem uX(k:al t.length c)(h:cU t b c=N7):AB Oc b (aG t Oc c):=by
 have H:=OO h;have a:=gk (t:=t) (w:=Oc) k;unfold cM at H
 split at H
 ·cases H
 intro l f;have i:cn N7 b l=false:=by
  simp_all
 have m:=(a.2 l f).1;have o:absI l<=(b.length):=by
  simp_all
 unfold cn at i ⊢;rw[N_ (by lia)]at i ⊢;simp_all
theorem kZ(c:1<=absI a)(h:cn N7 B a=N7)(H:cn N7 B b=N7)(e:absI a=absI b):a=b:=by
 obtain z|z:=gi e
 ·exact z
 subst z;obtain⟨p,q⟩|⟨p,q⟩:=au a
 ·exact(iD (pw c (aaP q)) h H).elim
 exact(iD (pw c (aaP q)) H<|by rwa[Wq]).elim
theorem GX(h:∃l∈c,cn N7 b l=N7):oT t b c∈c/\cn N7 b (oT t b c)=true:=by
 have H:cg b c≠[]:=by
  obtain⟨l,a,d⟩:=h;exact VW<|OF.mpr ⟨a,d⟩
 have m:oT t b c∈cg b c:=by
  unfold oT;cases e:(cg b c).filter _ with
  |nil=>
   cases g:cg b c with
   |nil=>exact absurd g H
   |cons x r=>exact Ot
  |cons x r=>
   have:x∈(cg b c).filter λl=>cu t (absI l-1).toNat:=by rw[e];exact Ot
   exact(OF.mp this).1
 exact OF.mp m
structure ChOk (bs:ab Oe)(cs:ab (ab Int))(RC:ab Int):Prop where
 st:∀l∈RC,cn N7 bs l=N7/\∃c∈cs,l∈c
 hit:∀c∈cs,∃l∈RC,l∈c
 nd:RC.Nodup
theorem ChOk.step(h:ChOk B D r)(e:∃l∈c,cn N7 B l=N7):ChOk B (D++[c]) (cq t B r c):=by
 unfold cq
 split
 ·rename_i g;obtain⟨l,H,d⟩:=O9.mp g;refine⟨λl H=>⟨(h.st l H).1,let ⟨C,a,b⟩:=(h.st l H).2;⟨C,QH _ a,b⟩⟩,λC X=>?_,h.nd⟩;obtain z|z:=OH.mp X
  ·exact h.hit C z
  rw[Oi.mp z];exact⟨l,H,Oq.mp d⟩
 rename_i g;obtain⟨p,P⟩:=GX e;refine⟨λl H=>?_,λC X=>?_,?_⟩
 ·obtain z|z:=OH.mp H
  ·exact⟨(h.st l z).1,let ⟨C,a,b⟩:=(h.st l z).2;⟨C,QH _ a,b⟩⟩
  rw[Oi.mp z];exact⟨P,c,Pn _<|Oi.mpr rfl,p⟩
 ·obtain z|z:=OH.mp X
  ·obtain⟨l,a,b⟩:=h.hit C z;exact⟨l,QH _ a,b⟩
  rw[Oi.mp z];exact⟨_,Pn _<|Oi.mpr rfl,p⟩
 rw[Qj];refine⟨h.nd,by simp,λx f y i z=>g ?_⟩;rw[Oi.mp i]at z;exact O9.mpr ⟨x,f,Oq.mpr<|z▸p⟩
theorem k_{t:Str}{C:ab (ab Int)}(h:∀c∈C,∃l∈c,cn N7 b l=N7):∀k,k<=C.length->ChOk b (C.take k) ((C.take k).foldl (cq t b) [])
 |0,_=>⟨λ_ z=>(nomatch z),λ_ z=>(nomatch z),Sw⟩
 |k+1,a=>by
  have H:=getD_some (d:=([])) ‹_›;rw[OM,H];rw[UF];exact(k_ h k<|Z4 a).step<|h _<|N5 H
theorem eI(h:∀c∈C,∃l∈c,cn N7 b l=N7):ChOk b C (gL t C b):=by
 have:=k_ (t:=t) h _<|N' _;rwa[Ol<|N' _]at this
theorem fx:l∈fJ t c b↔l∈gL t c b:=List.mem_mergeSort
theorem yI(H:∀c∈s,al t.length c)(h:∀c∈s,∃l∈c,cn N7 B l=N7):Ups (fJ t s B):=by
 have C:=eI (t:=t) h;refine nU ?_ ((TC _ _).nodup_iff.mpr C.nd) λa d b f e=>?_
 ·rw[Ph];have:=Ul (le:=λa b:Int=>decide (absI a<=absI b)) (by lia) (by lia)<|gL t s B;exact this.imp λh=>OO h
 obtain⟨A,j,D,E⟩:=C.st a<|fx.mp d;obtain⟨k,z⟩:=C.st b<|fx.mp f;exact kZ ((H j D).2 a E).1 A k e
theorem sD(H:∀c∈C,al t.length c)(h:∀c∈C,∃l∈c,cn N7 B l=N7):al t.length (fJ t C B):=
 ⟨yI H h,λl d=>let ⟨_,c,a,b⟩:=(eI h).st l<|fx.mp d;(H c a).2 l b⟩
theorem uY(H:∀c∈C,al t.length c)(h:∀c∈C,∃l∈c,cn N7 B l=N7)(O:ab (ab Int)):aB t C N7 O (lQ<|fJ t C B)=gV (fJ t C B):=by
 unfold lQ;rw[kQ];unfold fm;rw[x_<|sD H h,Cp];have:qy (fJ t C B) C=true:=Pc.mpr λc X=>by
  obtain⟨l,a,b⟩:=(eI h).hit c X;exact O9.mpr ⟨l,fx.mpr a,Oq.mpr b⟩
 rw[this];rfl
theorem lR(h:cM b (aG t Oc c)=Oa):∃l∈c,cn N7 b l=true:=by
 unfold cM at h
 split at h
 ·rename_i g;obtain⟨l,H,a⟩:=O9.mp g;exact⟨l,(OF.mp H).1,a⟩
 simp_all
structure jU (t:Str)(cs:ab (ab Int))(S:SS):Prop where
 I:ik t cs S
 win:S.win=Oa
 emp:KF S
 few:cG S+2*pend S.fs<=4*dS t.length S.bs
structure Fb (t:Str)(cs:ab (ab Int))(S:SS):Prop where
 I:ik t cs S
 hb:S.bs=[]
 hw:∃hw,S.win=gV hw/\(S.ow hw).getLast?=gV []
 few:cG S<=4*2^(t.length+1)
theorem uZ(b:∀c∈C,al t.length c)(F:t.length<=18)(L:jU t C S):(jU t C (fR t C S)/\dS t.length S.bs<dS t.length (fR t C S).bs)\/Fb t C (fR t C S):=by
 have v:=L.few;have G:=oU t.length S.bs L.I.blen;have X:∀h d c,aB t C h (S.ow h) d=gV c->aO d->al t.length c->AB h S.bs (aG t h c)->
   (jU t C (fG t h S.bs.length (aG t h c)<|bz t h d c S)/\dS t.length S.bs<dS t.length (fG t h S.bs.length (aG t h c)<|bz t h d c S).bs)\/Fb t C (fG t h S.bs.length (aG t h c)<|bz t h d c S):=by
  intro h d c f x H O;have T:oO t C h (aG t h c) (bz t h d c S):=⟨kT L.I f x,kU,by rw[fg];exact O,ji H,gq.trans L.win,kW L.emp⟩;have y:=fh (t:=t) (h:=h) (d:=d) (c:=c) (S:=S);have s:=il (t:=t) (h:=h) (d:=d) (c:=c) (S:=S);have i:=fg (t:=t) (h:=h) (d:=d) (c:=c) (S:=S);cases oS b S.bs.length _ _ (by rw[i]) T with
  |on I w em P m u n=>
   rw[i]at u;rw[s]at n;have U:=DR u L.I.blen;rw[<-m]at U;exact .inl ⟨⟨I,w,em,by lia⟩,U⟩
  |won I w m B n=>
   rw[s]at n;exact .inr ⟨I,m,⟨h,w,B⟩,by lia⟩
 unfold fR;by_cases j:C.any (cU t S.bs)=N7
 ·rw[Ox j];have o:C.findIdx (cU t S.bs)<C.length:=UG<|O9.mp j;have D:=getD_some (d:=([]:ab Int)) o;have p:cU t S.bs (C.getD (C.findIdx<|cU t S.bs) [])=true:=by
   have:=Yw (w:=o) (p:=cU t S.bs) (xs:=C);simp_all
  have H:=b _<|N5 D;refine X Oc _ _ ?_ (.inl ⟨_,rfl⟩) H<|uX H p;unfold gM;rw[gK,Ov Om];unfold fi;rw[gv (by simp_all),O8];rfl
 rw[Ov j];by_cases k:(C.all λc=>decide (cM S.bs (aG t Oc c)=Oa))=N7
 ·rw[Ox k];have r:∀c∈C,∃l∈c,cn N7 _ l=true:=λc Z=>lR<|OO<|Pc.mp k c Z;have H:=sD b r;refine X N7 _ _ (uY b r _) (.inr<|.inl ⟨_,?_,rfl⟩) H λl f=>?_
  ·have:=aM H;lia
  exact((eI r).st l<|fx.mp (OF.mp f).1).1
 rw[Ov k];have Q:S.bs.length<t.length:=by
  obtain g|g:=QZ _ _
  ·exact g
  refine absurd (Pc.mpr λc Z=>?_) k;rw[O6];have W:cU t S.bs c=false:=by
   simp_all
  have a:¬cM _ _=gV []:=Rj W;have A:=gk (t:=t) (w:=Oc)<|b c Z;unfold cM at a ⊢
  split
  ·rfl
  rename_i q;rw[Ov q]at a;refine absurd (Pa gV<|Qz.mpr λl f=>?_) a;have:=(A.2 l f).2;lia
 refine .inl ⟨⟨uV L.I Q<|(yH L.I).mpr rfl,L.win,L.emp,?_⟩,?_⟩
 ·show cG S+2*pend (S.fs++[Oa])<=4*dS _ (S.bs++[Oc])
  have J:pend [(Oa:M' _)]=0:=rfl;rw[oN,jT];lia
 show dS _ _<dS _ (S.bs++[Oc])
 have E:dS (t.length-S.bs.length) [Oc]=1:=rfl;rw[jT];simp_all
noncomputable def oV:SS:=⟨λ_=>[],λ_=>[],[],[],Oa⟩
theorem qS:jU t c oV:=⟨⟨λy=>rfl,λy y z=>(nomatch z),λy=>Sw,rfl,OG _,λk h=>(nomatch h)⟩,rfl,λy z=>(nomatch z),OG _⟩
noncomputable def tj(t:Str)(c:ab (ab Int)):Nat->SS->SS
 |0,S=>S
 |k+1,S=>if S.win.isSome=N7 then S else tj t c k (fR t c S)
theorem DS(H:∀c∈C,al t.length c)(a:t.length<=18):∀k S,jU t C S->(jU t C (tj t C k S)/\dS t.length S.bs+k<=dS t.length (tj t C k S).bs)\/Fb t C (tj t C k S)
 |0,S,L=>.inl ⟨L,N' _⟩
 |k+1,S,L=>by
  unfold tj;rw[Ov<|by rw[L.win];exact Om];obtain⟨l,h⟩|W:=uZ H a L
  ·obtain⟨L2,b⟩|W:=DS H a k _ l
   ·exact .inl ⟨L2,by lia⟩
   exact .inr W
  have:tj t C k (fR t C S)=fR t C S:=by
   cases k with
   |zero=>rfl
   |succ k=>
    unfold tj;obtain⟨w,e,z⟩:=W.hw;simp_all
  rw[this];exact .inr W
theorem KH(H:∀c∈C,al t.length c)(a:t.length<=18){S:SS}(L:jU t C S)(b:2^(t.length+1)<=dS t.length S.bs+k):Fb t C (tj t C k S):=by
 obtain⟨l,h⟩|W:=DS H a k S L
 ·have:=oU _ _ l.I.blen;lia
 exact W
end
noncomputable abbrev Io:PQ:=dJ (cD 61) 1
noncomputable abbrev yJ:PQ:=dJ (cD 61) 2
noncomputable abbrev DT:PQ:=dJ (cD 61) 3
structure pN (K:C')(mg:Str->M' K')(CS:J'):Prop where
 len:mg "len"=Oa
 list:mg "list"=Oa
 cl:Cls K CS
 nS:NoAttr K CS "sentence"
 nL:NoAttr K CS "lines"
 nP:NoAttr K CS "places"
 nB:NoAttr K CS "begun"
 nF:NoAttr K CS "firsts"
 nR:NoAttr K CS "rests"
 nW:NoAttr K CS "winner"
 g_WISHER:qh mg "WISHER" (.str<|Oh "wisher")
 g_SPOILER:qh mg "SPOILER" (.str<|Oh "spoiler")
noncomputable def jj(l:Oe->J'):ab (bj×V):=[(SZ<|aj Oc,.ref<|l Oc),(SZ<|aj N7,.ref<|l N7)]
theorem fH(h:H d=gV (.dK<|jj l))(b:Oe):DGet H d (.str<|aj b) (gV<|.ref<|l b):=by
 have e:b9 (jj l) (SZ<|aj b)=gV (.ref<|l b):=by
  cases b<;>rfl
 rw[<-e];exact DGet.k (k:=SZ<|aj b) h
structure SA where
 x:J'
 dx:J'
 p:J'
 q:J'
 dl:J'
 dp:J'
 b:J'
 f:J'
 r:J'
 ll:Oe->J'
 pp:Oe->J'
 far:J'->Prop
def SA.own(A:SA)(a:J'):Prop:=a=A.x\/a=A.b\/a=A.f\/a=A.r\/∃h,a=A.ll h\/a=A.pp h
def SA.taken(A:SA)(a:J'):Prop:=A.own a\/A.far a
def Mv(A:SA)(H h:Hp):Prop:=∀a o,¬A.own a->H a=gV o->h a=gV o
theorem Mv.of(k:Same H h):Mv A H h:=λa o z e=>k a o e
theorem Mv.trans(k:Mv A H b)(j:Mv A b h):Mv A H h:=λa o n e=>j a o n<|k a o n e
theorem Mv.upd(k:Mv A H c)(h:A.own a)(o:HO):Mv A H (upd c a o):=λb u n e=>by
 rw[ag λz=>n<|by rwa[z]];exact k b u n e
def TupS(H h:Hp):Prop:=∀a x,H a=gV (.tup x)->h a=gV (.tup x)
theorem TupS.of(k:Same H h):TupS H h:=λa z e=>k a _ e
theorem TupS.trans(k:TupS H b)(j:TupS b h):TupS H h:=λa x e=>j a x<|k a x e
theorem TupS.cl(k:TupS H a)(h:CL H c v):CL a c v:=let ⟨t,e,z⟩:=h;⟨t,e,k _ _ z⟩
theorem TupS.cls(k:TupS H a):∀{c:ab (ab Int)} {x:ab V},CLs H c x->CLs a c x
 |_,_,.nil=>.nil
 |_,_,.cons h t=>.cons (k.cl h)<|TupS.cls k t
theorem TupS.good(k:TupS H D)(g:aO d)(h:RD H d v):RD D d v:=by
 obtain⟨n,rfl⟩|⟨c,E,rfl⟩|⟨n,rfl⟩|⟨i,j,z,rfl⟩:=g
 ·obtain⟨a,Z,rfl,f,l⟩:=ak h;exact bn (k _ _ f)<|‹_›
 ·obtain⟨a,Z,rfl,f,l⟩:=ak h;obtain⟨Y,q,rfl,m,B⟩:=ai l;obtain⟨t,o,rfl,A,b⟩:=ai B;have e:o=[]:=by assumption
  subst e;obtain⟨p,u,rfl,w,s⟩:=ak A;refine bn (k _ _ f)<|ah (ib m)<|ah (bn (k _ _ w) ?_) aw;clear w A l f h B E b
  induction c generalizing u with
  |nil=>
   assumption
  |cons x c I=>
   obtain⟨y,r,rfl,Q,F⟩:=ai s;exact ah (fE Q)<|I r F
 ·obtain⟨a,Z,rfl,f,l⟩:=ak h;exact bn (k _ _ f)<|‹_›
 obtain⟨a,Z,rfl,f,l⟩:=ak h;exact bn (k _ _ f)<|‹_›
theorem TupS.goods(k:TupS H c):∀{D:ab Oo} {v:ab V},(∀d∈D,aO d)->cJ H D v->cJ c D v
 |[],v,_,h=>by
  assumption
 |d::D,v,g,h=>by
  obtain⟨y,Y,rfl,a,b⟩:=ai h;exact ah (k.good (g d Ot) a)<|TupS.goods k (λf i=>g f<|Os _ i) b
def lX(H:Hp):M' (ab Int)->V->Prop
 |none,v=>v=.non
 |some c,v=>CL H c v
def im(H:Hp):ab (M'<|ab Int)->ab V->Prop:=Paired<|lX H
theorem TupS.opt(k:TupS H a)(h:lX H o v):lX a o v:=by
 cases o with
 |none=>exact h
 |some c=>exact k.cl h
theorem TupS.opts(k:TupS H a):∀{os:ab (M'<|ab Int)} {x:ab V},im H os x->im a os x:=λh=>Paired.mapP h λz z=>k.opt
noncomputable def b7(t:Str)(C:ab (ab Int))(b:ab Oe):ab (M'<|ab Int):=C.map λc=>cM b<|aG t Oc c
structure Rsts (A:SA)(t:Str)(cs:ab (ab Int))(bs:ab Oe)(H:Hp)(vs:ab V):Prop where
 len:vs.length=bs.length+1
 at_:∀(k:Nat) (v:V),vs[k]?=gV v->∃a ws,v=.ref a/\H a=gV (.lst ws)/\¬A.taken a/\im H (b7 t cs<|bs.take k) ws
theorem lY{b:Type} [U' b] {s:ab (b×V)}{k:b}{v:V}(h:b9 s k=Oa):(cQ s k v).length=s.length+1:=by
 unfold cQ;have H:s.any (λa=>decide (a.1=k))=false:=by
  cases e:s.any _ with
  |false=>rfl
  |true=>
   obtain⟨a,c,d⟩:=O9.mp e;have:=Rq.mp (Option.map_eq_none_iff.mp h) a c;exact absurd d this
 first
  |(rw[H];simp)
  |(simp )
def KI(D:ab (ab bj×V))(O:ab (ab Int)):Prop:=D.length=O.length/\∀c:ab Int,b9 D (gJ c)=if c∈O then gV (.int ((O.idxOf c:Nat):Int))else Oa
noncomputable def sE:M' Oe->V
 |none=>.non
 |some h=>.str<|aj h
noncomputable def u5(A:SA)(w:V):ab (Str×V):=[("sentence",.ref A.p),("lines",.ref A.dl),("places",.ref A.dp),("begun",.ref A.b),("firsts",.ref A.f),("rests",.ref A.r),("winner",w)]
structure SrAt (CS:J')(A:SA)(t:Str)(cs:ab (ab Int))(S:SS)(H:Hp):Prop where
 hx:H A.x=gV (.ins CS A.dx<|u5 A<|sE S.win)
 hp:H A.p=gV (.tup [.str t,.ref A.q])
 hq:∃xs,H A.q=gV (.lst xs)/\CLs H cs xs
 hl:H A.dl=gV (.dK<|jj A.ll)
 hd:H A.dp=gV (.dK<|jj A.pp)
 l:∀h,∃vs,H (A.ll h)=gV (.lst vs)/\cJ H (S.lw h) vs
 d:∀h,∃D,H (A.pp h)=gV (.dT D)/\KI D (S.ow h)
 b:H A.b=gV (.lst<|S.bs.map V.bl)
 f:∃vs,H A.f=gV (.lst vs)/\im H S.fs vs
 r:∃vs,H A.r=gV (.lst vs)/\Rsts A t cs S.bs H vs
 nq:¬A.taken A.q
 nd:[A.b,A.f,A.r,A.ll Oc,A.ll N7].Nodup
 np:A.pp Oc≠A.pp N7
 good:∀h,∀d∈S.lw h,aO d
 len:∀h,(S.ow h).length=(S.lw h).length
 far:∀a,A.far a->¬A.own a/\∃o,H a=gV o
section
variable {S:SS}
theorem SrAt.own_ty(h:SrAt C A t s S H)(c:A.own a):(∃w,H a=gV (.ins C A.dx<|u5 A w))\/(∃v,H a=gV (.lst v))\/∃D,H a=gV (.dT D):=by
 obtain rfl|rfl|rfl|rfl|⟨z,rfl|rfl⟩:=c
 ·exact .inl ⟨_,h.hx⟩
 ·exact .inr<|.inl ⟨_,h.b⟩
 ·obtain⟨v,e,y⟩:=h.f;exact .inr<|.inl ⟨_,e⟩
 ·obtain⟨v,e,y⟩:=h.r;exact .inr<|.inl ⟨_,e⟩
 ·obtain⟨v,e,y⟩:=h.l z;exact .inr<|.inl ⟨_,e⟩
 obtain⟨v,e,y⟩:=h.d z;exact .inr<|.inr ⟨_,e⟩
theorem SrAt.ntup(h:SrAt C A t c S H)(e:H a=gV (.tup x)):¬A.own a:=λz=>by
 obtain⟨y,g⟩|⟨y,g⟩|⟨y,g⟩:=h.own_ty z<;>rw[e]at g<;>cases g
theorem SrAt.ndk(h:SrAt C A t c S H)(e:H a=gV (.dK k)):¬A.own a:=λz=>by
 obtain⟨y,g⟩|⟨y,g⟩|⟨y,g⟩:=h.own_ty z<;>rw[e]at g<;>cases g
theorem SrAt.tups(h:SrAt C A t s S H)(m:Mv A H c):TupS H c:=λa x e=>m a _ (h.ntup e) e
theorem SrAt.make(h:SrAt C A t s S H)(m:Mv A H c)(x:c A.x=gV (.ins C A.dx<|u5 A<|sE S'.win))(l:∀z,∃v,c (A.ll z)=gV (.lst v)/\cJ c (S'.lw z) v)(d:∀z,∃D,c (A.pp z)=gV (.dT D)/\KI D (S'.ow z))
  (b:c A.b=gV (.lst<|S'.bs.map V.bl)) (f:∃v,c A.f=gV (.lst v)/\im c S'.fs v) (r:∃v,c A.r=gV (.lst v)/\Rsts A t s S'.bs c v) (g:∀z,∀d∈S'.lw z,aO d) (len:∀z,(S'.ow z).length=(S'.lw z).length):SrAt C A t s S' c:=by
 have k:=h.tups m;obtain⟨X,q,Q⟩:=h.hq;exact⟨x,k _ _ h.hp,⟨X,m _ _ (λz=>h.nq<|.inl z) q,k.cls Q⟩,m _ _ (h.ndk h.hl) h.hl,m _ _ (h.ndk h.hd) h.hd,l,d,b,f,r,h.nq,h.nd,h.np,g,len,λa z=>let ⟨n,o,e⟩:=h.far a z;⟨n,o,m _ _ n e⟩⟩
theorem Rsts.mono(r:Rsts A t c b H s)(m:Mv A H h)(k:TupS H h):Rsts A t c b h s:=
 ⟨r.len,λi v e=>let ⟨a,w,d,f,E,g⟩:=r.at_ i v e;⟨a,w,d,m _ _ (λz=>E<|.inl z) f,E,k.opts g⟩⟩
theorem SrAt.same(h:SrAt C A t c S H)(k:Same H a):SrAt C A t c S a:=
 h.make (.of k) (k _ _ h.hx) (λz=>let ⟨v,e,g⟩:=h.l z;⟨v,k _ _ e,(TupS.of k).goods (h.good z) g⟩) (λz=>let ⟨D,e,g⟩:=h.d z;⟨D,k _ _ e,g⟩) (k _ _ h.b) (let ⟨v,e,g⟩:=h.f;⟨v,k _ _ e,(TupS.of k).opts g⟩) (let ⟨v,e,g⟩:=h.r;⟨v,k _ _ e,g.mono (.of k)<|.of k⟩) h.good h.len
structure NT (A:SA):Prop where
 bf:A.b≠A.f
 br:A.b≠A.r
 fr:A.f≠A.r
 lb:∀z,A.ll z≠A.b
 lf:∀z,A.ll z≠A.f
 lr:∀z,A.ll z≠A.r
 ll:A.ll Oc≠A.ll N7
theorem SrAt.nes(h:SrAt m A t s S H):NT A:=by
 have:=h.nd;simp only[PF,OC,QL,Us,not_or]at this;obtain⟨⟨a,c,e,g⟩,⟨B,i,j⟩,⟨C,k⟩,D,y⟩:=this;exact⟨a,c,B,(λz=>by cases z;exact P6 e;exact P6 g),(λz=>by cases z;exact P6 i;exact P6 j),(λz=>by cases z;exact P6 C;exact P6 k),D⟩
theorem NE(h:NT A)(e:a≠b):A.ll a≠A.ll b:=by
 cases a<;>cases b
 ·exact absurd rfl e
 ·exact h.ll
 ·exact λz=>h.ll z.symm
 simp_all
theorem SrAt.ne_p(h:SrAt C A t c S H){a b:Oe}(e:a≠b):A.pp a≠A.pp b:=by
 cases a<;>cases b
 ·exact absurd rfl e
 ·exact h.np
 ·exact λz=>h.np z.symm
 simp_all
end
inductive wN (C:J')(vs:ab V)(H:Hp)(Q:VK)(E:XK):Prop
 |mk (A:SA)(t:Str)(cs:ab (ab Int))(S:SS)(hw:Oe)(v u:V)(d:Oo)(c:ab Int)(h0:vs=[.ref A.x,.str<|aj hw,v,u])(h:SrAt C A t cs S H)(b:RD H d v)(g:aO d)(e:CL H c u)(n:cG S<=9000)(q:∀a,SrAt C A t cs (dR hw d c S) a->Mv A H a->Q .non a)
theorem u6(S:SS)(h:Oe):(S.lw h).length<=cG S:=by
 unfold cG;cases h<;>lia
theorem GY(F:Fun K "put" "Searcher.put" Io f fd)(T:pN K mg G):aA P w K mg aC bw 1 f fd ["self","hand","line","literals"] (wN G):=by
 refine F.okB (N:=["self","hand","line","literals"]) λQ_ A an s H k Q E sc hr h=>?_;obtain⟨B,t,cs,S,b,v,u,d,c,rfl,h,hv,hg,as,hn,q⟩:=h;have hu:=hr.units;have W:=p9 hr;obtain⟨tc,rfl,Ur⟩:=as;obtain⟨D,m,av,r⟩:=h.d b;obtain⟨l,i,I⟩:=h.l b;have aF:=u6 S b;have Ql:=h.len b;have aL:=bI I;have J:H tc=gV (.tup<|(gJ c).map kV):=by rw[kO];exact Ur
 have L:=DGet.t m J;rw[r c]at L;refine⟨_,(ax (bM (vG<|pZ W (pv 3)<|bS W gg (pv 1) λg g=>rfl) (ae (rq W (bS W gg (pv 1) λg g=>rfl) (pv 3) (aI cj rfl T.len Qh<|fV<|bS W gg (pv 1) λg g=>rfl) rfl)
   (ax<|di<|fL Pl Qp QD dz (bS W gg (pv 1) λg g=>rfl)<|fV<|pv 2)) aN)),?_⟩
 exists _,rfl,_,rfl,B.x,G,B.dx,_,_,rfl,h.hx,T.cl,T.nP,rfl,_,rfl,B.dp,_,rfl,fH h.hd b,B.pp b,_,rfl,L,_,rfl;by_cases p:c∈S.ow b
 ·rw[Ox p];refine ao<|q H ?_<|.of<|Same.refl _;rw[jh p];exact h
 rw[Ov p];refine aq ?_;exists _,rfl,B.x,G,B.dx,_,_,rfl,h.hx,T.cl,T.nL,rfl,_,rfl,B.dl,_,rfl,fH h.hl b,.ref<|B.ll b,_,rfl,.inl ⟨_,SqL.of i,rfl⟩;exists _,rfl,B.x,G,B.dx,_,_,rfl,h.hx,T.cl,T.nP,rfl,_,rfl,B.dp,_,rfl,fH h.hd b,_,rfl,B.pp b,_,rfl,DPut.t m J (aV<|by lia);have oP:B.own (B.pp b):=.inr<|.inr<|.inr<|.inr ⟨b,.inr rfl⟩;have oL:B.own (B.ll b):=.inr<|.inr<|.inr<|.inr ⟨b,.inl rfl⟩;have m1:Mv B H (upd H (B.pp b)<|.dT<|cQ D (gJ c)<|.int (l.length:Nat)):=(Mv.of<|Same.refl H).upd oP _;have M:B.pp b≠B.ll b:=bp m i (by intro z;cases z);have Y:∀a o,H a=gV o->a≠B.pp b->upd H (B.pp b) (.dT<|cQ D (gJ c)<|.int (l.length:Nat)) a=gV o:=λa o e n=>by rw[ag n];exact e
 have s1:=@aa H (B.pp b) (.dT<|cQ D (gJ c)<|.int (l.length:Nat));generalize upd H (B.pp b) (.dT<|cQ D (gJ c)<|.int (l.length:Nat))=O at m1 Y s1 ⊢;have nx:B.x≠B.pp b:=bp h.hx m (by simp);have az:=Y _ _ h.hx nx;have WX:=Y _ _ h.hl (bp h.hl m<|by simp);have U:=Y _ _ i<|P6 M;have k1:=h.tups m1;exists _,rfl,B.x,G,B.dx,_,_,rfl,az,T.cl,T.nL,rfl,_,rfl,B.dl,_,rfl,fH WX b,.inl ⟨rfl,_,SqL.of U⟩,_,rfl,B.ll b,l,v,rfl,rfl,U,aV (by lia);have X:Mv B H (upd O (B.ll b)<|.lst<|l++[v]):=m1.upd oL _;have x:∀a o,H a=gV o->a≠B.pp b->a≠B.ll b->upd O (B.ll b) (.lst<|l++[v]) a=gV o:=λa o e n n2=>by rw[ag n2];exact Y a o e n
 have s2:=@aa O (B.ll b) (.lst<|l++[v]);have s3:upd O (B.ll b) (.lst<|l++[v]) (B.pp b)=gV (.dT<|cQ D (gJ c)<|.int (l.length:Nat)):=by rw[ag M];exact s1
 generalize upd O (B.ll b) (.lst<|l++[v])=H2 at X x s2 s3 ⊢;have Z:=h.tups X;have N:=h.nes;refine q H2 (h.make (S':=dR b d c S) X ?_ ?_ ?_ ?_ ?_ ?_ ?_ ?_) X
 ·rw[gF];exact x _ _ h.hx nx (bp h.hx i<|by intro z;cases z)
 ·intro z;rw[eS p];show∃k,H2 (B.ll z)=gV (.lst k)/\cJ H2 (cT S.lw b d z) k
  by_cases e:z=b
  ·subst e;rw[bo];exact⟨_,s2,oA (Z.goods (h.good z) I)<|ah (Z.good hg hv) aw⟩
  rw[cE _ _ e];obtain⟨k,j,C⟩:=h.l z;exact⟨k,x _ _ j (bp j m<|by intro z;cases z)<|NE N e,Z.goods (h.good z) C⟩
 ·intro z;rw[eS p];show∃D,H2 (B.pp z)=gV (.dT D)/\KI D (cT S.ow b c z)
  by_cases e:z=b
  ·subst e;rw[bo];refine⟨_,s3,?_,λc'=>?_⟩
   ·have WD:b9 D (gJ c)=none:=by simp_all
    rw[lY WD,N9,av];rfl
   rw[tN];by_cases e:c'=c
   ·subst e;rw[Ox rfl,Ox<|Pn _<|Oi.mpr rfl,Z5,Ov p];simp;simp_all
   rw[Ov λz=>e<|hI.mp z,r c'];grind
  rw[cE _ _ e];obtain⟨D',j,C⟩:=h.d z;exact⟨D',x _ _ j (h.ne_p e) (bp j i<|by intro z;cases z),C⟩
 ·rw[hH];exact x _ _ h.b (bp h.b m<|by simp)<|P6<|N.lb b
 ·rw[hX];obtain⟨k,j,C⟩:=h.f;exact⟨k,x _ _ j (bp j m<|by intro z;cases z)<|P6<|N.lf b,Z.opts C⟩
 ·rw[hH];obtain⟨k,j,C⟩:=h.r;exact⟨k,x _ _ j (bp j m<|by intro z;cases z)<|P6<|N.lr b,C.mono X Z⟩
 ·intro z d' am;rw[eS p]at am;have Y4:d'∈cT S.lw b d z:=am;by_cases e:z=b
  ·subst e;rw[bo]at Y4;obtain y|y:=OH.mp Y4
   ·exact h.good z d' y
   simp_all
  rw[cE _ _ e]at Y4;exact h.good z d' Y4
 intro z;rw[eS p];show(cT _ b c z).length=(cT _ b d z).length
 by_cases e:z=b
 ·subst e;rw[bo,bo,N9,N9,h.len z];rfl
 rw[cE _ _ e,cE _ _ e];exact h.len z
inductive io (C:J')(vs:ab V)(H:Hp)(Q:VK)(E:XK):Prop
 |mk (A:SA)(t:Str)(cs:ab (ab Int))(S:SS)(hw:Oe)(v u:V)(d:Oo)(c:ab Int)(h0:vs=[.ref A.x,.str<|aj hw,v,u])(h:SrAt C A t cs S H)(e:RD H d v)(g:aO d)(f:CL H c u)(hok:al t.length c)(ht:t.length<=18)(n:cG S<=8900)(q:∀a b,SrAt C A t cs (bz t hw d c S) b->Mv A H b->mv b a (aG t hw c)->Q (.ref a) b)
inductive sF (C:J')(vs:ab V)(H:Hp)(Q:VK)(E:XK):Prop
 |mk (A:SA)(t:Str)(cs:ab (ab Int))(S:SS)(hw:Oe)(u U:V)(F c:ab Int)(z:Int)(h0:vs=[.ref A.x,.str<|aj hw,u,U,.int z])(h:SrAt C A t cs S H)(d:CL H F u)(e:CL H c U)(mF:F∈S.ow hw)(m:c∈S.ow hw)(okF:al t.length F)(okC:al t.length c)(hb:cC F c z=Oc)(ht:t.length<=18)(n:cG S<=8900)(q:∀a b,SrAt C A t cs (bz t hw (cF (S.ow hw) F c z) (bT F c z) S) b->Mv A H b->mv b a (aG t hw<|bT F c z)->Q (.ref a) b)
theorem DU(h:H a=gV (.tup [.str ay,.int (k:Int)])):RD H (oK k) (.ref a):=bn h<|ah (cH _)<|ah (cr _) aw
theorem u7(h:H a=gV (.tup [.str aQ,.int (i:Int),.int (j:Int),.int z])):RD H (qO i j z) (.ref a):=bn h<|ah (cH _)<|ah (cr _)<|ah (cr _)<|ah (cr _) aw
theorem AG(F:Fun K "learn" "Searcher.learn" yJ f fd)(T:pN K M C)(ac:Fe P w K M e 3 "dropped" gr)(o:yc P w K M e bw 1 C "put" g2 e2 ["self","hand","line","literals"] (wN C)):aA P w K M e bw 4 f fd ["self","hand","line","literals"] (io C):=by
 refine F.okB (N:=["self","hand","line","literals","left"]) λQ_ A O s H vs Q E sc r h=>?_;obtain⟨B,t,N,S,b,v,u,d,c,rfl,h,hv,hg,p,k,ht,hn,q⟩:=h;have hu:=r.units;have W:=p9 r;obtain⟨m,rfl,U⟩:=p;have Vl:=aM k;refine⟨_,(ae gg
  (ae gg
  (ae (di<|nY o (pv 0) r (by simp)<|aP (pv 1)<|oe (dI<|oe gT<|bS W (bS W gg (pv 1) λV V=>rfl) (pv 3) λV V=>rfl)<|pv 4)
  (dX<|pv 4)))),?_⟩
 refine⟨_,rfl,B.x,C,B.dx,_,_,rfl,h.hx,T.cl,T.nS,rfl,_,rfl,_,rfl,B.p,m,t,_,b,c,rfl,h.hp,(Pm ht (by decide)),U,(Pm Vl (Pm ht (by decide))),k.2,λL H1 g x=>?_⟩;have y:=h.same g;refine⟨_,rfl,B.x,B.dx,_,rfl,y.hx,rfl,_,rfl,_,rfl,_,rfl,B,t,N,S,b,v,.ref m,d,c,rfl,y,bJ g _ _ hv,hg,⟨m,rfl,g _ _ U⟩,(Pm hn (by decide)),λz i X=>?_⟩;have Y:=y.tups X;have G:=Y _ _<|g _ _ U;have j:mv z L _:=Y _ _ x;have hm:c∈(dR b d c S).ow b:=mB;obtain⟨D,hD,am,I⟩:=i.d b;have J:z m=gV (.tup<|(gJ c).map kV):=by rwa[kO]
 have l:=DGet.t hD J;rw[I c,Ox hm]at l;refine⟨_,rfl,B.x,B.dx,_,rfl,i.hx,rfl,_,rfl,_,rfl,B.x,C,B.dx,_,_,rfl,i.hx,T.cl,T.nP,rfl,_,rfl,B.dp,_,rfl,fH i.hd b,_,rfl,B.pp b,_,rfl,l,(by show 2<=sizeLine;decide),λa na=>?_⟩;have n:=ad na<|.tup [.str ay,.int (((dR b d c S).ow b).idxOf c)];have Z:=i.same n;have s3:=@aa z a (.tup [.str ay,.int (((dR b d c S).ow b).idxOf c)]);have an:=kR (h:=b) (d:=d) (c:=c) (S:=S);exact⟨_,rfl,B,t,N,dR b d c S,b,_,.ref L,oK<|((dR b d c S).ow b).idxOf c,aG t b c,rfl,Z,DU s3,qP _,⟨L,rfl,n _ _ j⟩,(by lia),λH4 h4 m4=>⟨_,rfl,q L H4 h4 ((Mv.of g).trans<|X.trans<|(Mv.of n).trans m4)<|(Z.tups m4) _ _<|n _ _ j⟩⟩
theorem DV(F:Fun K "learn_join" "Searcher.learn_join" DT f fd)(T:pN K X C)(a3:Fe P w K X g 1 "joined" h_)(a4:yc P w K X g bw 4 C "learn" g2 e2 ["self","hand","line","literals"] (io C)):aA P w K X g bw 5 f fd ["self","hand","first","second","variable"] (sF C):=by
 refine F.okB (N:=["self","hand","first","second","variable","places","line"]) λQ_ A Y s H vs Q E sc hr h=>?_;obtain⟨B,t,cs,S,d,u1,u2,e,c,z,rfl,h,Z,ac,mF,mC,o,O,hb,ht,hn,q⟩:=h;have hu:=hr.units;have W:=p9 hr;obtain⟨L,rfl,i⟩:=Z;obtain⟨t2,rfl,l⟩:=ac;obtain⟨D,hD,a5,v⟩:=h.d d;have l1:=aM o;have l2:=aM O;have n:H L=gV (.tup<|(gJ e).map kV):=by rw[kO];exact i
 have p:H t2=gV (.tup<|(gJ c).map kV):=by rw[kO];exact l
 have G:=DGet.t hD n;rw[v e,Ox mF]at G;have u:=DGet.t hD p;rw[v c,Ox mC]at u;have JE:∀r,Joins e c z r->r=bT e c z:=λr am=>Joins.eq o.1 O.1 hb am;have an:=nV o O hb;refine⟨_,(ae (sT 5<|bS W gg (pv 1) λR R=>rfl)
  (ae (sT 6<|dI<|aP gT<|aP (bS W (pv 5) (pv 2) λR R=>rfl)<|oe (bS W (pv 5) (pv 3) λR R=>rfl)<|pv 4)
  (ae (bM gg (ax<|sT 6<|dI<|aP gT<|aP (bS W (pv 5) (pv 3) λR R=>rfl)<|oe (bS W (pv 5) (pv 2) λR R=>rfl)<|pv 4) aN)
  gg))),?_⟩
 exists _,rfl,B.x,C,B.dx,_,_,rfl,h.hx,T.cl,T.nP,rfl,_,rfl,B.dp,_,rfl,fH h.hd d;refine⟨_,rfl,_,rfl,B.pp d,_,rfl,G,_,rfl,_,rfl,B.pp d,_,rfl,u,_,rfl,(by show 4<=sizeLine;decide),λa1 n1=>?_⟩;have j:=ad n1<|.tup [.str aQ,.int ((S.ow d).idxOf e:Nat),.int ((S.ow d).idxOf c:Nat),.int z];have s1:=@aa H a1 (.tup [.str aQ,.int ((S.ow d).idxOf e:Nat),.int ((S.ow d).idxOf c:Nat),.int z]);have m:∀M a,Same H M->RD M (cF (S.ow d) e c z) (.ref a)->aO (cF (S.ow d) e c z)->Fg (tJ C "learn" (io C) [] E0 (mJ 0)<|iR (mJ 1)<|iR (mJ 6)<|iR (xq h_ [] E0<|iR (mJ 2)<|iR (mJ 3)<|iR (mJ 4) vT) vT) {nx:=λR H'=>Q .non H',rt:=Q} [gV<|.ref B.x,gV<|.str<|aj d,gV<|.ref L,gV<|.ref t2,gV<|.int z,gV<|.ref<|B.pp d,gV<|.ref a] M:=by
  intro M a k as av;have h1:=h.same k;refine⟨_,rfl,B.x,B.dx,_,rfl,h1.hx,rfl,_,rfl,_,rfl,_,rfl,_,rfl,_,rfl,L,t2,e,c,z,rfl,k _ _ i,k _ _ l,(by lia),o.1,O.1,hb,λlj r H2 N hj az=>?_⟩;obtain rfl:=JE r hj;have x:=k.trans N;exact⟨B,t,cs,S,d,_,.ref lj,cF (S.ow d) e c z,bT e c z,rfl,h.same x,bJ N _ _ as,av,⟨lj,rfl,az⟩,an,ht,hn,λb H3 h3 m3 aC=>q b H3 h3 ((Mv.of x).trans m3) aC⟩
 have aF:(if Oc=N7 then !gY (.int (-z)) (e.map V.int)else gY (.int (-z)) (e.map V.int))=e.contains (-z):=by rw[Ov Om,bC]
 exists _,rfl,_,rfl,_,rfl,L,_,rfl,.inr<|SqT.of<|j _ _ i,rfl,aU _,_,rfl;rw[aF];cases U:e.contains (-z)with
 |false=>
  refine ao<|m _ a1 j ?_ ?_
  ·unfold cF;rw[U,Ov Om];exact u7 s1
  ·unfold cF;rw[U,Ov Om];exact iN _ _ _
 |true=>
  have y:=j _ _ hD;have aL:=j _ _ n;have a0:=j _ _ p;have I:=DGet.t y aL;rw[v e,Ox mF]at I;have J:=DGet.t y a0;rw[v c,Ox mC]at J;refine aq ⟨_,rfl,_,rfl,B.pp d,_,rfl,J,_,rfl,_,rfl,B.pp d,_,rfl,I,_,rfl,(by show 4<=sizeLine;decide),λa2 n2=>?_⟩;have N:=ad n2<|.tup [.str aQ,.int ((S.ow d).idxOf c),.int ((S.ow d).idxOf e),.int z];refine m _ a2 (j.trans N) ?_ ?_
  ·unfold cF;rw[U];exact u7 aa
  unfold cF;rw[U];exact iN _ _ _
noncomputable abbrev DW:PQ:=cD 19
noncomputable abbrev DX:PQ:=cD 59
noncomputable abbrev DY:PQ:=dJ (cD 61) 4
def yK:Sp:=λv H Q _=>∃(n:Int) (b:Oe),v=[.int n,.bl b]/\Q (.int (if b=N7 then n else -n)) H
noncomputable def yL:M' (ab Int)->Int->M' (ab Int)
 |none,_=>Oa
 |some r,z=>if r.contains z=N7 then Oa else if r.contains (-z)=N7 then gV (r.drop 1)else gV r
inductive sG (vs:ab V)(H:Hp)(Q:VK)(E:XK):Prop
 |mk (v:V)(o:M' (ab Int))(z:Int)(h0:vs=[v,.int z])(b:lX H o v)(d:∀c,o=gV c->c.length<=60)(q:∀a h,Same H h->lX h (yL o z) a->Q a h)
theorem lg(H:1<=absI l):cn N7 (B++[b]) l=(cn N7 B l || decide (l=if b=N7 then(B.length:Int)+1 else -((B.length:Int)+1))):=by
 obtain g|g|g:=Q9 _ _
 ·rw[uB g,Ob,Y2];intro z;have:absI l=(B.length)+1:=by
   rw[z]
   split
   ·rfl
   rw[eT];rfl
  simp_all
 ·rw[uC g,fD<|UC g.symm,RQ];have h:absI l=(B.length)+1:=by lia
  obtain e|e:=DN (by simp_all) h
  ·rw[e,On (by lia)];cases b
   ·rfl
   simp
  rw[e];cases b
  ·rw[Ov Om,On rfl];rfl
  rfl
 rw[fD (by rw[N9,OL];exact Wk (j' g)),fD (Pu g),Ob,RQ];intro z;have:absI l=(B.length)+1:=by
  rw[z]
  split
  ·rfl
  rw[eT];rfl
 simp_all
theorem AH(k:al n c):yL (cM B c) (if b=N7 then(B.length:Int)+1 else -((B.length:Int)+1))=cM (B++[b]) c:=by
 generalize d:(if b=N7 then(B.length:Int)+1 else -((B.length:Int)+1))=z;have A:absI z=(B.length:Int)+1:=by
  rw[<-d]
  split
  ·rfl
  rw[eT];rfl
 have w:c.any (cn N7<|B++[b])=(c.any (cn N7 B) || c.contains z):=by
  rw[Qe,Q1,O9,O9,Oq];constructor
  ·rintro⟨l,H,h⟩;rw[lg (k.2 l H).1,d,Q1]at h;exact h.imp (λq=>⟨l,H,q⟩) λq=>by simp_all
  rintro (⟨l,H,h⟩|h)
  ·exact⟨l,H,by rw[lg (k.2 l H).1,h,Z7]⟩
  exact⟨z,h,by rw[lg (k.2 z h).1,d,On rfl,Bool.or_true]⟩
 unfold cM;rw[w,N9,OL];cases j:c.any (cn N7 B)with
 |true=>rfl
 |false=>
  rw[Ov Om,RQ];show(if(c.filter λl=>decide ((B.length:Int)<absI l)).contains z=N7 then Oa else if(c.filter λl=>decide ((B.length:Int)<absI l)).contains (-z)=N7 then gV ((c.filter λl=>decide ((B.length:Int)<absI l)).drop 1)else gV (c.filter λl=>decide ((B.length:Int)<absI l)))=_
  have U:∀y,absI y=(B.length:Int)+1->((c.filter λl=>decide ((B.length:Int)<absI l)).contains y=N7↔y∈c):=λy o=>by
   rw[Oq,OF,O6];exact⟨λq=>q.1,λq=>⟨q,by lia⟩⟩
  by_cases g:z∈c
  ·rw[Ox<|(U z A).mpr g,Ox<|Oq.mpr g]
  rw[Ov λq=>g<|(U z A).mp q,Ov λq=>g<|Oq.mp q];have f:c.filter (λl=>decide (((B.length+1:Nat):Int)<absI l))=(c.filter λl=>decide ((B.length:Int)<absI l)).filter λl=>decide (((B.length+1:Nat):Int)<absI l):=by
   rw[List.filter_filter];refine UH λl v=>?_;lia
  have p:Ups (c.filter λl=>decide ((B.length:Int)<absI l)):=Ph.mpr<|Th _<|Ph.mp k.1;have t:∀l∈c.filter λl=>decide ((B.length:Int)<absI l),(B.length:Int)<absI l:=λl H=>OO (OF.mp H).2;have a:∀l∈c.filter λl=>decide ((B.length:Int)<absI l),absI l=(B.length:Int)+1->l=-z:=λl H e=>by
   have E:absI l=absI z:=by simp_all
   obtain q|q:=gi E
   ·exact absurd (q▸(OF.mp H).1) g
   simp_all
  rw[f];generalize c.filter (λl=>decide ((B.length:Int)<absI l))=r at p t a U;by_cases G:r.contains (-z)=N7
  ·rw[Ox G]
   congr 1
   have m:=Oq.mp G;cases r with
   |nil=>rfl
   |cons x r=>
    have s:absI x=(B.length:Int)+1:=by
     have i:=t x Ot;obtain e|e:=OC.mp m
     ·rw[<-e,eT];exact A
     have:=p.head _ e;rw[eT,A]at this;lia
    rw[Qa<|by lia];refine(RJ.mpr λl H=>?_).symm;have:=p.head l H;simp_all
  rw[Ov G]
  congr 1
  refine(RJ.mpr λl H=>?_).symm;have i:=t l H;obtain q|q|q:=Int.lt_trichotomy (absI l) ((B.length)+1)
  ·omega
  ·exact absurd (Oq.mpr<|a l H q▸H) G
  lia
theorem DZ(F:Fun K "literal_by" "literal_by" DW f d):aA P w K m B bw 1 f d ["variable","value"] yK:=by
 refine F.okB (N:=["variable","value"]) λa A o s H v Q E c r h=>?_;obtain⟨n,b,rfl,q⟩:=h;exists _,gg;exists _,rfl,_,rfl;cases b with
 |true=>exact aq ⟨_,rfl,q⟩
 |false=>exact ao ⟨_,rfl,_,rfl,q⟩
theorem D_(F:Fun K "rest_behind" "rest_behind" DX f l):aA P w K M B bw 1 f l ["rest","literal"] sG:=by
 refine F.okB (N:=["rest","literal"]) λD A O s H I Q E J L h=>?_;obtain⟨v,o,z,rfl,i,T,q⟩:=h;refine⟨_,(ae gg
  (dX<|mL gg (gW Ge (pv 0) gg l9)<|pv 0)),?_⟩
 cases o with
 |none=>
  have g:v=.non:=i;subst g;exists _,rfl,rfl,_,rfl;rw[On rfl];exact aq<|aq<|q _ _ (Same.refl _) rfl
 |some r=>
  obtain⟨t,rfl,a⟩:=i;have e:∀y,(if Oc=N7 then !gY (.int y) (r.map V.int)else gY (.int y) (r.map V.int))=r.contains y:=λy=>by rw[Ov Om,bC]
  exists _,rfl,rfl,_,rfl;refine ao ⟨_,rfl,_,rfl,t,_,rfl,.inr<|SqT.of a,rfl,aU _,_,rfl,?_⟩;rw[e];cases j:r.contains z with
  |true=>exact aq<|q _ _ (Same.refl _) (by show lX H (if r.contains z=N7 then Oa else _) _;rw[Ox j];rfl)
  |false=>
   have d:∀c b,Same H b->lX b (if r.contains _=N7 then gV _ else gV r) c->Q c b:=λc b k m=>q c b k (by
    show lX b (if r.contains z=N7 then Oa else if r.contains _=N7 then gV _ else gV r) c
    rwa[Ov<|by rw[j];exact Om])
   refine ao ⟨_,rfl,_,rfl,_,rfl,t,_,rfl,.inr<|SqT.of a,rfl,aU _,_,rfl,?_⟩;rw[e];cases G:r.contains _ with
   |true=>
    rw[G]at d;have n:=Oq.mp G;have U:1<=r.length:=SF n;refine aq ⟨_,rfl,1,rfl,t,_,rfl,SqT.of a,λu=>?_,λZ p N=>?_⟩
    ·have x:HT.sIx (r.map V.int).length 0 (gV 1)=min 1 (r.map _).length:=rfl;simp_all
    ·have C:cZ (r.map V.int) (gV 1) Oa=(r.drop 1).map V.int:=by
      rw[show(gV (1))=gV (((1:Nat):Int))from rfl,BY,acJ]
     rw[C];exact d _ _ (ad N _) ⟨p,rfl,aa⟩
   |false=>
    rw[G]at d;exact ao ⟨_,rfl,d _ _ (Same.refl _) ⟨t,rfl,a⟩⟩
inductive mD (C:J')(vs:ab V)(H:Hp)(Q:VK)(E:XK):Prop
 |mk (A:SA)(t:Str)(cs:ab (ab Int))(S:SS)(b:Oe)(f:V)(o:M' (ab Int))(h0:vs=[.ref A.x,.bl b,f])(h:SrAt C A t cs S H)(d:lX H o f)(e:∀c∈cs,al t.length c)(ht:t.length<=18)(s:cs.length<=900)(hb:S.bs.length<=18)(g:S.fs.length<=18)(q:∀a,SrAt C A t cs (dY b o S) a->Mv A H a->Q .non a)
theorem paired_len{a b:Type}{R:a->b->Prop}{A:ab a}{B:ab b}(h:Paired R A B):A.length=B.length:=by
 induction h with
 |nil=>rfl
 |cons _ _ i=>simp_all
theorem qT{d c:Type}{R:d->c->Prop}{A:ab d}{B:ab c}(h:Paired R A B):∀{i:Nat} {b:c},B[i]?=gV b->∃a,A[i]?=gV a/\R a b:=by
 induction h with
 |nil=>intro i b e;simp at e
 |cons r _ I=>
  intro i b e;cases i with
  |zero=>
   simp_all
  |succ i=>
   simp_all
theorem lS{c d:Type}{R:c->d->Prop}{A:ab c}{B:ab d}{a:c}{b:d}(h:Paired R A B)(r:R a b):Paired R (A++[a]) (B++[b]):=by
 induction h with
 |nil=>exact .cons r .nil
 |cons e _ i=>exact .cons e i
theorem yM{x:ab V}{y:V}(h:x[x.length-1]?=gV y):kq x (-1)=gV y:=by
 have H:0<x.length:=by
  have:=(N8.mp h).1;lia
 unfold kq Jr;rw[Ov (by decide),Ox<|by lia];rwa[show(-1+(x.length:Int)).toNat=x.length-1 by lia]
inductive Iq (h:Hp)(D:J')(z:Int)(os:ab (M'<|ab Int))(i:Nat)(a:St)(ys:ab V)(H:Hp):Prop
 |mk (v:M' V)(h0:a=[v,gV (.int z)])(b:H D=gV (.lst ys))(c:Same h H)(d:im H ((os.take i).map λo=>yL o z) ys)
theorem Ea(F:Fun K "fill_in" "Searcher.fill_in" DY f fd)(T:pN K mg CS)(aC:Fe P w K mg U 1 "literal_by" yK)(a9:Fe P w K mg U 1 "rest_behind" sG):aA P w K mg U bw 2 f fd ["self","value","first"] (mD CS):=by
 refine F.okB (N:=["self","value","first","literal"]) λQ_ A aF s H vs Q E sc hr h=>?_;obtain⟨B,t,cs,S,b,fv,o,rfl,h,ho,hc,ht,S_,ba,bb,q⟩:=h;have N:=h.nes;obtain⟨j,hf,Zw⟩:=h.f;have bc:=paired_len Zw;refine⟨_,(ae (sT 3<|Fa aC hr<|oe (eU vM (aI cj rfl T.len Qh gg) bW)<|pv 1)
  (ae gg
  (ae gg
  (ax<|di<|fL Pl Qp QD dz gg<|fV<|gS ["rest","literal"] [Oa,gV 3]<|aH gg)))),?_⟩
 exists _,rfl,B.x,CS,B.dx,_,_,rfl,h.hx,T.cl,T.nB,rfl,.ref B.b,_,rfl,.inl ⟨_,SqL.of h.b,rfl⟩,_,_,rfl,rfl,_,rfl,_,b,rfl;rw[A'];generalize hz:(if b=N7 then((S.bs.length:Nat):Int)+1 else -(((S.bs.length:Nat):Int)+1))=z;exists _,rfl,B.x,CS,B.dx,_,_,rfl,h.hx,T.cl,T.nB,rfl,.inl ⟨rfl,_,SqL.of h.b⟩,_,rfl,B.b,_,_,rfl,rfl,h.b,ap (by rw[A'];exact Pm ba (by decide));have oB:B.own B.b:=.inr<|.inl rfl;have oF:B.own B.f:=.inr<|.inr<|.inl rfl;have oR:B.own B.r:=.inr<|.inr<|.inr<|.inl rfl;have W:B.x≠B.b:=bp h.hx h.b (by simp);have an:B.x≠B.f:=bp h.hx hf (by simp);have m1:Mv B H (upd H B.b<|.lst<|S.bs.map V.bl++[.bl b]):=(Mv.of<|Same.refl H).upd oB _;have YX:∀a u,H a=gV u->a≠B.b->upd H B.b (.lst<|S.bs.map V.bl++[.bl b]) a=gV u:=λa u e n=>by rw[ag n];exact e
 have s1:=@aa H B.b (.lst<|S.bs.map V.bl++[.bl b]);generalize upd H B.b (.lst<|S.bs.map V.bl++[.bl b])=H1 at m1 YX s1 ⊢;have aL:=YX _ _ h.hx W;have as:=YX _ _ hf<|P6 N.bf;exists _,rfl,B.x,CS,B.dx,_,_,rfl,aL,T.cl,T.nF,rfl,.inl ⟨rfl,_,SqL.of as⟩,_,rfl,B.f,_,_,rfl,rfl,as,ap (by lia);have m2:Mv B H (upd H1 B.f<|.lst<|j++[fv]):=m1.upd oF _;have V8:∀a u,H a=gV u->a≠B.b->a≠B.f->upd H1 B.f (.lst<|j++[fv]) a=gV u:=λa u e n n2=>by rw[ag n2];exact YX a u e n
 have s2:=@aa H1 B.f (.lst<|j++[fv]);have X:upd H1 B.f (.lst<|j++[fv]) B.b=gV (.lst<|S.bs.map V.bl++[.bl b]):=by rw[ag N.bf];exact s1
 generalize upd H1 B.f (.lst<|j++[fv])=H2 at m2 V8 s2 X ⊢;have k2:=h.tups m2;have J:=V8 _ _ h.hx W an;obtain⟨r,XT,Y⟩:=h.r;have L:=V8 _ _ XT (P6 N.br)<|P6 N.fr;have a0:=Y.mono m2 k2;have a1:=Y.len;have Zy:r[r.length-1]?=gV (r.getD (r.length-1) .non):=(by simp_all);obtain⟨a,ws,ev,ac,bd,am⟩:=a0.at_ _ _ Zy;rw[ev]at Zy;rw[show r.length-1=S.bs.length by lia,Ol<|N' _]at am;have bf:=paired_len am;have bg:(b7 t cs S.bs).length=cs.length:=A' _;refine⟨_,rfl,B.x,CS,B.dx,_,_,rfl,J,T.cl,T.nR,rfl,.inl ⟨rfl,_,SqL.of L⟩,_,rfl,B.x,CS,B.dx,_,_,rfl,J,T.cl,T.nR,rfl,_,rfl,(iG L (yM Zy) ⟨a,rfl,⟨_,SqL.of ac⟩,λD nD=>?_⟩)⟩;have bk:a≠D:=af ac nD;have av:¬B.taken D:=λZ=>by
  obtain(Z|Z|Z|Z|⟨y,Z|Z⟩)|Z:=Z
  ·simp_all
  ·simp_all
  ·simp_all
  ·lia
  ·obtain⟨vs,e,R⟩:=h.l y;rw[Z,V8 _ _ e (N.lb y)<|N.lf y]at nD;cases nD
  ·obtain⟨D',e,R⟩:=h.d y;rw[Z,V8 _ _ e (bp e h.b<|by intro z;cases z)<|bp e hf<|by intro z;cases z]at nD;cases nD
  obtain⟨n,o,e⟩:=h.far _ Z;rw[m2 _ _ n e]at nD;cases nD
 refine bv (K:=K) (a:=a) (xs:=ws) (Iq H2 D z<|b7 t cs S.bs) ⟨Oa,rfl,aa,ad nD _,.nil⟩ ?_ ?_ ?_
 ·rintro i σ ys p R ⟨R,R,i1,I,R⟩;exact⟨i1,SqL.of<|I _ _ ac⟩
 ·rintro i x σ ys p hx ⟨v0,rfl,i1,I,i3⟩;obtain⟨oi,d,a2⟩:=qT am hx;have V2:=(N8.mp d).1;have a3:=paired_len i3;rw[A',OJ]at a3;have a4:∀c,oi=gV c->c.length<=60:=λc e=>by
   unfold b7 at d;rw[Ow]at d;cases g:cs[i]? with
   |none=>simp_all
   |some c0=>
    rw[g]at d;have m:cM S.bs (aG t Oc c0)=gV c:=(Oy d).trans e;unfold cM at m
    split at m
    ·cases m
    rw[<-Oy m];have h1:=Po (λl=>decide ((S.bs.length:Int)<absI l))<|aG t Oc c0;have h2:=aM<|gk (t:=t) (w:=Oc)<|hc c0<|N5 g;lia
  refine bV ⟨_,rfl,_,rfl,x,oi,z,rfl,(TupS.of I).opt a2,a4,λv' H4 M Z_=>?_⟩;have C:=M _ _ i1;have tk:TupS H4 (upd H4 D<|.lst<|ys++[v']):=λb' a5 e=>by rw[ag λZ=>by simp_all];exact e
  exists C,ap (by lia),_,rfl,aa,(I.trans M).upd_new nD _;rw[OM,d,OI];exact lS (((TupS.of M).trans tk).opts i3)<|tk.opt Z_
 rintro σ ys p ⟨R,R,i1,I,i3⟩;rw[Ol<|by exact UC bf]at i3;have bl:=I _ _ J;have az:=I _ _ L;exists B.r,r,_,rfl,rfl,az,ap (by lia);have m4:Mv B H (upd p B.r<|.lst<|r++[.ref D]):=(m2.trans<|.of I).upd oR _;have O:∀a u,H a=gV u->a≠B.b->a≠B.f->a≠B.r->upd p B.r (.lst<|r++[.ref D]) a=gV u:=λa u e n n2 n3=>by rw[ag n3];exact I _ _<|V8 a u e n n2
 have M:=h.tups m4;have a6:D≠B.r:=λZ=>av (by rw[Z];exact .inl oR);have C:upd p B.r (.lst<|r++[.ref D]) D=gV (.lst ys):=by rw[ag a6];exact i1
 have tk:TupS p (upd p B.r<|.lst<|r++[.ref D]):=λb' a5 e=>by rw[ag λZ=>by simp_all];exact e
 have sr:=@aa p B.r (.lst<|r++[.ref D]);have sb:upd p B.r (.lst<|r++[.ref D]) B.b=gV (.lst<|S.bs.map V.bl++[.bl b]):=by rw[ag N.br];exact I _ _ X
 have sf:upd p B.r (.lst<|r++[.ref D]) B.f=gV (.lst<|j++[fv]):=by rw[ag N.fr];exact I _ _ s2
 generalize upd p B.r (.lst<|r++[.ref D])=H4 at m4 O M C tk sr sb sf ⊢;refine q H4 (h.make (S':=dY b o S) m4 ?_ ?_ ?_ ?_ ?_ ?_ h.good h.len) m4
 ·exact O _ _ h.hx W an (by lia)
 ·intro y;obtain⟨vs,G,m⟩:=h.l y;exact⟨vs,O _ _ G (N.lb y) (N.lf y)<|N.lr y,M.goods (h.good y) m⟩
 ·intro y;obtain⟨D',G,m⟩:=h.d y;exact⟨D',O _ _ G (bp G h.b<|by simp) (bp G hf<|by intro z;cases z) (bp G XT<|by intro z;cases z),m⟩
 ·show H4 B.b=gV (.lst<|(S.bs++[b]).map V.bl)
  rw[OI];exact sb
 ·exact⟨_,sf,lS (M.opts Zw)<|M.opt ho⟩
 refine⟨_,sr,?_,λk v hk=>?_⟩
 ·show(r++[V.ref D]).length=(S.bs++[b]).length+1
  rw[N9,N9,a1];rfl
 by_cases g:k<r.length
 ·rw[OV g]at hk;obtain⟨a',a7,G,m,e3,e4⟩:=(Y.mono m4 M).at_ k v hk;exists a',a7,G,m,e3;have:(dY b o S).bs.take k=S.bs.take k:=Qv (by lia);simp_all
 rw[OP<|by exact hJ g]at hk;have a8:k=r.length:=by
  grind
 subst a8;rw[P3]at hk;cases hk;exists D,ys,rfl,C,av;have G:(dY b o S).bs.take r.length=S.bs++[b]:=Ol (by show(S.bs++[b]).length<=_;simp_all);rw[G];have m:(b7 t cs S.bs).map (λo=>yL o z)=b7 t cs (S.bs++[b]):=by
  unfold b7;rw[OY];refine QQ λc Zz=>?_;rw[<-hz];exact AH<|gk (t:=t)<|hc c Zz
 rw[<-m];exact tk.opts i3
noncomputable abbrev Eb:PQ:=dJ (cD 61) 5
inductive sI (C:J')(vs:ab V)(H:Hp)(Q:VK)(E:XK):Prop
 |mk (A:SA)(t:Str)(cs:ab (ab Int))(S:SS)(hw:Oe)(u:V)(c:ab Int)(h0:vs=[.ref A.x,.str<|aj hw,u])(h:SrAt C A t cs S H)(b:CL H c u)(T:oO t cs hw c S)(d:∀c∈cs,al t.length c)(ht:t.length<=18)(s:cs.length<=900)(n:cG S+2*pend S.fs<=8800)(q:∀a,SrAt C A t cs (fG t hw S.bs.length c S) a->Mv A H a->Q .non a)
inductive Ec (C:J')(A:SA)(t:Str)(cs:ab (ab Int))(hw:Oe)(R:SS)(H:Hp)(m:Nat)(b:St)(a:Hp):Prop
 |mk (c:ab Int)(S:SS)(u:V)(v d e:M' V)(h0:b=[gV<|.ref A.x,gV<|.str<|aj hw,gV u,v,d,e])(h:SrAt C A t cs S a)(f:Mv A H a)(g:CL a c u)(T:oO t cs hw c S)(k:S.bs.length=m)(n:cG S+2*pend S.fs<=8800)(i:fG t hw m c S=R)
theorem MA(b:∀R,R p H->T a H R)(c:∀R,R q H->d a H R)(h:if(p || q)=N7 then t D a H else u D a H):IV (NG T d) t u D a H:=by
 refine b _ ?_;cases p with
 |true=>exact aq h
 |false=>exact ao<|c _ h
section
variable {S:SS}
theorem SrAt.pop(h:SrAt M A t C S H)(hk:S.bs.length=k+1)(q:H A.f=gV (.lst F))(Z:im H S.fs F)(D:H A.r=gV (.lst s))(c:Rsts A t C S.bs H s):
  SrAt M A t C (ca S) (upd (upd (upd H A.b<|.lst (S.bs.map V.bl).dropLast) A.f<|.lst F.dropLast) A.r<|.lst s.dropLast)/\Mv A H (upd (upd (upd H A.b<|.lst (S.bs.map V.bl).dropLast) A.f<|.lst F.dropLast) A.r<|.lst s.dropLast):=by
 have N:=h.nes;have O:A.own A.b:=.inr<|.inl rfl;have P:A.own A.f:=.inr<|.inr<|.inl rfl;have Q:A.own A.r:=.inr<|.inr<|.inr<|.inl rfl;have m:Mv A H (upd (upd (upd H A.b<|.lst (S.bs.map V.bl).dropLast) A.f<|.lst F.dropLast) A.r<|.lst s.dropLast):=(((Mv.of<|Same.refl H).upd O _).upd P _).upd Q _;have p:∀a u,H a=gV u->a≠A.b->a≠A.f->a≠A.r->upd (upd (upd H A.b<|.lst (S.bs.map V.bl).dropLast) A.f<|.lst F.dropLast) A.r (.lst s.dropLast) a=gV u:=λa u e T U X=>by rwa[ag X,ag U,ag T]
 have I:=@aa (upd (upd H A.b<|.lst (S.bs.map V.bl).dropLast) A.f<|.lst F.dropLast) A.r (.lst s.dropLast);have w:upd (upd (upd H A.b<|.lst (S.bs.map V.bl).dropLast) A.f<|.lst F.dropLast) A.r (.lst s.dropLast) A.f=gV (.lst F.dropLast):=by rw[ag N.fr];exact aa
 have J:upd (upd (upd H A.b<|.lst (S.bs.map V.bl).dropLast) A.f<|.lst F.dropLast) A.r (.lst s.dropLast) A.b=gV (.lst (S.bs.map V.bl).dropLast):=by rw[ag N.br,ag N.bf];exact aa
 generalize upd (upd (upd H A.b<|.lst (S.bs.map _).dropLast) A.f<|.lst _) A.r (.lst _)=o at m p I w J ⊢;have x:=h.tups m;refine⟨h.make m ?_ ?_ ?_ ?_ ?_ ?_ h.good h.len,m⟩
 ·exact p _ _ h.hx (bp h.hx h.b<|by simp) (bp h.hx q<|by simp) (bp h.hx D<|by simp)
 ·intro y;obtain⟨g,E,i⟩:=h.l y;exact⟨g,p _ _ E (N.lb y) (N.lf y)<|N.lr y,x.goods (h.good y) i⟩
 ·intro y;obtain⟨D',E,i⟩:=h.d y;exact⟨D',p _ _ E (bp E h.b<|by simp) (bp E q<|by intro z;cases z) (bp E D<|by intro z;cases z),i⟩
 ·show o A.b=gV (.lst<|S.bs.dropLast.map _)
  simp_all
 ·exists _,w;show im o _ _
  have L:=x.opts Z;have G:∀{os:ab _} {g:ab V},Paired (lX o) os g->Paired _ os.dropLast g.dropLast:=λ{os g} hp=>by
   induction hp with
   |nil=>exact .nil
   |cons r t ih=>
    cases t with
    |nil=>exact .nil
    |cons r' t'=>exact .cons r ih
  exact G L
 have ac:=c.len;have Y:=c.mono m x;refine⟨_,I,?_,λj v B=>?_⟩
 ·show s.dropLast.length=S.bs.dropLast.length+1
  simp_all
 have n:=(N8.mp B).1;rw[PZ]at n;rw[UE,Ox n]at B;obtain⟨a',W,E,i,e3,e4⟩:=Y.at_ j v B;exists a',W,E,i,e3;have:(ca S).bs.take j=S.bs.take j:=by
  show S.bs.dropLast.take j=_
  rw[UO]
  grind
 simp_all
end
theorem Ed(F:Fun K "turn_back" "Searcher.turn_back" Eb f fd)(T:pN K mg C)(bs:yc P w K mg G bw 2 C "fill_in" g1 Z ["self","value","first"] (mD C))(bt:yc P w K mg G bw 5 C "learn_join" g2 e2 ["self","hand","first","second","variable"] (sF C)):aA P w K mg G bw 6 f fd ["self","hand","literals"] (sI C):=by
 refine F.okB (N:=["self","hand","literals","variable","value","first"]) λQ_ A aF s H vs Q E sc hr h=>?_;obtain⟨B,t,cs,S0,d,u0,c0,rfl,h0,aL,T0,hc,ht,S_,a0,q⟩:=h;obtain⟨R,M⟩:∃R,R=fG t d S0.bs.length c0 S0:=⟨_,rfl⟩;rw[<-M]at q;refine⟨_,(ae (jm QX (tI gg λ_=>rfl)
   (ae (sT 3<|aI cj rfl T.len Qh gg)
   (ae gg
   (ae gg
   (ae gg
   (ax (bM gg (ae (bM gg (ae gg
     (ax Fh)) aN)
    gg) aN)))))))
  gg),?_⟩
 exists Ec C B t cs d R H,⟨S0.bs.length,c0,S0,u0,Oa,Oa,Oa,rfl,h0,.of<|Same.refl _,aL,T0,rfl,a0,M.symm⟩;clear M;rintro m σ i ⟨c,S,u,v3,v4,v5,rfl,h,hm,a1,TI,l,hn,v⟩;have N:=h.nes;have b0:=TI.I.blen;exists _,rfl,B.x,C,B.dx,_,_,rfl,h.hx,T.cl,T.nB,rfl,!(S.bs.map V.bl).isEmpty,.inl ⟨_,SqL.of h.b,rfl⟩;cases m with
 |zero=>
  have a2:S.bs=[]:=U_ l;rw[a2];refine ao ?_;exists _,rfl,_,rfl,B.x,C,B.dx,_,rfl,h.hx,T.cl,T.nW,(by show 7<1000;decide);have ox:B.own B.x:=.inl rfl;have mm:Mv B H (upd i B.x<|.ins C B.dx<|fI "winner" (.str<|aj d)<|u5 B<|sE S.win):=hm.upd ox _;have m1:Mv B i (upd i B.x<|.ins C B.dx<|fI "winner" (.str<|aj d)<|u5 B<|sE S.win):=(Mv.of<|Same.refl i).upd ox _;have kk:=h.tups m1;have p:∀a o,i a=gV o->a≠B.x->upd i B.x (.ins C B.dx<|fI "winner" (.str<|aj d)<|u5 B<|sE S.win) a=gV o:=λa o e n=>by rw[ag n];exact e
  refine q _ ?_ mm;rw[<-v];show SrAt C B t cs {S with win:=gV d} _
  obtain⟨b,hf,Zw⟩:=h.f;obtain⟨g,XT,D⟩:=h.r;refine h.make (S':={S with win:=gV d}) m1 ?_ ?_ ?_ ?_ ?_ ?_ h.good h.len
  ·rw[aa];rfl
  ·intro y;obtain⟨vs,Z,e2⟩:=h.l y;exact⟨vs,p _ _ Z (bp Z h.hx<|by intro z;cases z),kk.goods (h.good y) e2⟩
  ·intro y;obtain⟨D',Z,e2⟩:=h.d y;exact⟨D',p _ _ Z (bp Z h.hx<|by intro z;cases z),e2⟩
  ·exact p _ _ h.b (bp h.b h.hx<|by intro z;cases z)
  ·exact⟨b,p _ _ hf (bp hf h.hx<|by intro z;cases z),kk.opts Zw⟩
  ·exact⟨g,p _ _ XT (bp XT h.hx<|by intro z;cases z),D.mono m1 kk⟩
 |succ k=>
  have U5:(!(S.bs.map V.bl).isEmpty)=true:=by
   cases e:S.bs with
   |nil=>rw[e]at l;cases l
   |cons x r=>rfl
  rw[U5];refine aq ⟨λac H'=>∃m',m'<k+1/\Ec C B t cs d R H m' ac H',λac H' z=>z,?_⟩;have a3:=λb g=>h.pop (F:=b) (s:=g) l;obtain⟨b,hf,Zw⟩:=h.f;obtain⟨g,XT,D⟩:=h.r;obtain⟨j,O⟩:=a3 b g hf Zw XT D;have b1:=paired_len Zw;have a4:=TI.I.flen;have b2:=D.len;exists _,rfl,B.x,C,B.dx,_,_,rfl,h.hx,T.cl,T.nB,rfl,.ref B.b,_,rfl,.inl ⟨_,SqL.of h.b,rfl⟩;have a5:(S.bs.map V.bl)[(S.bs.map V.bl).length-1]?=gV (.bl<|S.bs.getD k Oc):=by
   rw[A',l,Zq,Ow,getD_some (d:=Oc)<|by lia];rfl
  exists _,rfl,B.x,C,B.dx,_,_,rfl,h.hx,T.cl,T.nB,rfl,.inl ⟨rfl,_,SqL.of h.b⟩,B.b,_,_,rfl,rfl,h.b,a5;have a6:B.x≠B.b:=bp h.hx h.b (by intro z;cases z);have a7:B.x≠B.f:=bp h.hx hf (by intro z;cases z);have am:upd i B.b (.lst (S.bs.map V.bl).dropLast) B.x=gV (.ins C B.dx<|u5 B<|sE S.win):=by rw[ag a6];exact h.hx
  have an:upd i B.b (.lst (S.bs.map V.bl).dropLast) B.f=gV (.lst b):=by rw[ag<|P6 N.bf];exact hf
  have a8:upd i B.b (.lst (S.bs.map V.bl).dropLast) B.r=gV (.lst g):=by rw[ag<|P6 N.br];exact XT
  have as:=getD_some (d:=V.non) (show k<b.length by lia);have av:b[b.length-1]?=gV (b.getD k .non):=by rw[show b.length-1=k by lia];exact as
  obtain⟨ok,a9,U⟩:=qT Zw as;have I:S.fs.getD k Oa=ok:=by rw[N6,a9];rfl
  generalize b.getD k .non=fv at av U;exists _,rfl,B.x,C,B.dx,_,_,rfl,am,T.cl,T.nF,rfl,.inl ⟨rfl,_,SqL.of an⟩,B.f,_,_,rfl,rfl,an,av;have ba:upd (upd i B.b<|.lst (S.bs.map V.bl).dropLast) B.f (.lst b.dropLast) B.x=gV (.ins C B.dx<|u5 B<|sE S.win):=by rw[ag a7];exact am
  have az:upd (upd i B.b<|.lst (S.bs.map V.bl).dropLast) B.f (.lst b.dropLast) B.r=gV (.lst g):=by rw[ag<|P6 N.fr];exact a8
  exists _,rfl,B.x,C,B.dx,_,_,rfl,ba,T.cl,T.nR,rfl,.inl ⟨rfl,_,SqL.of az⟩,B.r,_,_,rfl,rfl,az,getD_some (d:=V.non) (by lia);have tk:=h.tups O;generalize upd (upd (upd i B.b<|.lst (S.bs.map V.bl).dropLast) B.f<|.lst b.dropLast) B.r (.lst g.dropLast)=H2 at j O tk ⊢;have W:=hm.trans O;obtain⟨L,rfl,Ur⟩:=tk.cl a1;have lb:(ca S).bs.length=k:=by show S.bs.dropLast.length=k;rw[PZ,l];rfl
  have lf:(ca S).fs.length=k:=by show S.fs.dropLast.length=k;rw[PZ,a4,l];rfl
  have hz:(((S.bs.map V.bl).length:Nat):Int)=(k:Int)+1:=by rw[A',l];rfl
  rw[hz];have aC:∀y,(if Oc=N7 then !gY (.int y) (c.map V.int)else gY (.int y) (c.map V.int))=c.contains y:=λy=>by rw[Ov Om,bC]
  have bb:=uW TI.I l;have b3:cG (ca S)=cG S:=rfl;dsimp only;refine MA (p:=c.contains<|(k:Int)+1) (q:=c.contains (-((k:Int)+1))) (λR r=>⟨_,rfl,_,rfl,L,_,rfl,.inr<|SqT.of Ur,rfl,aU _,_,rfl,by rw[aC];exact r⟩) (λR r=>⟨_,rfl,_,rfl,_,rfl,L,_,rfl,.inr<|SqT.of Ur,rfl,aU _,_,rfl,by rw[aC];exact r⟩) ?_;unfold fG at v;by_cases X:(c.contains ((k:Int)+1) || c.contains (-((k:Int)+1)))=N7
  ·rw[Ox X]at v;have bc:(k:Int)+1∈c\/ -((k:Int)+1)∈c:=by
    rw[Q1]at X;exact X.imp Oq.mp Oq.mp
   rw[X];refine aq ?_;cases ok with
   |none=>
    rw[I]at v;have Y:dY (!S.bs.getD k Oc) (gV c) (ca S)=R:=v;have bd:fv=.non:=U;subst bd;exists _,rfl,rfl,_,rfl;rw[On rfl];refine aq ?_;refine⟨_,rfl,B.x,B.dx,_,rfl,j.hx,rfl,_,rfl,_,rfl,_,rfl,B,t,cs,ca S,!S.bs.getD k Oc,.ref L,gV c,rfl,j,⟨L,rfl,Ur⟩,hc,ht,S_,(by lia),(by lia),λH3 h3 m3=>?_⟩;rw[Y]at h3;exact q H3 h3<|W.trans m3
   |some F=>
    have J:=qQ hc TI l bc I;rw[I]at v;have Y:fG t d k (aG t d<|bT F c<|(k:Int)+1) (bz t d (cF (S.ow d) F c<|(k:Int)+1) (bT F c<|(k:Int)+1)<|ca S)=R:=v;obtain⟨tf,rfl,bf⟩:=tk.cl (show CL i F fv from U);exists _,rfl,rfl,_,rfl;rw[Ob λz=>by cases z];refine ao ?_;have bg:pend [gV F]=1:=rfl;rw[I,bg]at bb;have RH:=fh (t:=t) (h:=d) (d:=cF (S.ow d) F c<|(k:Int)+1) (c:=bT F c<|(k:Int)+1) (S:=ca S);have bk:=il (t:=t) (h:=d) (d:=cF (S.ow d) F c<|(k:Int)+1) (c:=bT F c<|(k:Int)+1) (S:=ca S);have bl:=fg (t:=t) (h:=d) (d:=cF (S.ow d) F c<|(k:Int)+1) (c:=bT F c<|(k:Int)+1) (S:=ca S);refine⟨_,rfl,B.x,B.dx,_,rfl,j.hx,rfl,_,rfl,_,rfl,_,rfl,_,rfl,B,t,cs,ca S,d,.ref tf,.ref L,F,c,(k:Int)+1,rfl,j,⟨tf,rfl,bf⟩,⟨L,rfl,Ur⟩,J.mF,TI.mem,J.okF,J.okC,J.both,ht,(by lia),λa H3 h3 m3 ha=>?_⟩;refine⟨k,Tq _,_,_,.ref a,_,_,_,rfl,h3,W.trans m3,⟨a,rfl,ha⟩,J.next,(Pa Qw bl).trans lb,?_,Y⟩;have b4:=Pa pend bk;exact(by lia:cG (bz t d (cF (S.ow d) F c<|(k:Int)+1) (bT F c<|(k:Int)+1)<|ca S)+2*pend (bz t d (cF (S.ow d) F c<|(k:Int)+1) (bT F c<|(k:Int)+1)<|ca S).fs<=8800)
  rw[Ov X]at v;have bm:¬((k:Int)+1∈c\/ -((k:Int)+1)∈c):=λz=>X (by
   rw[Q1];exact z.imp Oq.mpr Oq.mpr)
  have br:(c.contains ((k)+1) || c.contains (-((k)+1)))=false:=by
   cases z:(c.contains ((k)+1) || c.contains (-((k)+1)))with
   |false=>rfl
   |true=>exact absurd z X
  rw[br];exact ao<|⟨k,Tq _,c,ca S,.ref L,_,_,_,rfl,j,W,⟨L,rfl,Ur⟩,qR hc TI l bm,lb,by lia,v⟩
noncomputable abbrev yN:PQ:=cD 14
noncomputable abbrev Ir:PQ:=cD 60
def jV:Sp:=λv H Q _=>∃(l:Int) (f:J') (b:ab Oe),v=[.int l,.ref f]/\H f=gV (.lst<|b.map V.bl)/\b.length<=900/\1<=absI l/\Q (cO b (absI l) (decide (0<l))) H
inductive sJ (vs:ab V)(H:Hp)(Q:VK)(E:XK):Prop
 |mk (l t:J')(c k:ab Int)(h0:vs=[.ref l,.ref t])(h:H l=gV (.lst (c.map V.int)))(a:mv H t k)(q:Q (.bl (c.any λz=>k.contains z)) H)
inductive wO (vs:ab V)(H:Hp)(Q:VK)(E:XK):Prop
 |mk (p q b:J')(t:Str)(xs:ab V)(cs:ab (ab Int))(bs:ab Oe)(h0:vs=[.ref p,.ref b])(d:H p=gV (.tup [.str t,.ref q]))(e:H q=gV (.lst xs))(f:CLs H cs xs)(g:H b=gV (.lst<|bs.map V.bl))(i:∀c∈cs,al t.length c)(ht:t.length<=18)(hb:bs.length<=18)(s:∀c∈cs,∃l∈c,cn N7 bs l=N7)
  (j:∀a h,Same H h->mv h a (fJ t cs bs)->Q (.ref a) h):wO vs H Q E
theorem AI(f:1<=absI l):Fp K (cO B (absI l) (decide (0<l))) H (cn N7 B l):=by
 by_cases h:((B.length))<absI l
 ·rw[ni h];exact fD (by omega)
 obtain⟨b,c,e⟩:=fZ (B:=B) f (abe h);rw[e];show cn N7 B l=(b == decide _)
 unfold cn;have d:B[(absI l-1).toNat]?=gV b:=by
  have r:(absI l-1).toNat<B.length:=by omega
  obtain⟨n,g⟩:∃n:Nat,absI l-1=(n):=⟨(absI l-1).toNat,by lia⟩;have a:n<B.length:=by simp_all
  have i:kq (B.map V.bl) (n)=gV _:=aK (by rw[Ow,N_ a];rfl);simp_all
 simp_all
inductive Ee (H:Hp)(l t:J')(c k:ab Int)(i:Nat)(a:St)(h:Hp):Prop
 |mk (v:M' V)(h0:a=[gV (.ref l),gV (.ref t),v])(b:h=H)(d:((c.take i).any λz=>k.contains z)=Oc)
inductive Iu (p b ch:J')(t:Str)(cs:ab (ab Int))(bs:ab Oe)(H:Hp)(i:Nat)(a:St)(h:Hp):Prop
 |mk (v c d:M' V)(h0:a=[gV<|.ref p,gV<|.ref b,gV<|.ref ch,v,c,d])(e:h ch=gV (.lst<|((cs.take i).foldl (cq t bs) []).map V.int))(f:Same H h)
theorem AJ(F:Fun K "stands_by" "stands_by" yN f i)(T:Bl m):aA P w K m B bw 1 f i ["literal","filling"] jV:=by
 refine F.okB (N:=["literal","filling","variable"]) λp A o s H v Q E r t h=>?_;obtain⟨l,g,a,rfl,d,u,j,q⟩:=h;refine⟨_,(ae gg
  (ae (bM gg (ax fX) aN)
  gg)),?_⟩
 have k:decide (V.int (absI l)=V.int 0)=false:=by lia
 refine⟨_,rfl,l,rfl,_,rfl,.inl ⟨rfl,_,rfl,?_⟩⟩;show if decide (V.int (absI l)=V.int 0)=N7 then _ else _
 rw[k];refine ao ⟨_,rfl,_,rfl,.ref g,_,rfl,.inl ⟨_,SqL.of d,rfl⟩,_,_,rfl,rfl,_,rfl,g8 (λc=>?_) λc=>?_⟩
 ·have C:((a.length):Int)<absI l:=by
   have z:=OO c;rwa[A']at z
  rwa[ni C]at q
 have C:absI l<=((a.length):Int):=by
  rw[O6,A']at c;exact wd.mp c
 obtain⟨b,n,e⟩:=fZ j C;rw[e]at q;refine⟨_,rfl,_,rfl,_,_,rfl,rfl,(iG d n ⟨_,rfl,_,_,rfl,rfl,.inl ⟨rfl,?_⟩⟩)⟩;rwa[iY]
theorem Ef(F:Fun K "hits" "hits" rX f p):aA P w K M b bw 1 f p ["literals","clause"] sJ:=by
 have y:=mw;refine F.okA mw λB A o s H C Q E D h=>?_;obtain⟨l,t,c,k,rfl,d,U,q⟩:=h;refine⟨_,(ae (fS 2 (aH<|pv 0) gg)
  (dX fj)),⟨_,rfl,l,rfl,⟨_,SqL.of d⟩,cx (K:=K) (X:=c.map V.int) (Ee H l t c k) ⟨Oa,rfl,rfl,rfl⟩ ?_ ?_ ?_⟩⟩
 ·rintro i j m Z ⟨Z,Z,rfl,Z⟩;exact SqL.of d
 ·rintro i x j m r ⟨v,rfl,rfl,a⟩;obtain⟨z,rfl,n⟩:=cK r;have e:(if Oc=N7 then !gY (.int z) (k.map V.int)else gY (.int z) (k.map V.int))=k.contains z:=by
   rw[Ov Om,bC]
  exists _,rfl,_,rfl,t,_,rfl,.inr<|SqT.of U,rfl,aU k,_,rfl;rw[e];cases g:k.contains z with
  |true=>
   have u:=O9.mpr ⟨z,N5 n,g⟩;rwa[u]at q
  |false=>
   refine ao ⟨_,rfl,rfl,?_⟩;rw[OM,n,XB,a];show(k.contains z || Oc)=Oc
   rw[g];rfl
 rintro j m ⟨v,rfl,rfl,a⟩;rw[Ol<|by rw[A'];exact N' _]at a;rwa[a]at q
theorem GZ(F:Fun K "hitting_set" "hitting_set" Ir f fd)(T:Bl mg)(a6:Fe P w K mg j 1 "hits" sJ)(a7:Fe P w K mg j 1 "stands_by" jV)(a8:Fe P w K mg j 1 "hand_of" oh):aA P w K mg j bw 2 f fd ["sentence","begun"] wO:=by
 refine F.okB (N:=["sentence","begun","chosen","clause","standing","wishers"]) λQ_ A an s H vs Q E sc hr h=>?_;obtain⟨p,qa,b,t,xs,d,B,rfl,hp,hq,Vl,hb,N,ht,a9,W,q⟩:=h;have C:=eI (t:=t) W;refine⟨_,(ae gg
  (ae (fS 3 (aH gg) (ax (bM gg (ae (Ml 4 ["literal","begun"] [Oa,gV 1] (bX<|pv 3) (t:=λS S S S=>(cI<|Ak (K:=K) rfl gg λS=>rfl)))
    (ae (Ml 5 ["literal","sentence"] [Oa,gV 0]<|aH<|pv 4)
    (ax<|di<|fL Pl Qp QD dz (pv 2)<|fV<|NS (eU mR (pv 5)<|pv 4) bW))) aN)))
  (dX<|bF bH rfl T.tuple P2<|fV<|nQ rfl T.sorted rfl T.abs<|pv 2))),?_⟩
 refine⟨OG _,λO X=>?_⟩;have k1:=ad X<|.lst [];have s1:=@aa H O (.lst []);refine⟨_,rfl,(bu (k1 _ _ hp) rfl ⟨qa,rfl,⟨_,SqL.of<|k1 _ _ hq⟩,cx (K:=K) (a:=qa) (X:=xs) (Iu p b O t d B H) ⟨Oa,Oa,Oa,rfl,s1,k1⟩ ?_ ?_ ?_⟩)⟩
 ·rintro i σ Y S ⟨S,S,S,S,S,k⟩;exact SqL.of<|k _ _ hq
 ·rintro i x σ Y m ⟨v3,v4,v5,rfl,I,G⟩;obtain⟨c,J,tc,rfl,Ur⟩:=(Vl.mono G).get m;have Zz:=N5 J;have v:=N c Zz;have ba:=aM v;have V2:=(N8.mp J).1;have et:(d.take<|i+1).foldl (cq t B) []=cq t B ((d.take i).foldl (cq t B) []) c:=by
   rw[OM,J,UF];rfl
  have Ci:=k_ (t:=t) W i (Pu V2);have as:((d.take i).foldl (cq t B) []).length<=60:=by
   have M:∀a∈(d.take i).foldl (cq t B) [],∀o∈(d.take i).foldl (cq t B) [],absI a=absI o->a=o:=λa Z o u e=>by
    obtain⟨a1,c1,d1,f1⟩:=Ci.st a Z;obtain⟨a2,S⟩:=Ci.st o u;exact kZ ((N c1<|RB d1).2 a f1).1 a1 a2 e
   have av:(((d.take i).foldl (cq t B) []).map absI).Nodup:=by
    refine Ph.mpr<|Ci.nd.imp_of_mem λ{x y} m hy U5 e=>U5<|M x m y hy e
   have az:∀x∈((d.take i).foldl (cq t B) []).map absI,x∈(O7 19).map (λn:Nat=>(n:Int)):=λx m=>by
    obtain⟨l,hl,rfl⟩:=OK.mp m;obtain⟨S,c1,d1,f1⟩:=Ci.st l hl;have hr:=(N c1<|RB d1).2 l f1;exact OK.mpr ⟨(absI l).toNat,by grind,by lia⟩
   have:=iI av az;rw[A',A',PB]at this;lia
  generalize (d.take i).foldl (cq t B) []=RC at I et as;refine FX ?_;exists _,rfl,_,rfl,O,tc,RC,c,rfl,I,Ur,_,rfl;cases g:RC.any λz=>c.contains z with
  |true=>
   refine ao ⟨_,_,_,rfl,?_,G⟩;rw[et];unfold cq;rw[g,Ox rfl];exact I
  |false=>
   refine aq ?_;refine⟨_,rfl,tc,rfl,⟨_,SqT.of Ur⟩,λD1 n1=>?_⟩;refine bG [gV<|.ref b] (rD λl=>cn N7 B l) (λx=>x) rfl Ur n1 (by rw[A'];lia) ?_ ?_ ?_
   ·intro x m H' R k r;obtain⟨z,hz,rfl⟩:=bK m;exact⟨_,rfl,_,rfl,z,b,B,rfl,k _ _<|G _ _ hb,(Pm a9 (by decide)),(v.2 z hz).1,cn N7 B z,AI (v.2 z hz).1,r⟩
   ·intro x m S H' R k r;exact⟨_,rfl,r⟩
   rw[bO _ (λl=>cn N7 B l) _ λi=>rfl];have j1:=ad n1<|.lst<|(cg B c).map V.int;have r1:=@aa Y D1 (.lst<|(cg B c).map V.int);refine(show∀U,Same Y U->U D1=gV (.lst<|(cg B c).map V.int)->zn _ _ _ _ U from λU j1 r1=>?_) _ j1 r1;have aC:(cg B c).length<=18:=Pm (Po _ _) (Pm ba ht);refine⟨_,rfl,D1,rfl,⟨_,SqL.of r1⟩,λD2 n2=>?_⟩;refine eA [gV<|.ref p] (rD λl=>cu t (absI l-1).toNat) (λx=>x) rfl r1 n2 (by rw[A'];exact Pm aC (by decide)) ?_ ?_ ?_
   ·intro x m H' R k r;obtain⟨z,hz,rfl⟩:=bK m;have bb:=v.2 z (OF.mp hz).1;have r':R (cu t (absI z-1).toNat) H':=r;refine⟨_,rfl,_,rfl,z,rfl,p,t,_,(absI z-1).toNat,(by rw[show(((absI z-1).toNat:Nat):Int)+1=absI z by lia];rfl),k _ _<|j1 _ _<|G _ _ hp,(by omega),(Pm ht (by decide)),.inl ⟨rfl,_,rfl,?_⟩⟩;cases gw:cu t (absI z-1).toNat with
    |true=>
     rw[gw]at r';assumption
    |false=>
     rw[gw]at r';assumption
   ·intro x m S H' R k r;exact⟨_,rfl,r⟩
   rw[bO _ (λl=>cu t (absI l-1).toNat) _ λi=>rfl];have j2:=ad n2<|.lst<|((cg B c).filter λl=>cu t (absI l-1).toNat).map V.int;have r2:=@aa U D2 (.lst<|((cg B c).filter λl=>cu t (absI l-1).toNat).map V.int);dsimp only;generalize upd U D2 (.lst<|((cg B c).filter λl=>cu t (absI l-1).toNat).map V.int)=H4 at j2 r2 ⊢;have ac:=(j1.trans j2) _ _ I;have aF:=j2 _ _ r1;have am:oT t B c=(((cg B c).filter λl=>cu t (absI l-1).toNat)++cg B c).headD 0:=rfl;have U5:((cg B c).filter λl=>cu t (absI l-1).toNat)++cg B c≠[]:=by
    obtain⟨l,hl,hh⟩:=W c Zz;exact List.append_ne_nil_of_right_ne_nil _<|VW<|OF.mpr ⟨hl,hh⟩
   have bc:((cg B c).filter λl=>cu t (absI l-1).toNat).length<=18:=Pm (Po _ _) aC;refine⟨_,rfl,.inl ⟨rfl,_,SqL.of ac⟩,_,rfl,_,rfl,D2,D1,_,_,rfl,rfl,r2,aF,Pu (ap<|by rw[A',A'];lia),λL n=>?_⟩;rw[<-OI];generalize ((cg B c).filter λl=>cu t (absI l-1).toNat)++cg B c=ps at am U5;have j3:=ad n<|.lst<|ps.map V.int;have r3:=@aa H4 L (.lst<|ps.map V.int);have aL:kq (ps.map V.int) (0:Int)=gV (.int<|oT t B c):=by
    cases ps with
    |nil=>exact absurd rfl U5
    |cons y r=>rw[am];exact aK rfl
   refine(iG r3 aL ⟨O,_,_,rfl,rfl,j3 _ _ ac,ap (by rw[A'];exact Pm as (by decide)),?_⟩);refine⟨_,_,_,rfl,?_,(G.trans<|j1.trans<|j2.trans j3).upd_new X _⟩;rw[aa,et];unfold cq;rw[g,Ov Om,OI];rfl
 rintro σ Y ⟨v3,v4,v5,rfl,I,G⟩;rw[Ol<|by rw[Vl.length];exact N' _]at I;have a0:Y O=gV (.lst<|(gL t d B).map V.int):=I;have M:∀a∈gL t d B,∀o∈gL t d B,absI a=absI o->a=o:=λa Z o u e=>by
  obtain⟨a1,c1,d1,f1⟩:=C.st a Z;obtain⟨a2,S⟩:=C.st o u;exact kZ ((N c1 d1).2 a f1).1 a1 a2 e
 have a3:(gL t d B).length<64:=by
  have Ql:=aM<|sD N W;have:(fJ t d B).length=(gL t d B).length:=(TC _ _).length_eq;lia
 refine⟨_,rfl,O,_,rfl,SqL.of a0,a3,λL5 r a4 D ho=>?_⟩;refine⟨L5,_,rfl,.inl ⟨SqL.of aa,λL6 a5=>?_⟩⟩;have er:r=fJ t d B:=by
  refine jI (nU ho (D.nodup_iff.mpr C.nd) λa Z o u e=>M a (D.mem_iff.mp Z) o (D.mem_iff.mp u) e) (yI N W) λl=>?_;rw[fx];exact D.mem_iff
 subst er;exact q L6 _ (G.trans<|(ad a4 _).trans<|ad a5 _) aa
noncomputable abbrev Eg:PQ:=dJ (cD 61) 6
noncomputable abbrev MB:PQ:=dJ (cD 61) 7
noncomputable def gN:M' (ab Int)->Oo
 |none=>.none
 |some c=>fB c
theorem KJ(h:lX H o v):RD H (gN o) v:=by
 cases o with
 |none=>
  assumption
 |some c=>exact CL.rd h
theorem mE:∀{os:ab (M'<|ab Int)} {v:ab V},im H os v->cJ H (os.map gN) v
 |_,_,.nil=>aw
 |_,_,.cons h t=>ah (KJ h)<|mE t
theorem jW:∀os:ab (M'<|ab Int),P1 (os.map gN)=N7
 |[]=>rfl
 |o::os=>by
  have h:(gN o).canLay0=true:=by
   cases o with
   |none=>rfl
   |some c=>
    have:=ja [c];rw[OU]at this;unfold P1 at this;rw[Pj]at this;exact this.1
  show P1 (gN o::os.map gN)=N7
  unfold P1;rw[h,jW os];rfl
theorem yO(o:M' (ab Int)):O4 (gN o) (.tuple [])=decide (o=gV []):=by
 cases o with
 |none=>
  rfl
 |some c=>
  show O4 (fB c) _=_
  rw[gH];simp
theorem Eh(o:M' (ab Int)):O4 (gN o) .none=decide (o=Oa):=by
 cases o with
 |none=>
  rfl
 |some c=>
  rfl
theorem wP:(((b7 t C b).map gN).any λd=>O4 d<|.tuple [])=C.any (cU t b):=by
 unfold b7;rw[OY,Tu]
 congr 1
 funext c
 exact yO _
theorem wQ:decide (((b7 t C b).map gN).countP (λd=>O4 d .none)=C.length)=C.all λc=>decide (cM b (aG t Oc c)=Oa):=by
 unfold b7;rw[OY,aa5];have e:((λd=>O4 d .none)∘gN∘λc=>cM b<|aG t Oc c)=λc=>decide (cM b (aG t Oc c)=Oa):=by
  funext c
  exact Eh _
 rw[e,Qe,O6,List.countP_eq_length,Pc]
inductive sK (C:J')(vs:ab V)(H:Hp)(Q:VK)(E:XK):Prop
 |mk (A:SA)(t:Str)(cs:ab (ab Int))(S:SS)(h0:vs=[.ref A.x])(h:SrAt C A t cs S H)(L:jU t cs S)(b:∀c∈cs,al t.length c)(ht:t.length<=9)(s:cs.length<=900)(q:∀a,SrAt C A t cs (fR t cs S) a->Mv A H a->Q .non a)
theorem AK{S:SS}(L:jU t c S)(h:t.length<=9):cG S+2*pend S.fs<=4096:=by
 have H:=L.few;have a:=oU _ _ L.I.blen;have b:2^(t.length+1)<=2^10:=R9 (by decide) (QK h);lia
theorem Ei{S:SS}(L:jU t C S)(l:aB t C h (S.ow h) d=gV c)(g:aO d)(H:al t.length c)(a:AB h S.bs (aG t h c)):oO t C h (aG t h c) (bz t h d c S):=
 ⟨kT L.I l g,kU,by rwa[fg],ji H,gq.trans L.win,kW L.emp⟩
theorem Ej(F:Fun K "look" "Searcher.look" Eg f fd)(T:pN K mg o)(a9:Fe P w K mg e 2 "hitting_set" wO)(ac:yc P w K mg e bw 4 o "learn" X e2 ["self","hand","line","literals"] (io o))(am:yc P w K mg e bw 6 o "turn_back" g3 e3 ["self","hand","literals"] (sI o))(ba:yc P w K mg e bw 2 o "fill_in" g4 e4 ["self","value","first"] (mD o)):aA P w K mg e bw 7 f fd ["self"] (sK o):=by
 refine F.okB (N:=["self","rests","place","literals"]) λQ_ A aL s H vs Q E sc hr h=>?_;obtain⟨B,t,C,S,rfl,h,L,G,ht,S_,q⟩:=h;have hu:=hr.units;have bb:=AK L ht;obtain⟨r,XT,an⟩:=h.r;have bc:=an.len;have bd:=L.I.blen;have bf:=L.I.flen;have Zy:r[r.length-1]?=gV (r.getD (r.length-1) .non):=(by simp_all);obtain⟨a,ws,ev,n,bg,p⟩:=an.at_ _ _ Zy;rw[ev]at Zy;rw[show r.length-1=S.bs.length by lia,Ol<|N' _]at p;have a0:=paired_len p;have as:(b7 t C S.bs).length=C.length:=A' _;obtain⟨xs,av,I⟩:=h.hq;refine⟨_,(ae gg
  (ax (bM (dj ((BQ hu)) gg (pv 1)<|by rfl) (ae (sT 2<|fL Pl SJ Ui (kK hu) (pv 1) gg)
   (ax<|di<|nY am (pv 0) hr (by lia)<|oe (cB rfl T.g_SPOILER)<|nY ac (pv 0) hr (by simp)<|aP (cB rfl T.g_SPOILER) gg)) (ax (bM (pK (d_ hu) (fL Pl Yd PySem.F.type_list_count (Al hu) (pv 1)<|fV ke)<|aI cj rfl T.len Qh<|fV<|pv 1) (ae gg
    (ax<|di<|nY am (pv 0) hr (by lia)<|oe (cB rfl T.g_WISHER)<|nY ac (pv 0) hr (by simp)<|aP (cB rfl T.g_WISHER) gg)) gg))))),?_⟩
 refine⟨_,rfl,B.x,o,B.dx,_,_,rfl,h.hx,T.cl,T.nR,rfl,_,rfl,(iG XT (yM Zy) ?_)⟩;refine⟨OG _,λet a1=>?_⟩;have g:=ad a1<|.tup [];have s1:=@aa H et (.tup []);have x:=h.same g;generalize upd H et (.tup [])=H1 at g s1 x ⊢;refine⟨_,rfl,.tuple [],(b7 t C S.bs).map gN,bn s1 aw,dm (g _ _ n)<|mE<|(TupS.of g).opts p,by rfl,jW _,by decide+kernel,_,rfl,?_⟩;rw[wP];unfold fR at q;by_cases g1:C.any (cU t S.bs)=N7
 ·rw[Ox g1]at q;rw[g1];have Y:C.findIdx (cU t S.bs)<C.length:=UG<|O9.mp g1;have hx:=getD_some (d:=([]:ab Int)) Y;have az:∀j,j<C.length->O4 (((b7 t C S.bs).map gN).getD j .none) (.tuple [])=cU t S.bs (C.getD j []):=λj hj=>by
   have:((b7 t C S.bs).map gN).getD j .none=gN (cM S.bs<|aG t Oc<|C.getD j []):=by
    rw[N6];unfold b7;rw[OY,Ow,getD_some (d:=([]:ab Int)) hj];rfl
   rw[this];exact yO _
  have J:cU t S.bs (C.getD (C.findIdx<|cU t S.bs) [])=true:=by
   have:=Yw (w:=Y) (p:=cU t S.bs) (xs:=C);rw[N6,N_ Y];exact this
  refine aq ⟨_,rfl,.inl ⟨rfl,_,SqL.of<|g _ _ n⟩,OG _,λe2 n2=>?_⟩;have Z:=ad n2<|.tup [];have s2:=@aa H1 e2 (.tup []);have v:=x.same Z;have k:=g.trans Z;generalize upd H1 e2 (.tup [])=H2 at Z s2 v k ⊢;refine⟨.tuple [],(b7 t C S.bs).map gN,_,a,ws,C.findIdx<|cU t S.bs,rfl,rfl,k _ _ n,mE<|(TupS.of k).opts p,bn s2 aw,by rfl,jW _,by decide+kernel,by rw[A',as];exact Y,(az _ Y).trans J,λm hm=>?_,?_⟩
  ·rw[az m<|by exact VD hm Y];have:=Xl hm;grind
  generalize C.findIdx (cU t S.bs)=i at q Y hx J;have b:=G _<|N5 hx;obtain⟨tc,a2,Ur⟩:∃tc,xs[i]?=gV (.ref tc)/\mv H2 tc (C.getD i []):=by
   have a3:=(I.mono k);have aC:i<xs.length:=by have:=I.length;lia
   obtain⟨c',e1,e2,e3,e4⟩:=a3.get<|N_ aC;rw[hx]at e1;cases e1;exact⟨e2,by rw[N_ aC,e3],e4⟩
  refine⟨_,rfl,B.x,B.dx,_,rfl,v.hx,rfl,_,rfl,B.x,B.dx,_,rfl,v.hx,rfl,_,rfl,(by show 2<=sizeLine;decide),λga N=>?_⟩;have M:=ad N<|.tup [.str aE,.int (i:Int)];have s3:=@aa H2 ga (.tup [.str aE,.int (i:Int)]);have h3:=v.same M;have D:=k.trans M;have YY:aB t C Oc (S.ow Oc) (gM i)=gV (C.getD i []):=by
   unfold gM;rw[gK,Ov Om];unfold fi;rw[gv (by lia),O8];rfl
  have u:aO (gM i):=.inl ⟨_,rfl⟩;have RH:=fh (t:=t) (h:=Oc) (d:=gM i) (c:=C.getD i []) (S:=S);have O:=il (t:=t) (h:=Oc) (d:=gM i) (c:=C.getD i []) (S:=S);have U:=fg (t:=t) (h:=Oc) (d:=gM i) (c:=C.getD i []) (S:=S);refine⟨_,rfl,B.x,o,B.dx,_,_,rfl,h3.hx,T.cl,T.nS,rfl,(bu h3.hp rfl ⟨_,rfl,(iG (D _ _ av) (aK a2) ?_)⟩)⟩;refine⟨B,t,C,S,Oc,_,.ref tc,gM i,C.getD i [],rfl,h3,bn s3<|ah (cH _)<|ah (cr _) aw,u,⟨tc,rfl,M _ _ Ur⟩,b,(Pm ht (by decide)),(by lia),λla H4 h4 m4 W=>?_⟩;refine⟨B,t,C,_,Oc,.ref la,_,rfl,h4,⟨la,rfl,W⟩,Ei L YY u b<|uX b J,G,(Pm ht (by decide)),S_,(by rw[O];lia),λH5 h5 m5=>?_⟩;rw[U]at h5;exact q H5 h5<|(Mv.of D).trans<|m4.trans m5
 have a4:C.any (cU t S.bs)=false:=by
  lia
 rw[Ov g1]at q;rw[a4];refine ao ?_;refine⟨_,rfl,.inl ⟨rfl,_,SqL.of<|g _ _ n⟩,.none,(b7 t C S.bs).map gN,_,a,ws,rfl,rfl,g _ _ n,mE<|(TupS.of g).opts p,xC,by rfl,jW _,by decide+kernel,?_⟩;refine⟨_,rfl,.ref a,_,rfl,.inl ⟨_,SqL.of<|g _ _ n,rfl⟩,.inl ⟨rfl,_,rfl,?_⟩⟩;have a5:decide (V.int ((((b7 t C S.bs).map gN).countP λd=>O4 d .none:Nat):Int)=V.int (ws.length:Nat))=C.all λc=>decide (cM S.bs (aG t Oc c)=Oa):=by
  rw[<-wQ,<-a0,as];lia
 rw[a5];by_cases X:(C.all λc=>decide (cM S.bs (aG t Oc c)=Oa))=N7
 ·rw[Ox X]at q;rw[X];have hs:∀c∈C,∃l∈c,cn N7 S.bs l=true:=λc Zz=>lR<|OO<|Pc.mp X c Zz;have b:=sD G hs;refine aq ?_;refine⟨_,rfl,B.x,o,B.dx,_,_,rfl,x.hx,T.cl,T.nS,rfl,_,rfl,B.x,o,B.dx,_,_,rfl,x.hx,T.cl,T.nB,rfl,B.p,B.q,B.b,t,xs,C,S.bs,rfl,x.hp,g _ _ av,I.mono g,x.b,G,(Pm ht (by decide)),(by lia),hs,λhl H2 Z a6=>?_⟩;have v:=x.same Z;have k:=g.trans Z;refine⟨_,rfl,B.x,B.dx,_,rfl,v.hx,rfl,_,rfl,B.x,B.dx,_,rfl,v.hx,rfl,_,rfl,(by show 2<=sizeLine;decide),λga N=>?_⟩;have M:=ad N<|.tup [.str aW,.ref hl];have s3:=@aa H2 ga (.tup [.str aW,.ref hl]);have h3:=v.same M;have D:=k.trans M;have aF:mv _ hl (fJ t C S.bs):=M _ _ a6;have YY:=uY G hs<|S.ow N7;have u:aO (lQ<|fJ t C S.bs):=.inr<|.inl ⟨_,by have:=aM b;lia,rfl⟩;have RH:=fh (t:=t) (h:=N7) (d:=lQ<|fJ t C S.bs) (c:=fJ t C S.bs) (S:=S);have O:=il (t:=t) (h:=N7) (d:=lQ<|fJ t C S.bs) (c:=fJ t C S.bs) (S:=S);have U:=fg (t:=t) (h:=N7) (d:=lQ<|fJ t C S.bs) (c:=fJ t C S.bs) (S:=S);refine⟨_,rfl,?_⟩;refine⟨B,t,C,S,N7,_,.ref hl,lQ<|fJ t C S.bs,fJ t C S.bs,rfl,h3,bn s3<|ah (cH _)<|ah (CL.rd ⟨hl,rfl,aF⟩) aw,u,⟨hl,rfl,aF⟩,b,(Pm ht (by decide)),(by lia),λla H4 h4 m4 W=>?_⟩;refine⟨B,t,C,_,N7,.ref la,_,rfl,h4,⟨la,rfl,W⟩,Ei L YY u b λl a7=>((eI (t:=t) hs).st l<|fx.mp (OF.mp a7).1).1,G,(Pm ht (by decide)),S_,(by rw[O];lia),λH5 h5 m5=>?_⟩;rw[U]at h5;exact q H5 h5<|(Mv.of D).trans<|m4.trans m5
 have a8:(C.all λc=>decide (cM S.bs (aG t Oc c)=Oa))=false:=by
  lia
 rw[Ov X]at q;rw[a8];exact ao<|⟨_,rfl,B.x,B.dx,_,rfl,x.hx,rfl,B,t,C,S,Oc,.non,Oa,rfl,x,rfl,G,(Pm ht (by decide)),S_,(by lia),(by lia),λH2 v m2=>q H2 v<|(Mv.of g).trans m2⟩
inductive Ek (C:J')(vs:ab V)(H:Hp)(Q:VK)(E:XK):Prop
 |mk (A:SA)(t:Str)(cs:ab (ab Int))(S:SS)(n:Nat)(h0:vs=[.ref A.x,.int (n:Int)])(h:SrAt C A t cs S H)(L:jU t cs S\/Fb t cs S)(b:∀c∈cs,al t.length c)(ht:t.length<=9)(s:cs.length<=900)(q:∀a,SrAt C A t cs (tj t cs n S) a->Mv A H a->Q (.bl (tj t cs n S).win.isSome) a)
inductive NF (C:J')(A:SA)(t:Str)(cs:ab (ab Int))(n:Nat)(R:SS)(H:Hp)(m:Nat)(b:St)(a:Hp):Prop
 |mk (S:SS)(j:Nat)(h0:b=[gV<|.ref A.x,gV<|.int (n:Int),gV<|.int (j:Int)])(c:j+m=n)(h:SrAt C A t cs S a)(d:Mv A H a)(L:jU t cs S\/Fb t cs S)(e:tj t cs m S=R)
theorem G0{S:SS}(h:S.win.isSome=N7):∀k,tj t c k S=S
 |0=>rfl
 |k+1=>by unfold tj;rw[Ox h]
theorem KK(F:Fun K "go" "Searcher.go" MB f J)(T:pN K M C)(N:yc P w K M d bw 7 C "look" g1 e1 ["self"] (sK C)):aA P w K M d bw 8 f J ["self","many"] (Ek C):=by
 refine F.okB (N:=["self","many","looks"]) λQ_ A o s H vs Q E O hr h=>?_;obtain⟨B,t,c,p,n,rfl,U,Y,r,Z,S_,q⟩:=h;obtain⟨R,a⟩:∃R,R=tj t c n p:=⟨_,rfl⟩;rw[<-a]at q;refine⟨_,(ae gg
  (ae (jm QX gg
   (ae gg
   (ax<|I_ (i:=2) O.nd rfl (Zk rfl) bW Ja)))
  gg)),?_⟩
 exists NF C B t c n R H,⟨n,p,0,rfl,by simp,U,.of<|Same.refl _,Y,a.symm⟩;clear a;rintro m σ u ⟨S,j,rfl,hj,h,v,L,k⟩;have X:S=R->Fg (Fj (λx y H Q=>y=V.non/\Q (V.bl !decide (x=V.non)) H) (Jn K (mJ 0) "winner")<|tC V.non) {nx:=λ_ i=>Q .non i,rt:=Q} [gV<|.ref B.x,gV<|.int (n:Int),gV<|.int (j:Int)] u:=λe=>by
  exists _,rfl,B.x,C,B.dx,_,_,rfl,h.hx,T.cl,T.nW,rfl,rfl;rw[e]at h ⊢;have:=q u h v;cases b:R.win with
  |none=>rwa[b]at this
  |some D=>rwa[b]at this
 exists _,rfl,_,rfl,_,_,rfl,rfl,_,rfl;cases m with
 |zero=>
  rw[Ob<|by simp_all];exact ao<|ao<|X k
 |succ m=>
  rw[On<|by lia];refine aq ⟨_,rfl,B.x,C,B.dx,_,_,rfl,h.hx,T.cl,T.nW,rfl,rfl,_,rfl,?_⟩;cases b:S.win with
  |some D=>
   exact ao (X<|by rw[<-k,G0<|by rw[b];rfl])
  |none=>
   have G:jU t c S:=by
    obtain L|W:=L
    ·exact L
    obtain⟨D,e,_⟩:=W.hw;lia
   refine aq ⟨λg i=>∃I,I<m+1/\NF C B t c n R H I g i,λg i z=>z,⟨_,rfl,B.x,B.dx,_,rfl,h.hx,rfl,B,t,c,S,rfl,h,G,r,Z,S_,λH2 h2 m2=>?_⟩⟩;have l:tj t c m (fR t c S)=R:=by
    rw[<-k];show _=if S.win.isSome=N7 then S else tj t c m _
    simp_all
   have Ln:jU t c _\/Fb t c _:=(uZ r (Pm Z (by decide)) G).imp (λz=>z.1) id;refine⟨_,rfl,_,_,rfl,rfl,m,by lia,fR t c S,j+1,?_,Eq.trans (VT _ _ _) hj,h2,v.trans m2,Ln,l⟩;simp
noncomputable abbrev El:PQ:=dJ (cD 61) 0
def BtX(x:J')(H h:Hp):Prop:=∀b o,b≠x->H b=gV o->h b=gV o
theorem BtX.of(k:Same H h):BtX x H h:=λb o z e=>k b o e
theorem BtX.put(k:BtX x H a):BtX x H (upd a x o):=λb u h e=>by rw[ag h];exact k b u h e
theorem BtX.trans(k:BtX x H c)(j:BtX x c h):BtX x H h:=λb u a e=>j b u a<|k b u a e
theorem BtX.free(k:BtX x H b)(h:b a=Oa)(n:a≠x):H a=none:=by
 cases e:H a with
 |none=>rfl
 |some o=>rw[k a o n e]at h;cases h
inductive sL (C:J')(vs:ab V)(H:Hp)(Q:VK)(E:XK):Prop
 |mk (x dx p q:J')(t:Str)(xs:ab V)(cs:ab (ab Int))(h0:vs=[.ref x,.ref p])(hx:H x=gV (.ins C dx []))(hp:H p=gV (.tup [.str t,.ref q]))(hq:H q=gV (.lst xs))(v:CLs H cs xs)(b:∀c∈cs,al t.length c)(ht:t.length<=9)(s:cs.length<=900)(F:J'->Prop)(d:∀a,F a->a≠x/\∃o,H a=gV o)
  (e:∀A h,A.x=x->A.far=F->SrAt C A t cs oV h->BtX x H h->(∀a,A.own a->a=x\/H a=Oa)->Q .non h):sL C vs H Q E
theorem Em:fT [] [((SZ (Oh "spoiler"):bj),V.ref a),(SZ<|Oh "wisher",V.ref A)]=jj λb=>if b=N7 then A else a:=by
 rfl
theorem En(k:∀h R,(∀p,h p=Oa->R (.ref p) (upd h p o))->T i h R)(m:∀h R,(∀p,h p=Oa->R (.ref p) (upd h p o))->t i h R)(q:∀d l h,Same H h->H d=Oa->(∀b,H (l b)=Oa)->l Oc≠l N7->h d=gV (.dK<|jj l)->(∀b,h (l b)=gV o)->Q (.ref d) h):
  tQ [(tC<|.str<|Oh "spoiler",T),(tC<|.str<|Oh "wisher",t)] i H Q:=by
 refine λdl n=>k _ _ λa c=>m _ _ λA N=>?_;have D:a≠dl:=λz=>by rw[z,aa]at c;cases c
 have f:A≠a:=λz=>by rw[z,aa]at N;cases N
 have g:A≠dl:=λz=>by rw[z,ag λz=>D z.symm,aa]at N;cases N
 have F:H a=none:=by rwa[ag D]at c
 have j:H A=none:=by rwa[ag f,ag g]at N
 exists by rw[ag λz=>g z.symm,ag λz=>D z.symm];exact aa,[(SZ<|Oh _,.ref a),(SZ<|Oh _,.ref A)],rfl,(by show 2<=15;decide);rw[Em];refine q dl _ _ (λb u e=>?_) n (λb=>?_) (λz=>f z.symm) aa λb=>?_
 ·rwa[ag<|af e n,ag<|af e j,ag<|af e F,ag<|af e n]
 ·cases b
  ·exact F
  exact j
 cases b
 ·show upd _ dl _ a=_
  rw[ag D,ag λz=>f z.symm];exact aa
 show upd _ dl _ A=_
 rw[ag g];exact aa
theorem u8{K:C'}{f:Str}{B:TS}{D:iX}(i:∀h R,(∀p,h p=Oa->R (.ref p) (upd h p o))->T c h R)(j:∀h R,(∀p,h p=Oa->R (.ref p) (upd h p o))->t c h R)(q:∀d l h,Same H h->H d=Oa->(∀b,H (l b)=Oa)->l Oc≠l N7->h d=gV (.dK<|jj l)->(∀b,h (l b)=gV o)->
  mJ 0 c h λx e=>∃a C g F,x=.ref a/\e a=gV (.ins C g F)/\Cls K C/\NoAttr K C f/\F.length<1000/\B D c (upd e a<|.ins C g<|fI f (.ref d) F)):
  zn (Jo K (mJ 0) (tQ [(tC<|.str<|Oh "spoiler",T),(tC<|.str<|Oh "wisher",t)]) f) B D c H:=by
 unfold zn Jo;exact En i j q
theorem oW:∀{a:ab (ab Int)} {v:ab V},CLs H a v->im H (a.map gV) v
 |_,_,.nil=>.nil
 |_,_,.cons h t=>.cons h<|oW t
inductive Iw (x D:J')(t:Str)(cs:ab (ab Int))(h:Hp)(i:Nat)(a:St)(ys:ab V)(H:Hp):Prop
 |mk (v:M' V)(h0:a=[v,gV (.ref x)])(b:H D=gV (.lst ys))(d:Same h H)(e:CLs H ((cs.take i).map λc=>aG t Oc c) ys)
theorem wR(h:al n c):cM [] c=gV c:=by
 unfold cM;rw[Ov (λz=>by obtain⟨l,y,e⟩:=O9.mp z;cases e)]
 congr 1
 refine RJ.mpr λl H=>?_;have:=(h.2 l H).1;rw[O6];show(0)<absI l
 lia
theorem jk{R:Hp->Prop}(h:H x=gV (.ins c d F))(l:Cls K c)(n:NoAttr K c f)(b:YM F.length 999=N7)(q:∀G,BtX x H G->G x=gV (.ins c d<|fI f v F)->R G):∃a C d' F,V.ref x=.ref a/\H a=gV (.ins C d' F)/\Cls K C/\NoAttr K C f/\F.length<1000/\R (upd H a<|.ins C d'<|fI f v F):=
 ⟨x,c,d,F,rfl,h,l,n,Z3<|XR b,q _ (BtX.of<|Same.refl _).put aa⟩
theorem oX(n:H a=Oa)(o:HO):∃G,upd H a o=G/\Same H G/\G a=gV o:=⟨_,rfl,ad n o,aa⟩
theorem BtX.tup(k:BtX x H h)(a:H x=gV (.ins C d f)):TupS H h:=λz z e=>k _ _ (by lia) e
theorem nw{H:Hp}(e:H b=gV o)(n:H a=Oa):a≠b:=P6<|af e n
theorem Eo(F:Fun K "__init__" "Searcher.__init__" El f fd)(T:pN K mg CS)(bt:Fe P w K mg a2 3 "dropped" gr):aA P w K mg a2 bw 4 f fd ["self","sentence"] (sL CS):=by
 refine F.okB (N:=["self","sentence"]) λQ_ A b0 s H vs Q E sc hr h=>?_;obtain⟨x,dx,p0,q0,t,xs,cs,rfl,U,hp,hq,Vl,hc,ht,S_,Fr,W,q⟩:=h;refine⟨_,(ae (kn (pv 0) (dI<|oe gg<|bF jq rfl T.list UA gg) rfl)
  (ae (kn (pv 0) (uJ (cB rfl T.g_SPOILER) gg (cB rfl T.g_WISHER) gg) rfl)
  (ae (kn (pv 0) (uJ (cB rfl T.g_SPOILER) mT (cB rfl T.g_WISHER) mT) rfl)
  (ae gg
  (ae gg
  (ae (kn (pv 0) (Bi<|fV<|gS ["clause","self"] [Oa,gV 0] (aH gg) (e:=λV V V V=>(Fa bt hr<|aP (Gs (K:=K) rfl (pv 1) rfl)<|oe (cB rfl T.g_SPOILER)<|pv 0))) rfl)
  gg)))))),?_⟩
 refine⟨_,rfl,(bu hp rfl ⟨_,rfl,(bu hp rfl ⟨q0,xs,rfl,.inl<|SqL.of hq,λqa nq=>⟨(by show 2<=sizeLine;decide),λpa np=>?_⟩⟩)⟩)⟩;obtain⟨H0,e,j1,sq⟩:=oX nq<|.lst xs;rw[e]at np ⊢;obtain⟨H1,e,j2,sp⟩:=oX np<|.tup [.str t,.ref qa];rw[e];have N:=nw U nq;have X:=nw (j1 _ _ U) np;refine⟨_,rfl,jk (j2 _ _<|j1 _ _ U) T.cl T.nS rfl λG l x1=>?_⟩;have q1:=l _ _ N<|j2 _ _ sq;have p1:=l _ _ X sp;replace l:=(BtX.of<|j1.trans j2).trans l;refine u8 (o:=.lst []) (λH' R r=>⟨OG _,r⟩) (λH' R r=>⟨OG _,r⟩) λdl ll G1 k1 b2 Y b3 b4 b5=>?_;refine⟨_,rfl,jk (k1 _ _ x1) T.cl T.nL rfl λG2 C x2=>?_⟩;have d:=λb=>nw x1<|Y b;have a3:=nw x1 b2;have cc:=C _ _ a3 b4;have a4:=λb=>C _ _ (d b)<|b5 b;replace C:=(BtX.of k1).trans C;refine u8 (o:=.dT []) (λH' R r=>r) (λH' R r=>r) λdp pp G3 k3 cd ac ce cf ch=>?_;refine⟨_,rfl,jk (k3 _ _ x2) T.cl T.nP rfl λG4 m x4=>?_⟩;have j:=λb=>nw x2<|ac b;have a5:=nw x2 cd;have ck:=m _ _ a5 cf;have a6:=λb=>m _ _ (j b)<|ch b;replace m:=(BtX.of k3).trans m;refine⟨OG _,λba nb=>?_⟩;obtain⟨G5,e,k5,sb⟩:=oX nb<|.lst [];rw[e];have p:=nw x4 nb;refine⟨_,rfl,jk (k5 _ _ x4) T.cl T.nB rfl λG6 I x6=>?_⟩;have b6:=I _ _ p sb;replace I:=(BtX.of k5).trans I;refine⟨OG _,λfa nf=>?_⟩;obtain⟨G7,e,k7,sf⟩:=oX nf<|.lst [];rw[e];have am:=nw x6 nf;refine⟨_,rfl,jk (k7 _ _ x6) T.cl T.nF rfl λG8 J x8=>?_⟩;have f8:=J _ _ am sf;replace J:=(BtX.of k7).trans J;have cl:p0≠x:=λz=>by simp_all
 have co:q0≠x:=λz=>by simp_all
 have cp:=m.trans<|I.trans J;have a7:=C.trans cp;have B:=l.trans a7;have a8:=B _ _ co hq;have ct:=a7 _ _ X p1;have cv:=(B.tup U).cls Vl;have db:=Vl.length;refine⟨_,rfl,(bu (B _ _ cl hp) rfl ⟨q0,rfl,⟨_,SqL.of a8⟩,λD nD=>?_⟩)⟩;refine bv (K:=K) (a:=q0) (xs:=xs) (Iw x D t cs G8) ⟨Oa,rfl,aa,ad nD _,.nil⟩ ?_ ?_ ?_
 ·rintro i σ ys H3 V ⟨V,V,i1,i2,V⟩;exact⟨i1,SqL.of<|i2 _ _ a8⟩
 ·rintro i y σ ys H3 hy ⟨v0,rfl,i1,i2,i3⟩;obtain⟨c,an,tc,rfl,Ur⟩:=(cv.mono i2).get hy;have a9:=hc c<|N5 an;have dc:=aM a9;have V2:=(N8.mp an).1;have cz:=i3.length;rw[A',OJ]at cz;refine bV ⟨_,rfl,x,CS,dx,_,_,rfl,i2 _ _ x8,T.cl,T.nS,rfl,_,rfl,pa,tc,t,_,Oc,c,rfl,i2 _ _ ct,(by lia),Ur,(by lia),a9.2,λla H4 k4 c0=>?_⟩;have as:=k4 _ _ i1;exists as,ap (by lia),_,rfl,aa,(i2.trans k4).upd_new nD _;rw[OM,an,OI];exact CLs.snoc (CL.upd ⟨la,rfl,c0⟩ as)<|(i3.mono k4).upd as
 rintro σ ys G9 ⟨V,V,bb,L,Vs⟩;rw[Ol<|by exact UC db]at Vs;refine⟨(by show 1<=sizeLine;decide),λra M=>?_⟩;obtain⟨dd,e,O,sr⟩:=oX M<|.lst [.ref D];rw[e];have bc:=nw x8 nD;have bd:=nw (L _ _ x8) M;have bf:=O _ _<|L _ _ x8;refine⟨_,rfl,jk bf T.cl T.nR rfl λde c1 c3=>?_⟩;refine⟨_,rfl,jk c3 T.cl T.nW rfl λZ c5 da=>?_⟩;have CZ:=c1.trans c5;have bg:=(BtX.of<|L.trans O).trans CZ;have bk:=J.trans bg;have av:=I.trans bk;have az:=m.trans av;have aC:=C.trans az;have aF:=l.trans aC;have aL:=λb=>m _ _ (d b)<|a4 b;have a0:=λb=>I _ _ (d b)<|aL b;have a1:=λb=>J _ _ (d b)<|a0 b;have bl:=J _ _ p b6;have bm:=C _ _ N q1;have br:=m _ _ N bm;have bs:=I _ _ N br;have XX:∀a,SA.own ⟨x,dx,pa,qa,dl,dp,ba,fa,ra,ll,pp,Fr⟩ a->a=x\/H a=none:=?_;refine q ⟨x,dx,pa,qa,dl,dp,ba,fa,ra,ll,pp,Fr⟩ Z rfl rfl ?_ aF XX
 ·refine⟨da,aC _ _ X p1,⟨xs,aC _ _ N q1,(aF.tup U).cls Vl⟩,az _ _ a3 cc,av _ _ a5 ck,λb=>⟨[],az _ _ (d b)<|a4 b,aw⟩,λb=>⟨[],av _ _ (j b)<|a6 b,rfl,λc=>rfl⟩,bk _ _ p b6,⟨[],bg _ _ am f8,.nil⟩,⟨[.ref D],CZ _ _ bd sr,rfl,λk v hk=>?_⟩,?_,?_,ce,λV V z=>(nomatch z),λV=>rfl,λa z=>?_⟩
  ·cases k with
   |succ k=>simp at hk
   |zero=>
    cases hk;refine⟨D,ys,rfl,CZ _ _ bc<|O _ _ bb,?_,?_⟩
    ·rintro ((z|z|z|z|⟨b,z|z⟩)|z)
     ·exact bc z
     ·exact nw bl nD z
     ·exact nw f8 nD z
     ·exact af bb M z
     ·exact nw (a1 b) nD z
     ·exact nw (J _ _ (j b)<|I _ _ (j b)<|a6 b) nD z
     obtain⟨n,o,e⟩:=W _ z;exact nw (B _ _ n e) nD rfl
    have e:b7 t cs ([]:ab Oe)=(cs.map λc=>aG t Oc c).map some:=by
     unfold b7;rw[OY];exact QQ λc Zz=>wR<|gk (t:=t) (w:=Oc)<|hc c Zz
    show im Z (b7 t cs ([]:ab Oe)) ys
    rw[e];exact oW<|(CZ.tup bf).cls<|Vs.mono O
  ·rintro ((z|z|z|z|⟨b,z|z⟩)|z)
   ·exact N z
   ·exact af br nb z
   ·exact af bs nf z
   ·exact af (L _ _<|J _ _ N bs) M z
   ·exact af q1 (Y b) z
   ·exact af bm (ac b) z
   obtain⟨V,o,e⟩:=W _ z;exact nw e nq rfl
  ·simp only[PF,OC,QL,Us,not_or,not_false_eq_true,true_and,Sw,and_true];exact⟨⟨af b6 nf,af (L _ _ bl) M,nw (aL _) nb,nw (aL _) nb⟩,⟨af (L _ _ f8) M,nw (a0 _) nf,nw (a0 _) nf⟩,⟨nw (L _ _<|a1 _) M,nw (L _ _<|a1 _) M⟩,b3⟩
  obtain⟨n,o,e⟩:=W a z;exact⟨λu=>(XX a u).elim n λg=>(by lia),o,aF _ _ n e⟩
 rintro a (z|z|z|z|⟨b,z|z⟩)
 ·exact .inl z
 ·refine .inr ?_;rw[z];exact(l.trans<|C.trans m).free nb p
 ·refine .inr ?_;rw[z];exact(l.trans<|C.trans<|m.trans I).free nf am
 ·refine .inr ?_;rw[z];exact(B.trans<|BtX.of L).free M bd
 ·refine .inr ?_;rw[z];exact l.free (Y b)<|d b
 refine .inr ?_;rw[z];exact(l.trans C).free (ac b)<|j b
noncomputable abbrev yP:PQ:=dJ (cD 61) 9
noncomputable abbrev u9:PQ:=cD 62
noncomputable def jX(d:ab Oo)(o:ab (ab Int)):ab Int:=(bQ (yD<|d.map<|bR<|bE o) (o.idxOf [])<|o.idxOf []+1).mergeSort λa b=>decide (a<=b)
noncomputable def wS(d:ab Oo)(o:ab (ab Int)):ab Oo:=fF (d.map<|bR<|bE o)<|jX d o
theorem yQ(d:ab Oo)(o:ab (ab Int)):Tv (jX d o) (bQ (yD<|d.map<|bR<|bE o) (o.idxOf [])<|o.idxOf []+1):=TC _ _
theorem qU(d:ab Oo)(o:ab (ab Int)):RP (·<=·) (jX d o):=by
 have:=Ul (le:=λa b:Int=>decide (a<=b)) (by lia) (by lia)<|bQ (yD<|d.map<|bR<|bE o) (o.idxOf [])<|o.idxOf []+1;exact this.imp λh=>OO h
theorem G_(h:Tv n (bQ (yD<|d.map<|bR<|bE o) (o.idxOf [])<|o.idxOf []+1))(H:RP (·<=·) n):n=jX d o:=Ky h H (yQ d o)<|qU d o
inductive oY (C:J')(vs:ab V)(H:Hp)(Q:VK)(E:XK):Prop
 |mk (A:SA)(t:Str)(cs:ab (ab Int))(S:SS)(hw:Oe)(h0:vs=[.ref A.x])(h:SrAt C A t cs S H)(W:Fb t cs S)(J:S.win=gV hw)(he:(S.ow hw).getLast?=gV [])(b:∀c∈cs,al t.length c)(ht:t.length<=8)(s:cs.length<=900)
  (q:∀r l ys a,Same H a->H r=Oa->H l=Oa->a r=gV (.tup [.str<|aj hw,.ref l])->a l=gV (.lst ys)->cJ a (wS (S.lw hw)<|S.ow hw) ys->Q (.ref r) a):oY C vs H Q E
noncomputable def jY(t:Str)(c:ab (ab Int)):SS:=tj t c 10000 oV
noncomputable def iq(t:Str)(c:ab (ab Int)):Oe:=(jY t c).win.getD Oc
noncomputable def Er(t:Str)(c:ab (ab Int)):ab Oo:=wS ((jY t c).lw<|iq t c)<|(jY t c).ow<|iq t c
noncomputable def Es(t:Str)(c:ab (ab Int)):ab (ab Int):=(jX ((jY t c).lw<|iq t c)<|(jY t c).ow<|iq t c).map λp=>((jY t c).ow<|iq t c).getD p.toNat []
theorem yR(H:∀c∈C,al t.length c)(d:t.length<=8):Fb t C (jY t C)/\(jY t C).win=gV (iq t C)/\((jY t C).ow<|iq t C).getLast?=gV []:=by
 have f:2^(t.length+1)<=2^9:=R9 (by decide) (QK d);have W:=KH H (Pm d (by decide)) (k:=10000) (qS) (Pm f (L0 _ _));obtain⟨h,a,b⟩:=W.hw;have E:(jY t C).win=gV h:=a;have e:iq t C=h:=by
  unfold iq;rw[E];rfl
 rw[e];exact⟨W,a,b⟩
theorem yS{S:SS}(W:Fb t c S)(H:t.length<=8)(h:Oe):(S.lw h).length<=2048:=by
 have a:=W.few;have b:=u6 S h;have d:2^(t.length+1)<=2^9:=R9 (by decide) (QK H);lia
theorem oZ{o:ab (ab Int)}(h:o.getLast?=gV []):[]∈o:=Yr h
theorem qV(h:o.getLast?=gV []):pM o=true:=by
 unfold pM;rw[h];rfl
structure MC (t:Str)(cs:ab (ab Int)):Prop where
 run:aY t cs (iq t cs) [] (Er t cs)=(Es t cs,N7)
 good:∀d∈Er t cs,aO d
 few:(Er t cs).length<=2048
 last:(Es t cs).getLast?=gV []
 nodup:(Es t cs).Nodup
theorem KL(H:∀c∈C,al t.length c)(h:t.length<=8):MC t C:=by
 obtain⟨W,E,e⟩:=yR H h;have s:=GV (W.I.run _) (W.I.good _) (oZ e) (yQ _ _)<|qU _ _;refine⟨s.run,s.good,?_,?_,s.nodup⟩
 ·have:=yS W h<|iq t C;have:=s.few;show(fF _ _).length<=_
  unfold fF;rw[A'];lia
 unfold Es;rw[List.getLast?_map,s.last];show gV (((jY t C).ow<|iq t C).getD (((jY t C).ow<|iq t C).idxOf []) [])=gV []
 obtain⟨z,a⟩:=jf<|oZ e;rw[N6,a];rfl
inductive li (vs:ab V)(H:Hp)(Q:VK)(E:XK):Prop
 |mk (p q:J')(t:Str)(xs:ab V)(cs:ab (ab Int))(h0:vs=[.ref p])(hp:H p=gV (.tup [.str t,.ref q]))(hq:H q=gV (.lst xs))(v:CLs H cs xs)(a:∀c∈cs,al t.length c)(ht:t.length<=8)(s:cs.length<=900)
  (b:∀r l ys h,Same H h->H r=Oa->H l=Oa->h r=gV (.tup [.str<|aj<|iq t cs,.ref l])->h l=gV (.lst ys)->cJ h (Er t cs) ys->Q (.ref r) h):li vs H Q E
structure MD (mg:Str->M' K'):Prop where
 g_MOST_LOOKS:qh mg "MOST_LOOKS" (.int 10000)
theorem AL(F:Fun K "paper" "Searcher.paper" yP f v)(T:pN K M C)(c:Fe P w K M e 8 "shortened_paper" DI):aA P w K M e bw 9 f v ["self"] (oY C):=by
 refine F.okB (N:=["self"]) λQ_ A o s H vs Q E sc d h=>?_;obtain⟨B,t,y,S,b,rfl,h,W,J,D,G,I,L,q⟩:=h;have Z:=p9 d;have x:=h.hx;rw[J]at x;obtain⟨X,g,i⟩:=h.hq;obtain⟨N,j,m⟩:=h.l b;have O:=yS W I b;refine⟨_,(ae (bM gg (ax fX) aN)
  (dX<|Fa c d<|oe gg<|dI<|oe gg<|bS Z gg gg λV V=>rfl)),?_⟩
 exists _,rfl,B.x,C,B.dx,_,_,rfl,x,T.cl,T.nW,rfl,rfl,_,rfl;rw[show decide _=Oc from Ob λz=>by cases z];refine ao<|⟨_,rfl,B.x,C,B.dx,_,_,rfl,x,T.cl,T.nS,rfl,_,rfl,B.x,C,B.dx,_,_,rfl,x,T.cl,T.nW,rfl,_,rfl,B.x,C,B.dx,_,_,rfl,x,T.cl,T.nL,rfl,_,rfl,B.x,C,B.dx,_,_,rfl,x,T.cl,T.nW,rfl,B.dl,_,rfl,fH h.hl b,(by show 2<=sizeLine;decide),λa U=>?_⟩;have k:=ad U<|.tup [.str<|aj b,.ref<|B.ll b];have Y:=@aa H a (.tup [.str<|aj b,.ref<|B.ll b]);exact⟨B.p,B.q,a,B.ll b,t,b,X,N,y,S.lw b,S.ow b,rfl,k _ _ h.hp,(Pm I (by decide)),k _ _ g,i.mono k,L,G,Y,k _ _ j,bN k _ _ m,(Pm O (by decide)),h.good b,W.I.run b,qV D,λr l ys nd H2 k2 nr nl n WW Vs p u=>q r l ys H2 (k.trans k2) (k.free nr) (k.free nl) n WW<|by unfold wS;rwa[<-G_ p u]⟩
theorem wT(F:Fun K "settled_paper" "settled_paper" u9 f fd)(T:MD M)(ac:Md P w K M c 4 "Searcher" d g1 e1 ["self","sentence"] (sL d))(i:yc P w K M c bw 8 d "go" g2 e2 ["self","many"] (Ek d))(am:yc P w K M c bw 9 d "paper" g3 L ["self"] (oY d)):aA P w K M c bw 10 f fd ["sentence"] li:=by
 refine F.okB (N:=["sentence","searcher"]) λQ_ A O s H vs Q E sc hr h=>?_;obtain⟨p,qa,t,xs,C,rfl,hp,hq,Vl,g,U,j,q⟩:=h;obtain⟨W,X,el⟩:=yR g U;refine⟨_,(ae gg
  (ae (jm QX (mK<|re<|nY i (pv 1) hr (by simp)<|fV<|cB rfl T.g_MOST_LOOKS)
   (ax Ff))
  gg)),?_⟩
 refine⟨_,rfl,λx D n N U5=>?_⟩;have k:Same H (upd (upd H D<|.own x) x<|.ins d D []):=λb o e=>by
  rw[ag<|af e n,ag<|af e N];exact e
 refine⟨x,D,p,qa,t,xs,C,rfl,aa,k _ _ hp,k _ _ hq,Vl.mono k,g,(Wj U),j,(λV=>False),(λV z=>z.elim),λB Y ex V Z b2 u=>⟨rfl,?_⟩⟩;have k2:Same H Y:=λb o e=>b2 _ _ (af e n)<|k _ _ e;have v:∀a,B.own a->H a=none:=λa ha=>by
  obtain z|z:=u a ha
  ·rw[z];exact n
  exact k.free z
 subst ex;exists λm σ G=>m=0/\σ=[gV<|.ref p,gV<|.ref B.x]/\G=Y,⟨0,rfl,rfl,rfl⟩;rintro m σ G ⟨rfl,rfl,rfl⟩;refine⟨_,rfl,B.x,B.dx,_,rfl,Z.hx,rfl,B,t,C,oV,10000,rfl,Z,.inl qS,g,(Wj U),j,λH3 h3 m3=>⟨_,rfl,?_⟩⟩;have L:(tj t C 10000 oV).win.isSome=true:=by
  show(jY t C).win.isSome=N7
  rw[X];rfl
 rw[L];have y:Same H H3:=λb o e=>m3 _ _ (by grind)<|k2 _ _ e;exact⟨_,rfl,B.x,B.dx,_,rfl,h3.hx,rfl,B,t,C,jY t C,iq t C,rfl,h3,W,X,el,g,U,j,λr l ys H4 k4 nr nl I J Vs=>q r l ys H4 (y.trans k4) (y.free nr) (y.free nl) I J Vs⟩
noncomputable abbrev Et:PQ:=cD 79
noncomputable abbrev Ix:PQ:=cD 80
noncomputable abbrev Eu:PQ:=cD 81
def wU(t:Str)(C:ab (ab Int))(h:Oe)(d:Oo):Prop:=∃c,∀s,aB t C h s d=gV c
inductive sM (K:C')(vs:ab V)(H:Hp)(Q:VK)(E:XK):Prop
 |mk (a p q:J')(ns:ab Int)(t:Str)(hw:Oe)(xs:ab V)(cs:ab (ab Int))(h0:vs=[.ref a,.ref p,.str<|aj hw])(b:SqL K H a (ns.map V.int))(e:ns.length<=63)(f:H p=gV (.tup [.str t,.ref q]))(g:t.length<=9)(i:H q=gV (.lst xs))(j:CLs H cs xs)(k:cs.length<=16)(m:(∀c∈cs,al t.length c))(n:∀(l:J') (L:ab V) (ds:ab Oo) (h:Hp),Same H h->H l=Oa->h l=gV (.lst L)->cJ h ds L->ds.length<=16->(∀d∈ds,aO d)->(∀d∈ds,wU t cs hw d)->Q (.ref l) h)
theorem KM{n:ab Int}:(cZ (n.map V.int) (gV 15)<|gV 27).length<=12:=by
 unfold cZ;have e:HT.sIx (n.map V.int).length 0 (gV 15)=min 15 _:=rfl;rw[e,OJ];exact Pm (ot _ _) (xqx 15 _)
theorem u_{t:Str}{c:ab (ab Int)}{k:Nat}(h:k<c.length):wU t c Oc (.tuple [.str aE,.int (k:Int)]):=by
 refine⟨c.getD k [],λs=>?_⟩;show fi c _=_
 show x9 _ (if 0<=(k:Int)/\(k:Int)<(c.length)then gV _ else Oa)=_
 simp_all
theorem qW:aB t c N7 s (.tuple [.str aW,e])=fm t.length c e:=rfl
theorem Ev(h:K0 n)(g:n.contains (0-e)=Oc):K0 (n++[e]):=by
 have f:∀a∈n,absI a=absI e->a=e:=λa H c=>by
  obtain z|z:=gi c
  ·exact z
  simp_all
 intro a H b d c;obtain H|H:=OH.mp H<;>obtain d|d:=OH.mp d
 ·exact h a H b d c
 ·rw[Oi.mp d]at c ⊢;exact f a H c
 ·rw[Oi.mp H]at c ⊢;exact(f b d c.symm).symm
 rw[Oi.mp H,Oi.mp d]
inductive vc (D:J')(H:Hp)(i:Nat)(a:ab (M' V))(ys:ab V)(G:Hp):Prop
 |mk (I:(∃v,a=[v]))(b:G D=gV (.lst ys))(c:Same H G)(d:cJ G ((O7 i).map λ(k:Nat)=>.tuple [.str aE,.int (k:Int)]) ys)
inductive vd (a:J')(p:J')(ll:J')(P:J')(m:ab Int)(t:Str)(cs:ab (ab Int))(H:Hp)(i:Nat)(b:ab (M' V))(G:Hp):Prop
 |mk (x:M' V)(X:M' V)(c:M' V)(e:M' V)(f:M' V)(l:ab V)(ds:ab Oo)(I:b=[gV<|.ref a,gV<|.ref p,gV<|.str<|aj N7,gV<|.ref ll,x,X,c,e,f])(g:G ll=gV (.lst l))(h:G P=gV (.lst<|m.map V.int))(j:cJ G ds l)(k:ds.length<=i)(n:(∀d∈ds,aO d))(o:(∀d∈ds,wU t cs N7 d))(q:Same H G)
inductive o3 (a:J')(p:J')(ll:J')(cell:Int)(ch:J')(x:M' V)(G:Hp)(j:Nat)(b:ab (M' V))(g:Hp):Prop
 |mk (X:M' V)(c:M' V)(zs:ab Int)(i:b=[gV<|.ref a,gV<|.ref p,gV<|.str<|aj N7,gV<|.ref ll,gV<|.int cell,gV<|.ref ch,X,c,x])(I:g ch=gV (.lst<|zs.map V.int))(d:zs.length<=j)(e:K0 zs)(f:Same G g)
theorem Ew(F:Fun K "_law_first_lines" "_law_first_lines" Et f fd)(T:Bl mg)(bd:Fe P w K mg J 1 "_law_set" se)(Y6:Fe P w K mg J 4 "_law_line" iJ):aA P w K mg J bw 5 f fd ["_law_script","_law_sentence_here","_law_hand"] (sM K):=by
 refine F.okB (N:=["_law_script","_law_sentence_here","_law_hand","_law_lines","_law_cell","_law_chosen","_law_k","_law_clause","_law_line_here"]) λQ_ A a2 s H vs Q E sc hr h=>?_;obtain⟨a,p,q,ns,t,hw,xs,cs,rfl,hS,bf,hp,ht,hq,S_,bg,SX,q'⟩:=h;have hu:=hr.units;have Ql:=S_.length;refine⟨_,(ae (bM gg (dX<|gS ["_law_k"] [Oa] gg) aN)
  (ae gg
  (ae (fS 4 (aH<|gW l_ (pv 0) gg gg) (ae gg
   (ae (fS 6 gg (ae (Ml 7 ["_law_one","_law_chosen"] [Oa,gV 5] (bX gg) (t:=λS S S S=>(cI<|dj (iU (K:=K) rfl) gg (pv 1)<|by rfl)))
    (ax<|bM (PW.pt<|rf (pK (d_ hu) (aI cj rfl T.len Qh<|fV<|gS ["_law_one","_law_chosen"] [Oa,gV 5] (aH<|pv 7) (t:=λS S S S=>(cI<|dj (fA (K:=K) rfl) (pv 0) (pv 1)<|by rfl))) bW) gg) gg aN)))
   gg)))
  (dX<|pv 3)))),?_⟩
 have es:decide (V.str (aj hw)=V.str (Oh "spoiler"))=!hw:=by
  have z:=c9 hw Oc;have z2:aj Oc=Oh "spoiler":=rfl;simp_all
 refine⟨_,rfl,.inl ⟨rfl,_,rfl,?_⟩⟩;dsimp only;rw[es];cases hw with
 |false=>
  refine aq ⟨_,rfl,(bu hp rfl ⟨.ref q,_,rfl,.inl ⟨_,SqL.of hq,rfl⟩,_,rfl,(by simp),(by lia),λD hD=>?_⟩)⟩;refine eh (lo:=0) (n:=xs.length) (vc D H) ⟨⟨Oa,rfl⟩,aa,ad hD _,aw⟩ ?_ ?_ ?_
  ·rintro i U ys G S ⟨S,h,S⟩;exact h
  ·rintro i U ys G hi ⟨⟨v0,rfl⟩,h1,k,XT⟩;have am:=bI XT;rw[A',PB]at am;refine bV ⟨_,rfl,(by show 2<=sizeLine;decide),λtp a3=>?_⟩;have W:Same G (upd G tp<|.tup [.str<|Oh "given",.int (0+(i:Int))]):=ad a3 _;have M:=W _ _ h1;have g2:=@aa G tp (.tup [.str<|Oh "given",.int (0+(i:Int))]);generalize upd G tp (.tup [.str<|Oh "given",.int (0+(i:Int))])=G2 at W M g2;exists M,(by rw[am];exact aV<|by lia),⟨_,rfl⟩,aa,(k.trans W).upd_new hD _;rw[Rb,OI];refine jA (ie (.inl ⟨_,rfl⟩) (bn g2<|ah (cH _)<|ah ?_ aw) M)<|fw M (λd u=>?_)<|bN W _ _ XT
   ·rw[Xp];rfl
   obtain⟨k,S,rfl⟩:=OK.mp u;exact .inl ⟨_,rfl⟩
  ·rintro U ys G ⟨S,h1,k,XT⟩;refine q' D ys _ G k hD h1 XT (by simp_all) (λd u=>?_) λd u=>?_
   ·obtain⟨k,S,rfl⟩:=OK.mp u;exact .inl ⟨_,rfl⟩
   ·obtain⟨k,hk,rfl⟩:=OK.mp u;exact u_ (by simp_all)
 |true=>
 refine ao ?_;refine⟨OG _,λL X=>?_⟩;have k1:=ad X<|.lst [];have r1:=@aa H L (.lst []);generalize upd H L (.lst [])=H1 at k1 r1;refine⟨_,rfl,15,rfl,27,rfl,a,_,rfl,k1.seq hS,λp2 v=>⟨p2,rfl,⟨_,SqL.of aa⟩,?_⟩⟩;obtain⟨Y,a4,S⟩:=t_ ns (gV 15)<|gV 27;have an:=KM (n:=ns);rw[a4]at an ⊢;rw[A']at an;have W:=k1.trans<|ad v<|.lst<|Y.map V.int;have r2:=(ad v<|.lst<|Y.map V.int) _ _ r1;have s2:=@aa H1 p2 (.lst<|Y.map V.int);have np:p2≠L:=λe=>by lia
 generalize upd H1 p2 (.lst<|Y.map V.int)=H2 at W r2 s2;refine cx (K:=K) (a:=p2) (X:=Y.map V.int) (vd a p L p2 Y t cs H)
  ⟨Oa,Oa,Oa,Oa,Oa,[],[],rfl,r2,s2,aw,N' _,(by simp),(by simp),W⟩ ?_ ?_ ?_
 ·rintro i U G S ⟨S,S,S,S,S,S,S,S,S,g,S⟩;exact SqL.of g
 ·rintro i x U G m ⟨x4,x5,x6,x7,x8,ls,ds,rfl,M,g2,g3,g4,g5,g6,kG⟩;have V2:i<(Y.map V.int).length:=(N8.mp m).1;rw[A']at V2;obtain⟨C,rfl,S⟩:=cK m;refine⟨OG _,λn as=>?_⟩;have k3:=ad as<|.lst [];have r3:=@aa G n (.lst []);generalize upd G n (.lst [])=G1 at k3 r3;have av:=kG.trans k3;refine⟨_,rfl,(bu (av _ _ hp) rfl ⟨.ref q,_,rfl,.inl ⟨_,SqL.of<|av _ _ hq,rfl⟩,_,rfl,(by simp),(by lia),?_⟩)⟩;refine d9 (lo:=0) (n:=xs.length) (o3 a p L C n x8 G)
   ⟨x6,x7,[],rfl,r3,N' _,(λS h=>nomatch h),k3⟩ ?_ ?_
  ·rintro j U G2 hj ⟨x6,x7,Z,rfl,j1,j2,j3,kj⟩;have kH:=kG.trans kj;obtain⟨y,hy⟩:∃y,xs[j]?=gV y:=⟨_,N_ hj⟩;obtain⟨c,hc,tc,rfl,Ur⟩:=S_.get hy;have Vl:=aM (SX c (N5 hc));refine⟨_,rfl,(bu (kH _ _ hp) rfl ⟨_,rfl,(iG (kH _ _ hq) (by rw[Xp];exact aK hy) ⟨tc,rfl,⟨_,SqT.of (kH _ _ Ur)⟩,λD hD=>?_⟩)⟩)⟩;refine bG [gV (.ref n)] (rD λz=>!Z.contains (0-z)) (λx=>x) rfl (kH _ _ Ur) hD (by rw[A'];lia) ?_ ?_ ?_
   ·intro x m H' R k r;obtain⟨z,S,rfl⟩:=bK m;exists _,rfl,_,_,rfl,rfl,_,rfl,n,_,rfl,.inl<|SqL.of<|k _ _ j1,rfl,aU _,_,rfl;show R (!gY (.int (0-z)) (Z.map V.int)) H'
    rw[bC];exact r
   ·intro x m S H' R k r;exact⟨_,rfl,r⟩
   rw[bO c (λz=>!Z.contains (0-z)) _ λi=>rfl];have a5:=Po (λz=>!Z.contains (0-z)) c;have az:∀e∈c.filter (λz=>!Z.contains (0-z)),Z.contains (0-e)=false:=λe he=>by
    have:=(OF.mp he).2;simpa using this
   generalize c.filter (λz=>!Z.contains (0-z))=N at a5 az;have k4:=ad hD<|.lst<|N.map V.int;have r4:=@aa G2 D (.lst<|N.map V.int);have j4:=k4 _ _ j1;generalize upd G2 D (.lst<|N.map V.int)=G3 at k4 r4 j4;refine⟨_,rfl,D,rfl,⟨_,SqL.of r4⟩,λD2 V9=>?_⟩;refine eA [gV<|.ref n] (rD λz=>Z.contains z) (λx=>x) rfl r4 V9 (by rw[A'];lia) ?_ ?_ ?_
   ·intro x m H' R k r;obtain⟨z,S,rfl⟩:=bK m;exists _,rfl,_,rfl,n,_,rfl,.inl<|SqL.of<|k _ _ j4,rfl,aU _,_,rfl;show R (gY (.int z)<|Z.map V.int) H'
    rw[bC];exact r
   ·intro x m S H' R k r;exact⟨_,rfl,r⟩
   rw[bO N (λz=>Z.contains z) _ λi=>rfl];generalize N.filter (λz=>Z.contains z)=bs;have B:=ad V9<|.lst<|bs.map V.int;have r5:=@aa G3 D2 (.lst<|bs.map V.int);have j5:=B _ _ j4;have s5:=B _ _ r4;generalize upd G3 D2 (.lst<|bs.map V.int)=G4 at B r5 j5 s5;have aC:=kj.trans<|k4.trans B;have O:o3 a p L C n x8 G (j+1) [gV<|.ref a,gV<|.ref p,gV<|.str<|aj N7,gV<|.ref L,gV<|.int C,gV<|.ref n,gV<|.int (0+(j:Int)),gV<|.ref D,x8] G4:=
    ⟨_,_,Z,rfl,j5,Wj j2,j3,aC⟩
   refine⟨.ref D2,_,rfl,.inl ⟨_,SqL.of r5,rfl⟩,.inl ⟨rfl,_,rfl,g8 (λS=>?_) λS=>ao O⟩⟩;refine⟨_,rfl,.ref D,_,rfl,.inl ⟨_,SqL.of s5,rfl⟩,_,_,rfl,rfl,_,rfl,g8 (λc2=>?_) λS=>O⟩;have aF:(0:Int)<(((N.map V.int).length:Nat):Int):=OO c2;have z0:=Q0 (C/(0+(j:Int)+1)) (show(((N.map V.int).length:Nat):Int)≠0 by lia);have z1:=QI (C/(0+(j:Int)+1)) aF;obtain⟨x,m,a6⟩:=m6 (x:=N.map V.int) z0 z1;obtain⟨e,rfl,he⟩:=cK m;refine⟨_,rfl,.inl ⟨rfl,_,SqL.of j5⟩,_,rfl,_,rfl,_,rfl,_,_,rfl,rfl,_,_,rfl,rfl,⟨by simp,by lia⟩,_,rfl,.ref D,_,rfl,.inl ⟨_,SqL.of s5,rfl⟩,_,_,rfl,rfl,aF,(iG s5 a6 ?_)⟩;exists n,_,_,rfl,rfl,j5,(by rw[A'];exact aV<|by lia);refine⟨_,_,Z++[e],rfl,?_,by rw[N9];exact QK j2,Ev j3<|az e<|N5 he,λb o eb=>?_⟩
   ·rw[aa,OI];rfl
   rw[ag<|af eb as];exact aC _ _ eb
  rintro U G2 ⟨x6,x7,Z,rfl,j1,j2,j3,kj⟩;have kH:=kG.trans kj;refine⟨_,rfl,n,Z,rfl,j1,by lia,j3,λl r G3 a7 hl a8 hm=>⟨(by show 2<=sizeLine;decide),λlt RH=>?_⟩⟩;have k4:=ad RH<|.tup [.str<|Oh "hits",.ref l];have r4:=@aa G3 lt (.tup [.str<|Oh "hits",.ref l]);have aL:=k4 _ _ hl;have a9:r.length<=18:=by
   have:=iI a8.nodup λx m=>(hm x).mp m;lia
  generalize upd G3 lt (.tup [.str<|Oh "hits",.ref l])=G4 at k4 r4 aL;have gd:aO (.tuple [.str aW,fB r]):=.inr<|.inl ⟨r,a9,rfl⟩;have rd:RD G4 (.tuple [.str aW,fB r]) (.ref lt):=bn r4<|ah (cH _)<|ah (CL.rd ⟨l,rfl,aL⟩) aw;refine⟨_,rfl,_,rfl,OG _,λe0 ba=>?_⟩;have B:=ad ba<|.lst [];have r5:=@aa G4 e0 (.lst []);generalize upd G4 e0 (.lst [])=G5 at B r5;have a0:=kj.trans<|a7.trans<|k4.trans B;have ac:=kG.trans a0;refine⟨_,rfl,p,q,e0,t,N7,.ref lt,_,xs,[],cs,[],rfl,ac _ _ hp,ht,ac _ _ hq,S_.mono ac,Pm bg (by decide),SX,r5,.nil,OG _,(λS h=>nomatch h),bJ B _ _ rd,(dO gd).1,(dO gd).2,λv' G6 k6 hv=>⟨rfl,_,rfl,?_⟩⟩;have I:=a0.trans k6;have a1:=kG.trans I;have bb:=bJ (B.trans k6) _ _ rd;have l6:=I _ _ M;have d6:=bN I _ _ g3;have p6:=I _ _ g2;rw[qW]at hv;cases hh:fm t.length cs (fB r)with
  |none=>
   rw[hh]at hv;have Z_:v'=.non:=hv;subst Z_;exact ao ⟨_,_,_,_,_,ls,ds,rfl,l6,p6,d6,Wj g4,g5,g6,a1⟩
  |some c=>
   rw[hh]at hv;obtain⟨tc,rfl,Ur⟩:=hv;refine aq ⟨_,rfl,.inl ⟨rfl,_,SqL.of l6⟩,_,rfl,L,_,_,rfl,rfl,l6,(by rw[bI g3];exact aV<|by lia),?_⟩;refine⟨_,_,_,_,_,ls++[.ref lt],ds++[.tuple [.str aW,fB r]],rfl,aa,by rw[ag np];exact p6,jA (ie gd bb l6)<|fw l6 g5 d6,by rw[N9];exact QK g4,λd u=>?_,λd u=>?_,λb o eb=>?_⟩
   ·grind
   ·obtain z|z:=OH.mp u
    ·exact g6 d z
    rw[Oi.mp z];exact⟨c,λbc=>by assumption⟩
   rw[ag<|af eb X];exact a1 _ _ eb
 rintro U G ⟨x4,x5,x6,x7,x8,ls,ds,rfl,M,g2,g3,g4,g5,g6,kG⟩;rw[A']at g4;exact⟨_,rfl,q' L ls ds G kG X M g3 (by lia) g5 g6⟩
inductive wV (vs:ab V)(H:Hp)(Q:VK)(E:XK):Prop
 |mk (p q a:J')(t:Str)(hw:Oe)(num:Int)(xs ys:ab V)(cs sets:ab (ab Int))(h0:vs=[.ref p,.str<|aj hw,.ref a,.int num])(f:H p=gV (.tup [.str t,.ref q]))(g:t.length<=9)(i:H q=gV (.lst xs))(j:CLs H cs xs)(k:cs.length<=900)(l:(∀c∈cs,al t.length c))(m:H a=gV (.lst ys))(n:CLs H sets ys)(o:sets.length<=9000)(b:(∀c∈sets,al t.length c))(e:∀v d h,Same H h->RD h d v->aO d->Q v h)
theorem Ha(h:Q (a.set i<|gV v) H):dH i v a H Q:=h
noncomputable def Ex(i j z:Int):Oo:=.tuple [.str aQ,.int i,.int j,.int z]
theorem ve(h:H l=gV (.tup [.str<|Oh "join",.int i,.int j,.int z])):RD H (Ex i j z) (.ref l):=bn h<|ah (cH _)<|ah (cr _)<|ah (cr _)<|ah (cr _) aw
theorem o6(h:H l=gV (.tup [.str<|Oh "drop",.int i])):RD H (.tuple [.str ay,.int i]) (.ref l):=bn h<|ah (cH _)<|ah (cr _) aw
inductive vf (p:J')(hw:Oe)(a:J')(num:Int)(o:Int)(H:Hp)(i:Nat)(b:ab (M' V))(G:Hp):Prop
 |mk (x:M' V)(X:M' V)(c:M' V)(d:M' V)(I:b=[gV<|.ref p,gV<|.str<|aj hw,gV<|.ref a,gV<|.int num,gV<|.int o,x,X,c,d])(e:Same H G)
inductive vg (p:J')(hw:Oe)(a:J')(num:Int)(o:Int)(i:Nat)(X:Int)(H:Hp)(j:Nat)(b:ab (M' V))(G:Hp):Prop
 |mk (x:M' V)(c:M' V)(I:b=[gV<|.ref p,gV<|.str<|aj hw,gV<|.ref a,gV<|.int num,gV<|.int o,gV<|.int (0+(i:Int)),gV<|.int X,x,c])(d:Same H G)
theorem Hb(F:Fun K "_law_more" "_law_more" Ix f fd)(T:Bl mg)(Y6:Fe P w K mg B 4 "_law_line" iJ):aA P w K mg B bw 5 f fd ["_law_sentence_here","_law_hand","_law_sets_here","_law_number_here"] wV:=by
 refine F.okB (N:=["_law_sentence_here","_law_hand","_law_sets_here","_law_number_here","_law_one","_law_k","_law_other","_law_literal","_law_line_here"]) λQ_ A W s H vs Q E sc hr h=>?_;obtain⟨p,q,a,t,D,n,xs,Y,cs,m,rfl,hp,ht,hq,S_,h9,SX,b,Z,h8,u,I⟩:=h;have Ql:=Z.length;refine⟨_,(ae gg
  (ae gg
  (ae gg
  (ae (fS 5 gg (ae gg
   (ax<|fS 7 (bX gg) gg)))
  gg)))),?_⟩
 refine⟨_,rfl,.ref a,_,rfl,.inl ⟨_,SqL.of b,rfl⟩,.inl ⟨rfl,_,rfl,g8 (λS=>?_) λc0=>?_⟩⟩
 ·refine⟨(by show 2<=sizeLine;decide),λL r=>?_⟩;exact I _ _ _ (ad r _) (o6 aa)<|.inr<|.inr<|.inl ⟨_,rfl⟩
 have U:(0:Int)<((Y.length:Nat):Int):=by
  grind
 have o0:=Q0 (n/3) (show((Y.length:Nat):Int)≠0 by lia);have o1:=QI (n/3) U;exists _,rfl,_,_,rfl,rfl,⟨by simp,by simp⟩,_,rfl,.ref a,_,rfl,.inl ⟨_,SqL.of b,rfl⟩,_,_,rfl,rfl,U;obtain⟨y,hy,v⟩:=m6 (x:=Y) o0 o1;dsimp only;generalize n/3%((Y.length:Nat):Int)=o at hy v o0 o1 ⊢;obtain⟨c,hc,l,rfl,hl⟩:=Z.get hy;have ac:=u c<|N5 hc;have Vl:=aM ac;refine⟨_,rfl,_,_,rfl,rfl,(by simp),.inl ⟨rfl,_,rfl,g8 (λS=>?_) λS=>?_⟩⟩
 ·refine⟨_,rfl,(by show 2<=sizeLine;decide),λL r=>?_⟩;exact I _ _ _ (ad r _) (o6 aa)<|.inr<|.inr<|.inl ⟨_,rfl⟩
 exists _,rfl,.ref a,_,rfl,.inl ⟨_,SqL.of b,rfl⟩,_,rfl,(by simp),(by lia);refine d9 (lo:=0) (n:=Y.length) (vf p D a n o H) ⟨Oa,Oa,Oa,Oa,rfl,Same.refl _⟩ ?_ ?_
 ·rintro i J G hi ⟨x5,x6,x7,x8,rfl,d⟩;exists _,rfl,_,_,rfl,rfl,⟨by simp,by simp⟩,_,rfl,.ref a,_,rfl,.inl ⟨_,SqL.of<|d _ _ b,rfl⟩,_,_,rfl,rfl,⟨U,by lia⟩,_,rfl,_,_,rfl,rfl,_,rfl,.ref a,_,rfl,.inl ⟨_,SqL.of<|d _ _ b,rfl⟩,_,_,rfl,rfl,U;dsimp only;generalize (n/3/((Y.length:Nat):Int)+(0+(i:Int)))%((Y.length:Nat):Int)=X;refine⟨_,rfl,_,rfl,(iG (d _ _ b) v ⟨l,rfl,⟨_,SqT.of<|d _ _ hl⟩,?_⟩)⟩;refine fK (K:=K) (a:=l) (X:=c.map V.int) (vg p D a n o i X H) ⟨_,_,rfl,d⟩ ?_ ?_ ?_
  ·rintro j J M S ⟨S,S,S,k⟩;exact SqT.of<|k _ _ hl
  ·rintro j x J M hx ⟨x7,x8,rfl,k2⟩;obtain⟨z,rfl,S⟩:=cK hx;refine⟨_,rfl,_,rfl,_,rfl,(by show 4<=sizeLine;decide),λL r=>?_⟩;have k3:=k2.trans<|ad r<|.tup [.str<|Oh "join",.int o,.int X,.int z];have r3:=ve (H:=upd M L<|.tup [.str<|Oh "join",.int o,.int X,.int z]) (l:=L) (i:=o) (j:=X) (z:=z) aa;generalize upd M L (.tup [.str<|Oh "join",.int o,.int X,.int z])=G3 at k3 r3;refine Ha ?_;dsimp only;refine iH λN hN=>?_;have C:∀L i1 j1 z1 O e,e=[gV<|.ref p,gV<|.str<|aj D,gV<|.ref a,gV<|.int n,gV<|.int o,gV<|.int (0+(i:Int)),gV<|.int X,gV<|.int z,gV<|.ref L]->Same H O->RD O (Ex i1 j1 z1) (.ref L)->N e O:=by
    rintro L i1 j1 z1 O e rfl g r4;refine hN _ _ ?_;have gd:aO (Ex i1 j1 z1):=.inr<|.inr<|.inr ⟨_,_,_,rfl⟩;refine⟨_,rfl,_,rfl,_,rfl,_,rfl,p,q,a,t,D,.ref L,_,xs,Y,cs,m,rfl,g _ _ hp,ht,g _ _ hq,S_.mono g,h9,SX,g _ _ b,Z.mono g,h8,u,r4,(dO gd).1,(dO gd).2,λv' G5 k5 hv=>⟨rfl,_,rfl,g8 (λS=>?_) λS=>?_⟩⟩
    ·exact⟨_,rfl,I _ _ _ (g.trans k5) (bJ k5 _ _ r4) gd⟩
    exact⟨_,_,rfl,g.trans k5⟩
   refine⟨_,rfl,_,_,rfl,rfl,_,rfl,g8 (λS=>?_) λS=>?_⟩
   ·refine⟨_,rfl,_,rfl,_,rfl,_,_,rfl,rfl,(by show 4<=sizeLine;decide),λam an=>?_⟩;exact C am X o (0-z) _ _ rfl (k3.trans<|ad an _)<|ve aa
   exact C L o X z _ _ rfl k3 r3
  rintro J M ⟨x7,x8,rfl,k2⟩;exact⟨_,_,_,_,rfl,k2⟩
 rintro J G ⟨x5,x6,x7,x8,rfl,d⟩;exact⟨_,rfl,(by show 2<=sizeLine;decide),λL r=>I _ _ _ (d.trans<|ad r _) (o6 aa)<|.inr<|.inr<|.inl ⟨_,rfl⟩⟩
inductive sN (K:C')(vs:ab V)(H:Hp)(Q:VK)(E:XK):Prop
 |mk (a p q:J')(ns:ab Int)(t:Str)(hw:Oe)(xs:ab V)(cs:ab (ab Int))(h0:vs=[.ref a,.ref p,.str<|aj hw])(b:SqL K H a (ns.map V.int))(e:ns.length<=63)(f:H p=gV (.tup [.str t,.ref q]))(g:t.length<=9)(i:H q=gV (.lst xs))(j:CLs H cs xs)(k:cs.length<=16)(m:(∀c∈cs,al t.length c))(n:∀(pp l:J') (L:ab V) (ds:ab Oo) (out:ab (ab Int)) (h:Hp),Same H h->h pp=gV (.tup [.str<|aj hw,.ref l])->H l=Oa->h l=gV (.lst L)->cJ h ds L->ds.length<=56->(∀d∈ds,aO d)->aY t cs hw [] ds=(out,N7)->Q (.ref pp) h)
inductive vh (p:J')(hw:Oe)(D:J')(H:Hp)(t:Str)(cs:ab (ab Int))(ds:ab Oo)(i:Nat)(a:ab (M' V))(ys:ab V)(G:Hp):Prop
 |mk (I:(∃v,a=[v,gV<|.ref p,gV<|.str<|aj hw]))(b:G D=gV (.lst ys))(c:Same H G)(sets:ab (ab Int))(d:CLs G sets ys)(e:aY t cs hw [] (ds.take i)=(sets,N7))
inductive jZ (a:J')(p:J')(hw:Oe)(ll:J')(D:J')(t:Str)(cs:ab (ab Int))(H:Hp)(i:Nat)(b:ab (M' V))(G:Hp):Prop
 |mk (x:M' V)(X:M' V)(c:M' V)(e:M' V)(l:ab V)(ys:ab V)(ds:ab Oo)(sets:ab (ab Int))(I:b=[gV<|.ref a,gV<|.ref p,gV<|.str<|aj hw,gV<|.ref ll,gV<|.ref D,x,X,c,e])(f:G ll=gV (.lst l))(g:G D=gV (.lst ys))(h:cJ G ds l)(j:CLs G sets ys)(k:ds.length<=16+i)(m:(∀d∈ds,aO d))(n:aY t cs hw [] ds=(sets,N7))(o:Same H G)
theorem Ey(F:Fun K "_law_paper" "_law_paper" Eu f fd)(T:Bl mg)(bb:Fe P w K mg B 1 "_law_cell_at" (rR K))(bc:Fe P w K mg B 1 "_law_mix" yl)
  (bd:Fe P w K mg B 5 "_law_first_lines" (sM K)) (Y6:Fe P w K mg B 4 "_law_line" iJ) (bf:Fe P w K mg B 5 "_law_more" wV):aA P w K mg B bw 6 f fd ["_law_script","_law_sentence_here","_law_hand"] (sN K):=by
 refine F.okB (N:=["_law_script","_law_sentence_here","_law_hand","_law_lines","_law_sets_here","_law_k","_law_cell","_law_line_here","_law_found"]) λQ_ A a4 s H vs Q E sc hr h=>?_;obtain⟨a,p,q,ns,t,n,xs,X,rfl,hS,a5,hp,ht,hq,S_,a6,SX,q'⟩:=h;have hu:=hr.units;refine⟨_,(ae gg
  (ae (Ml 4 ["_law_line_here","_law_sentence_here","_law_hand"] [Oa,gV 1,gV 2]<|aH<|pv 3)
  (ae (fS 5 gg (ae gg
   (ae gg
   (ae gg
   (ax<|bM (PW.pt<|rf gg<|xh<|PW.pt<|lu (dj (Aa hu) (pv 8) (pv 4)<|by rfl) gg) gg aN)))))
  gg))),?_⟩
 refine⟨_,rfl,_,rfl,_,rfl,a,p,q,ns,t,n,xs,X,rfl,hS,a5,hp,ht,hq,S_,a6,SX,λl L C H1 k1 az g1 g2 g3 r g5=>?_⟩;have aC:=bI g2;refine⟨_,rfl,l,rfl,⟨_,SqL.of g1⟩,λD hD=>?_⟩;have nD:l≠D:=af g1 hD;refine bv (K:=K) (a:=l) (xs:=L) (vh p n D H1 t X C) ⟨⟨Oa,rfl⟩,aa,ad hD _,[],.nil,rfl⟩ ?_ ?_ ?_
 ·rintro i σ y G S ⟨S,h,k,S⟩;exact⟨h,SqL.of<|k _ _ g1⟩
 ·rintro i x σ y G hx ⟨⟨v0,rfl⟩,O,k,g,u,J⟩;have V2:i<L.length:=(N8.mp hx).1;have rx:=cV g2 hx;have hd:=getD_some (d:=P_) (show i<C.length by exact Pe V2 (UC aC));generalize C.getD i .none=d at rx hd;have am:d∈C:=N5 hd;obtain⟨c,hc⟩:=g5 d am;have an:=bU J;rw[OJ,Rc]at an;refine bV ⟨_,rfl,_,rfl,OG _,λe0 a7=>?_⟩;have m:=ad a7<|.lst [];have r2:=@aa G e0 (.lst []);generalize upd G e0 (.lst [])=G2 at m r2;have j:=k1.trans<|k.trans m;refine⟨_,rfl,p,q,e0,t,n,x,d,xs,[],X,[],rfl,j _ _ hp,ht,j _ _ hq,S_.mono j,Pm a6 (by decide),SX,r2,.nil,OG _,(by simp),bJ (k.trans m) _ _ rx,(dO<|r d am).1,(dO<|r d am).2,λv' G3 U hv=>?_⟩;rw[hc []]at hv;obtain⟨tc,rfl,Ur⟩:=hv;have as:=U _ _<|m _ _ O;refine⟨as,(by rw[<-u.length];exact aV<|by lia),⟨_,rfl⟩,aa,(k.trans<|m.trans U).upd_new hD _,g++[c],CLs.snoc (CL.upd ⟨tc,rfl,Ur⟩ as)<|(u.mono<|m.trans U).upd as,run_next J hd<|hc g⟩
 rintro σ y G ⟨S,O,k,g,u,J⟩;rw[aC,Ol<|N' _]at J;have l1:=k _ _ g1;have d1:=bN k _ _ g2;have j:=k1.trans k;have a8:H D=none:=k1.free hD;clear g1 g2 g5 hD k aC;refine⟨_,rfl,(by simp),(by simp),?_⟩;refine d9 (lo:=0) (n:=40) (jZ a p n l D t X H)
  ⟨Oa,Oa,Oa,Oa,L,y,C,g,rfl,l1,O,d1,u,g3,r,J,j⟩ ?_ ?_
 ·clear l1 d1 O u J j g3 r;rintro i σ G hi ⟨x5,x6,x7,x8,L,y,C,g,rfl,l1,O,d1,u,g3,r,J,j⟩;have an:=bU J;rw[Rc]at an;have aF:∀c∈g,al t.length c:=by
   have:=eQ (w:=n) SX (D:=C) (s:=[]) (by simp);rw[J]at this;exact this
  have m0:=Q0 (0+(i:Int)) (show(30:Int)≠0 by decide);refine⟨_,rfl,_,rfl,_,_,rfl,rfl,(by simp),_,_,rfl,rfl,a,ns,_,rfl,j.seq hS,(by lia),_,rfl,_,_,rfl,rfl,⟨by simp,by simp⟩,_,_,rfl,rfl,_,rfl,_,rfl,a,ns,0,rfl,j.seq hS,(by simp),_,_,rfl,rfl,(by simp),.inl ⟨rfl,_,_,_,rfl,?_⟩⟩;dsimp only;generalize Ap (e_ ns (27+(0+(i:Int))%30)+(0+(i:Int))/30) (0+(i:Int)) (decide (V.int (e_ ns 0%2)=V.int 1))=I;refine⟨_,rfl,_,rfl,_,rfl,_,rfl,p,q,D,t,n,I,xs,y,X,g,rfl,j _ _ hp,ht,j _ _ hq,S_.mono j,Pm a6 (by decide),SX,O,u,by lia,aF,λv d G2 m rd gd=>?_⟩;have Y:=j.trans m;refine⟨_,rfl,_,rfl,_,rfl,_,rfl,p,q,D,t,n,v,d,xs,y,X,g,rfl,Y _ _ hp,ht,Y _ _ hq,S_.mono Y,Pm a6 (by decide),SX,m _ _ O,u.mono m,by lia,aF,rd,(dO gd).1,(dO gd).2,λv' G3 U hv=>?_⟩;have aL:=Y.trans U;have Z:=U _ _<|m _ _ l1;have M:=U _ _<|m _ _ O;have d3:=bN (m.trans U) _ _ d1;have av:=u.mono<|m.trans U;have a9:=bJ U _ _ rd;have ac:∀v0:V,jZ a p n l D t X H (i+1) [gV<|.ref a,gV<|.ref p,gV<|.str<|aj n,gV<|.ref l,gV<|.ref D,gV<|.int (0+(i:Int)),gV<|.int I,gV v,gV v0] G3:=λv0=>
   ⟨_,_,_,_,L,y,C,g,rfl,Z,M,d3,av,Wj g3,r,J,aL⟩
  cases hl:aB t X n g d with
  |none=>
   rw[hl]at hv;have Z_:v'=.non:=hv;subst Z_;exact⟨_,rfl,rfl,_,rfl,ao<|ao<|ac _⟩
  |some c=>
   rw[hl]at hv;obtain⟨tc,rfl,Ur⟩:=hv;have a0:CL G3 c (.ref tc):=⟨tc,rfl,Ur⟩;refine⟨_,rfl,rfl,_,rfl,aq ?_⟩;have put:∀N:St->Hp->Prop,(∀a1 G',jZ a p n l D t X H (i+1) a1 G'->N a1 G')->
     N [gV<|.ref a,gV<|.ref p,gV<|.str<|aj n,gV<|.ref l,gV<|.ref D,gV<|.int (0+(i:Int)),gV<|.int I,gV v,gV<|.ref tc] (upd (upd G3 l<|.lst<|L++[v]) D<|.lst<|y++[.ref tc]):=λN hN=>by
    refine hN _ _ ⟨_,_,_,_,L++[v],y++[.ref tc],C++[d],g++[c],rfl,by rw[ag nD];exact aa,aa,?_,?_,by rw[N9,OL];exact QK g3,λe he=>?_,?_,λb o eb=>?_⟩
    ·have W:upd G3 l (.lst<|L++[v]) D=gV (.lst y):=by rw[ag nD.symm];exact M
     exact jA (ie gd (ie gd a9 Z) W)<|fw W r<|fw Z r d3
    ·have W:upd G3 l (.lst<|L++[v]) D=gV (.lst y):=by rw[ag nD.symm];exact M
     exact CLs.snoc (CL.upd (CL.upd a0 Z) W)<|(av.upd Z).upd W
    ·grind
    ·rw[iB J,hl]
    rw[ag<|af eb a8,ag<|af eb az];exact aL _ _ eb
   have W:upd G3 l (.lst<|L++[v]) D=gV (.lst y):=by rw[ag nD.symm];exact M
   have a2:L.length<sizeLine:=by rw[bI d1];exact aV (by lia)
   have a3:y.length<sizeLine:=by rw[<-u.length];exact aV (by lia)
   refine⟨_,rfl,_,rfl,fB c,g.map fB,a0.rd,dm M av.rds,(nu (n:=1)<|kF 1 c).1,(kE<|ny g).1,Pm (nu (n:=1)<|kF 1 c).2 (by simp),_,rfl,g8 (λS=>aq ?_) λS=>?_⟩
   ·exact⟨_,rfl,.inl ⟨rfl,_,SqL.of Z⟩,_,rfl,l,_,_,rfl,rfl,Z,a2,_,rfl,.inl ⟨rfl,_,SqL.of W⟩,_,rfl,D,_,_,rfl,rfl,W,a3,put _ λS S z=>z⟩
   refine⟨_,rfl,_,_,rfl,rfl,(by simp),.inl ⟨rfl,_,rfl,g8 (λS=>?_) λS=>ac _⟩⟩;exact⟨_,rfl,.inl ⟨rfl,_,SqL.of Z⟩,_,rfl,l,_,_,rfl,rfl,Z,a2,_,rfl,.inl ⟨rfl,_,SqL.of W⟩,_,rfl,D,_,_,rfl,rfl,W,a3,put _ λS S z=>z⟩
 clear l1 d1 O u J j g3 r;rintro σ G ⟨x5,x6,x7,x8,L,y,C,g,rfl,l1,O,d1,u,g3,r,J,j⟩;refine⟨_,rfl,_,rfl,(by show 2<=sizeLine;decide),λpp ba=>?_⟩;have k4:=ad ba<|.tup [.str<|aj n,.ref l];exact q' pp l L C g _ (j.trans k4) aa az (k4 _ _ l1) (bN k4 _ _ d1) g3 r J
noncomputable abbrev Iy:PQ:=cD 22
noncomputable abbrev Iz:PQ:=cD 42
inductive wW (vs:ab V)(H:Hp)(Q:VK)(E:XK):Prop
 |mk (q:J')(c:ab Int)(h0:vs=[.ref q])(a:mv H q c)(b:c.length<=9000)(d:∀(l:J') (h:Hp),Same H h->mv h l (c.map λz=>-z)->Q (.ref l) h)
inductive RuAt (H:Hp)(r:ab Int×Oe)(v:V):Prop
 |mk (p q:J')(h:v=.ref p)(a:H p=gV (.tup [.ref q,.bl r.2]))(b:mv H q r.1)
theorem RuAt.mono(x:RuAt H r v)(k:Same H h):RuAt h r v:=by
 obtain⟨p,q,a,b,c⟩:=x;exact⟨p,q,a,k _ _ b,k _ _ c⟩
theorem RuAt.upd(x:RuAt H r v)(h:H a=gV (.lst y)):RuAt (upd H a o) r v:=by
 obtain⟨p,q,d,b,c⟩:=x;exact⟨p,q,d,by rwa[ag<|bp b h<|by simp],by show L2.upd H a o q=_;rwa[ag<|bp c h<|by simp]⟩
abbrev RuLs(H:Hp):ab (ab Int×Oe)->ab V->Prop:=Paired<|RuAt H
theorem RuLs.mono(x:RuLs H r v)(k:Same H h):RuLs h r v:=L2.Paired.imp' (λy y z=>z.mono k) x
theorem RuLs.upd(x:RuLs H r v)(h:H a=gV (.lst y)):RuLs (L2.upd H a o) r v:=L2.Paired.imp' (λw w z=>z.upd h) x
theorem RuLs.snoc(z:RuAt H r v):∀{s:ab (ab Int×Oe)} {a:ab V},RuLs H s a->RuLs H (s++[r]) (a++[v]):=by
 intro s a h;induction h with
 |nil=>exact .cons z .nil
 |cons r t i=>exact .cons r i
inductive wX (vs:ab V)(H:Hp)(Q:VK)(E:XK):Prop
 |mk (q:J')(hw:Oe)(l:Int)(left:ab Int)(h0:vs=[.str<|aj hw,.int l,.ref q])(a:mv H q left)(b:left.length<=9000)(c:∀(v:V) (h:Hp),Same H h->RuAt h (lO hw l left) v->Q v h)
theorem Hc(F:Fun K "turned_about" "turned_about" Iy f i)(T:Bl m):aA P w K m b bw 1 f i ["literals"] wW:=by
 refine F.okB (N:=["literals"]) λp A o s H v Q E t u h=>?_;obtain⟨q,c,rfl,d,j,l⟩:=h;exists _,(dX<|bF bH rfl T.tuple P2<|fV<|gS ["literal"] [Oa]<|bX<|pv 0);refine⟨_,rfl,q,rfl,⟨_,SqT.of d⟩,λD e=>bG [] _ (E_ λz=>.int (-z)) rfl d e (by simp_all) (λx g n R k r=>r) ?_ ?_⟩
 ·intro x g y n R k r;obtain⟨z,y,rfl⟩:=bK g;exact⟨_,rfl,z,rfl,r⟩
 refine⟨D,_,rfl,.inl ⟨SqL.of aa,λL a=>l L _ ((ad e _).trans<|ad a _) ?_⟩⟩;show upd _ L _ L=_
 rw[aa,RJ.mpr λy y=>rfl,OY,OY];rfl
theorem Hd(F:Fun K "rule_of" "rule_of" Iz f e)(T:Bl m)(g:Fe P w K m b 1 "turned_about" wW):aA P w K m b bw 2 f e ["hand","literal","left"] wX:=by
 refine F.okB (N:=["hand","literal","left"]) λr A o s H v Q E u x h=>?_;obtain⟨q,i,l,left,rfl,c,j,d⟩:=h;exists _,gg;refine⟨_,rfl,.inl ⟨rfl,_,rfl,?_⟩⟩;cases i with
 |false=>
  refine aq ⟨_,rfl,q,left,rfl,c,j,λL y n t=>⟨_,rfl,_,_,rfl,rfl,(by show 2<=sizeLine;decide),λp a=>?_⟩⟩;have k:=ad a<|.tup [.ref L,.bl (decide (l<0))];exact d _ _ (n.trans k) ⟨p,L,rfl,aa,k _ _ t⟩
 |true=>
  refine ao ⟨_,rfl,_,rfl,_,_,rfl,rfl,(by show 2<=sizeLine;decide),λp a=>?_⟩;have k:=ad a<|.tup [.ref q,.bl (decide (0<l))];exact d _ _ k ⟨p,q,rfl,aa,k _ _ c⟩
noncomputable abbrev Ez:PQ:=cD 43
abbrev He:=Int×ab (ab Int×Oe)
inductive PartAt (H h:Hp)(L:J')(e:He)(x:V):Prop
 |mk (p a:J')(ys:ab V)(hx:x=.ref p)(b:h p=gV (.tup [.int e.1,.ref a,.bl Oc]))(c:h a=gV (.lst ys))(d:RuLs h e.2 ys)(f:H a=Oa)(g:a≠L)
noncomputable def vi(t:Str)(h:Oe)(d:ab Oo)(o:ab (ab Int)):ab He:=(aJ t h).map λv=>(v,bi h d o v d.length)
inductive sO (vs:ab V)(H:Hp)(Q:VK)(E:XK):Prop
 |mk (p q pp l:J')(t:Str)(hw:Oe)(xs s:ab V)(cs:ab (ab Int))(ds:ab Oo)(out:ab (ab Int))(h0:vs=[.ref p,.ref pp])(i:H p=gV (.tup [.str t,.ref q]))(j:t.length<=30)(k:H q=gV (.lst xs))(m:CLs H cs xs)(n:cs.length<=900)(o:(∀c∈cs,al t.length c))(r:H pp=gV (.tup [.str<|aj hw,.ref l]))(u:H l=gV (.lst s))(v:cJ H ds s)(a:ds.length<=4000)(b:(∀d∈ds,aO d))(e:aY t cs hw [] ds=(out,N7))(f:pM out=N7)(g:∀L xs h,Same H h->H L=Oa->h L=gV (.lst xs)->Paired (PartAt H h L) (vi t hw ds out) xs->Q (.ref L) h)
inductive IA (D:J')(H:Hp)(b:ab Int)(i:Nat)(c:St)(ys:ab V)(G:Hp):Prop
 |mk (d:M' V)(T A:ab J')(I:c=[d])(e:ys=T.map V.ref)(f:G D=gV (.lst ys))(g:Same H G)(h:T.length=i)(k:A.length=i)(l:∀(j:Nat) (t:J') (v:Int) (a:J'),T[j]?=gV t->b[j]?=gV v->A[j]?=gV a->G t=gV (.tup [.int v,.ref a])) (m:∀a∈A,G a=gV (.lst [])/\H a=Oa/\a≠D) (n:A.Nodup)
noncomputable def jl(T:ab Int)(a:ab J'):ab (bj×V):=(T.zip a).map λp=>((Pb p.1:bj),V.ref p.2)
theorem Hf(h:a.length=T.length):(jl T a).map (·.1)=T.map λv=>(Pb v:bj):=by
 unfold jl;rw[OY];have:(T.zip a).map ((λx=>x.1)∘λp=>((Pb p.1:bj),V.ref p.2))=((T.zip a).map rk).map λv=>(Pb v):=by
  rw[OY];rfl
 rw[this,aay<|by simp_all]
theorem wY:∀{T:ab Int} {A:ab J'} {m:Nat} {v:Int} {a:J'},T.Nodup->T[m]?=gV v->A[m]?=gV a->b9 (jl T A) (.inl v)=gV (.ref a)
 |[],_,_,_,_,_,e,_=>by simp at e
 |x::T,[],_,_,_,_,_,e=>by simp at e
 |x::T,b::A,0,v,a,n,E,c=>by
  cases(E);cases(c);unfold b9 jl;simp
 |x::T,b::A,m+1,v,a,n,E,c=>by
  obtain⟨N,d⟩:=PF.mp n;have i:=wY d E c;have h:x≠v:=λz=>N (by rw[z];exact N5 E);unfold b9 jl at i ⊢;rwa[Zr,OU,Xo<|by simpa using h]
theorem yT{c d:Type}{f:c->d}(e:∀a b,f a=f b->a=b){l:ab c}(h:l.Nodup):(l.map f).Nodup:=Wp f (λa b H z=>H<|e a b z) h
theorem vj{c:Type}{l:ab c}(h:l.Nodup){i j:Nat}{x:c}(a:l[i]?=gV x) (b:l[j]?=gV x):i=j:=by
 obtain⟨H,e⟩:=N8.mp a;obtain⟨d,E⟩:=N8.mp b;exact(aaz h).mp<|e.trans E.symm
theorem sP{a b:Type}{f:a->b}{l:ab a}{i:Nat}{y:b}(h:(l.map f)[i]?=gV y):∃x,l[i]?=gV x/\y=f x:=by
 cases e:l[i]? with
 |none=>simp_all
 |some x=>simp_all
theorem KN{a b:Type}{l:ab a}{m:ab b}{i:Nat}{x:a}{y:b}(h:(l.zip m)[i]?=gV (x,y)):l[i]?=gV x/\m[i]?=gV y:=by
 rwa[V5]at h
theorem o7(t:Str)(h:Oe):(aJ t h).Nodup:=yT (by lia)<|(aav).sublist Vq
theorem o8(t:Str)(h:Oe):(aJ t h).length<=t.length:=by
 unfold aJ;have:=Po (λi=>cu t i == h)<|O7 t.length;simp_all
structure Boxes (G:Hp)(as:ab J')(T6:ab Int)(R:Int->ab (ab Int×Oe)):Prop where
 at_:∀(m:Nat) (a:J') (v:Int),as[m]?=gV a->T6[m]?=gV v->∃ys,G a=gV (.lst ys)/\RuLs G (R v) ys
theorem Boxes.mono{R:Int->ab (ab Int×Oe)}(x:Boxes G A T R)(k:Same G g):Boxes g A T R:=⟨λm a v h H=>by
 obtain⟨y,b,c⟩:=x.at_ m a v h H;exact⟨y,k _ _ b,c.mono k⟩⟩
theorem Boxes.same{R:Int->ab (ab Int×Oe)}(x:Boxes G A T R)(h:∀v∈T,R v=r v):Boxes G A T r:=⟨λm a v b H=>by
 obtain⟨y,g,c⟩:=x.at_ m a v b H;exact⟨y,g,by rwa[<-h v<|N5 H]⟩⟩
theorem Boxes.put{G:Hp}{A:ab J'}{T:ab Int}{R:Int->ab (ab Int×Oe)}(x:Boxes G A T R)(g:A.Nodup)(i:T.Nodup){m:Nat}{a:J'}{v:Int}{Y:ab V}{r:ab Int×Oe}{y:V}(b:A[m]?=gV a) (c:T[m]?=gV v) (h:G a=gV (.lst Y)) (j:RuLs G (R v) Y) (k:RuAt G r y):
  Boxes (upd G a<|.lst<|Y++[y]) A T (λu=>if u=v then R v++[r]else R u):=⟨λM d f e E=>by
 by_cases H:M=m
 ·subst H;rw[b]at e;rw[c]at E;cases e;cases E;exact⟨_,aa,by rw[Ox rfl];exact RuLs.snoc (k.upd h)<|j.upd h⟩
 have n:d≠a:=λz=>H (vj g e<|by rwa[z]);have N:f≠v:=λz=>H (vj i E<|by rwa[z]);obtain⟨Z,l,o⟩:=x.at_ M d f e E;exact⟨Z,by rwa[ag n],by rw[Ov N];exact o.upd h⟩⟩
inductive ME (p pp s l d:J')(H:Hp)(a:ab J')(t:Str)(hw:Oe)(ds:ab Oo)(out:ab (ab Int))(i:Nat)(b:St)(G:Hp):Prop
 |mk (x X c:M' V)(I:b=[gV (.ref p),gV (.ref pp),gV (.ref s),gV (.ref l),gV (.ref d),x,X,c])(e:Same H G)(f:G d=gV (.dK (jl (aJ t hw) a)))(g:Boxes G a (aJ t hw) (λv=>bi hw ds out v i))
inductive MF (p pp s l d L lf:J')(H:Hp)(a:ab J')(t:Str)(hw:Oe)(ds:ab Oo)(out:ab (ab Int))(i:Nat)(c:ab Int)(j:Nat)(b:St)(G:Hp):Prop
 |mk (x:M' V)(I:b=[gV (.ref p),gV (.ref pp),gV (.ref s),gV (.ref l),gV (.ref d),gV (.ref L),gV (.ref lf),x])(e:Same H G)(f:G d=gV (.dK (jl (aJ t hw) a)))(g:Boxes G a (aJ t hw) (λv=>bi hw ds out v i++cW hw (out.getD i []) v ((c.take j).filter λl=>!(out.getD i []).contains l)))
theorem yU(h:List.Sublist a b)(u:Ups b):Ups a:=adD (h.map _) u
theorem lT{left:ab Int}(H:1<=v)(h:Ups l):(cW w left v l).length<=2:=by
 unfold cW;rw[A',yi H h];exact Po _ _
theorem AM(h:∀c∈o,al n c)(k:Nat):Ups (b8 d o k):=by
 unfold b8
 split
 ·rename_i i _;refine yU Vq ?_;by_cases H:i<o.length
  ·exact(eP h H).1
  rw[N6,Py<|by simp_all];exact Se
 exact Se
theorem ir(h:∀c∈o,al N c)(a:1<=v):∀{n:Nat},(bi H d o v n).length<=2*n
 |0=>N' _
 |n+1=>by
  have:=ir (H:=H) (d:=d) h a (n:=n);have:=lT (w:=H) (left:=o.getD n []) a<|AM (d:=d) h n;show(bi H d o v n++_).length<=_
  rw[N9];lia
theorem PartAt.mono(z:PartAt H h L e x)(k:Same h b):PartAt H b L e x:=by
 obtain⟨p,a,y,c,d,f,g,i,j⟩:=z;exact⟨p,a,y,c,k _ _ d,k _ _ f,g.mono k,i,j⟩
theorem PartAt.upd(z:PartAt H h L e x)(b:h L=gV (.lst Z)):PartAt H (L2.upd h L o) L e x:=by
 obtain⟨p,a,y,f,c,g,i,j,d⟩:=z;exact⟨p,a,y,f,by rwa[ag<|bp c b<|by simp],by rwa[ag d],i.upd b,j,d⟩
theorem j0{c d:Type}{F G:c->d->Prop}(f:∀a b,F a b->G a b){a:c}{b:d}:∀{l:ab c} {m:ab d},Paired F l m->G a b->Paired G (l++[a]) (m++[b]):=by
 intro l m h z;induction h with
 |nil=>exact .cons z .nil
 |cons r t i=>exact .cons (f _ _ r) i
inductive MG (L:J')(H g:Hp)(d:J')(A:ab J')(t:Str)(hw:Oe)(ds:ab Oo)(out:ab (ab Int))(i:Nat)(a:St)(zs:ab V)(G:Hp):Prop
 |mk (b:M' V)(I:a=[b,gV (.ref d)])(c:G L=gV (.lst zs))(e:Same g G)(f:Paired (PartAt H G L) (((aJ t hw).take i).map λv=>(v,bi hw ds out v ds.length)) zs)
theorem EA(F:Fun K "plan_of" "plan_of" Ez f fd)(T:Bl mg)(cz:Fe P w K mg O 7 "whole_sets" yB)(Ws:Fe P w K mg O 2 "variables_of" kM)(c0:Fe P w K mg O 2 "rule_of" wX):aA P w K mg O bw 8 f fd ["sentence","paper"] sO:=by
 refine F.okB (N:=["sentence","paper","sets","variables","rules","line","left","literal"]) λQ_ A b4 s H vs Q E sc hr h=>?_;obtain⟨p,q,pp,la,t,g,xs,ls,cs,n,o,rfl,hp,ht,hq,S_,h9,SX,an,aF,Z',h8,ba,R3,b6,q'⟩:=h;have hu:=hr.units;have WZ:=Ro (YU (show 1<=64 by decide) _) hu;have c2:o.length=n.length:=by
  have:=bU R3;simpa using this
 have a0:∀c∈o,al t.length c:=by
  have:=eQ (w:=g) SX (D:=n) (s:=[]) (λS h=>nomatch h);rw[R3]at this;exact this
 have c3:=o8 t g;have av:=o7 t g;refine⟨_,(ae gg
  (ae gg
  (ae (sT 4<|bF (jc rfl) rfl T.dict UB<|fV<|gS ["variable"] [Oa]<|aH<|pv 3)
  (ae (kh QX rfl (Cg rfl T.zip gg<|pv 2) gg
   (ax<|bM gg (ax<|fS 7 (bX gg)<|ax<|bM gg (ax<|di<|fL Pl Qp QD dz (bS WZ (pv 4) gg λS S=>rfl) gg) aN) aN))
  (dX<|gS ["variable","rules"] [Oa,gV 4] (aH<|pv 3) (e:=λS S S S=>(dI<|aP (pv 0)<|oe (bS WZ (pv 1) (pv 0) λS S=>rfl) fj))))))),?_⟩
 refine⟨_,rfl,_,rfl,p,q,pp,la,t,g,xs,ls,cs,n,o,rfl,hp,ht,hq,S_,h9,SX,an,aF,Z',Pm h8 (by decide),λd hd=>(dO<|ba d hd).1,R3,b6,λsl ys H1 k1 c4 a1 a2=>?_⟩;refine⟨_,rfl,_,rfl,(bu (k1 _ _ an) rfl ⟨p,t,.ref q,g,rfl,k1 _ _ hp,Pm ht (by decide),λl H2 k2 WW=>?_⟩)⟩;refine⟨_,rfl,l,rfl,⟨_,SqL.of WW⟩,λD hD=>?_⟩;refine bv (K:=K) (a:=l) (xs:=(aJ t g).map V.int) (IA D H2<|aJ t g) ⟨Oa,[],[],rfl,rfl,aa,ad hD _,rfl,rfl,(λj t v a e=>by simp at e),(λa ha=>nomatch ha),Se⟩ ?_ ?_ ?_
 ·rintro i U Z G S ⟨S,ts,r,S,S,i2,i3,S⟩;exact⟨i2,SqL.of<|i3 _ _ WW⟩
 ·rintro i x U Z G hx ⟨v0,ts,r,rfl,rfl,i2,i3,i4,i5,i6,i7,i8⟩;obtain⟨v,hv,rfl⟩:=sP hx;have V2:i<(aJ t g).length:=(N8.mp hv).1;refine bV ⟨_,rfl,OG _,λu W=>⟨(by show 2<=sizeLine;decide),λpt az=>?_⟩⟩;have k3:=ad W<|.lst [];have s3:=@aa G u (.lst []);have cc:H2 u=none:=i3.free W;have bb:u≠D:=λz=>by rw[z,i2]at W;cases W
  generalize upd G u (.lst [])=G3 at k3 s3 az ⊢;have k4:=ad az<|.tup [.int v,.ref u];have s4:=@aa G3 pt (.tup [.int v,.ref u]);generalize upd G3 pt (.tup [.int v,.ref u])=G4 at k4 s4 ⊢;have aC:=k3.trans k4;have d4:=aC _ _ i2;exists d4,(by rw[A'];exact aV<|by lia);refine⟨_,ts++[pt],r++[u],rfl,by simp,aa,(i3.trans aC).upd_new hD _,by rw[N9,i4];rfl,by rw[N9,i5];rfl,λj t' v' a' e1 e2 e3=>?_,λa ha=>?_,?_⟩
  ·by_cases hj:j<i
   ·rw[OV<|by lia]at e1 e3;have z:=aC _ _<|i6 j t' v' a' e1 e2 e3;rw[ag<|bp z d4<|by simp];exact z
   rw[OP<|by lia]at e1 e3;have cd:j=i:=by
    have:=(N8.mp e1).1;rw[OL]at this;lia
   subst cd;rw[i4,P3]at e1;rw[i5,P3]at e3;rw[hv]at e2;cases e1;cases e2;cases e3;rw[ag<|bp s4 d4<|by simp];exact s4
  ·obtain z|z:=OH.mp ha
   ·obtain⟨g1,g2,g3⟩:=i7 a z;exact⟨by rw[ag g3];exact aC _ _ g1,g2,g3⟩
   rw[Oi.mp z];exact⟨by rw[ag bb];exact k4 _ _ s3,cc,bb⟩
  refine Qj.mpr ⟨i8,PF.mpr ⟨by simp,Sw⟩,λa ha b hb z=>?_⟩;rw[Oi.mp hb]at z;have:=(i7 a ha).1;rw[z,W]at this;cases this
 rintro U Z G ⟨v0,ts,r,rfl,rfl,i2,i3,i4,i5,i6,i7,i8⟩;rw[A']at i4 i5;refine⟨D,ts,jl (aJ t g) r,rfl,i2,?_,λi t' kv e1 e2=>?_,?_,?_,λd hd=>?_⟩
 ·unfold jl;rw[A',aa2];lia
 ·unfold jl at e2;obtain⟨⟨v,a⟩,e3,rfl⟩:=sP e2;obtain⟨e4,e5⟩:=KN e3;exact i6 i t' v a e1 e4 e5
 ·rw[Hf i5];exact yT (λS S z=>Rx z) av
 ·unfold jl;rw[A',aa2];lia
 have k5:=ad hd<|.dK<|jl (aJ t g) r;have s5:=@aa G d (.dK<|jl (aJ t g) r);have b5:Boxes (upd G d<|.dK<|jl (aJ t g) r) r (aJ t g) (λv=>bi g n o v 0):=⟨λm a v h1 h2=>⟨[],k5 _ _ (i7 a<|N5 h1).1,.nil⟩⟩;have X:=i3.trans k5;generalize upd G d (.dK<|jl (aJ t g) r)=G5 at k5 s5 b5 X ⊢;have bc:∀a∈r,H2 a=none:=λa ha=>(i7 a ha).2.1;clear k5 i7 i6 i3 i2;have B:=k1.trans k2;have Ql:=bI Z';have c5:=a2.length;refine⟨_,rfl,(bu (X _ _<|B _ _ an) rfl ⟨_,rfl,la,sl,rfl,rfl,⟨_,SqL.of<|X _ _<|B _ _ aF⟩,⟨_,SqL.of<|X _ _<|k2 _ _ a1⟩,?_⟩)⟩;refine Gq (K:=K) (a:=la) (b:=sl) (X:=ls) (Y:=ys) (n:=n.length) Ql (by lia) (ME p pp sl l d H2 r t g n o) ⟨Oa,Oa,Oa,rfl,X,s5,b5⟩ ?_ ?_ ?_
 ·rintro i U G6 S ⟨S,S,S,S,j1,S⟩;exact⟨SqL.of<|j1 _ _<|B _ _ aF,SqL.of<|j1 _ _<|k2 _ _ a1⟩
 ·rintro i x y U G6 t1 hx hy ⟨x5,x6,x7,rfl,j1,j2,j3⟩ ce;have V2:i<n.length:=by have:=(N8.mp hx).1;lia
  have rx:=cV Z' hx;have a3:=getD_some (d:=P_) V2;have bd:=N5 a3;have ed:n.getD i .none=n.getD i .none:=rfl;generalize bf:n.getD i .none=d1 at rx a3 bd;obtain⟨c1,bg,cf⟩:=a2.get hy;have eo:o.getD i []=c1:=by rw[N6,bg];rfl
  obtain⟨lf,rfl,bk⟩:=cf;have k7:=ad ce<|.tup [x,.ref lf];exists t1,_,rfl,SqT.of aa,rfl,_,_,rfl,_,_,rfl,rfl;have M:=j1.trans k7;have Y:=k7 _ _ j2;have a4:=j3.mono k7;show IV _ _ _ _ _ (upd G6 t1<|.tup [x,.ref lf])
  generalize upd G6 t1 (.tup [x,.ref lf])=G7 at k7 M Y a4 ⊢;clear j1 j2 j3;have ac:=B.trans M;have a5:n9 d1=Oa->Boxes G7 r (aJ t g) (λv=>bi g n o v<|i+1):=λe=>a4.same λv S=>by
   show _=bi g n o v i++cW g (o.getD i []) v (b8 n o i)
   unfold b8;rw[bf,e];exact(Pq _).symm
  obtain⟨k,rfl⟩|⟨c,S,rfl⟩|⟨z,rfl⟩|⟨z1,z2,z3,rfl⟩:=ba d1 bd
  ·obtain⟨ln,Z,rfl,C,N⟩:=ak rx;obtain⟨y0,Z,rfl,r0,N⟩:=ai N;obtain rfl:=aR r0;refine⟨_,rfl,(bu (ac _ _ C) (aK (j:=0) rfl)<|.inl ⟨rfl,_,rfl,?_⟩)⟩;rw[Ob (show V.str aE≠V.str (Oh "drop") by decide+kernel)];exact ao ⟨_,_,_,rfl,M,Y,a5 rfl⟩
  ·obtain⟨ln,Z,rfl,C,N⟩:=ak rx;obtain⟨y0,Z,rfl,r0,N⟩:=ai N;obtain rfl:=aR r0;refine⟨_,rfl,(bu (ac _ _ C) (aK (j:=0) rfl)<|.inl ⟨rfl,_,rfl,?_⟩)⟩;rw[Ob (show V.str aW≠V.str (Oh "drop") by decide+kernel)];exact ao ⟨_,_,_,rfl,M,Y,a5 rfl⟩
  ·obtain⟨ln,Z,rfl,C,N⟩:=ak rx;obtain⟨y0,Z,rfl,r0,N⟩:=ai N;obtain⟨y1,Z,rfl,r1,N⟩:=ai N;obtain rfl:=aR r0;obtain rfl:=ar r1;obtain⟨i',rfl,c6,S,c8⟩:=rN R3 a3;refine⟨_,rfl,(bu (ac _ _ C) (aK (j:=0) rfl)<|.inl ⟨rfl,_,rfl,?_⟩)⟩;rw[On (show V.str ay=V.str (Oh "drop") by rfl)];obtain⟨xc,bl⟩:∃xc,ys[i']?=gV xc:=⟨_,N_ (by lia)⟩;obtain⟨c,hc,Vl⟩:=a2.get bl;have ec:o.getD i' []=c:=by rw[N6,hc];rfl
   obtain⟨tc,rfl,Ur⟩:=Vl;have bm:=a0 c<|N5 hc;have da:=aM bm;have ch:=a0 c1<|N5 bg;have db:=aM ch;have br:=k2.trans M;refine aq ⟨_,rfl,_,rfl,(bu (ac _ _ C) (aK (j:=1) rfl)<|(iG (br _ _ a1) (aK bl) ⟨tc,rfl,⟨_,SqT.of<|br _ _ Ur⟩,?_⟩))⟩;have bs:b8 n o i=c.filter λl=>!c1.contains l:=by
    unfold b8;have ep:n9 (.tuple [.str ay,.int (i':Int)])=gV i':=by
     show(if ay=ay then gV (i':Int).toNat else Oa)=_
     rw[Ox rfl,O8]
    rw[bf,ep];show(o.getD i' []).filter (λl=>!(o.getD i []).contains l)=_
    rw[ec,eo]
   refine fK (K:=K) (a:=tc) (X:=c.map V.int) (MF p pp sl l d ln lf H2 r t g n o i c) ⟨_,rfl,M,Y,a4.same λv S=>?_⟩ ?_ ?_ ?_
   ·rw[Yp];exact(Pq _).symm
   ·rintro j U G8 S ⟨S,S,m1,S⟩;exact SqT.of<|m1 _ _<|k2 _ _ Ur
   ·rintro j x U G8 ck ⟨x7,rfl,m1,m2,m3⟩;obtain⟨lz,bt,rfl⟩:=sP ck;have b0:c.take (j+1)=c.take j++[lz]:=by rw[OM,bt];rfl
    have b1:=k2.trans m1;have e:(if N7=N7 then !gY (.int lz) (c1.map V.int)else gY (.int lz) (c1.map V.int))=!c1.contains lz:=by
     rw[Ox rfl,bC]
    exists _,rfl,_,rfl,lf,_,rfl,.inr<|SqT.of<|b1 _ _ bk,rfl,aU _,_,rfl;rw[e];cases a6:c1.contains lz with
    |true=>
     refine ao ⟨_,rfl,m1,m2,m3.same λv S=>?_⟩;rw[b0,P5,eo,Rr,a6];show _=_++cW g c1 v ((c.take j).filter _++[])
     rw[Pq]
    |false=>
     have b2:absI lz∈aJ t g:=Ai SX R3 V2 (by rw[bs];exact OF.mpr ⟨N5 bt,by rw[a6];rfl⟩);obtain⟨m,hm⟩:=Yv b2;obtain⟨I,J⟩:∃I,r[m]?=gV I:=⟨_,N_ (by have:=(N8.mp hm).1;lia)⟩;obtain⟨us,g1,g2⟩:=m3.at_ m I _ J hm;have b3:1<=absI lz:=(eH.mp b2).1;have cl:Ups ((c.take j).filter λl=>!(o.getD i []).contains l):=yU (Vq.trans (S6 _ _)) bm.1;have dc:us.length<=2*i+2:=by
      have e1:=ir a0 b3 (H:=g) (d:=n) (n:=i);have e2:=lT (w:=g) (left:=o.getD i []) b3 cl;have e3:=Paired.length g2;rw[N9]at e3;lia
     refine aq ⟨_,rfl,_,rfl,lz,rfl,d,.ref I,rfl,.inl ⟨_,.inl<|absI lz,Rd.of m2,rfl,(wY av hm J).symm⟩,.inl ⟨rfl,_,SqL.of g1⟩,?_⟩;refine⟨_,rfl,(bu ((B.trans m1) _ _ an) rfl ⟨_,rfl,_,rfl,lf,g,lz,c1,rfl,b1 _ _ bk,by lia,λrv G9 k9 co=>?_⟩)⟩;have a7:=k9 _ _ g1;have cp:=m1.trans k9;exists I,us,rv,rfl,rfl,a7,aV (by lia);have ct:=bc I<|N5 J;refine⟨_,rfl,cp.upd_new ct _,by rw[ag<|bp (k9 _ _ m2) a7<|by simp];exact k9 _ _ m2,((m3.mono k9).put i8 av J hm a7 (g2.mono k9) co).same λv S=>?_⟩;rw[b0,P5,eo,Rr,a6];unfold cW;rw[Ox (show(!Oc)=N7 from rfl),P5,OI,Rr];by_cases ev:v=absI lz
     ·subst ev;rw[Ox rfl,Ox<|On rfl,O5];rfl
     rw[Ov ev,Ov<|by simpa using λz=>ev z.symm];show _=_++(_++[])
     rw[Pq]
   rintro U G8 ⟨x7,rfl,m1,m2,m3⟩;refine⟨_,_,_,rfl,m1,m2,m3.same λv S=>?_⟩;show _=bi g n o v i++cW g (o.getD i []) v (b8 n o i)
   rw[A',Ol<|N' _,bs,eo]
  obtain⟨ln,Z,rfl,C,N⟩:=ak rx;obtain⟨y0,Z,rfl,r0,N⟩:=ai N;obtain rfl:=aR r0;refine⟨_,rfl,(bu (ac _ _ C) (aK (j:=0) rfl)<|.inl ⟨rfl,_,rfl,?_⟩)⟩;rw[Ob (show V.str aQ≠V.str (Oh "drop") by decide+kernel)];exact ao ⟨_,_,_,rfl,M,Y,a5 rfl⟩
 rintro U G6 ⟨x5,x6,x7,rfl,j1,j2,j3⟩;refine⟨_,rfl,l,rfl,⟨_,SqL.of<|j1 _ _ WW⟩,λL hL=>?_⟩;have nL:H L=none:=B.free<|j1.free hL;have aL:∀a∈r,a≠L:=λa ha z=>by
  obtain⟨m,hm⟩:=Yv ha;obtain⟨v,hv⟩:∃v,(aJ t g)[m]?=gV v:=⟨_,N_ (by have:=(N8.mp hm).1;lia)⟩;obtain⟨us,g1,S⟩:=j3.at_ m a v hm hv;rw[z,hL]at g1;cases g1
 refine bv (K:=K) (a:=l) (xs:=(aJ t g).map V.int) (MG L H G6 d r t g n o) ⟨Oa,rfl,aa,ad hL _,.nil⟩ ?_ ?_ ?_
 ·rintro i U Z G7 S ⟨S,S,n2,n3,S⟩;exact⟨n2,SqL.of<|n3 _ _<|j1 _ _ WW⟩
 ·rintro i x U Z G7 hx ⟨v0,rfl,n2,n3,n4⟩;obtain⟨v,hv,rfl⟩:=sP hx;have V2:i<(aJ t g).length:=(N8.mp hv).1;obtain⟨I,J⟩:∃I,r[i]?=gV I:=⟨_,N_ (by lia)⟩;obtain⟨us,g1,g2⟩:=j3.at_ i I v J hv;have a8:=N5 J;refine bV ⟨_,rfl,_,rfl,_,rfl,d,.ref I,rfl,.inl ⟨_,.inl v,Rd.of (n3 _ _ j2),rfl,(wY av hv J).symm⟩,(by show 3<=sizeLine;decide),λpt az=>?_⟩;have k8:=ad az (.tup [.int v,.ref I,.bl Oc]);have d8:=k8 _ _ n2;have a9:=n3.trans k8;have cv:=Paired.length n4;rw[A',OJ]at cv;exists d8,aV (by lia),_,rfl,aa,a9.upd_new hL _;rw[OM,hv,OI];refine j0 (G:=PartAt H (upd (upd G7 pt (.tup [.int v,.ref I,.bl Oc])) L (.lst (Z++[.ref pt]))) L) (a:=(v,bi g n o v n.length)) (λe y (z:PartAt H G7 L e y)=>PartAt.upd (z.mono k8) d8) n4 ⟨pt,I,us,rfl,?_,?_,?_,?_,aL I a8⟩
  ·rw[ag (bp aa d8<|by simp),aa]
  ·rw[ag<|aL I a8];exact a9 _ _ g1
  ·exact(g2.mono a9).upd d8
  exact B.free<|bc I a8
 rintro U Z G7 ⟨S,S,n2,n3,n4⟩;rw[A',Ol<|N' _]at n4;exact q' L Z G7 (B.trans<|j1.trans n3) nL n2 n4
noncomputable abbrev IB:PQ:=cD 45
noncomputable abbrev IC:PQ:=dJ (cD 47) 0
noncomputable abbrev yV:PQ:=dJ (cD 47) 1
structure KO (K:C')(mg:Str->M' K')(CP:J'):Prop where
 tuple:mg "tuple"=Oa
 dict:mg "dict"=Oa
 cl:Cls K CP
 ne:NoAttr K CP "entries"
abbrev dg:=Int×ab (ab Int×Oe)×Oe
inductive RuleAt (H:Hp)(r:ab Int×Oe)(x:V):Prop
 |mk (q s:J')(hx:x=.ref q)(h:H q=gV (.tup [.ref s,.bl r.2]))(a:H s=gV (.tup<|r.1.map V.int))
structure RulesAt (H:Hp)(Xs:ab (ab Int×Oe))(xs:ab V):Prop where
 len:xs.length=Xs.length
 at_:∀(i:Nat) (x:V),xs[i]?=gV x->∃r,Xs[i]?=gV r/\RuleAt H r x
inductive EntAt (H:Hp)(F:J'->Prop)(e:dg)(x:V):Prop
 |mk (p lr:J')(r:ab V)(hx:x=.ref p)(h:H p=gV (.tup [.int e.1,.ref lr,.bl e.2.2]))(a:H lr=gV (.lst r))(b:RulesAt H e.2.1 r)(c:F lr)
structure EntsAt (H:Hp)(F:J'->Prop)(es:ab dg)(xs:ab V):Prop where
 len:xs.length=es.length
 at_:∀(i:Nat) (x:V),xs[i]?=gV x->∃e,es[i]?=gV e/\EntAt H F e x
inductive OwnE (H:Hp)(e:dg)(t:J'):Prop
 |mk (tr:J')(r:ab V)(h:H t=gV (.tup [.ref tr,.bl e.2.2]))(a:H tr=gV (.tup r))(b:RulesAt H e.2.1 r)
inductive PlayerAt (H:Hp)(C x:J')(es:ab dg):Prop
 |mk (dx d:J')(k:ab (bj×V))(h:H x=gV (.ins C dx [("entries",.ref d)]))(a:H d=gV (.dK k))(n:∀v:Int,(∀e∈es,e.1≠v)->b9 k (.inl v)=Oa)(s:∀e∈es,∃t,b9 k (.inl e.1)=gV (.ref t)/\OwnE H e t)
def N4:HO->Prop
 |.lst _=>False
 |_=>True
def Kept(H h:Hp):Prop:=∀b o,N4 o->H b=gV o->h b=gV o
theorem Same.kept(k:Same H h):Kept H h:=λb o z e=>k b o e
theorem RuleAt.mono(h:RuleAt H r x)(k:Kept H a):RuleAt a r x:=by
 obtain⟨q,s,b,c,d⟩:=h;exact⟨q,s,b,k _ _ trivial c,k _ _ trivial d⟩
theorem RulesAt.mono(h:RulesAt H X s)(k:Kept H c):RulesAt c X s:=
 ⟨h.len,λi x e=>let ⟨r,a,b⟩:=h.at_ i x e;⟨r,a,b.mono k⟩⟩
theorem PlayerAt.mono(h:PlayerAt H C x E)(k:Kept H b):PlayerAt b C x E:=by
 obtain⟨d,D,s,c,f,n,g⟩:=h;refine⟨d,D,s,k _ _ trivial c,k _ _ trivial f,n,λe i=>?_⟩;obtain⟨t,a,T,r,B,j,l⟩:=g e i;exact⟨t,a,T,r,k _ _ trivial B,k _ _ trivial j,l.mono k⟩
noncomputable def j8(X:ab (ab Int×Oe))(b:ab Oe)(o:Oe):Oe:=match X.find? λr=>r.1.all (hit b)with
 |some r=>r.2
 |none=>o
def Near(n:Nat)(X:ab (ab Int×Oe)):Prop:=∀r∈X,r.1.length<=900/\∀l∈r.1,1<=absI l/\absI l<=(n:Int)
theorem Near.mono(h:Near m X)(a:m<=n):Near n X:=λr H=>⟨(h r H).1,λl b=>by
 have:=(h r H).2 l b;lia⟩
theorem lm(h:1<=absI l)(H:absI l<=(B.length:Int)):cO B (absI l) (decide (0<l))=.bl (hit B l):=by
 obtain⟨e,z⟩|e:=qk (B:=B) h
 ·obtain⟨b,z,E⟩:=fZ (p:=decide (0<l)) h H;simp_all
 exact e
inductive wZ (vs:ab V)(H:Hp)(Q:VK)(E:XK):Prop
 |mk (p f:J')(c:ab Int)(bs:ab Oe)(h0:vs=[.ref p,.ref f])(h:H p=gV (.tup<|c.map V.int))(a:H f=gV (.lst<|bs.map V.bl))(b:bs.length<=900)(d:∀l∈c,1<=absI l/\absI l<=(bs.length:Int))(q:Q (.bl<|c.all<|hit bs) H)
inductive EB (C:J')(vs:ab V)(H:Hp)(Q:VK)(E:XK):Prop
 |mk (x b:J')(es:ab dg)(e:dg)(bs:ab Oe)(h0:vs=[.ref x,.int e.1,.ref b])(h:PlayerAt H C x es)(a:H b=gV (.lst<|bs.map V.bl))(c:bs.length<=900)(d:e∈es)(f:Near bs.length e.2.1)(q:Q (.bl<|j8 e.2.1 bs e.2.2) H)
inductive w9 (C:J')(vs:ab V)(H:Hp)(Q:VK)(E:XK):Prop
 |mk (x dx l:J')(es:ab dg)(xs:ab V)(F:J'->Prop)(h0:vs=[.ref x,.ref l])(a:H x=gV (.ins C dx []))(c:H l=gV (.lst xs))(d:EntsAt H F es xs)(f:(es.map (·.1)).Nodup)(g:es.length<=900)(i:∀e∈es,e.2.1.length<=9000)
  (q:∀h,PlayerAt h C x es->(∀b o,b≠x->H b=gV o->h b=gV o)->Q .non h):w9 C vs H Q E
theorem o9{a:Type}{p:a->Oe}{l:ab a}{i:Nat}{x:a}(h:l[i]?=gV x) (W:(l.take i).find? p=Oa) (H:p x=N7):l.find? p=gV x:=by
 have e:l.take (i+1)=l.take i++[x]:=by rw[OM,h];rfl
 rw[<-Qn _ l,e,O5,S7,W,S7,Xn H];rfl
theorem lp{a:Type}{p:a->Oe}{l:ab a}{i:Nat}{x:a}(h:l[i]?=gV x) (W:(l.take i).find? p=Oa) (H:p x=Oc):(l.take<|i+1).find? p=none:=by
 have e:l.take (i+1)=l.take i++[x]:=by rw[OM,h];rfl
 rw[e,S7,W,Xo<|by rw[H];exact Om];rfl
theorem AN{b:ab Oe}{c:ab Int}{l:Int}(H:l∈c)(h:hit b l=Oc):c.all (hit b)=false:=by
 grind
inductive yW (p:J')(g:J')(H:Hp)(c:ab Int)(bs:ab Oe)(i:Nat)(a:ab (M' V))(h:Hp):Prop
 |mk (v:M' V)(I:a=[gV<|.ref p,gV<|.ref g,v])(b:h=H)(d:(c.take i).all (hit bs)=N7)
theorem EC(F:Fun K "all_stand" "all_stand" IB f t)(u:Fe P w K M b 1 "stands_by" jV):aA P w K M b bw 2 f t ["literals","begun"] wZ:=by
 refine F.okB (N:=["literals","begun","literal"]) λC A o s H D Q E I J h=>?_;obtain⟨p,g,c,B,rfl,d,v,y,U,q⟩:=h;refine⟨_,(ae (fS 2 (bX<|pv 0) gg)
  (dX fj)),⟨_,rfl,p,rfl,⟨_,SqT.of d⟩,fK (K:=K) (X:=c.map V.int) (yW p g H c B) ⟨Oa,rfl,rfl,rfl⟩ ?_ ?_ ?_⟩⟩
 ·rintro i j k Z ⟨Z,Z,e,Z⟩;rw[e];exact SqT.of d
 ·rintro i x j k a ⟨z,rfl,rfl,r⟩;obtain⟨l,n,rfl⟩:∃l,c[i]?=gV l/\x=.int l:=by
   cases e:c[i]? with
   |none=>simp_all
   |some l=>simp_all
  have m:=N5 n;have e:c.take (i+1)=c.take i++[l]:=by rw[OM,n];rfl
  exists _,rfl,_,rfl,l,g,B,rfl,v,y,(U l m).1;rw[lm (U l m).1 (U l m).2];exists _,rfl;cases G:hit B l with
  |true=>
   refine ao ⟨_,rfl,rfl,?_⟩;simp_all
  |false=>
   rwa[AN m G]at q
 rintro j k ⟨z,rfl,rfl,r⟩;rw[Ol<|by rw[A'];exact N' _]at r;rwa[r]at q
inductive yX (x:J')(e:dg)(b:J')(t:J')(H:Hp)(bs:ab Oe)(i:Nat)(a:ab (M' V))(h:Hp):Prop
 |mk (v:M' V)(I:a=[gV (.ref x),gV (.int e.1),gV (.ref b),gV (.ref t),v])(c:h=H)(d:(e.2.1.take i).find? (λr=>r.1.all<|hit bs)=Oa)
theorem AO(F:Fun K "answer" "Planned.answer" yV f I)(T:KO K M C)(N:Fe P w K M B 2 "all_stand" wZ):aA P w K M B bw 3 f I ["self","variable","begun"] (EB C):=by
 refine F.okB (N:=["self","variable","begun","entry","rule"]) λQ_ A o s H vs Q E sc d h=>?_;obtain⟨x,b,es,e,a,rfl,J,L,O,U,c,q⟩:=h;have hu:=d.units;have Z:=p9 d;obtain⟨D,j,Y,k,h2,hn,hs⟩:=J;obtain⟨te,a1,t,rs,l,n,p⟩:=hs e U;have g:=DGet.k (k:=Pb e.1) h2;rw[a1]at g;refine⟨_,(ae (bM (vG<|pZ Z (pv 1) gg) (ax fX) aN)
  (ae (sT 3<|bS Z gg (pv 1) λV V=>rfl)
  (ae (fS 4 (bX gg) gg)
  gg))),?_⟩
 refine⟨_,rfl,_,rfl,x,C,D,_,_,rfl,k,T.cl,T.ne,rfl,j,_,rfl,g,_,rfl,ao ?_⟩;exists _,rfl,x,C,D,_,_,rfl,k,T.cl,T.ne,rfl,_,rfl,j,_,rfl,g;refine⟨_,rfl,(bu l rfl ⟨t,rfl,⟨_,SqT.of n⟩,fK (K:=K) (a:=t) (X:=rs)
  (yX x e b te H a) ⟨Oa,rfl,rfl,rfl⟩ ?_ ?_ ?_⟩)⟩
 ·rintro i u v V ⟨V,V,e2,V⟩;rw[e2];exact SqT.of n
 ·rintro i y u v hy ⟨v4,rfl,rfl,W⟩;obtain⟨r,X,qa,sv,rfl,z,c2⟩:=p.at_ i y hy;have m:=N5 X;have et:e.2.1.take (i+1)=e.2.1.take i++[r]:=by rw[OM,X];rfl
  refine⟨_,rfl,(bu z rfl ⟨_,rfl,sv,b,r.1,a,rfl,c2,L,O,(c r m).2,_,rfl,?_⟩)⟩;cases G:r.1.all (hit a)with
  |true=>
   refine aq ⟨_,rfl,(bu z rfl ?_)⟩;have ea:j8 e.2.1 a e.2.2=r.2:=by
    unfold j8;have ef:e.2.1.find? (λr=>r.1.all<|hit a)=gV r:=o9 X W G;rw[ef]
   rw[ea]at q;exact q
  |false=>
   exact ao ⟨_,rfl,rfl,lp X W G⟩
 rintro u v ⟨v4,rfl,rfl,W⟩;rw[Ol<|by rw[p.len];exact N' _]at W;refine⟨_,rfl,(bu l rfl ?_)⟩;unfold j8 at q;rw[W]at q;exact q
theorem ED{c d:Type}{f:c->d}(e:∀a b,f a=f b->a=b){l:ab c}(h:l.Nodup):(l.map f).Nodup:=Wp f (λa b H z=>H<|e a b z) h
theorem EE(h:H D=gV (.lst y)):Kept H (upd H D<|.lst Z):=λb o n e=>by
 have a:b≠D:=λz=>by
  rw[z,h]at e;rwa[<-Oy e]at n
 rwa[ag a]
theorem Kept.trans(a:Kept H d)(b:Kept d e):Kept H e:=λc o n h=>b c o n<|a c o n h
theorem OwnE.mono(h:OwnE H e t)(k:Kept H a):OwnE a e t:=by
 obtain⟨T,r,b,c,d⟩:=h;exact⟨T,r,k _ _ trivial b,k _ _ trivial c,d.mono k⟩
theorem yY:∀{s:ab (bj×V)} {j:Nat} {k:bj×V},(s.map (·.1)).Nodup->s[j]?=gV k->b9 s k.1=gV k.2
 |[],_,_,_,h=>by simp at h
 |p::r,0,k,_,h=>by
  have e:p=k:=by simpa using h
  subst e;exact cy rfl
 |p::r,j+1,k,n,h=>by
  rw[OU,PF]at n;have H:r[j]?=gV k:=by assumption
  have U:¬p.1=k.1:=λe=>n.1<|e▸Qr (N5 H);rw[cm U];exact yY n.2 H
theorem vk:∀{s:ab (bj×V)} {k:bj},k∉s.map (·.1)->b9 s k=Oa
 |[],_,_=>rfl
 |p::r,k,h=>by
  rw[OU,OC,not_or]at h;rw[cm λe=>h.1 e.symm];exact vk h.2
structure Pairs (H:Hp)(es:ab dg)(ts:ab J')(kvs:ab (bj×V)):Prop where
 tl:ts.length=es.length
 ks:kvs.map (·.1)=es.map λe=>(Pb e.1:bj)
 tup:∀(j:Nat) (t:J') (kv:bj×V),ts[j]?=gV t->kvs[j]?=gV kv->H t=gV (.tup [kV kv.1,kv.2])
 own:∀(j:Nat) (e:dg),es[j]?=gV e->∃te,kvs[j]?=gV (Pb e.1,.ref te)/\OwnE H e te
theorem Pairs.kl(h:Pairs H e t k):k.length=e.length:=by
 have:=Pa Qw h.ks;simpa using this
theorem Pairs.snoc(h:Pairs H E T s)(k:Kept H g)(p:g t=gV (.tup [.int e.1,.ref i]))(q:OwnE g e i):Pairs g (E++[e]) (T++[t]) (s++[(Pb e.1,.ref i)]):=by
 have l:=h.kl;refine⟨by simp[h.tl],by simp[h.ks],λj r v c f=>?_,λj u c=>?_⟩
 ·by_cases d:j<T.length
  ·rw[OV d]at c;rw[OV<|by rwa[l,<-h.tl]]at f;exact k _ _ trivial<|h.tup j r v c f
  have m:=(N8.mp c).1;rw[N9,OL]at m;have n:j=T.length:=by lia
  subst n;rw[OP<|N' _,P3]at c;rw[OP (by rw[l,h.tl];exact N' _),l,h.tl,P3]at f;cases c;cases f;exact p
 by_cases d:j<E.length
 ·rw[OV d]at c;obtain⟨o,a,b⟩:=h.own j u c;exact⟨o,by rwa[OV<|by simp_all],b.mono k⟩
 have m:=(N8.mp c).1;simp_all
theorem Pairs.player(h:Pairs H E T k)(N:(E.map (·.1)).Nodup)(f:H x=gV (.ins C D [("entries",.ref d)]))(g:H d=gV (.dK k)):PlayerAt H C x E/\(k.map (·.1)).Nodup:=by
 have n:(k.map (·.1)).Nodup:=by
  rw[h.ks];have e:(E.map λe=>(Pb e.1:bj))=(E.map (·.1)).map Pb:=by rw[OY];rfl
  rw[e];exact ED (λy y z=>Rx z) N
 refine⟨⟨D,d,k,f,g,λv i=>vk ?_,λe c=>?_⟩,n⟩
 ·rw[h.ks];intro m;obtain⟨e,c,l⟩:=OK.mp m;exact i e c<|Rx l
 obtain⟨j,o⟩:=P4.mp c;obtain⟨t,a,b⟩:=h.own j e o;exact⟨t,yY n a,b⟩
inductive yZ (D:J')(H:Hp)(es:ab dg)(i:Nat)(a:ab (M' V))(ys:ab V)(h:Hp):Prop
 |mk (I:(∃v,a=[v]))(b:h D=gV (.lst ys))(c:Same H h)(t:ab J')(k:ab (bj×V))(d:ys=t.map V.ref)(e:Pairs h (es.take i) t k)
theorem Hg(F:Fun K "__init__" "Planned.__init__" IC f fd)(T:KO K mg X):aA P w K mg aC bw 1 f fd ["self","plan"] (w9 X):=by
 refine F.okB (N:=["self","plan"]) λQ_ A an s H vs Q E sc hr h=>?_;obtain⟨x,dx,l,u,xs,G,rfl,h1,h2,h3,nd,e9,r9,q⟩:=h;exists _,(ax<|kn (pv 0) (bF (jc rfl) rfl T.dict UB<|fV<|gS ["entry"] [Oa] (aH<|pv 1) (e:=λS S S S=>(dI<|oe (CI (K:=K) (pv 0) bW)<|dI<|oe (bF (nN (K:=K) rfl) rfl T.tuple P2<|fV<|CI (K:=K) (pv 0) bW)<|CI (K:=K) (pv 0) bW))) rfl);refine⟨_,rfl,l,rfl,⟨_,SqL.of h2⟩,λD hD=>?_⟩;refine bv (K:=K) (a:=l) (xs:=xs) (yZ D H u)
  ⟨⟨Oa,rfl⟩,aa,ad hD _,[],[],rfl,⟨rfl,rfl,λj t kv e=>by grind,λj e e1=>by simp_all⟩⟩ ?_ ?_ ?_
 ·rintro i σ ys v S ⟨S,Y,k,S⟩;exact⟨Y,SqL.of<|k _ _ h2⟩
 ·rintro i y σ ys v hy ⟨⟨v0,rfl⟩,Y,k,B,a,rfl,c⟩;obtain⟨e,he,p,lr,O,rfl,p1,p2,p3,S⟩:=h3.at_ i y hy;have I:=k _ _ p1;have as:=k _ _ p2;have RH:i<u.length:=(N8.mp he).1;have et:u.take (i+1)=u.take i++[e]:=by rw[OM,he];rfl
  refine bV ⟨_,rfl,(bu I rfl ⟨_,rfl,(bu I rfl ⟨lr,_,rfl,.inl ⟨SqL.of as,λm Z=>?_⟩⟩)⟩)⟩;refine⟨_,rfl,(bu (ad Z _ _ _ I) rfl ⟨(by show 2<=sizeLine;decide),λn ac=>⟨(by show 2<=sizeLine;decide),λU J=>?_⟩⟩)⟩;have L:=ad Z<|.tup O;have M:=@aa v m (.tup O);generalize upd v m (.tup O)=N at L M ac J ⊢;have k4:=ad ac<|.tup [.ref m,.bl e.2.2];have s4:=@aa N n (.tup [.ref m,.bl e.2.2]);generalize upd N n (.tup [.ref m,.bl e.2.2])=H4 at k4 s4 J ⊢;have k5:=ad J<|.tup [.int e.1,.ref n];have s5:=@aa H4 U (.tup [.int e.1,.ref n]);generalize upd H4 U (.tup [.int e.1,.ref n])=H5 at k5 s5 ⊢;have g:=L.trans<|k4.trans k5;have am:=g _ _ Y;have kd:=EE (Z:=(B++[U]).map V.ref) am;refine⟨am,?_,⟨_,rfl⟩,aa,?_,B++[U],a++[(Pb e.1,.ref n)],by simp,?_⟩
  ·rw[A',c.tl,OJ];exact ap (by grind)
  ·exact(k.trans g).upd_new hD _
  rw[et];have e1:B.map V.ref++[V.ref U]=(B++[U]).map V.ref:=by simp
  rw[e1];exact c.snoc ((Same.kept g).trans kd) (kd _ _ trivial s5) ⟨m,O,kd _ _ trivial<|k5 _ _ s4,kd _ _ trivial<|k5 _ _<|k4 _ _ M,(p3.mono<|Same.kept<|k.trans g).mono kd⟩
 rintro σ ys v ⟨S,Y,k,B,a,rfl,c⟩;rw[Ol<|by rw[h3.len];exact N' _]at c;have x2:=k _ _ h1;refine⟨D,B,a,rfl,Y,by rw[c.kl,c.tl],c.tup,?_,by rw[c.kl];exact Pm e9 (by simp),λW av=>?_⟩
 ·have e:(u.map λe=>(Pb e.1:bj))=(u.map (·.1)).map Pb:=by rw[OY];rfl
  rw[c.ks,e];exact ED (λS S z=>Rx z) nd
 have L:=ad av<|.dK a;have M:=@aa v W (.dK a);generalize upd v W _=N at L M ⊢;have x3:=L _ _ x2;have U5:W≠x:=λz=>by lia
 exists _,rfl,x,X,dx,[],rfl,x3,T.cl,T.ne,(by simp);have kx:∀b o,b≠x->N b=gV o->upd N x (.ins X dx [("entries",.ref W)]) b=gV o:=λb o hb e=>by rwa[ag hb]
 refine q _ ?_ λb o hb e=>kx b o hb<|L _ _<|k _ _ e;have az:Pairs (upd N x<|.ins X dx [("entries",.ref W)]) u B a:=by
  have kk:∀b o,(∀C d fs,o≠.ins C d fs)->v b=gV o->upd N x (.ins X dx _) b=gV o:=λb o ho e=>kx b o (by grind) (L _ _ e)
  refine⟨c.tl,c.ks,λj t kv a1 a2=>kk _ _ (by lia)<|c.tup j t kv a1 a2,λj e a1=>?_⟩;obtain⟨n,b1,m,O,c1,c2,c3⟩:=c.own j e a1;refine⟨n,b1,m,O,kk _ _ (by lia) c1,kk _ _ (by lia) c2,c3.len,λi y hy=>?_⟩;obtain⟨r,d1,qa,sv,rfl,d2,d3⟩:=c3.at_ i y hy;exact⟨r,d1,qa,sv,rfl,kk _ _ (by lia) d2,kk _ _ (by lia) d3⟩
 exact(az.player nd aa<|kx _ _ U5 M).1
noncomputable def fo(E:ab dg)(i:Nat)(b:ab Oe):Oe:=match E.find? λe=>decide (e.1=1+(i:Int))with
 |some e=>j8 e.2.1 b e.2.2
 |none=>Oc
noncomputable def dU(t:Str)(h:Oe)(i:Nat):Oe:=cu t i == h
noncomputable def dQ(e:ab dg)(t:Str)(h:Oe)(i:Nat)(st:ab Oe×ab Oe):ab Oe×ab Oe:=if dU t h i=N7 then(st.1++[fo e i st.1],st.2)else(st.1++[st.2.headD Oc],st.2.tail)
noncomputable def bZ(e:ab dg)(t:Str)(h:Oe)(os:ab Oe):Nat->ab Oe×ab Oe
 |0=>([],os)
 |i+1=>dQ e t h i<|bZ e t h os i
noncomputable def gO(t:Str)(h:Oe)(i:Nat):Nat:=((O7 i).filter λi=>!dU t h i).length
theorem gx(t:Str)(h:Oe)(i:Nat):gO t h (i+1)=gO t h i+(if dU t h i=N7 then 0 else 1):=by
 unfold gO;rw[Rb,P5,N9];cases g:dU t h i with
 |true=>simp_all
 |false=>rw[P'<|by rw[g];rfl];rfl
theorem AQ(t:Str)(H:Oe)(h:i<=j):gO t H i<=gO t H j:=by
 induction j with
 |zero=>simp_all
 |succ j I=>
  obtain g|g:=QZ i (j+1)
  ·rw[gx];lia
  rw[show i=j+1 by exact h7 h g];exact N' _
theorem y6(t:Str)(h:Oe)(i:Nat):gO t h i<=i:=by
 unfold gO;have:=Po (λi=>!dU t h i)<|O7 i;simp_all
theorem eJ(e:ab dg)(t:Str)(h:Oe)(os:ab Oe):∀i,(bZ e t h os i).1.length=i
 |0=>rfl
 |i+1=>by
  have I:=eJ e t h os i;show(dQ e t h i<|bZ e t h os i).1.length=i+1
  unfold dQ
  split
  ·rw[N9,I];rfl
  rw[N9,I];rfl
theorem qX(e:ab dg)(t:Str)(h:Oe)(os:ab Oe):∀i,(bZ e t h os i).2.length=os.length-gO t h i
 |0=>rfl
 |i+1=>by
  have I:=qX e t h os i;show(dQ e t h i<|bZ e t h os i).2.length=_
  rw[gx];unfold dQ
  split
  ·exact I
  rw[List.length_tail,I];rfl
noncomputable def j9(e:ab dg)(t:Str)(h:Oe):Nat->Nat->ab Oe->ab Oe->ab Oe
 |0,_,b,_=>b
 |f+1,i,b,r=>j9 e t h f (i+1) (dQ e t h i (b,r)).1 (dQ e t h i (b,r)).2
theorem y8(e:ab dg)(t:Str)(h:Oe)(os:ab Oe):∀f i,j9 e t h f i (bZ e t h os i).1 (bZ e t h os i).2=(bZ e t h os<|i+f).1
 |0,_=>rfl
 |f+1,i=>by
  show j9 e t h f _ (bZ e t h os<|i+1).1 (bZ e t h os<|i+1).2=_
  rw[y8 e t h os f<|i+1,show i+1+f=i+(f+1) by exact VT _ _ _]
noncomputable def dh(e:ab dg)(t:Str)(h:Oe)(U:ab Oe->Oe):Nat->Nat->ab Oe->ab Oe->M' (ab Oe)
 |0,_,b,o=>if U b=N7 then gV o else Oa
 |f+1,i,b,o=>if dU t h i=N7 then dh e t h U f (i+1) (b++[fo e i b]) o else(dh e t h U f (i+1) (b++[Oc])<|o++[Oc]).or (dh e t h U f (i+1) (b++[N7])<|o++[N7])
noncomputable def iQ:Nat->ab (ab Oe)
 |0=>[[]]
 |m+1=>(iQ m).map (Oc::·)++(iQ m).map (N7::·)
noncomputable def pO(t:Str)(h:Oe):Nat->Nat->Nat
 |0,_=>0
 |f+1,i=>pO t h f (i+1)+(if dU t h i=N7 then 0 else 1)
theorem EF(t:Str)(h:Oe):∀f i,gO t h i+pO t h f i=gO t h (i+f)
 |0,_=>rfl
 |f+1,i=>by
  have I:=EF t h f<|i+1;rw[gx]at I;show gO t h i+(pO t h f _+_)=_
  lia
theorem o_{b c:Type}(g:b->c)(p:c->Oe):∀l:ab b,(l.map g).find? p=(l.find? λx=>p<|g x).map g
 |[]=>rfl
 |a::l=>by
  rw[OU,P8,P8];cases p _ with
  |true=>rfl
  |false=>exact o_ g p l
theorem iO(E:ab dg)(t:Str)(h:Oe)(U:ab Oe->Oe):∀f i B O,dh E t h U f i B O=((iQ<|pO t h f i).find? λr=>U<|j9 E t h f i B r).map (O++·)
 |0,i,B,O=>by
  show(if U B=N7 then gV O else Oa)=(abQ (λr=>U B) [[]]).map _
  simp
 |f+1,i,B,O=>by
  show(if dU t h i=N7 then dh E t h U f _ _ O else(dh E t h U f _ _<|O++[Oc]).or _)
   =((iQ<|pO t h f _+(if dU t h i=N7 then 0 else 1)).find? λr=>U<|j9 E t h f _ _ _).map _
  unfold dQ;cases g:dU t h i with
  |true=>
   exact iO E t h U f _ _ O
  |false=>
   simp only[OX,RI];rw[iO E t h U f _ _ _,iO E t h U f _ _ _];show _=(abQ _ ((iQ<|pO t h f<|i+1).map _++(iQ<|pO t h f<|i+1).map _)).map _
   rw[S7,o_,o_];have e:∀b:Oe,∀o:M' _,o.map ((O++[b])++·)=(o.map (b::·)).map (O++·):=λb o=>by
    cases o with
    |none=>rfl
    |some r=>simp
   rw[e,e];show _=x9 _ ((((iQ<|pO t h f<|i+1).find? λr=>U<|j9 E t h f _ (B++[Oc]) r).map _).or (((iQ<|pO t h f<|i+1).find? λr=>U<|j9 E t h f _ (B++[N7]) r).map _))
   grind
noncomputable def pd(m x:Nat):ab Oe:=(O7 m).map λk=>decide (x/2^(m-1-k)%2=1)
theorem qY(b:Oe)(h:x<2^m):pd (m+1) (if b=N7 then 2^m+x else x)=b::pd m x:=by
 unfold pd;rw[Xk,OU,OY];have p:=Vi m;refine List.cons_eq_cons.mpr ⟨?_,QQ λk H=>?_⟩
 ·rw[show m+1-1-0=m by lia];cases b with
  |true=>
   rw[Ox rfl,Nat.add_div_left _ p,WR h];rfl
  |false=>
   rw[Ov Om,WR h];rfl
 have U:=PY.mp H;show decide _=decide _
 rw[show m+1-1-(k+1)=m-1-k by lia];cases b with
 |false=>rfl
 |true=>
  rw[Ox rfl];have e:2^m=2^(m-1-k)*(2*2^k):=by
   rw[<-Nat.pow_succ',<-Nat.pow_add]
   congr 1
   omega
  rw[e,Nat.mul_add_div<|Vi _,Nat.mul_add_mod]
theorem qZ:∀m,iQ m=(O7 (2^m)).map (pd m)
 |0=>rfl
 |m+1=>by
  have i:=qZ m;show(iQ m).map _++(iQ m).map _=_
  have e:O7 (2^(m+1))=O7 (2^m)++(O7 (2^m)).map (2^m+·):=by
   rw[show 2^(m+1)=2^m+2^m by rw[Rw];lia,List.range_add]
  rw[e,OI,i,OY,OY,OY]
  congr 1
  ·refine QQ λx h=>?_;have:=qY Oc<|PY.mp h;simp_all
  refine QQ λx h=>?_;have:=qY N7<|PY.mp h;simp_all
theorem pe:∀m,∀r∈iQ m,r.length=m
 |0,r,h=>by rw[Oi.mp h];rfl
 |m+1,r,h=>by
  obtain w|w:=OH.mp h
  ·obtain⟨z,H,rfl⟩:=OK.mp w;rw[OE,pe m z H]
  obtain⟨z,H,rfl⟩:=OK.mp w;rw[OE,pe m z H]
theorem EG(E:ab dg)(t:Str)(h:Oe)(U:ab Oe->Oe)(n:Nat):dh E t h U n 0 [] []=(iQ<|gO t h n).find? λr=>U (bZ E t h r n).1:=by
 rw[iO];have e:=EF t h n 0;have a:gO t h 0=0:=rfl;rw[a]at e;have b:(λr=>U<|j9 E t h n 0 [] r)=λr=>U (bZ E t h r n).1:=by
  funext r
  have:=y8 E t h r n 0;rw[Qq]at this;exact Pa U this
 simp_all
inductive OptAt (H:Hp):M' (ab Oe)->V->Prop
 |no:OptAt H Oa .non
 |yes (a:J') (r:ab Oe) (h:H a=gV (.lst<|r.map V.bl)):OptAt H (gV r) (.ref a)
structure PlanOk (es:ab dg)(t:Str)(hw:Oe):Prop where
 has:∀i,i<t.length->dU t hw i=N7->∃e,es.find? (λe=>decide (e.1=1+(i:Int)))=gV e/\e∈es/\e.1=1+(i:Int)
 near:∀e∈es,∃i:Nat,i<t.length/\e.1=1+(i:Int)/\Near i e.2.1
theorem PlanOk.nearAt{E:ab dg}{t:Str}{H:Oe}(h:PlanOk E t H){e:dg}{i:Nat}(a:e∈E)(b:e.1=1+(i:Int)):Near i e.2.1:=by
 obtain⟨j,z,c,n⟩:=h.near e a;have:j=i:=by lia
 rwa[<-this]
noncomputable def tu(e:ab dg)(t:Str)(h:Oe):Nat->ab Oe->ab Oe
 |0,b=>b
 |f+1,b=>if dU t h b.length=N7 then tu e t h f (b++[fo e b.length b])else b
noncomputable def K1(e:ab dg)(t:Str)(h:Oe)(b:ab Oe):ab Oe:=tu e t h (t.length-b.length) b
theorem EH(e:ab dg)(t:Str)(h:Oe):∀f b,b.length<=(tu e t h f b).length/\(tu e t h f b).length<=b.length+f
 |0,b=>⟨N' _,N' _⟩
 |f+1,b=>by
  unfold tu
  split
  ·have i:=EH e t h f<|b++[fo e b.length b];grind
  simp
theorem y9(E:ab dg)(t:Str)(h:Oe)(U:ab Oe->Oe):∀f b o,dh E t h U f b.length b o=
  if(tu E t h f b).length=b.length+f then(if U (tu E t h f b)=N7 then gV o else Oa)
  else(dh E t h U (b.length+f-(tu E t h f b).length-1) ((tu E t h f b).length+1) (tu E t h f b++[Oc])<|o++[Oc]).or
   (dh E t h U (b.length+f-(tu E t h f b).length-1) ((tu E t h f b).length+1) (tu E t h f b++[N7])<|o++[N7])
 |0,b,o=>by
  show(if U b=N7 then gV o else Oa)=if b.length=b.length then(if U b=N7 then gV o else Oa)else _
  simp
 |f+1,b,o=>by
  show(if dU t h _=N7 then dh E t h U f _ _ o else(dh E t h U f _ _<|o++[Oc]).or _)=_
  cases g:dU t h _ with
  |true=>
   have e:tu E t h (f+1) b=tu E t h f (b++[fo E b.length b]):=by
    show(if dU t h _=N7 then _ else _)=_
    simp_all
   rw[e];have i:=y9 E t h U f (b++[fo E b.length b]) o;have l:(b++[fo E b.length b]).length=b.length+1:=by rw[N9];rfl
   rwa[l,show b.length+1+f=b.length+(f+1) by exact VT _ _ _]at i
  |false=>
   have e:tu E t h (f+1) b=b:=by
    show(if dU t h _=N7 then _ else _)=_
    simp_all
   simp_all
theorem sQ(h:b.length+f=t.length):K1 e t H b=tu e t H f b:=by
 unfold K1;grind
noncomputable abbrev y_:PQ:=cD 68
noncomputable abbrev za:PQ:=cD 69
inductive pf (vs:ab V)(H:Hp)(Q:VK)(E:XK):Prop
 |mk (p q:J')(t:Str)(xs:ab V)(cs:ab (ab Int))(h0:vs=[.ref p])(a:H p=gV (.tup [.str t,.ref q]))(b:H q=gV (.lst xs))(c:CLs H cs xs)(d:MU 0 t.length cs)(e:WS t)(f:t.length<=8)(g:∀(p:J') (xs:ab V) (h:Hp),Same H h->h p=gV (.lst xs)->xs.length=t.length+1->LV h p t cs 0 xs->Q (.ref p) h)
inductive ph (vs:ab V)(H:Hp)(Q:VK)(E:XK):Prop
 |mk (p q:J')(t:Str)(xs:ab V)(cs:ab (ab Int))(h0:vs=[.ref p])(a:H p=gV (.tup [.str t,.ref q]))(b:H q=gV (.lst xs))(c:CLs H cs xs)(d:MU 0 t.length cs)(e:WS t)(f:t.length<=8)(g:∀h,Same H h->Q (.str<|aj<|dG t cs t.length 0 0) h)
theorem EI(b x y:Oe):gY (.bl b) [.bl x,.bl y]=if b then(x || y)else !(x&&y):=by
 cases b<;>cases x<;>cases y<;>rfl
theorem MH(h:ch=119\/ch=115):decide (V.str ⟨#[ch]⟩=V.str (Oh "s"))=!decide (ch=119):=by
 obtain rfl|rfl:=h<;>decide+kernel
theorem EJ(b:Oe)(x y:V):kq [x,y] (if b then 1 else 0)=gV (if b then y else x):=by
 cases b<;>rfl
inductive vm (p:J')(t:Str)(q:J')(lv:J')(cs:ab (ab Int))(H:Hp)(i:Nat)(a:ab (M' V))(G:Hp):Prop
 |mk (x:M' V)(X:M' V)(b:M' V)(c:M' V)(d:M' V)(I:a=[gV (.ref p),gV (.str t),gV (.ref q),gV (.int (t.length:Int)),gV (.ref lv),x,X,b,c,d,Oa,Oa,Oa])(e:G lv=gV (.lst ((O7 i).map λm=>V.bl<|dG t cs (t.length-t.length) t.length m)))(f:Same H G)
inductive vn (p:J')(t:Str)(q:J')(lv:J')(i:Nat)(cs:ab (ab Int))(G:Hp)(j:Nat)(a:ab (M' V))(g:Hp):Prop
 |mk (x:M' V)(X:M' V)(b:M' V)(I:a=[gV (.ref p),gV (.str t),gV (.ref q),gV (.int (t.length:Int)),gV (.ref lv),gV (.int (0+(i:Int))),gV (.bl ((cs.take j).all λc=>c.any<|gR t.length i)),x,X,b,Oa,Oa,Oa])(d:g=G)
inductive vo (p:J')(t:Str)(q:J')(lv:J')(i:Nat)(cs:ab (ab Int))(j:Nat)(c:ab Int)(T:J')(G:Hp)(k:Nat)(a:ab (M' V))(g:Hp):Prop
 |mk (x:M' V)(I:a=[gV (.ref p),gV (.str t),gV (.ref q),gV (.int (t.length:Int)),gV (.ref lv),gV (.int (0+(i:Int))),gV (.bl ((cs.take j).all λc=>c.any<|gR t.length i)),gV<|.ref T,gV<|.bl<|(c.take k).any<|gR t.length i,x,Oa,Oa,Oa])(b:g=G)
inductive vp (p:J')(t:Str)(q:J')(l:J')(cs:ab (ab Int))(H:Hp)(j:Nat)(a:ab (M' V))(h:Hp):Prop
 |mk (b:M' V)(c:M' V)(d:M' V)(e:M' V)(f:M' V)(g:M' V)(x:M' V)(X:M' V)(ys:ab V)(i:a=[gV<|.ref p,gV<|.str t,gV<|.ref q,gV<|.int (t.length:Int),b,c,d,e,f,g,gV<|.ref l,x,X])(I:h l=gV (.lst ys))(k:ys.length=j+1)(m:LV h l t cs (t.length-j) ys)(n:Same H h)
inductive vq (p:J')(t:Str)(q:J')(D:J')(X:M' V)(a:M' V)(b:M' V)(c:M' V)(l:J')(k:Nat)(cs:ab (ab Int))(H:Hp)(i:Nat)(d:ab (M' V))(G:Hp):Prop
 |mk (e:M' V)(x:M' V)(I:d=[gV (.ref p),gV (.str t),gV (.ref q),gV (.int (t.length:Int)),gV (.ref D),e,X,a,b,c,gV (.ref l),gV (.int (k:Int)),x])(f:G D=gV (.lst ((O7 i).map λm=>V.bl<|dG t cs (t.length-k) k m)))(g:Same H G)
theorem AR(F:Fun K "_law_levels" "_law_levels" y_ f fd)(T:Bl mg):aA P w K mg a4 bw 1 f fd ["_law_sentence_here"] pf:=by
 refine F.okB (N:=["_law_sentence_here","_law_turns","_law_clauses","_law_count","_law_level","_law_number_here","_law_comes_here","_law_clause","_law_some","_law_literal","_law_levels_here","_law_k","_law_two"]) λQ_ A an s H vs Q E sc hr h=>?_;obtain⟨p,v,t,xs,C,rfl,h1,h2,h3,as,av,h8,q⟩:=h;have p8:∀k,k<=8->2^k<=256:=λk hk=>R9 (by decide) hk;have az:=xJ t.length;have a5:=p8 _ h8;refine⟨_,(ae (A8 (pv 0) gg)
  (ae gg
  (ae gg
  (ae (fS 5 gg (ae gg
   (ae (fS 7 (aH<|pv 2) (ae gg
    (ae (fS 9 (bX<|pv 7) gg)
    gg)))
   gg)))
  (ae gg
  (ae (fS 11 gg (ae gg
   (ae (fS 5 gg gg)
   (ax<|di<|fL Pl XJ PySem.F.type_list_insert zF (pv 10) gg))))
  (dX<|pv 10))))))),?_⟩
 refine⟨_,rfl,p,_,rfl,SqT.of h1,rfl,_,_,rfl,_,_,rfl,rfl,?_⟩;refine⟨_,rfl,.str t,_,rfl,⟨Pu (ap<|Pm h8 (by decide)),rfl⟩,?_⟩;refine⟨OG _,λL W=>?_⟩;have k1:=ad W<|.lst [];have r1:=@aa H L (.lst []);generalize upd H L (.lst [])=H1 at k1 r1;refine⟨_,rfl,_,_,rfl,rfl,⟨VZ _,by lia,by simp⟩,((2^t.length:Nat):Int),by simp,(pw (by simp)<|VZ _),(by omega),?_⟩;refine d9 (lo:=0) (n:=2^t.length) (vm p t v L C H)
  ⟨Oa,Oa,Oa,Oa,Oa,rfl,r1,k1⟩ ?_ ?_
 ·rintro i n G hi ⟨Y,x6,J,M,X,rfl,g,a⟩;refine⟨_,rfl,v,rfl,⟨_,SqL.of<|a _ _ h2⟩,cx (K:=K) (a:=v) (X:=xs)
   (vn p t v L i C G) ⟨_,_,_,rfl,rfl⟩ ?_ ?_ ?_⟩
  ·rintro j n Z _ ⟨_,_,_,_,rfl⟩;exact SqL.of<|a _ _ h2
  ·rintro j x n Z hx ⟨J,M,X,rfl,rfl⟩;obtain⟨c,hc,tc,rfl,Ur⟩:=h3.get hx;have Zz:c∈C:=N5 hc;refine⟨_,rfl,tc,rfl,⟨_,SqT.of<|a _ _ Ur⟩,fK (K:=K) (a:=tc) (X:=c.map V.int)
    (vo p t v L i C j c tc Z) ⟨_,rfl,rfl⟩ ?_ ?_ ?_⟩
   ·rintro k n G3 _ ⟨_,_,rfl⟩;exact SqT.of<|a _ _ Ur
   ·rintro k x n G3 hx ⟨X,rfl,rfl⟩;obtain⟨z,rfl,hz⟩:=cK hx;have aC:=as c Zz z<|N5 hz;have ea:(c.take<|k+1).any (gR t.length i)=((c.take k).any (gR t.length i) || gR t.length i z):=by
     rw[OM,hz,XB];simp
    refine⟨_,rfl,_,rfl,?_⟩;cases ga:(c.take k).any (gR t.length i)with
    |true=>exact aq ⟨_,by rw[ea,ga];rfl,rfl⟩
    |false=>
     refine ao ⟨_,rfl,_,rfl,_,rfl,z,rfl,_,_,rfl,rfl,_,_,rfl,rfl,(by show(0:Int)<=(t.length:Int)-absI z;simp_all),_,_,rfl,rfl,.inl ⟨rfl,_,rfl,_,_,rfl,rfl,.inl ⟨rfl,?_⟩⟩⟩;have eb:=FW (n:=t.length) (N:=i) (z:=z) aC.2 (by lia);rw[Xp];refine⟨gV<|.int z,?_,rfl⟩;rw[ea,ga,RQ,<-eb,Xp];rfl
   rintro n G3 ⟨X,rfl,rfl⟩;rw[A',Ol<|N' _];have e:(C.take<|j+1).all (λc=>c.any<|gR t.length i)=((C.take j).all (λc=>c.any<|gR t.length i)&&c.any (gR t.length i)):=by
    rw[OM,hc,XC];simp
   refine⟨_,rfl,_,rfl,?_⟩;cases ga:(C.take j).all λc=>c.any (gR t.length i)with
   |true=>exact aq ⟨_,rfl,_,_,_,by rw[e,ga];rfl,rfl⟩
   |false=>exact ao ⟨_,_,_,by rw[e,ga];rfl,rfl⟩
  rintro n Z ⟨J,M,X,rfl,rfl⟩;rw[<-h3.length,Ol<|N' _];refine⟨_,rfl,.inl ⟨rfl,_,SqL.of g⟩,_,rfl,L,_,_,rfl,rfl,g,(by rw[A',PB];exact ap<|by grind),?_⟩;refine⟨_,_,_,_,_,rfl,?_,a.upd_new W _⟩;rw[aa,Rb,OI,P3];rfl
 rintro n G ⟨Y,x6,J,M,X,rfl,g,a⟩;have eR:(O7 (2^t.length)).map (λm=>V.bl<|dG t C (t.length-t.length) t.length m)=wk t C t.length:=rfl;rw[eR]at g;refine⟨_,rfl,(by show 1<=sizeLine;decide),λl hl=>?_⟩;have N:L≠l:=af g hl;have kl:Same G (upd G l<|.lst [.ref L]):=ad hl _;have rl:=@aa G l (.lst [.ref L]);have nl:H l=none:=a.free hl;generalize upd G l (.lst [.ref L])=H2 at kl rl;refine⟨_,rfl,_,_,rfl,rfl,_,rfl,_,rfl,(t.length:Int)-1,-1,rfl,by lia,nh (lo:=(t.length:Int)-1)
  (vp p t v l C H)
  ⟨_,_,_,_,_,_,Oa,Oa,[.ref L],rfl,rl,rfl,λd hd=>?_,a.trans kl⟩ ?_ ?_⟩
 ·have:d=0:=by
   exact abd (OG _) hd
  subst this;exact⟨L,rfl,N,kl _ _ g⟩
 ·rintro j n O hj ⟨x4,Y,x6,J,M,X,aF,y,ys,rfl,g,g2,B,k3⟩;have a6:j<t.length:=by simp_all
  obtain⟨k,hk⟩:∃k:Nat,t.length=k+j+1:=⟨t.length-j-1,by lia⟩;have ek:(t.length:Int)-1-(j:Int)=(k:Int):=by simp_all
  have eL:t.length-j=k+1:=by lia
  rw[eL]at B;obtain⟨a0,g4,g5,g6⟩:=B 0 (by simp_all);rw[Xj]at g6;have a7:=p8 k (by lia);have aL:=xJ k;rw[ek];have ac:k<t.cps.toList.length:=by
   rw[OR];show k<t.length
   lia
  have am:=N_ ac;have a1:=av _<|Q4 ac;refine⟨OG _,λD hD=>?_⟩;have k4:=ad hD<|.lst [];have r4:=@aa O D (.lst []);have N:D≠l:=P6<|af g hD;generalize upd O D (.lst [])=H4 at k4 r4;refine⟨_,rfl,_,_,rfl,rfl,⟨by simp,by lia,by simp⟩,((2^k:Nat):Int),by simp,(pw (by simp)<|VZ _),(by lia),?_⟩;refine d9 (lo:=0) (n:=2^k) (vq p t v D x6 J M X l k C O)
   ⟨_,_,rfl,r4,k4⟩ ?_ ?_
  ·rintro i n G hi ⟨Y,y,rfl,d1,a⟩;have get:∀(H':Hp) (m:Nat) (i:Int),Same O H'->m<2^(k+1)->i=(m:Int)->∀R:VK,R (.bl<|dG t C (t.length-(k+1)) (k+1) m) H'->Hz K (.ref a0) (.int i) H' R:=λH' m i k' hm hi R r=>
    (iG (k' _ _ g6) (BW hm hi) r)
   refine⟨_,rfl,(iG (a _ _ g) (aK (j:=0) g4) ⟨_,rfl,_,_,rfl,rfl,.inl (by simp),get G (2*i) _ a (by rw[Rw];lia) (by simp) _ ?_⟩)⟩;refine⟨_,rfl,(iG (a _ _ g) (aK (j:=0) g4) ⟨_,rfl,_,_,rfl,rfl,.inl (by simp),_,_,rfl,rfl,get G (2*i+1) _ a (by rw[Rw];lia) (by simp) _ ?_⟩)⟩;have I:=BX (c:=C) ‹_› i;generalize dG t C (t.length-(k+1)) (k+1) (2*i)=u at I;generalize dG t C (t.length-(k+1)) (k+1) (2*i+1)=U at I;refine⟨(by show 2<=sizeLine;decide),λtw a2=>?_⟩;have k5:=ad a2<|.lst [.bl u,.bl U];have r5:=@aa G tw (.lst [.bl u,.bl U]);have d5:=k5 _ _ d1;generalize upd G tw (.lst [.bl u,.bl U])=Z at k5 r5 d5;refine⟨_,rfl,.inl ⟨rfl,_,SqL.of d5⟩,_,rfl,tw,_,rfl,.inl<|SqL.of r5,rfl,rfl,_,rfl,tw,_,rfl,.inl<|SqL.of r5,rfl,rfl,(by show 2<=sizeLine;decide),λpk a3=>?_⟩;have k6:=ad a3<|.lst [.bl<|gY (.bl N7) [.bl u,.bl U],.bl (!gY (.bl Oc) [.bl u,.bl U])];have r6:=@aa Z pk (.lst [.bl<|gY (.bl N7) [.bl u,.bl U],.bl (!gY (.bl Oc) [.bl u,.bl U])]);have d6:=k6 _ _ d5;change _ at r6;refine⟨_,rfl,_,rfl,.inr<|.inr ⟨t,(k:Int),_,rfl,rfl,Pu (ap<|Pm h8 (by decide)),aK am,.inl ⟨rfl,.inr ⟨_,rfl,(iG r6 (EJ _ _ _) ?_)⟩⟩⟩⟩;rw[MH a1];have ew:decide (t.cps.toList[k]=119)=cu t k:=(wj am).symm;rw[ew];have ev:(if(!cu t k)=N7 then V.bl (!gY (.bl Oc) [.bl u,.bl U])else V.bl (gY (.bl N7) [.bl u,.bl U]))=.bl (dG t C (t.length-k) k i):=by
    rw[I,EI,EI];lia
   rw[ev];refine⟨D,_,_,rfl,rfl,d6,(by rw[A',PB];exact ap<|by lia),?_⟩;refine⟨_,_,rfl,?_,(a.trans<|k5.trans k6).upd_new hD _⟩;rw[aa,Rb,OI];rfl
  rintro n G ⟨Y,y,rfl,d1,a⟩;have eR:(O7 (2^k)).map (λm=>V.bl<|dG t C (t.length-k) k m)=wk t C k:=rfl;rw[eR]at d1;have l1:=a _ _ g;refine⟨_,rfl,.inl ⟨rfl,_,SqL.of l1⟩,_,rfl,l,ys,0,.ref D,rfl,rfl,l1,Um _,by simp,by rw[g2];exact ap (by lia),?_⟩;have e3:t.length-(j+1)=k:=by simp_all
  refine⟨_,_,_,_,_,_,_,_,.ref D::ys,rfl,aa,by rw[OE,g2],e3▸LV.cons (lo:=k+1) (B.keep λb o hb U5=>?_) N ?_ rfl,(k3.trans a).upd_new nl _⟩
  ·rw[ag U5];exact a _ _ hb
  rw[ag N];exact d1
 rintro n O ⟨x4,Y,x6,J,M,X,aF,y,ys,rfl,g,g2,B,k3⟩;have eN:((t.length:Int)-1 - -1).toNat=t.length:=by simp
 rw[eN]at g2 B;rw[P3]at B;exact⟨_,rfl,q l ys O k3 g g2 B⟩
theorem AS(F:Fun K "_law_winner" "_law_winner" za f j)(T:Bl m)(n:Fe P w K m b 1 "_law_levels" pf):aA P w K m b bw 2 f j ["_law_sentence_here"] ph:=by
 refine F.okB (N:=["_law_sentence_here"]) λJ A o s H M Q E N O h=>?_;obtain⟨p,u,t,x,C,rfl,v,y,z,g,c,B,q⟩:=h;exists _,gg;refine⟨(by decide),λL d=>?_⟩;have k:=ad d<|.lst [.str<|Oh "spoiler",.str<|Oh "wisher"];have r:=@aa H L (.lst [.str<|Oh "spoiler",.str<|Oh "wisher"]);generalize upd H L (.lst [.str<|Oh _,.str<|Oh _])=U at k r;refine⟨_,rfl,p,u,t,x,C,rfl,k _ _ v,k _ _ y,z.mono k,g,c,B,λl Y W i G X D=>?_⟩;obtain⟨a,I,e⟩:=D.at (d:=0) (by simp_all) rfl;exact(iG G I<|iG e rfl<|.inr ⟨_,rfl,OD.hand_at (i _ _ r) _<|q _<|k.trans i⟩)
noncomputable abbrev ID:PQ:=cD 15
noncomputable abbrev EK:PQ:=cD 16
def EL:Sp:=λv H Q _=>∃(p f:J') (c:ab Int) (b:ab Oe),v=[.ref p,.ref f]/\H p=gV (.tup<|c.map V.int)/\H f=gV (.lst<|b.map V.bl)/\b.length<=900/\c.length<=900/\(∀l∈c,1<=absI l)/\∀h:Hp,Same H h->Q (.bl<|c.any<|hit b) h
def sR:Sp:=λs H Q _=>∃(v:V) (f:J') (t:Str) (C:ab (ab Int)) (b:ab Oe),s=[v,.ref f]/\RD H (jz t C) v/\H f=gV (.lst<|b.map V.bl)/\b.length<=900/\qi C/\(∀c∈C,∀l∈c,1<=absI l)/\∀h:Hp,Same H h->Q (.bl<|C.all λc=>c.any<|hit b) h
theorem Hh(F:Fun K "some_stands" "some_stands" ID f e)(T:Bl m)(i:Fe P w K m b 1 "stands_by" jV):aA P w K m b bw 2 f e ["clause","filling"] EL:=by
 refine F.okB (N:=["clause","filling"]) λy A o s H C Q E G I h=>?_;obtain⟨p,g,c,B,rfl,a,j,n,t,U,q⟩:=h;exists _,(dX<|aI (m9 rfl) rfl T.any UM<|fV<|gS ["literal","filling"] [Oa,gV 1]<|bX<|pv 0);refine⟨_,rfl,p,rfl,⟨_,SqT.of a⟩,λD d=>bG [gV<|.ref g] _ (E_ λl=>cO B (absI l) (decide (0<l))) rfl a d (by rw[A'];exact Pm t (by decide)) (λZ Z Z Z Z r=>r) ?_ ?_⟩
 ·intro x u Z J R k r;obtain⟨z,v,rfl⟩:=bK u;exact⟨_,rfl,_,rfl,z,g,B,rfl,k _ _ j,n,U z v,r⟩
 rw[wg,OY];refine⟨D,_,rfl,SqL.of aa,?_,?_⟩
 ·exact ui c B
 rw[wl c B U];exact q _<|ad d _
theorem EM(F:Fun K "comes_true" "comes_true" EK f J)(T:Bl M)(L:Fe P w K M B 2 "some_stands" EL):aA P w K M B bw 3 f J ["sentence","filling"] sR:=by
 refine F.okB (N:=["sentence","filling"]) λQ_ A o s H vs Q E sc hr h=>?_;obtain⟨v,g,t,C,j,rfl,N,O,U,m,W,q⟩:=h;obtain⟨p,l,X,rfl,h1,n,r⟩:=fY N;exists _,(dX<|aI (g_ rfl) rfl T.all RZ<|fV<|gS ["clause","filling"] [Oa,gV 1]<|aH gg);refine⟨_,rfl,(bu h1 rfl ⟨l,rfl,⟨_,SqL.of n⟩,λD u=>?_⟩)⟩;refine bv (K:=K) (a:=l) (xs:=X) (λi d y a=>(∃z,d=[z,gV<|.ref g])/\y=(C.take i).map (λc=>V.bl<|c.any<|hit j)/\a D=gV (.lst y)/\Same H a) ⟨⟨Oa,rfl⟩,rfl,aa,ad u _⟩ ?_ ?_ ?_
 ·rintro i d y a S ⟨S,S,h,k⟩;exact⟨h,SqL.of<|k _ _ n⟩
 ·rintro i x d y a hx ⟨⟨z,rfl⟩,b,Y,k⟩;obtain⟨c,G,tc,rfl,Ur⟩:=r.get hx;have Z:=N5 G;have e:C.take (i+1)=C.take i++[c]:=by rw[OM,G];rfl
  refine bV ⟨_,rfl,_,rfl,tc,g,c,j,rfl,k _ _ Ur,k _ _ O,U,m.2 c Z,W c Z,λH3 I=>⟨I _ _ Y,?_,⟨_,rfl⟩,?_,aa,(k.trans I).upd_new u _⟩⟩
  ·have:y.length<=C.length:=by
    rw[b,A',OJ];exact Tp _ _
   exact ap (by have:=m.1;lia)
  rw[e,OI,<-b];rfl
 rintro d y a ⟨S,b,Y,k⟩;rw[Ol<|by rw[r.length];exact N' _]at b;refine⟨D,y,rfl,SqL.of Y,?_,?_⟩
 ·rw[b,Sb];exact Pc.mpr λS S=>rfl
 have e:y.all gG=C.all λc=>c.any (hit j):=by
  rw[b,Sb];rfl
 rw[e];exact q a k
noncomputable def gy(t:Str)(h:Oe)(d:ab Oo)(o:ab (ab Int)):ab dg:=(vi t h d o).map λe=>(e.1,e.2,Oc)
theorem EN(h:n9 d=gV i):∃z,d=.tuple [.str ay,.int z]/\z.toNat=i:=by
 unfold n9 at h;split at h
 ·split at h
  ·rename_i e;subst e;exact⟨_,rfl,Oy h⟩
  cases h
 cases h
theorem q_(x:∀c∈C,al t.length c)(n:aY t C w [] d=(o,N7))(h:r∈bi w d o v d.length):Ups r.1/\r.1.length<=t.length/\∀l∈r.1,1<=absI l/\absI l<v:=by
 have H:∀c∈o,al t.length c:=by
  have:=eQ (w:=w) x (D:=d) (s:=[]) (λ_ h=>nomatch h);rwa[n]at this
 obtain⟨k,y,A⟩:=wy h;obtain⟨l,B,rfl⟩:=OK.mp A;obtain⟨b,p⟩:=OF.mp B;unfold b8 at b
 split at b
 ·rename_i i e;obtain⟨z,D,F⟩:=EN e;obtain⟨j,rfl,Q,G,q⟩:=rN n (by rw[<-D];exact getD_some y);have E:j=i:=by rw[<-F,O8]
  subst E;obtain⟨I,f⟩:=OF.mp b;have f:l∉o.getD k []:=by grind
  have J:fC t w (o.getD j [])<absI l:=by
   refine WV λg=>f ?_;rw[q];exact OF.mpr ⟨I,On g⟩
  have ok:=eP H G;have s:∀L∈o.getD k [],1<=absI L/\absI L<v:=λL g=>by
   have M:=(ok.2 L g).1;rw[q]at g;have U:=OO (OF.mp g).2;exact⟨M,by lia⟩
  have u:=aM ok;unfold lO
  split
  ·exact⟨ok.1,u,s⟩
  have N:∀z,absI (-z)=absI z:=λz=>by
   obtain⟨_,e⟩|⟨_,e⟩:=au z<;>obtain⟨_,m⟩|⟨_,m⟩:=au (-z)<;>lia
  refine⟨?_,by rwa[A'],λL g=>?_⟩
  ·unfold Ups;rw[OY,show absI∘(λz=>-z)=absI from funext N];exact ok.1
  grind
 simp_all
theorem lq(h:e∈gy t H d o):∃i,i<t.length/\cu t i=H/\e=(1+(i:Int),bi H d o (1+(i:Int)) d.length,Oc):=by
 obtain⟨E,f,rfl⟩:=OK.mp h;obtain⟨v,g,rfl⟩:=OK.mp f;obtain⟨a,b,c⟩:=eH.mp g;refine⟨(v-1).toNat,by lia,c,?_⟩;rw[OD.eix a]
theorem pi(b:i<t.length)(a:cu t i=h):(gy t h d o).find? (λe=>decide (e.1=1+(i:Int)))=gV (1+(i:Int),bi h d o (1+(i:Int)) d.length,Oc):=by
 cases H:(gy t h d o).find? _ with
 |none=>
  refine absurd (On rfl)<|Rq.mp H (1+(i),bi h d o (1+(i)) d.length,Oc) ?_;refine OK.mpr ⟨(1+(i),bi h d o _ _),OK.mpr ⟨1+(i),eH.mpr ⟨by lia,by lia,?_⟩,rfl⟩,rfl⟩;grind
 |some e=>
  obtain⟨j,z,z,rfl⟩:=lq<|QN H;have E:=OO<|XA (p:=λe:dg=>decide (e.1=1+(i))) H;simp_all
theorem EO(p:t.length<=900)(f:∀c∈C,al t.length c)(g:aY t C H [] d=(o,N7)):PlanOk (gy t H d o) t H:=by
 refine⟨λi h j=>?_,λe k=>?_⟩
 ·have e:=pi (d:=d) (o:=o) h<|eq_of_beq j;exact⟨_,e,QN e,rfl⟩
 obtain⟨i,h,z,rfl⟩:=lq k;refine⟨i,h,rfl,λr m=>?_⟩;obtain⟨z,a,b⟩:=q_ f g m;lia
theorem pj(E:ab dg)(t:Str)(H:Oe)(os:ab Oe):∀m i,i<=m->(bZ E t H os m).1.take i=(bZ E t H os i).1
 |m,i,h=>by
  induction m with
  |zero=>
   rw[aee.mp h];rfl
  |succ m I=>
   by_cases e:i=m+1
   ·rw[e];exact Ol (by rw[eJ];exact N' _)
   have l:=eJ E t H os m;rw[<-I<|by exact Wk (abc h e)];show(dQ E t H m<|bZ E t H os m).1.take i=_
   unfold dQ
   split
   ·exact Qv (by lia)
   exact Qv (by lia)
theorem AT{e:ab dg}{t:Str}{H:Oe}{os:ab Oe}{m i:Nat}(h:i<m)(o:dU t H i=N7):(bZ e t H os m).1[i]?=gV (fo e i<|(bZ e t H os m).1.take i):=by
 have a:=pj e t H os m _ h;have b:=pj e t H os m i (by lia);have l:=eJ e t H os i;rw[<-P7 (show i<i+1 by lia),a];show(dQ e t H i<|bZ e t H os i).1[i]?=_
 unfold dQ;simp_all
theorem AU(os:ab Oe)(b:∀c∈C,al t.length c)(d:aY t C h [] D=(o,N7))(e:[]∈o):nX C (bZ (gy t h D o) t h os t.length).1=h:=by
 refine qD b d e (eJ _ _ _ _ _) λi r H a f=>?_;rw[AT H (by unfold dU;simp_all)];unfold fo;rw[pi H a];show gV (j8 _ _ _)=_
 unfold j8;rw[f]
theorem paired_get{b a:Type}{R:b->a->Prop}:∀{l:ab b} {m:ab a} {j:Nat} {y:a},Paired R l m->m[j]?=gV y->∃x,l[j]?=gV x/\R x y:=by
 intro X U i u h e;induction h generalizing i with
 |nil=>cases e
 |cons h t j=>
  cases i with
  |zero=>exact⟨_,rfl,by cases e;exact h⟩
  |succ i=>exact j e
theorem EntAt.mono(h:EntAt H F e x)(k:Same H a):EntAt a F e x:=by
 obtain⟨p,l,r,b,c,d,f,g⟩:=h;exact⟨p,l,r,b,k _ _ c,k _ _ d,f.mono<|Same.kept k,g⟩
theorem EntsAt.mono(h:EntsAt H (λz=>True) E x)(k:Same H a):EntsAt a (λz=>True) E x:=⟨h.len,λi y b=>let ⟨e,A,B⟩:=h.at_ i y b;⟨e,A,B.mono k⟩⟩
theorem pr(t:Str)(h:Oe)(d:ab Oo)(o:ab (ab Int)):(gy t h d o).map (·.1)=aJ t h:=by
 unfold gy vi;rw[OY,OY];exact Tt _
theorem AV(t:Str)(h:Oe)(d:ab Oo)(o:ab (ab Int)):(gy t h d o).length<=t.length:=by
 have:=Pa Qw<|pr t h d o;rw[A']at this;rw[this];exact o8 t h
theorem w_(h:Paired (PartAt H c L) (vi t w d o) X):EntsAt c (λz=>True) (gy t w d o) X:=by
 unfold gy;refine⟨by rw[A'];exact h.length.symm,λi x f=>?_⟩;obtain⟨e,g,p,a,Y,rfl,k,l,b,z,z⟩:=paired_get h f;refine⟨(e.1,e.2,Oc),by simp_all,p,a,Y,rfl,k,l,⟨b.length.symm,λj y m=>?_⟩,trivial⟩;obtain⟨r,n,q,s,rfl,G,u⟩:=paired_get b m;exact⟨r,n,q,s,rfl,G,u⟩
noncomputable abbrev NU:PQ:=cD 48
noncomputable abbrev zb:PQ:=cD 49
noncomputable def AW(C:ab (ab Int))(h:Oe)(b:ab Oe):Oe:=(C.all λc=>c.any<|hit b) != h
theorem Hi(t:Str)(h:Oe)(i:Nat):decide (cu t i=h)=dU t h i:=by
 rfl
theorem vt(b:Oe):decide (V.str (aj b)=V.str (Oh "wisher"))=b:=by
 have z:=c9 b N7;have Z:aj N7=Oh _:=rfl;simp_all
theorem px(b:Oe)(B:ab Oe):B.map V.bl++[V.bl b]=(B++[b]).map V.bl:=by simp
theorem EQ(h:0<n):YH 0 n=gV 0:=by
 unfold YH;simp_all
inductive ER (C:J')(vs:ab V)(H:Hp)(Q:VK)(E:XK):Prop
 |mk (p x b:J')(t:Str)(w:V)(hw:Oe)(es:ab dg)(B:ab Oe)(h0:vs=[.ref p,.str<|aj hw,.ref x,.ref b])(a:H p=gV (.tup [.str t,w]))(c:t.length<=8)(d:PlayerAt H C x es)(e:PlanOk es t hw)(f:H b=gV (.lst<|B.map V.bl))(g:B.length<=t.length)
  (q:∀(l:J') (h:Hp),Same H h->H l=Oa->h l=gV (.lst<|(K1 es t hw B).map V.bl)->Q (.ref l) h):ER C vs H Q E
inductive ES (p x b l:J')(t:Str)(hw:Oe)(es:ab dg)(B:ab Oe)(H:Hp)(m:Nat)(a:St)(h:Hp):Prop
 |mk (c:ab Oe)(i:a=[gV<|.ref p,gV<|.str<|aj hw,gV<|.ref x,gV<|.ref b,gV<|.ref l])(I:h l=gV (.lst<|c.map V.bl))(d:c.length+m=t.length)(e:K1 es t hw B=K1 es t hw c)(f:Same H h)
theorem MJ{W:J'}{Y:Oz}(F:Fun K "played_on" "played_on" NU f Z)(T:Bl M)(ac:Fe P w K M B 1 "hand_of" oh)
  (am:yc P w K M B bw 3 C "answer" W Y ["self","variable","begun"] (EB C)):aA P w K M B bw 4 f Z ["sentence","hand","player","begun"] (ER C):=by
 refine F.okB (N:=["sentence","hand","player","begun","filling"]) λQ_ A O s H vs Q E sc hr h=>?_;obtain⟨p,x,b,t,w,a,i,d,rfl,h1,t8,Xu,k,hb,an,q⟩:=h;refine⟨_,(ae gg
  (ae (jm QX gg
   gg)
  (dX<|pv 4))),?_⟩
 refine⟨_,rfl,b,_,rfl,.inl<|SqL.of hb,λl N=>?_⟩;have y:=ad N<|.lst<|d.map V.bl;have D:=@aa H l (.lst<|d.map V.bl);generalize upd H l (.lst<|d.map V.bl)=H1 at y D ⊢;exists ES p x b l t a i d H,⟨t.length-d.length,d,rfl,D,lB an,rfl,y⟩;rintro m σ I ⟨c,rfl,g,J,G,j⟩;have u:=j _ _ h1;have as:p≠l:=(by lia);refine⟨_,rfl,.ref l,_,rfl,.inl ⟨_,SqL.of g,rfl⟩,_,rfl,(bu u rfl ⟨.str t,_,rfl,⟨Pu (ap<|Pm t8 (by decide)),rfl⟩,_,_,rfl,rfl,_,rfl,?_⟩)⟩;rw[A'];have X:∀{L:Prop},(K1 i t a c=c->L)->(m=0\/dU t a c.length=Oc)->L:=λhq v=>hq (by
  rw[sQ J];obtain rfl|v:=v
  ·rfl
  cases m with
  |zero=>rfl
  |succ m=>
   show(if dU t a c.length=N7 then _ else _)=_
   simp_all)
 cases m with
 |zero=>
  rw[Ob (by lia:¬(c.length:Int)<(t.length:Int))];refine ao<|ao ?_;refine⟨_,rfl,q l I j N ?_⟩;rw[G,X id<|.inl rfl];exact g
 |succ m=>
  rw[On (by lia:(c.length:Int)<(t.length:Int))];refine aq ?_;have U:c.length<t.length:=by lia
  refine⟨_,rfl,_,rfl,.ref l,_,rfl,.inl ⟨_,SqL.of g,rfl⟩,_,_,rfl,rfl,p,t,w,c.length,?_,u,U,Pm t8 (by decide),_,rfl,.inl ⟨rfl,_,rfl,?_⟩⟩
  ·rw[A'];rfl
  rw[c9,Hi];cases go:dU t a c.length with
  |true=>
   obtain⟨e,hf,n,o⟩:=k.has _ U go;have r:=Xu.mono<|Same.kept j;obtain⟨dx,de,av,x1,S,S,S⟩:=id r;have ea:fo i c.length c=j8 e.2.1 c e.2.2:=by
    unfold fo;rw[hf]
   refine aq ⟨ES p x b l t a i d H m,λaz H' z=>⟨m,Tq _,z⟩,?_⟩;refine⟨_,rfl,.inl ⟨rfl,_,SqL.of g⟩,_,rfl,x,dx,_,rfl,x1,rfl,_,rfl,.ref l,_,rfl,.inl ⟨_,SqL.of g,rfl⟩,_,_,rfl,rfl,_,rfl,x,l,i,e,c,(by rw[o,A',Int.add_comm];rfl),r,g,by lia,n,k.nearAt n o,l,_,_,rfl,rfl,g,?_,?_⟩
   ·rw[A'];exact ap (by lia)
   refine⟨c++[j8 e.2.1 c e.2.2],rfl,?_,?_,?_,j.upd_new N _⟩
   ·rw[aa,<-px]
   ·rw[N9];show c.length+1+m=t.length
    exact Eq.trans (VT _ _ _) J
   ·rw[G,sQ J,sQ (f:=m) (by rw[N9];show c.length+1+m=t.length;exact Eq.trans (VT _ _ _) J),<-ea];show(if dU t a _=N7 then _ else _)=_
    rw[go,Ox rfl]
  |false=>
   refine ao ⟨_,rfl,q l I j N ?_⟩;rwa[G,X id<|.inr go]
structure ET (P:Ou)(w:ON)(K:C')(mg:Str->M' K')(base:Pd)(lf:J')(UK:ab Oe->Oe)(n:Nat)(C:Hp->Prop):Prop where
 mono:∀H H',Same H H'->C H->C H'
 obj:∀H,C H->∃o fd,H lf=gV (cY lf o)/\o.data=.func fd
 fn:J7 P w K mg base 4 lf (λvs H Q _=>∃(l:J') (bs:ab Oe),vs=[.ref l]/\C H/\H l=gV (.lst<|bs.map V.bl)/\bs.length=n/\∀H',Same H H'->Q (.bl<|UK bs) H')
inductive xa (P:Ou)(w:ON)(K:C')(mg:Str->M' K')(base:Pd)(c:J')(fu:Nat)(vs:ab V)(H:Hp)(Q:VK)(E:XK):Prop
 |mk (p x lf b o:J')(t:Str)(W:V)(hw:Oe)(es:ab dg)(U:ab Oe->Oe)(C:Hp->Prop)(B O:ab Oe)(h0:vs=[.ref p,.str<|aj hw,.ref x,.ref lf,.ref b,.ref o])(d:H p=gV (.tup [.str t,W]))(t8:t.length<=8)(pl:PlayerAt H c x es)(ok:PlanOk es t hw)
  (L:ET P w K mg base lf U t.length C) (e:C H) (f:H b=gV (.lst<|B.map V.bl)) (g:H o=gV (.lst<|O.map V.bl)) (i:B.length+fu=t.length) (j:O.length<=B.length)
  (q:∀(v:V) (h:Hp),Same H h->OptAt h (dh es t hw U fu B.length B O) v->(∀a,v=.ref a->a=o\/H a=Oa)->Q v h):xa P w K mg base c fu vs H Q E
def mG(P:Ou)(w:ON)(K:C')(m:Str->M' K')(b:Pd)(C:J')(n:Nat):Sp:=λv H Q E=>∃g,g<n/\xa P w K m b C g v H Q E
inductive IE (p x lf b o l:J')(hw:Oe)(es:ab dg)(t:Str)(U:ab Oe->Oe)(f O:ab Oe)(g:Nat)(H:Hp)(j:Nat)(a:St)(h:Hp):Prop
 |mk (v:M' V)(c:M' V)(i:a=[gV<|.ref p,gV<|.str<|aj hw,gV<|.ref x,gV<|.ref lf,gV<|.ref b,gV<|.ref o,gV<|.ref l,v,c])(I:Same H h)(d:(1<=j->dh es t hw U g (f.length+1) (f++[Oc]) (O++[Oc])=Oa))(e:(2<=j->dh es t hw U g (f.length+1) (f++[N7]) (O++[N7])=Oa))
theorem xb{u:Nat}(F:Fun K "first_loss" "first_loss" zb f fd)(T:Bl M)(VI:Fe P w K M e 4 "played_on" (ER CP))
  (XZ:Fe P w K M e (u+6) "first_loss" (mG P w K M e CP u)):aA P w K M e bw (u+7) f fd ["sentence","hand","player","loses","begun","others"] (xa P w K M e CP u):=by
 refine F.okB (N:=["sentence","hand","player","loses","begun","others","filling","value","found"]) λQ_ A an s H vs Q E sc hr h=>?_;obtain⟨p,x,lf,b,o,t,wv,n,D,U,C,m,O,rfl,h1,t8,Xu,J,L,hC,hb,ho,Ql,aL,q⟩:=h;refine⟨_,(ae gg
  (ae (bM gg (dX<|mL (re<|CA (k:=4) (i:=3) (hr.mono<|by simp)<|fV<|pv 6) (pv 5) ke) aN)
  (ae (fS 7 (bX gg) (ae (sT 8<|Fa XZ hr<|aP (pv 0)<|aP (pv 1)<|aP (pv 2)<|aP (pv 3)<|oe (eU mR (pv 6) gg)<|eU mR (pv 5) gg)
   gg))
  (dX ke)))),?_⟩
 refine⟨_,rfl,_,rfl,_,rfl,_,rfl,p,x,b,t,wv,n,D,m,rfl,h1,t8,Xu,J,hb,by lia,λl H1 N nl W=>?_⟩;have g1:=N _ _ h1;rw[sQ Ql]at W;have as:=EH D t n u m;rw[y9]at q;generalize tu D t n u m=c at W as q;refine⟨_,rfl,.ref l,_,rfl,.inl ⟨_,SqL.of W,rfl⟩,_,rfl,(bu g1 rfl ⟨.str t,_,rfl,⟨Pu (ap<|Pm t8 (by decide)),rfl⟩,.inl ⟨rfl,_,rfl,?_⟩⟩)⟩;rw[A'];by_cases hf:c.length=t.length
 ·rw[On (show V.int (c.length:Nat)=V.int (t.length:Nat) by rw[hf])];rw[Ox (show c.length=m.length+u by exact Eq.trans hf (Eq.symm Ql))]at q;obtain⟨ob,av,e1,e2⟩:=L.obj H1<|L.mono _ _ N hC;refine aq ⟨lf,rfl,_,rfl,_,ob,av,L.fn,e1,e2,l,c,rfl,L.mono _ _ N hC,W,hf,λH2 X=>⟨_,rfl,?_⟩⟩;have k:=N.trans X;cases g:U c with
  |true=>
   rw[g,Ox rfl]at q;exact aq ⟨_,rfl,q _ H2 k (.yes o O<|k _ _ ho) λa z=>.inl (V.ref.inj z).symm⟩
  |false=>
   rw[g,Ov Om]at q;exact ao<|q _ H2 k .no λa z=>nomatch z
 rw[Ob (show¬V.int (c.length:Nat)=V.int (t.length:Nat)from λz=>hf (by have:=V.int.inj z;lia))];rw[Ov (show¬c.length=m.length+u by lia)]at q;have eg:c.length+1+(m.length+u-c.length-1)=t.length:=by lia
 have ge:m.length+u-c.length-1<u:=by lia
 generalize m.length+u-c.length-1=g at eg ge q;refine ao ⟨(by show 2<=sizeLine;decide),λa na=>?_⟩;have X:=ad na<|.tup [.bl Oc,.bl N7];have s2:=@aa H1 a (.tup [.bl Oc,.bl N7]);generalize upd H1 a (.tup [.bl Oc,.bl N7])=H2 at X s2 ⊢;have k:=N.trans X;refine⟨a,rfl,⟨_,SqT.of s2⟩,fK (K:=K) (a:=a) (X:=[.bl Oc,.bl N7]) (IE p x lf b o l n D t U c O g H2)
  ⟨Oa,Oa,rfl,Same.refl _,λz=>by simp_all,λz=>by simp_all⟩ ?_ ?_ ?_⟩
 ·rintro j σ Y S ⟨S,S,S,G,S⟩;exact SqT.of<|G _ _ s2
 ·rintro j y σ Y hy ⟨v7,v8,rfl,G,w1,w2⟩;have I:=k.trans G;obtain⟨B,rfl,hj⟩:∃B,y=.bl B/\((j=0/\B=Oc)\/(j=1/\B=N7)):=by
   obtain rfl|rfl:=(by have:=(N8.mp hy).1;simp at this;lia:j=0\/j=1)
   ·simp_all
   simp_all
  refine⟨_,rfl,_,rfl,_,rfl,_,rfl,_,rfl,_,rfl,(by show 1<=sizeLine;decide),λl1 n1=>?_⟩;have k4:=ad n1<|.lst [.bl B];refine⟨l,l1,_,_,rfl,rfl,k4 _ _<|G _ _<|X _ _ W,aa,?_,λl2 n2=>?_⟩
  ·rw[A'];exact Pu<|ap (by show c.length+1<=1000;lia)
  have Z:=k4.trans<|ad n2<|.lst<|c.map V.bl++[.bl B];have s5:upd (upd Y l1<|.lst [.bl B]) l2 (.lst<|c.map V.bl++[.bl B]) l2=gV (.lst<|(c++[B]).map V.bl):=by rw[aa,px]
  generalize upd (upd Y l1<|.lst [.bl B]) l2 (.lst<|c.map V.bl++[.bl B])=H5 at Z s5 ⊢;refine⟨_,rfl,_,rfl,(by show 1<=sizeLine;decide),λl3 n3=>?_⟩;have k6:=ad n3<|.lst [.bl B];refine⟨o,l3,_,_,rfl,rfl,k6 _ _<|Z _ _<|I _ _ ho,aa,?_,λl4 n4=>?_⟩
  ·rw[A'];exact Pu<|ap (by show O.length+1<=1000;lia)
  have az:H5 l4=none:=k6.free n4;have k7:=k6.trans<|ad n4<|.lst<|O.map V.bl++[.bl B];have s7:upd (upd H5 l3<|.lst [.bl B]) l4 (.lst<|O.map V.bl++[.bl B]) l4=gV (.lst<|(O++[B]).map V.bl):=by rw[aa,px]
  generalize upd (upd H5 l3<|.lst [.bl B]) l4 (.lst<|O.map V.bl++[.bl B])=H7 at k7 s7 ⊢;have i:=I.trans<|Z.trans k7;refine⟨g,ge,p,x,lf,l2,l4,t,wv,n,D,U,C,c++[B],O++[B],rfl,i _ _ h1,t8,Xu.mono<|Same.kept i,J,L,L.mono _ _ i hC,k7 _ _ s5,s7,(by rw[N9];exact eg),(by grind),λv H' k' hv aC=>?_⟩;rw[N9]at hv;have Z_:OptAt H' (dh D t n U g (c.length+1) (c++[B])<|O++[B]) v:=hv;have aF:=i.trans k';have ac:=G.trans<|Z.trans<|k7.trans k';exists _,rfl,rfl,_,rfl;cases d:dh D t n U g (c.length+1) (c++[B]) (O++[B])with
  |none=>
   rw[d]at Z_;cases Z_;refine JY rfl ?_;obtain⟨rfl,rfl⟩|⟨rfl,rfl⟩:=hj
   ·exact⟨_,_,rfl,ac,λS=>d,λz=>by simp_all⟩
   ·exact⟨_,_,rfl,ac,λS=>w1<|N' _,λS=>d⟩
  |some r=>
   rw[d]at Z_;cases Z_ with
   |yes a' r' am=>
    have en:decide (V.ref a'=V.non)=false:=rfl
    rw[en];refine aq ⟨_,rfl,q _ H' aF ?_ λa2 z=>.inr ?_⟩
    ·obtain⟨rfl,rfl⟩|⟨rfl,rfl⟩:=hj
     ·rw[d];exact .yes a' r am
     rw[w1<|N' _,d];exact .yes a' r am
    obtain h|h:=aC a2 z
    ·rw[h];exact(I.trans Z).free az
    exact i.free h
 rintro σ Y ⟨v7,v8,rfl,G,w1,w2⟩;rw[w1 (by decide),w2<|by decide]at q;exact q _ Y (k.trans G) .no λa z=>nomatch z
theorem zc(F:Fun K "first_loss" "first_loss" zb f d)(T:Bl m)(I:Fe P w K m B 4 "played_on" (ER n))
  (b:Binds K d ["sentence","hand","player","loses","begun","others"] []) (k:QB K (.ref f)=N7) (at_:m "first_loss"=gV (.ref f)):∀u,aA P w K m B bw (u+6) f d ["sentence","hand","player","loses","begun","others"]<|mG P w K m B n u
 |0=>⟨λZ Z Z Z h=>by obtain⟨Z,z,Z⟩:=h;simp_all,λZ Z Z Z Z Z Z Z Z Z Z Z Z h=>by obtain⟨Z,z,Z⟩:=h;lia⟩
 |u+1=>by
  have i:=zc F T I b k at_ u;have st:=xb F T I ⟨_,_,_,i,b,k,at_⟩;refine⟨λv H Q E h=>?_,λA O s H a U v Q E r c j l h=>?_⟩
  ·obtain⟨g,Z,p,x,L,b,o,t,W,q,y,D,C,G,J,rfl,Z⟩:=h;rfl
  obtain⟨g,M,h⟩:=h;by_cases e:g=u
  ·subst e;exact st.run A O s H a U v Q E r c j l h
  exact i.run A O s H a U v Q E (r.mono<|by simp) c j l ⟨g,by lia,h⟩
theorem Hj(F:Fun K "first_loss" "first_loss" zb f d)(T:Bl m)(v:Fe P w K m B 4 "played_on" (ER C))
  (b:Binds K d ["sentence","hand","player","loses","begun","others"] []) (k:QB K (.ref f)=N7) (at_:m "first_loss"=gV (.ref f)):aA P w K m B bw 15 f d ["sentence","hand","player","loses","begun","others"] (mG P w K m B C 9):=zc F T v b k at_ 9
noncomputable abbrev sS:PQ:=cD 50
noncomputable abbrev fW:PD:=NC (NB<|cP sS) 3
noncomputable abbrev sU:Str:=("losing_play":Str)++".<locals>."++"<lambda>"
structure LoseIn (CP:J')(H:Hp)(p x:J')(t:Str)(cs:ab (ab Int))(hw:Oe)(es:ab dg):Prop where
 rd:RD H (jz t cs) (.ref p)
 t8:t.length<=8
 pl:PlayerAt H CP x es
 ok:PlanOk es t hw
 sm:qi cs
 pos:∀c∈cs,∀l∈c,1<=absI l
theorem LoseIn.mono(h:LoseIn C H p x t c w e)(k:Same H a):LoseIn C a p x t c w e:=⟨bJ k _ _ h.rd,h.t8,h.pl.mono<|Same.kept k,h.ok,h.sm,h.pos⟩
abbrev Hk(H:Hp)(T:J'):Prop:=TabAt H T (ND fW) sU
theorem PlayerAt.off(h:PlayerAt H C x E)(k:Off T H d)(t:TabAt H T p Q):PlayerAt d C x E:=by
 have c:∀b X,H b=gV (.tup X)->d b=gV _:=λb X e=>k.at_ t e λY z=>nomatch z
 obtain⟨D,f,s,g,j,n,l⟩:=h;refine⟨D,f,s,k.at_ t g (by simp),k.at_ t j (by lia),n,λe m=>?_⟩;obtain⟨o,a,u,v,w,A,B⟩:=l e m;refine⟨o,a,u,v,c _ _ w,c _ _ A,B.len,λi y z=>?_⟩;obtain⟨r,Z,q,F,G,I,J⟩:=B.at_ i y z;exact⟨r,Z,q,F,G,c _ _ I,c _ _ J⟩
theorem LoseIn.off{C p x T:J'}{H a:Hp}{t:Str}{c:ab (ab Int)}{w:Oe}{e:ab dg}{P:Pos}{q:Str}(h:LoseIn C H p x t c w e)(k:Off T H a)(b:TabAt H T P q):LoseIn C a p x t c w e:=⟨CD h.rd k b,h.t8,h.pl.off k b,h.ok,h.sm,h.pos⟩
theorem OptAt.to(h:OptAt H r v)(k:∀a x,H a=gV (.lst x)->b a=gV (.lst x)):OptAt b r v:=by
 cases h with
 |no=>exact .no
 |yes a r c=>exact .yes a r<|k _ _ c
inductive sV (C T:J')(vs:ab V)(H:Hp)(Q:VK)(E:XK):Prop
 |mk (p x:J')(t:Str)(cs:ab (ab Int))(hw:Oe)(es:ab dg)(h0:vs=[.ref p,.str<|aj hw,.ref x])(b:LoseIn C H p x t cs hw es)(c:Hk H T)
  (q:∀(v:V) (h:Hp),Off T H h->Hk h T->OptAt h (dh es t hw (AW cs hw) t.length 0 [] []) v->(∀a,v=.ref a->H a=Oa)->Q v h):sV C T vs H Q E
theorem zd:ee ["sentence","hand","player"] ["sentence","hand","player"] (aD sS):=HX
theorem Hl:uH "filling" ["sentence","hand"] (Kb fW):=⟨rfl,rfl,rfl,rfl,Sa.mpr ⟨rfl,Sa.mpr ⟨rfl,Vp _⟩⟩,by decide+kernel,by decide+kernel,by decide+kernel⟩
theorem AX{L p:J'}{n q:Obj}{g:Oe}(v:Bl M)(X:Fe P w K M B 3 "comes_true" sR)(I:t.length<=8)(m:qi C)(U:∀c∈C,∀l∈c,1<=absI l)(N:d≠f):
  ET P w K M B L (AW C g) t.length (λH=>LamAt H L sU (J_ fW) (Ka fW) (Kb fW) [("sentence",d),("hand",f)]/\CapAt H [(d,n),(f,q)] [.ref p,.str<|aj g]/\RD H (jz t C) (.ref p)):=by
 refine⟨λH J k h=>⟨h.1.mono λb o z=>k _ _ z,h.2.1.mono λb o z=>k _ _ z,bJ k _ _ h.2.2⟩,λH h=>?_,?_⟩
 ·obtain⟨W,x,c,e,V⟩:=h.1;exact⟨_,_,e,rfl⟩
 refine Gm (k:=3) (G:=sU) (M:=J_ fW) (U:=Ka fW) Hl (λV V V V V=>rfl) λY H Q E h=>?_;obtain⟨l,y,rfl,⟨i,a,j⟩,D,Z,F⟩:=h;refine⟨.ref l,[(d,n),(f,q)],[.ref p,.str<|aj g],rfl,i,a,rfl,?_,λc A O s r=>?_⟩
 ·show [d,f].Nodup
  simp[N]
 have u:=r.units;have T:=v;exists _,(Am (mZ u) (Fa X r<|oe (pv 1)<|pv 0)<|Am (d_ u) (pv 2)<|cB rfl T.g_WISHER);refine⟨_,rfl,_,rfl,.ref p,l,t,C,y,rfl,Gn j a,a.less D (λV z=>nomatch z),by lia,m,U,λH1 G=>⟨_,rfl,.inl ⟨rfl,.inl ⟨rfl,?_⟩⟩⟩⟩;rw[vt,iY];exact F _<|Ae a.look G
theorem EU{f2:J'}{N:Oz}(F:FunL K "losing_play" "losing_play" sS f fd c)(L:rJ M B c T)(TH:Bl M)(X0:Fn P w K M B 3 "comes_true" f1 d1 ["sentence","filling"] sR)
  (XZ:Fn P w K M B 15 "first_loss" f2 N ["sentence","hand","player","loses","begun","others"] (mG P w K M B CP 9)):aA P w K M B bw 16 f fd ["sentence","hand","player"] (sV CP T):=by
 have sc:=zd;refine F.ok zd (λvs H Q E h=>?_) λA W s H vs Q E hr h=>?_
 ·obtain⟨p,x,t,cs,C,es,rfl,_⟩:=h;rfl
 obtain⟨p,x,t,cs,C,es,rfl,U,D,q⟩:=h;refine⟨_,(dX<|J9 ["sentence","hand"] XZ hr (by simp) rfl (λ_=>rfl) (Sa.mpr ⟨rfl,Sa.mpr ⟨rfl,Vp _⟩⟩)<|aP (pv 0)<|aP (pv 1)<|aP (pv 2)<|aP (J6 L rfl) gg),?_⟩;refine⟨_,rfl,_,rfl,_,rfl,D,λlf u az O d G=>⟨OG _,λb nb=>⟨OG _,λo no=>?_⟩⟩⟩;have k2:=ad nb<|.lst [];have n:upd u b (.lst []) o=none:=no;have sb:upd (upd u b<|.lst []) o (.lst []) b=gV (.lst []):=ad n _ _ _ aa;have J:=k2.trans<|ad n<|.lst [];have so:=@aa (upd u b<|.lst []) o (.lst []);have X:u o=none:=k2.free n;refine⟨?_,λce Y Z=>?_⟩
 ·intro y I;obtain rfl|I:=OC.mp I
  ·exact⟨0,_,rfl,rfl⟩
  obtain rfl|I:=OC.mp I
  ·exact⟨1,_,rfl,rfl⟩
  exact absurd I (by simp)
 cases Y with
 |cons c1 r1=>
 cases r1 with
 |cons c2 r2=>
 cases r2;rename_i q1 q2;obtain⟨e,j⟩:=q1;obtain⟨g,k⟩:=q2;obtain⟨e1,u1,d1,v1⟩:=c1;obtain⟨e2,u2,N,v2⟩:=c2;have z1:=v1 0 (.ref p) rfl rfl;have z2:=v2 1 (.str<|aj C) rfl rfl;have l:gV _=gV e:=e1;have m:gV _=gV g:=e2;have ne:e≠g:=λz=>by
  simp_all
 have ac:LamAt u lf sU (J_ fW) (Ka fW) (Kb fW) [("sentence",e),("hand",g)]:=by
  rw[<-Oy l,<-Oy m];exact G
 clear e1 e2 l m G v1 v2;generalize upd (upd u b<|.lst []) o (.lst [])=H3 at sb J so Z;have am:Sy e [(e,j),(g,k)]=gV j:=by simp
 have an:Sy g [(e,j),(g,k)]=gV k:=by
  have hb:(g == e)=false:=by simpa using P6 ne
  rw[Rp,hb];simp
 have kp:Same H3 (iP H3 [(e,j),(g,k)]):=Ad Z;have k4:=J.trans kp;have as:CapAt (iP H3 [(e,j),(g,k)]) [(e,j),(g,k)] [.ref p,.str<|aj C]:=.cons ⟨fO am,u1,d1,z1⟩<|.cons ⟨fO an,u2,N,z2⟩ .nil;have r:=(U.off O D).mono k4;obtain⟨pp,qa,zs,ep,p1,p2,p3⟩:=fY r.rd;cases ep;refine⟨t.length,Z3 U.t8,p,x,lf,b,o,t,_,C,es,AW cs C,_,[],[],rfl,p1,U.t8,r.pl,U.ok,AX TH ⟨_,_,_,X0⟩ U.t8 U.sm U.pos ne,⟨ac.mono λb o z=>k4 _ _ z,as,r.rd⟩,kp _ _ sb,kp _ _ so,(by simp),N' _,λv H' k' hv av=>?_⟩;have ko:=Cu Z k';refine q v _ (O.same<|J.trans ko) (d.mono<|J.trans ko) ?_ λa z=>?_
 ·refine hv.to λa xs ha=>?_;obtain y|⟨o',y⟩:=aT [(e,j),(g,k)] a
  ·rw[bP y];exact ha
  rw[k' a _<|fO y]at ha;cases ha
 obtain h|h:=av a z
 ·rw[h];exact O.free d X
 exact O.free d<|k4.free h
noncomputable abbrev IF:PQ:=cD 82
noncomputable def AY(E:ab dg)(v:Int)(b:ab Oe):V:=match E.find? λe=>decide (e.1=v)with
 |some e=>.bl<|j8 e.2.1 b e.2.2
 |none=>.non
inductive xf (vs:ab V)(H:Hp)(Q:VK)(E:XK):Prop
 |mk (l b:J')(v:Int)(es:ab dg)(xs:ab V)(G:J'->Prop)(bs:ab Oe)(h0:vs=[.ref l,.int v,.ref b])(a:H l=gV (.lst xs))(c:EntsAt H G es xs)(d:H b=gV (.lst<|bs.map V.bl))(f:bs.length<=900)(g:∀e∈es,e.1=v->Near bs.length e.2.1)(q:∀h:Hp,Same H h->Q (AY es v bs) h)
noncomputable def vv(b:ab Oe):V->Oe
 |.int l=>!hit b l
 |_=>Oc
theorem Hm(b:ab Oe)(c:ab Int):decide (V.int (((((c.map V.int).filter<|vv b).map id).length:Nat):Int)=V.int 0)=c.all (hit b):=by
 rw[A']
 induction c with
 |nil=>rfl
 |cons l r i=>
  rw[OU,Sg];cases g:hit b l with
  |true=>
   rw[Qa (p:=vv b) (a:=V.int l) (by show¬(!hit b l)=N7;rw[g];exact Om),i];rfl
  |false=>
   rw[P' (p:=vv b) (a:=V.int l) (by show(!hit b l)=N7;rw[g];rfl),OE];rfl
theorem KP(h:1<=absI l)(H:absI l<=(B.length:Int)):∃b,kq (B.map V.bl) (absI l-1)=gV (.bl b)/\(!decide (V.bl b=V.bl (decide (0<l))))=!hit B l:=by
 obtain⟨b,a,e⟩:=fZ h H;exists b,a;rw[lm h H]at e;rw[iY,V.bl.inj e]
inductive vw (l:J')(v:Int)(b:J')(H:Hp)(es:ab dg)(i:Nat)(a:ab (M' V))(h:Hp):Prop
 |mk (c:M' V)(d:M' V)(f:M' V)(g:M' V)(j:M' V)(I:a=[gV (.ref l),gV (.int v),gV (.ref b),c,d,f,g,j])(k:Same H h)(m:(es.take i).find? (λe=>decide (e.1=v))=Oa)
inductive vx (l:J')(v:Int)(b:J')(e:dg)(lr:J')(H:Hp)(bs:ab Oe)(j:Nat)(a:ab (M' V))(h:Hp):Prop
 |mk (c:M' V)(d:M' V)(i:a=[gV (.ref l),gV (.int v),gV (.ref b),gV (.int e.1),gV (.ref lr),gV (.bl e.2.2),c,d])(I:Same H h)(f:(e.2.1.take j).find? (λr=>r.1.all<|hit bs)=Oa)
theorem Hn(F:Fun K "_law_answer" "_law_answer" IF f fd)(T:Bl mg):aA P w K mg as bw 1 f fd ["_law_plan","_law_variable","_law_begun"] xf:=by
 refine F.okB (N:=["_law_plan","_law_variable","_law_begun","_law_mine","_law_rules","_law_otherwise","_law_literals","_law_value"]) λQ_ A O s H vs Q E sc hr h=>?_;obtain⟨l,b,v,g,xs,G,B,rfl,h1,h2,h3,h9,C,q⟩:=h;have hu:=hr.units;refine⟨_,(ae (kh QX rfl (aH<|pv 0) gg
   (ax (bM gg (ae (kh QX rfl (aH<|pv 4) gg
     (ax<|bM (pK (d_ hu) (aI cj rfl T.len Qh<|fV<|gS ["_law_one","_law_begun"] [Oa,gV 2] (bX<|pv 6) (t:=λS S S S=>(cI<|pK (mZ hu) (CI (K:=K) (pv 1) gg) gg))) bW) (dX<|pv 7) aN))
    (dX<|pv 5)) aN)))
  (dX ke)),?_⟩
 refine⟨_,rfl,l,rfl,⟨_,SqL.of h1⟩,cx (K:=K) (a:=l) (X:=xs) (vw l v b H g) ⟨Oa,Oa,Oa,Oa,Oa,rfl,Same.refl _,rfl⟩ ?_ ?_ ?_⟩
 ·rintro i m I S ⟨S,S,S,S,S,S,c,S⟩;exact SqL.of<|c _ _ h1
 ·rintro i x m I t ⟨v3,v4,v5,J,L,rfl,c,W⟩;obtain⟨e,u,M⟩:=h2.at_ i x t;obtain⟨p,N,rs,rfl,p1,p2,p3,S⟩:=M.mono c;have U:=N5 u;have et:g.take (i+1)=g.take i++[e]:=by rw[OM,u];rfl
  exists p,_,rfl,SqT.of p1,rfl,_,_,rfl,_,_,rfl,_,_,rfl,rfl;refine⟨_,rfl,_,rfl,.inl ⟨rfl,_,rfl,?_⟩⟩;by_cases n:e.1=v
  ·have Y:g.find? (λe=>decide (e.1=v))=gV e:=o9 u W<|On n;have ed:AY g v B=.bl (j8 e.2.1 B e.2.2):=by
    unfold AY;rw[Y]
   rw[ed]at q;rw[On<|Pa V.int n];refine aq ?_;refine⟨_,rfl,N,rfl,⟨_,SqL.of p2⟩,cx (K:=K) (a:=N) (X:=rs) (vx l v b e N I B) ⟨_,_,rfl,Same.refl _,rfl⟩ ?_ ?_ ?_⟩
   ·rintro j m H3 S ⟨S,S,S,d,S⟩;exact SqL.of<|d _ _ p2
   ·rintro j y m H3 hy ⟨J,L,rfl,d,a⟩;obtain⟨r,X,Z⟩:=p3.at_ j y hy;obtain⟨qa,sv,rfl,c1,c2⟩:=Z.mono<|Same.kept d;have ac:=N5 X;obtain⟨av,o⟩:=C e U n r ac;have az:e.2.1.take (j+1)=e.2.1.take j++[r]:=by rw[OM,X];rfl
    exists qa,_,rfl,SqT.of c1,rfl,_,_,rfl,_,_,rfl,rfl;refine⟨_,rfl,sv,rfl,⟨_,SqT.of c2⟩,λD hD=>?_⟩;refine bG [gV<|.ref b] (vv B) id rfl c2 hD (by rw[A'];exact Pm av (by decide)) ?_ ?_ ?_
    ·intro x t H' R k r';obtain⟨z,hz,rfl⟩:=bK t;obtain⟨bb,am,an⟩:=KP (o z hz).1 (o z hz).2;refine⟨_,rfl,_,rfl,z,rfl,_,_,rfl,rfl,(iG (k _ _<|d _ _<|c _ _ h3) am ⟨_,rfl,_,_,rfl,rfl,.inl ⟨rfl,_,rfl,?_⟩⟩)⟩;rw[an];exact r'
    ·intro x t S H' R k r';exact⟨_,rfl,r'⟩
    have kD:=ad hD<|.lst<|((r.1.map V.int).filter<|vv B).map id;refine⟨.ref D,_,rfl,.inl ⟨_,SqL.of aa,rfl⟩,.inl ⟨rfl,_,rfl,?_⟩⟩;rw[Hm];cases gh:r.1.all (hit B)with
    |true=>
     have ea:j8 e.2.1 B e.2.2=r.2:=by
      unfold j8;have Y:e.2.1.find? (λr=>r.1.all<|hit B)=gV r:=o9 X a gh;rw[Y]
     rw[ea]at q;exact aq ⟨_,rfl,q _<|c.trans<|d.trans kD⟩
    |false=>
     exact ao ⟨_,_,rfl,d.trans kD,lp X a gh⟩
   rintro m H3 ⟨J,L,rfl,d,a⟩;rw[Ol<|by rw[p3.len];exact N' _]at a;exists _,rfl;unfold j8 at q;rw[a]at q;exact q _<|c.trans d
  rw[Ob λz=>n<|V.int.inj z];exact ao ⟨_,_,_,_,_,rfl,c,lp u W<|Ob n⟩
 rintro m I ⟨v3,v4,v5,J,L,rfl,c,W⟩;rw[Ol<|by rw[h2.len];exact N' _]at W;unfold AY at q;rw[W]at q;exact q _ c
noncomputable abbrev vy:PQ:=cD 83
noncomputable abbrev ze:PQ:=cD 84
noncomputable abbrev zf:PQ:=cD 85
noncomputable abbrev EV:PQ:=cD 86
noncomputable abbrev EW:PQ:=cD 87
inductive sW (vs:ab V)(H:Hp)(Q:VK)(E:XK):Prop
 |mk (p l o:J')(t:Str)(w:V)(hw:Oe)(es:ab dg)(xs:ab V)(os:ab Oe)(h0:vs=[.ref p,.str (aj hw),.ref l,.ref o])(b:H p=gV (.tup [.str t,w]))(c:t.length<=8)(d:H l=gV (.lst xs))(a:EntsAt H (λ_=>True) es xs)(e:PlanOk es t hw)(f:H o=gV (.lst<|os.map V.bl))(g:os.length=gO t hw t.length)
  (q:∀(l:J') (h:Hp),Same H h->H l=Oa->h l=gV (.lst<|(bZ es t hw os t.length).1.map V.bl)->Q (.ref l) h):sW vs H Q E
inductive py (vs:ab V)(H:Hp)(Q:VK)(E:XK):Prop
 |mk (v:V)(f:J')(t:Str)(cs:ab (ab Int))(bs:ab Oe)(h0:vs=[v,.ref f])(a:RD H (jz t cs) v)(b:H f=gV (.lst (bs.map V.bl)))(d:qi cs)(e:∀c∈cs,∀l∈c,1<=absI l/\absI l<=(bs.length:Int))(q:∀h:Hp,Same H h->Q (.bl (cs.all λc=>c.any<|hit bs)) h)
structure Ho (H:Hp)(ls:ab (ab Oe))(xs:ab V):Prop where
 len:xs.length=ls.length
 at_:∀(i:Nat) (x:V),xs[i]?=gV x->∃r a,ls[i]?=gV r/\x=.ref a/\H a=gV (.lst<|r.map V.bl)
inductive pA (vs:ab V)(H:Hp)(Q:VK)(E:XK):Prop
 |mk (m:Nat)(h0:vs=[.int (m:Int)])(a:m<=8)(q:∀(l:J') (xs:ab V) (h:Hp),Same H h->h l=gV (.lst xs)->Ho h (iQ m) xs->Q (.ref l) h)
inductive sX (vs:ab V)(H:Hp)(Q:VK)(E:XK):Prop
 |mk (p:J')(t:Str)(w:V)(hw:Oe)(h0:vs=[.ref p,.str<|aj hw])(a:H p=gV (.tup [.str t,w]))(b:t.length<=8)(q:∀h:Hp,Same H h->Q (.int (gO t hw t.length:Nat)) h)
inductive sY (vs:ab V)(H:Hp)(Q:VK)(E:XK):Prop
 |mk (p l:J')(t:Str)(cs:ab (ab Int))(hw:Oe)(es:ab dg)(xs:ab V)(h0:vs=[.ref p,.str (aj hw),.ref l])(a:RD H (jz t cs) (.ref p))(b:t.length<=8)(d:H l=gV (.lst xs))(e:EntsAt H (λ_=>True) es xs)(f:PlanOk es t hw)(g:qi cs)(i:∀c∈cs,∀l∈c,1<=absI l/\absI l<=(t.length:Int))(j:∀os,nX cs (bZ es t hw os t.length).1=hw)(q:∀h:Hp,Same H h->Q (.bl N7) h)
noncomputable def vz(b:ab Oe):V->Oe
 |.int l=>hit b l
 |_=>Oc
theorem Hq(b:ab Oe)(c:ab Int):decide (V.int (((((c.map V.int).filter<|vz b).map id).length:Nat):Int)=V.int 0)=!c.any (hit b):=by
 induction c with
 |nil=>rfl
 |cons l r i=>
  rw[OU,RO];cases g:hit b l with
  |false=>
   rw[Qa (by show¬hit b l=N7;rw[g];exact Om),i];rfl
  |true=>
   rw[P' (a:=V.int l) g];rfl
theorem Hr(h:1<=absI l)(H:absI l<=(B.length:Int)):∃b,kq (B.map V.bl) (absI l-1)=gV (.bl b)/\decide (V.bl b=V.bl (decide (0<l)))=hit B l:=by
 obtain⟨b,a,e⟩:=fZ h H;exists b,a;rw[lm h H]at e;rw[iY,V.bl.inj e]
theorem EX{t:Str}{H:Oe}{i:Nat}{z:Int}(h:z=(i:Int)+1):(cu t (absI z-1).toNat == H)=dU t H i:=by
 subst h;have e:(absI ((i)+1)-1).toNat=i:=by
  rw[bB<|by lia];lia
 rw[e];rfl
theorem KQ(h:PlanOk E t H)(a:i<t.length)(o:dU t H i=N7):AY E (1+(i:Int)) b=.bl (fo E i b):=by
 obtain⟨e,f,z,z⟩:=h.has i a o;unfold AY fo;rw[f]
inductive IG (H:Hp)(D p:J')(t:Str)(hw:Oe)(i:Nat)(a:St)(ys:ab V)(h:Hp):Prop
 |mk (v:M' V)(h0:a=[v,gV<|.str<|aj hw,gV<|.ref p])(b:ys.length=gO t hw i)(c:h D=gV (.lst ys))(d:Same H h)
inductive vA (p:J')(hw:Oe)(l:J')(o:J')(f:J')(b:J')(es:ab dg)(t:Str)(os:ab Oe)(H:Hp)(i:Nat)(a:ab (M' V))(h:Hp):Prop
 |mk (v:M' V)(I:a=[gV<|.ref p,gV<|.str<|aj hw,gV<|.ref l,gV<|.ref o,gV<|.ref f,gV<|.ref b,v])(c:h f=gV (.lst<|(bZ es t hw os i).1.map V.bl))(d:h b=gV (.lst<|(bZ es t hw os i).2.map V.bl))(e:Same H h)
theorem xg(F:Fun K "_law_played" "_law_played" vy f fd)(T:Bl M)(YF:Fe P w K M B 1 "_law_own" qH)(ac:Fe P w K M B 1 "_law_answer" xf):aA P w K M B bw 2 f fd ["_law_sentence_here","_law_hand","_law_plan","_law_others"] sW:=by
 refine F.okB (N:=["_law_sentence_here","_law_hand","_law_plan","_law_others","_law_filling","_law_left","_law_variable"]) λQ_ A O s H vs Q E sc hr h=>?_;obtain⟨p,l,Y,t,w,a,j,xs,os,rfl,Z,t8,hl,y,m,ho,am,q⟩:=h;refine⟨_,(ae gg
  (ae gg
  (ae (fS 6 gg<|ax<|bM gg gg<|ax<|di<|fL Pl Qp QD dz (pv 4)<|fV<|fL Pl Ud XI Br (pv 5)<|fV bW)
  (dX<|pv 4)))),?_⟩
 refine⟨OG _,λd o=>?_⟩;have n:H d=none:=o;have x:=ad o<|.lst [];have z:=@aa H d (.lst []);generalize upd H d (.lst [])=H1 at x z ⊢;refine⟨_,rfl,Y,_,rfl,.inl<|SqL.of<|x _ _ ho,λb C=>?_⟩;have N:b≠d:=(af z C).symm;have nb:H b=none:=x.free C;have D:=ad C<|.lst<|os.map V.bl;have s2:=@aa H1 b (.lst<|os.map V.bl);have r:=D _ _ z;generalize upd H1 b (.lst<|os.map V.bl)=H2 at D s2 r ⊢;have u:=x.trans D;have en:((t.length:Int)+1-1).toNat=t.length:=by lia
 refine⟨_,rfl,(bu (u _ _ Z) rfl ⟨.str t,_,rfl,⟨Pu (ap<|Pm t8 (by decide)),rfl⟩,_,_,rfl,rfl,_,_,rfl,⟨by decide,by decide,by lia,by lia⟩,d9 (lo:=1) (n:=((t.length:Int)+1-1).toNat)
  (vA p a l Y d b j t os H)
  ⟨Oa,rfl,r,s2,u⟩ ?_ ?_⟩)⟩
 ·rintro i σ H4 hi ⟨v6,rfl,g,G,k⟩;rw[en]at hi;refine⟨_,rfl,(bu (k _ _ Z) rfl ⟨_,rfl,_,rfl,t,a,1+(i:Int),rfl,(by rw[bB<|by lia];lia),(by rw[bB<|by lia];lia),Pm t8 (by decide),_,rfl,?_⟩)⟩;rw[EX (t:=t) (H:=a) (i:=i) (z:=1+(i:Int))<|by lia];have l1:=eJ j t a os i;have l2:=qX j t a os i;have c:bZ j t a os (i+1)=dQ j t a i (bZ j t a os i):=rfl;have I:=gx t a i;have an:=AQ t a (show i+1<=t.length by exact Wk (j' hi));generalize bZ j t a os i=S1 at c g G l1 l2;obtain⟨fs,J⟩:=S1;have as:fs.length=i:=l1;have U:J.length=os.length-gO t a i:=l2;cases go:dU t a i with
  |true=>
   refine aq ?_;refine⟨_,rfl,.inl ⟨rfl,_,SqL.of g⟩,_,rfl,_,rfl,_,rfl,l,d,1+(i:Int),j,xs,λS=>True,fs,rfl,k _ _ hl,y.mono k,g,by lia,λe he W=>(m.nearAt he W).mono (UC (Eq.symm as)),λH5 X=>?_⟩;rw[KQ m hi go];refine⟨d,_,_,rfl,rfl,X _ _ g,?_,?_⟩
   ·rw[A'];exact ap (by lia)
   refine⟨_,rfl,?_,?_,(k.trans X).upd_new n _⟩
   ·rw[aa,c];unfold dQ;rw[Ox go,<-px]
   ·rw[ag N,c];unfold dQ;rw[Ox go];exact X _ _ G
  |false=>
   refine ao ?_;rw[go,Ov Om]at I;obtain⟨v,L,rfl⟩:∃v L,J=v::L:=by
    cases J with
    |nil=>
     simp at U;lia
    |cons v L=>exact⟨v,L,rfl⟩
   exists _,rfl,.inl ⟨rfl,_,SqL.of g⟩,_,rfl,.inl ⟨rfl,_,SqL.of G⟩,b,_,0,0,.bl v,rfl,rfl,G,by decide,by decide,EQ (by simp),rfl;refine⟨d,_,_,rfl,rfl,(by rw[ag<|P6 N];exact g),?_,?_⟩
   ·rw[A'];exact ap (by lia)
   refine⟨_,rfl,?_,?_,(k.upd_new nb _).upd_new n _⟩
   ·rw[aa,c];unfold dQ;rw[Ov (by rw[go];exact Om),<-px];rfl
   rw[ag N,aa,c];unfold dQ;rw[Ov<|by rw[go];exact Om];rfl
 rintro σ H4 ⟨v6,rfl,g,G,k⟩;rw[en]at g;exact⟨_,rfl,q d H4 k n g⟩
inductive vB (p:J')(g:J')(H:Hp)(cs:ab (ab Int))(bs:ab Oe)(i:Nat)(a:ab (M' V))(h:Hp):Prop
 |mk (v:M' V)(I:a=[gV (.ref p),gV (.ref g),v])(b:Same H h)(d:((cs.take i).all λc=>c.any<|hit bs)=N7)
theorem AZ(F:Fun K "_law_comes" "_law_comes" ze f fd)(T:Bl mg):aA P w K mg B bw 1 f fd ["_law_sentence_here","_law_filling"] py:=by
 refine F.okB (N:=["_law_sentence_here","_law_filling","_law_clause"]) λQ_ A o s H vs Q E sc hr h=>?_;obtain⟨v,g,t,C,b,rfl,hd,hg,m,U,q⟩:=h;obtain⟨p,u,xs,rfl,h1,y,G⟩:=fY hd;have I:=hr.units;refine⟨_,(ae (fS 2 (aH gg)<|ax<|bM (pK (d_ I) (aI cj rfl T.len Qh<|fV<|gS ["_law_one","_law_filling"] [Oa,gV 1] (bX<|pv 2) (t:=λS S S S=>(cI<|pK (d_ I) (CI (K:=K) (pv 1) gg) gg))) bW) (dX fj) aN)
  (dX fj)),?_⟩
 refine⟨_,rfl,(bu h1 rfl ⟨u,rfl,⟨_,SqL.of y⟩,cx (K:=K) (a:=u) (X:=xs)
  (vB p g H C b) ⟨Oa,rfl,Same.refl _,rfl⟩ ?_ ?_ ?_⟩)⟩
 ·rintro i J L S ⟨S,S,a,S⟩;exact SqL.of<|a _ _ y
 ·rintro i x J L d ⟨v2,rfl,a,r⟩;obtain⟨c,M,tc,rfl,N⟩:=G.get d;have Z:=N5 M;have e:C.take (i+1)=C.take i++[c]:=by rw[OM,M];rfl
  refine⟨_,rfl,tc,rfl,⟨_,SqT.of<|a _ _ N⟩,λD O=>?_⟩;refine bG [gV<|.ref g] (vz b) id rfl (a _ _ N) O (by rw[A'];have:=m.2 c Z;lia) ?_ ?_ ?_
  ·intro x d H' R k j;obtain⟨z,W,rfl⟩:=bK d;obtain⟨bb,l,n⟩:=Hr (U c Z z W).1 (U c Z z W).2;refine⟨_,rfl,_,rfl,z,rfl,_,_,rfl,rfl,(iG (k _ _<|a _ _ hg) l ⟨_,rfl,_,_,rfl,rfl,.inl ⟨rfl,_,rfl,?_⟩⟩)⟩;rw[n];exact j
  ·intro x d S H' R k j;exact⟨_,rfl,j⟩
  have X:=ad O<|.lst<|((c.map V.int).filter<|vz b).map id;refine⟨.ref D,_,rfl,.inl ⟨_,SqL.of aa,rfl⟩,.inl ⟨rfl,_,rfl,?_⟩⟩;rw[Hq];cases Y:c.any (hit b)with
  |true=>
   refine ao ⟨_,rfl,a.trans X,?_⟩;rw[e,XC,r,Sg,adt,Y];rfl
  |false=>
   have ef:(C.all λc=>c.any<|hit b)=false:=Z6.mpr ⟨c,Z,by rw[Y];exact Om⟩;rw[ef]at q;exact aq<|q _<|a.trans X
 rintro J L ⟨v2,rfl,a,r⟩;rw[Ol<|by rw[G.length];exact N' _]at r;rw[r]at q;exact q _ a
theorem EY(F:Fun K "_law_many" "_law_many" EV f r)(T:Bl m)(Y:Fe P w K m B 1 "_law_own" qH):aA P w K m B bw 2 f r ["_law_sentence_here","_law_hand"] sX:=by
 refine F.okB (N:=["_law_sentence_here","_law_hand"]) λC A o s H G Q E I u h=>?_;obtain⟨p,t,w,a,rfl,e,J,q⟩:=h;exists _,(dX<|aI cj rfl T.len Qh<|fV<|gS ["_law_k","_law_hand","_law_sentence_here"] [Oa,gV 1,gV 0] gg (t:=λZ Z Z Z=>(cI<|mK<|re<|Fa Y u<|aP (CI (K:=K) (pv 2) bW) gg)));refine⟨_,rfl,(bu e rfl ⟨.str t,_,rfl,⟨Pu (ap<|Pm J (by decide)),rfl⟩,(t.length:Int),rfl,(by simp),(by lia),λD g=>?_⟩)⟩;have n:((t.length:Int)).toNat=t.length:=by rfl
 refine eh (lo:=0) (n:=((t.length:Int)).toNat) (IG H D p t a) ⟨Oa,rfl,rfl,aa,ad g _⟩ ?_ ?_ ?_
 ·rintro i j y d Z ⟨Z,Z,Z,b,Z⟩;exact b
 ·rintro i j y d v ⟨x,rfl,l,b,k⟩;rw[n]at v;have c:=gx t a i;have z:=y6 t a i;refine⟨_,rfl,(bu (k _ _ e) rfl ⟨_,rfl,_,rfl,_,_,rfl,rfl,t,a,(0:Int)+(i:Int)+1,rfl,(by rw[bB<|by lia];lia),(by rw[bB<|by lia];lia),Pm J (by decide),_,rfl,?_⟩)⟩;rw[EX (t:=t) (H:=a) (i:=i) (z:=(0:Int)+(i:Int)+1)<|by simp];cases go:dU t a i with
  |true=>
   rw[go,Ox rfl]at c;exact ao ⟨_,rfl,by rw[c];exact l,b,k⟩
  |false=>
   rw[go,Ov Om]at c;refine aq ⟨_,rfl,b,ap (by lia),_,rfl,by rw[N9,l,c];rfl,aa,k.upd_new g _⟩
 rintro j y d ⟨x,rfl,l,b,k⟩;rw[n]at l;exists .ref D,_,rfl,.inl ⟨_,SqL.of b,rfl⟩;simp_all
inductive vC (m:Nat)(D:J')(H:Hp)(i:Nat)(b:ab (M' V))(ys:ab V)(h:Hp):Prop
 |mk (I:(∃v,b=[v,gV<|.int (m:Int)]))(c:h D=gV (.lst ys))(d:Same H h)(e:ys.length=i)(f:∀(j:Nat) (y:V),ys[j]?=gV y->∃a,y=.ref a/\a≠D/\h a=gV (.lst<|(pd m j).map V.bl))
theorem A0(F:Fun K "_law_lists" "_law_lists" zf f X)(T:Bl Z):aA P w K Z C bw 1 f X ["_law_many_here"] pA:=by
 refine F.okB (N:=["_law_many_here"]) λQ_ A o s H vs Q E sc hr h=>?_;obtain⟨m,rfl,m8,q⟩:=h;have p8:2^m<=256:=R9 (by decide) m8;have p:=qZ m;have G:(1:Int)*2^((m:Int)).toNat=((2^m:Nat):Int):=by
  simp
 generalize 2^m=N at p8 G p;exists _,(dX<|jx (N:=["_law_number_here","_law_many_here"]) (d:=[Oa,gV 0]) rfl cS gg (λS S S S=>(xi (i:=0) (nD ["_law_number_here","_law_many_here"]) rfl<|Yo rfl)) (λS S S S=>iy) λS S S S=>(gS ["_law_k","_law_number_here","_law_many_here"] [Oa,gV 0,gV 1] gg));exists _,rfl,_,_,rfl,rfl,⟨VZ _,by lia,by simp⟩;rw[G];refine⟨(N:Int),rfl,(by simp),(by lia),λD I=>?_⟩;have J:((N:Int)).toNat=N:=by rfl
 refine eh (lo:=0) (n:=((N:Int)).toNat) (vC m D H) ⟨⟨Oa,rfl⟩,aa,ad I _,rfl,λj y e=>by simp at e⟩ ?_ ?_ ?_
 ·rintro i L Y d S ⟨S,c,S⟩;exact c
 ·rintro i L Y d hi ⟨⟨v0,rfl⟩,c,t,l,u⟩;rw[J]at hi;refine bV ⟨_,rfl,(m:Int),rfl,(by simp),(by lia),λg v=>?_⟩;refine ub (n:=m) [gV<|.int<|(0:Int)+(i:Int),gV<|.int (m:Int)] (λk=>.bl (decide (V.int (RA (((0:Int)+(i:Int))/2^((m:Int)-1-((0:Int)+(k:Int))).toNat) 1)=V.int 1))) rfl v (Pm m8 (by decide)) (λS S S r=>r) ?_ ?_
  ·intro k M H' R k' r;exact⟨_,rfl,_,rfl,_,_,rfl,rfl,_,rfl,_,_,rfl,rfl,_,_,rfl,rfl,(by lia),_,_,rfl,rfl,.inl ⟨rfl,r⟩⟩
  have x:(O7 m).map (λk:Nat=>V.bl (decide (V.int (RA (((0:Int)+(i:Int))/2^((m:Int)-1-((0:Int)+(k:Int))).toNat) 1)=V.int 1)))=(pd m i).map V.bl:=by
   unfold pd;rw[OY];refine QQ λk M=>?_;have UR:k<m:=PY.mp M;have e1:((m:Int)-1-((0:Int)+(k:Int))).toNat=m-1-k:=by simp
   have e2:(0:Int)+(i:Int)=(i:Int):=by simp
   rw[e1,e2];exact Pa V.bl<|ug i<|m-1-k
  rw[x];have nD:g≠D:=(af c v).symm;have n:=ad v<|.lst<|(pd m i).map V.bl;have O:=@aa d g (.lst<|(pd m i).map V.bl);generalize upd d g (.lst<|(pd m i).map V.bl)=H3 at n O ⊢;refine⟨n _ _ c,ap (by lia),⟨_,rfl⟩,aa,(t.trans n).upd_new I _,by rw[N9,l];rfl,λj y b=>?_⟩;by_cases RH:j<Y.length
  ·rw[OV RH]at b;obtain⟨a,z,U,B⟩:=u j y b;exact⟨a,z,U,by rw[ag U];exact n _ _ B⟩
  have W:=(N8.mp b).1;rw[N9,OL]at W;have ej:j=i:=by lia
  subst ej;rw[OP (UC l),l,P3]at b;cases b;exact⟨g,rfl,nD,by rwa[ag nD]⟩
 rintro L Y d ⟨S,c,t,l,u⟩;refine q D Y d t c ⟨by simp_all,λj y b=>?_⟩;obtain⟨a,z,S,B⟩:=u j y b;have W:=(N8.mp b).1;simp_all
inductive IH (p l:J')(hw:Oe)(H:Hp)(i:Nat)(a:St)(h:Hp):Prop
 |mk (v:M' V)(I:a=[gV<|.ref p,gV<|.str<|aj hw,gV<|.ref l,v])(b:Same H h)
theorem EZ(F:Fun K "_law_wins" "_law_wins" EW f U)(W:Fe P w K m b 1 "_law_lists" pA)(X:Fe P w K m b 2 "_law_many" sX)(Y:Fe P w K m b 1 "_law_comes" py)
  (Z:Fe P w K m b 2 "_law_played" sW):aA P w K m b bw 3 f U ["_law_sentence_here","_law_hand","_law_plan"] sY:=by
 refine F.okB (N:=["_law_sentence_here","_law_hand","_law_plan","_law_others"]) λQ_ A o s H vs Q E sc hr h=>?_;obtain⟨p,l,t,G,d,n,xs,rfl,I,T,hl,u,v,x,UQ,hg,q⟩:=h;obtain⟨pp,qa,zs,ep,J,h2,h3⟩:=fY I;cases ep;refine⟨_,(ae (fS 3 (aH gg) gg)
  (dX fj)),?_⟩
 refine⟨_,rfl,_,rfl,p,t,_,d,rfl,J,T,λH1 k1=>⟨gO t d _,rfl,Pm (y6 _ _ _) T,λL ys H2 k2 g B=>?_⟩⟩;have j:=k1.trans k2;refine⟨L,rfl,⟨_,SqL.of g⟩,cx (K:=K) (X:=ys) (IH p l d H2) ⟨Oa,rfl,Same.refl _⟩ ?_ ?_ ?_⟩
 ·rintro i M N V ⟨V,V,e⟩;exact SqL.of<|e _ _ g
 ·rintro i y M N hy ⟨v3,rfl,e⟩;obtain⟨r,a,XT,rfl,ha⟩:=B.at_ i y hy;have C:=pe _ r<|N5 XT;have k:=j.trans e;refine⟨_,rfl,_,rfl,_,rfl,_,rfl,_,rfl,p,l,a,t,_,d,n,xs,r,rfl,k _ _ J,T,k _ _ hl,u.mono k,v,e _ _ ha,C,λfl H4 O V D=>?_⟩;have Xu:=eJ n t d r t.length;refine⟨.ref p,fl,t,G,_,rfl,bJ (k.trans O) _ _ I,D,x,λc hc z hz=>by have:=UQ c hc z hz;simp_all,λH5 k5=>⟨_,rfl,.inl ⟨rfl,.inl ⟨rfl,_,rfl,?_⟩⟩⟩⟩;rw[show(G.all λc=>c.any<|hit (bZ n t d r _).1)=d from hg r,vt];exact JY rfl ⟨_,rfl,e.trans<|O.trans k5⟩
 rintro M N ⟨v3,rfl,e⟩;exact q _<|j.trans e
noncomputable abbrev E1:PQ:=cD 38
noncomputable abbrev zg:PQ:=cD 39
noncomputable abbrev zh:PQ:=cD 40
noncomputable abbrev E2:PQ:=cD 41
inductive zi (e:dg):Prop
 |mk (i:Nat)(h:e.1=1+(i:Int))(H:e.2.1.length<=9000)(a:∀r∈e.2.1,al i r.1)
inductive sZ (vs:ab V)(H:Hp)(Q:VK)(E:XK):Prop
 |mk (v:V)(r:ab Int×Oe)(i:Nat)(h0:vs=[v,.int (1+(i:Int))])(h:RuleAt H r v)(a:al i r.1)(q:Q (.bl N7) H)
inductive pB (vs:ab V)(H:Hp)(Q:VK)(E:XK):Prop
 |mk (l:J')(xs:ab V)(s:ab (ab Int×Oe))(i:Nat)(h0:vs=[.ref l,.int (1+(i:Int))])(a:H l=gV (.lst xs))(b:RulesAt H s xs)(c:s.length<=9000)(d:∀r∈s,al i r.1)(q:∀h:Hp,Same H h->Q (.bl N7) h)
inductive pC (vs:ab V)(H:Hp)(Q:VK)(E:XK):Prop
 |mk (v:V)(e:dg)(h0:vs=[v,.int e.1])(a:EntAt H (λ_=>True) e v)(b:zi e)(q:∀h:Hp,Same H h->Q (.bl N7) h)
inductive s_ (vs:ab V)(H:Hp)(Q:VK)(E:XK):Prop
 |mk (p l:J')(t:Str)(w:V)(hw:Oe)(es:ab dg)(xs:ab V)(h0:vs=[.ref p,.str (aj hw),.ref l])(a:H p=gV (.tup [.str t,w]))(b:t.length<=30)(c:H l=gV (.lst xs))(d:EntsAt H (λ_=>True) es xs)(f:es.map (·.1)=aJ t hw)(g:∀e∈es,zi e)(q:∀h:Hp,Same H h->Q (.bl N7) h)
theorem mH{a:Type}(l:ab a):((l.map λz=>V.bl N7).all rB=N7)/\(l.map λz=>V.bl N7).all gG=true:=by
 have h:=JZ l λz=>N7;exact⟨h.1,h.2.trans<|Pc.mpr λz z=>rfl⟩
theorem E3(F:Fun K "is_rule" "is_rule" E1 f g)(T:Bl m)(j:Fe P w K m b 2 "is_set" CU):aA P w K m b bw 3 f g ["thing","variable"] sZ:=by
 refine F.okB (N:=["thing","variable"]) λl A o s H n Q E p t h=>?_;obtain⟨v,r,i,rfl,⟨a,d,rfl,c,C⟩,k,q⟩:=h;exists _,gg;refine⟨_,rfl,.ref a,_,"tuple",N7,rfl,.tup c,bA NQ,N7,rfl,ao ?_⟩;refine⟨_,rfl,.ref a,_,rfl,.inr ⟨_,SqT.of c,rfl⟩,.inl ⟨rfl,_,rfl,JY rfl (⟨_,rfl,(bu c rfl ⟨_,rfl,_,_,rfl,rfl,.ref d,fB r.1,_,rfl,CL.rd ⟨d,rfl,C⟩,_,rfl,?_⟩)⟩)⟩⟩;have e:lV (1+(i)-1) (fB r.1)=true:=by
  rw[show 1+(i:Int)-1=i by lia];exact x_ k
 rw[e];exact aq ⟨_,rfl,(bu c rfl ⟨.bl r.2,_,"bool",N7,rfl,iT _ _<|ma _,jw _<|rfl,q⟩)⟩
inductive II (D:J')(n:Int)(r:ab (ab Int×Oe))(H:Hp)(i:Nat)(a:St)(zs:ab V)(h:Hp):Prop
 |mk (v:M' V)(h0:a=[v,gV (.int n)])(b:zs=(r.take i).map λ_=>V.bl N7)(c:h=upd H D (.lst zs))
theorem A1(F:Fun K "is_rules" "is_rules" zg f t)(T:Bl m)(J:Fe P w K m b 3 "is_rule" sZ):aA P w K m b bw 4 f t ["thing","variable"] pB:=by
 refine F.okB (N:=["thing","variable"]) λB A o s H C Q E G I h=>?_;obtain⟨l,x,g,n,rfl,c,a,L,k,q⟩:=h;exists _,(dX<|rh gg<|rg<|aI (g_ rfl) rfl T.all RZ<|fV<|gS ["rule","variable"] [Oa,gV 1]<|aH<|pv 0);refine⟨_,rfl,.ref l,_,"list",N7,rfl,.lst c,bA NR,N7,rfl,aq ?_⟩;refine⟨_,rfl,l,rfl,⟨_,SqL.of c⟩,λD d=>?_⟩;have u:=a.len;refine bv (K:=K) (a:=l) (xs:=x) (II D (1+(n:Int)) g H) ⟨Oa,rfl,rfl,rfl⟩ ?_ ?_ ?_
 ·rintro i j z p Z ⟨Z,Z,Z,rfl⟩;refine⟨aa,SqL.of ?_⟩;rw[ag<|af c d];exact c
 ·rintro i y j z p v ⟨M,rfl,rfl,rfl⟩;obtain⟨r,X,e⟩:=a.at_ i y v;have N:=(N8.mp X).1;refine bV ⟨_,rfl,_,rfl,y,r,n,rfl,e.mono<|Same.kept<|ad d _,k r<|N5 X,aa,?_,_,rfl,?_,eO⟩
  ·rw[A'];exact aV (by grind)
  rw[OM,X,OI];rfl
 rintro j z p ⟨Z,Z,rfl,rfl⟩;exists D,_,rfl,SqL.of aa,(mH _).1;rw[(mH _).2];exact q _<|ad d _
theorem A2(F:Fun K "is_entry" "is_entry" zh f d)(T:Bl m)(Y:Fe P w K m b 1 "is_number" jO)(l:Fe P w K m b 4 "is_rules" pB):aA P w K m b bw 5 f d ["thing","variable"] pC:=by
 refine F.okB (N:=["thing","variable"]) λx A o s H y Q E z B h=>?_;obtain⟨v,e,rfl,⟨p,L,r,rfl,a,g,i,Z⟩,⟨n,j,t,k⟩,q⟩:=h;exists _,gg;refine⟨_,rfl,.ref p,_,"tuple",N7,rfl,.tup a,bA NQ,N7,rfl,ao ?_⟩;refine⟨_,rfl,.ref p,_,rfl,.inr ⟨_,SqT.of a,rfl⟩,.inl ⟨rfl,_,rfl,JY rfl ?_⟩⟩;refine⟨_,rfl,(bu a rfl ⟨.int e.1,.int e.1,rfl,cr _,_,rfl,ao ?_⟩)⟩;refine⟨_,rfl,(bu a rfl ⟨_,rfl,.inl ⟨rfl,_,rfl,JY rfl ?_⟩⟩)⟩;refine⟨_,rfl,(bu a rfl ⟨_,rfl,L,r,e.2.1,n,(by rw[j];rfl),g,i,t,k,λu c=>⟨_,rfl,aq ?_⟩⟩)⟩;exact⟨_,rfl,(bu (c _ _ a) rfl ⟨.bl e.2.2,_,"bool",N7,rfl,iT (.bool e.2.2) _<|ma _,jw (.bool e.2.2)<|dD<|ma (H:=H) _,q u c⟩)⟩
inductive IJ (D:J')(es:ab dg)(H:Hp)(i:Nat)(a:St)(zs:ab V)(h:Hp):Prop
 |mk (v c:M' V)(h0:a=[v,c])(d:zs=(es.take i).map λ_=>V.bl N7)(e:h D=gV (.lst zs))(f:∀b o,b≠D->H b=gV o->h b=gV o)
theorem E4(F:Fun K "is_plan" "is_plan" E2 f fd)(T:Bl M)(Ws:Fe P w K M B 2 "variables_of" kM)(ac:Fe P w K M B 5 "is_entry" pC):aA P w K M B bw 6 f fd ["sentence","hand","plan"] s_:=by
 refine F.okB (N:=["sentence","hand","plan","variables"]) λQ_ A O s H vs Q E sc hr h=>?_;obtain⟨p,b,t,w,hw,G,xs,rfl,hp,t9,I,J,j,L,q⟩:=h;refine⟨_,(ae gg
  (ae gg
  (dX<|aI (g_ rfl) rfl T.all RZ<|fV<|jx (N:=["entry","variable"]) (d:=[Oa,Oa]) rfl cS (Cg rfl T.zip (pv 2)<|pv 3) (λS S S S=>(rG (K:=K) (n:=2) rfl rfl<|fz (lW 0<|nD ["entry","variable"])<|fz (lW 1<|nD ["entry","variable"]) l7)) (λS S S S=>iy) λS S S S=>gg))),?_⟩
 refine⟨_,rfl,_,rfl,p,t,w,hw,rfl,hp,Pm t9 (by decide),λl N U k=>?_⟩;rw[<-j]at k;have a:=U _ _ I;have m:=J.mono U;have n:=m.len;refine⟨_,rfl,.ref b,_,"list",N7,rfl,.lst a,bA NR,N7,rfl,ao ?_⟩;refine⟨_,rfl,.ref b,_,rfl,.inl ⟨_,SqL.of a,rfl⟩,_,rfl,.ref l,_,rfl,.inl ⟨_,SqL.of k,rfl⟩,.inl ⟨rfl,_,rfl,JY (by rw[A',A',n]) ?_⟩⟩;refine⟨_,rfl,_,rfl,b,l,rfl,rfl,⟨_,SqL.of a⟩,⟨_,SqL.of k⟩,λD v=>?_⟩;have nb:b≠D:=af a v;have nl:l≠D:=af k v;have am:G.length<=30:=by
  have c:=Pa Qw j;have g:=o8 t hw;rw[A']at c;lia
 refine Cj (K:=K) (a:=b) (b:=l) (X:=xs) (Y:=(G.map (·.1)).map V.int) (n:=xs.length) rfl (by rw[A',A',n]) (IJ D G N) ⟨Oa,Oa,rfl,rfl,aa,λb o a e=>by rw[ag a];exact e⟩ ?_ ?_ ?_
 ·rintro i σ zs z S ⟨S,S,S,S,c,g⟩;exact⟨c,SqL.of<|g _ _ nb a,SqL.of<|g _ _ nl k⟩
 ·rintro i x y σ zs z W hx r ⟨v0,v1,rfl,rfl,c,g⟩ u;obtain⟨e,C,X⟩:=m.at_ i x hx;have Y:=N5 C;have V2:=(N8.mp C).1;have Z:y=.int e.1:=by
   rw[Ow,Ow,C]at r;exact(Oy r).symm
  subst Z;have k2:∀b o,b≠D->N b=gV o->upd z W (.tup [x,.int e.1]) b=gV o:=λb o a d=>by
   have e2:=g b o a d;rw[ag<|af e2 u];exact e2
  have kS:Same N (upd z W<|.tup [x,.int e.1]):=λb o d=>k2 b o (af d v) d;refine⟨W,[x,.int e.1],rfl,SqT.of aa,rfl,_,_,rfl,_,_,rfl,rfl,H_ ⟨_,rfl,_,rfl,x,e,rfl,X.mono kS,L e Y,λH3 k3=>?_⟩⟩;refine⟨k3 _ _ (by rw[ag<|af c u];exact c),?_,_,_,rfl,?_,aa,λb o a d=>?_⟩
  ·rw[A',OJ];exact aV (by grind)
  ·rw[OM,C,OI];rfl
  rw[ag a];exact k3 _ _<|k2 b o a d
 rintro σ zs z ⟨S,S,S,rfl,c,g⟩;rw[Ol<|by simp_all]at c;exists D,_,rfl,SqL.of c,(mH _).1;rw[(mH _).2];exact q _<|U.trans λb o d=>g b o (af d v) d
noncomputable abbrev E5:PQ:=cD 88
def zj(K:C')(T:J'):Sp:=λv H Q _=>∃(a:J') (n:ab Int),v=[.ref a]/\SqL K H a (n.map V.int)/\n.length<=63/\Hk H T/\∀h,Q (.bl N7) h
theorem vD:∀{D:ab Oo} {s o:ab (ab Int)} {b:Oe},aY t C w s D=(o,b)->∃r,o=s++r
 |[],s,o,b,h=>by
  cases h;simp
 |d::r,s,o,b,h=>by
  have H:(match aB t C w s d with|none=>(s,Oc)|some c=>aY t C w _ r)=(o,b):=h;cases g:aB t C w s d with
  |none=>
   simp_all
  |some c=>
   rw[g]at H;obtain⟨a,e⟩:=vD H;simp_all
theorem E6(h:aY t c H [] d=(o,N7))(k:Nat)(f:k<=d.length):aY t c H [] (d.take k)=(o.take k,N7):=by
 have e:=hZ (t:=t) (C:=c) (h:=H) (a:=d.take k) (b:=d.drop k) (s:=[]);rw[Qn,h]at e;cases g:aY t c H [] _ with
 |mk X b=>
  rw[g]at e;cases b with
  |false=>
   simp_all
  |true=>
   have E:=e;obtain⟨r,a⟩:=vD E.symm;have l:=bU g;simp_all
theorem cut_to(l:ab V)(k:Nat)(h:k<=l.length):cZ l Oa (gV (k:Int))=l.take k:=by
 unfold cZ;have e:HT.sIx l.length 0 Oa=0:=rfl;have E:HT.sIx l.length l.length (gV (k))=min k _:=rfl;simp_all
theorem rc:∀{D:ab Oo} {x:ab V} (k:Nat),cJ H D x->cJ H (D.take k) (x.take k)
 |_,_,0,_=>aw
 |[],x,k+1,h=>by
  have:=bI h;simp_all
 |d::D,x,k+1,h=>by
  obtain⟨y,Y,rfl,r,t⟩:=ai h;exact ah r<|rc k t
theorem vE{a:Type}{p:a->Oe}:∀{l:ab a} (d:a),l.any p=N7->∃j,j<l.length/\p (l.getD j d)=N7/\∀m,m<j->p (l.getD m d)=Oc
 |[],_,h=>by cases h
 |x::l,d,h=>by
  cases H:p x with
  |true=>exact⟨0,Z1 _,H,λm b=>by simp_all⟩
  |false=>
   rw[RO,H,RQ]at h;obtain⟨j,c,e,f⟩:=vE d h;refine⟨j+1,Nat.succ_lt_succ c,e,λm b=>?_⟩;cases m with
   |zero=>exact H
   |succ m=>exact f m<|Nat.lt_of_succ_lt_succ b
inductive PapI (l:J')(t:Str)(cs:ab (ab Int))(hw:Oe)(H:Hp)(v:V):Prop
 |mk (r L:J')(s:ab V)(ds:ab Oo)(out:ab (ab Int))(h:v=.ref r)(n:L≠l)(a:H r=gV (.tup [.str<|aj hw,.ref L]))(b:H L=gV (.lst s))(c:cJ H ds s)(e:ds.length<=2100)(f:∀d∈ds,aO d)(g:aY t cs hw [] ds=(out,N7))(i:out.getLast?=gV [])
theorem PapI.keep(h:PapI l t C w H v)(k:TupS H a)(d:∀b x,b≠l->H b=gV (.lst x)->a b=gV (.lst x)):PapI l t C w a v:=by
 obtain⟨r,L,s,D,o,e,n,f,g,i,j,c,m,p⟩:=h;exact⟨r,L,s,D,o,e,n,k _ _ f,d _ _ n g,k.goods c i,j,c,m,p⟩
theorem PapI.same(h:PapI l t c w H v)(k:Same H a):PapI l t c w a v:=h.keep (TupS.of k) λz z z e=>k _ _ e
theorem KR(p:t.length<=8)(q:d.length<=2100)(g:∀c∈C,al t.length c)(j:aY t C H [] d=(o,N7))(m:e∈gy t H d o):zi e/\e.2.1.length<=9000:=by
 obtain⟨i,s,z,rfl⟩:=lq m;have f:∀c∈o,al t.length c:=by
  have:=eQ (w:=H) g (D:=d) (s:=[]) (λz h=>nomatch h);rw[j]at this;exact this
 have k:=ir (H:=H) (d:=d) (v:=1+(i:Int)) f (by lia) (n:=d.length);have W:(bi H d o (1+(i:Int)) d.length).length<=9000:=by lia
 refine⟨⟨i,rfl,W,λr n=>?_⟩,W⟩;obtain⟨a,z,b⟩:=q_ g j n;exact⟨a,λl k=>by have:=b l k;lia⟩
theorem Hs(h:∀os,nX C (bZ E t H os t.length).1=H):dh E t H (AW C H) t.length 0 [] []=none:=by
 rw[EG];refine Rq.mpr λr y z=>?_;have e:AW C H (bZ E t H r t.length).1=false:=by
  unfold AW;rw[show(C.all λc=>c.any<|hit _)=H from h r];simp
 simp_all
inductive IK (a p l L:J')(t:Str)(cs:ab (ab Int))(hw:Oe)(H:Hp)(i:Nat)(b:St)(G:Hp):Prop
 |mk (c d e f:M' V)(vs:ab V)(I:b=[gV<|.ref a,gV<|.ref p,gV<|.str<|aj hw,gV<|.ref l,c,d,e,f,Oa])(g:Same H G)(h:G l=gV (.lst vs))(j:G L=gV (.lst ([aj Oc,aj N7].map V.str)))(k:vs.length<=i+1)(m:∀v∈vs,PapI l t cs hw G v)
inductive IL (a p l T:J')(t:Str)(cs:ab (ab Int))(hw:Oe)(vs:ab V)(i:Nat)(b:St)(G:Hp):Prop
 |mk (c d e f g:M' V)(I:b=[gV<|.ref a,gV<|.ref p,gV<|.str<|aj hw,gV<|.ref l,c,d,e,f,g])(h:RD G (jz t cs) (.ref p))(j:G l=gV (.lst vs))(k:Hk G T)(m:∀v∈vs,PapI l t cs hw G v)
theorem KS{f4:J'}{d4:Oz}(F:Fun K "law" "law" E5 f fd)(dk:Fe P w K X B 2 "_law_sentence" (wz K))(dn:Fe P w K X B 2 "_law_winner" ph)(dp:Fe P w K X B 10 "settled_paper" li)
  (dr:Fe P w K X B 6 "_law_paper" (sN K)) (dt:Fe P w K X B 5 "_law_sets" su) (dv:Fe P w K X B 8 "plan_of" sO) (dy:Fe P w K X B 6 "is_plan" s_) (dK:Fe P w K X B 3 "_law_wins" sY) (dT:Md P w K X B 1 "Planned" CP f4 d4 ["self","plan"] (w9 CP))
  (dV:Fe P w K X B 16 "losing_play" (sV CP T')):aA P w K X B bw 17 f fd ["_law_script"] (zj K T'):=by
 refine F.okB (N:=["_law_script","_law_sentence_here","_law_wins_here","_law_papers","_law_hand","_law_paper_here","_law_sets_here","_law_good","_law_plan"]) λQ_ A ce s H vs Q E sc hr h=>?_;obtain⟨a,ns,rfl,hS,hl,cf,q⟩:=h;have hu:=hr.units;refine⟨_,(ae gg
  (ae gg
  (ae gg
  (ae (fS 4 (aH gg) (ae gg
   (ae (A8 gg gg)
   (ax<|bM (dj (BQ hu) gg (pv 6)<|by rfl) (ax<|di<|fL Pl Qp QD dz (pv 3)<|fV<|dI<|oe (pv 4)<|gW l_ gg l9<|xu<|eU vM (fL Pl SJ Ui (kK hu) (pv 6) gg) bW) aN))))
  (ae (fS 5 (aH<|pv 3) (ae gg
   (ae (bM (PW.pt<|lu gg<|lu (pK Gv gg fj) gg) (dX fj) aN)
   gg)))
  (dX fj)))))),?_⟩
 refine⟨_,rfl,a,ns,8,rfl,hS,hl,(by simp),(by simp),λp t C H1 k1 Y ok c4=>?_⟩;have d0:=ok.len;have bb:=ok.small (by lia);have az:∀c∈C,∀l∈c,1<=absI l/\absI l<=(t.length:Int):=λc m l hl=>⟨(ok.cl c m).pos l hl,(ok.cl c m).2 l hl⟩;have m:∀c∈C,al t.length c:=λc m=>⟨(uA (n:=0) (ok.cl c m).1).1,λl hl=>az c m l hl⟩;obtain⟨pp,qa,zs,ep,h1,h2,h3⟩:=fY Y;cases ep;have t8:t.length<=8:=by lia
 have bc:=ok.many;have E9:=KL m t8;have aC:dG t C t.length 0 0=iq t C:=og m E9.run<|oZ E9.last;refine⟨_,rfl,p,qa,t,zs,C,rfl,h1,h2,h3,ok.rng,ok.ws,t8,λH2 k2=>?_⟩;rw[aC];have ac:=k2 _ _ h1;have am:=k2 _ _ h2;have an:=h3.mono k2;refine⟨_,rfl,p,qa,t,zs,C,rfl,ac,am,an,m,t8,(by lia),λr la vs H3 k3 nr d1 bd bf bg=>?_⟩;obtain⟨e1,e2,e3,e4,e5⟩:=E9;generalize iq t C=D at bd e1 aC ⊢;generalize Er t C=ds at bg e1 e2 e3 ⊢;generalize Es t C=O at e1 e4 e5 ⊢;have ch:∀{M:Oe} {N:ab Oo} {u:ab (ab Int)},aY t C M [] N=(u,N7)->[]∈u->M=D:=λr h=>(og m r h).symm.trans aC;clear e5;refine⟨(by show 1<=sizeLine;decide),λl nl=>?_⟩;have k4:=ad nl<|.lst [.ref r];have s4:=@aa H3 l (.lst [.ref r]);have ck:la≠l:=af bf nl;generalize upd H3 l (.lst [.ref r])=H4 at k4 s4 ⊢;refine⟨(by show 2<=sizeLine;decide),λlh aF=>?_⟩;have k5:=ad aF<|.lst [.str<|Oh "spoiler",.str<|Oh "wisher"];have s5:upd H4 lh (.lst [.str<|Oh "spoiler",.str<|Oh "wisher"]) lh=gV (.lst ([aj Oc,aj N7].map V.str)):=aa;have co:lh≠l:=λz=>by lia
 generalize upd H4 lh (.lst [.str<|Oh "spoiler",.str<|Oh "wisher"])=H5 at k5 s5 ⊢;have bk:=k4.trans k5;refine⟨lh,rfl,⟨_,SqL.of s5⟩,cx (K:=K) (a:=lh) (X:=[aj Oc,aj N7].map V.str) (IK a p l lh t C D H3)
  ⟨Oa,Oa,Oa,Oa,[.ref r],rfl,bk,k5 _ _ s4,s5,(by show 1<=1;lia),λv T=>?_⟩ (λi σ G S hp=>by obtain⟨S,S,S,S,S,S,S,S,g,S⟩:=hp;exact SqL.of g) ?_ ?_⟩
 ·rw[Oi.mp T];exact PapI.same ⟨r,la,vs,ds,O,rfl,ck,bd,bf,bg,Pm e3 (by decide),e2,e1,e4⟩ bk
 ·rintro i y σ G hy ⟨v4,v5,v6,v7,Z,rfl,kG,gl,cp,ct,I⟩;obtain⟨M,rfl⟩:∃M,y=.str (aj M):=by
   have bl:=N5 hy;simp_all
  have d2:i<2:=(N8.mp hy).1;have k:=k3.trans kG;have aL:=k1.trans<|k2.trans k;refine⟨_,rfl,_,rfl,_,rfl,a,p,qa,ns,t,M,zs,C,rfl,aL.seq hS,hl,k _ _ ac,Wj t8,k _ _ am,an.mono k,bc,m,λpq a0 ls N u G1 k6 p1 p2 p3 p4 p5 p6 p7=>?_⟩;have d3:u.length=N.length:=by
   have:=bU p7;simpa using this
  have d5:=bI p4;have cv:∀d∈N,jd d/\sk d:=λd Y=>dO<|p6 d Y;have a1:=k.trans k6;refine⟨_,rfl,_,rfl,p,qa,pq,a0,t,M,zs,ls,C,N,rfl,a1 _ _ ac,Wj t8,a1 _ _ am,an.mono a1,by lia,m,p1,p3,p4,Pm p5 (by decide),cv,λtp sl ys G2 k7 u1 u2 u3 u4=>?_⟩;rw[p7]at u1 u4;replace u4:CLs G2 u ys:=u4;have d6:=u4.length;exists tp,_,rfl,SqT.of u1,rfl,_,_,rfl,_,_,rfl,rfl;have cz:=k6.trans k7;refine⟨OG _,λet c0=>?_⟩;have k8:=ad c0<|.tup [];have r8:=@aa G2 et (.tup []);generalize upd G2 et (.tup [])=G4 at k8 r8 ⊢;have U:=cz.trans k8;have as:=U _ _ gl;have bm:=U _ _ cp;have br:∀v∈Z,PapI l t C D G4 v:=λv T=>(I v T).same U;have d7:a0≠l:=λz=>by lia
  have cl:P1 (u.map fB)=true:=JX (d:=.list<|u.map fB) (Nice.mono (kE<|ny u)<|by simp).shaped;exists _,rfl,.tuple [],u.map fB,bn r8 aw,dm (k8 _ _ u3) (u4.mono k8).rds,rfl,cl,by decide,_,rfl;cases c1:(u.map fB).any λd=>O4 d (.tuple [])with
  |false=>exact ao ⟨_,_,_,_,Z,rfl,kG.trans U,as,bm,Wj ct,br⟩
  |true=>
   obtain⟨j,hj,m1,m2⟩:=vE P_ c1;rw[A']at hj;have bs:u[j]?=gV []:=by
    rw[N6,Ow,N_ hj]at m1;have bt:O4 (fB u[j]) (.tuple [])=true:=m1;rw[gH]at bt;rw[N_ hj,OO bt]
   have c2:M=D:=ch p7<|N5 bs;subst c2;refine aq ⟨_,rfl,.inl ⟨rfl,_,SqL.of as⟩,_,rfl,_,rfl,(bu ((k7.trans k8) _ _ p1) rfl ⟨_,rfl,.inl ⟨rfl,_,SqL.of<|k8 _ _ u3⟩,OG _,λb0 c3=>?_⟩)⟩;have k9:=ad c3<|.tup [];have r9:=@aa G4 b0 (.tup []);generalize upd G4 b0 (.tup [])=G5 at k9 r9 ⊢;have a2:=k8.trans k9;refine⟨.tuple [],u.map fB,_,sl,ys,j,rfl,rfl,a2 _ _ u3,(u4.mono a2).rds,bn r9 aw,rfl,cl,by decide,by rw[A'];exact hj,m1,m2,_,_,rfl,rfl,_,rfl,a0,ls,rfl,SqL.of<|(k7.trans a2) _ _ p3,λlc a3=>⟨(by show 2<=sizeLine;decide),λpc a4=>?_⟩⟩;have c5:cZ ls Oa (gV<|(j:Int)+1)=ls.take (j+1):=cut_to ls (j+1) (by lia);rw[c5]at a4 ⊢;have b1:=ad a3<|.lst<|ls.take<|j+1;have b2:=@aa G5 lc (.lst<|ls.take<|j+1);have c6:lc≠l:=λz=>by rw[z,(k9 _ _ as)]at a3;cases a3
   generalize upd G5 lc (.lst<|ls.take<|j+1)=G6 at b1 b2 a4 ⊢;have a5:=ad a4<|.tup [.str<|aj M,.ref lc];have b3:=@aa G6 pc (.tup [.str<|aj M,.ref lc]);generalize upd G6 pc (.tup [.str<|aj M,.ref lc])=G7 at a5 b3 ⊢;have W:=k9.trans<|b1.trans a5;have b4:=W _ _ as;exists l,Z,_,rfl,rfl,b4,ap (by lia);have kt:TupS G7 (upd G7 l<|.lst<|Z++[.ref pc]):=λb zs e=>by rw[ag λz=>by simp_all];exact e
   have kl:∀b xs,b≠l->G7 b=gV (.lst xs)->upd G7 l (.lst<|Z++[.ref pc]) b=gV (.lst xs):=λb xs n e=>by rw[ag n];exact e
   refine⟨_,_,_,_,Z++[.ref pc],rfl,((kG.trans U).trans W).upd_new nl _,aa,kl _ _ co<|W _ _ bm,by rw[N9];exact QK ct,λv T=>?_⟩;obtain T|T:=OH.mp T
   ·exact((br v T).same W).keep kt kl
   rw[Oi.mp T];refine PapI.keep ⟨pc,lc,_,N.take<|j+1,u.take<|j+1,rfl,c6,b3,a5 _ _ b2,rc _<|bN (k7.trans<|k8.trans W) _ _ p4,by rw[OJ];lia,λd Y=>p6 d<|RB Y,E6 p7 _ (by lia),?_⟩ kt kl;rw[OM,bs];exact List.getLast?_concat
 rintro σ G ⟨v4,v5,v6,v7,Z,rfl,kG,gl,S,S,I⟩;have k:=k3.trans kG;have aL:=k1.trans<|k2.trans k;have d8:Z.length<=3:=by assumption
 refine⟨_,rfl,l,rfl,⟨_,SqL.of gl⟩,cx (K:=K) (a:=l) (X:=Z) (IL a p l T' t C D Z)
  ⟨_,_,_,_,_,rfl,xG (k _ _ ac) (k _ _ am)<|an.mono k,gl,cf.mono aL,I⟩ (λi σ G S hp=>by obtain⟨S,S,S,S,S,S,S,g,S⟩:=hp;exact SqL.of g) ?_ ?_⟩
 ·rintro i y σ G hy ⟨w4,w5,w6,w7,w8,rfl,Y,gl,tb,I⟩;obtain⟨pp,qa,zs,ep,h1,h2,h3⟩:=fY Y;cases ep;obtain⟨r,la,ls,ds,O,rfl,n,g1,g2,g3,g4,g5,g6,g7⟩:=I _<|N5 hy;have he:[]∈O:=Yr g7;refine⟨_,rfl,_,rfl,p,qa,r,la,t,D,zs,ls,C,ds,O,rfl,h1,(Pm t8 (by decide)),h2,h3,(by lia),m,g1,g2,g3,(Pm g4 (by decide)),g5,g6,qV g7,λL xs G1 j1 nL hL c8=>?_⟩;have av:=w_ c8;have a6:=EO (Pm t8 (by decide)) m g6;have a7:=λos=>AU os m g6 he;have a8:=pr t D ds O;have da:=AV t D ds O;have a9:=λe (h:e∈gy t D ds O)=>KR t8 g4 m g6 h;generalize gy t D ds O=N at av a6 a7 a8 da a9;refine⟨_,rfl,(bu (j1 _ _ g1) rfl ⟨_,rfl,.inl ⟨rfl,_,rfl,JY rfl ?_⟩⟩)⟩;refine⟨_,rfl,_,rfl,_,rfl,p,L,t,_,D,N,xs,rfl,j1 _ _ h1,(Pm t8 (by decide)),hL,av,a8,(λe he=>(a9 e he).1),λG2 j2=>⟨N7,N7,rfl,rfl,_,rfl,ao ?_⟩⟩;have b5:=j1.trans j2;refine⟨_,rfl,_,rfl,_,rfl,p,L,t,C,D,N,xs,rfl,bJ b5 _ _ Y,t8,j2 _ _ hL,av.mono j2,a6,bb,az,a7,λG3 j3=>⟨_,rfl,ao ?_⟩⟩;have db:=b5.trans j3;have b6:=j2.trans j3;refine⟨_,rfl,_,rfl,_,rfl,λx dx hx dc U5=>?_⟩;have x3:G3 x=none:=hx;have j4:Same G3 (upd (upd G3 dx<|.own x) x<|.ins CP dx []):=λb o e=>by
   rw[ag<|af e hx,ag<|af e dc];exact e
  have s4:=@aa (upd G3 dx<|.own x) x (.ins CP dx []);generalize upd (upd G3 dx<|.own x) x (.ins CP dx [])=G4 at j4 s4 ⊢;refine⟨x,dx,L,N,xs,λS=>True,rfl,s4,(b6.trans j4) _ _ hL,av.mono<|b6.trans j4,(by rw[a8];exact o7 _ _),by lia,λe he=>(a9 e he).2,λG5 Xu kx=>?_⟩;have dd:Same G3 G5:=λb o e=>kx b o (af e x3)<|j4 _ _ e;have J:=db.trans dd;refine⟨rfl,p,x,t,C,D,N,rfl,⟨bJ J _ _ Y,t8,Xu,a6,bb,λc h l hl=>(az c h l hl).1⟩,tb.mono J,λv G6 cc de cd S=>?_⟩;rw[Hs a7]at cd;cases cd;refine⟨rfl,_,rfl,ao ?_⟩;have ba:∀b o,(∀ps,o≠HO.tbl ps)->G b=gV o->G6 b=gV o:=λb o n e=>cc.at_ (tb.mono J) (J _ _ e) n;exact⟨_,_,_,_,_,rfl,CD (bJ J _ _ Y) cc<|tb.mono J,ba _ _ (by lia) gl,de,λv T=>(I v T).keep (λb zs e=>ba _ _ (by lia) e) λb xs S e=>ba _ _ (by lia) e⟩
 rintro σ G ⟨w4,w5,w6,w7,w8,rfl,S⟩;exact q _
abbrev fqq(K n s f e):=Fun K n n s f e
theorem all_mk {P:Ou}{w:ON}{K:C'}{h:Pd}{mg:Str->M' K'}{fa:J'}(X:K.In h)(G:h.Ns O_ mg)(hfa:mg "law"=gV (.ref fa)){CS CP:J'}{tM:Tok}(D1:DA mg K "is_number" Kj f1 e1)(D2:DA mg K "is_set" Mn f2 e2)(D3:DA mg K "stands_by" yN f3 e3)(D4:DA mg K "some_stands" ID f4 e4)(D5:DA mg K "comes_true" EK f5 e5)(D6:DA mg K "hand_of" yn f6 e6)(D7:DA mg K "other_hand" wB f7 e7)(D8:DA mg K "literal_by" DW f8 e8)(D9:DA mg K "variables_of" HZ f9 e9)(D10:DA mg K "stands_both_ways" Ib f10 e10)(D11:DA mg K "joined" yo f11 e11)(D12:DA mg K "dropped" uO f12 e12)(D13:DA mg K "is_place" CY f13 e13)(D14:DA mg K "begins_with" Ic f14 e14)(D15:DA mg K "given_set" C0 f15 e15)(D16:DA mg K "hits" rX f16 e16)(D18:DA mg K "hits_each" C7 f18 e18)(D19:DA mg K "hits_set" C8 f19 e19)(D20:DA mg K "join_set" C2 f20 e20)(D21:DA mg K "drop_set" C1 f21 e21)(D22:DA mg K "line_set" Ie f22 e22)(D23:DA mg K "sets_of" yw f23 e23)(D24:DA mg K "end_empty" Ms f24 e24)(D25:DA mg K "whole_sets" Mt f25 e25)(D26:DA mg K "named_by" Ij f26 e26)(D27:DA mg K "renamed" Az f27 e27)(D29:DA mg K "needed_by" Kv f29 e29)(D30:DA mg K "first_places" Kz f30 e30)(D31:DA mg K "shortened_paper" My f31 e31)(D32:DA mg K "rest_behind" DX f32 e32)(D33:DA mg K "hitting_set" Ir f33 e33)(D34:DM K CS "__init__" "Searcher.__init__" El f34 e34)(D35:DM K CS "put" "Searcher.put" Io f35 e35)(D36:DM K CS "learn" "Searcher.learn" yJ f36 e36)(D37:DM K CS "learn_join" "Searcher.learn_join" DT f37 e37)(D38:DM K CS "fill_in" "Searcher.fill_in" DY f38 e38)(D39:DM K CS "turn_back" "Searcher.turn_back" Eb f39 e39)(D40:DM K CS "look" "Searcher.look" Eg f40 e40)(D41:DM K CS "go" "Searcher.go" MB f41 e41)(D42:DM K CS "paper" "Searcher.paper" yP f42 e42)(D43:DA mg K "settled_paper" u9 f43 e43)(D44:DA mg K "turned_about" Iy f44 e44)(D45:DA mg K "rule_of" Iz f45 e45)(D46:DA mg K "plan_of" Ez f46 e46)(D47:DA mg K "all_stand" IB f47 e47)(D48:DM K CP "__init__" "Planned.__init__" IC f48 e48)(D49:DM K CP "answer" "Planned.answer" yV f49 e49)(D50:DA mg K "played_on" NU f50 e50)(D51:DA mg K "first_loss" zb f51 e51){af8:J'} {akC:Obj} (a52:PH K O_ "losing_play"=gV (gV (.ref f52)))(FL52:FunL K "losing_play" "losing_play" sS f52 e52 af8)(k52:QB K (.ref f52)=N7)(lc52:K.lookup af8=gV akC)(pc52:HV akC 333)(nc52:af8≠333)(D53:DA mg K "is_rule" E1 f53 e53)(D54:DA mg K "is_rules" zg f54 e54)(D55:DA mg K "is_entry" zh f55 e55)(D56:DA mg K "is_plan" E2 f56 e56)(D57:DA mg K "_law_cell_at" CK f57 e57)(D58:DA mg K "_law_mix" Mm f58 e58)(D59:DA mg K "_law_drawn" CM f59 e59)(D60:DA mg K "_law_sentence" HY f60 e60)(D61:DA mg K "_law_levels" y_ f61 e61)(D62:DA mg K "_law_winner" za f62 e62)(D63:DA mg K "_law_own" Mq f63 e63)(D64:DA mg K "_law_set" Ih f64 e64)(D65:DA mg K "_law_dropped" Dc f65 e65)(D66:DA mg K "_law_number" Dd f66 e66)(D67:DA mg K "_law_is_set" yx f67 e67)(D68:DA mg K "_law_ahead" Di f68 e68)(D69:DA mg K "_law_join" Dj f69 e69)(D70:DA mg K "_law_line" Do f70 e70)(D71:DA mg K "_law_sets" Dp f71 e71)(D72:DA mg K "_law_first_lines" Et f72 e72)(D73:DA mg K "_law_more" Ix f73 e73)(D74:DA mg K "_law_paper" Eu f74 e74)(D75:DA mg K "_law_lists" zf f75 e75)(D76:DA mg K "_law_many" EV f76 e76)(D77:DA mg K "_law_answer" IF f77 e77)(D78:DA mg K "_law_played" vy f78 e78)(D79:DA mg K "_law_comes" ze f79 e79)(D80:DA mg K "_law_wins" EW f80 e80)(D81:DA mg K "law" E5 f81 e81)(z0:PH K O_ "len"=gV Oa)(z1:PH K O_ "range"=gV Oa)(z2:PH K O_ "tuple"=gV Oa)(z3:PH K O_ "sorted"=gV Oa)(z4:PH K O_ "isinstance"=gV Oa)(z5:PH K O_ "int"=gV Oa)(z6:PH K O_ "bool"=gV Oa)(z7:PH K O_ "list"=gV Oa)(z8:PH K O_ "abs"=gV Oa)(z9:PH K O_ "all"=gV Oa)(z10:PH K O_ "zip"=gV Oa)(z11:PH K O_ "set"=gV Oa)(z12:PH K O_ "any"=gV Oa)(z13:PH K O_ "max"=gV Oa)(z14:PH K O_ "enumerate"=gV Oa)(z15:PH K O_ "dict"=gV Oa)(z16:PH K O_ "min"=gV Oa){tW tS:Tok} (zW:PH K O_ "WISHER"=gV (gV (.str (Oh "wisher") tW)))(zS:PH K O_ "SPOILER"=gV (gV (.str (Oh "spoiler") tS)))(CSy:PH K O_ "Searcher"=gV (gV (.ref CS)))(zM:PH K O_ "MOST_LOOKS"=gV (gV (.int 10000 tM)))(c1:Sr K CS td=N7)(c2:S4 K CS=N7)(c3:Uv K CS=N7)(c4:Pz K (.ref CS) "__setattr__"=gV (gV (.builtin "object.__setattr__")))(n1:Pz K (.ref CS) "sentence"=gV Oa)(n2:Pz K (.ref CS) "lines"=gV Oa)(n3:Pz K (.ref CS) "places"=gV Oa)(n4:Pz K (.ref CS) "begun"=gV Oa)(n5:Pz K (.ref CS) "firsts"=gV Oa)(n6:Pz K (.ref CS) "rests"=gV Oa)(n7:Pz K (.ref CS) "winner"=gV Oa)(aoc:Vf K CS=N7)(aod:QB K (.ref CS)=N7)(CPy:PH K O_ "Planned"=gV (gV (.ref CP)))(p1:Sr K CP td=N7)(p2:S4 K CP=N7)(p3:Uv K CP=N7)(p4:Pz K (.ref CP) "__setattr__"=gV (gV (.builtin "object.__setattr__")))(p5:Pz K (.ref CP) "entries"=gV Oa)(aoe:Vf K CP=N7)(aof:QB K (.ref CP)=N7):∃ fd:Oz,(∀ (s:Od) (v:K'),ZW s fd ⟨[v],[]⟩ [("_law_script",v)])/\(∀ T∈([333]:ab J'),∃ c,Ss h c T)/\∀ base:Pd,K.In base->base.Ns O_ mg->BM mg base->aA P w K mg base bw 17 fa fd ["_law_script"] (zj K 333):=by
 have e:=hfa.symm.trans D81.a;cases e;have TB:Bl mg:=⟨Pr X G z0,Pr X G z1,Pr X G z2,Pr X G z3,Pr X G z4,Pr X G z5,Pr X G z6,Pr X G z7,Pr X G z8,Pr X G z9,Pr X G z10,Pr X G z11,Pr X G z12,Pr X G z13,Pr X G z14,Pr X G z15,Pr X G z16,⟨_,SO X G zW,⟨_,rfl⟩⟩,⟨_,SO X G zS,⟨_,rfl⟩⟩⟩;have adg:Cls K CS:=⟨c1,c2,c3,c4⟩;have TSr:pN K mg CS:=⟨TB.len,TB.list,adg,n1,n2,n3,n4,n5,n6,n7,TB.g_WISHER,TB.g_SPOILER⟩;have TSe:MD mg:=⟨⟨_,SO X G zM,⟨_,rfl⟩⟩⟩;have akO:Cls K CP:=⟨p1,p2,p3,p4⟩;have TPy:KO K mg CP:=⟨TB.tuple,TB.dict,akO,p5⟩;obtain⟨_,_,kV,dc,pm,an,cd,ct,_,rfl,_,_⟩:=D81.F.ex;refine⟨Ru "law" "law" (fq E5) (cP E5) (aD E5) .none kV dc pm an cd ct,λs v=>.of_eq rfl,Sa.mpr ⟨⟨af8,qB X lc52 pc52 nc52⟩,Vp _⟩,λbase hKb _ hBM=>?_⟩;have L52:rJ mg base af8 333:=⟨qB hKb lc52 pc52 nc52,hBM⟩;have F52:=FL52.toFun k52;have ge:=@L2.DA.fe P w base;have gf:=@L2.DA.fn P w base;have gm:=@L2.DM.mt P w base;have G1:=ge D1 (Kk D1.F TB);have G2:=ge D2 (Kl D2.F TB G1);have G3:=ge D3 (AJ D3.F TB);have G4:=ge D4 (Hh D4.F TB G3);have G5:=gf D5 (EM D5.F TB G4);have G6:=ge D6 (Ar D6.F TB);have G7:=ge D7 (CV D7.F TB);have G8:=ge D8 (DZ D8.F);have G9:=ge D9 (Gz D9.F TB G6);have G10:=ge D10 (GD D10.F TB);have G11:=ge D11 (As D11.F TB);have G12:=ge D12 (wD D12.F TB G7 G9);have G13:=ge D13 (C3 D13.F G1);have G14:=ge D14 (GE D14.F TB);have G15:=ge D15 (C4 D15.F TB G13);have G16:=ge D16 (C_ D16.F);have G17:=ge D16 (Ef D16.F);have G18:=ge D18 (Da D18.F TB G16);have G19:=ge D19 (Db D19.F TB G2 G18);have G20:=ge D20 (C6 D20.F TB G1 G13 G7 G9 G10 G11);have G21:=ge D21 (C5 D21.F TB G13 G12);have G22:=ge D22 (GG D22.F TB G14 G15 G19 G20 G21);have G23:=ge D23 (Au D23.F TB G22);have G24:=ge D24 (Kt D24.F);have G25:=ge D25 (Ku D25.F G23 G24);have G26:=ge D26 (GP D26.F);have G27:=ge D27 (GR D27.F);have G28:=ge D27 (GS D27.F);have G29:=ge D29 (Kx D29.F TB G26);have G30:=ge D30 (KB D30.F TB);have G31:=ge D31 (KD D31.F TB G25 G30 G27 G29 G28);have G32:=ge D32 (D_ D32.F);have G33:=ge D33 (GZ D33.F TB G17 G3 G6);have G34:Md P w K mg base _ "Searcher" CS _ _ _ _:=⟨Eo D34.F TSr G12,D34.F.bs,⟨aoc,D34.a,D34.i,aod⟩,SO X G CSy⟩;have G35:=gm D35 adg (GY D35.F TSr);have G36:=gm D36 adg (AG D36.F TSr G12 G35);have G37:=gm D37 adg (DV D37.F TSr G11 G36);have G38:=gm D38 adg (Ea D38.F TSr G8 G32);have G39:=gm D39 adg (Ed D39.F TSr G38 G37);have G40:=gm D40 adg (Ej D40.F TSr G33 G36 G39 G38);have G41:=gm D41 adg (KK D41.F TSr G40);have G42:=gm D42 adg (AL D42.F TSr G31);have G43:=ge D43 (wT D43.F TSe G34 G41 G42);have G44:=ge D44 (Hc D44.F TB);have G45:=ge D45 (Hd D45.F TB G44);have G46:=ge D46 (EA D46.F TB G25 G9 G45);have G47:=ge D47 (EC D47.F G3);have G48:Md P w K mg base _ "Planned" CP _ _ _ _:=⟨Hg D48.F TPy,D48.F.bs,⟨aoe,D48.a,D48.i,aof⟩,SO X G CPy⟩;have G49:=gm D49 akO (AO D49.F TPy G47);have G50:=ge D50 (MJ D50.F TB G6 G49);have G51:=gf D51 (Hj D51.F TB G50 D51.F.bs D51.F.kp D51.a);have G52:Fe P w K mg base _ "losing_play" _:=⟨_,_,_,EU FL52 L52 TB G5 G51,F52.bs,k52,SO X G a52⟩;have G53:=ge D53 (E3 D53.F TB G2);have G54:=ge D54 (A1 D54.F TB G53);have G55:=ge D55 (A2 D55.F TB G1 G54);have G56:=ge D56 (E4 D56.F TB G9 G55);have G57:=ge D57 (Gw D57.F TB);have G58:=ge D58 (Ki D58.F);have G59:=ge D59 (CT D59.F TB);have G60:=ge D60 (Gy D60.F TB G57 G58 G59);have G61:=ge D61 (AR D61.F TB);have G62:=ge D62 (AS D62.F TB G61);have G63:=ge D63 (Kr D63.F TB);have G64:=ge D64 (GK D64.F TB);have G65:=ge D65 (Dh D65.F TB G63);have G66:=ge D66 (GJ D66.F TB);have G67:=ge D67 (Av D67.F TB G66);have G68:=ge D68 (Dm D68.F TB G66);have G69:=ge D69 (Dn D69.F TB G66 G68 G63 G64);have G70:=ge D70 (Dt D70.F TB G69 G68 G67 G65);have G71:=ge D71 (Du D71.F G70);have G72:=ge D72 (Ew D72.F TB G64 G70);have G73:=ge D73 (Hb D73.F TB G70);have G74:=ge D74 (Ey D74.F TB G57 G58 G72 G70 G73);have G75:=ge D75 (A0 D75.F TB);have G76:=ge D76 (EY D76.F TB G63);have G77:=ge D77 (Hn D77.F TB);have G78:=ge D78 (xg D78.F TB G63 G77);have G79:=ge D79 (AZ D79.F TB);have G80:=ge D80 (EZ D80.F G75 G76 G79 G78);exact KS D81.F G60 G62 G43 G74 G71 G46 G56 G80 G48 G52
theorem walk {l:WY}{q:Ou}{loose:ab Str}{X:(Str->M' K')->Pd->Prop}{Y:ON->Pd->Prop}{d:DefRec}{K:lD->C'}(n:l.most=gV 63)(H:d.params.defaults=[])
  (j:∀ (w:ON) (h:Pd),Y w h->(K w.params).In h/\∀ T∈([333]:ab J'),h.get? T=gV (Td #[])) (e:∀ P:lD,(([333]:ab J').all λT=>((K P).lookup T).isNone)=N7)
  (F:∀ (w:ON) (m:Str->M' K') (g:J') (h:Pd),(K w.params).In h->h.Ns O_ m->m d.name=gV (.ref g)->
   ∃ i:Oz,(∀ (s:Od) (u:K'),ZW s i ⟨[u],[]⟩ [("_law_script",u)])/\(∀ T∈([333]:ab J'),∃ c,Ss h c T)/\∀ b:Pd,(K w.params).In b->b.Ns O_ m->BM m b->aA l.prog w (K w.params) m b bw 17 g i ["_law_script"] (zj (K w.params) 333)):
  rz q loose X Y l.row.toRowW d [] (λf v=>Za f v):=
 L2.walk_ofT (B:=λw=>zj _ 333) _ n (by decide) H ⟨rfl,by decide,by decide⟩ j e F λz z a N k hT o=>⟨a,N,rfl,o,k,TabAt.start (hT 333 Ot),λz=>rfl⟩
end K35
open PySem PySem.W PySem.Calls PyProof.Rows
set_option maxRecDepth 100000
set_option maxHeartbeats 0
local macro_rules|`(tactic|o_head $H)=>`(tactic|refine HD.head (q:=K35.vQ) (loose:=[]) (lv:=[]) $H (N:=8094) (HD.left (by kernel_rfl) (fun s=>by kernel_rfl) (by kernel_rfl) (by kernel_rfl) (fun w=>by kernel_rfl) K35.seenA K35.seenB K35.seenC K35.seenD (fun w os=>by kernel_rfl)) (by rfl) (by rfl) (by rfl) (by rfl) (by assumption) (by decide+kernel) ⟨rfl,rfl,rfl,rfl,rfl,by decide+kernel⟩ ?hw ?hc)
theorem PySem.Challenge.cw_oathduel_k35_whole_plans_win_holds : PySem.Challenge.rw_oathduel_k35_whole_plans_win.Holds := by
 w_on
 refine holds_law K35.said λsaid=>?_
 k_head
 (case hw=>w_witness2)
 k_fill
 refine K35.walk (l:=QS) rfl rfl (λw h Y=>‹_›) (λP=>by kernel_rfl) ?F
 case F=>
  intro w mg fa h KX G hmg;apply K35.all_mk KX G hmg
  (case CSy|zM|CPy=>k_is)
  (case a52=>k_is);(case FL52=>refine' L2.funL_mk ?l ?c;case l|c=>k_is);(case lc52=>k_is);(case pc52=>exact⟨_,_,_,_,_,_,_,_,rfl,rfl,rfl,rfl,rfl,rfl,rfl,rfl⟩);(case nc52=>simp)
  all_goals first|k_is|(refine' L2.DA.of KX G ?a (L2.fun_mk ?l ?c ?k);case a|l|c|k=>k_is)|(refine' L2.DM.of ?a ?i (L2.fun_mk ?l ?c ?k);case a|i|l|c|k=>k_is)
