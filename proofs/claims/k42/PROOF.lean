import PyProof.Rows.All
import Wide.All
import OpenK.AllK
import Wide.FinOn
import Lean
import PyProof.EqAt
import PyProof.EqKinds
import PyProof.TupleCall
import PySem.Challenge.RW_oathduel_k42_searchers_dealt_out
set_option Elab.async false
set_option linter.all false
set_option maxRecDepth 100000
set_option maxHeartbeats 4000000
open Array renaming length_toList->NH,getElem?_toList->NZ,getElem?_eq_getElem->Ov,getElem?_eq_some_iff->OL,contains_iff_mem->QE,perm_iff_toList_perm->QM,mem_toList_iff->QY,toList_push->RH,forIn_toList->SH,getElem?_eq_none->Td,getD->TM,mk->Ug,toList_setIfInBounds->U9,toList_filterMap->Wv,toList_reverse->Xo,size_map->Xp,getElem_toList->Xq,toList_append->XH,toList->Y0,toList_inj->Zq,replicate->Z2,size_zip->UM
open Array.Perm renaming refl->Z3
open Bool renaming false->MW,true->MX,false_ne_true->Ni,false_eq_true->NQ,and_eq_true->N5,eq_iff_iff->O0,and_false->PV,or_eq_true->P2,true_and->Q1,false_or->TU,rec->Ue,not_true->VH,not_false->Xl,false_and->Xm,and_eq_true_iff->Xn,or_false->XU,and_self->XW,true_or->YY,not_not->YZ,and_comm->O1
open Decidable renaming byContradiction->aa3
open False renaming elim->P7
open ForInStep renaming yield->Sx,done->U_
open Int renaming toNat_natCast->Od,emod_lt_of_pos->P6,emod_nonneg->Qz,lt_trans->QD,le_refl->SU,mul_le_mul_of_nonneg_right->TJ,natCast_nonneg->U7,fdiv_eq_ediv_of_nonneg->U8,le_of_lt->Wu,one_mul->Xk,lt_or_eq_of_le->Yo,zero_sub->YW,zero_add->YX,neg_neg->ZE,not_lt->p2,lt_irrefl->O2,le_trans->th,mul_one->vu,add_mul->vl
open List renaming length_map->MY,getD_eq_getElem?_getD->M1,getElem?_eq_getElem->M4,length_append->M7,getElem?_eq_some_iff->M',mem_of_getElem?->Nc,mem_singleton->Nd,contains_iff_mem->Nj,mem_cons_of_mem->Nk,mem_cons_self->Nl,take_of_length_le->Nn,size_toArray->Nq,getElem?_map->Nu,mem_cons->Nz,mem_append->NB,length_cons->NC,length_singleton->NG,map_append->NI,mem_filter->NM,length_take->NO,mem_map->NV,map_cons->NW,append_assoc->N1,getElem?_append_left->N3,any_eq_true->N4,getElem?_append_right->N7,take_add_one->Oc,pairwise_cons->Oi,pairwise_map->Om,mem_append_right->Oo,range->Os,map_map->Ot,all_eq_true->OE,length_dropLast->OK,length_eq_zero_iff->OO,getElem?_eq_none->OP,append_nil->OQ,mem_iff_getElem?->OW,length_filter_le->OX,nodup_cons->O9,replicate->Pa,nodup_iff_pairwise_ne->Pb,length_drop->Pc,nodup_append->Pg,length_range->Ph,mem_range->Pj,find?_cons->Pk,mem_map_of_mem->Pp,mem_append_left->Pw,filter_append->Px,getElem_mem->PB,filter_eq_nil_iff->PD,pairwise_iff_getElem->PF,length->PP,take_append_drop->PQ,mem_filterMap->P5,pairwise_append->P8,filter_cons_of_pos->P9,filter_cons_of_neg->P_,drop_eq_getElem_cons->Qd,prefix_refl->Ql,getElem?_take_of_lt->Qq,take_append_of_le_length->Qt,Pairwise->QG,not_mem_nil->QI,getLast?_eq_getElem?->QP,foldl_cons->QS,mem_of_mem_take->QX,replicate_succ->Q5,length_pos_iff->Q6,eq_nil_of_length_eq_zero->Re,map_nil->Rl,length_pos_of_mem->Rm,drop_of_length_le->Ro,range_succ->Rp,any_cons->Ru,flatten_cons->RE,ext_getElem?->RF,reverse_reverse->RS,nodup_nil->RU,Perm->R4,mergeSort_perm->R_,map_congr_left->Sa,getElem_of_mem->Sb,getElem?_range->Se,filter_eq_self->Sf,filterMap_cons->Sg,nil_append->Sv,length_nil->Sw,find?_eq_none->SG,pairwise_mergeSort->SO,lookup->SQ,take_succ_eq_append_getElem->S6,take_sublist->S7,map_id'->S8,getElem?_set_self->S9,getElem?_dropLast->S_,foldl_append->Ta,findIdx_lt_length_of_exists->Tb,any_map->Tc,pairwise_reverse->Tq,dropLast_eq_take->Tr,mem_reverse->TC,all_cons->TR,mem_of_mem_drop->Ua,getElem?_set_ne->Ub,getElem?_append->Uc,dropLast_concat_getLast->Um,take_zero->U3,take_take->U4,ne_nil_of_mem->U5,drop_drop->U6,rel_of_pairwise_cons->U',mem_of_find?_eq_some->Va,getElem?_eq_none_iff->Vb,reverse_perm->Vq,reverse_cons->Vr,getElem_take->Vs,filter_congr->Vt,drop_sublist->Vu,length_erase_of_mem->VF,idxOf_lt_length_iff->VG,eraseIdx_cons_succ->V4,not_of_lt_findIdx->Ws,all_map->Wt,of_mem_zip->WD,any_append->WE,getElem?_toArray->WO,mem_erase_of_ne->Xg,getElem_toArray->Xh,findIdx_getElem->Xi,drop_left->Xj,take_succ_cons->XG,map_inj_right->Yk,lookup_append->Yl,getElem_idxOf->Ym,contains_cons->Yn,idxOf_append->YV,mem_toArray->Zn,map_snd_zip->Zo,cons_ne_nil->Zp,idxOf_cons->ZZ,drop_left'->Z0,countP_map->Z1,take_left->Vv,map->l5,foldl->p3,map_drop->O',reverse->ti
open List.Pairwise renaming nil->RG,filter->RW,imp_of_mem->Sr,map->ad7,imp->ad8,and->ad9
open List.Perm renaming eq_of_pairwise->abG,append_left->acx,trans->Z',swap->YP
open List.cons renaming inj->Ya
open List.forIn' renaming loop->Y4
open Nat renaming le_refl->Na,zero_le->NA,ne_of_lt->NK,lt_of_lt_of_le->Oy,le_trans->Oz,le_of_lt->OG,lt_or_ge->Pz,lt_trichotomy->PM,lt_succ_of_lt->PN,sub_self->P1,zero_add->Qn,pow_succ->Qo,lt_irrefl->Qp,succ_le_succ->Rb,ne_of_gt->Rj,lt_of_le_of_lt->Rk,add_sub_assoc->RC,pow_le_pow_right->RQ,eq_or_lt_of_le->SF,le_of_eq->S5,mod_eq_of_lt->Tx,min_le_right->Tz,le_succ->T_,mul_comm->UG,lt_trans->UH,mod_two_eq_zero_or_one->U1,add_right_comm->U2,le_of_lt_succ->Vp,add_assoc->VE,lt_succ_self->V2,add_sub_cancel_left->V3,mod_lt->Wo,eq_zero_of_not_pos->Wp,div_div_eq_div_mul->Wq,add_zero->Wr,le_of_ble_eq_true->WN,ble->Xy,one_le_two_pow->Yi,add_sub_cancel->Yj,le_of_succ_le->YU,min_eq_right->Zl,le_add_right->Zm,add_mod->ZD,two_pow_pos->ZW,min_eq_left->ZX,le_add_left->ZY,succ_pos->ud,min_self->tA,mul_add->wh,mod_mul->wd,sub_le->sx
open Ne renaming symm->OV
open Option renaming some->B',none->M5,map_eq_some_iff->O5,isSome_iff_exists->Sq,map_some->Su,isSome_map->Vo,rec->Wn,isSome_some->Yg,isNone_none->Yh,getD_none->Zk
open Option.some renaming inj->Nw
open Or renaming inr->SE,inl->Zj
open Prod renaming ext->QW,snd->Xf,rec->mu,fst->rr
open PyProof renaming noPylong_small->Wf
open PyProof.Rows renaming boot_isinstance->Nr,wpS_bind->NR,boot_abs->N8,wpS_pure->Oa,arrOf->Ob,pendingOf->Ol,boot_tuple->Ox,Keyed->OF,SortSt->OI,boot_list->OT,envOfC->O6,seqObj->O_,callWith_type1->Pr,wpS_forRange->Qb,slot_tuple_getitem->Qc,failedOf->Qg,IntsAre->Q4,wpS_mono->Ra,boot_bool->Ri,boot_int->Rw,listUpdate_at->So,boot_sorted->SV,boot_max->Tp,callWith_builtin1->Tw,get?_update_seq->Ul,AllBare->UF,wpS_get->Vn,callWith_kw->VD,elem'->V1,wpS_modify->Wg,subscriptTail_builtinR->Wh,setPending->Wi,plain_sorted->Wj,mem_zip_self->Wk,entry_sorted->Wl,bitAnd_m1->Wm,entry_list_sort->WC,kws_cons->WM,wpS_lift->W_,slot_list_sort->W',seqEpoch_at->Xa,pairsOf_toList->Xb,kws_nil->Xc,kind_sorted->Xd,getElem?_mirror_all->XE,entry_tuple_getitem->XF,subscriptTail->XS,call_abs_int->XT,size_push'->Yd,args_tuple_getitem->Ye,mergeAt'->YR,listItems_at->YS,args_sorted1->YT,join_plain_closes->Zi,getElem?_bubble->ZV,pairsOf->Z7,minRun'->Z8,sortedHeap_old->XI,sortedHeap->rk,slicePart_none->Xt,boot_range->rb,args_list_sort->VL,Subscript_->q7,SortKind->l8,tupleItemsOf_->Rx,sortedHeap_at->QB,numOf->kf,setArr->kH,mirror->kG,boot_dict->aci,KskOut->kA,boot_any->acv,boot_all->acw,IsTup->ky
open PyProof.Rows.F renaming plain_set_update_loop->PJ,entry_set_update_loop->R9
open PyProof.Rows.IntsAre renaming length->Xe
open PyProof.Rows.IsTup renaming new->ng
open PyProof.Rows.SortSt renaming mk'->U0
open PySem renaming wpAny_bind->G',Value->J',Addr->M0,Shared->M3,wpAny_pure->M9,PyData->Nh,Program->Nm,FuncData->Ny,model->ND,World->NF,boot_len->NP,starEach->NS,mainGlobals->NU,Heap->N_,Around->Ou,cellsFrom->OH,Expr->OJ,compareOp->ON,wpAny_mono->OS,wpAny_holding->OY,Stmt->OZ,wpAny_truthy_bool->O3,wpAny_newObj_type->O4,sizeLine_eq->O7,wpAny_setState_of->Pe,mem_of_lookup->Po,eval->Pq,codeAny_builtin->PY,wpAny_Call_Name_kw->P3,sysModules->P4,wpAny_call_entry->Qj,wpAny_loadPart_at->Qv,backTo->Qw,plainId_quiet->QF,wpAny_rule->QK,tupleKind_room_in1->QL,intKind->QN,wpAny_passesOwn->QQ,wpAny_execs_nil->QR,cLine->QT,binaryOp->QU,wpAny_callSpecial?_slot->Q7,behindInMarks->Rq,wpAny_pyIter_list->Rz,relabel->RA,OsState->RB,wpAny_tryCatch->RK,wpAny_seqItems->RL,intItems->RM,call_meets->RN,wpAny_typeOf->RY,codeAny_mono->RZ,attributeBase->Sj,assignEach->Sz,sliceBounds->SJ,keywordEach->SM,wpAny_storeSet_of->SY,bootBuiltins->SZ,builtinLookup_eq_fast->Tg,pyNext->Ts,Thread->Tu,wpAny_newList->TN,codeAny_call_builtin->T3,Scope->T5,letOwnedTupleGo->Uj,wpAny_setEntries_of->Uo,setAddHashed->Ux,holding->Uy,getItem->Uz,argBest->UA,tupleKind->UJ,swapsWith->UK,getMethod->UL,NameKind->UV,wpAny_letGo->Ve,valueAt->Vf,ofAClassStatement->Vg,foldedSetIterable->Vh,atKey->Vi,wpAny_comprehension_free->Vz,wpAny_attempt->VA,wpAny_forIn_list->VM,wpAny_execs_cons->VN,wpAny_eqBool_int->VO,wpAny_askSetting->VP,noFill_tuple_add->VQ,checkBuiltinCall->VR,backToKw->VS,wpAny_pyNext_range_end->V7,wpAny_pyIter_rangeiter->V8,standAt->V9,rawInt->V_,call_meetsIn->V',wpAny_updateSeq->Ww,wpAny_specialOf->Wx,typeLookup_type->Wy,wpAny_notOrdered_dict->WH,wpAny_isTrue_Compare1->WI,wpAny_eqIsQuiet_tuple->WJ,wpAny_setField->WW,wpAny_loadName_local->WX,subscripted->WY,pyIter->WZ,newFunctionEnv->W0,isSubtype_type->W1,dictSetDefault->W2,IsRangeIter->W7,pickOrder->Xu,callerA->Xv,wpAny_loadName_cell->Xz,kt_meets_setdefault->XA,seq_tuple_add->XO,wpAny_pyIter_range->XX,wpAny_call->XY,merged->XZ,getattributeRaised->X0,denote->X1,checkCount->X2,call->X3,Result->X_,IsPart->Yb,wpAny_sequenceKey->Yu,wpAny_pyIter_slot->Yv,wpAny_pyIter_enum->Yw,wpAny_assign_Name->Yx,wpAny_Assign_Name->Yy,setNext->Yz,searchCouldBeSeen->YA,concat_meets->YC,callWith->YD,Within->YE,ReadsAll->YI,Model->YK,GenState->YM,BindsTo->YO,wpAny_isInstance->Y8,wpAny_Try_except->Y9,wpAny_Dict_empty->Y_,seqItems?->Y',entryFor_of_tree->Za,assign->Zb,wpAny_of_eq->Zw,wpAny_field->Zx,hashByValue->Zy,CmpOp->ZC,wpAny_ite_split->ZM,pushCells_keeps->ZN,codeAny_of_tree->ZO,wpAny_newTuple->Uv,wpAny_loadPart->Ut,wpAny_fieldsOf->T',wpAny_Name->pz,typeLookup->pw,typeIs_int->oD,setAddHashedIn->T2,recursionLimit->T1,intKind_is->ov,getAttr?->l4,fitsIndex_both->Sy,firstArgMember->Sh,entryFor_alias->R',entryFor->lF,builtinsNs->oe,bindL->i0,bindC->ip,argsOk->kz,wpAny_standAt->I',signature?_of->Ip,setSearchFrom->F',intBits_le_64->D0,evalPart_none->C',call_list_seq->A',bltViewBooted->zz,ExceptHandler->abm,treeTable->n9,storeName->nt,typeOf->lz,storedH->lD,spliced->lC,Params->lB,Keyword->lA,setField->mr,numAt->ko,compEnvC->mj,bindArgs->mi,Operator->ac1,Fin->Z5
open PySem.Around renaming under_plainId->Pu,under->YQ
open PySem.AutoListH renaming list_insert_list_int_val_1->XD,list___mul___list_int_3->Yp
open PySem.Builtin renaming bitAnd->Q_
open PySem.Builtin.Builtins renaming bindParams->UE
open PySem.Builtin.Dict renaming updateFrom->V0,pairItems->We,keyAndDefault->aaD,selfAndRest->abB,addKeywords->abC
open PySem.Builtin.Frozenset renaming newClass->UZ,updateFrom->ZU,sizeOf->abA,slot0->abU
open PySem.Builtin.List renaming listTooLong->Sn,listLengthHint->UD,listFitsIndex->UY,listUpdate->abT
open PySem.Builtin.Range renaming rangeSize->VZ
open PySem.Builtin.Slice renaming slicePlaces->QO,sliceApplied->RP,sliceAdjust->R6,slicePartIndex->ZT,sliceFields->aa2
open PySem.Builtin.Str renaming tooLong->adl
open PySem.Builtin.Tuple renaming tupleExact->Pn,tupleItemsOf->UX
open PySem.Calls renaming call_function_entry->R5,spliced_cons->SD,callWith_builtin->S4,evalArgs_plain->T9,Name_function_global->UW,spliced_nil->Vm
open PySem.Challenge renaming pw_oathduel_k42_searchers_dealt_out->NN,rw_oathduel_k42_searchers_dealt_out->Pt
open PySem.Code renaming quiet_builtin->Yc,isFrame->YN,frames->w1
open PySem.Data renaming fields->ZA,cell->nk
open PySem.DictEntry renaming refKey->ZK
open PySem.EqMixed renaming ne_str_bool->aaY,ne_bool_str->aaZ,eq_str_bool->aa0,eq_bool_str->aa1,ne_str_int->abw,ne_int_str->abx,eq_str_int->aby,eq_int_str->abz
open PySem.EqNone renaming ne_none_none->aaS,ne_none_bool->aaT,ne_bool_none->aaU,eq_none_none->aaV,eq_none_bool->aaW,eq_bool_none->aaX,ne_str_none->abn,ne_none_str->abo,ne_none_int->abp,ne_int_none->abq,eq_str_none->abr,eq_none_str->abt,eq_none_int->abu,eq_int_none->abv
open PySem.F renaming plainAttrs_list->NJ,slot_list_append->Oj,type_list_append->On,slot_dict_setdefault->P0,args_dict_setdefault_3->Qk,entry_dict_setdefault->Qs,plain_max_loop->QH,slot_list_pop->R3,args_tuple_add_2->Sm,entry_tuple_add->SN,slot_tuple_add->S3,type_list_pop->Ti,typeOf_object_class->Tj,slot_list_index->Tn,slot_list_clear->To,type_list_index->VW,type_list_clear->VX,entry_max_loop->VY,slot_list_insert->WL,slot_list_count->W9,slot_set_iter->ZQ,slot_int_rmul->ZR,plain_set_new->ZS
open PySem.Heap renaming get?_push_of_some->Nb,lt_size->Nx,get?_push_size->NL,get?_update_other->OC,get?_update_self->Qf,SameBut->QC,size_push->Q9,FlyingW->Wd,get?_none_of_le->W8,get?_push_ne->YL,size_update->Zh,mk->l'
open PySem.Heap.DictOf renaming new->ZP
open PySem.Heap.IsSliceOf renaming new->adL
open PySem.Heap.SameBut renaming update->O8
open PySem.IsL renaming update->Z9
open PySem.IsRange renaming new->x9
open PySem.NameKind renaming cell->Sl,free->y3
open PySem.Obj renaming mapSeq->PH,data_mapFields->SC,mapFields->VC,isFreed_of_fields->WK,data_mapDictKeys->W6,putSet->X',cls_mapFields->YJ
open PySem.PassesOwn renaming never->Ow
open PySem.PyData renaming eqv->NT,canLayAll0->OA,eqvAll->Pm,none->PL,depthAll->Qy,bool->Rc,tuple->R1,int->Tv
open PySem.SeqAt renaming shaped->OB,readOf->UC,readsAll_map->X7,items_eqAt->Zg,EqAt->sy
open PySem.SeqAt.EqAt renaming str_int->X8,int_str->X9,none_bool->acY,bool_none->acZ,bool_bool->ac0,str_none->adb,str_bool->ade,none_str->adf,none_int->adg,int_none->adh,int_bool->adi,bool_str->adj,bool_int->adk,str_str->adI,int_int->adJ,same->aeF
open PySem.SetTable renaming below->P',insertAt->Qr,Probe->Sk,insertAt_perm->S2,runEnd->Uk,leap->VU,fresh->W4,bits->XC,turns->i6
open PySem.SetTable.below renaming go->W5
open PySem.SetTable.layClean renaming free->Rt
open PySem.SetTable.probe renaming go->VT
open PySem.Shared renaming TypeIs->y4
open PySem.Str renaming ofString->M_,join->l9,empty->ry
open PySem.Txt renaming join->YH
open PySem.Value renaming ref->N9,isInt_shape->QV,type->Rh,int->Rr,builtin->TQ,none->UU,str->Xx,bool->X6,float->Zz,isStrOf->y',isInt->va,bytes->u3
open PySem.Value.ref renaming inj->Yf
open PySem.W renaming Frag->K',mg_none_of->Nv,kitOne->N6,findIn->Of,nsIn->Og,mg_of->Pf,kia_one->Pi,boot_heap->Pl,mroIn->Py,emptyDict->PK,SharedT->PZ,instObj->Qx,excIn->Q0,keepIn->Q8,fnOf->Rg,looks_findIn->RO,plainGet->R0,looks_mroIn->R7,hideAll_get->R8,boot_drawn->SB,hasDictIn->S1,methodCall_KW->Th,boot_toks->Tt,plainGet_of->Uq,kdu_collect->Ur,isFn->UB,lookIn->UR,callWith_K->US,through->Vj,plainOver->Vk,methodObj->Vl,clsIn->VB,OpenLaw->V5,cellsFrom_some->Wb,absHeap->Wc,takerIn->Wz,makesIn->WA,hideAll->WB,codeIn->W3,topStub->Xw,callWith_K0->XB,Looks->XR,stepOk->X4,of_hideAll->X5,kitx_list->YF,kitx_dict->YG,kdl_dict->Zc,handedIn->Zd,WalkO->Ze,stepT->i7,topRun->kS
open PySem.W.Fast renaming tw5923862056798008813->UT
open PySem.W.Looks renaming ld->Zf,here->adH
open PySem.W.WData renaming int->rz
open PySem.W.WShape renaming has->td
open PySem.Walks renaming list->Wa,range->vb
open PySem.Within renaming cons->ad5
open PySem.pickOrder renaming go->YB
open StateT renaming run_pure->ZL
open Sum renaming inl->Oq,inr->Ry
open Sum.inl renaming inj->RJ
open True renaming intro->Qa
open _root_ renaming List->gV,Option->MZ,decide_eq_false->M6,Bool->Nf,decide_eq_true->Ng,if_neg->Np,if_pos->Nt,decide_eq_true_iff->NX,of_decide_eq_true->N0,congrArg->Oe,Array->Oh,beq_eq_false_iff_ne->OR,reduceIte->OU,of_decide_eq_false->Qh,decide_eq_decide->Qi,if_false->QA,String->QJ,beq_iff_eq->QZ,ForInStep->Rv,beq_self_eq_true->RX,if_true->Ss,DecidableEq->Ud,getElem?_pos->Uw,Unit->Vx,StateT->Vy,or_false->Ys,bne_self_eq_false->Yt,forall_eq_or_imp->Y7,forall_congr'->L',modify->lh
namespace HD
open PySem PySem.W PySem.Calls PyProof.Rows
noncomputable def yW (p:PZ->Tu->MZ (PZ×Tu))(ok T:Tu->Nf)(n:Nat):PZ->Tu->MZ PZ:=
 @Nat.rec (λ_=>PZ->Tu->MZ PZ) (λ_ _=>M5)
  (λ_ i s t=>@Ue (λ_=>MZ PZ)
   (@Ue (λ_=>MZ PZ) M5
    (@Wn (PZ×Tu) (λ_=>MZ PZ) M5
     (λr=>@mu PZ Tu (λ_=>MZ PZ) (λa b=>@Ue (λ_=>MZ PZ) M5 (i a b) (Xy a.toks 1000000000)) r) (p s t)) (ok t))
   (B' s) (T t)) n
theorem wH{T:QJ->MZ Builtin}{p:Nm}{w:NF}{N:Nat}{Z:MZ J'}:∀n s b t,
  yW (i7 (X1 T) p w) (X4 N Z) Vj n s t=B' b->kS T p w N Z n s.abs t=B' b.abs
 |0,s,b,t,h=>by cases h
 |n+1,s,b,t,h=>by
  have h:@Ue (λ_=>MZ PZ)
   (@Ue (λ_=>MZ PZ) M5
    (@Wn (PZ×Tu) (λ_=>MZ PZ) M5
     (λr=>@mu PZ Tu (λ_=>MZ PZ) (λb f=>@Ue (λ_=>MZ PZ) M5 (yW (i7 (X1 T) p w) (X4 N Z) Vj n b f) (Xy b.toks 1000000000)) r) (i7 (X1 T) p w s t)) (X4 N Z t))
   (B' s) (Vj t)=B' b:=h
  unfold kS;cases d:Vj t with
  |true=>rw[d]at h;cases h;rfl
  |false=>
   rw[d]at h;cases k:X4 N Z t with
   |false=>rw[k]at h;cases h
   |true=>
    rw[k]at h;cases H:i7 (X1 T) p w s t with
    |none=>rw[H]at h;cases h
    |some r=>
     obtain⟨a,c⟩:=r;rw[H]at h;replace h:@Ue (λ_=>MZ PZ) M5 (yW (i7 (X1 T) p w) (X4 N Z) Vj n a c) (Xy a.toks 1000000000)=B' b:=h;rw[stepT_spec H];cases e:Xy a.toks 1000000000 with
     |false=>rw[e]at h;cases h
     |true=>rw[e]at h;exact wH n _ _ _ h
noncomputable def qR (l:gV Obj):BT->Nat->MZ (BT×Nat):=
 @List.rec Obj (λ_=>BT->Nat->MZ (BT×Nat)) (λT n=>B' (T,n))
  (λo _ i T n=>@Ue (λ_=>MZ<|BT×Nat) M5 (i (T.ins n o)<|n+1) (((T.ins n o).get n).isSome)) l
theorem pY:∀l T t n N,qR l T n=B' (t,N)->Wc t N L=⟨(Wc T n L).objs++l.toArray,L⟩
 |[],T,t,n,N,h=>by
  cases h;show Wc T n L=l' ((Wc T n L).objs++#[]) L
  rw[Array.append_empty];rfl
 |o::l,T,t,n,N,h=>by
  replace h:@Ue (λ_=>MZ<|BT×Nat) M5 (qR l (T.ins n o)<|n+1) (((T.ins n o).get n).isSome)=B' (t,N):=h;cases H:((T.ins n o).get n).isSome with
  |false=>rw[H]at h;cases h
  |true=>
   rw[H]at h;rw[pY l _ _ _ _ h,absHeap_ins H];show l' ((Wc T n L).objs.push o++l.toArray) L=_
   congr 1
   apply Array.ext';simp
noncomputable def look {a:Type}(p:PZ->Tu->MZ (PZ×Tu))(ok t:Tu->Nf)(M:Nat)(os:RB)(P:lB)(st:Tu)(F:M3->a):MZ a:=
 @Wn (BT×Nat) (λ_=>MZ a) M5
  (λr=>@mu BT Nat (λ_=>MZ a) (λT n=>@Wn PZ (λ_=>MZ a) M5 (λs=>B'<|F s.abs) (yW p ok t M ⟨T,n,(Pl P).life,Ug [],SB,Tt,os⟩ st)) r)
  (qR (Pl P).objs.toList .nil 0)
theorem Fg{a:Type}{t:QJ->MZ Builtin}{p:Nm}{w:NF}{N:Nat}{Z:MZ J'}{M:Nat}{os:RB}{F:M3->a}{b:a}
  (h:look (i7 (X1 t) p w) (X4 N Z) Vj M os w.params (Xw p) F=B' b):
  ∃s,kS t p w N Z M ⟨Pl w.params,Ug [],SB,Tt,os⟩ (Xw p)=B' s/\F s=b:=by
 unfold look at h;cases H:qR (Pl w.params).objs.toList .nil 0 with
 |none=>rw[H]at h;cases h
 |some r=>
  obtain⟨T,n⟩:=r;rw[H]at h;replace h:@Wn PZ (λ_=>MZ a) M5 (λs=>B'<|F s.abs) (yW (i7 (X1 t) p w) (X4 N Z) Vj M ⟨T,n,(Pl w.params).life,Ug [],SB,Tt,os⟩<|Xw p)=B' b:=h;cases c:yW (i7 (X1 t) p w) (X4 N Z) Vj M ⟨T,n,(Pl w.params).life,Ug [],SB,Tt,os⟩ (Xw p)with
  |none=>rw[c]at h;cases h
  |some s=>
   rw[c]at h;have e:=pY (L:=(Pl w.params).life) _ _ _ _ _ H;have E:(Wc .nil 0 (Pl w.params).life).objs=#[]:=rfl;rw[E]at e;have f:Wc T n (Pl w.params).life=Pl w.params:=by
    rw[e];show l' (#[]++(Pl w.params).objs.toList.toArray) _=_
    rw[Array.empty_append]
   have d:=wH _ _ _ _ c;refine⟨s.abs,?_,Nw h⟩;rw[<-d];show _=kS t p w N Z M ⟨Wc T n (Pl w.params).life,Ug [],SB,Tt,os⟩ (Xw p)
   rw[f]
noncomputable def xt (q:Nm)(s:M3):Nf:=xlAt q [] s&&recOk [] s
noncomputable def sn (p q:Nm)(loose:gV Str)(X:M3->Nf)(g:Nf)(s:M3):=Fast.tw4187177175401517315 q loose (UT p.main.body) X g s
noncomputable def seenA (p q:Nm)(loose:gV Str)(X:M3->Nf)(g:Nf)(w:NF)(s:M3):=((staticsOk (UT p.main.body) (Pl w.params) s.heap&&namesBound p s.heap&&gensDone s&&laidKept (Pl w.params) s.heap),(sn p q loose X g s).1)
noncomputable def seenB (p q:Nm)(loose:gV Str)(X:M3->Nf)(g:Nf)(s:M3):=((sn p q loose X g s).2.1,(sn p q loose X g s).2.2.1,(sn p q loose X g s).2.2.2.1,(sn p q loose X g s).2.2.2.2.1)
noncomputable def seenC (p q:Nm)(loose:gV Str)(X:M3->Nf)(g:Nf)(s:M3):=(sn p q loose X g s).2.2.2.2.2.1
noncomputable def seenD (p q:Nm)(loose:gV Str)(X:M3->Nf)(g:Nf)(s:M3):=((sn p q loose X g s).2.2.2.2.2.2.1,(sn p q loose X g s).2.2.2.2.2.2.2.1,(sn p q loose X g s).2.2.2.2.2.2.2.2)
noncomputable def lookAt {a:Type}(p:Nm)(m:Nat)(Z:MZ J')(M:Nat)(w:NF)(os:RB)(F:M3->a):MZ a:=
 look (Fast.tw10156331382660048174 (Fast.tw11892475500146522536 Fast.tw14364793385576792824) p w) (Fast.tw6613529449190102663 m Z) Vj M os w.params (Xw p) F
theorem gM{a:Type}{p:Nm}{m:Nat}{Z:MZ J'}{M:Nat}{w:NF}{os:RB}{F:M3->a}{b:a}(h:lookAt p m Z M w os F=B' b):
  ∃s,kS n9 p w m Z M ⟨Pl w.params,Ug [],SB,Tt,os⟩ (Xw p)=B' s/\F s=b:=by
 unfold lookAt at h;rw[<-Fast.te10156331382660048174,<-Fast.te11892475500146522536,<-Fast.te14364793385576792824,<-Fast.te6613529449190102663]at h;exact Fg h
theorem left{p q:Nm}{loose:gV Str}{X:M3->Nf}{n:Type}{Y:M3->n}{y:NF->n}{N:Nat}{g:Nf}{m:Nat}{Z:MZ J'}{M:Nat}
  (e:opening p=plainProg p.main.scope.names) (f:∀s,fenceModules? p s=B' s) (H:Xy 600 N=MX) (o:Xy M N=MX)
  (h:∀w:NF,((Pl w.params).isNs NU&&(Ug []:Oh YM).size == 0,(Pl w.params).objs.size,(Pl w.params).nsMap NU "__annotations__")=(MX,m,Z))
  (u:∀(w:NF) (os:RB),lookAt p m Z M w os (seenA p q loose X g w)=B' (MX,expectedOf q)) (B:∀(w:NF) (os:RB),lookAt p m Z M w os (seenB p q loose X g)=B' (zz,MX,MX,pinGoodD<|drecsOf q))
  (C:∀(w:NF) (os:RB),lookAt p m Z M w os (seenC p q loose X g)=B' (plainGoodE q<|looseW q loose)) (v:∀(w:NF) (os:RB),lookAt p m Z M w os (seenD p q loose X g)=B' (plainGoodD q loose,wideGood q,clsGoodW q loose)) (x:∀(w:NF) (os:RB),lookAt p m Z M w os Y=B' (y w)):
  LeftO p q loose X Y y N g:=λw=>by
 obtain⟨⟨z,G,d,k,os⟩,a,b⟩:=O5.mp<|boot_open e H f w;obtain⟨rfl,rfl,rfl,rfl⟩:z=Pl w.params/\G=Ug []/\d=SB/\k=Tt:=by simpa using b
 obtain⟨E,F,I⟩:_/\_/\_:=by simpa only [Prod.mk.injEq]using h w
 obtain⟨s,r,A⟩:=gM<|u w os;obtain⟨j,c,J⟩:=gM<|x w os;rw[r]at c;cases c;obtain⟨j,c,l⟩:=gM<|B w os;rw[r]at c;cases c;obtain⟨j,c,O⟩:=gM<|C w os;rw[r]at c;cases c;obtain⟨j,c,D⟩:=gM<|v w os;rw[r]at c;cases c;have L:=Oe rr A;have i:sn p q loose X g s=openGood q loose:=QW (Oe Xf A) (QW (Oe (·.1) l) (QW (Oe (·.2.1) l) (QW (Oe (·.2.2.1) l) (QW (Oe (·.2.2.2) l) (QW O (QW (Oe (·.1) D) (QW (Oe (·.2.1) D) (Oe (·.2.2) D))))))));unfold seenA at L;unfold sn at i;dsimp only at L;rw[<-Fast.te5923862056798008813]at L i;rw[<-Fast.te4187177175401517315]at i;have r:=topRun_mono (N-M) _ _ _ _ r;rw[show M+(N-M)=N by have:=WN o;lia]at r;have t:topFrom n9 p w N ⟨Pl w.params,Ug [],SB,Tt,os⟩=B' s:=by
  unfold topFrom;dsimp only;rw[E,F,I,r];show(match staticsOk (importedModules p.main.body) (Pl w.params) s.heap&&namesBound p s.heap&&gensDone s&&laidKept (Pl w.params) s.heap with|true=>_|false=>_)=_
  rw[L]
 unfold openEnds;rw[a];show(topFrom n9 p w N _).map _=_
 rw[t];exact Oe B'<|QW i J
theorem head{r:OpenRow}{q:Nm}{loose:gV Str}{lv:gV (Str×WData)}(H:Hook){d:DefRec}{k:gV (Str×OJ)}{N:Nat}
  (l:LeftO r.prog q loose (λs=>xlAt q lv s&&recOk r.records s) H.obs H.val N) (a:defOf q r.name=B' (d,k)) (p:r.prog.theDef r.name=B' (d.params,d.body,d.scope)) (b:kwWritten? d.params.kwonlyargs d.params.kw_defaults=B' k)
  (h:(!r.writes || r.records.isEmpty)=MX) (c:r.wellSaid=MX) (ok:(chainsOk q&&opensWell r.prog&&(frees r.toRowW&&r.within.isEmpty))=MX) (g:r.prog.bare) (w:r.toRowW.promised)
  (i:Ze q loose (XL q lv) H.says r.toRowW d k λf v=>X3 f v):r.Holds:=
 holds_open l H.of H.keeps (λs e=>xl_of s (Xn.mp e).1) XL.keeps a p b (λs e=>recFacts_of (Xn.mp e).2) h c ok g w i
end HD
section
open PySem PySem.W PySem.Calls PyProof.Rows
set_option maxRecDepth 100000
set_option maxHeartbeats 0
noncomputable def K42.vQ:Nm:=view NN [1,2,3,4,5,6,7,8,9,10,12,13,14,16,17,18,19,20,21,22,24,25,26,27,29,30,31,32,33,34,35,36,37,38,40,41,42,43,44,46,47,48,50,51,52,53,54,55,56,57,58,59,60,61,62,63,64,65,66,67,68,69,70,71]
theorem K42.said:OpenLaw.wellSaid Pt=true:=(congrFun Fast.te9446332074065402090 Pt).trans (by kernel_rfl)
theorem K42.seenA (w:NF)(os:RB):HD.lookAt NN 11 (B' (.ref 6)) 4333 w os (HD.seenA NN K42.vQ [] (HD.xt K42.vQ) MX w)=B' (MX,expectedOf K42.vQ):=by kernel_rfl
theorem K42.seenB (w:NF)(os:RB):HD.lookAt NN 11 (B' (.ref 6)) 4333 w os (HD.seenB NN K42.vQ [] (HD.xt K42.vQ) MX)=B' (zz,MX,MX,pinGoodD (drecsOf K42.vQ)):=by kernel_rfl
theorem K42.seenC (w:NF)(os:RB):HD.lookAt NN 11 (B' (.ref 6)) 4333 w os (HD.seenC NN K42.vQ [] (HD.xt K42.vQ) MX)=B' (plainGoodE K42.vQ (looseW K42.vQ [])):=by kernel_rfl
theorem K42.seenD (w:NF)(os:RB):HD.lookAt NN 11 (B' (.ref 6)) 4333 w os (HD.seenD NN K42.vQ [] (HD.xt K42.vQ) MX)=B' (plainGoodD K42.vQ [],wideGood K42.vQ,clsGoodW K42.vQ []):=by kernel_rfl
end
namespace L2
open PySem PySem.Spec PyProof.Rows
abbrev bR:=Sum Int Str
noncomputable def o7:bR->J'->Nf
 |.inl k,v=>va k v
 |.inr x,v=>y' x v
noncomputable def LA(w:NF):bR->Int
 |.inl k=>hashInt k
 |.inr x=>hashStr w x
theorem cw:∀{k:bR} {v:J'},o7 k v=MX->(∃i t,k=Oq i/\v=Rr i t)\/(∃x t,k=Ry x/\v=Xx x t)
 |.inl i,v,h=>by
  obtain⟨t,e⟩:=QV (k:=i) (v:=v) h;exact .inl ⟨i,t,rfl,e⟩
 |.inr x,v,h=>by
  obtain⟨t,e⟩:=Value.isStrOf_shape (x:=x) (v:=v) h;exact .inr ⟨x,t,rfl,e⟩
theorem yb(i:Int)(t:Tok):o7 (.inl i) (.int i t)=true:=by simp[o7,va]
theorem yc(x:Str)(t:Tok):o7 (.inr x) (.str x t)=true:=by simp[o7,y']
theorem Hq(a b:Int):decide ((Oq a:bR)=Oq b)=(a == b):=by
 by_cases e:a=b
 ·subst e;simp
 have h:¬(Oq a:bR)=Oq b:=λq=>e<|RJ q;rw[M6 h];exact(OR.mpr e).symm
theorem Hr(a b:Str):decide ((Ry a:bR)=Ry b)=decide (a=b):=by
 by_cases e:a=b
 ·subst e;simp
 have h:¬(Ry a:bR)=Ry b:=λq=>e<|Sum.inr.inj q;rw[M6 h,M6 e]
theorem Hs(a:Int)(b:Str):decide ((Oq a:bR)=Ry b)=false:=M6 (λq=>nomatch q)
theorem Ht(a:Str)(b:Int):decide ((Ry a:bR)=Oq b)=false:=M6 (λq=>nomatch q)
noncomputable def bh(p:Nm)(w:NF):PySem.KeyKind p w bR where
 is:=o7
 hash:=LA w
 inj:=λv a b d c=>by
  rcases cw d with⟨i,t,rfl,rfl⟩|⟨x,t,rfl,rfl⟩
  ·rcases cw c with⟨j,u,rfl,e⟩|⟨y,u,rfl,e⟩
   ·injection e with E _;rw[E]
   exact nomatch e
  rcases cw c with⟨j,u,rfl,e⟩|⟨y,u,rfl,e⟩
  ·exact nomatch e
  injection e with E _;rw[E]
 byValue:=λk v h=>by
  rcases cw h with⟨i,t,rfl,rfl⟩|⟨x,t,rfl,rfl⟩<;>rfl
 pyHash:=λH h=>by
  rcases cw H with⟨i,t,rfl,rfl⟩|⟨x,t,rfl,rfl⟩
  ·exact wpAny_pyHash_int h
  exact wpAny_pyHash_str h
 eqBool:=λf H h=>by
  rcases cw f with⟨i,t,rfl,rfl⟩|⟨x,t,rfl,rfl⟩
  ·rcases cw H with⟨j,u,rfl,rfl⟩|⟨y,u,rfl,rfl⟩
   ·rw[Hq]at h;exact VO h
   rw[Hs]at h;exact X9 i t y u _ _ _ _ h
  rcases cw H with⟨j,u,rfl,rfl⟩|⟨y,u,rfl,rfl⟩
  ·rw[Ht]at h;exact X8 x t j u _ _ _ _ h
  rw[Hr]at h;exact wpAny_eqBool_str h
 «strs»:=λk x t v h=>by
  rcases cw h with⟨i,u,rfl,e⟩|⟨y,u,rfl,e⟩
  ·exact nomatch e
  injection e with E _;subst E;cases v<;>rfl
theorem rJ(p:Nm)(w:NF)(i:Int)(t:Tok):(bh p w).is (.inl i) (.int i t)=true:=yb i t
theorem rK(p:Nm)(w:NF)(x:Str)(t:Tok):(bh p w).is (.inr x) (.str x t)=true:=yc x t
inductive V where
 |non|bl (b:Nf)|int (i:Int)|str (x:Str)|byt (b:Oh UInt8)|flt (b:UInt64)|ref (a:M0)|ty (n:QJ)
 deriving Ud
def RelV:V->J'->Prop
 |.non,u=>u=UU
 |.bl b,u=>u=X6 b
 |.int i,u=>∃t,u=Rr i t
 |.str x,u=>∃t,u=Xx x t
 |.byt b,u=>∃t,u=u3 b t
 |.flt b,u=>∃t,u=Zz b t
 |.ref a,u=>u=N9 a
 |.ty n,u=>u=Rh n
abbrev Vals:gV V->gV J'->Prop:=Paired RelV
theorem Vals.length(r:Vals x u):x.length=u.length:=Paired.length r
theorem Vals.get:∀{X:gV V} {U:gV J'} {i:Nat} {x:V},Vals X U->X[i]?=B' x->∃u,U[i]?=B' u/\RelV x u
 |_,_,_,_,.nil,e=>by simp at e
 |_,_,0,_,.cons r _,e=>by simp at e;subst e;exact⟨_,rfl,r⟩
 |_,_,i+1,x,.cons _ t,e=>by
  obtain⟨u,h,H⟩:=Vals.get (i:=i) (x:=x) t (by simpa using e);exact⟨u,by simpa using h,H⟩
theorem Vals.append:∀{x y:gV V} {u w:gV J'},Vals x u->Vals y w->Vals (x++y) (u++w)
 |_,_,_,_,.nil,s=>s
 |_,_,_,_,.cons r t,s=>.cons r<|Vals.append t s
theorem Vals.take:∀{x:gV V} {u:gV J'} (n:Nat),Vals x u->Vals (x.take n) (u.take n)
 |_,_,0,_=>.nil
 |_,_,_+1,.nil=>.nil
 |_,_,n+1,.cons r t=>.cons r<|Vals.take n t
theorem Vals.drop:∀{x:gV V} {u:gV J'} (n:Nat),Vals x u->Vals (x.drop n) (u.drop n)
 |_,_,0,r=>r
 |_,_,_+1,.nil=>.nil
 |_,_,n+1,.cons _ t=>Vals.drop n t
theorem Vals.none_of:∀{x:gV V} {u:gV J'} {i:Nat},Vals x u->x[i]?=M5->u[i]?=none:=λ{x u i} r e=>by
 have h:=r.length;have H:x.length<=i:=Vb.mp e;exact Vb.mpr (by lia)
def RelO:MZ V->MZ J'->Prop
 |some v,B' u=>RelV v u
 |none,M5=>True
 |_,_=>False
def KV{a:Type}:gV (a×V)->gV (a×J')->Prop:=Paired λ(p:a×V) (q:a×J')=>p.1=q.1/\RelV p.2 q.2
noncomputable def kV:bR->V
 |.inl i=>.int i
 |.inr x=>.str x
inductive HO where
 |lst (xs:gV V)
 |tup (xs:gV V)
 |dK (k:gV (bR×V))|dT (k:gV (gV bR×V))
 |set (S:Int->Nf) (n:Nat)
 |ins (C dx:M0) (fs:gV (Str×V))
 |own (x:M0)
 |xd (fs:gV (Str×V))
 |met (f x:M0)
 |rng (lo h:Int)
 |frz (o:Obj) (u:HO)
 |tbl (p:Oh J')
 |ext (a:N_->Prop)
abbrev Hp:=M0->MZ HO
noncomputable def upd(H:Hp)(a:M0)(o:HO):Hp:=λb=>if b=a then B' o else H b
theorem aa:upd H a o a=B' o:=by unfold upd;rw[Nt rfl]
theorem aj(h:b≠a):upd H a o b=H b:=by unfold upd;rw[Np h]
theorem gf:upd (upd H a o) a u=upd H a u:=by
 funext b;unfold upd;split<;>rfl
theorem b_{H:Hp}(h:H a=B' o)(h':H b=B' u)(d:o≠u):a≠b:=by
 intro e;subst e;rw[h]at h';exact d<|Nw h'
theorem ai{H:Hp}(h:H a=B' o)(h':H b=M5):a≠b:=by
 intro e;subst e;rw[h]at h';cases h'
section
variable (P:Nm)(w:NF)
def ObjOk(H:Hp)(h:N_)(a:M0):HO->Prop
 |.lst X=>X.length<=sizeLine/\∃(O:gV J') (n:Nat),Vals X O/\h.get? a=B' {cls:=.type "list",data:=.seq O.toArray n}
 |.tup X=>X.length<=sizeLine/\∃O:gV J',Vals X O/\ky h a O.toArray
 |.dK k=>k.length<=sizeLine/\(a == P4)=MW/\∃s,KV k s/\h.DictOf (bh P w) a s
 |.dT k=>k.length<=sizeLine/\(a == P4)=MW/\∃X:gV (gV bR×M0×J'),
   Paired (λ(p:gV bR×V) (q:gV bR×M0×J')=>p.1=q.1/\H q.2.1=B' (.tup<|p.1.map kV)/\RelV p.2 q.2.2) k X/\
   ∃o e E,h.get? a=B' o/\o.ExactDict/\o.data=.dict e E/\e.toList=X.map (entryOfKey<|UJ<|bh P w)/\(X.map (·.1)).Nodup
 |.set S n=>h.SetOf (QN P w) a S n
 |.ins C d F=>H d=B' (.own a)/\F.length<=1000/\d≠a/\h.get? a=B' (Qx C d)/\
   ∃m,h.Ns1 d m/\(∀f,RelO (F.lookup f)<|m f)/\YE m (F.map (·.1))
 |.own _=>∃o,h.get? a=B' o
 |.xd F=>∃m,h.Ns1 a m/\∀f,RelO (F.lookup f)<|m f
 |.rng lo i=>∃t u v,h.get? a=B' {cls:=.type "range",data:=.fields #[.int lo t,.int i u,.int 1 v]}
 |.frz o u=>h.get? a=B' o/\ObjOk H h a u
 |.tbl j=>h.get? a=B' {cls:=.none,data:=.fields j}
 |.met f x=>h.get? a=B' (Vl (.ref f)<|.ref x)
 |.ext b=>b h/\(∃o,h.get? a=B' o)/\∀c g:N_,b c->(∀o,c.get? a=B' o->g.get? a=B' o)->b g
def HOk(H:Hp)(h:N_):Prop:=∀a o,H a=B' o->ObjOk P w H h a o
end
section
variable {P:Nm}{w:NF}{H:Hp}{h:N_}{a:M0}
theorem ObjOk.lt(x:ObjOk P w H h a o):a<h.objs.size:=by
 cases o with
 |lst X=>obtain⟨_,_,_,_,e⟩:=x;exact Nx e
 |tup X=>obtain⟨_,_,_,p⟩:=x;exact p.lt
 |dK k=>obtain⟨_,_,_,_,o,_,_,e,_⟩:=x;exact Nx e
 |dT k=>obtain⟨_,_,_,_,o,_,_,e,_⟩:=x;exact Nx e
 |set S n=>obtain⟨o,_,_,_,e,_⟩:=x;exact Nx e
 |ins C d F=>obtain⟨_,_,_,e,_⟩:=x;exact Nx e
 |own y=>obtain⟨_,e⟩:=x;exact Nx e
 |xd F=>obtain⟨_,⟨_,_,_,e,_⟩,_⟩:=x;exact Nx e
 |rng lo i=>obtain⟨_,_,_,e⟩:=x;exact Nx e
 |frz O u=>obtain⟨e,_⟩:=x;exact Nx e
 |tbl s=>exact Nx (show h.get? a=B' _ from x)
 |met f y=>exact Nx (show h.get? a=B' _ from x)
 |ext b=>obtain⟨_,⟨_,e⟩,_⟩:=x;exact Nx e
theorem Paired.mapP{c d:Type}{F G:c->d->Prop}:∀{l:gV c} {L:gV d},Paired F l L->(∀a b,F a b->G a b)->Paired G l L
 |_,_,.nil,_=>.nil
 |_,_,.cons r t,f=>.cons (f _ _ r)<|Paired.mapP t f
theorem ObjOk.stay(x:ObjOk P w H h a o)(k:∀b u,(b=a\/H b=B' (.own a))->h.get? b=B' u->h'.get? b=B' u)
  (A:∀b,H b=B' (.own a)->j b=B' (.own a)) (B:∀b X,H b=B' (.tup X)->j b=B' (.tup X)):ObjOk P w j h' a o:=by
 induction o with
 |lst X=>obtain⟨z,M,n,r,e⟩:=x;exact⟨z,M,n,r,k _ _ (.inl rfl) e⟩
 |tup X=>obtain⟨z,M,r,O,e,c⟩:=x;exact⟨z,M,r,O,k _ _ (.inl rfl) e,c⟩
 |dK s=>obtain⟨z,y,D,r,O,E,g,e,c⟩:=x;exact⟨z,y,D,r,O,E,g,k _ _ (.inl rfl) e,c⟩
 |dT s=>
  obtain⟨z,y,X,r,O,E,g,e,c⟩:=x;exact⟨z,y,X,Paired.mapP r λp q z=>⟨z.1,B _ _ z.2.1,z.2.2⟩,O,E,g,k _ _ (.inl rfl) e,c⟩
 |set S n=>obtain⟨O,E,g,t,e,c⟩:=x;exact⟨O,E,g,t,k _ _ (.inl rfl) e,c⟩
 |ins C J F=>
  obtain⟨d,z,N,e,m,⟨i,E,g,G,c⟩,r⟩:=x;exact⟨A _ d,z,N,k _ _ (.inl rfl) e,m,⟨i,E,g,k _ _ (.inr d) G,c⟩,r⟩
 |own y=>obtain⟨O,e⟩:=x;exact⟨O,k _ _ (.inl rfl) e⟩
 |xd F=>obtain⟨m,⟨i,E,g,e,c⟩,r⟩:=x;exact⟨m,⟨i,E,g,k _ _ (.inl rfl) e,c⟩,r⟩
 |rng lo L=>obtain⟨t,u,v,e⟩:=x;exact⟨t,u,v,k _ _ (.inl rfl) e⟩
 |frz O u I=>obtain⟨e,q⟩:=x;exact⟨k _ _ (.inl rfl) e,I q⟩
 |tbl l=>
  have e:h.get? a=B' {cls:=.none,data:=.fields l}:=x;show h'.get? a=B' {cls:=.none,data:=.fields l}
  exact k a _ (.inl rfl) e
 |met f y=>
  have e:h.get? a=B' (Vl (.ref f)<|.ref y):=x;show h'.get? a=B' (Vl (.ref f)<|.ref y)
  exact k a _ (.inl rfl) e
 |ext Q=>obtain⟨p,⟨o,e⟩,st⟩:=x;exact⟨st _ _ p λo q=>k _ _ (.inl rfl) q,⟨o,k _ _ (.inl rfl) e⟩,st⟩
theorem HOk.lt(x:HOk P w H h)(e:H a=B' o):a<h.objs.size:=(x a o e).lt
theorem HOk.fresh(x:HOk P w H h)(e:h.objs.size<=a):H a=none:=by
 cases q:H a with
 |none=>rfl
 |some u=>exact absurd (Oy (x.lt q) e)<|Qp _
theorem HOk.kept(x:HOk P w H h)(k:∀b u,h.get? b=B' u->h'.get? b=B' u):HOk P w H h':=λa o e=>
 (x a o e).stay (λb u _ q=>k b u q) (λ_ q=>q) λ_ _ q=>q
theorem HOk.laid{h':N_}{o:HO}(x:HOk P w H h)(k:∀b u,h.get? b=B' u->h'.get? b=B' u)(p:h.objs.size<=a)(n:ObjOk P w (upd H a o) h' a o):HOk P w (upd H a o) h':=λb u e=>by
 have d:=x.fresh p;by_cases f:b=a
 ·subst f;rw[aa]at e;cases e;exact n
 rw[aj f]at e;exact(x b u e).stay (λc v _ q=>k c v q) (λc q=>by rw[aj<|ai q d];exact q) λc X q=>by rw[aj<|ai q d];exact q
end
def Rd(H:Hp)(a:M0)(u:HO):Prop:=H a=B' u\/∃o,H a=B' (.frz o u)
theorem Rd.ok(r:Rd H a u)(x:HOk P w H h):ObjOk P w H h a u:=by
 obtain r|⟨o,r⟩:=r
 ·exact x a u r
 obtain⟨_,q⟩:=x a _ r;exact q
def JB:MZ HO->Prop
 |some (.lst _)=>True
 |some (.dK _)=>True
 |some (.dT _)=>True
 |some (.set _ _)=>True
 |some (.ins _ _ _)=>True
 |some (.ext _)=>True
 |_=>False
theorem HOk.write(ok:HOk P w H h)(m:JB (H x))(g:e=x\/H e=B' (.own x))(k:∀b u,b≠e->h.get? b=B' u->h'.get? b=B' u)(o:∃u,h'.get? e=B' u)
  (N:ObjOk P w (upd H x O) h' x O):HOk P w (upd H x O) h':=λb u q=>by
 have A:∀c y,H c=B' (.own y)->c≠x:=λc y r z=>by subst z;rw[r]at m;exact m
 have n:∀c X,H c=B' (.tup X)->c≠x:=λc X r z=>by subst z;rw[r]at m;exact m
 by_cases d:b=x
 ·subst d;rw[aa]at q;cases q;exact N
 rw[aj d]at q;by_cases a:b=e
 ·have Q:H b=B' (.own x):=by
   obtain z|z:=g
   ·exact absurd (a.trans z) d
   rw[a];exact z
  rw[q]at Q;cases Q;obtain⟨v,i⟩:=o;exact⟨v,by rw[a];exact i⟩
 refine(ok b u q).stay (λc v f r=>k c v ?_ r) (λc r=>by rw[aj<|A c b r];exact r) λc X r=>by rw[aj<|n c X r];exact r
 obtain rfl|f:=f
 ·exact a
 rintro rfl;obtain z|z:=g
 ·exact A c b f z
 rw[f]at z;cases z;exact d rfl
structure Un (fs ex:gV M0)(H H':Hp)(h h':N_):Prop where
 keep:∀b o,h.get? b=B' o->H b=M5->b∉fs->b∉ex->h'.get? b=B' o
 slot:∀b o,h.get? b=B' o->H b=M5->b∈fs->b∉ex->∃sl,h'.get? b=B' {o with slots:=sl}
 free:∀b o,h.get? b=B' o->H b=M5->b∉ex->H' b=M5
 there:∀b o,h.get? b=B' o->b∉ex->∃o',h'.get? b=B' o'
 tups:∀b xs,H b=B' (.tup xs)->H' b=B' (.tup xs)
 frzs:∀b o u,H b=B' (.frz o u)->H' b=B' (.frz o u)
 tbls:∀b ps,H b=B' (.tbl ps)->∃more,H' b=B' (.tbl<|ps++more)
theorem Un.any(u:Un f e H d h c)(q:h.get? b=B' o)(n:H b=M5)(x:b∉e):∃s,c.get? b=B' {o with slots:=s}:=by
 by_cases a:b∈f
 ·exact u.slot b o q n a x
 exact⟨o.slots,u.keep b o q n a x⟩
theorem Un.kept(k:∀b u,h.get? b=B' u->h'.get? b=B' u):Un f e H H h h':=
 ⟨λb o q _ _ _=>k b o q,λb o q _ _ _=>⟨o.slots,k b o q⟩,λ_ _ _ n _=>n,λb o q _=>⟨o,k b o q⟩,λ_ _ q=>q,λ_ _ _ q=>q,λ_ p q=>⟨#[],by rw[q];simp⟩⟩
theorem Un.refl:Un f e H H h h:=Un.kept λ_ _ q=>q
theorem Un.laid(k:∀b u,h.get? b=B' u->h'.get? b=B' u)(p:h.objs.size<=a)(c:H a=M5):Un f e H (upd H a o) h h' where
 keep:=λb u q _ _ _=>k b u q
 slot:=λb u q _ _ _=>⟨u.slots,k b u q⟩
 free:=λb u q n _=>by rw[aj<|NK<|Oy (Nx q) p];exact n
 there:=λb u q _=>⟨u,k b u q⟩
 tups:=λb x q=>by rw[aj<|ai q c];exact q
 frzs:=λb u x q=>by rw[aj<|ai q c];exact q
 tbls:=λb P q=>⟨#[],by rw[aj<|ai q c,q];simp⟩
theorem Un.write(m:JB (H x))(i:e=x\/H e=B' (.own x))(k:∀b u,b≠e->h.get? b=B' u->h'.get? b=B' u)(c:∃u,h'.get? e=B' u):Un F E H (upd H x o) h h':=by
 have f:∀b,H b=M5->b≠x:=λb n z=>by subst z;rw[n]at m;exact m
 have g:∀b,H b=M5->b≠e:=λb n z=>by
  subst z;obtain r|r:=i
  ·exact f b n r
  rw[n]at r;cases r
 have d:∀b u,H b=B' u->¬JB (B' u)->b≠x:=λb u q N z=>by subst z;rw[q]at m;exact N m
 refine⟨λb u q n _ _=>k b u (g b n) q,λb u q n _ _=>⟨u.slots,k b u (g b n) q⟩,λb u q n _=>by rw[aj<|f b n];exact n,λb u q _=>?_,
  λb X q=>by rw[aj<|d b _ q λz=>z];exact q,λb u X q=>by rw[aj<|d b _ q λz=>z];exact q,λb p q=>⟨#[],by rw[aj<|d b _ q λz=>z,q];simp⟩⟩
 by_cases a:b=e
 ·subst a;exact c
 exact⟨u,k b u a q⟩
noncomputable def Lh(h:N_)(H:Hp):gV M0:=(Os h.objs.size).filter λa=>(H a).isSome
noncomputable def qA(h:N_)(H:Hp):N_:=WB h<|Lh h H
theorem yd(h:N_)(H:Hp):(qA h H).objs.size=h.objs.size:=PySem.W.hideAll_size _ _
theorem zB(e:h.get? b=B' o)(n:H b=M5):(qA h H).get? b=B' o:=
 R8 _ e λm=>by
  have q:(H b).isSome=true:=(NM.mp m).2;rw[n]at q;simp at q
theorem DO(e:(qA h H).get? b=B' o):h.get? b=B' o/\H b=none:=by
 have E:h.get? b=B' o:=X5 (Lh h H) e;exists E;cases q:H b with
 |none=>rfl
 |some x=>
  have m:b∈Lh h H:=NM.mpr ⟨Pj.mpr<|Nx E,by simp[q]⟩;have z:(qA h H).get? b=none:=PySem.W.hideAll_none (Lh h H) m;rw[z]at e;cases e
structure Mod (K:K')(mg:Str->MZ J')(base:N_):Prop where
 kin:K.In base
 glob:base.Ns NU mg
 blt:∃mb,base.Ns oe mb/\∀x:Str,x≠"__name__"->mb x=SZ x
 nolimit:base.NoLimit
structure Cx where
 prog:Nm
 w:NF
 K:K'
 mg:Str->MZ J'
 base:N_
 A:Ou
 N:gV Str
 s₀:M3
 H₀:Hp
 env:Env
 outer:gV Env
 stack:gV Env
 ex:gV M0
 fn:Str->Nf
 calm:Nf
 pn:gV (M0×Obj)
 xe:J'->M3->Prop
noncomputable def jZ(l:gV Env):gV M0:=l.filterMap (·.frame)
noncomputable abbrev Cx.fs(X:Cx):gV M0:=jZ X.outer
def Li(s:T5)(x:Str):Prop:=s.names.lookup x=B' .local\/s.names.lookup x=B' .cell\/s.names.lookup x=B' .free
def F3(s:T5)(x:Str):Prop:=s.names.lookup x=B' .local\/s.names.lookup x=B' .cell
def LB(e:Env)(h:N_)(m:Str->MZ J')(x:Str)(u:J'):Prop:=
 (e.kindOf x=B' .local/\m x=B' u)\/((e.kindOf x=B' .cell\/e.kindOf x=B' .free)/\∃c,e.cells.lookup x=B' c/\h.IsCell c (B' u))
structure Cx.Ok (X:Cx):Prop where
 mod:Mod X.K X.mg X.base
 kind:X.env.scope.kind=.function
 glob:X.env.globals=NU
 blt:X.env.builtins=oe
 above:X.s₀.heap.objs.size<=X.env.locals
 inj:∀x y c,X.env.cells.lookup x=B' c->X.env.cells.lookup y=B' c->x=y
 has:∀x,(X.env.kindOf x=B' .cell\/X.env.kindOf x=B' .free)->∃c,X.env.cells.lookup x=B' c
 cab:∀x c,X.fn x=MX->X.env.cells.lookup x=B' c->X.s₀.heap.objs.size<=c
 hd:X.calm=MX->X.A.handled=M5
 frames:X.A.frames=B' X.stack
 stk:X.stack=X.outer\/(X.stack=X.env::X.outer/\X.env.frame=B' X.env.locals)
 exf:∀b∈X.ex,b≠X.env.locals/\∀x c,X.env.cells.lookup x=B' c->c≠b
 bs:∀b o,X.base.get? b=B' o->X.s₀.heap.get? b=B' o/\X.H₀ b=M5
 bsz:X.base.objs.size<=X.s₀.heap.objs.size
 noex:∀b o,X.base.get? b=B' o->b∉X.ex
 exfs:∀b∈X.ex,b∉X.fs
 funs:X.s₀.heap.FunFrames X.base X.outer
 frf:∀b∈X.fs,X.H₀ b=M5
structure Inv (X:Cx)(M8:gV (M0×Obj))(σ:gV (MZ V))(H:Hp)(s:M3):Prop where
 ok:X.Ok
 os:s.os=X.s₀.os
 bare:UF s.gens
 base:Un X.fs X.ex X.H₀ H X.s₀.heap s.heap
 loc:∃m,s.heap.Ns X.env.locals m/\∀(i:Nat) (x:Str) (v:V),X.N[i]?=B' x->σ[i]?=B' (B' v)->Li X.env.scope x->∃u,RelV v u/\LB X.env s.heap m x u
 cell:∀x c,X.env.cells.lookup x=B' c->∃v,s.heap.IsCell c v
 free:H X.env.locals=M5
 freeC:∀x c,X.env.cells.lookup x=B' c->H c=M5
 pin:∀p∈X.pn++M8,s.heap.get? p.1=B' p.2/\H p.1=M5/\p.1≠X.env.locals/\p.1∉X.fs/\∀v,p.2.data≠.cell v
 hok:HOk X.prog X.w H s.heap
 len:σ.length=X.N.length
theorem Cx.Ok.nofr{X:Cx}(ok:X.Ok)(e:X.base.get? b=B' o):b∉X.fs:=λh=>by
 have:=(ok.funs.mem h).1;rw[e]at this;cases this
theorem Inv.bs(I:Inv X M a H s):∀b o,X.base.get? b=B' o->s.heap.get? b=B' o/\H b=none:=λb o e=>
 ⟨I.base.keep b o (I.ok.bs b o e).1 (I.ok.bs b o e).2 (I.ok.nofr e)<|I.ok.noex b o e,I.base.free b o (I.ok.bs b o e).1 (I.ok.bs b o e).2<|I.ok.noex b o e⟩
theorem Inv.bk(I:Inv X M a H s):∀b o,X.base.get? b=B' o->s.heap.get? b=B' o:=λb o e=>(I.bs b o e).1
theorem Inv.mod(I:Inv X M a H s):Mod X.K X.mg X.base:=I.ok.mod
theorem Inv.kIn(I:Inv X M a H s):X.K.In s.heap:=I.ok.mod.kin.keeps I.bk
theorem Inv.lt(I:Inv X M a H s):X.env.locals<s.heap.objs.size:=let ⟨_,h,_⟩:=I.loc;h.lt
theorem Inv.sz(I:Inv X M a H s):X.s₀.heap.objs.size<=s.heap.objs.size:=Oz I.ok.above<|OG I.lt
theorem Inv.nofs(I:Inv X M d H s){a:M0}(h:s.heap.objs.size<=a):a∉X.fs:=λb=>by
 obtain⟨_,o,c,_⟩:=I.ok.funs.mem b;exact absurd (Oy (Nx c)<|Oz I.sz h)<|Qp _
theorem Inv.cne(I:Inv X M f H s):∀x c,X.env.cells.lookup x=B' c->c≠X.env.locals:=λx c e z=>by
 obtain⟨v,o,b,d⟩:=I.cell x c e;obtain⟨m,⟨O,E,p,h,a,_⟩,_⟩:=I.loc;rw[z,h]at b;cases b;rw[a]at d;cases d
theorem Inv.funs(I:Inv X M q H s):s.heap.FunFrames X.base X.outer:=by
 have a:∀l,(∀b∈jZ l,b∈X.fs)->X.s₀.heap.FunFrames X.base l->s.heap.FunFrames X.base l:=by
  intro l
  induction l with
  |nil=>intro _ _;trivial
  |cons E r i=>
   intro f g;obtain⟨k,⟨L,o,h,n,j,m⟩,p⟩:=g;have c:L∈X.fs:=f L (by unfold jZ;rw[Sg,h];exact Nl);obtain⟨t,e⟩:=I.base.slot L o j (I.ok.frf L c) c λz=>I.ok.exfs L z c;exact⟨k,⟨L,_,h,n,e,m⟩,i (λb d=>f b<|by unfold jZ;rw[Sg,h];exact Nk _ d) p⟩
 exact a X.outer (λ_ d=>d) I.ok.funs
theorem Inv.stack(I:Inv X M a H s):s.heap.FunFrames X.base X.stack:=by
 obtain e|⟨e,h⟩:=I.ok.stk
 ·rw[e];exact I.funs
 rw[e];obtain⟨m,n,_⟩:=I.loc;refine .cons (by rw[I.ok.kind];decide) h n ?_ I.funs;exact W8<|Oz I.ok.bsz I.ok.above
theorem Inv.stkSub(I:Inv X M a H s):∀b∈jZ X.stack,b∈X.env.locals::X.fs:=λb h=>by
 obtain e|⟨e,f⟩:=I.ok.stk
 ·rw[e]at h;exact Nk _ h
 rw[e]at h;unfold jZ at h;rw[Sg,f]at h;exact h
theorem Inv.stkFree(I:Inv X M c H s):∀b∈jZ X.stack,H b=none:=λb h=>by
 obtain e|h:=Nz.mp (I.stkSub b h)
 ·rw[e];exact I.free
 obtain⟨_,o,a,_⟩:=I.ok.funs.mem h;exact I.base.free b o a (I.ok.frf b h) λz=>I.ok.exfs b z h
theorem Inv.step{g':Oh YM}{t':Nat}{d':Drawn}{ch:gV M0}(I:Inv X Y σ H s)
  (a:∀b∈ch,(b∈X.ex\/X.s₀.heap.objs.size<=b)/\b≠X.env.locals/\(∀x c,X.env.cells.lookup x=B' c->c≠b)/\∀p∈X.pn++Y,p.1≠b)
  (g:∀b o,b≠X.env.locals->b∉X.fs->b∉ch->s.heap.get? b=B' o->H b=M5->h'.get? b=B' o)
  (slot:∀b o,b≠X.env.locals->b∈X.fs->b∉ch->s.heap.get? b=B' o->H b=M5->∃J,h'.get? b=B' {o with slots:=J}) (f:∀b o,b∉ch->s.heap.get? b=B' o->H b=M5->A b=M5)
  (t:∀b o,b∉ch->s.heap.get? b=B' o->∃O,h'.get? b=B' O)
  (T:∀b j,H b=B' (.tup j)->A b=B' (.tup j)) (F:∀b o u,H b=B' (.frz o u)->A b=B' (.frz o u)) (B:∀b P,H b=B' (.tbl P)->∃M,A b=B' (.tbl<|P++M))
  (ns:∀m,s.heap.Ns X.env.locals m->h'.Ns X.env.locals m) (Q:HOk X.prog X.w A h') (hg:UF g'):
  Inv X Y σ A {s with heap:=h',gens:=g',drawn:=d',toks:=t'}:=by
 have L:∀b o,X.s₀.heap.get? b=B' o->b≠X.env.locals:=λb o e=>NK<|Oy (Nx e) I.ok.above;have C:∀b o,X.s₀.heap.get? b=B' o->b∉X.ex->b∉ch:=λb o e h w=>by
  obtain z|z:=(a b w).1
  ·exact h z
  exact absurd (Oy (Nx e) z)<|Qp _
 have D:∀x c,X.env.cells.lookup x=B' c->∀v,s.heap.IsCell c v->h'.IsCell c v:=λx c e v ⟨o,y,U⟩=>by
  have N:c∉ch:=λz=>(a c z).2.2.1 x c e rfl;by_cases Z:c∈X.fs
  ·obtain⟨J,q⟩:=slot c o (I.cne x c e) Z N y<|I.freeC x c e;exact⟨_,q,U⟩
  exact⟨o,g c o (I.cne x c e) Z N y<|I.freeC x c e,U⟩
 refine⟨I.ok,I.os,hg,⟨λb o e n w h=>?_,λb o e n w h=>?_,λb o e n h=>?_,λb o e h=>?_,λb j e=>T b j<|I.base.tups b j e,λb o j e=>F b o j<|I.base.frzs b o j e,λb P e=>?_⟩,?_,λx c e=>?_,?_,λx c e=>?_,λp hp=>?_,Q,I.len⟩
 ·exact g b o (L b o e) w (C b o e h) (I.base.keep b o e n w h)<|I.base.free b o e n h
 ·obtain⟨J,E⟩:=I.base.slot b o e n w h;obtain⟨W,G⟩:=slot b _ (L b o e) w (C b o e h) E<|I.base.free b o e n h;exact⟨W,G⟩
 ·obtain⟨O,E⟩:=I.base.there b o e h;exact f b O (C b o e h) E<|I.base.free b o e n h
 ·obtain⟨O,E⟩:=I.base.there b o e h;exact t b O (C b o e h) E
 ·obtain⟨m1,E⟩:=I.base.tbls b P e;obtain⟨m2,G⟩:=B b _ E;exact⟨m1++m2,by rw[G,Array.append_assoc]⟩
 ·obtain⟨m,hn,hl⟩:=I.loc;refine⟨m,ns m hn,λi x v E G e3=>?_⟩;obtain⟨u,r,l⟩:=hl i x v E G e3;exists u,r;obtain l|⟨k,c,e,z⟩:=l
  ·exact .inl l
  exact .inr ⟨k,c,e,D x c e _ z⟩
 ·obtain⟨v,z⟩:=I.cell x c e;exact⟨v,D x c e v z⟩
 ·obtain⟨m,⟨o,_,_,y,_⟩,_⟩:=I.loc;exact f _ o (λz=>(a _ z).2.1 rfl) y I.free
 ·obtain⟨v,o,y,U⟩:=I.cell x c e;exact f c o (λz=>(a c z).2.2.1 x c e rfl) y<|I.freeC x c e
 obtain⟨e,n,ne,nf,d⟩:=I.pin p hp;have N:p.1∉ch:=λz=>(a p.1 z).2.2.2 p hp rfl;exact⟨g p.1 p.2 ne nf N e n,f p.1 p.2 N e n,ne,nf,d⟩
theorem Inv.un(I:Inv X M g H s)(u:Un X.fs [] H d s.heap h')(k:HOk X.prog X.w d h'):Inv X M g d {s with heap:=h',toks:=t'}:=by
 obtain⟨m,⟨o,l,p,f,r⟩,_⟩:=id I.loc;obtain⟨q,L⟩:=u.any f I.free (by simp);exact I.step (g':=s.gens) (d':=s.drawn) (ch:=[]) (λ_ z=>nomatch z) (λb o _ a _ e n=>u.keep b o e n a<|by simp) (λb o _ a _ e n=>u.slot b o e n a<|by simp) (λb o _ e n=>u.free b o e n<|by simp) (λb o _ e=>u.there b o e<|by simp) u.tups u.frzs u.tbls (λt i=>by
  obtain⟨O,E,c,h,j⟩:=i;rw[f]at h;cases h;exact⟨_,E,c,L,j⟩) k I.bare
theorem Inv.call{t':Nat}{d':Drawn}(I:Inv X M j H s)(u:Un (jZ X.stack) ch H g s.heap h')(k:HOk X.prog X.w g h')(l:UF g')
  (a:∀b∈ch,(b∈X.ex\/X.s₀.heap.objs.size<=b)/\b≠X.env.locals/\(∀x c,X.env.cells.lookup x=B' c->c≠b)/\∀p∈X.pn++M,p.1≠b):
  Inv X M j g {s with heap:=h',gens:=g',drawn:=d',toks:=t'}:=by
 obtain⟨m,⟨o,w,y,i,r⟩,_⟩:=id I.loc;obtain⟨A,L⟩:=u.any i I.free λz=>(a _ z).2.1 rfl;exact I.step (ch:=ch) a (λb o L q h e n=>u.keep b o e n (λz=>(Nz.mp<|I.stkSub b z).elim L q) h) (λb o _ _ h e n=>u.any e n h) (λb o h e n=>u.free b o e n h) (λb o h e=>u.there b o e h) u.tups u.frzs u.tbls (λB t=>by
  obtain⟨O,E,f,d,v⟩:=t;rw[i]at d;cases d;exact⟨_,E,f,L,v⟩) k l
theorem Inv.turned{t':Nat}(I:Inv X M a H s)(k:∀b o,b≠i->s.heap.get? b=B' o->h'.get? b=B' o)(d:H i=M5)(L:i≠X.env.locals)
  (f:i∈X.ex\/X.s₀.heap.objs.size<=i) (g:∀x c,X.env.cells.lookup x=B' c->c≠i) (j:∀p∈X.pn++M,p.1≠i):Inv X M a H {s with heap:=h',toks:=t'}:=by
 have N:∀b u,H b=B' u->b≠i:=λb u e z=>by rw[z,d]at e;cases e
 refine I.step (g':=s.gens) (d':=s.drawn) (ch:=[i]) (λb l=>?_) (λb o _ _ h e _=>k b o (λz=>h<|by simp[z]) e) (λb o _ _ h e _=>⟨o.slots,k b o (λz=>h<|by simp[z]) e⟩) (λ_ _ _ _ n=>n)
  (λb o h e=>⟨o,k b o (λz=>h<|by simp[z]) e⟩) (λ_ _ e=>e) (λ_ _ _ e=>e) (λb P e=>⟨#[],by rw[e];simp⟩) (λm t=>?_) (λb u e=>?_) I.bare
 ·have e:b=i:=by simpa using l
  subst e;exact⟨f,L,g,j⟩
 ·obtain⟨o,E,w,y,r⟩:=t;exact⟨o,E,w,k _ o (OV L) y,r⟩
 refine(I.hok b u e).stay (λc v h q=>k c v ?_ q) (λ_ q=>q) λ_ _ q=>q;obtain z|z:=h
 ·rw[z];exact N b u e
 exact N c _ z
theorem Inv.tok(I:Inv X M a H s)(t:Nat):Inv X M a H {s with toks:=t}:=I.un (h':=s.heap) (t':=t) Un.refl I.hok
theorem Inv.kept(I:Inv X M a H s)(k:∀b u,s.heap.get? b=B' u->h'.get? b=B' u):Inv X M a H {s with heap:=h',toks:=t'}:=I.un (Un.kept k)<|I.hok.kept k
theorem Inv.laid{a:M0}{o:HO}{t':Nat}(I:Inv X M c H s)(k:∀b u,s.heap.get? b=B' u->h'.get? b=B' u)(h:s.heap.objs.size<=a)(n:ObjOk X.prog X.w (upd H a o) h' a o):
  Inv X M c (upd H a o) {s with heap:=h',toks:=t'}:=I.un (Un.laid k h<|I.hok.fresh h)<|I.hok.laid k h n
theorem Inv.write{o:HO}{t':Nat}(I:Inv X M c H s)(m:JB (H x))(a:e=x\/H e=B' (.own x))(k:∀b u,b≠e->s.heap.get? b=B' u->h'.get? b=B' u)(h:∃u,h'.get? e=B' u)
  (n:ObjOk X.prog X.w (upd H x o) h' x o):Inv X M c (upd H x o) {s with heap:=h',toks:=t'}:=I.un (Un.write m a k h)<|I.hok.write m a k h n
theorem Inv.pins_of(I:Inv X M b H s)(h:∀p∈a,s.heap.get? p.1=B' p.2/\H p.1=M5/\p.1≠X.env.locals/\p.1∉X.fs/\∀v,p.2.data≠.cell v):Inv X a b H s:=
 ⟨I.ok,I.os,I.bare,I.base,I.loc,I.cell,I.free,I.freeC,λp c=>(NB.mp c).elim (λz=>I.pin p<|Pw _ z)<|h p,I.hok,I.len⟩
theorem mH{N:gV Str}(h:N.Nodup){i j:Nat}{x:Str}(a:N[i]?=B' x) (b:N[j]?=B' x):i=j:=by
 obtain⟨H,e⟩:=M'.mp a;obtain⟨c,E⟩:=M'.mp b;exact(List.getElem_inj h).mp<|e.trans E.symm
theorem o8{M:YK}{A:Ou}{E:J'->M3->Prop}{Q:Vx->M3->Prop}(I:Inv X M8 σ H s)(hN:X.N.Nodup)(N:X.N[i]?=B' x)(t:F3 X.env.scope x)(r:RelV v u)
  (h:∀s',Inv X M8 (σ.set i<|B' v) H s'->(∃a,QC a s.heap s'.heap/\(a=X.env.locals\/X.env.cells.lookup x=B' a))->Q () s') (hf:X.fn x=MX\/X.env.scope.names.lookup x=B' .local:=by first|exact .inl rfl|exact .inr rfl|assumption):wpAny M A (nt X.env x u) Q E s:=by
 obtain⟨m,hn,hl⟩:=id I.loc;have ab:(X.env.scope.kind == .class || (X.env.scope.kind == .module&&X.env.locals != X.env.globals))=false:=by rw[I.ok.kind];rfl
 have B:i<σ.length:=by rw[I.len];exact(M'.mp N).1
 have D:=I.cne;have O:∀{a:M0} {L:N_},(∃o,s.heap.get? a=B' o/\H a=M5)->QC a s.heap L->HOk X.prog X.w H L:=λ{a L} ha f b ob e=>by
  obtain⟨_,_,P⟩:=ha;refine(I.hok b ob e).stay (λc Y l q=>(f.2 c ?_).trans q) (λ_ q=>q) λ_ _ q=>q;rintro rfl;obtain rfl|l:=l
  ·rw[P]at e;cases e
  rw[P]at l;cases l
 obtain C|C:=t
 ·refine wpAny_storeName_local C hn (λL ac f=>?_) ab;obtain⟨oL,_,_,an,_⟩:=id hn;refine h _ ⟨I.ok,I.os,I.bare,⟨λb o e n F t=>?_,λb o e n F t=>?_,I.base.free,λb o e t=>?_,I.base.tups,I.base.frzs,I.base.tbls⟩,⟨_,ac,λj y v' g w e3=>?_⟩,λy c e=>?_,I.free,I.freeC,λp hp=>?_,O ⟨oL,an,I.free⟩ f,by simpa using I.len⟩ ⟨_,f,.inl rfl⟩
  ·exact(f.2 b<|NK<|Oy (Nx e) I.ok.above).trans<|I.base.keep b o e n F t
  ·obtain⟨sl,g⟩:=I.base.slot b o e n F t;exact⟨sl,(f.2 b<|NK<|Oy (Nx e) I.ok.above).trans g⟩
  ·obtain⟨o',g⟩:=I.base.there b o e t;exact⟨o',(f.2 b<|NK<|Oy (Nx e) I.ok.above).trans g⟩
  ·by_cases G:j=i
   ·subst G;rw[N]at g;cases g;rw[S9 B]at w;cases w;exact⟨u,r,.inl ⟨C,by simp⟩⟩
   rw[Ub<|OV G]at w;obtain⟨u',r',q⟩:=hl j y v' g w e3;exists u',r';obtain⟨k,e⟩|⟨k,c,e,z⟩:=q
   ·refine .inl ⟨k,?_⟩;have:y≠x:=λe=>G<|mH hN g<|e▸N;simp[this,e]
   exact .inr ⟨k,c,e,z.sameBut f<|D y c e⟩
  ·obtain⟨Y,z⟩:=I.cell y c e;exact⟨Y,z.sameBut f<|D y c e⟩
  obtain⟨e,n,Z,nf,d⟩:=I.pin p hp;exact⟨(f.2 p.1 Z).trans e,n,Z,nf,d⟩
 have J:X.fn x=true:=by
  obtain z|z:=hf
  ·exact z
  rw[z]at C;cases C
 obtain⟨c,l⟩:=I.ok.has x<|.inl C;obtain⟨Y,z⟩:=I.cell x c l;refine wpAny_storeName_cell I.ok.kind C l z λL T f=>?_;obtain⟨oc,U,as⟩:=id z;refine h {s with heap:=L} ⟨I.ok,I.os,I.bare,⟨λb o e n F t=>?_,λb o e n F t=>?_,I.base.free,λb o e t=>?_,I.base.tups,I.base.frzs,I.base.tbls⟩,⟨m,hn.sameBut f<|OV<|D x c l,λj y v' g w e3=>?_⟩,λy c' e=>?_,I.free,I.freeC,λp hp=>?_,O ⟨oc,U,I.freeC x c l⟩ f,by simpa using I.len⟩ ⟨c,f,.inr l⟩
 ·exact(f.2 b<|NK<|Oy (Nx e)<|I.ok.cab x c J l).trans<|I.base.keep b o e n F t
 ·obtain⟨sl,g⟩:=I.base.slot b o e n F t;exact⟨sl,(f.2 b<|NK<|Oy (Nx e)<|I.ok.cab x c J l).trans g⟩
 ·obtain⟨o',g⟩:=I.base.there b o e t;exact⟨o',(f.2 b<|NK<|Oy (Nx e)<|I.ok.cab x c J l).trans g⟩
 ·by_cases G:j=i
  ·subst G;rw[N]at g;cases g;rw[S9 B]at w;cases w;exact⟨u,r,.inr ⟨.inl C,c,l,T⟩⟩
  rw[Ub<|OV G]at w;obtain⟨u',r',q⟩:=hl j y v' g w e3;exists u',r';obtain q|⟨k,c',e,z'⟩:=q
  ·exact .inl q
  refine .inr ⟨k,c',e,z'.sameBut f ?_⟩;rintro rfl;exact G<|mH hN g<|I.ok.inj _ _ _ e l▸N
 ·by_cases W:c'=c
  ·subst W;exact⟨_,T⟩
  obtain⟨w2,z2⟩:=I.cell y c' e;exact⟨w2,z2.sameBut f W⟩
 obtain⟨e,n,Z,nf,d⟩:=I.pin p hp;refine⟨(f.2 p.1 ?_).trans e,n,Z,nf,d⟩;intro q;rw[q,U]at e;have q':oc=p.2:=Nw e;exact d Y (by rw[<-q'];exact as)
theorem hZ{M:YK}{A:Ou}{E:J'->M3->Prop}{Q:Vx->M3->Prop}(I:Inv X m b H s)(N:X.N.Nodup)(c:X.N[i]?=B' x)(d:F3 X.env.scope x)(r:RelV v u)
  (h:∀a,Inv X m (b.set i<|B' v) H a->Q () a) (f:X.fn x=MX\/X.env.scope.names.lookup x=B' .local:=by first|exact .inl rfl|exact .inr rfl|assumption):wpAny M A (nt X.env x u) Q E s:=
 o8 I N c d r (λa e _=>h a e) f
theorem Inv.call'(I:Inv X M g H s)(o:a.os=s.os)(u:Un (jZ X.stack) ch H f s.heap a.heap)(h:HOk X.prog X.w f a.heap)(i:UF a.gens)
  (d:∀b∈ch,(b∈X.ex\/X.s₀.heap.objs.size<=b)/\b≠X.env.locals/\(∀x c,X.env.cells.lookup x=B' c->c≠b)/\∀p∈X.pn++M,p.1≠b):Inv X M g f a:=by
 obtain⟨j,G,D,t,O⟩:=a;have e:O=s.os:=o;subst e;exact I.call (g':=G) (t':=t) (d':=D) u h i d
abbrev XK:=J'->MZ M0->Hp->Prop
abbrev St:=gV<|MZ V
abbrev VK:=V->Hp->Prop
abbrev TE:=St->Hp->VK->Prop
abbrev TT:=St->Hp->(Nf->Hp->Prop)->Prop
abbrev TA:=St->Hp->(gV V->Hp->Prop)->Prop
structure gx where
 nx:St->Hp->Prop
 rt:VK
 bk:St->Hp->Prop:=λ_ _=>False
 ct:St->Hp->Prop:=λ_ _=>False
abbrev TS:=gx->St->Hp->Prop
def EP(X:Cx)(M:gV (M0×Obj))(a:St)(Q:VK)(u:J')(s:M3):Prop:=∃v H,Inv X M a H s/\RelV v u/\Q v H
def TP(X:Cx)(M:gV (M0×Obj))(a:St)(Q:Nf->Hp->Prop)(b:Nf)(s:M3):Prop:=∃H,Inv X M a H s/\Q b H
def AP(X:Cx)(M:gV (M0×Obj))(a:St)(Q:gV V->Hp->Prop)(u:gV J')(s:M3):Prop:=∃v H,Inv X M a H s/\Vals v u/\Q v H
def SP(X:Cx)(M:gV (M0×Obj))(D:gx)(f:Flow)(s:M3):Prop:=
 match f with
 |.next=>∃a H,Inv X M a H s/\D.nx a H
 |.brk=>∃a H,Inv X M a H s/\D.bk a H
 |.cont=>∃a H,Inv X M a H s/\D.ct a H
 |.ret u=>∃v a H,Inv X M a H s/\RelV v u/\D.rt v H
def PE(X:Cx)(e:OJ)(t:TE):Prop:=
 ∀(M:gV (M0×Obj)) (s:M3) (a:St) (H:Hp) (Q:VK),Inv X M a H s->t a H Q->wpAny (ND X.prog X.w) X.A (Pq e X.env) (EP X M a Q) X.xe s
def PT(X:Cx)(e:OJ)(t:TT):Prop:=
 ∀(M:gV (M0×Obj)) (s:M3) (a:St) (H:Hp) (Q:Nf->Hp->Prop),Inv X M a H s->t a H Q->wpAny (ND X.prog X.w) X.A (isTrue e X.env<|Pq e X.env) (TP X M a Q) X.xe s
def PW(X:Cx)(e:OJ)(t:TT):Prop:=
 ∀(x:Sem J') (M:gV (M0×Obj)) (s:M3) (a:St) (H:Hp) (Q:Nf->Hp->Prop),Inv X M a H s->t a H Q->wpAny (ND X.prog X.w) X.A (isTrue e X.env x) (TP X M a Q) X.xe s
theorem PW.pt(h:PW X e t):PT X e t:=h _
def PA(X:Cx)(e:gV OJ)(t:TA):Prop:=
 ∀(p:Pos) (M:gV (M0×Obj)) (s:M3) (a:St) (H:Hp) (Q:gV V->Hp->Prop),Inv X M a H s->t a H Q->wpAny (ND X.prog X.w) X.A (lC<|Qw p<|NS e X.env) (AP X M a Q) X.xe s
def PS(X:Cx)(st:OZ)(t:TS):Prop:=
 ∀(M:gV (M0×Obj)) (s:M3) (a:St) (H:Hp) (D:gx),Inv X M a H s->t D a H->wpAny (ND X.prog X.w) X.A (exec st X.env) (SP X M D) X.xe s
def PSs(X:Cx)(st:gV OZ)(t:TS):Prop:=
 ∀(M:gV (M0×Obj)) (s:M3) (a:St) (H:Hp) (D:gx),Inv X M a H s->t D a H->wpAny (ND X.prog X.w) X.A (execs st X.env) (SP X M D) X.xe s
theorem bX{b:Type}{t:Sem b}{Q q:b->M3->Prop}{M:YK}{A:Ou}{E:J'->M3->Prop}{s:M3}(h:wpAny M A t Q E s)(H:∀a s,Q a s->q a s):wpAny M A t q E s:=OS h H λ_ _ x=>x
inductive F4 (i:Nat)(a:St)(H:Hp)(Q:VK):Prop
 |mk (v:V)(h:a[i]?=B' (B' v)) (q:Q v H)
def mI(i:Nat):TE:=λa H Q=>F4 i a H Q
def tC(v:V):TE:=λ_ H Q=>Q v H
theorem Hu{X:Cx}{i:Nat}{x:Str}{p:Pos}(N:X.N[i]?=B' x) (g:Li X.env.scope x) (d:(x == ("__debug__":Str))=false:=by decide) (b:(x == ("__classdict__":Str))=false:=by decide):PE X (.Name x p) (mI i):=by
 intro M s j H Q I h;obtain⟨v,e,h⟩:=h;obtain⟨m,n,o⟩:=I.loc;obtain⟨u,r,l⟩:=o i x v N e g;have W:EP X M j Q u s:=⟨v,H,I,r,h⟩;obtain⟨k,q⟩|⟨k,c,f,a⟩:=l
 ·exact pz (WX I.ok.kind k n q W) d
 obtain k|k:=k
 ·exact pz (Xz I.ok.kind k f a W) d
 exact pz (wpAny_loadName_free I.ok.kind k f a W b) d
theorem ae{i j p}:PE X (.Constant (.int i) j p) (tC<|.int i):=λ_ _ _ H _ I h=>wpAny_Constant_int ⟨.int i,H,I.tok _,⟨_,rfl⟩,h⟩
theorem bw{b j p}:PE X (.Constant (.bool b) j p) (tC<|.bl b):=λ_ _ _ H _ I h=>Constant_bool ⟨.bl b,H,I,rfl,h⟩
theorem bg{j p}:PE X (.Constant .none j p) (tC .non):=λ_ _ _ H _ I h=>Constant_none ⟨.non,H,I,rfl,h⟩
theorem aQ{x j p}:PE X (.Constant (.str x) j p) (tC<|.str x):=λ_ _ _ H _ I h=>Calls.Constant_str ⟨.str x,H,I.tok _,⟨_,rfl⟩,h⟩
def Gl(X:Cx)(x:Str):Prop:=X.env.kindOf x=B' .globalImplicit
theorem jk{E:J'->M3->Prop}{p:Pos}(I:Inv X M a H s)(g:Gl X x)(m:X.mg x=B' u)(h:Q u s)
  (d:(x == ("__debug__":Str))=false:=by decide):wpAny (ND X.prog X.w) X.A (Pq (.Name x p) X.env) Q E s:=
 UW I.ok.kind g (Calls.loadGlobal_global (by rw[I.ok.glob];exact I.mod.glob.keeps I.bk) m h) d
theorem fF{E:J'->M3->Prop}{p:Pos}(I:Inv X M c H s)(g:Gl X x)(m:X.mg x=M5)(v:SZ x=B' u)(h:Q u s)
  (n:x≠"__name__":=by decide) (d:(x == ("__debug__":Str))=false:=by decide):wpAny (ND X.prog X.w) X.A (Pq (.Name x p) X.env) Q E s:=by
 obtain⟨e,a,b⟩:=I.mod.blt;exact UW I.ok.kind g (Calls.loadGlobal_builtin (by rw[I.ok.glob];exact I.mod.glob.keeps I.bk) m (by rw[I.ok.blt];exact a.keeps I.bk) ((b x n).trans v) h) d
theorem DQ(g:Gl X x)(m:X.mg x=B' u)(r:RelV v u)(d:(x == ("__debug__":Str))=false:=by decide):PE X (.Name x p) (tC v):=
 λ_ _ _ H _ I h=>jk I g m ⟨v,H,I,r,h⟩ d
theorem cG{x:Str}{v:V}{u:J'}{p:Pos}(g:Gl X x)(m:X.mg x=M5)(a:SZ x=B' u)(r:RelV v u)(n:x≠"__name__":=by decide)(d:(x == ("__debug__":Str))=false:=by decide):PE X (.Name x p) (tC v):=
 λ_ _ _ H _ I h=>fF I g m a ⟨v,H,I,r,h⟩ n d
def PC(X:Cx)(o:ZC)(a b:OJ)(t:TE):Prop:=
 ∀(M:gV (M0×Obj)) (s:M3) (e:St) (H:Hp) (Q:VK),Inv X M e H s->t e H Q->
  wpAny (ND X.prog X.w) X.A (Pq a X.env) (λv c=>wpAny (ND X.prog X.w) X.A (Pq b X.env) (λu d=>wpAny (ND X.prog X.w) X.A (ON o v u) (EP X M e Q) X.xe d) X.xe c) X.xe s
inductive Hv (x:V)(Q:Nf->Hp->Prop)(H:Hp):Prop
 |mk (c:Nf)(h:x=.bl c)(q:Q c H)
def tB(t:TE):TT:=λa H Q=>t a H λx h=>Hv x Q h
theorem zC(h:PC X o a b t)(e:Rq o b=false:=by first|exact nobehind _ (by decide) (by decide)|rfl):PT X (.Compare a [o] [b] p) (tB t):=by
 intro M s f H Q I w;refine WI (bX (h M s f H _ I w) λv l e=>bX e λu m g=>bX g λc n ⟨x,i,j,r,k⟩=>?_) e;obtain⟨d,rfl,q⟩:=k;cases r;exact O3 ⟨i,j,q⟩
theorem aK(h:PE X e t)(b:∀a,isTrue e X.env a=(do let v <-a;V9 e.pos;Uy [v] (truthy v)):=by intro _;rfl):PT X e (tB t):=by
 intro M s c H Q I w;refine isTrue_plain (bX (h M s c H _ I w) λv j ⟨x,f,i,r,g⟩=>?_)<|b _;obtain⟨d,rfl,q⟩:=g;cases r;exact O3 ⟨f,i,q⟩
def LC(t u:TT):TT:=λa H Q=>t a H λc h=>if c=MX then u a h Q else Q MW h
def Mt(t u:TT):TT:=λa H Q=>t a H λc h=>if c=MX then Q MX h else u a h Q
def LD(t:TT):TT:=λa H Q=>t a H λc h=>Q (!c) h
theorem fg(b:PT X a t):PW X (.BoolOp .And [a] p) t:=by
 intro w M s d H Q I h;refine isTrue_and<|bX (b M s d H Q I h) λc f e=>?_;cases c with
 |true=>exact isTrue_and_nil e
 |false=>exact e
theorem cO(b:PT X a t):PW X (.BoolOp .Or [a] p) t:=by
 intro w M s d H Q I h;refine isTrue_or<|bX (b M s d H Q I h) λc f e=>?_;cases c with
 |false=>exact isTrue_or_nil e
 |true=>exact e
theorem fG(f:PT X a T)(g:PW X (.BoolOp .And (b::B) p) t):PW X (.BoolOp .And (a::b::B) p) (LC T t):=by
 intro w M s d H Q I h;refine isTrue_and<|bX (f M s d H _ I h) λc j ⟨e,i,q⟩=>?_;cases c with
 |true=>exact g w M j d e Q i q
 |false=>exact⟨e,i,q⟩
theorem cI(f:PT X a T)(g:PW X (.BoolOp .Or (b::B) p) t):PW X (.BoolOp .Or (a::b::B) p) (Mt T t):=by
 intro w M s d H Q I h;refine isTrue_or<|bX (f M s d H _ I h) λc j ⟨e,i,q⟩=>?_;cases c with
 |true=>exact⟨e,i,q⟩
 |false=>exact g w M j d e Q i q
theorem aT(b:PT X a t):PT X (.UnaryOp .Not a p) (LD t):=by
 intro M s d H Q I h;exact isTrue_not<|b M s d H (λc e=>Q (!c) e) I h
def JC(t T:TE):TE:=λa H Q=>t a H λx h=>∃c,x=.bl c/\if c=MX then T a h Q else Q (.bl MW) h
def LE(t T:TE):TE:=λa H Q=>t a H λx h=>∃c,x=.bl c/\if c=MX then Q (.bl MX) h else T a h Q
def JD(t:TE):TE:=λa H Q=>t a H λx h=>∃c,x=.bl c/\Q (.bl (!c)) h
theorem fN{o}(h:PE X a t):PE X (.BoolOp o [a] p) t:=λM s b H Q I w=>BoolOp_one<|h M s b H Q I w
theorem dF(f:PE X a t)(g:PE X (.BoolOp .And (b::B) p) T):PE X (.BoolOp .And (a::b::B) p) (JC t T):=by
 intro M s d H Q I h;refine BoolOp_and<|bX (f M s d H _ I h) λv j ⟨x,e,i,r,q⟩=>?_;obtain⟨c,rfl,q⟩:=q;cases r;refine O3 ?_;cases c with
 |true=>exact g M j d e Q i q
 |false=>exact⟨.bl MW,e,i,rfl,q⟩
theorem JF(f:PE X a t)(g:PE X (.BoolOp .Or (b::B) p) T):PE X (.BoolOp .Or (a::b::B) p) (LE t T):=by
 intro M s d H Q I h;refine BoolOp_or<|bX (f M s d H _ I h) λv j ⟨x,e,i,r,q⟩=>?_;obtain⟨c,rfl,q⟩:=q;cases r;refine O3 ?_;cases c with
 |false=>exact g M j d e Q i q
 |true=>exact⟨.bl MX,e,i,rfl,q⟩
theorem ub(b:PE X a t):PE X (.UnaryOp .Not a p) (JD t):=by
 intro M s d H Q I h;refine UnaryOp_<|bX (b M s d H _ I h) λv f ⟨x,e,i,r,q⟩=>?_;obtain⟨c,rfl,q⟩:=q;cases r;exact not_of<|O3 ⟨.bl (!c),e,i,rfl,q⟩
def MO(t:TT)(T b:TE):TE:=λa H Q=>t a H λc h=>if c=MX then T a h Q else b a h Q
theorem jl(j:PT X c t)(k:PE X a T)(l:PE X b m):PE X (.IfExp c a b p) (MO t T m):=by
 intro M s e H Q I h;refine wpAny_IfExp<|bX (j M s e H _ I h) λd f ⟨g,i,q⟩=>?_;cases d with
 |true=>exact k M f e g Q i q
 |false=>exact l M f e g Q i q
def SqL(K:K')(H:Hp)(a:M0)(x:gV V):Prop:=
 Rd H a (.lst x)\/
  ∃(o:Obj) (O:Oh J') (n:Nat),K.lookup a=B' o/\o.cls=.type "list"/\o.dict=M5/\o.data=.seq O n/\O.size<=sizeLine/\Vals x O.toList
def SqT(K:K')(H:Hp)(a:M0)(x:gV V):Prop:=
 Rd H a (.tup x)\/
  ∃(o:Obj) (O:Oh J') (n:Nat),K.lookup a=B' o/\o.cls=.type "tuple"/\o.data=.seq O n/\O.size<=sizeLine/\Vals x O.toList
noncomputable def LF:J'->MZ V
 |.none=>B' .non
 |.bool b=>B'<|.bl b
 |.int i _=>B'<|.int i
 |.str x _=>B'<|.str x
 |.bytes b _=>B'<|.byt b
 |.float b _=>B'<|.flt b
 |.ref a=>B'<|.ref a
 |.type n=>B'<|.ty n
 |_=>M5
theorem RelV.abs(r:RelV x u):LF u=B' x:=by
 cases x with
 |non=>cases r;rfl
 |bl _=>cases r;rfl
 |int _=>obtain⟨t,rfl⟩:=r;rfl
 |str _=>obtain⟨t,rfl⟩:=r;rfl
 |byt _=>obtain⟨t,rfl⟩:=r;rfl
 |flt _=>obtain⟨t,rfl⟩:=r;rfl
 |ref _=>cases r;rfl
 |ty _=>cases r;rfl
theorem RelV.inj(r:RelV x u)(q:RelV y u):x=y:=Nw<|r.abs.symm.trans q.abs
theorem Vals.inj:∀{x y:gV V} {u:gV J'},Vals x u->Vals y u->x=y
 |_,_,_,.nil,.nil=>rfl
 |_,_,_,.cons r t,.cons a T=>by rw[r.inj a,Vals.inj t T]
theorem SqL.of{K:K'}(h:H a=B' (.lst x)):SqL K H a x:=.inl<|.inl h
theorem SqT.of{K:K'}(h:H a=B' (.tup x)):SqT K H a x:=.inl<|.inl h
theorem Inv.list(I:Inv X M f H s)(h:SqL X.K H a x):∃O,Vals x O/\PlainL s.heap a O.toArray/\x.length<=sizeLine:=by
 obtain h|⟨o,O,n,k,c,d,b,g,r⟩:=h
 ·obtain⟨z,O,n,r,e⟩:=h.ok I.hok;exact⟨O,r,⟨_,n,e,rfl,rfl,rfl⟩,z⟩
 exists O.toList,r,⟨o,n,I.kIn a o k,c,d,by simpa using b⟩;have e:=r.length;simp only[NH]at e;lia
theorem Inv.tuple(I:Inv X M d H s)(h:SqT X.K H a x):∃O,Vals x O/\ky s.heap a O.toArray/\x.length<=sizeLine:=by
 obtain h|⟨o,O,n,k,c,b,f,r⟩:=h
 ·obtain⟨z,O,r,p⟩:=h.ok I.hok;exact⟨O,r,p,z⟩
 exists O.toList,r,⟨o,I.kIn a o k,c,n,by simpa using b⟩;have e:=r.length;simp only[NH]at e;lia
theorem Inv.list_inj(I:Inv X M f H s)(h:SqL X.K H a x)(h':SqL X.K H a y):x=y:=by
 obtain⟨O,r,⟨o,n,e,_,_,d⟩,_⟩:=I.list h;obtain⟨i,b,⟨g,N,E,_,_,D⟩,_⟩:=I.list h';rw[e]at E;cases E;rw[d]at D;injection D with c _;have:O=i:=by simpa using Oe Y0 c
 subst this;exact r.inj b
theorem Inv.tuple_inj(I:Inv X M f H s)(h:SqT X.K H a x)(h':SqT X.K H a y):x=y:=by
 obtain⟨O,r,⟨o,e,_,n,d⟩,_⟩:=I.tuple h;obtain⟨i,b,⟨g,E,_,N,D⟩,_⟩:=I.tuple h';rw[e]at E;cases E;rw[d]at D;injection D with c _;have:O=i:=by simpa using Oe Y0 c
 subst this;exact r.inj b
noncomputable abbrev Cx.wish(X:Cx)(E:J'->M3->Prop):Cx:={X with xe:=E}
noncomputable abbrev Cx.nox(X:Cx):Cx:=X.wish λ_ _=>False
theorem Cx.Ok.wish{X:Cx}(ok:X.Ok)(E:J'->M3->Prop):(X.wish E).Ok:=
 ⟨ok.mod,ok.kind,ok.glob,ok.blt,ok.above,ok.inj,ok.has,ok.cab,ok.hd,ok.frames,ok.stk,ok.exf,ok.bs,ok.bsz,ok.noex,ok.exfs,ok.funs,ok.frf⟩
theorem Cx.Ok.unwish{X:Cx}{E:J'->M3->Prop}(ok:(X.wish E).Ok):X.Ok:=
 ⟨ok.mod,ok.kind,ok.glob,ok.blt,ok.above,ok.inj,ok.has,ok.cab,ok.hd,ok.frames,ok.stk,ok.exf,ok.bs,ok.bsz,ok.noex,ok.exfs,ok.funs,ok.frf⟩
theorem Inv.wish(I:Inv X M a H s)(E:J'->M3->Prop):Inv (X.wish E) M a H s:=⟨I.ok.wish E,I.os,I.bare,I.base,I.loc,I.cell,I.free,I.freeC,I.pin,I.hok,I.len⟩
theorem Inv.unwish(I:Inv (X.wish E) M a H s):Inv X M a H s:=⟨I.ok.unwish,I.os,I.bare,I.base,I.loc,I.cell,I.free,I.freeC,I.pin,I.hok,I.len⟩
theorem SP.unwish(h:SP (X.wish E) M D f s):SP X M D f s:=by
 cases f with
 |next=>obtain⟨a,H,I,q⟩:=h;exact⟨a,H,I.unwish,q⟩
 |brk=>obtain⟨a,H,I,q⟩:=h;exact⟨a,H,I.unwish,q⟩
 |cont=>obtain⟨a,H,I,q⟩:=h;exact⟨a,H,I.unwish,q⟩
 |ret u=>obtain⟨v,a,H,I,r,q⟩:=h;exact⟨v,a,H,I.unwish,r,q⟩
theorem PSs.nox{st:gV OZ}{t:TS}(h:PSs X.nox st t):PSs X st t:=λM s a H D I w=>
 OS (h M s a H D (I.wish _) w) (λ_ _ q=>q.unwish) λ_ _ z=>P7 z
section
variable {X:Cx}{st:OZ}{t:TS}
def F5:TS:=λD a H=>D.nx a H
def rL(t u:TS):TS:=λD a H=>t {D with nx:=u D} a H
theorem am:PSs X [] F5:=λ_ _ a H _ I h=>QR ⟨a,H,I,h⟩
theorem ad{Q:gV OZ}{u:TS}(b:PS X st t)(c:PSs X Q u):PSs X (st::Q) (rL t u):=by
 intro M s d H D I h;refine VN<|bX (b M s d H {D with nx:=u D} I h) λf e q=>?_;cases f with
 |next=>
  obtain⟨a,g,i,q⟩:=q;exact c M e a g D i q
 |ret v=>exact q
 |brk=>exact q
 |cont=>exact q
theorem ax(a:PS X st t):PSs X [st] t:=by
 intro M s b H D I h;refine VN<|bX (a M s b H D I h) λf c q=>?_;cases f with
 |next=>exact QR q
 |ret v=>exact q
 |brk=>exact q
 |cont=>exact q
theorem Inv.quiet(I:Inv X M a H s):interactive X.env=false:=by simp[interactive,I.ok.kind]
def JG(T:TE):TS:=λD a H=>T a H λ_ h=>D.nx a h
theorem bu(b:PE X e T)(c:UK e M5 p.line X.env=pure false:=by rfl):PS X (.Expr e p) (JG T):=by
 intro M s a H D I h;exact wpAny_Expr_any (bX (b M s a H _ I h) λv f ⟨x,d,i,r,q⟩=>⟨a,d,i,q⟩) I.quiet c
def DR(T:TE):TS:=λD a H=>T a H D.rt
theorem Hw(b:PE X e T):PS X (.Return (B' e) p) (DR T):=by
 intro M s a H D I h;exact wpAny_Return_some<|bX (b M s a H _ I h) λv d ⟨x,c,i,r,q⟩=>⟨x,a,c,i,r,q⟩
def JH:TS:=λD _ H=>D.rt .non H
theorem DS:PS X (.Return M5 p) JH:=λ_ _ a H _ I h=>wpAny_Return_none ⟨.non,a,H,I,rfl,h⟩
def JI(c:TT)(t u:TS):TS:=λD a H=>c a H λb h=>if b=MX then t D a h else u D a h
theorem aE(j:PT X c T)(k:PSs X a t)(l:PSs X b u):PS X (.If c a b p) (JI T t u):=by
 intro M s e H D I h;refine wpAny_If<|bX (j M s e H _ I h) λd f ⟨g,i,q⟩=>?_;cases d with
 |true=>exact k M f e g D i q
 |false=>exact l M f e g D i q
def Hx:TS:=λ_ _ _=>False
theorem gy:PS X st Hx:=λ_ _ _ _ _ _ h=>h.elim
end
abbrev TG:=V->St->Hp->(St->Hp->Prop)->Prop
abbrev F6:=gV V->St->Hp->(St->Hp->Prop)->Prop
def PG(X:Cx)(r:OJ)(t:TG):Prop:=
 ∀(M:gV (M0×Obj)) (s:M3) (b:St) (H:Hp) (v:V) (u:J') (Q:St->Hp->Prop),Inv X M b H s->RelV v u->t v b H Q->
  wpAny (ND X.prog X.w) X.A (Zb r X.env u) (λ_ c=>∃a h,Inv X M a h c/\Q a h) X.xe s
def JJ(X:Cx)(T:gV OJ)(t:F6):Prop:=
 ∀(M:gV (M0×Obj)) (s:M3) (b:St) (H:Hp) (v:gV V) (u:gV J') (Q:St->Hp->Prop),Inv X M b H s->Vals v u->t v b H Q->
  wpAny (ND X.prog X.w) X.A (assignInOrder ((Sz T X.env).map (·.2)) u) (λ_ c=>∃a h,Inv X M a h c/\Q a h) X.xe s
abbrev Lj:=V->V->Hp->VK->Prop
def Mu(X:Cx)(o:ac1)(t:Lj):Prop:=
 ∀(M:gV (M0×Obj)) (s:M3) (a:St) (H:Hp) (x y:V) (v u:J') (Q:VK),Inv X M a H s->RelV x v->RelV y u->t x y H Q->
  wpAny (ND X.prog X.w) X.A (inplaceOp o v u) (EP X M a Q) X.xe s
section
variable {X:Cx}{pos:Pos}
def fO(i:Nat):TG:=λv a H Q=>Q (a.set i<|B' v) H
theorem DT(N:X.N.Nodup)(a:X.N[i]?=B' x)(b:F3 X.env.scope x)(f:X.fn x=MX\/X.env.scope.names.lookup x=B' .local:=by first|exact .inl rfl|exact .inr rfl|assumption):PG X (.Name x pos) (fO i):=by
 intro M s d H v u Q I r h;exact Yx<|hZ I N a b r (λe c=>⟨_,H,c,h⟩) f
def LG:F6:=λv a H Q=>v=[]/\Q a H
def JK(t:TG)(u:F6):F6:=λs b H Q=>∃v r,s=v::r/\t v b H λa h=>u r a h Q
theorem gg:JJ X [] LG:=by
 intro M s a H v u Q I r h;obtain⟨e,h⟩:=h;subst e;cases r;exact assignInOrder_nil ⟨a,H,I,h⟩
theorem cb(b:PG X e t)(c:JJ X E u)
  (d:(Sz (e::E) X.env).map (·.2)=Zb e X.env::(Sz E X.env).map (·.2):=by rfl):JJ X (e::E) (JK t u):=by
 intro M s f H m U Q I r h;obtain⟨v,n,g,h⟩:=h;subst g;cases r with
 |cons r i=>
  rw[d];refine assignInOrder_cons<|bX (b M s f H _ _ _ I r h) λ_ j ⟨a,k,l,q⟩=>?_;exact c M j a k _ _ Q l i q
def JL(K:K')(n:Nat)(t:F6):TG:=λv b H Q=>∃a x,v=.ref a/\SqT K H a x/\x.length=n/\t x b H Q
theorem iX{k:Nat}{n:Nat}(f:X.calm=MX)(h:JJ X E t)
  (g:(Sz E X.env).length=n:=by rfl) (Y:(Sz E X.env).findIdx? (·.1)=none:=by rfl):PG X (.Tuple E k pos) (JL X.K n t):=by
 intro M s c H v u Q I r w;obtain⟨a,x,i,q,l,w⟩:=w;subst i;cases r;obtain⟨O,d,j,z⟩:=I.tuple q;refine assign_Tuple_tuple (I.ok.hd f) j (by simp[g,<-l,d.length]) Y λm p=>?_;have y:Inv X M c H {s with heap:=m}:=I.kept (t':=s.toks) λb o e=>p b o (NK<|Nx e) e;exact h M _ c H x _ Q y (by simpa using d) w
def DU(t:TE)(g:TG):TS:=λD a H=>t a H λx h=>g x a h D.nx
theorem qB(b:PE X e T)(c:PG X t g)(d:swapsWithSole [t] e pos.line X.env=pure false:=by rfl)(w:swappedStores [t] e X.env=pure none:=by rfl)
  (f:(Sz [t] X.env).map (·.2)=[Zb t X.env]:=by rfl):PS X (.Assign [t] e pos) (DU T g):=by
 intro M s a H D I h;refine wpAny_Assign_stores (bX (b M s a H _ I h) λv i ⟨x,j,k,r,Q⟩=>?_) d w;rw[f];exact bX (c M i a j x v _ k r Q) λ_ l q=>q
theorem eU(N:X.N.Nodup)(a:X.N[i]?=B' x)(b:F3 X.env.scope x)(c:PE X e t)(d:UK e (B'<|.Name x U) pos.line X.env=pure false:=by rfl)(f:X.fn x=MX\/X.env.scope.names.lookup x=B' .local:=by first|exact .inl rfl|exact .inr rfl|assumption):
  PS X (.Assign [.Name x U] e pos) (DU t<|fO i):=by
 intro M s g H D I h;refine Yy (bX (c M s g H _ I h) λv m ⟨y,j,k,r,q⟩=>?_) d;exact hZ k N a b r (λn l=>⟨_,j,l,q⟩) f
def LH(i:Nat)(t:TE)(T:Lj):TS:=λD a H=>∃x,a[i]?=B' (B' x)/\t a H λy h=>T x y h λz b=>D.nx (a.set i<|B' z) b
theorem Hy{U:Pos}(N:X.N.Nodup)(j:X.N[i]?=B' x)(f:F3 X.env.scope x)(p:PE X e t)(q:Mu X o T)(B:X.fn x=MX\/X.env.scope.names.lookup x=B' .local:=by first|exact .inl rfl|exact .inr rfl|assumption):
  PS X (.AugAssign (.Name x U) o e pos) (LH i t T):=by
 intro M s n H D I h;obtain⟨v,E,h⟩:=h;obtain⟨m,C,F⟩:=I.loc;have g:Li X.env.scope x:=by obtain k|k:=f;exact .inl k;exact .inr<|.inl k
 obtain⟨u,r,l⟩:=F i x v j E g;refine wpAny_AugAssign_Name ?_;have go:wpAny (ND X.prog X.w) X.A (Pq e X.env) (λw b=>wpAny (ND X.prog X.w) X.A (inplaceOp o u w) (λr d=>wpAny (ND X.prog X.w) X.A (nt X.env x r) (λ_=>SP X M D .next) X.xe d) X.xe b) X.xe s:=by
  refine bX (p M s n H _ I h) λw G ⟨y,J,L,O,Q⟩=>?_;refine bX (q M G n J v y u w _ L r O Q) λz s2 ⟨zv,P,W,Y,Z⟩=>?_;exact hZ W N j f Y (λs3 I3=>⟨_,P,I3,Z⟩) B
 obtain⟨a,hm⟩|⟨a,c,hc,A⟩:=l
 ·exact WX I.ok.kind a C hm go
 obtain a|a:=a
 ·exact Xz I.ok.kind a hc A go
 obtain k|k:=f
 ·have:X.env.scope.names.lookup x=B' .free:=a;rw[k]at this;cases this
 have:X.env.scope.names.lookup x=B' .free:=a;rw[k]at this;cases this
def MP(f:Int->Int->Int):Lj:=λx y H Q=>∃i j,x=.int i/\y=.int j/\Q (.int<|f i j) H
theorem Hz:Mu X .Add (MP λi j=>i+j):=by
 intro M s b H x y v u Q I r a h;obtain⟨i,j,e,E,q⟩:=h;subst e;subst E;obtain⟨t,rfl⟩:=r;obtain⟨T,rfl⟩:=a;exact iadd_int ⟨.int _,H,I.tok _,⟨_,rfl⟩,q⟩
end
def HA(c:TT)(t:TS):TS:=λD a H=>∃W:Nat->St->Hp->Prop,(∃m,W m a H)/\∀m a H,W m a H->
 c a H λb h=>if b=MX then∃N:St->Hp->Prop,(∀d e,N d e->∃M,M<m/\W M d e)/\t {D with nx:=N,ct:=N,bk:=D.nx} a h else D.nx a h
theorem rM(p:PassesOwn (ND X.prog X.w) X.A X.env X.xe)(x:PT X c T)(y:PSs X B z):PS X (.While c B [] P) (HA T z):=by
 intro M s A H D I h;obtain⟨W,⟨C,E⟩,Z⟩:=h;refine wpAny_While<|codeAny_whileLoop (λn F=>∃e l,Inv X M e l F/\W n e l) ?_ C ⟨A,H,I,E⟩;rintro n G ⟨d,o,J,L⟩;refine QQ p<|bX (x M G d o _ J<|Z n d o L) λb O ⟨r,t,q⟩=>?_;cases b with
 |true=>
  obtain⟨N,u,q⟩:=q;rw[Nt rfl];refine QQ p<|bX (y M O d r _ t q) λf U Q=>?_;cases f with
  |next=>
   obtain⟨a,g,i,j⟩:=Q;obtain⟨m,k,w⟩:=u a g j;exact⟨m,k,a,g,i,w⟩
  |cont=>
   obtain⟨a,g,i,j⟩:=Q;obtain⟨m,k,w⟩:=u a g j;exact⟨m,k,a,g,i,w⟩
  |brk=>exact Q
  |ret v=>exact Q
 |false=>
  rw[Np Ni];exact QR ⟨d,r,t,q⟩
structure It where
 go:Nat->Hp->Prop
 yld:Nat->Hp->V->Hp->Prop
 stop:Nat->Hp->Prop
def qC(X:Cx)(M:gV (M0×Obj))(H:Hp)(b:M0):Prop:=
 H b=M5/\b≠X.env.locals/\b∉X.fs/\(b∈X.ex\/X.s₀.heap.objs.size<=b)/\(∀x c,X.env.cells.lookup x=B' c->c≠b)/\∀p∈X.pn++M,p.1≠b
theorem Inv.fpOk{X:Cx}{M:gV (M0×Obj)}{d:St}{H a:Hp}{s:M3}{b:M0}(I:Inv X M d H s)(h:s.heap.objs.size<=b)(n:a b=M5):qC X M a b:=by
 refine⟨n,Rj<|Oy I.lt h,I.nofs h,.inr<|Oz I.sz h,λx c e z=>?_,λp f z=>?_⟩
 ·obtain⟨v,q⟩:=I.cell x c e;exact absurd (Oy q.lt<|by rw[z];exact h)<|Qp _
 exact absurd (Oy (Nx (I.pin p f).1)<|by rw[z];exact h)<|Qp _
structure ye (P:Nm)(w:NF)(K:K')(tg:OJ)(J:It)(fp:gV M0)(it:M0)(tn:Nat->N_->Prop):Prop where
 mem:it∈fp
 obj:∀i h,tn i h->∀b∈fp,∃o,h.get? b=B' o/\∀v,o.data≠.cell v
 keep:∀i h h',tn i h->(∀b∈fp,∀o,h.get? b=B' o->h'.get? b=B' o)->tn i h'
 item:∀(X:Cx),X.prog=P->X.w=w->X.K=K->X.calm=MX->∀(i:Nat) (M8:gV (M0×Obj)) (s:M3) (σ:St) (H:Hp) (E:J'->M3->Prop),Inv X M8 σ H s->(∀b∈fp,qC X M8 H b)->tn i s.heap->J.go i H->
  wpAny (ND P w) X.A (Ts<|.ref it) (λr s1=>∃u,r=B' u/\
   wpAny (ND P w) X.A (Uj tg (.ref it) u) (λ_ s2=>∃x H',Inv X M8 σ H' s2/\RelV x u/\J.yld i H x H'/\tn (i+1) s2.heap/\∀b∈fp,H' b=M5) E s1) E s
 done:∀(X:Cx),X.prog=P->X.w=w->X.K=K->X.calm=MX->∀(i:Nat) (M8:gV (M0×Obj)) (s:M3) (σ:St) (H:Hp) (E:J'->M3->Prop),Inv X M8 σ H s->(∀b∈fp,qC X M8 H b)->tn i s.heap->J.stop i H->
  wpAny (ND P w) X.A (Ts<|.ref it) (λr s1=>r=M5/\Inv X M8 σ H s1) E s
 self:∀(A:Ou) (i:Nat) (s:M3) (Q:J'->M3->Prop) (E:J'->M3->Prop),tn i s.heap->Q (.ref it) s->wpAny (ND P w) A (WZ<|.ref it) Q E s
abbrev TI:=St->Hp->(It->Hp->Prop)->Prop
def LI(X:Cx)(M:gV (M0×Obj))(a:St)(T:OJ)(R:It->Hp->Prop)(i:J')(s:M3):Prop:=
 ∃(I:M0) (f:gV M0) (t:Nat->N_->Prop) (J:It) (H:Hp),i=.ref I/\Inv X M a H s/\ye X.prog X.w X.K T J f I t/\t 0 s.heap/\(∀b∈f,qC X M H b)/\R J H
def PI(X:Cx)(t i:OJ)(w:TI):Prop:=
 ∀(M:gV (M0×Obj)) (s:M3) (a:St) (H:Hp) (R:It->Hp->Prop),Inv X M a H s->w a H R->
  wpAny (ND X.prog X.w) X.A (Pq i X.env) (λv b=>wpAny (ND X.prog X.w) X.A (WZ v) (LI X M a t R) X.xe b) X.xe s
theorem vL{M:YK}{A:Ou}{E:J'->M3->Prop}{t:OJ}{u:J'}{Q:Vx->M3->Prop}(a:s.heap.get? i=B' o)(c:o.cls=.type n)(d:o.data=.fields v)
  (b:["enumerate","zip","dict_itemiterator","dict_reverseitemiterator","odict_iterator","itertools.zip_longest","itertools.pairwise"].contains n=MW) (H:Q () s):wpAny M A (Uj t (.ref i) u) Q E s:=by
 unfold Uj;cases t<;>first
  |exact M9 H
  |(cases u<;>first
    |exact M9 H
    |(refine G'<|wpAny_load a ?_
      rw[c,d];show wpAny M A (if(["enumerate","zip","dict_itemiterator","dict_reverseitemiterator","odict_iterator","itertools.zip_longest","itertools.pairwise"].contains n&&v[0]? == B' (V_ _))=MX then _ else _) Q E s
      rw[Np<|by intro h;rw[b,Xm]at h;cases h];exact M9 H))
noncomputable def DL(K:K')(a:M0):It:=
 ⟨λi H=>∃X x,SqL K H a X/\X[i]?=B' x,λi H x h=>h=H/\∀X,SqL K H a X->X[i]?=B' x,λi H=>∃X,SqL K H a X/\X.length<=i⟩
noncomputable def HB(K:K')(a:M0):It:=
 ⟨λi H=>∃X x,SqT K H a X/\X[i]?=B' x,λi H x h=>h=H/\∀X,SqT K H a X->X[i]?=B' x,λi H=>∃X,SqT K H a X/\X.length<=i⟩
noncomputable def F7(lo:Int)(n:Nat):It:=⟨λi _=>i<n,λi H x h=>h=H/\x=.int (lo+i),λi _=>n<=i⟩
theorem yf{P:Nm}{w:NF}{K:K'}{T:OJ}(a t:M0):ye P w K T (DL K a) [t] t (λi h=>h.IsListIter t a i) where
 mem:=by simp
 obj:=λi h st b f=>by
  have e:b=t:=by simpa using f
  subst e;obtain⟨o,e,c,d⟩:=st;exact⟨o,e,λv z=>by rw[d]at z;cases z⟩
 keep:=λi h g st k=>st.at λo e=>k t (by simp) o e
 item:=by
  intro X l m n J i M s L H E I j st r;subst l m n;obtain⟨O,x,q,y⟩:=r;obtain⟨Q,A,p,U⟩:=I.list q;obtain⟨u,W,Y⟩:=A.get y;obtain⟨F,B,Z,C,D,G⟩:=j t (by simp);refine wpAny_pyNext_list_item st p.isList (x:=u) (by simpa using W) λg N sb=>?_;have I1:Inv X M L H {s with heap:=g}:=I.turned (t':=s.toks) (λb o f e=>(sb.2 b f).trans e) F B C D G;obtain⟨o,e,c,d⟩:=id N;exact⟨u,rfl,vL (s:={s with heap:=g}) e c d (by decide) ⟨x,H,I1,Y,⟨rfl,λys hy=>by rw[I.list_inj hy q];exact y⟩,N,λb f=>(j b f).1⟩⟩
 done:=by
  intro X l m n J i M s L H E I j st r;subst l m n;obtain⟨O,q,y⟩:=r;obtain⟨Q,A,p,U⟩:=I.list q;obtain⟨F,B,Z,C,D,G⟩:=j t (by simp);have hl:=A.length;exact wpAny_pyNext_list_end (I.ok.hd J) st p.isList (by simp;lia) λg eb=>⟨rfl,I.turned (t':=s.toks) (λb o f e=>eb b o f e) F B C D G⟩
 self:=λ_ _ _ _ _ st h=>wpAny_pyIter_listiter st h
theorem uc{P:Nm}{w:NF}{K:K'}{T:OJ}(a t:M0):ye P w K T (HB K a) [t] t (λi h=>h.IsTupleIter t a i) where
 mem:=by simp
 obj:=λi h st b f=>by
  have e:b=t:=by simpa using f
  subst e;obtain⟨o,e,c,d⟩:=st;exact⟨o,e,λv z=>by rw[d]at z;cases z⟩
 keep:=λi h g st k=>st.at λo e=>k t (by simp) o e
 item:=by
  intro X l m n J i M s L H E I j st r;subst l m n;obtain⟨Q,x,q,y⟩:=r;obtain⟨O,A,p,U⟩:=I.tuple q;obtain⟨u,W,Y⟩:=A.get y;obtain⟨F,B,Z,C,D,G⟩:=j t (by simp);refine wpAny_pyNext_tuple_item st (show s.heap.IsTuple a O.toArray from p) (x:=u) (by simpa using W) λg N sb=>?_;have I1:Inv X M L H {s with heap:=g}:=I.turned (t':=s.toks) (λb o f e=>(sb.2 b f).trans e) F B C D G;obtain⟨o,e,c,d⟩:=id N;exact⟨u,rfl,vL (s:={s with heap:=g}) e c d (by decide) ⟨x,H,I1,Y,⟨rfl,λys hy=>by rw[I.tuple_inj hy q];exact y⟩,N,λb f=>(j b f).1⟩⟩
 done:=by
  intro X l m n J i M s L H E I j st r;subst l m n;obtain⟨Q,q,y⟩:=r;obtain⟨O,A,p,U⟩:=I.tuple q;obtain⟨F,B,Z,C,D,G⟩:=j t (by simp);have hl:=A.length;exact wpAny_pyNext_tuple_end (I.ok.hd J) st (show s.heap.IsTuple a O.toArray from p) (by simp;lia) λg eb=>⟨rfl,I.turned (t':=s.toks) (λb o f e=>eb b o f e) F B C D G⟩
 self:=λ_ _ _ _ _ st h=>wpAny_pyIter_tupleiter st h
theorem ue{P:Nm}{w:NF}{K:K'}{B:OJ}(a:M0)(lo:Int)(n:Nat):ye P w K B (F7 lo n) [a] a (λi h=>W7 h a (lo+(i:Nat)*1) ((n:Int)-(i:Nat)) 1) where
 mem:=by simp
 obj:=λi h st b c=>by
  have e:b=a:=by simpa using c
  subst e;exact⟨_,st,λv z=>by
   have Z:ZA _=nk v:=z;cases Z⟩
 keep:=λi h d st k=>k a (by simp) _ st
 item:=by
  intro X g j l m i M s y H E I f st p;subst g j l;obtain⟨F,q,C,r,u,x⟩:=f a (by simp);have W:=vb (prog:=X.prog) (w:=X.w) (I.ok.hd m) a lo 1 n;refine W.item i s _ _ p st λv d T D A G=>?_;obtain⟨t,rfl⟩:=D;have J:Inv X M y H {s with heap:=d,toks:=T}:=I.turned (λb o c e=>G b o (by simpa using c) e) F q r u x;refine⟨_,rfl,vL (s:={s with heap:=d,toks:=T}) (n:="range_iterator") A rfl rfl (by decide) ⟨.int<|lo+i,H,J,⟨t,?_⟩,⟨rfl,rfl⟩,A,λb c=>(f b c).1⟩⟩;rw[vu]
 done:=by
  intro X g j l m i M s y H E I f st p;subst g j l;obtain⟨F,q,C,r,u,x⟩:=f a (by simp);exact V7 (I.ok.hd m) st (by have:n<=i:=p;lia) λd L=>⟨rfl,I.turned (t':=s.toks) (λb o c e=>L b o c e) F q r u x⟩
 self:=λ_ _ _ _ _ st h=>V8 st h
inductive JM (K:K')(x:V)(H:Hp)(R:It->Hp->Prop):Prop
 |mk (a:M0)(h:x=.ref a)(e:∃xs,SqL K H a xs)(r:R (DL K a) H)
inductive JN (K:K')(x:V)(H:Hp)(R:It->Hp->Prop):Prop
 |mk (a:M0)(h:x=.ref a)(e:∃xs,SqT K H a xs)(r:R (HB K a) H)
def JO(K:K')(t:TE):TI:=λa H R=>t a H λx h=>JM K x h R
def JP(K:K')(t:TE):TI:=λa H R=>t a H λx h=>JN K x h R
theorem bO(d:PE X l t):PI X T l (JO X.K t):=by
 intro M s f H R I h;refine bX (d M s f H _ I h) λv c ⟨x,g,i,r,Q⟩=>?_;obtain⟨a,e,⟨m,j⟩,q⟩:=Q;subst e;cases r;obtain⟨O,n,p,z⟩:=i.list j;refine Rz p.isList ?_;refine⟨c.heap.objs.size,[c.heap.objs.size],_,_,g,rfl,i.kept (t':=c.toks) λb o e=>Nb _ e,yf a _,⟨_,NL _ rfl,rfl,rfl⟩,λb k=>?_,q⟩;have e:b=c.heap.objs.size:=by simpa using k
 subst e;exact i.fpOk (Na _)<|i.hok.fresh<|Na _
theorem eA(d:PE X l t):PI X T l (JP X.K t):=by
 intro M s f H R I h;refine bX (d M s f H _ I h) λv c ⟨x,g,i,r,Q⟩=>?_;obtain⟨a,e,⟨m,j⟩,q⟩:=Q;subst e;cases r;obtain⟨O,n,p,z⟩:=i.tuple j;refine wpAny_pyIter_tuple (show c.heap.IsTuple a O.toArray from p) ?_;refine⟨c.heap.objs.size,[c.heap.objs.size],_,_,g,rfl,i.kept (t':=c.toks) λb o e=>Nb _ e,uc a _,⟨_,NL _ rfl,rfl,rfl⟩,λb k=>?_,q⟩;have e:b=c.heap.objs.size:=by simpa using k
 subst e;exact i.fpOk (Na _)<|i.hok.fresh<|Na _
theorem rN{M:gV (M0×Obj)}{a:St}{H:Hp}{s:M3}{R:It->Hp->Prop}{E:J'->M3->Prop}{lo h:Int}{t u v:Tok}{T:Nat}(I:Inv X M a H s)(c:-(2^62)<=lo)(d:lo<2^62)(f:-(2^62)<=h)(g:h<2^62)
  (q:R (F7 lo (h-lo).toNat) H):wpAny (ND X.prog X.w) X.A (WZ<|.ref s.heap.objs.size) (LI X M a m R) E {s with heap:=s.heap.push {cls:=.type "range",data:=.fields #[.int lo t,.int h u,.int 1 v]},toks:=T}:=by
 refine XX (x9 ..) (small_one c d f g) ?_;have i:Inv X M a H {s with heap:=s.heap.push {cls:=.type "range",data:=.fields #[.int lo t,.int h u,.int 1 v]},toks:=T}:=I.kept λb o e=>Nb _ e;refine⟨(s.heap.push {cls:=.type "range",data:=.fields #[.int lo t,.int h u,.int 1 v]}).objs.size,[(s.heap.push {cls:=.type "range",data:=.fields #[.int lo t,.int h u,.int 1 v]}).objs.size],_,_,H,rfl,
  i.kept (t':=T) λb o e=>Nb _ e,ue _ lo (h-lo).toNat,?_,λb j=>?_,q⟩
 ·have k:lo+((0:Nat):Int)*1=lo:=by simp
  have l:(((h-lo).toNat:Nat):Int)-((0:Nat):Int)=VZ lo h 1:=by rw[rangeSize_one];split<;>lia
  show W7 _ _ (lo+((0:Nat):Int)*1) ((((h-lo).toNat:Nat):Int)-((0:Nat):Int)) 1
  rw[k,l];exact NL _ rfl
 have e:b=(s.heap.push {cls:=.type "range",data:=.fields #[.int lo t,.int h u,.int 1 v]}).objs.size:=by simpa using j
 subst e;exact i.fpOk (Na _)<|i.hok.fresh<|Na _
def JQ(t:TA):TI:=λa H R=>t a H λv h=>∃j:Int,v=[.int j]/\ -(2^62)<=j/\j<2^62/\R (F7 0 j.toNat) h
def JR(t:TA):TI:=λa H R=>t a H λv h=>∃i j:Int,v=[.int i,.int j]/\(-(2^62)<=i/\i<2^62/\ -(2^62)<=j/\j<2^62)/\R (F7 i (j-i).toNat) h
theorem eV(g:Gl X "range")(m:X.mg "range"=M5)(b:PA X [a] T)(c:NS [a] X.env=[(MW,Pq a X.env)]:=by rfl):PI X n (.Call (.Name "range" p) [a] [] P) (JQ T):=by
 intro M s d H R I h;refine Call_<|fF I g m rb<|Pr (bX (b P M s d H _ I h) λu o ⟨v,w,i,f,Q⟩=>?_) c rfl;obtain⟨j,e,Q,k,q⟩:=Q;subst e;cases f with
 |cons r l=>
  cases l;obtain⟨t,rfl⟩:=r;exact call_range_1 (rN i (by lia) (by lia) Q k<|by simpa using q)
theorem yg{X:Cx}{T:OJ}{p P:Pos}(g:Gl X "range")(m:X.mg "range"=M5)(d:PA X [a,b] f)(k:NS [a,b] X.env=[(MW,Pq a X.env),(MW,Pq b X.env)]:=by rfl)(Z:NS [b] X.env=[(MW,Pq b X.env)]:=by rfl):
  PI X T (.Call (.Name "range" p) [a,b] [] P) (JR f):=by
 intro M s l H R I h;refine Call_ (fF I g m rb<|Pr (bX (d P M s l H _ I h) λU y ⟨z,A,n,o,Q⟩=>?_) (by rw[k,Z])<|by rw[Z];rfl);obtain⟨i,j,e,⟨Q,u,v,w⟩,q⟩:=Q;subst e;cases o with
 |cons r c=>
  cases c with
  |cons x c=>
   cases c;obtain⟨t,rfl⟩:=r;obtain⟨B,rfl⟩:=x;exact call_range_2<|rN n Q u v w q
def LJ(w:TI)(g:TG)(t:TS):TS:=λD a H=>w a H λJ d=>∃W:Nat->Nat->St->Hp->Prop,(∃m,W 0 m a d)/\∀i m a H,W i m a H->
 (J.stop i H/\D.nx a H)\/(J.go i H/\∃N:St->Hp->Prop,(∀b h,N b h->∃M,M<m/\W (i+1) M b h)/\∀x h,J.yld i H x h->g x a h λc e=>t {D with nx:=N,ct:=N,bk:=D.nx} c e)
noncomputable def mJ(f:gV M0)(h:N_):gV (M0×Obj):=f.filterMap λb=>(h.get? b).map λo=>(b,o)
theorem gT(H:b∈f)(e:h.get? b=B' o):(b,o)∈mJ f h:=P5.mpr ⟨b,H,by rw[e];rfl⟩
theorem yh(H:p∈mJ f h):p.1∈f/\h.get? p.1=B' p.2:=by
 obtain⟨b,a,e⟩:=P5.mp H;cases q:h.get? b with
 |none=>rw[q]at e;cases e
 |some o=>
  rw[q]at e;have E:(b,o)=p:=Nw e;subst E;exact⟨a,q⟩
theorem Inv.pinned(I:Inv X M a H s)(c:∀b∈f,qC X M H b)(g:∀b∈f,∃o,s.heap.get? b=B' o/\∀v,o.data≠.cell v):Inv X (M++mJ f s.heap) a H s:=
 I.pins_of λp i=>(NB.mp i).elim (λz=>I.pin p<|Oo _ z) λz=>by
  obtain⟨h,e⟩:=yh z;obtain⟨F,j,k,_⟩:=c p.1 h;obtain⟨o,E,d⟩:=g p.1 h;rw[e]at E;cases E;exact⟨e,F,j,k,d⟩
theorem Inv.unpinned(I:Inv X (M++P) a H s):Inv X M a H s:=I.pins_of λp h=>I.pin p<|Oo _<|Pw _ h
theorem cP{P:Pos}(y:PassesOwn (ND X.prog X.w) X.A X.env X.xe)(hc:X.calm=MX)(hi:PI X tg t wi)(hg:PG X tg g)(c:PSs X B tb)
  (hs:∀x,Vh t X.env x=pure x:=by intro _;rfl):PS X (.For tg t B [] P) (LJ wi g tb):=by
 intro M s σ H D I h;refine wpAny_For (bX (hi M s σ H _ I h) λv s1 h1=>bX h1 λab s2 h2=>?_) hs;obtain⟨it,F,tn,J,H2,e,I2,T,Q2,f2,W,⟨m0,w0⟩,Z_⟩:=h2;subst e;have A:∀{q:Hp},(∀b∈F,q b=M5)->∀b∈F,qC X M q b:=λhn b c=>⟨hn b c,(f2 b c).2⟩;refine codeAny_forLoop_any (λn s'=>∃i j q,Inv X M j q s'/\tn i s'.heap/\(∀b∈F,q b=M5)/\W i n j q) ?_ m0 ⟨0,σ,H2,I2,Q2,λb c=>(f2 b c).1,w0⟩;rintro n s3 ⟨i,k,G,I3,Y1,z,w3⟩;obtain⟨C,qn⟩|⟨go,N,hN,step⟩:=Z_ i n k G w3
 ·refine QQ y<|bX (T.done X rfl rfl rfl hc i M s3 k G X.xe I3 (A z) Y1 C) λr s4 ⟨L,I4⟩=>?_;subst L;exact QR ⟨k,G,I4,qn⟩
 refine QQ y<|bX (T.item X rfl rfl rfl hc i M s3 k G X.xe I3 (A z) Y1 go) λr s4 ⟨u,L,h4⟩=>?_;subst L;refine QQ y<|bX h4 λ_ s5 ⟨x,H5,I5,r5,y5,w,O⟩=>?_;have U:=I5.pinned (A O)<|T.obj _ _ w;refine QQ y<|bX (hg _ s5 k H5 x u _ U r5<|step x H5 y5) λ_ s6 ⟨Y,H6,I6,q6⟩=>?_;refine QQ y<|bX (c _ s6 Y H6 _ I6 q6) λf Z Q=>?_;have again:∀{a:St} {l:Hp},Inv X (M++mJ F s5.heap) a l Z->N a l->∃m,m<n/\∃i j q,Inv X M j q Z/\tn i Z.heap/\(∀b∈F,q b=M5)/\W i m j q:=λ{a l} p E=>by
  obtain⟨m',hm,w7⟩:=hN a l E;refine⟨m',hm,i+1,a,l,p.unpinned,T.keep _ _ _ w λb c o e=>(p.pin (b,o)<|Oo _<|Oo _<|gT c e).1,λb c=>?_,w7⟩;obtain⟨o,e,d⟩:=T.obj _ _ w b c;exact(p.pin (b,o)<|Oo _<|Oo _<|gT c e).2.1
 cases f with
 |next=>obtain⟨a,l,p,E⟩:=Q;exact again p E
 |cont=>obtain⟨a,l,p,E⟩:=Q;exact again p E
 |brk=>obtain⟨a,l,p,Q⟩:=Q;exact⟨a,l,p.unpinned,Q⟩
 |ret v=>obtain⟨x7,a,l,p,r7,Q⟩:=Q;exact⟨x7,a,l,p.unpinned,r7,Q⟩
theorem gz{K:K'}{a:M0}{X:gV V}{g:TG}{t:TS}{D:gx}{b:St}{H:Hp}(Pv:Nat->St->Hp->Prop)(j:Pv 0 b H)(l:∀i b H,i<=X.length->Pv i b H->SqL K H a X)
  (s:∀i x b H,X[i]?=B' x->Pv i b H->g x b H λc f=>t {D with nx:=Pv<|i+1,ct:=Pv<|i+1,bk:=D.nx} c f) (k:∀b H,Pv X.length b H->D.nx b H):
  ∃W:Nat->Nat->St->Hp->Prop,(∃m,W 0 m b H)/\∀i m b H,W i m b H->
   ((DL K a).stop i H/\D.nx b H)\/((DL K a).go i H/\∃N:St->Hp->Prop,(∀d h,N d h->∃M,M<m/\W (i+1) M d h)/\∀x h,(DL K a).yld i H x h->g x b h λc f=>t {D with nx:=N,ct:=N,bk:=D.nx} c f):=by
 exists λi m b H=>m=X.length-i/\i<=X.length/\Pv i b H,⟨X.length,by simp,NA _,j⟩;rintro i m b H ⟨rfl,n,p⟩;have q:=l i b H n p;by_cases Q:i<X.length
 ·refine .inr ⟨⟨X,X[i],q,by simp[Q]⟩,Pv<|i+1,λd h P=>⟨X.length-(i+1),by lia,rfl,Q,P⟩,λx h y=>?_⟩;obtain⟨e,y⟩:=y;subst e;exact s i x b _ (y X q) p
 have e:i=X.length:=by lia
 subst e;exact .inl ⟨⟨X,q,Na _⟩,k b H p⟩
theorem qD{K:K'}{a:M0}{X:gV V}{g:TG}{t:TS}{D:gx}{b:St}{H:Hp}(Pv:Nat->St->Hp->Prop)(j:Pv 0 b H)(l:∀i b H,i<=X.length->Pv i b H->SqT K H a X)
  (s:∀i x b H,X[i]?=B' x->Pv i b H->g x b H λc f=>t {D with nx:=Pv<|i+1,ct:=Pv<|i+1,bk:=D.nx} c f) (k:∀b H,Pv X.length b H->D.nx b H):
  ∃W:Nat->Nat->St->Hp->Prop,(∃m,W 0 m b H)/\∀i m b H,W i m b H->
   ((HB K a).stop i H/\D.nx b H)\/((HB K a).go i H/\∃N:St->Hp->Prop,(∀d h,N d h->∃M,M<m/\W (i+1) M d h)/\∀x h,(HB K a).yld i H x h->g x b h λc f=>t {D with nx:=N,ct:=N,bk:=D.nx} c f):=by
 exists λi m b H=>m=X.length-i/\i<=X.length/\Pv i b H,⟨X.length,by simp,NA _,j⟩;rintro i m b H ⟨rfl,n,p⟩;have q:=l i b H n p;by_cases Q:i<X.length
 ·refine .inr ⟨⟨X,X[i],q,by simp[Q]⟩,Pv<|i+1,λd h P=>⟨X.length-(i+1),by lia,rfl,Q,P⟩,λx h y=>?_⟩;obtain⟨e,y⟩:=y;subst e;exact s i x b _ (y X q) p
 have e:i=X.length:=by lia
 subst e;exact .inl ⟨⟨X,q,Na _⟩,k b H p⟩
theorem fJ{lo:Int}{n:Nat}{g:TG}{t:TS}{D:gx}(Pv:Nat->St->Hp->Prop)(f:Pv 0 a H)
  (s:∀i a H,i<n->Pv i a H->g (.int<|lo+i) a H λb d=>t {D with nx:=Pv<|i+1,ct:=Pv<|i+1,bk:=D.nx} b d) (j:∀a H,Pv n a H->D.nx a H):
  ∃W:Nat->Nat->St->Hp->Prop,(∃m,W 0 m a H)/\∀i m a H,W i m a H->
   ((F7 lo n).stop i H/\D.nx a H)\/((F7 lo n).go i H/\∃N:St->Hp->Prop,(∀c h,N c h->∃M,M<m/\W (i+1) M c h)/\∀x h,(F7 lo n).yld i H x h->g x a h λb d=>t {D with nx:=N,ct:=N,bk:=D.nx} b d):=by
 exists λi m a H=>m=n-i/\i<=n/\Pv i a H,⟨n,by simp,NA _,f⟩;rintro i m a H ⟨rfl,k,p⟩;by_cases Q:i<n
 ·refine .inr ⟨Q,Pv<|i+1,λc h P=>⟨n-(i+1),by lia,rfl,Q,P⟩,λx h y=>?_⟩;obtain⟨e,y⟩:=y;subst e y;exact s i a _ Q p
 have e:i=n:=by lia
 subst e;exact .inl ⟨Na _,j a H p⟩
abbrev R2:=V->V->Hp->VK->Prop
def OpR(X:Cx)(f:J'->J'->Sem J')(r:R2):Prop:=
 ∀(M:gV (M0×Obj)) (s:M3) (a:St) (H:Hp) (x y:V) (v u:J') (Q:VK),Inv X M a H s->RelV x v->RelV y u->r x y H Q->
  wpAny (ND X.prog X.w) X.A (f v u) (EP X M a Q) X.xe s
def LK(X:Cx)(f:J'->Sem J')(r:V->Hp->VK->Prop):Prop:=
 ∀(M:gV (M0×Obj)) (s:M3) (a:St) (H:Hp) (x:V) (v:J') (Q:VK),Inv X M a H s->RelV x v->r x H Q->
  wpAny (ND X.prog X.w) X.A (f v) (EP X M a Q) X.xe s
def fo(X:Cx)(f:J')(r:gV V->Hp->VK->Prop):Prop:=
 ∀(M:gV (M0×Obj)) (s:M3) (a:St) (H:Hp) (x:gV V) (u:gV J') (Q:VK),Inv X M a H s->Vals x u->r x H Q->
  wpAny (ND X.prog X.w) X.A (call f u) (EP X M a Q) X.xe s
def LL(X:Cx)(r:V->Hp->(Nf->Hp->Prop)->Prop):Prop:=
 ∀(M:gV (M0×Obj)) (s:M3) (a:St) (H:Hp) (x:V) (v:J') (Q:Nf->Hp->Prop),Inv X M a H s->RelV x v->r x H Q->
  wpAny (ND X.prog X.w) X.A (truthy v) (TP X M a Q) X.xe s
def vM(r:R2)(t T:TE):TE:=λa H Q=>t a H λx h=>T a h λy b=>r x y b Q
def MQ(r:V->Hp->VK->Prop)(t:TE):TE:=λa H Q=>t a H λx h=>r x h Q
inductive Mw (C:Int->Int->Prop)(g:Int->Int->V)(x y:V)(H:Hp)(Q:VK):Prop
 |mk (i j:Int)(hx:x=.int i)(h:y=.int j)(c:C i j)(q:Q (g i j) H)
inductive Mx (g:Int->Int->V)(x y:V)(H:Hp)(Q:VK):Prop
 |mk (i j:Int)(hx:x=.int i)(h:y=.int j)(q:Q (g i j) H)
inductive My (g:Int->V)(x:V)(H:Hp)(Q:VK):Prop
 |mk (i:Int)(hx:x=.int i)(q:Q (g i) H)
def rI(C:Int->Int->Prop)(g:Int->Int->V):R2:=λx y H Q=>Mw C g x y H Q
def DV(g:Int->Int->V):R2:=λx y H Q=>Mx g x y H Q
def rU(g:Int->V):V->Hp->VK->Prop:=λx H Q=>My g x H Q
theorem HC(k:PE X a t)(l:PE X b T){R:V->V->Hp->Prop}(I:Inv X M d H s)
  (h:t d H λx j=>T d j λy c=>R x y c) {Q:J'->M3->Prop} {f:J'->J'->Sem J'}
  (m:∀v u i x y c,Inv X M d c i->RelV x v->RelV y u->R x y c->wpAny (ND X.prog X.w) X.A (f v u) Q X.xe i):
  wpAny (ND X.prog X.w) X.A (Pq a X.env) (λv e=>wpAny (ND X.prog X.w) X.A (Pq b X.env) (λu g=>wpAny (ND X.prog X.w) X.A (f v u) Q X.xe g) X.xe e) X.xe s:=by
 refine bX (k M s d H _ I h) λv n ⟨x,j,o,r,q⟩=>?_;refine bX (l M n d j _ o q) λu i ⟨y,c,p,w,z⟩=>?_;exact m v u i x y c p r w z
theorem ar(o:OpR X (QU O) r)(c:PE X a t)(d:PE X b T):PE X (.BinOp a O b p) (vM r t T):=by
 intro M s e H Q I h;exact wpAny_BinOp<|HC c d I h λv u f x y g i j k q=>o M f e g x y v u Q i j k q
theorem fq(o:LK X (unaryOp O) r)(c:PE X a t):PE X (.UnaryOp O a p) (MQ r t):=by
 intro M s b H Q I h;exact UnaryOp_<|bX (c M s b H _ I h) λv d ⟨x,e,i,f,q⟩=>o M d b e x v Q i f q
theorem JS{f:J'->J'->Sem J'}{C:Int->Int->Prop}{g:Int->Int->Int}
  (rule:∀i j t u s Q E,C i j->Q (.int (g i j) s.toks) {s with toks:=s.toks+1}->wpAny (ND X.prog X.w) X.A (f (.int i t)<|.int j u) Q E s):
  OpR X f (rI C λi j=>.int<|g i j):=by
 intro M s b H x y v u Q I r a h;obtain⟨i,j,rfl,rfl,c,q⟩:=h;obtain⟨t,rfl⟩:=r;obtain⟨T,rfl⟩:=a;exact rule i j t T s _ _ c ⟨.int<|g i j,H,I.tok _,⟨_,rfl⟩,q⟩
theorem HE{f:J'->J'->Sem J'}{g:Int->Int->Int}
  (rule:∀i j t u s Q E,Q (.int (g i j) s.toks) {s with toks:=s.toks+1}->wpAny (ND X.prog X.w) X.A (f (.int i t)<|.int j u) Q E s):
  OpR X f (DV λi j=>.int<|g i j):=by
 intro M s b H x y v u Q I r a h;obtain⟨i,j,rfl,rfl,q⟩:=h;obtain⟨t,rfl⟩:=r;obtain⟨T,rfl⟩:=a;exact rule i j t T s _ _ ⟨.int<|g i j,H,I.tok _,⟨_,rfl⟩,q⟩
theorem DW{f:J'->J'->Sem J'}{g:Int->Int->Nf}
  (rule:∀i j t u s Q E,Q (.bool<|g i j) s->wpAny (ND X.prog X.w) X.A (f (.int i t)<|.int j u) Q E s):
  OpR X f (DV λi j=>.bl<|g i j):=by
 intro M s b H x y v u Q I r a h;obtain⟨i,j,rfl,rfl,q⟩:=h;obtain⟨t,rfl⟩:=r;obtain⟨T,rfl⟩:=a;exact rule i j t T s _ _ ⟨.bl<|g i j,H,I,rfl,q⟩
def LM(i j:Int):Prop:=0<j/\j<1073741824
def LN(i j:Int):Prop:=0<=j/\j<=1000000/\i.natAbs<2^64
def CMul(i j:Int):Prop:=(-(2^64)<i/\i<2^64)\/(-(2^64)<j/\j<2^64)
theorem CMul.ok(h:CMul i j):IntMulOk i j:=by
 obtain⟨H,a⟩|⟨H,a⟩:=h
 ·exact .of_left<|D0 H a
 exact .of_right<|D0 H a
theorem uf(k:Nat):(0:Int)<=2^k:=by
 rw[two_pow_cast];exact U7 _
theorem dG:OpR X (QU .Add) (DV λi j=>.int<|i+j):=HE λ_ _ _ _ _ _ _ q=>add_int q
theorem gu:OpR X (QU .Sub) (DV λi j=>.int<|i-j):=HE λ_ _ _ _ _ _ _ q=>sub_int q
theorem fP:OpR X (QU .Mult) (rI CMul λi j=>.int<|i*j):=JS λ_ _ _ _ _ _ _ h q=>mul_int q h.ok
theorem eB:OpR X (QU .FloorDiv) (rI LM λi j=>.int<|i/j):=JS λi j _ _ _ _ _ h q=>by
 have H:(0:Int)<j:=h.1;have a:j<1073741824:=h.2;exact floordiv_int (by lia) (by rw[U8 i<|by lia];exact q) (.inl<|Wf<|by lia)
theorem df:OpR X (QU .Mod) (rI (λ_ j=>0<j) λi j=>.int<|i%j):=JS λi j _ _ _ _ _ h q=>by
 have H:(0:Int)<j:=h;exact mod_int' (by lia) (by rw[Int.fmod_eq_emod_of_nonneg i<|by lia];exact q)
theorem ug:OpR X (QU .LShift) (rI LN λi j=>.int<|i*2^j.toNat):=JS λ_ _ _ _ _ _ _ h q=>lshift_int_small h.1 h.2.1 h.2.2 q
theorem zE:OpR X (QU .RShift) (rI (λ_ j=>0<=j) λi j=>.int<|i/2^j.toNat):=JS λi j _ _ _ _ _ h q=>
 rshift_int h (by rw[U8 i<|uf _];exact q)
theorem zF:OpR X (QU .BitAnd) (DV λi j=>.int<|Q_ i j):=HE λ_ _ _ _ _ _ _ q=>and_int q
theorem MR{f:J'->Sem J'}{g:Int->Int}
  (rule:∀i t s Q E,Q (.int (g i) s.toks) {s with toks:=s.toks+1}->wpAny (ND X.prog X.w) X.A (f<|.int i t) Q E s):
  LK X f (rU λi=>.int<|g i):=by
 intro M s a H x v Q I r h;obtain⟨i,rfl,q⟩:=h;obtain⟨t,rfl⟩:=r;exact rule i t s _ _ ⟨.int<|g i,H,I.tok _,⟨_,rfl⟩,q⟩
theorem di:LK X (unaryOp .USub) (rU λi=>.int (-i)):=MR λ_ _ _ _ _ q=>neg_int q
noncomputable def JT:V->V->Nf
 |.non,.non=>MX|.non,.int _=>MX|.int _,.non=>MX|.non,.bl _=>MX|.bl _,.non=>MX|.non,.str _=>MX|.str _,.non=>MX
 |.int _,.int _=>MX|.bl _,.bl _=>MX|.str _,.str _=>MX|.byt _,.byt _=>MX
 |.int _,.str _=>MX|.str _,.int _=>MX|.bl _,.str _=>MX|.str _,.bl _=>MX
 |_,_=>MW
def LO:R2:=λx y H Q=>JT x y=MX/\Q (.bl (decide (x=y))) H
def LP:R2:=λx y H Q=>JT x y=MX/\Q (.bl (!decide (x=y))) H
theorem vN:decide (V.int i=V.int j)=(i == j):=by
 rw[O0];simp
theorem qE:decide (V.bl i=V.bl j)=(i == j):=by
 rw[O0];simp
theorem vO:decide (V.str i=V.str j)=(i == j):=by
 rw[O0];simp
theorem vP:decide (V.byt i=V.byt j)=(i.toList == j.toList):=by
 rw[O0];cases i;cases j;simp
theorem bn(I:Inv X M a H s)(q:Q (.bl k) H)(e:k=b):EP X M a Q (.bool b) s:=by
 subst e;exact⟨.bl k,H,I,rfl,q⟩
theorem JU:OpR X (ON .Eq) LO:=by
 intro M s c H x y v u Q I b r h;obtain⟨a,q⟩:=h;cases x with
 |non=>
  cases b;cases y with
  |non=>cases r;exact aaV (bn I q<|by simp)
  |bl j=>cases r;exact aaW (bn I q<|by simp)
  |int j=>obtain⟨T,rfl⟩:=r;exact abu (bn I q<|by simp)
  |str j=>obtain⟨T,rfl⟩:=r;exact abt (bn I q<|by simp)
  |_=>exact absurd (show MW=MX from a) Ni
 |bl i=>
  cases b;cases y with
  |non=>cases r;exact aaX (bn I q<|by simp)
  |bl j=>cases r;exact eq_bool<|bn I q qE
  |str j=>obtain⟨T,rfl⟩:=r;exact aa1 (bn I q<|by simp)
  |_=>exact absurd (show MW=MX from a) Ni
 |int i=>
  obtain⟨t,rfl⟩:=b;cases y with
  |non=>cases r;exact abv (bn I q<|by simp)
  |int j=>obtain⟨T,rfl⟩:=r;exact eq_int<|bn I q vN
  |str j=>obtain⟨T,rfl⟩:=r;exact abz (bn I q<|by simp)
  |_=>exact absurd (show MW=MX from a) Ni
 |str i=>
  obtain⟨t,rfl⟩:=b;cases y with
  |non=>cases r;exact abr (bn I q<|by simp)
  |bl j=>cases r;exact aa0 (bn I q<|by simp)
  |int j=>obtain⟨T,rfl⟩:=r;exact aby (bn I q<|by simp)
  |str j=>obtain⟨T,rfl⟩:=r;exact eq_str<|bn I q vO
  |_=>exact absurd (show MW=MX from a) Ni
 |byt i=>
  obtain⟨t,rfl⟩:=b;cases y with
  |byt j=>obtain⟨T,rfl⟩:=r;exact PySem.W.eq_bytes<|bn I q vP
  |_=>exact absurd (show MW=MX from a) Ni
 |_=>cases y<;>exact absurd (show MW=MX from a) Ni
theorem JV:OpR X (ON .NotEq) LP:=by
 intro M s c H x y v u Q I b r h;obtain⟨a,q⟩:=h;cases x with
 |non=>
  cases b;cases y with
  |non=>cases r;exact aaS (bn I q<|by simp)
  |bl j=>cases r;exact aaT (bn I q<|by simp)
  |int j=>obtain⟨T,rfl⟩:=r;exact abp (bn I q<|by simp)
  |str j=>obtain⟨T,rfl⟩:=r;exact abo (bn I q<|by simp)
  |_=>exact absurd (show MW=MX from a) Ni
 |bl i=>
  cases b;cases y with
  |non=>cases r;exact aaU (bn I q<|by simp)
  |bl j=>cases r;exact ne_bool<|bn I q<|Oe not qE
  |str j=>obtain⟨T,rfl⟩:=r;exact aaZ (bn I q<|by simp)
  |_=>exact absurd (show MW=MX from a) Ni
 |int i=>
  obtain⟨t,rfl⟩:=b;cases y with
  |non=>cases r;exact abq (bn I q<|by simp)
  |int j=>obtain⟨T,rfl⟩:=r;exact ne_int<|bn I q<|Oe not vN
  |str j=>obtain⟨T,rfl⟩:=r;exact abx (bn I q<|by simp)
  |_=>exact absurd (show MW=MX from a) Ni
 |str i=>
  obtain⟨t,rfl⟩:=b;cases y with
  |non=>cases r;exact abn (bn I q<|by simp)
  |bl j=>cases r;exact aaY (bn I q<|by simp)
  |int j=>obtain⟨T,rfl⟩:=r;exact abw (bn I q<|by simp)
  |str j=>obtain⟨T,rfl⟩:=r;exact ne_str<|bn I q<|Oe not vO
  |_=>exact absurd (show MW=MX from a) Ni
 |byt i=>
  obtain⟨t,rfl⟩:=b;cases y with
  |byt j=>obtain⟨T,rfl⟩:=r;exact PySem.W.ne_bytes<|bn I q<|Oe not vP
  |_=>exact absurd (show MW=MX from a) Ni
 |_=>cases y<;>exact absurd (show MW=MX from a) Ni
theorem mK:OpR X (ON .Lt) (DV λi j=>.bl (decide (i<j))):=DW λ_ _ _ _ _ _ _ q=>lt_int q
theorem o9:OpR X (ON .LtE) (DV λi j=>.bl (decide (i<=j))):=DW λ_ _ _ _ _ _ _ q=>le_int q
theorem h_:OpR X (ON .Gt) (DV λi j=>.bl (decide (j<i))):=DW λ_ _ _ _ _ _ _ q=>gt_int q
theorem JW:OpR X (ON .GtE) (DV λi j=>.bl (decide (j<=i))):=DW λ_ _ _ _ _ _ _ q=>ge_int q
theorem ib:OpR X (ON .Is) (λx y H Q=>y=.non/\Q (.bl (decide (x=.non))) H):=by
 intro M s b H x y v u Q I r a h;obtain⟨rfl,q⟩:=h;cases a;refine is_none_gen<|bn I q ?_;cases x<;>first
  |(cases r;rfl)
  |(obtain⟨t,rfl⟩:=r;rfl)
theorem vR:OpR X (ON .IsNot) (λx y H Q=>y=.non/\Q (.bl (!decide (x=.non))) H):=by
 intro M s b H x y v u Q I r a h;obtain⟨rfl,q⟩:=h;cases a;refine isnot_none_gen<|bn I q ?_;cases x<;>first
  |(cases r;rfl)
  |(obtain⟨t,rfl⟩:=r;rfl)
theorem OpR.or(h:OpR X f r)(h':OpR X f d):OpR X f (λx y H Q=>r x y H Q\/d x y H Q):=by
 intro M s a H x y v u Q I b c q;obtain q|q:=q
 ·exact h M s a H x y v u Q I b c q
 exact h' M s a H x y v u Q I b c q
theorem zG(b:OJ)(h:o≠.In:=by decide)(H:o≠.NotIn:=by decide):Rq o b=false:=by
 have e:(o == CmpOp.In)=false:=by cases o<;>first|rfl|exact absurd rfl h
 have E:(o == CmpOp.NotIn)=false:=by cases o<;>first|rfl|exact absurd rfl H
 cases b<;>simp[Rq,e,E]
theorem lR(c:OpR X (ON o) r)(d:PE X a t)(e:PE X b T)(m:Rq o b=MW):PE X (.Compare a [o] [b] p) (vM r t T):=by
 intro M s f H Q I h;exact wpAny_Compare1 (HC d e I h λv u g x y i j k l q=>c M g f i x y v u Q j k l q) m
def zH(t:TE):TT:=λa H Q=>t a H λx h=>Hv x Q h
theorem cp(f:OpR X (ON o) r)(g:PE X a t)(i:PE X b T)(m:Rq o b=MW):PT X (.Compare a [o] [b] p) (zH<|vM r t T):=by
 intro M s d H Q I h;refine WI (bX (g M s d H _ I h) λv j ⟨x,l,n,q,w⟩=>bX (i M j d l _ n w) λu A ⟨y,B,C,D,E⟩=>
  bX (f M A d B x y v u _ C q D E) λc N ⟨z,F,G,J,k,e,L⟩=>?_) m
 subst e;cases J;exact O3 ⟨F,G,L⟩
def zI(r b:R2)(t T c:TE):TE:=λa H Q=>t a H λx d=>T a d λy e=>r x y e λz h=>∃k,z=.bl k/\
 (if k=MX then c a h λw f=>b y w f Q else Q (.bl MW) h)
theorem zJ(m:OpR X (ON O) r)(g:OpR X (ON o) n)(p:PE X a t)(w:PE X b T)(A:PE X c B)
  (C:lastMarks [O,o] [b,c]=false:=by with_unfolding_all rfl):PE X (.Compare a [O,o] [b,c] P) (zI r n t T B):=by
 intro M s f H Q I h;refine Compare_chain (bX (p M s f H _ I h) λv D ⟨x,E,F,G,J⟩=>chain_link (bX (w M D f E _ F J) λu L ⟨y,N,U,i,W⟩=>
  bX (m M L f N x y v u _ U G i W) λd Y ⟨z,j,l,Z,k,e,q⟩=>?_)) C
 subst e;cases Z;refine O3 ?_;cases k with
 |false=>exact ite_ff ⟨.bl MW,j,l,rfl,q⟩
 |true=>exact ite_tt<|chain_last<|bX (A M Y f j _ l q) λw' s4 ⟨z',H4,I4,r4,q4⟩=>g M s4 f H4 y z' u w' Q I4 i r4 q4
theorem rO(m:OpR X (ON O) r)(g:OpR X (ON o) n)(p:PE X a t)(w:PE X b T)(A:PE X c B)
  (C:lastMarks [O,o] [b,c]=false:=by with_unfolding_all rfl):PT X (.Compare a [O,o] [b,c] P) (zH<|zI r n t T B):=by
 intro M s f H Q I h;refine isTrue_chain (bX (p M s f H _ I h) λv D ⟨x,E,F,G,J⟩=>test_link (bX (w M D f E _ F J) λu L ⟨y,N,U,i,W⟩=>
  bX (m M L f N x y v u _ U G i W) λd Y ⟨z,j,l,Z,k,e,q⟩=>?_)) C
 subst e;cases Z;refine O3 ?_;cases k with
 |false=>
  obtain⟨k',e',q'⟩:=q;cases e';exact ite_ff ⟨j,l,q'⟩
 |true=>
  refine ite_tt<|test_last<|bX (A M Y f j _ l q) λw' s4 ⟨z',H4,I4,r4,q4⟩=>bX (g M s4 f H4 y z' u w' _ I4 i r4 q4) λd' s5 ⟨z2,H5,I5,r5,k2,e2,q5⟩=>?_;subst e2;cases r5;exact O3 ⟨H5,I5,q5⟩
def DX(K:K')(x:V)(H:Hp)(k:Nf):Prop:=
 match x with
 |.non=>k=MW
 |.bl b=>k=b
 |.int i=>k=(i != 0)
 |.str y=>y.length<=sizeLine/\k=((y.length:Int) != 0)
 |.byt y=>y.size<=sizeLine/\k=((y.size:Int) != 0)
 |.ref p=>(∃X,SqL K H p X/\k=!X.isEmpty)\/(∃X,SqT K H p X/\k=!X.isEmpty)\/∃s,H p=B' (.dK s)/\k=!s.isEmpty
 |_=>False
theorem uh{a:Type}{k:gV (a×V)}{v:gV (a×J')}(r:KV k v):(!v.isEmpty)=!k.isEmpty:=by
 cases r<;>rfl
theorem mL(r:Vals x O):(!O.toArray.isEmpty)=!x.isEmpty:=by
 cases r<;>simp
theorem mM:(sizeLine:Nat)<2^63:=by rw[O7];decide
theorem HF:LL X (λx H Q=>∃k,DX X.K x H k/\Q k H):=by
 intro M s o H x v Q I d h;obtain⟨k,e,q⟩:=h;have u:=mM;have w:sizeLine=16777216:=O7;cases x with
 |non=>
  cases d;have E:k=false:=e;subst E;exact truthy_none ⟨H,I,q⟩
 |bl b=>
  cases d;have E:k=b:=e;subst E;exact O3 ⟨H,I,q⟩
 |int i=>
  obtain⟨t,rfl⟩:=d;have E:k=(i != 0):=e;subst E;exact PySem.P.truthy_int ⟨H,I,q⟩
 |str y=>
  obtain⟨t,rfl⟩:=d;obtain⟨l,E⟩:y.length<=sizeLine/\k=((y.length:Int) != 0):=e;subst E;exact PySem.P.truthy_str (by lia) ⟨H,I.tok _,q⟩
 |byt y=>
  obtain⟨t,rfl⟩:=d;obtain⟨l,E⟩:y.size<=sizeLine/\k=((y.size:Int) != 0):=e;subst E;exact PySem.W.truthy_bytes (by lia) ⟨H,I.tok _,q⟩
 |ref p=>
  cases d;have E:(∃c,SqL X.K H p c/\k=!c.isEmpty)\/(∃c,SqT X.K H p c/\k=!c.isEmpty)\/∃a,H p=B' (.dK a)/\k=!a.isEmpty:=e;obtain⟨c,f,E⟩|⟨c,f,E⟩|⟨a,f,E⟩:=E
  ·subst E;obtain⟨O,r,P,z⟩:=I.list f;have j:=r.length;exact wpAny_truthy_list P.isList (by simp only[Nq];lia) ⟨H,I.tok _,by rw[mL r];exact q⟩
  ·subst E;obtain⟨O,r,P,z⟩:=I.tuple f;have j:=r.length;exact truthy_tuple P (by simp only[Nq];lia) ⟨H,I.tok _,by rw[mL r];exact q⟩
  ·subst E;obtain⟨z,n,g,r,m⟩:a.length<=sizeLine/\(p == P4)=MW/\∃g,KV a g/\s.heap.DictOf (bh X.prog X.w) p g:=I.hok p _ f;have j:a.length=g.length:=Paired.length r;exact wpAny_truthy_dict n m (by lia) ⟨H,I.tok _,by rw[uh r];exact q⟩
 |_=>exact(show False from e).elim
theorem rP(e:PE X a t)(f:∀c,isTrue a X.env c=(do let v <-c;V9 a.pos;Uy [v] (truthy v))):
  PT X a (λb H Q=>t b H λx d=>∃k,DX X.K x d k/\Q k d):=by
 intro M s b H Q I h;exact isTrue_plain (bX (e M s b H _ I h) λv g ⟨x,i,j,r,q⟩=>HF M g b i x v Q j r q)<|f _
theorem fI(r:Vals [x] U):∃u,U=[u]/\RelV x u:=by
 cases r with
 |cons a b=>cases b;exact⟨_,rfl,a⟩
theorem rQ(r:Vals [x,y] U):∃u w,U=[u,w]/\RelV x u/\RelV y w:=by
 cases r with
 |cons a b=>
  cases b with
  |cons c d=>cases d;exact⟨_,_,rfl,a,c⟩
theorem ce:fo X (.builtin "abs") (λx H Q=>∃i,x=[.int i]/\Q (.int (if i<0 then -i else i)) H):=by
 intro M s a H x U Q I r h;obtain⟨i,rfl,q⟩:=h;obtain⟨u,rfl,t,rfl⟩:=fI r;exact XT λu T=>⟨.int (if i<0 then -i else i),H,I.tok _,⟨_,rfl⟩,q⟩
theorem yi(c:X.calm=MX):fo X (.builtin "max") (λx H Q=>∃i j,x=[.int i,.int j]/\Q (.int (if j>i then j else i)) H):=by
 intro M s b H x U Q I r h;obtain⟨i,j,rfl,q⟩:=h;obtain⟨u,w,rfl,⟨t,rfl⟩,⟨T,rfl⟩⟩:=rQ r;refine max_two_ints (I.ok.hd c) λd e k=>⟨_,H,I.kept k,?_,q⟩;by_cases a:j>i
 ·rw[Nt a,Nt a];exact⟨_,rfl⟩
 rw[Np a,Np a];exact⟨_,rfl⟩
theorem o_:fo X (.type "int") (λx H Q=>(∃i,x=[.int i]/\Q (.int i) H)\/∃k,x=[.bl k]/\Q (.int (if k then 1 else 0)) H):=by
 intro M s b H x U Q I r h;obtain⟨i,rfl,q⟩|⟨k,rfl,q⟩:=h
 ·obtain⟨u,rfl,t,rfl⟩:=fI r;exact call_int_int ⟨.int i,H,I,⟨_,rfl⟩,q⟩
 obtain⟨u,rfl,a⟩:=fI r;cases a;exact call_int_bool ⟨.int (if k then 1 else 0),H,I.tok _,⟨_,rfl⟩,q⟩
def LQ(K:K')(x:V)(H:Hp)(n:Nat):Prop:=
 match x with
 |.str y=>y.length<=sizeLine/\n=y.length
 |.byt y=>y.size<=sizeLine/\n=y.size
 |.ref p=>(∃X,SqL K H p X/\n=X.length)\/∃X,SqT K H p X/\n=X.length
 |_=>False
inductive HG (K:K')(xs:gV V)(H:Hp)(Q:VK):Prop
 |mk (x:V)(n:Nat)(h:xs=[x])(l:LQ K x H n)(q:Q (.int n) H)
theorem aD:fo X (.builtin "len") (HG X.K):=by
 intro M s i H a U Q I r h;obtain⟨x,n,rfl,e,q⟩:=h;obtain⟨u,rfl,b⟩:=fI r;have l:=mM;have j:sizeLine=16777216:=O7;cases x with
 |str y=>
  obtain⟨t,rfl⟩:=b;obtain⟨g,E⟩:y.length<=sizeLine/\n=y.length:=e;subst E;exact len_str (by lia) ⟨.int _,H,I.tok _,⟨_,rfl⟩,q⟩
 |byt y=>
  obtain⟨t,rfl⟩:=b;obtain⟨g,E⟩:y.size<=sizeLine/\n=y.size:=e;subst E;exact PySem.W.len_bytes (by lia) ⟨.int _,H,I.tok _,⟨_,rfl⟩,q⟩
 |ref p=>
  cases b;have E:(∃a,SqL X.K H p a/\n=a.length)\/∃a,SqT X.K H p a/\n=a.length:=e;obtain⟨a,c,E⟩|⟨a,c,E⟩:=E
  ·subst E;obtain⟨O,d,P,z⟩:=I.list c;have f:=d.length;exact Calls.call_len_list P.isList (by simp only[Nq];lia) ⟨.int a.length,H,I.tok _,⟨_,by simp only[Nq];rw[f]⟩,q⟩
  ·subst E;obtain⟨O,d,P,z⟩:=I.tuple c;have f:=d.length;exact len_tuple P (by simp only[Nq];lia) ⟨.int a.length,H,I.tok _,⟨_,by simp only[Nq];rw[f]⟩,q⟩
 |_=>exact(show False from e).elim
structure ObjM (h:N_)(x dx C:M0)(mA:Str->MZ J'):Prop where
 obj:h.get? x=B' (Qx C dx)
 ns:h.Ns1 dx mA
 ne:dx≠x
theorem yj{h:N_}{d:M0}{m:Str->MZ J'}(n:h.Ns1 d m):∃O,h.get? d=B' O/\∀N,UR N O=B' (m N):=by
 obtain⟨o,E,p,H,b,k,_,c⟩:=n;refine⟨o,H,λN=>?_⟩;have e:=c N;unfold nsFind findBy at e;rw[<-Array.find?_toList]at e;unfold UR;rw[b];dsimp only
 split
 ·rename_i y q;rw[q]at e;exact Oe B' e
 rename_i q;rw[q]at e;have a:E.toList.any (·.refKey)=false:=by
  rw[List.any_eq_false];intro y f;obtain⟨z,t,Z⟩:=k y<|QY.mp f;simp[ZK,Z]
 have A:¬E.toList.any (·.refKey)=true:=by rw[a];exact Ni
 rw[Np A];exact Oe B' e
theorem ObjM.look(I:ObjM h x d C m):∃o,PySem.W.InstAt h x (Qx C d) C (B' o)/\∀n,UR n o=B' (m n):=
 let ⟨o,H,l⟩:=yj I.ns
 ⟨o,⟨I.obj,rfl,rfl,H⟩,l⟩
section
variable {prog:Nm}{w:NF}{A:Ou}{E:J'->M3->Prop}{s:M3}{K:K'}{x dx C f:M0}{mA:Str->MZ J'}{name:Str}{v:J'}
theorem DY{a:Nf}{Q:J'->M3->Prop}(X:K.In s.heap)(I:ObjM s.heap x dx C mA)(g:R0 K C name=MX)(b:S1 K C=MX)
  (c:Of K (.ref C) name=B' M5) (d:mA name=B' v) (H:Zd v=MX) (h:Q v {s with toks:=s.toks+1}):
  wpAny (ND prog w) A (getAttr (.ref x) name a) Q E s:=by
 obtain⟨o,J,l⟩:=I.look;exact PySem.W.get_value X J (Uq g).1 (PySem.W.findObj_own b c rfl<|by rw[l,d]) H h
theorem zK{p:Sem Nf}{Q:J'×gV J'->M3->Prop}(X:K.In s.heap)(I:ObjM s.heap x dx C mA)(H:R0 K C name=MX)
  (a:Of K (.ref C) name=B' (B'<|.ref f)) (t:UB K (.ref f)=MX) (b:mA name=M5) (h:Q (.ref f,[.ref x]) s):
  wpAny (ND prog w) A (UL (.ref x) name p) Q E s:=by
 obtain⟨o,J,l⟩:=I.look;exact PySem.W.method_fn X J (Uq H).1 (Uq H).2 a (QZ.mp t) (by show(UR name o).map (·.isSome)=B' MW;rw[l,b];rfl) h
theorem DZ{n:gV Str}{Q:Vx->M3->Prop}(X:K.In s.heap)(I:ObjM s.heap x dx C mA)
  (e:Of K (.ref C) "__setattr__"=B' (B'<|.builtin "object.__setattr__")) (p:Vk K C=MX) (t:Wz K C name=B' M5) (g:S1 K C=MX)
  (i:YE mA n) (z:n.length<=sizeLine)
  (h:∀h',ObjM h' x dx C (λy=>if y=name then B' v else mA y)->QC dx s.heap h'->Q () {s with heap:=h',toks:=s.toks+2}):
  wpAny (ND prog w) A (setAttr (.ref x) name v) Q E s:=by
 obtain⟨o,J,q⟩:=I.look;refine PySem.W.set_plain X J e<|PySem.W.osa_open (s:={s with toks:=s.toks+1}) (r:=M5) X J p t λb=>?_;obtain⟨r,j,a⟩:=PySem.W.any_some g;have k:s.heap.get? x=B' ⟨.ref C,B' dx,.plain,#[]⟩:=I.obj;refine G'<|M9<|G'<|G'<|Ut k<|G'<|adH (s:={s with toks:=s.toks+1}) (PySem.W.looks_clsIn X j) ?_;rw[a];refine M9 (a:=B' dx)<|G'<|M9<|G' ?_;refine wpAny_nsSet1 (s:={s with toks:=s.toks+1}) I.ns λh' H Z=>?_;obtain⟨O,l,m,D,c,d⟩:=H.count<|ad5 name v i;refine G'<|wpAny_lookBehind D (by rw[c];exact pastItsLine_dict<|Oz d<|by rw[NC];lia) ?_;exact M9<|h _ ⟨(Z.2 _<|OV I.ne).trans I.obj,H,I.ne⟩ Z
theorem zL{R:X_->M3->Prop}{b:gV J'}{k:gV (Str×J')}(X:K.In s.heap)(H:WA K C=MX)
  (i:Of K (.ref C) "__init__"=B' (B'<|.ref f)) (c:PySem.W.typeIn K (.ref f)=B' (.type "function"))
  (h:codeAny (ND prog w) (A.under<|.builtin "type.__call__" ⟨.ref C::b,k⟩) (.call (.ref f) ⟨.ref (s.heap.objs.size+1)::b,k⟩) (PySem.W.InitBack (s.heap.objs.size+1) R)
   {s with heap:=(s.heap.push PK).push<|Qx C s.heap.objs.size}):
  codeAny (ND prog w) A (.call (.ref C) ⟨b,k⟩) R s:=by
 obtain⟨e,g,d,t,os⟩:=s;exact PySem.W.make_core (PySem.W.makes_of X H) (RO X i) (λa=>PySem.W.bind_fn X a c) (.inl rfl) h
end
noncomputable def f_(f:Str)(v:V):gV (Str×V)->gV (Str×V)
 |[]=>[(f,v)]
 |(g,x)::r=>if g=f then(g,v)::r else(g,x)::f_ f v r
theorem k_(f g:Str)(v:V):∀F,(f_ f v F).lookup g=if g=f then B' v else F.lookup g
 |[]=>by
  show SQ g [(f,v)]=_
  by_cases h:g=f
  ·have H:(g == f)=true:=QZ.mpr h;simp only[SQ,H,Nt h]
  ·have H:(g == f)=false:=OR.mpr h;simp only[SQ,H,Np h]
 |(k,x)::r=>by
  have i:=k_ f g v r;rw[show f_ f v ((k,x)::r)=(if k=f then(k,v)::r else(k,x)::f_ f v r)from rfl];by_cases a:k=f
  ·rw[Nt a];by_cases h:g=k
   ·have H:(g == k)=true:=QZ.mpr h;simp only[SQ,H,Nt<|h.trans a]
   have H:(g == k)=false:=OR.mpr h;simp only[SQ,H,Np λe:g=f=>h<|e.trans a.symm]
  rw[Np a];by_cases h:g=k
  ·have H:(g == k)=true:=QZ.mpr h;simp only[SQ,H,Np λe:g=f=>a<|h.symm.trans e]
  have H:(g == k)=false:=OR.mpr h;simp only[SQ,H];exact i
theorem j_(f:Str)(v:V):∀F,f∈(f_ f v F).map (·.1)/\∀g,g∈F.map (·.1)->g∈(f_ f v F).map (·.1)
 |[]=>⟨by simp[f_],λg h=>by simp at h⟩
 |(k,x)::r=>by
  obtain⟨i,I⟩:=j_ f v r;rw[show f_ f v ((k,x)::r)=(if k=f then(k,v)::r else(k,x)::f_ f v r)from rfl];by_cases H:k=f
  ·rw[Nt H];subst H;exact⟨by simp,λg h=>by simpa using h⟩
  rw[Np H];refine⟨?_,λg h=>?_⟩
  ·rw[NW];exact Nk _ i
  rw[NW]at h ⊢;obtain e|e:=Nz.mp h
  ·exact Nz.mpr<|.inl e
  exact Nk _<|I g e
theorem lc(f:Str)(v:V):∀F,(f_ f v F).length<=F.length+1
 |[]=>by simp[f_]
 |(k,x)::r=>by
  have i:=lc f v r;rw[show f_ f v ((k,x)::r)=(if k=f then(k,v)::r else(k,x)::f_ f v r)from rfl];by_cases h:k=f
  ·rw[Nt h,NC,NC];lia
  rw[Np h,NC,NC];lia
theorem RelO.some_of(r:RelO (B' v) o):∃u,o=B' u/\RelV v u:=by
 cases o with
 |none=>exact(show False from r).elim
 |some u=>exact⟨u,rfl,r⟩
theorem RelO.none_of(r:RelO M5 o):o=none:=by
 cases o with
 |none=>rfl
 |some u=>exact(show False from r).elim
theorem yk(r:RelV v u):Zd u=true:=by
 cases v with
 |non=>cases(show u=UU from r);rfl
 |bl b=>cases(show u=X6 b from r);rfl
 |int i=>obtain⟨t,e⟩:=(show∃t,u=Rr i t from r);cases e;rfl
 |str x=>obtain⟨t,e⟩:=(show∃t,u=Xx x t from r);cases e;rfl
 |byt b=>obtain⟨t,e⟩:=(show∃t,u=u3 b t from r);cases e;rfl
 |flt b=>obtain⟨t,e⟩:=(show∃t,u=Zz b t from r);cases e;rfl
 |ref a=>cases(show u=N9 a from r);rfl
 |ty n=>cases(show u=Rh n from r);rfl
theorem ins_get(k:HOk P w H h)(e:H a=B' (.ins C D F)):∃m,ObjM h a D C m/\(∀f,RelO (F.lookup f)<|m f)/\YE m (F.map (·.1))/\F.length<=1000/\H D=B' (.own a):=by
 obtain⟨d,z,N,o,m,n,r,q⟩:=(show ObjOk P w H h a (.ins C D F)from k a _ e);exact⟨m,⟨o,n,N⟩,r,q,z,d⟩
structure Cls (K:K')(C:M0):Prop where
 pg:R0 K C ry=MX
 hd:S1 K C=MX
 po:Vk K C=MX
 sa:Of K (.ref C) "__setattr__"=B' (B'<|.builtin "object.__setattr__")
theorem Cls.get{K:K'}{C:M0}(c:Cls K C)(f:Str):R0 K C f=true:=c.pg
def NoAttr(K:K')(C:M0)(f:Str):Prop:=Of K (.ref C) f=B' M5
theorem NoAttr.taker{K:K'}{C:M0}{f:Str}(n:NoAttr K C f):Wz K C f=B' none:=by
 unfold Wz;rw[show Of K (.ref C) f=B' M5 from n];rfl
structure D_ (K:K')(C:M0)(m:Str)(f:M0):Prop where
 at_:Of K (.ref C) m=B' (B'<|.ref f)
 fn:UB K (.ref f)=MX
 kp:Q8 K (.ref f)=MX
theorem ui{b:Nf}{Q:J'->M3->Prop}(I:Inv X M i H s)(e:H a=B' (.ins C D F))(c:Cls X.K C)(n:NoAttr X.K C f)(l:F.lookup f=B' v)
  (h:∀u d,Inv X M i H d->RelV v u->Q u d):wpAny (ND X.prog X.w) A (getAttr (.ref a) f b) Q E s:=by
 obtain⟨m,O,r,_,_,_⟩:=ins_get I.hok e;obtain⟨u,j,g⟩:=RelO.some_of (v:=v) (o:=m f) (by rw[<-l];exact r f);exact DY I.kIn O (c.get f) c.hd n j (yk g)<|h u _ (I.tok _) g
theorem iY{p:Sem Nf}{Q:J'×gV J'->M3->Prop}(I:Inv X b d H s)(e:H a=B' (.ins C D f))(c:Cls X.K C)(k:D_ X.K C m g)(l:f.lookup m=M5)
  (h:Q (.ref g,[.ref a]) s):wpAny (ND X.prog X.w) A (UL (.ref a) m p) Q E s:=by
 obtain⟨M,O,r,_,_,_⟩:=ins_get I.hok e;have n:M m=none:=RelO.none_of (by rw[<-l];exact r m);exact zK I.kIn O (c.get m) k.at_ k.fn n h
theorem uj{Q:Vx->M3->Prop}(I:Inv X M l H s)(e:H a=B' (.ins C d F))(c:Cls X.K C)(n:NoAttr X.K C f)(L:F.length<1000)(p:RelV y u)
  (h:∀j,Inv X M l (upd H a<|.ins C d<|f_ f y F) j->Q () j):wpAny (ND X.prog X.w) A (setAttr (.ref a) f u) Q E s:=by
 obtain⟨m,O,r,w,_,k⟩:=ins_get I.hok e;have t:(F.map (·.1)).length<=sizeLine:=by rw[MY,O7];lia
 refine DZ I.kIn O c.sa c.po n.taker c.hd w t λv i x=>h _ ?_;have B:∃o,v.get? d=B' o:=let ⟨o,_,_,D,_⟩:=i.ns;⟨o,D⟩
 refine I.write (x:=a) (e:=d) (by rw[e];exact Qa) (.inr k) (λb q G z=>(x.2 b G).trans z) B ?_;refine⟨by rw[aj O.ne];exact k,?_,O.ne,i.obj,_,i.ns,λg=>?_,λg J=>?_⟩
 ·have:=lc f y F;lia
 ·show RelO ((f_ f y F).lookup g) (if g=f then B' u else m g)
  rw[k_];by_cases q:g=f
  ·rw[Nt q,Nt q];exact p
  rw[Np q,Np q];exact r g
 by_cases q:g=f
 ·rw[q];exact(j_ f y F).1
 refine(j_ f y F).2 g<|w g λz=>J ?_;show(if g=f then B' u else m g)=M5
 rw[Np q];exact z
theorem Inv.made(I:Inv X M a H s):Inv X M a (upd (upd H s.heap.objs.size<|.own<|s.heap.objs.size+1) (s.heap.objs.size+1)<|.ins C s.heap.objs.size [])
  {s with heap:=(s.heap.push PK).push<|Qx C s.heap.objs.size}:=by
 have E:(s.heap.push PK).get? s.heap.objs.size=B' PK:=NL s.heap rfl;have c:((s.heap.push PK).push<|Qx C s.heap.objs.size).get? (s.heap.objs.size+1)=B' (Qx C s.heap.objs.size):=by
  have:=NL (s.heap.push PK) (o:=Qx C s.heap.objs.size) rfl
  rwa [Q9]at this
 have d:(s.heap.push PK).Ns s.heap.objs.size (λ_=>M5):=⟨PK,#[],_,E,rfl,(λe h=>absurd h<|by simp),λ_=>rfl⟩;have i:=I.laid (a:=s.heap.objs.size) (o:=.own<|s.heap.objs.size+1) (h':=s.heap.push PK) (t':=s.toks) (λb u q=>Nb _ q) (Na _) ⟨_,E⟩;refine i.laid (a:=s.heap.objs.size+1) (o:=.ins C s.heap.objs.size []) (t':=s.toks) (λb u q=>Nb _ q) (S5<|Q9 _ _) ?_;have n:s.heap.objs.size≠s.heap.objs.size+1:=NK<|V2 _;refine⟨by rw[aj n,aa],NA _,n,c,λ_=>M5,(Heap.Ns1.of_empty d).at λo q=>Nb _ q,λ_=>Qa,λy f=>absurd rfl f⟩
theorem Ea{p:Nm}{w:NF}{P:Pos}{s:M3}{Q:J'->M3->Prop}(H:Sj e f v (Pq e v)=Pq e v)
  (h:wpAny (ND p w) A (Pq e v) (λo a=>wpAny (ND p w) A (getAttr o f MX) Q E a) E s):wpAny (ND p w) A (Pq (.Attribute e f P) v) Q E s:=
 Attribute_any_ h (by rw[arm_eval_Attribute,H])
def HH(K:K')(t:TE)(f:Str):TE:=λb H Q=>t b H λx h=>∃a C d F v,x=.ref a/\h a=B' (.ins C d F)/\Cls K C/\NoAttr K C f/\F.lookup f=B' v/\Q v h
def HI(K:K')(t T:TE)(f:Str):TS:=λD b H=>T b H λy c=>t b c λx h=>∃a C d F,x=.ref a/\h a=B' (.ins C d F)/\Cls K C/\NoAttr K C f/\F.length<1000/\
 D.nx b (upd h a<|.ins C d<|f_ f y F)
theorem bo(b:PE X e t)(d:Sj e f X.env (Pq e X.env)=Pq e X.env):PE X (.Attribute e f p) (HH X.K t f):=by
 intro M s g H Q I h;refine Ea d<|bX (b M s g H _ I h) λu w ⟨x,i,j,r,a,C,D,F,v,E,k,c,n,l,q⟩=>?_;subst E;obtain rfl:u=N9 a:=r;exact ui j k c n l λU y m o=>⟨v,i,m,o,q⟩
theorem ic(d:PE X o t)(e:PE X v T)(g:UK v (B'<|.Attribute o f U) p.line X.env=pure MW):PS X (.Assign [.Attribute o f U] v p) (HI X.K t T f):=by
 intro M s b H D I h;refine plainObj_wpAny_Assign_Attribute (bX (e M s b H _ I h) λu i ⟨y,j,k,r,q⟩=>bX (d M i b j _ k q) λO B ⟨x,F,m,w,a,C,G,J,E,z,c,n,l,Q⟩=>?_) g;subst E;obtain rfl:O=N9 a:=w;exact uj m z c n l r λL A=>⟨b,_,A,Q⟩
inductive jm (K:K')(H:Hp):V->J'->Prop where
 |non:jm K H .non (.type "NoneType")
 |bl (x:Nf):jm K H (.bl x) (.type "bool")
 |int (i:Int):jm K H (.int i) (.type "int")
 |str (x:Str):jm K H (.str x) (.type "str")
 |flt (x:UInt64):jm K H (.flt x) (.type "float")
 |lst {a:M0} {xs:gV V} (e:H a=B' (.lst xs)):jm K H (.ref a) (.type "list")
 |frz {a:M0} {o:Obj} {xs:gV V} (e:H a=B' (.frz o<|.lst xs)):jm K H (.ref a) (.type "list")
 |tup {a:M0} {xs:gV V} (e:H a=B' (.tup xs)):jm K H (.ref a) (.type "tuple")
 |dK {a:M0} {k:gV (bR×V)} (e:H a=B' (.dK k)):jm K H (.ref a) (.type "dict")
 |dT {a:M0} {k:gV (gV bR×V)} (e:H a=B' (.dT k)):jm K H (.ref a) (.type "dict")
 |ins {a C dx:M0} {fs:gV (Str×V)} (e:H a=B' (.ins C dx fs)) (cl:Cls K C) (b:Of K (.ref C) "__class__"=B' (B'<|.builtin "object.__class__"))
   (n:PySem.W.specialIn K (.builtin "object.__class__") "__get__"=B' (B'<|.builtin "getset_descriptor.__get__")) (h:PySem.W.takesIn K (.builtin "object.__class__")=B' MX)
   (m:Py K C (.type "object")=B' MX):jm K H (.ref a) (.ref C)
theorem yl(I:Inv X M N H s)(r:RelV x u)(T:jm X.K H x t)(e:N6 X.K t c=B' b)(h:∀v,Q (.bool b) {s with toks:=v}):
  wpAny (ND X.prog X.w) A (call (.builtin "isinstance") [u,c]) Q E s:=by
 cases T with
 |non=>cases(show u=UU from r);exact Pi PySem.W.kitx_none I.kIn Qa e (λz=>nomatch z) h
 |bl y=>cases(show u=X6 y from r);exact Pi PySem.W.kitx_bool I.kIn Qa e (λz=>nomatch z) h
 |int i=>obtain⟨t,q⟩:=(show∃t,u=Rr i t from r);cases q;exact Pi PySem.W.kitx_int I.kIn Qa e (λz=>nomatch z) h
 |str y=>obtain⟨t,q⟩:=(show∃t,u=Xx y t from r);cases q;exact Pi PySem.W.kitx_str I.kIn Qa e (λz=>nomatch z) h
 |flt y=>obtain⟨t,q⟩:=(show∃t,u=Zz y t from r);cases q;exact Pi PySem.W.kitx_float I.kIn Qa e (λz=>nomatch z) h
 |@lst a g d=>
  cases(show u=N9 a from r);obtain⟨_,_,n,_,f⟩:=(show ObjOk X.prog X.w H s.heap a (.lst g)from I.hok a _ d);exact Pi YF I.kIn ⟨_,f,rfl⟩ e (λz=>nomatch z) h
 |@frz a w g d=>
  cases(show u=N9 a from r);obtain⟨_,_,_,n,_,f⟩:=(show ObjOk X.prog X.w H s.heap a (.frz w<|.lst g)from I.hok a _ d);exact Pi YF I.kIn ⟨_,f,rfl⟩ e (λz=>nomatch z) h
 |@tup a g d=>
  cases(show u=N9 a from r);obtain⟨_,_,_,p⟩:=(show ObjOk X.prog X.w H s.heap a (.tup g)from I.hok a _ d);obtain⟨o,f,j,_⟩:=p;exact Pi PySem.W.kitx_tuple I.kIn ⟨o,f,j⟩ e (λz=>nomatch z) h
 |@dK a k d=>
  cases(show u=N9 a from r);obtain⟨_,_,P,_,p⟩:=(show ObjOk X.prog X.w H s.heap a (.dK k)from I.hok a _ d);obtain⟨o,B,D,f,j,_⟩:=p;exact Pi YG I.kIn ⟨o,f,j.1⟩ e (λz=>nomatch z) h
 |@dT a k d=>
  cases(show u=N9 a from r);obtain⟨_,_,g,_,o,B,D,f,j,_⟩:=(show ObjOk X.prog X.w H s.heap a (.dT k)from I.hok a _ d);exact Pi YG I.kIn ⟨o,f,j.1⟩ e (λz=>nomatch z) h
 |@ins a C U W d m F G l L=>
  cases(show u=N9 a from r);obtain⟨Y,O,_⟩:=ins_get I.hok d;obtain⟨Z,J,_⟩:=O.look;exact Pi (PySem.W.kitx_own (m.get _) m.hd F G l L) I.kIn J e (λz=>nomatch z) h
structure Room (k:Nat)(A:Ou):Prop where
 hd:A.handled=M5
 dp:A.depth+3*k+5<T1
 un:A.units+16*k+200<QT
theorem Room.mono(r:Room k A)(h:j<=k):Room j A:=⟨r.hd,by have:=r.dp;lia,by have:=r.un;lia⟩
theorem Room.deeper(r:Room (k+1) A)(e:Env):Room k (A.deeper e):=
 ⟨r.hd,by have:=r.dp;show A.depth+1+3*k+5<_;lia,by have:=r.un;show A.units+3+16*k+200<_;lia⟩
theorem uk{A:Ou}{C:M0}{u:gV J'}{k:gV (Str×J')}:(A.under<|.builtin "type.__call__" ⟨.ref C::u,k⟩).depth=A.depth+1:=by
 first|rfl|simp[YQ,Code.weight,Code.isCreation,Code.isGuard,Code.isCaller,w1,YN,guardIds]
theorem ul{A:Ou}{C:M0}{u:gV J'}{k:gV (Str×J')}:(A.under<|.builtin "type.__call__" ⟨.ref C::u,k⟩).units=A.units+1:=by
 first|rfl|simp[YQ,Code.cUnits,w1,YN]
theorem Room.make(r:Room (k+1) A)(C:M0)(u:gV J')(w:gV (Str×J')):Room k (A.under<|.builtin "type.__call__" ⟨.ref C::u,w⟩):=
 ⟨r.hd,by have:=r.dp;rw[uk];lia,by have:=r.un;rw[ul];lia⟩
theorem Room.depth(r:Room k A):A.depth<T1:=by have:=r.dp;lia
theorem Room.units(r:Room k A):A.units+64<QT:=by have:=r.un;lia
def gE:TA:=λ_ H Q=>Q [] H
def dz(t:TE)(T:TA):TA:=λa H Q=>t a H λx h=>T a h λX b=>Q (x::X) b
theorem bz:PA X [] gE:=λ_ _ _ _ H Q I h=>Vm ⟨[],H,I,.nil,h⟩
theorem au(b:PE X e T)(r:PA X E t)(c:NS (e::E) X.env=(MW,Pq e X.env)::NS E X.env:=by rfl):PA X (e::E) (dz T t):=by
 intro p M s a H Q I h;rw[c];show wpAny _ _ (lC<|(MW,Pq e X.env)::Qw p (NS E X.env)) _ _ s
 refine SD<|bX (b M s a H _ I h) λu d ⟨x,f,i,g,q⟩=>?_;exact bX (r p M d a f _ i q) λU o ⟨j,k,l,m,n⟩=>⟨x::j,k,l,.cons g m,n⟩
def Eb(t:TA):TE:=λa H Q=>t a H λx h=>x.length<=sizeLine/\∀p,h p=M5->Q (.ref p) (upd h p<|.tup x)
def oV(t:TA):TE:=λa H Q=>t a H λx h=>x.length<=sizeLine/\∀p,h p=M5->Q (.ref p) (upd h p<|.lst x)
theorem aU{x}(h:PA X E t):PE X (.Tuple E x p) (Eb t):=by
 intro M s d H Q I f;refine wpAny_Tuple_spliced<|bX (h p M s d H _ I f) λU a ⟨g,c,i,r,z,q⟩=>⟨by rw[<-r.length];exact z,?_⟩;have j:c a.heap.objs.size=none:=i.hok.fresh<|Na _;refine⟨.ref a.heap.objs.size,upd c a.heap.objs.size<|.tup g,i.laid (t':=a.toks) (λb u e=>Nb _ e) (Na _) ?_,rfl,q _ j⟩;exact⟨z,U,r,⟨_,NL _ rfl,rfl,_,rfl⟩⟩
theorem aI(h:PA X E t):PE X (.List E p) (oV t):=by
 intro M s d H Q I f;refine wpAny_List_spliced<|bX (h p M s d H _ I f) λU a ⟨x,c,i,r,z,q⟩=>⟨by rw[<-r.length];exact z,?_⟩;have g:c a.heap.objs.size=none:=i.hok.fresh<|Na _;refine⟨.ref a.heap.objs.size,upd c a.heap.objs.size<|.lst x,i.laid (t':=a.toks) (λb u e=>Nb _ e) (Na _) ?_,rfl,q _ g⟩;exact⟨z,U,0,r,NL _ rfl⟩
abbrev Sp:=gV V->Hp->VK->XK->Prop
abbrev vS:=gV Env->Hp->M3->XK->J'->M3->Prop
structure Env0 (P:Nm)(w:NF)(K:K')(mg:Str->MZ J')(base:N_)(A:Ou)(outer:gV Env)(s:M3)(H:Hp):Prop where
 frames:A.frames=B' outer
 mod:Mod K mg base
 bs:∀b o,base.get? b=B' o->s.heap.get? b=B' o/\H b=M5
 bsz:base.objs.size<=s.heap.objs.size
 funs:s.heap.FunFrames base outer
 frf:∀b∈jZ outer,H b=M5
 hok:HOk P w H s.heap
 bare:UF s.gens
def CE(o:gV Env)(P:Nm)(w:NF)(H:Hp)(s:M3)(Q:VK)(u:J')(a:M3):Prop:=
 ∃v h,a.os=s.os/\UF a.gens/\Un (jZ o) [] H h s.heap a.heap/\HOk P w h a.heap/\RelV v u/\Q v h
def CR(C:vS)(o:gV Env)(P:Nm)(w:NF)(H:Hp)(s:M3)(Q:VK)(E:XK)(r:X_)(a:M3):Prop:=
 match r with
 |.ok (.ret u)=>CE o P w H s Q u a
 |.ok _=>False
 |.error e=>C o H s E e a
structure aP (P:Nm)(w:NF)(K:K')(mg:Str->MZ J')(base:N_)(CX:vS)(k:Nat)(f:M0)(fd:Ny)(ps:gV Str)(sp:Sp):Prop where
 len:∀vs H Q E,sp vs H Q E->vs.length=ps.length
 run:∀(A:Ou) (outer:gV Env) (s:M3) (H:Hp) (args:Args) (us:gV J') (vs:gV V) (Q:VK) (E:XK),Room k A->Env0 P w K mg base A outer s H->YO s fd args (ps.zip us)->Vals vs us->sp vs H Q E->
  codeAny (ND P w) A (.call (.ref f) args) (CR CX outer P w H s Q E) s
theorem Env0.make{P:Nm}{w:NF}{K:K'}{m:Str->MZ J'}{b:N_}{A:Ou}{o:gV Env}{s:M3}{H:Hp}(e:Env0 P w K m b A o s H)(C:M0)(u:gV J')(k:gV (Str×J')):
  Env0 P w K m b (A.under<|.builtin "type.__call__" ⟨.ref C::u,k⟩) o s H:=⟨by first|exact e.frames|(simpa[YQ,Code.envs,YN,pushEnvs]using e.frames),e.mod,e.bs,e.bsz,e.funs,e.frf,e.hok,e.bare⟩
theorem Inv.env0(I:Inv X M a H s):Env0 X.prog X.w X.K X.mg X.base X.A X.stack s H:=
 ⟨I.ok.frames,I.ok.mod,I.bs,Oz I.ok.bsz I.sz,I.stack,I.stkFree,I.hok,I.bare⟩
theorem Inv.after(I:Inv X M c H s)(h:CE X.stack X.prog X.w H s Q u a):EP X M c Q u a:=by
 obtain⟨v,e,os,B,U,k,r,q⟩:=h;obtain⟨f,g,d,t,o⟩:=a;obtain rfl:o=s.os:=os;exact⟨v,e,I.call (h':=f) (g':=g) (d':=d) (t':=t) (ch:=[]) U k B (λb z=>absurd z<|by simp),r,q⟩
def vT(s:Sp)(d:gV V)(E:XK)(t:TA):TE:=λa H Q=>t a H λv h=>s (v++d) h Q E
def rR(C:M0)(m:Str)(s:Sp)(d:gV V)(E:XK)(T:TE)(t:TA):TE:=λb H Q=>T b H λx h=>∃a D f,x=.ref a/\h a=B' (.ins C D f)/\f.lookup m=M5/\
 t b h λv c=>s (x::(v++d)) c Q E
def F8(C:M0)(s:Sp)(D:gV V)(E:XK)(t:TA):TE:=λa H Q=>t a H λb h=>∀x d,h x=M5->h d=M5->d≠x->
 s (.ref x::(b++D)) (upd (upd h d<|.own x) x<|.ins C d []) (λv c=>v=.non/\Q (.ref x) c) E
def Binds(K:K')(f:Ny)(p:gV Str)(d:gV J'):Prop:=
 ∀(s:M3) (u:gV J'),K.In s.heap->(u++d).length=p.length->YO s f ⟨u,[]⟩ (p.zip<|u++d)
theorem Binds.all{K:K'}{f:Ny}{p:gV Str}(h:∀u,u.length=p.length->mi f ⟨u,[]⟩=pure (p.zip u)):Binds K f p []:=λs u _ H=>by
 rw[OQ]at H ⊢;exact .of_eq<|h u H
def iZ(C:vS)(X:Cx)(E:XK):Prop:=∀(M:gV (M0×Obj)) (b:St) (H:Hp) (s:M3) (e:J') (a:M3),Inv X M b H s->C X.stack H s E e a->X.xe e a
section
variable {X:Cx}{CX:vS}{k:Nat}{f C:M0}{fd:Ny}{ps:gV Str}{sp:Sp}{dvs:gV V}{ds:gV J'}{E:XK}{x:Str}{p pos:Pos}{e:OJ}{es:gV OJ}{t:TA}
theorem um{M:gV (M0×Obj)}{a:St}{H:Hp}{s:M3}{Q:VK}{U:gV J'}{v:gV V}(F:aP X.prog X.w X.K X.mg X.base CX k f fd ps sp)(c:Room k X.A)(d:Binds X.K fd ps ds)(g:Vals dvs ds)(i:iZ CX X E)
  (I:Inv X M a H s) (r:Vals v U) (h:sp (v++dvs) H Q E):wpAny (ND X.prog X.w) X.A (call (.ref f) U) (EP X M a Q) X.xe s:=by
 have b:Vals (v++dvs) (U++ds):=r.append g;have l:(U++ds).length=ps.length:=by rw[<-b.length];exact F.len _ _ _ _ h
 refine XY<|RZ (F.run X.A X.stack s H ⟨U,[]⟩ (U++ds) (v++dvs) Q E c I.env0 (d s U I.kIn l) b h) λr j q=>?_;cases r with
 |error e=>exact i M a H s e j I q
 |ok m=>
  cases m with
  |ret u=>exact I.after q
  |next=>exact P7 q
  |brk=>exact P7 q
  |cont=>exact P7 q
theorem Ec(F:aP X.prog X.w X.K X.mg X.base CX k f fd ps sp)(a:Room k X.A)(g:Gl X x)(m:X.mg x=B' (.ref f))(c:Q8 X.K (.ref f)=MX)(d:Binds X.K fd ps ds)(j:Vals dvs ds)(l:iZ CX X E)
  (n:PA X (e::es) t) (b:(x == ("__debug__":Str))=false:=by decide) (o:NS (e::es) X.env=(MW,Pq e X.env)::NS es X.env:=by rfl) (Z:(Qw pos<|NS es X.env).any (·.1)=false:=by rfl):
  PE X (.Call (.Name x p) (e::es) [] pos) (vT sp dvs E t):=by
 intro M s u H Q I h;refine P3<|jk I g m ?_ b;refine US (h₀:=X.base) I.ok.mod.kin c (bX (n pos M s u H _ I h) λU v ⟨w,y,i,r,q⟩=>⟨i.kIn,?_⟩) o Z;exact um F a d j l i r q
theorem Ed{m:Str}{T:Pos}{o:OJ}{b:TE}{P:Sem Nf}(n:PE X o b)(c:Cls X.K C)(d:D_ X.K C m f)(F:aP X.prog X.w X.K X.mg X.base CX k f fd ps sp)(v:Room k X.A)(w:Binds X.K fd ps ds)(y:Vals dvs ds)(z:iZ CX X E)(A:PA X (e::es) t)
  (Y:NS (e::es) X.env=(MW,Pq e X.env)::NS es X.env:=by rfl) (Z:(Qw pos<|NS es X.env).any (·.1)=false:=by rfl)
  (B:Pq (.Call (.Attribute o m T) (e::es) [] pos) X.env=(do
   let O <-Pq o X.env
   V9 T.atName
   let (f,first) <-Uy [O] (UL O m P)
   YD pos f first (Qw pos<|NS (e::es) X.env) (VS pos<|SM [] X.env)):=by rfl):
  PE X (.Call (.Attribute o m T) (e::es) [] pos) (rR C m sp dvs E b t):=by
 intro M s g H Q I h;refine Th (pl:=P) (bX (n M s g H _ I h) λu D ⟨x,G,i,J,a,dx,fs,L,N,l,q⟩=>?_) B;subst L;obtain rfl:u=N9 a:=J;refine iY i N c d l ?_;refine US (first:=[.ref a]) (h₀:=X.base) I.ok.mod.kin d.kp (bX (A pos M D g G _ i q) λU s2 ⟨W,H2,j,r,q2⟩=>⟨j.kIn,?_⟩) Y Z;exact um (U:=.ref a::U) (v:=.ref a::W) F v w y z j (.cons rfl r) q2
theorem zM{P:Sem Nf}(d:PE X o g)(c:Cls X.K C)(b:D_ X.K C m f)(F:aP X.prog X.w X.K X.mg X.base CX k f fd ps sp)(r:Room k X.A)(j:Binds X.K fd ps ds)(n:Vals dvs ds)(v:iZ CX X E)
  (w:Pq (.Call (.Attribute o m T) [] [] pos) X.env=(do
   let O <-Pq o X.env
   V9 T.atName
   let (f,first) <-Uy [O] (UL O m P)
   YD pos f first (Qw pos<|NS [] X.env) (VS pos<|SM [] X.env)):=by rfl):
  PE X (.Call (.Attribute o m T) [] [] pos) (rR C m sp dvs E g gE):=by
 intro M s y H Q I h;refine Th (pl:=P) (bX (d M s y H _ I h) λu D ⟨x,G,i,z,a,J,L,A,B,l,q⟩=>?_) w;subst A;obtain rfl:u=N9 a:=z;refine iY i B c b l ?_;exact XB (first:=[.ref a]) i.kIn b.kp<|um (U:=[.ref a]) (v:=[.ref a]) F r j n v i (.cons rfl .nil) q
structure Mk (K:K')(C f:M0):Prop where
 makes:WA K C=MX
 init:Of K (.ref C) "__init__"=B' (B'<|.ref f)
 fn:UB K (.ref f)=MX
 kp:Q8 K (.ref C)=MX
theorem zN{m:gV (M0×Obj)}{b:St}{H:Hp}{s:M3}{Q:VK}{U:gV J'}{c:gV V}(M:Mk X.K C f)(F:aP X.prog X.w X.K X.mg X.base CX k f fd ps sp)(j:Room (k+1) X.A)(l:Binds X.K fd ps ds)(n:Vals dvs ds)
  (o:iZ CX X E) (I:Inv X m b H s) (r:Vals c U)
  (h:∀x d,H x=M5->H d=M5->d≠x->sp (.ref x::(c++dvs)) (upd (upd H d<|.own x) x<|.ins C d []) (λv w=>v=.non/\Q (.ref x) w) E):
  wpAny (ND X.prog X.w) X.A (call (.ref C) U) (EP X m b Q) X.xe s:=by
 have q:=h (s.heap.objs.size+1) s.heap.objs.size (I.hok.fresh<|T_ _) (I.hok.fresh<|Na _)<|NK<|V2 _;have i:=Inv.made (C:=C) I;have g:Vals (V.ref (s.heap.objs.size+1)::(c++dvs)) (N9 (s.heap.objs.size+1)::(U++ds)):=.cons rfl<|r.append n;have y:(N9 (s.heap.objs.size+1)::U++ds).length=ps.length:=by
  have e:=g.length;rw[F.len _ _ _ _ q]at e;exact e.symm
 refine XY (zL (f:=f) I.kIn M.makes M.init (QZ.mp M.fn) (RZ (F.run _ X.stack _ _ ⟨N9 (s.heap.objs.size+1)::U,[]⟩ (N9 (s.heap.objs.size+1)::(U++ds)) _ _ E (j.make C U [])
  (i.env0.make C U []) (l _ (N9 (s.heap.objs.size+1)::U) i.kIn y) g q) λr z a=>?_))
 cases r with
 |error e=>exact o m b _ _ e z i a
 |ok A=>
  cases A with
  |ret u=>
   obtain⟨v,B,D,G,J,L⟩:=i.after a;subst J;exact⟨G,⟨V.ref<|s.heap.objs.size+1,B,D,rfl,L⟩⟩
  |next=>exact P7 a
  |brk=>exact P7 a
  |cont=>exact P7 a
theorem Ee(M:Mk X.K C f)(F:aP X.prog X.w X.K X.mg X.base CX k f fd ps sp)(a:Room (k+1) X.A)(g:Gl X x)(m:X.mg x=B' (.ref C))(c:Binds X.K fd ps ds)(d:Vals dvs ds)(j:iZ CX X E)
  (l:PA X (e::es) t) (b:(x == ("__debug__":Str))=false:=by decide) (n:NS (e::es) X.env=(MW,Pq e X.env)::NS es X.env:=by rfl) (Z:(Qw pos<|NS es X.env).any (·.1)=false:=by rfl):
  PE X (.Call (.Name x p) (e::es) [] pos) (F8 C sp dvs E t):=by
 intro o s u H Q I h;refine P3<|jk I g m ?_ b;refine US (h₀:=X.base) I.ok.mod.kin M.kp (bX (l pos o s u H _ I h) λU v ⟨w,y,i,r,q⟩=>⟨i.kIn,?_⟩) n Z;exact zN M F a c d j i r q
end
structure al (N P:gV Str)(sc:T5):Prop where
 kind:sc.kind=.function
 co:sc.isCoroutine=MW
 gen:sc.isGenerator=MW
 nd:N.Nodup
 pre:N.take P.length=P
 par:∀x∈P,sc.names.lookup x=B' .local\/sc.names.lookup x=B' .cell
 nofree:∀y∈sc.names,y.2≠.free
theorem pc{kindOf:Str->MZ UV}{x:Str}:∀{b:gV (Str×J')} {m:Str->MZ J'},(∀v,(x,v)∉b)->i0 kindOf b m x=m x
 |[],_,_=>rfl
 |(n,v)::r,m,h=>by
  unfold i0;rw[pc λw H=>h w<|Nk _ H]
  split
  ·have:x≠n:=by rintro rfl;exact h v Nl
   simp[this]
  rfl
theorem pd{kindOf:Str->MZ UV}{x:Str}:∀{b:gV (Str×J')} {m:Str->MZ J'},(∀v,(x,v)∉b)->ip kindOf b m x=m x
 |[],_,_=>rfl
 |(n,v)::r,m,h=>by
  unfold ip;rw[pd λw H=>h w<|Nk _ H]
  split
  ·rfl
  have:x≠n:=by rintro rfl;exact h v Nl
  simp[this]
theorem pe{kindOf:Str->MZ UV}{x:Str}{v:J'}:∀{P:gV Str} {s:gV J'} {i:Nat} {m:Str->MZ J'},P.Nodup->P[i]?=B' x->s[i]?=B' v->kindOf x=B' .local->
  i0 kindOf (P.zip s) m x=B' v
 |[],_,_,_,_,h,_,_=>by simp at h
 |_::_,[],_,_,_,_,h,_=>by simp at h
 |p::P,w::s,0,m,n,H,a,k=>by
  simp at H a;subst H;subst a;show i0 kindOf ((p,w)::P.zip s) m p=_
  unfold i0;rw[pc λv b=>(O9.mp n).1 (WD b).1,Nt k];simp
 |p::P,w::s,i+1,m,n,H,a,k=>by
  show i0 kindOf ((p,w)::P.zip s) m x=_
  unfold i0;exact pe (i:=i) (O9.mp n).2 (by simpa using H) (by simpa using a) k
theorem pf{kindOf:Str->MZ UV}{x:Str}{v:J'}:∀{P:gV Str} {s:gV J'} {i:Nat} {m:Str->MZ J'},P.Nodup->P[i]?=B' x->s[i]?=B' v->kindOf x≠B' .local->
  ip kindOf (P.zip s) m x=B' v
 |[],_,_,_,_,h,_,_=>by simp at h
 |_::_,[],_,_,_,_,h,_=>by simp at h
 |p::P,w::s,0,m,n,H,a,k=>by
  simp at H a;subst H;subst a;show ip kindOf ((p,w)::P.zip s) m p=_
  unfold ip;rw[pd λv b=>(O9.mp n).1 (WD b).1,Np k];simp
 |p::P,w::s,i+1,m,n,H,a,k=>by
  show ip kindOf ((p,w)::P.zip s) m x=_
  unfold ip;exact pf (i:=i) (O9.mp n).2 (by simpa using H) (by simpa using a) k
noncomputable def start(N:gV Str)(v:gV V):St:=v.map B'++Pa (N.length-v.length) M5
noncomputable def jn(C:vS)(P:Nm)(w:NF)(K:K')(mg:Str->MZ J')(base:N_)(N:gV Str)(q:Str)(a:T5)(f:M0)(c:J')(A:Ou)(outer:gV Env)(s:M3)(H:Hp)(E:XK):Cx where
 prog:=P
 w:=w
 K:=K
 mg:=mg
 base:=base
 A:=A.deeper (O6 q a s.heap.objs.size f c)
 N:=N
 s₀:=s
 H₀:=H
 env:=O6 q a s.heap.objs.size f c
 outer:=outer
 stack:=O6 q a s.heap.objs.size f c::outer
 ex:=[]
 calm:=MX
 fn:=λ_=>MX
 pn:=[]
 xe:=λe d=>wpAny (ND P w) (A.deeper<|O6 q a s.heap.objs.size f c) (leaving (O6 q a s.heap.objs.size f c) e) (λ_ b=>C outer H s E e b) (λg b=>C outer H s E g b) d
theorem rS{s:T5}{n:Nat}{x:Str}(h:s.names.lookup x=B' .cell):∃c,(OH n s.names []).lookup x=B' c:=by
 have q:=Wb s.names n []<|.inl h;exact Sq.mp q
theorem ym{X:vS}{P:Nm}{w:NF}{K:K'}{M:Str->MZ J'}{B:N_}{N l:gV Str}{Q:Str}{d:T5}{f:M0}{F:J'}{A:Ou}{o:gV Env}{s J:M3}{H:Hp}{E:XK}{U:gV J'}{m:gV V}
  (S:al N l d) (T:A.handled=M5) (j:Env0 P w K M B A o s H) (Z:m.length=l.length) (r:Vals m U)
  (x:InCallC s s.heap.objs.size (i0 (O6 Q d s.heap.objs.size f F).kindOf (l.zip U) λ_=>M5) (OH (s.heap.objs.size+1) d.names []) (ip (O6 Q d s.heap.objs.size f F).kindOf (l.zip U) λ_=>M5) J):
  Inv (jn X P w K M B N Q d f F A o s H E) [] (start N m) H J:=by
 have ZG:l.length<=N.length:=by have:=Oe PP S.pre;rw[NO]at this;lia
 obtain⟨G,tk,rfl,L⟩:=x.done;have n:∀b,b∉(jn X P w K M B N Q d f F A o s H E).ex:=λb z=>absurd (show b∈([]:gV M0)from z) (by simp);refine⟨⟨j.mod,S.kind,rfl,rfl,Na _,λy z c G g=>?_,λy t=>?_,λy c _ h=>?_,λ_=>T,Around.frames_deeper j.frames,.inr ⟨rfl,rfl⟩,λb z=>absurd z<|n b,j.bs,j.bsz,λb _ _=>n b,λb z=>absurd z<|n b,j.funs,j.frf⟩,
  rfl,j.bare,Un.kept L,⟨_,x.toInCall.ns,λi y v G g h3=>?_⟩,λy c h=>⟨_,x.cell y c h⟩,j.hok.fresh<|Na _,λy c h=>?_,λp C=>absurd (show p∈([]:gV (M0×Obj))from C) (by simp),j.hok.kept L,?_⟩
 ·exact name_of_addr x.apart (Po G)<|Po g
 ·have t:d.names.lookup y=B' .cell\/d.names.lookup y=B' .free:=t;obtain t|t:=t
  ·exact rS t
  exact absurd rfl<|S.nofree _<|Po t
 ·exact OG<|x.above y c<|Po h
 ·have I:i<m.length:=by
   unfold start at g;by_cases I:i<m.length
   ·exact I
   rw[N7<|by simpa using I]at g;rw[List.getElem?_replicate]at g
   split at g<;>cases g
  have W:m[i]?=B' v:=by
   unfold start at g;rw[N3 (by simpa using I),Nu]at g;cases e:m[i]? with
   |none=>rw[e]at g;cases g
   |some a=>rw[e]at g;cases g;rfl
  obtain⟨u,O,Y⟩:=r.get W;have C:l[i]?=B' y:=by
   rw[<-S.pre,Qq<|by lia];exact G
  have D:l.Nodup:=by rw[<-S.pre];exact S.nd.sublist<|S7 _ _
  exists u,Y;obtain k|k:=S.par y (Nc C)
  ·exact .inl ⟨k,pe D C O k⟩
  obtain⟨c,e⟩:=rS (n:=s.heap.objs.size+1) k;refine .inr ⟨.inl k,c,e,?_⟩;have q:=x.cell y c e;rw[pf D C O (by show d.names.lookup y≠_;rw[k];decide)]at q;exact q
 ·exact j.hok.fresh<|OG<|x.above y c<|Po h
 unfold start;show _=N.length
 rw[M7,MY,List.length_replicate];lia
theorem F9{X:vS}{P:Nm}{w:NF}{K:K'}{M:Str->MZ J'}{B:N_}{k:Nat}{f:M0}{h l:Str}{p:Arguments}{c:gV OZ}{a:T5}{dV kV D pm j ct oc:J'}{an od:MZ M0}
  {G:Oh (MZ J')} {N F:gV Str} {L:Sp} (lk:K.lookup f=B' ⟨oc,od,.func<|Rg h l p c a dV kV D pm an j ct,G⟩) (T:W3 K j l=MX) (S:al N F a)
  (len:∀d H Q E,L d H Q E->d.length=F.length)
  (U:∀A O s H d Q E,Room k (A.deeper<|O6 l a s.heap.objs.size f j)->L d H Q E->
   ∃t,PSs (jn X P w K M B N l a f j A O s H E) c t/\t {nx:=λ_ i=>Q .non i,rt:=Q} (start N d) H):
  aP P w K M B X (k+1) f (Rg h l p c a dV kV D pm an j ct) F L:=by
 refine⟨len,λA O s H ab us d Q E W z hb r C=>?_⟩;have hl:=len _ _ _ _ C;have KX:K.In s.heap:=z.mod.kin.keeps λb o e=>(z.bs b o e).1;have Y:s.heap.NoLimit:=z.mod.nolimit.keeps λb o e=>(z.bs b o e).1;have Z:∀y∈F.zip us,a.names.lookup y.1=B' .local\/(a.names.lookup y.1=B' .cell/\((OH (s.heap.objs.size+1) a.names []).lookup y.1).isSome=MX):=λ⟨n,v⟩ hy=>by
  obtain q|q:=S.par n (WD hy).1
  ·exact .inl q
  exact .inr ⟨q,Wb _ _ _<|.inl q⟩
 refine codeAny_call_function W.depth (KX _ _ lk) rfl S.co S.gen rfl (PySem.W.codeRec_of KX T)<|hb _ _ _ _ ?_;refine wpAny_newFunctionEnv_cells S.kind Z λac he s1 x=>?_;subst he;refine⟨Y.keeps x.toInCall.keep,codeAny_func ?_⟩;obtain⟨t,ht,hq⟩:=U A O s H d Q E (W.deeper _) C;have I:Inv (jn X P w K M B N l a f j A O s H E) [] (start N d) H s1:=ym S W.hd z hl r x;refine OS (ht [] s1 (start N d) H _ I hq) (λfl s' m=>?_) λe s' m=>m;have WG:∀{g:St} {i:Hp} {v:V} {u:J'},Inv (jn X P w K M B N l a f j A O s H E) [] g i s'->RelV v u->Q v i->CE O P w H s Q u s':=
  λ{g i v u} J rv q=>⟨v,i,J.os,J.bare,J.base,J.hok,rv,q⟩
 cases fl with
 |ret u=>
  obtain⟨v,g,i,J,rv,q⟩:=m;exact WG J rv q
 |next=>
  obtain⟨g,i,J,q⟩:=m;exact WG (v:=V.non) (u:=UU) J rfl q
 |brk=>
  obtain⟨_,_,_,q⟩:=m;exact P7 q
 |cont=>
  obtain⟨_,_,_,q⟩:=m;exact P7 q
section
variable {X:Cx}{x:Str}{p pos:Pos}{e:OJ}{es:gV OJ}{t:TA}{id:QJ}{r:gV V->Hp->VK->Prop}
def Mz(r:gV V->Hp->VK->Prop)(t:TA):TE:=λa H Q=>t a H λv h=>r v h Q
theorem ag(c:fo X (.builtin id) r)(g:Gl X x)(m:X.mg x=M5)(v:SZ x=B' (.builtin id))(d:PA X (e::es) t)(n:x≠"__name__":=by decide)(b:(x == ("__debug__":Str))=false:=by decide)
  (f:NS (e::es) X.env=(MW,Pq e X.env)::NS es X.env:=by rfl) (Z:(Qw pos<|NS es X.env).any (·.1)=false:=by rfl):PE X (.Call (.Name x p) (e::es) [] pos) (Mz r t):=by
 intro M s a H Q I h;refine P3<|fF I g m v ?_ n b;exact Tw (bX (d pos M s a H _ I h) λu i ⟨j,k,l,o,q⟩=>c M i a k j u Q l o q) f Z
theorem bB{T:QJ}(c:fo X (.type T) r)(g:Gl X x)(m:X.mg x=M5)(v:SZ x=B' (.type T))(d:PA X (e::es) t)(n:x≠"__name__":=by decide)(b:(x == ("__debug__":Str))=false:=by decide)
  (f:NS (e::es) X.env=(MW,Pq e X.env)::NS es X.env:=by rfl) (Z:(Qw pos<|NS es X.env).any (·.1)=false:=by rfl):PE X (.Call (.Name x p) (e::es) [] pos) (Mz r t):=by
 intro M s a H Q I h;refine P3<|fF I g m v ?_ n b;exact Pr (bX (d pos M s a H _ I h) λu i ⟨j,k,l,o,q⟩=>c M i a k j u Q l o q) f Z
end
end L2
namespace HT
open PySem PyProof.Rows
theorem cat_tup{Q:J'->M3->Prop}(m:ky s.heap t v.toArray)(q:ky s.heap b W.toArray)(g:v≠[])
  (r:W=[]->Q (.ref t) s) (u:W≠[]->Q (.ref s.heap.objs.size) {s with heap:=s.heap.push {cls:=.type "tuple",data:=.seq (v++W).toArray}})
  (z:v.length+W.length<=sizeLine):wpAny (ND p w) A (QU .Add (.ref t)<|.ref b) Q E s:=by
 obtain⟨⟨C,D,i,l⟩,o,j,n,k⟩:=id m;obtain⟨⟨x,d,data2,a⟩,h,H,N,c⟩:=id q;simp only at j k H c;subst j k H c;have e:v.toArray++W.toArray=(v++W).toArray:=by simp
 by_cases f:W=[]
 ·exact YC ⟨_,o,rfl⟩ ⟨_,h,rfl⟩ VQ XO S3 SN (Sm _ _)
   (tuple_addW1 t b v.toArray W.toArray n N D d l a (by simpa using g)<|by simp[f]) ⟨o,h,r f⟩
 refine YC ⟨_,o,rfl⟩ ⟨_,h,rfl⟩ VQ XO S3 SN (Sm _ _)
  (tuple_addW2 t b v.toArray W.toArray n N D d l a (by simpa using g) (by simpa using f)<|by rw[Nq,Nq];exact z) ⟨o,h,?_⟩
 rw[e];exact u f
noncomputable def sIx(n d:Nat):MZ Int->Nat
 |none=>d
 |some v=>if v<0 then(v+(n:Int)).toNat else min v.toNat n
theorem sIx_nat(n d k:Nat):sIx n d (B' (k:Int))=min k n:=by
 show(if(k:Int)<0 then((k:Int)+(n:Int)).toNat else min (k:Int).toNat n)=min k n
 rw[Np (by lia),Od]
theorem HJ(n d:Nat)(H:d<=n)(o:MZ Int):sIx n d o<=n:=by
 cases o with
 |none=>exact H
 |some v=>
  show(if v<0 then(v+(n:Int)).toNat else min v.toNat n)<=n
  by_cases h:v<0
  ·rw[Nt h];lia
  rw[Np h];exact Tz _ _
theorem vU(v:Int)(n d:Nat):(if v<0 then max (v+(n:Int)) 0 else min v (n:Int))=((sIx n d (B' v):Nat):Int):=by
 show(if v<0 then max (v+(n:Int)) 0 else min v (n:Int))=(((if v<0 then(v+(n:Int)).toNat else min v.toNat n):Nat):Int)
 by_cases h:v<0
 ·simp only[Nt h];lia
 simp only[Np h];lia
theorem uo(lo h:MZ Int)(n:Nat):R6 lo h 1 (n:Int)=(((sIx n 0 lo:Nat):Int),((sIx n n h:Nat):Int)):=by
 have H:¬((1:Int)<0):=by lia
 unfold R6;simp only[H,QA];refine QW ?_ ?_
 ·cases lo with
  |none=>rfl
  |some v=>exact vU v n 0
 cases h with
 |none=>rfl
 |some v=>exact vU v n n
theorem uq(i j:Nat):QO (i:Int) (j:Int) 1=j-i:=by
 unfold QO;have h:(1:Int)>0:=by lia
 simp only[h,Ss,Int.ediv_one]
 split<;>lia
theorem mO(p:Yb v o)(h:Q o s):wpAny (ND P w) A (ZT v) Q E s:=by
 cases p with
 |none=>exact Xt h
 |int i t=>exact slicePart_int h
theorem sliceApplied_gen{l:M0}{v u:J'}{lo H:MZ Int}{n:Nat}{Q:Int×Int×Nat->M3->Prop}(b:s.heap.IsSliceOf l v u .none)(P:Yb v lo)(c:Yb u H)
  (h:Q (((sIx n 0 lo:Nat):Int),1,sIx n n H-sIx n 0 lo) s):wpAny (ND p w) A (RP (.ref l)<|pure (n:Int)) Q E s:=by
 obtain⟨os,a,I,Z⟩:=id b;unfold RP aa2;refine G'<|G'<|Zx a Z (x:=v) rfl<|G'<|Zx a Z (x:=u) rfl<|G'<|Zx a Z (x:=.none) rfl<|M9 ?_;refine G'<|Xt ?_;show wpAny _ _ (if((1:Int) == 0)=MX then _ else _) _ _ s
 rw[Np<|by decide];refine G'<|mO P<|G'<|mO c<|G'<|M9 ?_;show wpAny _ _ (match R6 lo H 1 (n:Int)with|(lo,H)=>pure (lo,(1:Int),QO lo H 1)) _ _ s
 rw[uo lo H n];show wpAny _ _ (pure (((sIx n 0 lo:Nat):Int),(1:Int),QO ((sIx n 0 lo:Nat):Int) ((sIx n n H:Nat):Int) 1)) _ _ s
 rw[uq];exact M9 h
theorem zO(X:Oh J')(i k:Nat):((Os k).filterMap λ(m:Nat)=>X[((i:Int)+(m:Int)*1).toNat]?).toArray=((X.toList.drop i).take k).toArray:=by
 have e:(λ(m:Nat)=>X[((i:Int)+(m:Int)*1).toNat]?)=λm=>X[i+m]?:=by
  funext m
  have:((i:Int)+(m:Int)*1).toNat=i+m:=by lia
  rw[this]
 rw[e];have:=pick_run X i k;rw[List.filterMap_map]at this;have E:((λx=>X[x]?)∘λx=>i+x)=λm=>X[i+m]?:=rfl;rw[E]at this;rw[this]
theorem getItem_tuple_cut{t l:M0}{i:Oh J'}{v u:J'}{lo H:MZ Int}{Q:J'->M3->Prop}(b:ky s.heap t i)(e:s.heap.IsSliceOf l v u .none)(P:Yb v lo)(f:Yb u H)
  (g:¬(sIx i.size 0 lo=0/\sIx i.size i.size H=i.size))
  (h:Q (.ref s.heap.objs.size) {s with heap:=s.heap.push {cls:=.type "tuple",data:=.seq ((i.toList.drop<|sIx i.size 0 lo).take<|sIx i.size i.size H-sIx i.size 0 lo).toArray}})
  (z:i.size<=sizeLine):wpAny (ND p w) A (Uz (.ref t)<|.ref l) Q E s:=by
 have a:sizeOk (.seq ((i.toList.drop<|sIx i.size 0 lo).take<|sIx i.size i.size H-sIx i.size 0 lo).toArray):=by
  show((i.toList.drop<|sIx i.size 0 lo).take<|sIx i.size i.size H-sIx i.size 0 lo).toArray.size<=sizeLine
  rw[Nq,NO,Pc,NH];lia
 have j:sIx i.size i.size H<=i.size:=HJ _ _ (Na _) H;obtain⟨os,c,I,k⟩:=id e;have d:s.TypeIs (.ref l) "slice":=⟨os,c,I⟩;unfold Uz
 try with_reducible refine OY ?_
 first|refine G' (M9 ?_)|skip
 refine G'<|Yu b.typeIs (by decide) ?_;refine G' (Q7 (name:=M_ "__getitem__") b.typeIs Qc
  (Qj Qc b.typeIs XF ?_<|Ye _ _))
 show wpAny _ _ (UX (.ref t) >>=_) _ _ s
 refine G'<|Rx b ?_;refine G'<|RY d ?_;rw[Nt<|by decide];refine G'<|sliceApplied_gen e P f ?_;have Z:¬((((sIx i.size 0 lo:Nat):Int) == 0&&(1:Int) == 1&&(sIx i.size i.size H-sIx i.size 0 lo) == i.size)=MX):=by
  intro q;rw[N5,N5]at q;have m:((sIx i.size 0 lo:Nat):Int)=0:=eq_of_beq q.1.1;have n:sIx i.size i.size H-sIx i.size 0 lo=i.size:=eq_of_beq q.2;exact g ⟨by lia,by lia⟩
 show wpAny _ _ (if(((sIx i.size 0 lo:Nat):Int) == 0&&(1:Int) == 1&&(sIx i.size i.size H-sIx i.size 0 lo) == i.size)=MX then _ else _) _ _ s
 rw[Np Z,zO]
 first
  |exact G' (m:=Pn _)<|O4 (M9 ⟨_,rfl,M9 h⟩) a
  |exact G' (m:=Pn _)<|O4 (G'<|M9<|M9 ⟨_,rfl,M9 h⟩) a
  |exact G'<|G' (m:=Pn _)<|O4 (M9<|M9 ⟨_,rfl,M9 h⟩) a
  |exact G'<|G' (m:=Pn _)<|O4 (M9 ⟨_,rfl,M9 h⟩) a
end HT
namespace L2
open PySem PySem.Spec PyProof.Rows
abbrev TO:=St->Hp->(MZ Int->Hp->Prop)->Prop
def PO(X:Cx)(e:MZ OJ)(t:TO):Prop:=
 ∀(M:gV (M0×Obj)) (s:M3) (a:St) (H:Hp) (Q:MZ Int->Hp->Prop),Inv X M a H s->t a H Q->
  wpAny (ND X.prog X.w) X.A (evalPart e X.env) (λu b=>∃o h,Inv X M a h b/\Yb u o/\Q o h) X.xe s
def Ef:TO:=λ_ H Q=>Q M5 H
def JX(t:TE):TO:=λa H Q=>t a H λx h=>∃i,x=.int i/\Q (B' i) h
theorem i8:∀{u:gV J'},Vals (N.map V.int) u->Q4 u N:=by
 induction N with
 |nil=>intro u r;rw[Rl]at r;cases r;exact .nil
 |cons n N i=>
  intro u r;rw[NW]at r;cases r with
  |cons a b=>
   obtain⟨t,e⟩:=a;subst e;exact .cons n t<|i b
theorem jo:PO X M5 Ef:=by
 intro M s a H Q I h;rw[C'];exact M9 ⟨M5,H,I,.none,h⟩
theorem gU(h:PE X e T):PO X (B' e) (JX T):=by
 intro M s a H Q I w;rw[evalPart_some];refine bX (h M s a H _ I w) λu f ⟨x,b,c,r,d⟩=>?_;obtain⟨i,rfl,q⟩:=d;obtain⟨t,rfl⟩:=r;exact⟨B' i,b,c,.int i t,q⟩
def Ll(X:Cx)(r:V->MZ Int->MZ Int->Hp->VK->Prop):Prop:=
 ∀(M:gV (M0×Obj)) (s:M3) (a:St) (H:Hp) (x:V) (v l u:J') (lo h:MZ Int) (b:M0) (Q:VK),Inv X M a H s->RelV x v->s.heap.IsSliceOf b l u .none->Yb l lo->Yb u h->r x lo h H Q->
  ∃T id,pw (.type T) "__getitem__"=pure (B'<|.builtin id)/\s.TypeIs v T/\wpAny (ND X.prog X.w) X.A (Uz v<|.ref b) (EP X M a Q) X.xe s
def MT(r:V->MZ Int->MZ Int->Hp->VK->Prop)(t:TE)(T h:TO):TE:=λa H Q=>t a H λx b=>T a b λl c=>h a c λu d=>r x l u d Q
theorem gG{X:Cx}{e:OJ}{t:TE}{lo:MZ OJ}{i:MZ OJ}{g:TO}{j:TO}{p:Pos}{P:Pos}(m:Ll X r)(n:PE X e t)(o:PO X lo g)(w:PO X i j):PE X (.Subscript e (.Slice lo i M5 P) p) (MT r t g j):=by
 intro M s c H Q I h;refine q7<|bX (n M s c H _ I h) λv y ⟨x,z,A,B,C⟩=>?_;refine wpAny_Slice<|bX (o M y c z _ A C) λd D ⟨l,E,F,G,J⟩=>bX (w M D c E _ F J) λf a ⟨u,k,L,N,O⟩=>?_;rw[C'];refine M9 ?_;have U:Inv X M c k {a with heap:=a.heap.push {cls:=.type "slice",data:=.fields #[d,f,.none]}}:=L.kept (t':=a.toks) λb Z q=>Nb _ q;obtain⟨T,id,hT,W,Y⟩:=m M {a with heap:=a.heap.push {cls:=.type "slice",data:=.fields #[d,f,.none]}} c k x v d f l u a.heap.objs.size Q U B (adL ..) G N O;show wpAny (ND X.prog X.w) X.A (XS e (.Slice lo i M5 P) v<|.ref a.heap.objs.size) (EP X M c Q) X.xe {a with heap:=a.heap.push {cls:=.type "slice",data:=.fields #[d,f,.none]}}
 exact tail_any (ops:=[.ref a.heap.objs.size,v]) W hT Y (by with_unfolding_all rfl)
noncomputable def eQ(x:gV V)(lo h:MZ Int):gV V:=(x.drop<|HT.sIx x.length 0 lo).take<|HT.sIx x.length x.length h-HT.sIx x.length 0 lo
theorem lg(x:gV V)(lo h:MZ Int):(eQ x lo h).length<=x.length:=by
 unfold eQ;rw[NO,Pc];lia
def LR(K:K'):V->MZ Int->MZ Int->Hp->VK->Prop:=λx lo h H Q=>∃a X,x=.ref a/\SqT K H a X/\
 ¬(HT.sIx X.length 0 lo=0/\HT.sIx X.length X.length h=X.length)/\∀p,H p=M5->Q (.ref p) (upd H p<|.tup<|eQ X lo h)
theorem HK:Ll X (LR X.K):=by
 intro M s g H x v l j lo i k Q I d e p u h;obtain⟨a,c,rfl,f,w,q⟩:=h;cases d;obtain⟨O,r,t,z⟩:=I.tuple f;have P:O.toArray.size=c.length:=by rw[Nq];exact r.length.symm
 exists "tuple",_,PyProof.Rows.slot_tuple_getitem.lookup,t.typeIs;refine HT.getItem_tuple_cut t e p u (by rw[P];exact w) ?_ (by rw[P];exact z);rw[P];refine⟨.ref s.heap.objs.size,_,I.laid (t':=s.toks) (o:=.tup<|eQ c lo i) (λb o q=>Nb _ q) (Na _) ?_,rfl,q _<|I.hok.fresh<|Na _⟩;exact⟨Oz (lg c lo i) z,_,(r.drop<|HT.sIx c.length 0 lo).take<|HT.sIx c.length c.length i-HT.sIx c.length 0 lo,ng _ _⟩
def JY(K:K'):R2:=λx y H Q=>∃a b X Y,x=.ref a/\y=.ref b/\SqT K H a X/\SqT K H b Y/\X≠[]/\X.length+Y.length<=sizeLine/\
 (Y=[]->Q (.ref a) H)/\(Y≠[]->∀p,H p=M5->Q (.ref p) (upd H p<|.tup<|X++Y))
theorem Vals.nil_iff(r:Vals x u):u=[]↔x=[]:=by
 cases r with
 |nil=>simp
 |cons _ _=>simp
theorem Eg:OpR X (QU .Add) (JY X.K):=by
 intro M s n H x y v u Q I e f h;obtain⟨a,b,g,Y,rfl,rfl,i,j,k,d,l,m⟩:=h;cases e;cases f;obtain⟨O,c,p,_⟩:=I.tuple i;obtain⟨A,r,P,_⟩:=I.tuple j;refine HT.cat_tup p P (λz=>k<|c.nil_iff.mp z) (λz=>⟨.ref a,H,I,rfl,l<|r.nil_iff.mp z⟩) (λz=>?_) (by rw[<-c.length,<-r.length];exact d);refine⟨.ref s.heap.objs.size,_,I.laid (t':=s.toks) (o:=.tup<|g++Y) (λb o q=>Nb _ q) (Na _) ?_,rfl,m (λw=>z<|r.nil_iff.mpr w) _<|I.hok.fresh<|Na _⟩;exact⟨by rw[M7];exact d,_,c.append r,ng _ _⟩
noncomputable def HL(n:Nat)(i:Int):MZ Nat:=if 0<=i then(if i<n then B' i.toNat else M5)else if -(n:Int)<=i then B' (i+n).toNat else M5
noncomputable def j0{a:Type}(x:gV a)(i:Int):MZ a:=(HL x.length i).bind λj=>x[j]?
theorem Eh(h:HL n i=B' j):seqIndex? i n=B' j/\j<n/\ -(n:Int)<=i/\i<n:=by
 unfold HL at h;by_cases a:0<=i
 ·rw[Nt a]at h;by_cases H:i<n
  ·rw[Nt H]at h;have e:i.toNat=j:=Nw h;exact⟨by rw[seqIndex_of a H,e],by lia,by lia,H⟩
  rw[Np H]at h;cases h
 rw[Np a]at h;by_cases H:-(n:Int)<=i
 ·rw[Nt H]at h;have e:(i+n).toNat=j:=Nw h;exact⟨by rw[seqIndex_neg (by lia) H,e],by lia,H,by lia⟩
 rw[Np H]at h;cases h
theorem qF{a:Type}{x:gV a}{i:Int}{v:a}(h:j0 x i=B' v):∃j,seqIndex? i x.length=B' j/\x[j]?=B' v/\j<x.length/\ -(x.length:Int)<=i/\i<x.length:=by
 unfold j0 at h;cases e:HL x.length i with
 |none=>rw[e]at h;cases h
 |some j=>
  rw[e]at h;obtain⟨H,b,c,d⟩:=Eh e;exact⟨j,H,h,b,c,d⟩
theorem bi{a:Type}{x:gV a}{j:Nat}{v:a}(h:x[j]?=B' v):j0 x (j:Int)=B' v:=by
 have H:j<x.length:=(M'.mp h).1;have e:HL x.length (j:Int)=B' j:=by
  unfold HL;rw[Nt (by lia),Nt<|by lia];simp
 unfold j0;rw[e];exact h
def qG(b:OJ):Prop:=∀o i,WY b MW o i=operate [o,i] (Uz o i)
def IxR(X:Cx)(r:R2):Prop:=
 ∀(e L:OJ) (M:gV (M0×Obj)) (s:M3) (a:St) (H:Hp) (x y:V) (v u:J') (Q:VK),Inv X M a H s->RelV x v->RelV y u->r x y H Q->
  WY L MW v u=operate [v,u] (Uz v u)->wpAny (ND X.prog X.w) X.A (XS e L v u) (EP X M a Q) X.xe s
def Lm(X:Cx)(id:QJ)(r:V->gV V->Hp->VK->Prop):Prop:=
 ∀(M:gV (M0×Obj)) (s:M3) (a:St) (H:Hp) (x:V) (b:gV V) (v:J') (u:gV J') (Q:VK),Inv X M a H s->RelV x v->Vals b u->r x b H Q->
  wpAny (ND X.prog X.w) X.A (call (.builtin id)<|v::u) (EP X M a Q) X.xe s
section
variable {X:Cx}
theorem IxR.or(h:IxR X r)(h':IxR X f):IxR X (λx y H Q=>r x y H Q\/f x y H Q):=by
 intro e L M s a H x y v u Q I b c q d;obtain q|q:=q
 ·exact h e L M s a H x y v u Q I b c q d
 exact h' e L M s a H x y v u Q I b c q d
theorem F_(c:IxR X r)(d:PE X a t)(e:PE X b T)(f:qG b):PE X (.Subscript a b p) (vM r t T):=by
 intro M s g H Q I h;exact q7<|HC d e I h λv u i x y j k l m q=>c a b M i g j x y v u Q k l m q<|f _ _
inductive JZ (K:K')(x y:V)(H:Hp)(Q:VK):Prop
 |mk (p:M0)(xs:gV V)(i:Int)(v:V)(hx:x=.ref p)(a:y=.int i)(h:SqL K H p xs)(e:j0 xs i=B' v)(q:Q v H)
inductive J0 (K:K')(x y:V)(H:Hp)(Q:VK):Prop
 |mk (p:M0)(xs:gV V)(i:Int)(v:V)(hx:x=.ref p)(a:y=.int i)(h:SqT K H p xs)(e:j0 xs i=B' v)(q:Q v H)
inductive J1 (x y:V)(H:Hp)(Q:VK):Prop
 |mk (z:Str)(i:Int)(c:Nat)(hx:x=.str z)(a:y=.int i)(h:z.length<=sizeLine)(e:j0 z.cps.toList i=B' c)(q:Q (.str ⟨#[c]⟩) H)
def J2(K:K'):R2:=λx y H Q=>JZ K x y H Q
def J3(K:K'):R2:=λx y H Q=>J0 K x y H Q
def J4:R2:=λx y H Q=>J1 x y H Q
theorem hY:IxR X (J2 X.K):=by
 intro e L M s d H x y v u Q I k l h f;obtain⟨p,F,i,z,rfl,rfl,m,n,q⟩:=h;cases k;obtain⟨t,rfl⟩:=l;obtain⟨O,r,P,G⟩:=I.list m;obtain⟨j,a,o,J,A,B⟩:=qF n;obtain⟨w,E,b⟩:=r.get o;have C:=r.length;have N:=mM;have W:EP X M d Q w s:=⟨z,H,I,b,q⟩;by_cases g:0<=i
 ·have c:i.toNat=j:=by
   rw[seqIndex_of g B]at a;exact Nw a
  exact item_listR P.isList g (by lia) (by rw[c];simpa using E) W f
 have c:(i+(O.toArray.size:Int)).toNat=j:=by
  rw[seqIndex_neg (by lia) A]at a;rw[Nq,<-C];exact Nw a
 exact Wh (x:=w) P.isList.typeIs slot_list_getitem.lookup
  (wpAny_getItem_list_neg (Q:=λr D=>r=w/\EP X M d Q r D) P.isList (by lia) (by rw[Nq]<;>lia) (by lia) (by rw[c];simpa using E) ⟨rfl,W⟩) f
theorem j':IxR X (J3 X.K):=by
 intro e L M s b H x y v u Q I c d h f;obtain⟨p,A,i,z,rfl,rfl,g,k,q⟩:=h;cases c;obtain⟨t,rfl⟩:=d;obtain⟨O,r,P,B⟩:=I.tuple g;obtain⟨j,l,m,C,D,F⟩:=qF k;obtain⟨w,E,a⟩:=r.get m;have n:=r.length;have G:=mM;have W:EP X M b Q w s:=⟨z,H,I,a,q⟩;exact Wh (x:=w) P.typeIs slot_tuple_getitem.lookup
  (getItem_tuple (j:=j) (Q:=λr o=>r=w/\EP X M b Q r o) P (by lia) (by lia) (by rw[Nq,<-n];exact l) (by simpa using E) ⟨rfl,W⟩) f
theorem HM:IxR X J4:=by
 intro e L M s o H x y v u Q I r b h d;obtain⟨z,i,c,rfl,rfl,p,f,q⟩:=h;obtain⟨t,rfl⟩:=r;obtain⟨T,rfl⟩:=b;obtain⟨j,a,g,w,k,l⟩:=qF f;have m:z.cps.toList.length=z.length:=by simp[Str.length]
 rw[m]at a k l;have A:=mM;exact tail_any (typeIs_str s z t) slot_str_getitem.lookup (getItem_str (c:=c) (by
  have E:decide (i < -(2^63:Int))=false:=M6 (by lia);have n:decide (i>=2^63)=false:=M6 (by lia);rw[E,n,XU]) (by rw[a];simpa using g) ⟨.str ⟨#[c]⟩,H,I.tok _,⟨_,rfl⟩,q⟩) d
def Ga(K:K'):R2:=λx y H Q=>J2 K x y H Q\/J3 K x y H Q\/J4 x y H Q
theorem zP:IxR X (Ga X.K):=hY.or<|j'.or HM
theorem qH(lo H:MZ Int)(n:Nat):(SJ lo H M5 n).1=((HT.sIx n 0 lo:Nat):Int)/\(SJ lo H M5 n).2.1=((HT.sIx n n H:Nat):Int)/\(SJ lo H M5 n).2.2=1:=by
 refine⟨?_,?_,rfl⟩
 ·cases lo with
  |none=>simp[SJ,HT.sIx]
  |some i=>
   simp only[SJ,HT.sIx,Zk,show(1:Int)>0 by decide,Ss];by_cases h:i<0
   ·simp only[h,Ss]<;>lia
   simp only[h,QA]<;>lia
 cases H with
 |none=>simp[SJ,HT.sIx]
 |some i=>
  simp only[SJ,HT.sIx,Zk,show(1:Int)>0 by decide,Ss];by_cases h:i<0
  ·simp only[h,Ss]<;>lia
  simp only[h,QA]<;>lia
theorem oW(O:gV J')(lo h:MZ Int):slicePick O.toArray lo h M5=((O.drop<|HT.sIx O.length 0 lo).take<|HT.sIx O.length O.length h-HT.sIx O.length 0 lo).toArray:=by
 obtain⟨H,a,b⟩:=qH lo h O.toArray.size;unfold slicePick;rw[H,a,b];simp only[sliceRange_one,pick_run,Nq]<;>rfl
def LS(K:K'):V->MZ Int->MZ Int->Hp->VK->Prop:=λx lo h H Q=>∃a s,x=.ref a/\SqL K H a s/\∀p,H p=M5->Q (.ref p) (upd H p<|.lst<|eQ s lo h)
theorem jp:Ll X (LS X.K):=by
 intro M s j H x v l u lo i k Q I d e p P h;obtain⟨a,c,rfl,f,q⟩:=h;cases d;obtain⟨O,r,t,z⟩:=I.list f;have g:=r.length;exists "list",_,slot_list_getitem.lookup,t.isList.typeIs;refine wpAny_getItem_list_slice t.isList e p P .none (by simp) ?_ (by rw[Nq]<;>lia);rw[oW,<-g];refine⟨.ref s.heap.objs.size,_,I.laid (t':=s.toks) (o:=.lst<|eQ c lo i) (λb o q=>Nb _ q) (Na _) ?_,rfl,q _<|I.hok.fresh<|Na _⟩;exact⟨Oz (lg c lo i) z,_,0,(r.drop<|HT.sIx c.length 0 lo).take<|HT.sIx c.length c.length i-HT.sIx c.length 0 lo,NL _ rfl⟩
noncomputable def jq:V->Nf
 |.non=>MX
 |.bl _=>MX
 |.int _=>MX
 |.str _=>MX
 |_=>MW
noncomputable def Gb:V->V->Nf
 |.non,.non=>MX
 |.bl a,.bl b=>a == b
 |.bl a,.int b=>(if a then 1 else 0) == b
 |.int a,.bl b=>a == (if b then 1 else 0)
 |.int a,.int b=>a == b
 |.str a,.str b=>a == b
 |_,_=>MW
theorem HN(c:RelV y u)(r:RelV x v)(F:jq y=MX)(f:jq x=MX):sy A s u v (Gb y x):=by
 cases y with
 |non=>
  cases c;cases x with
  |non=>cases r;exact aeF _
  |bl b=>cases r;exact acY b
  |int b=>obtain⟨t,rfl⟩:=r;exact adg b t
  |str b=>obtain⟨t,rfl⟩:=r;exact adf b t
  |_=>exact absurd (show MW=MX from f) Ni
 |bl a=>
  cases c;cases x with
  |non=>cases r;exact acZ a
  |bl b=>cases r;exact ac0 a b
  |int b=>obtain⟨t,rfl⟩:=r;exact adk a b t
  |str b=>obtain⟨t,rfl⟩:=r;exact adj a b t
  |_=>exact absurd (show MW=MX from f) Ni
 |int a=>
  obtain⟨T,rfl⟩:=c;cases x with
  |non=>cases r;exact adh a T
  |bl b=>cases r;exact adi a T b
  |int b=>obtain⟨t,rfl⟩:=r;exact adJ a T b t
  |str b=>obtain⟨t,rfl⟩:=r;exact X9 a T b t
  |_=>exact absurd (show MW=MX from f) Ni
 |str a=>
  obtain⟨T,rfl⟩:=c;cases x with
  |non=>cases r;exact adb a T
  |bl b=>cases r;exact ade a T b
  |int b=>obtain⟨t,rfl⟩:=r;exact X8 a T b t
  |str b=>obtain⟨t,rfl⟩:=r;exact adI a T b t
  |_=>exact absurd (show MW=MX from f) Ni
 |_=>exact absurd (show MW=MX from F) Ni
noncomputable def ur(x:V)(u:J'):Nf:=match u with
 |.none=>Gb .non x
 |.bool b=>Gb (.bl b) x
 |.int i _=>Gb (.int i) x
 |.str z _=>Gb (.str z) x
 |_=>MW
theorem zQ(r:RelV y u)(f:jq y=MX):ur x u=Gb y x:=by
 cases y with
 |non=>cases r;rfl
 |bl b=>cases r;rfl
 |int i=>obtain⟨t,rfl⟩:=r;rfl
 |str z=>obtain⟨t,rfl⟩:=r;rfl
 |_=>exact absurd (show MW=MX from f) Ni
theorem jr:∀{s:gV V} {U:gV J'},Vals s U->s.all jq=MX->U.any (ur x)=s.any λy=>Gb y x
 |_,_,.nil,_=>rfl
 |y::s,u::U,.cons r t,f=>by
  rw[TR,N5]at f;rw[Ru,Ru,zQ r f.1,jr t f.2]
theorem ie(b:RelV x v)(F:jq x=MX):∀{a:gV V} {U:gV J'},Vals a U->a.all jq=MX->∀u∈U,sy A s u v<|ur x u
 |_,_,.nil,_=>λu h=>by cases h
 |y::a,u::U,.cons r t,f=>λc h=>by
  rw[TR,N5]at f;obtain rfl|h:=Nz.mp h
  ·rw[zQ r f.1];exact HN r b f.1 F
  exact ie b F t f.2 c h
noncomputable def iR(x:V)(s:gV V):Nf:=s.any λy=>Gb y x
inductive MA (K:K')(n:Nf)(x y:V)(H:Hp)(Q:VK):Prop
 |mk (p:M0)(xs:gV V)(a:y=.ref p)(h:SqL K H p xs\/SqT K H p xs)(f:jq x=MX)(fs:xs.all jq=MX)(q:Q (.bl (if n then !iR x xs else iR x xs)) H)
def Lo(K:K')(n:Nf):R2:=λx y H Q=>MA K n x y H Q
theorem du:OpR X (ON .In) (Lo X.K MW):=by
 intro M s e H x y v u Q I c d h;obtain⟨p,g,rfl,a,F,f,q⟩:=h;cases d;obtain a|a:=a
 ·obtain⟨O,r,P,z⟩:=I.list a;refine SeqAt.in_listAt (ur x) P.isList (λw b=>ie c F r f w<|by simpa using b) ⟨.bl _,H,I,rfl,?_⟩;rw[show O.toArray.any (ur x)=O.any (ur x) by simp,jr r f];exact q
 obtain⟨O,r,P,z⟩:=I.tuple a;refine SeqAt.in_tupleAt (ur x) P (λw b=>ie c F r f w<|by simpa using b) ⟨.bl _,H,I,rfl,?_⟩;rw[show O.toArray.any (ur x)=O.any (ur x) by simp,jr r f];exact q
theorem cQ:OpR X (ON .NotIn) (Lo X.K MX):=by
 intro M s e H x y v u Q I c d h;obtain⟨p,g,rfl,a,F,f,q⟩:=h;cases d;obtain a|a:=a
 ·obtain⟨O,r,P,z⟩:=I.list a;refine SeqAt.notIn_listAt (ur x) P.isList (λw b=>ie c F r f w<|by simpa using b) ⟨.bl _,H,I,rfl,?_⟩;rw[show O.toArray.any (ur x)=O.any (ur x) by simp,jr r f];exact q
 obtain⟨O,r,P,z⟩:=I.tuple a;refine SeqAt.notIn_tupleAt (ur x) P (λw b=>ie c F r f w<|by simpa using b) ⟨.bl _,H,I,rfl,?_⟩;rw[show O.toArray.any (ur x)=O.any (ur x) by simp,jr r f];exact q
theorem cx:fo X (.type "list") (λx H Q=>∃p y,x=[.ref p]/\(SqL X.K H p y\/SqT X.K H p y)/\∀l,H l=M5->Q (.ref l) (upd H l<|.lst y)):=by
 intro M s t H x U Q I r h;obtain⟨p,y,rfl,f,q⟩:=h;obtain⟨u,rfl,v⟩:=fI r;cases v;have W:∀O,Vals y O->y.length<=sizeLine->∀a c,(∀b m,s.heap.get? b=B' m->a.get? b=B' m)->
   a.get? s.heap.objs.size=B' {cls:=.type "list",dict:=M5,data:=.seq O.toArray c,slots:=#[]}->EP X M t Q (.ref s.heap.objs.size) {s with heap:=a}:=λO d z a c k e=>
  ⟨.ref s.heap.objs.size,_,I.laid (t':=s.toks) k (Na _) (show ObjOk X.prog X.w _ a _ (.lst y)from⟨z,O,c,d,e⟩),rfl,q _<|I.hok.fresh<|Na _⟩
 obtain f|f:=f
 ·obtain⟨O,d,P,z⟩:=I.list f;have w:=d.length;obtain⟨o,g,i,n,j⟩:=P.isList;exact A' p (.inl rfl) g i j (λa c k e=>W O d z a c k e) (by simp only[Nq]<;>lia)
 obtain⟨O,d,P,z⟩:=I.tuple f;have w:=d.length;obtain⟨o,g,i,n,j⟩:=P;exact A' p (.inr rfl) g i j (λa c k e=>W O d z a c k e) (by simp only[Nq]<;>lia)
theorem c7:fo X (.type "tuple") (λx H Q=>∃p y,x=[.ref p]/\((SqL X.K H p y/\∀l,H l=M5->Q (.ref l) (upd H l<|.tup y))\/(SqT X.K H p y/\Q (.ref p) H))):=by
 intro M s f H x U Q I r h;obtain⟨p,y,rfl,h⟩:=h;obtain⟨u,rfl,g⟩:=fI r;cases g;obtain⟨c,q⟩|⟨c,q⟩:=h
 ·obtain⟨O,d,P,z⟩:=I.list c;have m:=d.length;refine call_tuple_list P.isList (λa k=>?_) (by simp only[Nq]<;>lia);have i:Inv X M f H {s with heap:=a}:=I.kept (t':=s.toks) k;have j:Inv X M f (upd H a.objs.size<|.tup y) {s with heap:=a.push {cls:=.type "tuple",data:=.seq O.toArray}}:=
   i.laid (t':=s.toks) (λb o e=>Nb _ e) (Na _) (show ObjOk X.prog X.w _ _ _ (.tup y)from⟨z,O,d,ng _ _⟩)
  exact⟨.ref a.objs.size,_,j,rfl,q _<|i.hok.fresh<|Na _⟩
 obtain⟨O,d,P,z⟩:=I.tuple c;exact call_tuple_same P ⟨.ref p,H,I,rfl,q⟩
def LT(K:K')(T:QJ)(x:V)(H:Hp):Prop:=match x with
 |.str _=>T="str"
 |.int _=>T="int"
 |.ref p=>(T="list"/\∃s,SqL K H p s)\/(T="tuple"/\∃o,K.lookup p=B' o/\o.cls=.type "tuple"/\o.dict=M5)\/
   (T="dict"/\((∃k,H p=B' (.dK k))\/∃k,H p=B' (.dT k)))\/(T="set"/\∃S n,H p=B' (.set S n))
 |_=>False
theorem zR(I:Inv X M g H s)(r:RelV x v)(y:LT X.K T x H):
  s.TypeIs v T/\∀a,v=.ref a->∃O,s.heap.get? a=B' O/\O.dict=none:=by
 cases x with
 |str z=>
  obtain⟨t,rfl⟩:=r;cases(show T="str" from y);exact⟨typeIs_str s z t,λ_ e=>nomatch e⟩
 |int i=>
  obtain⟨t,rfl⟩:=r;cases(show T="int" from y);exact⟨oD s i t,λ_ e=>nomatch e⟩
 |ref p=>
  cases r;obtain⟨rfl,j,q⟩|⟨rfl,o,h,f,d⟩|⟨rfl,h⟩|⟨rfl,S,n,h⟩:=y
  ·obtain⟨l,_,P,_⟩:=I.list q;refine⟨P.isList.typeIs,λa e=>?_⟩;cases e;obtain⟨o,n,e,c,d,_⟩:=P;exact⟨o,e,d⟩
  ·refine⟨⟨o,I.kIn p o h,f⟩,λa e=>?_⟩;cases e;exact⟨o,I.kIn _ o h,d⟩
  ·have z:∃o,s.heap.get? p=B' o/\o.ExactDict:=by
    obtain⟨k,h⟩|⟨k,h⟩:=h
    ·obtain⟨_,_,_,_,o,_,_,e,E,_⟩:=I.hok p _ h;exact⟨o,e,E⟩
    obtain⟨_,_,_,_,o,_,_,e,E,_⟩:=I.hok p _ h;exact⟨o,e,E⟩
   obtain⟨o,e,E⟩:=z;refine⟨⟨o,e,E.1⟩,λa b=>?_⟩;cases b;exact⟨o,e,E.2.1⟩
  ·obtain⟨o,_,_,_,e,E,_⟩:=I.hok p _ h;refine⟨⟨o,e,E.1⟩,λa b=>?_⟩;cases b;exact⟨o,e,E.2.1⟩
 |_=>exact P7 y
def LU(K:K')(T:QJ)(r:V->gV V->Hp->VK->Prop)(t:TE):TE:=λa H Q=>t a H λx h=>LT K T x h/\r x [] h Q
def MU(K:K')(T:QJ)(r:V->gV V->Hp->VK->Prop)(o:TE)(t:TA):TE:=λa H Q=>o a H λx h=>LT K T x h/\t a h λs b=>r x s b Q
variable {o:OJ}{to:TE}{name:Str}{Te UO:Pos}{T id:QJ}{r:V->gV V->Hp->VK->Prop}
theorem mP(p:PlainAttrs T)(slot:Slot T name id)(y:lz (.builtin id)=pure (.type "method_descriptor"))(m:Lm X id r)(d:PE X o to)
  (a:Sj o name X.env (Pq o X.env)=Pq o X.env:=by rfl) (N:(Te.endLine == UO.line)=true:=by rfl):PE X (.Call (.Attribute o name Te) [] [] UO) (LU X.K T r to):=by
 intro M s b H Q I h;refine wpAny_Call_method0_late a N<|bX (d M s b H _ I h) λv e ⟨x,f,i,c,t,q⟩=>?_;obtain⟨g,j⟩:=zR i c t;exact⟨T,id,p,slot,y,g,j,S4 rfl<|PySem.evalArgs_none<|m M e b f x [] v [] Q i c .nil q⟩
theorem eS{e:OJ}{E:gV OJ}{t:TA}(p:PlainAttrs T)(slot:Slot T name id)(y:lz (.builtin id)=pure (.type "method_descriptor"))(m:Lm X id r)(f:PE X o to)(g:PA X (e::E) t)
  (a:Sj o name X.env (Pq o X.env)=Pq o X.env:=by rfl)
  (A:((Qw UO<|NS (e::E) X.env).all (λx=>!x.1)&&(VS UO<|SM [] X.env).all (λx=>x.1.isSome)
   &&decide ((e::E).length+([]:gV lA).length+(if([]:gV lA).isEmpty then 0 else 1)<30))=true:=by rfl)
  (N:(Te.endLine == UO.line)=true:=by rfl) (j:NS (e::E) X.env=(MW,Pq e X.env)::NS E X.env:=by rfl) (P:(Qw UO<|NS E X.env).any (·.1)=false:=by rfl):
  PE X (.Call (.Attribute o name Te) (e::E) [] UO) (MU X.K T r to t):=by
 intro M s b H Q I h;refine wpAny_Call_method_late a A N rfl<|bX (f M s b H _ I h) λv k ⟨x,l,i,c,n,q⟩=>?_;obtain⟨u,w⟩:=zR i c n;exists T,id,p,slot,y,u,w;have d:=g UO M k b l _ i q;rw[j]at d ⊢;refine S4 (by show(MW || (Qw UO<|NS E X.env).any (·.1))=MW;rw[P]<;>rfl)<|T9 ?_;exact bX d λU z ⟨B,C,D,F,G⟩=>m M z b C x B v U Q D c F G
end
def J5(X:Cx)(id:QJ)(r:V->gV V->Hp->VK->Prop):Prop:=
 ∀(M:gV (M0×Obj)) (s:M3) (a:St) (H:Hp) (x:V) (b:gV V) (v:J') (u:gV J') (Q:VK),Inv X M a H s->RelV x v->Vals b u->r x b H Q->
  wpAny (ND X.prog X.w) X.A (call (.builtin id)<|v::u) (EP X M a Q) X.xe s
theorem Vals.one:∀{x:V} {U:gV J'},Vals [x] U->∃u,U=[u]/\RelV x u
 |_,_,.cons r .nil=>⟨_,rfl,r⟩
theorem Vals.two:∀{x y:V} {U:gV J'},Vals [x,y] U->∃u v,U=[u,v]/\RelV x u/\RelV y v
 |_,_,_,.cons r (.cons q .nil)=>⟨_,_,rfl,r,q⟩
theorem Vals.zero:∀{u:gV J'},Vals [] u->u=[]
 |_,.nil=>rfl
theorem Vals.dropLast(h:Vals x u):Vals x.dropLast u.dropLast:=by
 induction h with
 |nil=>exact .nil
 |cons r t i=>
  cases t with
  |nil=>exact .nil
  |cons q T=>exact .cons r i
theorem Vals.rep(h:Vals x u):∀k,Vals (Pa k x).flatten (Pa k u).flatten
 |0=>.nil
 |k+1=>by
  rw[Q5,Q5,RE,RE];exact Vals.append h<|Vals.rep h k
theorem ut{c:Type}(l:gV c):l.eraseIdx (l.length-1)=l.dropLast:=by
 induction l with
 |nil=>rfl
 |cons a r i=>
  cases r with
  |nil=>rfl
  |cons b r=>
   have e:(a::b::r).length-1=((b::r).length-1)+1:=by
    have h:(a::b::r).length=r.length+2:=rfl;have H:(b::r).length=r.length+1:=rfl;lia
   rw[e,V4,i]
   all_goals rfl
theorem ph(O:gV J'):∀k Q,
  p3 (λx X=>x++X) Q.toArray (Pa k O.toArray)=(Q++(Pa k O).flatten).toArray
 |0,Q=>by simp
 |k+1,Q=>by
  have e:Q.toArray++O.toArray=(Q++O).toArray:=by simp
  have E:(Q++O)++(Pa k O).flatten=Q++(Pa (k+1) O).flatten:=by
   rw[Q5,RE,N1]
  rw[<-E,<-ph O k<|Q++O,<-e,Q5,QS]
theorem Inv.lset{O i:gV J'}{n:Nat}{f:Oh J'->Oh J'}{t':Nat}(I:Inv X M a H s)(h:H l=B' (.lst x))
  (e:s.heap.get? l=B' {cls:=.type "list",data:=.seq O.toArray n}) (b:f O.toArray=i.toArray) (v:Vals y i) (z:y.length<=sizeLine):
  Inv X M a (upd H l<|.lst y) {s with heap:=s.heap.update l<|PH f,toks:=t'}:=by
 have q:=Z9 e f;rw[b]at q;refine I.write (x:=l) (e:=l) (by rw[h];exact trivial) (.inl rfl) (λB u c d=>(OC s.heap (PH f)<|OV c).trans d) ⟨_,q⟩ ?_;exact⟨z,i,_,v,q⟩
theorem Inv.lnew{t':Nat}(I:Inv X M a H s)(h:Vals y O)(z:y.length<=sizeLine):
  Inv X M a (upd H s.heap.objs.size<|.lst y) {s with heap:=s.heap.push {cls:=.type "list",data:=.seq O.toArray},toks:=t'}:=
 I.laid (λ_ _ q=>Nb _ q) (Na _) ⟨z,O,0,h,NL _ rfl⟩
theorem Inv.fresh(I:Inv X M a H s):H s.heap.objs.size=none:=I.hok.fresh<|Na _
theorem Inv.lstM(I:Inv X M a H s)(h:H l=B' (.lst x)):x.length<=sizeLine/\∃O n,Vals x O/\x.length=O.length/\s.heap.get? l=B' {cls:=.type "list",data:=.seq O.toArray n}:=by
 obtain⟨z,O,n,r,e⟩:=I.hok l _ h;exact⟨z,O,n,r,r.length,e⟩
theorem zT(h:n<=sizeLine):Sn n=false:=by
 unfold Sn;exact M6 (by lia)
inductive J6 (x:V)(vs:gV V)(H:Hp)(Q:VK):Prop
 |mk (l:M0)(xs:gV V)(y:V)(hx:x=.ref l)(v:vs=[y])(h:H l=B' (.lst xs))(z:xs.length<sizeLine)(q:Q .non (upd H l<|.lst<|xs++[y]))
def Ei:V->gV V->Hp->VK->Prop:=λx v H Q=>J6 x v H Q
theorem bY:J5 X "list.append" Ei:=by
 intro M s f H x g v U Q I b c h;obtain⟨l,i,y,rfl,rfl,a,j,q⟩:=h;cases b;obtain⟨u,rfl,d⟩:=c.one;obtain⟨z,O,n,r,k,e⟩:=I.lstM a;refine RN Oj ⟨_,e,rfl⟩ F.entry_list_append (F.args_list_append_2 _ _) (PySem.list_append l O.toArray n u<|by rw[Nq];lia) ⟨e,?_⟩;refine⟨.non,_,I.lset (i:=O++[u]) a e (by simp) (r.append<|.cons d .nil) ?_,rfl,q⟩;rw[M7,NG];lia
def LW:V->gV V->Hp->VK->Prop:=λx v H Q=>∃l X y,x=.ref l/\v=[]/\H l=B' (.lst X)/\X[X.length-1]?=B' y/\Q y (upd H l<|.lst X.dropLast)
theorem uu:J5 X "list.pop" LW:=by
 intro M s m H x o v U Q I d f h;obtain⟨l,p,y,rfl,rfl,c,g,q⟩:=h;cases d;have a:=f.zero;subst a;obtain⟨z,O,n,r,i,e⟩:=I.lstM c;obtain⟨u,j,k⟩:=r.get g;have b:O.toArray[O.toArray.size-1]?=B' u:=by
  show O.toArray[O.length-1]?=B' u
  rw[<-NZ,<-i];exact j
 refine RN R3 ⟨_,e,rfl⟩ F.entry_list_pop (F.args_list_pop_1 _) (MeetsSeq.list_pop_last l O.toArray n u b<|by rw[Nq];lia) ⟨e,?_⟩;refine⟨y,_,I.lset (i:=O.dropLast) c e ?_ r.dropLast ?_,k,q⟩
 ·show O.toArray.eraseIdxIfInBounds (O.toArray.size-1)=O.dropLast.toArray
  rw[Nq,List.eraseIdxIfInBounds_toArray,ut]
 rw[OK];lia
def HP:V->gV V->Hp->VK->Prop:=λx v H Q=>∃l X,x=.ref l/\v=[]/\H l=B' (.lst X)/\Q .non (upd H l<|.lst [])
theorem rT:J5 X "list.clear" HP:=by
 intro M s f H x g v u Q I c d h;obtain⟨l,i,rfl,rfl,b,q⟩:=h;cases c;have a:=d.zero;subst a;obtain⟨z,O,n,r,j,e⟩:=I.lstM b;refine RN To ⟨_,e,rfl⟩ F.entry_list_clear (F.args_list_clear_1 _) (AutoSeq1.list_clear_list_0 l O.toArray n<|by rw[Nq];lia) ⟨e,?_⟩;exact⟨.non,_,I.lset (i:=[]) (y:=[]) b e rfl .nil<|NA _,rfl,q⟩
def yn:R2:=λx y H Q=>∃l b X z,x=.ref l/\y=.ref b/\H l=B' (.lst X)/\H b=B' (.lst z)/\X.length+z.length<=sizeLine/\∀p,H p=M5->Q (.ref p) (upd H p<|.lst<|X++z)
theorem eD:OpR X (QU .Add) yn:=by
 intro M s j H x y v u Q I c d h;obtain⟨l,b,k,Z,rfl,rfl,f,B,m,q⟩:=h;cases c;cases d;obtain⟨z,O,n,r,o,e⟩:=I.lstM f;obtain⟨p,a,N,g,Y,E⟩:=I.lstM B;refine PySem.P.add_list e E ?_ (by rw[Nq,Nq];lia);have i:O.toArray++a.toArray=(O++a).toArray:=by simp
 rw[i];exact⟨.ref _,_,I.lnew (t':=s.toks) (r.append g) (by rw[M7];lia),rfl,q _ I.fresh⟩
def HQ:R2:=λx y H Q=>∃l k X,x=.ref l/\y=.int k/\H l=B' (.lst X)/\ -(2^63)<=k/\k<2^63/\X.length*k.toNat<=sizeLine/\
 ∀p,H p=M5->Q (.ref p) (upd H p<|.lst (Pa k.toNat X).flatten)
theorem Ej{a:Type}(x:gV a)(k:Nat):(Pa k x).flatten.length=k*x.length:=by
 induction k with
 |zero=>simp
 |succ k i=>rw[Q5,RE,M7,i,Nat.succ_mul,Nat.add_comm]
theorem qI:OpR X (QU .Mult) HQ:=by
 intro M s G H x y v u Q I j o h;obtain⟨l,k,J,rfl,rfl,p,w,B,g,q⟩:=h;cases j;obtain⟨t,rfl⟩:=o;obtain⟨z,O,n,r,C,e⟩:=I.lstM p;have P:O.toArray.size*k.toNat<=sizeLine:=by rw[Nq,<-C];exact g
 have A:¬O.toArray.size*k.toNat>(2^63-1)/8:=by
  have:(sizeLine:Nat)<=(2^63-1)/8:=by decide
  lia
 have b:¬(!UY k)=true:=by
  rw[Sy w B];exact Ni
 have i:¬Sn (O.toArray.size*k.toNat)=true:=by
  rw[zT P];exact Ni
 have c:p3 (λd f=>d++f) #[] (Pa (if O.toArray.isEmpty=MX then 0 else k.toNat) O.toArray)=(Pa k.toNat O).flatten.toArray:=by
  have D:∀m,p3 (λd f=>d++f) #[] (Pa m O.toArray)=(Pa m O).flatten.toArray:=λm=>by
   have:=ph O m [];rw[Sv]at this;exact this
  rw[D];cases O with
  |nil=>simp
  |cons a L=>rw[Np<|by simp]
 refine wpAny_binaryOp_repeat_ref (T:="list") (U:="int") (by decide) ⟨_,e,rfl⟩ (λE=>oD E k t) noFill_list_mul F.fills_int_mul ZR repeat_list F.slot_int_index.lookup
  (RN ZR (oD s k t) F.entry_int_rmul (F.args_int_rmul_2 _ _) (int___rmul___int_list k t l O.toArray n)
   ⟨e,rfl,⟨_,e,rfl⟩,RN F.slot_list_mul ⟨_,e,rfl⟩ F.entry_list_mul (F.args_list_mul_2 _ _) (Yp l O.toArray n k t b A i) ⟨e,?_⟩⟩)
 rw[c];exact⟨.ref _,_,I.lnew (t':=s.toks) (r.rep k.toNat) (by rw[Ej,UG];exact g),rfl,q _ I.fresh⟩
section
variable {κ:Type}[Ud κ]
noncomputable def cR(s:gV (κ×V))(k:κ):MZ V:=(s.find? λv=>decide (v.1=k)).map (·.2)
noncomputable def dg(s:gV (κ×V))(k:κ)(v:V):gV (κ×V):=
 if(s.any λa=>decide (a.1=k))=MX then s.map (λa=>if a.1=k then(a.1,v)else a)else s++[(k,v)]
theorem cU{p:κ×V}{r:gV (κ×V)}{k:κ}(e:p.1=k):cR (p::r) k=B' p.2:=by simp[cR,Pk,e]
theorem cV{p:κ×V}{r:gV (κ×V)}{k:κ}(e:¬p.1=k):cR (p::r) k=cR r k:=by simp[cR,Pk,e]
theorem ig(k:κ):∀s,(s.any λv=>decide (v.1=k))=(cR s k).isSome
 |[]=>rfl
 |p::r=>by
  rw[Ru];by_cases e:p.1=k
  ·simp only[cU e,Ng e,YY,Yg]
  rw[cV e,M6 e,TU];exact ig k r
theorem rV(k j:κ)(y:V):∀s,cR (s.map λv=>if v.1=k then(v.1,y)else v) j=(cR s j).map λx=>if j=k then y else x
 |[]=>rfl
 |p::r=>by
  have i:=rV k j y r;rw[NW];by_cases h:p.1=k
  ·rw[Nt h];by_cases e:p.1=j
   ·rw[cU (p:=(p.1,y)) e,cU e,Su,Nt<|e.symm.trans h]
   rw[cV (p:=(p.1,y)) e,cV e,i]
  rw[Np h];by_cases e:p.1=j
  ·rw[cU (p:=p) e,cU e,Su,Np λz=>h<|e.trans z]
  rw[cV (p:=p) e,cV e,i]
theorem pi(k j:κ)(y:V):∀s,cR s k=M5->cR (s++[(k,y)]) j=if j=k then B' y else cR s j
 |[],_=>by
  by_cases e:k=j
  ·rw[Nt e.symm];exact cU (p:=(k,y)) e
  ·rw[Np λz=>e z.symm];exact cV (p:=(k,y)) e
 |p::r,h=>by
  rw[List.cons_append];have H:¬p.1=k:=λz=>by rw[cU z]at h;cases h
  rw[cV H]at h;have i:=pi k j y r h;by_cases e:p.1=j
  ·rw[cU e,cU e,Np λz=>H<|e.trans z]
  rw[cV e,cV e,i]
theorem rW(s:gV (κ×V))(k j:κ)(y:V):cR (dg s k y) j=if j=k then B' y else cR s j:=by
 unfold dg;by_cases a:(s.any λv=>decide (v.1=k))=MX
 ·rw[Nt a,rV];rw[ig]at a;by_cases e:j=k
  ·obtain⟨x,h⟩:=Sq.mp a;rw[Nt e,e,h,Su,Nt rfl]
  rw[Np e];cases cR s j with
  |none=>rfl
  |some x=>rw[Su,Np e]
 rw[Np a];refine pi k j y s ?_;rw[ig]at a;cases q:cR s k with
 |none=>rfl
 |some x=>rw[q]at a;exact(a rfl).elim
theorem dY(s:gV (κ×V))(k:κ)(v:V):(dg s k v).length<=s.length+1:=by
 unfold dg
 split
 ·rw[MY];lia
 rw[M7,NC,Sw];lia
theorem mQ{s:gV (κ×V)}{k:κ}(v:V)(h:cR s k=M5):dg s k v=s++[(k,v)]:=by
 unfold dg;rw[ig,h];exact Np (by decide)
theorem RelO.isSome_eq(r:RelO o u):o.isSome=u.isSome:=by
 cases o with
 |none=>cases u with
  |none=>rfl
  |some _=>exact(show False from r).elim
 |some _=>cases u with
  |none=>exact(show False from r).elim
  |some _=>rfl
theorem KV.val(r:KV s v)(k:κ):RelO (cR s k) (Vf v k):=by
 unfold KV at r
 induction r with
 |nil=>exact Qa
 |@cons p q P Q h t i=>
  obtain⟨H,a⟩:=h;by_cases e:p.1=k
  ·have E:q.1=k:=H.symm.trans e;have b:Vf (q::Q) k=B' q.2:=by simp[Vf,Pk,E]
   rw[cU e,b];exact a
  have E:¬q.1=k:=λz=>e<|H.trans z;have b:Vf (q::Q) k=Vf Q k:=by simp[Vf,Pk,E]
  rw[cV e,b];exact i
theorem KV.any(r:KV s a)(k:κ):(s.any λv=>decide (v.1=k))=a.any λv=>decide (v.1=k):=by
 unfold KV at r
 induction r with
 |nil=>rfl
 |cons h t i=>rw[Ru,Ru,i,h.1]
theorem KV.repl(r:KV s a)(k:κ)(b:RelV y u):
  KV (s.map λv=>if v.1=k then(v.1,y)else v) (a.map λv=>if v.1=k then(v.1,u)else v):=by
 unfold KV at r ⊢
 induction r with
 |nil=>exact .nil
 |@cons p q P Q h t i=>
  rw[NW,NW];refine .cons ?_ i;obtain⟨H,c⟩:=h;by_cases e:p.1=k
  ·rw[Nt e,Nt<|H.symm.trans e];exact⟨H,b⟩
  rw[Np e,Np λz=>e<|H.trans z];exact⟨H,c⟩
theorem KV.put(r:KV s v)(k:κ)(a:RelV y u):KV (dg s k y) (stored v k u):=by
 unfold dg stored;rw[r.any k];by_cases e:(v.any λb=>decide (b.1=k))=MX
 ·rw[Nt e,Nt e];exact r.repl k a
 rw[Np e,Np e];exact Paired.snoc r ⟨rfl,a⟩
theorem KV.length{k:gV (κ×V)}{v:gV (κ×J')}(r:KV k v):k.length=v.length:=Paired.length r
end
theorem jt(r:RelV (kV k) u):(bh P w).is k u=true:=by
 cases k with
 |inl i=>obtain⟨t,e⟩:=(show∃t,u=Rr i t from r);subst e;exact rJ P w i t
 |inr x=>obtain⟨t,e⟩:=(show∃t,u=Xx x t from r);subst e;exact rK P w x t
theorem pj:∀{s:gV bR} {u:gV J'},Vals (s.map kV) u->ItemsAre (bh P w) s u
 |[],_,r=>by rw[Rl]at r;cases r;exact .nil
 |k::s,_,r=>by
  rw[NW]at r;cases r with
  |cons h t=>exact .cons (jt h)<|pj t
abbrev KT(H:Hp):gV (gV bR×V)->gV (gV bR×M0×J')->Prop:=Paired λp q=>p.1=q.1/\H q.2.1=B' (.tup<|p.1.map kV)/\RelV p.2 q.2.2
theorem KT.val(r:KT H s x)(k:gV bR):RelO (cR s k) ((Vi x k).map (·.2)):=by
 induction r with
 |nil=>exact Qa
 |@cons p q P Q h t i=>
  obtain⟨a,_,c⟩:=h;by_cases e:p.1=k
  ·have E:q.1=k:=a.symm.trans e;have b:Vi (q::Q) k=B' q.2:=by simp[Vi,Pk,E]
   rw[cU e,b];exact c
  have E:¬q.1=k:=λz=>e<|a.trans z;have b:Vi (q::Q) k=Vi Q k:=by simp[Vi,Pk,E]
  rw[cV e,b];exact i
theorem KT.repl(r:KT H s x)(k:gV bR)(c:RelV y u):
  KT H (s.map λv=>if v.1=k then(v.1,y)else v) (x.map<|putAt k u):=by
 induction r with
 |nil=>exact .nil
 |@cons p q P Q h t i=>
  rw[NW,NW];refine .cons ?_ i;obtain⟨a,b,d⟩:=h;unfold putAt;by_cases e:p.1=k
  ·rw[Nt e,Nt<|a.symm.trans e];exact⟨a,b,c⟩
  rw[Np e,Np λz=>e<|a.trans z];exact⟨a,b,d⟩
theorem KT.put(r:KT H s x)(k:gV bR)(h:H b=B' (.tup<|k.map kV))(a:RelV y u):
  KT H (dg s k y) (lD x k b u):=by
 have e:(s.any λv=>decide (v.1=k))=(Vi x k).isSome:=by
  rw[ig,(r.val k).isSome_eq,Vo]
 unfold dg lD;rw[e];by_cases q:(Vi x k).isSome=MX
 ·rw[Nt q,Nt q];exact r.repl k a
 rw[Np q,Np q];exact Paired.snoc r ⟨rfl,h,a⟩
theorem KT.keeps(r:KT H k x)(h:∀b y,H b=B' (.tup y)->a b=B' (.tup y)):KT a k x:=
 Paired.mapP r λ_ _ z=>⟨z.1,h _ _ z.2.1,z.2.2⟩
theorem Gc(ok:HOk P w H h)(e:Rd H a u):ObjOk P w H h a u:=e.ok ok
theorem li(ok:HOk P w H h)(e:Rd H a (.dK k)):k.length<=sizeLine/\(a == P4)=MW/\∃v,KV k v/\h.DictOf (bh P w) a v:=
 show ObjOk P w H h a (.dK k)from Gc ok e
theorem Gd(ok:HOk P w H h)(e:H a=B' (.dK k)):k.length<=sizeLine/\(a == P4)=MW/\∃v,KV k v/\h.DictOf (bh P w) a v:=li ok<|.inl e
theorem i9(ok:HOk P w H h)(e:H a=B' (.tup<|k.map kV)):(UJ<|bh P w).is h k a:=by
 obtain⟨_,O,r,o,b,c,n,d⟩:=(show ObjOk P w H h a (.tup<|k.map kV)from ok a _ e);exact⟨o,O.toArray,n,b,c,d,by simpa using pj r⟩
theorem ln(ok:HOk P w H h)(e:Rd H a (.dT k)):k.length<=sizeLine/\(a == P4)=MW/\
  ∃X,KT H k X/\h.DictOfH (UJ<|bh P w) a X:=by
 obtain⟨z,y,X,r,o,E,d,f,g,i,j,n⟩:=(show ObjOk P w H h a (.dT k)from Gc ok e);refine⟨z,y,X,r,o,E,d,f,g,i,j,λx b=>?_,n⟩;have A:∀{l:gV (gV bR×V)} {m:gV (gV bR×M0×J')},KT H l m->∀x∈m,(UJ<|bh P w).is h x.1 x.2.1:=by
  intro l m q
  induction q with
  |nil=>intro x b;exact nomatch b
  |@cons p q s Q c t I=>
   intro x b;obtain e|b:=Nz.mp b
   ·subst e;exact i9 ok (by rw[<-c.1];exact c.2.1)
   exact I x b
 exact A r x b
theorem J7(ok:HOk P w H h)(e:H a=B' (.dT k)):k.length<=sizeLine/\(a == P4)=MW/\
  ∃x,KT H k x/\h.DictOfH (UJ<|bh P w) a x:=ln ok<|.inl e
def DGet(H:Hp)(a:M0)(y:V)(r:MZ V):Prop:=
 (∃s k,Rd H a (.dK s)/\y=kV k/\r=cR s k)\/∃s k b,Rd H a (.dT s)/\y=.ref b/\H b=B' (.tup<|k.map kV)/\r=cR s k
def DPut(H:Hp)(a:M0)(y v:V)(h:Hp):Prop:=
 (∃s k,H a=B' (.dK s)/\y=kV k/\s.length<sizeLine/\h=upd H a (.dK<|dg s k v))\/
 ∃s k b,H a=B' (.dT s)/\y=.ref b/\H b=B' (.tup<|k.map kV)/\s.length<sizeLine/\h=upd H a (.dT<|dg s k v)
theorem DGet.k{H:Hp}{a:M0}{s:gV (bR×V)}{k:bR}(e:H a=B' (.dK s)):DGet H a (kV k) (cR s k):=.inl ⟨s,k,.inl e,rfl,rfl⟩
theorem DGet.t{H:Hp}{a b:M0}{s:gV (gV bR×V)}{k:gV bR}(e:H a=B' (.dT s))(E:H b=B' (.tup<|k.map kV)):DGet H a (.ref b) (cR s k):=.inr ⟨s,k,b,.inl e,rfl,E,rfl⟩
theorem DPut.k{H:Hp}{a:M0}{s:gV (bR×V)}{k:bR}{v:V}(e:H a=B' (.dK s))(h:s.length<sizeLine):DPut H a (kV k) v (upd H a<|.dK<|dg s k v):=.inl ⟨s,k,e,rfl,h,rfl⟩
theorem DPut.t{H:Hp}{a b:M0}{s:gV (gV bR×V)}{k:gV bR}{v:V}(e:H a=B' (.dT s))(E:H b=B' (.tup<|k.map kV))(h:s.length<sizeLine):
  DPut H a (.ref b) v (upd H a<|.dT<|dg s k v):=.inr ⟨s,k,b,e,rfl,E,h,rfl⟩
theorem Inv.big(I:Inv X M a H s):P4<s.heap.objs.size:=by
 have h:NU<s.heap.objs.size:=(I.mod.glob.keeps I.bk).lt;exact UH (by decide) h
theorem yo(o:A.units+1<QT)(I:Inv X M q H s)(g:DGet H a y (B' v))(m:RelV y u)(h:∀w n,Inv X M q H n->RelV v w->Q w n):
  wpAny (ND X.prog X.w) A (Uz (.ref a) u) Q E s:=by
 obtain⟨c,k,e,d,l⟩|⟨c,k,b,e,d,t,l⟩:=g
 ·subst d;obtain⟨z,x,B,f,D⟩:=li I.hok e;obtain⟨w,i,r⟩:=RelO.some_of (v:=v) (o:=Vf B k) (by rw[l];exact f.val k);exact wpAny_getItem_of (jt m) D.mapOf i<|h w _ (I.tok _) r
 subst d;cases(show u=N9 b from m);obtain⟨z,x,C,f,D⟩:=ln I.hok e;obtain⟨w,i,r⟩:=RelO.some_of (v:=v) (o:=(Vi C k).map (·.2)) (by rw[l];exact f.val k);obtain⟨p,F,j⟩:=O5.mp i;refine wpAny_getItem_heap (QL o) (i9 I.hok t) D F ?_;rw[j];exact h w _ (I.tok _) r
theorem LX(j:A.units+1<QT)(I:Inv X M m H s)(g:DGet H a y o)(r:RelV y u)(h:∀i,Inv X M m H i->Q (.bool o.isSome) i):
  wpAny (ND X.prog X.w) A (ON .In u<|.ref a) Q E s:=by
 obtain⟨c,k,e,d,l⟩|⟨c,k,b,e,d,n,l⟩:=g
 ·subst d;obtain⟨z,f,p,v,D⟩:=li I.hok e;refine wpAny_in_of (jt r) f D.mapOf ?_;rw[<-(v.val k).isSome_eq,<-l];exact h _<|I.tok _
 subst d;cases(show u=N9 b from r);obtain⟨z,f,x,v,D⟩:=ln I.hok e;refine wpAny_in_heap (QL j) (i9 I.hok n) f D ?_;have q:=(v.val k).isSome_eq;rw[Vo]at q;rw[<-q,<-l];exact h _<|I.tok _
theorem Ek(j:A.units+1<QT)(I:Inv X M m H s)(g:DGet H a y o)(r:RelV y u)(h:∀i,Inv X M m H i->Q (.bool (!o.isSome)) i):
  wpAny (ND X.prog X.w) A (ON .NotIn u<|.ref a) Q E s:=by
 obtain⟨c,k,e,d,l⟩|⟨c,k,b,e,d,n,l⟩:=g
 ·subst d;obtain⟨z,f,p,v,D⟩:=li I.hok e;refine wpAny_notIn_of (jt r) f D.mapOf ?_;rw[<-(v.val k).isSome_eq,<-l];exact h _<|I.tok _
 subst d;cases(show u=N9 b from r);obtain⟨z,f,x,v,D⟩:=ln I.hok e;refine wpAny_notIn_heap (QL j) (i9 I.hok n) f D ?_;have q:=(v.val k).isSome_eq;rw[Vo]at q;rw[<-q,<-l];exact h _<|I.tok _
theorem ju{t':Nat}(I:Inv X M c H s)(m:JB (H a))(h:QC a s.heap h')(e:∃q,h'.get? a=B' q)(n:ObjOk X.prog X.w (upd H a o) h' a o):
  Inv X M c (upd H a o) {s with heap:=h',toks:=t'}:=
 I.write (x:=a) (e:=a) m (.inl rfl) (λb q d z=>(h.2 b d).trans z) e n
theorem qJ{H:Hp}(z:k.length<=sizeLine)(h:(a == P4)=MW)(b:KV k v)(d:h'.DictOf (bh P w) a v):
  ObjOk P w H h' a (.dK k):=⟨z,h,v,b,d⟩
theorem yp(L:A.units+1<QT)(I:Inv X M N H s)(g:DPut H a y v O)(x:RelV y u)(B:RelV v r)(h:∀C,Inv X M N O C->Q () C):
  wpAny (ND X.prog X.w) A (setItem (.ref a) u r) Q E s:=by
 obtain⟨d,k,e,j,l,m⟩|⟨d,k,b,e,j,F,l,m⟩:=g
 ·subst j m;obtain⟨z,n,P,f,o⟩:=Gd I.hok e;have p:P.length<=sizeLine:=by rw[<-f.length];exact z
  have t:(dg d k v).length<=sizeLine:=by have:=dY d k v;lia
  refine wpAny_setItem_pairs (hsz:=p) (jt x) o λG D w=>h _ ?_;have T:∃q,G.get? a=B' q:=let ⟨q,_,_,i,_⟩:=D;⟨q,i⟩
  exact ju I (by rw[e];exact Qa) w T<|qJ t n (f.put k B) D
 subst j m;cases(show u=N9 b from x);obtain⟨z,n,U,f,o⟩:=J7 I.hok e;have p:U.length<=sizeLine:=by rw[<-Paired.length f];exact z
 have t:(dg d k v).length<=sizeLine:=by have:=dY d k v;lia
 refine wpAny_setItem_heap (hsz:=p) (QL L) (i9 I.hok F) o λG D w=>h _ ?_;obtain⟨q,W,Y,i,Z,h3,h4,_,h5⟩:=D;refine ju I (by rw[e];exact Qa) w ⟨q,i⟩ ⟨t,n,_,(f.put k F B).keeps λc ys J=>?_,q,W,Y,i,Z,h3,h4,h5⟩;rw[aj<|b_ J e (λz=>nomatch z)];exact J
def J8(i:OJ):Prop:=∀o I,WY i MW o I=operate [o,I] (Uz o I)
theorem El{p:Nm}{w:NF}{A:Ou}{E:J'->M3->Prop}{s:M3}{e:Env}{v L:OJ}{P:Pos}{T id:QJ}{Q:J'->M3->Prop}
  (l:pw (.type T) "__getitem__"=pure (B'<|.builtin id)) (g:J8 L)
  (h:wpAny (ND p w) A (Pq v e) (λo b=>wpAny (ND p w) A (Pq L e) (λi a=>a.TypeIs o T/\wpAny (ND p w) A (Uz o i) Q E a) E b) E s):
  wpAny (ND p w) A (Pq (.Subscript v L P) e) Q E s:=by
 refine q7<|OS h (λo b d=>OS d (λi a H=>?_) λ_ _ x=>x) λ_ _ x=>x;obtain⟨hT,H⟩:=H;unfold XS;refine G' ?_;rw[getitemInPython_of_ne hT.not_modules];refine G'<|Wx hT l ?_;have W:wpAny (ND p w) A (WY L MW o i) (λr c=>wpAny (ND p w) A (letTemporaryGo v o r >>=λ_=>pure r) Q E c) E a:=by
  rw[g o i];exact wpAny_operating<|OS H (λr c f=>G'<|wpAny_letTemporaryGo<|M9 f) λ_ _ x=>x
 first
  |exact M9<|G' W
  |exact G'<|M9<|G' W
  |exact G' W
theorem rX(I:Inv X M f H s)(g:DGet H a y o):s.TypeIs (.ref a) "dict":=by
 obtain⟨c,k,e,_,_⟩|⟨c,k,b,e,_,_,_⟩:=g
 ·obtain⟨_,_,v,_,d⟩:=li I.hok e;exact d.typeIs
 obtain⟨_,_,x,_,d⟩:=ln I.hok e;exact d.typeIs
def J9(t T:TE):TE:=λb H Q=>t b H λx c=>T b c λy h=>∃a v,x=.ref a/\DGet h a y (B' v)/\Q v h
def LY(t T:TE):TE:=λb H Q=>t b H λy c=>T b c λx h=>∃a o,x=.ref a/\DGet h a y o/\Q (.bl o.isSome) h
def Em(t T:TE):TE:=λb H Q=>t b H λy c=>T b c λx h=>∃a o,x=.ref a/\DGet h a y o/\Q (.bl (!o.isSome)) h
def J_(t T c:TE):TS:=λD b H=>c b H λv d=>t b d λx e=>T b e λy f=>∃a h,x=.ref a/\DPut f a y v h/\D.nx b h
theorem cg(d:X.A.units+1<QT)(e:PE X o t)(f:PE X i T)(j:J8 i):PE X (.Subscript o i p) (J9 t T):=by
 intro M s b H Q I h;refine El PySem.F.slot_dict_getitem.lookup j<|bX (e M s b H _ I h) λu k ⟨x,l,m,n,q⟩=>bX (f M k b l _ m q) λC D ⟨y,w,c,z,a,v,E,g,A⟩=>?_;subst E;obtain rfl:u=N9 a:=n;exact⟨rX c g,yo d c g z λW F B r=>⟨v,w,B,r,A⟩⟩
theorem HR(c:X.A.units+1<QT)(d:PE X i t)(e:PE X o T):PC X .In i o (LY t T):=by
 intro M s b H Q I h;refine bX (d M s b H _ I h) λw f ⟨y,j,k,r,q⟩=>bX (e M f b j _ k q) λu z ⟨x,l,m,n,a,O,E,g,p⟩=>?_;subst E;obtain rfl:u=N9 a:=n;exact LX c m g r λA v=>⟨.bl O.isSome,l,v,rfl,p⟩
theorem yq(c:X.A.units+1<QT)(d:PE X i t)(e:PE X o T):PC X .NotIn i o (Em t T):=by
 intro M s b H Q I h;refine bX (d M s b H _ I h) λw f ⟨y,j,k,r,q⟩=>bX (e M f b j _ k q) λu z ⟨x,l,m,n,a,O,E,g,p⟩=>?_;subst E;obtain rfl:u=N9 a:=n;exact Ek c m g r λA v=>⟨.bl (!O.isSome),l,v,rfl,p⟩
theorem qK(c:X.A.units+1<QT)(d:PE X o t)(f:PE X i T)(j:PE X e k)(l:UK e (B'<|.Subscript o i U) p.line X.env=pure MW):
  PS X (.Assign [.Subscript o i U] e p) (J_ t T k):=by
 intro M s b H D I h;refine wpAny_Assign_Subscript (bX (j M s b H _ I h) λr m ⟨v,n,q,w,Q⟩=>bX (d M m b n _ q Q) λu z ⟨x,A,B,C,E⟩=>bX (f M z b A _ B E) λP W ⟨y,Y,F,G,a,J,L,g,N⟩=>?_) l;subst L;obtain rfl:u=N9 a:=C;exact yp c F g G w λZ O=>⟨b,J,O,N⟩
theorem rY(h:N_)(b:P4<h.objs.size):ObjOk P w H (h.push {cls:=.type "dict",data:=.dict #[]}) h.objs.size (.dK []):=
 ⟨NA _,OR.mpr<|OV<|NK b,[],.nil,ZP h⟩
theorem zU(h:N_)(b:P4<h.objs.size):ObjOk P w H (h.push {cls:=.type "dict",data:=.dict #[]}) h.objs.size (.dT []):=
 ⟨NA _,OR.mpr<|OV<|NK b,[],.nil,_,#[],0,NL _ rfl,⟨rfl,rfl,rfl⟩,rfl,rfl,RU⟩
def HS:TE:=λ_ H Q=>∀p,H p=M5->Q (.ref p) (upd H p<|.dK [])
def HU:TE:=λ_ H Q=>∀p,H p=M5->Q (.ref p) (upd H p<|.dT [])
theorem zX:PE X (.Dict [] [] p) HS:=λM s a H Q I h=>
 Y_ ⟨.ref s.heap.objs.size,_,I.laid (a:=s.heap.objs.size) (o:=.dK []) (t':=s.toks) (λ_ _ q=>Nb _ q) (Na _)<|rY s.heap I.big,rfl,h _<|I.hok.fresh<|Na _⟩
theorem mR:PE X (.Dict [] [] p) HU:=λM s a H Q I h=>
 Y_ ⟨.ref s.heap.objs.size,_,I.laid (a:=s.heap.objs.size) (o:=.dT []) (t':=s.toks) (λ_ _ q=>Nb _ q) (Na _)<|zU s.heap I.big,rfl,h _<|I.hok.fresh<|Na _⟩
def uv:gV (TE×TE)->St->Hp->(gV (V×V)->Hp->Prop)->Prop
 |[],_,H,Q=>Q [] H
 |(t,T)::r,a,H,Q=>t a H λx h=>T a h λy b=>uv r a b λp c=>Q ((x,y)::p) c
abbrev VV:gV (V×V)->gV (J'×J')->Prop:=Paired λp q=>RelV p.1 q.1/\RelV p.2 q.2
def Lp(X:Cx)(p:Pos)(U:gV (MZ OJ))(Z:gV OJ)(t:gV (TE×TE)):Prop:=
 ∀(M:gV (M0×Obj)) (s:M3) (a:St) (H:Hp) (Q:gV (V×V)->Hp->Prop),Inv X M a H s->uv t a H Q->
  wpAny (ND X.prog X.w) X.A (evalPairs<|pairTrees U Z X.env p) (λv b=>∃P h,Inv X M a h b/\VV P v/\Q P h) X.xe s
theorem vV:Lp X p [] [] []:=λM s a H Q I h=>pairTrees_nil_walk ⟨[],H,I,.nil,h⟩
theorem mS(b:PE X k T)(c:PE X v d)(r:Lp X p e f t):
  Lp X p (B' k::e) (v::f) ((T,d)::t):=λM s a H Q I h=>
 pairTrees_cons_walk (bX (b M s a H _ I h) λu g ⟨x,i,j,l,q⟩=>bX (c M g a i _ j q) λW m ⟨y,n,o,w,z⟩=>
  bX (r M m a n _ o z) λE F ⟨P,A,B,C,D⟩=>⟨(x,y)::P,A,B,.cons ⟨l,w⟩ C,D⟩)
noncomputable def gv(k m:gV (bR×V)):gV (bR×V):=m.foldl (λQ v=>dg Q v.1 v.2) k
theorem KV.merge:∀{m:gV (bR×V)} {s:gV (bR×J')} {k:gV (bR×V)} {v:gV (bR×J')},KV m s->KV k v->KV (gv k m) (XZ v s):=by
 intro m s k v r;unfold KV at r
 induction r generalizing k v with
 |nil=>intro q;exact q
 |@cons p q P Q h t i=>
  intro a;have e:KV (dg k p.1 p.2) (stored v q.1 q.2):=by
   have:=a.put p.1 h.2;rw[<-h.1];exact this
  exact i e
theorem iT:∀m k,(gv k m).length<=k.length+m.length
 |[],k=>by show k.length<=k.length+0;lia
 |p::r,k=>by
  have h:=iT r<|dg k p.1 p.2;have H:=dY k p.1 p.2;show(gv (dg k p.1 p.2) r).length<=_
  rw[NC];lia
theorem mT:∀{k:gV (bR×V)} {W:gV (J'×J')},VV (k.map λv=>(kV v.1,v.2)) W->∃s,Carries (bh P w) W s/\KV k s
 |[],_,r=>by rw[Rl]at r;cases r;exact⟨[],Qa,.nil⟩
 |p::k,_,r=>by
  rw[NW]at r;cases r with
  |@cons a b A d h t=>
   obtain⟨s,c,q⟩:=mT (P:=P) (w:=w) t;obtain⟨e,B⟩:=b;exact⟨(p.1,B)::s,⟨jt h.1,rfl,c⟩,.cons ⟨rfl,h.2⟩ q⟩
def rZ(t:gV (TE×TE)):TE:=λa H Q=>∀p,H p=M5->uv t a (upd H p<|.dK []) λP h=>h p=B' (.dK [])/\∃k:gV (bR×V),P=k.map (λv=>(kV v.1,v.2))/\k.length<=15/\Q (.ref p) (upd h p<|.dK<|gv [] k)
theorem vW(h:Lp X p U Z t)(u:U.all (·.isSome)=MX)(l:U.length=Z.length)(b:U≠[])
  (a:U.length<=15):PE X (.Dict U Z p) (rZ t):=by
 intro M s f H Q I q;have n:=I.hok.fresh<|Na s.heap.objs.size;have g:=I.laid (a:=s.heap.objs.size) (o:=.dK []) (h':=s.heap.push {cls:=.type "dict",data:=.dict #[]}) (t':=s.toks) (λ_ _ q=>Nb _ q) (Na _)<|rY s.heap I.big;refine wpAny_Dict_walk (knd:=bh X.prog X.w) u l b a<|bX (h M _ f _ _ g<|q _ n) λW J ⟨P,L,i,v,e,k,E,N,j⟩=>?_;subst E;obtain⟨r,c,m⟩:=mT (P:=X.prog) (w:=X.w) v;obtain⟨z,o,w,x,D⟩:=Gd i.hok e;cases x;refine⟨r,c,D,λy d A=>⟨.ref s.heap.objs.size,_,?_,rfl,j⟩⟩;have B:(gv [] k).length<=sizeLine:=by
  have C:=iT k [];rw[Sw]at C;rw[O7];lia
 have F:∃q,y.get? s.heap.objs.size=B' q:=let ⟨q,_,_,G,_⟩:=d;⟨q,G⟩
 exact ju i (by rw[e];exact Qa) A F<|qJ B o (m.merge .nil) d
structure M2 (X:Cx)(o:OJ)(m:Str)(Te:Pos)(e f:OJ)(UO:Pos):Prop where
 base:Sj o m X.env (Pq o X.env)=Pq o X.env
 few:((Qw UO<|NS [e,f] X.env).all (λx=>!x.1)&&(VS UO<|SM [] X.env).all (λx=>x.1.isSome)
  &&decide (([e,f]:gV OJ).length+([]:gV lA).length+(if([]:gV lA).isEmpty then 0 else 1)<30))=MX
 line:(Te.endLine == UO.line)=MX
 trees:Qw UO (NS [e,f] X.env)=[(MW,Pq e X.env),(MW,Pq f X.env)]
def MB(H:Hp)(a:M0):Prop:=(∃k,Rd H a<|.dK k)\/∃k,Rd H a<|.dT k
theorem HV(I:Inv X M g H s)(d:MB H a):
  s.TypeIs (.ref a) "dict"/\(∀b,N9 a=.ref b->∃o,s.heap.get? b=B' o/\o.dict=M5)/\(a == P4)=false:=by
 obtain⟨k,e⟩|⟨k,e⟩:=d
 ·obtain⟨_,h,v,_,D⟩:=li I.hok e;refine⟨D.typeIs,λb q=>?_,h⟩;cases q;obtain⟨o,_,_,c,f,_⟩:=D;exact⟨o,c,f.2.1⟩
 obtain⟨_,h,x,_,D⟩:=ln I.hok e;refine⟨D.typeIs,λb q=>?_,h⟩;cases q;obtain⟨o,_,_,c,f,_⟩:=D;exact⟨o,c,f.2.1⟩
end L2
namespace Att
open PySem PySem.W PySem.Calls PyProof.Rows
theorem lM:∀N v,WellAll P h v (N.map rz)->Q4 v N:=by
 intro N
 induction N with
 |nil=>
  intro v w;rw[Rl]at w;cases w;exact .nil
 |cons n N i=>
  intro v w;rw[NW]at w;cases w with
  |cons a b=>
   cases a;exact .cons _ _<|i _ b
theorem yr{l:V5}{n:Nat}(j:l.most=B' n){P:lB}{h:N_}{A:gV WData}{b:gV J'}
  (c:l.row.toRowW.claim.pre A=MX) (f:WellAll P h b A):
  ∃a v N,b=[N9 a]/\A=[WData.list<|N.map rz]/\h.get? a=B' {cls:=.type "list",data:=.seq v.toArray}/\Q4 v N/\N.length<=n:=by
 have g:WShape.hasAll [] A [.list .int]=true:=(pre_splitW c).1;have i:l.pre.holds [] {args:=A}=true:=(pre_splitW c).2;obtain⟨d,r,rfl,k,m⟩:=hasAllW_cons g;obtain rfl:=hasAllW_nil m;obtain⟨x,rfl,o⟩:=hasW_list k;obtain⟨N,rfl⟩:=items_int o;have p:N.length<=n:=by
  unfold OpenLaw.pre at i;have H:(WTm.not<|.lt (.lit<|.int (n:Int))<|.len<|.arg 0).holds [] {args:=[.list<|N.map .int]}=true:=by
   have H:=(holds_andW i).1;rw[j]at H;exact H
  have e:=condW_of H<|w_not<|w_lt w_lit<|w_len_list<|w_arg rfl;rw[MY]at e;refine Nat.le_of_not_lt λq=>?_;have Q:(n:Int)<((N.length:Nat):Int):=by lia
  first
   |(rw[Ng Q]at e;exact absurd e<|by decide)
   |(simp at e;lia)
 cases f with
 |cons w W=>
  cases W;cases w with
  |list s U=>exact⟨_,_,N,rfl,rfl,s,lM N _ U,p⟩
theorem yt(l:V5)(a:gV WData):l.row.toRowW.claim.post a (.bool MX) a=true:=
 postW_of (r:=l.row.toRowW) (X:=(MX == MX))
  (show td [] (.bool MX) .bool=MX by first|rfl|decide|simp[td,WShape.arms,WShape.armsAll])
  (show(WTm.eq .res<|.lit<|.bool MX).value [] {args:=a,res:=B'<|.bool MX,after:=a}=B' (.bool<|MX == MX)from w_eq_bool (w_res rfl) w_lit) rfl
theorem attach_call{l:V5}{n:Nat}{q:Nm}{loose:gV Str}{XP:(Str->MZ J')->N_->Prop}{y:NF->N_->Prop}{d:DefRec}
  (x:l.most=B' n) (h:d.params.defaults=[])
  (call:∀w b s m M F o p c D a v N,
   Ground q loose [] XP w b m M s.heap->y w s.heap->
   s.heap.get? F=B' o->o.data=.func (docDef d.name d.params d.body d.scope p c D)->s.heap.CodeRec c d.name->m d.name=B' (.ref F)->
   s.heap.get? a=B' {cls:=.type "list",data:=.seq v.toArray}->Q4 v N->N.length<=n->s.gens=#[]->
   codeAny (ND l.prog w) Xv (.call (.ref F) ⟨[.ref a],[]⟩) (λr e=>r=.ok (.ret<|.bool MX)/\OldK s.heap e.heap/\e.os=s.os/\UF e.gens) s):
  Ze q loose XP y l.row.toRowW d [] (λf v=>X3 f v):=by
 intro w b s m M G Y F o p c D z kV B C H k g E t I Z A u J i L;obtain rfl:z=.none:=Dflts.none k h;obtain rfl:kV=.none:=Dflts.noKw k;obtain⟨a,v,N,rfl,rfl,T,j,P⟩:=yr x A i;refine enter_call<|RZ (call w b s m M F o p c D a v N G Y B (fd_plain C) H g T j P E) λr e O=>?_;obtain⟨rfl,Q,U,W⟩:=O;exact⟨.inl ⟨.bool MX,.bool MX,[],rfl,λ_=>rfl,.bool MX,yt l _,λ_=>⟨RG,λ_ X=>(nomatch X)⟩⟩,Q,U,W⟩
end Att
namespace L2
open PySem PySem.Spec PyProof.Rows
theorem iG:∀{v:gV J'} {N:gV Int},Q4 v N->Vals (N.map V.int) v
 |_,_,.nil=>.nil
 |_,_,.cons n t h=>.cons ⟨t,rfl⟩<|iG h
def HW(H:Hp):Prop:=∀b,H b=M5\/∃o x,H b=B' (.frz o<|.lst x)
theorem zY{P:Nm}{w:NF}{K:K'}{M I:Str->MZ J'}{CX:vS}{k:Nat}{J a:M0}{fd:Ny}{x:Str}{sp:Sp}{c:M3}{i:gV J'}{j:gV Int}
  (KX:K.In c.heap) (l:c.heap.Ns NU M) (f:c.heap.Ns oe I) (L:∀x:Str,x≠"__name__"->I x=SZ x) (O:c.heap.NoLimit) (hg:c.gens=#[])
  (G:c.heap.get? a=B' {cls:=.type "list",data:=.seq i.toArray}) (hi:Q4 i j) (hl:j.length<=sizeLine) (hr:Room k Xv)
  (F:∀B:N_,K.In B->B.Ns NU M->aP P w K M B CX k J fd [x] sp) (Q:∀(s:M3) (u:J'),YO s fd ⟨[u],[]⟩ [(x,u)])
  (T:∀H:Hp,HW H->SqL K H a (j.map V.int)->sp [.ref a] H (λv _=>v=.bl MX) λ_ _ _=>False)
  (X:∀H e g,CX [] H c (λ_ _ _=>False) e g->False):
  codeAny (ND P w) Xv (.call (.ref J) ⟨[.ref a],[]⟩) (λr g=>r=.ok (.ret<|.bool MX)/\OldK c.heap g.heap/\g.os=c.os/\UF g.gens) c:=by
 have rv:=iG hi;have U:=hi.length;have A:∀H:Hp,HW H->SqL K H a (j.map V.int)->HOk P w H c.heap->(∀b,H b≠M5->b=a)->(H a≠M5->K.lookup a=M5)->
   codeAny (ND P w) Xv (.call (.ref J) ⟨[.ref a],[]⟩) (λr g=>r=.ok (.ret<|.bool MX)/\OldK c.heap g.heap/\g.os=c.os/\UF g.gens) c:=by
  intro H hO hS p hA hK;have t:∀{b:M0} {o:Obj},c.heap.get? b=B' o->H b=M5->(qA c.heap H).get? b=B' o:=λe n=>zB e n;have W:∀{b:M0} {o:Obj} {E:Oh DictEntry} {y:Nat},c.heap.get? b=B' o->o.data=.dict E y->H b=none:=λ{b o E y} e d=>by
   cases q:H b with
   |none=>rfl
   |some u=>
    have Y:b=a:=hA b (by rw[q];simp);subst Y;rw[G]at e;cases e;have d':Data.seq i.toArray _=Data.dict E y:=d;cases d'
  have N:∀{b:M0} {m:Str->MZ J'},c.heap.Ns b m->(qA c.heap H).Ns b m:=λ{b m} ⟨o,E,y,e,d,r⟩=>⟨o,E,y,t e<|W e d,d,r⟩;have C:K.In (qA c.heap H):=λb o e=>t (KX b o e) (by
   cases q:H b with
   |none=>rfl
   |some u=>
    have Y:b=a:=hA b (by rw[q];simp);subst Y;rw[hK<|by rw[q];simp]at e;cases e)
  have hM:Mod K M (qA c.heap H):=⟨C,N l,⟨I,N f,L⟩,let ⟨mc,h1,h2⟩:=O;⟨mc,N h1,h2⟩⟩;have e0:Env0 P w K M (qA c.heap H) Xv [] c H:=⟨rfl,hM,λb o e=>DO e,S5<|yd _ _,trivial,λb f=>absurd (show b∈([]:gV M0)from f) (by simp),p,.of_eq hg⟩;refine RZ ((F _ C<|N l).run Xv [] c H ⟨[.ref a],[]⟩ [.ref a] [.ref a] _ _ hr e0 (Q c<|.ref a) (.cons rfl .nil)<|T H hO hS) λr g h=>?_;cases r with
  |error e=>exact(X H e g h).elim
  |ok fl=>
   cases fl with
   |next=>exact P7 h
   |brk=>exact P7 h
   |cont=>exact P7 h
   |ret u=>
    obtain⟨v,H',os,D,un,ab,r',q⟩:=h;have q':v=.bl true:=q;subst q';obtain rfl:u=X6 true:=r';refine⟨rfl,OldK.of_keep λb o e=>?_,os,D⟩;cases q:H b with
    |none=>exact un.keep b o e q (by intro z;exact absurd (show b∈([]:gV M0)from z)<|by simp) (by simp)
    |some u=>
     obtain z|⟨ob,xs,z⟩:=hO b
     ·rw[q]at z;cases z
     have z2:=un.frzs b ob _ z;obtain⟨e1,_⟩:=p b _ z;obtain⟨e2,_⟩:=ab b _ z2;rw[e]at e1;cases e1;exact e2
 cases hk:K.lookup a with
 |some o=>
  have e:=KX a o hk;rw[G]at e;cases e;refine A (λ_=>M5) (λ_=>.inl rfl) (.inr ⟨_,i.toArray,_,hk,rfl,rfl,rfl,by rw[Nq,U];exact hl,by simpa using rv⟩) (λb u z=>by have Z:(M5:MZ HO)=B' u:=z;cases Z) (λb z=>absurd rfl z) λz=>absurd rfl z
 |none=>
  refine A (λb=>if b=a then B' (.frz {cls:=.type "list",data:=.seq i.toArray}<|.lst<|j.map V.int)else M5) (λb=>?_) (.inl<|.inr ⟨{cls:=.type "list",data:=.seq i.toArray},Nt rfl⟩) (λb u z=>?_) (λb z=>?_) λ_=>hk
  ·by_cases f:b=a
   ·exact .inr ⟨_,_,Nt f⟩
   exact .inl<|Np f
  ·by_cases f:b=a
   ·have Z:=(Nt f).symm.trans z;cases Z;subst f;exact⟨G,by rw[MY];exact hl,i,_,rv,G⟩
   have Z:=(Np f).symm.trans z;cases Z
  by_cases f:b=a
  ·exact f
  exact absurd (Np f) z
theorem walk_of{l:V5}{n k:Nat}{q:Nm}{loose:gV Str}{XP:(Str->MZ J')->N_->Prop}{P:NF->N_->Prop}{d:DefRec}{K:lB->K'}{C:NF->vS}{z:NF->Sp}{x:Str}
  (J:l.most=B' n) (i:n<=sizeLine) (j:d.params.defaults=[]) (L:Room k Xv)
  (M:∀(w:NF) (h:N_),P w h->(K w.params).In h)
  (F:∀(w:NF) (m:Str->MZ J') (g:M0) (h:N_),(K w.params).In h->h.Ns NU m->m d.name=B' (.ref g)->
   ∃p:Ny,(∀(s:M3) (u:J'),YO s p ⟨[u],[]⟩ [(x,u)])/\
    ∀b:N_,(K w.params).In b->b.Ns NU m->aP l.prog w (K w.params) m b (C w) k g p [x] (z w))
  (r:∀(w:NF) (H:Hp) (a:M0) (N:gV Int),N.length<=n->HW H->SqL (K w.params) H a (N.map V.int)->z w [.ref a] H (λv _=>v=.bl MX) λ_ _ _=>False)
  (X:∀(w:NF) (H:Hp) (s:M3) (e:J') (t:M3),C w [] H s (λ_ _ _=>False) e t->False):
  Ze q loose XP P l.row.toRowW d [] (λf B=>X3 f B):=by
 refine Att.attach_call J j λw E c m mb g o pm cd O a B N G Y ho hd Q y A D I T=>?_;have KX:=M w _ Y;obtain⟨p,U,W⟩:=F w m g _ KX G.T.g y;exact zY KX G.T.g G.T.b G.T.builtins G.T.nolimit T A D (Oz I i) L W U (λH Z hS=>r w H a N I Z hS) λH e t=>X w H c e t
noncomputable def fh(s:OZ)(j:Nat):OZ:=match s with
 |.ClassDef _ _ _ b _ _ _ _ _ _ _=>b.getD j<|.Pass ⟨0,0,0,0⟩
 |_=>.Pass ⟨0,0,0,0⟩
noncomputable def iH(s:OZ):Arguments:=match s with
 |.FunctionDef _ a _ _ _ _ _ _ _ _=>a
 |_=>{posonlyargs:=[],args:=[],vararg:=M5,kwonlyargs:=[],kw_defaults:=[],kwarg:=M5,defaults:=[]}
noncomputable def fi(s:OZ):gV OZ:=match s with
 |.FunctionDef _ _ b _ _ _ _ _ _ _=>b
 |_=>[]
noncomputable def ah(s:OZ):T5:=match s with
 |.FunctionDef _ _ _ _ _ _ c _ _ _=>c
 |_=>{kind:=.function,names:=[],isGenerator:=MW,isCoroutine:=MW}
abbrev cr:vS:=λ_ _ _ _ _ _=>False
abbrev E0:XK:=λ_ _ _=>False
theorem vX:iZ cr X E0:=λ_ _ _ _ _ _ _ h=>h.elim
structure Fun (K:K')(x qual:Str)(st:OZ)(f:M0)(fd:Ny):Prop where
 ex:∃(oc:J') (od:MZ M0) (kV doc pm:J') (an:MZ M0) (Qu ct:J') (osl:Oh (MZ J')),
  fd=Rg x qual (iH st) (fi st) (ah st) .none kV doc pm an Qu ct/\K.lookup f=B' ⟨oc,od,.func fd,osl⟩/\W3 K Qu qual=MX
 kp:Q8 K (.ref f)=MX
section
variable {K:K'}
theorem Fun.ok{P:Nm}{w:NF}{m:Str->MZ J'}{b:N_}{x l:Str}{st:OZ}{f:M0}{e:Ny}{N p:gV Str}{k:Nat}{a:Sp}(F:Fun K x l st f e)(S:al N p (ah st))(len:∀v H Q E,a v H Q E->v.length=p.length)
  (I:∀u A o s H v Q E,Room k (A.deeper<|O6 l (ah st) s.heap.objs.size f u)->a v H Q E->
   ∃t,PSs (jn cr P w K m b N l (ah st) f u A o s H E).nox (fi st) t/\t {nx:=λ_ g=>Q .non g,rt:=Q} (start N v) H):aP P w K m b cr (k+1) f e p a:=by
 obtain⟨i,j,kV,D,n,y,u,C,O,rfl,L,d⟩:=F.ex;refine F9 L d S len λA o s H v Q E r c=>?_;obtain⟨t,h,q⟩:=I u A o s H v Q E r c;exact⟨t,h.nox,q⟩
theorem Fun.binds{x q:Str}{st:OZ}{f:M0}{b:Ny}{p:gV Str}(F:Fun K x q st f b)
  (h:∀kV d P a Q c u,u.length=p.length->mi (Rg x q (iH st) (fi st) (ah st) .none kV d P a Q c) ⟨u,[]⟩=pure (p.zip u)):Binds K b p []:=by
 obtain⟨O,e,kV,d,P,a,Q,c,o,rfl,l,H⟩:=F.ex;exact .all<|h kV d P a Q c
theorem fun_mk{x q:Str}{st:OZ}{f:M0}{O:J'}{b a:MZ M0}{o:Oh (MZ J')}{kV d p Q C:J'}(l:K.lookup f=B' ⟨O,b,.func<|Rg x q (iH st) (fi st) (ah st) .none kV d p a Q C,o⟩)
  (c:W3 K Q q=MX) (k:Q8 K (.ref f)=MX):Fun K x q st f (Rg x q (iH st) (fi st) (ah st) .none kV d p a Q C):=⟨⟨O,b,kV,d,p,a,Q,C,o,rfl,l,c⟩,k⟩
end
theorem pq(h:Room k A):A.units+1<QT:=Rk (Nat.add_le_add_left (by decide:1<=64) _) h.units
theorem aR(h:n<=1000):n<sizeLine:=Rk h (by decide)
theorem pv{X:Cx}(i:Nat){p:Pos}(H:X.N[i]?=B' x:=by rfl)(v:Li X.env.scope x:=by first|exact Zj rfl|exact SE (Zj rfl)|exact SE<|SE rfl)(d:(x == ("__debug__":Str))=false:=by decide)
  (h:(x == ("__classdict__":Str))=false:=by decide):PE X (.Name x p) (mI i):=Hu H v d h
theorem av{A B:Prop}(h:B):if MW=MX then A else B:=by
 rw[Np Ni];exact h
theorem aB{A B:Prop}(h:A):if MX=MX then A else B:=by
 rw[Nt rfl];exact h
theorem oX{c A B:Prop} [Decidable c] (H:c->A)(a:¬c->B):if c then A else B:=by
 by_cases h:c
 ·rw[Nt h];exact H h
 rw[Np h];exact a h
def Same(H h:Hp):Prop:=∀b o,H b=B' o->h b=B' o
theorem Same.refl(H:Hp):Same H H:=λ_ _ h=>h
theorem Same.trans(a:Same H d)(b:Same d e):Same H e:=λc o h=>b c o<|a c o h
theorem Same.free(e:Same H a)(h:a l=M5):H l=M5:=by
 cases q:H l with
 |none=>rfl
 |some o=>
  rw[e l o q]at h;cases h
theorem Same.seq{K:K'}{H b:Hp}{a:M0}{x:gV V}(e:Same H b)(h:SqL K H a x):SqL K b a x:=by
 obtain(h|⟨o,h⟩)|h:=h
 ·exact .inl<|.inl<|e _ _ h
 ·exact .inl<|.inr ⟨o,e _ _ h⟩
 exact .inr h
section
variable {κ:Type}[Ud κ]
theorem vY:∀{l:gV κ} {k:κ},l.Nodup->¬k∈l->(l++[k]).Nodup
 |[],k,_,_=>by simp
 |a::r,k,h,H=>by
  obtain⟨b,c⟩:=O9.mp h;show(a::(r++[k])).Nodup
  refine O9.mpr ⟨λm=>?_,vY c λm=>H<|Nz.mpr<|SE m⟩;obtain q|q:=NB.mp m
  ·exact b q
  exact H<|Nz.mpr<|Zj (Nd.mp q).symm
end
end L2
namespace L2
open PySem
theorem bH(h:n<=10000):n<sizeLine:=Rk h (by decide)
def PR(H:Hp)(q:Int×Int)(v:V):Prop:=∃t,v=.ref t/\H t=B' (.tup [.int q.1,.int q.2])
theorem PR.mono(k:Same H a):∀{p:gV (Int×Int)} {T:gV V},Paired (PR H) p T->Paired (PR a) p T
 |_,_,.nil=>.nil
 |_,_,.cons ⟨t,e,h⟩ r=>.cons ⟨t,e,k _ _ h⟩<|PR.mono k r
end L2
namespace TS
open PySem PyProof.Rows
structure Cm (prog:Nm)(w:NF)(A:Ou)(E:J'->M3->Prop)(s:M3) where
 num:OF->Int
 ok:OF->Prop
 kd:l8
 lt:∀{x y:OF} {Q:MZ Nf->OI->Prop} {st:OI},kindOf st=kd->ok x->ok y->Q (B' (decide (num x<num y))) st->wpS (ND prog w) A E s (lt' x y) Q st
section
variable {prog:Nm}{w:NF}{A:Ou}{E:J'->M3->Prop}{s:M3}{C:Cm prog w A E s}{st:OI}{α:Type}
abbrev Cm.W(C:Cm prog w A E s)(m:Vy OI Sem α)(Q:α->OI->Prop)(st:OI):Prop:=wpS (ND prog w) A E s m Q st
noncomputable def Cm.K(C:Cm prog w A E s)(x:Oh OF)(i:Nat):Int:=(x[i]?.map C.num).getD 0
def Cm.Oks(C:Cm prog w A E s)(x:Oh OF):Prop:=∀p∈x.toList,C.ok p
theorem HX(h:C.Oks x)(H:i<x.size):∃p,x[i]?=B' p/\C.ok p/\C.K x i=C.num p:=
 ⟨x[i],Uw x i H,h _ (by simp),by unfold Cm.K;rw[Uw x i H];rfl⟩
theorem dR(H:a[i]?=B' p)(h:Q p st):wpS (ND prog w) A E s (V1 a i) Q st:=by
 rw[elem'_eq,H];exact Oa h
theorem dJ{c:Prop} [Decidable c] {x y:Vy OI Sem α}{Q:α->OI->Prop}(h:c->wpS (ND prog w) A E s x Q st)(H:¬c->wpS (ND prog w) A E s y Q st):wpS (ND prog w) A E s (if c then x else y) Q st:=by
 split
 ·exact h ‹_›
 exact H ‹_›
noncomputable def gW:Nf->OF->Oh OF->Nat->Nat->Nat->Vy OI Sem (MZ Nat):=sortPriv% PySem.Builtin.gallop
noncomputable def En(left:Nf)(k:OF)(a:Oh OF)(b i:Nat):Vy OI Sem (MZ Nf):=do
 let x <-V1 a (b+i)
 if left then lt' x k else
  let r <-lt' k x
  return r.map (!·)
section
variable (left:Nf)(key:OF)(arr:Oh OF)(base n hint:Nat)
noncomputable def zZ(lo h:Nat):Vy OI Sem (MZ Nat):=do
 let mut lo:=lo
 let mut h:=h
 for _ in [0:n] do
  if lo>=h then break
  let m:=lo+(h-lo)/2
  let B' M <-En left key arr base m|return M5
  if M then lo:=m+1 else h:=m
 return B' h
noncomputable def Eo(m:Nat)(f:Nat->Nat)(t:Nf->Nf)(k:Nat->Nat->Vy OI Sem (MZ Nat)):Vy OI Sem (MZ Nat):=do
 let mut l:=0
 let mut o:=1
 for _ in [0:n] do
  if o>=m then break
  let B' M <-En left key arr base (f o)|return M5
  if t M then break
  l:=o
  o:=2*o+1
 k l o
theorem uw:gW left key arr base n hint=(do
 let B' right <-En left key arr base hint|return M5
 if right then Eo left key arr base n (n-hint) (hint+·) not λl o=>zZ left key arr base n (hint+l+1) (hint+min o (n-hint))
 else Eo left key arr base n (hint+1) (hint - ·) id λl o=>zZ left key arr base n (hint+1-min o (hint+1)) (hint-l)):=rfl
end
section
variable {left:Nf}{key:OF}{arr:Oh OF}{base n:Nat}{Q:MZ Nat->OI->Prop}
def LZ(C:Cm prog w A E s)(left:Nf)(key:OF)(arr:Oh OF)(base n:Nat)(st:OI)(P:Nat->Nf):Prop:=∀(m:Nat) (q:MZ Nf->OI->Prop),m<n->q (B'<|P m) st->C.W (En left key arr base m) q st
theorem HY{lo H:Nat}{P:Nat->Nf}(B:LZ C left key arr base n st P)(f:∀i j,i<=j->j<n->P j=MX->P i=MX)(m:lo<=H)(o:H<=n)(q:∀i,i<lo->P i=MX)(t:∀i,H<=i->i<n->P i=MW)
  (h:∀k,k<=n->(∀i,i<k->P i=MX)->(∀i,k<=i->i<n->P i=MW)->Q (B' k) st):C.W (zZ left key arr base n lo H) Q st:=by
 unfold zZ;refine NR (Ra (Qb (I:=λx c p=>p=st/\∃l r,c=(M5,l,r)/\l<=r/\r<=n/\r-l<=n-x/\(∀i,i<l->P i=MX)/\(∀i,r<=i->i<n->P i=MW))
  (Q:=λc p=>p=st/\∃l,c=(M5,l,l)/\l<=n/\(∀i,i<l->P i=MX)/\(∀i,l<=i->i<n->P i=MW)) ?_ ?_ ⟨rfl,lo,H,rfl,m,o,by lia,q,t⟩) ?_)
 ·rintro x c p _ F ⟨rfl,l,r,rfl,u,a,v,b,d⟩;dsimp only;refine dJ (λg=>Oa ?_) λg=>NR<|B _ _ (by lia) ?_
  ·obtain rfl:l=r:=by lia
   exact⟨rfl,l,rfl,a,b,d⟩
  cases e:P (l+(r-l)/2)with
  |true=>exact Oa ⟨rfl,_,_,rfl,by lia,a,by lia,λi H=>f i _ (by lia) (by lia) e,d⟩
  |false=>exact Oa ⟨rfl,_,_,rfl,by lia,by lia,by lia,b,λi y z=>by
    cases D:P i with
    |false=>rfl
    |true=>rw[f _ i y z D]at e;cases e⟩
 ·rintro c p ⟨rfl,l,r,rfl,u,a,v,b,d⟩;obtain rfl:l=r:=by lia
  exact⟨rfl,l,rfl,a,b,d⟩
 rintro c p ⟨rfl,l,rfl,a,b,d⟩;exact Oa<|h l a b d
theorem z_{k:Nat->Nat->Vy OI Sem (MZ Nat)}(B:LZ C left key arr base n st P)(r:m<=n)(H:∀o,o<m->f o<n)(e:t (P<|f 0)=MW)(i:1<=m)
  (h:∀l O,l<O->l<m->t (P<|f l)=MW->(O<m->t (P<|f O)=MX)->C.W (k l O) Q st):C.W (Eo left key arr base n m f t k) Q st:=by
 unfold Eo;refine NR (Ra (Qb (I:=λx c p=>p=st/\∃l O,c=(M5,l,O)/\l<O/\x<O/\l<m/\t (P<|f l)=MW)
  (Q:=λc p=>p=st/\∃l O,c=(M5,l,O)/\l<O/\l<m/\t (P<|f l)=MW/\(O<m->t (P<|f O)=MX)) ?_ ?_ ⟨rfl,0,1,rfl,by lia,by lia,i,e⟩) ?_)
 ·rintro x c p _ u ⟨rfl,l,O,rfl,a,j,b,d⟩;dsimp only;refine dJ (λg=>Oa ⟨rfl,l,O,rfl,a,b,d,λ_=>by lia⟩) λg=>NR<|B _ _ (H _<|by lia) ?_;dsimp only;exact dJ (λG=>Oa ⟨rfl,l,O,rfl,a,b,d,λ_=>G⟩) λG=>Oa ⟨rfl,_,_,rfl,by lia,by lia,by lia,by simpa using G⟩
 ·rintro c p ⟨rfl,l,O,rfl,a,j,b,d⟩;exact⟨rfl,l,O,rfl,a,b,d,λ_=>by lia⟩
 rintro c p ⟨rfl,l,O,rfl,a,b,d,q⟩;exact h l O a b d q
theorem Aa(y:kindOf st=C.kd)(Z:C.ok key)(N:C.Oks arr)(Y:base+n<=arr.size)(B:H<n)(z:∀i j,i<=j->j<n->C.K arr (base+i)<=C.K arr (base+j))(T:∀i,i<n->C.K arr (base+i)≠C.num key)
  (h:∀k,k<=n->(∀i,i<k->C.K arr (base+i)<C.num key)->(∀i,k<=i->i<n->C.num key<C.K arr (base+i))->Q (B' k) st):C.W (gW left key arr base n H) Q st:=by
 have b:LZ C left key arr base n st λi=>decide (C.K arr (base+i)<C.num key):=λm Q' F q=>by
  obtain⟨p,G,I,e⟩:=HX N (i:=base+m) (by lia);have J:=T m F;simp only[e]at q J;refine NR<|dR G ?_;cases left
  ·refine NR<|C.lt y Z I<|Oa ?_;rw[show decide (C.num p<C.num key)=!decide (C.num key<C.num p) by rw[<-decide_not];exact Qi.mpr ⟨λ_=>by lia,λ_=>by lia⟩]at q;exact q
  exact C.lt y I Z q
 have D:∀i j,i<=j->j<n->decide (C.K arr (base+j)<C.num key)=MX->decide (C.K arr (base+i)<C.num key)=true:=λi j r t g=>Ng<|Int.lt_of_le_of_lt (z i j r t)<|N0 g;have U:∀i j,i<=j->j<n->decide (C.K arr (base+i)<C.num key)=MW->decide (C.K arr (base+j)<C.num key)=false:=λi j r t g=>by
  have:=Qh g;have:=z i j r t;exact M6 (by lia)
 have W:∀{lo a},lo<=a->a<=n->(∀i,i<lo->decide (C.K arr (base+i)<C.num key)=MX)->(∀i,a<=i->i<n->decide (C.K arr (base+i)<C.num key)=MW)->C.W (zZ left key arr base n lo a) Q st:=λu v d f=>
  HY b D u v d f λk L M P=>h k L (λi a=>N0<|M i a) λi x c=>by
   have:=Qh<|P i x c;have:=T i c;lia
 rw[uw];refine NR<|b _ _ B ?_;dsimp only;refine dJ (λe=>z_ b (by lia) (λo X=>by lia) (by rw[Wr,e];rfl) (by lia) λl O u v d f=>?_) λe=>z_ b (by lia) (λo X=>by lia) (by simpa using e) (by lia) λl O u v d f=>?_
 ·exact W (by lia) (by lia) (λi a=>D i (H+l) (by lia) (by lia)<|by simpa using d) λi x c=>U (H+O) i (by lia) c (by simpa using f (by lia))
 exact W (by lia) (by lia) (λi a=>D i (H-O) (by lia) (by lia)<|f<|by lia) λi x c=>U (H-l) i (by lia) c d
end
end
abbrev R:=Oh OF
abbrev S:=Vy OI Sem
noncomputable def Ab(g:Nat):S Vx:=lh λst=>U0 (kindOf st) (Ob st) (Ol st) g<|Qg st
structure Sd where
 arr:R
 ia:Nat->Nat
 na:Nat->Nat
 gal:Nf->OF->Nat->S (MZ Nat)
 kk:Nat->Nat->Nat
 ex:Nat->Nat->R
 nx:Nat->Nat->Nat
 v:Nat->gV OF
structure Mg where
 T:Type->Type
 m:{X:Type}->MZ R->R->Nat->Nat->X->T X
 r:{X:Type}->T X->MZ R
 o:{X:Type}->T X->R
 i:{X:Type}->T X->Nat
 j:{X:Type}->T X->Nat
 x:{X:Type}->T X->X
 a:Sd
 b:Sd
 sel:{β:Type}->Nf->S β->S β->S β
 don:R->Nat->Nat->R
 pa:{β:Type}->R->Nat->Nat->(R->S β)->S β->S β
 pb:{β:Type}->R->Nat->Nat->(R->S β)->S β->S β
 ta:{β:Type}->R->Nat->Nat->(R->S β)->S β->S β
 tb:{β:Type}->R->Nat->Nat->(R->S β)->S β->S β
 n:Nat
noncomputable def Mg.in1(M:Mg)(g:Nat)(c:M.T (Nat×Nat)):S (Rv<|M.T<|Nat×Nat):=do
 let q <-V1 M.b.arr (M.b.ia<|M.j c)
 let p <-V1 M.a.arr (M.a.ia<|M.i c)
 let B' w <-lt' q p|return .done (M.m (B'<|M.don (M.o c) (M.i c)<|M.j c) (M.o c) (M.i c) (M.j c)<|M.x c)
 M.sel w (do
   let p <-V1 M.a.arr (M.a.ia<|M.i c)
   M.pa ((M.o c).push p) (M.a.na<|M.i c) (M.j c) (λx=>return .done<|M.m (B' x) ((M.o c).push p) (M.a.na<|M.i c) (M.j c) ((M.x c).1+1,0))
    (if(M.x c).1+1>=g then return .done (M.m M5 ((M.o c).push p) (M.a.na<|M.i c) (M.j c) ((M.x c).1+1,0))else return .yield (M.m M5 ((M.o c).push p) (M.a.na<|M.i c) (M.j c) ((M.x c).1+1,0))))
  (do
   let q <-V1 M.b.arr (M.b.ia<|M.j c)
   M.pb ((M.o c).push q) (M.i c) (M.b.na<|M.j c) (λx=>return .done<|M.m (B' x) ((M.o c).push q) (M.i c) (M.b.na<|M.j c) (0,(M.x c).2+1))
    (if(M.x c).2+1>=g then return .done (M.m M5 ((M.o c).push q) (M.i c) (M.b.na<|M.j c) (0,(M.x c).2+1))else return .yield (M.m M5 ((M.o c).push q) (M.i c) (M.b.na<|M.j c) (0,(M.x c).2+1))))
section
variable (M:Mg)(mg ac bc:Nat)(o:R)(i j:Nat)
noncomputable def Mg.gC:S (Rv<|M.T<|Nat×Nat×Nat):=do
 let p <-V1 M.a.arr (M.a.ia i)
 M.pa (o.push p) (M.a.na i) j (λx=>return .done<|M.m (B' x) (o.push p) (M.a.na i) j (mg,ac,bc))
  (if(decide (ac<7)&&decide (bc<7))=MX then return .done (M.m M5 (o.push p) (M.a.na i) j (mg,ac,bc))else return .yield (M.m M5 (o.push p) (M.a.na i) j (mg,ac,bc)))
noncomputable def Mg.gB:S (Rv<|M.T<|Nat×Nat×Nat):=do
 let q <-V1 M.b.arr (M.b.ia j)
 M.pb (o.push q) i (M.b.na j) (λx=>return .done<|M.m (B' x) (o.push q) i (M.b.na j) (mg,ac,bc)) (do
  let B' u <-M.b.gal MX (<-V1 M.a.arr<|M.a.ia i) (M.b.na j)|return .done (M.m (B'<|M.don (o.push q) i<|M.b.na j) (o.push q) i (M.b.na j) (mg,ac,bc))
  if M.b.kk (M.b.na j) u>0 then
   M.tb (o.push q++M.b.ex (M.b.na j) u) i (M.b.nx (M.b.na j) u) (λx=>return .done<|M.m (B' x) (o.push q++M.b.ex (M.b.na j) u) i (M.b.nx (M.b.na j) u) (mg,ac,M.b.kk (M.b.na j) u))
    (M.gC mg ac (M.b.kk (M.b.na j) u) (o.push q++M.b.ex (M.b.na j) u) i<|M.b.nx (M.b.na j) u)
  else M.gC mg ac (M.b.kk (M.b.na j) u) (o.push q) i (M.b.na j))
noncomputable def Mg.gA:S (Rv<|M.T<|Nat×Nat×Nat):=do
 Ab mg
 let B' u <-M.a.gal MW (<-V1 M.b.arr<|M.b.ia j) i|return .done (M.m (B'<|M.don o i j) o i j (mg,ac,bc))
 if M.a.kk i u>0 then
  M.ta (o++M.a.ex i u) (M.a.nx i u) j (λx=>return .done<|M.m (B' x) (o++M.a.ex i u) (M.a.nx i u) j (mg,M.a.kk i u,bc))
   (M.gB mg (M.a.kk i u) bc (o++M.a.ex i u) (M.a.nx i u) j)
 else M.gB mg (M.a.kk i u) bc o i j
noncomputable def Mg.out(c:M.T Nat):S (Rv<|M.T Nat):=do
 let d <-forIn [0:M.n] (M.m M5 (M.o c) (M.i c) (M.j c) (0,0)) λ_=>M.in1 (M.x c)
 match M.r d with
 |some r=>return .done<|M.m (B' r) (M.o d) (M.i d) (M.j d)<|M.x c
 |none=>
  rule "list.sort.gallop"
  let C <-forIn [0:M.n] (M.m M5 (M.o d) (M.i d) (M.j d) (M.x c+1,M.x d)) λ_ c=>
   if(M.x c).1>1 then M.gA ((M.x c).1-1) (M.x c).2.1 (M.x c).2.2 (M.o c) (M.i c) (M.j c)else M.gA (M.x c).1 (M.x c).2.1 (M.x c).2.2 (M.o c) (M.i c) (M.j c)
  match M.r C with
  |some r=>return .done<|M.m (B' r) (M.o C) (M.i C) (M.j C) (M.x C).1
  |none=>
   Ab ((M.x C).1+1)
   return .yield (M.m M5 (M.o C) (M.i C) (M.j C)<|(M.x C).1+1)
noncomputable def Mg.run:S R:=do
 let c <-forIn [0:M.n] (M.m M5 o i j<|gallopOf (<-get)) λ_=>M.out
 match M.r c with
 |some r=>return r
 |none=>unsupported "internal:list.sort.merge-bound"
end
noncomputable def L4(a:R):Sd where
 arr:=a
 ia:=λi=>i
 na:=λi=>i+1
 gal:=λl q i=>gW l q a i (a.size-i) 0
 kk:=λ_ u=>u
 ex:=λi u=>a.extract i (i+u)
 nx:=λi u=>i+u
 v:=λi=>a.toList.drop i
noncomputable def Lq(a:R):Sd where
 arr:=a
 ia:=λi=>i-1
 na:=λi=>i-1
 gal:=λl q i=>gW l q a 0 i (i-1)
 kk:=λi u=>i-u
 ex:=λi u=>(a.extract u i).reverse
 nx:=λ_ u=>u
 v:=λi=>(a.toList.take i).reverse
noncomputable def Ge(a b o:R)(i j:Nat):R:=o++a.extract i a.size++b.extract j b.size
noncomputable def Jw(a b o:R)(i j:Nat):R:=o++b.extract j b.size++a.extract i a.size
noncomputable def DN(a b:R):Mg where
 T:=λX=>MZ R×R×Nat×Nat×X
 m:=λr o i j x=>(r,o,i,j,x)
 r:=λc=>c.1
 o:=λc=>c.2.1
 i:=λc=>c.2.2.1
 j:=λc=>c.2.2.2.1
 x:=λc=>c.2.2.2.2
 a:=L4 a
 b:=L4 b
 sel:=λw x y=>if w=MX then y else x
 don:=Ge a b
 pa:=λo i j f k=>if(i+1 == a.size)=MX then f (Jw a b o i j)else k
 pb:=λo i j f k=>if(j == b.size)=MX then f (Ge a b o i j)else k
 ta:=λo i j f k=>if(i+1 == a.size)=MX then f (Jw a b o i j)else if(i == a.size)=MX then f (Ge a b o i j)else k
 tb:=λo i j f k=>if(j == b.size)=MX then f (Ge a b o i j)else k
 n:=a.size+b.size
noncomputable def Gf(a b o:R)(i j:Nat):R:=a.extract 0 i++b.extract 0 j++o.reverse
noncomputable def Jx(a b o:R)(i j:Nat):R:=b.extract 0 j++a.extract 0 i++o.reverse
noncomputable def Ac(a b:R):Mg where
 T:=λX=>MZ R×Nat×Nat×R×X
 m:=λr o i j x=>(r,i,j,o,x)
 r:=λc=>c.1
 o:=λc=>c.2.2.2.1
 i:=λc=>c.2.1
 j:=λc=>c.2.2.1
 x:=λc=>c.2.2.2.2
 a:=Lq a
 b:=Lq b
 sel:=λw x y=>if w=MX then x else y
 don:=Gf a b
 pa:=λo i j f k=>if(i == 0)=MX then f (Gf a b o i j)else k
 pb:=λo i j f k=>if(j == 1)=MX then f (Jx a b o i j)else k
 ta:=λo i j f k=>if(i == 0)=MX then f (Gf a b o i j)else k
 tb:=λo i j f k=>if(j == 1)=MX then f (Jx a b o i j)else if(j == 0)=MX then f (Gf a b o i j)else k
 n:=a.size+b.size
noncomputable def L7:R->R->S R:=sortPriv% PySem.Builtin.mergeLo
noncomputable def L8:R->R->S R:=sortPriv% PySem.Builtin.mergeHi
theorem HZ(a b:R):L7 a b=(do
 rule "list.sort.merge-lo"
 let q <-V1 b 0
 if(1 == b.size)=MX then return Ge a b #[q] 0 1
 else if(0+1 == a.size)=MX then return Jw a b #[q] 0 1
 else(DN a b).run #[q] 0 1):=by kernel_rfl
theorem H_(a b:R):L8 a b=(do
 rule "list.sort.merge-hi"
 let p <-V1 a (a.size-1)
 if(a.size-1 == 0)=MX then return Gf a b #[p] (a.size-1) b.size
 else if(b.size == 1)=MX then return Jx a b #[p] (a.size-1) b.size
 else(Ac a b).run #[p] (a.size-1) b.size):=by kernel_rfl
structure MI (r:OF->OF->Prop)(z o x y:gV OF):Prop where
 p:(o++(x++y)).Perm z
 u:(o++x).Pairwise r
 v:(o++y).Pairwise r
theorem MI.sw(h:MI r z o x y):MI r z o y x:=⟨(List.perm_append_comm.append_left o).trans h.p,h.v,h.u⟩
theorem MI.ta(T:∀a b c,r a b->r b c->r a c)(h:MI r z o (t++x) (q::y))(g:∀c∈t,r c q):MI r z (o++t) x (q::y):=by
 have u:=h.u;rw[<-N1]at u;have v:=P8.mp h.v;refine⟨by simpa using h.p,u,P8.mpr ⟨(P8.mp u).1,v.2.1,λc H d e=>?_⟩⟩;obtain H|H:=NB.mp H
 ·exact v.2.2 c H d e
 obtain rfl|e:=Nz.mp e
 ·exact g c H
 exact T _ _ _ (g c H)<|U' v.2.1 e
section
variable {C:Cm prog w A E s}{r:OF->OF->Prop}{z:gV OF}{st:OI}{M:Mg}{la lb:Nat}{α:Type}
theorem Ad{prog:Nm}{w:NF}{A:Ou}{E:J'->M3->Prop}{s:M3}(h:Q () (U0 (kindOf st) (Ob st) (Ol st) g<|Qg st)):wpS (ND prog w) A E s (Ab g) Q st:=Wg h
structure Er (C:Cm prog w A E s)(r:OF->OF->Prop)(D:Sd):Prop where
 at_:∀{i p t},i<=D.arr.size->D.v i=p::t->D.arr[D.ia i]?=B' p/\D.v (D.na i)=t/\D.na i<=D.arr.size
 gal:∀{l q i Q st},i<=D.arr.size->kindOf st=C.kd->C.ok q->D.v i≠[]->(∀c∈D.v i,C.num c≠C.num q)->
  (∀u,D.nx i u<=D.arr.size->D.v i=(D.ex i u).toList++D.v (D.nx i u)->(∀c∈(D.ex i u).toList,r c q)->(∀c∈D.v (D.nx i u),r q c)->(¬D.kk i u>0->(D.ex i u).toList=[])->Q (B' u) st)->C.W (D.gal l q i) Q st
def r9(C:Cm prog w A E s)(z:gV OF)(x:R):Prop:=x.toList.Perm z/\x.toList.Pairwise λa b=>C.num a<C.num b
structure MS (M:Mg)(r:OF->OF->Prop)(z:gV OF)(o:R)(i j:Nat):Prop where
 m:MI r z o.toList (M.a.v i) (M.b.v j)
 i:i<=M.a.arr.size
 j:j<=M.b.arr.size
structure Ia (C:Cm prog w A E s)(M:Mg)(r:OF->OF->Prop)(z:gV OF)(la lb:Nat):Prop where
 er:∀{X e o i j} {x:X},M.r (M.m e o i j x)=e
 eo:∀{X e o i j} {x:X},M.o (M.m e o i j x)=o
 ei:∀{X e o i j} {x:X},M.i (M.m e o i j x)=i
 ej:∀{X e o i j} {x:X},M.j (M.m e o i j x)=j
 ex:∀{X e o i j} {x:X},M.x (M.m e o i j x)=x
 n:M.n=z.length
 tr:∀a b c,r a b->r b c->r a c
 nd:(z.map C.num).Nodup
 ok:∀c∈z,C.ok c
 a:Er C r M.a
 b:Er C r M.b
 l1:1<=la
 l2:1<=lb
 sel:∀{α p q} {x y:S α} {Q st},C.num p≠C.num q->(r p q->C.W x Q st)->(r q p->C.W y Q st)->C.W (M.sel (decide (C.num q<C.num p)) x y) Q st
 pa:∀{α o i j} {f:R->S α} {k Q st},MS M r z o i j->la<=(M.a.v i).length+1->(∀x,r9 C z x->C.W (f x) Q st)->(la<=(M.a.v i).length->C.W k Q st)->C.W (M.pa o i j f k) Q st
 pb:∀{α o i j} {f:R->S α} {k Q st},MS M r z o i j->lb<=(M.b.v j).length+1->(∀x,r9 C z x->C.W (f x) Q st)->(lb<=(M.b.v j).length->C.W k Q st)->C.W (M.pb o i j f k) Q st
 ta:∀{α o i j} {f:R->S α} {k Q st},MS M r z o i j->(∀x,r9 C z x->C.W (f x) Q st)->(la<=(M.a.v i).length->C.W k Q st)->C.W (M.ta o i j f k) Q st
 tb:∀{α o i j} {f:R->S α} {k Q st},MS M r z o i j->(∀x,r9 C z x->C.W (f x) Q st)->(lb<=(M.b.v j).length->C.W k Q st)->C.W (M.tb o i j f k) Q st
structure Iv (M:Mg)(r:OF->OF->Prop)(z:gV OF)(la lb:Nat)(n:Nat)(o:R)(i j:Nat):Prop where
 m:MS M r z o i j
 a:la<=(M.a.v i).length
 b:lb<=(M.b.v j).length
 n:(M.a.v i).length+(M.b.v j).length+n<=z.length
theorem MI.ne(h:MI r z o x y)(n:(z.map C.num).Nodup)(H:c∈x)(a:q∈y):C.num c≠C.num q:=by
 have:=(h.p.map C.num).nodup_iff.mpr n;rw[NI,NI]at this;exact(Pg.mp (Pg.mp this).2.1).2.2 _ (Pp H) _<|Pp a
theorem pr{l:gV OF}{n:Nat}(H:1<=n)(h:n<=l.length):∃p t,l=p::t:=by
 cases l with
 |nil=>exact absurd h (by simpa using by lia)
 |cons p t=>exact⟨p,t,rfl⟩
def Go(C:Cm prog w A E s)(M:Mg)(r:OF->OF->Prop)(z:gV OF)(la lb n:Nat){X:Type}(c:M.T X):Prop:=(∃x,M.r c=B' x/\r9 C z x)\/∃o i j e,c=M.m M5 o i j e/\Iv M r z la lb n o i j
variable (K:Ia C M r z la lb)
include K
theorem Ae(m:MS M r z o i j)(e:M.a.v i=p::t)(a:M.b.v j=q::u)(g:r p q):MS M r z (o.push p) (M.a.na i) j:=by
 obtain⟨_,c,d⟩:=K.a.at_ m.i e;have b:=m.m;refine⟨?_,d,m.j⟩;rw[c,RH,a];rw[e,a]at b;exact MI.ta K.tr (t:=[p]) b (by simpa using g)
theorem Af(m:MS M r z o i j)(e:M.a.v i=p::t)(a:M.b.v j=q::u)(g:r q p):MS M r z (o.push q) i (M.b.na j):=by
 obtain⟨_,c,d⟩:=K.b.at_ m.j a;have b:=m.m;refine⟨?_,m.i,d⟩;rw[c,RH,e];rw[e,a]at b;exact(MI.ta K.tr (t:=[q]) b.sw<|by simpa using g).sw
theorem Lr(I:Iv M r z la lb n o i j):∃p t q u,M.a.v i=p::t/\M.b.v j=q::u/\C.ok p/\C.ok q/\C.num p≠C.num q/\M.a.arr[M.a.ia i]?=B' p/\M.b.arr[M.b.ia j]?=B' q/\M.a.v (M.a.na i)=t/\M.b.v (M.b.na j)=u:=by
 obtain⟨p,t,e⟩:=pr K.l1 I.a;obtain⟨q,u,a⟩:=pr K.l2 I.b;exact⟨p,t,q,u,e,a,K.ok p (I.m.m.p.mem_iff.mp<|by simp[e]),K.ok q (I.m.m.p.mem_iff.mp<|by simp[a]),I.m.m.ne K.nd (by simp[e]) (by simp[a]),(K.a.at_ I.m.i e).1,(K.b.at_ I.m.j a).1,(K.a.at_ I.m.i e).2.1,(K.b.at_ I.m.j a).2.1⟩
theorem Ka(B:kindOf st=C.kd)(I:Iv M r z la lb n o i j):C.W (M.in1 J<|M.m M5 o i j e) (λx P=>P=st/\match x with|.done c=>Go C M r z la lb (n+1) c|.yield c=>∃o i j e,c=M.m M5 o i j e/\Iv M r z la lb (n+1) o i j) st:=by
 obtain⟨p,t,q,u,b,d,O,D,F,G,k,N,l⟩:=Lr K I;have H:=I.n;have v:=I.a;have y:=I.b;rw[b]at H v;rw[d]at H y;rw[NC]at H v y;rw[NC]at H;unfold Mg.in1;rw[K.eo,K.ei,K.ej];refine NR<|dR k<|NR<|dR G<|NR<|C.lt B D O ?_;refine K.sel F (λg=>?_) λg=>?_
 ·refine NR<|dR G ?_;have m:=Ae K I.m b d g;refine K.pa m (by rw[N];lia) (λx f=>Oa ⟨rfl,.inl ⟨x,K.er,f⟩⟩) λh=>?_;have a:Iv M r z la lb (n+1) (o.push p) (M.a.na i) j:=⟨m,h,I.b,by rw[N,d,NC];lia⟩;exact dJ (λ_=>Oa ⟨rfl,.inr ⟨_,_,_,_,rfl,a⟩⟩) λ_=>Oa ⟨rfl,_,_,_,_,rfl,a⟩
 refine NR<|dR k ?_;have m:=Af K I.m b d g;refine K.pb m (by rw[l];lia) (λx f=>Oa ⟨rfl,.inl ⟨x,K.er,f⟩⟩) λh=>?_;have a:Iv M r z la lb (n+1) (o.push q) i (M.b.na j):=⟨m,I.a,h,by rw[l,b,NC];lia⟩;exact dJ (λ_=>Oa ⟨rfl,.inr ⟨_,_,_,_,rfl,a⟩⟩) λ_=>Oa ⟨rfl,_,_,_,_,rfl,a⟩
def gh(st P:OI):Prop:=kindOf P=kindOf st/\Ob P=Ob st/\Ol P=Ol st/\Qg P=Qg st
abbrev Ib(C:Cm prog w A E s)(M:Mg)(r:OF->OF->Prop)(z:gV OF)(la lb n:Nat)(st:OI){X:Type}(x:Rv (M.T X))(P:OI):Prop:=gh st P/\match x with|.done c=>Go C M r z la lb n c|.yield c=>∃o i j e,c=M.m M5 o i j e/\Iv M r z la lb n o i j
theorem Kb(H:gh a st)(I:Iv M r z la lb n o i j)(g:∀p q t u,M.a.v i=p::t->M.b.v j=q::u->r p q):C.W (M.gC v y B o i j) (Ib C M r z la lb n a) st:=by
 obtain⟨p,t,q,u,e,b,_,_,_,G,D,c,_⟩:=Lr K I;have f:=I.a;have k:=I.n;rw[e,NC]at f k;unfold Mg.gC;have m:=Ae K I.m e b<|g p q t u e b;refine NR<|dR G<|K.pa m (by rw[c];lia) (λx l=>Oa ⟨H,.inl ⟨x,K.er,l⟩⟩) λh=>?_;have d:Iv M r z la lb n (o.push p) (M.a.na i) j:=⟨m,h,I.b,by rw[c];lia⟩;exact dJ (λ_=>Oa ⟨H,.inr ⟨_,_,_,_,rfl,d⟩⟩) λ_=>Oa ⟨H,_,_,_,_,rfl,d⟩
theorem Kc(F:kindOf a=C.kd)(H:gh a st)(I:Iv M r z la lb n o i j)(g:∀p q t u,M.a.v i=p::t->M.b.v j=q::u->r q p):C.W (M.gB mg ac bc o i j) (Ib C M r z la lb n a) st:=by
 obtain⟨p,t,q,u,e,d,O,_,_,J,L,_,f⟩:=Lr K I;have N:=I.b;have P:=I.n;rw[d,NC]at N P;unfold Mg.gB;have m:=Af K I.m e d<|g p q t u e d;refine NR<|dR L<|K.pb m (by rw[f];lia) (λx k=>Oa ⟨H,.inl ⟨x,K.er,k⟩⟩) λh=>?_;have T:∀c∈M.b.v (M.b.na j),C.num c≠C.num p:=λc U=>(m.m.ne K.nd (by simp[e]) U).symm;refine NR<|dR J<|NR<|K.b.gal m.j (H.1.trans F) O (λz=>by rw[z]at h;exact absurd (Oz K.l2 h)<|by decide) T λu W G X v Y=>?_;dsimp only;have y:=Oe PP G;rw[M7]at y;refine dJ (λ_=>?_) λZ=>?_
 ·have B:MS M r z (o.push q++M.b.ex (M.b.na j) u) i (M.b.nx (M.b.na j) u):=by
   have D:=m.m;refine⟨?_,m.i,W⟩;rw[XH];rw[e,G]at D;rw[e];exact(MI.ta K.tr D.sw X).sw
  refine K.tb B (λx k=>Oa ⟨H,.inl ⟨x,K.er,k⟩⟩) λh2=>Kb K H ⟨B,I.a,h2,by rw[f]at y;lia⟩ λp' Q t' u' b l=>?_;rw[e]at b;cases b;exact v Q (by simp[l])
 rw[Y Z,Sv]at G;refine Kb K H ⟨m,I.a,h,by rw[f];lia⟩ λp' Q t' u' b l=>?_;rw[e]at b;cases b;exact v Q (by simp[<-G,l])
theorem Kd(H:kindOf a=C.kd)(d:gh a st)(I:Iv M r z la lb n o i j):C.W (M.gA l Z bc o i j) (Ib C M r z la lb n a) st:=by
 obtain⟨p,t,q,u,v,e,op,O,_,gp,y,_⟩:=Lr K I;have hn:=I.n;have N:∀c∈M.a.v i,C.num c≠C.num q:=λc B=>I.m.m.ne K.nd B (by simp[e]);refine NR<|Ad<|NR<|dR y<|NR<|K.a.gal I.m.i (d.1.trans H) O (by simp[v]) N λu D g F G J=>?_;dsimp only;have h:gh a (U0 (kindOf st) (Ob st) (Ol st) l<|Qg st):=d;have L:=Oe PP g;rw[M7]at L;refine dJ (λ_=>?_) λQ=>?_
 ·have k:MS M r z (o++M.a.ex i u) (M.a.nx i u) j:=by
   have m:=I.m.m;refine⟨?_,D,I.m.j⟩;rw[XH];rw[e,g]at m;rw[e];exact MI.ta K.tr m F
  refine K.ta k (λx T=>Oa ⟨d,.inl ⟨x,K.er,T⟩⟩) λU=>Kc K H h ⟨k,U,I.b,by lia⟩ λP W X Y f b=>?_;rw[e]at b;cases b;exact G P (by simp[f])
 rw[J Q,Sv]at g;refine Kc K H h I λP W X Y f b=>?_;rw[e]at b;cases b;exact G P (by simp[<-g,f])
theorem Gg(k:kindOf st=C.kd)(I:Iv M r z la lb 1 o i j)(q:∀x P,gh st P->r9 C z x->Q x P):C.W (M.run o i j) Q st:=by
 have B:∀{n o i j},Iv M r z la lb n o i j->n<z.length:=λI=>by
  have:=I.a;have:=I.n;have:=K.l1;lia
 unfold Mg.run;refine NR<|Vn<|NR<|Ra (Qb (I:=λx c P=>gh st P/\∃o i j e,c=M.m M5 o i j e/\Iv M r z la lb (x+1) o i j) (Q:=λc P=>gh st P/\∃x,M.r c=B' x/\r9 C z x) ?_ ?_ ⟨⟨rfl,rfl,rfl,rfl⟩,_,_,_,_,rfl,I⟩) ?_
 ·rintro n c P _ m ⟨f,o,i,j,e,rfl,I⟩;unfold Mg.out;rw[K.eo,K.ei,K.ej];refine NR<|Ra (Qb (I:=λx c a=>a=P/\∃o i j e,c=M.m M5 o i j e/\Iv M r z la lb (n+1+x) o i j) (Q:=λc a=>a=P/\Go C M r z la lb (n+2) c) ?_ ?_ ⟨rfl,_,_,_,_,rfl,I⟩) ?_
  ·rintro x c a _ b ⟨rfl,o,i,j,e,rfl,I⟩;refine Ra (Ka K (f.1.trans k) I) ?_;rintro (c|c) Y ⟨rfl,h⟩
   ·refine⟨rfl,h.imp id λ⟨o,i,j,e,g,d⟩=>⟨o,i,j,e,g,d.m,d.a,d.b,by have:=d.n;lia⟩⟩
   exact⟨rfl,h⟩
  ·rintro c a ⟨_,o,i,j,e,rfl,I⟩;have:=B I;have:=K.n;lia
  rintro c a ⟨rfl,⟨x,e,b⟩|⟨o,i,j,e,rfl,I⟩⟩
  ·rw[e];exact Oa ⟨f,x,K.er,b⟩
  rw[K.er];refine NR<|W_<|QK ⟨rfl,?_⟩;rw[K.eo,K.ei,K.ej];refine NR<|Ra (Qb (I:=λ_ c Y=>gh st Y/\∃o i j e,c=M.m M5 o i j e/\Iv M r z la lb (n+2) o i j) (Q:=λc Y=>gh st Y/\Go C M r z la lb (n+2) c) ?_ (λ_ _ ⟨g,d⟩=>⟨g,.inr d⟩) ⟨f,_,_,_,_,rfl,I⟩) ?_
  ·rintro x c Y _ _ ⟨H,o,i,j,e,rfl,I⟩;rw[K.eo,K.ei,K.ej];refine dJ (λ_=>Ra (Kd K k H I) ?_) λ_=>Ra (Kd K k H I) ?_<;>(rintro (c|c) l h<;>exact h)
  rintro c Y ⟨H,⟨x,e,b⟩|⟨o,i,j,e,rfl,I⟩⟩
  ·rw[e];exact Oa ⟨H,x,K.er,b⟩
  rw[K.er];refine NR<|Ad<|Oa ⟨H,_,_,_,_,rfl,?_⟩;rw[K.eo,K.ei,K.ej];exact I
 ·rintro c P ⟨_,o,i,j,e,rfl,I⟩;have:=B I;have:=K.n;lia
 rintro c P ⟨f,x,e,b⟩;rw[e];exact Oa<|q x P f b
end
section
variable {C:Cm prog w A E s}{z o x y:gV OF}{st:OI}{a b:R}
theorem MI.end1(h:MI r z o x y)(e:x=[]\/y=[]):(o++(x++y)).Pairwise r:=by
 obtain rfl|rfl:=e
 ·exact h.v
 simpa using h.u
theorem MI.end2{p:OF}(t:∀a b c,r a b->r b c->r a c)(h:MI r z o [p] y)(g:∀c∈y,r c p):(o++(y++[p])).Pairwise r:=by
 have H:=h.sw;rw[<-OQ y]at H;simpa using(MI.ta t H g).v
abbrev Cm.lo(C:Cm prog w A E s)(x y:OF):Prop:=C.num x<C.num y
theorem ux(e:a.toList=P++(x++T))(h:i<x.length):C.K a (P.length+i)=C.num x[i]:=by
 unfold Cm.K;rw[<-NZ,e,N7 (Zm ..),V3,N3 h,M4 h];rfl
theorem vZ{l:Nf}{Q:MZ Nat->OI->Prop}(e:a.toList=P++(x++T))(B:u=P.length)(D:n=x.length)(F:C.Oks a)(G:x.Pairwise C.lo)(I:kindOf st=C.kd)(J:C.ok q)(L:H<n)(M:∀c∈x,C.num c≠C.num q)
  (h:∀k,k<=n->(∀c∈x.take k,C.lo c q)->(∀c∈x.drop k,C.lo q c)->Q (B' k) st):C.W (gW l q a u n H) Q st:=by
 subst B D;have N:=Oe PP e;simp only[M7,NH]at N;refine Aa I J F (by lia) L (λi j f d=>?_) (λi v=>?_) λk f d O=>h k f (λc p=>?_) λc p=>?_
 ·rw[ux e d,ux e<|Rk f d];obtain e|g:=SF f
  ·subst e;exact SU _
  exact Wu<|PF.mp G i j _ d g
 ·rw[ux e v];exact M _<|PB v
 ·obtain⟨m,r,t⟩:=Sb p;rw[NO]at r;have:=d m (by lia);rw[ux e<|by lia]at this;rw[<-t,Vs];exact this
 obtain⟨m,r,t⟩:=Sb p;rw[Pc]at r;have:=O (k+m) (by lia) (by lia);rw[ux e<|by lia]at this;rw[<-t,List.getElem_drop];exact this
theorem hU{prog:Nm}{w:NF}{A:Ou}{E:J'->M3->Prop}{s:M3}{c:Type}{i n:Nat}{x y:S c}{Q:c->OI->Prop}(h:i=n->wpS (ND prog w) A E s x Q st)(H:¬i=n->wpS (ND prog w) A E s y Q st):wpS (ND prog w) A E s (if(i == n)=MX then x else y) Q st:=
 dJ (λe=>h<|by simpa using e) λe=>H (by simpa using e)
theorem px(i k:Nat):(a.extract i<|i+k).toList=(a.toList.drop i).take k:=by
 rw[Array.toList_extract,List.extract_eq_take_drop,V3]
theorem Ag(f:C.Oks a)(g:a.toList.Pairwise C.lo):Er C C.lo (L4 a) where
 at_:=λ{i p t} _ e=>by
  have d:a.toList.drop i=p::t:=e;have h:=Oe (·[0]?) d;simp at h;exact⟨h,by show a.toList.drop (i+1)=t;rw[<-List.tail_drop,d];rfl,(OL.mp h).1⟩
 gal:=λ{l q i Q st} H j m v T h=>by
  have H:i<=a.size:=H;have D:i≠a.size:=λz=>v (Ro<|by simpa using S5 z.symm);refine vZ (P:=a.toList.take i) (x:=a.toList.drop i) (T:=[]) (by simp) (by simpa using by lia) (by simp) f (g.sublist (Vu ..)) j m (by lia) T λk F n r=>h k (by show i+k<=a.size;lia) ?_ (px (a:=a) i k▸n) (λc u=>r c<|by rw[U6];exact u) λB=>?_
  ·show a.toList.drop i=(a.extract i<|i+k).toList++a.toList.drop (i+k)
   rw[px,<-U6,PQ]
  obtain rfl:k=0:=Wp B;exact px i 0
theorem Ah(n:C.Oks a)(r:a.toList.Pairwise C.lo):Er C (λx y=>C.lo y x) (Lq a) where
 at_:=λ{i p t} H e=>by
  have H:i<=a.size:=H;have h:=Oe ti (show(a.toList.take i).reverse=p::t from e);rw[RS,Vr]at h;cases i with
  |zero=>simp at h
  |succ i=>
   rw[S6<|by simpa using by lia]at h;obtain⟨j,f⟩:=List.append_inj' h rfl;refine⟨?_,?_,YU H⟩
   ·show a[i]?=B' p
    rw[Uw a i<|by lia];simpa using f
   show(a.toList.take i).reverse=t
   rw[j,RS]
 gal:=λ{l q i Q st} H u v B T h=>by
  have H:i<=a.size:=H;have F:i≠0:=λz=>B (by subst z;rfl);refine vZ (P:=[]) (x:=a.toList.take i) (T:=a.toList.drop i) (by simp) rfl (by simpa using by lia) n (r.sublist (S7 ..)) u v (by lia) (λc d=>T c<|TC.mpr d) λk j f m=>?_;have g:=px (a:=a) k<|i-k;rw[show k+(i-k)=i by lia]at g;rw[List.drop_take,<-g]at m;rw[U4,show min k i=k by lia]at f;refine h k (Oz j H) ?_ (λc d=>m c<|by simpa[Lq]using d) (λc d=>f c<|TC.mp d) λD=>?_
  ·show(a.toList.take i).reverse=(a.extract k i).reverse.toList++(a.toList.take k).reverse
   rw[Xo,<-List.reverse_append,g,<-List.take_add,show k+(i-k)=i by lia]
  show(a.extract k i).reverse.toList=[]
  rw[Xo,g,show i-k=0 from Wp D];rfl
theorem Ke(p:R)(i j:Nat):(Ge a b p i j).toList=p.toList++(a.toList.drop i++b.toList.drop j):=by
 simp[Ge,Nn]
theorem Kf(p:R)(i j:Nat):(Jw a b p i j).toList=p.toList++(b.toList.drop j++a.toList.drop i):=by
 simp[Jw,Nn]
theorem Kg(p:R):(Gf a b p i j).toList=(p.toList++((b.toList.take j).reverse++(a.toList.take i).reverse)).reverse:=by
 simp[Gf]
theorem Kh(p:R):(Jx a b p i j).toList=(p.toList++((a.toList.take i).reverse++(b.toList.take j).reverse)).reverse:=by
 simp[Jx]
section
variable (ka:C.Oks a)(kb:C.Oks b)(sa:a.toList.Pairwise C.lo)(sb:b.toList.Pairwise C.lo)(nd:((a.toList++b.toList).map C.num).Nodup)
include ka kb sa sb nd
theorem Ic(g:∀c∈b.toList,∀p∈a.toList.drop (a.size-1),C.lo c p):Ia C (DN a b) C.lo (a.toList++b.toList) 2 1:=by
 have l:∀i,((DN a b).a.v i).length=a.size-i:=λi=>by show(a.toList.drop i).length=_;simp
 have f:∀j,((DN a b).b.v j).length=b.size-j:=λj=>by show(b.toList.drop j).length=_;simp
 have D:∀{o i j},MS (DN a b) C.lo (a.toList++b.toList) o i j->(i=a.size\/j=b.size)->r9 C (a.toList++b.toList) (Ge a b o i j):=λ{o i j} m e=>by
  unfold r9;rw[Ke];exact⟨m.m.p,m.m.end1<|e.imp (λe=>OO.mp<|by rw[l];lia) λe=>OO.mp<|by rw[f];lia⟩
 have L:∀{o i j},MS (DN a b) C.lo (a.toList++b.toList) o i j->i+1=a.size->r9 C (a.toList++b.toList) (Jw a b o i j):=λ{o i j} m e=>by
  have d:=Qd (l:=a.toList) (i:=i) (by simpa using by lia);rw[Ro (l:=a.toList) (i:=i+1)<|by simpa using by lia]at d;have M:MI C.lo (a.toList++b.toList) o.toList (a.toList.drop i) (b.toList.drop j):=m.m;unfold r9;rw[Kf,d];rw[d]at M;exact⟨M.sw.p,M.end2 (λ_ _ _=>QD) λc k=>g c (Ua k) _<|by rw[show a.size-1=i by lia,d];exact Nd.mpr rfl⟩
 refine⟨rfl,rfl,rfl,rfl,rfl,by simp[DN],λ_ _ _=>QD,nd,λc k=>(NB.mp k).elim (ka c)<|kb c,Ag ka sa,Ag kb sb,by decide,by decide,λ{u p q x y Q st} N r t=>?_,λm n H h=>?_,λm n H h=>?_,λm H h=>?_,λm H h=>?_⟩
 ·exact dJ (λe=>t<|N0 e) λe=>r<|(Yo<|p2.mp λz=>e<|Ng z).resolve_right N
 ·rw[l]at n h;exact hU (λe=>H _<|L m e) λe=>h (by lia)
 ·rw[f]at h;have:_<=b.size:=m.j;exact hU (λe=>H _<|D m<|.inr e) λe=>h (by lia)
 ·rw[l]at h;have:_<=a.size:=m.i;exact hU (λe=>H _<|L m e) λe=>hU (λe=>H _<|D m<|.inl e) λe=>h (by lia)
 rw[f]at h;have:_<=b.size:=m.j;exact hU (λe=>H _<|D m<|.inr e) λe=>h (by lia)
theorem Id(g:∀c∈a.toList,∀q∈b.toList.take 1,C.lo q c):Ia C (Ac a b) (λx y=>C.lo y x) (a.toList++b.toList) 1 2:=by
 have n:∀i,((Ac a b).a.v i).length=min i a.size:=λi=>by show(a.toList.take i).reverse.length=_;simp
 have r:∀j,((Ac a b).b.v j).length=min j b.size:=λj=>by show(b.toList.take j).reverse.length=_;simp
 have v:∀{l:gV OF},l.Perm (a.toList++b.toList)->l.Pairwise (λx y=>C.lo y x)->l.reverse.Perm (a.toList++b.toList)/\l.reverse.Pairwise C.lo:=λd f=>⟨(Vq _).trans d,Tq.mpr f⟩;have D:∀{o i j},MS (Ac a b) (λx y=>C.lo y x) (a.toList++b.toList) o i j->(i=0\/j=0)->r9 C (a.toList++b.toList) (Gf a b o i j):=λ{o i j} m e=>by
  unfold r9;rw[Kg];exact v m.m.sw.p (m.m.sw.end1<|e.symm.imp (λe=>by subst e;rfl) λe=>by subst e;rfl)
 have L:∀{o i j},MS (Ac a b) (λx y=>C.lo y x) (a.toList++b.toList) o i j->j=1->r9 C (a.toList++b.toList) (Jx a b o i j):=λ{o i j} m e=>by
  subst e;have B:1<=b.size:=m.j;have t:=S6 (l:=b.toList) (i:=0) (by simpa using by lia);have M:MI (λx y=>C.lo y x) (a.toList++b.toList) o.toList (a.toList.take i).reverse (b.toList.take 1).reverse:=m.m;unfold r9;rw[Kh,t];rw[t]at M g;exact v M.p<|M.sw.end2 (λ_ _ _ d f=>QD f d) λc k=>g c (QX<|TC.mp k) _<|Nd.mpr rfl
 refine⟨rfl,rfl,rfl,rfl,rfl,by simp[Ac],λ_ _ _ d f=>QD f d,nd,λc k=>(NB.mp k).elim (ka c)<|kb c,Ah ka sa,Ah kb sb,by decide,by decide,λ{F p q x y Q st} N d f=>?_,λm u H h=>?_,λm u H h=>?_,λm H h=>?_,λm H h=>?_⟩
 ·exact dJ (λe=>d<|N0 e) λe=>f<|(Yo<|p2.mp λz=>e<|Ng z).resolve_right N
 ·rw[n]at h;have:_<=a.size:=m.i;exact hU (λe=>H _<|D m<|.inl e) λe=>h (by lia)
 ·rw[r]at u h;have:_<=b.size:=m.j;exact hU (λe=>H _<|L m e) λe=>h (by lia)
 ·rw[n]at h;have:_<=a.size:=m.i;exact hU (λe=>H _<|D m<|.inl e) λe=>h (by lia)
 rw[r]at h;have:_<=b.size:=m.j;exact hU (λe=>H _<|L m e) λe=>hU (λe=>H _<|D m<|.inr e) λe=>h (by lia)
variable (hk:kindOf st=C.kd)(na:1<=a.size)(nb:1<=b.size)(g0:∀ c∈a.toList,∀ q∈b.toList.take 1,C.lo q c)(g1:∀ c∈b.toList,∀ p∈a.toList.drop (a.size-1),C.lo c p){Q:R->OI->Prop}(h:∀ x PX,gh st PX->r9 C (a.toList++b.toList) x->Q x PX)
include hk na nb g0 g1 h
theorem L9:C.W (L7 a b) Q st:=by
 have K:=Ic ka kb sa sb nd g1;obtain⟨p,t,e⟩:=pr (l:=(DN a b).a.v 0) (Na 1) (by show 1<=(a.toList.drop 0).length;simpa using na);obtain⟨q,u,d⟩:=pr (l:=(DN a b).b.v 0) (Na 1) (by show 1<=(b.toList.drop 0).length;simpa using nb);have m:MS (DN a b) C.lo (a.toList++b.toList) #[q] 0 1:=Af K (o:=#[]) (j:=0) ⟨⟨.refl _,sa,sb⟩,NA _,NA _⟩ e d (g0 p (by rw[show a.toList=p::t from e];simp) q<|by rw[show b.toList=q::u from d];simp);rw[HZ];refine NR<|W_<|QK ⟨rfl,NR<|dR (K.b.at_ (NA _) d).1 ?_⟩;have g:gh st st:=⟨rfl,rfl,rfl,rfl⟩;refine K.pb (f:=pure) m (ZY ..) (λx H=>Oa<|h x _ g H) λf=>K.pa (f:=pure) m ?_ (λx H=>Oa<|h x _ g H) λi=>Gg K hk ⟨m,i,f,?_⟩ h
 ·rw[e];simp
 show(a.toList.drop 0).length+(b.toList.drop 1).length+1<=_
 simp;lia
theorem L_:C.W (L8 a b) Q st:=by
 have K:=Id ka kb sa sb nd g0;obtain⟨p,t,d⟩:=pr (l:=(Ac a b).a.v a.size) (Na 1) (by show 1<=(a.toList.take a.size).reverse.length;simpa using na);obtain⟨q,u,f⟩:=pr (l:=(Ac a b).b.v b.size) (Na 1) (by show 1<=(b.toList.take b.size).reverse.length;simpa using nb);obtain⟨F,k,n⟩:=K.a.at_ (Na _) d;have v:∀{x:R},(x.toList.take x.size).reverse=x.toList.reverse:=λ{x}=>by rw[Nn<|by simp]
 have m:MS (Ac a b) (λx y=>C.lo y x) (a.toList++b.toList) #[p] (a.size-1) b.size:=by
  refine Ae K (o:=#[]) (i:=a.size) ⟨⟨?_,?_,?_⟩,Na _,Na _⟩ d f<|g1 q ?_ p ?_
  ·show((a.toList.take a.size).reverse++(b.toList.take b.size).reverse).Perm _
   rw[v,v];exact(Vq _).append<|Vq _
  ·show(a.toList.take a.size).reverse.Pairwise _
   rw[v];exact Tq.mpr sa
  ·show(b.toList.take b.size).reverse.Pairwise _
   rw[v];exact Tq.mpr sb
  ·exact TC.mp<|v▸(show q∈(Ac a b).b.v b.size by rw[f];simp)
  have:a.toList.drop (a.size-1)=[p]:=by
   have e:=Oe ti (show(a.toList.take a.size).reverse=p::t from d);rw[v,RS,Vr]at e;have l:=Oe PP e;simp at l;rw[e,Z0<|by simp;lia]
  rw[this];exact Nd.mpr rfl
 rw[H_];refine NR<|W_<|QK ⟨rfl,NR<|dR F ?_⟩;have g:gh st st:=⟨rfl,rfl,rfl,rfl⟩;refine K.pa (f:=pure) m (ZY ..) (λx H=>Oa<|h x _ g H) λi=>K.pb (f:=pure) m ?_ (λx H=>Oa<|h x _ g H) λj=>Gg K hk ⟨m,i,j,?_⟩ h
 ·rw[f];simp
 show(a.toList.take<|a.size-1).reverse.length+(b.toList.take b.size).reverse.length+1<=_
 simp;lia
end
end
section
variable {C:Cm prog w A E s}{a₀:R}{lo n:Nat}{st PX:OI}{xs:R}
structure Bs (C:Cm prog w A E s)(a₀:R):Prop where
 ok:C.Oks a₀
 nd:(a₀.toList.map C.num).Nodup
structure SL (C:Cm prog w A E s)(a₀:R)(lo:Nat)(st PX:OI):Prop where
 perm:(Ob PX).Perm a₀
 kind:kindOf PX=C.kd
 failed:Qg PX=M5
 pend:Ol PX=Ol st
 low:∀k,k<lo->(Ob PX)[k]?=(Ob st)[k]?
def Srt(C:Cm prog w A E s)(xs:R)(lo n:Nat):Prop:=∀i j,i<j->j<n->C.K xs (lo+i)<C.K xs (lo+j)
theorem Bs.of(b:Bs C a₀)(h:xs.Perm a₀):Bs C xs:=⟨λp H=>b.ok p<|(QM.mp h).mem_iff.mp H,((QM.mp h).map _).nodup_iff.mpr b.nd⟩
theorem Bs.ne(b:Bs C xs)(H:i<xs.size)(a:j<xs.size)(h:i≠j):C.K xs i≠C.K xs j:=by
 have:=(Pb.mp b.nd);unfold Cm.K;rw[Uw xs i H,Uw xs j a];intro e;obtain g|g:=Nat.lt_or_gt_of_ne h
 ·exact PF.mp this i j (by simpa using H) (by simpa using a) g (by simpa using e)
 exact PF.mp this j i (by simpa using a) (by simpa using H) g (by simpa using e.symm)
theorem Gh(h:j<=xs.size)(k:Nat):C.K (kG xs i j<|(j-i)/2) k=if i<=k/\k<j then C.K xs (i+j-1-k)else C.K xs k:=by
 unfold Cm.K;rw[XE h]
 split<;>rfl
theorem Gi(h:c<xs.size)(H:d<=c)(k:Nat):C.K (bubble xs c d) k=if k=c-d then C.K xs c else if c-d<k/\k<=c then C.K xs (k-1)else C.K xs k:=by
 unfold Cm.K;rw[ZV h d H]
 split
 ·rfl
 split<;>rfl
theorem Ai(b:Bs C (Ob st))(k:kindOf st=C.kd)(H:i<(Ob st).size)(a:j<(Ob st).size)(T:i≠j)(c:C.K (Ob st) i<C.K (Ob st) j->Q (B' MX) st)(d:C.K (Ob st) j<C.K (Ob st) i->Q (B' MW) st):C.W (ltAt' i j) Q st:=by
 obtain⟨p,f,l,m⟩:=HX b.ok H;obtain⟨P,h,I,e⟩:=HX b.ok a;have N:=b.ne H a T;rw[m,e]at c d N;rw[ltAt'_eq];refine NR<|Vn<|NR<|dR f<|NR<|dR h<|C.lt k l I ?_;by_cases g:C.num p<C.num P
 ·rw[Ng g];exact c g
 rw[M6 g];exact d (by lia)
theorem Srt.next(b:1<=x)(h:Srt C xs lo x)(g:C.K xs (lo+x-1)<C.K xs (lo+x)):Srt C xs lo (x+1):=λi j H c=>by
 by_cases a:j<x
 ·exact h i j H a
 obtain rfl:j=x:=by lia
 by_cases e:i=j-1
 ·rw[e,<-RC b];exact g
 have:=h i (j-1) (by lia) (by lia);rw[<-RC b]at this;exact QD this g
section
variable (b:Bs C a₀)(h:SL C a₀ lo st PX)(hn:lo+n<=a₀.size)
include b h hn
theorem Gj{f:Nat->MZ (MZ Nat)×Nat->Vy OI Sem (Rv<|MZ (MZ Nat)×Nat)}{Q:MZ (MZ Nat)×Nat->OI->Prop}(p:1<=k)(a:k<=n)(j:Srt C (Ob PX) lo k)
  (l:∀x n,f x (M5,n)=(do
   let r <-ltAt' (lo+n) (lo+n-1)
   match r with
   |some d=>if d=MX then pure (U_ (M5,n))else pure (Sx (M5,n+1))
   |_=>pure<|U_ (B' M5,n)))
  (q:∀m,k<=m->m<=n->Srt C (Ob PX) lo m->(m=n\/C.K (Ob PX) (lo+m)<C.K (Ob PX) (lo+m-1))->Q (M5,m) PX):C.W (forIn [k:n] ((M5,k):MZ (MZ Nat)×Nat) f) Q PX:=by
 refine Qb (I:=λx c e=>e=PX/\c=(M5,x)/\Srt C (Ob PX) lo x) ?_ ?_ ⟨rfl,rfl,j⟩
 ·rintro x c e i o ⟨rfl,rfl,H⟩;have:=h.perm.size_eq;rw[l];exact NR<|Ai (b.of h.perm) h.kind (by lia) (by lia) (by lia) (λg=>Oa<|q x i (by lia) H<|.inr g) λg=>Oa ⟨rfl,rfl,H.next (by lia) g⟩
 rintro c e ⟨rfl,rfl,H⟩;rw[show max k n=n by lia]at H ⊢;exact q n a (Na _) H<|.inl rfl
theorem Ki(t:1<=n)(q:∀m a,SL C a₀ lo st a->1<=m->m<=n->Srt C (Ob a) lo m->Q (B' m) a):C.W (countRun' lo n) Q PX:=by
 have z:=h.perm.size_eq;rw[countRun'_eq];refine NR<|Gj b h hn (Na 1) t (λi j _ _=>by lia) (λ_ _=>rfl) λm M d f r=>?_;dsimp only;refine dJ (λe=>Oa<|q m _ h M d f) λe=>?_;have y:=r.resolve_left (show¬m=n by simpa using e);have B:m<n:=Nat.lt_of_le_of_ne d (show¬m=n by simpa using e);refine dJ (λg=>NR<|Ai (b.of h.perm) h.kind (by lia) (by lia) (by lia) (λ_=>Oa<|q m _ h M d f) λG=>?_) λg=>?_
 ·have:=f 0 (m-1) (by lia) (by lia);rw[Wr,<-RC M]at this;exact absurd G (by lia)
 obtain rfl:m=1:=by lia
 refine NR<|W_<|QK ⟨rfl,?_⟩;refine NR<|Ra (Qb (I:=λx c a=>a=PX/\c=(M5,x,0)/\∀i j,i<j->j<x->C.K (Ob PX) (lo+j)<C.K (Ob PX) (lo+i)) (Q:=λc a=>a=PX/\∃m,c=(M5,m,0)/\2<=m/\m<=n/\∀i j,i<j->j<m->C.K (Ob PX) (lo+j)<C.K (Ob PX) (lo+i)) ?_ ?_ ⟨rfl,rfl,λi j I D=>?_⟩) ?_
 ·rintro x c a l F ⟨rfl,rfl,H⟩;dsimp only;refine NR<|Ai (b.of h.perm) h.kind (by lia) (by lia) (by lia) (λg=>Oa ⟨rfl,rfl,λi j I D=>?_⟩) λg=>?_
  ·by_cases J:j<x
   ·exact H i j I J
   obtain rfl:j=x:=by lia
   by_cases e:i=j-1
   ·rw[e,<-RC<|by lia];exact g
   have:=H i (j-1) (by lia) (by lia);rw[<-RC<|by lia]at this;exact QD g this
  exact NR (Ai (b.of h.perm) h.kind (by lia) (by lia) (by lia) (λ_=>Oa ⟨rfl,x,rfl,l,by lia,H⟩) λG=>absurd G<|by lia)
 ·rintro c a ⟨rfl,rfl,H⟩;rw[show max (1+1) n=n by lia]at H ⊢;exact⟨rfl,n,rfl,by lia,Na _,H⟩
 ·obtain rfl:i=0:=by lia
  obtain rfl:j=1:=by lia
  exact y
 rintro c a ⟨rfl,m,rfl,U,L,H⟩;dsimp only;have p:SL C a₀ lo st (kH a<|kG (Ob a) lo (lo+m)<|(lo+m-lo)/2):=⟨(mirror_perm _ _ _ _).trans h.perm,h.kind,h.failed,h.pend,λk N=>by
  show(kG (Ob a) lo (lo+m)<|(lo+m-lo)/2)[k]?=_
  rw[XE (by lia),Np<|by lia];exact h.low k N⟩
 refine NR<|wpS_reverse<|NR<|Gj b p hn (by lia) L (λu v O W=>?_) (λ_ _=>rfl) λP X T o _=>Oa<|q P _ p (by lia) T o;show C.K (kG (Ob a) lo (lo+m)<|(lo+m-lo)/2) (lo+u)<C.K (kG (Ob a) lo (lo+m)<|(lo+m-lo)/2) (lo+v)
 rw[Gh (by lia),Gh (by lia),Nt (by lia),Nt<|by lia];have:=H (m-1-v) (m-1-u) (by lia) (by lia)
 rwa [show lo+(lo+m)-1-(lo+u)=lo+(m-1-u) by lia,show lo+(lo+m)-1-(lo+v)=lo+(m-1-v) by lia]
theorem Kj{Q:Nf->OI->Prop}(z:ok<=n)(D:1<=n)(F:Srt C (Ob PX) lo ok)
  (q:∀a,SL C a₀ lo st a->Srt C (Ob a) lo n->Q MX a):C.W (binarySort' lo n ok) Q PX:=by
 rw[binarySort'_eq];refine NR (Ra (Qb (I:=λk c a=>c=(M5,())/\SL C a₀ lo st a/\Srt C (Ob a) lo (min k n))
  (Q:=λc a=>c=(M5,())/\SL C a₀ lo st a/\Srt C (Ob a) lo n) ?_ ?_ ⟨rfl,h,λi j o I=>F i j o<|by lia⟩) ?_)
 ·rintro k c a J L ⟨rfl,H,d⟩;rw[show min k n=k by lia]at d;have M:=H.perm.size_eq;have N:=b.of H.perm;refine NR (Ra (Qb (I:=λx c Y=>Y=a/\∃l r,c=(M5,l,r)/\l<=r/\r<=k/\r-l<=k-x/\(∀i,i<l->C.K (Ob a) (lo+i)<C.K (Ob a) (lo+k))/\(∀i,r<=i->i<k->C.K (Ob a) (lo+k)<C.K (Ob a) (lo+i)))
   (Q:=λc Y=>Y=a/\∃l,c=(M5,l,l)/\l<=k/\(∀i,i<l->C.K (Ob a) (lo+i)<C.K (Ob a) (lo+k))/\(∀i,l<=i->i<k->C.K (Ob a) (lo+k)<C.K (Ob a) (lo+i))) ?_ ?_ ⟨rfl,0,k,rfl,by lia,by lia,by lia,λi X=>by lia,λi D H=>by lia⟩) ?_)
  ·rintro x c Y _ Z ⟨rfl,l,r,rfl,O,t,P,B,f⟩;dsimp only;refine dJ (λg=>?_) λg=>NR<|Ai N H.kind (by lia) (by lia) (by lia) (λG=>Oa ⟨rfl,l,(l+r)/2,rfl,by lia,by lia,by lia,B,λi p y=>?_⟩) λG=>Oa ⟨rfl,(l+r)/2+1,r,rfl,by lia,by lia,by lia,λi p=>?_,f⟩
   ·obtain rfl:l=r:=by lia
    exact Oa ⟨rfl,l,rfl,t,B,f⟩
   ·obtain e|e:=SF p
    ·exact e▸G
    exact QD G<|d _ _ e y
   obtain e|e:=SF (Vp p)
   ·exact e▸G
   exact QD (d _ _ e<|by lia) G
  ·rintro c Y ⟨rfl,l,r,rfl,O,t,P,B,f⟩;obtain rfl:l=r:=by lia
   exact⟨rfl,l,rfl,t,B,f⟩
  rintro c Y ⟨rfl,l,rfl,t,B,f⟩;dsimp only;rw[moveDown'_eq];refine NR<|Wg<|Oa ⟨rfl,⟨(bubble_perm _ _ _).trans H.perm,H.kind,H.failed,H.pend,λm T=>?_⟩,λi j o I=>?_⟩
  ·show(bubble (Ob Y) (lo+k)<|lo+k-(lo+l))[m]?=_
   rw[ZV (by lia) _ (by lia),Np (by lia),Np<|by lia];exact H.low m T
  show C.K (bubble (Ob Y) (lo+k)<|lo+k-(lo+l)) (lo+i)<C.K (bubble (Ob Y) (lo+k)<|lo+k-(lo+l)) (lo+j)
  rw[Gi (by lia) (by lia),Gi (by lia) (by lia),show lo+k-(lo+k-(lo+l))=lo+l by lia];have sub:∀u v,lo<=u->u<v->v<lo+k->C.K (Ob Y) u<C.K (Ob Y) v:=λu v p y c3=>by
   have:=d (u-lo) (v-lo) (by lia) (by lia)
   rwa [show lo+(u-lo)=u by lia,show lo+(v-lo)=v by lia]at this
  have U:∀u,lo+l<=u->u<lo+k->C.K (Ob Y) (lo+k)<C.K (Ob Y) u:=λu p y=>by
   have:=f (u-lo) (by lia) (by lia)
   rwa [show lo+(u-lo)=u by lia]at this
  repeat' split
  all_goals first
   |lia
   |exact B _ (by lia)
   |exact U _ (by lia) (by lia)
   |exact sub _ _ (by lia) (by lia) (by lia)
 ·rintro c a ⟨W,H,d⟩;exact⟨W,H,by rwa [show min (max (max ok 1) n) n=n by lia]at d⟩
 rintro c a ⟨rfl,H,d⟩;exact Oa<|q a H d
end
end
theorem uy(i:Nat):YR i=(do
 let t <-get
 let (B' (s,n,A),B' (b,N,_)):=((Ol t)[i]?,(Ol t)[i+1]?)|unsupported "internal:list.sort.pending"
 set (Wi t<|((Ol t).setIfInBounds i (s,n+N,A)).eraseIdxIfInBounds<|i+1)
 let B' k <-gW MW (<-V1 (Ob t) b) (Ob t) s n 0|return MW
 let (s,n):=(s+k,n-k)
 if n == 0 then return MX
 let B' N <-gW MX (<-V1 (Ob t)<|s+n-1) (Ob t) b N (N-1)|return MW
 if N == 0 then return MX
 let x:=(Ob t).extract s b
 let y:=(Ob t).extract b (b+N)
 let m <-if n<=N then L7 x y else L8 x y
 lh λt=>kH t (m.toList.zipIdx.foldl (λa (p,j)=>a.setIfInBounds (s+j) p)<|Ob t)
 return (Qg (<-get)).isNone):=rfl
theorem Gk(b:Nat):∀(m x P T:gV OF) (k:Nat) (a:R),b+k=P.length->m.length=x.length->a.toList=P++(x++T)->((m.zipIdx k).foldl (λa (q:OF×Nat)=>a.setIfInBounds (b+q.2) q.1) a).toList=P++(m++T)
 |[],x,P,T,k,a,_,h,e=>by
  obtain rfl:x=[]:=OO.mp h.symm;exact e
 |p::m,[],P,T,k,a,_,h,e=>by cases h
 |p::m,y::x,P,T,k,a,H,h,e=>by
  have:=Gk b m x (P++[p]) T (k+1) (a.setIfInBounds (b+k) p) (by simpa using by lia) (by simpa using h) (by rw[U9,e,H];simp);simpa using this
section
variable {C:Cm prog w A E s}{st:OI}
theorem Ma{x X y Y z:gV OF}(h:(x++X).Pairwise C.lo)(H:(y++Y).Pairwise C.lo)(a:∀c∈x,∀d∈y++Y,C.lo c d)(b:∀d∈Y,∀c∈x++X,C.lo c d)(r:z.Perm (X++y))(s:z.Pairwise C.lo):(x++(z++Y)).Pairwise C.lo:=by
 have m:∀c∈z,c∈X\/c∈y:=λc e=>NB.mp<|r.mem_iff.mp e;simp only[P8,NB]at h H a b ⊢
 grind
theorem Kk{prog:Nm}{w:NF}{A:Ou}{E:J'->M3->Prop}{s:M3}{Q:Vx->OI->Prop}{x:OI}(h:Q () x):wpS (ND prog w) A E s (set x:Vy OI Sem Vx) Q st:=by
 unfold wpS;rw[StateT.run_set];exact M9 ⟨rfl,h⟩
theorem Es{T:gV OF}{Q:Nf->OI->Prop}(b:Bs C (Ob st))(r:kindOf st=C.kd)(O:Qg st=M5)(e:(Ol st).toList=l1++(P.length,x.length,I)::(P.length+x.length,y.length,pb)::l2)(hi:l1.length=i)
  (g:(Ob st).toList=P++(x++(y++T))) (n1:x≠[]) (n2:y≠[]) (u:x.Pairwise C.lo) (G:y.Pairwise C.lo)
  (q:∀z J,kindOf J=C.kd->Qg J=M5->(Ol J).toList=l1++(P.length,x.length+y.length,I)::l2->(Ob J).toList=P++(z++T)->z.Perm (x++y)->z.Pairwise C.lo->Q MX J):C.W (YR i) Q st:=by
 obtain⟨e1,e2,e3⟩:(Ol st)[i]?=B' (P.length,x.length,I)/\(Ol st)[i+1]?=B' (P.length+x.length,y.length,pb)/\(((Ol st).setIfInBounds i (P.length,x.length+y.length,I)).eraseIdxIfInBounds (i+1)).toList=l1++(P.length,x.length+y.length,I)::l2:=by
  rw[<-NZ,<-NZ,Array.toList_eraseIdxIfInBounds,U9,e];subst hi;simp[List.eraseIdx_append];lia
 have hl:=Oe PP g;simp only[M7,NH]at hl;have U:=b.nd;rw[g,NI,NI]at U;have ne:∀c∈x,∀d∈y,C.num c≠C.num d:=λc h d H=>(Pg.mp (Pg.mp U).2.1).2.2 _ (Pp h) _<|Pp<|Pw _ H;have ab:((x++y).map C.num).Nodup:=(NI▸(Pg.mp U).2.1).sublist (by simp);clear U;obtain⟨f,Y,rfl⟩:=List.exists_cons_of_ne_nil n2;obtain⟨v,l,rfl⟩:∃v l,x=v++[l]:=⟨_,_,(Um n1).symm⟩;have ac:(Ob st)[P.length+(v++[l]).length]?=B' f:=by
  rw[<-NZ,g,<-N1,N7<|by simp];simp
 have an:(Ob st)[P.length+v.length]?=B' l:=by
  rw[<-NZ,g];simp
 have oq:C.ok f:=b.ok f (by rw[g];simp);have op:C.ok l:=b.ok l (by rw[g];simp);rw[uy];refine NR<|Vn ?_;rw[e1,e2];dsimp only;refine NR<|Kk<|NR<|dR ac<|NR<|vZ g rfl rfl b.ok u r oq (by simp) (λc h=>ne c h f<|by simp) λk k1 k2 k3=>?_;dsimp only;generalize W:v++[l]=X at*;have a1:∀c∈X.take k,∀d∈f::Y,C.lo c d:=λc h d H=>by
  obtain rfl|H:=Nz.mp H
  ·exact k2 c h
  exact QD (k2 c h)<|U' G H
 refine hU (λe=>Oa<|q (X++f::Y) _ r O e3 (by rw[N1];exact g) (.refl _)<|P8.mpr ⟨u,G,λc h=>a1 c ?_⟩) λen=>?_
 ·rwa [Nn<|by lia]
 have as:=Oe PP W;simp only[M7,NG]at as;rw[show P.length+k+(X.length-k)-1=P.length+v.length by lia];refine NR<|dR an<|NR<|vZ (P:=P++X) (x:=f::Y) (T:=T) (by simpa using g) (by simp) rfl b.ok G r op (by simp) (λd H=>(ne l (by simp[<-W]) d H).symm) λn m1 m2 m3=>?_;dsimp only;have a2:∀d∈(f::Y).drop n,∀c∈X,C.lo c d:=λd H c h=>by
  rw[<-W]at h u;obtain h|h:=NB.mp h
  ·exact QD ((P8.mp u).2.2 c h l<|Nd.mpr rfl)<|m3 d H
  exact Nd.mp h▸m3 d H
 refine hU (λe=>Oa<|q (X++f::Y) _ r O e3 (by rw[N1];exact g) (.refl _)<|P8.mpr ⟨u,G,λc h d H=>a2 d ?_ c h⟩) λaF=>?_
 ·subst e;exact H
 have B:((Ob st).extract (P.length+k)<|P.length+X.length).toList=X.drop k:=by
  have:=px (a:=Ob st) (P.length+k)<|X.length-k;rw[show P.length+k+(X.length-k)=P.length+X.length by lia]at this;rw[this,g,<-U6,Xj,List.drop_append_of_le_length k1,List.take_left'<|by simp]
 have D:((Ob st).extract (P.length+X.length)<|P.length+X.length+n).toList=(f::Y).take n:=by
  rw[px,g,<-N1,Z0 (by simp),Qt m1]
 have o:=PQ n<|f::Y;have Z:=PQ k X;have kX:C.Oks ((Ob st).extract (P.length+k)<|P.length+X.length):=λc h=>b.ok c (by rw[B]at h;rw[g];simp[Ua h]);have kY:C.Oks ((Ob st).extract (P.length+X.length)<|P.length+X.length+n):=λc h=>b.ok c (by rw[D]at h;rw[g];simp only[NB];exact .inr<|.inr<|.inl<|QX h);have az:((X.drop k++(f::Y).take n).map C.num).Nodup:=ab.sublist<|((Vu ..).append (S7 ..)).map _;have sz:((Ob st).extract (P.length+k)<|P.length+X.length).size=X.length-k:=by rw[<-NH,B,Pc]
 have aC:((Ob st).extract (P.length+X.length)<|P.length+X.length+n).size=n:=by rw[<-NH,D,NO];lia
 have L:∀m F,gh (Wi st<|((Ol st).setIfInBounds i (P.length,X.length+(f::Y).length,I)).eraseIdxIfInBounds<|i+1) F->r9 C (((Ob st).extract (P.length+k)<|P.length+X.length).toList++((Ob st).extract (P.length+X.length)<|P.length+X.length+n).toList) m->C.W (do
   lh λt=>kH t (m.toList.zipIdx.foldl (λa (p,j)=>a.setIfInBounds (P.length+k+j) p)<|Ob t)
   return (Qg (<-get)).isNone) Q F:=λm F M N=>by
  rw[B,D]at N;refine NR<|Wg<|NR<|Vn ?_;rw[show(Qg<|kH F _).isNone=MX by rw[show Qg (kH F _)=M5 from M.2.2.2.trans O];rfl];refine Oa<|q (X.take k++(m.toList++(f::Y).drop n)) _ (M.1.trans r) (M.2.2.2.trans O) (M.2.2.1▸e3) ?_ ?_<|Ma (Z.symm▸u) (o.symm▸G) (o.symm▸a1) (Z.symm▸a2) N.1 N.2
  ·have:=Gk (P.length+k) m.toList (X.drop k++(f::Y).take n) (P++X.take k) ((f::Y).drop n++T) 0 (Ob F) (by simpa using by lia) N.1.length_eq (by
    rw[show Ob F=Ob st from M.2.1,g];simp only[N1];rw[<-N1<|List.take n _,o,<-N1<|X.take k,Z])
   simpa using this
  refine(N.1.append_right _|>.append_left _).trans ?_;rw[N1,o,<-N1,Z]
 refine dJ (λ_=>NR<|L9 kX kY ?_ ?_ ?_ (by exact r) ?_ ?_ ?_ ?_ L) λ_=>NR<|L_ kX kY ?_ ?_ ?_ (by exact r) ?_ ?_ ?_ ?_ L
 all_goals first
  |(rw[B,D];exact az)
  |(rw[B];exact u.sublist (Vu ..))
  |(rw[D];exact G.sublist (S7 ..))
  |(rw[sz];lia)
  |(rw[aC];lia)
  |(rw[B,D,U4]
    intro c h d H;rw[show min 1 n=1 by lia]at H;exact Nd.mp H▸k3 c h)
  |(rw[D,B,sz,U6,show k+(X.length-k-1)=v.length by lia,<-W]
    intro c h d H;rw[Xj]at H;exact Nd.mp H▸m2 c h)
end
noncomputable def Mb(lo n:Nat):S (Rv<|MZ Vx×Nat):=do
 lh λs=>Wi s ((Ol s).push (lo,n,0))
 return .yield (M5,lo+n)
noncomputable def Ls(e lo n:Nat):S (Rv<|MZ Vx×Nat):=do
 match (Ol (<-get)).back? with
 |some (b,N,_)=>
  let P:=power' e (2*b+N) (2*b+N+N+n) e
  let c <-forIn [0:e] ((M5,()):MZ Vx×Vx) λ_ _=>do
   let p:=Ol (<-get)
   match (if p.size>1 then p[p.size-2]? else M5)with
   |some (_,_,a)=>
    if a<=P then return .done (M5,())
    else if(!(<-YR<|p.size-2))=MX then return .done (B' (),())
    else return .yield (M5,())
   |_=>return .done (M5,())
  match c.1 with
  |some r=>return .done (B' r,lo)
  |none=>
   lh λs=>Wi s ((Ol s).modify ((Ol s).size-1) λ(st,len,_)=>(st,len,P))
   Mb lo n
 |_=>Mb lo n
theorem Et:sortRuns'=(do
 let s:=(Ob (<-get)).size
 let c <-forIn [0:s] ((M5,0):MZ Vx×Nat) λ_ c=>do
  if c.2>=s then return .done (M5,c.2)
  else
   let B' n <-countRun' c.2 (s-c.2)|return .done (B' (),c.2)
   if n<Z8 s s 0 then
    rule "list.sort.binary-insertion"
    if(!(<-binarySort' c.2 (min (s-c.2)<|Z8 s s 0) n))=MX then return .done (B' (),c.2)
    else Ls s c.2 (min (s-c.2)<|Z8 s s 0)
   else Ls s c.2 n
 match c.1 with
 |some r=>return r
 |none=>
  for _ in [0:s] do
   let p:=Ol (<-get)
   if p.size<=1 then break
   let i:=p.size-2
   let b:=if i>0 then p[i-1]?.map (·.2.1)else M5
   let i:=if b.any (· < (p[i+1]?.elim 0 (·.2.1)))then i-1 else i
   if !(<-YR i)then return):=by kernel_rfl
section
variable {C:Cm prog w A E s}{a₀:R}{hi:Nat}{st:OI}
inductive Rn (C:Cm prog w A E s):Nat->gV (Nat×Nat×Nat)->gV OF->Prop
 |nil (lo:Nat):Rn C lo [] []
 |cons {lo p:Nat} {r:gV (Nat×Nat×Nat)} {x t:gV OF} (h:x≠[]) (H:x.Pairwise C.lo) (a:Rn C (lo+x.length) r t):Rn C lo ((lo,x.length,p)::r) (x++t)
theorem Rn.app{lo:Nat}{l L:gV (Nat×Nat×Nat)}{t T:gV OF}(h:Rn C lo l t)(h':Rn C (lo+t.length) L T):Rn C lo (l++L) (t++T):=by
 induction h with
 |nil=>exact h'
 |cons a b _ i=>
  rw[N1];exact .cons a b (i<|by rwa [M7,<-VE]at h')
theorem Rn.split:∀{l:gV (Nat×Nat×Nat)} {lo:Nat} {t:gV OF},Rn C lo (l++L) t->∃T c,t=T++c/\Rn C lo l T/\Rn C (lo+T.length) L c
 |[],lo,t,h=>⟨[],t,rfl,.nil _,h⟩
 |_::l,_,_,.cons (x:=x) a b h=>by
  obtain⟨T,c,rfl,H,d⟩:=Rn.split h;exact⟨x++T,c,by simp,.cons a b H,by rwa [M7,<-VE]⟩
theorem Rn.pow:∀{lo:Nat} {l L:gV (Nat×Nat×Nat)} {t:gV OF},Rn C lo l t->L.map (λq=>(q.1,q.2.1))=l.map (λq=>(q.1,q.2.1))->Rn C lo L t
 |_,_,[],_,.nil lo,_=>.nil lo
 |_,_,_::_,_,.nil lo,e=>by cases e
 |_,_,[],_,.cons a b t,e=>by cases e
 |_,_,(u,v,p)::L,_,.cons a b t,e=>by
  obtain⟨c,d⟩:=Ya e;cases c;exact .cons a b<|t.pow d
theorem Rn.len{lo:Nat}{l:gV (Nat×Nat×Nat)}{t:gV OF}(h:Rn C lo l t):l.length<=t.length:=by
 induction h with
 |nil=>exact Na _
 |cons a _ _ i=>
  have:=Q6.mpr a;rw[NC,M7];lia
structure SR (C:Cm prog w A E s)(a₀:R)(hi:Nat)(u:gV OF)(st:OI):Prop where
 perm:(Ob st).Perm a₀
 kind:kindOf st=C.kd
 failed:Qg st=M5
 runs:∃t,(Ob st).toList=t++u/\t.length=hi/\Rn C 0 (Ol st).toList t
variable {u:gV OF}
theorem Aj(b:Bs C a₀)(h:SR C a₀ hi u st)(I:i+1<(Ol st).size)(q:∀p,SR C a₀ hi u p->(Ol p).size+1=(Ol st).size->Q MX p):C.W (YR i) Q st:=by
 obtain⟨t,c,g,H⟩:=h.runs;have a:(Ol st).toList=(Ol st).toList.take i++((Ol st)[i]::(Ol st)[i+1]::(Ol st).toList.drop (i+2)):=by
  rw[<-Xq,<-Xq,<-Qd,<-Qd,PQ]
 rw[a]at H;obtain⟨P,J,rfl,j,r⟩:=H.split;rw[Qn]at r;generalize (Ol st)[i]=L,(Ol st)[i+1]=M,(Ol st).toList.drop (i+2)=O at a r;cases r with
 |cons n m o=>
  cases o with
  |@cons _ _ _ y T N v U=>
   rw[N1,N1,N1]at c;refine Es (b.of h.perm) h.kind h.failed a (by simp;lia) c n N m v λz p x B k d f D=>?_;have l:=f.length_eq;rw[M7]at l;refine q p ⟨?_,x,B,P++(z++T),by rw[d];simp,?_,?_⟩ ?_
   ·refine .trans (QM.mpr ?_) h.perm;have:=(f.append_right<|T++u).append_left P;rw[N1]at this
    rwa [d,c]
   ·rw[<-g];simp[l,VE]
   ·rw[k,<-l];exact j.app (by rw[Qn];exact .cons (λe=>n<|by rw[e]at l;exact OO.mp<|by simp at l;lia) D<|by rwa [l,<-VE])
   have F:=Oe PP k;have G:=Oe PP a;simp only[M7,NC,NH]at F G;lia
theorem SR.push(h:SR C a₀ hi u st)(d:1<=n)(f:n<=u.length)(a:(u.take n).Pairwise C.lo):SR C a₀ (hi+n) (u.drop n) (Wi st<|(Ol st).push (hi,n,0)):=by
 obtain⟨t,b,c,r⟩:=h.runs;subst c;have H:(u.take n).length=n:=by rw[NO];lia
 refine⟨h.perm,h.kind,h.failed,t++u.take n,by rw[N1,PQ];exact b,by rw[M7,H],?_⟩;show Rn C 0 ((Ol st).push (t.length,n,0)).toList _
 rw[RH];refine r.app ?_;have:=Rn.cons (C:=C) (lo:=t.length) (p:=0) (x:=u.take n) (λe=>by rw[e]at H;simp at H;lia) a<|.nil _;rw[Qn]
 rwa [H,OQ]at this
theorem Gm{n lo:Nat}{Q:Rv (MZ Vx×Nat)->OI->Prop}(h:SR C a₀ lo u st)(H:1<=n)(a:n<=u.length)(b:(u.take n).Pairwise C.lo)(q:∀P,SR C a₀ (lo+n) (u.drop n) P->Q (.yield (M5,lo+n)) P):C.W (Mb lo n) Q st:=
 NR (Wg<|Oa<|q _<|h.push H a b)
theorem Eu{b c:Type}(g:b->c)(f:b->b)(h:∀x,g (f x)=g x)(l:gV b)(i:Nat):(l.modify i f).map g=l.map g:=by
 refine RF λj=>?_;rw[Nu,Nu,List.getElem?_modify];cases l[j]? with
 |none=>rfl
 |some a=>
  show B' (g (if i=j then f a else a))=B' (g a)
  split
  ·rw[h]
  rfl
theorem Gn{d n lo:Nat}{Q:Rv (MZ Vx×Nat)->OI->Prop}(b:Bs C a₀)(h:SR C a₀ lo u st)(H:1<=n)(f:n<=u.length)(g:(u.take n).Pairwise C.lo)(q:∀P,SR C a₀ (lo+n) (u.drop n) P->Q (.yield (M5,lo+n)) P):C.W (Ls d lo n) Q st:=by
 unfold Ls;refine NR<|Vn ?_
 split
 ·refine NR<|Ra (Qb (I:=λ_ c a=>c=(M5,())/\SR C a₀ lo u a) (Q:=λc a=>c=(M5,())/\SR C a₀ lo u a) ?_ (λ_ _ z=>z) ⟨rfl,h⟩) ?_
  ·rintro y c a _ _ ⟨rfl,r⟩;refine NR<|Vn ?_;dsimp only
   split
   ·rename_i e;have i:(Ol a).size>1:=by
     split at e
     ·assumption
     cases e
    exact dJ (λ_=>Oa ⟨rfl,r⟩) λ_=>NR<|Aj b r (by lia) λj k _=>Oa ⟨rfl,k⟩
   exact Oa ⟨rfl,r⟩
  rintro c a ⟨rfl,r⟩;obtain⟨t,l,m,o⟩:=r.runs;refine NR<|Wg<|Gm ⟨r.perm,r.kind,r.failed,t,l,m,o.pow ?_⟩ H f g q;show l5 _ ((Ol a).modify _ _).toList=_
  rw[Array.toList_modify];exact Eu (λq:Nat×Nat×Nat=>(q.1,q.2.1)) _ (by exact λ_=>rfl) _ _
 exact Gm h H f g q
theorem mU:∀f n r,1<=n->1<=Z8 f n r
 |0,n,r,h=>Oz h<|Zm _ _
 |f+1,n,r,h=>by
  rw[minRun'_succ]
  split
  ·lia
  exact mU f (n/2) _ (by lia)
theorem SL.sr{lo n:Nat}{P:OI}(h:SL C a₀ lo st P)(r:SR C a₀ lo u st)(l:lo+n<=a₀.size)(c:Srt C (Ob P) lo n):∃U,SR C a₀ lo U P/\n<=U.length/\(U.take n).Pairwise C.lo:=by
 obtain⟨t,d,H,f⟩:=r.runs;have z:=h.perm.size_eq;have e:(Ob P).toList=t++(Ob P).toList.drop lo:=by
  rw[<-PQ lo (Ob P).toList]
  congr 1
  ·refine RF λk=>?_;by_cases b:k<lo
   ·have:=h.low k b;rw[Qq b,NZ,this,<-NZ,d,N3<|by lia]
   rw[OP (by simp;lia),OP<|by lia]
  simp
 refine⟨(Ob P).toList.drop lo,⟨h.perm,h.kind,h.failed,t,e,H,h.pend▸f⟩,by simp;lia,?_⟩;rw[PF];intro i j hi g a;simp only[NO,Pc,NH]at hi g;have:=c i j a (by lia);rw[<-OQ<|List.drop lo _]at e;rw[<-H,ux e (by simp;lia),ux e<|by simp;lia]at this;rw[Vs,Vs];subst H;exact this
theorem Ie(b:Bs C a₀)(h:SR C a₀ 0 u st)(i:1<=a₀.size)(q:∀P,(Ob P).Perm a₀->Qg P=M5->(Ob P).toList.Pairwise C.lo->Q () P):C.W sortRuns' Q st:=by
 rw[Et];refine NR<|Vn ?_;dsimp only;rw[h.perm.size_eq];have k:=mU a₀.size a₀.size 0 i;generalize Z8 a₀.size a₀.size 0=M at k;refine NR (Ra (Qb (I:=λx c P=>∃lo u,c=(M5,lo)/\SR C a₀ lo u P/\(x<=lo\/lo=a₀.size))
  (Q:=λc P=>c=(M5,a₀.size)/\∃u,SR C a₀ a₀.size u P) ?_ ?_ ⟨0,u,rfl,h,.inl<|Na _⟩) ?_)
 ·rintro x c P _ z ⟨lo,u,rfl,r,B⟩;obtain⟨t,e,H,_⟩:=r.runs;have dN:=Oe PP e;rw[M7,NH,r.perm.size_eq]at dN;dsimp only;refine dJ (λg=>?_) λg=>?_
  ·obtain rfl:lo=a₀.size:=by lia
   exact Oa ⟨rfl,u,r⟩
  refine NR<|Ki b (st:=P) ⟨r.perm,r.kind,r.failed,rfl,λ_ _=>rfl⟩ (by lia) (by lia) λm a i n D Z=>?_;dsimp only;refine dJ (λG=>NR<|W_<|QK ⟨rfl,NR<|Kj b i (n:=min (a₀.size-lo) M) (by lia) (by lia) (by lia) Z λF I J=>?_⟩) λG=>?_
  ·obtain⟨U,f,o,p⟩:=I.sr r (by lia) J;exact Gn b f (by lia) o p λv y=>⟨_,_,rfl,y,by lia⟩
  obtain⟨U,f,o,p⟩:=i.sr r (by lia) Z;exact Gn b f n o p λv y=>⟨_,_,rfl,y,by lia⟩
 ·rintro c P ⟨lo,u,rfl,r,z⟩;obtain⟨t,e,H,_⟩:=r.runs;have dN:=Oe PP e;rw[M7,NH,r.perm.size_eq]at dN;obtain rfl:lo=a₀.size:=by lia
  exact⟨rfl,u,r⟩
 rintro c P ⟨rfl,u,r⟩;have len:∀{st},SR C a₀ a₀.size u st->(Ol st).size<=a₀.size:=λr=>by
  obtain⟨t,_,H,j⟩:=r.runs;have:=j.len
  rwa [NH,H]at this
 refine NR<|Ra (Qb (I:=λx c a=>c=(M5,())/\SR C a₀ a₀.size u a/\((Ol a).size+x<=a₀.size\/(Ol a).size<=1)) (Q:=λc a=>c=(M5,())/\SR C a₀ a₀.size u a/\(Ol a).size<=1) ?_ ?_ ⟨rfl,r,.inl (by have:=len r;lia)⟩) ?_
 ·rintro x c a _ z ⟨rfl,d,Y⟩;refine NR (Vn<|dJ (λg=>Oa ⟨rfl,d,g⟩) λg=>NR<|Aj b d ?_ λF f N=>Oa ⟨rfl,f,by lia⟩)
  repeat' split
  all_goals lia
 ·rintro c a ⟨rfl,d,Y⟩;exact⟨rfl,d,by lia⟩
 rintro c a ⟨rfl,d,Y⟩;obtain⟨t,e,H,j⟩:=d.runs;refine Oa<|q a d.perm d.failed ?_;have L:=Oe PP e;rw[M7,NH,d.perm.size_eq,H]at L;rw[e,OO.mp (show u.length=0 by lia),OQ];rw[<-NH]at Y;generalize (Ol a).toList=l at j Y;cases j with
 |nil=>exact .nil
 |cons _ s r=>
  cases r with
  |nil=>simpa using s
  |cons=>simp only[NC]at Y;lia
end
noncomputable def sH(h:N_)(b:M0)(u:gV J'):N_:=((h.update b<|PH λ_=>#[]).push<|O_ "tuple" u.toArray 0).push<|O_ "list" #[] 0
theorem r_{d e:Type}{F:d->e->Prop}{B b:gV e}(p:b.Perm B):∀{A:gV d},Paired F A B->∃a,Paired F a b/\a.Perm A:=by
 induction p with
 |nil=>exact λh=>⟨_,h,.refl _⟩
 |cons x _ f=>
  rintro _ (_|⟨r,t⟩);obtain⟨a,H,c⟩:=f t;exact⟨_,.cons r H,c.cons _⟩
 |swap x y l=>
  rintro _ (_|⟨r,_|⟨g,t⟩⟩);exact⟨_,.cons g<|.cons r t,.swap ..⟩
 |trans _ _ i I=>
  intro A h;obtain⟨m,H,P⟩:=I h;obtain⟨j,c,k⟩:=i H;exact⟨j,c,k.trans P⟩
theorem paired_at'{d c:Type}{F:d->c->Prop}{A:gV d}{B:gV c}(h:Paired F A B):∀{i:Nat} {b:c},B[i]?=B' b->∃a,A[i]?=B' a/\F a b:=by
 induction h with
 |nil=>intro i b e;simp at e
 |cons r _ I=>
  intro i b e;cases i with
  |zero=>exact⟨_,rfl,Nw e▸r⟩
  |succ i=>exact I e
section
variable {κ:Type}{is:κ->J'->Prop}{key:κ->Int}
open Classical in
noncomputable def Ig (is:κ->J'->Prop)(key:κ->Int)(v:J'):Int:=if h:∃k,is k v then key h.choose else 0
theorem uz(i:∀k a v,is k v->is a v->k=a)(h:is k v):Ig is key v=key k:=by
 unfold Ig;rw[dif_pos ⟨k,h⟩,i _ k v (Exists.choose_spec (p:=λk=>is k v) ⟨k,h⟩) h]
theorem v_(i:∀k a v,is k v->is a v->k=a)(h:Paired is s u):u.map (Ig is key)=s.map key:=by
 induction h with
 |nil=>rfl
 |cons r _ I=>rw[NW,NW,I,uz i r]
theorem sort_gen{P:Nm}{w:NF}{A:Ou}{E:J'->M3->Prop}{s:M3}{R:Z5->M3->Prop}{D:l8}(o:s.heap.get? b=B' (O_ "list" u.toArray ep))(F:u.length<=10000)(I:∀k a v,is k v->is a v->k=a)(G:Paired is U u)(X:(U.map key).Nodup)
  (Y:2<=u.length->∀{Q:l8->M3->Prop},Q D {s with heap:=sH s.heap b u}->wpAny (ND P w) A (keyKind' u.toArray) Q E {s with heap:=sH s.heap b u})
  (lt:∀{E':J'->M3->Prop} {k a:κ} {x y:J'} {Q:Nf->M3->Prop},is k x->is a y->Q (decide (key k<key a)) {s with heap:=sH s.heap b u}->wpAny (ND P w) A (keyLt' D x y) Q E' {s with heap:=sH s.heap b u})
  (q:∀W Z,Paired is Z W->Z.Perm U->(Z.map key).Pairwise (· < ·)->R (.done<|.ret .none) {s with heap:=rk s.heap b u W.toArray}):wpAny (ND P w) A (Builtin.«list.sort» ⟨[.ref b],[]⟩) R E s:=by
 let C:Cm P w A E {s with heap:=sH s.heap b u}:=⟨λp=>Ig is key p.1,λp=>∃k,is k p.1,D,λ{x y Q st} e ⟨k,H⟩ ⟨a,c⟩ h=>by
  rw[uz I H,uz I c]at h;rw[lt'_eq];refine NR<|Vn ?_;rw[e];exact NR<|W_<|VA<|lt H c ⟨rfl,Oa h⟩⟩
 have L:∀{n:Nat},n<=10000->n<=sizeLine:=λz=>by rw[O7];lia
 have WG:∀t,(Ob t).Perm (Z7 u)->(Ob t).toList.Pairwise C.lo->R (.done<|.ret .none) {s with heap:=rk s.heap b u ((Ob t).map (·.2))}/\((Ob t).map (·.2)).size<=sizeLine:=λt f hs=>by
  have d:(Ob t).toList.Perm (u.zip u):=by rw[<-Xb];exact QM.mp f
  have e:((Ob t).map (·.2)).toList=(Ob t).toList.map (·.2):=Array.toList_map;have J:((Ob t).toList.map (·.2)).Perm u:=by
   have:=d.map (·.2)
   rwa [Zo<|Na _]at this
  obtain⟨Z,H,c⟩:=r_ J G;refine⟨?_,by rw[Xp,f.size_eq,pairsOf_size];exact L F⟩;have:=q _ Z H c (by
   rw[<-v_ I H,Ot,Om];refine hs.imp_of_mem λ{x y} hx hy h=>?_;have B:=(Wk<|d.mem_iff.mp hx).1;have e2:=(Wk<|d.mem_iff.mp hy).1;show Ig is key x.2<Ig is key y.2
   rw[<-B,<-e2];exact h)
  rwa [<-e]at this
 rw[list_sort_plain];have Q3:b<s.heap.objs.size:=Nx o;obtain⟨B,j⟩:∃x,(s.heap.update b (PH λ_=>#[])).get? b=B' (O_ "list" #[] x):=⟨_,Ul o _⟩;have m:(sH s.heap b u).get? b=B' (O_ "list" #[] B):=Nb _ (Nb _ j);refine G' (YS o rfl (G' (So o rfl ?_ (by rw[Nq];exact L F))));refine G' (Xa j rfl (G' (Uv (G' (TN (OY ?_))) (by simpa using L F))));show wpAny (ND P w) A _ R E {s with heap:=sH s.heap b u}
 have go:∀t,Qg t=M5->(Ob t).Perm (Z7 u)->(Ob t).toList.Pairwise C.lo->wpAny (ND P w) A (do
   let T:=(<-seqEpoch b) != B
   abT (.ref b) λ_=>(Ob t).map (·.2)
   if let B' e:=Qg t then rule "list.sort.comparison-raised";throw e
   if T then rule "list.sort.modified";raiseError "ValueError" "list modified during sort"
   ret .none) R E {s with heap:=sH s.heap b u}:=λt h0 H c=>by
  obtain⟨f1,f2⟩:=WG t H c;refine G'<|Xa m rfl<|G'<|So m rfl ?_ (NA _)<|Nat.le_succ_of_le f2;rw[h0];simp only[Yt,NQ,QA];exact M9 f1
 by_cases g:u.toArray.size<2
 ·rw[Nt g,Nt g];refine G'<|M9 ?_;dsimp only;rw[ZL];refine G'<|M9<|go (U0 general' (u.toArray.zip u.toArray) #[] 7 M5) rfl (.refl _) ?_;have d:(u.toArray.zip u.toArray).toList.length<2:=by simpa using g
  show(u.toArray.zip u.toArray).toList.Pairwise C.lo
  generalize (u.toArray.zip u.toArray).toList=l at d;cases l with
  |nil=>exact .nil
  |cons x r=>
   cases r with
   |nil=>exact List.pairwise_singleton _ _
   |cons y r=>exact absurd d<|Nat.not_lt.mpr<|Rb<|Rb<|NA _
 rw[Np g,Np g];rw[Nq]at g;refine G'<|Y (by lia) ?_;have hB:Bs C (Z7 u):=⟨λp f=>?_,?_⟩
 ·refine G'<|OS (Ie (C:=C) (u:=(Z7 u).toList) (Q:=λ_ t=>(Ob t).Perm (Z7 u)/\Qg t=M5/\(Ob t).toList.Pairwise C.lo) hB ⟨.refl _,rfl,rfl,[],rfl,rfl,.nil _⟩ (by rw[pairsOf_size];lia) λt M N O=>⟨M,N,O⟩) ?_ λ_ _ z=>z;rintro⟨⟨⟩,t⟩ s2 ⟨rfl,M,N,O⟩;exact go t N M O
 ·rw[Xb]at f;have J:=(Wk f).2;obtain⟨i,hi⟩:=OW.mp J;obtain⟨k,_,h⟩:=paired_at' G hi;exact⟨k,h⟩
 rw[Xb];show((u.zip u).map<|Ig is key∘rr).Nodup
 rw[<-Ot,List.map_fst_zip<|Na _,v_ I G];exact X
end
end TS
namespace L2
open PySem PySem.Spec PyProof.Rows
theorem py{c d:Type}{F:c->d->Prop}:∀{A:gV c} {B:gV d},A.length=B.length->(∀(i:Nat) a b,A[i]?=B' a->B[i]?=B' b->F a b)->Paired F A B
 |[],[],_,_=>.nil
 |[],_::_,h,_=>by cases h
 |_::_,[],h,_=>by cases h
 |a::A,b::B,h,f=>.cons (f 0 a b rfl rfl)<|py (by simpa using h) λi a b H e=>f (i+1) a b H e
structure SK (X:Cx)(H:Hp)(κ:Type) where
 vr:κ->V->Prop
 key:κ->Int
 kd:l8
 hp:N_->Prop
 mono:∀{h h'},hp h->(∀b o,h.get? b=B' o->h'.get? b=B' o)->hp h'
 inj:∀{k k' x x' v},vr k x->RelV x v->vr k' x'->RelV x' v->k=k'
 kk:∀{A E s Q us} {ks:gV κ},hp s.heap->2<=us.length->Paired (λk v=>∃x,vr k x/\RelV x v) ks us->Q kd s->wpAny (ND X.prog X.w) A (keyKind' us.toArray) Q E s
 lt:∀{A E s Q k k' x x' v v'},hp s.heap->vr k x->RelV x v->vr k' x'->RelV x' v'->Q (decide (key k<key k')) s->wpAny (ND X.prog X.w) A (keyLt' kd v v') Q E s
section
variable {κ:Type}(S:SK X H κ)
theorem Ev(h:Paired (λk v=>∃x,S.vr k x/\RelV x v) s z):∃t,Vals t z/\Paired S.vr s t:=by
 induction h with
 |nil=>exact⟨[],.nil,.nil⟩
 |cons r _ i=>
  obtain⟨x,a,b⟩:=r;obtain⟨t,c,d⟩:=i;exact⟨x::t,.cons b c,.cons a d⟩
theorem mV(I:Inv X M w H s)(y:S.hp s.heap)(O:a.length<=9000)(f:Paired (λk v=>∃x,S.vr k x/\RelV x v) n a)(N:(n.map S.key).Nodup)
  (q:∀l t Z,H l=M5->Z.Perm n->(Z.map S.key).Pairwise (· < ·)->Paired S.vr Z t->Q (.ref l) (upd H l<|.lst t)):
  wpAny (ND X.prog X.w) X.A.in1 (do
   let l <-newList a
   let _ <-Uy [l] (call (.builtin "list.sort") [l] [])
   ret l) (λr A=>∃v,r=.done (.ret v)/\EP X M w Q v A) X.xe s:=by
 refine G' (TN ?_<|by rw[O7];lia);have h:(s.heap.push<|O_ "list" a.toArray 0).get? s.heap.objs.size=B' (O_ "list" a.toArray 0):=NL _ rfl;have c:S.hp (TS.sH (s.heap.push<|O_ "list" a.toArray 0) s.heap.objs.size a):=S.mono y λb o e=>Nb _<|Nb _<|(OC _ _<|Rj<|Nx e).trans<|Nb _ e;refine G'<|OY<|Qj W' ⟨_,h,rfl⟩ WC (TS.sort_gen (key:=S.key) (D:=S.kd) h (by lia) (λk P v ⟨x,g,i⟩ ⟨B,j,m⟩=>S.inj g i j m) f N (λd=>S.kk c d f) (λ⟨x,g,i⟩ ⟨B,j,m⟩=>S.lt c g i j m) λz Z C d D=>⟨_,rfl,?_⟩)<|VL _;obtain⟨t,F,p⟩:=Ev S C;obtain⟨e,G⟩:=QB (out:=z.toArray) h;refine M9 ⟨_,rfl,.ref s.heap.objs.size,_,I.laid (o:=.lst t) (t':=s.toks) (λb o E=>?_) (Na _) ⟨?_,z,e,F,G⟩,rfl,q _ t Z (I.hok.fresh<|Na _) d D p⟩
 ·have u:b<s.heap.objs.size:=Nx E;rw[XI (NK u)<|by rw[Yd];exact PN u];exact Nb _ E
 have L:=Paired.length p;have J:=Paired.length f;rw[<-L,d.length_eq,J];exact OG (bH<|by lia)
noncomputable def wa(X:Cx)(H:Hp):SK X H Int where
 vr:=λk x=>x=.int k
 key:=λk=>k
 kd:=oneType'
 hp:=λ_=>True
 mono:=λh _=>h
 inj:=by
  rintro k b _ _ v rfl ⟨t,rfl⟩ rfl ⟨T,e⟩;cases e;rfl
 kk:=λ{A E s Q u c} _ a h q=>by
  have i:Q4 u c:=by
   clear a
   induction h with
   |nil=>exact .nil
   |cons r _ I=>
    obtain⟨_,rfl,t,rfl⟩:=r;exact .cons _ t I
  match u,a with
  |v1::d::vr,_=>
   rw[keyKind_ints i];exact M9 q
 lt:=by
  rintro A E s Q k b _ _ _ _ _ rfl ⟨t,rfl⟩ rfl ⟨T,rfl⟩ q;exact oneLt_int q
theorem pA{k:gV Int}{t:gV V}(h:Paired (wa X H).vr k t):t=k.map V.int:=by
 induction h with
 |nil=>rfl
 |cons r _ i=>rw[NW,i,show _=V.int _ from r]
theorem uA(y:X.calm=MX):fo X (.builtin "sorted") (λm H Q=>∃p a b,m=[.ref p]/\H p=B' (.dK a)/\a.map (·.1)=b.map Oq/\b.length<=9000/\
  ∀l U,H l=M5->R4 U b->QG (·<=·) U->Q (.ref l) (upd H l<|.lst<|l5 V.int U)):=by
 intro M8 s σ H m us Q I r h;obtain⟨p,a,b,rfl,n,o,B,q⟩:=h;obtain⟨u,rfl,C⟩:=fI r;cases C;obtain⟨z,F,c,w,D⟩:a.length<=sizeLine/\(p == P4)=MW/\∃c,KV a c/\s.heap.DictOf (bh X.prog X.w) p c:=I.hok p _ n;obtain⟨G,d⟩:=D.dictAt;have P:a.length=c.length:=Paired.length w;have e:c.map (·.1)=b.map Oq:=by
  rw[<-o];clear o n d D P z
  induction w with
  |nil=>rfl
  |cons r _ J=>rw[NW,NW,J,r.1]
 have f:=Oe PP e;simp only[MY]at f;refine R5 Xd Wj Wl (YT _) ?_;unfold Builtin.«sorted»;refine G' (m:=X2 "sorted" 1 1 _)<|M9 ?_;refine G'<|Ur (A:=X.A.in1) (Zc (knd:=bh X.prog X.w) (kvs:=c) (ep:=G) F) (I.ok.hd y) d (by lia) λL T M g A=>?_;have hl:M.toList.length=c.length:=by rw[NH];exact A.1
 refine mV (wa X H) (s:={s with heap:=L,toks:=T}) (n:=b) (I.kept g) trivial (by lia) ?_ ?_ λl ts Z O W Y h4=>?_
 ·refine py (by lia) λi k v TX hv=>?_;obtain⟨k2,x,hx,j⟩:=A.2 i v (by rw[<-NZ];exact hv);have E:=Oe (·[i]?) e;simp only[Nu,hx,TX,Su]at E;cases Nw E;obtain⟨t,et⟩:=QV (k:=k) (v:=v) j;exact⟨.int k,rfl,t,et⟩
 ·obtain⟨_,_,_,_,_,_,_,_,N⟩:=D;rw[e,Pb,Om]at N;exact(S8 b).symm▸N.imp λh z=>h<|Oe _ z
 rw[pA h4];exact q l Z O W<|((S8 Z)▸Y).imp Wu
end
mutual
def RD(H:Hp):Nh->V->Prop
 |.none,v=>v=.non
 |.bool b,v=>v=.bl b
 |.int i,v=>v=.int i
 |.str x,v=>v=.str x
 |.list d,v=>∃a X,v=.ref a/\H a=B' (.lst X)/\dw H d X
 |.tuple d,v=>∃a X,v=.ref a/\H a=B' (.tup X)/\dw H d X
 |.dict _,_=>False
def dw(H:Hp):gV Nh->gV V->Prop
 |[],x=>x=[]
 |d::D,x=>∃y Y,x=y::Y/\RD H d y/\dw H D Y
end
theorem bP(h:H a=B' (.lst x))(r:dw H d x):RD H (.list d) (.ref a):=by
 unfold RD;exact⟨a,x,rfl,h,r⟩
theorem aX(h:H a=B' (.tup x))(r:dw H d x):RD H (.tuple d) (.ref a):=by
 unfold RD;exact⟨a,x,rfl,h,r⟩
theorem ft(h:RD H (.list d) v):∃a x,v=.ref a/\H a=B' (.lst x)/\dw H d x:=by
 unfold RD at h;exact h
theorem aq(h:RD H (.tuple d) v):∃a x,v=.ref a/\H a=B' (.tup x)/\dw H d x:=by
 unfold RD at h;exact h
theorem wb:RD H .none .non:=by unfold RD;rfl
theorem Ew(b:Nf):RD H (.bool b) (.bl b):=by unfold RD;rfl
theorem dS(i:Int):RD H (.int i) (.int i):=by unfold RD;rfl
theorem cD(x:Str):RD H (.str x) (.str x):=by unfold RD;rfl
theorem aw:dw H [] []:=by unfold dw;rfl
theorem ak(h:RD H d y)(t:dw H D Y):dw H (d::D) (y::Y):=by
 unfold dw;exact⟨y,Y,rfl,h,t⟩
theorem bS(h:dw H [] x):x=[]:=by
 unfold dw at h;exact h
theorem ao(h:dw H (d::D) x):∃y Y,x=y::Y/\RD H d y/\dw H D Y:=by
 unfold dw at h;exact h
theorem jw:∀N:gV Int,dw H (N.map Tv)<|N.map V.int
 |[]=>aw
 |n::r=>ak (dS n)<|jw r
theorem bZ:∀{D:gV Nh} {x:gV V},dw H D x->x.length=D.length
 |[],_,h=>by
  rw[bS h];rfl
 |d::D,_,h=>by
  obtain⟨y,Y,rfl,_,t⟩:=ao h;rw[NC,NC,bZ t]
theorem eE:∀{D:gV Nh} {x:gV V} {j:Nat} {v:V},dw H D x->x[j]?=B' v->RD H (D.getD j .none) v
 |[],_,_,_,h,e=>by rw[bS h]at e;cases e
 |d::D,_,j,v,h,e=>by
  obtain⟨y,Y,rfl,a,t⟩:=ao h;cases j with
  |zero=>
   have E:y=v:=by simpa using e
   subst E;exact a
  |succ j=>exact eE (D:=D) t (by simpa using e)
mutual
theorem fj(k:Same H g):∀d v,RD H d v->RD g d v
 |.none,v,h=>by unfold RD at h ⊢;exact h
 |.bool b,v,h=>by unfold RD at h ⊢;exact h
 |.int i,v,h=>by unfold RD at h ⊢;exact h
 |.str x,v,h=>by unfold RD at h ⊢;exact h
 |.list D,v,h=>by
  obtain⟨a,X,e,c,f⟩:=ft h;subst e;exact bP (k _ _ c)<|bE k D X f
 |.tuple D,v,h=>by
  obtain⟨a,X,e,c,f⟩:=aq h;subst e;exact aX (k _ _ c)<|bE k D X f
 |.dict _,v,h=>by
  unfold RD at h;exact h.elim
theorem bE(k:Same H a):∀D x,dw H D x->dw a D x
 |[],x,h=>by
  rw[bS h];exact aw
 |d::D,x,h=>by
  obtain⟨y,Y,e,b,c⟩:=ao h;subst e;exact ak (fj k d y b)<|bE k D Y c
end
mutual
theorem dj(I:Inv X M m H s):∀d x v,RD H d x->RelV x v->∃A,Reads s.heap v d A
 |.none,x,v,h,r=>by
  unfold RD at h;subst h;cases r;exact⟨[],.none⟩
 |.bool b,x,v,h,r=>by
  unfold RD at h;subst h;cases r;exact⟨[],.bool b⟩
 |.int i,x,v,h,r=>by
  unfold RD at h;subst h;obtain⟨t,rfl⟩:=r;exact⟨[],.int i t⟩
 |.str y,x,v,h,r=>by
  unfold RD at h;subst h;obtain⟨t,rfl⟩:=r;exact⟨[],.str y t⟩
 |.list D,x,v,h,r=>by
  obtain⟨a,c,e,f,g⟩:=ft h;subst e;cases r;obtain⟨O,j,⟨o,n,E,k,_,l⟩,_⟩:=I.list<|SqL.of f;obtain⟨A,q⟩:=ke I D c O g j;exact⟨a::A,.list E k l<|by simpa using q⟩
 |.tuple D,x,v,h,r=>by
  obtain⟨a,c,e,f,g⟩:=aq h;subst e;cases r;obtain⟨O,j,⟨o,E,k,n,l⟩,_⟩:=I.tuple<|SqT.of f;obtain⟨A,q⟩:=ke I D c O g j;exact⟨A,.tuple E k l<|by simpa using q⟩
 |.dict _,x,v,h,_=>by
  unfold RD at h;exact h.elim
theorem ke(I:Inv X M i H s):∀D x v,dw H D x->Vals x v->∃a,YI s.heap v D a
 |[],x,v,h,r=>by
  rw[bS h]at r;cases r;exact⟨[],.nil⟩
 |d::D,x,v,h,r=>by
  obtain⟨y,Y,e,b,c⟩:=ao h;subst e;cases r with
  |cons f g=>
   obtain⟨a,q⟩:=dj I d y _ b f;obtain⟨B,Q⟩:=ke I D Y _ c g;exact⟨a++B,.cons q Q⟩
end
inductive Kl (x y:V)(H:Hp)(Q:VK):Prop
 |mk (d D:Nh)(r:RD H d x)(b:RD H D y)(sa:OB d=MX)(s:OB D=MX)(q:Q (.bl<|NT d D) H)
inductive Km (x y:V)(H:Hp)(Q:VK):Prop
 |mk (d D:Nh)(r:RD H d x)(b:RD H D y)(sa:OB d=MX)(s:OB D=MX)(q:Q (.bl (!NT d D)) H)
def Ih:R2:=λx y H Q=>Kl x y H Q
def Ii:R2:=λx y H Q=>Km x y H Q
theorem Ij(a:X.A.units+64<QT):OpR X (ON .Eq) Ih:=by
 intro M s k H x y v u Q I r b h;obtain⟨d,D,c,e,f,g,q⟩:=h;obtain⟨A,i⟩:=dj I d x v c r;obtain⟨B,j⟩:=dj I D y u e b;exact eq_dataH i j f g a ⟨.bl _,H,I,rfl,q⟩
theorem Ik(a:X.A.units+64<QT):OpR X (ON .NotEq) Ii:=by
 intro M s k H x y v u Q I r b h;obtain⟨d,D,c,e,f,g,q⟩:=h;obtain⟨A,i⟩:=dj I d x v c r;obtain⟨B,j⟩:=dj I D y u e b;exact ne_dataH i j f g a ⟨.bl _,H,I,rfl,q⟩
theorem aM(h:X.A.units+64<QT):OpR X (ON .Eq) (λx y H Q=>LO x y H Q\/Ih x y H Q):=OpR.or JU<|Ij h
theorem fH(h:X.A.units+64<QT):OpR X (ON .NotEq) (λx y H Q=>LP x y H Q\/Ii x y H Q):=OpR.or JV<|Ik h
theorem a8:fo X (.builtin "isinstance") (λa H Q=>∃x t c b,a=[x,.ty c]/\jm X.K H x t/\N6 X.K t (.type c)=B' b/\Q (.bl b) H):=by
 intro M s f H a U Q I r h;obtain⟨x,t,c,b,rfl,T,e,q⟩:=h;obtain⟨u,w,rfl,d,y⟩:=rQ r;obtain rfl:w=Rh c:=y;exact yl I d T e λk=>⟨.bl b,H,I.tok _,rfl,q⟩
noncomputable def gb(T c:QJ):MZ Nf:=if(Rh T == Rh c)=MX then B' MX else if PySem.W.kitMeta c=MX then(fastBuiltinMro T).map (·.contains (Rh c))else M5
theorem bv{K:K'}{T c:QJ}{b:Nf}(h:gb T c=B' b):N6 K (.type T) (.type c)=B' b:=h
noncomputable def qL:Nh->QJ
 |.none=>"NoneType"
 |.bool _=>"bool"
 |.int _=>"int"
 |.str _=>"str"
 |.list _=>"list"
 |.tuple _=>"tuple"
 |.dict _=>"dict"
theorem lp{K:K'}{H:Hp}:∀d v,RD H d v->jm K H v (.type<|qL d)
 |.none,v,h=>by
  unfold RD at h;subst h;exact .non
 |.bool b,v,h=>by
  unfold RD at h;subst h;exact .bl b
 |.int i,v,h=>by
  unfold RD at h;subst h;exact .int i
 |.str x,v,h=>by
  unfold RD at h;subst h;exact .str x
 |.list D,v,h=>by
  obtain⟨a,X,e,c,_⟩:=ft h;subst e;exact .lst c
 |.tuple D,v,h=>by
  obtain⟨a,X,e,c,_⟩:=aq h;subst e;exact .tup c
 |.dict _,v,h=>by
  unfold RD at h;exact h.elim
noncomputable def Il:Nh->Nf
 |.tuple _=>MX
 |_=>MW
noncomputable def kh:Nh->Nf
 |.int _=>MX
 |.bool _=>MX
 |_=>MW
noncomputable def lS:Nh->Nf
 |.bool _=>MX
 |_=>MW
noncomputable def lT:Nh->Nf
 |.dict _=>MX
 |_=>MW
theorem Ak:gb "NoneType" "tuple"=B' MW/\gb "bool" "tuple"=B' MW/\gb "int" "tuple"=B' MW/\gb "str" "tuple"=B' MW/\gb "list" "tuple"=B' MW/\gb "tuple" "tuple"=B' true:=by
 refine⟨?_,?_,?_,?_,?_,?_⟩<;>decide+kernel
theorem Im:gb "NoneType" "int"=B' MW/\gb "bool" "int"=B' MX/\gb "int" "int"=B' MX/\gb "str" "int"=B' MW/\gb "list" "int"=B' MW/\gb "tuple" "int"=B' false:=by
 refine⟨?_,?_,?_,?_,?_,?_⟩<;>decide+kernel
theorem Ex:gb "NoneType" "bool"=B' MW/\gb "bool" "bool"=B' MX/\gb "int" "bool"=B' MW/\gb "str" "bool"=B' MW/\gb "list" "bool"=B' MW/\gb "tuple" "bool"=B' false:=by
 refine⟨?_,?_,?_,?_,?_,?_⟩<;>decide+kernel
theorem iI{K:K'}(d:Nh)(h:lT d=MW):N6 K (.type<|qL d) (.type "tuple")=B' (Il d):=by
 obtain⟨H,a,b,c,e,f⟩:=Ak;cases d with
 |none=>exact bv H
 |bool _=>exact bv a
 |int _=>exact bv b
 |str _=>exact bv c
 |list _=>exact bv e
 |tuple _=>exact bv f
 |dict _=>cases h
theorem wc{K:K'}(d:Nh)(h:lT d=MW):N6 K (.type<|qL d) (.type "int")=B' (kh d):=by
 obtain⟨H,a,b,c,e,f⟩:=Im;cases d with
 |none=>exact bv H
 |bool _=>exact bv a
 |int _=>exact bv b
 |str _=>exact bv c
 |list _=>exact bv e
 |tuple _=>exact bv f
 |dict _=>cases h
theorem sd{K:K'}(d:Nh)(h:lT d=MW):N6 K (.type<|qL d) (.type "bool")=B' (lS d):=by
 obtain⟨H,a,b,c,e,f⟩:=Ex;cases d with
 |none=>exact bv H
 |bool _=>exact bv a
 |int _=>exact bv b
 |str _=>exact bv c
 |list _=>exact bv e
 |tuple _=>exact bv f
 |dict _=>cases h
theorem fK(h:RD H d v):lT d=false:=by
 cases d with
 |dict _=>
  unfold RD at h;exact h.elim
 |_=>rfl
def Ey:V->gV V->Hp->VK->Prop:=λx v H Q=>∃l X i y,x=.ref l/\v=[.int i,y]/\H l=B' (.lst X)/\0<=i/\i<=X.length/\X.length<sizeLine/\Q .non (upd H l<|.lst<|X.take i.toNat++y::X.drop i.toNat)
theorem yu:Lm X "list.insert" Ey:=by
 intro M s k H x m v U Q I c d h;obtain⟨l,o,i,y,rfl,rfl,b,p,w,A,q⟩:=h;cases c;obtain⟨B,u,rfl,⟨t,rfl⟩,f⟩:=rQ d;obtain⟨z,O,n,r,C,e⟩:=I.lstM b;have D:(sizeLine:Nat)=16777216:=O7;have a:¬(!UY i)=true:=by
  rw[Sy (by lia)<|by lia];exact Ni
 refine RN WL ⟨_,e,rfl⟩ F.entry_list_insert (F.args_list_insert_3 _ _ _) (XD l O.toArray n i t u a<|by rw[Nq];lia) ⟨e,?_⟩;refine⟨.non,_,I.lset (i:=O.take i.toNat++u::O.drop i.toNat) b e ?_ ((r.take _).append<|.cons f<|r.drop _) ?_,rfl,q⟩
 ·have g:¬i<0:=by lia
  have j:min i.toNat O.toArray.size=i.toNat:=by rw[Nq];lia
  show(O.toArray.extract 0 (if i<0 then(i+((O.toArray.size:Nat):Int)).toNat else min i.toNat O.toArray.size)).push u++O.toArray.extract (if i<0 then(i+((O.toArray.size:Nat):Int)).toNat else min i.toNat O.toArray.size)=_
  rw[Np g,j];apply Zq.mp;simp;exact Nn (by simp)
 rw[M7,NC,NO,Pc];lia
structure Fn (P:Nm)(w:NF)(K:K')(mg:Str->MZ J')(base:N_)(k:Nat)(x:Str)(f:M0)(fd:Ny)(ps:gV Str)(sp:Sp):Prop where
 ok:aP P w K mg base cr k f fd ps sp
 b:Binds K fd ps []
 kp:Q8 K (.ref f)=MX
 at_:mg x=B' (.ref f)
theorem Kn{X:Cx}{j:Nat}{k:Nat}{f:M0}{F:Ny}{a:gV Str}{s:Sp}{x:Str}{p:Pos}{P:Pos}{e:OJ}{E:gV OJ}{t:TA}(G:Fn X.prog X.w X.K X.mg X.base j x f F a s)(r:Room k X.A)(h:j<=k)(g:Gl X x)(b:PA X (e::E) t)(H:(x == ("__debug__":Str))=false:=by decide)
  (c:NS (e::E) X.env=(MW,Pq e X.env)::NS E X.env:=by rfl) (Z:(Qw P<|NS E X.env).any (·.1)=false:=by rfl):PE X (.Call (.Name x p) (e::E) [] P) (vT s [] E0 t):=
 Ec G.ok (r.mono h) g G.at_ G.kp G.b .nil vX b H c Z
theorem af(h:H p=M5)(o:HO):Same H (upd H p o):=λb u q=>by rw[aj<|ai q h];exact q
theorem Same.upd_new(k:Same a H)(h:a p=M5)(o:HO):Same a (upd H p o):=λb u q=>by rw[aj<|ai q h];exact k b u q
theorem uB{a:Type}{x:gV a}{i:Int}(H:0<=i)(b:i<x.length):∃v,x[i.toNat]?=B' v/\j0 x i=B' v:=by
 have h:i.toNat<x.length:=by lia
 have e:i=((i.toNat:Nat):Int):=by lia
 have q:j0 x ((i.toNat:Nat):Int)=B' x[i.toNat]:=bi<|M4 h;rw[<-e]at q;exact⟨_,M4 h,q⟩
theorem Al{n:gV Int}{i:Int}(a:0<=i)(b:i<n.length):∃v,n[i.toNat]?=B' v/\j0 (n.map V.int) i=B' (.int v):=by
 obtain⟨v,h,c⟩:=uB (x:=n.map V.int) a (by rw[MY];exact b);rw[Nu]at h;cases e:n[i.toNat]? with
 |none=>rw[e]at h;cases h
 |some z=>
  rw[e]at h;have H:V.int z=v:=by simpa using h
  subst H;exact⟨z,rfl,c⟩
def AllIn(f:Str->MZ M0):gV (Str×M0)->Prop
 |[]=>True
 |p::r=>f p.1=B' p.2/\AllIn f r
theorem AllIn.look:∀{C:gV (Str×M0)},AllIn f C->∀{y:Str} {c:M0},C.lookup y=B' c->f y=B' c
 |[],_,y,c,e=>by cases e
 |(n,a)::r,h,y,c,e=>by
  rw[List.lookup_cons]at e;cases q:(y == n)with
  |true=>
   rw[q]at e;have E:y=n:=eq_of_beq q;have b:a=c:=Nw e;rw[E,<-b];exact h.1
  |false=>
   rw[q]at e;exact AllIn.look h.2 e
noncomputable def dH(X:Cx)(s:T5)(c:gV (Str×M0))(n:gV Str)(C:M0)(f:gV M0)(s₀:M3)(H₀:Hp):Cx where
 prog:=X.prog
 w:=X.w
 K:=X.K
 mg:=X.mg
 base:=X.base
 A:=X.A
 N:=n
 s₀:=s₀
 H₀:=H₀
 env:=mj s (OH (C+1) s.names c) C X.env
 outer:=X.stack
 stack:=X.stack
 ex:=f
 fn:=λx=>(c.lookup x).isNone
 calm:=X.calm
 pn:=[]
 xe:=λ_ _=>False
structure CompSc (X:Cx)(scope:T5)(cl:gV (Str×M0))(NY:gV Str)(idx:gV (MZ Nat)):Prop where
 clos:closureFor scope X.env=pure cl
 all:AllIn (λy=>X.env.cells.lookup y) cl
 c2:∀n,((RA scope X.env).names.all λq=>!(decide (q.2=.cell) || decide (q.2=.free)) || ((OH n scope.names cl).lookup q.1).isSome)=MX
 ix:((NY.zip idx).all λp=>match p.2 with
  |none=>MX
  |some i=>decide (X.N[i]?=B' p.1)&&(decide (X.env.kindOf p.1=B' .cell) || decide (X.env.kindOf p.1=B' .free))&&(decide ((RA scope X.env).names.lookup p.1=B' .cell) || decide ((RA scope X.env).names.lookup p.1=B' .free))&&(scope.names.all λq=>!decide (q.2=.cell) || !decide (q.1=p.1)))=MX
 len:idx.length=NY.length
 kind:scope.kind=.function
 names:∀y∈scope.names,y.2=.local->scope.names.lookup y.1=B' .local
theorem c9:∀N n Q,OH n N Q=OH n N []++Q
 |[],_,_=>rfl
 |(x,k)::r,n,Q=>by
  unfold OH
  split
  ·rw[c9 r (n+1)<|(x,n)::Q,c9 r (n+1) [(x,n)],N1];rfl
  exact c9 r n Q
theorem ki:∀{N:gV (Str×UV)} {n:Nat} {y:Str} {c:M0},(y,c)∈OH n N []->(y,Sl)∈N
 |(x,k)::r,n,y,c,h=>by
  unfold OH at h
  split at h
  ·rename_i H;rw[c9]at h;obtain h|h:=NB.mp h
   ·exact Nk _<|ki h
   cases Nd.mp h;rw[eq_of_beq H];exact Nl
  exact Nk _<|ki h
theorem mW(h:(OH n N C).lookup y=B' c):(y,c)∈OH n N []\/C.lookup y=B' c:=by
 rw[c9,Yl]at h;cases e:(OH n N []).lookup y with
 |some d=>
  rw[e]at h;cases h;exact .inl<|Po e
 |none=>
  rw[e]at h;exact .inr h
theorem Am(h:∀q∈N,q.2=Sl->q.1≠y):(OH n N c).lookup y=c.lookup y:=by
 rw[c9,Yl];cases e:(OH n N []).lookup y with
 |some d=>exact absurd rfl<|h _ (ki<|Po e) rfl
 |none=>rfl
theorem oY{M:YK}{A:Ou}{E:J'->M3->Prop}{s:M3}{a:T5}{g:M0}{c:gV (Str×M0)}{q:Str}{O:Env}{Q:Env->M3->Prop}
  (H:∀h',h'.Ns s.heap.objs.size (λ_=>M5)->(∀b o,s.heap.get? b=B' o->h'.get? b=B' o)->CellsOk h' (s.heap.objs.size+1) (OH (s.heap.objs.size+1) a.names [])->
   Q (newEnv a s.heap.objs.size g (OH (s.heap.objs.size+1) a.names c) q M5 .none (B' O) O.builtins) {s with heap:=h'}):
  wpAny M A (W0 a g c [] q M5 .none<|B' O) Q E s:=by
 simp only[W0,Yg,Ss];refine G'<|wpAny_alloc ?_;refine G'<|wpAny_layCells _ (λn k C=>by cases h:k == Sl<;>simp[h]) _ _ _ _ ?_;have ok:=cellsFrom_ok a.names (s.heap.push {cls:=.type "dict",data:=.dict #[]}) (s.heap.objs.size+1) [] ⟨λ_ _ m=>(nomatch m),RG⟩ (by rw[Q9];exact Na _);rw[Q9]at ok;rw[show({s with heap:=s.heap.push {cls:=.type "dict",data:=.dict #[]}}:M3).heap.objs.size=s.heap.objs.size+1 from Q9 ..];refine G' ?_;rw[List.forIn_nil];exact M9<|M9<|H _ ((Heap.Ns.new s.heap<|.type "dict").keeps<|ZN _ _) (λb o e=>ZN _ _ b o<|Nb _ e) ok
noncomputable def An(I:gV (MZ Nat))(a:St):St:=I.map λo=>match o with
 |none=>M5
 |some i=>(a[i]?).getD M5
theorem CompSc.look(S:CompSc X s C N i)(n:Nat)(h:(RA s X.env).names.lookup y=B' .cell\/(RA s X.env).names.lookup y=B' .free):∃c,(OH n s.names C).lookup y=B' c:=by
 have m:∃k,(y,k)∈(RA s X.env).names/\(k=.cell\/k=.free):=by
  obtain h|h:=h
  ·exact⟨_,Po h,.inl rfl⟩
  exact⟨_,Po h,.inr rfl⟩
 obtain⟨k,a,H⟩:=m;have q:=OE.mp (S.c2 n) _ a;have e:(decide (k=Sl) || decide (k=y3))=true:=by
  obtain rfl|rfl:=H
  ·rfl
  rfl
 have Q:(!(decide (k=Sl) || decide (k=y3)) || ((OH n s.names C).lookup y).isSome)=true:=q;rw[e]at Q;exact Sq.mp Q
theorem Ao{F:gV M0}{f:N_}{m:Str->MZ J'}{tk:Nat}(S:CompSc X d C NY l)(I:Inv X M8 n H s)
  (B:∀b∈F,qC X M8 H b) (r:∀b∈F,b<s.heap.objs.size) (G:f.Ns s.heap.objs.size m) (O:∀b o,s.heap.get? b=B' o->f.get? b=B' o) (D:CellsOk f (s.heap.objs.size+1) (OH (s.heap.objs.size+1) d.names [])):
  Inv (dH X d C NY s.heap.objs.size F s H) [] (An l n) H {s with heap:=f,toks:=tk}:=by
 have hC:H s.heap.objs.size=none:=I.hok.fresh<|Na _;have J:∀{x:Str} {c:M0},C.lookup x=B' c->X.env.cells.lookup x=B' c:=λe=>S.all.look e;have L:∀{x:Str} {c:M0},X.env.cells.lookup x=B' c->c<s.heap.objs.size:=λ{x c} e=>by
  obtain⟨v,z⟩:=I.cell x c e;exact z.lt
 have t:∀{x:Str} {c:M0},(OH (s.heap.objs.size+1) d.names C).lookup x=B' c->((x,c)∈OH (s.heap.objs.size+1) d.names []/\s.heap.objs.size<c/\f.IsCell c M5)\/(X.env.cells.lookup x=B' c/\c<s.heap.objs.size):=λ{x c} e=>by
  obtain h|h:=mW e
  ·exact .inl ⟨h,(D.empty x c h).2,(D.empty x c h).1⟩
  exact .inr ⟨J h,L<|J h⟩
 have M:∀x y c,(OH (s.heap.objs.size+1) d.names C).lookup x=B' c->(OH (s.heap.objs.size+1) d.names C).lookup y=B' c->x=y:=λx y c N P=>by
  obtain a|a:=t N<;>obtain b|b:=t P
  ·exact name_of_addr D.apart a.1 b.1
  ·exact absurd (UH a.2.1 b.2)<|Qp _
  ·exact absurd (UH b.2.1 a.2)<|Qp _
  exact I.ok.inj x y c a.1 b.1
 have ne:∀b∈F,∀x c,(OH (s.heap.objs.size+1) d.names C).lookup x=B' c->c≠b:=λb k x c e=>by
  obtain a|a:=t e
  ·exact Rj<|UH (r b k) a.2.1
  exact(B b k).2.2.2.2.1 x c a.1
 have fr:∀x c,(OH (s.heap.objs.size+1) d.names C).lookup x=B' c->H c=none:=λx c e=>by
  obtain a|a:=t e
  ·exact I.hok.fresh<|OG a.2.1
  exact I.freeC x c a.1
 have T:∀x c,(C.lookup x).isNone=MX->(OH (s.heap.objs.size+1) d.names C).lookup x=B' c->s.heap.objs.size<=c:=λx c hf e=>by
  obtain h|h:=mW e
  ·exact YU (D.empty x c h).2
  rw[h]at hf;cases hf
 refine⟨⟨I.ok.mod,?_,I.ok.glob,I.ok.blt,Na _,M,λx hx=>S.look _ hx,T,I.ok.hd,I.ok.frames,.inl rfl,λb k=>⟨NK<|r b k,ne b k⟩,
  I.bs,Oz I.ok.bsz I.sz,λb o e k=>?_,λb k U=>?_,I.stack,I.stkFree⟩,rfl,I.bare,Un.kept O,⟨m,G,λj y v N P h3=>?_⟩,λx c e=>?_,hC,fr,λp hp=>absurd (show p∈([]:gV (M0×Obj))from hp) (by simp),I.hok.kept O,?_⟩
 ·exact S.kind
 ·obtain z|z:=(B b k).2.2.2.1
  ·exact I.ok.noex b o e z
  exact absurd (Oy (Nx e)<|Oz I.ok.bsz z)<|Qp _
 ·obtain e|e:=Nz.mp (I.stkSub b U)
  ·exact(B b k).2.1 e
  exact(B b k).2.2.1 e
 ·
  have g:(An l n)[j]?=B' (B' v):=P;unfold An at g;rw[Nu]at g;cases W:l[j]? with
  |none=>rw[W]at g;cases g
  |some o=>
   rw[W]at g;cases o with
   |none=>cases g
   |some i=>
    have E:(n[i]?).getD M5=B' v:=by simpa using g
    have e4:n[i]?=B' (B' v):=by
     cases q:n[i]? with
     |none=>rw[q]at E;cases E
     |some z=>
      rw[q]at E;exact Oe B' E
    have U:(NY.zip l)[j]?=B' (y,B' i):=by
     rw[List.getElem?_zip_eq_some];exact⟨N,W⟩
    have q:=OE.mp S.ix _<|Nc U;have q':(decide (X.N[i]?=B' y)&&(decide (X.env.kindOf y=B' .cell) || decide (X.env.kindOf y=B' .free))&&(decide ((RA d X.env).names.lookup y=B' .cell) || decide ((RA d X.env).names.lookup y=B' .free))&&(d.names.all λq=>!decide (q.2=.cell) || !decide (q.1=y)))=true:=q;rw[N5,N5,N5,P2,P2]at q';obtain⟨⟨⟨q1,q2⟩,q3⟩,q4⟩:=q';have q5:∀q∈d.names,q.2=Sl->q.1≠y:=λq hq e1 e2=>by
     have:=OE.mp q4 q hq;rw[Ng e1,Ng e2]at this;cases this
    have Y:=N0 q1;have Q:X.env.kindOf y=B' .cell\/X.env.kindOf y=B' .free:=q2.elim (λz=>.inl<|N0 z) λz=>.inr<|N0 z;have w:(RA d X.env).names.lookup y=B' .cell\/(RA d X.env).names.lookup y=B' .free:=q3.elim (λz=>.inl<|N0 z) λz=>.inr<|N0 z;obtain⟨mX,_,hl⟩:=I.loc;obtain⟨u,ru,lk⟩:=hl i y v Y e4<|.inr Q;refine⟨u,ru,.inr ⟨w,?_⟩⟩;obtain⟨c,A⟩:=S.look (s.heap.objs.size+1) w;have hc:=A;rw[Am q5]at hc;obtain⟨hk,_⟩|⟨_,c',Z,ab⟩:=lk
    ·obtain z|z:=Q
     ·rw[hk]at z;cases z
     rw[hk]at z;cases z
    have e5:=J hc;rw[Z]at e5;cases e5;obtain⟨oc,ho,hd⟩:=ab;exact⟨_,A,oc,O _ _ ho,hd⟩
 ·obtain a|a:=t e
  ·exact⟨M5,a.2.2⟩
  obtain⟨v,oc,ho,hd⟩:=I.cell x c a.1;exact⟨v,oc,O _ _ ho,hd⟩
 unfold An;rw[MY];exact S.len
def Ko(Y:Cx)(i:gV OJ)(t:TT):Prop:=
 ∀(M:gV (M0×Obj)) (s:M3) (a:St) (H:Hp) (Q:Nf->Hp->Prop),Inv Y M a H s->t a H Q->
  wpAny (ND Y.prog Y.w) Y.A (forIn i MX λc r=>if r=MX then do let ok <-isTrue c Y.env<|Pq c Y.env;pure (Sx ok)else pure (Sx r)) (TP Y M a Q) Y.xe s
def Jy:TT:=λ_ H Q=>Q MX H
theorem fu{A B:St->Hp->Prop}(h:A (c.set i<|B' x) H):fO i x c H (λa e=>Jy a e λb d=>if b=MX then A a d else B a d):=by
 show(if MX=MX then A (c.set i<|B' x) H else B (c.set i<|B' x) H)
 exact aB h
theorem dO:Ko Y [] Jy:=λM s a H Q I h=>wpAny_tests_nil ⟨H,I,h⟩
theorem cy(h:PT Y c t):Ko Y [c] t:=λM s a H Q I w=>wpAny_tests_one<|h M s a H Q I w
def iU(J:It)(D:M0)(g:TG)(t:TT)(T:TE)(e:St)(n:Hp)(Q:VK):Prop:=
 ∃W:Nat->Nat->St->gV V->Hp->Prop,(∃m,W 0 m e []<|upd n D<|.lst [])/\∀i m f Y H,W i m f Y H->H D=B' (.lst Y)/\
  ((J.stop i H/\Q (.ref D) H)\/(J.go i H/\∃N:St->gV V->Hp->Prop,(∀c d h,N c d h->∃M,M<m/\W (i+1) M c d h)/\
   ∀x j,J.yld i H x j->g x f j λa o=>t a o λb k=>if b=MX then T a k λy l=>l D=B' (.lst Y)/\Y.length<sizeLine/\N a (Y++[y]) (upd l D<|.lst<|Y++[y])else N a Y k))
def Ap(i:gV (MZ Nat))(w:TI)(g:TG)(t:TT)(T:TE):TE:=λa H Q=>w a H λJ h=>∀D,h D=M5->iU J D g t T (An i a) h Q
section
variable {R:X_->M3->Prop}
theorem ii{q F i:OJ}{u:gV OJ}{a:T5}{P:Pos}{G J:J'}{e:Env}(I:Nat->M3->Prop)
  (Z:∀n s,I n s->wpAny (ND p w) A (Ts G) (λr b=>match r with
   |none=>R (.ok .next) b
   |some v=>wpAny (ND p w) A (Uj F G v) (λ_ f=>wpAny (ND p w) A (Zb F e v) (λ_ g=>
     wpAny (ND p w) A (forIn u MX λc r=>if r=MX then do let ok <-isTrue c e<|Pq c e;pure (Sx ok)else pure (Sx r)) (λok d=>
      if ok=MX then wpAny (ND p w) A (Pq q e) (λx j=>
       wpAny (ND p w) A (call (.builtin "list.append") [J,x]) (λ_ k=>∃m,m<n/\I m k) (λ_ _=>False) j) (λ_ _=>False) d
      else∃m,m<n/\I m d) (λ_ _=>False) g) (λ_ _=>False) f) (λ_ _=>False) b) (λ_ _=>False) s)
  (n:Nat) (h:I n s):
  codeAny (ND p w) A (.compLoop (.ListComp q [⟨F,i,u,0⟩] a P) 0 G J e) R s:=by
 refine codeAny_loop rfl I (λn s M=>?_) n h;show wpAny _ A ((compTurn (.ListComp q [⟨F,i,u,0⟩] a P) 0 G J e).onRaise (λx=>do noteFrame x e;theTreesLotGoes x)) _ _ s
 refine wpAny_noted ?_;rw[compTurn_list];have O:∀{L:Type} {t:Sem L} {Q:L->M3->Prop} {E:J'->M3->Prop} {s:M3},wpAny (ND p w) A t Q (λ_ _=>False) s->wpAny (ND p w) A t Q E s:=λN=>OS N (λ_ _ z=>z) λ_ _ z=>z.elim;refine G'<|I'<|G'<|OS (Z n s M) (λr b l=>?_) λ_ _ H=>H.elim;cases r with
 |none=>exact M9 l
 |some v=>
  refine G'<|OS l (λ_ f y=>?_) λ_ _ H=>H.elim;refine G'<|OS y (λ_ g B=>G'<|OS B (λok d o=>?_) λ_ _ H=>H.elim) λ_ _ H=>H.elim;cases ok with
  |false=>exact M9 ⟨rfl,o⟩
  |true=>
   exact G'<|G'<|OS o (λx j C=>G'<|OS C (λ_ k D=>M9<|M9 ⟨rfl,D⟩) λ_ _ H=>H.elim) λ_ _ H=>H.elim
end
structure CompEnd (X:Cx)(M8:gV (M0×Obj))(σ:St)(H:Hp)(C:M0)(s:M3):Prop where
 inv:Inv X M8 σ H s
 ns:∃m,s.heap.Ns C m
 free:H C=M5
 loc:C≠X.env.locals
 young:X.s₀.heap.objs.size<=C
 cells:∀x c,X.env.cells.lookup x=B' c->c≠C
 pin:∀p∈X.pn++M8,p.1≠C
theorem CompEnd.gone(e:CompEnd X M a H C s)(h:QC C s.heap h'):Inv X M a H {s with heap:=h'}:=
 e.inv.turned (t':=s.toks) (λb o c q=>(h.2 b c).trans q) e.free e.loc (.inr e.young) e.cells e.pin
theorem se{M8:gV (M0×Obj)}{σ:St}{H:Hp}{s:M3}{Q:VK}{RR:J'->M0->X_->M3->Prop}(Zu:X.calm=MX)(S:CompSc X a G Y bk)(hi:PI X Rf L wi)
  (hg:∀C F w A,PG (dH X a G Y C F w A) Rf g) (ht:∀C F w A,Ko (dH X a G Y C F w A) an tt) (he:∀C F w A,PE (dH X a G Y C F w A) as te)
  (I:Inv X M8 σ H s) (h:Ap bk wi g tt te σ H Q)
  (bl:∀D C B s',CompEnd X M8 σ B C s'->Q (.ref D) B->RR (.ref D) C (.ok .next) s'):
  wpAny (ND X.prog X.w) X.A (Pq L X.env) (λx az=>wpAny (ND X.prog X.w) X.A (WZ x) (λit aC=>wpAny (ND X.prog X.w) X.A (newList []) (λQe aF=>
   wpAny (ND X.prog X.w) X.A (W0 a X.env.globals G [] X.env.qual M5 .none<|B' X.env) (λa0 a1=>
    codeAny (ND X.prog X.w) X.A (.compStart (.ListComp as [⟨Rf,L,an,0⟩] a bm) 0 it Qe {a0 with scope:=RA a X.env}) (RR Qe a0.locals) a1) X.xe aF) X.xe aC) X.xe az) X.xe s:=by
 refine bX (hi M8 s σ H _ I h) λv s1 h1=>bX h1 λcf f h2=>?_;obtain⟨it,F,tn,J,O,e,I2,T,Q2,f2,r2⟩:=h2;subst e;have hD:O f.heap.objs.size=none:=I2.hok.fresh<|Na _;have r3:=r2 f.heap.objs.size hD;have I3:Inv X M8 σ (upd O f.heap.objs.size<|.lst []) {f with heap:=f.heap.push {cls:=.type "list",data:=.seq ([]:gV J').toArray}}:=
  I2.laid (t':=f.toks) (λb u q=>Nb _ q) (Na _) ⟨NA _,[],0,.nil,NL _ rfl⟩
 refine O4<|oY λl a2 a3 SI=>?_;dsimp only at a2 a3 SI ⊢;have a4:∀b∈F,b<f.heap.objs.size:=λb j=>by
  obtain⟨o,q,_⟩:=T.obj 0 _ Q2 b j;exact Nx q
 have br:∀b∈F,b≠f.heap.objs.size:=λb j=>NK<|a4 b j;have f3:∀b∈F,qC X M8 (upd O f.heap.objs.size<|.lst []) b:=λb j=>⟨by rw[aj<|br b j];exact(f2 b j).1,(f2 b j).2⟩;generalize a5:({f with heap:=f.heap.push {cls:=.type "list",data:=.seq ([]:gV J').toArray}}:M3)=k at I3;have E:k.heap=f.heap.push {cls:=.type "list",data:=.seq ([]:gV J').toArray}:=by rw[<-a5]
 have a6:∀b∈F,b<k.heap.objs.size:=λb j=>by
  rw[E,Q9];exact PN<|a4 b j
 have bs:l.Ns k.heap.objs.size (λ_=>M5):=by rw[E];exact a2
 have a7:∀b o,k.heap.get? b=B' o->l.get? b=B' o:=λb o q=>by
  rw[E]at q;exact a3 b o q
 have bt:CellsOk l (k.heap.objs.size+1) (OH (k.heap.objs.size+1) a.names []):=by rw[E];exact SI
 have Y1:tn 0 l:=T.keep _ _ _ Q2 λb j o q=>a7 b o (by rw[E];exact Nb _ q);have P:=Ao (tk:=f.toks) S I3 f3 a6 bs a7 bt;have e4:({k with heap:=l,toks:=f.toks}:M3)={f with heap:=l,toks:=f.toks}:=by rw[<-a5]
 rw[e4]at P;have eC:k.heap.objs.size=(f.heap.push {cls:=.type "list",data:=.seq ([]:gV J').toArray}).objs.size:=by rw[E]
 have b1:k.heap.get? k.heap.objs.size=none:=W8<|Na _;obtain⟨W,⟨m0,w0⟩,Z_⟩:=r3;have ba:∀s4,s4={f with heap:=l,toks:=f.toks}->
   codeAny (ND X.prog X.w) X.A (.compLoop (.ListComp as [⟨Rf,L,an,0⟩] a bm) 0 (.ref it) (.ref f.heap.objs.size)<|mj a (OH (k.heap.objs.size+1) a.names G) k.heap.objs.size X.env) (RR (.ref f.heap.objs.size) k.heap.objs.size) s4:=by
  rintro s4 rfl;have ab:∀{B:Hp},(∀b∈F,B b=M5)->∀b∈F,qC (dH X a G Y k.heap.objs.size F k<|upd O f.heap.objs.size<|.lst []) [] B b:=λ{B} hn b j=>
   ⟨hn b j,NK<|a6 b j,(λz=>(P.ok.exfs b j) z),.inl j,λx c e=>(P.ok.exf b j).2 x c e,λp hp=>absurd (show p∈([]:gV (M0×Obj))from hp)<|by simp⟩
  refine ii (λn s'=>∃i M ys B,Inv (dH X a G Y k.heap.objs.size F k<|upd O f.heap.objs.size<|.lst []) [] M B s'/\tn i s'.heap/\(∀b∈F,B b=M5)/\W i n M ys B) ?_ m0
   ⟨0,_,[],_,P,Y1,λb j=>(f3 b j).1,w0⟩
  rintro n s5 ⟨i,U,ys,H5,I5,bb,bc,w5⟩;obtain⟨ch,b2⟩:=Z_ i n U ys H5 w5;obtain⟨bd,qn⟩|⟨go,N,hN,step⟩:=b2
  ·refine bX (T.done (dH X a G Y k.heap.objs.size F k<|upd O f.heap.objs.size<|.lst []) rfl rfl rfl Zu i [] s5 U H5 (λ_ _=>False) I5 (ab bc) bb bd) λr s6 ⟨hr,I6⟩=>?_;subst hr;have I7:Inv X M8 σ H5 s6:=I3.call' (a:=s6) (ch:=F) I6.os I6.base I6.hok I6.bare λb j=>⟨(f3 b j).2.2.2.1,(f3 b j).2.1,(f3 b j).2.2.2.2.1,(f3 b j).2.2.2.2.2⟩;refine bl _ _ H5 s6 ⟨I7,?_,I6.free,Rj I3.lt,I3.sz,λx c e=>?_,λp hp z=>?_⟩ qn
   ·obtain⟨m,hn,_⟩:=I6.loc;exact⟨m,hn⟩
   ·obtain⟨v,q⟩:=I3.cell x c e;exact NK q.lt
   have q:=(I3.pin p hp).1;rw[z,b1]at q;cases q
  refine bX (T.item (dH X a G Y k.heap.objs.size F k<|upd O f.heap.objs.size<|.lst []) rfl rfl rfl Zu i [] s5 U H5 (λ_ _=>False) I5 (ab bc) bb go) λr s6 ⟨u,hr,h6⟩=>?_;subst hr;refine bX h6 λ_ s7 ⟨x,H7,I7,r7,y7,ac,b3⟩=>?_;have b4:=I7.pinned (ab b3)<|T.obj _ _ ac;have be:∀{t:St} {Z:gV V} {H8:Hp} {s8:M3},Inv (dH X a G Y k.heap.objs.size F k<|upd O f.heap.objs.size<|.lst []) ([]++mJ F s7.heap) t H8 s8->N t Z H8->
    ∃m,m<n/\∃i M ys B,Inv (dH X a G Y k.heap.objs.size F k<|upd O f.heap.objs.size<|.lst []) [] M B s8/\tn i s8.heap/\(∀b∈F,B b=M5)/\W i m M ys B:=λ{t Z H8 s8} I8 n8=>by
   obtain⟨m',hm,w8⟩:=hN t Z H8 n8;refine⟨m',hm,i+1,t,Z,H8,I8.unpinned,T.keep _ _ _ ac λb j o e=>(I8.pin (b,o)<|Oo _<|Oo _<|gT j e).1,λb j=>?_,w8⟩;obtain⟨o,e,d⟩:=T.obj _ _ ac b j;exact(I8.pin (b,o)<|Oo _<|Oo _<|gT j e).2.1
  refine bX (hg _ _ _ _ _ s7 U H7 x u _ b4 r7<|step x H7 y7) λ_ s8 ⟨t,H8,I8,q8⟩=>?_;refine bX (ht _ _ _ _ _ s8 t H8 _ I8 q8) λok s9 ⟨H9,I9,q9⟩=>?_;cases ok with
  |false=>exact av<|be I9 q9
  |true=>
   refine aB ?_;refine bX (he _ _ _ _ _ s9 t H9 _ I9 q9) λy b5 ⟨yv,bf,b6,b7,b8,b9,ca⟩=>?_;refine bX (bY _ b5 t bf (.ref f.heap.objs.size) [yv] (.ref f.heap.objs.size) [y] (λv B=>v=.non/\B=upd bf f.heap.objs.size (.lst<|ys++[yv])) b6 rfl (.cons b7 .nil) ⟨_,ys,yv,rfl,rfl,b8,b9,rfl,rfl⟩) λ_ co ⟨_,cs,cc,_,_,cd⟩=>?_;subst cd;exact be cc ca
 have e5:(mj a (OH (k.heap.objs.size+1) a.names G) k.heap.objs.size X.env)={newEnv a (f.heap.push {cls:=.type "list",data:=.seq ([]:gV J').toArray}).objs.size X.env.globals (OH ((f.heap.push {cls:=.type "list",data:=.seq ([]:gV J').toArray}).objs.size+1) a.names G) X.env.qual M5 .none (B' X.env) X.env.builtins with scope:=RA a X.env}:=by
  rw[E];rfl
 have L1:=ba _ rfl;rw[eC]at L1;exact codeAny_compStart_list L1<|T.self _ 0 _ _ _ Y1 L1
theorem bj(Z:X.calm=MX)(S:CompSc X a l N d)(n:PI X r i w)(o:∀C f b c,PG (dH X a l N C f b c) r g)(t:∀C f b c,Ko (dH X a l N C f b c) j T)
  (p:∀C f b c,PE (dH X a l N C f b c) E u) (v:∀x,Vh i X.env x=pure x:=by intro _;rfl):PE X (.ListComp E [⟨r,i,j,0⟩] a P) (Ap d w g T u):=by
 intro M s y H Q I h;rw[eval_ListComp];refine Vz (use:=M5) rfl v S.clos S.kind S.names ?_;refine se (RR:=λz C=>compPost (ND X.prog X.w) X.A X.xe M5 (EP X M y Q) z C) Z S n o t p I h ?_;intro D C A F e q;obtain⟨m,B⟩:=e.ns;exact⟨m,B,λG k=>⟨.ref D,A,e.gone k,rfl,q⟩⟩
def Aq(i:Nat)(t:TE):TS:=λD a H=>t a H λv h=>D.nx (a.set i<|B' v) h
theorem i_{U A:Pos}(P:X.N.Nodup)(Q:X.N[i]?=B' x)(L:X.env.scope.names.lookup x=B' .local)(Z:X.calm=MX)(S:CompSc X b t Y u)(T:PI X o r W)
  (hg:∀C F c d,PG (dH X b t Y C F c d) o g) (ht:∀C F c d,Ko (dH X b t Y C F c d) k tt) (he:∀C F c d,PE (dH X b t Y C F c d) E te)
  (w:UK (.ListComp E [⟨o,r,k,0⟩] b p) (B'<|.Name x U) A.line X.env=pure MX) (hs:∀x,Vh r X.env x=pure x:=by intro _;rfl):
  PS X (.Assign [.Name x U] (.ListComp E [⟨o,r,k,0⟩] b p) A) (Aq i<|Ap u W g tt te):=by
 intro M s σ H D I h;rw[exec_Assign_Name_used _ _ _ _ w];refine G'<|I'<|G' ?_;show wpAny _ X.A (do let _ <-comprehension (.ListComp E [⟨o,r,k,0⟩] b p) b X.env _ (newList []) MW (Pq r X.env)<|B'<|Zb (.Name x U) X.env) _ _ s
 refine G'<|OS (Vz (use:=B'<|Zb (.Name x U) X.env) (Q:=λ_ l=>∃f j,Inv X M f j l/\D.nx f j) rfl hs S.clos S.kind S.names ?_) (λ_ l hq=>M9<|M9 hq) λ_ _ e=>e;refine se (RR:=λQe C=>compPost (ND X.prog X.w) X.A X.xe (B'<|Zb (.Name x U) X.env) (λ_ l=>∃f j,Inv X M f j l/\D.nx f j) Qe C) Z S T hg ht he I h ?_;intro v C j l e q;refine Yx<|o8 e.inv P Q (.inl L) (v:=.ref v) (u:=.ref v) rfl (λy B sb=>?_)<|.inr L;obtain⟨a,n,G⟩:=sb;have N:C≠a:=by
  obtain rfl|G:=G
  ·exact e.loc
  exact λz=>e.cells _ _ G z.symm
 obtain⟨m,O⟩:=e.ns;have e2:CompEnd X M (σ.set i<|B'<|.ref v) j C y:=⟨B,⟨m,O.sameBut n N⟩,e.free,e.loc,e.young,e.cells,e.pin⟩;exact⟨m,O.sameBut n N,λh' J=>⟨_,j,e2.gone J,q⟩⟩
section
variable {K:K'}{a D:M0}{xs:gV V}{g:TG}{tt:TT}{te:TE}{σ0:St}{H1:Hp}{Q:VK}
theorem c_(Pv:Nat->St->gV V->Hp->Prop)(k:Pv 0 σ0 [] (upd H1 D<|.lst []))(l:∀i c Y H,i<=xs.length->Pv i c Y H->H D=B' (.lst Y)/\SqL K H a xs)
  (s:∀i x c Y H,xs[i]?=B' x->Pv i c Y H->g x c H λd n=>tt d n λb h=>if b=MX then te d h λy f=>f D=B' (.lst Y)/\Y.length<sizeLine/\Pv (i+1) d (Y++[y]) (upd f D<|.lst<|Y++[y])else Pv (i+1) d Y h)
  (o:∀c Y H,Pv xs.length c Y H->Q (.ref D) H):iU (DL K a) D g tt te σ0 H1 Q:=by
 exists λi m c Y H=>m=xs.length-i/\i<=xs.length/\Pv i c Y H,⟨xs.length,by simp,NA _,k⟩;rintro i m c Y H ⟨rfl,r,p⟩;obtain⟨t,q⟩:=l i c Y H r p;exists t;by_cases j:i<xs.length
 ·refine .inr ⟨⟨xs,xs[i],q,by simp[j]⟩,Pv<|i+1,λu v w P=>⟨xs.length-(i+1),by lia,rfl,j,P⟩,λx w y=>?_⟩;obtain⟨e,y⟩:=y;subst e;exact s i x c Y _ (y xs q) p
 have e:i=xs.length:=by lia
 subst e;exact .inl ⟨⟨xs,q,Na _⟩,o c Y H p⟩
theorem sh(Pv:Nat->St->gV V->Hp->Prop)(k:Pv 0 σ0 [] (upd H1 D<|.lst []))(l:∀i c Y H,i<=xs.length->Pv i c Y H->H D=B' (.lst Y)/\SqT K H a xs)
  (s:∀i x c Y H,xs[i]?=B' x->Pv i c Y H->g x c H λd n=>tt d n λb h=>if b=MX then te d h λy f=>f D=B' (.lst Y)/\Y.length<sizeLine/\Pv (i+1) d (Y++[y]) (upd f D<|.lst<|Y++[y])else Pv (i+1) d Y h)
  (o:∀c Y H,Pv xs.length c Y H->Q (.ref D) H):iU (HB K a) D g tt te σ0 H1 Q:=by
 exists λi m c Y H=>m=xs.length-i/\i<=xs.length/\Pv i c Y H,⟨xs.length,by simp,NA _,k⟩;rintro i m c Y H ⟨rfl,r,p⟩;obtain⟨t,q⟩:=l i c Y H r p;exists t;by_cases j:i<xs.length
 ·refine .inr ⟨⟨xs,xs[i],q,by simp[j]⟩,Pv<|i+1,λu v w P=>⟨xs.length-(i+1),by lia,rfl,j,P⟩,λx w y=>?_⟩;obtain⟨e,y⟩:=y;subst e;exact s i x c Y _ (y xs q) p
 have e:i=xs.length:=by lia
 subst e;exact .inl ⟨⟨xs,q,Na _⟩,o c Y H p⟩
theorem mY{lo:Int}(Pv:Nat->St->gV V->Hp->Prop)(j:Pv 0 σ0 [] (upd H1 D<|.lst []))(k:∀i c Y H,i<=n->Pv i c Y H->H D=B' (.lst Y))
  (s:∀i c Y H,i<n->Pv i c Y H->g (.int<|lo+i) c H λd l=>tt d l λb h=>if b=MX then te d h λy f=>f D=B' (.lst Y)/\Y.length<sizeLine/\Pv (i+1) d (Y++[y]) (upd f D<|.lst<|Y++[y])else Pv (i+1) d Y h)
  (o:∀c Y H,Pv n c Y H->Q (.ref D) H):iU (F7 lo n) D g tt te σ0 H1 Q:=by
 exists λi m c Y H=>m=n-i/\i<=n/\Pv i c Y H,⟨n,by simp,NA _,j⟩;rintro i m c Y H ⟨rfl,r,p⟩;exists k i c Y H r p;by_cases q:i<n
 ·refine .inr ⟨q,Pv<|i+1,λt u v P=>⟨n-(i+1),by lia,rfl,q,P⟩,λx v y=>?_⟩;obtain⟨e,y⟩:=y;subst e y;exact s i c Y _ q p
 have e:i=n:=by lia
 subst e;exact .inl ⟨Na _,o c Y H p⟩
end
theorem uC:∀{us:gV J'},Vals (ss.map V.str) us->StrsAre us ss:=by
 induction ss with
 |nil=>intro us r;rw[Rl]at r;cases r;exact .nil
 |cons n ns ih=>
  intro us r;rw[NW]at r;cases r with
  |cons r1 r2=>
   obtain⟨t,e⟩:=r1;subst e;exact .cons n t<|ih r2
theorem Ez:Lm X "str.join" (λx b H Q=>∃a p y,x=.str a/\b=[.ref p]/\SqL X.K H p (y.map V.str)/\(y.map (·.length)).sum+y.length*a.length<=16777216/\Q (.str<|YH a y) H):=by
 intro M s g H x b v U Q I c d h;obtain⟨a,p,y,rfl,rfl,e,z,q⟩:=h;obtain⟨t,rfl⟩:=c;obtain⟨u,rfl,f⟩:=fI d;cases f;obtain⟨O,r,P,_⟩:=I.list e;exact join_list P.isList (by simpa using uC r) z λT k=>⟨.str _,H,I.tok _,⟨_,rfl⟩,q⟩
noncomputable def Ar:V->Nf
 |.bl _=>MX
 |.non=>MX
 |_=>MW
noncomputable def jx:V->Nf
 |.bl b=>b
 |_=>MW
theorem we(r:Vals Y O)(c:Y.all Ar=MX):TruthOf p w A (λi v=>O.toArray[i]?=B' v) (λi=>(Y[i]?).elim MW jx):=by
 intro i v s Q E d q;have h:O[i]?=B' v:=by simpa using d
 cases e:Y[i]? with
 |none=>
  rw[r.none_of e]at h;cases h
 |some y=>
  obtain⟨u,f,a⟩:=r.get e;rw[f]at h;cases h;have H:Q ((Y[i]?).elim MW jx) s:=q;rw[e]at H;have g:=OE.mp c y<|Nc e;cases y with
  |bl b=>
   cases a;exact O3 H
  |non=>
   cases a;exact truthy_none H
  |_=>cases g
theorem yw(Y:gV V):(Os Y.length).any (λi=>(Y[i]?).elim MW jx)=Y.any jx:=by
 rw[O0];simp only[N4,Pj];constructor
 ·rintro⟨i,H,h⟩;exists Y[i],PB H;simpa[H]using h
 rintro⟨y,a,h⟩;obtain⟨i,H,rfl⟩:=Sb a;exact⟨i,H,by simpa[H]using h⟩
theorem yx(Y:gV V):(Os Y.length).all (λi=>(Y[i]?).elim MW jx)=Y.all jx:=by
 rw[O0];simp only[OE,Pj];constructor
 ·intro h y a;obtain⟨i,H,rfl⟩:=Sb a;simpa[H]using h i H
 intro h i H;simpa[H]using h Y[i] (PB H)
theorem As(c:X.calm=MX):fo X (.builtin "any") (λx H Q=>∃p y,x=[.ref p]/\SqL X.K H p y/\y.all Ar=MX/\Q (.bl<|y.any jx) H):=by
 intro M s n H x U Q I r h;obtain⟨p,y,rfl,a,d,q⟩:=h;obtain⟨u,rfl,f⟩:=fI r;cases f;obtain⟨O,v,P,z⟩:=I.list a;have l:=P.isList;obtain⟨o,g,_⟩:=id l;have j:p<s.heap.objs.size:=Nx g;refine call_any_walk<|Rz l ?_;refine⟨s.heap.objs.size,_,_,_,_,_,_,rfl,Wa (A:=X.A.in1) (I.ok.hd c) s.heap.objs.size p (NK j) O.toArray,⟨⟨_,NL _ rfl,rfl,rfl⟩,l.push _⟩,we v d,λt T k=>?_⟩;have e:(Os O.toArray.size).any (λi=>(y[i]?).elim MW jx)=y.any jx:=by
  rw[Nq,<-v.length];exact yw y
 rw[e];refine⟨.bl _,H,I.kept λb o e=>k b o ?_<|Nb _ e,rfl,q⟩;intro m;exact absurd (Nd.mp m)<|NK<|Nx e
theorem Au(c:X.calm=MX):fo X (.builtin "all") (λx H Q=>∃p y,x=[.ref p]/\SqL X.K H p y/\y.all Ar=MX/\Q (.bl<|y.all jx) H):=by
 intro M s n H x U Q I r h;obtain⟨p,y,rfl,a,d,q⟩:=h;obtain⟨u,rfl,f⟩:=fI r;cases f;obtain⟨O,v,P,z⟩:=I.list a;have l:=P.isList;obtain⟨o,g,_⟩:=id l;have j:p<s.heap.objs.size:=Nx g;refine call_all_walk<|Rz l ?_;refine⟨s.heap.objs.size,_,_,_,_,_,_,rfl,Wa (A:=X.A.in1) (I.ok.hd c) s.heap.objs.size p (NK j) O.toArray,⟨⟨_,NL _ rfl,rfl,rfl⟩,l.push _⟩,we v d,λt T k=>?_⟩;have e:(Os O.toArray.size).all (λi=>(y[i]?).elim MW jx)=y.all jx:=by
  rw[Nq,<-v.length];exact yx y
 rw[e];refine⟨.bl _,H,I.kept λb o e=>k b o ?_<|Nb _ e,rfl,q⟩;intro m;exact absurd (Nd.mp m)<|NK<|Nx e
theorem mZ:∀(l:gV J') (s:gV Int),l.length=s.length->(∀(i:Nat) (v:J'),l[i]?=B' v->∃(k:Int) (t:Tok),s[i]?=B' k/\v=.int k t)->Q4 l s
 |[],[],_,_=>.nil
 |[],_::_,h,_=>by cases h
 |_::_,[],h,_=>by cases h
 |v::l,k::s,h,f=>by
  obtain⟨a,t,E,b⟩:=f 0 v rfl;have e:k=a:=Nw E;subst e b;exact .cons k t (mZ l s (by simpa using h) λi u H=>f (i+1) u<|by simpa using H)
theorem si{a:Type}:∀{k:gV (a×V)} {v:gV (a×J')} {i:Nat} {q:a×J'},KV k v->v[i]?=B' q->∃p,k[i]?=B' p/\p.1=q.1/\RelV p.2 q.2
 |_,_,_,_,.nil,e=>by cases e
 |_,_,0,_,.cons r _,e=>by
  have E:=Nw e;subst E;exact⟨_,rfl,r.1,r.2⟩
 |_,_,i+1,q,.cons _ t,e=>by
  obtain⟨p,h,H⟩:=si (i:=i) (q:=q) t (by simpa using e);exact⟨p,by simpa using h,H⟩
theorem sj(hc:X.calm=MX):fo X (.builtin "sorted") (λC H Q=>∃p a d,C=[.ref p]/\H p=B' (.dK a)/\a.map (·.1)=d.map Oq/\d.length<64/\
  ∀l U,H l=M5->R4 U d->QG (·<=·) U->Q (.ref l) (upd H l<|.lst<|l5 V.int U)):=by
 intro M s F H C us Q I r h;obtain⟨p,a,d,rfl,hp,G,ab,q⟩:=h;obtain⟨u,rfl,ru⟩:=fI r;cases ru;obtain⟨z,hd,f,J,dd⟩:a.length<=sizeLine/\(p == P4)=MW/\∃f,KV a f/\s.heap.DictOf (bh X.prog X.w) p f:=I.hok p _ hp;obtain⟨ep,j⟩:=dd.dictAt;have Pd:a.length=f.length:=Paired.length J;have ac:d.length=a.length:=by
  have e:=Oe PP G;rw[MY,MY]at e;exact e.symm
 refine R5 Xd Wj Wl (YT _) ?_;unfold Builtin.«sorted»;refine G' (m:=X2 "sorted" 1 1 _)<|M9 ?_;refine G'<|Ur (A:=X.A.in1) (Zc (knd:=bh X.prog X.w) (kvs:=f) (ep:=ep) hd) (I.ok.hd hc) j (by lia) λc T g m A=>?_;have N:g.toList.length=f.length:=by rw[NH];exact A.1
 have D:Q4 g.toList d:=by
  refine mZ _ _ (by rw[N];lia) λi v hv=>?_;obtain⟨k,x,hx,w⟩:=A.2 i v (by rw[<-NZ];exact hv);obtain⟨q1,y,B,_⟩:=si J hx;have E:(a.map (·.1))[i]?=B' k:=by rw[Nu,y];exact Oe B' B
  rw[G,Nu]at E;cases P:d[i]? with
  |none=>rw[P]at E;cases E
  |some n=>
   rw[P]at E;have e3:(Oq n:bR)=k:=Nw E;subst e3;obtain⟨t,et⟩:=QV (k:=n) (v:=v) w;exact⟨n,t,rfl,et⟩
 refine G' (TN ?_<|by rw[N];lia);have W:Inv X M F H {s with heap:=c,toks:=T}:=I.kept m;have L:(c.push<|O_ "list" g.toList.toArray 0).get? c.objs.size=B' (O_ "list" g.toList.toArray 0):=NL _ rfl;refine G'<|OY<|Qj W' ⟨_,L,rfl⟩ WC (list_sort_tree L D (by lia) λO U a1 Y a3=>⟨_,rfl,?_⟩)<|VL _;refine M9 ⟨_,rfl,?_⟩;have hn:=W.hok.fresh (a:=c.objs.size)<|Na _;obtain⟨e,he⟩:=QB (out:=O) L;have I2:Inv X M F (upd H c.objs.size<|.lst<|U.map V.int) {s with heap:=rk (c.push<|O_ "list" g.toList.toArray 0) c.objs.size g.toList O,toks:=T}:=by
  refine W.laid (t':=T) (λb o Z=>?_) (Na _) ?_
  ·have hb:b<c.objs.size:=Nx Z;rw[XI (NK hb)<|by rw[Yd];exact PN hb];exact Nb _ Z
  refine⟨?_,O.toList,e,?_,?_⟩
  ·rw[MY,Y.length_eq];exact OG (aR<|by lia)
  ·exact iG a1
  simpa using he
 exact⟨.ref c.objs.size,_,I2,rfl,q _ U hn Y a3⟩
noncomputable def Io(K:K')(a:M0):It:=
 ⟨λi H=>∃X x,SqL K H a X/\X[i]?=B' x,λi H x h=>∃t v,H t=M5/\x=.ref t/\h=upd H t (.tup [.int i,v])/\∀X,SqL K H a X->X[i]?=B' v,λi H=>∃X,SqL K H a X/\X.length<=i⟩
theorem yy{P:Nm}{w:NF}{K:K'}{J:gV OJ}{k1:Nat}{L:Pos}(a e t:M0)(Tf:e≠t):ye P w K (.Tuple J k1 L) (Io K a) [e,t] e (λi h=>(∃O,IsEnum h e t i O)/\h.IsListIter t a i) where
 mem:=by simp
 obj:=λi h st b f=>by
  obtain⟨⟨O,g⟩,o,j,_,M⟩:=st;obtain rfl|f:=Nz.mp f
  ·exact⟨_,g,λv z=>by
    have z':ZA _=nk v:=z;cases z'⟩
  have e:b=t:=Nd.mp f;subst e;exact⟨o,j,λv z=>by rw[M]at z;cases z⟩
 keep:=λi h h' st k=>by
  obtain⟨⟨O,g⟩,j⟩:=st;exact⟨⟨O,k e (by simp) _ g⟩,j.at λo e=>k t (by simp) o e⟩
 item:=by
  intro X Q T U d i M8 s σ H E I B st W;subst Q T U;obtain⟨xs,x,F,Y⟩:=W;obtain⟨OM,Z,p,hz⟩:=I.list F;obtain⟨u,hu,ru⟩:=Z.get Y;obtain⟨⟨O,g⟩,j⟩:=st;obtain⟨f0,f1,f2,f3,f4,f5⟩:=B e (by simp);obtain⟨g0,G,g2,g3,g4,g5⟩:=B t (by simp);refine wpAny_pyNext_enum_item g j p.isList (x:=u) (by simpa using hu) Tf λh' ho ab ht as hk=>?_;refine⟨_,rfl,wpAny_letOwnedTupleGo_enum ho λl ac A=>?_⟩;have C:e<s.heap.objs.size:=Nx g;have WQ:t<s.heap.objs.size:=by
   obtain⟨o,q,_⟩:=j;exact Nx q
  have y:∀b o,b≠e->b≠t->s.heap.get? b=B' o->l.get? b=B' o:=λb o h3 M q=>A.extBut b o h3<|hk b o h3 M q;have I1:Inv X M8 σ (upd H s.heap.objs.size<|.tup [.int i,x]) {s with heap:=l,toks:=s.toks+1}:=by
   have D:H s.heap.objs.size=none:=I.hok.fresh<|Na _;have an:l.get? s.heap.objs.size=B' {cls:=.type "tuple",data:=.seq #[.int i s.toks,u]}:=A.extBut _ _ (Rj C) ht;have N:∀b o,H b=B' o->b≠e/\b≠t:=λb o q=>⟨λz=>(by rw[z,f0]at q;cases q),λz=>(by rw[z,g0]at q;cases q)⟩;refine I.step (g':=s.gens) (d':=s.drawn) (t':=s.toks+1) (ch:=[e,t]) (λb f=>?_) (λb o _ _ d q _=>?_) (λb o _ _ d q _=>⟨o.slots,?_⟩) (λb o _ q n=>?_) (λb o d q=>⟨o,?_⟩) (λb ys q=>?_) (λb ob ys q=>?_) (λb ps q=>⟨#[],?_⟩) (λm hm=>?_) (λb ob q=>?_) I.bare
   ·obtain rfl|f:=Nz.mp f
    ·exact⟨f3,f1,f4,f5⟩
    have z:b=t:=Nd.mp f;subst z;exact⟨g3,G,g4,g5⟩
   ·exact y b o (λz=>d<|by simp[z]) (λz=>d<|by simp[z]) q
   ·exact y b o (λz=>d<|by simp[z]) (λz=>d<|by simp[z]) q
   ·rw[aj<|NK<|Nx q];exact n
   ·exact y b o (λz=>d<|by simp[z]) (λz=>d<|by simp[z]) q
   ·rw[aj<|ai q D];exact q
   ·rw[aj<|ai q D];exact q
   ·rw[aj<|ai q D,q];simp
   ·obtain⟨o,J,ep,ho,r⟩:=hm;exact⟨o,J,ep,y _ o (OV f1) (OV G) ho,r⟩
   by_cases f:b=s.heap.objs.size
   ·subst f;rw[aa]at q;cases q;exact⟨by show 2<=sizeLine;decide,[.int i s.toks,u],.cons ⟨_,rfl⟩<|.cons ru .nil,⟨_,an,rfl,_,rfl⟩⟩
   rw[aj f]at q;refine(I.hok b ob q).stay (λc v d z=>?_) (λc z=>by rw[aj<|ai z D];exact z) λc ys z=>by rw[aj<|ai z D];exact z
   obtain d|d:=d
   ·subst d;exact y _ v (N _ _ q).1 (N _ _ q).2 z
   exact y _ v (N _ _ d).1 (N _ _ d).2 z
  refine⟨.ref s.heap.objs.size,_,I1,rfl,⟨s.heap.objs.size,x,I.hok.fresh<|Na _,rfl,rfl,λys hy=>by rw[I.list_inj hy F];exact Y⟩,⟨⟨u,by simpa using ac⟩,ab.at λo q=>A.extBut t o (OV Tf) q⟩,λb f=>?_⟩;have Q3:b<s.heap.objs.size:=by
   obtain rfl|f:=Nz.mp f
   ·exact C
   rw[Nd.mp f];exact WQ
  rw[aj<|NK Q3];exact(B b f).1
 done:=by
  intro X Q T U d i M8 s σ H E I B st W;subst Q T U;obtain⟨xs,F,Y⟩:=W;obtain⟨OM,Z,p,hz⟩:=I.list F;obtain⟨⟨O,g⟩,j⟩:=st;obtain⟨g0,G,g2,g3,g4,g5⟩:=B t (by simp);have hl:=Z.length;exact wpAny_pyNext_enum_end (I.ok.hd d) g j p.isList (by simp;lia) λh' eb=>⟨rfl,I.turned (t':=s.toks) (λb o f e=>eb b o f e) g0 G g3 g4 g5⟩
 self:=λ_ _ _ _ _ st h=>by
  obtain⟨⟨O,g⟩,_⟩:=st;exact Yw g h
def Av(f:V->Hp->Prop):gV V->Hp->Prop
 |[x],H=>f x H
 |_,_=>False
theorem jy:∀{v:gV V} {H:Hp},Av f v H->∃x,v=[x]/\f x H
 |[x],_,h=>⟨x,rfl,h⟩
def Kp(K:K')(t:TE):TI:=λb H R=>t b H λx h=>∃a,x=.ref a/\(∃X,SqL K h a X)/\R (Io K a) h
theorem qM{E:gV OJ}{n:Nat}{A:Pos}{p P:Pos}(o:Gl X "enumerate")(r:X.mg "enumerate"=M5)(t:PE X l T)(g:NS [l] X.env=[(MW,Pq l X.env)]:=by rfl):
  PI X (.Tuple E n A) (.Call (.Name "enumerate" p) [l] [] P) (Kp X.K T):=by
 intro M s j H R I h;have v:=au t (bz (X:=X)) (by rw[g];rfl);refine Call_<|fF I o r boot_enumerate<|Pr (bX (v P M s j H (Av λx c=>∃a,x=.ref a/\(∃k,SqL X.K c a k)/\R (Io X.K a) c) I h) λU d ⟨L,c,i,w,Q⟩=>?_) g rfl
 obtain⟨x,e,a,y,⟨k,z⟩,q⟩:=jy Q;subst e y;obtain⟨u,rfl,B⟩:=fI w;cases B;obtain⟨O,N,C,W⟩:=i.list z;refine call_enumerate_list C.isList λD m hit F G=>?_;refine Yw m ?_;have J:Inv X M j c {d with heap:=D}:=i.kept (t':=d.toks) G;refine⟨d.heap.objs.size+1,[d.heap.objs.size+1,d.heap.objs.size],_,_,c,rfl,J,yy a _ _<|Nat.succ_ne_self _,⟨⟨_,m⟩,hit⟩,λb f=>?_,q⟩;obtain rfl|f:=Nz.mp f
 ·exact i.fpOk (T_ _)<|i.hok.fresh<|T_ _
 rw[Nd.mp f];exact i.fpOk (Na _)<|i.hok.fresh<|Na _
theorem sk{K:K'}{a:M0}{X:gV V}{g:TG}{T:TS}{D:gx}{b:St}{H:Hp}(Pv:Nat->St->Hp->Prop)(j:Pv 0 b H)(l:∀i b H,i<=X.length->Pv i b H->SqL K H a X)
  (s:∀i x b H t,X[i]?=B' x->Pv i b H->H t=M5->g (.ref t) b (upd H t<|.tup [.int i,x]) λc f=>T {D with nx:=Pv<|i+1,ct:=Pv<|i+1,bk:=D.nx} c f) (k:∀b H,Pv X.length b H->D.nx b H):
  ∃W:Nat->Nat->St->Hp->Prop,(∃m,W 0 m b H)/\∀i m b H,W i m b H->
   ((Io K a).stop i H/\D.nx b H)\/((Io K a).go i H/\∃N:St->Hp->Prop,(∀d h,N d h->∃M,M<m/\W (i+1) M d h)/\∀x h,(Io K a).yld i H x h->g x b h λc f=>T {D with nx:=N,ct:=N,bk:=D.nx} c f):=by
 exists λi m b H=>m=X.length-i/\i<=X.length/\Pv i b H,⟨X.length,by simp,NA _,j⟩;rintro i m b H ⟨rfl,n,p⟩;have q:=l i b H n p;by_cases Q:i<X.length
 ·refine .inr ⟨⟨X,X[i],q,by simp[Q]⟩,Pv<|i+1,λd h P=>⟨X.length-(i+1),by lia,rfl,Q,P⟩,λx h y=>?_⟩;obtain⟨t,v,o,rfl,rfl,y⟩:=y;exact s i v b H t (y X q) p o
 have e:i=X.length:=by lia
 subst e;exact .inl ⟨⟨X,q,Na _⟩,k b H p⟩
end L2
namespace L2
section
open PySem
theorem EA(e:X.K=K)(h:PE X l t):PI X T l (JP K t):=by subst e;exact eA h
theorem EB(e:X.K=K):IxR X (Ga K):=by subst e;exact zP
theorem gX(e:X.K=K):OpR X (ON .In) (Lo K MW):=by subst e;exact du
theorem oZ(e:X.K=K):OpR X (ON .NotIn) (Lo K MX):=by subst e;exact cQ
theorem pB(e:X.K=K):fo X (.builtin "len") (HG K):=by subst e;exact aD
end
end L2
namespace OD
open PySem L2
noncomputable def absI(i:Int):Int:=if i<0 then -i else i
theorem cW(h:0<=i):absI i=i:=by unfold absI;rw[Np<|by lia]
def Jz:Int->gV Int->Prop
 |_,[]=>True
 |b,l::r=>b<absI l/\Jz (absI l) r
def ClOk(n:Int)(L:gV Int):Prop:=Jz 0 L/\∀l∈L,absI l<=n
noncomputable def iS(c:gV Int):Nh:=.tuple<|c.map .int
noncomputable def Aw(t:Str)(c:gV (gV Int)):Nh:=.tuple [.str t,.list<|c.map iS]
def WS(t:Str):Prop:=∀c∈t.cps.toList,c=119\/c=115
structure SOk (most:Int)(t:Str)(cs:gV (gV Int)):Prop where
 len:(t.length:Int)<=most
 ws:WS t
 many:cs.length<=16
 cl:∀c∈cs,ClOk t.length c
noncomputable def dP(p:gV (Int×Int)):gV (bR×V):=p.map λq=>(Oq q.1,V.int q.2)
noncomputable def o3(p:gV (Int×Int))(k s:Int):gV (Int×Int):=if(p.any λq=>decide (q.1=k))=MX then p.map (λq=>if q.1=k then(q.1,s)else q)else p++[(k,s)]
theorem Iq(p:gV (Int×Int))(k:Int):((dP p).any λv=>decide (v.1=(Oq k:bR)))=p.any λq=>decide (q.1=k):=by
 unfold dP;rw[Tc]
 congr 1
 funext q
 show decide ((Oq q.1:bR)=Oq k)=decide (q.1=k)
 by_cases e:q.1=k
 ·rw[Ng e,Ng<|by rw[e]]
 rw[M6 e,M6 λz=>e<|RJ z]
theorem Ir(p:gV (Int×Int))(k s:Int):dg (dP p) (Oq k) (V.int s)=dP (o3 p k s):=by
 unfold dg o3;rw[Iq];by_cases h:(p.any λq=>decide (q.1=k))=MX
 ·rw[Nt h,Nt h];unfold dP;rw[Ot,Ot]
  congr 1
  funext q
  show(if(Oq q.1:bR)=Oq k then((Oq q.1:bR),V.int s)else(Oq q.1,V.int q.2))=(Oq (if q.1=k then(q.1,s)else q).1,V.int (if q.1=k then(q.1,s)else q).2)
  by_cases e:q.1=k
  ·rw[Nt (by rw[e]),Nt e]
  rw[Np λz=>e<|RJ z,Np e]
 rw[Np h,Np h];unfold dP;rw[NI];rfl
theorem EC(p:gV (Int×Int)):(dP p).map (·.1)=(p.map (·.1)).map Oq:=by
 unfold dP;rw[Ot,Ot];rfl
noncomputable def iV(p:gV (Int×Int))(k:Int):MZ Int:=(p.find? λq=>decide (q.1=k)).map (·.2)
theorem Iu(p:gV (Int×Int))(k:Int):cR (dP p) (Oq k:bR)=(iV p k).map V.int:=by
 induction p with
 |nil=>rfl
 |cons q r i=>
  show cR (((Oq q.1:bR),V.int q.2)::dP r) (Oq k)=_
  by_cases e:q.1=k
  ·rw[cU<|by rw[e]];simp[iV,Pk,e]
  rw[cV λz=>e<|RJ z,i];simp[iV,Pk,e]
structure DOk (n:Int)(ps:gV (Int×Int)):Prop where
 nd:(ps.map (·.1)).Nodup
 rng:∀q∈ps,1<=q.1/\q.1<=n
 sg:∀q∈ps,q.2=1\/q.2=-1
theorem DOk.nil(n:Int):DOk n []:=⟨RU,(λ_ h=>nomatch h),(λ_ h=>nomatch h)⟩
theorem DOk.put(h:DOk n p)(d:1<=k/\k<=n)(c:s=1\/s=-1):DOk n (o3 p k s)/\(o3 p k s).length<=p.length+1:=by
 unfold o3;by_cases a:(p.any λq=>decide (q.1=k))=MX
 ·rw[Nt a];have e:(p.map λq=>if q.1=k then(q.1,s)else q).map (·.1)=p.map (·.1):=by
   rw[Ot]
   congr 1
   funext q
   show(if q.1=k then(q.1,s)else q).1=q.1
   split<;>rfl
  refine⟨⟨by rw[e];exact h.nd,λq H=>?_,λq H=>?_⟩,by rw[MY];lia⟩
  ·obtain⟨Q,b,rfl⟩:=NV.mp H
   split
   ·exact h.rng Q b
   exact h.rng Q b
  obtain⟨Q,b,rfl⟩:=NV.mp H
  split
  ·exact c
  exact h.sg Q b
 rw[Np a];refine⟨⟨?_,λq H=>?_,λq H=>?_⟩,by rw[M7];exact Na _⟩
 ·rw[NI];refine vY h.nd λm=>a ?_;obtain⟨q,H,e⟩:=NV.mp m;exact N4.mpr ⟨q,H,Ng e⟩
 ·obtain z|z:=NB.mp H
  ·exact h.rng q z
  rw[Nd.mp z];exact d
 obtain z|z:=NB.mp H
 ·exact h.sg q z
 rw[Nd.mp z];exact c
noncomputable def Iw(p:gV (Int×Int))(k:Int):Int:=(iV p k).getD 1
theorem DOk.look(h:DOk n p)(H:k∈p.map (·.1)):iV p k=B' (Iw p k)/\(Iw p k=1\/Iw p k=-1):=by
 obtain⟨q,a,e⟩:=NV.mp H;unfold Iw iV;cases f:p.find? λq=>decide (q.1=k)with
 |none=>
  have:=SG.mp f q a;exact absurd (Ng e) this
 |some z=>exact⟨rfl,h.sg z<|Va f⟩
theorem sm(H:1<=k)(h:s=1\/s=-1):absI (k*s)=k:=by
 unfold absI;obtain rfl|rfl:=h
 ·rw[vu,Np<|by lia]
 rw[Nt<|by lia];lia
theorem Ax{f:Int->Int}:∀(s:gV Int) (b:Int),0<=b->(∀k∈s,b<k)->s.Pairwise (· < ·)->(∀k∈s,f k=1\/f k=-1)->Jz b (s.map λk=>k*f k)
 |[],_,_,_,_,_=>trivial
 |k::r,b,g,H,p,h=>by
  have a:=H k Nl;have e:=sm (s:=f k) (show 1<=k by lia)<|h k Nl;obtain⟨P,c⟩:=Oi.mp p;show b<absI (k*f k)/\Jz (absI<|k*f k) (r.map λk=>k*f k)
  rw[e];exact⟨a,Ax r k (by lia) P c λz d=>h z<|Nk _ d⟩
theorem ik:∀{s:gV Int},s.Pairwise (·<=·)->s.Nodup->s.Pairwise (· < ·)
 |[],_,_=>RG
 |k::r,H,n=>by
  obtain⟨p,P⟩:=Oi.mp H;obtain⟨N,a⟩:=O9.mp n;refine Oi.mpr ⟨λz h=>?_,ik P a⟩;have:=p z h;have:k≠z:=λe=>N<|e▸h;lia
theorem DOk.clause{n:Int}{p:gV (Int×Int)}{s:gV Int}(h:DOk n p)(a:s.Perm (p.map (·.1)))(b:s.Pairwise (·<=·)):ClOk n (s.map λk=>k*Iw p k):=by
 have m:∀k∈s,k∈p.map (·.1):=λk H=>a.mem_iff.mp H;have r:∀k∈s,1<=k/\k<=n:=λk H=>by
  obtain⟨q,c,e⟩:=NV.mp<|m k H;rw[<-e];exact h.rng q c
 refine⟨Ax s 0 (SU 0) (λk H=>by have:=(r k H).1;lia) (ik b<|a.nodup_iff.mpr h.nd) λk H=>(h.look<|m k H).2,λl d=>?_⟩;obtain⟨k,H,rfl⟩:=NV.mp d;rw[sm (r k H).1 (h.look<|m k H).2];exact(r k H).2
theorem eF{n:gV Int}{i:Nat}{x:V}(h:(n.map V.int)[i]?=B' x):∃z,x=.int z/\n[i]?=B' z:=by
 rw[Nu]at h;cases e:n[i]? with
 |none=>rw[e]at h;cases h
 |some z=>
  rw[e]at h;exact⟨z,(Nw h).symm,rfl⟩
theorem Ay(n:gV Int)(lo h:MZ Int):∃m:gV Int,eQ (n.map V.int) lo h=m.map V.int/\m.length<=n.length:=by
 unfold eQ;rw[MY];refine⟨(n.drop<|HT.sIx n.length 0 lo).take<|HT.sIx n.length n.length h-HT.sIx n.length 0 lo,?_,?_⟩
 ·rw[<-O',<-List.map_take]
 rw[NO,Pc];lia
theorem wf(a b:Str):(a++b).cps.toList=a.cps.toList++b.cps.toList:=by
 show(a.cps++b.cps).toList=_
 simp
theorem so(h:e.cps.toList=[]):∀a,(l9 e a).cps.toList=(a.map λs=>s.cps.toList).flatten
 |[]=>rfl
 |[x]=>by
  show x.cps.toList=_
  simp
 |x::y::r=>by
  show((x++e)++l9 e (y::r)).cps.toList=_
  rw[wf,wf,h,so h<|y::r];simp
def m7(s:Str):Prop:=s=⟨#[119]⟩\/s=⟨#[115]⟩
theorem m9:∀{a:gV Str},(∀s∈a,m7 s)->(a.map λs=>s.cps.toList).flatten.length=a.length/\∀ch∈(a.map λs=>s.cps.toList).flatten,ch=119\/ch=115
 |[],_=>⟨rfl,λ_ h=>nomatch h⟩
 |s::r,h=>by
  obtain⟨b,c⟩:=m9 (a:=r) λz d=>h z<|Nk _ d;rw[NW,RE];obtain rfl|rfl:=h s Nl
  ·refine⟨by rw[M7,b];show 1+r.length=r.length+1;lia,λch H=>?_⟩;obtain z|z:=NB.mp H
   ·exact .inl (by simpa using z)
   exact c ch z
  refine⟨by rw[M7,b];show 1+r.length=r.length+1;lia,λch H=>?_⟩;obtain z|z:=NB.mp H
  ·exact .inr (by simpa using z)
  exact c ch z
theorem Kq:(M_ "").cps.toList=[]:=by decide+kernel
theorem Az(h:∀s∈a,m7 s):(YH "" a).length=a.length/\WS (YH "" a):=by
 have e:YH (M_ "") a=l9 (M_ "") a:=eq_of_beq<|Zi _ a;obtain⟨b,c⟩:=m9 h;have E:=so Kq a;refine⟨?_,?_⟩
 ·rw[e];show(l9 (M_ "") a).cps.size=_
  rw[<-NH,E];exact b
 intro C H;rw[e,E]at H;exact c C H
theorem pC:∀{a:gV Str},(∀s∈a,m7 s)->(a.map λs=>s.length).sum=a.length
 |[],_=>rfl
 |s::r,h=>by
  rw[NW,List.sum_cons,pC λz H=>h z<|Nk _ H,NC];obtain rfl|rfl:=h s Nl
  ·show 1+_=_;lia
  show 1+_=_;lia
theorem Kr(h:0<=j)(H:j<2):∃c,j0 (M_ "ws").cps.toList j=B' c/\m7 ⟨#[c]⟩:=by
 obtain rfl|rfl:=(by lia:j=0\/j=1)
 ·exact⟨119,by decide+kernel,.inl rfl⟩
 exact⟨115,by decide+kernel,.inr rfl⟩
def CL(H:Hp)(c:gV Int)(v:V):Prop:=∃t,v=.ref t/\H t=B' (.tup<|c.map V.int)
def CLs(H:Hp):gV (gV Int)->gV V->Prop:=Paired<|CL H
theorem CL.mono(h:CL H c v)(k:Same H a):CL a c v:=let ⟨t,e,z⟩:=h;⟨t,e,k _ _ z⟩
theorem CL.upd(h:CL H c v)(a:H q=B' (.lst x)):CL (upd H q o) c v:=by
 obtain⟨t,e,z⟩:=h;exact⟨t,e,by rw[aj<|b_ z a<|by intro w;cases w];exact z⟩
theorem CLs.mono(k:Same H a):∀{c:gV (gV Int)} {x:gV V},CLs H c x->CLs a c x
 |_,_,.nil=>.nil
 |_,_,.cons h t=>.cons (h.mono k)<|CLs.mono k t
theorem CLs.upd(a:H q=B' (.lst y)):∀{c:gV (gV Int)} {x:gV V},CLs H c x->CLs (upd H q o) c x
 |_,_,.nil=>.nil
 |_,_,.cons h t=>.cons (h.upd a)<|CLs.upd a t
theorem CLs.snoc(h:CL H c v)(t:CLs H C x):CLs H (C++[c]) (x++[v]):=Paired.snoc t h
theorem CLs.length(h:CLs H c x):c.length=x.length:=Paired.length h
theorem CLs.get:∀{C:gV (gV Int)} {x:gV V} {j:Nat} {v:V},CLs H C x->x[j]?=B' v->∃c,C[j]?=B' c/\CL H c v
 |_,_,_,_,.nil,e=>by cases e
 |_,_,0,_,.cons h _,e=>⟨_,rfl,by have E:=Nw e;subst E;exact h⟩
 |_,_,j+1,v,.cons _ t,e=>by
  obtain⟨c,a,b⟩:=CLs.get (j:=j) (v:=v) t (by simpa using e);exact⟨c,by simpa using a,b⟩
theorem CL.rd(h:CL H c v):RD H (iS c) v:=by
 obtain⟨t,rfl,z⟩:=h;exact aX z<|jw c
theorem CLs.rds:∀{c:gV (gV Int)} {x:gV V},CLs H c x->dw H (c.map iS) x
 |_,_,.nil=>aw
 |_,_,.cons h t=>ak h.rd<|CLs.rds t
theorem CL.of(h:RD H (iS c) v):CL H c v:=by
 obtain⟨a,x,rfl,b,d⟩:=aq h;refine⟨a,rfl,?_⟩;rw[b];have:∀(N:gV Int) (x:gV V),dw H (N.map Tv) x->x=N.map V.int:=by
  intro N
  induction N with
  |nil=>intro x r;exact bS r
  |cons n r i=>
   intro x z;obtain⟨y,Y,rfl,e,t⟩:=ao z;have E:y=.int n:=by
    unfold RD at e;exact e
   rw[E,i Y t];rfl
 rw[this c x d]
theorem CLs.of:∀{C:gV (gV Int)} {x:gV V},dw H (C.map iS) x->CLs H C x
 |[],x,h=>by
  rw[bS h];exact .nil
 |c::C,x,h=>by
  obtain⟨y,Y,rfl,a,b⟩:=ao h;exact .cons (CL.of a)<|CLs.of b
theorem ED(a:H p=B' (.tup [.str t,.ref q]))(b:H q=B' (.lst x))(h:CLs H c x):RD H (Aw t c) (.ref p):=
 aX a (ak (cD t)<|ak (bP b h.rds) aw)
theorem AA(h:RD H (Aw t c) v):∃p q x,v=.ref p/\H p=B' (.tup [.str t,.ref q])/\H q=B' (.lst x)/\CLs H c x:=by
 obtain⟨p,Y,rfl,b,d⟩:=aq h;obtain⟨y,Z,rfl,a,f⟩:=ao d;obtain⟨z,w,rfl,g,i⟩:=ao f;have j:=bS i;subst j;obtain⟨q,x,rfl,k,l⟩:=ft g;have e:y=.str t:=by
  unfold RD at a;exact a
 subst e;exact⟨p,q,x,rfl,b,k,CLs.of l⟩
theorem ja:∀C:gV (gV Int),OA (C.map iS)=MX
 |[]=>rfl
 |c::r=>by
  show(OA (c.map Tv)&&OA (r.map iS))=MX
  rw[PySem.W.ke_canLayAll0,ja r];rfl
theorem pD(h:d.canLay0=MX)(H:d.depth<=64):OB d=true:=by
 unfold OB;rw[h,Ng H];rfl
theorem lq:OB (.tuple [])=true:=by decide+kernel
theorem jb(c:gV Int):NT (iS c) (.tuple [])=decide (c=[]):=by
 cases c with
 |nil=>simp[iS,NT,Pm]
 |cons n r=>simp[iS,NT,Pm]
mutual
theorem m_:∀d,d.canLay0=MX->NT d d=MX
 |.none,_=>rfl
 |.bool b,_=>by simp[NT]
 |.int i,_=>by simp[NT]
 |.str x,_=>by simp[NT]
 |.list D,h=>by
  show Pm D D=MX
  exact il D h
 |.tuple D,h=>by
  show Pm D D=MX
  exact il D h
 |.dict _,h=>by cases h
theorem il:∀D,OA D=MX->Pm D D=MX
 |[],_=>rfl
 |d::r,h=>by
  have H:d.canLay0=MX/\OA r=true:=by simpa[OA]using h
  show(NT d d&&Pm r r)=MX
  rw[m_ d H.1,il r H.2];rfl
end
abbrev Mc:R2:=λx y H Q=>LO x y H Q\/Ih x y H Q
abbrev Md:R2:=λx y H Q=>LP x y H Q\/Ii x y H Q
theorem wg:∀{c:gV Int} {b:Int},0<=b->Jz b c->∀l∈c,1<=absI l
 |[],_,_,_,_,h=>nomatch h
 |x::r,b,a,h,l,H=>by
  have d:=h.1;obtain rfl|H:=Nz.mp H
  ·lia
  exact wg (b:=absI x) (by lia) h.2 l H
theorem ClOk.pos(h:ClOk n c):∀l∈c,1<=absI l:=wg (SU 0) h.1
noncomputable def hit(B:gV Nf)(l:Int):Nf:=match B[(absI l-1).toNat]? with
 |some b=>b == decide (0<l)
 |none=>MW
theorem fQ{a:Type}{f g:a->Nf}:∀{X:gV a},(∀x∈X,f x=g x)->X.any f=X.any g
 |[],_=>rfl
 |x::r,h=>by
  rw[Ru,Ru,h x Nl,fQ λz H=>h z<|Nk _ H]
theorem qN(c:gV Int)(l:Int):c.any (λx=>decide (x=l))=c.contains l:=by
 rw[O0,N4,Nj];constructor
 ·rintro⟨x,H,e⟩;exact N0 e▸H
 intro h;exact⟨l,h,Ng rfl⟩
theorem cm(c:gV Int)(l:Int):iR (.int l) (c.map V.int)=c.contains l:=by
 unfold iR;rw[Tc,<-qN];refine fQ λx _=>?_;show(x == l)=decide (x=l)
 rw[O0,NX];exact QZ
theorem de(q:St)(p:V->Nf)(f:V->V)(E:d=M5::q)(k:h a=B' (.tup X))(g:h D=M5)(P:X.length<=9000)
  (t:∀x∈X,∀H R,Same h H->R (p x) H->T (B' x::q) H R)
  (n:∀x∈X,p x=MX->∀H R,Same h H->R (f x) H->o (B' x::q) H R)
  (r:Q (.ref D) (upd h D<|.lst<|(X.filter p).map f)):iU (HB K a) D (fO 0) T o d h Q:=by
 have N:a≠D:=ai k g;refine sh (K:=K) (a:=a) (xs:=X) (λi b y c=>(∃v,b=v::q)/\y=((X.take i).filter p).map f/\c=upd h D (.lst y)) ⟨⟨M5,E⟩,rfl,rfl⟩ ?_ ?_ ?_
 ·rintro i b y c _ ⟨_,_,rfl⟩;exact⟨aa,SqT.of<|by rw[aj N];exact k⟩
 ·rintro i x b y c l ⟨⟨v,rfl⟩,U,rfl⟩;have m:=Nc l;have e:X.take (i+1)=X.take i++[x]:=by rw[Oc,l];rfl
  refine t x m _ _ (af g _) ?_;cases j:p x with
  |true=>
   refine aB<|n x m j _ _ (af g _) ⟨aa,?_,⟨_,rfl⟩,?_,gf⟩
   ·have:y.length<=X.length:=by
     rw[U,MY];exact Oz (OX _ _) (by rw[NO];lia)
    exact bH (by lia)
   ·rw[e,Px,NI,<-U];simp[j]
  |false=>
   refine av ⟨⟨_,rfl⟩,?_,rfl⟩;rw[e,Px,NI,<-U];simp[j]
 rintro b y c ⟨_,U,rfl⟩;rw[Nn<|Na _]at U;rw[U];exact r
theorem fR(q:St)(p:V->Nf)(f:V->V)(E:d=M5::q)(k:h a=B' (.lst X))(g:h D=M5)(P:X.length<=9000)
  (t:∀x∈X,∀H R,Same h H->R (p x) H->T (B' x::q) H R)
  (n:∀x∈X,p x=MX->∀H R,Same h H->R (f x) H->o (B' x::q) H R)
  (r:Q (.ref D) (upd h D<|.lst<|(X.filter p).map f)):iU (DL K a) D (fO 0) T o d h Q:=by
 have N:a≠D:=ai k g;refine c_ (K:=K) (a:=a) (xs:=X) (λi b y c=>(∃v,b=v::q)/\y=((X.take i).filter p).map f/\c=upd h D (.lst y)) ⟨⟨M5,E⟩,rfl,rfl⟩ ?_ ?_ ?_
 ·rintro i b y c _ ⟨_,_,rfl⟩;exact⟨aa,SqL.of<|by rw[aj N];exact k⟩
 ·rintro i x b y c l ⟨⟨v,rfl⟩,U,rfl⟩;have m:=Nc l;have e:X.take (i+1)=X.take i++[x]:=by rw[Oc,l];rfl
  refine t x m _ _ (af g _) ?_;cases j:p x with
  |true=>
   refine aB<|n x m j _ _ (af g _) ⟨aa,?_,⟨_,rfl⟩,?_,gf⟩
   ·have:y.length<=X.length:=by
     rw[U,MY];exact Oz (OX _ _) (by rw[NO];lia)
    exact bH (by lia)
   ·rw[e,Px,NI,<-U];simp[j]
  |false=>
   refine av ⟨⟨_,rfl⟩,?_,rfl⟩;rw[e,Px,NI,<-U];simp[j]
 rintro b y c ⟨_,U,rfl⟩;rw[Nn<|Na _]at U;rw[U];exact r
theorem cA(c:gV Int)(p:Int->Nf)(q:V->Nf)(h:∀i,q (.int i)=p i):((c.map V.int).filter q).map (λx=>x)=(c.filter p).map V.int:=by
 rw[S8];rw[List.filter_map];refine Oe _<|Vt λx _=>h x
theorem cT{c:gV Int}{x:V}(h:x∈c.map V.int):∃z∈c,x=.int z:=by
 obtain⟨z,H,e⟩:=NV.mp h;exact⟨z,H,e.symm⟩
theorem AB(h:OB d=MX):d.canLay0=true:=by
 unfold OB at h;rw[N5]at h;exact h.1
theorem jz(a:RD H d x)(b:RD H d y)(h:OB d=MX)(q:Q (.bl MX) H):Mc x y H Q:=
 .inr ⟨d,d,a,b,h,h,by rw[m_ d<|AB h];exact q⟩
theorem nc(a:RD H d x)(b:RD H d y)(h:OB d=MX)(q:Q (.bl MW) H):Md x y H Q:=
 .inr ⟨d,d,a,b,h,h,by rw[m_ d<|AB h];exact q⟩
theorem Lu{x y:V}{A B:Prop}(h:x=y)(b:B):if(!decide (x=y))=MX then A else B:=by
 rw[Ng h];exact av b
theorem jA:∀B:gV Nf,dw H (B.map Rc)<|B.map V.bl
 |[]=>aw
 |b::r=>ak (Ew b)<|jA r
theorem nh:∀B:gV Nf,OA (B.map Rc)=MX
 |[]=>rfl
 |b::r=>by
  show(MX&&OA (r.map Rc))=MX
  rw[nh r];rfl
theorem pE:∀B:gV Nf,Qy (B.map Rc)=0
 |[]=>rfl
 |b::r=>by
  show max 0 (Qy<|r.map Rc)=0
  rw[pE r];rfl
theorem ni(b:gV Nf):OB (.list<|b.map Rc)=true:=by
 refine pD (nh b) ?_;show Qy (b.map Rc)+1<=64
 rw[pE];lia
theorem Me:gb "tuple" "tuple"=B' true:=by decide+kernel
theorem MC:gb "list" "list"=B' true:=by decide+kernel
theorem EE{B:gV Nf}{i:Nat}{x:V}(h:(B.map V.bl)[i]?=B' x):∃b,x=.bl b/\B[i]?=B' b:=by
 rw[Nu]at h;cases e:B[i]? with
 |none=>rw[e]at h;cases h
 |some z=>
  rw[e]at h;exact⟨z,(Nw h).symm,rfl⟩
noncomputable def su(p:Int->Nf):V->Nf
 |.int z=>p z
 |_=>MW
noncomputable def JA(f:Int->V):V->V
 |.int z=>f z
 |x=>x
end OD
namespace L2
open PySem PySem.Spec PyProof.Rows
def Mf:R2:=λx y H Q=>∃(D:Nh) (s:gV Nh),RD H D x/\RD H (.list s) y/\D.canLay0=MX/\OA s=MX/\D.depth<=60/\Q (.bl<|s.any λd=>NT d D) H
theorem Ix(j:X.A.units+64<QT):OpR X (ON .In) Mf:=by
 intro M s k H x y v u Q I r a h;obtain⟨d,D,b,c,e,f,l,q⟩:=h;obtain⟨A,g⟩:=dj I d x v b r;obtain⟨B,i⟩:=dj I (.list D) y u c a;refine SeqAt.in_list_reads i g f e ?_ ⟨.bl _,H,I,rfl,q⟩;have:min (Qy D) d.depth<=d.depth:=Tz _ _;lia
def fS(m:Str->MZ J')(x:Str)(v:V):Prop:=∃u,m x=B' u/\RelV v u
theorem aN(h:Gl X x)(H:fS X.mg x v)(d:(x == ("__debug__":Str))=false:=by decide):PE X (.Name x p) (tC v):=by
 obtain⟨u,a,b⟩:=H;exact DQ h a b d
end L2
namespace OD
open PySem L2
noncomputable def cj(t:Str)(i:Nat):Nf:=decide (t.cps.toList[i]?=B' 119)
noncomputable def ay(b:Nf):Str:=if b=MX then M_ "wisher" else M_ "spoiler"
theorem sv:M_ "wisher"≠M_ "spoiler":=by decide+kernel
theorem yz(h:ay a=ay b):a=b:=by
 cases a<;>cases b
 ·rfl
 ·exact absurd h.symm sv
 ·exact absurd h sv
 rfl
theorem fT(a b:Nf):decide (V.str (ay a)=V.str (ay b))=decide (a=b):=by
 refine Qi.mpr ⟨λh=>yz<|V.str.inj h,λh=>by rw[h]⟩
def Iy(i n:Nat)(C:gV (gV Int)):Prop:=∀c∈C,∀l∈c,(i:Int)<absI l/\absI l<=(n:Int)
theorem aH(l:Int):(0<=l/\absI l=l)\/(l<0/\absI l=-l):=by
 unfold absI;by_cases h:l<0
 ·exact .inr ⟨h,Nt h⟩
 exact .inl ⟨by lia,Np h⟩
theorem Gp:decide (V.str ⟨#[ch]⟩=V.str (M_ "w"))=decide (ch=119):=by
 have e:M_ "w"=⟨#[119]⟩:=by decide+kernel
 rw[e];refine Qi.mpr ⟨λh=>?_,λh=>by rw[h]⟩;have:=V.str.inj h;injection this with H;have a:=Oe Y0 H;simpa using a
theorem uD(h:t.cps.toList[i]?=B' ch):cj t i=decide (ch=119):=by
 unfold cj;rw[h];exact Qi.mpr ⟨λz=>Nw z,λz=>Oe _ z⟩
end OD
namespace L2
open PySem PySem.Spec PyProof.Rows
noncomputable def yA(lo:Int)(n:Nat):It:=⟨λi _=>i<n,λi H x h=>h=H/\x=.int (lo-i),λi _=>n<=i⟩
theorem sA{P:Nm}{w:NF}{K:K'}{B:OJ}(a:M0)(lo:Int)(n:Nat):ye P w K B (yA lo n) [a] a (λi h=>W7 h a (lo+(i:Nat)*(-1)) ((n:Int)-(i:Nat)) (-1)) where
 mem:=by simp
 obj:=λi h st b c=>by
  have e:b=a:=by simpa using c
  subst e;exact⟨_,st,λv z=>by
   have Z:ZA _=nk v:=z;cases Z⟩
 keep:=λi h d st k=>k a (by simp) _ st
 item:=by
  intro X g j l m i M s y H E I f st p;subst g j l;obtain⟨F,q,C,r,u,x⟩:=f a (by simp);have W:=vb (prog:=X.prog) (w:=X.w) (I.ok.hd m) a lo (-1) n;refine W.item i s _ _ p st λv d T D A G=>?_;obtain⟨t,rfl⟩:=D;have J:Inv X M y H {s with heap:=d,toks:=T}:=I.turned (λb o c e=>G b o (by simpa using c) e) F q r u x;refine⟨_,rfl,vL (s:={s with heap:=d,toks:=T}) (n:="range_iterator") A rfl rfl (by decide) ⟨.int<|lo-i,H,J,⟨t,?_⟩,⟨rfl,rfl⟩,A,λb c=>(f b c).1⟩⟩;have e:lo+(i:Int)*(-1)=lo-i:=by lia
  rw[e]
 done:=by
  intro X g j l m i M s y H E I f st p;subst g j l;obtain⟨F,q,C,r,u,x⟩:=f a (by simp);exact V7 (I.ok.hd m) st (by have:n<=i:=p;lia) λd L=>⟨rfl,I.turned (t':=s.toks) (λb o c e=>L b o c e) F q r u x⟩
 self:=λ_ _ _ _ _ st h=>V8 st h
theorem yB{M:gV (M0×Obj)}{a:St}{H:Hp}{s:M3}{R:It->Hp->Prop}{E:J'->M3->Prop}{lo h:Int}{t u v:Tok}{T:Nat}(I:Inv X M a H s)(c:-(2^62)<=lo)(d:lo<2^62)(f:-(2^62)<=h)(g:h<2^62)
  (q:R (yA lo (lo-h).toNat) H):wpAny (ND X.prog X.w) X.A (WZ<|.ref s.heap.objs.size) (LI X M a m R) E {s with heap:=s.heap.push {cls:=.type "range",data:=.fields #[.int lo t,.int h u,.int (-1) v]},toks:=T}:=by
 refine XX (x9 ..) (PySem.W.small_down c d f g) ?_;have i:Inv X M a H {s with heap:=s.heap.push {cls:=.type "range",data:=.fields #[.int lo t,.int h u,.int (-1) v]},toks:=T}:=I.kept λb o e=>Nb _ e;refine⟨(s.heap.push {cls:=.type "range",data:=.fields #[.int lo t,.int h u,.int (-1) v]}).objs.size,[(s.heap.push {cls:=.type "range",data:=.fields #[.int lo t,.int h u,.int (-1) v]}).objs.size],_,_,H,rfl,
  i.kept (t':=T) λb o e=>Nb _ e,sA _ lo (lo-h).toNat,?_,λb j=>?_,q⟩
 ·have k:lo+((0:Nat):Int)*(-1)=lo:=by simp
  have l:(((lo-h).toNat:Nat):Int)-((0:Nat):Int)=VZ lo h (-1):=by rw[PySem.W.rangeSize_down];split<;>lia
  show W7 _ _ (lo+((0:Nat):Int)*(-1)) ((((lo-h).toNat:Nat):Int)-((0:Nat):Int)) (-1)
  rw[k,l];exact NL _ rfl
 have e:b=(s.heap.push {cls:=.type "range",data:=.fields #[.int lo t,.int h u,.int (-1) v]}).objs.size:=by simpa using j
 subst e;exact i.fpOk (Na _)<|i.hok.fresh<|Na _
def Ks(t:TA):TI:=λa H R=>t a H λv h=>∃i j:Int,v=[.int i,.int j,.int (-1)]/\(-(2^62)<=i/\i<2^62/\ -(2^62)<=j/\j<2^62)/\R (yA i (i-j).toNat) h
theorem pF{X:Cx}{g:OJ}{a b c:OJ}{T:TA}{p P:Pos}(k:Gl X "range")(m:X.mg "range"=M5)(l:PA X [a,b,c] T)(n:NS [a,b,c] X.env=(MW,Pq a X.env)::NS [b,c] X.env:=by rfl)(Z:(Qw P<|NS [b,c] X.env).any (·.1)=false:=by rfl):
  PI X g (.Call (.Name "range" p) [a,b,c] [] P) (Ks T):=by
 intro M s o H R I h;refine Call_<|fF I k m rb<|Pr (bX (l P M s o H _ I h) λU B ⟨C,D,u,v,Q⟩=>?_) n Z;obtain⟨i,j,e,⟨Q,w,x,y⟩,q⟩:=Q;subst e;cases v with
 |cons r d=>
  cases d with
  |cons z d=>
   cases d with
   |cons f d=>
    cases d;obtain⟨t,rfl⟩:=r;obtain⟨E,rfl⟩:=z;obtain⟨A,rfl⟩:=f;exact call_range_3 (by decide) (yB u Q w x y q) (.inl<|Wf<|by decide)
theorem nj{lo:Int}{n:Nat}{g:TG}{t:TS}{D:gx}(Pv:Nat->St->Hp->Prop)(f:Pv 0 a H)
  (s:∀i a H,i<n->Pv i a H->g (.int<|lo-i) a H λb d=>t {D with nx:=Pv<|i+1,ct:=Pv<|i+1,bk:=D.nx} b d) (j:∀a H,Pv n a H->D.nx a H):
  ∃W:Nat->Nat->St->Hp->Prop,(∃m,W 0 m a H)/\∀i m a H,W i m a H->
   ((yA lo n).stop i H/\D.nx a H)\/((yA lo n).go i H/\∃N:St->Hp->Prop,(∀c h,N c h->∃M,M<m/\W (i+1) M c h)/\∀x h,(yA lo n).yld i H x h->g x a h λb d=>t {D with nx:=N,ct:=N,bk:=D.nx} b d):=by
 exists λi m a H=>m=n-i/\i<=n/\Pv i a H,⟨n,by simp,NA _,f⟩;rintro i m a H ⟨rfl,k,p⟩;by_cases Q:i<n
 ·refine .inr ⟨Q,Pv<|i+1,λc h P=>⟨n-(i+1),by lia,rfl,Q,P⟩,λx h y=>?_⟩;obtain⟨e,y⟩:=y;subst e y;exact s i a _ Q p
 have e:i=n:=by lia
 subst e;exact .inl ⟨Na _,j a H p⟩
end L2
namespace OD
open PySem L2
noncomputable def hV(n:Nat)(N:Nat)(l:Int):Nf:=decide (N/2^(n-(absI l).toNat)%2=1) == decide (0<l)
noncomputable def AC(n:Nat)(C:gV (gV Int))(N:Nat):Nf:=C.all λc=>c.any<|hV n N
noncomputable def dh(t:Str)(c:gV (gV Int)):Nat->Nat->Nat->Nf
 |0,_,n=>AC t.length c n
 |f+1,i,n=>if cj t i=MX then dh t c f (i+1) (2*n) || dh t c f (i+1) (2*n+1)else dh t c f (i+1) (2*n)&&dh t c f (i+1) (2*n+1)
noncomputable def jB(B:gV Nf):Nat:=B.foldl (λa b=>2*a+(if b=MX then 1 else 0)) 0
theorem pG(B:gV Nf)(b:Nf):jB (B++[b])=2*jB B+(if b=MX then 1 else 0):=by
 unfold jB;rw[Ta];rfl
theorem AD(m r e:Nat)(h:r<2):(2*m+r)/2^(e+1)=m/2^e:=by
 rw[Qo,UG (2^e) 2,<-Wq];have:(2*m+r)/2=m:=by lia
 rw[this]
theorem AE{P:gV Nf->Prop}(h0:P [])(hs:∀bs b,P bs->P (bs++[b]))(bs:gV Nf):P bs:=by
 have:∀(r:gV Nf),P r.reverse:=by
  intro r
  induction r with
  |nil=>exact h0
  |cons b r ih=>
   rw[Vr];exact hs _ _ ih
 have z:=this bs.reverse
 rwa [RS]at z
theorem AF(B:gV Nf):∀j,j<B.length->B[j]?=B' (decide (jB B/2^(B.length-1-j)%2=1)):=by
 induction B using AE with
 |h0=>intro j h;cases h
 |hs B b i=>
  intro j H;rw[M7,NG]at H ⊢;rw[pG];by_cases e:j<B.length
  ·rw[N3 e,i j e];have E:B.length+1-1-j=(B.length-1-j)+1:=by lia
   rw[E,AD _ _ _ (by split<;>lia)]
  have E:j=B.length:=by lia
  subst E;rw[N7<|Na _,P1];have a:B.length+1-1-B.length=0:=by lia
  rw[a,Nat.pow_zero,Nat.div_one];show B' b=_
  cases b with
  |true=>rw[Nt rfl];congr 1;symm;exact Ng (by lia)
  |false=>rw[Np Ni];congr 1;symm;exact M6 (by lia)
theorem EF(h:1<=absI l)(H:absI l<=(b.length:Int)):hit b l=hV b.length (jB b) l:=by
 unfold hit hV;rw[AF b (absI l-1).toNat<|by lia];have e:b.length-1-(absI l-1).toNat=b.length-(absI l).toNat:=by lia
 rw[e]
theorem sB(k:Nat):((2:Int)^k)=((2^k:Nat):Int):=by
 induction k with
 |zero=>rfl
 |succ k i=>rw[Int.pow_succ,i,Qo,Int.natCast_mul];rfl
theorem wj(n:Nat):(1:Int)*2^((n:Int)).toNat=((2^n:Nat):Int):=by
 rw[Xk,Od,sB]
theorem EG(n k:Nat):Q_ ((n:Int)/2^k) 1=((n/2^k%2:Nat):Int):=by
 have e:Q_ ((n:Int)/2^k) 1=(n:Int)/2^k%2:=Wm _;rw[e,sB];lia
theorem AG(n k:Nat):decide (V.int (Q_ ((n:Int)/2^k) 1)=V.int 1)=decide (n/2^k%2=1):=by
 rw[EG];refine Qi.mpr ⟨λh=>?_,λh=>?_⟩
 ·have H:=V.int.inj h;lia
 rw[h];rfl
theorem EH{n:Nat}{N:Nat}{z:Int}(h:absI z<=(n:Int))(H:1<=absI z):decide (V.bl (decide (V.int (Q_ ((N:Int)/2^((n:Int)-absI z).toNat) 1)=V.int 1))=V.bl (decide (0<z)))=hV n N z:=by
 rw[qE,AG];unfold hV;have e:((n:Int)-absI z).toNat=n-(absI z).toNat:=by lia
 rw[e]
noncomputable def uE(t:Str)(c:gV (gV Int))(i:Nat):gV V:=(Os (2^i)).map λm=>V.bl<|dh t c (t.length-i) i m
theorem AH{t:Str}{c:gV (gV Int)}{i m:Nat}(h:m<2^i){j:Int}(H:j=(m:Int)):j0 (uE t c i) j=B' (.bl<|dh t c (t.length-i) i m):=by
 subst H;refine bi ?_;unfold uE;rw[Nu,Se h];rfl
theorem AI(h:k<t.length)(m:Nat):dh t c (t.length-k) k m=if cj t k=MX then dh t c (t.length-(k+1)) (k+1) (2*m) || dh t c (t.length-(k+1)) (k+1) (2*m+1)else dh t c (t.length-(k+1)) (k+1) (2*m)&&dh t c (t.length-(k+1)) (k+1) (2*m+1):=by
 have e:t.length-k=(t.length-(k+1))+1:=by lia
 rw[e];rfl
def LV(H:Hp)(p:M0)(t:Str)(c:gV (gV Int))(lo:Nat)(x:gV V):Prop:=∀d:Nat,d<x.length->∃a,x[d]?=B' (.ref a)/\a≠p/\H a=B' (.lst<|uE t c<|lo+d)
theorem LV.keep(h:LV H p t C lo x)(k:∀b o,H b=B' o->b≠p->e b=B' o):LV e p t C lo x:=λd f=>by
 obtain⟨a,g,c,i⟩:=h d f;exact⟨a,g,c,k a _ i c⟩
theorem LV.cons(h:LV H p t c lo x)(f:a≠p)(r:H a=B' (.lst<|uE t c l))(e:l+1=lo):LV H p t c l (.ref a::x):=λd g=>by
 cases d with
 |zero=>exact⟨a,rfl,f,r⟩
 |succ d=>
  obtain⟨b,i,j,k⟩:=h d (by simpa using g);have E:l+(d+1)=lo+d:=by lia
  exact⟨b,by simpa using i,j,by rw[E];exact k⟩
theorem LV.at(h:LV H p t c 0 x)(e:d<x.length)(f:j=(d:Int)):∃a,j0 x j=B' (.ref a)/\H a=B' (.lst<|uE t c d):=by
 obtain⟨a,g,_,b⟩:=h d e;rw[Qn]at b;subst f;exact⟨a,bi g,b⟩
theorem hand_at(h:H l=B' (.lst [.str<|M_ "spoiler",.str<|M_ "wisher"]))(b:Nf)(q:Q (.str<|ay b) H):Ga K (.ref l) (.int (if b then 1 else 0)) H Q:=by
 refine .inl ⟨l,_,_,.str<|ay b,rfl,rfl,SqL.of h,?_,q⟩;cases b<;>rfl
theorem SOk.rng(h:SOk m t C):Iy 0 t.length C:=λc H l a=>⟨by have:=(h.cl c H).pos l a;lia,(h.cl c H).2 l a⟩
theorem EI(h:Q (a.set i<|B' v) H):fO i v a H Q:=h
end OD
namespace L2
open PySem PySem.Spec PyProof.Rows
structure Flies (P:Nm)(w:NF)(outer:gV Env)(H:Hp)(s:M3)(H':Hp)(B:N_)(ea:M0)(cls a0:J')(s':M3):Prop where
 os:s'.os=s.os
 bare:UF s'.gens
 fly:Wd B outer ea cls a0 s'.heap
 hok:HOk P w H' B
 keep:∀b o,s.heap.get? b=B' o->H b=M5->b∉jZ outer->B.get? b=B' o
 thr:∀b o,s.heap.get? b=B' o->b∉jZ outer->∃o',B.get? b=B' o'
 slot:∀b o,s.heap.get? b=B' o->H b=M5->b∈jZ outer->∃sl,s'.heap.get? b=B' {o with slots:=sl}
 free:∀b o,s.heap.get? b=B' o->H b=M5->H' b=M5
 tups:∀b xs,H b=B' (.tup xs)->H' b=B' (.tup xs)
 frzs:∀b o u,H b=B' (.frz o u)->H' b=B' (.frz o u)
 tbls:∀b ps,H b=B' (.tbl ps)->∃more,H' b=B' (.tbl<|ps++more)
def zy(P:Nm)(w:NF):vS:=λo H s E e b=>∃(h:Hp) (B:N_) (a:M0) (c A:J'),e=.ref a/\Flies P w o H s h B a c A b/\E c M5 h
theorem Flies.slotted(f:Flies P w O H s i B j C A d)(u:d.heap.UpToSlots h')(e:s.heap.get? b=B' o)(n:H b=M5)(h:b∈jZ O):∃l,h'.get? b=B' {o with slots:=l}:=by
 obtain⟨l,E⟩:=f.slot b o e n h;obtain⟨_,k,c,N⟩:=f.fly.2.2.1.mem (b:=b) h;rw[E]at c;cases c;obtain⟨a,g⟩:=u b _ E N;exact⟨a,g⟩
theorem Flies.un(f:Flies P w O H s c B E C A d)(st:B.StaysIn h')(u:d.heap.UpToSlots h')(F:∀b∈jZ O,H b=M5):Un (jZ O) [] H c s.heap h' where
 keep:=λb o e n h _=>st b o (f.keep b o e n h)
 slot:=λb o e n h _=>f.slotted u e n h
 free:=λb o e n _=>f.free b o e n
 there:=λb o e _=>by
  by_cases h:b∈jZ O
  ·obtain⟨l,q⟩:=f.slotted u e (F b h) h;exact⟨_,q⟩
  obtain⟨a,q⟩:=f.thr b o e h;exact⟨a,st b a q⟩
 tups:=f.tups
 frzs:=f.frzs
 tbls:=f.tbls
theorem ObjOk.some(x:ObjOk P w H h a o):∃u,h.get? a=B' u:=by
 cases o with
 |lst X=>obtain⟨_,_,_,_,e⟩:=x;exact⟨_,e⟩
 |tup X=>obtain⟨_,_,_,O,e,_⟩:=x;exact⟨_,e⟩
 |dK k=>obtain⟨_,_,_,_,o,_,_,e,_⟩:=x;exact⟨_,e⟩
 |dT k=>obtain⟨_,_,_,_,o,_,_,e,_⟩:=x;exact⟨_,e⟩
 |set S n=>obtain⟨o,_,_,_,e,_⟩:=x;exact⟨_,e⟩
 |ins C d F=>obtain⟨_,_,_,e,_⟩:=x;exact⟨_,e⟩
 |own y=>obtain⟨_,e⟩:=x;exact⟨_,e⟩
 |xd F=>obtain⟨_,⟨_,_,_,e,_⟩,_⟩:=x;exact⟨_,e⟩
 |rng lo i=>obtain⟨_,_,_,e⟩:=x;exact⟨_,e⟩
 |frz O u=>obtain⟨e,_⟩:=x;exact⟨_,e⟩
 |tbl p=>exact⟨_,x⟩
 |met f y=>exact⟨_,x⟩
 |ext b=>obtain⟨_,e,_⟩:=x;exact e
theorem HOk.hid(x:HOk P w H h)(n:∀b∈l,H b=M5):HOk P w H (WB h l):=λa o e=>
 (x a o e).stay (λb u c q=>R8 _ q λm=>by
  obtain rfl|c:=c
  ·rw[n b m]at e;cases e
  rw[n b m]at c;cases c) (λ_ q=>q) λ_ _ q=>q
theorem Kt{P:Nm}{w:NF}{K:K'}{M:Str->MZ J'}{B:N_}{N:gV Str}{Q:Str}{a:T5}{f:M0}{c:J'}{A:Ou}{O:gV Env}{s:M3}{H:Hp}{E:XK}(I:Inv (jn (zy P w) P w K M B N Q a f c A O s H E) M8 σ k g)(x:Heap.MadeExcOf g.heap y l C vs)(L:E C M5 k):
  (jn (zy P w) P w K M B N Q a f c A O s H E).xe (.ref l) {g with heap:=y}:=by
 have D:∀b o,s.heap.get? b=B' o->b∉jZ O->b∉jZ (O6 Q a s.heap.objs.size f c::O):=λb o e h T=>by
  obtain⟨v,d,i⟩:=P5.mp T;obtain rfl|d:=Nz.mp d
  ·have:s.heap.objs.size=b:=Nw i;exact absurd (Nx e) (by rw[this];exact Qp b)
  exact h<|P5.mpr ⟨v,d,i⟩
 have m:∀b,b∈jZ O->b∈jZ (O6 Q a s.heap.objs.size f c::O):=λb h=>by
  obtain⟨v,d,i⟩:=P5.mp h;exact P5.mpr ⟨v,Nk _ d,i⟩
 have Y:g.heap.FunFrames B (O6 Q a s.heap.objs.size f c::O):=I.stack;have X:∀b∈jZ (O6 Q a s.heap.objs.size f c::O),k b=none:=I.stkFree;have U:∀v∈(O6 Q a s.heap.objs.size f c::O),∀b,v.frame=B' b->b∈jZ (O6 Q a s.heap.objs.size f c::O):=λv d b h=>P5.mpr ⟨v,d,h⟩;have p:=PySem.W.funFrames_hide Y U;show wpAny (ND P w) _ (leaving (O6 Q a s.heap.objs.size f c)<|.ref l) _ _ {g with heap:=y}
 refine wpAny_leaves_madeW (base:=WB g.heap<|jZ<|O6 Q a s.heap.objs.size f c::O) (h:=g.heap) (outer:=O) (L:=s.heap.objs.size) I.ok.frames rfl (λb o q=>X5 _ q) p x λh' t F W bt Z=>⟨k,_,l,C,_,rfl,⟨?_,I.bare,F,I.hok.hid X,λb o e n h=>?_,λb o e h=>?_,λb o e n h=>?_,λb o e n=>?_,λb xs e=>?_,λb o u e=>?_,λb ps e=>?_⟩,L⟩
 ·exact I.os
 ·exact R8 _ (I.base.keep b o e n h<|by intro z;cases z)<|D b o e h
 ·obtain⟨G,j⟩:=I.base.there b o e (by intro z;cases z);exact⟨G,R8 _ j<|D b o e h⟩
 ·obtain⟨sl,j⟩:=I.base.slot b o e n h (by intro z;cases z);obtain⟨_,G,J,nf⟩:=Y.mem (b:=b)<|m b h;rw[j]at J;cases J;obtain⟨r,e3⟩:=Z b _ (x.keeps b _ j) nf;exact⟨r,e3⟩
 ·exact I.base.free b o e n (by intro z;cases z)
 ·exact I.base.tups b xs e
 ·exact I.base.frzs b o u e
 exact I.base.tbls b ps e
theorem Fun.okX{P:Nm}{w:NF}{K:K'}{m:Str->MZ J'}{b:N_}{x l:Str}{st:OZ}{f:M0}{e:Ny}{N p:gV Str}{k:Nat}{a:Sp}(F:Fun K x l st f e)(S:al N p (ah st))(len:∀v H Q E,a v H Q E->v.length=p.length)
  (I:∀u A o s H v Q E,Room k (A.deeper<|O6 l (ah st) s.heap.objs.size f u)->a v H Q E->
   ∃t,PSs (jn (zy P w) P w K m b N l (ah st) f u A o s H E) (fi st) t/\t {nx:=λ_ g=>Q .non g,rt:=Q} (start N v) H):aP P w K m b (zy P w) (k+1) f e p a:=by
 obtain⟨i,j,kV,D,n,y,u,C,O,rfl,L,d⟩:=F.ex;refine F9 L d S len λA o s H v Q E r c=>?_;obtain⟨t,h,q⟩:=I u A o s H v Q E r c;exact⟨t,h,q⟩
def Iz(h:N_)(C:M0)(b:gV J')(X:QJ):Prop:=
 ∃(B:gV J') (N:M0) (n q:Str) (s:gV J') (H:Nf) (sn:gV Str) (sub:gV J') (a:Nf) (c:MZ Nf) (d:MZ M0) (k e f g i:MZ J') (m:Str->MZ J'),
  h.get? C=B' (excClassObj n q C N s B H sn sub a c d k e f g i X)/\h.Ns N m/\m "__init__"=M5/\OwnTail h b B
theorem wk{K:K'}{h:N_}{C:M0}{b:gV J'}{x:QJ}(X:K.In h)(q:Q0 K C b x=MX):Iz h C b x:=by
 unfold Q0 at q
 split at q
 case h_2=>cases q
 case h_1 D j s H=>
  split at q
  case h_2=>cases q
  case h_1 a B k e f g n i l o=>
   rw[N5,N5,N5,N5,N5]at q;obtain⟨⟨⟨⟨⟨p,r⟩,t⟩,u⟩,Q⟩,v⟩:=q;have E:a=C:=QZ.mp p;have w:n=x:=QZ.mp r;have y:=QZ.mp v;subst E w;obtain⟨N,z,m,A,F,G,sn,sub,I,c,d⟩:=j;have em:m=.ref a::B:=l;have J:d=false:=by simpa using t
   have L:s=#[k,e,f,g,B'<|.builtin n,i]:=Zq.mp o;subst em J L;exact⟨B,A,N,F,z,G,sn,sub,I,c,D,k,e,f,g,i,_,X _ _ H,.of_isNs<|PySem.W.isNs_of_in X Q,PySem.W.nsMap_none_of_in X Q y,PySem.W.tail_of_in X u⟩
def IA(C:M0)(E:XK)(t:TA):TS:=λ_ a H=>t a H λv h=>v.length<=sizeLine/\E (.ref C) M5 h
theorem AJ{P:Nm}{w:NF}{K:K'}{m:Str->MZ J'}{b:N_}{N:gV Str}{Q:Str}{a:T5}{f:M0}{c:J'}{A:Ou}{o:gV Env}{s:M3}{H:Hp}{E:XK}{e:OJ}{d:gV OJ}{t:TA}{F U p:Pos}(q:Q0 K C k X=MX)(FB:ExcBaseFacts B X G k)(J:m x=B' (.ref C))
  (L:Gl (jn (zy P w) P w K m b N Q a f c A o s H E) x) (M:PA (jn (zy P w) P w K m b N Q a f c A o s H E) (e::d) t) (O:(x == ("__debug__":Str))=false:=by decide)
  (v:NS (e::d) (O6 Q a s.heap.objs.size f c)=(MW,Pq e<|O6 Q a s.heap.objs.size f c)::NS d (O6 Q a s.heap.objs.size f c):=by rfl)
  (Z:(Qw U<|NS (e::d)<|O6 Q a s.heap.objs.size f c).any (·.1)=false:=by rfl):
  PS (jn (zy P w) P w K m b N Q a f c A o s H E) (.Raise (B'<|.Call (.Name x F) (e::d) [] U) M5 p) (IA C E t):=by
 intro T l W Y D I h;obtain⟨bm,N',nm,q',bs,g,sn,sub,ab,n,dd,k0,k1,k2,k3,k5,mN,h1,h2,h3,y⟩:=wk I.mod.kin q;refine wpAny_Raise_call_subT (C:=C) (nm:=nm) (q:=q') (N:=N') (bs:=bs) (bm:=bm) (hdct:=g) (sn:=sn) (sub:=sub) (ab:=ab) (col:=n) (dd:=dd) (k0:=k0) (k1:=k1) (k2:=k2) (k3:=k3) (k5:=k5) (mN:=mN) FB (y.hasType FB.hasBase) (I.ok.hd rfl) Z h3<|jk I L J ⟨rfl,?_⟩ O;show wpAny _ _ (evalArgs (.ref C) MX (Qw U<|NS (e::d)<|O6 Q a s.heap.objs.size f c) []) _ _ l
 rw[v];have u:=M U T l W Y _ I h;have i:wpAny (ND P w) _ (lC<|Qw U<|NS (e::d)<|O6 Q a s.heap.objs.size f c) _ _ l:=u;rw[v]at i;refine T9<|OS i (λus s2 hz=>?_) λ_ _ z=>z;obtain⟨vs,H2,j,r,z,hE⟩:=hz;refine⟨rfl,?_,j.bk _ _ h1,h2.keeps j.bk,y.keeps j.bk,λh' ea hx=>Kt j hx hE⟩;show us.length<=sizeLine
 rw[<-r.length];exact z
noncomputable def uF(e C:M0):HO:=.ext λh=>∃(o:Obj) (v:Oh J'),h.get? e=B' o/\o.cls=.ref C/\o.data=.fields v
abbrev XQ:=J'->St->Hp->Prop
def XP(X:Cx)(M:gV (M0×Obj))(b:XQ)(e:J')(d:M3):Prop:=
 ∃(a:St) (H:Hp) (s:M3) (h:Hp) (B:N_) (E:M0) (c A:J'),e=.ref E/\Inv X M a H s/\Flies X.prog X.w X.stack H s h B E c A d/\b c a h
abbrev Lv:=XQ->TE
abbrev Lw:=XQ->TS
def MD(X:Cx)(e:OJ)(t:Lv):Prop:=
 ∀(M:gV (M0×Obj)) (s:M3) (a:St) (H:Hp) (Q:VK) (E:XQ),Inv X M a H s->t E a H Q->wpAny (ND X.prog X.w) X.A (Pq e X.env) (EP X M a Q) (XP X M E) s
def ME(X:Cx)(st:gV OZ)(t:Lw):Prop:=
 ∀(M:gV (M0×Obj)) (s:M3) (a:St) (H:Hp) (D:gx) (E:XQ),Inv X M a H s->t E D a H->wpAny (ND X.prog X.w) X.A (execs st X.env) (SP X M D) (XP X M E) s
def Ku(i:Nat)(t:Lv):Lw:=λE D a H=>t E a H λx h=>D.nx (a.set i<|B' x) h
theorem EJ{X:Cx}{p:Pos}{e:OJ}(N:X.N.Nodup)(a:X.N[i]?=B' y)(b:F3 X.env.scope y)(c:MD X e t)(d:UK e (B'<|.Name y U) p.line X.env=pure false:=by rfl)(f:X.fn y=MX\/X.env.scope.names.lookup y=B' .local:=by first|exact .inl rfl|exact .inr rfl|assumption):
  ME X [.Assign [.Name y U] e p] (Ku i t):=by
 intro M s g H D E I h;refine VN<|Yy (OS (c M s g H _ E I h) (λv m ⟨z,j,k,r,q⟩=>?_) λ_ _ z=>z) d;exact hZ k N a b r (λn l=>QR ⟨_,j,l,q⟩) f
noncomputable abbrev Cx.inExc(X:Cx)(e:M0)(E:J'->M3->Prop):Cx:={X with A:=X.A.mark<|B'<|.ref e,calm:=MW,xe:=E}
theorem Inv.inExc(I:Inv X M a H s)(e:M0)(E:J'->M3->Prop):Inv (X.inExc e E) M a H s:=
 ⟨⟨I.ok.mod,I.ok.kind,I.ok.glob,I.ok.blt,I.ok.above,I.ok.inj,I.ok.has,I.ok.cab,(λz=>(Ni z).elim),I.ok.frames,I.ok.stk,I.ok.exf,I.ok.bs,I.ok.bsz,I.ok.noex,I.ok.exfs,I.ok.funs,I.ok.frf⟩,I.os,I.bare,I.base,I.loc,I.cell,I.free,I.freeC,I.pin,I.hok,I.len⟩
theorem Inv.outExc(h:X.A.handled=M5)(I:Inv (X.inExc e E) M a H s):Inv X M a H s:=
 ⟨⟨I.ok.mod,I.ok.kind,I.ok.glob,I.ok.blt,I.ok.above,I.ok.inj,I.ok.has,I.ok.cab,λ_=>h,I.ok.frames,I.ok.stk,I.ok.exf,I.ok.bs,I.ok.bsz,I.ok.noex,I.ok.exfs,I.ok.funs,I.ok.frf⟩,I.os,I.bare,I.base,I.loc,I.cell,I.free,I.freeC,I.pin,I.hok,I.len⟩
theorem lU{X:Cx}{D:gV (M0×Obj)}{r:St}{H:Hp}{s:M3}{E:J'->M3->Prop}{M:YK}{A:Ou}{P:Pos}{Q:Vx->M3->Prop}(I:Inv X D r H s)(O:X.N.Nodup)(F:X.N[i]?=B' n)(T:X.env.scope.names.lookup n=B' .local)
  (h:∀G,Inv X D (r.set i M5) H G->Q () G):wpAny M A (do bindName X.env n .none;unbindBehindTheSuite X.env n P) Q E s:=by
 obtain⟨m,J,U⟩:=id I.loc;have g:i<r.length:=by rw[I.len];exact(M'.mp F).1
 have t:(X.env.scope.kind == .class || (X.env.scope.kind == .module&&X.env.locals != X.env.globals))=false:=by rw[I.ok.kind];rfl
 obtain⟨oL,_,_,Y,_⟩:=id J;refine wpAny_nameGoes_keeps T J t λh' v u a=>?_;have N:∀b o,X.s₀.heap.get? b=B' o->b≠X.env.locals:=λb o e=>NK<|Oy (Nx e) I.ok.above;refine h _ ⟨I.ok,I.os,I.bare,⟨λb o e n w x=>(a.2 b<|N b o e).trans<|I.base.keep b o e n w x,λb o e n w x=>?_,I.base.free,λb o e x=>?_,I.base.tups,I.base.frzs,I.base.tbls⟩,⟨_,u,λj y Z f k e3=>?_⟩,λy c e=>?_,I.free,I.freeC,λp hp=>?_,λb ob e=>?_,by simpa using I.len⟩
 ·obtain⟨sl,f⟩:=I.base.slot b o e n w x;exact⟨sl,(a.2 b<|N b o e).trans f⟩
 ·obtain⟨o',f⟩:=I.base.there b o e x;exact⟨o',(a.2 b<|N b o e).trans f⟩
 ·by_cases B:j=i
  ·subst B;rw[S9 g]at k;cases k
  rw[Ub<|OV B]at k;obtain⟨u',r',q⟩:=U j y Z f k e3;exists u',r';obtain⟨C,e⟩|⟨C,c,e,z⟩:=q
  ·refine .inl ⟨C,?_⟩;have:y≠n:=λe=>B<|mH O f<|e▸F;simp[this,e]
  exact .inr ⟨C,c,e,z.sameBut a<|I.cne y c e⟩
 ·obtain⟨W,z⟩:=I.cell y c e;exact⟨W,z.sameBut a<|I.cne y c e⟩
 ·obtain⟨e,n,L,nf,d⟩:=I.pin p hp;exact⟨(a.2 p.1 L).trans e,n,L,nf,d⟩
 refine(I.hok b ob e).stay (λc W l q=>(a.2 c ?_).trans q) (λ_ q=>q) λ_ _ q=>q;rintro rfl;obtain rfl|l:=l
 ·rw[I.free]at e;cases e
 rw[I.free]at l;cases l
theorem Flies.away(f:Flies P w O H s g B a (.ref C) A i)(e:s.heap.get? b=B' o):b≠a:=by
 rintro rfl;by_cases h:b∈jZ O
 ·obtain⟨_,j,c,n⟩:=f.fly.2.2.1.mem (b:=b) h;obtain⟨k,v,E,_,d,_⟩:=f.fly.first;rw[c]at E;cases E;exact n v d
 obtain⟨l,q⟩:=f.thr b o e h;rw[f.fly.2.1]at q;cases q
theorem Flies.fresh(f:Flies P w O H s h B E (.ref C) a b):h E=none:=by
 cases q:h E with
 |none=>rfl
 |some u=>
  have x:=f.hok E u q;have:∃o,B.get? E=B' o:=ObjOk.some x;obtain⟨o,e⟩:=this;rw[f.fly.2.1]at e;cases e
theorem Flies.unX(f:Flies P w O H s h B E (.ref C) A a)(st:B.StaysIn h')(U:a.heap.UpToSlots h')(F:∀b∈jZ O,H b=M5):Un (jZ O) [] H (upd h E<|uF E C) s.heap h':=by
 have u:=f.un st U F;have r:=f.fresh;refine⟨u.keep,u.slot,λb o e n x=>?_,u.there,λb X e=>?_,λb o v e=>?_,λb p e=>?_⟩
 ·rw[aj<|f.away e];exact u.free b o e n x
 ·have z:=u.tups b X e;rw[aj<|ai z r];exact z
 ·have z:=u.frzs b o v e;rw[aj<|ai z r];exact z
 obtain⟨m,z⟩:=u.tbls b p e;exact⟨m,by rw[aj<|ai z r];exact z⟩
theorem Flies.hokX(f:Flies P w O H s g B e (.ref C) A n)(F:Wd B O e (.ref C) A h'):HOk P w (upd g e<|uF e C) h':=λb u q=>by
 have r:=f.fresh;by_cases h:b=e
 ·subst h;rw[aa]at q;cases q;obtain⟨d,a,E,i,j,_⟩:=F.first;exact⟨⟨d,a,E,i,j⟩,⟨d,E⟩,λp t ⟨o,a,Z,l,m⟩ k=>⟨o,a,k o Z,l,m⟩⟩
 rw[aj h]at q;exact(f.hok b u q).stay (λc v _ z=>F.1 c v z) (λc z=>by rw[aj<|ai z r];exact z) λc x z=>by rw[aj<|ai z r];exact z
def Mh(C:M0)(i:Nat)(t:Lw)(T:TS):TS:=λD f H=>
 t (λc b d=>c=.ref C/\∀e,d e=M5->T {nx:=λa h=>D.nx (a.set i M5) h,rt:=D.rt,bk:=λa h=>D.bk (a.set i M5) h,ct:=λa h=>D.ct (a.set i M5) h} (b.set i<|B'<|.ref e) (upd d e<|uF e C)) D f H
structure gY (K:K')(C:M0):Prop where
 cls:∃cd,VB K C=B' cd
 ga:Of K (.ref C) "__getattribute__"=B' (B'<|.builtin "BaseException.__getattribute__")
 gt:Of K (.ref C) "__getattr__"=B' M5
 at_:Of K (.ref C) "__class__"=B' (B'<|.builtin "object.__class__")
 ob:Py K C (.type "object")=B' MX
 be:Py K C (.type "BaseException")=B' MX
section
variable {prog:Nm}{w:NF}{A:Ou}{E:J'->M3->Prop}{h:N_}{g:Oh YM}{d:Drawn}{t:Nat}{os:RB}{a C:M0}{o:Obj}{K:K'}
theorem AK(H:h.get? a=B' o)(c:o.cls=.ref C):XR M h (lz<|.ref a) (.ref C):=by
 rw[<-c];exact(Zf H).andThen .now
theorem uG{R:X_->M3->Prop}(X:K.In h)(T:gY K C)(x:h.get? a=B' o)(c:o.cls=.ref C)(q:R (.ok<|.ret<|.ref C) ⟨h,g,d,t,os⟩):
  codeAny (ND prog w) A (.call (.builtin "getset_descriptor.__get__") ⟨[.builtin "object.__class__",.ref a,.ref C],[]⟩) R ⟨h,g,d,t,os⟩:=by
 have H:(⟨h,g,d,t,os⟩:M3).TypeIs (.builtin "object.__class__") "getset_descriptor":=Tj;have L:=R7 (M:=ND prog w) X T.ob;refine T3 F.slot_gs_get.plain F.entry_gs_get (F.slot_gs_get.check _ _ _ _ _ _ _ _ H (F.args_gs_get _ _ _) ?_)
 repeat (any_goals (first|assumption|(with_reducible refine Qv x ?_;rw[c])|(rw[F.owner_object_class];with_reducible refine L.at ?_)|wp_step))
 refine⟨Yc _ (by decide+kernel),PY F.entry_object_class ?_⟩
 repeat (any_goals (first|assumption|(with_reducible refine Qv x ?_;rw[c])|wp_step))
theorem qO{k:Tok}(X:K.In h)(T:gY K C)(H:h.get? a=B' o)(c:o.cls=.ref C)(q:Q (.done<|.ret<|.ref C) ⟨h,g,d,t,os⟩):
  wpAny (ND prog w) A (Builtin.«object.__getattribute__» ⟨[.ref a,.str "__class__" k],[]⟩) Q E ⟨h,g,d,t,os⟩:=by
 have b:(⟨h,g,d,t,os⟩:M3).TypeIs (.builtin "object.__class__") "getset_descriptor":=Tj;have f:=Tj;have e:=F.slot_gs_get.lookup;have i:=F.slot_gs_set.lookup;have L:=RO (M:=ND prog w) X T.at_
 repeat (any_goals (first|assumption|(with_reducible refine Qv H ?_;rw[c])|with_reducible refine L.at ?_|wp_step))
 refine uG X T H c ?_
 repeat (any_goals (first|assumption|wp_step))
theorem yC{M:YK}{W:J'}(X:K.In h)(T:gY K C)(H:h.get? a=B' o)(c:o.cls=.ref C)(q:Q () ⟨h,g,d,t,os⟩):
  wpAny M A (VR "BaseException.__getattribute__" ⟨[.ref a,W],[]⟩) Q E ⟨h,g,d,t,os⟩:=by
 have f:builtinKind "BaseException.__getattribute__"=B' .slot:=by decide+kernel
 have b:splitId "BaseException.__getattribute__"=B' ("BaseException","__getattribute__"):=by decide+kernel
 have e:=F.args_bexc_ga (.ref a) W;have L:=R7 (M:=M) X T.be;simp only[VR,f,b];refine G' ?_;unfold isInstance
 repeat (first|(with_reducible refine Qv H ?_;rw[c])|with_reducible refine L.at ?_|wp_step)
 exact q
theorem yE{k:Tok}(X:K.In h)(T:gY K C)(H:h.get? a=B' o)(c:o.cls=.ref C)(q:Q (.ref C) ⟨h,g,d,t,os⟩):
  wpAny (ND prog w) A (getAttrBy (.ref a) (.str "__class__" k) MW) Q E ⟨h,g,d,t,os⟩:=by
 have f:=PySem.F.attr_ValueError.ga.bind<|.ref a;have Y:(TQ "BaseException.__getattribute__" == TQ "object.__getattribute__")=false:=by decide+kernel
 have b:(onTheHeap (N9 C)&&TQ "BaseException.__getattribute__" == TQ "object.__getattribute__")=false:=by rw[Y];rfl
 have L:=RO (M:=ND prog w) X T.ga;have L2:=RO (M:=ND prog w) X T.gt
 repeat (any_goals (first|assumption|(with_reducible refine Qv H ?_;rw[c])|with_reducible refine L.at ?_|with_reducible refine L2.at ?_|wp_step))
 refine T3 PySem.F.attr_ValueError.ga.plain F.entry_bexc_ga (yC X T H c<|qO X T H c ?_)
 repeat (any_goals (first|assumption|wp_step))
theorem sC(X:K.In h)(T:gY K C)(H:h.get? a=B' o)(c:o.cls=.ref C)(q:Q (B'<|.ref C) ⟨h,g,d,t+1,os⟩):
  wpAny (ND prog w) A (l4 (.ref a) "__class__") Q E ⟨h,g,d,t,os⟩:=by
 unfold l4 getAttrBy?
 repeat (any_goals (first|assumption|with_reducible apply yE X T H c|wp_step))
theorem AL(T:gY K C):PySem.W.KitX K (.ref a) (.ref C) (λh=>∃o,h.get? a=B' o/\o.cls=.ref C) where
 ty:=λM h _ ⟨o,H,b⟩=>AK H b
 it:=λ_ _ X _=>by
  obtain⟨_,q⟩:=T.cls;unfold VB at q
  split at q
  ·rename_i c;intro i Q j l k z;unfold isType loadHead;exact G'<|Ut (k _ _<|X _ _ c)<|M9 z
  cases q
 ne:=λh f D O n m X p=>by
  refine Bool.eq_false_iff.mpr λz=>?_;have e:C=f:=Yf<|QZ.mp z;subst e;obtain⟨_,q⟩:=T.cls;unfold VB at q
  split at q
  ·rename_i c;have y:=(X _ _ c).symm.trans p;cases y
  cases q
 ca:=λ{_ _ _ _ _ s} X ⟨o,H,b⟩ k=>by
  obtain⟨r,g,d,t,os⟩:=s;exact sC X T H b k
end
theorem AM(K:K')(C:M0):N6 K (.ref C) (.ref C)=B' true:=by
 unfold N6;rw[Nt<|by simp]
end L2
namespace OD
open PySem L2
noncomputable def kj(B:gV Nf)(v:Int)(p:Nf):V:=if((B.length:Nat):Int)<v then .non else match B[(v-1).toNat]? with
 |some b=>.bl<|b == p
 |none=>.non
theorem nu(h:((b.length:Nat):Int)<v):kj b v p=.non:=by
 unfold kj;rw[Nt h]
theorem pH(c:1<=v)(d:v<=((B.length:Nat):Int)):∃b,j0 (B.map V.bl) (v-1)=B' (.bl b)/\kj B v p=.bl (b == p):=by
 obtain⟨w,h,H⟩:=uB (x:=B.map V.bl) (i:=v-1) (by lia) (by rw[MY];lia);obtain⟨b,rfl,a⟩:=EE h;exists b,H;unfold kj;rw[Np (by lia),a]
theorem AN(x:gV V)(k:Nat):eQ x M5 (B' (k:Int))=x.take k:=by
 unfold eQ;rw[HT.sIx_nat];show(x.drop 0).take (min k x.length-0)=_
 rw[List.drop_zero,Nat.sub_zero];by_cases h:k<=x.length
 ·rw[ZX h]
 rw[Zl (by lia),Nn<|Na _,Nn<|by lia]
theorem sD(x:gV V)(k:Nat):eQ x (B' (k:Int)) M5=x.drop k:=by
 unfold eQ;rw[HT.sIx_nat];show(x.drop<|min k x.length).take (x.length-min k x.length)=_
 by_cases h:k<=x.length
 ·rw[ZX h,Nn<|by rw[Pc];lia]
 rw[Zl (by lia),Ro<|Na _,Ro (by lia),List.take_nil]
theorem nv{b a:Type}{F:b->a->Prop}:∀{X:gV b} {U:gV a} {i:Nat} {u:a},Paired F X U->U[i]?=B' u->∃x,X[i]?=B' x/\F x u
 |_,_,0,_,.cons h _,e=>⟨_,rfl,by cases e;exact h⟩
 |_,_,i+1,_,.cons _ r,e=>nv (i:=i) r e
theorem Kv(b:Nf):decide (V.str (ay b)=V.str (M_ "wisher"))=b:=by
 have z:=fT b MX;have Z:ay MX=M_ "wisher":=rfl;rw[Z]at z;rw[z];cases b<;>rfl
end OD
namespace L2
open PySem PySem.Spec PyProof.Rows
noncomputable def AO(x:Str)(n:Int):Str:=⟨(Pa n.toNat x.cps).foldl (·++·) #[]⟩
theorem EK:OpR X (QU .Mult) (λx y H Q=>∃a n,x=.str a/\y=.int n/\1<n/\n<1000/\0<a.length/\¬((a.length:Int)>(2^63-1)/n)/\adl (a.length*n.toNat)=MW/\(AO a n).length<=sizeLine/\Q (.str<|AO a n) H):=by
 intro M s d H x y v u Q I r b h;obtain⟨a,n,rfl,rfl,f,g,i,c,l,z,q⟩:=h;obtain⟨t,rfl⟩:=r;obtain⟨T,rfl⟩:=b;refine P.mul_str ?_ (λ_ _=>?_) (λ_ _=>l) ?_
 ·rw[M6 (by lia),M6<|by lia];rfl
 ·exact c
 rw[Np (by lia),Np (by
  have e:(n == 1)=false:=by rw[OR];lia
  have E:(a.length == 0)=false:=by rw[OR];lia
  rw[e,E];decide)]
 exact⟨z,.str _,H,I.tok _,⟨_,rfl⟩,q⟩
end L2
namespace OD
open PySem L2
noncomputable def gH(m:Int):Int->gV Nh->Nf
 |_,[]=>MX
 |b,.int i::r=>if b<absI i/\absI i<=m then gH m (absI i) r else MW
 |_,_::_=>MW
noncomputable def ny(m:Int):Nh->Nf
 |.tuple d=>gH m 0 d
 |_=>MW
theorem yF{a:Type}{l:gV a}{i:Nat}(d:a)(h:i<l.length):l.drop i=l.getD i d::l.drop (i+1):=by
 rw[Qd h]
 congr 1
 simp[List.getD,h]
theorem iJ(h:∀z,d≠.int z):(kh d&&!lS d)=false:=by
 cases d with
 |int z=>exact absurd rfl<|h z
 |_=>rfl
theorem nz(h:∀z,d≠.int z):gH m b (d::r)=false:=by
 cases d with
 |int z=>exact absurd rfl<|h z
 |_=>rfl
theorem im:gH m b (.int z::r)=if b<absI z/\absI z<=m then gH m (absI z) r else false:=rfl
theorem io(d:Nh):(∃z,d=.int z)\/∀z,d≠.int z:=by
 cases d with
 |int z=>exact .inl ⟨z,rfl⟩
 |_=>exact .inr (λz h=>by cases h)
theorem aA(h:RD H (.int z) v):v=.int z:=by
 unfold RD at h;exact h
theorem bF(h:RD H (.str z) v):v=.str z:=by
 unfold RD at h;exact h
theorem lu(n:gV Int):OB (.list<|n.map .int)=true:=PySem.W.ke_shaped_ints n
def Nice(n:Nat)(d:Nh):Prop:=d.canLay0=MX/\d.depth<=n
theorem Nice.mono(h:Nice m d)(k:m<=n):Nice n d:=⟨h.1,Oz h.2 k⟩
theorem jC:∀{D:gV Nh} {n:Nat},(∀d∈D,Nice n d)->OA D=MX/\Qy D<=n
 |[],_,_=>⟨rfl,NA _⟩
 |d::D,n,h=>by
  have H:=h d Nl;have a:=jC (D:=D) λx b=>h x<|Nk _ b;refine⟨?_,?_⟩
  ·show(d.canLay0&&OA D)=MX
   rw[H.1,a.1];rfl
  show max d.depth (Qy D)<=n
  exact Nat.max_le.mpr ⟨H.2,a.2⟩
theorem kn(h:∀d∈D,Nice n d):Nice (n+1) (.list D):=⟨(jC h).1,Rb (jC h).2⟩
theorem fU(h:∀d∈D,Nice n d):Nice (n+1) (.tuple D):=⟨(jC h).1,Rb (jC h).2⟩
theorem gI(n:Nat)(i:Int):Nice n (.int i):=⟨rfl,NA _⟩
theorem eI(n:Nat)(h:PyData.strOk x=MX):Nice n (.str x):=⟨h,NA _⟩
theorem pI(n:Nat)(N:gV Int):∀d∈N.map Tv,Nice n d:=λd h=>by
 obtain⟨i,_,rfl⟩:=NV.mp h;exact gI n i
theorem cu(h:Nice n d)(t:∀x∈D,Nice n x):∀x∈d::D,Nice n x:=λx H=>by
 obtain rfl|H:=Nz.mp H
 ·exact h
 exact t x H
theorem iq:∀x∈([]:gV Nh),Nice n x:=λ_ h=>nomatch h
theorem Nice.shaped(h:Nice 8 d):OB d=true:=pD h.1 (Oz h.2<|by decide)
theorem AQ(C:gV (gV Int)):∀d∈C.map iS,Nice 2 d:=λd h=>by
 obtain⟨c,_,rfl⟩:=NV.mp h;exact fU<|pI 1 c
end OD
namespace TB
open PySem PySem.SetTable
def Up(x:Oh Nat):Prop:=∀i k,i<k->k<x.size->x.getD i 0<x.getD k 0
theorem wl{x:Oh Nat}{i:Nat}(h:i<x.size)(a b:Nat):x.getD i a=x.getD i b:=by
 simp[TM,h]
theorem qP(u:Up x):∀f lo H,H-lo<=f->lo<=H->H<=x.size->(∀i,i<lo->x.getD i 0<j)->(∀i,H<=i->i<x.size->j<=x.getD i 0)->
  W5 x j f lo H<=x.size/\(∀i,i<W5 x j f lo H->x.getD i 0<j)/\(∀i,W5 x j f lo H<=i->i<x.size->j<=x.getD i 0)
 |0,lo,H,l,n,s,a,b=>by
  have e:lo=H:=by lia
  subst e;exact⟨s,a,b⟩
 |f+1,lo,H,l,n,s,a,b=>by
  unfold W5;by_cases h:lo<H
  ·rw[Nt h];have m:(lo+H)/2<x.size:=by lia
   show(if x.getD ((lo+H)/2) j<j then W5 x j f ((lo+H)/2+1) H else W5 x j f lo ((lo+H)/2))<=x.size/\_
   by_cases c:x.getD ((lo+H)/2) j<j
   ·simp only[Nt c];refine qP u f _ _ (by lia) (by lia) s (λi d=>?_) b;rw[wl m j 0]at c;obtain g|g:=Pz i ((lo+H)/2)
    ·exact UH (u i _ g m) c
    have e:i=(lo+H)/2:=by lia
    rw[e];exact c
   simp only[Np c];refine qP u f _ _ (by lia) (by lia) (by lia) a λi d k=>?_;rw[wl m j 0]at c;obtain g|g:=Pz ((lo+H)/2) i
   ·exact Oz (by lia)<|OG<|u _ i g k
   have e:i=(lo+H)/2:=by lia
   rw[e];lia
  rw[Np h];have e:lo=H:=by lia
  subst e;exact⟨s,a,b⟩
theorem eW(u:Up x)(j:Nat):P' x j<=x.size/\(∀i,i<P' x j->x.getD i 0<j)/\(∀i,P' x j<=i->i<x.size->j<=x.getD i 0):=
 qP u x.size 0 x.size (by lia) (by lia) (by lia) (λi h=>by lia) (λi h H=>by lia)
theorem nA(u:Up x)(h:x[i]?=B' j):P' x j=i:=by
 obtain⟨a,b,B⟩:=eW u j;obtain⟨H,e⟩:=OL.mp h;have E:x.getD i 0=j:=by simp[TM,H,e]
 obtain g|g|g:=PM (P' x j) i
 ·have:=B (P' x j) (Na _) (by lia);have:=u _ _ g H;lia
 ·exact g
 have:=b i g;lia
theorem uH(u:Up x)(h:x[i]?=B' j):P' x (j+1)=i+1:=by
 obtain⟨a,b,B⟩:=eW u<|j+1;obtain⟨H,e⟩:=OL.mp h;have E:x.getD i 0=j:=by simp[TM,H,e]
 obtain g|g|g:=PM (P' x<|j+1) (i+1)
 ·have:=B i (by lia) H;lia
 ·exact g
 have:=b (i+1) g;have:=u i (i+1) (by lia) (by lia);lia
theorem uI(u:Up x):P' x 0=0:=by
 obtain⟨B,b,a⟩:=eW u 0;obtain g|g:=Nat.eq_zero_or_pos (P' x 0)
 ·exact g
 have:=b 0 g;lia
def Mk(m:Nat):Prop:=m=7\/m=31\/m=127\/m=511\/m=2047\/m=8191
structure yG (t:SetTable):Prop where
 mask:Mk t.mask
 dum:t.dummies=#[]
 up:Up t.place
 le:∀j∈t.place,j<=t.mask
 room:t.place.size<=t.mask
noncomputable def j8(t:SetTable)(j:Nat):Nf:=t.place.contains j
theorem eX:j8 t j=MX↔∃i:Nat,t.place[i]?=B' j:=by
 unfold j8;rw[QE,Array.mem_iff_getElem?]
theorem wm(j:Nat):has #[] j=false:=by
 unfold has;simp
theorem pJ(T:yG t)(h:t.place[i]?=B' j):t.slot j=.live i:=by
 unfold slot;simp only[nA T.up h,h];simp
theorem nC(T:yG t)(j:Nat):(∃i,t.place[i]?=B' j/\t.slot j=.live i)\/(j8 t j=MW/\t.slot j=.empty):=by
 by_cases h:j8 t j=MX
 ·obtain⟨i,H⟩:=eX.mp h;exact .inl ⟨i,H,pJ T H⟩
 refine .inr ⟨by simpa using h,?_⟩;unfold slot;have n:¬(t.place[P' t.place j]? == B' j)=true:=λz=>h<|eX.mpr ⟨_,by simpa using z⟩;simp only[n,T.dum,wm,QA,NQ]
theorem kq:∀(n:Nat) (l:gV Nat),(∀e,e<n->e∈l)->n<=l.length
 |0,_,_=>NA _
 |n+1,l,h=>by
  have H:=h n (by lia);have:=kq n (l.erase n) λe a=>(Xg<|by lia).mpr (h e<|by lia);rw[VF H]at this;have:0<l.length:=Rm H;lia
theorem pK(T:yG t):∃e,e<=t.mask/\j8 t e=false:=by
 by_cases h:∃e,e<=t.mask/\j8 t e=MW
 ·exact h
 exfalso;have:=kq (t.mask+1) t.place.toList λe H=>by
  cases c:j8 t e with
  |true=>
   unfold j8 at c;rw[QE]at c;exact QY.mpr c
  |false=>exact absurd ⟨e,by lia,c⟩ h
 have:=T.room;simp at*;lia
noncomputable def pL(m:Nat)(p:Sk):Sk:=
 if p.more>0 then{p with j:=p.j+1,more:=p.more-1}else
 {p with j:=(VU m p.i p.perturb).1,more:=Uk m (VU m p.i p.perturb).1-(VU m p.i p.perturb).1,i:=(VU m p.i p.perturb).1,perturb:=(VU m p.i p.perturb).2}
noncomputable def cq(m:Nat):Nat->Sk->Sk
 |0,p=>p
 |k+1,p=>cq m k<|pL m p
theorem cX(m:Nat):∀a b p,cq m (a+b) p=cq m b (cq m a p)
 |0,b,p=>by rw[Qn];rfl
 |a+1,b,p=>by
  rw[U2];exact cX m a b<|pL m p
noncomputable def start(m:Nat)(h:Int):Sk:={j:=XC h%(m+1),more:=Uk m (XC h%(m+1))-XC h%(m+1),i:=XC h%(m+1),perturb:=XC h,dummy:=M5}
theorem sE(t:SetTable)(h:Int):t.probeStart h=start t.mask h:=rfl
structure yH (m:Nat)(p:Sk):Prop where
 i:p.i<=m
 per:p.perturb<2^64
 j:p.j+p.more=Uk m p.i
 ij:p.i<=p.j
 dum:p.dummy=M5
theorem eZ(h:i<=m):Uk m i<=m/\i<=Uk m i/\Uk m i<=i+9:=by
 unfold Uk;split<;>lia
theorem EL(h:Int):XC h<2^64:=by
 unfold XC;have:=P6 h (show(0:Int)<2^64 by decide);have:=Qz h (show(2^64:Int)≠0 by decide);lia
theorem fw(m:Nat)(h:Int):yH m (start m h):=by
 have H:XC h%(m+1)<=m:=Vp<|Wo _<|ud _;have:=eZ H;exact⟨H,EL h,by show XC h%(m+1)+(Uk m (XC h%(m+1))-XC h%(m+1))=_;simp only[start];lia,Na _,rfl⟩
theorem qQ(m i p:Nat):(VU m i p).1<=m:=Vp<|Wo _<|ud _
theorem AR(h:yH m p):yH m (pL m p):=by
 obtain⟨b,H,d,e,a⟩:=h;unfold pL;by_cases c:p.more>0
 ·rw[Nt c];exact⟨b,H,by simp only;lia,by simp only;lia,a⟩
 rw[Np c];have i:=qQ m p.i p.perturb;have:=eZ i;refine⟨i,?_,by simp only;lia,Na _,a⟩;exact Rk (Nat.div_le_self _ _) H
theorem iK:∀(k:Nat) {p:Sk},yH m p->yH m (cq m k p)
 |0,_,h=>h
 |k+1,_,h=>iK k<|AR h
theorem Kw(h:yH m p):p.j<=m:=by
 have:=(eZ h.i).1;have:=h.j;lia
theorem lV:∀(n:Nat) {p:Sk},yH m p->p.more=n->∃k,k=n+1/\(cq m k p).i=(VU m p.i p.perturb).1/\(cq m k p).perturb=(VU m p.i p.perturb).2/\(cq m k p).j=(VU m p.i p.perturb).1/\∀l,l<=n->(cq m l p).j=p.j+l
 |0,p,h,H=>by
  exists 1,rfl;have e:pL m p={p with j:=(VU m p.i p.perturb).1,more:=Uk m (VU m p.i p.perturb).1-(VU m p.i p.perturb).1,i:=(VU m p.i p.perturb).1,perturb:=(VU m p.i p.perturb).2}:=by
   unfold pL;rw[Np<|by lia]
  show(pL m p).i=_/\(pL m p).perturb=_/\(pL m p).j=_/\_
  rw[e];refine⟨rfl,rfl,rfl,λl a=>?_⟩;have:l=0:=by lia
  subst this;rfl
 |n+1,p,h,H=>by
  have e:pL m p={p with j:=p.j+1,more:=p.more-1}:=by
   unfold pL;rw[Nt<|by lia]
  obtain⟨k,f,A,b,c,d⟩:=lV n (p:=pL m p) (AR h) (by rw[e];simp only;lia);refine⟨k+1,by lia,?_,?_,?_,λl a=>?_⟩
  ·show(cq m k<|pL m p).i=_
   rw[A,e]
  ·show(cq m k<|pL m p).perturb=_
   rw[b,e]
  ·show(cq m k<|pL m p).j=_
   rw[c,e]
  cases l with
  |zero=>rfl
  |succ l=>
   show(cq m l<|pL m p).j=_
   rw[d l (by lia),e];simp only;lia
noncomputable def fz(m:Nat):Nat->Nat×Nat->Nat×Nat
 |0,q=>q
 |k+1,q=>fz m k<|VU m q.1 q.2
theorem wn(h:yH m p):p.more<=9:=by
 have:=eZ h.i;have:=h.j;have:=h.ij;lia
theorem sF:∀(n:Nat) {p:Sk},yH m p->∃k,k<=10*(n+1)/\(cq m k p).j=(fz m (n+1) (p.i,p.perturb)).1/\(cq m k p).i=(fz m (n+1) (p.i,p.perturb)).1/\(cq m k p).perturb=(fz m (n+1) (p.i,p.perturb)).2
 |0,p,h=>by
  obtain⟨k,H,a,A,b,_⟩:=lV p.more h rfl;have:=wn h;exact⟨k,by lia,b,a,A⟩
 |n+1,p,h=>by
  obtain⟨k,H,a,A,b,_⟩:=lV p.more h rfl;have:=wn h;obtain⟨e,f,B,c,d⟩:=sF n (p:=cq m k p)<|iK k h;rw[a,A]at B c d;refine⟨k+e,by lia,?_,?_,?_⟩
  ·rw[cX];exact B
  ·rw[cX];exact c
  rw[cX];exact d
theorem pM(m:Nat):∀a b q,fz m (a+b) q=fz m b (fz m a q)
 |0,b,q=>by rw[Qn];rfl
 |a+1,b,q=>by
  rw[U2];exact pM m a b _
theorem pN(m:Nat):∀a q,(fz m a q).2=q.2/32^a
 |0,q=>by simp[fz]
 |a+1,q=>by
  show(fz m a<|VU m q.1 q.2).2=_
  rw[pN m a];show q.2/32/32^a=_
  rw[Wq,Qo,UG]
theorem sG(m:Nat):∀a q,q.1<=m->(fz m a q).1<=m
 |0,_,h=>h
 |a+1,q,h=>sG m a _<|qQ m _ _
noncomputable def zA(m:Nat):Nat->Nat->Nat
 |0,i=>i
 |k+1,i=>zA m k<|(i*5+1)%(m+1)
theorem nE(m:Nat):∀a i,(fz m a (i,0)).1=zA m a i
 |0,_=>rfl
 |a+1,i=>by
  show(fz m a<|VU m i 0).1=zA m a ((i*5+1)%(m+1))
  rw[<-nE m a];rfl
theorem jD(m b:Nat):∀a i,zA m (a+b) i=zA m b (zA m a i)
 |0,i=>by rw[Qn];rfl
 |a+1,i=>by rw[U2];exact jD m b a _
theorem Mk.pow(h:Mk m):∃k,m+1=2^k:=by
 obtain rfl|rfl|rfl|rfl|rfl|rfl:=h
 ·exact⟨3,rfl⟩
 ·exact⟨5,rfl⟩
 ·exact⟨7,rfl⟩
 ·exact⟨9,rfl⟩
 ·exact⟨11,rfl⟩
 exact⟨13,rfl⟩
noncomputable def lx:Nat->Nat
 |0=>0
 |n+1=>5*lx n+1
theorem AS(m n i:Nat):zA m (n+1) i=(zA m n i*5+1)%(m+1):=jD m 1 n i
theorem wo(m n:Nat):zA m n 0=lx n%(m+1):=by
 induction n with
 |zero=>rfl
 |succ n i=>rw[AS,i,ZD,Nat.mod_mul_mod,<-ZD,UG];rfl
theorem lW(a b:Nat):lx (a+b)=lx a+5^a*lx b:=by
 induction b with
 |zero=>simp[lx]
 |succ b i=>
  have h:5^a=4*lx a+1:=by
   clear i
   induction a with
   |zero=>rfl
   |succ a i=>rw[Qo,i];show _=4*(5*lx a+1)+1;lia
  show 5*lx (a+b)+1=lx a+5^a*(5*lx b+1)
  rw[i,wh,wh,Nat.mul_left_comm];lia
theorem wp(k:Nat):∃c,lx (2^k)=2^k*(2*c+1):=by
 induction k with
 |zero=>exact⟨0,rfl⟩
 |succ k i=>
  obtain⟨c,H⟩:=i;have h:∃d,5^2^k=2*d*2+1:=⟨lx (2^k),by
   have:=lW (2^k) 1;have e:lx (2^k+1)=5*lx (2^k)+1:=rfl;have E:lx 1=1:=rfl;rw[e,E]at this;lia⟩
  obtain⟨d,a⟩:=h;exists (2*c+1)*d+c;rw[Qo,show 2^k*2=2^k+2^k by lia,lW,a,H];generalize 2^k=x
  grind
theorem EM(k:Nat):∀e,e<2^k->∃n,n<2^k/\lx n%2^k=e:=by
 induction k with
 |zero=>intro e h;exact⟨0,by omega,by simp at h;subst h;rfl⟩
 |succ k i=>
  intro e h;obtain⟨n,o,E⟩:=i (e%2^k)<|Wo _<|ZW k;obtain⟨c,H⟩:=wp k;have f:∃d,5^n=2*d+1:=⟨2*lx n,by
   have:=lW n 1;have e:lx (n+1)=5*lx n+1:=rfl;have j:lx 1=1:=rfl;rw[e,j]at this;omega⟩
  obtain⟨d,l⟩:=f;rw[Qo]at h ⊢;have s:lx (n+2^k)=lx n+2^k+2^k*2*(2*c*d+c+d):=by
   rw[lW,l,H];generalize 2^k=x
   grind
  have m:=ZW k;generalize 2^k=x at*;by_cases g:lx n%(x*2)=e
  ·exact⟨n,by omega,g⟩
  refine⟨n+x,by omega,?_⟩;rw[s,Nat.add_mul_mod_self_left];have a:=wd (x:=lx n) (a:=x) (b:=2);have A:=wd (x:=e) (a:=x) (b:=2);rw[Tx h]at A;rw[E]at a;have b:=U1<|lx n/x;have B:=U1<|e/x;rw[ZD,Tx (show x<x*2 by omega)];have p:=Wo e m;obtain b|b:=b<;>obtain B|B:=B<;>rw[b]at a<;>rw[B]at A
  ·omega
  ·rw[a,Tx]<;>omega
  ·rw[a,show e%x+x*1+x=e%x+x*2 by omega,Nat.add_mod_right,Tx]<;>omega
  omega
theorem EN(l:Mk m)(o:i<=m)(H:e<=m):∃k,k<m+1/\zA m k i=e:=by
 obtain⟨p,d⟩:=l.pow;have f:∀e,e<=m->∃k,k<m+1/\zA m k 0=e:=λe H=>by
  obtain⟨n,r,h⟩:=EM p e (by lia);exact⟨n,by lia,by rw[wo,d,h]⟩
 have h:zA m (m+1) 0=0:=by
  obtain⟨c,q⟩:=wp p;rw[wo,d,q,Nat.mul_mod_right]
 obtain⟨a,s,E⟩:=f i o;obtain⟨b,t,j⟩:=f e H;obtain g|g:=Pz b a
 ·refine⟨m+1+b-a,by lia,?_⟩;rw[<-E,<-jD,show a+(m+1+b-a)=m+1+b by lia,jD,h,j]
 refine⟨b-a,by lia,?_⟩;rw[<-E,<-jD,show a+(b-a)=b by lia,j]
theorem pO(H:Mk m)(h:yH m p)(a:e<=m):(∃n,13<=n+1/\n+1<=m+13/\(fz m (n+1) (p.i,p.perturb)).1=e):=by
 have E:fz m 13 (p.i,p.perturb)=((fz m 13 (p.i,p.perturb)).1,0):=by
  refine QW rfl ?_;rw[pN];show p.perturb/32^13=0
  have:=h.per;exact Nat.div_eq_of_lt (Oy this<|by decide)
 have l:=sG m 13 (p.i,p.perturb) h.i;obtain⟨k,c,b⟩:=EN H l a;refine⟨12+k,by lia,by lia,?_⟩;rw[show 12+k+1=13+k by lia,pM,E,nE];exact b
theorem ly(H:Mk m)(h:yH m p)(a:e<=m):∃k,k<10*i6 m/\(cq m k p).j=e:=by
 obtain⟨n,c,d,b⟩:=pO H h a;obtain⟨k,f,A,_⟩:=sF n h;refine⟨k,?_,by rw[A,b]⟩;unfold i6;lia
theorem wq(T:yG t)(hashAt:Nat->Int)(h:Int):∀k f p,k<f->j8 t (cq t.mask k p).j=MW->∃r,VT t hashAt h f p=B' r
 |0,0,_,a,_=>absurd a (by lia)
 |_+1,0,_,a,_=>absurd a (by lia)
 |0,f+1,p,_,o=>by
  obtain⟨i,b,_⟩|⟨_,H⟩:=nC T p.j
  ·have:j8 t p.j=true:=eX.mpr ⟨i,b⟩;rw[show(cq t.mask 0 p).j=p.j from rfl,this]at o;cases o
  ·exact⟨.empty p.j p.dummy,by unfold VT;rw[H]⟩
 |k+1,f+1,p,a,o=>by
  obtain⟨i,b,H⟩|⟨_,H⟩:=nC T p.j
  ·by_cases c:(hashAt i == h)=MX
   ·exact⟨.candidate p.j i<|t.advance p,by unfold VT;rw[H];simp only[c,Ss]⟩
   obtain⟨r,d⟩:=wq T hashAt h k f (pL t.mask p) (by lia) o;exists r;unfold VT;rw[H];simp only[c,QA,NQ];exact d
  exact⟨.empty p.j p.dummy,by unfold VT;rw[H]⟩
theorem wt(T:yG t)(hashAt:Nat->Int)(h:Int):∀f p r,p.dummy=M5->VT t hashAt h f p=B' r->
  ∃k,(∀l,l<k->∃i,t.place[i]?=B' (cq t.mask l p).j/\hashAt i≠h)/\
   ((r=.empty (cq t.mask k p).j M5/\j8 t (cq t.mask k p).j=MW)\/∃i,t.place[i]?=B' (cq t.mask k p).j/\hashAt i=h/\r=.candidate (cq t.mask k p).j i (cq t.mask (k+1) p))
 |0,p,r,_,e=>by cases e
 |f+1,p,r,d,e=>by
  unfold VT at e;obtain⟨i,b,s⟩|⟨o,s⟩:=nC T p.j
  ·rw[s]at e;by_cases c:(hashAt i == h)=MX
   ·simp only[c,Ss]at e;have E:=Nw e;exact⟨0,λl H=>absurd H (by lia),.inr ⟨i,b,by simpa using c,E.symm⟩⟩
   simp only[c,QA,NQ]at e;have a:(pL t.mask p).dummy=none:=by
    unfold pL
    split<;>exact d
   obtain⟨k,g,j⟩:=wt T hashAt h f (pL t.mask p) r a e;refine⟨k+1,λl H=>?_,j⟩;cases l with
   |zero=>exact⟨i,b,by simpa using c⟩
   |succ l=>exact g l (by lia)
  rw[s]at e;have E:=Nw e;exact⟨0,λl H=>absurd H (by lia),.inl ⟨by rw[<-E,d];rfl,o⟩⟩
theorem nG(T:yG t)(hashAt:Nat->Int)(h:Int)(H:yH t.mask p):
  ∃r k,t.probe hashAt h p=B' r/\(∀l,l<k->∃i,t.place[i]?=B' (cq t.mask l p).j/\hashAt i≠h)/\
   ((r=.empty (cq t.mask k p).j M5/\j8 t (cq t.mask k p).j=MW)\/∃i,t.place[i]?=B' (cq t.mask k p).j/\hashAt i=h/\r=.candidate (cq t.mask k p).j i (cq t.mask (k+1) p)):=by
 obtain⟨e,b,o⟩:=pK T;obtain⟨k,c,E⟩:=ly T.mask H b;obtain⟨r,a⟩:=wq T hashAt h k _ p c (by rw[E];exact o);obtain⟨d,f,g⟩:=wt T hashAt h _ p r H.dum a;exact⟨r,d,a,f,g⟩
def Path(o:Nat->Nf)(m:Nat)(h:Int)(j:Nat):Prop:=∃k,(cq m k<|start m h).j=j/\∀l,l<k->o (cq m l<|start m h).j=MX
theorem Path.mono(H:Path O m h j)(f:∀e,O e=MX->o e=MX):Path o m h j:=by
 obtain⟨k,a,b⟩:=H;exact⟨k,a,λl c=>f _<|b l c⟩
theorem o4(T:yG t)(h:Int):∃j,t.freeSlot h=B' (j,MW)/\j8 t j=MW/\j<=t.mask/\Path (j8 t) t.mask h j:=by
 obtain⟨r,k,H,a,b⟩:=nG T (λ_=>h+1) h<|fw t.mask h;have f:h+1≠h:=by lia
 obtain⟨rfl,o⟩|⟨i,_,e,_⟩:=b
 ·refine⟨(cq t.mask k<|start t.mask h).j,?_,o,Kw<|iK k<|fw _ h,k,rfl,λl c=>?_⟩
  ·unfold freeSlot;rw[sE,H];rfl
  obtain⟨i,d,_⟩:=a l c;exact eX.mpr ⟨i,d⟩
 exact absurd e f
theorem ins_get{a:Type}(X:Oh a)(b:p<=X.size)(x:a)(i:Nat):(Qr X p x)[i]?=if i<p then X[i]? else if i=p then B' x else X[i-1]?:=by
 rw[<-NZ,SetTable.toList_insertAt];have H:(X.toList.take p).length=p:=by rw[NO,NH];lia
 by_cases h:i<p
 ·rw[Nt h];simp[h,Uc,H,List.getElem?_take]
  try lia
 rw[Np h];by_cases e:i=p
 ·subst e;rw[Nt rfl];simp[Uc,H]
  try lia
 rw[Np e];have E:i-p=(i-1-p)+1:=by lia
 simp[Uc,H,h,E]
 try (congr 1;lia)
theorem jE{a:Type}(X:Oh a)(h:p<=X.size)(x:a):(Qr X p x).size=X.size+1:=by
 have:=(S2 X p x).length_eq;simpa using this
theorem hP:Up x↔∀i k a b:Nat,i<k->x[i]?=B' a->x[k]?=B' b->a<b:=by
 constructor
 ·intro u i k a b h d e;obtain⟨c,E⟩:=OL.mp d;obtain⟨H,g⟩:=OL.mp e;have:=u i k h H;simp[TM,c,H,E,g]at this;exact this
 intro f i k h H;have c:i<x.size:=by lia
 have:=f i k x[i] x[k] h (Ov c)<|Ov H;simp[TM,c,H];exact this
theorem getD_some{x:Oh Nat}{i a:Nat}(h:x[i]?=B' a):x.getD i 0=a/\i<x.size:=by
 obtain⟨H,e⟩:=OL.mp h;exact⟨by simp[TM,H,e],H⟩
theorem IB(T:yG t)(o:j8 t j=MW):Up (Qr t.place (P' t.place j) j):=by
 obtain⟨B,m,n⟩:=eW T.up j;have Q:∀i a,t.place[i]?=B' a->(i<P' t.place j->a<j)/\(P' t.place j<=i->j<a):=λi a h=>by
  obtain⟨e,p⟩:=getD_some h;refine⟨λc=>by have:=m i c;lia,λc=>?_⟩;have:=n i c p;have q:a≠j:=λz=>by
   have:=eX.mpr ⟨i,z▸h⟩;rw[o]at this;cases this
  lia
 have u:=hP.mp T.up;refine hP.mpr λi k a b f h H=>?_;rw[ins_get _ B]at h H;by_cases g:i<P' t.place j
 ·rw[Nt g]at h;by_cases C:k<P' t.place j
  ·rw[Nt C]at H;exact u i k a b f h H
  rw[Np C]at H;by_cases d:k=P' t.place j
  ·rw[Nt d]at H;have:=Nw H;have:=(Q i a h).1 g;lia
  rw[Np d]at H;exact u i (k-1) a b (by lia) h H
 rw[Np g]at h;have C:¬k<P' t.place j:=by lia
 rw[Np C]at H;have d:¬k=P' t.place j:=by lia
 rw[Np d]at H;by_cases l:i=P' t.place j
 ·rw[Nt l]at h;have:=Nw h;have:=(Q (k-1) b H).2 (by lia);lia
 rw[Np l]at h;exact u (i-1) (k-1) a b (by lia) h H
theorem EO(T:yG t)(h:j8 t j=MW)(H:j<=t.mask)(r:t.place.size+1<=t.mask):
  t.put j=({t with place:=Qr t.place (P' t.place j) j},P' t.place j)/\yG {t with place:=Qr t.place (P' t.place j) j}/\(∀e,j8 {t with place:=Qr t.place (P' t.place j) j} e=MX↔j8 t e=MX\/e=j):=by
 obtain⟨b,B,d⟩:=eW T.up j;have a:∀e,e∈Qr t.place (P' t.place j) j↔e∈t.place\/e=j:=λe=>by
  rw[<-QY,(S2 t.place _ j).mem_iff];simp
 refine⟨?_,⟨T.mask,T.dum,IB T h,λe c=>?_,?_⟩,λe=>?_⟩
 ·unfold put;simp only[T.dum,wm,QA,NQ]
 ·obtain w|rfl:=(a e).mp c
  ·exact T.le e w
  exact H
 ·show(Qr t.place (P' t.place j) j).size<=t.mask
  rw[jE _ b];exact r
 unfold j8;rw[QE,QE];exact a e
theorem nI:∀(b L:gV Nat),b.Nodup->L.Nodup->(∀x,x∈b↔x∈L)->b.Perm L
 |[],L,_,_,h=>by
  cases L with
  |nil=>exact .nil
  |cons a l=>exact absurd ((h a).mpr Nl) (by simp)
 |a::b,L,d,c,h=>by
  have f:a∈L:=(h a).mp Nl;refine Z' (.cons a ?_) (List.perm_cons_erase f).symm;obtain⟨n,N⟩:=O9.mp d;refine nI b (L.erase a) N (c.erase a) λx=>?_;rw[c.mem_erase_iff];constructor
  ·intro H;exact⟨λz=>n<|z▸H,(h x).mp<|Nk _ H⟩
  rintro⟨z,H⟩;obtain e|e:=Nz.mp ((h x).mpr H)
  ·exact absurd e z
  exact e
structure Own (m:Nat)(owner:Oh (MZ Nat))(js:gV Nat)(hs:gV Int):Prop where
 size:owner.size=m+1
 len:js.length=hs.length
 le:∀j∈js,j<=m
 at_:∀j q:Nat,owner[j]?=B' (B' q)↔js[q]?=B' j
 path:∀(q:Nat) (h:Int) (j:Nat),hs[q]?=B' h->js[q]?=B' j->Path (λe=>js.contains e) m h j
theorem Own.none_iff(O:Own m owner j s)(b:e<=m):(owner.getD e<|B' 0).isNone=MX↔j.contains e=false:=by
 have Q:e<owner.size:=by rw[O.size];lia
 have a:owner.getD e (B' 0)=owner[e]:=by simp[TM,Q]
 have E:owner[e]?=B' owner[e]:=Ov Q;rw[a];cases c:owner[e]with
 |none=>
  rw[c]at E;simp only[Yh,true_iff];cases d:j.contains e with
  |false=>rfl
  |true=>
   obtain⟨q,h⟩:=OW.mp<|Nj.mp d;have:=(O.at_ e q).mpr h;rw[E]at this;cases this
 |some q=>
  rw[c]at E;have:=(O.at_ e q).mp E;have H:j.contains e=true:=Nj.mpr<|Nc this;rw[H];simp
structure Lx (m:Nat)(p:Sk):Prop where
 ok:yH m p
 ij:p.j=p.i
theorem run_next{m:Nat}{p:Sk}(R:Lx m p):∃k,k=Uk m p.i+1-p.i/\Lx m (cq m k p)/\(cq m k p).i=(VU m p.i p.perturb).1/\(cq m k p).perturb=(VU m p.i p.perturb).2/\∀l,l<k->(cq m l p).j=p.i+l:=by
 obtain⟨k,H,a,A,b,c⟩:=lV p.more R.ok rfl;have d:=R.ok.j;have h:=R.ij;have:=eZ R.ok.i;refine⟨k,by lia,⟨iK k R.ok,by rw[b,a]⟩,a,A,λl e=>?_⟩;rw[c l (by lia),h]
theorem pP(O:Own m owner J x):∀f p j,Lx m p->Rt m owner f p.i p.perturb=B' j->
  ∃k,(cq m k p).j=j/\J.contains j=MW/\j<=m/\∀l,l<k->J.contains (cq m l p).j=MX
 |0,p,j,_,e=>by cases e
 |f+1,p,j,R,e=>by
  unfold Rt at e;have y:=eZ R.ok.i;obtain⟨a,b,R2,i,n,A⟩:=run_next R;cases c:(Os<|Uk m p.i+1-p.i).find? (λk=>(owner.getD (p.i+k)<|B' 0).isNone)with
  |some k=>
   rw[c]at e;have E:p.i+k=j:=Nw e;obtain⟨C,o,q⟩:=List.find?_range_eq_some.mp c;have r:k<Uk m p.i+1-p.i:=Pj.mp o;refine⟨k,by rw[A k (by lia),E],?_,by lia,λl h=>?_⟩
   ·rw[<-E];exact(O.none_iff<|by lia).mp C
   ·rw[A l<|by lia];have H:=q l h;cases d:J.contains (p.i+l)with
    |true=>rfl
    |false=>
     have s:=(O.none_iff (e:=p.i+l)<|by lia).mpr d;rw[s]at H;exact absurd H (by decide)
  |none=>
   rw[c]at e;have E:Rt m owner f (VU m p.i p.perturb).1 (VU m p.i p.perturb).2=B' j:=e;rw[<-i,<-n]at E;obtain⟨k,t,u,v,w⟩:=pP O f (cq m a p) j R2 E;refine⟨a+k,by rw[cX];exact t,u,v,λl h=>?_⟩;obtain g|g:=Pz l a
   ·rw[A l g];have:=SG.mp c l (Pj.mpr<|by lia);cases d:J.contains (p.i+l)with
    |true=>rfl
    |false=>exact absurd ((O.none_iff (e:=p.i+l)<|by lia).mpr d) this
   have:=w (l-a) (by lia);rw[<-cX,show a+(l-a)=l by lia]at this;exact this
theorem wu(O:Own m owner J s)(h:e<=m)(H:J.contains e=MW):∀n f i p,i<=m->n<f->(fz m n (i,p)).1=e->∃j,Rt m owner f i p=B' j
 |n,0,_,_,_,a,_=>absurd a (by lia)
 |n,f+1,i,p,b,a,l=>by
  unfold Rt;have r:=eZ b;cases c:(Os<|Uk m i+1-i).find? (λk=>(owner.getD (i+k)<|B' 0).isNone)with
  |some k=>exact⟨i+k,rfl⟩
  |none=>
   cases n with
   |zero=>
    have E:i=e:=l;have:=SG.mp c 0 (Pj.mpr<|by lia);rw[Wr,E]at this;exact absurd ((O.none_iff h).mpr H) this
   |succ n=>exact wu O h H n f _ _ (qQ m i p) (by lia) l
noncomputable def lX(m:Nat)(Q:MZ (Oh (MZ Nat)×Nat))(h:Int):MZ (Oh (MZ Nat)×Nat):=do
 let (o,k) <-Q
 let j <-Rt m o (i6 m) (XC h%(m+1)) (XC h)
 pure (o.setIfInBounds j<|B' k,k+1)
theorem yI(m:Nat)(h:Int):Lx m (start m h):=⟨fw m h,rfl⟩
theorem AT(v:Mk m)(O:Own m owner J s)(h:Int)(G:J.length<=m):
  ∃Z i,lX m (B' (owner,s.length)) h=B' (Z,(s++[h]).length)/\Own m Z i (s++[h]):=by
 obtain⟨e,b,x⟩:∃e,e<=m/\J.contains e=false:=by
  by_cases c:∃e,e<=m/\J.contains e=MW
  ·exact c
  exfalso;have:=kq (m+1) J λe b=>by
   cases d:J.contains e with
   |true=>exact Nj.mp d
   |false=>exact absurd ⟨e,by lia,d⟩ c
  lia
 obtain⟨n,I,L,N⟩:=pO v (fw m h) b;obtain⟨j,r⟩:=wu O b x (n+1) (i6 m) (XC h%(m+1)) (XC h) (fw m h).i (by unfold i6;lia) N;obtain⟨k,y,A,B,C⟩:=pP O (i6 m) (start m h) j (yI m h) r;have o:j<owner.size:=by rw[O.size];lia
 have p:∀q,¬owner[j]?=B' (B' q):=λq z=>by
  have:=Nj.mpr<|Nc<|(O.at_ j q).mp z;rw[A]at this;cases this
 refine⟨owner.setIfInBounds j<|B' s.length,J++[j],?_,⟨?_,?_,?_,?_,?_⟩⟩
 ·unfold lX;show(do
   let j <-Rt m owner (i6 m) (XC h%(m+1)) (XC h)
   pure (owner.setIfInBounds j<|B' s.length,s.length+1))=_
  rw[r,M7];rfl
 ·rw[Array.size_setIfInBounds];exact O.size
 ·rw[M7,M7,O.len];rfl
 ·intro a H;obtain w|w:=NB.mp H
  ·exact O.le a w
  rw[Nd.mp w];exact B
 ·intro a q;rw[Array.getElem?_setIfInBounds];by_cases c:j=a
  ·subst c;rw[Nt rfl,Nt o];constructor
   ·intro z;have:s.length=q:=by simpa using z
    subst this;rw[<-O.len,N7<|Na _,P1];rfl
   intro z;obtain g|g|g:=PM q J.length
   ·rw[N3 g]at z;exact absurd ((O.at_ j q).mpr z)<|p q
   ·rw[g,O.len]
   rw[OP<|by rw[M7,NG];lia]at z;cases z
  rw[Np c,O.at_];constructor
  ·intro z;have:q<J.length:=(M'.mp z).1;rw[N3 this];exact z
  intro z;obtain g|g|g:=PM q J.length
  ·rw[N3 g]at z;exact z
  ·rw[g,N7<|Na _,P1]at z;have:j=a:=by simpa using z
   exact absurd this c
  rw[OP<|by rw[M7,NG];lia]at z;cases z
 have u:∀e,J.contains e=MX->(J++[j]).contains e=true:=λe b=>by
  rw[Nj]at b ⊢;exact Pw _ b
 intro q t a f H;obtain g|g|g:=PM q J.length
 ·rw[N3 g]at H;rw[N3<|by rw[<-O.len];exact g]at f;exact(O.path q t a f H).mono u
 ·rw[g,N7<|Na _,P1]at H;rw[g,O.len,N7<|Na _,P1]at f;have E:j=a:=by simpa using H
  have D:h=t:=by simpa using f
  subst E D;exact⟨k,y,λl F=>u _<|C l F⟩
 rw[OP<|by rw[M7,NG];lia]at H;cases H
theorem sI(a:Mk m):∀Z H owner j,Own m owner j H->H.length+Z.length<=m+1->
  ∃z J,Z.foldl (lX m) (B' (owner,H.length))=B' (z,(H++Z).length)/\Own m z J (H++Z)
 |[],H,owner,j,O,_=>⟨owner,j,by rw[OQ];rfl,by rw[OQ];exact O⟩
 |h::r,H,owner,j,O,l=>by
  obtain⟨o,b,e,c⟩:=AT a O h (by rw[O.len];simp at l;lia);obtain⟨d,f,E,g⟩:=sI a r (H++[h]) o b c (by simp at l ⊢;lia);refine⟨d,f,?_,?_⟩
  ·rw[QS,e,E];simp
  rw[show H++h::r=H++[h]++r by simp];exact g
theorem EQ(m:Nat):Own m (Z2 (m+1) M5) [] [] where
 size:=by simp
 len:=rfl
 le:=λ_ h=>nomatch h
 at_:=λj q=>by
  simp[Array.getElem?_replicate]
 path:=λq h j H=>by simp at H
theorem uJ(h:Mk m)(s:Oh Int)(H:s.size<=m+1):∃owner J,layClean m s=B' owner/\Own m owner J s.toList:=by
 obtain⟨o,j,e,O⟩:=sI h s.toList [] _ [] (EQ m) (by simpa using H);refine⟨o,j,?_,by simpa using O⟩;unfold layClean;rw[<-Array.foldl_toList];show Option.map _ (s.toList.foldl (lX m)<|B' (Z2 (m+1) M5,([]:gV Int).length))=_
 rw[e];rfl
theorem yJ(D:Mk m)(finger moves:Nat)(led plain:Nf)(s:Oh Int)(T:s.size<=m):
  ∃t' w,laid m finger moves led plain s=B' (t',w)/\t'.mask=m/\t'.led=led/\t'.plain=plain/\yG t'/\t'.place.size=s.size/\w.toList.Perm (Os s.size)/\
   ∀(i q j:Nat) (h:Int),w[i]?=B' q->t'.place[i]?=B' j->s[q]?=B' h->Path (j8 t') m h j:=by
 obtain⟨r,J,e,O⟩:=uJ D s (by lia);have I:J.length=s.size:=by rw[O.len];simp
 let f:Nat->MZ (Nat×Nat):=λj=>(r.getD j M5).map (j,·)
 let L:gV (Nat×Nat):=(Os<|m+1).filterMap f
 have p:∀j b,f j=B' b↔j=b.1/\r[j]?=B' (B' b.2):=λj b=>by
  show(r.getD j M5).map (j,·)=B' b↔_
  have E:r.getD j M5=(r[j]?).getD none:=by simp[Array.getD_eq_getD_getElem?]
  rw[E];cases c:r[j]? with
  |none=>simp
  |some o=>
   cases o with
   |none=>simp
   |some q=>
    simp;constructor
    ·rintro rfl;exact⟨rfl,rfl⟩
    rintro⟨a,M⟩;exact QW a M
 have mem:∀b:Nat×Nat,b∈L↔J[b.2]?=B' b.1:=λb=>by
  show b∈(Os<|m+1).filterMap f↔_
  rw[P5];constructor
  ·rintro⟨j,_,H⟩;obtain⟨rfl,n⟩:=(p j b).mp H;exact(O.at_ _ _).mp n
  intro h;have H:=O.le b.1<|Nc h;exact⟨b.1,Pj.mpr (by lia),(p b.1 b).mpr ⟨rfl,(O.at_ _ _).mpr h⟩⟩
 have P:L.Pairwise (λa b=>a.1<b.1):=by
  refine List.pairwise_filterMap.mpr<|ad8 (λ{a b} A x g y l=>?_) List.pairwise_lt_range;have E:=((p a x).mp g).1;have U:=((p b y).mp l).1;lia
 have N:(L.map (·.2)).Nodup:=by
  refine Om.mpr<|Sr (λ{a b} t d A=>?_) P;intro z;have u:=(mem a).mp t;have n:=(mem b).mp d;rw[z,n]at u;have:=Nw u;lia
 have F:(L.map (·.2)).Perm (Os s.size):=by
  refine nI _ _ N List.nodup_range λx=>?_;rw[NV,Pj];constructor
  ·rintro⟨b,d,rfl⟩;have:=(M'.mp<|(mem b).mp d).1;lia
  intro g;exact⟨(J[x],x),(mem _).mpr (M4<|by lia),rfl⟩
 have len:L.length=s.size:=by
  have:=F.length_eq;simpa using this
 have B:∀e,J.contains e=MX->(L.map (·.1)).toArray.contains e=true:=λe G=>by
  rw[Nj]at G;obtain⟨q,v⟩:=OW.mp G;rw[QE,Zn,NV];exact⟨(e,q),(mem _).mpr v,rfl⟩
 refine⟨{mask:=m,place:=(L.map (·.1)).toArray,dummies:=#[],finger,led,moves,plain},(L.map (·.2)).toArray,?_,rfl,rfl,rfl,⟨D,rfl,hP.mpr λi k a b C t d=>?_,λj H=>?_,?_⟩,?_,F,λi q j h v H Q=>?_⟩
 ·unfold laid;rw[e];rfl
 ·simp only[WO,Nu]at t d;obtain⟨x,g,rfl⟩:=O5.mp t;obtain⟨y,l,rfl⟩:=O5.mp d;obtain⟨u,rfl⟩:=M'.mp g;obtain⟨n,rfl⟩:=M'.mp l;exact PF.mp P i k u n C
 ·simp only[Zn,NV]at H;obtain⟨b,d,rfl⟩:=H;exact O.le _<|Nc<|(mem b).mp d
 ·simp only[Nq,MY];lia
 ·simp only[Nq,MY];exact len
 simp only[WO,Nu]at v H;obtain⟨x,g,rfl⟩:=O5.mp v;obtain⟨y,l,rfl⟩:=O5.mp H;rw[g]at l;obtain rfl:=Nw l;exact(O.path x.2 h x.1 (by rw[NZ];exact Q)<|(mem x).mp<|Nc g).mono B
structure PT (t:SetTable)(hs:gV Int):Prop where
 tab:yG t
 plain:t.plain=MX
 len:t.place.size=hs.length
 reach:∀(i:Nat) (h:Int) (j:Nat),hs[i]?=B' h->t.place[i]?=B' j->Path (j8 t) t.mask h j
structure TT (t:SetTable)(hs:gV Int):Prop extends PT t hs where
 small:5*hs.length<3*t.mask
 most:hs.length<=2100
theorem ER(T:PT t h):t.fits h.length=true:=by
 unfold SetTable.fits;have:=T.tab.room;have e:t.fill<=t.mask:=by
  unfold fill;rw[T.tab.dum];simpa using this
 simp[T.len,e]
theorem AU(led:Nf):TT (.fresh 0 0 led) [] where
 tab:=⟨.inl rfl,rfl,λi k H a=>by simp[W4]at a,λj b=>by simp[W4]at b,by simp[W4]⟩
 plain:=rfl
 len:=rfl
 reach:=λi h j c=>by simp at c
 small:=by show 5*0<3*7;decide
 most:=by simp
noncomputable abbrev e_(e:Oh (Int×J')):gV Int:=e.toList.map (·.1)
theorem AV(e:Oh (Int×J'))(h:p<=e.size)(x:Int×J')(i:Nat):(e_<|Qr e p x)[i]?=if i<p then(e_ e)[i]? else if i=p then B' x.1 else(e_ e)[i-1]?:=by
 unfold e_;rw[Nu,NZ,ins_get e h];by_cases c:i<p
 ·simp[c]
 by_cases d:i=p
 ·simp[d]
 simp[c,d]
theorem pQ(T:TT t (e_ E)){x:J'}(o:j8 t j=MW)(k:j<=t.mask)(p:Path (j8 t) t.mask h j):
  t.put j=({t with place:=Qr t.place (P' t.place j) j},P' t.place j)/\PT {t with place:=Qr t.place (P' t.place j) j} (e_<|Qr E (P' t.place j) (h,x))/\(Qr E (P' t.place j) (h,x)).size=E.size+1/\P' t.place j<=E.size:=by
 have s:t.place.size=E.size:=by rw[T.len];simp
 obtain⟨B,v,w⟩:=eW T.tab.up j;have f:P' t.place j<=E.size:=by lia
 have r:t.place.size+1<=t.mask:=by
  have:=T.small;rw[<-T.len]at this;obtain e|e|e|e:=T.tab.mask<;>lia
 obtain⟨P,l,m⟩:=EO T.tab o k r;have u:∀e,j8 t e=MX->j8 {t with place:=Qr t.place (P' t.place j) j} e=true:=λe n=>(m e).mpr<|.inl n;refine⟨P,⟨l,T.plain,?_,λi g a b q=>?_⟩,jE _ f _,f⟩
 ·show(Qr t.place (P' t.place j) j).size=_
  rw[jE _ B,s];simp[jE _ f]
 rw[AV _ f]at b;have H:(Qr t.place (P' t.place j) j)[i]?=B' a:=q;rw[ins_get _ B]at H;by_cases c:i<P' t.place j
 ·rw[Nt c]at b H;exact(T.reach i g a b H).mono u
 rw[Np c]at b H;by_cases d:i=P' t.place j
 ·rw[Nt d]at b H;cases b;cases H;exact p.mono u
 rw[Np d]at b H;exact(T.reach (i-1) g a b H).mono u
theorem AX{b:Type}(e:Oh b):∀(l:gV Nat),(∀q∈l,q<e.size)->∀i:Nat,(l.filterMap λq=>e[q]?)[i]?=(l[i]?).bind λq=>e[q]?
 |[],_,i=>by simp
 |q::l,h,i=>by
  have H:=h q Nl;rw[Sg,Ov H];cases i with
  |zero=>simp[H]
  |succ i=>simpa using AX e l (λa c=>h a<|Nk _ c) i
def Fl(n:Nat):Prop:=n=5\/n=19\/n=77\/n=307\/n=1229
theorem nJ(T:PT t (e_ E))(n:Fl E.size):
  ∃t' r,t.relaid (E.map (·.1)) (grown E.size)=B' (t',r)/\t'.led=t.led/\r.toList.Perm (Os E.size)/\(r.filterMap (E[·]?)).toList.Perm E.toList/\(r.filterMap (E[·]?)).size=E.size/\TT t' (e_ (r.filterMap (E[·]?))):=by
 obtain⟨m,em,g,b⟩:∃m,sizeAbove (grown E.size)-1=m/\Mk m/\5*E.size<3*m:=by
  obtain e|e|e|e|e:=n<;>rw[e]
  ·exact⟨31,by decide,.inr<|.inl rfl,by decide⟩
  ·exact⟨127,by decide,.inr<|.inr<|.inl rfl,by decide⟩
  ·exact⟨511,by decide,.inr<|.inr<|.inr<|.inl rfl,by decide⟩
  ·exact⟨2047,by decide+kernel,.inr<|.inr<|.inr<|.inr<|.inl rfl,by decide⟩
  exact⟨8191,by decide+kernel,.inr<|.inr<|.inr<|.inr<|.inr rfl,by decide⟩
 have M:E.size<=2100:=by unfold Fl at n;lia
 obtain⟨t',r,e,d,k,l,o,f,A,p⟩:=yJ g t.finger (t.movedTo m) t.led t.plain (E.map (·.1)) (by simp;lia);rw[Xp]at f A;have U:∀q∈r.toList,q<E.size:=λq s=>Pj.mp<|A.mem_iff.mp s;have x:∀i,(r.filterMap (E[·]?))[i]?=(r[i]?).bind λq=>E[q]?:=λi=>by
  rw[<-NZ,Wv,AX E _ U,NZ]
 have a:(r.filterMap (E[·]?)).toList.Perm E.toList:=by
  rw[Wv];refine(A.filterMap _).trans ?_;rw[filterMap_getElem?_range]
 have z:(r.filterMap (E[·]?)).size=E.size:=by
  have:=a.length_eq
  rwa [NH,NH]at this
 have Z:(e_ (r.filterMap (E[·]?))).length=E.size:=by
  unfold e_;rw[MY,NH,z]
 refine⟨t',r,?_,k,A,a,z,⟨⟨o,l.trans T.plain,?_,λi h j H u=>?_⟩,?_,?_⟩⟩
 ·unfold relaid;rw[em];exact e
 ·rw[f,Z]
 ·unfold e_ at H;rw[Nu,NZ,x]at H;cases c:r[i]? with
  |none=>rw[c]at H;cases H
  |some q=>
   rw[c]at H;obtain⟨v,w,rfl⟩:=O5.mp H;rw[d];refine p i q j v.1 c u ?_;rw[Array.getElem?_map];have:E[q]?=B' v:=w;rw[this];rfl
 ·rw[d,Z];exact b
 rw[Z];exact M
theorem sJ(T:PT t H)(h:t.tooFull=MW)(l:H.length<=2100):TT t H:=by
 refine⟨T,?_,l⟩;unfold tooFull fill at h;rw[T.tab.dum,T.len]at h;simp at h;lia
theorem wv(T:PT t H)(h:t.tooFull=MX)(l:H.length<=2100)(a:5*(H.length-1)<3*t.mask):Fl H.length:=by
 unfold tooFull fill at h;rw[T.tab.dum,T.len]at h;simp at h;unfold Fl;obtain e|e|e|e|e|e:=T.tab.mask<;>rw[e]at h a<;>lia
end TB
namespace SW
open PySem PySem.SetTable TB
noncomputable def bp(w:NF):Nf:=w.params.followText "set-order"
def SetAt(w:NF)(h:N_)(S:M0)(e:Oh (Int×J'))(E:Nat):Prop:=
 ∃o t,h.get? S=B' o/\o.ExactSet/\o.data=.set e E t/\TT t (e_ e)/\t.led=!bp w
theorem SetAt.typeIs{w:NF}{s:M3}{S:M0}{e:Oh (Int×J')}{E:Nat}(h:SetAt w s.heap S e E):s.TypeIs (.ref S) "set":=let ⟨o,_,H,c,_⟩:=h;⟨o,H,c.1⟩
theorem SetAt.keep{S:M0}(x:SetAt w h S e E)(k:∀o,h.get? S=B' o->h'.get? S=B' o):SetAt w h' S e E:=
 let ⟨o,t,H,r⟩:=x;⟨o,t,k o H,r⟩
theorem SetAt.lt{S:M0}(x:SetAt w h S e E):S<h.objs.size:=let ⟨_,_,H,_⟩:=x;Nx H
theorem eJ(e:Oh (Int×J')):(e_ e).length=e.size:=by simp
theorem eO(T:PT t (e_ e)):t.fits e.size=true:=by
 have:=ER T
 rwa [eJ]at this
theorem nK{b:Type}:∀(l:gV b) (i:Nat) (h:i<l.length),(l[i]::l.eraseIdx i).Perm l
 |[],_,h=>absurd h (by simp)
 |a::l,0,_=>by simp
 |a::l,i+1,h=>by
  have z:=nK l i (by simpa using h);simp only[List.getElem_cons_succ,V4];exact(YP a _ _).trans<|z.cons a
theorem pR{a:Type}(next:Nat->Nat):∀(n k:Nat) (left:gV a) (o:Oh a),left.length=n->(YB next n k left o).toList.Perm (o.toList++left)
 |0,k,left,o,h=>by
  have:left=[]:=OO.mp h;subst this;unfold YB;simp
 |n+1,k,left,o,h=>by
  have Q:next k%left.length<left.length:=Wo _ (by lia)
  unfold YB;rw[M4 Q];refine(pR next n (k+1) _ _ (by rw[List.length_eraseIdx_of_lt Q];lia)).trans ?_;rw[RH,N1];refine acx _ ?_;exact nK left _ Q
noncomputable def dQ(w:NF)(S:M0)(e:Oh (Int×J'))(E:Nat):Oh (Int×J'):=if bp w=MX then Xu (w.params.setOrder S E) e else e
theorem nM(w:NF)(S:M0)(e:Oh (Int×J'))(E:Nat):(dQ w S e E).toList.Perm e.toList:=by
 unfold dQ
 split
 ·have:=pR (w.params.setOrder S E) e.toList.length 0 e.toList #[] rfl;simpa[Xu]using this
 exact .refl _
theorem jc(w:NF)(S:M0)(e:Oh (Int×J'))(E:Nat):(dQ w S e E).size=e.size:=by
 have:=(nM w S e E).length_eq;simpa using this
theorem fL(h:Q (bp w) s):wpAny (ND p w) A setsByText Q E s:=by
 unfold setsByText;exact G'<|VP<|M9 h
def At(w:NF)(t:SetTable)(slot i:Nat):Prop:=bp w=MX\/P' t.place slot=i
theorem yK{S:M0}{a:Oh (Int×J')}{p slot i:Nat}{o:Obj}{t:SetTable}{x:Int×J'}{Q:MZ (J'×Nat)->M3->Prop}
  (H:s.heap.get? S=B' o) (d:o.data=.set a p t) (T:TT t (e_ a)) (l:t.led=!bp w) (g:At w t slot i) (h:(dQ w S a p)[i]?=B' x)
  (c:∀U,At w t U (i+1)->Q (B' (x.2,U)) s):wpAny (ND P w) A (Yz S slot i p) Q E s:=by
 have f:=eO T.toPT;unfold Yz;refine G'<|Pe H d f ?_;refine G'<|fL ?_;by_cases b:bp w=MX
 ·unfold dQ at h;rw[Nt b]at h;rw[b]
  try dsimp only
  rw[Nt rfl,Np<|by simp];refine G' ?_;unfold setWalk;refine G'<|Pe H d f ?_;refine G'<|fL ?_;rw[b]
  try dsimp only
  rw[Nt rfl];refine G'<|VP<|M9<|M9 ?_;show Q (((Xu (w.params.setOrder S p) a)[i]?).map _) s
  rw[h];exact c slot<|.inl b
 have B:bp w=false:=by simpa using b
 unfold dQ at h;rw[Np b]at h;rw[B]
 try dsimp only
 rw[Np<|by simp];have e:P' t.place slot=i:=by
  obtain z|z:=g
  ·exact absurd z b
  exact z
 have k:i<a.size:=(OL.mp h).1;have m:i<t.place.size:=by rw[T.len,eJ];exact k
 have j:t.place[i]?=B' t.place[i]:=Ov m;show wpAny _ _ (if(!t.plain&&decide (a.size>1))=MX then _ else _) _ _ _
 rw[T.plain];rw[Np<|by simp];show wpAny _ _ ((if(!t.led&&!a.isEmpty)=MX then _ else _) >>=_) _ _ _
 rw[l,B];rw[Np<|by simp];refine G'<|M9<|M9 ?_;rw[e,h,j];exact c _<|.inr<|uH T.tab.up j
theorem AY{S:M0}{a:Oh (Int×J')}{p slot:Nat}{o:Obj}{t:SetTable}{Q:MZ (J'×Nat)->M3->Prop}
  (h:s.heap.get? S=B' o) (H:o.data=.set a p t) (T:TT t (e_ a)) (l:t.led=!bp w) (d:At w t slot a.size)
  (c:Q M5 s):wpAny (ND P w) A (Yz S slot a.size p) Q E s:=by
 have f:=eO T.toPT;unfold Yz;refine G'<|Pe h H f ?_;refine G'<|fL ?_;by_cases b:bp w=MX
 ·rw[b]
  try dsimp only
  rw[Nt rfl,Np<|by simp];refine G' ?_;unfold setWalk;refine G'<|Pe h H f ?_;refine G'<|fL ?_;rw[b]
  try dsimp only
  rw[Nt rfl];refine G'<|VP<|M9<|M9 ?_;have e:(Xu (w.params.setOrder S p) a)[a.size]?=none:=by
   have z:=jc w S a p;unfold dQ at z;rw[Nt b]at z;exact Td (by lia)
  show Q (((Xu (w.params.setOrder S p) a)[a.size]?).map _) s
  rw[e];exact c
 have B:bp w=false:=by simpa using b
 rw[B]
 try dsimp only
 rw[Np<|by simp];have e:P' t.place slot=a.size:=by
  obtain z|z:=d
  ·exact absurd z b
  exact z
 show wpAny _ _ (if(!t.plain&&decide (a.size>1))=MX then _ else _) _ _ _
 rw[T.plain];rw[Np<|by simp];show wpAny _ _ ((if(!t.led&&!a.isEmpty)=MX then _ else _) >>=_) _ _ _
 rw[l,B];rw[Np<|by simp];refine G'<|M9<|M9 ?_;rw[e,Td<|Na _];exact c
theorem gs:Slot "set_iterator" "__next__" "set_iterator.__next__":=.of (owner:="set_iterator") (n:="__next__") (by rw[Wy,Tg];kernel_rfl) (by decide+kernel) (by decide+kernel) (by decide+kernel) (by first|exact .inl (by decide+kernel)|exact .inr<|by decide+kernel) (by rw[W1];kernel_rfl)
theorem ww:Slot "set_iterator" "__iter__" "set_iterator.__iter__":=.of (owner:="set_iterator") (n:="__iter__") (by rw[Wy,Tg];kernel_rfl) (by decide+kernel) (by decide+kernel) (by decide+kernel) (by first|exact .inl (by decide+kernel)|exact .inr<|by decide+kernel) (by rw[W1];kernel_rfl)
theorem wx:lF table "set_iterator.__next__"=B' Builtin.«set_iterator.__next__»:=Za (by kernel_rfl)
theorem ES:lF table "set_iterator.__iter__"=B' Builtin.«dict_keyiterator.__iter__»:=R' (id':="dict_keyiterator.__iter__") (by kernel_rfl) rfl (by decide+kernel) (by kernel_rfl)
theorem sK:lF table "set.__iter__"=B' Builtin.«frozenset.__iter__»:=R' (id':="frozenset.__iter__") (by kernel_rfl) rfl (by decide+kernel) (by kernel_rfl)
theorem Gq:Manifest.owners.lookup (String.ofList ['r','o','t','a','r','e','t','i','_','t','e','s'].reverse)=B' Manifest.sig_set_iterator:=by kernel_rfl
theorem wy(a:J'):kz "set_iterator.__next__" ⟨[a],[]⟩:=by
 unfold kz;rw[Ip (id:="set_iterator.__next__") (n:=['_','_','t','x','e','n','_','_']) (o:=['r','o','t','a','r','e','t','i','_','t','e','s']) (by kernel_rfl) Gq];kernel_rfl
theorem ET(a:J'):kz "set_iterator.__iter__" ⟨[a],[]⟩:=by
 unfold kz;rw[Ip (id:="set_iterator.__iter__") (n:=['_','_','r','e','t','i','_','_']) (o:=['r','o','t','a','r','e','t','i','_','t','e','s']) (by kernel_rfl) Gq];kernel_rfl
def IsIt(h:N_)(I S:M0)(slot i n e:Nat):Prop:=∃o,h.get? I=B' o/\o.cls=.type "set_iterator"/\o.data=.fields #[.int slot 0,.int i 0,.ref S,.int n 0,.int e 0]
theorem IsIt.typeIs{s:M3}{I S:M0}{slot i n e:Nat}(h:IsIt s.heap I S slot i n e):s.TypeIs (.ref I) "set_iterator":=let ⟨o,H,c,_⟩:=h;⟨o,H,c⟩
theorem IsIt.keep{h h':N_}{I S:M0}{slot i n e:Nat}(x:IsIt h I S slot i n e)(k:∀o,h.get? I=B' o->h'.get? I=B' o):IsIt h' I S slot i n e:=let ⟨o,H,r⟩:=x;⟨o,k o H,r⟩
theorem EU{S:M0}{e:Oh (Int×J')}{p slot i:Nat}{o:Obj}{t:SetTable}{x:Int×J'}{Q:MZ J'->M3->Prop}(r:S≠I)
  (hit:IsIt s.heap I S slot i e.size p) (f:s.heap.get? S=B' o) (g:o.data=.set e p t) (T:TT t (e_ e)) (l:t.led=!bp w) (k:At w t slot i) (m:(dQ w S e p)[i]?=B' x)
  (n:∀U h',At w t U (i+1)->IsIt h' I S U (i+1) e.size p->QC I s.heap h'->Q (B' x.2) {s with heap:=h'}):
  wpAny (ND P w) A (Ts<|.ref I) Q E s:=by
 obtain⟨O,H,a,h⟩:=id hit;have q:=eO T.toPT;unfold Ts;refine G'<|VA<|Q7 (name:=M_ "__next__") hit.typeIs gs<|Qj gs hit.typeIs wx ?_<|wy _;unfold Builtin.«set_iterator.__next__»;refine G'<|M9 ?_;refine G'<|T' H h ?_;show wpAny _ _ (setEntries S >>=_) _ _ s
 refine G'<|Uo f g q ?_;rw[Np<|by simp];show wpAny _ _ (Yz S slot i p >>=_) _ _ s
 refine G'<|yK f g T l k m λU b=>?_;show wpAny _ _ (mr (.ref I) 0 (V_ (U:Int)) >>=_) _ _ s
 refine G'<|WW H h (by simp) ?_;have j:(s.heap.update I (VC (·.setIfInBounds 0 (V_ (U:Int))))).get? I=B' (VC (·.setIfInBounds 0 (V_ (U:Int))) O):=Qf _ H<|WK<|SC h _;have d:=SC h (·.setIfInBounds 0 (V_ (U:Int)));show wpAny _ _ (mr (.ref I) 1 (V_<|(i:Int)+1) >>=_) _ _ _
 refine G'<|WW j d (by simp) ?_;have c:IsIt ((s.heap.update I (VC (·.setIfInBounds 0 (V_ (U:Int))))).update I (VC (·.setIfInBounds 1 (V_<|(i:Int)+1)))) I S U (i+1) e.size p:=by
  refine⟨_,Qf _ j<|WK<|SC d _,?_,?_⟩
  ·rw[YJ,YJ];exact a
  rw[SC d];simp[V_]
 exact M9 ⟨_,rfl,M9<|n U _ b c<|(O8 ..).trans (O8 ..)⟩
theorem IC{I S:M0}{e:Oh (Int×J')}{p slot:Nat}{o:Obj}{t:SetTable}{Q:MZ J'->M3->Prop}(b:A.handled=M5)
  (hit:IsIt s.heap I S slot e.size e.size p) (a:s.heap.get? S=B' o) (d:o.data=.set e p t) (T:TT t (e_ e)) (l:t.led=!bp w) (c:At w t slot e.size)
  (f:∀h',Heap.ExtBut I s.heap h'->Q M5 {s with heap:=h'}):wpAny (ND P w) A (Ts<|.ref I) Q E s:=by
 obtain⟨O,h,i,H⟩:=id hit;have g:=eO T.toPT;unfold Ts;refine G'<|VA<|Q7 (name:=M_ "__next__") hit.typeIs gs<|Qj gs hit.typeIs wx ?_<|wy _;unfold Builtin.«set_iterator.__next__»;refine G'<|M9 ?_;refine G'<|T' h H ?_;show wpAny _ _ (setEntries S >>=_) _ _ s
 refine G'<|Uo a d g ?_;rw[Np<|by simp];show wpAny _ _ (Yz S slot e.size p >>=_) _ _ s
 refine G'<|AY a d T l c ?_;show wpAny _ _ (mr (.ref I) 2 .none >>=_) _ _ s
 refine G'<|WW h H (by simp) ?_;show wpAny _ _ (newExc (.type "StopIteration") [] >>=_) _ _ _
 refine G' ?_;simp only[newExc,newTuple];refine G' (O4 ?_<|by size_fits);refine G' (m:=Sh _ _)<|Zw (a:=UU) (by first|rfl|(simp only[Sh];rfl)) ?_;refine O4 ?_ (by size_fits);simp only[raiseNew];refine G'<|wpAny_handled ?_;rw[show A.in1.handled=M5 from b];refine G'<|M9<|wpAny_throw ?_;refine G'<|Y8 (T:="StopIteration") (b:=MX) ⟨_,NL _ rfl,rfl⟩ isSubtype_stop ?_;exact M9<|f _<|((O8 ..).extBut.push _).push _
theorem EV{I S:M0}{slot i n e:Nat}{Q:J'->M3->Prop}(hit:IsIt s.heap I S slot i n e)(h:Q (.ref I) s):wpAny (ND p w) A (WZ<|.ref I) Q E s:=by
 refine Yv hit.typeIs ww<|Qj ww hit.typeIs ES ?_<|ET _;show wpAny _ _ (ret<|.ref I) _ _ s
 exact M9 ⟨_,rfl,"set_iterator",_,hit.typeIs,gs.lookup,h⟩
theorem yL(D:A.handled=M5)(I S:M0)(T:S≠I)(a:Oh (Int×J'))(p:Nat):
  Walks P w A I [I,S] [I] a.size (λi v=>∃x,(dQ w S a p)[i]?=B' x/\v=x.2)
   (λi h=>∃slot o t,IsIt h I S slot i a.size p/\h.get? S=B' o/\o.ExactSet/\o.data=.set a p t/\TT t (e_ a)/\t.led=!bp w/\At w t slot i) where
 sub:=λb c=>by simp at c;simp[c]
 frame:=λ_ _ _ st B=>by
  obtain⟨slot,o,t,H,d,j⟩:=st;exact⟨slot,o,t,H.keep λo e=>B I (by simp) o e,B S (by simp) o d,j⟩
 item:=λi s Q E F st f=>by
  obtain⟨slot,o,t,H,d,j,k,l,m,n⟩:=st;obtain⟨x,C⟩:∃x,(dQ w S a p)[i]?=B' x:=⟨_,Ov (by rw[jc];exact F)⟩;refine EU T H d k l m n C λU q r u g=>?_;exact f x.2 q s.toks ⟨x,C,rfl⟩ ⟨U,o,t,u,g.extBut S o T d,j,k,l,m,r⟩ λb O c e=>g.extBut b O (λz=>c (by simp[z])) e
 done:=λs Q E st f=>by
  obtain⟨slot,o,t,H,d,j,k,l,m,n⟩:=st;exact IC D H d k l m n λq y=>f q s.toks λb O c e=>y b O (λz=>c<|by simp[z]) e
 self:=λ_ _ _ _ st f=>by
  obtain⟨slot,o,t,H,_⟩:=st;exact EV H f
theorem AZ{S:M0}{Q:J'->M3->Prop}(a:SetAt w s.heap S e b)
  (c:Q (.ref s.heap.objs.size) {s with heap:=s.heap.push {cls:=.type "set_iterator",data:=.fields #[.int 0 0,.int 0 0,.ref S,.int e.size 0,.int b 0]}}):
  wpAny (ND p w) A (WZ<|.ref S) Q E s:=by
 have hT:=a.typeIs;obtain⟨o,t,h,g,H,T,l⟩:=a;have f:=eO T.toPT;refine Yv hT ZQ<|Qj ZQ hT sK ?_<|F.args_set_iter_1 _;unfold Builtin.«frozenset.__iter__»;refine G' (m:=abU "__iter__" _)<|M9 ?_;refine G' ?_;unfold abA;refine G'<|Uo h H f<|M9 ?_;refine G' ?_;unfold setDrawn;refine G'<|Pe h H f ?_;refine G'<|fL<|M9 ?_;have d:(!bp w&&(!t.plain&&decide (e.size>1)))=false:=by rw[T.plain];simp
 show wpAny _ _ (if(!bp w&&(!t.plain&&decide (e.size>1)))=MX then _ else _) _ _ _
 rw[d,Np<|by simp];refine G'<|M9 ?_;refine G'<|wpAny_setEpoch_of h H f ?_;refine G'<|O4<|M9 ⟨_,rfl,"set_iterator",_,⟨_,NL _ rfl,rfl⟩,gs.lookup,?_⟩;simpa[V_]using c
theorem EW(T:yG t):At w t 0 0:=.inr<|uI T.up
inductive Two {c d:Type}(R:c->d->Prop):gV c->gV d->Prop
 |nil:Two R [] []
 |cons {a:c} {b:d} {A:gV c} {bs:gV d}:R a b->Two R A bs->Two R (a::A) (b::bs)
namespace Two
variable {α β:Type}{R:α->β->Prop}
theorem len(h:Two R a b):a.length=b.length:=by
 induction h with
 |nil=>rfl
 |cons _ _ i=>simp[i]
theorem app(h:Two R A B)(h':Two R a b):Two R (A++a) (B++b):=by
 induction h with
 |nil=>exact h'
 |cons x _ i=>exact .cons x i
theorem imp(h:Two R A B)(f:∀a b,R a b->r a b):Two r A B:=by
 induction h with
 |nil=>exact .nil
 |cons x _ i=>exact .cons (f _ _ x) i
theorem perm(p:B.Perm b):∀{a:gV α},Two R a B->∃A,a.Perm A/\Two R A b:=by
 induction p with
 |nil=>intro a h;exact⟨a,.refl _,h⟩
 |cons x _ d=>
  intro a h;cases h with
  |cons r t=>
   obtain⟨A,H,c⟩:=d t;exact⟨_,H.cons _,.cons r c⟩
 |swap x y l=>
  intro a h;cases h with
  |cons r t=>
   cases t with
   |cons e T=>exact⟨_,.swap _ _ _,.cons e<|.cons r T⟩
 |trans _ _ i I=>
  intro a h;obtain⟨k,H,c⟩:=i h;obtain⟨f,g,j⟩:=I c;exact⟨f,H.trans g,j⟩
theorem at_(h:Two R A B):∀{i:Nat} {b:β},B[i]?=B' b->∃a,A[i]?=B' a/\R a b:=by
 induction h with
 |nil=>intro i b e;simp at e
 |cons x _ I=>
  intro i b e;cases i with
  |zero=>simp at e;subst e;exact⟨_,rfl,x⟩
  |succ i=>simpa using I (by simpa using e)
theorem mem(h:Two R A B)(H:b∈B):∃a,a∈A/\R a b:=by
 obtain⟨i,c⟩:=OW.mp H;obtain⟨a,d,e⟩:=h.at_ c;exact⟨a,Nc d,e⟩
theorem flip(h:Two R A B):Two (λb a=>R a b) B A:=by
 induction h with
 |nil=>exact .nil
 |cons x _ i=>exact .cons x i
end Two
theorem jF(h:n<=9000):n<=sizeLine:=by rw[O7];lia
def wz(w:NF)(h:N_)(S:M0)(s:Oh (Int×J'))(x:Int×J')(h':N_):Prop:=
 QC S h h'/\∃e E,SetAt w h' S e E/\e.toList.Perm (s.toList++[x])
theorem stored{h:N_}{S:M0}{o:Obj}{s e:Oh (Int×J')}{E:Nat}{t t':SetTable}(a:h.get? S=B' o)(H:o.data=.set s E t):
  (h.update S<|X' e t').get? S=B' {o with data:=.set e (E+1) t'}:=by
 have z:=Qf (X' e t') a (by rw[putSet_of e t' H];rfl)
 rwa [putSet_of e t' H]at z
theorem sL(e:Oh (Int×J'))(p:Nat)(x:Int×J'):(Qr e p x).toList.Perm (e.toList++[x]):=by
 have:=S2 e p x
 rwa [RH]at this
theorem o5(T:PT t (e_ s))(h:Fl s.size):∃E a,relayAll t s (grown s.size)=(E,a,MW)/\a.led=t.led/\E.toList.Perm s.toList/\TT a (e_ E):=by
 obtain⟨a,r,e,b,c,d,g,A⟩:=nJ T h;refine⟨r.filterMap (s[·]?),a,?_,b,d,A⟩;unfold relayAll;rw[e];have C:coversAll r s.size=true:=by
  unfold coversAll;exact List.isPerm_iff.mpr c
 have f:=eO A.toPT;simp only[C,f,XW,Ss]
theorem A0{S:M0}{u:gV Int}{Q:Nf->M3->Prop}(L:(QN p w).is n x=MX)(hS:SetAt w s.heap S c M)
  (B:Two (λk (e:Int×J')=>(QN p w).is k e.2=MX/\e.1=(QN p w).hash k) u c.toList) (hn:c.size<=2099)
  (ZH:n∈u->Q MW s) (f:n∉u->∀h',wz w s.heap S c ((QN p w).hash n,x) h'->Q MX {s with heap:=h'}):
  wpAny (ND p w) A (Ux S x<|(QN p w).hash n) Q E s:=by
 obtain⟨o,t,r,g,y,T,hl⟩:=hS;have N:=eO T.toPT;have O:∀k v,(QN p w).is k v=MX->v.scannable=MX/\plainKind v=true:=λk v h=>by
  obtain⟨t',rfl⟩:=QV h;exact⟨rfl,rfl⟩
 have l:ElemsOf (QN p w) c.toList:=λe C=>by
  obtain⟨k,_,H,h2⟩:=B.mem C;exact⟨⟨k,H,h2⟩,(O k e.2 H).1⟩
 obtain⟨i,ZG⟩:=O n x L;unfold Ux T2;refine OY<|G'<|Pe r y N ?_;dsimp only;rw[byScan_of i (by unfold scanBound;lia) l];simp only[↓OU];unfold setAddByScan;refine G'<|G'<|QK<|G'<|wpAny_setScan_of L r y N l ?_;cases U:List.findIdx? (λe=>(QN p w).is n e.2) c.toList with
 |some j=>
  dsimp only;refine M9<|M9<|ZH ?_;obtain⟨hj,D,_⟩:=List.findIdx?_eq_some_iff_getElem.mp U;obtain⟨k,G,H,_⟩:=B.mem<|PB hj;have:n=k:=(QN p w).inj _ _ _ D H;rw[this];exact G
 |none=>
  dsimp only;have Z:n∉u:=λhm=>by
   obtain⟨e,C,H,_⟩:=B.flip.mem hm;have:=List.findIdx?_eq_none_iff.mp U e C;rw[H]at this;cases this
  obtain⟨a,b,eL,P,m,W,I,X⟩:∃a b,layNew t c ((QN p w).hash n) x=(a,b,MW,MW)/\PT b (e_ a)/\a.toList.Perm (c.toList++[((QN p w).hash n,x)])/\b.led=(!bp w)/\b.mask=t.mask/\a.size=c.size+1:=by
   obtain⟨j,f1,f2,f3,f4⟩:=o4 T.tab<|(QN p w).hash n;obtain⟨p1,P,X,p4⟩:=pQ (x:=x) T f2 f3 f4;refine⟨_,_,?_,P,sL _ _ _,hl,rfl,X⟩;unfold layNew;rw[f1];simp only[p1];have z:=eO P;unfold SetTable.orStandIn;simp[z]
  rw[eL];dsimp only;refine G'<|M9 ?_;rw[P.plain];simp only[↓OU];rw[hashByValue_scannable 8 i,ZG];refine G'<|M9 ?_;simp only[↓OU,Xl,Q1];refine G' (SY r y ?_<|jF<|by lia);have J:=stored (e:=a) (t':=b) r y;have q:=O8 s.heap S<|X' a b;cases F:b.tooFull with
  |false=>
   simp only[NQ,↓OU];refine M9<|M9<|f Z _ ⟨q,a,M+1,⟨_,b,J,g,rfl,sJ P F (by rw[eJ];lia),W⟩,m⟩
  |true=>
   simp only[↓OU];have h5:Fl a.size:=by
    have:=wv P F (by rw[eJ];lia) (by
     have:=T.small;rw[eJ,<-I]at this;rw[eJ];lia)
    rwa [eJ]at this
   obtain⟨d,Y,r1,r2,r3,r4⟩:=o5 P h5;rw[r1];dsimp only;have l2:d.size=a.size:=by
    have:=r3.length_eq;simp at this;lia
   refine G' (M9<|G'<|SY J rfl ?_<|jF<|by lia);have g2:=stored (e:=d) (t':=Y) J rfl;refine M9<|M9<|f Z _ ⟨q.trans (O8 ..),d,M+1+1,⟨_,Y,g2,g,rfl,r4,by rw[r2];exact W⟩,r3.trans m⟩
end SW
namespace SW
open PySem PySem.SetTable TB
abbrev TK(p:Nm)(w:NF)(h:N_)(k:gV Int)(a:M0):Prop:=IsTupleKey (QN p w) h k a
theorem jG(h:ItemsAre (QN p w) k s):∀v∈s,∃n t,v=Rr n t:=by
 induction h with
 |nil=>intro v H;simp at H
 |cons a _ i=>
  intro v H;obtain rfl|H:=Nz.mp H
  ·obtain⟨t,rfl⟩:=QV a;exact⟨_,t,rfl⟩
  exact i v H
theorem pS(k:TK p w s.heap g a)(h:Q MW s):wpAny (ND p w) A (Vg 8<|.ref a) Q E s:=by
 have hT:=k.typeIs;obtain⟨o,i,n,d,_,e,f⟩:=k;unfold Vg;refine G'<|RY hT ?_;simp only[RX,↓OU];refine G'<|M9 ?_;simp only[VH,NQ,↓OU];refine G'<|RL d e ?_;refine G' ?_;show wpAny _ _ (forIn i _ _) _ _ s
 rw[<-SH];refine VM _ (λq r b=>r.1=M5/\b=s/\∀v∈q,∃n t,v=Rr n t) _ ?_ ?_ _ _ ⟨rfl,rfl,jG f⟩
 ·rintro v q r b ⟨H,rfl,U⟩;obtain⟨m,t,rfl⟩:=U v Nl;refine G' (m:=Vg 7<|.int m t)<|M9 ?_;exact M9 ⟨rfl,rfl,λu c=>U u<|Nk _ c⟩
 rintro⟨j,l⟩ b ⟨H,rfl,_⟩;simp only at H;subst H;exact M9 h
theorem A1(k:TK p w s.heap g a)(h:Q MX s):wpAny (ND p w) A (Zy 8<|.ref a) Q E s:=by
 have hT:=k.typeIs;obtain⟨o,i,n,d,_,e,f⟩:=k;unfold Zy;refine G'<|Wx hT F.slot_tuple_hash.lookup ?_;show wpAny _ _ (Y' (.ref a) >>=_) _ _ s
 refine G'<|RL d e ?_;refine G' ?_;show wpAny _ _ (forIn i _ _) _ _ s
 rw[<-SH];refine VM _ (λq r b=>r.1=M5/\b=s/\∀v∈q,∃n t,v=Rr n t) _ ?_ ?_ _ _ ⟨rfl,rfl,jG f⟩
 ·rintro v q r b ⟨H,rfl,U⟩;obtain⟨m,t,rfl⟩:=U v Nl;refine G' (m:=Zy 7<|.int m t)<|M9 ?_;exact M9 ⟨rfl,rfl,λu c=>U u<|Nk _ c⟩
 rintro⟨j,l⟩ b ⟨H,rfl,_⟩;simp only at H;subst H;exact M9 h
theorem A2(f:TK p w s.heap l a)(i:∀y∈st,∃b k,y=N9 b/\TK p w s.heap k b)(h:Q MW s):
  wpAny (ND p w) A (YA (.ref a) st) Q E s:=by
 unfold YA;refine G' ?_;refine VM _ (λq r c=>r.1=M5/\c=s/\∀y∈q,∃b k,y=N9 b/\TK p w s.heap k b) _ ?_ ?_ _ _ ⟨rfl,rfl,i⟩
 ·rintro v q r c ⟨d,rfl,U⟩;obtain⟨b,k,rfl,g⟩:=U v Nl;dsimp only;by_cases e:(a == b)=MX
  ·simp only[e,YY,↓OU];exact M9 ⟨rfl,rfl,λu H=>U u<|Nk _ H⟩
  have j:(a == b)=false:=by simpa using e
  simp only[j,carriedByValue,XW,Bool.or_self,NQ,↓OU];refine G'<|WJ f ?_;simp only[VH,NQ,↓OU];refine G'<|WJ g ?_;simp only[VH,NQ,↓OU];refine G'<|pS f ?_;simp only[NQ,↓OU];refine G'<|pS g ?_;simp only[NQ,↓OU];exact M9 ⟨rfl,rfl,λu H=>U u<|Nk _ H⟩
 rintro⟨m,n⟩ c ⟨d,rfl,_⟩;simp only at d;subst d;exact M9 h
noncomputable abbrev hT(p:Nm)(w:NF)(k:gV Int):Int:=tupleKeyHash (QN p w) k
def RT(p:Nm)(w:NF)(h:N_)(k:gV Int)(e:Int×J'):Prop:=e.1=hT p w k/\∃a,e.2=.ref a/\TK p w h k a
theorem lE{S a:M0}{d:Oh (Int×J')}{ep:Nat}{t:SetTable}{o:Obj}{U:gV (gV Int)}{k:gV Int}{Q:SetFound->M3->Prop}(hu:A.units<QT)
  (Z:s.heap.get? S=B' o) (hd:o.data=.set d ep t) (T:TT t (e_ d)) (H:Two (RT p w s.heap) U d.toList) (hk:TK p w s.heap k a)
  (P:k∈U->Q (.there M5) s) (J:k∉U->∀j,j8 t j=MW->j<=t.mask->Path (j8 t) t.mask (hT p w k) j->Q (.free j MW) s)
  (K:Nat) (D:j8 t (cq t.mask K<|start t.mask<|hT p w k).j=MW):
  ∀(n f c:Nat) (u:MZ Sk),K-c=n->n<f->u.getD (start t.mask<|hT p w k)=cq t.mask c (start t.mask<|hT p w k)->
   (∀l,l<c->∃i:Nat,t.place[i]?=B' (cq t.mask l<|start t.mask<|hT p w k).j/\U[i]?≠B' k)->
   wpAny (ND p w) A (F' S (.ref a) (hT p w k) MX f u) Q E s
 |n,0,c,u,hn,hf,_,_=>absurd hf (by lia)
 |n,f+1,c,u,hn,hf,Y2,Uu=>by
  have L:=eO T.toPT;have az:c<=K:=by
   obtain g|g:=Pz K c
   ·obtain⟨i,h,_⟩:=Uu K g;rw[eX.mpr ⟨i,h⟩]at D;cases D
   exact g
  have M:t.place.size=d.size:=by rw[T.len,eJ]
  have N:∀(i:Nat) (e:Int×J'),d[i]?=B' e->∃B,U[i]?=B' B/\RT p w s.heap B e:=λi e he=>H.at_ (by rw[NZ];exact he);obtain⟨r,m,h1,h2,h3⟩:=nG T.tab (λi=>(d[i]?.map (·.1)).getD 0) (hT p w k)<|iK c<|fw t.mask<|hT p w k;have v:∀l,l<c+m->∃i:Nat,t.place[i]?=B' (cq t.mask l<|start t.mask<|hT p w k).j/\U[i]?≠B' k:=λl hl=>by
   obtain g|g:=Pz l c
   ·exact Uu l g
   obtain⟨i,h,O⟩:=h2 (l-c) (by lia);rw[<-cX,show c+(l-c)=l by lia]at h;refine⟨i,h,λz=>O ?_⟩;have W:i<d.size:=by rw[<-M];exact(OL.mp h).1
   obtain⟨B,C,Y⟩:=N i d[i]<|Ov W;rw[z]at C;have:k=B:=Nw C;subst this;rw[Ov W];exact Y.1
  have gw:t.gaveWay=false:=by
   unfold SetTable.gaveWay;obtain e|e|e|e|e|e:=T.tab.mask<;>rw[e]<;>rfl
  unfold F';refine G'<|Pe Z hd L ?_;dsimp only;rw[gw];simp only[NQ,↓OU];have ab:t.probe (λi=>(d[i]?.map (·.1)).getD 0) (hT p w k) (u.getD<|t.probeStart<|hT p w k)=B' r:=by
   rw[sE,Y2];exact h1
  erw [ab]
  dsimp only;obtain⟨rfl,X⟩|⟨i,h,hh,rfl⟩:=h3
  ·dsimp only;rw[<-cX]at X;have ZI:k∉U:=λhm=>by
    obtain⟨i,h⟩:=OW.mp hm;have W:i<d.size:=by
     have:=(M'.mp h).1;have:=H.len;simp at this;lia
    obtain⟨B,C,Y⟩:=N i d[i]<|Ov W;rw[h]at C;have:k=B:=Nw C;subst this;have hp:t.place[i]?=B' t.place[i]:=Ov (by lia);have ac:(e_ d)[i]?=B' (hT p w k):=by
     unfold e_;rw[Nu,NZ,Ov W];simp[Y.1]
    obtain⟨q,F,an⟩:=T.reach i (hT p w k) _ ac hp;obtain g|g:=Pz q (c+m)
    ·obtain⟨i2,x,O⟩:=v q g;rw[F]at x;have:=(nA T.tab.up x).symm.trans<|nA T.tab.up hp;rw[this]at O;exact O h
    obtain g|g:=SF g
    ·rw[<-g]at F;rw[F,eX.mpr ⟨i,hp⟩]at X;cases X
    have:=an (c+m) g;rw[X]at this;cases this
   have z:=J ZI _ X (Kw<|iK _<|fw _ _) ⟨c+m,rfl,λl hl=>by
    obtain⟨i,h,_⟩:=v l hl;exact eX.mpr ⟨i,h⟩⟩
   rw[cX]at z;exact M9 z
  dsimp only;have W:i<d.size:=by rw[<-M];exact(OL.mp h).1
  have G:d[i]?=B' d[i]:=Ov W;obtain⟨B,C,Y,b,e3,e4⟩:=N i d[i] G;have aC:c+m<K:=by
   obtain g|g|g:=PM (c+m) K
   ·exact g
   ·rw[<-cX,g]at h;rw[eX.mpr ⟨i,h⟩]at D;cases D
   obtain⟨i2,x,_⟩:=v K g;rw[eX.mpr ⟨i2,x⟩]at D;cases D
  cases aF:t.led
  case' false=>
   simp only[Xl,↓OU];refine G'<|A2 hk (λy hy=>?_) ?_
   simp only[NV,QY,Array.mem_filter]at hy;obtain⟨e,⟨he,_⟩,rfl⟩:=hy;obtain⟨k2,_,_,b2,q1,q2⟩:=H.mem<|QY.mpr he;exact⟨b2,k2,q1,q2⟩
  all_goals
   simp only[VH,NQ,↓OU];rw[G];dsimp only;refine G'<|OY ?_;rw[e3];refine wpAny_eqBool_tuple hu e4 hk ?_;refine G'<|Pe Z hd L ?_;dsimp only;by_cases I:B=k
   ·subst I;rw[Ng rfl];simp only[XW,↓OU];exact M9<|P<|Nc C
   rw[M6 I];simp only[PV,NQ,↓OU];have as:t.sameMemory t.moves t.mask=B' true:=by
    unfold SetTable.sameMemory;simp
   rw[as];dsimp only;rw[pJ T.tab h];simp only[↓OU];rw[G];dsimp only;rw[e3];refine G' ?_;unfold isSame;simp only[RX,↓OU];refine M9 (G'<|M9 ?_)
   try dsimp only
   try simp only[NQ,↓OU]
   rw[<-cX];refine lE hu Z hd T H hk P J K D (K-(c+(m+1))) f (c+(m+1)) _ rfl (by lia) rfl λl hl=>?_;obtain g|g:=Pz l (c+m)
   ·exact v l g
   have:l=c+m:=by lia
   subst this;rw[cX];exact⟨i,h,λz=>by
    rw[C]at z;exact I (Nw z).symm.symm⟩
section
theorem uK{S:M0}{Q:Vx->M3->Prop}(H:s.heap.get? S=B' o)(x:o.ExactSet)(d:o.data=.set a f t)(T:PT t (e_ a))(n:Fl a.size)(l:t.led=!bp w)
  (h:∀h' b,QC S s.heap h'->SetAt w h' S b (f+1)->b.toList.Perm a.toList->Q () {s with heap:=h'}):wpAny (ND p w) A (setRelay S<|grown a.size) Q E s:=by
 have g:=eO T;obtain⟨c,r,e,i,q,j,k,m⟩:=nJ T n;unfold setRelay;refine G'<|Pe H d g ?_;dsimp only;rw[Np (by obtain e|e|e|e|e:=n<;>rw[e]<;>decide+kernel)];refine G' ?_;rw[e];show wpAny _ _ (if((r.filterMap (a[·]?)).size != a.size)=MX then _ else _) _ _ _
 rw[k,Np<|by simp];refine M9 ?_;show wpAny _ _ (storeSet S (r.filterMap (a[·]?)) c) _ _ _
 refine SY H d ?_ (jF<|by unfold Fl at n;lia);exact h _ _ (O8 ..) ⟨_,c,stored H d,x,rfl,m,by rw[i];exact l⟩ j
theorem wA{S a:M0}{u:gV (gV Int)}{k:gV Int}{Q:Nf->M3->Prop}(L:A.units<QT)(M:SetAt w s.heap S d N)
  (n:Two (RT p w s.heap) u d.toList) (hn:d.size<=2099) (B:TK p w s.heap k a) (O:k∈u->Q MW s) (f:k∉u->∀h',wz w s.heap S d (hT p w k,.ref a) h'->Q MX {s with heap:=h'}):
  wpAny (ND p w) A (Ux S (.ref a)<|hT p w k) Q E s:=by
 obtain⟨o,t,h,H,g,T,q⟩:=M;have C:=eO T.toPT;obtain⟨e,U,X⟩:=pK T.tab;obtain⟨K,D,W⟩:=ly T.tab.mask (fw t.mask<|hT p w k) U;have r:K<100000:=by
  unfold i6 at D;obtain z|z|z|z|z|z:=T.tab.mask<;>rw[z]at D<;>lia
 unfold Ux T2;refine OY<|G'<|Pe h g C ?_;dsimp only;have v:byScan (.ref a) d=false:=by simp[byScan,Value.scannable]
 rw[v];simp only[NQ,↓OU];unfold setSearch;refine G' (lE L h g T n B (λY=>?_) (λZ j f2 f3 f4=>?_) K (by rw[W];exact X) K 100000 0 M5 (by lia) r rfl λl q=>absurd q<|by lia)
 ·dsimp only;exact M9<|O Y
 dsimp only;obtain⟨b,c,e1,e2,P,m,I,x,G⟩:∃b c,(t.put j).1=c/\Qr d (t.put j).2 (hT p w k,.ref a)=b/\PT c (e_ b)/\b.toList.Perm (d.toList++[(hT p w k,.ref a)])/\c.led=(!bp w)/\c.mask=t.mask/\b.size=d.size+1:=by
  obtain⟨p1,P,G,p4⟩:=pQ (x:=.ref a) T f2 f3 f4;rw[p1];exact⟨_,_,rfl,rfl,P,sL _ _ _,q,rfl,G⟩
 refine G'<|Pe h g C ?_;dsimp only;rw[e1,e2,P.plain];simp only[↓OU];refine G'<|A1 B ?_;simp only[↓OU,Xl,Q1];refine G' (SY h g ?_<|jF<|by lia);have J:=stored (e:=b) (t':=c) h g;have i:=O8 s.heap S<|X' b c;cases F:c.tooFull with
 |false=>
  simp only[NQ,↓OU];exact M9<|f Z _ ⟨i,b,N+1,⟨_,c,J,H,rfl,sJ P F (by rw[eJ];lia),I⟩,m⟩
 |true=>
  simp only[↓OU];have h5:Fl b.size:=by
   have:=wv P F (by rw[eJ];lia) (by
    have:=T.small;rw[eJ,<-x]at this;rw[eJ];lia)
   rwa [eJ]at this
  rw[show d.size+1=b.size by lia];refine G'<|uK J H rfl P h5 I λh' y q1 q2 q3=>M9 ?_;exact f Z _ ⟨i.trans q1,y,_,q2,q3.trans m⟩
structure Kind (prog:Nm)(w:NF)(κ:Type) where
 is:N_->κ->J'->Prop
 hash:κ->Int
 room:Ou->Prop
 keep:∀{h h':N_} {k:κ} {v:J'},is h k v->(∀b o,h.get? b=B' o->o.cls≠.type "set"->o.cls≠.type "list_iterator"->h'.get? b=B' o)->is h' k v
 pyHash:∀{A:Ou} {E:J'->M3->Prop} {s:M3} {k:κ} {v:J'} {Q:Int->M3->Prop},room A->is s.heap k v->(∀tk,Q (hash k) {s with toks:=tk})->wpAny (ND prog w) A (PySem.pyHash v) Q E s
 add:∀{A:Ou} {E:J'->M3->Prop} {s:M3} {S:M0} {es:Oh (Int×J')} {ep:Nat} {us:gV κ} {k:κ} {v:J'} {Q:Nf->M3->Prop},room A->SetAt w s.heap S es ep->
  Two (λk (e:Int×J')=>e.1=hash k/\is s.heap k e.2) us es.toList->es.size<=2099->is s.heap k v->(k∈us->Q MW s)->(k∉us->∀h',wz w s.heap S es (hash k,v) h'->Q MX {s with heap:=h'})->
  wpAny (ND prog w) A (Ux S v<|hash k) Q E s
noncomputable def intK(p:Nm)(w:NF):Kind p w Int where
 is:=λ_ k v=>(QN p w).is k v=MX
 hash:=(QN p w).hash
 room:=λ_=>True
 keep:=λh _=>h
 pyHash:=λ_ h q=>(QN p w).pyHash h (q _)
 add:=λ_ H u n a o b=>A0 a H (u.imp λ_ _ z=>⟨z.2,z.1⟩) n o b
noncomputable def Kx(p:Nm)(w:NF):Kind p w (gV Int) where
 is:=λh k v=>∃a,v=.ref a/\TK p w h k a
 hash:=hT p w
 room:=λA=>A.units<QT
 keep:=λ⟨a,e,o,i,n,H,c,r⟩ f=>⟨a,e,o,i,n,f a o H (by rw[c];decide) (by rw[c];decide),c,r⟩
 pyHash:=λu ⟨a,e,h⟩ q=>by subst e;exact wpAny_pyHash_tuple u h (q _)
 add:=λ{A E s S m t U k v Q} u g b j d H l=>by
  obtain⟨a,rfl,d⟩:=d;exact wA u g b j d H l
variable {κ:Type}
def Holds(C:Kind p w κ)(h:N_)(S:M0)(u:gV κ):Prop:=∃E a,SetAt w h S E a/\Two (λk (e:Int×J')=>e.1=C.hash k/\C.is h k e.2) u E.toList/\u.Nodup
end
section
variable {κ:Type}
theorem sM{C:Kind P w κ}{h h':N_}{S:M0}{E:Oh (Int×J')}{U:gV κ}{k:κ}{v:J'}{o:Obj}(j:h.get? S=B' o)(l:o.cls=.type "set")(H:Two (λk (e:Int×J')=>e.1=C.hash k/\C.is h k e.2) U E.toList)(n:U.Nodup)(m:C.is h k v)(Z:k∉U)(c:wz w h S E (C.hash k,v) h'):
  ∃u,Holds C h' S u/\(∀z,z∈u↔z∈U\/z=k)/\u.length=U.length+1:=by
 obtain⟨s,d,f,t,r⟩:=c;have i:∀{k:κ} {v:J'},C.is h k v->C.is h' k v:=λz=>C.keep z λb O g y _=>(s.2 b λe=>y<|by rw[e,j]at g;rw[<-Nw g];exact l).trans g;have z:Two (λk (e:Int×J')=>e.1=C.hash k/\C.is h' k e.2) (U++[k]) (E.toList++[(C.hash k,v)]):=(H.imp λ_ _ q=>⟨q.1,i q.2⟩).app<|.cons ⟨rfl,i m⟩ .nil;obtain⟨u,p,A⟩:=Two.perm r.symm z;refine⟨u,⟨d,f,t,A,p.nodup_iff.mp ?_⟩,λx=>?_,?_⟩
 ·rw[Pg];exact⟨n,by simp,λa c b B=>by
   rw[Nd.mp B];exact λe=>Z<|e▸c⟩
 ·rw[<-p.mem_iff,NB,Nd]
 rw[<-p.length_eq,M7];rfl
theorem A3(C:Kind p w κ)(y:C.room A.in1)(hh:A.in1.handled=M5){B:N_}{I S l:M0}{a:Oh J'}{D:gV κ}(ab:l≠I)(h:S≠I)(ac:S≠l)(hn:a.size<=2100)(a0:D.length=a.size)
  (an:∀o,B.get? S=B' o->o.cls=.type "set") (F:∀o,B.get? I=B' o->o.cls=.type "list_iterator") (as:∀(i:Nat) (v:J'),a[i]?=B' v->∃k,D[i]?=B' k/\C.is B k v) {R:X_->M3->Prop}:
  ∀(m i:Nat) (s:M3) (u:gV κ),a.size-i=m->i<=a.size->s.heap.IsListIter I l i->s.heap.IsList l a->Holds C s.heap S u->(∀z,z∈u↔z∈D.take i)->u.length<=i->
   (∀b o,b≠S->b≠I->B.get? b=B' o->s.heap.get? b=B' o)->
   (∀h' N G,Holds C h' S G->(∀z,z∈G↔z∈D)->(∀b o,b≠S->b≠I->B.get? b=B' o->h'.get? b=B' o)->R (.ok<|.ret .none) {s with heap:=h',toks:=N})->
   codeAny (ND p w) A (.builtin "set.update.loop" ⟨[.ref S,.ref I],[]⟩) R s:=by
 have W:=Wa (prog:=p) (w:=w) (A:=A.in1) hh I l ab a;intro m
 induction m with
 |zero=>
  intro i s u hm hi c Q2 ZH f Pd X O;have e:i=a.size:=by lia
  subst e;refine PY R9 ?_;rw[Pu PJ _];refine G' (m:=Ts<|.ref I)<|W.done s _ _ ⟨c,Q2⟩ λh' N hk=>M9 ?_;have T:∀b o,b≠I->s.heap.get? b=B' o->h'.get? b=B' o:=λb o hb e=>hk b o (by simpa using hb) e;refine O h' N u ?_ (λz=>by rw[f,Nn<|by lia]) λb o n H e=>T b o H<|X b o n H e;obtain⟨r,P,a1,a2,Q⟩:=ZH;refine⟨r,P,a1.keep λo e=>T S o h e,a2.imp λ_ _ q=>⟨q.1,C.keep q.2 λb o E _ x=>T b o (λz=>?_) E⟩,Q⟩;subst z;obtain⟨o',g1,g2,_⟩:=c;rw[g1]at E;exact x (by rw[<-Nw E];exact g2)
 |succ m ih=>
  intro i s u hm hi c Q2 ZH f Pd X O;have Q3:i<a.size:=by lia
  refine PY R9 ?_;rw[Pu PJ _];refine G' (m:=Ts<|.ref I)<|W.item i s _ _ Q3 ⟨c,Q2⟩ λv h' N hv Z hk=>?_;have T:∀b o,b≠I->s.heap.get? b=B' o->h'.get? b=B' o:=λb o hb e=>hk b o (by simpa using hb) e;obtain⟨k,az,aC⟩:=as i v hv;have Y:C.is h' k v:=C.keep aC λb o E e2 x=>T b o (λz=>x<|F o<|z▸E)<|X b o (λz=>e2<|an o<|z▸E) (λz=>x<|F o<|z▸E) E;obtain⟨r,P,a1,a2,Q⟩:=ZH;have g:SetAt w h' S r P:=a1.keep λo e=>T S o h e;have d:Two (λk (e:Int×J')=>e.1=C.hash k/\C.is h' k e.2) u r.toList:=a2.imp λ_ _ q=>⟨q.1,C.keep q.2 λb o E _ x=>T b o (λz=>by
   subst z;obtain⟨o',g1,g2,_⟩:=c;rw[g1]at E;exact x<|by rw[<-Nw E];exact g2) E⟩
  have a4:u.length=r.size:=by
   have:=d.len;simpa using this
  have J:∀z,z∈D.take (i+1)↔z∈u\/z=k:=λz=>by
   rw[Oc,az,NB,f];simp
  refine G'<|OY ?_;unfold setAdd;refine OY<|G'<|C.pyHash y Y λt=>?_;refine C.add (s:={s with heap:=h',toks:=t}) y g d (by lia) Y (λUi=>?_) λZI H L=>?_
  ·refine M9 ⟨QF PJ _,ih (i+1) {s with heap:=h',toks:=t} u (by lia) Q3 Z.1 Z.2 ⟨r,P,g,d,Q⟩ (λz=>?_) (by lia) (λb o n H e=>T b o H<|X b o n H e) λh3 j U b1 b2 b3=>O h3 j U b1 b2 b3⟩;rw[J];exact⟨.inl,λq=>q.elim id λe=>e▸Ui⟩
  obtain⟨o',t',o1,o2,_⟩:=id g;obtain⟨aF,c1,c2,c3⟩:=sM o1 o2.1 d Q Y ZI L;have sb:=L.1;refine M9 ⟨QF PJ _,ih (i+1) {s with heap:=H,toks:=t} aF (by lia) Q3 ?_ ?_ c1 (λz=>by rw[J,c2]) (by lia) (λb o n M e=>(sb.2 b n).trans<|T b o M<|X b o n M e) λh3 j U b1 b2 b3=>O h3 j U b1 b2 b3⟩
  ·exact Z.1.at λo e=>(sb.2 I λz=>h z.symm).trans e
  exact Z.2.at λo e=>(sb.2 l λz=>ac z.symm).trans e
end
section
variable {κ:Type}
theorem EY(a:J')(h:Q (.ref s.heap.objs.size) {s with heap:=s.heap.push {cls:=.type "set",dict:=M5,data:=.set #[] 0<|.fresh 0 0 (!bp w)}}):
  codeAny (ND p w) A (.call (.builtin "set.__new__") ⟨[.type "set",a],[]⟩) (wants Q E) s:=by
 refine ZO<|G' (m:=VR "set.__new__" ⟨[.type "set",a],[]⟩)<|Zw (F.newCall_set_1 a)<|M9 ⟨QF ZS _,PY F.entry_set_new ?_⟩;rw[Pu ZS _];unfold Builtin.«set.__new__»;refine G' ?_;have H:wpAny (ND p w) A.in1 (UZ "set" ⟨[.type "set",a],[]⟩) (λr b=>r=(.type "set",[a])/\b=s) E s:=by
  unfold UZ;have c:=sub_set_self
  wp_walk
  exact⟨rfl,rfl⟩
 refine OS H (λr b z=>?_) λe b z=>z;obtain⟨rfl,rfl⟩:=z;refine G' ?_;unfold newSet;refine G'<|fL ?_;simp only[newObj];refine G'<|wpAny_alloc<|M9 ?_;exact M9 h
theorem call_set(C:Kind p w κ)(x:C.room A.in1.in1.in1)(hh:A.handled=M5){l:M0}{I:Oh J'}{g:gV κ}{Q:J'->M3->Prop}(hl:s.heap.IsList l I)(hn:I.size<=2100)(y:g.length=I.size)
  (B:∀(i:Nat) (v:J'),I[i]?=B' v->∃k,g[i]?=B' k/\C.is s.heap k v)
  (h:∀(h':N_) (t:Nat) (u:gV κ),Holds C h' s.heap.objs.size u->(∀z,z∈u↔z∈g)->(∀b o,s.heap.get? b=B' o->h'.get? b=B' o)->Q (.ref s.heap.objs.size) {s with heap:=h',toks:=t}):
  wpAny (ND p w) A (call (.type "set") [.ref l]) Q E s:=by
 obtain⟨c,tl,ab⟩:=F.called_set.mro;have ac:=F.called_set.made;have an:=F.called_set.sub;refine XY<|ZO ?_;show wpAny _ _ (callAny (.type "set") _) _ _ _
 refine M9 ⟨Yc _ (by decide+kernel),PY F.entry_type_call ?_⟩;rw[Around.under_plain (weight_type_call_type "set" [.ref l] []) rfl];have h1:=F.called_set.notType;have h2:=F.called_set.canCreate;have as:=F.typeCall_set_1 (.ref l)
 repeat any_goals first|assumption|wp_step
 refine RZ (EY (.ref l) (E:=E) (Q:=λO a=>O=.ref s.heap.objs.size/\a={s with heap:=s.heap.push ({cls:=.type "set",dict:=M5,data:=.set #[] 0<|.fresh 0 0 (!bp w)}:Obj)}) ⟨rfl,rfl⟩) λr a D=>?_;cases r with
 |error e=>exact D
 |ok fl=>
  cases fl with
  |ret O=>
   obtain⟨rfl,rfl⟩:=D;have U:(s.heap.push ({cls:=.type "set",dict:=M5,data:=.set #[] 0<|.fresh 0 0 (!bp w)}:Obj)).get? s.heap.objs.size=B' ({cls:=.type "set",dict:=M5,data:=.set #[] 0<|.fresh 0 0 (!bp w)}:Obj):=NL _ rfl;have hT:y4 {s with heap:=s.heap.push ({cls:=.type "set",dict:=M5,data:=.set #[] 0<|.fresh 0 0 (!bp w)}:Obj)} (.ref s.heap.objs.size) "set":=⟨_,U,rfl⟩;have az:=F.called_set.init.lookup;have aC:=F.called_set.init.bind (.ref s.heap.objs.size)
   repeat any_goals first|assumption|wp_step
   refine RZ (T3 (R:=wants (λr d=>r=.none/\∃h' t u,d={s with heap:=h',toks:=t}/\Holds C h' s.heap.objs.size u/\(∀z,z∈u↔z∈g)/\(∀b o,s.heap.get? b=B' o->h'.get? b=B' o)) E) F.called_set.init.plain F.entry_set_init<|check_set_init_1 hT ?_) λj d H=>?_
   ·obtain⟨ol,m,W,X,n⟩:=hl;obtain⟨aF,P,a0,G⟩:=ol;simp only at W n;subst W n;have J:(s.heap.push ({cls:=.type "set",dict:=M5,data:=.set #[] 0<|.fresh 0 0 (!bp w)}:Obj)).get? l=B' {cls:=.type "list",dict:=P,data:=.seq I X,slots:=G}:=Nb _ m;have a1:=F.sub_list_set;have a2:=F.sub_list_frozenset;have Tf:(Rh "list" == Rh "dict")=false:=by decide
    have Y:(s.heap.push ({cls:=.type "set",dict:=M5,data:=.set #[] 0<|.fresh 0 0 (!bp w)}:Obj)).IsList l I:=⟨_,J,rfl,X,rfl⟩;have q:l<s.heap.objs.size:=Nx m;have L:(s.heap.push ({cls:=.type "set",dict:=M5,data:=.set #[] 0<|.fresh 0 0 (!bp w)}:Obj)).objs.size=s.heap.objs.size+1:=by rw[Q9]
    unfold Builtin.«set.__init__» noKeywords ZU;generalize M:WZ=PI
    wp_walk
    subst M;refine Rz Y<|G'<|wpAny_runValue ?_;have Z:((s.heap.push ({cls:=.type "set",dict:=M5,data:=.set #[] 0<|.fresh 0 0 (!bp w)}:Obj)).push {cls:=.type "list_iterator",data:=.fields #[.ref l,.int 0 0]}).get? s.heap.objs.size=B' ({cls:=.type "set",dict:=M5,data:=.set #[] 0<|.fresh 0 0 (!bp w)}:Obj):=Nb _ U;have g2:((s.heap.push ({cls:=.type "set",dict:=M5,data:=.set #[] 0<|.fresh 0 0 (!bp w)}:Obj)).push {cls:=.type "list_iterator",data:=.fields #[.ref l,.int 0 0]}).get? (s.heap.push ({cls:=.type "set",dict:=M5,data:=.set #[] 0<|.fresh 0 0 (!bp w)}:Obj)).objs.size=B' {cls:=.type "list_iterator",data:=.fields #[.ref l,.int 0 0]}:=NL _ rfl;refine A3 C x (by simp[hh]) (B:=(s.heap.push ({cls:=.type "set",dict:=M5,data:=.set #[] 0<|.fresh 0 0 (!bp w)}:Obj)).push {cls:=.type "list_iterator",data:=.fields #[.ref l,.int 0 0]}) (l:=l) (a:=I) (D:=g) (by rw[L];exact NK<|PN q) (by rw[L];exact NK<|V2 _) (Rj q) hn y (λo e=>?_) (λo e=>?_) (λi v hv=>?_) (I.size-0) 0 _ [] rfl (NA _) ⟨_,g2,rfl,rfl⟩ (Y.push _) ⟨#[],0,⟨({cls:=.type "set",dict:=M5,data:=.set #[] 0<|.fresh 0 0 (!bp w)}:Obj),_,Z,⟨rfl,rfl,rfl⟩,rfl,AU _,rfl⟩,.nil,RU⟩ (λz=>by simp) (Na _) (λb o _ _ e=>e) λh' t u b1 b2 b3=>?_
    ·rw[Z]at e;rw[<-Nw e]
    ·rw[g2]at e;rw[<-Nw e]
    ·obtain⟨k,q1,q2⟩:=B i v hv;exact⟨k,q1,C.keep q2 λb o e _ _=>Nb _<|Nb _ e⟩
    show wpAny _ _ _ _ _ _
    refine M9 ?_;show wpAny _ _ (ret UU) _ _ _
    refine M9 ⟨rfl,h',t,u,rfl,b1,b2,λb o e=>b3 b o ?_ ?_<|Nb _<|Nb _ e⟩
    ·exact NK<|Nx e
    rw[L];exact NK<|PN<|Nx e
   ·cases j with
    |error e=>exact H
    |ok f=>
     cases f with
     |ret r=>
      obtain⟨rfl,h',t,u,rfl,N,T,TX⟩:=H
      repeat any_goals first|assumption|wp_step
      exact h _ _ u N T TX
     |_=>exact H.elim
  |_=>exact D.elim
end
section
variable {κ:Type}
theorem A4(hT:s.TypeIs (.ref r) "set")(h:Q MW s):wpAny (ND p w) A (UD<|.ref r) Q E s:=by
 unfold UD;refine G'<|Wx hT PySem.F.slot_set_len.lookup ?_;generalize H:("set.__len__":QJ)=i
 wp_delta;rw[show splitId i=B' ("set","__len__")from by subst H;decide+kernel];subst H
 refine G'<|Y8 (T:="set") (b:=MX) hT (by rw[W1];kernel_rfl) ?_;refine ZM (λz=>absurd z<|by decide) λ_=>ZM (λ_=>?_) λz=>absurd (by decide+kernel) z;exact G'<|RY hT<|M9 h
theorem EZ{S:M0}:PySem.W.KdlSrc p w "set" S S E.size (λi v=>∃x,(dQ w S E a)[i]?=B' x/\v=x.2) (λh=>SetAt w h S E a) where
 type:=λ_ H=>H.typeIs
 there:=λ_ H=>⟨H.lt,H.lt⟩
 keep:=λ_ _ H k=>H.keep λo e=>k S (.inl rfl) o e
 notList:=by decide
 notTuple:=by decide
 hint:=λ_ _ _ _ H q=>A4 H.typeIs q
 iter:=λA s b H=>by
  obtain⟨o,t,c,d,f,T,l⟩:=id H;refine⟨_,_,λ_ _ q=>AZ H q,yL b s.heap.objs.size S (NK H.lt) E a,0,o,t,⟨_,NL _ rfl,rfl,rfl⟩,Nb _ c,d,f,T,l,EW T.tab⟩
theorem E1{C:Kind p w κ}{h:N_}{u:gV κ}{l:gV (Int×J')}(t:Two (λk (e:Int×J')=>e.1=C.hash k/\C.is h k e.2) u l):Two (λk v=>C.is h k v) u (l.map (·.2)):=by
 induction t with
 |nil=>exact .nil
 |cons r _ i=>exact .cons r.2 i
theorem collect_set(C:Kind p w κ)(H:A.handled=M5){S:M0}{R:gV J'->M3->Prop}(l:Holds C s.heap S U)(y:U.length<=2100)
  (h:∀h' t g u,(∀b o,s.heap.get? b=B' o->h'.get? b=B' o)->u.Perm U->Two (λk v=>C.is s.heap k v) u g->R g {s with heap:=h',toks:=t}):
  wpAny (ND p w) A (collect<|.ref S) R E s:=by
 obtain⟨d,f,m,j,z⟩:=l;have B:d.size=U.length:=by
  have:=j.len;simp at this;lia
 refine Ur (EZ (p:=p) (w:=w) (S:=S) (E:=d) (a:=f)) H m (jF<|by lia) λh' t Q n a=>?_;obtain⟨u,P,q⟩:=Two.perm (nM w S d f).symm j;refine h h' t Q.toList u n P.symm ?_;have e:Q.toList=(dQ w S d f).toList.map (·.2):=by
  refine RF λi=>?_;rw[Nu,NZ,NZ];cases c:Q[i]? with
  |none=>
   have:Q.size<=i:=Array.getElem?_eq_none_iff.mp c;rw[Td<|by rw[jc,<-a.1];exact this];rfl
  |some v=>
   obtain⟨x,r,rfl⟩:=a.2 i v c;rw[r];rfl
 rw[e];exact E1 q
end
end SW
namespace SW
open PySem TB
theorem Holds.le{p:Nm}{w:NF}{a:Type}{C:Kind p w a}{h:N_}{S:M0}{u:gV a}(x:Holds C h S u):u.length<=2100:=by
 obtain⟨e,E,⟨o,t,_,_,_,T,_⟩,A,_⟩:=x;have H:=A.len;have b:=T.most;rw[eJ]at b;simp at H;lia
theorem Holds.nodup{p:Nm}{w:NF}{a:Type}{C:Kind p w a}{h:N_}{S:M0}{u:gV a}(x:Holds C h S u):u.Nodup:=let ⟨_,_,_,_,n⟩:=x;n
noncomputable def tupL(p:Nm)(w:NF)(L:M0->gV Int->Prop):Kind p w (gV Int) where
 is:=λh k v=>∃a,v=.ref a/\TK p w h k a/\L a k
 hash:=hT p w
 room:=λA=>A.units<QT
 keep:=λ⟨a,e,h,l⟩ f=>by
  obtain⟨m,g,z⟩:=(Kx p w).keep (k:=_) (v:=.ref a) ⟨a,rfl,h⟩ f;cases g;exact⟨a,e,z,l⟩
 pyHash:=λH ⟨a,e,h,_⟩ q=>(Kx p w).pyHash H ⟨a,e,h⟩ q
 add:=λ{A E s S r t u k v Q} H i c n d o j=>by
  obtain⟨a,rfl,d,_⟩:=d;exact wA H i (c.imp λ_ _ z=>⟨z.1,let ⟨b,e,h,_⟩:=z.2;⟨b,e,h⟩⟩) n d o j
end SW
namespace Srt
noncomputable def lexKey(B:Int)(q:Int×Int):Int:=q.1*(2*B+1)+q.2
theorem lex_lt(H:-B<=b)(c:b<=B)(f:-B<=y)(i:y<=B):decide (lexKey B (a,b)<lexKey B (x,y))=if a == x then decide (b<y)else decide (a<x):=by
 unfold lexKey;dsimp only;by_cases e:a=x
 ·rw[Nt (by rw[e];exact RX _),e];exact Qi.mpr ⟨λz=>by lia,λz=>by lia⟩
 rw[Np<|by simpa using e];have m:∀{u v:Int},u<v->(u+1)*(2*B+1)<=v*(2*B+1):=λh=>TJ (by lia) (by lia);have d:∀u,(u+1)*(2*B+1)=u*(2*B+1)+(2*B+1):=λu=>by rw[vl,Xk]
 refine Qi.mpr ⟨λz=>?_,λz=>?_⟩
 ·obtain g|g:=Int.lt_or_gt_of_ne e
  ·exact g
  have:=m g;rw[d]at this;lia
 have:=m z;rw[d]at this;lia
end Srt
namespace L2
open PySem PySem.Spec PySem.W PyProof.Rows
def MV(h:N_)(t:M0)(q:Int×Int):Prop:=∃o T y n,h.get? t=B' o/\o.cls=.type "tuple"/\o.data=.seq #[.int q.1 T,.int q.2 y] n
noncomputable def A5(X:Cx)(B:Int)(H:Hp):SK X H (Int×Int) where
 vr:=λq x=>PR H q x/\ -B<=q.2/\q.2<=B
 key:=Srt.lexKey B
 kd:=tuples' MX
 hp:=λh=>∀(t:M0) (q:Int×Int),H t=B' (.tup [.int q.1,.int q.2])->MV h t q
 mono:=λh k t q e=>let ⟨o,T,y,n,a,b⟩:=h t q e;⟨o,T,y,n,k _ _ a,b⟩
 inj:=by
  rintro⟨a,b⟩ ⟨P,W⟩ _ _ v ⟨⟨t,rfl,e⟩,_⟩ rfl ⟨⟨m,rfl,l⟩,_⟩ r;cases(show N9 t=N9 m from r);rw[e]at l;cases l;rfl
 kk:=λ{A E s Q U Y} hp p h q=>by
  obtain⟨f,u,Z,w⟩:∃f:gV J',KatTups s.heap U f/\f.length=U.length/\∀v∈f,∃i t,v=Rr i t:=by
   clear p
   induction h with
   |nil=>exact⟨[],.nil,rfl,λ_ z=>nomatch z⟩
   |cons r _ I=>
    obtain⟨f,u,p,w⟩:=I;obtain⟨_,⟨⟨t,rfl,e⟩,_⟩,rfl⟩:=r;obtain⟨o,T,y,n,a,b,c⟩:=hp t _ e;refine⟨_::f,.cons a b c rfl u,by rw[NC,NC,p],λv j=>?_⟩;rcases Nz.mp j with rfl|j
    ·exact⟨_,T,rfl⟩
    exact w v j
  exact kat_kind (T:=.type "int") u (by omega) (λv j=>by
   obtain⟨i,t,rfl⟩:=w v j;exact Looks.of_pure rfl) rfl q
 lt:=by
  rintro A E s Q ⟨a,b⟩ ⟨c,d⟩ _ _ _ _ hp ⟨⟨t,rfl,e⟩,C,D⟩ rfl ⟨⟨m,rfl,l⟩,F,J⟩ rfl h;rw[Srt.lex_lt C D F J]at h;obtain⟨ox,_,_,_,L,_,M⟩:=hp t _ e;obtain⟨oy,_,_,_,N,_,O⟩:=hp m _ l;refine kat_lt L M N O<|kat_cons<|VO<|kat_go (λg=>?_) λg=>?_
  ·rw[g,Nt rfl]at h;refine kat_yes<|kat_cons<|VO<|kat_go (λG=>?_) λG=>?_
   ·have e:b=d:=by simpa using G
    subst e;rw[M6<|O2 _]at h;exact kat_yes<|kat_nil h
   exact kat_no<|kat_one _ _<|lt_int h
  rw[g,Np Ni]at h;exact kat_no<|oneLt_int h
theorem E2(h:-B<=q.2)(H:q.2<=B)(d:-B<=Q.2)(f:Q.2<=B)(e:Srt.lexKey B q=Srt.lexKey B Q):q=Q:=by
 obtain⟨a,b⟩:=q;obtain⟨x,y⟩:=Q;have c:=Srt.lex_lt (a:=a) (x:=x) h H d f;have E:=Srt.lex_lt (a:=x) (x:=a) d f h H;rw[M6<|by rw[e];exact O2 _]at c E;simp only[QZ]at c E
 split at c
 ·subst_vars
  rw[Nt rfl]at E;have:=Qh c.symm;have:=Qh E.symm;exact QW rfl (by show b=y;lia)
 rename_i n;rw[Np<|OV n]at E;have:=Qh c.symm;have:=Qh E.symm;lia
theorem sN{κ y ι:Type}(S:ι->(H:Hp)->SK X H κ)(C:ι->Hp->SW.Kind X.prog X.w y)(E:κ->y)(A:∀k c,E k=E c->k=c)(rm:∀b H,(C b H).room X.A.in1.in1.in1)
  (B:∀{b M n H s},Inv X M n H s->(S b H).hp s.heap) (ab:∀{b H h k x v},(S b H).hp h->(S b H).vr k x->RelV x v->(C b H).is h (E k) v) (ac:∀{b H h c v},(C b H).is h c v->∃k x,c=E k/\(S b H).vr k x/\RelV x v)
  (an:∀{b H k x c x'},(S b H).vr k x->(S b H).vr c x'->(S b H).key k=(S b H).key c->k=c) {rd:V->Hp->VK->Prop}
  (as:∀{x H Q},rd x H Q->∃b p W D,x=.ref p/\SqL X.K H p W/\Paired (S b H).vr D W/\D.length<=300/\
   ∀l t Z,H l=M5->Z.Nodup->(∀q,q∈Z↔q∈D)->(Z.map (S b H).key).Pairwise (· < ·)->Paired (S b H).vr Z t->Q (.ref l) (upd H l<|.lst t))
  {e:OJ} {te:TE} {p1 Y q1 F:Pos} (hc:X.calm=MX) (az:Gl X "sorted") (aC:X.mg "sorted"=M5) (aF:Gl X "set") (a0:X.mg "set"=M5) (he:PE X e te)
  (hs:NS [e] X.env=[(MW,Pq e X.env)]) (Z4:NS [.Call (.Name "set" Y) [e] [] F] X.env=[(MW,Pq (.Call (.Name "set" Y) [e] [] F) X.env)]):
  PE X (.Call (.Name "sorted" p1) [.Call (.Name "set" Y) [e] [] F] [] q1) (λn H Q=>te n H λx d=>rd x d Q):=by
 intro M s n H Q I h;refine P3<|fF I az aC SV ?_;refine Tw ?_ Z4 rfl;rw[Z4];show wpAny _ _ (lC<|(MW,Pq (.Call (.Name "set" Y) [e] [] F) X.env)::Qw q1 (NS [] X.env)) _ _ s
 refine SD<|P3<|fF I aF a0 boot_set ?_;refine Pr (bX (au he (bz (X:=X)) (by rw[hs];rfl) F M s n H (Av λx d=>rd x d Q) I h) λus s1 ⟨vs,d,I1,r1,a1⟩=>?_) hs rfl;obtain⟨x,e1,hx⟩:=jy a1;obtain⟨b,p,W,D,rfl,hq,G,ba,q⟩:=as hx;subst e1;obtain⟨u,rfl,ru⟩:=fI r1;cases ru;obtain⟨OM,rv,pl,hz⟩:=I1.list hq;have bb:=Paired.length G;have WQ:=rv.length;refine SW.call_set (C b d) (rm b d) (I1.ok.hd hc) pl.isList (g:=D.map E) (by simp;lia) (by simp;lia) (λi v hv=>?_) λh' tk U hS hm j=>?_
 ·have J:OM[i]?=B' v:=by simpa using hv
  have Q3:i<OM.length:=(M'.mp J).1;obtain⟨tv,L⟩:∃tv,W[i]?=B' tv:=⟨_,M4 (by lia)⟩;obtain⟨v2,O,a2⟩:=rv.get L;rw[J]at O;cases O;obtain⟨k,e0,j⟩:=TS.paired_at' G L;exact⟨E k,by rw[Nu,e0];rfl,ab (B I1) j a2⟩
 have I2:Inv X M n d {s1 with heap:=h',toks:=tk}:=I1.kept j;refine Vm ?_;refine R5 Xd Wj Wl (YT _) ?_;unfold Builtin.«sorted»;refine G' (m:=X2 "sorted" 1 1 _)<|M9 ?_;refine G'<|SW.collect_set (A:=X.A.in1) (C b d) (I2.ok.hd hc) hS hS.le λg a3 a4 a5 a6 f P=>?_;obtain⟨a,e2,o⟩:∃a,a5=a.map E/\Paired (λk v=>∃x,(S b d).vr k x/\RelV x v) a a4:=by
  clear f
  induction P with
  |nil=>exact⟨[],rfl,.nil⟩
  |cons r _ ih=>
   obtain⟨a,rfl,h⟩:=ih;obtain⟨k,x,rfl,w,g⟩:=ac r;exact⟨k::a,rfl,.cons ⟨x,w,g⟩ h⟩
 have I3:Inv X M n d {s1 with heap:=g,toks:=a3}:=I2.kept a6;have N:a.Nodup:=by
  have:=f.nodup_iff.mpr hS.nodup;rw[e2,Pb,Om]at this;exact this.imp λh z=>h<|Oe _ z
 have T:∀k∈a,∃x,(S b d).vr k x:=λk j=>by
  clear N e2 P f
  induction o with
  |nil=>cases j
  |cons r _ ih=>
   obtain rfl|j:=Nz.mp j
   ·exact⟨_,r.choose_spec.1⟩
   exact ih j
 have Yq:=Paired.length o;have bc:a.length=U.length:=by rw[<-f.length_eq,e2,MY]
 have bd:=hS.le;refine mV (S b d) I3 (B I3) (by lia) o ?_ λl t Z w g h3 h4=>q l t Z w (g.nodup_iff.mpr N) (λk=>?_) h3 h4
 ·rw[Pb,Om];refine(Pb.mp N).imp_of_mem λ{k c} m1 m2 h z=>?_;obtain⟨x,hx⟩:=T k m1;obtain⟨x',a7⟩:=T c m2;exact h<|an hx a7 z
 have m:∀k,E k∈U↔k∈a:=λk=>by
  rw[<-f.mem_iff,e2,NV];exact⟨λ⟨c,w,g⟩=>A _ _ g▸w,λh=>⟨k,h,rfl⟩⟩
 rw[g.mem_iff,<-m,hm,NV];exact⟨λ⟨c,w,g⟩=>A _ _ g▸w,λh=>⟨k,h,rfl⟩⟩
def Ky(K:K'):V->Hp->VK->Prop:=λx H Q=>∃(p:M0) (n:gV Int),x=.ref p/\SqL K H p (n.map V.int)/\n.length<=300/\
 ∀(l:M0) (U:gV Int),H l=M5->U.Nodup->(∀z,z∈U↔z∈n)->QG (·<=·) U->Q (.ref l) (upd H l<|.lst<|l5 V.int U)
theorem pT:∀n,Paired (wa X H).vr n<|n.map V.int
 |[]=>.nil
 |_::n=>.cons rfl<|pT n
theorem E3{i P j a:Pos}(m:X.calm=MX)(c:Gl X "sorted")(d:X.mg "sorted"=M5)(f:Gl X "set")(g:X.mg "set"=M5)(o:PE X e T)
  (s:NS [e] X.env=[(MW,Pq e X.env)]:=by rfl) (z:NS [.Call (.Name "set" P) [e] [] a] X.env=[(MW,Pq (.Call (.Name "set" P) [e] [] a) X.env)]:=by rfl):
  PE X (.Call (.Name "sorted" i) [.Call (.Name "set" P) [e] [] a] [] j) (λu H Q=>T u H λx w=>Ky X.K x w Q):=
 sN (ι:=Vx) (λ_=>wa X) (λ_ _=>SW.intK X.prog X.w) id (λ_ _ h=>h) (λ_ _=>trivial) (λ_=>trivial) (by rintro b H h k _ _ _ rfl ⟨t,rfl⟩;exact ov _ _ _ _) (λ{b H h y v} r=>by
   obtain⟨t,rfl⟩:=QV r;exact⟨y,_,rfl,rfl,t,rfl⟩) (λ_ _ h=>h)
  (λ⟨p,n,e,A,B,q⟩=>⟨(),p,_,n,e,A,pT n,B,λl C Z D E F G I=>by rw[pA I];exact q l Z D E F<|((S8 Z)▸G).imp Wu⟩) m c d f g o s z
noncomputable def ID(q:Int×Int):gV Int:=[q.1,q.2]
def IE:V->Hp->VK->Prop:=λx H Q=>∃(p:M0) (T:gV V) (s:gV (Int×Int)) (B:Int),x=.ref p/\H p=B' (.lst T)/\Paired (PR H) s T/\s.length<=300/\(∀q∈s,-B<=q.2/\q.2<=B)/\
 ∀(l:M0) (t:gV V) (P:gV (Int×Int)),H l=M5->P.Nodup->(∀q,q∈P↔q∈s)->(P.map<|Srt.lexKey B).Pairwise (·<=·)->Paired (PR H) P t->Q (.ref l) (upd H l<|.lst t)
theorem nN{c d:Type}{F G:c->d->Prop}{A:gV c}{B:gV d}(h:Paired F A B)(f:∀a∈A,∀b,F a b->G a b):Paired G A B:=by
 induction h with
 |nil=>exact .nil
 |cons r _ i=>exact .cons (f _ Nl _ r)<|i λa H=>f a<|Nk _ H
theorem A6{C P D f:Pos}(hu:X.A.units+64<QT)(F:X.calm=MX)(g:Gl X "sorted")(i:X.mg "sorted"=M5)(j:Gl X "set")(m:X.mg "set"=M5)(G:PE X e J)
  (L:NS [e] X.env=[(MW,Pq e X.env)]:=by rfl) (Z:NS [.Call (.Name "set" P) [e] [] f] X.env=[(MW,Pq (.Call (.Name "set" P) [e] [] f) X.env)]:=by rfl):
  PE X (.Call (.Name "sorted" C) [.Call (.Name "set" P) [e] [] f] [] D) (λz H Q=>J z H λx M=>IE x M Q):=
 sN (ι:=Int) (A5 X) (λB H=>SW.tupL X.prog X.w λa k=>∃q,k=ID q/\(A5 X B H).vr q (.ref a)) ID (λk k' h=>by simp[ID]at h;exact QW h.1 h.2) (λ_ _=>by show X.A.in1.in1.in1.units<QT;simp;lia)
  (λ{b M8 z H s} I t q e=>by
   obtain⟨OM,N,⟨o,E,u,n,v⟩,_⟩:=I.tuple<|SqT.of e;obtain⟨u1,u2,rfl,⟨O,rfl⟩,⟨U,rfl⟩⟩:=rQ N;exact⟨o,O,U,n,E,u,v⟩)
  (by
   rintro b H h k _ _ W ⟨⟨t,rfl,e⟩,Y⟩ rfl;obtain⟨o,tx,ty,n,A,w,y⟩:=W t k e;exact⟨t,rfl,⟨o,_,n,A,w,y,.cons (ov _ _ _ _)<|.cons (ov _ _ _ _) .nil⟩,k,rfl,⟨t,rfl,e⟩,Y⟩)
  (λ⟨a,E,_,q,u,v⟩=>⟨q,.ref a,u,v,E⟩) (λc d=>E2 c.2.1 c.2.2 d.2.1 d.2.2)
  (λ⟨p,ts,ps,B,e,c,d,h3,h4,q⟩=>⟨B,p,ts,ps,e,SqL.of c,nN d λa ha _ r=>⟨r,h4 a ha⟩,h3,λl T Zr A w y a4 a5=>q l T Zr A w y (a4.imp Wu)<|nN a5 λ_ _ _ r=>r.1⟩) F g i j m G L Z
end L2
namespace OD
open PySem L2
noncomputable def dU(t:Str)(h:Nf):gV Int:=((Os t.length).filter λi=>cj t i == h).map λ(i:Nat)=>(i:Int)+1
theorem A7:∀(a b:gV Int),a.Pairwise (· < ·)->b.Pairwise (· < ·)->(∀z,z∈a↔z∈b)->a=b
 |[],[],_,_,_=>rfl
 |[],y::b,_,_,h=>absurd ((h y).mpr Nl) (by simp)
 |x::a,[],_,_,h=>absurd ((h x).mp Nl) (by simp)
 |x::a,y::b,c,d,h=>by
  obtain⟨A,f⟩:=Oi.mp c;obtain⟨B,g⟩:=Oi.mp d;have e:x=y:=by
   obtain z|z:=Nz.mp ((h x).mp Nl)
   ·exact z
   obtain w|w:=Nz.mp ((h y).mpr Nl)
   ·exact w.symm
   have:=B x z;have:=A y w;lia
  subst e;rw[A7 a b f g λz=>?_];constructor
  ·intro H;obtain w|w:=Nz.mp ((h z).mp<|Nk _ H)
   ·have:=A z H;lia
   exact w
  intro H;obtain w|w:=Nz.mp ((h z).mpr<|Nk _ H)
  ·have:=B z H;lia
  exact w
theorem gF:∀{L:gV Int} {b:Int},gH m b (L.map .int)=MX↔(b::L.map absI).Pairwise (· < ·)/\∀l∈L,absI l<=m
 |[],b=>by
  constructor
  ·intro _;exact⟨by simp,λ_ h=>nomatch h⟩
  ·intro _;rfl
 |l::r,b=>by
  rw[NW,im];constructor
  ·intro h;by_cases c:b<absI l/\absI l<=m
   ·rw[Nt c]at h;obtain⟨a,d⟩:=gF.mp h;refine⟨Oi.mpr ⟨λz H=>?_,a⟩,λz H=>?_⟩
    ·obtain e|e:=Nz.mp H
     ·rw[e];exact c.1
     have:=(Oi.mp a).1 z e;lia
    obtain e|e:=Nz.mp H
    ·rw[e];exact c.2
    exact d z e
   rw[Np c]at h;cases h
  rintro⟨a,d⟩;obtain⟨f,g⟩:=Oi.mp a;rw[Nt ⟨f (absI l) Nl,d l Nl⟩];exact gF.mpr ⟨g,λz H=>d z<|Nk _ H⟩
theorem uL{m:Int}{L U:gV Int}(n:U.Nodup)(i:∀z,z∈U↔z∈L.map absI)(s:U.Pairwise (·<=·)):
  (decide (L.map absI=U)&&decide ((((L.map absI).filter λz=>decide (z<1) || decide (z>m)).length:Int)=0))=gH m 0 (L.map .int):=by
 rw[O0,N5,NX,NX,gF];have Q:U.Pairwise (· < ·):=by
  refine(ad9 s n).imp λ{a b} h=>?_;have:=h.1;have:=h.2;lia
 constructor
 ·rintro⟨d,g⟩;have e:(L.map absI).filter (λz=>decide (z<1) || decide (z>m))=[]:=OO.mp (by lia);have c:∀z∈L.map absI,1<=z/\z<=m:=λz H=>by
   have:=PD.mp e z H;simp at this;lia
  refine⟨Oi.mpr ⟨λz H=>?_,by rw[d];exact Q⟩,λl f=>(c _<|Pp f).2⟩;have:=(c z H).1;lia
 rintro⟨d,g⟩;obtain⟨c,j⟩:=Oi.mp d;exists A7 _ _ j Q λz=>(i z).symm;have:(L.map absI).filter (λz=>decide (z<1) || decide (z>m))=[]:=by
  refine PD.mpr λz H=>?_;have:=c z H;obtain⟨l,f,rfl⟩:=NV.mp H;have:=g l f;simp;lia
 rw[this];rfl
end OD
namespace L2
open PySem
theorem wB{X:Cx}(e:X.K=K){E:gV OJ}{k n:Nat}{p:Pos}{t:F6}(H:X.calm=MX)(h:JJ X E t)(a:(Sz E X.env).length=n:=by rfl)(Y:(Sz E X.env).findIdx? (·.1)=none:=by rfl):PG X (.Tuple E k p) (JL K n t):=by
 subst e;exact iX H h a Y
end L2
namespace HT
open PySem PyProof.Rows
theorem getItem_tuple_by{Q:J'->M3->Prop}{lo st:Int}{n:Nat}(H:ky s.heap t i)(a:s.TypeIs (.ref l) "slice")
  (Z:∀{A:Ou} {E:J'->M3->Prop} (b:Int×Int×Nat->M3->Prop),b (lo,st,n) s->wpAny (ND p w) A (RP (.ref l)<|pure (i.size:Int)) b E s)
  (d:(lo == 0&&st == 1&&n == i.size)=MX->Q (.ref t) s)
  (e:(lo == 0&&st == 1&&n == i.size)=MW->n<=sizeLine/\Q (.ref s.heap.objs.size) {s with heap:=s.heap.push {cls:=.type "tuple",data:=.seq ((Os n).filterMap λ(k:Nat)=>i[(lo+(k:Int)*st).toNat]?).toArray}}):
  wpAny (ND p w) A (Uz (.ref t)<|.ref l) Q E s:=by
 unfold Uz
 try with_reducible refine OY ?_
 first|refine G' (M9 ?_)|skip
 refine G'<|Yu H.typeIs (by decide) ?_;refine G'<|Q7 (name:=M_ "__getitem__") H.typeIs Qc<|Qj Qc H.typeIs XF ?_<|Ye _ _;refine G' (m:=UX<|.ref t)<|Rx H ?_;refine G'<|RY a ?_;rw[Nt<|by decide];refine G'<|Z _ ?_;show wpAny _ _ (if(lo == 0&&st == 1&&n == i.size)=MX then _ else _) _ _ s
 cases c:(lo == 0&&st == 1&&n == i.size)with
 |true=>
  rw[Nt rfl];refine G'<|G'<|RY H.typeIs<|M9 ?_;rw[Nt<|by decide];exact G'<|QK<|M9 ⟨_,rfl,M9<|d c⟩
 |false=>
  obtain⟨z,q⟩:=e c;rw[Np<|by decide];have h:sizeOk (.seq ((Os n).filterMap λ(k:Nat)=>i[(lo+(k:Int)*st).toNat]?).toArray):=by
   show((Os n).filterMap λ(k:Nat)=>i[(lo+(k:Int)*st).toNat]?).toArray.size<=sizeLine
   rw[Nq];exact Oz (List.length_filterMap_le _ _) (by rw[Ph];exact z)
  first
   |exact G' (m:=Pn _)<|O4 (M9 ⟨_,rfl,M9 q⟩) h
   |exact G' (m:=Pn _)<|O4 (G'<|M9<|M9 ⟨_,rfl,M9 q⟩) h
   |exact G'<|G' (m:=Pn _)<|O4 (M9<|M9 ⟨_,rfl,M9 q⟩) h
end HT
namespace L2
open PySem PySem.Spec PyProof.Rows
def Gr(K:K'):R2:=λx y H Q=>∃a b X Y,x=.ref a/\y=.ref b/\SqT K H a X/\SqT K H b Y/\X.length+Y.length<=sizeLine/\
 (X=[]->Q (.ref b) H)/\(X≠[]->Y=[]->Q (.ref a) H)/\(X≠[]->Y≠[]->∀p,H p=M5->Q (.ref p) (upd H p<|.tup<|X++Y))
theorem E4:OpR X (QU .Add) (Gr X.K):=by
 intro M s t H x y v u Q I r i h;obtain⟨a,b,j,Y,rfl,rfl,k,l,w,B,C,E⟩:=h;by_cases c:j=[]
 ·cases r;cases i;obtain⟨O,F,P,_⟩:=I.tuple k;obtain⟨A,Z,G,_⟩:=I.tuple l;have J:=F.nil_iff.mpr c;obtain⟨⟨L,N,m,T⟩,o,p,n,q⟩:=id P;obtain⟨⟨U,D,data2,g⟩,d,e,W,f⟩:=id G;simp only at p q e f;subst p q e f;exact YC ⟨_,o,rfl⟩ ⟨_,d,rfl⟩ VQ XO S3 SN (Sm _ _) (tuple_addW0 a b O.toArray A.toArray n W N D T g<|by simp[J]) ⟨o,d,.ref b,H,I,rfl,B c⟩
 exact Eg M s t H _ _ v u Q I r i ⟨a,b,j,Y,rfl,rfl,k,l,c,w,λz=>C c z,λz=>E c z⟩
def Kz(K:K'):V->MZ Int->MZ Int->Hp->VK->Prop:=λx lo h H Q=>∃a X,x=.ref a/\SqT K H a X/\
 ((HT.sIx X.length 0 lo=0/\HT.sIx X.length X.length h=X.length)->Q (.ref a) H)/\(¬(HT.sIx X.length 0 lo=0/\HT.sIx X.length X.length h=X.length)->∀p,H p=M5->Q (.ref p) (upd H p<|.tup<|eQ X lo h))
theorem E6:Ll X (Kz X.K):=by
 intro M s k H x v l u lo i m Q I g d p P h;obtain⟨a,b,rfl,j,q,n⟩:=h;by_cases w:HT.sIx b.length 0 lo=0/\HT.sIx b.length b.length i=b.length
 ·cases g;obtain⟨O,r,t,A⟩:=I.tuple j;have o:O.toArray.size=b.length:=by rw[Nq];exact r.length.symm
  exists "tuple",_,PyProof.Rows.slot_tuple_getitem.lookup,t.typeIs;obtain⟨os,f,y,_⟩:=id d;have e:(((HT.sIx O.toArray.size 0 lo:Nat):Int) == 0&&(1:Int) == 1&&(HT.sIx O.toArray.size O.toArray.size i-HT.sIx O.toArray.size 0 lo) == O.toArray.size)=true:=by
   rw[o,w.1,w.2];simp
  refine HT.getItem_tuple_by t ⟨os,f,y⟩ (λB z=>HT.sliceApplied_gen d p P z) (λ_=>⟨.ref a,H,I,rfl,q w⟩) λc=>?_;rw[e]at c;cases c
 exact HK M s k H _ v l u lo i m Q I g d p P ⟨a,b,rfl,j,w,n w⟩
end L2
namespace L2
open PySem
@[irreducible] def PEi (X:Cx) (e:OJ) (t:TE):Prop:=PE X e t
@[irreducible] def PAi (X:Cx) (es:gV OJ) (t:TA):Prop:=PA X es t
end L2
namespace KA
open PySem PyProof.Rows
def But(H h:N_)(a k:M0):Prop:=∀b o,b≠a->b≠k->H.get? b=B' o->h.get? b=B' o
theorem But.upA(k:But c h a d)(f:Obj->Obj):But c (h.update a f) a d:=λb o H e q=>(OC _ _<|OV H).trans<|k b o H e q
theorem But.upK(k:But d h a c)(f:Obj->Obj):But d (h.update c f) a c:=λb o e H q=>(OC _ _<|OV H).trans<|k b o e H q
theorem Gs{st:OI}(m:But q s.heap a k)(N:s.heap.get? k=B' (O_ "list" U e))(r:s.heap.get? a=B' (O_ "list" #[] f))(b:k≠a)
  (g:Q4 U.toList z) (B:z.length=v.length) (t:v.length<64) (p:(Ob st).Perm (U.zip v.toArray)) (u:SortedTo (Ob st) (Ob st).size) (l:Qg st=M5)
  (h:∀h' x o c,But q h' a k->h'.get? a=B' (O_ "list" o c)->kA MW z v o.toList->P (.done<|.ret .none) {s with heap:=h',toks:=x}):
  wpAny (ND i w) A (ksk_tail a MW f (.ref k) st) P E s:=by
 have H:U.size=v.length:=by
  have y:=g.length;rw[NH]at y;lia
 have T:(Ob st).size=v.length:=by rw[p.size_eq,UM,H,Nq,tA]
 have n:(s.heap.update k<|PH λ_=>(#[]:Oh J')).get? a=B' (O_ "list" #[] f):=(OC _ _ b).trans r;obtain⟨C,d⟩:∃C,((s.heap.update k (PH λ_=>(#[]:Oh J'))).update a (PH λ_=>(Ob st).map (·.2))).get? a=B' (O_ "list" ((Ob st).map (·.2)) C):=
  ⟨_,Ul n λ_=>(Ob st).map (·.2)⟩
 unfold ksk_tail
 try dsimp only
 refine G'<|So N rfl ?_ (by rw[H,O7];lia)<|NA _;refine G'<|Ve ?_;refine G'<|Xa n rfl ?_;refine G' (So n rfl ?_ (NA _)<|by simp only[NQ,QA,Xp];rw[T,O7];lia);rw[l];simp only[Yt,NQ,QA];have j:=ksk_out (b:=MW) g p u;simp only[NQ,QA]at j;exact M9<|h _ _ _ C ((m.upK _).upA _) d j
theorem Mi(m:But x s.heap a g)(n:s.heap.get? g=B' (O_ "list" U e))(N:s.heap.get? a=B' (O_ "list" #[] y))(f:g≠a)
  (k:Q4 U.toList q) (r:q.length=v.length) (H:v.length<64)
  (h:∀h' T o c,But x h' a g->h'.get? a=B' (O_ "list" o c)->kA MW q v o.toList->P (.done<|.ret .none) {s with heap:=h',toks:=T}):
  wpAny (ND t w) A (ksk_end a MW v.toArray y (.ref g) U) P E s:=by
 have z:U.size=v.length:=by
  have B:=k.length;rw[NH]at B;lia
 have b:(U.zip v.toArray).size=v.length:=by rw[UM,z,Nq,tA]
 unfold ksk_end
 try dsimp only
 simp only[NQ,QA];by_cases d:v.toArray.size<2
 ·rw[Nt d,Nt d];refine G'<|M9 ?_;rw[ZL];refine G' (M9 ?_)
  try dsimp only
  refine Gs (st:=U0 general' (U.zip v.toArray) #[] 7 M5) m n N f k r H (Z3 _) ?_ rfl h;intro i j C D;have l:j<(U.zip v.toArray).size:=D;rw[b]at l;rw[Nq]at d;have:i=j:=by lia
  subst this;exact SU _
 rw[Np d,Np d];rw[Nq]at d;rw[ksk_kind k<|by rw[z];lia];refine G'<|M9 ?_;refine G' (OS (wpS_sortRuns (a₀:=U.zip v.toArray) (st:=U0 oneType' (U.zip v.toArray) #[] 7 M5)
  (Q:=λ_ p=>(Ob p).Perm (U.zip v.toArray)/\Qg p=M5/\SortedTo (Ob p) (U.zip v.toArray).size)
  (ksk_intKeys k) ⟨Z3 _,rfl,rfl,rfl⟩ (by rw[b];lia) (by rw[b];exact H) λp F G I=>⟨F,G,I⟩) ?_ λ_ _ e=>e)
 rintro⟨⟨⟩,p⟩ M ⟨rfl,u,J,L⟩
 try dsimp only
 exact Gs m n N f k r H u (by rw[u.size_eq];exact L) J h
theorem KB{f:J'}(J:But D s.heap a g)(L:s.heap.get? g=B' (O_ "list" #[] 0))(M:s.heap.get? a=B' (O_ "list" #[] G))(m:g≠a)
  (O:z.length=l.length) (u:l.length<64)
  (Z:∀(i:Nat) (v:J') (k:Int),l[i]?=B' v->z[i]?=B' k->∀(h:N_) (d:Nat) (R:J'->M3->Prop),(∀t T,R (.int k T) {s with heap:=h,toks:=t})->
   wpAny (ND p w) A (call f [v]) R (λ_ _=>False) {s with heap:=h,toks:=d})
  (h:∀h' d o c,But D h' a g->h'.get? a=B' (O_ "list" o c)->kA MW z l o.toList->P (.done<|.ret .none) {s with heap:=h',toks:=d}):
  wpAny (ND p w) A (ksk_rest a f MW l.toArray G<|.ref g) P E s:=by
 unfold ksk_rest;refine G'<|QK ?_
 first
  |rw[List.forIn_toArray]
  |(rw[<-SH];simp only[List.toList_toArray])
  |rw[<-SH]
 refine G' (ksk_fold (λi y=>∃h' d b e,y={s with heap:=h',toks:=d}/\But D h' a g/\h'.get? g=B' (O_ "list" b e)/\h'.get? a=B' (O_ "list" #[] G)/\Q4 b.toList (z.take i)) l 0 s
  ⟨s.heap,s.toks,#[],0,rfl,J,L,M,by simpa using IntsAre.nil⟩ ?step ?done)
 case step=>
  rintro j x y I ⟨h',d,b,e,rfl,F,n,N,H⟩;simp only[Qn]at H ⊢;have hj:j<l.length:=(M'.mp I).1;obtain⟨k,q⟩:∃k,z[j]?=B' k:=⟨_,M4 (by lia)⟩;have hz:b.size<=l.length:=by
   have Q:=H.length;rw[NH,NO]at Q;lia
  refine G'<|VA<|OS (Z j x k I q h' d (λv r=>∃t T,v=.int k T/\r={s with heap:=h',toks:=t}) λt T=>⟨t,T,rfl,rfl⟩) (λv r U=>?_) λ_ _ W=>W.elim;obtain⟨t,T,rfl,rfl⟩:=U
  try dsimp only
  obtain⟨C,B⟩:∃C,(h'.update g (PH (·.push (.int k T)))).get? g=B' (O_ "list" (b.push (.int k T)) C):=⟨_,Ul n (·.push (.int k T))⟩;have X:z.take (j+1)=z.take j++[k]:=by rw[Oc,q];simp
  have Y:(b.push<|Rr k T).toList=b.toList++[Rr k T]:=by simp
  refine G' (So n rfl ?_ (by rw[O7];lia)<|Oz (S5 (Array.size_push ..))<|by rw[O7];lia);refine M9 ⟨rfl,_,_,b.push<|.int k T,C,rfl,F.upK _,B,(OC _ _ m).trans N,by rw[Y,X];exact ksk_snoc H⟩
 case done=>
  rintro y ⟨h',d,b,e,rfl,F,n,N,H⟩;have TX:Q4 b.toList z:=by
   have e3:z.take (0+l.length)=z:=Nn (by lia);rw[e3]at H;exact H
  try dsimp only
  refine G'<|YS n rfl ?_;exact Mi (s:={s with heap:=h',toks:=d}) F n N m TX O u h
theorem tree_{f:J'}(g:s.heap.get? a=B' (O_ "list" d.toArray n))(m:z.length=d.length)(j:d.length<64)
  (Z:∀(i:Nat) (v:J') (k:Int),d[i]?=B' v->z[i]?=B' k->∀(h:N_) (t:Nat) (R:J'->M3->Prop),(∀T r,R (.int k r) {s with heap:=h,toks:=T})->
   wpAny (ND p w) A (call f [v]) R (λ_ _=>False) {s with heap:=h,toks:=t})
  (h:∀h' t O c,(∀b o,b≠a->s.heap.get? b=B' o->h'.get? b=B' o)->h'.get? a=B' (O_ "list" O c)->kA MW z d O.toList->P (.done<|.ret .none) {s with heap:=h',toks:=t}):
  wpAny (ND p w) A (ksk_tree a f MW) P E s:=by
 have u:a<s.heap.objs.size:=Nx g;obtain⟨l,H⟩:∃l,(s.heap.update a (PH λ_=>(#[]:Oh J'))).get? a=B' (O_ "list" #[] l):=⟨_,Ul g λ_=>#[]⟩;have e:((s.heap.update a (PH λ_=>(#[]:Oh J'))).push (O_ "tuple" d.toArray 0)).objs.size=s.heap.objs.size+1:=by rw[Yd,Zh]
 unfold ksk_tree;refine G'<|YS g rfl ?_;refine G'<|So g rfl ?_ (by rw[Nq,O7];lia)<|NA _;refine G'<|Xa H rfl ?_;refine G'<|Uv ?_ (by show d.length<=_;rw[O7];lia);refine G'<|TN ?_<|NA _;refine OY ?_;refine KB (D:=s.heap) (s:={s with heap:=((s.heap.update a<|PH λ_=>(#[]:Oh J')).push<|O_ "tuple" d.toArray 0).push<|O_ "list" #[] 0}) (g:=((s.heap.update a<|PH λ_=>(#[]:Oh J')).push<|O_ "tuple" d.toArray 0).objs.size)
  (λb o x F q=>Nb _<|Nb _<|(OC _ _<|OV x).trans q) (NL _ rfl) (Nb _<|Nb _ H) (by rw[e];exact Rj<|PN u) m j Z
  λh' t O c y B C=>h h' t O c (λb o D q=>y b o D (by rw[e];exact NK<|PN<|Nx q) q) B C
end KA
namespace L2
open PySem PySem.Spec PyProof.Rows
theorem A8(i:Q4 s n)(k:kA MW (n.map g) s o):∃U,Q4 o U/\U.Perm n/\(U.map g).Pairwise (·<=·):=by
 obtain⟨P,H,e,f⟩:=k;have t:=i.length;have a:∀p,p∈(n.map g).zip s->p.1=g (kf p.2)/\p.2∈s:=by
  rw[<-i.nums,Ot,List.zip_map_left];intro p H;obtain⟨⟨u,v⟩,j,rfl⟩:=NV.mp H;have b:u=v/\u∈s:=Wk j;refine⟨?_,?_⟩
  ·show g (kf u)=g (kf v)
   rw[b.1]
  show v∈s
  rw[<-b.1];exact b.2
 have I:Q4 (P.map Xf) ((P.map Xf).map kf):=intsAre_map _ λv l=>by
  obtain⟨p,h,rfl⟩:=NV.mp l;exact i.all _ (a p<|H.mem_iff.mp h).2
 have m:((P.map Xf).map kf).Perm n:=by
  have b:=(H.map Xf).map kf;rw[Zo (by rw[MY];lia),i.nums]at b;exact b
 exists (P.map Xf).map kf,by rw[e];exact I,m;rw[Om,Om,Om];refine f.imp_of_mem λ{p q} h d r=>?_;have c:p.1<=q.1:=by simpa using r
 rw[(a p<|H.mem_iff.mp h).1,(a q<|H.mem_iff.mp d).1]at c;exact c
theorem yM{Q:VK}(I:Inv X M r H s)(x:SqL X.K H p (N.map V.int))(y:N.length<64)
  (q:∀(l:M0) (U:gV Int),H l=M5->U.Perm N->(U.map OD.absI).Pairwise (·<=·)->Q (.ref l) (upd H l<|.lst<|U.map V.int)):
  wpAny (ND X.prog X.w) X.A (call (.builtin "sorted") [.ref p] [(M_ "key",.builtin "abs")]) (EP X M r Q) X.xe s:=by
 obtain⟨a,A,P,hz⟩:=I.list x;have g:=i8 A;have B:a.length=N.length:=Xe g;refine call_function_entry_kw Xd Wj Wl (ksk_s1 _ _) ?_;unfold Builtin.«sorted»;refine G' (m:=X2 "sorted" 1 1 _)<|M9 ?_;refine G' (collect_list P.isList ?_<|by rw[O7];lia);refine G' (TN ?_<|by rw[O7];lia);have z:((s.heap.push<|O_ "list" #[] 0).update s.heap.objs.size (PH (·++a.toArray))).objs.size=s.heap.objs.size+1:=by
  rw[Zh,Yd]
 have L:(((s.heap.push<|O_ "list" #[] 0).update s.heap.objs.size (PH (·++a.toArray))).push<|O_ "list" a.toArray 0).get? (s.heap.objs.size+1)=B' (O_ "list" a.toArray 0):=by
  rw[<-z];exact NL _ rfl
 have d:∀b o,s.heap.get? b=B' o->(((s.heap.push<|O_ "list" #[] 0).update s.heap.objs.size (PH (·++a.toArray))).push<|O_ "list" a.toArray 0).get? b=B' o:=λb o q=>by
  have j:b<s.heap.objs.size:=Nx q;rw[YL _ _ _ (by rw[z];exact NK<|PN j),Heap.get?_update_ne _ _ _ _<|NK j,YL _ _ _<|NK j];exact q
 show wpAny _ _ _ _ _ {s with heap:=((s.heap.push<|O_ "list" #[] 0).update s.heap.objs.size (PH (·++a.toArray))).push<|O_ "list" a.toArray 0}
 rw[z];refine G'<|OY<|wpAny_call_entry_kw W' ⟨_,L,rfl⟩ WC ?body (ksk_l1 _ _)
 case body=>
  show wpAny (ND X.prog X.w) X.A.in1.in1 (Builtin.«list.sort» ⟨[.ref<|s.heap.objs.size+1],_⟩) _ _ _
  rw[ksk_t4];refine KA.tree_ (z:=N.map OD.absI) (s:={s with heap:=((s.heap.push<|O_ "list" #[] 0).update s.heap.objs.size (PH (·++a.toArray))).push<|O_ "list" a.toArray 0}) L (by rw[MY,B]) (by lia) (λi v k C f h T R D=>?_) λF T O c G J W=>⟨_,rfl,?_⟩
  ·obtain⟨t,rfl⟩:=IntsAre.int_at g i v C;rw[Nu]at f;cases e:N[i]? with
   |none=>rw[e]at f;simp at f
   |some n=>
    rw[e]at f;have Y:B' (OD.absI n)=B' k:=f;cases Y;have Z:N.getD i 0=n:=by rw[M1,e];rfl
    rw[Z];exact XT (s:={s with heap:=h,toks:=T}) λu m=>D m u
  refine M9 ⟨_,rfl,?_⟩;obtain⟨U,i1,w,i3⟩:=A8 g W;have I2:Inv X M r (upd H (s.heap.objs.size+1)<|.lst<|U.map V.int) {s with heap:=F,toks:=T}:=by
   refine I.laid (t':=T) (λb o E=>?_) (T_ _) ?_
   ·have hb:b<s.heap.objs.size:=Nx E;exact G b o (NK<|PN hb)<|d b o E
   refine⟨?_,O.toList,c,iG i1,by simpa using J⟩;rw[MY,w.length_eq];exact OG (aR<|by lia)
  exact⟨.ref<|s.heap.objs.size+1,_,I2,rfl,q _ U (I.hok.fresh<|T_ _) w i3⟩
end L2
namespace KX
open PySem PyProof.Rows
theorem yN(a v:J'):kz "max" ⟨[a],[(M_ "default",v)]⟩:=by unfold kz;kernel_rfl
section
variable {R:X_->M3->Prop}{St:Nat->N_->Prop}
theorem KC(W:Walks p w A.in1 I N F n P St)(B:Nat->Nat->Nf)(z:CmpOf p w A.in1 .Gt P B)(S:M0)(q:S∉N):
  ∀k j s f c,n-(j+1)=k->j+1<=n->St (j+1) s.heap->P (UA B j) f->
  s.heap.get? S=B' {cls:=.type "list",dict:=M5,data:=.seq #[f,f] c,slots:=#[]}->
  (∀v h' x,P (UA B<|n-1) v->(∀b o,b∉F->b≠S->s.heap.get? b=B' o->h'.get? b=B' o)->R (.ok<|.ret v) {s with heap:=h',toks:=x})->
  codeAny (ND p w) A (.builtin "max.loop" ⟨[.ref I,.none,.ref S],Z⟩) R s:=by
 have r:S∉F:=λh=>q<|W.sub _ h;have L:(toString "max"++toString ".loop":QJ)="max.loop":=by decide
 intro k
 induction k with
 |zero=>
  intro j s f c O X C g u y;have U:j+1=n:=by lia
  refine PY VY ?_;rw[Pu QH _];show wpAny _ A.in1 (Y' (.ref S) >>=_) _ _ s
  refine G'<|RL u rfl ?_;show wpAny _ A.in1 (tryCatch (Ts<|.ref I) _ >>=_) _ _ s
  refine G'<|RK<|W.done s _ _ (U▸C) λh' x T=>?_;have d:=T S _ r u;show wpAny _ A.in1 (updateSeq S (λ_=>#[]) >>=_) _ _ _
  refine G' ?_;refine Ww d rfl<|G'<|Ve<|M9 ?_;refine y f _ x (by rw[<-U];exact g) λb o H a e=>(OC _ _<|OV a).trans<|T b o H e
 |succ k G=>
  intro j s f c O X C g u y;have Q:j+1<n:=by lia
  refine PY VY ?_;rw[Pu QH _];show wpAny _ A.in1 (Y' (.ref S) >>=_) _ _ s
  refine G'<|RL u rfl ?_;show wpAny _ A.in1 (tryCatch (Ts<|.ref I) _ >>=_) _ _ s
  refine G'<|RK<|W.item (j+1) s _ _ Q C λv h' x J i T=>?_;have d:=T S _ r u;show wpAny _ A.in1 (tryCatch (Uy [v,v]<|richCompare .Gt v f >>=_) _ >>=_) _ _ _
  refine G'<|RK<|OY<|G'<|z (j+1) (UA B j) v f _ _ _ J g ?_;refine G'<|OY<|O3 ?_;refine G'<|Ve<|M9 ?_;cases M:B (j+1) (UA B j)with
  |true=>
   simp only[Ss];refine G' ?_;refine Ww d rfl<|G'<|Ve ?_;rw[L];refine M9 ⟨QF QH _,G (j+1) _ v _ (by lia) Q (W.frame _ _ _ i λb D o e=>?_) (by simp only[UA,M,Ss];exact J) (Qf _ d rfl)
    λE l t m Y=>?_⟩
   ·exact(OC _ _ λh:S=b=>q<|by rw[h];exact D).trans e
   ·exact y E l t m λb o H a e=>Y b o H a<|(OC _ _<|OV a).trans<|T b o H e
  |false=>
   simp only[NQ,QA];refine G'<|Ve ?_;rw[L];refine M9 ⟨QF QH _,G (j+1) _ f c (by lia) Q i (by simp only[UA,M,NQ,QA];exact g) d λE l t m Y=>?_⟩;exact y E l t m λb o H a e=>Y b o H a<|T b o H e
theorem IF(W:Walks p w A.in1 I F r n P St)(B:Nat->Nat->Nf)(k:CmpOf p w A.in1 .Gt P B)(S:M0)(f:S∉F){d:J'}{C:Str}{c:Nat}(y:St 0 s.heap)
  (z:s.heap.get? S=B' {cls:=.type "list",dict:=M5,data:=.seq #[] c,slots:=#[]})
  (D:0<n->∀v h' t,P (UA B<|n-1) v->(∀b o,b∉r->b≠S->s.heap.get? b=B' o->h'.get? b=B' o)->R (.ok<|.ret v) {s with heap:=h',toks:=t})
  (E:n=0->∀h' t,(∀b o,b∉r->b≠S->s.heap.get? b=B' o->h'.get? b=B' o)->R (.ok<|.ret d) {s with heap:=h',toks:=t}):
  codeAny (ND p w) A (.builtin "max.loop" ⟨[.ref I,.none,.ref S],[(C,d)]⟩) R s:=by
 have l:S∉r:=λh=>f<|W.sub _ h;have L:(toString "max"++toString ".loop":QJ)="max.loop":=by decide
 refine PY VY ?_;rw[Pu QH _];show wpAny _ A.in1 (Y' (.ref S) >>=_) _ _ s
 refine G'<|RL z rfl ?_;show wpAny _ A.in1 (tryCatch (Ts<|.ref I) _ >>=_) _ _ s
 by_cases m:0<n
 ·refine G'<|RK<|W.item 0 s _ _ m y λv h' t G g X=>?_;have i:=X S _ l z;show wpAny _ A.in1 (updateSeq S (λ_=>#[v,v]) >>=_) _ _ _
  refine G' ?_;refine Ww i rfl ?_;rw[L];refine M9 ⟨QF QH _,KC W B k S f _ 0 _ v _ rfl m (W.frame _ _ _ g λb q o e=>?_) G (Qf _ i rfl) λJ u T x Y=>?_⟩
  ·exact(OC _ _ λh:S=b=>f<|by rw[h];exact q).trans e
  exact D m J u T x λb o H a e=>Y b o H a<|(OC _ _<|OV a).trans<|X b o H e
 have j:0=n:=by lia
 refine G'<|RK<|W.done s _ _ (j▸y) λh' t X=>?_;refine G'<|QK<|M9 ?_;exact E j.symm h' t λb o H a e=>X b o H e
end
theorem KD{x d:J'}{Q:J'->M3->Prop}
  (h:wpAny (ND p w) A.in1 (WZ x) (λq a=>∃I f r n P St B,q=.ref I/\Walks p w A.in1 I f r n P St/\St 0 a.heap/\(∀b∈f,b<a.heap.objs.size)/\CmpOf p w A.in1 .Gt P B/\
   (0<n->∀v h' t,P (UA B<|n-1) v->(∀b o,b∉r->a.heap.get? b=B' o->h'.get? b=B' o)->Q v {a with heap:=h',toks:=t})/\
   (n=0->∀h' t,(∀b o,b∉r->a.heap.get? b=B' o->h'.get? b=B' o)->Q d {a with heap:=h',toks:=t})) E s):
  wpAny (ND p w) A (call (.builtin "max") [x] [(M_ "default",d)]) Q E s:=by
 have L:(toString "max"++toString ".loop":QJ)="max.loop":=by decide
 refine kmk_tree F.kind_max F.plain_max F.entry_max (yN _ _) ?_;show wpAny _ A.in1 (UE "max" ["key","default"] 0 ⟨[],[(M_ "default",d)]⟩ >>=_) _ _ s
 refine G'<|Zw (show UE "max" ["key","default"] 0 ⟨[],[(M_ "default",d)]⟩=pure [M5,B' d]from rfl) ?_;refine G'<|M9 ?_;refine G'<|OS h (λq a c=>?_) λ_ _ e=>e;obtain⟨I,f,r,n,P,St,B,rfl,W,Y,g,i,u,j⟩:=c;refine G'<|O4 ?_;have k:a.heap.objs.size∉f:=λy=>Qp _<|g _ y;rw[L];refine M9 ⟨QF QH _,IF W B i a.heap.objs.size k (W.frame _ _ _ Y λb _ o e=>Nb _ e) (NL _ rfl) (λl v h' t z m=>?_) λl h' t m=>?_⟩
 ·exact u l v h' t z λb o H e=>m b o H (NK<|Nx e)<|Nb _ e
 exact j l h' t λb o H e=>m b o H (NK<|Nx e)<|Nb _ e
theorem max_listD{d:J'}{Q:J'->M3->Prop}(c:A.handled=M5)(f:s.heap.IsList l (RM x))
  (h:0<x.size->∀v h' t,(RM x)[UA (λi j=>decide (ko x i>ko x j)) (x.size-1)]?=B' v->(∀b o,s.heap.get? b=B' o->h'.get? b=B' o)->Q v {s with heap:=h',toks:=t})
  (g:x.size=0->∀h' t,(∀b o,s.heap.get? b=B' o->h'.get? b=B' o)->Q d {s with heap:=h',toks:=t}):
  wpAny (ND p w) A (call (.builtin "max") [.ref l] [(M_ "default",d)]) Q E s:=by
 refine KD<|iter_intList f λa e st H I=>?_;subst e;refine⟨_,_,_,_,_,_,_,rfl,Wa (A:=A.in1) c _ l I<|RM x,st,H,CmpOf.ints_gt (ko x) λ_ _=>intItems_at,λn v h' t P k=>?_,λn h' t k=>?_⟩
 ·exact h (by simpa[RM]using n) v h' t (by simpa[RM]using P)<|old_kept k
 exact g (by simpa[RM]using n) h' t<|old_kept k
end KX
namespace L2
open PySem PySem.Spec PyProof.Rows
theorem sO(H:Q4 s n)(e:s.toArray=RM x)(g:0<x.size)(b:(RM x)[UA (λi j=>decide (ko x i>ko x j)) (x.size-1)]?=B' v):∃M t,v=.int M t/\M∈n/\∀a∈n,a<=M:=by
 have h:x.toList.map (·.1)=n:=by
  rw[<-nums_intItems,<-e];exact H.numsOf
 obtain⟨t,rfl⟩:=intItems_at b;obtain⟨k,c⟩:=argBest_gt (ko x)<|x.size-1;refine⟨_,t,rfl,?_,λa d=>?_⟩
 ·rw[numAt_eq,h];exact getD_mem (by rw[<-h,MY,NH];lia)
 obtain⟨j,f,rfl⟩:=mem_getD d;rw[<-h,MY,NH]at f;have:=c j (by lia);rw[numAt_eq,h]at this;exact this
def Mj(K:K'):gV V->Hp->VK->Prop:=λx H Q=>∃(p:M0) (n:gV Int),x=[.ref p]/\SqL K H p (n.map V.int)/\n≠[]/\∀M,M∈n->(∀a∈n,a<=M)->Q (.int M) H
theorem yO(c:X.calm=MX):fo X (.builtin "max") (Mj X.K):=by
 intro o s w H x U Q I r h;obtain⟨p,N,rfl,a,T,q⟩:=h;obtain⟨u,rfl,b⟩:=fI r;cases b;obtain⟨z,d,P,A⟩:=I.list a;have i:=i8 d;obtain⟨y,e⟩:=i.allInts.items;have l:=P.isList;rw[e]at l;have n:0<y.size:=by
  have f:(RM y).size=y.size:=by simp[RM]
  rw[<-f,<-e,Nq,Xe i];exact Q6.mpr T
 refine max_intList (I.ok.hd c) l n λv B C g k=>?_;obtain⟨M,t,rfl,m,j⟩:=sO i e n g;exact⟨.int M,H,I.kept k,⟨t,rfl⟩,q M m j⟩
def A9(K:K'):V->V->Hp->VK->Prop:=λx d H Q=>∃(p:M0) (n:gV Int),x=.ref p/\SqL K H p (n.map V.int)/\(n=[]->Q d H)/\∀M,M∈n->(∀a∈n,a<=M)->Q (.int M) H
def KE(K:K')(t T:TE):TE:=λa H Q=>t a H λx h=>T a h λd b=>A9 K x d b Q
theorem E7{P A o:Pos}(B:X.calm=MX)(b:Gl X "max")(c:X.mg "max"=M5)(C:PE X e D)(E:PE X F T)
  (f:NS [e] X.env=[(MW,Pq e X.env)]:=by rfl):
  PE X (.Call (.Name "max" P) [e] [⟨B' "default",F,A⟩] o) (KE X.K D T):=by
 intro r s g H Q I h;refine P3<|fF I b c Tp ?_;refine VD (bX (au C (bz (X:=X)) (by rw[f];rfl) o r s g H (Av λx j=>T g j λd a=>A9 X.K x d a Q) I h) λus G ⟨J,j,L,N,k⟩=>?_) (by rw[f];rfl) (by rw[f];rfl) rfl rfl;obtain⟨x,O,l⟩:=jy k;subst O;obtain⟨u,rfl,U⟩:=fI N;refine WM<|bX (E r G g j _ L l) λW s2 ⟨d,a,i,Y,Z⟩=>Xc ?_;obtain⟨p,ns,rfl,hq,q0,q⟩:=Z;cases U;obtain⟨J,rv,pl,hz⟩:=i.list hq;have m:=i8 rv;obtain⟨y,e⟩:=m.allInts.items;have w:=pl.isList;rw[e]at w;have ab:y.size=ns.length:=by
  have l:(RM y).size=y.size:=by simp[RM]
  rw[<-l,<-e,Nq,Xe m]
 show wpAny _ _ (call (.builtin "max") [.ref p] [(M_ "default",W)]) _ _ _
 refine KX.max_listD (i.ok.hd B) w (λz v h' tk hv n=>?_) λz h' tk n=>?_
 ·obtain⟨M,t,rfl,m1,m2⟩:=sO m e z hv;exact⟨.int M,a,i.kept n,⟨t,rfl⟩,q M m1 m2⟩
 exact⟨d,a,i.kept n,Y,q0<|OO.mp<|by lia⟩
def nO(K:K'):V->Hp->VK->Prop:=λx H Q=>∃(p:M0) (n:gV Int),x=.ref p/\SqL K H p (n.map V.int)/\n.length<64/\
 ∀(l:M0) (U:gV Int),H l=M5->U.Perm n->(U.map OD.absI).Pairwise (·<=·)->Q (.ref l) (upd H l<|.lst<|U.map V.int)
def A_(K:K')(t:TE):TE:=λa H Q=>t a H λx h=>nO K x h Q
theorem nQ{P m n j:Pos}(a:Gl X "sorted")(b:X.mg "sorted"=M5)(c:Gl X "abs")(d:X.mg "abs"=M5)(o:PE X e t)
  (f:NS [e] X.env=[(MW,Pq e X.env)]:=by rfl):
  PE X (.Call (.Name "sorted" P) [e] [⟨B' "key",.Name "abs" m,n⟩] j) (A_ X.K t):=by
 intro M s r H Q I h;refine P3<|fF I a b SV ?_;refine VD (bX (au o (bz (X:=X)) (by rw[f];rfl) j M s r H (Av λx k=>nO X.K x k Q) I h) λU z ⟨A,k,l,v,g⟩=>?_) (by rw[f];rfl) (by rw[f];rfl) rfl rfl;obtain⟨x,E,p,N,rfl,w,i,q⟩:=jy g;subst E;obtain⟨u,rfl,y⟩:=fI v;cases y;refine WM<|fF l c d N8<|Xc ?_;show wpAny _ _ (call (.builtin "sorted") [.ref p] [(M_ "key",.builtin "abs")]) _ _ _
 exact yM l w i q
end L2
namespace OD
open PySem L2
noncomputable def cJ(f s:gV Int)(v:Int):Nf:=(f.filter λl=>!decide (absI l=v)).any λl=>s.contains (-l)
noncomputable def gi(f s:gV Int)(v:Int):gV Int:=(f++s.filter λl=>!f.contains l).filter λl=>!decide (absI l=v)
def Ups(c:gV Int):Prop:=(c.map absI).Pairwise (· < ·)
def Joins(f s:gV Int)(v:Int)(r:gV Int):Prop:=Ups r/\∀l,l∈r↔(l∈f\/l∈s)/\absI l≠v
theorem jH(h:absI a=absI b):a=b\/b=-a:=by
 obtain⟨_,e⟩|⟨_,e⟩:=aH a<;>obtain⟨_,E⟩|⟨_,E⟩:=aH b<;>lia
theorem Ups.tail(h:Ups (x::c)):Ups c:=(Oi.mp h).2
theorem Ups.head(h:Ups (x::c)):∀l∈c,absI x<absI l:=λl H=>(Oi.mp h).1 _<|Pp H
theorem Ups.inj(h:Ups c)(f:a∈c)(g:b∈c)(e:absI a=absI b):a=b:=by
 induction c with
 |nil=>cases f
 |cons x c I=>
  obtain i|d:=Nz.mp f
  ·obtain E|H:=Nz.mp g
   ·rw[i,E]
   have:=h.head b H;rw[<-i]at this;lia
  obtain E|H:=Nz.mp g
  ·have:=h.head a d;rw[<-E]at this;lia
  exact I h.tail d H
theorem Ups.nodup(h:Ups c):c.Nodup:=(Om.mp h).imp λ{a b} H e=>by subst e;lia
theorem jI:∀{a b:gV Int},Ups a->Ups b->(∀l,l∈a↔l∈b)->a=b
 |[],[],_,_,_=>rfl
 |[],y::b,_,_,h=>absurd ((h y).mpr Nl) (by simp)
 |x::a,[],_,_,h=>absurd ((h x).mp Nl) (by simp)
 |x::a,y::b,c,d,h=>by
  have e:x=y:=by
   obtain z|z:=Nz.mp ((h x).mp Nl)
   ·exact z
   obtain w|w:=Nz.mp ((h y).mpr Nl)
   ·exact w.symm
   have:=d.head x z;have:=c.head y w;lia
  subst e;rw[jI c.tail d.tail λz=>?_];constructor
  ·intro H;obtain w|w:=Nz.mp ((h z).mp<|Nk _ H)
   ·have:=c.head z H;rw[w]at this;lia
   exact w
  intro H;obtain w|w:=Nz.mp ((h z).mpr<|Nk _ H)
  ·have:=d.head z H;rw[w]at this;lia
  exact w
theorem Joins.uniq(h:Joins f s v a)(h':Joins f s v b):a=b:=jI h.1 h'.1 λl=>(h.2 l).trans (h'.2 l).symm
theorem gq:l∈gi f s v↔(l∈f\/l∈s)/\absI l≠v:=by
 unfold gi;rw[NM,NB,NM];constructor
 ·rintro⟨h,H⟩;refine⟨h.imp id λz=>z.1,λe=>?_⟩;rw[Ng e]at H;cases H
 rintro⟨h,H⟩;refine⟨?_,by rw[M6 H];rfl⟩;by_cases a:l∈f
 ·exact .inl a
 refine .inr ⟨h.resolve_left a,?_⟩;simpa using a
theorem jJ(h:cJ f s v=MW)(H:l∈f)(a:absI l≠v):-l∉s:=λb=>by
 have:cJ f s v=true:=N4.mpr ⟨l,NM.mpr ⟨H,by rw[M6 a];rfl⟩,by simpa using b⟩;rw[h]at this;cases this
theorem sP(H:Ups f)(c:Ups s)(h:cJ f s v=MW)(d:a∈gi f s v)(g:b∈gi f s v)(e:absI a=absI b):a=b:=by
 obtain⟨A,i⟩:=gq.mp d;obtain⟨B,j⟩:=gq.mp g;obtain A|A:=A<;>obtain B|B:=B
 ·exact H.inj A B e
 ·obtain z|z:=jH e
  ·exact z
  exact absurd (z▸B)<|jJ h A i
 ·obtain z|z:=jH e.symm
  ·exact z.symm
  exact absurd (z▸A)<|jJ h B j
 exact c.inj A B e
theorem uM(H:Ups f)(c:Ups s):(gi f s v).Nodup:=by
 refine RW _<|Pg.mpr ⟨H.nodup,RW _ c.nodup,?_⟩;intro a d b g e;subst e;obtain⟨_,h⟩:=NM.mp g;rw[Nj.mpr d]at h;cases h
theorem nT:∀{r:gV Int},(r.map absI).Pairwise (·<=·)->r.Nodup->(∀a∈r,∀b∈r,absI a=absI b->a=b)->Ups r
 |[],_,_,_=>.nil
 |x::r,h,n,i=>by
  obtain⟨d,f⟩:=Oi.mp h;obtain⟨N,g⟩:=O9.mp n;refine Oi.mpr ⟨λz H=>?_,nT f g λa j b k=>i a (Nk _ j) b<|Nk _ k⟩;obtain⟨y,c,rfl⟩:=NV.mp H;have:=d _ H;have l:absI x≠absI y:=λe=>N<|i x Nl y (Nk _ c) e▸c;lia
theorem sQ(H:Ups f)(c:Ups s)(d:cJ f s v=MW)(h:r.Perm (gi f s v))(o:(r.map absI).Pairwise (·<=·)):Joins f s v r:=
 ⟨nT o (h.nodup_iff.mpr<|uM H c) λa g b i e=>sP H c d (h.mem_iff.mp g) (h.mem_iff.mp i) e,λl=>h.mem_iff.trans gq⟩
noncomputable def dA(t:Str)(h:Nf)(c:gV Int):Int:=((c.filter λl=>!(cj t (absI l-1).toNat == h)).map absI).foldl max 0
noncomputable def aL(t:Str)(h:Nf)(c:gV Int):gV Int:=c.filter λl=>decide (absI l<=dA t h c)
theorem fM:∀(n:gV Int) (b:Int),(b<=n.foldl max b/\∀a∈n,a<=n.foldl max b)/\(n.foldl max b=b\/n.foldl max b∈n)
 |[],b=>⟨⟨SU _,λ_ h=>nomatch h⟩,.inl rfl⟩
 |x::r,b=>by
  obtain⟨⟨e,d⟩,H⟩:=fM r<|max b x;rw[QS];refine⟨⟨by lia,λa c=>?_⟩,?_⟩
  ·obtain rfl|c:=Nz.mp c
   ·lia
   exact d a c
  obtain H|H:=H
  ·by_cases g:b<=x
   ·right
    rw[H,Int.max_eq_right g];exact Nl
   left
   rw[H,Int.max_eq_left<|by lia]
  exact .inr<|Nk _ H
theorem Ba{n:gV Int}{M:Int}(f:∀a∈n,0<=a)(h:M∈n\/M=0)(H:∀a∈n,a<=M)(b:0<=M):n.foldl max 0=M:=by
 obtain⟨⟨A,c⟩,d⟩:=fM n 0;have:n.foldl max 0<=M:=by
  obtain e|e:=d
  ·rw[e];exact b
  exact H _ e
 have:M<=n.foldl max 0:=by
  obtain h|h:=h
  ·exact c _ h
  rw[h];exact A
 lia
theorem fy:z∈dU t w↔1<=z/\z<=(t.length:Int)/\cj t (z-1).toNat=w:=by
 unfold dU;rw[NV];constructor
 ·rintro⟨i,a,rfl⟩;obtain⟨h,H⟩:=NM.mp a;have:=Pj.mp h;have e:((i:Int)+1-1).toNat=i:=by lia
  rw[e];exact⟨by lia,by lia,by simpa using H⟩
 rintro⟨h,H,b⟩;refine⟨(z-1).toNat,NM.mpr ⟨Pj.mpr (by lia),?_⟩,by lia⟩;rw[b];exact RX _
theorem E8(H:1<=absI l)(b:absI l<=(t.length:Int)):(dU t (!h)).contains (absI l)=!(cj t (absI l-1).toNat == h):=by
 cases g:cj t (absI l-1).toNat == h with
 |true=>
  have G:cj t (absI l-1).toNat=h:=by simpa using g
  cases z:(dU t (!h)).contains (absI l)with
  |false=>rfl
  |true=>
   have Z:=(fy.mp<|by simpa using z).2.2;rw[G]at Z;cases h<;>cases Z
 |false=>
  have G:cj t (absI l-1).toNat=!h:=by
   cases a:cj t (absI l-1).toNat<;>cases h<;>simp_all
  have:absI l∈dU t (!h):=fy.mpr ⟨H,b,G⟩;simpa using this
noncomputable def bI(f s:gV Int)(v:Int):gV Int:=(gi f s v).mergeSort λa b=>decide (absI a<=absI b)
theorem dZ(H:Ups f)(d:Ups s)(g:cJ f s v=MW):Joins f s v (bI f s v):=by
 refine sQ H d g (R_ _ _) ?_;have h:=SO (le:=λa b:Int=>decide (absI a<=absI b)) (λa b c i j=>by simp at*;lia) (λa b=>by simp;lia)<|gi f s v;rw[Om];exact h.imp λ{a b} e=>by simpa using e
theorem Joins.eq(H:Ups f)(a:Ups s)(b:cJ f s v=MW)(h:Joins f s v r):r=bI f s v:=h.uniq<|dZ H a b
noncomputable def aS(m:Nat):Nh->MZ Nat
 |.int z=>if 0<=z/\z<(m:Int)then B' z.toNat else M5
 |_=>M5
theorem bG(h:aS m d=B' i):i<m/\d=.int (i:Int):=by
 cases d with
 |int z=>
  have H:(if 0<=z/\z<(m:Int)then B' z.toNat else M5)=B' i:=h
  split at H
  ·rename_i c;cases H;exact⟨by lia,by congr 1;lia⟩
  ·cases H
 |_=>cases h
noncomputable def cB(w:Str):Nh->Nf
 |.str x=>decide (x=w)
 |_=>MW
theorem ir(d:Nh)(w:Str):NT d (.str w)=cB w d:=by
 cases d with
 |str x=>
  rw[NT];show(x == w)=decide (x=w)
  by_cases h:x=w
  ·rw[h];simp
  ·rw[M6 h];exact OR.mpr h
 |_=>first|(unfold NT;rfl)|(simp[NT,cB])
noncomputable def bT(w:Str)(n:Nat):Nh->Nf
 |.tuple d=>decide (d.length=n)&&cB w (d.getD 0 .none)
 |_=>MW
def ap(n:Nat)(c:gV Int):Prop:=Ups c/\∀l∈c,1<=absI l/\absI l<=(n:Int)
noncomputable def fA(t:Str)(h:Nf)(s:gV (gV Int))(d:Nh):MZ (gV Int):=(aS s.length d).map λi=>aL t h<|s.getD i []
noncomputable def dL(t:Str)(h:Nf)(f s:gV Int)(z:Int):Nf:=(dU t (!h)).contains z&&(f.contains z&&(s.contains (-z)&&!cJ f s z))
noncomputable def dC(t:Str)(h:Nf)(s:gV (gV Int))(d D a:Nh):MZ (gV Int):=
 match aS s.length d,aS s.length D,a with
 |some i,B' j,.int z=>if dL t h (s.getD i []) (s.getD j []) z=MX then B' (bI (s.getD i []) (s.getD j []) z)else M5
 |_,_,_=>M5
def RV(H:Hp)(o:MZ (gV Int))(v:V):Prop:=
 match o with
 |none=>v=.non
 |some c=>CL H c v
theorem wC:∀{c:gV Int} {n b:Int},Ups c->(∀l∈c,b<absI l/\absI l<=n)->(c.length:Int)<=max 0 (n-b)
 |[],n,b,_,_=>by simp;lia
 |x::c,n,b,h,g=>by
  have G:=g x Nl;have i:=wC (n:=n) (b:=absI x) h.tail λl H=>⟨h.head l H,(g l<|Nk _ H).2⟩;rw[NC];lia
theorem aY(h:ap n c):c.length<=n:=by
 have:=wC (n:=(n:Int)) (b:=0) h.1 λl H=>⟨by have:=(h.2 l H).1;lia,(h.2 l H).2⟩;lia
noncomputable def pU(c:gV Int)(C:gV (gV Int)):Nf:=C.all λk=>c.any λl=>k.contains l
noncomputable def zD:Nh->Int
 |.int z=>z
 |_=>0
noncomputable def iW:Nh->gV Int
 |.tuple d=>d.map zD
 |_=>[]
noncomputable def gj(n:Nat)(c:gV (gV Int))(d:Nh):MZ (gV Int):=if(ny (n:Int) d&&pU (iW d) c)=MX then B' (iW d)else M5
noncomputable def gZ:Nh->Nat->Nh
 |.tuple d,i=>d.getD i .none
 |_,_=>.none
noncomputable def aO:Str:=M_ "given"
noncomputable def bx:Str:=M_ "hits"
noncomputable def aW:Str:=M_ "join"
noncomputable def aJ:Str:=M_ "drop"
noncomputable def fV(c:gV (gV Int))(d:Nh):MZ (gV Int):=(aS c.length d).map λi=>c.getD i []
noncomputable def aG(t:Str)(c:gV (gV Int))(h:Nf)(s:gV (gV Int))(d:Nh):MZ (gV Int):=
 if(!h&&bT aO 2 d)=MX then fV c (gZ d 1)
 else if(h&&bT bx 2 d)=MX then gj t.length c (gZ d 1)
 else if bT aW 4 d=MX then dC t h s (gZ d 1) (gZ d 2) (gZ d 3)
 else if bT aJ 2 d=MX then fA t h s (gZ d 1)
 else M5
noncomputable def b0(t:Str)(C:gV (gV Int))(h:Nf)(s:gV (gV Int)):gV Nh->gV (gV Int)×Nf
 |[]=>(s,MX)
 |d::r=>match aG t C h s d with
  |none=>(s,MW)
  |some c=>b0 t C h (s++[c]) r
theorem sR:∀{d:gV Nh} {n b:Int},gH n b d=MX->d=(d.map zD).map Tv/\Ups (d.map zD)/\∀l∈d.map zD,b<absI l/\absI l<=n
 |[],_,_,_=>⟨rfl,.nil,λ_ h=>nomatch h⟩
 |e::d,n,b,h=>by
  obtain⟨z,rfl⟩|c:=io e
  ·rw[im]at h
   split at h
   ·rename_i f;obtain⟨g,i,a⟩:=sR h;refine⟨?_,Oi.mpr ⟨λy j=>?_,i⟩,λl H=>?_⟩
    ·rw[NW,NW,<-g];rfl
    ·obtain⟨l,H,rfl⟩:=NV.mp j;exact(a l H).1
    obtain rfl|H:=Nz.mp H
    ·exact f
    have:=a l H;lia
   cases h
  rw[nz c]at h;cases h
theorem lY{n:Nat}{d:Nh}(h:ny (n:Int) d=MX):d=iS (iW d)/\ap n (iW d):=by
 cases d with
 |tuple D=>
  obtain⟨H,a,b⟩:=sR (d:=D) (n:=n) (b:=0) h;refine⟨?_,a,λl c=>?_⟩
  ·show R1 D=.tuple ((D.map zD).map .int)
   rw[<-H]
  ·have:=b l c;exact⟨by lia,this.2⟩
 |_=>cases h
theorem wD:∀{c:gV Int} {n b:Int},Ups c->(∀l∈c,b<absI l/\absI l<=n)->gH n b (c.map .int)=MX
 |[],_,_,_,_=>rfl
 |x::c,n,b,h,g=>by
  rw[NW,im,Nt<|g x Nl];exact wD h.tail λl H=>⟨h.head l H,(g l<|Nk _ H).2⟩
theorem E_(h:ap n c):ny (n:Int) (iS c)=true:=wD h.1 λl H=>⟨by have:=(h.2 l H).1;lia,(h.2 l H).2⟩
theorem Fa(c:gV Int):(c.map Tv).map zD=c:=by
 rw[Ot];exact List.map_id c
theorem Bb(c:gV Int):iW (iS c)=c:=Fa c
theorem lZ{n:Nat}{C:gV (gV Int)}(h:∀c∈C,ap n c){i:Nat}(H:i<C.length):ap n (C.getD i []):=by
 rw[M1,M4 H];exact h _<|PB H
theorem gJ(h:ap n c):ap n (aL t w c):=
 ⟨Om.mpr<|RW _<|Om.mp h.1,λl H=>h.2 l (NM.mp H).1⟩
theorem jK(h:ap n f)(H:ap n s)(a:cJ f s v=MW):ap n (bI f s v):=by
 obtain⟨b,c⟩:=dZ h.1 H.1 a;exact⟨b,λl d=>((c l).mp d).1.elim (h.2 l)<|H.2 l⟩
theorem Bc(H:∀c∈s,ap n c)(h:fA t w s d=B' c):ap n c:=by
 unfold fA at h;cases e:aS s.length d with
 |none=>rw[e]at h;cases h
 |some i=>
  rw[e]at h;cases h;exact gJ<|lZ H (bG e).1
theorem Bd(a:∀c∈s,ap n c)(h:dC t w s d D b=B' c):ap n c:=by
 unfold dC at h;cases e:aS s.length d with
 |none=>rw[e]at h;cases h
 |some i=>
 cases E:aS s.length D with
 |none=>rw[e,E]at h;cases h
 |some j=>
 rw[e,E]at h;cases b with
 |int z=>
  have H:(if dL t w (s.getD i []) (s.getD j []) z=MX then B' (bI (s.getD i []) (s.getD j []) z)else M5)=B' c:=h
  split at H
  ·rename_i g;cases H;unfold dL at g;rw[N5,N5,N5]at g;refine jK (lZ a (bG e).1) (lZ a (bG E).1) ?_;have:=g.2.2.2;revert this;cases cJ (s.getD i []) (s.getD j []) z<;>simp
  ·cases H
 |_=>cases h
theorem sS(a:∀c∈C,ap t.length c)(H:∀c∈s,ap t.length c)(h:aG t C w s d=B' c):ap t.length c:=by
 unfold aG at h
 split at h
 ·unfold fV at h;cases e:aS C.length (gZ d 1)with
  |none=>rw[e]at h;cases h
  |some i=>
   rw[e]at h;cases h;exact lZ a (bG e).1
 split at h
 ·unfold gj at h
  split at h
  ·rename_i g;cases h;rw[N5]at g;exact(lY g.1).2
  cases h
 split at h
 ·exact Bd H h
 split at h
 ·exact Bc H h
 cases h
theorem l_(a:∀c∈C,ap t.length c):∀{D:gV Nh} {s:gV (gV Int)},(∀c∈s,ap t.length c)->∀c∈(b0 t C w s D).1,ap t.length c
 |[],s,h=>h
 |d::r,s,h=>by
  show∀c∈(match aG t C w s d with|none=>(s,MW)|some c=>b0 t C w (s++[c]) r).1,ap t.length c
  cases e:aG t C w s d with
  |none=>exact h
  |some c=>
   refine l_ a λz H=>?_;obtain H|H:=NB.mp H
   ·exact h z H
   rw[Nd.mp H];exact sS a h e
theorem kr{d:Nh}:∀{D:gV Nh} {s o:gV (gV Int)},b0 t C H s D=(o,MX)->
  b0 t C H s (D++[d])=match aG t C H o d with|none=>(o,MW)|some c=>(o++[c],MX)
 |[],s,o,h=>by
  cases h;rfl
 |e::r,s,o,h=>by
  have a:(match aG t C H s e with|none=>(s,MW)|some c=>b0 t C H (s++[c]) r)=(o,MX):=h;show(match aG t C H s e with|none=>(s,MW)|some c=>b0 t C H (s++[c])<|r++[d])=_
  cases g:aG t C H s e with
  |none=>rw[g]at a;cases a
  |some c=>
   rw[g]at a;exact kr a
theorem jL(h:bT w n d=MX):∃D,d=.tuple D/\D.length=n:=by
 cases d with
 |tuple D=>
  have H:(decide (D.length=n)&&cB w (D.getD 0 .none))=true:=h;rw[N5]at H;exact⟨D,rfl,N0 H.1⟩
 |_=>cases h
theorem sT{n:Nat}:∀{c:gV Int} {b:Int},Jz b c->Ups c/\∀l∈c,b<absI l
 |[],_,_=>⟨.nil,λ_ h=>nomatch h⟩
 |x::c,b,h=>by
  obtain⟨d,a⟩:=sT (n:=n) h.2;refine⟨Oi.mpr ⟨λy e=>?_,d⟩,λl H=>?_⟩
  ·obtain⟨l,H,rfl⟩:=NV.mp e;exact a l H
  obtain rfl|H:=Nz.mp H
  ·exact h.1
  have:=a l H;have:=h.1;lia
theorem yP{n:Nat}{c:gV Int}(h:ClOk (n:Int) c):ap n c:=by
 obtain⟨a,b⟩:=sT (n:=n) h.1;exact⟨a,λl H=>⟨by have:=b l H;lia,h.2 l H⟩⟩
theorem uN(q:St)(p:V->Nf)(f:V->V)(E:m=M5::q)(u:d a=B' (.lst X))(o:d D=M5)(P:X.length<=900)
  (w:∀x∈X,∀c R,Same d c->(∀H,Same c H->R (p x) H)->T (B' x::q) c R)
  (z:∀x∈X,p x=MX->∀c R,Same d c->(∀H,Same c H->R (f x) H)->A (B' x::q) c R)
  (B:∀b,Same d b->b D=B' (.lst<|(X.filter p).map f)->Q (.ref D) b):iU (DL K a) D (fO 0) T A m d Q:=by
 refine c_ (K:=K) (a:=a) (xs:=X) (λi l y b=>(∃v,l=v::q)/\y=((X.take i).filter p).map f/\b D=B' (.lst y)/\Same d b) ⟨⟨M5,E⟩,rfl,aa,af o _⟩ ?_ ?_ ?_
 ·rintro i l y b _ ⟨_,_,h,k⟩;exact⟨h,SqL.of<|k _ _ u⟩
 ·rintro i x l y b r ⟨⟨v,rfl⟩,U,g,k⟩;have s:=Nc r;have e:X.take (i+1)=X.take i++[x]:=by rw[Oc,r];rfl
  refine w x s _ _ k λC j=>?_;cases n:p x with
  |true=>
   refine aB<|z x s n _ _ (k.trans j) λF t=>⟨t _ _<|j _ _ g,?_,⟨_,rfl⟩,?_,aa,(k.trans<|j.trans t).upd_new o _⟩
   ·have:y.length<=X.length:=by
     rw[U,MY];exact Oz (OX _ _) (by rw[NO];lia)
    exact aR (by lia)
   ·rw[e,Px,NI,<-U];simp[n]
  |false=>
   refine av ⟨⟨_,rfl⟩,?_,j _ _ g,k.trans j⟩;rw[e,Px,NI,<-U];simp[n]
 rintro l y b ⟨_,U,g,k⟩;rw[Nn<|Na _]at U;rw[U]at g;exact B b k g
theorem lG:∀{a:gV Nh} {s:gV (gV Int)},b0 t C h s (a++b)=if(b0 t C h s a).2=MX then b0 t C h (b0 t C h s a).1 b else b0 t C h s a
 |[],s=>rfl
 |d::a,s=>by
  show(match aG t C h s d with|none=>(s,MW)|some c=>b0 t C h (s++[c])<|a++b)=if(match aG t C h s d with|none=>(s,MW)|some c=>b0 t C h (s++[c]) a).2=MX then b0 t C h (match aG t C h s d with|none=>(s,MW)|some c=>b0 t C h (s++[c]) a).1 b else(match aG t C h s d with|none=>(s,MW)|some c=>b0 t C h (s++[c]) a)
  cases e:aG t C h s d with
  |none=>rfl
  |some c=>exact lG
theorem wE(h:b0 t C H [] (D.take i)=(s,MX))(a:D[i]?=B' d)(l:aG t C H s d=M5):b0 t C H [] D=(s,MW):=by
 have e:D=D.take i++d::D.drop (i+1):=by
  obtain⟨b,rfl⟩:=M'.mp a;rw[<-Qd b,PQ]
 rw[e,lG,h,Nt rfl];show(match aG t C H s d with|none=>(s,MW)|some c=>b0 t C H (s++[c])<|D.drop<|i+1)=_
 rw[l]
theorem run_next{t:Str}{C:gV (gV Int)}{H:Nf}{D:gV Nh}{s:gV (gV Int)}{i:Nat}{d:Nh}{c:gV Int}(h:b0 t C H [] (D.take i)=(s,MX))(a:D[i]?=B' d) (l:aG t C H s d=B' c):b0 t C H [] (D.take<|i+1)=(s++[c],MX):=by
 rw[Oc,a];show b0 t C H [] (D.take i++[d])=_
 rw[kr h,l]
theorem fb:∀{D:gV Nh} {s o:gV (gV Int)},b0 t C w s D=(o,MX)->o.length=s.length+D.length
 |[],s,o,h=>by
  cases h;rfl
 |d::r,s,o,h=>by
  have H:(match aG t C w s d with|none=>(s,MW)|some c=>b0 t C w (s++[c]) r)=(o,MX):=h;cases g:aG t C w s d with
  |none=>rw[g]at H;cases H
  |some c=>
   rw[g]at H;have:=fb H;rw[M7,NG]at this;rw[NC];lia
theorem getD_some{a:Type}{l:gV a}{i:Nat}{d:a}(h:i<l.length):l[i]?=B' (l.getD i d):=by
 rw[M1,M4 h];rfl
noncomputable def bW(o:Nf)(B:gV Nf)(l:Int):Nf:=match B[(absI l-1).toNat]? with
 |some b=>(b == decide (0<l)) == o
 |none=>MW
def holds(o:Nf)(c:gV Int)(b:gV Nf):Prop:=∃l∈c,bW o b l=MX
def bL(t:Str)(o:Nf)(N:gV Nf->Prop):Nat->gV Nf->Prop
 |0,b=>N b
 |f+1,b=>if cj t b.length=o then bL t o N f (b++[MW])\/bL t o N f (b++[MX])else bL t o N f (b++[MW])/\bL t o N f (b++[MX])
noncomputable def nU(C:gV (gV Int))(b:gV Nf):Nf:=C.all λc=>c.any<|hit b
theorem nV(h:(absI l-1).toNat<B.length):bW o (B++[b]) l=bW o B l:=by
 unfold bW;rw[N3 h]
theorem nX(h:(absI l-1).toNat=B.length):bW o (B++[b]) l=((b == decide (0<l)) == o):=by
 unfold bW;rw[N7 (by lia),h,P1];rfl
theorem dM(h:b.length<=(absI l-1).toNat):bW o b l=false:=by
 unfold bW;rw[OP h]
theorem gK:∀{f:Nat} {B:gV Nf},(∀r,r.length=f->N (B++r)->n (B++r))->bL t o N f B->bL t o n f B
 |0,B,h,w=>by
  have:=h [] rfl;rw[OQ]at this;exact this w
 |f+1,B,h,w=>by
  have i:∀b,bL t o N f (B++[b])->bL t o n f (B++[b]):=λb=>gK λr H z=>by
   rw[N1]at z ⊢;exact h ([b]++r) (by rw[M7,H];show 1+f=f+1;lia) z
  have W:if cj t B.length=o then bL t o N f (B++[MW])\/bL t o N f (B++[MX])else bL t o N f (B++[MW])/\bL t o N f (B++[MX]):=w
  show if cj t B.length=o then bL t o n f (B++[MW])\/bL t o n f (B++[MX])else bL t o n f (B++[MW])/\bL t o n f (B++[MX])
  by_cases g:cj t B.length=o
  ·rw[Nt g]at W ⊢;exact W.imp (i _)<|i _
  rw[Np g]at W ⊢;exact⟨i _ W.1,i _ W.2⟩
theorem pV:∀{f:Nat} {B:gV Nf},bL t o N f B->∃r:gV Nf,r.length=f/\N (B++r)
 |0,B,w=>⟨[],rfl,by rw[OQ];exact w⟩
 |f+1,B,w=>by
  have W:if cj t B.length=o then bL t o N f (B++[MW])\/bL t o N f (B++[MX])else bL t o N f (B++[MW])/\bL t o N f (B++[MX]):=w
  have:∃b,bL t o N f (B++[b]):=by
   by_cases g:cj t B.length=o
   ·rw[Nt g]at W;exact W.elim (λz=>⟨_,z⟩) λz=>⟨_,z⟩
   rw[Np g]at W;exact⟨_,W.1⟩
  obtain⟨b,H⟩:=this;obtain⟨r,a,h⟩:=pV H;refine⟨b::r,by rw[NC,a],?_⟩;rw[N1]at h;exact h
theorem Be(a:l∈c)(h:dA t H c<absI l):cj t (absI l-1).toNat=H:=by
 cases g:cj t (absI l-1).toNat == H with
 |true=>exact eq_of_beq g
 |false=>
  have m:absI l∈(c.filter λl=>!(cj t (absI l-1).toNat == H)).map absI:=Pp<|NM.mpr ⟨a,by rw[g];rfl⟩;have:=(fM ((c.filter λl=>!(cj t (absI l-1).toNat == H)).map absI) 0).1.2 _ m;unfold dA at h;lia
theorem wF(h:ap n c):0<=dA t H c/\dA t H c<=(n:Int):=by
 obtain⟨⟨a,_⟩,b⟩:=fM ((c.filter λl=>!(cj t (absI l-1).toNat == H)).map absI) 0;exists a;obtain e|e:=b
 ·unfold dA;rw[e];lia
 obtain⟨l,d,E⟩:=NV.mp e;unfold dA;rw[<-E];exact(h.2 l (NM.mp d).1).2
theorem Fb(b o:Nf):∃x,((x == b) == o)=false:=by
 cases b<;>cases o
 ·exact⟨MW,rfl⟩
 ·exact⟨MX,rfl⟩
 ·exact⟨MX,rfl⟩
 exact⟨MW,rfl⟩
theorem Gu(d:ap n c)(j:∀B,N B->holds o c B):∀f B,dA t (!o) c<=(B.length:Int)->(∀l∈c,bW o B l=MW)->¬bL t o N f B
 |0,B,_,h,w=>by
  obtain⟨l,H,e⟩:=j B w;rw[h l H]at e;cases e
 |f+1,B,r,h,w=>by
  have W:if cj t B.length=o then bL t o N f (B++[MW])\/bL t o N f (B++[MX])else bL t o N f (B++[MW])/\bL t o N f (B++[MX]):=w
  have go:∀b,(∀l∈c,(absI l-1).toNat=B.length->((b == decide (0<l)) == o)=MW)->¬bL t o N f (B++[b]):=λb m=>by
   refine Gu d j f (B++[b]) (by rw[M7,NG];lia) λl H=>?_;obtain g|g|g:=PM (absI l-1).toNat B.length
   ·rw[nV g];exact h l H
   ·rw[nX g];exact m l H g
   exact dM (by rw[M7,NG];lia)
  by_cases g:cj t B.length=o
  ·rw[Nt g]at W;have k:∀l∈c,(absI l-1).toNat≠B.length:=λl H e=>by
    have p:=(d.2 l H).1;have:=Be (t:=t) (H:=!o) H (by lia);rw[e,g]at this;cases o<;>cases this
   exact W.elim (go _ λl H e=>absurd e<|k l H)<|go _ λl H e=>absurd e<|k l H
  rw[Np g]at W;have a:∀b,bL t o N f (B++[b]):=λb=>by
   cases b
   ·exact W.1
   exact W.2
  by_cases z:∃l∈c,(absI l-1).toNat=B.length
  ·obtain⟨l,H,e⟩:=z;obtain⟨x,q⟩:=Fb (decide (0<l)) o;refine go x (λL i E=>?_)<|a x;have p:=(d.2 l H).1;have s:=(d.2 L i).1;have:L=l:=d.1.inj i H (by lia);rw[this];exact q
  exact go MX (λl H e=>absurd ⟨l,H,e⟩ z)<|a MX
theorem yQ(d:ap n c)(k:∀B,N B->holds o c B):∀f B,B.length+f=n->(B.length:Int)<=dA t (!o) c->bL t o N f B->bL t o (λB=>N B/\holds o (aL t (!o) c) B) f B:=by
 have s:=wF (t:=t) (H:=!o) d;intro f
 induction f with
 |zero=>
  intro B m p w;have e:dA t (!o) c=(B.length:Int):=by lia
  exists w;obtain⟨l,a,H⟩:=k B w;refine⟨l,NM.mpr ⟨a,?_⟩,H⟩;have:=(d.2 l a).2;exact Ng (by lia)
 |succ f I=>
  intro B m p w;by_cases e:(B.length:Int)=dA t (!o) c
  ·by_cases z:holds o (aL t (!o) c) B
   ·refine gK (λr _ h=>⟨h,?_⟩) w;obtain⟨l,a,H⟩:=z;exists l,a;have:(absI l-1).toNat<B.length:=by
     obtain g|g:=Pz (absI l-1).toNat B.length
     ·exact g
     rw[dM g]at H;cases H
    unfold bW at H ⊢;rw[N3 this];exact H
   refine absurd w<|Gu d k (f+1) B (by lia) λl j=>?_;by_cases g:absI l<=dA t (!o) c
   ·cases q:bW o B l with
    |false=>rfl
    |true=>exact absurd ⟨l,NM.mpr ⟨j,Ng g⟩,q⟩ z
   exact dM (by lia)
  have W:if cj t B.length=o then bL t o N f (B++[MW])\/bL t o N f (B++[MX])else bL t o N f (B++[MW])/\bL t o N f (B++[MX]):=w
  have i:∀b,bL t o N f (B++[b])->bL t o (λB=>N B/\holds o (aL t (!o) c) B) f (B++[b]):=λb=>I (B++[b]) (by rw[M7,NG];lia) (by rw[M7,NG];lia);show if cj t B.length=o then bL t o _ f (B++[MW])\/bL t o _ f (B++[MX])else bL t o _ f (B++[MW])/\bL t o _ f (B++[MX])
  by_cases g:cj t B.length=o
  ·rw[Nt g]at W ⊢;exact W.imp (i _)<|i _
  rw[Np g]at W ⊢;exact⟨i _ W.1,i _ W.2⟩
theorem gL(d:1<=z)(h:bW o B z=MX)(c:bW o B (-z)=MX):False:=by
 have e:absI (-z)=absI z:=by
  obtain⟨_,e⟩|⟨_,e⟩:=aH z<;>obtain⟨_,E⟩|⟨_,E⟩:=aH (-z)<;>lia
 unfold bW at h c;rw[e]at c;cases g:B[(absI z-1).toNat]? with
 |none=>rw[g]at h;cases h
 |some b=>
  rw[g]at h c;have H:((b == decide (0<z)) == o)=true:=h;have a:((b == decide (0 < -z)) == o)=true:=c;rw[Ng (show 0<z by lia)]at H;rw[M6 (show¬0 < -z by lia)]at a;cases b<;>cases o<;>cases H<;>cases a
theorem uO(h:ap n f)(H:ap n s)(i:cJ f s z=MW)(k:1<=z)(m:z∈f)(p:-z∈s)(a:holds o f c)(b:holds o s c):holds o (bI f s z) c:=by
 have j:=(dZ h.1 H.1 i).2;have u:absI z=z:=cW (by lia);have e:absI (-z)=z:=by
  obtain⟨_,E⟩|⟨_,E⟩:=aH (-z)<;>lia
 obtain⟨l,d,A⟩:=a;obtain⟨L,g,B⟩:=b;by_cases G:absI l=z
 ·by_cases q:absI L=z
  ·have r:l=z:=h.1.inj d m (by lia);have t:L=-z:=H.1.inj g p (by lia);rw[r]at A;rw[t]at B;exact(gL k A B).elim
  exact⟨L,(j L).mpr ⟨.inr g,q⟩,B⟩
 exact⟨l,(j l).mpr ⟨.inl d,G⟩,A⟩
theorem sU(H:1<=absI l)(a:absI l<=(b.length:Int))(h:hit b l=o):bW o b l=true:=by
 unfold hit at h;unfold bW;rw[M4 (show(absI l-1).toNat<b.length by lia)]at h ⊢;subst h;simp
theorem uP{N:gV Nf->Prop}(O:∀c∈C,ap t.length c)(o:∀c∈a,ap t.length c)(h:aG t C H a d=B' c)
  (p:∀b,N b->b.length=t.length/\nU C b=!H/\∀s∈a,holds (!H) s b) (w:bL t (!H) N t.length []):bL t (!H) (λb=>N b/\holds (!H) c b) t.length []:=by
 have P:(∀b,N b->holds (!H) c b)->bL t (!H) (λb=>N b/\holds (!H) c b) t.length []:=λg=>gK (λr _ z=>⟨z,g _ z⟩) w;unfold aG at h
 split at h
 ·rename_i F;refine P λb f=>?_;rw[N5]at F;have u:H=false:=by simpa using F.1
  subst u;unfold fV at h;cases e:aS C.length (gZ d 1)with
  |none=>rw[e]at h;cases h
  |some i=>
   rw[e]at h;have G:=(bG e).1;have I:c∈C:=by
    cases h;show C.getD i []∈C
    rw[M1,M4 G];exact PB G
   obtain⟨Q,v,_⟩:=p b f;obtain⟨l,n,T⟩:=N4.mp<|OE.mp v c I;have:=(O c I).2 l n;exact⟨l,n,sU this.1 (by lia) T⟩
 split at h
 ·rename_i J;refine P λb f=>?_;rw[N5]at J;have x:H=true:=J.1;subst x;unfold gj at h
  split at h
  ·rename_i g;cases h;rw[N5]at g;have ok:=(lY g.1).2;obtain⟨Q,v,_⟩:=p b f;have B:nU C b=false:=v;obtain⟨k,U,W⟩:=List.all_eq_false.mp B;obtain⟨l,n,y⟩:=N4.mp<|OE.mp g.2 k U;have Z:hit b l=false:=by
    cases q:hit b l with
    |false=>rfl
    |true=>exact absurd (N4.mpr ⟨l,Nj.mp y,q⟩) W
   have:=ok.2 l n;exact⟨l,n,sU this.1 (by lia) Z⟩
  cases h
 split at h
 ·refine P λb f=>?_;obtain⟨_,_,B⟩:=p b f;unfold dC at h;cases E:aS a.length (gZ d 1)with
  |none=>rw[E]at h;cases h
  |some i=>
  cases A:aS a.length (gZ d 2)with
  |none=>rw[E,A]at h;cases h
  |some j=>
  rw[E,A]at h;cases L:gZ d 3 with
  |int z=>
   rw[L]at h;have D:(if dL t H (a.getD i []) (a.getD j []) z=MX then B' (bI (a.getD i []) (a.getD j []) z)else M5)=B' c:=h
   split at D
   ·rename_i g;cases D;have m:a.getD i []∈a:=by
     rw[M1,M4 (bG E).1];exact PB _
    have M:a.getD j []∈a:=by
     rw[M1,M4 (bG A).1];exact PB _
    unfold dL at g;simp only[N5,Nj,fy]at g;obtain⟨⟨X,_,_⟩,Y,g3,g4⟩:=g;refine uO (o _ m) (o _ M) ?_ X Y g3 (B _ m)<|B _ M;revert g4;cases cJ (a.getD i []) (a.getD j []) z<;>simp
   ·cases D
  |_=>rw[L]at h;cases h
 split at h
 ·unfold fA at h;cases e:aS a.length (gZ d 1)with
  |none=>rw[e]at h;cases h
  |some i=>
   rw[e]at h;cases h;have m:a.getD i []∈a:=by
    rw[M1,M4 (bG e).1];exact PB _
   have:=yQ (t:=t) (o:=!H) (N:=N) (o _ m) (λb f=>(p b f).2.2 _ m) t.length [] (by simp) (wF<|o _ m).1 w;rw[YZ]at this;exact this
 cases h
theorem pW(k:∀c∈C,ap t.length c):∀{D:gV Nh} {a o:gV (gV Int)} {N:gV Nf->Prop},(∀c∈a,ap t.length c)->b0 t C H a D=(o,MX)->
  (∀b,N b->b.length=t.length/\nU C b=!H/\∀s∈a,holds (!H) s b)->bL t (!H) N t.length []->bL t (!H) (λb=>N b/\∀s∈o,holds (!H) s b) t.length []
 |[],a,o,N,f,h,i,w=>by
  cases h;exact gK (λr _ z=>⟨z,(i _ z).2.2⟩) w
 |d::r,a,o,N,f,h,i,w=>by
  have j:(match aG t C H a d with|none=>(a,MW)|some c=>b0 t C H (a++[c]) r)=(o,MX):=h;cases g:aG t C H a d with
  |none=>rw[g]at j;cases j
  |some c=>
   rw[g]at j;have:=pW (N:=λb=>N b/\holds (!H) c b) k (a:=a++[c]) (λz e=>by
    obtain e|e:=NB.mp e
    ·exact f z e
    ·rw[Nd.mp e];exact sS k f g) j (λb m=>by
    obtain⟨A,n,p⟩:=i b m.1;refine⟨A,n,λs l=>?_⟩;obtain z|z:=NB.mp l
    ·exact p s z
    rw[Nd.mp z];exact m.2) (uP k f g i w)
   exact gK (λr _ z=>⟨z.1.1,z.2⟩) this
theorem sV{a:Type}{p q:a->Nf}:∀{l:gV a},(∀x∈l,p x=q x)->l.all p=l.all q
 |[],_=>rfl
 |x::l,h=>by
  rw[TR,TR,h x Nl,sV λy H=>h y<|Nk _ H]
theorem nY(r:Iy 0 t.length C)(o:Nf):∀f B,B.length+f=t.length->dh t C f B.length (jB B)=o->bL t o (λB=>B.length=t.length/\nU C B=o) f B
 |0,B,h,e=>by
  have a:B.length=t.length:=by lia
  exists a;have E:AC t.length C (jB B)=o:=e;rw[<-E];unfold nU AC;refine sV λc d=>fQ λl H=>?_;have:=r c d l H;rw[EF (by lia) (by lia),a]
 |f+1,B,h,e=>by
  have E:(if cj t B.length=MX then dh t C f (B.length+1) (2*jB B) || dh t C f (B.length+1) (2*jB B+1)else dh t C f (B.length+1) (2*jB B)&&dh t C f (B.length+1) (2*jB B+1))=o:=e;have go:∀b,dh t C f (B.length+1) (2*jB B+if b=MX then 1 else 0)=o->bL t o (λB=>B.length=t.length/\nU C B=o) f (B++[b]):=λb i=>by
   refine nY r o f (B++[b]) (by rw[M7,NG];lia) ?_;rw[pG,M7,NG];exact i
  show if cj t B.length=o then bL t o _ f (B++[MW])\/bL t o _ f (B++[MX])else bL t o _ f (B++[MW])/\bL t o _ f (B++[MX])
  cases x:dh t C f (B.length+1) (2*jB B)<;>cases y:dh t C f (B.length+1) (2*jB B+1)<;>cases g:cj t B.length<;>cases o<;>rw[x,y,g]at E<;>
   first|(cases E;done)|skip
  all_goals first
   |exact .inl<|go MW x
   |exact .inr<|go MX y
   |exact⟨go MW x,go MX y⟩
theorem sW(b:∀c∈C,ap t.length c)(h:b0 t C H [] D=(o,MX))(f:[]∈o):dh t C t.length 0 0=H:=by
 have i:Iy 0 t.length C:=λc m l a=>by
  have:=(b c m).2 l a;exact⟨by lia,this.2⟩
 cases g:dh t C t.length 0 0 == H with
 |true=>exact eq_of_beq g
 |false=>
  have e:dh t C t.length 0 0=!H:=by
   revert g;cases dh t C t.length 0 0<;>cases H<;>simp
  have w:=nY i (!H) t.length [] (by simp) e;have W:=pW b (a:=[]) (λ_ z=>absurd z QI) h (λB d=>⟨d.1,d.2,λ_ z=>absurd z QI⟩) w;obtain⟨r,_,_,z⟩:=pV W;obtain⟨l,a,_⟩:=z [] f;cases a
end OD
namespace DP
open PySem
theorem Fc:pw (.type "list") "keys"=pure none:=by rw[Wy,Tg];kernel_rfl
theorem wG:lF table "dict.update.loop"=B' Builtin.«dict.update.loop»:=Za (by kernel_rfl)
theorem ma:plainId "dict.update.loop"=true:=by decide+kernel
theorem yR{Q:MZ J'->M3->Prop}(x:s.heap.get? l=B' o)(f:o.cls=.type "list")(a:o.data=.seq X k)(i:o.dict=M5)(j:A.handled=M5)
  (h:∀h' T,(∀b o,s.heap.get? b=B' o->h'.get? b=B' o)->Q M5 {s with heap:=h',toks:=T}):wpAny (ND p w) A (l4 (.ref l) "keys") Q E s:=by
 obtain⟨c,D,m,n⟩:=o;simp only at f a i;subst f a i;obtain⟨q,g,d,T,os⟩:=s;have hT:∀t,(⟨q,g,d,t,os⟩:M3).TypeIs (.ref l) "list":=λ_=>⟨_,x,rfl⟩;have r:=sub_AttributeError;have u:=F.slot_list_getattribute.lookup;have v:=F.slot_list_getattribute.bind<|.ref l;have y:=am_list_getattr_none;unfold l4 getAttrBy? getAttrBy
 repeat (any_goals (first|assumption|exact hT _|((with_reducible show wpAny _ _ (call (TQ "list.__getattribute__") _ _) _ _ _);refine RN F.slot_list_getattribute (hT _) am_entry_list_getattribute (F.args_list_getattribute_2 _ _) (meets_getattribute_miss_list l X k n "keys" _ Fc (by decide+kernel)<|by decide+kernel) ⟨x,j,λh' t e H=>?_⟩)|wp_step))
 obtain⟨z,U,B⟩:=H.there;show wpAny _ _ (X0 _ _ _ _ _ _ _) _ _ _
 unfold X0
 repeat (any_goals (first|assumption|wp_step))
 exact h _ _ H.keeps
section
variable {prog:Nm}{w:NF}{K:Type}[Ud K]{knd:KeyKind prog w K}{A:Ou}{s:M3}
theorem uQ(a:s.heap.IsTuple t x)(h:Q x.toList s):wpAny (ND prog w) A (We<|.ref t) Q E s:=by
 obtain⟨o,H,c,n,d⟩:=a;have hT:s.TypeIs (.ref t) "tuple":=⟨o,H,c⟩;unfold We;refine G'<|RY hT ?_;rw[Nt<|by decide];refine G'<|RL H d ?_;exact M9 h
theorem yS(hh:A.in1.handled=M5){u:N_}(y:l≠I)(h:d≠I)(B:d≠l)(hn:a.size<=sizeLine)(hm:M.length=a.size)
  (C:∀(i:Nat) (v:J'),a[i]?=B' v->∃c k t,M[i]?=B' c/\knd.is c.1 k=MX/\v=.ref t/\t≠d/\t≠I/\u.IsTuple t #[k,c.2]) {R:X_->M3->Prop}:
  ∀(m i:Nat) (s:M3) (T:Tok),a.size-i=m->i<=a.size->s.heap.IsListIter I l i->s.heap.IsList l a->s.heap.DictOf knd d (XZ []<|M.take i)->
   (∀b o,b≠d->b≠I->u.get? b=B' o->s.heap.get? b=B' o)->
   (∀h' f,h'.DictOf knd d (XZ [] M)->(∀b o,b≠d->b≠I->u.get? b=B' o->h'.get? b=B' o)->R (.ok<|.ret .none) {s with heap:=h',toks:=f})->
   codeAny (ND prog w) A (.builtin "dict.update.loop" ⟨[.ref d,.ref I,.int (i:Int) T,.none],[]⟩) R s:=by
 have W:=Wa (prog:=prog) (w:=w) (A:=A.in1) hh I l y a;intro m
 induction m with
 |zero=>
  intro i s T D hi g Q Z x E;have e:i=a.size:=by lia
  subst e;refine PY wG ?_;rw[Pu ma _];refine G' (m:=Ts<|.ref I)<|W.done s _ _ ⟨g,Q⟩ λh' f F=>?_;have X:∀b o,b≠I->s.heap.get? b=B' o->h'.get? b=B' o:=λb o G e=>F b o (by simpa using G) e;refine G' (m:=abC d [])<|M9<|M9 ?_;refine E h' f ?_ λb o p q e=>X b o q<|x b o p q e;rw[Nn<|by lia]at Z;obtain⟨o,J,L,H,r⟩:=Z;exact⟨o,J,L,X d o h H,r⟩
 |succ m ih=>
  intro i s T D hi g Q Z x E;have Q3:i<a.size:=by lia
  refine PY wG ?_;rw[Pu ma _];refine G' (m:=Ts<|.ref I)<|W.item i s _ _ Q3 ⟨g,Q⟩ λv h' f hv PX F=>?_;have X:∀b o,b≠I->s.heap.get? b=B' o->h'.get? b=B' o:=λb o G e=>F b o (by simpa using G) e;obtain⟨c,k,t,N,ZJ,rfl,O,j,ht⟩:=C i v hv;have P:h'.IsTuple t #[k,c.2]:=let ⟨o,H,r⟩:=ht;⟨o,X t o j<|x t o O j H,r⟩
  have U:h'.DictOf knd d (XZ []<|M.take i):=let ⟨o,J,L,H,r⟩:=Z;⟨o,J,L,X d o h H,r⟩
  have hz:(XZ []<|M.take i).length<=sizeLine:=by
   have:=merged_length_le []<|M.take i;rw[NO]at this;simp only[Sw]at this;lia
  refine G'<|OY<|G'<|RK<|uQ (s:={s with heap:=h',toks:=f}) P ?_;dsimp only;refine OY<|wpAny_dictSet_pairs (s:={s with heap:=h',toks:=f}) (hsz:=hz) ZJ U λq Y sb=>?_;have e2:XZ [] (M.take<|i+1)=stored (XZ []<|M.take i) c.1 c.2:=merged_take_succ _ _ _ _ N;refine M9 ⟨QF ma _,?_⟩;refine ih (i+1) {s with heap:=q,toks:=f+1} 0 (by lia) Q3 ?_ ?_ (by rw[e2];exact Y) (λb o p n e=>(sb.2 b p).trans<|X b o n<|x b o p n e) λh3 ab b1 b2=>E h3 ab b1 b2
  ·exact PX.1.at λo e=>(sb.2 I λz=>h z.symm).trans e
  exact PX.2.at λo e=>(sb.2 l λz=>B z.symm).trans e
theorem call_pairs{E:J'->M3->Prop}(N:A.handled=M5){Q:J'->M3->Prop}(P:s.heap.get? l=B' q)(u:q.cls=.type "list")(d:q.data=.seq I W)(x:q.dict=M5)(X:I.size<=sizeLine)(Z:m.length=I.size)
  (y:∀(i:Nat) (v:J'),I[i]?=B' v->∃f k t,m[i]?=B' f/\knd.is f.1 k=MX/\v=.ref t/\s.heap.IsTuple t #[k,f.2])
  (h:∀(h':N_) (T:Nat),h'.DictOf knd s.heap.objs.size (XZ [] m)->(∀b o,s.heap.get? b=B' o->h'.get? b=B' o)->Q (.ref s.heap.objs.size) {s with heap:=h',toks:=T}):
  wpAny (ND prog w) A (call (.type "dict") [.ref l]) Q E s:=by
 refine callType_codes (Q₁:=λO a=>O=.ref s.heap.objs.size/\a={s with heap:=s.heap.push {cls:=.type "dict",data:=.dict #[]}}) F.kt_called_dict (F.kt_typeCall_dict_1 _) F.entry_dict_init (kt_code_dict_new _ ⟨rfl,rfl⟩) ?_;rintro O a ⟨rfl,rfl⟩;have c:(s.heap.push {cls:=.type "dict",data:=.dict #[]}).DictOf knd s.heap.objs.size []:=ZP s.heap;have z:=Nb {cls:=.type "dict",data:=.dict #[]} P;have Q3:l<s.heap.objs.size:=Nx P;have B:y4 {s with heap:=s.heap.push {cls:=.type "dict",data:=.dict #[]}} (.ref l) "list":=⟨_,z,u⟩;exists c.typeIs,F.args_dict_init_2 _ _;unfold Builtin.«dict.__init__»;refine G' ?_;unfold abB;refine G'<|WH c.typeIs ?_;show wpAny _ _ (pure (s.heap.objs.size,[N9 l])) _ _ _
 refine M9 ?_;show wpAny _ _ (V0 "dict.__init__" s.heap.objs.size (.ref l) [] .none) _ _ _
 unfold V0;refine G'<|RY B ?_;rw[Nt<|by decide];refine G'<|yR z u d x (by simpa using N) λH C g=>?_;have Y:=g _ _ z;have j:H.IsList l I:=⟨_,Y,u,W,d⟩;simp only[Yh,Ss];refine G'<|QK<|G'<|Rz (s:={s with heap:=H,toks:=C}) j<|M9 ?_;exists QF ma _;have D:=NL s.heap (o:={cls:=.type "dict",data:=.dict #[]}) rfl;have G:=g _ _ D;have J:l<H.objs.size:=Nx Y;have L:s.heap.objs.size<H.objs.size:=Nx G;have M:H.DictOf knd s.heap.objs.size []:=let ⟨o,es,ep,p,r⟩:=c;⟨o,es,ep,g _ _ p,r⟩
 have hit:(H.push {cls:=.type "list_iterator",data:=.fields #[.ref l,.int 0 0]}).get? H.objs.size=B' {cls:=.type "list_iterator",data:=.fields #[.ref l,.int 0 0]}:=NL _ rfl;refine yS (knd:=knd) (by simpa using N) (u:=H.push {cls:=.type "list_iterator",data:=.fields #[.ref l,.int 0 0]}) (I:=H.objs.size) (l:=l) (a:=I) (M:=m) (NK J) (NK L) (Rj Q3) X Z (λi v hv=>?_) (I.size-0) 0 _ 0 rfl (NA _) ⟨_,hit,rfl,rfl⟩ (j.push _) (by rw[U3];exact M.push _) (λb o _ _ e=>e) λh' T b1 b2=>?_
 ·obtain⟨f,k,t,a1,a2,a3,a4⟩:=y i v hv;obtain⟨o,p,r⟩:=a4;have n:=g _ _<|Nb {cls:=.type "dict",data:=.dict #[]} p;exact⟨f,k,t,a1,a2,a3,NK<|Nx p,NK<|Nx n,o,Nb _ n,r⟩
 refine⟨rfl,h h' T b1 λb o e=>?_⟩;have U:=g _ _<|Nb {cls:=.type "dict",data:=.dict #[]} e;exact b2 b o (NK<|Nx e) (NK<|Nx U)<|Nb _ U
end
end DP
namespace L2
open PySem PySem.Spec PyProof.Rows
theorem yT{A:Ou}{E:J'->M3->Prop}{h:N_}{g:Oh YM}{d:Drawn}{t:Nat}{os:RB}{a:M0}{C:M0}{o:Obj}{K:K'}(X:K.In h)(x:h.get? a=B' o)(c:o.cls=.ref C)(G:h.get? D=B' O)(e:O.data=.cls j)(B:Py K D (.type "BaseException")=B' MX)(i:XR M h (lz<|.ref D) (.type "type"))(m:Py K C (.ref D)=B' b)(H:Q b ⟨h,g,d,t,os⟩):
  wpAny M A (excMatches (.ref a)<|.ref D) Q E ⟨h,g,d,t,os⟩:=by
 have f:=tc_notTuple;have L:=R7 (M:=M) X B;have L2:=R7 (M:=M) X m;unfold excMatches
 repeat (any_goals (first|assumption|(with_reducible refine Qv x ?_;rw[c])|(with_reducible refine Qv G ?_;rw[e])|with_reducible refine i.at ?_|with_reducible refine L.at ?_|with_reducible refine L2.at ?_|wp_step))
 cases b
 ·simp only[NQ,QA,OU]
  repeat (first|exact H|(with_reducible refine M9 ?_)|(simp only[Y4])|wp_step)
 simp only[Ss,OU]
 repeat (first|exact H|(with_reducible refine M9 ?_)|wp_step)
theorem yU(H:h.get? a=B' o)(c:o.cls=v):XR M h (lz<|.ref a) v:=by
 rw[<-c];exact(Zf H).andThen .now
def IG(C:M0)(m:Str)(s:Sp)(T:TE)(t:TA):Lv:=λE b H Q=>T b H λx h=>∃a d f,x=.ref a/\h a=B' (.ins C d f)/\f.lookup m=M5/\
 t b h λv e=>s (x::v) e Q λc _ g=>E c b g
structure pX (P:Nm)(w:NF)(K:K')(mg:Str->MZ J')(base:N_)(CX:vS)(k:Nat)(C:M0)(m:Str)(f:M0)(fd:Ny)(ps:gV Str)(sp:Sp):Prop where
 ok:aP P w K mg base CX k f fd ps sp
 b:Binds K fd ps []
 cl:Cls K C
 me:D_ K C m f
structure Ly (P:Nm)(w:NF)(K:K')(mg:Str->MZ J')(base:N_)(k:Nat)(x:Str)(C f:M0)(fd:Ny)(ps:gV Str)(sp:Sp):Prop where
 ok:aP P w K mg base cr k f fd ps sp
 b:Binds K fd ps []
 mks:Mk K C f
 at_:mg x=B' (.ref C)
section
variable {X:Cx}{j k:Nat}{C f:M0}{fd:Ny}{ps:gV Str}{sp:Sp}{x:Str}{pos:Pos}{e:OJ}{es:gV OJ}{t:TA}
theorem gk{m:Str}{T:Pos}{o:OJ}{a:TE}{p:Sem Nf}(G:pX X.prog X.w X.K X.mg X.base cr j C m f fd ps sp)(H:PE X o a)(r:Room k X.A)(h:j<=k)(b:PA X (e::es) t)
  (Y:NS (e::es) X.env=(MW,Pq e X.env)::NS es X.env:=by rfl) (Z:(Qw pos<|NS es X.env).any (·.1)=false:=by rfl)
  (c:Pq (.Call (.Attribute o m T) (e::es) [] pos) X.env=(do
   let O <-Pq o X.env
   V9 T.atName
   let (f,first) <-Uy [O] (UL O m p)
   YD pos f first (Qw pos<|NS (e::es) X.env) (VS pos<|SM [] X.env)):=by rfl):
  PE X (.Call (.Attribute o m T) (e::es) [] pos) (rR C m sp [] E0 a t):=Ed H G.cl G.me G.ok (r.mono h) G.b .nil vX b Y Z c
theorem Gv{p:Pos}(G:Ly X.prog X.w X.K X.mg X.base j x C f fd ps sp)(r:Room k X.A)(h:j+1<=k)(g:Gl X x)(a:PA X (e::es) t)(H:(x == ("__debug__":Str))=false:=by decide)
  (b:NS (e::es) X.env=(MW,Pq e X.env)::NS es X.env:=by rfl) (Z:(Qw pos<|NS es X.env).any (·.1)=false:=by rfl):
  PE X (.Call (.Name x p) (e::es) [] pos) (F8 C sp [] E0 t):=Ee G.mks G.ok (r.mono h) g G.at_ G.b .nil vX a H b Z
theorem Fd{y:gV OZ}{C D:M0}{XJ:QJ}{U:gV J'}{d:OZ}{A:gV OZ}{np W:Pos}{tb:Lw}{ts:TS}(N:X.N.Nodup)(G:X.N[i]?=B' n)(J:X.env.scope.names.lookup n=B' .local)
  (Y:X.stack=X.env::X.outer) (Xs:X.env.frame=B' X.env.locals) (Zu:X.calm=MX) (q:Q0 X.K D U XJ=MX) (be:Py X.K D (.type "BaseException")=B' MX) (ac:Py X.K C (.ref D)=B' MX) (hm:X.mg x=B' (.ref D)) (hg:Gl X x)
  (hb:ME X y tb) (hs:∀a E,PSs (X.inExc a E) (d::A) ts) (hd:(x == ("__debug__":Str))=false:=by decide) (hf:X.fn n=MX\/X.env.scope.names.lookup n=B' .local:=by first|exact .inl rfl|exact .inr rfl|assumption):
  PS X (.Try y [.ExceptHandler (B'<|.Name x np) (B' n) (d::A) W] [] [] pos) (Mh C i tb ts):=by
 intro P s σ H Dn I h;refine Y9<|OS (hb P s σ H Dn _ I h) (λl w Q=>?_) λe w Q=>?_
 ·cases l with
  |next=>exact QR Q
  |ret v=>exact Q
  |brk=>exact Q
  |cont=>exact Q
 obtain⟨L,H1,s0,H',B,a,a5,a0,rfl,M,l,rfl,kk⟩:=Q;have hA:X.A.frames=B' (X.env::X.outer):=by rw[<-Y];exact M.ok.frames
 have an:Wd B (X.env::X.outer) a (.ref C) a0 w.heap:=by rw[<-Y];exact l.fly
 refine wpAny_looks_onW hA Xs an λh4 bW as=>?_;refine wpAny_landsW bW λh5 F az=>?_;have O:=as.trans az;have I5:Inv X P L H' {w with heap:=h5}:=M.call' (a:={w with heap:=h5}) l.os (l.un F.1 O M.stkFree) (l.hok.kept F.1) l.bare λb z=>nomatch z
 obtain⟨ob,aC,aF⟩:=F.there;obtain⟨bm,N',nm,q',bs,a4,sn,sub,ab,a6,dd,k0,k1,k2,k3,k5,mN,c1,c2,c3,c4⟩:=wk I5.kIn q;refine wpAny_handleBy_cons (codeAny_handlers_test<|jk (I5.inExc a λ_ _=>False) hg hm ?_ hd) (by intro z;cases z);refine yT (K:=X.K) I5.kIn aC aF c1 rfl be (yU c1 rfl) ac<|codeAny_handlers_suite_as ?_;refine lands_againW F λh6 g a1=>?_;have a2:=O.trans a1;have a3:Wd B X.stack a (.ref C) a0 h6:=by rw[Y];exact g
 have I6:Inv X P L (upd H' a<|uF a C) {w with heap:=h6}:=M.call' (a:={w with heap:=h6}) l.os (l.unX g.1 a2 M.stkFree) (l.hokX a3) l.bare λb z=>nomatch z
 refine hZ (i:=i) (v:=.ref a) I6 N G (.inl J) rfl (λs7 I7=>?_) hf;refine OS (hs a _ P s7 _ _ _ (I7.inExc a _)<|kk a l.fresh) (λf s8 T=>?_) λ_ _ z=>z;have c:X.A.handled=none:=I.ok.hd Zu;cases f with
 |next=>
  obtain⟨m,o,p,Z⟩:=T;exact lU (p.outExc c) N G J λs9 r=>⟨_,o,r,Z⟩
 |brk=>
  obtain⟨m,o,p,Z⟩:=T;exact lU (p.outExc c) N G J λs9 r=>⟨_,o,r,Z⟩
 |cont=>
  obtain⟨m,o,p,Z⟩:=T;exact lU (p.outExc c) N G J λs9 r=>⟨_,o,r,Z⟩
 |ret u=>
  obtain⟨v,m,o,p,r8,Z⟩:=T;exact lU (p.outExc c) N G J λs9 r=>⟨v,_,o,r,r8,Z⟩
end
theorem sX(ok:HOk P w H h):∀(T:gV M0) (k:gV (bR×V)),T.length=k.length->(∀(i:Nat) (t:M0) (a:bR×V),T[i]?=B' t->k[i]?=B' a->H t=B' (.tup [kV a.1,a.2]))->
  ∃m:gV (bR×J'),KV k m/\m.length=T.length/\m.map (·.1)=k.map (·.1)/\∀(i:Nat) (t:M0),T[i]?=B' t->∃a y,m[i]?=B' a/\(bh P w).is a.1 y=MX/\h.IsTuple t #[y,a.2]
 |[],[],_,_=>⟨[],.nil,rfl,rfl,λi t e=>by simp at e⟩
 |[],_::_,e,_=>by simp at e
 |_::_,[],e,_=>by simp at e
 |t::T,a::k,e,p=>by
  obtain⟨m,A,d,f,g⟩:=sX ok T k (by simpa using e) λi c b E j=>p (i+1) c b (by simpa using E) (by simpa using j);obtain⟨_,O,r,o,l,q,n,s⟩:=(show ObjOk P w H h t (.tup [kV a.1,a.2])from ok t _<|p 0 t a rfl rfl);obtain⟨u,v,rfl,x,z⟩:=r.two;refine⟨(a.1,v)::m,.cons ⟨rfl,z⟩ A,by simp[d],by simp[f],λi c E=>?_⟩;cases i with
  |zero=>
   have B:t=c:=by simpa using E
   subst B;exact⟨(a.1,v),u,rfl,jt x,o,l,q,n,s⟩
  |succ i=>
   obtain⟨b,y,C,D,F⟩:=g i c (by simpa using E);exact⟨b,y,by simpa using C,D,F⟩
inductive Gw (xs:gV V)(H:Hp)(Q:VK):Prop
 |mk (l:M0)(T:gV M0)(k:gV (bR×V))(hx:xs=[.ref l])(h:H l=B' (.lst<|T.map V.ref))(hl:T.length=k.length)(hp:∀(i:Nat) (t:M0) (v:bR×V),T[i]?=B' t->k[i]?=B' v->H t=B' (.tup [kV v.1,v.2])) (nd:(k.map (·.1)).Nodup) (z:k.length<=9000)
  (q:∀d,H d=M5->Q (.ref d) (upd H d<|.dK k)):Gw xs H Q
theorem uR(j:X.calm=MX):fo X (.type "dict") Gw:=by
 intro M8 s σ H xs us Q I r h;obtain⟨l,t,k,rfl,o,p,w,N,z,q⟩:=h;obtain⟨u,rfl,x⟩:=r.one;cases x;obtain⟨z1,O,n,A,P,e⟩:=I.lstM o;obtain⟨m,B,a2,C,D⟩:=sX I.hok t k p w;have E:O.length=t.length:=by
  rw[<-P,MY]
 refine DP.call_pairs (knd:=bh X.prog X.w) (m:=m) (I.ok.hd j) e rfl rfl rfl (by rw[Nq];lia) (by rw[Nq];lia) (λi v F=>?_) λh' T f G=>?_
 ·have a:O[i]?=B' v:=by simpa using F
  have J:i<t.length:=by
   have:=(M'.mp a).1;lia
  have g:t[i]?=B' t[i]:=M4 J;obtain⟨L,y,M,U,W⟩:=D i _ g;have Y:(t.map V.ref)[i]?=B' (.ref t[i]):=by rw[Nu,g];rfl
  obtain⟨v',c,d⟩:=A.get Y;rw[a]at c;cases c;cases d;exact⟨L,y,_,M,U,rfl,W⟩
 rw[merged_nil_of_nodup m<|by rw[C];exact N]at f;refine⟨.ref s.heap.objs.size,_,I.laid (a:=s.heap.objs.size) (o:=.dK k) (t':=T) (λb q Z=>G b q Z) (Na _)<|qJ (OG<|bH<|by lia) (OR.mpr<|OV<|NK I.big) B f,rfl,q _<|I.hok.fresh<|Na _⟩
theorem Ff(x:X.xe=λ_ _=>False)(c:PSs X b t):PS X (.Try b (a::i) [] [] p) t:=by
 intro M s d H D I h;refine Y9<|OS (c M s d H D I h) (λf g q=>?_) λe g q=>?_
 ·cases f with
  |next=>exact QR q
  |ret v=>exact q
  |brk=>exact q
  |cont=>exact q
 rw[x]at q;exact q.elim
end L2
namespace L2
open PySem
theorem yV(Pv:Nat->St->gV V->Hp->Prop)(l:Pv 0 f [] (upd n D<|.lst []))(o:∀i b Y H,i<=X.length->Pv i b Y H->H D=B' (.lst Y)/\SqL K H a X)
  (s:∀i x b Y H t,X[i]?=B' x->Pv i b Y H->H t=M5->g (.ref t) b (upd H t<|.tup [.int (i:Nat),x]) λd r=>T d r λc h=>if c=MX then u d h λy j=>j D=B' (.lst Y)/\Y.length<sizeLine/\Pv (i+1) d (Y++[y]) (upd j D<|.lst<|Y++[y])else Pv (i+1) d Y h)
  (w:∀b Y H,Pv X.length b Y H->Q (.ref D) H):iU (Io K a) D g T u f n Q:=by
 exists λi m b Y H=>m=X.length-i/\i<=X.length/\Pv i b Y H,⟨X.length,by simp,NA _,l⟩;rintro i m b Y H ⟨rfl,z,p⟩;obtain⟨A,q⟩:=o i b Y H z p;exists A;by_cases k:i<X.length
 ·refine .inr ⟨⟨X,X[i],q,by simp[k]⟩,Pv<|i+1,λB C E P=>⟨X.length-(i+1),by lia,rfl,k,P⟩,λx E y=>?_⟩;obtain⟨t,v,F,rfl,rfl,y⟩:=y;exact s i v b Y H t (y X q) p F
 have e:i=X.length:=by lia
 subst e;exact .inl ⟨⟨X,q,Na _⟩,w b Y H p⟩
end L2
namespace L2
open PySem PySem.Spec PyProof.Rows
noncomputable def Gx(e C d:M0):HO:=.ext λh=>∃(o:Obj) (v:Oh J'),h.get? e=B' o/\o.cls=.ref C/\o.dict=B' d/\o.data=.fields v
def IsExc(H:Hp)(e C:M0):Prop:=H e=B' (uF e C)\/∃d,H e=B' (Gx e C d)
theorem IsExc.obj(x:IsExc H e C)(ok:HOk P w H h):∃o,h.get? e=B' o/\o.cls=.ref C:=by
 obtain x|⟨d,x⟩:=x
 ·obtain⟨⟨o,v,a,b,_⟩,_⟩:=(show ObjOk P w H h e (uF e C)from ok e _ x);exact⟨o,a,b⟩
 obtain⟨⟨o,v,a,b,_⟩,_⟩:=(show ObjOk P w H h e (Gx e C d)from ok e _ x);exact⟨o,a,b⟩
def Ml(K:K'):gV V->Hp->VK->Prop:=λx H Q=>∃(e C:M0) (v:V) (c:J') (b:Nf),x=[.ref e,v]/\(match v with|.ref a=>c=.ref a|.ty n=>c=.type n|_=>False)/\IsExc H e C/\gY K C/\N6 K (.ref C) c=B' b/\Q (.bl b) H
theorem bQ:fo X (.builtin "isinstance") (Ml X.K):=by
 intro M s k H l U Q I r h;obtain⟨E,C,v,c,b,rfl,d,f,T,e,q⟩:=h;obtain⟨u,w,rfl,x,y⟩:=rQ r;cases(show u=N9 E from x);have g:w=c:=by
  cases v with
  |ref a=>exact(show w=N9 a from y).trans (show c=N9 a from d).symm
  |ty n=>exact(show w=Rh n from y).trans (show c=Rh n from d).symm
  |_=>exact d.elim
 subst g;obtain⟨o,i,j⟩:=f.obj I.hok;exact Pi (AL T) I.kIn ⟨o,i,j⟩ e (λz=>nomatch z) λt=>⟨.bl b,H,I.tok _,rfl,q⟩
theorem IH:OpR X (ON .Is) (λx y H Q=>∃a b,x=.bl a/\y=.bl b/\Q (.bl<|a == b) H):=by
 rintro M s d H x y v u Q I r c ⟨a,b,rfl,rfl,q⟩;cases r;cases c;exact PySem.wpAny_is_plain rfl ⟨.bl<|a == b,H,I,by cases a<;>cases b<;>rfl,q⟩
end L2
namespace OD
open PySem L2
theorem wI:∀{D:gV Nh} {s o:gV (gV Int)},b0 t C H s D=(o,MX)->∃T,o=s++T/\T.length=D.length/\∀k d,D[k]?=B' d->aG t C H (s++T.take k) d=B' (T.getD k [])
 |[],s,o,h=>by
  cases h;exact⟨[],(OQ _).symm,rfl,λk d e=>by simp at e⟩
 |e::r,s,o,h=>by
  have a:(match aG t C H s e with|none=>(s,MW)|some c=>b0 t C H (s++[c]) r)=(o,MX):=h;cases g:aG t C H s e with
  |none=>rw[g]at a;cases a
  |some c=>
   rw[g]at a;obtain⟨T,b,f,i⟩:=wI a;refine⟨c::T,by rw[b,N1];rfl,by rw[NC,NC,f],λk d E=>?_⟩;cases k with
   |zero=>
    cases(show B' e=B' d from E);rw[U3,OQ];exact g
   |succ k=>
    have:=i k d E;rw[N1]at this;exact this
theorem uS(h:b0 t c w [] D=(o,MX))(a:D[k]?=B' d):aG t c w (o.take k) d=B' (o.getD k []):=by
 obtain⟨T,H,_,b⟩:=wI h;rw[Sv]at H;subst H;exact b k d a
theorem kt(h:aJ≠w)(n:Nat)(z:Int):bT w n (.tuple [.str aJ,.int z])=false:=by
 show(decide (2=n)&&decide (aJ=w))=MW
 rw[M6 h,PV]
theorem ku:aG t c h s (.tuple [.str aJ,.int z])=fA t h s (.int z):=by
 unfold aG;rw[kt (by decide+kernel),kt (by decide+kernel),kt (by decide+kernel),PV,PV,Np (by decide),Np (by decide),Np (by decide),Nt (show bT aJ 2 (.tuple [.str aJ,.int z])=MX by show(decide (2=2)&&decide (aJ=aJ))=MX;simp)];rfl
end OD
namespace L2
open PySem PySem.Spec PyProof.Rows
def Fh:V->gV V->Hp->VK->Prop:=λx v H Q=>∃(d:Nh) (D:gV Nh) (y:V) (l:M0) (X:gV V) (j:Nat),x=.ref l/\v=[y]/\H l=B' (.lst X)/\dw H D X/\RD H d y/\d.canLay0=MX/\OA D=MX/\d.depth<=60/\j<D.length/\NT (D.getD j .none) d=MX/\(∀m,m<j->NT (D.getD m .none) d=MW)/\Q (.int j) H
theorem pZ(T:X.A.units+64<QT):J5 X "list.index" Fh:=by
 intro U s W H x Y v us Q I p w h;obtain⟨D,d,y,l,xs,j,rfl,rfl,k,Z,g,A,C,c3,hj,hit,B,q⟩:=h;cases p;obtain⟨u,rfl,E⟩:=w.one;obtain⟨z,O,n,r,hl,e⟩:=I.lstM k;obtain⟨as,G⟩:=dj I D y u g E;obtain⟨bs,J⟩:=dj I (.list d) (.ref l) (.ref l) (bP k Z) rfl;have b:∃c,YI s.heap O d c:=by
  cases J with
  |list o h2 L M=>
   rw[e]at o;cases o;cases L;exact⟨_,by simpa using M⟩
 obtain⟨c,b⟩:=b;have i:YI s.heap O.toArray.toList d c:=by simpa using b
 have a:=X7 d O c C b;have Pd:O.length=d.length:=by rw[<-a,MY]
 have t:∀m f,NT (UC s.heap O[m]) D=NT (d.getD m .none) D:=λm f=>by
  have:d.getD m .none=UC s.heap O[m]:=by
   rw[<-a,M1,Nu,M4 f];rfl
  rw[this]
 have N:min (Qy d) D.depth<=D.depth:=Tz _ _;refine RN Tn ⟨_,e,rfl⟩ F.entry_list_index (F.args_list_index_2 _ _) (SeqAt.list_indexAt l O.toArray n M5 #[] u (λy=>NT (UC s.heap y) D) j (by simpa using(by lia:j<O.length)) ?_ ?_ ?_) ⟨e,Zg i G C A (by lia),?_⟩
 ·have:=O7;lia
 ·rw[Xh];exact(t j<|by lia).trans hit
 ·intro m f P;rw[Xh];exact(t m<|by simpa using f).trans<|B m P
 exact⟨.int j,H,I.tok _,⟨_,rfl⟩,q⟩
end L2
namespace DP
open PySem
section
variable {prog:Nm}{w:NF}{K:Type}[Ud K]{knd:HeapKind prog w K}{A:Ou}{s:M3}
theorem yX{E:J'->M3->Prop}{v:J'}{Q:J'->M3->Prop}(u:knd.room A)(Z:knd.is s.heap k a)(o:s.heap.DictOfH knd d X)(H:X.length<=sizeLine)
  (q:∀p,Vi X k=B' p->Q p.2 {s with toks:=s.toks+knd.draws k})
  (r:Vi X k=M5->∀h',h'.DictOfH knd d (lD X k a v)->QC d s.heap h'->Q v {s with heap:=h',toks:=s.toks+knd.draws k}):wpAny (ND prog w) A (W2 d (.ref a) v) Q E s:=by
 obtain⟨O,D,t,G,B,g,b,i,c⟩:=o;unfold W2;refine OY<|G'<|knd.pyHash u Z<|G'<|wpAny_dictFind_heap (s:={s with toks:=s.toks+knd.draws k}) u Z G g b i c (λn=>?_) λj p l=>?_
 ·have m:=atKey_none_of_get n;have e:k∉X.map (·.1):=not_mem_keys_of_get n;have st:=storedH_new m a v;refine G'<|QK<|G'<|wpAny_updateDictKeys (hz:=by rw[size_of_entries b];exact H) (s:={s with toks:=s.toks+knd.draws k}) G g<|M9<|r m _ ?_ (O8 ..);refine⟨_,_,t+1,Qf _ G<|Obj.isFreed_of_dict<|W6 g _,B.mapDictKeys _,W6 g _,?_,λx h=>?_,?_⟩
  ·rw[st];simp[b,entryOfKey]
  ·rw[st]at h;obtain z|z:=NB.mp h
   ·exact knd.keeps (i x z) G g (O8 ..)
   rw[Nd.mp z];exact knd.keeps Z G g (O8 ..)
  rw[st,NI,Pg];exact⟨c,by simp,λx h y C z=>by
   have f:y=k:=by simpa using C
   subst z f;exact e h⟩
 refine G'<|wpAny_dictEntries (s:={s with toks:=s.toks+knd.draws k}) G g ?_;rw[entry_at b j,l];exact G'<|QK<|M9<|q p<|atKey_of_get c l
theorem meetsH_setd(b:(d == P4)=MW)(v:J'):MeetsIn prog w (Builtin.«dict.setdefault» ⟨[.ref d,.ref a,v],[]⟩) (λA R s=>knd.room A.in1/\∃k x,knd.is s.heap k a/\s.heap.DictOfH knd d x/\x.length<=sizeLine/\
  (∀p,Vi x k=B' p->R (.ok<|.ret p.2) {s with toks:=s.toks+knd.draws k})/\
  (Vi x k=M5->∀h',h'.DictOfH knd d (lD x k a v)->QC d s.heap h'->R (.ok<|.ret v) {s with heap:=h',toks:=s.toks+knd.draws k})):=
 .of_wp λA R s ⟨u,k,x,Z,m,z,c,e⟩=>by
  unfold Builtin.«dict.setdefault» aaD;refine G'<|G'<|WH m.typeIs ?_;show wpAny _ _ (pure (d,N9 a,B' v)) _ _ s
  refine M9 ?_;show wpAny _ _ (if(d == P4)=MX then _ else(W2 d (.ref a) v >>=_)) _ _ s
  rw[b,Np Ni];exact G'<|yX u Z m z (λp f=>M9 ⟨_,rfl,c p f⟩) λn h' h H=>M9 ⟨v,rfl,e n h' h H⟩
end
end DP
namespace L2
open PySem PySem.Spec PyProof.Rows
def Gy(H:Hp)(a:M0)(y z:V)(Q:VK):Prop:=(∃v,DGet H a y (B' v)/\Q v H)\/(DGet H a y M5/\∃h,DPut H a y z h/\Q z h)
theorem KF(e:H a=B' (.dK k))(g:Rd H a (.dK A)):A=k:=by
 obtain g|⟨_,g⟩:=g
 ·rw[e]at g;cases g;rfl
 rw[e]at g;cases g
theorem KG(e:H a=B' (.dT k))(g:Rd H a (.dT A)):A=k:=by
 obtain g|⟨_,g⟩:=g
 ·rw[e]at g;cases g;rfl
 rw[e]at g;cases g
theorem II{R:J'->M3->Prop}(hu:A.units+1<QT)(I:Inv X M8 σ H s)(g:Gy H a y z Q)(O:RelV y u)(P:RelV z r)(h:∀v Y W s',Inv X M8 σ Y s'->RelV v W->Q v Y->R W s'):
  wpAny (ND X.prog X.w) A (call (.builtin "dict.setdefault") [.ref a,u,r]) R E s:=by
 obtain⟨v,⟨d,k,e,B,l⟩|⟨d,k,b,e,B,J,l⟩,q⟩|⟨⟨d,k,e,B,l⟩|⟨d,k,b,e,B,J,l⟩,Y,p,q⟩:=g
 ·subst B;obtain⟨Z,n,L,j,D⟩:=li I.hok e;obtain⟨W,C,F⟩:=RelO.some_of (v:=v) (o:=Vf L k) (by rw[l];exact j.val k);refine V' P0 D.typeIs Qs (Qk _ _ _) (XA (bh X.prog X.w) a (jt O) n r) ⟨L,D,by rw[<-j.length];exact Z,λv2 m=>?_,λo=>?_⟩
  ·rw[C]at m;cases m;exact h v H W _ (I.tok _) F q
  rw[C]at o;cases o
 ·subst B;cases(show u=N9 b from O);obtain⟨Z,n,M,j,D⟩:=ln I.hok e;obtain⟨W,C,F⟩:=RelO.some_of (v:=v) (o:=(Vi M k).map (·.2)) (by rw[l];exact j.val k);refine V' P0 D.typeIs Qs (Qk _ _ _) (DP.meetsH_setd (knd:=UJ<|bh X.prog X.w) n r) ⟨QL hu,k,M,i9 I.hok J,D,by rw[<-Paired.length j];exact Z,λp hp=>?_,λo=>?_⟩
  ·rw[hp]at C;cases C;exact h v H _ _ (I.tok _) F q
  rw[o]at C;cases C
 ·subst B;obtain⟨Z,n,L,j,D⟩:=li I.hok e;have o:Vf L k=none:=RelO.none_of (by rw[l];exact j.val k);obtain⟨G,i,w,f,l2,T⟩|⟨G,i,b2,w,f,_⟩:=p
  ·obtain rfl:=KF w e;obtain rfl:k=i:=by cases k<;>cases i<;>cases f<;>rfl
   subst T;have hl:(dg d k z).length<=sizeLine:=by have:=dY d k z;lia
   refine V' P0 D.typeIs Qs (Qk _ _ _) (XA (bh X.prog X.w) a (jt O) n r) ⟨L,D,by rw[<-j.length];exact Z,λv2 m=>(by rw[o]at m;cases m),λ_ h' t hs=>?_⟩;have he:∃q,h'.get? a=B' q:=let ⟨q,_,_,U,_⟩:=t;⟨q,U⟩
   exact h z _ r _ (ju I (by rw[w];exact Qa) hs he<|qJ hl n (j.put k P) t) P q
  cases k<;>cases f
 subst B;cases(show u=N9 b from O);obtain⟨Z,n,M,j,D⟩:=ln I.hok e;have o:(Vi M k).map (·.2)=none:=RelO.none_of (by rw[l];exact j.val k);obtain⟨G,i,w,f,l2,T⟩|⟨G,i,b2,w,f,N,l2,T⟩:=p
 ·cases i<;>cases f
 obtain rfl:=KG w e;cases f;have ek:i=k:=by
  rw[J]at N;have e3:k.map kV=i.map kV:=HO.tup.inj<|Nw N;exact(Yk (λx y ab=>by cases x<;>cases y<;>cases ab<;>rfl)|>.mp e3).symm
 subst ek;subst T;have hl:(dg d i z).length<=sizeLine:=by have:=dY d i z;lia
 refine V' P0 D.typeIs Qs (Qk _ _ _) (DP.meetsH_setd (knd:=UJ<|bh X.prog X.w) n r) ⟨QL hu,i,M,i9 I.hok J,D,by rw[<-Paired.length j];exact Z,λp hp=>(by rw[hp]at o;cases o),λ_ h' t hs=>?_⟩;obtain⟨q2,es,ep,U,g2,g3,g4,_,g5⟩:=t;have ac:ObjOk X.prog X.w (upd H a<|.dT<|dg d i z) h' a (.dT<|dg d i z):=by
  refine⟨hl,n,_,(j.put i J P).keeps λc ys ec=>?_,q2,es,ep,U,g2,g3,g4,g5⟩;rw[aj<|b_ ec w (λz=>nomatch z)];exact ec
 exact h z _ r _ (ju I (by rw[w];exact Qa) hs ⟨q2,U⟩ ac) P q
def IJ(t T c:TE):TE:=λb H Q=>t b H λx h=>∃a,x=.ref a/\MB h a/\T b h λy d=>c b d λz e=>Gy e a y z Q
theorem Bf(c:X.A.units+1<QT)(j:PE X o t)(k:PE X e T)(l:PE X f n)(m:M2 X o "setdefault" p e f U):PE X (.Call (.Attribute o "setdefault" p) [e,f] [] U) (IJ t T n):=by
 intro M s b H Q I h;refine wpAny_Call_method m.base m.few m.line PySem.F.plainAttrs_dict P0 PySem.F.type_dict_setdefault<|bX (j M s b H _ I h) λu w ⟨x,A,i,B,a,E,d,C⟩=>?_;subst E;obtain rfl:u=N9 a:=B;obtain⟨D,F,_⟩:=HV i d;exists D,F;rw[m.trees];refine S4 rfl<|T9<|SD<|bX (k M w b A _ i C) λiv G ⟨y,J,L,N,O⟩=>SD<|bX (l M G b J _ L O) λfv s3 ⟨z,H3,P,W,g⟩=>Vm ?_;exact II c P g N W λv Y w' s4 Z r q=>⟨v,Y,Z,r,q⟩
theorem Bg(h:PE X k t)(H:PE X v T):PE X (.Dict [B' k] [v] p) (rZ [(t,T)]):=vW (mS h H vV) rfl rfl (Zp _ _) (by show 1<=15;decide)
theorem sY(H:PE X k a)(b:PE X v c)(d:PE X e t)(h:PE X f T):PE X (.Dict [B' k,B' e] [v,f] p) (rZ [(a,c),(t,T)]):=vW (mS H b<|mS d h vV) rfl rfl (Zp _ _) (by show 2<=15;decide)
theorem yY{K:K'}{a:OJ}{t:TE}(e:X.K=K)(b:PE X a t)(c:∀I,isTrue a X.env I=(do let v <-I;V9 a.pos;Uy [v] (truthy v))):
  PT X a (λd H Q=>t d H λx h=>∃k,DX K x h k/\Q k h):=by
 subst e;exact rP b c
theorem Fi{K:K'}{e:OJ}{f:Str}{p:Pos}{t:TE}(E:X.K=K)(h:PE X e t)(H:Sj e f X.env (Pq e X.env)=Pq e X.env):PE X (.Attribute e f p) (HH K t f):=by
 subst E;exact bo h H
def Fj:V->gV V->Hp->VK->Prop:=λx v H Q=>∃(D:Nh) (s:gV Nh) (y:V) (l:M0) (X:gV V),x=.ref l/\v=[y]/\H l=B' (.lst X)/\dw H s X/\RD H D y/\D.canLay0=MX/\OA s=MX/\D.depth<=60/\Q (.int ((s.countP λd=>NT d D:Nat):Int)) H
theorem yZ(J:X.A.units+64<QT):J5 X "list.count" Fj:=by
 intro M s L H x N v U Q I k m h;obtain⟨D,a,y,l,P,rfl,rfl,i,Z,f,o,C,T,q⟩:=h;cases k;obtain⟨u,rfl,p⟩:=m.one;obtain⟨z,O,n,r,W,e⟩:=I.lstM i;obtain⟨Y,t⟩:=dj I D y u f p;obtain⟨bs,w⟩:=dj I (.list a) (.ref l) (.ref l) (bP i Z) rfl;have b:∃c,YI s.heap O a c:=by
  cases w with
  |list j h2 B E=>
   rw[e]at j;cases j;cases B;exact⟨_,by simpa using E⟩
 obtain⟨c,b⟩:=b;have g:YI s.heap O.toArray.toList a c:=by simpa using b
 have A:=X7 a O c C b;have G:min (Qy a) D.depth<=D.depth:=Tz _ _;refine RN W9 ⟨_,e,rfl⟩ F.entry_list_count (F.args_list_count_2 _ _) (SeqAt.list_countAt l O.toArray n M5 #[] u λy=>NT (UC s.heap y) D) ⟨e,Zg g t C o (by lia),?_⟩;exists .int _,H,I.tok _,⟨_,rfl⟩;have:O.toArray.toList.countP (λy=>NT (UC s.heap y) D)=a.countP λd=>NT d D:=by
  rw[<-A,Z1];rfl
 rw[this];exact q
theorem iu{P:Sem Nf}(G:pX X.prog X.w X.K X.mg X.base cr j C m f F b s)(H:PE X o t)(r:Room k X.A)(h:j<=k)
  (a:Pq (.Call (.Attribute o m T) [] [] p) X.env=(do
   let O <-Pq o X.env
   V9 T.atName
   let (f,first) <-Uy [O] (UL O m P)
   YD p f first (Qw p<|NS [] X.env) (VS p<|SM [] X.env)):=by rfl):
  PE X (.Call (.Attribute o m T) [] [] p) (rR C m s [] E0 t gE):=zM H G.cl G.me G.ok (r.mono h) G.b .nil vX a
theorem Fk:OpR X (ON .IsNot) (λx y H Q=>∃a b,x=.bl a/\y=.bl b/\Q (.bl (!(a == b))) H):=by
 rintro M s d H x y v u Q I r c ⟨a,b,rfl,rfl,q⟩;cases r;cases c;exact PySem.wpAny_isNot_plain rfl ⟨.bl (!(a == b)),H,I,by cases a<;>cases b<;>rfl,q⟩
end L2
namespace L2
open PySem PySem.Spec PyProof.Rows
theorem d_{N Q:gV Str}{s:T5}(a:s.kind=.function:=by rfl)(b:s.isCoroutine=false:=by rfl)(c:s.isGenerator=false:=by rfl)(d:N.Nodup:=by decide+kernel)(e:N.take Q.length=Q:=by rfl)
  (f:∀x∈Q,s.names.lookup x=B' .local\/s.names.lookup x=B' .cell:=by decide+kernel) (g:∀y∈s.names,y.2≠.free:=by decide+kernel):al N Q s:=⟨a,b,c,d,e,f,g⟩
theorem nD(l:gV Str)(h:l.Nodup:=by decide+kernel):l.Nodup:=h
theorem cS{X:Cx}{s:T5}{C:gV (Str×M0)}{N:gV Str}{I:gV (MZ Nat)}(a:closureFor s X.env=pure C:=by with_unfolding_all rfl)
  (b:AllIn (λy=>X.env.cells.lookup y) C:=by with_unfolding_all first|exact trivial|exact⟨rfl,trivial⟩|exact⟨rfl,rfl,trivial⟩|exact⟨rfl,rfl,rfl,trivial⟩|exact⟨rfl,rfl,rfl,rfl,trivial⟩)
  (c:∀n,((RA s X.env).names.all λq=>!(decide (q.2=.cell) || decide (q.2=.free)) || ((OH n s.names C).lookup q.1).isSome)=true:=by exact λ_=>by rfl)
  (d:((N.zip I).all λp=>match p.2 with
  |none=>MX
  |some i=>decide (X.N[i]?=B' p.1)&&(decide (X.env.kindOf p.1=B' .cell) || decide (X.env.kindOf p.1=B' .free))&&(decide ((RA s X.env).names.lookup p.1=B' .cell) || decide ((RA s X.env).names.lookup p.1=B' .free))&&(s.names.all λq=>!decide (q.2=.cell) || !decide (q.1=p.1)))=true:=by rfl)
  (e:I.length=N.length:=by rfl) (f:s.kind=.function:=by rfl) (g:∀y∈s.names,y.2=.local->s.names.lookup y.1=B' .local:=by decide):CompSc X s C N I:=⟨a,b,c,d,e,f,g⟩
section
variable {P:Nm}{w:NF}{K:K'}{mg:Str->MZ J'}{base:N_}{x qual:Str}{st:OZ}{f:M0}{fd:Ny}{N ps:gV Str}{k:Nat}{sp:Sp}
theorem Fun.okA(F:Fun K x qual st f fd)(S:al N ps (ah st))
  (h:∀q A o s H v Q E,Room k (A.deeper<|O6 qual (ah st) s.heap.objs.size f q)->sp v H Q E->
   ∃t,PSs (jn cr P w K mg base N qual (ah st) f q A o s H E).nox (fi st) t/\t {nx:=λ_ a=>Q .non a,rt:=Q} (start N v) H)
  (len:∀v H Q E,sp v H Q E->v.length=ps.length:=by intro _ _ _ _ h;repeat (first|(cases h<;>subst_vars<;>rfl)|obtain⟨_,h⟩:=h)):aP P w K mg base cr (k+1) f fd ps sp:=F.ok S len h
theorem Fun.oXA(F:Fun K x qual st f fd)(S:al N ps (ah st))
  (h:∀q A o s H v Q E,Room k (A.deeper<|O6 qual (ah st) s.heap.objs.size f q)->sp v H Q E->
   ∃t,PSs (jn (zy P w) P w K mg base N qual (ah st) f q A o s H E) (fi st) t/\t {nx:=λ_ a=>Q .non a,rt:=Q} (start N v) H)
  (len:∀v H Q E,sp v H Q E->v.length=ps.length:=by intro _ _ _ _ h;repeat (first|(cases h<;>subst_vars<;>rfl)|obtain⟨_,h⟩:=h)):aP P w K mg base (zy P w) (k+1) f fd ps sp:=F.okX S len h
end
def Fe(P:Nm)(w:NF)(K:K')(m:Str->MZ J')(b:N_)(k:Nat)(x:Str)(s:Sp):Prop:=∃f F p,Fn P w K m b k x f F p s
theorem cE{X:Cx}{j:Nat}{k:Nat}{s:Sp}{x:Str}{p:Pos}{P:Pos}{e:OJ}{E:gV OJ}{t:TA}(G:Fe X.prog X.w X.K X.mg X.base j x s)(r:Room k X.A)(a:PA X (e::E) t)(h:j<=k:=by lia)(g:Gl X x:=by rfl)(H:(x == ("__debug__":Str))=false:=by decide)
  (b:NS (e::E) X.env=(MW,Pq e X.env)::NS E X.env:=by rfl) (Z:(Qw P<|NS E X.env).any (·.1)=false:=by rfl):PE X (.Call (.Name x p) (e::E) [] P) (vT s [] E0 t):=by
 obtain⟨_,_,_,G⟩:=G;exact Kn G r h g a H b Z
section
variable {X:Cx}{pos:Pos}{x:Str}
theorem a_(h:PE X a t)(H:PE X b T)(s:qG b:=by exact λ_ _=>rfl):PE X (.Subscript a b pos) (vM (Ga X.K) t T):=F_ zP h H s
theorem KH{a:OJ}{b:OJ}{t:TE}{T:TE}{K:K'}(h:PE X a t)(H:PE X b T)(s:qG b:=by exact λ_ _=>rfl)(e:X.K=K:=by rfl):PE X (.Subscript a b pos) (vM (Ga K) t T):=F_ (EB e) h H s
theorem cM{e:OJ}{t:TE}{U:Pos}(i:Nat)(h:X.N.Nodup)(H:PE X e t)(a:X.N[i]?=B' x:=by rfl) (b:F3 X.env.scope x:=by exact Zj rfl) (s:UK e (B'<|.Name x U) pos.line X.env=pure false:=by rfl) (f:X.fn x=MX\/X.env.scope.names.lookup x=B' .local:=by first|exact .inl rfl|exact .inr rfl|assumption):
  PS X (.Assign [.Name x U] e pos) (DU t<|fO i):=eU h a b H s f
theorem eu(i:Nat)(h:X.N.Nodup)(H:X.N[i]?=B' x:=by rfl) (a:F3 X.env.scope x:=by exact Zj rfl) (f:X.fn x=MX\/X.env.scope.names.lookup x=B' .local:=by first|exact .inl rfl|exact .inr rfl|assumption):PG X (.Name x pos) (fO i):=DT h H a f
theorem j9(h:OpR X (ON o) r)(H:PE X a t)(c:PE X b T)(m:Rq o b=false:=by exact zG _):PE X (.Compare a [o] [b] pos) (vM r t T):=lR h H c m
theorem ee(h:OpR X (ON o) r)(H:PE X a t)(c:PE X b T)(m:Rq o b=false:=by exact zG _):PT X (.Compare a [o] [b] pos) (zH<|vM r t T):=cp h H c m
theorem a9(h:PE X e t)(H:NS [e] X.env=[(MW,Pq e X.env)]:=by rfl):PA X [e] (dz t gE):=au h bz H
theorem aV(h:PE X E t)(H:PE X e T)(a:NS [E,e] X.env=(MW,Pq E X.env)::NS [e] X.env:=by rfl)(b:NS [e] X.env=[(MW,Pq e X.env)]:=by rfl):PA X [E,e] (dz t<|dz T gE):=au h (au H bz b) a
theorem bM{K:K'}{H:Hp}{q:M0}{s:gV V}{i:Int}{v:V}{Q:VK}(h:H q=B' (.tup s))(e:j0 s i=B' v)(g:Q v H):Ga K (.ref q) (.int i) H Q:=.inr<|.inl ⟨q,s,i,v,rfl,rfl,SqT.of h,e,g⟩
theorem iw{K:K'}{H:Hp}{q:M0}{s:gV V}{i:Int}{v:V}{Q:VK}(h:H q=B' (.lst s))(e:j0 s i=B' v)(g:Q v H):Ga K (.ref q) (.int i) H Q:=.inl ⟨q,s,i,v,rfl,rfl,SqL.of h,e,g⟩
theorem bN(h:PE X e t):PSs X [.Return (B' e) pos] (DR t):=ax<|Hw h
end
theorem uT{P:gV J'->Prop}(h:∀x u,u.length=n->P (x::u))(u:gV J')(e:u.length=n+1):P u:=by
 obtain⟨x,r,rfl⟩:=List.exists_cons_of_length_eq_add_one e;exact h x r<|Nat.succ.inj e
theorem uU{P:gV J'->Prop}(h:P [])(u:gV J')(e:u.length=0):P u:=by
 rw[OO.mp e];exact h
structure DA (mg:Str->MZ J')(K:K')(x:Str)(st:OZ)(f:M0)(fd:Ny):Prop where
 F:Fun K x x st f fd
 a:mg x=B' (.ref f)
structure DM (K:K')(C:M0)(m q:Str)(st:OZ)(f:M0)(fd:Ny):Prop where
 F:Fun K m q st f fd
 a:Of K (.ref C) m=B' (B'<|.ref f)
 i:UB K (.ref f)=MX
section
variable (P:Nm)(w:NF)(base:N_){K:K'}{mg:Str->MZ J'}{x m q:Str}{st:OZ}{f C:M0}{fd:Ny}{ps:gV Str}
abbrev Mm(x q:Str)(st:OZ)(ps:gV Str):Prop:=∀(kV d p:J') (a:MZ M0) (Q c:J') (u:gV J'),u.length=ps.length->mi (Rg x q (iH st) (fi st) (ah st) .none kV d p a Q c) ⟨u,[]⟩=pure (ps.zip u)
theorem DA.of{h:N_}(X:K.In h)(G:h.Ns NU mg)(a:Og K NU x=B' (B'<|.ref f))(F:Fun K x x st f fd):DA mg K x st f fd:=⟨F,Pf X G a⟩
theorem DM.of(a:Of K (.ref C) m=B' (B'<|.ref f))(i:UB K (.ref f)=MX)(F:Fun K m q st f fd):DM K C m q st f fd:=⟨F,a,i⟩
theorem Fun.bs(F:Fun K x q st f fd)(b:Mm x q st ps:=by intro _ _ _ _ _ _;(repeat' refine uT λ_=>?_);exact uU rfl):Binds K fd ps []:=F.binds b
theorem DM.mt{k:Nat}{s:Sp}{c:vS}(D:DM K C m q st f fd)(l:Cls K C)(ok:aP P w K mg base c k f fd ps s)(b:Mm m q st ps:=by intro _ _ _ _ _ _;(repeat' refine uT λ_=>?_);exact uU rfl):pX P w K mg base c k C m f fd ps s:=⟨ok,D.F.binds b,l,⟨D.a,D.i,D.F.kp⟩⟩
end
section
variable (P:Nm)(w:NF)(base:N_)
theorem DA.fe{K:K'}{m:Str->MZ J'}{x:Str}{st:OZ}{f:M0}{d:Ny}{k:Nat}{p:gV Str}{s:Sp}(D:DA m K x st f d)(ok:aP P w K m base cr k f d p s)(b:Mm x x st p:=by intro _ _ _ _ _ _;(repeat' refine uT λ_=>?_);exact uU rfl):Fe P w K m base k x s:=⟨_,_,_,ok,D.F.binds b,D.F.kp,D.a⟩
end
end L2
namespace OD
open PySem L2
theorem p6(s:gV Nf->Nf):∀f B,bL t o N f B->(∀i,i<B.length->cj t i=!o->B[i]?=B' (s<|B.take i))->∃r,r.length=B.length+f/\N r/\∀i,i<r.length->cj t i=!o->r[i]?=B' (s<|r.take i)
 |0,B,h,g=>⟨B,rfl,h,g⟩
 |f+1,B,h,g=>by
  have ext:∀b,(cj t B.length=!o->b=s B)->∀i,i<(B++[b]).length->cj t i=!o->(B++[b])[i]?=B' (s<|(B++[b]).take i):=λb a i c w=>by
   rw[M7]at c;obtain k|k:=Pz i B.length
   ·rw[N3 k,Qt<|by lia];exact g i k w
   have e:i=B.length:=by
    have:[b].length=1:=rfl;lia
   subst e;rw[N7<|Na _,P1,Vv,<-a w];rfl
  have W:∀b,bL t o N f (B++[b])->(cj t B.length=!o->b=s B)->∃r,r.length=B.length+(f+1)/\N r/\∀i,i<r.length->cj t i=!o->r[i]?=B' (s<|r.take i):=λb a H=>by
   obtain⟨r,d,j⟩:=p6 s f (B++[b]) a (ext b H);refine⟨r,?_,j⟩;rw[d,M7];show B.length+1+f=_
   lia
  unfold bL at h;by_cases e:cj t B.length=o
  ·rw[Nt e]at h;have n:∀b,cj t B.length=!o->b=s B:=λb z=>by rw[e]at z;cases o<;>cases z
   obtain h|h:=h
   ·exact W _ h<|n _
   exact W _ h<|n _
  rw[Np e]at h;cases H:s B with
  |false=>exact W _ h.1 λ_=>H.symm
  |true=>exact W _ h.2 λ_=>H.symm
theorem y6{C:gV (gV Int)}{f:Nat->Int}(Y:t.length=2*n)(H:∀k,f k=1\/f k=-1)(G:∀k,k<n->cj t (2*k+1)=MX)
  (u:∀c∈C,∃k,k<n/\(c=[2*(k:Int)+1,f k*(2*(k:Int)+2)]\/c=[-(2*(k:Int)+1),-(f k*(2*(k:Int)+2))])):dh t C t.length 0 0=true:=by
 have A:∀(k:Nat) (z:Int),(z=1\/z=-1)->absI (z*(2*(k:Int)+2))=2*(k:Int)+2:=λk z b=>by
  obtain⟨_,e⟩|⟨_,e⟩:=aH (z*(2*(k:Int)+2))<;>obtain rfl|rfl:=b<;>omega
 have o:∀(k:Nat),absI (2*(k:Int)+1)=2*(k:Int)+1:=λk=>by
  obtain⟨_,e⟩|⟨_,e⟩:=aH (2*(k:Int)+1)<;>omega
 have N:∀z:Int,absI (-z)=absI z:=λz=>by
  obtain⟨_,e⟩|⟨_,e⟩:=aH z<;>obtain⟨_,I⟩|⟨_,I⟩:=aH (-z)<;>omega
 have J:Iy 0 t.length C:=λc h l d=>by
  obtain⟨k,p,rfl|rfl⟩:=u c h<;>simp only[Nz,QI,Ys]at d<;>obtain rfl|rfl:=d
  ·rw[o];omega
  ·rw[A k _<|H k];omega
  ·rw[N,o];omega
  rw[N,A k _<|H k];omega
 cases g:dh t C t.length 0 0 with
 |true=>rfl
 |false=>
  exfalso;have W:=nY J MW t.length [] (by show 0+t.length=_;omega) g;obtain⟨r,v,⟨_,w⟩,L⟩:=p6 (λB=>(B.getD (B.length-1) MW) != decide (f ((B.length-1)/2)=1)) _ _ W λi M=>absurd M<|Nat.not_lt_zero _;have v:r.length=t.length:=by rw[v];show 0+t.length=_;omega
  have y:∀k,k<n->∃a,r[2*k]?=B' a/\r[2*k+1]?=B' (a != decide (f k=1)):=λk p=>by
   have e:=L (2*k+1) (by omega)<|G k p;have Q:2*k<r.length:=by omega
   have O:(r.take (2*k+1)).length=2*k+1:=by rw[NO];omega
   refine⟨r[2*k],M4 Q,?_⟩;rw[e];show B' ((r.take (2*k+1)).getD ((r.take (2*k+1)).length-1) MW != decide (f (((r.take (2*k+1)).length-1)/2)=1))=_
   rw[O,show 2*k+1-1=2*k by omega,show 2*k/2=k by omega,M1,Qq (by omega),M4 Q];rfl
  have j:∀(k:Nat) (a:Nf),r[2*k]?=B' a->∀z:Int,absI z=2*(k:Int)+1->hit r z=(a == decide (0<z)):=λk a e z b=>by
   unfold hit;rw[b,show(2*(k:Int)+1-1).toNat=2*k by omega,e]
  have m:∀(k:Nat) (a:Nf),r[2*k+1]?=B' a->∀z:Int,absI z=2*(k:Int)+2->hit r z=(a == decide (0<z)):=λk a e z b=>by
   unfold hit;rw[b,show(2*(k:Int)+2-1).toNat=2*k+1 by omega,e]
  have q:nU C r=true:=OE.mpr λc h=>by
   obtain⟨k,p,s⟩:=u c h;obtain⟨a,E,x⟩:=y k p;have P:decide (0<2*(k:Int)+1)=true:=Ng (by omega);have T:decide (0 < -(2*(k:Int)+1))=false:=M6 (by omega);have D:=j k a E _<|o k;have F:=j k a E _<|(N _).trans<|o k;have U:=m k _ x _<|A k _<|H k;have X:=m k _ x _<|(N _).trans<|A k _<|H k;rw[P]at D;rw[T]at F;obtain rfl|rfl:=s
   ·show(hit r _ || (hit r _ || MW))=MX
    rw[D,U];obtain z|z:=H k<;>rw[z]
    ·rw[show decide (0<(1:Int)*(2*(k:Int)+2))=MX from Ng<|by omega];cases a<;>rfl
    rw[show decide (0<(-1:Int)*(2*(k:Int)+2))=MW from M6<|by omega];cases a<;>rfl
   show(hit r _ || (hit r _ || MW))=MX
   rw[F,X];obtain z|z:=H k<;>rw[z]
   ·rw[show decide (0 < -((1:Int)*(2*(k:Int)+2)))=MW from M6<|by omega];cases a<;>rfl
   rw[show decide (0 < -((-1:Int)*(2*(k:Int)+2)))=MX from Ng<|by omega];cases a<;>rfl
  rw[q]at w;cases w
end OD
namespace L2
open PySem PySem.Spec PyProof.Rows
theorem Fm{P:Sem Nf}(G:pX X.prog X.w X.K X.mg X.base (zy X.prog X.w) j C m f fd J L)(M:PE X o N)(Z:∀e s,X.xe e s->False)(U:Room k X.A)(g:j<=k)
  (W:Pq (.Call (.Attribute o m T) [] [] p) X.env=(do
   let O <-Pq o X.env
   V9 T.atName
   let (f,first) <-Uy [O] (UL O m P)
   YD p f first (Qw p<|NS [] X.env) (VS p<|SM [] X.env)):=by rfl):
  MD X (.Call (.Attribute o m T) [] [] p) (IG C m L N gE):=by
 intro Y s n H Q EX I h;refine Th (pl:=P) (OS (M Y s n H _ I h) (λu r ⟨x,w,i,rx,a,dx,fs,ex,E,l,q⟩=>?_) λy A z=>(Z y A z).elim) W;subst ex;obtain rfl:u=N9 a:=rx;refine iY i E G.cl G.me l ?_;refine XB (first:=[.ref a]) i.kIn G.me.kp ?_;have D:Vals [V.ref a] [N9 a]:=.cons rfl .nil;have hl:[N9 a].length=J.length:=by rw[<-D.length];exact G.ok.len _ _ _ _ q
 have b:=G.b r [N9 a] i.kIn (by rw[OQ];exact hl);rw[OQ]at b;refine XY<|RZ (G.ok.run X.A X.stack r w ⟨[N9 a],[]⟩ [N9 a] [V.ref a] Q (λc _ t=>EX c n t) (U.mono g) i.env0 b D q) λv A d=>?_;cases v with
 |error y=>
  obtain⟨t,B,E,c,a0,rfl,F,hE⟩:=d;exact⟨n,w,r,t,B,E,c,a0,rfl,i,F,hE⟩
 |ok F=>
  cases F with
  |ret u=>exact i.after d
  |next=>exact P7 d
  |brk=>exact P7 d
  |cont=>exact P7 d
end L2
namespace K42
open PySem L2 OD
noncomputable def dN(i:Nat):OZ:=PySem.Challenge.pw_oathduel_k42_searchers_dealt_out.main.body.getD i<|.Pass ⟨0,0,0,0⟩
noncomputable abbrev Bh:OZ:=dN 50
noncomputable abbrev IK:OZ:=dN 52
noncomputable abbrev uV:OZ:=dN 53
noncomputable abbrev Bi:OZ:=dN 54
structure KI (mg:Str->MZ J'):Prop where
 len:mg "len"=M5
 range:mg "range"=M5
 tuple:mg "tuple"=M5
 sorted:mg "sorted"=M5
noncomputable def cN(n:gV Int)(k:Int):Int:=n.getD k.toNat 0
noncomputable def Bj(c k:Int)(b:Nf):Int:=if b=MX then((c*48271+k*69621+11)%2147483629*((c*48271+k*69621+11)%2147483629)%2147483587)*((c*48271+k*69621+11)%2147483629*((c*48271+k*69621+11)%2147483629)%2147483587)%2147483563 else c
inductive Gz (K:K')(vs:gV V)(H:Hp)(Q:VK):Prop
 |mk (a:M0)(ns:gV Int)(k:Int)(h0:vs=[.ref a,.int k])(h:SqL K H a (ns.map V.int))(b:0<=k)(c:Q (.int<|cN ns k) H)
def nZ(K:K'):Sp:=λv H Q _=>Gz K v H Q
inductive KJ (vs:gV V)(H:Hp)(Q:VK):Prop
 |mk (c k:Int)(b:Nf)(h0:vs=[.int c,.int k,.bl b])(h:Q (.int<|Bj c k b) H)
def GA:Sp:=λv H Q _=>KJ v H Q
def Bk(n:Int)(H:Hp)(Q:VK):Prop:=∀(p:M0) (l:gV Int) (h:Hp),Same H h->h p=B' (.tup<|l.map V.int)->ClOk n l->l.length<=4->Q (.ref p) h
def wJ:Sp:=λv H Q _=>∃c n:Int,v=[.int c,.int n]/\0<=n/\n<1000/\Bk n H Q
inductive GB (K:K')(vs:gV V)(H:Hp)(Q:VK):Prop
 |mk (a:M0)(ns:gV Int)(most:Int)(h0:vs=[.ref a,.int most])(b:SqL K H a (ns.map V.int))(d:ns.length<=63)(e:0<=most)(f:most<20)(g:∀(p:M0) (t:Str) (cs:gV (gV Int)) (h:Hp),Same H h->RD h (Aw t cs) (.ref p)->SOk most t cs->(∀c∈cs,c.length<=4)->Q (.ref p) h)
def Bl(K:K'):Sp:=λv H Q _=>GB K v H Q
noncomputable def Bm(s:Int):Int:=if s=0 then 1 else -1
noncomputable def jM(p:gV (Int×Int)):gV (Int×Int):=p.map λq=>(q.1,Bm q.2)
theorem Bn(p:gV (Int×Int))(k s:Int):jM (o3 p k s)=o3 (jM p) k (Bm s):=by
 have e:((jM p).any λq=>decide (q.1=k))=(p.any λq=>decide (q.1=k)):=by
  unfold jM;rw[Tc];rfl
 unfold o3;rw[e]
 split
 ·unfold jM;rw[Ot,Ot];refine Sa λq _=>?_;show(λq=>(q.1,Bm q.2)) (if q.1=k then(q.1,s)else q)=if q.1=k then(q.1,Bm s)else(q.1,Bm q.2)
  split<;>rfl
 unfold jM;rw[NI];rfl
theorem y8(p:gV (Int×Int))(k:Int):iV (jM p) k=(iV p k).map Bm:=by
 induction p with
 |nil=>rfl
 |cons q r i=>
  unfold jM at i ⊢;unfold iV at i ⊢;rw[NW,Pk,Pk];by_cases h:q.1=k
  ·simp[h]
  simp only[h,decide_false];exact i
theorem p7(p:gV (Int×Int)):(jM p).map (·.1)=p.map (·.1):=by
 unfold jM;rw[Ot];rfl
theorem uW(s:Int):Bm s=1\/Bm s=-1:=by
 unfold Bm
 split
 ·exact .inl rfl
 exact .inr rfl
theorem IL(h:r=0\/r=1):j0 [V.int 1,V.int (-1)] r=B' (.int<|Bm r):=by
 obtain rfl|rfl:=h<;>rfl
theorem IM:al ["_law_script","_law_k"] ["_law_script","_law_k"] (ah Bh):=d_
theorem Fo(F:Fun K "_law_cell_at" "_law_cell_at" Bh f g)(T:KI m):aP P w K m B cr 1 f g ["_law_script","_law_k"] (nZ K):=by
 refine F.okA IM λu A o s H l Q E r h=>?_;obtain⟨a,n,k,rfl,d,i,q⟩:=h;refine⟨_,(ad (aE (ee mK (pv 1)<|ag aD rfl T.len NP<|a9<|pv 0) (bN<|a_ (pv 0)<|pv 1) am)
  (bN ae)),?_⟩
 exists _,rfl,_,rfl,.ref a,_,rfl,.inl ⟨_,d,rfl⟩,_,_,rfl,rfl,_,rfl;refine oX (λc=>?_) λc=>?_
 ·have C:k<(((n.map V.int).length:Nat):Int):=N0 c;rw[MY]at C;obtain⟨v,b,j⟩:=Al (n:=n) i C;have e:cN n k=v:=by
   unfold cN;rw[M1,b];rfl
  rw[e]at q;exact⟨_,rfl,_,rfl,.inl ⟨a,_,k,.int v,rfl,rfl,d,j,q⟩⟩
 have C:¬k<(((n.map V.int).length:Nat):Int):=λz=>c<|Ng z;rw[MY]at C;have e:cN n k=0:=by
  unfold cN;rw[M1,OP<|by lia];rfl
 rw[e]at q;exact q
theorem GC:al ["_law_cell","_law_k","_law_mixed","_law_number_here"] ["_law_cell","_law_k","_law_mixed"] (ah IK):=d_
theorem IN(F:Fun K "_law_mix" "_law_mix" IK f d):aP P w K m B cr 1 f d ["_law_cell","_law_k","_law_mixed"] GA:=by
 have a:=GC;refine F.okA GC λu A o s H v Q E r h=>?_;obtain⟨c,k,b,rfl,q⟩:=h;refine⟨_,(ad (aE (aT<|aK<|pv 2) (bN<|pv 0) am)
  (ad (cM 3 a.nd<|ar df (ar dG (ar dG (ar fP (pv 0) ae)<|ar fP (pv 1) ae) ae) ae)
  (ad (cM 3 a.nd<|ar df (ar fP (pv 3)<|pv 3) ae)
  (bN<|ar df (ar fP (pv 3)<|pv 3) ae)))),?_⟩
 exists _,rfl,_,rfl;cases b with
 |false=>exact aB ⟨_,rfl,q⟩
 |true=>
  refine av ?_;unfold Bj at q;rw[Nt rfl]at q;exists _,rfl,_,_,rfl,rfl,.inr ⟨by decide,by decide⟩,_,rfl,_,_,rfl,rfl,.inr ⟨by decide,by decide⟩,_,_,rfl,rfl,_,_,rfl,rfl,_,_,rfl,rfl,(by show(0:Int)<2147483629;decide);exists _,rfl,_,rfl,_,_,rfl,rfl,.inl ⟨by lia,by lia⟩,_,_,rfl,rfl,(by show(0:Int)<2147483587;decide);exact⟨_,rfl,_,rfl,_,_,rfl,rfl,.inl ⟨by lia,by lia⟩,_,_,rfl,rfl,(by show(0:Int)<2147483563;decide),q⟩
theorem wK:al ["_law_number_here","_law_count","_law_signs","_law_size","_law_k"] ["_law_number_here","_law_count"] (ah uV):=d_
inductive sZ (n:Int)(d:M0)(c:Int)(H:Hp)(i:Nat)(a:gV (MZ V))(h:Hp):Prop
 |mk (C:Int)(p:gV (Int×Int))(j:MZ V)(I:a=[B'<|.int C,B'<|.int n,B'<|.ref d,B'<|.int<|c%5,j])(b:h d=B' (.dK<|dP p))(e:Same H h)(f:DOk n (jM p))(g:(∀z∈p,z.2=0\/z.2=1))(k:p.length<=i)
inductive s_ (d:M0)(ks:gV Int)(p:gV (Int×Int))(D:M0)(h:Hp)(i:Nat)(a:gV (MZ V))(ys:gV V)(H:Hp):Prop
 |mk (I:(∃v,a=[v,B' (.ref d)]))(c:ys=((ks.take i).map λk=>V.int<|k*Iw (jM p) k))(e:H D=B' (.lst ys))(f:(∀b o,b≠D->h b=B' o->H b=B' o))
theorem Bo(F:Fun K "_law_drawn" "_law_drawn" uV f fd)(T:KI mg):aP P w K mg a1 cr 1 f fd ["_law_number_here","_law_count"] wJ:=by
 have L:=wK;refine F.okA wK λQu A ab s H vs Q E hr h=>?_;obtain⟨c,n,rfl,n0,n1,q⟩:=h;have hu:=hr.units;have Xr:=pq hr;refine⟨_,(ad (eU (i:=2) L.nd rfl (SE rfl) zX)
  (ad (cM 3 L.nd<|ar df (pv 0) ae)
  (ad (cM 0 L.nd<|ar eB (pv 0) ae)
  (ad (cP Ow rfl (eV rfl T.range<|a9<|pv 3) (eu 4 L.nd)
   (ax (aE (ee h_ (pv 1) ae) (ad (qK Xr (pv 2) (ar dG ae<|ar df (pv 0)<|pv 1) (ar df (ar eB (pv 0)<|pv 1) ae) rfl)
    (ax<|cM 0 L.nd<|ar eB (pv 0)<|ar fP ae<|pv 1)) am)))
  (bN<|bB c7 rfl T.tuple Ox<|a9<|bj (N:=["_law_variable","_law_signs"]) (d:=[M5,B' 2]) rfl cS (bO<|ag (sj rfl) rfl T.sorted SV<|a9<|pv 2) (λ_ _ _ _=>(eu 0<|nD ["_law_variable","_law_signs"])) (λ_ _ _ _=>dO) λ_ _ _ _=>(ar fP (pv 0)<|KH (K:=K) (aI<|aV ae<|fq di ae)<|cg Xr (pv 1) (pv 0) λ_ _=>rfl)))))),?_⟩
 intro d hd;have c5:=Qz c (show(5:Int)≠0 by decide);have a2:=P6 c (show(0:Int)<5 by decide);exists _,rfl,_,_,rfl,rfl,(by show(0:Int)<5;decide),_,rfl,_,_,rfl,rfl,⟨by decide,by decide⟩;refine⟨_,rfl,c%5,rfl,(by lia),(by lia),fJ (lo:=0) (n:=(c%5).toNat)
  (sZ n d c H)
  ⟨_,[],M5,rfl,aa,af hd _,DOk.nil n,(λ_ z=>nomatch z),Na _⟩ ?_ ?_⟩
 ·rintro i Z H2 hi ⟨C,p,jv,rfl,a,M,j,m,hl⟩;refine⟨_,rfl,_,_,rfl,rfl,_,rfl,oX (λg=>?_) λg=>?_⟩
  ·have g':0<n:=N0 g;have m1:=Qz C (show n≠0 by lia);have m2:=P6 C g';have s1:=Qz (C/n) (show(2:Int)≠0 by decide);have s2:=P6 (C/n) (show(0:Int)<2 by decide);exists _,rfl,_,rfl,_,_,rfl,rfl,⟨g',by lia⟩,_,_,rfl,rfl,(by show(0:Int)<2;decide);exists _,rfl,_,rfl,_,rfl,_,_,rfl,rfl,g',_,_,rfl,rfl,d,_,rfl,DPut.k (k:=Oq (1+C%n)) a (by unfold dP;rw[MY];exact aR<|by lia);exists _,rfl,_,rfl,_,_,rfl,rfl,.inl ⟨by decide,by decide⟩,_,_,rfl,rfl,⟨by lia,by lia⟩;obtain⟨o1,o2⟩:=j.put (k:=1+C%n) (s:=Bm<|C/n%2) (by lia)<|uW _;rw[<-Bn]at o1 o2;have ml:∀l,(jM l).length=l.length:=λl=>MY _;rw[ml,ml]at o2;refine⟨_,o3 p (1+C%n)<|C/n%2,_,rfl,?_,M.upd_new hd _,o1,λz hz=>?_,by lia⟩
   ·rw[aa];exact Oe (λz=>B'<|HO.dK z)<|Ir _ _ _
   unfold o3 at hz
   split at hz
   ·obtain⟨y,hy,e⟩:=NV.mp hz
    split at e
    ·rw[<-e];show C/n%2=0\/C/n%2=1
     lia
    rw[<-e];exact m y hy
   obtain y|y:=NB.mp hz
   ·exact m z y
   rw[Nd.mp y];show C/n%2=0\/C/n%2=1
   lia
  exact⟨C,p,_,rfl,a,M,j,m,by lia⟩
 rintro Z H2 ⟨C,p,jv,rfl,a,M,j,m,hl⟩;refine⟨_,rfl,d,dP p,p.map (·.1),rfl,a,EC p,by rw[MY];lia,λl u N J ac=>⟨l,rfl,⟨_,SqL.of aa⟩,λD hD=>?_⟩⟩;have a3:u.length=p.length:=by rw[J.length_eq,MY]
 have k3:=M.upd_new (M.free N)<|.lst<|u.map V.int;have v:upd H2 l (.lst<|u.map V.int) d=B' (.dK<|dP p):=by rw[aj<|ai a N];exact a
 have B:upd H2 l (.lst<|u.map V.int) l=B' (.lst<|u.map V.int):=aa;generalize upd H2 l (.lst<|u.map V.int)=H3 at k3 v B hD;refine c_ (K:=K) (a:=l) (xs:=u.map V.int) (s_ d u p D H3)
  ⟨⟨M5,rfl⟩,rfl,aa,λb o hb e=>by rw[aj hb];exact e⟩ ?_ ?_ ?_
 ·rintro i Z Y O _ ⟨_,_,I,G⟩;exact⟨I,SqL.of<|G _ _ (ai B hD) B⟩
 ·rintro i x Z Y O hx ⟨⟨v0,rfl⟩,U,I,G⟩;obtain⟨k,rfl,hk⟩:=eF hx;have km:k∈p.map (·.1):=J.mem_iff.mp<|Nc hk;obtain⟨W,a4⟩:=j.look (k:=k) (by rw[p7];exact km);rw[y8]at W;obtain⟨r,ZF,an⟩:=O5.mp W;have as:r=0\/r=1:=by
   unfold iV at ZF;obtain⟨y,az,aC⟩:=O5.mp ZF;rw[<-aC];exact m y<|Va az
  have WQ:i<u.length:=(M'.mp hk).1;have a5:Y.length<=60:=by
   rw[U,MY,NO];lia
  have nd:d≠D:=ai v hD;refine fu ⟨_,rfl,_,rfl,(by show 2<=sizeLine;decide),λe he=>?_⟩;have aF:upd O e (.lst [.int 1,.int (-1)]) d=B' (.dK<|dP p):=by rw[aj<|ai (G _ _ nd v) he];exact G _ _ nd v
  have hv:DGet (upd O e<|.lst [.int 1,.int (-1)]) d (.int k) (B'<|.int r):=by
   have z:=DGet.k (k:=Oq k) aF;rw[Iu,ZF]at z;exact z
  refine⟨_,rfl,_,rfl,d,_,rfl,hv,(iw aa (IL as) ⟨_,_,rfl,rfl,.inr ⟨?_,?_⟩,?_,aR (by lia),⟨_,rfl⟩,?_,aa,λb o hb eb=>?_⟩)⟩
  ·obtain z|z:=uW r<;>rw[z]<;>decide
  ·obtain z|z:=uW r<;>rw[z]<;>decide
  ·rw[aj<|ai I he];exact I
  ·rw[U,Oc,hk,NI,an];rfl
  have X:=G b o hb eb;rw[aj hb,aj<|ai X he];exact X
 rintro Z Y O ⟨_,U,I,G⟩;rw[MY,Nn<|Na _]at U;have a0:Y=(u.map λk=>k*Iw (jM p) k).map V.int:=by rw[U,Ot];rfl
 refine⟨D,Y,rfl,.inl ⟨SqL.of I,λt ht=>?_⟩⟩;have nH:H D=none:=k3.free hD;have k4:Same H O:=λb o e=>G b o (ai e nH)<|k3 b o e;refine q t _ _ (k4.upd_new (k4.free ht) _) (by rw[aa,a0]) (j.clause (by rw[p7];exact J) ac) ?_;rw[MY];lia
theorem Fp{n:gV Int}:(eQ (n.map V.int) (B' 3)<|B' 15).length<=12:=by
 unfold eQ;have e:HT.sIx (n.map V.int).length 0 (B' 3)=min 3 (n.map V.int).length:=HT.sIx_nat _ 0 3;have E:HT.sIx (n.map V.int).length (n.map V.int).length (B' 15)=min 15 (n.map V.int).length:=HT.sIx_nat _ _ 15;rw[e,E,NO,Pc];lia
theorem jN(h:∀N,(∀a c,B D a c->N a c)->A {D with nx:=N} b H):rL A B D b H:=h (λb H=>B D b H) λ_ _ z=>z
theorem Bp:al ["_law_script","_law_most","_law_first","_law_count","_law_turn","_law_odd","_law_clauses","_law_cell","_law_turns"] ["_law_script","_law_most"] (ah Bi):=d_
inductive p9 (a:M0)(most:Int)(first:Int)(ns:gV Int)(q:M0)(p:M0)(H:Hp)(r:Int)(i:Nat)(b:gV (MZ V))(h:Hp):Prop
 |mk (xs:gV V)(cs:gV (gV Int))(v:MZ V)(I:b=[B'<|.ref a,B'<|.int most,B'<|.int first,B'<|.int (first/2%(most+1)),B'<|.int<|Bj (cN ns 1) 1 (decide (V.int (first%2)=V.int 1)),B'<|.int<|cN ns 2/7,B'<|.ref q,v,M5])(d:h q=B' (.lst xs))(e:h p=B' (.lst<|eQ (ns.map V.int) (B' 3)<|B' 15))(f:CLs h cs xs)(g:Same H h)(j:cs.length=i)(k:∀c∈cs,ClOk r c/\c.length<=4)
inductive p_ (r:Int)(H:Hp)(D:M0)(i:Nat)(a:gV (MZ V))(ys:gV V)(h:Hp):Prop
 |mk (I:(∃v,a=[v,B'<|.int r]))(b:(∃ss:gV Str,ys=ss.map V.str/\ss.length=i/\∀s∈ss,m7 s))(c:h=upd H D (.lst ys))
inductive kx (ns:gV Int)(D:M0)(H:Hp)(q:M0)(xs:gV V)(cs:gV (gV Int))(r:Int)(i:Nat)(a:gV (MZ V))(ys:gV V)(h:Hp):Prop
 |mk (I:(∃v,a=[v,B'<|.int<|cN ns 2/7]))(b:h D=B' (.lst ys))(d:Same H h)(e:h q=B' (.lst xs))(f:CLs h cs xs)(C:gV (gV Int))(g:C.length<=i)(j:CLs h C ys)(k:∀c∈C,ClOk r c/\c.length<=4)
theorem Fq(F:Fun K "_law_sentence" "_law_sentence" Bi f fd)(T:KI mg)(PU:Fe P w K mg B 1 "_law_cell_at" (nZ K))(ac:Fe P w K mg B 1 "_law_mix" GA)
  (a5:Fe P w K mg B 1 "_law_drawn" wJ):aP P w K mg B cr 2 f fd ["_law_script","_law_most"] (Bl K):=by
 have Z:=Bp;refine F.okA Bp λQu A a6 s H vs Q E hr h=>?_;obtain⟨a,n,m,rfl,hS,br,o0,o1,q⟩:=h;have hu:=hr.units;refine⟨_,(ad (cM 2 Z.nd<|cE PU hr<|aV (pv 0) ae)
  (ad (cM 3 Z.nd<|ar df (ar eB (pv 2) ae)<|ar dG (pv 1) ae)
  (ad (eU (i:=4) Z.nd rfl (SE rfl)<|cE ac hr<|au (cE PU hr<|aV (pv 0) ae)<|aV ae<|j9 (aM hu) (ar df (pv 2) ae) ae)
  (ad (eU (i:=5) Z.nd rfl (SE rfl)<|ar eB (cE PU hr<|aV (pv 0) ae) ae)
  (ad (cM 6 Z.nd<|aI bz)
  (ad (cP Ow rfl (bO<|gG jp (pv 0) (gU ae)<|gU ae) (eu 7 Z.nd)
   (ax<|bu<|eS NJ Oj On bY (pv 6)<|a9<|cE a5 hr<|aV (cE ac hr<|au (pv 7)<|aV (ar dG (ag aD rfl T.len NP<|a9<|pv 6) ae)<|j9 (aM hu) (ar df (pv 2) ae) ae)<|pv 3))
  (ad (aE (PW.pt<|fG (ee h_ (ag aD rfl T.len NP<|a9<|pv 6) ae)<|fg<|ee (aM hu) (ar df (pv 5) ae) ae) (ax<|bu<|eS NJ Oj On bY (pv 6)<|a9<|a_ (pv 6)<|ar df (ar eB (pv 5) ae)<|ag aD rfl T.len NP<|a9<|pv 6) am)
  (ad (cM 8 Z.nd<|eS PySem.F.plainAttrs_str PySem.F.slot_str_join PySem.F.type_str_join Ez aQ<|a9<|bj (N:=["_law_k","_law_turn"]) (d:=[M5,B' 4]) rfl cS (eV rfl T.range<|a9<|pv 3) (λ_ _ _ _=>(eu 0<|nD ["_law_k","_law_turn"])) (λ_ _ _ _=>dO) λ_ _ _ _=>(KH (K:=K) aQ<|ar zF (ar zE (pv 1)<|pv 0) ae))
  (bN<|aU<|aV (pv 8)<|bj (N:=["_law_clause","_law_odd"]) (d:=[M5,B' 5]) rfl cS (bO<|pv 6) (λ_ _ _ _=>(eu 0<|nD ["_law_clause","_law_odd"])) (λ_ _ _ _=>(cy<|PW.pt<|cI (ee h_ (ag (pB (K:=K) rfl) rfl T.len NP<|a9<|pv 0) ae)<|cO<|ee (aM hu) (ar df (ar eB (pv 1) ae) ae) ae)) λ_ _ _ _=>(pv 0)))))))))),?_⟩
 exists _,rfl,a,n,0,rfl,hS,SU 0;generalize cN n 0=first
 exists _,rfl,_,_,rfl,rfl,⟨by decide,by decide⟩,_,rfl,_,_,rfl,rfl,_,_,rfl,rfl,(by show(0:Int)<m+1;lia);have x0:=Qz (first/2) (show m+1≠0 by lia);have x1:=P6 (first/2) (show 0<m+1 by lia);refine⟨_,rfl,a,n,1,rfl,hS,(by decide),_,rfl,_,_,rfl,rfl,(by show(0:Int)<2;decide),.inl ⟨rfl,_,_,_,rfl,?_⟩⟩;exists _,rfl,a,n,2,rfl,hS,(by decide),_,_,rfl,rfl,⟨by decide,by decide⟩;refine⟨NA _,λd p=>?_⟩;have an:H d=none:=p;have l:∃r0,first/2%(m+1)=r0:=⟨_,rfl⟩
 obtain⟨r0,l⟩:=l;rw[l]at x0 x1;refine⟨_,rfl,3,rfl,15,rfl,a,_,rfl,(af p _).seq hS,λL as=>⟨L,rfl,⟨_,SqL.of aa⟩,?_⟩⟩;obtain⟨ms,a7,_⟩:=Ay n (B' 3)<|B' 15;have bs:=Fp (n:=n);have k3:Same H (upd (upd H d<|.lst []) L<|.lst<|eQ (n.map V.int) (B' 3)<|B' 15):=(af p _).upd_new ((af p _).free as) _;have az:upd (upd H d<|.lst []) L (.lst<|eQ (n.map V.int) (B' 3)<|B' 15) L=B' (.lst<|eQ (n.map V.int) (B' 3)<|B' 15):=aa;have aC:d≠L:=ai aa as;have aF:upd (upd H d<|.lst []) L (.lst<|eQ (n.map V.int) (B' 3)<|B' 15) d=B' (.lst []):=by rw[aj aC];exact aa
 refine gz (K:=K) (a:=L) (X:=eQ (n.map V.int) (B' 3)<|B' 15) (p9 a m first n d L H r0)
  ⟨[],[],M5,rfl,aF,az,.nil,k3,rfl,λ_ z=>nomatch z⟩ ?_ ?_ ?_
 ·rintro i M j _ ⟨_,_,_,_,_,g,_⟩;exact SqL.of g
 ·rintro i x M j O ⟨X,C,v7,rfl,G,g2,k,U,g5,r⟩;have WQ:i<(eQ (n.map V.int) (B' 3)<|B' 15).length:=(M'.mp O).1;rw[a7]at O;obtain⟨cz,rfl,_⟩:=eF O;refine⟨_,rfl,.inl ⟨rfl,_,SqL.of G⟩,_,rfl,_,rfl,.ref d,_,rfl,.inl ⟨_,SqL.of G,rfl⟩,_,_,rfl,rfl,_,rfl,_,_,rfl,rfl,(by show(0:Int)<2;decide),.inl ⟨rfl,_,_,_,rfl,_,rfl,_,_,rfl,?_⟩⟩;rw[l];refine⟨x0,by lia,λp4 ls H4 k4 ba bb bc=>?_⟩;have h4:=k4 _ _ G;exists d,_,_,rfl,rfl,h4,(by rw[<-k.length,g5];exact aR<|by lia);refine⟨X++[.ref p4],C++[ls],_,by rw[l];rfl,aa,by rw[aj aC.symm];exact k4 _ _ g2,CLs.snoc (CL.upd ⟨p4,rfl,ba⟩ h4)<|(k.mono k4).upd h4,λb o e=>?_,by rw[M7,g5];rfl,λc u=>?_⟩
  ·rw[aj<|ai e an];exact k4 _ _<|U _ _ e
  obtain z|z:=NB.mp u
  ·exact r c z
  rw[Nd.mp z];exact⟨bb,bc⟩
 rintro M j ⟨X,C,v7,rfl,G,g2,k,U,g5,r⟩;have a0:C.length<=12:=by lia
 clear g2 az aF k3;dsimp only;refine jN λN hN=>?_;have ab:∀X C j,j d=B' (.lst X)->CLs j C X->Same H j->C.length<=13->(∀c∈C,ClOk r0 c/\c.length<=4)->
   N [B'<|.ref a,B'<|.int m,B'<|.int first,B'<|.int (first/2%(m+1)),B'<|.int<|Bj (cN n 1) 1 (decide (V.int (first%2)=V.int 1)),B'<|.int<|cN n 2/7,B'<|.ref d,v7,M5] j:=by
  clear G k U g5 r a0;intro X C j G k U g5 r;refine hN _ _ ?_;generalize Bj (cN n 1) 1 (decide (V.int (first%2)=V.int 1))=r1;refine⟨rfl,_,rfl,first/2%(m+1),rfl,(by lia),(by lia),λD hD=>?_⟩;refine mY (lo:=0) (n:=(first/2%(m+1)).toNat) (p_ r1 j D) ⟨⟨M5,rfl⟩,⟨[],rfl,rfl,λ_ h=>nomatch h⟩,rfl⟩ ?_ ?_ ?_
  ·rintro i M Y H2 _ ⟨_,_,rfl⟩;exact aa
  ·rintro i M Y H2 hi ⟨⟨v0,rfl⟩,⟨ss,rfl,a1,v⟩,rfl⟩;have e0:Q_ (r1/2^((0:Int)+(i:Int)).toNat) 1=r1/2^((0:Int)+(i:Int)).toNat%2:=Wm _;obtain⟨ch,bd,hs⟩:=Kr (j:=Q_ (r1/2^((0:Int)+(i:Int)).toNat) 1) (by rw[e0];exact Qz _<|by decide) (by rw[e0];exact P6 _<|by decide);refine fu ⟨_,rfl,_,rfl,_,_,rfl,rfl,(by show(0:Int)<=0+(i:Int);lia),_,_,rfl,rfl,.inr<|.inr ⟨_,_,ch,rfl,rfl,(by decide+kernel),bd,aa,(by rw[MY];exact aR<|by lia),⟨_,rfl⟩,⟨ss++[⟨#[ch]⟩],by rw[NI];rfl,by rw[M7,a1];rfl,λz hz=>?_⟩,gf⟩⟩;obtain w|w:=NB.mp hz
   ·exact v z w
   rw[Nd.mp w];exact hs
  rintro M Y H2 ⟨_,⟨ss,rfl,a1,v⟩,rfl⟩;obtain⟨tl,tw⟩:=Az v;refine⟨_,D,ss,rfl,rfl,SqL.of aa,?_,?_⟩
  ·rw[pC v,show(M_ "").length=0 from by decide+kernel];lia
  generalize YH (M_ "") ss=t at tl tw;have kD:Same j (upd j D<|.lst<|ss.map V.str):=af hD _;have I:=kD _ _ G;have a2:=k.mono kD;have k2:=U.trans kD;clear hD;generalize upd j D (.lst<|ss.map V.str)=H2 at k2 I a2;have be:(t.length:Int)=r0:=by lia
  refine⟨_,rfl,_,rfl,d,rfl,⟨_,SqL.of I⟩,λD2 Zv=>?_⟩;have a3:H D2=none:=k2.free Zv;have nq:d≠D2:=ai I Zv;refine c_ (K:=K) (a:=d) (xs:=X) (kx n D2 H d X C r0)
   ⟨⟨M5,rfl⟩,aa,k2.upd_new a3 _,by rw[aj nq];exact I,a2.mono<|af Zv _,[],NA _,.nil,λ_ h=>nomatch h⟩ ?_ ?_ ?_
  ·rintro i M Y H4 _ ⟨_,h1,_,h2,_⟩;exact⟨h1,SqL.of h2⟩
  ·rintro i x M Y H4 O ⟨⟨v0,rfl⟩,W,j2,j3,j4,J,j5,j6,j7⟩;have WQ:i<X.length:=(M'.mp O).1;have VJ:=k.length;obtain⟨c,u,tc,rfl,Vd⟩:=j4.get O;have bf:c∈C:=Nc u;have sz:Y.length<sizeLine:=by rw[<-j6.length];exact aR (by lia)
   have bk:d≠D2:=nq;have kp:∀v0,kx n D2 H d X C r0 (i+1) [B' v0,B'<|.int<|cN n 2/7] (Y++[.ref tc]) (upd H4 D2<|.lst<|Y++[.ref tc]):=by
    intro v0;refine⟨⟨_,rfl⟩,aa,j2.upd_new a3 _,by rw[aj bk];exact j3,j4.upd W,J++[c],by rw[M7];exact Rb j5,CLs.snoc (CL.upd ⟨tc,rfl,Vd⟩ W)<|j6.upd W,λz hz=>?_⟩;obtain y|y:=NB.mp hz
    ·exact j7 z y
    rw[Nd.mp y];exact r c bf
   refine⟨_,rfl,.ref tc,_,rfl,.inr ⟨_,SqT.of Vd,rfl⟩,_,_,rfl,rfl,_,rfl,oX (λ_=>aB ⟨_,rfl,W,sz,kp _⟩) λ_=>?_⟩;refine⟨_,rfl,_,_,rfl,rfl,⟨by decide,by decide⟩,_,_,rfl,rfl,(by show(0:Int)<8;decide),.inl ⟨rfl,_,rfl,oX (λ_=>⟨_,rfl,W,sz,kp _⟩) λ_=>?_⟩⟩;exact⟨⟨_,rfl⟩,W,j2,j3,j4,J,by lia,j6,j7⟩
  rintro M Y H4 ⟨_,W,j2,j3,j4,J,j5,j6,j7⟩;refine⟨(by show 2<=sizeLine;decide),λp5 bl=>?_⟩;have k5:Same H4 (upd H4 p5<|.tup [.str t,.ref D2]):=af bl _;have VJ:=k.length;refine q p5 t J _ (j2.trans k5) (ED aa (k5 _ _ W)<|j6.mono k5) ⟨by lia,tw,by lia,λc u=>?_⟩ λc u=>(j7 c u).2;rw[be];exact(j7 c u).1
 refine⟨_,rfl,.ref d,_,rfl,.inl ⟨_,SqL.of G,rfl⟩,_,_,rfl,rfl,_,rfl,oX (λc1=>?_) λc1=>?_⟩
 ·have a4:(0:Int)<((X.length:Nat):Int):=N0 c1;refine⟨_,rfl,_,_,rfl,rfl,(by show(0:Int)<6;decide),.inl ⟨rfl,_,rfl,oX (λc2=>?_) λc2=>?_⟩⟩
  ·have z0:=Qz (cN n 2/7/6) (show((X.length:Nat):Int)≠0 by lia);have z1:=P6 (cN n 2/7/6) a4;obtain⟨x,O,bm⟩:=uB (x:=X) z0 z1;obtain⟨c,u,tc,rfl,Vd⟩:=k.get O;refine⟨_,rfl,.inl ⟨rfl,_,SqL.of G⟩,_,rfl,_,rfl,_,_,rfl,rfl,⟨by decide,by decide⟩,_,rfl,.ref d,_,rfl,.inl ⟨_,SqL.of G,rfl⟩,_,_,rfl,rfl,a4,(iw G bm ?_)⟩;exists d,_,_,rfl,rfl,G,(by rw[<-k.length];exact aR<|by lia);refine ab (X++[.ref tc]) (C++[c]) _ aa (CLs.snoc (CL.upd ⟨tc,rfl,Vd⟩ G)<|k.upd G) (λb o e=>?_) (by rw[M7];exact Rb a0) λz hz=>?_
   ·rw[aj<|ai e an];exact U _ _ e
   obtain y|y:=NB.mp hz
   ·exact r z y
   rw[Nd.mp y];exact r c<|Nc u
  exact ab X C j G k U (by lia) r
 exact av<|ab X C j G k U (by lia) r
noncomputable abbrev qS:OZ:=dN 20
structure Lz (mg:Str->MZ J'):Prop where
 len:mg "len"=M5
 g_WISHER:fS mg "WISHER" (.str<|M_ "wisher")
 g_SPOILER:fS mg "SPOILER" (.str<|M_ "spoiler")
inductive GD (vs:gV V)(H:Hp)(Q:VK):Prop
 |mk (p:M0)(t:Str)(w:V)(i:Nat)(h0:vs=[.ref p,.int<|(i:Int)+1])(h:H p=B' (.tup [.str t,w]))(a:i<t.length)(b:t.length<=900)(c:Q (.str<|ay<|cj t i) H)
def uX:Sp:=λv H Q _=>GD v H Q
theorem tj:al ["sentence","variable","turns"] ["sentence","variable"] (ah qS):=d_
theorem y9(F:Fun K "hand_of" "hand_of" qS f d)(T:Lz m):aP P w K m B cr 1 f d ["sentence","variable"] uX:=by
 have c:=tj;refine F.okA tj λv A o s H x Q E r h=>?_;obtain⟨p,t,w,i,rfl,j,k,y,q⟩:=h;have u:=r.units;refine⟨_,(ad (cM 2 c.nd<|a_ (pv 0) ae)
  (ad (aE (aT<|rO o9 o9 ae (pv 1)<|ag aD rfl T.len NP<|a9<|pv 2) (ax gy) am)
  (bN<|jl (ee (aM u) (a_ (pv 2)<|ar gu (pv 1) ae) aQ) (aN rfl T.g_WISHER)<|aN rfl T.g_SPOILER))),?_⟩
 refine⟨_,rfl,(bM j rfl ?_)⟩;have l:decide ((1:Int)<=(i:Int)+1)=true:=Ng (by lia);have n:decide ((i:Int)+1<=((t.length:Nat):Int))=true:=Ng (by lia);have W:i<t.cps.toList.length:=by
  rw[NH];exact k
 have a:=M4 W;have b:j0 t.cps.toList ((i:Int)+1-1)=B' t.cps.toList[i]:=by
  have e:(i:Int)+1-1=(i:Int):=by lia
  rw[e];exact bi a
 exists _,rfl,_,_,rfl,rfl,_,rfl;rw[l];refine aB ⟨_,rfl,.str t,_,rfl,⟨OG (aR<|by lia),rfl⟩,_,_,rfl,rfl,_,rfl,?_⟩;rw[n];refine av ?_;refine⟨_,rfl,_,rfl,_,_,rfl,rfl,.inr<|.inr ⟨t,_,_,rfl,rfl,OG (aR<|by lia),b,.inl ⟨rfl,_,rfl,?_⟩⟩⟩;rw[Gp,<-uD a];cases g:cj t i with
 |true=>
  rw[g]at q;exact aB q
 |false=>
  rw[g]at q;exact av q
noncomputable abbrev IO:OZ:=dN 12
noncomputable abbrev IP:OZ:=dN 18
noncomputable abbrev Bq:OZ:=dN 24
noncomputable abbrev uY:OZ:=dN 21
structure md (mg:Str->MZ J'):Prop where
 isinstance:mg "isinstance"=M5
 int:mg "int"=M5
 bool:mg "bool"=M5
 tuple:mg "tuple"=M5
 list:mg "list"=M5
 abs:mg "abs"=M5
 len:mg "len"=M5
 all:mg "all"=M5
 range:mg "range"=M5
 zip:mg "zip"=M5
 sorted:mg "sorted"=M5
 set:mg "set"=M5
 any:mg "any"=M5
 max:mg "max"=M5
def lH:Sp:=λs H Q _=>∃v d,s=[v]/\RD H d v/\Q (.bl<|kh d&&!lS d) H
def GE:Sp:=λs H Q _=>∃v d m,s=[v,.int m]/\RD H d v/\Q (.bl<|ny m d) H
inductive GF (vs:gV V)(H:Hp)(Q:VK):Prop
 |mk (p:M0)(t:Str)(w:V)(hw:Nf)(h0:vs=[.ref p,.str<|ay hw])(a:H p=B' (.tup [.str t,w]))(b:t.length<=900)(c:∀(l:M0) (h:Hp),Same H h->h l=B' (.lst<|(dU t hw).map V.int)->Q (.ref l) h)
def uZ:Sp:=λv H Q _=>GF v H Q
def qT:Sp:=λv H Q _=>∃b:Nf,v=[.str<|ay b]/\Q (.str<|ay (!b)) H
theorem cH(h:dw H d s)(l:d.length=2):∃D a x X,d=[D,a]/\s=[x,X]/\RD H D x/\RD H a X:=by
 match d,l with
 |[D,a],_=>
  obtain⟨x,r,rfl,b,k⟩:=ao h;obtain⟨X,f,rfl,c,e⟩:=ao k;obtain rfl:=bS e;exact⟨_,_,x,X,rfl,rfl,b,c⟩
theorem KK{A B:Hp->Prop}(h:A H):Jy c H λb a=>if b=MX then A a else B a:=by
 show(if MX=MX then A H else B H)
 exact aB h
inductive KL (H:Hp)(a:M0)(most:Int)(ds:gV Nh)(i:Nat)(c:St)(h:Hp):Prop
 |mk (b:Int)(l:MZ V)(h0:c=[B'<|.ref a,B'<|.int most,B'<|.int b,l])(d:h=H)(e:gH most b (ds.drop i)=gH most 0 ds)
inductive GG (H:Hp)(D p:M0)(t:Str)(hw:Nf)(i:Nat)(a:St)(ys:gV V)(h:Hp):Prop
 |mk (v:MZ V)(h0:a=[v,B' (.str (ay hw)),B' (.ref p)])(b:ys=(((Os i).filter λi=>cj t i == hw).map λ(i:Nat)=>V.int<|(i:Int)+1))(c:h=upd H D (.lst ys))
theorem KM:al ["thing"] ["thing"] (ah IO):=d_
theorem IQ(F:Fun K "is_number" "is_number" IO f c)(T:md m):aP P w K m b cr 1 f c ["thing"] lH:=by
 refine F.okA KM λu A o s H e Q E r h=>?_;obtain⟨v,d,rfl,a,q⟩:=h;have n:=fK a;exists _,(bN<|dF (ag a8 rfl T.isinstance Nr<|aV (pv 0)<|cG (v:=.ty "int") rfl T.int Rw rfl)<|fN<|ub<|ag a8 rfl T.isinstance Nr<|aV (pv 0)<|cG (v:=.ty "bool") rfl T.bool Ri rfl);exists _,rfl,v,_,"int",_,rfl,lp d v a,wc d n,_,rfl;cases I:kh d with
 |false=>
  rw[I]at q;exact av q
 |true=>
  rw[I]at q;exact aB ⟨_,rfl,v,_,"bool",_,rfl,lp d v a,sd d n,_,rfl,q⟩
theorem GH:al ["thing","most","behind","literal"] ["thing","most"] (ah IP):=d_
theorem IR(F:Fun K "is_set" "is_set" IP f N)(T:md M)(U:Fe P w K M B 1 "is_number" lH):aP P w K M B cr 2 f N ["thing","most"] GE:=by
 have o:=GH;refine F.okA GH λZ A O s H vs Q E W h=>?_;obtain⟨v,d,m,rfl,p,q⟩:=h;have X:=fK p;refine⟨_,(ad (aE (aT<|aK<|ag a8 rfl T.isinstance Nr<|aV (pv 0)<|cG (v:=.ty "tuple") rfl T.tuple Ox rfl) (bN bw) am)
  (ad (cM 2 o.nd ae)
  (ad (cP Ow rfl (eA<|pv 0) (eu 3 o.nd)
   (ad (aE (PW.pt<|cI (aT<|aK<|cE U W<|a9<|pv 3)<|cO<|aT<|rO mK o9 (pv 2) (ag ce rfl T.abs N8<|a9<|pv 3)<|pv 1) (bN bw) am)
   (ax<|cM 2 o.nd<|ag ce rfl T.abs N8<|a9<|pv 3)))
  (bN bw)))),?_⟩
 exists _,rfl,v,_,"tuple",_,rfl,lp d v p,iI d X,_,rfl;cases d with
 |tuple D=>
  refine av ?_;obtain⟨a,x,rfl,u,G⟩:=aq p;have Pd:=bZ G;refine⟨_,rfl,a,rfl,⟨_,SqT.of u⟩,qD (K:=K) (a:=a) (X:=x) (KL H a m D)
   ⟨0,M5,rfl,rfl,rfl⟩ (λi I J _ Y=>by obtain⟨_,_,_,e,_⟩:=Y;rw[e];exact SqT.of u) ?_ ?_⟩
  ·rintro i y I J L ⟨b,l,rfl,rfl,c⟩;have WQ:i<x.length:=(M'.mp L).1;have r:=eE G L;rw[yF PL<|by lia]at c;exists _,rfl,y,_,rfl,r,_,rfl;obtain⟨z,n⟩|n:=io (D.getD i .none)
   ·rw[n]at r c ⊢;obtain rfl:=aA r;refine av ?_;exists _,rfl,_,rfl,z,rfl,_,_,rfl,rfl,_,rfl;rw[im]at c;refine oX (λt=>?_) λt=>?_
    ·have C:b<absI z:=N0 t;exists _,rfl,_,_,rfl,rfl,_,rfl;refine oX (λj=>?_) λj=>?_
     ·have k:¬absI z<=m:=λg=>by
       have e:decide (absI z<=m)=true:=Ng g;rw[show decide ((if z<0 then -z else z)<=m)=MX from e]at j;cases j
      rw[Np<|by lia]at c;show Q (.bl MW) _
      rw[show ny m (.tuple D)=gH m 0 D from rfl,<-c]at q;exact q
     have k:absI z<=m:=aa3 λg=>by
      have e:decide (absI z<=m)=false:=M6 g;rw[show decide ((if z<0 then -z else z)<=m)=MW from e]at j;exact j rfl
     rw[Nt ⟨C,k⟩]at c;exists _,rfl,z,rfl;exact⟨absI z,B'<|.int z,rfl,rfl,c⟩
    have C:¬b<absI z:=λg=>t<|Ng g;rw[Np λg=>C g.1]at c;refine⟨_,rfl,aB ?_⟩;show Q (.bl MW) _
    rw[show ny m (.tuple D)=gH m 0 D from rfl,<-c]at q;exact q
   rw[iJ n];rw[nz n]at c;refine aB<|aB ?_;show Q (.bl MW) _
   rw[show ny m (.tuple D)=gH m 0 D from rfl,<-c]at q;exact q
  ·rintro I J ⟨b,l,rfl,rfl,c⟩;show Q (.bl MX) _
   rw[List.drop_eq_nil_of_le<|by lia]at c;rw[show ny m (.tuple D)=gH m 0 D from rfl,<-c]at q;exact q
 |_=>exact aB q
theorem Br:al ["sentence","hand"] ["sentence","hand"] (ah Bq):=d_
theorem Fs(F:Fun K "variables_of" "variables_of" Bq f v)(T:md m)(e:Fe P w K m b 1 "hand_of" uX):aP P w K m b cr 2 f v ["sentence","hand"] uZ:=by
 have I:=Br;refine F.okA Br λJ A o s H L Q E r h=>?_;obtain⟨p,t,w,a,rfl,d,x,q⟩:=h;have B:=r.units;exists _,(bN<|bj (N:=["variable","hand","sentence"]) (d:=[M5,B' 1,B' 0]) rfl cS (yg rfl T.range<|aV ae<|ar dG (ag aD rfl T.len NP<|a9<|a_ (pv 0) ae) ae) (λ_ _ _ _=>(eu 0<|nD ["variable","hand","sentence"])) (λ_ _ _ _=>(cy<|ee (aM B) (cE e r<|aV (pv 2)<|pv 0)<|pv 1)) λ_ _ _ _=>(pv 0));refine⟨_,rfl,(bM d rfl ⟨.str t,_,rfl,⟨OG (bH<|by lia),rfl⟩,_,_,rfl,rfl,?_⟩)⟩;refine⟨_,_,rfl,⟨by decide,by decide,by lia,by lia⟩,λD j=>?_⟩;have n:((t.length:Int)+1-1).toNat=t.length:=by lia
 refine mY (lo:=1) (n:=((t.length:Int)+1-1).toNat) (GG H D p t a)
  ⟨M5,rfl,rfl,rfl⟩ ?_ ?_ ?_
 ·rintro i k y l _ ⟨_,_,_,rfl⟩;exact aa
 ·rintro i k y l u ⟨M,rfl,rfl,rfl⟩;rw[n]at u;have c:=af j (.lst<|((Os i).filter λi=>cj t i == a).map λ(i:Nat)=>V.int<|(i:Int)+1) _ _ d;have C:(1:Int)+(i:Int)=(i:Int)+1:=by lia
  rw[C];refine⟨_,rfl,_,rfl,p,t,w,i,rfl,c,u,x,_,rfl,.inl ⟨rfl,_,rfl,?_⟩⟩;rw[fT];by_cases G:cj t i=a
  ·have g:(cj t i == a)=true:=by rw[G];exact RX _
   rw[Ng G];refine aB ⟨_,rfl,aa,?_,_,rfl,?_,gf⟩
   ·have:=OX (λi=>cj t i == a)<|Os i;rw[Ph]at this;rw[MY];exact bH (by lia)
   rw[Rp,Px,P9 (p:=λi=>cj t i == a) g,NI];rfl
  rw[M6 G];refine av ⟨_,rfl,?_,rfl⟩;rw[Rp,Px,P_ (p:=λi=>cj t i == a) λz=>G<|by simpa using z];simp
 rintro k y l ⟨_,_,rfl,rfl⟩;refine q D _ (af j _) ?_;rw[aa,n];unfold dU;rw[Ot];rfl
theorem Ft:al ["hand"] ["hand"] (ah uY):=d_
theorem Bt(F:Fun K "other_hand" "other_hand" uY f d)(T:Lz m):aP P w K m B cr 1 f d ["hand"] qT:=by
 refine F.okA Ft λa A o s H v Q E r h=>?_;obtain⟨b,rfl,q⟩:=h;have u:=r.units;exists _,(bN<|jl (ee (aM u) (pv 0)<|aN rfl T.g_WISHER) (aN rfl T.g_SPOILER)<|aN rfl T.g_WISHER);refine⟨_,rfl,.inl ⟨rfl,_,rfl,?_⟩⟩;have e:decide (V.str (ay b)=V.str (M_ "wisher"))=b:=by
  have z:=fT b MX;have Z:ay MX=M_ "wisher":=rfl;rw[Z]at z;rw[z];cases b<;>rfl
 rw[e];cases b with
 |true=>exact aB q
 |false=>exact av q
noncomputable abbrev Bu:OZ:=dN 25
noncomputable abbrev qU:OZ:=dN 26
noncomputable abbrev n_:OZ:=dN 27
def qc(H:Hp)(p:M0)(c:gV Int):Prop:=H p=B' (.tup<|c.map V.int)
inductive GI (vs:gV V)(H:Hp)(Q:VK):Prop
 |mk (p q:M0)(f s:gV Int)(v:Int)(h0:vs=[.ref p,.ref q,.int v])(a:qc H p f)(b:qc H q s)(c:f.length<=60)(d:s.length<=60)(e:∀h,Same H h->Q (.bl<|cJ f s v) h)
def Bv:Sp:=λv H Q _=>GI v H Q
inductive wL (vs:gV V)(H:Hp)(Q:VK):Prop
 |mk (p q:M0)(f s:gV Int)(v:Int)(h0:vs=[.ref p,.ref q,.int v])(a:qc H p f)(b:qc H q s)(c:f.length+s.length<=120/\(bI f s v).length<=60)(d:Ups f)(e:Ups s)(g:cJ f s v=MW)(i:∀(l:M0) (r:gV Int) (h:Hp),Same H h->Joins f s v r->qc h l r->Q (.ref l) h)
def jO:Sp:=λv H Q _=>wL v H Q
inductive tm (vs:gV V)(H:Hp)(Q:VK):Prop
 |mk (p q:M0)(t:Str)(w:V)(hw:Nf)(c:gV Int)(h0:vs=[.ref p,.str<|ay hw,.ref q])(a:H p=B' (.tup [.str t,w]))(b:t.length<=900)(d:qc H q c)(e:c.length<=60)(f:(∀l∈c,1<=absI l/\absI l<=(t.length:Int)))(g:∀(l:M0) (h:Hp),Same H h->qc h l (aL t hw c)->Q (.ref l) h)
def iL:Sp:=λv H Q _=>tm v H Q
theorem bC(c:gV Int):(c.map V.int).all jq=true:=by
 rw[Wt];exact OE.mpr λ_ _=>rfl
theorem Fu{a:Type}(l:gV a)(f:a->Nf):((l.map λx=>V.bl<|f x).all Ar)=MX/\(l.map λx=>V.bl<|f x).any jx=l.any f:=by
 refine⟨by rw[Wt];exact OE.mpr λ_ _=>rfl,?_⟩;rw[Tc];exact fQ λ_ _=>rfl
theorem oa(c:gV Int)(p:Int->Nf)(f:Int->V):((c.map V.int).filter<|su p).map (JA f)=(c.filter p).map f:=by
 induction c with
 |nil=>rfl
 |cons x r i=>
  rw[NW];by_cases h:p x=MX
  ·rw[P9 (p:=su p) (a:=V.int x) h,P9 (p:=p) h,NW,NW,i];rfl
  rw[P_ (p:=su p) (a:=V.int x) h,P_ (p:=p) h,i]
theorem Fv{K:K'}{H:Hp}{p:M0}{n:gV Int}{Q:VK}(h:SqL K H p (n.map V.int))(b:∀a∈n,0<=a)(q:Q (.int<|n.foldl max 0) H):A9 K (.ref p) (.int 0) H Q:=
 ⟨p,n,rfl,h,λe=>by rw[e]at q;exact q,λM m c=>by rw[Ba b (.inl m) c<|b M m]at q;exact q⟩
theorem wM(l:Int):0<=absI l:=by
 obtain⟨_,e⟩|⟨_,e⟩:=aH l<;>lia
theorem Bw:al ["first","second","variable"] ["first","second","variable"] (ah Bu):=d_
theorem Fw(F:Fun K "stands_both_ways" "stands_both_ways" Bu f i)(T:md m):aP P w K m B cr 1 f i ["first","second","variable"] Bv:=by
 have y:=Bw;refine F.okA Bw λC A o s H G Q E j h=>?_;obtain⟨p,q,f,s,v,rfl,c,n,I,J,t⟩:=h;have u:=j.units;exists _,(bN<|ag (As rfl) rfl T.any acv<|a9<|bj (N:=["literal","second","variable"]) (d:=[M5,B' 1,B' 2]) rfl cS (eA<|pv 0) (λ_ _ _ _=>(eu 0<|nD ["literal","second","variable"])) (λ_ _ _ _=>(cy<|ee (fH u) (ag ce rfl T.abs N8<|a9<|pv 0)<|pv 2)) λ_ _ _ _=>(lR (gX (K:=K) rfl) (fq di<|pv 0) (pv 1)<|by with_unfolding_all rfl));refine⟨_,rfl,p,rfl,⟨_,SqT.of c⟩,λD d=>?_⟩;refine de [B'<|.ref q,B'<|.int v] (su λl=>!decide (absI l=v)) (JA λl=>.bl<|s.contains (-l)) rfl c d (by rw[MY];lia) ?_ ?_ ?_
 ·intro x a b R k r;obtain⟨z,_,rfl⟩:=cT a;refine⟨_,rfl,z,rfl,_,rfl,.inl ⟨rfl,_,rfl,?_⟩⟩;have e:decide (V.int (absI z)=V.int v)=decide (absI z=v):=by
   by_cases h:absI z=v
   ·rw[h];simp
   rw[M6 h,M6 λe=>h<|V.int.inj e]
  have g:R (!decide (absI z=v)) b:=r;rw[<-e]at g;exact g
 ·intro x a _ b R k r;obtain⟨z,_,rfl⟩:=cT a;exists _,rfl,_,rfl,_,rfl,q,_,rfl,.inr<|SqT.of<|k _ _ n,rfl,bC s;show R (.bl<|iR (.int (-z))<|s.map V.int) b
  rw[cm];exact r
 rw[oa];have e:=Fu (f.filter λl=>!decide (absI l=v)) λl=>s.contains (-l);exists D,_,rfl,SqL.of aa,e.1;rw[e.2];exact t _<|af d _
theorem tu:al ["first","second","variable","both"] ["first","second","variable"] (ah qU):=d_
theorem y_(F:Fun K "joined" "joined" qU f fd)(T:md mg):aP P w K mg M cr 1 f fd ["first","second","variable"] jO:=by
 have sc:=tu;refine F.okA tu λQu A o s H vs Q E hr h=>?_;obtain⟨p,q,f,s,v,rfl,N,O,⟨h9,a⟩,hf,hs,hb,q'⟩:=h;have hu:=hr.units;refine⟨_,(ad (cM 3 sc.nd<|ar eD (bB cx rfl T.list OT<|a9<|pv 0)<|bj (N:=["literal","first"]) (d:=[M5,B' 0]) rfl cS (eA<|pv 1) (λ_ _ _ _=>(eu 0<|nD ["literal","first"])) (λ_ _ _ _=>(cy<|cp (oZ (K:=K) rfl) (pv 0) (pv 1)<|by with_unfolding_all rfl)) λ_ _ _ _=>(pv 0))
  (bN<|bB c7 rfl T.tuple Ox<|a9<|nQ rfl T.sorted rfl T.abs<|bj (N:=["literal","variable"]) (d:=[M5,B' 2]) rfl cS (bO<|pv 3) (λ_ _ _ _=>(eu 0<|nD ["literal","variable"])) (λ_ _ _ _=>(cy<|ee (fH hu) (ag ce rfl T.abs N8<|a9<|pv 0)<|pv 1)) λ_ _ _ _=>(pv 0))),?_⟩
 refine⟨_,rfl,p,_,rfl,.inr<|SqT.of N,λL n=>?_⟩;have b:=af n<|.lst<|f.map V.int;have U:upd H L (.lst<|f.map V.int) L=B' (.lst<|f.map V.int):=aa;generalize upd H L (.lst<|f.map V.int)=W at b U;refine⟨_,rfl,q,rfl,⟨_,SqT.of<|b _ _ O⟩,λD X=>?_⟩;refine de [B'<|.ref p] (su λl=>!f.contains l) (λx=>x) rfl (b _ _ O) X (by rw[MY];lia) ?_ ?_ ?_
 ·intro x c d R k r;obtain⟨z,_,rfl⟩:=cT c;exists _,rfl,_,rfl,p,_,rfl,.inr<|SqT.of<|k _ _<|b _ _ N,rfl,bC f,_,rfl;show R (!iR (.int z) (f.map V.int)) d
  rw[cm];exact r
 ·intro x c _ d R k r;exact⟨_,rfl,r⟩
 rw[cA s (λl=>!f.contains l) _ λi=>rfl];have t:=af X<|.lst<|(s.filter λl=>!f.contains l).map V.int;have Y:upd W D (.lst<|(s.filter λl=>!f.contains l).map V.int) D=B' (.lst<|(s.filter λl=>!f.contains l).map V.int):=aa;generalize upd W D (.lst<|(s.filter λl=>!f.contains l).map V.int)=Z at t Y;have Yq:=OX (λl=>!f.contains l) s;refine⟨L,D,_,_,rfl,rfl,t _ _ U,Y,by rw[MY,MY,O7];lia,λm u=>?_⟩;rw[<-NI];have k3:=af u<|.lst<|(f++s.filter λl=>!f.contains l).map V.int;have y:upd Z m (.lst<|(f++s.filter λl=>!f.contains l).map V.int) m=B' (.lst<|(f++s.filter λl=>!f.contains l).map V.int):=aa;generalize upd Z m (.lst<|(f++s.filter λl=>!f.contains l).map V.int)=B at k3 y;have ab:(f++s.filter λl=>!f.contains l).length<=120:=by rw[M7];lia
 refine⟨_,rfl,m,rfl,⟨_,SqL.of y⟩,λg j=>?_⟩;refine fR [B'<|.int v] (su λl=>!decide (absI l=v)) (λx=>x) rfl y j (by rw[MY];lia) ?_ ?_ ?_
 ·intro x c d R k r;obtain⟨z,_,rfl⟩:=cT c;refine⟨_,rfl,z,rfl,_,rfl,.inl ⟨rfl,_,rfl,?_⟩⟩;have e:decide (V.int (absI z)=V.int v)=decide (absI z=v):=by
   by_cases h:absI z=v
   ·rw[h];simp
   rw[M6 h,M6 λe=>h<|V.int.inj e]
  have r':R (!decide (absI z=v)) d:=r;rw[<-e]at r';exact r'
 ·intro x c _ d R k r;exact⟨_,rfl,r⟩
 rw[cA _ (λl=>!decide (absI l=v)) _ λi=>rfl];have k4:=af j<|.lst<|(gi f s v).map V.int;have r4:upd B g (.lst<|(gi f s v).map V.int) g=B' (.lst<|(gi f s v).map V.int):=aa;have C:(gi f s v).length<64:=by unfold bI at a;rw[List.length_mergeSort]at a;lia
 show nO _ _ (upd B g<|.lst<|(gi f s v).map V.int) _
 generalize upd B g (.lst<|(gi f s v).map V.int)=H4 at k4 r4;refine⟨g,_,rfl,SqL.of r4,C,λL5 r G I ho=>?_⟩;refine⟨L5,_,rfl,.inl ⟨SqL.of aa,λL6 J=>?_⟩⟩;exact q' L6 r _ ((((b.trans t).trans k3).trans k4).trans<|(af G _).trans<|af J _) (sQ hf hs hb I ho) aa
theorem qd:al ["sentence","hand","literals","others","last"] ["sentence","hand","literals"] (ah n_):=d_
theorem u4(F:Fun K "dropped" "dropped" n_ f L)(T:md M)(W:Fe P w K M B 1 "other_hand" qT)(N:Fe P w K M B 2 "variables_of" uZ):
  aP P w K M B cr 3 f L ["sentence","hand","literals"] iL:=by
 have y:=qd;refine F.okA qd λQu A O s H vs Q E u h=>?_;obtain⟨p,q,t,w,b,c,rfl,U,X,m,Y,g,q'⟩:=h;have hu:=u.units;refine⟨_,(ad (eU (i:=3) y.nd rfl (SE rfl)<|cE N u<|aV (pv 0)<|cE W u<|a9<|pv 1)
  (ad (eU (i:=4) y.nd rfl (SE rfl)<|E7 rfl rfl T.max (bj (N:=["literal","others"]) (d:=[M5,B' 3]) rfl cS (eA<|pv 2) (λ_ _ _ _=>(eu 0<|nD ["literal","others"])) (λ_ _ _ _=>(cy<|cp (gX (K:=K) rfl) (ag ce rfl T.abs N8<|a9<|pv 0) (pv 1)<|by with_unfolding_all rfl)) λ_ _ _ _=>(ag ce rfl T.abs N8<|a9<|pv 0)) ae)
  (bN<|bB c7 rfl T.tuple Ox<|a9<|bj (N:=["literal","last"]) (d:=[M5,B' 4]) rfl cS (eA<|pv 2) (λ_ _ _ _=>(eu 0<|nD ["literal","last"])) (λ_ _ _ _=>(cy<|ee o9 (ag ce rfl T.abs N8<|a9<|pv 0)<|pv 1)) λ_ _ _ _=>(pv 0)))),?_⟩
 refine⟨_,rfl,_,rfl,b,rfl,p,t,w,!b,rfl,U,X,λl C j hl=>?_⟩;refine⟨_,rfl,q,rfl,⟨_,SqT.of<|j _ _ m⟩,λD G=>?_⟩;refine de [B'<|.ref l] (su λz=>(dU t (!b)).contains<|absI z) (JA λz=>.int<|absI z) rfl (j _ _ m) G (by rw[MY];lia) ?_ ?_ ?_
 ·intro x d n R k r;obtain⟨z,_,rfl⟩:=cT d;exists _,rfl,z,rfl,_,rfl,l,_,rfl,.inl<|SqL.of<|k _ _ hl,rfl,bC _,_,rfl;show R (iR (.int<|absI z)<|(dU t (!b)).map V.int) n
  rw[cm];exact r
 ·intro x d _ n R k r;obtain⟨z,_,rfl⟩:=cT d;exact⟨_,rfl,z,rfl,r⟩
 have e:((c.map V.int).filter<|su λz=>(dU t (!b)).contains<|absI z).map (JA λz=>.int<|absI z)=((c.filter λl=>!(cj t (absI l-1).toNat == b)).map absI).map V.int:=by
  rw[oa,Ot];have:(c.filter λz=>(dU t (!b)).contains<|absI z)=c.filter λl=>!(cj t (absI l-1).toNat == b):=Vt λz I=>E8 (g z I).1 (g z I).2;rw[this];rfl
 rw[e];have o:=af G<|.lst<|((c.filter λl=>!(cj t (absI l-1).toNat == b)).map absI).map V.int;have J:upd C D (.lst<|((c.filter λl=>!(cj t (absI l-1).toNat == b)).map absI).map V.int) D=B' (.lst<|((c.filter λl=>!(cj t (absI l-1).toNat == b)).map absI).map V.int):=aa;generalize upd C D (.lst<|((c.filter λl=>!(cj t (absI l-1).toNat == b)).map absI).map V.int)=H2 at o J;unfold tC;refine Fv (n:=(c.filter λl=>!(cj t (absI l-1).toNat == b)).map absI) (SqL.of J) (λa ha=>?_) ?_
 ·obtain⟨z,_,rfl⟩:=NV.mp ha;exact wM z
 refine⟨_,rfl,q,rfl,⟨_,SqT.of<|o _ _<|j _ _ m⟩,λD2 Z=>?_⟩;refine de [B'<|.int<|dA t b c] (su λl=>decide (absI l<=dA t b c)) (λx=>x) rfl (o _ _<|j _ _ m) Z (by rw[MY];lia) ?_ ?_ ?_
 ·intro x d n R k r;obtain⟨z,_,rfl⟩:=cT d;exact⟨_,rfl,z,rfl,_,rfl,_,_,rfl,rfl,_,rfl,r⟩
 ·intro x d _ n R k r;exact⟨_,rfl,r⟩
 rw[cA c (λl=>decide (absI l<=dA t b c)) _ λi=>rfl];refine⟨D2,_,rfl,.inl ⟨SqL.of aa,λL3 v=>?_⟩⟩;exact q' L3 _ (((j.trans o).trans<|af Z _).trans<|af v _) aa
noncomputable abbrev u5:OZ:=dN 13
noncomputable abbrev Bx:OZ:=dN 14
noncomputable abbrev u6:OZ:=dN 29
noncomputable abbrev u7:OZ:=dN 34
noncomputable abbrev u8:OZ:=dN 33
inductive By (vs:gV V)(H:Hp)(Q:VK):Prop
 |mk (v:V)(d:Nh)(many:Nat)(h0:vs=[v,.int (many:Int)])(h:RD H d v)(a:Q (.bl (aS many d).isSome) H)
def mf:Sp:=λv H Q _=>By v H Q
inductive GJ (vs:gV V)(H:Hp)(Q:VK):Prop
 |mk (v:V)(d:Nh)(w:Str)(n:Nat)(h0:vs=[v,.str w,.int (n:Int)])(h:RD H d v)(a:1<=n)(b:OB (.str w)=MX)(c:(∀ds,d=.tuple ds->OB (ds.getD 0 .none)=MX))(e:Q (.bl<|bT w n d) H)
def Bz:Sp:=λv H Q _=>GJ v H Q
inductive BA (vs:gV V)(H:Hp)(Q:VK):Prop
 |mk (p q:M0)(t:V)(v:V)(d:Nh)(xs:gV V)(cs:gV (gV Int))(h0:vs=[.ref p,v])(h:H p=B' (.tup [t,.ref q]))(b:H q=B' (.lst xs))(c:CLs H cs xs)(e:cs.length<=900)(f:RD H d v)(g:∀a,RV H ((aS cs.length d).map λi=>cs.getD i []) a->Q a H)
def wN:Sp:=λv H Q _=>BA v H Q
inductive BB (vs:gV V)(H:Hp)(Q:VK):Prop
 |mk (p a:M0)(t:Str)(w:V)(hw:Nf)(v:V)(d:Nh)(ys:gV V)(sets:gV (gV Int))(h0:vs=[.ref p,.str<|ay hw,v,.ref a])(e:H p=B' (.tup [.str t,w]))(f:t.length<=50)(g:H a=B' (.lst ys))(i:CLs H sets ys)(j:sets.length<=9000)(k:(∀c∈sets,ap t.length c))(l:RD H d v)(m:∀b h,Same H h->RV h (fA t hw sets d) b->Q b h)
def wO:Sp:=λv H Q _=>BB v H Q
inductive BC (vs:gV V)(H:Hp)(Q:VK):Prop
 |mk (p a b:M0)(t:Str)(w:V)(hw:Nf)(g x X d:V)(D e f:Nh)(ys:gV V)(sets:gV (gV Int))(h0:vs=[.ref p,.str<|ay hw,.ref b,.ref a])(k:H p=B' (.tup [.str t,w]))(l:t.length<=50)(m:H b=B' (.tup [g,x,X,d]))(n:H a=B' (.lst ys))(o:CLs H sets ys)(q:sets.length<=9000)(r:(∀c∈sets,ap t.length c))(s:RD H D x)(u:RD H e X)(i:RD H f d)(j:∀v h,Same H h->RV h (dC t hw sets D e f) v->Q v h)
def wP:Sp:=λv H Q _=>BC v H Q
theorem wQ:al ["thing","many"] ["thing","many"] (ah u5):=d_
theorem BD(F:Fun K "is_place" "is_place" u5 f k)(U:Fe P w K M b 1 "is_number" lH):aP P w K M b cr 2 f k ["thing","many"] mf:=by
 have l:=wQ;refine F.okA wQ λu A o s H p Q E r h=>?_;obtain⟨v,d,m,rfl,j,q⟩:=h;exists _,(bN<|dF (cE U r<|a9<|pv 0)<|fN<|zJ o9 mK ae (pv 0)<|pv 1);exists _,rfl,v,d,rfl,j,_,rfl;obtain⟨z,rfl⟩|n:=io d
 ·obtain rfl:=aA j;refine aB ?_;have a:Q (.bl (if 0<=z/\z<(m:Int)then B' z.toNat else M5).isSome) H:=q;exists _,rfl,_,_,rfl,rfl,_,rfl;by_cases g:0<=z
  ·rw[Ng g];refine aB ⟨_,rfl,_,_,rfl,rfl,?_⟩;by_cases i:z<(m:Int)
   ·rw[Nt ⟨g,i⟩]at a;show Q (.bl (decide (z<(m:Int)))) H
    rw[Ng i];exact a
   rw[Np λc=>i c.2]at a;show Q (.bl (decide (z<(m:Int)))) H
   rw[M6 i];exact a
  rw[Np λc=>g c.1]at a;rw[M6 g];exact av a
 rw[iJ n];have e:aS m d=none:=by
  cases d with
  |int z=>exact absurd rfl<|n z
  |_=>rfl
 rw[e]at q;exact av q
theorem BE:al ["thing","word","many"] ["thing","word","many"] (ah Bx):=d_
theorem Fx(F:Fun K "begins_with" "begins_with" Bx f p)(T:md M):aP P w K M B cr 1 f p ["thing","word","many"] Bz:=by
 have C:=BE;refine F.okA BE λG A o s H I Q E r h=>?_;obtain⟨v,d,W,n,rfl,i,J,j,k,q⟩:=h;have u:=r.units;have N:=fK i;exists _,(bN<|dF (ag a8 rfl T.isinstance Nr<|aV (pv 0)<|cG (v:=.ty "tuple") rfl T.tuple Ox rfl)<|dF (j9 (aM u) (ag aD rfl T.len NP<|a9<|pv 0)<|pv 2)<|fN<|j9 (aM u) (a_ (pv 0) ae)<|pv 1);exists _,rfl,v,_,"tuple",_,rfl,lp d v i,iI d N,_,rfl;cases d with
 |tuple D=>
  obtain⟨a,x,rfl,l,m⟩:=aq i;have t:=bZ m;refine aB ⟨_,rfl,.ref a,_,rfl,.inr ⟨_,SqT.of l,rfl⟩,_,rfl,.inl ⟨rfl,_,rfl,?_⟩⟩;have c:Q (.bl (decide (D.length=n)&&cB W (D.getD 0 .none))) H:=q;by_cases g:D.length=n
  ·rw[Ng g]at c;have e:decide (V.int ((x.length:Nat):Int)=V.int (n:Int))=true:=Ng (by rw[t,g]);rw[e];obtain⟨X,b⟩:∃X,x[0]?=B' X:=⟨_,M4 (by lia)⟩;have y:=eE m b;refine aB ⟨_,rfl,(bM l (bi b) ⟨_,rfl,.inr ⟨_,_,y,cD W,k D rfl,j,?_⟩⟩)⟩;rw[ir];exact c
  ·rw[M6 g]at c;have e:decide (V.int ((x.length:Nat):Int)=V.int (n:Int))=false:=M6 λz=>g (by have:=V.int.inj z;lia);rw[e];exact av c
 |_=>exact av q
theorem wR:al ["sentence","place"] ["sentence","place"] (ah u6):=d_
theorem BF(F:Fun K "given_set" "given_set" u6 f r)(T:md m)(U:Fe P w K m b 2 "is_place" mf):aP P w K m b cr 3 f r ["sentence","place"] wN:=by
 have B:=wR;refine F.okA wR λD A o s H G Q E u h=>?_;obtain⟨p,q,t,v,d,X,C,rfl,j,k,I,L,l,a⟩:=h;have y:=I.length;refine⟨_,(ad (aE (aT<|aK<|cE U u<|aV (pv 1)<|ag aD rfl T.len NP<|a9<|a_ (pv 0) ae) (bN bg) am)
  (bN<|a_ (a_ (pv 0) ae)<|pv 1)),?_⟩
 refine⟨_,rfl,_,rfl,(bM j rfl ⟨.ref q,_,rfl,.inl ⟨_,SqL.of k,rfl⟩,v,d,X.length,rfl,l,_,rfl,?_⟩)⟩;rw[<-y];cases g:aS C.length d with
 |none=>
  rw[g]at a;exact aB<|a _ rfl
 |some i=>
  rw[g]at a;obtain⟨M,rfl⟩:=bG g;obtain rfl:=aA l;obtain⟨x,n⟩:∃x,X[i]?=B' x:=⟨_,M4 (by lia)⟩;obtain⟨c,z,J⟩:=I.get n;have e:C.getD i []=c:=by rw[M1,z];rfl
  refine av ⟨_,rfl,(bM j rfl ⟨_,rfl,(iw k (bi n)<|a _ ?_)⟩)⟩;show CL H (C.getD i []) x
  rw[e];exact J
theorem wS:al ["sentence","hand","place","ahead"] ["sentence","hand","place","ahead"] (ah u7):=d_
theorem BG(F:Fun K "drop_set" "drop_set" u7 f I)(T:md m)(U:Fe P w K m B 2 "is_place" mf)(W:Fe P w K m B 3 "dropped" iL):aP P w K m B cr 4 f I ["sentence","hand","place","ahead"] wO:=by
 have Z:=wS;refine F.okA wS λQu A o s H vs Q E r h=>?_;obtain⟨p,a,t,w,n,v,d,y,b,rfl,J,h9,u,z,h8,j,C,q⟩:=h;have L:=z.length;refine⟨_,(ad (aE (aT<|aK<|cE U r<|aV (pv 2)<|ag aD rfl T.len NP<|a9<|pv 3) (bN bg) am)
  (bN<|cE W r<|au (pv 0)<|aV (pv 1)<|a_ (pv 3)<|pv 2)),?_⟩
 exists _,rfl,_,rfl,.ref a,_,rfl,.inl ⟨_,SqL.of u,rfl⟩,v,d,y.length,rfl,C,_,rfl;rw[<-L];unfold fA at q;cases g:aS b.length d with
 |none=>
  rw[g]at q;exact aB<|q _ _ (Same.refl _) rfl
 |some i=>
  rw[g]at q;obtain⟨hi,rfl⟩:=bG g;obtain rfl:=aA C;obtain⟨x,D⟩:∃x,y[i]?=B' x:=⟨_,M4 (by lia)⟩;obtain⟨c,G,l,rfl,M⟩:=z.get D;have e:b.getD i []=c:=by rw[M1,G];rfl
  have k:=j c<|Nc G;have VJ:=aY k;refine av ⟨_,rfl,_,rfl,_,rfl,_,rfl,(iw u (bi D) ⟨p,l,t,w,n,c,rfl,J,by lia,M,by lia,k.2,λN O X Y=>q _ _ X ?_⟩)⟩;show CL O (aL t n<|b.getD i []) _
  rw[e];exact⟨N,rfl,Y⟩
theorem wT(h:aS s.length d=M5):dC t H s d D a=none:=by
 unfold dC;rw[h]
theorem wU(h:aS s.length d=M5):dC t H s D d a=none:=by
 unfold dC;rw[h];cases aS s.length D<;>rfl
theorem wV(h:∀z,d≠.int z):dC t H s D a d=none:=by
 unfold dC
 split
 ·rename_i z _ _;exact absurd rfl<|h z
 rfl
theorem wW{t:Str}{h:Nf}{z:Int}(H:aS s.length d=B' i)(a:aS s.length D=B' j):
  dC t h s d D (.int z)=if dL t h (s.getD i []) (s.getD j []) z=MX then B' (bI (s.getD i []) (s.getD j []) z)else none:=by
 unfold dC;rw[H,a]
theorem wX:al ["sentence","hand","line","ahead","variable","first","second"] ["sentence","hand","line","ahead"] (ah u8):=d_
theorem BH(F:Fun K "join_set" "join_set" u8 f fd)(T:md M)(UP:Fe P w K M B 1 "is_number" lH)(UI:Fe P w K M B 2 "is_place" mf)
  (WT:Fe P w K M B 1 "other_hand" qT) (Vw:Fe P w K M B 2 "variables_of" uZ) (Yr:Fe P w K M B 1 "stands_both_ways" Bv) (Z:Fe P w K M B 1 "joined" jO):
  aP P w K M B cr 3 f fd ["sentence","hand","line","ahead"] wP:=by
 have sc:=wX;refine F.okA wX λQu A ab s H vs Q E n h=>?_;obtain⟨p,a,b,t,w,u,x0,x1,x2,x3,d1,d2,d3,Y,c,rfl,hp,h9,v,N,hs,h8,y,r1,r2,r3,q⟩:=h;have hu:=n.units;have Pd:=hs.length;refine⟨_,(ad (cM 4 sc.nd<|a_ (pv 2) ae)
  (ad (aE (PW.pt<|cI (aT<|aK<|cE UI n<|aV (a_ (pv 2) ae)<|ag aD rfl T.len NP<|a9<|pv 3)<|cI (aT<|aK<|cE UI n<|aV (a_ (pv 2) ae)<|ag aD rfl T.len NP<|a9<|pv 3)<|cO<|aT<|aK<|cE UP n<|a9<|pv 4) (bN bg) am)
  (ad (cM 5 sc.nd<|a_ (pv 3)<|a_ (pv 2) ae)
  (ad (cM 6 sc.nd<|a_ (pv 3)<|a_ (pv 2) ae)
  (ad (aE (PW.pt<|cI (cp cQ (pv 4) (cE Vw n<|aV (pv 0)<|cE WT n<|a9<|pv 1)<|by with_unfolding_all rfl)<|cI (cp cQ (pv 4) (pv 5)<|by with_unfolding_all rfl)<|cO<|cp cQ (fq di<|pv 4) (pv 6)<|by with_unfolding_all rfl) (bN bg) am)
  (ad (aE (aK<|cE Yr n<|au (pv 5)<|aV (pv 6)<|pv 4) (bN bg) am)
  (bN<|cE Z n<|au (pv 5)<|aV (pv 6)<|pv 4))))))),?_⟩
 refine⟨_,rfl,(bM v rfl ?_)⟩;refine⟨_,rfl,(bM v rfl ⟨_,rfl,.ref a,_,rfl,.inl ⟨_,SqL.of N,rfl⟩,x1,d1,Y.length,rfl,r1,_,rfl,?_⟩)⟩;rw[<-Pd];cases G:aS c.length d1 with
 |none=>
  rw[wT G]at q;exact aB<|aB<|q _ _ (Same.refl _) rfl
 |some i=>
 refine av ⟨_,rfl,(bM v rfl ⟨_,rfl,.ref a,_,rfl,.inl ⟨_,SqL.of N,rfl⟩,x2,d2,Y.length,rfl,r2,_,rfl,?_⟩)⟩;rw[<-Pd];cases o:aS c.length d2 with
 |none=>
  rw[wU o]at q;exact aB<|aB<|q _ _ (Same.refl _) rfl
 |some j=>
 refine av ⟨_,rfl,x3,d3,rfl,r3,_,rfl,?_⟩;obtain⟨z,rfl⟩|hn:=io d3
 rotate_left
 ·rw[iJ hn,wV hn]at*;exact aB<|q _ _ (Same.refl _) rfl
 obtain rfl:=aA r3;rw[wW G o]at q;obtain⟨hi,rfl⟩:=bG G;obtain⟨hj,rfl⟩:=bG o;obtain rfl:=aA r1;obtain rfl:=aA r2;obtain⟨y1,C⟩:∃x,Y[i]?=B' x:=⟨_,M4 (by lia)⟩;obtain⟨y2,D⟩:∃x,Y[j]?=B' x:=⟨_,M4 (by lia)⟩;obtain⟨g,hf,l1,rfl,VI⟩:=hs.get C;obtain⟨m,I,l2,rfl,Yq⟩:=hs.get D;have ef:c.getD i []=g:=by rw[M1,hf];rfl
 have es:c.getD j []=m:=by rw[M1,I];rfl
 rw[ef,es]at q;have O:=y g<|Nc hf;have os:=y m<|Nc I;have cf:=aY O;have cs:=aY os;refine av ?_;refine⟨_,rfl,_,rfl,(bM v rfl<|(iw N (bi C) ?_))⟩;refine⟨_,rfl,_,rfl,(bM v rfl<|(iw N (bi D) ?_))⟩;have U:dL t u g m z=MW->∀H',Same H H'->Q .non H':=λe H' k=>by
  rw[e]at q;exact q _ _ k rfl
 refine⟨_,rfl,_,rfl,_,rfl,u,rfl,p,t,w,!u,rfl,hp,by lia,λl H1 d hl=>?_⟩;exists l,_,rfl,.inl<|SqL.of hl,rfl,bC _,_,rfl;show(if(!iR (.int z) ((dU t (!u)).map V.int))=MX then _ else _)
 rw[cm];cases J:(dU t (!u)).contains z with
 |false=>exact aB<|aB<|U (by unfold dL;rw[J];rfl) _ d
 |true=>
 refine av ⟨_,rfl,_,rfl,l1,_,rfl,.inr<|SqT.of<|d _ _ VI,rfl,bC _,_,rfl,?_⟩;show(if(!iR (.int z) (g.map V.int))=MX then _ else _)
 rw[cm];cases W:g.contains z with
 |false=>exact aB<|aB<|U (by unfold dL;rw[J,W];rfl) _ d
 |true=>
 refine av ⟨_,rfl,_,rfl,_,rfl,l2,_,rfl,.inr<|SqT.of<|d _ _ Yq,rfl,bC _,_,rfl,?_⟩;show(if(!iR (.int (-z)) (m.map V.int))=MX then _ else _)
 rw[cm];cases c3:m.contains (-z)with
 |false=>exact aB<|U (by unfold dL;rw[J,W,c3];rfl) _ d
 |true=>
 refine av ⟨_,rfl,_,rfl,_,rfl,l1,l2,g,m,z,rfl,d _ _ VI,d _ _ Yq,by lia,by lia,λH2 X=>⟨_,rfl,?_⟩⟩;cases L:cJ g m z with
 |true=>exact aB<|U (by unfold dL;rw[J,W,c3,L];rfl) _<|d.trans X
 |false=>
 have ej:dL t u g m z=true:=by unfold dL;rw[J,W,c3,L];rfl
 rw[ej]at q;refine av ⟨_,rfl,_,rfl,_,rfl,l1,l2,g,m,z,rfl,X _ _<|d _ _ VI,X _ _<|d _ _ Yq,⟨by lia,by have:=aY<|jK O os L;lia⟩,O.1,os.1,L,λl3 r H3 k3 ac h3=>q _ _ ((d.trans X).trans k3) ?_⟩;rw[ac.eq O.1 os.1 L]at h3;exact⟨l3,rfl,h3⟩
noncomputable abbrev qV:OZ:=dN 30
noncomputable abbrev u9:OZ:=dN 31
noncomputable abbrev u_:OZ:=dN 32
noncomputable abbrev BI:OZ:=dN 35
inductive BJ (vs:gV V)(H:Hp)(Q:VK):Prop
 |mk (l t:M0)(c k:gV Int)(h0:vs=[.ref l,.ref t])(h:qc H l c)(a:qc H t k)(b:Q (.bl (c.any λz=>k.contains z)) H)
def wY:Sp:=λv H Q _=>BJ v H Q
inductive GK (H:Hp)(l t:M0)(c k:gV Int)(i:Nat)(a:St)(h:Hp):Prop
 |mk (v:MZ V)(h0:a=[B' (.ref l),B' (.ref t),v])(b:h=H)(d:((c.take i).any λz=>k.contains z)=MW)
inductive BK (vs:gV V)(H:Hp)(Q:VK):Prop
 |mk (l q:M0)(c:gV Int)(xs:gV V)(cs:gV (gV Int))(h0:vs=[.ref l,.ref q])(a:qc H l c)(b:c.length<=60)(d:H q=B' (.lst xs))(e:CLs H cs xs)(f:cs.length<=900)(g:∀h,Same H h->Q (.bl<|pU c cs) h)
def wZ:Sp:=λv H Q _=>BK v H Q
inductive BL (vs:gV V)(H:Hp)(Q:VK):Prop
 |mk (p q:M0)(t:Str)(v:V)(d:Nh)(xs:gV V)(cs:gV (gV Int))(h0:vs=[.ref p,v])(b:H p=B' (.tup [.str t,.ref q]))(c:t.length<=50)(e:H q=B' (.lst xs))(f:CLs H cs xs)(g:cs.length<=900)(i:RD H d v)(j:∀a h,Same H h->RV h (gj t.length cs d) a->Q a h)
def w4:Sp:=λv H Q _=>BL v H Q
def kB(d:Nh):Prop:=∀D,d=.tuple D->OB (D.getD 0 .none)=MX
inductive GL (vs:gV V)(H:Hp)(Q:VK):Prop
 |mk (p q a:M0)(t:Str)(hw:Nf)(v:V)(d:Nh)(xs ys:gV V)(cs sets:gV (gV Int))(h0:vs=[.ref p,.str<|ay hw,v,.ref a])(i:H p=B' (.tup [.str t,.ref q]))(j:t.length<=50)(k:H q=B' (.lst xs))(l:CLs H cs xs)(m:cs.length<=900)(n:H a=B' (.lst ys))(o:CLs H sets ys)(r:sets.length<=9000)(s:(∀c∈sets,ap t.length c))(e:RD H d v)(f:kB d)(g:∀b h,Same H h->RV h (aG t cs hw sets d) b->Q b h)
def BM:Sp:=λv H Q _=>GL v H Q
theorem gN(h:dw H d s)(l:d.length=4):∃D c e f x X a b,d=[D,c,e,f]/\s=[x,X,a,b]/\RD H D x/\RD H c X/\RD H e a/\RD H f b:=by
 match d,l with
 |[D,c,e,f],_=>
  obtain⟨x,r,rfl,g,k⟩:=ao h;obtain⟨X,q,rfl,i,j⟩:=ao k;obtain⟨a,t,rfl,m,n⟩:=ao j;obtain⟨b,u,rfl,o,p⟩:=ao n;obtain rfl:=bS p;exact⟨_,_,_,_,x,X,a,b,rfl,rfl,g,i,m,o⟩
theorem IS:OB (.str aW)=true:=Nice.shaped (eI 8<|by decide+kernel)
theorem IT:OB (.str aJ)=true:=Nice.shaped (eI 8<|by decide+kernel)
theorem IU:OB (.str bx)=true:=Nice.shaped (eI 8<|by decide+kernel)
theorem IV:OB (.str aO)=true:=Nice.shaped (eI 8<|by decide+kernel)
theorem Fy{a:Type}(l:gV a)(f:a->Nf):((l.map λx=>V.bl<|f x).all Ar)=MX/\(l.map λx=>V.bl<|f x).all jx=l.all f:=by
 refine⟨by rw[Wt];exact OE.mpr λ_ _=>rfl,?_⟩;rw[Wt];rfl
noncomputable def tz(H:Hp)(c:gV Int)(x:V):Nf:=match x with
 |.ref p=>match H p with
  |some (.tup z)=>c.any λl=>z.contains<|.int l
  |_=>MW
 |_=>MW
theorem BN(Z:gV Int)(l:Int):(Z.map V.int).contains (.int l)=Z.contains l:=by
 induction Z with
 |nil=>rfl
 |cons z r i=>
  rw[NW,Yn,Yn,i]
  congr 1
  by_cases h:l=z
  ·rw[h];simp
  rw[OR.mpr h,OR.mpr λe=>h<|V.int.inj e]
theorem qW(h:CL H k x):tz H c x=c.any λl=>k.contains l:=by
 obtain⟨p,rfl,a⟩:=h;unfold tz;simp only[a];exact fQ λl _=>BN k l
theorem og:∀{C:gV (gV Int)} {X:gV V},CLs H C X->X.all (tz H c)=pU c C
 |_,_,.nil=>rfl
 |k::C,x::X,.cons h t=>by
  rw[TR,qW h,og t];rfl
theorem mh:al ["literals","clause","literal"] ["literals","clause"] (ah qV):=d_
theorem BO(F:Fun K "hits" "hits" qV f p):aP P w K M b cr 1 f p ["literals","clause"] wY:=by
 have r:=mh;refine F.okA mh λC A o s H D Q E G h=>?_;obtain⟨l,t,c,k,rfl,d,v,q⟩:=h;refine⟨_,(ad (cP Ow rfl (eA<|pv 0) (eu 2 r.nd)
   (ax<|aE (cp du (pv 2) (pv 1)<|by with_unfolding_all rfl) (bN bw) am))
  (bN bw)),?_⟩
 refine⟨_,rfl,l,rfl,⟨_,SqT.of d⟩,qD (K:=K) (a:=l) (X:=c.map V.int) (GK H l t c k) ⟨M5,rfl,rfl,rfl⟩ ?_ ?_ ?_⟩
 ·rintro i j m _ ⟨_,_,rfl,_⟩;exact SqT.of d
 ·rintro i x j m u ⟨y,rfl,rfl,a⟩;obtain⟨z,rfl,n⟩:=eF u;have e:(if MW=MX then !iR (.int z) (k.map V.int)else iR (.int z) (k.map V.int))=k.contains z:=by
   rw[Np Ni,cm]
  exists _,rfl,_,rfl,t,_,rfl,.inr<|SqT.of v,rfl,bC k,_,rfl;rw[e];cases g:k.contains z with
  |true=>
   refine aB ?_;have B:(c.any λz=>k.contains z)=true:=N4.mpr ⟨z,Nc n,g⟩;rw[B]at q;exact q
  |false=>
   refine av ⟨_,rfl,rfl,?_⟩;rw[Oc,n,WE,a];show(k.contains z || MW)=MW
   rw[g];rfl
 rintro j m ⟨y,rfl,rfl,a⟩;rw[Nn<|by rw[MY];exact Na _]at a;rw[a]at q;exact q
theorem w6:al ["literals","clauses"] ["literals","clauses"] (ah u9):=d_
theorem BP(F:Fun K "hits_each" "hits_each" u9 f p)(T:md m)(a:Fe P w K m b 1 "hits" wY):aP P w K m b cr 2 f p ["literals","clauses"] wZ:=by
 have L:=w6;refine F.okA w6 λM A o s H N Q E d h=>?_;obtain⟨l,q,c,X,O,rfl,t,U,g,I,W,u⟩:=h;have Y:=d.units;have Z:=I.length;exists _,(bN<|ag (Au rfl) rfl T.all acw<|a9<|bj (N:=["clause","literals"]) (d:=[M5,B' 0]) rfl cS (bO<|pv 1) (λ_ _ _ _=>(eu 0<|nD ["clause","literals"])) (λ_ _ _ _=>dO) λ_ _ _ _=>(cE a d<|aV (pv 1)<|pv 0));refine⟨_,rfl,q,rfl,⟨_,SqL.of g⟩,λD j=>?_⟩;refine fR [B'<|.ref l] (λ_=>MX) (λx=>.bl<|tz H c x) rfl g j (by lia) ?_ ?_ ?_
 ·intro x n y R k r;exact r
 ·intro x n _ y R k r;obtain⟨i,z⟩:=OW.mp n;obtain⟨B,_,v⟩:=I.get z;rw[qW v]at r;obtain⟨C,rfl,G⟩:=v;exact⟨_,rfl,_,rfl,l,C,c,B,rfl,k _ _ t,k _ _ G,r⟩
 have J:(X.filter λ_=>MX)=X:=Sf.mpr λ_ _=>rfl;rw[J];have e:=Fy X<|tz H c;exists D,_,rfl,SqL.of aa,e.1;rw[e.2,og I];exact u _<|af j _
theorem w9:al ["sentence","literals"] ["sentence","literals"] (ah u_):=d_
theorem BQ(F:Fun K "hits_set" "hits_set" u_ f u)(T:md m)(c:Fe P w K m b 2 "is_set" GE)(e:Fe P w K m b 2 "hits_each" wZ):aP P w K m b cr 3 f u ["sentence","literals"] w4:=by
 have D:=w9;refine F.okA w9 λL A o s H M Q E r h=>?_;obtain⟨p,q,t,v,d,x,C,rfl,i,N,y,I,z,j,a⟩:=h;have O:=r.units;refine⟨_,(ad (aE (PW.pt<|cI (aT<|aK<|cE c r<|aV (pv 1)<|ag aD rfl T.len NP<|a9<|a_ (pv 0) ae)<|cO<|aT<|aK<|cE e r<|aV (pv 1)<|a_ (pv 0) ae) (bN bg) am)
  (bN<|pv 1)),?_⟩
 refine⟨_,rfl,_,rfl,(bM i rfl ⟨.str t,_,rfl,⟨OG (bH<|by lia),rfl⟩,v,d,_,rfl,j,_,rfl,?_⟩)⟩;unfold gj at a;cases g:ny (t.length:Int) d with
 |false=>
  rw[g]at a;exact aB<|aB<|a _ _ (Same.refl _) rfl
 |true=>
 obtain⟨B,ok⟩:=lY g;have J:CL H (iW d) v:=CL.of (by rw[<-B];exact j);obtain⟨l,rfl,n⟩:=J;have U:=aY ok;refine av ⟨_,rfl,_,rfl,(bM i rfl ⟨l,q,iW d,x,C,rfl,n,by lia,y,I,z,λW k=>⟨_,rfl,?_⟩⟩)⟩;rw[g,Q1]at a;cases G:pU (iW d) C with
 |false=>
  rw[G]at a;exact aB<|a _ _ k rfl
 |true=>
  rw[G]at a;exact av ⟨_,rfl,a _ _ k ⟨l,rfl,k _ _ n⟩⟩
theorem BR:al ["sentence","hand","line","ahead"] ["sentence","hand","line","ahead"] (ah BI):=d_
theorem Fz(F:Fun K "line_set" "line_set" BI f fd)(T:Lz M)(U:Fe P w K M B 1 "begins_with" Bz)(O:Fe P w K M B 3 "given_set" wN)
  (W:Fe P w K M B 3 "hits_set" w4) (Y:Fe P w K M B 3 "join_set" wP) (Z:Fe P w K M B 4 "drop_set" wO):aP P w K M B cr 5 f fd ["sentence","hand","line","ahead"] BM:=by
 have sc:=BR;refine F.okA BR λQu A ab s H vs Q E r h=>?_;obtain⟨p,q,a,t,e,v,d,xs,ys,C,c,rfl,J,ht,hq,SI,h9,ha,hs,h8,o,j,i,g⟩:=h;have hu:=r.units;refine⟨_,(ad (aE (PW.pt<|fG (ee (aM hu) (pv 1)<|aN rfl T.g_SPOILER)<|fg<|aK<|cE U r<|au (pv 2)<|aV aQ ae) (bN<|cE O r<|aV (pv 0)<|a_ (pv 2) ae) am)
  (ad (aE (PW.pt<|fG (ee (aM hu) (pv 1)<|aN rfl T.g_WISHER)<|fg<|aK<|cE U r<|au (pv 2)<|aV aQ ae) (bN<|cE W r<|aV (pv 0)<|a_ (pv 2) ae) am)
  (ad (aE (aK<|cE U r<|au (pv 2)<|aV aQ ae) (bN<|cE Y r<|au (pv 0)<|au (pv 1)<|aV (pv 2)<|pv 3) am)
  (ad (aE (aK<|cE U r<|au (pv 2)<|aV aQ ae) (bN<|cE Z r<|au (pv 0)<|au (pv 1)<|aV (a_ (pv 2) ae)<|pv 3) am)
  (bN bg))))),?_⟩
 have ew:decide (V.str (ay e)=V.str (M_ "wisher"))=e:=by
  have z:=fT e MX;have z2:ay MX=M_ "wisher":=rfl;rw[z2]at z;rw[z];cases e<;>rfl
 have es:decide (V.str (ay e)=V.str (M_ "spoiler"))=!e:=by
  have z:=fT e MW;have z2:ay MW=M_ "spoiler":=rfl;rw[z2]at z;rw[z];cases e<;>rfl
 refine jN λN hN=>?_;have u:(!e&&bT aO 2 d)=MW->N (L2.start ["sentence","hand","line","ahead"] [.ref p,.str<|ay e,v,.ref a]) H:=λy=>hN _ _ (by
  refine jN λN2 ac=>?_;have G:(e&&bT bx 2 d)=MW->N2 (L2.start ["sentence","hand","line","ahead"] [.ref p,.str<|ay e,v,.ref a]) H:=λI=>ac _ _ (by
   have L:aG t C e c d=if bT aW 4 d=MX then dC t e c (gZ d 1) (gZ d 2) (gZ d 3)else if bT aJ 2 d=MX then fA t e c (gZ d 1)else none:=by
    unfold aG;rw[y,I];rfl
   rw[L]at g;exists _,rfl,v,d,aW,4,rfl,j,by decide,IS,i,_,rfl;cases c3:bT aW 4 d with
   |true=>
    rw[c3,Nt rfl]at g;obtain⟨ds,rfl,l⟩:=jL c3;obtain⟨b,zs,rfl,k,m⟩:=aq j;obtain⟨d0,D,d2,d3,X,x,x2,x3,rfl,rfl,r0,n,r2,r3⟩:=gN m l;exact aB ⟨_,rfl,_,rfl,_,rfl,_,rfl,p,a,b,t,_,e,X,x,x2,x3,D,d2,d3,ys,c,rfl,J,ht,k,ha,hs,h8,o,n,r2,r3,g⟩
   |false=>
   rw[c3,Np Ni]at g;refine av ⟨_,rfl,v,d,aJ,2,rfl,j,by decide,IT,i,_,rfl,?_⟩;cases c4:bT aJ 2 d with
   |true=>
    rw[c4,Nt rfl]at g;obtain⟨ds,rfl,l⟩:=jL c4;obtain⟨b,zs,rfl,k,m⟩:=aq j;obtain⟨d0,D,X,x,rfl,rfl,r0,n⟩:=cH m l;exact aB ⟨_,rfl,_,rfl,_,rfl,(bM k rfl ⟨_,rfl,p,a,t,_,e,x,D,ys,c,rfl,J,ht,ha,hs,h8,o,n,g⟩)⟩
   |false=>
    rw[c4,Np Ni]at g;exact av<|g _ _ (Same.refl _) rfl)
  refine⟨_,rfl,.inl ⟨rfl,_,rfl,?_⟩⟩;dsimp only;rw[ew];cases e with
  |false=>exact av<|av<|G rfl
  |true=>
  refine aB ⟨_,rfl,v,d,bx,2,rfl,j,by decide,IU,i,_,rfl,?_⟩;cases I:bT bx 2 d with
  |false=>exact av<|G I
  |true=>
   have L:aG t C MX c d=gj t.length C (gZ d 1):=by
    unfold aG;rw[I];rfl
   rw[L]at g;obtain⟨ds,rfl,l⟩:=jL I;obtain⟨b,zs,rfl,k,m⟩:=aq j;obtain⟨d0,D,X,x,rfl,rfl,r0,n⟩:=cH m l;exact aB ⟨_,rfl,_,rfl,(bM k rfl ⟨p,q,t,x,D,xs,C,rfl,J,ht,hq,SI,h9,n,g⟩)⟩)
 refine⟨_,rfl,.inl ⟨rfl,_,rfl,?_⟩⟩;dsimp only;rw[es];cases e with
 |true=>exact av<|av<|u rfl
 |false=>
 refine aB ⟨_,rfl,v,d,aO,2,rfl,j,by decide,IV,i,_,rfl,?_⟩;cases y:bT aO 2 d with
 |false=>exact av<|u y
 |true=>
  have L:aG t C MW c d=fV C (gZ d 1):=by
   unfold aG;rw[y];rfl
  rw[L]at g;obtain⟨ds,rfl,l⟩:=jL y;obtain⟨b,zs,rfl,k,m⟩:=aq j;obtain⟨d0,D,X,x,rfl,rfl,r0,n⟩:=cH m l;exact aB ⟨_,rfl,_,rfl,(bM k rfl ⟨p,q,_,x,D,xs,C,rfl,J,hq,SI,h9,n,λv' hv=>g _ _ (Same.refl _) hv⟩)⟩
noncomputable abbrev qX:OZ:=dN 36
structure MF (mg:Str->MZ J'):Prop where
 enumerate:mg "enumerate"=M5
inductive w_ (vs:gV V)(H:Hp)(Q:VK):Prop
 |mk (p q pp L:M0)(t:Str)(hw:Nf)(xs s:gV V)(cs:gV (gV Int))(ds:gV Nh)(out:gV (gV Int))(h0:vs=[.ref p,.ref pp])(g:H p=B' (.tup [.str t,.ref q]))(i:t.length<=50)(j:H q=B' (.lst xs))(k:CLs H cs xs)(m:cs.length<=900)(n:(∀c∈cs,ap t.length c))(o:H pp=B' (.tup [.str<|ay hw,.ref L]))(r:H L=B' (.lst s))(u:dw H ds s)(a:ds.length<=9000)(b:(∀d∈ds,kB d))(e:b0 t cs hw [] ds=(out,MX))(f:∀l ys h,Same H h->H l=M5->h l=B' (.lst ys)->CLs h out ys->Q (.ref l) h)
def tD:Sp:=λv H Q _=>w_ v H Q
theorem tE:al ["sentence","paper","sets","place","line","literals"] ["sentence","paper"] (ah qX):=d_
inductive oh (p:M0)(pp:M0)(s:M0)(t:Str)(cs:gV (gV Int))(hw:Nf)(ds:gV Nh)(H:Hp)(i:Nat)(a:gV (MZ V))(G:Hp):Prop
 |mk (x:MZ V)(X:MZ V)(b:MZ V)(ys:gV V)(sets:gV (gV Int))(I:a=[B'<|.ref p,B'<|.ref pp,B'<|.ref s,x,X,b])(c:G s=B' (.lst ys))(d:CLs G sets ys)(e:b0 t cs hw [] (ds.take i)=(sets,MX))(f:Same H G)
theorem za(F:Fun K "sets_of" "sets_of" qX f fd)(T:MF mg)(I:Fe P w K mg B 5 "line_set" BM):aP P w K mg B cr 6 f fd ["sentence","paper"] tD:=by
 have u:=tE;refine F.okA tE λQu A O s H vs Q E hr h=>?_;obtain⟨p,q,pp,la,t,v,xs,ls,J,D,az,rfl,hp,ht,hq,SI,h9,Qm,l,m,Zt,h8,L,U,q'⟩:=h;have hu:=hr.units;have Pd:=bZ Zt;refine⟨_,(ad (cM 2 u.nd<|aI bz)
  (ad (cP Ow rfl (qM rfl T.enumerate<|a_ (pv 1) ae) (iX rfl<|cb (eu 3 u.nd)<|cb (eu 4 u.nd) gg)
   (ad (cM 5 u.nd<|cE I hr<|au (pv 0)<|au (a_ (pv 1) ae)<|aV (pv 4)<|pv 2)
   (ad (aE (ee ib (pv 5) bg) (ax gy) am)
   (ax<|bu<|eS NJ Oj On bY (pv 2)<|a9<|pv 5))))
  (bN<|pv 2))),?_⟩
 refine⟨NA _,λM Z=>?_⟩;have N:=af Z<|.lst [];refine⟨_,rfl,(bM (N _ _ l) rfl ⟨la,rfl,⟨_,SqL.of<|N _ _ m⟩,?_⟩)⟩;refine sk (K:=K) (a:=la) (X:=ls) (oh p pp M t J v D H)
  ⟨M5,M5,M5,[],[],rfl,aa,.nil,rfl,N⟩ ?_ ?_ ?_
 ·rintro i σ G _ ⟨_,_,_,_,_,_,_,_,_,k⟩;exact SqL.of<|k _ _ m
 ·rintro i x σ G t1 hx ⟨x3,x4,x5,Y,a,rfl,y,n,g,W⟩ X;have WQ:i<ls.length:=(M'.mp hx).1;have rx:=eE Zt hx;have z:=getD_some (d:=PL) (show i<D.length by lia);generalize D.getD i .none=d at rx z;have ab:d∈D:=Nc z;have r:Same G (upd G t1<|.tup [.int i,x]):=af X _;have j:=W.trans r;have ac:=fb g;rw[NO,Sw]at ac;have an:∀c∈a,ap t.length c:=by
   have:=l_ (w:=v) Qm (D:=D.take i) (s:=[]) (λ_ h=>nomatch h);rw[g]at this;exact this
  exists t1,_,rfl,SqT.of aa,rfl,_,_,rfl,_,_,rfl,rfl;refine⟨_,rfl,_,rfl,(bM (j _ _ l) rfl ⟨_,rfl,_,rfl,p,q,M,t,v,x,d,xs,Y,J,a,rfl,j _ _ hp,ht,j _ _ hq,SI.mono j,h9,r _ _ y,n.mono r,by lia,an,fj j _ _ rx,L d ab,λv' H3 k3 hv=>?_⟩)⟩;cases hl:aG t J v a d with
  |none=>
   rw[wE g z hl]at U;cases U
  |some c=>
   rw[hl]at hv;obtain⟨tc,rfl,Vd⟩:=hv;have as:=j.trans k3;have C:=k3 _ _<|r _ _ y;refine⟨_,rfl,rfl,_,rfl,av ?_⟩;exists _,rfl,.inl ⟨rfl,_,SqL.of C⟩,_,rfl,M,_,_,rfl,rfl,C,(by rw[<-n.length];exact bH<|by lia);refine⟨_,_,_,Y++[.ref tc],a++[c],rfl,aa,CLs.snoc (CL.upd ⟨tc,rfl,Vd⟩ C)<|(n.mono<|r.trans k3).upd C,run_next g z hl,λb o e=>?_⟩;rw[aj<|ai e Z];exact as _ _ e
 rintro σ G ⟨x3,x4,x5,Y,a,rfl,y,n,g,W⟩;rw[Nn (by lia),U]at g;cases g;exact⟨_,rfl,q' _ _ _ W Z y n⟩
noncomputable abbrev IW:OZ:=dN 57
noncomputable abbrev BS:OZ:=dN 58
noncomputable abbrev vc:OZ:=dN 59
noncomputable abbrev BU:OZ:=dN 60
noncomputable abbrev qY:OZ:=dN 61
inductive KN (vs:gV V)(H:Hp)(Q:VK):Prop
 |mk (t:Str)(hw:Nf)(l:Int)(h0:vs=[.str t,.str<|ay hw,.int l])(h:1<=absI l)(a:absI l<=t.length)(b:t.length<=900)(c:Q (.bl<|cj t (absI l-1).toNat == hw) H)
def BV:Sp:=λv H Q _=>KN v H Q
def BW:Sp:=λs H Q _=>∃v d m,s=[v,.int m]/\RD H d v/\(∀x,d=.tuple x->x.length<=80)/\∀h,Same H h->Q (.bl<|ny m d) h
def Mn(n:gV Int):Prop:=∀a∈n,∀b∈n,absI a=absI b->a=b
inductive GM (vs:gV V)(H:Hp)(Q:VK):Prop
 |mk (p:M0)(ns:gV Int)(h0:vs=[.ref p])(a:H p=B' (.lst<|ns.map V.int))(b:ns.length<=80)(c:Mn ns)(d:∀(l:M0) (r:gV Int) (h:Hp),Same H h->qc h l r->Ups r->(∀x,x∈r↔x∈ns)->Q (.ref l) h)
def BX:Sp:=λv H Q _=>GM v H Q
inductive BY (vs:gV V)(H:Hp)(Q:VK):Prop
 |mk (q:M0)(t:Str)(hw:Nf)(c:gV Int)(h0:vs=[.str t,.str<|ay hw,.ref q])(a:t.length<=50)(b:qc H q c)(d:ap t.length c)(e:∀(l:M0) (h:Hp),Same H h->qc h l (aL t hw c)->Q (.ref l) h)
def xa:Sp:=λv H Q _=>BY v H Q
theorem tF:∀a b:gV Int,Pm (a.map .int) (b.map .int)=decide (a=b)
 |[],[]=>by simp[Pm]
 |[],_::_=>by simp[Pm]
 |_::_,[]=>by simp[Pm]
 |x::a,y::b=>by
  rw[NW,NW,Pm,tF a b];have e:NT (.int x) (.int y)=decide (x=y):=by
   rw[NT];by_cases h:x=y<;>simp[h]
  rw[e];by_cases h:x=y<;>simp[h]
theorem FA(a b:gV Int):NT (.list<|a.map .int) (.list<|b.map .int)=decide (a=b):=by
 rw[NT];exact tF a b
theorem qe:∀{D:gV Nh} {m b:Int},gH m b D=MX->∀d∈D,∃z,d=.int z
 |[],_,_,_,_,h=>nomatch h
 |e::D,m,b,h,d,H=>by
  obtain⟨z,rfl⟩|n:=io e
  ·rw[im]at h
   split at h
   ·obtain rfl|H:=Nz.mp H
    ·exact⟨z,rfl⟩
    exact qe h d H
   cases h
  rw[nz n]at h;cases h
noncomputable def BZ(m:Int):V->Nf
 |.int z=>decide (z<1) || decide (z>m)
 |_=>MW
theorem B0(m:Int)(N:gV Int):(((N.map V.int).filter<|BZ m).map id).length=(N.filter λz=>decide (z<1) || decide (z>m)).length:=by
 rw[MY]
 induction N with
 |nil=>rfl
 |cons n r i=>
  rw[NW];by_cases h:(decide (n<1) || decide (n>m))=MX
  ·rw[P9 (p:=BZ m) (a:=V.int n) h,P9 (p:=λz=>decide (z<1) || decide (z>m)) h,NC,NC,i]
  rw[P_ (p:=BZ m) (a:=V.int n) h,P_ (p:=λz=>decide (z<1) || decide (z>m)) h,i]
noncomputable def oj:V->Nf
 |.int _=>MX
 |_=>MW
theorem GN(h:RD H d v):(kh d&&!lS d)=oj v:=by
 cases d with
 |int z=>rw[aA h];rfl
 |none=>unfold RD at h;rw[h];rfl
 |bool b=>unfold RD at h;rw[h];rfl
 |str x=>rw[bF h];rfl
 |list D=>obtain⟨a,X,rfl,_⟩:=ft h;rfl
 |tuple D=>obtain⟨a,X,rfl,_⟩:=aq h;rfl
 |dict _=>unfold RD at h;exact h.elim
theorem xb:∀{D:gV Nh} {X:gV V},dw H D X->(∃l:gV Int,D=l.map .int/\(X.filter λx=>!oj x)=[])\/((X.filter λx=>!oj x)≠[]/\∃d∈D,∀z,d≠.int z)
 |[],X,h=>by
  rw[bS h];exact .inl ⟨[],rfl,rfl⟩
 |d::D,X,h=>by
  obtain⟨y,Y,rfl,a,b⟩:=ao h;obtain⟨z,rfl⟩|n:=io d
  ·obtain rfl:=aA a;obtain⟨l,rfl,e⟩|⟨e,d,c,n⟩:=xb b
   ·exact .inl ⟨z::l,rfl,e⟩
   exact .inr ⟨e,d,Nk _ c,n⟩
  refine .inr ⟨?_,d,Nl,n⟩;have:oj y=false:=by rw[<-GN a];exact iJ n
  rw[P9<|by rw[this];rfl];exact λe=>nomatch e
theorem FC(H:-B<=b)(d:b<=B)(f:-B<=y)(i:y<=B)(h:Srt.lexKey B (a,b)<=Srt.lexKey B (x,y)):a<=x:=by
 unfold Srt.lexKey at h;dsimp only at h;have e:∀k,x+k=a->1<=k->False:=λk c H=>by
  have E:a*(2*B+1)=x*(2*B+1)+k*(2*B+1):=by rw[<-c,vl]
  have j:2*B+1<=k*(2*B+1):=by
   have:=TJ H (show 0<=2*B+1 by lia);rw[Xk]at this;exact this
  lia
 obtain g|g:=Int.lt_or_le x a
 ·exact(e (a-x) (by lia)<|by lia).elim
 exact g
theorem kC:∀{a b:gV Int},a.Nodup->(∀x∈a,x∈b)->a.length<=b.length
 |[],_,_,_=>NA _
 |x::a,b,h,g=>by
  obtain⟨d,f⟩:=O9.mp h;have H:=g x Nl;have:=kC (b:=b.erase x) f λy c=>(Xg (show y≠x from λe=>d<|by rw[<-e];exact c)).mpr<|g y<|Nk _ c;rw[VF H]at this;have:=Rm H;rw[NC];lia
noncomputable def IX(n:gV Int):Int:=(n.map absI).foldl max 0
theorem xc(h:l∈n):absI l<=IX n:=(fM (n.map absI) 0).1.2 _<|Pp h
theorem qZ{n:gV Int}{B:Int}{p:gV (Int×Int)}(f:∀l∈n,-B<=l/\l<=B)(u:Mn n)(N:p.Nodup)(m:∀q,q∈p↔q∈n.map λl=>(absI l,l))(s:(p.map<|Srt.lexKey B).Pairwise (·<=·)):
  Ups (p.map (·.2))/\(∀x,x∈p.map (·.2)↔x∈n):=by
 have H:∀q∈p,q.1=absI q.2/\q.2∈n:=λq h=>by
  obtain⟨l,j,rfl⟩:=NV.mp<|(m q).mp h;exact⟨rfl,j⟩
 have mem:∀x,x∈p.map (·.2)↔x∈n:=λx=>by
  constructor
  ·intro h;obtain⟨q,k,rfl⟩:=NV.mp h;exact(H q k).2
  intro h;exact NV.mpr ⟨(absI x,x),(m _).mpr<|NV.mpr ⟨x,h,rfl⟩,rfl⟩
 refine⟨nT ?_ ?_ ?_,mem⟩
 ·rw[Ot,Om];rw[Om]at s;refine Sr (λ{a b} c d h=>?_) s;show absI a.2<=absI b.2
  rw[<-(H a c).1,<-(H b d).1];have g:=f _ (H a c).2;have i:=f _ (H b d).2;exact FC g.1 g.2 i.1 i.2 h
 ·rw[Pb,Om];refine Sr (λ{a b} c d h e=>h ?_)<|Pb.mp N;exact QW (by rw[(H a c).1,(H b d).1,e]) e
 intro a c b d e;exact u a ((mem a).mp c) b ((mem b).mp d) e
theorem GO:al ["_law_turns","_law_hand","_law_literal"] ["_law_turns","_law_hand","_law_literal"] (ah IW):=d_
theorem IY(F:Fun K "_law_own" "_law_own" IW f g)(T:md m):aP P w K m B cr 1 f g ["_law_turns","_law_hand","_law_literal"] BV:=by
 have i:=GO;refine F.okA GO λj A o s H v Q E r h=>?_;obtain⟨t,b,l,rfl,L,k,n,q⟩:=h;have u:=r.units;exists _,(bN<|j9 (aM u) (j9 (aM u) (a_ (pv 0)<|ar gu (ag ce rfl T.abs N8<|a9<|pv 2) ae) aQ)<|j9 (aM u) (pv 1) aQ);have W:(absI l-1).toNat<t.cps.toList.length:=by
  rw[NH];show _<t.length
  lia
 obtain⟨c,a⟩:∃c,t.cps.toList[(absI l-1).toNat]?=B' c:=⟨_,M4 W⟩;have d:j0 t.cps.toList (absI l-1)=B' c:=by
  have e:absI l-1=(((absI l-1).toNat:Nat):Int):=by lia
  rw[e];exact bi a
 refine⟨_,rfl,_,rfl,l,rfl,_,_,rfl,rfl,.inr<|.inr ⟨t,_,_,rfl,rfl,OG (bH<|by lia),d,.inl ⟨rfl,_,rfl,.inl ⟨rfl,.inl ⟨rfl,?_⟩⟩⟩⟩⟩;rw[Gp,<-uD a,Kv];have e:decide (V.bl (cj t (absI l-1).toNat)=V.bl b)=(cj t (absI l-1).toNat == b):=by
  cases cj t (absI l-1).toNat<;>cases b<;>rfl
 rw[e];exact q
theorem IZ:al ["_law_thing"] ["_law_thing"] (ah BU):=d_
theorem FD(F:Fun K "_law_number" "_law_number" BU f c)(T:md m):aP P w K m b cr 1 f c ["_law_thing"] lH:=by
 refine F.okA IZ λu A o s H e Q E r h=>?_;obtain⟨v,d,rfl,a,q⟩:=h;have n:=fK a;exists _,(bN<|dF (ag a8 rfl T.isinstance Nr<|aV (pv 0)<|cG (v:=.ty "int") rfl T.int Rw rfl)<|fN<|ub<|ag a8 rfl T.isinstance Nr<|aV (pv 0)<|cG (v:=.ty "bool") rfl T.bool Ri rfl);exists _,rfl,v,_,"int",_,rfl,lp d v a,wc d n,_,rfl;cases I:kh d with
 |false=>
  rw[I]at q;exact av q
 |true=>
  rw[I]at q;exact aB ⟨_,rfl,v,_,"bool",_,rfl,lp d v a,sd d n,_,rfl,q⟩
theorem tG:al ["_law_thing","_law_most","_law_variables"] ["_law_thing","_law_most"] (ah qY):=d_
theorem zb(F:Fun K "_law_is_set" "_law_is_set" qY f fd)(T:md mg)(SX:Fe P w K mg B 1 "_law_number" lH):aP P w K mg B cr 2 f fd ["_law_thing","_law_most"] BW:=by
 have sc:=tG;refine F.okA tG λQu A ab s H vs Q E hr h=>?_;obtain⟨v,d,m,rfl,J,hz,q⟩:=h;have hu:=hr.units;have nd:=fK J;refine⟨_,(ad (aE (PW.pt<|cI (aT<|aK<|ag a8 rfl T.isinstance Nr<|aV (pv 0)<|cG (v:=.ty "tuple") rfl T.tuple Ox rfl)<|cO<|ee h_ (ag aD rfl T.len NP<|a9<|bj (N:=["_law_one"]) (d:=[M5]) rfl cS (eA<|pv 0) (λ_ _ _ _=>(eu 0<|nD ["_law_one"])) (λ_ _ _ _=>(cy<|aT<|aK<|cE SX hr<|a9<|pv 0)) λ_ _ _ _=>(pv 0)) ae) (bN bw) am)
  (ad (i_ (i:=2) sc.nd rfl rfl (Y:=["_law_literal"]) (u:=[M5]) rfl cS (eA<|pv 0) (λ_ _ _ _=>(eu 0<|nD ["_law_literal"])) (λ_ _ _ _=>dO) (λ_ _ _ _=>(ag ce rfl T.abs N8<|a9<|pv 0))<|by with_unfolding_all rfl)
  (bN<|dF (j9 (aM hu) (pv 2)<|E3 rfl rfl T.sorted rfl T.set<|pv 2)<|fN<|j9 (aM hu) (ag aD rfl T.len NP<|a9<|bj (N:=["_law_one","_law_most"]) (d:=[M5,B' 1]) rfl cS (bO<|pv 2) (λ_ _ _ _=>(eu 0<|nD ["_law_one","_law_most"])) (λ_ _ _ _=>(cy<|PW.pt<|cI (ee mK (pv 0) ae)<|cO<|ee h_ (pv 0)<|pv 1)) λ_ _ _ _=>(pv 0)) ae))),?_⟩
 exists _,rfl,v,_,"tuple",_,rfl,lp d v J,iI d nd,_,rfl;cases d with
 |tuple L=>
  refine av ?_;obtain⟨a,X,rfl,p,t⟩:=aq J;have Pd:=bZ t;have ac:=hz L rfl;have c:∀b,Same H b->Q (.bl<|gH m 0 L) b:=q;refine⟨_,rfl,a,rfl,⟨_,SqT.of p⟩,λM C=>?_⟩;refine de [] (λx=>!oj x) (λx=>x) rfl p C (by lia) (λx Y3 b R k r=>?_) (λx _ _ b R _ r=>⟨_,rfl,r⟩) ?_
  ·obtain⟨i,N⟩:=OW.mp Y3;have rx:=fj k _ _<|eE t N;exists _,rfl,x,_,rfl,rx,_,rfl;rw[GN rx];exact r
  rw[S8];have G:=af C<|.lst<|X.filter λx=>!oj x;have r0:upd H M (.lst<|X.filter λx=>!oj x) M=B' (.lst<|X.filter λx=>!oj x):=aa;generalize upd H M (.lst<|X.filter λx=>!oj x)=u at G r0;exists .ref M,_,rfl,.inl ⟨_,SqL.of r0,rfl⟩,_,_,rfl,rfl,_,rfl;obtain⟨l,rfl,e0⟩|⟨e0,d,an,hn⟩:=xb t
  rotate_left
  ·have as:(0:Int)<((X.filter λx=>!oj x).length:Int):=by
    have:=Q6.mpr e0;lia
   have az:gH m 0 L=false:=by
    cases g:gH m 0 L with
    |false=>rfl
    |true=>
     obtain⟨z,aC⟩:=qe g _ an;exact absurd aC<|hn z
   rw[az]at c;show(if decide (((X.filter λx=>!oj x).length:Int)>0)=MX then _ else _)
   rw[Ng as];exact aB<|c _ G
  ·rw[e0];refine av ?_;replace p:=G _ _ p;replace t:=bE G _ _ t;replace c:∀b,Same u b->Q (.bl<|gH m 0<|l.map .int) b:=λb k=>c b<|G.trans k;clear q J;rw[MY]at Pd ac;refine⟨_,rfl,a,rfl,⟨_,SqT.of p⟩,λD hD=>?_⟩;refine sh (K:=K) (a:=a) (xs:=X) (λi O Z j=>(∃v0,O=[v0])/\Z=((l.map absI).take i).map V.int/\j=upd u D (.lst Z)) ⟨⟨M5,rfl⟩,rfl,rfl⟩ ?_ ?_ ?_
   ·rintro i O Z j _ ⟨_,_,rfl⟩;refine⟨aa,SqT.of ?_⟩;rw[aj<|ai p hD];exact p
   ·rintro i y O Z j N ⟨⟨v0,rfl⟩,rfl,rfl⟩;have WQ:i<X.length:=(M'.mp N).1;have hy:=eE t N;have I:l[i]?=B' (l.getD i 0):=by
     rw[M1,M4<|by lia];rfl
    have e:(l.map Tv).getD i .none=.int (l.getD i 0):=by
     rw[M1,Nu,I];rfl
    rw[e]at hy;obtain rfl:=aA hy;refine fu ⟨_,rfl,_,rfl,aa,?_,⟨_,rfl⟩,?_,gf⟩
    ·rw[MY,NO,MY];exact bH (by lia)
    rw[Oc,Nu,I,NI];rfl
   ·rintro O Z j ⟨_,rfl,rfl⟩;rw[Nn<|by rw[MY];lia];have k3:Same u (upd u D<|.lst<|(l.map absI).map V.int):=af hD _;have r3:upd u D (.lst<|(l.map absI).map V.int) D=B' (.lst<|(l.map absI).map V.int):=aa;generalize upd u D (.lst<|(l.map absI).map V.int)=j at k3 r3;refine⟨_,rfl,_,rfl,D,l.map absI,rfl,SqL.of r3,(by rw[MY];lia),λW U Yq aF a0 Z4=>?_⟩;have Y:Same j (upd j W<|.lst<|U.map V.int):=af Yq _;have r4:=Y _ _ r3;have s4:upd j W (.lst<|U.map V.int) W=B' (.lst<|U.map V.int):=aa;generalize upd j W (.lst<|U.map V.int)=H4 at Y r4 s4;refine .inr ⟨.list<|(l.map absI).map .int,.list<|U.map .int,bP r4<|jw _,bP s4<|jw _,lu _,lu _,_,rfl,?_⟩;rw[FA];have a1:=uL (m:=m) aF a0 Z4;rw[<-a1]at c;by_cases g:l.map absI=U
    ·rw[Ng g]at c ⊢;refine aB ⟨_,rfl,D,rfl,⟨_,SqL.of r4⟩,λD2 Zv=>?_⟩;refine fR [B'<|.int m] (BZ m) id rfl r4 Zv (by rw[MY,MY];lia) (λx Y3 b R _ hR=>?_) (λx _ _ b R _ hR=>⟨_,rfl,hR⟩) ?_
     ·obtain⟨z,_,rfl⟩:=NV.mp Y3;exists _,rfl,_,_,rfl,rfl,_,rfl;have o:R (decide (z<1) || decide (z>m)) b:=hR;cases g1:decide (z<1)with
      |true=>
       rw[g1]at o;exact aB o
      |false=>
       rw[g1]at o;exact av ⟨_,rfl,_,rfl,_,_,rfl,rfl,_,rfl,o⟩
     refine⟨.ref D2,_,rfl,.inl ⟨_,SqL.of aa,rfl⟩,.inl ⟨rfl,?_⟩⟩;have q2:=c _<|k3.trans<|Y.trans<|af Zv<|.lst<|(((l.map absI).map V.int).filter<|BZ m).map id;rw[B0];have e:∀n,decide (V.int (n:Int)=V.int 0)=decide ((n:Int)=0):=λn=>Qi.mpr ⟨λz=>V.int.inj z,λz=>by rw[z]⟩;rw[e];exact q2
    ·rw[M6 g]at c ⊢;exact av<|c _<|k3.trans Y
 |_=>exact aB<|aB<|q H<|Same.refl _
theorem B1:al ["_law_literals"] ["_law_literals"] (ah BS):=d_
theorem FE(F:Fun K "_law_set" "_law_set" BS f fd)(T:md mg):aP P w K mg as cr 1 f fd ["_law_literals"] BX:=by
 have sc:=B1;refine F.okA B1 λQu A N s H U Q E hr h=>?_;obtain⟨p,n,rfl,hp,az,W,q⟩:=h;have hu:=hr.units;exists _,(bN<|bB c7 rfl T.tuple Ox<|a9<|bj (N:=["_law_variable","_law_literal"]) (d:=[M5,M5]) rfl cS (bO<|A6 hu rfl rfl T.sorted rfl T.set<|bj (N:=["_law_literal"]) (d:=[M5]) rfl cS (bO<|pv 0) (λ_ _ _ _=>(eu 0<|nD ["_law_literal"])) (λ_ _ _ _=>dO) λ_ _ _ _=>(aU<|aV (ag ce rfl T.abs N8<|a9<|pv 0)<|pv 0)) (λ_ _ _ _=>(wB (K:=K) (n:=2) rfl rfl<|cb (eu 0<|nD ["_law_variable","_law_literal"])<|cb (eu 1<|nD ["_law_variable","_law_literal"]) gg)) (λ_ _ _ _=>dO) λ_ _ _ _=>(pv 1));refine⟨_,rfl,p,rfl,⟨_,SqL.of hp⟩,λD hD=>?_⟩;refine c_ (K:=K) (a:=p) (xs:=n.map V.int) (λi c y a=>(∃u,c=[u])/\a D=B' (.lst y)/\Same H a/\Paired (PR a) ((n.take i).map λl=>(absI l,l)) y) ⟨⟨M5,rfl⟩,aa,af hD _,.nil⟩ ?_ ?_ ?_
 ·rintro i c y a _ ⟨_,j,k,_⟩;exact⟨j,SqL.of<|k _ _ hp⟩
 ·rintro i x c y a m ⟨⟨u,rfl⟩,j,k,b⟩;have WQ:i<(n.map V.int).length:=(M'.mp m).1;rw[MY]at WQ;obtain⟨z,rfl,B⟩:=eF m;have X:y.length=i:=by
   rw[<-Paired.length b,MY,NO];lia
  refine fu ⟨_,rfl,z,rfl,_,rfl,(by show 2<=sizeLine;decide),λo Y=>?_⟩;have d:Same a (upd a o<|.tup [.int (if z<0 then -z else z),.int z]):=af Y _;have J:=d _ _ j;have g:upd a o (.tup [.int (if z<0 then -z else z),.int z]) o=B' (.tup [.int (if z<0 then -z else z),.int z]):=aa;generalize upd a o (.tup [.int (if z<0 then -z else z),.int z])=C at d J g;exists J,(by rw[X];exact bH<|by lia),⟨_,rfl⟩,aa,(k.trans d).upd_new hD _;have e:(n.take<|i+1).map (λl=>(absI l,l))=(n.take i).map (λl=>(absI l,l))++[(absI z,z)]:=by
   rw[Oc,B,NI];rfl
  rw[e];have up:∀{qs:gV (Int×Int)} {U:gV V},Paired (PR C) qs U->Paired (PR<|upd C D<|.lst<|y++[.ref o]) qs U:=λhh=>Paired.mapP hh λq v ⟨t,et,ht⟩=>⟨t,et,by
   rw[aj λez=>by rw[ez,J]at ht;cases ht];exact ht⟩
  exact Paired.snoc (up<|PR.mono d b) (by
   exists o,rfl;rw[aj λez=>by rw[ez,J]at g;cases g];exact g)
 rintro c y a ⟨_,j,k,b⟩;rw[MY,Nn<|Na _]at b;refine⟨D,y,n.map λl=>(absI l,l),IX n,rfl,j,b,by rw[MY];lia,λq hq=>?_,λl r L hl nd hm G ab=>?_⟩
 ·obtain⟨z,B,rfl⟩:=NV.mp hq;have:=xc B;obtain⟨_,e⟩|⟨_,e⟩:=aH z<;>(constructor<;>(show(_:Int)<=_)<;>lia)
 have d:=af hl<|.lst r;have g:upd a l (.lst r) l=B' (.lst r):=aa;have O:=PR.mono d ab;generalize upd a l (.lst r)=C at d g O;obtain⟨s1,s2⟩:=qZ (B:=IX n) (λz B=>by
  have:=xc B;obtain⟨_,e⟩|⟨_,e⟩:=aH z<;>constructor<;>lia) W nd hm G
 have ZG:=Paired.length O;have aC:L.length<=80:=by
  have j:(L.map (·.2)).length<=n.length:=kC s1.nodup λx m=>(s2 x).mp m;rw[MY]at j;lia
 refine⟨l,rfl,⟨_,SqL.of g⟩,λD2 Zv=>?_⟩;refine c_ (K:=K) (a:=l) (xs:=r) (λi c Z M=>(∃u v1,c=[u,v1])/\Z=((L.take i).map (·.2)).map V.int/\M=upd C D2 (.lst Z)) ⟨⟨M5,M5,rfl⟩,rfl,rfl⟩ ?_ ?_ ?_
 ·rintro i c Z M _ ⟨_,_,rfl⟩;refine⟨aa,SqL.of ?_⟩;rw[aj<|ai g Zv];exact g
 ·rintro i x c Z M m ⟨⟨u,v1,rfl⟩,rfl,rfl⟩;have WQ:i<r.length:=(M'.mp m).1;obtain⟨q,hq,tq,rfl,I⟩:=nv O m;have ac:upd C D2 (.lst (((L.take i).map (·.2)).map V.int)) tq=B' (.tup [.int q.1,.int q.2]):=by
   rw[aj<|ai I Zv];exact I
  refine⟨tq,_,rfl,SqT.of ac,rfl,_,_,rfl,_,_,rfl,rfl,KK ⟨_,rfl,aa,(by rw[MY,MY,NO];exact bH<|by lia),⟨_,_,rfl⟩,?_,gf⟩⟩;rw[Oc,hq,NI,NI];rfl
 rintro c Z M ⟨_,rfl,rfl⟩;rw[Nn<|by lia];refine⟨D2,_,rfl,.inl ⟨SqL.of aa,λL3 an=>?_⟩⟩;exact q L3 _ _ (((k.trans d).trans<|af Zv _).trans<|af an _) aa s1 s2
theorem xf:al ["_law_turns","_law_hand","_law_literals","_law_last"] ["_law_turns","_law_hand","_law_literals"] (ah vc):=d_
theorem B2(F:Fun K "_law_dropped" "_law_dropped" vc f fd)(T:md U)(Y5:Fe P w K U B 1 "_law_own" BV):aP P w K U B cr 2 f fd ["_law_turns","_law_hand","_law_literals"] xa:=by
 have sc:=xf;refine F.okA xf λQu A O s H vs Q E W h=>?_;obtain⟨q,t,b,c,rfl,h9,j,g,q'⟩:=h;have hu:=W.units;have VJ:=aY g;refine⟨_,(ad (eU (i:=3) sc.nd rfl (SE rfl)<|ag (yO rfl) rfl T.max Tp<|a9<|ar eD (aI<|a9 ae)<|bj (N:=["_law_literal","_law_turns","_law_hand"]) (d:=[M5,B' 0,B' 1]) rfl cS (eA<|pv 2) (λ_ _ _ _=>(eu 0<|nD ["_law_literal","_law_turns","_law_hand"])) (λ_ _ _ _=>(cy<|aT<|aK<|cE Y5 W<|au (pv 1)<|aV (pv 2)<|pv 0)) λ_ _ _ _=>(ag ce rfl T.abs N8<|a9<|pv 0))
  (bN<|bB c7 rfl T.tuple Ox<|a9<|bj (N:=["_law_literal","_law_last"]) (d:=[M5,B' 3]) rfl cS (eA<|pv 2) (λ_ _ _ _=>(eu 0<|nD ["_law_literal","_law_last"])) (λ_ _ _ _=>(cy<|ee o9 (ag ce rfl T.abs N8<|a9<|pv 0)<|pv 1)) λ_ _ _ _=>(pv 0))),?_⟩
 refine⟨(by show 1<=sizeLine;decide),λL u=>?_⟩;have o:=af u<|.lst [.int 0];have X:upd H L (.lst [.int 0]) L=B' (.lst [.int 0]):=aa;generalize upd H L (.lst [.int 0])=Y at o X;refine⟨_,rfl,q,rfl,⟨_,SqT.of<|o _ _ j⟩,λD Z=>?_⟩;refine de [B'<|.str t,B'<|.str<|ay b] (su λl=>!(cj t (absI l-1).toNat == b)) (JA λz=>.int<|absI z) rfl (o _ _ j) Z (by rw[MY];lia) ?_ ?_ ?_
 ·intro x d v R k r;obtain⟨z,hz,rfl⟩:=cT d;have:=g.2 z hz;exact⟨_,rfl,_,rfl,_,rfl,t,b,z,rfl,this.1,this.2,by lia,_,rfl,r⟩
 ·intro x d _ v R k r;obtain⟨z,_,rfl⟩:=cT d;exact⟨_,rfl,z,rfl,r⟩
 have e:((c.map V.int).filter<|su λl=>!(cj t (absI l-1).toNat == b)).map (JA λz=>.int<|absI z)=((c.filter λl=>!(cj t (absI l-1).toNat == b)).map absI).map V.int:=by
  rw[oa,Ot];rfl
 rw[e];have ab:=OX (λl=>!(cj t (absI l-1).toNat == b)) c;have n:∀a∈(c.filter λl=>!(cj t (absI l-1).toNat == b)).map absI,0<=a:=λa y=>by
  obtain⟨z,_,rfl⟩:=NV.mp y;exact wM z
 have el:dA t b c=((c.filter λl=>!(cj t (absI l-1).toNat == b)).map absI).foldl max 0:=rfl;have C:((c.filter λl=>!(cj t (absI l-1).toNat == b)).map absI).length<=50:=by
  rw[MY];lia
 generalize (c.filter λl=>!(cj t (absI l-1).toNat == b)).map absI=m at n el C;have G:=af Z<|.lst<|m.map V.int;have r2:upd Y D (.lst<|m.map V.int) D=B' (.lst<|m.map V.int):=aa;generalize upd Y D (.lst<|m.map V.int)=H2 at G r2;refine⟨L,D,_,_,rfl,rfl,G _ _ X,r2,(by rw[MY,NG];exact OG<|bH<|by lia),λp I=>?_⟩;have k3:=af I<|.lst ([V.int 0]++m.map V.int);have r3:upd H2 p (.lst ([V.int 0]++m.map V.int)) p=B' (.lst<|(0::m).map V.int):=aa;generalize upd H2 p (.lst ([V.int 0]++m.map V.int))=H3 at k3 r3;refine⟨p,0::m,rfl,SqL.of r3,(λz=>nomatch z),λM m1 m2=>?_⟩;have eM:dA t b c=M:=by
  rw[el];refine Ba n ?_ (λa y=>m2 a<|Nk _ y)<|m2 0 Nl;obtain z|z:=Nz.mp m1
  ·exact .inr z
  exact .inl z
 rw[<-eM];have J:=o.trans<|G.trans k3;refine⟨_,rfl,q,rfl,⟨_,SqT.of<|J _ _ j⟩,λD2 Zv=>?_⟩;refine de [B'<|.int<|dA t b c] (su λl=>decide (absI l<=dA t b c)) (λx=>x) rfl (J _ _ j) Zv (by rw[MY];lia) ?_ ?_ ?_
 ·intro x d v R k r;obtain⟨z,_,rfl⟩:=cT d;exact⟨_,rfl,z,rfl,_,rfl,_,_,rfl,rfl,_,rfl,r⟩
 ·intro x d _ v R k r;exact⟨_,rfl,r⟩
 rw[cA c (λl=>decide (absI l<=dA t b c)) _ λi=>rfl];refine⟨D2,_,rfl,.inl ⟨SqL.of aa,λL3 N=>?_⟩⟩;exact q' L3 _ ((J.trans<|af Zv _).trans<|af N _) aa
noncomputable abbrev vd:OZ:=dN 62
noncomputable abbrev ve:OZ:=dN 63
inductive B3 (vs:gV V)(H:Hp)(Q:VK):Prop
 |mk (a:M0)(v:V)(d:Nh)(ys:gV V)(h0:vs=[.ref a,v])(h:H a=B' (.lst ys))(b:ys.length<=9000)(c:RD H d v)(e:Q (.bl (aS ys.length d).isSome) H)
def q_:Sp:=λv H Q _=>B3 v H Q
inductive B4 (vs:gV V)(H:Hp)(Q:VK):Prop
 |mk (p a b:M0)(t:Str)(w:V)(hw:Nf)(z:gV V)(ds:gV Nh)(ys:gV V)(sets:gV (gV Int))(h0:vs=[.ref p,.str<|ay hw,.ref a,.ref b])(e:H p=B' (.tup [.str t,w]))(f:t.length<=40)(g:H b=B' (.tup z))(i:dw H ds z)(j:z.length<=9000)(k:H a=B' (.lst ys))(l:CLs H sets ys)(m:sets.length<=9000)(n:(∀c∈sets,ap t.length c))(d:∀v h,Same H h->RV h (if ds.length=4 then dC t hw sets (ds.getD 1 .none) (ds.getD 2 .none) (ds.getD 3 .none)else M5) v->Q v h)
def xg:Sp:=λv H Q _=>B4 v H Q
noncomputable def dE(f s:gV Int)(v:Int):gV Int:=(f++s).filter λl=>!decide (absI l=v)
theorem eK:l∈dE f s v↔(l∈f\/l∈s)/\absI l≠v:=by
 unfold dE;rw[NM,NB];refine and_congr_right λ_=>?_;by_cases h:absI l=v<;>simp[h]
theorem xh(h:ap n c)(H:l∈c)(a:-l∈c):False:=by
 have e:absI l=absI (-l):=by
  obtain⟨_,e⟩|⟨_,e⟩:=aH l<;>obtain⟨_,E⟩|⟨_,E⟩:=aH (-l)<;>lia
 have:=h.1.inj H a e;have b:=(h.2 l H).1;obtain⟨_,e⟩|⟨_,e⟩:=aH l<;>lia
theorem KO(j:ap n f)(k:ap n s):((dE f s v).filter λl=>(dE f s v).contains (0-l))≠[]↔cJ f s v=true:=by
 constructor
 ·intro h;obtain⟨l,d⟩:=List.exists_mem_of_ne_nil _ h;obtain⟨i,c⟩:=NM.mp d;have H:(0-l)∈dE f s v:=by simpa using c
  rw[show(0:Int)-l=-l by lia]at H;obtain⟨a,A⟩:=eK.mp i;obtain⟨b,B⟩:=eK.mp H;obtain a|a:=a<;>obtain b|b:=b
  ·exact(xh j a b).elim
  ·cases g:cJ f s v with
   |true=>rfl
   |false=>exact absurd b<|jJ g a A
  ·cases g:cJ f s v with
   |true=>rfl
   |false=>
    refine absurd ?_<|jJ g b B;rw[ZE];exact a
  exact(xh k a b).elim
 intro h;obtain⟨l,d,m⟩:=N4.mp h;obtain⟨i,c⟩:=NM.mp d;have H:absI l≠v:=λe=>by rw[Ng e]at c;cases c
 have o:-l∈s:=by simpa using m
 have p:absI (-l)=absI l:=by
  obtain⟨_,e⟩|⟨_,e⟩:=aH l<;>obtain⟨_,E⟩|⟨_,E⟩:=aH (-l)<;>lia
 have M:l∈dE f s v:=eK.mpr ⟨.inl i,H⟩;have q:0-l∈dE f s v:=by
  rw[show(0:Int)-l=-l by lia];exact eK.mpr ⟨.inr o,by rw[p];exact H⟩
 exact U5<|NM.mpr ⟨M,by simpa using q⟩
theorem B5(H:ap n f)(c:ap n s)(d:cJ f s v=MW):Mn (dE f s v):=by
 intro a g b h e;exact sP H.1 c.1 d (gq.mpr<|eK.mp g) (gq.mpr<|eK.mp h) e
theorem zc(H:ap t.length f):dL t h f s z=(decide (1<=z)&&(f.contains z&&(s.contains (-z)&&(!(cj t (absI z-1).toNat == h)&&!cJ f s z)))):=by
 unfold dL;rw[O0];simp only[N5,Nj,fy,decide_eq_true_eq];constructor
 ·rintro⟨⟨b,e,a⟩,A,c,d⟩;refine⟨b,A,c,?_,d⟩;rw[cW (by lia),a];cases h<;>rfl
 rintro⟨b,A,c,a,d⟩;have:=(H.2 z A).2;rw[cW<|by lia]at this a;refine⟨⟨b,this,?_⟩,A,c,d⟩;cases g:cj t (z-1).toNat<;>cases h<;>rw[g]at a<;>first|rfl|cases a
theorem FF(d:H a=B' (.tup x))(f:H b=B' (.tup y))(z:x.length+y.length<=sizeLine)(q:∀c h,Same H h->h c=B' (.tup<|x++y)->Q (.ref c) h):Gr K (.ref a) (.ref b) H Q:=
 ⟨a,b,x,y,rfl,rfl,SqT.of d,SqT.of f,z,λe=>q _ _ (Same.refl _) (by rw[e];exact f),λ_ e=>q _ _ (Same.refl _) (by rw[e,OQ];exact d),λ_ _ p g=>q _ _ (af g _) aa⟩
theorem mn{a:Type}{l:gV a}{i:Nat}{d x:a}(h:l[i]?=B' x):l.getD i d=x:=by
 rw[M1,h];rfl
theorem xi:al ["_law_sets_here","_law_thing"] ["_law_sets_here","_law_thing"] (ah vd):=d_
theorem B6(F:Fun K "_law_ahead" "_law_ahead" vd f k)(T:md m)(X:Fe P w K m B 1 "_law_number" lH):aP P w K m B cr 2 f k ["_law_sets_here","_law_thing"] q_:=by
 have p:=xi;refine F.okA xi λu A o s H t Q E r h=>?_;obtain⟨a,v,d,y,rfl,l,x,j,q⟩:=h;exists _,(bN<|dF (cE X r<|a9<|pv 1)<|dF (j9 JW (pv 1) ae)<|fN<|j9 mK (pv 1)<|ag aD rfl T.len NP<|a9<|pv 0);exists _,rfl,v,d,rfl,j,_,rfl;obtain⟨z,rfl⟩|n:=io d
 ·obtain rfl:=aA j;refine aB ?_;have b:Q (.bl (if 0<=z/\z<(y.length:Int)then B' z.toNat else M5).isSome) H:=q;exists _,rfl,_,_,rfl,rfl,_,rfl;by_cases g:0<=z
  ·rw[Ng g];refine aB ⟨_,rfl,_,rfl,.ref a,_,rfl,.inl ⟨_,SqL.of l,rfl⟩,_,_,rfl,rfl,?_⟩;by_cases i:z<(y.length:Int)
   ·rw[Nt ⟨g,i⟩]at b;show Q (.bl (decide (z<(y.length:Int)))) H
    rw[Ng i];exact b
   rw[Np λc=>i c.2]at b;show Q (.bl (decide (z<(y.length:Int)))) H
   rw[M6 i];exact b
  rw[Np λc=>g c.1]at b;rw[M6 g];exact av b
 rw[iJ n];have e:aS y.length d=none:=by
  cases d with
  |int z=>exact absurd rfl<|n z
  |_=>rfl
 rw[e]at q;exact av q
theorem xj:al ["_law_sentence_here","_law_hand","_law_sets_here","_law_line_here","_law_rest"] ["_law_sentence_here","_law_hand","_law_sets_here","_law_line_here"] (ah ve):=d_
theorem B7(F:Fun K "_law_join" "_law_join" ve f fd)(T:md Y)(SX:Fe P w K Y B 1 "_law_number" lH)(TZ:Fe P w K Y B 2 "_law_ahead" q_)
  (Y5:Fe P w K Y B 1 "_law_own" BV) (an:Fe P w K Y B 1 "_law_set" BX):aP P w K Y B cr 3 f fd ["_law_sentence_here","_law_hand","_law_sets_here","_law_line_here"] xg:=by
 have sc:=xj;refine F.okA xj λQu A as s H vs Q E N h=>?_;obtain⟨p,a,b,t,w,O,zs,ds,ys,o,rfl,hp,h9,m,Zt,aF,U,hs,h8,Z,q'⟩:=h;have hu:=N.units;have Pd:=hs.length;have a0:=bZ Zt;refine⟨_,(ad (aE (PW.pt<|cI (ee (fH hu) (ag aD rfl T.len NP<|a9<|pv 3) ae)<|cI (aT<|aK<|cE TZ N<|aV (pv 2)<|a_ (pv 3) ae)<|cI (aT<|aK<|cE TZ N<|aV (pv 2)<|a_ (pv 3) ae)<|cO<|aT<|aK<|cE SX N<|a9<|a_ (pv 3) ae) (bN bg) am)
  (ad (aE (PW.pt<|cI (ee mK (a_ (pv 3) ae) ae)<|cI (cp cQ (a_ (pv 3) ae) (a_ (pv 2)<|a_ (pv 3) ae)<|by with_unfolding_all rfl)<|cO<|cp cQ (ar gu ae<|a_ (pv 3) ae) (a_ (pv 2)<|a_ (pv 3) ae)<|by with_unfolding_all rfl) (bN bg) am)
  (ad (aE (aK<|cE Y5 N<|au (a_ (pv 0) ae)<|aV (pv 1)<|a_ (pv 3) ae) (bN bg) am)
  (ad (eU (i:=4) sc.nd rfl (SE rfl)<|bj (N:=["_law_literal","_law_line_here"]) (d:=[M5,B' 3]) rfl cS (eA<|ar E4 (a_ (pv 2)<|a_ (pv 3) ae)<|a_ (pv 2)<|a_ (pv 3) ae) (λ_ _ _ _=>(eu 0<|nD ["_law_literal","_law_line_here"])) (λ_ _ _ _=>(cy<|ee (fH hu) (ag ce rfl T.abs N8<|a9<|pv 0)<|KH (K:=K) (pv 1) ae)) λ_ _ _ _=>(pv 0))
  (ad (aE (ee h_ (ag aD rfl T.len NP<|a9<|bj (N:=["_law_literal","_law_rest"]) (d:=[M5,B' 4]) rfl cS (bO<|pv 4) (λ_ _ _ _=>(eu 0<|nD ["_law_literal","_law_rest"])) (λ_ _ _ _=>(cy<|cp (gX (K:=K) rfl) (ar gu ae<|pv 0) (pv 1)<|by with_unfolding_all rfl)) λ_ _ _ _=>(pv 0)) ae) (bN bg) am)
  (bN<|cE an N<|a9<|pv 4)))))),?_⟩
 refine⟨_,rfl,.ref b,_,rfl,.inr ⟨_,SqT.of m,rfl⟩,.inl ⟨rfl,?_⟩⟩;by_cases h4:ds.length=4
 rotate_left
 ·rw[Np h4]at q';exists _,rfl;have e:(!decide (V.int ((zs.length:Nat):Int)=V.int 4))=true:=by
   rw[M6 λe=>h4 (by have:=V.int.inj e;lia)];rfl
  rw[e];exact aB<|aB<|q' _ _ (Same.refl _) rfl
 rw[Nt h4]at q';obtain⟨d0,d1,d2,d3,x0,x1,x2,x3,rfl,rfl,r0,r1,v,r3⟩:=gN Zt h4;have q:∀v' n,Same H n->RV n (dC t O o d1 d2 d3) v'->Q v' n:=q';clear q';refine⟨_,rfl,av ?_⟩;refine⟨_,rfl,_,rfl,(bM m rfl ⟨a,x1,d1,ys,rfl,U,by lia,r1,_,rfl,?_⟩)⟩;rw[<-Pd];cases G:aS o.length d1 with
 |none=>
  rw[wT G]at q;exact aB<|aB<|q _ _ (Same.refl _) rfl
 |some i=>
 refine av ⟨_,rfl,_,rfl,(bM m rfl ⟨a,x2,d2,ys,rfl,U,by lia,v,_,rfl,?_⟩)⟩;rw[<-Pd];cases C:aS o.length d2 with
 |none=>
  rw[wU C]at q;exact aB<|aB<|q _ _ (Same.refl _) rfl
 |some j=>
 refine av ⟨_,rfl,(bM m rfl ⟨x3,d3,rfl,r3,_,rfl,?_⟩)⟩;obtain⟨z,rfl⟩|hn:=io d3
 rotate_left
 ·rw[iJ hn];rw[wV hn]at q;exact aB<|q _ _ (Same.refl _) rfl
 obtain rfl:=aA r3;rw[wW G C]at q;obtain⟨hi,rfl⟩:=bG G;obtain⟨hj,rfl⟩:=bG C;obtain rfl:=aA r1;obtain rfl:=aA v;obtain⟨y1,I⟩:∃x,ys[i]?=B' x:=⟨_,M4 (by lia)⟩;obtain⟨y2,J⟩:∃x,ys[j]?=B' x:=⟨_,M4 (by lia)⟩;obtain⟨d,hf,l1,rfl,VI⟩:=hs.get I;obtain⟨g,ab,l2,rfl,Yq⟩:=hs.get J;rw[mn hf,mn ab]at q;have W:=Z d (Nc hf);have os:=Z g (Nc ab);have cf:=aY W;have cs:=aY os;have u:=zc (t:=t) (h:=O) (f:=d) (s:=g) (z:=z) W;refine av ?_;have q0:dL t O d g z=MW->∀n,Same H n->Q .non n:=λe n k=>by
  rw[e]at q;exact q _ _ k rfl
 refine⟨_,rfl,(bM m rfl ⟨_,_,rfl,rfl,_,rfl,?_⟩)⟩;by_cases c0:1<=z
 rotate_left
 ·rw[Ng (show z<1 by lia)];exact aB<|aB<|q0 (by rw[u,M6 c0];rfl) _<|Same.refl _
 rw[M6 (show¬z<1 by lia)];rw[Ng c0,Q1]at u;refine av ⟨_,rfl,(bM m rfl ⟨_,rfl,_,rfl,(bM m rfl<|(iw U (bi I) ⟨l1,_,rfl,.inr<|SqT.of VI,rfl,bC _,_,rfl,?_⟩))⟩)⟩;show(if(!iR (.int z) (d.map V.int))=MX then _ else _)
 rw[cm];cases c1:d.contains z with
 |false=>exact aB<|aB<|q0 (by rw[u,c1];rfl) _<|Same.refl _
 |true=>
 rw[c1,Q1]at u;refine av ⟨_,rfl,(bM m rfl ⟨_,_,rfl,rfl,_,rfl,_,rfl,(bM m rfl<|(iw U (bi J) ⟨l2,_,rfl,.inr<|SqT.of Yq,rfl,bC _,_,rfl,?_⟩))⟩)⟩;show(if(!iR (.int (0-z)) (g.map V.int))=MX then _ else _)
 rw[cm,YW];cases c2:g.contains (-z)with
 |false=>exact aB<|q0 (by rw[u,c2];rfl) _<|Same.refl _
 |true=>
 rw[c2,Q1]at u;have ac:=W.2 z<|Nj.mp c1;refine av ⟨_,rfl,(bM hp rfl ⟨_,rfl,_,rfl,(bM m rfl ⟨t,O,z,rfl,ac.1,ac.2,by lia,_,rfl,?_⟩)⟩)⟩;cases c3:(cj t (absI z-1).toNat == O)with
 |true=>exact aB<|q0 (by rw[u,c3];rfl) _<|Same.refl _
 |false=>
 rw[c3]at u;have L:dL t O d g z=!cJ d g z:=u;clear u;refine av ⟨_,rfl,_,rfl,(bM m rfl<|(iw U (bi I) ⟨_,rfl,_,rfl,(bM m rfl<|(iw U (bi J) ?_))⟩))⟩;refine FF VI Yq (by rw[MY,MY];exact OG<|bH<|by lia) λc H1 k1 hc=>?_;rw[<-NI]at hc;have az:(dE d g z).length<=80:=by
  have:=OX (λl=>!decide (absI l=z))<|d++g;rw[M7]at this;unfold dE;lia
 refine⟨c,rfl,⟨_,SqT.of hc⟩,λD hD=>?_⟩;refine de [B'<|.ref b] (su λl=>!decide (absI l=z)) (λx=>x) rfl hc hD (by rw[MY,M7];lia) ?_ ?_ ?_
 ·intro x hx n R k r;obtain⟨l,_,rfl⟩:=cT hx;refine⟨_,rfl,l,rfl,_,rfl,(bM (k _ _<|k1 _ _ m) rfl<|.inl ⟨rfl,_,rfl,?_⟩)⟩;have e:decide (V.int (absI l)=V.int z)=decide (absI l=z):=by
   by_cases h:absI l=z
   ·rw[h];simp
   rw[M6 h,M6 λe=>h<|V.int.inj e]
  have r':R (!decide (absI l=z)) n:=r;rw[<-e]at r';exact r'
 ·intro x hx _ n R k r;exact⟨_,rfl,r⟩
 rw[cA (d++g) (λl=>!decide (absI l=z)) _ λi=>rfl];have k2:=k1.trans<|af hD<|.lst<|(dE d g z).map V.int;have v:upd H1 D (.lst<|(dE d g z).map V.int) D=B' (.lst<|(dE d g z).map V.int):=aa;change rL _ _ _ _ (upd H1 D<|.lst<|(dE d g z).map V.int);generalize upd H1 D (.lst<|(dE d g z).map V.int)=H2 at k2 v;refine⟨_,rfl,D,rfl,⟨_,SqL.of v⟩,λD2 Zv=>?_⟩;refine fR [B'<|.ref D] (su λl=>(dE d g z).contains (0-l)) (λx=>x) rfl v Zv (by rw[MY];lia) ?_ ?_ ?_
 ·intro x hx n R k r;obtain⟨l,_,rfl⟩:=cT hx;exists _,rfl,_,_,rfl,rfl,_,rfl,D,_,rfl,.inl<|SqL.of<|k _ _ v,rfl,bC _,_,rfl;show R (iR (.int (0-l))<|(dE d g z).map V.int) n
  rw[cm];exact r
 ·intro x hx _ n R k r;exact⟨_,rfl,r⟩
 rw[cA (dE d g z) (λl=>(dE d g z).contains (0-l)) _ λi=>rfl];have M:=KO (v:=z) W os;generalize (dE d g z).filter (λl=>(dE d g z).contains (0-l))=y at M;have k3:=k2.trans<|af Zv<|.lst<|y.map V.int;have s3:=(af Zv<|.lst<|y.map V.int) _ _ v;have r3:upd H2 D2 (.lst<|y.map V.int) D2=B' (.lst<|y.map V.int):=aa;generalize upd H2 D2 (.lst<|y.map V.int)=H3 at k3 r3 s3;exists .ref D2,_,rfl,.inl ⟨_,SqL.of r3,rfl⟩,_,_,rfl,rfl,_,rfl;cases X:cJ d g z with
 |true=>
  have a1:=Q6.mpr<|M.mpr X;show(if decide (((y.map V.int).length:Int)>0)=MX then _ else _)
  rw[Ng<|by rw[MY];lia];exact aB<|q0 (by rw[L,X];rfl) _ k3
 |false=>
 have he:y=[]:=by
  cases y with
  |nil=>rfl
  |cons x r=>
   have:=M.mp (λz=>nomatch z);rw[X]at this;cases this
 subst he;refine av ⟨_,rfl,D,dE d g z,rfl,s3,az,B5 W os X,λl r H4 k4 hl aC hm=>?_⟩;rw[X]at L;rw[L]at q;refine q _ _ (k3.trans k4) ?_;have hj:Joins d g z r:=⟨aC,λx=>(hm x).trans eK⟩;rw[hj.eq W.1 os.1 X]at hl;exact⟨l,rfl,hl⟩
noncomputable abbrev vf:OZ:=dN 64
noncomputable abbrev vg:OZ:=dN 65
def vh(d:Nh):Prop:=∀D,d=.tuple D->D.length<=9000/\∀e,D.getD 1 .none=.tuple e->e.length<=80
inductive B8 (vs:gV V)(H:Hp)(Q:VK):Prop
 |mk (p q a:M0)(t:Str)(hw:Nf)(v:V)(d:Nh)(xs ys:gV V)(cs sets:gV (gV Int))(h0:vs=[.ref p,.str<|ay hw,.ref a,v])(k:H p=B' (.tup [.str t,.ref q]))(l:t.length<=40)(m:H q=B' (.lst xs))(n:CLs H cs xs)(o:cs.length<=900)(r:(∀c∈cs,ap t.length c))(s:H a=B' (.lst ys))(u:CLs H sets ys)(w:sets.length<=9000)(e:(∀c∈sets,ap t.length c))(f:RD H d v)(g:kB d)(i:vh d)(j:∀b h,Same H h->RV h (aG t cs hw sets d) b->Q b h)
def xk:Sp:=λv H Q _=>B8 v H Q
inductive B9 (vs:gV V)(H:Hp)(Q:VK):Prop
 |mk (p q pp L:M0)(t:Str)(hw:Nf)(xs s:gV V)(cs:gV (gV Int))(ds:gV Nh)(h0:vs=[.ref p,.ref pp])(f:H p=B' (.tup [.str t,.ref q]))(g:t.length<=40)(i:H q=B' (.lst xs))(j:CLs H cs xs)(k:cs.length<=900)(m:(∀c∈cs,ap t.length c))(n:H pp=B' (.tup [.str<|ay hw,.ref L]))(o:H L=B' (.lst s))(r:dw H ds s)(a:ds.length<=9000)(b:(∀d∈ds,kB d/\vh d))(e:∀T l ys h,Same H h->h T=B' (.tup [.ref l,.bl (b0 t cs hw [] ds).2])->H l=M5->h l=B' (.lst ys)->CLs h (b0 t cs hw [] ds).1 ys->Q (.ref T) h)
def mo:Sp:=λv H Q _=>B9 v H Q
theorem B_(h:∀D,d≠.tuple D):aG t c H s d=none:=by
 cases d with
 |tuple D=>exact absurd rfl<|h D
 |_=>cases H<;>rfl
theorem FG(h:D.nx a H):F5 D a H:=h
theorem Ca(h:cB w d=MX):d=.str w:=by
 cases d with
 |str x=>
  have:=N0 (show decide (x=w)=MX from h);rw[this]
 |_=>cases h
theorem gO(h:cB w d=MX)(H:decide (w=u)=MW):cB u d=false:=by
 rw[Ca h];exact H
theorem vi:aG t c h s (.tuple d)=
  if cB aW (d.getD 0 .none)=MX then(if d.length=4 then dC t h s (d.getD 1 .none) (d.getD 2 .none) (d.getD 3 .none)else M5)
  else if d.length=2 then(if(cB aO (d.getD 0 .none)&&!h)=MX then fV c (d.getD 1 .none)else if(cB bx (d.getD 0 .none)&&h)=MX then gj t.length c (d.getD 1 .none)else if cB aJ (d.getD 0 .none)=MX then fA t h s (d.getD 1 .none)else M5)else none:=by
 have f:∀w n,bT w n (.tuple d)=(decide (d.length=n)&&cB w (d.getD 0 .none)):=λ_ _=>rfl;have a:∀i,gZ (.tuple d) i=d.getD i .none:=λ_=>rfl;unfold aG;rw[f,f,f,f,a,a,a];by_cases j:cB aW (d.getD 0 .none)=MX
 ·have H:=gO (u:=aO) j (by decide+kernel);have b:=gO (u:=bx) j (by decide+kernel);have e:=gO (u:=aJ) j (by decide+kernel);rw[H,b,e,j];by_cases l:d.length=4
  ·simp[l]
  simp[l]
 have J:cB aW (d.getD 0 .none)=false:=by simpa using j
 rw[J];by_cases l:d.length=2
 ·have D:=Ng l;have g:decide (d.length=4)=false:=M6 (by lia);simp only[D,g,Q1,Xm,NQ,QA,Nt l];rw[O1 (!h),O1 h]
 have D:=M6 l;simp only[D,PV,Xm,NQ,QA,Np l]
theorem hX{a:Type}{l:gV a}{p:a->Nf}:(l.filter λx=>!p x)=[]↔l.all p=true:=by
 rw[PD,OE];refine L' λx=>L' λ_=>?_;cases p x<;>simp
theorem Cb{c k:gV Int}:decide (V.int (((k.filter λl=>c.contains l).map V.int).length:Int)=V.int 0)=!(c.any λl=>k.contains l):=by
 rw[MY];cases g:c.any λl=>k.contains l with
 |true=>
  obtain⟨l,h,H⟩:=N4.mp g;have:l∈k.filter λl=>c.contains l:=NM.mpr ⟨Nj.mp H,Nj.mpr h⟩;have:=Rm this;exact M6 λe=>by have:=V.int.inj e;lia
 |false=>
  have:(k.filter λl=>c.contains l)=[]:=PD.mpr λl h a=>by
   have:(c.any λl=>k.contains l)=true:=N4.mpr ⟨l,Nj.mp a,Nj.mpr h⟩;rw[g]at this;cases this
  rw[this];rfl
theorem FH(h:dw H d z)(l:0<d.length):∃x,z[0]?=B' x/\RD H (d.getD 0 .none) x:=by
 have P:=bZ h;obtain⟨x,a⟩:∃x,z[0]?=B' x:=⟨_,M4 (by lia)⟩;exact⟨x,a,eE h a⟩
theorem xl:al ["_law_sentence_here","_law_hand","_law_sets_here","_law_line_here"] ["_law_sentence_here","_law_hand","_law_sets_here","_law_line_here"] (ah vf):=d_
theorem Cc(F:Fun K "_law_line" "_law_line" vf f fd)(T:md mg)(a2:Fe P w K mg O 3 "_law_join" xg)(TZ:Fe P w K mg O 2 "_law_ahead" q_)
  (a3:Fe P w K mg O 2 "_law_is_set" BW) (a4:Fe P w K mg O 2 "_law_dropped" xa):aP P w K mg O cr 4 f fd ["_law_sentence_here","_law_hand","_law_sets_here","_law_line_here"] xk:=by
 have sc:=xl;refine F.okA xl λQu A a5 s H vs Q E hr h=>?_;obtain⟨p,q,a,t,m,v,d,xs,ys,Z,u,rfl,hp,ht,hq,SI,h9,Qm,ha,hs,h8,az,hd,aC,aF,G⟩:=h;have Y:=hr.units;have nd:=fK hd;have Pd:=hs.length;have a6:=SI.length;refine⟨_,(ad (aE (PW.pt<|cI (aT<|aK<|ag a8 rfl T.isinstance Nr<|aV (pv 3)<|cG (v:=.ty "tuple") rfl T.tuple Ox rfl)<|cO<|ee (aM Y) (ag aD rfl T.len NP<|a9<|pv 3) ae) (bN bg) am)
  (ad (aE (ee (aM Y) (a_ (pv 3) ae) aQ) (bN<|cE a2 hr<|au (pv 0)<|au (pv 1)<|aV (pv 2)<|pv 3) am)
  (ad (aE (ee (fH Y) (ag aD rfl T.len NP<|a9<|pv 3) ae) (bN bg) am)
  (ad (aE (PW.pt<|fG (ee (aM Y) (a_ (pv 3) ae) aQ)<|fG (ee (aM Y) (pv 1) aQ)<|fg<|aK<|cE TZ hr<|aV (a_ (pv 0) ae)<|a_ (pv 3) ae) (bN<|a_ (a_ (pv 0) ae)<|a_ (pv 3) ae) am)
  (ad (aE (PW.pt<|fG (ee (aM Y) (a_ (pv 3) ae) aQ)<|fG (ee (aM Y) (pv 1) aQ)<|fg<|aK<|cE a3 hr<|aV (a_ (pv 3) ae)<|ag aD rfl T.len NP<|a9<|a_ (pv 0) ae) (ax<|aE (ee (aM Y) (ag aD rfl T.len NP<|a9<|bj (N:=["_law_clause","_law_line_here"]) (d:=[M5,B' 3]) rfl cS (bO<|a_ (pv 0) ae) (λ_ _ _ _=>(eu 0<|nD ["_law_clause","_law_line_here"])) (λ_ _ _ _=>(cy<|ee (aM Y) (ag (pB (K:=K) rfl) rfl T.len NP<|a9<|bj (N:=["_law_one","_law_line_here"]) (d:=[M5,B' 1]) rfl cS (EA (K:=K) rfl<|pv 0) (λ_ _ _ _=>(eu 0<|nD ["_law_one","_law_line_here"])) (λ_ _ _ _=>(cy<|cp (gX (K:=K) rfl) (pv 0) (KH (K:=K) (pv 1) ae)<|by with_unfolding_all rfl)) λ_ _ _ _=>(pv 0)) ae)) λ_ _ _ _=>(pv 0)) ae) (bN<|a_ (pv 3) ae) am) am)
  (ad (aE (PW.pt<|fG (ee (aM Y) (a_ (pv 3) ae) aQ)<|fg<|aK<|cE TZ hr<|aV (pv 2)<|a_ (pv 3) ae) (bN<|cE a4 hr<|au (a_ (pv 0) ae)<|aV (pv 1)<|a_ (pv 2)<|a_ (pv 3) ae) am)
  (bN bg))))))),?_⟩
 exists _,rfl,v,_,"tuple",_,rfl,lp d v hd,iI d nd,_,rfl;have ew:decide (V.str (ay m)=V.str (M_ "wisher"))=m:=by
  have z:=fT m MX;have z2:ay MX=M_ "wisher":=rfl;rw[z2]at z;rw[z];cases m<;>rfl
 have es:decide (V.str (ay m)=V.str (M_ "spoiler"))=!m:=by
  have z:=fT m MW;have z2:ay MW=M_ "spoiler":=rfl;rw[z2]at z;rw[z];cases m<;>rfl
 cases d with
 |tuple ds=>
  obtain⟨b,zs,rfl,U,hz⟩:=aq hd;have ac:=bZ hz;obtain⟨a7,a0⟩:=aF ds rfl;have an:=aC ds rfl;rw[vi]at G;refine av ⟨_,rfl,.ref b,_,rfl,.inr ⟨_,SqT.of U,rfl⟩,.inl ⟨rfl,_,rfl,?_⟩⟩;by_cases h0:ds.length=0
  ·have e:decide (V.int ((zs.length:Nat):Int)=V.int 0)=true:=Ng (by rw[ac,h0];rfl);rw[e];have e2:ds=[]:=OO.mp h0;subst e2;exact aB<|G _ _ (Same.refl _) rfl
  have e:decide (V.int ((zs.length:Nat):Int)=V.int 0)=false:=M6 λz=>h0 (by have:=V.int.inj z;lia);rw[e];obtain⟨x0,a1,r0⟩:=FH hz (by lia);refine av ⟨_,rfl,(bM U (bi a1)<|.inr ⟨_,_,r0,cD _,an,IS,_,rfl,?_⟩)⟩;show(if NT (ds.getD 0 .none) (.str aW)=MX then _ else _)
  rw[ir];cases c1:cB aW (ds.getD 0 .none)with
  |true=>
   rw[c1,Nt rfl]at G;exact aB ⟨_,rfl,_,rfl,_,rfl,_,rfl,p,a,b,t,_,m,zs,ds,ys,u,rfl,hp,ht,U,hz,by lia,ha,hs,h8,az,G⟩
  |false=>
  rw[c1,Np Ni]at G;refine av ⟨_,rfl,.ref b,_,rfl,.inr ⟨_,SqT.of U,rfl⟩,.inl ⟨rfl,_,rfl,?_⟩⟩;by_cases h2:ds.length=2
  rotate_left
  ·rw[Np h2]at G;show(if(!decide (V.int ((zs.length:Nat):Int)=V.int 2))=MX then _ else _)
   rw[M6 λz=>h2 (by have:=V.int.inj z;lia)];exact aB<|G _ _ (Same.refl _) rfl
  rw[Nt h2]at G;show(if(!decide (V.int ((zs.length:Nat):Int)=V.int 2))=MX then _ else _)
  rw[Ng (show V.int ((zs.length:Nat):Int)=V.int 2 by rw[ac,h2];rfl)];refine av ?_;obtain⟨B,C,y0,x1,rfl,rfl,_,r1⟩:=cH hz h2;cases a1;have ba:∀es,C=.tuple es->es.length<=80:=a0;have as:OB B=true:=an;replace r0:RD H B x0:=r0;replace c1:cB aW B=false:=c1;replace G:∀I J,Same H J->RV J (if(cB aO B&&!m)=MX then fV Z C else if(cB bx B&&m)=MX then gj t.length Z C else if cB aJ B=MX then fA t m u C else M5) I->Q I J:=G;clear a0 an e h0 h2 ac aF aC a7;refine FG ?_;dsimp only;refine jN λN hN=>?_;have L:∀J,Same H J->(∀I j,Same H j->RV j (if(cB bx B&&m)=MX then gj t.length Z C else if cB aJ B=MX then fA t m u C else M5) I->Q I j)->N (L2.start ["_law_sentence_here","_law_hand","_law_sets_here","_law_line_here"] [.ref p,.str<|ay m,.ref a,.ref b]) J:=λH0 n q2=>hN _ _ (by
   clear G hN N;refine jN λN hN=>?_;have L:∀J,Same H J->(∀I j,Same H j->RV j (if cB aJ B=MX then fA t m u C else M5) I->Q I j)->N (L2.start ["_law_sentence_here","_law_hand","_law_sets_here","_law_line_here"] [.ref p,.str<|ay m,.ref a,.ref b]) J:=λH0 n o=>hN _ _ (by
    clear q2 hN N;refine⟨_,rfl,(bM (n _ _ U) rfl<|.inr ⟨_,_,fj n _ _ r0,cD _,as,IT,_,rfl,?_⟩)⟩;show(if NT B (.str aJ)=MX then _ else _)
    rw[ir];cases c4:cB aJ B with
    |false=>
     rw[c4]at o;exact av<|av<|o _ _ n rfl
    |true=>
    rw[c4,Nt rfl]at o;refine aB ⟨_,rfl,_,rfl,(bM (n _ _ U) rfl ⟨a,x1,C,ys,rfl,n _ _ ha,by lia,fj n _ _ r1,_,rfl,?_⟩)⟩;rw[<-Pd];unfold fA at o;cases g:aS u.length C with
    |none=>
     rw[g]at o;exact av<|o _ _ n rfl
    |some i=>
     rw[g]at o;obtain⟨hi,rfl⟩:=bG g;obtain rfl:=aA r1;obtain⟨y,hy⟩:∃y,ys[i]?=B' y:=⟨_,M4 (by lia)⟩;obtain⟨c,hc,l,rfl,hl⟩:=hs.get hy;have bb:=az c (Nc hc);refine aB ⟨_,rfl,(bM (n _ _ hp) rfl ⟨_,rfl,_,rfl,_,rfl,(bM (n _ _ U) rfl ((iw (n _ _ ha) (bi hy) ⟨l,t,m,c,rfl,by lia,n _ _ hl,bb,λl2 j X Yq=>o _ _ (n.trans X) ?_⟩)))⟩)⟩;show CL j (aL t m (u.getD i [])) _
     rw[mn hc];exact⟨l2,rfl,Yq⟩)
   refine⟨_,rfl,(bM (n _ _ U) rfl<|.inr ⟨_,_,fj n _ _ r0,cD _,as,IU,_,rfl,?_⟩)⟩;show(if NT B (.str bx)=MX then _ else _)
   rw[ir];cases c3:cB bx B with
   |false=>
    rw[c3]at q2;exact av<|av<|L _ n q2
   |true=>
   rw[c3]at q2;have c4:cB aJ B=false:=gO c3 (by decide+kernel);refine aB ⟨_,rfl,.inl ⟨rfl,_,rfl,?_⟩⟩;dsimp only;rw[ew];cases m with
   |false=>exact av<|av<|L _ n q2
   |true=>
   have o:∀I j,Same H j->RV j (gj t.length Z C) I->Q I j:=q2;have M:gj t.length Z C=M5->∀J,Same H J->N (L2.start ["_law_sentence_here","_law_hand","_law_sets_here","_law_line_here"] [.ref p,.str<|ay MX,.ref a,.ref b]) J:=λe J k=>L _ k λI j X hv=>o _ _ X (by
    rw[c4]at hv;rw[e];exact hv)
   refine aB ⟨_,rfl,(bM (n _ _ U) rfl ⟨_,rfl,(bM (n _ _ hp) rfl ⟨.str t,_,rfl,⟨OG (bH<|by lia),rfl⟩,x1,C,_,rfl,fj n _ _ r1,ba,λH1 k1=>⟨_,rfl,?_⟩⟩)⟩)⟩;have W:=n.trans k1;unfold gj at M o;cases g:ny (t.length:Int) C with
   |false=>
    rw[g]at M;exact av<|M rfl _ W
   |true=>
   rw[g,Q1]at M o;obtain⟨ed,ok⟩:=lY g;have VJ:CL H (iW C) x1:=CL.of (by rw[<-ed];exact r1);obtain⟨l,rfl,hl⟩:=VJ;have bc:=aY ok;generalize iW C=c at M o ok hl bc;refine aB ⟨_,rfl,(bM (W _ _ hp) rfl ⟨q,rfl,⟨_,SqL.of<|W _ _ hq⟩,λD hD=>?_⟩)⟩;refine uN [B'<|.ref b] (λx=>!tz H c x) (λx=>x) rfl (W _ _ hq) hD (by lia) ?_ ?_ ?_
   ·intro x hx J R k r;obtain⟨i,hi⟩:=OW.mp hx;obtain⟨kc,bd,VJ⟩:=SI.get hi;have be:=VJ;have bf:=aY<|Qm kc<|Nc bd;obtain⟨tc,rfl,Vd⟩:=VJ;have X:=W.trans k;refine⟨_,rfl,tc,rfl,⟨_,SqT.of<|X _ _ Vd⟩,λD2 Zv=>?_⟩;refine de [B'<|.ref b] (su λz=>c.contains z) (λx=>x) rfl (X _ _ Vd) Zv (by rw[MY];lia) ?_ ?_ ?_
    ·intro y hy j R2 kk r2;obtain⟨z,_,rfl⟩:=cT hy;have k3:=X.trans kk;refine⟨_,rfl,_,rfl,(bM (k3 _ _ U) rfl ⟨l,_,rfl,.inr<|SqT.of<|k3 _ _ hl,rfl,bC c,_,rfl,?_⟩)⟩;show R2 (iR (.int z)<|c.map V.int) j
     rw[cm];exact r2
    ·intro y hy _ j R2 kk r2;exact⟨_,rfl,r2⟩
    rw[cA kc (λz=>c.contains z) _ λi=>rfl];refine⟨.ref D2,_,rfl,.inl ⟨_,SqL.of aa,rfl⟩,.inl ⟨rfl,_,rfl,?_⟩⟩;rw[Cb,<-qW be];exact r _<|af Zv _
   ·intro x hx _ J R k r;exact⟨_,rfl,r _<|Same.refl _⟩
   intro j X Zv;rw[S8]at Zv;have ab:=W.trans X;refine⟨.ref D,_,rfl,.inl ⟨_,SqL.of Zv,rfl⟩,.inl ⟨rfl,_,rfl,?_⟩⟩;have Uu:=og (c:=c) SI;cases g2:pU c Z with
   |true=>
    rw[g2]at o Uu;rw[hX.mpr Uu];exact aB ⟨_,rfl,(bM (ab _ _ U) rfl<|o _ _ ab ⟨l,rfl,ab _ _ hl⟩)⟩
   |false=>
    rw[g2]at M Uu;have Tf:(xs.filter λx=>!tz H c x)≠[]:=λe=>by
     rw[hX.mp e]at Uu;cases Uu
    have bk:=Q6.mpr Tf;show(if decide (V.int (((xs.filter λx=>!tz H c x).length:Nat):Int)=V.int 0)=MX then _ else _)
    rw[M6 λe=>by have:=V.int.inj e;lia];exact av<|M rfl _ ab)
  refine⟨_,rfl,(bM U rfl<|.inr ⟨_,_,r0,cD _,as,IV,_,rfl,?_⟩)⟩;show(if NT B (.str aO)=MX then _ else _)
  rw[ir];cases c2:cB aO B with
  |false=>
   rw[c2]at G;exact av<|av<|L _ (Same.refl _) G
  |true=>
  rw[c2]at G;have c3:cB bx B=false:=gO c2 (by decide+kernel);have c4:cB aJ B=false:=gO c2 (by decide+kernel);refine aB ⟨_,rfl,.inl ⟨rfl,_,rfl,?_⟩⟩;dsimp only;rw[es];cases m with
  |true=>exact av<|av<|L _ (Same.refl _) G
  |false=>
  have o:∀I j,Same H j->RV j (fV Z C) I->Q I j:=G;refine aB ⟨_,rfl,(bM hp rfl ⟨_,rfl,(bM U rfl ⟨q,x1,C,xs,rfl,hq,by lia,r1,_,rfl,?_⟩)⟩)⟩;rw[<-a6];unfold fV at o;cases g:aS Z.length C with
  |none=>
   rw[g]at o;refine av<|L _ (Same.refl _) λI j X hv=>o _ _ X ?_;rw[c3,c4]at hv;exact hv
  |some i=>
   rw[g]at o;obtain⟨hi,rfl⟩:=bG g;obtain rfl:=aA r1;obtain⟨y,hy⟩:∃y,xs[i]?=B' y:=⟨_,M4 (by lia)⟩;obtain⟨c,hc,VJ⟩:=SI.get hy;refine aB ⟨_,rfl,(bM hp rfl ⟨_,rfl,(bM U rfl ((iw hq (bi hy) (o _ _ (Same.refl _) ?_))))⟩)⟩;show CL H (Z.getD i []) y
   rw[mn hc];exact VJ
 |_=>exact aB (aB<|G _ _ (Same.refl _)<|by rw[B_ λds e=>by cases e];rfl)
theorem xm:al ["_law_sentence_here","_law_paper_here","_law_sets_here","_law_line_here","_law_found"] ["_law_sentence_here","_law_paper_here"] (ah vg):=d_
inductive tH (p:M0)(pp:M0)(s:M0)(t:Str)(cs:gV (gV Int))(hw:Nf)(ds:gV Nh)(H:Hp)(i:Nat)(a:gV (MZ V))(G:Hp):Prop
 |mk (x:MZ V)(X:MZ V)(ys:gV V)(sets:gV (gV Int))(I:a=[B'<|.ref p,B'<|.ref pp,B'<|.ref s,x,X])(b:G s=B' (.lst ys))(c:CLs G sets ys)(d:b0 t cs hw [] (ds.take i)=(sets,MX))(e:Same H G)
theorem Cd(F:Fun K "_law_sets" "_law_sets" vg f fd)(W:Fe P w K mg B 4 "_law_line" xk):aP P w K mg B cr 5 f fd ["_law_sentence_here","_law_paper_here"] mo:=by
 have X:=xm;refine F.okA xm λQu A ab s H vs Q E hr h=>?_;obtain⟨p,q,pp,la,t,J,xs,ls,cs,D,rfl,hp,ht,hq,SI,h9,Qm,u,v,Zt,h8,y,L⟩:=h;have hu:=hr.units;have Pd:=bZ Zt;refine⟨_,(ad (cM 2 X.nd<|aI bz)
  (ad (cP Ow rfl (bO<|a_ (pv 1) ae) (eu 3 X.nd)
   (ad (cM 4 X.nd<|cE W hr<|au (pv 0)<|au (a_ (pv 1) ae)<|aV (pv 2)<|pv 3)
   (ad (aE (ee ib (pv 4) bg) (bN<|aU<|aV (pv 2) bw) am)
   (ax<|bu<|eS NJ Oj On bY (pv 2)<|a9<|pv 4))))
  (bN<|aU<|aV (pv 2) bw))),?_⟩
 refine⟨NA _,λl Z=>?_⟩;have k1:=af Z<|.lst [];refine⟨_,rfl,(bM (k1 _ _ u) rfl ⟨la,rfl,⟨_,SqL.of<|k1 _ _ v⟩,?_⟩)⟩;refine gz (K:=K) (a:=la) (X:=ls) (tH p pp l t cs J D H)
  ⟨M5,M5,[],[],rfl,aa,.nil,rfl,k1⟩ ?_ ?_ ?_
 ·rintro i σ G _ ⟨_,_,_,_,_,_,_,_,k⟩;exact SqL.of<|k _ _ v
 ·rintro i x σ G hx ⟨x3,x4,Y,a,rfl,M,r,j,g⟩;have WQ:i<ls.length:=(M'.mp hx).1;have rx:=eE Zt hx;have N:=getD_some (d:=PL) (show i<D.length by lia);generalize D.getD i .none=d at rx N;have z:d∈D:=Nc N;have ac:=fb j;rw[NO,Sw]at ac;have an:∀c∈a,ap t.length c:=by
   have:=l_ (w:=J) Qm (D:=D.take i) (s:=[]) (λ_ h=>nomatch h);rw[j]at this;exact this
  refine⟨_,rfl,_,rfl,(bM (g _ _ u) rfl ⟨_,rfl,_,rfl,p,q,l,t,J,x,d,xs,Y,cs,a,rfl,g _ _ hp,ht,g _ _ hq,SI.mono g,h9,Qm,M,r,by lia,an,fj g _ _ rx,(y d z).1,(y d z).2,λv' H3 O T=>?_⟩)⟩;have C:=g.trans O;have I:=O _ _ M;cases U:aG t cs J a d with
  |none=>
   rw[U]at T;have as:v'=.non:=T;subst as;have hb:=wE j N U;rw[hb]at L;refine⟨_,rfl,rfl,_,rfl,aB ⟨_,rfl,(by show 2<=sizeLine;decide),λtp m=>?_⟩⟩;have n:=af m<|.tup [.ref l,.bl MW];exact L tp l Y _ (C.trans n) aa Z (n _ _ I)<|(r.mono O).mono n
  |some c=>
   rw[U]at T;obtain⟨tc,rfl,Vd⟩:=T;refine⟨_,rfl,rfl,_,rfl,av ?_⟩;exists _,rfl,.inl ⟨rfl,_,SqL.of I⟩,_,rfl,l,_,_,rfl,rfl,I,(by rw[<-r.length];exact bH<|by lia);refine⟨_,_,Y++[.ref tc],a++[c],rfl,aa,CLs.snoc (CL.upd ⟨tc,rfl,Vd⟩ I)<|(r.mono O).upd I,run_next j N U,λb o e=>?_⟩;rw[aj<|ai e Z];exact C _ _ e
 rintro σ G ⟨x3,x4,Y,a,rfl,M,r,j,g⟩;rw[Nn<|by lia]at j;rw[j]at L;refine⟨_,rfl,(by show 2<=sizeLine;decide),λtp m=>?_⟩;have n:=af m<|.tup [.ref l,.bl MX];exact L tp l Y _ (g.trans n) aa Z (n _ _ M)<|r.mono n
noncomputable abbrev I0:OZ:=dN 37
noncomputable def rc(o:gV (gV Int)):Nf:=match o.getLast? with
 |some c=>decide (c=[])
 |none=>MW
inductive KP (vs:gV V)(H:Hp)(Q:VK):Prop
 |mk (l:M0)(ys:gV V)(out:gV (gV Int))(h0:vs=[.ref l])(a:H l=B' (.lst ys))(b:CLs H out ys)(c:out.length<=9000)(d:∀h,Same H h->Q (.bl<|rc out) h)
def GP:Sp:=λv H Q _=>KP v H Q
theorem Ce(y:gV V):eQ y (B' (-1)) M5=y.drop (y.length-1):=by
 unfold eQ;have e:HT.sIx y.length 0 (B' (-1))=y.length-1:=by
  unfold HT.sIx;simp;lia
 have E:HT.sIx y.length y.length M5=y.length:=rfl;rw[e,E];exact Nn (by rw[Pc];lia)
theorem zd(o:gV (gV Int)):o.drop (o.length-1)=match o.getLast? with|some c=>[c]|none=>[]:=by
 obtain rfl|⟨i,c,rfl⟩:=List.eq_nil_or_concat o
 ·rfl
 rw[List.concat_eq_append,M7,NG,Yj,Xj];simp
theorem CLs.drop':∀{c:gV (gV Int)} {x:gV V} (n:Nat),CLs H c x->CLs H (c.drop n) (x.drop n)
 |_,_,0,h=>h
 |_,_,n+1,.nil=>.nil
 |_,_,n+1,.cons _ t=>CLs.drop' n t
theorem FI(o:gV (gV Int)):NT (.list<|(o.drop<|o.length-1).map iS) (.list [.tuple []])=rc o:=by
 rw[zd];unfold rc;cases o.getLast? with
 |none=>simp[NT,Pm]
 |some c=>
  cases c with
  |nil=>simp[NT,Pm,iS]
  |cons x r=>simp[NT,Pm,iS]
theorem GQ:al ["sets"] ["sets"] (ah I0):=d_
theorem I_(F:Fun K "end_empty" "end_empty" I0 f x):aP P w K M B cr 1 f x ["sets"] GP:=by
 have J:=GQ;refine F.okA GQ λL A O s H N Q E z h=>?_;obtain⟨l,y,o,rfl,C,j,T,q⟩:=h;have D:=z.units;exists _,(bN<|j9 (aM D) (gG jp (pv 0) (gU<|fq di ae) jo)<|aI<|a9<|aU bz);refine⟨_,rfl,_,rfl,_,rfl,l,_,rfl,SqL.of C,λp b=>?_⟩;have e:=Ce y;have c:=af b<|.lst<|eQ y (B' (-1)) M5;have r:upd H p (.lst<|eQ y (B' (-1)) M5) p=B' (.lst<|y.drop<|y.length-1):=by rw[aa,e]
 generalize upd H p (.lst<|eQ y (B' (-1)) M5)=m at c r;refine⟨(by show 0<=sizeLine;decide),λt d=>?_⟩;have a:=af d<|.tup [];have n:upd m t (.tup []) t=B' (.tup []):=aa;generalize upd m t (.tup [])=u at a n;refine⟨(by show 1<=sizeLine;decide),λg i=>?_⟩;have k:=af i<|.lst [.ref t];have v:upd u g (.lst [.ref t]) g=B' (.lst [.ref t]):=aa;generalize upd u g (.lst [.ref t])=G at k v;have I:CLs G (o.drop<|o.length-1) (y.drop<|y.length-1):=by
  rw[j.length];exact CLs.drop' _<|j.mono<|c.trans<|a.trans k
 refine .inr ⟨.list<|(o.drop<|o.length-1).map iS,.list [.tuple []],bP ((a.trans k) _ _ r) I.rds,bP v<|ak (aX (k _ _ n) aw) aw,(Nice.mono (kn<|AQ _)<|by decide).shaped,by decide+kernel,?_⟩;rw[FI];exact q _<|c.trans<|a.trans k
noncomputable abbrev Ja:OZ:=dN 38
structure MG (K:K')(mg:Str->MZ J')(CW:M0):Prop where
 m_NotWhole:mg "NotWhole"=B' (.ref CW)
 x_NotWhole:Q0 K CW [.type "ValueError",.type "Exception",.type "BaseException",.type "object"] "ValueError.__new__"=MX
inductive KQ (vs:gV V)(H:Hp)(Q:VK):Prop
 |mk (p q pp L:M0)(t:Str)(hw:Nf)(xs s:gV V)(cs:gV (gV Int))(ds:gV Nh)(out:gV (gV Int))(h0:vs=[.ref p,.ref pp])(i:H p=B' (.tup [.str t,.ref q]))(j:t.length<=50)(k:H q=B' (.lst xs))(m:CLs H cs xs)(n:cs.length<=900)(o:(∀c∈cs,ap t.length c))(r:H pp=B' (.tup [.str<|ay hw,.ref L]))(u:H L=B' (.lst s))(v:dw H ds s)(a:ds.length<=9000)(b:(∀d∈ds,kB d))(e:b0 t cs hw [] ds=(out,MX))(f:rc out=MX)(g:∀l ys h,Same H h->H l=M5->h l=B' (.lst ys)->CLs h out ys->Q (.ref l) h)
def GR:Sp:=λv H Q _=>KQ v H Q
theorem GS:al ["sentence","paper","sets"] ["sentence","paper"] (ah Ja):=d_
theorem Jb(F:Fun K "whole_sets" "whole_sets" Ja f i)(c:Fe P w K m b 6 "sets_of" tD)(C:Fe P w K m b 1 "end_empty" GP):aP P w K m b cr 7 f i ["sentence","paper"] GR:=by
 have j:=GS;refine F.okA GS λQu A O s H vs Q E r h=>?_;obtain⟨p,q,n,L,t,u,x,z,B,D,o,rfl,G,I,J,N,T,W,d,e,Z,X,g,U,M,Y⟩:=h;have ab:o.length=D.length:=by
  have:=fb U;simpa using this
 refine⟨_,(ad (cM 2 j.nd<|cE c r<|aV (pv 0)<|pv 1)
  (ad (aE (aT<|aK<|cE C r<|a9<|pv 2) (ax gy) am)
  (bN<|pv 2))),?_⟩
 refine⟨_,rfl,_,rfl,p,q,n,L,t,u,x,z,B,D,o,rfl,G,I,J,N,T,W,d,e,Z,X,g,U,λl y H1 k1 hl v a=>?_⟩;refine⟨_,rfl,l,y,o,rfl,v,a,by lia,λH2 k=>⟨_,rfl,?_⟩⟩;rw[M];exact av ⟨_,rfl,Y l y H2 (k1.trans k) hl (k _ _ v)<|a.mono k⟩
def aZ(d:Nh):Prop:=(∃k:Int,d=.tuple [.str aO,.int k])\/(∃c:gV Int,c.length<=80/\d=.tuple [.str bx,iS c])\/(∃k:Int,d=.tuple [.str aJ,.int k])\/(∃i j z:Int,d=.tuple [.str aW,.int i,.int j,.int z])
theorem mq(h:aZ d):kB d/\vh d:=by
 obtain⟨k,rfl⟩|⟨c,H,rfl⟩|⟨k,rfl⟩|⟨i,j,z,rfl⟩:=h
 ·exact⟨λD e=>by cases e;exact IV,λD e=>by cases e;exact⟨by show 2<=9000;decide,λE e=>by cases e⟩⟩
 ·exact⟨λD e=>by cases e;exact IU,λD e=>by
   cases e;refine⟨by show 2<=9000;decide,λE e=>?_⟩;cases e;rw[MY];exact H⟩
 ·exact⟨λD e=>by cases e;exact IT,λD e=>by cases e;exact⟨by show 2<=9000;decide,λE e=>by cases e⟩⟩
 exact⟨λD e=>by cases e;exact IS,λD e=>by cases e;exact⟨by show 4<=9000;decide,λE e=>by cases e⟩⟩
theorem qf(h:aZ d):Nice 3 d:=by
 obtain⟨k,rfl⟩|⟨c,H,rfl⟩|⟨k,rfl⟩|⟨i,j,z,rfl⟩:=h
 ·exact fU (n:=2)<|cu (eI 2<|by decide+kernel)<|cu (gI _ _) iq
 ·exact fU (n:=2)<|cu (eI 2<|by decide+kernel)<|cu (Nice.mono (fU (n:=1)<|pI 1 c)<|by decide) iq
 ·exact fU (n:=2)<|cu (eI 2<|by decide+kernel)<|cu (gI _ _) iq
 exact fU (n:=2)<|cu (eI 2<|by decide+kernel)<|cu (gI _ _)<|cu (gI _ _)<|cu (gI _ _) iq
theorem iy(h:RD H (.str x) v):RD a (.str x) v:=by rw[bF h];exact cD x
theorem fW(h:RD H (.int x) v):RD a (.int x) v:=by rw[aA h];exact dS x
theorem re{H:Hp}{a q:M0}{z y:gV V}(h:H a=B' (.tup z))(b:H q=B' (.lst y)):a≠q:=λe=>by
 rw[e,b]at h;cases h
theorem Cf(g:aZ d)(h:RD H d v)(m:H q=B' (.lst y)):RD (upd H q o) d v:=by
 obtain⟨k,rfl⟩|⟨c,t,rfl⟩|⟨k,rfl⟩|⟨i,j,z,rfl⟩:=g
 ·obtain⟨a,Z,rfl,b,f⟩:=aq h;obtain⟨D,n,x,X,e,rfl,r,l⟩:=cH f rfl;cases e;exact aX (by rw[aj<|re b m];exact b)<|ak (iy r)<|ak (fW l) aw
 ·obtain⟨a,Z,rfl,b,f⟩:=aq h;obtain⟨D,n,x,X,e,rfl,r,l⟩:=cH f rfl;cases e;exact aX (by rw[aj<|re b m];exact b)<|ak (iy r)<|ak (CL.rd<|(CL.of l).upd m) aw
 ·obtain⟨a,Z,rfl,b,f⟩:=aq h;obtain⟨D,n,x,X,e,rfl,r,l⟩:=cH f rfl;cases e;exact aX (by rw[aj<|re b m];exact b)<|ak (iy r)<|ak (fW l) aw
 obtain⟨a,Z,rfl,b,f⟩:=aq h;obtain⟨D,n,u,w,x,X,A,B,e,rfl,r,l,p,s⟩:=gN f rfl;cases e;exact aX (by rw[aj<|re b m];exact b)<|ak (iy r)<|ak (fW l)<|ak (fW p)<|ak (fW s) aw
theorem qg(a:H q=B' (.lst s)):∀{D:gV Nh} {v:gV V},(∀d∈D,aZ d)->dw H D v->dw (upd H q o) D v
 |[],v,_,h=>by
  rw[bS h];exact aw
 |d::D,v,g,h=>by
  obtain⟨y,Y,rfl,b,c⟩:=ao h;exact ak (Cf (g d Nl) b a)<|qg a (λe f=>g e<|Nk _ f) c
theorem om:∀{c:gV Nh} {s:gV V} {D:gV Nh} {v:gV V},dw H c s->dw H D v->dw H (c++D) (s++v)
 |[],s,D,v,h,g=>by
  rw[show s=[]from by unfold dw at h;exact h];exact g
 |d::c,s,D,v,h,g=>by
  obtain⟨y,Y,rfl,a,b⟩:=ao h;exact ak a<|om b g
theorem Cg(h:rc o=MX):1<=o.length/\o[o.length-1]?=B' []:=by
 unfold rc at h;cases e:o.getLast? with
 |none=>rw[e]at h;cases h
 |some c=>
  rw[e]at h;have H:c=[]:=N0 h;subst H;rw[QP]at e;exact⟨by have:=(M'.mp e).1;lia,e⟩
noncomputable abbrev Ch:OZ:=dN 40
noncomputable def bD:Nh->gV Int
 |.tuple [.str w,.int i,.int j,.int _]=>if w=aW then [i,j]else []
 |.tuple [.str w,.int k]=>if w=aJ then [k]else []
 |_=>[]
theorem iz(k:Int):bD (.tuple [.str aO,.int k])=[]:=by
 show(if aO=aJ then [k]else [])=[]
 rw[Np<|by decide+kernel]
theorem dW(k:Int):bD (.tuple [.str aJ,.int k])=[k]:=by
 show(if aJ=aJ then [k]else [])=[k]
 rw[Nt rfl]
theorem dm(i j z:Int):bD (.tuple [.str aW,.int i,.int j,.int z])=[i,j]:=by
 show(if aW=aW then [i,j]else [])=[i,j]
 rw[Nt rfl]
inductive KR (vs:gV V)(H:Hp)(Q:VK):Prop
 |mk (v:V)(d:Nh)(h0:vs=[v])(hd:RD H d v)(g:aZ d)(q:∀l h,Same H h->H l=M5->h l=B' (.lst<|(bD d).map V.int)->Q (.ref l) h)
def GT:Sp:=λv H Q _=>KR v H Q
theorem Cj:al ["line"] ["line"] (ah Ch):=d_
theorem FJ(F:Fun K "named_by" "named_by" Ch f t):aP P w K M B cr 1 f t ["line"] GT:=by
 have I:=Cj;refine F.okA Cj λJ A O s H L Q E y h=>?_;obtain⟨v,d,rfl,o,C,q⟩:=h;have u:=y.units;refine⟨_,(ad (aE (ee (aM u) (a_ (pv 0) ae) aQ) (bN<|aI<|aV (a_ (pv 0) ae)<|a_ (pv 0) ae) am)
  (ad (aE (ee (aM u) (a_ (pv 0) ae) aQ) (bN<|aI<|a9<|a_ (pv 0) ae) am)
  (bN<|aI bz))),?_⟩
 obtain⟨k,rfl⟩|⟨c,N,rfl⟩|⟨k,rfl⟩|⟨i,j,z,rfl⟩:=C
 ·obtain⟨a,Z,rfl,b,g⟩:=aq o;obtain⟨D,p,x,X,e,rfl,r,m⟩:=cH g rfl;cases e;obtain rfl:=bF r;refine⟨_,rfl,(bM b rfl<|.inl ⟨rfl,_,rfl,?_⟩)⟩;rw[M6 (show¬V.str aO=V.str (M_ "join") by decide+kernel)];refine av ⟨_,rfl,(bM b rfl<|.inl ⟨rfl,_,rfl,?_⟩)⟩;rw[M6 (show¬V.str aO=V.str (M_ "drop") by decide+kernel)];refine av ⟨NA _,λl n=>q l _ (af n _) n ?_⟩;rw[iz];exact aa
 ·obtain⟨a,Z,rfl,b,g⟩:=aq o;obtain⟨D,p,x,X,e,rfl,r,m⟩:=cH g rfl;cases e;obtain rfl:=bF r;refine⟨_,rfl,(bM b rfl<|.inl ⟨rfl,_,rfl,?_⟩)⟩;rw[M6 (show¬V.str bx=V.str (M_ "join") by decide+kernel)];refine av ⟨_,rfl,(bM b rfl<|.inl ⟨rfl,_,rfl,?_⟩)⟩;rw[M6 (show¬V.str bx=V.str (M_ "drop") by decide+kernel)];exact av ⟨NA _,λl n=>q l _ (af n _) n aa⟩
 ·obtain⟨a,Z,rfl,b,g⟩:=aq o;obtain⟨D,p,x,X,e,rfl,r,m⟩:=cH g rfl;cases e;obtain rfl:=bF r;obtain rfl:=aA m;refine⟨_,rfl,(bM b rfl<|.inl ⟨rfl,_,rfl,?_⟩)⟩;rw[M6 (show¬V.str aJ=V.str (M_ "join") by decide+kernel)];refine av ⟨_,rfl,(bM b rfl<|.inl ⟨rfl,_,rfl,?_⟩)⟩;rw[Ng (show V.str aJ=V.str (M_ "drop")from rfl)];refine aB ⟨_,rfl,(bM b rfl ⟨(by show 1<=sizeLine;decide),λl n=>q l _ (af n _) n ?_⟩)⟩;rw[dW];exact aa
 obtain⟨a,Z,rfl,b,g⟩:=aq o;obtain⟨D,p,T,U,x,X,W,Y,e,rfl,r,m,G,r3⟩:=gN g rfl;cases e;obtain rfl:=bF r;obtain rfl:=aA m;obtain rfl:=aA G;refine⟨_,rfl,(bM b rfl<|.inl ⟨rfl,_,rfl,?_⟩)⟩;rw[Ng (show V.str aW=V.str (M_ "join")from rfl)];refine aB ⟨_,rfl,(bM b rfl ⟨_,rfl,(bM b rfl ⟨(by show 2<=sizeLine;decide),λl n=>q l _ (af n _) n ?_⟩)⟩)⟩;rw[dm];exact aa
noncomputable abbrev FK:OZ:=dN 42
structure KS (mg:Str->MZ J'):Prop where
 range:mg "range"=M5
 sorted:mg "sorted"=M5
noncomputable def g7(Q:gV Int)(k:Int):gV Int:=if k∈Q then Q else Q++[k]
noncomputable def bU(n:Nat->gV Int)(l:Nat):Nat->gV Int
 |0=>[(l:Int)]
 |j+1=>if((l-j:Nat):Int)∈bU n l j then(n<|l-j).foldl g7 (bU n l j)else bU n l j
theorem Ck(Q:gV Int)(k:Int):(g7 Q k).length<=Q.length+1:=by
 unfold g7
 split
 ·exact T_ _
 rw[M7];exact Na _
theorem kE:∀(s Q:gV Int),(s.foldl g7 Q).length<=Q.length+s.length
 |[],Q=>Na _
 |k::s,Q=>by
  have h:=kE s<|g7 Q k;have H:=Ck Q k;rw[QS,NC];lia
theorem iM(h:∀i,(n i).length<=2):∀j,(bU n l j).length<=1+2*j
 |0=>Na _
 |j+1=>by
  have I:=iM h (l:=l) j;have:=h<|l-j;have H:=kE (n<|l-j)<|bU n l j;show(if _ then _ else _:gV Int).length<=_
  split<;>lia
theorem iN(d:Nh):(bD d).length<=2:=by
 unfold bD
 split
 ·split
  ·exact Na _
  exact NA _
 ·split
  ·exact(by decide:1<=2)
  exact NA _
 exact NA _
noncomputable def dB(Q:gV Int):gV (bR×V):=Q.map λk=>((Oq k:bR),V.bl MX)
theorem Cl:∀Q k,(cR (dB Q) (Oq k:bR)).isSome=decide (k∈Q):=λQ k=>by
 unfold dB cR
 induction Q with
 |nil=>rfl
 |cons a Q i=>
  rw[NW,Pk];by_cases e:k=a
  ·subst e;simp
  have E:decide ((Oq a:bR)=Oq k)=false:=M6 λz=>e (RJ z).symm;simp only[E];rw[i,O0];simp[e]
theorem Jc(Q:gV Int)(k:Int):dg (dB Q) (Oq k:bR) (V.bl MX)=dB (g7 Q k):=by
 by_cases h:k∈Q
 ·unfold g7;rw[Nt h];unfold dg;have e:((dB Q).any λb=>decide (b.1=(Oq k:bR)))=true:=by
   unfold dB;rw[Tc,N4];exact⟨k,h,by simp⟩
  rw[Nt e];unfold dB;rw[Ot];refine Sa λa _=>?_;simp only[Function.comp]
  split<;>rfl
 unfold g7;rw[Np h,mQ]
 ·unfold dB;rw[NI];rfl
 have:=Cl Q k;rw[M6 h]at this;cases q:cR (dB Q) (Oq k:bR)with
 |none=>rfl
 |some v=>rw[q]at this;cases this
theorem FL(Q:gV Int):(dB Q).map (·.1)=Q.map (Oq:Int->bR):=by
 unfold dB;rw[Ot];rfl
inductive KU (vs:gV V)(H:Hp)(Q:VK):Prop
 |mk (L:M0)(s:gV V)(ds:gV Nh)(last:Nat)(h0:vs=[.ref L,.int (last:Int)])(a:H L=B' (.lst s))(b:dw H ds s)(c:∀d∈ds,aZ d)(e:last<ds.length)(f:ds.length<=3000)
   (q:∀l U h,Same H h->H l=M5->h l=B' (.lst<|U.map V.int)->R4 U (bU (λi=>bD<|ds.getD i .none) last<|last+1)->QG (·<=·) U->Q (.ref l) h):KU vs H Q
def GU:Sp:=λv H Q _=>KU v H Q
inductive KY (l d:M0)(last:Nat)(nm:Nat->gV Int)(H:Hp)(j:Nat)(a:St)(G:Hp):Prop
 |mk (x X:MZ V)(i:a=[B'<|.ref l,B'<|.int (last:Int),B'<|.ref d,x,X])(I:G d=B' (.dK<|dB<|bU nm last j))(b:Same H G)
inductive KZ (L d l:M0)(last:Nat)(x:MZ V)(Q ks:gV Int)(H:Hp)(j:Nat)(a:St)(G:Hp):Prop
 |mk (X:MZ V)(i:a=[B'<|.ref L,B'<|.int (last:Int),B'<|.ref d,x,X])(I:G d=B' (.dK<|dB<|(ks.take j).foldl g7 Q))(b:Same H G)(c:G l=B' (.lst<|ks.map V.int))
theorem vj{s Q:gV Int}{j:Nat}{k:Int}(h:s[j]?=B' k):(s.take<|j+1).foldl g7 Q=g7 ((s.take j).foldl g7 Q) k:=by
 rw[Oc,h,Ta];rfl
theorem GV:al ["lines","last","needed","place","ahead"] ["lines","last"] (ah FK):=d_
theorem Jd(F:Fun K "needed_by" "needed_by" FK f fd)(T:KS W)(r:Fe P w K W b 1 "named_by" GT):aP P w K W b cr 2 f fd ["lines","last"] GU:=by
 have t:=GV;refine F.okA GV λQu A O s H vs Q E Y h=>?_;obtain⟨Z,ls,d,L,rfl,h1,h2,h3,h4,h5,q⟩:=h;have hu:=Y.units;have Xr:(A.deeper<|O6 "needed_by" (ah FK) s.heap.objs.size f Qu).units+1<QT:=by lia
 have Pd:=bZ h2;refine⟨_,(ad (cM 2 t.nd<|Bg (pv 1) bw)
  (ad (cP Ow rfl (pF rfl T.range<|au (pv 1)<|aV (fq di ae)<|fq di ae) (eu 3 t.nd)
   (ax (aE (zC<|HR Xr (pv 3)<|pv 2) (ax (cP Ow rfl (bO<|cE r Y<|a9<|a_ (pv 0)<|pv 3) (eu 4 t.nd)
     (ax<|qK Xr (pv 2) (pv 4) bw rfl))) am)))
  (bN<|ag (uA rfl) rfl T.sorted SV<|a9<|pv 2))),?_⟩
 refine λD n=>⟨_,rfl,aa,[(Oq (L:Int),.bl MX)],rfl,(by show 1<=15;decide),?_⟩;have k1:Same H (upd (upd H D<|.dK []) D<|.dK<|gv [] [(Oq (L:Int),.bl MX)]):=by rw[gf];exact af n _
 have s1:upd (upd H D<|.dK []) D (.dK<|gv [] [(Oq (L:Int),.bl MX)]) D=B' (.dK<|dB [(L:Int)]):=aa;generalize upd (upd H D<|.dK []) D (.dK<|gv [] [(Oq (L:Int),.bl MX)])=H1 at k1 s1 ⊢;refine⟨_,rfl,_,rfl,_,rfl,(L:Int),-1,rfl,⟨by lia,by lia,by lia,by lia⟩,nj (lo:=(L:Int)) (KY Z D L (λi=>bD<|d.getD i .none) H) ⟨M5,M5,rfl,s1,k1⟩ ?_ ?_⟩
 ·rintro j g G hj ⟨x3,X,rfl,I,a⟩;have ab:j<=L:=by lia
  have ej:(L:Int)-(j:Int)=((L-j:Nat):Int):=by lia
  rw[ej];exists _,rfl,_,rfl,D,_,rfl,DGet.k (k:=Oq ((L-j:Nat):Int)) I;rw[Cl];by_cases o:((L-j:Nat):Int)∈bU (λi=>bD<|d.getD i .none) L j
  ·rw[Ng o];have e:bU (λi=>bD<|d.getD i .none) L (j+1)=(bD<|d.getD (L-j) .none).foldl g7 (bU (λi=>bD<|d.getD i .none) L j):=Nt o;obtain⟨v,hv⟩:∃v,ls[L-j]?=B' v:=⟨_,M4 (by lia)⟩;have rv:=eE (bE a _ _ h2) hv;have gd:aZ (d.getD (L-j) .none):=h3 _ (Nc (getD_some (d:=PL) (show L-j<d.length by lia)));have u:=iN (d.getD (L-j) .none);generalize y:bD (d.getD (L-j) .none)=B at e u;have c:=iM (n:=λi=>bD (d.getD i .none)) (l:=L) (λi=>iN _) j;generalize bU (λi=>bD (d.getD i .none)) L j=Qe at I e c;refine⟨_,rfl,aB ⟨_,rfl,_,rfl,(iw (a _ _ h1) (bi hv) ⟨v,d.getD (L-j) .none,rfl,rv,gd,λl G1 kg N C=>?_⟩)⟩⟩;rw[y]at C;refine⟨l,rfl,⟨_,SqL.of C⟩,gz (K:=K) (a:=l) (X:=B.map V.int) (KZ Z D l L (B' (.int ((L-j:Nat):Int))) Qe B H) ⟨_,rfl,kg _ _ I,a.trans kg,C⟩ ?_ ?_ ?_⟩
   ·rintro i g G2 _ ⟨_,_,_,_,m⟩;exact SqL.of m
   ·rintro i x g G2 hx ⟨X,rfl,M,J,p⟩;obtain⟨k,rfl,hk⟩:=eF hx;have U:=kE (B.take i) Qe;rw[NO]at U;exists _,rfl,_,rfl,D,_,rfl,DPut.k (k:=Oq k) M (bH<|by unfold dB;rw[MY];lia);rw[Jc,<-vj hk];exists _,rfl,aa,J.upd_new n _;rw[aj λz=>by rw[z,M]at p;cases p];exact p
   rintro g G2 ⟨X,rfl,M,J,p⟩;rw[MY,Nn<|Na _,<-e]at M;exact⟨_,_,rfl,M,J⟩
  rw[M6 o];have e:bU (λi=>bD<|d.getD i .none) L (j+1)=bU (λi=>bD<|d.getD i .none) L j:=Np o;exact⟨_,rfl,av ⟨_,_,rfl,by rw[e];exact I,a⟩⟩
 rintro g G ⟨x3,X,rfl,I,a⟩;have e:((L:Int) - -1).toNat=L+1:=by lia
 rw[e]at I;have c:=iM (n:=λi=>bD<|d.getD i .none) (l:=L) (λi=>iN _)<|L+1;refine⟨_,rfl,D,_,_,rfl,I,FL _,by lia,λl Us N hp hs=>q l Us _ (a.trans<|af N _) (a.free N) aa hp hs⟩
noncomputable def gP(c:gV Int):gV bR:=c.map Oq
theorem kF(c:gV Int):(gP c).map kV=c.map V.int:=by
 unfold gP;rw[Ot];rfl
theorem hL:gP a=gP b↔a=b:=Yk λ_ _ h=>RJ h
theorem ze{a:Type}{l:gV a}{i:Nat}{x:a}(h:l[i]?=B' x):l.take (i+1)=l.take i++[x]:=by
 rw[Oc,h];rfl
theorem Je{a b c:gV Int}(h:R4 a c)(H:QG (·<=·) a)(d:R4 b c)(e:QG (·<=·) b):a=b:=
 abG (λx y _ _ p q=>by have P:x<=y:=p;have Q:y<=x:=q;lia) H e (h.trans d.symm)
theorem tI(g:aZ d)(h:aG t C w s d=B' c):∀k∈bD d,0<=k/\k<(s.length:Int):=by
 obtain⟨k,rfl⟩|⟨n,o,rfl⟩|⟨k,rfl⟩|⟨i,j,z,rfl⟩:=g
 ·rw[iz];exact λ_ h=>nomatch h
 ·exact λ_ h=>nomatch h
 ·rw[dW];intro b T;rw[Nd.mp T];unfold aG at h;have f:bT aO 2 (.tuple [.str aJ,.int k])=false:=by
   show(decide (2=2)&&decide (aJ=aO))=MW
   rw[M6 (show¬aJ=aO by decide+kernel),PV]
  have F:bT bx 2 (.tuple [.str aJ,.int k])=false:=by
   show(decide (2=2)&&decide (aJ=bx))=MW
   rw[M6 (show¬aJ=bx by decide+kernel),PV]
  have a:bT aW 4 (.tuple [.str aJ,.int k])=false:=rfl;have l:bT aJ 2 (.tuple [.str aJ,.int k])=true:=by
   show(decide (2=2)&&decide (aJ=aJ))=MX
   simp
  rw[f,F,a,l,PV,PV]at h;have H:fA t w s (.int k)=B' c:=h;unfold fA at H;cases e:aS s.length (.int k)with
  |none=>rw[e]at H;cases H
  |some i=>
   obtain⟨m,A⟩:=bG e;cases A;lia
 rw[dm];intro b T;unfold aG at h;have f:bT aO 2 (.tuple [.str aW,.int i,.int j,.int z])=false:=rfl;have F:bT bx 2 (.tuple [.str aW,.int i,.int j,.int z])=false:=rfl;have a:bT aW 4 (.tuple [.str aW,.int i,.int j,.int z])=true:=by
  show(decide (4=4)&&decide (aW=aW))=MX
  simp
 rw[f,F,a,PV,PV]at h;have H:dC t w s (.int i) (.int j) (.int z)=B' c:=h;unfold dC at H;cases e:aS s.length (.int i)with
 |none=>rw[e]at H;cases H
 |some I=>
 cases E:aS s.length (.int j)with
 |none=>rw[e,E]at H;cases H
 |some J=>
  obtain⟨m,A⟩:=bG e;obtain⟨p,B⟩:=bG E;cases A;cases B;obtain rfl|T:=Nz.mp T
  ·lia
  rw[Nd.mp T];lia
noncomputable abbrev zf:OZ:=dN 41
noncomputable def bV(f:Int->Int):Nh->Nh
 |.tuple [.str w,.int i,.int j,.int z]=>if w=aW then .tuple [.str aW,.int<|f i,.int<|f j,.int z]else .tuple [.str w,.int i,.int j,.int z]
 |.tuple [.str w,.int k]=>if w=aJ then .tuple [.str aJ,.int<|f k]else .tuple [.str w,.int k]
 |d=>d
theorem d8(f:Int->Int)(k:Int):bV f (.tuple [.str aO,.int k])=.tuple [.str aO,.int k]:=by
 show(if aO=aJ then R1 [.str aJ,.int<|f k]else R1 [.str aO,.int k])=_
 rw[Np<|by decide+kernel]
theorem fB(f:Int->Int)(k:Int):bV f (.tuple [.str aJ,.int k])=.tuple [.str aJ,.int<|f k]:=by
 show(if aJ=aJ then R1 [.str aJ,.int<|f k]else R1 [.str aJ,.int k])=_
 rw[Nt rfl]
theorem fC(f:Int->Int)(i j z:Int):bV f (.tuple [.str aW,.int i,.int j,.int z])=.tuple [.str aW,.int<|f i,.int<|f j,.int z]:=by
 show(if aW=aW then R1 [.str aW,.int<|f i,.int<|f j,.int z]else R1 [.str aW,.int i,.int j,.int z])=_
 rw[Nt rfl]
theorem oo(f:Int->Int)(c:gV Int):bV f (.tuple [.str bx,iS c])=.tuple [.str bx,iS c]:=rfl
theorem jP(g:aZ d):aZ (bV f d):=by
 obtain⟨k,rfl⟩|⟨c,h,rfl⟩|⟨k,rfl⟩|⟨i,j,z,rfl⟩:=g
 ·rw[d8];exact .inl ⟨k,rfl⟩
 ·exact .inr<|.inl ⟨c,h,rfl⟩
 ·rw[fB];exact .inr<|.inr<|.inl ⟨_,rfl⟩
 rw[fC];exact .inr<|.inr<|.inr ⟨_,_,_,rfl⟩
theorem qh(g:aZ d):bD (bV f d)=(bD d).map f:=by
 obtain⟨k,rfl⟩|⟨c,h,rfl⟩|⟨k,rfl⟩|⟨i,j,z,rfl⟩:=g
 ·rw[d8,iz];rfl
 ·rfl
 ·rw[fB,dW,dW];rfl
 rw[fC,dm,dm];rfl
inductive GW (vs:gV V)(H:Hp)(Q:VK):Prop
 |mk (v:V)(na:M0)(d:Nh)(ns:gV Int)(h0:vs=[v,.ref na])(hd:RD H d v)(g:aZ d)(n:H na=B' (.lst (ns.map V.int)))(r:∀k∈bD d,0<=k/\k<(ns.length:Int))(q:∀a h,Same H h->RD h (bV (λk=>ns.getD k.toNat 0) d) a->Q a h)
def Cn:Sp:=λv H Q _=>GW v H Q
inductive GX (vs:gV V)(H:Hp)(Q:VK):Prop
 |mk (v:V)(na:M0)(d:Nh)(s:gV (bR×V))(f:Int->Int)(h0:vs=[v,.ref na])(hd:RD H d v)(g:aZ d)(n:H na=B' (.dK s))(r:∀k∈bD d,cR s (Oq k:bR)=B' (.int<|f k))(q:∀a h,Same H h->RD h (bV f d) a->Q a h)
def Co:Sp:=λv H Q _=>GX v H Q
theorem rf{N:gV Int}{k:Int}(h:0<=k/\k<(N.length:Int)):j0 (N.map V.int) k=B' (.int<|N.getD k.toNat 0):=by
 obtain⟨n,rfl⟩:∃n:Nat,k=(n:Int):=⟨k.toNat,by lia⟩;refine bi ?_;rw[Nu,getD_some (d:=(0:Int)) (show n<N.length by lia)];rfl
theorem ot{H:Hp}{n:M0}{s:gV (bR×V)}{k z:Int}(a:H n=B' (.dK s))(h:cR s (Oq k:bR)=B' (.int z)):DGet H n (.int k) (B'<|.int z):=by
 rw[<-h];exact DGet.k (k:=Oq k) a
theorem xn:al ["line","numbers"] ["line","numbers"] (ah zf):=d_
theorem FM(F:Fun K "renamed" "renamed" zf f y):aP P w K M B cr 1 f y ["line","numbers"] Cn:=by
 have L:=xn;refine F.okA xn λC A O s H T Q E r h=>?_;have u:=r.units;have U:(A.deeper<|O6 "renamed" (ah zf) s.heap.objs.size f C).units+1<QT:=by lia
 obtain⟨v,W,d,Y,rfl,n,G,p,r,q⟩:=h;refine⟨_,(ad (aE (ee (aM u) (a_ (pv 0) ae) aQ) (bN<|aU<|au aQ<|au (a_ (pv 1)<|a_ (pv 0) ae)<|aV (a_ (pv 1)<|a_ (pv 0) ae)<|a_ (pv 0) ae) am)
  (ad (aE (ee (aM u) (a_ (pv 0) ae) aQ) (bN<|aU<|aV aQ<|a_ (pv 1)<|a_ (pv 0) ae) am)
  (bN<|pv 0))),?_⟩
 obtain⟨k,rfl⟩|⟨c,hc,rfl⟩|⟨k,rfl⟩|⟨i,j,z,rfl⟩:=G
 ·obtain⟨a,Z,rfl,b,g⟩:=aq n;obtain⟨D,t,x,X,e,rfl,m,o⟩:=cH g rfl;cases e;obtain rfl:=bF m;refine⟨_,rfl,(bM b rfl<|.inl ⟨rfl,_,rfl,?_⟩)⟩;rw[M6 (show¬V.str aO=V.str (M_ "join") by decide+kernel)];refine av ⟨_,rfl,(bM b rfl<|.inl ⟨rfl,_,rfl,?_⟩)⟩;rw[M6 (show¬V.str aO=V.str (M_ "drop") by decide+kernel)];rw[d8]at q;exact av ⟨_,rfl,q _ _ (Same.refl _) n⟩
 ·obtain⟨a,Z,rfl,b,g⟩:=aq n;obtain⟨D,t,x,X,e,rfl,m,o⟩:=cH g rfl;cases e;obtain rfl:=bF m;refine⟨_,rfl,(bM b rfl<|.inl ⟨rfl,_,rfl,?_⟩)⟩;rw[M6 (show¬V.str bx=V.str (M_ "join") by decide+kernel)];refine av ⟨_,rfl,(bM b rfl<|.inl ⟨rfl,_,rfl,?_⟩)⟩;rw[M6 (show¬V.str bx=V.str (M_ "drop") by decide+kernel)];rw[oo]at q;exact av ⟨_,rfl,q _ _ (Same.refl _) n⟩
 ·obtain⟨a,Z,rfl,b,g⟩:=aq n;obtain⟨D,t,x,X,e,rfl,m,o⟩:=cH g rfl;cases e;obtain rfl:=bF m;obtain rfl:=aA o;rw[dW]at r;rw[fB]at q;refine⟨_,rfl,(bM b rfl<|.inl ⟨rfl,_,rfl,?_⟩)⟩;rw[M6 (show¬V.str aJ=V.str (M_ "join") by decide+kernel)];refine av ⟨_,rfl,(bM b rfl<|.inl ⟨rfl,_,rfl,?_⟩)⟩;rw[Ng (show V.str aJ=V.str (M_ "drop")from rfl)];refine aB ⟨_,rfl,_,rfl,(bM b rfl<|(iw p (rf<|r k<|Nd.mpr rfl) ⟨(by show 2<=sizeLine;decide),λl N=>q (.ref l) _ (af N _)<|aX aa<|ak (cD _)<|ak (dS _) aw⟩))⟩
 obtain⟨a,Z,rfl,b,g⟩:=aq n;obtain⟨D,t,d2,d3,x,X,x2,x3,e,rfl,m,o,I,J⟩:=gN g rfl;cases e;obtain rfl:=bF m;obtain rfl:=aA o;obtain rfl:=aA I;obtain rfl:=aA J;rw[dm]at r;rw[fC]at q;refine⟨_,rfl,(bM b rfl<|.inl ⟨rfl,_,rfl,?_⟩)⟩;rw[Ng (show V.str aW=V.str (M_ "join")from rfl)];refine aB ⟨_,rfl,_,rfl,(bM b rfl<|(iw p (rf<|r i Nl) ⟨_,rfl,_,rfl,(bM b rfl<|(iw p (rf<|r j<|Nk _<|Nd.mpr rfl) ⟨_,rfl,(bM b rfl ⟨(by show 4<=sizeLine;decide),λl N=>q (.ref l) _ (af N _)<|aX aa<|ak (cD _)<|ak (dS _)<|ak (dS _)<|ak (dS _) aw⟩)⟩))⟩))⟩
theorem FN(F:Fun K "renamed" "renamed" zf f G):aP P w K U B cr 1 f G ["line","numbers"] Co:=by
 have W:=xn;refine F.okA xn λI A O s H Y Q E r h=>?_;have C:=r.units;have X:(A.deeper<|O6 "renamed" (ah zf) s.heap.objs.size f I).units+1<QT:=by lia
 obtain⟨v,N,d,J,f',rfl,n,L,p,r,q⟩:=h;refine⟨_,(ad (aE (ee (aM C) (a_ (pv 0) ae) aQ) (bN<|aU<|au aQ<|au (cg X (pv 1) (a_ (pv 0) ae) λ_ _=>rfl)<|aV (cg X (pv 1) (a_ (pv 0) ae) λ_ _=>rfl)<|a_ (pv 0) ae) am)
  (ad (aE (ee (aM C) (a_ (pv 0) ae) aQ) (bN<|aU<|aV aQ<|cg X (pv 1) (a_ (pv 0) ae) λ_ _=>rfl) am)
  (bN<|pv 0))),?_⟩
 obtain⟨k,rfl⟩|⟨c,hc,rfl⟩|⟨k,rfl⟩|⟨i,j,z,rfl⟩:=L
 ·obtain⟨a,Z,rfl,b,g⟩:=aq n;obtain⟨D,t,x,u,e,rfl,m,o⟩:=cH g rfl;cases e;obtain rfl:=bF m;refine⟨_,rfl,(bM b rfl<|.inl ⟨rfl,_,rfl,?_⟩)⟩;rw[M6 (show¬V.str aO=V.str (M_ "join") by decide+kernel)];refine av ⟨_,rfl,(bM b rfl<|.inl ⟨rfl,_,rfl,?_⟩)⟩;rw[M6 (show¬V.str aO=V.str (M_ "drop") by decide+kernel)];rw[d8]at q;exact av ⟨_,rfl,q _ _ (Same.refl _) n⟩
 ·obtain⟨a,Z,rfl,b,g⟩:=aq n;obtain⟨D,t,x,u,e,rfl,m,o⟩:=cH g rfl;cases e;obtain rfl:=bF m;refine⟨_,rfl,(bM b rfl<|.inl ⟨rfl,_,rfl,?_⟩)⟩;rw[M6 (show¬V.str bx=V.str (M_ "join") by decide+kernel)];refine av ⟨_,rfl,(bM b rfl<|.inl ⟨rfl,_,rfl,?_⟩)⟩;rw[M6 (show¬V.str bx=V.str (M_ "drop") by decide+kernel)];rw[oo]at q;exact av ⟨_,rfl,q _ _ (Same.refl _) n⟩
 ·obtain⟨a,Z,rfl,b,g⟩:=aq n;obtain⟨D,t,x,u,e,rfl,m,o⟩:=cH g rfl;cases e;obtain rfl:=bF m;obtain rfl:=aA o;rw[dW]at r;rw[fB]at q;refine⟨_,rfl,(bM b rfl<|.inl ⟨rfl,_,rfl,?_⟩)⟩;rw[M6 (show¬V.str aJ=V.str (M_ "join") by decide+kernel)];refine av ⟨_,rfl,(bM b rfl<|.inl ⟨rfl,_,rfl,?_⟩)⟩;rw[Ng (show V.str aJ=V.str (M_ "drop")from rfl)];refine aB ⟨_,rfl,_,rfl,(bM b rfl ⟨N,_,rfl,ot p<|r k<|Nd.mpr rfl,(by show 2<=sizeLine;decide),λl y=>q (.ref l) _ (af y _)<|aX aa<|ak (cD _)<|ak (dS _) aw⟩)⟩
 obtain⟨a,Z,rfl,b,g⟩:=aq n;obtain⟨D,t,d2,d3,x,u,x2,x3,e,rfl,m,o,M,T⟩:=gN g rfl;cases e;obtain rfl:=bF m;obtain rfl:=aA o;obtain rfl:=aA M;obtain rfl:=aA T;rw[dm]at r;rw[fC]at q;refine⟨_,rfl,(bM b rfl<|.inl ⟨rfl,_,rfl,?_⟩)⟩;rw[Ng (show V.str aW=V.str (M_ "join")from rfl)];refine aB ⟨_,rfl,_,rfl,(bM b rfl ⟨N,_,rfl,ot p<|r i Nl,_,rfl,_,rfl,(bM b rfl ⟨N,_,rfl,ot p<|r j<|Nk _<|Nd.mpr rfl,_,rfl,(bM b rfl ⟨(by show 4<=sizeLine;decide),λl y=>q (.ref l) _ (af y _)<|aX aa<|ak (cD _)<|ak (dS _)<|ak (dS _)<|ak (dS _) aw⟩)⟩)⟩)⟩
noncomputable abbrev FO:OZ:=dN 43
structure K0 (mg:Str->MZ J'):Prop where
 enumerate:mg "enumerate"=M5
noncomputable def iA(o:gV (gV Int)):gV Int:=o.map λc=>((o.idxOf c:Nat):Int)
theorem qi:∀{o:gV (gV Int)} {i:Nat} {c:gV Int},o[i]?=B' c->c∉o.take i->o.idxOf c=i
 |[],i,c,h,_=>by simp at h
 |x::o,0,c,h,_=>by
  have H:x=c:=by simpa using h
  subst H;simp
 |x::o,i+1,c,h,n=>by
  have a:x≠c:=λz=>n (by rw[XG,z];exact Nl);have H:o[i]?=B' c:=by simpa using h
  have N:c∉o.take i:=λz=>n (by rw[XG];exact Nk _ z);rw[ZZ,qi H N];have:(x == c)=false:=by simpa using a
  rw[this];rfl
inductive K1 (vs:gV V)(H:Hp)(Q:VK):Prop
 |mk (s:M0)(ys:gV V)(out:gV (gV Int))(h0:vs=[.ref s])(a:H s=B' (.lst ys))(b:CLs H out ys)(c:out.length<=3000)(q:∀l h,Same H h->H l=M5->h l=B' (.lst<|(iA out).map V.int)->Q (.ref l) h)
def GY:Sp:=λv H Q _=>K1 v H Q
inductive K2 (s d:M0)(out:gV (gV Int))(H:Hp)(i:Nat)(a:gV (MZ V))(G:Hp):Prop
 |mk (x X:MZ V)(D:gV (gV bR×V))(I:a=[B'<|.ref s,B'<|.ref d,x,X])(b:G d=B' (.dT D))(e:∀c:gV Int,cR D (gP c)=if c∈out.take i then B' (.int ((out.idxOf c:Nat):Int))else M5)(f:D.length<=i)(g:Same H G)
theorem Cp(q:St)(f:Nat->V)(E:c=M5::q)(e:H a=B' (.lst X))(g:H D=M5)(P:X.length<=9000)
  (k:∀i x,X[i]?=B' x->∀d R,Same H d->R (f i) d->t (B' x::q) d R) (l:Q (.ref D) (upd H D<|.lst<|(Os X.length).map f)):iU (DL K a) D (fO 0) Jy t c H Q:=by
 have n:a≠D:=ai e g;refine c_ (K:=K) (a:=a) (xs:=X) (λi b y h=>(∃v,b=v::q)/\y=(Os i).map f/\h=upd H D (.lst y)) ⟨⟨M5,E⟩,rfl,rfl⟩ ?_ ?_ ?_
 ·rintro i b y h _ ⟨_,_,rfl⟩;exact⟨aa,SqL.of<|by rw[aj n];exact e⟩
 ·rintro i x b y h j ⟨⟨v,rfl⟩,rfl,rfl⟩;have W:i<X.length:=(M'.mp j).1;refine fu<|k i x j _ _ (af g _) ⟨aa,bH (by rw[MY,Ph];lia),⟨_,rfl⟩,?_,?_⟩
  ·rw[Rp,NI];rfl
  rw[gf]
 rintro b y h ⟨_,rfl,rfl⟩;exact l
theorem GZ:al ["sets","places","place","literals"] ["sets"] (ah FO):=d_
theorem Jf(F:Fun K "first_places" "first_places" FO f fd)(T:K0 mg):aP P w K mg ab cr 1 f fd ["sets"] GY:=by
 have B:=GZ;refine F.okA GZ λQu A O s H vs Q E hr h=>?_;have hu:=hr.units;have Xr:(A.deeper<|O6 "first_places" (ah FO) s.heap.objs.size f Qu).units+1<QT:=by lia
 obtain⟨u,ys,o,rfl,v,L,h3,q⟩:=h;have Pd:=L.length;refine⟨_,(ad (eU (i:=1) B.nd rfl (SE rfl) mR)
  (ad (cP Ow rfl (qM rfl T.enumerate<|pv 0) (iX rfl<|cb (eu 2 B.nd)<|cb (eu 3 B.nd) gg)
   (ax<|bu<|Bf Xr (pv 1) (pv 3) (pv 2) ⟨rfl,rfl,rfl,rfl⟩))
  (bN<|bj (N:=["literals","places"]) (d:=[M5,B' 1]) rfl cS (bO<|pv 0) (λ_ _ _ _=>(eu 0<|nD ["literals","places"])) (λ_ _ _ _=>dO) λ_ _ _ _=>(cg Xr (pv 1) (pv 0) λ_ _=>rfl)))),?_⟩
 refine λd N=>?_;have k1:=af N<|.dT [];have s1:upd H d (.dT []) d=B' (.dT []):=aa;refine⟨_,rfl,u,rfl,⟨_,SqL.of<|k1 _ _ v⟩,sk (K:=K) (a:=u) (X:=ys) (K2 u d o H) ⟨M5,M5,[],rfl,s1,λc=>rfl,Na _,k1⟩ ?_ ?_ ?_⟩
 ·rintro i σ G _ ⟨_,_,_,_,_,_,_,k⟩;exact SqL.of<|k _ _ v
 ·rintro i x σ G g M ⟨x2,x3,D,rfl,U,l,i3,I⟩ W;have X:Same G (upd G g<|.tup [.int i,x]):=af W _;obtain⟨c,m,t,rfl,Y⟩:=((L.mono I).mono X).get M;have WQ:i<o.length:=(M'.mp m).1;have a:upd G g (.tup [.int i,.ref t]) t=B' (.tup<|(gP c).map kV):=by rw[kF];exact Y
  have J:=X _ _ U;have Z:=I.trans X;have p:upd G g (.tup [.int i,.ref t]) g=B' (.tup [.int i,.ref t]):=aa;generalize upd G g (.tup [.int i,.ref t])=G1 at a J Z p ⊢;have et:=ze m;exists g,_,rfl,SqT.of p,rfl,_,_,rfl,_,_,rfl,rfl;exists _,rfl,d,rfl,.inr ⟨_,.inl J⟩,_,rfl,_,rfl;have b:=l c;by_cases y:c∈o.take i
  ·rw[Nt y]at b;refine .inl ⟨.int ((o.idxOf c:Nat):Int),by rw[<-b];exact DGet.t J a,?_⟩;refine⟨_,_,D,rfl,J,λC=>?_,by lia,Z⟩;rw[l C,et];have:(C∈o.take i++[c])↔C∈o.take i:=by
    rw[NB,Nd];exact⟨λz=>z.elim id λz=>z▸y,.inl⟩
   simp only[this]
  rw[Np y]at b;have ei:=qi m y;refine .inr ⟨by rw[<-b];exact DGet.t J a,_,DPut.t J a (bH<|by lia),?_⟩;refine⟨_,_,_,rfl,aa,λC=>?_,?_,Z.upd_new N _⟩
  ·rw[rW,et];by_cases e:C=c
   ·subst e;rw[Nt rfl,Nt<|Oo _<|Nd.mpr rfl,ei]
   rw[Np λz=>e<|hL.mp z,l C];have:(C∈o.take i++[c])↔C∈o.take i:=by
    rw[NB,Nd];exact⟨λz=>z.elim id λz=>absurd z e,.inl⟩
   simp only[this]
  have:=dY D (gP c)<|.int (i:Int);lia
 rintro σ G ⟨x2,x3,D,rfl,U,l,i3,I⟩;rw[Nn<|by lia]at l;refine⟨_,rfl,u,rfl,⟨_,SqL.of<|I _ _ v⟩,λDl n=>?_⟩;refine Cp [B'<|.ref d] (λi=>.int ((o.idxOf (o.getD i []):Nat):Int)) rfl (I _ _ v) n (by lia) (λi x M H' R k r=>?_) ?_
 ·obtain⟨c,m,t,rfl,Y⟩:=(L.mono<|I.trans k).get M;have a:H' t=B' (.tup<|(gP c).map kV):=by rw[kF];exact Y
  have b:=l c;rw[Nt<|Nc m]at b;have eg:o.getD i []=c:=by rw[M1,m];rfl
  rw[eg]at r;exact⟨_,rfl,_,rfl,d,_,rfl,by rw[<-b];exact DGet.t (k _ _ U) a,r⟩
 have k5:=af n<|.lst ((Os ys.length).map λi:Nat=>V.int ((o.idxOf (o.getD i []):Nat):Int));refine q Dl _ (I.trans k5) (I.free n) ?_;rw[aa]
 congr 2
 unfold iA;rw[Ot];refine RF λj=>?_;rw[Nu,Nu];by_cases hj:j<o.length
 ·rw[Se (by lia),M4 hj];show B' (V.int ((o.idxOf (o.getD j []):Nat):Int))=B' (V.int _)
  rw[M1,M4 hj];rfl
 rw[OP (by rw[Ph];lia),OP<|by lia];rfl
theorem Cq:x∈g7 Q k↔x∈Q\/x=k:=by
 unfold g7
 split
 ·rename_i h;exact⟨.inl,λz=>z.elim id λz=>z▸h⟩
 rw[NB,Nd]
theorem qj:∀{s Q:gV Int} {x:Int},x∈s.foldl g7 Q↔x∈Q\/x∈s
 |[],Q,x=>by simp
 |k::s,Q,x=>by
  rw[QS,qj,Cq,Nz,or_assoc]
theorem vk(h:Q.Nodup):(g7 Q k).Nodup:=by
 unfold g7
 split
 ·exact h
 rename_i n;rw[Pg];exact⟨h,by simp,λx H y a z=>by rw[Nd.mp a]at z;exact n<|z▸H⟩
theorem lI:∀{k Q:gV Int},Q.Nodup->(k.foldl g7 Q).Nodup
 |[],_,h=>h
 |_::k,_,h=>lI (k:=k)<|vk h
section
variable {nm:Nat->gV Int}{last:Nat}
theorem gn:∀j,(bU nm last j).Nodup
 |0=>by show([(last:Int)]:gV Int).Nodup;simp
 |j+1=>by
  show(if _ then _ else _:gV Int).Nodup
  split
  ·exact lI<|gn j
  exact gn j
theorem eY:x∈bU nm last (j+1)↔x∈bU nm last j\/(((last-j:Nat):Int)∈bU nm last j/\x∈nm (last-j)):=by
 show x∈(if _ then _ else _:gV Int)↔_
 split
 ·rename_i h;rw[qj];exact⟨λz=>z.imp id λz=>⟨h,z⟩,λz=>z.imp id λz=>z.2⟩
 rename_i h;exact⟨.inl,λz=>z.elim id λz=>absurd z.1 h⟩
theorem jd(h:x∈bU nm last j):∀m,x∈bU nm last (j+m)
 |0=>h
 |m+1=>eY.mpr<|.inl<|jd h m
theorem gr(H:∀i,i<=last->∀k∈nm i,0<=k/\k<(i:Int)):∀{j:Nat} {x:Int},x∈bU nm last j->0<=x/\x<=(last:Int)
 |0,x,h=>by
  have a:x=(last:Int):=Nd.mp h;lia
 |j+1,x,h=>by
  obtain z|⟨_,z⟩:=eY.mp h
  ·exact gr H z
  have:=H (last-j) (sx _ _) x z;lia
theorem ou(H:∀i,i<=last->∀k∈nm i,0<=k/\k<(i:Int))(a:last-j<=p):∀m,(p:Int)∈bU nm last (j+m)->(p:Int)∈bU nm last j
 |0,h=>h
 |m+1,h=>by
  obtain z|⟨_,z⟩:=eY.mp (show(p:Int)∈bU nm last ((j+m)+1)from h)
  ·exact ou H a m z
  have:=H (last-(j+m)) (sx _ _) _ z;lia
theorem jQ(H:∀i,i<=last->∀k∈nm i,0<=k/\k<(i:Int)){p:Nat}(h:(p:Int)∈bU nm last (last+1)):∀k∈nm p,k∈bU nm last (last+1):=λk b=>by
 have Z:p<=last:=by
  have:=(gr H h).2;lia
 have e:last+1=(last-p)+(p+1):=by lia
 rw[e]at h;have c:=ou H (show last-(last-p)<=p by lia) (p+1) h;have d:k∈bU nm last (last-p+1):=eY.mpr<|.inr ⟨by rw[show last-(last-p)=p by lia];exact c,by rw[show last-(last-p)=p by lia];exact b⟩;have a:=jd d p;rw[show last-p+1+p=last+1 by lia]at a;exact a
theorem vm(j:Nat):(last:Int)∈bU nm last j:=by
 have:=jd (nm:=nm) (last:=last) (j:=0) (x:=(last:Int)) (Nd.mpr rfl) j
 rwa [Qn]at this
end
theorem vn{o:gV (gV Int)}{k:Nat}{c:gV Int}(h:o[k]?=B' c):o.idxOf c<=k:=by
 obtain g|g:=Pz k (o.idxOf c)
 ·exact absurd (M'.mp h).2 (by
   have:=Ws (p:=λx=>x == c) (xs:=o) (i:=k) g;simpa using this)
 exact g
theorem je{o:gV (gV Int)}{c:gV Int}(h:c∈o):o.idxOf c<o.length/\o[o.idxOf c]?=B' c:=by
 have H:=VG.mpr h;exists H;rw[M4 H,Ym]
noncomputable abbrev Jg:OZ:=dN 44
structure K3 (mg:Str->MZ J'):Prop where
 enumerate:mg "enumerate"=M5
 dict:mg "dict"=M5
theorem Jh{A B:Hp->Prop}(h:A H):Jy c H λb a=>if b=MX then A a else B a:=by
 show(if MX=MX then A H else B H)
 exact aB h
inductive G0 (Q:St)(h:Hp)(D:M0)(es:Nat->Nh)(i:Nat)(a:St)(ys:gV V)(H:Hp):Prop
 |mk (v:MZ V)(h0:a=v::Q)(b:H D=B' (.lst ys))(c:Same h H)(d:dw H ((Os i).map es) ys)
theorem qk(q:St)(e:Nat->Nh)(E:k=M5::q)(p:c a=B' (.lst X))(l:c D=M5)(P:X.length<=9000)(u:∀i,i<X.length->aZ (e i))
  (w:∀i x,X[i]?=B' x->∀H R,Same c H->(∀v h,Same H h->RD h (e i) v->R v h)->T (B' x::q) H R)
  (z:∀y H,Same c H->H D=B' (.lst y)->dw H ((Os X.length).map e) y->Q (.ref D) H):iU (DL K a) D (fO 0) Jy T k c Q:=by
 have N:a≠D:=ai p l;refine c_ (K:=K) (a:=a) (xs:=X) (G0 q c D e) ⟨M5,E,aa,af l _,aw⟩ ?_ ?_ ?_
 ·rintro i r y m _ ⟨_,_,f,b,_⟩;exact⟨f,SqL.of<|b _ _ p⟩
 ·rintro i x r y m s ⟨G,rfl,f,b,g⟩;have W:i<X.length:=(M'.mp s).1;refine fu<|w i x s _ _ b λv I n B=>?_;have o:=bZ g;rw[MY,Ph]at o;have t:=n _ _ f;have A:∀d∈(Os<|i+1).map e,aZ d:=λd C=>by
   obtain⟨j,F,rfl⟩:=NV.mp C;exact u j (by have:=Pj.mp F;lia)
  refine⟨t,bH (by lia),_,rfl,aa,(b.trans n).upd_new l _,qg t A ?_⟩;rw[Rp,NI];exact om (bE n _ _ g)<|ak B aw
 rintro r y m ⟨_,_,f,b,g⟩;exact z y m b f g
inductive Cr (Q:St)(h:Hp)(D:M0)(ks:gV Int)(i:Nat)(a:St)(ys:gV V)(H:Hp):Prop
 |mk (v b:MZ V)(T:gV M0)(h0:a=v::b::Q)(c:H D=B' (.lst ys))(d:Same h H)(e:ys=T.map V.ref)(f:T.length=i)(g:∀(j:Nat) (t:M0) (k:Int),T[j]?=B' t->ks[j]?=B' k->H t=B' (.tup [.int k,.int (j:Int)]))
theorem kI{a b:Type}(d:a)(g:a->b)(l:gV a)(h:n=l.length):(Os n).map (λi=>g<|l.getD i d)=l.map g:=by
 subst h;refine RF λj=>?_;rw[Nu,Nu];by_cases H:j<l.length
 ·rw[Se H,M4 H];show B' (g<|l.getD j d)=B' (g l[j])
  rw[M1,M4 H];rfl
 rw[OP (by rw[Ph];lia),OP<|by lia];rfl
noncomputable def lN(n:gV Int):gV (bR×V):=(Os n.length).map λi=>((Oq (n.getD i 0):bR),V.int (i:Int))
theorem zg(n:gV Int):(lN n).map (·.1)=n.map (Oq:Int->bR):=by
 unfold lN;rw[Ot];exact kI 0 (Oq:Int->bR) n rfl
theorem Cs(a:k∈n):cR (lN n) (Oq k:bR)=B' (.int ((n.idxOf k:Nat):Int)):=by
 have g:∀(l:gV Int) (s:Nat),k∈l->cR ((Os l.length).map λi=>((Oq (l.getD i 0):bR),V.int ((s+i:Nat):Int))) (Oq k:bR)=B' (.int ((s+l.idxOf k:Nat):Int)):=by
  intro l
  induction l with
  |nil=>exact λ_ h=>nomatch h
  |cons x l I=>
   intro s m;rw[NC,List.range_succ_eq_map,NW,Ot];unfold cR;rw[Pk];by_cases e:x=k
   ·subst e;simp
   have E:decide ((Oq ((x::l).getD 0 0):bR)=Oq k)=false:=M6 λz=>e<|RJ z;have H:k∈l:=(Nz.mp m).resolve_left λz=>e z.symm;have:=I (s+1) H;simp only[E];unfold cR at this;rw[ZZ,show(x == k)=MW by simpa using e];have f:((λi=>((Oq ((x::l).getD i 0):bR),V.int ((s+i:Nat):Int)))∘Nat.succ)=λi=>((Oq (l.getD i 0):bR),V.int ((s+1+i:Nat):Int)):=by
    funext i
    show((Oq (l.getD i 0):bR),V.int ((s+(i+1):Nat):Int))=_
    rw[show s+(i+1)=s+1+i by lia]
   rw[f];rw[this];show B' (V.int ((s+1+l.idxOf k:Nat):Int))=B' (V.int ((s+(l.idxOf k+1):Nat):Int))
   rw[show s+1+l.idxOf k=s+(l.idxOf k+1) by lia]
 have:=g n 0 a;simp only[Qn]at this;exact this
noncomputable def fX(d:gV Nh)(n:gV Int):gV Nh:=n.map λp=>bV (λk=>((n.idxOf k:Nat):Int))<|d.getD p.toNat .none
noncomputable def bJ(o:gV (gV Int))(k:Int):Int:=(iA o).getD k.toNat 0
noncomputable def xo(d:gV Nh)(i:Nat):gV Int:=bD<|d.getD i .none
inductive K4 (vs:gV V)(H:Hp)(Q:VK):Prop
 |mk (p q pp L:M0)(t:Str)(hw:Nf)(xs s:gV V)(cs:gV (gV Int))(ds:gV Nh)(out:gV (gV Int))(h0:vs=[.ref p,.ref pp])(i:H p=B' (.tup [.str t,.ref q]))(j:t.length<=50)(k:H q=B' (.lst xs))(m:CLs H cs xs)(n:cs.length<=900)(o:(∀c∈cs,ap t.length c))(u:H pp=B' (.tup [.str<|ay hw,.ref L]))(v:H L=B' (.lst s))(w:dw H ds s)(a:ds.length<=3000)(b:(∀d∈ds,aZ d))(e:b0 t cs hw [] ds=(out,MX))(f:rc out=MX)
   (g:∀r l ys nd h,Same H h->H r=M5->H l=M5->h r=B' (.tup [.str<|ay hw,.ref l])->h l=B' (.lst ys)->dw h (fX (ds.map<|bV<|bJ out) nd) ys->R4 nd (bU (xo<|ds.map<|bV<|bJ out) (out.idxOf [])<|out.idxOf []+1)->QG (·<=·) nd->Q (.ref r) h):K4 vs H Q
def G_:Sp:=λv H Q _=>K4 v H Q
theorem Ha:al ["sentence","paper","sets","firsts","lines","needed","numbers"] ["sentence","paper"] (ah Jg):=d_
theorem Ji(F:Fun K "shortened_paper" "shortened_paper" Jg f fd)(T:K3 mg)(bc:Fe P w K mg B 7 "whole_sets" GR)(bd:Fe P w K mg B 1 "first_places" GY)(be:Fe P w K mg B 1 "renamed" Cn)(bf:Fe P w K mg B 2 "needed_by" GU)(bk:Fe P w K mg B 1 "renamed" Co):aP P w K mg B cr 8 f fd ["sentence","paper"] G_:=by
 have sc:=Ha;refine F.okA Ha λQu A bl s H vs Q E hr h=>?_;obtain⟨p,q,pp,la,t,hw,xs,ls,cs,D,o,rfl,hp,ht,hq,SI,h9,Qm,W,Y,Zt,h8,c,Uh,aC,q'⟩:=h;have hu:=hr.units;have bm:o.length=D.length:=by
  have:=fb Uh;simpa using this
 have ct:=bZ Zt;obtain⟨he,RI⟩:=Cg aC;refine⟨_,(ad (cM 2 sc.nd<|cE bc hr<|aV (pv 0)<|pv 1)
  (ad (eU (i:=3) sc.nd rfl (SE rfl)<|cE bd hr<|a9<|pv 2)
  (ad (eU (i:=4) sc.nd rfl (SE rfl)<|bj (N:=["line","firsts"]) (d:=[M5,B' 3]) rfl cS (bO<|a_ (pv 1) ae) (λ_ _ _ _=>(eu 0<|nD ["line","firsts"])) (λ_ _ _ _=>dO) λ_ _ _ _=>(cE be hr<|aV (pv 0)<|pv 1))
  (ad (cM 5 sc.nd<|cE bf hr<|aV (pv 4)<|eS NJ Tn VW (pZ hu) (pv 2)<|a9<|aU bz)
  (ad (eU (i:=6) sc.nd rfl (SE rfl)<|bB (uR rfl) rfl T.dict aci<|a9<|bj (N:=["number","place"]) (d:=[M5,M5]) rfl cS (qM rfl T.enumerate<|pv 5) (λ_ _ _ _=>(wB (K:=K) (n:=2) rfl rfl<|cb (eu 0<|nD ["number","place"])<|cb (eu 1<|nD ["number","place"]) gg)) (λ_ _ _ _=>dO) λ_ _ _ _=>(aU<|aV (pv 1)<|pv 0))
  (bN<|aU<|aV (a_ (pv 1) ae)<|bj (N:=["place","numbers","lines"]) (d:=[M5,B' 6,B' 4]) rfl cS (bO<|pv 5) (λ_ _ _ _=>(eu 0<|nD ["place","numbers","lines"])) (λ_ _ _ _=>dO) λ_ _ _ _=>(cE bk hr<|aV (KH (K:=K) (pv 2)<|pv 0)<|pv 1))))))),?_⟩
 refine⟨_,rfl,_,rfl,p,q,pp,la,t,hw,xs,ls,cs,D,o,rfl,hp,ht,hq,SI,h9,Qm,W,Y,Zt,by lia,(λd l=>(mq<|c d l).1),Uh,aC,λsl ys H1 k1 cv Zs UN=>?_⟩;have cz:=UN.length;refine⟨_,rfl,sl,ys,o,rfl,Zs,UN,by lia,λfl H2 k2 c0 br=>?_⟩;have C:=k1.trans k2;have c1:(iA o).length=D.length:=by unfold iA;rw[MY,bm]
 have aF:∀(i:Nat) (d:Nh),D[i]?=B' d->∀k∈bD d,0<=k/\k<(i:Int):=λi d l k L=>by
  have bs:=uS Uh l;have:=tI (c _<|Nc l) bs k L;rw[NO]at this;lia
 refine⟨_,rfl,(bM (C _ _ W) rfl ⟨la,rfl,⟨_,SqL.of<|C _ _ Y⟩,λD1 bt=>?_⟩)⟩;refine qk [B'<|.ref fl] (λi=>bV (bJ o)<|D.getD i .none) rfl (C _ _ Y) bt (by lia) (λi hi=>jP<|c _<|Nc<|getD_some (d:=PL) (show i<D.length by lia)) (λi x y H' R k r=>?_) λl1 H3 k3 a0 VI=>?_
 ·have WQ:i<D.length:=by have:=(M'.mp y).1;lia
  have l:=getD_some (d:=PL) WQ;have rx:=eE (bE (C.trans k) _ _ Zt) y;exact⟨_,rfl,_,rfl,x,fl,D.getD i .none,iA o,rfl,rx,c _<|Nc l,k _ _ br,(λz hz=>by have:=aF i _ l z hz;lia),r⟩
 rw[kI PL (bV<|bJ o) D<|by lia]at VI;have g1:∀d∈D.map (bV<|bJ o),aZ d:=λd l=>by
  obtain⟨d',h',rfl⟩:=NV.mp l;exact jP<|c d' h'
 have b1:([]:gV Int)∈o:=Nc RI;obtain⟨a1,b2⟩:=je b1;have b3:=C.trans k3;have Z:=k2.trans k3;refine⟨_,rfl,_,rfl,.inl ⟨rfl,_,SqL.of<|Z _ _ Zs⟩,NA _,λet b4=>?_⟩;have k4:=af b4<|.tup [];have s4:upd H3 et (.tup []) et=B' (.tup []):=aa;generalize upd H3 et (.tup [])=H4 at k4 s4 ⊢;have eG:∀j,j<o.length->(o.map iS).getD j .none=iS (o.getD j []):=λj I=>by
  rw[M1,M1,Nu,M4 I];rfl
 refine⟨.tuple [],o.map iS,_,sl,ys,o.idxOf [],rfl,rfl,(Z.trans k4) _ _ Zs,(UN.mono<|Z.trans k4).rds,aX s4 aw,by decide+kernel,ja o,by decide+kernel,by rw[MY];exact a1,?_,λm hm=>?_,?_⟩
 ·rw[eG _ a1,jb,M1,b2];rfl
 ·rw[eG _ (by lia),jb];refine M6 λz=>?_;have b5:o[m]?=B' []:=by rw[M1,M4<|by lia]at z;rw[M4<|by lia];exact Oe B' z
  have:=vn b5;lia
 refine⟨D1,l1,D.map<|bV<|bJ o,o.idxOf [],rfl,k4 _ _ a0,bE k4 _ _ VI,g1,by rw[MY];lia,by rw[MY];lia,λnl N H5 k5 c2 M a2 b6=>?_⟩;have u:R4 N (bU (xo<|D.map<|bV<|bJ o) (o.idxOf [])<|o.idxOf []+1):=a2;clear a2;have a3:∀i,i<=o.idxOf []->∀k∈xo (D.map<|bV<|bJ o) i,0<=k/\k<(i:Int):=λi hi k L=>by
  have l:=getD_some (d:=PL) (show i<D.length by lia);have e1:(D.map<|bV<|bJ o).getD i .none=bV (bJ o) (D.getD i .none):=by rw[M1,Nu,l];rfl
  have X:k∈bD ((D.map<|bV<|bJ o).getD i .none):=L;rw[e1,qh<|c _<|Nc l]at X;obtain⟨k0,b7,rfl⟩:=NV.mp X;have c3:=aF i _ l k0 b7;obtain⟨n0,rfl⟩:∃n:Nat,k0=(n:Int):=⟨k0.toNat,by lia⟩;have ab:n0<o.length:=by lia
  have ef:bJ o (n0:Int)=((o.idxOf (o[n0]'ab):Nat):Int):=by
   unfold bJ iA;rw[Od,M1,Nu,M4 ab];rfl
  have:=vn<|M4 ab;rw[ef];lia
 have ac:∀x∈N,0<=x/\x<=((o.idxOf []:Nat):Int):=λx y=>gr a3<|u.mem_iff.mp y;have b8:N.Nodup:=u.nodup_iff.mpr<|gn _;have a4:N.length<=9000:=by
  have:=iM (n:=xo<|D.map<|bV<|bJ o) (l:=o.idxOf []) (λi=>iN _)<|o.idxOf []+1;rw[u.length_eq];lia
 have b9:∀x∈N,∀k∈bD ((D.map<|bV<|bJ o).getD x.toNat .none),k∈N:=λx y k L=>by
  have Y3:=u.mem_iff.mp y;have c4:=ac x y;obtain⟨n,rfl⟩:∃n:Nat,x=(n:Int):=⟨x.toNat,by lia⟩;rw[Od]at L;exact u.mem_iff.mpr<|jQ a3 Y3 k L
 have an:=k4.trans k5;have ca:=b3.trans an;refine⟨_,rfl,nl,rfl,⟨_,SqL.of M⟩,λD2 a5=>?_⟩;refine yV (K:=K) (a:=nl) (X:=N.map V.int) (Cr [] H5 D2 N) ⟨M5,M5,[],rfl,aa,af a5 _,rfl,rfl,λj t k h _=>by simp at h⟩ ?_ ?_ ?_
 ·rintro i σ zs G _ ⟨_,_,_,_,i1,i2,_⟩;exact⟨i1,SqL.of<|i2 _ _ M⟩
 ·rintro i x σ zs G t0 y ⟨v0,v1,ts,rfl,i1,i2,rfl,i4,i5⟩ cc;obtain⟨k,rfl,L⟩:=eF y;have WQ:=(M'.mp L).1;have k6:=af cc<|.tup [.int (i:Nat),.int k];have s6:upd G t0 (.tup [.int (i:Nat),.int k]) t0=B' (.tup [.int (i:Nat),.int k]):=aa;generalize upd G t0 (.tup [.int (i:Nat),.int k])=G6 at k6 s6 ⊢;refine⟨t0,[.int (i:Nat),.int k],rfl,SqT.of s6,rfl,_,_,rfl,_,_,rfl,rfl,Jh ⟨_,rfl,_,rfl,(by show 2<=sizeLine;decide),λtt cd=>?_⟩⟩;have k7:=af cd<|.tup [.int k,.int (i:Nat)];have d7:=(k6.trans k7) _ _ i1;refine⟨d7,bH (by rw[MY];lia),_,_,ts++[tt],rfl,?_,(i2.trans<|k6.trans k7).upd_new a5 _,?_,by rw[M7,i4];rfl,λj t' k' I X=>?_⟩
  ·rw[aa]
  ·rw[NI];rfl
  have U:∀{b:M0} {zs:gV V},upd G6 tt (.tup [.int k,.int (i:Nat)]) b=B' (.tup zs)->upd (upd G6 tt<|.tup [.int k,.int (i:Nat)]) D2 (.lst<|ts.map V.ref++[.ref tt]) b=B' (.tup zs):=λe=>by
   rw[aj λz=>by rw[z,d7]at e;cases e];exact e
  obtain g|g:=Pz j ts.length
  ·rw[N3 g]at I;exact U<|(k6.trans k7) _ _<|i5 j t' k' I X
  rw[N7 g]at I;have cf:j=i:=by
   have:=(M'.mp I).1;rw[NG]at this;lia
  subst cf;rw[i4,P1]at I;cases I;rw[L]at X;cases X;exact U aa
 rintro σ zs G ⟨v0,v1,ts,rfl,i1,i2,rfl,i4,i5⟩;rw[MY]at i4;refine⟨D2,ts,lN N,rfl,i1,?_,λj t' kv I as=>?_,?_,?_,λdn ch=>?_⟩
 ·unfold lN;rw[MY,Ph,i4]
 ·have c5:=(M'.mp I).1;unfold lN at as;rw[Nu,Se<|by lia]at as;cases as;exact i5 j t' _ I (getD_some (d:=(0:Int))<|by lia)
 ·rw[zg];exact ad7 _ (λa b h z=>h<|RJ z) b8
 ·unfold lN;rw[MY,Ph];exact a4
 have k8:=af ch<|.dK<|lN N;have s8:upd G dn (.dK<|lN N) dn=B' (.dK<|lN N):=aa;generalize upd G dn (.dK<|lN N)=G8 at k8 s8 ⊢;have J:=i2.trans k8;have O:=ca.trans J;refine⟨_,rfl,(bM (O _ _ W) rfl ⟨_,rfl,nl,rfl,⟨_,SqL.of<|J _ _ M⟩,λD3 a6=>?_⟩)⟩;refine qk [B'<|.ref dn,B'<|.ref D1] (λi=>bV (λk=>((N.idxOf k:Nat):Int))<|(D.map<|bV<|bJ o).getD (N.getD i 0).toNat .none) rfl (J _ _ M) a6 (by rw[MY];exact a4) (λi hi=>?_) (λi x y H' R k r=>?_) λl3 H9 k9 cl a7=>?_
 ·rw[MY]at hi;have y:=ac _<|Nc<|getD_some (d:=(0:Int)) hi;exact jP (g1 _<|Nc<|getD_some (d:=PL)<|by rw[MY];lia)
 ·obtain⟨z,rfl,hz⟩:=eF y;have co:N.getD i 0=z:=by rw[M1,hz];rfl
  rw[co]at r;have ba:=Nc hz;have c6:=ac z ba;obtain⟨n,rfl⟩:∃n:Nat,z=(n:Int):=⟨z.toNat,by lia⟩;rw[Od]at r;have hn:n<(D.map<|bV<|bJ o).length:=by rw[MY];lia
  have bb:=bE (an.trans<|J.trans k) _ _ VI;have c8:=bZ bb;obtain⟨v,hv⟩:∃v,l1[n]?=B' v:=⟨_,M4 (by lia)⟩;have rv:=eE bb hv;have VJ:=b9 _ ba;rw[Od]at VJ;exact⟨_,rfl,_,rfl,(iw ((an.trans (J.trans k)) _ _ a0) (bi hv) ⟨_,rfl,v,dn,(D.map (bV (bJ o))).getD n .none,lN N,λk=>((N.idxOf k:Nat):Int),rfl,rv,g1 _ (Nc (getD_some (d:=PL) hn)),k _ _ s8,(λk' X=>Cs (VJ k' X)),r⟩)⟩
 refine⟨(by show 2<=sizeLine;decide),λr nr=>?_⟩;have az:=af nr<|.tup [.str<|ay hw,.ref D3];rw[MY,kI (0:Int) (λp=>bV (λk=>((N.idxOf k:Nat):Int))<|(D.map<|bV<|bJ o).getD p.toNat .none) N rfl]at a7;exact q' r D3 l3 N _ (O.trans<|k9.trans az) ((O.trans k9).free nr) (O.free a6) aa (az _ _ cl) (bE az _ _ a7) u b6
theorem g8(t:Str)(c:gV (gV Int))(h:Nf)(s:gV (gV Int))(k:Int):aG t c h s (.tuple [.str aO,.int k])=if h=MX then M5 else fV c (.int k):=by
 unfold aG;have f:bT aO 2 (.tuple [.str aO,.int k])=true:=by
  show(decide (2=2)&&decide (aO=aO))=MX
  simp
 have F:bT bx 2 (.tuple [.str aO,.int k])=false:=by
  show(decide (2=2)&&decide (aO=bx))=MW
  decide+kernel
 have a:bT aW 4 (.tuple [.str aO,.int k])=false:=rfl;have b:bT aJ 2 (.tuple [.str aO,.int k])=false:=by
  show(decide (2=2)&&decide (aO=aJ))=MW
  decide+kernel
 rw[f,F,a,b];cases h<;>rfl
theorem kJ(t:Str)(C:gV (gV Int))(h:Nf)(s:gV (gV Int))(c:gV Int):aG t C h s (.tuple [.str bx,iS c])=if h=MX then gj t.length C (iS c)else none:=by
 unfold aG;have f:bT aO 2 (.tuple [.str bx,iS c])=false:=by
  show(decide (2=2)&&decide (bx=aO))=MW
  decide+kernel
 have F:bT bx 2 (.tuple [.str bx,iS c])=true:=by
  show(decide (2=2)&&decide (bx=bx))=MX
  simp
 have a:bT aW 4 (.tuple [.str bx,iS c])=false:=rfl;have b:bT aJ 2 (.tuple [.str bx,iS c])=false:=by
  show(decide (2=2)&&decide (bx=aJ))=MW
  decide+kernel
 rw[f,F,a,b];cases h<;>rfl
theorem iO(t:Str)(c:gV (gV Int))(h:Nf)(s:gV (gV Int))(i j z:Int):aG t c h s (.tuple [.str aW,.int i,.int j,.int z])=dC t h s (.int i) (.int j) (.int z):=by
 unfold aG;have f:bT aO 2 (.tuple [.str aW,.int i,.int j,.int z])=false:=rfl;have F:bT bx 2 (.tuple [.str aW,.int i,.int j,.int z])=false:=rfl;have a:bT aW 4 (.tuple [.str aW,.int i,.int j,.int z])=true:=by
  show(decide (4=4)&&decide (aW=aW))=MX
  simp
 rw[f,F,a];cases h<;>rfl
theorem gQ{n:Nat}{k:Int}(h:0<=k/\k<(n:Int)):aS n (.int k)=B' k.toNat:=by
 show(if 0<=k/\k<(n:Int)then B' k.toNat else M5)=_
 rw[Nt h]
theorem mw:dC t w s (.int i) (.int j) (.int z)=B' c↔(0<=i/\i<(s.length:Int))/\(0<=j/\j<(s.length:Int))/\dL t w (s.getD i.toNat []) (s.getD j.toNat []) z=MX/\bI (s.getD i.toNat []) (s.getD j.toNat []) z=c:=by
 unfold dC;by_cases H:0<=i/\i<(s.length:Int)
 ·by_cases a:0<=j/\j<(s.length:Int)
  ·rw[gQ H,gQ a];show(if dL t w (s.getD i.toNat []) (s.getD j.toNat []) z=MX then B' (bI (s.getD i.toNat []) (s.getD j.toNat []) z)else M5)=B' c↔_
   constructor
   ·intro h
    split at h
    ·rename_i b;exact⟨H,a,b,Nw h⟩
    cases h
   rintro⟨_,_,b,e⟩;rw[Nt b,e]
  have:aS s.length (.int j)=none:=Np a;rw[gQ H,this];exact⟨λh=>(nomatch h),λh=>absurd h.2.1 a⟩
 have:aS s.length (.int i)=none:=Np H;rw[this];exact⟨λh=>(nomatch h),λh=>absurd h.1 H⟩
theorem oz:fA t w s (.int k)=B' c↔(0<=k/\k<(s.length:Int))/\aL t w (s.getD k.toNat [])=c:=by
 unfold fA;by_cases H:0<=k/\k<(s.length:Int)
 ·rw[gQ H];exact⟨λh=>⟨H,Nw h⟩,λh=>Oe B' h.2⟩
 have:aS s.length (.int k)=none:=Np H;rw[this];exact⟨λh=>(nomatch h),λh=>absurd h.1 H⟩
theorem Ct{A:gV (gV Int)}{f:Int->Int}(g:aZ d)(h:aG t C w s d=B' c)
  (H:∀k∈bD d,(0<=f k/\f k<(A.length:Int))/\A.getD (f k).toNat []=s.getD k.toNat []):aG t C w A (bV f d)=B' c:=by
 obtain⟨k,rfl⟩|⟨n,o,rfl⟩|⟨k,rfl⟩|⟨i,j,z,rfl⟩:=g
 ·rw[d8,g8];rw[g8]at h;exact h
 ·rw[oo,kJ];rw[kJ]at h;exact h
 ·rw[fB,ku,oz];rw[ku,oz]at h;obtain⟨a,b⟩:=H k (by rw[dW];exact Nd.mpr rfl);exact⟨a,by rw[b];exact h.2⟩
 rw[fC,iO,mw];rw[iO,mw]at h;obtain⟨e,B⟩:=H i (by rw[dm];exact Nl);obtain⟨l,m⟩:=H j (by rw[dm];exact Nk _<|Nd.mpr rfl);rw[B,m];exact⟨e,l,h.2.2.1,h.2.2.2⟩
theorem FP(h:aZ d):bV f (bV g d)=bV (λk=>f<|g k) d:=by
 obtain⟨k,rfl⟩|⟨c,H,rfl⟩|⟨k,rfl⟩|⟨i,j,z,rfl⟩:=h
 ·rw[d8,d8,d8]
 ·rfl
 ·rw[fB,fB,fB]
 rw[fC,fC,fC]
theorem jf(h:0<=k/\k<(o.length:Int)):bJ o k=((o.idxOf (o.getD k.toNat []):Nat):Int)/\o.getD (bJ o k).toNat []=o.getD k.toNat []/\0<=bJ o k/\bJ o k<=k:=by
 obtain⟨n,rfl⟩:∃n:Nat,k=(n:Int):=⟨k.toNat,by lia⟩;rw[Od];have a:n<o.length:=by lia
 have H:=getD_some (d:=([]:gV Int)) a;have e:bJ o (n:Int)=((o.idxOf (o.getD n []):Nat):Int):=by
  unfold bJ iA;rw[Od,M1,Nu,H];rfl
 have m:o.getD n []∈o:=Nc H;obtain⟨c,b⟩:=je m;have d:=vn H;refine⟨e,?_,by lia,by lia⟩;rw[e,Od,M1,b];rfl
theorem oA(U:b0 t c w [] D=(o,MX))(H:∀d∈D,aZ d){i:Nat}{d:Nh}(h:D[i]?=B' d):∀k∈bD d,0<=k/\k<(i:Int):=λk a=>by
 have:=tI (H _<|Nc h) (uS U h) k a;rw[NO]at this;lia
theorem Cu{D:gV Nh}{o:gV (gV Int)}(H:∀d∈D,aZ d)(h:D[i]?=B' d):xo (D.map<|bV<|bJ o) i=(bD d).map (bJ o):=by
 unfold xo;rw[M1,Nu,h];exact qh<|H _<|Nc h
theorem Jj(U:b0 t C w [] D=(o,MX))(h:∀d∈D,aZ d)(j:l<D.length):∀i,i<=l->∀k∈xo (D.map<|bV<|bJ o) i,0<=k/\k<(i:Int):=λi m k H=>by
 have c:=getD_some (d:=PL) (show i<D.length by lia);have f:o.length=D.length:=by
  have:=fb U;simpa using this
 rw[Cu h c]at H;obtain⟨e,g,rfl⟩:=NV.mp H;have r:=oA U h c e g;obtain⟨_,_,a,b⟩:=jf (o:=o) (k:=e) (by lia);lia
structure FQ (t:Str)(cs:gV (gV Int))(hw:Nf)(ds:gV Nh)(out:gV (gV Int))(nd:gV Int):Prop where
 run:b0 t cs hw [] (fX (ds.map<|bV<|bJ out) nd)=(nd.map λp=>out.getD p.toNat [],MX)
 good:∀d∈fX (ds.map<|bV<|bJ out) nd,aZ d
 few:nd.length<=ds.length
 last:nd.getLast?=B' ((out.idxOf []:Nat):Int)
 nodup:(nd.map λp=>out.getD p.toNat []).Nodup
theorem Hc{N:gV Int}(h:N.Pairwise (·<=·))(n:N.Nodup){i j:Nat}{x y:Int}(a:N[i]?=B' x) (H:N[j]?=B' y) (Q:x<y):i<j:=by
 obtain g|g|g:=PM i j
 ·exact g
 ·subst g;rw[a]at H;cases H;lia
 have:=PF.mp h j i (M'.mp H).1 (M'.mp a).1 g;rw[(M'.mp H).2,(M'.mp a).2]at this;lia
theorem qm:∀{N:gV Int} {b n:Int},N.Pairwise (·<=·)->N.Nodup->(∀x∈N,b<=x/\x<n)->(N.length:Int)<=max 0 (n-b)
 |[],b,n,_,_,_=>by simp;lia
 |x::r,b,n,h,u,a=>by
  rw[Oi]at h;rw[O9]at u;have:=qm (b:=x+1) (n:=n) h.2 u.2 λy H=>by
   have c:=h.1 y H;have d:=a y<|Nk _ H;have:x≠y:=λe=>u.1<|e▸H;lia
  have f:=a x Nl;rw[NC];lia
theorem FR(u:b0 t C w [] D=(o,MX))(c:∀d∈D,aZ d)(hm:[]∈o)(m:R4 N (bU (xo<|D.map<|bV<|bJ o) (o.idxOf [])<|o.idxOf []+1))(B:N.Pairwise (·<=·)):FQ t C w D o N:=by
 have ab:o.length=D.length:=by
  have:=fb u;simpa using this
 obtain⟨hE,E⟩:=je hm;have A:=Jj u c (show o.idxOf []<D.length by lia);have U:∀x∈N,0<=x/\x<=((o.idxOf []:Nat):Int):=λx H=>gr A<|m.mem_iff.mp H;have b:N.Nodup:=m.nodup_iff.mpr<|gn _;have F:∀x∈N,∀k∈xo (D.map<|bV<|bJ o) x.toNat,k∈N:=λx H k f=>by
  have Y3:=m.mem_iff.mp H;have:=U x H;obtain⟨n,rfl⟩:∃n:Nat,x=(n:Int):=⟨x.toNat,by lia⟩;rw[Od]at f;exact m.mem_iff.mpr<|jQ A Y3 k f
 have q:∀x∈N,bJ o x=x:=λx H=>by
  have G:∀(j:Nat) (x:Int),x∈bU (xo<|D.map<|bV<|bJ o) (o.idxOf []) j->x=(o.idxOf []:Nat)\/∃k,0<=k/\k<(o.length:Int)/\x=bJ o k:=by
   intro j
   induction j with
   |zero=>exact λx h=>.inl<|Nd.mp h
   |succ j I=>
    intro x h;obtain z|⟨_,z⟩:=eY.mp h
    ·exact I x z
    have a:=getD_some (d:=PL) (show o.idxOf []-j<D.length by lia);rw[Cu c a]at z;obtain⟨k0,L,rfl⟩:=NV.mp z;have hr:=oA u c a k0 L;exact .inr ⟨k0,by lia,by lia,rfl⟩
  have M:∀k:Int,0<=k/\k<(o.length:Int)->bJ o (bJ o k)=bJ o k:=λk f=>by
   obtain⟨O,e2,e3,e4⟩:=jf f;obtain⟨P,_,_,_⟩:=jf (o:=o) (k:=bJ o k) (by lia);rw[P,e2,<-O]
  obtain z|⟨k,L,h1,z⟩:=G _ x (m.mem_iff.mp H)
  ·obtain⟨P,_,_,_⟩:=jf (o:=o) (k:=x) (by lia);rw[P,z,Od,M1,E];rfl
  rw[z];exact M k ⟨L,h1⟩
 have J:∀(i:Nat) (x:Int),N[i]?=B' x->(fX (D.map<|bV<|bJ o) N)[i]?=B' (bV (λk=>((N.idxOf (bJ o k):Nat):Int))<|D.getD x.toNat .none):=λi x H=>by
  have r:=U x<|Nc H;have a:=getD_some (d:=PL) (show x.toNat<D.length by lia);unfold fX;rw[Nu,H];show B' (bV _<|(D.map<|bV<|bJ o).getD x.toNat .none)=_
  have O:(D.map<|bV<|bJ o).getD x.toNat .none=bV (bJ o) (D.getD x.toNat .none):=by rw[M1,Nu,a];rfl
  rw[O,FP<|c _<|Nc a]
 have Pd:(fX (D.map<|bV<|bJ o) N).length=N.length:=by unfold fX;rw[MY]
 refine⟨?_,?_,?_,?_,?_⟩
 ·have G:∀i,i<=N.length->b0 t C w [] ((fX (D.map<|bV<|bJ o) N).take i)=((N.take i).map λp=>o.getD p.toNat [],MX):=by
   intro i
   induction i with
   |zero=>exact λ_=>rfl
   |succ i I=>
    intro l;have H:=getD_some (d:=(0:Int)) (show i<N.length by lia);generalize N.getD i 0=x at H;have s:=Nc H;have r:=U x s;have a:=getD_some (d:=PL) (show x.toNat<D.length by lia);have Q:=c _<|Nc a;have W:=uS u a;have hl:aG t C w ((N.take i).map λp=>o.getD p.toNat []) (bV (λk=>((N.idxOf (bJ o k):Nat):Int))<|D.getD x.toNat .none)=B' (o.getD x.toNat []):=by
     refine Ct Q W λk f=>?_;have ac:=oA u c a k f;obtain⟨_,f2,f3,f4⟩:=jf (o:=o) (k:=k) (by lia);have T:bJ o k∈N:=F x s _ (by rw[Cu c a];exact Pp f);have hj:=VG.mpr T;have v:N[N.idxOf (bJ o k)]?=B' (bJ o k):=by rw[M4 hj,Ym]
     have X:=Hc B b v H (by lia);rw[Od,MY,NO];refine⟨by lia,?_⟩;rw[M1,Nu,Qq X,v];show o.getD (bJ o k).toNat []=_
     rw[f2,M1,M1,Qq<|by lia]
    rw[run_next (I<|by lia) (J i x H) hl,Oc,H];show _=(((N.take i++[x]).map λp=>o.getD p.toNat []),MX)
    rw[NI];rfl
  have:=G N.length<|Na _;rw[Nn<|S5 Pd,Nn<|Na _]at this;exact this
 ·intro d a;obtain⟨i,l⟩:=OW.mp a;have WQ:i<N.length:=by
   have:=(M'.mp l).1;lia
  have H:=getD_some (d:=(0:Int)) WQ;have r:=U _<|Nc H;have Y:=getD_some (d:=PL) (show(N.getD i 0).toNat<D.length by lia);rw[J i _ H]at l;cases l;exact jP<|c _<|Nc Y
 ·have:=qm (b:=0) (n:=(D.length:Int)) B b λx H=>by
   have:=U x H;lia
  lia
 ·have Z:((o.idxOf []:Nat):Int)∈N:=m.mem_iff.mpr<|vm _;obtain⟨i,l⟩:=OW.mp Z;have WQ:=(M'.mp l).1;have H:=getD_some (d:=(0:Int)) (show N.length-1<N.length by lia);have r:=U _<|Nc H;rw[QP,H];by_cases g:N.getD (N.length-1) 0<((o.idxOf []:Nat):Int)
  ·have:=Hc B b H l g;lia
  congr 1
  lia
 refine Om.mpr<|b.imp_of_mem λ{x y} H hy Tf e=>Tf ?_;have ex:=q x H;have ey:=q y hy;have r:=U x H;have an:=U y hy;obtain⟨a1,_⟩:=jf (o:=o) (k:=x) (by lia);obtain⟨a2,_⟩:=jf (o:=o) (k:=y) (by lia);rw[ex]at a1;rw[ey]at a2;rw[a1,a2,e]
structure SS where
 lw:Nf->gV Nh
 ow:Nf->gV (gV Int)
 bs:gV Nf
 fs:gV (MZ<|gV Int)
 win:MZ Nf
noncomputable def cY{a:Type}(F:Nf->gV a)(b:Nf)(x:a):Nf->gV a:=λc=>if c=b then F c++[x]else F c
theorem bA{a:Type}(F:Nf->gV a)(b:Nf)(x:a):cY F b x b=F b++[x]:=Nt rfl
theorem cK{a:Type}(F:Nf->gV a)(x:a)(h:c≠b):cY F b x c=F c:=Np h
noncomputable def dX(h:Nf)(d:Nh)(c:gV Int)(S:SS):SS:=if c∈S.ow h then S else{S with lw:=cY S.lw h d,ow:=cY S.ow h c}
noncomputable def oC(k:Nat):Nh:=.tuple [.str aJ,.int (k:Int)]
noncomputable def bq(t:Str)(h:Nf)(d:Nh)(c:gV Int)(S:SS):SS:=dX h (oC<|((dX h d c S).ow h).idxOf c) (aL t h c)<|dX h d c S
noncomputable def qo(i j:Nat)(v:Int):Nh:=.tuple [.str aW,.int (i:Int),.int (j:Int),.int v]
noncomputable def cL(O:gV (gV Int))(f s:gV Int)(v:Int):Nh:=if f.contains (-v)=MX then qo (O.idxOf s) (O.idxOf f) v else qo (O.idxOf f) (O.idxOf s) v
noncomputable def eT(b:Nf)(o:MZ (gV Int))(S:SS):SS:={S with bs:=S.bs++[b],fs:=S.fs++[o]}
noncomputable def ck(S:SS):SS:={S with bs:=S.bs.dropLast,fs:=S.fs.dropLast}
noncomputable def d9(t:Str)(h:Nf):Nat->gV Int->SS->SS
 |0,_,S=>{S with win:=B' h}
 |k+1,c,S=>if(c.contains ((k:Int)+1) || c.contains (-((k:Int)+1)))=MX then
   match S.fs.getD k M5 with
   |none=>eT (!S.bs.getD k MW) (B' c)<|ck S
   |some F=>d9 t h k (aL t h<|bI F c<|(k:Int)+1) (bq t h (cL (S.ow h) F c<|(k:Int)+1) (bI F c<|(k:Int)+1)<|ck S)
  else d9 t h k c (ck S)
def zh(h:Nf)(b:gV Nf)(c:gV Int):Prop:=∀l∈c,bW h b l=MX
noncomputable def eh:Nat->gV Nf->Nat
 |_,[]=>0
 |n,b::r=>(if b=MX then 2^n else 1)+eh (n-1) r
noncomputable def pend(f:gV (MZ<|gV Int)):Nat:=(f.filter Option.isSome).length
noncomputable def bK(S:SS):Nat:=(S.lw MX).length+(S.lw MW).length
def Cv(t:Str)(S:SS)(k:Nat):Prop:=match S.fs.getD k M5 with
 |none=>S.bs.getD k MW=MW
 |some F=>S.bs.getD k MW=MX/\F∈S.ow (!cj t k)/\zh (!cj t k) (S.bs.take k++[MW]) F/\((k:Int)+1∈F\/ -((k:Int)+1)∈F)
structure gR (t:Str)(cs:gV (gV Int))(S:SS):Prop where
 run:∀hw,b0 t cs hw [] (S.lw hw)=(S.ow hw,MX)
 good:∀hw,∀d∈S.lw hw,aZ d
 nd:∀hw,(S.ow hw).Nodup
 flen:S.fs.length=S.bs.length
 blen:S.bs.length<=t.length
 fst:∀k,k<S.bs.length->Cv t S k
def Jk(S:SS):Prop:=∀h,([]:gV Int)∉S.ow h
theorem zi(h:b0 t C H [] D=(o,MX))(g:aG t C H o d=B' c):b0 t C H [] (D++[d])=(o++[c],MX):=by
 rw[kr h,g]
section
variable {S:SS}
theorem jg(h:c∈S.ow H):dX H d c S=S:=Nt h
theorem fk(h:c∉S.ow H):dX H d c S={S with lw:=cY S.lw H d,ow:=cY S.ow H c}:=Np h
theorem hI:(dX h d c S).bs=S.bs:=by
 unfold dX
 split<;>rfl
theorem hQ:(dX h d c S).fs=S.fs:=by
 unfold dX
 split<;>rfl
theorem hF:(dX h d c S).win=S.win:=by
 unfold dX
 split<;>rfl
theorem FS(H:x∈S.ow h):x∈(dX w d c S).ow h:=by
 by_cases g:c∈S.ow w
 ·rw[jg g];exact H
 rw[fk g];show x∈cY S.ow w c h
 by_cases e:h=w
 ·subst e;rw[bA];exact Pw _ H
 rw[cK _ _ e];exact H
theorem mx:c∈(dX h d c S).ow h:=by
 by_cases g:c∈S.ow h
 ·rw[jg g];exact g
 rw[fk g];show c∈cY S.ow h c h
 rw[bA];exact Oo _<|Nd.mpr rfl
theorem oE(a:x∈(dX w d c S).ow h):x∈S.ow h\/(h=w/\x=c):=by
 by_cases g:c∈S.ow w
 ·rw[jg g]at a;exact .inl a
 rw[fk g]at a;have H:x∈cY S.ow w c h:=a;by_cases e:h=w
 ·subst e;rw[bA]at H;obtain z|z:=NB.mp H
  ·exact .inl z
  exact .inr ⟨rfl,Nd.mp z⟩
 rw[cK _ _ e]at H;exact .inl H
theorem tJ(h:c∉S.ow H):((dX H d c S).ow H).getLast?=B' c:=by
 rw[fk h];show(cY S.ow H c H).getLast?=_
 rw[bA,List.getLast?_append];rfl
theorem kK:bK (dX h d c S)<=bK S+1:=by
 by_cases g:c∈S.ow h
 ·rw[jg g];lia
 rw[fk g];show(cY S.lw h d MX).length+(cY S.lw h d MW).length<=_
 unfold bK;cases h
 ·rw[bA,cK _ _ (by decide),M7,NG];lia
 rw[bA,cK _ _ (by decide),M7,NG];lia
theorem Jl(H:S'.bs=S.bs)(f:S'.fs=S.fs)(s:∀h x,x∈S.ow h->x∈S'.ow h)(h:Cv t S k):Cv t S' k:=by
 unfold Cv at h ⊢;rw[H,f];cases e:S.fs.getD k M5 with
 |none=>rw[e]at h;exact h
 |some F=>rw[e]at h;exact⟨h.1,s _ _ h.2.1,h.2.2⟩
theorem xp(I:gR t C S)(l:aG t C H (S.ow H) d=B' c)(f:aZ d):gR t C (dX H d c S):=by
 by_cases g:c∈S.ow H
 ·rw[jg g];exact I
 have sub:=λh x (b:x∈S.ow h)=>FS (w:=H) (d:=d) (c:=c) b;rw[fk g]at sub ⊢;refine⟨λh=>?_,λh D i=>?_,λh=>?_,I.flen,I.blen,λk j=>Jl (S:=S) (S':={S with lw:=cY S.lw H d,ow:=cY S.ow H c}) rfl rfl sub<|I.fst k j⟩
 ·show b0 t C h [] (cY S.lw H d h)=(cY S.ow H c h,MX)
  by_cases e:h=H
  ·subst e;rw[bA,bA];exact zi (I.run h) l
  rw[cK _ _ e,cK _ _ e];exact I.run h
 ·have a:D∈cY S.lw H d h:=i;by_cases e:h=H
  ·subst e;rw[bA]at a;obtain z|z:=NB.mp a
   ·exact I.good h D z
   rw[Nd.mp z];exact f
  rw[cK _ _ e]at a;exact I.good h D a
 show(cY S.ow H c h).Nodup
 by_cases e:h=H
 ·subst e;rw[bA,Pg];exact⟨I.nd h,by simp,λx b y m z=>g<|by rw[Nd.mp m]at z;exact z▸b⟩
 rw[cK _ _ e];exact I.nd h
theorem qp(k:Nat):aZ (oC k):=.inr<|.inr<|.inl ⟨_,rfl⟩
theorem iP(i j:Nat)(v:Int):aZ (qo i j v):=.inr<|.inr<|.inr ⟨_,_,_,rfl⟩
theorem zj(h:c∈O):aG t C H O (oC<|O.idxOf c)=B' (aL t H c):=by
 obtain⟨b,a⟩:=je h;unfold oC;rw[ku,oz];refine⟨by lia,?_⟩;rw[Od,M1,a];rfl
theorem kL(I:gR t C S)(H:aG t C h (S.ow h) d=B' c)(g:aZ d):gR t C (bq t h d c S):=
 xp (xp I H g) (zj mx) (qp _)
theorem fD:(bq t h d c S).bs=S.bs:=hI.trans hI
theorem iB:(bq t h d c S).fs=S.fs:=hQ.trans hQ
theorem gD:(bq t h d c S).win=S.win:=hF.trans hF
theorem fE:bK (bq t h d c S)<=bK S+2:=by
 have H:=kK (h:=h) (d:=d) (c:=c) (S:=S);have a:=kK (h:=h) (d:=oC<|((dX h d c S).ow h).idxOf c) (c:=aL t h c) (S:=dX h d c S);unfold bq;lia
theorem kM:aL t h c∈(bq t h d c S).ow h:=mx
theorem kN(E:Jk S):(aL t H c≠[]/\Jk (bq t H d c S))\/(aL t H c=[]/\((bq t H d c S).ow H).getLast?=B' []/\∀h,h≠H->[]∉(bq t H d c S).ow h):=by
 have f:∀h,[]∈(bq t H d c S).ow h->h=H/\(aL t H c=[]\/c=[]):=λh x=>by
  obtain z|⟨z,e⟩:=oE x
  ·obtain z|⟨z,e⟩:=oE z
   ·exact absurd z<|E h
   exact⟨z,.inr e.symm⟩
  exact⟨z,.inl e.symm⟩
 by_cases g:aL t H c=[]
 ·refine .inr ⟨g,?_,λh n x=>n (f h x).1⟩;by_cases e:c=[]
  ·subst e;have U:aL t H []∈(dX H d [] S).ow H:=mx;unfold bq;rw[jg U];exact tJ<|E H
  have n:aL t H c∉(dX H d c S).ow H:=λz=>by
   rw[g]at z;obtain z|⟨_,z⟩:=oE z
   ·exact E H z
   exact e z.symm
  unfold bq;rw[tJ n,g]
 refine .inl ⟨g,λh x=>?_⟩;obtain z|z:=(f h x).2
 ·exact g z
 exact g (by rw[z];rfl)
end
theorem fm(z:Int):absI (-z)=absI z:=by
 obtain⟨_,e⟩|⟨_,e⟩:=aH z<;>obtain⟨_,E⟩|⟨_,E⟩:=aH (-z)<;>lia
theorem Cw(H:1<=z)(h:absI l=z):l=z\/l=-z:=by
 obtain⟨_,e⟩|⟨_,e⟩:=aH l<;>lia
def Hd(t:Str)(h:Nf)(c:gV Int):Prop:=c=[]\/∃l∈c,cj t (absI l-1).toNat=!h/\∀m∈c,absI m<=absI l
theorem jh(h:ap n c):Hd t H (aL t H c):=by
 obtain e|e:=(fM ((c.filter λl=>!(cj t (absI l-1).toNat == H)).map absI) 0).2
 ·refine .inl<|PD.mpr λl a=>?_;have f:=(h.2 l a).1;have E:dA t H c=0:=e;rw[NX];lia
 obtain⟨l,a,b⟩:=NV.mp e;obtain⟨v,Y⟩:=NM.mp a;have E:absI l=dA t H c:=b;refine .inr ⟨l,NM.mpr ⟨v,by rw[NX];lia⟩,?_,λm d=>?_⟩
 ·cases g:cj t (absI l-1).toNat<;>cases H<;>rw[g]at Y<;>first|rfl|cases Y
 have:=(NM.mp d).2;rw[NX]at this;lia
theorem Cy(h:zh w b c)(H:l∈c)(a:1<=absI l):absI l<=(b.length:Int):=by
 obtain g|g:=Pz (absI l-1).toNat b.length
 ·lia
 have:=h l H;rw[dM g]at this;cases this
theorem jR(h:zh w (B++[b]) c)(H:l∈c)(d:1<=absI l)(T:absI l≠(B.length:Int)+1):bW w B l=true:=by
 have e:=Cy h H d;rw[M7,NG]at e;have a:=h l H;rw[nV<|by lia]at a;exact a
theorem xq(f:z=(B.length:Int)+1)(h:zh H (B++[b]) c)(U:z∈c\/ -z∈c):(if(b == H)=MX then z else -z)∈c:=by
 have k:∀l∈c,absI l=z->(b == decide (0<l))=H:=λl d e=>by
  have a:=h l d;rw[nX<|by lia]at a;exact eq_of_beq a
 have p:absI z=z:=cW (by lia);have n:absI (-z)=z:=by rw[fm,p]
 obtain g|g:=U
 ·have:=k z g p;rw[Ng (show 0<z by lia)]at this;have e:(b == H)=true:=by cases b<;>cases H<;>first|rfl|cases this
  rw[Nt e];exact g
 have:=k (-z) g n;rw[M6 (show¬0 < -z by lia)]at this;have e:(b == H)=false:=by cases b<;>cases H<;>first|rfl|cases this
 rw[e,Np Ni];exact g
theorem tK(j:z=(b.length:Int)+1)(k:ap n f)(o:ap n s)(h:zh H (b++[B]) f)(c:zh H (b++[q]) s):cJ f s z=false:=by
 cases g:cJ f s z with
 |false=>rfl
 |true=>
  obtain⟨l,d,i⟩:=N4.mp g;obtain⟨v,Y⟩:=NM.mp d;have T:absI l≠(b.length:Int)+1:=by
   have:¬absI l=z:=by simpa using Y
   lia
  have m:=Nj.mp i;have r:=(k.2 l v).1;have a:=jR h v r T;have A:=jR c m (by rw[fm];exact r) (by rw[fm];exact T);obtain⟨p,e⟩|⟨p,e⟩:=aH l
  ·exact(gL (show 1<=l by lia) a A).elim
  exact(gL (show 1<=-l by lia) A<|by rw[ZE];exact a).elim
theorem zk(h:Ups f)(H:Ups s)(c:cJ f s z=MW)(d:cJ s f z=MW):bI f s z=bI s f z:=by
 have a:=dZ h H c;have b:=dZ H h d;exact jI a.1 b.1 λl=>(a.2 l).trans (by rw[Or.comm];exact(b.2 l).symm)
theorem fc{a:Type}{l:gV a}{k:Nat}{d:a}(h:l.length=k+1):l=l.dropLast++[l.getD k d]:=by
 have T:l≠[]:=λz=>by rw[z]at h;cases h
 have e:l.getD k d=l.getLast T:=by
  rw[M1,List.getLast_eq_getElem,M4<|by lia];simp[h]
 rw[e];exact(Um T).symm
section
variable {S:SS}
theorem xr(a:∀c∈C,ap t.length c)(I:gR t C S)(H:Nf):∀c∈S.ow H,ap t.length c:=λc h=>by
 have:=l_ (w:=H) a (D:=S.lw H) (s:=[]) (λ_ z=>nomatch z);rw[I.run H]at this;exact this c h
theorem rg(I:gR t c S)(h:S.bs.length=k+1):gR t c (ck S):=by
 have d:=fc (d:=MW) h;have f:=fc (d:=M5)<|I.flen.trans h;have l:S.bs.dropLast.length=k:=by rw[OK,h];rfl
 have L:S.fs.dropLast.length=k:=by rw[OK,I.flen,h];rfl
 refine⟨I.run,I.good,I.nd,L.trans l.symm,?_,λj H=>?_⟩
 ·show S.bs.dropLast.length<=_
  have:=I.blen;lia
 have a:j<k:=by
  have:j<S.bs.dropLast.length:=H;lia
 have:=I.fst j (by lia);unfold Cv at this ⊢;have e:(ck S).fs.getD j M5=S.fs.getD j none:=by
  show S.fs.dropLast.getD j M5=_
  rw[M1,M1,S_,Nt<|by rw[I.flen];lia]
 have E:(ck S).bs.getD j MW=S.bs.getD j false:=by
  show S.bs.dropLast.getD j MW=_
  rw[M1,M1,S_,Nt<|by lia]
 have b:(ck S).bs.take j=S.bs.take j:=by
  show S.bs.dropLast.take j=_
  rw[Tr,U4]
  congr 1
  lia
 rw[e,E,b];exact this
theorem tL(I:gR t c S)(k:S.bs.length<t.length)(h:Cv t (eT b o S) S.bs.length):gR t c (eT b o S):=by
 refine⟨I.run,I.good,I.nd,?_,?_,λj H=>?_⟩
 ·show(S.fs++[o]).length=(S.bs++[b]).length
  rw[M7,M7,I.flen];rfl
 ·show(S.bs++[b]).length<=_
  rw[M7,NG];lia
 have a:j<S.bs.length+1:=by
  have:j<(S.bs++[b]).length:=H;rw[M7,NG]at this;exact this
 by_cases e:j=S.bs.length
 ·subst e;exact h
 have:=I.fst j (by lia);unfold Cv at this ⊢;have E:(eT b o S).fs.getD j M5=S.fs.getD j none:=by
  show(S.fs++[o]).getD j M5=_
  rw[M1,M1,N3<|by rw[I.flen];lia]
 have d:(eT b o S).bs.getD j MW=S.bs.getD j false:=by
  show(S.bs++[b]).getD j MW=_
  rw[M1,M1,N3<|by lia]
 have f:(eT b o S).bs.take j=S.bs.take j:=Qt (by lia);rw[E,d,f];exact this
theorem xu(I:gR t c S):Cv t (eT b o S) S.bs.length↔match o with
  |none=>b=MW
  |some F=>b=MX/\F∈S.ow (!cj t S.bs.length)/\zh (!cj t S.bs.length) (S.bs++[MW]) F/\((S.bs.length:Int)+1∈F\/ -((S.bs.length:Int)+1)∈F):=by
 unfold Cv;have e:(eT b o S).fs.getD S.bs.length M5=o:=by
  show(S.fs++[o]).getD S.bs.length M5=_
  rw[M1,N7 (by rw[I.flen];exact Na _),I.flen,P1];rfl
 have E:(eT b o S).bs.getD S.bs.length MW=b:=by
  show(S.bs++[b]).getD S.bs.length MW=_
  rw[M1,N7<|Na _,P1];rfl
 have a:(eT b o S).bs.take S.bs.length=S.bs:=Vv;rw[e,E,a];exact Iff.rfl
theorem jS(a b:gV (MZ<|gV Int)):pend (a++b)=pend a+pend b:=by
 unfold pend;rw[Px,M7]
structure oG (t:Str)(cs:gV (gV Int))(hw:Nf)(c:gV Int)(S:SS):Prop where
 I:gR t cs S
 mem:c∈S.ow hw
 agr:zh hw S.bs c
 dr:Hd t hw c
 win:S.win=M5
 emp:(c≠[]/\Jk S)\/(c=[]/\(S.ow hw).getLast?=B' []/\∀h,h≠hw->[]∉S.ow h)
inductive Cz (t:Str)(cs:gV (gV Int))(hw:Nf)(S S':SS):Prop
 |on (I:gR t cs S') (s:S'.win=M5) (emp:Jk S') (pre:gV Nf) (hb:S'.bs=pre++[MX]) (hp:(pre++[MW]) <+:S.bs) (h:bK S'+2*pend S'.fs<=bK S+2*pend S.fs+2):Cz t cs hw S S'
 |won (I:gR t cs S') (s:S'.win=B' hw) (hb:S'.bs=[]) (H:(S'.ow hw).getLast?=B' []) (h:bK S'<=bK S+2*pend S.fs):Cz t cs hw S S'
theorem oH(f:∀c∈C,ap t.length c)(T:oG t C h c S)(g:S.bs.length=k+1)(U:(k:Int)+1∈c\/ -((k:Int)+1)∈c):h=!cj t k/\c≠[]/\Jk S:=by
 have Q:=xr f T.I h c T.mem;have a:c≠[]:=λz=>by rw[z]at U;obtain z|z:=U<;>cases z
 refine⟨?_,a,T.emp.elim (λz=>z.2) λz=>absurd z.1 a⟩;obtain z|⟨l,H,b,d⟩:=T.dr
 ·exact absurd z a
 have i:=Cy T.agr H (Q.2 l H).1;have j:(k:Int)+1<=absI l:=by
  obtain z|z:=U
  ·have:=d _ z;rw[cW<|by lia]at this;exact this
  have:=d _ z;rw[fm,cW<|by lia]at this;exact this
 have e:(absI l-1).toNat=k:=by lia
 rw[e]at b;rw[b,YZ]
structure K5 (t:Str)(cs:gV (gV Int))(hw:Nf)(k:Nat)(F c:gV Int)(S:SS):Prop where
 mF:F∈S.ow hw
 okF:ap t.length F
 okC:ap t.length c
 both:cJ F c ((k:Int)+1)=MW
 line:aG t cs hw (S.ow hw) (cL (S.ow hw) F c<|(k:Int)+1)=B' (bI F c<|(k:Int)+1)
 good:aZ (cL (S.ow hw) F c<|(k:Int)+1)
 next:oG t cs hw (aL t hw<|bI F c<|(k:Int)+1) (bq t hw (cL (S.ow hw) F c<|(k:Int)+1) (bI F c<|(k:Int)+1)<|ck S)
theorem qq(n:∀c∈C,ap t.length c)(T:oG t C h c S)(d:S.bs.length=k+1)(A:(k:Int)+1∈c\/ -((k:Int)+1)∈c)(e:S.fs.getD k M5=B' F):K5 t C h k F c S:=by
 obtain⟨f,I,J⟩:=oH n T d A;have o:=fc (d:=MW) d;have M:(ck S).bs.length=k:=by show S.bs.dropLast.length=k;rw[OK,d];rfl
 have O:=rg T.I d;have P:k<t.length:=by have:=T.I.blen;lia
 have Q:=xr n T.I h c T.mem;have Z:zh h ((ck S).bs++[S.bs.getD k MW]) c:=by
  have:=T.agr;rw[o]at this;exact this
 have p:=T.I.fst k (by lia);unfold Cv at p;rw[e]at p;obtain⟨r,m,H,s⟩:=p;rw[<-f]at m H;rw[r]at Z;have u:S.bs.take k=(ck S).bs:=by
  show _=S.bs.dropLast
  rw[Tr,d];rfl
 rw[u]at H;have a:=xr n T.I h F m;have g:(k:Int)+1=((ck S).bs.length:Int)+1:=by rw[M]
 have B:=tK g a Q H Z;have x:=tK g Q a Z H;have y:=xq g H s;have D:=xq g Z A;have U:=dZ a.1 Q.1 B;have N:=jK a Q B;have i:(dU t (!h)).contains ((k:Int)+1)=true:=Nj.mpr<|fy.mpr ⟨by lia,by lia,by rw[show((k:Int)+1-1).toNat=k by lia,f,YZ]⟩;obtain⟨iF,W⟩:=je m;obtain⟨iC,aC⟩:=je T.mem;have G:(S.ow h).getD ((S.ow h).idxOf F) []=F:=by rw[M1,W];rfl
 have E:(S.ow h).getD ((S.ow h).idxOf c) []=c:=by rw[M1,aC];rfl
 have X:aG t C h (S.ow h) (cL (S.ow h) F c<|(k:Int)+1)=B' (bI F c<|(k:Int)+1):=by
  unfold cL;cases h with
  |true=>
   have L:-((k:Int)+1)∈F:=y;have b:(k:Int)+1∈c:=D;rw[Nt<|Nj.mpr L];unfold qo;rw[iO,mw];rw[Od,Od,G,E];refine⟨by lia,by lia,?_,zk Q.1 a.1 x B⟩;unfold dL;rw[i,Nj.mpr b,Nj.mpr L,x];rfl
  |false=>
   have L:(k:Int)+1∈F:=y;have b:-((k:Int)+1)∈c:=D;have ZI:¬F.contains (-((k:Int)+1))=true:=λz=>by
    have:=a.1.inj L (Nj.mp z) (by rw[fm]);lia
   rw[Np ZI];unfold qo;rw[iO,mw];rw[Od,Od,G,E];refine⟨by lia,by lia,?_,rfl⟩;unfold dL;rw[i,Nj.mpr b,Nj.mpr L,B];rfl
 have j:aZ (cL (S.ow h) F c<|(k:Int)+1):=by
  unfold cL
  split
  ·exact iP _ _ _
  exact iP _ _ _
 have Ep:Jk (ck S):=J;have v:=fD (t:=t) (h:=h) (d:=cL (S.ow h) F c<|(k:Int)+1) (c:=bI F c<|(k:Int)+1) (S:=ck S);refine⟨m,a,Q,B,X,j,kL O X j,kM,?_,jh N,gD.trans T.win,kN Ep⟩;rw[v];intro l hl;have w:=(NM.mp hl).1;obtain⟨VI,Y⟩:=(U.2 l).mp w;rw[g]at Y;obtain q|q:=VI
 ·exact jR H q (a.2 l q).1 Y
 exact jR Z q (Q.2 l q).1 Y
theorem qr(d:∀c∈C,ap t.length c)(T:oG t C w c S)(H:S.bs.length=k+1)(U:¬((k:Int)+1∈c\/ -((k:Int)+1)∈c)):oG t C w c (ck S):=by
 have b:=fc (d:=MW) H;have Q:=xr d T.I w c T.mem;refine⟨rg T.I H,T.mem,λl h=>?_,T.dr,T.win,T.emp⟩;have a:=T.agr;rw[b]at a;refine jR a h (Q.2 l h).1 ?_;have:S.bs.dropLast.length=k:=by rw[OK,H];rfl
 show absI l≠((S.bs.dropLast.length:Nat):Int)+1
 rw[this];intro z;obtain q|q:=Cw (by lia) z
 ·exact U<|.inl<|q▸h
 exact U<|.inr<|q▸h
theorem zl(d:∀c∈C,ap t.length c)(T:oG t C w c S)(H:S.bs.length=k+1)(U:(k:Int)+1∈c\/ -((k:Int)+1)∈c)(e:S.fs.getD k M5=M5):S.bs.getD k MW=MW/\gR t C (eT MX (B' c)<|ck S):=by
 obtain⟨a,A,E⟩:=oH d T H U;have b:=fc (d:=MW) H;have l:(ck S).bs.length=k:=by show S.bs.dropLast.length=k;rw[OK,H];rfl
 have I:=rg T.I H;have g:k<t.length:=by have:=T.I.blen;lia
 have Z:zh w ((ck S).bs++[S.bs.getD k MW]) c:=by
  have:=T.agr;rw[b]at this;exact this
 have f:=T.I.fst k (by lia);unfold Cv at f;rw[e]at f;have h:S.bs.getD k MW=false:=f;rw[h]at Z;refine⟨h,tL I (by lia)<|(xu I).mpr ⟨rfl,?_,?_,?_⟩⟩
 ·rw[l,<-a];exact T.mem
 ·rw[l,<-a];exact Z
 rw[l];exact U
theorem tM(I:gR t c S)(H:S.bs.length=k+1):pend S.fs=pend (ck S).fs+pend [S.fs.getD k M5]:=by
 have h:=fc (d:=M5) (I.flen.trans H)
 conv=>lhs;rw[h]
 exact jS _ _
theorem oI(b:∀c∈C,ap t.length c):∀k c S,S.bs.length=k->oG t C h c S->Cz t C h S (d9 t h k c S)
 |0,c,S,a,T=>by
  have H:S.bs=[]:=Re a;have d:c=[]:=by
   cases c with
   |nil=>rfl
   |cons l r=>
    have:=T.agr l Nl;rw[H,dM<|NA _]at this;cases this
  obtain⟨z,_⟩|⟨_,z,_⟩:=T.emp
  ·exact absurd d z
  ·exact .won ⟨T.I.run,T.I.good,T.I.nd,T.I.flen,T.I.blen,T.I.fst⟩ rfl H z (by show bK S<=_;lia)
 |k+1,c,S,a,T=>by
  have f:=fc (d:=MW) a;have u:(ck S).bs.length=k:=by show S.bs.dropLast.length=k;rw[OK,a];rfl
  have g:=tM T.I a;have i:(ck S).bs <+:S.bs:=⟨_,f.symm⟩;have v:bK (ck S)=bK S:=rfl;unfold d9;by_cases U:(c.contains ((k:Int)+1) || c.contains (-((k:Int)+1)))=MX
  ·rw[Nt U];have A:(k:Int)+1∈c\/ -((k:Int)+1)∈c:=by
    rw[P2]at U;exact U.imp Nj.mp Nj.mp
   cases e:S.fs.getD k M5 with
   |none=>
    obtain⟨j,x⟩:=zl b T a A e;show Cz t C h S (eT (!S.bs.getD k MW) (B' c)<|ck S)
    rw[j];refine .on x T.win (oH b T a A).2.2 (ck S).bs rfl ?_ ?_
    ·exists [];rw[OQ]
     conv=>rhs;rw[f]
     rw[j];rfl
    ·show bK S+2*pend ((ck S).fs++[B' c])<=_
     rw[jS,g];have:pend [B' c]=1:=rfl;lia
   |some F=>
    have J:=qq b T a A e;have o:pend [B' F]=1:=rfl;rw[e,o]at g;have Q:=fE (t:=t) (h:=h) (d:=cL (S.ow h) F c<|(k:Int)+1) (c:=bI F c<|(k:Int)+1) (S:=ck S);have L:=iB (t:=t) (h:=h) (d:=cL (S.ow h) F c<|(k:Int)+1) (c:=bI F c<|(k:Int)+1) (S:=ck S);have s:=fD (t:=t) (h:=h) (d:=cL (S.ow h) F c<|(k:Int)+1) (c:=bI F c<|(k:Int)+1) (S:=ck S);have:=oI b k _ _ (by rw[s];exact u) J.next;show Cz t C h S (d9 t h k (aL t h<|bI F c<|(k:Int)+1)<|bq t h (cL (S.ow h) F c<|(k:Int)+1) (bI F c<|(k:Int)+1)<|ck S)
    cases this with
    |on I w em p H m n=>
     rw[s]at m;rw[L]at n;exact .on I w em p H (m.trans i) (by lia)
    |won I w H d n=>
     rw[L]at n;exact .won I w H d (by lia)
  rw[Np U];have q:¬((k:Int)+1∈c\/ -((k:Int)+1)∈c):=λz=>U (by
   rw[P2];exact z.imp Nj.mpr Nj.mpr)
  have:=oI b k c (ck S) u<|qr b T a q;cases this with
  |on I w em p H m n=>exact .on I w em p H (m.trans i) (by lia)
  |won I w H d n=>exact .won I w H d (by lia)
end
noncomputable def cZ(b:gV Nf)(c:gV Int):MZ (gV Int):=if c.any (bW MX b)=MX then M5 else B' (c.filter λl=>decide ((b.length:Int)<absI l))
noncomputable def ci(b:gV Nf)(c:gV Int):gV Int:=c.filter<|bW MX b
noncomputable def oJ(t:Str)(b:gV Nf)(c:gV Int):Int:=(((ci b c).filter λl=>cj t (absI l-1).toNat)++ci b c).headD 0
noncomputable def cC(t:Str)(b:gV Nf)(Q c:gV Int):gV Int:=if(Q.any λl=>c.contains l)=MX then Q else Q++[oJ t b c]
noncomputable def g9(t:Str)(c:gV (gV Int))(b:gV Nf):gV Int:=c.foldl (cC t b) []
noncomputable def gc(t:Str)(c:gV (gV Int))(B:gV Nf):gV Int:=(g9 t c B).mergeSort λa b=>decide (absI a<=absI b)
noncomputable def g_(i:Nat):Nh:=.tuple [.str aO,.int (i:Int)]
noncomputable def lJ(c:gV Int):Nh:=.tuple [.str bx,iS c]
noncomputable def dq(t:Str)(b:gV Nf)(c:gV Int):Nf:=decide (cZ b (aL t MW c)=B' [])
noncomputable def cF(t:Str)(C:gV (gV Int))(S:SS):SS:=
 if C.any (dq t S.bs)=MX then
  d9 t MW S.bs.length (aL t MW<|C.getD (C.findIdx<|dq t S.bs) []) (bq t MW (g_<|C.findIdx<|dq t S.bs) (C.getD (C.findIdx<|dq t S.bs) []) S)
 else if(C.all λc=>decide (cZ S.bs (aL t MW c)=M5))=MX then
  d9 t MX S.bs.length (aL t MX<|gc t C S.bs) (bq t MX (lJ<|gc t C S.bs) (gc t C S.bs) S)
 else eT MW M5 S
theorem jT:∀n a b,eh n (a++b)=eh n a+eh (n-a.length) b
 |n,[],b=>by simp[eh]
 |n,x::a,b=>by
  show(if x=MX then 2^n else 1)+eh (n-1) (a++b)=(if x=MX then 2^n else 1)+eh (n-1) a+eh (n-(a.length+1)) b
  rw[jT (n-1) a b,show n-1-a.length=n-(a.length+1) by lia];lia
theorem kO:∀n a,a.length<=n->eh n a+2<=2^(n+1)
 |n,[],_=>by
  show 0+2<=_
  have:=Yi (n:=n);rw[Qo];lia
 |0,x::a,h=>by simp at h
 |n+1,x::a,h=>by
  rw[NC]at h;have:=kO n a (by lia);have e:2^(n+1+1)=2^(n+1)+2^(n+1):=by rw[Qo];lia
  have H:=Yi (n:=n+1);show(if x=MX then 2^(n+1)else 1)+eh n a+2<=_
  split<;>lia
theorem CA(h:(p++[MW]) <+:b)(H:b.length<=n):eh n b<eh n (p++[MX]):=by
 obtain⟨r,rfl⟩:=h;rw[M7,M7,NG]at H;rw[N1,jT n p ([MW]++r),jT n p [MX]];have e:eh (n-p.length) ([MW]++r)=1+eh (n-p.length-1) r:=rfl;have E:eh (n-p.length) [MX]=2^(n-p.length):=by show 2^(n-p.length)+0=_;lia
 have:=kO (n-p.length-1) r (by lia);rw[show n-p.length-1+1=n-p.length by lia]at this;lia
section
variable {S:SS}
theorem tN(k:ap t.length c)(h:dq t b c=MX):zh MW b (aL t MW c):=by
 have H:cZ b (aL t MW c)=B' []:=N0 h;have a:=gJ (t:=t) (w:=MW) k;generalize aL t MW c=e at H a;unfold cZ at H
 split at H
 ·cases H
 rename_i n;intro l f;have i:bW MX b l=false:=by
  cases g:bW MX b l with
  |false=>rfl
  |true=>exact absurd (N4.mpr ⟨l,f,g⟩) n
 have j:=Nw H;have m:=(a.2 l f).1;have o:absI l<=(b.length:Int):=by
  have:=PD.mp j l f;rw[NX]at this;lia
 unfold bW at i ⊢;rw[M4 (show(absI l-1).toNat<b.length by lia)]at i ⊢;have d:((b[(absI l-1).toNat] == decide (0<l)) == MX)=false:=i;show((b[(absI l-1).toNat] == decide (0<l)) == MW)=MX
 cases z:(b[(absI l-1).toNat] == decide (0<l))with
 |true=>rw[z]at d;cases d
 |false=>rfl
theorem kP(c:1<=absI a)(h:bW MX B a=MX)(H:bW MX B b=MX)(e:absI a=absI b):a=b:=by
 obtain z|z:=jH e
 ·exact z
 subst z;obtain⟨p,q⟩|⟨p,q⟩:=aH a
 ·exact(gL (show 1<=a by lia) h H).elim
 exact(gL (show 1<=-a by lia) H<|by rw[ZE];exact h).elim
theorem FT(h:∃l∈c,bW MX b l=MX):oJ t b c∈c/\bW MX b (oJ t b c)=true:=by
 have H:ci b c≠[]:=by
  obtain⟨l,a,d⟩:=h;exact U5<|NM.mpr ⟨a,d⟩
 have m:oJ t b c∈ci b c:=by
  unfold oJ;cases e:(ci b c).filter λl=>cj t (absI l-1).toNat with
  |nil=>
   rw[Sv];cases g:ci b c with
   |nil=>exact absurd g H
   |cons x r=>exact Nl
  |cons x r=>
   show x∈ci b c
   have:x∈(ci b c).filter λl=>cj t (absI l-1).toNat:=by rw[e];exact Nl
   exact(NM.mp this).1
 exact NM.mp m
structure ChOk (bs:gV Nf)(cs:gV (gV Int))(Qe:gV Int):Prop where
 st:∀l∈Qe,bW MX bs l=MX/\∃c∈cs,l∈c
 hit:∀c∈cs,∃l∈Qe,l∈c
 nd:Qe.Nodup
theorem ChOk.step(h:ChOk B D Q)(f:∃l∈c,bW MX B l=MX):ChOk B (D++[c]) (cC t B Q c):=by
 unfold cC
 split
 ·rename_i g;obtain⟨l,d,e⟩:=N4.mp g;refine⟨λl d=>⟨(h.st l d).1,let ⟨C,a,b⟩:=(h.st l d).2;⟨C,Pw _ a,b⟩⟩,λC H=>?_,h.nd⟩;obtain z|z:=NB.mp H
  ·exact h.hit C z
  rw[Nd.mp z];exact⟨l,d,Nj.mp e⟩
 rename_i g;obtain⟨p,P⟩:=FT (t:=t) f;refine⟨λl d=>?_,λC H=>?_,?_⟩
 ·obtain z|z:=NB.mp d
  ·exact⟨(h.st l z).1,let ⟨C,a,b⟩:=(h.st l z).2;⟨C,Pw _ a,b⟩⟩
  rw[Nd.mp z];exact⟨P,c,Oo _<|Nd.mpr rfl,p⟩
 ·obtain z|z:=NB.mp H
  ·obtain⟨l,a,b⟩:=h.hit C z;exact⟨l,Pw _ a,b⟩
  rw[Nd.mp z];exact⟨_,Oo _<|Nd.mpr rfl,p⟩
 rw[Pg];refine⟨h.nd,by simp,λx i y j z=>g ?_⟩;rw[Nd.mp j]at z;exact N4.mpr ⟨x,i,Nj.mpr<|z▸p⟩
theorem kQ{t:Str}{C:gV (gV Int)}(h:∀c∈C,∃l∈c,bW MX b l=MX):∀k,k<=C.length->ChOk b (C.take k) ((C.take k).foldl (cC t b) [])
 |0,_=>⟨λ_ z=>(nomatch z),λ_ z=>(nomatch z),RU⟩
 |k+1,a=>by
  have H:=getD_some (d:=([]:gV Int)) (show k<C.length by lia);rw[Oc,H];show ChOk b (C.take k++[C.getD k []]) ((C.take k++[C.getD k []]).foldl (cC t b) [])
  rw[Ta];exact(kQ h k<|by lia).step<|h _<|Nc H
theorem ff(h:∀c∈C,∃l∈c,bW MX b l=MX):ChOk b C (g9 t C b):=by
 have:=kQ (t:=t) h C.length<|Na _;rw[Nn<|Na _]at this;exact this
theorem fx:l∈gc t c b↔l∈g9 t c b:=List.mem_mergeSort
theorem xv(H:∀c∈s,ap t.length c)(h:∀c∈s,∃l∈c,bW MX B l=MX):Ups (gc t s B):=by
 have C:=ff (t:=t) h;refine nT ?_ ((R_ _ _).nodup_iff.mpr C.nd) λa d b f e=>?_
 ·rw[Om];have:=SO (le:=λa b:Int=>decide (absI a<=absI b)) (λa b c g i=>by rw[NX]at g i ⊢;lia) (λa b=>by rw[P2,NX,NX];lia)<|g9 t s B;exact this.imp λh=>N0 h
 obtain⟨A,j,D,E⟩:=C.st a<|fx.mp d;obtain⟨k,_⟩:=C.st b<|fx.mp f;exact kP ((H j D).2 a E).1 A k e
theorem rh(H:∀c∈C,ap t.length c)(h:∀c∈C,∃l∈c,bW MX B l=MX):ap t.length (gc t C B):=
 ⟨xv H h,λl d=>let ⟨_,c,a,b⟩:=(ff (t:=t) h).st l<|fx.mp d;(H c a).2 l b⟩
theorem tO(d:∀c∈C,ap t.length c)(h:∀c∈C,∃l∈c,bW MX B l=MX)(O:gV (gV Int)):aG t C MX O (lJ<|gc t C B)=B' (gc t C B):=by
 unfold lJ;rw[kJ,Nt rfl];unfold gj;rw[E_<|rh d h,Bb];have:pU (gc t C B) C=true:=OE.mpr λc H=>by
  obtain⟨l,a,b⟩:=(ff (t:=t) h).hit c H;exact N4.mpr ⟨l,fx.mpr a,Nj.mpr b⟩
 rw[this];rfl
theorem lK(h:cZ b (aL t MW c)=M5):∃l∈c,bW MX b l=true:=by
 unfold cZ at h
 split at h
 ·rename_i g;obtain⟨l,H,a⟩:=N4.mp g;exact⟨l,(NM.mp H).1,a⟩
 cases h
structure hW (t:Str)(cs:gV (gV Int))(S:SS):Prop where
 I:gR t cs S
 win:S.win=M5
 emp:Jk S
 few:bK S+2*pend S.fs<=4*eh t.length S.bs
structure xw (t:Str)(cs:gV (gV Int))(S:SS):Prop where
 I:gR t cs S
 hb:S.bs=[]
 hw:∃hw,S.win=B' hw/\(S.ow hw).getLast?=B' []
 few:bK S<=4*2^(t.length+1)
theorem qt(b:∀c∈C,ap t.length c)(O:t.length<=40)(L:hW t C S):((hW t C (cF t C S)/\eh t.length S.bs<eh t.length (cF t C S).bs)\/xw t C (cF t C S))/\bK (cF t C S)+2*pend (cF t C S).fs<=bK S+2*pend S.fs+4:=by
 have y:=L.few;have Q:=kO t.length S.bs L.I.blen;have W:∀h d c,aG t C h (S.ow h) d=B' c->aZ d->ap t.length c->zh h S.bs (aL t h c)->
   ((hW t C (d9 t h S.bs.length (aL t h c)<|bq t h d c S)/\eh t.length S.bs<eh t.length (d9 t h S.bs.length (aL t h c)<|bq t h d c S).bs)\/xw t C (d9 t h S.bs.length (aL t h c)<|bq t h d c S))/\bK (d9 t h S.bs.length (aL t h c)<|bq t h d c S)+2*pend (d9 t h S.bs.length (aL t h c)<|bq t h d c S).fs<=bK S+2*pend S.fs+4:=by
  intro h d c f B H Z;have T:oG t C h (aL t h c) (bq t h d c S):=⟨kL L.I f B,kM,by rw[fD];exact Z,jh H,gD.trans L.win,kN L.emp⟩;have D:=fE (t:=t) (h:=h) (d:=d) (c:=c) (S:=S);have s:=iB (t:=t) (h:=h) (d:=d) (c:=c) (S:=S);have i:=fD (t:=t) (h:=h) (d:=d) (c:=c) (S:=S);cases oI b S.bs.length _ _ (by rw[i]) T with
  |on I w em P j x o=>
   rw[i]at x;rw[s]at o;have A:=CA x L.I.blen;rw[<-j]at A;exact⟨.inl ⟨⟨I,w,em,by lia⟩,A⟩,by lia⟩
  |won I w j E o=>
   rw[s]at o;have U:pend (d9 t h S.bs.length (aL t h c)<|bq t h d c S).fs=0:=by
    have:=I.flen;rw[j]at this;rw[Re this];rfl
   exact⟨.inr ⟨I,j,⟨h,w,E⟩,by lia⟩,by lia⟩
 unfold cF;by_cases k:C.any (dq t S.bs)=MX
 ·rw[Nt k];have p:C.findIdx (dq t S.bs)<C.length:=Tb<|N4.mp k;have F:=getD_some (d:=([]:gV Int)) p;have r:dq t S.bs (C.getD (C.findIdx<|dq t S.bs) [])=true:=by
   have:=Xi (w:=p) (p:=dq t S.bs) (xs:=C);rw[M1,M4 p];exact this
  have H:=b _<|Nc F;refine W MW _ _ ?_ (.inl ⟨_,rfl⟩) H<|tN H r;unfold g_;rw[g8,Np Ni];unfold fV;rw[gQ (by lia),Od];rfl
 rw[Np k];by_cases n:(C.all λc=>decide (cZ S.bs (aL t MW c)=M5))=MX
 ·rw[Nt n];have v:∀c∈C,∃l∈c,bW MX S.bs l=true:=λc m=>lK<|N0<|OE.mp n c m;have H:=rh b v;refine W MX _ _ (tO b v _) (.inr<|.inl ⟨_,?_,rfl⟩) H λl f=>?_
  ·have:=aY H;lia
  exact((ff (t:=t) v).st l<|fx.mp (NM.mp f).1).1
 rw[Np n];have G:S.bs.length<t.length:=by
  obtain g|g:=Pz S.bs.length t.length
  ·exact g
  refine absurd (OE.mpr λc m=>?_) n;rw[NX];have J:dq t S.bs c=false:=by
   cases z:dq t S.bs c with
   |false=>rfl
   |true=>exact absurd (N4.mpr ⟨c,m,z⟩) k
  have a:¬cZ S.bs (aL t MW c)=B' []:=Qh J;have u:=gJ (t:=t) (w:=MW)<|b c m;generalize aL t MW c=e at a u;unfold cZ at a ⊢
  split
  ·rfl
  rename_i q;rw[Np q]at a;refine absurd (Oe B'<|PD.mpr λl f=>?_) a;have:=(u.2 l f).2;rw[NX];lia
 refine⟨.inl ⟨⟨tL L.I G<|(xu L.I).mpr rfl,L.win,L.emp,?_⟩,?_⟩,?_⟩
 ·show bK S+2*pend (S.fs++[M5])<=4*eh t.length (S.bs++[MW])
  have M:pend [(M5:MZ (gV Int))]=0:=rfl;have N:eh (t.length-S.bs.length) [MW]=1:=rfl;rw[jS,jT];lia
 ·show eh t.length S.bs<eh t.length (S.bs++[MW])
  have N:eh (t.length-S.bs.length) [MW]=1:=rfl;rw[jT];lia
 show bK S+2*pend (S.fs++[M5])<=_
 have M:pend [(M5:MZ (gV Int))]=0:=rfl;rw[jS];lia
theorem oK(h:∀c∈C,ap t.length c)(H:t.length<=40)(L:hW t C S):(hW t C (cF t C S)/\eh t.length S.bs<eh t.length (cF t C S).bs)\/xw t C (cF t C S):=(qt h H L).1
noncomputable def eH:SS:=⟨λ_=>[],λ_=>[],[],[],M5⟩
theorem gS:hW t c eH:=⟨⟨λ_=>rfl,λ_ _ z=>(nomatch z),λ_=>RU,rfl,NA _,λk h=>(nomatch h)⟩,rfl,λ_ z=>(nomatch z),NA _⟩
noncomputable def dI(t:Str)(c:gV (gV Int)):Nat->SS->SS
 |0,S=>S
 |k+1,S=>if S.win.isSome=MX then S else dI t c k (cF t c S)
theorem vo(H:∀c∈C,ap t.length c)(a:t.length<=40):∀k S,hW t C S->(hW t C (dI t C k S)/\eh t.length S.bs+k<=eh t.length (dI t C k S).bs)\/xw t C (dI t C k S)
 |0,S,L=>.inl ⟨L,Na _⟩
 |k+1,S,L=>by
  unfold dI;rw[Np<|by rw[L.win];exact Ni];obtain⟨l,h⟩|W:=oK H a L
  ·obtain⟨L2,b⟩|W:=vo H a k _ l
   ·exact .inl ⟨L2,by lia⟩
   exact .inr W
  have:dI t C k (cF t C S)=cF t C S:=by
   cases k with
   |zero=>rfl
   |succ k=>
    unfold dI;obtain⟨w,e,_⟩:=W.hw;rw[Nt<|by rw[e];rfl]
  rw[this];exact .inr W
theorem Jm(H:∀c∈C,ap t.length c)(a:t.length<=40){S:SS}(L:hW t C S)(b:2^(t.length+1)<=eh t.length S.bs+k):xw t C (dI t C k S):=by
 obtain⟨l,h⟩|W:=vo H a k S L
 ·have:=kO t.length _ l.I.blen;lia
 exact W
theorem xx(H:Nf)(d:Nh)(c:gV Int)(S:SS)(h:Nf):S.lw h <+:(dX H d c S).lw h:=by
 unfold dX
 split
 ·exact Ql _
 show S.lw h <+:cY S.lw H d h
 unfold cY
 split
 ·exact List.prefix_append _ _
 exact Ql _
theorem kR(t:Str)(H:Nf)(d:Nh)(c:gV Int)(S:SS)(h:Nf):S.lw h <+:(bq t H d c S).lw h:=(xx _ _ _ _ _).trans<|xx _ _ _ _ _
theorem jU(t:Str)(H h:Nf):∀k c S,S.lw h <+:(d9 t H k c S).lw h
 |0,_,_=>Ql _
 |k+1,c,S=>by
  unfold d9
  split
  ·split
   ·exact Ql _
   exact(kR t H _ _ (ck S) h).trans<|jU t H h k _ _
  exact jU t H h k c<|ck S
theorem CF(t:Str)(c:gV (gV Int))(S:SS)(h:Nf):S.lw h <+:(cF t c S).lw h:=by
 unfold cF
 split
 ·exact(kR _ _ _ _ _ _).trans<|jU _ _ _ _ _ _
 split
 ·exact(kR _ _ _ _ _ _).trans<|jU _ _ _ _ _ _
 exact Ql _
theorem CG(t:Str)(c:gV (gV Int))(h:Nf):∀k S,S.lw h <+:(dI t c k S).lw h
 |0,_=>Ql _
 |k+1,S=>by
  unfold dI
  split
  ·exact Ql _
  exact(CF t c S h).trans<|CG t c h k _
theorem CH(h:∀c∈C,ap t.length c)(H:t.length<=40):∀k S,hW t C S->bK (dI t C k S)+2*pend (dI t C k S).fs<=bK S+2*pend S.fs+4*k
 |0,S,_=>Na _
 |k+1,S,L=>by
  have a:=(qt h H L).2;unfold dI;rw[Np<|by rw[L.win];exact Ni];obtain⟨l,_⟩|W:=oK h H L
  ·have:=CH h H k _ l;lia
  have:dI t C k (cF t C S)=cF t C S:=by
   cases k with
   |zero=>rfl
   |succ k=>
    unfold dI;obtain⟨w,e,_⟩:=W.hw;rw[Nt<|by rw[e];rfl]
  rw[this];lia
end
noncomputable abbrev CI:OZ:=fh (dN 48) 1
noncomputable abbrev ri:OZ:=fh (dN 48) 2
noncomputable abbrev vp:OZ:=fh (dN 48) 3
structure lO (K:K')(mg:Str->MZ J')(CS:M0):Prop where
 len:mg "len"=M5
 list:mg "list"=M5
 cl:Cls K CS
 nS:NoAttr K CS "sentence"
 nL:NoAttr K CS "lines"
 nP:NoAttr K CS "places"
 nB:NoAttr K CS "begun"
 nF:NoAttr K CS "firsts"
 nR:NoAttr K CS "rests"
 nW:NoAttr K CS "winner"
 g_WISHER:fS mg "WISHER" (.str<|M_ "wisher")
 g_SPOILER:fS mg "SPOILER" (.str<|M_ "spoiler")
noncomputable def ji(l:Nf->M0):gV (bR×V):=[(Ry<|ay MW,.ref<|l MW),(Ry<|ay MX,.ref<|l MX)]
theorem eP(h:H d=B' (.dK<|ji l))(b:Nf):DGet H d (.str<|ay b) (B'<|.ref<|l b):=by
 have e:cR (ji l) (Ry<|ay b)=B' (.ref<|l b):=by
  cases b<;>rfl
 rw[<-e];exact DGet.k (k:=Ry<|ay b) h
structure SA where
 x:M0
 dx:M0
 p:M0
 q:M0
 dl:M0
 dp:M0
 b:M0
 f:M0
 r:M0
 ll:Nf->M0
 pp:Nf->M0
 far:M0->Prop
def SA.own(A:SA)(a:M0):Prop:=a=A.x\/a=A.b\/a=A.f\/a=A.r\/∃h,a=A.ll h\/a=A.pp h
def SA.taken(A:SA)(a:M0):Prop:=A.own a\/A.far a
def Mv(A:SA)(H h:Hp):Prop:=∀a o,¬A.own a->H a=B' o->h a=B' o
theorem Mv.of(k:Same H h):Mv A H h:=λa o _ e=>k a o e
theorem Mv.trans(k:Mv A H b)(j:Mv A b h):Mv A H h:=λa o n e=>j a o n<|k a o n e
theorem Mv.upd(k:Mv A H c)(h:A.own a)(o:HO):Mv A H (upd c a o):=λb u n e=>by
 rw[aj λz=>n<|by rw[z];exact h];exact k b u n e
def TupS(H h:Hp):Prop:=∀a x,H a=B' (.tup x)->h a=B' (.tup x)
theorem TupS.of(k:Same H h):TupS H h:=λa _ e=>k a _ e
theorem TupS.trans(k:TupS H b)(j:TupS b h):TupS H h:=λa x e=>j a x<|k a x e
theorem TupS.cl(k:TupS H a)(h:CL H c v):CL a c v:=let ⟨t,e,z⟩:=h;⟨t,e,k _ _ z⟩
theorem TupS.cls(k:TupS H a):∀{c:gV (gV Int)} {x:gV V},CLs H c x->CLs a c x
 |_,_,.nil=>.nil
 |_,_,.cons h t=>.cons (k.cl h)<|TupS.cls k t
theorem TupS.good(k:TupS H D)(g:aZ d)(h:RD H d v):RD D d v:=by
 obtain⟨n,rfl⟩|⟨c,E,rfl⟩|⟨n,rfl⟩|⟨i,j,z,rfl⟩:=g
 ·obtain⟨a,Z,rfl,f,l⟩:=aq h;obtain⟨Y,q,rfl,m,B⟩:=ao l;obtain⟨t,o,rfl,A,b⟩:=ao B;have e:o=[]:=by unfold dw at b;exact b
  subst e;exact aX (k _ _ f)<|ak (iy m)<|ak (fW A) aw
 ·obtain⟨a,Z,rfl,f,l⟩:=aq h;obtain⟨Y,q,rfl,m,B⟩:=ao l;obtain⟨t,o,rfl,A,b⟩:=ao B;have e:o=[]:=by unfold dw at b;exact b
  subst e;obtain⟨p,u,rfl,w,s⟩:=aq A;refine aX (k _ _ f)<|ak (iy m)<|ak (aX (k _ _ w) ?_) aw;clear w A l f h B E b
  induction c generalizing u with
  |nil=>
   have e:u=[]:=by unfold dw at s;exact s
   subst e;exact aw
  |cons x c I=>
   obtain⟨y,r,rfl,Q,F⟩:=ao s;exact ak (fW Q)<|I r F
 ·obtain⟨a,Z,rfl,f,l⟩:=aq h;obtain⟨Y,q,rfl,m,B⟩:=ao l;obtain⟨t,o,rfl,A,b⟩:=ao B;have e:o=[]:=by unfold dw at b;exact b
  subst e;exact aX (k _ _ f)<|ak (iy m)<|ak (fW A) aw
 obtain⟨a,Z,rfl,f,l⟩:=aq h;obtain⟨Y,q,rfl,m,B⟩:=ao l;obtain⟨t,o,rfl,A,b⟩:=ao B;obtain⟨N,O,rfl,G,J⟩:=ao b;obtain⟨P,L,rfl,M,C⟩:=ao J;have e:L=[]:=by unfold dw at C;exact C
 subst e;exact aX (k _ _ f)<|ak (iy m)<|ak (fW A)<|ak (fW G)<|ak (fW M) aw
theorem TupS.goods(k:TupS H c):∀{D:gV Nh} {v:gV V},(∀d∈D,aZ d)->dw H D v->dw c D v
 |[],v,_,h=>by
  have e:v=[]:=by unfold dw at h;exact h
  subst e;exact aw
 |d::D,v,g,h=>by
  obtain⟨y,Y,rfl,a,b⟩:=ao h;exact ak (k.good (g d Nl) a)<|TupS.goods k (λf i=>g f<|Nk _ i) b
def lP(H:Hp):MZ (gV Int)->V->Prop
 |none,v=>v=.non
 |some c,v=>CL H c v
def iD(H:Hp):gV (MZ<|gV Int)->gV V->Prop:=Paired<|lP H
theorem TupS.opt(k:TupS H a)(h:lP H o v):lP a o v:=by
 cases o with
 |none=>exact h
 |some c=>exact k.cl h
theorem TupS.opts(k:TupS H a):∀{os:gV (MZ<|gV Int)} {x:gV V},iD H os x->iD a os x
 |_,_,.nil=>.nil
 |_,_,.cons h t=>.cons (k.opt h)<|TupS.opts k t
noncomputable def cn(t:Str)(C:gV (gV Int))(b:gV Nf):gV (MZ<|gV Int):=C.map λc=>cZ b<|aL t MW c
structure Rsts (A:SA)(t:Str)(cs:gV (gV Int))(bs:gV Nf)(H:Hp)(vs:gV V):Prop where
 len:vs.length=bs.length+1
 at_:∀(k:Nat) (v:V),vs[k]?=B' v->∃a ws,v=.ref a/\H a=B' (.lst ws)/\¬A.taken a/\iD H (cn t cs<|bs.take k) ws
theorem lQ{b:Type} [Ud b] {s:gV (b×V)}{k:b}{v:V}(h:cR s k=M5):(dg s k v).length=s.length+1:=by
 unfold dg;have H:s.any (λa=>decide (a.1=k))=false:=by
  cases e:s.any (λa=>decide (a.1=k))with
  |false=>rfl
  |true=>
   obtain⟨a,c,d⟩:=N4.mp e;unfold cR at h;have:=SG.mp (Option.map_eq_none_iff.mp h) a c;exact absurd d this
 first
  |(rw[H];simp)
  |(simp[H])
def Jn(D:gV (gV bR×V))(O:gV (gV Int)):Prop:=D.length=O.length/\∀c:gV Int,cR D (gP c)=if c∈O then B' (.int ((O.idxOf c:Nat):Int))else M5
noncomputable def o6:MZ Nf->V
 |none=>.non
 |some h=>.str<|ay h
noncomputable def tP(A:SA)(w:V):gV (Str×V):=[("sentence",.ref A.p),("lines",.ref A.dl),("places",.ref A.dp),("begun",.ref A.b),("firsts",.ref A.f),("rests",.ref A.r),("winner",w)]
structure SrAt (CS:M0)(A:SA)(t:Str)(cs:gV (gV Int))(S:SS)(H:Hp):Prop where
 hx:H A.x=B' (.ins CS A.dx<|tP A<|o6 S.win)
 hp:H A.p=B' (.tup [.str t,.ref A.q])
 hq:∃xs,H A.q=B' (.lst xs)/\CLs H cs xs
 hl:H A.dl=B' (.dK<|ji A.ll)
 hd:H A.dp=B' (.dK<|ji A.pp)
 l:∀h,∃vs,H (A.ll h)=B' (.lst vs)/\dw H (S.lw h) vs
 d:∀h,∃D,H (A.pp h)=B' (.dT D)/\Jn D (S.ow h)
 b:H A.b=B' (.lst<|S.bs.map V.bl)
 f:∃vs,H A.f=B' (.lst vs)/\iD H S.fs vs
 r:∃vs,H A.r=B' (.lst vs)/\Rsts A t cs S.bs H vs
 nq:¬A.taken A.q
 nd:[A.b,A.f,A.r,A.ll MW,A.ll MX].Nodup
 np:A.pp MW≠A.pp MX
 good:∀h,∀d∈S.lw h,aZ d
 len:∀h,(S.ow h).length=(S.lw h).length
 far:∀a,A.far a->¬A.own a/\∃o,H a=B' o
section
variable {S:SS}
theorem SrAt.own_ty(h:SrAt C A t s S H)(c:A.own a):(∃w,H a=B' (.ins C A.dx<|tP A w))\/(∃v,H a=B' (.lst v))\/∃D,H a=B' (.dT D):=by
 obtain rfl|rfl|rfl|rfl|⟨z,rfl|rfl⟩:=c
 ·exact .inl ⟨_,h.hx⟩
 ·exact .inr<|.inl ⟨_,h.b⟩
 ·obtain⟨v,e,_⟩:=h.f;exact .inr<|.inl ⟨_,e⟩
 ·obtain⟨v,e,_⟩:=h.r;exact .inr<|.inl ⟨_,e⟩
 ·obtain⟨v,e,_⟩:=h.l z;exact .inr<|.inl ⟨_,e⟩
 obtain⟨v,e,_⟩:=h.d z;exact .inr<|.inr ⟨_,e⟩
theorem SrAt.new(h:SrAt C A t c S H)(e:H a=M5):¬A.own a:=λz=>by
 obtain⟨_,g⟩|⟨_,g⟩|⟨_,g⟩:=h.own_ty z<;>rw[e]at g<;>cases g
theorem SrAt.ntup(h:SrAt C A t c S H)(e:H a=B' (.tup x)):¬A.own a:=λz=>by
 obtain⟨_,g⟩|⟨_,g⟩|⟨_,g⟩:=h.own_ty z<;>rw[e]at g<;>cases g
theorem SrAt.ndk(h:SrAt C A t c S H)(e:H a=B' (.dK k)):¬A.own a:=λz=>by
 obtain⟨_,g⟩|⟨_,g⟩|⟨_,g⟩:=h.own_ty z<;>rw[e]at g<;>cases g
theorem SrAt.tups(h:SrAt C A t s S H)(m:Mv A H c):TupS H c:=λa x e=>m a _ (h.ntup e) e
theorem SrAt.make(h:SrAt C A t s S H)(m:Mv A H c)(x:c A.x=B' (.ins C A.dx<|tP A<|o6 S'.win))(l:∀z,∃v,c (A.ll z)=B' (.lst v)/\dw c (S'.lw z) v)(d:∀z,∃D,c (A.pp z)=B' (.dT D)/\Jn D (S'.ow z))
  (b:c A.b=B' (.lst<|S'.bs.map V.bl)) (f:∃v,c A.f=B' (.lst v)/\iD c S'.fs v) (r:∃v,c A.r=B' (.lst v)/\Rsts A t s S'.bs c v) (g:∀z,∀d∈S'.lw z,aZ d) (len:∀z,(S'.ow z).length=(S'.lw z).length):SrAt C A t s S' c:=by
 have k:=h.tups m;obtain⟨X,q,Q⟩:=h.hq;exact⟨x,k _ _ h.hp,⟨X,m _ _ (λz=>h.nq<|.inl z) q,k.cls Q⟩,m _ _ (h.ndk h.hl) h.hl,m _ _ (h.ndk h.hd) h.hd,l,d,b,f,r,h.nq,h.nd,h.np,g,len,λa z=>let ⟨n,o,e⟩:=h.far a z;⟨n,o,m _ _ n e⟩⟩
theorem Rsts.mono(r:Rsts A t c b H s)(m:Mv A H h)(k:TupS H h):Rsts A t c b h s:=
 ⟨r.len,λi v e=>let ⟨a,w,d,f,E,g⟩:=r.at_ i v e;⟨a,w,d,m _ _ (λz=>E<|.inl z) f,E,k.opts g⟩⟩
theorem SrAt.same(h:SrAt C A t c S H)(k:Same H a):SrAt C A t c S a:=
 h.make (.of k) (k _ _ h.hx) (λz=>let ⟨v,e,g⟩:=h.l z;⟨v,k _ _ e,(TupS.of k).goods (h.good z) g⟩) (λz=>let ⟨D,e,g⟩:=h.d z;⟨D,k _ _ e,g⟩) (k _ _ h.b) (let ⟨v,e,g⟩:=h.f;⟨v,k _ _ e,(TupS.of k).opts g⟩) (let ⟨v,e,g⟩:=h.r;⟨v,k _ _ e,g.mono (.of k)<|.of k⟩) h.good h.len
structure MH (A:SA):Prop where
 bf:A.b≠A.f
 br:A.b≠A.r
 fr:A.f≠A.r
 lb:∀z,A.ll z≠A.b
 lf:∀z,A.ll z≠A.f
 lr:∀z,A.ll z≠A.r
 ll:A.ll MW≠A.ll MX
theorem SrAt.nes(h:SrAt m A t s S H):MH A:=by
 have:=h.nd;simp only[O9,Nz,QI,Ys,not_or]at this;obtain⟨⟨a,c,e,g⟩,⟨B,i,j⟩,⟨C,k⟩,D,_⟩:=this;exact⟨a,c,B,(λz=>by cases z;exact OV e;exact OV g),(λz=>by cases z;exact OV i;exact OV j),(λz=>by cases z;exact OV C;exact OV k),D⟩
theorem Mo(h:MH A)(e:a≠b):A.ll a≠A.ll b:=by
 cases a<;>cases b
 ·exact absurd rfl e
 ·exact h.ll
 ·exact λz=>h.ll z.symm
 exact absurd rfl e
theorem SrAt.ne_p(h:SrAt C A t c S H){a b:Nf}(e:a≠b):A.pp a≠A.pp b:=by
 cases a<;>cases b
 ·exact absurd rfl e
 ·exact h.np
 ·exact λz=>h.np z.symm
 exact absurd rfl e
end
inductive He (C:M0)(vs:gV V)(H:Hp)(Q:VK):Prop
 |mk (A:SA)(t:Str)(cs:gV (gV Int))(S:SS)(hw:Nf)(v u:V)(d:Nh)(c:gV Int)(h0:vs=[.ref A.x,.str<|ay hw,v,u])(h:SrAt C A t cs S H)(b:RD H d v)(g:aZ d)(e:CL H c u)(n:bK S<=9000)(q:∀a,SrAt C A t cs (dX hw d c S) a->Mv A H a->Q .non a)
def CJ(C:M0):Sp:=λv H Q _=>He C v H Q
theorem CK:al ["self","hand","line","literals"] ["self","hand","line","literals"] (ah CI):=d_
theorem oM(S:SS)(h:Nf):(S.lw h).length<=bK S:=by
 unfold bK;cases h<;>lia
theorem FU(F:Fun K "put" "Searcher.put" CI f fd)(T:lO K mg I):aP P w K mg aF cr 1 f fd ["self","hand","line","literals"] (CJ I):=by
 have sc:=CK;refine F.okA CK λQu A an s H k Q E hr h=>?_;obtain⟨B,t,cs,S,b,v,u,d,c,rfl,h,hv,hg,as,hn,q⟩:=h;have hu:=hr.units;have X:=pq hr;obtain⟨tc,rfl,Vd⟩:=as;obtain⟨D,m,az,x⟩:=h.d b;obtain⟨l,i,J⟩:=h.l b;have a0:=oM S b;have Pd:=h.len b;have a1:=bZ J;have L:H tc=B' (.tup<|(gP c).map kV):=by rw[kF];exact Vd
 have M:=DGet.t m L;rw[x c]at M;refine⟨_,(ax (aE (zC<|yq X (pv 3)<|cg X (bo (pv 0) rfl) (pv 1) λ_ _=>rfl) (ad (qK X (cg X (bo (pv 0) rfl) (pv 1) λ_ _=>rfl) (pv 3) (ag aD rfl T.len NP<|a9<|cg X (bo (pv 0) rfl) (pv 1) λ_ _=>rfl) rfl)
   (ax<|bu<|eS NJ Oj On bY (cg X (bo (pv 0) rfl) (pv 1) λ_ _=>rfl)<|a9<|pv 2)) am)),?_⟩
 exists _,rfl,_,rfl,B.x,I,B.dx,_,_,rfl,h.hx,T.cl,T.nP,rfl,_,rfl,B.dp,_,rfl,eP h.hd b,B.pp b,_,rfl,M,_,rfl;by_cases p:c∈S.ow b
 ·rw[Nt p];refine av<|q H ?_<|.of<|Same.refl _;rw[jg p];exact h
 rw[Np p];refine aB ?_;exists _,rfl,B.x,I,B.dx,_,_,rfl,h.hx,T.cl,T.nL,rfl,_,rfl,B.dl,_,rfl,eP h.hl b,.ref<|B.ll b,_,rfl,.inl ⟨_,SqL.of i,rfl⟩;exists _,rfl,B.x,I,B.dx,_,_,rfl,h.hx,T.cl,T.nP,rfl,_,rfl,B.dp,_,rfl,eP h.hd b,_,rfl,B.pp b,_,rfl,DPut.t m L (bH<|by lia);have oP:B.own (B.pp b):=.inr<|.inr<|.inr<|.inr ⟨b,.inr rfl⟩;have oL:B.own (B.ll b):=.inr<|.inr<|.inr<|.inr ⟨b,.inl rfl⟩;have m1:Mv B H (upd H (B.pp b)<|.dT<|dg D (gP c)<|.int (l.length:Nat)):=(Mv.of<|Same.refl H).upd oP _;have O:B.pp b≠B.ll b:=b_ m i (by intro z;cases z);have U:∀a o,H a=B' o->a≠B.pp b->upd H (B.pp b) (.dT<|dg D (gP c)<|.int (l.length:Nat)) a=B' o:=λa o e n=>by rw[aj n];exact e
 have s1:upd H (B.pp b) (.dT<|dg D (gP c)<|.int (l.length:Nat)) (B.pp b)=B' (.dT<|dg D (gP c)<|.int (l.length:Nat)):=aa;generalize upd H (B.pp b) (.dT<|dg D (gP c)<|.int (l.length:Nat))=W at m1 U s1 ⊢;have nx:B.x≠B.pp b:=b_ h.hx m (by intro z;cases z);have aC:=U _ _ h.hx nx;have VI:=U _ _ h.hl (b_ h.hl m<|by intro z;cases z);have Y:=U _ _ i<|OV O;have k1:=h.tups m1;exists _,rfl,B.x,I,B.dx,_,_,rfl,aC,T.cl,T.nL,rfl,_,rfl,B.dl,_,rfl,eP VI b,.inl ⟨rfl,_,SqL.of Y⟩,_,rfl,B.ll b,l,v,rfl,rfl,Y,bH (by lia);have Z:Mv B H (upd W (B.ll b)<|.lst<|l++[v]):=m1.upd oL _;have C:∀a o,H a=B' o->a≠B.pp b->a≠B.ll b->upd W (B.ll b) (.lst<|l++[v]) a=B' o:=λa o e n n2=>by rw[aj n2];exact U a o e n
 have s2:upd W (B.ll b) (.lst<|l++[v]) (B.ll b)=B' (.lst<|l++[v]):=aa;have s3:upd W (B.ll b) (.lst<|l++[v]) (B.pp b)=B' (.dT<|dg D (gP c)<|.int (l.length:Nat)):=by rw[aj O];exact s1
 generalize upd W (B.ll b) (.lst<|l++[v])=H2 at Z C s2 s3 ⊢;have k2:=h.tups Z;have N:=h.nes;refine q H2 (h.make (S':=dX b d c S) Z ?_ ?_ ?_ ?_ ?_ ?_ ?_ ?_) Z
 ·rw[hF];exact C _ _ h.hx nx (b_ h.hx i<|by intro z;cases z)
 ·intro z;rw[fk p];show∃k,H2 (B.ll z)=B' (.lst k)/\dw H2 (cY S.lw b d z) k
  by_cases e:z=b
  ·subst e;rw[bA];exact⟨_,s2,om (k2.goods (h.good z) J)<|ak (k2.good hg hv) aw⟩
  rw[cK _ _ e];obtain⟨k,j,G⟩:=h.l z;exact⟨k,C _ _ j (b_ j m<|by intro z;cases z)<|Mo N e,k2.goods (h.good z) G⟩
 ·intro z;rw[fk p];show∃D,H2 (B.pp z)=B' (.dT D)/\Jn D (cY S.ow b c z)
  by_cases e:z=b
  ·subst e;rw[bA];refine⟨_,s3,?_,λc'=>?_⟩
   ·have ZI:cR D (gP c)=none:=by rw[x c,Np p]
    rw[lQ ZI,M7,az];rfl
   rw[rW];by_cases e:c'=c
   ·subst e;rw[Nt rfl,Nt<|Oo _<|Nd.mpr rfl,YV,Np p];simp;lia
   rw[Np λz=>e<|hL.mp z,x c'];have ab:(c'∈S.ow z++[c])↔c'∈S.ow z:=by
    rw[NB,Nd];exact⟨λz=>z.elim id λz=>absurd z e,.inl⟩
   by_cases g:c'∈S.ow z
   ·rw[Nt g,Nt<|ab.mpr g,YV,Nt g]
   rw[Np g,Np λz=>g<|ab.mp z]
  rw[cK _ _ e];obtain⟨D',j,G⟩:=h.d z;exact⟨D',C _ _ j (h.ne_p e) (b_ j i<|by intro z;cases z),G⟩
 ·rw[hI];exact C _ _ h.b (b_ h.b m<|by intro z;cases z)<|OV<|N.lb b
 ·rw[hQ];obtain⟨k,j,G⟩:=h.f;exact⟨k,C _ _ j (b_ j m<|by intro z;cases z)<|OV<|N.lf b,k2.opts G⟩
 ·rw[hI];obtain⟨k,j,G⟩:=h.r;exact⟨k,C _ _ j (b_ j m<|by intro z;cases z)<|OV<|N.lr b,G.mono Z k2⟩
 ·intro z d' ac;rw[fk p]at ac;have r:d'∈cY S.lw b d z:=ac;by_cases e:z=b
  ·subst e;rw[bA]at r;obtain y|y:=NB.mp r
   ·exact h.good z d' y
   rw[Nd.mp y];exact hg
  rw[cK _ _ e]at r;exact h.good z d' r
 intro z;rw[fk p];show(cY S.ow b c z).length=(cY S.lw b d z).length
 by_cases e:z=b
 ·subst e;rw[bA,bA,M7,M7,h.len z];rfl
 rw[cK _ _ e,cK _ _ e];exact h.len z
inductive xy (C:M0)(vs:gV V)(H:Hp)(Q:VK):Prop
 |mk (A:SA)(t:Str)(cs:gV (gV Int))(S:SS)(hw:Nf)(v u:V)(d:Nh)(c:gV Int)(h0:vs=[.ref A.x,.str<|ay hw,v,u])(h:SrAt C A t cs S H)(e:RD H d v)(g:aZ d)(f:CL H c u)(hok:ap t.length c)(i:t.length<=40)(n:bK S<=8900)(q:∀a b,SrAt C A t cs (bq t hw d c S) b->Mv A H b->qc b a (aL t hw c)->Q (.ref a) b)
def jV(C:M0):Sp:=λv H Q _=>xy C v H Q
inductive CM (C:M0)(vs:gV V)(H:Hp)(Q:VK):Prop
 |mk (A:SA)(t:Str)(cs:gV (gV Int))(S:SS)(hw:Nf)(u U:V)(F c:gV Int)(z:Int)(h0:vs=[.ref A.x,.str<|ay hw,u,U,.int z])(h:SrAt C A t cs S H)(d:CL H F u)(e:CL H c U)(mF:F∈S.ow hw)(m:c∈S.ow hw)(okF:ap t.length F)(okC:ap t.length c)(hb:cJ F c z=MW)(f:t.length<=40)(n:bK S<=8900)(q:∀a b,SrAt C A t cs (bq t hw (cL (S.ow hw) F c z) (bI F c z) S) b->Mv A H b->qc b a (aL t hw<|bI F c z)->Q (.ref a) b)
def xz(C:M0):Sp:=λv H Q _=>CM C v H Q
theorem tQ:al ["self","hand","line","literals","left"] ["self","hand","line","literals"] (ah ri):=d_
theorem CN(h:H a=B' (.tup [.str aJ,.int (k:Int)])):RD H (oC k) (.ref a):=aX h<|ak (cD _)<|ak (dS _) aw
theorem tR(h:H a=B' (.tup [.str aW,.int (i:Int),.int (j:Int),.int z])):RD H (qo i j z) (.ref a):=aX h<|ak (cD _)<|ak (dS _)<|ak (dS _)<|ak (dS _) aw
theorem zm(F:Fun K "learn" "Searcher.learn" ri f fd)(T:lO K M C)(WU:Fe P w K M e 3 "dropped" iL)(Y:pX P w K M e cr 1 C "put" g2 e2 ["self","hand","line","literals"] (CJ C)):aP P w K M e cr 4 f fd ["self","hand","line","literals"] (jV C):=by
 have sc:=tQ;refine F.okA tQ λQu A o s H vs Q E r h=>?_;obtain⟨B,t,O,S,b,v,u,d,c,rfl,h,hv,hg,n,k,ht,hn,q⟩:=h;have hu:=r.units;have X:=pq r;obtain⟨l,rfl,p⟩:=n;have VJ:=aY k;refine⟨_,(ad (cM 4 sc.nd<|cE WU r<|au (bo (pv 0) rfl)<|aV (pv 1)<|pv 3)
  (ad (bu<|gk Y (pv 0) r (by lia)<|au (pv 1)<|aV (pv 2)<|pv 3)
  (ad (bu<|gk Y (pv 0) r (by lia)<|au (pv 1)<|aV (aU<|aV aQ<|cg X (cg X (bo (pv 0) rfl) (pv 1) λ_ _=>rfl) (pv 3) λ_ _=>rfl)<|pv 4)
  (bN<|pv 4)))),?_⟩
 refine⟨_,rfl,B.x,C,B.dx,_,_,rfl,h.hx,T.cl,T.nS,rfl,_,rfl,_,rfl,B.p,l,t,_,b,c,rfl,h.hp,(by lia),p,(by lia),k.2,λL H1 g y=>?_⟩;have z:=h.same g;refine⟨_,rfl,B.x,B.dx,_,rfl,z.hx,rfl,_,rfl,_,rfl,_,rfl,B,t,O,S,b,v,.ref l,d,c,rfl,z,fj g _ _ hv,hg,⟨l,rfl,g _ _ p⟩,(by lia),λG i U=>?_⟩;have W:=z.tups U;have I:=W _ _<|g _ _ p;have j:qc G L (aL t b c):=W _ _ y;have hm:c∈(dX b d c S).ow b:=mx;obtain⟨D,hD,ab,J⟩:=i.d b;have N:G l=B' (.tup<|(gP c).map kV):=by rw[kF];exact I
 have x:=DGet.t hD N;rw[J c,Nt hm]at x;refine⟨_,rfl,B.x,B.dx,_,rfl,i.hx,rfl,_,rfl,_,rfl,B.x,C,B.dx,_,_,rfl,i.hx,T.cl,T.nP,rfl,_,rfl,B.dp,_,rfl,eP i.hd b,_,rfl,B.pp b,_,rfl,x,(by show 2<=sizeLine;decide),λa na=>?_⟩;have m:=af na<|.tup [.str aJ,.int (((dX b d c S).ow b).idxOf c:Nat)];have Z:=i.same m;have s3:upd G a (.tup [.str aJ,.int (((dX b d c S).ow b).idxOf c:Nat)]) a=B' (.tup [.str aJ,.int (((dX b d c S).ow b).idxOf c:Nat)]):=aa;have ac:=kK (h:=b) (d:=d) (c:=c) (S:=S);refine⟨_,rfl,B,t,O,dX b d c S,b,_,.ref L,oC<|((dX b d c S).ow b).idxOf c,aL t b c,rfl,Z,CN s3,qp _,⟨L,rfl,m _ _ j⟩,(by lia),λH4 h4 m4=>?_⟩;exact⟨_,rfl,q L H4 h4 ((Mv.of g).trans<|U.trans<|(Mv.of m).trans m4)<|(Z.tups m4) _ _<|m _ _ j⟩
theorem xA:al ["self","hand","first","second","variable","places","line"] ["self","hand","first","second","variable"] (ah vp):=d_
theorem CO(F:Fun K "learn_join" "Searcher.learn_join" vp f fd)(T:lO K Z C)(ab:Fe P w K Z g 1 "joined" jO)(ac:pX P w K Z g cr 4 C "learn" g2 e2 ["self","hand","line","literals"] (jV C)):aP P w K Z g cr 5 f fd ["self","hand","first","second","variable"] (xz C):=by
 have sc:=xA;refine F.okA xA λQu A an s H vs Q E L h=>?_;obtain⟨B,t,cs,S,d,u1,u2,e,c,z,rfl,h,as,az,mF,mC,o,O,hb,ht,hn,q⟩:=h;have hu:=L.units;have X:=pq L;obtain⟨M,rfl,i⟩:=as;obtain⟨t2,rfl,l⟩:=az;obtain⟨D,hD,ba,v⟩:=h.d d;have l1:=aY o;have l2:=aY O;have n:H M=B' (.tup<|(gP e).map kV):=by rw[kF];exact i
 have p:H t2=B' (.tup<|(gP c).map kV):=by rw[kF];exact l
 have G:=DGet.t hD n;rw[v e,Nt mF]at G;have u:=DGet.t hD p;rw[v c,Nt mC]at u;have JE:∀r,Joins e c z r->r=bI e c z:=λr aC=>Joins.eq o.1 O.1 hb aC;have N:=jK o O hb;refine⟨_,(ad (cM 5 sc.nd<|cg X (bo (pv 0) rfl) (pv 1) λ_ _=>rfl)
  (ad (cM 6 sc.nd<|aU<|au aQ<|au (cg X (pv 5) (pv 2) λ_ _=>rfl)<|aV (cg X (pv 5) (pv 3) λ_ _=>rfl)<|pv 4)
  (ad (aE (cp du (fq di<|pv 4) (pv 2)<|by with_unfolding_all rfl) (ax<|cM 6 sc.nd<|aU<|au aQ<|au (cg X (pv 5) (pv 3) λ_ _=>rfl)<|aV (cg X (pv 5) (pv 2) λ_ _=>rfl)<|pv 4) am)
  (bN<|gk ac (pv 0) L (by lia)<|au (pv 1)<|aV (pv 6)<|cE ab L<|au (pv 2)<|aV (pv 3)<|pv 4)))),?_⟩
 exists _,rfl,B.x,C,B.dx,_,_,rfl,h.hx,T.cl,T.nP,rfl,_,rfl,B.dp,_,rfl,eP h.hd d;refine⟨_,rfl,_,rfl,B.pp d,_,rfl,G,_,rfl,_,rfl,B.pp d,_,rfl,u,_,rfl,(by show 4<=sizeLine;decide),λa1 n1=>?_⟩;have j:=af n1<|.tup [.str aW,.int ((S.ow d).idxOf e:Nat),.int ((S.ow d).idxOf c:Nat),.int z];have s1:upd H a1 (.tup [.str aW,.int ((S.ow d).idxOf e:Nat),.int ((S.ow d).idxOf c:Nat),.int z]) a1=B' (.tup [.str aW,.int ((S.ow d).idxOf e:Nat),.int ((S.ow d).idxOf c:Nat),.int z]):=aa;have m:∀U a,Same H U->RD U (cL (S.ow d) e c z) (.ref a)->aZ (cL (S.ow d) e c z)->DR (rR C "learn" (jV C) [] E0 (mI 0)<|dz (mI 1)<|dz (mI 6)<|dz (vT jO [] E0<|dz (mI 2)<|dz (mI 3)<|dz (mI 4) gE) gE) {nx:=λ_ H'=>Q .non H',rt:=Q} [B'<|.ref B.x,B'<|.str<|ay d,B'<|.ref M,B'<|.ref t2,B'<|.int z,B'<|.ref<|B.pp d,B'<|.ref a] U:=by
  intro U a k aF a0;have h1:=h.same k;refine⟨_,rfl,B.x,B.dx,_,rfl,h1.hx,rfl,_,rfl,_,rfl,_,rfl,_,rfl,_,rfl,M,t2,e,c,z,rfl,k _ _ i,k _ _ l,⟨by lia,by have:=aY N;lia⟩,o.1,O.1,hb,λlj r H2 W hj a3=>?_⟩;obtain rfl:=JE r hj;have x:=k.trans W;exact⟨B,t,cs,S,d,_,.ref lj,cL (S.ow d) e c z,bI e c z,rfl,h.same x,fj W _ _ aF,a0,⟨lj,rfl,a3⟩,N,ht,hn,λb H3 h3 m3 a4=>q b H3 h3 ((Mv.of x).trans m3) a4⟩
 have a5:(if MW=MX then !iR (.int (-z)) (e.map V.int)else iR (.int (-z)) (e.map V.int))=e.contains (-z):=by rw[Np Ni,cm]
 exists _,rfl,_,rfl,_,rfl,M,_,rfl,.inr<|SqT.of<|j _ _ i,rfl,bC _,_,rfl;rw[a5];cases Y:e.contains (-z)with
 |false=>
  refine av<|m _ a1 j ?_ ?_
  ·unfold cL;rw[Y,Np Ni];exact tR s1
  ·unfold cL;rw[Y,Np Ni];exact iP _ _ _
 |true=>
  have y:=j _ _ hD;have a6:=j _ _ n;have a7:=j _ _ p;have I:=DGet.t y a6;rw[v e,Nt mF]at I;have J:=DGet.t y a7;rw[v c,Nt mC]at J;refine aB ⟨_,rfl,_,rfl,B.pp d,_,rfl,J,_,rfl,_,rfl,B.pp d,_,rfl,I,_,rfl,(by show 4<=sizeLine;decide),λa2 n2=>?_⟩;have W:=af n2<|.tup [.str aW,.int ((S.ow d).idxOf c:Nat),.int ((S.ow d).idxOf e:Nat),.int z];refine m _ a2 (j.trans W) ?_ ?_
  ·unfold cL;rw[Y,Nt rfl];exact tR aa
  unfold cL;rw[Y,Nt rfl];exact iP _ _ _
noncomputable abbrev vq:OZ:=dN 22
noncomputable abbrev vt:OZ:=dN 46
noncomputable abbrev vv:OZ:=fh (dN 48) 4
def xB:Sp:=λv H Q _=>∃(n:Int) (b:Nf),v=[.int n,.bl b]/\Q (.int (if b=MX then n else -n)) H
noncomputable def xC:MZ (gV Int)->Int->MZ (gV Int)
 |none,_=>M5
 |some r,z=>if r.contains z=MX then M5 else if r.contains (-z)=MX then B' (r.drop 1)else B' r
inductive CP (vs:gV V)(H:Hp)(Q:VK):Prop
 |mk (v:V)(o:MZ (gV Int))(z:Int)(h0:vs=[v,.int z])(b:lP H o v)(d:∀c,o=B' c->c.length<=60)(q:∀a h,Same H h->lP h (xC o z) a->Q a h)
def xD:Sp:=λv H Q _=>CP v H Q
theorem kT(H:1<=absI l):bW MX (B++[b]) l=(bW MX B l || decide (l=if b=MX then(B.length:Int)+1 else -((B.length:Int)+1))):=by
 obtain g|g|g:=PM (absI l-1).toNat B.length
 ·rw[nV g,M6,XU];intro z;have:absI l=(B.length:Int)+1:=by
   rw[z]
   split
   ·exact cW (by lia)
   rw[fm];exact cW (by lia)
  lia
 ·rw[nX g,dM<|S5 g.symm,TU];have h:absI l=(B.length:Int)+1:=by lia
  obtain e|e:=Cw (by lia) h
  ·rw[e,Ng (show(0:Int)<(B.length:Int)+1 by lia)];cases b
   ·rw[Np Ni,M6<|by lia];rfl
   rw[Nt rfl,Ng rfl];rfl
  rw[e,M6 (show¬(0:Int) < -((B.length:Int)+1) by lia)];cases b
  ·rw[Np Ni,Ng rfl];rfl
  rw[Nt rfl,M6<|by lia];rfl
 rw[dM (by rw[M7,NG];lia),dM (by lia),M6,TU];intro z;have:absI l=(B.length:Int)+1:=by
  rw[z]
  split
  ·exact cW (by lia)
  rw[fm];exact cW (by lia)
 lia
theorem zn(k:ap n c):xC (cZ B c) (if b=MX then(B.length:Int)+1 else -((B.length:Int)+1))=cZ (B++[b]) c:=by
 generalize d:(if b=MX then(B.length:Int)+1 else -((B.length:Int)+1))=z;have A:absI z=(B.length:Int)+1:=by
  rw[<-d]
  split
  ·exact cW (by lia)
  rw[fm];exact cW (by lia)
 have O:c.any (bW MX<|B++[b])=(c.any (bW MX B) || c.contains z):=by
  rw[O0,P2,N4,N4,Nj];constructor
  ·rintro⟨l,H,h⟩;rw[kT (k.2 l H).1,d,P2]at h;exact h.imp (λq=>⟨l,H,q⟩) λq=>by rw[<-(N0 q:l=z)];exact H
  rintro (⟨l,H,h⟩|h)
  ·exact⟨l,H,by rw[kT (k.2 l H).1,h,YY]⟩
  exact⟨z,h,by rw[kT (k.2 z h).1,d,Ng rfl,Bool.or_true]⟩
 unfold cZ;rw[O,M7,NG];cases j:c.any (bW MX B)with
 |true=>rfl
 |false=>
  rw[Np Ni,TU];show(if(c.filter λl=>decide ((B.length:Int)<absI l)).contains z=MX then M5 else if(c.filter λl=>decide ((B.length:Int)<absI l)).contains (-z)=MX then B' ((c.filter λl=>decide ((B.length:Int)<absI l)).drop 1)else B' (c.filter λl=>decide ((B.length:Int)<absI l)))=_
  have U:∀y,absI y=(B.length:Int)+1->((c.filter λl=>decide ((B.length:Int)<absI l)).contains y=MX↔y∈c):=λy o=>by
   rw[Nj,NM,NX];exact⟨λq=>q.1,λq=>⟨q,by lia⟩⟩
  by_cases g:z∈c
  ·rw[Nt<|(U z A).mpr g,Nt<|Nj.mpr g]
  rw[Np λq=>g<|(U z A).mp q,Np λq=>g<|Nj.mp q];have f:c.filter (λl=>decide (((B.length+1:Nat):Int)<absI l))=(c.filter λl=>decide ((B.length:Int)<absI l)).filter λl=>decide (((B.length+1:Nat):Int)<absI l):=by
   rw[List.filter_filter];refine Vt λl _=>?_;rw[O0,N5,NX,NX];lia
  have p:Ups (c.filter λl=>decide ((B.length:Int)<absI l)):=Om.mpr<|RW _<|Om.mp k.1;have t:∀l∈c.filter λl=>decide ((B.length:Int)<absI l),(B.length:Int)<absI l:=λl H=>N0 (NM.mp H).2;have a:∀l∈c.filter λl=>decide ((B.length:Int)<absI l),absI l=(B.length:Int)+1->l=-z:=λl H e=>by
   have E:absI l=absI z:=by lia
   obtain q|q:=jH E
   ·exact absurd (q▸(NM.mp H).1) g
   lia
  rw[f];generalize c.filter (λl=>decide ((B.length:Int)<absI l))=r at p t a U;by_cases G:r.contains (-z)=MX
  ·rw[Nt G]
   congr 1
   have m:=Nj.mp G;cases r with
   |nil=>cases m
   |cons x r=>
    have s:absI x=(B.length:Int)+1:=by
     have i:=t x Nl;obtain e|e:=Nz.mp m
     ·rw[<-e,fm];exact A
     have:=p.head _ e;rw[fm,A]at this;lia
    rw[P_<|by rw[NX];lia];show r=_
    refine(Sf.mpr λl H=>?_).symm;have:=p.head l H;rw[NX];lia
  rw[Np G]
  congr 1
  refine(Sf.mpr λl H=>?_).symm;have i:=t l H;rw[NX];obtain q|q|q:=Int.lt_trichotomy (absI l) ((B.length:Int)+1)
  ·lia
  ·exact absurd (Nj.mpr<|a l H q▸H) G
  lia
theorem xE:al ["variable","value"] ["variable","value"] (ah vq):=d_
theorem CQ(F:Fun K "literal_by" "literal_by" vq f d):aP P w K m B cr 1 f d ["variable","value"] xB:=by
 have c:=xE;refine F.okA xE λu A o s H v Q E r h=>?_;obtain⟨n,b,rfl,q⟩:=h;exists _,(bN<|jl (aK<|pv 1) (pv 0)<|fq di<|pv 0);exists _,rfl,_,rfl;cases b with
 |true=>exact aB ⟨_,rfl,q⟩
 |false=>exact av ⟨_,rfl,_,rfl,q⟩
theorem xF:al ["rest","literal"] ["rest","literal"] (ah vt):=d_
theorem CT(F:Fun K "rest_behind" "rest_behind" vt f l):aP P w K M B cr 1 f l ["rest","literal"] xD:=by
 have C:=xF;refine F.okA xF λD A O s H I Q E J h=>?_;obtain⟨v,o,z,rfl,i,L,q⟩:=h;refine⟨_,(ad (aE (PW.pt<|cI (ee ib (pv 0) bg)<|cO<|cp du (pv 1) (pv 0)<|by with_unfolding_all rfl) (bN bg) am)
  (bN<|jl (cp du (fq di<|pv 1) (pv 0)<|by with_unfolding_all rfl) (gG E6 (pv 0) (gU ae) jo)<|pv 0)),?_⟩
 cases o with
 |none=>
  have g:v=.non:=i;subst g;exists _,rfl,rfl,_,rfl;rw[Ng rfl];exact aB<|aB<|q _ _ (Same.refl _) rfl
 |some r=>
  obtain⟨t,rfl,a⟩:=i;have e:∀y,(if MW=MX then !iR (.int y) (r.map V.int)else iR (.int y) (r.map V.int))=r.contains y:=λy=>by rw[Np Ni,cm]
  exists _,rfl,rfl,_,rfl;rw[M6 λz=>by cases z];refine av ⟨_,rfl,_,rfl,t,_,rfl,.inr<|SqT.of a,rfl,bC _,_,rfl,?_⟩;rw[e];cases j:r.contains z with
  |true=>exact aB<|q _ _ (Same.refl _) (by show lP H (if r.contains z=MX then M5 else _) .non;rw[Nt j];rfl)
  |false=>
   have d:∀c b,Same H b->lP b (if r.contains (-z)=MX then B' (r.drop 1)else B' r) c->Q c b:=λc b k m=>q c b k (by
    show lP b (if r.contains z=MX then M5 else if r.contains (-z)=MX then B' (r.drop 1)else B' r) c
    rw[Np<|by rw[j];exact Ni];exact m)
   refine av ⟨_,rfl,_,rfl,_,rfl,t,_,rfl,.inr<|SqT.of a,rfl,bC _,_,rfl,?_⟩;rw[e];cases G:r.contains (-z)with
   |true=>
    rw[G]at d;have n:=Nj.mp G;have T:1<=r.length:=Rm n;refine aB ⟨_,rfl,1,rfl,t,_,rfl,SqT.of a,λU=>?_,λ_ p N=>?_⟩
    ·have u:HT.sIx (r.map V.int).length 0 (B' 1)=min 1 (r.map V.int).length:=HT.sIx_nat _ 0 1;rw[u,MY]at U;lia
    ·have x:eQ (r.map V.int) (B' 1) M5=(r.drop 1).map V.int:=by
      rw[show(B' (1:Int))=B' (((1:Nat):Int))from rfl,sD,O']
     rw[x];exact d _ _ (af N _) ⟨p,rfl,aa⟩
   |false=>
    rw[G]at d;exact av ⟨_,rfl,d _ _ (Same.refl _) ⟨t,rfl,a⟩⟩
inductive CU (C:M0)(vs:gV V)(H:Hp)(Q:VK):Prop
 |mk (A:SA)(t:Str)(cs:gV (gV Int))(S:SS)(b:Nf)(f:V)(o:MZ (gV Int))(h0:vs=[.ref A.x,.bl b,f])(h:SrAt C A t cs S H)(d:lP H o f)(e:∀c∈cs,ap t.length c)(g:t.length<=40)(s:cs.length<=900)(hb:S.bs.length<=80)(i:S.fs.length<=80)(q:∀a,SrAt C A t cs (eT b o S) a->Mv A H a->Q .non a)
def rj(C:M0):Sp:=λv H Q _=>CU C v H Q
theorem fY{a b:Type}{R:a->b->Prop}{A:gV a}{B:gV b}(h:Paired R A B):A.length=B.length:=by
 induction h with
 |nil=>rfl
 |cons _ _ i=>rw[NC,NC,i]
theorem qu{d c:Type}{R:d->c->Prop}{A:gV d}{B:gV c}(h:Paired R A B):∀{i:Nat} {b:c},B[i]?=B' b->∃a,A[i]?=B' a/\R a b:=by
 induction h with
 |nil=>intro i b e;simp at e
 |cons r _ I=>
  intro i b e;cases i with
  |zero=>
   have E:=Nw (show B' _=B' b from e);subst E;exact⟨_,rfl,r⟩
  |succ i=>
   obtain⟨a,f,g⟩:=I (i:=i) (b:=b) (by simpa using e);exact⟨a,by simpa using f,g⟩
theorem lL{c d:Type}{R:c->d->Prop}{A:gV c}{B:gV d}{a:c}{b:d}(h:Paired R A B)(r:R a b):Paired R (A++[a]) (B++[b]):=by
 induction h with
 |nil=>exact .cons r .nil
 |cons e _ i=>exact .cons e i
theorem my{x:gV V}{y:V}(h:x[x.length-1]?=B' y):j0 x (-1)=B' y:=by
 have H:0<x.length:=by
  have:=(M'.mp h).1;lia
 unfold j0 HL;rw[Np (by decide),Nt<|by lia];show x[(-1+(x.length:Int)).toNat]?=B' y
 rw[show(-1+(x.length:Int)).toNat=x.length-1 by lia];exact h
inductive Hf (h:Hp)(D:M0)(z:Int)(os:gV (MZ<|gV Int))(i:Nat)(a:St)(ys:gV V)(H:Hp):Prop
 |mk (v:MZ V)(h0:a=[v,B' (.int z)])(b:H D=B' (.lst ys))(c:Same h H)(d:iD H ((os.take i).map λo=>xC o z) ys)
theorem xG:al ["self","value","first","literal"] ["self","value","first"] (ah vv):=d_
theorem CV(F:Fun K "fill_in" "Searcher.fill_in" vv f fd)(T:lO K mg CS)(aF:Fe P w K mg M 1 "literal_by" xB)(a0:Fe P w K mg M 1 "rest_behind" xD):aP P w K mg M cr 2 f fd ["self","value","first"] (rj CS):=by
 have sc:=xG;refine F.okA xG λQu A a1 s H vs Q E hr h=>?_;obtain⟨B,t,cs,S,b,U,o,rfl,h,ho,hc,ht,SI,bk,bl,q⟩:=h;have hu:=hr.units;have N:=h.nes;obtain⟨j,hf,Xs⟩:=h.f;have bm:=fY Xs;refine⟨_,(ad (eU (i:=3) sc.nd rfl (SE rfl)<|cE aF hr<|aV (ar dG (ag aD rfl T.len NP<|a9<|bo (pv 0) rfl) ae)<|pv 1)
  (ad (bu<|eS NJ Oj On bY (bo (pv 0) rfl)<|a9<|pv 1)
  (ad (bu<|eS NJ Oj On bY (bo (pv 0) rfl)<|a9<|pv 2)
  (ax<|bu<|eS NJ Oj On bY (bo (pv 0) rfl)<|a9<|bj (N:=["rest","literal"]) (d:=[M5,B' 3]) rfl cS (bO<|a_ (bo (pv 0) rfl)<|fq di ae) (λ_ _ _ _=>(eu 0<|nD ["rest","literal"])) (λ_ _ _ _=>dO) λ_ _ _ _=>(cE a0 hr<|aV (pv 0)<|pv 1))))),?_⟩
 exists _,rfl,B.x,CS,B.dx,_,_,rfl,h.hx,T.cl,T.nB,rfl,.ref B.b,_,rfl,.inl ⟨_,SqL.of h.b,rfl⟩,_,_,rfl,rfl,_,rfl,_,b,rfl;rw[MY];generalize hz:(if b=MX then((S.bs.length:Nat):Int)+1 else -(((S.bs.length:Nat):Int)+1))=z;exists _,rfl,B.x,CS,B.dx,_,_,rfl,h.hx,T.cl,T.nB,rfl,.inl ⟨rfl,_,SqL.of h.b⟩,_,rfl,B.b,_,_,rfl,rfl,h.b,aR (by rw[MY];lia);have oB:B.own B.b:=.inr<|.inl rfl;have oF:B.own B.f:=.inr<|.inr<|.inl rfl;have oR:B.own B.r:=.inr<|.inr<|.inr<|.inl rfl;have W:B.x≠B.b:=b_ h.hx h.b (by intro z;cases z);have an:B.x≠B.f:=b_ h.hx hf (by intro z;cases z);have m1:Mv B H (upd H B.b<|.lst<|S.bs.map V.bl++[.bl b]):=(Mv.of<|Same.refl H).upd oB _;have XM:∀a u,H a=B' u->a≠B.b->upd H B.b (.lst<|S.bs.map V.bl++[.bl b]) a=B' u:=λa u e n=>by rw[aj n];exact e
 have s1:upd H B.b (.lst<|S.bs.map V.bl++[.bl b]) B.b=B' (.lst<|S.bs.map V.bl++[.bl b]):=aa;generalize upd H B.b (.lst<|S.bs.map V.bl++[.bl b])=H1 at m1 XM s1 ⊢;have a2:=XM _ _ h.hx W;have as:=XM _ _ hf<|OV N.bf;exists _,rfl,B.x,CS,B.dx,_,_,rfl,a2,T.cl,T.nF,rfl,.inl ⟨rfl,_,SqL.of as⟩,_,rfl,B.f,_,_,rfl,rfl,as,aR (by lia);have m2:Mv B H (upd H1 B.f<|.lst<|j++[U]):=m1.upd oF _;have Vc:∀a u,H a=B' u->a≠B.b->a≠B.f->upd H1 B.f (.lst<|j++[U]) a=B' u:=λa u e n n2=>by rw[aj n2];exact XM a u e n
 have s2:upd H1 B.f (.lst<|j++[U]) B.f=B' (.lst<|j++[U]):=aa;have X:upd H1 B.f (.lst<|j++[U]) B.b=B' (.lst<|S.bs.map V.bl++[.bl b]):=by rw[aj N.bf];exact s1
 generalize upd H1 B.f (.lst<|j++[U])=H2 at m2 Vc s2 X ⊢;have k2:=h.tups m2;have Y3:=Vc _ _ h.hx W an;obtain⟨r,ZF,Y⟩:=h.r;have J:=Vc _ _ ZF (OV N.br)<|OV N.fr;have a3:=Y.mono m2 k2;have a4:=Y.len;have RI:r[r.length-1]?=B' (r.getD (r.length-1) .non):=getD_some (by lia);obtain⟨a,ws,ev,ab,br,ac⟩:=a3.at_ _ _ RI;rw[ev]at RI;rw[show r.length-1=S.bs.length by lia,Nn<|Na _]at ac;have bs:=fY ac;have bt:(cn t cs S.bs).length=cs.length:=MY _;refine⟨_,rfl,B.x,CS,B.dx,_,_,rfl,Y3,T.cl,T.nR,rfl,.inl ⟨rfl,_,SqL.of J⟩,_,rfl,B.x,CS,B.dx,_,_,rfl,Y3,T.cl,T.nR,rfl,_,rfl,(iw J (my RI) ⟨a,rfl,⟨_,SqL.of ab⟩,λD nD=>?_⟩)⟩;have b1:a≠D:=ai ab nD;have az:¬B.taken D:=λZ=>by
  obtain(Z|Z|Z|Z|⟨y,Z|Z⟩)|Z:=Z
  ·rw[Z,Y3]at nD;cases nD
  ·rw[Z,X]at nD;cases nD
  ·rw[Z,s2]at nD;cases nD
  ·rw[Z,J]at nD;cases nD
  ·obtain⟨vs,e,_⟩:=h.l y;rw[Z,Vc _ _ e (N.lb y)<|N.lf y]at nD;cases nD
  ·obtain⟨D',e,_⟩:=h.d y;rw[Z,Vc _ _ e (b_ e h.b<|by intro z;cases z)<|b_ e hf<|by intro z;cases z]at nD;cases nD
  obtain⟨n,o,e⟩:=h.far _ Z;rw[m2 _ _ n e]at nD;cases nD
 refine c_ (K:=K) (a:=a) (xs:=ws) (Hf H2 D z<|cn t cs S.bs) ⟨M5,rfl,aa,af nD _,.nil⟩ ?_ ?_ ?_
 ·rintro i σ ys p _ ⟨_,_,i1,I,_⟩;exact⟨i1,SqL.of<|I _ _ ab⟩
 ·rintro i x σ ys p hx ⟨v0,rfl,i1,I,i3⟩;obtain⟨oi,d,a5⟩:=qu ac hx;have WQ:=(M'.mp d).1;have a6:=fY i3;rw[MY,NO]at a6;have a7:∀c,oi=B' c->c.length<=60:=λc e=>by
   unfold cn at d;rw[Nu]at d;cases g:cs[i]? with
   |none=>rw[g]at d;cases d
   |some c0=>
    rw[g]at d;have m:cZ S.bs (aL t MW c0)=B' c:=(Nw d).trans e;unfold cZ at m
    split at m
    ·cases m
    rw[<-Nw m];have h1:=OX (λl=>decide ((S.bs.length:Int)<absI l))<|aL t MW c0;have h2:=aY<|gJ (t:=t) (w:=MW)<|hc c0<|Nc g;lia
  refine fu ⟨_,rfl,_,rfl,x,oi,z,rfl,(TupS.of I).opt a5,a7,λv' H4 L ba=>?_⟩;have C:=L _ _ i1;have tk:TupS H4 (upd H4 D<|.lst<|ys++[v']):=λb' bb e=>by rw[aj λZ=>by rw[Z,C]at e;cases e];exact e
  exists C,aR (by lia),_,rfl,aa,(I.trans L).upd_new nD _;rw[Oc,d,NI];exact lL (((TupS.of L).trans tk).opts i3)<|tk.opt ba
 rintro σ ys p ⟨_,_,i1,I,i3⟩;rw[Nn<|by lia]at i3;have b2:=I _ _ Y3;have aC:=I _ _ J;exists B.r,r,_,rfl,rfl,aC,aR (by lia);have m4:Mv B H (upd p B.r<|.lst<|r++[.ref D]):=(m2.trans<|.of I).upd oR _;have O:∀a u,H a=B' u->a≠B.b->a≠B.f->a≠B.r->upd p B.r (.lst<|r++[.ref D]) a=B' u:=λa u e n n2 n3=>by rw[aj n3];exact I _ _<|Vc a u e n n2
 have L:=h.tups m4;have bc:D≠B.r:=λZ=>az (by rw[Z];exact .inl oR);have C:upd p B.r (.lst<|r++[.ref D]) D=B' (.lst ys):=by rw[aj bc];exact i1
 have tk:TupS p (upd p B.r<|.lst<|r++[.ref D]):=λb' bb e=>by rw[aj λZ=>by rw[Z,aC]at e;cases e];exact e
 have sr:upd p B.r (.lst<|r++[.ref D]) B.r=B' (.lst<|r++[.ref D]):=aa;have sb:upd p B.r (.lst<|r++[.ref D]) B.b=B' (.lst<|S.bs.map V.bl++[.bl b]):=by rw[aj N.br];exact I _ _ X
 have sf:upd p B.r (.lst<|r++[.ref D]) B.f=B' (.lst<|j++[U]):=by rw[aj N.fr];exact I _ _ s2
 generalize upd p B.r (.lst<|r++[.ref D])=H4 at m4 O L C tk sr sb sf ⊢;refine q H4 (h.make (S':=eT b o S) m4 ?_ ?_ ?_ ?_ ?_ ?_ h.good h.len) m4
 ·exact O _ _ h.hx W an (b_ h.hx ZF<|by intro z;cases z)
 ·intro y;obtain⟨vs,G,m⟩:=h.l y;exact⟨vs,O _ _ G (N.lb y) (N.lf y)<|N.lr y,L.goods (h.good y) m⟩
 ·intro y;obtain⟨D',G,m⟩:=h.d y;exact⟨D',O _ _ G (b_ G h.b<|by intro z;cases z) (b_ G hf<|by intro z;cases z) (b_ G ZF<|by intro z;cases z),m⟩
 ·show H4 B.b=B' (.lst<|(S.bs++[b]).map V.bl)
  rw[NI];exact sb
 ·exact⟨_,sf,lL (L.opts Xs)<|L.opt ho⟩
 refine⟨_,sr,?_,λk v hk=>?_⟩
 ·show(r++[V.ref D]).length=(S.bs++[b]).length+1
  rw[M7,M7,a4];rfl
 by_cases g:k<r.length
 ·rw[N3 g]at hk;obtain⟨a',bd,G,m,e3,e4⟩:=(Y.mono m4 L).at_ k v hk;exists a',bd,G,m,e3;have:(eT b o S).bs.take k=S.bs.take k:=Qt (by lia);rw[this];exact e4
 rw[N7<|by lia]at hk;have be:k=r.length:=by
  have:=(M'.mp hk).1;rw[NG]at this;lia
 subst be;rw[P1]at hk;cases hk;exists D,ys,rfl,C,az;have G:(eT b o S).bs.take r.length=S.bs++[b]:=Nn (by show(S.bs++[b]).length<=_;rw[M7,NG];lia);rw[G];have m:(cn t cs S.bs).map (λo=>xC o z)=cn t cs (S.bs++[b]):=by
  unfold cn;rw[Ot];refine Sa λc bf=>?_;rw[<-hz];exact zn<|gJ (t:=t) (w:=MW)<|hc c bf
 rw[<-m];exact tk.opts i3
noncomputable abbrev vw:OZ:=fh (dN 48) 5
inductive CY (C:M0)(vs:gV V)(H:Hp)(Q:VK):Prop
 |mk (A:SA)(t:Str)(cs:gV (gV Int))(S:SS)(hw:Nf)(u:V)(c:gV Int)(h0:vs=[.ref A.x,.str<|ay hw,u])(h:SrAt C A t cs S H)(b:CL H c u)(T:oG t cs hw c S)(d:∀c∈cs,ap t.length c)(e:t.length<=40)(s:cs.length<=900)(n:bK S+2*pend S.fs<=8800)(q:∀a,SrAt C A t cs (d9 t hw S.bs.length c S) a->Mv A H a->Q .non a)
def xH(C:M0):Sp:=λv H Q _=>CY C v H Q
inductive C0 (C:M0)(A:SA)(t:Str)(cs:gV (gV Int))(hw:Nf)(R:SS)(H:Hp)(m:Nat)(b:St)(a:Hp):Prop
 |mk (c:gV Int)(S:SS)(u:V)(v d e:MZ V)(h0:b=[B'<|.ref A.x,B'<|.str<|ay hw,B' u,v,d,e])(h:SrAt C A t cs S a)(f:Mv A H a)(g:CL a c u)(T:oG t cs hw c S)(k:S.bs.length=m)(n:bK S+2*pend S.fs<=8800)(i:d9 t hw m c S=R)
theorem K6(b:∀R,R p H->T a H R)(c:∀R,R q H->d a H R)(h:if(p || q)=MX then t D a H else u D a H):JI (Mt T d) t u D a H:=by
 refine b _ ?_;cases p with
 |true=>exact aB h
 |false=>exact av<|c _ h
section
variable {S:SS}
theorem SrAt.pop(h:SrAt M A t C S H)(hk:S.bs.length=k+1)(q:H A.f=B' (.lst F))(X:iD H S.fs F)(D:H A.r=B' (.lst s))(c:Rsts A t C S.bs H s):
  SrAt M A t C (ck S) (upd (upd (upd H A.b<|.lst (S.bs.map V.bl).dropLast) A.f<|.lst F.dropLast) A.r<|.lst s.dropLast)/\Mv A H (upd (upd (upd H A.b<|.lst (S.bs.map V.bl).dropLast) A.f<|.lst F.dropLast) A.r<|.lst s.dropLast):=by
 have N:=h.nes;have O:A.own A.b:=.inr<|.inl rfl;have P:A.own A.f:=.inr<|.inr<|.inl rfl;have Q:A.own A.r:=.inr<|.inr<|.inr<|.inl rfl;have m:Mv A H (upd (upd (upd H A.b<|.lst (S.bs.map V.bl).dropLast) A.f<|.lst F.dropLast) A.r<|.lst s.dropLast):=(((Mv.of<|Same.refl H).upd O _).upd P _).upd Q _;have p:∀a u,H a=B' u->a≠A.b->a≠A.f->a≠A.r->upd (upd (upd H A.b<|.lst (S.bs.map V.bl).dropLast) A.f<|.lst F.dropLast) A.r (.lst s.dropLast) a=B' u:=λa u e T U Z=>by rw[aj Z,aj U,aj T];exact e
 have I:upd (upd (upd H A.b<|.lst (S.bs.map V.bl).dropLast) A.f<|.lst F.dropLast) A.r (.lst s.dropLast) A.r=B' (.lst s.dropLast):=aa;have w:upd (upd (upd H A.b<|.lst (S.bs.map V.bl).dropLast) A.f<|.lst F.dropLast) A.r (.lst s.dropLast) A.f=B' (.lst F.dropLast):=by rw[aj N.fr];exact aa
 have J:upd (upd (upd H A.b<|.lst (S.bs.map V.bl).dropLast) A.f<|.lst F.dropLast) A.r (.lst s.dropLast) A.b=B' (.lst (S.bs.map V.bl).dropLast):=by rw[aj N.br,aj N.bf];exact aa
 generalize upd (upd (upd H A.b<|.lst (S.bs.map V.bl).dropLast) A.f<|.lst F.dropLast) A.r (.lst s.dropLast)=o at m p I w J ⊢;have x:=h.tups m;refine⟨h.make (S':=ck S) m ?_ ?_ ?_ ?_ ?_ ?_ h.good h.len,m⟩
 ·exact p _ _ h.hx (b_ h.hx h.b<|by intro z;cases z) (b_ h.hx q<|by intro z;cases z) (b_ h.hx D<|by intro z;cases z)
 ·intro y;obtain⟨g,E,i⟩:=h.l y;exact⟨g,p _ _ E (N.lb y) (N.lf y)<|N.lr y,x.goods (h.good y) i⟩
 ·intro y;obtain⟨D',E,i⟩:=h.d y;exact⟨D',p _ _ E (b_ E h.b<|by intro z;cases z) (b_ E q<|by intro z;cases z) (b_ E D<|by intro z;cases z),i⟩
 ·show o A.b=B' (.lst<|S.bs.dropLast.map V.bl)
  rw[List.map_dropLast];exact J
 ·exists _,w;show iD o S.fs.dropLast F.dropLast
  have L:=x.opts X;clear X q p w;generalize S.fs=os at L;have G:∀{os:gV (MZ<|gV Int)} {g:gV V},Paired (lP o) os g->Paired (lP o) os.dropLast g.dropLast:=λ{os g} hp=>by
   induction hp with
   |nil=>exact .nil
   |cons r t ih=>
    cases t with
    |nil=>exact .nil
    |cons r' t'=>exact .cons r ih
  exact G L
 have ab:=c.len;have Y:=c.mono m x;refine⟨_,I,?_,λj v B=>?_⟩
 ·show s.dropLast.length=S.bs.dropLast.length+1
  rw[OK,OK];lia
 have n:j<s.dropLast.length:=(M'.mp B).1;rw[OK]at n;rw[S_,Nt n]at B;obtain⟨a',W,E,i,e3,e4⟩:=Y.at_ j v B;exists a',W,E,i,e3;have:(ck S).bs.take j=S.bs.take j:=by
  show S.bs.dropLast.take j=_
  rw[Tr,U4]
  congr 1
  lia
 rw[this];exact e4
end
theorem xI:al ["self","hand","literals","variable","value","first"] ["self","hand","literals"] (ah vw):=d_
theorem C_(F:Fun K "turn_back" "Searcher.turn_back" vw f fd)(T:lO K mg C)(a0:pX P w K mg I cr 2 C "fill_in" g1 Z ["self","value","first"] (rj C))(a1:pX P w K mg I cr 5 C "learn_join" g2 e2 ["self","hand","first","second","variable"] (xz C)):aP P w K mg I cr 6 f fd ["self","hand","literals"] (xH C):=by
 have sc:=xI;refine F.okA xI λQu A a2 s H vs Q E hr h=>?_;obtain⟨B,t,cs,S0,d,u0,c0,rfl,h0,a3,T0,hc,ht,SI,a4,q⟩:=h;have hu:=hr.units;obtain⟨R,M⟩:∃R,R=d9 t d S0.bs.length c0 S0:=⟨_,rfl⟩;rw[<-M]at q;refine⟨_,(ad (rM Ow (rP (bo (pv 0) rfl) λ_=>rfl)
   (ad (cM 3 sc.nd<|ag aD rfl T.len NP<|a9<|bo (pv 0) rfl)
   (ad (cM 4 sc.nd<|mP NJ R3 Ti uu<|bo (pv 0) rfl)
   (ad (cM 5 sc.nd<|mP NJ R3 Ti uu<|bo (pv 0) rfl)
   (ad (bu<|mP NJ R3 Ti uu<|bo (pv 0) rfl)
   (ax (aE (PW.pt<|cI (cp du (pv 3) (pv 2)<|by with_unfolding_all rfl)<|cO<|cp du (fq di<|pv 3) (pv 2)<|by with_unfolding_all rfl) (ad (aE (ee ib (pv 5) bg) (ad (bu<|gk a0 (pv 0) hr (by lia)<|aV (ub<|pv 4)<|pv 2)
     (ax DS)) am)
    (ax<|cM 2 sc.nd<|gk a1 (pv 0) hr (by lia)<|au (pv 1)<|au (pv 5)<|aV (pv 2)<|pv 3)) am)))))))
  (ax<|ic (pv 0) (pv 1) rfl)),?_⟩
 exists C0 C B t cs d R H,⟨S0.bs.length,c0,S0,u0,M5,M5,M5,rfl,h0,.of<|Same.refl _,a3,T0,rfl,a4,M.symm⟩;clear M;rintro m σ i ⟨c,S,u,v3,v4,v5,rfl,h,hm,a5,TI,l,hn,v⟩;have N:=h.nes;have b4:=TI.I.blen;exists _,rfl,B.x,C,B.dx,_,_,rfl,h.hx,T.cl,T.nB,rfl,!(S.bs.map V.bl).isEmpty,.inl ⟨_,SqL.of h.b,rfl⟩;cases m with
 |zero=>
  have a6:S.bs=[]:=Re l;rw[a6];refine av ?_;exists _,rfl,_,rfl,B.x,C,B.dx,_,rfl,h.hx,T.cl,T.nW,(by show 7<1000;decide);have ox:B.own B.x:=.inl rfl;have mm:Mv B H (upd i B.x<|.ins C B.dx<|f_ "winner" (.str<|ay d)<|tP B<|o6 S.win):=hm.upd ox _;have m1:Mv B i (upd i B.x<|.ins C B.dx<|f_ "winner" (.str<|ay d)<|tP B<|o6 S.win):=(Mv.of<|Same.refl i).upd ox _;have kk:=h.tups m1;have p:∀a o,i a=B' o->a≠B.x->upd i B.x (.ins C B.dx<|f_ "winner" (.str<|ay d)<|tP B<|o6 S.win) a=B' o:=λa o e n=>by rw[aj n];exact e
  refine q _ ?_ mm;rw[<-v];show SrAt C B t cs {S with win:=B' d} _
  obtain⟨b,hf,Xs⟩:=h.f;obtain⟨g,ZF,D⟩:=h.r;refine h.make (S':={S with win:=B' d}) m1 ?_ ?_ ?_ ?_ ?_ ?_ h.good h.len
  ·rw[aa];rfl
  ·intro y;obtain⟨vs,Z,e2⟩:=h.l y;exact⟨vs,p _ _ Z (b_ Z h.hx<|by intro z;cases z),kk.goods (h.good y) e2⟩
  ·intro y;obtain⟨D',Z,e2⟩:=h.d y;exact⟨D',p _ _ Z (b_ Z h.hx<|by intro z;cases z),e2⟩
  ·exact p _ _ h.b (b_ h.b h.hx<|by intro z;cases z)
  ·exact⟨b,p _ _ hf (b_ hf h.hx<|by intro z;cases z),kk.opts Xs⟩
  ·exact⟨g,p _ _ ZF (b_ ZF h.hx<|by intro z;cases z),D.mono m1 kk⟩
 |succ k=>
  have Tf:(!(S.bs.map V.bl).isEmpty)=true:=by
   cases e:S.bs with
   |nil=>rw[e]at l;cases l
   |cons x r=>rfl
  rw[Tf];refine aB ⟨λab H'=>∃m',m'<k+1/\C0 C B t cs d R H m' ab H',λab H' z=>z,?_⟩;have a7:=λb g=>h.pop (F:=b) (s:=g) l;obtain⟨b,hf,Xs⟩:=h.f;obtain⟨g,ZF,D⟩:=h.r;obtain⟨j,O⟩:=a7 b g hf Xs ZF D;have b5:=fY Xs;have ba:=TI.I.flen;have b6:=D.len;exists _,rfl,B.x,C,B.dx,_,_,rfl,h.hx,T.cl,T.nB,rfl,.ref B.b,_,rfl,.inl ⟨_,SqL.of h.b,rfl⟩;have bb:(S.bs.map V.bl)[(S.bs.map V.bl).length-1]?=B' (.bl<|S.bs.getD k MW):=by
   rw[MY,l,Yj,Nu,getD_some (d:=MW)<|by lia];rfl
  exists _,rfl,B.x,C,B.dx,_,_,rfl,h.hx,T.cl,T.nB,rfl,.inl ⟨rfl,_,SqL.of h.b⟩,B.b,_,_,rfl,rfl,h.b,bb;have bc:B.x≠B.b:=b_ h.hx h.b (by intro z;cases z);have bd:B.x≠B.f:=b_ h.hx hf (by intro z;cases z);have ac:upd i B.b (.lst (S.bs.map V.bl).dropLast) B.x=B' (.ins C B.dx<|tP B<|o6 S.win):=by rw[aj bc];exact h.hx
  have an:upd i B.b (.lst (S.bs.map V.bl).dropLast) B.f=B' (.lst b):=by rw[aj<|OV N.bf];exact hf
  have be:upd i B.b (.lst (S.bs.map V.bl).dropLast) B.r=B' (.lst g):=by rw[aj<|OV N.br];exact ZF
  have as:=getD_some (d:=V.non) (show k<b.length by lia);have az:b[b.length-1]?=B' (b.getD k .non):=by rw[show b.length-1=k by lia];exact as
  obtain⟨ok,bf,U⟩:=qu Xs as;have G:S.fs.getD k M5=ok:=by rw[M1,bf];rfl
  generalize b.getD k .non=fv at az U;exists _,rfl,B.x,C,B.dx,_,_,rfl,ac,T.cl,T.nF,rfl,.inl ⟨rfl,_,SqL.of an⟩,B.f,_,_,rfl,rfl,an,az;have Y3:upd (upd i B.b<|.lst (S.bs.map V.bl).dropLast) B.f (.lst b.dropLast) B.x=B' (.ins C B.dx<|tP B<|o6 S.win):=by rw[aj bd];exact ac
  have aC:upd (upd i B.b<|.lst (S.bs.map V.bl).dropLast) B.f (.lst b.dropLast) B.r=B' (.lst g):=by rw[aj<|OV N.fr];exact be
  exists _,rfl,B.x,C,B.dx,_,_,rfl,Y3,T.cl,T.nR,rfl,.inl ⟨rfl,_,SqL.of aC⟩,B.r,_,_,rfl,rfl,aC,getD_some (d:=V.non) (by lia);have tk:=h.tups O;generalize upd (upd (upd i B.b<|.lst (S.bs.map V.bl).dropLast) B.f<|.lst b.dropLast) B.r (.lst g.dropLast)=H2 at j O tk ⊢;have W:=hm.trans O;obtain⟨L,rfl,Vd⟩:=tk.cl a5;have lb:(ck S).bs.length=k:=by show S.bs.dropLast.length=k;rw[OK,l];rfl
  have lf:(ck S).fs.length=k:=by show S.fs.dropLast.length=k;rw[OK,ba,l];rfl
  have hz:(((S.bs.map V.bl).length:Nat):Int)=(k:Int)+1:=by rw[MY,l];rfl
  rw[hz];have aF:∀y,(if MW=MX then !iR (.int y) (c.map V.int)else iR (.int y) (c.map V.int))=c.contains y:=λy=>by rw[Np Ni,cm]
  have bk:=tM TI.I l;have b7:bK (ck S)=bK S:=rfl;dsimp only;refine K6 (p:=c.contains<|(k:Int)+1) (q:=c.contains (-((k:Int)+1))) (λR r=>⟨_,rfl,_,rfl,L,_,rfl,.inr<|SqT.of Vd,rfl,bC _,_,rfl,by rw[aF];exact r⟩) (λR r=>⟨_,rfl,_,rfl,_,rfl,L,_,rfl,.inr<|SqT.of Vd,rfl,bC _,_,rfl,by rw[aF];exact r⟩) ?_;unfold d9 at v;by_cases X:(c.contains ((k:Int)+1) || c.contains (-((k:Int)+1)))=MX
  ·rw[Nt X]at v;have bl:(k:Int)+1∈c\/ -((k:Int)+1)∈c:=by
    rw[P2]at X;exact X.imp Nj.mp Nj.mp
   rw[X];refine aB ?_;cases ok with
   |none=>
    rw[G]at v;have Y:eT (!S.bs.getD k MW) (B' c) (ck S)=R:=v;have bm:fv=.non:=U;subst bm;exists _,rfl,rfl,_,rfl;rw[Ng rfl];refine aB ?_;refine⟨_,rfl,B.x,B.dx,_,rfl,j.hx,rfl,_,rfl,_,rfl,_,rfl,B,t,cs,ck S,!S.bs.getD k MW,.ref L,B' c,rfl,j,⟨L,rfl,Vd⟩,hc,ht,SI,(by lia),(by lia),λH3 h3 m3=>?_⟩;rw[Y]at h3;exact q H3 h3<|W.trans m3
   |some F=>
    have J:=qq hc TI l bl G;rw[G]at v;have Y:d9 t d k (aL t d<|bI F c<|(k:Int)+1) (bq t d (cL (S.ow d) F c<|(k:Int)+1) (bI F c<|(k:Int)+1)<|ck S)=R:=v;obtain⟨tf,rfl,br⟩:=tk.cl (show CL i F fv from U);exists _,rfl,rfl,_,rfl;rw[M6 λz=>by cases z];refine av ?_;have bs:pend [B' F]=1:=rfl;rw[G,bs]at bk;have Q3:=fE (t:=t) (h:=d) (d:=cL (S.ow d) F c<|(k:Int)+1) (c:=bI F c<|(k:Int)+1) (S:=ck S);have bt:=iB (t:=t) (h:=d) (d:=cL (S.ow d) F c<|(k:Int)+1) (c:=bI F c<|(k:Int)+1) (S:=ck S);have b1:=fD (t:=t) (h:=d) (d:=cL (S.ow d) F c<|(k:Int)+1) (c:=bI F c<|(k:Int)+1) (S:=ck S);refine⟨_,rfl,B.x,B.dx,_,rfl,j.hx,rfl,_,rfl,_,rfl,_,rfl,_,rfl,B,t,cs,ck S,d,.ref tf,.ref L,F,c,(k:Int)+1,rfl,j,⟨tf,rfl,br⟩,⟨L,rfl,Vd⟩,J.mF,TI.mem,J.okF,J.okC,J.both,ht,(by lia),λa H3 h3 m3 ha=>?_⟩;refine⟨k,by lia,_,_,.ref a,_,_,_,rfl,h3,W.trans m3,⟨a,rfl,ha⟩,J.next,(Oe PP b1).trans lb,?_,Y⟩;have b8:=Oe pend bt;exact(by lia:bK (bq t d (cL (S.ow d) F c<|(k:Int)+1) (bI F c<|(k:Int)+1)<|ck S)+2*pend (bq t d (cL (S.ow d) F c<|(k:Int)+1) (bI F c<|(k:Int)+1)<|ck S).fs<=8800)
  rw[Np X]at v;have b2:¬((k:Int)+1∈c\/ -((k:Int)+1)∈c):=λz=>X (by
   rw[P2];exact z.imp Nj.mpr Nj.mpr)
  have b3:(c.contains ((k:Int)+1) || c.contains (-((k:Int)+1)))=false:=by
   cases z:(c.contains ((k:Int)+1) || c.contains (-((k:Int)+1)))with
   |false=>rfl
   |true=>exact absurd z X
  rw[b3];refine av ?_;exact⟨k,by lia,c,ck S,.ref L,_,_,_,rfl,j,W,⟨L,rfl,Vd⟩,qr hc TI l b2,lb,by lia,v⟩
noncomputable abbrev rn:OZ:=dN 19
noncomputable abbrev Da:OZ:=dN 47
structure Jo (mg:Str->MZ J'):Prop where
 abs:mg "abs"=M5
 len:mg "len"=M5
 sorted:mg "sorted"=M5
 tuple:mg "tuple"=M5
 g_WISHER:fS mg "WISHER" (.str<|M_ "wisher")
def tT:Sp:=λv H Q _=>∃(l:Int) (f:M0) (b:gV Nf),v=[.int l,.ref f]/\H f=B' (.lst<|b.map V.bl)/\b.length<=900/\1<=absI l/\Q (kj b (absI l) (decide (0<l))) H
inductive Db (vs:gV V)(H:Hp)(Q:VK):Prop
 |mk (l t:M0)(c k:gV Int)(h0:vs=[.ref l,.ref t])(h:H l=B' (.lst (c.map V.int)))(a:qc H t k)(q:Q (.bl (c.any λz=>k.contains z)) H)
def xJ:Sp:=λv H Q _=>Db v H Q
inductive Hg (vs:gV V)(H:Hp)(Q:VK):Prop
 |mk (p q b:M0)(t:Str)(xs:gV V)(cs:gV (gV Int))(bs:gV Nf)(h0:vs=[.ref p,.ref b])(d:H p=B' (.tup [.str t,.ref q]))(e:H q=B' (.lst xs))(f:CLs H cs xs)(g:H b=B' (.lst<|bs.map V.bl))(i:∀c∈cs,ap t.length c)(j:t.length<=40)(hb:bs.length<=80)(s:∀c∈cs,∃l∈c,bW MX bs l=MX)
  (k:∀a h,Same H h->qc h a (gc t cs bs)->Q (.ref a) h):Hg vs H Q
def Dc:Sp:=λv H Q _=>Hg v H Q
theorem zo(f:1<=absI l):DX K (kj B (absI l) (decide (0<l))) H (bW MX B l):=by
 by_cases h:((B.length:Nat):Int)<absI l
 ·rw[nu h];show bW MX B l=MW
  exact dM (by lia)
 obtain⟨b,c,e⟩:=pH (B:=B) (v:=absI l) (p:=decide (0<l)) f (by lia);rw[e];show bW MX B l=(b == decide (0<l))
 unfold bW;have d:B[(absI l-1).toNat]?=B' b:=by
  have Q:(absI l-1).toNat<B.length:=by lia
  obtain⟨n,g⟩:∃n:Nat,absI l-1=(n:Int):=⟨(absI l-1).toNat,by lia⟩;rw[g]at c ⊢;rw[Od];have a:n<B.length:=by lia
  have i:j0 (B.map V.bl) (n:Int)=B' (.bl B[n]):=bi (by rw[Nu,M4 a];rfl);rw[i]at c;rw[M4 a];exact Oe B'<|V.bl.inj<|Nw c
 rw[d];show((b == decide (0<l)) == MX)=_
 cases(b == decide (0<l))<;>rfl
inductive Dd (H:Hp)(l t:M0)(c k:gV Int)(i:Nat)(a:St)(h:Hp):Prop
 |mk (v:MZ V)(h0:a=[B' (.ref l),B' (.ref t),v])(b:h=H)(d:((c.take i).any λz=>k.contains z)=MW)
inductive Hh (p b ch:M0)(t:Str)(cs:gV (gV Int))(bs:gV Nf)(H:Hp)(i:Nat)(a:St)(h:Hp):Prop
 |mk (v c d:MZ V)(h0:a=[B'<|.ref p,B'<|.ref b,B'<|.ref ch,v,c,d])(e:h ch=B' (.lst<|((cs.take i).foldl (cC t bs) []).map V.int))(f:Same H h)
theorem tU:al ["literal","filling","variable"] ["literal","filling"] (ah rn):=d_
theorem zp(F:Fun K "stands_by" "stands_by" rn f i)(T:Jo m):aP P w K m B cr 1 f i ["literal","filling"] tT:=by
 have j:=tU;refine F.okA tU λt A o s H v Q E r h=>?_;obtain⟨l,g,a,rfl,d,x,k,q⟩:=h;have u:=r.units;refine⟨_,(ad (cM 2 j.nd<|ag ce rfl T.abs N8<|a9<|pv 0)
  (ad (aE (ee (aM u) (pv 2) ae) (ax gy) am)
  (ad (aE (ee h_ (pv 2)<|ag aD rfl T.len NP<|a9<|pv 1) (bN bg) am)
  (bN<|j9 (aM u) (a_ (pv 1)<|ar gu (pv 2) ae)<|j9 h_ (pv 0) ae)))),?_⟩
 have n:decide (V.int (absI l)=V.int 0)=false:=M6 λz=>by
  have:=V.int.inj z;lia
 refine⟨_,rfl,l,rfl,_,rfl,.inl ⟨rfl,_,rfl,?_⟩⟩;show if decide (V.int (absI l)=V.int 0)=MX then _ else _
 rw[n];refine av ⟨_,rfl,_,rfl,.ref g,_,rfl,.inl ⟨_,SqL.of d,rfl⟩,_,_,rfl,rfl,_,rfl,oX (λc=>?_) λc=>?_⟩
 ·have C:((a.length:Nat):Int)<absI l:=by
   have z:=N0 c;rw[MY]at z;exact z
  rw[nu C]at q;exact q
 have C:absI l<=((a.length:Nat):Int):=by
  rw[NX,MY]at c;exact p2.mp c
 obtain⟨b,p,e⟩:=pH (p:=decide (0<l)) k C;rw[e]at q;refine⟨_,rfl,_,rfl,_,_,rfl,rfl,(iw d p ⟨_,rfl,_,_,rfl,rfl,.inl ⟨rfl,?_⟩⟩)⟩;rw[qE];exact q
theorem De(F:Fun K "hits" "hits" qV f p):aP P w K M b cr 1 f p ["literals","clause"] xJ:=by
 have r:=mh;refine F.okA mh λC A o s H D Q E G h=>?_;obtain⟨l,t,c,k,rfl,d,v,q⟩:=h;refine⟨_,(ad (cP Ow rfl (bO<|pv 0) (eu 2 r.nd)
   (ax<|aE (cp du (pv 2) (pv 1)<|by with_unfolding_all rfl) (bN bw) am))
  (bN bw)),?_⟩
 refine⟨_,rfl,l,rfl,⟨_,SqL.of d⟩,gz (K:=K) (a:=l) (X:=c.map V.int) (Dd H l t c k) ⟨M5,rfl,rfl,rfl⟩ ?_ ?_ ?_⟩
 ·rintro i j m _ ⟨_,_,rfl,_⟩;exact SqL.of d
 ·rintro i x j m u ⟨y,rfl,rfl,a⟩;obtain⟨z,rfl,n⟩:=eF u;have e:(if MW=MX then !iR (.int z) (k.map V.int)else iR (.int z) (k.map V.int))=k.contains z:=by
   rw[Np Ni,cm]
  exists _,rfl,_,rfl,t,_,rfl,.inr<|SqT.of v,rfl,bC k,_,rfl;rw[e];cases g:k.contains z with
  |true=>
   refine aB ?_;have B:(c.any λz=>k.contains z)=true:=N4.mpr ⟨z,Nc n,g⟩;rw[B]at q;exact q
  |false=>
   refine av ⟨_,rfl,rfl,?_⟩;rw[Oc,n,WE,a];show(k.contains z || MW)=MW
   rw[g];rfl
 rintro j m ⟨y,rfl,rfl,a⟩;rw[Nn<|by rw[MY];exact Na _]at a;rw[a]at q;exact q
theorem Df:al ["sentence","begun","chosen","clause","standing","wishers"] ["sentence","begun"] (ah Da):=d_
theorem FV(F:Fun K "hitting_set" "hitting_set" Da f fd)(T:Jo mg)(as:Fe P w K mg j 1 "hits" xJ)(az:Fe P w K mg j 1 "stands_by" tT)(aC:Fe P w K mg j 1 "hand_of" uX):aP P w K mg j cr 2 f fd ["sentence","begun"] Dc:=by
 have sc:=Df;refine F.okA Df λQu A aF s H vs Q E W h=>?_;obtain⟨p,qa,b,t,xs,d,B,rfl,hp,hq,VJ,hb,O,ht,bd,X,q⟩:=h;have hu:=W.units;have C:=ff (t:=t) X;refine⟨_,(ad (cM 2 sc.nd<|aI bz)
  (ad (cP Ow rfl (bO<|a_ (pv 0) ae) (eu 3 sc.nd)
   (ax (aE (aT<|aK<|cE as W<|aV (pv 2)<|pv 3) (ad (i_ (i:=4) sc.nd rfl rfl (Y:=["literal","begun"]) (u:=[M5,B' 1]) rfl cS (eA<|pv 3) (λ_ _ _ _=>(eu 0<|nD ["literal","begun"])) (λ_ _ _ _=>(cy<|yY (K:=K) rfl (cE az W<|aV (pv 0)<|pv 1) λ_=>rfl)) (λ_ _ _ _=>(pv 0))<|by with_unfolding_all rfl)
    (ad (i_ (i:=5) sc.nd rfl rfl (Y:=["literal","sentence"]) (u:=[M5,B' 0]) rfl cS (bO<|pv 4) (λ_ _ _ _=>(eu 0<|nD ["literal","sentence"])) (λ_ _ _ _=>(cy<|ee (aM hu) (cE aC W<|aV (pv 1)<|ag ce rfl T.abs N8<|a9<|pv 0)<|aN rfl T.g_WISHER)) (λ_ _ _ _=>(pv 0))<|by with_unfolding_all rfl)
    (ax<|bu<|eS NJ Oj On bY (pv 2)<|a9<|a_ (ar eD (pv 5)<|pv 4) ae))) am)))
  (bN<|bB c7 rfl T.tuple Ox<|a9<|nQ rfl T.sorted rfl T.abs<|pv 2))),?_⟩
 refine⟨NA _,λG Y=>?_⟩;have k1:=af Y<|.lst [];have s1:upd H G (.lst []) G=B' (.lst []):=aa;refine⟨_,rfl,(bM (k1 _ _ hp) rfl ⟨qa,rfl,⟨_,SqL.of<|k1 _ _ hq⟩,gz (K:=K) (a:=qa) (X:=xs) (Hh p b G t d B H) ⟨M5,M5,M5,rfl,s1,k1⟩ ?_ ?_ ?_⟩)⟩
 ·rintro i σ Z _ ⟨_,_,_,_,_,k⟩;exact SqL.of<|k _ _ hq
 ·rintro i x σ Z m ⟨v3,v4,v5,rfl,I,J⟩;obtain⟨c,M,tc,rfl,Vd⟩:=(VJ.mono J).get m;have ab:=Nc M;have v:=O c ab;have be:=aY v;have WQ:=(M'.mp M).1;have et:(d.take<|i+1).foldl (cC t B) []=cC t B ((d.take i).foldl (cC t B) []) c:=by
   rw[Oc,M,Ta];rfl
  have Ci:=kQ (t:=t) X i (by lia);have a0:((d.take i).foldl (cC t B) []).length<=60:=by
   have N:∀a∈(d.take i).foldl (cC t B) [],∀o∈(d.take i).foldl (cC t B) [],absI a=absI o->a=o:=λa ha o u e=>by
    obtain⟨a1,c1,d1,f1⟩:=Ci.st a ha;obtain⟨a2,_⟩:=Ci.st o u;exact kP ((O c1<|QX d1).2 a f1).1 a1 a2 e
   have a3:(((d.take i).foldl (cC t B) []).map absI).Nodup:=by
    refine Om.mpr<|Ci.nd.imp_of_mem λ{x y} m hy Tf e=>Tf<|N x m y hy e
   have a4:∀x∈((d.take i).foldl (cC t B) []).map absI,x∈(Os 41).map (λn:Nat=>(n:Int)):=λx m=>by
    obtain⟨l,hl,rfl⟩:=NV.mp m;obtain⟨_,c1,d1,f1⟩:=Ci.st l hl;have W:=(O c1<|QX d1).2 l f1;exact NV.mpr ⟨(absI l).toNat,Pj.mpr (by lia),by lia⟩
   have:=kC a3 a4;rw[MY,MY,Ph]at this;lia
  generalize (d.take i).foldl (cC t B) []=Qe at I et a0;refine EI ?_;exists _,rfl,_,rfl,G,tc,Qe,c,rfl,I,Vd,_,rfl;cases g:Qe.any λz=>c.contains z with
  |true=>
   refine av ⟨_,_,_,rfl,?_,J⟩;rw[et];unfold cC;rw[g,Nt rfl];exact I
  |false=>
   refine aB ?_;refine⟨_,rfl,tc,rfl,⟨_,SqT.of Vd⟩,λD1 n1=>?_⟩;refine de [B'<|.ref b] (su λl=>bW MX B l) (λx=>x) rfl Vd n1 (by rw[MY];lia) ?_ ?_ ?_
   ·intro x m H' R k r;obtain⟨z,hz,rfl⟩:=cT m;exact⟨_,rfl,_,rfl,z,b,B,rfl,k _ _<|J _ _ hb,(by lia),(v.2 z hz).1,bW MX B z,zo (v.2 z hz).1,r⟩
   ·intro x m _ H' R k r;exact⟨_,rfl,r⟩
   rw[cA _ (λl=>bW MX B l) _ λi=>rfl];have j1:=af n1<|.lst<|(ci B c).map V.int;have r1:upd Z D1 (.lst<|(ci B c).map V.int) D1=B' (.lst<|(ci B c).map V.int):=aa;refine(show∀U,Same Z U->U D1=B' (.lst<|(ci B c).map V.int)->rL _ _ _ _ U from λU j1 r1=>?_) _ j1 r1;have Zs:(ci B c).length<=80:=Oz (OX _ _) (by lia);refine⟨_,rfl,D1,rfl,⟨_,SqL.of r1⟩,λD2 n2=>?_⟩;refine fR [B'<|.ref p] (su λl=>cj t (absI l-1).toNat) (λx=>x) rfl r1 n2 (by rw[MY];lia) ?_ ?_ ?_
   ·intro x m H' R k r;obtain⟨z,hz,rfl⟩:=cT m;have bf:=v.2 z (NM.mp hz).1;have r':R (cj t (absI z-1).toNat) H':=r;refine⟨_,rfl,_,rfl,z,rfl,p,t,_,(absI z-1).toNat,(by rw[show(((absI z-1).toNat:Nat):Int)+1=absI z by lia];rfl),k _ _<|j1 _ _<|J _ _ hp,(by lia),(by lia),.inl ⟨rfl,_,rfl,?_⟩⟩;cases gw:cj t (absI z-1).toNat with
    |true=>
     rw[gw]at r';rw[show decide (V.str (ay MX)=V.str (M_ "wisher"))=MX from Ng rfl];exact r'
    |false=>
     rw[gw]at r';rw[show decide (V.str (ay MW)=V.str (M_ "wisher"))=MW from M6 λz=>absurd (V.str.inj z)<|by decide+kernel];exact r'
   ·intro x m _ H' R k r;exact⟨_,rfl,r⟩
   rw[cA _ (λl=>cj t (absI l-1).toNat) _ λi=>rfl];have j2:=af n2<|.lst<|((ci B c).filter λl=>cj t (absI l-1).toNat).map V.int;have r2:upd U D2 (.lst<|((ci B c).filter λl=>cj t (absI l-1).toNat).map V.int) D2=B' (.lst<|((ci B c).filter λl=>cj t (absI l-1).toNat).map V.int):=aa;dsimp only;generalize upd U D2 (.lst<|((ci B c).filter λl=>cj t (absI l-1).toNat).map V.int)=H4 at j2 r2 ⊢;have ac:=(j1.trans j2) _ _ I;have a5:=j2 _ _ r1;have an:oJ t B c=(((ci B c).filter λl=>cj t (absI l-1).toNat)++ci B c).headD 0:=rfl;have Tf:((ci B c).filter λl=>cj t (absI l-1).toNat)++ci B c≠[]:=by
    obtain⟨l,hl,hh⟩:=X c ab;exact List.append_ne_nil_of_right_ne_nil _<|U5<|NM.mpr ⟨hl,hh⟩
   have bk:((ci B c).filter λl=>cj t (absI l-1).toNat).length<=80:=Oz (OX _ _) Zs;refine⟨_,rfl,.inl ⟨rfl,_,SqL.of ac⟩,_,rfl,_,rfl,D2,D1,_,_,rfl,rfl,r2,a5,OG (aR<|by rw[MY,MY];lia),λL n=>?_⟩;rw[<-NI];generalize ((ci B c).filter λl=>cj t (absI l-1).toNat)++ci B c=ps at an Tf;have j3:=af n<|.lst<|ps.map V.int;have r3:upd H4 L (.lst<|ps.map V.int) L=B' (.lst<|ps.map V.int):=aa;have a6:j0 (ps.map V.int) (0:Int)=B' (.int<|oJ t B c):=by
    cases ps with
    |nil=>exact absurd rfl Tf
    |cons y r=>rw[an];exact bi (show(V.int y::r.map V.int)[0]?=B' (V.int y)from rfl)
   refine(iw r3 a6 ⟨G,_,_,rfl,rfl,j3 _ _ ac,aR (by rw[MY];lia),?_⟩);refine⟨_,_,_,rfl,?_,(J.trans<|j1.trans<|j2.trans j3).upd_new Y _⟩;rw[aa,et];unfold cC;rw[g,Np Ni,NI];rfl
 rintro σ Z ⟨v3,v4,v5,rfl,I,J⟩;rw[Nn<|by rw[VJ.length];exact Na _]at I;have a7:Z G=B' (.lst<|(g9 t d B).map V.int):=I;have N:∀a∈g9 t d B,∀o∈g9 t d B,absI a=absI o->a=o:=λa ha o u e=>by
  obtain⟨a1,c1,d1,f1⟩:=C.st a ha;obtain⟨a2,_⟩:=C.st o u;exact kP ((O c1 d1).2 a f1).1 a1 a2 e
 have ba:(g9 t d B).length<64:=by
  have Pd:=aY<|rh O X;have:(gc t d B).length=(g9 t d B).length:=(R_ _ _).length_eq;lia
 refine⟨_,rfl,G,_,rfl,SqL.of a7,ba,λL5 r bb D ho=>?_⟩;refine⟨L5,_,rfl,.inl ⟨SqL.of aa,λL6 bc=>?_⟩⟩;have er:r=gc t d B:=by
  refine jI (nT ho (D.nodup_iff.mpr C.nd) λa ha o u e=>N a (D.mem_iff.mp ha) o (D.mem_iff.mp u) e) (xv O X) λl=>?_;rw[fx];exact D.mem_iff
 subst er;exact q L6 _ (J.trans<|(af bb _).trans<|af bc _) aa
noncomputable abbrev vx:OZ:=fh (dN 48) 6
noncomputable abbrev Jp:OZ:=fh (dN 48) 7
noncomputable def hG:MZ (gV Int)->Nh
 |none=>.none
 |some c=>iS c
theorem Jq(h:lP H o v):RD H (hG o) v:=by
 cases o with
 |none=>
  have a:v=.non:=h;subst a;exact wb
 |some c=>exact CL.rd h
theorem mz:∀{os:gV (MZ<|gV Int)} {v:gV V},iD H os v->dw H (os.map hG) v
 |_,_,.nil=>aw
 |_,_,.cons h t=>ak (Jq h)<|mz t
theorem jW:∀os:gV (MZ<|gV Int),OA (os.map hG)=MX
 |[]=>rfl
 |o::os=>by
  have h:(hG o).canLay0=true:=by
   cases o with
   |none=>rfl
   |some c=>
    have:=ja [c];rw[NW,Rl]at this;unfold OA at this;rw[N5]at this;exact this.1
  show OA (hG o::os.map hG)=MX
  unfold OA;rw[h,jW os];rfl
theorem xK(o:MZ (gV Int)):NT (hG o) (.tuple [])=decide (o=B' []):=by
 cases o with
 |none=>
  rw[M6 λz=>by cases z];show NT .none (.tuple [])=MW
  unfold NT;rfl
 |some c=>
  show NT (iS c) (.tuple [])=_
  rw[jb];by_cases h:c=[]
  ·rw[h];simp
  rw[M6 h,M6 λz=>h<|Nw z]
theorem Dg(o:MZ (gV Int)):NT (hG o) .none=decide (o=M5):=by
 cases o with
 |none=>
  rw[Ng rfl];show NT .none .none=MX
  unfold NT;rfl
 |some c=>
  rw[M6 λz=>by cases z];show NT (.tuple _) .none=MW
  unfold NT;rfl
theorem vy:(((cn t C b).map hG).any λd=>NT d<|.tuple [])=C.any (dq t b):=by
 unfold cn;rw[Ot,Tc]
 congr 1
 funext c
 exact xK _
theorem vz:decide (((cn t C b).map hG).countP (λd=>NT d .none)=C.length)=C.all λc=>decide (cZ b (aL t MW c)=M5):=by
 unfold cn;rw[Ot,Z1];have e:((λd=>NT d .none)∘hG∘λc=>cZ b<|aL t MW c)=λc=>decide (cZ b (aL t MW c)=M5):=by
  funext c
  exact Dg _
 rw[e,O0,NX,List.countP_eq_length,OE]
inductive Dh (C:M0)(vs:gV V)(H:Hp)(Q:VK):Prop
 |mk (A:SA)(t:Str)(cs:gV (gV Int))(S:SS)(h0:vs=[.ref A.x])(h:SrAt C A t cs S H)(L:hW t cs S)(b:∀c∈cs,ap t.length c)(d:t.length<=40)(s:cs.length<=900)(f:bK S+2*pend S.fs<=4096)(q:∀a,SrAt C A t cs (cF t cs S) a->Mv A H a->Q .non a)
def xL(C:M0):Sp:=λv H Q _=>Dh C v H Q
def K7(t:Str)(c:gV (gV Int))(n:Nat)(S:SS):Prop:=∀k,k<=n->hW t c (dI t c k S)->bK (dI t c k S)+2*pend (dI t c k S).fs<=4096
theorem Di{S:SS}(L:hW t C S)(l:aG t C h (S.ow h) d=B' c)(g:aZ d)(H:ap t.length c)(Z:zh h S.bs (aL t h c)):oG t C h (aL t h c) (bq t h d c S):=
 ⟨kL L.I l g,kM,by rw[fD];exact Z,jh H,gD.trans L.win,kN L.emp⟩
theorem xM:al ["self","rests","place","literals"] ["self"] (ah vx):=d_
theorem Dj(F:Fun K "look" "Searcher.look" vx f fd)(T:lO K mg o)(a1:Fe P w K mg e 2 "hitting_set" Dc)(ab:pX P w K mg e cr 4 o "learn" Z e2 ["self","hand","line","literals"] (jV o))(ac:pX P w K mg e cr 6 o "turn_back" g3 e3 ["self","hand","literals"] (xH o))(a2:pX P w K mg e cr 2 o "fill_in" g4 e4 ["self","value","first"] (rj o)):aP P w K mg e cr 7 f fd ["self"] (xL o):=by
 have sc:=xM;refine F.okA xM λQu A a3 s H vs Q E G h=>?_;obtain⟨B,t,C,S,rfl,h,L,I,ht,SI,bk,q⟩:=h;have hu:=G.units;obtain⟨r,ZF,an⟩:=h.r;have bl:=an.len;have bm:=L.I.blen;have br:=L.I.flen;have RI:r[r.length-1]?=B' (r.getD (r.length-1) .non):=getD_some (by lia);obtain⟨a,ws,ev,n,bs,p⟩:=an.at_ _ _ RI;rw[ev]at RI;rw[show r.length-1=S.bs.length by lia,Nn<|Na _]at p;have a4:=fY p;have as:(cn t C S.bs).length=C.length:=MY _;obtain⟨xs,az,J⟩:=h.hq;refine⟨_,(ad (cM 1 sc.nd<|a_ (bo (pv 0) rfl)<|fq di ae)
  (ax (aE (cp ((Ix hu)) (aU bz) (pv 1)<|by with_unfolding_all rfl) (ad (cM 2 sc.nd<|eS NJ Tn VW (pZ hu) (pv 1)<|a9<|aU bz)
   (ax<|bu<|gk ac (pv 0) G (by lia)<|aV (aN rfl T.g_SPOILER)<|gk ab (pv 0) G (by lia)<|au (aN rfl T.g_SPOILER)<|aV (aU<|aV aQ<|pv 2)<|a_ (a_ (bo (pv 0) rfl) ae)<|pv 2)) (ax (aE (ee (aM hu) (eS NJ W9 PySem.F.type_list_count (yZ hu) (pv 1)<|a9 bg)<|ag aD rfl T.len NP<|a9<|pv 1) (ad (cM 3 sc.nd<|cE a1 G<|aV (bo (pv 0) rfl)<|bo (pv 0) rfl)
    (ax<|bu<|gk ac (pv 0) G (by lia)<|aV (aN rfl T.g_WISHER)<|gk ab (pv 0) G (by lia)<|au (aN rfl T.g_WISHER)<|aV (aU<|aV aQ<|pv 3)<|pv 3)) (ax<|bu<|gk a2 (pv 0) G (by lia)<|aV bw bg)))))),?_⟩
 refine⟨_,rfl,B.x,o,B.dx,_,_,rfl,h.hx,T.cl,T.nR,rfl,_,rfl,(iw ZF (my RI) ?_)⟩;refine⟨NA _,λet a5=>?_⟩;have g:=af a5<|.tup [];have s1:upd H et (.tup []) et=B' (.tup []):=aa;have x:=h.same g;generalize upd H et (.tup [])=H1 at g s1 x ⊢;refine⟨_,rfl,.tuple [],(cn t C S.bs).map hG,aX s1 aw,bP (g _ _ n)<|mz<|(TupS.of g).opts p,by decide+kernel,jW _,by decide+kernel,_,rfl,?_⟩;rw[vy];unfold cF at q;by_cases g1:C.any (dq t S.bs)=MX
 ·rw[Nt g1]at q;rw[g1];have hi:C.findIdx (dq t S.bs)<C.length:=Tb<|N4.mp g1;have hx:=getD_some (d:=([]:gV Int)) hi;have aC:∀j,j<C.length->NT (((cn t C S.bs).map hG).getD j .none) (.tuple [])=dq t S.bs (C.getD j []):=λj hj=>by
   have:((cn t C S.bs).map hG).getD j .none=hG (cZ S.bs<|aL t MW<|C.getD j []):=by
    rw[M1];unfold cn;rw[Ot,Nu,getD_some (d:=([]:gV Int)) hj];rfl
   rw[this];exact xK _
  have M:dq t S.bs (C.getD (C.findIdx<|dq t S.bs) [])=true:=by
   have:=Xi (w:=hi) (p:=dq t S.bs) (xs:=C);rw[M1,M4 hi];exact this
  refine aB ⟨_,rfl,.inl ⟨rfl,_,SqL.of<|g _ _ n⟩,NA _,λe2 n2=>?_⟩;have k2:=af n2<|.tup [];have s2:upd H1 e2 (.tup []) e2=B' (.tup []):=aa;have v:=x.same k2;have k:=g.trans k2;generalize upd H1 e2 (.tup [])=H2 at k2 s2 v k ⊢;refine⟨.tuple [],(cn t C S.bs).map hG,_,a,ws,C.findIdx<|dq t S.bs,rfl,rfl,k _ _ n,mz<|(TupS.of k).opts p,aX s2 aw,by decide+kernel,jW _,by decide+kernel,by rw[MY,as];exact hi,(aC _ hi).trans M,λm hm=>?_,?_⟩
  ·rw[aC m<|by lia];have:=Ws hm;rw[M1,M4<|by lia];exact this
  generalize C.findIdx (dq t S.bs)=i at q hi hx M;have b:=I _<|Nc hx;obtain⟨tc,a6,Vd⟩:∃tc,xs[i]?=B' (.ref tc)/\qc H2 tc (C.getD i []):=by
   have a7:=(J.mono k);have aF:i<xs.length:=by have:=J.length;lia
   obtain⟨c',e1,e2,e3,e4⟩:=a7.get<|M4 aF;rw[hx]at e1;cases e1;exact⟨e2,by rw[M4 aF,e3],e4⟩
  refine⟨_,rfl,B.x,B.dx,_,rfl,v.hx,rfl,_,rfl,B.x,B.dx,_,rfl,v.hx,rfl,_,rfl,(by show 2<=sizeLine;decide),λga N=>?_⟩;have O:=af N<|.tup [.str aO,.int (i:Int)];have s3:upd H2 ga (.tup [.str aO,.int (i:Int)]) ga=B' (.tup [.str aO,.int (i:Int)]):=aa;have h3:=v.same O;have D:=k.trans O;have XN:aG t C MW (S.ow MW) (g_ i)=B' (C.getD i []):=by
   unfold g_;rw[g8,Np Ni];unfold fV;rw[gQ (by lia),Od];rfl
  have u:aZ (g_ i):=.inl ⟨_,rfl⟩;have Q3:=fE (t:=t) (h:=MW) (d:=g_ i) (c:=C.getD i []) (S:=S);have U:=iB (t:=t) (h:=MW) (d:=g_ i) (c:=C.getD i []) (S:=S);have W:=fD (t:=t) (h:=MW) (d:=g_ i) (c:=C.getD i []) (S:=S);refine⟨_,rfl,B.x,o,B.dx,_,_,rfl,h3.hx,T.cl,T.nS,rfl,(bM h3.hp rfl ⟨_,rfl,(iw (D _ _ az) (bi a6) ?_)⟩)⟩;refine⟨B,t,C,S,MW,_,.ref tc,g_ i,C.getD i [],rfl,h3,aX s3<|ak (cD _)<|ak (dS _) aw,u,⟨tc,rfl,O _ _ Vd⟩,b,(by lia),(by lia),λla H4 h4 m4 X=>?_⟩;refine⟨B,t,C,_,MW,.ref la,_,rfl,h4,⟨la,rfl,X⟩,Di L XN u b<|tN b M,I,(by lia),SI,(by rw[U];lia),λH5 h5 m5=>?_⟩;rw[W]at h5;exact q H5 h5<|(Mv.of D).trans<|m4.trans m5
 have ba:C.any (dq t S.bs)=false:=by
  cases z:C.any (dq t S.bs)with
  |false=>rfl
  |true=>exact absurd z g1
 rw[Np g1]at q;rw[ba];refine av ?_;refine⟨_,rfl,.inl ⟨rfl,_,SqL.of<|g _ _ n⟩,.none,(cn t C S.bs).map hG,_,a,ws,rfl,rfl,g _ _ n,mz<|(TupS.of g).opts p,wb,by decide+kernel,jW _,by decide+kernel,?_⟩;refine⟨_,rfl,.ref a,_,rfl,.inl ⟨_,SqL.of<|g _ _ n,rfl⟩,.inl ⟨rfl,_,rfl,?_⟩⟩;have bb:decide (V.int ((((cn t C S.bs).map hG).countP λd=>NT d .none:Nat):Int)=V.int (ws.length:Nat))=C.all λc=>decide (cZ S.bs (aL t MW c)=M5):=by
  rw[<-vz,<-a4,as];by_cases z:((cn t C S.bs).map hG).countP (λd=>NT d .none)=C.length
  ·rw[z,Ng rfl,Ng rfl]
  rw[M6 z,M6 λy=>z (by have:=V.int.inj y;lia)]
 rw[bb];by_cases Z:(C.all λc=>decide (cZ S.bs (aL t MW c)=M5))=MX
 ·rw[Nt Z]at q;rw[Z];have hs:∀c∈C,∃l∈c,bW MX S.bs l=true:=λc bc=>lK<|N0<|OE.mp Z c bc;have b:=rh I hs;refine aB ?_;refine⟨_,rfl,B.x,o,B.dx,_,_,rfl,x.hx,T.cl,T.nS,rfl,_,rfl,B.x,o,B.dx,_,_,rfl,x.hx,T.cl,T.nB,rfl,B.p,B.q,B.b,t,xs,C,S.bs,rfl,x.hp,g _ _ az,J.mono g,x.b,I,(by lia),(by lia),hs,λY H2 k2 bd=>?_⟩;have v:=x.same k2;have k:=g.trans k2;refine⟨_,rfl,B.x,B.dx,_,rfl,v.hx,rfl,_,rfl,B.x,B.dx,_,rfl,v.hx,rfl,_,rfl,(by show 2<=sizeLine;decide),λga N=>?_⟩;have O:=af N<|.tup [.str bx,.ref Y];have s3:upd H2 ga (.tup [.str bx,.ref Y]) ga=B' (.tup [.str bx,.ref Y]):=aa;have h3:=v.same O;have D:=k.trans O;have a0:qc _ Y (gc t C S.bs):=O _ _ bd;have XN:=tO I hs<|S.ow MX;have u:aZ (lJ<|gc t C S.bs):=.inr<|.inl ⟨_,by have:=aY b;lia,rfl⟩;have Q3:=fE (t:=t) (h:=MX) (d:=lJ<|gc t C S.bs) (c:=gc t C S.bs) (S:=S);have U:=iB (t:=t) (h:=MX) (d:=lJ<|gc t C S.bs) (c:=gc t C S.bs) (S:=S);have W:=fD (t:=t) (h:=MX) (d:=lJ<|gc t C S.bs) (c:=gc t C S.bs) (S:=S);refine⟨_,rfl,?_⟩;refine⟨B,t,C,S,MX,_,.ref Y,lJ<|gc t C S.bs,gc t C S.bs,rfl,h3,aX s3<|ak (cD _)<|ak (CL.rd ⟨Y,rfl,a0⟩) aw,u,⟨Y,rfl,a0⟩,b,(by lia),(by lia),λla H4 h4 m4 X=>?_⟩;refine⟨B,t,C,_,MX,.ref la,_,rfl,h4,⟨la,rfl,X⟩,Di L XN u b λl be=>((ff (t:=t) hs).st l<|fx.mp (NM.mp be).1).1,I,(by lia),SI,(by rw[U];lia),λH5 h5 m5=>?_⟩;rw[W]at h5;exact q H5 h5<|(Mv.of D).trans<|m4.trans m5
 have bf:(C.all λc=>decide (cZ S.bs (aL t MW c)=M5))=false:=by
  cases z:C.all λc=>decide (cZ S.bs (aL t MW c)=M5)with
  |false=>rfl
  |true=>exact absurd z Z
 rw[Np Z]at q;rw[bf];refine av ?_;exact⟨_,rfl,B.x,B.dx,_,rfl,x.hx,rfl,B,t,C,S,MW,.non,M5,rfl,x,rfl,I,(by lia),SI,(by lia),(by lia),λH2 v m2=>q H2 v<|(Mv.of g).trans m2⟩
inductive K8 (C:M0)(vs:gV V)(H:Hp)(Q:VK):Prop
 |mk (A:SA)(t:Str)(cs:gV (gV Int))(S:SS)(n:Nat)(h0:vs=[.ref A.x,.int (n:Int)])(h:SrAt C A t cs S H)(L:hW t cs S\/xw t cs S)(b:∀c∈cs,ap t.length c)(d:t.length<=40)(s:cs.length<=900)(f:K7 t cs n S)(q:∀a,SrAt C A t cs (dI t cs n S) a->Mv A H a->Q (.bl (dI t cs n S).win.isSome) a)
def Dk(C:M0):Sp:=λv H Q _=>K8 C v H Q
inductive Mp (C:M0)(A:SA)(t:Str)(cs:gV (gV Int))(n:Nat)(R:SS)(H:Hp)(m:Nat)(b:St)(a:Hp):Prop
 |mk (S:SS)(j:Nat)(h0:b=[B'<|.ref A.x,B'<|.int (n:Int),B'<|.int (j:Int)])(c:j+m=n)(h:SrAt C A t cs S a)(d:Mv A H a)(L:hW t cs S\/xw t cs S)(f:K7 t cs m S)(e:dI t cs m S=R)
theorem iQ{S:SS}(h:S.win.isSome=MX):∀k,dI t c k S=S
 |0=>rfl
 |k+1=>by unfold dI;rw[Nt h]
theorem Hi:al ["self","many","looks"] ["self","many"] (ah Jp):=d_
theorem Jr(F:Fun K "go" "Searcher.go" Jp f fd)(T:lO K M C)(Z:pX P w K M d cr 7 C "look" g1 e1 ["self"] (xL C)):aP P w K M d cr 8 f fd ["self","many"] (Dk C):=by
 have D:=Hi;refine F.okA Hi λQu A o s H vs Q E hr h=>?_;obtain⟨B,t,c,G,n,rfl,h0,L0,I,ht,SI,l,q⟩:=h;obtain⟨R,a⟩:∃R,R=dI t c n G:=⟨_,rfl⟩;rw[<-a]at q;refine⟨_,(ad (cM 2 D.nd ae)
  (ad (rM Ow (PW.pt<|fG (ee mK (pv 2)<|pv 1)<|fg<|ee ib (bo (pv 0) rfl) bg)
   (ad (bu<|iu Z (pv 0) hr<|by lia)
   (ax<|Hy (i:=2) D.nd rfl (Zj rfl) ae Hz)))
  (bN<|j9 vR (bo (pv 0) rfl) bg))),?_⟩
 exists Mp C B t c n R H,⟨n,G,0,rfl,by lia,h0,.of<|Same.refl _,L0,l,a.symm⟩;clear a;rintro m σ J ⟨S,j,rfl,hj,h,N,L,O,p⟩;have U:S=R->DR (vM (λx y H Q=>y=V.non/\Q (V.bl !decide (x=V.non)) H) (HH K (mI 0) "winner")<|tC V.non) {nx:=λ_ i=>Q .non i,rt:=Q} [B'<|.ref B.x,B'<|.int (n:Int),B'<|.int (j:Int)] J:=λe=>by
  exists _,rfl,B.x,C,B.dx,_,_,rfl,h.hx,T.cl,T.nW,rfl,rfl;rw[e]at h ⊢;have:=q J h N;cases b:R.win with
  |none=>rw[b]at this;exact this
  |some X=>rw[b]at this;exact this
 exists _,rfl,_,rfl,_,_,rfl,rfl,_,rfl;cases m with
 |zero=>
  rw[M6<|by lia];exact av<|av<|U p
 |succ m=>
  rw[Ng<|by lia];refine aB ⟨_,rfl,B.x,C,B.dx,_,_,rfl,h.hx,T.cl,T.nW,rfl,rfl,_,rfl,?_⟩;cases b:S.win with
  |some X=>
   rw[M6 λz=>by cases z];exact av (U<|by rw[<-p,iQ<|by rw[b];rfl])
  |none=>
   rw[show decide (o6 M5=V.non)=MX from Ng rfl];have r:hW t c S:=by
    obtain L|W:=L
    ·exact L
    obtain⟨X,e,_⟩:=W.hw;rw[b]at e;cases e
   refine aB ⟨λg i=>∃Y,Y<m+1/\Mp C B t c n R H Y g i,λg i z=>z,?_⟩;refine⟨_,rfl,B.x,B.dx,_,rfl,h.hx,rfl,B,t,c,S,rfl,h,r,I,ht,SI,O 0 (NA _) r,λH2 h2 m2=>?_⟩;have u:dI t c m (cF t c S)=R:=by
    rw[<-p];show _=if S.win.isSome=MX then S else dI t c m (cF t c S)
    rw[b];exact(Np (show¬(M5:MZ Nf).isSome=MX from Ni)).symm
   have v:K7 t c m (cF t c S):=λk hk Lk=>by
    have e:dI t c (k+1) S=dI t c k (cF t c S):=by
     show(if S.win.isSome=MX then S else dI t c k (cF t c S))=_
     rw[b];exact Np (show¬(M5:MZ Nf).isSome=MX from Ni)
    have:=O (k+1) (by lia);rw[e]at this;exact this Lk
   have Ln:hW t c (cF t c S)\/xw t c (cF t c S):=(oK I (by lia) r).imp (λz=>z.1) id;refine⟨_,rfl,_,_,rfl,rfl,m,by lia,cF t c S,j+1,?_,by lia,h2,N.trans m2,Ln,v,u⟩;show _=[B'<|V.ref B.x,B'<|V.int (n:Int),B'<|V.int<|(j:Int)+1]
   rfl
noncomputable abbrev vA:OZ:=fh (dN 48) 0
def BtX(x:M0)(H h:Hp):Prop:=∀b o,b≠x->H b=B' o->h b=B' o
theorem BtX.of(k:Same H h):BtX x H h:=λb o _ e=>k b o e
theorem BtX.put(k:BtX x H a):BtX x H (upd a x o):=λb u h e=>by rw[aj h];exact k b u h e
theorem BtX.trans(k:BtX x H c)(j:BtX x c h):BtX x H h:=λb u a e=>j b u a<|k b u a e
theorem BtX.free(k:BtX x H b)(h:b a=M5)(n:a≠x):H a=none:=by
 cases e:H a with
 |none=>rfl
 |some o=>rw[k a o n e]at h;cases h
inductive Dm (C:M0)(vs:gV V)(H:Hp)(Q:VK):Prop
 |mk (x dx p q:M0)(t:Str)(xs:gV V)(cs:gV (gV Int))(h0:vs=[.ref x,.ref p])(hx:H x=B' (.ins C dx []))(hp:H p=B' (.tup [.str t,.ref q]))(hq:H q=B' (.lst xs))(v:CLs H cs xs)(b:∀c∈cs,ap t.length c)(d:t.length<=40)(s:cs.length<=900)(F:M0->Prop)(e:∀a,F a->a≠x/\∃o,H a=B' o)
  (f:∀A h,A.x=x->A.far=F->SrAt C A t cs eH h->BtX x H h->(∀a,A.own a->a=x\/H a=M5)->Q .non h):Dm C vs H Q
def ro(C:M0):Sp:=λv H Q _=>Dm C v H Q
theorem Do:gv [] [((Ry (M_ "spoiler"):bR),V.ref a),(Ry<|M_ "wisher",V.ref A)]=ji λb=>if b=MX then A else a:=by
 unfold gv;rw[QS,mQ _ rfl,QS,mQ _ rfl];rfl
theorem Dp(k:∀h R,(∀p,h p=M5->R (.ref p) (upd h p o))->T i h R)(m:∀h R,(∀p,h p=M5->R (.ref p) (upd h p o))->t i h R)(q:∀d l h,Same H h->H d=M5->(∀b,H (l b)=M5)->l MW≠l MX->h d=B' (.dK<|ji l)->(∀b,h (l b)=B' o)->Q (.ref d) h):
  rZ [(tC<|.str<|M_ "spoiler",T),(tC<|.str<|M_ "wisher",t)] i H Q:=by
 refine λdl n=>k _ _ λa c=>m _ _ λA N=>?_;have D:a≠dl:=λz=>by rw[z,aa]at c;cases c
 have f:A≠a:=λz=>by rw[z,aa]at N;cases N
 have g:A≠dl:=λz=>by rw[z,aj λz=>D z.symm,aa]at N;cases N
 have F:H a=none:=by rw[aj D]at c;exact c
 have j:H A=none:=by rw[aj f,aj g]at N;exact N
 exists by rw[aj λz=>g z.symm,aj λz=>D z.symm];exact aa,[(Ry<|M_ "spoiler",.ref a),(Ry<|M_ "wisher",.ref A)],rfl,(by show 2<=15;decide);rw[Do];refine q dl (λb=>if b=MX then A else a) _ (λb u e=>?_) n (λb=>?_) (λz=>f z.symm) aa λb=>?_
 ·rw[aj<|ai e n,aj<|ai e j,aj<|ai e F,aj<|ai e n];exact e
 ·cases b
  ·exact F
  exact j
 cases b
 ·show upd _ dl _ a=_
  rw[aj D,aj λz=>f z.symm];exact aa
 show upd _ dl _ A=_
 rw[aj g];exact aa
theorem tV{K:K'}{f:Str}{B:TS}{D:gx}(i:∀h R,(∀p,h p=M5->R (.ref p) (upd h p o))->T c h R)(j:∀h R,(∀p,h p=M5->R (.ref p) (upd h p o))->t c h R)(q:∀d l h,Same H h->H d=M5->(∀b,H (l b)=M5)->l MW≠l MX->h d=B' (.dK<|ji l)->(∀b,h (l b)=B' o)->
  mI 0 c h λx e=>∃a C g F,x=.ref a/\e a=B' (.ins C g F)/\Cls K C/\NoAttr K C f/\F.length<1000/\B D c (upd e a<|.ins C g<|f_ f (.ref d) F)):
  rL (HI K (mI 0) (rZ [(tC<|.str<|M_ "spoiler",T),(tC<|.str<|M_ "wisher",t)]) f) B D c H:=by
 unfold rL HI;exact Dp i j q
theorem oN:∀{a:gV (gV Int)} {v:gV V},CLs H a v->iD H (a.map B') v
 |_,_,.nil=>.nil
 |_,_,.cons h t=>.cons h<|oN t
inductive Hj (x D:M0)(t:Str)(cs:gV (gV Int))(h:Hp)(i:Nat)(a:St)(ys:gV V)(H:Hp):Prop
 |mk (v:MZ V)(h0:a=[v,B' (.ref x)])(b:H D=B' (.lst ys))(d:Same h H)(e:CLs H ((cs.take i).map λc=>aL t MW c) ys)
theorem vB(h:ap n c):cZ [] c=B' c:=by
 unfold cZ;rw[Np (λz=>by obtain⟨l,_,e⟩:=N4.mp z;rw[dM<|NA _]at e;cases e)]
 congr 1
 refine Sf.mpr λl H=>?_;have:=(h.2 l H).1;rw[NX];show(0:Int)<absI l
 lia
theorem jj{R:Hp->Prop}(h:H x=B' (.ins c d F))(l:Cls K c)(n:NoAttr K c f)(b:Xy F.length 999=MX)(q:∀G,BtX x H G->G x=B' (.ins c d<|f_ f v F)->R G):∃a C d' F,V.ref x=.ref a/\H a=B' (.ins C d' F)/\Cls K C/\NoAttr K C f/\F.length<1000/\R (upd H a<|.ins C d'<|f_ f v F):=
 ⟨x,c,d,F,rfl,h,l,n,Nat.lt_succ_of_le<|WN b,q _ (BtX.of<|Same.refl _).put aa⟩
theorem oO(n:H a=M5)(o:HO):∃G,upd H a o=G/\Same H G/\G a=B' o:=⟨_,rfl,af n o,aa⟩
theorem BtX.tup(k:BtX x H h)(a:H x=B' (.ins C d f)):TupS H h:=λ_ _ e=>k _ _ (λz=>by rw[z,a]at e;cases e) e
theorem nw{H:Hp}(e:H b=B' o)(n:H a=M5):a≠b:=OV<|ai e n
theorem xN:al ["self","sentence"] ["self","sentence"] (ah vA):=d_
theorem Dq(F:Fun K "__init__" "Searcher.__init__" vA f fd)(T:lO K mg CS)(WU:Fe P w K mg a4 3 "dropped" iL):aP P w K mg a4 cr 4 f fd ["self","sentence"] (ro CS):=by
 have sc:=xN;refine F.okA xN λQu A b5 s H vs Q E hr h=>?_;obtain⟨x,dx,p0,q0,t,xs,cs,rfl,U,hp,hq,VJ,hc,ht,SI,Fr,W,q⟩:=h;refine⟨_,(ad (ic (pv 0) (aU<|aV (a_ (pv 1) ae)<|bB cx rfl T.list OT<|a9<|a_ (pv 1) ae) rfl)
  (ad (ic (pv 0) (sY (aN rfl T.g_SPOILER) (aI bz) (aN rfl T.g_WISHER)<|aI bz) rfl)
  (ad (ic (pv 0) (sY (aN rfl T.g_SPOILER) mR (aN rfl T.g_WISHER) mR) rfl)
  (ad (ic (pv 0) (aI bz) rfl)
  (ad (ic (pv 0) (aI bz) rfl)
  (ad (ic (pv 0) (aI<|a9<|bj (N:=["clause","self"]) (d:=[M5,B' 0]) rfl cS (bO<|a_ (pv 1) ae) (λ_ _ _ _=>(eu 0<|nD ["clause","self"])) (λ_ _ _ _=>dO) λ_ _ _ _=>(cE WU hr<|au (Fi (K:=K) rfl (pv 1) rfl)<|aV (aN rfl T.g_SPOILER)<|pv 0)) rfl)
  (ax<|ic (pv 0) bg rfl))))))),?_⟩
 refine⟨_,rfl,(bM hp rfl ⟨_,rfl,(bM hp rfl ⟨q0,xs,rfl,.inl<|SqL.of hq,λqa nq=>⟨(by show 2<=sizeLine;decide),λpa np=>?_⟩⟩)⟩)⟩;obtain⟨H0,e,j1,sq⟩:=oO nq<|.lst xs;rw[e]at np ⊢;obtain⟨H1,e,j2,sp⟩:=oO np<|.tup [.str t,.ref qa];rw[e];have N:=nw U nq;have X:=nw (j1 _ _ U) np;refine⟨_,rfl,jj (j2 _ _<|j1 _ _ U) T.cl T.nS rfl λG l x1=>?_⟩;have q1:=l _ _ N<|j2 _ _ sq;have p1:=l _ _ X sp;replace l:=(BtX.of<|j1.trans j2).trans l;refine tV (o:=.lst []) (λH' R r=>⟨NA _,r⟩) (λH' R r=>⟨NA _,r⟩) λdl ll G1 k1 b7 Y b8 b9 ca=>?_;refine⟨_,rfl,jj (k1 _ _ x1) T.cl T.nL rfl λG2 C x2=>?_⟩;have d:=λb=>nw x1<|Y b;have a5:=nw x1 b7;have cc:=C _ _ a5 b9;have a6:=λb=>C _ _ (d b)<|ca b;replace C:=(BtX.of k1).trans C;refine tV (o:=.dT []) (λH' R r=>r) (λH' R r=>r) λdp pp G3 k3 cd ab cf ch cl=>?_;refine⟨_,rfl,jj (k3 _ _ x2) T.cl T.nP rfl λG4 m x4=>?_⟩;have j:=λb=>nw x2<|ab b;have a7:=nw x2 cd;have co:=m _ _ a7 ch;have bb:=λb=>m _ _ (j b)<|cl b;replace m:=(BtX.of k3).trans m;refine⟨NA _,λba nb=>?_⟩;obtain⟨G5,e,k5,sb⟩:=oO nb<|.lst [];rw[e];have p:=nw x4 nb;refine⟨_,rfl,jj (k5 _ _ x4) T.cl T.nB rfl λG6 I x6=>?_⟩;have b6:=I _ _ p sb;replace I:=(BtX.of k5).trans I;refine⟨NA _,λfa nf=>?_⟩;obtain⟨G7,e,k7,sf⟩:=oO nf<|.lst [];rw[e];have ac:=nw x6 nf;refine⟨_,rfl,jj (k7 _ _ x6) T.cl T.nF rfl λG8 J x8=>?_⟩;have f8:=J _ _ ac sf;replace J:=(BtX.of k7).trans J;have ct:p0≠x:=λz=>by rw[z,U]at hp;cases hp
 have cv:q0≠x:=λz=>by rw[z,U]at hq;cases hq
 have cz:=m.trans<|I.trans J;have bc:=C.trans cz;have B:=l.trans bc;have bd:=B _ _ cv hq;have c0:=bc _ _ X p1;have c1:=(B.tup U).cls VJ;have dn:=VJ.length;refine⟨_,rfl,(bM (B _ _ ct hp) rfl ⟨q0,rfl,⟨_,SqL.of bd⟩,λD nD=>?_⟩)⟩;refine c_ (K:=K) (a:=q0) (xs:=xs) (Hj x D t cs G8) ⟨M5,rfl,aa,af nD _,.nil⟩ ?_ ?_ ?_
 ·rintro i σ ys H3 _ ⟨_,_,i1,i2,_⟩;exact⟨i1,SqL.of<|i2 _ _ bd⟩
 ·rintro i y σ ys H3 hy ⟨v0,rfl,i1,i2,i3⟩;obtain⟨c,an,tc,rfl,Vd⟩:=(c1.mono i2).get hy;have be:=hc c<|Nc an;have dr:=aY be;have WQ:=(M'.mp an).1;have c3:=i3.length;rw[MY,NO]at c3;refine fu ⟨_,rfl,x,CS,dx,_,_,rfl,i2 _ _ x8,T.cl,T.nS,rfl,_,rfl,pa,tc,t,_,MW,c,rfl,i2 _ _ c0,(by lia),Vd,(by lia),be.2,λla H4 k4 c5=>?_⟩;have as:=k4 _ _ i1;exists as,aR (by lia),_,rfl,aa,(i2.trans k4).upd_new nD _;rw[Oc,an,NI];exact CLs.snoc (CL.upd ⟨la,rfl,c5⟩ as)<|(i3.mono k4).upd as
 rintro σ ys G9 ⟨_,_,bf,L,UN⟩;rw[Nn<|by lia]at UN;refine⟨(by show 1<=sizeLine;decide),λra M=>?_⟩;obtain⟨ds,e,O,sr⟩:=oO M<|.lst [.ref D];rw[e];have bk:=nw x8 nD;have bl:=nw (L _ _ x8) M;have bm:=O _ _<|L _ _ x8;refine⟨_,rfl,jj bm T.cl T.nR rfl λdt da db=>?_⟩;refine⟨_,rfl,jj db T.cl T.nW rfl λZ dc dd=>?_⟩;have CZ:=da.trans dc;have br:=(BtX.of<|L.trans O).trans CZ;have bs:=J.trans br;have az:=I.trans bs;have aC:=m.trans az;have aF:=C.trans aC;have a0:=l.trans aF;have a1:=λb=>m _ _ (d b)<|a6 b;have a2:=λb=>I _ _ (d b)<|a1 b;have a3:=λb=>J _ _ (d b)<|a2 b;have bt:=J _ _ p b6;have b2:=C _ _ N q1;have b3:=m _ _ N b2;have b4:=I _ _ N b3;have WG:∀a,SA.own ⟨x,dx,pa,qa,dl,dp,ba,fa,ra,ll,pp,Fr⟩ a->a=x\/H a=none:=?_;refine q ⟨x,dx,pa,qa,dl,dp,ba,fa,ra,ll,pp,Fr⟩ Z rfl rfl ?_ a0 WG
 ·refine⟨dd,aF _ _ X p1,⟨xs,aF _ _ N q1,(a0.tup U).cls VJ⟩,aC _ _ a5 cc,az _ _ a7 co,λb=>⟨[],aC _ _ (d b)<|a6 b,aw⟩,λb=>⟨[],az _ _ (j b)<|bb b,rfl,λc=>(Np (λz=>nomatch z)).symm⟩,bs _ _ p b6,⟨[],br _ _ ac f8,.nil⟩,⟨[.ref D],CZ _ _ bl sr,rfl,λk v hk=>?_⟩,?_,?_,cf,λ_ _ z=>(nomatch z),λ_=>rfl,λa z=>?_⟩
  ·cases k with
   |succ k=>simp at hk
   |zero=>
    cases hk;refine⟨D,ys,rfl,CZ _ _ bk<|O _ _ bf,?_,?_⟩
    ·rintro ((z|z|z|z|⟨b,z|z⟩)|z)
     ·exact bk z
     ·exact nw bt nD z
     ·exact nw f8 nD z
     ·exact ai bf M z
     ·exact nw (a3 b) nD z
     ·exact nw (J _ _ (j b)<|I _ _ (j b)<|bb b) nD z
     obtain⟨n,o,e⟩:=W _ z;exact nw (B _ _ n e) nD rfl
    have e:cn t cs ([]:gV Nf)=(cs.map λc=>aL t MW c).map some:=by
     unfold cn;rw[Ot];exact Sa λc dk=>vB<|gJ (t:=t) (w:=MW)<|hc c dk
    show iD Z (cn t cs ([]:gV Nf)) ys
    rw[e];exact oN<|(CZ.tup bm).cls<|UN.mono O
  ·rintro ((z|z|z|z|⟨b,z|z⟩)|z)
   ·exact N z
   ·exact ai b3 nb z
   ·exact ai b4 nf z
   ·exact ai (L _ _<|J _ _ N b4) M z
   ·exact ai q1 (Y b) z
   ·exact ai b2 (ab b) z
   obtain⟨_,o,e⟩:=W _ z;exact nw e nq rfl
  ·simp only[O9,Nz,QI,Ys,not_or,not_false_eq_true,true_and,RU,and_true];exact⟨⟨ai b6 nf,ai (L _ _ bt) M,nw (a1 _) nb,nw (a1 _) nb⟩,⟨ai (L _ _ f8) M,nw (a2 _) nf,nw (a2 _) nf⟩,⟨nw (L _ _<|a3 _) M,nw (L _ _<|a3 _) M⟩,b8⟩
  obtain⟨n,o,e⟩:=W a z;exact⟨λu=>(WG a u).elim n λg=>(by rw[g]at e;cases e),o,a0 _ _ n e⟩
 rintro a (z|z|z|z|⟨b,z|z⟩)
 ·exact .inl z
 ·refine .inr ?_;rw[z];exact(l.trans<|C.trans m).free nb p
 ·refine .inr ?_;rw[z];exact(l.trans<|C.trans<|m.trans I).free nf ac
 ·refine .inr ?_;rw[z];exact(B.trans<|BtX.of L).free M bl
 ·refine .inr ?_;rw[z];exact l.free (Y b)<|d b
 refine .inr ?_;rw[z];exact(l.trans C).free (ab b)<|j b
noncomputable abbrev mB:OZ:=fh (dN 48) 9
noncomputable def mD(d:gV Nh)(o:gV (gV Int)):gV Int:=(bU (xo<|d.map<|bV<|bJ o) (o.idxOf [])<|o.idxOf []+1).mergeSort λa b=>decide (a<=b)
noncomputable def oQ(d:gV Nh)(o:gV (gV Int)):gV Nh:=fX (d.map<|bV<|bJ o)<|mD d o
theorem xO(d:gV Nh)(o:gV (gV Int)):R4 (mD d o) (bU (xo<|d.map<|bV<|bJ o) (o.idxOf [])<|o.idxOf []+1):=R_ _ _
theorem qv(d:gV Nh)(o:gV (gV Int)):QG (·<=·) (mD d o):=by
 have:=SO (le:=λa b:Int=>decide (a<=b)) (λa b c H e=>by rw[NX]at H e ⊢;lia) (λa b=>by rw[P2,NX,NX];lia)<|bU (xo<|d.map<|bV<|bJ o) (o.idxOf [])<|o.idxOf []+1;exact this.imp λh=>N0 h
theorem FW(h:R4 n (bU (xo<|d.map<|bV<|bJ o) (o.idxOf [])<|o.idxOf []+1))(H:QG (·<=·) n):n=mD d o:=Je h H (xO d o)<|qv d o
inductive xP (C:M0)(vs:gV V)(H:Hp)(Q:VK):Prop
 |mk (A:SA)(t:Str)(cs:gV (gV Int))(S:SS)(hw:Nf)(h0:vs=[.ref A.x])(h:SrAt C A t cs S H)(W:xw t cs S)(s:S.win=B' hw)(e:(S.ow hw).getLast?=B' [])(b:∀c∈cs,ap t.length c)(d:t.length<=40)(I:cs.length<=900)(f:(S.lw hw).length<=2048)
  (q:∀r l ys a,Same H a->H r=M5->H l=M5->a r=B' (.tup [.str<|ay hw,.ref l])->a l=B' (.lst ys)->dw a (oQ (S.lw hw)<|S.ow hw) ys->Q (.ref r) a):xP C vs H Q
def jX(C:M0):Sp:=λv H Q _=>xP C v H Q
theorem oS{o:gV (gV Int)}(h:o.getLast?=B' []):[]∈o:=List.mem_of_getLast? h
theorem zq(h:o.getLast?=B' []):rc o=true:=by
 unfold rc;rw[h];rfl
theorem jY:al ["self"] ["self"] (ah mB):=d_
theorem zr(F:Fun K "paper" "Searcher.paper" mB f u)(T:lO K M C)(Y:Fe P w K M e 8 "shortened_paper" G_):aP P w K M e cr 9 f u ["self"] (jX C):=by
 have sc:=jY;refine F.okA jY λQu A o s H vs Q E c h=>?_;obtain⟨B,t,v,S,b,rfl,h,W,y,D,G,ht,I,J,q⟩:=h;have hu:=c.units;have X:=pq c;have x:=h.hx;rw[y]at x;obtain⟨L,d,g⟩:=h.hq;obtain⟨N,i,j⟩:=h.l b;refine⟨_,(ad (aE (ee ib (bo (pv 0) rfl) bg) (ax gy) am)
  (bN<|cE Y c<|aV (bo (pv 0) rfl)<|aU<|aV (bo (pv 0) rfl)<|cg X (bo (pv 0) rfl) (bo (pv 0) rfl) λ_ _=>rfl)),?_⟩
 exists _,rfl,B.x,C,B.dx,_,_,rfl,x,T.cl,T.nW,rfl,rfl,_,rfl;rw[show decide (o6 (B' b)=V.non)=MW from M6 λz=>by cases z];refine av ?_;refine⟨_,rfl,B.x,C,B.dx,_,_,rfl,x,T.cl,T.nS,rfl,_,rfl,B.x,C,B.dx,_,_,rfl,x,T.cl,T.nW,rfl,_,rfl,B.x,C,B.dx,_,_,rfl,x,T.cl,T.nL,rfl,_,rfl,B.x,C,B.dx,_,_,rfl,x,T.cl,T.nW,rfl,B.dl,_,rfl,eP h.hl b,(by show 2<=sizeLine;decide),λa O=>?_⟩;have k:=af O<|.tup [.str<|ay b,.ref<|B.ll b];have U:upd H a (.tup [.str<|ay b,.ref<|B.ll b]) a=B' (.tup [.str<|ay b,.ref<|B.ll b]):=aa;exact⟨B.p,B.q,a,B.ll b,t,b,L,N,v,S.lw b,S.ow b,rfl,k _ _ h.hp,(by lia),k _ _ d,g.mono k,I,G,U,k _ _ i,bE k _ _ j,(by lia),h.good b,W.I.run b,zq D,λr l Z nd H2 k2 nr nl m Yq UN n p=>q r l Z H2 (k.trans k2) (k.free nr) (k.free nl) m Yq<|by unfold oQ;rw[<-FW n p];exact UN⟩
noncomputable abbrev rp:OZ:=dN 55
noncomputable abbrev rq:OZ:=dN 56
structure Mq (mg:Str->MZ J'):Prop where
 len:mg "len"=M5
 range:mg "range"=M5
 abs:mg "abs"=M5
 int:mg "int"=M5
inductive xQ (vs:gV V)(H:Hp)(Q:VK):Prop
 |mk (p q:M0)(t:Str)(xs:gV V)(cs:gV (gV Int))(h0:vs=[.ref p])(a:H p=B' (.tup [.str t,.ref q]))(b:H q=B' (.lst xs))(c:CLs H cs xs)(d:Iy 0 t.length cs)(e:WS t)(f:t.length<=8)(g:∀(p:M0) (xs:gV V) (h:Hp),Same H h->h p=B' (.lst xs)->xs.length=t.length+1->LV h p t cs 0 xs->Q (.ref p) h)
def tX:Sp:=λv H Q _=>xQ v H Q
inductive xR (vs:gV V)(H:Hp)(Q:VK):Prop
 |mk (p q:M0)(t:Str)(xs:gV V)(cs:gV (gV Int))(h0:vs=[.ref p])(a:H p=B' (.tup [.str t,.ref q]))(b:H q=B' (.lst xs))(c:CLs H cs xs)(d:Iy 0 t.length cs)(e:WS t)(f:t.length<=8)(g:∀h,Same H h->Q (.str<|ay<|dh t cs t.length 0 0) h)
def tY:Sp:=λv H Q _=>xR v H Q
theorem Dr(b x y:Nf):iR (.bl b) [.bl x,.bl y]=if b then(x || y)else !(x&&y):=by
 cases b<;>cases x<;>cases y<;>rfl
theorem K9(h:ch=119\/ch=115):decide (V.str ⟨#[ch]⟩=V.str (M_ "s"))=!decide (ch=119):=by
 obtain rfl|rfl:=h<;>decide+kernel
theorem Ds(b:Nf)(x y:V):j0 [x,y] (if b then 1 else 0)=B' (if b then y else x):=by
 cases b<;>rfl
theorem tZ:al ["_law_sentence_here","_law_turns","_law_clauses","_law_count","_law_level","_law_number_here","_law_comes","_law_clause","_law_some","_law_literal","_law_levels_here","_law_k","_law_two"] ["_law_sentence_here"] (ah rp):=d_
inductive t4 (p:M0)(t:Str)(q:M0)(lv:M0)(cs:gV (gV Int))(H:Hp)(i:Nat)(a:gV (MZ V))(G:Hp):Prop
 |mk (x:MZ V)(X:MZ V)(b:MZ V)(c:MZ V)(d:MZ V)(I:a=[B' (.ref p),B' (.str t),B' (.ref q),B' (.int (t.length:Int)),B' (.ref lv),x,X,b,c,d,M5,M5,M5])(e:G lv=B' (.lst ((Os i).map λm=>V.bl<|dh t cs (t.length-t.length) t.length m)))(f:Same H G)
inductive t5 (p:M0)(t:Str)(q:M0)(lv:M0)(i:Nat)(cs:gV (gV Int))(G:Hp)(j:Nat)(a:gV (MZ V))(g:Hp):Prop
 |mk (x:MZ V)(X:MZ V)(b:MZ V)(I:a=[B' (.ref p),B' (.str t),B' (.ref q),B' (.int (t.length:Int)),B' (.ref lv),B' (.int (0+(i:Int))),B' (.bl ((cs.take j).all λc=>c.any<|hV t.length i)),x,X,b,M5,M5,M5])(d:g=G)
inductive t6 (p:M0)(t:Str)(q:M0)(lv:M0)(i:Nat)(cs:gV (gV Int))(j:Nat)(c:gV Int)(T:M0)(G:Hp)(k:Nat)(a:gV (MZ V))(g:Hp):Prop
 |mk (x:MZ V)(I:a=[B' (.ref p),B' (.str t),B' (.ref q),B' (.int (t.length:Int)),B' (.ref lv),B' (.int (0+(i:Int))),B' (.bl ((cs.take j).all λc=>c.any<|hV t.length i)),B'<|.ref T,B'<|.bl<|(c.take k).any<|hV t.length i,x,M5,M5,M5])(b:g=G)
inductive t7 (p:M0)(t:Str)(q:M0)(l:M0)(cs:gV (gV Int))(H:Hp)(j:Nat)(a:gV (MZ V))(h:Hp):Prop
 |mk (b:MZ V)(c:MZ V)(d:MZ V)(e:MZ V)(f:MZ V)(g:MZ V)(x:MZ V)(X:MZ V)(ys:gV V)(i:a=[B'<|.ref p,B'<|.str t,B'<|.ref q,B'<|.int (t.length:Int),b,c,d,e,f,g,B'<|.ref l,x,X])(I:h l=B' (.lst ys))(k:ys.length=j+1)(m:LV h l t cs (t.length-j) ys)(n:Same H h)
inductive t8 (p:M0)(t:Str)(q:M0)(D:M0)(X:MZ V)(a:MZ V)(b:MZ V)(c:MZ V)(l:M0)(k:Nat)(cs:gV (gV Int))(H:Hp)(i:Nat)(d:gV (MZ V))(G:Hp):Prop
 |mk (e:MZ V)(x:MZ V)(I:d=[B' (.ref p),B' (.str t),B' (.ref q),B' (.int (t.length:Int)),B' (.ref D),e,X,a,b,c,B' (.ref l),B' (.int (k:Int)),x])(f:G D=B' (.lst ((Os i).map λm=>V.bl<|dh t cs (t.length-k) k m)))(g:Same H G)
theorem zt(F:Fun K "_law_levels" "_law_levels" rp f fd)(T:Mq mg):aP P w K mg a7 cr 1 f fd ["_law_sentence_here"] tX:=by
 have g:=tZ;refine F.okA tZ λQu A an s H vs Q E hr h=>?_;obtain⟨p,y,t,xs,C,rfl,h1,h2,h3,as,az,h8,q⟩:=h;have hu:=hr.units;have p8:∀k,k<=8->2^k<=256:=λk hk=>RQ (by decide) hk;have aC:=wj t.length;have ba:=p8 _ h8;refine⟨_,(ad (qB (pv 0)<|iX rfl<|cb (eu 1 g.nd)<|cb (eu 2 g.nd) gg)
  (ad (cM 3 g.nd<|ag aD rfl T.len NP<|a9<|pv 1)
  (ad (cM 4 g.nd<|aI bz)
  (ad (cP Ow rfl (eV rfl T.range<|a9<|ar ug ae<|pv 3) (eu 5 g.nd)
   (ad (cM 6 g.nd bw)
   (ad (cP Ow rfl (bO<|pv 2) (eu 7 g.nd)
    (ad (cM 8 g.nd bw)
    (ad (cP Ow rfl (eA<|pv 7) (eu 9 g.nd)
     (ax<|cM 8 g.nd<|JF (pv 8)<|fN<|j9 (aM hu) (j9 (aM hu) (ar zF (ar zE (pv 5)<|ar gu (pv 3)<|ag ce rfl T.abs N8<|a9<|pv 9) ae) ae)<|j9 h_ (pv 9) ae))
    (ax<|cM 6 g.nd<|dF (pv 6)<|fN<|pv 8))))
   (ax<|bu<|eS NJ Oj On bY (pv 4)<|a9<|pv 6))))
  (ad (cM 10 g.nd<|aI<|a9<|pv 4)
  (ad (cP Ow rfl (pF rfl T.range<|au (ar gu (pv 3) ae)<|aV (fq di ae)<|fq di ae) (eu 11 g.nd)
   (ad (cM 4 g.nd<|aI bz)
   (ad (cP Ow rfl (eV rfl T.range<|a9<|ar ug ae<|pv 11) (eu 5 g.nd)
    (ad (cM 12 g.nd<|aI<|aV (a_ (a_ (pv 10) ae)<|ar fP ae<|pv 5)<|a_ (a_ (pv 10) ae)<|ar dG (ar fP ae<|pv 5) ae)
    (ax<|bu<|eS NJ Oj On bY (pv 4)<|a9<|a_ (aI<|aV (lR du bw (pv 12)<|by with_unfolding_all rfl)<|lR cQ bw (pv 12)<|by with_unfolding_all rfl)<|bB o_ rfl T.int Rw<|a9<|j9 (aM hu) (a_ (pv 1)<|pv 11) aQ)))
   (ax<|bu<|eS NJ WL PySem.F.type_list_insert yu (pv 10)<|aV ae<|pv 4))))
  (bN<|pv 10))))))),?_⟩
 refine⟨_,rfl,p,_,rfl,SqT.of h1,rfl,_,_,rfl,_,_,rfl,rfl,?_⟩;refine⟨_,rfl,.str t,_,rfl,⟨OG (aR<|by lia),rfl⟩,?_⟩;refine⟨NA _,λL Y=>?_⟩;have k1:=af Y<|.lst [];have r1:upd H L (.lst []) L=B' (.lst []):=aa;generalize upd H L (.lst [])=H1 at k1 r1;refine⟨_,rfl,_,_,rfl,rfl,⟨by lia,by lia,by decide⟩,((2^t.length:Nat):Int),Oe (λz=>[V.int z]) aC,(th (by decide)<|U7 _),(by lia),?_⟩;refine fJ (lo:=0) (n:=2^t.length) (t4 p t y L C H)
  ⟨M5,M5,M5,M5,M5,rfl,r1,k1⟩ ?_ ?_
 ·rintro i v G hi ⟨Z,x6,M,O,X,rfl,n,a⟩;refine⟨_,rfl,y,rfl,⟨_,SqL.of<|a _ _ h2⟩,gz (K:=K) (a:=y) (X:=xs)
   (t5 p t y L i C G) ⟨_,_,_,rfl,rfl⟩ ?_ ?_ ?_⟩
  ·rintro j v G2 _ ⟨_,_,_,_,rfl⟩;exact SqL.of<|a _ _ h2
  ·rintro j x v G2 hx ⟨M,O,X,rfl,rfl⟩;obtain⟨c,hc,tc,rfl,Vd⟩:=h3.get hx;have aF:c∈C:=Nc hc;refine⟨_,rfl,tc,rfl,⟨_,SqT.of<|a _ _ Vd⟩,qD (K:=K) (a:=tc) (X:=c.map V.int)
    (t6 p t y L i C j c tc G2) ⟨_,rfl,rfl⟩ ?_ ?_ ?_⟩
   ·rintro k v G3 _ ⟨_,_,rfl⟩;exact SqT.of<|a _ _ Vd
   ·rintro k x v G3 hx ⟨X,rfl,rfl⟩;obtain⟨z,rfl,hz⟩:=eF hx;have a1:=as c aF z<|Nc hz;have ea:(c.take<|k+1).any (hV t.length i)=((c.take k).any (hV t.length i) || hV t.length i z):=by
     rw[Oc,hz,WE];show(_ || (hV t.length i z || MW))=_
     rw[XU]
    refine⟨_,rfl,_,rfl,?_⟩;cases ga:(c.take k).any (hV t.length i)with
    |true=>exact aB ⟨_,by rw[ea,ga];rfl,rfl⟩
    |false=>
     refine av ⟨_,rfl,_,rfl,_,rfl,z,rfl,_,_,rfl,rfl,_,_,rfl,rfl,(by show(0:Int)<=(t.length:Int)-absI z;lia),_,_,rfl,rfl,.inl ⟨rfl,_,rfl,_,_,rfl,rfl,.inl ⟨rfl,?_⟩⟩⟩;have eb:=EH (n:=t.length) (N:=i) (z:=z) a1.2 (by lia);rw[YX];refine⟨B'<|.int z,?_,rfl⟩;rw[ea,ga,TU,<-eb,YX];rfl
   rintro v G3 ⟨X,rfl,rfl⟩;rw[MY,Nn<|Na _];have e:(C.take<|j+1).all (λc=>c.any<|hV t.length i)=((C.take j).all (λc=>c.any<|hV t.length i)&&c.any (hV t.length i)):=by
    rw[Oc,hc,List.all_append];show(_&&(c.any (hV t.length i)&&MX))=_
    rw[Bool.and_true]
   refine⟨_,rfl,_,rfl,?_⟩;cases ga:(C.take j).all λc=>c.any (hV t.length i)with
   |true=>exact aB ⟨_,rfl,_,_,_,by rw[e,ga];rfl,rfl⟩
   |false=>exact av ⟨_,_,_,by rw[e,ga];rfl,rfl⟩
  rintro v G2 ⟨M,O,X,rfl,rfl⟩;rw[<-h3.length,Nn<|Na _];refine⟨_,rfl,.inl ⟨rfl,_,SqL.of n⟩,_,rfl,L,_,_,rfl,rfl,n,(by rw[MY,Ph];exact aR<|by lia),?_⟩;refine⟨_,_,_,_,_,rfl,?_,a.upd_new Y _⟩;rw[aa,Rp,NI,P1];rfl
 rintro v G ⟨Z,x6,M,O,X,rfl,n,a⟩;have eR:(Os (2^t.length)).map (λm=>V.bl<|dh t C (t.length-t.length) t.length m)=uE t C t.length:=rfl;rw[eR]at n;refine⟨_,rfl,(by show 1<=sizeLine;decide),λl hl=>?_⟩;have N:L≠l:=ai n hl;have kl:Same G (upd G l<|.lst [.ref L]):=af hl _;have rl:upd G l (.lst [.ref L]) l=B' (.lst [.ref L]):=aa;have nl:H l=none:=a.free hl;generalize upd G l (.lst [.ref L])=H2 at kl rl;refine⟨_,rfl,_,_,rfl,rfl,_,rfl,_,rfl,(t.length:Int)-1,-1,rfl,⟨by lia,by lia,by lia,by lia⟩,nj (lo:=(t.length:Int)-1)
  (t7 p t y l C H)
  ⟨_,_,_,_,_,_,M5,M5,[.ref L],rfl,rl,rfl,λd hd=>?_,a.trans kl⟩ ?_ ?_⟩
 ·have:d=0:=by
   have:d<1:=hd;lia
  subst this;exact⟨L,rfl,N,kl _ _ n⟩
 ·rintro j v W hj ⟨x4,Z,x6,M,O,X,a2,B,ys,rfl,n,g2,I,k3⟩;have bb:j<t.length:=by lia
  obtain⟨k,hk⟩:∃k:Nat,t.length=k+j+1:=⟨t.length-j-1,by lia⟩;have ek:(t.length:Int)-1-(j:Int)=(k:Int):=by lia
  have eL:t.length-j=k+1:=by lia
  rw[eL]at I;obtain⟨a0,g4,g5,g6⟩:=I 0 (by lia);rw[Wr]at g6;have bc:=p8 k (by lia);have a3:=wj k;rw[ek];have ab:k<t.cps.toList.length:=by
   rw[NH];show k<t.length
   lia
  have ac:=M4 ab;have a4:=az _<|PB ab;refine⟨NA _,λD hD=>?_⟩;have k4:=af hD<|.lst [];have r4:upd W D (.lst []) D=B' (.lst []):=aa;have N:D≠l:=OV<|ai n hD;generalize upd W D (.lst [])=H4 at k4 r4;refine⟨_,rfl,_,_,rfl,rfl,⟨by lia,by lia,by decide⟩,((2^k:Nat):Int),Oe (λz=>[V.int z]) a3,(th (by decide)<|U7 _),(by lia),?_⟩;refine fJ (lo:=0) (n:=2^k) (t8 p t y D x6 M O X l k C W)
   ⟨_,_,rfl,r4,k4⟩ ?_ ?_
  ·rintro i v G hi ⟨Z,B,rfl,d1,a⟩;have get:∀(H':Hp) (m:Nat) (i:Int),Same W H'->m<2^(k+1)->i=(m:Int)->∀R:VK,R (.bl<|dh t C (t.length-(k+1)) (k+1) m) H'->Ga K (.ref a0) (.int i) H' R:=λH' m i k' hm hi R r=>
    (iw (k' _ _ g6) (AH hm hi) r)
   refine⟨_,rfl,(iw (a _ _ n) (bi (j:=0) g4) ⟨_,rfl,_,_,rfl,rfl,.inl ⟨by decide,by decide⟩,get G (2*i) _ a (by rw[Qo];lia) (by lia) _ ?_⟩)⟩;refine⟨_,rfl,(iw (a _ _ n) (bi (j:=0) g4) ⟨_,rfl,_,_,rfl,rfl,.inl ⟨by decide,by decide⟩,_,_,rfl,rfl,get G (2*i+1) _ a (by rw[Qo];lia) (by lia) _ ?_⟩)⟩;have J:=AI (c:=C) (show k<t.length by lia) i;generalize dh t C (t.length-(k+1)) (k+1) (2*i)=u at J;generalize dh t C (t.length-(k+1)) (k+1) (2*i+1)=U at J;refine⟨(by show 2<=sizeLine;decide),λtw a5=>?_⟩;have k5:=af a5<|.lst [.bl u,.bl U];have r5:upd G tw (.lst [.bl u,.bl U]) tw=B' (.lst [.bl u,.bl U]):=aa;have d5:=k5 _ _ d1;generalize upd G tw (.lst [.bl u,.bl U])=G2 at k5 r5 d5;refine⟨_,rfl,.inl ⟨rfl,_,SqL.of d5⟩,_,rfl,tw,_,rfl,.inl<|SqL.of r5,rfl,rfl,_,rfl,tw,_,rfl,.inl<|SqL.of r5,rfl,rfl,(by show 2<=sizeLine;decide),λpk a6=>?_⟩;have k6:=af a6<|.lst [.bl<|iR (.bl MX) [.bl u,.bl U],.bl (!iR (.bl MW) [.bl u,.bl U])];have r6:upd G2 pk (.lst [.bl<|iR (.bl MX) [.bl u,.bl U],.bl (!iR (.bl MW) [.bl u,.bl U])]) pk=B' (.lst [.bl<|iR (.bl MX) [.bl u,.bl U],.bl (!iR (.bl MW) [.bl u,.bl U])]):=aa;have d6:=k6 _ _ d5;change _ at r6;refine⟨_,rfl,_,rfl,.inr<|.inr ⟨t,(k:Int),_,rfl,rfl,OG (aR<|by lia),bi ac,.inl ⟨rfl,.inr ⟨_,rfl,(iw r6 (Ds _ _ _) ?_)⟩⟩⟩⟩;rw[K9 a4];have ew:decide (t.cps.toList[k]=119)=cj t k:=(uD ac).symm;rw[ew];have ev:(if(!cj t k)=MX then V.bl (!iR (.bl MW) [.bl u,.bl U])else V.bl (iR (.bl MX) [.bl u,.bl U]))=.bl (dh t C (t.length-k) k i):=by
    rw[J,Dr,Dr];cases cj t k<;>cases u<;>cases U<;>rfl
   rw[ev];refine⟨D,_,_,rfl,rfl,d6,(by rw[MY,Ph];exact aR<|by lia),?_⟩;refine⟨_,_,rfl,?_,(a.trans<|k5.trans k6).upd_new hD _⟩;rw[aa,Rp,NI];rfl
  rintro v G ⟨Z,B,rfl,d1,a⟩;have eR:(Os (2^k)).map (λm=>V.bl<|dh t C (t.length-k) k m)=uE t C k:=rfl;rw[eR]at d1;have l1:=a _ _ n;refine⟨_,rfl,.inl ⟨rfl,_,SqL.of l1⟩,_,rfl,l,ys,0,.ref D,rfl,rfl,l1,SU _,by lia,by rw[g2];exact aR (by lia),?_⟩;have e3:t.length-(j+1)=k:=by lia
  refine⟨_,_,_,_,_,_,_,_,.ref D::ys,rfl,aa,by rw[NC,g2],e3▸LV.cons (lo:=k+1) (I.keep λb o hb Tf=>?_) N ?_ rfl,(k3.trans a).upd_new nl _⟩
  ·rw[aj Tf];exact a _ _ hb
  rw[aj N];exact d1
 rintro v W ⟨x4,Z,x6,M,O,X,a2,B,ys,rfl,n,g2,I,k3⟩;have eN:((t.length:Int)-1 - -1).toNat=t.length:=by lia
 rw[eN]at g2 I;rw[P1]at I;exact⟨_,rfl,q l ys W k3 n g2 I⟩
theorem t9:al ["_law_sentence_here"] ["_law_sentence_here"] (ah rq):=d_
theorem zu(F:Fun K "_law_winner" "_law_winner" rq f n)(T:Mq m)(c:Fe P w K m b 1 "_law_levels" tX):aP P w K m b cr 2 f n ["_law_sentence_here"] tY:=by
 have M:=t9;refine F.okA t9 λN A o s H O Q E u h=>?_;obtain⟨p,v,t,x,C,rfl,y,z,B,g,d,D,q⟩:=h;exists _,(bN<|a_ (aI<|aV aQ aQ)<|bB o_ rfl T.int Rw<|a9<|a_ (a_ (cE c u<|a9<|pv 0) ae) ae);refine⟨(by show 2<=sizeLine;decide),λL e=>?_⟩;have k:=af e<|.lst [.str<|M_ "spoiler",.str<|M_ "wisher"];have r:upd H L (.lst [.str<|M_ "spoiler",.str<|M_ "wisher"]) L=B' (.lst [.str<|M_ "spoiler",.str<|M_ "wisher"]):=aa;generalize upd H L (.lst [.str<|M_ "spoiler",.str<|M_ "wisher"])=U at k r;refine⟨_,rfl,p,v,t,x,C,rfl,k _ _ y,k _ _ z,B.mono k,g,d,D,λl Y W j G X I=>?_⟩;obtain⟨a,J,i⟩:=I.at (d:=0) (by lia) (j:=0) rfl;refine(iw G J<|iw i (AH (m:=0) (by decide) rfl)<|.inr ⟨_,rfl,?_⟩);exact OD.hand_at (j _ _ r) _<|q _<|k.trans j
section
variable {S:SS}
theorem SrAt.put_far(h:SrAt C A t q S H)(c:A.far x)(e:H x=B' (.lst j)):SrAt C A t q S (upd H x<|.lst W):=by
 have k:TupS H (upd H x<|.lst W):=λa Z g=>by rw[aj λz=>by rw[z,e]at g;cases g];exact g
 have n:∀a,A.own a->a≠x:=λa u z=>(h.far x c).1 (by rw[<-z];exact u);have m:∀a o,a≠x->H a=B' o->upd H x (.lst W) a=B' o:=λa o z g=>by rw[aj z];exact g
 have d:∀a s,H a=B' (.dK s)->a≠x:=λa s g z=>by rw[z,e]at g;cases g
 obtain⟨j,y,p⟩:=h.r;obtain⟨X,Q,B⟩:=h.hq;obtain⟨F,G,I⟩:=h.f;refine⟨m _ _ (n _<|.inl rfl) h.hx,k _ _ h.hp,⟨X,m _ _ (λz=>h.nq<|.inr<|by rw[z];exact c) Q,k.cls B⟩,m _ _ (d _ _ h.hl) h.hl,m _ _ (d _ _ h.hd) h.hd,λz=>?_,λz=>?_,m _ _ (n _<|.inr<|.inl rfl) h.b,⟨F,m _ _ (n _<|.inr<|.inr<|.inl rfl) G,k.opts I⟩,⟨j,m _ _ (n _<|.inr<|.inr<|.inr<|.inl rfl) y,p.len,λi v e=>?_⟩,h.nq,h.nd,h.np,h.good,h.len,λa z=>⟨(h.far a z).1,?_⟩⟩
 ·obtain⟨L,e,J⟩:=h.l z;exact⟨L,m _ _ (n _<|.inr<|.inr<|.inr<|.inr ⟨z,.inl rfl⟩) e,k.goods (h.good z) J⟩
 ·obtain⟨D,e,M⟩:=h.d z;exact⟨D,m _ _ (n _<|.inr<|.inr<|.inr<|.inr ⟨z,.inr rfl⟩) e,M⟩
 ·obtain⟨a,W,N,O,E,P⟩:=p.at_ i v e;exact⟨a,W,N,m _ _ (λz=>E<|.inr<|by rw[z];exact c) O,E,k.opts P⟩
 obtain⟨o,g⟩:=(h.far a z).2;by_cases w:a=x
 ·rw[w];exact⟨_,aa⟩
 exact⟨o,m _ _ w g⟩
end
theorem mE:∀a b S,dI t c (a+b) S=dI t c b (dI t c a S)
 |0,b,S=>by rw[Qn];rfl
 |a+1,b,S=>by
  rw[Nat.succ_add];cases e:S.win.isSome with
  |true=>rw[iQ e,iQ e,iQ e]
  |false=>
   have h:∀k,dI t c (k+1) S=dI t c k (cF t c S):=λk=>by
    show(if S.win.isSome=MX then S else dI t c k (cF t c S))=_
    rw[e];rfl
   rw[h,h];exact mE a b _
theorem iE(h:∀c∈C,ap t.length c)(H:t.length<=40)(n:Nat):hW t C (dI t C n eH)\/xw t C (dI t C n eH):=(vo h H n eH gS).imp And.left id
noncomputable abbrev oT:OZ:=fh (dN 48) 8
structure Told (H:Hp)(lw:Nf->gV Nh)(r:M0)(pa la:Nf->M0)(ys:Nf->gV V):Prop where
 r:H r=B' (.tup [.ref<|pa MW,.ref<|pa MX])
 p:∀b,H (pa b)=B' (.tup [.str<|ay b,.ref<|la b])
 l:∀b,H (la b)=B' (.lst<|ys b)
 y:∀b,dw H (lw b)<|ys b
theorem Told.mono{H a:Hp}{L:Nf->gV Nh}{r:M0}{P c:Nf->M0}{Y:Nf->gV V}(h:Told H L r P c Y)(k:Same H a):Told a L r P c Y:=⟨k _ _ h.r,λb=>k _ _<|h.p b,λb=>k _ _<|h.l b,λb=>bE k _ _<|h.y b⟩
inductive t_ (C:M0)(vs:gV V)(H:Hp)(Q:VK):Prop
 |mk (A:SA)(t:Str)(cs:gV (gV Int))(S:SS)(h0:vs=[.ref A.x])(h:SrAt C A t cs S H)
  (q:∀r pa l ys a,Same H a->Told a S.lw r pa l ys->(∀b,H (l b)=M5)->l MW≠l MX->Q (.ref r) a):t_ C vs H Q
def kU(C:M0):Sp:=λv H Q _=>t_ C v H Q
theorem qw:al ["self"] ["self"] (ah oT):=d_
theorem vC(F:Fun K "learnt" "Searcher.learnt" oT f fd)(T:lO K mg C):aP P w K mg D cr 1 f fd ["self"] (kU C):=by
 have sc:=qw;refine F.okA qw λQu A o s H vs Q E G h=>?_;obtain⟨B,t,cs,S,rfl,h,q⟩:=h;have hu:=G.units;have X:=pq G;have I:=h.hx;obtain⟨e,j,p⟩:=h.l MW;obtain⟨m,u,v⟩:=h.l MX;exists _,(bN<|aU<|aV (aU<|aV (aN rfl T.g_SPOILER)<|bB cx rfl T.list OT<|a9<|cg X (bo (pv 0) rfl) (aN rfl T.g_SPOILER) λ_ _=>rfl)<|aU<|aV (aN rfl T.g_WISHER)<|bB cx rfl T.list OT<|a9<|cg X (bo (pv 0) rfl) (aN rfl T.g_WISHER) λ_ _=>rfl);refine⟨_,rfl,B.x,C,B.dx,_,_,rfl,I,T.cl,T.nL,rfl,B.dl,_,rfl,eP h.hl MW,B.ll MW,e,rfl,.inl<|SqL.of j,λl J=>⟨(by show 2<=sizeLine;decide),λa M=>?_⟩⟩;have O:=af J<|.lst e;have x:upd H l (.lst e) l=B' (.lst e):=aa;generalize upd H l (.lst e)=U at O x M ⊢;have g:=af M<|.tup [.str<|M_ "spoiler",.ref l];have W:upd U a (.tup [.str<|M_ "spoiler",.ref l]) a=B' (.tup [.str<|M_ "spoiler",.ref l]):=aa;generalize upd U a (.tup [.str<|M_ "spoiler",.ref l])=Y at g W ⊢;have k:=O.trans g;refine⟨_,rfl,B.x,C,B.dx,_,_,rfl,k _ _ I,T.cl,T.nL,rfl,B.dl,_,rfl,eP (k _ _ h.hl) MX,B.ll MX,m,rfl,.inl<|SqL.of<|k _ _ u,λL n=>⟨(by show 2<=sizeLine;decide),λb Z=>⟨(by show 2<=sizeLine;decide),λr N=>?_⟩⟩⟩;have nl:l≠L:=λz=>by rw[<-z,g _ _ x]at n;cases n
 have k3:=af n<|.lst m;have s3:upd Y L (.lst m) L=B' (.lst m):=aa;generalize upd Y L (.lst m)=H3 at k3 Z N s3 ⊢;have y:=af Z<|.tup [.str<|M_ "wisher",.ref L];have s4:upd H3 b (.tup [.str<|M_ "wisher",.ref L]) b=B' (.tup [.str<|M_ "wisher",.ref L]):=aa;generalize upd H3 b (.tup [.str<|M_ "wisher",.ref L])=H4 at y s4 N ⊢;have i:=af N<|.tup [.ref a,.ref b];have s5:upd H4 r (.tup [.ref a,.ref b]) r=B' (.tup [.ref a,.ref b]):=aa;generalize upd H4 r (.tup [.ref a,.ref b])=H5 at i s5 ⊢;have c:=k3.trans<|y.trans i;have d:=k.trans c;refine q r (λz=>if z=MX then b else a) (λz=>if z=MX then L else l) (λz=>if z=MX then m else e) H5 d ⟨s5,λz=>?_,λz=>?_,λz=>?_⟩ (λz=>?_) nl
 ·cases z
  ·exact c _ _ W
  exact i _ _ s4
 ·cases z
  ·exact(g.trans c) _ _ x
  exact(y.trans i) _ _ s3
 ·cases z
  ·exact bE d _ _ p
  exact bE d _ _ v
 cases z
 ·exact J
 exact k.free n
noncomputable abbrev vD:OZ:=dN 51
structure MJ (mg:Str->MZ J')(C1 C2 C3 C4 C5 C6 C7 C8 C9:M0):Prop where
 isinstance:mg "isinstance"=M5
 ValueError:mg "ValueError"=M5
 g_NoVariable:fS mg "NoVariable" (.ref C1)
 g_NoFilling:fS mg "NoFilling" (.ref C2)
 g_BadLine:fS mg "BadLine" (.ref C3)
 g_NotWhole:fS mg "NotWhole" (.ref C4)
 g_NoHand:fS mg "NoHand" (.ref C5)
 g_BadStep:fS mg "BadStep" (.ref C6)
 g_NoForm:fS mg "NoForm" (.ref C7)
 g_TooMany:fS mg "TooMany" (.ref C8)
 g_NoText:fS mg "NoText" (.ref C9)
structure MK (K:K')(CC C1 C2 C3 C4 C5 C6 C7 C8 C9:M0)(b1 b2 b3 b4 b5 b6 b7 b8 b9:Nf):Prop where
 ask:gY K CC
 kV:N6 K (.ref CC) (.type "ValueError")=B' MX
 k1:N6 K (.ref CC) (.ref C1)=B' b1
 k2:N6 K (.ref CC) (.ref C2)=B' b2
 k3:N6 K (.ref CC) (.ref C3)=B' b3
 k4:N6 K (.ref CC) (.ref C4)=B' b4
 k5:N6 K (.ref CC) (.ref C5)=B' b5
 k6:N6 K (.ref CC) (.ref C6)=B' b6
 k7:N6 K (.ref CC) (.ref C7)=B' b7
 k8:N6 K (.ref CC) (.ref C8)=B' b8
 k9:N6 K (.ref CC) (.ref C9)=B' b9
inductive Dt (C:M0)(b B a c d e f g i:Nf)(vs:gV V)(H:Hp)(Q:VK):Prop
 |mk (E:M0)(h0:vs=[.ref E])(j:IsExc H E C)(q:∀(l:M0) (h:Hp),Same H h->h l=B' (.lst [.bl b,.bl B,.bl a,.bl c,.bl d,.bl e,.bl f,.bl g,.bl i,.bl MX])->Q (.ref l) h)
def rA(C:M0)(b B a c d e f g h:Nf):Sp:=λv H Q _=>Dt C b B a c d e f g h v H Q
theorem fZ(x:IsExc H e C)(k:Same H h):IsExc h e C:=x.elim (λz=>.inl<|k _ _ z) λ⟨d,z⟩=>.inr ⟨d,k _ _ z⟩
theorem xS:al ["_law_kept","_law_kinds_here"] ["_law_kept"] (ah vD):=d_
theorem Du(F:Fun K "_law_kinds" "_law_kinds" vD f fd)(T:MJ mg C1 C2 C3 C4 C5 C6 C7 C8 C9)(B:MK K C C1 C2 C3 C4 C5 C6 C7 C8 C9 b a c d e g j k l):aP P w K mg U cr 1 f fd ["_law_kept"] (rA C b a c d e g j k l):=by
 have v:=xS;refine F.okA xS λQu A O s H vs Q E hr h=>?_;obtain⟨i,rfl,m,q⟩:=h;have hu:=hr.units;have en:decide (V.ref i=V.non)=false:=M6 λz=>by cases z
 refine⟨_,(ad (aE (ee ib (pv 0) bg) (bN<|aI bz) am)
  (ad (cM 1 v.nd<|aI<|au (ag bQ rfl T.isinstance Nr<|aV (pv 0)<|aN rfl T.g_NoVariable)<|aV (ag bQ rfl T.isinstance Nr<|aV (pv 0)<|aN rfl T.g_NoFilling)<|ag bQ rfl T.isinstance Nr<|aV (pv 0)<|aN rfl T.g_BadLine)
  (ad (cM 1 v.nd<|ar eD (pv 1)<|aI<|au (ag bQ rfl T.isinstance Nr<|aV (pv 0)<|aN rfl T.g_NotWhole)<|aV (ag bQ rfl T.isinstance Nr<|aV (pv 0)<|aN rfl T.g_NoHand)<|ag bQ rfl T.isinstance Nr<|aV (pv 0)<|aN rfl T.g_BadStep)
  (ad (cM 1 v.nd<|ar eD (pv 1)<|aI<|au (ag bQ rfl T.isinstance Nr<|aV (pv 0)<|aN rfl T.g_NoForm)<|aV (ag bQ rfl T.isinstance Nr<|aV (pv 0)<|aN rfl T.g_TooMany)<|ag bQ rfl T.isinstance Nr<|aV (pv 0)<|aN rfl T.g_NoText)
  (bN<|ar eD (pv 1)<|aI<|a9<|ag bQ rfl T.isinstance Nr<|aV (pv 0)<|cG (v:=.ty "ValueError") rfl T.ValueError PyProof.Rows.Boot.«ValueError» rfl))))),?_⟩
 exists _,rfl,rfl,_,rfl;rw[en];refine av ?_;refine⟨_,rfl,⟨i,C,_,_,_,rfl,rfl,m,B.ask,B.k1,_,rfl,⟨i,C,_,_,_,rfl,rfl,m,B.ask,B.k2,_,rfl,⟨i,C,_,_,_,rfl,rfl,m,B.ask,B.k3,(by show 3<=sizeLine;decide),λL VI=>?_⟩⟩⟩⟩;have p:=af VI<|.lst [.bl b,.bl a,.bl c];have W:upd H L (.lst [.bl b,.bl a,.bl c]) L=B' (.lst [.bl b,.bl a,.bl c]):=aa;show fO 1 (.ref L) _ (upd H L<|.lst [.bl b,.bl a,.bl c]) _
 generalize upd H L (.lst [.bl b,.bl a,.bl c])=x at p W;refine⟨_,rfl,_,rfl,⟨i,C,_,_,_,rfl,rfl,(fZ m p),B.ask,B.k4,_,rfl,⟨i,C,_,_,_,rfl,rfl,(fZ m p),B.ask,B.k5,_,rfl,⟨i,C,_,_,_,rfl,rfl,(fZ m p),B.ask,B.k6,(by show 3<=sizeLine;decide),λt Yq=>?_⟩⟩⟩⟩;have X:=af Yq<|.lst [.bl d,.bl e,.bl g];refine⟨L,t,_,_,rfl,rfl,X _ _ W,aa,(by show 6<=sizeLine;decide),λn y=>?_⟩;have r:=p.trans<|X.trans<|af y<|.lst [.bl b,.bl a,.bl c,.bl d,.bl e,.bl g];have Y:upd (upd x t<|.lst [.bl d,.bl e,.bl g]) n (.lst [.bl b,.bl a,.bl c,.bl d,.bl e,.bl g]) n=B' (.lst [.bl b,.bl a,.bl c,.bl d,.bl e,.bl g]):=aa;show fO 1 (.ref n) _ (upd (upd x t<|.lst [.bl d,.bl e,.bl g]) n<|.lst [.bl b,.bl a,.bl c,.bl d,.bl e,.bl g]) _
 generalize upd (upd x t<|.lst [.bl d,.bl e,.bl g]) n (.lst [.bl b,.bl a,.bl c,.bl d,.bl e,.bl g])=D at r Y;refine⟨_,rfl,_,rfl,⟨i,C,_,_,_,rfl,rfl,(fZ m r),B.ask,B.k7,_,rfl,⟨i,C,_,_,_,rfl,rfl,(fZ m r),B.ask,B.k8,_,rfl,⟨i,C,_,_,_,rfl,rfl,(fZ m r),B.ask,B.k9,(by show 3<=sizeLine;decide),λu G=>?_⟩⟩⟩⟩;have Z:=af G<|.lst [.bl j,.bl k,.bl l];refine⟨n,u,_,_,rfl,rfl,Z _ _ Y,aa,(by show 9<=sizeLine;decide),λo I=>?_⟩;have J:=r.trans<|Z.trans<|af I<|.lst [.bl b,.bl a,.bl c,.bl d,.bl e,.bl g,.bl j,.bl k,.bl l];have r5:upd (upd D u<|.lst [.bl j,.bl k,.bl l]) o (.lst [.bl b,.bl a,.bl c,.bl d,.bl e,.bl g,.bl j,.bl k,.bl l]) o=B' (.lst [.bl b,.bl a,.bl c,.bl d,.bl e,.bl g,.bl j,.bl k,.bl l]):=aa;show fO 1 (.ref o) _ (upd (upd D u<|.lst [.bl j,.bl k,.bl l]) o<|.lst [.bl b,.bl a,.bl c,.bl d,.bl e,.bl g,.bl j,.bl k,.bl l]) _
 generalize upd (upd D u<|.lst [.bl j,.bl k,.bl l]) o (.lst [.bl b,.bl a,.bl c,.bl d,.bl e,.bl g,.bl j,.bl k,.bl l])=H5 at J r5;refine⟨_,rfl,_,rfl,⟨i,C,.ty "ValueError",.type "ValueError",MX,rfl,rfl,fZ m J,B.ask,B.kV,(by show 1<=sizeLine;decide),λl6 M=>?_⟩⟩;have k6:=af M<|.lst [.bl MX];refine⟨o,l6,_,_,rfl,rfl,k6 _ _ r5,aa,(by show 10<=sizeLine;decide),λl7 N=>?_⟩;exact q l7 _ (J.trans<|k6.trans<|af N _) aa
inductive Dv (C c:M0)(vs:gV V)(H:Hp)(E:XK):Prop
 |mk (A:SA)(t:Str)(cs:gV (gV Int))(S:SS)(h0:vs=[.ref A.x])(h:SrAt C A t cs S H)(s:S.win=M5)(q:∀a,Same H a->E (.ref c) M5 a)
def xT(C c:M0):Sp:=λv H _ E=>Dv C c v H E
theorem Dw(F:Fun K "paper" "Searcher.paper" mB f d)(R:lO K m C)(T:MG K m c):aP P w K m b (zy P w) 1 f d ["self"] (xT C c):=by
 have a:=jY;refine F.oXA jY λu A o s H v Q E r h=>?_;obtain⟨B,t,e,S,rfl,h,i,q⟩:=h;have g:=r.units;have x:=h.hx;rw[i]at x;refine⟨_,(ad (aE (ee ib (bo (pv 0) rfl) bg) (ax<|AJ T.x_NotWhole PySem.F.excBase_ValueError T.m_NotWhole rfl<|a9 aQ) am)
  (ax gy)),?_⟩
 exists _,rfl,B.x,C,B.dx,_,_,rfl,x,R.cl,R.nW,rfl,rfl,_,rfl;rw[show decide (o6 M5=V.non)=MX from Ng rfl];exact aB ⟨(by show 1<=sizeLine;decide),q H<|Same.refl _⟩
noncomputable abbrev xU:OZ:=dN 66
structure Hk (K:K')(mg:Str->MZ J')(CD CC:M0):Prop where
 m_DuelError:mg "DuelError"=B' (.ref CD)
 x_DuelError:Q0 K CD [.type "ValueError",.type "Exception",.type "BaseException",.type "object"] "ValueError.__new__"=MX
 be_DuelError:Py K CD (.type "BaseException")=B' MX
 lt_DuelError:Py K CC (.ref CD)=B' MX
inductive Hl (C:M0)(vs:gV V)(H:Hp)(Q:VK):Prop
 |mk (A:SA)(t:Str)(cs:gV (gV Int))(S:SS)(hw:Nf)(h0:vs=[.ref A.x])(h:SrAt C A t cs S H)(W:xw t cs S)(s:S.win=B' hw)(e:(S.ow hw).getLast?=B' [])(d:∀c∈cs,ap t.length c)(f:t.length<=40)(I:cs.length<=900)(g:(S.lw hw).length<=2048)
  (q:∀r b l ys a,Same H a->H b=M5->H l=M5->a r=B' (.tup [.ref b,.non])->a b=B' (.tup [.str<|ay hw,.ref l])->a l=B' (.lst ys)->dw a (oQ (S.lw hw)<|S.ow hw) ys->Q (.ref r) a):Hl C vs H Q
def Dx(C:M0):Sp:=λv H Q _=>Hl C v H Q
inductive Dy (C c:M0)(vs:gV V)(H:Hp)(Q:VK):Prop
 |mk (A:SA)(t:Str)(cs:gV (gV Int))(S:SS)(h0:vs=[.ref A.x])(h:SrAt C A t cs S H)(s:S.win=M5)(q:∀r e a,Same H a->a r=B' (.tup [.non,.ref e])->IsExc a e c->Q (.ref r) a)
def rB(C c:M0):Sp:=λv H Q _=>Dy C c v H Q
theorem rC:al ["_law_searcher","_law_found","_law_kept","e"] ["_law_searcher"] (ah xU):=d_
theorem FX(F:Fun K "_law_paper" "_law_paper" xU f e)(g:pX P w K m b cr 9 C "paper" J L ["self"] (jX C)):aP P w K m b cr 10 f e ["_law_searcher"] (Dx C):=by
 have c:=rC;refine F.okA rC λM A o s H O Q E i h=>?_;obtain⟨B,t,j,S,n,rfl,h,W,p,u,v,x,I,y,q⟩:=h;refine⟨_,(ad (cM 1 c.nd bg)
  (ad (cM 2 c.nd bg)
  (ad (Ff rfl<|ax<|cM 1 c.nd<|iu g (pv 0) i<|by lia)
  (bN<|aU<|aV (pv 1)<|pv 2)))),?_⟩
 refine⟨_,rfl,B.x,B.dx,_,rfl,h.hx,rfl,B,t,j,S,n,rfl,h,W,p,u,v,x,I,y,λd l Y T z N D Z G U=>?_⟩;refine⟨_,rfl,_,rfl,(by show 2<=sizeLine;decide),λr a=>?_⟩;have k:=af a<|.tup [.ref d,.non];exact q r d l Y _ (z.trans k) N D aa (k _ _ Z) (k _ _ G)<|bE k _ _ U
theorem Dz(F:Fun K "_law_paper" "_law_paper" xU f d)(T:Hk K m D C)(W:pX P w K m b (zy P w) 1 a "paper" G u ["self"] (xT a C)):aP P w K m b cr 10 f d ["_law_searcher"] (rB a C):=by
 have c:=rC;refine F.okA rC λv A o s H x Q E g h=>?_;obtain⟨B,t,i,S,rfl,h,j,q⟩:=h;refine⟨_,(ad (cM 1 c.nd bg)
  (ad (cM 2 c.nd bg)
  (ad (Fd (i:=3) c.nd rfl rfl rfl rfl rfl T.x_DuelError T.be_DuelError T.lt_DuelError T.m_DuelError rfl (EJ (i:=1) c.nd rfl (Zj rfl)<|Fm W (pv 0) (λ_ _ z=>z) g<|by lia) λ_ _=>(ax<|cM 2 c.nd<|pv 3))
  (bN<|aU<|aV (pv 1)<|pv 2)))),?_⟩
 refine⟨_,rfl,B.x,B.dx,_,rfl,h.hx,rfl,B,t,i,S,rfl,h,j,λy l=>⟨rfl,λe n=>⟨_,rfl,?_⟩⟩⟩;have p:=af n<|uF e C;refine⟨_,rfl,_,rfl,(by show 2<=sizeLine;decide),λr Z=>?_⟩;have k:=af Z<|.tup [.non,.ref e];exact q r e _ (l.trans<|p.trans k) aa<|.inl<|k _ _ aa
noncomputable abbrev oU:OZ:=dN 67
structure K_ (t:Str)(cs:gV (gV Int))(lw:Nf->gV Nh):Prop where
 run:∀b,(b0 t cs b []<|lw b).2=MX
 good:∀b,∀d∈lw b,aZ d
 few:∀b,(lw b).length<=4096
structure Eld (H:Hp)(lw:Nf->gV Nh)(e:M0)(ea:Nf->M0)(es:Nf->gV V):Prop where
 e:H e=B' (.lst [.ref<|ea MW,.ref<|ea MX])
 l:∀b,H (ea b)=B' (.lst<|es b)
 y:∀b,∃ds,ds <+:lw b/\dw H ds (es b)
theorem Eld.mono{H a:Hp}{L:Nf->gV Nh}{e:M0}{E:Nf->M0}{s:Nf->gV V}(h:Eld H L e E s)(k:Same H a):Eld a L e E s:=⟨k _ _ h.e,λb=>k _ _<|h.l b,λb=>let ⟨d,p,y⟩:=h.y b;⟨d,p,bE k _ _ y⟩⟩
inductive ua (vs:gV V)(H:Hp)(Q:VK):Prop
 |mk (p q r e:M0)(t:Str)(cs:gV (gV Int))(xs:gV V)(lw:Nf->gV Nh)(pa l E:Nf->M0)(ys es:Nf->gV V)(h0:vs=[.ref p,.ref r,.ref e])(a:H p=B' (.tup [.str t,.ref q]))(b:t.length<=40)(d:H q=B' (.lst xs))(f:CLs H cs xs)(g:cs.length<=900)(i:∀c∈cs,ap t.length c)
  (j:Told H lw r pa l ys) (k:Eld H lw e E es) (m:K_ t cs lw) (q:∀h,Same H h->Q (.bl MX) h):ua vs H Q
def kW:Sp:=λv H Q _=>ua v H Q
inductive La (p r e:M0)(h:Hp)(a:St)(H:Hp):Prop
 |mk (v:MZ V)(h0:a=[B'<|.ref p,B'<|.ref r,B'<|.ref e,v])(k:Same h H)
theorem qx:∀{D:gV Nh} {x:gV V} (k:Nat),dw H D x->dw H (D.take k) (x.take k)
 |_,_,0,_=>by rw[U3,U3];exact aw
 |[],x,k+1,h=>by
  have e:x=[]:=by unfold dw at h;exact h
  subst e;exact aw
 |d::D,x,k+1,h=>by
  obtain⟨v,u,rfl,r,t⟩:=ao h;exact ak r<|qx k t
theorem vE(h:∀d∈D,aZ d):OB (.list D)=true:=Nice.shaped (Nice.mono (kn (n:=3) λd H=>qf<|h d H)<|by decide)
theorem rD{a:Type}(f:Nf->a)(b:Nf):j0 [f MW,f MX] (if b=MX then 1 else 0)=B' (f b):=by cases b<;>rfl
theorem qy:al ["_law_sentence_here","_law_told","_law_elder","_law_k"] ["_law_sentence_here","_law_told","_law_elder"] (ah oU):=d_
theorem vF(F:Fun K "_law_learnt" "_law_learnt" oU f fd)(T:md mg)(UQ:Fe P w K mg B 5 "_law_sets" mo):aP P w K mg B cr 6 f fd ["_law_sentence_here","_law_told","_law_elder"] kW:=by
 have sc:=qy;refine F.okA qy λQu A W s H vs Q E hr h=>?_;obtain⟨p,qa,r,e,t,cs,xs,lw,g,L,X,y,x,rfl,hp,ht,hq,VJ,SI,Qm,hT,hE,M,q⟩:=h;have N:=hr.units;refine⟨_,(ad (aE (PW.pt<|cI (aT<|aK<|ag a8 rfl T.isinstance Nr<|aV (pv 1)<|cG (v:=.ty "tuple") rfl T.tuple Ox rfl)<|cO<|ee (fH N) (ag aD rfl T.len NP<|a9<|pv 1) ae) (bN bw) am)
  (ad (cP Ow rfl (eV rfl T.range<|a9 ae) (eu 3 sc.nd)
   (ad (aE (PW.pt<|cI (aT<|aK<|ag a8 rfl T.isinstance Nr<|aV (a_ (pv 1)<|pv 3)<|cG (v:=.ty "tuple") rfl T.tuple Ox rfl)<|cI (ee (fH N) (ag aD rfl T.len NP<|a9<|a_ (pv 1)<|pv 3) ae)<|cO<|ee (fH N) (a_ (a_ (pv 1)<|pv 3) ae)<|a_ (aI<|aV aQ aQ)<|pv 3) (bN bw) am)
   (ad (aE (PW.pt<|cI (aT<|aK<|ag a8 rfl T.isinstance Nr<|aV (a_ (a_ (pv 1)<|pv 3) ae)<|cG (v:=.ty "list") rfl T.list OT rfl)<|cO<|ee (fH N) (gG jp (a_ (a_ (pv 1)<|pv 3) ae) jo<|gU<|ag aD rfl T.len NP<|a9<|a_ (pv 2)<|pv 3)<|a_ (pv 2)<|pv 3) (bN bw) am)
   (ax<|aE (aT<|aK<|a_ (cE UQ hr<|aV (pv 0)<|a_ (pv 1)<|pv 3) ae) (bN bw) am))))
  (bN bw))),?_⟩
 refine⟨_,rfl,.ref r,_,"tuple",MX,rfl,.tup hT.r,bv Me,MX,rfl,av ?_⟩;refine⟨_,rfl,.ref r,_,rfl,.inr ⟨_,SqT.of hT.r,rfl⟩,.inl ⟨rfl,_,rfl,Lu rfl ?_⟩⟩;refine⟨2,rfl,(by decide),(by decide),fJ (lo:=0) (n:=2) (λ_ Y H'=>La p r e H Y H') ⟨M5,rfl,Same.refl _⟩ ?_ ?_⟩
 ·rintro i Y O hi ⟨v,rfl,k⟩;obtain⟨b,hb⟩:∃b,0+(i:Int)=if b=MX then 1 else 0:=by
   obtain rfl|rfl:=(show i=0\/i=1 by lia)
   ·exact⟨MW,rfl⟩
   exact⟨MX,rfl⟩
  rw[hb];have j:=hT.mono k;have Z:=hE.mono k;have o:=SqT.of (K:=K) j.r;have a:=rD (λb=>V.ref<|g b) b;refine⟨_,rfl,_,rfl,.inr<|.inl ⟨r,_,_,.ref<|g b,rfl,rfl,o,a,.ref<|g b,_,"tuple",MX,rfl,.tup<|j.p b,bv Me,MX,rfl,av ?_⟩⟩;refine⟨_,rfl,_,rfl,.inr<|.inl ⟨r,_,_,.ref<|g b,rfl,rfl,o,a,.ref<|g b,_,rfl,.inr ⟨_,SqT.of<|j.p b,rfl⟩,.inl ⟨rfl,_,rfl,Lu rfl ?_⟩⟩⟩;refine⟨_,rfl,_,rfl,.inr<|.inl ⟨r,_,_,.ref<|g b,rfl,rfl,o,a,(bM (j.p b) rfl ⟨(by show 2<=sizeLine;decide),λll ab=>?_⟩)⟩⟩;have U:=af ab<|.lst [.str<|M_ "spoiler",.str<|M_ "wisher"];have s2:upd O ll (.lst [.str<|M_ "spoiler",.str<|M_ "wisher"]) ll=B' (.lst [.str<|ay MW,.str<|ay MX]):=aa;generalize upd O ll (.lst [.str<|M_ "spoiler",.str<|M_ "wisher"])=H2 at U s2 ⊢;have c:=j.mono U;have m:=Z.mono U;refine⟨_,rfl,(iw s2 (rD (λb=>V.str<|ay b) b)<|.inl ⟨rfl,_,rfl,Lu rfl ?_⟩)⟩;have z:=SqT.of (K:=K) c.r;have C:=SqT.of (K:=K)<|c.p b;refine⟨_,rfl,_,rfl,.inr<|.inl ⟨r,_,_,.ref<|g b,rfl,rfl,z,a,.inr<|.inl ⟨g b,_,1,.ref<|L b,rfl,rfl,C,rfl,.ref<|L b,_,"list",MX,rfl,.lst<|c.l b,bv MC,MX,rfl,av ?_⟩⟩⟩;obtain⟨ds,u,Zt⟩:=m.y b;have D:=bZ Zt;have as:=bZ<|c.y b;have az:=M.few b;have ZG:=u.length_le;refine⟨_,rfl,_,rfl,.inr<|.inl ⟨r,_,_,.ref<|g b,rfl,rfl,z,a,.inr<|.inl ⟨g b,_,1,.ref<|L b,rfl,rfl,C,rfl,⟨_,rfl,_,rfl,(iw m.e (rD (λb=>V.ref<|X b) b) ⟨.ref<|X b,_,rfl,.inl ⟨_,SqL.of<|m.l b,rfl⟩,_,rfl,L b,y b,rfl,SqL.of<|c.l b,λsp ac=>?_⟩)⟩⟩⟩⟩;rw[AN];have G:=af ac<|.lst<|(y b).take (x b).length;have s3:upd H2 sp (.lst<|(y b).take (x b).length) sp=B' (.lst<|(y b).take (x b).length):=aa;generalize upd H2 sp (.lst<|(y b).take (x b).length)=H3 at G s3 ⊢;have l:=c.mono G;have I:=m.mono G;have an:dw H3 ds ((y b).take (x b).length):=by
   have:=qx (x b).length<|l.y b;rw[D,<-List.prefix_iff_eq_take.mp u]at this;rw[D];exact this
  refine⟨_,rfl,_,rfl,(iw I.e (rD (λb=>V.ref<|X b) b)<|nc (bP s3 an) (bP (I.l b)<|bE G _ _ Zt) (vE λd hd=>M.good b d<|u.subset hd) ⟨MW,rfl,av ?_⟩)⟩;have n:=k.trans<|U.trans G;refine⟨_,rfl,_,rfl,_,rfl,(bM l.r a ?_)⟩;refine⟨p,qa,g b,L b,t,b,xs,y b,cs,lw b,rfl,n _ _ hp,ht,n _ _ hq,VJ.mono n,(by lia),Qm,l.p b,l.l b,l.y b,(by lia),(λd hd=>mq<|M.good b d hd),λtp sl aC H4 k4 J aF Zs a0=>?_⟩;rw[M.run b]at J;exact(bM J rfl ⟨MX,rfl,av ⟨_,rfl,n.trans k4⟩⟩)
 rintro Y O ⟨v,rfl,k⟩;exact q O k
structure Hm (t:Str)(cs:gV (gV Int))(hw:Nf)(ds:gV Nh):Prop where
 good:∀d∈ds,aZ d
 few:ds.length<=2048
 run:∃out,b0 t cs hw [] ds=(out,MX)/\out.getLast?=B' []
section
variable {S:SS}
theorem rE(I:gR t c S)(H:(S.ow h).getLast?=B' [])(f:(S.lw h).length<=2048):Hm t c h (oQ (S.lw h)<|S.ow h):=by
 have s:=FR (I.run _) (I.good _) (oS H) (xO _ _)<|qv _ _;refine⟨s.good,?_,_,s.run,?_⟩
 ·have:=s.few;show(fX _ _).length<=_
  unfold fX;rw[MY];lia
 rw[List.getLast?_map,s.last];show B' ((S.ow h).getD ((S.ow h).idxOf []:Nat) [])=B' []
 obtain⟨_,a⟩:=je<|oS H;rw[M1,a];rfl
theorem qz(H:∀c∈C,ap t.length c)(h:Hm t C w d):dh t C t.length 0 0=w:=let ⟨_,r,l⟩:=h.run;sW H r (oS l)
theorem Lb(h:∀c∈C,ap t.length c)(H:t.length<=40)(n:Nat):gR t C (dI t C n eH):=(iE h H n).elim (λL=>L.I) λW=>W.I
theorem kZ(h:8>=t.length)(n:Nat)(S:SS):K7 t c n S:=λk _ L=>by
 have H:=L.few;have a:=kO t.length _ L.I.blen;have b:2^(t.length+1)<=2^9:=RQ (by decide) (by lia);have d:(2:Nat)^9=512:=by decide
 lia
theorem xV(h:∀c∈C,ap t.length c)(a:8>=t.length)(n:Nat)(b:Nf):((dI t C n eH).lw b).length<=2048:=by
 have d:=oM (dI t C n eH) b;have e:2^(t.length+1)<=2^9:=RQ (by decide) (by lia);have f:(2:Nat)^9=512:=by decide
 obtain L|W:=iE h (by lia) n
 ·have H:=L.few;have g:=kO t.length _ L.I.blen;lia
 have H:=W.few;lia
theorem xW(h:∀c∈C,ap t.length c)(H:t.length<=40)(n:Nat):bK (dI t C n eH)+2*pend (dI t C n eH).fs<=4*n:=by
 have:=CH h H n eH gS;show _<=_
 have e:bK eH+2*pend eH.fs=0:=rfl;lia
theorem zw(h:∀c∈C,ap t.length c)(H:t.length<=40)(a:n<=400):K7 t C n eH:=λk b _=>by
 have:=xW h H k;lia
theorem FY(n m:Nat)(b:Nf):(dI t c n eH).lw b <+:(dI t c (n+m) eH).lw b:=by
 rw[mE];exact CG t c b m _
theorem DB(I:gR t c (dI t c n eH))(h:∀b,((dI t c n eH).lw b).length<=4096):K_ t c (dI t c n eH).lw:=⟨λb=>by rw[I.run b],I.good,h⟩
theorem Js(H:∀c∈C,ap t.length c)(a:t.length<=40)(h:(dI t C n eH).win.isSome=MX):xw t C (dI t C n eH):=by
 obtain L|W:=iE H a n
 ·rw[L.win]at h;cases h
 exact W
end
noncomputable abbrev vG:OZ:=dN 69
structure Mr (t:Str)(cs:gV (gV Int)):Prop where
 len:t.length=40
 many:cs.length=40
 ok:∀c∈cs,ap t.length c
 win:dh t cs t.length 0 0=MX
noncomputable def rF(n:gV Int)(k:Nat):Int:=if cN n (3+(k:Int))/3%2=0 then 1 else -1
theorem rG(n:gV Int)(k:Nat):rF n k=1\/rF n k=-1:=by
 unfold rF
 split
 ·exact .inl rfl
 exact .inr rfl
def Ms(N:gV Int)(n:Nat)(c:gV Int):Prop:=∃k,k<n/\(c=[2*(k:Int)+1,rF N k*(2*(k:Int)+2)]\/c=[-(2*(k:Int)+1),-(rF N k*(2*(k:Int)+2))])
theorem Lc(h:0<z)(f:Int)(H:f=1\/f=-1):absI (f*z)=z/\absI (-(f*z))=z:=by
 obtain⟨_,e⟩|⟨_,e⟩:=aH (f*z)<;>obtain⟨_,E⟩|⟨_,E⟩:=aH (-(f*z))<;>obtain rfl|rfl:=H<;>constructor<;>lia
theorem Jt(h:Ms n 20 c):ap 40 c:=by
 obtain⟨k,H,h⟩:=h;obtain⟨a,A⟩:=Lc (z:=2*(k:Int)+1) (by lia) 1<|.inl rfl;obtain⟨b,B⟩:=Lc (z:=2*(k:Int)+2) (by lia) _<|rG n k;rw[Xk]at a A;unfold ap Ups;obtain rfl|rfl:=h
 ·simp only[NW,Rl,Oi,Nz,QI,Ys,Y7,forall_eq,a,b];refine⟨⟨by lia,λ_ z=>z.elim,RG⟩,by lia,by lia⟩
 simp only[NW,Rl,Oi,Nz,QI,Ys,Y7,forall_eq,A,B];refine⟨⟨by lia,λ_ z=>z.elim,RG⟩,by lia,by lia⟩
theorem Ld:(AO (M_ "sw") 20).length=40/\∀k,k<20->cj (AO (M_ "sw") 20) (2*k+1)=true:=by decide+kernel
inductive DC (K:K')(vs:gV V)(H:Hp)(Q:VK):Prop
 |mk (a:M0)(ns:gV Int)(h0:vs=[.ref a])(c:SqL K H a (ns.map V.int))(q:∀p b t cs xs h,Same H h->h p=B' (.tup [.str t,.ref b])->h b=B' (.lst xs)->CLs h cs xs->Mr t cs->Q (.ref p) h)
def xX(K:K'):Sp:=λv H Q _=>DC K v H Q
inductive ML (ns:gV Int)(a:M0)(m:Int)(h:Hp)(i:Nat)(b:St)(H:Hp):Prop
 |mk (l:M0)(cs:gV (gV Int))(xs:gV V)(v d e:MZ V)(h0:b=[B'<|.ref a,B'<|.int m,B'<|.ref l,v,d,e])(k:Same h H)(hl:H l=B' (.lst xs))(f:CLs H cs xs)(n:cs.length=2*i)(g:∀c∈cs,Ms ns i c)
theorem xY:al ["_law_script","_law_turn","_law_clauses","_law_k","_law_one","_law_flip"] ["_law_script"] (ah vG):=d_
theorem CLs.app(h:CLs H C X)(h':CLs H c x):CLs H (C++c) (X++x):=by
 induction h with
 |nil=>exact h'
 |cons a _ i=>exact .cons a i
theorem CLs.takeN:∀{c:gV (gV Int)} {x:gV V} (n:Nat),CLs H c x->CLs H (c.take n) (x.take n)
 |_,_,0,_=>.nil
 |_,_,_+1,.nil=>.nil
 |_,_,n+1,.cons h t=>.cons h<|CLs.takeN n t
theorem DD(F:Fun K "_law_great" "_law_great" vG f fd)(T:KI mg)(PU:Fe P w K mg D 1 "_law_cell_at" (nZ K)):aP P w K mg D cr 2 f fd ["_law_script"] (xX K):=by
 have v:=xY;refine F.okA xY λQu A az s H vs Q E hr h=>?_;obtain⟨a,N,rfl,hS,q⟩:=h;have hu:=hr.units;refine⟨_,(ad (cM 1 v.nd<|ar eB (cE PU hr<|aV (pv 0) ae) ae)
  (ad (cM 2 v.nd<|aI bz)
  (ad (cP Ow rfl (eV rfl T.range<|a9 ae) (eu 3 v.nd)
   (ad (cM 4 v.nd<|ar dG (ar fP ae<|pv 3) ae)
   (ad (cM 5 v.nd<|a_ (aI<|aV ae<|fq di ae)<|ar df (ar eB (cE PU hr<|aV (pv 0)<|ar dG ae<|pv 3) ae) ae)
   (ax<|cM 2 v.nd<|ar eD (pv 2)<|aI<|aV (aU<|aV (pv 4)<|ar fP (pv 5)<|ar dG (pv 4) ae)<|aU<|aV (ar gu ae<|pv 4)<|ar gu ae<|ar fP (pv 5)<|ar dG (pv 4) ae))))
  (bN<|aU<|aV (ar EK aQ ae)<|ar eD (gG jp (pv 2) (gU<|ar df (pv 1) ae) jo)<|gG jp (pv 2) jo<|gU<|ar df (pv 1) ae)))),?_⟩
 refine⟨_,rfl,a,N,53,rfl,hS,(by decide),_,_,rfl,rfl,⟨by decide,by decide⟩,NA _,λl0 n0=>?_⟩;have k0:=af n0<|.lst [];have s0:upd H l0 (.lst []) l0=B' (.lst []):=aa;generalize upd H l0 (.lst [])=Hb at k0 s0 ⊢;generalize cN N 53/3=m;refine⟨20,rfl,(by decide),(by decide),fJ (lo:=0) (n:=20) (λi σ H'=>ML N a m Hb i σ H') ⟨l0,[],[],M5,M5,M5,rfl,Same.refl _,s0,.nil,rfl,λ_ z=>nomatch z⟩ ?_ ?_⟩
 ·rintro i σ G hi ⟨l,C,x,v3,v4,v5,rfl,k,hl,I,hn,hg⟩;have aC:=I.length;refine⟨_,rfl,_,_,rfl,rfl,.inl ⟨by decide,by decide⟩,_,_,rfl,rfl,?_⟩;refine⟨_,rfl,(by show 2<=sizeLine;decide),λe J=>?_⟩;have g:=af J<|.lst [.int 1,.int (-1)];have M:upd G e (.lst [.int 1,.int (-1)]) e=B' (.lst [.int 1,.int (-1)]):=aa;generalize upd G e (.lst [.int 1,.int (-1)])=O at g M ⊢;have aF:=(k0.trans<|k.trans g).seq hS;refine⟨_,rfl,_,rfl,_,_,rfl,rfl,a,N,_,rfl,aF,(by lia),_,_,rfl,rfl,⟨by decide,by decide⟩,_,_,rfl,rfl,(by show(0:Int)<2;decide),?_⟩;have a0:j0 [V.int 1,V.int (-1)] (cN N (3+(0+(i:Int)))/3%2)=B' (.int<|rF N i):=by
   unfold rF;rw[YX];generalize cN N (3+(i:Int))/3=c;obtain h|h:=(show c%2=0\/c%2=1 by lia)<;>rw[h]<;>rfl
  have hf:=rG N i;refine(iw M a0 ?_);have U:∀z:Int,CMul (rF N i) z:=λz=>.inl (by obtain h|h:=hf<;>rw[h]<;>decide);have e1:2*(0+(i:Int))+1=2*(i:Int)+1:=by lia
  have e2:2*(0+(i:Int))+1+1=2*(i:Int)+2:=by lia
  refine⟨_,rfl,_,rfl,_,rfl,_,rfl,_,_,rfl,rfl,_,_,rfl,rfl,U _,(by show 2<=sizeLine;decide),λb J=>?_⟩;have y:=af J<|.tup [.int (2*(0+(i:Int))+1),.int<|rF N i*(2*(0+(i:Int))+1+1)];have W:upd O b (.tup [.int (2*(0+(i:Int))+1),.int<|rF N i*(2*(0+(i:Int))+1+1)]) b=B' (.tup [.int (2*(i:Int)+1),.int<|rF N i*(2*(i:Int)+2)]):=by rw[e2,e1];exact aa
  generalize upd O b (.tup [.int (2*(0+(i:Int))+1),.int<|rF N i*(2*(0+(i:Int))+1+1)])=X at y W ⊢;refine⟨_,rfl,_,_,rfl,rfl,_,rfl,_,rfl,_,_,rfl,rfl,_,_,rfl,rfl,U _,_,_,rfl,rfl,(by show 2<=sizeLine;decide),λd n2=>?_⟩;have B:=af n2<|.tup [.int (0-(2*(0+(i:Int))+1)),.int (0-rF N i*(2*(0+(i:Int))+1+1))];have Y:upd X d (.tup [.int (0-(2*(0+(i:Int))+1)),.int (0-rF N i*(2*(0+(i:Int))+1+1))]) d=B' (.tup [.int (-(2*(i:Int)+1)),.int (-(rF N i*(2*(i:Int)+2)))]):=by rw[e2,e1,YW,YW];exact aa
  generalize upd X d (.tup [.int (0-(2*(0+(i:Int))+1)),.int (0-rF N i*(2*(0+(i:Int))+1+1))])=H4 at B Y ⊢;refine⟨(by show 2<=sizeLine;decide),λL a1=>?_⟩;have o:=af a1<|.lst [.ref b,.ref d];have s4:upd H4 L (.lst [.ref b,.ref d]) L=B' (.lst [.ref b,.ref d]):=aa;generalize upd H4 L (.lst [.ref b,.ref d])=H5 at o s4 ⊢;have r:=g.trans<|y.trans<|B.trans o;refine⟨l,L,x,_,rfl,rfl,r _ _ hl,s4,OG<|bH (by show x.length+2<=_;lia),λu n3=>?_⟩;have k5:=af n3<|.lst<|x++[.ref b,.ref d];refine⟨u,C++[[2*(i:Int)+1,rF N i*(2*(i:Int)+2)],[-(2*(i:Int)+1),-(rF N i*(2*(i:Int)+2))]],_,_,_,_,rfl,k.trans<|r.trans k5,aa,CLs.app (I.mono<|r.trans k5)<|.cons ⟨b,rfl,(B.trans<|o.trans k5) _ _ W⟩<|.cons ⟨d,rfl,(o.trans k5) _ _ Y⟩ .nil,?_,λc h=>?_⟩
  ·rw[M7,hn];show 2*i+2=_
   lia
  obtain h|h:=NB.mp h
  ·obtain⟨j,hj,z⟩:=hg c h;exact⟨j,by lia,z⟩
  refine⟨i,by lia,?_⟩;obtain h|h:=Nz.mp h
  ·exact .inl h
  exact .inr<|Nd.mp h
 rintro σ G ⟨l,C,x,v3,v4,v5,rfl,k,hl,I,hn,hg⟩;obtain⟨Z,ab⟩:=Ld;have aC:=I.length;obtain⟨n,ac⟩:∃n:Nat,m%40=(n:Int):=⟨(m%40).toNat,by lia⟩;refine⟨_,_,rfl,rfl,(by decide),(by decide),(by decide+kernel),(by decide+kernel),(by decide+kernel),(by rw[Z];decide),_,rfl,_,rfl,_,_,rfl,rfl,(by show(0:Int)<40;decide),_,rfl,l,x,rfl,SqL.of hl,λe J=>?_⟩;generalize AO (M_ "sw") 20=t at Z ab ⊢;rw[ac,sD];have g:=af J<|.lst<|x.drop n;have M:upd G e (.lst<|x.drop n) e=B' (.lst<|x.drop n):=aa;generalize upd G e (.lst<|x.drop n)=O at g M ⊢;refine⟨_,rfl,_,rfl,_,_,rfl,rfl,(by show(0:Int)<40;decide),_,rfl,l,x,rfl,SqL.of<|g _ _ hl,λL n2=>?_⟩;rw[ac,AN];have y:=af n2<|.lst<|x.take n;have W:upd O L (.lst<|x.take n) L=B' (.lst<|x.take n):=aa;generalize upd O L (.lst<|x.take n)=X at y W ⊢;have a2:(x.drop n).length+(x.take n).length<=sizeLine:=by
  rw[Pc,NO];exact OG (bH<|by lia)
 refine⟨e,L,_,_,rfl,rfl,y _ _ M,W,a2,λu n3=>⟨(by show 2<=sizeLine;decide),λp np=>?_⟩⟩;have B:=af n3<|.lst<|x.drop n++x.take n;have Y:upd X u (.lst<|x.drop n++x.take n) u=B' (.lst<|x.drop n++x.take n):=aa;generalize upd X u (.lst<|x.drop n++x.take n)=H4 at B Y np ⊢;have o:=af np<|.tup [.str t,.ref u];have kk:=g.trans<|y.trans<|B.trans o;have an:=I.mono kk;have as:∀c∈C.drop n++C.take n,Ms N 20 c:=λc h=>hg c<|(NB.mp h).elim Ua QX;refine q p u t (C.drop n++C.take n) _ _ (k0.trans<|k.trans kk) aa (o _ _ Y) (CLs.app (CLs.drop' n an)<|CLs.takeN n an) ⟨Z,?_,λc h=>?_,?_⟩
 ·rw[M7,Pc,NO];lia
 ·rw[Z];exact Jt<|as c h
 exact y6 (n:=20) (f:=rF N) Z (rG N) ab as
noncomputable abbrev DE:OZ:=dN 68
inductive Hn (C:M0)(vs:gV V)(H:Hp)(Q:VK):Prop
 |mk (A:SA)(p a:M0)(t:Str)(cs:gV (gV Int))(z:gV V)(S:SS)(hw:Nf)(h0:vs=[.ref p,.ref A.x])(hp:H p=B' (.tup [.str t,.ref a]))(hq:H a=B' (.lst z))(v:CLs H cs z)(h:SrAt C A t cs S H)(W:xw t cs S)(i:S.win=B' hw)(e:(S.ow hw).getLast?=B' [])(f:∀c∈cs,ap t.length c)(d:Iy 0 t.length cs)(s:WS t)(g:8>=t.length)(I:cs.length<=900)(j:(S.lw hw).length<=2048)
  (q:∀b,Same H b->Q (.bl MX) b):Hn C vs H Q
def DF(C:M0):Sp:=λv H Q _=>Hn C v H Q
theorem vH{c:Nf}{p q:Prop}(e:c=MX)(h:p):if c=MX then p else q:=by rw[Nt e];exact h
theorem DG:al ["_law_sentence_here","_law_searcher","_law_found","_law_kept","_law_sets_here","_law_good"] ["_law_sentence_here","_law_searcher"] (ah DE):=d_
theorem FZ(F:Fun K "_law_settled" "_law_settled" DE f fd)(T:md m)(TY:Fe P w K m b 10 "_law_paper" (Dx CS))(u:Fe P w K m b 2 "_law_winner" tY)(UQ:Fe P w K m b 5 "_law_sets" mo):aP P w K m b cr 11 f fd ["_law_sentence_here","_law_searcher"] (DF CS):=by
 have j:=DG;refine F.okA DG λQu A x s H vs Q E n h=>?_;obtain⟨B,p,qa,t,C,zs,S,hw,rfl,hp,hq,VJ,h,W,Si,he,y,z,D,ht,SI,e,q⟩:=h;have G:=n.units;have O:=rE W.I he e;have I:=qz y O;have an:=O.few;obtain⟨J,Uh,L⟩:=O.run;refine⟨_,(ad (qB (cE TY n<|a9<|pv 1)<|iX rfl<|cb (eu 2 j.nd)<|cb (eu 3 j.nd) gg)
  (ad (aE (PW.pt<|cI (ee vR (pv 3) bg)<|cI (aT<|aK<|ag a8 rfl T.isinstance Nr<|aV (pv 2)<|cG (v:=.ty "tuple") rfl T.tuple Ox rfl)<|cI (ee (fH G) (ag aD rfl T.len NP<|a9<|pv 2) ae)<|cO<|aT<|aK<|ag a8 rfl T.isinstance Nr<|aV (a_ (pv 2) ae)<|cG (v:=.ty "list") rfl T.list OT rfl) (bN bw) am)
  (ad (qB (cE UQ n<|aV (pv 0)<|pv 2)<|iX rfl<|cb (eu 4 j.nd)<|cb (eu 5 j.nd) gg)
  (bN<|dF (j9 (aM G) (a_ (pv 2) ae)<|cE u n<|a9<|pv 0)<|dF (pv 5)<|dF (j9 h_ (ag aD rfl T.len NP<|a9<|pv 4) ae)<|fN<|j9 (aM G) (a_ (pv 4)<|fq di ae)<|aU bz)))),?_⟩
 refine⟨_,rfl,B,t,C,S,hw,rfl,h,W,Si,he,y,(by lia),SI,e,λr0 r l ys H1 o nr nl M Z VI UN=>?_⟩;have as:=bZ UN;exists r0,_,rfl,SqT.of M,rfl,_,_,rfl,_,_,rfl,rfl;refine⟨_,rfl,rfl,_,rfl,av ?_⟩;refine⟨_,rfl,.ref r,_,"tuple",MX,rfl,.tup Z,bv Me,MX,rfl,av ?_⟩;refine⟨_,rfl,.ref r,_,rfl,.inr ⟨_,SqT.of Z,rfl⟩,.inl ⟨rfl,_,rfl,Lu rfl ?_⟩⟩;refine⟨_,rfl,(bM Z rfl ⟨.ref l,_,"list",MX,rfl,.lst VI,bv MC,MX,rfl,av ?_⟩)⟩;refine⟨_,rfl,_,rfl,p,qa,r,l,t,hw,zs,ys,C,_,rfl,o _ _ hp,(by lia),o _ _ hq,VJ.mono o,(by lia),y,Z,VI,UN,(by lia),(λd hd=>mq<|O.good d hd),λtp sl v H4 k4 g az Zs a=>?_⟩;rw[Uh]at g a;exists tp,_,rfl,SqT.of g,rfl,_,_,rfl,_,_,rfl,rfl;have k:=o.trans k4;refine⟨_,rfl,(bM (k4 _ _ Z) rfl ⟨_,rfl,p,qa,t,zs,C,rfl,k _ _ hp,k _ _ hq,VJ.mono k,z,D,(by lia),λH5 N=>?_⟩)⟩;rw[I];refine .inl ⟨rfl,_,rfl,vH (Ng rfl) ?_⟩;refine⟨_,rfl,MX,rfl,vH rfl ?_⟩;have i:=N _ _ Zs;have U:=a.mono N;have X:J.length=v.length:=a.length;rw[QP]at L;have aC:=(M'.mp L).1;refine⟨_,rfl,.ref sl,_,rfl,.inl ⟨_,SqL.of i,rfl⟩,_,_,rfl,rfl,_,rfl,vH (Ng<|by lia) ?_⟩;obtain⟨Y,ab,ac⟩:∃Y,v[v.length-1]?=B' (.ref Y)/\H5 Y=B' (.tup []):=by
  have hx:v[v.length-1]?=B' v[v.length-1]:=M4 (by lia);obtain⟨c,e1,t0,e2,e3⟩:=U.get hx;rw[<-X]at e1;rw[L]at e1;cases e1;exact⟨t0,by rw[hx,e2],e3⟩
 refine⟨_,rfl,_,rfl,(iw i (my ab) ⟨NA _,λe0 n0=>?_⟩)⟩;have k6:=af n0<|.tup [];exact jz (d:=.tuple []) (aX (k6 _ _ ac) aw) (aX aa aw) lq<|q _<|k.trans<|N.trans k6
noncomputable abbrev vI:OZ:=dN 70
noncomputable def hJ:gV Nf:=[MW,MW,MW,MX,MW,MW,MW,MW,MW,MX]
theorem DH(q:∀l g,Same H g->g l=B' (.lst<|hJ.map V.bl)->Q (.ref l) g):vM yn (vM yn (vM yn (vM HQ (oV<|dz (tC<|.bl MW) gE)<|tC<|.int 3)<|oV<|dz (tC<|.bl MX) gE)<|vM HQ (oV<|dz (tC<|.bl MW) gE)<|tC<|.int 5) (oV<|dz (tC<|.bl MX) gE) P H Q:=by
 refine⟨(by show 1<=sizeLine;decide),λd o=>⟨d,3,_,rfl,rfl,aa,(by decide),(by decide),(by show 3<=sizeLine;decide),λa p=>⟨(by show 1<=sizeLine;decide),λb r=>?_⟩⟩⟩;have s:=af o<|.lst [.bl MW];have t:=af p<|.lst [.bl MW,.bl MW,.bl MW];have u:upd (upd H d<|.lst [.bl MW]) a (.lst [.bl MW,.bl MW,.bl MW]) a=B' (.lst [.bl MW,.bl MW,.bl MW]):=aa;have k:=s.trans t;clear s t;show yn _ _ (upd (upd (upd H d<|.lst [.bl MW]) a<|.lst [.bl MW,.bl MW,.bl MW]) b<|.lst [.bl MX]) _
 have N:upd (upd H d<|.lst [.bl MW]) a (.lst [.bl MW,.bl MW,.bl MW]) b=none:=r;generalize upd (upd H d<|.lst [.bl MW]) a (.lst [.bl MW,.bl MW,.bl MW])=v at k u N ⊢;clear o p r;have i:=af N<|.lst [.bl MX];have w:upd v b (.lst [.bl MX]) b=B' (.lst [.bl MX]):=aa;generalize upd v b (.lst [.bl MX])=h at i w ⊢;refine⟨a,b,_,_,rfl,rfl,i _ _ u,w,(by show 4<=sizeLine;decide),λL E=>⟨(by show 1<=sizeLine;decide),λe x=>⟨e,5,_,rfl,rfl,aa,(by decide),(by decide),(by show 5<=sizeLine;decide),λc y=>?_⟩⟩⟩;have z:=af E<|.lst [.bl MW,.bl MW,.bl MW,.bl MX];have A:upd h L (.lst [.bl MW,.bl MW,.bl MW,.bl MX]) L=B' (.lst [.bl MW,.bl MW,.bl MW,.bl MX]):=aa;have f:upd h L (.lst [.bl MW,.bl MW,.bl MW,.bl MX]) e=none:=x;have n:upd (upd h L<|.lst [.bl MW,.bl MW,.bl MW,.bl MX]) e (.lst [.bl MW]) c=none:=y;show yn _ _ (upd (upd (upd h L<|.lst [.bl MW,.bl MW,.bl MW,.bl MX]) e<|.lst [.bl MW]) c<|.lst [.bl MW,.bl MW,.bl MW,.bl MW,.bl MW]) _
 clear x y;generalize upd h L (.lst [.bl MW,.bl MW,.bl MW,.bl MX])=F at z A f n ⊢;have j:=af f<|.lst [.bl MW];generalize upd F e (.lst [.bl MW])=B at j n ⊢;have m:=af n<|.lst [.bl MW,.bl MW,.bl MW,.bl MW,.bl MW];have C:upd B c (.lst [.bl MW,.bl MW,.bl MW,.bl MW,.bl MW]) c=B' (.lst [.bl MW,.bl MW,.bl MW,.bl MW,.bl MW]):=aa;generalize upd B c (.lst [.bl MW,.bl MW,.bl MW,.bl MW,.bl MW])=T at m C ⊢;refine⟨L,c,_,_,rfl,rfl,(j.trans m) _ _ A,C,(by show 9<=sizeLine;decide),λG I=>⟨(by show 1<=sizeLine;decide),λJ D=>⟨G,J,_,_,rfl,rfl,(af D _) _ _ aa,aa,(by show 10<=sizeLine;decide),λM O=>?_⟩⟩⟩;exact q M _ (k.trans<|i.trans<|z.trans<|j.trans<|m.trans<|(af I _).trans<|(af D _).trans<|af O _) aa
theorem DI(q:∀e E i h,Same H h->Eld h w e E i->H e=M5->(∀b,H (E b)=M5)->Q (.ref e) h):oV (dz (oV gE)<|dz (oV gE) gE) j H Q:=by
 refine⟨NA _,λl d=>⟨NA _,λL N=>⟨(by show 2<=sizeLine;decide),λe n=>?_⟩⟩⟩;have k:=af d<|.lst [];have s:upd H l (.lst []) l=B' (.lst []):=aa;generalize upd H l (.lst [])=f at k s N n ⊢;have a:=af N<|.lst [];have g:upd f L (.lst []) L=B' (.lst []):=aa;generalize upd f L (.lst [])=m at a g n ⊢;have c:=af n<|.lst [.ref l,.ref L];refine q e (λb=>if b=MX then L else l) (λ_=>[]) _ (k.trans<|a.trans c) ⟨aa,λb=>?_,λb=>⟨[],List.nil_prefix,aw⟩⟩ ((k.trans a).free n) λb=>?_
 ·cases b
  ·exact(a.trans c) _ _ s
  exact c _ _ g
 cases b
 ·exact d
 exact k.free N
inductive DJ (K:K')(vs:gV V)(H:Hp)(Q:VK):Prop
 |mk (a:M0)(ns:gV Int)(h0:vs=[.ref a])(b:SqL K H a (ns.map V.int))(q:∀h,Same H h->Q (.bl MX) h)
def xZ(K:K'):Sp:=λv H Q _=>DJ K v H Q
theorem MM:gb "bool" "bool"=B' true:=by decide+kernel
theorem x_:al ["_law_script","_law_sentence_here","_law_searcher","_law_found","_law_told","_law_sets_here","_law_good"] ["_law_script"] (ah vI):=d_
theorem DK{g1 g2 g3 g4:M0}{M e2 e3 e4:Ny}(F:Fun K "_law_back" "_law_back" vI f fd)(T:md m)(PU:Fe P w K m g 1 "_law_cell_at" (nZ K))(aF:Fe P w K m g 2 "_law_great" (xX K))(WV:Fe P w K m g 1 "_law_kinds" (rA CW MW MW MW MX MW MW MW MW MW))(V6:Fe P w K m g 6 "_law_learnt" kW)
  (TY:Fe P w K m g 10 "_law_paper" (rB k CW)) (UQ:Fe P w K m g 5 "_law_sets" mo) (Y6:Ly P w K m g 4 "Searcher" k g1 M ["self","sentence"] (ro k)) (a0:pX P w K m g cr 8 k "go" g2 e2 ["self","many"] (Dk k)) (Z6:pX P w K m g cr 1 k "learnt" g3 e3 ["self"] (kU k)) (WR:pX P w K m g cr 9 k "paper" g4 e4 ["self"] (jX k)):
  aP P w K m g cr 11 f fd ["_law_script"] (xZ K):=by
 have sc:=x_;refine F.okA x_ λQu A a1 s H vs Q E i h=>?_;obtain⟨a,ns,rfl,hS,q⟩:=h;have hu:=i.units;refine⟨_,(ad (cM 1 sc.nd<|cE aF i<|a9<|pv 0)
  (ad (cM 2 sc.nd<|Gv Y6 i (by lia) rfl<|a9<|pv 1)
  (ad (cM 3 sc.nd<|gk a0 (pv 2) i (by lia)<|a9<|ar dG ae<|ar df (ar eB (cE PU i<|aV (pv 0) ae) ae) ae)
  (ad (aE (PW.pt<|cI (aT<|aK<|ag a8 rfl T.isinstance Nr<|aV (pv 3)<|cG (v:=.ty "bool") rfl T.bool Ri rfl)<|cO<|aT<|aK<|cE V6 i<|au (pv 1)<|aV (iu Z6 (pv 2) i<|by lia)<|aI<|aV (aI bz)<|aI bz) (bN bw) am)
  (ad (aE (aT<|aK<|pv 3) (bN<|j9 (aM hu) (cE WV i<|a9<|a_ (cE TY i<|a9<|pv 2) ae)<|ar eD (ar eD (ar eD (ar qI (aI<|a9 bw) ae)<|aI<|a9 bw)<|ar qI (aI<|a9 bw) ae)<|aI<|a9 bw) am)
  (ad (cM 4 sc.nd<|iu WR (pv 2) i<|by lia)
  (ad (qB (cE UQ i<|aV (pv 1)<|pv 4)<|iX rfl<|cb (eu 5 sc.nd)<|cb (eu 6 sc.nd) gg)
  (bN<|dF (j9 (aM hu) (a_ (pv 4) ae) aQ)<|dF (pv 6)<|dF (j9 h_ (ag aD rfl T.len NP<|a9<|pv 5) ae)<|fN<|j9 (aM hu) (a_ (pv 5)<|fq di ae)<|aU bz)))))))),?_⟩
 refine⟨_,rfl,a,ns,rfl,hS,λp qa t C zs H0 k0 N U X G=>?_⟩;have Pd:=G.len;have be:=G.many;have j:=G.ok;have a2:=k0.seq hS;refine⟨_,rfl,λx dx nx ac Tf=>?_⟩;have j1:Same H0 (upd (upd H0 dx<|.own x) x<|.ins k dx []):=λb o e=>by
  rw[aj<|ai e nx,aj<|ai e ac];exact e
 refine⟨x,dx,p,qa,t,zs,C,rfl,aa,j1 _ _ N,j1 _ _ U,X.mono j1,j,(by lia),(by lia),(λ_=>False),(λ_ z=>z.elim),λB H2 ex _ s2 b2 an=>⟨rfl,?_⟩⟩;have k2:Same H0 H2:=λb o e=>b2 _ _ (ai e nx)<|j1 _ _ e;have as:∀a,B.own a->H0 a=none:=λa ha=>by
  obtain z|z:=an a ha
  ·rw[z];exact nx
  exact j1.free z
 subst ex;obtain⟨n,hn⟩:∃n:Nat,20+cN ns 54/3%20=(n:Int):=⟨(20+cN ns 54/3%20).toNat,by lia⟩;have bf:n<=39:=by lia
 refine⟨_,rfl,B.x,B.dx,_,rfl,s2.hx,rfl,_,rfl,a,ns,54,rfl,k2.seq a2,(by decide),_,_,rfl,rfl,⟨by decide,by decide⟩,_,_,rfl,rfl,(by show(0:Int)<20;decide),_,_,rfl,rfl,?_⟩;rw[hn];refine⟨B,t,C,eH,n,rfl,s2,.inl gS,j,(by lia),(by lia),zw j (by lia) (by lia),λH3 s3 m3=>?_⟩;have k3:Same H0 H3:=λb o e=>m3 _ _ (λz=>by rw[as b z]at e;cases e)<|k2 _ _ e;have a3:=xW j (by lia:t.length<=40) n;have I:=Lb j (by lia:t.length<=40) n;have Y2:=iE j (by lia:t.length<=40) n;have u:∀b,((dI t C n eH).lw b).length<=2048:=λb=>by have:=oM (dI t C n eH) b;lia
 have hR:=DB I λb=>Oz (u b) (by decide);generalize dI t C n eH=S at s3 I u hR Y2 ⊢;clear s2 m3 b2 an as j1 nx ac Tf k2 a3;refine⟨_,rfl,_,_,"bool",MX,rfl,.bl _,bv MM,MX,rfl,av ?_⟩;refine⟨_,rfl,_,rfl,B.x,B.dx,_,rfl,s3.hx,rfl,B,t,C,S,rfl,s3,λr pa la ys H4 k4 T4 _ _=>DI (w:=S.lw) λe ea es H5 k5 E5 _ _=>?_⟩;have Y:=k4.trans k5;have y:=k3.trans Y;refine⟨p,qa,r,e,t,C,zs,S.lw,pa,la,ea,ys,es,rfl,y _ _ N,(by lia),y _ _ U,X.mono y,(by lia),j,T4.mono k5,E5,hR,λH6 k6=>⟨MX,rfl,av ?_⟩⟩;have Z:=Y.trans k6;have s6:=s3.same Z;have az:=k3.trans Z;clear s3 Y Z y k4 k5 k6 T4 E5 hR;cases Si:S.win with
 |none=>
  refine⟨_,rfl,MW,rfl,aB ?_⟩;refine⟨_,rfl,B,t,C,S,rfl,s6,Si,λr ea H7 k7 D a4=>?_⟩;refine(bM D rfl ⟨ea,rfl,a4,λl H8 k8 a5=>DH λl2 H9 k9 a6=>?_⟩);exact jz (d:=.list<|hJ.map Rc) (bP (k9 _ _ a5)<|jA hJ) (bP a6<|jA hJ) (ni hJ)<|q _<|k0.trans<|az.trans<|k7.trans<|k8.trans k9
 |some hw=>
  have W:xw t C S:=Y2.elim (λL=>by rw[L.win]at Si;cases Si) id;have he:(S.ow hw).getLast?=B' []:=by
   obtain⟨bk,M,e2⟩:=W.hw;rw[Si]at M;cases M;exact e2
  have O:=rE I he<|u hw;obtain rfl:hw=true:=(qz j O).symm.trans G.win;have bl:=O.few;obtain⟨a7,Uh,RI⟩:=O.run;refine⟨_,rfl,MX,rfl,av ?_⟩;refine⟨_,rfl,B.x,B.dx,_,rfl,s6.hx,rfl,B,t,C,S,MX,rfl,s6,W,Si,he,j,(by lia),(by lia),u _,λr l ys H7 k7 _ _ D ba UN=>?_⟩;have J:=az.trans k7;have bm:=bZ UN;refine⟨_,rfl,_,rfl,p,qa,r,l,t,MX,zs,ys,C,_,rfl,J _ _ N,(by lia),J _ _ U,X.mono J,(by lia),j,D,ba,UN,(by lia),(λd hd=>mq<|O.good d hd),λtp sl v H8 k8 aC br Zs ab=>?_⟩;rw[Uh]at aC ab;refine⟨tp,_,rfl,SqT.of aC,rfl,_,_,rfl,_,_,rfl,rfl,?_⟩;refine⟨_,rfl,(bM (k8 _ _ D) rfl ?_)⟩;refine .inl ⟨rfl,_,rfl,vH (Ng rfl) ?_⟩;refine⟨_,rfl,MX,rfl,vH rfl ?_⟩;have bb:a7.length=v.length:=ab.length;rw[QP]at RI;have bs:=(M'.mp RI).1;refine⟨_,rfl,.ref sl,_,rfl,.inl ⟨_,SqL.of Zs,rfl⟩,_,_,rfl,rfl,_,rfl,vH (Ng<|by lia) ?_⟩;obtain⟨tl,bc,bd⟩:∃tl,v[v.length-1]?=B' (.ref tl)/\H8 tl=B' (.tup []):=by
   have hx:v[v.length-1]?=B' v[v.length-1]:=M4 (by lia);obtain⟨c,M,t0,e2,e3⟩:=ab.get hx;rw[<-bb]at M;rw[RI]at M;cases M;exact⟨t0,by rw[hx,e2],e3⟩
  refine⟨_,rfl,_,rfl,(iw Zs (my bc) ⟨NA _,λe0 n0=>?_⟩)⟩;have k9:=af n0<|.tup [];exact jz (d:=.tuple []) (aX (k9 _ _ bd) aw) (aX aa aw) lq<|q _<|k0.trans<|J.trans<|k8.trans k9
noncomputable abbrev zx:OZ:=dN 71
inductive Le (K:K')(vs:gV V)(H:Hp)(Q:VK):Prop
 |mk (a:M0)(ns:gV Int)(h0:vs=[.ref a])(b:SqL K H a (ns.map V.int))(c:ns.length<=63)(d:∀h,Q (.bl MX) h)
def ya(K:K'):Sp:=λv H Q _=>Le K v H Q
theorem vJ(h:∀d∈D,aZ d):OB (.tuple [.str<|ay H,.list D])=true:=
 Nice.shaped (Nice.mono (fU (n:=5)<|cu (eI 5 (by cases H<;>decide+kernel))<|cu (Nice.mono (kn (n:=3) λd a=>qf<|h d a)<|by decide) iq)<|by decide)
theorem F0(n:Nat):(2:Int)*2^n=((2^(n+1):Nat):Int):=by
 rw[Qo,UG]
 push_cast
 rfl
inductive Lf (C:M0)(a p hd:M0)(A:SA)(t:Str)(cs:gV (gV Int))(c:Hp)(i:Nat)(d:St)(H:Hp):Prop
 |mk (n:Nat)(e:M0)(E:Nf->M0)(es:Nf->gV V)(f g j v:MZ V)
  (h0:d=[B'<|.ref a,B'<|.ref p,B'<|.ref hd,B'<|.ref A.x,B'<|.ref e,B'<|.int (n:Int),B'<|.bl (dI t cs n eH).win.isSome,f,g,j,v,M5,M5])
  (k:Same c H) (h:SrAt C A t cs (dI t cs n eH) H) (l:Eld H (dI t cs n eH).lw e E es) (ne:¬A.own e) (na:∀b,¬A.own (E b)) (m:n<=200*i+512) (o:i=12->2^(t.length+1)<=n):Lf C a p hd A t cs c i d H
noncomputable def Lg:Nh:=.tuple [.tuple [.str<|ay MW,.list []],.tuple [.str<|ay MX,.list []]]
theorem Ju(q:∀r h,Same H h->RD h Lg (.ref r)->Q (.ref r) h):Eb (dz (Eb<|dz (tC<|.str<|M_ "spoiler")<|dz (oV gE) gE)<|dz (Eb<|dz (tC<|.str<|M_ "wisher")<|dz (oV gE) gE) gE) f H Q:=by
 refine⟨NA _,λl n=>⟨(by show 2<=sizeLine;decide),λt m=>⟨NA _,λL N=>⟨(by show 2<=sizeLine;decide),λT M=>⟨(by show 2<=sizeLine;decide),λr d=>?_⟩⟩⟩⟩⟩;have e:=af n<|.lst [];have c:=af m<|.tup [.str<|ay MW,.ref l];have b:=af N<|.lst [];have a:=af M<|.tup [.str<|ay MX,.ref L];have k:=af d<|.tup [.ref t,.ref T];exact q r _ (e.trans<|c.trans<|b.trans<|a.trans k)<|aX aa<|ak (aX ((b.trans<|a.trans k) _ _ aa)<|ak (cD _)<|ak (bP ((c.trans<|b.trans<|a.trans k) _ _ aa) aw) aw)<|ak (aX (k _ _ aa)<|ak (cD _)<|ak (bP ((a.trans k) _ _ aa) aw) aw) aw
theorem vK:OB Lg=true:=by decide+kernel
theorem Told.rd{H:Hp}{L:Nf->gV Nh}{r:M0}{P a:Nf->M0}{Y:Nf->gV V}(h:Told H L r P a Y):RD H (.tuple [.tuple [.str<|ay MW,.list<|L MW],.tuple [.str<|ay MX,.list<|L MX]]) (.ref r):=
 aX h.r (ak (aX (h.p MW)<|ak (cD _)<|ak (bP (h.l MW)<|h.y MW) aw)<|ak (aX (h.p MX)<|ak (cD _)<|ak (bP (h.l MX)<|h.y MX) aw) aw)
theorem F1{t:TE}{g:V->St->Hp->(St->Hp->Prop)->Prop}{b:gx->St->Hp->Prop}{D:gx}{a:St}{H:Hp}(h:t a H λx c=>g x a c<|b D):rL (DU t g) b D a H:=h
theorem mG(P:St->Hp->Prop)(c:∀R,(∀a h,P a h->R a h)->s {D with nx:=R} b H)(n:∀a h,P a h->d D a h):rL s d D b H:=c _ n
theorem rH{i:Nat}{x:V}{s:TS}{D d:gx}{a:St}{H:Hp}(h:s D (a.set i<|B' x) H):fO i x a H ({d with nx:=s D}:gx).nx:=h
section
variable {H:Hp}{lw:Nf->gV Nh}{e:M0}{ea:Nf->M0}{es:Nf->gV V}
theorem Eld.go{A:SA}{a:Hp}{L:Nf->gV Nh}(h:Eld H lw e ea es)(m:Mv A H a)(k:TupS H a)(n:¬A.own e)(N:∀b,¬A.own (ea b))(P:∀b,lw b <+:L b)(g:∀b,∀d∈L b,aZ d):Eld a L e ea es:=⟨m _ _ n h.e,λb=>m _ _ (N b)<|h.l b,λb=>let ⟨D,p,y⟩:=h.y b;⟨D,p.trans<|P b,k.goods (λd c=>g b d<|(p.trans<|P b).subset c) y⟩⟩
theorem Eld.put(h:Eld H lw e ea es)(g:∀b,∀d∈lw b,aZ d)(c:H x=B' (.lst u))(n:e≠x)(N:∀b,ea b≠x):Eld (upd H x<|.lst w) lw e ea es:=by
 have k:TupS H (upd H x<|.lst w):=λa Z e=>by rw[aj λz=>by rw[z,c]at e;cases e];exact e
 exact⟨by rw[aj n];exact h.e,λb=>by rw[aj<|N b];exact h.l b,λb=>let ⟨D,p,y⟩:=h.y b;⟨D,p,k.goods (λd f=>g b d<|p.subset f) y⟩⟩
end
theorem F2(c:Int):∃m,j0 [V.int 3,V.int 40,V.int 200] (c%3)=B' (.int m)/\0<m/\m<=200:=by
 obtain h|h|h:=(show c%3=0\/c%3=1\/c%3=2 by lia)<;>rw[h]
 ·exact⟨3,rfl,by decide,by decide⟩
 ·exact⟨40,rfl,by decide,by decide⟩
 exact⟨200,rfl,by decide,by decide⟩
structure MN (mg:Str->MZ J'):Prop where
 len:mg "len"=M5
 range:mg "range"=M5
 max:mg "max"=M5
 list:mg "list"=M5
 isinstance:mg "isinstance"=M5
 bool:mg "bool"=M5
theorem Ho:al ["_law_script","_law_sentence_here","_law_handed","_law_searcher","_law_elder","_law_looks","_law_done","_law_k","_law_many","_law_found","_law_learnt_here","_law_first","_law_kept"] ["_law_script"] (ah zx):=d_
theorem Jv{g1 g2 g3 g4:M0}{e1 e2 e3 e4:Ny}(F:Fun K "law" "law" zx f fd)(T:MN mg)(PU:Fe P w K mg d 1 "_law_cell_at" (nZ K))(dt:Fe P w K mg d 2 "_law_sentence" (Bl K))(dv:Fe P w K mg d 11 "_law_back" (xZ K))(WV:Fe P w K mg d 1 "_law_kinds" (rA CW MW MW MW MX MW MW MW MW MW))(V6:Fe P w K mg d 6 "_law_learnt" kW)
  (TY:Fe P w K mg d 10 "_law_paper" (rB CS CW)) (dy:Fe P w K mg d 11 "_law_settled" (DF CS)) (Y6:Ly P w K mg d 4 "Searcher" CS g1 e1 ["self","sentence"] (ro CS)) (bk:pX P w K mg d cr 8 CS "go" g2 e2 ["self","many"] (Dk CS)) (Z6:pX P w K mg d cr 1 CS "learnt" g3 e3 ["self"] (kU CS)) (WR:pX P w K mg d cr 9 CS "paper" g4 e4 ["self"] (jX CS)):
  aP P w K mg d cr 12 f fd ["_law_script"] (ya K):=by
 have M:=Ho;refine F.okA Ho λQu A dD s H vs Q E G h=>?_;obtain⟨a,ns,rfl,hS,hl,q⟩:=h;have hu:=G.units;refine⟨_,(ad (aE (aT<|aK<|cE dv G<|a9<|pv 0) (bN bw) am)
  (ad (cM 1 M.nd<|cE dt G<|aV (pv 0) ae)
  (ad (cM 2 M.nd<|aU<|aV (a_ (pv 1) ae)<|bB cx rfl T.list OT<|a9<|a_ (pv 1) ae)
  (ad (cM 3 M.nd<|Gv Y6 G (by omega) rfl<|a9<|pv 2)
  (ad (bu<|mP NJ To VX rT<|a_ (pv 2) ae)
  (ad (aE (PW.pt<|cI (ee (fH hu) (iu Z6 (pv 3) G<|by omega)<|aU<|aV (aU<|aV aQ<|aI bz)<|aU<|aV aQ<|aI bz)<|cO<|ee Fk (gk bk (pv 3) G (by omega)<|a9 ae) bw) (bN bw) am)
  (ad (cM 4 M.nd<|aI<|aV (aI bz)<|aI bz)
  (ad (cM 5 M.nd ae)
  (ad (cM 6 M.nd bw)
  (ad (cP Ow rfl (eV rfl T.range<|a9 ae) (eu 7 M.nd)
   (ad (aE (PW.pt<|fG (aT<|aK<|pv 6)<|fg<|ee (fH hu) (cE WV G<|a9<|a_ (cE TY G<|a9<|pv 3) ae)<|ar eD (ar eD (ar eD (ar qI (aI<|a9 bw) ae)<|aI<|a9 bw)<|ar qI (aI<|a9 bw) ae)<|aI<|a9 bw) (bN bw) am)
   (ad (cM 8 M.nd<|ar df (ar eB (cE PU G<|aV (pv 0)<|ar dG ae<|pv 7) ae)<|a_ (aI<|au ae<|aV ae ae)<|ar df (cE PU G<|aV (pv 0)<|ar dG ae<|pv 7) ae)
   (ad (aE (ee (aM hu) (pv 7) ae) (ax<|cM 8 M.nd<|ag (yi rfl) rfl T.max Tp<|aV ae<|ar gu (ar ug ae<|ag aD rfl T.len NP<|a9<|a_ (pv 1) ae)<|pv 5) am)
   (ad (cM 5 M.nd<|ar dG (pv 5)<|pv 8)
   (ad (cM 9 M.nd<|gk bk (pv 3) G (by omega)<|a9<|pv 8)
   (ad (aE (PW.pt<|cI (aT<|aK<|ag a8 rfl T.isinstance Nr<|aV (pv 9)<|cG (v:=.ty "bool") rfl T.bool Ri rfl)<|cO<|PW.pt<|fG (aK<|pv 6)<|fg<|aT<|aK<|pv 9) (bN bw) am)
   (ad (cM 6 M.nd<|pv 9)
   (ad (cM 10 M.nd<|iu Z6 (pv 3) G<|by omega)
   (ad (aE (aT<|aK<|cE V6 G<|au (pv 1)<|aV (pv 10)<|pv 4) (bN bw) am)
   (ad (cM 4 M.nd<|aI<|aV (bB cx rfl T.list OT<|a9<|a_ (a_ (pv 10) ae) ae)<|bB cx rfl T.list OT<|a9<|a_ (a_ (pv 10) ae) ae)
   (ad (aE (PW.pt<|fG (aK<|pv 6)<|fg<|aT<|aK<|cE dy G<|aV (pv 1)<|pv 3) (bN bw) am)
   (ad (bu<|eS NJ Oj On bY (a_ (a_ (pv 10) ae) ae)<|a9<|aU<|aV aQ ae)
   (ax<|bu<|mP NJ To VX rT<|a_ (a_ (pv 10) ae) ae))))))))))))))
  (ad (aE (aT<|aK<|pv 6) (bN bw) am)
  (ad (cM 11 M.nd<|iu WR (pv 3) G<|by omega)
  (ad (cM 12 M.nd<|bB cx rfl T.list OT<|a9<|a_ (pv 11) ae)
  (ad (bu<|eS NJ Oj On bY (a_ (pv 11) ae)<|a9 ae)
  (bN<|dF (j9 IH (gk bk (pv 3) G (by omega)<|a9 ae) bw)<|fN<|j9 (aM hu) (iu WR (pv 3) G<|by omega)<|aU<|aV (a_ (pv 11) ae)<|pv 12))))))))))))))),?_⟩
 refine⟨_,rfl,a,ns,rfl,hS,λH0 k0=>⟨MX,rfl,av ?_⟩⟩;have ab:=k0.seq hS;refine⟨_,rfl,a,ns,8,rfl,ab,hl,(by decide),(by decide),λp t C H1 k1 g ok _=>?_⟩;have et:=ok.len;have ev:=ok.many;have Z:∀c∈C,ap t.length c:=λc hc=>yP<|ok.cl c hc;obtain⟨pp,qa,zs,ep,az,bl,bm⟩:=AA g;cases ep;have co:=k1.seq ab;clear k0 k1 hS ab g;refine⟨_,rfl,(bM az rfl ⟨_,rfl,(bM az rfl ⟨qa,zs,rfl,.inl<|SqL.of bl,λql br=>⟨(by show 2<=sizeLine;decide),λhd bs=>?_⟩⟩)⟩)⟩;have k1:=af br<|.lst zs;have s1:upd H1 ql (.lst zs) ql=B' (.lst zs):=aa;generalize upd H1 ql (.lst zs)=H2 at k1 s1 bs ⊢;have k2:=af bs<|.tup [.str t,.ref ql];have s2:upd H2 hd (.tup [.str t,.ref ql]) hd=B' (.tup [.str t,.ref ql]):=aa;generalize upd H2 hd (.tup [.str t,.ref ql])=H3 at k2 s2 ⊢;have X:=k2 _ _ s1;have J:=k1.trans k2;refine⟨_,rfl,λx dx nx ct Tf=>?_⟩;have j1:Same H3 (upd (upd H3 dx<|.own x) x<|.ins CS dx []):=λb o e=>by
  rw[aj<|ai e nx,aj<|ai e ct];exact e
 refine⟨x,dx,hd,ql,t,zs,C,rfl,aa,j1 _ _ s2,j1 _ _ X,(bm.mono J).mono j1,Z,(by omega),(by omega),(λz=>z=ql),(λz e=>by rw[e];exact⟨ai X nx,_,j1 _ _ X⟩),λB H4 ex ef s4 b4 cv=>⟨rfl,?_⟩⟩;have j:Same H3 H4:=λb o e=>b4 _ _ (ai e nx)<|j1 _ _ e;have dK:∀a,B.own a->H1 a=none:=λa ha=>by
  obtain z|z:=cv a ha
  ·rw[z];exact J.free nx
  exact J.free<|j1.free z
 subst ex;refine⟨_,rfl,(bM (j _ _ s2) rfl ⟨.inl ⟨rfl,_,SqL.of<|j _ _ X⟩,ql,zs,rfl,rfl,j _ _ X,?_⟩)⟩;have s5:SrAt CS B t C eH (upd H4 ql<|.lst []):=s4.put_far (by rw[ef])<|j _ _ X;have k5:Same H1 (upd H4 ql<|.lst []):=(J.trans j).upd_new br _;generalize upd H4 ql (.lst [])=H5 at s5 k5 ⊢;clear s4 j b4 cv j1 nx ct Tf s1 X s2 k1 k2 J br bs ef;refine⟨_,rfl,B.x,B.dx,_,rfl,s5.hx,rfl,B,t,C,eH,rfl,s5,λr pa N y H6 k6 T6 _ _=>Ju λr2 H7 k7 aC=>nc (T6.mono k7).rd aC vK ⟨MW,rfl,av ?_⟩⟩;have s7:=s5.same<|k6.trans k7;refine⟨_,rfl,B.x,B.dx,_,rfl,s7.hx,rfl,B,t,C,eH,0,rfl,s7,.inl gS,Z,(by omega),(by omega),kZ (by omega) _ _,λH8 s8 m8=>⟨_,MW,rfl,rfl,_,rfl,av ?_⟩⟩;have mv:∀{H H'},Same H1 H->Mv B H H'->Same H1 H':=λk m b o e=>m _ _ (λz=>by rw[dK b z]at e;cases e)<|k _ _ e;have D:=mv (k5.trans<|k6.trans k7) m8;clear s5 k5 k6 k7 T6 s7 m8;refine F1<|DI (w:=(dI t C 0 eH).lw) λe ea es H9 k9 E9 ne na=>?_;have Tf:=s8.new ne;have bt:=λb=>s8.new<|na b;refine⟨12,rfl,(by decide),(by decide),fJ (lo:=0) (n:=12) (λi σ H=>Lf CS a p hd B t C H1 i σ H) ⟨0,e,ea,es,M5,M5,M5,M5,rfl,D.trans k9,s8.same k9,E9,Tf,bt,by omega,λz=>by omega⟩ ?_ ?_⟩
 ·clear D s8 k9 E9 ne na Tf bt;rintro i σ H2 hi ⟨n,e,ea,es,v7,v8,v9,a2,rfl,k,h,he,ne,na,hn,_⟩;have dT:2^(t.length+1)<=512:=Oz (RQ (by decide) (show t.length+1<=9 by omega)) (by decide);refine mG (λY H'=>Y=[B'<|.ref a,B'<|.ref p,B'<|.ref hd,B'<|.ref B.x,B'<|.ref e,B'<|.int (n:Int),B'<|.bl (dI t C n eH).win.isSome,B'<|.int (0+(i:Int)),v8,v9,a2,M5,M5]/\Same H2 H') (λR U=>?_) ?_
  ·cases Si:(dI t C n eH).win with
   |none=>
    refine⟨_,rfl,MW,rfl,aB ?_⟩;refine⟨_,rfl,B,t,C,_,rfl,h,Si,λr ea H7 k7 aC dV=>?_⟩;refine(bM aC rfl ⟨ea,rfl,dV,λl H8 D d0=>DH λl2 H9 k9 d1=>?_⟩);exact nc (d:=.list<|hJ.map Rc) (bP (k9 _ _ d0)<|jA hJ) (bP d1<|jA hJ) (ni hJ) ⟨MW,rfl,av<|U _ _ ⟨by rw[Si];rfl,k7.trans<|D.trans k9⟩⟩
   |some hw=>exact⟨_,rfl,MX,rfl,av<|av<|U _ _ ⟨by rw[Si];rfl,Same.refl _⟩⟩
  rintro _ H3 ⟨rfl,k3⟩;have h3:=h.same k3;have cz:=he.mono k3;have b1:=k.trans k3;clear h he k k3;obtain⟨m0,c0,b2,d2⟩:=F2<|cN ns (40+(0+(i:Int)));refine⟨_,rfl,_,rfl,_,_,rfl,rfl,a,ns,_,rfl,b1.seq co,(by omega),_,_,rfl,rfl,⟨by decide,by decide⟩,(by show 3<=sizeLine;decide),λlm c1=>?_⟩;have j:=af c1<|.lst [.int 3,.int 40,.int 200];have s4:upd H3 lm (.lst [.int 3,.int 40,.int 200]) lm=B' (.lst [.int 3,.int 40,.int 200]):=aa;generalize upd H3 lm (.lst [.int 3,.int 40,.int 200])=H4 at j s4 ⊢;have h4:=h3.same j;have c2:=cz.mono j;have a3:=b1.trans j;refine⟨_,rfl,_,rfl,_,_,rfl,rfl,a,ns,_,rfl,a3.seq co,(by omega),_,_,rfl,rfl,(by show(0:Int)<3;decide),(iw s4 c0 ⟨_,_,rfl,rfl,b2,?_⟩)⟩;clear h3 cz b1 j s4 c1;obtain⟨m1,c3⟩:∃m1:Nat,cN ns (40+(0+(i:Int)))/3%m0=(m1:Int):=⟨(cN ns (40+(0+(i:Int)))/3%m0).toNat,by have:=Qz (cN ns (40+(0+(i:Int)))/3) (show m0≠0 by omega);omega⟩;have d3:m1<=200:=by have:=P6 (cN ns (40+(0+(i:Int)))/3) b2;omega
  rw[c3];refine rH ?_;refine mG (λY H'=>H'=H4/\∃m:Nat,Y=[B'<|.ref a,B'<|.ref p,B'<|.ref hd,B'<|.ref B.x,B'<|.ref e,B'<|.int (n:Int),B'<|.bl (dI t C n eH).win.isSome,B'<|.int (0+(i:Int)),B'<|.int (m:Int),v9,a2,M5,M5]/\n+m<=200*(i+1)+512/\(i=11->2^(t.length+1)<=n+m)) (λR U=>?_) ?_
  ·refine⟨_,rfl,.inl ⟨rfl,_,rfl,oX (λhc=>?_) λhc=>?_⟩⟩
   ·refine⟨_,rfl,(bM (a3 _ _ az) rfl ⟨.str t,_,rfl,⟨OG (bH<|by omega),rfl⟩,_,_,rfl,rfl,⟨by omega,by omega,by decide⟩,_,rfl,_,_,rfl,rfl,_,_,rfl,?_⟩)⟩;rw[Od,F0];generalize 2^(t.length+1)=u at dT U;refine U _ _ ⟨rfl,u-n,?_,by omega,λ_=>by omega⟩;rw[show(if(u:Int)-(n:Int)>0 then(u:Int)-(n:Int)else 0)=((u-n:Nat):Int) by split<;>omega];rfl
   exact U _ _ ⟨rfl,m1,rfl,by omega,λz=>absurd (Ng<|by rw[z];rfl) hc⟩
  rintro _ _ ⟨rfl,m,rfl,d4,d5⟩;clear c0 b2 d2 c3 d3 m0 m1 hn;refine⟨_,rfl,_,rfl,_,_,rfl,rfl,?_⟩;refine⟨_,rfl,B.x,B.dx,_,rfl,h4.hx,rfl,_,rfl,B,t,C,_,m,rfl,h4,iE Z (by omega) n,Z,(by omega),(by omega),kZ (by omega) _ _,λH5 h5 m5=>?_⟩;have bf:(dI t C n eH).win.isSome=MX->(dI t C (n+m) eH).win.isSome=true:=λz=>by rw[mE,iQ z];exact z
  rw[<-mE]at h5 ⊢;have I:=Lb Z (by omega)<|n+m;have v:=xV Z (by omega)<|n+m;have U:=DB I λb=>Oz (v b) (by decide);have b3:Eld H5 (dI t C (n+m) eH).lw e ea es:=c2.go m5 (h4.tups m5) ne na (FY n m) I.good;have c4:=Js (n:=n+m) Z (by omega);have b5:=mv a3 m5;clear m5 c2 h4 a3;obtain⟨S,ab⟩:∃S,S=dI t C (n+m) eH:=⟨_,rfl⟩;rw[<-ab]at h5 bf I v U b3 c4 ⊢;refine rH ?_;refine mG (λY H'=>Y=[B'<|.ref a,B'<|.ref p,B'<|.ref hd,B'<|.ref B.x,B'<|.ref e,B'<|.int ((n+m:Nat):Int),B'<|.bl (dI t C n eH).win.isSome,B'<|.int (0+(i:Int)),B'<|.int (m:Int),B'<|.bl S.win.isSome,a2,M5,M5]/\H'=H5) (λR U=>?_) ?_
  ·refine⟨_,rfl,_,_,"bool",MX,rfl,.bl _,bv MM,MX,rfl,av ?_⟩;cases b6:(dI t C n eH).win.isSome with
   |false=>exact⟨_,rfl,MW,rfl,av<|av<|U _ _ ⟨by rw[b6];rfl,rfl⟩⟩
   |true=>
    have g:=bf b6;refine⟨_,rfl,MX,rfl,aB ⟨_,rfl,_,rfl,?_⟩⟩;rw[g];exact av<|U _ _ ⟨by rw[b6,g];rfl,rfl⟩
  rintro _ H6 ⟨rfl,hH⟩;rw[hH];clear hH H6;refine⟨_,rfl,?_⟩;refine⟨_,rfl,B.x,B.dx,_,rfl,h5.hx,rfl,B,t,C,S,rfl,h5,λr pa N y H6 k6 T6 nl nn=>?_⟩;have a4:=b5.trans k6;refine⟨_,rfl,_,rfl,_,rfl,p,qa,r,e,t,C,zs,S.lw,pa,N,ea,y,es,rfl,a4 _ _ az,(by omega),a4 _ _ bl,bm.mono a4,(by omega),Z,T6,b3.mono k6,U,λH7 k7=>⟨MX,rfl,av ?_⟩⟩;have b7:=k6.trans k7;have T7:=T6.mono k7;clear T6 k6 k7 a4 b3 U;refine⟨_,rfl,(bM T7.r rfl<|bM (T7.p MW) rfl ⟨N MW,y MW,rfl,.inl<|SqL.of<|T7.l MW,λl0 n0=>?_⟩)⟩;have D:=af n0<|.lst<|y MW;have s8:upd H7 l0 (.lst<|y MW) l0=B' (.lst<|y MW):=aa;generalize upd H7 l0 (.lst<|y MW)=H8 at D s8 ⊢;have T8:=T7.mono D;refine⟨_,rfl,(bM T8.r rfl<|bM (T8.p MX) rfl ⟨N MX,y MX,rfl,.inl<|SqL.of<|T8.l MX,λl1 n1=>⟨(by show 2<=sizeLine;decide),λe' a5=>?_⟩⟩)⟩;have k9:=af n1<|.lst<|y MX;have s9:upd H8 l1 (.lst<|y MX) l1=B' (.lst<|y MX):=aa;generalize upd H8 l1 (.lst<|y MX)=H9 at k9 s9 a5 ⊢;have aF:=af a5<|.lst [.ref l0,.ref l1];have b8:upd H9 e' (.lst [.ref l0,.ref l1]) e'=B' (.lst [.ref l0,.ref l1]):=aa;generalize upd H9 e' (.lst [.ref l0,.ref l1])=c5 at aF b8 ⊢;have b9:=D.trans<|k9.trans aF;have ca:=T7.mono b9;obtain⟨L,a6⟩:∃L:Nf->M0,L=λb=>if b=MX then l1 else l0:=⟨_,rfl⟩
  have cc:∀b,H7 (L b)=none:=λb=>by
   rw[a6];cases b
   ·exact n0
   exact D.free n1
  have a7:H7 e'=none:=(D.trans k9).free a5;have c6:Eld c5 S.lw e' L y:=⟨by rw[b8,a6];rfl,λb=>by
   rw[a6];cases b
   ·exact(k9.trans aF) _ _ s8
   exact aF _ _ s9,λb=>⟨S.lw b,Ql _,ca.y b⟩⟩
  have h7:=h5.same b7;have c8:∀b,e'≠N b:=λb z=>by rw[z,T7.l b]at a7;cases a7
  have da:∀b c,L b≠N c:=λb c z=>by
   have:=cc b;rw[z,T7.l c]at this;cases this
  have d6:=h7.new a7;have d7:=λb=>h7.new<|cc b;have ba:=b7.trans b9;clear T7 T8 D k9 aF b9 s8 s9 b8 n0 n1 a5 a6 cc a7 h7 b7;refine rH ?_;refine mG (λY H'=>Y=[B'<|.ref a,B'<|.ref p,B'<|.ref hd,B'<|.ref B.x,B'<|.ref e',B'<|.int ((n+m:Nat):Int),B'<|.bl S.win.isSome,B'<|.int (0+(i:Int)),B'<|.int (m:Int),B'<|.bl S.win.isSome,B'<|.ref r,M5,M5]/\Same c5 H') (λR U=>?_) ?_
  ·cases g:S.win.isSome with
   |false=>exact⟨_,rfl,MW,rfl,av<|av<|U _ _ ⟨by rw[g];rfl,Same.refl _⟩⟩
   |true=>
    have W:=c4 g;obtain⟨hw,Si,RI⟩:=W.hw;have kk:=b5.trans ba;exact⟨_,rfl,MX,rfl,aB ⟨_,rfl,_,rfl,B,p,qa,t,C,zs,S,hw,rfl,kk _ _ az,kk _ _ bl,bm.mono kk,h5.same ba,W,Si,RI,Z,ok.rng,ok.ws,(by omega),(by omega),v hw,λdb ac=>⟨MX,rfl,av<|U _ _ ⟨by rw[g];rfl,ac⟩⟩⟩⟩
  rintro _ db ⟨rfl,ac⟩;have eb:=ba.trans ac;have a0:=ca.mono ac;have ec:=c6.mono ac;have ed:=bZ<|a0.y MW;have ew:=v MW;clear ba ac ca c6;refine⟨_,rfl,(bM a0.r rfl<|bM (a0.p MW) rfl ⟨.inl ⟨rfl,_,SqL.of<|a0.l MW⟩,(by show 2<=sizeLine;decide),λtg eg=>?_⟩)⟩;have bb:=af eg<|.tup [.str<|M_ "given",.int 0];generalize upd db tg (.tup [.str<|M_ "given",.int 0])=an at bb ⊢;have as:=a0.mono bb;have ei:=ec.mono bb;refine⟨N MW,y MW,.ref tg,rfl,rfl,as.l MW,bH (by omega),?_⟩;have dc:Eld (upd an (N MW)<|.lst<|y MW++[.ref tg]) S.lw e' L y:=ei.put I.good (as.l MW) (c8 MW) λb=>da b MW;have J:Same H5 (upd an (N MW)<|.lst<|y MW++[.ref tg]):=(eb.trans bb).upd_new (nl MW) _;have cd:∀x zs,an x=B' (.tup zs)->upd an (N MW) (.lst<|y MW++[.ref tg]) x=B' (.tup zs):=λx zs e=>by rw[aj λz=>by rw[z,as.l MW]at e;cases e];exact e
  have bc:upd an (N MW) (.lst<|y MW++[.ref tg]) (N MX)=B' (.lst<|y MX):=by rw[aj<|OV nn];exact as.l MX
  generalize upd an (N MW) (.lst<|y MW++[.ref tg])=dd at dc J cd bc ⊢;refine⟨_,rfl,(bM (cd _ _ as.r) rfl<|bM (cd _ _<|as.p MX) rfl ⟨.inl ⟨rfl,_,SqL.of bc⟩,N MX,y MX,rfl,rfl,bc,?_⟩)⟩;have dk:Same H5 (upd dd (N MX)<|.lst []):=J.upd_new (nl MX) _;have dn:Eld (upd dd (N MX)<|.lst []) S.lw e' L y:=dc.put I.good bc (c8 MX) λb=>da b MX;rw[ab]at h5 dn ⊢;exact⟨n+m,e',L,y,_,_,_,_,rfl,b5.trans dk,h5.same dk,dn,d6,d7,d4,λz=>d5<|by omega⟩
 clear D s8 k9 E9 ne na Tf bt;rintro σ H2 ⟨n,e,ea,es,v7,v8,v9,a2,rfl,k,h,he,ne,na,hn,ej⟩;have W:=Jm Z (by omega) (k:=n) (gS (t:=t) (c:=C)) (by have:=ej rfl;omega);have v:=xV Z (by omega) n;generalize dI t C n eH=S at h W v ⊢;obtain⟨hw,Si,RI⟩:=W.hw;have O:=rE W.I RI<|v hw;have ey:=O.few;have cf:S.win.isSome=true:=by rw[Si];rfl
 rw[cf];refine⟨_,rfl,MX,rfl,av ?_⟩;refine⟨_,rfl,B.x,B.dx,_,rfl,h.hx,rfl,B,t,C,S,hw,rfl,h,W,Si,RI,Z,(by omega),(by omega),v hw,λr l y H3 k3 _ nl ch bd UN=>?_⟩;have ed:=bZ UN;refine⟨_,rfl,(bM ch rfl ⟨l,y,rfl,.inl<|SqL.of bd,λkl a1=>?_⟩)⟩;have j:=af a1<|.lst y;have s4:upd H3 kl (.lst y) kl=B' (.lst y):=aa;generalize upd H3 kl (.lst y)=H4 at j s4 ⊢;have cl:=j _ _ ch;have be:=j _ _ bd;refine⟨_,rfl,(bM cl rfl ⟨.inl ⟨rfl,_,SqL.of be⟩,l,y,.int 0,rfl,rfl,be,bH (by omega),?_⟩)⟩;have k5:Same H2 (upd H4 l<|.lst<|y++[.int 0]):=(k3.trans j).upd_new nl _;have tk:TupS H4 (upd H4 l<|.lst<|y++[.int 0]):=λb zs e=>by rw[aj λz=>by rw[z,be]at e;cases e];exact e
 have dp:kl≠l:=λz=>by rw[z,bd]at a1;cases a1
 have s5:upd H4 l (.lst<|y++[.int 0]) kl=B' (.lst y):=by rw[aj dp];exact s4
 have dr:=tk _ _ cl;have ds:dw (upd H4 l<|.lst<|y++[.int 0]) (oQ (S.lw hw)<|S.ow hw) y:=((TupS.of j).trans tk).goods O.good UN;generalize upd H4 l (.lst<|y++[.int 0])=H5 at k5 s5 dr ds ⊢;have ek:¬B.own kl:=h.new<|k3.free a1;have h5:=h.same k5;clear tk j k3 cl be ch bd UN s4 dp a1;refine⟨_,rfl,B.x,B.dx,_,rfl,h5.hx,rfl,B,t,C,S,1,rfl,h5,.inr W,Z,(by omega),(by omega),kZ (by omega) _ _,λH6 h6 m6=>?_⟩;rw[iQ cf]at h6 ⊢;rw[cf];refine⟨_,MX,rfl,rfl,MX,rfl,vH rfl ?_⟩;refine⟨_,rfl,B.x,B.dx,_,rfl,h6.hx,rfl,B,t,C,S,hw,rfl,h6,W,Si,RI,Z,(by omega),(by omega),v hw,λr2 l2 ez H7 k7 _ _ aC el en=>?_⟩;have eo:=(h5.tups m6) _ _ dr;have s6:=m6 _ _ ek s5;have eq:=(h5.tups m6).goods O.good ds;refine⟨_,rfl,(bM (k7 _ _ eo) rfl ⟨_,rfl,(by show 2<=sizeLine;decide),λtt er=>?_⟩)⟩;have D:=af er<|.tup [.str<|ay hw,.ref kl];exact jz (aX (D _ _ aC)<|ak (cD _)<|ak (bP (D _ _ el)<|bE D _ _ en) aw) (aX aa<|ak (cD _)<|ak (bP (D _ _<|k7 _ _ s6)<|bE (k7.trans D) _ _ eq) aw) (vJ O.good)<|q _
abbrev fqq(K n s f e):=Fun K n n s f e
theorem all_mk {P:Nm}{w:NF}{K:K'}{h:N_}{mg:Str->MZ J'}{fa:M0}(X:K.In h)(G:h.Ns NU mg)(hfa:mg "law"=B' (.ref fa)){CS CD CB CW C1 C2 C5 C6 C7 C8 C9:M0}{cdW:ClassData}(D1:DA mg K "is_number" IO f1 e1)(D2:DA mg K "is_set" IP f2 e2)(D3:DA mg K "stands_by" rn f3 e3)(D4:DA mg K "hand_of" qS f4 e4)(D5:DA mg K "other_hand" uY f5 e5)(D6:DA mg K "literal_by" vq f6 e6)(D7:DA mg K "variables_of" Bq f7 e7)(D8:DA mg K "stands_both_ways" Bu f8 e8)(D9:DA mg K "joined" qU f9 e9)(D10:DA mg K "dropped" n_ f10 e10)(D11:DA mg K "is_place" u5 f11 e11)(D12:DA mg K "begins_with" Bx f12 e12)(D13:DA mg K "given_set" u6 f13 e13)(D14:DA mg K "hits" qV f14 e14)(D16:DA mg K "hits_each" u9 f16 e16)(D17:DA mg K "hits_set" u_ f17 e17)(D18:DA mg K "join_set" u8 f18 e18)(D19:DA mg K "drop_set" u7 f19 e19)(D20:DA mg K "line_set" BI f20 e20)(D21:DA mg K "sets_of" qX f21 e21)(D22:DA mg K "end_empty" I0 f22 e22)(D23:DA mg K "whole_sets" Ja f23 e23)(D24:DA mg K "named_by" Ch f24 e24)(D25:DA mg K "renamed" zf f25 e25)(D27:DA mg K "needed_by" FK f27 e27)(D28:DA mg K "first_places" FO f28 e28)(D29:DA mg K "shortened_paper" Jg f29 e29)(D30:DA mg K "rest_behind" vt f30 e30)(D31:DA mg K "hitting_set" Da f31 e31)(D32:DM K CS "__init__" "Searcher.__init__" vA f32 e32)(D33:DM K CS "put" "Searcher.put" CI f33 e33)(D34:DM K CS "learn" "Searcher.learn" ri f34 e34)(D35:DM K CS "learn_join" "Searcher.learn_join" vp f35 e35)(D36:DM K CS "fill_in" "Searcher.fill_in" vv f36 e36)(D37:DM K CS "turn_back" "Searcher.turn_back" vw f37 e37)(D38:DM K CS "look" "Searcher.look" vx f38 e38)(D39:DM K CS "go" "Searcher.go" Jp f39 e39)(D40:DM K CS "learnt" "Searcher.learnt" oT f40 e40)(D41:DM K CS "paper" "Searcher.paper" mB f41 e41)(D43:DA mg K "_law_cell_at" Bh f43 e43)(D44:DA mg K "_law_kinds" vD f44 e44)(D45:DA mg K "_law_mix" IK f45 e45)(D46:DA mg K "_law_drawn" uV f46 e46)(D47:DA mg K "_law_sentence" Bi f47 e47)(D48:DA mg K "_law_levels" rp f48 e48)(D49:DA mg K "_law_winner" rq f49 e49)(D50:DA mg K "_law_own" IW f50 e50)(D51:DA mg K "_law_set" BS f51 e51)(D52:DA mg K "_law_dropped" vc f52 e52)(D53:DA mg K "_law_number" BU f53 e53)(D54:DA mg K "_law_is_set" qY f54 e54)(D55:DA mg K "_law_ahead" vd f55 e55)(D56:DA mg K "_law_join" ve f56 e56)(D57:DA mg K "_law_line" vf f57 e57)(D58:DA mg K "_law_sets" vg f58 e58)(D59:DA mg K "_law_paper" xU f59 e59)(D61:DA mg K "_law_learnt" oU f61 e61)(D62:DA mg K "_law_settled" DE f62 e62)(D63:DA mg K "_law_great" vG f63 e63)(D64:DA mg K "_law_back" vI f64 e64)(D65:DA mg K "law" zx f65 e65)(z0:Og K NU "len"=B' M5)(z1:Og K NU "range"=B' M5)(z2:Og K NU "tuple"=B' M5)(z3:Og K NU "sorted"=B' M5)(z4:Og K NU "isinstance"=B' M5)(z5:Og K NU "int"=B' M5)(z6:Og K NU "bool"=B' M5)(z7:Og K NU "list"=B' M5)(z8:Og K NU "abs"=B' M5)(z9:Og K NU "all"=B' M5)(z10:Og K NU "zip"=B' M5)(z11:Og K NU "set"=B' M5)(z12:Og K NU "any"=B' M5)(z13:Og K NU "max"=B' M5)(z14:Og K NU "enumerate"=B' M5)(z15:Og K NU "dict"=B' M5){tW tS:Tok} (zW:Og K NU "WISHER"=B' (B' (.str (M_ "wisher") tW)))(zS:Og K NU "SPOILER"=B' (B' (.str (M_ "spoiler") tS)))(CSy:Og K NU "Searcher"=B' (B' (.ref CS)))(c1:R0 K CS ry=MX)(c2:S1 K CS=MX)(c3:Vk K CS=MX)(c4:Of K (.ref CS) "__setattr__"=B' (B' (.builtin "object.__setattr__")))(n1:Of K (.ref CS) "sentence"=B' M5)(n2:Of K (.ref CS) "lines"=B' M5)(n3:Of K (.ref CS) "places"=B' M5)(n4:Of K (.ref CS) "begun"=B' M5)(n5:Of K (.ref CS) "firsts"=B' M5)(n6:Of K (.ref CS) "rests"=B' M5)(n7:Of K (.ref CS) "winner"=B' M5)(ama:WA K CS=MX)(amb:Q8 K (.ref CS)=MX)(yD:Og K NU "DuelError"=B' (B' (.ref CD)))(yC1:Og K NU "NoVariable"=B' (B' (.ref C1)))(yC2:Og K NU "NoFilling"=B' (B' (.ref C2)))(CBy:Og K NU "BadLine"=B' (B' (.ref CB)))(yCW:Og K NU "NotWhole"=B' (B' (.ref CW)))(yC5:Og K NU "NoHand"=B' (B' (.ref C5)))(yC6:Og K NU "BadStep"=B' (B' (.ref C6)))(yC7:Og K NU "NoForm"=B' (B' (.ref C7)))(yC8:Og K NU "TooMany"=B' (B' (.ref C8)))(yC9:Og K NU "NoText"=B' (B' (.ref C9)))(zV:Og K NU "ValueError"=B' M5)(xCW:Q0 K CW [.type "ValueError",.type "Exception",.type "BaseException",.type "object"] "ValueError.__new__"=MX)(xCD:Q0 K CD [.type "ValueError",.type "Exception",.type "BaseException",.type "object"] "ValueError.__new__"=MX)(qb:Py K CD (.type "BaseException")=B' MX)(qlW:Py K CW (.ref CD)=B' MX)(v1:VB K CW=B' cdW)(v2:Of K (.ref CW) "__getattribute__"=B' (B' (.builtin "BaseException.__getattribute__")))(v3:Of K (.ref CW) "__getattr__"=B' M5)(v4:Of K (.ref CW) "__class__"=B' (B' (.builtin "object.__class__")))(v5:Py K CW (.type "object")=B' MX)(v6:Py K CW (.type "BaseException")=B' MX)(kWV:N6 K (.ref CW) (.type "ValueError")=B' MX)(af5:N6 K (.ref CW) (.ref C1)=B' MW)(af4:N6 K (.ref CW) (.ref C2)=B' MW)(afY:N6 K (.ref CW) (.ref CB)=B' MW)(af3:N6 K (.ref CW) (.ref C5)=B' MW)(af2:N6 K (.ref CW) (.ref C6)=B' MW)(af1:N6 K (.ref CW) (.ref C7)=B' MW)(af0:N6 K (.ref CW) (.ref C8)=B' MW)(afZ:N6 K (.ref CW) (.ref C9)=B' MW):∃ fd:Ny,(∀ (s:M3) (v:J'),YO s fd ⟨[v],[]⟩ [("_law_script",v)])/\∀ base:N_,K.In base->base.Ns NU mg->aP P w K mg base cr 12 fa fd ["_law_script"] (ya K):=by
 have e:=hfa.symm.trans D65.a;cases e;have TG:KI mg:=⟨Nv X G z0,Nv X G z1,Nv X G z2,Nv X G z3⟩;have TS:md mg:=⟨Nv X G z4,Nv X G z5,Nv X G z6,Nv X G z2,Nv X G z7,Nv X G z8,Nv X G z0,Nv X G z9,Nv X G z1,Nv X G z10,Nv X G z3,Nv X G z11,Nv X G z12,Nv X G z13⟩;have TH:Lz mg:=⟨Nv X G z0,⟨_,Pf X G zW,⟨_,rfl⟩⟩,⟨_,Pf X G zS,⟨_,rfl⟩⟩⟩;have TE:MF mg:=⟨Nv X G z14⟩;have TV:Mq mg:=⟨Nv X G z0,Nv X G z1,Nv X G z8,Nv X G z5⟩;have TFs:K0 mg:=⟨Nv X G z14⟩;have TSh:K3 mg:=⟨Nv X G z14,Nv X G z15⟩;have TNe:KS mg:=⟨Nv X G z1,Nv X G z3⟩;have TL:MN mg:=⟨Nv X G z0,Nv X G z1,Nv X G z13,Nv X G z7,Nv X G z4,Nv X G z6⟩;have aah:Cls K CS:=⟨c1,c2,c3,c4⟩;have TSr:lO K mg CS:=⟨TS.len,TS.list,aah,n1,n2,n3,n4,n5,n6,n7,TH.g_WISHER,TH.g_SPOILER⟩;have THs:Jo mg:=⟨TS.abs,TS.len,TS.sorted,TS.tuple,TH.g_WISHER⟩;have AW:gY K CW:=⟨⟨_,v1⟩,v2,v3,v4,v5,v6⟩;have TW:MG K mg CW:=⟨Pf X G yCW,xCW⟩;have TF:MJ mg C1 C2 CB CW C5 C6 C7 C8 C9:=⟨TS.isinstance,Nv X G zV,⟨_,Pf X G yC1,rfl⟩,⟨_,Pf X G yC2,rfl⟩,⟨_,Pf X G CBy,rfl⟩,⟨_,Pf X G yCW,rfl⟩,⟨_,Pf X G yC5,rfl⟩,⟨_,Pf X G yC6,rfl⟩,⟨_,Pf X G yC7,rfl⟩,⟨_,Pf X G yC8,rfl⟩,⟨_,Pf X G yC9,rfl⟩⟩;have KW:MK K CW C1 C2 CB CW C5 C6 C7 C8 C9 MW MW MW MX MW MW MW MW false:=⟨AW,kWV,af5,af4,afY,AM K CW,af3,af2,af1,af0,afZ⟩;have TAW:Hk K mg CD CW:=⟨Pf X G yD,xCD,qb,qlW⟩;obtain⟨_,_,kV,dc,pm,an,cd,ct,_,rfl,_,_⟩:=D65.F.ex;refine⟨Rg "law" "law" (iH zx) (fi zx) (ah zx) .none kV dc pm an cd ct,λs v=>.of_eq rfl,λbase _ _=>?_⟩;have ge:=@L2.DA.fe P w base;have gm:=@L2.DM.mt P w base;have G1:=ge D1 (IQ D1.F TS);have G2:=ge D2 (IR D2.F TS G1);have G3:=ge D3 (zp D3.F THs);have G4:=ge D4 (y9 D4.F TH);have G5:=ge D5 (Bt D5.F TH);have G6:=ge D6 (CQ D6.F);have G7:=ge D7 (Fs D7.F TS G4);have G8:=ge D8 (Fw D8.F TS);have G9:=ge D9 (y_ D9.F TS);have G10:=ge D10 (u4 D10.F TS G5 G7);have G11:=ge D11 (BD D11.F G1);have G12:=ge D12 (Fx D12.F TS);have G13:=ge D13 (BF D13.F TS G11);have G14:=ge D14 (BO D14.F);have G15:=ge D14 (De D14.F);have G16:=ge D16 (BP D16.F TS G14);have G17:=ge D17 (BQ D17.F TS G2 G16);have G18:=ge D18 (BH D18.F TS G1 G11 G5 G7 G8 G9);have G19:=ge D19 (BG D19.F TS G11 G10);have G20:=ge D20 (Fz D20.F TH G12 G13 G17 G18 G19);have G21:=ge D21 (za D21.F TE G20);have G22:=ge D22 (I_ D22.F);have G23:=ge D23 (Jb D23.F G21 G22);have G24:=ge D24 (FJ D24.F);have G25:=ge D25 (FM D25.F);have G26:=ge D25 (FN D25.F);have G27:=ge D27 (Jd D27.F TNe G24);have G28:=ge D28 (Jf D28.F TFs);have G29:=ge D29 (Ji D29.F TSh G23 G28 G25 G27 G26);have G30:=ge D30 (CT D30.F);have G31:=ge D31 (FV D31.F THs G15 G3 G4);have G32:Ly P w K mg base _ "Searcher" CS _ _ _ _:=⟨Dq D32.F TSr G10,D32.F.bs,⟨ama,D32.a,D32.i,amb⟩,Pf X G CSy⟩;have G33:=gm D33 aah (FU D33.F TSr);have G34:=gm D34 aah (zm D34.F TSr G10 G33);have G35:=gm D35 aah (CO D35.F TSr G9 G34);have G36:=gm D36 aah (CV D36.F TSr G6 G30);have G37:=gm D37 aah (C_ D37.F TSr G36 G35);have G38:=gm D38 aah (Dj D38.F TSr G31 G34 G37 G36);have G39:=gm D39 aah (Jr D39.F TSr G38);have G40:=gm D40 aah (vC D40.F TSr);have G41:=gm D41 aah (zr D41.F TSr G29);have G42:=gm D41 aah (Dw D41.F TSr TW);have G43:=ge D43 (Fo D43.F TG);have G44:=ge D44 (Du D44.F TF KW);have G45:=ge D45 (IN D45.F);have G46:=ge D46 (Bo D46.F TG);have G47:=ge D47 (Fq D47.F TG G43 G45 G46);have G48:=ge D48 (zt D48.F TV);have G49:=ge D49 (zu D49.F TV G48);have G50:=ge D50 (IY D50.F TS);have G51:=ge D51 (FE D51.F TS);have G52:=ge D52 (B2 D52.F TS G50);have G53:=ge D53 (FD D53.F TS);have G54:=ge D54 (zb D54.F TS G53);have G55:=ge D55 (B6 D55.F TS G53);have G56:=ge D56 (B7 D56.F TS G53 G55 G50 G51);have G57:=ge D57 (Cc D57.F TS G56 G55 G54 G52);have G58:=ge D58 (Cd D58.F G57);have G59:=ge D59 (FX D59.F G41);have G60:=ge D59 (Dz D59.F TAW G42);have G61:=ge D61 (vF D61.F TS G58);have G62:=ge D62 (FZ D62.F TS G59 G49 G58);have G63:=ge D63 (DD D63.F TG G43);have G64:=ge D64 (DK D64.F TS G43 G63 G44 G61 G60 G58 G32 G39 G40 G41);exact Jv D65.F TL G43 G47 G64 G44 G61 G60 G62 G32 G39 G40 G41
theorem walk {l:V5}{q:Nm}{loose:gV Str}{XP:(Str->MZ J')->N_->Prop}{Y:NF->N_->Prop}{d:DefRec}{K:lB->K'}(n:l.most=B' 63)(H:d.params.defaults=[])
  (g:∀ (w:NF) (h:N_),Y w h->(K w.params).In h)
  (F:∀ (w:NF) (m:Str->MZ J') (c:M0) (h:N_),(K w.params).In h->h.Ns NU m->m d.name=B' (.ref c)->
   ∃ e:Ny,(∀ (s:M3) (u:J'),YO s e ⟨[u],[]⟩ [("_law_script",u)])/\∀ b:N_,(K w.params).In b->b.Ns NU m->aP l.prog w (K w.params) m b cr 12 c e ["_law_script"] (ya (K w.params))):
  Ze q loose XP Y l.row.toRowW d [] (λf v=>X3 f v):=
 L2.walk_of (n:=63) (k:=12) (x:="_law_script") (C:=λ_=>cr) (z:=λw=>ya (K w.params)) n (by decide) H ⟨rfl,by decide,by decide⟩ g F (λ_ _ a N i _ j=>⟨a,N,rfl,j,i,λ_=>rfl⟩) λ_ _ _ _ _ z=>z
end K42
open PySem PySem.W PySem.Calls PyProof.Rows
set_option maxRecDepth 100000
set_option maxHeartbeats 0
local macro_rules|`(tactic|o_head $H)=>`(tactic|refine HD.head (q:=K42.vQ) (loose:=[]) (lv:=[]) $H (N:=8666) (HD.left (by kernel_rfl) (fun s=>by kernel_rfl) (by kernel_rfl) (by kernel_rfl) (fun w=>by kernel_rfl) K42.seenA K42.seenB K42.seenC K42.seenD (fun w os=>by kernel_rfl)) (by rfl) (by rfl) (by rfl) (by rfl) (by assumption) (by decide+kernel) ⟨rfl,rfl,rfl,rfl,rfl,by decide+kernel⟩ ?hw ?hc)
theorem PySem.Challenge.cw_oathduel_k42_searchers_dealt_out_holds : PySem.Challenge.rw_oathduel_k42_searchers_dealt_out.Holds := by
 w_on
 refine holds_law K42.said λsaid=>?_
 k_head
 (case hw=>w_witness2)
 k_fill
 refine K42.walk (l:=Pt) rfl rfl (λw h Y=>PySem.W.kIn_of Y) ?F
 case F=>
  intro w mg fa h KX G hmg;apply K42.all_mk KX G hmg
  (case CSy|yD|yC1|yC2|CBy|yCW|yC5|yC6|yC7|yC8|yC9|zV=>k_is)
  (case xCW|xCD=>k_exc)
  (case kWV|af5|af4|afY|af3|af2|af1|af0|afZ=>kit_is)
  all_goals first|k_is|(refine' L2.DA.of KX G ?a (L2.fun_mk ?l ?c ?k);case a|l|c|k=>k_is)|(refine' L2.DM.of ?a ?i (L2.fun_mk ?l ?c ?k);case a|i|l|c|k=>k_is)
