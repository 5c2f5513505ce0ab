import PyProof.Rows.All
import Wide.All
import OpenK.AllK
import Wide.FinOn
import Lean
import PyProof.EqAt
import PyProof.EqKinds
import PyProof.TupleCall
import PySem.Challenge.RW_oathduel_k94_whole_papers_through_texts
set_option Elab.async false
set_option linter.all false
set_option maxRecDepth 100000
set_option maxHeartbeats 4000000
open Array renaming length_toList->Mr,getElem?_toList->Nz,perm_iff_toList_perm->Pn,getElem?_eq_some_iff->Po,toList_inj->RT,mk->R7,toList_setIfInBounds->S4,append_assoc->S5,toList_push->TF,toList->UQ,toList_reverse->Vz,getElem_toList->VA,toList_append->VR,forIn_toList->Ww,size_zip->YJ,size_map->YK
open Array.Perm renaming refl->X1
open Bool renaming true->LI,false->LM,false_ne_true->Mb,and_eq_true->MO,eq_iff_iff->NB,or_eq_true->NL,and_eq_true_iff->NU,and_false->On,false_eq_true->OZ,true_and->Q2,or_false->Q3,false_or->Q4,rec->R6,not_not->Su,not_eq_true->Um,and_true->VZ,or_true->W9,not_eq_true'->W_,false_and->YI,true_or->aac
open Char renaming toNat->Ow
open Decidable renaming byContradiction->Te
open False renaming elim->O8
open ForInStep renaming yield->Px,done->YH
open Int renaming toNat_natCast->M3,lt_trans->Pa,emod_lt_of_pos->Pm,emod_nonneg->Ql,le_refl->QF,natCast_nonneg->S2,fdiv_eq_ediv_of_nonneg->S3,lt_or_eq_of_le->Wv,le_of_lt->W8,not_lt->YG,zero_add->aaa,le_trans->aab,neg_neg->aaP,mul_one->aaQ
open List renaming length_map->J',getD_eq_getElem?_getD->LK,mem_singleton->LN,getElem?_eq_some_iff->LS,getElem?_eq_getElem->LU,length_append->LX,mem_cons_of_mem->LY,mem_of_getElem?->LZ,length_cons->L4,take_of_length_le->L8,mem_cons_self->L9,size_toArray->Mf,mem_cons->Mn,contains_iff_mem->Mo,getElem?_map->Mp,map_append->Mq,mem_append->Mt,all_eq_true->Mu,length_singleton->Mz,length_take->ME,mem_map->MF,map_cons->MH,take_add_one->MM,append_assoc->MN,mem_filter->MP,mem_append_right->MR,any_eq_true->MW,mem_filterMap->M4,map_map->M9,pairwise_cons->Nc,getElem?_append_left->Nd,Nodup->Nf,getElem?_append_right->Nh,range->Nr,length_dropLast->Nw,pairwise_map->Ny,length_range->NS,nodup_cons->NX,find?_cons->NZ,append_nil->N0,length_drop->N6,length_filter_le->N8,getElem?_eq_none->N9,nodup_append->Oa,length_eq_zero_iff->Oc,length->Oe,take_append_drop->Ol,pairwise_append->Oz,mem_append_left->OA,getElem_mem->OB,mem_map_of_mem->OK,length_pos_iff->OL,getElem_of_mem->OM,filterMap_cons->ON,length_nil->OO,pairwise_iff_getElem->OQ,drop_eq_getElem_cons->OR,not_mem_nil->OW,filter_append->OX,exists_cons_of_length_pos->OY,mem_of_mem_take->PK,getElem?_take_of_lt->PP,any_cons->PQ,Pairwise->PR,map_eq_nil_iff->PX,mem_range->P8,filter_cons_of_neg->P9,take_append_of_le_length->P_,drop_of_length_le->Qf,any_map->Qg,all_map->Qh,range_succ->Qk,mem_iff_getElem?->Qr,dropLast_eq_take->Qs,foldl_append->Qw,reverse_reverse->QD,Perm->QO,mergeSort_perm->QR,map_congr_left->QS,getElem?_range->QT,filter_eq_self->QU,length_filterMap_le->Q1,foldl_cons->Q8,pairwise_mergeSort->Rf,lookup->Rg,filter_cons_of_pos->Rh,take_succ_eq_append_getElem->Rv,take_sublist->Rw,nodup_nil->Rx,map_nil->Ry,getElem?_dropLast->Rz,findIdx_lt_length_of_exists->RA,filter_eq_nil_iff->RB,ext_getElem?->RC,pairwise_reverse->RK,mem_reverse->RS,all_cons->RY,getLast?_eq_some_getLast->R4,eq_nil_of_length_eq_zero->R5,nil_append->Sa,dropLast_concat_getLast->Sb,take_take->SX,nodup_iff_pairwise_ne->SY,exists_cons_of_ne_nil->SZ,drop_drop->S1,rel_of_pairwise_cons->Ta,mem_of_find?_eq_some->Tb,getLast?_eq_getElem?->Tc,getElem?_eq_none_iff->Td,reverse_perm->Tu,reverse_cons->Tv,getElem_take->Tw,filter_congr->Tx,drop_sublist->Tz,sum_cons->T5,idxOf_lt_length_iff->T6,getLast_eq_getElem->Uk,any_eq_not_all_not->Ul,not_of_lt_findIdx->UN,length_pos_of_mem->UO,getElem?_set_self->UP,of_mem_zip->UV,any_append->UW,take_zero->Vt,mem_of_mem_drop->Vu,getElem_toArray->Vv,getElem?_set_ne->Vw,findIdx_getElem->Vx,drop_left->Vy,take_succ_cons->VQ,ne_nil_of_mem->Wp,map_inj_right->Wq,lookup_append->Wr,getElem_idxOf->Ws,find?_eq_none->Wt,contains_cons->Wu,map_id'->W4,map_dropLast->W5,idxOf_append->W6,getLast?_map->W7,map_snd_zip->Xw,length_tail->Xx,cons_ne_nil->Xy,idxOf_cons->XY,drop_left'->XZ,countP_map->X0,map_drop->Zu,reverse->Z',map->aaO
open List.Pairwise renaming filter->QE,nil->TB,map->abJ
open List.Perm renaming eq_of_pairwise->Zv
open List.cons renaming inj->Qn
open Nat renaming le_refl->LQ,zero_le->Mw,ne_of_lt->Mx,le_trans->MD,lt_of_lt_of_le->Nb,toDigits->Nn,le_of_lt->Nx,lt_irrefl->Om,lt_succ_of_lt->OJ,pow_le_pow_right->O5,lt_of_le_of_lt->Pl,sub_self->PF,ne_of_gt->PH,mul_le_mul_right->PJ,succ_le_succ->P7,zero_add->Qe,add_sub_assoc->Qv,pow_succ->QM,le_of_eq->QN,le_succ->Re,lt_or_ge->Ru,min_le_right->RQ,eq_or_lt_of_le->SW,lt_trichotomy->Tt,add_assoc->T4,add_sub_cancel_left->Uj,lt_trans->UL,eq_zero_of_not_pos->UM,le_of_ble_eq_true->U7,add_le_add_right->Vs,ble->VG,one_le_two_pow->Wn,add_sub_cancel->Wo,le_of_succ_le->W2,add_zero->W3,lt_succ_self->Xu,le_add_right->Xv,le_add_left->XX,mul_comm->Z9,min_self->Z_,sub_le->abt,not_lt->abu
open Nat.succ renaming inj->UK
open Ne renaming symm->NC
open Option renaming some->A',none->LL,map_eq_some_iff->NW,isSome_iff_exists->O1,map_some->Q7,isSome_map->Ts,rec->UJ,isSome_some->Wl,isNone_none->Wm,getD_none->Xs
open Option.some renaming inj->MC
open Or renaming inl->MA,inr->Ra
open Prod renaming snd->W1,rec->aaN,ext->acM
open Prod.mk renaming injEq->Zt
open PyProof renaming noPylong_small->UC
open PyProof.Rows renaming wpS_bind->MJ,wpS_pure->MX,arrOf->MZ,pendingOf->M1,envOfC->Nj,Keyed->Nk,boot_tuple->Nm,boot_abs->Np,SortSt->Nu,boot_isinstance->NA,seqObj->NR,callWith_type1->OC,wpS_forRange->OH,boot_list->OI,slot_tuple_getitem->OP,failedOf->OS,split_le->Pr,IntsAre->PV,wpS_mono->P6,split_pos->Qd,boot_int->Qq,listUpdate_at->Q0,cps_toList_append->Rt,boot_str->RI,boot_all->RJ,boot_sorted->R8,get?_update_seq->R',AllBare->Ss,wpS_get->Tr,callWith_kw->T3,elem'->Ui,wpS_modify->UD,subscriptTail_builtinR->UE,setPending->UF,mem_zip_self->UG,boot_dict->UH,bitAnd_m1->UI,entry_list_sort->UU,kws_cons->U5,boot_any->U6,wpS_lift->Vn,slot_list_sort->Vo,seqEpoch_at->Vp,pairsOf_toList->Vq,kws_nil->Vr,getElem?_mirror_all->VO,entry_tuple_getitem->VP,subscriptTail->VX,call_abs_int->VY,size_push'->Wj,args_tuple_getitem->Wk,plain_sorted->WX,mergeAt'->WY,listItems_at->WZ,entry_sorted->W0,join_plain_closes->Xq,callWith_builtin1->Xr,kind_sorted->XH,getElem?_bubble->XW,signs_ofString->X5,pairsOf->X6,minRun'->X7,len_str_of_int->X8,sortedHeap_old->Yy,sortedHeap->Yz,slicePart_none->YA,boot_range->YB,args_list_sort->YC,Subscript_->YD,SortKind->YE,tupleItemsOf_->Zq,sortedHeap_at->Zr,digit_range->Zs,numOf->ZM,setArr->Z5,mirror->Z6,boot_bool->Z7,KskOut->Z8,boot_max->aaj,IsTup->aaM
open PyProof.Rows.IntsAre renaming length->YF
open PyProof.Rows.IsTup renaming new->ZN
open PyProof.Rows.SortSt renaming mk'->SV
open PySem renaming Value->LF,wpAny_bind->LG,Addr->LJ,Shared->LR,mainGlobals->L7,PyData->Mc,wpAny_pure->Me,Program->Mm,FuncData->Ms,model->MB,World->MK,starEach->MT,boot_len->M7,Heap->M8,cellsFrom->Ni,Around->Nl,Expr->Nt,wpAny_mono->Nv,compareOp->NG,wpAny_truthy_bool->NM,Stmt->NN,sizeLine_eq->NT,wpAny_holding->N3,mem_of_lookup->N7,wpAny_newObj_type->N_,tupleKind->Ob,eval->Oj,sysModules->Ov,backTo->O_,wpAny_rule->Pg,wpAny_Call_Name_kw->Ph,tupleKind_room_in1->Pi,wpAny_passesOwn->Pu,codeAny_builtin->Pw,binaryOp->Pz,plainId_quiet->PM,cLine->PU,wpAny_tryCatch->PY,wpAny_getItem_str_slice->PZ,call_meets->Qa,letOwnedTupleGo->Qj,wpAny_pyIter_list->Qu,Scope->QP,wpAny_comprehension_free->QW,attributeBase->QX,wpAny_execs_nil->Q5,relabel->Q6,assignEach->Q9,wpAny_field->Rb,sliceBounds->Rc,wpAny_typeOf->Rj,storedH->Rk,intItems->Rl,foldedSetIterable->Rm,bootBuiltins->Ro,wpAny_notOrdered_dict->RE,wpAny_call_entry->RM,noFill_tuple_add->RN,Thread->RP,wpAny_newList->RW,behindInMarks->RX,keywordEach->RZ,post_val_or_str->R_,atKey->Se,getItem->Sm,codeAny_mono->Sn,argBest->So,wpAny_seqItems->Sz,typeIs_str->SB,newFunctionEnv->SD,NameKind->SM,wpAny_letGo->Tg,valueAt->Th,holding->Ti,seq_tuple_add->TQ,pyNext->TR,wpAny_callSpecial?_slot->T_,getMethod->Ua,bindArgs->Ub,wpAny_pyNext_range_end->Ut,wpAny_pyIter_rangeiter->Uu,concat_meets->Uv,codeAny_compStart_list->Uw,call_meetsIn->Ux,wpAny_updateSeq->UR,wpAny_isTrue_Compare1->U0,wpAny_loadName_local->Vc,subscripted->Vd,dictSetDefault->Ve,backToKw->Vf,Result->Vi,IsRangeIter->Vk,swapsWith->VB,standAt->VC,callerA->VD,OsState->VF,wpAny_loadName_cell->VI,kt_meets_setdefault->VJ,wpAny_standAt->VW,wpAny_pyIter_range->V7,merged->V8,getattributeRaised->V9,denote->V_,call->V',assign->Wa,IsPart->Wh,wpAny_sequenceKey->WG,wpAny_pyIter_enum->WH,wpAny_assign_Name->WI,leaving->WJ,compEnvC->WK,Within->WL,ReadsAll->WO,BindsTo->WV,wpAny_execs_cons->Xf,wpAny_Dict_empty->Xg,pyIter->Xh,kt_code_dict_new->Xi,storedH_new->XE,toDigits_len_ge->XQ,theTreesLotGoes->XR,pushCells_keeps->XS,wpAny_setField->Yi,wpAny_newTuple->Yj,wpAny_Name->Yk,typeLookup->Yl,recursionLimit->Ym,intText?->Yn,compPost->Yo,checkCount->Yp,callWith->Yq,callType_codes->Yr,builtinsNs->Ys,bindL->Yt,bindC->Yu,wpAny_attempt->Y5,intBits_le_64->Y6,eval_ListComp->Y7,evalPart_none->Y8,compTurn_list->Y9,call_list_seq->Y_,ExceptHandler->Zd,treeTable->ZD,storeName->ZE,seqItems?->ZF,noteFrame->ZG,CmpOp->ZJ,newList->ZY,Params->Z1,Keyword->Z2,CellsOk->Z4,numAt->aay,Operator->aaG,Model->aaH,GenState->aaK,Fin->ab2
open PySem.Around renaming under_plainId->Oy,under->WW
open PySem.AutoListH renaming list_insert_list_int_val_1->VN
open PySem.Builtin renaming bitAnd->P4
open PySem.Builtin.Builtins renaming bindParams->Sr
open PySem.Builtin.Dict renaming updateFrom->P5,selfAndRest->TU,addKeywords->TZ,pairItems->UB,keyAndDefault->Yx
open PySem.Builtin.List renaming listTooLong->QZ,listFitsIndex->Yw,listUpdate->ZL
open PySem.Builtin.Range renaming rangeSize->Uh
open PySem.Builtin.Slice renaming slicePlaces->Pt,sliceApplied->QC,sliceAdjust->QQ,slicePartIndex->XU,sliceFields->YX
open PySem.Builtin.Str renaming occurrences->ZK
open PySem.Builtin.Tuple renaming tupleExact->N5,tupleItemsOf->SU
open PySem.Calls renaming callWith_builtin->Rr,evalArgs_plain->R3,spliced_cons->SO,Name_function_global->SQ,call_function_entry->S_,spliced_nil->WU
open PySem.Challenge renaming rw_oathduel_k94_whole_papers_through_texts->NP,pw_oathduel_k94_whole_papers_through_texts->NQ
open PySem.Code renaming isFrame->WT,frames->aaL
open PySem.Data renaming fields->XG,cell->ZI
open PySem.DictEntry renaming refKey->ab3
open PySem.EqMixed renaming ne_str_bool->YT,ne_bool_str->YU,eq_str_bool->YV,eq_bool_str->YW,ne_str_int->Zm,ne_int_str->Zn,eq_str_int->Zo,eq_int_str->Zp
open PySem.EqNone renaming ne_none_none->YM,ne_none_bool->YN,ne_bool_none->YO,eq_none_none->YQ,eq_none_bool->YR,eq_bool_none->YS,ne_str_none->Ze,ne_none_str->Zf,ne_none_int->Zg,ne_int_none->Zh,eq_str_none->Zi,eq_none_str->Zj,eq_none_int->Zk,eq_int_none->Zl
open PySem.F renaming plainAttrs_list->ML,slot_list_append->Na,type_list_append->Ng,plainAttrs_str->NF,excBase_ValueError->NI,slot_dict_setdefault->Ot,slot_str_split->OE,args_dict_setdefault_3->OV,entry_dict_setdefault->O4,plain_max_loop->Pe,type_str_join->Pp,slot_str_join->Pq,args_tuple_add_2->PN,entry_tuple_add->P3,type_str_split->Qb,slot_tuple_add->Qc,slot_list_pop->QL,type_list_pop->RG,slot_list_index->RH,args_str_split_2->SN,entry_str_split->Tq,type_list_index->Ue,entry_max_loop->Ug,slot_list_insert->U3,slot_list_extend->U4,slot_list_count->Vl,kt_typeCall_dict_1->Vm,args_dict_init_2->Wi,entry_dict_init->WR,kt_called_dict->Xp
open PySem.Heap renaming get?_push_of_some->LP,lt_size->Mj,get?_push_size->MG,get?_update_other->M6,SameBut->PD,size_push->P0,get?_update_self->Qp,get?_none_of_le->R1,get?_push_ne->WQ,size_update->Xo,FlyingW->Z3,mk->abI
open PySem.Heap.DictOf renaming new->XT
open PySem.Heap.DictOfH renaming new->ab1
open PySem.Heap.IsSliceOf renaming new->abr
open PySem.Heap.SameBut renaming update->Sg
open PySem.Heap.UpToSlots renaming trans->aaJ
open PySem.IsL renaming update->ab0
open PySem.IsRange renaming new->aaI
open PySem.NameKind renaming cell->QY,free->Zc
open PySem.NumText renaming digitsVal->Ud
open PySem.Obj renaming mapSeq->Oh,data_mapDictKeys->Vj,data_mapFields->Wg,mapFields->Zb
open PySem.PassesOwn renaming never->M_
open PySem.PyData renaming eqv->MU,canLayAll0->MY,depthAll->NK,int->NV,none->Ox,eqvAll->Pc,strOk->PB,tuple->QK
open PySem.SeqAt renaming shaped->NJ,readOf->Sq,readsAll_map->Wd,items_eqAt->Xn,EqAt->abq
open PySem.SeqAt.EqAt renaming str_int->We,int_str->Wf,none_bool->aaD,bool_none->aaE,bool_bool->aaF,str_none->aaW,str_bool->aaX,none_str->aaY,none_int->aaZ,int_none->aa0,int_bool->aa1,bool_str->aa2,bool_int->aa3,str_str->abo,int_int->abp,same->ab7
open PySem.Shared renaming TypeIs->Za
open PySem.Str renaming ofString->G',join->QB,empty->QJ,length->abn,mk->acL
open PySem.StrLaws renaming glued_eq_join->RF,found_one->ZH
open PySem.Txt renaming split->Nq,join->NO,startswith->SJ,slice->Xm
open PySem.Value renaming ref->M',none->QA,int->Sw,type->SI,isInt_shape->Tp,str->Uc,bool->Wc,float->XF,isStrOf->Y',isInt->aaB,bytes->aaC
open PySem.W renaming Frag->K',nsIn->L_,mg_none_of->Mh,findIn->MV,boot_heap->N4,mg_of->Of,kia_one->Og,emptyDict->Oi,isFn->Oq,SharedT->Os,fnOf->OG,instObj->O6,hideAll->O7,hideAll_get->O9,kitOne->Pj,keepIn->Pk,excIn->Qm,plainGet->QI,boot_drawn->Q_,hasDictIn->Rp,fresh_of_stays->Rq,boot_toks->RO,OpenLaw->R0,plainGet_of->Sf,of_hideAll->SE,lookIn->SF,callWith_K->SG,through->Tj,plainOver->Tn,methodObj->To,cellsFrom_some->Uz,absHeap->UA,takerIn->US,makesIn->UT,methodCall_KW->U1,ke_canLayAll0->U2,hideAll_none->Vg,codeIn->Vh,topStub->VE,ke_depthAll->VL,kdu_collect->VM,stepOk->Wb,kitx_list->WM,kitx_dict->WN,kdl_dict->Xj,handedIn->Xk,WalkO->Xl,stepT->Yv,topRun->ZZ
open PySem.W.Fast renaming tw5923862056798008813->SH
open PySem.W.KIN renaming digit_back->Z0,signs_num->aah,call_text->aai,val_back->aaA
open PySem.W.Looks renaming here->abm
open PySem.W.WData renaming int->abZ
open PySem.W.WShape renaming has->abl
open PySem.Walks renaming list->Uy,range->aaz
open PySem.Within renaming cons->abH
open StateT renaming run_pure->XO
open Sum renaming inl->M5,inr->Qt
open Sum.inl renaming inj->Qz
open True renaming intro->OF
open _root_ renaming List->gV,Option->LH,decide_eq_false->LW,decide_eq_true->Ma,Bool->Md,if_neg->Mi,if_pos->Ml,of_decide_eq_true->My,decide_eq_true_iff->MQ,congrArg->M0,beq_eq_false_iff_ne->ND,Array->Ou,decide_eq_decide->OU,String->O3,DecidableEq->Pd,beq_iff_eq->Pf,of_decide_eq_false->P',ForInStep->Qo,if_false->Ri,if_true->Sk,getElem?_pos->Sl,StateT->TN,decide_eq_false_iff_not->T9,Unit->UZ,decide_eq_true_eq->WD,bne_self_eq_false->WE,beq_self_eq_true->Xe,or_false->Yg,bne_iff_ne->Yh,modify->ZX
namespace HD
open PySem PySem.W PySem.Calls PyProof.Rows
noncomputable def yh (sp:Os->RP->LH (Os×RP))(ok th:RP->Md)(n:Nat):Os->RP->LH Os:=
 @Nat.rec (λ_=>Os->RP->LH Os) (λ_ _=>LL)
  (λ_ ih s t=>@R6 (λ_=>LH Os)
   (@R6 (λ_=>LH Os) LL
    (@UJ (Os×RP) (λ_=>LH Os) LL
     (λr=>@aaN Os RP (λ_=>LH Os) (λs' t'=>@R6 (λ_=>LH Os) LL (ih s' t') (VG s'.toks 1000000000)) r) (sp s t)) (ok t))
   (A' s) (th t)) n
theorem wb{tb:O3->LH Builtin}{p:Mm}{w:MK}{n₀:Nat}{Y2:LH LF}:∀n s s' t,
  yh (Yv (V_ tb) p w) (Wb n₀ Y2) Tj n s t=A' s'->ZZ tb p w n₀ Y2 n s.abs t=A' s'.abs
 |0,s,s',t,h=>by cases h
 |n+1,s,s',t,h=>by
  have h:@R6 (λ_=>LH Os)
   (@R6 (λ_=>LH Os) LL
    (@UJ (Os×RP) (λ_=>LH Os) LL
     (λr=>@aaN Os RP (λ_=>LH Os) (λs' t'=>@R6 (λ_=>LH Os) LL (yh (Yv (V_ tb) p w) (Wb n₀ Y2) Tj n s' t') (VG s'.toks 1000000000)) r) (Yv (V_ tb) p w s t)) (Wb n₀ Y2 t))
   (A' s) (Tj t)=A' s':=h
  unfold ZZ;cases ht:Tj t with
  |true=>rw[ht]at h;cases h;rfl
  |false=>
   rw[ht]at h;cases hk:Wb n₀ Y2 t with
   |false=>rw[hk]at h;cases h
   |true=>
    rw[hk]at h;cases hs:Yv (V_ tb) p w s t with
    |none=>rw[hs]at h;cases h
    |some r=>
     obtain⟨s₂,t₂⟩:=r;rw[hs]at h;replace h:@R6 (λ_=>LH Os) LL (yh (Yv (V_ tb) p w) (Wb n₀ Y2) Tj n s₂ t₂) (VG s₂.toks 1000000000)=A' s':=h;rw[stepT_spec hs];cases hb:VG s₂.toks 1000000000 with
     |false=>rw[hb]at h;cases h
     |true=>rw[hb]at h;exact wb n _ _ _ h
noncomputable def p9 (l:gV Obj):BT->Nat->LH (BT×Nat):=
 @List.rec Obj (λ_=>BT->Nat->LH (BT×Nat)) (λT n=>A' (T,n))
  (λo _ ih T n=>@R6 (λ_=>LH<|BT×Nat) LL (ih (T.ins n o)<|n+1) (((T.ins n o).get n).isSome)) l
theorem oO:∀l T T' n n',p9 l T n=A' (T',n')->UA T' n' life=⟨(UA T n life).objs++l.toArray,life⟩
 |[],T,T',n,n',h=>by
  cases h;show UA T n life=abI ((UA T n life).objs++#[]) life
  rw[Array.append_empty];rfl
 |o::l,T,T',n,n',h=>by
  replace h:@R6 (λ_=>LH<|BT×Nat) LL (p9 l (T.ins n o)<|n+1) (((T.ins n o).get n).isSome)=A' (T',n'):=h;cases hb:((T.ins n o).get n).isSome with
  |false=>rw[hb]at h;cases h
  |true=>
   rw[hb]at h;rw[oO l _ _ _ _ h,absHeap_ins hb];show abI ((UA T n life).objs.push o++l.toArray) life=_
   congr 1
   apply Array.ext';simp
noncomputable def look {β:Type}(sp:Os->RP->LH (Os×RP))(ok th:RP->Md)(M:Nat)(os:VF)(P:Z1)(st:RP)(F:LR->β):LH β:=
 @UJ (BT×Nat) (λ_=>LH β) LL
  (λr=>@aaN BT Nat (λ_=>LH β) (λT n=>@UJ Os (λ_=>LH β) LL (λs=>A'<|F s.abs) (yh sp ok th M ⟨T,n,(N4 P).life,R7 [],Q_,RO,os⟩ st)) r)
  (p9 (N4 P).objs.toList .nil 0)
theorem D7{β:Type}{tb:O3->LH Builtin}{p:Mm}{w:MK}{n₀:Nat}{Y2:LH LF}{M:Nat}{os:VF}{F:LR->β}{b:β}
  (h:look (Yv (V_ tb) p w) (Wb n₀ Y2) Tj M os w.params (VE p) F=A' b):
  ∃s,ZZ tb p w n₀ Y2 M ⟨N4 w.params,R7 [],Q_,RO,os⟩ (VE p)=A' s/\F s=b:=by
 unfold look at h;cases hi:p9 (N4 w.params).objs.toList .nil 0 with
 |none=>rw[hi]at h;cases h
 |some r=>
  obtain⟨T,n⟩:=r;rw[hi]at h;replace h:@UJ Os (λ_=>LH β) LL (λs=>A'<|F s.abs) (yh (Yv (V_ tb) p w) (Wb n₀ Y2) Tj M ⟨T,n,(N4 w.params).life,R7 [],Q_,RO,os⟩<|VE p)=A' b:=h;cases hr:yh (Yv (V_ tb) p w) (Wb n₀ Y2) Tj M ⟨T,n,(N4 w.params).life,R7 [],Q_,RO,os⟩ (VE p)with
  |none=>rw[hr]at h;cases h
  |some s=>
   rw[hr]at h;have e:=oO (life:=(N4 w.params).life) _ _ _ _ _ hi;have e0:(UA .nil 0 (N4 w.params).life).objs=#[]:=rfl;rw[e0]at e;have e1:UA T n (N4 w.params).life=N4 w.params:=by
    rw[e];show abI (#[]++(N4 w.params).objs.toList.toArray) _=_
    rw[Array.empty_append]
   have hr':=wb _ _ _ _ hr;refine⟨s.abs,?_,MC h⟩;rw[<-hr'];show _=ZZ tb p w n₀ Y2 M ⟨UA T n (N4 w.params).life,R7 [],Q_,RO,os⟩ (VE p)
   rw[e1]
noncomputable def seenAt (p q:Mm)(loose:gV Str)(Xt:LR->Md)(g0:Md)(w:MK)(s:LR):=((staticsOk (SH p.main.body) (N4 w.params) s.heap&&namesBound p s.heap&&gensDone s&&laidKept (N4 w.params) s.heap),Fast.tw4187177175401517315 q loose (SH p.main.body) Xt g0 s)
noncomputable def lookAt {β:Type}(p:Mm)(m₀:Nat)(Y2:LH LF)(M:Nat)(w:MK)(os:VF)(F:LR->β):LH β:=
 look (Fast.tw10156331382660048174 (Fast.tw11892475500146522536 Fast.tw14364793385576792824) p w) (Fast.tw6613529449190102663 m₀ Y2) Tj M os w.params (VE p) F
theorem oQ{β:Type}{p:Mm}{m₀:Nat}{Y2:LH LF}{M:Nat}{w:MK}{os:VF}{F:LR->β}{b:β}(h:lookAt p m₀ Y2 M w os F=A' b):
  ∃s,ZZ ZD p w m₀ Y2 M ⟨N4 w.params,R7 [],Q_,RO,os⟩ (VE p)=A' s/\F s=b:=by
 unfold lookAt at h;rw[<-Fast.te10156331382660048174,<-Fast.te11892475500146522536,<-Fast.te14364793385576792824,<-Fast.te6613529449190102663]at h;exact D7 h
theorem left{p q:Mm}{loose:gV Str}{Xt:LR->Md}{α:Type}{Yf:LR->α}{Ya:MK->α}{N:Nat}{g0:Md}{m₀:Nat}{Y2:LH LF}{M:Nat}
  (e:opening p=plainProg p.main.scope.names) (f:∀s,fenceModules? p s=A' s) (hN:VG 600 N=LI) (le:VG M N=LI)
  (size:∀w:MK,((N4 w.params).isNs L7&&(R7 []:Ou aaK).size == 0,(N4 w.params).objs.size,(N4 w.params).nsMap L7 "__annotations__")=(LI,m₀,Y2))
  (h1:∀(w:MK) (os:VF),lookAt p m₀ Y2 M w os (seenAt p q loose Xt g0 w)=A' (LI,openGood q loose)) (h2:∀(w:MK) (os:VF),lookAt p m₀ Y2 M w os Yf=A' (Ya w)):
  LeftO p q loose Xt Yf Ya N g0:=λw=>by
 obtain⟨⟨h0,gs,d,k,os⟩,a,b⟩:=NW.mp<|boot_open e hN f w;obtain⟨rfl,rfl,rfl,rfl⟩:h0=N4 w.params/\gs=R7 []/\d=Q_/\k=RO:=by simpa using b
 obtain⟨z1,z2,z3⟩:_/\_/\_:=by simpa only [Zt]using size w
 obtain⟨s,r,l⟩:=oQ<|h1 w os;obtain⟨s',r',l3⟩:=oQ<|h2 w os;rw[r]at r';cases r';unfold seenAt at l;rw[<-Fast.te5923862056798008813,<-Fast.te4187177175401517315]at l;obtain⟨l1,l2⟩:_/\_:=by simpa only [Zt]using l
 have r:=topRun_mono (N - M) _ _ _ _ r;rw[show M+(N - M)=N by have:=U7 le;lia]at r;have t:topFrom ZD p w N ⟨N4 w.params,R7 [],Q_,RO,os⟩=A' s:=by
  unfold topFrom;dsimp only;rw[z1,z2,z3,r];show(match staticsOk (importedModules p.main.body) (N4 w.params) s.heap&&namesBound p s.heap&&gensDone s&&laidKept (N4 w.params) s.heap with|true=>_|false=>_)=_
  rw[l1]
 unfold openEnds;rw[a];show(topFrom ZD p w N _).map _=_
 rw[t];exact M0 A'<|acM l2 l3
theorem head{r:OpenRow}{q:Mm}{loose:gV Str}{lv:gV (Str×WData)}(H:Hook){d:DefRec}{kwd:gV (Str×Nt)}{N:Nat}
  (lf:LeftO r.prog q loose (λs=>xlAt q lv s&&recOk r.records s) H.obs H.val N) (ahT:defOf q r.name=A' (d,kwd)) (hp:r.prog.theDef r.name=A' (d.params,d.body,d.scope)) (hk:kwWritten? d.params.kwonlyargs d.params.kw_defaults=A' kwd)
  (hwr:(!r.writes || r.records.isEmpty)=LI) (k1:r.wellSaid=LI) (ok:(chainsOk q&&opensWell r.prog&&(frees r.toRowW&&r.within.isEmpty))=LI) (hb:r.prog.bare) (hw:r.toRowW.promised)
  (hc:Xl q loose (XL q lv) H.says r.toRowW d kwd λf vs=>V' f vs):r.Holds:=
 holds_open lf H.of H.keeps (λs e=>xl_of s (NU.mp e).1) XL.keeps ahT hp hk (λs e=>recFacts_of (NU.mp e).2) hwr k1 ok hb hw hc
end HD
section
open PySem PySem.W PySem.Calls PyProof.Rows
set_option maxRecDepth 100000
set_option maxHeartbeats 0
noncomputable def K94.vQ:Mm:=view NQ [1,2,3,4,5,6,8,9,10,12,13,14,15,16,17,18,19,20,22,23,24,25,26,27,28,29,30,31,32,33,34,35,36,38,39,40,41,43,44,45,46,47,48,49,50,51,52,53,55,56,57,58,59,60,62,63,64,65,66,68,69,70,71,72,73,74]
theorem K94.said:OpenLaw.wellSaid NP=true:=(congrFun Fast.te9446332074065402090 NP).trans (by kernel_rfl)
theorem K94.seen (w:MK)(os:VF):HD.lookAt NQ 11 (A' (.ref 6)) 3541 w os (HD.seenAt NQ K94.vQ [] (λs=>xlAt K94.vQ [] s&&recOk [] s) LI w)=A' (LI,openGood K94.vQ []):=by kernel_rfl
end
namespace L2
open PySem PySem.Spec PyProof.Rows
abbrev bo:=Sum Int Str
def nX:bo->LF->Md
 |.inl k,v=>aaB k v
 |.inr x,v=>Y' x v
def Kx(w:MK):bo->Int
 |.inl k=>hashInt k
 |.inr x=>hashStr w x
theorem ck:∀{k:bo} {v:LF},nX k v=LI->(∃i t,k=M5 i/\v=Sw i t)\/(∃x t,k=Qt x/\v=Uc x t)
 |.inl i,v,h=>by
  obtain⟨t,e⟩:=Tp (k:=i) (v:=v) h;exact .inl ⟨i,t,rfl,e⟩
 |.inr x,v,h=>by
  obtain⟨t,e⟩:=Value.isStrOf_shape (x:=x) (v:=v) h;exact .inr ⟨x,t,rfl,e⟩
theorem xC(i:Int)(t:Tok):nX (.inl i) (.int i t)=true:=by simp [nX,aaB]
theorem xD(x:Str)(t:Tok):nX (.inr x) (.str x t)=true:=by simp [nX,Y']
theorem Gk(a b:Int):decide ((M5 a:bo)=M5 b)=(a == b):=by
 by_cases e:a=b
 ·subst e;simp
 ·have h:¬(M5 a:bo)=M5 b:=λq=>e<|Qz q;rw[LW h];exact(ND.mpr e).symm
theorem Gm(a b:Str):decide ((Qt a:bo)=Qt b)=decide (a=b):=by
 by_cases e:a=b
 ·subst e;simp
 ·have h:¬(Qt a:bo)=Qt b:=λq=>e<|Sum.inr.inj q;rw[LW h,LW e]
theorem Gn(a:Int)(b:Str):decide ((M5 a:bo)=Qt b)=false:=LW (λq=>nomatch q)
theorem Gp(a:Str)(b:Int):decide ((Qt a:bo)=M5 b)=false:=LW (λq=>nomatch q)
def a_(prog:Mm)(w:MK):PySem.KeyKind prog w bo where
 is:=nX
 hash:=Kx w
 inj:=λv a b ha hb=>by
  rcases ck ha with⟨i,t,rfl,rfl⟩|⟨x,t,rfl,rfl⟩
  ·rcases ck hb with⟨j,u,rfl,e⟩|⟨y,u,rfl,e⟩
   ·injection e with e1 _;rw[e1]
   ·exact nomatch e
  ·rcases ck hb with⟨j,u,rfl,e⟩|⟨y,u,rfl,e⟩
   ·exact nomatch e
   ·injection e with e1 _;rw[e1]
 byValue:=λk v h=>by
  rcases ck h with⟨i,t,rfl,rfl⟩|⟨x,t,rfl,rfl⟩<;>rfl
 pyHash:=λhv h=>by
  rcases ck hv with⟨i,t,rfl,rfl⟩|⟨x,t,rfl,rfl⟩
  ·exact wpAny_pyHash_int h
  ·exact wpAny_pyHash_str h
 eqBool:=λhu hv h=>by
  rcases ck hu with⟨i,t,rfl,rfl⟩|⟨x,t,rfl,rfl⟩
  ·rcases ck hv with⟨j,u,rfl,rfl⟩|⟨y,u,rfl,rfl⟩
   ·rw[Gk]at h;exact wpAny_eqBool_int h
   ·rw[Gn]at h;exact Wf i t y u _ _ _ _ h
  ·rcases ck hv with⟨j,u,rfl,rfl⟩|⟨y,u,rfl,rfl⟩
   ·rw[Gp]at h;exact We x t j u _ _ _ _ h
   ·rw[Gm]at h;exact wpAny_eqBool_str h
 «strs»:=λk x t v h=>by
  rcases ck h with⟨i,u,rfl,e⟩|⟨y,u,rfl,e⟩
  ·exact nomatch e
  ·injection e with e1 _;subst e1;cases v<;>rfl
theorem qO(prog:Mm)(w:MK)(i:Int)(t:Tok):(a_ prog w).is (.inl i) (.int i t)=true:=xC i t
theorem qP(prog:Mm)(w:MK)(x:Str)(t:Tok):(a_ prog w).is (.inr x) (.str x t)=true:=xD x t
inductive V where
 |non|bl (b:Md)|int (i:Int)|str (x:Str)|byt (b:Ou UInt8)|flt (b:UInt64)|ref (a:LJ)|ty (n:O3)
 deriving Pd
def RelV:V->LF->Prop
 |.non,u=>u=QA
 |.bl b,u=>u=Wc b
 |.int i,u=>∃t,u=Sw i t
 |.str x,u=>∃t,u=Uc x t
 |.byt b,u=>∃t,u=aaC b t
 |.flt b,u=>∃t,u=XF b t
 |.ref a,u=>u=M' a
 |.ty n,u=>u=SI n
abbrev Vals:gV V->gV LF->Prop:=Paired RelV
theorem Vals.length(r:Vals xs us):xs.length=us.length:=Paired.length r
theorem Vals.get:∀{xs:gV V} {us:gV LF} {i:Nat} {x:V},Vals xs us->xs[i]? =A' x->∃u,us[i]? =A' u/\RelV x u
 |_,_,_,_,.nil,e=>by simp at e
 |_,_,0,_,.cons r _,e=>by simp at e;subst e;exact⟨_,rfl,r⟩
 |_,_,i+1,x,.cons _ t,e=>by
  obtain⟨u,h1,h2⟩:=Vals.get (i:=i) (x:=x) t (by simpa using e);exact⟨u,by simpa using h1,h2⟩
theorem Vals.append:∀{xs ys:gV V} {us ws:gV LF},Vals xs us->Vals ys ws->Vals (xs++ys) (us++ws)
 |_,_,_,_,.nil,s=>s
 |_,_,_,_,.cons r t,s=>.cons r<|Vals.append t s
theorem Vals.take:∀{xs:gV V} {us:gV LF} (n:Nat),Vals xs us->Vals (xs.take n) (us.take n)
 |_,_,0,_=>.nil
 |_,_,_+1,.nil=>.nil
 |_,_,n+1,.cons r t=>.cons r<|Vals.take n t
theorem Vals.drop:∀{xs:gV V} {us:gV LF} (n:Nat),Vals xs us->Vals (xs.drop n) (us.drop n)
 |_,_,0,r=>r
 |_,_,_+1,.nil=>.nil
 |_,_,n+1,.cons _ t=>Vals.drop n t
theorem Vals.none_of:∀{xs:gV V} {us:gV LF} {i:Nat},Vals xs us->xs[i]? =LL->us[i]? =none:=λ{xs us i} r e=>by
 have h1:=r.length;have h2:xs.length<=i:=Td.mp e;exact Td.mpr (by lia)
def RelO:LH V->LH LF->Prop
 |some v,A' u=>RelV v u
 |none,LL=>True
 |_,_=>False
def KV{κ:Type}:gV (κ×V)->gV (κ×LF)->Prop:=Paired λ(p:κ×V) (q:κ×LF)=>p.1=q.1/\RelV p.2 q.2
def kV:bo->V
 |.inl i=>.int i
 |.inr x=>.str x
inductive HO where
 |lst (xs:gV V)
 |tup (xs:gV V)
 |dK (kvs:gV (bo×V))|dT (kvs:gV (gV bo×V))
 |set (S:Int->Md) (n:Nat)
 |ins (C dx:LJ) (fs:gV (Str×V))
 |own (x:LJ)
 |xd (fs:gV (Str×V))
 |met (f x:LJ)
 |rng (lo hi:Int)
 |frz (o:Obj) (u:HO)
 |tbl (ps:Ou LF)
 |ext (φ:M8->Prop)
abbrev Hp:=LJ->LH HO
def upd(H:Hp)(a:LJ)(o:HO):Hp:=λb=>if b=a then A' o else H b
theorem ad:upd H a o a=A' o:=by unfold upd;rw[Ml rfl]
theorem al(h:b≠a):upd H a o b=H b:=by unfold upd;rw[Mi h]
theorem ee:upd (upd H a o) a u=upd H a u:=by
 funext b;unfold upd;split<;>rfl
theorem bR{H:Hp}(h:H a=A' o)(h':H b=A' u)(d:o≠u):a≠b:=by
 intro e;subst e;rw[h]at h';exact d<|MC h'
theorem ak{H:Hp}(h:H a=A' o)(h':H b=LL):a≠b:=by
 intro e;subst e;rw[h]at h';cases h'
section
variable (P:Mm)(w:MK)
def ObjOk(H:Hp)(h:M8)(a:LJ):HO->Prop
 |.lst xs=>xs.length<=sizeLine/\∃(NH:gV LF) (n:Nat),Vals xs NH/\h.get? a=A' {cls:=.type "list",data:=.seq NH.toArray n}
 |.tup xs=>xs.length<=sizeLine/\∃NH:gV LF,Vals xs NH/\aaM h a NH.toArray
 |.dK kvs=>kvs.length<=sizeLine/\(a == Ov)=LM/\∃vs,KV kvs vs/\h.DictOf (a_ P w) a vs
 |.dT kvs=>kvs.length<=sizeLine/\(a == Ov)=LM/\∃xs:gV (gV bo×LJ×LF),
   Paired (λ(p:gV bo×V) (q:gV bo×LJ×LF)=>p.1=q.1/\H q.2.1=A' (.tup<|p.1.map kV)/\RelV p.2 q.2.2) kvs xs/\
   ∃o es ep,h.get? a=A' o/\o.ExactDict/\o.data=.dict es ep/\es.toList=xs.map (entryOfKey<|Ob<|a_ P w)/\(xs.map (·.1)).Nodup
 |.set S n=>h.SetOf (intKind P w) a S n
 |.ins C dx fs=>H dx=A' (.own a)/\fs.length<=1000/\dx≠a/\h.get? a=A' (O6 C dx)/\
   ∃mA,h.Ns1 dx mA/\(∀f,RelO (fs.lookup f)<|mA f)/\WL mA (fs.map (·.1))
 |.own _=>∃o,h.get? a=A' o
 |.xd fs=>∃mA,h.Ns1 a mA/\∀f,RelO (fs.lookup f)<|mA f
 |.rng lo hi=>∃t u v,h.get? a=A' {cls:=.type "range",data:=.fields #[.int lo t,.int hi u,.int 1 v]}
 |.frz o u=>h.get? a=A' o/\ObjOk H h a u
 |.tbl ps=>h.get? a=A' {cls:=.none,data:=.fields ps}
 |.met f x=>h.get? a=A' (To (.ref f)<|.ref x)
 |.ext φ=>φ h/\(∃o,h.get? a=A' o)/\∀h1 h2:M8,φ h1->(∀o,h1.get? a=A' o->h2.get? a=A' o)->φ h2
def HOk(H:Hp)(h:M8):Prop:=∀a o,H a=A' o->ObjOk P w H h a o
end
section
variable {P:Mm}{w:MK}{H:Hp}{h:M8}{a:LJ}
theorem ObjOk.lt(x:ObjOk P w H h a o):a < h.objs.size:=by
 cases o with
 |lst xs=>obtain⟨_,_,_,_,e⟩:=x;exact Mj e
 |tup xs=>obtain⟨_,_,_,p⟩:=x;exact p.lt
 |dK kvs=>obtain⟨_,_,_,_,o,_,_,e,_⟩:=x;exact Mj e
 |dT kvs=>obtain⟨_,_,_,_,o,_,_,e,_⟩:=x;exact Mj e
 |set S n=>obtain⟨o,_,_,_,e,_⟩:=x;exact Mj e
 |ins C dx fs=>obtain⟨_,_,_,e,_⟩:=x;exact Mj e
 |own y=>obtain⟨_,e⟩:=x;exact Mj e
 |xd fs=>obtain⟨_,⟨_,_,_,e,_⟩,_⟩:=x;exact Mj e
 |rng lo hi=>obtain⟨_,_,_,e⟩:=x;exact Mj e
 |frz ob u=>obtain⟨e,_⟩:=x;exact Mj e
 |tbl ps=>exact Mj (show h.get? a=A' _ from x)
 |met f y=>exact Mj (show h.get? a=A' _ from x)
 |ext φ=>obtain⟨_,⟨_,e⟩,_⟩:=x;exact Mj e
theorem Paired.mapP{α β:Type}{F G:α->β->Prop}:∀{l₁:gV α} {l₂:gV β},Paired F l₁ l₂->(∀a b,F a b->G a b)->Paired G l₁ l₂
 |_,_,.nil,_=>.nil
 |_,_,.cons r t,f=>.cons (f _ _ r)<|Paired.mapP t f
theorem ObjOk.stay(x:ObjOk P w H h a o)(k:∀b u,(b=a\/H b=A' (.own a))->h.get? b=A' u->h'.get? b=A' u)
  (ho:∀b,H b=A' (.own a)->H' b=A' (.own a)) (ht:∀b xs,H b=A' (.tup xs)->H' b=A' (.tup xs)):ObjOk P w H' h' a o:=by
 induction o with
 |lst xs=>obtain⟨z,NH,n,r,e⟩:=x;exact⟨z,NH,n,r,k _ _ (.inl rfl) e⟩
 |tup xs=>obtain⟨z,NH,r,ob,e,c⟩:=x;exact⟨z,NH,r,ob,k _ _ (.inl rfl) e,c⟩
 |dK kvs=>obtain⟨z,y,vs,r,ob,es,ep,e,c⟩:=x;exact⟨z,y,vs,r,ob,es,ep,k _ _ (.inl rfl) e,c⟩
 |dT kvs=>
  obtain⟨z,y,xs,r,ob,es,ep,e,c⟩:=x;exact⟨z,y,xs,Paired.mapP r λp q z=>⟨z.1,ht _ _ z.2.1,z.2.2⟩,ob,es,ep,k _ _ (.inl rfl) e,c⟩
 |set S n=>obtain⟨ob,es,ep,t,e,c⟩:=x;exact⟨ob,es,ep,t,k _ _ (.inl rfl) e,c⟩
 |ins C dx fs=>
  obtain⟨d,z,ne,e,mA,⟨od,es,ep,e2,c⟩,r⟩:=x;exact⟨ho _ d,z,ne,k _ _ (.inl rfl) e,mA,⟨od,es,ep,k _ _ (.inr d) e2,c⟩,r⟩
 |own y=>obtain⟨ob,e⟩:=x;exact⟨ob,k _ _ (.inl rfl) e⟩
 |xd fs=>obtain⟨mA,⟨od,es,ep,e,c⟩,r⟩:=x;exact⟨mA,⟨od,es,ep,k _ _ (.inl rfl) e,c⟩,r⟩
 |rng lo hi=>obtain⟨t,u,v,e⟩:=x;exact⟨t,u,v,k _ _ (.inl rfl) e⟩
 |frz ob u ih=>obtain⟨e,q⟩:=x;exact⟨k _ _ (.inl rfl) e,ih q⟩
 |tbl ps=>
  have e:h.get? a=A' {cls:=.none,data:=.fields ps}:=x;show h'.get? a=A' {cls:=.none,data:=.fields ps}
  exact k a _ (.inl rfl) e
 |met f y=>
  have e:h.get? a=A' (To (.ref f)<|.ref y):=x;show h'.get? a=A' (To (.ref f)<|.ref y)
  exact k a _ (.inl rfl) e
 |ext φ=>obtain⟨p,⟨o,e⟩,st⟩:=x;exact⟨st _ _ p λo q=>k _ _ (.inl rfl) q,⟨o,k _ _ (.inl rfl) e⟩,st⟩
theorem HOk.lt(x:HOk P w H h)(e:H a=A' o):a < h.objs.size:=(x a o e).lt
theorem HOk.fresh(x:HOk P w H h)(e:h.objs.size<=a):H a=none:=by
 cases q:H a with
 |none=>rfl
 |some u=>exact absurd (Nb (x.lt q) e)<|Om _
theorem HOk.kept(x:HOk P w H h)(k:∀b u,h.get? b=A' u->h'.get? b=A' u):HOk P w H h':=λa o e=>
 (x a o e).stay (λb u _ q=>k b u q) (λ_ q=>q) λ_ _ q=>q
theorem HOk.laid{h':M8}{o:HO}(x:HOk P w H h)(k:∀b u,h.get? b=A' u->h'.get? b=A' u)(hp:h.objs.size<=a)(new:ObjOk P w (upd H a o) h' a o):HOk P w (upd H a o) h':=λb u e=>by
 have hn:=x.fresh hp;by_cases hb:b=a
 ·subst hb;rw[ad]at e;cases e;exact new
 ·rw[al hb]at e;exact(x b u e).stay (λc v _ q=>k c v q) (λc q=>by rw[al<|ak q hn];exact q) λc xs q=>by rw[al<|ak q hn];exact q
end
def Rd(H:Hp)(a:LJ)(u:HO):Prop:=H a=A' u\/∃o,H a=A' (.frz o u)
theorem Rd.ok(r:Rd H a u)(x:HOk P w H h):ObjOk P w H h a u:=by
 obtain r|⟨o,r⟩:=r
 ·exact x a u r
 ·obtain⟨_,q⟩:=x a _ r;exact q
def Ix:LH HO->Prop
 |some (.lst _)=>True
 |some (.dK _)=>True
 |some (.dT _)=>True
 |some (.set _ _)=>True
 |some (.ins _ _ _)=>True
 |some (.ext _)=>True
 |_=>False
theorem HOk.write(ok:HOk P w H h)(mu:Ix (H x))(he:e=x\/H e=A' (.own x))(k:∀b u,b≠e->h.get? b=A' u->h'.get? b=A' u)(heo:∃u,h'.get? e=A' u)
  (new:ObjOk P w (upd H x o') h' x o'):HOk P w (upd H x o') h':=λb u q=>by
 have aa5:∀c y,H c=A' (.own y)->c≠x:=λc y r z=>by subst z;rw[r]at mu;exact mu
 have ntup:∀c xs,H c=A' (.tup xs)->c≠x:=λc xs r z=>by subst z;rw[r]at mu;exact mu
 by_cases hb:b=x
 ·subst hb;rw[ad]at q;cases q;exact new
 ·rw[al hb]at q;by_cases hbe:b=e
  ·have q':H b=A' (.own x):=by
    obtain z|z:=he
    ·exact absurd (hbe.trans z) hb
    ·rw[hbe];exact z
   rw[q]at q';cases q';obtain⟨v,hv⟩:=heo;exact⟨v,by rw[hbe];exact hv⟩
  ·refine(ok b u q).stay (λc v hc r=>k c v ?_ r) (λc r=>by rw[al<|aa5 c b r];exact r) λc xs r=>by rw[al<|ntup c xs r];exact r
   obtain rfl|hc:=hc
   ·exact hbe
   ·rintro rfl;obtain z|z:=he
    ·exact aa5 c b hc z
    ·rw[hc]at z;cases z;exact hb rfl
structure Un (fs ex:gV LJ)(H H':Hp)(h h':M8):Prop where
 keep:∀b o,h.get? b=A' o->H b=LL->b∉fs->b∉ex->h'.get? b=A' o
 slot:∀b o,h.get? b=A' o->H b=LL->b∈fs->b∉ex->∃sl,h'.get? b=A' {o with slots:=sl}
 free:∀b o,h.get? b=A' o->H b=LL->b∉ex->H' b=LL
 there:∀b o,h.get? b=A' o->b∉ex->∃o',h'.get? b=A' o'
 tups:∀b xs,H b=A' (.tup xs)->H' b=A' (.tup xs)
 frzs:∀b o u,H b=A' (.frz o u)->H' b=A' (.frz o u)
 tbls:∀b ps,H b=A' (.tbl ps)->∃more,H' b=A' (.tbl<|ps++more)
theorem Un.any(u:Un fs ex H H1 h h1)(q:h.get? b=A' ob)(n:H b=LL)(hx:b∉ex):∃sl,h1.get? b=A' {ob with slots:=sl}:=by
 by_cases hb:b∈fs
 ·exact u.slot b ob q n hb hx
 ·exact⟨ob.slots,u.keep b ob q n hb hx⟩
theorem Un.kept(k:∀b u,h.get? b=A' u->h'.get? b=A' u):Un fs ex H H h h':=
 ⟨λb ob q _ _ _=>k b ob q,λb ob q _ _ _=>⟨ob.slots,k b ob q⟩,λ_ _ _ n _=>n,λb ob q _=>⟨ob,k b ob q⟩,λ_ _ q=>q,λ_ _ _ q=>q,λ_ ps q=>⟨#[],by rw[q];simp⟩⟩
theorem Un.refl:Un fs ex H H h h:=Un.kept λ_ _ q=>q
theorem Un.laid(k:∀b u,h.get? b=A' u->h'.get? b=A' u)(hp:h.objs.size<=a)(hn:H a=LL):Un fs ex H (upd H a o) h h' where
 keep:=λb u q _ _ _=>k b u q
 slot:=λb u q _ _ _=>⟨u.slots,k b u q⟩
 free:=λb u q n _=>by rw[al<|Mx<|Nb (Mj q) hp];exact n
 there:=λb u q _=>⟨u,k b u q⟩
 tups:=λb xs q=>by rw[al<|ak q hn];exact q
 frzs:=λb u xs q=>by rw[al<|ak q hn];exact q
 tbls:=λb ps q=>⟨#[],by rw[al<|ak q hn,q];simp⟩
theorem Un.write(mu:Ix (H x))(he:e=x\/H e=A' (.own x))(k:∀b u,b≠e->h.get? b=A' u->h'.get? b=A' u)(heo:∃u,h'.get? e=A' u):Un fs ex H (upd H x o) h h':=by
 have hx:∀b,H b=LL->b≠x:=λb n z=>by subst z;rw[n]at mu;exact mu
 have hb:∀b,H b=LL->b≠e:=λb n z=>by
  subst z;obtain r|r:=he
  ·exact hx b n r
  ·rw[n]at r;cases r
 have hm:∀b u,H b=A' u->¬Ix (A' u)->b≠x:=λb u q nm z=>by subst z;rw[q]at mu;exact nm mu
 refine⟨λb u q n _ _=>k b u (hb b n) q,λb u q n _ _=>⟨u.slots,k b u (hb b n) q⟩,λb u q n _=>by rw[al<|hx b n];exact n,λb u q _=>?_,
  λb xs q=>by rw[al<|hm b _ q λz=>z];exact q,λb u xs q=>by rw[al<|hm b _ q λz=>z];exact q,λb ps q=>⟨#[],by rw[al<|hm b _ q λz=>z,q];simp⟩⟩
 by_cases hbe:b=e
 ·subst hbe;exact heo
 ·exact⟨u,k b u hbe q⟩
def Kk(h:M8)(H:Hp):gV LJ:=(Nr h.objs.size).filter λa=>(H a).isSome
def pF(h:M8)(H:Hp):M8:=O7 h<|Kk h H
theorem xE(h:M8)(H:Hp):(pF h H).objs.size=h.objs.size:=PySem.W.hideAll_size _ _
theorem zc(e:h.get? b=A' o)(n:H b=LL):(pF h H).get? b=A' o:=
 O9 _ e λhm=>by
  have q:(H b).isSome=true:=(MP.mp hm).2;rw[n]at q;simp at q
theorem C8(e:(pF h H).get? b=A' o):h.get? b=A' o/\H b=none:=by
 have e':h.get? b=A' o:=SE (Kk h H) e;exists e';cases q:H b with
 |none=>rfl
 |some x=>
  have hm:b∈Kk h H:=MP.mpr ⟨P8.mpr<|Mj e',by simp [q]⟩;have z:(pF h H).get? b=none:=Vg (Kk h H) hm;rw[z]at e;cases e
structure Mod (K:K')(mg:Str->LH LF)(base:M8):Prop where
 kin:K.In base
 glob:base.Ns L7 mg
 blt:∃mb,base.Ns Ys mb/\∀x:Str,x≠"__name__"->mb x=Ro x
 nolimit:base.NoLimit
structure Cx where
 prog:Mm
 w:MK
 K:K'
 mg:Str->LH LF
 base:M8
 A:Nl
 N:gV Str
 s₀:LR
 H₀:Hp
 env:Env
 outer:gV Env
 stack:gV Env
 ex:gV LJ
 fn:Str->Md
 calm:Md
 pn:gV (LJ×Obj)
 xe:LF->LR->Prop
def iz(l:gV Env):gV LJ:=l.filterMap (·.frame)
abbrev Cx.fs(X:Cx):gV LJ:=iz X.outer
def Kl(sc:QP)(x:Str):Prop:=sc.names.lookup x=A' .local\/sc.names.lookup x=A' .cell\/sc.names.lookup x=A' .free
def Iy(sc:QP)(x:Str):Prop:=sc.names.lookup x=A' .local\/sc.names.lookup x=A' .cell
def Ky(env:Env)(h:M8)(m:Str->LH LF)(x:Str)(u:LF):Prop:=
 (env.kindOf x=A' .local/\m x=A' u)\/((env.kindOf x=A' .cell\/env.kindOf x=A' .free)/\∃c,env.cells.lookup x=A' c/\h.IsCell c (A' u))
structure Cx.Ok (X:Cx):Prop where
 mod:Mod X.K X.mg X.base
 kind:X.env.scope.kind=.function
 glob:X.env.globals=L7
 blt:X.env.builtins=Ys
 above:X.s₀.heap.objs.size<=X.env.locals
 inj:∀x y c,X.env.cells.lookup x=A' c->X.env.cells.lookup y=A' c->x=y
 has:∀x,(X.env.kindOf x=A' .cell\/X.env.kindOf x=A' .free)->∃c,X.env.cells.lookup x=A' c
 cab:∀x c,X.fn x=LI->X.env.cells.lookup x=A' c->X.s₀.heap.objs.size<=c
 hd:X.calm=LI->X.A.handled=LL
 frames:X.A.frames=A' X.stack
 stk:X.stack=X.outer\/(X.stack=X.env::X.outer/\X.env.frame=A' X.env.locals)
 exf:∀b∈X.ex,b≠X.env.locals/\∀x c,X.env.cells.lookup x=A' c->c≠b
 bs:∀b o,X.base.get? b=A' o->X.s₀.heap.get? b=A' o/\X.H₀ b=LL
 bsz:X.base.objs.size<=X.s₀.heap.objs.size
 noex:∀b o,X.base.get? b=A' o->b∉X.ex
 exfs:∀b∈X.ex,b∉X.fs
 funs:X.s₀.heap.FunFrames X.base X.outer
 frf:∀b∈X.fs,X.H₀ b=LL
structure Inv (X:Cx)(LO:gV (LJ×Obj))(σ:gV (LH V))(H:Hp)(s:LR):Prop where
 ok:X.Ok
 os:s.os=X.s₀.os
 bare:Ss s.gens
 base:Un X.fs X.ex X.H₀ H X.s₀.heap s.heap
 loc:∃m,s.heap.Ns X.env.locals m/\∀(i:Nat) (x:Str) (v:V),X.N[i]? =A' x->σ[i]? =A' (A' v)->Kl X.env.scope x->∃u,RelV v u/\Ky X.env s.heap m x u
 cell:∀x c,X.env.cells.lookup x=A' c->∃v,s.heap.IsCell c v
 free:H X.env.locals=LL
 freeC:∀x c,X.env.cells.lookup x=A' c->H c=LL
 pin:∀p∈X.pn++LO,s.heap.get? p.1=A' p.2/\H p.1=LL/\p.1≠X.env.locals/\p.1∉X.fs/\∀v,p.2.data≠.cell v
 hok:HOk X.prog X.w H s.heap
 len:σ.length=X.N.length
theorem Cx.Ok.nofr{X:Cx}(ok:X.Ok)(e:X.base.get? b=A' o):b∉X.fs:=λhb=>by
 have:=(ok.funs.mem hb).1;rw[e]at this;cases this
theorem Inv.bs(I:Inv X LO σ H s):∀b o,X.base.get? b=A' o->s.heap.get? b=A' o/\H b=none:=λb o e=>
 ⟨I.base.keep b o (I.ok.bs b o e).1 (I.ok.bs b o e).2 (I.ok.nofr e)<|I.ok.noex b o e,I.base.free b o (I.ok.bs b o e).1 (I.ok.bs b o e).2<|I.ok.noex b o e⟩
theorem Inv.bk(I:Inv X LO σ H s):∀b o,X.base.get? b=A' o->s.heap.get? b=A' o:=λb o e=>(I.bs b o e).1
theorem Inv.mod(I:Inv X LO σ H s):Mod X.K X.mg X.base:=I.ok.mod
theorem Inv.kIn(I:Inv X LO σ H s):X.K.In s.heap:=I.ok.mod.kin.keeps I.bk
theorem Inv.lt(I:Inv X LO σ H s):X.env.locals < s.heap.objs.size:=let ⟨_,hn,_⟩:=I.loc;hn.lt
theorem Inv.sz(I:Inv X LO σ H s):X.s₀.heap.objs.size<=s.heap.objs.size:=MD I.ok.above<|Nx I.lt
theorem Inv.nofs(I:Inv X LO σ H s){a:LJ}(h:s.heap.objs.size<=a):a∉X.fs:=λhb=>by
 obtain⟨_,o,ho,_⟩:=I.ok.funs.mem hb;exact absurd (Nb (Mj ho)<|MD I.sz h)<|Om _
theorem Inv.cne(I:Inv X LO σ H s):∀x c,X.env.cells.lookup x=A' c->c≠X.env.locals:=λx c e z=>by
 obtain⟨v,o,ho,hd⟩:=I.cell x c e;obtain⟨m,⟨o',es,ep,ho',hd',_⟩,_⟩:=I.loc;rw[z,ho']at ho;cases ho;rw[hd']at hd;cases hd
theorem Inv.funs(I:Inv X LO σ H s):s.heap.FunFrames X.base X.outer:=by
 have all:∀l,(∀b∈iz l,b∈X.fs)->X.s₀.heap.FunFrames X.base l->s.heap.FunFrames X.base l:=by
  intro l
  induction l with
  |nil=>intro _ _;trivial
  |cons env r ih=>
   intro hs hl;obtain⟨hk,⟨L,o,hf,hn,ho,hd⟩,hr⟩:=hl;have hL:L∈X.fs:=hs L (by unfold iz;rw[ON,hf];exact L9);obtain⟨sl,e⟩:=I.base.slot L o ho (I.ok.frf L hL) hL λz=>I.ok.exfs L z hL;exact⟨hk,⟨L,_,hf,hn,e,hd⟩,ih (λb hb=>hs b<|by unfold iz;rw[ON,hf];exact LY _ hb) hr⟩
 exact all X.outer (λ_ hb=>hb) I.ok.funs
theorem Inv.stack(I:Inv X LO σ H s):s.heap.FunFrames X.base X.stack:=by
 obtain e|⟨e,hf⟩:=I.ok.stk
 ·rw[e];exact I.funs
 ·rw[e];obtain⟨m,hn,_⟩:=I.loc;refine .cons (by rw[I.ok.kind];decide) hf hn ?_ I.funs;exact R1<|MD I.ok.bsz I.ok.above
theorem Inv.stkSub(I:Inv X LO σ H s):∀b∈iz X.stack,b∈X.env.locals::X.fs:=λb hb=>by
 obtain e|⟨e,hf⟩:=I.ok.stk
 ·rw[e]at hb;exact LY _ hb
 ·rw[e]at hb;unfold iz at hb;rw[ON,hf]at hb;exact hb
theorem Inv.stkFree(I:Inv X LO σ H s):∀b∈iz X.stack,H b=none:=λb hb=>by
 obtain e|hb:=Mn.mp (I.stkSub b hb)
 ·rw[e];exact I.free
 ·obtain⟨_,o,ho,_⟩:=I.ok.funs.mem hb;exact I.base.free b o ho (I.ok.frf b hb) λz=>I.ok.exfs b z hb
theorem Inv.step{g':Ou aaK}{t':Nat}{d':Drawn}{ch:gV LJ}(I:Inv X LO σ H s)
  (YL:∀b∈ch,(b∈X.ex\/X.s₀.heap.objs.size<=b)/\b≠X.env.locals/\(∀x c,X.env.cells.lookup x=A' c->c≠b)/\∀p∈X.pn++LO,p.1≠b)
  (keep:∀b o,b≠X.env.locals->b∉X.fs->b∉ch->s.heap.get? b=A' o->H b=LL->h'.get? b=A' o)
  (slot:∀b o,b≠X.env.locals->b∈X.fs->b∉ch->s.heap.get? b=A' o->H b=LL->∃sl,h'.get? b=A' {o with slots:=sl}) (free:∀b o,b∉ch->s.heap.get? b=A' o->H b=LL->H' b=LL)
  (there:∀b o,b∉ch->s.heap.get? b=A' o->∃o',h'.get? b=A' o')
  (tups:∀b xs,H b=A' (.tup xs)->H' b=A' (.tup xs)) (frzs:∀b o u,H b=A' (.frz o u)->H' b=A' (.frz o u)) (tbls:∀b ps,H b=A' (.tbl ps)->∃more,H' b=A' (.tbl<|ps++more))
  (ns:∀m,s.heap.Ns X.env.locals m->h'.Ns X.env.locals m) (hok:HOk X.prog X.w H' h') (hg:Ss g'):
  Inv X LO σ H' {s with heap:=h',gens:=g',drawn:=d',toks:=t'}:=by
 have neL:∀b o,X.s₀.heap.get? b=A' o->b≠X.env.locals:=λb o e=>Mx<|Nb (Mj e) I.ok.above;have neC:∀b o,X.s₀.heap.get? b=A' o->b∉X.ex->b∉ch:=λb o e hx hb=>by
  obtain z|z:=(YL b hb).1
  ·exact hx z
  ·exact absurd (Nb (Mj e) z)<|Om _
 have adF:∀x c,X.env.cells.lookup x=A' c->∀v,s.heap.IsCell c v->h'.IsCell c v:=λx c e v ⟨o,ho,hd⟩=>by
  have nch:c∉ch:=λz=>(YL c z).2.2.1 x c e rfl;by_cases hc:c∈X.fs
  ·obtain⟨sl,q⟩:=slot c o (I.cne x c e) hc nch ho<|I.freeC x c e;exact⟨_,q,hd⟩
  ·exact⟨o,keep c o (I.cne x c e) hc nch ho<|I.freeC x c e,hd⟩
 refine⟨I.ok,I.os,hg,⟨λb o e n hb hx=>?_,λb o e n hb hx=>?_,λb o e n hx=>?_,λb o e hx=>?_,λb xs e=>tups b xs<|I.base.tups b xs e,λb o xs e=>frzs b o xs<|I.base.frzs b o xs e,λb ps e=>?_⟩,?_,λx c e=>?_,?_,λx c e=>?_,λp hp=>?_,hok,I.len⟩
 ·exact keep b o (neL b o e) hb (neC b o e hx) (I.base.keep b o e n hb hx)<|I.base.free b o e n hx
 ·obtain⟨sl,e1⟩:=I.base.slot b o e n hb hx;obtain⟨sl',e2⟩:=slot b _ (neL b o e) hb (neC b o e hx) e1<|I.base.free b o e n hx;exact⟨sl',e2⟩
 ·obtain⟨o',e1⟩:=I.base.there b o e hx;exact free b o' (neC b o e hx) e1<|I.base.free b o e n hx
 ·obtain⟨o',e1⟩:=I.base.there b o e hx;exact there b o' (neC b o e hx) e1
 ·obtain⟨m1,e1⟩:=I.base.tbls b ps e;obtain⟨m2,e2⟩:=tbls b _ e1;exact⟨m1++m2,by rw[e2,S5]⟩
 ·obtain⟨m,hn,hl⟩:=I.loc;refine⟨m,ns m hn,λi x v e1 e2 e3=>?_⟩;obtain⟨u,r,l⟩:=hl i x v e1 e2 e3;exists u,r;obtain l|⟨k,c,e,z⟩:=l
  ·exact .inl l
  ·exact .inr ⟨k,c,e,adF x c e _ z⟩
 ·obtain⟨v,z⟩:=I.cell x c e;exact⟨v,adF x c e v z⟩
 ·obtain⟨m,⟨o,_,_,ho,_⟩,_⟩:=I.loc;exact free _ o (λz=>(YL _ z).2.1 rfl) ho I.free
 ·obtain⟨v,o,ho,hd⟩:=I.cell x c e;exact free c o (λz=>(YL c z).2.2.1 x c e rfl) ho<|I.freeC x c e
 ·obtain⟨e,n,ne,nf,d⟩:=I.pin p hp;have nch:p.1∉ch:=λz=>(YL p.1 z).2.2.2 p hp rfl;exact⟨keep p.1 p.2 ne nf nch e n,free p.1 p.2 nch e n,ne,nf,d⟩
theorem Inv.un(I:Inv X LO σ H s)(u:Un X.fs [] H H' s.heap h')(hok:HOk X.prog X.w H' h'):Inv X LO σ H' {s with heap:=h',toks:=t'}:=by
 obtain⟨m,⟨o,es,ep,ho,r⟩,_⟩:=id I.loc;obtain⟨sl,hL⟩:=u.any ho I.free (by simp);exact I.step (g':=s.gens) (d':=s.drawn) (ch:=[]) (λ_ z=>nomatch z) (λb o _ hb _ e n=>u.keep b o e n hb<|by simp) (λb o _ hb _ e n=>u.slot b o e n hb<|by simp) (λb o _ e n=>u.free b o e n<|by simp) (λb o _ e=>u.there b o e<|by simp) u.tups u.frzs u.tbls (λm' hm=>by
  obtain⟨o',es',ep',ho',r'⟩:=hm;rw[ho]at ho';cases ho';exact⟨_,es',ep',hL,r'⟩) hok I.bare
theorem Inv.call{t':Nat}{d':Drawn}(I:Inv X LO σ H s)(u:Un (iz X.stack) ch H H' s.heap h')(hok:HOk X.prog X.w H' h')(hg:Ss g')
  (YL:∀b∈ch,(b∈X.ex\/X.s₀.heap.objs.size<=b)/\b≠X.env.locals/\(∀x c,X.env.cells.lookup x=A' c->c≠b)/\∀p∈X.pn++LO,p.1≠b):
  Inv X LO σ H' {s with heap:=h',gens:=g',drawn:=d',toks:=t'}:=by
 obtain⟨m,⟨o,es,ep,ho,r⟩,_⟩:=id I.loc;obtain⟨sl,hL⟩:=u.any ho I.free λz=>(YL _ z).2.1 rfl;exact I.step (ch:=ch) YL (λb o hL hb hc e n=>u.keep b o e n (λz=>(Mn.mp<|I.stkSub b z).elim hL hb) hc) (λb o _ _ hc e n=>u.any e n hc) (λb o hc e n=>u.free b o e n hc) (λb o hc e=>u.there b o e hc) u.tups u.frzs u.tbls (λm' hm=>by
  obtain⟨o',es',ep',ho',r'⟩:=hm;rw[ho]at ho';cases ho';exact⟨_,es',ep',hL,r'⟩) hok hg
theorem Inv.turned{t':Nat}(I:Inv X LO σ H s)(k:∀b o,b≠it->s.heap.get? b=A' o->h'.get? b=A' o)(hn:H it=LL)(hL:it≠X.env.locals)
  (h1:it∈X.ex\/X.s₀.heap.objs.size<=it) (h2:∀x c,X.env.cells.lookup x=A' c->c≠it) (h3:∀p∈X.pn++LO,p.1≠it):Inv X LO σ H {s with heap:=h',toks:=t'}:=by
 have nit:∀b u,H b=A' u->b≠it:=λb u e z=>by rw[z,hn]at e;cases e
 refine I.step (g':=s.gens) (d':=s.drawn) (ch:=[it]) (λb hb=>?_) (λb o _ _ hc e _=>k b o (λz=>hc<|by simp [z]) e) (λb o _ _ hc e _=>⟨o.slots,k b o (λz=>hc<|by simp [z]) e⟩) (λ_ _ _ _ n=>n)
  (λb o hc e=>⟨o,k b o (λz=>hc<|by simp [z]) e⟩) (λ_ _ e=>e) (λ_ _ _ e=>e) (λb ps e=>⟨#[],by rw[e];simp⟩) (λm hm=>?_) (λb u e=>?_) I.bare
 ·have e:b=it:=by simpa using hb
  subst e;exact⟨h1,hL,h2,h3⟩
 ·obtain⟨o,es,ep,ho,r⟩:=hm;exact⟨o,es,ep,k _ o (NC hL) ho,r⟩
 ·refine(I.hok b u e).stay (λc v hc q=>k c v ?_ q) (λ_ q=>q) λ_ _ q=>q;obtain z|z:=hc
  ·rw[z];exact nit b u e
  ·exact nit c _ z
theorem Inv.tok(I:Inv X LO σ H s)(t:Nat):Inv X LO σ H {s with toks:=t}:=I.un (h':=s.heap) (t':=t) Un.refl I.hok
theorem Inv.kept(I:Inv X LO σ H s)(k:∀b u,s.heap.get? b=A' u->h'.get? b=A' u):Inv X LO σ H {s with heap:=h',toks:=t'}:=I.un (Un.kept k)<|I.hok.kept k
theorem Inv.laid{a:LJ}{o:HO}{t':Nat}(I:Inv X LO σ H s)(k:∀b u,s.heap.get? b=A' u->h'.get? b=A' u)(hp:s.heap.objs.size<=a)(new:ObjOk X.prog X.w (upd H a o) h' a o):
  Inv X LO σ (upd H a o) {s with heap:=h',toks:=t'}:=I.un (Un.laid k hp<|I.hok.fresh hp)<|I.hok.laid k hp new
theorem Inv.write{o:HO}{t':Nat}(I:Inv X LO σ H s)(mu:Ix (H x))(he:e=x\/H e=A' (.own x))(k:∀b u,b≠e->s.heap.get? b=A' u->h'.get? b=A' u)(heo:∃u,h'.get? e=A' u)
  (new:ObjOk X.prog X.w (upd H x o) h' x o):Inv X LO σ (upd H x o) {s with heap:=h',toks:=t'}:=I.un (Un.write mu he k heo)<|I.hok.write mu he k heo new
theorem Inv.pins_of(I:Inv X LO σ H s)(h:∀p∈Zw,s.heap.get? p.1=A' p.2/\H p.1=LL/\p.1≠X.env.locals/\p.1∉X.fs/\∀v,p.2.data≠.cell v):Inv X Zw σ H s:=
 ⟨I.ok,I.os,I.bare,I.base,I.loc,I.cell,I.free,I.freeC,λp hp=>(Mt.mp hp).elim (λz=>I.pin p<|OA _ z)<|h p,I.hok,I.len⟩
theorem qQ{N:gV Str}(hN:N.Nodup){i j:Nat}{x:Str}(a:N[i]? =A' x) (b:N[j]? =A' x):i=j:=by
 obtain⟨h1,e1⟩:=LS.mp a;obtain⟨h2,e2⟩:=LS.mp b;exact(List.getElem_inj hN).mp<|e1.trans e2.symm
theorem nY{M:aaH}{A:Nl}{E:LF->LR->Prop}{Q:UZ->LR->Prop}(I:Inv X LO σ H s)(hN:X.N.Nodup)(hi:X.N[i]? =A' x)(hx:Iy X.env.scope x)(r:RelV v u)
  (h:∀s',Inv X LO (σ.set i<|A' v) H s'->(∃a,PD a s.heap s'.heap/\(a=X.env.locals\/X.env.cells.lookup x=A' a))->Q () s') (hf:X.fn x=LI\/X.env.scope.names.lookup x=A' .local:=by first|exact .inl rfl|exact .inr rfl|assumption):wpAny M A (ZE X.env x u) Q E s:=by
 obtain⟨m,hn,hl⟩:=id I.loc;have ahX:(X.env.scope.kind == .class || (X.env.scope.kind == .module&&X.env.locals != X.env.globals))=false:=by rw[I.ok.kind];rfl
 have hiσ:i < σ.length:=by rw[I.len];exact(LS.mp hi).1
 have cne:=I.cne;have abv:∀{a:LJ} {h':M8},(∃o,s.heap.get? a=A' o/\H a=LL)->PD a s.heap h'->HOk X.prog X.w H h':=λ{a h'} ha hs b ob e=>by
  obtain⟨_,_,adz⟩:=ha;refine(I.hok b ob e).stay (λc w' hc q=>(hs.2 c ?_).trans q) (λ_ q=>q) λ_ _ q=>q;rintro rfl;obtain rfl|hc:=hc
  ·rw[adz]at e;cases e
  ·rw[adz]at hc;cases hc
 obtain hk|hk:=hx
 ·refine wpAny_storeName_local hk hn (λh' hn' hs=>?_) ahX;obtain⟨oL,_,_,hoL,_⟩:=id hn;refine h _ ⟨I.ok,I.os,I.bare,⟨λb o e n hb hx=>?_,λb o e n hb hx=>?_,I.base.free,λb o e hx=>?_,I.base.tups,I.base.frzs,I.base.tbls⟩,⟨_,hn',λj y v' e1 e2 e3=>?_⟩,λy c e=>?_,I.free,I.freeC,λp hp=>?_,abv ⟨oL,hoL,I.free⟩ hs,by simpa using I.len⟩ ⟨_,hs,.inl rfl⟩
  ·exact(hs.2 b<|Mx<|Nb (Mj e) I.ok.above).trans<|I.base.keep b o e n hb hx
  ·obtain⟨sl,e1⟩:=I.base.slot b o e n hb hx;exact⟨sl,(hs.2 b<|Mx<|Nb (Mj e) I.ok.above).trans e1⟩
  ·obtain⟨o',e1⟩:=I.base.there b o e hx;exact⟨o',(hs.2 b<|Mx<|Nb (Mj e) I.ok.above).trans e1⟩
  ·by_cases hj:j=i
   ·subst hj;rw[hi]at e1;cases e1;rw[UP hiσ]at e2;cases e2;exact⟨u,r,.inl ⟨hk,by simp⟩⟩
   ·rw[Vw<|NC hj]at e2;obtain⟨u',r',q⟩:=hl j y v' e1 e2 e3;exists u',r';obtain⟨k,e⟩|⟨k,c,e,z⟩:=q
    ·refine .inl ⟨k,?_⟩;have:y≠x:=λe=>hj<|qQ hN e1<|e▸hi;simp [this,e]
    ·exact .inr ⟨k,c,e,z.sameBut hs<|cne y c e⟩
  ·obtain⟨w',z⟩:=I.cell y c e;exact⟨w',z.sameBut hs<|cne y c e⟩
  ·obtain⟨e,n,ne,nf,d⟩:=I.pin p hp;exact⟨(hs.2 p.1 ne).trans e,n,ne,nf,d⟩
 ·have hfn:X.fn x=true:=by
   obtain z|z:=hf
   ·exact z
   ·rw[z]at hk;cases hk
  obtain⟨c,hc⟩:=I.ok.has x<|.inl hk;obtain⟨w',z⟩:=I.cell x c hc;refine wpAny_storeName_cell I.ok.kind hk hc z λh' hc' hs=>?_;obtain⟨oc,hoc,ahx⟩:=id z;refine h {s with heap:=h'} ⟨I.ok,I.os,I.bare,⟨λb o e n hb hx=>?_,λb o e n hb hx=>?_,I.base.free,λb o e hx=>?_,I.base.tups,I.base.frzs,I.base.tbls⟩,⟨m,hn.sameBut hs<|NC<|cne x c hc,λj y v' e1 e2 e3=>?_⟩,λy c' e=>?_,I.free,I.freeC,λp hp=>?_,abv ⟨oc,hoc,I.freeC x c hc⟩ hs,by simpa using I.len⟩ ⟨c,hs,.inr hc⟩
  ·exact(hs.2 b<|Mx<|Nb (Mj e)<|I.ok.cab x c hfn hc).trans<|I.base.keep b o e n hb hx
  ·obtain⟨sl,e1⟩:=I.base.slot b o e n hb hx;exact⟨sl,(hs.2 b<|Mx<|Nb (Mj e)<|I.ok.cab x c hfn hc).trans e1⟩
  ·obtain⟨o',e1⟩:=I.base.there b o e hx;exact⟨o',(hs.2 b<|Mx<|Nb (Mj e)<|I.ok.cab x c hfn hc).trans e1⟩
  ·by_cases hj:j=i
   ·subst hj;rw[hi]at e1;cases e1;rw[UP hiσ]at e2;cases e2;exact⟨u,r,.inr ⟨.inl hk,c,hc,hc'⟩⟩
   ·rw[Vw<|NC hj]at e2;obtain⟨u',r',q⟩:=hl j y v' e1 e2 e3;exists u',r';obtain q|⟨k,c',e,z'⟩:=q
    ·exact .inl q
    ·refine .inr ⟨k,c',e,z'.sameBut hs ?_⟩;rintro rfl;exact hj<|qQ hN e1<|I.ok.inj _ _ _ e hc▸hi
  ·by_cases hcc:c'=c
   ·subst hcc;exact⟨_,hc'⟩
   ·obtain⟨w2,z2⟩:=I.cell y c' e;exact⟨w2,z2.sameBut hs hcc⟩
  ·obtain⟨e,n,ne,nf,d⟩:=I.pin p hp;refine⟨(hs.2 p.1 ?_).trans e,n,ne,nf,d⟩;intro q;rw[q,hoc]at e;have q':oc=p.2:=MC e;exact d w' (by rw[<-q'];exact ahx)
theorem lP{M:aaH}{A:Nl}{E:LF->LR->Prop}{Q:UZ->LR->Prop}(I:Inv X LO σ H s)(hN:X.N.Nodup)(hi:X.N[i]? =A' x)(hx:Iy X.env.scope x)(r:RelV v u)
  (h:∀s',Inv X LO (σ.set i<|A' v) H s'->Q () s') (hf:X.fn x=LI\/X.env.scope.names.lookup x=A' .local:=by first|exact .inl rfl|exact .inr rfl|assumption):wpAny M A (ZE X.env x u) Q E s:=
 nY I hN hi hx r (λs' I' _=>h s' I') hf
theorem Inv.call'(I:Inv X LO σ H s)(ho:s'.os=s.os)(u:Un (iz X.stack) ch H H' s.heap s'.heap)(hok:HOk X.prog X.w H' s'.heap)(hg:Ss s'.gens)
  (YL:∀b∈ch,(b∈X.ex\/X.s₀.heap.objs.size<=b)/\b≠X.env.locals/\(∀x c,X.env.cells.lookup x=A' c->c≠b)/\∀p∈X.pn++LO,p.1≠b):Inv X LO σ H' s':=by
 obtain⟨h',g',d',t',o'⟩:=s';have e:o'=s.os:=ho;subst e;exact I.call (g':=g') (t':=t') (d':=d') u hok hg YL
abbrev XK:=LF->LH LJ->Hp->Prop
abbrev St:=gV<|LH V
abbrev VK:=V->Hp->Prop
abbrev TE:=St->Hp->VK->Prop
abbrev TT:=St->Hp->(Md->Hp->Prop)->Prop
abbrev TA:=St->Hp->(gV V->Hp->Prop)->Prop
structure jO where
 nx:St->Hp->Prop
 rt:VK
 bk:St->Hp->Prop:=λ_ _=>False
 ct:St->Hp->Prop:=λ_ _=>False
abbrev TS:=jO->St->Hp->Prop
def EP(X:Cx)(LO:gV (LJ×Obj))(σ:St)(Q:VK)(u:LF)(s':LR):Prop:=∃v H',Inv X LO σ H' s'/\RelV v u/\Q v H'
def TP(X:Cx)(LO:gV (LJ×Obj))(σ:St)(Q:Md->Hp->Prop)(b:Md)(s':LR):Prop:=∃H',Inv X LO σ H' s'/\Q b H'
def AP(X:Cx)(LO:gV (LJ×Obj))(σ:St)(Q:gV V->Hp->Prop)(us:gV LF)(s':LR):Prop:=∃vs H',Inv X LO σ H' s'/\Vals vs us/\Q vs H'
def SP(X:Cx)(LO:gV (LJ×Obj))(D:jO)(f:Flow)(s':LR):Prop:=
 match f with
 |.next=>∃σ' H',Inv X LO σ' H' s'/\D.nx σ' H'
 |.brk=>∃σ' H',Inv X LO σ' H' s'/\D.bk σ' H'
 |.cont=>∃σ' H',Inv X LO σ' H' s'/\D.ct σ' H'
 |.ret u=>∃v σ' H',Inv X LO σ' H' s'/\RelV v u/\D.rt v H'
def PE(X:Cx)(e:Nt)(t:TE):Prop:=
 ∀(LO:gV (LJ×Obj)) (s:LR) (σ:St) (H:Hp) (Q:VK),Inv X LO σ H s->t σ H Q->wpAny (MB X.prog X.w) X.A (Oj e X.env) (EP X LO σ Q) X.xe s
def PT(X:Cx)(e:Nt)(t:TT):Prop:=
 ∀(LO:gV (LJ×Obj)) (s:LR) (σ:St) (H:Hp) (Q:Md->Hp->Prop),Inv X LO σ H s->t σ H Q->wpAny (MB X.prog X.w) X.A (isTrue e X.env<|Oj e X.env) (TP X LO σ Q) X.xe s
def PW(X:Cx)(e:Nt)(t:TT):Prop:=
 ∀(VS:Sem LF) (LO:gV (LJ×Obj)) (s:LR) (σ:St) (H:Hp) (Q:Md->Hp->Prop),Inv X LO σ H s->t σ H Q->wpAny (MB X.prog X.w) X.A (isTrue e X.env VS) (TP X LO σ Q) X.xe s
theorem PW.pt(h:PW X e t):PT X e t:=h _
def PA(X:Cx)(es:gV Nt)(t:TA):Prop:=
 ∀(pos:Pos) (LO:gV (LJ×Obj)) (s:LR) (σ:St) (H:Hp) (Q:gV V->Hp->Prop),Inv X LO σ H s->t σ H Q->wpAny (MB X.prog X.w) X.A (spliced<|O_ pos<|MT es X.env) (AP X LO σ Q) X.xe s
def PS(X:Cx)(st:NN)(t:TS):Prop:=
 ∀(LO:gV (LJ×Obj)) (s:LR) (σ:St) (H:Hp) (D:jO),Inv X LO σ H s->t D σ H->wpAny (MB X.prog X.w) X.A (exec st X.env) (SP X LO D) X.xe s
def PSs(X:Cx)(st:gV NN)(t:TS):Prop:=
 ∀(LO:gV (LJ×Obj)) (s:LR) (σ:St) (H:Hp) (D:jO),Inv X LO σ H s->t D σ H->wpAny (MB X.prog X.w) X.A (execs st X.env) (SP X LO D) X.xe s
theorem bG{α:Type}{t:Sem α}{Q Q':α->LR->Prop}{M:aaH}{A:Nl}{E:LF->LR->Prop}{s:LR}(h:wpAny M A t Q E s)(hQ:∀a s,Q a s->Q' a s):wpAny M A t Q' E s:=Nv h hQ λ_ _ x=>x
inductive E1 (i:Nat)(σ:St)(H:Hp)(Q:VK):Prop
 |mk (v:V)(h:σ[i]? =A' (A' v)) (q:Q v H):E1 i σ H Q
def gZ(i:Nat):TE:=λσ H Q=>E1 i σ H Q
def tC(v:V):TE:=λ_ H Q=>Q v H
theorem Gq{X:Cx}{i:Nat}{x:Str}{pos:Pos}(hN:X.N[i]? =A' x) (hv:Kl X.env.scope x) (hd:(x == ("__debug__":Str))=false:=by decide) (hcd:(x == ("__classdict__":Str))=false:=by decide):PE X (.Name x pos) (gZ i):=by
 intro LO s σ H Q I h;obtain⟨v,e,h⟩:=h;obtain⟨m,hn,hl⟩:=I.loc;obtain⟨u,r,l⟩:=hl i x v hN e hv;have S6:EP X LO σ Q u s:=⟨v,H,I,r,h⟩;obtain⟨hk,hm⟩|⟨hk,c,hc,ZA⟩:=l
 ·exact Yk (Vc I.ok.kind hk hn hm S6) hd
 ·obtain hk|hk:=hk
  ·exact Yk (VI I.ok.kind hk hc ZA S6) hd
  ·exact Yk (wpAny_loadName_free I.ok.kind hk hc ZA S6 hcd) hd
theorem ai{i j pos}:PE X (.Constant (.int i) j pos) (tC<|.int i):=λ_ _ _ H _ I h=>wpAny_Constant_int ⟨.int i,H,I.tok _,⟨_,rfl⟩,h⟩
theorem c_{b j pos}:PE X (.Constant (.bool b) j pos) (tC<|.bl b):=λ_ _ _ H _ I h=>Constant_bool ⟨.bl b,H,I,rfl,h⟩
theorem cK{j pos}:PE X (.Constant .none j pos) (tC .non):=λ_ _ _ H _ I h=>Constant_none ⟨.non,H,I,rfl,h⟩
theorem aH{x j pos}:PE X (.Constant (.str x) j pos) (tC<|.str x):=λ_ _ _ H _ I h=>Calls.Constant_str ⟨.str x,H,I.tok _,⟨_,rfl⟩,h⟩
def Gl(X:Cx)(x:Str):Prop:=X.env.kindOf x=A' .globalImplicit
theorem lq{E:LF->LR->Prop}{pos:Pos}(I:Inv X LO σ H s)(hg:Gl X x)(hm:X.mg x=A' u)(h:Q u s)
  (hd:(x == ("__debug__":Str))=false:=by decide):wpAny (MB X.prog X.w) X.A (Oj (.Name x pos) X.env) Q E s:=
 SQ I.ok.kind hg (Calls.loadGlobal_global (by rw[I.ok.glob];exact I.mod.glob.keeps I.bk) hm h) hd
theorem gb{E:LF->LR->Prop}{pos:Pos}(I:Inv X LO σ H s)(hg:Gl X x)(hm:X.mg x=LL)(hv:Ro x=A' u)(h:Q u s)
  (hn:x≠"__name__":=by decide) (hd:(x == ("__debug__":Str))=false:=by decide):wpAny (MB X.prog X.w) X.A (Oj (.Name x pos) X.env) Q E s:=by
 obtain⟨mb,h1,h2⟩:=I.mod.blt;exact SQ I.ok.kind hg (Calls.loadGlobal_builtin (by rw[I.ok.glob];exact I.mod.glob.keeps I.bk) hm (by rw[I.ok.blt];exact h1.keeps I.bk) ((h2 x hn).trans hv) h) hd
theorem C9(hg:Gl X x)(hm:X.mg x=A' u)(r:RelV v u)(hd:(x == ("__debug__":Str))=false:=by decide):PE X (.Name x pos) (tC v):=
 λ_ _ _ H _ I h=>lq I hg hm ⟨v,H,I,r,h⟩ hd
theorem fQ{x:Str}{v:V}{u:LF}{pos:Pos}(hg:Gl X x)(hm:X.mg x=LL)(hv:Ro x=A' u)(r:RelV v u)(hn:x≠"__name__":=by decide)(hd:(x == ("__debug__":Str))=false:=by decide):PE X (.Name x pos) (tC v):=
 λ_ _ _ H _ I h=>gb I hg hm hv ⟨v,H,I,r,h⟩ hn hd
def PC(X:Cx)(op:ZJ)(a b:Nt)(t:TE):Prop:=
 ∀(LO:gV (LJ×Obj)) (s:LR) (σ:St) (H:Hp) (Q:VK),Inv X LO σ H s->t σ H Q->
  wpAny (MB X.prog X.w) X.A (Oj a X.env) (λv s₁=>wpAny (MB X.prog X.w) X.A (Oj b X.env) (λu s₂=>wpAny (MB X.prog X.w) X.A (NG op v u) (EP X LO σ Q) X.xe s₂) X.xe s₁) X.xe s
inductive Gr (x:V)(Q:Md->Hp->Prop)(H:Hp):Prop
 |mk (c:Md)(h:x=.bl c)(q:Q c H):Gr x Q H
def tB(t:TE):TT:=λσ H Q=>t σ H λx H1=>Gr x Q H1
theorem tY(h:PC X op a b t)(h1:RX op b=false:=by first|exact nobehind _ (by decide) (by decide)|rfl):PT X (.Compare a [op] [b] pos) (tB t):=by
 intro LO s σ H Q I hw;refine U0 (bG (h LO s σ H _ I hw) λv s1 h1=>bG h1 λu s2 h2=>bG h2 λc s3 ⟨x,H1,I1,r1,q1⟩=>?_) h1;obtain⟨d,rfl,q⟩:=q1;cases r1;exact NM ⟨H1,I1,q⟩
theorem bD(h:PE X e t)(he:∀VS,isTrue e X.env VS=(do let v <-VS;VC e.pos;Ti [v] (truthy v)):=by intro _;rfl):PT X e (tB t):=by
 intro LO s σ H Q I hw;refine isTrue_plain (bG (h LO s σ H _ I hw) λv s1 ⟨x,H1,I1,r1,q1⟩=>?_)<|he _;obtain⟨d,rfl,q⟩:=q1;cases r1;exact NM ⟨H1,I1,q⟩
def Kz(t u:TT):TT:=λσ H Q=>t σ H λc H1=>if c=LI then u σ H1 Q else Q LM H1
def Li(t u:TT):TT:=λσ H Q=>t σ H λc H1=>if c=LI then Q LI H1 else u σ H1 Q
def KB(t:TT):TT:=λσ H Q=>t σ H λc H1=>Q (!c) H1
theorem jg(ha:PT X a tA):PW X (.BoolOp .And [a] pos) tA:=by
 intro wh LO s σ H Q I h;refine isTrue_and<|bG (ha LO s σ H Q I h) λc s1 e=>?_;cases c with
 |true=>exact isTrue_and_nil e
 |false=>exact e
theorem fB(ha:PT X a tA):PW X (.BoolOp .Or [a] pos) tA:=by
 intro wh LO s σ H Q I h;refine isTrue_or<|bG (ha LO s σ H Q I h) λc s1 e=>?_;cases c with
 |false=>exact isTrue_or_nil e
 |true=>exact e
theorem lQ(ha:PT X a tA)(hb:PW X (.BoolOp .And (b::O2) pos) tB'):PW X (.BoolOp .And (a::b::O2) pos) (Kz tA tB'):=by
 intro wh LO s σ H Q I h;refine isTrue_and<|bG (ha LO s σ H _ I h) λc s1 ⟨H1,I1,q1⟩=>?_;cases c with
 |true=>exact hb wh LO s1 σ H1 Q I1 q1
 |false=>exact⟨H1,I1,q1⟩
theorem gf(ha:PT X a tA)(hb:PW X (.BoolOp .Or (b::O2) pos) tB'):PW X (.BoolOp .Or (a::b::O2) pos) (Li tA tB'):=by
 intro wh LO s σ H Q I h;refine isTrue_or<|bG (ha LO s σ H _ I h) λc s1 ⟨H1,I1,q1⟩=>?_;cases c with
 |true=>exact⟨H1,I1,q1⟩
 |false=>exact hb wh LO s1 σ H1 Q I1 q1
theorem cj(ha:PT X a tA):PT X (.UnaryOp .Not a pos) (KB tA):=by
 intro LO s σ H Q I h;exact isTrue_not<|ha LO s σ H (λc H1=>Q (!c) H1) I h
def Iz(ta tb:TE):TE:=λσ H Q=>ta σ H λx H1=>∃c,x=.bl c/\if c=LI then tb σ H1 Q else Q (.bl LM) H1
def KC(ta tb:TE):TE:=λσ H Q=>ta σ H λx H1=>∃c,x=.bl c/\if c=LI then Q (.bl LI) H1 else tb σ H1 Q
def IA(ta:TE):TE:=λσ H Q=>ta σ H λx H1=>∃c,x=.bl c/\Q (.bl (!c)) H1
theorem fh{op}(h:PE X a t):PE X (.BoolOp op [a] pos) t:=λLO s σ H Q I hw=>BoolOp_one<|h LO s σ H Q I hw
theorem dm(ha:PE X a ta)(hb:PE X (.BoolOp .And (b::O2) pos) tb):PE X (.BoolOp .And (a::b::O2) pos) (Iz ta tb):=by
 intro LO s σ H Q I h;refine BoolOp_and<|bG (ha LO s σ H _ I h) λv s1 ⟨x,H1,I1,r1,q1⟩=>?_;obtain⟨c,rfl,q1⟩:=q1;cases r1;refine NM ?_;cases c with
 |true=>exact hb LO s1 σ H1 Q I1 q1
 |false=>exact⟨.bl LM,H1,I1,rfl,q1⟩
theorem IB(ha:PE X a ta)(hb:PE X (.BoolOp .Or (b::O2) pos) tb):PE X (.BoolOp .Or (a::b::O2) pos) (KC ta tb):=by
 intro LO s σ H Q I h;refine BoolOp_or<|bG (ha LO s σ H _ I h) λv s1 ⟨x,H1,I1,r1,q1⟩=>?_;obtain⟨c,rfl,q1⟩:=q1;cases r1;refine NM ?_;cases c with
 |false=>exact hb LO s1 σ H1 Q I1 q1
 |true=>exact⟨.bl LI,H1,I1,rfl,q1⟩
theorem zd(ha:PE X a ta):PE X (.UnaryOp .Not a pos) (IA ta):=by
 intro LO s σ H Q I h;refine UnaryOp_<|bG (ha LO s σ H _ I h) λv s1 ⟨x,H1,I1,r1,q1⟩=>?_;obtain⟨c,rfl,q1⟩:=q1;cases r1;exact not_of<|NM ⟨.bl (!c),H1,I1,rfl,q1⟩
def Lz(t:TT)(ta tb:TE):TE:=λσ H Q=>t σ H λc H1=>if c=LI then ta σ H1 Q else tb σ H1 Q
theorem eF(hc:PT X c tA)(ha:PE X a ta)(hb:PE X b tb):PE X (.IfExp c a b pos) (Lz tA ta tb):=by
 intro LO s σ H Q I h;refine wpAny_IfExp<|bG (hc LO s σ H _ I h) λd s1 ⟨H1,I1,q1⟩=>?_;cases d with
 |true=>exact ha LO s1 σ H1 Q I1 q1
 |false=>exact hb LO s1 σ H1 Q I1 q1
def SqL(K:K')(H:Hp)(a:LJ)(xs:gV V):Prop:=
 Rd H a (.lst xs)\/
  ∃(o:Obj) (NH:Ou LF) (n:Nat),K.lookup a=A' o/\o.cls=.type "list"/\o.dict=LL/\o.data=.seq NH n/\NH.size<=sizeLine/\Vals xs NH.toList
def SqT(K:K')(H:Hp)(a:LJ)(xs:gV V):Prop:=
 Rd H a (.tup xs)\/
  ∃(o:Obj) (NH:Ou LF) (n:Nat),K.lookup a=A' o/\o.cls=.type "tuple"/\o.data=.seq NH n/\NH.size<=sizeLine/\Vals xs NH.toList
def KD:LF->LH V
 |.none=>A' .non
 |.bool b=>A'<|.bl b
 |.int i _=>A'<|.int i
 |.str x _=>A'<|.str x
 |.bytes b _=>A'<|.byt b
 |.float b _=>A'<|.flt b
 |.ref a=>A'<|.ref a
 |.type n=>A'<|.ty n
 |_=>LL
theorem RelV.abs(r:RelV x u):KD u=A' x:=by
 cases x with
 |non=>cases r;rfl
 |bl _=>cases r;rfl
 |int _=>obtain⟨t,rfl⟩:=r;rfl
 |str _=>obtain⟨t,rfl⟩:=r;rfl
 |byt _=>obtain⟨t,rfl⟩:=r;rfl
 |flt _=>obtain⟨t,rfl⟩:=r;rfl
 |ref _=>cases r;rfl
 |ty _=>cases r;rfl
theorem RelV.inj(r:RelV x u)(q:RelV y u):x=y:=MC<|r.abs.symm.trans q.abs
theorem Vals.inj:∀{xs ys:gV V} {us:gV LF},Vals xs us->Vals ys us->xs=ys
 |_,_,_,.nil,.nil=>rfl
 |_,_,_,.cons r t,.cons r' t'=>by rw[r.inj r',Vals.inj t t']
theorem SqL.of{K:K'}(h:H a=A' (.lst xs)):SqL K H a xs:=.inl<|.inl h
theorem SqT.of{K:K'}(h:H a=A' (.tup xs)):SqT K H a xs:=.inl<|.inl h
theorem Inv.list(I:Inv X LO σ H s)(h:SqL X.K H a xs):∃NH,Vals xs NH/\PlainL s.heap a NH.toArray/\xs.length<=sizeLine:=by
 obtain h|⟨o,NH,n,hk,hc,hd,hs,hz,r⟩:=h
 ·obtain⟨z,NH,n,r,e⟩:=h.ok I.hok;exact⟨NH,r,⟨_,n,e,rfl,rfl,rfl⟩,z⟩
 ·exists NH.toList,r,⟨o,n,I.kIn a o hk,hc,hd,by simpa using hs⟩;have e:=r.length;simp only [Mr]at e;lia
theorem Inv.tuple(I:Inv X LO σ H s)(h:SqT X.K H a xs):∃NH,Vals xs NH/\aaM s.heap a NH.toArray/\xs.length<=sizeLine:=by
 obtain h|⟨o,NH,n,hk,hc,hs,hz,r⟩:=h
 ·obtain⟨z,NH,r,p⟩:=h.ok I.hok;exact⟨NH,r,p,z⟩
 ·exists NH.toList,r,⟨o,I.kIn a o hk,hc,n,by simpa using hs⟩;have e:=r.length;simp only [Mr]at e;lia
theorem Inv.list_inj(I:Inv X LO σ H s)(h:SqL X.K H a xs)(h':SqL X.K H a ys):xs=ys:=by
 obtain⟨NH,r,⟨o,n,e,_,_,d⟩,_⟩:=I.list h;obtain⟨its',r',⟨o',n',e',_,_,d'⟩,_⟩:=I.list h';rw[e]at e';cases e';rw[d]at d';injection d' with d1 _;have:NH=its':=by simpa using M0 UQ d1
 subst this;exact r.inj r'
theorem Inv.tuple_inj(I:Inv X LO σ H s)(h:SqT X.K H a xs)(h':SqT X.K H a ys):xs=ys:=by
 obtain⟨NH,r,⟨o,e,_,n,d⟩,_⟩:=I.tuple h;obtain⟨its',r',⟨o',e',_,n',d'⟩,_⟩:=I.tuple h';rw[e]at e';cases e';rw[d]at d';injection d' with d1 _;have:NH=its':=by simpa using M0 UQ d1
 subst this;exact r.inj r'
abbrev Cx.wish(X:Cx)(E:LF->LR->Prop):Cx:={X with xe:=E}
abbrev Cx.nox(X:Cx):Cx:=X.wish λ_ _=>False
theorem Cx.Ok.wish{X:Cx}(ok:X.Ok)(E:LF->LR->Prop):(X.wish E).Ok:=
 ⟨ok.mod,ok.kind,ok.glob,ok.blt,ok.above,ok.inj,ok.has,ok.cab,ok.hd,ok.frames,ok.stk,ok.exf,ok.bs,ok.bsz,ok.noex,ok.exfs,ok.funs,ok.frf⟩
theorem Cx.Ok.unwish{X:Cx}{E:LF->LR->Prop}(ok:(X.wish E).Ok):X.Ok:=
 ⟨ok.mod,ok.kind,ok.glob,ok.blt,ok.above,ok.inj,ok.has,ok.cab,ok.hd,ok.frames,ok.stk,ok.exf,ok.bs,ok.bsz,ok.noex,ok.exfs,ok.funs,ok.frf⟩
theorem Inv.wish(I:Inv X LO σ H s)(E:LF->LR->Prop):Inv (X.wish E) LO σ H s:=⟨I.ok.wish E,I.os,I.bare,I.base,I.loc,I.cell,I.free,I.freeC,I.pin,I.hok,I.len⟩
theorem Inv.unwish(I:Inv (X.wish E) LO σ H s):Inv X LO σ H s:=⟨I.ok.unwish,I.os,I.bare,I.base,I.loc,I.cell,I.free,I.freeC,I.pin,I.hok,I.len⟩
theorem SP.unwish(h:SP (X.wish E) LO D f s'):SP X LO D f s':=by
 cases f with
 |next=>obtain⟨σ',H',I,q⟩:=h;exact⟨σ',H',I.unwish,q⟩
 |brk=>obtain⟨σ',H',I,q⟩:=h;exact⟨σ',H',I.unwish,q⟩
 |cont=>obtain⟨σ',H',I,q⟩:=h;exact⟨σ',H',I.unwish,q⟩
 |ret u=>obtain⟨v,σ',H',I,r,q⟩:=h;exact⟨v,σ',H',I.unwish,r,q⟩
theorem PSs.nox{st:gV NN}{t:TS}(h:PSs X.nox st t):PSs X st t:=λLO s σ H D I hw=>
 Nv (h LO s σ H D (I.wish _) hw) (λ_ _ q=>q.unwish) λ_ _ z=>O8 z
section
variable {X:Cx}{st:NN}{t:TS}
def E3:TS:=λD σ H=>D.nx σ H
def ze(t u:TS):TS:=λD σ H=>t {D with nx:=u D} σ H
theorem aA:PSs X [] E3:=λ_ _ σ H _ I h=>Q5 ⟨σ,H,I,h⟩
theorem af{O2:gV NN}{u:TS}(h1:PS X st t)(h2:PSs X O2 u):PSs X (st::O2) (ze t u):=by
 intro LO s σ H D I h;refine Xf<|bG (h1 LO s σ H {D with nx:=u D} I h) λf s1 q=>?_;cases f with
 |next=>
  obtain⟨σ',H',I',q⟩:=q;exact h2 LO s1 σ' H' D I' q
 |ret v=>exact q
 |brk=>exact q
 |cont=>exact q
theorem ah(h1:PS X st t):PSs X [st] t:=by
 intro LO s σ H D I h;refine Xf<|bG (h1 LO s σ H D I h) λf s1 q=>?_;cases f with
 |next=>exact Q5 q
 |ret v=>exact q
 |brk=>exact q
 |cont=>exact q
theorem C_:PS X (.Pass pos) E3:=λ_ _ σ H _ I h=>wpAny_Pass ⟨σ,H,I,h⟩
theorem Inv.quiet(I:Inv X LO σ H s):interactive X.env=false:=by simp [interactive,I.ok.kind]
def IC(te:TE):TS:=λD σ H=>te σ H λ_ H1=>D.nx σ H1
theorem bA(he:PE X e te)(hs:VB e LL pos.line X.env=pure false:=by rfl):PS X (.Expr e pos) (IC te):=by
 intro LO s σ H D I h;exact wpAny_Expr_any (bG (he LO s σ H _ I h) λv s1 ⟨x,H1,I1,r1,q1⟩=>⟨σ,H1,I1,q1⟩) I.quiet hs
def Da(te:TE):TS:=λD σ H=>te σ H D.rt
theorem ao(he:PE X e te):PS X (.Return (A' e) pos) (Da te):=by
 intro LO s σ H D I h;exact wpAny_Return_some<|bG (he LO s σ H _ I h) λv s1 ⟨x,H1,I1,r1,q1⟩=>⟨x,σ,H1,I1,r1,q1⟩
def ID:TS:=λD _ H=>D.rt .non H
theorem Db:PS X (.Return LL pos) ID:=λ_ _ σ H _ I h=>wpAny_Return_none ⟨.non,σ,H,I,rfl,h⟩
def IE(c:TT)(t u:TS):TS:=λD σ H=>c σ H λb H1=>if b=LI then t D σ H1 else u D σ H1
theorem aS(hc:PT X c tc)(ha:PSs X a t)(hb:PSs X b u):PS X (.If c a b pos) (IE tc t u):=by
 intro LO s σ H D I h;refine wpAny_If<|bG (hc LO s σ H _ I h) λd s1 ⟨H1,I1,q1⟩=>?_;cases d with
 |true=>exact ha LO s1 σ H1 D I1 q1
 |false=>exact hb LO s1 σ H1 D I1 q1
def Gs:TS:=λ_ _ _=>False
theorem gg:PS X st Gs:=λ_ _ _ _ _ _ h=>h.elim
end
abbrev TG:=V->St->Hp->(St->Hp->Prop)->Prop
abbrev E4:=gV V->St->Hp->(St->Hp->Prop)->Prop
def PG(X:Cx)(Od:Nt)(t:TG):Prop:=
 ∀(LO:gV (LJ×Obj)) (s:LR) (σ:St) (H:Hp) (v:V) (u:LF) (Q:St->Hp->Prop),Inv X LO σ H s->RelV v u->t v σ H Q->
  wpAny (MB X.prog X.w) X.A (Wa Od X.env u) (λ_ s'=>∃σ' H',Inv X LO σ' H' s'/\Q σ' H') X.xe s
def IF(X:Cx)(ts:gV Nt)(t:E4):Prop:=
 ∀(LO:gV (LJ×Obj)) (s:LR) (σ:St) (H:Hp) (vs:gV V) (us:gV LF) (Q:St->Hp->Prop),Inv X LO σ H s->Vals vs us->t vs σ H Q->
  wpAny (MB X.prog X.w) X.A (assignInOrder ((Q9 ts X.env).map (·.2)) us) (λ_ s'=>∃σ' H',Inv X LO σ' H' s'/\Q σ' H') X.xe s
abbrev Km:=V->V->Hp->VK->Prop
def Lj(X:Cx)(op:aaG)(t:Km):Prop:=
 ∀(LO:gV (LJ×Obj)) (s:LR) (σ:St) (H:Hp) (x y:V) (v u:LF) (Q:VK),Inv X LO σ H s->RelV x v->RelV y u->t x y H Q->
  wpAny (MB X.prog X.w) X.A (inplaceOp op v u) (EP X LO σ Q) X.xe s
section
variable {X:Cx}{pos:Pos}
def gh(i:Nat):TG:=λv σ H Q=>Q (σ.set i<|A' v) H
theorem aE(hN:X.N.Nodup)(hi:X.N[i]? =A' x)(hx:Iy X.env.scope x)(hf:X.fn x=LI\/X.env.scope.names.lookup x=A' .local:=by first|exact .inl rfl|exact .inr rfl|assumption):PG X (.Name x pos) (gh i):=by
 intro LO s σ H v u Q I r h;exact WI<|lP I hN hi hx r (λs' I'=>⟨_,H,I',h⟩) hf
def KE:E4:=λvs σ H Q=>vs=[]/\Q σ H
def IG(t:TG)(u:E4):E4:=λvs σ H Q=>∃v r,vs=v::r/\t v σ H λσ' H'=>u r σ' H' Q
theorem lu:IF X [] KE:=by
 intro LO s σ H vs us Q I r h;obtain⟨e,h⟩:=h;subst e;cases r;exact assignInOrder_nil ⟨σ,H,I,h⟩
theorem eI(h1:PG X e t)(h2:IF X es u)
  (hs:(Q9 (e::es) X.env).map (·.2)=Wa e X.env::(Q9 es X.env).map (·.2):=by rfl):IF X (e::es) (IG t u):=by
 intro LO s σ H vs us Q I r h;obtain⟨v,vr,e1,h⟩:=h;subst e1;cases r with
 |cons r rr=>
  rw[hs];refine assignInOrder_cons<|bG (h1 LO s σ H _ _ _ I r h) λ_ s1 ⟨σ1,H1,I1,q1⟩=>?_;exact h2 LO s1 σ1 H1 _ _ Q I1 rr q1
def IH(K:K')(n:Nat)(t:E4):TG:=λv σ H Q=>∃a xs,v=.ref a/\SqT K H a xs/\xs.length=n/\t xs σ H Q
theorem pG{k:Nat}{n:Nat}(hc:X.calm=LI)(h:IF X es t)
  (hn:(Q9 es X.env).length=n:=by rfl) (ZP:(Q9 es X.env).findIdx? (·.1)=none:=by rfl):PG X (.Tuple es k pos) (IH X.K n t):=by
 intro LO s σ H v u Q I r hw;obtain⟨a,xs,e1,hq,hl,hw⟩:=hw;subst e1;cases r;obtain⟨NH,rv,ht,hz⟩:=I.tuple hq;refine assign_Tuple_tuple (I.ok.hd hc) ht (by simp [hn,<-hl,rv.length]) ZP λh' hx=>?_;have I1:Inv X LO σ H {s with heap:=h'}:=I.kept (t':=s.toks) λb o e=>hx b o (Mx<|Mj e) e;exact h LO _ σ H xs _ Q I1 (by simpa using rv) hw
def II(te:TE)(g:TG):TS:=λD σ H=>te σ H λx H1=>g x σ H1 D.nx
theorem Gu(he:PE X e te)(hg:PG X tg g)(hs:swapsWithSole [tg] e pos.line X.env=pure false:=by rfl)(hw:swappedStores [tg] e X.env=pure none:=by rfl)
  (h1:(Q9 [tg] X.env).map (·.2)=[Wa tg X.env]:=by rfl):PS X (.Assign [tg] e pos) (II te g):=by
 intro LO s σ H D I h;refine wpAny_Assign_stores (bG (he LO s σ H _ I h) λv s1 ⟨x,H1,I1,r1,q1⟩=>?_) hs hw;rw[h1];exact bG (hg LO s1 σ H1 x v _ I1 r1 q1) λ_ s2 q=>q
theorem au(hN:X.N.Nodup)(hi:X.N[i]? =A' x)(hx:Iy X.env.scope x)(he:PE X e te)(hs:VB e (A'<|.Name x VH) pos.line X.env=pure false:=by rfl)(hf:X.fn x=LI\/X.env.scope.names.lookup x=A' .local:=by first|exact .inl rfl|exact .inr rfl|assumption):
  PS X (.Assign [.Name x VH] e pos) (II te<|gh i):=by
 intro LO s σ H D I h;refine wpAny_Assign_Name (bG (he LO s σ H _ I h) λv s1 ⟨y,H1,I1,r1,q1⟩=>?_) hs;exact lP I1 hN hi hx r1 (λs2 I2=>⟨_,H1,I2,q1⟩) hf
def KF(i:Nat)(te:TE)(ti:Km):TS:=λD σ H=>∃x,σ[i]? =A' (A' x)/\te σ H λy H1=>ti x y H1 λz H2=>D.nx (σ.set i<|A' z) H2
theorem Gv{VH:Pos}(hN:X.N.Nodup)(hi:X.N[i]? =A' x)(hx:Iy X.env.scope x)(he:PE X e te)(ho:Lj X op ti)(hf:X.fn x=LI\/X.env.scope.names.lookup x=A' .local:=by first|exact .inl rfl|exact .inr rfl|assumption):
  PS X (.AugAssign (.Name x VH) op e pos) (KF i te ti):=by
 intro LO s σ H D I h;obtain⟨v,e1,h⟩:=h;obtain⟨m,hn,hl⟩:=I.loc;have vis:Kl X.env.scope x:=by obtain k|k:=hx;exact .inl k;exact .inr<|.inl k
 obtain⟨u,r,l⟩:=hl i x v hi e1 vis;refine wpAny_AugAssign_Name ?_;have go:wpAny (MB X.prog X.w) X.A (Oj e X.env) (λw s₂=>wpAny (MB X.prog X.w) X.A (inplaceOp op u w) (λr s₃=>wpAny (MB X.prog X.w) X.A (ZE X.env x r) (λ_=>SP X LO D .next) X.xe s₃) X.xe s₂) X.xe s:=by
  refine bG (he LO s σ H _ I h) λw s1 ⟨y,H1,I1,r1,q1⟩=>?_;refine bG (ho LO s1 σ H1 v y u w _ I1 r r1 q1) λz s2 ⟨zv,H2,I2,r2,q2⟩=>?_;exact lP I2 hN hi hx r2 (λs3 I3=>⟨_,H2,I3,q2⟩) hf
 obtain⟨hk,hm⟩|⟨hk,c,hc,ZA⟩:=l
 ·exact Vc I.ok.kind hk hn hm go
 ·obtain hk|hk:=hk
  ·exact VI I.ok.kind hk hc ZA go
  ·obtain k|k:=hx
   ·have:X.env.scope.names.lookup x=A' .free:=hk;rw[k]at this;cases this
   ·have:X.env.scope.names.lookup x=A' .free:=hk;rw[k]at this;cases this
def LA(f:Int->Int->Int):Km:=λx y H Q=>∃i j,x=.int i/\y=.int j/\Q (.int<|f i j) H
theorem Gw:Lj X .Add (LA λi j=>i+j):=by
 intro LO s σ H x y v u Q I r1 r2 h;obtain⟨i,j,e1,e2,q⟩:=h;subst e1;subst e2;obtain⟨t,rfl⟩:=r1;obtain⟨t',rfl⟩:=r2;exact iadd_int ⟨.int _,H,I.tok _,⟨_,rfl⟩,q⟩
end
def Gx(c:TT)(tb:TS):TS:=λD σ H=>∃W:Nat->St->Hp->Prop,(∃m,W m σ H)/\∀m σ H,W m σ H->
 c σ H λb H1=>if b=LI then∃N:St->Hp->Prop,(∀σ' H',N σ' H'->∃m',m' < m/\W m' σ' H')/\tb {D with nx:=N,ct:=N,bk:=D.nx} σ H1 else D.nx σ H1
theorem lR(hp:PassesOwn (MB X.prog X.w) X.A X.env X.xe)(hc:PT X c tc)(hb:PSs X body tb):PS X (.While c body [] pos) (Gx tc tb):=by
 intro LO s σ H D I h;obtain⟨W,⟨m0,w0⟩,V0⟩:=h;refine wpAny_While<|codeAny_whileLoop (λn s'=>∃σ' H',Inv X LO σ' H' s'/\W n σ' H') ?_ m0 ⟨σ,H,I,w0⟩;rintro n s1 ⟨σ1,H1,I1,w1⟩;refine Pu hp<|bG (hc LO s1 σ1 H1 _ I1<|V0 n σ1 H1 w1) λb s2 ⟨H2,I2,q2⟩=>?_;cases b with
 |true=>
  obtain⟨N,hN,q2⟩:=q2;rw[Ml rfl];refine Pu hp<|bG (hb LO s2 σ1 H2 _ I2 q2) λf s3 q3=>?_;cases f with
  |next=>
   obtain⟨σ3,H3,I3,n3⟩:=q3;obtain⟨m',hm,w3⟩:=hN σ3 H3 n3;exact⟨m',hm,σ3,H3,I3,w3⟩
  |cont=>
   obtain⟨σ3,H3,I3,n3⟩:=q3;obtain⟨m',hm,w3⟩:=hN σ3 H3 n3;exact⟨m',hm,σ3,H3,I3,w3⟩
  |brk=>exact q3
  |ret v=>exact q3
 |false=>
  rw[Mi Mb];exact Q5 ⟨σ1,H2,I2,q2⟩
structure It where
 go:Nat->Hp->Prop
 yld:Nat->Hp->V->Hp->Prop
 stop:Nat->Hp->Prop
def lS(X:Cx)(LO:gV (LJ×Obj))(H:Hp)(b:LJ):Prop:=
 H b=LL/\b≠X.env.locals/\b∉X.fs/\(b∈X.ex\/X.s₀.heap.objs.size<=b)/\(∀x c,X.env.cells.lookup x=A' c->c≠b)/\∀p∈X.pn++LO,p.1≠b
theorem Inv.fpOk{X:Cx}{LO:gV (LJ×Obj)}{σ:St}{H H':Hp}{s:LR}{b:LJ}(I:Inv X LO σ H s)(hb:s.heap.objs.size<=b)(hn:H' b=LL):lS X LO H' b:=by
 refine⟨hn,PH<|Nb I.lt hb,I.nofs hb,.inr<|MD I.sz hb,λx c e z=>?_,λp hp z=>?_⟩
 ·obtain⟨v,q⟩:=I.cell x c e;exact absurd (Nb q.lt<|by rw[z];exact hb)<|Om _
 ·exact absurd (Nb (Mj (I.pin p hp).1)<|by rw[z];exact hb)<|Om _
structure tZ (P:Mm)(w:MK)(K:K')(tg:Nt)(J:It)(fp:gV LJ)(it:LJ)(tn:Nat->M8->Prop):Prop where
 mem:it∈fp
 obj:∀i h,tn i h->∀b∈fp,∃o,h.get? b=A' o/\∀v,o.data≠.cell v
 keep:∀i h h',tn i h->(∀b∈fp,∀o,h.get? b=A' o->h'.get? b=A' o)->tn i h'
 item:∀(X:Cx),X.prog=P->X.w=w->X.K=K->X.calm=LI->∀(i:Nat) (LO:gV (LJ×Obj)) (s:LR) (σ:St) (H:Hp) (E:LF->LR->Prop),Inv X LO σ H s->(∀b∈fp,lS X LO H b)->tn i s.heap->J.go i H->
  wpAny (MB P w) X.A (TR<|.ref it) (λr s1=>∃u,r=A' u/\
   wpAny (MB P w) X.A (Qj tg (.ref it) u) (λ_ s2=>∃x H',Inv X LO σ H' s2/\RelV x u/\J.yld i H x H'/\tn (i+1) s2.heap/\∀b∈fp,H' b=LL) E s1) E s
 done:∀(X:Cx),X.prog=P->X.w=w->X.K=K->X.calm=LI->∀(i:Nat) (LO:gV (LJ×Obj)) (s:LR) (σ:St) (H:Hp) (E:LF->LR->Prop),Inv X LO σ H s->(∀b∈fp,lS X LO H b)->tn i s.heap->J.stop i H->
  wpAny (MB P w) X.A (TR<|.ref it) (λr s1=>r=LL/\Inv X LO σ H s1) E s
 self:∀(A:Nl) (i:Nat) (s:LR) (Q:LF->LR->Prop) (E:LF->LR->Prop),tn i s.heap->Q (.ref it) s->wpAny (MB P w) A (Xh<|.ref it) Q E s
abbrev TI:=St->Hp->(It->Hp->Prop)->Prop
def KG(X:Cx)(LO:gV (LJ×Obj))(σ:St)(tg:Nt)(R:It->Hp->Prop)(itv:LF)(s2:LR):Prop:=
 ∃(it:LJ) (fp:gV LJ) (tn:Nat->M8->Prop) (J:It) (H':Hp),itv=.ref it/\Inv X LO σ H' s2/\tZ X.prog X.w X.K tg J fp it tn/\tn 0 s2.heap/\(∀b∈fp,lS X LO H' b)/\R J H'
def PI(X:Cx)(tg Qy:Nt)(wi:TI):Prop:=
 ∀(LO:gV (LJ×Obj)) (s:LR) (σ:St) (H:Hp) (R:It->Hp->Prop),Inv X LO σ H s->wi σ H R->
  wpAny (MB X.prog X.w) X.A (Oj Qy X.env) (λv s1=>wpAny (MB X.prog X.w) X.A (Xh v) (KG X LO σ tg R) X.xe s1) X.xe s
theorem qR{M:aaH}{A:Nl}{E:LF->LR->Prop}{tg:Nt}{u:LF}{Q:UZ->LR->Prop}(ho:s.heap.get? it=A' o)(hc:o.cls=.type n)(hd:o.data=.fields vs)
  (hn:["enumerate","zip","dict_itemiterator","dict_reverseitemiterator","odict_iterator","itertools.zip_longest","itertools.pairwise"].contains n=LM) (hQ:Q () s):wpAny M A (Qj tg (.ref it) u) Q E s:=by
 unfold Qj;cases tg<;>first
  |exact Me hQ
  |(cases u<;>first
    |exact Me hQ
    |(refine LG<|wpAny_load ho ?_
      rw[hc,hd];show wpAny M A (if(["enumerate","zip","dict_itemiterator","dict_reverseitemiterator","odict_iterator","itertools.zip_longest","itertools.pairwise"].contains n&&vs[0]? == A' (rawInt _))=LI then _ else _) Q E s
      rw[Mi<|by intro h;rw[hn,YI]at h;cases h];exact Me hQ))
def C5(K:K')(a:LJ):It:=
 ⟨λi H=>∃xs x,SqL K H a xs/\xs[i]? =A' x,λi H x H'=>H'=H/\∀xs,SqL K H a xs->xs[i]? =A' x,λi H=>∃xs,SqL K H a xs/\xs.length<=i⟩
def Dc(K:K')(a:LJ):It:=
 ⟨λi H=>∃xs x,SqT K H a xs/\xs[i]? =A' x,λi H x H'=>H'=H/\∀xs,SqT K H a xs->xs[i]? =A' x,λi H=>∃xs,SqT K H a xs/\xs.length<=i⟩
def E5(lo:Int)(n:Nat):It:=⟨λi _=>i < n,λi H x H'=>H'=H/\x=.int (lo+i),λi _=>n<=i⟩
theorem xF{P:Mm}{w:MK}{K:K'}{tg:Nt}(a it:LJ):tZ P w K tg (C5 K a) [it] it (λi h=>h.IsListIter it a i) where
 mem:=by simp
 obj:=λi h st b hb=>by
  have e:b=it:=by simpa using hb
  subst e;obtain⟨o,e,c,d⟩:=st;exact⟨o,e,λv z=>by rw[d]at z;cases z⟩
 keep:=λi h h' st k=>st.at λo e=>k it (by simp) o e
 item:=by
  intro X hP hw hK hc i LO s σ H E I hf st hg;subst hP hw hK;obtain⟨xs,x,hq,hx⟩:=hg;obtain⟨NH,rv,p,hz⟩:=I.list hq;obtain⟨u,hu,ru⟩:=rv.get hx;obtain⟨f0,f1,f2,f3,f4,f5⟩:=hf it (by simp);refine wpAny_pyNext_list_item st p.isList (x:=u) (by simpa using hu) λh' Oo sb=>?_;have I1:Inv X LO σ H {s with heap:=h'}:=I.turned (t':=s.toks) (λb o hb e=>(sb.2 b hb).trans e) f0 f1 f3 f4 f5;obtain⟨o,e,c,d⟩:=id Oo;exact⟨u,rfl,qR (s:={s with heap:=h'}) e c d (by decide) ⟨x,H,I1,ru,⟨rfl,λys hy=>by rw[I.list_inj hy hq];exact hx⟩,Oo,λb hb=>(hf b hb).1⟩⟩
 done:=by
  intro X hP hw hK hc i LO s σ H E I hf st hg;subst hP hw hK;obtain⟨xs,hq,hx⟩:=hg;obtain⟨NH,rv,p,hz⟩:=I.list hq;obtain⟨f0,f1,f2,f3,f4,f5⟩:=hf it (by simp);have hl:=rv.length;exact wpAny_pyNext_list_end (I.ok.hd hc) st p.isList (by simp;lia) λh' eb=>⟨rfl,I.turned (t':=s.toks) (λb o hb e=>eb b o hb e) f0 f1 f3 f4 f5⟩
 self:=λ_ _ _ _ _ st h=>wpAny_pyIter_listiter st h
theorem t4{P:Mm}{w:MK}{K:K'}{tg:Nt}(a it:LJ):tZ P w K tg (Dc K a) [it] it (λi h=>h.IsTupleIter it a i) where
 mem:=by simp
 obj:=λi h st b hb=>by
  have e:b=it:=by simpa using hb
  subst e;obtain⟨o,e,c,d⟩:=st;exact⟨o,e,λv z=>by rw[d]at z;cases z⟩
 keep:=λi h h' st k=>st.at λo e=>k it (by simp) o e
 item:=by
  intro X hP hw hK hc i LO s σ H E I hf st hg;subst hP hw hK;obtain⟨xs,x,hq,hx⟩:=hg;obtain⟨NH,rv,p,hz⟩:=I.tuple hq;obtain⟨u,hu,ru⟩:=rv.get hx;obtain⟨f0,f1,f2,f3,f4,f5⟩:=hf it (by simp);refine wpAny_pyNext_tuple_item st (show s.heap.IsTuple a NH.toArray from p) (x:=u) (by simpa using hu) λh' Oo sb=>?_;have I1:Inv X LO σ H {s with heap:=h'}:=I.turned (t':=s.toks) (λb o hb e=>(sb.2 b hb).trans e) f0 f1 f3 f4 f5;obtain⟨o,e,c,d⟩:=id Oo;exact⟨u,rfl,qR (s:={s with heap:=h'}) e c d (by decide) ⟨x,H,I1,ru,⟨rfl,λys hy=>by rw[I.tuple_inj hy hq];exact hx⟩,Oo,λb hb=>(hf b hb).1⟩⟩
 done:=by
  intro X hP hw hK hc i LO s σ H E I hf st hg;subst hP hw hK;obtain⟨xs,hq,hx⟩:=hg;obtain⟨NH,rv,p,hz⟩:=I.tuple hq;obtain⟨f0,f1,f2,f3,f4,f5⟩:=hf it (by simp);have hl:=rv.length;exact wpAny_pyNext_tuple_end (I.ok.hd hc) st (show s.heap.IsTuple a NH.toArray from p) (by simp;lia) λh' eb=>⟨rfl,I.turned (t':=s.toks) (λb o hb e=>eb b o hb e) f0 f1 f3 f4 f5⟩
 self:=λ_ _ _ _ _ st h=>wpAny_pyIter_tupleiter st h
theorem t5{P:Mm}{w:MK}{K:K'}{tg:Nt}(it:LJ)(lo:Int)(n:Nat):tZ P w K tg (E5 lo n) [it] it (λi h=>Vk h it (lo+(i:Nat)*1) ((n:Int) - (i:Nat)) 1) where
 mem:=by simp
 obj:=λi h st b hb=>by
  have e:b=it:=by simpa using hb
  subst e;exact⟨_,st,λv z=>by
   have z':XG _=ZI v:=z;cases z'⟩
 keep:=λi h h' st k=>k it (by simp) _ st
 item:=by
  intro X hP hw hK hc i LO s σ H E I hf st hg;subst hP hw hK;obtain⟨f0,f1,f2,f3,f4,f5⟩:=hf it (by simp);have W:=aaz (prog:=X.prog) (w:=X.w) (I.ok.hd hc) it lo 1 n;refine W.item i s _ _ hg st λv h' tk hv Oo kk=>?_;obtain⟨t,rfl⟩:=hv;have I1:Inv X LO σ H {s with heap:=h',toks:=tk}:=I.turned (λb o hb e=>kk b o (by simpa using hb) e) f0 f1 f3 f4 f5;refine⟨_,rfl,qR (s:={s with heap:=h',toks:=tk}) (n:="range_iterator") Oo rfl rfl (by decide) ⟨.int<|lo+i,H,I1,⟨t,?_⟩,⟨rfl,rfl⟩,Oo,λb hb=>(hf b hb).1⟩⟩;rw[aaQ]
 done:=by
  intro X hP hw hK hc i LO s σ H E I hf st hg;subst hP hw hK;obtain⟨f0,f1,f2,f3,f4,f5⟩:=hf it (by simp);exact Ut (I.ok.hd hc) st (by have:n<=i:=hg;lia) λh' eb=>⟨rfl,I.turned (t':=s.toks) (λb o hb e=>eb b o hb e) f0 f1 f3 f4 f5⟩
 self:=λ_ _ _ _ _ st h=>Uu st h
inductive IJ (K:K')(x:V)(H:Hp)(R:It->Hp->Prop):Prop
 |mk (a:LJ)(h:x=.ref a)(e:∃xs,SqL K H a xs)(r:R (C5 K a) H):IJ K x H R
inductive IK (K:K')(x:V)(H:Hp)(R:It->Hp->Prop):Prop
 |mk (a:LJ)(h:x=.ref a)(e:∃xs,SqT K H a xs)(r:R (Dc K a) H):IK K x H R
def IL(K:K')(tl:TE):TI:=λσ H R=>tl σ H λx H1=>IJ K x H1 R
def KH(K:K')(tl:TE):TI:=λσ H R=>tl σ H λx H1=>IK K x H1 R
theorem bw(hl:PE X l tl):PI X tg l (IL X.K tl):=by
 intro LO s σ H R I h;refine bG (hl LO s σ H _ I h) λv s1 ⟨x,H1,I1,r1,q1⟩=>?_;obtain⟨a,e,⟨xs,hq⟩,q⟩:=q1;subst e;cases r1;obtain⟨NH,rv,p,hz⟩:=I1.list hq;refine Qu p.isList ?_;refine⟨s1.heap.objs.size,[s1.heap.objs.size],_,_,H1,rfl,I1.kept (t':=s1.toks) λb o e=>LP _ e,xF a _,⟨_,MG _ rfl,rfl,rfl⟩,λb hb=>?_,q⟩;have e:b=s1.heap.objs.size:=by simpa using hb
 subst e;exact I1.fpOk (LQ _)<|I1.hok.fresh<|LQ _
theorem fC(hl:PE X l tl):PI X tg l (KH X.K tl):=by
 intro LO s σ H R I h;refine bG (hl LO s σ H _ I h) λv s1 ⟨x,H1,I1,r1,q1⟩=>?_;obtain⟨a,e,⟨xs,hq⟩,q⟩:=q1;subst e;cases r1;obtain⟨NH,rv,p,hz⟩:=I1.tuple hq;refine wpAny_pyIter_tuple (show s1.heap.IsTuple a NH.toArray from p) ?_;refine⟨s1.heap.objs.size,[s1.heap.objs.size],_,_,H1,rfl,I1.kept (t':=s1.toks) λb o e=>LP _ e,t4 a _,⟨_,MG _ rfl,rfl,rfl⟩,λb hb=>?_,q⟩;have e:b=s1.heap.objs.size:=by simpa using hb
 subst e;exact I1.fpOk (LQ _)<|I1.hok.fresh<|LQ _
theorem qS{LO:gV (LJ×Obj)}{σ:St}{H:Hp}{s:LR}{R:It->Hp->Prop}{E:LF->LR->Prop}{lo hi:Int}{t u v:Tok}{tk:Nat}(I:Inv X LO σ H s)(h1:-(2 ^ 62)<=lo)(h2:lo < 2 ^ 62)(h3:-(2 ^ 62)<=hi)(h4:hi < 2 ^ 62)
  (q:R (E5 lo (hi - lo).toNat) H):wpAny (MB X.prog X.w) X.A (Xh<|.ref s.heap.objs.size) (KG X LO σ tg R) E {s with heap:=s.heap.push {cls:=.type "range",data:=.fields #[.int lo t,.int hi u,.int 1 v]},toks:=tk}:=by
 refine V7 (aaI ..) (small_one h1 h2 h3 h4) ?_;have I1:Inv X LO σ H {s with heap:=s.heap.push {cls:=.type "range",data:=.fields #[.int lo t,.int hi u,.int 1 v]},toks:=tk}:=I.kept λb o e=>LP _ e;refine⟨(s.heap.push {cls:=.type "range",data:=.fields #[.int lo t,.int hi u,.int 1 v]}).objs.size,[(s.heap.push {cls:=.type "range",data:=.fields #[.int lo t,.int hi u,.int 1 v]}).objs.size],_,_,H,rfl,
  I1.kept (t':=tk) λb o e=>LP _ e,t5 _ lo (hi - lo).toNat,?_,λb hb=>?_,q⟩
 ·have e1:lo+((0:Nat):Int)*1=lo:=by simp
  have e2:(((hi - lo).toNat:Nat):Int) - ((0:Nat):Int)=Uh lo hi 1:=by rw[rangeSize_one];split<;>lia
  show Vk _ _ (lo+((0:Nat):Int)*1) ((((hi - lo).toNat:Nat):Int) - ((0:Nat):Int)) 1
  rw[e1,e2];exact MG _ rfl
 ·have e:b=(s.heap.push {cls:=.type "range",data:=.fields #[.int lo t,.int hi u,.int 1 v]}).objs.size:=by simpa using hb
  subst e;exact I1.fpOk (LQ _)<|I1.hok.fresh<|LQ _
def IM(ta:TA):TI:=λσ H R=>ta σ H λvs H1=>∃j:Int,vs=[.int j]/\ -(2 ^ 62)<=j/\j < 2 ^ 62/\R (E5 0 j.toNat) H1
def IN(ta:TA):TI:=λσ H R=>ta σ H λvs H1=>∃i j:Int,vs=[.int i,.int j]/\(-(2 ^ 62)<=i/\i < 2 ^ 62/\ -(2 ^ 62)<=j/\j < 2 ^ 62)/\R (E5 i (j - i).toNat) H1
theorem iA(hg:Gl X "range")(hm:X.mg "range"=LL)(ha:PA X [a] ta)(hs:MT [a] X.env=[(LM,Oj a X.env)]:=by rfl):PI X tg (.Call (.Name "range" p) [a] [] pos) (IM ta):=by
 intro LO s σ H R I h;refine Call_<|gb I hg hm YB<|OC (bG (ha pos LO s σ H _ I h) λus s1 ⟨vs,H1,I1,r1,q1⟩=>?_) hs rfl;obtain⟨j,e,q1,q2,q⟩:=q1;subst e;cases r1 with
 |cons r rr=>
  cases rr;obtain⟨t,rfl⟩:=r;exact call_range_1 (qS I1 (by lia) (by lia) q1 q2<|by simpa using q)
theorem xG{X:Cx}{tg:Nt}{p pos:Pos}(hg:Gl X "range")(hm:X.mg "range"=LL)(ha:PA X [a,b] ta)(hs:MT [a,b] X.env=[(LM,Oj a X.env),(LM,Oj b X.env)]:=by rfl)(hs2:MT [b] X.env=[(LM,Oj b X.env)]:=by rfl):
  PI X tg (.Call (.Name "range" p) [a,b] [] pos) (IN ta):=by
 intro LO s σ H R I h;refine Call_ (gb I hg hm YB<|OC (bG (ha pos LO s σ H _ I h) λus s1 ⟨vs,H1,I1,r1,q1⟩=>?_) (by rw[hs,hs2])<|by rw[hs2];rfl);obtain⟨i,j,e,⟨q1,q2,q3,q4⟩,q⟩:=q1;subst e;cases r1 with
 |cons r rr=>
  cases rr with
  |cons r' rr=>
   cases rr;obtain⟨t,rfl⟩:=r;obtain⟨t',rfl⟩:=r';exact call_range_2<|qS I1 q1 q2 q3 q4 q
def KI(wi:TI)(g:TG)(tb:TS):TS:=λD σ H=>wi σ H λJ H1=>∃W:Nat->Nat->St->Hp->Prop,(∃m,W 0 m σ H1)/\∀i m σ H,W i m σ H->
 (J.stop i H/\D.nx σ H)\/(J.go i H/\∃N:St->Hp->Prop,(∀σ' H',N σ' H'->∃m',m' < m/\W (i+1) m' σ' H')/\∀x H',J.yld i H x H'->g x σ H' λσ2 H2=>tb {D with nx:=N,ct:=N,bk:=D.nx} σ2 H2)
def jP(fp:gV LJ)(h:M8):gV (LJ×Obj):=fp.filterMap λb=>(h.get? b).map λo=>(b,o)
theorem dU(hb:b∈fp)(e:h.get? b=A' o):(b,o)∈jP fp h:=M4.mpr ⟨b,hb,by rw[e];rfl⟩
theorem xH(hp:p∈jP fp h):p.1∈fp/\h.get? p.1=A' p.2:=by
 obtain⟨b,hb,e⟩:=M4.mp hp;cases q:h.get? b with
 |none=>rw[q]at e;cases e
 |some o=>
  rw[q]at e;have e':(b,o)=p:=MC e;subst e';exact⟨hb,q⟩
theorem Inv.pinned(I:Inv X LO σ H s)(hf:∀b∈fp,lS X LO H b)(ho:∀b∈fp,∃o,s.heap.get? b=A' o/\∀v,o.data≠.cell v):Inv X (LO++jP fp s.heap) σ H s:=
 I.pins_of λp hp=>(Mt.mp hp).elim (λz=>I.pin p<|MR _ z) λz=>by
  obtain⟨hb,e⟩:=xH z;obtain⟨f0,f1,f2,_⟩:=hf p.1 hb;obtain⟨o,e',d⟩:=ho p.1 hb;rw[e]at e';cases e';exact⟨e,f0,f1,f2,d⟩
theorem Inv.unpinned(I:Inv X (LO++pl) σ H s):Inv X LO σ H s:=I.pins_of λp hp=>I.pin p<|MR _<|OA _ hp
theorem cO{pos:Pos}(hp:PassesOwn (MB X.prog X.w) X.A X.env X.xe)(hc:X.calm=LI)(hi:PI X tg Qy wi)(hg:PG X tg g)(hb:PSs X body tb)
  (hs:∀x,Rm Qy X.env x=pure x:=by intro _;rfl):PS X (.For tg Qy body [] pos) (KI wi g tb):=by
 intro LO s σ H D I h;refine wpAny_For (bG (hi LO s σ H _ I h) λv s1 h1=>bG h1 λitv s2 h2=>?_) hs;obtain⟨it,fp,tn,J,H2,e,I2,T,PL,f2,W,⟨m0,w0⟩,V0⟩:=h2;subst e;have X_:∀{H':Hp},(∀b∈fp,H' b=LL)->∀b∈fp,lS X LO H' b:=λhn b hb=>⟨hn b hb,(f2 b hb).2⟩;refine codeAny_forLoop_any (λn s'=>∃i σ' H',Inv X LO σ' H' s'/\tn i s'.heap/\(∀b∈fp,H' b=LL)/\W i n σ' H') ?_ m0 ⟨0,σ,H2,I2,PL,λb hb=>(f2 b hb).1,w0⟩;rintro n s3 ⟨i,σ3,H3,I3,V1,fr3,w3⟩;obtain⟨stop,qn⟩|⟨go,N,hN,step⟩:=V0 i n σ3 H3 w3
 ·refine Pu hp<|bG (T.done X rfl rfl rfl hc i LO s3 σ3 H3 X.xe I3 (X_ fr3) V1 stop) λr s4 ⟨hr,I4⟩=>?_;subst hr;exact Q5 ⟨σ3,H3,I4,qn⟩
 ·refine Pu hp<|bG (T.item X rfl rfl rfl hc i LO s3 σ3 H3 X.xe I3 (X_ fr3) V1 go) λr s4 ⟨u,hr,h4⟩=>?_;subst hr;refine Pu hp<|bG h4 λ_ s5 ⟨x,H5,I5,r5,y5,st5,fr5⟩=>?_;have I5':=I5.pinned (X_ fr5)<|T.obj _ _ st5;refine Pu hp<|bG (hg _ s5 σ3 H5 x u _ I5' r5<|step x H5 y5) λ_ s6 ⟨σ6,H6,I6,q6⟩=>?_;refine Pu hp<|bG (hb _ s6 σ6 H6 _ I6 q6) λf s7 q7=>?_;have again:∀{σ7:St} {H7:Hp},Inv X (LO++jP fp s5.heap) σ7 H7 s7->N σ7 H7->∃m,m < n/\∃i σ' H',Inv X LO σ' H' s7/\tn i s7.heap/\(∀b∈fp,H' b=LL)/\W i m σ' H':=λ{σ7 H7} I7 n7=>by
   obtain⟨m',hm,w7⟩:=hN σ7 H7 n7;refine⟨m',hm,i+1,σ7,H7,I7.unpinned,T.keep _ _ _ st5 λb hb o e=>(I7.pin (b,o)<|MR _<|MR _<|dU hb e).1,λb hb=>?_,w7⟩;obtain⟨o,e,d⟩:=T.obj _ _ st5 b hb;exact(I7.pin (b,o)<|MR _<|MR _<|dU hb e).2.1
  cases f with
  |next=>obtain⟨σ7,H7,I7,n7⟩:=q7;exact again I7 n7
  |cont=>obtain⟨σ7,H7,I7,n7⟩:=q7;exact again I7 n7
  |brk=>obtain⟨σ7,H7,I7,q7⟩:=q7;exact⟨σ7,H7,I7.unpinned,q7⟩
  |ret v=>obtain⟨x7,σ7,H7,I7,r7,q7⟩:=q7;exact⟨x7,σ7,H7,I7.unpinned,r7,q7⟩
theorem fD{K:K'}{a:LJ}{xs:gV V}{g:TG}{tb:TS}{D:jO}{σ:St}{H:Hp}(Pv:Nat->St->Hp->Prop)(h0:Pv 0 σ H)(hl:∀i σ H,i<=xs.length->Pv i σ H->SqL K H a xs)
  (hs:∀i x σ H,xs[i]? =A' x->Pv i σ H->g x σ H λσ2 H2=>tb {D with nx:=Pv<|i+1,ct:=Pv<|i+1,bk:=D.nx} σ2 H2) (hd:∀σ H,Pv xs.length σ H->D.nx σ H):
  ∃W:Nat->Nat->St->Hp->Prop,(∃m,W 0 m σ H)/\∀i m σ H,W i m σ H->
   ((C5 K a).stop i H/\D.nx σ H)\/((C5 K a).go i H/\∃N:St->Hp->Prop,(∀σ' H',N σ' H'->∃m',m' < m/\W (i+1) m' σ' H')/\∀x H',(C5 K a).yld i H x H'->g x σ H' λσ2 H2=>tb {D with nx:=N,ct:=N,bk:=D.nx} σ2 H2):=by
 exists λi m σ H=>m=xs.length - i/\i<=xs.length/\Pv i σ H,⟨xs.length,by simp,Mw _,h0⟩;rintro i m σ H ⟨rfl,hi,p⟩;have q:=hl i σ H hi p;by_cases Qi:i < xs.length
 ·refine .inr ⟨⟨xs,xs[i],q,by simp [Qi]⟩,Pv<|i+1,λσ' H' p'=>⟨xs.length - (i+1),by lia,rfl,Qi,p'⟩,λx H' y=>?_⟩;obtain⟨e,y⟩:=y;subst e;exact hs i x σ _ (y xs q) p
 ·have e:i=xs.length:=by lia
  subst e;exact .inl ⟨⟨xs,q,LQ _⟩,hd σ H p⟩
theorem pH{K:K'}{a:LJ}{xs:gV V}{g:TG}{tb:TS}{D:jO}{σ:St}{H:Hp}(Pv:Nat->St->Hp->Prop)(h0:Pv 0 σ H)(hl:∀i σ H,i<=xs.length->Pv i σ H->SqT K H a xs)
  (hs:∀i x σ H,xs[i]? =A' x->Pv i σ H->g x σ H λσ2 H2=>tb {D with nx:=Pv<|i+1,ct:=Pv<|i+1,bk:=D.nx} σ2 H2) (hd:∀σ H,Pv xs.length σ H->D.nx σ H):
  ∃W:Nat->Nat->St->Hp->Prop,(∃m,W 0 m σ H)/\∀i m σ H,W i m σ H->
   ((Dc K a).stop i H/\D.nx σ H)\/((Dc K a).go i H/\∃N:St->Hp->Prop,(∀σ' H',N σ' H'->∃m',m' < m/\W (i+1) m' σ' H')/\∀x H',(Dc K a).yld i H x H'->g x σ H' λσ2 H2=>tb {D with nx:=N,ct:=N,bk:=D.nx} σ2 H2):=by
 exists λi m σ H=>m=xs.length - i/\i<=xs.length/\Pv i σ H,⟨xs.length,by simp,Mw _,h0⟩;rintro i m σ H ⟨rfl,hi,p⟩;have q:=hl i σ H hi p;by_cases Qi:i < xs.length
 ·refine .inr ⟨⟨xs,xs[i],q,by simp [Qi]⟩,Pv<|i+1,λσ' H' p'=>⟨xs.length - (i+1),by lia,rfl,Qi,p'⟩,λx H' y=>?_⟩;obtain⟨e,y⟩:=y;subst e;exact hs i x σ _ (y xs q) p
 ·have e:i=xs.length:=by lia
  subst e;exact .inl ⟨⟨xs,q,LQ _⟩,hd σ H p⟩
theorem jQ{lo:Int}{n:Nat}{g:TG}{tb:TS}{D:jO}(Pv:Nat->St->Hp->Prop)(h0:Pv 0 σ H)
  (hs:∀i σ H,i < n->Pv i σ H->g (.int<|lo+i) σ H λσ2 H2=>tb {D with nx:=Pv<|i+1,ct:=Pv<|i+1,bk:=D.nx} σ2 H2) (hd:∀σ H,Pv n σ H->D.nx σ H):
  ∃W:Nat->Nat->St->Hp->Prop,(∃m,W 0 m σ H)/\∀i m σ H,W i m σ H->
   ((E5 lo n).stop i H/\D.nx σ H)\/((E5 lo n).go i H/\∃N:St->Hp->Prop,(∀σ' H',N σ' H'->∃m',m' < m/\W (i+1) m' σ' H')/\∀x H',(E5 lo n).yld i H x H'->g x σ H' λσ2 H2=>tb {D with nx:=N,ct:=N,bk:=D.nx} σ2 H2):=by
 exists λi m σ H=>m=n - i/\i<=n/\Pv i σ H,⟨n,by simp,Mw _,h0⟩;rintro i m σ H ⟨rfl,hi,p⟩;by_cases Qi:i < n
 ·refine .inr ⟨Qi,Pv<|i+1,λσ' H' p'=>⟨n - (i+1),by lia,rfl,Qi,p'⟩,λx H' y=>?_⟩;obtain⟨e,y⟩:=y;subst e y;exact hs i σ _ Qi p
 ·have e:i=n:=by lia
  subst e;exact .inl ⟨LQ _,hd σ H p⟩
abbrev R2:=V->V->Hp->VK->Prop
def OpR(X:Cx)(f:LF->LF->Sem LF)(r:R2):Prop:=
 ∀(LO:gV (LJ×Obj)) (s:LR) (σ:St) (H:Hp) (x y:V) (v u:LF) (Q:VK),Inv X LO σ H s->RelV x v->RelV y u->r x y H Q->
  wpAny (MB X.prog X.w) X.A (f v u) (EP X LO σ Q) X.xe s
def KJ(X:Cx)(f:LF->Sem LF)(r:V->Hp->VK->Prop):Prop:=
 ∀(LO:gV (LJ×Obj)) (s:LR) (σ:St) (H:Hp) (x:V) (v:LF) (Q:VK),Inv X LO σ H s->RelV x v->r x H Q->
  wpAny (MB X.prog X.w) X.A (f v) (EP X LO σ Q) X.xe s
def dQ(X:Cx)(f:LF)(r:gV V->Hp->VK->Prop):Prop:=
 ∀(LO:gV (LJ×Obj)) (s:LR) (σ:St) (H:Hp) (xs:gV V) (us:gV LF) (Q:VK),Inv X LO σ H s->Vals xs us->r xs H Q->
  wpAny (MB X.prog X.w) X.A (call f us) (EP X LO σ Q) X.xe s
def KK(X:Cx)(r:V->Hp->(Md->Hp->Prop)->Prop):Prop:=
 ∀(LO:gV (LJ×Obj)) (s:LR) (σ:St) (H:Hp) (x:V) (v:LF) (Q:Md->Hp->Prop),Inv X LO σ H s->RelV x v->r x H Q->
  wpAny (MB X.prog X.w) X.A (truthy v) (TP X LO σ Q) X.xe s
def Im(r:R2)(ta tb:TE):TE:=λσ H Q=>ta σ H λx H1=>tb σ H1 λy H2=>r x y H2 Q
def LB(r:V->Hp->VK->Prop)(ta:TE):TE:=λσ H Q=>ta σ H λx H1=>r x H1 Q
inductive Lk (C:Int->Int->Prop)(g:Int->Int->V)(x y:V)(H:Hp)(Q:VK):Prop
 |mk (i j:Int)(hx:x=.int i)(hy:y=.int j)(c:C i j)(q:Q (g i j) H):Lk C g x y H Q
inductive Ll (g:Int->Int->V)(x y:V)(H:Hp)(Q:VK):Prop
 |mk (i j:Int)(hx:x=.int i)(hy:y=.int j)(q:Q (g i j) H):Ll g x y H Q
inductive Lm (g:Int->V)(x:V)(H:Hp)(Q:VK):Prop
 |mk (i:Int)(hx:x=.int i)(q:Q (g i) H):Lm g x H Q
def rI(C:Int->Int->Prop)(g:Int->Int->V):R2:=λx y H Q=>Lk C g x y H Q
def Dd(g:Int->Int->V):R2:=λx y H Q=>Ll g x y H Q
def rU(g:Int->V):V->Hp->VK->Prop:=λx H Q=>Lm g x H Q
theorem Gy(ha:PE X a ta)(hb:PE X b tb){R:V->V->Hp->Prop}(I:Inv X LO σ H s)
  (h:ta σ H λx H1=>tb σ H1 λy H2=>R x y H2) {Q:LF->LR->Prop} {f:LF->LF->Sem LF}
  (hf:∀v u s2 x y H2,Inv X LO σ H2 s2->RelV x v->RelV y u->R x y H2->wpAny (MB X.prog X.w) X.A (f v u) Q X.xe s2):
  wpAny (MB X.prog X.w) X.A (Oj a X.env) (λv s₁=>wpAny (MB X.prog X.w) X.A (Oj b X.env) (λu s₂=>wpAny (MB X.prog X.w) X.A (f v u) Q X.xe s₂) X.xe s₁) X.xe s:=by
 refine bG (ha LO s σ H _ I h) λv s1 ⟨x,H1,I1,r1,q1⟩=>?_;refine bG (hb LO s1 σ H1 _ I1 q1) λu s2 ⟨y,H2,I2,r2,q2⟩=>?_;exact hf v u s2 x y H2 I2 r1 r2 q2
theorem aU(ho:OpR X (Pz op) r)(ha:PE X a ta)(hb:PE X b tb):PE X (.BinOp a op b pos) (Im r ta tb):=by
 intro LO s σ H Q I h;exact wpAny_BinOp<|Gy ha hb I h λv u s2 x y H2 I2 rx ry q=>ho LO s2 σ H2 x y v u Q I2 rx ry q
theorem fk(ho:KJ X (unaryOp op) r)(ha:PE X a ta):PE X (.UnaryOp op a pos) (LB r ta):=by
 intro LO s σ H Q I h;exact UnaryOp_<|bG (ha LO s σ H _ I h) λv s1 ⟨x,H1,I1,r1,q1⟩=>ho LO s1 σ H1 x v Q I1 r1 q1
theorem IO{f:LF->LF->Sem LF}{C:Int->Int->Prop}{g:Int->Int->Int}
  (rule:∀i j t u s Q E,C i j->Q (.int (g i j) s.toks) {s with toks:=s.toks+1}->wpAny (MB X.prog X.w) X.A (f (.int i t)<|.int j u) Q E s):
  OpR X f (rI C λi j=>.int<|g i j):=by
 intro LO s σ H x y v u Q I rx ry h;obtain⟨i,j,rfl,rfl,hc,q⟩:=h;obtain⟨t,rfl⟩:=rx;obtain⟨t',rfl⟩:=ry;exact rule i j t t' s _ _ hc ⟨.int<|g i j,H,I.tok _,⟨_,rfl⟩,q⟩
theorem Gz{f:LF->LF->Sem LF}{g:Int->Int->Int}
  (rule:∀i j t u s Q E,Q (.int (g i j) s.toks) {s with toks:=s.toks+1}->wpAny (MB X.prog X.w) X.A (f (.int i t)<|.int j u) Q E s):
  OpR X f (Dd λi j=>.int<|g i j):=by
 intro LO s σ H x y v u Q I rx ry h;obtain⟨i,j,rfl,rfl,q⟩:=h;obtain⟨t,rfl⟩:=rx;obtain⟨t',rfl⟩:=ry;exact rule i j t t' s _ _ ⟨.int<|g i j,H,I.tok _,⟨_,rfl⟩,q⟩
theorem De{f:LF->LF->Sem LF}{g:Int->Int->Md}
  (rule:∀i j t u s Q E,Q (.bool<|g i j) s->wpAny (MB X.prog X.w) X.A (f (.int i t)<|.int j u) Q E s):
  OpR X f (Dd λi j=>.bl<|g i j):=by
 intro LO s σ H x y v u Q I rx ry h;obtain⟨i,j,rfl,rfl,q⟩:=h;obtain⟨t,rfl⟩:=rx;obtain⟨t',rfl⟩:=ry;exact rule i j t t' s _ _ ⟨.bl<|g i j,H,I,rfl,q⟩
def KL(i j:Int):Prop:=0 < j/\j < 1073741824
def KM(i j:Int):Prop:=0<=j/\j<=1000000/\i.natAbs < 2 ^ 64
def CMul(i j:Int):Prop:=(-(2 ^ 64) < i/\i < 2 ^ 64)\/(-(2 ^ 64) < j/\j < 2 ^ 64)
theorem CMul.ok(h:CMul i j):IntMulOk i j:=by
 obtain⟨h1,h2⟩|⟨h1,h2⟩:=h
 ·exact .of_left<|Y6 h1 h2
 ·exact .of_right<|Y6 h1 h2
theorem t6(k:Nat):(0:Int)<=2 ^ k:=by
 rw[two_pow_cast];exact S2 _
theorem g_:OpR X (Pz .Add) (Dd λi j=>.int<|i+j):=Gz λ_ _ _ _ _ _ _ q=>add_int q
theorem pI:OpR X (Pz .Sub) (Dd λi j=>.int<|i - j):=Gz λ_ _ _ _ _ _ _ q=>sub_int q
theorem hG:OpR X (Pz .Mult) (rI CMul λi j=>.int<|i*j):=IO λ_ _ _ _ _ _ _ hc q=>mul_int q hc.ok
theorem fR:OpR X (Pz .FloorDiv) (rI KL λi j=>.int<|i / j):=IO λi j _ _ _ _ _ hc q=>by
 have h1:(0:Int) < j:=hc.1;have h2:j < 1073741824:=hc.2;exact floordiv_int (by lia) (by rw[S3 i<|by lia];exact q) (.inl<|UC<|by lia)
theorem dW:OpR X (Pz .Mod) (rI (λ_ j=>0 < j) λi j=>.int<|i % j):=IO λi j _ _ _ _ _ hc q=>by
 have h1:(0:Int) < j:=hc;exact mod_int' (by lia) (by rw[Int.fmod_eq_emod_of_nonneg i<|by lia];exact q)
theorem zf:OpR X (Pz .LShift) (rI KM λi j=>.int<|i*2 ^ j.toNat):=IO λ_ _ _ _ _ _ _ hc q=>lshift_int_small hc.1 hc.2.1 hc.2.2 q
theorem zg:OpR X (Pz .RShift) (rI (λ_ j=>0<=j) λi j=>.int<|i / 2 ^ j.toNat):=IO λi j _ _ _ _ _ hc q=>
 rshift_int hc (by rw[S3 i<|t6 _];exact q)
theorem zh:OpR X (Pz .BitAnd) (Dd λi j=>.int<|P4 i j):=Gz λ_ _ _ _ _ _ _ q=>and_int q
theorem LC{f:LF->Sem LF}{g:Int->Int}
  (rule:∀i t s Q E,Q (.int (g i) s.toks) {s with toks:=s.toks+1}->wpAny (MB X.prog X.w) X.A (f<|.int i t) Q E s):
  KJ X f (rU λi=>.int<|g i):=by
 intro LO s σ H x v Q I rx h;obtain⟨i,rfl,q⟩:=h;obtain⟨t,rfl⟩:=rx;exact rule i t s _ _ ⟨.int<|g i,H,I.tok _,⟨_,rfl⟩,q⟩
theorem c7:KJ X (unaryOp .USub) (rU λi=>.int (-i)):=LC λ_ _ _ _ _ q=>neg_int q
def IP:V->V->Md
 |.non,.non=>LI|.non,.int _=>LI|.int _,.non=>LI|.non,.bl _=>LI|.bl _,.non=>LI|.non,.str _=>LI|.str _,.non=>LI
 |.int _,.int _=>LI|.bl _,.bl _=>LI|.str _,.str _=>LI|.byt _,.byt _=>LI
 |.int _,.str _=>LI|.str _,.int _=>LI|.bl _,.str _=>LI|.str _,.bl _=>LI
 |_,_=>LM
def Lo:R2:=λx y H Q=>IP x y=LI/\Q (.bl (decide (x=y))) H
def KN:R2:=λx y H Q=>IP x y=LI/\Q (.bl (!decide (x=y))) H
theorem vH:decide (V.int i=V.int j)=(i == j):=by
 rw[NB];simp
theorem pJ:decide (V.bl i=V.bl j)=(i == j):=by
 rw[NB];simp
theorem vI:decide (V.str i=V.str j)=(i == j):=by
 rw[NB];simp
theorem vJ:decide (V.byt i=V.byt j)=(i.toList == j.toList):=by
 rw[NB];cases i;cases j;simp
theorem bi(I:Inv X LO σ H s)(q:Q (.bl k) H)(e:k=k'):EP X LO σ Q (.bool k') s:=by
 subst e;exact⟨.bl k,H,I,rfl,q⟩
theorem IQ:OpR X (NG .Eq) Lo:=by
 intro LO s σ H x y v u Q I rx ry h;obtain⟨hs,q⟩:=h;cases x with
 |non=>
  cases rx;cases y with
  |non=>cases ry;exact YQ (bi I q<|by simp)
  |bl j=>cases ry;exact YR (bi I q<|by simp)
  |int j=>obtain⟨t',rfl⟩:=ry;exact Zk (bi I q<|by simp)
  |str j=>obtain⟨t',rfl⟩:=ry;exact Zj (bi I q<|by simp)
  |_=>exact absurd (show LM=LI from hs) Mb
 |bl i=>
  cases rx;cases y with
  |non=>cases ry;exact YS (bi I q<|by simp)
  |bl j=>cases ry;exact eq_bool<|bi I q pJ
  |str j=>obtain⟨t',rfl⟩:=ry;exact YW (bi I q<|by simp)
  |_=>exact absurd (show LM=LI from hs) Mb
 |int i=>
  obtain⟨t,rfl⟩:=rx;cases y with
  |non=>cases ry;exact Zl (bi I q<|by simp)
  |int j=>obtain⟨t',rfl⟩:=ry;exact eq_int<|bi I q vH
  |str j=>obtain⟨t',rfl⟩:=ry;exact Zp (bi I q<|by simp)
  |_=>exact absurd (show LM=LI from hs) Mb
 |str i=>
  obtain⟨t,rfl⟩:=rx;cases y with
  |non=>cases ry;exact Zi (bi I q<|by simp)
  |bl j=>cases ry;exact YV (bi I q<|by simp)
  |int j=>obtain⟨t',rfl⟩:=ry;exact Zo (bi I q<|by simp)
  |str j=>obtain⟨t',rfl⟩:=ry;exact eq_str<|bi I q vI
  |_=>exact absurd (show LM=LI from hs) Mb
 |byt i=>
  obtain⟨t,rfl⟩:=rx;cases y with
  |byt j=>obtain⟨t',rfl⟩:=ry;exact PySem.W.eq_bytes<|bi I q vJ
  |_=>exact absurd (show LM=LI from hs) Mb
 |_=>cases y<;>exact absurd (show LM=LI from hs) Mb
theorem IR:OpR X (NG .NotEq) KN:=by
 intro LO s σ H x y v u Q I rx ry h;obtain⟨hs,q⟩:=h;cases x with
 |non=>
  cases rx;cases y with
  |non=>cases ry;exact YM (bi I q<|by simp)
  |bl j=>cases ry;exact YN (bi I q<|by simp)
  |int j=>obtain⟨t',rfl⟩:=ry;exact Zg (bi I q<|by simp)
  |str j=>obtain⟨t',rfl⟩:=ry;exact Zf (bi I q<|by simp)
  |_=>exact absurd (show LM=LI from hs) Mb
 |bl i=>
  cases rx;cases y with
  |non=>cases ry;exact YO (bi I q<|by simp)
  |bl j=>cases ry;exact ne_bool<|bi I q<|M0 not pJ
  |str j=>obtain⟨t',rfl⟩:=ry;exact YU (bi I q<|by simp)
  |_=>exact absurd (show LM=LI from hs) Mb
 |int i=>
  obtain⟨t,rfl⟩:=rx;cases y with
  |non=>cases ry;exact Zh (bi I q<|by simp)
  |int j=>obtain⟨t',rfl⟩:=ry;exact ne_int<|bi I q<|M0 not vH
  |str j=>obtain⟨t',rfl⟩:=ry;exact Zn (bi I q<|by simp)
  |_=>exact absurd (show LM=LI from hs) Mb
 |str i=>
  obtain⟨t,rfl⟩:=rx;cases y with
  |non=>cases ry;exact Ze (bi I q<|by simp)
  |bl j=>cases ry;exact YT (bi I q<|by simp)
  |int j=>obtain⟨t',rfl⟩:=ry;exact Zm (bi I q<|by simp)
  |str j=>obtain⟨t',rfl⟩:=ry;exact ne_str<|bi I q<|M0 not vI
  |_=>exact absurd (show LM=LI from hs) Mb
 |byt i=>
  obtain⟨t,rfl⟩:=rx;cases y with
  |byt j=>obtain⟨t',rfl⟩:=ry;exact PySem.W.ne_bytes<|bi I q<|M0 not vJ
  |_=>exact absurd (show LM=LI from hs) Mb
 |_=>cases y<;>exact absurd (show LM=LI from hs) Mb
theorem vK:OpR X (NG .Lt) (Dd λi j=>.bl (decide (i < j))):=De λ_ _ _ _ _ _ _ q=>lt_int q
theorem qT:OpR X (NG .LtE) (Dd λi j=>.bl (decide (i<=j))):=De λ_ _ _ _ _ _ _ q=>le_int q
theorem lT:OpR X (NG .Gt) (Dd λi j=>.bl (decide (j < i))):=De λ_ _ _ _ _ _ _ q=>gt_int q
theorem qU:OpR X (NG .GtE) (Dd λi j=>.bl (decide (j<=i))):=De λ_ _ _ _ _ _ _ q=>ge_int q
theorem lU:OpR X (NG .Is) (λx y H Q=>y=.non/\Q (.bl (decide (x=.non))) H):=by
 intro LO s σ H x y v u Q I rx ry h;obtain⟨rfl,q⟩:=h;cases ry;refine is_none_gen<|bi I q ?_;cases x<;>first
  |(cases rx;rfl)
  |(obtain⟨t,rfl⟩:=rx;rfl)
theorem Df:OpR X (NG .IsNot) (λx y H Q=>y=.non/\Q (.bl (!decide (x=.non))) H):=by
 intro LO s σ H x y v u Q I rx ry h;obtain⟨rfl,q⟩:=h;cases ry;refine isnot_none_gen<|bi I q ?_;cases x<;>first
  |(cases rx;rfl)
  |(obtain⟨t,rfl⟩:=rx;rfl)
theorem pK:OpR X (NG .NotIn) (λx y H Q=>∃i j,x=.str i/\y=.str j/\Q (.bl (!(!(ZK j i 0 j.length 1).isEmpty))) H):=by
 intro LO s σ H x y v u Q I rx ry h;obtain⟨i,j,rfl,rfl,q⟩:=h;obtain⟨t,rfl⟩:=rx;obtain⟨t',rfl⟩:=ry;exact notIn_str<|bi I q rfl
theorem OpR.or(h:OpR X f r)(h':OpR X f r'):OpR X f (λx y H Q=>r x y H Q\/r' x y H Q):=by
 intro LO s σ H x y v u Q I rx ry q;obtain q|q:=q
 ·exact h LO s σ H x y v u Q I rx ry q
 ·exact h' LO s σ H x y v u Q I rx ry q
theorem aB(b:Nt)(h:op≠.In:=by decide)(h2:op≠.NotIn:=by decide):RX op b=false:=by
 have e1:(op == CmpOp.In)=false:=by cases op<;>first|rfl|exact absurd rfl h
 have e2:(op == CmpOp.NotIn)=false:=by cases op<;>first|rfl|exact absurd rfl h2
 cases b<;>simp [RX,e1,e2]
theorem aY(ho:OpR X (NG op) r)(ha:PE X a ta)(hb:PE X b tb)(hm:RX op b=LM):PE X (.Compare a [op] [b] pos) (Im r ta tb):=by
 intro LO s σ H Q I h;exact wpAny_Compare1 (Gy ha hb I h λv u s2 x y H2 I2 rx ry q=>ho LO s2 σ H2 x y v u Q I2 rx ry q) hm
def E6(t:TE):TT:=λσ H Q=>t σ H λx H'=>Gr x Q H'
theorem ay(ho:OpR X (NG op) r)(ha:PE X a ta)(hb:PE X b tb)(hm:RX op b=LM):PT X (.Compare a [op] [b] pos) (E6<|Im r ta tb):=by
 intro LO s σ H Q I h;refine U0 (bG (ha LO s σ H _ I h) λv s1 ⟨x,H1,I1,r1,q1⟩=>bG (hb LO s1 σ H1 _ I1 q1) λu s2 ⟨y,H2,I2,r2,q2⟩=>
  bG (ho LO s2 σ H2 x y v u _ I2 r1 r2 q2) λc s3 ⟨z,H3,I3,r3,k,e,q3⟩=>?_) hm
 subst e;cases r3;exact NM ⟨H3,I3,q3⟩
def zi(r r':R2)(ta tb tc:TE):TE:=λσ H Q=>ta σ H λx H1=>tb σ H1 λy H2=>r x y H2 λz H3=>∃k,z=.bl k/\
 (if k=LI then tc σ H3 λw' H4=>r' y w' H4 Q else Q (.bl LM) H3)
theorem zj(ho:OpR X (NG op) r)(ho':OpR X (NG op') r')(ha:PE X a ta)(hb:PE X b tb)(hc:PE X c tc)
  (hm:lastMarks [op,op'] [b,c]=false:=by with_unfolding_all rfl):PE X (.Compare a [op,op'] [b,c] pos) (zi r r' ta tb tc):=by
 intro LO s σ H Q I h;refine Compare_chain (bG (ha LO s σ H _ I h) λv s1 ⟨x,H1,I1,r1,q1⟩=>chain_link (bG (hb LO s1 σ H1 _ I1 q1) λu s2 ⟨y,H2,I2,r2,q2⟩=>
  bG (ho LO s2 σ H2 x y v u _ I2 r1 r2 q2) λd s3 ⟨z,H3,I3,r3,k,e,q3⟩=>?_)) hm
 subst e;cases r3;refine NM ?_;cases k with
 |false=>exact ite_ff ⟨.bl LM,H3,I3,rfl,q3⟩
 |true=>exact ite_tt<|chain_last<|bG (hc LO s3 σ H3 _ I3 q3) λw' s4 ⟨z',H4,I4,r4,q4⟩=>ho' LO s4 σ H4 y z' u w' Q I4 r2 r4 q4
theorem qV(ho:OpR X (NG op) r)(ho':OpR X (NG op') r')(ha:PE X a ta)(hb:PE X b tb)(hc:PE X c tc)
  (hm:lastMarks [op,op'] [b,c]=false:=by with_unfolding_all rfl):PT X (.Compare a [op,op'] [b,c] pos) (E6<|zi r r' ta tb tc):=by
 intro LO s σ H Q I h;refine isTrue_chain (bG (ha LO s σ H _ I h) λv s1 ⟨x,H1,I1,r1,q1⟩=>test_link (bG (hb LO s1 σ H1 _ I1 q1) λu s2 ⟨y,H2,I2,r2,q2⟩=>
  bG (ho LO s2 σ H2 x y v u _ I2 r1 r2 q2) λd s3 ⟨z,H3,I3,r3,k,e,q3⟩=>?_)) hm
 subst e;cases r3;refine NM ?_;cases k with
 |false=>
  obtain⟨k',e',q'⟩:=q3;cases e';exact ite_ff ⟨H3,I3,q'⟩
 |true=>
  refine ite_tt<|test_last<|bG (hc LO s3 σ H3 _ I3 q3) λw' s4 ⟨z',H4,I4,r4,q4⟩=>bG (ho' LO s4 σ H4 y z' u w' _ I4 r2 r4 q4) λd' s5 ⟨z2,H5,I5,r5,k2,e2,q5⟩=>?_;subst e2;cases r5;exact NM ⟨H5,I5,q5⟩
def Dg(K:K')(x:V)(H:Hp)(k:Md):Prop:=
 match x with
 |.non=>k=LM
 |.bl b=>k=b
 |.int i=>k=(i != 0)
 |.str y=>y.length<=sizeLine/\k=((y.length:Int) != 0)
 |.byt y=>y.size<=sizeLine/\k=((y.size:Int) != 0)
 |.ref p=>(∃xs,SqL K H p xs/\k=!xs.isEmpty)\/(∃xs,SqT K H p xs/\k=!xs.isEmpty)\/∃kvs,H p=A' (.dK kvs)/\k=!kvs.isEmpty
 |_=>False
theorem t7{κ:Type}{kvs:gV (κ×V)}{vs:gV (κ×LF)}(r:KV kvs vs):(!vs.isEmpty)=!kvs.isEmpty:=by
 cases r<;>rfl
theorem lV(r:Vals xs NH):(!NH.toArray.isEmpty)=!xs.isEmpty:=by
 cases r<;>simp
theorem lW:(sizeLine:Nat) < 2 ^ 63:=by rw[NT];decide
theorem GA:KK X (λx H Q=>∃k,Dg X.K x H k/\Q k H):=by
 intro LO s σ H x v Q I rx h;obtain⟨k,e,q⟩:=h;have hl:=lW;have hs:sizeLine=16777216:=NT;cases x with
 |non=>
  cases rx;have e':k=false:=e;subst e';exact truthy_none ⟨H,I,q⟩
 |bl b=>
  cases rx;have e':k=b:=e;subst e';exact NM ⟨H,I,q⟩
 |int i=>
  obtain⟨t,rfl⟩:=rx;have e':k=(i != 0):=e;subst e';exact PySem.P.truthy_int ⟨H,I,q⟩
 |str y=>
  obtain⟨t,rfl⟩:=rx;obtain⟨hy,e'⟩:y.length<=sizeLine/\k=((y.length:Int) != 0):=e;subst e';exact PySem.P.truthy_str (by lia) ⟨H,I.tok _,q⟩
 |byt y=>
  obtain⟨t,rfl⟩:=rx;obtain⟨hy,e'⟩:y.size<=sizeLine/\k=((y.size:Int) != 0):=e;subst e';exact PySem.W.truthy_bytes (by lia) ⟨H,I.tok _,q⟩
 |ref p=>
  cases rx;have e':(∃xs,SqL X.K H p xs/\k=!xs.isEmpty)\/(∃xs,SqT X.K H p xs/\k=!xs.isEmpty)\/∃kvs,H p=A' (.dK kvs)/\k=!kvs.isEmpty:=e;obtain⟨xs,hx,e'⟩|⟨xs,hx,e'⟩|⟨kvs,hx,e'⟩:=e'
  ·subst e';obtain⟨NH,r,pl,hz⟩:=I.list hx;have N1:=r.length;exact wpAny_truthy_list pl.isList (by simp only [Mf];lia) ⟨H,I.tok _,by rw[lV r];exact q⟩
  ·subst e';obtain⟨NH,r,pl,hz⟩:=I.tuple hx;have N1:=r.length;exact truthy_tuple pl (by simp only [Mf];lia) ⟨H,I.tok _,by rw[lV r];exact q⟩
  ·subst e';obtain⟨hz,hS,vs,r,m⟩:kvs.length<=sizeLine/\(p == Ov)=LM/\∃vs,KV kvs vs/\s.heap.DictOf (a_ X.prog X.w) p vs:=I.hok p _ hx;have N1:kvs.length=vs.length:=Paired.length r;exact wpAny_truthy_dict hS m (by lia) ⟨H,I.tok _,by rw[t7 r];exact q⟩
 |_=>exact(show False from e).elim
theorem hU(ha:PE X a ta)(he:∀VS,isTrue a X.env VS=(do let v <-VS;VC a.pos;Ti [v] (truthy v))):
  PT X a (λσ H Q=>ta σ H λx H'=>∃k,Dg X.K x H' k/\Q k H'):=by
 intro LO s σ H Q I h;exact isTrue_plain (bG (ha LO s σ H _ I h) λv s1 ⟨x,H1,I1,r1,q1⟩=>GA LO s1 σ H1 x v Q I1 r1 q1)<|he _
theorem dE(r:Vals [x] us):∃u,us=[u]/\RelV x u:=by
 cases r with
 |cons r1 r2=>cases r2;exact⟨_,rfl,r1⟩
theorem E7(r:Vals [x,y] us):∃u w',us=[u,w']/\RelV x u/\RelV y w':=by
 cases r with
 |cons r1 r2=>
  cases r2 with
  |cons r3 r4=>cases r4;exact⟨_,_,rfl,r1,r3⟩
theorem cP:dQ X (.builtin "abs") (λxs H Q=>∃i,xs=[.int i]/\Q (.int (if i < 0 then -i else i)) H):=by
 intro LO s σ H xs us Q I r h;obtain⟨i,rfl,q⟩:=h;obtain⟨u,rfl,t,rfl⟩:=dE r;exact VY λu tk=>⟨.int (if i < 0 then -i else i),H,I.tok _,⟨_,rfl⟩,q⟩
theorem nZ:dQ X (.type "int") (λxs H Q=>(∃i,xs=[.int i]/\Q (.int i) H)\/∃k,xs=[.bl k]/\Q (.int (if k then 1 else 0)) H):=by
 intro LO s σ H xs us Q I r h;obtain⟨i,rfl,q⟩|⟨k,rfl,q⟩:=h
 ·obtain⟨u,rfl,t,rfl⟩:=dE r;exact call_int_int ⟨.int i,H,I,⟨_,rfl⟩,q⟩
 ·obtain⟨u,rfl,r1⟩:=dE r;cases r1;exact call_int_bool ⟨.int (if k then 1 else 0),H,I.tok _,⟨_,rfl⟩,q⟩
theorem jh:dQ X (.type "str") (λxs H Q=>∃i,xs=[.int i]/\i.natAbs.log2 < 1920/\Q (.str<|toString i) H):=by
 intro LO s σ H xs us Q I r h;obtain⟨i,rfl,hz,q⟩:=h;obtain⟨u,rfl,t,rfl⟩:=dE r;exact PySem.P.str_of_int hz ⟨.str _,H,I.tok _,⟨_,rfl⟩,q⟩
def KO(K:K')(x:V)(H:Hp)(n:Nat):Prop:=
 match x with
 |.str y=>y.length<=sizeLine/\n=y.length
 |.byt y=>y.size<=sizeLine/\n=y.size
 |.ref p=>(∃xs,SqL K H p xs/\n=xs.length)\/∃xs,SqT K H p xs/\n=xs.length
 |_=>False
inductive GB (K:K')(xs:gV V)(H:Hp)(Q:VK):Prop
 |mk (x:V)(n:Nat)(h:xs=[x])(l:KO K x H n)(q:Q (.int n) H):GB K xs H Q
theorem bh:dQ X (.builtin "len") (GB X.K):=by
 intro LO s σ H xs us Q I r h;obtain⟨x,n,rfl,e,q⟩:=h;obtain⟨u,rfl,rx⟩:=dE r;have hl:=lW;have hs:sizeLine=16777216:=NT;cases x with
 |str y=>
  obtain⟨t,rfl⟩:=rx;obtain⟨hy,e'⟩:y.length<=sizeLine/\n=y.length:=e;subst e';exact len_str (by lia) ⟨.int _,H,I.tok _,⟨_,rfl⟩,q⟩
 |byt y=>
  obtain⟨t,rfl⟩:=rx;obtain⟨hy,e'⟩:y.size<=sizeLine/\n=y.size:=e;subst e';exact PySem.W.len_bytes (by lia) ⟨.int _,H,I.tok _,⟨_,rfl⟩,q⟩
 |ref p=>
  cases rx;have e':(∃xs,SqL X.K H p xs/\n=xs.length)\/∃xs,SqT X.K H p xs/\n=xs.length:=e;obtain⟨xs,hx,e'⟩|⟨xs,hx,e'⟩:=e'
  ·subst e';obtain⟨NH,r',pl,hz⟩:=I.list hx;have N1:=r'.length;exact Calls.call_len_list pl.isList (by simp only [Mf];lia) ⟨.int xs.length,H,I.tok _,⟨_,by simp only [Mf];rw[N1]⟩,q⟩
  ·subst e';obtain⟨NH,r',pl,hz⟩:=I.tuple hx;have N1:=r'.length;exact len_tuple pl (by simp only [Mf];lia) ⟨.int xs.length,H,I.tok _,⟨_,by simp only [Mf];rw[N1]⟩,q⟩
 |_=>exact(show False from e).elim
structure ObjM (h:M8)(x dx C:LJ)(mA:Str->LH LF):Prop where
 obj:h.get? x=A' (O6 C dx)
 ns:h.Ns1 dx mA
 ne:dx≠x
theorem xI{h:M8}{dx:LJ}{mA:Str->LH LF}(n:h.Ns1 dx mA):∃od,h.get? dx=A' od/\∀name,SF name od=A' (mA name):=by
 obtain⟨o,es,ep,ho,hd,hk,_,hm⟩:=n;refine⟨o,ho,λname=>?_⟩;have e:=hm name;unfold nsFind findBy at e;rw[<-Array.find?_toList]at e;unfold SF;rw[hd];dsimp only
 split
 ·rename_i y q;rw[q]at e;exact M0 A' e
 ·rename_i q;rw[q]at e;have a:es.toList.any (·.refKey)=false:=by
   rw[List.any_eq_false];intro y hy;obtain⟨z,t,UY⟩:=hk y<|Array.mem_toList_iff.mp hy;simp [ab3,UY]
  have a':¬es.toList.any (·.refKey)=true:=by rw[a];exact Mb
  rw[Mi a'];exact M0 A' e
theorem ObjM.look(I:ObjM h x dx C mA):∃od,PySem.W.InstAt h x (O6 C dx) C (A' od)/\∀name,SF name od=A' (mA name):=
 let ⟨od,ho,hl⟩:=xI I.ns
 ⟨od,⟨I.obj,rfl,rfl,ho⟩,hl⟩
section
variable {prog:Mm}{w:MK}{A:Nl}{E:LF->LR->Prop}{s:LR}{K:K'}{x dx C f:LJ}{mA:Str->LH LF}{name:Str}{v:LF}
theorem Dh{aii:Md}{Q:LF->LR->Prop}(X:K.In s.heap)(I:ObjM s.heap x dx C mA)(hg:QI K C name=LI)(hh:Rp K C=LI)
  (ha:MV K (.ref C) name=A' LL) (hv:mA name=A' v) (hv':Xk v=LI) (h:Q v {s with toks:=s.toks+1}):
  wpAny (MB prog w) A (getAttr (.ref x) name aii) Q E s:=by
 obtain⟨od,J,hl⟩:=I.look;exact PySem.W.get_value X J (Sf hg).1 (PySem.W.findObj_own hh ha rfl<|by rw[hl,hv]) hv' h
theorem zk{pl:Sem Md}{Q:LF×gV LF->LR->Prop}(X:K.In s.heap)(I:ObjM s.heap x dx C mA)(hg:QI K C name=LI)
  (hf:MV K (.ref C) name=A' (A'<|.ref f)) (ht:Oq K (.ref f)=LI) (hv:mA name=LL) (h:Q (.ref f,[.ref x]) s):
  wpAny (MB prog w) A (Ua (.ref x) name pl) Q E s:=by
 obtain⟨od,J,hl⟩:=I.look;exact PySem.W.method_fn X J (Sf hg).1 (Sf hg).2 hf (Pf.mp ht) (by show(SF name od).map (·.isSome)=A' LM;rw[hl,hv];rfl) h
theorem Di{ns:gV Str}{Q:UZ->LR->Prop}(X:K.In s.heap)(I:ObjM s.heap x dx C mA)
  (hs:MV K (.ref C) "__setattr__"=A' (A'<|.builtin "object.__setattr__")) (hp:Tn K C=LI) (ht:US K C name=A' LL) (hh:Rp K C=LI)
  (hw:WL mA ns) (hsz:ns.length<=sizeLine)
  (h:∀h',ObjM h' x dx C (λy=>if y=name then A' v else mA y)->PD dx s.heap h'->Q () {s with heap:=h',toks:=s.toks+2}):
  wpAny (MB prog w) A (setAttr (.ref x) name v) Q E s:=by
 obtain⟨od,J,hl⟩:=I.look;refine PySem.W.set_plain X J hs<|PySem.W.osa_open (s:={s with toks:=s.toks+1}) (r:=LL) X J hp ht λb=>?_;obtain⟨cd,hc,hd'⟩:=PySem.W.any_some hh;have hx:s.heap.get? x=A' ⟨.ref C,A' dx,.plain,#[]⟩:=I.obj;refine LG<|Me<|LG<|LG<|wpAny_loadPart hx<|LG<|abm (s:={s with toks:=s.toks+1}) (PySem.W.looks_clsIn X hc) ?_;rw[hd'];refine Me (a:=A' dx)<|LG<|Me<|LG ?_;refine wpAny_nsSet1 (s:={s with toks:=s.toks+1}) I.ns λh' hn2 hs2=>?_;obtain⟨oD,esD,epD,hoD,hdD,hcD⟩:=hn2.count<|abH name v hw;refine LG<|wpAny_lookBehind hoD (by rw[hdD];exact pastItsLine_dict<|MD hcD<|by rw[L4];lia) ?_;exact Me<|h _ ⟨(hs2.2 _<|NC I.ne).trans I.obj,hn2,I.ne⟩ hs2
theorem zl{R:Vi->LR->Prop}{vs:gV LF}{kw:gV (Str×LF)}(X:K.In s.heap)(hm:UT K C=LI)
  (hi:MV K (.ref C) "__init__"=A' (A'<|.ref f)) (hf:PySem.W.typeIn K (.ref f)=A' (.type "function"))
  (h:codeAny (MB prog w) (A.under<|.builtin "type.__call__" ⟨.ref C::vs,kw⟩) (.call (.ref f) ⟨.ref (s.heap.objs.size+1)::vs,kw⟩) (PySem.W.InitBack (s.heap.objs.size+1) R)
   {s with heap:=(s.heap.push Oi).push<|O6 C s.heap.objs.size}):
  codeAny (MB prog w) A (.call (.ref C) ⟨vs,kw⟩) R s:=by
 obtain⟨hh,g,d,t,os⟩:=s;exact PySem.W.make_core (PySem.W.makes_of X hm) (PySem.W.looks_findIn X hi) (λself=>PySem.W.bind_fn X self hf) (.inl rfl) h
end
def fM(f:Str)(v:V):gV (Str×V)->gV (Str×V)
 |[]=>[(f,v)]
 |(g,x)::r=>if g=f then(g,v)::r else(g,x)::fM f v r
theorem kI(f g:Str)(v:V):∀fs,(fM f v fs).lookup g=if g=f then A' v else fs.lookup g
 |[]=>by
  show Rg g [(f,v)]=_
  by_cases h:g=f
  ·have hb:(g == f)=true:=Pf.mpr h;simp only [Rg,hb,Ml h]
  ·have hb:(g == f)=false:=ND.mpr h;simp only [Rg,hb,Mi h]
 |(k,x)::r=>by
  have ih:=kI f g v r;rw[show fM f v ((k,x)::r)=(if k=f then(k,v)::r else(k,x)::fM f v r)from rfl];by_cases hk:k=f
  ·rw[Ml hk];by_cases h:g=k
   ·have hb:(g == k)=true:=Pf.mpr h;simp only [Rg,hb,Ml<|h.trans hk]
   ·have hb:(g == k)=false:=ND.mpr h;simp only [Rg,hb,Mi λe:g=f=>h<|e.trans hk.symm]
  ·rw[Mi hk];by_cases h:g=k
   ·have hb:(g == k)=true:=Pf.mpr h;simp only [Rg,hb,Mi λe:g=f=>hk<|h.symm.trans e]
   ·have hb:(g == k)=false:=ND.mpr h;simp only [Rg,hb];exact ih
theorem jR(f:Str)(v:V):∀fs,f∈(fM f v fs).map (·.1)/\∀g,g∈fs.map (·.1)->g∈(fM f v fs).map (·.1)
 |[]=>⟨by simp [fM],λg h=>by simp at h⟩
 |(k,x)::r=>by
  obtain⟨i1,i2⟩:=jR f v r;rw[show fM f v ((k,x)::r)=(if k=f then(k,v)::r else(k,x)::fM f v r)from rfl];by_cases hk:k=f
  ·rw[Ml hk];subst hk;exact⟨by simp,λg h=>by simpa using h⟩
  ·rw[Mi hk];refine⟨?_,λg h=>?_⟩
   ·rw[MH];exact LY _ i1
   ·rw[MH]at h ⊢;obtain e|e:=Mn.mp h
    ·exact Mn.mpr<|.inl e
    ·exact LY _<|i2 g e
theorem kJ(f:Str)(v:V):∀fs,(fM f v fs).length<=fs.length+1
 |[]=>by simp [fM]
 |(k,x)::r=>by
  have ih:=kJ f v r;rw[show fM f v ((k,x)::r)=(if k=f then(k,v)::r else(k,x)::fM f v r)from rfl];by_cases hk:k=f
  ·rw[Ml hk,L4,L4];lia
  ·rw[Mi hk,L4,L4];lia
theorem RelO.some_of(r:RelO (A' v) o):∃u,o=A' u/\RelV v u:=by
 cases o with
 |none=>exact(show False from r).elim
 |some u=>exact⟨u,rfl,r⟩
theorem RelO.none_of(r:RelO LL o):o=none:=by
 cases o with
 |none=>rfl
 |some u=>exact(show False from r).elim
theorem xJ(r:RelV v u):Xk u=true:=by
 cases v with
 |non=>cases(show u=QA from r);rfl
 |bl b=>cases(show u=Wc b from r);rfl
 |int i=>obtain⟨t,e⟩:=(show∃t,u=Sw i t from r);cases e;rfl
 |str x=>obtain⟨t,e⟩:=(show∃t,u=Uc x t from r);cases e;rfl
 |byt b=>obtain⟨t,e⟩:=(show∃t,u=aaC b t from r);cases e;rfl
 |flt b=>obtain⟨t,e⟩:=(show∃t,u=XF b t from r);cases e;rfl
 |ref a=>cases(show u=M' a from r);rfl
 |ty n=>cases(show u=SI n from r);rfl
theorem lx(hok:HOk P w H h)(e:H a=A' (.ins C dx fs)):∃mA,ObjM h a dx C mA/\(∀f,RelO (fs.lookup f)<|mA f)/\WL mA (fs.map (·.1))/\fs.length<=1000/\H dx=A' (.own a):=by
 obtain⟨d,z,ne,ob,mA,n,r,q⟩:=(show ObjOk P w H h a (.ins C dx fs)from hok a _ e);exact⟨mA,⟨ob,n,ne⟩,r,q,z,d⟩
structure Cls (K:K')(C:LJ):Prop where
 pg:QI K C QJ=LI
 hd:Rp K C=LI
 po:Tn K C=LI
 sa:MV K (.ref C) "__setattr__"=A' (A'<|.builtin "object.__setattr__")
theorem Cls.get{K:K'}{C:LJ}(c:Cls K C)(f:Str):QI K C f=true:=c.pg
def NoAttr(K:K')(C:LJ)(f:Str):Prop:=MV K (.ref C) f=A' LL
theorem NoAttr.taker{K:K'}{C:LJ}{f:Str}(n:NoAttr K C f):US K C f=A' none:=by
 unfold US;rw[show MV K (.ref C) f=A' LL from n];rfl
structure Dj (K:K')(C:LJ)(m:Str)(f:LJ):Prop where
 at_:MV K (.ref C) m=A' (A'<|.ref f)
 fn:Oq K (.ref f)=LI
 kp:Pk K (.ref f)=LI
theorem t8{b:Md}{Q:LF->LR->Prop}(I:Inv X LO σ H s)(e:H a=A' (.ins C dx fs))(c:Cls X.K C)(n:NoAttr X.K C f)(l:fs.lookup f=A' v)
  (h:∀u s',Inv X LO σ H s'->RelV v u->Q u s'):wpAny (MB X.prog X.w) A (getAttr (.ref a) f b) Q E s:=by
 obtain⟨mA,O,r,_,_,_⟩:=lx I.hok e;obtain⟨u,hu,ru⟩:=RelO.some_of (v:=v) (o:=mA f) (by rw[<-l];exact r f);exact Dh I.kIn O (c.get f) c.hd n hu (xJ ru)<|h u _ (I.tok _) ru
theorem lX{pl:Sem Md}{Q:LF×gV LF->LR->Prop}(I:Inv X LO σ H s)(e:H a=A' (.ins C dx fs))(c:Cls X.K C)(k:Dj X.K C m g)(l:fs.lookup m=LL)
  (h:Q (.ref g,[.ref a]) s):wpAny (MB X.prog X.w) A (Ua (.ref a) m pl) Q E s:=by
 obtain⟨mA,O,r,_,_,_⟩:=lx I.hok e;have hn:mA m=none:=RelO.none_of (by rw[<-l];exact r m);exact zk I.kIn O (c.get m) k.at_ k.fn hn h
theorem t9{Q:UZ->LR->Prop}(I:Inv X LO σ H s)(e:H a=A' (.ins C dx fs))(c:Cls X.K C)(n:NoAttr X.K C f)(hl:fs.length < 1000)(ry:RelV y u)
  (h:∀s',Inv X LO σ (upd H a<|.ins C dx<|fM f y fs) s'->Q () s'):wpAny (MB X.prog X.w) A (setAttr (.ref a) f u) Q E s:=by
 obtain⟨mA,O,r,wi,_,ho⟩:=lx I.hok e;have hz:(fs.map (·.1)).length<=sizeLine:=by rw[J',NT];lia
 refine Di I.kIn O c.sa c.po n.taker c.hd wi hz λh' O' sb=>h _ ?_;have hd:∃o,h'.get? dx=A' o:=let ⟨o,_,_,e',_⟩:=O'.ns;⟨o,e'⟩
 refine I.write (x:=a) (e:=dx) (by rw[e];exact OF) (.inr ho) (λb q hb z=>(sb.2 b hb).trans z) hd ?_;refine⟨by rw[al O.ne];exact ho,?_,O.ne,O'.obj,_,O'.ns,λg=>?_,λg hg=>?_⟩
 ·have:=kJ f y fs;lia
 ·show RelO ((fM f y fs).lookup g) (if g=f then A' u else mA g)
  rw[kI];by_cases q:g=f
  ·rw[Ml q,Ml q];exact ry
  ·rw[Mi q,Mi q];exact r g
 ·by_cases q:g=f
  ·rw[q];exact(jR f y fs).1
  ·refine(jR f y fs).2 g<|wi g λz=>hg ?_;show(if g=f then A' u else mA g)=LL
   rw[Mi q];exact z
theorem Inv.made(I:Inv X LO σ H s):Inv X LO σ (upd (upd H s.heap.objs.size<|.own<|s.heap.objs.size+1) (s.heap.objs.size+1)<|.ins C s.heap.objs.size [])
  {s with heap:=(s.heap.push Oi).push<|O6 C s.heap.objs.size}:=by
 have e1:(s.heap.push Oi).get? s.heap.objs.size=A' Oi:=MG s.heap rfl;have e2:((s.heap.push Oi).push<|O6 C s.heap.objs.size).get? (s.heap.objs.size+1)=A' (O6 C s.heap.objs.size):=by
  have:=MG (s.heap.push Oi) (o:=O6 C s.heap.objs.size) rfl
  rwa [P0]at this
 have e3:(s.heap.push Oi).Ns s.heap.objs.size (λ_=>LL):=⟨Oi,#[],_,e1,rfl,(λe he=>absurd he<|by simp),λ_=>rfl⟩;have I1:=I.laid (a:=s.heap.objs.size) (o:=.own<|s.heap.objs.size+1) (h':=s.heap.push Oi) (t':=s.toks) (λb u q=>LP _ q) (LQ _) ⟨_,e1⟩;refine I1.laid (a:=s.heap.objs.size+1) (o:=.ins C s.heap.objs.size []) (t':=s.toks) (λb u q=>LP _ q) (QN<|P0 _ _) ?_;have ne:s.heap.objs.size≠s.heap.objs.size+1:=Mx<|Xu _;refine⟨by rw[al ne,ad],Mw _,ne,e2,λ_=>LL,(Heap.Ns1.of_empty e3).at λo q=>LP _ q,λ_=>OF,λy hy=>absurd rfl hy⟩
theorem Dk{prog:Mm}{w:MK}{pos:Pos}{s:LR}{Q:LF->LR->Prop}(hb:QX e f env (Oj e env)=Oj e env)
  (h:wpAny (MB prog w) A (Oj e env) (λo s₁=>wpAny (MB prog w) A (getAttr o f LI) Q E s₁) E s):wpAny (MB prog w) A (Oj (.Attribute e f pos) env) Q E s:=
 Attribute_any_ h (by rw[arm_eval_Attribute,hb])
def GC(K:K')(ta:TE)(f:Str):TE:=λσ H Q=>ta σ H λx H1=>∃a C dx fs v,x=.ref a/\H1 a=A' (.ins C dx fs)/\Cls K C/\NoAttr K C f/\fs.lookup f=A' v/\Q v H1
def GD(K:K')(ta tv:TE)(f:Str):TS:=λD σ H=>tv σ H λy H1=>ta σ H1 λx H2=>∃a C dx fs,x=.ref a/\H2 a=A' (.ins C dx fs)/\Cls K C/\NoAttr K C f/\fs.length < 1000/\
 D.nx σ (upd H2 a<|.ins C dx<|fM f y fs)
theorem bu(he:PE X e ta)(hb:QX e f X.env (Oj e X.env)=Oj e X.env):PE X (.Attribute e f pos) (GC X.K ta f):=by
 intro LO s σ H Q I h;refine Dk hb<|bG (he LO s σ H _ I h) λu s1 ⟨x,H1,I1,rx,a,C,dx,fs,v,ex,ea,c,n,l,q⟩=>?_;subst ex;obtain rfl:u=M' a:=rx;exact t8 I1 ea c n l λu' s2 I2 ru=>⟨v,H1,I2,ru,q⟩
theorem hV(ha:PE X o ta)(hv:PE X value tv)(hs:VB value (A'<|.Attribute o f VH) pos.line X.env=pure LM):PS X (.Assign [.Attribute o f VH] value pos) (GD X.K ta tv f):=by
 intro LO s σ H D I h;refine plainObj_wpAny_Assign_Attribute (bG (hv LO s σ H _ I h) λu s1 ⟨y,H1,I1,ry,q⟩=>bG (ha LO s1 σ H1 _ I1 q) λov s2 ⟨x,H2,I2,rx,a,C,dx,fs,ex,ea,c,n,l,q2⟩=>?_) hs;subst ex;obtain rfl:ov=M' a:=rx;exact t9 I2 ea c n l ry λs3 I3=>⟨σ,_,I3,q2⟩
inductive ji (K:K')(H:Hp):V->LF->Prop where
 |non:ji K H .non (.type "NoneType")
 |bl (x:Md):ji K H (.bl x) (.type "bool")
 |int (i:Int):ji K H (.int i) (.type "int")
 |str (x:Str):ji K H (.str x) (.type "str")
 |flt (x:UInt64):ji K H (.flt x) (.type "float")
 |lst {a:LJ} {xs:gV V} (e:H a=A' (.lst xs)):ji K H (.ref a) (.type "list")
 |frz {a:LJ} {o:Obj} {xs:gV V} (e:H a=A' (.frz o<|.lst xs)):ji K H (.ref a) (.type "list")
 |tup {a:LJ} {xs:gV V} (e:H a=A' (.tup xs)):ji K H (.ref a) (.type "tuple")
 |dK {a:LJ} {kvs:gV (bo×V)} (e:H a=A' (.dK kvs)):ji K H (.ref a) (.type "dict")
 |dT {a:LJ} {kvs:gV (gV bo×V)} (e:H a=A' (.dT kvs)):ji K H (.ref a) (.type "dict")
 |ins {a C dx:LJ} {fs:gV (Str×V)} (e:H a=A' (.ins C dx fs)) (cl:Cls K C) (ha:MV K (.ref C) "__class__"=A' (A'<|.builtin "object.__class__"))
   (hn:PySem.W.specialIn K (.builtin "object.__class__") "__get__"=A' (A'<|.builtin "getset_descriptor.__get__")) (ZO:PySem.W.takesIn K (.builtin "object.__class__")=A' LI)
   (hm:PySem.W.mroIn K C (.type "object")=A' LI):ji K H (.ref a) (.ref C)
theorem xK(I:Inv X LO σ H s)(rx:RelV x u)(ty:ji X.K H x t)(e:Pj X.K t c=A' b)(h:∀tk,Q (.bool b) {s with toks:=tk}):
  wpAny (MB X.prog X.w) A (call (.builtin "isinstance") [u,c]) Q E s:=by
 cases ty with
 |non=>cases(show u=QA from rx);exact Og PySem.W.kitx_none I.kIn OF e (λz=>nomatch z) h
 |bl y=>cases(show u=Wc y from rx);exact Og PySem.W.kitx_bool I.kIn OF e (λz=>nomatch z) h
 |int i=>obtain⟨t,q⟩:=(show∃t,u=Sw i t from rx);cases q;exact Og PySem.W.kitx_int I.kIn OF e (λz=>nomatch z) h
 |str y=>obtain⟨t,q⟩:=(show∃t,u=Uc y t from rx);cases q;exact Og PySem.W.kitx_str I.kIn OF e (λz=>nomatch z) h
 |flt y=>obtain⟨t,q⟩:=(show∃t,u=XF y t from rx);cases q;exact Og PySem.W.kitx_float I.kIn OF e (λz=>nomatch z) h
 |@lst a xs ea=>
  cases(show u=M' a from rx);obtain⟨_,_,n,_,h1⟩:=(show ObjOk X.prog X.w H s.heap a (.lst xs)from I.hok a _ ea);exact Og WM I.kIn ⟨_,h1,rfl⟩ e (λz=>nomatch z) h
 |@frz a ob xs ea=>
  cases(show u=M' a from rx);obtain⟨_,_,_,n,_,h1⟩:=(show ObjOk X.prog X.w H s.heap a (.frz ob<|.lst xs)from I.hok a _ ea);exact Og WM I.kIn ⟨_,h1,rfl⟩ e (λz=>nomatch z) h
 |@tup a xs ea=>
  cases(show u=M' a from rx);obtain⟨_,_,_,p⟩:=(show ObjOk X.prog X.w H s.heap a (.tup xs)from I.hok a _ ea);obtain⟨o,h1,h2,_⟩:=p;exact Og PySem.W.kitx_tuple I.kIn ⟨o,h1,h2⟩ e (λz=>nomatch z) h
 |@dK a kvs ea=>
  cases(show u=M' a from rx);obtain⟨_,_,vs,_,p⟩:=(show ObjOk X.prog X.w H s.heap a (.dK kvs)from I.hok a _ ea);obtain⟨o,es,ep,h1,h2,_⟩:=p;exact Og WN I.kIn ⟨o,h1,h2.1⟩ e (λz=>nomatch z) h
 |@dT a kvs ea=>
  cases(show u=M' a from rx);obtain⟨_,_,xs,_,o,es,ep,h1,h2,_⟩:=(show ObjOk X.prog X.w H s.heap a (.dT kvs)from I.hok a _ ea);exact Og WN I.kIn ⟨o,h1,h2.1⟩ e (λz=>nomatch z) h
 |@ins a C dx fs ea cl ha hn ZO hm=>
  cases(show u=M' a from rx);obtain⟨mA,O,_⟩:=lx I.hok ea;obtain⟨od,J,_⟩:=O.look;exact Og (PySem.W.kitx_own (cl.get _) cl.hd ha hn ZO hm) I.kIn J e (λz=>nomatch z) h
structure Room (k:Nat)(A:Nl):Prop where
 hd:A.handled=LL
 dp:A.depth+3*k+5 < Ym
 un:A.units+16*k+200 < PU
theorem Room.mono(r:Room k A)(h:j<=k):Room j A:=⟨r.hd,by have:=r.dp;lia,by have:=r.un;lia⟩
theorem Room.deeper(r:Room (k+1) A)(env:Env):Room k (A.deeper env):=
 ⟨r.hd,by have:=r.dp;show A.depth+1+3*k+5 < _;lia,by have:=r.un;show A.units+3+16*k+200 < _;lia⟩
theorem t_{A:Nl}{C:LJ}{us:gV LF}{kw:gV (Str×LF)}:(A.under<|.builtin "type.__call__" ⟨.ref C::us,kw⟩).depth=A.depth+1:=by
 first|rfl|simp [WW,Code.weight,Code.isCreation,Code.isGuard,Code.isCaller,aaL,WT,guardIds]
theorem ua{A:Nl}{C:LJ}{us:gV LF}{kw:gV (Str×LF)}:(A.under<|.builtin "type.__call__" ⟨.ref C::us,kw⟩).units=A.units+1:=by
 first|rfl|simp [WW,Code.cUnits,aaL,WT]
theorem Room.make(r:Room (k+1) A)(C:LJ)(us:gV LF)(kw:gV (Str×LF)):Room k (A.under<|.builtin "type.__call__" ⟨.ref C::us,kw⟩):=
 ⟨r.hd,by have:=r.dp;rw[t_];lia,by have:=r.un;rw[ua];lia⟩
theorem Room.depth(r:Room k A):A.depth < Ym:=by have:=r.dp;lia
theorem Room.units(r:Room k A):A.units+64 < PU:=by have:=r.un;lia
def qW:TA:=λ_ H Q=>Q [] H
def iS(ta:TE)(tr:TA):TA:=λσ H Q=>ta σ H λx H1=>tr σ H1 λxs H2=>Q (x::xs) H2
theorem ae:PA X [] qW:=λ_ _ _ _ H Q I h=>WU ⟨[],H,I,.nil,h⟩
theorem aa(ha:PE X e te)(hr:PA X es t)(hs:MT (e::es) X.env=(LM,Oj e X.env)::MT es X.env:=by rfl):PA X (e::es) (iS te t):=by
 intro pos LO s σ H Q I h;rw[hs];show wpAny _ _ (spliced<|(LM,Oj e X.env)::O_ pos (MT es X.env)) _ _ s
 refine SO<|bG (ha LO s σ H _ I h) λu s1 ⟨x,H1,I1,r1,q1⟩=>?_;exact bG (hr pos LO s1 σ H1 _ I1 q1) λus s2 ⟨xs,H2,I2,r2,q2⟩=>⟨x::xs,H2,I2,.cons r1 r2,q2⟩
def KP(t:TA):TE:=λσ H Q=>t σ H λxs H1=>xs.length<=sizeLine/\∀p,H1 p=LL->Q (.ref p) (upd H1 p<|.tup xs)
def KQ(t:TA):TE:=λσ H Q=>t σ H λxs H1=>xs.length<=sizeLine/\∀p,H1 p=LL->Q (.ref p) (upd H1 p<|.lst xs)
theorem bx{x1}(h:PA X es t):PE X (.Tuple es x1 pos) (KP t):=by
 intro LO s σ H Q I hq;refine wpAny_Tuple_spliced<|bG (h pos LO s σ H _ I hq) λus s1 ⟨xs,H1,I1,r,z,q⟩=>⟨by rw[<-r.length];exact z,?_⟩;have hf:H1 s1.heap.objs.size=none:=I1.hok.fresh<|LQ _;refine⟨.ref s1.heap.objs.size,upd H1 s1.heap.objs.size<|.tup xs,I1.laid (t':=s1.toks) (λb u e=>LP _ e) (LQ _) ?_,rfl,q _ hf⟩;exact⟨z,us,r,⟨_,MG _ rfl,rfl,_,rfl⟩⟩
theorem bY(h:PA X es t):PE X (.List es pos) (KQ t):=by
 intro LO s σ H Q I hq;refine wpAny_List_spliced<|bG (h pos LO s σ H _ I hq) λus s1 ⟨xs,H1,I1,r,z,q⟩=>⟨by rw[<-r.length];exact z,?_⟩;have hf:H1 s1.heap.objs.size=none:=I1.hok.fresh<|LQ _;refine⟨.ref s1.heap.objs.size,upd H1 s1.heap.objs.size<|.lst xs,I1.laid (t':=s1.toks) (λb u e=>LP _ e) (LQ _) ?_,rfl,q _ hf⟩;exact⟨z,us,0,r,MG _ rfl⟩
abbrev Sp:=gV V->Hp->VK->XK->Prop
abbrev xL:=gV Env->Hp->LR->XK->LF->LR->Prop
structure Env0 (P:Mm)(w:MK)(K:K')(mg:Str->LH LF)(base:M8)(A:Nl)(outer:gV Env)(s:LR)(H:Hp):Prop where
 frames:A.frames=A' outer
 mod:Mod K mg base
 bs:∀b o,base.get? b=A' o->s.heap.get? b=A' o/\H b=LL
 bsz:base.objs.size<=s.heap.objs.size
 funs:s.heap.FunFrames base outer
 frf:∀b∈iz outer,H b=LL
 hok:HOk P w H s.heap
 bare:Ss s.gens
def CE(outer:gV Env)(P:Mm)(w:MK)(H:Hp)(s:LR)(Q:VK)(u:LF)(s':LR):Prop:=
 ∃v H',s'.os=s.os/\Ss s'.gens/\Un (iz outer) [] H H' s.heap s'.heap/\HOk P w H' s'.heap/\RelV v u/\Q v H'
def CR(CX:xL)(outer:gV Env)(P:Mm)(w:MK)(H:Hp)(s:LR)(Q:VK)(E:XK)(r:Vi)(s':LR):Prop:=
 match r with
 |.ok (.ret u)=>CE outer P w H s Q u s'
 |.ok _=>False
 |.error e=>CX outer H s E e s'
structure FnOk (P:Mm)(w:MK)(K:K')(mg:Str->LH LF)(base:M8)(CX:xL)(k:Nat)(f:LJ)(fd:Ms)(ps:gV Str)(sp:Sp):Prop where
 len:∀vs H Q E,sp vs H Q E->vs.length=ps.length
 run:∀(A:Nl) (outer:gV Env) (s:LR) (H:Hp) (args:Args) (us:gV LF) (vs:gV V) (Q:VK) (E:XK),Room k A->Env0 P w K mg base A outer s H->WV s fd args (ps.zip us)->Vals vs us->sp vs H Q E->
  codeAny (MB P w) A (.call (.ref f) args) (CR CX outer P w H s Q E) s
theorem Env0.make{P:Mm}{w:MK}{K:K'}{mg:Str->LH LF}{base:M8}{A:Nl}{outer:gV Env}{s:LR}{H:Hp}(e:Env0 P w K mg base A outer s H)(C:LJ)(us:gV LF)(kw:gV (Str×LF)):
  Env0 P w K mg base (A.under<|.builtin "type.__call__" ⟨.ref C::us,kw⟩) outer s H:=⟨by first|exact e.frames|(simpa [WW,Code.envs,WT,pushEnvs]using e.frames),e.mod,e.bs,e.bsz,e.funs,e.frf,e.hok,e.bare⟩
theorem Inv.env0(I:Inv X LO σ H s):Env0 X.prog X.w X.K X.mg X.base X.A X.stack s H:=
 ⟨I.ok.frames,I.ok.mod,I.bs,MD I.ok.bsz I.sz,I.stack,I.stkFree,I.hok,I.bare⟩
theorem Inv.after(I:Inv X LO σ H s)(h:CE X.stack X.prog X.w H s Q u s'):EP X LO σ Q u s':=by
 obtain⟨v,H',os,bare,un,hok,r,q⟩:=h;obtain⟨hh,g,d,t,os'⟩:=s';obtain rfl:os'=s.os:=os;exact⟨v,H',I.call (h':=hh) (g':=g) (d':=d) (t':=t) (ch:=[]) un hok bare (λb z=>absurd z<|by simp),r,q⟩
def qX(sp:Sp)(Y1:gV V)(E:XK)(t:TA):TE:=λσ H Q=>t σ H λvs H1=>sp (vs++Y1) H1 Q E
def qY(C:LJ)(m:Str)(sp:Sp)(Y1:gV V)(E:XK)(ta:TE)(t:TA):TE:=λσ H Q=>ta σ H λx H1=>∃a dx fs,x=.ref a/\H1 a=A' (.ins C dx fs)/\fs.lookup m=LL/\
 t σ H1 λvs H2=>sp (x::(vs++Y1)) H2 Q E
def E8(C:LJ)(sp:Sp)(Y1:gV V)(E:XK)(t:TA):TE:=λσ H Q=>t σ H λvs H1=>∀x dx,H1 x=LL->H1 dx=LL->dx≠x->
 sp (.ref x::(vs++Y1)) (upd (upd H1 dx<|.own x) x<|.ins C dx []) (λv H2=>v=.non/\Q (.ref x) H2) E
def Binds(K:K')(fd:Ms)(ps:gV Str)(ds:gV LF):Prop:=
 ∀(s:LR) (us:gV LF),K.In s.heap->(us++ds).length=ps.length->WV s fd ⟨us,[]⟩ (ps.zip<|us++ds)
theorem Binds.all{K:K'}{fd:Ms}{ps:gV Str}(h:∀us,us.length=ps.length->Ub fd ⟨us,[]⟩=pure (ps.zip us)):Binds K fd ps []:=λs us _ hl=>by
 rw[N0]at hl ⊢;exact .of_eq<|h us hl
def gE(CX:xL)(X:Cx)(E:XK):Prop:=∀(LO:gV (LJ×Obj)) (σ:St) (H:Hp) (s:LR) (e:LF) (s':LR),Inv X LO σ H s->CX X.stack H s E e s'->X.xe e s'
section
variable {X:Cx}{CX:xL}{k:Nat}{f C:LJ}{fd:Ms}{ps:gV Str}{sp:Sp}{Y1:gV V}{ds:gV LF}{E:XK}{x:Str}{p pos:Pos}{e:Nt}{es:gV Nt}{t:TA}
theorem ub{LO:gV (LJ×Obj)}{σ:St}{H:Hp}{s:LR}{Q:VK}{us:gV LF}{vs:gV V}(F:FnOk X.prog X.w X.K X.mg X.base CX k f fd ps sp)(hr:Room k X.A)(hb:Binds X.K fd ps ds)(hd:Vals Y1 ds)(hx:gE CX X E)
  (I:Inv X LO σ H s) (r:Vals vs us) (h:sp (vs++Y1) H Q E):wpAny (MB X.prog X.w) X.A (call (.ref f) us) (EP X LO σ Q) X.xe s:=by
 have r2:Vals (vs++Y1) (us++ds):=r.append hd;have hl:(us++ds).length=ps.length:=by rw[<-r2.length];exact F.len _ _ _ _ h
 refine wpAny_call<|Sn (F.run X.A X.stack s H ⟨us,[]⟩ (us++ds) (vs++Y1) Q E hr I.env0 (hb s us I.kIn hl) r2 h) λr s' hq=>?_;cases r with
 |error e=>exact hx LO σ H s e s' I hq
 |ok fl=>
  cases fl with
  |ret u=>exact I.after hq
  |next=>exact O8 hq
  |brk=>exact O8 hq
  |cont=>exact O8 hq
theorem pL(F:FnOk X.prog X.w X.K X.mg X.base CX k f fd ps sp)(hr:Room k X.A)(hg:Gl X x)(hm:X.mg x=A' (.ref f))(hk:Pk X.K (.ref f)=LI)(hb:Binds X.K fd ps ds)(hd:Vals Y1 ds)(hx:gE CX X E)
  (ha:PA X (e::es) t) (hdb:(x == ("__debug__":Str))=false:=by decide) (he:MT (e::es) X.env=(LM,Oj e X.env)::MT es X.env:=by rfl) (X3:(O_ pos<|MT es X.env).any (·.1)=false:=by rfl):
  PE X (.Call (.Name x p) (e::es) [] pos) (qX sp Y1 E t):=by
 intro LO s σ H Q I h;refine Ph<|lq I hg hm ?_ hdb;refine SG (h₀:=X.base) I.ok.mod.kin hk (bG (ha pos LO s σ H _ I h) λus s1 ⟨vs,H1,I1,r,q⟩=>⟨I1.kIn,?_⟩) he X3;exact ub F hr hb hd hx I1 r q
theorem Dm{m:Str}{R9:Pos}{o:Nt}{ta:TE}{pl:Sem Md}(he:PE X o ta)(c:Cls X.K C)(hm:Dj X.K C m f)(F:FnOk X.prog X.w X.K X.mg X.base CX k f fd ps sp)(hr:Room k X.A)(hb:Binds X.K fd ps ds)(hd:Vals Y1 ds)(hx:gE CX X E)(ha:PA X (e::es) t)
  (ZP:MT (e::es) X.env=(LM,Oj e X.env)::MT es X.env:=by rfl) (X3:(O_ pos<|MT es X.env).any (·.1)=false:=by rfl)
  (ht:Oj (.Call (.Attribute o m R9) (e::es) [] pos) X.env=(do
   let ov <-Oj o X.env
   VC R9.atName
   let (f,first) <-Ti [ov] (Ua ov m pl)
   Yq pos f first (O_ pos<|MT (e::es) X.env) (Vf pos<|RZ [] X.env)):=by rfl):
  PE X (.Call (.Attribute o m R9) (e::es) [] pos) (qY C m sp Y1 E ta t):=by
 intro LO s σ H Q I h;refine U1 (pl:=pl) (bG (he LO s σ H _ I h) λu s1 ⟨x,H1,I1,rx,a,dx,fs,ex,ea,l,q⟩=>?_) ht;subst ex;obtain rfl:u=M' a:=rx;refine lX I1 ea c hm l ?_;refine SG (first:=[.ref a]) (h₀:=X.base) I.ok.mod.kin hm.kp (bG (ha pos LO s1 σ H1 _ I1 q) λus s2 ⟨vs,H2,I2,r,q2⟩=>⟨I2.kIn,?_⟩) ZP X3;exact ub (us:=.ref a::us) (vs:=.ref a::vs) F hr hb hd hx I2 (.cons rfl r) q2
theorem zm{pl:Sem Md}(he:PE X o ta)(c:Cls X.K C)(hm:Dj X.K C m f)(F:FnOk X.prog X.w X.K X.mg X.base CX k f fd ps sp)(hr:Room k X.A)(hb:Binds X.K fd ps ds)(hd:Vals Y1 ds)(hx:gE CX X E)
  (ht:Oj (.Call (.Attribute o m R9) [] [] pos) X.env=(do
   let ov <-Oj o X.env
   VC R9.atName
   let (f,first) <-Ti [ov] (Ua ov m pl)
   Yq pos f first (O_ pos<|MT [] X.env) (Vf pos<|RZ [] X.env)):=by rfl):
  PE X (.Call (.Attribute o m R9) [] [] pos) (qY C m sp Y1 E ta qW):=by
 intro LO s σ H Q I h;refine U1 (pl:=pl) (bG (he LO s σ H _ I h) λu s1 ⟨x,H1,I1,rx,a,dx,fs,ex,ea,l,q⟩=>?_) ht;subst ex;obtain rfl:u=M' a:=rx;refine lX I1 ea c hm l ?_;exact PySem.W.callWith_K0 (first:=[.ref a]) I1.kIn hm.kp<|ub (us:=[.ref a]) (vs:=[.ref a]) F hr hb hd hx I1 (.cons rfl .nil) q
structure Mk (K:K')(C f:LJ):Prop where
 makes:UT K C=LI
 init:MV K (.ref C) "__init__"=A' (A'<|.ref f)
 fn:Oq K (.ref f)=LI
 kp:Pk K (.ref C)=LI
theorem zn{LO:gV (LJ×Obj)}{σ:St}{H:Hp}{s:LR}{Q:VK}{us:gV LF}{vs:gV V}(M:Mk X.K C f)(F:FnOk X.prog X.w X.K X.mg X.base CX k f fd ps sp)(hr:Room (k+1) X.A)(hb:Binds X.K fd ps ds)(hd:Vals Y1 ds)
  (hx:gE CX X E) (I:Inv X LO σ H s) (r:Vals vs us)
  (h:∀x dx,H x=LL->H dx=LL->dx≠x->sp (.ref x::(vs++Y1)) (upd (upd H dx<|.own x) x<|.ins C dx []) (λv H2=>v=.non/\Q (.ref x) H2) E):
  wpAny (MB X.prog X.w) X.A (call (.ref C) us) (EP X LO σ Q) X.xe s:=by
 have hq:=h (s.heap.objs.size+1) s.heap.objs.size (I.hok.fresh<|Re _) (I.hok.fresh<|LQ _)<|Mx<|Xu _;have I2:=Inv.made (C:=C) I;have r2:Vals (V.ref (s.heap.objs.size+1)::(vs++Y1)) (M' (s.heap.objs.size+1)::(us++ds)):=.cons rfl<|r.append hd;have hl:(M' (s.heap.objs.size+1)::us++ds).length=ps.length:=by
  have e:=r2.length;rw[F.len _ _ _ _ hq]at e;exact e.symm
 refine wpAny_call (zl (f:=f) I.kIn M.makes M.init (Pf.mp M.fn) (Sn (F.run _ X.stack _ _ ⟨M' (s.heap.objs.size+1)::us,[]⟩ (M' (s.heap.objs.size+1)::(us++ds)) _ _ E (hr.make C us [])
  (I2.env0.make C us []) (hb _ (M' (s.heap.objs.size+1)::us) I2.kIn hl) r2 hq) λr s' hq'=>?_))
 cases r with
 |error e=>exact hx LO σ _ _ e s' I2 hq'
 |ok fl=>
  cases fl with
  |ret u=>
   obtain⟨v,H',I3,rv,ev,q3⟩:=I2.after hq';subst ev;exact⟨rv,⟨V.ref<|s.heap.objs.size+1,H',I3,rfl,q3⟩⟩
  |next=>exact O8 hq'
  |brk=>exact O8 hq'
  |cont=>exact O8 hq'
theorem Dn(M:Mk X.K C f)(F:FnOk X.prog X.w X.K X.mg X.base CX k f fd ps sp)(hr:Room (k+1) X.A)(hg:Gl X x)(hm:X.mg x=A' (.ref C))(hb:Binds X.K fd ps ds)(hd:Vals Y1 ds)(hx:gE CX X E)
  (ha:PA X (e::es) t) (hdb:(x == ("__debug__":Str))=false:=by decide) (he:MT (e::es) X.env=(LM,Oj e X.env)::MT es X.env:=by rfl) (X3:(O_ pos<|MT es X.env).any (·.1)=false:=by rfl):
  PE X (.Call (.Name x p) (e::es) [] pos) (E8 C sp Y1 E t):=by
 intro LO s σ H Q I h;refine Ph<|lq I hg hm ?_ hdb;refine SG (h₀:=X.base) I.ok.mod.kin M.kp (bG (ha pos LO s σ H _ I h) λus s1 ⟨vs,H1,I1,r,q⟩=>⟨I1.kIn,?_⟩) he X3;exact zn M F hr hb hd hx I1 r q
end
structure aq (N P:gV Str)(sc:QP):Prop where
 kind:sc.kind=.function
 co:sc.isCoroutine=LM
 gen:sc.isGenerator=LM
 nd:N.Nodup
 pre:N.take P.length=P
 par:∀x∈P,sc.names.lookup x=A' .local\/sc.names.lookup x=A' .cell
 nofree:∀y∈sc.names,y.2≠.free
theorem n9{kindOf:Str->LH SM}{x:Str}:∀{binds:gV (Str×LF)} {m:Str->LH LF},(∀v,(x,v)∉binds)->Yt kindOf binds m x=m x
 |[],_,_=>rfl
 |(n,v)::r,m,h=>by
  unfold Yt;rw[n9 λw hw=>h w<|LY _ hw]
  split
  ·have:x≠n:=by rintro rfl;exact h v L9
   simp [this]
  ·rfl
theorem n_{kindOf:Str->LH SM}{x:Str}:∀{binds:gV (Str×LF)} {m:Str->LH LF},(∀v,(x,v)∉binds)->Yu kindOf binds m x=m x
 |[],_,_=>rfl
 |(n,v)::r,m,h=>by
  unfold Yu;rw[n_ λw hw=>h w<|LY _ hw]
  split
  ·rfl
  ·have:x≠n:=by rintro rfl;exact h v L9
   simp [this]
theorem oa{kindOf:Str->LH SM}{x:Str}{v:LF}:∀{P:gV Str} {vs:gV LF} {i:Nat} {m:Str->LH LF},P.Nodup->P[i]? =A' x->vs[i]? =A' v->kindOf x=A' .local->
  Yt kindOf (P.zip vs) m x=A' v
 |[],_,_,_,_,h,_,_=>by simp at h
 |_::_,[],_,_,_,_,h,_=>by simp at h
 |p::P,w::vs,0,m,nd,h1,h2,hk=>by
  simp at h1 h2;subst h1;subst h2;show Yt kindOf ((p,w)::P.zip vs) m p=_
  unfold Yt;rw[n9 λv hv=>(NX.mp nd).1 (UV hv).1,Ml hk];simp
 |p::P,w::vs,i+1,m,nd,h1,h2,hk=>by
  show Yt kindOf ((p,w)::P.zip vs) m x=_
  unfold Yt;exact oa (i:=i) (NX.mp nd).2 (by simpa using h1) (by simpa using h2) hk
theorem og{kindOf:Str->LH SM}{x:Str}{v:LF}:∀{P:gV Str} {vs:gV LF} {i:Nat} {m:Str->LH LF},P.Nodup->P[i]? =A' x->vs[i]? =A' v->kindOf x≠A' .local->
  Yu kindOf (P.zip vs) m x=A' v
 |[],_,_,_,_,h,_,_=>by simp at h
 |_::_,[],_,_,_,_,h,_=>by simp at h
 |p::P,w::vs,0,m,nd,h1,h2,hk=>by
  simp at h1 h2;subst h1;subst h2;show Yu kindOf ((p,w)::P.zip vs) m p=_
  unfold Yu;rw[n_ λv hv=>(NX.mp nd).1 (UV hv).1,Mi hk];simp
 |p::P,w::vs,i+1,m,nd,h1,h2,hk=>by
  show Yu kindOf ((p,w)::P.zip vs) m x=_
  unfold Yu;exact og (i:=i) (NX.mp nd).2 (by simpa using h1) (by simpa using h2) hk
def start(N:gV Str)(vs:gV V):St:=vs.map A'++List.replicate (N.length - vs.length) LL
def cL(CX:xL)(P:Mm)(w:MK)(K:K')(mg:Str->LH LF)(base:M8)(N:gV Str)(qual:Str)(scope:QP)(f:LJ)(cd:LF)(A:Nl)(outer:gV Env)(s:LR)(H:Hp)(E:XK):Cx where
 prog:=P
 w:=w
 K:=K
 mg:=mg
 base:=base
 A:=A.deeper (Nj qual scope s.heap.objs.size f cd)
 N:=N
 s₀:=s
 H₀:=H
 env:=Nj qual scope s.heap.objs.size f cd
 outer:=outer
 stack:=Nj qual scope s.heap.objs.size f cd::outer
 ex:=[]
 calm:=LI
 fn:=λ_=>LI
 pn:=[]
 xe:=λe s'=>wpAny (MB P w) (A.deeper<|Nj qual scope s.heap.objs.size f cd) (WJ (Nj qual scope s.heap.objs.size f cd) e) (λ_ s''=>CX outer H s E e s'') (λe' s''=>CX outer H s E e' s'') s'
theorem qZ{sc:QP}{n:Nat}{x:Str}(h:sc.names.lookup x=A' .cell):∃c,(Ni n sc.names []).lookup x=A' c:=by
 have q:=Uz sc.names n []<|.inl h;exact O1.mp q
theorem xM{CX:xL}{P:Mm}{w:MK}{K:K'}{mg:Str->LH LF}{base:M8}{N ps:gV Str}{qual:Str}{scope:QP}{f:LJ}{cd:LF}{A:Nl}{outer:gV Env}{s s1:LR}{H:Hp}{E:XK}{us:gV LF}{vs:gV V}
  (S:aq N ps scope) (hd:A.handled=LL) (e0:Env0 P w K mg base A outer s H) (hl:vs.length=ps.length) (r:Vals vs us)
  (x:InCallC s s.heap.objs.size (Yt (Nj qual scope s.heap.objs.size f cd).kindOf (ps.zip us) λ_=>LL) (Ni (s.heap.objs.size+1) scope.names []) (Yu (Nj qual scope s.heap.objs.size f cd).kindOf (ps.zip us) λ_=>LL) s1):
  Inv (cL CX P w K mg base N qual scope f cd A outer s H E) [] (start N vs) H s1:=by
 have X3:ps.length<=N.length:=by have:=M0 Oe S.pre;rw[ME]at this;lia
 obtain⟨h1,tk,rfl,hk⟩:=x.done;have noA:∀b,b∉(cL CX P w K mg base N qual scope f cd A outer s H E).ex:=λb z=>absurd (show b∈([]:gV LJ)from z) (by simp);refine⟨⟨e0.mod,S.kind,rfl,rfl,LQ _,λy z c h1 h2=>?_,λy hy=>?_,λy c _ h=>?_,λ_=>hd,Around.frames_deeper e0.frames,.inr ⟨rfl,rfl⟩,λb z=>absurd z<|noA b,e0.bs,e0.bsz,λb _ _=>noA b,λb z=>absurd z<|noA b,e0.funs,e0.frf⟩,
  rfl,e0.bare,Un.kept hk,⟨_,x.toInCall.ns,λi y v h1 h2 h3=>?_⟩,λy c h=>⟨_,x.cell y c h⟩,e0.hok.fresh<|LQ _,λy c h=>?_,λp hp=>absurd (show p∈([]:gV (LJ×Obj))from hp) (by simp),e0.hok.kept hk,?_⟩
 ·exact name_of_addr x.apart (N7 h1)<|N7 h2
 ·have hy:scope.names.lookup y=A' .cell\/scope.names.lookup y=A' .free:=hy;obtain hy|hy:=hy
  ·exact qZ hy
  ·exact absurd rfl<|S.nofree _<|N7 hy
 ·exact Nx<|x.above y c<|N7 h
 ·have hi:i < vs.length:=by
   unfold start at h2;by_cases hi:i < vs.length
   ·exact hi
   ·rw[Nh<|by simpa using hi]at h2;rw[List.getElem?_replicate]at h2
    split at h2<;>cases h2
  have ha:vs[i]? =A' v:=by
   unfold start at h2;rw[Nd (by simpa using hi),Mp]at h2;cases e:vs[i]? with
   |none=>rw[e]at h2;cases h2
   |some a=>rw[e]at h2;cases h2;rfl
  obtain⟨u,hu,rv⟩:=r.get ha;have hp:ps[i]? =A' y:=by
   rw[<-S.pre,PP<|by lia];exact h1
  have ndP:ps.Nodup:=by rw[<-S.pre];exact S.nd.sublist<|Rw _ _
  exists u,rv;obtain k|k:=S.par y (LZ hp)
  ·exact .inl ⟨k,oa ndP hp hu k⟩
  ·obtain⟨c,e⟩:=qZ (n:=s.heap.objs.size+1) k;refine .inr ⟨.inl k,c,e,?_⟩;have q:=x.cell y c e;rw[og ndP hp hu (by show scope.names.lookup y≠_;rw[k];decide)]at q;exact q
 ·exact e0.hok.fresh<|Nx<|x.above y c<|N7 h
 ·unfold start;show _=N.length
  rw[LX,J',List.length_replicate];lia
theorem E9{CX:xL}{P:Mm}{w:MK}{K:K'}{mg:Str->LH LF}{base:M8}{k:Nat}{f:LJ}{name qual:Str}{params:Arguments}{body:gV NN}{scope:QP}{dV kV Wz pm OT ct oc:LF}{an od:LH LJ}
  {osl:Ou (LH LF)} {N ps:gV Str} {sp:Sp} (lk:K.lookup f=A' ⟨oc,od,.func<|OG name qual params body scope dV kV Wz pm an OT ct,osl⟩) (hcd:Vh K OT qual=LI) (S:aq N ps scope)
  (len:∀vs H Q E,sp vs H Q E->vs.length=ps.length)
  (aap:∀A outer s H vs Q E,Room k (A.deeper<|Nj qual scope s.heap.objs.size f OT)->sp vs H Q E->
   ∃t,PSs (cL CX P w K mg base N qual scope f OT A outer s H E) body t/\t {nx:=λ_ H'=>Q .non H',rt:=Q} (start N vs) H):
  FnOk P w K mg base CX (k+1) f (OG name qual params body scope dV kV Wz pm an OT ct) ps sp:=by
 refine⟨len,λA outer s H args us vs Q E hr e0 hb r hsp=>?_⟩;have hl:=len _ _ _ _ hsp;have KX:K.In s.heap:=e0.mod.kin.keeps λb o e=>(e0.bs b o e).1;have lim:s.heap.NoLimit:=e0.mod.nolimit.keeps λb o e=>(e0.bs b o e).1;have afx:∀y∈ps.zip us,scope.names.lookup y.1=A' .local\/(scope.names.lookup y.1=A' .cell/\((Ni (s.heap.objs.size+1) scope.names []).lookup y.1).isSome=LI):=λ⟨n,v⟩ hy=>by
  obtain q|q:=S.par n (UV hy).1
  ·exact .inl q
  ·exact .inr ⟨q,Uz _ _ _<|.inl q⟩
 refine codeAny_call_function hr.depth (KX _ _ lk) rfl S.co S.gen rfl (PySem.W.codeRec_of KX hcd)<|hb _ _ _ _ ?_;refine wpAny_newFunctionEnv_cells S.kind afx λenv he s1 x=>?_;subst he;refine⟨lim.keeps x.toInCall.keep,codeAny_func ?_⟩;obtain⟨t,ht,hq⟩:=aap A outer s H vs Q E (hr.deeper _) hsp;have I:Inv (cL CX P w K mg base N qual scope f OT A outer s H E) [] (start N vs) H s1:=xM S hr.hd e0 hl r x;refine Nv (ht [] s1 (start N vs) H _ I hq) (λfl s' hs=>?_) λe s' hs=>hs;have S6:∀{σ':St} {H':Hp} {v:V} {u:LF},Inv (cL CX P w K mg base N qual scope f OT A outer s H E) [] σ' H' s'->RelV v u->Q v H'->CE outer P w H s Q u s':=
  λ{σ' H' v u} J rv q=>⟨v,H',J.os,J.bare,J.base,J.hok,rv,q⟩
 cases fl with
 |ret u=>
  obtain⟨v,σ',H',J,rv,q⟩:=hs;exact S6 J rv q
 |next=>
  obtain⟨σ',H',J,q⟩:=hs;exact S6 (v:=V.non) (u:=QA) J rfl q
 |brk=>
  obtain⟨_,_,_,q⟩:=hs;exact O8 q
 |cont=>
  obtain⟨_,_,_,q⟩:=hs;exact O8 q
section
variable {X:Cx}{x:Str}{p pos:Pos}{e:Nt}{es:gV Nt}{t:TA}{id:O3}{r:gV V->Hp->VK->Prop}
def IS(r:gV V->Hp->VK->Prop)(t:TA):TE:=λσ H Q=>t σ H λvs H1=>r vs H1 Q
theorem aw(hc:dQ X (.builtin id) r)(hg:Gl X x)(hm:X.mg x=LL)(hv:Ro x=A' (.builtin id))(ha:PA X (e::es) t)(hn:x≠"__name__":=by decide)(hdb:(x == ("__debug__":Str))=false:=by decide)
  (he:MT (e::es) X.env=(LM,Oj e X.env)::MT es X.env:=by rfl) (X3:(O_ pos<|MT es X.env).any (·.1)=false:=by rfl):PE X (.Call (.Name x p) (e::es) [] pos) (IS r t):=by
 intro LO s σ H Q I h;refine Ph<|gb I hg hm hv ?_ hn hdb;exact Xr (bG (ha pos LO s σ H _ I h) λus s1 ⟨vs,H1,I1,r1,q1⟩=>hc LO s1 σ H1 vs us Q I1 r1 q1) he X3
theorem bg{T:O3}(hc:dQ X (.type T) r)(hg:Gl X x)(hm:X.mg x=LL)(hv:Ro x=A' (.type T))(ha:PA X (e::es) t)(hn:x≠"__name__":=by decide)(hdb:(x == ("__debug__":Str))=false:=by decide)
  (he:MT (e::es) X.env=(LM,Oj e X.env)::MT es X.env:=by rfl) (X3:(O_ pos<|MT es X.env).any (·.1)=false:=by rfl):PE X (.Call (.Name x p) (e::es) [] pos) (IS r t):=by
 intro LO s σ H Q I h;refine Ph<|gb I hg hm hv ?_ hn hdb;exact OC (bG (ha pos LO s σ H _ I h) λus s1 ⟨vs,H1,I1,r1,q1⟩=>hc LO s1 σ H1 vs us Q I1 r1 q1) he X3
end
end L2
namespace HT
open PySem PyProof.Rows
theorem cat_tup{Q:LF->LR->Prop}(ht:aaM s.heap t vs.toArray)(hb:aaM s.heap b ws.toArray)(hv:vs≠[])
  (h1:ws=[]->Q (.ref t) s) (h2:ws≠[]->Q (.ref s.heap.objs.size) {s with heap:=s.heap.push {cls:=.type "tuple",data:=.seq (vs++ws).toArray}})
  (hsz:vs.length+ws.length<=sizeLine):wpAny (MB prog w) A (Pz .Add (.ref t)<|.ref b) Q E s:=by
 obtain⟨⟨cls,dd,data,sl⟩,ho,hc,n,hd⟩:=id ht;obtain⟨⟨af1,dd2,data2,sl2⟩,ho2,hc2,n2,X4⟩:=id hb;simp only at hc hd hc2 X4;subst hc hd hc2 X4;have e:vs.toArray++ws.toArray=(vs++ws).toArray:=by simp
 by_cases hw:ws=[]
 ·exact Uv ⟨_,ho,rfl⟩ ⟨_,ho2,rfl⟩ RN TQ Qc P3 (PN _ _)
   (tuple_addW1 t b vs.toArray ws.toArray n n2 dd dd2 sl sl2 (by simpa using hv)<|by simp [hw]) ⟨ho,ho2,h1 hw⟩
 ·refine Uv ⟨_,ho,rfl⟩ ⟨_,ho2,rfl⟩ RN TQ Qc P3 (PN _ _)
   (tuple_addW2 t b vs.toArray ws.toArray n n2 dd dd2 sl sl2 (by simpa using hv) (by simpa using hw)<|by rw[Mf,Mf];exact hsz) ⟨ho,ho2,?_⟩
  rw[e];exact h2 hw
def sIx(n d:Nat):LH Int->Nat
 |none=>d
 |some v=>if v < 0 then(v+(n:Int)).toNat else min v.toNat n
theorem sIx_nat(n d k:Nat):sIx n d (A' (k:Int))=min k n:=by
 show(if(k:Int) < 0 then((k:Int)+(n:Int)).toNat else min (k:Int).toNat n)=min k n
 rw[Mi (by lia),M3]
theorem GE(n d:Nat)(hd:d<=n)(o:LH Int):sIx n d o<=n:=by
 cases o with
 |none=>exact hd
 |some v=>
  show(if v < 0 then(v+(n:Int)).toNat else min v.toNat n)<=n
  by_cases hv:v < 0
  ·rw[Ml hv];lia
  ·rw[Mi hv];exact RQ _ _
theorem vL(v:Int)(n d:Nat):(if v < 0 then max (v+(n:Int)) 0 else min v (n:Int))=((sIx n d (A' v):Nat):Int):=by
 show(if v < 0 then max (v+(n:Int)) 0 else min v (n:Int))=(((if v < 0 then(v+(n:Int)).toNat else min v.toNat n):Nat):Int)
 by_cases hv:v < 0
 ·simp only [Ml hv];lia
 ·simp only [Mi hv];lia
theorem uc(lo hi:LH Int)(n:Nat):QQ lo hi 1 (n:Int)=(((sIx n 0 lo:Nat):Int),((sIx n n hi:Nat):Int)):=by
 have h1:¬((1:Int) < 0):=by lia
 unfold QQ;simp only [h1,Ri];refine acM ?_ ?_
 ·cases lo with
  |none=>rfl
  |some v=>exact vL v n 0
 ·cases hi with
  |none=>rfl
  |some v=>exact vL v n n
theorem ue(i j:Nat):Pt (i:Int) (j:Int) 1=j - i:=by
 unfold Pt;have h1:(1:Int) > 0:=by lia
 simp only [h1,Sk,Int.ediv_one]
 split<;>lia
theorem lY(p:Wh v o)(h:Q o s):wpAny (MB prog w) A (XU v) Q E s:=by
 cases p with
 |none=>exact YA h
 |int i t=>exact slicePart_int h
theorem sliceApplied_gen{sl:LJ}{vl vu:LF}{lo hi:LH Int}{n:Nat}{Q:Int×Int×Nat->LR->Prop}(hs:s.heap.IsSliceOf sl vl vu .none)(pl:Wh vl lo)(pu:Wh vu hi)
  (h:Q (((sIx n 0 lo:Nat):Int),1,sIx n n hi - sIx n 0 lo) s):wpAny (MB prog w) A (QC (.ref sl)<|pure (n:Int)) Q E s:=by
 obtain⟨os,hos,Qx,Y0⟩:=id hs;unfold QC YX;refine LG<|LG<|Rb hos Y0 (x:=vl) rfl<|LG<|Rb hos Y0 (x:=vu) rfl<|LG<|Rb hos Y0 (x:=.none) rfl<|Me ?_;refine LG<|YA ?_;show wpAny _ _ (if((1:Int) == 0)=LI then _ else _) _ _ s
 rw[Mi<|by decide];refine LG<|lY pl<|LG<|lY pu<|LG<|Me ?_;show wpAny _ _ (match QQ lo hi 1 (n:Int)with|(lo,hi)=>pure (lo,(1:Int),Pt lo hi 1)) _ _ s
 rw[uc lo hi n];show wpAny _ _ (pure (((sIx n 0 lo:Nat):Int),(1:Int),Pt ((sIx n 0 lo:Nat):Int) ((sIx n n hi:Nat):Int) 1)) _ _ s
 rw[ue];exact Me h
theorem zo(xs:Ou LF)(i k:Nat):((Nr k).filterMap λ(m:Nat)=>xs[((i:Int)+(m:Int)*1).toNat]?).toArray=((xs.toList.drop i).take k).toArray:=by
 have e:(λ(m:Nat)=>xs[((i:Int)+(m:Int)*1).toNat]?)=λm=>xs[i+m]?:=by
  funext m
  have:((i:Int)+(m:Int)*1).toNat=i+m:=by lia
  rw[this]
 rw[e];have:=pick_run xs i k;rw[List.filterMap_map]at this;have e2:((λx=>xs[x]?)∘λx=>i+x)=λm=>xs[i+m]?:=rfl;rw[e2]at this;rw[this]
theorem getItem_tuple_cut{t sl:LJ}{items:Ou LF}{vl vu:LF}{lo hi:LH Int}{Q:LF->LR->Prop}(ht:aaM s.heap t items)(hs:s.heap.IsSliceOf sl vl vu .none)(pl:Wh vl lo)(pu:Wh vu hi)
  (hw:¬(sIx items.size 0 lo=0/\sIx items.size items.size hi=items.size))
  (h:Q (.ref s.heap.objs.size) {s with heap:=s.heap.push {cls:=.type "tuple",data:=.seq ((items.toList.drop<|sIx items.size 0 lo).take<|sIx items.size items.size hi - sIx items.size 0 lo).toArray}})
  (hsz:items.size<=sizeLine):wpAny (MB prog w) A (Sm (.ref t)<|.ref sl) Q E s:=by
 have abz:sizeOk (.seq ((items.toList.drop<|sIx items.size 0 lo).take<|sIx items.size items.size hi - sIx items.size 0 lo).toArray):=by
  show((items.toList.drop<|sIx items.size 0 lo).take<|sIx items.size items.size hi - sIx items.size 0 lo).toArray.size<=sizeLine
  rw[Mf,ME,N6,Mr];lia
 have hj:sIx items.size items.size hi<=items.size:=GE _ _ (LQ _) hi;obtain⟨os,hos,Qx,Y0⟩:=id hs;have hTs:s.TypeIs (.ref sl) "slice":=⟨os,hos,Qx⟩;unfold Sm
 try with_reducible refine N3 ?_
 first|refine LG (Me ?_)|skip
 refine LG<|WG ht.typeIs (by decide) ?_;refine LG (T_ (name:=G' "__getitem__") ht.typeIs OP
  (RM OP ht.typeIs VP ?_<|Wk _ _))
 show wpAny _ _ (SU (.ref t) >>=_) _ _ s
 refine LG<|Zq ht ?_;refine LG<|Rj hTs ?_;rw[Ml<|by decide];refine LG<|sliceApplied_gen hs pl pu ?_;have hno:¬((((sIx items.size 0 lo:Nat):Int) == 0&&(1:Int) == 1&&(sIx items.size items.size hi - sIx items.size 0 lo) == items.size)=LI):=by
  intro q;rw[MO,MO]at q;have q1:((sIx items.size 0 lo:Nat):Int)=0:=eq_of_beq q.1.1;have q2:sIx items.size items.size hi - sIx items.size 0 lo=items.size:=eq_of_beq q.2;exact hw ⟨by lia,by lia⟩
 show wpAny _ _ (if(((sIx items.size 0 lo:Nat):Int) == 0&&(1:Int) == 1&&(sIx items.size items.size hi - sIx items.size 0 lo) == items.size)=LI then _ else _) _ _ s
 rw[Mi hno,zo]
 first
  |exact LG (m:=N5 _)<|N_ (Me ⟨_,rfl,Me h⟩) abz
  |exact LG (m:=N5 _)<|N_ (LG<|Me<|Me ⟨_,rfl,Me h⟩) abz
  |exact LG<|LG (m:=N5 _)<|N_ (Me<|Me ⟨_,rfl,Me h⟩) abz
  |exact LG<|LG (m:=N5 _)<|N_ (Me ⟨_,rfl,Me h⟩) abz
end HT
namespace L2
open PySem PySem.Spec PyProof.Rows
abbrev TO:=St->Hp->(LH Int->Hp->Prop)->Prop
def PO(X:Cx)(e:LH Nt)(t:TO):Prop:=
 ∀(LO:gV (LJ×Obj)) (s:LR) (σ:St) (H:Hp) (Q:LH Int->Hp->Prop),Inv X LO σ H s->t σ H Q->
  wpAny (MB X.prog X.w) X.A (evalPart e X.env) (λu s'=>∃o H',Inv X LO σ H' s'/\Wh u o/\Q o H') X.xe s
def vM:TO:=λ_ H Q=>Q LL H
def E_(t:TE):TO:=λσ H Q=>t σ H λx H1=>∃i,x=.int i/\Q (A' i) H1
theorem lZ:∀{us:gV LF},Vals (ns.map V.int) us->PV us ns:=by
 induction ns with
 |nil=>intro us r;rw[Ry]at r;cases r;exact .nil
 |cons n ns ih=>
  intro us r;rw[MH]at r;cases r with
  |cons r1 r2=>
   obtain⟨t,e⟩:=r1;subst e;exact .cons n t<|ih r2
theorem gG:PO X LL vM:=by
 intro LO s σ H Q I h;rw[Y8];exact Me ⟨LL,H,I,.none,h⟩
theorem fu(h:PE X e te):PO X (A' e) (E_ te):=by
 intro LO s σ H Q I hw;rw[evalPart_some];refine bG (h LO s σ H _ I hw) λu s1 ⟨x,H1,I1,r1,q1⟩=>?_;obtain⟨i,rfl,q⟩:=q1;obtain⟨t,rfl⟩:=r1;exact⟨A' i,H1,I1,.int i t,q⟩
def IT(X:Cx)(r:V->LH Int->LH Int->Hp->VK->Prop):Prop:=
 ∀(LO:gV (LJ×Obj)) (s:LR) (σ:St) (H:Hp) (x:V) (v vl vu:LF) (lo hi:LH Int) (sl:LJ) (Q:VK),Inv X LO σ H s->RelV x v->s.heap.IsSliceOf sl vl vu .none->Wh vl lo->Wh vu hi->r x lo hi H Q->
  ∃T id,Yl (.type T) "__getitem__"=pure (A'<|.builtin id)/\s.TypeIs v T/\wpAny (MB X.prog X.w) X.A (Sm v<|.ref sl) (EP X LO σ Q) X.xe s
def Lp(r:V->LH Int->LH Int->Hp->VK->Prop)(te:TE)(tl th:TO):TE:=λσ H Q=>te σ H λx H1=>tl σ H1 λl H2=>th σ H2 λu H3=>r x l u H3 Q
theorem eJ{X:Cx}{e:Nt}{te:TE}{lo:LH Nt}{hi:LH Nt}{tl:TO}{th:TO}{pos:Pos}{p2:Pos}(hr:IT X r)(he:PE X e te)(hl:PO X lo tl)(hu:PO X hi th):PE X (.Subscript e (.Slice lo hi LL p2) pos) (Lp r te tl th):=by
 intro LO s σ H Q I h;refine YD<|bG (he LO s σ H _ I h) λv s1 ⟨x,H1,I1,r1,q1⟩=>?_;refine wpAny_Slice<|bG (hl LO s1 σ H1 _ I1 q1) λvl s2 ⟨l,H2,I2,pl,q2⟩=>bG (hu LO s2 σ H2 _ I2 q2) λvu s3 ⟨u,H3,I3,pu,q3⟩=>?_;rw[Y8];refine Me ?_;have I4:Inv X LO σ H3 {s3 with heap:=s3.heap.push {cls:=.type "slice",data:=.fields #[vl,vu,.none]}}:=I3.kept (t':=s3.toks) λb ob q=>LP _ q;obtain⟨T,id,hT,ht,hg⟩:=hr LO {s3 with heap:=s3.heap.push {cls:=.type "slice",data:=.fields #[vl,vu,.none]}} σ H3 x v vl vu l u s3.heap.objs.size Q I4 r1 (abr ..) pl pu q3;show wpAny (MB X.prog X.w) X.A (VX e (.Slice lo hi LL p2) v<|.ref s3.heap.objs.size) (EP X LO σ Q) X.xe {s3 with heap:=s3.heap.push {cls:=.type "slice",data:=.fields #[vl,vu,.none]}}
 exact tail_any (ops:=[.ref s3.heap.objs.size,v]) ht hT hg (by with_unfolding_all rfl)
def cQ(xs:gV V)(lo hi:LH Int):gV V:=(xs.drop<|HT.sIx xs.length 0 lo).take<|HT.sIx xs.length xs.length hi - HT.sIx xs.length 0 lo
theorem kK(xs:gV V)(lo hi:LH Int):(cQ xs lo hi).length<=xs.length:=by
 unfold cQ;rw[ME,N6];lia
def KR(K:K'):V->LH Int->LH Int->Hp->VK->Prop:=λx lo hi H Q=>∃a xs,x=.ref a/\SqT K H a xs/\
 ¬(HT.sIx xs.length 0 lo=0/\HT.sIx xs.length xs.length hi=xs.length)/\∀p,H p=LL->Q (.ref p) (upd H p<|.tup<|cQ xs lo hi)
theorem GF:IT X (KR X.K):=by
 intro LO s σ H x v vl vu lo hi sl Q I rx hs pl pu h;obtain⟨a,xs,rfl,hx,hw,q⟩:=h;cases rx;obtain⟨NH,r,ht,hz⟩:=I.tuple hx;have N1:NH.toArray.size=xs.length:=by rw[Mf];exact r.length.symm
 exists "tuple",_,PyProof.Rows.slot_tuple_getitem.lookup,ht.typeIs;refine HT.getItem_tuple_cut ht hs pl pu (by rw[N1];exact hw) ?_ (by rw[N1];exact hz);rw[N1];refine⟨.ref s.heap.objs.size,_,I.laid (t':=s.toks) (o:=.tup<|cQ xs lo hi) (λb ob q=>LP _ q) (LQ _) ?_,rfl,q _<|I.hok.fresh<|LQ _⟩;exact⟨MD (kK xs lo hi) hz,_,(r.drop<|HT.sIx xs.length 0 lo).take<|HT.sIx xs.length xs.length hi - HT.sIx xs.length 0 lo,ZN _ _⟩
def IU(K:K'):R2:=λx y H Q=>∃a b xs ys,x=.ref a/\y=.ref b/\SqT K H a xs/\SqT K H b ys/\xs≠[]/\xs.length+ys.length<=sizeLine/\
 (ys=[]->Q (.ref a) H)/\(ys≠[]->∀p,H p=LL->Q (.ref p) (upd H p<|.tup<|xs++ys))
theorem Vals.nil_iff(r:Vals xs us):us=[]↔xs=[]:=by
 cases r with
 |nil=>simp
 |cons _ _=>simp
theorem vN:OpR X (Pz .Add) (IU X.K):=by
 intro LO s σ H x y v u Q I rx ry h;obtain⟨a,b,xs,ys,rfl,rfl,ha,hb,hx,hz,q1,q2⟩:=h;cases rx;cases ry;obtain⟨NH,r1,p1,_⟩:=I.tuple ha;obtain⟨XI,r2,p2,_⟩:=I.tuple hb;refine HT.cat_tup p1 p2 (λz=>hx<|r1.nil_iff.mp z) (λz=>⟨.ref a,H,I,rfl,q1<|r2.nil_iff.mp z⟩) (λz=>?_) (by rw[<-r1.length,<-r2.length];exact hz);refine⟨.ref s.heap.objs.size,_,I.laid (t':=s.toks) (o:=.tup<|xs++ys) (λb ob q=>LP _ q) (LQ _) ?_,rfl,q2 (λw=>z<|r2.nil_iff.mpr w) _<|I.hok.fresh<|LQ _⟩;exact⟨by rw[LX];exact hz,_,r1.append r2,ZN _ _⟩
def C6(n:Nat)(i:Int):LH Nat:=if 0<=i then(if i < n then A' i.toNat else LL)else if -(n:Int)<=i then A' (i+n).toNat else LL
def kL{α:Type}(xs:gV α)(i:Int):LH α:=(C6 xs.length i).bind λj=>xs[j]?
theorem Do(h:C6 n i=A' j):seqIndex? i n=A' j/\j < n/\ -(n:Int)<=i/\i < n:=by
 unfold C6 at h;by_cases h0:0<=i
 ·rw[Ml h0]at h;by_cases h1:i < n
  ·rw[Ml h1]at h;have e:i.toNat=j:=MC h;exact⟨by rw[seqIndex_of h0 h1,e],by lia,by lia,h1⟩
  ·rw[Mi h1]at h;cases h
 ·rw[Mi h0]at h;by_cases h1:-(n:Int)<=i
  ·rw[Ml h1]at h;have e:(i+n).toNat=j:=MC h;exact⟨by rw[seqIndex_neg (by lia) h1,e],by lia,h1,by lia⟩
  ·rw[Mi h1]at h;cases h
theorem pM{α:Type}{xs:gV α}{i:Int}{v:α}(h:kL xs i=A' v):∃j,seqIndex? i xs.length=A' j/\xs[j]? =A' v/\j < xs.length/\ -(xs.length:Int)<=i/\i < xs.length:=by
 unfold kL at h;cases e:C6 xs.length i with
 |none=>rw[e]at h;cases h
 |some j=>
  rw[e]at h;obtain⟨h1,h2,h3,h4⟩:=Do e;exact⟨j,h1,h,h2,h3,h4⟩
theorem cb{α:Type}{xs:gV α}{j:Nat}{v:α}(h:xs[j]? =A' v):kL xs (j:Int)=A' v:=by
 have hj:j < xs.length:=(LS.mp h).1;have e:C6 xs.length (j:Int)=A' j:=by
  unfold C6;rw[Ml (by lia),Ml<|by lia];simp
 unfold kL;rw[e];exact h
def Dp(b:Nt):Prop:=∀o i,Vd b LM o i=operate [o,i] (Sm o i)
def IxR(X:Cx)(r:R2):Prop:=
 ∀(value slice:Nt) (LO:gV (LJ×Obj)) (s:LR) (σ:St) (H:Hp) (x y:V) (v u:LF) (Q:VK),Inv X LO σ H s->RelV x v->RelV y u->r x y H Q->
  Vd slice LM v u=operate [v,u] (Sm v u)->wpAny (MB X.prog X.w) X.A (VX value slice v u) (EP X LO σ Q) X.xe s
def Io(X:Cx)(id:O3)(r:V->gV V->Hp->VK->Prop):Prop:=
 ∀(LO:gV (LJ×Obj)) (s:LR) (σ:St) (H:Hp) (x:V) (xs:gV V) (v:LF) (us:gV LF) (Q:VK),Inv X LO σ H s->RelV x v->Vals xs us->r x xs H Q->
  wpAny (MB X.prog X.w) X.A (call (.builtin id)<|v::us) (EP X LO σ Q) X.xe s
section
variable {X:Cx}
theorem IxR.or(h:IxR X r)(h':IxR X r'):IxR X (λx y H Q=>r x y H Q\/r' x y H Q):=by
 intro value slice LO s σ H x y v u Q I rx ry q hs;obtain q|q:=q
 ·exact h value slice LO s σ H x y v u Q I rx ry q hs
 ·exact h' value slice LO s σ H x y v u Q I rx ry q hs
theorem av(hr:IxR X r)(ha:PE X a ta)(hb:PE X b tb)(hs:Dp b):PE X (.Subscript a b pos) (Im r ta tb):=by
 intro LO s σ H Q I h;exact YD<|Gy ha hb I h λv u s2 x y H2 I2 rx ry q=>hr a b LO s2 σ H2 x y v u Q I2 rx ry q<|hs _ _
inductive IV (K:K')(x y:V)(H:Hp)(Q:VK):Prop
 |mk (p:LJ)(xs:gV V)(i:Int)(v:V)(hx:x=.ref p)(hy:y=.int i)(h:SqL K H p xs)(e:kL xs i=A' v)(q:Q v H):IV K x y H Q
inductive IW (K:K')(x y:V)(H:Hp)(Q:VK):Prop
 |mk (p:LJ)(xs:gV V)(i:Int)(v:V)(hx:x=.ref p)(hy:y=.int i)(h:SqT K H p xs)(e:kL xs i=A' v)(q:Q v H):IW K x y H Q
inductive IX (x y:V)(H:Hp)(Q:VK):Prop
 |mk (z:Str)(i:Int)(c:Nat)(hx:x=.str z)(hy:y=.int i)(h:z.length<=sizeLine)(e:kL z.cps.toList i=A' c)(q:Q (.str ⟨#[c]⟩) H):IX x y H Q
def IY(K:K'):R2:=λx y H Q=>IV K x y H Q
def IZ(K:K'):R2:=λx y H Q=>IW K x y H Q
def I0:R2:=λx y H Q=>IX x y H Q
theorem ix_list:IxR X (IY X.K):=by
 intro value slice LO s σ H x y v u Q I rx ry h hs;obtain⟨p,xs,i,z,rfl,rfl,hq,he,q⟩:=h;cases rx;obtain⟨t,rfl⟩:=ry;obtain⟨NH,r,pl,hz⟩:=I.list hq;obtain⟨j,h1,h2,h3,h4,h5⟩:=pM he;obtain⟨w,ew,rw'⟩:=r.get h2;have hl:=r.length;have hn:=lW;have S6:EP X LO σ Q w s:=⟨z,H,I,rw',q⟩;by_cases h0:0<=i
 ·have hj:i.toNat=j:=by
   rw[seqIndex_of h0 h5]at h1;exact MC h1
  exact item_listR pl.isList h0 (by lia) (by rw[hj];simpa using ew) S6 hs
 ·have hj:(i+(NH.toArray.size:Int)).toNat=j:=by
   rw[seqIndex_neg (by lia) h4]at h1;rw[Mf,<-hl];exact MC h1
  exact UE (x:=w) pl.isList.typeIs slot_list_getitem.lookup
   (wpAny_getItem_list_neg (Q:=λr s'=>r=w/\EP X LO σ Q r s') pl.isList (by lia) (by rw[Mf]<;>lia) (by lia) (by rw[hj];simpa using ew) ⟨rfl,S6⟩) hs
theorem ix_tup:IxR X (IZ X.K):=by
 intro value slice LO s σ H x y v u Q I rx ry h hs;obtain⟨p,xs,i,z,rfl,rfl,hq,he,q⟩:=h;cases rx;obtain⟨t,rfl⟩:=ry;obtain⟨NH,r,pl,hz⟩:=I.tuple hq;obtain⟨j,h1,h2,h3,h4,h5⟩:=pM he;obtain⟨w,ew,rw'⟩:=r.get h2;have hl:=r.length;have hn:=lW;have S6:EP X LO σ Q w s:=⟨z,H,I,rw',q⟩;exact UE (x:=w) pl.typeIs slot_tuple_getitem.lookup
  (getItem_tuple (j:=j) (Q:=λr s'=>r=w/\EP X LO σ Q r s') pl (by lia) (by lia) (by rw[Mf,<-hl];exact h1) (by simpa using ew) ⟨rfl,S6⟩) hs
theorem GG:IxR X I0:=by
 intro value slice LO s σ H x y v u Q I rx ry h hs;obtain⟨z,i,c,rfl,rfl,hz,he,q⟩:=h;obtain⟨t,rfl⟩:=rx;obtain⟨t',rfl⟩:=ry;obtain⟨j,h1,h2,h3,h4,h5⟩:=pM he;have hl:z.cps.toList.length=z.length:=by simp [abn]
 rw[hl]at h1 h4 h5;have hn:=lW;exact tail_any (SB s z t) slot_str_getitem.lookup (getItem_str (c:=c) (by
  have e1:decide (i < -(2 ^ 63:Int))=false:=LW (by lia);have e2:decide (i>=2 ^ 63)=false:=LW (by lia);rw[e1,e2,Q3]) (by rw[h1];simpa using h2) ⟨.str ⟨#[c]⟩,H,I.tok _,⟨_,rfl⟩,q⟩) hs
def I_(K:K'):R2:=λx y H Q=>IY K x y H Q\/IZ K x y H Q\/I0 x y H Q
theorem am:IxR X (I_ X.K):=ix_list.or<|ix_tup.or GG
theorem pN(lo hi:LH Int)(n:Nat):(Rc lo hi LL n).1=((HT.sIx n 0 lo:Nat):Int)/\(Rc lo hi LL n).2.1=((HT.sIx n n hi:Nat):Int)/\(Rc lo hi LL n).2.2=1:=by
 refine⟨?_,?_,rfl⟩
 ·cases lo with
  |none=>simp [Rc,HT.sIx]
  |some i=>
   simp only [Rc,HT.sIx,Xs,show(1:Int) > 0 by decide,Sk];by_cases h:i < 0
   ·simp only [h,Sk]<;>lia
   ·simp only [h,Ri]<;>lia
 ·cases hi with
  |none=>simp [Rc,HT.sIx]
  |some i=>
   simp only [Rc,HT.sIx,Xs,show(1:Int) > 0 by decide,Sk];by_cases h:i < 0
   ·simp only [h,Sk]<;>lia
   ·simp only [h,Ri]<;>lia
theorem nQ(NH:gV LF)(lo hi:LH Int):slicePick NH.toArray lo hi LL=((NH.drop<|HT.sIx NH.length 0 lo).take<|HT.sIx NH.length NH.length hi - HT.sIx NH.length 0 lo).toArray:=by
 obtain⟨h1,h2,h3⟩:=pN lo hi NH.toArray.size;unfold slicePick;rw[h1,h2,h3];simp only [sliceRange_one,pick_run,Mf]<;>rfl
def KS(K:K'):V->LH Int->LH Int->Hp->VK->Prop:=λx lo hi H Q=>∃a xs,x=.ref a/\SqL K H a xs/\∀p,H p=LL->Q (.ref p) (upd H p<|.lst<|cQ xs lo hi)
theorem iB:IT X (KS X.K):=by
 intro LO s σ H x v vl vu lo hi sl Q I rx hs pl pu h;obtain⟨a,xs,rfl,hx,q⟩:=h;cases rx;obtain⟨NH,r,ht,hz⟩:=I.list hx;have N1:=r.length;exists "list",_,slot_list_getitem.lookup,ht.isList.typeIs;refine wpAny_getItem_list_slice ht.isList hs pl pu .none (by simp) ?_ (by rw[Mf]<;>lia);rw[nQ,<-N1];refine⟨.ref s.heap.objs.size,_,I.laid (t':=s.toks) (o:=.lst<|cQ xs lo hi) (λb ob q=>LP _ q) (LQ _) ?_,rfl,q _<|I.hok.fresh<|LQ _⟩;exact⟨MD (kK xs lo hi) hz,_,0,(r.drop<|HT.sIx xs.length 0 lo).take<|HT.sIx xs.length xs.length hi - HT.sIx xs.length 0 lo,MG _ rfl⟩
def jj:V->Md
 |.non=>LI
 |.bl _=>LI
 |.int _=>LI
 |.str _=>LI
 |_=>LM
def Fa:V->V->Md
 |.non,.non=>LI
 |.bl a,.bl b=>a == b
 |.bl a,.int b=>(if a then 1 else 0) == b
 |.int a,.bl b=>a == (if b then 1 else 0)
 |.int a,.int b=>a == b
 |.str a,.str b=>a == b
 |_,_=>LM
theorem GH(ry:RelV y u)(rx:RelV x v)(fy:jj y=LI)(fx:jj x=LI):abq A s u v (Fa y x):=by
 cases y with
 |non=>
  cases ry;cases x with
  |non=>cases rx;exact ab7 _
  |bl b=>cases rx;exact aaD b
  |int b=>obtain⟨t,rfl⟩:=rx;exact aaZ b t
  |str b=>obtain⟨t,rfl⟩:=rx;exact aaY b t
  |_=>exact absurd (show LM=LI from fx) Mb
 |bl a=>
  cases ry;cases x with
  |non=>cases rx;exact aaE a
  |bl b=>cases rx;exact aaF a b
  |int b=>obtain⟨t,rfl⟩:=rx;exact aa3 a b t
  |str b=>obtain⟨t,rfl⟩:=rx;exact aa2 a b t
  |_=>exact absurd (show LM=LI from fx) Mb
 |int a=>
  obtain⟨t',rfl⟩:=ry;cases x with
  |non=>cases rx;exact aa0 a t'
  |bl b=>cases rx;exact aa1 a t' b
  |int b=>obtain⟨t,rfl⟩:=rx;exact abp a t' b t
  |str b=>obtain⟨t,rfl⟩:=rx;exact Wf a t' b t
  |_=>exact absurd (show LM=LI from fx) Mb
 |str a=>
  obtain⟨t',rfl⟩:=ry;cases x with
  |non=>cases rx;exact aaW a t'
  |bl b=>cases rx;exact aaX a t' b
  |int b=>obtain⟨t,rfl⟩:=rx;exact We a t' b t
  |str b=>obtain⟨t,rfl⟩:=rx;exact abo a t' b t
  |_=>exact absurd (show LM=LI from fx) Mb
 |_=>exact absurd (show LM=LI from fy) Mb
def uf(x:V)(u:LF):Md:=match u with
 |.none=>Fa .non x
 |.bool b=>Fa (.bl b) x
 |.int i _=>Fa (.int i) x
 |.str z _=>Fa (.str z) x
 |_=>LM
theorem zp(r:RelV y u)(f:jj y=LI):uf x u=Fa y x:=by
 cases y with
 |non=>cases r;rfl
 |bl b=>cases r;rfl
 |int i=>obtain⟨t,rfl⟩:=r;rfl
 |str z=>obtain⟨t,rfl⟩:=r;rfl
 |_=>exact absurd (show LM=LI from f) Mb
theorem jk:∀{xs:gV V} {us:gV LF},Vals xs us->xs.all jj=LI->us.any (uf x)=xs.any λy=>Fa y x
 |_,_,.nil,_=>rfl
 |y::xs,u::us,.cons r t,f=>by
  rw[RY,MO]at f;rw[PQ,PQ,zp r f.1,jk t f.2]
theorem hW(rx:RelV x v)(fx:jj x=LI):∀{xs:gV V} {us:gV LF},Vals xs us->xs.all jj=LI->∀u∈us,abq A s u v<|uf x u
 |_,_,.nil,_=>λu hu=>by cases hu
 |y::xs,u::us,.cons r t,f=>λu' hu=>by
  rw[RY,MO]at f;obtain rfl|hu:=Mn.mp hu
  ·rw[zp r f.1];exact GH r rx f.1 fx
  ·exact hW rx fx t f.2 u' hu
def gY(x:V)(xs:gV V):Md:=xs.any λy=>Fa y x
inductive Lq (K:K')(neg:Md)(x y:V)(H:Hp)(Q:VK):Prop
 |mk (p:LJ)(xs:gV V)(hy:y=.ref p)(h:SqL K H p xs\/SqT K H p xs)(fx:jj x=LI)(fs:xs.all jj=LI)(q:Q (.bl (if neg then !gY x xs else gY x xs)) H):Lq K neg x y H Q
def Kn(K:K')(neg:Md):R2:=λx y H Q=>Lq K neg x y H Q
theorem cX:OpR X (NG .In) (Kn X.K LM):=by
 intro LO s σ H x y v u Q I rx ry h;obtain⟨p,xs,rfl,hq,fx,fs,q⟩:=h;cases ry;obtain hq|hq:=hq
 ·obtain⟨NH,r,pl,hz⟩:=I.list hq;refine SeqAt.in_listAt (uf x) pl.isList (λw hw=>hW rx fx r fs w<|by simpa using hw) ⟨.bl _,H,I,rfl,?_⟩;rw[show NH.toArray.any (uf x)=NH.any (uf x) by simp,jk r fs];exact q
 ·obtain⟨NH,r,pl,hz⟩:=I.tuple hq;refine SeqAt.in_tupleAt (uf x) pl (λw hw=>hW rx fx r fs w<|by simpa using hw) ⟨.bl _,H,I,rfl,?_⟩;rw[show NH.toArray.any (uf x)=NH.any (uf x) by simp,jk r fs];exact q
theorem cY:OpR X (NG .NotIn) (Kn X.K LI):=by
 intro LO s σ H x y v u Q I rx ry h;obtain⟨p,xs,rfl,hq,fx,fs,q⟩:=h;cases ry;obtain hq|hq:=hq
 ·obtain⟨NH,r,pl,hz⟩:=I.list hq;refine SeqAt.notIn_listAt (uf x) pl.isList (λw hw=>hW rx fx r fs w<|by simpa using hw) ⟨.bl _,H,I,rfl,?_⟩;rw[show NH.toArray.any (uf x)=NH.any (uf x) by simp,jk r fs];exact q
 ·obtain⟨NH,r,pl,hz⟩:=I.tuple hq;refine SeqAt.notIn_tupleAt (uf x) pl (λw hw=>hW rx fx r fs w<|by simpa using hw) ⟨.bl _,H,I,rfl,?_⟩;rw[show NH.toArray.any (uf x)=NH.any (uf x) by simp,jk r fs];exact q
theorem dF:dQ X (.type "list") (λxs H Q=>∃p ys,xs=[.ref p]/\(SqL X.K H p ys\/SqT X.K H p ys)/\∀l,H l=LL->Q (.ref l) (upd H l<|.lst ys)):=by
 intro LO s σ H xs us Q I r h;obtain⟨p,ys,rfl,hq,q⟩:=h;obtain⟨u,rfl,rx⟩:=dE r;cases rx;have S6:∀NH,Vals ys NH->ys.length<=sizeLine->∀h' c',(∀b o',s.heap.get? b=A' o'->h'.get? b=A' o')->
   h'.get? s.heap.objs.size=A' {cls:=.type "list",dict:=LL,data:=.seq NH.toArray c',slots:=#[]}->EP X LO σ Q (.ref s.heap.objs.size) {s with heap:=h'}:=λNH r' hz h' c' kp e=>
  ⟨.ref s.heap.objs.size,_,I.laid (t':=s.toks) kp (LQ _) (show ObjOk X.prog X.w _ h' _ (.lst ys)from⟨hz,NH,c',r',e⟩),rfl,q _<|I.hok.fresh<|LQ _⟩
 obtain hq|hq:=hq
 ·obtain⟨NH,r',pl,hz⟩:=I.list hq;have N1:=r'.length;obtain⟨o,ho,hc,n,hd⟩:=pl.isList;exact Y_ p (.inl rfl) ho hc hd (λh' c' kp e=>S6 NH r' hz h' c' kp e) (by simp only [Mf]<;>lia)
 ·obtain⟨NH,r',pl,hz⟩:=I.tuple hq;have N1:=r'.length;obtain⟨o,ho,hc,n,hd⟩:=pl;exact Y_ p (.inr rfl) ho hc hd (λh' c' kp e=>S6 NH r' hz h' c' kp e) (by simp only [Mf]<;>lia)
theorem cn:dQ X (.type "tuple") (λxs H Q=>∃p ys,xs=[.ref p]/\((SqL X.K H p ys/\∀l,H l=LL->Q (.ref l) (upd H l<|.tup ys))\/(SqT X.K H p ys/\Q (.ref p) H))):=by
 intro LO s σ H xs us Q I r h;obtain⟨p,ys,rfl,h⟩:=h;obtain⟨u,rfl,rx⟩:=dE r;cases rx;obtain⟨hq,q⟩|⟨hq,q⟩:=h
 ·obtain⟨NH,r',pl,hz⟩:=I.list hq;have N1:=r'.length;refine call_tuple_list pl.isList (λh' kp=>?_) (by simp only [Mf]<;>lia);have I1:Inv X LO σ H {s with heap:=h'}:=I.kept (t':=s.toks) kp;have I2:Inv X LO σ (upd H h'.objs.size<|.tup ys) {s with heap:=h'.push {cls:=.type "tuple",data:=.seq NH.toArray}}:=
   I1.laid (t':=s.toks) (λb o e=>LP _ e) (LQ _) (show ObjOk X.prog X.w _ _ _ (.tup ys)from⟨hz,NH,r',ZN _ _⟩)
  exact⟨.ref h'.objs.size,_,I2,rfl,q _<|I1.hok.fresh<|LQ _⟩
 ·obtain⟨NH,r',pl,hz⟩:=I.tuple hq;exact call_tuple_same pl ⟨.ref p,H,I,rfl,q⟩
def KU(K:K')(T:O3)(x:V)(H:Hp):Prop:=match x with
 |.str _=>T="str"
 |.int _=>T="int"
 |.ref p=>(T="list"/\∃xs,SqL K H p xs)\/(T="tuple"/\∃o,K.lookup p=A' o/\o.cls=.type "tuple"/\o.dict=LL)\/
   (T="dict"/\((∃kvs,H p=A' (.dK kvs))\/∃kvs,H p=A' (.dT kvs)))\/(T="set"/\∃S n,H p=A' (.set S n))
 |_=>False
theorem zq(I:Inv X LO σ H s)(r:RelV x v)(ty:KU X.K T x H):
  s.TypeIs v T/\∀a,v=.ref a->∃ob,s.heap.get? a=A' ob/\ob.dict=none:=by
 cases x with
 |str z=>
  obtain⟨t,rfl⟩:=r;cases(show T="str" from ty);exact⟨SB s z t,λ_ e=>nomatch e⟩
 |int i=>
  obtain⟨t,rfl⟩:=r;cases(show T="int" from ty);exact⟨typeIs_int s i t,λ_ e=>nomatch e⟩
 |ref p=>
  cases r;obtain⟨rfl,xs,hq⟩|⟨rfl,o,hk,hc,hd⟩|⟨rfl,hk⟩|⟨rfl,S,n,hk⟩:=ty
  ·obtain⟨NH,_,pl,_⟩:=I.list hq;refine⟨pl.isList.typeIs,λa e=>?_⟩;cases e;obtain⟨o,n,e,c,hd,_⟩:=pl;exact⟨o,e,hd⟩
  ·refine⟨⟨o,I.kIn p o hk,hc⟩,λa e=>?_⟩;cases e;exact⟨o,I.kIn _ o hk,hd⟩
  ·have z:∃o,s.heap.get? p=A' o/\o.ExactDict:=by
    obtain⟨kvs,hk⟩|⟨kvs,hk⟩:=hk
    ·obtain⟨_,_,_,_,o,_,_,e,ex,_⟩:=I.hok p _ hk;exact⟨o,e,ex⟩
    ·obtain⟨_,_,_,_,o,_,_,e,ex,_⟩:=I.hok p _ hk;exact⟨o,e,ex⟩
   obtain⟨o,e,ex⟩:=z;refine⟨⟨o,e,ex.1⟩,λa e2=>?_⟩;cases e2;exact⟨o,e,ex.2.1⟩
  ·obtain⟨o,_,_,_,e,ex,_⟩:=I.hok p _ hk;refine⟨⟨o,e,ex.1⟩,λa e2=>?_⟩;cases e2;exact⟨o,e,ex.2.1⟩
 |_=>exact O8 ty
def KW(K:K')(T:O3)(r:V->gV V->Hp->VK->Prop)(to:TE):TE:=λσ H Q=>to σ H λx H1=>KU K T x H1/\r x [] H1 Q
def LD(K:K')(T:O3)(r:V->gV V->Hp->VK->Prop)(to:TE)(t:TA):TE:=λσ H Q=>to σ H λx H1=>KU K T x H1/\t σ H1 λxs H2=>r x xs H2 Q
variable {o:Nt}{to:TE}{name:Str}{R9 Sj:Pos}{T id:O3}{r:V->gV V->Hp->VK->Prop}
theorem ug(pa:PlainAttrs T)(slot:Slot T name id)(hty:typeOf (.builtin id)=pure (.type "method_descriptor"))(hm:Io X id r)(ho:PE X o to)
  (acC:QX o name X.env (Oj o X.env)=Oj o X.env:=by rfl) (VU:(R9.endLine == Sj.line)=true:=by rfl):PE X (.Call (.Attribute o name R9) [] [] Sj) (KW X.K T r to):=by
 intro LO s σ H Q I h;refine wpAny_Call_method0_late acC VU<|bG (ho LO s σ H _ I h) λv s1 ⟨x,H1,I1,r1,ty,q1⟩=>?_;obtain⟨h1,h2⟩:=zq I1 r1 ty;exact⟨T,id,pa,slot,hty,h1,h2,Rr rfl<|PySem.evalArgs_none<|hm LO s1 σ H1 x [] v [] Q I1 r1 .nil q1⟩
theorem cv{e:Nt}{es:gV Nt}{t:TA}(pa:PlainAttrs T)(slot:Slot T name id)(hty:typeOf (.builtin id)=pure (.type "method_descriptor"))(hm:Io X id r)(ho:PE X o to)(ha:PA X (e::es) t)
  (acC:QX o name X.env (Oj o X.env)=Oj o X.env:=by rfl)
  (acx:((O_ Sj<|MT (e::es) X.env).all (λx=>!x.1)&&(Vf Sj<|RZ [] X.env).all (λx=>x.1.isSome)
   &&decide ((e::es).length+([]:gV Z2).length+(if([]:gV Z2).isEmpty then 0 else 1) < 30))=true:=by rfl)
  (VU:(R9.endLine == Sj.line)=true:=by rfl) (hs:MT (e::es) X.env=(LM,Oj e X.env)::MT es X.env:=by rfl) (ad4:(O_ Sj<|MT es X.env).any (·.1)=false:=by rfl):
  PE X (.Call (.Attribute o name R9) (e::es) [] Sj) (LD X.K T r to t):=by
 intro LO s σ H Q I h;refine wpAny_Call_method_late acC acx VU rfl<|bG (ho LO s σ H _ I h) λv s1 ⟨x,H1,I1,r1,ty,q1⟩=>?_;obtain⟨h1,h2⟩:=zq I1 r1 ty;exists T,id,pa,slot,hty,h1,h2;have hA:=ha Sj LO s1 σ H1 _ I1 q1;rw[hs]at hA ⊢;refine Rr (by show(LM || (O_ Sj<|MT es X.env).any (·.1))=LM;rw[ad4]<;>rfl)<|R3 ?_;exact bG hA λus s2 ⟨vs,H2,I2,r2,q2⟩=>hm LO s2 σ H2 x vs v us Q I2 r1 r2 q2
end
def Ja(X:Cx)(id:O3)(r:V->gV V->Hp->VK->Prop):Prop:=
 ∀(LO:gV (LJ×Obj)) (s:LR) (σ:St) (H:Hp) (x:V) (xs:gV V) (v:LF) (us:gV LF) (Q:VK),Inv X LO σ H s->RelV x v->Vals xs us->r x xs H Q->
  wpAny (MB X.prog X.w) X.A (call (.builtin id)<|v::us) (EP X LO σ Q) X.xe s
theorem Vals.one:∀{x:V} {us:gV LF},Vals [x] us->∃u,us=[u]/\RelV x u
 |_,_,.cons r .nil=>⟨_,rfl,r⟩
theorem Vals.two:∀{x y:V} {us:gV LF},Vals [x,y] us->∃u v,us=[u,v]/\RelV x u/\RelV y v
 |_,_,_,.cons r (.cons q .nil)=>⟨_,_,rfl,r,q⟩
theorem Vals.zero:∀{us:gV LF},Vals [] us->us=[]
 |_,.nil=>rfl
theorem Vals.dropLast(h:Vals xs us):Vals xs.dropLast us.dropLast:=by
 induction h with
 |nil=>exact .nil
 |cons r t ih=>
  cases t with
  |nil=>exact .nil
  |cons q t'=>exact .cons r ih
theorem uh{α:Type}(l:gV α):l.eraseIdx (l.length - 1)=l.dropLast:=by
 induction l with
 |nil=>rfl
 |cons a r ih=>
  cases r with
  |nil=>rfl
  |cons b r=>
   have e:(a::b::r).length - 1=((b::r).length - 1)+1:=by
    have h1:(a::b::r).length=r.length+2:=rfl;have h2:(b::r).length=r.length+1:=rfl;lia
   rw[e,List.eraseIdx_cons_succ,ih]
   all_goals rfl
theorem Inv.lset{NH its':gV LF}{n:Nat}{f:Ou LF->Ou LF}{t':Nat}(I:Inv X LO σ H s)(hH:H l=A' (.lst xs))
  (e:s.heap.get? l=A' {cls:=.type "list",data:=.seq NH.toArray n}) (hf:f NH.toArray=its'.toArray) (hv:Vals ys its') (hz:ys.length<=sizeLine):
  Inv X LO σ (upd H l<|.lst ys) {s with heap:=s.heap.update l<|Oh f,toks:=t'}:=by
 have q:=ab0 e f;rw[hf]at q;refine I.write (x:=l) (e:=l) (by rw[hH];exact trivial) (.inl rfl) (λb' u hb hu=>(M6 s.heap (Oh f)<|NC hb).trans hu) ⟨_,q⟩ ?_;exact⟨hz,its',_,hv,q⟩
theorem Inv.lnew{t':Nat}(I:Inv X LO σ H s)(hv:Vals ys NH)(hz:ys.length<=sizeLine):
  Inv X LO σ (upd H s.heap.objs.size<|.lst ys) {s with heap:=s.heap.push {cls:=.type "list",data:=.seq NH.toArray},toks:=t'}:=
 I.laid (λ_ _ q=>LP _ q) (LQ _) ⟨hz,NH,0,hv,MG _ rfl⟩
theorem Inv.fresh(I:Inv X LO σ H s):H s.heap.objs.size=none:=I.hok.fresh<|LQ _
theorem Inv.lstM(I:Inv X LO σ H s)(hH:H l=A' (.lst xs)):xs.length<=sizeLine/\∃NH n,Vals xs NH/\xs.length=NH.length/\s.heap.get? l=A' {cls:=.type "list",data:=.seq NH.toArray n}:=by
 obtain⟨z,NH,n,r,e⟩:=I.hok l _ hH;exact⟨z,NH,n,r,r.length,e⟩
theorem zr(h:n<=sizeLine):QZ n=false:=by
 unfold QZ;exact LW (by lia)
inductive Jb (x:V)(vs:gV V)(H:Hp)(Q:VK):Prop
 |mk (l:LJ)(xs:gV V)(y:V)(hx:x=.ref l)(hv:vs=[y])(h:H l=A' (.lst xs))(z:xs.length < sizeLine)(q:Q .non (upd H l<|.lst<|xs++[y])):Jb x vs H Q
def Dq:V->gV V->Hp->VK->Prop:=λx vs H Q=>Jb x vs H Q
theorem bW:Ja X "list.append" Dq:=by
 intro LO s σ H x vs v us Q I rx rv h;obtain⟨l,xs,y,rfl,rfl,hH,hz,q⟩:=h;cases rx;obtain⟨u,rfl,ru⟩:=rv.one;obtain⟨z,NH,n,r,hl,e⟩:=I.lstM hH;refine Qa Na ⟨_,e,rfl⟩ F.entry_list_append (F.args_list_append_2 _ _) (PySem.list_append l NH.toArray n u<|by rw[Mf];lia) ⟨e,?_⟩;refine⟨.non,_,I.lset (its':=NH++[u]) hH e (by simp) (r.append<|.cons ru .nil) ?_,rfl,q⟩;rw[LX,Mz];lia
def Dr:V->gV V->Hp->VK->Prop:=λx vs H Q=>∃l b xs zs,x=.ref l/\vs=[.ref b]/\H l=A' (.lst xs)/\H b=A' (.lst zs)/\xs.length+zs.length<=sizeLine/\Q .non (upd H l<|.lst<|xs++zs)
theorem xN:Ja X "list.extend" Dr:=by
 intro LO s σ H x vs v us Q I rx rv h;obtain⟨l,b,xs,zs,rfl,rfl,hH,hB,hz,q⟩:=h;cases rx;obtain⟨u,rfl,ru⟩:=rv.one;cases ru;obtain⟨z,NH,n,r,hl,e⟩:=I.lstM hH;obtain⟨z2,XI,n2,r2,Up,e2⟩:=I.lstM hB;have hsz:NH.toArray.size+XI.toArray.size<=sizeLine:=by rw[Mf,Mf];lia
 have afp:¬(!NH.toArray.isEmpty&&QZ (NH.toArray.size+XI.toArray.size))=true:=by
  rw[zr hsz,On];exact Mb
 refine Qa U4 ⟨_,e,rfl⟩ F.entry_list_extend (F.args_list_extend_2 _ _)
  (AutoSeq1.list_extend_list_list_0 l NH.toArray n b XI.toArray n2 afp (by rw[Mf];lia)<|by lia) ⟨e,e2,?_⟩
 refine⟨.non,_,I.lset (its':=NH++XI) hH e (by simp) (r.append r2) ?_,rfl,q⟩;rw[LX];lia
def KY:V->gV V->Hp->VK->Prop:=λx vs H Q=>∃l xs y,x=.ref l/\vs=[]/\H l=A' (.lst xs)/\xs[xs.length - 1]? =A' y/\Q y (upd H l<|.lst xs.dropLast)
theorem uk:Ja X "list.pop" KY:=by
 intro LO s σ H x vs v us Q I rx rv h;obtain⟨l,xs,y,rfl,rfl,hH,hy,q⟩:=h;cases rx;have hus:=rv.zero;subst hus;obtain⟨z,NH,n,r,hl,e⟩:=I.lstM hH;obtain⟨u,hu,ru⟩:=r.get hy;have hy':NH.toArray[NH.toArray.size - 1]? =A' u:=by
  show NH.toArray[NH.length - 1]? =A' u
  rw[<-Nz,<-hl];exact hu
 refine Qa QL ⟨_,e,rfl⟩ F.entry_list_pop (F.args_list_pop_1 _) (MeetsSeq.list_pop_last l NH.toArray n u hy'<|by rw[Mf];lia) ⟨e,?_⟩;refine⟨y,_,I.lset (its':=NH.dropLast) hH e ?_ r.dropLast ?_,ru,q⟩
 ·show NH.toArray.eraseIdxIfInBounds (NH.toArray.size - 1)=NH.dropLast.toArray
  rw[Mf,List.eraseIdxIfInBounds_toArray,uh]
 ·rw[Nw];lia
def KZ:R2:=λx y H Q=>∃l b xs zs,x=.ref l/\y=.ref b/\H l=A' (.lst xs)/\H b=A' (.lst zs)/\xs.length+zs.length<=sizeLine/\∀p,H p=LL->Q (.ref p) (upd H p<|.lst<|xs++zs)
theorem pO:OpR X (Pz .Add) KZ:=by
 intro LO s σ H x y v u Q I rx ry h;obtain⟨l,b,xs,zs,rfl,rfl,hH,hB,hz,q⟩:=h;cases rx;cases ry;obtain⟨z,NH,n,r,hl,e⟩:=I.lstM hH;obtain⟨z2,XI,n2,r2,Up,e2⟩:=I.lstM hB;refine PySem.P.add_list e e2 ?_ (by rw[Mf,Mf];lia);have ea:NH.toArray++XI.toArray=(NH++XI).toArray:=by simp
 rw[ea];exact⟨.ref _,_,I.lnew (t':=s.toks) (r.append r2) (by rw[LX];lia),rfl,q _ I.fresh⟩
section
variable {κ:Type}[Pd κ]
def bZ(kvs:gV (κ×V))(k:κ):LH V:=(kvs.find? λkv=>decide (kv.1=k)).map (·.2)
def bH(kvs:gV (κ×V))(k:κ)(v:V):gV (κ×V):=
 if(kvs.any λkv=>decide (kv.1=k))=LI then kvs.map (λkv=>if kv.1=k then(kv.1,v)else kv)else kvs++[(k,v)]
theorem cD{p:κ×V}{r:gV (κ×V)}{k:κ}(e:p.1=k):bZ (p::r) k=A' p.2:=by simp [bZ,NZ,e]
theorem cE{p:κ×V}{r:gV (κ×V)}{k:κ}(e:¬p.1=k):bZ (p::r) k=bZ r k:=by simp [bZ,NZ,e]
theorem hZ(k:κ):∀kvs,(kvs.any λkv=>decide (kv.1=k))=(bZ kvs k).isSome
 |[]=>rfl
 |p::r=>by
  rw[PQ];by_cases e:p.1=k
  ·simp only [cD e,Ma e,aac,Wl]
  ·rw[cE e,LW e,Q4];exact hZ k r
theorem q_(k j:κ)(y:V):∀kvs,bZ (kvs.map λkv=>if kv.1=k then(kv.1,y)else kv) j=(bZ kvs j).map λx=>if j=k then y else x
 |[]=>rfl
 |p::r=>by
  have ih:=q_ k j y r;rw[MH];by_cases h:p.1=k
  ·rw[Ml h];by_cases e:p.1=j
   ·rw[cD (p:=(p.1,y)) e,cD e,Q7,Ml<|e.symm.trans h]
   ·rw[cE (p:=(p.1,y)) e,cE e,ih]
  ·rw[Mi h];by_cases e:p.1=j
   ·rw[cD (p:=p) e,cD e,Q7,Mi λz=>h<|e.trans z]
   ·rw[cE (p:=p) e,cE e,ih]
theorem oh(k j:κ)(y:V):∀kvs,bZ kvs k=LL->bZ (kvs++[(k,y)]) j=if j=k then A' y else bZ kvs j
 |[],_=>by
  by_cases e:k=j
  ·rw[Ml e.symm];exact cD (p:=(k,y)) e
  ·rw[Mi λz=>e z.symm];exact cE (p:=(k,y)) e
 |p::r,hn=>by
  rw[List.cons_append];have hk:¬p.1=k:=λz=>by rw[cD z]at hn;cases hn
  rw[cE hk]at hn;have ih:=oh k j y r hn;by_cases e:p.1=j
  ·rw[cD e,cD e,Mi λz=>hk<|e.trans z]
  ·rw[cE e,cE e,ih]
theorem jl(kvs:gV (κ×V))(k j:κ)(y:V):bZ (bH kvs k y) j=if j=k then A' y else bZ kvs j:=by
 unfold bH;by_cases a:(kvs.any λkv=>decide (kv.1=k))=LI
 ·rw[Ml a,q_];rw[hZ]at a;by_cases e:j=k
  ·obtain⟨x,hx⟩:=O1.mp a;rw[Ml e,e,hx,Q7,Ml rfl]
  ·rw[Mi e];cases bZ kvs j with
   |none=>rfl
   |some x=>rw[Q7,Mi e]
 ·rw[Mi a];refine oh k j y kvs ?_;rw[hZ]at a;cases q:bZ kvs k with
  |none=>rfl
  |some x=>rw[q]at a;exact(a rfl).elim
theorem cw(kvs:gV (κ×V))(k:κ)(v:V):(bH kvs k v).length<=kvs.length+1:=by
 unfold bH
 split
 ·rw[J'];lia
 ·rw[LX,L4,OO];lia
theorem l4{kvs:gV (κ×V)}{k:κ}(v:V)(h:bZ kvs k=LL):bH kvs k v=kvs++[(k,v)]:=by
 unfold bH;rw[hZ,h];exact Mi (by decide)
theorem RelO.isSome_eq(r:RelO o u):o.isSome=u.isSome:=by
 cases o with
 |none=>cases u with
  |none=>rfl
  |some _=>exact(show False from r).elim
 |some _=>cases u with
  |none=>exact(show False from r).elim
  |some _=>rfl
theorem KV.val(r:KV kvs vs)(k:κ):RelO (bZ kvs k) (Th vs k):=by
 unfold KV at r
 induction r with
 |nil=>exact OF
 |@cons p q ps qs h t ih=>
  obtain⟨h1,h2⟩:=h;by_cases e:p.1=k
  ·have e':q.1=k:=h1.symm.trans e;have b:Th (q::qs) k=A' q.2:=by simp [Th,NZ,e']
   rw[cD e,b];exact h2
  ·have e':¬q.1=k:=λz=>e<|h1.trans z;have b:Th (q::qs) k=Th qs k:=by simp [Th,NZ,e']
   rw[cE e,b];exact ih
theorem KV.any(r:KV kvs vs)(k:κ):(kvs.any λkv=>decide (kv.1=k))=vs.any λkv=>decide (kv.1=k):=by
 unfold KV at r
 induction r with
 |nil=>rfl
 |cons h t ih=>rw[PQ,PQ,ih,h.1]
theorem KV.repl(r:KV kvs vs)(k:κ)(ry:RelV y u):
  KV (kvs.map λkv=>if kv.1=k then(kv.1,y)else kv) (vs.map λkv=>if kv.1=k then(kv.1,u)else kv):=by
 unfold KV at r ⊢
 induction r with
 |nil=>exact .nil
 |@cons p q ps qs h t ih=>
  rw[MH,MH];refine .cons ?_ ih;obtain⟨h1,h2⟩:=h;by_cases e:p.1=k
  ·rw[Ml e,Ml<|h1.symm.trans e];exact⟨h1,ry⟩
  ·rw[Mi e,Mi λz=>e<|h1.trans z];exact⟨h1,h2⟩
theorem KV.put(r:KV kvs vs)(k:κ)(ry:RelV y u):KV (bH kvs k y) (stored vs k u):=by
 unfold bH stored;rw[r.any k];by_cases e:(vs.any λkv=>decide (kv.1=k))=LI
 ·rw[Ml e,Ml e];exact r.repl k ry
 ·rw[Mi e,Mi e];exact Paired.snoc r ⟨rfl,ry⟩
theorem KV.length{kvs:gV (κ×V)}{vs:gV (κ×LF)}(r:KV kvs vs):kvs.length=vs.length:=Paired.length r
end
theorem jm(r:RelV (kV k) u):(a_ P w).is k u=true:=by
 cases k with
 |inl i=>obtain⟨t,e⟩:=(show∃t,u=Sw i t from r);subst e;exact qO P w i t
 |inr x=>obtain⟨t,e⟩:=(show∃t,u=Uc x t from r);subst e;exact qP P w x t
theorem oj:∀{ks:gV bo} {us:gV LF},Vals (ks.map kV) us->ItemsAre (a_ P w) ks us
 |[],_,r=>by rw[Ry]at r;cases r;exact .nil
 |k::ks,_,r=>by
  rw[MH]at r;cases r with
  |cons h t=>exact .cons (jm h)<|oj t
abbrev KT(H:Hp):gV (gV bo×V)->gV (gV bo×LJ×LF)->Prop:=Paired λp q=>p.1=q.1/\H q.2.1=A' (.tup<|p.1.map kV)/\RelV p.2 q.2.2
theorem KT.val(r:KT H kvs xs)(k:gV bo):RelO (bZ kvs k) ((Se xs k).map (·.2)):=by
 induction r with
 |nil=>exact OF
 |@cons p q ps qs h t ih=>
  obtain⟨h1,_,h2⟩:=h;by_cases e:p.1=k
  ·have e':q.1=k:=h1.symm.trans e;have b:Se (q::qs) k=A' q.2:=by simp [Se,NZ,e']
   rw[cD e,b];exact h2
  ·have e':¬q.1=k:=λz=>e<|h1.trans z;have b:Se (q::qs) k=Se qs k:=by simp [Se,NZ,e']
   rw[cE e,b];exact ih
theorem KT.repl(r:KT H kvs xs)(k:gV bo)(ry:RelV y u):
  KT H (kvs.map λkv=>if kv.1=k then(kv.1,y)else kv) (xs.map<|putAt k u):=by
 induction r with
 |nil=>exact .nil
 |@cons p q ps qs h t ih=>
  rw[MH,MH];refine .cons ?_ ih;obtain⟨h1,h2,h3⟩:=h;unfold putAt;by_cases e:p.1=k
  ·rw[Ml e,Ml<|h1.symm.trans e];exact⟨h1,h2,ry⟩
  ·rw[Mi e,Mi λz=>e<|h1.trans z];exact⟨h1,h2,h3⟩
theorem KT.put(r:KT H kvs xs)(k:gV bo)(hb:H b=A' (.tup<|k.map kV))(ry:RelV y u):
  KT H (bH kvs k y) (Rk xs k b u):=by
 have e:(kvs.any λkv=>decide (kv.1=k))=(Se xs k).isSome:=by
  rw[hZ,(r.val k).isSome_eq,Ts]
 unfold bH Rk;rw[e];by_cases q:(Se xs k).isSome=LI
 ·rw[Ml q,Ml q];exact r.repl k ry
 ·rw[Mi q,Mi q];exact Paired.snoc r ⟨rfl,hb,ry⟩
theorem KT.keeps(r:KT H kvs xs)(ht:∀b ys,H b=A' (.tup ys)->H' b=A' (.tup ys)):KT H' kvs xs:=
 Paired.mapP r λ_ _ z=>⟨z.1,ht _ _ z.2.1,z.2.2⟩
theorem Fb(ok:HOk P w H h)(e:Rd H a u):ObjOk P w H h a u:=e.ok ok
theorem kM(ok:HOk P w H h)(e:Rd H a (.dK kvs)):kvs.length<=sizeLine/\(a == Ov)=LM/\∃vs,KV kvs vs/\h.DictOf (a_ P w) a vs:=
 show ObjOk P w H h a (.dK kvs)from Fb ok e
theorem Fc(ok:HOk P w H h)(e:H a=A' (.dK kvs)):kvs.length<=sizeLine/\(a == Ov)=LM/\∃vs,KV kvs vs/\h.DictOf (a_ P w) a vs:=kM ok<|.inl e
theorem h_(ok:HOk P w H h)(e:H a=A' (.tup<|ks.map kV)):(Ob<|a_ P w).is h ks a:=by
 obtain⟨_,NH,r,o,h1,h2,n,h3⟩:=(show ObjOk P w H h a (.tup<|ks.map kV)from ok a _ e);exact⟨o,NH.toArray,n,h1,h2,h3,by simpa using oj r⟩
theorem kN(ok:HOk P w H h)(e:Rd H a (.dT kvs)):kvs.length<=sizeLine/\(a == Ov)=LM/\
  ∃xs,KT H kvs xs/\h.DictOfH (Ob<|a_ P w) a xs:=by
 obtain⟨z,y,xs,r,o,es,ep,h1,h2,h3,h4,h5⟩:=(show ObjOk P w H h a (.dT kvs)from Fb ok e);refine⟨z,y,xs,r,o,es,ep,h1,h2,h3,h4,λx hx=>?_,h5⟩;have all:∀{l:gV (gV bo×V)} {m:gV (gV bo×LJ×LF)},KT H l m->∀x∈m,(Ob<|a_ P w).is h x.1 x.2.1:=by
  intro l m q
  induction q with
  |nil=>intro x hx;exact nomatch hx
  |@cons p q ps qs hq t ih=>
   intro x hx;obtain e|hx:=Mn.mp hx
   ·subst e;exact h_ ok (by rw[<-hq.1];exact hq.2.1)
   ·exact ih x hx
 exact all r x hx
theorem Jc(ok:HOk P w H h)(e:H a=A' (.dT kvs)):kvs.length<=sizeLine/\(a == Ov)=LM/\
  ∃xs,KT H kvs xs/\h.DictOfH (Ob<|a_ P w) a xs:=kN ok<|.inl e
def DGet(H:Hp)(a:LJ)(y:V)(r:LH V):Prop:=
 (∃kvs k,Rd H a (.dK kvs)/\y=kV k/\r=bZ kvs k)\/∃kvs k b,Rd H a (.dT kvs)/\y=.ref b/\H b=A' (.tup<|k.map kV)/\r=bZ kvs k
def DPut(H:Hp)(a:LJ)(y v:V)(H':Hp):Prop:=
 (∃kvs k,H a=A' (.dK kvs)/\y=kV k/\kvs.length < sizeLine/\H'=upd H a (.dK<|bH kvs k v))\/
 ∃kvs k b,H a=A' (.dT kvs)/\y=.ref b/\H b=A' (.tup<|k.map kV)/\kvs.length < sizeLine/\H'=upd H a (.dT<|bH kvs k v)
theorem DGet.k{H:Hp}{a:LJ}{kvs:gV (bo×V)}{k:bo}(e:H a=A' (.dK kvs)):DGet H a (kV k) (bZ kvs k):=.inl ⟨kvs,k,.inl e,rfl,rfl⟩
theorem DGet.t{H:Hp}{a b:LJ}{kvs:gV (gV bo×V)}{k:gV bo}(e:H a=A' (.dT kvs))(eb:H b=A' (.tup<|k.map kV)):DGet H a (.ref b) (bZ kvs k):=.inr ⟨kvs,k,b,.inl e,rfl,eb,rfl⟩
theorem DPut.k{H:Hp}{a:LJ}{kvs:gV (bo×V)}{k:bo}{v:V}(e:H a=A' (.dK kvs))(hl:kvs.length < sizeLine):DPut H a (kV k) v (upd H a<|.dK<|bH kvs k v):=.inl ⟨kvs,k,e,rfl,hl,rfl⟩
theorem DPut.t{H:Hp}{a b:LJ}{kvs:gV (gV bo×V)}{k:gV bo}{v:V}(e:H a=A' (.dT kvs))(eb:H b=A' (.tup<|k.map kV))(hl:kvs.length < sizeLine):
  DPut H a (.ref b) v (upd H a<|.dT<|bH kvs k v):=.inr ⟨kvs,k,b,e,rfl,eb,hl,rfl⟩
theorem Inv.big(I:Inv X LO σ H s):Ov < s.heap.objs.size:=by
 have h:L7 < s.heap.objs.size:=(I.mod.glob.keeps I.bk).lt;exact UL (by decide) h
theorem xO(hu:A.units+1 < PU)(I:Inv X LO σ H s)(g:DGet H a y (A' v))(ry:RelV y u)(h:∀w' s',Inv X LO σ H s'->RelV v w'->Q w' s'):
  wpAny (MB X.prog X.w) A (Sm (.ref a) u) Q E s:=by
 obtain⟨kvs,k,e,ey,l⟩|⟨kvs,k,b,e,ey,eb,l⟩:=g
 ·subst ey;obtain⟨z,hd,vs,TK,dd⟩:=kM I.hok e;obtain⟨w',hw,rw'⟩:=RelO.some_of (v:=v) (o:=Th vs k) (by rw[l];exact TK.val k);exact wpAny_getItem_of (jm ry) dd.mapOf hw<|h w' _ (I.tok _) rw'
 ·subst ey;cases(show u=M' b from ry);obtain⟨z,hd,xs,TK,dd⟩:=kN I.hok e;obtain⟨w',hw,rw'⟩:=RelO.some_of (v:=v) (o:=(Se xs k).map (·.2)) (by rw[l];exact TK.val k);obtain⟨p,hp,Xc⟩:=NW.mp hw;refine wpAny_getItem_heap (Pi hu) (h_ I.hok eb) dd hp ?_;rw[Xc];exact h w' _ (I.tok _) rw'
theorem K0(hu:A.units+1 < PU)(I:Inv X LO σ H s)(g:DGet H a y o)(ry:RelV y u)(h:∀s',Inv X LO σ H s'->Q (.bool o.isSome) s'):
  wpAny (MB X.prog X.w) A (NG .In u<|.ref a) Q E s:=by
 obtain⟨kvs,k,e,ey,l⟩|⟨kvs,k,b,e,ey,eb,l⟩:=g
 ·subst ey;obtain⟨z,hd,vs,TK,dd⟩:=kM I.hok e;refine wpAny_in_of (jm ry) hd dd.mapOf ?_;rw[<-(TK.val k).isSome_eq,<-l];exact h _<|I.tok _
 ·subst ey;cases(show u=M' b from ry);obtain⟨z,hd,xs,TK,dd⟩:=kN I.hok e;refine wpAny_in_heap (Pi hu) (h_ I.hok eb) hd dd ?_;have q:=(TK.val k).isSome_eq;rw[Ts]at q;rw[<-q,<-l];exact h _<|I.tok _
theorem Ds(hu:A.units+1 < PU)(I:Inv X LO σ H s)(g:DGet H a y o)(ry:RelV y u)(h:∀s',Inv X LO σ H s'->Q (.bool (!o.isSome)) s'):
  wpAny (MB X.prog X.w) A (NG .NotIn u<|.ref a) Q E s:=by
 obtain⟨kvs,k,e,ey,l⟩|⟨kvs,k,b,e,ey,eb,l⟩:=g
 ·subst ey;obtain⟨z,hd,vs,TK,dd⟩:=kM I.hok e;refine wpAny_notIn_of (jm ry) hd dd.mapOf ?_;rw[<-(TK.val k).isSome_eq,<-l];exact h _<|I.tok _
 ·subst ey;cases(show u=M' b from ry);obtain⟨z,hd,xs,TK,dd⟩:=kN I.hok e;refine wpAny_notIn_heap (Pi hu) (h_ I.hok eb) hd dd ?_;have q:=(TK.val k).isSome_eq;rw[Ts]at q;rw[<-q,<-l];exact h _<|I.tok _
theorem jn{t':Nat}(I:Inv X LO σ H s)(mu:Ix (H a))(hs:PD a s.heap h')(he:∃q,h'.get? a=A' q)(new:ObjOk X.prog X.w (upd H a ob) h' a ob):
  Inv X LO σ (upd H a ob) {s with heap:=h',toks:=t'}:=
 I.write (x:=a) (e:=a) mu (.inl rfl) (λb q hb z=>(hs.2 b hb).trans z) he new
theorem pP{H':Hp}(z:kvs.length<=sizeLine)(hd:(a == Ov)=LM)(TK:KV kvs vs)(dd:h'.DictOf (a_ P w) a vs):
  ObjOk P w H' h' a (.dK kvs):=⟨z,hd,vs,TK,dd⟩
theorem xP(hu:A.units+1 < PU)(I:Inv X LO σ H s)(g:DPut H a y v H')(ry:RelV y u)(rv:RelV v r)(h:∀s',Inv X LO σ H' s'->Q () s'):
  wpAny (MB X.prog X.w) A (setItem (.ref a) u r) Q E s:=by
 obtain⟨kvs,k,e,ey,l,eH⟩|⟨kvs,k,b,e,ey,eb,l,eH⟩:=g
 ·subst ey eH;obtain⟨z,hd,vs,TK,dd⟩:=Fc I.hok e;have hz:vs.length<=sizeLine:=by rw[<-TK.length];exact z
  have hl:(bH kvs k v).length<=sizeLine:=by have:=cw kvs k v;lia
  refine wpAny_setItem_pairs (hsz:=hz) (jm ry) dd λh' dd' hs=>h _ ?_;have he:∃q,h'.get? a=A' q:=let ⟨q,_,_,hq,_⟩:=dd';⟨q,hq⟩
  exact jn I (by rw[e];exact OF) hs he<|pP hl hd (TK.put k rv) dd'
 ·subst ey eH;cases(show u=M' b from ry);obtain⟨z,hd,xs,TK,dd⟩:=Jc I.hok e;have hz:xs.length<=sizeLine:=by rw[<-Paired.length TK];exact z
  have hl:(bH kvs k v).length<=sizeLine:=by have:=cw kvs k v;lia
  refine wpAny_setItem_heap (hsz:=hz) (Pi hu) (h_ I.hok eb) dd λh' dd' hs=>h _ ?_;obtain⟨q,es,ep,hq,h2,h3,h4,_,h5⟩:=dd';refine jn I (by rw[e];exact OF) hs ⟨q,hq⟩ ⟨hl,hd,_,(TK.put k eb rv).keeps λc ys ec=>?_,q,es,ep,hq,h2,h3,h4,h5⟩;rw[al<|bR ec e (λz=>nomatch z)];exact ec
def Jd(i:Nt):Prop:=∀ov iv,Vd i LM ov iv=operate [ov,iv] (Sm ov iv)
theorem Dt{prog:Mm}{w:MK}{A:Nl}{E:LF->LR->Prop}{s:LR}{env:Env}{value slice:Nt}{pos:Pos}{T id:O3}{Q:LF->LR->Prop}
  (hl:Yl (.type T) "__getitem__"=pure (A'<|.builtin id)) (hs:Jd slice)
  (h:wpAny (MB prog w) A (Oj value env) (λo s₁=>wpAny (MB prog w) A (Oj slice env) (λi s₂=>s₂.TypeIs o T/\wpAny (MB prog w) A (Sm o i) Q E s₂) E s₁) E s):
  wpAny (MB prog w) A (Oj (.Subscript value slice pos) env) Q E s:=by
 refine YD<|Nv h (λo s₁ h₁=>Nv h₁ (λi s₂ h₂=>?_) λ_ _ x=>x) λ_ _ x=>x;obtain⟨hT,h₂⟩:=h₂;unfold VX;refine LG ?_;rw[getitemInPython_of_ne hT.not_modules];refine LG<|wpAny_specialOf hT hl ?_;have S6:wpAny (MB prog w) A (Vd slice LM o i) (λr s₃=>wpAny (MB prog w) A (letTemporaryGo value o r >>=λ_=>pure r) Q E s₃) E s₂:=by
  rw[hs o i];exact wpAny_operating<|Nv h₂ (λr s₃ h₃=>LG<|wpAny_letTemporaryGo<|Me h₃) λ_ _ x=>x
 first
  |exact Me<|LG S6
  |exact LG<|Me<|LG S6
  |exact LG S6
theorem rc(I:Inv X LO σ H s)(g:DGet H a y o):s.TypeIs (.ref a) "dict":=by
 obtain⟨kvs,k,e,_,_⟩|⟨kvs,k,b,e,_,_,_⟩:=g
 ·obtain⟨_,_,vs,_,dd⟩:=kM I.hok e;exact dd.typeIs
 ·obtain⟨_,_,xs,_,dd⟩:=kN I.hok e;exact dd.typeIs
def Je(td ty:TE):TE:=λσ H Q=>td σ H λx H1=>ty σ H1 λy H2=>∃a v,x=.ref a/\DGet H2 a y (A' v)/\Q v H2
def K1(ty td:TE):TE:=λσ H Q=>ty σ H λy H1=>td σ H1 λx H2=>∃a o,x=.ref a/\DGet H2 a y o/\Q (.bl o.isSome) H2
def Du(ty td:TE):TE:=λσ H Q=>ty σ H λy H1=>td σ H1 λx H2=>∃a o,x=.ref a/\DGet H2 a y o/\Q (.bl (!o.isSome)) H2
def Jf(td ty tv:TE):TS:=λD σ H=>tv σ H λv H1=>td σ H1 λx H2=>ty σ H2 λy H3=>∃a H4,x=.ref a/\DPut H3 a y v H4/\D.nx σ H4
theorem bT(hu:X.A.units+1 < PU)(ho:PE X o td)(hi:PE X i ty)(hs:Jd i):PE X (.Subscript o i pos) (Je td ty):=by
 intro LO s σ H Q I h;refine Dt PySem.F.slot_dict_getitem.lookup hs<|bG (ho LO s σ H _ I h) λu s1 ⟨x,H1,I1,rx,q1⟩=>bG (hi LO s1 σ H1 _ I1 q1) λiv s2 ⟨y,H2,I2,ry,a,v,ex,g,q2⟩=>?_;subst ex;obtain rfl:u=M' a:=rx;exact⟨rc I2 g,xO hu I2 g ry λw' s3 I3 rw'=>⟨v,H2,I3,rw',q2⟩⟩
theorem GI(hu:X.A.units+1 < PU)(hi:PE X i ty)(ho:PE X o td):PC X .In i o (K1 ty td):=by
 intro LO s σ H Q I h;refine bG (hi LO s σ H _ I h) λiv s1 ⟨y,H1,I1,ry,q1⟩=>bG (ho LO s1 σ H1 _ I1 q1) λu s2 ⟨x,H2,I2,rx,a,ov,ex,g,q2⟩=>?_;subst ex;obtain rfl:u=M' a:=rx;exact K0 hu I2 g ry λs3 I3=>⟨.bl ov.isSome,H2,I3,rfl,q2⟩
theorem om(hu:X.A.units+1 < PU)(hi:PE X i ty)(ho:PE X o td):PC X .NotIn i o (Du ty td):=by
 intro LO s σ H Q I h;refine bG (hi LO s σ H _ I h) λiv s1 ⟨y,H1,I1,ry,q1⟩=>bG (ho LO s1 σ H1 _ I1 q1) λu s2 ⟨x,H2,I2,rx,a,ov,ex,g,q2⟩=>?_;subst ex;obtain rfl:u=M' a:=rx;exact Ds hu I2 g ry λs3 I3=>⟨.bl (!ov.isSome),H2,I3,rfl,q2⟩
theorem ly(hu:X.A.units+1 < PU)(ho:PE X o td)(hi:PE X i ty)(hv:PE X value tv)(hs:VB value (A'<|.Subscript o i VH) pos.line X.env=pure LM):
  PS X (.Assign [.Subscript o i VH] value pos) (Jf td ty tv):=by
 intro LO s σ H D I h;refine wpAny_Assign_Subscript (bG (hv LO s σ H _ I h) λr s1 ⟨v,H1,I1,rv,q1⟩=>bG (ho LO s1 σ H1 _ I1 q1) λu s2 ⟨x,H2,I2,rx,q2⟩=>bG (hi LO s2 σ H2 _ I2 q2) λiv s3 ⟨y,H3,I3,ry,a,H4,ex,g,q3⟩=>?_) hs;subst ex;obtain rfl:u=M' a:=rx;exact xP hu I3 g ry rv λs4 I4=>⟨σ,H4,I4,q3⟩
theorem re(h:M8)(hb:Ov < h.objs.size):ObjOk P w H (h.push {cls:=.type "dict",data:=.dict #[]}) h.objs.size (.dK []):=
 ⟨Mw _,ND.mpr<|NC<|Mx hb,[],.nil,XT h⟩
theorem zt(h:M8)(hb:Ov < h.objs.size):ObjOk P w H (h.push {cls:=.type "dict",data:=.dict #[]}) h.objs.size (.dT []):=
 ⟨Mw _,ND.mpr<|NC<|Mx hb,[],.nil,_,#[],0,MG _ rfl,⟨rfl,rfl,rfl⟩,rfl,rfl,Rx⟩
def GJ:TE:=λ_ H Q=>∀p,H p=LL->Q (.ref p) (upd H p<|.dK [])
def GK:TE:=λ_ H Q=>∀p,H p=LL->Q (.ref p) (upd H p<|.dT [])
theorem zu:PE X (.Dict [] [] pos) GJ:=λLO s σ H Q I h=>
 Xg ⟨.ref s.heap.objs.size,_,I.laid (a:=s.heap.objs.size) (o:=.dK []) (t':=s.toks) (λ_ _ q=>LP _ q) (LQ _)<|re s.heap I.big,rfl,h _<|I.hok.fresh<|LQ _⟩
theorem l7:PE X (.Dict [] [] pos) GK:=λLO s σ H Q I h=>
 Xg ⟨.ref s.heap.objs.size,_,I.laid (a:=s.heap.objs.size) (o:=.dT []) (t':=s.toks) (λ_ _ q=>LP _ q) (LQ _)<|zt s.heap I.big,rfl,h _<|I.hok.fresh<|LQ _⟩
def ul:gV (TE×TE)->St->Hp->(gV (V×V)->Hp->Prop)->Prop
 |[],_,H,Q=>Q [] H
 |(tk,tv)::r,σ,H,Q=>tk σ H λx H1=>tv σ H1 λy H2=>ul r σ H2 λps H3=>Q ((x,y)::ps) H3
abbrev VV:gV (V×V)->gV (LF×LF)->Prop:=Paired λp q=>RelV p.1 q.1/\RelV p.2 q.2
def Ko(X:Cx)(pos:Pos)(Si:gV (LH Nt))(X9:gV Nt)(trs:gV (TE×TE)):Prop:=
 ∀(LO:gV (LJ×Obj)) (s:LR) (σ:St) (H:Hp) (Q:gV (V×V)->Hp->Prop),Inv X LO σ H s->ul trs σ H Q->
  wpAny (MB X.prog X.w) X.A (evalPairs<|pairTrees Si X9 X.env pos) (λvs s'=>∃ps H',Inv X LO σ H' s'/\VV ps vs/\Q ps H') X.xe s
theorem vO:Ko X pos [] [] []:=λLO s σ H Q I h=>pairTrees_nil_walk ⟨[],H,I,.nil,h⟩
theorem l8(hk:PE X k tk)(hv:PE X v tv)(hr:Ko X pos ks vs trs):
  Ko X pos (A' k::ks) (v::vs) ((tk,tv)::trs):=λLO s σ H Q I h=>
 pairTrees_cons_walk (bG (hk LO s σ H _ I h) λu s1 ⟨x,H1,I1,rx,q1⟩=>bG (hv LO s1 σ H1 _ I1 q1) λw2 s2 ⟨y,H2,I2,ry,q2⟩=>
  bG (hr LO s2 σ H2 _ I2 q2) λws s3 ⟨ps,H3,I3,TK,q3⟩=>⟨(x,y)::ps,H3,I3,.cons ⟨rx,ry⟩ TK,q3⟩)
def gc(kvs more:gV (bo×V)):gV (bo×V):=more.foldl (λO0 kv=>bH O0 kv.1 kv.2) kvs
theorem KV.merge:∀{more:gV (bo×V)} {rs:gV (bo×LF)} {kvs:gV (bo×V)} {vs:gV (bo×LF)},KV more rs->KV kvs vs->KV (gc kvs more) (V8 vs rs):=by
 intro more rs kvs vs r;unfold KV at r
 induction r generalizing kvs vs with
 |nil=>intro q;exact q
 |@cons p q ps qs h t ih=>
  intro r0;have e:KV (bH kvs p.1 p.2) (stored vs q.1 q.2):=by
   have:=r0.put p.1 h.2;rw[<-h.1];exact this
  exact ih e
theorem iT:∀more kvs,(gc kvs more).length<=kvs.length+more.length
 |[],kvs=>by show kvs.length<=kvs.length+0;lia
 |p::r,kvs=>by
  have h1:=iT r<|bH kvs p.1 p.2;have h2:=cw kvs p.1 p.2;show(gc (bH kvs p.1 p.2) r).length<=_
  rw[L4];lia
theorem l9:∀{kvs:gV (bo×V)} {ws:gV (LF×LF)},VV (kvs.map λkv=>(kV kv.1,kv.2)) ws->∃rs,Carries (a_ P w) ws rs/\KV kvs rs
 |[],_,r=>by rw[Ry]at r;cases r;exact⟨[],OF,.nil⟩
 |p::kvs,_,r=>by
  rw[MH]at r;cases r with
  |@cons a b as bs h t=>
   obtain⟨rs,c,q⟩:=l9 (P:=P) (w:=w) t;obtain⟨b1,b2⟩:=b;exact⟨(p.1,b2)::rs,⟨jm h.1,rfl,c⟩,.cons ⟨rfl,h.2⟩ q⟩
def rf(trs:gV (TE×TE)):TE:=λσ H Q=>∀p,H p=LL->ul trs σ (upd H p<|.dK []) λps H2=>H2 p=A' (.dK [])/\∃kvs:gV (bo×V),ps=kvs.map (λkv=>(kV kv.1,kv.2))/\kvs.length<=15/\Q (.ref p) (upd H2 p<|.dK<|gc [] kvs)
theorem vP(h:Ko X pos Si X9 trs)(aaq:Si.all (·.isSome)=LI)(hl:Si.length=X9.length)(h0:Si≠[])
  (h15:Si.length<=15):PE X (.Dict Si X9 pos) (rf trs):=by
 intro LO s σ H Q I q;have hn:=I.hok.fresh<|LQ s.heap.objs.size;have I1:=I.laid (a:=s.heap.objs.size) (o:=.dK []) (h':=s.heap.push {cls:=.type "dict",data:=.dict #[]}) (t':=s.toks) (λ_ _ q=>LP _ q) (LQ _)<|re s.heap I.big;refine wpAny_Dict_walk (knd:=a_ X.prog X.w) aaq hl h0 h15<|bG (h LO _ σ _ _ I1<|q _ hn) λws s2 ⟨ps,H2,I2,TK,e,kvs,ep,lk,q2⟩=>?_;subst ep;obtain⟨rs,c,rk⟩:=l9 (P:=X.prog) (w:=X.w) TK;obtain⟨z,hd,vs0,r0,dd⟩:=Fc I2.hok e;cases r0;refine⟨rs,c,dd,λh' dd' hs=>⟨.ref s.heap.objs.size,_,?_,rfl,q2⟩⟩;have hz:(gc [] kvs).length<=sizeLine:=by
  have h1:=iT kvs [];rw[OO]at h1;rw[NT];lia
 have he:∃q,h'.get? s.heap.objs.size=A' q:=let ⟨q,_,_,hq,_⟩:=dd';⟨q,hq⟩
 exact jn I2 (by rw[e];exact OF) hs he<|pP hz hd (rk.merge .nil) dd'
structure M2 (X:Cx)(o:Nt)(m:Str)(R9:Pos)(e f:Nt)(Sj:Pos):Prop where
 base:QX o m X.env (Oj o X.env)=Oj o X.env
 few:((O_ Sj<|MT [e,f] X.env).all (λx=>!x.1)&&(Vf Sj<|RZ [] X.env).all (λx=>x.1.isSome)
  &&decide (([e,f]:gV Nt).length+([]:gV Z2).length+(if([]:gV Z2).isEmpty then 0 else 1) < 30))=LI
 line:(R9.endLine == Sj.line)=LI
 trees:O_ Sj (MT [e,f] X.env)=[(LM,Oj e X.env),(LM,Oj f X.env)]
def Lr(H:Hp)(a:LJ):Prop:=(∃kvs,Rd H a<|.dK kvs)\/∃kvs,Rd H a<|.dT kvs
theorem GL(I:Inv X LO σ H s)(d:Lr H a):
  s.TypeIs (.ref a) "dict"/\(∀b,M' a=.ref b->∃ob,s.heap.get? b=A' ob/\ob.dict=LL)/\(a == Ov)=false:=by
 obtain⟨kvs,e⟩|⟨kvs,e⟩:=d
 ·obtain⟨_,hd,vs,_,dd⟩:=kM I.hok e;refine⟨dd.typeIs,λb q=>?_,hd⟩;cases q;obtain⟨ob,_,_,h1,h2,_⟩:=dd;exact⟨ob,h1,h2.2.1⟩
 ·obtain⟨_,hd,xs,_,dd⟩:=kN I.hok e;refine⟨dd.typeIs,λb q=>?_,hd⟩;cases q;obtain⟨ob,_,_,h1,h2,_⟩:=dd;exact⟨ob,h1,h2.2.1⟩
end L2
namespace Att
open PySem PySem.W PySem.Calls PyProof.Rows
theorem ld:∀ns vs,WellAll P h vs (ns.map abZ)->PV vs ns:=by
 intro ns
 induction ns with
 |nil=>
  intro vs w;rw[Ry]at w;cases w;exact .nil
 |cons n ns ih=>
  intro vs w;rw[MH]at w;cases w with
  |cons a b=>
   cases a;exact .cons _ _<|ih _ b
theorem xQ{l:R0}{n:Nat}(hn:l.most=A' n){P:Z1}{h:M8}{args:gV WData}{adI:gV LF}
  (aa9:l.row.toRowW.claim.pre args=LI) (hwl:WellAll P h adI args):
  ∃a vs ns,adI=[M' a]/\args=[WData.list<|ns.map abZ]/\h.get? a=A' {cls:=.type "list",data:=.seq vs.toArray}/\PV vs ns/\ns.length<=n:=by
 have hsh:WShape.hasAll [] args [.list .int]=true:=(pre_splitW aa9).1;have hc:l.pre.holds [] {args:=args}=true:=(pre_splitW aa9).2;obtain⟨d,r,rfl,h1,h2⟩:=hasAllW_cons hsh;obtain rfl:=hasAllW_nil h2;obtain⟨xs,rfl,h3⟩:=hasW_list h1;obtain⟨ns,rfl⟩:=items_int h3;have N1:ns.length<=n:=by
  unfold OpenLaw.pre at hc;have h4:(WTm.not<|.lt (.lit<|.int (n:Int))<|.len<|.arg 0).holds [] {args:=[.list<|ns.map .int]}=true:=by
   have h4:=(holds_andW hc).1;rw[hn]at h4;exact h4
  have h5:=condW_of h4<|w_not<|w_lt w_lit<|w_len_list<|w_arg rfl;rw[J']at h5;refine Nat.le_of_not_lt λq=>?_;have q':(n:Int) < ((ns.length:Nat):Int):=by lia
  first
   |(rw[Ma q']at h5;exact absurd h5<|by decide)
   |(simp at h5;lia)
 cases hwl with
 |cons w1 w2=>
  cases w2;cases w1 with
  |list ho aaq=>exact⟨_,_,ns,rfl,rfl,ho,ld ns _ aaq,N1⟩
theorem xR(l:R0)(args:gV WData):l.row.toRowW.claim.post args (.bool LI) args=true:=
 postW_of (r:=l.row.toRowW) (X:=(LI == LI))
  (show abl [] (.bool LI) .bool=LI by first|rfl|decide|simp [abl,WShape.arms,WShape.armsAll])
  (show(WTm.eq .res<|.lit<|.bool LI).value [] {args:=args,res:=A'<|.bool LI,after:=args}=A' (.bool<|LI == LI)from w_eq_bool (w_res rfl) w_lit) rfl
theorem attach_call{l:R0}{n:Nat}{q:Mm}{loose:gV Str}{XP:(Str->LH LF)->M8->Prop}{YP:MK->M8->Prop}{d:DefRec}
  (hn:l.most=A' n) (hdf:d.params.defaults=[])
  (call:∀w s₀ s₁ mg mb fa o pm cd Wz a vs ns,
   Ground q loose [] XP w s₀ mg mb s₁.heap->YP w s₁.heap->
   s₁.heap.get? fa=A' o->o.data=.func (docDef d.name d.params d.body d.scope pm cd Wz)->s₁.heap.CodeRec cd d.name->mg d.name=A' (.ref fa)->
   s₁.heap.get? a=A' {cls:=.type "list",data:=.seq vs.toArray}->PV vs ns->ns.length<=n->s₁.gens=#[]->
   codeAny (MB l.prog w) VD (.call (.ref fa) ⟨[.ref a],[]⟩) (λr s'=>r=.ok (.ret<|.bool LI)/\OldK s₁.heap s'.heap/\s'.os=s₁.os/\Ss s'.gens) s₁):
  Xl q loose XP YP l.row.toRowW d [] (λf vs=>V' f vs):=by
 intro w s₀ s₁ mg mb G Y fa o pm cd Wz dV kV ho hd hcd hD hmg hg args adI as aa9 hlay hrd hwl hlo;obtain rfl:dV=.none:=Dflts.none hD hdf;obtain rfl:kV=.none:=Dflts.noKw hD;obtain⟨a,vs,ns,rfl,rfl,ad9,aam,N1⟩:=xQ hn aa9 hwl;refine enter_call<|Sn (call w s₀ s₁ mg mb fa o pm cd Wz a vs ns G Y ho (fd_plain hd) hcd hmg ad9 aam N1 hg) λr s' hq=>?_;obtain⟨rfl,h2,h3,h4⟩:=hq;exact⟨.inl ⟨.bool LI,.bool LI,[],rfl,λ_=>rfl,.bool LI,xR l _,λ_=>⟨TB,λ_ hm=>(nomatch hm)⟩⟩,h2,h3,h4⟩
end Att
namespace L2
open PySem PySem.Spec PyProof.Rows
theorem iD:∀{vs:gV LF} {ns:gV Int},PV vs ns->Vals (ns.map V.int) vs
 |_,_,.nil=>.nil
 |_,_,.cons n t h=>.cons ⟨t,rfl⟩<|iD h
def GM(H:Hp):Prop:=∀b,H b=LL\/∃o xs,H b=A' (.frz o<|.lst xs)
theorem zw{P:Mm}{w:MK}{K:K'}{mg mb:Str->LH LF}{CX:xL}{k:Nat}{fa a:LJ}{fd:Ms}{x:Str}{sp:Sp}{s₁:LR}{vs:gV LF}{ns:gV Int}
  (KX:K.In s₁.heap) (Xa:s₁.heap.Ns L7 mg) (hb:s₁.heap.Ns Ys mb) (hbb:∀x:Str,x≠"__name__"->mb x=Ro x) (ahD:s₁.heap.NoLimit) (hg:s₁.gens=#[])
  (ha:s₁.heap.get? a=A' {cls:=.type "list",data:=.seq vs.toArray}) (hi:PV vs ns) (hl:ns.length<=sizeLine) (hr:Room k VD)
  (F:∀base:M8,K.In base->base.Ns L7 mg->FnOk P w K mg base CX k fa fd [x] sp) (afO:∀(s:LR) (u:LF),WV s fd ⟨[u],[]⟩ [(x,u)])
  (hsp:∀H:Hp,GM H->SqL K H a (ns.map V.int)->sp [.ref a] H (λv _=>v=.bl LI) λ_ _ _=>False)
  (hCX:∀H e s',CX [] H s₁ (λ_ _ _=>False) e s'->False):
  codeAny (MB P w) VD (.call (.ref fa) ⟨[.ref a],[]⟩) (λr s'=>r=.ok (.ret<|.bool LI)/\OldK s₁.heap s'.heap/\s'.os=s₁.os/\Ss s'.gens) s₁:=by
 have rv:=iD hi;have ag6:=hi.length;have core:∀H:Hp,GM H->SqL K H a (ns.map V.int)->HOk P w H s₁.heap->(∀b,H b≠LL->b=a)->(H a≠LL->K.lookup a=LL)->
   codeAny (MB P w) VD (.call (.ref fa) ⟨[.ref a],[]⟩) (λr s'=>r=.ok (.ret<|.bool LI)/\OldK s₁.heap s'.heap/\s'.os=s₁.os/\Ss s'.gens) s₁:=by
  intro H hO hS hok hA hK;have abG:∀{b:LJ} {o:Obj},s₁.heap.get? b=A' o->H b=LL->(pF s₁.heap H).get? b=A' o:=λe n=>zc e n;have noA:∀{b:LJ} {o:Obj} {es:Ou DictEntry} {ep:Nat},s₁.heap.get? b=A' o->o.data=.dict es ep->H b=none:=λ{b o es ep} e d=>by
   cases q:H b with
   |none=>rfl
   |some u=>
    have e':b=a:=hA b (by rw[q];simp);subst e';rw[ha]at e;cases e;have d':Data.seq vs.toArray _=Data.dict es ep:=d;cases d'
  have nsK:∀{b:LJ} {m:Str->LH LF},s₁.heap.Ns b m->(pF s₁.heap H).Ns b m:=λ{b m} ⟨o,es,ep,e,d,r⟩=>⟨o,es,ep,abG e<|noA e d,d,r⟩;have hKb:K.In (pF s₁.heap H):=λb o e=>abG (KX b o e) (by
   cases q:H b with
   |none=>rfl
   |some u=>
    have e':b=a:=hA b (by rw[q];simp);subst e';rw[hK<|by rw[q];simp]at e;cases e)
  have hM:Mod K mg (pF s₁.heap H):=⟨hKb,nsK Xa,⟨mb,nsK hb,hbb⟩,let ⟨mc,h1,h2⟩:=ahD;⟨mc,nsK h1,h2⟩⟩;have e0:Env0 P w K mg (pF s₁.heap H) VD [] s₁ H:=⟨rfl,hM,λb o e=>C8 e,QN<|xE _ _,trivial,λb hb=>absurd (show b∈([]:gV LJ)from hb) (by simp),hok,.of_eq hg⟩;refine Sn ((F _ hKb<|nsK Xa).run VD [] s₁ H ⟨[.ref a],[]⟩ [.ref a] [.ref a] _ _ hr e0 (afO s₁<|.ref a) (.cons rfl .nil)<|hsp H hO hS) λr s' h=>?_;cases r with
  |error e=>exact(hCX H e s' h).elim
  |ok fl=>
   cases fl with
   |next=>exact O8 h
   |brk=>exact O8 h
   |cont=>exact O8 h
   |ret u=>
    obtain⟨v,H',os,bare,un,aa',r',q⟩:=h;have q':v=.bl true:=q;subst q';obtain rfl:u=Wc true:=r';refine⟨rfl,OldK.of_keep λb o e=>?_,os,bare⟩;cases q:H b with
    |none=>exact un.keep b o e q (by intro z;exact absurd (show b∈([]:gV LJ)from z)<|by simp) (by simp)
    |some u=>
     obtain z|⟨ob,xs,z⟩:=hO b
     ·rw[q]at z;cases z
     ·have z2:=un.frzs b ob _ z;obtain⟨e1,_⟩:=hok b _ z;obtain⟨e2,_⟩:=aa' b _ z2;rw[e]at e1;cases e1;exact e2
 cases hk:K.lookup a with
 |some o=>
  have e:=KX a o hk;rw[ha]at e;cases e;refine core (λ_=>LL) (λ_=>.inl rfl) (.inr ⟨_,vs.toArray,_,hk,rfl,rfl,rfl,by rw[Mf,ag6];exact hl,by simpa using rv⟩) (λb u z=>by have z':(LL:LH HO)=A' u:=z;cases z') (λb z=>absurd rfl z) λz=>absurd rfl z
 |none=>
  refine core (λb=>if b=a then A' (.frz {cls:=.type "list",data:=.seq vs.toArray}<|.lst<|ns.map V.int)else LL) (λb=>?_) (.inl<|.inr ⟨{cls:=.type "list",data:=.seq vs.toArray},Ml rfl⟩) (λb u z=>?_) (λb z=>?_) λ_=>hk
  ·by_cases hb:b=a
   ·exact .inr ⟨_,_,Ml hb⟩
   ·exact .inl<|Mi hb
  ·by_cases hb:b=a
   ·have z':=(Ml hb).symm.trans z;cases z';subst hb;exact⟨ha,by rw[J'];exact hl,vs,_,rv,ha⟩
   ·have z':=(Mi hb).symm.trans z;cases z'
  ·by_cases hb:b=a
   ·exact hb
   ·exact absurd (Mi hb) z
theorem walk_of{l:R0}{n k:Nat}{q:Mm}{loose:gV Str}{XP:(Str->LH LF)->M8->Prop}{YP:MK->M8->Prop}{d:DefRec}{K:Z1->K'}{CX:MK->xL}{sp:MK->Sp}{x:Str}
  (hn:l.most=A' n) (hn2:n<=sizeLine) (hdf:d.params.defaults=[]) (hr:Room k VD)
  (hY:∀(w:MK) (h:M8),YP w h->(K w.params).In h)
  (F:∀(w:MK) (mg:Str->LH LF) (fa:LJ) (h:M8),(K w.params).In h->h.Ns L7 mg->mg d.name=A' (.ref fa)->
   ∃fd:Ms,(∀(s:LR) (u:LF),WV s fd ⟨[u],[]⟩ [(x,u)])/\
    ∀base:M8,(K w.params).In base->base.Ns L7 mg->FnOk l.prog w (K w.params) mg base (CX w) k fa fd [x] (sp w))
  (hsp:∀(w:MK) (H:Hp) (a:LJ) (ns:gV Int),ns.length<=n->GM H->SqL (K w.params) H a (ns.map V.int)->sp w [.ref a] H (λv _=>v=.bl LI) λ_ _ _=>False)
  (hCX:∀(w:MK) (H:Hp) (s:LR) (e:LF) (s':LR),CX w [] H s (λ_ _ _=>False) e s'->False):
  Xl q loose XP YP l.row.toRowW d [] (λf vs=>V' f vs):=by
 refine Att.attach_call hn hdf λw s₀ s₁ mg mb fa o pm cd Wz a vs ns G Y ho hd hcd hmg ad9 aam N1 hg=>?_;have KX:=hY w _ Y;obtain⟨fd,hb,hF⟩:=F w mg fa _ KX G.T.g hmg;exact zw KX G.T.g G.T.b G.T.builtins G.T.nolimit hg ad9 aam (MD N1 hn2) hr hF hb (λH hO hS=>hsp w H a ns N1 hO hS) λH e s'=>hCX w H s₁ e s'
def eh(s:NN)(j:Nat):NN:=match s with
 |.ClassDef _ _ _ body _ _ _ _ _ _ _=>body.getD j<|.Pass ⟨0,0,0,0⟩
 |_=>.Pass ⟨0,0,0,0⟩
def eu(s:NN):Arguments:=match s with
 |.FunctionDef _ a _ _ _ _ _ _ _ _=>a
 |_=>{posonlyargs:=[],args:=[],vararg:=LL,kwonlyargs:=[],kw_defaults:=[],kwarg:=LL,defaults:=[]}
def dj(s:NN):gV NN:=match s with
 |.FunctionDef _ _ b _ _ _ _ _ _ _=>b
 |_=>[]
def aj(s:NN):QP:=match s with
 |.FunctionDef _ _ _ _ _ _ sc _ _ _=>sc
 |_=>{kind:=.function,names:=[],isGenerator:=LM,isCoroutine:=LM}
abbrev b7:xL:=λ_ _ _ _ _ _=>False
abbrev E0:XK:=λ_ _ _=>False
theorem vR:gE b7 X E0:=λ_ _ _ _ _ _ _ h=>h.elim
structure Fun (K:K')(x qual:Str)(st:NN)(f:LJ)(fd:Ms):Prop where
 ex:∃(oc:LF) (od:LH LJ) (kV Wz pm:LF) (an:LH LJ) (OT ct:LF) (osl:Ou (LH LF)),
  fd=OG x qual (eu st) (dj st) (aj st) .none kV Wz pm an OT ct/\K.lookup f=A' ⟨oc,od,.func fd,osl⟩/\Vh K OT qual=LI
 kp:Pk K (.ref f)=LI
section
variable {K:K'}
theorem Fun.ok{P:Mm}{w:MK}{mg:Str->LH LF}{base:M8}{x qual:Str}{st:NN}{f:LJ}{fd:Ms}{N ps:gV Str}{k:Nat}{sp:Sp}(F:Fun K x qual st f fd)(S:aq N ps (aj st))(len:∀vs H Q E,sp vs H Q E->vs.length=ps.length)
  (aap:∀OT A outer s H vs Q E,Room k (A.deeper<|Nj qual (aj st) s.heap.objs.size f OT)->sp vs H Q E->
   ∃t,PSs (cL b7 P w K mg base N qual (aj st) f OT A outer s H E).nox (dj st) t/\t {nx:=λ_ H'=>Q .non H',rt:=Q} (start N vs) H):FnOk P w K mg base b7 (k+1) f fd ps sp:=by
 obtain⟨oc,od,kV,Wz,pm,an,OT,ct,osl,rfl,lk,hcd⟩:=F.ex;refine E9 lk hcd S len λA outer s H vs Q E hr hsp=>?_;obtain⟨t,h,q⟩:=aap OT A outer s H vs Q E hr hsp;exact⟨t,h.nox,q⟩
theorem Fun.binds{x qual:Str}{st:NN}{f:LJ}{fd:Ms}{ps:gV Str}(F:Fun K x qual st f fd)
  (h:∀kV Wz pm an OT ct us,us.length=ps.length->Ub (OG x qual (eu st) (dj st) (aj st) .none kV Wz pm an OT ct) ⟨us,[]⟩=pure (ps.zip us)):Binds K fd ps []:=by
 obtain⟨oc,od,kV,Wz,pm,an,OT,ct,osl,rfl,lk,hcd⟩:=F.ex;exact .all<|h kV Wz pm an OT ct
theorem fun_mk{x qual:Str}{st:NN}{f:LJ}{oc:LF}{od an:LH LJ}{osl:Ou (LH LF)}{kV Wz pm OT ct:LF}(l:K.lookup f=A' ⟨oc,od,.func<|OG x qual (eu st) (dj st) (aj st) .none kV Wz pm an OT ct,osl⟩)
  (c:Vh K OT qual=LI) (k:Pk K (.ref f)=LI):Fun K x qual st f (OG x qual (eu st) (dj st) (aj st) .none kV Wz pm an OT ct):=⟨⟨oc,od,kV,Wz,pm,an,OT,ct,osl,rfl,l,c⟩,k⟩
end
theorem oo(hr:Room k A):A.units+1 < PU:=Pl (Nat.add_le_add_left (by decide:1<=64) _) hr.units
theorem iE(h:n<=1000):n < sizeLine:=Pl h (by decide)
theorem pv{X:Cx}(i:Nat){pos:Pos}(hN:X.N[i]? =A' x:=by rfl)(hv:Kl X.env.scope x:=by first|exact MA rfl|exact Ra (MA rfl)|exact Ra<|Ra rfl)(hd:(x == ("__debug__":Str))=false:=by decide)
  (hcd:(x == ("__classdict__":Str))=false:=by decide):PE X (.Name x pos) (gZ i):=Gq hN hv hd hcd
theorem aI{A B:Prop}(h:B):if LM=LI then A else B:=by
 rw[Mi Mb];exact h
theorem aJ{A B:Prop}(h:A):if LI=LI then A else B:=by
 rw[Ml rfl];exact h
theorem jS{c A B:Prop} [Decidable c] (h1:c->A)(h2:¬c->B):if c then A else B:=by
 by_cases h:c
 ·rw[Ml h];exact h1 h
 ·rw[Mi h];exact h2 h
def Same(H H':Hp):Prop:=∀b o,H b=A' o->H' b=A' o
theorem Same.refl(H:Hp):Same H H:=λ_ _ h=>h
theorem Same.trans(a:Same H H1)(b:Same H1 H2):Same H H2:=λc o h=>b c o<|a c o h
theorem Same.free(e:Same H H')(h:H' l=LL):H l=LL:=by
 cases q:H l with
 |none=>rfl
 |some o=>
  rw[e l o q]at h;cases h
theorem Same.seq{K:K'}{H H':Hp}{a:LJ}{xs:gV V}(e:Same H H')(h:SqL K H a xs):SqL K H' a xs:=by
 obtain(h|⟨o,h⟩)|h:=h
 ·exact .inl<|.inl<|e _ _ h
 ·exact .inl<|.inr ⟨o,e _ _ h⟩
 ·exact .inr h
section
variable {κ:Type}[Pd κ]
theorem vS:∀{l:gV κ} {k:κ},l.Nodup->¬k∈l->(l++[k]).Nodup
 |[],k,_,_=>by simp
 |a::r,k,h,hk=>by
  obtain⟨h1,h2⟩:=NX.mp h;show(a::(r++[k])).Nodup
  refine NX.mpr ⟨λm=>?_,vS h2 λm=>hk<|Mn.mpr<|Ra m⟩;obtain q|q:=Mt.mp m
  ·exact h1 q
  ·exact hk<|Mn.mpr<|MA (LN.mp q).symm
end
end L2
namespace L2
open PySem
theorem aW(h:n<=10000):n < sizeLine:=Pl h (by decide)
end L2
namespace TS
open PySem PyProof.Rows
structure Cm (prog:Mm)(w:MK)(A:Nl)(E:LF->LR->Prop)(s:LR) where
 num:Nk->Int
 ok:Nk->Prop
 kd:YE
 lt:∀{x y:Nk} {Q:LH Md->Nu->Prop} {st:Nu},kindOf st=kd->ok x->ok y->Q (A' (decide (num x < num y))) st->wpS (MB prog w) A E s (lt' x y) Q st
section
variable {prog:Mm}{w:MK}{A:Nl}{E:LF->LR->Prop}{s:LR}{C:Cm prog w A E s}{st:Nu}{α:Type}
abbrev Cm.W(C:Cm prog w A E s)(m:TN Nu Sem α)(Q:α->Nu->Prop)(st:Nu):Prop:=wpS (MB prog w) A E s m Q st
def Cm.K(C:Cm prog w A E s)(xs:Ou Nk)(i:Nat):Int:=(xs[i]?.map C.num).getD 0
def Cm.Oks(C:Cm prog w A E s)(xs:Ou Nk):Prop:=∀p∈xs.toList,C.ok p
theorem GN(h:C.Oks xs)(hi:i < xs.size):∃p,xs[i]? =A' p/\C.ok p/\C.K xs i=C.num p:=
 ⟨xs[i],Sl xs i hi,h _ (by simp),by unfold Cm.K;rw[Sl xs i hi];rfl⟩
theorem dq(hp:arr[i]? =A' p)(h:Q p st):wpS (MB prog w) A E s (Ui arr i) Q st:=by
 rw[elem'_eq,hp];exact MX h
theorem de{c:Prop} [Decidable c] {x y:TN Nu Sem α}{Q:α->Nu->Prop}(h1:c->wpS (MB prog w) A E s x Q st)(h2:¬c->wpS (MB prog w) A E s y Q st):wpS (MB prog w) A E s (if c then x else y) Q st:=by
 split
 ·exact h1 ‹_›
 ·exact h2 ‹_›
def gH:Md->Nk->Ou Nk->Nat->Nat->Nat->TN Nu Sem (LH Nat):=sortPriv% PySem.Builtin.gallop
def Dv(left:Md)(key:Nk)(arr:Ou Nk)(base i:Nat):TN Nu Sem (LH Md):=do
 let x <-Ui arr (base+i)
 if left then lt' x key else
  let r <-lt' key x
  return r.map (!·)
section
variable (left:Md)(key:Nk)(arr:Ou Nk)(base n S8:Nat)
def zx(lo hi:Nat):TN Nu Sem (LH Nat):=do
 let mut lo:=lo
 let mut hi:=hi
 for _ in [0:n] do
  if lo>=hi then break
  let m:=lo+(hi - lo) / 2
  let A' more <-Dv left key arr base m|return LL
  if more then lo:=m+1 else hi:=m
 return A' hi
def Dw(most:Nat)(f:Nat->Nat)(tst:Md->Md)(k:Nat->Nat->TN Nu Sem (LH Nat)):TN Nu Sem (LH Nat):=do
 let mut last:=0
 let mut ofs:=1
 for _ in [0:n] do
  if ofs>=most then break
  let A' more <-Dv left key arr base (f ofs)|return LL
  if tst more then break
  last:=ofs
  ofs:=2*ofs+1
 k last ofs
theorem um:gH left key arr base n S8=(do
 let A' right <-Dv left key arr base S8|return LL
 if right then Dw left key arr base n (n - S8) (S8+·) not λlast ofs=>zx left key arr base n (S8+last+1) (S8+min ofs (n - S8))
 else Dw left key arr base n (S8+1) (S8 - ·) id λlast ofs=>zx left key arr base n (S8+1 - min ofs (S8+1)) (S8 - last)):=rfl
end
section
variable {left:Md}{key:Nk}{arr:Ou Nk}{base n:Nat}{Q:LH Nat->Nu->Prop}
def K2(C:Cm prog w A E s)(left:Md)(key:Nk)(arr:Ou Nk)(base n:Nat)(st:Nu)(P:Nat->Md):Prop:=∀(m:Nat) (Q':LH Md->Nu->Prop),m < n->Q' (A'<|P m) st->C.W (Dv left key arr base m) Q' st
theorem GO{lo hi:Nat}{P:Nat->Md}(bey:K2 C left key arr base n st P)(hs:∀i j,i<=j->j < n->P j=LI->P i=LI)(h1:lo<=hi)(h2:hi<=n)(h3:∀i,i < lo->P i=LI)(h4:∀i,hi<=i->i < n->P i=LM)
  (h:∀k,k<=n->(∀i,i < k->P i=LI)->(∀i,k<=i->i < n->P i=LM)->Q (A' k) st):C.W (zx left key arr base n lo hi) Q st:=by
 unfold zx;refine MJ (P6 (OH (I:=λx c Oo=>Oo=st/\∃l r,c=(LL,l,r)/\l<=r/\r<=n/\r - l<=n - x/\(∀i,i < l->P i=LI)/\(∀i,r<=i->i < n->P i=LM))
  (Q:=λc Oo=>Oo=st/\∃l,c=(LL,l,l)/\l<=n/\(∀i,i < l->P i=LI)/\(∀i,l<=i->i < n->P i=LM)) ?_ ?_ ⟨rfl,lo,hi,rfl,h1,h2,by lia,h3,h4⟩) ?_)
 ·rintro x c Oo _ hx ⟨rfl,l,r,rfl,a1,a2,a3,a4,a5⟩;dsimp only;refine de (λg=>MX ?_) λg=>MJ<|bey _ _ (by lia) ?_
  ·obtain rfl:l=r:=by lia
   exact⟨rfl,l,rfl,a2,a4,a5⟩
  ·cases e:P (l+(r - l) / 2)with
   |true=>exact MX ⟨rfl,_,_,rfl,by lia,a2,by lia,λi hi=>hs i _ (by lia) (by lia) e,a5⟩
   |false=>exact MX ⟨rfl,_,_,rfl,by lia,by lia,by lia,a4,λi b1 b2=>by
     cases e2:P i with
     |false=>rfl
     |true=>rw[hs _ i b1 b2 e2]at e;cases e⟩
 ·rintro c Oo ⟨rfl,l,r,rfl,a1,a2,a3,a4,a5⟩;obtain rfl:l=r:=by lia
  exact⟨rfl,l,rfl,a2,a4,a5⟩
 ·rintro c Oo ⟨rfl,l,rfl,a2,a4,a5⟩;exact MX<|h l a2 a4 a5
theorem zy{k:Nat->Nat->TN Nu Sem (LH Nat)}(bey:K2 C left key arr base n st P)(hm:most<=n)(hf:∀o,o < most->f o < n)(h0:tst (P<|f 0)=LM)(h1:1<=most)
  (h:∀last ofs,last < ofs->last < most->tst (P<|f last)=LM->(ofs < most->tst (P<|f ofs)=LI)->C.W (k last ofs) Q st):C.W (Dw left key arr base n most f tst k) Q st:=by
 unfold Dw;refine MJ (P6 (OH (I:=λx c Oo=>Oo=st/\∃last ofs,c=(LL,last,ofs)/\last < ofs/\x < ofs/\last < most/\tst (P<|f last)=LM)
  (Q:=λc Oo=>Oo=st/\∃last ofs,c=(LL,last,ofs)/\last < ofs/\last < most/\tst (P<|f last)=LM/\(ofs < most->tst (P<|f ofs)=LI)) ?_ ?_ ⟨rfl,0,1,rfl,by lia,by lia,h1,h0⟩) ?_)
 ·rintro x c Oo _ hx ⟨rfl,last,ofs,rfl,a1,a2,a3,a4⟩;dsimp only;refine de (λg=>MX ⟨rfl,last,ofs,rfl,a1,a3,a4,λ_=>by lia⟩) λg=>MJ<|bey _ _ (hf _<|by lia) ?_;dsimp only;exact de (λg2=>MX ⟨rfl,last,ofs,rfl,a1,a3,a4,λ_=>g2⟩) λg2=>MX ⟨rfl,_,_,rfl,by lia,by lia,by lia,by simpa using g2⟩
 ·rintro c Oo ⟨rfl,last,ofs,rfl,a1,a2,a3,a4⟩;exact⟨rfl,last,ofs,rfl,a1,a3,a4,λ_=>by lia⟩
 ·rintro c Oo ⟨rfl,last,ofs,rfl,a1,a3,a4,a5⟩;exact h last ofs a1 a3 a4 a5
theorem zA(hk:kindOf st=C.kd)(UY:C.ok key)(ah4:C.Oks arr)(hb:base+n<=arr.size)(hh:S8 < n)(hs:∀i j,i<=j->j < n->C.K arr (base+i)<=C.K arr (base+j))(S7:∀i,i < n->C.K arr (base+i)≠C.num key)
  (h:∀k,k<=n->(∀i,i < k->C.K arr (base+i) < C.num key)->(∀i,k<=i->i < n->C.num key < C.K arr (base+i))->Q (A' k) st):C.W (gH left key arr base n S8) Q st:=by
 have bey:K2 C left key arr base n st λi=>decide (C.K arr (base+i) < C.num key):=λm Q' hm q=>by
  obtain⟨p,hp,ip,e⟩:=GN ah4 (i:=base+m) (by lia);have hn:=S7 m hm;simp only [e]at q hn;refine MJ<|dq hp ?_;cases left
  ·refine MJ<|C.lt hk UY ip<|MX ?_;rw[show decide (C.num p < C.num key)=!decide (C.num key < C.num p) by rw[<-decide_not];exact OU.mpr ⟨λ_=>by lia,λ_=>by lia⟩]at q;exact q
  ·exact C.lt hk ip UY q
 have dn:∀i j,i<=j->j < n->decide (C.K arr (base+j) < C.num key)=LI->decide (C.K arr (base+i) < C.num key)=true:=λi j h1 h2 g=>Ma<|Int.lt_of_le_of_lt (hs i j h1 h2)<|My g;have up:∀i j,i<=j->j < n->decide (C.K arr (base+i) < C.num key)=LM->decide (C.K arr (base+j) < C.num key)=false:=λi j h1 h2 g=>by
  have:=P' g;have:=hs i j h1 h2;exact LW (by lia)
 have S6:∀{lo hi},lo<=hi->hi<=n->(∀i,i < lo->decide (C.K arr (base+i) < C.num key)=LI)->(∀i,hi<=i->i < n->decide (C.K arr (base+i) < C.num key)=LM)->C.W (zx left key arr base n lo hi) Q st:=λa1 a2 a3 a4=>
  GO bey dn a1 a2 a3 a4 λk b1 b2 b3=>h k b1 (λi hi=>My<|b2 i hi) λi c1 c2=>by
   have:=P'<|b3 i c1 c2;have:=S7 i c2;lia
 rw[um];refine MJ<|bey _ _ hh ?_;dsimp only;refine de (λe=>zy bey (by lia) (λo ho=>by lia) (by rw[W3,e];rfl) (by lia) λlast ofs a1 a2 a3 a4=>?_) λe=>zy bey (by lia) (λo ho=>by lia) (by simpa using e) (by lia) λlast ofs a1 a2 a3 a4=>?_
 ·exact S6 (by lia) (by lia) (λi hi=>dn i (S8+last) (by lia) (by lia)<|by simpa using a3) λi c1 c2=>up (S8+ofs) i (by lia) c2 (by simpa using a4 (by lia))
 ·exact S6 (by lia) (by lia) (λi hi=>dn i (S8 - ofs) (by lia) (by lia)<|a4<|by lia) λi c1 c2=>up (S8 - last) i (by lia) c2 a3
end
end
abbrev R:=Ou Nk
abbrev S:=TN Nu Sem
def zB(g:Nat):S UZ:=ZX λst=>SV (kindOf st) (MZ st) (M1 st) g<|OS st
structure Sd where
 arr:R
 ia:Nat->Nat
 na:Nat->Nat
 gal:Md->Nk->Nat->S (LH Nat)
 kk:Nat->Nat->Nat
 ex:Nat->Nat->R
 nx:Nat->Nat->Nat
 v:Nat->gV Nk
structure Mg where
 T:Type->Type
 m:{X:Type}->LH R->R->Nat->Nat->X->T X
 r:{X:Type}->T X->LH R
 o:{X:Type}->T X->R
 i:{X:Type}->T X->Nat
 j:{X:Type}->T X->Nat
 x:{X:Type}->T X->X
 a:Sd
 b:Sd
 sel:{β:Type}->Md->S β->S β->S β
 don:R->Nat->Nat->R
 pa:{β:Type}->R->Nat->Nat->(R->S β)->S β->S β
 pb:{β:Type}->R->Nat->Nat->(R->S β)->S β->S β
 ta:{β:Type}->R->Nat->Nat->(R->S β)->S β->S β
 tb:{β:Type}->R->Nat->Nat->(R->S β)->S β->S β
 n:Nat
def Mg.in1(M:Mg)(mg:Nat)(c:M.T (Nat×Nat)):S (Qo<|M.T<|Nat×Nat):=do
 let q <-Ui M.b.arr (M.b.ia<|M.j c)
 let p <-Ui M.a.arr (M.a.ia<|M.i c)
 let A' w <-lt' q p|return .done (M.m (A'<|M.don (M.o c) (M.i c)<|M.j c) (M.o c) (M.i c) (M.j c)<|M.x c)
 M.sel w (do
   let p <-Ui M.a.arr (M.a.ia<|M.i c)
   M.pa ((M.o c).push p) (M.a.na<|M.i c) (M.j c) (λx=>return .done<|M.m (A' x) ((M.o c).push p) (M.a.na<|M.i c) (M.j c) ((M.x c).1+1,0))
    (if(M.x c).1+1>=mg then return .done (M.m LL ((M.o c).push p) (M.a.na<|M.i c) (M.j c) ((M.x c).1+1,0))else return .yield (M.m LL ((M.o c).push p) (M.a.na<|M.i c) (M.j c) ((M.x c).1+1,0))))
  (do
   let q <-Ui M.b.arr (M.b.ia<|M.j c)
   M.pb ((M.o c).push q) (M.i c) (M.b.na<|M.j c) (λx=>return .done<|M.m (A' x) ((M.o c).push q) (M.i c) (M.b.na<|M.j c) (0,(M.x c).2+1))
    (if(M.x c).2+1>=mg then return .done (M.m LL ((M.o c).push q) (M.i c) (M.b.na<|M.j c) (0,(M.x c).2+1))else return .yield (M.m LL ((M.o c).push q) (M.i c) (M.b.na<|M.j c) (0,(M.x c).2+1))))
section
variable (M:Mg)(mg ac bc:Nat)(o:R)(i j:Nat)
def Mg.gC:S (Qo<|M.T<|Nat×Nat×Nat):=do
 let p <-Ui M.a.arr (M.a.ia i)
 M.pa (o.push p) (M.a.na i) j (λx=>return .done<|M.m (A' x) (o.push p) (M.a.na i) j (mg,ac,bc))
  (if(decide (ac < 7)&&decide (bc < 7))=LI then return .done (M.m LL (o.push p) (M.a.na i) j (mg,ac,bc))else return .yield (M.m LL (o.push p) (M.a.na i) j (mg,ac,bc)))
def Mg.gB:S (Qo<|M.T<|Nat×Nat×Nat):=do
 let q <-Ui M.b.arr (M.b.ia j)
 M.pb (o.push q) i (M.b.na j) (λx=>return .done<|M.m (A' x) (o.push q) i (M.b.na j) (mg,ac,bc)) (do
  let A' u <-M.b.gal LI (<-Ui M.a.arr<|M.a.ia i) (M.b.na j)|return .done (M.m (A'<|M.don (o.push q) i<|M.b.na j) (o.push q) i (M.b.na j) (mg,ac,bc))
  if M.b.kk (M.b.na j) u > 0 then
   M.tb (o.push q++M.b.ex (M.b.na j) u) i (M.b.nx (M.b.na j) u) (λx=>return .done<|M.m (A' x) (o.push q++M.b.ex (M.b.na j) u) i (M.b.nx (M.b.na j) u) (mg,ac,M.b.kk (M.b.na j) u))
    (M.gC mg ac (M.b.kk (M.b.na j) u) (o.push q++M.b.ex (M.b.na j) u) i<|M.b.nx (M.b.na j) u)
  else M.gC mg ac (M.b.kk (M.b.na j) u) (o.push q) i (M.b.na j))
def Mg.gA:S (Qo<|M.T<|Nat×Nat×Nat):=do
 zB mg
 let A' u <-M.a.gal LM (<-Ui M.b.arr<|M.b.ia j) i|return .done (M.m (A'<|M.don o i j) o i j (mg,ac,bc))
 if M.a.kk i u > 0 then
  M.ta (o++M.a.ex i u) (M.a.nx i u) j (λx=>return .done<|M.m (A' x) (o++M.a.ex i u) (M.a.nx i u) j (mg,M.a.kk i u,bc))
   (M.gB mg (M.a.kk i u) bc (o++M.a.ex i u) (M.a.nx i u) j)
 else M.gB mg (M.a.kk i u) bc o i j
def Mg.out(c:M.T Nat):S (Qo<|M.T Nat):=do
 let c2 <-forIn [0:M.n] (M.m LL (M.o c) (M.i c) (M.j c) (0,0)) λ_=>M.in1 (M.x c)
 match M.r c2 with
 |some r=>return .done<|M.m (A' r) (M.o c2) (M.i c2) (M.j c2)<|M.x c
 |none=>
  rule "list.sort.gallop"
  let c3 <-forIn [0:M.n] (M.m LL (M.o c2) (M.i c2) (M.j c2) (M.x c+1,M.x c2)) λ_ c=>
   if(M.x c).1 > 1 then M.gA ((M.x c).1 - 1) (M.x c).2.1 (M.x c).2.2 (M.o c) (M.i c) (M.j c)else M.gA (M.x c).1 (M.x c).2.1 (M.x c).2.2 (M.o c) (M.i c) (M.j c)
  match M.r c3 with
  |some r=>return .done<|M.m (A' r) (M.o c3) (M.i c3) (M.j c3) (M.x c3).1
  |none=>
   zB ((M.x c3).1+1)
   return .yield (M.m LL (M.o c3) (M.i c3) (M.j c3)<|(M.x c3).1+1)
def Mg.run:S R:=do
 let c <-forIn [0:M.n] (M.m LL o i j<|gallopOf (<-get)) λ_=>M.out
 match M.r c with
 |some r=>return r
 |none=>unsupported "internal:list.sort.merge-bound"
end
def K3(a:R):Sd where
 arr:=a
 ia:=λi=>i
 na:=λi=>i+1
 gal:=λl q i=>gH l q a i (a.size - i) 0
 kk:=λ_ u=>u
 ex:=λi u=>a.extract i (i+u)
 nx:=λi u=>i+u
 v:=λi=>a.toList.drop i
def Kp(a:R):Sd where
 arr:=a
 ia:=λi=>i - 1
 na:=λi=>i - 1
 gal:=λl q i=>gH l q a 0 i (i - 1)
 kk:=λi u=>i - u
 ex:=λi u=>(a.extract u i).reverse
 nx:=λ_ u=>u
 v:=λi=>(a.toList.take i).reverse
def Fd(a b o:R)(i j:Nat):R:=o++a.extract i a.size++b.extract j b.size
def Iq(a b o:R)(i j:Nat):R:=o++b.extract j b.size++a.extract i a.size
def C7(a b:R):Mg where
 T:=λX=>LH R×R×Nat×Nat×X
 m:=λr o i j x=>(r,o,i,j,x)
 r:=λc=>c.1
 o:=λc=>c.2.1
 i:=λc=>c.2.2.1
 j:=λc=>c.2.2.2.1
 x:=λc=>c.2.2.2.2
 a:=K3 a
 b:=K3 b
 sel:=λw x y=>if w=LI then y else x
 don:=Fd a b
 pa:=λo i j f k=>if(i+1 == a.size)=LI then f (Iq a b o i j)else k
 pb:=λo i j f k=>if(j == b.size)=LI then f (Fd a b o i j)else k
 ta:=λo i j f k=>if(i+1 == a.size)=LI then f (Iq a b o i j)else if(i == a.size)=LI then f (Fd a b o i j)else k
 tb:=λo i j f k=>if(j == b.size)=LI then f (Fd a b o i j)else k
 n:=a.size+b.size
def Fe(a b o:R)(i j:Nat):R:=a.extract 0 i++b.extract 0 j++o.reverse
def Ir(a b o:R)(i j:Nat):R:=b.extract 0 j++a.extract 0 i++o.reverse
def zC(a b:R):Mg where
 T:=λX=>LH R×Nat×Nat×R×X
 m:=λr o i j x=>(r,i,j,o,x)
 r:=λc=>c.1
 o:=λc=>c.2.2.2.1
 i:=λc=>c.2.1
 j:=λc=>c.2.2.1
 x:=λc=>c.2.2.2.2
 a:=Kp a
 b:=Kp b
 sel:=λw x y=>if w=LI then x else y
 don:=Fe a b
 pa:=λo i j f k=>if(i == 0)=LI then f (Fe a b o i j)else k
 pb:=λo i j f k=>if(j == 1)=LI then f (Ir a b o i j)else k
 ta:=λo i j f k=>if(i == 0)=LI then f (Fe a b o i j)else k
 tb:=λo i j f k=>if(j == 1)=LI then f (Ir a b o i j)else if(j == 0)=LI then f (Fe a b o i j)else k
 n:=a.size+b.size
def K4:R->R->S R:=sortPriv% PySem.Builtin.mergeLo
def K5:R->R->S R:=sortPriv% PySem.Builtin.mergeHi
theorem GP(a b:R):K4 a b=(do
 rule "list.sort.merge-lo"
 let q <-Ui b 0
 if(1 == b.size)=LI then return Fd a b #[q] 0 1
 else if(0+1 == a.size)=LI then return Iq a b #[q] 0 1
 else(C7 a b).run #[q] 0 1):=by kernel_rfl
theorem GQ(a b:R):K5 a b=(do
 rule "list.sort.merge-hi"
 let p <-Ui a (a.size - 1)
 if(a.size - 1 == 0)=LI then return Fe a b #[p] (a.size - 1) b.size
 else if(b.size == 1)=LI then return Ir a b #[p] (a.size - 1) b.size
 else(zC a b).run #[p] (a.size - 1) b.size):=by kernel_rfl
structure MI (r:Nk->Nk->Prop)(z o x y:gV Nk):Prop where
 p:(o++(x++y)).Perm z
 u:(o++x).Pairwise r
 v:(o++y).Pairwise r
theorem MI.sw(h:MI r z o x y):MI r z o y x:=⟨(List.perm_append_comm.append_left o).trans h.p,h.v,h.u⟩
theorem MI.ta(tr:∀a b c,r a b->r b c->r a c)(h:MI r z o (t++x) (q::y))(g:∀c∈t,r c q):MI r z (o++t) x (q::y):=by
 have u:=h.u;rw[<-MN]at u;have v:=Oz.mp h.v;refine⟨by simpa using h.p,u,Oz.mpr ⟨(Oz.mp u).1,v.2.1,λc hc d hd=>?_⟩⟩;obtain hc|hc:=Mt.mp hc
 ·exact v.2.2 c hc d hd
 ·obtain rfl|hd:=Mn.mp hd
  ·exact g c hc
  ·exact tr _ _ _ (g c hc)<|Ta v.2.1 hd
section
variable {C:Cm prog w A E s}{r:Nk->Nk->Prop}{z:gV Nk}{st:Nu}{M:Mg}{la lb:Nat}{α:Type}
theorem zE{prog:Mm}{w:MK}{A:Nl}{E:LF->LR->Prop}{s:LR}(h:Q () (SV (kindOf st) (MZ st) (M1 st) g<|OS st)):wpS (MB prog w) A E s (zB g) Q st:=UD h
structure Dx (C:Cm prog w A E s)(r:Nk->Nk->Prop)(D:Sd):Prop where
 at_:∀{i p t},i<=D.arr.size->D.v i=p::t->D.arr[D.ia i]? =A' p/\D.v (D.na i)=t/\D.na i<=D.arr.size
 gal:∀{l q i Q st},i<=D.arr.size->kindOf st=C.kd->C.ok q->D.v i≠[]->(∀c∈D.v i,C.num c≠C.num q)->
  (∀u,D.nx i u<=D.arr.size->D.v i=(D.ex i u).toList++D.v (D.nx i u)->(∀c∈(D.ex i u).toList,r c q)->(∀c∈D.v (D.nx i u),r q c)->(¬D.kk i u > 0->(D.ex i u).toList=[])->Q (A' u) st)->C.W (D.gal l q i) Q st
def rg(C:Cm prog w A E s)(z:gV Nk)(x:R):Prop:=x.toList.Perm z/\x.toList.Pairwise λa b=>C.num a < C.num b
structure MS (M:Mg)(r:Nk->Nk->Prop)(z:gV Nk)(o:R)(i j:Nat):Prop where
 m:MI r z o.toList (M.a.v i) (M.b.v j)
 i:i<=M.a.arr.size
 j:j<=M.b.arr.size
structure GR (C:Cm prog w A E s)(M:Mg)(r:Nk->Nk->Prop)(z:gV Nk)(la lb:Nat):Prop where
 er:∀{X e o i j} {x:X},M.r (M.m e o i j x)=e
 eo:∀{X e o i j} {x:X},M.o (M.m e o i j x)=o
 ei:∀{X e o i j} {x:X},M.i (M.m e o i j x)=i
 ej:∀{X e o i j} {x:X},M.j (M.m e o i j x)=j
 ex:∀{X e o i j} {x:X},M.x (M.m e o i j x)=x
 n:M.n=z.length
 tr:∀a b c,r a b->r b c->r a c
 nd:(z.map C.num).Nodup
 ok:∀c∈z,C.ok c
 a:Dx C r M.a
 b:Dx C r M.b
 l1:1<=la
 l2:1<=lb
 sel:∀{α p q} {x y:S α} {Q st},C.num p≠C.num q->(r p q->C.W x Q st)->(r q p->C.W y Q st)->C.W (M.sel (decide (C.num q < C.num p)) x y) Q st
 pa:∀{α o i j} {f:R->S α} {k Q st},MS M r z o i j->la<=(M.a.v i).length+1->(∀x,rg C z x->C.W (f x) Q st)->(la<=(M.a.v i).length->C.W k Q st)->C.W (M.pa o i j f k) Q st
 pb:∀{α o i j} {f:R->S α} {k Q st},MS M r z o i j->lb<=(M.b.v j).length+1->(∀x,rg C z x->C.W (f x) Q st)->(lb<=(M.b.v j).length->C.W k Q st)->C.W (M.pb o i j f k) Q st
 ta:∀{α o i j} {f:R->S α} {k Q st},MS M r z o i j->(∀x,rg C z x->C.W (f x) Q st)->(la<=(M.a.v i).length->C.W k Q st)->C.W (M.ta o i j f k) Q st
 tb:∀{α o i j} {f:R->S α} {k Q st},MS M r z o i j->(∀x,rg C z x->C.W (f x) Q st)->(lb<=(M.b.v j).length->C.W k Q st)->C.W (M.tb o i j f k) Q st
structure Iv (M:Mg)(r:Nk->Nk->Prop)(z:gV Nk)(la lb:Nat)(n:Nat)(o:R)(i j:Nat):Prop where
 m:MS M r z o i j
 a:la<=(M.a.v i).length
 b:lb<=(M.b.v j).length
 n:(M.a.v i).length+(M.b.v j).length+n<=z.length
theorem MI.ne(h:MI r z o x y)(nd:(z.map C.num).Nodup)(hc:c∈x)(hq:q∈y):C.num c≠C.num q:=by
 have:=(h.p.map C.num).nodup_iff.mpr nd;rw[Mq,Mq]at this;exact(Oa.mp (Oa.mp this).2.1).2.2 _ (OK hc) _<|OK hq
theorem ou{l:gV Nk}{n:Nat}(h1:1<=n)(h:n<=l.length):∃p t,l=p::t:=by
 cases l with
 |nil=>exact absurd h (by simpa using by lia)
 |cons p t=>exact⟨p,t,rfl⟩
def Go(C:Cm prog w A E s)(M:Mg)(r:Nk->Nk->Prop)(z:gV Nk)(la lb n:Nat){X:Type}(c:M.T X):Prop:=(∃x,M.r c=A' x/\rg C z x)\/∃o i j e,c=M.m LL o i j e/\Iv M r z la lb n o i j
variable (K:GR C M r z la lb)
include K
theorem zG(m:MS M r z o i j)(ep:M.a.v i=p::t)(eq:M.b.v j=q::u)(g:r p q):MS M r z (o.push p) (M.a.na i) j:=by
 obtain⟨_,e1,e2⟩:=K.a.at_ m.i ep;have m':=m.m;refine⟨?_,e2,m.j⟩;rw[e1,TF,eq];rw[ep,eq]at m';exact MI.ta K.tr (t:=[p]) m' (by simpa using g)
theorem zH(m:MS M r z o i j)(ep:M.a.v i=p::t)(eq:M.b.v j=q::u)(g:r q p):MS M r z (o.push q) i (M.b.na j):=by
 obtain⟨_,e1,e2⟩:=K.b.at_ m.j eq;have m':=m.m;refine⟨?_,m.i,e2⟩;rw[e1,TF,ep];rw[ep,eq]at m';exact(MI.ta K.tr (t:=[q]) m'.sw<|by simpa using g).sw
theorem Kq(I:Iv M r z la lb n o i j):∃p t q u,M.a.v i=p::t/\M.b.v j=q::u/\C.ok p/\C.ok q/\C.num p≠C.num q/\M.a.arr[M.a.ia i]? =A' p/\M.b.arr[M.b.ia j]? =A' q/\M.a.v (M.a.na i)=t/\M.b.v (M.b.na j)=u:=by
 obtain⟨p,t,ep⟩:=ou K.l1 I.a;obtain⟨q,u,eq⟩:=ou K.l2 I.b;exact⟨p,t,q,u,ep,eq,K.ok p (I.m.m.p.mem_iff.mp<|by simp [ep]),K.ok q (I.m.m.p.mem_iff.mp<|by simp [eq]),I.m.m.ne K.nd (by simp [ep]) (by simp [eq]),(K.a.at_ I.m.i ep).1,(K.b.at_ I.m.j eq).1,(K.a.at_ I.m.i ep).2.1,(K.b.at_ I.m.j eq).2.1⟩
theorem Jg(hk:kindOf st=C.kd)(I:Iv M r z la lb n o i j):C.W (M.in1 mg<|M.m LL o i j e) (λx Oo=>Oo=st/\match x with|.done c=>Go C M r z la lb (n+1) c|.yield c=>∃o i j e,c=M.m LL o i j e/\Iv M r z la lb (n+1) o i j) st:=by
 obtain⟨p,t,q,u,ep,eq,op,oq,ne,gp,gq,na,nb⟩:=Kq K I;have hn:=I.n;have ha:=I.a;have hb:=I.b;rw[ep]at hn ha;rw[eq]at hn hb;rw[L4]at hn ha hb;rw[L4]at hn;unfold Mg.in1;rw[K.eo,K.ei,K.ej];refine MJ<|dq gq<|MJ<|dq gp<|MJ<|C.lt hk oq op ?_;refine K.sel ne (λg=>?_) λg=>?_
 ·refine MJ<|dq gp ?_;have m:=zG K I.m ep eq g;refine K.pa m (by rw[na];lia) (λx hx=>MX ⟨rfl,.inl ⟨x,K.er,hx⟩⟩) λh=>?_;have I2:Iv M r z la lb (n+1) (o.push p) (M.a.na i) j:=⟨m,h,I.b,by rw[na,eq,L4];lia⟩;exact de (λ_=>MX ⟨rfl,.inr ⟨_,_,_,_,rfl,I2⟩⟩) λ_=>MX ⟨rfl,_,_,_,_,rfl,I2⟩
 ·refine MJ<|dq gq ?_;have m:=zH K I.m ep eq g;refine K.pb m (by rw[nb];lia) (λx hx=>MX ⟨rfl,.inl ⟨x,K.er,hx⟩⟩) λh=>?_;have I2:Iv M r z la lb (n+1) (o.push q) i (M.b.na j):=⟨m,I.a,h,by rw[nb,ep,L4];lia⟩;exact de (λ_=>MX ⟨rfl,.inr ⟨_,_,_,_,rfl,I2⟩⟩) λ_=>MX ⟨rfl,_,_,_,_,rfl,I2⟩
def fS(st Oo:Nu):Prop:=kindOf Oo=kindOf st/\MZ Oo=MZ st/\M1 Oo=M1 st/\OS Oo=OS st
abbrev GS(C:Cm prog w A E s)(M:Mg)(r:Nk->Nk->Prop)(z:gV Nk)(la lb n:Nat)(st:Nu){X:Type}(x:Qo (M.T X))(Oo:Nu):Prop:=fS st Oo/\match x with|.done c=>Go C M r z la lb n c|.yield c=>∃o i j e,c=M.m LL o i j e/\Iv M r z la lb n o i j
theorem Jh(hs:fS st0 st)(I:Iv M r z la lb n o i j)(g:∀p q t u,M.a.v i=p::t->M.b.v j=q::u->r p q):C.W (M.gC mg ac bc o i j) (GS C M r z la lb n st0) st:=by
 obtain⟨p,t,q,u,ep,eq,_,_,_,gp,gq,e2,_⟩:=Kq K I;have ha:=I.a;have hn:=I.n;rw[ep,L4]at ha hn;unfold Mg.gC;have m:=zG K I.m ep eq<|g p q t u ep eq;refine MJ<|dq gp<|K.pa m (by rw[e2];lia) (λx hx=>MX ⟨hs,.inl ⟨x,K.er,hx⟩⟩) λh=>?_;have I2:Iv M r z la lb n (o.push p) (M.a.na i) j:=⟨m,h,I.b,by rw[e2];lia⟩;exact de (λ_=>MX ⟨hs,.inr ⟨_,_,_,_,rfl,I2⟩⟩) λ_=>MX ⟨hs,_,_,_,_,rfl,I2⟩
theorem Ji(hk:kindOf st0=C.kd)(hs:fS st0 st)(I:Iv M r z la lb n o i j)(g:∀p q t u,M.a.v i=p::t->M.b.v j=q::u->r q p):C.W (M.gB mg ac bc o i j) (GS C M r z la lb n st0) st:=by
 obtain⟨p,t,q,u,ep,eq,op,_,_,gp,gq,_,e2⟩:=Kq K I;have hb:=I.b;have hn:=I.n;rw[eq,L4]at hb hn;unfold Mg.gB;have m:=zH K I.m ep eq<|g p q t u ep eq;refine MJ<|dq gq<|K.pb m (by rw[e2];lia) (λx hx=>MX ⟨hs,.inl ⟨x,K.er,hx⟩⟩) λh=>?_;have ne:∀c∈M.b.v (M.b.na j),C.num c≠C.num p:=λc hc=>(m.m.ne K.nd (by simp [ep]) hc).symm;refine MJ<|dq gp<|MJ<|K.b.gal m.j (hs.1.trans hk) op (λz=>by rw[z]at h;exact absurd (MD K.l2 h)<|by decide) ne λu g0 g1 g2 g3 g4=>?_;dsimp only;have hl:=M0 Oe g1;rw[LX]at hl;refine de (λ_=>?_) λhz=>?_
 ·have m2:MS M r z (o.push q++M.b.ex (M.b.na j) u) i (M.b.nx (M.b.na j) u):=by
   have m':=m.m;refine⟨?_,m.i,g0⟩;rw[VR];rw[ep,g1]at m';rw[ep];exact(MI.ta K.tr m'.sw g2).sw
  refine K.tb m2 (λx hx=>MX ⟨hs,.inl ⟨x,K.er,hx⟩⟩) λh2=>Jh K hs ⟨m2,I.a,h2,by rw[e2]at hl;lia⟩ λp' q' t' u' a1 a2=>?_;rw[ep]at a1;cases a1;exact g3 q' (by simp [a2])
 ·rw[g4 hz,Sa]at g1;refine Jh K hs ⟨m,I.a,h,by rw[e2];lia⟩ λp' q' t' u' a1 a2=>?_;rw[ep]at a1;cases a1;exact g3 q' (by simp [<-g1,a2])
theorem Jj(hk:kindOf st0=C.kd)(hs:fS st0 st)(I:Iv M r z la lb n o i j):C.W (M.gA mg ac bc o i j) (GS C M r z la lb n st0) st:=by
 obtain⟨p,t,q,u,ep,eq,op,oq,_,gp,gq,_⟩:=Kq K I;have hn:=I.n;have ne:∀c∈M.a.v i,C.num c≠C.num q:=λc hc=>I.m.m.ne K.nd hc (by simp [eq]);refine MJ<|zE<|MJ<|dq gq<|MJ<|K.a.gal I.m.i (hs.1.trans hk) oq (by simp [ep]) ne λu g0 g1 g2 g3 g4=>?_;dsimp only;have X2:fS st0 (SV (kindOf st) (MZ st) (M1 st) mg<|OS st):=hs;have hl:=M0 Oe g1;rw[LX]at hl;refine de (λ_=>?_) λhz=>?_
 ·have m2:MS M r z (o++M.a.ex i u) (M.a.nx i u) j:=by
   have m:=I.m.m;refine⟨?_,g0,I.m.j⟩;rw[VR];rw[eq,g1]at m;rw[eq];exact MI.ta K.tr m g2
  refine K.ta m2 (λx hx=>MX ⟨hs,.inl ⟨x,K.er,hx⟩⟩) λh2=>Ji K hk X2 ⟨m2,h2,I.b,by lia⟩ λp' q' t' u' a1 a2=>?_;rw[eq]at a2;cases a2;exact g3 p' (by simp [a1])
 ·rw[g4 hz,Sa]at g1;refine Ji K hk X2 I λp' q' t' u' a1 a2=>?_;rw[eq]at a2;cases a2;exact g3 p' (by simp [<-g1,a1])
theorem Ff(hk:kindOf st=C.kd)(I:Iv M r z la lb 1 o i j)(q:∀x Oo,fS st Oo->rg C z x->Q x Oo):C.W (M.run o i j) Q st:=by
 have big:∀{n o i j},Iv M r z la lb n o i j->n < z.length:=λI=>by
  have:=I.a;have:=I.n;have:=K.l1;lia
 unfold Mg.run;refine MJ<|Tr<|MJ<|P6 (OH (I:=λx c Oo=>fS st Oo/\∃o i j e,c=M.m LL o i j e/\Iv M r z la lb (x+1) o i j) (Q:=λc Oo=>fS st Oo/\∃x,M.r c=A' x/\rg C z x) ?_ ?_ ⟨⟨rfl,rfl,rfl,rfl⟩,_,_,_,_,rfl,I⟩) ?_
 ·rintro n c Oo _ hn ⟨hs,o,i,j,e,rfl,I⟩;unfold Mg.out;rw[K.eo,K.ei,K.ej];refine MJ<|P6 (OH (I:=λx c PL=>PL=Oo/\∃o i j e,c=M.m LL o i j e/\Iv M r z la lb (n+1+x) o i j) (Q:=λc PL=>PL=Oo/\Go C M r z la lb (n+2) c) ?_ ?_ ⟨rfl,_,_,_,_,rfl,I⟩) ?_
  ·rintro x c PL _ hx ⟨rfl,o,i,j,e,rfl,I⟩;refine P6 (Jg K (hs.1.trans hk) I) ?_;rintro (c|c) V1 ⟨rfl,h⟩
   ·refine⟨rfl,h.imp id λ⟨o,i,j,e,h1,h2⟩=>⟨o,i,j,e,h1,h2.m,h2.a,h2.b,by have:=h2.n;lia⟩⟩
   ·exact⟨rfl,h⟩
  ·rintro c PL ⟨_,o,i,j,e,rfl,I⟩;have:=big I;have:=K.n;lia
  ·rintro c PL ⟨rfl,⟨x,e,hx⟩|⟨o,i,j,e,rfl,I⟩⟩
   ·rw[e];exact MX ⟨hs,x,K.er,hx⟩
   ·rw[K.er];refine MJ<|Vn<|Pg ⟨rfl,?_⟩;rw[K.eo,K.ei,K.ej];refine MJ<|P6 (OH (I:=λ_ c V1=>fS st V1/\∃o i j e,c=M.m LL o i j e/\Iv M r z la lb (n+2) o i j) (Q:=λc V1=>fS st V1/\Go C M r z la lb (n+2) c) ?_ (λ_ _ ⟨h1,h2⟩=>⟨h1,.inr h2⟩) ⟨hs,_,_,_,_,rfl,I⟩) ?_
    ·rintro x c V1 _ _ ⟨hs3,o,i,j,e,rfl,I⟩;rw[K.eo,K.ei,K.ej];refine de (λ_=>P6 (Jj K hk hs3 I) ?_) λ_=>P6 (Jj K hk hs3 I) ?_<;>(rintro (c|c) st4 h<;>exact h)
    ·rintro c V1 ⟨hs3,⟨x,e,hx⟩|⟨o,i,j,e,rfl,I⟩⟩
     ·rw[e];exact MX ⟨hs3,x,K.er,hx⟩
     ·rw[K.er];refine MJ<|zE<|MX ⟨hs3,_,_,_,_,rfl,?_⟩;rw[K.eo,K.ei,K.ej];exact I
 ·rintro c Oo ⟨_,o,i,j,e,rfl,I⟩;have:=big I;have:=K.n;lia
 ·rintro c Oo ⟨hs,x,e,hx⟩;rw[e];exact MX<|q x Oo hs hx
end
section
variable {C:Cm prog w A E s}{z o x y:gV Nk}{st:Nu}{a b:R}
theorem MI.end1(h:MI r z o x y)(e:x=[]\/y=[]):(o++(x++y)).Pairwise r:=by
 obtain rfl|rfl:=e
 ·exact h.v
 ·simpa using h.u
theorem MI.end2{p:Nk}(tr:∀a b c,r a b->r b c->r a c)(h:MI r z o [p] y)(g:∀c∈y,r c p):(o++(y++[p])).Pairwise r:=by
 have h':=h.sw;rw[<-N0 y]at h';simpa using(MI.ta tr h' g).v
abbrev Cm.lo(C:Cm prog w A E s)(x y:Nk):Prop:=C.num x < C.num y
theorem uo(e:a.toList=P++(x++T))(hi:i < x.length):C.K a (P.length+i)=C.num x[i]:=by
 unfold Cm.K;rw[<-Nz,e,Nh (Xv ..),Uj,Nd hi,LU hi];rfl
theorem vT{l:Md}{Q:LH Nat->Nu->Prop}(e:a.toList=P++(x++T))(hu:u=P.length)(hn:n=x.length)(ka:C.Oks a)(sx:x.Pairwise C.lo)(hk:kindOf st=C.kd)(hq:C.ok q)(hh:S8 < n)(S7:∀c∈x,C.num c≠C.num q)
  (h:∀k,k<=n->(∀c∈x.take k,C.lo c q)->(∀c∈x.drop k,C.lo q c)->Q (A' k) st):C.W (gH l q a u n S8) Q st:=by
 subst hu hn;have hl:=M0 Oe e;simp only [LX,Mr]at hl;refine zA hk hq ka (by lia) hh (λi j h1 h2=>?_) (λi hi=>?_) λk h1 h2 h3=>h k h1 (λc hc=>?_) λc hc=>?_
 ·rw[uo e h2,uo e<|Pl h1 h2];obtain e|g:=SW h1
  ·subst e;exact QF _
  ·exact W8<|OQ.mp sx i j _ h2 g
 ·rw[uo e hi];exact S7 _<|OB hi
 ·obtain⟨m,hm,e2⟩:=OM hc;rw[ME]at hm;have:=h2 m (by lia);rw[uo e<|by lia]at this;rw[<-e2,Tw];exact this
 ·obtain⟨m,hm,e2⟩:=OM hc;rw[N6]at hm;have:=h3 (k+m) (by lia) (by lia);rw[uo e<|by lia]at this;rw[<-e2,List.getElem_drop];exact this
theorem gR{prog:Mm}{w:MK}{A:Nl}{E:LF->LR->Prop}{s:LR}{α:Type}{i n:Nat}{x y:S α}{Q:α->Nu->Prop}(h1:i=n->wpS (MB prog w) A E s x Q st)(h2:¬i=n->wpS (MB prog w) A E s y Q st):wpS (MB prog w) A E s (if(i == n)=LI then x else y) Q st:=
 de (λe=>h1<|by simpa using e) λe=>h2 (by simpa using e)
theorem oy(i k:Nat):(a.extract i<|i+k).toList=(a.toList.drop i).take k:=by
 rw[Array.toList_extract,List.extract_eq_take_drop,Uj]
theorem zI(ka:C.Oks a)(sa:a.toList.Pairwise C.lo):Dx C C.lo (K3 a) where
 at_:=λ{i p t} _ e=>by
  have e':a.toList.drop i=p::t:=e;have h:=M0 (·[0]?) e';simp at h;exact⟨h,by show a.toList.drop (i+1)=t;rw[<-List.tail_drop,e'];rfl,(Po.mp h).1⟩
 gal:=λ{l q i Q st} hi hk hq hv S7 h=>by
  have hi:i<=a.size:=hi;have h0:i≠a.size:=λz=>hv (Qf<|by simpa using QN z.symm);refine vT (P:=a.toList.take i) (x:=a.toList.drop i) (T:=[]) (by simp) (by simpa using by lia) (by simp) ka (sa.sublist (Tz ..)) hk hq (by lia) S7 λk h1 h2 h3=>h k (by show i+k<=a.size;lia) ?_ (oy (a:=a) i k▸h2) (λc hc=>h3 c<|by rw[S1];exact hc) λhz=>?_
  ·show a.toList.drop i=(a.extract i<|i+k).toList++a.toList.drop (i+k)
   rw[oy,<-S1,Ol]
  ·obtain rfl:k=0:=UM hz;exact oy i 0
theorem zJ(ka:C.Oks a)(sa:a.toList.Pairwise C.lo):Dx C (λx y=>C.lo y x) (Kp a) where
 at_:=λ{i p t} hi e=>by
  have hi:i<=a.size:=hi;have h:=M0 Z' (show(a.toList.take i).reverse=p::t from e);rw[QD,Tv]at h;cases i with
  |zero=>simp at h
  |succ i=>
   rw[Rv<|by simpa using by lia]at h;obtain⟨h1,h2⟩:=List.append_inj' h rfl;refine⟨?_,?_,W2 hi⟩
   ·show a[i]? =A' p
    rw[Sl a i<|by lia];simpa using h2
   ·show(a.toList.take i).reverse=t
    rw[h1,QD]
 gal:=λ{l q i Q st} hi hk hq hv S7 h=>by
  have hi:i<=a.size:=hi;have h0:i≠0:=λz=>hv (by subst z;rfl);refine vT (P:=[]) (x:=a.toList.take i) (T:=a.toList.drop i) (by simp) rfl (by simpa using by lia) ka (sa.sublist (Rw ..)) hk hq (by lia) (λc hc=>S7 c<|RS.mpr hc) λk h1 h2 h3=>?_;have ex:=oy (a:=a) k<|i - k;rw[show k+(i - k)=i by lia]at ex;rw[List.drop_take,<-ex]at h3;rw[SX,show min k i=k by lia]at h2;refine h k (MD h1 hi) ?_ (λc hc=>h3 c<|by simpa [Kp]using hc) (λc hc=>h2 c<|RS.mp hc) λhz=>?_
  ·show(a.toList.take i).reverse=(a.extract k i).reverse.toList++(a.toList.take k).reverse
   rw[Vz,<-List.reverse_append,ex,<-List.take_add,show k+(i - k)=i by lia]
  ·show(a.extract k i).reverse.toList=[]
   rw[Vz,ex,show i - k=0 from UM hz];rfl
theorem Jk(p:R)(i j:Nat):(Fd a b p i j).toList=p.toList++(a.toList.drop i++b.toList.drop j):=by
 simp [Fd,L8]
theorem Jl(p:R)(i j:Nat):(Iq a b p i j).toList=p.toList++(b.toList.drop j++a.toList.drop i):=by
 simp [Iq,L8]
theorem Jm(p:R):(Fe a b p i j).toList=(p.toList++((b.toList.take j).reverse++(a.toList.take i).reverse)).reverse:=by
 simp [Fe]
theorem Jn(p:R):(Ir a b p i j).toList=(p.toList++((a.toList.take i).reverse++(b.toList.take j).reverse)).reverse:=by
 simp [Ir]
section
variable (ka:C.Oks a)(kb:C.Oks b)(sa:a.toList.Pairwise C.lo)(sb:b.toList.Pairwise C.lo)(nd:((a.toList++b.toList).map C.num).Nodup)
include ka kb sa sb nd
theorem GT(g:∀c∈b.toList,∀p∈a.toList.drop (a.size - 1),C.lo c p):GR C (C7 a b) C.lo (a.toList++b.toList) 2 1:=by
 have la:∀i,((C7 a b).a.v i).length=a.size - i:=λi=>by show(a.toList.drop i).length=_;simp
 have lb:∀j,((C7 a b).b.v j).length=b.size - j:=λj=>by show(b.toList.drop j).length=_;simp
 have D:∀{o i j},MS (C7 a b) C.lo (a.toList++b.toList) o i j->(i=a.size\/j=b.size)->rg C (a.toList++b.toList) (Fd a b o i j):=λ{o i j} m e=>by
  unfold rg;rw[Jk];exact⟨m.m.p,m.m.end1<|e.imp (λe=>Oc.mp<|by rw[la];lia) λe=>Oc.mp<|by rw[lb];lia⟩
 have L:∀{o i j},MS (C7 a b) C.lo (a.toList++b.toList) o i j->i+1=a.size->rg C (a.toList++b.toList) (Iq a b o i j):=λ{o i j} m e=>by
  have hd:=OR (l:=a.toList) (i:=i) (by simpa using by lia);rw[Qf (l:=a.toList) (i:=i+1)<|by simpa using by lia]at hd;have m':MI C.lo (a.toList++b.toList) o.toList (a.toList.drop i) (b.toList.drop j):=m.m;unfold rg;rw[Jl,hd];rw[hd]at m';exact⟨m'.sw.p,m'.end2 (λ_ _ _=>Pa) λc hc=>g c (Vu hc) _<|by rw[show a.size - 1=i by lia,hd];exact LN.mpr rfl⟩
 refine⟨rfl,rfl,rfl,rfl,rfl,by simp [C7],λ_ _ _=>Pa,nd,λc hc=>(Mt.mp hc).elim (ka c)<|kb c,zI ka sa,zI kb sb,by decide,by decide,λ{α p q x y Q st} ne h1 h2=>?_,λm hl hf hq=>?_,λm hl hf hq=>?_,λm hf hq=>?_,λm hf hq=>?_⟩
 ·exact de (λe=>h2<|My e) λe=>h1<|(Wv<|YG.mp λz=>e<|Ma z).resolve_right ne
 ·rw[la]at hl hq;exact gR (λe=>hf _<|L m e) λe=>hq (by lia)
 ·rw[lb]at hq;have:_<=b.size:=m.j;exact gR (λe=>hf _<|D m<|.inr e) λe=>hq (by lia)
 ·rw[la]at hq;have:_<=a.size:=m.i;exact gR (λe=>hf _<|L m e) λe=>gR (λe=>hf _<|D m<|.inl e) λe=>hq (by lia)
 ·rw[lb]at hq;have:_<=b.size:=m.j;exact gR (λe=>hf _<|D m<|.inr e) λe=>hq (by lia)
theorem GU(g:∀c∈a.toList,∀q∈b.toList.take 1,C.lo q c):GR C (zC a b) (λx y=>C.lo y x) (a.toList++b.toList) 1 2:=by
 have la:∀i,((zC a b).a.v i).length=min i a.size:=λi=>by show(a.toList.take i).reverse.length=_;simp
 have lb:∀j,((zC a b).b.v j).length=min j b.size:=λj=>by show(b.toList.take j).reverse.length=_;simp
 have rv:∀{l:gV Nk},l.Perm (a.toList++b.toList)->l.Pairwise (λx y=>C.lo y x)->l.reverse.Perm (a.toList++b.toList)/\l.reverse.Pairwise C.lo:=λh1 h2=>⟨(Tu _).trans h1,RK.mpr h2⟩;have D:∀{o i j},MS (zC a b) (λx y=>C.lo y x) (a.toList++b.toList) o i j->(i=0\/j=0)->rg C (a.toList++b.toList) (Fe a b o i j):=λ{o i j} m e=>by
  unfold rg;rw[Jm];exact rv m.m.sw.p (m.m.sw.end1<|e.symm.imp (λe=>by subst e;rfl) λe=>by subst e;rfl)
 have L:∀{o i j},MS (zC a b) (λx y=>C.lo y x) (a.toList++b.toList) o i j->j=1->rg C (a.toList++b.toList) (Ir a b o i j):=λ{o i j} m e=>by
  subst e;have hj:1<=b.size:=m.j;have hd:=Rv (l:=b.toList) (i:=0) (by simpa using by lia);have m':MI (λx y=>C.lo y x) (a.toList++b.toList) o.toList (a.toList.take i).reverse (b.toList.take 1).reverse:=m.m;unfold rg;rw[Jn,hd];rw[hd]at m' g;exact rv m'.p<|m'.sw.end2 (λ_ _ _ h1 h2=>Pa h2 h1) λc hc=>g c (PK<|RS.mp hc) _<|LN.mpr rfl
 refine⟨rfl,rfl,rfl,rfl,rfl,by simp [zC],λ_ _ _ h1 h2=>Pa h2 h1,nd,λc hc=>(Mt.mp hc).elim (ka c)<|kb c,zJ ka sa,zJ kb sb,by decide,by decide,λ{α p q x y Q st} ne h1 h2=>?_,λm hl hf hq=>?_,λm hl hf hq=>?_,λm hf hq=>?_,λm hf hq=>?_⟩
 ·exact de (λe=>h1<|My e) λe=>h2<|(Wv<|YG.mp λz=>e<|Ma z).resolve_right ne
 ·rw[la]at hq;have:_<=a.size:=m.i;exact gR (λe=>hf _<|D m<|.inl e) λe=>hq (by lia)
 ·rw[lb]at hl hq;have:_<=b.size:=m.j;exact gR (λe=>hf _<|L m e) λe=>hq (by lia)
 ·rw[la]at hq;have:_<=a.size:=m.i;exact gR (λe=>hf _<|D m<|.inl e) λe=>hq (by lia)
 ·rw[lb]at hq;have:_<=b.size:=m.j;exact gR (λe=>hf _<|L m e) λe=>gR (λe=>hf _<|D m<|.inr e) λe=>hq (by lia)
variable (hk:kindOf st=C.kd)(na:1<=a.size)(nb:1<=b.size)(g0:∀ c∈a.toList,∀ q∈b.toList.take 1,C.lo q c)(g1:∀ c∈b.toList,∀ p∈a.toList.drop (a.size - 1),C.lo c p){Q:R->Nu->Prop}(h:∀ x Oo,fS st Oo->rg C (a.toList++b.toList) x->Q x Oo)
include hk na nb g0 g1 h
theorem K6:C.W (K4 a b) Q st:=by
 have K:=GT ka kb sa sb nd g1;obtain⟨p,t,ep⟩:=ou (l:=(C7 a b).a.v 0) (LQ 1) (by show 1<=(a.toList.drop 0).length;simpa using na);obtain⟨q,u,eq⟩:=ou (l:=(C7 a b).b.v 0) (LQ 1) (by show 1<=(b.toList.drop 0).length;simpa using nb);have m:MS (C7 a b) C.lo (a.toList++b.toList) #[q] 0 1:=zH K (o:=#[]) (j:=0) ⟨⟨.refl _,sa,sb⟩,Mw _,Mw _⟩ ep eq (g0 p (by rw[show a.toList=p::t from ep];simp) q<|by rw[show b.toList=q::u from eq];simp);rw[GP];refine MJ<|Vn<|Pg ⟨rfl,MJ<|dq (K.b.at_ (Mw _) eq).1 ?_⟩;have sg:fS st st:=⟨rfl,rfl,rfl,rfl⟩;refine K.pb (f:=pure) m (XX ..) (λx hx=>MX<|h x _ sg hx) λh1=>K.pa (f:=pure) m ?_ (λx hx=>MX<|h x _ sg hx) λh2=>Ff K hk ⟨m,h2,h1,?_⟩ h
 ·rw[ep];simp
 ·show(a.toList.drop 0).length+(b.toList.drop 1).length+1<=_
  simp;lia
theorem K7:C.W (K5 a b) Q st:=by
 have K:=GU ka kb sa sb nd g0;obtain⟨p,t,ep⟩:=ou (l:=(zC a b).a.v a.size) (LQ 1) (by show 1<=(a.toList.take a.size).reverse.length;simpa using na);obtain⟨q,u,eq⟩:=ou (l:=(zC a b).b.v b.size) (LQ 1) (by show 1<=(b.toList.take b.size).reverse.length;simpa using nb);obtain⟨f1,f2,f3⟩:=K.a.at_ (LQ _) ep;have va:∀{x:R},(x.toList.take x.size).reverse=x.toList.reverse:=λ{x}=>by rw[L8<|by simp]
 have m:MS (zC a b) (λx y=>C.lo y x) (a.toList++b.toList) #[p] (a.size - 1) b.size:=by
  refine zG K (o:=#[]) (i:=a.size) ⟨⟨?_,?_,?_⟩,LQ _,LQ _⟩ ep eq<|g1 q ?_ p ?_
  ·show((a.toList.take a.size).reverse++(b.toList.take b.size).reverse).Perm _
   rw[va,va];exact(Tu _).append<|Tu _
  ·show(a.toList.take a.size).reverse.Pairwise _
   rw[va];exact RK.mpr sa
  ·show(b.toList.take b.size).reverse.Pairwise _
   rw[va];exact RK.mpr sb
  ·exact RS.mp<|va▸(show q∈(zC a b).b.v b.size by rw[eq];simp)
  ·have:a.toList.drop (a.size - 1)=[p]:=by
    have e:=M0 Z' (show(a.toList.take a.size).reverse=p::t from ep);rw[va,QD,Tv]at e;have el:=M0 Oe e;simp at el;rw[e,XZ<|by simp;lia]
   rw[this];exact LN.mpr rfl
 rw[GQ];refine MJ<|Vn<|Pg ⟨rfl,MJ<|dq f1 ?_⟩;have sg:fS st st:=⟨rfl,rfl,rfl,rfl⟩;refine K.pa (f:=pure) m (XX ..) (λx hx=>MX<|h x _ sg hx) λh1=>K.pb (f:=pure) m ?_ (λx hx=>MX<|h x _ sg hx) λh2=>Ff K hk ⟨m,h1,h2,?_⟩ h
 ·rw[eq];simp
 ·show(a.toList.take<|a.size - 1).reverse.length+(b.toList.take b.size).reverse.length+1<=_
  simp;lia
end
end
section
variable {C:Cm prog w A E s}{a₀:R}{lo n:Nat}{st Oo:Nu}{xs:R}
structure Bs (C:Cm prog w A E s)(a₀:R):Prop where
 ok:C.Oks a₀
 nd:(a₀.toList.map C.num).Nodup
structure SL (C:Cm prog w A E s)(a₀:R)(lo:Nat)(st Oo:Nu):Prop where
 perm:(MZ Oo).Perm a₀
 kind:kindOf Oo=C.kd
 failed:OS Oo=LL
 pend:M1 Oo=M1 st
 low:∀k,k < lo->(MZ Oo)[k]? =(MZ st)[k]?
def Srt(C:Cm prog w A E s)(xs:R)(lo n:Nat):Prop:=∀i j,i < j->j < n->C.K xs (lo+i) < C.K xs (lo+j)
theorem Bs.of(b:Bs C a₀)(h:xs.Perm a₀):Bs C xs:=⟨λp hp=>b.ok p<|(Pn.mp h).mem_iff.mp hp,((Pn.mp h).map _).nodup_iff.mpr b.nd⟩
theorem Bs.ne(b:Bs C xs)(hi:i < xs.size)(hj:j < xs.size)(h:i≠j):C.K xs i≠C.K xs j:=by
 have:=(SY.mp b.nd);unfold Cm.K;rw[Sl xs i hi,Sl xs j hj];intro e;obtain g|g:=Nat.lt_or_gt_of_ne h
 ·exact OQ.mp this i j (by simpa using hi) (by simpa using hj) g (by simpa using e)
 ·exact OQ.mp this j i (by simpa using hj) (by simpa using hi) g (by simpa using e.symm)
theorem Fg(hj:j<=xs.size)(k:Nat):C.K (Z6 xs i j<|(j - i) / 2) k=if i<=k/\k < j then C.K xs (i+j - 1 - k)else C.K xs k:=by
 unfold Cm.K;rw[VO hj]
 split<;>rfl
theorem Fh(hs:src < xs.size)(hd:d<=src)(k:Nat):C.K (bubble xs src d) k=if k=src - d then C.K xs src else if src - d < k/\k<=src then C.K xs (k - 1)else C.K xs k:=by
 unfold Cm.K;rw[XW hs d hd]
 split
 ·rfl
 ·split<;>rfl
theorem zK(b:Bs C (MZ st))(hk:kindOf st=C.kd)(hi:i < (MZ st).size)(hj:j < (MZ st).size)(S7:i≠j)(h1:C.K (MZ st) i < C.K (MZ st) j->Q (A' LI) st)(h2:C.K (MZ st) j < C.K (MZ st) i->Q (A' LM) st):C.W (ltAt' i j) Q st:=by
 obtain⟨p,hp,ip,ep⟩:=GN b.ok hi;obtain⟨p2,Xc,ip2,ep2⟩:=GN b.ok hj;have ne:=b.ne hi hj S7;rw[ep,ep2]at h1 h2 ne;rw[ltAt'_eq];refine MJ<|Tr<|MJ<|dq hp<|MJ<|dq Xc<|C.lt hk ip ip2 ?_;by_cases g:C.num p < C.num p2
 ·rw[Ma g];exact h1 g
 ·rw[LW g];exact h2 (by lia)
theorem Srt.next(h1:1<=x)(h:Srt C xs lo x)(g:C.K xs (lo+x - 1) < C.K xs (lo+x)):Srt C xs lo (x+1):=λi j hij hj=>by
 by_cases hjx:j < x
 ·exact h i j hij hjx
 ·obtain rfl:j=x:=by lia
  by_cases e:i=j - 1
  ·rw[e,<-Qv h1];exact g
  ·have:=h i (j - 1) (by lia) (by lia);rw[<-Qv h1]at this;exact Pa this g
section
variable (b:Bs C a₀)(h:SL C a₀ lo st Oo)(hn:lo+n<=a₀.size)
include b h hn
theorem Fi{f:Nat->LH (LH Nat)×Nat->TN Nu Sem (Qo<|LH (LH Nat)×Nat)}{Q:LH (LH Nat)×Nat->Nu->Prop}(ha:1<=k)(han:k<=n)(hs:Srt C (MZ Oo) lo k)
  (hf:∀x n,f x (LL,n)=(do
   let r <-ltAt' (lo+n) (lo+n - 1)
   match r with
   |some ac6=>if ac6=LI then pure (YH (LL,n))else pure (Px (LL,n+1))
   |_=>pure<|YH (A' LL,n)))
  (q:∀m,k<=m->m<=n->Srt C (MZ Oo) lo m->(m=n\/C.K (MZ Oo) (lo+m) < C.K (MZ Oo) (lo+m - 1))->Q (LL,m) Oo):C.W (forIn [k:n] ((LL,k):LH (LH Nat)×Nat) f) Q Oo:=by
 refine OH (I:=λx c PL=>PL=Oo/\c=(LL,x)/\Srt C (MZ Oo) lo x) ?_ ?_ ⟨rfl,rfl,hs⟩
 ·rintro x c PL hax hxn ⟨rfl,rfl,X2⟩;have:=h.perm.size_eq;rw[hf];exact MJ<|zK (b.of h.perm) h.kind (by lia) (by lia) (by lia) (λg=>MX<|q x hax (by lia) X2<|.inr g) λg=>MX ⟨rfl,rfl,X2.next (by lia) g⟩
 ·rintro c PL ⟨rfl,rfl,X2⟩;rw[show max k n=n by lia]at X2 ⊢;exact q n han (LQ _) X2<|.inl rfl
theorem Jo(h1:1<=n)(q:∀m PL,SL C a₀ lo st PL->1<=m->m<=n->Srt C (MZ PL) lo m->Q (A' m) PL):C.W (countRun' lo n) Q Oo:=by
 have hsz:=h.perm.size_eq;rw[countRun'_eq];refine MJ<|Fi b h hn (LQ 1) h1 (λi j _ _=>by lia) (λ_ _=>rfl) λm m1 m2 hs hor=>?_;dsimp only;refine de (λe=>MX<|q m _ h m1 m2 hs) λe=>?_;have Qi:=hor.resolve_left (show¬m=n by simpa using e);have hmn:m < n:=Nat.lt_of_le_of_ne m2 (show¬m=n by simpa using e);refine de (λg=>MJ<|zK (b.of h.perm) h.kind (by lia) (by lia) (by lia) (λ_=>MX<|q m _ h m1 m2 hs) λg2=>?_) λg=>?_
 ·have:=hs 0 (m - 1) (by lia) (by lia);rw[W3,<-Qv m1]at this;exact absurd g2 (by lia)
 ·obtain rfl:m=1:=by lia
  refine MJ<|Vn<|Pg ⟨rfl,?_⟩;refine MJ<|P6 (OH (I:=λx c PL=>PL=Oo/\c=(LL,x,0)/\∀i j,i < j->j < x->C.K (MZ Oo) (lo+j) < C.K (MZ Oo) (lo+i)) (Q:=λc PL=>PL=Oo/\∃m,c=(LL,m,0)/\2<=m/\m<=n/\∀i j,i < j->j < m->C.K (MZ Oo) (lo+j) < C.K (MZ Oo) (lo+i)) ?_ ?_ ⟨rfl,rfl,λi j i1 i2=>?_⟩) ?_
  ·rintro x c PL hax hxn ⟨rfl,rfl,hd⟩;dsimp only;refine MJ<|zK (b.of h.perm) h.kind (by lia) (by lia) (by lia) (λg=>MX ⟨rfl,rfl,λi j i1 i2=>?_⟩) λg=>?_
   ·by_cases hj:j < x
    ·exact hd i j i1 hj
    ·obtain rfl:j=x:=by lia
     by_cases e:i=j - 1
     ·rw[e,<-Qv<|by lia];exact g
     ·have:=hd i (j - 1) (by lia) (by lia);rw[<-Qv<|by lia]at this;exact Pa g this
   ·exact MJ (zK (b.of h.perm) h.kind (by lia) (by lia) (by lia) (λ_=>MX ⟨rfl,x,rfl,hax,by lia,hd⟩) λg2=>absurd g2<|by lia)
  ·rintro c PL ⟨rfl,rfl,hd⟩;rw[show max (1+1) n=n by lia]at hd ⊢;exact⟨rfl,n,rfl,by lia,LQ _,hd⟩
  ·obtain rfl:i=0:=by lia
   obtain rfl:j=1:=by lia
   exact Qi
  ·rintro c PL ⟨rfl,m,rfl,c1,c2,hd⟩;dsimp only;have h5:SL C a₀ lo st (Z5 PL<|Z6 (MZ PL) lo (lo+m)<|(lo+m - lo) / 2):=⟨(mirror_perm _ _ _ _).trans h.perm,h.kind,h.failed,h.pend,λk hk=>by
    show(Z6 (MZ PL) lo (lo+m)<|(lo+m - lo) / 2)[k]? =_
    rw[VO (by lia),Mi<|by lia];exact h.low k hk⟩
   refine MJ<|wpS_reverse<|MJ<|Fi b h5 hn (by lia) c2 (λu v huv hv=>?_) (λ_ _=>rfl) λm' d1 d2 X2 _=>MX<|q m' _ h5 (by lia) d2 X2;show C.K (Z6 (MZ PL) lo (lo+m)<|(lo+m - lo) / 2) (lo+u) < C.K (Z6 (MZ PL) lo (lo+m)<|(lo+m - lo) / 2) (lo+v)
   rw[Fg (by lia),Fg (by lia),Ml (by lia),Ml<|by lia];have:=hd (m - 1 - v) (m - 1 - u) (by lia) (by lia)
   rwa [show lo+(lo+m) - 1 - (lo+u)=lo+(m - 1 - u) by lia,show lo+(lo+m) - 1 - (lo+v)=lo+(m - 1 - v) by lia]
theorem Jp{Q:Md->Nu->Prop}(hok:ok<=n)(h1:1<=n)(hs:Srt C (MZ Oo) lo ok)
  (q:∀PL,SL C a₀ lo st PL->Srt C (MZ PL) lo n->Q LI PL):C.W (binarySort' lo n ok) Q Oo:=by
 rw[binarySort'_eq];refine MJ (P6 (OH (I:=λk c PL=>c=(LL,())/\SL C a₀ lo st PL/\Srt C (MZ PL) lo (min k n))
  (Q:=λc PL=>c=(LL,())/\SL C a₀ lo st PL/\Srt C (MZ PL) lo n) ?_ ?_ ⟨rfl,h,λi j hij hj=>hs i j hij<|by lia⟩) ?_)
 ·rintro k c PL hak hkn ⟨rfl,h2,s2⟩;rw[show min k n=k by lia]at s2;have hsz:=h2.perm.size_eq;have bb:=b.of h2.perm;refine MJ (P6 (OH (I:=λx c V1=>V1=PL/\∃l r,c=(LL,l,r)/\l<=r/\r<=k/\r - l<=k - x/\(∀i,i < l->C.K (MZ PL) (lo+i) < C.K (MZ PL) (lo+k))/\(∀i,r<=i->i < k->C.K (MZ PL) (lo+k) < C.K (MZ PL) (lo+i)))
   (Q:=λc V1=>V1=PL/\∃l,c=(LL,l,l)/\l<=k/\(∀i,i < l->C.K (MZ PL) (lo+i) < C.K (MZ PL) (lo+k))/\(∀i,l<=i->i < k->C.K (MZ PL) (lo+k) < C.K (MZ PL) (lo+i))) ?_ ?_ ⟨rfl,0,k,rfl,by lia,by lia,by lia,λi hi=>by lia,λi h1 h2=>by lia⟩) ?_)
  ·rintro x c V1 _ hx ⟨rfl,l,r,rfl,b1,b2,b3,b4,b5⟩;dsimp only;refine de (λg=>?_) λg=>MJ<|zK bb h2.kind (by lia) (by lia) (by lia) (λgl=>MX ⟨rfl,l,(l+r) / 2,rfl,by lia,by lia,by lia,b4,λi c1 c2=>?_⟩) λgl=>MX ⟨rfl,(l+r) / 2+1,r,rfl,by lia,by lia,by lia,λi c1=>?_,b5⟩
   ·obtain rfl:l=r:=by lia
    exact MX ⟨rfl,l,rfl,b2,b4,b5⟩
   ·obtain e|e:=SW c1
    ·exact e▸gl
    ·exact Pa gl<|s2 _ _ e c2
   ·obtain e|e:=SW (Nat.le_of_lt_succ c1)
    ·exact e▸gl
    ·exact Pa (s2 _ _ e<|by lia) gl
  ·rintro c V1 ⟨rfl,l,r,rfl,b1,b2,b3,b4,b5⟩;obtain rfl:l=r:=by lia
   exact⟨rfl,l,rfl,b2,b4,b5⟩
  ·rintro c V1 ⟨rfl,l,rfl,b2,b4,b5⟩;dsimp only;rw[moveDown'_eq];refine MJ<|UD<|MX ⟨rfl,⟨(bubble_perm _ _ _).trans h2.perm,h2.kind,h2.failed,h2.pend,λm hm=>?_⟩,λi j hij hj=>?_⟩
   ·show(bubble (MZ V1) (lo+k)<|lo+k - (lo+l))[m]? =_
    rw[XW (by lia) _ (by lia),Mi (by lia),Mi<|by lia];exact h2.low m hm
   ·show C.K (bubble (MZ V1) (lo+k)<|lo+k - (lo+l)) (lo+i) < C.K (bubble (MZ V1) (lo+k)<|lo+k - (lo+l)) (lo+j)
    rw[Fh (by lia) (by lia),Fh (by lia) (by lia),show lo+k - (lo+k - (lo+l))=lo+l by lia];have sub:∀u v,lo<=u->u < v->v < lo+k->C.K (MZ V1) u < C.K (MZ V1) v:=λu v c1 c2 c3=>by
     have:=s2 (u - lo) (v - lo) (by lia) (by lia)
     rwa [show lo+(u - lo)=u by lia,show lo+(v - lo)=v by lia]at this
    have up:∀u,lo+l<=u->u < lo+k->C.K (MZ V1) (lo+k) < C.K (MZ V1) u:=λu c1 c2=>by
     have:=b5 (u - lo) (by lia) (by lia)
     rwa [show lo+(u - lo)=u by lia]at this
    repeat' split
    all_goals first
     |lia
     |exact b4 _ (by lia)
     |exact up _ (by lia) (by lia)
     |exact sub _ _ (by lia) (by lia) (by lia)
 ·rintro c PL ⟨hc,h2,s2⟩;exact⟨hc,h2,by rwa [show min (max (max ok 1) n) n=n by lia]at s2⟩
 ·rintro c PL ⟨rfl,h2,s2⟩;exact MX<|q PL h2 s2
end
end
theorem uq(i:Nat):WY i=(do
 let t <-get
 let (A' (sa,na,aeX),A' (sb,nb,_)):=((M1 t)[i]?,(M1 t)[i+1]?)|unsupported "internal:list.sort.pending"
 set (UF t<|((M1 t).setIfInBounds i (sa,na+nb,aeX)).eraseIdxIfInBounds<|i+1)
 let A' k <-gH LM (<-Ui (MZ t) sb) (MZ t) sa na 0|return LM
 let (sa,na):=(sa+k,na - k)
 if na == 0 then return LI
 let A' nb <-gH LI (<-Ui (MZ t)<|sa+na - 1) (MZ t) sb nb (nb - 1)|return LM
 if nb == 0 then return LI
 let x:=(MZ t).extract sa sb
 let y:=(MZ t).extract sb (sb+nb)
 let m <-if na<=nb then K4 x y else K5 x y
 ZX λt=>Z5 t (m.toList.zipIdx.foldl (λa (p,j)=>a.setIfInBounds (sa+j) p)<|MZ t)
 return (OS (<-get)).isNone):=rfl
theorem Fj(base:Nat):∀(m x P T:gV Nk) (k:Nat) (a:R),base+k=P.length->m.length=x.length->a.toList=P++(x++T)->((m.zipIdx k).foldl (λa (q:Nk×Nat)=>a.setIfInBounds (base+q.2) q.1) a).toList=P++(m++T)
 |[],x,P,T,k,a,_,h,e=>by
  obtain rfl:x=[]:=Oc.mp h.symm;exact e
 |p::m,[],P,T,k,a,_,h,e=>by cases h
 |p::m,y::x,P,T,k,a,hb,h,e=>by
  have:=Fj base m x (P++[p]) T (k+1) (a.setIfInBounds (base+k) p) (by simpa using by lia) (by simpa using h) (by rw[S4,e,hb];simp);simpa using this
section
variable {C:Cm prog w A E s}{st:Nu}
theorem K8{x1 x2 y1 y2 z:gV Nk}(hx:(x1++x2).Pairwise C.lo)(hy:(y1++y2).Pairwise C.lo)(a:∀c∈x1,∀d∈y1++y2,C.lo c d)(b:∀d∈y2,∀c∈x1++x2,C.lo c d)(r:z.Perm (x2++y1))(s:z.Pairwise C.lo):(x1++(z++y2)).Pairwise C.lo:=by
 have hm:∀c∈z,c∈x2\/c∈y1:=λc hc=>Mt.mp<|r.mem_iff.mp hc;simp only [Oz,Mt]at hx hy a b ⊢
 grind
theorem Jq{prog:Mm}{w:MK}{A:Nl}{E:LF->LR->Prop}{s:LR}{Q:UZ->Nu->Prop}{x:Nu}(h:Q () x):wpS (MB prog w) A E s (set x:TN Nu Sem UZ) Q st:=by
 unfold wpS;rw[StateT.run_set];exact Me ⟨rfl,h⟩
theorem Dy{T:gV Nk}{Q:Md->Nu->Prop}(b:Bs C (MZ st))(hk:kindOf st=C.kd)(hf:OS st=LL)(e:(M1 st).toList=l1++(P.length,x.length,pa)::(P.length+x.length,y.length,pb)::l2)(hi:l1.length=i)
  (ea:(MZ st).toList=P++(x++(y++T))) (n1:x≠[]) (n2:y≠[]) (sx:x.Pairwise C.lo) (sy:y.Pairwise C.lo)
  (q:∀z Oo,kindOf Oo=C.kd->OS Oo=LL->(M1 Oo).toList=l1++(P.length,x.length+y.length,pa)::l2->(MZ Oo).toList=P++(z++T)->z.Perm (x++y)->z.Pairwise C.lo->Q LI Oo):C.W (WY i) Q st:=by
 obtain⟨e1,e2,e3⟩:(M1 st)[i]? =A' (P.length,x.length,pa)/\(M1 st)[i+1]? =A' (P.length+x.length,y.length,pb)/\(((M1 st).setIfInBounds i (P.length,x.length+y.length,pa)).eraseIdxIfInBounds (i+1)).toList=l1++(P.length,x.length+y.length,pa)::l2:=by
  rw[<-Nz,<-Nz,Array.toList_eraseIdxIfInBounds,S4,e];subst hi;simp [List.eraseIdx_append];lia
 have hl:=M0 Oe ea;simp only [LX,Mr]at hl;have nd:=b.nd;rw[ea,Mq,Mq]at nd;have ne:∀c∈x,∀d∈y,C.num c≠C.num d:=λc hc d hd=>(Oa.mp (Oa.mp nd).2.1).2.2 _ (OK hc) _<|OK<|OA _ hd;have nxy:((x++y).map C.num).Nodup:=(Mq▸(Oa.mp nd).2.1).sublist (by simp);clear nd;obtain⟨q0,y',rfl⟩:=SZ n2;obtain⟨x',p0,rfl⟩:∃x' p0,x=x'++[p0]:=⟨_,_,(Sb n1).symm⟩;have at1:(MZ st)[P.length+(x'++[p0]).length]? =A' q0:=by
  rw[<-Nz,ea,<-MN,Nh<|by simp];simp
 have at2:(MZ st)[P.length+x'.length]? =A' p0:=by
  rw[<-Nz,ea];simp
 have oq:C.ok q0:=b.ok q0 (by rw[ea];simp);have op:C.ok p0:=b.ok p0 (by rw[ea];simp);rw[uq];refine MJ<|Tr ?_;rw[e1,e2];dsimp only;refine MJ<|Jq<|MJ<|dq at1<|MJ<|vT ea rfl rfl b.ok sx hk oq (by simp) (λc hc=>ne c hc q0<|by simp) λk k1 k2 k3=>?_;dsimp only;generalize hX:x'++[p0]=X at*;have a1:∀c∈X.take k,∀d∈q0::y',C.lo c d:=λc hc d hd=>by
  obtain rfl|hd:=Mn.mp hd
  ·exact k2 c hc
  ·exact Pa (k2 c hc)<|Ta sy hd
 refine gR (λe=>MX<|q (X++q0::y') _ hk hf e3 (by rw[MN];exact ea) (.refl _)<|Oz.mpr ⟨sx,sy,λc hc=>a1 c ?_⟩) λen=>?_
 ·rwa [L8<|by lia]
 have hXl:=M0 Oe hX;simp only [LX,Mz]at hXl;rw[show P.length+k+(X.length - k) - 1=P.length+x'.length by lia];refine MJ<|dq at2<|MJ<|vT (P:=P++X) (x:=q0::y') (T:=T) (by simpa using ea) (by simp) rfl b.ok sy hk op (by simp) (λd hd=>(ne p0 (by simp [<-hX]) d hd).symm) λn m1 m2 m3=>?_;dsimp only;have a2:∀d∈(q0::y').drop n,∀c∈X,C.lo c d:=λd hd c hc=>by
  rw[<-hX]at hc sx;obtain hc|hc:=Mt.mp hc
  ·exact Pa ((Oz.mp sx).2.2 c hc p0<|LN.mpr rfl)<|m3 d hd
  ·exact LN.mp hc▸m3 d hd
 refine gR (λe=>MX<|q (X++q0::y') _ hk hf e3 (by rw[MN];exact ea) (.refl _)<|Oz.mpr ⟨sx,sy,λc hc d hd=>a2 d ?_ c hc⟩) λen2=>?_
 ·subst e;exact hd
 have eX:((MZ st).extract (P.length+k)<|P.length+X.length).toList=X.drop k:=by
  have:=oy (a:=MZ st) (P.length+k)<|X.length - k;rw[show P.length+k+(X.length - k)=P.length+X.length by lia]at this;rw[this,ea,<-S1,Vy,List.drop_append_of_le_length k1,List.take_left'<|by simp]
 have eY:((MZ st).extract (P.length+X.length)<|P.length+X.length+n).toList=(q0::y').take n:=by
  rw[oy,ea,<-MN,XZ (by simp),P_ m1]
 have hy2:=Ol n<|q0::y';have YY:=Ol k X;have kX:C.Oks ((MZ st).extract (P.length+k)<|P.length+X.length):=λc hc=>b.ok c (by rw[eX]at hc;rw[ea];simp [Vu hc]);have kY:C.Oks ((MZ st).extract (P.length+X.length)<|P.length+X.length+n):=λc hc=>b.ok c (by rw[eY]at hc;rw[ea];simp only [Mt];exact .inr<|.inr<|.inl<|PK hc);have nd2:((X.drop k++(q0::y').take n).map C.num).Nodup:=nxy.sublist<|((Tz ..).append (Rw ..)).map _;have sz:((MZ st).extract (P.length+k)<|P.length+X.length).size=X.length - k:=by rw[<-Mr,eX,N6]
 have sz2:((MZ st).extract (P.length+X.length)<|P.length+X.length+n).size=n:=by rw[<-Mr,eY,ME];lia
 have key:∀m PL,fS (UF st<|((M1 st).setIfInBounds i (P.length,X.length+(q0::y').length,pa)).eraseIdxIfInBounds<|i+1) PL->rg C (((MZ st).extract (P.length+k)<|P.length+X.length).toList++((MZ st).extract (P.length+X.length)<|P.length+X.length+n).toList) m->C.W (do
   ZX λt=>Z5 t (m.toList.zipIdx.foldl (λa (p,j)=>a.setIfInBounds (P.length+k+j) p)<|MZ t)
   return (OS (<-get)).isNone) Q PL:=λm PL sg hr=>by
  rw[eX,eY]at hr;refine MJ<|UD<|MJ<|Tr ?_;rw[show(OS<|Z5 PL _).isNone=LI by rw[show OS (Z5 PL _)=LL from sg.2.2.2.trans hf];rfl];refine MX<|q (X.take k++(m.toList++(q0::y').drop n)) _ (sg.1.trans hk) (sg.2.2.2.trans hf) (sg.2.2.1▸e3) ?_ ?_<|K8 (YY.symm▸sx) (hy2.symm▸sy) (hy2.symm▸a1) (YY.symm▸a2) hr.1 hr.2
  ·have:=Fj (P.length+k) m.toList (X.drop k++(q0::y').take n) (P++X.take k) ((q0::y').drop n++T) 0 (MZ PL) (by simpa using by lia) hr.1.length_eq (by
    rw[show MZ PL=MZ st from sg.2.1,ea];simp only [MN];rw[<-MN<|List.take n _,hy2,<-MN<|X.take k,YY])
   simpa using this
  ·refine(hr.1.append_right _|>.append_left _).trans ?_;rw[MN,hy2,<-MN,YY]
 refine de (λ_=>MJ<|K6 kX kY ?_ ?_ ?_ (by exact hk) ?_ ?_ ?_ ?_ key) λ_=>MJ<|K7 kX kY ?_ ?_ ?_ (by exact hk) ?_ ?_ ?_ ?_ key
 all_goals first
  |(rw[eX,eY];exact nd2)
  |(rw[eX];exact sx.sublist (Tz ..))
  |(rw[eY];exact sy.sublist (Rw ..))
  |(rw[sz];lia)
  |(rw[sz2];lia)
  |(rw[eX,eY,SX]
    intro c hc d hd;rw[show min 1 n=1 by lia]at hd;exact LN.mp hd▸k3 c hc)
  |(rw[eY,eX,sz,S1,show k+(X.length - k - 1)=x'.length by lia,<-hX]
    intro c hc d hd;rw[Vy]at hd;exact LN.mp hd▸m2 c hc)
end
def K9(lo n:Nat):S (Qo<|LH UZ×Nat):=do
 ZX λs=>UF s ((M1 s).push (lo,n,0))
 return .yield (LL,lo+n)
def Kr(size lo n:Nat):S (Qo<|LH UZ×Nat):=do
 match (M1 (<-get)).back? with
 |some (s1,n1,_)=>
  let pw:=power' size (2*s1+n1) (2*s1+n1+n1+n) size
  let c <-forIn [0:size] ((LL,()):LH UZ×UZ) λ_ _=>do
   let p:=M1 (<-get)
   match (if p.size > 1 then p[p.size - 2]? else LL)with
   |some (_,_,aeY)=>
    if aeY<=pw then return .done (LL,())
    else if(!(<-WY<|p.size - 2))=LI then return .done (A' (),())
    else return .yield (LL,())
   |_=>return .done (LL,())
  match c.1 with
  |some r=>return .done (A' r,lo)
  |none=>
   ZX λs=>UF s ((M1 s).modify ((M1 s).size - 1) λ(st,len,_)=>(st,len,pw))
   K9 lo n
 |_=>K9 lo n
theorem Dz:sortRuns'=(do
 let size:=(MZ (<-get)).size
 let c <-forIn [0:size] ((LL,0):LH UZ×Nat) λ_ c=>do
  if c.2>=size then return .done (LL,c.2)
  else
   let A' n <-countRun' c.2 (size - c.2)|return .done (A' (),c.2)
   if n < X7 size size 0 then
    rule "list.sort.binary-insertion"
    if(!(<-binarySort' c.2 (min (size - c.2)<|X7 size size 0) n))=LI then return .done (A' (),c.2)
    else Kr size c.2 (min (size - c.2)<|X7 size size 0)
   else Kr size c.2 n
 match c.1 with
 |some r=>return r
 |none=>
  for _ in [0:size] do
   let p:=M1 (<-get)
   if p.size<=1 then break
   let i:=p.size - 2
   let before:=if i > 0 then p[i - 1]?.map (·.2.1)else LL
   let i:=if before.any (· < (p[i+1]?.elim 0 (·.2.1)))then i - 1 else i
   if !(<-WY i)then return):=by kernel_rfl
section
variable {C:Cm prog w A E s}{a₀:R}{hi:Nat}{st:Nu}
inductive Rn (C:Cm prog w A E s):Nat->gV (Nat×Nat×Nat)->gV Nk->Prop
 |nil (lo:Nat):Rn C lo [] []
 |cons {lo p:Nat} {r:gV (Nat×Nat×Nat)} {x t:gV Nk} (h1:x≠[]) (h2:x.Pairwise C.lo) (h3:Rn C (lo+x.length) r t):Rn C lo ((lo,x.length,p)::r) (x++t)
theorem Rn.app{lo:Nat}{l1 l2:gV (Nat×Nat×Nat)}{t1 t2:gV Nk}(h:Rn C lo l1 t1)(h':Rn C (lo+t1.length) l2 t2):Rn C lo (l1++l2) (t1++t2):=by
 induction h with
 |nil=>exact h'
 |cons a b _ ih=>
  rw[MN];exact .cons a b (ih<|by rwa [LX,<-T4]at h')
theorem Rn.split:∀{l1:gV (Nat×Nat×Nat)} {lo:Nat} {t:gV Nk},Rn C lo (l1++l2) t->∃t1 t2,t=t1++t2/\Rn C lo l1 t1/\Rn C (lo+t1.length) l2 t2
 |[],lo,t,h=>⟨[],t,rfl,.nil _,h⟩
 |_::l1,_,_,.cons (x:=x) a b h=>by
  obtain⟨t1,t2,rfl,h1,h2⟩:=Rn.split h;exact⟨x++t1,t2,by simp,.cons a b h1,by rwa [LX,<-T4]⟩
theorem Rn.pow:∀{lo:Nat} {l l':gV (Nat×Nat×Nat)} {t:gV Nk},Rn C lo l t->l'.map (λq=>(q.1,q.2.1))=l.map (λq=>(q.1,q.2.1))->Rn C lo l' t
 |_,_,[],_,.nil lo,_=>.nil lo
 |_,_,_::_,_,.nil lo,e=>by cases e
 |_,_,[],_,.cons a b t,e=>by cases e
 |_,_,(u,v,p)::l',_,.cons a b t,e=>by
  obtain⟨e1,e2⟩:=Qn e;cases e1;exact .cons a b<|t.pow e2
theorem Rn.len{lo:Nat}{l:gV (Nat×Nat×Nat)}{t:gV Nk}(h:Rn C lo l t):l.length<=t.length:=by
 induction h with
 |nil=>exact LQ _
 |cons a _ _ ih=>
  have:=OL.mpr a;rw[L4,LX];lia
structure SR (C:Cm prog w A E s)(a₀:R)(hi:Nat)(u:gV Nk)(st:Nu):Prop where
 perm:(MZ st).Perm a₀
 kind:kindOf st=C.kd
 failed:OS st=LL
 runs:∃t,(MZ st).toList=t++u/\t.length=hi/\Rn C 0 (M1 st).toList t
variable {u:gV Nk}
theorem zL(b:Bs C a₀)(h:SR C a₀ hi u st)(hl:i+1 < (M1 st).size)(q:∀Oo,SR C a₀ hi u Oo->(M1 Oo).size+1=(M1 st).size->Q LI Oo):C.W (WY i) Q st:=by
 obtain⟨t,ea,ht,hr⟩:=h.runs;have el:(M1 st).toList=(M1 st).toList.take i++((M1 st)[i]::(M1 st)[i+1]::(M1 st).toList.drop (i+2)):=by
  rw[<-VA,<-VA,<-OR,<-OR,Ol]
 rw[el]at hr;obtain⟨P,t2,rfl,r1,r2⟩:=hr.split;rw[Qe]at r2;generalize (M1 st)[i]=q1,(M1 st)[i+1]=q2,(M1 st).toList.drop (i+2)=l2 at el r2;cases r2 with
 |cons n1 s1 r3=>
  cases r3 with
  |@cons _ _ _ y t3 n2 s2 r4=>
   rw[MN,MN,MN]at ea;refine Dy (b.of h.perm) h.kind h.failed el (by simp;lia) ea n1 n2 s1 s2 λz Oo k1 k2 k3 k4 pz sz=>?_;have lz:=pz.length_eq;rw[LX]at lz;refine q Oo ⟨?_,k1,k2,P++(z++t3),by rw[k4];simp,?_,?_⟩ ?_
   ·refine .trans (Pn.mpr ?_) h.perm;have:=(pz.append_right<|t3++u).append_left P;rw[MN]at this
    rwa [k4,ea]
   ·rw[<-ht];simp [lz,T4]
   ·rw[k3,<-lz];exact r1.app (by rw[Qe];exact .cons (λe=>n1<|by rw[e]at lz;exact Oc.mp<|by simp at lz;lia) sz<|by rwa [lz,<-T4])
   ·have e1:=M0 Oe k3;have e2:=M0 Oe el;simp only [LX,L4,Mr]at e1 e2;lia
theorem SR.push(h:SR C a₀ hi u st)(hn:1<=n)(hu:n<=u.length)(h2:(u.take n).Pairwise C.lo):SR C a₀ (hi+n) (u.drop n) (UF st<|(M1 st).push (hi,n,0)):=by
 obtain⟨t,ea,ht,hr⟩:=h.runs;subst ht;have hl:(u.take n).length=n:=by rw[ME];lia
 refine⟨h.perm,h.kind,h.failed,t++u.take n,by rw[MN,Ol];exact ea,by rw[LX,hl],?_⟩;show Rn C 0 ((M1 st).push (t.length,n,0)).toList _
 rw[TF];refine hr.app ?_;have:=Rn.cons (C:=C) (lo:=t.length) (p:=0) (x:=u.take n) (λe=>by rw[e]at hl;simp at hl;lia) h2<|.nil _;rw[Qe]
 rwa [hl,N0]at this
theorem Fk{n lo:Nat}{Q:Qo (LH UZ×Nat)->Nu->Prop}(h:SR C a₀ lo u st)(hn:1<=n)(hu:n<=u.length)(h2:(u.take n).Pairwise C.lo)(q:∀Oo,SR C a₀ (lo+n) (u.drop n) Oo->Q (.yield (LL,lo+n)) Oo):C.W (K9 lo n) Q st:=
 MJ (UD<|MX<|q _<|h.push hn hu h2)
theorem DA{α β:Type}(g:α->β)(f:α->α)(hf:∀x,g (f x)=g x)(l:gV α)(i:Nat):(l.modify i f).map g=l.map g:=by
 refine RC λj=>?_;rw[Mp,Mp,List.getElem?_modify];cases l[j]? with
 |none=>rfl
 |some a=>
  show A' (g (if i=j then f a else a))=A' (g a)
  split
  ·rw[hf]
  ·rfl
theorem Fl{size n lo:Nat}{Q:Qo (LH UZ×Nat)->Nu->Prop}(b:Bs C a₀)(h:SR C a₀ lo u st)(hn:1<=n)(hu:n<=u.length)(h2:(u.take n).Pairwise C.lo)(q:∀Oo,SR C a₀ (lo+n) (u.drop n) Oo->Q (.yield (LL,lo+n)) Oo):C.W (Kr size lo n) Q st:=by
 unfold Kr;refine MJ<|Tr ?_
 split
 ·refine MJ<|P6 (OH (I:=λ_ c st4=>c=(LL,())/\SR C a₀ lo u st4) (Q:=λc st4=>c=(LL,())/\SR C a₀ lo u st4) ?_ (λ_ _ z=>z) ⟨rfl,h⟩) ?_
  ·rintro y c st4 _ _ ⟨rfl,r4⟩;refine MJ<|Tr ?_;dsimp only
   split
   ·rename_i e;have hgt:(M1 st4).size > 1:=by
     split at e
     ·assumption
     ·cases e
    exact de (λ_=>MX ⟨rfl,r4⟩) λ_=>MJ<|zL b r4 (by lia) λst5 r5 _=>MX ⟨rfl,r5⟩
   ·exact MX ⟨rfl,r4⟩
  ·rintro c st4 ⟨rfl,r4⟩;obtain⟨t,ea,ht,hr⟩:=r4.runs;refine MJ<|UD<|Fk ⟨r4.perm,r4.kind,r4.failed,t,ea,ht,hr.pow ?_⟩ hn hu h2 q;show aaO _ ((M1 st4).modify _ _).toList=_
   rw[Array.toList_modify];exact DA (λq:Nat×Nat×Nat=>(q.1,q.2.1)) _ (by exact λ_=>rfl) _ _
 ·exact Fk h hn hu h2 q
theorem l_:∀fuel n r,1<=n->1<=X7 fuel n r
 |0,n,r,h=>MD h<|Xv _ _
 |fuel+1,n,r,h=>by
  rw[minRun'_succ]
  split
  ·lia
  ·exact l_ fuel (n / 2) _ (by lia)
theorem SL.sr{lo n:Nat}{Oo:Nu}(h:SL C a₀ lo st Oo)(r:SR C a₀ lo u st)(hn:lo+n<=a₀.size)(hs:Srt C (MZ Oo) lo n):∃u',SR C a₀ lo u' Oo/\n<=u'.length/\(u'.take n).Pairwise C.lo:=by
 obtain⟨t,ea,ht,hr⟩:=r.runs;have hsz:=h.perm.size_eq;have e:(MZ Oo).toList=t++(MZ Oo).toList.drop lo:=by
  rw[<-Ol lo (MZ Oo).toList]
  congr 1
  ·refine RC λk=>?_;by_cases hk:k < lo
   ·have:=h.low k hk;rw[PP hk,Nz,this,<-Nz,ea,Nd<|by lia]
   ·rw[N9 (by simp;lia),N9<|by lia]
  ·simp
 refine⟨(MZ Oo).toList.drop lo,⟨h.perm,h.kind,h.failed,t,e,ht,h.pend▸hr⟩,by simp;lia,?_⟩;rw[OQ];intro i j hi hj hij;simp only [ME,N6,Mr]at hi hj;have:=hs i j hij (by lia);rw[<-N0<|List.drop lo _]at e;rw[<-ht,uo e (by simp;lia),uo e<|by simp;lia]at this;rw[Tw,Tw];subst ht;exact this
theorem GV(b:Bs C a₀)(h:SR C a₀ 0 u st)(h2:1<=a₀.size)(q:∀Oo,(MZ Oo).Perm a₀->OS Oo=LL->(MZ Oo).toList.Pairwise C.lo->Q () Oo):C.W sortRuns' Q st:=by
 rw[Dz];refine MJ<|Tr ?_;dsimp only;rw[h.perm.size_eq];have hmr:=l_ a₀.size a₀.size 0 h2;generalize X7 a₀.size a₀.size 0=mr at hmr;refine MJ (P6 (OH (I:=λx c Oo=>∃lo u,c=(LL,lo)/\SR C a₀ lo u Oo/\(x<=lo\/lo=a₀.size))
  (Q:=λc Oo=>c=(LL,a₀.size)/\∃u,SR C a₀ a₀.size u Oo) ?_ ?_ ⟨0,u,rfl,h,.inl<|LQ _⟩) ?_)
 ·rintro x c Oo _ hx ⟨lo,u,rfl,r,hxl⟩;obtain⟨t,ea,ht,_⟩:=r.runs;have cZ:=M0 Oe ea;rw[LX,Mr,r.perm.size_eq]at cZ;dsimp only;refine de (λg=>?_) λg=>?_
  ·obtain rfl:lo=a₀.size:=by lia
   exact MX ⟨rfl,u,r⟩
  refine MJ<|Jo b (st:=Oo) ⟨r.perm,r.kind,r.failed,rfl,λ_ _=>rfl⟩ (by lia) (by lia) λm PL h2 hm1 hm2 hs2=>?_;dsimp only;refine de (λgm=>MJ<|Vn<|Pg ⟨rfl,MJ<|Jp b h2 (n:=min (a₀.size - lo) mr) (by lia) (by lia) (by lia) hs2 λV1 h3 s3=>?_⟩) λgm=>?_
  ·obtain⟨u3,r3,a1,a2⟩:=h3.sr r (by lia) s3;exact Fl b r3 (by lia) a1 a2 λst4 r4=>⟨_,_,rfl,r4,by lia⟩
  ·obtain⟨u3,r3,a1,a2⟩:=h2.sr r (by lia) hs2;exact Fl b r3 hm1 a1 a2 λst4 r4=>⟨_,_,rfl,r4,by lia⟩
 ·rintro c Oo ⟨lo,u,rfl,r,hx⟩;obtain⟨t,ea,ht,_⟩:=r.runs;have cZ:=M0 Oe ea;rw[LX,Mr,r.perm.size_eq]at cZ;obtain rfl:lo=a₀.size:=by lia
  exact⟨rfl,u,r⟩
 ·rintro c Oo ⟨rfl,u,r⟩;have len:∀{st},SR C a₀ a₀.size u st->(M1 st).size<=a₀.size:=λr=>by
   obtain⟨t,_,ht,hr⟩:=r.runs;have:=hr.len
   rwa [Mr,ht]at this
  refine MJ<|P6 (OH (I:=λx c PL=>c=(LL,())/\SR C a₀ a₀.size u PL/\((M1 PL).size+x<=a₀.size\/(M1 PL).size<=1)) (Q:=λc PL=>c=(LL,())/\SR C a₀ a₀.size u PL/\(M1 PL).size<=1) ?_ ?_ ⟨rfl,r,.inl (by have:=len r;lia)⟩) ?_
  ·rintro x c PL _ hx ⟨rfl,r2,YY⟩;refine MJ (Tr<|de (λg=>MX ⟨rfl,r2,g⟩) λg=>MJ<|zL b r2 ?_ λV1 r3 e3=>MX ⟨rfl,r3,by lia⟩)
   repeat' split
   all_goals lia
  ·rintro c PL ⟨rfl,r2,YY⟩;exact⟨rfl,r2,by lia⟩
  ·rintro c PL ⟨rfl,r2,YY⟩;obtain⟨t,ea,ht,hr⟩:=r2.runs;refine MX<|q PL r2.perm r2.failed ?_;have el:=M0 Oe ea;rw[LX,Mr,r2.perm.size_eq,ht]at el;rw[ea,Oc.mp (show u.length=0 by lia),N0];rw[<-Mr]at YY;generalize (M1 PL).toList=l at hr YY;cases hr with
   |nil=>exact .nil
   |cons _ s r=>
    cases r with
    |nil=>simpa using s
    |cons=>simp only [L4]at YY;lia
end
def sH(h:M8)(b:LJ)(us:gV LF):M8:=((h.update b<|Oh λ_=>#[]).push<|NR "tuple" us.toArray 0).push<|NR "list" #[] 0
theorem rh{α β:Type}{F:α->β->Prop}{bs bs':gV β}(p:bs'.Perm bs):∀{as:gV α},Paired F as bs->∃as',Paired F as' bs'/\as'.Perm as:=by
 induction p with
 |nil=>exact λh=>⟨_,h,.refl _⟩
 |cons x _ ih=>
  rintro _ (_|⟨r,t⟩);obtain⟨as',h1,h2⟩:=ih t;exact⟨_,.cons r h1,h2.cons _⟩
 |swap x y l=>
  rintro _ (_|⟨r,_|⟨r',t⟩⟩);exact⟨_,.cons r'<|.cons r t,.swap ..⟩
 |trans _ _ ih1 ih2=>
  intro as h;obtain⟨a1,h1,p1⟩:=ih2 h;obtain⟨a2,h2,p2⟩:=ih1 h1;exact⟨a2,h2,p2.trans p1⟩
theorem ur{α β:Type}{F:α->β->Prop}{as:gV α}{bs:gV β}(h:Paired F as bs):∀{i:Nat} {b:β},bs[i]? =A' b->∃a,as[i]? =A' a/\F a b:=by
 induction h with
 |nil=>intro i b e;simp at e
 |cons r _ ih=>
  intro i b e;cases i with
  |zero=>exact⟨_,rfl,MC e▸r⟩
  |succ i=>exact ih e
section
variable {κ:Type}{is:κ->LF->Prop}{key:κ->Int}
open Classical in
noncomputable def GW (is:κ->LF->Prop)(key:κ->Int)(v:LF):Int:=if h:∃k,is k v then key h.choose else 0
theorem ut(inj:∀k k' v,is k v->is k' v->k=k')(h:is k v):GW is key v=key k:=by
 unfold GW;rw[dif_pos ⟨k,h⟩,inj _ k v (Exists.choose_spec (p:=λk=>is k v) ⟨k,h⟩) h]
theorem vU(inj:∀k k' v,is k v->is k' v->k=k')(h:Paired is ks us):us.map (GW is key)=ks.map key:=by
 induction h with
 |nil=>rfl
 |cons r _ ih=>rw[MH,MH,ih,ut inj r]
theorem sort_gen{prog:Mm}{w:MK}{A:Nl}{E:LF->LR->Prop}{s:LR}{R:ab2->LR->Prop}{kd:YE}(hb:s.heap.get? b=A' (NR "list" us.toArray ep))(hz:us.length<=10000)(inj:∀k k' v,is k v->is k' v->k=k')(hk:Paired is ks us)(nd:(ks.map key).Nodup)
  (kk:2<=us.length->∀{Q:YE->LR->Prop},Q kd {s with heap:=sH s.heap b us}->wpAny (MB prog w) A (keyKind' us.toArray) Q E {s with heap:=sH s.heap b us})
  (lt:∀{E':LF->LR->Prop} {k k':κ} {x y:LF} {Q:Md->LR->Prop},is k x->is k' y->Q (decide (key k < key k')) {s with heap:=sH s.heap b us}->wpAny (MB prog w) A (keyLt' kd x y) Q E' {s with heap:=sH s.heap b us})
  (q:∀zs ks',Paired is ks' zs->ks'.Perm ks->(ks'.map key).Pairwise (· < ·)->R (.done<|.ret .none) {s with heap:=Yz s.heap b us zs.toArray}):wpAny (MB prog w) A (Builtin.«list.sort» ⟨[.ref b],[]⟩) R E s:=by
 let C:Cm prog w A E {s with heap:=sH s.heap b us}:=⟨λp=>GW is key p.1,λp=>∃k,is k p.1,kd,λ{x y Q st} e ⟨k,h1⟩ ⟨k',h2⟩ h=>by
  rw[ut inj h1,ut inj h2]at h;rw[lt'_eq];refine MJ<|Tr ?_;rw[e];exact MJ<|Vn<|Y5<|lt h1 h2 ⟨rfl,MX h⟩⟩
 have line:∀{n:Nat},n<=10000->n<=sizeLine:=λz=>by rw[NT];lia
 have S6:∀t,(MZ t).Perm (X6 us)->(MZ t).toList.Pairwise C.lo->R (.done<|.ret .none) {s with heap:=Yz s.heap b us ((MZ t).map (·.2))}/\((MZ t).map (·.2)).size<=sizeLine:=λt hp hs=>by
  have hl:(MZ t).toList.Perm (us.zip us):=by rw[<-Vq];exact Pn.mp hp
  have e:((MZ t).map (·.2)).toList=(MZ t).toList.map (·.2):=Array.toList_map;have hm:((MZ t).toList.map (·.2)).Perm us:=by
   have:=hl.map (·.2)
   rwa [Xw<|LQ _]at this
  obtain⟨ks',h1,h2⟩:=rh hm hk;refine⟨?_,by rw[YK,hp.size_eq,pairsOf_size];exact line hz⟩;have:=q _ ks' h1 h2 (by
   rw[<-vU inj h1,M9,Ny];refine hs.imp_of_mem λ{x y} hx hy h=>?_;have e1:=(UG<|hl.mem_iff.mp hx).1;have e2:=(UG<|hl.mem_iff.mp hy).1;show GW is key x.2 < GW is key y.2
   rw[<-e1,<-e2];exact h)
  rwa [<-e]at this
 rw[list_sort_plain];have Qi:b < s.heap.objs.size:=Mj hb;obtain⟨e1,hb1⟩:∃x,(s.heap.update b (Oh λ_=>#[])).get? b=A' (NR "list" #[] x):=⟨_,R' hb _⟩;have hb2:(sH s.heap b us).get? b=A' (NR "list" #[] e1):=LP _ (LP _ hb1);refine LG (WZ hb rfl (LG (Q0 hb rfl ?_ (by rw[Mf];exact line hz))));refine LG (Vp hb1 rfl (LG (Yj (LG (RW (N3 ?_))) (by simpa using line hz))));show wpAny (MB prog w) A _ R E {s with heap:=sH s.heap b us}
 have go:∀t,OS t=LL->(MZ t).Perm (X6 us)->(MZ t).toList.Pairwise C.lo->wpAny (MB prog w) A (do
   let touched:=(<-seqEpoch b) != e1
   ZL (.ref b) λ_=>(MZ t).map (·.2)
   if let A' e:=OS t then rule "list.sort.comparison-raised";throw e
   if touched then rule "list.sort.modified";raiseError "ValueError" "list modified during sort"
   ret .none) R E {s with heap:=sH s.heap b us}:=λt h0 h1 h2=>by
  obtain⟨f1,f2⟩:=S6 t h1 h2;refine LG<|Vp hb2 rfl<|LG<|Q0 hb2 rfl ?_ (Mw _)<|Nat.le_succ_of_le f2;rw[h0];simp only [WE,OZ,Ri];exact Me f1
 by_cases g:us.toArray.size < 2
 ·rw[Ml g,Ml g];refine LG<|Me ?_;dsimp only;rw[XO];refine LG<|Me<|go (SV general' (us.toArray.zip us.toArray) #[] 7 LL) rfl (.refl _) ?_;have hl:(us.toArray.zip us.toArray).toList.length < 2:=by simpa using g
  show(us.toArray.zip us.toArray).toList.Pairwise C.lo
  generalize (us.toArray.zip us.toArray).toList=l at hl;cases l with
  |nil=>exact .nil
  |cons x r=>
   cases r with
   |nil=>exact List.pairwise_singleton _ _
   |cons y r=>exact absurd hl<|abu.mpr<|P7<|P7<|Mw _
 ·rw[Mi g,Mi g];rw[Mf]at g;refine LG<|kk (by lia) ?_;have hB:Bs C (X6 us):=⟨λp hp=>?_,?_⟩
  ·refine LG<|Nv (GV (C:=C) (u:=(X6 us).toList) (Q:=λ_ t=>(MZ t).Perm (X6 us)/\OS t=LL/\(MZ t).toList.Pairwise C.lo) hB ⟨.refl _,rfl,rfl,[],rfl,rfl,.nil _⟩ (by rw[pairsOf_size];lia) λt z1 z2 z3=>⟨z1,z2,z3⟩) ?_ λ_ _ z=>z;rintro⟨⟨⟩,t⟩ s2 ⟨rfl,z1,z2,z3⟩;exact go t z2 z1 z3
  ·rw[Vq]at hp;have hm:=(UG hp).2;obtain⟨i,hi⟩:=Qr.mp hm;obtain⟨k,_,h⟩:=ur hk hi;exact⟨k,h⟩
  ·rw[Vq];show((us.zip us).map<|GW is key∘Prod.fst).Nodup
   rw[<-M9,List.map_fst_zip<|LQ _,vU inj hk];exact nd
end
end TS
namespace L2
open PySem PySem.Spec PyProof.Rows
theorem oz{α β:Type}{F:α->β->Prop}:∀{as:gV α} {bs:gV β},as.length=bs.length->(∀(i:Nat) a b,as[i]? =A' a->bs[i]? =A' b->F a b)->Paired F as bs
 |[],[],_,_=>.nil
 |[],_::_,h,_=>by cases h
 |_::_,[],h,_=>by cases h
 |a::as,b::bs,h,f=>.cons (f 0 a b rfl rfl)<|oz (by simpa using h) λi a b h1 h2=>f (i+1) a b h1 h2
structure SK (X:Cx)(H:Hp)(κ:Type) where
 vr:κ->V->Prop
 key:κ->Int
 kd:YE
 hp:M8->Prop
 mono:∀{h h'},hp h->(∀b o,h.get? b=A' o->h'.get? b=A' o)->hp h'
 inj:∀{k k' x x' v},vr k x->RelV x v->vr k' x'->RelV x' v->k=k'
 kk:∀{A E s Q us} {ks:gV κ},hp s.heap->2<=us.length->Paired (λk v=>∃x,vr k x/\RelV x v) ks us->Q kd s->wpAny (MB X.prog X.w) A (keyKind' us.toArray) Q E s
 lt:∀{A E s Q k k' x x' v v'},hp s.heap->vr k x->RelV x v->vr k' x'->RelV x' v'->Q (decide (key k < key k')) s->wpAny (MB X.prog X.w) A (keyLt' kd v v') Q E s
section
variable {κ:Type}(S:SK X H κ)
theorem DB(h:Paired (λk v=>∃x,S.vr k x/\RelV x v) ks zs):∃ts,Vals ts zs/\Paired S.vr ks ts:=by
 induction h with
 |nil=>exact⟨[],.nil,.nil⟩
 |cons r _ ih=>
  obtain⟨x,r1,r2⟩:=r;obtain⟨ts,h1,h2⟩:=ih;exact⟨x::ts,.cons r2 h1,.cons r1 h2⟩
theorem uu(I:Inv X LO σ H s)(hp:S.hp s.heap)(hz:vs.length<=9000)(hk:Paired (λk v=>∃x,S.vr k x/\RelV x v) ks vs)(nd:(ks.map S.key).Nodup)
  (q:∀l ts ks',H l=LL->ks'.Perm ks->(ks'.map S.key).Pairwise (· < ·)->Paired S.vr ks' ts->Q (.ref l) (upd H l<|.lst ts)):
  wpAny (MB X.prog X.w) X.A.in1 (do
   let l <-ZY vs
   let _ <-Ti [l] (call (.builtin "list.sort") [l] [])
   ret l) (λr s'=>∃v,r=.done (.ret v)/\EP X LO σ Q v s') X.xe s:=by
 refine LG (RW ?_<|by rw[NT];lia);have hoL:(s.heap.push<|NR "list" vs.toArray 0).get? s.heap.objs.size=A' (NR "list" vs.toArray 0):=MG _ rfl;have Xc:S.hp (TS.sH (s.heap.push<|NR "list" vs.toArray 0) s.heap.objs.size vs):=S.mono hp λb o e=>LP _<|LP _<|(M6 _ _<|PH<|Mj e).trans<|LP _ e;refine LG<|N3<|RM Vo ⟨_,hoL,rfl⟩ UU (TS.sort_gen (key:=S.key) (kd:=S.kd) hoL (by lia) (λk k' v ⟨x,r1,r2⟩ ⟨x',r3,r4⟩=>S.inj r1 r2 r3 r4) hk nd (λh2=>S.kk Xc h2 hk) (λ⟨x,r1,r2⟩ ⟨x',r3,r4⟩=>S.lt Xc r1 r2 r3 r4) λzs ks' h1 h2 h3=>⟨_,rfl,?_⟩)<|YC _;obtain⟨ts,rv,rt⟩:=DB S h1;obtain⟨e,he⟩:=Zr (out:=zs.toArray) hoL;refine Me ⟨_,rfl,.ref s.heap.objs.size,_,I.laid (o:=.lst ts) (t':=s.toks) (λb o eb=>?_) (LQ _) ⟨?_,zs,e,rv,he⟩,rfl,q _ ts ks' (I.hok.fresh<|LQ _) h2 h3 rt⟩
 ·have hb:b < s.heap.objs.size:=Mj eb;rw[Yy (Mx hb)<|by rw[Wj];exact OJ hb];exact LP _ eb
 ·have l1:=Paired.length rt;have l2:=Paired.length hk;rw[<-l1,h2.length_eq,l2];exact Nx (aW<|by lia)
def Fm(X:Cx)(H:Hp):SK X H Int where
 vr:=λk x=>x=.int k
 key:=λk=>k
 kd:=oneType'
 hp:=λ_=>True
 mono:=λh _=>h
 inj:=by
  rintro k k' _ _ v rfl ⟨t,rfl⟩ rfl ⟨t',e⟩;cases e;rfl
 kk:=λ{A E s Q us ks} _ h2 h q=>by
  have hi:PV us ks:=by
   clear h2
   induction h with
   |nil=>exact .nil
   |cons r _ ih=>
    obtain⟨_,rfl,t,rfl⟩:=r;exact .cons _ t ih
  match us,h2 with
  |v1::v2::vr,_=>
   rw[keyKind_ints hi];exact Me q
 lt:=by
  rintro A E s Q k k' _ _ _ _ _ rfl ⟨t,rfl⟩ rfl ⟨t',rfl⟩ q;exact oneLt_int q
theorem xS{ks:gV Int}{ts:gV V}(h:Paired (Fm X H).vr ks ts):ts=ks.map V.int:=by
 induction h with
 |nil=>rfl
 |cons r _ ih=>rw[MH,ih,show _=V.int _ from r]
theorem uv(hc:X.calm=LI):dQ X (.builtin "sorted") (λxs H Q=>∃p kvs ks,xs=[.ref p]/\H p=A' (.dK kvs)/\kvs.map (·.1)=ks.map M5/\ks.length<=9000/\
  ∀l V2,H l=LL->QO V2 ks->PR (·<=·) V2->Q (.ref l) (upd H l<|.lst<|aaO V.int V2)):=by
 intro LO s σ H xs us Q I r h;obtain⟨p,kvs,ks,rfl,hp,hk,h64,q⟩:=h;obtain⟨u,rfl,ru⟩:=dE r;cases ru;obtain⟨z,hd,vs,TK,dd⟩:kvs.length<=sizeLine/\(p == Ov)=LM/\∃vs,KV kvs vs/\s.heap.DictOf (a_ X.prog X.w) p vs:=I.hok p _ hp;obtain⟨ep,hat⟩:=dd.dictAt;have N1:kvs.length=vs.length:=Paired.length TK;have e1:vs.map (·.1)=ks.map M5:=by
  rw[<-hk];clear hk hp hat dd N1 z
  induction TK with
  |nil=>rfl
  |cons r _ ih=>rw[MH,MH,ih,r.1]
 have hkl:=M0 Oe e1;simp only [J']at hkl;refine S_ XH WX W0 (args_sorted1 _) ?_;unfold Builtin.«sorted»;refine LG (m:=Yp "sorted" 1 1 _)<|Me ?_;refine LG<|VM (A:=X.A.in1) (Xj (knd:=a_ X.prog X.w) (kvs:=vs) (ep:=ep) hd) (I.ok.hd hc) hat (by lia) λh' tk O0 hkp abe=>?_;have hl:O0.toList.length=vs.length:=by rw[Mr];exact abe.1
 refine uu (Fm X H) (s:={s with heap:=h',toks:=tk}) (ks:=ks) (I.kept hkp) trivial (by lia) ?_ ?_ λl ts ks' h1 h2 h3 h4=>?_
 ·refine oz (by lia) λi k v RU hv=>?_;obtain⟨k2,x,hx,hkv⟩:=abe.2 i v (by rw[<-Nz];exact hv);have e2:=M0 (·[i]?) e1;simp only [Mp,hx,RU,Q7]at e2;cases MC e2;obtain⟨t,et⟩:=Tp (k:=k) (v:=v) hkv;exact⟨.int k,rfl,t,et⟩
 ·obtain⟨_,_,_,_,_,_,_,_,nd⟩:=dd;rw[e1,SY,Ny]at nd;exact(W4 ks).symm▸nd.imp λh z=>h<|M0 _ z
 ·rw[xS h4];exact q l ks' h1 h2<|((W4 ks')▸h3).imp W8
end
mutual
def RD(H:Hp):Mc->V->Prop
 |.none,v=>v=.non
 |.bool b,v=>v=.bl b
 |.int i,v=>v=.int i
 |.str x,v=>v=.str x
 |.list ds,v=>∃a xs,v=.ref a/\H a=A' (.lst xs)/\c9 H ds xs
 |.tuple ds,v=>∃a xs,v=.ref a/\H a=A' (.tup xs)/\c9 H ds xs
 |.dict _,_=>False
def c9(H:Hp):gV Mc->gV V->Prop
 |[],xs=>xs=[]
 |d::ds,xs=>∃y ys,xs=y::ys/\RD H d y/\c9 H ds ys
end
theorem fT(h:H a=A' (.lst xs))(r:c9 H ds xs):RD H (.list ds) (.ref a):=by
 unfold RD;exact⟨a,xs,rfl,h,r⟩
theorem bB(h:H a=A' (.tup xs))(r:c9 H ds xs):RD H (.tuple ds) (.ref a):=by
 unfold RD;exact⟨a,xs,rfl,h,r⟩
theorem eM(h:RD H (.list ds) v):∃a xs,v=.ref a/\H a=A' (.lst xs)/\c9 H ds xs:=by
 unfold RD at h;exact h
theorem ax(h:RD H (.tuple ds) v):∃a xs,v=.ref a/\H a=A' (.tup xs)/\c9 H ds xs:=by
 unfold RD at h;exact h
theorem vV:RD H .none .non:=by unfold RD;rfl
theorem dt(i:Int):RD H (.int i) (.int i):=by unfold RD;rfl
theorem dG(x:Str):RD H (.str x) (.str x):=by unfold RD;rfl
theorem aQ:c9 H [] []:=by unfold c9;rfl
theorem ap(h:RD H d y)(t:c9 H ds ys):c9 H (d::ds) (y::ys):=by
 unfold c9;exact⟨y,ys,rfl,h,t⟩
theorem bV(h:c9 H [] xs):xs=[]:=by
 unfold c9 at h;exact h
theorem ar(h:c9 H (d::ds) xs):∃y ys,xs=y::ys/\RD H d y/\c9 H ds ys:=by
 unfold c9 at h;exact h
theorem ib:∀ns:gV Int,c9 H (ns.map NV)<|ns.map V.int
 |[]=>aQ
 |n::r=>ap (dt n)<|ib r
theorem dH:∀{ds:gV Mc} {xs:gV V},c9 H ds xs->xs.length=ds.length
 |[],_,h=>by
  rw[bV h];rfl
 |d::ds,_,h=>by
  obtain⟨y,ys,rfl,_,t⟩:=ar h;rw[L4,L4,dH t]
theorem fU:∀{ds:gV Mc} {xs:gV V} {j:Nat} {v:V},c9 H ds xs->xs[j]? =A' v->RD H (ds.getD j .none) v
 |[],_,_,_,h,e=>by rw[bV h]at e;cases e
 |d::ds,_,j,v,h,e=>by
  obtain⟨y,ys,rfl,h1,t⟩:=ar h;cases j with
  |zero=>
   have e':y=v:=by simpa using e
   subst e';exact h1
  |succ j=>exact fU (ds:=ds) t (by simpa using e)
mutual
theorem iG(k:Same H H'):∀d v,RD H d v->RD H' d v
 |.none,v,h=>by unfold RD at h ⊢;exact h
 |.bool b,v,h=>by unfold RD at h ⊢;exact h
 |.int i,v,h=>by unfold RD at h ⊢;exact h
 |.str x,v,h=>by unfold RD at h ⊢;exact h
 |.list ds,v,h=>by
  obtain⟨a,xs,e,h1,h2⟩:=eM h;subst e;exact fT (k _ _ h1)<|cR k ds xs h2
 |.tuple ds,v,h=>by
  obtain⟨a,xs,e,h1,h2⟩:=ax h;subst e;exact bB (k _ _ h1)<|cR k ds xs h2
 |.dict _,v,h=>by
  unfold RD at h;exact h.elim
theorem cR(k:Same H H'):∀ds xs,c9 H ds xs->c9 H' ds xs
 |[],xs,h=>by
  rw[bV h];exact aQ
 |d::ds,xs,h=>by
  obtain⟨y,ys,e,h1,h2⟩:=ar h;subst e;exact ap (iG k d y h1)<|cR k ds ys h2
end
mutual
theorem cS(I:Inv X LO σ H s):∀d x v,RD H d x->RelV x v->∃as,Reads s.heap v d as
 |.none,x,v,h,r=>by
  unfold RD at h;subst h;cases r;exact⟨[],.none⟩
 |.bool b,x,v,h,r=>by
  unfold RD at h;subst h;cases r;exact⟨[],.bool b⟩
 |.int i,x,v,h,r=>by
  unfold RD at h;subst h;obtain⟨t,rfl⟩:=r;exact⟨[],.int i t⟩
 |.str y,x,v,h,r=>by
  unfold RD at h;subst h;obtain⟨t,rfl⟩:=r;exact⟨[],.str y t⟩
 |.list ds,x,v,h,r=>by
  obtain⟨a,xs,e,h1,h2⟩:=eM h;subst e;cases r;obtain⟨NH,rv,⟨o,n,e1,e2,_,e4⟩,_⟩:=I.list<|SqL.of h1;obtain⟨as,q⟩:=jT I ds xs NH h2 rv;exact⟨a::as,.list e1 e2 e4<|by simpa using q⟩
 |.tuple ds,x,v,h,r=>by
  obtain⟨a,xs,e,h1,h2⟩:=ax h;subst e;cases r;obtain⟨NH,rv,⟨o,e1,e2,n,e4⟩,_⟩:=I.tuple<|SqT.of h1;obtain⟨as,q⟩:=jT I ds xs NH h2 rv;exact⟨as,.tuple e1 e2 e4<|by simpa using q⟩
 |.dict _,x,v,h,_=>by
  unfold RD at h;exact h.elim
theorem jT(I:Inv X LO σ H s):∀ds xs vs,c9 H ds xs->Vals xs vs->∃as,WO s.heap vs ds as
 |[],xs,vs,h,r=>by
  rw[bV h]at r;cases r;exact⟨[],.nil⟩
 |d::ds,xs,vs,h,r=>by
  obtain⟨y,ys,e,h1,h2⟩:=ar h;subst e;cases r with
  |cons r1 r2=>
   obtain⟨as,q1⟩:=cS I d y _ h1 r1;obtain⟨bs,q2⟩:=jT I ds ys _ h2 r2;exact⟨as++bs,.cons q1 q2⟩
end
inductive Jr (x y:V)(H:Hp)(Q:VK):Prop
 |mk (da db:Mc)(ra:RD H da x)(rb:RD H db y)(sa:NJ da=LI)(sb:NJ db=LI)(q:Q (.bl<|MU da db) H):Jr x y H Q
inductive Js (x y:V)(H:Hp)(Q:VK):Prop
 |mk (da db:Mc)(ra:RD H da x)(rb:RD H db y)(sa:NJ da=LI)(sb:NJ db=LI)(q:Q (.bl (!MU da db)) H):Js x y H Q
def Jt:R2:=λx y H Q=>Jr x y H Q
def GX:R2:=λx y H Q=>Js x y H Q
theorem GY(hu:X.A.units+64 < PU):OpR X (NG .Eq) Jt:=by
 intro LO s σ H x y v u Q I rx ry h;obtain⟨da,db,ra,rb,sa,sb,q⟩:=h;obtain⟨as,qa⟩:=cS I da x v ra rx;obtain⟨bs,qb⟩:=cS I db y u rb ry;exact eq_dataH qa qb sa sb hu ⟨.bl _,H,I,rfl,q⟩
theorem GZ(hu:X.A.units+64 < PU):OpR X (NG .NotEq) GX:=by
 intro LO s σ H x y v u Q I rx ry h;obtain⟨da,db,ra,rb,sa,sb,q⟩:=h;obtain⟨as,qa⟩:=cS I da x v ra rx;obtain⟨bs,qb⟩:=cS I db y u rb ry;exact ne_dataH qa qb sa sb hu ⟨.bl _,H,I,rfl,q⟩
theorem aX(hu:X.A.units+64 < PU):OpR X (NG .Eq) (λx y H Q=>Lo x y H Q\/Jt x y H Q):=OpR.or IQ<|GY hu
theorem ic(hu:X.A.units+64 < PU):OpR X (NG .NotEq) (λx y H Q=>KN x y H Q\/GX x y H Q):=OpR.or IR<|GZ hu
theorem cx:dQ X (.builtin "isinstance") (λxs H Q=>∃x t c b,xs=[x,.ty c]/\ji X.K H x t/\Pj X.K t (.type c)=A' b/\Q (.bl b) H):=by
 intro LO s σ H xs us Q I r h;obtain⟨x,t,c,b,rfl,ty,e,q⟩:=h;obtain⟨u,w',rfl,rx,ry⟩:=E7 r;obtain rfl:w'=SI c:=ry;exact xK I rx ty e λtk=>⟨.bl b,H,I.tok _,rfl,q⟩
def df(T c:O3):LH Md:=if(SI T == SI c)=LI then A' LI else if PySem.W.kitMeta c=LI then(fastBuiltinMro T).map (·.contains (SI c))else LL
theorem aV{K:K'}{T c:O3}{b:Md}(h:df T c=A' b):Pj K (.type T) (.type c)=A' b:=h
def jU:Mc->O3
 |.none=>"NoneType"
 |.bool _=>"bool"
 |.int _=>"int"
 |.str _=>"str"
 |.list _=>"list"
 |.tuple _=>"tuple"
 |.dict _=>"dict"
theorem ma{K:K'}{H:Hp}:∀d v,RD H d v->ji K H v (.type<|jU d)
 |.none,v,h=>by
  unfold RD at h;subst h;exact .non
 |.bool b,v,h=>by
  unfold RD at h;subst h;exact .bl b
 |.int i,v,h=>by
  unfold RD at h;subst h;exact .int i
 |.str x,v,h=>by
  unfold RD at h;subst h;exact .str x
 |.list ds,v,h=>by
  obtain⟨a,xs,e,h1,_⟩:=eM h;subst e;exact .lst h1
 |.tuple ds,v,h=>by
  obtain⟨a,xs,e,h1,_⟩:=ax h;subst e;exact .tup h1
 |.dict _,v,h=>by
  unfold RD at h;exact h.elim
def G0:Mc->Md
 |.tuple _=>LI
 |_=>LM
def pQ:Mc->Md
 |.int _=>LI
 |.bool _=>LI
 |_=>LM
def pR:Mc->Md
 |.bool _=>LI
 |_=>LM
def iH:Mc->Md
 |.dict _=>LI
 |_=>LM
theorem zO:df "NoneType" "tuple"=A' LM/\df "bool" "tuple"=A' LM/\df "int" "tuple"=A' LM/\df "str" "tuple"=A' LM/\df "list" "tuple"=A' LM/\df "tuple" "tuple"=A' true:=by
 refine⟨?_,?_,?_,?_,?_,?_⟩<;>decide+kernel
theorem G_:df "NoneType" "int"=A' LM/\df "bool" "int"=A' LI/\df "int" "int"=A' LI/\df "str" "int"=A' LM/\df "list" "int"=A' LM/\df "tuple" "int"=A' false:=by
 refine⟨?_,?_,?_,?_,?_,?_⟩<;>decide+kernel
theorem DC:df "NoneType" "bool"=A' LM/\df "bool" "bool"=A' LI/\df "int" "bool"=A' LM/\df "str" "bool"=A' LM/\df "list" "bool"=A' LM/\df "tuple" "bool"=A' false:=by
 refine⟨?_,?_,?_,?_,?_,?_⟩<;>decide+kernel
theorem jV{K:K'}(d:Mc)(h:iH d=LM):Pj K (.type<|jU d) (.type "tuple")=A' (G0 d):=by
 obtain⟨h1,h2,h3,h4,h5,h6⟩:=zO;cases d with
 |none=>exact aV h1
 |bool _=>exact aV h2
 |int _=>exact aV h3
 |str _=>exact aV h4
 |list _=>exact aV h5
 |tuple _=>exact aV h6
 |dict _=>cases h
theorem DD{K:K'}(d:Mc)(h:iH d=LM):Pj K (.type<|jU d) (.type "int")=A' (pQ d):=by
 obtain⟨h1,h2,h3,h4,h5,h6⟩:=G_;cases d with
 |none=>exact aV h1
 |bool _=>exact aV h2
 |int _=>exact aV h3
 |str _=>exact aV h4
 |list _=>exact aV h5
 |tuple _=>exact aV h6
 |dict _=>cases h
theorem zP{K:K'}(d:Mc)(h:iH d=LM):Pj K (.type<|jU d) (.type "bool")=A' (pR d):=by
 obtain⟨h1,h2,h3,h4,h5,h6⟩:=DC;cases d with
 |none=>exact aV h1
 |bool _=>exact aV h2
 |int _=>exact aV h3
 |str _=>exact aV h4
 |list _=>exact aV h5
 |tuple _=>exact aV h6
 |dict _=>cases h
theorem fA(h:RD H d v):iH d=false:=by
 cases d with
 |dict _=>
  unfold RD at h;exact h.elim
 |_=>rfl
def DE:V->gV V->Hp->VK->Prop:=λx vs H Q=>∃l xs i y,x=.ref l/\vs=[.int i,y]/\H l=A' (.lst xs)/\0<=i/\i<=xs.length/\xs.length < sizeLine/\Q .non (upd H l<|.lst<|xs.take i.toNat++y::xs.drop i.toNat)
theorem xT:Io X "list.insert" DE:=by
 intro LO s σ H x vs v us Q I rx rv h;obtain⟨l,xs,i,y,rfl,rfl,hH,h0,h1,hz,q⟩:=h;cases rx;obtain⟨u1,u2,rfl,⟨t,rfl⟩,ry⟩:=E7 rv;obtain⟨z,NH,n,r,hl,e⟩:=I.lstM hH;have hs:(sizeLine:Nat)=16777216:=NT;have ahP:¬(!Yw i)=true:=by
  rw[fitsIndex_both (by lia)<|by lia];exact Mb
 refine Qa U3 ⟨_,e,rfl⟩ F.entry_list_insert (F.args_list_insert_3 _ _ _) (VN l NH.toArray n i t u2 ahP<|by rw[Mf];lia) ⟨e,?_⟩;refine⟨.non,_,I.lset (its':=NH.take i.toNat++u2::NH.drop i.toNat) hH e ?_ ((r.take _).append<|.cons ry<|r.drop _) ?_,rfl,q⟩
 ·have h2:¬i < 0:=by lia
  have h3:min i.toNat NH.toArray.size=i.toNat:=by rw[Mf];lia
  show(NH.toArray.extract 0 (if i < 0 then(i+((NH.toArray.size:Nat):Int)).toNat else min i.toNat NH.toArray.size)).push u2++NH.toArray.extract (if i < 0 then(i+((NH.toArray.size:Nat):Int)).toNat else min i.toNat NH.toArray.size)=_
  rw[Mi h2,h3];apply RT.mp;simp;exact L8 (by simp)
 ·rw[LX,L4,ME,N6];lia
structure Fn (P:Mm)(w:MK)(K:K')(mg:Str->LH LF)(base:M8)(k:Nat)(x:Str)(f:LJ)(fd:Ms)(ps:gV Str)(sp:Sp):Prop where
 ok:FnOk P w K mg base b7 k f fd ps sp
 b:Binds K fd ps []
 kp:Pk K (.ref f)=LI
 at_:mg x=A' (.ref f)
theorem aG{X:Cx}{j:Nat}{k:Nat}{f:LJ}{fd:Ms}{ps:gV Str}{sp:Sp}{x:Str}{p:Pos}{pos:Pos}{e:Nt}{es:gV Nt}{t:TA}(G:Fn X.prog X.w X.K X.mg X.base j x f fd ps sp)(hr:Room k X.A)(hjk:j<=k)(hg:Gl X x)(ha:PA X (e::es) t)(hdb:(x == ("__debug__":Str))=false:=by decide)
  (he:MT (e::es) X.env=(LM,Oj e X.env)::MT es X.env:=by rfl) (X3:(O_ pos<|MT es X.env).any (·.1)=false:=by rfl):PE X (.Call (.Name x p) (e::es) [] pos) (qX sp [] E0 t):=
 pL G.ok (hr.mono hjk) hg G.at_ G.kp G.b .nil vR ha hdb he X3
theorem ag(h:H p=LL)(o:HO):Same H (upd H p o):=λb u q=>by rw[al<|ak q h];exact q
theorem Same.upd_new(k:Same H0 H)(h:H0 p=LL)(o:HO):Same H0 (upd H p o):=λb u q=>by rw[al<|ak q h];exact k b u q
theorem uw{α:Type}{xs:gV α}{i:Int}(h0:0<=i)(h1:i < xs.length):∃v,xs[i.toNat]? =A' v/\kL xs i=A' v:=by
 have hk:i.toNat < xs.length:=by lia
 have ek:i=((i.toNat:Nat):Int):=by lia
 have q:kL xs ((i.toNat:Nat):Int)=A' xs[i.toNat]:=cb<|LU hk;rw[<-ek]at q;exact⟨_,LU hk,q⟩
theorem zQ{ns:gV Int}{i:Int}(h0:0<=i)(h1:i < ns.length):∃v,ns[i.toNat]? =A' v/\kL (ns.map V.int) i=A' (.int v):=by
 obtain⟨v,h2,h3⟩:=uw (xs:=ns.map V.int) h0 (by rw[J'];exact h1);rw[Mp]at h2;cases e:ns[i.toNat]? with
 |none=>rw[e]at h2;cases h2
 |some z=>
  rw[e]at h2;have h2':V.int z=v:=by simpa using h2
  subst h2';exact⟨z,rfl,h3⟩
def AllIn(f:Str->LH LJ):gV (Str×LJ)->Prop
 |[]=>True
 |p::r=>f p.1=A' p.2/\AllIn f r
theorem AllIn.look:∀{cl:gV (Str×LJ)},AllIn f cl->∀{y:Str} {c:LJ},cl.lookup y=A' c->f y=A' c
 |[],_,y,c,e=>by cases e
 |(n,a)::r,h,y,c,e=>by
  rw[List.lookup_cons]at e;cases q:(y == n)with
  |true=>
   rw[q]at e;have e1:y=n:=eq_of_beq q;have e2:a=c:=MC e;rw[e1,<-e2];exact h.1
  |false=>
   rw[q]at e;exact AllIn.look h.2 e
def cA(X:Cx)(scope:QP)(cl:gV (Str×LJ))(NY:gV Str)(C:LJ)(fp:gV LJ)(s₀:LR)(H₀:Hp):Cx where
 prog:=X.prog
 w:=X.w
 K:=X.K
 mg:=X.mg
 base:=X.base
 A:=X.A
 N:=NY
 s₀:=s₀
 H₀:=H₀
 env:=WK scope (Ni (C+1) scope.names cl) C X.env
 outer:=X.stack
 stack:=X.stack
 ex:=fp
 fn:=λx=>(cl.lookup x).isNone
 calm:=X.calm
 pn:=[]
 xe:=λ_ _=>False
structure CompSc (X:Cx)(scope:QP)(cl:gV (Str×LJ))(NY:gV Str)(idx:gV (LH Nat)):Prop where
 clos:closureFor scope X.env=pure cl
 all:AllIn (λy=>X.env.cells.lookup y) cl
 c2:∀n,((Q6 scope X.env).names.all λq=>!(decide (q.2=.cell) || decide (q.2=.free)) || ((Ni n scope.names cl).lookup q.1).isSome)=LI
 ix:((NY.zip idx).all λp=>match p.2 with
  |none=>LI
  |some i=>decide (X.N[i]? =A' p.1)&&(decide (X.env.kindOf p.1=A' .cell) || decide (X.env.kindOf p.1=A' .free))&&(decide ((Q6 scope X.env).names.lookup p.1=A' .cell) || decide ((Q6 scope X.env).names.lookup p.1=A' .free))&&(scope.names.all λq=>!decide (q.2=.cell) || !decide (q.1=p.1)))=LI
 len:idx.length=NY.length
 kind:scope.kind=.function
 names:∀y∈scope.names,y.2=.local->scope.names.lookup y.1=A' .local
theorem cI:∀names n O0,Ni n names O0=Ni n names []++O0
 |[],_,_=>rfl
 |(x,k)::r,n,O0=>by
  unfold Ni
  split
  ·rw[cI r (n+1)<|(x,n)::O0,cI r (n+1) [(x,n)],MN];rfl
  ·exact cI r n O0
theorem jW:∀{names:gV (Str×SM)} {n:Nat} {y:Str} {c:LJ},(y,c)∈Ni n names []->(y,QY)∈names
 |(x,k)::r,n,y,c,h=>by
  unfold Ni at h
  split at h
  ·rename_i hk;rw[cI]at h;obtain h|h:=Mt.mp h
   ·exact LY _<|jW h
   ·cases LN.mp h;rw[eq_of_beq hk];exact L9
  ·exact LY _<|jW h
theorem md(h:(Ni n names cl).lookup y=A' c):(y,c)∈Ni n names []\/cl.lookup y=A' c:=by
 rw[cI,Wr]at h;cases e:(Ni n names []).lookup y with
 |some d=>
  rw[e]at h;cases h;exact .inl<|N7 e
 |none=>
  rw[e]at h;exact .inr h
theorem zR(hn:∀q∈names,q.2=QY->q.1≠y):(Ni n names cl).lookup y=cl.lookup y:=by
 rw[cI,Wr];cases e:(Ni n names []).lookup y with
 |some d=>exact absurd rfl<|hn _ (jW<|N7 e) rfl
 |none=>rfl
theorem iU{M:aaH}{A:Nl}{E:LF->LR->Prop}{s:LR}{scope:QP}{globals:LJ}{abF:gV (Str×LJ)}{qual:Str}{outer:Env}{Q:Env->LR->Prop}
  (hQ:∀h',h'.Ns s.heap.objs.size (λ_=>LL)->(∀b o,s.heap.get? b=A' o->h'.get? b=A' o)->Z4 h' (s.heap.objs.size+1) (Ni (s.heap.objs.size+1) scope.names [])->
   Q (newEnv scope s.heap.objs.size globals (Ni (s.heap.objs.size+1) scope.names abF) qual LL .none (A' outer) outer.builtins) {s with heap:=h'}):
  wpAny M A (SD scope globals abF [] qual LL .none<|A' outer) Q E s:=by
 simp only [SD,Wl,Sk];refine LG<|wpAny_alloc ?_;refine LG<|wpAny_layCells _ (λname kind cells=>by cases hkc:kind == QY<;>simp [hkc]) _ _ _ _ ?_;have ok:=cellsFrom_ok scope.names (s.heap.push {cls:=.type "dict",data:=.dict #[]}) (s.heap.objs.size+1) [] ⟨λ_ _ hm=>(nomatch hm),TB⟩ (by rw[P0];exact LQ _);rw[P0]at ok;rw[show({s with heap:=s.heap.push {cls:=.type "dict",data:=.dict #[]}}:LR).heap.objs.size=s.heap.objs.size+1 from P0 ..];refine LG ?_;rw[List.forIn_nil];exact Me<|Me<|hQ _ ((Heap.Ns.new s.heap<|.type "dict").keeps<|XS _ _) (λb o e=>XS _ _ b o<|LP _ e) ok
def zT(idx:gV (LH Nat))(σ:St):St:=idx.map λo=>match o with
 |none=>LL
 |some i=>(σ[i]?).getD LL
theorem CompSc.look(S:CompSc X scope cl NY idx)(n:Nat)(h:(Q6 scope X.env).names.lookup y=A' .cell\/(Q6 scope X.env).names.lookup y=A' .free):∃c,(Ni n scope.names cl).lookup y=A' c:=by
 have hm:∃k,(y,k)∈(Q6 scope X.env).names/\(k=.cell\/k=.free):=by
  obtain h|h:=h
  ·exact⟨_,N7 h,.inl rfl⟩
  ·exact⟨_,N7 h,.inr rfl⟩
 obtain⟨k,hk,hkk⟩:=hm;have q:=Mu.mp (S.c2 n) _ hk;have e:(decide (k=QY) || decide (k=Zc))=true:=by
  obtain rfl|rfl:=hkk
  ·rfl
  ·rfl
 have q':(!(decide (k=QY) || decide (k=Zc)) || ((Ni n scope.names cl).lookup y).isSome)=true:=q;rw[e]at q';exact O1.mp q'
theorem ri{fp:gV LJ}{h₁:M8}{m:Str->LH LF}{tk:Nat}(S:CompSc X scope cl NY idx)(I:Inv X LO σ H s)
  (f2:∀b∈fp,lS X LO H b) (hfl:∀b∈fp,b < s.heap.objs.size) (Xa:h₁.Ns s.heap.objs.size m) (old:∀b o,s.heap.get? b=A' o->h₁.get? b=A' o) (Qx:Z4 h₁ (s.heap.objs.size+1) (Ni (s.heap.objs.size+1) scope.names [])):
  Inv (cA X scope cl NY s.heap.objs.size fp s H) [] (zT idx σ) H {s with heap:=h₁,toks:=tk}:=by
 have hC:H s.heap.objs.size=none:=I.hok.fresh<|LQ _;have V4:∀{x:Str} {c:LJ},cl.lookup x=A' c->X.env.cells.lookup x=A' c:=λe=>S.all.look e;have aeu:∀{x:Str} {c:LJ},X.env.cells.lookup x=A' c->c < s.heap.objs.size:=λ{x c} e=>by
  obtain⟨v,z⟩:=I.cell x c e;exact z.lt
 have two:∀{x:Str} {c:LJ},(Ni (s.heap.objs.size+1) scope.names cl).lookup x=A' c->((x,c)∈Ni (s.heap.objs.size+1) scope.names []/\s.heap.objs.size < c/\h₁.IsCell c LL)\/(X.env.cells.lookup x=A' c/\c < s.heap.objs.size):=λ{x c} e=>by
  obtain h|h:=md e
  ·exact .inl ⟨h,(Qx.empty x c h).2,(Qx.empty x c h).1⟩
  ·exact .inr ⟨V4 h,aeu<|V4 h⟩
 have inj:∀x y c,(Ni (s.heap.objs.size+1) scope.names cl).lookup x=A' c->(Ni (s.heap.objs.size+1) scope.names cl).lookup y=A' c->x=y:=λx y c h1 h2=>by
  obtain a|a:=two h1<;>obtain b|b:=two h2
  ·exact name_of_addr Qx.apart a.1 b.1
  ·exact absurd (UL a.2.1 b.2)<|Om _
  ·exact absurd (UL b.2.1 a.2)<|Om _
  ·exact I.ok.inj x y c a.1 b.1
 have ne:∀b∈fp,∀x c,(Ni (s.heap.objs.size+1) scope.names cl).lookup x=A' c->c≠b:=λb hb x c e=>by
  obtain a|a:=two e
  ·exact PH<|UL (hfl b hb) a.2.1
  ·exact(f2 b hb).2.2.2.2.1 x c a.1
 have fr:∀x c,(Ni (s.heap.objs.size+1) scope.names cl).lookup x=A' c->H c=none:=λx c e=>by
  obtain a|a:=two e
  ·exact I.hok.fresh<|Nx a.2.1
  ·exact I.freeC x c a.1
 have cab:∀x c,(cl.lookup x).isNone=LI->(Ni (s.heap.objs.size+1) scope.names cl).lookup x=A' c->s.heap.objs.size<=c:=λx c hf e=>by
  obtain h|h:=md e
  ·exact W2 (Qx.empty x c h).2
  ·rw[h]at hf;cases hf
 refine⟨⟨I.ok.mod,?_,I.ok.glob,I.ok.blt,LQ _,inj,λx hx=>S.look _ hx,cab,I.ok.hd,I.ok.frames,.inl rfl,λb hb=>⟨Mx<|hfl b hb,ne b hb⟩,
  I.bs,MD I.ok.bsz I.sz,λb o e hb=>?_,λb hb hz=>?_,I.stack,I.stkFree⟩,rfl,I.bare,Un.kept old,⟨m,Xa,λj y v h1 h2 h3=>?_⟩,λx c e=>?_,hC,fr,λp hp=>absurd (show p∈([]:gV (LJ×Obj))from hp) (by simp),I.hok.kept old,?_⟩
 ·exact S.kind
 ·obtain z|z:=(f2 b hb).2.2.2.1
  ·exact I.ok.noex b o e z
  ·exact absurd (Nb (Mj e)<|MD I.ok.bsz z)<|Om _
 ·obtain e|e:=Mn.mp (I.stkSub b hz)
  ·exact(f2 b hb).2.1 e
  ·exact(f2 b hb).2.2.1 e
 ·
  have h2':(zT idx σ)[j]? =A' (A' v):=h2;unfold zT at h2';rw[Mp]at h2';cases ej:idx[j]? with
  |none=>rw[ej]at h2';cases h2'
  |some o=>
   rw[ej]at h2';cases o with
   |none=>cases h2'
   |some i=>
    have e3:(σ[i]?).getD LL=A' v:=by simpa using h2'
    have e4:σ[i]? =A' (A' v):=by
     cases q:σ[i]? with
     |none=>rw[q]at e3;cases e3
     |some z=>
      rw[q]at e3;exact M0 A' e3
    have hz:(NY.zip idx)[j]? =A' (y,A' i):=by
     rw[List.getElem?_zip_eq_some];exact⟨h1,ej⟩
    have q:=Mu.mp S.ix _<|LZ hz;have q':(decide (X.N[i]? =A' y)&&(decide (X.env.kindOf y=A' .cell) || decide (X.env.kindOf y=A' .free))&&(decide ((Q6 scope X.env).names.lookup y=A' .cell) || decide ((Q6 scope X.env).names.lookup y=A' .free))&&(scope.names.all λq=>!decide (q.2=.cell) || !decide (q.1=y)))=true:=q;rw[MO,MO,MO,NL,NL]at q';obtain⟨⟨⟨q1,q2⟩,q3⟩,q4⟩:=q';have q5:∀q∈scope.names,q.2=QY->q.1≠y:=λq hq e1 e2=>by
     have:=Mu.mp q4 q hq;rw[Ma e1,Ma e2]at this;cases this
    have q1':=My q1;have q2':X.env.kindOf y=A' .cell\/X.env.kindOf y=A' .free:=q2.elim (λz=>.inl<|My z) λz=>.inr<|My z;have q3':(Q6 scope X.env).names.lookup y=A' .cell\/(Q6 scope X.env).names.lookup y=A' .free:=q3.elim (λz=>.inl<|My z) λz=>.inr<|My z;obtain⟨mX,_,hl⟩:=I.loc;obtain⟨u,ru,lk⟩:=hl i y v q1' e4<|.inr q2';refine⟨u,ru,.inr ⟨q3',?_⟩⟩;obtain⟨c,hc0⟩:=S.look (s.heap.objs.size+1) q3';have hc:=hc0;rw[zR q5]at hc;obtain⟨hk,_⟩|⟨_,c',hc',ZA⟩:=lk
    ·obtain z|z:=q2'
     ·rw[hk]at z;cases z
     ·rw[hk]at z;cases z
    ·have e5:=V4 hc;rw[hc']at e5;cases e5;obtain⟨oc,ho,hd⟩:=ZA;exact⟨_,hc0,oc,old _ _ ho,hd⟩
 ·obtain a|a:=two e
  ·exact⟨LL,a.2.2⟩
  ·obtain⟨v,oc,ho,hd⟩:=I.cell x c a.1;exact⟨v,oc,old _ _ ho,hd⟩
 ·unfold zT;rw[J'];exact S.len
def Fo(Y:Cx)(W':gV Nt)(t:TT):Prop:=
 ∀(LO:gV (LJ×Obj)) (s:LR) (σ:St) (H:Hp) (Q:Md->Hp->Prop),Inv Y LO σ H s->t σ H Q->
  wpAny (MB Y.prog Y.w) Y.A (forIn W' LI λc r=>if r=LI then do let ok <-isTrue c Y.env<|Oj c Y.env;pure (Px ok)else pure (Px r)) (TP Y LO σ Q) Y.xe s
def Fp:TT:=λ_ H Q=>Q LI H
theorem bS{A B:St->Hp->Prop}(h:A (σ.set i<|A' x) H):gh i x σ H (λσ3 H3=>Fp σ3 H3 λb H4=>if b=LI then A σ3 H4 else B σ3 H4):=by
 show(if LI=LI then A (σ.set i<|A' x) H else B (σ.set i<|A' x) H)
 exact aJ h
theorem bJ:Fo Y [] Fp:=λLO s σ H Q I h=>wpAny_tests_nil ⟨H,I,h⟩
theorem fw(h:PT Y c t):Fo Y [c] t:=λLO s σ H Q I hw=>wpAny_tests_one<|h LO s σ H Q I hw
def gi(J:It)(D:LJ)(g:TG)(tt:TT)(te:TE)(σ0:St)(H1:Hp)(Q:VK):Prop:=
 ∃W:Nat->Nat->St->gV V->Hp->Prop,(∃m,W 0 m σ0 []<|upd H1 D<|.lst [])/\∀i m σ ys H,W i m σ ys H->H D=A' (.lst ys)/\
  ((J.stop i H/\Q (.ref D) H)\/(J.go i H/\∃N:St->gV V->Hp->Prop,(∀σ' ys' H',N σ' ys' H'->∃m',m' < m/\W (i+1) m' σ' ys' H')/\
   ∀x H2,J.yld i H x H2->g x σ H2 λσ3 H3=>tt σ3 H3 λb H4=>if b=LI then te σ3 H4 λy H5=>H5 D=A' (.lst ys)/\ys.length < sizeLine/\N σ3 (ys++[y]) (upd H5 D<|.lst<|ys++[y])else N σ3 ys H4))
def rj(idx:gV (LH Nat))(wi:TI)(g:TG)(tt:TT)(te:TE):TE:=λσ H Q=>wi σ H λJ H1=>∀D,H1 D=LL->gi J D g tt te (zT idx σ) H1 Q
section
variable {R:Vi->LR->Prop}
theorem ie{XD Od Qy:Nt}{W':gV Nt}{scope:QP}{pos:Pos}{it O0:LF}{env:Env}(I:Nat->LR->Prop)
  (V0:∀n s,I n s->wpAny (MB prog w) A (TR it) (λr s₁=>match r with
   |none=>R (.ok .next) s₁
   |some v=>wpAny (MB prog w) A (Qj Od it v) (λ_ s₀=>wpAny (MB prog w) A (Wa Od env v) (λ_ s₂=>
     wpAny (MB prog w) A (forIn W' LI λc r=>if r=LI then do let ok <-isTrue c env<|Oj c env;pure (Px ok)else pure (Px r)) (λok s₃=>
      if ok=LI then wpAny (MB prog w) A (Oj XD env) (λx s₄=>
       wpAny (MB prog w) A (call (.builtin "list.append") [O0,x]) (λ_ s₅=>∃m,m < n/\I m s₅) (λ_ _=>False) s₄) (λ_ _=>False) s₃
      else∃m,m < n/\I m s₃) (λ_ _=>False) s₂) (λ_ _=>False) s₀) (λ_ _=>False) s₁) (λ_ _=>False) s)
  (n:Nat) (h:I n s):
  codeAny (MB prog w) A (.compLoop (.ListComp XD [⟨Od,Qy,W',0⟩] scope pos) 0 it O0 env) R s:=by
 refine codeAny_loop rfl I (λn s hI=>?_) n h;show wpAny _ A ((compTurn (.ListComp XD [⟨Od,Qy,W',0⟩] scope pos) 0 it O0 env).onRaise (λx=>do ZG x env;XR x)) _ _ s
 refine wpAny_noted ?_;rw[Y9];have no:∀{α:Type} {t:Sem α} {Q:α->LR->Prop} {E:LF->LR->Prop} {s:LR},wpAny (MB prog w) A t Q (λ_ _=>False) s->wpAny (MB prog w) A t Q E s:=λhq=>Nv hq (λ_ _ z=>z) λ_ _ z=>z.elim;refine LG<|VW<|LG<|Nv (V0 n s hI) (λr s₁ h₁=>?_) λ_ _ h'=>h'.elim;cases r with
 |none=>exact Me h₁
 |some v=>
  refine LG<|Nv h₁ (λ_ s₀ h₀=>?_) λ_ _ h'=>h'.elim;refine LG<|Nv h₀ (λ_ s₂ h₂=>LG<|Nv h₂ (λok s₃ h₃=>?_) λ_ _ h'=>h'.elim) λ_ _ h'=>h'.elim;cases ok with
  |false=>exact Me ⟨rfl,h₃⟩
  |true=>
   exact LG<|LG<|Nv h₃ (λx s₄ h₄=>LG<|Nv h₄ (λ_ s₅ h₅=>Me<|Me ⟨rfl,h₅⟩) λ_ _ h'=>h'.elim) λ_ _ h'=>h'.elim
end
structure CompEnd (X:Cx)(LO:gV (LJ×Obj))(σ:St)(H:Hp)(C:LJ)(s:LR):Prop where
 inv:Inv X LO σ H s
 ns:∃m,s.heap.Ns C m
 free:H C=LL
 loc:C≠X.env.locals
 young:X.s₀.heap.objs.size<=C
 cells:∀x c,X.env.cells.lookup x=A' c->c≠C
 pin:∀p∈X.pn++LO,p.1≠C
theorem CompEnd.gone(e:CompEnd X LO σ H C s)(hs:PD C s.heap h'):Inv X LO σ H {s with heap:=h'}:=
 e.inv.turned (t':=s.toks) (λb o hb q=>(hs.2 b hb).trans q) e.free e.loc (.inr e.young) e.cells e.pin
theorem rm{LO:gV (LJ×Obj)}{σ:St}{H:Hp}{s:LR}{Q:VK}{RR:LF->LJ->Vi->LR->Prop}(XB:X.calm=LI)(S:CompSc X scope cl NY idx)(hi:PI X Od Qy wi)
  (hg:∀C fp s₀ H₀,PG (cA X scope cl NY C fp s₀ H₀) Od g) (ht:∀C fp s₀ H₀,Fo (cA X scope cl NY C fp s₀ H₀) W' tt) (he:∀C fp s₀ H₀,PE (cA X scope cl NY C fp s₀ H₀) XD te)
  (I:Inv X LO σ H s) (h:rj idx wi g tt te σ H Q)
  (hRR:∀D C H' s',CompEnd X LO σ H' C s'->Q (.ref D) H'->RR (.ref D) C (.ok .next) s'):
  wpAny (MB X.prog X.w) X.A (Oj Qy X.env) (λx s₁=>wpAny (MB X.prog X.w) X.A (Xh x) (λit s₂=>wpAny (MB X.prog X.w) X.A (ZY []) (λO0 s₃=>
   wpAny (MB X.prog X.w) X.A (SD scope X.env.globals cl [] X.env.qual LL .none<|A' X.env) (λabf s₄=>
    codeAny (MB X.prog X.w) X.A (.compStart (.ListComp XD [⟨Od,Qy,W',0⟩] scope pos) 0 it O0 {abf with scope:=Q6 scope X.env}) (RR O0 abf.locals) s₄) X.xe s₃) X.xe s₂) X.xe s₁) X.xe s:=by
 refine bG (hi LO s σ H _ I h) λv s1 h1=>bG h1 λitv s2 h2=>?_;obtain⟨it,fp,tn,J,H2,e,I2,T,PL,f2,r2⟩:=h2;subst e;have hD:H2 s2.heap.objs.size=none:=I2.hok.fresh<|LQ _;have r3:=r2 s2.heap.objs.size hD;have I3:Inv X LO σ (upd H2 s2.heap.objs.size<|.lst []) {s2 with heap:=s2.heap.push {cls:=.type "list",data:=.seq ([]:gV LF).toArray}}:=
  I2.laid (t':=s2.toks) (λb u q=>LP _ q) (LQ _) ⟨Mw _,[],0,.nil,MG _ rfl⟩
 refine N_<|iU λh₁ Xa hsb Qx=>?_;dsimp only at Xa hsb Qx ⊢;have acv:∀b∈fp,b < s2.heap.objs.size:=λb hb=>by
  obtain⟨o,q,_⟩:=T.obj 0 _ PL b hb;exact Mj q
 have neD:∀b∈fp,b≠s2.heap.objs.size:=λb hb=>Mx<|acv b hb;have f3:∀b∈fp,lS X LO (upd H2 s2.heap.objs.size<|.lst []) b:=λb hb=>⟨by rw[al<|neD b hb];exact(f2 b hb).1,(f2 b hb).2⟩;generalize hs3:({s2 with heap:=s2.heap.push {cls:=.type "list",data:=.seq ([]:gV LF).toArray}}:LR)=s3 at I3;have es3:s3.heap=s2.heap.push {cls:=.type "list",data:=.seq ([]:gV LF).toArray}:=by rw[<-hs3]
 have hfl:∀b∈fp,b < s3.heap.objs.size:=λb hb=>by
  rw[es3,P0];exact OJ<|acv b hb
 have ad_:h₁.Ns s3.heap.objs.size (λ_=>LL):=by rw[es3];exact Xa
 have old:∀b o,s3.heap.get? b=A' o->h₁.get? b=A' o:=λb o q=>by
  rw[es3]at q;exact hsb b o q
 have aej:Z4 h₁ (s3.heap.objs.size+1) (Ni (s3.heap.objs.size+1) scope.names []):=by rw[es3];exact Qx
 have V1:tn 0 h₁:=T.keep _ _ _ PL λb hb o q=>old b o (by rw[es3];exact LP _ q);have IY0:=ri (tk:=s2.toks) S I3 f3 hfl ad_ old aej;have e4:({s3 with heap:=h₁,toks:=s2.toks}:LR)={s2 with heap:=h₁,toks:=s2.toks}:=by rw[<-hs3]
 rw[e4]at IY0;have eC:s3.heap.objs.size=(s2.heap.push {cls:=.type "list",data:=.seq ([]:gV LF).toArray}).objs.size:=by rw[es3]
 have hC3:s3.heap.get? s3.heap.objs.size=none:=R1<|LQ _;obtain⟨W,⟨m0,w0⟩,V0⟩:=r3;have adR:∀s4,s4={s2 with heap:=h₁,toks:=s2.toks}->
   codeAny (MB X.prog X.w) X.A (.compLoop (.ListComp XD [⟨Od,Qy,W',0⟩] scope pos) 0 (.ref it) (.ref s2.heap.objs.size)<|WK scope (Ni (s3.heap.objs.size+1) scope.names cl) s3.heap.objs.size X.env) (RR (.ref s2.heap.objs.size) s3.heap.objs.size) s4:=by
  rintro s4 rfl;have X_:∀{H':Hp},(∀b∈fp,H' b=LL)->∀b∈fp,lS (cA X scope cl NY s3.heap.objs.size fp s3<|upd H2 s2.heap.objs.size<|.lst []) [] H' b:=λ{H'} hn b hb=>
   ⟨hn b hb,Mx<|hfl b hb,(λz=>(IY0.ok.exfs b hb) z),.inl hb,λx c e=>(IY0.ok.exf b hb).2 x c e,λp hp=>absurd (show p∈([]:gV (LJ×Obj))from hp)<|by simp⟩
  refine ie (λn s'=>∃i σ' ys H',Inv (cA X scope cl NY s3.heap.objs.size fp s3<|upd H2 s2.heap.objs.size<|.lst []) [] σ' H' s'/\tn i s'.heap/\(∀b∈fp,H' b=LL)/\W i n σ' ys H') ?_ m0
   ⟨0,_,[],_,IY0,V1,λb hb=>(f3 b hb).1,w0⟩
  rintro n s5 ⟨i,σ5,ys,H5,I5,st5,fr5,w5⟩;obtain⟨abe,alt⟩:=V0 i n σ5 ys H5 w5;obtain⟨stop,qn⟩|⟨go,N,hN,step⟩:=alt
  ·refine bG (T.done (cA X scope cl NY s3.heap.objs.size fp s3<|upd H2 s2.heap.objs.size<|.lst []) rfl rfl rfl XB i [] s5 σ5 H5 (λ_ _=>False) I5 (X_ fr5) st5 stop) λr s6 ⟨hr,I6⟩=>?_;subst hr;have I7:Inv X LO σ H5 s6:=I3.call' (s':=s6) (ch:=fp) I6.os I6.base I6.hok I6.bare λb hb=>⟨(f3 b hb).2.2.2.1,(f3 b hb).2.1,(f3 b hb).2.2.2.2.1,(f3 b hb).2.2.2.2.2⟩;refine hRR _ _ H5 s6 ⟨I7,?_,I6.free,PH I3.lt,I3.sz,λx c e=>?_,λp hp z=>?_⟩ qn
   ·obtain⟨m,hn,_⟩:=I6.loc;exact⟨m,hn⟩
   ·obtain⟨v,q⟩:=I3.cell x c e;exact Mx q.lt
   ·have q:=(I3.pin p hp).1;rw[z,hC3]at q;cases q
  ·refine bG (T.item (cA X scope cl NY s3.heap.objs.size fp s3<|upd H2 s2.heap.objs.size<|.lst []) rfl rfl rfl XB i [] s5 σ5 H5 (λ_ _=>False) I5 (X_ fr5) st5 go) λr s6 ⟨u,hr,h6⟩=>?_;subst hr;refine bG h6 λ_ s7 ⟨x,H7,I7,r7,y7,st7,fr7⟩=>?_;have I7':=I7.pinned (X_ fr7)<|T.obj _ _ st7;have acG:∀{σ8:St} {ys8:gV V} {H8:Hp} {s8:LR},Inv (cA X scope cl NY s3.heap.objs.size fp s3<|upd H2 s2.heap.objs.size<|.lst []) ([]++jP fp s7.heap) σ8 H8 s8->N σ8 ys8 H8->
     ∃m,m < n/\∃i σ' ys H',Inv (cA X scope cl NY s3.heap.objs.size fp s3<|upd H2 s2.heap.objs.size<|.lst []) [] σ' H' s8/\tn i s8.heap/\(∀b∈fp,H' b=LL)/\W i m σ' ys H':=λ{σ8 ys8 H8 s8} I8 n8=>by
    obtain⟨m',hm,w8⟩:=hN σ8 ys8 H8 n8;refine⟨m',hm,i+1,σ8,ys8,H8,I8.unpinned,T.keep _ _ _ st7 λb hb o e=>(I8.pin (b,o)<|MR _<|MR _<|dU hb e).1,λb hb=>?_,w8⟩;obtain⟨o,e,d⟩:=T.obj _ _ st7 b hb;exact(I8.pin (b,o)<|MR _<|MR _<|dU hb e).2.1
   refine bG (hg _ _ _ _ _ s7 σ5 H7 x u _ I7' r7<|step x H7 y7) λ_ s8 ⟨σ8,H8,I8,q8⟩=>?_;refine bG (ht _ _ _ _ _ s8 σ8 H8 _ I8 q8) λok s9 ⟨H9,I9,q9⟩=>?_;cases ok with
   |false=>exact aI<|acG I9 q9
   |true=>
    refine aJ ?_;refine bG (he _ _ _ _ _ s9 σ8 H9 _ I9 q9) λy s10 ⟨yv,H10,I10,r10,aeq,adZ,n10⟩=>?_;refine bG (bW _ s10 σ8 H10 (.ref s2.heap.objs.size) [yv] (.ref s2.heap.objs.size) [y] (λv H'=>v=.non/\H'=upd H10 s2.heap.objs.size (.lst<|ys++[yv])) I10 rfl (.cons r10 .nil) ⟨_,ys,yv,rfl,rfl,aeq,adZ,rfl,rfl⟩) λ_ s11 ⟨_,H11,I11,_,_,e11⟩=>?_;subst e11;exact acG I11 n10
 have e5:(WK scope (Ni (s3.heap.objs.size+1) scope.names cl) s3.heap.objs.size X.env)={newEnv scope (s2.heap.push {cls:=.type "list",data:=.seq ([]:gV LF).toArray}).objs.size X.env.globals (Ni ((s2.heap.push {cls:=.type "list",data:=.seq ([]:gV LF).toArray}).objs.size+1) scope.names cl) X.env.qual LL .none (A' X.env) X.env.builtins with scope:=Q6 scope X.env}:=by
  rw[es3];rfl
 have L1:=adR _ rfl;rw[eC]at L1;exact Uw L1<|T.self _ 0 _ _ _ V1 L1
theorem bp(XB:X.calm=LI)(S:CompSc X scope cl NY idx)(hi:PI X Od Qy wi)(hg:∀C fp s₀ H₀,PG (cA X scope cl NY C fp s₀ H₀) Od g)(ht:∀C fp s₀ H₀,Fo (cA X scope cl NY C fp s₀ H₀) W' tt)
  (he:∀C fp s₀ H₀,PE (cA X scope cl NY C fp s₀ H₀) XD te) (hs:∀x,Rm Qy X.env x=pure x:=by intro _;rfl):PE X (.ListComp XD [⟨Od,Qy,W',0⟩] scope pos) (rj idx wi g tt te):=by
 intro LO s σ H Q I h;rw[Y7];refine QW (use:=LL) rfl hs S.clos S.kind S.names ?_;refine rm (RR:=λO0 C=>Yo (MB X.prog X.w) X.A X.xe LL (EP X LO σ Q) O0 C) XB S hi hg ht he I h ?_;intro D C H' s' e q;obtain⟨m,hn⟩:=e.ns;exact⟨m,hn,λh' X2=>⟨.ref D,H',e.gone X2,rfl,q⟩⟩
def zU(i:Nat)(te:TE):TS:=λD σ H=>te σ H λv H1=>D.nx (σ.set i<|A' v) H1
theorem mf{VH aeU:Pos}(hN:X.N.Nodup)(hx:X.N[i]? =A' x)(hl:X.env.scope.names.lookup x=A' .local)(XB:X.calm=LI)(S:CompSc X scope cl NY idx)(hi:PI X Od Qy wi)
  (hg:∀C fp s₀ H₀,PG (cA X scope cl NY C fp s₀ H₀) Od g) (ht:∀C fp s₀ H₀,Fo (cA X scope cl NY C fp s₀ H₀) W' tt) (he:∀C fp s₀ H₀,PE (cA X scope cl NY C fp s₀ H₀) XD te)
  (hsw:VB (.ListComp XD [⟨Od,Qy,W',0⟩] scope pos) (A'<|.Name x VH) aeU.line X.env=pure LI) (hs:∀x,Rm Qy X.env x=pure x:=by intro _;rfl):
  PS X (.Assign [.Name x VH] (.ListComp XD [⟨Od,Qy,W',0⟩] scope pos) aeU) (zU i<|rj idx wi g tt te):=by
 intro LO s σ H D I h;rw[exec_Assign_Name_used _ _ _ _ hsw];refine LG<|VW<|LG ?_;show wpAny _ X.A (do let _ <-comprehension (.ListComp XD [⟨Od,Qy,W',0⟩] scope pos) scope X.env _ (ZY []) LM (Oj Qy X.env)<|A'<|Wa (.Name x VH) X.env) _ _ s
 refine LG<|Nv (QW (use:=A'<|Wa (.Name x VH) X.env) (Q:=λ_ s'=>∃σ' H',Inv X LO σ' H' s'/\D.nx σ' H') rfl hs S.clos S.kind S.names ?_) (λ_ s' hq=>Me<|Me hq) λ_ _ e=>e;refine rm (RR:=λO0 C=>Yo (MB X.prog X.w) X.A X.xe (A'<|Wa (.Name x VH) X.env) (λ_ s'=>∃σ' H',Inv X LO σ' H' s'/\D.nx σ' H') O0 C) XB S hi hg ht he I h ?_;intro D' C H' s' e q;refine WI<|nY e.inv hN hx (.inl hl) (v:=.ref D') (u:=.ref D') rfl (λs'' I'' sb=>?_)<|.inr hl;obtain⟨a,hsb,ha⟩:=sb;have neC:C≠a:=by
  obtain rfl|ha:=ha
  ·exact e.loc
  ·exact λz=>e.cells _ _ ha z.symm
 obtain⟨m,hn⟩:=e.ns;have e2:CompEnd X LO (σ.set i<|A'<|.ref D') H' C s'':=⟨I'',⟨m,hn.sameBut hsb neC⟩,e.free,e.loc,e.young,e.cells,e.pin⟩;exact⟨m,hn.sameBut hsb neC,λh' X2=>⟨_,H',e2.gone X2,q⟩⟩
section
variable {K:K'}{a D:LJ}{xs:gV V}{g:TG}{tt:TT}{te:TE}{σ0:St}{H1:Hp}{Q:VK}
theorem bO(Pv:Nat->St->gV V->Hp->Prop)(h0:Pv 0 σ0 [] (upd H1 D<|.lst []))(hd:∀i σ ys H,i<=xs.length->Pv i σ ys H->H D=A' (.lst ys)/\SqL K H a xs)
  (hs:∀i x σ ys H,xs[i]? =A' x->Pv i σ ys H->g x σ H λσ3 H3=>tt σ3 H3 λb H4=>if b=LI then te σ3 H4 λy H5=>H5 D=A' (.lst ys)/\ys.length < sizeLine/\Pv (i+1) σ3 (ys++[y]) (upd H5 D<|.lst<|ys++[y])else Pv (i+1) σ3 ys H4)
  (hq:∀σ ys H,Pv xs.length σ ys H->Q (.ref D) H):gi (C5 K a) D g tt te σ0 H1 Q:=by
 exists λi m σ ys H=>m=xs.length - i/\i<=xs.length/\Pv i σ ys H,⟨xs.length,by simp,Mw _,h0⟩;rintro i m σ ys H ⟨rfl,hi,p⟩;obtain⟨hD,q⟩:=hd i σ ys H hi p;exists hD;by_cases Qi:i < xs.length
 ·refine .inr ⟨⟨xs,xs[i],q,by simp [Qi]⟩,Pv<|i+1,λσ' ys' H' p'=>⟨xs.length - (i+1),by lia,rfl,Qi,p'⟩,λx H' y=>?_⟩;obtain⟨e,y⟩:=y;subst e;exact hs i x σ ys _ (y xs q) p
 ·have e:i=xs.length:=by lia
  subst e;exact .inl ⟨⟨xs,q,LQ _⟩,hq σ ys H p⟩
theorem jo(Pv:Nat->St->gV V->Hp->Prop)(h0:Pv 0 σ0 [] (upd H1 D<|.lst []))(hd:∀i σ ys H,i<=xs.length->Pv i σ ys H->H D=A' (.lst ys)/\SqT K H a xs)
  (hs:∀i x σ ys H,xs[i]? =A' x->Pv i σ ys H->g x σ H λσ3 H3=>tt σ3 H3 λb H4=>if b=LI then te σ3 H4 λy H5=>H5 D=A' (.lst ys)/\ys.length < sizeLine/\Pv (i+1) σ3 (ys++[y]) (upd H5 D<|.lst<|ys++[y])else Pv (i+1) σ3 ys H4)
  (hq:∀σ ys H,Pv xs.length σ ys H->Q (.ref D) H):gi (Dc K a) D g tt te σ0 H1 Q:=by
 exists λi m σ ys H=>m=xs.length - i/\i<=xs.length/\Pv i σ ys H,⟨xs.length,by simp,Mw _,h0⟩;rintro i m σ ys H ⟨rfl,hi,p⟩;obtain⟨hD,q⟩:=hd i σ ys H hi p;exists hD;by_cases Qi:i < xs.length
 ·refine .inr ⟨⟨xs,xs[i],q,by simp [Qi]⟩,Pv<|i+1,λσ' ys' H' p'=>⟨xs.length - (i+1),by lia,rfl,Qi,p'⟩,λx H' y=>?_⟩;obtain⟨e,y⟩:=y;subst e;exact hs i x σ ys _ (y xs q) p
 ·have e:i=xs.length:=by lia
  subst e;exact .inl ⟨⟨xs,q,LQ _⟩,hq σ ys H p⟩
theorem mh{lo:Int}(Pv:Nat->St->gV V->Hp->Prop)(h0:Pv 0 σ0 [] (upd H1 D<|.lst []))(hd:∀i σ ys H,i<=n->Pv i σ ys H->H D=A' (.lst ys))
  (hs:∀i σ ys H,i < n->Pv i σ ys H->g (.int<|lo+i) σ H λσ3 H3=>tt σ3 H3 λb H4=>if b=LI then te σ3 H4 λy H5=>H5 D=A' (.lst ys)/\ys.length < sizeLine/\Pv (i+1) σ3 (ys++[y]) (upd H5 D<|.lst<|ys++[y])else Pv (i+1) σ3 ys H4)
  (hq:∀σ ys H,Pv n σ ys H->Q (.ref D) H):gi (E5 lo n) D g tt te σ0 H1 Q:=by
 exists λi m σ ys H=>m=n - i/\i<=n/\Pv i σ ys H,⟨n,by simp,Mw _,h0⟩;rintro i m σ ys H ⟨rfl,hi,p⟩;exists hd i σ ys H hi p;by_cases Qi:i < n
 ·refine .inr ⟨Qi,Pv<|i+1,λσ' ys' H' p'=>⟨n - (i+1),by lia,rfl,Qi,p'⟩,λx H' y=>?_⟩;obtain⟨e,y⟩:=y;subst e y;exact hs i σ ys _ Qi p
 ·have e:i=n:=by lia
  subst e;exact .inl ⟨LQ _,hq σ ys H p⟩
end
theorem ux:∀{us:gV LF},Vals (ss.map V.str) us->StrsAre us ss:=by
 induction ss with
 |nil=>intro us r;rw[Ry]at r;cases r;exact .nil
 |cons n ns ih=>
  intro us r;rw[MH]at r;cases r with
  |cons r1 r2=>
   obtain⟨t,e⟩:=r1;subst e;exact .cons n t<|ih r2
theorem jp:Io X "str.join" (λx vs H Q=>∃sep p ys,x=.str sep/\vs=[.ref p]/\SqL X.K H p (ys.map V.str)/\(ys.map (·.length)).sum+ys.length*sep.length<=16777216/\Q (.str<|NO sep ys) H):=by
 intro LO s σ H x vs v us Q I rx rv h;obtain⟨sep,p,ys,rfl,rfl,hq,hz,q⟩:=h;obtain⟨t,rfl⟩:=rx;obtain⟨u,rfl,ru⟩:=dE rv;cases ru;obtain⟨NH,r,pl,_⟩:=I.list hq;exact join_list pl.isList (by simpa using ux r) hz λt' k=>⟨.str _,H,I.tok _,⟨_,rfl⟩,q⟩
def uy:V->Md
 |.bl _=>LI
 |.non=>LI
 |_=>LM
def iR:V->Md
 |.bl b=>b
 |_=>LM
theorem vW(r:Vals ys NH)(hb:ys.all uy=LI):TruthOf prog w A (λi v=>NH.toArray[i]? =A' v) (λi=>(ys[i]?).elim LM iR):=by
 intro i v s Q E hv hq;have hv':NH[i]? =A' v:=by simpa using hv
 cases e:ys[i]? with
 |none=>
  rw[r.none_of e]at hv';cases hv'
 |some y=>
  obtain⟨u,hu,ru⟩:=r.get e;rw[hu]at hv';cases hv';have hq':Q ((ys[i]?).elim LM iR) s:=hq;rw[e]at hq';have hy:=Mu.mp hb y<|LZ e;cases y with
  |bl b=>
   cases ru;exact NM hq'
  |non=>
   cases ru;exact truthy_none hq'
  |_=>cases hy
theorem xU(ys:gV V):(Nr ys.length).any (λi=>(ys[i]?).elim LM iR)=ys.any iR:=by
 rw[NB];simp only [MW,P8];constructor
 ·rintro⟨i,hi,h⟩;exists ys[i],OB hi;simpa [hi]using h
 ·rintro⟨y,hy,h⟩;obtain⟨i,hi,rfl⟩:=OM hy;exact⟨i,hi,by simpa [hi]using h⟩
theorem xV(ys:gV V):(Nr ys.length).all (λi=>(ys[i]?).elim LM iR)=ys.all iR:=by
 rw[NB];simp only [Mu,P8];constructor
 ·intro h y hy;obtain⟨i,hi,rfl⟩:=OM hy;simpa [hi]using h i hi
 ·intro h i hi;simpa [hi]using h ys[i] (OB hi)
theorem rn(hc:X.calm=LI):dQ X (.builtin "any") (λxs H Q=>∃p ys,xs=[.ref p]/\SqL X.K H p ys/\ys.all uy=LI/\Q (.bl<|ys.any iR) H):=by
 intro LO s σ H xs us Q I r h;obtain⟨p,ys,rfl,hq,hb,q⟩:=h;obtain⟨u,rfl,ru⟩:=dE r;cases ru;obtain⟨NH,rv,pl,hz⟩:=I.list hq;have hl:=pl.isList;obtain⟨o,ho,_⟩:=id hl;have Qi:p < s.heap.objs.size:=Mj ho;refine call_any_walk<|Qu hl ?_;refine⟨s.heap.objs.size,_,_,_,_,_,_,rfl,Uy (A:=X.A.in1) (I.ok.hd hc) s.heap.objs.size p (Mx Qi) NH.toArray,⟨⟨_,MG _ rfl,rfl,rfl⟩,hl.push _⟩,vW rv hb,λh' tk hk=>?_⟩;have e:(Nr NH.toArray.size).any (λi=>(ys[i]?).elim LM iR)=ys.any iR:=by
  rw[Mf,<-rv.length];exact xU ys
 rw[e];refine⟨.bl _,H,I.kept λb o e=>hk b o ?_<|LP _ e,rfl,q⟩;intro hm;exact absurd (LN.mp hm)<|Mx<|Mj e
theorem mn(hc:X.calm=LI):dQ X (.builtin "all") (λxs H Q=>∃p ys,xs=[.ref p]/\SqL X.K H p ys/\ys.all uy=LI/\Q (.bl<|ys.all iR) H):=by
 intro LO s σ H xs us Q I r h;obtain⟨p,ys,rfl,hq,hb,q⟩:=h;obtain⟨u,rfl,ru⟩:=dE r;cases ru;obtain⟨NH,rv,pl,hz⟩:=I.list hq;have hl:=pl.isList;obtain⟨o,ho,_⟩:=id hl;have Qi:p < s.heap.objs.size:=Mj ho;refine call_all_walk<|Qu hl ?_;refine⟨s.heap.objs.size,_,_,_,_,_,_,rfl,Uy (A:=X.A.in1) (I.ok.hd hc) s.heap.objs.size p (Mx Qi) NH.toArray,⟨⟨_,MG _ rfl,rfl,rfl⟩,hl.push _⟩,vW rv hb,λh' tk hk=>?_⟩;have e:(Nr NH.toArray.size).all (λi=>(ys[i]?).elim LM iR)=ys.all iR:=by
  rw[Mf,<-rv.length];exact xV ys
 rw[e];refine⟨.bl _,H,I.kept λb o e=>hk b o ?_<|LP _ e,rfl,q⟩;intro hm;exact absurd (LN.mp hm)<|Mx<|Mj e
theorem mo:∀(l:gV LF) (ks:gV Int),l.length=ks.length->(∀(i:Nat) (v:LF),l[i]? =A' v->∃(k:Int) (t:Tok),ks[i]? =A' k/\v=.int k t)->PV l ks
 |[],[],_,_=>.nil
 |[],_::_,h,_=>by cases h
 |_::_,[],h,_=>by cases h
 |v::l,k::ks,h,f=>by
  obtain⟨k',t,e1,e2⟩:=f 0 v rfl;have e1':k=k':=MC e1;subst e1' e2;exact .cons k t (mo l ks (by simpa using h) λi u hu=>f (i+1) u<|by simpa using hu)
theorem ro{κ:Type}:∀{kvs:gV (κ×V)} {vs:gV (κ×LF)} {i:Nat} {q:κ×LF},KV kvs vs->vs[i]? =A' q->∃p,kvs[i]? =A' p/\p.1=q.1/\RelV p.2 q.2
 |_,_,_,_,.nil,e=>by cases e
 |_,_,0,_,.cons r _,e=>by
  have e':=MC e;subst e';exact⟨_,rfl,r.1,r.2⟩
 |_,_,i+1,q,.cons _ t,e=>by
  obtain⟨p,h1,h2⟩:=ro (i:=i) (q:=q) t (by simpa using e);exact⟨p,by simpa using h1,h2⟩
theorem rp(hc:X.calm=LI):dQ X (.builtin "sorted") (λxs H Q=>∃p kvs ks,xs=[.ref p]/\H p=A' (.dK kvs)/\kvs.map (·.1)=ks.map M5/\ks.length < 64/\
  ∀l V2,H l=LL->QO V2 ks->PR (·<=·) V2->Q (.ref l) (upd H l<|.lst<|aaO V.int V2)):=by
 intro LO s σ H xs us Q I r h;obtain⟨p,kvs,ks,rfl,hp,hk,h64,q⟩:=h;obtain⟨u,rfl,ru⟩:=dE r;cases ru;obtain⟨z,hd,vs,TK,dd⟩:kvs.length<=sizeLine/\(p == Ov)=LM/\∃vs,KV kvs vs/\s.heap.DictOf (a_ X.prog X.w) p vs:=I.hok p _ hp;obtain⟨ep,hat⟩:=dd.dictAt;have N1:kvs.length=vs.length:=Paired.length TK;have hkl:ks.length=kvs.length:=by
  have e:=M0 Oe hk;rw[J',J']at e;exact e.symm
 refine S_ XH WX W0 (args_sorted1 _) ?_;unfold Builtin.«sorted»;refine LG (m:=Yp "sorted" 1 1 _)<|Me ?_;refine LG<|VM (A:=X.A.in1) (Xj (knd:=a_ X.prog X.w) (kvs:=vs) (ep:=ep) hd) (I.ok.hd hc) hat (by lia) λh' tk O0 hkp abe=>?_;have hl:O0.toList.length=vs.length:=by rw[Mr];exact abe.1
 have aam:PV O0.toList ks:=by
  refine mo _ _ (by rw[hl];lia) λi v hv=>?_;obtain⟨k,x,hx,hkv⟩:=abe.2 i v (by rw[<-Nz];exact hv);obtain⟨q1,hq1,hq2,_⟩:=ro TK hx;have e1:(kvs.map (·.1))[i]? =A' k:=by rw[Mp,hq1];exact M0 A' hq2
  rw[hk,Mp]at e1;cases e2:ks[i]? with
  |none=>rw[e2]at e1;cases e1
  |some n=>
   rw[e2]at e1;have e3:(M5 n:bo)=k:=MC e1;subst e3;obtain⟨t,et⟩:=Tp (k:=n) (v:=v) hkv;exact⟨n,t,rfl,et⟩
 refine LG (RW ?_<|by rw[hl];lia);have I1:Inv X LO σ H {s with heap:=h',toks:=tk}:=I.kept hkp;have hoL:(h'.push<|NR "list" O0.toList.toArray 0).get? h'.objs.size=A' (NR "list" O0.toList.toArray 0):=MG _ rfl;refine LG<|N3<|RM Vo ⟨_,hoL,rfl⟩ UU (list_sort_tree hoL aam (by lia) λout V2 a1 a2 a3=>⟨_,rfl,?_⟩)<|YC _;refine Me ⟨_,rfl,?_⟩;have hn:=I1.hok.fresh (a:=h'.objs.size)<|LQ _;obtain⟨e,he⟩:=Zr (out:=out) hoL;have I2:Inv X LO σ (upd H h'.objs.size<|.lst<|V2.map V.int) {s with heap:=Yz (h'.push<|NR "list" O0.toList.toArray 0) h'.objs.size O0.toList out,toks:=tk}:=by
  refine I1.laid (t':=tk) (λb o eb=>?_) (LQ _) ?_
  ·have hb:b < h'.objs.size:=Mj eb;rw[Yy (Mx hb)<|by rw[Wj];exact OJ hb];exact LP _ eb
  ·refine⟨?_,out.toList,e,?_,?_⟩
   ·rw[J',a2.length_eq];exact Nx (iE<|by lia)
   ·exact iD a1
   ·simpa using he
 exact⟨.ref h'.objs.size,_,I2,rfl,q _ V2 hn a2 a3⟩
def Ha(K:K')(a:LJ):It:=
 ⟨λi H=>∃xs x,SqL K H a xs/\xs[i]? =A' x,λi H x H'=>∃t v,H t=LL/\x=.ref t/\H'=upd H t (.tup [.int i,v])/\∀xs,SqL K H a xs->xs[i]? =A' v,λi H=>∃xs,SqL K H a xs/\xs.length<=i⟩
theorem xW{P:Mm}{w:MK}{K:K'}{es:gV Nt}{k1:Nat}{pos:Pos}(a e it:LJ)(S7:e≠it):tZ P w K (.Tuple es k1 pos) (Ha K a) [e,it] e (λi h=>(∃old,IsEnum h e it i old)/\h.IsListIter it a i) where
 mem:=by simp
 obj:=λi h st b hb=>by
  obtain⟨⟨old,h1⟩,o,h2,_,h4⟩:=st;obtain rfl|hb:=Mn.mp hb
  ·exact⟨_,h1,λv z=>by
    have z':XG _=ZI v:=z;cases z'⟩
  ·have e:b=it:=LN.mp hb;subst e;exact⟨o,h2,λv z=>by rw[h4]at z;cases z⟩
 keep:=λi h h' st k=>by
  obtain⟨⟨old,h1⟩,h2⟩:=st;exact⟨⟨old,k e (by simp) _ h1⟩,h2.at λo e=>k it (by simp) o e⟩
 item:=by
  intro X hP hw hK hc i LO s σ H E I hf st hg;subst hP hw hK;obtain⟨xs,x,hq,hx⟩:=hg;obtain⟨NH,rv,p,hz⟩:=I.list hq;obtain⟨u,hu,ru⟩:=rv.get hx;obtain⟨⟨old,h1⟩,h2⟩:=st;obtain⟨f0,f1,f2,f3,f4,f5⟩:=hf e (by simp);obtain⟨g0,g1,g2,g3,g4,g5⟩:=hf it (by simp);refine wpAny_pyNext_enum_item h1 h2 p.isList (x:=u) (by simpa using hu) S7 λh' ho hit' ht hsz hk=>?_;refine⟨_,rfl,wpAny_letOwnedTupleGo_enum ho λh'' ahR ad2=>?_⟩;have hel:e < s.heap.objs.size:=Mj h1;have V3:it < s.heap.objs.size:=by
   obtain⟨o,q,_⟩:=h2;exact Mj q
  have kk:∀b o,b≠e->b≠it->s.heap.get? b=A' o->h''.get? b=A' o:=λb o h3 h4 q=>ad2.extBut b o h3<|hk b o h3 h4 q;have I1:Inv X LO σ (upd H s.heap.objs.size<|.tup [.int i,x]) {s with heap:=h'',toks:=s.toks+1}:=by
   have hn:H s.heap.objs.size=none:=I.hok.fresh<|LQ _;have ahj:h''.get? s.heap.objs.size=A' {cls:=.type "tuple",data:=.seq #[.int i s.toks,u]}:=ad2.extBut _ _ (PH hel) ht;have nt:∀b o,H b=A' o->b≠e/\b≠it:=λb o q=>⟨λz=>(by rw[z,f0]at q;cases q),λz=>(by rw[z,g0]at q;cases q)⟩;refine I.step (g':=s.gens) (d':=s.drawn) (t':=s.toks+1) (ch:=[e,it]) (λb hb=>?_) (λb o _ _ hc q _=>?_) (λb o _ _ hc q _=>⟨o.slots,?_⟩) (λb o _ q n=>?_) (λb o hc q=>⟨o,?_⟩) (λb ys q=>?_) (λb ob ys q=>?_) (λb ps q=>⟨#[],?_⟩) (λm hm=>?_) (λb ob q=>?_) I.bare
   ·obtain rfl|hb:=Mn.mp hb
    ·exact⟨f3,f1,f4,f5⟩
    ·have z:b=it:=LN.mp hb;subst z;exact⟨g3,g1,g4,g5⟩
   ·exact kk b o (λz=>hc<|by simp [z]) (λz=>hc<|by simp [z]) q
   ·exact kk b o (λz=>hc<|by simp [z]) (λz=>hc<|by simp [z]) q
   ·rw[al<|Mx<|Mj q];exact n
   ·exact kk b o (λz=>hc<|by simp [z]) (λz=>hc<|by simp [z]) q
   ·rw[al<|ak q hn];exact q
   ·rw[al<|ak q hn];exact q
   ·rw[al<|ak q hn,q];simp
   ·obtain⟨o,es,ep,ho,r⟩:=hm;exact⟨o,es,ep,kk _ o (NC f1) (NC g1) ho,r⟩
   ·by_cases hb:b=s.heap.objs.size
    ·subst hb;rw[ad]at q;cases q;exact⟨by show 2<=sizeLine;decide,[.int i s.toks,u],.cons ⟨_,rfl⟩<|.cons ru .nil,⟨_,ahj,rfl,_,rfl⟩⟩
    ·rw[al hb]at q;refine(I.hok b ob q).stay (λc v hc z=>?_) (λc z=>by rw[al<|ak z hn];exact z) λc ys z=>by rw[al<|ak z hn];exact z
     obtain hc|hc:=hc
     ·subst hc;exact kk _ v (nt _ _ q).1 (nt _ _ q).2 z
     ·exact kk _ v (nt _ _ hc).1 (nt _ _ hc).2 z
  refine⟨.ref s.heap.objs.size,_,I1,rfl,⟨s.heap.objs.size,x,I.hok.fresh<|LQ _,rfl,rfl,λys hy=>by rw[I.list_inj hy hq];exact hx⟩,⟨⟨u,by simpa using ahR⟩,hit'.at λo q=>ad2.extBut it o (NC S7) q⟩,λb hb=>?_⟩;have Qi:b < s.heap.objs.size:=by
   obtain rfl|hb:=Mn.mp hb
   ·exact hel
   ·rw[LN.mp hb];exact V3
  rw[al<|Mx Qi];exact(hf b hb).1
 done:=by
  intro X hP hw hK hc i LO s σ H E I hf st hg;subst hP hw hK;obtain⟨xs,hq,hx⟩:=hg;obtain⟨NH,rv,p,hz⟩:=I.list hq;obtain⟨⟨old,h1⟩,h2⟩:=st;obtain⟨g0,g1,g2,g3,g4,g5⟩:=hf it (by simp);have hl:=rv.length;exact wpAny_pyNext_enum_end (I.ok.hd hc) h1 h2 p.isList (by simp;lia) λh' eb=>⟨rfl,I.turned (t':=s.toks) (λb o hb e=>eb b o hb e) g0 g1 g3 g4 g5⟩
 self:=λ_ _ _ _ _ st h=>by
  obtain⟨⟨old,h1⟩,_⟩:=st;exact WH h1 h
def DF(f:V->Hp->Prop):gV V->Hp->Prop
 |[x],H=>f x H
 |_,_=>False
theorem mq:∀{vs:gV V} {H:Hp},DF f vs H->∃x,vs=[x]/\f x H
 |[x],_,h=>⟨x,rfl,h⟩
def Ju(K:K')(tl:TE):TI:=λσ H R=>tl σ H λx H1=>∃a,x=.ref a/\(∃xs,SqL K H1 a xs)/\R (Ha K a) H1
theorem pS{es:gV Nt}{k1:Nat}{adJ:Pos}{p pos:Pos}(hg:Gl X "enumerate")(hm:X.mg "enumerate"=LL)(hl:PE X l tl)(hs:MT [l] X.env=[(LM,Oj l X.env)]:=by rfl):
  PI X (.Tuple es k1 adJ) (.Call (.Name "enumerate" p) [l] [] pos) (Ju X.K tl):=by
 intro LO s σ H R I h;have ha:=aa hl (ae (X:=X)) (by rw[hs];rfl);refine Call_<|gb I hg hm boot_enumerate<|OC (bG (ha pos LO s σ H (DF λx H1=>∃a,x=.ref a/\(∃xs,SqL X.K H1 a xs)/\R (Ha X.K a) H1) I h) λus s1 ⟨vs,H1,I1,r1,q1⟩=>?_) hs rfl
 ·obtain⟨x,e,a,ex,⟨xs,hq⟩,q⟩:=mq q1;subst e ex;obtain⟨u,rfl,ru⟩:=dE r1;cases ru;obtain⟨NH,rv,pl,hz⟩:=I1.list hq;refine call_enumerate_list pl.isList λh' he hit hsz hk=>?_;refine WH he ?_;have I2:Inv X LO σ H1 {s1 with heap:=h'}:=I1.kept (t':=s1.toks) hk;refine⟨s1.heap.objs.size+1,[s1.heap.objs.size+1,s1.heap.objs.size],_,_,H1,rfl,I2,xW a _ _<|Nat.succ_ne_self _,⟨⟨_,he⟩,hit⟩,λb hb=>?_,q⟩;obtain rfl|hb:=Mn.mp hb
  ·exact I1.fpOk (Re _)<|I1.hok.fresh<|Re _
  ·rw[LN.mp hb];exact I1.fpOk (LQ _)<|I1.hok.fresh<|LQ _
theorem rq{K:K'}{a:LJ}{xs:gV V}{g:TG}{tb:TS}{D:jO}{σ:St}{H:Hp}(Pv:Nat->St->Hp->Prop)(h0:Pv 0 σ H)(hl:∀i σ H,i<=xs.length->Pv i σ H->SqL K H a xs)
  (hs:∀i x σ H t,xs[i]? =A' x->Pv i σ H->H t=LL->g (.ref t) σ (upd H t<|.tup [.int i,x]) λσ2 H2=>tb {D with nx:=Pv<|i+1,ct:=Pv<|i+1,bk:=D.nx} σ2 H2) (hd:∀σ H,Pv xs.length σ H->D.nx σ H):
  ∃W:Nat->Nat->St->Hp->Prop,(∃m,W 0 m σ H)/\∀i m σ H,W i m σ H->
   ((Ha K a).stop i H/\D.nx σ H)\/((Ha K a).go i H/\∃N:St->Hp->Prop,(∀σ' H',N σ' H'->∃m',m' < m/\W (i+1) m' σ' H')/\∀x H',(Ha K a).yld i H x H'->g x σ H' λσ2 H2=>tb {D with nx:=N,ct:=N,bk:=D.nx} σ2 H2):=by
 exists λi m σ H=>m=xs.length - i/\i<=xs.length/\Pv i σ H,⟨xs.length,by simp,Mw _,h0⟩;rintro i m σ H ⟨rfl,hi,p⟩;have q:=hl i σ H hi p;by_cases Qi:i < xs.length
 ·refine .inr ⟨⟨xs,xs[i],q,by simp [Qi]⟩,Pv<|i+1,λσ' H' p'=>⟨xs.length - (i+1),by lia,rfl,Qi,p'⟩,λx H' y=>?_⟩;obtain⟨t,v,ht,rfl,rfl,y⟩:=y;exact hs i v σ H t (y xs q) p ht
 ·have e:i=xs.length:=by lia
  subst e;exact .inl ⟨⟨xs,q,LQ _⟩,hd σ H p⟩
end L2
namespace L2
section
open PySem
theorem lA(e:X.K=K):IxR X (I_ K):=by subst e;exact am
theorem iY(e:X.K=K):OpR X (NG .In) (Kn K LM):=by subst e;exact cX
theorem nT(e:X.K=K):OpR X (NG .NotIn) (Kn K LI):=by subst e;exact cY
theorem oA(e:X.K=K):dQ X (.builtin "len") (GB K):=by subst e;exact bh
end
end L2
namespace OD
open PySem L2
def absI(i:Int):Int:=if i < 0 then -i else i
theorem dg(h:0<=i):absI i=i:=by unfold absI;rw[Mi<|by lia]
def Hc:Int->gV Int->Prop
 |_,[]=>True
 |b,l::r=>b < absI l/\Hc (absI l) r
def ClOk(n:Int)(ls:gV Int):Prop:=Hc 0 ls/\∀l∈ls,absI l<=n
def fN(c:gV Int):Mc:=.tuple<|c.map .int
def eO(t:Str)(cs:gV (gV Int)):Mc:=.tuple [.str t,.list<|cs.map fN]
def WS(t:Str):Prop:=∀ch∈t.cps.toList,ch=119\/ch=115
structure SOk (most:Int)(t:Str)(cs:gV (gV Int)):Prop where
 len:(t.length:Int)<=most
 ws:WS t
 many:cs.length<=16
 cl:∀c∈cs,ClOk t.length c
def dP(ps:gV (Int×Int)):gV (bo×V):=ps.map λq=>(M5 q.1,V.int q.2)
def nU(ps:gV (Int×Int))(k s:Int):gV (Int×Int):=if(ps.any λq=>decide (q.1=k))=LI then ps.map (λq=>if q.1=k then(q.1,s)else q)else ps++[(k,s)]
theorem Hd(ps:gV (Int×Int))(k:Int):((dP ps).any λkv=>decide (kv.1=(M5 k:bo)))=ps.any λq=>decide (q.1=k):=by
 unfold dP;rw[Qg]
 congr 1
 funext q
 show decide ((M5 q.1:bo)=M5 k)=decide (q.1=k)
 by_cases e:q.1=k
 ·rw[Ma e,Ma<|by rw[e]]
 ·rw[LW e,LW λz=>e<|Qz z]
theorem He(ps:gV (Int×Int))(k s:Int):bH (dP ps) (M5 k) (V.int s)=dP (nU ps k s):=by
 unfold bH nU;rw[Hd];by_cases h:(ps.any λq=>decide (q.1=k))=LI
 ·rw[Ml h,Ml h];unfold dP;rw[M9,M9]
  congr 1
  funext q
  show(if(M5 q.1:bo)=M5 k then((M5 q.1:bo),V.int s)else(M5 q.1,V.int q.2))=(M5 (if q.1=k then(q.1,s)else q).1,V.int (if q.1=k then(q.1,s)else q).2)
  by_cases e:q.1=k
  ·rw[Ml (by rw[e]),Ml e]
  ·rw[Mi λz=>e<|Qz z,Mi e]
 ·rw[Mi h,Mi h];unfold dP;rw[Mq];rfl
theorem DG(ps:gV (Int×Int)):(dP ps).map (·.1)=(ps.map (·.1)).map M5:=by
 unfold dP;rw[M9,M9];rfl
def iV(ps:gV (Int×Int))(k:Int):LH Int:=(ps.find? λq=>decide (q.1=k)).map (·.2)
theorem Hf(ps:gV (Int×Int))(k:Int):bZ (dP ps) (M5 k:bo)=(iV ps k).map V.int:=by
 induction ps with
 |nil=>rfl
 |cons q r ih=>
  show bZ (((M5 q.1:bo),V.int q.2)::dP r) (M5 k)=_
  by_cases e:q.1=k
  ·rw[cD<|by rw[e]];simp [iV,NZ,e]
  ·rw[cE λz=>e<|Qz z,ih];simp [iV,NZ,e]
structure DOk (n:Int)(ps:gV (Int×Int)):Prop where
 nd:(ps.map (·.1)).Nodup
 rng:∀q∈ps,1<=q.1/\q.1<=n
 sg:∀q∈ps,q.2=1\/q.2=-1
theorem DOk.nil(n:Int):DOk n []:=⟨Rx,(λ_ h=>nomatch h),(λ_ h=>nomatch h)⟩
theorem DOk.put(h:DOk n ps)(h1:1<=k/\k<=n)(hs:s=1\/s=-1):DOk n (nU ps k s)/\(nU ps k s).length<=ps.length+1:=by
 unfold nU;by_cases a:(ps.any λq=>decide (q.1=k))=LI
 ·rw[Ml a];have e:(ps.map λq=>if q.1=k then(q.1,s)else q).map (·.1)=ps.map (·.1):=by
   rw[M9]
   congr 1
   funext q
   show(if q.1=k then(q.1,s)else q).1=q.1
   split<;>rfl
  refine⟨⟨by rw[e];exact h.nd,λq hq=>?_,λq hq=>?_⟩,by rw[J'];lia⟩
  ·obtain⟨q',hq',rfl⟩:=MF.mp hq
   split
   ·exact h.rng q' hq'
   ·exact h.rng q' hq'
  ·obtain⟨q',hq',rfl⟩:=MF.mp hq
   split
   ·exact hs
   ·exact h.sg q' hq'
 ·rw[Mi a];refine⟨⟨?_,λq hq=>?_,λq hq=>?_⟩,by rw[LX];exact LQ _⟩
  ·rw[Mq];refine vS h.nd λm=>a ?_;obtain⟨q,hq,e⟩:=MF.mp m;exact MW.mpr ⟨q,hq,Ma e⟩
  ·obtain z|z:=Mt.mp hq
   ·exact h.rng q z
   ·rw[LN.mp z];exact h1
  ·obtain z|z:=Mt.mp hq
   ·exact h.sg q z
   ·rw[LN.mp z];exact hs
def Hg(ps:gV (Int×Int))(k:Int):Int:=(iV ps k).getD 1
theorem DOk.look(h:DOk n ps)(hk:k∈ps.map (·.1)):iV ps k=A' (Hg ps k)/\(Hg ps k=1\/Hg ps k=-1):=by
 obtain⟨q,hq,e⟩:=MF.mp hk;unfold Hg iV;cases f:ps.find? λq=>decide (q.1=k)with
 |none=>
  have:=Wt.mp f q hq;exact absurd (Ma e) this
 |some z=>exact⟨rfl,h.sg z<|Tb f⟩
theorem rA(hk:1<=k)(hs:s=1\/s=-1):absI (k*s)=k:=by
 unfold absI;obtain rfl|rfl:=hs
 ·rw[aaQ,Mi<|by lia]
 ·rw[Ml<|by lia];lia
theorem zV{f:Int->Int}:∀(ks:gV Int) (b:Int),0<=b->(∀k∈ks,b < k)->ks.Pairwise (· < ·)->(∀k∈ks,f k=1\/f k=-1)->Hc b (ks.map λk=>k*f k)
 |[],_,_,_,_,_=>trivial
 |k::r,b,h0,hb,hp,hf=>by
  have hk:=hb k L9;have e:=rA (s:=f k) (show 1<=k by lia)<|hf k L9;obtain⟨p1,p2⟩:=Nc.mp hp;show b < absI (k*f k)/\Hc (absI<|k*f k) (r.map λk=>k*f k)
  rw[e];exact⟨hk,zV r k (by lia) p1 p2 λz hz=>hf z<|LY _ hz⟩
theorem ig:∀{ks:gV Int},ks.Pairwise (·<=·)->ks.Nodup->ks.Pairwise (· < ·)
 |[],_,_=>TB
 |k::r,hp,hn=>by
  obtain⟨p1,p2⟩:=Nc.mp hp;obtain⟨n1,n2⟩:=NX.mp hn;refine Nc.mpr ⟨λz hz=>?_,ig p2 n2⟩;have:=p1 z hz;have:k≠z:=λe=>n1<|e▸hz;lia
theorem DOk.clause{n:Int}{ps:gV (Int×Int)}{ks:gV Int}(h:DOk n ps)(hp:ks.Perm (ps.map (·.1)))(hs:ks.Pairwise (·<=·)):ClOk n (ks.map λk=>k*Hg ps k):=by
 have hm:∀k∈ks,k∈ps.map (·.1):=λk hk=>hp.mem_iff.mp hk;have hr:∀k∈ks,1<=k/\k<=n:=λk hk=>by
  obtain⟨q,hq,e⟩:=MF.mp<|hm k hk;rw[<-e];exact h.rng q hq
 refine⟨zV ks 0 (QF 0) (λk hk=>by have:=(hr k hk).1;lia) (ig hs<|hp.nodup_iff.mpr h.nd) λk hk=>(h.look<|hm k hk).2,λl hl=>?_⟩;obtain⟨k,hk,rfl⟩:=MF.mp hl;rw[rA (hr k hk).1 (h.look<|hm k hk).2];exact(hr k hk).2
theorem dh{ns:gV Int}{i:Nat}{x:V}(h:(ns.map V.int)[i]? =A' x):∃z,x=.int z/\ns[i]? =A' z:=by
 rw[Mp]at h;cases e:ns[i]? with
 |none=>rw[e]at h;cases h
 |some z=>
  rw[e]at h;exact⟨z,(MC h).symm,rfl⟩
theorem zX(ns:gV Int)(lo hi:LH Int):∃ms:gV Int,cQ (ns.map V.int) lo hi=ms.map V.int/\ms.length<=ns.length:=by
 unfold cQ;rw[J'];refine⟨(ns.drop<|HT.sIx ns.length 0 lo).take<|HT.sIx ns.length ns.length hi - HT.sIx ns.length 0 lo,?_,?_⟩
 ·rw[<-Zu,<-List.map_take]
 ·rw[ME,N6];lia
theorem vX(a b:Str):(a++b).cps.toList=a.cps.toList++b.cps.toList:=by
 show(a.cps++b.cps).toList=_
 simp
theorem rB(he:e.cps.toList=[]):∀ss,(QB e ss).cps.toList=(ss.map λs=>s.cps.toList).flatten
 |[]=>rfl
 |[x]=>by
  show x.cps.toList=_
  simp
 |x::y::r=>by
  show((x++e)++QB e (y::r)).cps.toList=_
  rw[vX,vX,he,rB he<|y::r];simp
def mt(s:Str):Prop:=s=⟨#[119]⟩\/s=⟨#[115]⟩
theorem mv:∀{ss:gV Str},(∀s∈ss,mt s)->(ss.map λs=>s.cps.toList).flatten.length=ss.length/\∀ch∈(ss.map λs=>s.cps.toList).flatten,ch=119\/ch=115
 |[],_=>⟨rfl,λ_ h=>nomatch h⟩
 |s::r,h=>by
  obtain⟨h1,h2⟩:=mv (ss:=r) λz hz=>h z<|LY _ hz;rw[MH,List.flatten_cons];obtain rfl|rfl:=h s L9
  ·refine⟨by rw[LX,h1];show 1+r.length=r.length+1;lia,λch hc=>?_⟩;obtain z|z:=Mt.mp hc
   ·exact .inl (by simpa using z)
   ·exact h2 ch z
  ·refine⟨by rw[LX,h1];show 1+r.length=r.length+1;lia,λch hc=>?_⟩;obtain z|z:=Mt.mp hc
   ·exact .inr (by simpa using z)
   ·exact h2 ch z
theorem Jv:(G' "").cps.toList=[]:=by decide+kernel
theorem zY(h:∀s∈ss,mt s):(NO "" ss).length=ss.length/\WS (NO "" ss):=by
 have e:NO (G' "") ss=QB (G' "") ss:=eq_of_beq<|Xq _ ss;obtain⟨h1,h2⟩:=mv h;have e2:=rB Jv ss;refine⟨?_,?_⟩
 ·rw[e];show(QB (G' "") ss).cps.size=_
  rw[<-Mr,e2];exact h1
 ·intro ch hc;rw[e,e2]at hc;exact h2 ch hc
theorem oE:∀{ss:gV Str},(∀s∈ss,mt s)->(ss.map λs=>s.length).sum=ss.length
 |[],_=>rfl
 |s::r,h=>by
  rw[MH,T5,oE λz hz=>h z<|LY _ hz,L4];obtain rfl|rfl:=h s L9
  ·show 1+_=_;lia
  ·show 1+_=_;lia
theorem Jw(h0:0<=j)(h1:j < 2):∃c,kL (G' "ws").cps.toList j=A' c/\mt ⟨#[c]⟩:=by
 obtain rfl|rfl:=(by lia:j=0\/j=1)
 ·exact⟨119,by decide+kernel,.inl rfl⟩
 ·exact⟨115,by decide+kernel,.inr rfl⟩
def CL(H:Hp)(c:gV Int)(v:V):Prop:=∃t,v=.ref t/\H t=A' (.tup<|c.map V.int)
def CLs(H:Hp):gV (gV Int)->gV V->Prop:=Paired<|CL H
theorem CL.mono(h:CL H c v)(k:Same H H'):CL H' c v:=let ⟨t,e,z⟩:=h;⟨t,e,k _ _ z⟩
theorem CL.upd(h:CL H c v)(hq:H q=A' (.lst xs)):CL (upd H q o) c v:=by
 obtain⟨t,e,z⟩:=h;exact⟨t,e,by rw[al<|bR z hq<|by intro w;cases w];exact z⟩
theorem CLs.mono(k:Same H H'):∀{cs:gV (gV Int)} {xs:gV V},CLs H cs xs->CLs H' cs xs
 |_,_,.nil=>.nil
 |_,_,.cons h t=>.cons (h.mono k)<|CLs.mono k t
theorem CLs.upd(hq:H q=A' (.lst ys)):∀{cs:gV (gV Int)} {xs:gV V},CLs H cs xs->CLs (upd H q o) cs xs
 |_,_,.nil=>.nil
 |_,_,.cons h t=>.cons (h.upd hq)<|CLs.upd hq t
theorem CLs.snoc(h:CL H c v)(t:CLs H cs xs):CLs H (cs++[c]) (xs++[v]):=Paired.snoc t h
theorem CLs.length(h:CLs H cs xs):cs.length=xs.length:=Paired.length h
theorem CLs.get:∀{cs:gV (gV Int)} {xs:gV V} {j:Nat} {v:V},CLs H cs xs->xs[j]? =A' v->∃c,cs[j]? =A' c/\CL H c v
 |_,_,_,_,.nil,e=>by cases e
 |_,_,0,_,.cons h _,e=>⟨_,rfl,by have e':=MC e;subst e';exact h⟩
 |_,_,j+1,v,.cons _ t,e=>by
  obtain⟨c,h1,h2⟩:=CLs.get (j:=j) (v:=v) t (by simpa using e);exact⟨c,by simpa using h1,h2⟩
theorem CL.rd(h:CL H c v):RD H (fN c) v:=by
 obtain⟨t,rfl,z⟩:=h;exact bB z<|ib c
theorem CLs.rds:∀{cs:gV (gV Int)} {xs:gV V},CLs H cs xs->c9 H (cs.map fN) xs
 |_,_,.nil=>aQ
 |_,_,.cons h t=>ap h.rd<|CLs.rds t
theorem CL.of(h:RD H (fN c) v):CL H c v:=by
 obtain⟨a,xs,rfl,h1,h2⟩:=ax h;refine⟨a,rfl,?_⟩;rw[h1];have:∀(ns:gV Int) (xs:gV V),c9 H (ns.map NV) xs->xs=ns.map V.int:=by
  intro ns
  induction ns with
  |nil=>intro xs r;exact bV r
  |cons n r ih=>
   intro xs z;obtain⟨y,ys,rfl,e,t⟩:=ar z;have e':y=.int n:=by
    unfold RD at e;exact e
   rw[e',ih ys t];rfl
 rw[this c xs h2]
theorem CLs.of:∀{cs:gV (gV Int)} {xs:gV V},c9 H (cs.map fN) xs->CLs H cs xs
 |[],xs,h=>by
  rw[bV h];exact .nil
 |c::cs,xs,h=>by
  obtain⟨y,ys,rfl,h1,h2⟩:=ar h;exact .cons (CL.of h1)<|CLs.of h2
theorem jq(hp:H p=A' (.tup [.str t,.ref q]))(hq:H q=A' (.lst xs))(h:CLs H cs xs):RD H (eO t cs) (.ref p):=
 bB hp (ap (dG t)<|ap (fT hq h.rds) aQ)
theorem rD(h:RD H (eO t cs) v):∃p q xs,v=.ref p/\H p=A' (.tup [.str t,.ref q])/\H q=A' (.lst xs)/\CLs H cs xs:=by
 obtain⟨p,ys,rfl,h1,h2⟩:=ax h;obtain⟨y,zs,rfl,h3,h4⟩:=ar h2;obtain⟨z,ws,rfl,h5,h6⟩:=ar h4;have h7:=bV h6;subst h7;obtain⟨q,xs,rfl,h8,h9⟩:=eM h5;have e:y=.str t:=by
  unfold RD at h3;exact h3
 subst e;exact⟨p,q,xs,rfl,h1,h8,CLs.of h9⟩
theorem gI:∀cs:gV (gV Int),MY (cs.map fN)=LI
 |[]=>rfl
 |c::r=>by
  show(MY (c.map NV)&&MY (r.map fN))=LI
  rw[U2,gI r];rfl
theorem oG:∀cs:gV (gV Int),NK (cs.map fN)<=1
 |[]=>Mw _
 |c::r=>by
  have h:=oG r;show max (NK (c.map NV)+1) (NK<|r.map fN)<=1
  rw[VL];lia
theorem jX(h1:d.canLay0=LI)(h2:d.depth<=64):NJ d=true:=by
 unfold NJ;rw[h1,Ma h2];rfl
theorem iZ(c:gV Int):MU (fN c) (.tuple [])=decide (c=[]):=by
 cases c with
 |nil=>simp [fN,MU,Pc]
 |cons n r=>simp [fN,MU,Pc]
mutual
theorem rE:∀d,d.canLay0=LI->MU d d=LI
 |.none,_=>rfl
 |.bool b,_=>by simp [MU]
 |.int i,_=>by simp [MU]
 |.str x,_=>by simp [MU]
 |.list ds,h=>by
  show Pc ds ds=LI
  exact ii ds h
 |.tuple ds,h=>by
  show Pc ds ds=LI
  exact ii ds h
 |.dict _,h=>by cases h
theorem ii:∀ds,MY ds=LI->Pc ds ds=LI
 |[],_=>rfl
 |d::r,h=>by
  have h':d.canLay0=LI/\MY r=true:=by simpa [MY]using h
  show(MU d d&&Pc r r)=LI
  rw[rE d h'.1,ii r h'.2];rfl
end
theorem Jx(h:WS t):PB t=true:=by
 unfold PB;rw[<-Array.all_toList];refine Mu.mpr λch hc=>Ma ?_;obtain rfl|rfl:=h ch hc
 ·decide
 ·decide
theorem rF(h:WS t)(cs:gV (gV Int)):NJ (eO t cs)=true:=by
 refine jX ?_ ?_
 ·show(PB t&&(MY (cs.map fN)&&LI))=LI
  rw[Jx h,gI];rfl
 ·have:=oG cs;show max 0 (max (NK (cs.map fN)+1) 0)+1<=64
  lia
abbrev K_:R2:=λx y H Q=>KN x y H Q\/GX x y H Q
theorem vY:∀{c:gV Int} {b:Int},0<=b->Hc b c->∀l∈c,1<=absI l
 |[],_,_,_,_,h=>nomatch h
 |x::r,b,hb,h,l,hl=>by
  have h1:=h.1;obtain rfl|hl:=Mn.mp hl
  ·lia
  ·exact vY (b:=absI x) (by lia) h.2 l hl
theorem ClOk.pos(h:ClOk n c):∀l∈c,1<=absI l:=vY (QF 0) h.1
def hit(bs:gV Md)(l:Int):Md:=match bs[(absI l - 1).toNat]? with
 |some b=>b == decide (0 < l)
 |none=>LM
theorem fE{α:Type}{f g:α->Md}:∀{xs:gV α},(∀x∈xs,f x=g x)->xs.any f=xs.any g
 |[],_=>rfl
 |x::r,h=>by
  rw[PQ,PQ,h x L9,fE λz hz=>h z<|LY _ hz]
theorem pT(c:gV Int)(l:Int):c.any (λx=>decide (x=l))=c.contains l:=by
 rw[NB,MW,Mo];constructor
 ·rintro⟨x,hx,e⟩;exact My e▸hx
 ·intro h;exact⟨l,h,Ma rfl⟩
theorem cT(c:gV Int)(l:Int):gY (.int l) (c.map V.int)=c.contains l:=by
 unfold gY;rw[Qg,<-pT];refine fE λx _=>?_;show(x == l)=decide (x=l)
 rw[NB,MQ];exact Pf
theorem gj(O2:St)(p:V->Md)(f:V->V)(e0:σ0=LL::O2)(ha:H1 a=A' (.tup xs))(hD:H1 D=LL)(N1:xs.length<=9000)
  (ht:∀x∈xs,∀H' R,Same H1 H'->R (p x) H'->tt (A' x::O2) H' R)
  (he:∀x∈xs,p x=LI->∀H' R,Same H1 H'->R (f x) H'->te (A' x::O2) H' R)
  (hq:Q (.ref D) (upd H1 D<|.lst<|(xs.filter p).map f)):gi (Dc K a) D (gh 0) tt te σ0 H1 Q:=by
 have na:a≠D:=ak ha hD;refine jo (K:=K) (a:=a) (xs:=xs) (λi σ ys H2=>(∃v0,σ=v0::O2)/\ys=((xs.take i).filter p).map f/\H2=upd H1 D (.lst ys)) ⟨⟨LL,e0⟩,rfl,rfl⟩ ?_ ?_ ?_
 ·rintro i σ ys H2 _ ⟨_,_,rfl⟩;exact⟨ad,SqT.of<|by rw[al na];exact ha⟩
 ·rintro i x σ ys H2 hx ⟨⟨v0,rfl⟩,T8,rfl⟩;have hm:=LZ hx;have e:xs.take (i+1)=xs.take i++[x]:=by rw[MM,hx];rfl
  refine ht x hm _ _ (ag hD _) ?_;cases hp:p x with
  |true=>
   refine aJ<|he x hm hp _ _ (ag hD _) ⟨ad,?_,⟨_,rfl⟩,?_,ee⟩
   ·have:ys.length<=xs.length:=by
     rw[T8,J'];exact MD (N8 _ _) (by rw[ME];lia)
    exact aW (by lia)
   ·rw[e,OX,Mq,<-T8];simp [hp]
  |false=>
   refine aI ⟨⟨_,rfl⟩,?_,rfl⟩;rw[e,OX,Mq,<-T8];simp [hp]
 ·rintro σ ys H2 ⟨_,T8,rfl⟩;rw[L8<|LQ _]at T8;rw[T8];exact hq
theorem i9(O2:St)(p:V->Md)(f:V->V)(e0:σ0=LL::O2)(ha:H1 a=A' (.lst xs))(hD:H1 D=LL)(N1:xs.length<=9000)
  (ht:∀x∈xs,∀H' R,Same H1 H'->R (p x) H'->tt (A' x::O2) H' R)
  (he:∀x∈xs,p x=LI->∀H' R,Same H1 H'->R (f x) H'->te (A' x::O2) H' R)
  (hq:Q (.ref D) (upd H1 D<|.lst<|(xs.filter p).map f)):gi (C5 K a) D (gh 0) tt te σ0 H1 Q:=by
 have na:a≠D:=ak ha hD;refine bO (K:=K) (a:=a) (xs:=xs) (λi σ ys H2=>(∃v0,σ=v0::O2)/\ys=((xs.take i).filter p).map f/\H2=upd H1 D (.lst ys)) ⟨⟨LL,e0⟩,rfl,rfl⟩ ?_ ?_ ?_
 ·rintro i σ ys H2 _ ⟨_,_,rfl⟩;exact⟨ad,SqL.of<|by rw[al na];exact ha⟩
 ·rintro i x σ ys H2 hx ⟨⟨v0,rfl⟩,T8,rfl⟩;have hm:=LZ hx;have e:xs.take (i+1)=xs.take i++[x]:=by rw[MM,hx];rfl
  refine ht x hm _ _ (ag hD _) ?_;cases hp:p x with
  |true=>
   refine aJ<|he x hm hp _ _ (ag hD _) ⟨ad,?_,⟨_,rfl⟩,?_,ee⟩
   ·have:ys.length<=xs.length:=by
     rw[T8,J'];exact MD (N8 _ _) (by rw[ME];lia)
    exact aW (by lia)
   ·rw[e,OX,Mq,<-T8];simp [hp]
  |false=>
   refine aI ⟨⟨_,rfl⟩,?_,rfl⟩;rw[e,OX,Mq,<-T8];simp [hp]
 ·rintro σ ys H2 ⟨_,T8,rfl⟩;rw[L8<|LQ _]at T8;rw[T8];exact hq
theorem eQ(c:gV Int)(p:Int->Md)(q:V->Md)(h:∀i,q (.int i)=p i):((c.map V.int).filter q).map (λx=>x)=(c.filter p).map V.int:=by
 rw[W4];rw[List.filter_map];refine M0 _<|Tx λx _=>h x
theorem fz{c:gV Int}{x:V}(h:x∈c.map V.int):∃z∈c,x=.int z:=by
 obtain⟨z,hz,e⟩:=MF.mp h;exact⟨z,hz,e.symm⟩
theorem Hh(h:NJ d=LI):d.canLay0=true:=by
 unfold NJ at h;rw[MO]at h;exact h.1
theorem rG(hx:RD H d x)(hy:RD H d y)(hs:NJ d=LI)(q:Q (.bl LM) H):K_ x y H Q:=
 .inr ⟨d,d,hx,hy,hs,hs,by rw[rE d<|Hh hs];exact q⟩
theorem Ls{x y:V}{A B:Prop}(h:x=y)(b:B):if(!decide (x=y))=LI then A else B:=by
 rw[Ma h];exact aI b
theorem LE:df "tuple" "tuple"=A' true:=by decide+kernel
theorem DH{bs:gV Md}{i:Nat}{x:V}(h:(bs.map V.bl)[i]? =A' x):∃b,x=.bl b/\bs[i]? =A' b:=by
 rw[Mp]at h;cases e:bs[i]? with
 |none=>rw[e]at h;cases h
 |some z=>
  rw[e]at h;exact⟨z,(MC h).symm,rfl⟩
def zZ(p:Int->Md):V->Md
 |.int z=>p z
 |_=>LM
def Ks(f:Int->V):V->V
 |.int z=>f z
 |x=>x
end OD
namespace L2
open PySem PySem.Spec PyProof.Rows
def La:R2:=λx y H Q=>∃(dx:Mc) (ds:gV Mc),RD H dx x/\RD H (.list ds) y/\dx.canLay0=LI/\MY ds=LI/\dx.depth<=60/\Q (.bl<|ds.any λd=>MU d dx) H
theorem Hi(hu:X.A.units+64 < PU):OpR X (NG .In) La:=by
 intro LO s σ H x y v u Q I rx ry h;obtain⟨dx,ds,ra,rb,sa,sb,dd,q⟩:=h;obtain⟨as,qa⟩:=cS I dx x v ra rx;obtain⟨bs,qb⟩:=cS I (.list ds) y u rb ry;refine SeqAt.in_list_reads qb qa sb sa ?_ ⟨.bl _,H,I,rfl,q⟩;have:min (NK ds) dx.depth<=dx.depth:=RQ _ _;lia
def fm(mg:Str->LH LF)(x:Str)(v:V):Prop:=∃u,mg x=A' u/\RelV v u
theorem aM(hg:Gl X x)(hm:fm X.mg x v)(hd:(x == ("__debug__":Str))=false:=by decide):PE X (.Name x pos) (tC v):=by
 obtain⟨u,h1,h2⟩:=hm;exact C9 hg h1 h2 hd
end L2
namespace OD
open PySem L2
def cF(t:Str)(i:Nat):Md:=decide (t.cps.toList[i]? =A' 119)
def aK(b:Md):Str:=if b=LI then G' "wisher" else G' "spoiler"
theorem rH:G' "wisher"≠G' "spoiler":=by decide+kernel
theorem xX(h:aK a=aK b):a=b:=by
 cases a<;>cases b
 ·rfl
 ·exact absurd h.symm rH
 ·exact absurd h rH
 ·rfl
theorem jr(a b:Md):decide (V.str (aK a)=V.str (aK b))=decide (a=b):=by
 refine OU.mpr ⟨λh=>xX<|V.str.inj h,λh=>by rw[h]⟩
def Iu(i n:Nat)(cs:gV (gV Int)):Prop:=∀c∈cs,∀l∈c,(i:Int) < absI l/\absI l<=(n:Int)
theorem b8(l:Int):(0<=l/\absI l=l)\/(l < 0/\absI l=-l):=by
 unfold absI;by_cases h:l < 0
 ·exact .inr ⟨h,Ml h⟩
 ·exact .inl ⟨by lia,Mi h⟩
theorem Jy:decide (V.str ⟨#[ch]⟩=V.str (G' "w"))=decide (ch=119):=by
 have e:G' "w"=⟨#[119]⟩:=by decide+kernel
 rw[e];refine OU.mpr ⟨λh=>?_,λh=>by rw[h]⟩;have:=V.str.inj h;injection this with h1;have h2:=M0 UQ h1;simpa using h2
theorem z_(h:t.cps.toList[i]? =A' ch):cF t i=decide (ch=119):=by
 unfold cF;rw[h];exact OU.mpr ⟨λz=>MC z,λz=>M0 _ z⟩
end OD
namespace L2
open PySem PySem.Spec PyProof.Rows
def xY(lo:Int)(n:Nat):It:=⟨λi _=>i < n,λi H x H'=>H'=H/\x=.int (lo - i),λi _=>n<=i⟩
theorem rJ{P:Mm}{w:MK}{K:K'}{tg:Nt}(it:LJ)(lo:Int)(n:Nat):tZ P w K tg (xY lo n) [it] it (λi h=>Vk h it (lo+(i:Nat)*(-1)) ((n:Int) - (i:Nat)) (-1)) where
 mem:=by simp
 obj:=λi h st b hb=>by
  have e:b=it:=by simpa using hb
  subst e;exact⟨_,st,λv z=>by
   have z':XG _=ZI v:=z;cases z'⟩
 keep:=λi h h' st k=>k it (by simp) _ st
 item:=by
  intro X hP hw hK hc i LO s σ H E I hf st hg;subst hP hw hK;obtain⟨f0,f1,f2,f3,f4,f5⟩:=hf it (by simp);have W:=aaz (prog:=X.prog) (w:=X.w) (I.ok.hd hc) it lo (-1) n;refine W.item i s _ _ hg st λv h' tk hv Oo kk=>?_;obtain⟨t,rfl⟩:=hv;have I1:Inv X LO σ H {s with heap:=h',toks:=tk}:=I.turned (λb o hb e=>kk b o (by simpa using hb) e) f0 f1 f3 f4 f5;refine⟨_,rfl,qR (s:={s with heap:=h',toks:=tk}) (n:="range_iterator") Oo rfl rfl (by decide) ⟨.int<|lo - i,H,I1,⟨t,?_⟩,⟨rfl,rfl⟩,Oo,λb hb=>(hf b hb).1⟩⟩;have e:lo+(i:Int)*(-1)=lo - i:=by lia
  rw[e]
 done:=by
  intro X hP hw hK hc i LO s σ H E I hf st hg;subst hP hw hK;obtain⟨f0,f1,f2,f3,f4,f5⟩:=hf it (by simp);exact Ut (I.ok.hd hc) st (by have:n<=i:=hg;lia) λh' eb=>⟨rfl,I.turned (t':=s.toks) (λb o hb e=>eb b o hb e) f0 f1 f3 f4 f5⟩
 self:=λ_ _ _ _ _ st h=>Uu st h
theorem xZ{LO:gV (LJ×Obj)}{σ:St}{H:Hp}{s:LR}{R:It->Hp->Prop}{E:LF->LR->Prop}{lo hi:Int}{t u v:Tok}{tk:Nat}(I:Inv X LO σ H s)(h1:-(2 ^ 62)<=lo)(h2:lo < 2 ^ 62)(h3:-(2 ^ 62)<=hi)(h4:hi < 2 ^ 62)
  (q:R (xY lo (lo - hi).toNat) H):wpAny (MB X.prog X.w) X.A (Xh<|.ref s.heap.objs.size) (KG X LO σ tg R) E {s with heap:=s.heap.push {cls:=.type "range",data:=.fields #[.int lo t,.int hi u,.int (-1) v]},toks:=tk}:=by
 refine V7 (aaI ..) (PySem.W.small_down h1 h2 h3 h4) ?_;have I1:Inv X LO σ H {s with heap:=s.heap.push {cls:=.type "range",data:=.fields #[.int lo t,.int hi u,.int (-1) v]},toks:=tk}:=I.kept λb o e=>LP _ e;refine⟨(s.heap.push {cls:=.type "range",data:=.fields #[.int lo t,.int hi u,.int (-1) v]}).objs.size,[(s.heap.push {cls:=.type "range",data:=.fields #[.int lo t,.int hi u,.int (-1) v]}).objs.size],_,_,H,rfl,
  I1.kept (t':=tk) λb o e=>LP _ e,rJ _ lo (lo - hi).toNat,?_,λb hb=>?_,q⟩
 ·have e1:lo+((0:Nat):Int)*(-1)=lo:=by simp
  have e2:(((lo - hi).toNat:Nat):Int) - ((0:Nat):Int)=Uh lo hi (-1):=by rw[PySem.W.rangeSize_down];split<;>lia
  show Vk _ _ (lo+((0:Nat):Int)*(-1)) ((((lo - hi).toNat:Nat):Int) - ((0:Nat):Int)) (-1)
  rw[e1,e2];exact MG _ rfl
 ·have e:b=(s.heap.push {cls:=.type "range",data:=.fields #[.int lo t,.int hi u,.int (-1) v]}).objs.size:=by simpa using hb
  subst e;exact I1.fpOk (LQ _)<|I1.hok.fresh<|LQ _
def Jz(ta:TA):TI:=λσ H R=>ta σ H λvs H1=>∃i j:Int,vs=[.int i,.int j,.int (-1)]/\(-(2 ^ 62)<=i/\i < 2 ^ 62/\ -(2 ^ 62)<=j/\j < 2 ^ 62)/\R (xY i (i - j).toNat) H1
theorem oH{X:Cx}{tg:Nt}{a b c:Nt}{ta:TA}{p pos:Pos}(hg:Gl X "range")(hm:X.mg "range"=LL)(ha:PA X [a,b,c] ta)(hs:MT [a,b,c] X.env=(LM,Oj a X.env)::MT [b,c] X.env:=by rfl)(hs2:(O_ pos<|MT [b,c] X.env).any (·.1)=false:=by rfl):
  PI X tg (.Call (.Name "range" p) [a,b,c] [] pos) (Jz ta):=by
 intro LO s σ H R I h;refine Call_<|gb I hg hm YB<|OC (bG (ha pos LO s σ H _ I h) λus s1 ⟨vs,H1,I1,r1,q1⟩=>?_) hs hs2;obtain⟨i,j,e,⟨q1,q2,q3,q4⟩,q⟩:=q1;subst e;cases r1 with
 |cons r rr=>
  cases rr with
  |cons r' rr=>
   cases rr with
   |cons r'' rr=>
    cases rr;obtain⟨t,rfl⟩:=r;obtain⟨t',rfl⟩:=r';obtain⟨t'',rfl⟩:=r'';exact call_range_3 (by decide) (xZ I1 q1 q2 q3 q4 q) (.inl<|UC<|by decide)
theorem mw{lo:Int}{n:Nat}{g:TG}{tb:TS}{D:jO}(Pv:Nat->St->Hp->Prop)(h0:Pv 0 σ H)
  (hs:∀i σ H,i < n->Pv i σ H->g (.int<|lo - i) σ H λσ2 H2=>tb {D with nx:=Pv<|i+1,ct:=Pv<|i+1,bk:=D.nx} σ2 H2) (hd:∀σ H,Pv n σ H->D.nx σ H):
  ∃W:Nat->Nat->St->Hp->Prop,(∃m,W 0 m σ H)/\∀i m σ H,W i m σ H->
   ((xY lo n).stop i H/\D.nx σ H)\/((xY lo n).go i H/\∃N:St->Hp->Prop,(∀σ' H',N σ' H'->∃m',m' < m/\W (i+1) m' σ' H')/\∀x H',(xY lo n).yld i H x H'->g x σ H' λσ2 H2=>tb {D with nx:=N,ct:=N,bk:=D.nx} σ2 H2):=by
 exists λi m σ H=>m=n - i/\i<=n/\Pv i σ H,⟨n,by simp,Mw _,h0⟩;rintro i m σ H ⟨rfl,hi,p⟩;by_cases Qi:i < n
 ·refine .inr ⟨Qi,Pv<|i+1,λσ' H' p'=>⟨n - (i+1),by lia,rfl,Qi,p'⟩,λx H' y=>?_⟩;obtain⟨e,y⟩:=y;subst e y;exact hs i σ _ Qi p
 ·have e:i=n:=by lia
  subst e;exact .inl ⟨LQ _,hd σ H p⟩
end L2
namespace OD
open PySem L2
def gU(n:Nat)(num:Nat)(l:Int):Md:=decide (num / 2 ^ (n - (absI l).toNat) % 2=1) == decide (0 < l)
def Aa(n:Nat)(cs:gV (gV Int))(num:Nat):Md:=cs.all λc=>c.any<|gU n num
def cG(t:Str)(cs:gV (gV Int)):Nat->Nat->Nat->Md
 |0,_,num=>Aa t.length cs num
 |f+1,i,num=>if cF t i=LI then cG t cs f (i+1) (2*num) || cG t cs f (i+1) (2*num+1)else cG t cs f (i+1) (2*num)&&cG t cs f (i+1) (2*num+1)
def js(bs:gV Md):Nat:=bs.foldl (λa b=>2*a+(if b=LI then 1 else 0)) 0
theorem oI(bs:gV Md)(b:Md):js (bs++[b])=2*js bs+(if b=LI then 1 else 0):=by
 unfold js;rw[Qw];rfl
theorem Ab(m r e:Nat)(h:r < 2):(2*m+r) / 2 ^ (e+1)=m / 2 ^ e:=by
 rw[QM,Z9 (2 ^ e) 2,<-Nat.div_div_eq_div_mul];have:(2*m+r) / 2=m:=by lia
 rw[this]
theorem Ac{P:gV Md->Prop}(h0:P [])(hs:∀bs b,P bs->P (bs++[b]))(bs:gV Md):P bs:=by
 have:∀(r:gV Md),P r.reverse:=by
  intro r
  induction r with
  |nil=>exact h0
  |cons b r ih=>
   rw[Tv];exact hs _ _ ih
 have z:=this bs.reverse
 rwa [QD]at z
theorem Ad(bs:gV Md):∀j,j < bs.length->bs[j]? =A' (decide (js bs / 2 ^ (bs.length - 1 - j) % 2=1)):=by
 induction bs using Ac with
 |h0=>intro j h;cases h
 |hs bs b ih=>
  intro j hj;rw[LX,Mz]at hj ⊢;rw[oI];by_cases e:j < bs.length
  ·rw[Nd e,ih j e];have e1:bs.length+1 - 1 - j=(bs.length - 1 - j)+1:=by lia
   rw[e1,Ab _ _ _ (by split<;>lia)]
  ·have e1:j=bs.length:=by lia
   subst e1;rw[Nh<|LQ _,PF];have e2:bs.length+1 - 1 - bs.length=0:=by lia
   rw[e2,Nat.pow_zero,Nat.div_one];show A' b=_
   cases b with
   |true=>rw[Ml rfl];congr 1;symm;exact Ma (by lia)
   |false=>rw[Mi Mb];congr 1;symm;exact LW (by lia)
theorem DI(h1:1<=absI l)(h2:absI l<=(bs.length:Int)):hit bs l=gU bs.length (js bs) l:=by
 unfold hit gU;rw[Ad bs (absI l - 1).toNat<|by lia];have e:bs.length - 1 - (absI l - 1).toNat=bs.length - (absI l).toNat:=by lia
 rw[e]
theorem rK(k:Nat):((2:Int) ^ k)=((2 ^ k:Nat):Int):=by
 induction k with
 |zero=>rfl
 |succ k ih=>rw[Int.pow_succ,ih,QM,Int.natCast_mul];rfl
theorem vZ(n:Nat):(1:Int)*2 ^ ((n:Int)).toNat=((2 ^ n:Nat):Int):=by
 rw[Int.one_mul,M3,rK]
theorem DJ(num k:Nat):P4 ((num:Int) / 2 ^ k) 1=((num / 2 ^ k % 2:Nat):Int):=by
 have e0:P4 ((num:Int) / 2 ^ k) 1=(num:Int) / 2 ^ k % 2:=UI _;rw[e0,rK];lia
theorem Ae(num k:Nat):decide (V.int (P4 ((num:Int) / 2 ^ k) 1)=V.int 1)=decide (num / 2 ^ k % 2=1):=by
 rw[DJ];refine OU.mpr ⟨λh=>?_,λh=>?_⟩
 ·have h1:=V.int.inj h;lia
 ·rw[h];rfl
theorem DK{n:Nat}{num:Nat}{z:Int}(h2:absI z<=(n:Int))(h1:1<=absI z):decide (V.bl (decide (V.int (P4 ((num:Int) / 2 ^ ((n:Int) - absI z).toNat) 1)=V.int 1))=V.bl (decide (0 < z)))=gU n num z:=by
 rw[pJ,Ae];unfold gU;have e:((n:Int) - absI z).toNat=n - (absI z).toNat:=by lia
 rw[e]
def uz(t:Str)(cs:gV (gV Int))(i:Nat):gV V:=(Nr (2 ^ i)).map λm=>V.bl<|cG t cs (t.length - i) i m
theorem Af{t:Str}{cs:gV (gV Int)}{i m:Nat}(h:m < 2 ^ i){j:Int}(hj:j=(m:Int)):kL (uz t cs i) j=A' (.bl<|cG t cs (t.length - i) i m):=by
 subst hj;refine cb ?_;unfold uz;rw[Mp,QT h];rfl
theorem Ag(h:k < t.length)(m:Nat):cG t cs (t.length - k) k m=if cF t k=LI then cG t cs (t.length - (k+1)) (k+1) (2*m) || cG t cs (t.length - (k+1)) (k+1) (2*m+1)else cG t cs (t.length - (k+1)) (k+1) (2*m)&&cG t cs (t.length - (k+1)) (k+1) (2*m+1):=by
 have e:t.length - k=(t.length - (k+1))+1:=by lia
 rw[e];rfl
def LV(H:Hp)(p:LJ)(t:Str)(cs:gV (gV Int))(lo:Nat)(xs:gV V):Prop:=∀d:Nat,d < xs.length->∃a,xs[d]? =A' (.ref a)/\a≠p/\H a=A' (.lst<|uz t cs<|lo+d)
theorem LV.keep(h:LV H p t cs lo xs)(k:∀b o,H b=A' o->b≠p->H' b=A' o):LV H' p t cs lo xs:=λd hd=>by
 obtain⟨a,h1,h2,h3⟩:=h d hd;exact⟨a,h1,h2,k a _ h3 h2⟩
theorem LV.cons(h:LV H p t cs lo xs)(ha:a≠p)(hr:H a=A' (.lst<|uz t cs lo'))(e:lo'+1=lo):LV H p t cs lo' (.ref a::xs):=λd hd=>by
 cases d with
 |zero=>exact⟨a,rfl,ha,hr⟩
 |succ d=>
  obtain⟨b,h1,h2,h3⟩:=h d (by simpa using hd);have e1:lo'+(d+1)=lo+d:=by lia
  exact⟨b,by simpa using h1,h2,by rw[e1];exact h3⟩
theorem LV.at(h:LV H p t cs 0 xs)(hd:d < xs.length)(hj:j=(d:Int)):∃a,kL xs j=A' (.ref a)/\H a=A' (.lst<|uz t cs d):=by
 obtain⟨a,h1,_,h3⟩:=h d hd;rw[Qe]at h3;subst hj;exact⟨a,cb h1,h3⟩
theorem hand_at(h:H l=A' (.lst [.str<|G' "spoiler",.str<|G' "wisher"]))(b:Md)(q:Q (.str<|aK b) H):I_ K (.ref l) (.int (if b then 1 else 0)) H Q:=by
 refine .inl ⟨l,_,_,.str<|aK b,rfl,rfl,SqL.of h,?_,q⟩;cases b<;>rfl
theorem SOk.rng(h:SOk m t cs):Iu 0 t.length cs:=λc hc l hl=>⟨by have:=(h.cl c hc).pos l hl;lia,(h.cl c hc).2 l hl⟩
theorem DL(h:Q (σ.set i<|A' v) H):gh i v σ H Q:=h
end OD
namespace L2
open PySem PySem.Spec PyProof.Rows
structure Flies (P:Mm)(w:MK)(outer:gV Env)(H:Hp)(s:LR)(H':Hp)(B:M8)(ea:LJ)(cls a0:LF)(s':LR):Prop where
 os:s'.os=s.os
 bare:Ss s'.gens
 fly:Z3 B outer ea cls a0 s'.heap
 hok:HOk P w H' B
 keep:∀b o,s.heap.get? b=A' o->H b=LL->b∉iz outer->B.get? b=A' o
 thr:∀b o,s.heap.get? b=A' o->b∉iz outer->∃o',B.get? b=A' o'
 slot:∀b o,s.heap.get? b=A' o->H b=LL->b∈iz outer->∃sl,s'.heap.get? b=A' {o with slots:=sl}
 free:∀b o,s.heap.get? b=A' o->H b=LL->H' b=LL
 tups:∀b xs,H b=A' (.tup xs)->H' b=A' (.tup xs)
 frzs:∀b o u,H b=A' (.frz o u)->H' b=A' (.frz o u)
 tbls:∀b ps,H b=A' (.tbl ps)->∃more,H' b=A' (.tbl<|ps++more)
def fF(P:Mm)(w:MK):xL:=λouter H s E e s'=>∃(H':Hp) (B:M8) (ea:LJ) (cls a0:LF),e=.ref ea/\Flies P w outer H s H' B ea cls a0 s'/\E cls LL H'
theorem Flies.slotted(f:Flies P w outer H s H' B ea cls a0 s')(up:s'.heap.UpToSlots h')(e:s.heap.get? b=A' o)(n:H b=LL)(hb:b∈iz outer):∃sl,h'.get? b=A' {o with slots:=sl}:=by
 obtain⟨sl,e1⟩:=f.slot b o e n hb;obtain⟨_,o1,e2,nf⟩:=f.fly.2.2.1.mem (b:=b) hb;rw[e1]at e2;cases e2;obtain⟨sl',e3⟩:=up b _ e1 nf;exact⟨sl',e3⟩
theorem HOk.hid(x:HOk P w H h)(n:∀b∈l,H b=LL):HOk P w H (O7 h l):=λa o e=>
 (x a o e).stay (λb u hb q=>O9 _ q λhm=>by
  obtain rfl|hb:=hb
  ·rw[n b hm]at e;cases e
  ·rw[n b hm]at hb;cases hb) (λ_ q=>q) λ_ _ q=>q
section
variable {P:Mm}{w:MK}{K:K'}{mg:Str->LH LF}{base:M8}{N:gV Str}{qual:Str}{scope:QP}{f:LJ}{cd:LF}{A:Nl}{outer:gV Env}{s:LR}{H:Hp}{E:XK}
theorem JA:gE (fF P w) (cL (fF P w) P w K mg base N qual scope f cd A outer s H E) E:=by
 intro LO σ H1 s1 e s2 I h;obtain⟨H',B,ea,cls,a0,rfl,fl,hE⟩:=h;have Qi:∀b o,s.heap.get? b=A' o->b∉iz outer->b∉iz (Nj qual scope s.heap.objs.size f cd::outer):=λb o e hb hm=>by
  obtain⟨env,he,hf⟩:=M4.mp hm;obtain rfl|he:=Mn.mp he
  ·have:s.heap.objs.size=b:=MC hf;exact absurd (Mj e) (by rw[this];exact Om b)
  ·exact hb<|M4.mpr ⟨env,he,hf⟩
 have aak:∀b,b∈iz outer->b∈iz (Nj qual scope s.heap.objs.size f cd::outer):=λb hb=>by
  obtain⟨env,he,hf⟩:=M4.mp hb;exact M4.mpr ⟨env,LY _ he,hf⟩
 show wpAny (MB P w) _ (WJ (Nj qual scope s.heap.objs.size f cd)<|.ref ea) _ _ s2
 refine wpAny_leaves_onW (base:=B) (cls:=cls) (a0:=a0) (outer:=outer) (L:=s.heap.objs.size) I.ok.frames rfl fl.fly λh' aih up=>⟨H',B,ea,cls,a0,rfl,⟨?_,fl.bare,aih,fl.hok,λb o e n hb=>?_,λb o e hb=>?_,λb o e n hb=>?_,λb o e n=>?_,λb xs e=>?_,λb o u e=>?_,λb ps e=>?_⟩,hE⟩
 ·exact fl.os.trans I.os
 ·exact fl.keep b o (I.base.keep b o e n hb<|by intro z;cases z) (I.base.free b o e n<|by intro z;cases z)<|Qi b o e hb
 ·obtain⟨o1,e1⟩:=I.base.there b o e (by intro z;cases z);exact fl.thr b o1 e1<|Qi b o e hb
 ·obtain⟨sl,e1⟩:=I.base.slot b o e n hb (by intro z;cases z);obtain⟨sl2,e2⟩:=fl.slotted up e1 (I.base.free b o e n<|by intro z;cases z)<|aak b hb;exact⟨sl2,e2⟩
 ·obtain⟨o1,e1⟩:=I.base.there b o e (by intro z;cases z);exact fl.free b o1 e1 (I.base.free b o e n<|by intro z;cases z)
 ·exact fl.tups b xs<|I.base.tups b xs e
 ·exact fl.frzs b o u<|I.base.frzs b o u e
 ·obtain⟨m1,e1⟩:=I.base.tbls b ps e;obtain⟨m2,e2⟩:=fl.tbls b _ e1;exact⟨m1++m2,by rw[e2,S5]⟩
theorem JB(I:Inv (cL (fF P w) P w K mg base N qual scope f cd A outer s H E) LO σ H1 s1)(hx:Heap.MadeExcOf s1.heap h2 ea cls vs)(hE:E cls LL H1):
  (cL (fF P w) P w K mg base N qual scope f cd A outer s H E).xe (.ref ea) {s1 with heap:=h2}:=by
 have Qi:∀b o,s.heap.get? b=A' o->b∉iz outer->b∉iz (Nj qual scope s.heap.objs.size f cd::outer):=λb o e hb hm=>by
  obtain⟨env,he,hf⟩:=M4.mp hm;obtain rfl|he:=Mn.mp he
  ·have:s.heap.objs.size=b:=MC hf;exact absurd (Mj e) (by rw[this];exact Om b)
  ·exact hb<|M4.mpr ⟨env,he,hf⟩
 have aak:∀b,b∈iz outer->b∈iz (Nj qual scope s.heap.objs.size f cd::outer):=λb hb=>by
  obtain⟨env,he,hf⟩:=M4.mp hb;exact M4.mpr ⟨env,LY _ he,hf⟩
 have ZP:s1.heap.FunFrames base (Nj qual scope s.heap.objs.size f cd::outer):=I.stack;have XA:∀b∈iz (Nj qual scope s.heap.objs.size f cd::outer),H1 b=none:=I.stkFree;have S9:∀env∈(Nj qual scope s.heap.objs.size f cd::outer),∀b,env.frame=A' b->b∈iz (Nj qual scope s.heap.objs.size f cd::outer):=λenv he b hb=>M4.mpr ⟨env,he,hb⟩;have hff:=PySem.W.funFrames_hide ZP S9;show wpAny (MB P w) _ (WJ (Nj qual scope s.heap.objs.size f cd)<|.ref ea) _ _ {s1 with heap:=h2}
 refine wpAny_leaves_madeW (base:=O7 s1.heap<|iz<|Nj qual scope s.heap.objs.size f cd::outer) (h:=s1.heap) (outer:=outer) (L:=s.heap.objs.size) I.ok.frames rfl (λb o q=>SE _ q) hff hx λh' t fly tup bt up=>⟨H1,_,ea,cls,_,rfl,⟨?_,I.bare,fly,I.hok.hid XA,λb o e n hb=>?_,λb o e hb=>?_,λb o e n hb=>?_,λb o e n=>?_,λb xs e=>?_,λb o u e=>?_,λb ps e=>?_⟩,hE⟩
 ·exact I.os
 ·exact O9 _ (I.base.keep b o e n hb<|by intro z;cases z)<|Qi b o e hb
 ·obtain⟨o1,e1⟩:=I.base.there b o e (by intro z;cases z);exact⟨o1,O9 _ e1<|Qi b o e hb⟩
 ·obtain⟨sl,e1⟩:=I.base.slot b o e n hb (by intro z;cases z);obtain⟨_,o1,e2,nf⟩:=ZP.mem (b:=b)<|aak b hb;rw[e1]at e2;cases e2;obtain⟨sl',e3⟩:=up b _ (hx.keeps b _ e1) nf;exact⟨sl',e3⟩
 ·exact I.base.free b o e n (by intro z;cases z)
 ·exact I.base.tups b xs e
 ·exact I.base.frzs b o u e
 ·exact I.base.tbls b ps e
end
theorem Fun.okX{P:Mm}{w:MK}{K:K'}{mg:Str->LH LF}{base:M8}{x qual:Str}{st:NN}{f:LJ}{fd:Ms}{N ps:gV Str}{k:Nat}{sp:Sp}(F:Fun K x qual st f fd)(S:aq N ps (aj st))(len:∀vs H Q E,sp vs H Q E->vs.length=ps.length)
  (aap:∀OT A outer s H vs Q E,Room k (A.deeper<|Nj qual (aj st) s.heap.objs.size f OT)->sp vs H Q E->
   ∃t,PSs (cL (fF P w) P w K mg base N qual (aj st) f OT A outer s H E) (dj st) t/\t {nx:=λ_ H'=>Q .non H',rt:=Q} (start N vs) H):FnOk P w K mg base (fF P w) (k+1) f fd ps sp:=by
 obtain⟨oc,od,kV,Wz,pm,an,OT,ct,osl,rfl,lk,hcd⟩:=F.ex;refine E9 lk hcd S len λA outer s H vs Q E hr hsp=>?_;obtain⟨t,h,q⟩:=aap OT A outer s H vs Q E hr hsp;exact⟨t,h,q⟩
theorem FnOk.down{P:Mm}{w:MK}{K:K'}{mg:Str->LH LF}{base:M8}{k:Nat}{f:LJ}{fd:Ms}{ps:gV Str}{sp sp':Sp}(F:FnOk P w K mg base (fF P w) k f fd ps sp)(h:∀vs H Q E,sp' vs H Q E->sp vs H Q E0):FnOk P w K mg base b7 k f fd ps sp':=
 ⟨λvs H Q E q=>F.len vs H Q E0<|h _ _ _ _ q,λA outer s H args us vs Q E hr e0 hb hv q=>Sn (F.run A outer s H args us vs Q E0 hr e0 hb hv<|h _ _ _ _ q) λr s' hq=>by
  cases r with
  |error e=>
   obtain⟨_,_,_,_,_,_,_,z⟩:=hq;exact z.elim
  |ok fl=>cases fl<;>exact hq⟩
def Hj(h:M8)(C:LJ)(bmB:gV LF)(Xz:O3):Prop:=
 ∃(bm:gV LF) (N:LJ) (nm q:Str) (bs:gV LF) (hdct:Md) (sn:gV Str) (sub:gV LF) (ab:Md) (col:LH Md) (dd:LH LJ) (k0 k1 k2 k3 k5:LH LF) (mN:Str->LH LF),
  h.get? C=A' (excClassObj nm q C N bs bm hdct sn sub ab col dd k0 k1 k2 k3 k5 Xz)/\h.Ns N mN/\mN "__init__"=LL/\OwnTail h bmB bm
theorem DM{K:K'}{h:M8}{C:LJ}{bmB:gV LF}{Xz:O3}(X:K.In h)(q:Qm K C bmB Xz=LI):Hj h C bmB Xz:=by
 unfold Qm at q
 split at q
 case h_2=>cases q
 case h_1 dd cd sl ho=>
  split at q
  case h_2=>cases q
  case h_1 C' bm k0 k1 k2 k3 n k5 hm hs=>
   rw[MO,MO,MO,MO,MO]at q;obtain⟨⟨⟨⟨⟨q1,q2⟩,q3⟩,q4⟩,q5⟩,q6⟩:=q;have e1:C'=C:=Pf.mp q1;have e2:n=Xz:=Pf.mp q2;have e6:=Pf.mp q6;subst e1 e2;obtain⟨nm,bs,mro,ns,qn,hd,sn,sub,ab,col,del⟩:=cd;have em:mro=.ref C'::bm:=hm;have ed:del=false:=by simpa using q3
   have es:sl=#[k0,k1,k2,k3,A'<|.builtin n,k5]:=RT.mp hs;subst em ed es;exact⟨bm,ns,nm,qn,bs,hd,sn,sub,ab,col,dd,k0,k1,k2,k3,k5,_,X _ _ ho,.of_isNs<|PySem.W.isNs_of_in X q5,PySem.W.nsMap_none_of_in X q5 e6,PySem.W.tail_of_in X q4⟩
def Hk(C:LJ)(E:XK)(t:TA):TS:=λ_ σ H=>t σ H λvs H1=>vs.length<=sizeLine/\E (.ref C) LL H1
theorem eU{P:Mm}{w:MK}{K:K'}{mg:Str->LH LF}{base:M8}{N:gV Str}{qual:Str}{scope:QP}{f:LJ}{cd:LF}{A:Nl}{outer:gV Env}{s:LR}{H:Hp}{E:XK}{e:Nt}{es:gV Nt}{t:TA}{np Sj pos:Pos}(q:Qm K C bmB Xz=LI)(FB:ExcBaseFacts B Xz adY bmB)(hm:mg x=A' (.ref C))
  (hg:Gl (cL (fF P w) P w K mg base N qual scope f cd A outer s H E) x) (ha:PA (cL (fF P w) P w K mg base N qual scope f cd A outer s H E) (e::es) t) (hd:(x == ("__debug__":Str))=false:=by decide)
  (he:MT (e::es) (Nj qual scope s.heap.objs.size f cd)=(LM,Oj e<|Nj qual scope s.heap.objs.size f cd)::MT es (Nj qual scope s.heap.objs.size f cd):=by rfl)
  (X3:(O_ Sj<|MT (e::es)<|Nj qual scope s.heap.objs.size f cd).any (·.1)=false:=by rfl):
  PS (cL (fF P w) P w K mg base N qual scope f cd A outer s H E) (.Raise (A'<|.Call (.Name x np) (e::es) [] Sj) LL pos) (Hk C E t):=by
 intro LO s1 σ H1 D I h;obtain⟨bm,N',nm,q',bs,hdct,sn,sub,ab,col,dd,k0,k1,k2,k3,k5,mN,h1,h2,h3,h4⟩:=DM I.mod.kin q;refine wpAny_Raise_call_subT (C:=C) (nm:=nm) (q:=q') (N:=N') (bs:=bs) (bm:=bm) (hdct:=hdct) (sn:=sn) (sub:=sub) (ab:=ab) (col:=col) (dd:=dd) (k0:=k0) (k1:=k1) (k2:=k2) (k3:=k3) (k5:=k5) (mN:=mN) FB (h4.hasType FB.hasBase) (I.ok.hd rfl) X3 h3<|lq I hg hm ⟨rfl,?_⟩ hd;show wpAny _ _ (evalArgs (.ref C) LI (O_ Sj<|MT (e::es)<|Nj qual scope s.heap.objs.size f cd) []) _ _ s1
 rw[he];have hsp:=ha Sj LO s1 σ H1 _ I h;have aff:wpAny (MB P w) _ (spliced<|O_ Sj<|MT (e::es)<|Nj qual scope s.heap.objs.size f cd) _ _ s1:=hsp;rw[he]at aff;refine R3<|Nv aff (λus s2 hz=>?_) λ_ _ z=>z;obtain⟨vs,H2,I2,r,z,hE⟩:=hz;refine⟨rfl,?_,I2.bk _ _ h1,h2.keeps I2.bk,h4.keeps I2.bk,λh' ea hx=>JB I2 hx hE⟩;show us.length<=sizeLine
 rw[<-r.length];exact z
structure zb (P:Mm)(w:MK)(K:K')(mg:Str->LH LF)(base:M8)(k:Nat)(x:Str)(f:LJ)(fd:Ms)(ps:gV Str)(sp:Sp):Prop where
 ok:FnOk P w K mg base (fF P w) k f fd ps sp
 b:Binds K fd ps []
 kp:Pk K (.ref f)=LI
 at_:mg x=A' (.ref f)
theorem uA{P:Mm}{w:MK}{K:K'}{mg:Str->LH LF}{base:M8}{N:gV Str}{qual:Str}{scope:QP}{f:LJ}{cd:LF}{A:Nl}{outer:gV Env}{s:LR}{H:Hp}{E:XK}{p pos:Pos}{e:Nt}{es:gV Nt}{t:TA}(G:zb P w K mg base j x f' fd ps sp)(hr:Room k (cL (fF P w) P w K mg base N qual scope f cd A outer s H E).A)(hjk:j<=k)
  (hg:Gl (cL (fF P w) P w K mg base N qual scope f cd A outer s H E) x) (ha:PA (cL (fF P w) P w K mg base N qual scope f cd A outer s H E) (e::es) t) (hdb:(x == ("__debug__":Str))=false:=by decide)
  (he:MT (e::es) (cL (fF P w) P w K mg base N qual scope f cd A outer s H E).env=(LM,Oj e (cL (fF P w) P w K mg base N qual scope f cd A outer s H E).env)::MT es (cL (fF P w) P w K mg base N qual scope f cd A outer s H E).env:=by rfl)
  (X3:(O_ pos<|MT es (cL (fF P w) P w K mg base N qual scope f cd A outer s H E).env).any (·.1)=false:=by rfl):
  PE (cL (fF P w) P w K mg base N qual scope f cd A outer s H E) (.Call (.Name x p) (e::es) [] pos) (qX sp [] E t):=
 pL G.ok (hr.mono hjk) hg G.at_ G.kp G.b .nil JA ha hdb he X3
end L2
namespace OD
open PySem L2
def jY(bs:gV Md)(v:Int)(p:Md):V:=if((bs.length:Nat):Int) < v then .non else match bs[(v - 1).toNat]? with
 |some b=>.bl<|b == p
 |none=>.non
theorem mx(h:((bs.length:Nat):Int) < v):jY bs v p=.non:=by
 unfold jY;rw[Ml h]
theorem oJ(h1:1<=v)(h2:v<=((bs.length:Nat):Int)):∃b,kL (bs.map V.bl) (v - 1)=A' (.bl b)/\jY bs v p=.bl (b == p):=by
 obtain⟨w,h3,h4⟩:=uw (xs:=bs.map V.bl) (i:=v - 1) (by lia) (by rw[J'];lia);obtain⟨b,rfl,hb⟩:=DH h3;exists b,h4;unfold jY;rw[Mi (by lia),hb]
end OD
namespace L2
open PySem PySem.Spec PyProof.Rows
def JC:V->LH Int->LH Int->Hp->VK->Prop:=λx lo hi H Q=>∃t,x=.str t/\t.length<=sizeLine/\Q (.str<|Xm t lo hi) H
theorem Hl:IT X JC:=by
 intro LO s σ H x v vl vu lo hi sl Q I rx hs pl pu h;obtain⟨t,rfl,hz,q⟩:=h;obtain⟨k,rfl⟩:=rx;exists "str",_,F.slot_str_getitem.lookup,SB _ _ _;have key:∀t' n,EP X LO σ Q (.str (Xm t lo hi) t') {s with toks:=n}:=λt' n=>⟨.str _,H,I.tok _,⟨_,rfl⟩,q⟩;have hz2:=MD (Txt.slice_le t lo hi) hz;cases pl with
 |none=>
  cases pu with
  |none=>exact PZ (l:=LL) (u:=LL) (st:=LL) hs rfl<|R_ ⟨hz2,key⟩
  |int j uj=>exact PZ (l:=LL) (u:=A' (j,uj)) (st:=LL) hs rfl<|R_ ⟨hz2,key⟩
 |int i ui=>
  cases pu with
  |none=>exact PZ (l:=A' (i,ui)) (u:=LL) (st:=LL) hs rfl<|R_ ⟨hz2,key⟩
  |int j uj=>exact PZ (l:=A' (i,ui)) (u:=A' (j,uj)) (st:=LL) hs rfl<|R_ ⟨hz2,key⟩
def Fq(K:K'):R2:=λx y H Q=>∃a b xs ys,x=.ref a/\y=.ref b/\SqT K H a xs/\SqT K H b ys/\ys≠[]/\xs.length+ys.length<=sizeLine/\
 (xs=[]->Q (.ref b) H)/\(xs≠[]->∀p,H p=LL->Q (.ref p) (upd H p<|.tup<|xs++ys))
theorem DN:OpR X (Pz .Add) (Fq X.K):=by
 intro LO s σ H x y v u Q I rx ry h;obtain⟨a,b,xs,ys,rfl,rfl,ha,hb,hy,hz,q1,q2⟩:=h;by_cases hx:xs=[]
 ·cases rx;cases ry;obtain⟨NH,r1,p1,_⟩:=I.tuple ha;obtain⟨XI,r2,p2,_⟩:=I.tuple hb;have hw:=r1.nil_iff.mpr hx;obtain⟨⟨cls,dd,data,sl⟩,ho,hc,n,hd⟩:=id p1;obtain⟨⟨af1,dd2,data2,sl2⟩,ho2,hc2,n2,X4⟩:=id p2;simp only at hc hd hc2 X4;subst hc hd hc2 X4;exact Uv ⟨_,ho,rfl⟩ ⟨_,ho2,rfl⟩ RN TQ Qc P3 (PN _ _)
   (tuple_addW0 a b NH.toArray XI.toArray n n2 dd dd2 sl sl2<|by simp [hw]) ⟨ho,ho2,.ref b,H,I,rfl,q1 hx⟩
 ·exact vN LO s σ H _ _ v u Q I rx ry ⟨a,b,xs,ys,rfl,rfl,ha,hb,hx,hz,λz=>absurd z hy,λ_=>q2 hx⟩
theorem uB(h0:0<=i)(h2:i<=x.length):Xm x (A' i) LL=⟨(x.cps.toList.drop i.toNat).toArray⟩:=by
 have z:=slice_closes_fromL (x:=x) h0 h2 rfl;rw[eq_of_beq z]
 congr 2
 refine L8 ?_;rw[N6,Mr];have:x.cps.size=x.length:=rfl;lia
end L2
namespace OD
open PySem L2
theorem Ah(xs:gV V)(k:Nat):cQ xs (A' (k:Int)) LL=xs.drop k:=by
 unfold cQ;rw[HT.sIx_nat];show(xs.drop<|min k xs.length).take (xs.length - min k xs.length)=_
 by_cases h:k<=xs.length
 ·rw[Nat.min_eq_left h,L8<|by rw[N6];lia]
 ·rw[Nat.min_eq_right (by lia),Qf<|LQ _,Qf (by lia),List.take_nil]
end OD
namespace L2
open PySem PySem.Spec PyProof.Rows
def Kt(x:Str):It:=⟨λi _=>i < x.cps.size,λi H v H'=>H'=H/\∃c,x.cps[i]? =A' c/\v=.str ⟨#[c]⟩,λi _=>x.cps.size<=i⟩
theorem Ai{P:Mm}{w:MK}{K:K'}{tg:Nt}{ty:O3}{x:Str}{t:Tok}(it:LJ)(hty:ty="str_ascii_iterator"\/ty="str_iterator"):tZ P w K tg (Kt x) [it] it (λi h=>h.IsStrIter it ty x t i) where
 mem:=by simp
 obj:=λi h st b hb=>by
  have e:b=it:=by simpa using hb
  subst e;obtain⟨o,e,c,d⟩:=st;exact⟨o,e,λv z=>by rw[d]at z;cases z⟩
 keep:=λi h h' st k=>by
  obtain⟨o,e,c⟩:=st;exact⟨o,k it (by simp) o e,c⟩
 item:=by
  intro X hP hw hK hc i LO s σ H E I hf st hg;subst hP hw hK;obtain⟨f0,f1,f2,f3,f4,f5⟩:=hf it (by simp);have hx:x.cps[i]? =A' (x.cps[i]'hg):=Array.getElem?_eq_getElem hg;have S6:∀h',h'.IsStrIter it ty x t (i+1)->PD it s.heap h'->∃u,A' (Uc ⟨#[x.cps[i]'hg]⟩ s.toks)=A' u/\
    wpAny (MB X.prog X.w) X.A (Qj tg (.ref it) u) (λ_ s2=>∃x_1 H',Inv X LO σ H' s2/\RelV x_1 u/\(Kt x).yld i H x_1 H'/\s2.heap.IsStrIter it ty x t (i+1)/\∀b∈[it],H' b=LL) E {s with heap:=h',toks:=s.toks+1}:=λh' Oo sb=>by
   have I1:Inv X LO σ H {s with heap:=h',toks:=s.toks+1}:=I.turned (λb o hb e=>(sb.2 b hb).trans e) f0 f1 f3 f4 f5;obtain⟨o,e,c,d⟩:=id Oo;refine⟨_,rfl,qR (s:={s with heap:=h',toks:=s.toks+1}) e c d (by obtain rfl|rfl:=hty<;>decide) ⟨.str ⟨#[x.cps[i]'hg]⟩,H,I1,⟨_,rfl⟩,⟨rfl,_,hx,rfl⟩,Oo,λb hb=>(hf b hb).1⟩⟩
  obtain rfl|rfl:=hty
  ·exact wpAny_pyNext_ascii_item st hx S6
  ·exact wpAny_pyNext_wide_item st hx S6
 done:=by
  intro X hP hw hK hc i LO s σ H E I hf st hg;subst hP hw hK;obtain⟨f0,f1,f2,f3,f4,f5⟩:=hf it (by simp);have hx:x.cps[i]? =none:=Array.getElem?_eq_none hg;obtain rfl|rfl:=hty
  ·exact wpAny_pyNext_ascii_end (I.ok.hd hc) st hx λh' eb=>⟨rfl,I.turned (t':=s.toks) (λb o hb e=>eb b o hb e) f0 f1 f3 f4 f5⟩
  ·exact wpAny_pyNext_wide_end (I.ok.hd hc) st hx λh' eb=>⟨rfl,I.turned (t':=s.toks) (λb o hb e=>eb b o hb e) f0 f1 f3 f4 f5⟩
 self:=λA i s Q E st h=>by
  obtain rfl|rfl:=hty
  ·exact wpAny_pyIter_striter_ascii st h
  ·exact wpAny_pyIter_striter_wide st h
def Lb(tl:TE):TI:=λσ H R=>tl σ H λv H1=>∃x,v=.str x/\R (Kt x) H1
theorem Aj(hl:PE X l tl):PI X tg l (Lb tl):=by
 intro LO s σ H R I h;refine bG (hl LO s σ H _ I h) λv s1 ⟨x,H1,I1,r1,q1⟩=>?_;obtain⟨x,rfl,q⟩:=q1;obtain⟨t,rfl⟩:=r1;refine wpAny_pyIter_strU ?_;refine⟨s1.heap.objs.size,[s1.heap.objs.size],_,_,H1,rfl,I1.kept (t':=s1.toks) λb o e=>LP _ e,Ai (ty:=strIterType x) (x:=x) (t:=t) _ ?_,⟨_,MG _ rfl,rfl,rfl⟩,λb hb=>?_,q⟩
 ·unfold strIterType
  split
  ·exact .inl rfl
  ·exact .inr rfl
 have e:b=s1.heap.objs.size:=by simpa using hb
 subst e;exact I1.fpOk (LQ _)<|I1.hok.fresh<|LQ _
end L2
namespace OD
open PySem L2
def Hm:Mc->Md
 |.str _=>LI
 |_=>LM
def uC:Mc->Md
 |.list _=>LI
 |_=>LM
theorem Hn:df "NoneType" "str"=A' LM/\df "bool" "str"=A' LM/\df "int" "str"=A' LM/\df "str" "str"=A' LI/\df "list" "str"=A' LM/\df "tuple" "str"=A' false:=by
 refine⟨?_,?_,?_,?_,?_,?_⟩<;>decide+kernel
theorem DO:df "NoneType" "list"=A' LM/\df "bool" "list"=A' LM/\df "int" "list"=A' LM/\df "str" "list"=A' LM/\df "list" "list"=A' LI/\df "tuple" "list"=A' false:=by
 refine⟨?_,?_,?_,?_,?_,?_⟩<;>decide+kernel
theorem DQ(d:Mc)(h:iH d=LM):Pj K (.type<|jU d) (.type "str")=A' (Hm d):=by
 obtain⟨h1,h2,h3,h4,h5,h6⟩:=Hn;cases d with
 |none=>exact aV h1
 |bool _=>exact aV h2
 |int _=>exact aV h3
 |str _=>exact aV h4
 |list _=>exact aV h5
 |tuple _=>exact aV h6
 |dict _=>cases h
theorem Ak(d:Mc)(h:iH d=LM):Pj K (.type<|jU d) (.type "list")=A' (uC d):=by
 obtain⟨h1,h2,h3,h4,h5,h6⟩:=DO;cases d with
 |none=>exact aV h1
 |bool _=>exact aV h2
 |int _=>exact aV h3
 |str _=>exact aV h4
 |list _=>exact aV h5
 |tuple _=>exact aV h6
 |dict _=>cases h
def fO(most:Int):Int->gV Mc->Md
 |_,[]=>LI
 |b,.int i::r=>if b < absI i/\absI i<=most then fO most (absI i) r else LM
 |_,_::_=>LM
def ij(most:Int):Mc->Md
 |.tuple ds=>fO most 0 ds
 |_=>LM
theorem x_{α:Type}{l:gV α}{i:Nat}(d:α)(h:i < l.length):l.drop i=l.getD i d::l.drop (i+1):=by
 rw[OR h]
 congr 1
 simp [List.getD,h]
theorem pU(h:∀z,d≠.int z):(pQ d&&!pR d)=false:=by
 cases d with
 |int z=>exact absurd rfl<|h z
 |_=>rfl
theorem rL(h:∀z,d≠.int z):fO most b (d::r)=false:=by
 cases d with
 |int z=>exact absurd rfl<|h z
 |_=>rfl
theorem gk:fO most b (.int z::r)=if b < absI z/\absI z<=most then fO most (absI z) r else false:=rfl
theorem pV(d:Mc):(∃z,d=.int z)\/∀z,d≠.int z:=by
 cases d with
 |int z=>exact .inl ⟨z,rfl⟩
 |_=>exact .inr (λz h=>by cases h)
theorem aT(h:RD H (.int z) v):v=.int z:=by
 unfold RD at h;exact h
theorem bd(h:RD H (.str z) v):v=.str z:=by
 unfold RD at h;exact h
def DR(c:Nat):Md:=c == 119 || c == 115
def rM(t:Str):Md:=t.cps.toList.all DR
def uD:Mc->Md
 |.str t=>rM t
 |_=>LM
def fo:Mc->Md
 |.tuple [d0,.list es]=>match d0 with
  |.str t=>rM t&&es.all (ij t.length)
  |_=>LM
 |_=>LM
theorem Ho(c:Nat):gY (.str ⟨#[c]⟩) [.str<|G' "w",.str<|G' "s"]=DR c:=by
 have e1:G' "w"=⟨#[119]⟩:=by decide+kernel
 have e2:G' "s"=⟨#[115]⟩:=by decide+kernel
 have key:∀a b,((⟨#[a]⟩:Str) == ⟨#[b]⟩)=(b == a):=λa b=>by
  rw[NB,Pf,Pf];constructor
  ·intro z;have z2:#[a]=#[b]:=M0 Str.cps z;have z3:[a]=[b]:=M0 UQ z2;exact(Qn z3).1.symm
  ·intro z;rw[z]
 unfold gY DR;rw[e1,e2];show((⟨#[119]⟩:Str) == ⟨#[c]⟩ || ((⟨#[115]⟩:Str) == ⟨#[c]⟩ || LM))=_
 rw[key,key,Q3]
theorem pW{α:Type}(l:gV α)(f:α->Md):(l.map λx=>V.bl<|f x).all uy=LI/\(l.map λx=>V.bl<|f x).all iR=l.all f:=by
 constructor
 ·rw[Qh];exact Mu.mpr λ_ _=>rfl
 ·rw[Qh];rfl
def Nice(n:Nat)(d:Mc):Prop:=d.canLay0=LI/\d.depth<=n
theorem Nice.mono(h:Nice m d)(k:m<=n):Nice n d:=⟨h.1,MD h.2 k⟩
theorem jt:∀{ds:gV Mc} {n:Nat},(∀d∈ds,Nice n d)->MY ds=LI/\NK ds<=n
 |[],_,_=>⟨rfl,Mw _⟩
 |d::ds,n,h=>by
  have h1:=h d L9;have h2:=jt (ds:=ds) λx hx=>h x<|LY _ hx;refine⟨?_,?_⟩
  ·show(d.canLay0&&MY ds)=LI
   rw[h1.1,h2.1];rfl
  ·show max d.depth (NK ds)<=n
   exact Nat.max_le.mpr ⟨h1.2,h2.2⟩
theorem ya(h:∀d∈ds,Nice n d):Nice (n+1) (.list ds):=⟨(jt h).1,P7 (jt h).2⟩
theorem Al(h:∀d∈ds,Nice n d):Nice (n+1) (.tuple ds):=⟨(jt h).1,P7 (jt h).2⟩
theorem Am(n:Nat)(i:Int):Nice n (.int i):=⟨rfl,Mw _⟩
theorem ju(n:Nat)(h:PB x=LI):Nice n (.str x):=⟨h,Mw _⟩
theorem yb(n:Nat)(ns:gV Int):∀d∈ns.map NV,Nice n d:=λd hd=>by
 obtain⟨i,_,rfl⟩:=MF.mp hd;exact Am n i
theorem Nice.shaped(h:Nice 8 d):NJ d=true:=jX h.1 (MD h.2<|by decide)
theorem An(cs:gV (gV Int)):∀d∈cs.map fN,Nice 2 d:=λd hd=>by
 obtain⟨c,_,rfl⟩:=MF.mp hd;exact Al<|yb 1 c
def du(t:Str)(hw:Md):gV Int:=((Nr t.length).filter λi=>cF t i == hw).map λ(i:Nat)=>(i:Int)+1
theorem setB_iff:∀{ls:gV Int} {b:Int},fO most b (ls.map .int)=LI↔(b::ls.map absI).Pairwise (· < ·)/\∀l∈ls,absI l<=most
 |[],b=>by
  constructor
  ·intro _;exact⟨by simp,λ_ h=>nomatch h⟩
  ·intro _;rfl
 |l::r,b=>by
  rw[MH,gk];constructor
  ·intro h;by_cases c:b < absI l/\absI l<=most
   ·rw[Ml c]at h;obtain⟨h1,h2⟩:=setB_iff.mp h;refine⟨Nc.mpr ⟨λz hz=>?_,h1⟩,λz hz=>?_⟩
    ·obtain e|e:=Mn.mp hz
     ·rw[e];exact c.1
     ·have:=(Nc.mp h1).1 z e;lia
    ·obtain e|e:=Mn.mp hz
     ·rw[e];exact c.2
     ·exact h2 z e
   ·rw[Mi c]at h;cases h
  ·rintro⟨h1,h2⟩;obtain⟨h3,h4⟩:=Nc.mp h1;rw[Ml ⟨h3 (absI l) L9,h2 l L9⟩];exact setB_iff.mpr ⟨h4,λz hz=>h2 z<|LY _ hz⟩
end OD
namespace L2
open PySem
theorem DS{X:Cx}(e:X.K=K){es:gV Nt}{k n:Nat}{pos:Pos}{t:E4}(hc:X.calm=LI)(h:IF X es t)(hn:(Q9 es X.env).length=n:=by rfl)(ZP:(Q9 es X.env).findIdx? (·.1)=none:=by rfl):PG X (.Tuple es k pos) (IH K n t):=by
 subst e;exact pG hc h hn ZP
end L2
namespace HT
open PySem PyProof.Rows
theorem getItem_tuple_by{Q:LF->LR->Prop}{lo st:Int}{n:Nat}(ht:aaM s.heap t items)(hTs:s.TypeIs (.ref sl) "slice")
  (Xb:∀{A:Nl} {E:LF->LR->Prop} (Q':Int×Int×Nat->LR->Prop),Q' (lo,st,n) s->wpAny (MB prog w) A (QC (.ref sl)<|pure (items.size:Int)) Q' E s)
  (h1:(lo == 0&&st == 1&&n == items.size)=LI->Q (.ref t) s)
  (h2:(lo == 0&&st == 1&&n == items.size)=LM->n<=sizeLine/\Q (.ref s.heap.objs.size) {s with heap:=s.heap.push {cls:=.type "tuple",data:=.seq ((Nr n).filterMap λ(k:Nat)=>items[(lo+(k:Int)*st).toNat]?).toArray}}):
  wpAny (MB prog w) A (Sm (.ref t)<|.ref sl) Q E s:=by
 unfold Sm
 try with_reducible refine N3 ?_
 first|refine LG (Me ?_)|skip
 refine LG<|WG ht.typeIs (by decide) ?_;refine LG<|T_ (name:=G' "__getitem__") ht.typeIs OP<|RM OP ht.typeIs VP ?_<|Wk _ _;refine LG (m:=SU<|.ref t)<|Zq ht ?_;refine LG<|Rj hTs ?_;rw[Ml<|by decide];refine LG<|Xb _ ?_;show wpAny _ _ (if(lo == 0&&st == 1&&n == items.size)=LI then _ else _) _ _ s
 cases c:(lo == 0&&st == 1&&n == items.size)with
 |true=>
  rw[Ml rfl];refine LG<|LG<|Rj ht.typeIs<|Me ?_;rw[Ml<|by decide];exact LG<|Pg<|Me ⟨_,rfl,Me<|h1 c⟩
 |false=>
  obtain⟨hz,hq⟩:=h2 c;rw[Mi<|by decide];have hzz:sizeOk (.seq ((Nr n).filterMap λ(k:Nat)=>items[(lo+(k:Int)*st).toNat]?).toArray):=by
   show((Nr n).filterMap λ(k:Nat)=>items[(lo+(k:Int)*st).toNat]?).toArray.size<=sizeLine
   rw[Mf];exact MD (Q1 _ _) (by rw[NS];exact hz)
  first
   |exact LG (m:=N5 _)<|N_ (Me ⟨_,rfl,Me hq⟩) hzz
   |exact LG (m:=N5 _)<|N_ (LG<|Me<|Me ⟨_,rfl,Me hq⟩) hzz
   |exact LG<|LG (m:=N5 _)<|N_ (Me<|Me ⟨_,rfl,Me hq⟩) hzz
end HT
namespace L2
open PySem PySem.Spec PyProof.Rows
def JD(K:K'):R2:=λx y H Q=>∃a b xs ys,x=.ref a/\y=.ref b/\SqT K H a xs/\SqT K H b ys/\xs.length+ys.length<=sizeLine/\
 (xs=[]->Q (.ref b) H)/\(xs≠[]->ys=[]->Q (.ref a) H)/\(xs≠[]->ys≠[]->∀p,H p=LL->Q (.ref p) (upd H p<|.tup<|xs++ys))
theorem DT:OpR X (Pz .Add) (JD X.K):=by
 intro LO s σ H x y v u Q I rx ry h;obtain⟨a,b,xs,ys,rfl,rfl,ha,hb,hz,q1,q2,q3⟩:=h;by_cases hx:xs=[]
 ·cases rx;cases ry;obtain⟨NH,r1,p1,_⟩:=I.tuple ha;obtain⟨XI,r2,p2,_⟩:=I.tuple hb;have hw:=r1.nil_iff.mpr hx;obtain⟨⟨cls,dd,data,sl⟩,ho,hc,n,hd⟩:=id p1;obtain⟨⟨af1,dd2,data2,sl2⟩,ho2,hc2,n2,X4⟩:=id p2;simp only at hc hd hc2 X4;subst hc hd hc2 X4;exact Uv ⟨_,ho,rfl⟩ ⟨_,ho2,rfl⟩ RN TQ Qc P3 (PN _ _) (tuple_addW0 a b NH.toArray XI.toArray n n2 dd dd2 sl sl2<|by simp [hw]) ⟨ho,ho2,.ref b,H,I,rfl,q1 hx⟩
 ·exact vN LO s σ H _ _ v u Q I rx ry ⟨a,b,xs,ys,rfl,rfl,ha,hb,hx,hz,λz=>q2 hx z,λz=>q3 hx z⟩
def JF(K:K'):V->LH Int->LH Int->Hp->VK->Prop:=λx lo hi H Q=>∃a xs,x=.ref a/\SqT K H a xs/\
 ((HT.sIx xs.length 0 lo=0/\HT.sIx xs.length xs.length hi=xs.length)->Q (.ref a) H)/\(¬(HT.sIx xs.length 0 lo=0/\HT.sIx xs.length xs.length hi=xs.length)->∀p,H p=LL->Q (.ref p) (upd H p<|.tup<|cQ xs lo hi))
theorem DU:IT X (JF X.K):=by
 intro LO s σ H x v vl vu lo hi sl Q I rx hs pl pu h;obtain⟨a,xs,rfl,hx,q1,q2⟩:=h;by_cases hw:HT.sIx xs.length 0 lo=0/\HT.sIx xs.length xs.length hi=xs.length
 ·cases rx;obtain⟨NH,r,ht,hz⟩:=I.tuple hx;have N1:NH.toArray.size=xs.length:=by rw[Mf];exact r.length.symm
  exists "tuple",_,PyProof.Rows.slot_tuple_getitem.lookup,ht.typeIs;obtain⟨os,hos,Qx,_⟩:=id hs;have e:(((HT.sIx NH.toArray.size 0 lo:Nat):Int) == 0&&(1:Int) == 1&&(HT.sIx NH.toArray.size NH.toArray.size hi - HT.sIx NH.toArray.size 0 lo) == NH.toArray.size)=true:=by
   rw[N1,hw.1,hw.2];simp
  refine HT.getItem_tuple_by ht ⟨os,hos,Qx⟩ (λQ' hq=>HT.sliceApplied_gen hs pl pu hq) (λ_=>⟨.ref a,H,I,rfl,q1 hw⟩) λc=>?_;rw[e]at c;cases c
 ·exact GF LO s σ H _ v vl vu lo hi sl Q I rx hs pl pu ⟨a,xs,rfl,hx,hw,q2 hw⟩
end L2
namespace L2
open PySem
@[irreducible] def PEi (X:Cx) (e:Nt) (t:TE):Prop:=PE X e t
@[irreducible] def PAi (X:Cx) (es:gV Nt) (t:TA):Prop:=PA X es t
end L2
namespace KA
open PySem PyProof.Rows
def But(h0 h:M8)(a k:LJ):Prop:=∀b o,b≠a->b≠k->h0.get? b=A' o->h.get? b=A' o
theorem But.upA(k:But h0 h a kS)(f:Obj->Obj):But h0 (h.update a f) a kS:=λb o h1 h2 q=>(M6 _ _<|NC h1).trans<|k b o h1 h2 q
theorem But.upK(k:But h0 h a kS)(f:Obj->Obj):But h0 (h.update kS f) a kS:=λb o h1 h2 q=>(M6 _ _<|NC h2).trans<|k b o h1 h2 q
theorem Fs{st:Nu}(kp:But h0 s.heap a kS)(nk:s.heap.get? kS=A' (NR "list" Si e))(na:s.heap.get? a=A' (NR "list" #[] e1))(hka:kS≠a)
  (hk:PV Si.toList kz) (N1:kz.length=vs.length) (h64:vs.length < 64) (hp:(MZ st).Perm (Si.zip vs.toArray)) (hs:SortedTo (MZ st) (MZ st).size) (hfl:OS st=LL)
  (h:∀h' tk out c,But h0 h' a kS->h'.get? a=A' (NR "list" out c)->Z8 LM kz vs out.toList->P (.done<|.ret .none) {s with heap:=h',toks:=tk}):
  wpAny (MB prog w) A (ksk_tail a LM e1 (.ref kS) st) P E s:=by
 have hsz:Si.size=vs.length:=by
  have h1:=hk.length;rw[Mr]at h1;lia
 have ahk:(MZ st).size=vs.length:=by rw[hp.size_eq,YJ,hsz,Mf,Z_]
 have na1:(s.heap.update kS<|Oh λ_=>(#[]:Ou LF)).get? a=A' (NR "list" #[] e1):=(M6 _ _ hka).trans na;obtain⟨c2,hc2⟩:∃c2,((s.heap.update kS (Oh λ_=>(#[]:Ou LF))).update a (Oh λ_=>(MZ st).map (·.2))).get? a=A' (NR "list" ((MZ st).map (·.2)) c2):=
  ⟨_,R' na1 λ_=>(MZ st).map (·.2)⟩
 unfold ksk_tail
 try dsimp only
 refine LG<|Q0 nk rfl ?_ (by rw[hsz,NT];lia)<|Mw _;refine LG<|Tg ?_;refine LG<|Vp na1 rfl ?_;refine LG (Q0 na1 rfl ?_ (Mw _)<|by simp only [OZ,Ri,YK];rw[ahk,NT];lia);rw[hfl];simp only [WE,OZ,Ri];have ko:=ksk_out (b:=LM) hk hp hs;simp only [OZ,Ri]at ko;exact Me<|h _ _ _ c2 ((kp.upK _).upA _) hc2 ko
theorem Lc(kp:But h0 s.heap a kS)(nk:s.heap.get? kS=A' (NR "list" Si e))(na:s.heap.get? a=A' (NR "list" #[] e1))(hka:kS≠a)
  (hk:PV Si.toList kz) (N1:kz.length=vs.length) (h64:vs.length < 64)
  (h:∀h' tk out c,But h0 h' a kS->h'.get? a=A' (NR "list" out c)->Z8 LM kz vs out.toList->P (.done<|.ret .none) {s with heap:=h',toks:=tk}):
  wpAny (MB prog w) A (ksk_end a LM vs.toArray e1 (.ref kS) Si) P E s:=by
 have hsz:Si.size=vs.length:=by
  have h1:=hk.length;rw[Mr]at h1;lia
 have hzs:(Si.zip vs.toArray).size=vs.length:=by rw[YJ,hsz,Mf,Z_]
 unfold ksk_end
 try dsimp only
 simp only [OZ,Ri];by_cases h2:vs.toArray.size < 2
 ·rw[Ml h2,Ml h2];refine LG<|Me ?_;rw[XO];refine LG (Me ?_)
  try dsimp only
  refine Fs (st:=SV general' (Si.zip vs.toArray) #[] 7 LL) kp nk na hka hk N1 h64 (X1 _) ?_ rfl h;intro i j hij hj;have hj2:j < (Si.zip vs.toArray).size:=hj;rw[hzs]at hj2;rw[Mf]at h2;have:i=j:=by lia
  subst this;exact QF _
 ·rw[Mi h2,Mi h2];rw[Mf]at h2;rw[ksk_kind hk<|by rw[hsz];lia];refine LG<|Me ?_;refine LG (Nv (wpS_sortRuns (a₀:=Si.zip vs.toArray) (st:=SV oneType' (Si.zip vs.toArray) #[] 7 LL)
   (Q:=λ_ Oo=>(MZ Oo).Perm (Si.zip vs.toArray)/\OS Oo=LL/\SortedTo (MZ Oo) (Si.zip vs.toArray).size)
   (ksk_intKeys hk) ⟨X1 _,rfl,rfl,rfl⟩ (by rw[hzs];lia) (by rw[hzs];exact h64) λOo a1 a2 a3=>⟨a1,a2,a3⟩) ?_ λ_ _ e=>e)
  rintro⟨⟨⟩,Oo⟩ s' ⟨rfl,hp,hf,hs⟩
  try dsimp only
  exact Fs kp nk na hka hk N1 h64 hp (by rw[hp.size_eq];exact hs) hf h
theorem JG{f:LF}(kp:But h0 s.heap a kS)(nk:s.heap.get? kS=A' (NR "list" #[] 0))(na:s.heap.get? a=A' (NR "list" #[] e1))(hka:kS≠a)
  (N1:kz.length=vs.length) (h64:vs.length < 64)
  (V0:∀(i:Nat) (v:LF) (k:Int),vs[i]? =A' v->kz[i]? =A' k->∀(h:M8) (tk:Nat) (R:LF->LR->Prop),(∀tk2 t2,R (.int k t2) {s with heap:=h,toks:=tk2})->
   wpAny (MB prog w) A (call f [v]) R (λ_ _=>False) {s with heap:=h,toks:=tk})
  (h:∀h' tk out c,But h0 h' a kS->h'.get? a=A' (NR "list" out c)->Z8 LM kz vs out.toList->P (.done<|.ret .none) {s with heap:=h',toks:=tk}):
  wpAny (MB prog w) A (ksk_rest a f LM vs.toArray e1<|.ref kS) P E s:=by
 unfold ksk_rest;refine LG<|Pg ?_
 first
  |rw[List.forIn_toArray]
  |(rw[<-Ww];simp only [List.toList_toArray])
  |rw[<-Ww]
 refine LG (ksk_fold (λi s'=>∃h' tk kA e,s'={s with heap:=h',toks:=tk}/\But h0 h' a kS/\h'.get? kS=A' (NR "list" kA e)/\h'.get? a=A' (NR "list" #[] e1)/\PV kA.toList (kz.take i)) vs 0 s
  ⟨s.heap,s.toks,#[],0,rfl,kp,nk,na,by simpa using IntsAre.nil⟩ ?step ?done)
 case step=>
  rintro j x s' hx ⟨h',tk,kA,e,rfl,F',nk',na',hk⟩;simp only [Qe]at hk ⊢;have hj:j < vs.length:=(LS.mp hx).1;obtain⟨k,hkj⟩:∃k,kz[j]? =A' k:=⟨_,LU (by lia)⟩;have hz:kA.size<=vs.length:=by
   have h1:=hk.length;rw[Mr,ME]at h1;lia
  refine LG<|Y5<|Nv (V0 j x k hx hkj h' tk (λv s''=>∃tk2 t2,v=.int k t2/\s''={s with heap:=h',toks:=tk2}) λtk2 t2=>⟨tk2,t2,rfl,rfl⟩) (λv s'' he=>?_) λ_ _ hF=>hF.elim;obtain⟨tk2,t2,rfl,rfl⟩:=he
  try dsimp only
  obtain⟨c2,hc2⟩:∃c2,(h'.update kS (Oh (·.push (.int k t2)))).get? kS=A' (NR "list" (kA.push (.int k t2)) c2):=⟨_,R' nk' (·.push (.int k t2))⟩;have ek:kz.take (j+1)=kz.take j++[k]:=by rw[MM,hkj];simp
  have ea:(kA.push<|Sw k t2).toList=kA.toList++[Sw k t2]:=by simp
  refine LG (Q0 nk' rfl ?_ (by rw[NT];lia)<|MD (QN (Array.size_push ..))<|by rw[NT];lia);refine Me ⟨rfl,_,_,kA.push<|.int k t2,c2,rfl,F'.upK _,hc2,(M6 _ _ hka).trans na',by rw[ea,ek];exact ksk_snoc hk⟩
 case done=>
  rintro s' ⟨h',tk,kA,e,rfl,F',nk',na',hk⟩;have RU:PV kA.toList kz:=by
   have e3:kz.take (0+vs.length)=kz:=L8 (by lia);rw[e3]at hk;exact hk
  try dsimp only
  refine LG<|WZ nk' rfl ?_;exact Lc (s:={s with heap:=h',toks:=tk}) F' nk' na' hka RU N1 h64 h
theorem tree_{f:LF}(ho:s.heap.get? a=A' (NR "list" vs.toArray n))(N1:kz.length=vs.length)(h64:vs.length < 64)
  (V0:∀(i:Nat) (v:LF) (k:Int),vs[i]? =A' v->kz[i]? =A' k->∀(h:M8) (tk:Nat) (R:LF->LR->Prop),(∀tk2 t2,R (.int k t2) {s with heap:=h,toks:=tk2})->
   wpAny (MB prog w) A (call f [v]) R (λ_ _=>False) {s with heap:=h,toks:=tk})
  (h:∀h' tk out c,(∀b o,b≠a->s.heap.get? b=A' o->h'.get? b=A' o)->h'.get? a=A' (NR "list" out c)->Z8 LM kz vs out.toList->P (.done<|.ret .none) {s with heap:=h',toks:=tk}):
  wpAny (MB prog w) A (ksk_tree a f LM) P E s:=by
 have ha:a < s.heap.objs.size:=Mj ho;obtain⟨e1,ho1⟩:∃e1,(s.heap.update a (Oh λ_=>(#[]:Ou LF))).get? a=A' (NR "list" #[] e1):=⟨_,R' ho λ_=>#[]⟩;have hkS:((s.heap.update a (Oh λ_=>(#[]:Ou LF))).push (NR "tuple" vs.toArray 0)).objs.size=s.heap.objs.size+1:=by rw[Wj,Xo]
 unfold ksk_tree;refine LG<|WZ ho rfl ?_;refine LG<|Q0 ho rfl ?_ (by rw[Mf,NT];lia)<|Mw _;refine LG<|Vp ho1 rfl ?_;refine LG<|Yj ?_ (by show vs.length<=_;rw[NT];lia);refine LG<|RW ?_<|Mw _;refine N3 ?_;refine JG (h0:=s.heap) (s:={s with heap:=((s.heap.update a<|Oh λ_=>(#[]:Ou LF)).push<|NR "tuple" vs.toArray 0).push<|NR "list" #[] 0}) (kS:=((s.heap.update a<|Oh λ_=>(#[]:Ou LF)).push<|NR "tuple" vs.toArray 0).objs.size)
  (λb o h1 h2 q=>LP _<|LP _<|(M6 _ _<|NC h1).trans q) (MG _ rfl) (LP _<|LP _ ho1) (by rw[hkS];exact PH<|OJ ha) N1 h64 V0
  λh' tk out c k1 k2 k3=>h h' tk out c (λb o hb q=>k1 b o hb (by rw[hkS];exact Mx<|OJ<|Mj q) q) k2 k3
end KA
namespace L2
open PySem PySem.Spec PyProof.Rows
theorem Ao(hi:PV vs ns)(ko:Z8 LM (ns.map g) vs out):∃V2,PV out V2/\V2.Perm ns/\(V2.map g).Pairwise (·<=·):=by
 obtain⟨ps,hp,ho,hs⟩:=ko;have N1:=hi.length;have aci:∀p,p∈(ns.map g).zip vs->p.1=g (ZM p.2)/\p.2∈vs:=by
  rw[<-hi.nums,M9,List.zip_map_left];intro p hp;obtain⟨⟨u,v⟩,hq,rfl⟩:=MF.mp hp;have h1:u=v/\u∈vs:=UG hq;refine⟨?_,?_⟩
  ·show g (ZM u)=g (ZM v)
   rw[h1.1]
  ·show v∈vs
   rw[<-h1.1];exact h1.2
 have hI:PV (ps.map W1) ((ps.map W1).map ZM):=intsAre_map _ λv hv=>by
  obtain⟨p,hp',rfl⟩:=MF.mp hv;exact hi.all _ (aci p<|hp.mem_iff.mp hp').2
 have hP:((ps.map W1).map ZM).Perm ns:=by
  have h1:=(hp.map W1).map ZM;rw[Xw (by rw[J'];lia),hi.nums]at h1;exact h1
 exists (ps.map W1).map ZM,by rw[ho];exact hI,hP;rw[Ny,Ny,Ny];refine hs.imp_of_mem λ{p q} hp' hq' hr=>?_;have hr':p.1<=q.1:=by simpa using hr
 rw[(aci p<|hp.mem_iff.mp hp').1,(aci q<|hp.mem_iff.mp hq').1]at hr';exact hr'
theorem yc{Q:VK}(I:Inv X LO σ H s)(hq:SqL X.K H p (ns.map V.int))(h64:ns.length < 64)
  (q:∀(l:LJ) (V2:gV Int),H l=LL->V2.Perm ns->(V2.map OD.absI).Pairwise (·<=·)->Q (.ref l) (upd H l<|.lst<|V2.map V.int)):
  wpAny (MB X.prog X.w) X.A (call (.builtin "sorted") [.ref p] [(G' "key",.builtin "abs")]) (EP X LO σ Q) X.xe s:=by
 obtain⟨vs,rv,pl,hz⟩:=I.list hq;have hi:=lZ rv;have N1:vs.length=ns.length:=YF hi;refine call_function_entry_kw XH WX W0 (ksk_s1 _ _) ?_;unfold Builtin.«sorted»;refine LG (m:=Yp "sorted" 1 1 _)<|Me ?_;refine LG (collect_list pl.isList ?_<|by rw[NT];lia);refine LG (RW ?_<|by rw[NT];lia);have hsz:((s.heap.push<|NR "list" #[] 0).update s.heap.objs.size (Oh (·++vs.toArray))).objs.size=s.heap.objs.size+1:=by
  rw[Xo,Wj]
 have hoL:(((s.heap.push<|NR "list" #[] 0).update s.heap.objs.size (Oh (·++vs.toArray))).push<|NR "list" vs.toArray 0).get? (s.heap.objs.size+1)=A' (NR "list" vs.toArray 0):=by
  rw[<-hsz];exact MG _ rfl
 have keep:∀b o,s.heap.get? b=A' o->(((s.heap.push<|NR "list" #[] 0).update s.heap.objs.size (Oh (·++vs.toArray))).push<|NR "list" vs.toArray 0).get? b=A' o:=λb o q=>by
  have Qi:b < s.heap.objs.size:=Mj q;rw[WQ _ _ _ (by rw[hsz];exact Mx<|OJ Qi),Heap.get?_update_ne _ _ _ _<|Mx Qi,WQ _ _ _<|Mx Qi];exact q
 show wpAny _ _ _ _ _ {s with heap:=((s.heap.push<|NR "list" #[] 0).update s.heap.objs.size (Oh (·++vs.toArray))).push<|NR "list" vs.toArray 0}
 rw[hsz];refine LG<|N3<|wpAny_call_entry_kw Vo ⟨_,hoL,rfl⟩ UU ?body (ksk_l1 _ _)
 case body=>
  show wpAny (MB X.prog X.w) X.A.in1.in1 (Builtin.«list.sort» ⟨[.ref<|s.heap.objs.size+1],_⟩) _ _ _
  rw[ksk_t4];refine KA.tree_ (kz:=ns.map OD.absI) (s:={s with heap:=((s.heap.push<|NR "list" #[] 0).update s.heap.objs.size (Oh (·++vs.toArray))).push<|NR "list" vs.toArray 0}) hoL (by rw[J',N1]) (by lia) (λi v k hv hk h tk R hR=>?_) λh' tk out c k1 k2 k3=>⟨_,rfl,?_⟩
  ·obtain⟨t,rfl⟩:=IntsAre.int_at hi i v hv;rw[Mp]at hk;cases e:ns[i]? with
   |none=>rw[e]at hk;simp at hk
   |some n=>
    rw[e]at hk;have RU:A' (OD.absI n)=A' k:=hk;cases RU;have e2:ns.getD i 0=n:=by rw[LK,e];rfl
    rw[e2];exact VY (s:={s with heap:=h,toks:=tk}) λu tk2=>hR tk2 u
  ·refine Me ⟨_,rfl,?_⟩;obtain⟨V2,i1,i2,i3⟩:=Ao hi k3;have I2:Inv X LO σ (upd H (s.heap.objs.size+1)<|.lst<|V2.map V.int) {s with heap:=h',toks:=tk}:=by
    refine I.laid (t':=tk) (λb o eb=>?_) (Re _) ?_
    ·have hb:b < s.heap.objs.size:=Mj eb;exact k1 b o (Mx<|OJ hb)<|keep b o eb
    ·refine⟨?_,out.toList,c,iD i1,by simpa using k2⟩;rw[J',i2.length_eq];exact Nx (iE<|by lia)
   exact⟨.ref<|s.heap.objs.size+1,_,I2,rfl,q _ V2 (I.hok.fresh<|Re _) i2 i3⟩
end L2
namespace KX
open PySem PyProof.Rows
theorem yd(a v:LF):argsOk "max" ⟨[a],[(G' "default",v)]⟩:=by unfold argsOk;kernel_rfl
section
variable {R:Vi->LR->Prop}{St:Nat->M8->Prop}
theorem JH(W:Walks prog w A.in1 I fp wr n P St)(bt:Nat->Nat->Md)(acB:CmpOf prog w A.in1 .Gt P bt)(S:LJ)(hSf:S∉fp):
  ∀k j s vb c,n - (j+1)=k->j+1<=n->St (j+1) s.heap->P (So bt j) vb->
  s.heap.get? S=A' {cls:=.type "list",dict:=LL,data:=.seq #[vb,vb] c,slots:=#[]}->
  (∀v h' tk,P (So bt<|n - 1) v->(∀b o,b∉wr->b≠S->s.heap.get? b=A' o->h'.get? b=A' o)->R (.ok<|.ret v) {s with heap:=h',toks:=tk})->
  codeAny (MB prog w) A (.builtin "max.loop" ⟨[.ref I,.none,.ref S],kw⟩) R s:=by
 have hSw:S∉wr:=λh=>hSf<|W.sub _ h;have Zx:(toString "max"++toString ".loop":O3)="max.loop":=by decide
 intro k
 induction k with
 |zero=>
  intro j s vb c hk hj ZP hPb hS hR;have S9:j+1=n:=by lia
  refine Pw Ug ?_;rw[Oy Pe _];show wpAny _ A.in1 (ZF (.ref S) >>=_) _ _ s
  refine LG<|Sz hS rfl ?_;show wpAny _ A.in1 (tryCatch (TR<|.ref I) _ >>=_) _ _ s
  refine LG<|PY<|W.done s _ _ (S9▸ZP) λh' tk RU=>?_;have hS':=RU S _ hSw hS;show wpAny _ A.in1 (updateSeq S (λ_=>#[]) >>=_) _ _ _
  refine LG ?_;refine UR hS' rfl<|LG<|Tg<|Me ?_;refine hR vb _ tk (by rw[<-S9];exact hPb) λb o hbw hbS e=>(M6 _ _<|NC hbS).trans<|RU b o hbw e
 |succ k ih=>
  intro j s vb c hk hj ZP hPb hS hR;have Qi:j+1 < n:=by lia
  refine Pw Ug ?_;rw[Oy Pe _];show wpAny _ A.in1 (ZF (.ref S) >>=_) _ _ s
  refine LG<|Sz hS rfl ?_;show wpAny _ A.in1 (tryCatch (TR<|.ref I) _ >>=_) _ _ s
  refine LG<|PY<|W.item (j+1) s _ _ Qi ZP λv h' tk hP hst' RU=>?_;have hS':=RU S _ hSw hS;show wpAny _ A.in1 (tryCatch (Ti [v,v]<|richCompare .Gt v vb >>=_) _ >>=_) _ _ _
  refine LG<|PY<|N3<|LG<|acB (j+1) (So bt j) v vb _ _ _ hP hPb ?_;refine LG<|N3<|NM ?_;refine LG<|Tg<|Me ?_;cases hb:bt (j+1) (So bt j)with
  |true=>
   simp only [Sk];refine LG ?_;refine UR hS' rfl<|LG<|Tg ?_;rw[Zx];refine Me ⟨PM Pe _,ih (j+1) _ v _ (by lia) Qi (W.frame _ _ _ hst' λb hbf o e=>?_) (by simp only [So,hb,Sk];exact hP) (Qp _ hS' rfl)
    λv' h'' tk'' hP' acq=>?_⟩
   ·exact(M6 _ _ λh:S=b=>hSf<|by rw[h];exact hbf).trans e
   ·exact hR v' h'' tk'' hP' λb o hbw hbS e=>acq b o hbw hbS<|(M6 _ _<|NC hbS).trans<|RU b o hbw e
  |false=>
   simp only [OZ,Ri];refine LG<|Tg ?_;rw[Zx];refine Me ⟨PM Pe _,ih (j+1) _ vb c (by lia) Qi hst' (by simp only [So,hb,OZ,Ri];exact hPb) hS' λv' h'' tk'' hP' acq=>?_⟩;exact hR v' h'' tk'' hP' λb o hbw hbS e=>acq b o hbw hbS<|RU b o hbw e
theorem Hq(W:Walks prog w A.in1 I fp wr n P St)(bt:Nat->Nat->Md)(acB:CmpOf prog w A.in1 .Gt P bt)(S:LJ)(hSf:S∉fp){d:LF}{ky:Str}{c:Nat}(ZP:St 0 s.heap)
  (hS:s.heap.get? S=A' {cls:=.type "list",dict:=LL,data:=.seq #[] c,slots:=#[]})
  (hR:0 < n->∀v h' tk,P (So bt<|n - 1) v->(∀b o,b∉wr->b≠S->s.heap.get? b=A' o->h'.get? b=A' o)->R (.ok<|.ret v) {s with heap:=h',toks:=tk})
  (h0:n=0->∀h' tk,(∀b o,b∉wr->b≠S->s.heap.get? b=A' o->h'.get? b=A' o)->R (.ok<|.ret d) {s with heap:=h',toks:=tk}):
  codeAny (MB prog w) A (.builtin "max.loop" ⟨[.ref I,.none,.ref S],[(ky,d)]⟩) R s:=by
 have hSw:S∉wr:=λh=>hSf<|W.sub _ h;have Zx:(toString "max"++toString ".loop":O3)="max.loop":=by decide
 refine Pw Ug ?_;rw[Oy Pe _];show wpAny _ A.in1 (ZF (.ref S) >>=_) _ _ s
 refine LG<|Sz hS rfl ?_;show wpAny _ A.in1 (tryCatch (TR<|.ref I) _ >>=_) _ _ s
 by_cases hn:0 < n
 ·refine LG<|PY<|W.item 0 s _ _ hn ZP λv h' tk hP hst' RU=>?_;have hS':=RU S _ hSw hS;show wpAny _ A.in1 (updateSeq S (λ_=>#[v,v]) >>=_) _ _ _
  refine LG ?_;refine UR hS' rfl ?_;rw[Zx];refine Me ⟨PM Pe _,JH W bt acB S hSf _ 0 _ v _ rfl hn (W.frame _ _ _ hst' λb hbf o e=>?_) hP (Qp _ hS' rfl) λv' h'' tk'' hP' acq=>?_⟩
  ·exact(M6 _ _ λh:S=b=>hSf<|by rw[h];exact hbf).trans e
  ·exact hR hn v' h'' tk'' hP' λb o hbw hbS e=>acq b o hbw hbS<|(M6 _ _<|NC hbS).trans<|RU b o hbw e
 ·have hn0:0=n:=by lia
  refine LG<|PY<|W.done s _ _ (hn0▸ZP) λh' tk RU=>?_;refine LG<|Pg<|Me ?_;exact h0 hn0.symm h' tk λb o hbw hbS e=>RU b o hbw e
end
theorem JI{x d:LF}{Q:LF->LR->Prop}
  (h:wpAny (MB prog w) A.in1 (Xh x) (λit s₂=>∃I fp wr n P St bt,it=.ref I/\Walks prog w A.in1 I fp wr n P St/\St 0 s₂.heap/\(∀b∈fp,b < s₂.heap.objs.size)/\CmpOf prog w A.in1 .Gt P bt/\
   (0 < n->∀v h' tk,P (So bt<|n - 1) v->(∀b o,b∉wr->s₂.heap.get? b=A' o->h'.get? b=A' o)->Q v {s₂ with heap:=h',toks:=tk})/\
   (n=0->∀h' tk,(∀b o,b∉wr->s₂.heap.get? b=A' o->h'.get? b=A' o)->Q d {s₂ with heap:=h',toks:=tk})) E s):
  wpAny (MB prog w) A (call (.builtin "max") [x] [(G' "default",d)]) Q E s:=by
 have Zx:(toString "max"++toString ".loop":O3)="max.loop":=by decide
 refine kmk_tree F.kind_max F.plain_max F.entry_max (yd _ _) ?_;show wpAny _ A.in1 (Sr "max" ["key","default"] 0 ⟨[],[(G' "default",d)]⟩ >>=_) _ _ s
 refine LG<|wpAny_of_eq (show Sr "max" ["key","default"] 0 ⟨[],[(G' "default",d)]⟩=pure [LL,A' d]from rfl) ?_;refine LG<|Me ?_;refine LG<|Nv h (λit s₂ h₂=>?_) λ_ _ e=>e;obtain⟨I,fp,wr,n,P,St,bt,rfl,W,ZP,hfp,acB,hQ,hQ0⟩:=h₂;refine LG<|N_ ?_;have hSf:s₂.heap.objs.size∉fp:=λhm=>Om _<|hfp _ hm;rw[Zx];refine Me ⟨PM Pe _,Hq W bt acB s₂.heap.objs.size hSf (W.frame _ _ _ ZP λb _ o e=>LP _ e) (MG _ rfl) (λhn v h' tk hP hk=>?_) λhn h' tk hk=>?_⟩
 ·exact hQ hn v h' tk hP λb o hbw e=>hk b o hbw (Mx<|Mj e)<|LP _ e
 ·exact hQ0 hn h' tk λb o hbw e=>hk b o hbw (Mx<|Mj e)<|LP _ e
theorem max_listD{d:LF}{Q:LF->LR->Prop}(hh:A.handled=LL)(hl:s.heap.IsList l (Rl xs))
  (h:0 < xs.size->∀v h' tk,(Rl xs)[So (λi j=>decide (aay xs i > aay xs j)) (xs.size - 1)]? =A' v->(∀b o,s.heap.get? b=A' o->h'.get? b=A' o)->Q v {s with heap:=h',toks:=tk})
  (h0:xs.size=0->∀h' tk,(∀b o,s.heap.get? b=A' o->h'.get? b=A' o)->Q d {s with heap:=h',toks:=tk}):
  wpAny (MB prog w) A (call (.builtin "max") [.ref l] [(G' "default",d)]) Q E s:=by
 refine JI<|iter_intList hl λs₂ e st hfp hlI=>?_;subst e;refine⟨_,_,_,_,_,_,_,rfl,Uy (A:=A.in1) hh _ l hlI<|Rl xs,st,hfp,CmpOf.ints_gt (aay xs) λ_ _=>intItems_at,λhn v h' tk hP hk=>?_,λhn h' tk hk=>?_⟩
 ·exact h (by simpa [Rl]using hn) v h' tk (by simpa [Rl]using hP)<|old_kept hk
 ·exact h0 (by simpa [Rl]using hn) h' tk<|old_kept hk
end KX
namespace L2
open PySem PySem.Spec PyProof.Rows
theorem Ap(hi:PV vs ns)(e:vs.toArray=Rl xs)(hn:0 < xs.size)(hv:(Rl xs)[So (λi j=>decide (aay xs i > aay xs j)) (xs.size - 1)]? =A' v):∃M t,v=.int M t/\M∈ns/\∀a∈ns,a<=M:=by
 have Xa:xs.toList.map (·.1)=ns:=by
  rw[<-nums_intItems,<-e];exact hi.numsOf
 obtain⟨t,rfl⟩:=intItems_at hv;obtain⟨h1,h2⟩:=argBest_gt (aay xs)<|xs.size - 1;refine⟨_,t,rfl,?_,λa ha=>?_⟩
 ·rw[numAt_eq,Xa];exact getD_mem (by rw[<-Xa,J',Mr];lia)
 ·obtain⟨j,hj,rfl⟩:=mem_getD ha;rw[<-Xa,J',Mr]at hj;have:=h2 j (by lia);rw[numAt_eq,Xa]at this;exact this
def Aq(K:K'):V->V->Hp->VK->Prop:=λx d H Q=>∃(p:LJ) (ns:gV Int),x=.ref p/\SqL K H p (ns.map V.int)/\(ns=[]->Q d H)/\∀M,M∈ns->(∀a∈ns,a<=M)->Q (.int M) H
def JJ(K:K')(te td:TE):TE:=λσ H Q=>te σ H λx H1=>td σ H1 λd H2=>Aq K x d H2 Q
theorem v8{p1 kp q1:Pos}(hc:X.calm=LI)(hg1:Gl X "max")(hm1:X.mg "max"=LL)(he:PE X e te)(hd:PE X dv td)
  (hs:MT [e] X.env=[(LM,Oj e X.env)]:=by rfl):
  PE X (.Call (.Name "max" p1) [e] [⟨A' "default",dv,kp⟩] q1) (JJ X.K te td):=by
 intro LO s σ H Q I h;refine Ph<|gb I hg1 hm1 aaj ?_;refine T3 (bG (aa he (ae (X:=X)) (by rw[hs];rfl) q1 LO s σ H (DF λx H1=>td σ H1 λd H2=>Aq X.K x d H2 Q) I h) λus s1 ⟨vs,H1,I1,r1,q1'⟩=>?_) (by rw[hs];rfl) (by rw[hs];rfl) rfl rfl;obtain⟨x,e1,h1⟩:=mq q1';subst e1;obtain⟨u,rfl,ru⟩:=dE r1;refine U5<|bG (hd LO s1 σ H1 _ I1 h1) λud s2 ⟨d,H2,I2,r2,h2⟩=>Vr ?_;obtain⟨p,ns,rfl,hq,q0,q⟩:=h2;cases ru;obtain⟨vs,rv,pl,hz⟩:=I2.list hq;have hi:=lZ rv;obtain⟨ys,e⟩:=hi.allInts.items;have hl:=pl.isList;rw[e]at hl;have hsz:ys.size=ns.length:=by
  have h1:(Rl ys).size=ys.size:=by simp [Rl]
  rw[<-h1,<-e,Mf,YF hi]
 show wpAny _ _ (call (.builtin "max") [.ref p] [(G' "default",ud)]) _ _ _
 refine KX.max_listD (I2.ok.hd hc) hl (λhn v h' tk hv hk=>?_) λhn h' tk hk=>?_
 ·obtain⟨M,t,rfl,m1,m2⟩:=Ap hi e hn hv;exact⟨.int M,H2,I2.kept hk,⟨t,rfl⟩,q M m1 m2⟩
 ·exact⟨d,H2,I2.kept hk,r2,q0<|Oc.mp<|by lia⟩
def my(K:K'):V->Hp->VK->Prop:=λx H Q=>∃(p:LJ) (ns:gV Int),x=.ref p/\SqL K H p (ns.map V.int)/\ns.length < 64/\
 ∀(l:LJ) (V2:gV Int),H l=LL->V2.Perm ns->(V2.map OD.absI).Pairwise (·<=·)->Q (.ref l) (upd H l<|.lst<|V2.map V.int)
def Ar(K:K')(te:TE):TE:=λσ H Q=>te σ H λx H1=>my K x H1 Q
theorem mz{p1 p2 kp q1:Pos}(hg1:Gl X "sorted")(hm1:X.mg "sorted"=LL)(hg2:Gl X "abs")(hm2:X.mg "abs"=LL)(he:PE X e te)
  (hs:MT [e] X.env=[(LM,Oj e X.env)]:=by rfl):
  PE X (.Call (.Name "sorted" p1) [e] [⟨A' "key",.Name "abs" p2,kp⟩] q1) (Ar X.K te):=by
 intro LO s σ H Q I h;refine Ph<|gb I hg1 hm1 R8 ?_;refine T3 (bG (aa he (ae (X:=X)) (by rw[hs];rfl) q1 LO s σ H (DF λx H1=>my X.K x H1 Q) I h) λus s1 ⟨vs,H1,I1,r1,q1'⟩=>?_) (by rw[hs];rfl) (by rw[hs];rfl) rfl rfl;obtain⟨x,e1,p,ns,rfl,hq,h64,q⟩:=mq q1';subst e1;obtain⟨u,rfl,ru⟩:=dE r1;cases ru;refine U5<|gb I1 hg2 hm2 Np<|Vr ?_;show wpAny _ _ (call (.builtin "sorted") [.ref p] [(G' "key",.builtin "abs")]) _ _ _
 exact yc I1 hq h64 q
end L2
namespace OD
open PySem L2
def dz(f s:gV Int)(v:Int):Md:=(f.filter λl=>!decide (absI l=v)).any λl=>s.contains (-l)
def fV(f s:gV Int)(v:Int):gV Int:=(f++s.filter λl=>!f.contains l).filter λl=>!decide (absI l=v)
def Ups(c:gV Int):Prop:=(c.map absI).Pairwise (· < ·)
def Joins(f s:gV Int)(v:Int)(r:gV Int):Prop:=Ups r/\∀l,l∈r↔(l∈f\/l∈s)/\absI l≠v
theorem jw(h:absI a=absI b):a=b\/b=-a:=by
 obtain⟨_,e⟩|⟨_,e⟩:=b8 a<;>obtain⟨_,e'⟩|⟨_,e'⟩:=b8 b<;>lia
theorem Ups.tail(h:Ups (x::c)):Ups c:=(Nc.mp h).2
theorem Ups.head(h:Ups (x::c)):∀l∈c,absI x < absI l:=λl hl=>(Nc.mp h).1 _<|OK hl
theorem Ups.inj(h:Ups c)(ha:a∈c)(hb:b∈c)(e:absI a=absI b):a=b:=by
 induction c with
 |nil=>cases ha
 |cons x c ih=>
  obtain ea|ha2:=Mn.mp ha
  ·obtain eb|hb2:=Mn.mp hb
   ·rw[ea,eb]
   ·have:=h.head b hb2;rw[<-ea]at this;lia
  ·obtain eb|hb2:=Mn.mp hb
   ·have:=h.head a ha2;rw[<-eb]at this;lia
   ·exact ih h.tail ha2 hb2
theorem Ups.nodup(h:Ups c):c.Nodup:=(Ny.mp h).imp λ{a b} hab e=>by subst e;lia
theorem jx:∀{a b:gV Int},Ups a->Ups b->(∀l,l∈a↔l∈b)->a=b
 |[],[],_,_,_=>rfl
 |[],y::b,_,_,h=>absurd ((h y).mpr L9) (by simp)
 |x::a,[],_,_,h=>absurd ((h x).mp L9) (by simp)
 |x::a,y::b,ha,hb,h=>by
  have e:x=y:=by
   obtain z|z:=Mn.mp ((h x).mp L9)
   ·exact z
   ·obtain w|w:=Mn.mp ((h y).mpr L9)
    ·exact w.symm
    ·have:=hb.head x z;have:=ha.head y w;lia
  subst e;rw[jx ha.tail hb.tail λz=>?_];constructor
  ·intro hz;obtain w|w:=Mn.mp ((h z).mp<|LY _ hz)
   ·have:=ha.head z hz;rw[w]at this;lia
   ·exact w
  ·intro hz;obtain w|w:=Mn.mp ((h z).mpr<|LY _ hz)
   ·have:=hb.head z hz;rw[w]at this;lia
   ·exact w
theorem Joins.uniq(h:Joins f s v a)(h':Joins f s v b):a=b:=jx h.1 h'.1 λl=>(h.2 l).trans (h'.2 l).symm
theorem mem_rest:l∈fV f s v↔(l∈f\/l∈s)/\absI l≠v:=by
 unfold fV;rw[MP,Mt,MP];constructor
 ·rintro⟨h,h2⟩;refine⟨h.imp id λz=>z.1,λe=>?_⟩;rw[Ma e]at h2;cases h2
 ·rintro⟨h,h2⟩;refine⟨?_,by rw[LW h2];rfl⟩;by_cases hf:l∈f
  ·exact .inl hf
  ·refine .inr ⟨h.resolve_left hf,?_⟩;simpa using hf
theorem rN(h:dz f s v=LM)(hl:l∈f)(hv:absI l≠v):-l∉s:=λhs=>by
 have:dz f s v=true:=MW.mpr ⟨l,MP.mpr ⟨hl,by rw[LW hv];rfl⟩,by simpa using hs⟩;rw[h]at this;cases this
theorem As(hf:Ups f)(hs:Ups s)(hv:dz f s v=LM)(ha:a∈fV f s v)(hb:b∈fV f s v)(e:absI a=absI b):a=b:=by
 obtain⟨a1,a2⟩:=mem_rest.mp ha;obtain⟨b1,b2⟩:=mem_rest.mp hb;obtain a1|a1:=a1<;>obtain b1|b1:=b1
 ·exact hf.inj a1 b1 e
 ·obtain z|z:=jw e
  ·exact z
  ·exact absurd (z▸b1)<|rN hv a1 a2
 ·obtain z|z:=jw e.symm
  ·exact z.symm
  ·exact absurd (z▸a1)<|rN hv b1 b2
 ·exact hs.inj a1 b1 e
theorem uE(hf:Ups f)(hs:Ups s):(fV f s v).Nodup:=by
 refine QE _<|Oa.mpr ⟨hf.nodup,QE _ hs.nodup,?_⟩;intro a ha b hb e;subst e;obtain⟨_,h⟩:=MP.mp hb;rw[Mo.mpr ha]at h;cases h
theorem pX:∀{r:gV Int},(r.map absI).Pairwise (·<=·)->r.Nodup->(∀a∈r,∀b∈r,absI a=absI b->a=b)->Ups r
 |[],_,_,_=>.nil
 |x::r,h,n,i=>by
  obtain⟨h1,h2⟩:=Nc.mp h;obtain⟨n1,n2⟩:=NX.mp n;refine Nc.mpr ⟨λz hz=>?_,pX h2 n2 λa ha b hb=>i a (LY _ ha) b<|LY _ hb⟩;obtain⟨y,hy,rfl⟩:=MF.mp hz;have:=h1 _ hz;have ne:absI x≠absI y:=λe=>n1<|i x L9 y (LY _ hy) e▸hy;lia
theorem rO(hf:Ups f)(hs:Ups s)(hv:dz f s v=LM)(hp:r.Perm (fV f s v))(ho:(r.map absI).Pairwise (·<=·)):Joins f s v r:=
 ⟨pX ho (hp.nodup_iff.mpr<|uE hf hs) λa ha b hb e=>As hf hs hv (hp.mem_iff.mp ha) (hp.mem_iff.mp hb) e,λl=>hp.mem_iff.trans mem_rest⟩
def eV(t:Str)(hw:Md)(c:gV Int):Int:=((c.filter λl=>!(cF t (absI l - 1).toNat == hw)).map absI).foldl max 0
def aR(t:Str)(hw:Md)(c:gV Int):gV Int:=c.filter λl=>decide (absI l<=eV t hw c)
theorem gn:∀(ns:gV Int) (b:Int),(b<=ns.foldl max b/\∀a∈ns,a<=ns.foldl max b)/\(ns.foldl max b=b\/ns.foldl max b∈ns)
 |[],b=>⟨⟨QF _,λ_ h=>nomatch h⟩,.inl rfl⟩
 |x::r,b=>by
  obtain⟨⟨h1,h2⟩,h3⟩:=gn r<|max b x;rw[Q8];refine⟨⟨by lia,λa ha=>?_⟩,?_⟩
  ·obtain rfl|ha:=Mn.mp ha
   ·lia
   ·exact h2 a ha
  ·obtain h3|h3:=h3
   ·by_cases g:b<=x
    ·right
     rw[h3,Int.max_eq_right g];exact L9
    ·left
     rw[h3,Int.max_eq_left<|by lia]
   ·exact .inr<|LY _ h3
theorem Hr{ns:gV Int}{M:Int}(h0:∀a∈ns,0<=a)(h1:M∈ns\/M=0)(h2:∀a∈ns,a<=M)(h3:0<=M):ns.foldl max 0=M:=by
 obtain⟨⟨a1,a2⟩,a3⟩:=gn ns 0;have:ns.foldl max 0<=M:=by
  obtain e|e:=a3
  ·rw[e];exact h3
  ·exact h2 _ e
 have:M<=ns.foldl max 0:=by
  obtain h1|h1:=h1
  ·exact a2 _ h1
  ·rw[h1];exact a1
 lia
theorem mem_vars:z∈du t hw↔1<=z/\z<=(t.length:Int)/\cF t (z - 1).toNat=hw:=by
 unfold du;rw[MF];constructor
 ·rintro⟨i,hi,rfl⟩;obtain⟨h1,h2⟩:=MP.mp hi;have:=P8.mp h1;have e:((i:Int)+1 - 1).toNat=i:=by lia
  rw[e];exact⟨by lia,by lia,by simpa using h2⟩
 ·rintro⟨h1,h2,h3⟩;refine⟨(z - 1).toNat,MP.mpr ⟨P8.mpr (by lia),?_⟩,by lia⟩;rw[h3];exact Xe _
theorem DV(h1:1<=absI l)(h2:absI l<=(t.length:Int)):(du t (!hw)).contains (absI l)=!(cF t (absI l - 1).toNat == hw):=by
 cases g:cF t (absI l - 1).toNat == hw with
 |true=>
  have g':cF t (absI l - 1).toNat=hw:=by simpa using g
  cases z:(du t (!hw)).contains (absI l)with
  |false=>rfl
  |true=>
   have z2:=(mem_vars.mp<|by simpa using z).2.2;rw[g']at z2;cases hw<;>cases z2
 |false=>
  have g':cF t (absI l - 1).toNat=!hw:=by
   cases a:cF t (absI l - 1).toNat<;>cases hw<;>simp_all
  have:absI l∈du t (!hw):=mem_vars.mpr ⟨h1,h2,g'⟩;simpa using this
def bK(f s:gV Int)(v:Int):gV Int:=(fV f s v).mergeSort λa b=>decide (absI a<=absI b)
theorem dA(hf:Ups f)(hs:Ups s)(hv:dz f s v=LM):Joins f s v (bK f s v):=by
 refine rO hf hs hv (QR _ _) ?_;have h:=Rf (le:=λa b:Int=>decide (absI a<=absI b)) (λa b c h1 h2=>by simp at*;lia) (λa b=>by simp;lia)<|fV f s v;rw[Ny];exact h.imp λ{a b} e=>by simpa using e
theorem Joins.eq(hf:Ups f)(hs:Ups s)(hv:dz f s v=LM)(h:Joins f s v r):r=bK f s v:=h.uniq<|dA hf hs hv
def bj(many:Nat):Mc->LH Nat
 |.int z=>if 0<=z/\z < (many:Int)then A' z.toNat else LL
 |_=>LL
theorem b9(h:bj many d=A' i):i < many/\d=.int (i:Int):=by
 cases d with
 |int z=>
  have h':(if 0<=z/\z < (many:Int)then A' z.toNat else LL)=A' i:=h
  split at h'
  ·rename_i c;cases h';exact⟨by lia,by congr 1;lia⟩
  ·cases h'
 |_=>cases h
def rP(w:Str):Mc->Md
 |.str x=>decide (x=w)
 |_=>LM
theorem At(d:Mc)(w:Str):MU d (.str w)=rP w d:=by
 cases d with
 |str x=>
  rw[MU];show(x == w)=decide (x=w)
  by_cases h:x=w
  ·rw[h];simp
  ·rw[LW h];exact ND.mpr h
 |_=>first|(unfold MU;rfl)|(simp [MU,rP])
def bP(w:Str)(n:Nat):Mc->Md
 |.tuple ds=>decide (ds.length=n)&&rP w (ds.getD 0 .none)
 |_=>LM
def aD(n:Nat)(c:gV Int):Prop:=Ups c/\∀l∈c,1<=absI l/\absI l<=(n:Int)
def gS(t:Str)(hw:Md)(sets:gV (gV Int))(d:Mc):LH (gV Int):=(bj sets.length d).map λi=>aR t hw<|sets.getD i []
def dR(t:Str)(hw:Md)(f s:gV Int)(z:Int):Md:=(du t (!hw)).contains z&&(f.contains z&&(s.contains (-z)&&!dz f s z))
def dI(t:Str)(hw:Md)(sets:gV (gV Int))(d1 d2 d3:Mc):LH (gV Int):=
 match bj sets.length d1,bj sets.length d2,d3 with
 |some i,A' j,.int z=>if dR t hw (sets.getD i []) (sets.getD j []) z=LI then A' (bK (sets.getD i []) (sets.getD j []) z)else LL
 |_,_,_=>LL
def RV(H:Hp)(o:LH (gV Int))(v:V):Prop:=
 match o with
 |none=>v=.non
 |some c=>CL H c v
theorem v9:∀{c:gV Int} {n b:Int},Ups c->(∀l∈c,b < absI l/\absI l<=n)->(c.length:Int)<=max 0 (n - b)
 |[],n,b,_,_=>by simp;lia
 |x::c,n,b,h,g=>by
  have g1:=g x L9;have ih:=v9 (n:=n) (b:=absI x) h.tail λl hl=>⟨h.head l hl,(g l<|LY _ hl).2⟩;rw[L4];lia
theorem bQ(h:aD n c):c.length<=n:=by
 have:=v9 (n:=(n:Int)) (b:=0) h.1 λl hl=>⟨by have:=(h.2 l hl).1;lia,(h.2 l hl).2⟩;lia
def rQ(c:gV Int)(cs:gV (gV Int)):Md:=cs.all λk=>c.any λl=>k.contains l
def zD:Mc->Int
 |.int z=>z
 |_=>0
def kO:Mc->gV Int
 |.tuple ds=>ds.map zD
 |_=>[]
def iW(n:Nat)(cs:gV (gV Int))(d:Mc):LH (gV Int):=if(ij (n:Int) d&&rQ (kO d) cs)=LI then A' (kO d)else LL
def gW:Mc->Nat->Mc
 |.tuple ds,i=>ds.getD i .none
 |_,_=>.none
def aN:Str:=G' "given"
def bn:Str:=G' "hits"
def aZ:Str:=G' "join"
def aO:Str:=G' "drop"
def gJ(cs:gV (gV Int))(d:Mc):LH (gV Int):=(bj cs.length d).map λi=>cs.getD i []
def aP(t:Str)(cs:gV (gV Int))(hw:Md)(sets:gV (gV Int))(d:Mc):LH (gV Int):=
 if(!hw&&bP aN 2 d)=LI then gJ cs (gW d 1)
 else if(hw&&bP bn 2 d)=LI then iW t.length cs (gW d 1)
 else if bP aZ 4 d=LI then dI t hw sets (gW d 1) (gW d 2) (gW d 3)
 else if bP aO 2 d=LI then gS t hw sets (gW d 1)
 else LL
def bL(t:Str)(cs:gV (gV Int))(hw:Md)(sets:gV (gV Int)):gV Mc->gV (gV Int)×Md
 |[]=>(sets,LI)
 |d::r=>match aP t cs hw sets d with
  |none=>(sets,LM)
  |some c=>bL t cs hw (sets++[c]) r
theorem rR:∀{ds:gV Mc} {n b:Int},fO n b ds=LI->ds=(ds.map zD).map NV/\Ups (ds.map zD)/\∀l∈ds.map zD,b < absI l/\absI l<=n
 |[],_,_,_=>⟨rfl,.nil,λ_ h=>nomatch h⟩
 |e::ds,n,b,h=>by
  obtain⟨z,rfl⟩|hn:=pV e
  ·rw[gk]at h
   split at h
   ·rename_i hb;obtain⟨h1,h2,h3⟩:=rR h;refine⟨?_,Nc.mpr ⟨λy hy=>?_,h2⟩,λl hl=>?_⟩
    ·rw[MH,MH,<-h1];rfl
    ·obtain⟨l,hl,rfl⟩:=MF.mp hy;exact(h3 l hl).1
    ·obtain rfl|hl:=Mn.mp hl
     ·exact hb
     ·have:=h3 l hl;lia
   ·cases h
  ·rw[rL hn]at h;cases h
theorem pY{n:Nat}{d:Mc}(h:ij (n:Int) d=LI):d=fN (kO d)/\aD n (kO d):=by
 cases d with
 |tuple ds=>
  obtain⟨h1,h2,h3⟩:=rR (ds:=ds) (n:=n) (b:=0) h;refine⟨?_,h2,λl hl=>?_⟩
  ·show QK ds=.tuple ((ds.map zD).map .int)
   rw[<-h1]
  ·have:=h3 l hl;exact⟨by lia,this.2⟩
 |_=>cases h
theorem v_:∀{c:gV Int} {n b:Int},Ups c->(∀l∈c,b < absI l/\absI l<=n)->fO n b (c.map .int)=LI
 |[],_,_,_,_=>rfl
 |x::c,n,b,h,g=>by
  rw[MH,gk,Ml<|g x L9];exact v_ h.tail λl hl=>⟨h.head l hl,(g l<|LY _ hl).2⟩
theorem DW(h:aD n c):ij (n:Int) (fN c)=true:=v_ h.1 λl hl=>⟨by have:=(h.2 l hl).1;lia,(h.2 l hl).2⟩
theorem DX(c:gV Int):(c.map NV).map zD=c:=by
 rw[M9];exact List.map_id c
theorem Au(c:gV Int):kO (fN c)=c:=DX c
theorem lB{n:Nat}{cs:gV (gV Int)}(h:∀c∈cs,aD n c){i:Nat}(hi:i < cs.length):aD n (cs.getD i []):=by
 rw[LK,LU hi];exact h _<|OB hi
theorem gr(h:aD n c):aD n (aR t hw c):=
 ⟨Ny.mpr<|QE _<|Ny.mp h.1,λl hl=>h.2 l (MP.mp hl).1⟩
theorem mB(hf:aD n f)(hs:aD n s)(hv:dz f s v=LM):aD n (bK f s v):=by
 obtain⟨h1,h2⟩:=dA hf.1 hs.1 hv;exact⟨h1,λl hl=>((h2 l).mp hl).1.elim (hf.2 l)<|hs.2 l⟩
theorem Av(hs:∀c∈sets,aD n c)(h:gS t hw sets d=A' c):aD n c:=by
 unfold gS at h;cases e:bj sets.length d with
 |none=>rw[e]at h;cases h
 |some i=>
  rw[e]at h;cases h;exact gr<|lB hs (b9 e).1
theorem Aw(hs:∀c∈sets,aD n c)(h:dI t hw sets d1 d2 d3=A' c):aD n c:=by
 unfold dI at h;cases e1:bj sets.length d1 with
 |none=>rw[e1]at h;cases h
 |some i=>
 cases e2:bj sets.length d2 with
 |none=>rw[e1,e2]at h;cases h
 |some j=>
 rw[e1,e2]at h;cases d3 with
 |int z=>
  have h':(if dR t hw (sets.getD i []) (sets.getD j []) z=LI then A' (bK (sets.getD i []) (sets.getD j []) z)else LL)=A' c:=h
  split at h'
  ·rename_i g;cases h';unfold dR at g;rw[MO,MO,MO]at g;refine mB (lB hs (b9 e1).1) (lB hs (b9 e2).1) ?_;have:=g.2.2.2;revert this;cases dz (sets.getD i []) (sets.getD j []) z<;>simp
  ·cases h'
 |_=>cases h
theorem rS(hc:∀c∈cs,aD t.length c)(hs:∀c∈sets,aD t.length c)(h:aP t cs hw sets d=A' c):aD t.length c:=by
 unfold aP at h
 split at h
 ·unfold gJ at h;cases e:bj cs.length (gW d 1)with
  |none=>rw[e]at h;cases h
  |some i=>
   rw[e]at h;cases h;exact lB hc (b9 e).1
 split at h
 ·unfold iW at h
  split at h
  ·rename_i g;cases h;rw[MO]at g;exact(pY g.1).2
  ·cases h
 split at h
 ·exact Aw hs h
 split at h
 ·exact Av hs h
 ·cases h
theorem pZ(hc:∀c∈cs,aD t.length c):∀{ds:gV Mc} {sets:gV (gV Int)},(∀c∈sets,aD t.length c)->∀c∈(bL t cs hw sets ds).1,aD t.length c
 |[],sets,h=>h
 |d::r,sets,h=>by
  show∀c∈(match aP t cs hw sets d with|none=>(sets,LM)|some c=>bL t cs hw (sets++[c]) r).1,aD t.length c
  cases e:aP t cs hw sets d with
  |none=>exact h
  |some c=>
   refine pZ hc λz hz=>?_;obtain hz|hz:=Mt.mp hz
   ·exact h z hz
   ·rw[LN.mp hz];exact rS hc h e
theorem jZ{d:Mc}:∀{ds:gV Mc} {sets out:gV (gV Int)},bL t cs hw sets ds=(out,LI)->
  bL t cs hw sets (ds++[d])=match aP t cs hw out d with|none=>(out,LM)|some c=>(out++[c],LI)
 |[],sets,out,h=>by
  cases h;rfl
 |e::r,sets,out,h=>by
  have h':(match aP t cs hw sets e with|none=>(sets,LM)|some c=>bL t cs hw (sets++[c]) r)=(out,LI):=h;show(match aP t cs hw sets e with|none=>(sets,LM)|some c=>bL t cs hw (sets++[c])<|r++[d])=_
  cases g:aP t cs hw sets e with
  |none=>rw[g]at h';cases h'
  |some c=>
   rw[g]at h';exact jZ h'
theorem jy(h:bP w n d=LI):∃ds,d=.tuple ds/\ds.length=n:=by
 cases d with
 |tuple ds=>
  have h':(decide (ds.length=n)&&rP w (ds.getD 0 .none))=true:=h;rw[MO]at h';exact⟨ds,rfl,My h'.1⟩
 |_=>cases h
theorem rT{n:Nat}:∀{c:gV Int} {b:Int},Hc b c->Ups c/\∀l∈c,b < absI l
 |[],_,_=>⟨.nil,λ_ h=>nomatch h⟩
 |x::c,b,h=>by
  obtain⟨h1,h2⟩:=rT (n:=n) h.2;refine⟨Nc.mpr ⟨λy hy=>?_,h1⟩,λl hl=>?_⟩
  ·obtain⟨l,hl,rfl⟩:=MF.mp hy;exact h2 l hl
  ·obtain rfl|hl:=Mn.mp hl
   ·exact h.1
   ·have:=h2 l hl;have:=h.1;lia
theorem oK{n:Nat}{c:gV Int}(h:ClOk (n:Int) c):aD n c:=by
 obtain⟨h1,h2⟩:=rT (n:=n) h.1;exact⟨h1,λl hl=>⟨by have:=h2 l hl;lia,h.2 l hl⟩⟩
theorem kP:∀{a:gV Mc} {sets:gV (gV Int)},bL t cs hw sets (a++b)=if(bL t cs hw sets a).2=LI then bL t cs hw (bL t cs hw sets a).1 b else bL t cs hw sets a
 |[],sets=>rfl
 |d::a,sets=>by
  show(match aP t cs hw sets d with|none=>(sets,LM)|some c=>bL t cs hw (sets++[c])<|a++b)=if(match aP t cs hw sets d with|none=>(sets,LM)|some c=>bL t cs hw (sets++[c]) a).2=LI then bL t cs hw (match aP t cs hw sets d with|none=>(sets,LM)|some c=>bL t cs hw (sets++[c]) a).1 b else(match aP t cs hw sets d with|none=>(sets,LM)|some c=>bL t cs hw (sets++[c]) a)
  cases e:aP t cs hw sets d with
  |none=>rfl
  |some c=>exact kP
theorem DY(h:bL t cs hw [] (ds.take i)=(sets,LI))(hd:ds[i]? =A' d)(hl:aP t cs hw sets d=LL):bL t cs hw [] ds=(sets,LM):=by
 have e:ds=ds.take i++d::ds.drop (i+1):=by
  obtain⟨hi,rfl⟩:=LS.mp hd;rw[<-OR hi,Ol]
 rw[e,kP,h,Ml rfl];show(match aP t cs hw sets d with|none=>(sets,LM)|some c=>bL t cs hw (sets++[c])<|ds.drop<|i+1)=_
 rw[hl]
theorem rV{t:Str}{cs:gV (gV Int)}{hw:Md}{ds:gV Mc}{sets:gV (gV Int)}{i:Nat}{d:Mc}{c:gV Int}(h:bL t cs hw [] (ds.take i)=(sets,LI))(hd:ds[i]? =A' d) (hl:aP t cs hw sets d=A' c):bL t cs hw [] (ds.take<|i+1)=(sets++[c],LI):=by
 rw[MM,hd];show bL t cs hw [] (ds.take i++[d])=_
 rw[jZ h,hl]
theorem cJ:∀{ds:gV Mc} {sets out:gV (gV Int)},bL t cs hw sets ds=(out,LI)->out.length=sets.length+ds.length
 |[],sets,out,h=>by
  cases h;rfl
 |d::r,sets,out,h=>by
  have h':(match aP t cs hw sets d with|none=>(sets,LM)|some c=>bL t cs hw (sets++[c]) r)=(out,LI):=h;cases g:aP t cs hw sets d with
  |none=>rw[g]at h';cases h'
  |some c=>
   rw[g]at h';have:=cJ h';rw[LX,Mz]at this;rw[L4];lia
theorem aL{α:Type}{l:gV α}{i:Nat}{d:α}(h:i < l.length):l[i]? =A' (l.getD i d):=by
 rw[LK,LU h];rfl
def held(o:Md)(bs:gV Md)(l:Int):Md:=match bs[(absI l - 1).toNat]? with
 |some b=>(b == decide (0 < l)) == o
 |none=>LM
def holds(o:Md)(c:gV Int)(bs:gV Md):Prop:=∃l∈c,held o bs l=LI
def bq(t:Str)(o:Md)(N:gV Md->Prop):Nat->gV Md->Prop
 |0,bs=>N bs
 |f+1,bs=>if cF t bs.length=o then bq t o N f (bs++[LM])\/bq t o N f (bs++[LI])else bq t o N f (bs++[LM])/\bq t o N f (bs++[LI])
def kQ(cs:gV (gV Int))(bs:gV Md):Md:=cs.all λc=>c.any<|hit bs
theorem mD(h:(absI l - 1).toNat < bs.length):held o (bs++[b]) l=held o bs l:=by
 unfold held;rw[Nd h]
theorem mE(h:(absI l - 1).toNat=bs.length):held o (bs++[b]) l=((b == decide (0 < l)) == o):=by
 unfold held;rw[Nh (by lia),h,PF];rfl
theorem di(h:bs.length<=(absI l - 1).toNat):held o bs l=false:=by
 unfold held;rw[N9 h]
theorem gt:∀{f:Nat} {bs:gV Md},(∀r,r.length=f->N (bs++r)->N' (bs++r))->bq t o N f bs->bq t o N' f bs
 |0,bs,h,w=>by
  have:=h [] rfl;rw[N0]at this;exact this w
 |f+1,bs,h,w=>by
  have ih:∀b,bq t o N f (bs++[b])->bq t o N' f (bs++[b]):=λb=>gt λr hr z=>by
   rw[MN]at z ⊢;exact h ([b]++r) (by rw[LX,hr];show 1+f=f+1;lia) z
  have w':if cF t bs.length=o then bq t o N f (bs++[LM])\/bq t o N f (bs++[LI])else bq t o N f (bs++[LM])/\bq t o N f (bs++[LI]):=w
  show if cF t bs.length=o then bq t o N' f (bs++[LM])\/bq t o N' f (bs++[LI])else bq t o N' f (bs++[LM])/\bq t o N' f (bs++[LI])
  by_cases g:cF t bs.length=o
  ·rw[Ml g]at w' ⊢;exact w'.imp (ih _)<|ih _
  ·rw[Mi g]at w' ⊢;exact⟨ih _ w'.1,ih _ w'.2⟩
theorem oM:∀{f:Nat} {bs:gV Md},bq t o N f bs->∃r:gV Md,r.length=f/\N (bs++r)
 |0,bs,w=>⟨[],rfl,by rw[N0];exact w⟩
 |f+1,bs,w=>by
  have w':if cF t bs.length=o then bq t o N f (bs++[LM])\/bq t o N f (bs++[LI])else bq t o N f (bs++[LM])/\bq t o N f (bs++[LI]):=w
  have:∃b,bq t o N f (bs++[b]):=by
   by_cases g:cF t bs.length=o
   ·rw[Ml g]at w';exact w'.elim (λz=>⟨_,z⟩) λz=>⟨_,z⟩
   ·rw[Mi g]at w';exact⟨_,w'.1⟩
  obtain⟨b,hb⟩:=this;obtain⟨r,h1,h2⟩:=oM hb;refine⟨b::r,by rw[L4,h1],?_⟩;rw[MN]at h2;exact h2
theorem Ax(hl:l∈c)(h:eV t hw c < absI l):cF t (absI l - 1).toNat=hw:=by
 cases g:cF t (absI l - 1).toNat == hw with
 |true=>exact eq_of_beq g
 |false=>
  have hm:absI l∈(c.filter λl=>!(cF t (absI l - 1).toNat == hw)).map absI:=OK<|MP.mpr ⟨hl,by rw[g];rfl⟩;have:=(gn ((c.filter λl=>!(cF t (absI l - 1).toNat == hw)).map absI) 0).1.2 _ hm;unfold eV at h;lia
theorem wa(h:aD n c):0<=eV t hw c/\eV t hw c<=(n:Int):=by
 obtain⟨⟨h1,_⟩,h2⟩:=gn ((c.filter λl=>!(cF t (absI l - 1).toNat == hw)).map absI) 0;exists h1;obtain e|e:=h2
 ·unfold eV;rw[e];lia
 ·obtain⟨l,hl,e2⟩:=MF.mp e;unfold eV;rw[<-e2];exact(h.2 l (MP.mp hl).1).2
theorem DZ(b o:Md):∃x,((x == b) == o)=false:=by
 cases b<;>cases o
 ·exact⟨LM,rfl⟩
 ·exact⟨LI,rfl⟩
 ·exact⟨LI,rfl⟩
 ·exact⟨LM,rfl⟩
theorem Ft(hc:aD n c)(hN:∀bs,N bs->holds o c bs):∀f bs,eV t (!o) c<=(bs.length:Int)->(∀l∈c,held o bs l=LM)->¬bq t o N f bs
 |0,bs,_,h,w=>by
  obtain⟨l,hl,e⟩:=hN bs w;rw[h l hl]at e;cases e
 |f+1,bs,hL,h,w=>by
  have w':if cF t bs.length=o then bq t o N f (bs++[LM])\/bq t o N f (bs++[LI])else bq t o N f (bs++[LM])/\bq t o N f (bs++[LI]):=w
  have go:∀b,(∀l∈c,(absI l - 1).toNat=bs.length->((b == decide (0 < l)) == o)=LM)->¬bq t o N f (bs++[b]):=λb hb=>by
   refine Ft hc hN f (bs++[b]) (by rw[LX,Mz];lia) λl hl=>?_;obtain g|g|g:=Tt (absI l - 1).toNat bs.length
   ·rw[mD g];exact h l hl
   ·rw[mE g];exact hb l hl g
   ·exact di (by rw[LX,Mz];lia)
  by_cases g:cF t bs.length=o
  ·rw[Ml g]at w';have no:∀l∈c,(absI l - 1).toNat≠bs.length:=λl hl e=>by
    have h1:=(hc.2 l hl).1;have:=Ax (t:=t) (hw:=!o) hl (by lia);rw[e,g]at this;cases o<;>cases this
   exact w'.elim (go _ λl hl e=>absurd e<|no l hl)<|go _ λl hl e=>absurd e<|no l hl
  ·rw[Mi g]at w';have both:∀b,bq t o N f (bs++[b]):=λb=>by
    cases b
    ·exact w'.1
    ·exact w'.2
   by_cases z:∃l∈c,(absI l - 1).toNat=bs.length
   ·obtain⟨l,hl,e⟩:=z;obtain⟨x,hx⟩:=DZ (decide (0 < l)) o;refine go x (λl' hl' e'=>?_)<|both x;have h1:=(hc.2 l hl).1;have h2:=(hc.2 l' hl').1;have:l'=l:=hc.1.inj hl' hl (by lia);rw[this];exact hx
   ·exact go LI (λl hl e=>absurd ⟨l,hl,e⟩ z)<|both LI
theorem ye(hc:aD n c)(hN:∀bs,N bs->holds o c bs):∀f bs,bs.length+f=n->(bs.length:Int)<=eV t (!o) c->bq t o N f bs->bq t o (λbs=>N bs/\holds o (aR t (!o) c) bs) f bs:=by
 have hl:=wa (t:=t) (hw:=!o) hc;intro f
 induction f with
 |zero=>
  intro bs hn hb w;have e:eV t (!o) c=(bs.length:Int):=by lia
  exists w;obtain⟨l,h1,h2⟩:=hN bs w;refine⟨l,MP.mpr ⟨h1,?_⟩,h2⟩;have:=(hc.2 l h1).2;exact Ma (by lia)
 |succ f ih=>
  intro bs hn hb w;by_cases e:(bs.length:Int)=eV t (!o) c
  ·by_cases z:holds o (aR t (!o) c) bs
   ·refine gt (λr _ h=>⟨h,?_⟩) w;obtain⟨l,h1,h2⟩:=z;exists l,h1;have:(absI l - 1).toNat < bs.length:=by
     obtain g|g:=Ru (absI l - 1).toNat bs.length
     ·exact g
     ·rw[di g]at h2;cases h2
    unfold held at h2 ⊢;rw[Nd this];exact h2
   ·refine absurd w<|Ft hc hN (f+1) bs (by lia) λl hlc=>?_;by_cases g:absI l<=eV t (!o) c
    ·cases q:held o bs l with
     |false=>rfl
     |true=>exact absurd ⟨l,MP.mpr ⟨hlc,Ma g⟩,q⟩ z
    ·exact di (by lia)
  ·have w':if cF t bs.length=o then bq t o N f (bs++[LM])\/bq t o N f (bs++[LI])else bq t o N f (bs++[LM])/\bq t o N f (bs++[LI]):=w
   have ih':∀b,bq t o N f (bs++[b])->bq t o (λbs=>N bs/\holds o (aR t (!o) c) bs) f (bs++[b]):=λb=>ih (bs++[b]) (by rw[LX,Mz];lia) (by rw[LX,Mz];lia);show if cF t bs.length=o then bq t o _ f (bs++[LM])\/bq t o _ f (bs++[LI])else bq t o _ f (bs++[LM])/\bq t o _ f (bs++[LI])
   by_cases g:cF t bs.length=o
   ·rw[Ml g]at w' ⊢;exact w'.imp (ih' _)<|ih' _
   ·rw[Mi g]at w' ⊢;exact⟨ih' _ w'.1,ih' _ w'.2⟩
theorem gu(hz:1<=z)(h1:held o bs z=LI)(h2:held o bs (-z)=LI):False:=by
 have e:absI (-z)=absI z:=by
  obtain⟨_,e⟩|⟨_,e⟩:=b8 z<;>obtain⟨_,e'⟩|⟨_,e'⟩:=b8 (-z)<;>lia
 unfold held at h1 h2;rw[e]at h2;cases g:bs[(absI z - 1).toNat]? with
 |none=>rw[g]at h1;cases h1
 |some b=>
  rw[g]at h1 h2;have h1':((b == decide (0 < z)) == o)=true:=h1;have h2':((b == decide (0 < -z)) == o)=true:=h2;rw[Ma (show 0 < z by lia)]at h1';rw[LW (show¬0 < -z by lia)]at h2';cases b<;>cases o<;>cases h1'<;>cases h2'
theorem uF(hf:aD n f)(hs:aD n s)(hb:dz f s z=LM)(hz:1<=z)(h1:z∈f)(h2:-z∈s)(a:holds o f bs)(b:holds o s bs):holds o (bK f s z) bs:=by
 have hj:=(dA hf.1 hs.1 hb).2;have az:absI z=z:=dg (by lia);have e:absI (-z)=z:=by
  obtain⟨_,e'⟩|⟨_,e'⟩:=b8 (-z)<;>lia
 obtain⟨l1,a1,a2⟩:=a;obtain⟨l2,b1,b2⟩:=b;by_cases g1:absI l1=z
 ·by_cases g2:absI l2=z
  ·have e1:l1=z:=hf.1.inj a1 h1 (by lia);have e2:l2=-z:=hs.1.inj b1 h2 (by lia);rw[e1]at a2;rw[e2]at b2;exact(gu hz a2 b2).elim
  ·exact⟨l2,(hj l2).mpr ⟨.inr b1,g2⟩,b2⟩
 ·exact⟨l1,(hj l1).mpr ⟨.inl a1,g1⟩,a2⟩
theorem rW(h1:1<=absI l)(h2:absI l<=(bs.length:Int))(h:hit bs l=o):held o bs l=true:=by
 unfold hit at h;unfold held;rw[LU (show(absI l - 1).toNat < bs.length by lia)]at h ⊢;subst h;simp
theorem uG{N:gV Md->Prop}(hc:∀c∈cs,aD t.length c)(hs:∀c∈sets,aD t.length c)(h:aP t cs hw sets d=A' c)
  (hN:∀bs,N bs->bs.length=t.length/\kQ cs bs=!hw/\∀s∈sets,holds (!hw) s bs) (w:bq t (!hw) N t.length []):bq t (!hw) (λbs=>N bs/\holds (!hw) c bs) t.length []:=by
 have pt:(∀bs,N bs->holds (!hw) c bs)->bq t (!hw) (λbs=>N bs/\holds (!hw) c bs) t.length []:=λg=>gt (λr _ z=>⟨z,g _ z⟩) w;unfold aP at h
 split at h
 ·rename_i c1;refine pt λbs hb=>?_;rw[MO]at c1;have hw0:hw=false:=by simpa using c1.1
  subst hw0;unfold gJ at h;cases e:bj cs.length (gW d 1)with
  |none=>rw[e]at h;cases h
  |some i=>
   rw[e]at h;have hi:=(b9 e).1;have hm:c∈cs:=by
    cases h;show cs.getD i []∈cs
    rw[LK,LU hi];exact OB hi
   obtain⟨b1,b2,_⟩:=hN bs hb;obtain⟨l,hl,hh⟩:=MW.mp<|Mu.mp b2 c hm;have:=(hc c hm).2 l hl;exact⟨l,hl,rW this.1 (by lia) hh⟩
 split at h
 ·rename_i c2;refine pt λbs hb=>?_;rw[MO]at c2;have hw1:hw=true:=c2.1;subst hw1;unfold iW at h
  split at h
  ·rename_i g;cases h;rw[MO]at g;have ok:=(pY g.1).2;obtain⟨b1,b2,_⟩:=hN bs hb;have b3:kQ cs bs=false:=b2;obtain⟨k,hk,hn⟩:=List.all_eq_false.mp b3;obtain⟨l,hl,hkl⟩:=MW.mp<|Mu.mp g.2 k hk;have hno:hit bs l=false:=by
    cases q:hit bs l with
    |false=>rfl
    |true=>exact absurd (MW.mpr ⟨l,Mo.mp hkl,q⟩) hn
   have:=ok.2 l hl;exact⟨l,hl,rW this.1 (by lia) hno⟩
  ·cases h
 split at h
 ·refine pt λbs hb=>?_;obtain⟨_,_,b3⟩:=hN bs hb;unfold dI at h;cases e1:bj sets.length (gW d 1)with
  |none=>rw[e1]at h;cases h
  |some i=>
  cases e2:bj sets.length (gW d 2)with
  |none=>rw[e1,e2]at h;cases h
  |some j=>
  rw[e1,e2]at h;cases e3:gW d 3 with
  |int z=>
   rw[e3]at h;have h':(if dR t hw (sets.getD i []) (sets.getD j []) z=LI then A' (bK (sets.getD i []) (sets.getD j []) z)else LL)=A' c:=h
   split at h'
   ·rename_i g;cases h';have mi:sets.getD i []∈sets:=by
     rw[LK,LU (b9 e1).1];exact OB _
    have mj:sets.getD j []∈sets:=by
     rw[LK,LU (b9 e2).1];exact OB _
    unfold dR at g;simp only [MO,Mo,mem_vars]at g;obtain⟨⟨g1,_,_⟩,g2,g3,g4⟩:=g;refine uF (hs _ mi) (hs _ mj) ?_ g1 g2 g3 (b3 _ mi)<|b3 _ mj;revert g4;cases dz (sets.getD i []) (sets.getD j []) z<;>simp
   ·cases h'
  |_=>rw[e3]at h;cases h
 split at h
 ·unfold gS at h;cases e:bj sets.length (gW d 1)with
  |none=>rw[e]at h;cases h
  |some i=>
   rw[e]at h;cases h;have mi:sets.getD i []∈sets:=by
    rw[LK,LU (b9 e).1];exact OB _
   have:=ye (t:=t) (o:=!hw) (N:=N) (hs _ mi) (λbs hb=>(hN bs hb).2.2 _ mi) t.length [] (by simp) (wa<|hs _ mi).1 w;rw[Su]at this;exact this
 ·cases h
theorem j0(hc:∀c∈cs,aD t.length c):∀{ds:gV Mc} {sets out:gV (gV Int)} {N:gV Md->Prop},(∀c∈sets,aD t.length c)->bL t cs hw sets ds=(out,LI)->
  (∀bs,N bs->bs.length=t.length/\kQ cs bs=!hw/\∀s∈sets,holds (!hw) s bs)->bq t (!hw) N t.length []->bq t (!hw) (λbs=>N bs/\∀s∈out,holds (!hw) s bs) t.length []
 |[],sets,out,N,hs,h,hN,w=>by
  cases h;exact gt (λr _ z=>⟨z,(hN _ z).2.2⟩) w
 |d::r,sets,out,N,hs,h,hN,w=>by
  have h':(match aP t cs hw sets d with|none=>(sets,LM)|some c=>bL t cs hw (sets++[c]) r)=(out,LI):=h;cases g:aP t cs hw sets d with
  |none=>rw[g]at h';cases h'
  |some c=>
   rw[g]at h';have:=j0 (N:=λbs=>N bs/\holds (!hw) c bs) hc (sets:=sets++[c]) (λz hz=>by
    obtain hz|hz:=Mt.mp hz
    ·exact hs z hz
    ·rw[LN.mp hz];exact rS hc hs g) h' (λbs hb=>by
    obtain⟨a1,a2,a3⟩:=hN bs hb.1;refine⟨a1,a2,λs X2=>?_⟩;obtain z|z:=Mt.mp X2
    ·exact a3 s z
    ·rw[LN.mp z];exact hb.2) (uG hc hs g hN w)
   exact gt (λr _ z=>⟨z.1.1,z.2⟩) this
theorem rX{α:Type}{p q:α->Md}:∀{l:gV α},(∀x∈l,p x=q x)->l.all p=l.all q
 |[],_=>rfl
 |x::l,h=>by
  rw[RY,RY,h x L9,rX λy hy=>h y<|LY _ hy]
theorem gv(hr:Iu 0 t.length cs)(o:Md):∀f bs,bs.length+f=t.length->cG t cs f bs.length (js bs)=o->bq t o (λbs=>bs.length=t.length/\kQ cs bs=o) f bs
 |0,bs,h,e=>by
  have hl:bs.length=t.length:=by lia
  exists hl;have e':Aa t.length cs (js bs)=o:=e;rw[<-e'];unfold kQ Aa;refine rX λc hc=>fE λl hl'=>?_;have:=hr c hc l hl';rw[DI (by lia) (by lia),hl]
 |f+1,bs,h,e=>by
  have e':(if cF t bs.length=LI then cG t cs f (bs.length+1) (2*js bs) || cG t cs f (bs.length+1) (2*js bs+1)else cG t cs f (bs.length+1) (2*js bs)&&cG t cs f (bs.length+1) (2*js bs+1))=o:=e;have go:∀b,cG t cs f (bs.length+1) (2*js bs+if b=LI then 1 else 0)=o->bq t o (λbs=>bs.length=t.length/\kQ cs bs=o) f (bs++[b]):=λb hb=>by
   refine gv hr o f (bs++[b]) (by rw[LX,Mz];lia) ?_;rw[oI,LX,Mz];exact hb
  show if cF t bs.length=o then bq t o _ f (bs++[LM])\/bq t o _ f (bs++[LI])else bq t o _ f (bs++[LM])/\bq t o _ f (bs++[LI])
  cases x:cG t cs f (bs.length+1) (2*js bs)<;>cases y:cG t cs f (bs.length+1) (2*js bs+1)<;>cases g:cF t bs.length<;>cases o<;>rw[x,y,g]at e'<;>
   first|(cases e';done)|skip
  all_goals first
   |exact .inl<|go LM x
   |exact .inr<|go LI y
   |exact⟨go LM x,go LI y⟩
theorem kR(hc:∀c∈cs,aD t.length c)(h:bL t cs hw [] ds=(out,LI))(he:[]∈out):cG t cs t.length 0 0=hw:=by
 have hr:Iu 0 t.length cs:=λc Wx l hl=>by
  have:=(hc c Wx).2 l hl;exact⟨by lia,this.2⟩
 cases g:cG t cs t.length 0 0 == hw with
 |true=>exact eq_of_beq g
 |false=>
  have e:cG t cs t.length 0 0=!hw:=by
   revert g;cases cG t cs t.length 0 0<;>cases hw<;>simp
  have w:=gv hr (!hw) t.length [] (by simp) e;have w2:=j0 hc (sets:=[]) (λ_ z=>absurd z OW) h (λbs hb=>⟨hb.1,hb.2,λ_ z=>absurd z OW⟩) w;obtain⟨r,_,_,z⟩:=oM w2;obtain⟨l,hl,_⟩:=z [] he;cases hl
end OD
namespace DP
open PySem
theorem D5:Yl (.type "list") "keys"=pure none:=by rw[typeLookup_type,builtinLookup_eq_fast];kernel_rfl
theorem lD:entryFor table "dict.update.loop"=A' Builtin.«dict.update.loop»:=entryFor_of_tree (by kernel_rfl)
theorem fW:plainId "dict.update.loop"=true:=by decide+kernel
theorem oN{Q:LH LF->LR->Prop}(hx:s.heap.get? l=A' o)(hc:o.cls=.type "list")(aao:o.data=.seq xs k)(hd:o.dict=LL)(hA:A.handled=LL)
  (h:∀h' tk,(∀b o,s.heap.get? b=A' o->h'.get? b=A' o)->Q LL {s with heap:=h',toks:=tk}):wpAny (MB prog w) A (getAttr? (.ref l) "keys") Q E s:=by
 obtain⟨c,dct,dat,sl⟩:=o;simp only at hc aao hd;subst hc aao hd;obtain⟨hp,g,d,tk,os⟩:=s;have hT:∀tk',(⟨hp,g,d,tk',os⟩:LR).TypeIs (.ref l) "list":=λ_=>⟨_,hx,rfl⟩;have f1:=sub_AttributeError;have f3:=F.slot_list_getattribute.lookup;have f4:=F.slot_list_getattribute.bind<|.ref l;have f5:=am_list_getattr_none;unfold getAttr? getAttrBy? getAttrBy
 repeat (any_goals (first|assumption|exact hT _|((with_reducible show wpAny _ _ (call (Value.builtin "list.__getattribute__") _ _) _ _ _);refine Qa F.slot_list_getattribute (hT _) am_entry_list_getattribute (F.args_list_getattribute_2 _ _) (meets_getattribute_miss_list l xs k sl "keys" _ D5 (by decide+kernel)<|by decide+kernel) ⟨hx,hA,λh' tk' e hx'=>?_⟩)|wp_step))
 obtain⟨t',u',he⟩:=hx'.there;show wpAny _ _ (V9 _ _ _ _ _ _ _) _ _ _
 unfold V9
 repeat (any_goals (first|assumption|wp_step))
 exact h _ _ hx'.keeps
section
variable {prog:Mm}{w:MK}{K:Type}[Pd K]{knd:KeyKind prog w K}{A:Nl}{s:LR}
theorem mG(ht:s.heap.IsTuple t xs)(h:Q xs.toList s):wpAny (MB prog w) A (UB<|.ref t) Q E s:=by
 obtain⟨o,ho,hc,n,hd⟩:=ht;have hT:s.TypeIs (.ref t) "tuple":=⟨o,ho,hc⟩;unfold UB;refine LG<|Rj hT ?_;rw[Ml<|by decide];refine LG<|Sz ho hd ?_;exact Me h
theorem yf(hh:A.in1.handled=LL){h0:M8}(hlI:l≠I)(hdI:d≠I)(hdl:d≠l)(hn:items.size<=sizeLine)(hm:more.length=items.size)
  (aa7:∀(i:Nat) (v:LF),items[i]? =A' v->∃kv key t,more[i]? =A' kv/\knd.is kv.1 key=LI/\v=.ref t/\t≠d/\t≠I/\h0.IsTuple t #[key,kv.2]) {R:Vi->LR->Prop}:
  ∀(m i:Nat) (s:LR) (tk0:Tok),items.size - i=m->i<=items.size->s.heap.IsListIter I l i->s.heap.IsList l items->s.heap.DictOf knd d (V8 []<|more.take i)->
   (∀b o,b≠d->b≠I->h0.get? b=A' o->s.heap.get? b=A' o)->
   (∀h' tk,h'.DictOf knd d (V8 [] more)->(∀b o,b≠d->b≠I->h0.get? b=A' o->h'.get? b=A' o)->R (.ok<|.ret .none) {s with heap:=h',toks:=tk})->
   codeAny (MB prog w) A (.builtin "dict.update.loop" ⟨[.ref d,.ref I,.int (i:Int) tk0,.none],[]⟩) R s:=by
 have W:=Uy (prog:=prog) (w:=w) (A:=A.in1) hh I l hlI items;intro m
 induction m with
 |zero=>
  intro i s tk0 hm0 hi st1 PL hold XA hR;have e:i=items.size:=by lia
  subst e;refine Pw lD ?_;rw[Oy fW _];refine LG (m:=TR<|.ref I)<|W.done s _ _ ⟨st1,PL⟩ λh' tk hk=>?_;have RU:∀b o,b≠I->s.heap.get? b=A' o->h'.get? b=A' o:=λb o hb e=>hk b o (by simpa using hb) e;refine LG (m:=TZ d [])<|Me<|Me ?_;refine hR h' tk ?_ λb o h1 h2 e=>RU b o h2<|XA b o h1 h2 e;rw[L8<|by lia]at hold;obtain⟨o,es,ep,ho,r⟩:=hold;exact⟨o,es,ep,RU d o hdI ho,r⟩
 |succ m ih=>
  intro i s tk0 hm0 hi st1 PL hold XA hR;have Qi:i < items.size:=by lia
  refine Pw lD ?_;rw[Oy fW _];refine LG (m:=TR<|.ref I)<|W.item i s _ _ Qi ⟨st1,PL⟩ λv h' tk hv Oo hk=>?_;have RU:∀b o,b≠I->s.heap.get? b=A' o->h'.get? b=A' o:=λb o hb e=>hk b o (by simpa using hb) e;obtain⟨kv,key,t,hki,UY,rfl,htd,htI,ht⟩:=aa7 i v hv;have ht':h'.IsTuple t #[key,kv.2]:=let ⟨o,ho,r⟩:=ht;⟨o,RU t o htI<|XA t o htd htI ho,r⟩
  have acj:h'.DictOf knd d (V8 []<|more.take i):=let ⟨o,es,ep,ho,r⟩:=hold;⟨o,es,ep,RU d o hdI ho,r⟩
  have hz:(V8 []<|more.take i).length<=sizeLine:=by
   have:=merged_length_le []<|more.take i;rw[ME]at this;simp only [OO]at this;lia
  refine LG<|N3<|LG<|PY<|mG (s:={s with heap:=h',toks:=tk}) ht' ?_;dsimp only;refine N3<|wpAny_dictSet_pairs (s:={s with heap:=h',toks:=tk}) (hsz:=hz) UY acj λh2 X4 sb=>?_;have e2:V8 [] (more.take<|i+1)=stored (V8 []<|more.take i) kv.1 kv.2:=merged_take_succ _ _ _ _ hki;refine Me ⟨PM fW _,?_⟩;refine ih (i+1) {s with heap:=h2,toks:=tk+1} 0 (by lia) Qi ?_ ?_ (by rw[e2];exact X4) (λb o h1 hbI e=>(sb.2 b h1).trans<|RU b o hbI<|XA b o h1 hbI e) λh3 tk3 b1 b2=>hR h3 tk3 b1 b2
  ·exact Oo.1.at λo e=>(sb.2 I λz=>hdI z.symm).trans e
  ·exact Oo.2.at λo e=>(sb.2 l λz=>hdl z.symm).trans e
theorem call_pairs{E:LF->LR->Prop}(hh:A.handled=LL){Q:LF->LR->Prop}(hl:s.heap.get? l=A' ol)(hc:ol.cls=.type "list")(aao:ol.data=.seq items nl)(hdd:ol.dict=LL)(hn:items.size<=sizeLine)(hm:more.length=items.size)
  (aa7:∀(i:Nat) (v:LF),items[i]? =A' v->∃kv key t,more[i]? =A' kv/\knd.is kv.1 key=LI/\v=.ref t/\s.heap.IsTuple t #[key,kv.2])
  (h:∀(h':M8) (tk:Nat),h'.DictOf knd s.heap.objs.size (V8 [] more)->(∀b o,s.heap.get? b=A' o->h'.get? b=A' o)->Q (.ref s.heap.objs.size) {s with heap:=h',toks:=tk}):
  wpAny (MB prog w) A (call (.type "dict") [.ref l]) Q E s:=by
 refine Yr (Q₁:=λobj s₁=>obj=.ref s.heap.objs.size/\s₁={s with heap:=s.heap.push {cls:=.type "dict",data:=.dict #[]}}) Xp (Vm _) WR (Xi _ ⟨rfl,rfl⟩) ?_;rintro obj s₁ ⟨rfl,rfl⟩;have aba:(s.heap.push {cls:=.type "dict",data:=.dict #[]}).DictOf knd s.heap.objs.size []:=XT s.heap;have Sx:=LP {cls:=.type "dict",data:=.dict #[]} hl;have Qi:l < s.heap.objs.size:=Mj hl;have hTl:Za {s with heap:=s.heap.push {cls:=.type "dict",data:=.dict #[]}} (.ref l) "list":=⟨_,Sx,hc⟩;exists aba.typeIs,Wi _ _;unfold Builtin.«dict.__init__»;refine LG ?_;unfold TU;refine LG<|RE aba.typeIs ?_;show wpAny _ _ (pure (s.heap.objs.size,[M' l])) _ _ _
 refine Me ?_;show wpAny _ _ (P5 "dict.__init__" s.heap.objs.size (.ref l) [] .none) _ _ _
 unfold P5;refine LG<|Rj hTl ?_;rw[Ml<|by decide];refine LG<|oN Sx hc aao hdd (by simpa using hh) λh1 tk1 k1=>?_;have Up:=k1 _ _ Sx;have acs:h1.IsList l items:=⟨_,Up,hc,nl,aao⟩;simp only [Wm,Sk];refine LG<|Pg<|LG<|Qu (s:={s with heap:=h1,toks:=tk1}) acs<|Me ?_;exists PM fW _;have hd0:=MG s.heap (o:={cls:=.type "dict",data:=.dict #[]}) rfl;have hd1:=k1 _ _ hd0;have aea:l < h1.objs.size:=Mj Up;have acy:s.heap.objs.size < h1.objs.size:=Mj hd1;have abc:h1.DictOf knd s.heap.objs.size []:=let ⟨o,es,ep,ho,r⟩:=aba;⟨o,es,ep,k1 _ _ ho,r⟩
 have hit:(h1.push {cls:=.type "list_iterator",data:=.fields #[.ref l,.int 0 0]}).get? h1.objs.size=A' {cls:=.type "list_iterator",data:=.fields #[.ref l,.int 0 0]}:=MG _ rfl;refine yf (knd:=knd) (by simpa using hh) (h0:=h1.push {cls:=.type "list_iterator",data:=.fields #[.ref l,.int 0 0]}) (I:=h1.objs.size) (l:=l) (items:=items) (more:=more) (Mx aea) (Mx acy) (PH Qi) hn hm (λi v hv=>?_) (items.size - 0) 0 _ 0 rfl (Mw _) ⟨_,hit,rfl,rfl⟩ (acs.push _) (by rw[Vt];exact abc.push _) (λb o _ _ e=>e) λh' tk b1 b2=>?_
 ·obtain⟨kv,key,t,a1,a2,a3,a4⟩:=aa7 i v hv;obtain⟨o,ho,r⟩:=a4;have ho1:=k1 _ _<|LP {cls:=.type "dict",data:=.dict #[]} ho;exact⟨kv,key,t,a1,a2,a3,Mx<|Mj ho,Mx<|Mj ho1,o,LP _ ho1,r⟩
 ·refine⟨rfl,h h' tk b1 λb o e=>?_⟩;have e1:=k1 _ _<|LP {cls:=.type "dict",data:=.dict #[]} e;exact b2 b o (Mx<|Mj e) (Mx<|Mj e1)<|LP _ e1
end
end DP
namespace L2
open PySem PySem.Spec PyProof.Rows
structure mH (P:Mm)(w:MK)(K:K')(mg:Str->LH LF)(base:M8)(CX:xL)(k:Nat)(C:LJ)(m:Str)(f:LJ)(fd:Ms)(ps:gV Str)(sp:Sp):Prop where
 ok:FnOk P w K mg base CX k f fd ps sp
 b:Binds K fd ps []
 cl:Cls K C
 me:Dj K C m f
structure Ku (P:Mm)(w:MK)(K:K')(mg:Str->LH LF)(base:M8)(k:Nat)(x:Str)(C f:LJ)(fd:Ms)(ps:gV Str)(sp:Sp):Prop where
 ok:FnOk P w K mg base b7 k f fd ps sp
 b:Binds K fd ps []
 mks:Mk K C f
 at_:mg x=A' (.ref C)
section
variable {X:Cx}{j k:Nat}{C f:LJ}{fd:Ms}{ps:gV Str}{sp:Sp}{pos:Pos}{e:Nt}{es:gV Nt}{t:TA}
theorem gT{m:Str}{R9:Pos}{o:Nt}{ta:TE}{pl:Sem Md}(G:mH X.prog X.w X.K X.mg X.base b7 j C m f fd ps sp)(he:PE X o ta)(hr:Room k X.A)(hjk:j<=k)(ha:PA X (e::es) t)
  (ZP:MT (e::es) X.env=(LM,Oj e X.env)::MT es X.env:=by rfl) (X3:(O_ pos<|MT es X.env).any (·.1)=false:=by rfl)
  (ht:Oj (.Call (.Attribute o m R9) (e::es) [] pos) X.env=(do
   let ov <-Oj o X.env
   VC R9.atName
   let (f,first) <-Ti [ov] (Ua ov m pl)
   Yq pos f first (O_ pos<|MT (e::es) X.env) (Vf pos<|RZ [] X.env)):=by rfl):
  PE X (.Call (.Attribute o m R9) (e::es) [] pos) (qY C m sp [] E0 ta t):=Dm he G.cl G.me G.ok (hr.mono hjk) G.b .nil vR ha ZP X3 ht
theorem Fu{x:Str}{p:Pos}(G:Ku X.prog X.w X.K X.mg X.base j x C f fd ps sp)(hr:Room k X.A)(hjk:j+1<=k)(hg:Gl X x)(ha:PA X (e::es) t)(hdb:(x == ("__debug__":Str))=false:=by decide)
  (he:MT (e::es) X.env=(LM,Oj e X.env)::MT es X.env:=by rfl) (X3:(O_ pos<|MT es X.env).any (·.1)=false:=by rfl):
  PE X (.Call (.Name x p) (e::es) [] pos) (E8 C sp [] E0 t):=Dn G.mks G.ok (hr.mono hjk) hg G.at_ G.b .nil vR ha hdb he X3
end
theorem rY(ok:HOk P w H h):∀(ts:gV LJ) (kvs:gV (bo×V)),ts.length=kvs.length->(∀(i:Nat) (t:LJ) (kv:bo×V),ts[i]? =A' t->kvs[i]? =A' kv->H t=A' (.tup [kV kv.1,kv.2]))->
  ∃more:gV (bo×LF),KV kvs more/\more.length=ts.length/\more.map (·.1)=kvs.map (·.1)/\∀(i:Nat) (t:LJ),ts[i]? =A' t->∃kv key,more[i]? =A' kv/\(a_ P w).is kv.1 key=LI/\h.IsTuple t #[key,kv.2]
 |[],[],_,_=>⟨[],.nil,rfl,rfl,λi t e=>by simp at e⟩
 |[],_::_,e,_=>by simp at e
 |_::_,[],e,_=>by simp at e
 |t::ts,kv::kvs,e,hp=>by
  obtain⟨more,a1,a2,a3,a4⟩:=rY ok ts kvs (by simpa using e) λi t' kv' e1 e2=>hp (i+1) t' kv' (by simpa using e1) (by simpa using e2);obtain⟨_,NH,r,o,h1,h2,n,h3⟩:=(show ObjOk P w H h t (.tup [kV kv.1,kv.2])from ok t _<|hp 0 t kv rfl rfl);obtain⟨u,v,rfl,ru,rv⟩:=r.two;refine⟨(kv.1,v)::more,.cons ⟨rfl,rv⟩ a1,by simp [a2],by simp [a3],λi t' e1=>?_⟩;cases i with
  |zero=>
   have e':t=t':=by simpa using e1
   subst e';exact⟨(kv.1,v),u,rfl,jm ru,o,h1,h2,n,h3⟩
  |succ i=>
   obtain⟨kv',key,b1,b2,b3⟩:=a4 i t' (by simpa using e1);exact⟨kv',key,by simpa using b1,b2,b3⟩
inductive Fv (xs:gV V)(H:Hp)(Q:VK):Prop
 |mk (l:LJ)(ts:gV LJ)(kvs:gV (bo×V))(hx:xs=[.ref l])(h:H l=A' (.lst<|ts.map V.ref))(hl:ts.length=kvs.length)(hp:∀(i:Nat) (t:LJ) (kv:bo×V),ts[i]? =A' t->kvs[i]? =A' kv->H t=A' (.tup [kV kv.1,kv.2])) (nd:(kvs.map (·.1)).Nodup) (z:kvs.length<=9000)
  (q:∀d,H d=LL->Q (.ref d) (upd H d<|.dK kvs)):Fv xs H Q
theorem uH(hc:X.calm=LI):dQ X (.type "dict") Fv:=by
 intro LO s σ H xs us Q I r h;obtain⟨l,ts,kvs,rfl,hH,hl,hp,nd,z,q⟩:=h;obtain⟨u,rfl,ru⟩:=r.one;cases ru;obtain⟨z1,NH,n,rv,N1,e⟩:=I.lstM hH;obtain⟨more,a1,a2,a3,a4⟩:=rY I.hok ts kvs hl hp;have ahK:NH.length=ts.length:=by
  rw[<-N1,J']
 refine DP.call_pairs (knd:=a_ X.prog X.w) (more:=more) (I.ok.hd hc) e rfl rfl rfl (by rw[Mf];lia) (by rw[Mf];lia) (λi v hv=>?_) λh' tk hd hk=>?_
 ·have hv':NH[i]? =A' v:=by simpa using hv
  have hi:i < ts.length:=by
   have:=(LS.mp hv').1;lia
  have ht:ts[i]? =A' ts[i]:=LU hi;obtain⟨kv,key,b1,b2,b3⟩:=a4 i _ ht;have hx:(ts.map V.ref)[i]? =A' (.ref ts[i]):=by rw[Mp,ht];rfl
  obtain⟨v',hv2,rv'⟩:=rv.get hx;rw[hv']at hv2;cases hv2;cases rv';exact⟨kv,key,_,b1,b2,rfl,b3⟩
 ·rw[merged_nil_of_nodup more<|by rw[a3];exact nd]at hd;refine⟨.ref s.heap.objs.size,_,I.laid (a:=s.heap.objs.size) (o:=.dK kvs) (t':=tk) (λb q hq=>hk b q hq) (LQ _)<|pP (Nx<|aW<|by lia) (ND.mpr<|NC<|Mx I.big) a1 hd,rfl,q _<|I.hok.fresh<|LQ _⟩
theorem D6(hx:X.xe=λ_ _=>False)(hb:PSs X body tb):PS X (.Try body (h₀::hs) [] [] pos) tb:=by
 intro LO s σ H D I h;refine wpAny_Try_except<|Nv (hb LO s σ H D I h) (λfl s1 q1=>?_) λe s1 q1=>?_
 ·cases fl with
  |next=>exact Q5 q1
  |ret v=>exact q1
  |brk=>exact q1
  |cont=>exact q1
 ·rw[hx]at q1;exact q1.elim
end L2
namespace L2
open PySem
theorem yg(Pv:Nat->St->gV V->Hp->Prop)(h0:Pv 0 σ0 [] (upd H1 D<|.lst []))(hd:∀i σ ys H,i<=xs.length->Pv i σ ys H->H D=A' (.lst ys)/\SqL K H a xs)
  (hs:∀i x σ ys H t,xs[i]? =A' x->Pv i σ ys H->H t=LL->g (.ref t) σ (upd H t<|.tup [.int (i:Nat),x]) λσ3 H3=>tt σ3 H3 λc H4=>if c=LI then te σ3 H4 λy H5=>H5 D=A' (.lst ys)/\ys.length < sizeLine/\Pv (i+1) σ3 (ys++[y]) (upd H5 D<|.lst<|ys++[y])else Pv (i+1) σ3 ys H4)
  (hq:∀σ ys H,Pv xs.length σ ys H->Q (.ref D) H):gi (Ha K a) D g tt te σ0 H1 Q:=by
 exists λi m σ ys H=>m=xs.length - i/\i<=xs.length/\Pv i σ ys H,⟨xs.length,by simp,Mw _,h0⟩;rintro i m σ ys H ⟨rfl,hi,p⟩;obtain⟨hD,q⟩:=hd i σ ys H hi p;exists hD;by_cases Qi:i < xs.length
 ·refine .inr ⟨⟨xs,xs[i],q,by simp [Qi]⟩,Pv<|i+1,λσ' ys' H' p'=>⟨xs.length - (i+1),by lia,rfl,Qi,p'⟩,λx H' y=>?_⟩;obtain⟨t,v,ht,rfl,rfl,y⟩:=y;exact hs i v σ ys H t (y xs q) p ht
 ·have e:i=xs.length:=by lia
  subst e;exact .inl ⟨⟨xs,q,LQ _⟩,hq σ ys H p⟩
@[irreducible] def PSi (X:Cx) (st:NN) (t:TS):Prop:=PS X st t
@[irreducible] def PSsi (X:Cx) (sts:gV NN) (t:TS):Prop:=PSs X sts t
def TupAt(H:Hp)(zs:gV V)(y:V):Prop:=∃p,y=.ref p/\H p=A' (.tup zs)
theorem TupAt.mono(h:TupAt H zs y)(k:Same H H'):TupAt H' zs y:=let ⟨p,e,g⟩:=h;⟨p,e,k _ _ g⟩
theorem TupAt.upd(h:TupAt H zs y)(hD:H D=A' (.lst ys)):TupAt (upd H D o) zs y:=by
 obtain⟨p,e,g⟩:=h;exact⟨p,e,by rw[al λz=>by rw[z,hD]at g;cases g];exact g⟩
end L2
namespace L2
open PySem PySem.Spec PyProof.Rows
section
variable {id:O3}
theorem Ay{X:Cx}{K:K'}(e0:X.K=K):OpR X (Pz .Add) (Fq K):=by subst e0;exact DN
end
end L2
namespace L2
open PySem PySem.Spec PyProof.Rows
section
variable {K:K'}{x qual:Str}{st:NN}{f:LJ}{fd:Ms}{p q r s:Str}
theorem dw{P:gV LF->Prop}(h:∀x us,us.length=n->P (x::us))(us:gV LF)(e:us.length=n+1):P us:=by
 obtain⟨x,r,rfl⟩:=List.exists_cons_of_length_eq_add_one e;exact h x r<|UK e
theorem mI{P:gV LF->Prop}(h:P [])(us:gV LF)(e:us.length=0):P us:=by
 rw[Oc.mp e];exact h
theorem Fun.b1(F:Fun K x qual st f fd)(h:∀kV Wz pm an OT ct u,Ub (OG x qual (eu st) (dj st) (aj st) .none kV Wz pm an OT ct) ⟨[u],[]⟩=pure [(p,u)]:=by intros;rfl):Binds K fd [p] []:=
 F.binds λa b c d e f=>dw λu=>mI<|h a b c d e f u
theorem Fun.b2(F:Fun K x qual st f fd)(h:∀kV Wz pm an OT ct u v,Ub (OG x qual (eu st) (dj st) (aj st) .none kV Wz pm an OT ct) ⟨[u,v],[]⟩=pure [(p,u),(q,v)]:=by intros;rfl):Binds K fd [p,q] []:=
 F.binds λa b c d e f=>dw λu=>dw λv=>mI<|h a b c d e f u v
theorem Fun.b3(F:Fun K x qual st f fd)(h:∀kV Wz pm an OT ct u v w,Ub (OG x qual (eu st) (dj st) (aj st) .none kV Wz pm an OT ct) ⟨[u,v,w],[]⟩=pure [(p,u),(q,v),(r,w)]:=by intros;rfl):Binds K fd [p,q,r] []:=
 F.binds λa b c d e f=>dw λu=>dw λv=>dw λw=>mI<|h a b c d e f u v w
theorem Fun.b4(F:Fun K x qual st f fd)(h:∀kV Wz pm an OT ct u v w y,Ub (OG x qual (eu st) (dj st) (aj st) .none kV Wz pm an OT ct) ⟨[u,v,w,y],[]⟩=pure [(p,u),(q,v),(r,w),(s,y)]:=by intros;rfl):Binds K fd [p,q,r,s] []:=
 F.binds λa b c d e f=>dw λu=>dw λv=>dw λw=>dw λy=>mI<|h a b c d e f u v w y
theorem Fun.b5{t:Str}(F:Fun K x qual st f fd)(h:∀kV Wz pm an OT ct u v w y z,Ub (OG x qual (eu st) (dj st) (aj st) .none kV Wz pm an OT ct) ⟨[u,v,w,y,z],[]⟩=pure [(p,u),(q,v),(r,w),(s,y),(t,z)]:=by intros;rfl):Binds K fd [p,q,r,s,t] []:=
 F.binds λa b c d e f=>dw λu=>dw λv=>dw λw=>dw λy=>dw λz=>mI<|h a b c d e f u v w y z
variable {h:M8}{mg:Str->LH LF}{k:Nat}{ps:gV Str}{sp:Sp}
theorem fi(P:Mm)(w:MK)(base:M8)(X:K.In h)(G:h.Ns L7 mg)(a:L_ K L7 x=A' (A'<|.ref f))(F:Fun K x qual st f fd)(b:Binds K fd ps [])(ok:FnOk P w K mg base b7 k f fd ps sp):Fn P w K mg base k x f fd ps sp:=⟨ok,b,F.kp,Of X G a⟩
theorem Az(P:Mm)(w:MK)(base:M8)(X:K.In h)(G:h.Ns L7 mg)(a:L_ K L7 x=A' (A'<|.ref f))(F:Fun K x qual st f fd)(b:Binds K fd ps [])(ok:FnOk P w K mg base (fF P w) k f fd ps sp):zb P w K mg base k x f fd ps sp:=⟨ok,b,F.kp,Of X G a⟩
end
end L2
namespace OD
open PySem L2
theorem wc:∀{ds:gV Mc} {sets out:gV (gV Int)},bL t cs hw sets ds=(out,LI)->∃tl,out=sets++tl/\tl.length=ds.length/\∀k d,ds[k]? =A' d->aP t cs hw (sets++tl.take k) d=A' (tl.getD k [])
 |[],sets,out,h=>by
  cases h;exact⟨[],(N0 _).symm,rfl,λk d e=>by simp at e⟩
 |e::r,sets,out,h=>by
  have h':(match aP t cs hw sets e with|none=>(sets,LM)|some c=>bL t cs hw (sets++[c]) r)=(out,LI):=h;cases g:aP t cs hw sets e with
  |none=>rw[g]at h';cases h'
  |some c=>
   rw[g]at h';obtain⟨tl,h1,h2,h3⟩:=wc h';refine⟨c::tl,by rw[h1,MN];rfl,by rw[L4,L4,h2],λk d ek=>?_⟩;cases k with
   |zero=>
    cases(show A' e=A' d from ek);rw[Vt,N0];exact g
   |succ k=>
    have:=h3 k d ek;rw[MN]at this;exact this
theorem p_(h:bL t cs hw [] ds=(out,LI))(hd:ds[k]? =A' d):aP t cs hw (out.take k) d=A' (out.getD k []):=by
 obtain⟨tl,h1,_,h3⟩:=wc h;rw[Sa]at h1;subst h1;exact h3 k d hd
theorem j8(h:aO≠w)(n:Nat)(z:Int):bP w n (.tuple [.str aO,.int z])=false:=by
 show(decide (2=n)&&decide (aO=w))=LM
 rw[LW h,On]
theorem iI:aP t cs hw sets (.tuple [.str aO,.int z])=gS t hw sets (.int z):=by
 unfold aP;rw[j8 (by decide+kernel),j8 (by decide+kernel),j8 (by decide+kernel),On,On,Mi (by decide),Mi (by decide),Mi (by decide),Ml (show bP aO 2 (.tuple [.str aO,.int z])=LI by show(decide (2=2)&&decide (aO=aO))=LI;simp)];rfl
end OD
namespace L2
open PySem PySem.Spec PyProof.Rows
def D8:V->gV V->Hp->VK->Prop:=λx vs H Q=>∃(dx:Mc) (ds:gV Mc) (y:V) (l:LJ) (xs:gV V) (j:Nat),x=.ref l/\vs=[y]/\H l=A' (.lst xs)/\c9 H ds xs/\RD H dx y/\dx.canLay0=LI/\MY ds=LI/\dx.depth<=60/\j < ds.length/\MU (ds.getD j .none) dx=LI/\(∀m,m < j->MU (ds.getD m .none) dx=LM)/\Q (.int j) H
theorem oS(hu:X.A.units+64 < PU):Ja X "list.index" D8:=by
 intro LO s σ H x vs v us Q I rx rv h;obtain⟨dx,ds,y,l,xs,j,rfl,rfl,hH,Y0,hdx,c1,c2,c3,hj,hit,hno,q⟩:=h;cases rx;obtain⟨u,rfl,ru⟩:=rv.one;obtain⟨z,NH,n,r,hl,e⟩:=I.lstM hH;obtain⟨as,qa⟩:=cS I dx y u hdx ru;obtain⟨bs,qb⟩:=cS I (.list ds) (.ref l) (.ref l) (fT hH Y0) rfl;have qs:∃cs,WO s.heap NH ds cs:=by
  cases qb with
  |list h1 h2 h3 h4=>
   rw[e]at h1;cases h1;cases h3;exact⟨_,by simpa using h4⟩
 obtain⟨cs,qs⟩:=qs;have qs':WO s.heap NH.toArray.toList ds cs:=by simpa using qs
 have ade:=Wd ds NH cs c2 qs;have N1:NH.length=ds.length:=by rw[<-ade,J']
 have hat:∀m hm,MU (Sq s.heap NH[m]) dx=MU (ds.getD m .none) dx:=λm hm=>by
  have:ds.getD m .none=Sq s.heap NH[m]:=by
   rw[<-ade,LK,Mp,LU hm];rfl
  rw[this]
 have hm2:min (NK ds) dx.depth<=dx.depth:=RQ _ _;refine Qa RH ⟨_,e,rfl⟩ F.entry_list_index (F.args_list_index_2 _ _) (SeqAt.list_indexAt l NH.toArray n LL #[] u (λy=>MU (Sq s.heap y) dx) j (by simpa using(by lia:j < NH.length)) ?_ ?_ ?_) ⟨e,Xn qs' qa c2 c1 (by lia),?_⟩
 ·have:=NT;lia
 ·rw[Vv];exact(hat j<|by lia).trans hit
 ·intro m hm Qi;rw[Vv];exact(hat m<|by simpa using hm).trans<|hno m Qi
 ·exact⟨.int j,H,I.tok _,⟨_,rfl⟩,q⟩
end L2
namespace OD
open PySem L2
def cy(cs:gV (gV Int)):gV (gV Int)->gV (gV Int)
 |[]=>cs
 |c::r=>cy (if c∈cs then cs else cs++[c]) r
theorem mJ:∀out cs c,cy cs (out++[c])=if c∈cy cs out then cy cs out else cy cs out++[c]
 |[],_,_=>rfl
 |_::out,cs,c=>mJ out _ c
theorem joinL_mem:∀{out cs:gV (gV Int)} {c:gV Int},c∈cy cs out↔c∈cs\/c∈out
 |[],cs,c=>by simp [cy]
 |d::out,cs,c=>by
  show c∈cy (if d∈cs then cs else cs++[d]) out↔_
  rw[joinL_mem];by_cases h:d∈cs
  ·rw[Ml h,Mn];constructor
   ·rintro (z|z)
    ·exact .inl z
    ·exact .inr<|.inr z
   ·rintro (z|z|z)
    ·exact .inl z
    ·exact .inl<|z▸h
    ·exact .inr z
  ·rw[Mi h,Mt,LN,Mn,or_assoc]
theorem j9:∀out cs,(cy cs out).length<=cs.length+out.length
 |[],_=>LQ _
 |d::out,cs=>by
  have:=j9 out (if d∈cs then cs else cs++[d]);show(cy (if d∈cs then cs else cs++[d]) out).length<=_
  rw[L4];by_cases h:d∈cs
  ·rw[Ml h]at this ⊢;lia
  ·rw[Mi h]at this ⊢;rw[LX,Mz]at this;lia
theorem AA:∀{f:Nat} {bs:gV Md},bq t o N f bs->bq t (!o) N' f bs->∃r,N (bs++r)/\N' (bs++r)
 |0,bs,a,b=>⟨[],by rw[N0];exact⟨a,b⟩⟩
 |f+1,bs,a,b=>by
  have a':if cF t bs.length=o then bq t o N f (bs++[LM])\/bq t o N f (bs++[LI])else bq t o N f (bs++[LM])/\bq t o N f (bs++[LI]):=a
  have b':if cF t bs.length=(!o)then bq t (!o) N' f (bs++[LM])\/bq t (!o) N' f (bs++[LI])else bq t (!o) N' f (bs++[LM])/\bq t (!o) N' f (bs++[LI]):=b
  have both:∃x,bq t o N f (bs++[x])/\bq t (!o) N' f (bs++[x]):=by
   by_cases g:cF t bs.length=o
   ·rw[Ml g]at a';rw[Mi (by rw[g];cases o<;>decide)]at b';exact a'.elim (λz=>⟨_,z,b'.1⟩) λz=>⟨_,z,b'.2⟩
   ·rw[Mi g]at a';rw[Ml (by revert g;cases cF t bs.length<;>cases o<;>decide)]at b';exact b'.elim (λz=>⟨_,a'.1,z⟩) λz=>⟨_,a'.2,z⟩
  obtain⟨x,h1,h2⟩:=both;obtain⟨r,h⟩:=AA h1 h2;rw[MN]at h;exact⟨_,h⟩
theorem qc(hc:∀c∈cs,aD n c):Iu 0 n cs:=λc Wx l hl=>by
 have:=(hc c Wx).2 l hl;exact⟨by lia,this.2⟩
theorem yi(h:held LI bs l=LI):hit bs l=true:=by
 unfold held at h;unfold hit;cases g:bs[(absI l - 1).toNat]? with
 |none=>rw[g]at h;cases h
 |some b=>
  rw[g]at h;simpa using h
theorem uI(hc:∀c∈cs,aD t.length c)(ho:∀c∈out,aD t.length c)(h:bL t cs LM [] ds=(out,LI)):cG t (cy cs out) t.length 0 0=cG t cs t.length 0 0:=by
 have hj:∀c∈cy cs out,aD t.length c:=λc hm=>(joinL_mem.mp hm).elim (hc c)<|ho c;cases g:cG t cs t.length 0 0 with
 |true=>
  cases g':cG t (cy cs out) t.length 0 0 with
  |true=>rfl
  |false=>
   have w:=gv (qc hc) LI t.length [] (by simp) g;have w2:=j0 hc (hw:=LM) (sets:=[]) (λ_ z=>absurd z OW) h (λbs hb=>⟨hb.1,hb.2,λ_ z=>absurd z OW⟩) w;have w3:=gv (qc hj) LM t.length [] (by simp) g';obtain⟨r,⟨⟨_,a1⟩,a2⟩,⟨_,b⟩⟩:=AA w2 w3;have:kQ (cy cs out) ([]++r)=true:=by
    refine Mu.mpr λc hm=>?_;obtain z|z:=joinL_mem.mp hm
    ·exact Mu.mp a1 c z
    ·obtain⟨l,hl,hh⟩:=a2 c z;exact MW.mpr ⟨l,hl,yi hh⟩
   rw[this]at b;cases b
 |false=>
  cases g':cG t (cy cs out) t.length 0 0 with
  |false=>rfl
  |true=>
   have w:=gv (qc hc) LM t.length [] (by simp) g;have w3:=gv (qc hj) LI t.length [] (by simp) g';obtain⟨r,⟨_,a1⟩,⟨_,b⟩⟩:=AA w3 w;have:kQ cs ([]++r)=true:=Mu.mpr λc hm=>Mu.mp a1 c<|joinL_mem.mpr<|.inl hm;rw[this]at b;cases b
where
 run_more {t:Str} {cs:gV (gV Int)} {hw:Md}:∀{ds:gV Mc} {sets out:gV (gV Int)},bL t cs hw sets ds=(out,LI)->∃more,out=sets++more
  |[],sets,out,h=>⟨[],by cases h;exact(N0 _).symm⟩
  |d::ds,sets,out,h=>by
   have h':(match aP t cs hw sets d with|none=>(sets,LM)|some c=>bL t cs hw (sets++[c]) ds)=(out,LI):=h;cases q:aP t cs hw sets d with
   |none=>rw[q]at h';cases h'
   |some c=>
    rw[q]at h';obtain⟨more,e⟩:=run_more h';exact⟨c::more,by rw[e,MN];rfl⟩
end OD
namespace L2
open PySem
inductive qd (O2:St)(H1:Hp)(D:LJ)(xs:gV V)(f:V->gV V)(i:Nat)(σ:St)(ys:gV V)(H2:Hp):Prop
 |mk (v0:LH V)(h0:σ=v0::O2)(h1:ys.length=i)(h2:H2 D=A' (.lst ys))(h3:Same H1 H2)(h4:∀(j:Nat) (y:V),ys[j]? =A' y->∃x,xs[j]? =A' x/\TupAt H2 (f x) y):qd O2 H1 D xs f i σ ys H2
theorem uJ(hD:H1 D=LL)(hx:xs[i]? =A' x)(J:qd O2 H1 D xs f i (v0::O2) ys H2)(hp:H2 p=LL)(hi:i<=900):
  upd H2 p (.tup<|f x) D=A' (.lst ys)/\ys.length < sizeLine/\qd O2 H1 D xs f (i+1) (v0::O2) (ys++[.ref p]) (upd (upd H2 p<|.tup<|f x) D<|.lst<|ys++[.ref p]):=by
 obtain⟨_,_,h1,h2,h3,h4⟩:=J;have k:=ag hp<|.tup<|f x;have h2':=k _ _ h2;refine⟨h2',iE (by lia),_,rfl,by rw[LX,h1];rfl,ad,(h3.trans k).upd_new hD _,λj y hy=>?_⟩;obtain z|z:=Ru j ys.length
 ·rw[Nd z]at hy;obtain⟨x',g1,g2⟩:=h4 j y hy;exact⟨x',g1,(g2.mono k).upd h2'⟩
 ·rw[Nh z]at hy;have hj:j=i:=by
   have:=(LS.mp hy).1;rw[Mz]at this;lia
  subst hj;rw[h1,PF]at hy;cases hy;exact⟨x,hx,TupAt.upd ⟨p,rfl,ad⟩ h2'⟩
theorem uK(O2:St)(f:V->gV V)(e0:σ0=LL::O2)(ha:H1 a=A' (.lst xs))(hD:H1 D=LL)(N1:xs.length<=900)
  (he:∀x∈xs,∀(H':Hp) (R:VK),Same H1 H'->(∀p,H' p=LL->R (.ref p) (upd H' p<|.tup<|f x))->te (A' x::O2) H' R)
  (hq:∀(ys:gV V) (H':Hp),Same H1 H'->H' D=A' (.lst ys)->ys.length=xs.length->(∀(j:Nat) (y:V),ys[j]? =A' y->∃x,xs[j]? =A' x/\TupAt H' (f x) y)->Q (.ref D) H'):gi (C5 K a) D (gh 0) Fp te σ0 H1 Q:=by
 have na:a≠D:=ak ha hD;refine bO (K:=K) (a:=a) (xs:=xs) (qd O2 H1 D xs f) ⟨LL,e0,rfl,ad,ag hD _,λj y z=>by simp at z⟩ ?_ ?_ ?_
 ·rintro i σ ys H2 _ ⟨_,_,_,h2,h3,_⟩;exact⟨h2,SqL.of<|h3 _ _ ha⟩
 ·rintro i x σ ys H2 hx ⟨v0,rfl,h1,h2,h3,h4⟩;have hm:=LZ hx;have V3:i < xs.length:=(LS.mp hx).1;exact bS (he x hm _ _ h3 λp hp=>uJ hD hx ⟨_,rfl,h1,h2,h3,h4⟩ hp<|by lia)
 ·rintro σ ys H2 ⟨_,_,h1,h2,h3,h4⟩;exact hq ys H2 h3 h2 h1 h4
end L2
namespace DP
open PySem
def mergedH{K:Type} [Pd K] (xs more:gV (K×LJ×LF)):gV (K×LJ×LF):=more.foldl (λxs m=>Rk xs m.1 m.2.1 m.2.2) xs
theorem rZ{K:Type} [Pd K] (xs:gV (K×LJ×LF))(k:K)(a:LJ)(v:LF):(Rk xs k a v).length<=xs.length+1:=by
 cases e:Se xs k with
 |none=>rw[XE e,LX];exact LQ _
 |some p=>rw[storedH_old e,J'];exact Re _
theorem kT{K:Type} [Pd K]:∀(more xs:gV (K×LJ×LF)),(mergedH xs more).length<=xs.length+more.length
 |[],xs=>LQ _
 |m::more,xs=>by
  have h1:=kT more<|Rk xs m.1 m.2.1 m.2.2;have h2:=rZ xs m.1 m.2.1 m.2.2;have e:mergedH xs (m::more)=mergedH (Rk xs m.1 m.2.1 m.2.2) more:=rfl;rw[e,L4];lia
theorem qf{K:Type} [Pd K] (more:gV (K×LJ×LF))(i:Nat)(m:K×LJ×LF)(h:more[i]? =A' m):mergedH [] (more.take<|i+1)=Rk (mergedH []<|more.take i) m.1 m.2.1 m.2.2:=by
 unfold mergedH;rw[MM,h,Qw];rfl
section
variable {prog:Mm}{w:MK}{K:Type}[Pd K]{knd:KeyKind prog w K}{A:Nl}{s:LR}
theorem iJ(x:(Ob knd).is h k a)(e:∀o,h.get? a=A' o->h'.get? a=A' o):(Ob knd).is h' k a:=by
 obtain⟨o,items,n,h1,r⟩:=x;exact⟨o,items,n,e _ h1,r⟩
theorem uL(hh:A.in1.handled=LL)(hu:A.in1.units < PU){h0:M8}(hlI:l≠I)(hdI:d≠I)(hdl:d≠l)(hn:items.size<=sizeLine)(hm:more.length=items.size)
  (UY:∀m∈more,(Ob knd).is h0 m.1 m.2.1/\m.2.1≠d/\m.2.1≠I)
  (aa7:∀(i:Nat) (v:LF),items[i]? =A' v->∃kv t,more[i]? =A' kv/\v=.ref t/\t≠d/\t≠I/\h0.IsTuple t #[.ref kv.2.1,kv.2.2]) {R:Vi->LR->Prop}:
  ∀(m i:Nat) (s:LR) (tk0:Tok),items.size - i=m->i<=items.size->s.heap.IsListIter I l i->s.heap.IsList l items->s.heap.DictOfH (Ob knd) d (mergedH []<|more.take i)->
   (∀b o,b≠d->b≠I->h0.get? b=A' o->s.heap.get? b=A' o)->
   (∀h' tk,h'.DictOfH (Ob knd) d (mergedH [] more)->(∀b o,b≠d->b≠I->h0.get? b=A' o->h'.get? b=A' o)->R (.ok<|.ret .none) {s with heap:=h',toks:=tk})->
   codeAny (MB prog w) A (.builtin "dict.update.loop" ⟨[.ref d,.ref I,.int (i:Int) tk0,.none],[]⟩) R s:=by
 have W:=Uy (prog:=prog) (w:=w) (A:=A.in1) hh I l hlI items;have mem:∀i:Nat,∀x∈mergedH [] (more.take i),∃m∈more,x.1=m.1/\x.2.1=m.2.1:=by
  have gen:∀(ms xs:gV (gV K×LJ×LF)),∀x∈mergedH xs ms,(∃m∈xs,x.1=m.1/\x.2.1=m.2.1)\/∃m∈ms,x.1=m.1/\x.2.1=m.2.1:=by
   intro ms
   induction ms with
   |nil=>exact λxs x hx=>.inl ⟨x,hx,rfl,rfl⟩
   |cons m ms ih=>
    intro xs x hx;obtain⟨y,hy,e1,e2⟩|⟨y,hy,e⟩:=ih (Rk xs m.1 m.2.1 m.2.2) x hx
    ·cases q:Se xs m.1 with
     |none=>
      rw[XE q]at hy;obtain hy|hy:=Mt.mp hy
      ·exact .inl ⟨y,hy,e1,e2⟩
      ·rw[LN]at hy;subst hy;exact .inr ⟨m,L9,e1,e2⟩
     |some p=>
      rw[storedH_old q]at hy;obtain⟨z,hz,rfl⟩:=MF.mp hy;refine .inl ⟨z,hz,?_,?_⟩
      ·rw[e1];unfold putAt;split<;>rfl
      ·rw[e2];unfold putAt;split<;>rfl
    ·exact .inr ⟨y,LY _ hy,e⟩
  intro i x hx;obtain⟨_,h,_⟩|⟨m,h,e⟩:=gen _ _ x hx
  ·exact nomatch h
  ·exact⟨m,PK h,e⟩
 intro m
 induction m with
 |zero=>
  intro i s tk0 hm0 hi st1 PL hold XA hR;have e:i=items.size:=by lia
  subst e;refine Pw lD ?_;rw[Oy fW _];refine LG (m:=TR<|.ref I)<|W.done s _ _ ⟨st1,PL⟩ λh' tk hk=>?_;have RU:∀b o,b≠I->s.heap.get? b=A' o->h'.get? b=A' o:=λb o hb e=>hk b o (by simpa using hb) e;refine LG (m:=TZ d [])<|Me<|Me ?_;refine hR h' tk ?_ λb o h1 h2 e=>RU b o h2<|XA b o h1 h2 e;have adb:=mem items.size;rw[L8<|by lia]at hold adb;obtain⟨o,es,ep,ho,a1,a2,a3,a4,a5⟩:=hold;refine⟨o,es,ep,RU d o hdI ho,a1,a2,a3,λx hx=>?_,a5⟩;obtain⟨m,hm',e1,e2⟩:=adb x hx;refine iJ (a4 x hx) λo ho=>RU _ o ?_ ho;rw[e2];exact(UY m hm').2.2
 |succ m ih=>
  intro i s tk0 hm0 hi st1 PL hold XA hR;have Qi:i < items.size:=by lia
  refine Pw lD ?_;rw[Oy fW _];refine LG (m:=TR<|.ref I)<|W.item i s _ _ Qi ⟨st1,PL⟩ λv h' tk hv Oo hk=>?_;have RU:∀b o,b≠I->s.heap.get? b=A' o->h'.get? b=A' o:=λb o hb e=>hk b o (by simpa using hb) e;obtain⟨kv,t,hki,rfl,htd,htI,ht⟩:=aa7 i v hv;have hkm:=UY kv<|LZ hki;have ht':h'.IsTuple t #[.ref kv.2.1,kv.2.2]:=let ⟨o,ho,r⟩:=ht;⟨o,RU t o htI<|XA t o htd htI ho,r⟩
  have hkk:(Ob knd).is h' kv.1 kv.2.1:=iJ hkm.1 λo ho=>RU _ o hkm.2.2<|XA _ o hkm.2.1 hkm.2.2 ho;have acj:h'.DictOfH (Ob knd) d (mergedH []<|more.take i):=by
   obtain⟨o,es,ep,ho,a1,a2,a3,a4,a5⟩:=hold;refine⟨o,es,ep,RU d o hdI ho,a1,a2,a3,λx hx=>?_,a5⟩;obtain⟨m',hm',e1,e2⟩:=mem i x hx;refine iJ (a4 x hx) λo ho=>RU _ o ?_ ho;rw[e2];exact(UY m' hm').2.2
  have hz:(mergedH []<|more.take i).length<=sizeLine:=by
   have:=kT (more.take i) [];rw[ME]at this;simp only [OO]at this;lia
  refine LG<|N3<|LG<|PY<|mG (s:={s with heap:=h',toks:=tk}) ht' ?_;dsimp only;refine N3<|wpAny_dictSet_heap (knd:=Ob knd) (s:={s with heap:=h',toks:=tk}) (hsz:=hz) hu hkk acj λh2 X4 sb=>?_;have e2:=qf more i kv hki;refine Me ⟨PM fW _,?_⟩;refine ih (i+1) {s with heap:=h2,toks:=tk+(Ob knd).draws kv.1} 0 (by lia) Qi ?_ ?_ (by rw[e2];exact X4) (λb o h1 hbI e=>(sb.2 b h1).trans<|RU b o hbI<|XA b o h1 hbI e) λh3 tk3 b1 b2=>hR h3 tk3 b1 b2
  ·exact Oo.1.at λo e=>(sb.2 I λz=>hdI z.symm).trans e
  ·exact Oo.2.at λo e=>(sb.2 l λz=>hdl z.symm).trans e
theorem call_pairsH{E:LF->LR->Prop}(hh:A.handled=LL)(hu:A.units+2 < PU){Q:LF->LR->Prop}(hl:s.heap.get? l=A' ol)(hc:ol.cls=.type "list")(aao:ol.data=.seq items nl)(hdd:ol.dict=LL)(hn:items.size<=sizeLine)(hm:more.length=items.size)
  (UY:∀m∈more,(Ob knd).is s.heap m.1 m.2.1)
  (aa7:∀(i:Nat) (v:LF),items[i]? =A' v->∃kv t,more[i]? =A' kv/\v=.ref t/\s.heap.IsTuple t #[.ref kv.2.1,kv.2.2])
  (h:∀(h':M8) (tk:Nat),h'.DictOfH (Ob knd) s.heap.objs.size (mergedH [] more)->(∀b o,s.heap.get? b=A' o->h'.get? b=A' o)->Q (.ref s.heap.objs.size) {s with heap:=h',toks:=tk}):
  wpAny (MB prog w) A (call (.type "dict") [.ref l]) Q E s:=by
 refine Yr (Q₁:=λobj s₁=>obj=.ref s.heap.objs.size/\s₁={s with heap:=s.heap.push {cls:=.type "dict",data:=.dict #[]}}) Xp (Vm _) WR (Xi _ ⟨rfl,rfl⟩) ?_;rintro obj s₁ ⟨rfl,rfl⟩;have aba:(s.heap.push {cls:=.type "dict",data:=.dict #[]}).DictOfH (Ob knd) s.heap.objs.size []:=ab1 s.heap;have Sx:=LP {cls:=.type "dict",data:=.dict #[]} hl;have Qi:l < s.heap.objs.size:=Mj hl;have hTl:Za {s with heap:=s.heap.push {cls:=.type "dict",data:=.dict #[]}} (.ref l) "list":=⟨_,Sx,hc⟩;exists aba.typeIs,Wi _ _;unfold Builtin.«dict.__init__»;refine LG ?_;unfold TU;refine LG<|RE aba.typeIs ?_;show wpAny _ _ (pure (s.heap.objs.size,[M' l])) _ _ _
 refine Me ?_;show wpAny _ _ (P5 "dict.__init__" s.heap.objs.size (.ref l) [] .none) _ _ _
 unfold P5;refine LG<|Rj hTl ?_;rw[Ml<|by decide];refine LG<|oN Sx hc aao hdd (by simpa using hh) λh1 tk1 k1=>?_;have Up:=k1 _ _ Sx;have acs:h1.IsList l items:=⟨_,Up,hc,nl,aao⟩;simp only [Wm,Sk];refine LG<|Pg<|LG<|Qu (s:={s with heap:=h1,toks:=tk1}) acs<|Me ?_;exists PM fW _;have hd0:=MG s.heap (o:={cls:=.type "dict",data:=.dict #[]}) rfl;have hd1:=k1 _ _ hd0;have aea:l < h1.objs.size:=Mj Up;have acy:s.heap.objs.size < h1.objs.size:=Mj hd1;have abc:(h1.push {cls:=.type "list_iterator",data:=.fields #[.ref l,.int 0 0]}).DictOfH (Ob knd) s.heap.objs.size []:=by
  obtain⟨o,es,ep,ho,a1,a2,a3,a4,a5⟩:=aba;exact⟨o,es,ep,LP _<|k1 _ _ ho,a1,a2,a3,(λx hx=>nomatch hx),a5⟩
 have hit:(h1.push {cls:=.type "list_iterator",data:=.fields #[.ref l,.int 0 0]}).get? h1.objs.size=A' {cls:=.type "list_iterator",data:=.fields #[.ref l,.int 0 0]}:=MG _ rfl;refine uL (knd:=knd) (by simpa using hh) hu (h0:=h1.push {cls:=.type "list_iterator",data:=.fields #[.ref l,.int 0 0]}) (I:=h1.objs.size) (l:=l) (items:=items) (more:=more) (Mx aea) (Mx acy) (PH Qi) hn hm (λm hmm=>?_) (λi v hv=>?_) (items.size - 0) 0 _ 0 rfl (Mw _) ⟨_,hit,rfl,rfl⟩ (acs.push _) (by rw[Vt];exact abc) (λb o _ _ e=>e) λh' tk b1 b2=>?_
 ·have q:=UY m hmm;obtain⟨o,_,_,ho,_⟩:=(show IsTupleKey knd s.heap m.1 m.2.1 from q);have ho1:=k1 _ _<|LP {cls:=.type "dict",data:=.dict #[]} ho;exact⟨iJ q λo e=>LP _<|k1 _ _<|LP _ e,Mx<|Mj ho,Mx<|Mj ho1⟩
 ·obtain⟨kv,t,a1,a3,a4⟩:=aa7 i v hv;obtain⟨o,ho,r⟩:=a4;have ho1:=k1 _ _<|LP {cls:=.type "dict",data:=.dict #[]} ho;exact⟨kv,t,a1,a3,Mx<|Mj ho,Mx<|Mj ho1,o,LP _ ho1,r⟩
 ·refine⟨rfl,h h' tk b1 λb o e=>?_⟩;have e1:=k1 _ _<|LP {cls:=.type "dict",data:=.dict #[]} e;exact b2 b o (Mx<|Mj e) (Mx<|Mj e1)<|LP _ e1
end
end DP
namespace L2
open PySem PySem.Spec PyProof.Rows
def dJ(kvs:gV (gV bo×V)):gV (gV bo×V):=kvs.foldl (λd kv=>bH d kv.1 kv.2) []
theorem oU(ok:HOk P w H h):∀(ts cl:gV LJ) (kvs:gV (gV bo×V)),ts.length=kvs.length->cl.length=kvs.length->(∀(i:Nat) (t c:LJ) (kv:gV bo×V),ts[i]? =A' t->cl[i]? =A' c->kvs[i]? =A' kv->H t=A' (.tup [.ref c,kv.2])/\H c=A' (.tup<|kv.1.map kV))->
  ∃more:gV (gV bo×LJ×LF),KT H kvs more/\more.length=ts.length/\∀(i:Nat) (t:LJ),ts[i]? =A' t->∃kv,more[i]? =A' kv/\h.IsTuple t #[.ref kv.2.1,kv.2.2]
 |[],[],[],_,_,_=>⟨[],.nil,rfl,λi t e=>by simp at e⟩
 |[],_,_::_,e,_,_=>by simp at e
 |_::_,_,[],e,_,_=>by simp at e
 |_,[],_::_,_,e,_=>by simp at e
 |[],_::_,[],_,e,_=>by simp at e
 |t::ts,c::cl,kv::kvs,e,e',hp=>by
  obtain⟨more,a1,a2,a4⟩:=oU ok ts cl kvs (by simpa using e) (by simpa using e') λi t' c' kv' e1 e2 e3=>hp (i+1) t' c' kv' (by simpa using e1) (by simpa using e2) (by simpa using e3);obtain⟨g1,g2⟩:=hp 0 t c kv rfl rfl rfl;obtain⟨_,NH,r,o,h1,h2,n,h3⟩:=(show ObjOk P w H h t (.tup [.ref c,kv.2])from ok t _ g1);obtain⟨u,v,rfl,ru,rv⟩:=r.two;cases(show u=M' c from ru);refine⟨(kv.1,c,v)::more,.cons ⟨rfl,g2,rv⟩ a1,by simp [a2],λi t' e1=>?_⟩;cases i with
  |zero=>
   have e':t=t':=by simpa using e1
   subst e';exact⟨(kv.1,c,v),rfl,o,h1,h2,n,h3⟩
  |succ i=>
   obtain⟨kv',b1,b3⟩:=a4 i t' (by simpa using e1);exact⟨kv',by simpa using b1,b3⟩
theorem AB:∀kvs more d xs,KT H d xs->KT H kvs more->KT H (kvs.foldl (λd kv=>bH d kv.1 kv.2) d) (DP.mergedH xs more)
 |_,_,_,_,r,.nil=>r
 |_,_,d,xs,r,@Paired.cons _ _ _ p q ps qs hq t=>by
  have e:=KT.put r p.1 hq.2.1 hq.2.2;rw[show Rk xs p.1 q.2.1 q.2.2=Rk xs q.1 q.2.1 q.2.2 by rw[hq.1]]at e;exact AB ps qs _ _ e t
theorem we(ok:HOk P w H h):∀{kvs:gV (gV bo×V)} {more:gV (gV bo×LJ×LF)},KT H kvs more->∀m∈more,(Ob<|a_ P w).is h m.1 m.2.1
 |_,_,.nil,m,hm=>nomatch hm
 |_,_,@Paired.cons _ _ _ p q ps qs hq t,m,hm=>by
  obtain e|hm:=Mn.mp hm
  ·subst e;exact h_ ok (by rw[<-hq.1];exact hq.2.1)
  ·exact we ok t m hm
inductive Fw (xs:gV V)(H:Hp)(Q:VK):Prop
 |mk (l:LJ)(ts cl:gV LJ)(kvs:gV (gV bo×V))(hx:xs=[.ref l])(h:H l=A' (.lst<|ts.map V.ref))(hl:ts.length=kvs.length)(hl':cl.length=kvs.length)(hp:∀(i:Nat) (t c:LJ) (kv:gV bo×V),ts[i]? =A' t->cl[i]? =A' c->kvs[i]? =A' kv->H t=A' (.tup [.ref c,kv.2])/\H c=A' (.tup<|kv.1.map kV)) (z:kvs.length<=900)
  (q:∀d,H d=LL->Q (.ref d) (upd H d<|.dT<|dJ kvs)):Fw xs H Q
theorem ik:∀(kvs d:gV (gV bo×V)),(kvs.foldl (λd kv=>bH d kv.1 kv.2) d).length<=d.length+kvs.length
 |[],d=>LQ _
 |kv::kvs,d=>by
  have h1:=ik kvs<|bH d kv.1 kv.2;have h2:=cw d kv.1 kv.2;rw[L4];show(kvs.foldl (λd kv=>bH d kv.1 kv.2)<|bH d kv.1 kv.2).length<=_
  lia
theorem uM(hc:X.calm=LI)(hu:X.A.units+2 < PU):dQ X (.type "dict") Fw:=by
 intro LO s σ H xs us Q I r h;obtain⟨l,ts,cl,kvs,rfl,hH,hl,hl',hp,z,q⟩:=h;obtain⟨u,rfl,ru⟩:=r.one;cases ru;obtain⟨z1,NH,n,rv,N1,e⟩:=I.lstM hH;obtain⟨more,a1,a2,a4⟩:=oU I.hok ts cl kvs hl hl' hp;have ahK:NH.length=ts.length:=by
  rw[<-N1,J']
 refine DP.call_pairsH (knd:=a_ X.prog X.w) (more:=more) (I.ok.hd hc) hu e rfl rfl rfl (by rw[Mf];lia) (by rw[Mf];lia) (we I.hok a1) (λi v hv=>?_) λh' tk hd hk=>?_
 ·have hv':NH[i]? =A' v:=by simpa using hv
  have hi:i < ts.length:=by
   have:=(LS.mp hv').1;lia
  have ht:ts[i]? =A' ts[i]:=LU hi;obtain⟨kv,b1,b3⟩:=a4 i _ ht;have hx:(ts.map V.ref)[i]? =A' (.ref ts[i]):=by rw[Mp,ht];rfl
  obtain⟨v',hv2,rv'⟩:=rv.get hx;rw[hv']at hv2;cases hv2;cases rv';exact⟨kv,_,b1,rfl,b3⟩
 ·obtain⟨ob,es,ep,ho,c1,c2,c3,c4,c5⟩:=hd;have lim:(dJ kvs).length<=sizeLine:=by
   have:=ik kvs [];rw[OO]at this;exact Nx (iE<|by unfold dJ;lia)
  have fr:H s.heap.objs.size=none:=I.hok.fresh<|LQ _;refine⟨.ref s.heap.objs.size,_,I.laid (a:=s.heap.objs.size) (o:=.dT<|dJ kvs) (t':=tk) (λb q hq=>hk b q hq) (LQ _) ?_,rfl,q _ fr⟩;refine⟨lim,ND.mpr<|NC<|Mx I.big,_,(AB _ _ _ _ .nil a1).keeps λb ys eb=>?_,ob,es,ep,ho,c1,c2,c3,c5⟩;rw[al<|ak eb fr];exact eb
theorem r8:∀(kvs d:gV (gV bo×V)) (k:gV bo),(bZ (kvs.foldl (λd kv=>bH d kv.1 kv.2) d) k).isSome=((bZ d k).isSome || kvs.any λkv=>decide (k=kv.1))
 |[],d,k=>by simp
 |kv::kvs,d,k=>by
  show(bZ (kvs.foldl (λd kv=>bH d kv.1 kv.2)<|bH d kv.1 kv.2) k).isSome=_
  rw[r8 kvs _ k,jl];by_cases e:k=kv.1
  ·subst e;simp
  ·rw[Mi e];simp [e]
end L2
namespace DP
open PySem
section
variable {prog:Mm}{w:MK}{K:Type}[Pd K]{knd:HeapKind prog w K}{A:Nl}{s:LR}
theorem yj{E:LF->LR->Prop}{v:LF}{Q:LF->LR->Prop}(hu:knd.room A)(UY:knd.is s.heap k a)(hm:s.heap.DictOfH knd d xs)(hsz:xs.length<=sizeLine)
  (h1:∀p,Se xs k=A' p->Q p.2 {s with toks:=s.toks+knd.draws k})
  (h2:Se xs k=LL->∀h',h'.DictOfH knd d (Rk xs k a v)->PD d s.heap h'->Q v {s with heap:=h',toks:=s.toks+knd.draws k}):wpAny (MB prog w) A (Ve d (.ref a) v) Q E s:=by
 obtain⟨ob,es,ep,g1,g2,g3,g4,g5,g6⟩:=hm;unfold Ve;refine N3<|LG<|knd.pyHash hu UY<|LG<|wpAny_dictFind_heap (s:={s with toks:=s.toks+knd.draws k}) hu UY g1 g3 g4 g5 g6 (λno=>?_) λj p hj=>?_
 ·have e0:=atKey_none_of_get no;have hnk:k∉xs.map (·.1):=not_mem_keys_of_get no;have st:=XE e0 a v;refine LG<|Pg<|LG<|wpAny_updateDictKeys (hz:=by rw[size_of_entries g4];exact hsz) (s:={s with toks:=s.toks+knd.draws k}) g1 g3<|Me<|h2 e0 _ ?_ (Sg ..);refine⟨_,_,ep+1,Qp _ g1<|Obj.isFreed_of_dict<|Vj g3 _,g2.mapDictKeys _,Vj g3 _,?_,λx hx=>?_,?_⟩
  ·rw[st];simp [g4,entryOfKey]
  ·rw[st]at hx;obtain z|z:=Mt.mp hx
   ·exact knd.keeps (g5 x z) g1 g3 (Sg ..)
   ·rw[LN.mp z];exact knd.keeps UY g1 g3 (Sg ..)
  ·rw[st,Mq,Oa];exact⟨g6,by simp,λx hx y hy z=>by
    have hy':y=k:=by simpa using hy
    subst z hy';exact hnk hx⟩
 ·refine LG<|wpAny_dictEntries (s:={s with toks:=s.toks+knd.draws k}) g1 g3 ?_;rw[entry_at g4 j,hj];exact LG<|Pg<|Me<|h1 p<|atKey_of_get g6 hj
theorem meetsH_setd(hd:(d == Ov)=LM)(v:LF):MeetsIn prog w (Builtin.«dict.setdefault» ⟨[.ref d,.ref a,v],[]⟩) (λA R s=>knd.room A.in1/\∃k xs,knd.is s.heap k a/\s.heap.DictOfH knd d xs/\xs.length<=sizeLine/\
  (∀p,Se xs k=A' p->R (.ok<|.ret p.2) {s with toks:=s.toks+knd.draws k})/\
  (Se xs k=LL->∀h',h'.DictOfH knd d (Rk xs k a v)->PD d s.heap h'->R (.ok<|.ret v) {s with heap:=h',toks:=s.toks+knd.draws k})):=
 .of_wp λA R s ⟨hu,k,xs,UY,hm,hz,h1,h2⟩=>by
  unfold Builtin.«dict.setdefault» Yx;refine LG<|LG<|RE hm.typeIs ?_;show wpAny _ _ (pure (d,M' a,A' v)) _ _ s
  refine Me ?_;show wpAny _ _ (if(d == Ov)=LI then _ else(Ve d (.ref a) v >>=_)) _ _ s
  rw[hd,Mi Mb];exact LG<|yj hu UY hm hz (λp hp=>Me ⟨_,rfl,h1 p hp⟩) λhn h' hm' X2=>Me ⟨v,rfl,h2 hn h' hm' X2⟩
end
end DP
namespace L2
open PySem PySem.Spec PyProof.Rows
def Fx(H:Hp)(a:LJ)(y z:V)(Q:VK):Prop:=(∃v,DGet H a y (A' v)/\Q v H)\/(DGet H a y LL/\∃H',DPut H a y z H'/\Q z H')
theorem JK(e:H a=A' (.dK kvs))(g:Rd H a (.dK acd)):acd=kvs:=by
 obtain g|⟨_,g⟩:=g
 ·rw[e]at g;cases g;rfl
 ·rw[e]at g;cases g
theorem JL(e:H a=A' (.dT kvs))(g:Rd H a (.dT acd)):acd=kvs:=by
 obtain g|⟨_,g⟩:=g
 ·rw[e]at g;cases g;rfl
 ·rw[e]at g;cases g
theorem Hs{R:LF->LR->Prop}(hu:A.units+1 < PU)(I:Inv X LO σ H s)(g:Fx H a y z Q)(ry:RelV y u)(rz:RelV z r)(h:∀v H' w' s',Inv X LO σ H' s'->RelV v w'->Q v H'->R w' s'):
  wpAny (MB X.prog X.w) A (call (.builtin "dict.setdefault") [.ref a,u,r]) R E s:=by
 obtain⟨v,⟨kvs,k,e,ey,l⟩|⟨kvs,k,b,e,ey,eb,l⟩,q⟩|⟨⟨kvs,k,e,ey,l⟩|⟨kvs,k,b,e,ey,eb,l⟩,H',p,q⟩:=g
 ·subst ey;obtain⟨zz,hd,vs,TK,dd⟩:=kM I.hok e;obtain⟨w',hw,rw'⟩:=RelO.some_of (v:=v) (o:=Th vs k) (by rw[l];exact TK.val k);refine Ux Ot dd.typeIs O4 (OV _ _ _) (VJ (a_ X.prog X.w) a (jm ry) hd r) ⟨vs,dd,by rw[<-TK.length];exact zz,λv2 hv2=>?_,λhn=>?_⟩
  ·rw[hw]at hv2;cases hv2;exact h v H w' _ (I.tok _) rw' q
  ·rw[hw]at hn;cases hn
 ·subst ey;cases(show u=M' b from ry);obtain⟨zz,hd,xs,TK,dd⟩:=kN I.hok e;obtain⟨w',hw,rw'⟩:=RelO.some_of (v:=v) (o:=(Se xs k).map (·.2)) (by rw[l];exact TK.val k);refine Ux Ot dd.typeIs O4 (OV _ _ _) (DP.meetsH_setd (knd:=Ob<|a_ X.prog X.w) hd r) ⟨Pi hu,k,xs,h_ I.hok eb,dd,by rw[<-Paired.length TK];exact zz,λp hp=>?_,λhn=>?_⟩
  ·rw[hp]at hw;cases hw;exact h v H _ _ (I.tok _) rw' q
  ·rw[hn]at hw;cases hw
 ·subst ey;obtain⟨zz,hd,vs,TK,dd⟩:=kM I.hok e;have hn:Th vs k=none:=RelO.none_of (by rw[l];exact TK.val k);obtain⟨adV,k2,e2,ey2,l2,eH⟩|⟨adV,k2,b2,e2,ey2,_⟩:=p
  ·obtain rfl:=JK e2 e;obtain rfl:k=k2:=by cases k<;>cases k2<;>cases ey2<;>rfl
   subst eH;have hl:(bH kvs k z).length<=sizeLine:=by have:=cw kvs k z;lia
   refine Ux Ot dd.typeIs O4 (OV _ _ _) (VJ (a_ X.prog X.w) a (jm ry) hd r) ⟨vs,dd,by rw[<-TK.length];exact zz,λv2 hv2=>(by rw[hn]at hv2;cases hv2),λ_ h' dd' hs=>?_⟩;have he:∃q,h'.get? a=A' q:=let ⟨q,_,_,hq,_⟩:=dd';⟨q,hq⟩
   exact h z _ r _ (jn I (by rw[e2];exact OF) hs he<|pP hl hd (TK.put k rz) dd') rz q
  ·cases k<;>cases ey2
 ·subst ey;cases(show u=M' b from ry);obtain⟨zz,hd,xs,TK,dd⟩:=kN I.hok e;have hn:(Se xs k).map (·.2)=none:=RelO.none_of (by rw[l];exact TK.val k);obtain⟨adV,k2,e2,ey2,l2,eH⟩|⟨adV,k2,b2,e2,ey2,eb2,l2,eH⟩:=p
  ·cases k2<;>cases ey2
  ·obtain rfl:=JL e2 e;cases ey2;have ek:k2=k:=by
    rw[eb]at eb2;have e3:k.map kV=k2.map kV:=HO.tup.inj<|MC eb2;exact(Wq (λx y hxy=>by cases x<;>cases y<;>cases hxy<;>rfl)|>.mp e3).symm
   subst ek;subst eH;have hl:(bH kvs k2 z).length<=sizeLine:=by have:=cw kvs k2 z;lia
   refine Ux Ot dd.typeIs O4 (OV _ _ _) (DP.meetsH_setd (knd:=Ob<|a_ X.prog X.w) hd r) ⟨Pi hu,k2,xs,h_ I.hok eb,dd,by rw[<-Paired.length TK];exact zz,λp hp=>(by rw[hp]at hn;cases hn),λ_ h' dd' hs=>?_⟩;obtain⟨q2,es,ep,hq,g2,g3,g4,_,g5⟩:=dd';have new:ObjOk X.prog X.w (upd H a<|.dT<|bH kvs k2 z) h' a (.dT<|bH kvs k2 z):=by
    refine⟨hl,hd,_,(TK.put k2 eb rz).keeps λc ys ec=>?_,q2,es,ep,hq,g2,g3,g4,g5⟩;rw[al<|bR ec e2 (λz=>nomatch z)];exact ec
   exact h z _ r _ (jn I (by rw[e2];exact OF) hs ⟨q2,hq⟩ new) rz q
def Ht(td ty tx:TE):TE:=λσ H Q=>td σ H λx H1=>∃a,x=.ref a/\Lr H1 a/\ty σ H1 λy H2=>tx σ H2 λz H3=>Fx H3 a y z Q
theorem AC(hu:X.A.units+1 < PU)(ho:PE X o td)(he:PE X e ty)(hf:PE X f tx)(m:M2 X o "setdefault" R9 e f Sj):PE X (.Call (.Attribute o "setdefault" R9) [e,f] [] Sj) (Ht td ty tx):=by
 intro LO s σ H Q I h;refine wpAny_Call_method m.base m.few m.line PySem.F.plainAttrs_dict Ot PySem.F.type_dict_setdefault<|bG (ho LO s σ H _ I h) λu s1 ⟨x,H1,I1,rx,a,ex,d,q1⟩=>?_;subst ex;obtain rfl:u=M' a:=rx;obtain⟨t1,t2,_⟩:=GL I1 d;exists t1,t2;rw[m.trees];refine Rr rfl<|R3<|SO<|bG (he LO s1 σ H1 _ I1 q1) λiv s2 ⟨y,H2,I2,ry,q2⟩=>SO<|bG (hf LO s2 σ H2 _ I2 q2) λfv s3 ⟨z,H3,I3,rz,g⟩=>WU ?_;exact Hs hu I3 g ry rz λv H' w' s4 I4 rw' q=>⟨v,H',I4,rw',q⟩
theorem AD(hk:PE X k tk)(hv:PE X v tv):PE X (.Dict [A' k] [v] pos) (rf [(tk,tv)]):=vP (l8 hk hv vO) rfl rfl (Xy _ _) (by show 1<=15;decide)
theorem r9(hk:PE X k tk)(hv:PE X v tv)(RU:PE X k' tk')(hv':PE X v' tv'):PE X (.Dict [A' k,A' k'] [v,v'] pos) (rf [(tk,tv),(tk',tv')]):=vP (l8 hk hv<|l8 RU hv' vO) rfl rfl (Xy _ _) (by show 2<=15;decide)
theorem yk{K:K'}{a:Nt}{ta:TE}(e0:X.K=K)(ha:PE X a ta)(he:∀VS,isTrue a X.env VS=(do let v <-VS;VC a.pos;Ti [v] (truthy v))):
  PT X a (λσ H Q=>ta σ H λx H'=>∃k,Dg K x H' k/\Q k H'):=by
 subst e0;exact hU ha he
theorem D9{K:K'}{e:Nt}{f:Str}{pos:Pos}{ta:TE}(e0:X.K=K)(he:PE X e ta)(hb:QX e f X.env (Oj e X.env)=Oj e X.env):PE X (.Attribute e f pos) (GC K ta f):=by
 subst e0;exact bu he hb
def D_:V->gV V->Hp->VK->Prop:=λx vs H Q=>∃(dx:Mc) (ds:gV Mc) (y:V) (l:LJ) (xs:gV V),x=.ref l/\vs=[y]/\H l=A' (.lst xs)/\c9 H ds xs/\RD H dx y/\dx.canLay0=LI/\MY ds=LI/\dx.depth<=60/\Q (.int ((ds.countP λd=>MU d dx:Nat):Int)) H
theorem yl(hu:X.A.units+64 < PU):Ja X "list.count" D_:=by
 intro LO s σ H x vs v us Q I rx rv h;obtain⟨dx,ds,y,l,xs,rfl,rfl,hH,Y0,hdx,c1,c2,c3,q⟩:=h;cases rx;obtain⟨u,rfl,ru⟩:=rv.one;obtain⟨z,NH,n,r,hl,e⟩:=I.lstM hH;obtain⟨as,qa⟩:=cS I dx y u hdx ru;obtain⟨bs,qb⟩:=cS I (.list ds) (.ref l) (.ref l) (fT hH Y0) rfl;have qs:∃cs,WO s.heap NH ds cs:=by
  cases qb with
  |list h1 h2 h3 h4=>
   rw[e]at h1;cases h1;cases h3;exact⟨_,by simpa using h4⟩
 obtain⟨cs,qs⟩:=qs;have qs':WO s.heap NH.toArray.toList ds cs:=by simpa using qs
 have ade:=Wd ds NH cs c2 qs;have hm2:min (NK ds) dx.depth<=dx.depth:=RQ _ _;refine Qa Vl ⟨_,e,rfl⟩ F.entry_list_count (F.args_list_count_2 _ _) (SeqAt.list_countAt l NH.toArray n LL #[] u λy=>MU (Sq s.heap y) dx) ⟨e,Xn qs' qa c2 c1 (by lia),?_⟩;exists .int _,H,I.tok _,⟨_,rfl⟩;have:NH.toArray.toList.countP (λy=>MU (Sq s.heap y) dx)=ds.countP λd=>MU d dx:=by
  rw[<-ade,X0];rfl
 rw[this];exact q
theorem uN{pl:Sem Md}(G:mH X.prog X.w X.K X.mg X.base b7 j C m f fd ps sp)(he:PE X o ta)(hr:Room k X.A)(hjk:j<=k)
  (ht:Oj (.Call (.Attribute o m R9) [] [] pos) X.env=(do
   let ov <-Oj o X.env
   VC R9.atName
   let (f,first) <-Ti [ov] (Ua ov m pl)
   Yq pos f first (O_ pos<|MT [] X.env) (Vf pos<|RZ [] X.env)):=by rfl):
  PE X (.Call (.Attribute o m R9) [] [] pos) (qY C m sp [] E0 ta qW):=zm he G.cl G.me G.ok (hr.mono hjk) G.b .nil vR ht
theorem Ea:OpR X (NG .IsNot) (λx y H Q=>∃a b,x=.bl a/\y=.bl b/\Q (.bl (!(a == b))) H):=by
 rintro LO s σ H x y v u Q I rx ry ⟨a,b,rfl,rfl,q⟩;cases rx;cases ry;exact PySem.wpAny_isNot_plain rfl ⟨.bl (!(a == b)),H,I,by cases a<;>cases b<;>rfl,q⟩
end L2
namespace L2
open PySem PySem.Spec PyProof.Rows
def Cx.wx(X:Cx)(xe:LF->LR->Prop):Cx:={X with xe:=xe}
theorem Inv.wx(I:Inv X LO σ H s):Inv (X.wx xe) LO σ H s:=
 ⟨⟨I.ok.mod,I.ok.kind,I.ok.glob,I.ok.blt,I.ok.above,I.ok.inj,I.ok.has,I.ok.cab,I.ok.hd,I.ok.frames,I.ok.stk,I.ok.exf,I.ok.bs,I.ok.bsz,I.ok.noex,I.ok.exfs,I.ok.funs,I.ok.frf⟩,I.os,I.bare,I.base,I.loc,I.cell,I.free,I.freeC,I.pin,I.hok,I.len⟩
theorem Inv.unwx(I:Inv (X.wx xe) LO σ H s):Inv X LO σ H s:=
 ⟨⟨I.ok.mod,I.ok.kind,I.ok.glob,I.ok.blt,I.ok.above,I.ok.inj,I.ok.has,I.ok.cab,I.ok.hd,I.ok.frames,I.ok.stk,I.ok.exf,I.ok.bs,I.ok.bsz,I.ok.noex,I.ok.exfs,I.ok.funs,I.ok.frf⟩,I.os,I.bare,I.base,I.loc,I.cell,I.free,I.freeC,I.pin,I.hok,I.len⟩
theorem uO{Q:UZ->LR->Prop}(XA:A.frames=A' (env::outer))(hf:env.frame=A' L)(st:B.StaysIn s.heap)(en:B.get? e=LL)(ff:s.heap.FunFrames B (env::outer))(tr:s.heap.TracedAtW B e cls a0 fl)
  (hQ:∀h',Z3 B outer e cls a0 h'->s.heap.UpToSlots h'->Q () {s with heap:=h'}):wpAny M A (WJ env<|.ref e) Q E s:=by
 unfold WJ;have S6:∀h1,Heap.NotedW B (env::outer) e cls a0 (rawInt L) s.heap h1->wpAny M A (setFlight (.ref e) LL) Q E {s with heap:=h1}:=λh1 ⟨n1,n2,n3,n4⟩=>
  wpAny_landsW (s:={s with heap:=h1}) (L:=L) ⟨n1,en,n2,n3⟩ λh2 f2 u2=>by
   obtain⟨g1,g2,⟨_,_,g3⟩,g4⟩:=f2;exact hQ h2 ⟨g1,g2,g3,g4⟩<|aaJ n4 u2
 by_cases hz:fl=rawInt L
 ·subst hz;exact LG<|wpAny_noteFrame_againW hf tr<|S6 _ ⟨st,ff,tr,λb o q _=>⟨o.slots,q⟩⟩
 refine LG ?_;obtain⟨oe,vs,T,oT,ts,e1,⟨e2,e3⟩,e4,e5,e6,e7,e8,e9,e10⟩:=tr;subst e2;unfold ZG;simp only [hf];refine LG<|Rb e1 e4 e5 ?_;rw[Ml (by simp:(M' T != QA)=LI)];refine LG<|Rb e8 e9 e10 ?_;rw[Mi λq=>hz<|eq_of_beq q];refine LG<|Yi e8 e9 (Po.mp e10).1 ?_;have ot:∀b,b≠T->(s.heap.update T (Zb (·.setIfInBounds 3 QA))).get? b=s.heap.get? b:=λb hb=>M6 _ _<|NC hb;have nr:∀b o,s.heap.get? b=A' o->(∀vs,o.data≠.fields vs)->b≠T:=λb o q nf z=>by
  rw[z,e8]at q;cases q;exact nf ts e9
 refine wpAny_entryW XA (ff.of_keeps λb o q nf=>⟨o,(ot b<|nr b o q nf).trans q,rfl⟩) hf ((ot e<|NC e7).trans e1) (λb o q=>(ot b λz=>by rw[z,e6]at q;cases q).trans<|st b o q) en e4 (Po.mp e5).1 e3
  λh1 ⟨n1,n2,n3,n4⟩=>S6 h1 ⟨n1,n2,n3,λb o q nf=>n4 b o ((ot b<|nr b o q nf).trans q) nf⟩
theorem mK(st:B'.StaysIn B)(hs:PD C h h'):∀{l:gV Env},(∀env∈l,env.frame≠A' C)->h.FunFrames B l->h'.FunFrames B' l
 |[],_,_=>trivial
 |env::_,hC,⟨k,⟨L,o,hf,hn,ho,hd⟩,r⟩=>⟨k,⟨L,o,hf,Rq st hn,(hs.2 L λz=>hC env (.head _)<|by rw[<-z];exact hf).trans ho,hd⟩,mK st hs (λe he=>hC e<|.tail _ he) r⟩
section
variable {R:Vi->LR->Prop}
theorem uP{XD Od Qy:Nt}{W':gV Nt}{scope:QP}{pos:Pos}{it O0:LF}{env:Env}(EX:LF->LR->Prop)(I:Nat->LR->Prop)
  (V0:∀n s,I n s->wpAny (MB prog w) A (TR it) (λr s₁=>match r with
   |none=>R (.ok .next) s₁
   |some v=>wpAny (MB prog w) A (Qj Od it v) (λ_ s₀=>wpAny (MB prog w) A (Wa Od env v) (λ_ s₂=>
     wpAny (MB prog w) A (forIn W' LI λc r=>if r=LI then do let ok <-isTrue c env<|Oj c env;pure (Px ok)else pure (Px r)) (λok s₃=>
      if ok=LI then wpAny (MB prog w) A (Oj XD env) (λx s₄=>
       wpAny (MB prog w) A (call (.builtin "list.append") [O0,x]) (λ_ s₅=>∃m,m < n/\I m s₅) EX s₄) EX s₃
      else∃m,m < n/\I m s₃) EX s₂) EX s₀) EX s₁) EX s)
  (hx:∀e s,EX e s->notedBy (MB prog w) A env (λe' s'=>R (.error e') s') e s)
  (n:Nat) (h:I n s):
  codeAny (MB prog w) A (.compLoop (.ListComp XD [⟨Od,Qy,W',0⟩] scope pos) 0 it O0 env) R s:=by
 refine codeAny_loop rfl I (λn s hI=>?_) n h;show wpAny _ A ((compTurn (.ListComp XD [⟨Od,Qy,W',0⟩] scope pos) 0 it O0 env).onRaise (λx=>do ZG x env;XR x)) _ _ s
 refine wpAny_noted<|Nv (Q:=λf s'=>(f=.done .next/\R (.ok .next) s')\/(f=.again (.compLoop (.ListComp XD [⟨Od,Qy,W',0⟩] scope pos) 0 it O0 env)/\∃m,m < n/\I m s')) (E:=EX) ?_ (λf s' q=>?_) hx
 ·rw[Y9];refine LG<|VW<|LG<|Nv (V0 n s hI) (λr s₁ h₁=>?_) λ_ _ q=>q;cases r with
  |none=>exact Me<|.inl ⟨rfl,h₁⟩
  |some v=>
   refine LG<|Nv h₁ (λ_ s₀ h₀=>?_) λ_ _ q=>q;refine LG<|Nv h₀ (λ_ s₂ h₂=>LG<|Nv h₂ (λok s₃ h₃=>?_) λ_ _ q=>q) λ_ _ q=>q;cases ok with
   |false=>exact Me<|.inr ⟨rfl,h₃⟩
   |true=>exact LG<|LG<|Nv h₃ (λx s₄ h₄=>LG<|Nv h₄ (λ_ s₅ h₅=>Me<|Me<|.inr ⟨rfl,h₅⟩) λ_ _ q=>q) λ_ _ q=>q
 ·obtain⟨rfl,q⟩|⟨rfl,q⟩:=q
  ·exact q
  ·exact⟨rfl,q⟩
end
def XC(Y:Cx)(E:XK):LF->LR->Prop:=λe s'=>∃LO σ H s,Inv Y LO σ H s/\fF Y.prog Y.w Y.stack H s E e s'
abbrev cM(X:Cx)(E:XK)(scope:QP)(cl:gV (Str×LJ))(NY:gV Str)(C:LJ)(fp:gV LJ)(s₀:LR)(H₀:Hp):Cx:=(cA X scope cl NY C fp s₀ H₀).wx<|XC (cA X scope cl NY C fp s₀ H₀) E
theorem JM{Y:Cx}{E:XK}:gE (fF Y.prog Y.w) (Y.wx<|XC Y E) E:=λLO σ H s e s' I h=>⟨LO,σ,H,s,I.unwx,h⟩
theorem ym{LO:gV (LJ×Obj)}{σ:St}{H:Hp}{s:LR}{Q:VK}{RR:LF->LJ->Vi->LR->Prop}(XB:X.calm=LI)(S:CompSc X scope cl NY idx)(hi:PI X Od Qy wi)
  (hg:∀C fp s₀ H₀,PG (cM X E scope cl NY C fp s₀ H₀) Od g) (ht:∀C fp s₀ H₀,Fo (cM X E scope cl NY C fp s₀ H₀) W' tt) (he:∀C fp s₀ H₀,PE (cM X E scope cl NY C fp s₀ H₀) XD te)
  (I:Inv X LO σ H s) (h:rj idx wi g tt te σ H Q)
  (hRR:∀D C H' s',CompEnd X LO σ H' C s'->Q (.ref D) H'->RR (.ref D) C (.ok .next) s')
  (hXX:∀D C H' s' e s'',CompEnd X LO σ H' C s'->C∉iz X.stack->fF X.prog X.w X.stack H' s' E e s''->notedBy (MB X.prog X.w) X.A X.env (λe' s2=>RR (.ref D) C (.error e') s2) e s''):
  wpAny (MB X.prog X.w) X.A (Oj Qy X.env) (λx s₁=>wpAny (MB X.prog X.w) X.A (Xh x) (λit s₂=>wpAny (MB X.prog X.w) X.A (ZY []) (λO0 s₃=>
   wpAny (MB X.prog X.w) X.A (SD scope X.env.globals cl [] X.env.qual LL .none<|A' X.env) (λabf s₄=>
    codeAny (MB X.prog X.w) X.A (.compStart (.ListComp XD [⟨Od,Qy,W',0⟩] scope pos) 0 it O0 {abf with scope:=Q6 scope X.env}) (RR O0 abf.locals) s₄) X.xe s₃) X.xe s₂) X.xe s₁) X.xe s:=by
 refine bG (hi LO s σ H _ I h) λv s1 h1=>bG h1 λitv s2 h2=>?_;obtain⟨it,fp,tn,J,H2,e,I2,T,PL,f2,r2⟩:=h2;subst e;have hD:H2 s2.heap.objs.size=none:=I2.hok.fresh<|LQ _;have r3:=r2 s2.heap.objs.size hD;have I3:Inv X LO σ (upd H2 s2.heap.objs.size<|.lst []) {s2 with heap:=s2.heap.push {cls:=.type "list",data:=.seq ([]:gV LF).toArray}}:=
  I2.laid (t':=s2.toks) (λb u q=>LP _ q) (LQ _) ⟨Mw _,[],0,.nil,MG _ rfl⟩
 refine N_<|iU λh₁ Xa hsb Qx=>?_;dsimp only at Xa hsb Qx ⊢;have acv:∀b∈fp,b < s2.heap.objs.size:=λb hb=>by
  obtain⟨o,q,_⟩:=T.obj 0 _ PL b hb;exact Mj q
 have neD:∀b∈fp,b≠s2.heap.objs.size:=λb hb=>Mx<|acv b hb;have f3:∀b∈fp,lS X LO (upd H2 s2.heap.objs.size<|.lst []) b:=λb hb=>⟨by rw[al<|neD b hb];exact(f2 b hb).1,(f2 b hb).2⟩;generalize hs3:({s2 with heap:=s2.heap.push {cls:=.type "list",data:=.seq ([]:gV LF).toArray}}:LR)=s3 at I3;have es3:s3.heap=s2.heap.push {cls:=.type "list",data:=.seq ([]:gV LF).toArray}:=by rw[<-hs3]
 have hfl:∀b∈fp,b < s3.heap.objs.size:=λb hb=>by
  rw[es3,P0];exact OJ<|acv b hb
 have ad_:h₁.Ns s3.heap.objs.size (λ_=>LL):=by rw[es3];exact Xa
 have old:∀b o,s3.heap.get? b=A' o->h₁.get? b=A' o:=λb o q=>by
  rw[es3]at q;exact hsb b o q
 have aej:Z4 h₁ (s3.heap.objs.size+1) (Ni (s3.heap.objs.size+1) scope.names []):=by rw[es3];exact Qx
 have V1:tn 0 h₁:=T.keep _ _ _ PL λb hb o q=>old b o (by rw[es3];exact LP _ q);have IY0:=ri (tk:=s2.toks) S I3 f3 hfl ad_ old aej;have e4:({s3 with heap:=h₁,toks:=s2.toks}:LR)={s2 with heap:=h₁,toks:=s2.toks}:=by rw[<-hs3]
 rw[e4]at IY0;have eC:s3.heap.objs.size=(s2.heap.push {cls:=.type "list",data:=.seq ([]:gV LF).toArray}).objs.size:=by rw[es3]
 have hC3:s3.heap.get? s3.heap.objs.size=none:=R1<|LQ _;have hCs:s3.heap.objs.size∉iz X.stack:=λhm=>by
  obtain⟨_,o,q,_⟩:=I3.stack.mem hm;rw[hC3]at q;cases q
 obtain⟨W,⟨m0,w0⟩,V0⟩:=r3;generalize hY:cA X scope cl NY s3.heap.objs.size fp s3 (upd H2 s2.heap.objs.size<|.lst [])=Y at IY0;have hg':PG (Y.wx<|XC Y E) Od g:=by rw[<-hY];exact hg _ _ _ _
 have ht':Fo (Y.wx<|XC Y E) W' tt:=by rw[<-hY];exact ht _ _ _ _
 have he':PE (Y.wx<|XC Y E) XD te:=by rw[<-hY];exact he _ _ _ _
 have eE:Y.env=WK scope (Ni (s3.heap.objs.size+1) scope.names cl) s3.heap.objs.size X.env:=by rw[<-hY];rfl
 have eP:Y.prog=X.prog:=by rw[<-hY];rfl
 have eW:Y.w=X.w:=by rw[<-hY];rfl
 have eA:Y.A=X.A:=by rw[<-hY];rfl
 have eK:Y.K=X.K:=by rw[<-hY];rfl
 have eL:Y.env.locals=s3.heap.objs.size:=by rw[<-hY];rfl
 have eS:Y.stack=X.stack:=by rw[<-hY];rfl
 have hcY:Y.calm=true:=by rw[<-hY];exact XB
 have eex:Y.ex=fp:=by rw[<-hY];rfl
 have efs:Y.fs=iz X.stack:=by rw[<-hY];rfl
 have epn:Y.pn=[]:=by rw[<-hY];rfl
 have endAt:∀{Zw:gV (LJ×Obj)} {σ':St} {H5:Hp} {s6:LR},Inv Y Zw σ' H5 s6->CompEnd X LO σ H5 s3.heap.objs.size s6:=λ{Zw σ' H5 s6} I6=>by
  subst hY;have I7:Inv X LO σ H5 s6:=I3.call' (s':=s6) (ch:=fp) I6.os I6.base I6.hok I6.bare λb hb=>⟨(f3 b hb).2.2.2.1,(f3 b hb).2.1,(f3 b hb).2.2.2.2.1,(f3 b hb).2.2.2.2.2⟩;refine⟨I7,?_,I6.free,PH I3.lt,I3.sz,λx c e=>?_,λp hp z=>?_⟩
  ·obtain⟨m,hn,_⟩:=I6.loc;exact⟨m,hn⟩
  ·obtain⟨v,q⟩:=I3.cell x c e;exact Mx q.lt
  ·have q:=(I3.pin p hp).1;rw[z,hC3]at q;cases q
 have adR:∀s4,s4={s2 with heap:=h₁,toks:=s2.toks}->
   codeAny (MB X.prog X.w) X.A (.compLoop (.ListComp XD [⟨Od,Qy,W',0⟩] scope pos) 0 (.ref it) (.ref s2.heap.objs.size)<|WK scope (Ni (s3.heap.objs.size+1) scope.names cl) s3.heap.objs.size X.env) (RR (.ref s2.heap.objs.size) s3.heap.objs.size) s4:=by
  rintro s4 rfl;rw[<-eE,<-eP,<-eW,<-eA];have X_:∀{H':Hp},(∀b∈fp,H' b=LL)->∀b∈fp,lS (Y.wx<|XC Y E) [] H' b:=λ{H'} hn b hb=>by
   have hb':b∈Y.ex:=by rw[eex];exact hb
   exact⟨hn b hb,(IY0.ok.exf b hb').1,(IY0.ok.exfs b hb'),.inl hb',λx c e=>(IY0.ok.exf b hb').2 x c e,λp hp=>absurd (show p∈Y.pn++[]from hp)<|by rw[epn];simp⟩
  have T':=T;rw[<-eP,<-eW,<-eK]at T';refine uP (XC Y E) (λn s'=>∃i σ' ys H',Inv (Y.wx<|XC Y E) [] σ' H' s'/\tn i s'.heap/\(∀b∈fp,H' b=LL)/\W i n σ' ys H') ?_ ?_ m0
   ⟨0,_,[],_,IY0.wx,V1,λb hb=>(f3 b hb).1,w0⟩
  ·rintro n s5 ⟨i,σ5,ys,H5,I5,st5,fr5,w5⟩;obtain⟨abe,alt⟩:=V0 i n σ5 ys H5 w5;obtain⟨stop,qn⟩|⟨go,N,hN,step⟩:=alt
   ·refine bG (T'.done (Y.wx<|XC Y E) rfl rfl rfl hcY i [] s5 σ5 H5 _ I5 (X_ fr5) st5 stop) λr s6 ⟨hr,I6⟩=>?_;subst hr;exact hRR _ _ H5 s6 (endAt I6.unwx) qn
   ·refine bG (T'.item (Y.wx<|XC Y E) rfl rfl rfl hcY i [] s5 σ5 H5 _ I5 (X_ fr5) st5 go) λr s6 ⟨u,hr,h6⟩=>?_;subst hr;refine bG h6 λ_ s7 ⟨x,H7,I7,r7,y7,st7,fr7⟩=>?_;have I7':=I7.pinned (X_ fr7)<|T.obj _ _ st7;have acG:∀{σ8:St} {ys8:gV V} {H8:Hp} {s8:LR},Inv (Y.wx<|XC Y E) ([]++jP fp s7.heap) σ8 H8 s8->N σ8 ys8 H8->
      ∃m,m < n/\∃i σ' ys H',Inv (Y.wx<|XC Y E) [] σ' H' s8/\tn i s8.heap/\(∀b∈fp,H' b=LL)/\W i m σ' ys H':=λ{σ8 ys8 H8 s8} I8 n8=>by
     obtain⟨m',hm,w8⟩:=hN σ8 ys8 H8 n8;refine⟨m',hm,i+1,σ8,ys8,H8,I8.unpinned,T.keep _ _ _ st7 λb hb o e=>(I8.pin (b,o)<|MR _<|MR _<|dU hb e).1,λb hb=>?_,w8⟩;obtain⟨o,e,d⟩:=T.obj _ _ st7 b hb;exact(I8.pin (b,o)<|MR _<|MR _<|dU hb e).2.1
    refine bG (hg' _ s7 σ5 H7 x u _ I7' r7<|step x H7 y7) λ_ s8 ⟨σ8,H8,I8,q8⟩=>?_;refine bG (ht' _ s8 σ8 H8 _ I8 q8) λok s9 ⟨H9,I9,q9⟩=>?_;cases ok with
    |false=>exact aI<|acG I9 q9
    |true=>
     refine aJ ?_;refine bG (he' _ s9 σ8 H9 _ I9 q9) λy s10 ⟨yv,H10,I10,r10,aeq,adZ,n10⟩=>?_;refine bG (bW _ s10 σ8 H10 (.ref s2.heap.objs.size) [yv] (.ref s2.heap.objs.size) [y] (λv H'=>v=.non/\H'=upd H10 s2.heap.objs.size (.lst<|ys++[yv])) I10 rfl (.cons r10 .nil) ⟨_,ys,yv,rfl,rfl,aeq,adZ,rfl,rfl⟩) λ_ s11 ⟨_,H11,I11,_,_,e11⟩=>?_;subst e11;exact acG I11 n10
  ·rintro e s5 ⟨Zw,σ',H5,s6,I6,hx⟩;rw[eP,eW,eA,eE];rw[eP,eW,eS]at hx;exact hXX (s2.heap.objs.size) _ H5 s6 e s5 (endAt I6) hCs hx
 have L1:=adR _ rfl;rw[eC]at L1;exact Uw L1<|T.self _ 0 _ _ _ V1 L1
section
variable {P:Mm}{w:MK}{K:K'}{mg:Str->LH LF}{base:M8}{N:gV Str}{qual:Str}{scope:QP}{f:LJ}{cd:LF}{A:Nl}{outer:gV Env}{s:LR}{H:Hp}{E:XK}
 {scp:QP} {cl:gV (Str×LJ)} {NY:gV Str} {idx:gV (LH Nat)} {XD Qy Od:Nt} {W':gV Nt} {pos:Pos} {wi:TI} {g:TG} {tt:TT} {te:TE}
theorem r_{s2:LR}{e:LF}{Q:LF->LR->Prop}{O0:LF}(ce:CompEnd (cL (fF P w) P w K mg base N qual scope f cd A outer s H E) LO σ H1 C s1)(hC:C∉iz (Nj qual scope s.heap.objs.size f cd::outer))
  (hx:fF P w (Nj qual scope s.heap.objs.size f cd::outer) H1 s1 E e s2):
  notedBy (MB P w) (cL (fF P w) P w K mg base N qual scope f cd A outer s H E).A (cL (fF P w) P w K mg base N qual scope f cd A outer s H E).env
   (λe' s3=>Yo (MB P w) (cL (fF P w) P w K mg base N qual scope f cd A outer s H E).A (cL (fF P w) P w K mg base N qual scope f cd A outer s H E).xe LL Q O0 C (.error e') s3) e s2:=by
 obtain⟨H',B,ea,cls,a0,rfl,fl,hE⟩:=hx;have I:=ce.inv;have hA:(cL (fF P w) P w K mg base N qual scope f cd A outer s H E).A.frames=A' (Nj qual scope s.heap.objs.size f cd::outer):=I.ok.frames;refine wpAny_looks_onW hA (L:=s.heap.objs.size) rfl fl.fly λh4 held up4=>?_;obtain⟨m,nsC⟩:=ce.ns;obtain⟨oC,es,ep,gC,dC,rC⟩:=id nsC;have bC:B.get? C=A' oC:=fl.keep C oC gC ce.free hC;have cC:h4.get? C=A' oC:=held.1 _ _ bC;refine⟨m,⟨oC,es,ep,cC,dC,rC⟩,λh5 sb abf _=>?_⟩;have Qi:∀b o,s.heap.get? b=A' o->b∉iz outer->b∉iz (Nj qual scope s.heap.objs.size f cd::outer):=λb o e hb hm=>by
  obtain⟨env,he,hf⟩:=M4.mp hm;obtain rfl|he:=Mn.mp he
  ·have:s.heap.objs.size=b:=MC hf;exact absurd (Mj e) (by rw[this];exact Om b)
  ·exact hb<|M4.mpr ⟨env,he,hf⟩
 have aak:∀b,b∈iz outer->b∈iz (Nj qual scope s.heap.objs.size f cd::outer):=λb hb=>by
  obtain⟨env,he,hf⟩:=M4.mp hb;exact M4.mpr ⟨env,LY _ he,hf⟩
 have nC:∀b o,s.heap.get? b=A' o->b∉[C]:=λb o q z=>by
  rw[LN.mp z]at q;exact absurd (Mj q)<|abu.mpr ce.young
 have eaC:ea≠C:=λz=>by
  have:=held.2.1;rw[z,bC]at this;cases this
 have sB:(O7 B [C]).StaysIn B:=λb o q=>SE _ q;have sB5:(O7 B [C]).StaysIn h5:=λb o q=>by
  have hb:b≠C:=λz=>by
   rw[z,Vg [C]<|LN.mpr rfl]at q;cases q
  exact(sb.2 b hb).trans<|held.1 b o<|sB b o q
 have ff5:h5.FunFrames (O7 B [C]) (Nj qual scope s.heap.objs.size f cd::outer):=mK sB sb (λenv he z=>hC<|M4.mpr ⟨env,he,z⟩) held.2.2.1;obtain⟨oe,vs,T,oT,ts,e1,e2,e4,e5,e6,e7,e8,e9,e10⟩:=held.2.2.2;have TC:T≠C:=λz=>by rw[z,bC]at e6;cases e6
 have g1:h5.get? ea=A' oe:=(sb.2 ea eaC).trans e1;have g8:h5.get? T=A' oT:=(sb.2 T TC).trans e8;have afd:3 < ts.size:=(Po.mp e10).1;unfold PySem.passOn;refine LG<|Rb (s:={s2 with heap:=h5}) g1 e4 e5 ?_;rw[Mi (by simp:¬((M' T == QA)=LI))];refine LG ?_;unfold setFlight;refine LG<|Rb (s:={s2 with heap:=h5}) g1 e4 e5 ?_;rw[Ml (by simp:(M' T != QA)=LI)];refine Yi (s:={s2 with heap:=h5}) g8 e9 afd ?_;have ot:∀(x:LF) b,b≠T->(h5.update T (Zb (·.setIfInBounds 3 x))).get? b=h5.get? b:=λx b hb=>M6 _ _<|NC hb;have nr:∀b o,h5.get? b=A' o->(∀vs,o.data≠.fields vs)->b≠T:=λb o q nf z=>by
  rw[z,g8]at q;cases q;exact nf ts e9
 have eT:(O7 B [C]).get? T=none:=Rq sB e6;refine wpAny_throw ?_;show wpAny (MB P w) _ (WJ (Nj qual scope s.heap.objs.size f cd)<|.ref ea) _ _ _
 refine uO (B:=O7 B [C]) (cls:=cls) (a0:=a0) (fl:=abf.frame.elim QA λf=>rawInt f) (L:=s.heap.objs.size) hA rfl (λb o q=>(ot _ b λz=>by rw[z,eT]at q;cases q).trans<|sB5 b o q) (Rq sB held.2.1)
  (ff5.of_keeps λb o q nf=>⟨o,(ot _ b<|nr b o q nf).trans q,rfl⟩) ⟨oe,vs,T,_,_,(ot _ ea<|NC e7).trans g1,e2,e4,e5,eT,e7,Qp _ g8<|Obj.isFreed_of_fields<|Wg e9 _,Wg e9 _,by simp [afd]⟩ λh7 aif up7=>?_
 refine⟨H',_,ea,cls,a0,rfl,⟨?_,fl.bare,aif,fl.hok.hid λb hb=>?_,λb o e n hb=>?_,λb o e hb=>?_,λb o e n hb=>?_,λb o e n=>?_,λb xs e=>?_,λb o u e=>?_,λb ps e=>?_⟩,hE⟩
 ·exact fl.os.trans I.os
 ·rw[LN.mp hb];exact fl.free C oC gC ce.free
 ·exact O9 _ (fl.keep b o (I.base.keep b o e n hb<|by intro z;cases z) (I.base.free b o e n<|by intro z;cases z)<|Qi b o e hb)<|nC b o e
 ·obtain⟨o1,e1⟩:=I.base.there b o e (by intro z;cases z);obtain⟨o2,e2⟩:=fl.thr b o1 e1<|Qi b o e hb;exact⟨o2,O9 _ e2<|nC b o e⟩
 ·obtain⟨sl,e1⟩:=I.base.slot b o e n hb (by intro z;cases z);obtain⟨sl2,e2⟩:=fl.slotted up4 e1 (I.base.free b o e n<|by intro z;cases z)<|aak b hb;have e3:h5.get? b=A' {o with slots:=sl2}:=(sb.2 b λz=>nC b o e<|LN.mpr z).trans e2;obtain⟨_,o1,q1,nf⟩:=ff5.mem (b:=b)<|aak b hb;rw[e3]at q1;cases q1;obtain⟨sl3,q3⟩:=up7 b _ ((ot _ b<|nr b _ e3 nf).trans e3) nf;exact⟨sl3,q3⟩
 ·obtain⟨o1,e1⟩:=I.base.there b o e (by intro z;cases z);exact fl.free b o1 e1 (I.base.free b o e n<|by intro z;cases z)
 ·exact fl.tups b xs<|I.base.tups b xs e
 ·exact fl.frzs b o u<|I.base.frzs b o u e
 ·obtain⟨m1,e1⟩:=I.base.tbls b ps e;obtain⟨m2,e2⟩:=fl.tbls b _ e1;exact⟨m1++m2,by rw[e2,S5]⟩
theorem mL(S:CompSc (cL (fF P w) P w K mg base N qual scope f cd A outer s H E) scp cl NY idx)(hi:PI (cL (fF P w) P w K mg base N qual scope f cd A outer s H E) Od Qy wi)
  (hg:∀C fp s₀ H₀,PG (cM (cL (fF P w) P w K mg base N qual scope f cd A outer s H E) E scp cl NY C fp s₀ H₀) Od g) (ht:∀C fp s₀ H₀,Fo (cM (cL (fF P w) P w K mg base N qual scope f cd A outer s H E) E scp cl NY C fp s₀ H₀) W' tt)
  (he:∀C fp s₀ H₀,PE (cM (cL (fF P w) P w K mg base N qual scope f cd A outer s H E) E scp cl NY C fp s₀ H₀) XD te) (hs:∀x,Rm Qy (cL (fF P w) P w K mg base N qual scope f cd A outer s H E).env x=pure x:=by intro _;rfl):
  PE (cL (fF P w) P w K mg base N qual scope f cd A outer s H E) (.ListComp XD [⟨Od,Qy,W',0⟩] scp pos) (rj idx wi g tt te):=by
 intro LO s1 σ H1 Q I h;rw[Y7];refine QW (use:=LL) rfl hs S.clos S.kind S.names ?_;refine ym (E:=E) (RR:=λO0 C=>Yo (MB P w) (cL (fF P w) P w K mg base N qual scope f cd A outer s H E).A (cL (fF P w) P w K mg base N qual scope f cd A outer s H E).xe LL (EP (cL (fF P w) P w K mg base N qual scope f cd A outer s H E) LO σ Q) O0 C) rfl S hi hg ht he I h (λD C H' s' e q=>?_) λD C H' s' e s2 ce hC hx=>r_ ce hC hx;obtain⟨m,hn⟩:=e.ns;exact⟨m,hn,λh' X2=>⟨.ref D,H',e.gone X2,rfl,q⟩⟩
theorem qh{E:XK}{scp:QP}{cl:gV (Str×LJ)}{NY:gV Str}{C:LJ}{fp:gV LJ}{s₀:LR}{H₀:Hp}{p pos:Pos}{e:Nt}{es:gV Nt}{t:TA}(G:zb X.prog X.w X.K X.mg X.base j x f' fd ps sp)(hr:Room k X.A)(hjk:j<=k)
  (hg:Gl (cM X E scp cl NY C fp s₀ H₀) x) (ha:PA (cM X E scp cl NY C fp s₀ H₀) (e::es) t) (hdb:(x == ("__debug__":Str))=false:=by decide)
  (he:MT (e::es) (cM X E scp cl NY C fp s₀ H₀).env=(LM,Oj e (cM X E scp cl NY C fp s₀ H₀).env)::MT es (cM X E scp cl NY C fp s₀ H₀).env:=by rfl)
  (X3:(O_ pos<|MT es (cM X E scp cl NY C fp s₀ H₀).env).any (·.1)=false:=by rfl):
  PE (cM X E scp cl NY C fp s₀ H₀) (.Call (.Name x p) (e::es) [] pos) (qX sp [] E t):=
 pL (X:=cM X E scp cl NY C fp s₀ H₀) G.ok (hr.mono hjk) hg G.at_ G.kp G.b .nil JM ha hdb he X3
end
end L2
namespace L2
open PySem PySem.Spec PyProof.Rows Builtin.Str
theorem jz:Io X "str.split" (λx vs H Q=>∃a b,x=.str a/\vs=[.str b]/\(b.length == 0)=LM/\a.length<=1000000/\∀l,H l=LL->Q (.ref l) (upd H l<|.lst<|(Nq a b).map V.str)):=by
 intro LO s σ H x vs v us Q I rx rv h;obtain⟨a,b,rfl,rfl,hb,hz,q⟩:=h;obtain⟨t,rfl⟩:=rx;obtain⟨u,rfl,ru⟩:=dE rv;obtain⟨t2,rfl⟩:=ru;have hz':a.length<=sizeLine:=MD hz (by decide);have hl:=Pr a b;have key:∀l tk,l.map (·.1)=Nq a b->EP X LO σ Q (.ref s.heap.objs.size) {s with toks:=tk,heap:=s.heap.push {cls:=.type "list",data:=.seq (strValues l).toArray}}:=λl tk e=>by
  refine⟨.ref s.heap.objs.size,_,I.laid (t':=tk) (o:=.lst<|(Nq a b).map V.str) (λb o q=>LP _ q) (LQ _) ⟨?_,strValues l,_,?_,MG _ rfl⟩,rfl,q _<|I.hok.fresh<|LQ _⟩
  ·rw[J'];exact MD hl (MD (Vs hz 2)<|by decide)
  ·rw[<-e];clear e
   induction l with
   |nil=>exact .nil
   |cons p r ih=>exact .cons ⟨_,rfl⟩ ih
 cases h1:(decide (a.length < b.length) || decide (strKind a < strKind b))with
 |true=>exact Qa OE (SB _ _ _) Tq (SN _ _) (meets_str_split_cannot_occur a b t t2 h1) (key [(a,t)] s.toks<|by unfold Nq;rw[Ml h1];rfl)
 |false=>
  cases hf:(occurrences a b 0 a.length<|a.length+1).isEmpty with
  |true=>exact Qa OE (SB _ _ _) Tq (SN _ _) (meets_str_split_not_found a b t t2 h1 hb hf) (key [(a,t)] s.toks<|by unfold Nq;rw[Mi (by rw[h1];nofun),Ml hf];rfl)
  |false=>
   have es:Nq a b=partsBetween a (occurrences a b 0 a.length<|a.length+1) b.length:=by
    unfold Nq;rw[Mi (by rw[h1];nofun),Mi<|by rw[hf];nofun]
   refine Qa OE (SB _ _ _) Tq (SN _ _) (meets_str_split_sep a b t t2 h1 hb hf hz'<|by rw[<-es];exact MD hl<|MD (Vs hz 2)<|by decide) ?_;show wants _ _ _ {s with toks:=_,heap:=s.heap.push {cls:=.type "list",data:=.seq (strsFrom s.toks<|partsBetween a (occurrences a b 0 a.length<|a.length+1) b.length).toArray}}
   rw[strsFrom_eq];exact key (numbered s.toks _) _<|(numbered_texts _ _).trans es.symm
theorem uQ:Io X "str.startswith" (λx vs H Q=>∃a b,x=.str a/\vs=[.str b]/\Q (.bl<|SJ a b) H):=by
 intro LO s σ H x vs v us Q I rx rv h;obtain⟨a,b,rfl,rfl,q⟩:=h;obtain⟨t,rfl⟩:=rx;obtain⟨u,rfl,ru⟩:=dE rv;obtain⟨t2,rfl⟩:=ru;exact SC.startswith ⟨.bl _,H,I,rfl,q⟩
theorem yn:dQ X (.type "int") (λxs H Q=>∃a n,xs=[.str a]/\Yn a=A' n/\a.length<=640/\Q (.int n) H):=by
 intro LO s σ H xs us Q I r h;obtain⟨a,n,rfl,hn,hl,q⟩:=h;obtain⟨u,rfl,ru⟩:=dE r;obtain⟨t,rfl⟩:=ru;exact aai hn hl ⟨.int n,H,I.tok _,⟨_,rfl⟩,q⟩
theorem yo:dQ X (.type "str") (λxs H Q=>(∃i,xs=[.int i]/\i.natAbs.log2 < 1920/\Q (.str<|toString i) H)\/∃a,xs=[.str a]/\Q (.str a) H):=by
 intro LO s σ H xs us Q I r h;obtain h|⟨a,rfl,q⟩:=h
 ·exact jh LO s σ H xs us Q I r h
 ·obtain⟨u,rfl,ru⟩:=dE r;obtain⟨t,rfl⟩:=ru;exact P.str_of_str ⟨.str a,H,I,⟨_,rfl⟩,q⟩
end L2
namespace OD
open PySem L2 PySem.NumText Builtin.Str
theorem cB(h:n<=1000000):n < sizeLine:=Pl h (by decide)
theorem lE(a b:Str):decide (V.str a=V.str b)=decide (a.cps.toList=b.cps.toList):=
 OU.mpr ⟨λz=>by rw[V.str.inj z],λz=>M0 V.str (by
  obtain⟨x⟩:=a;obtain⟨y⟩:=b;exact M0 acL<|RT.mp z)⟩
def sd(l:gV Nat):Md:=l.head? == A' 45
def b_(l:gV Nat):gV Nat:=if sd l=LI then l.tail else l
def gx(c:Nat):Md:=decide (48<=c/\c<=57)
def yp(l:gV Nat):LH Int:=
 if((b_ l).isEmpty || !(b_ l).all gx || decide (9 < (b_ l).length) || (decide ((b_ l).head?=A' 48)&&!decide (l=[48])))=LI then LL
 else A' (if sd l=LI then -(Ud (b_ l):Nat)else(Ud (b_ l):Nat))
def fG(t:Str):LH Int:=yp t.cps.toList
theorem Eb(l:gV Nat):(b_ l).length<=l.length/\l.length<=(b_ l).length+1:=by
 unfold b_
 split
 ·rw[Xx];lia
 ·lia
theorem AE(h:fG t=A' n):Yn t=A' n/\t.length<=10:=by
 unfold fG yp at h
 split at h
 ·cases h
 rename_i hc;have hc':((b_ t.cps.toList).isEmpty || !(b_ t.cps.toList).all gx || decide (9 < (b_ t.cps.toList).length) || (decide ((b_ t.cps.toList).head?=A' 48)&&!decide (t.cps.toList=[48])))=false:=by
  simpa using hc
 simp only [Bool.or_eq_false_iff]at hc';obtain⟨⟨⟨c1,c2⟩,c3⟩,_⟩:=hc';have hl:t.length<=10:=by
  have e:t.cps.toList.length=t.length:=Mr;have:=(Eb t.cps.toList).2;have:=P' c3;lia
 refine⟨?_,hl⟩;have S7:b_ t.cps.toList≠[]:=λz=>by rw[z]at c1;cases c1
 have hd:AllDigits (b_ t.cps.toList):=λc Wx=>by
  have:(b_ t.cps.toList).all gx=true:=by simpa using c2
  exact My<|Mu.mp this c Wx
 have hl':t.length<=4300:=by lia
 injection h with h;subst h;cases hn:sd t.cps.toList with
 |true=>
  have e:t.cps.toList=45::b_ t.cps.toList:=by
   unfold b_;rw[hn,Ml rfl];cases hx:t.cps.toList with
   |nil=>rw[hx]at hn;cases hn
   |cons a r=>
    rw[hx]at hn;have:a=45:=by
     have:(A' a == A' 45)=true:=hn;simpa using this
    rw[this];rfl
  rw[Ml rfl];exact intText_neg e hd S7 hl'
 |false=>
  have e:b_ t.cps.toList=t.cps.toList:=by unfold b_;rw[hn];rfl
  rw[Mi<|by nofun];rw[e]at hd S7 ⊢;exact intText_digits hd S7 hl'
theorem uR(t:Str):SJ t (G' "-")=sd t.cps.toList:=by
 obtain⟨⟨l⟩⟩:=t;cases l with
 |nil=>decide+kernel
 |cons a r=>
  unfold SJ subAt sd;rw[show(G' "-":Str)=⟨#[45]⟩from by decide+kernel];show(decide _&&(_ == _))=(A' a == A' 45)
  simp [abn]
theorem Hu(c:Nat):(!(occurrences (G' "0123456789") ⟨#[c]⟩ 0 (G' "0123456789").length 1).isEmpty)=gx c:=by
 rw[ZH];unfold gx;rw[show(G' "0123456789").cps.toList=[48,49,50,51,52,53,54,55,56,57]from by decide+kernel];refine OU.mpr ⟨λh=>?_,λh=>?_⟩
 ·simp only [Mn,OW,Yg]at h;omega
 ·simp only [Mn,OW,Yg];omega
theorem uS(t:Str):Xm t (A' 1) LL=⟨t.cps.toList.tail.toArray⟩:=by
 by_cases h:1<=t.length
 ·rw[uB (by decide)<|by lia];exact M0 (λl=>acL<|List.toArray l)<|List.drop_one
 ·obtain⟨⟨l⟩⟩:=t;cases l with
  |nil=>decide+kernel
  |cons a r=>exact absurd (by show 1<=(a::r).length;simp) h
theorem oV(O2:St)(f:Nat->V)(e0:σ0=LL::O2)(hD:H1 D=LL)(N1:x.length<=1000000)
  (ht:∀v H' R,R LI H'->tt (A' v::O2) H' R)
  (he:∀c H' R,Same H1 H'->(∀H'',Same H' H''->R (f c) H'')->te (A' (.str ⟨#[c]⟩)::O2) H' R)
  (hq:∀H2,Same H1 H2->H2 D=A' (.lst<|x.cps.toList.map f)->Q (.ref D) H2):gi (Kt x) D (gh 0) tt te σ0 H1 Q:=by
 have hx:x.cps.toList.length=x.length:=Mr;refine⟨λi m σ ys H=>m=x.length - i/\i<=x.length/\(∃v0,σ=v0::O2)/\ys=(x.cps.toList.take i).map f/\H D=A' (.lst ys)/\Same H1 H,⟨_,rfl,Mw _,⟨LL,e0⟩,rfl,ad,ag hD _⟩,?_⟩;rintro i m σ ys H ⟨rfl,hi,⟨v0,rfl⟩,T8,hd,k⟩;exists hd;by_cases Qi:i < x.length
 ·refine .inr ⟨Qi,λσ ys H=>(∃v0,σ=v0::O2)/\ys=(x.cps.toList.take<|i+1).map f/\H D=A' (.lst ys)/\Same H1 H,λσ' ys' H' p'=>⟨_,by lia,rfl,Qi,p'⟩,λv H' y=>?_⟩;obtain⟨rfl,c,hc,rfl⟩:=y;refine ht _ _ _<|aJ<|he c _ _ k λH4 k4=>⟨k4 _ _ hd,?_,⟨_,rfl⟩,?_,ad,(k.trans k4).upd_new hD _⟩
  ·rw[T8,J',ME];exact cB (by lia)
  ·rw[MM,Nz,hc,Mq,<-T8];rfl
 ·have e:i=x.length:=by lia
  refine .inl ⟨?_,hq _ k ?_⟩
  ·show x.cps.size<=i
   exact QN e.symm
  ·rw[hd,T8,L8<|by lia]
theorem yq(h0:σ[0]? =A' (A'<|.str t))(hz:t.length<=1000000)(h:∀fg,fg.cps.toList=b_ t.cps.toList->fg.length<=1000000->Q (.str fg) H):
  if SJ t (G' "-")=LI then Lp JC (gZ 0) (E_<|tC<|V.int 1) vM σ H Q else gZ 0 σ H Q:=by
 rw[uR];have hl:t.cps.toList.length=t.length:=Mr;refine jS (λc=>⟨_,h0,1,rfl,t,rfl,MD hz (by decide),?_⟩) λc=>⟨_,h0,h t ?_ hz⟩
 ·rw[uS];refine h _ ?_ ?_
  ·unfold b_;rw[Ml c]
  ·show(t.cps.toList.tail.toArray).size<=_
   rw[Mf,Xx];lia
 ·unfold b_;rw[Mi c]
theorem AF{α:Type}(l:gV α)(f:α->Md):(l.map λx=>V.bl<|f x).all uy=LI/\(l.map λx=>V.bl<|f x).any iR=l.any f:=by
 constructor
 ·rw[Qh];exact Mu.mpr λ_ _=>rfl
 ·rw[Qg];rfl
theorem jA(h:b_ t.cps.toList=[]\/(b_ t.cps.toList).all gx=LM\/9 < (b_ t.cps.toList).length\/((b_ t.cps.toList).head?=A' 48/\t.cps.toList≠[48])):fG t=none:=by
 unfold fG yp;refine Ml ?_;simp only [NL,MO,W_,WD,T9];obtain h|h|h|h:=h
 ·exact .inl (.inl<|.inl<|by rw[h];rfl)
 ·exact .inl<|.inl<|.inr h
 ·exact .inl<|.inr h
 ·exact .inr h
theorem AG(h1:b_ t.cps.toList≠[])(h2:(b_ t.cps.toList).all gx=LI)(h3:(b_ t.cps.toList).length<=9)(h4:¬((b_ t.cps.toList).head?=A' 48/\t.cps.toList≠[48])):
  fG t=A' (if sd t.cps.toList=LI then -((Ud (b_ t.cps.toList):Nat):Int)else((Ud (b_ t.cps.toList):Nat):Int)):=by
 unfold fG yp;refine Mi λh=>?_;simp only [NL,MO,W_,WD,T9]at h;obtain((h|h)|h)|h:=h
 ·exact h1<|List.isEmpty_iff.mp h
 ·rw[h2]at h;cases h
 ·lia
 ·exact h4 h
def ge{α β:Type}(f:α->LH β)(l:gV α):LH (gV β):=if l.all (λa=>(f a).isSome)=LI then A' (l.filterMap f)else LL
section
variable {α β:Type}{f:α->LH β}{l:gV α}
theorem mM(h:a∈l)(e:f a=LL):ge f l=none:=Mi λz=>by
 have:=Mu.mp z a h;rw[e]at this;cases this
theorem qi(h:∀a∈l,(f a).isSome=LI):ge f l=A' (l.filterMap f):=Ml<|Mu.mpr h
theorem AH(h:ge f l=A' bs)(ha:a∈l):∃b,f a=A' b/\b∈bs:=by
 unfold ge at h
 split at h
 ·rename_i hc;injection h with h;have:=Mu.mp hc a ha;obtain⟨b,hb⟩:=O1.mp this;exact⟨b,hb,by rw[<-h];exact M4.mpr ⟨a,ha,hb⟩⟩
 ·cases h
theorem j_(h:l[i]? =A' a)(e:f a=A' b):(l.take<|i+1).filterMap f=(l.take i).filterMap f++[b]:=by
 rw[MM,h,List.filterMap_append];show _++[a].filterMap f=_
 rw[ON,e];rfl
theorem mO(i:Nat):((l.take i).filterMap f).length<=i:=MD (Q1 _ _) (by rw[ME];lia)
theorem mP{P:α->Prop}(h:l[i]? =A' a)(hp:∀x∈l.take i,P x)(ha:P a):∀x∈l.take (i+1),P x:=λx hx=>by
 rw[MM,h]at hx;obtain w|w:=Mt.mp hx
 ·exact hp x w
 ·have:x=a:=by simpa using w
  rw[this];exact ha
end
theorem gK(h:s∈Nq x y):s.length<=x.length:=by
 unfold Nq at h;have part:∀i j,(strSub x i j).length<=x.length:=λi j=>by
  show(x.cps.extract i j).size<=x.cps.size
  rw[Array.size_extract];lia
 split at h
 ·rw[LN.mp h];exact LQ _
 ·split at h
  ·rw[LN.mp h];exact LQ _
  ·unfold partsBetween at h;obtain⟨p,_,rfl⟩:=MF.mp h;exact part _ _
def wf(row:Str):LH (gV Int):=(ge fG<|Nq row<|G' " ").bind λns=>if ns.getLast?=A' 0 then A' ns.dropLast else LL
def kU(row:Str):LH Str:=if row.cps.toList=[]then LL else A' (if row.cps.toList=[45]then G' "" else row)
def mQ(x:Str):LH (Str×gV (gV Int)):=(kU<|(Nq x<|G' "\n").headD QJ).bind λt=>(ge wf (Nq x<|G' "\n").tail).bind λcs=>if fo (eO t cs)=LI then A' (t,cs)else LL
theorem AI(xs:gV V):cQ xs LL (A' (-1))=xs.dropLast:=by
 unfold cQ;have e1:HT.sIx xs.length 0 LL=0:=rfl;have e2:HT.sIx xs.length xs.length (A' (-1))=xs.length - 1:=by
  show(if(-1:Int) < 0 then((-1:Int)+(xs.length:Int)).toNat else min (-1:Int).toNat xs.length)=_
  rw[Ml<|by decide];lia
 rw[e1,e2,List.drop_zero,Nat.sub_zero,Qs]
theorem mR(xs:gV V)(h:xs.length<=1000000):cQ xs (A' 1) LL=xs.tail:=by
 unfold cQ;have e1:HT.sIx xs.length 0 (A' 1)=min 1 xs.length:=HT.sIx_nat _ 0 1;have e2:HT.sIx xs.length xs.length LL=xs.length:=rfl;rw[e1,e2];cases xs with
 |nil=>rfl
 |cons a r=>
  have e3:min 1 (a::r).length=1:=by rw[L4];lia
  rw[e3];show(r.take<|(a::r).length - 1)=r
  exact L8 (by rw[L4];lia)
theorem Ec{α:Type}{xs:gV α}(h:xs≠[]):kL xs (-1)=A' (xs.getLast h):=by
 have hp:=OL.mpr h;have e:C6 xs.length (-1)=A' (xs.length - 1):=by
  unfold C6;rw[Mi (by decide),Ml<|by lia]
  congr 1
  lia
 unfold kL;rw[e];show xs[xs.length - 1]? =_
 rw[Uk,LU]
theorem dL{α:Type}{a:α}{r:gV α}:kL (a::r) 0=A' a:=by
 unfold kL C6;rw[Ml<|QF 0,Ml<|by rw[L4];lia];rfl
theorem AJ(t:Str)(cs:gV (gV Int)):fo (eO t cs)=(rM t&&cs.all λc=>ij t.length<|fN c):=by
 show(rM t&&(cs.map fN).all (ij t.length))=_
 rw[Qh];rfl
def Hv(t:Str):V:=match fG t with
 |some n=>.int n
 |none=>.non
theorem yr(h:ge fG ss=A' ns):ss.map Hv=ns.map V.int:=by
 unfold ge at h
 split at h
 ·rename_i hc;injection h with h;subst h;have hc':=Mu.mp hc;clear hc
  induction ss with
  |nil=>rfl
  |cons a r ih=>
   obtain⟨n,hn⟩:=O1.mp<|hc' a L9;rw[MH,ON,hn,ih λx hx=>hc' x<|LY _ hx];show Hv a::_=V.int n::_
   unfold Hv;rw[hn]
 ·cases h
end OD
namespace OD
open PySem L2 Builtin.Str
def cN(i:Int):Str:=G'<|toString i
theorem se(h:i.natAbs<=n):(cN i).length<=n+2:=by
 have:=X8 i;unfold cN;lia
theorem wg{i:Int}{n:Nat}(h:i.natAbs<=n)(hn:n < 2 ^ 64):i.natAbs.log2 < 1920:=by
 by_cases h0:i.natAbs=0
 ·rw[h0];decide
 ·have h1:=(Nat.log2_lt h0 (k:=64)).mpr (by lia);lia
def lg(c:gV Int):Str:=NO (G' " ")<|(c++[0]).map cN
def fX(t:Str):Str:=if t.cps.toList=[]then G' "-" else t
def fq(t:Str)(cs:gV (gV Int)):gV Str:=fX t::cs.map lg
theorem mS{ss:gV Str}{n:Nat}(h:∀s∈ss,s.length<=n):(ss.map (·.length)).sum<=ss.length*n:=by
 induction ss with
 |nil=>exact Mw _
 |cons a r ih=>
  rw[MH,T5,L4,Nat.succ_mul];have h1:=h a L9;have h2:=ih λs hs=>h s<|LY _ hs;lia
theorem mT(sep:Str)(ss:gV Str):(NO sep ss).length=(ss.map (·.length)).sum+(ss.length - 1)*sep.length:=PySem.size_glued sep ss
theorem lG(h:∀s∈ss,s.length<=n)(hl:ss.length<=m)(hs:sep.length=1):(NO sep ss).length<=m*(n+1):=by
 rw[mT,hs];have h1:=mS h;have h2:ss.length*(n+1)<=m*(n+1):=PJ _ hl;rw[Nat.mul_succ]at h2;lia
theorem wj:∀{ls:gV Int} {b:Int} {n:Nat},Hc b ls->(∀l∈ls,absI l<=b+n)->ls.length<=n
 |[],_,_,_,_=>Mw _
 |l::r,b,n,⟨h1,h2⟩,h=>by
  have h3:=h l L9;have hn:0 < n:=by lia
  have:=wj (ls:=r) (b:=absI l) (n:=n - 1) h2 λx hx=>by
   have:=h x<|LY _ hx;lia
  rw[L4];lia
structure yt (t:Str)(cs:gV (gV Int)):Prop where
 tl:t.length<=100
 cl:cs.length<=200
 ll:∀c∈cs,c.length<=12
 nl:∀c∈cs,∀l∈c,l.natAbs<=12
theorem si(h:ClOk n c)(hn:n<=12):c.length<=12/\∀l∈c,l.natAbs<=12:=by
 have h2:∀l∈c,l.natAbs<=12:=λl hl=>by
  have:=h.2 l hl;unfold absI at this
  split at this<;>lia
 refine⟨wj (b:=0) h.1 λl hl=>?_,h2⟩;have:=h.2 l hl;lia
theorem yu(h1:c.length<=12)(h2:∀l∈c,l.natAbs<=12):(∀s∈(c++[0]).map cN,s.length<=14)/\((c++[0]).map cN).length<=13:=by
 refine⟨λs hs=>?_,by rw[J',LX,Mz];lia⟩;obtain⟨i,hi,rfl⟩:=MF.mp hs;refine se ?_;obtain w|w:=Mt.mp hi
 ·exact h2 i w
 ·rw[LN.mp w];decide
theorem qj:(G' " ").length=1:=by decide+kernel
theorem qk:(G' "\n").length=1:=by decide+kernel
theorem Ed(h1:c.length<=12)(h2:∀l∈c,l.natAbs<=12):(lg c).length<=195:=by
 obtain⟨a,b⟩:=yu h1 h2;exact lG a b qj
theorem sj(h:t.length<=100):(fX t).length<=195/\1<=(fX t).length:=by
 unfold fX;have e:t.cps.toList.length=t.length:=Mr
 split
 ·rw[show(G' "-").length=1 from by decide+kernel];lia
 ·rename_i S7;have:=OL.mpr S7;lia
theorem sk(h:yt t cs):(fq t cs).length<=201/\∀s∈fq t cs,s.length<=195:=by
 refine⟨?_,λs hs=>?_⟩
 ·unfold fq;rw[L4,J'];have:=h.cl;lia
 ·obtain rfl|hs:=Mn.mp hs
  ·exact(sj h.tl).1
  ·obtain⟨c,hc,rfl⟩:=MF.mp hs;exact Ed (h.ll c hc)<|h.nl c hc
theorem AK(h:yt t cs):(NO (G' "\n")<|fq t cs).length<=40000/\1<=(NO (G' "\n")<|fq t cs).length:=by
 obtain⟨a,b⟩:=sk h;exists MD (lG b a qk) (by decide);rw[mT];unfold fq;rw[MH,T5];have:=(sj h.tl).2;lia
end OD
namespace OD
open PySem L2 PySem.NumText Builtin.Str
def bE(w:Str)(x:O3):Md:=decide (V.str w=V.str (G' x))
theorem gL(h:bE w x=LI):w=G' x:=V.str.inj<|My h
theorem Ee(h:bE w x=LI)(n:bE (G' x) y=LM):bE w y=false:=by rw[gL h];exact n
abbrev Ln:=Str×gV Int
def LnA(H:Hp)(L:Ln)(v:V):Prop:=∃p,v=.ref p/\((bE L.1 "hits"=LI/\∃q,H p=A' (.tup [.str L.1,.ref q])/\H q=A' (.tup<|L.2.map V.int))\/(bE L.1 "hits"=LM/\H p=A' (.tup<|.str L.1::L.2.map V.int)))
def li(L:Ln):Mc:=if bE L.1 "hits"=LI then .tuple [.str L.1,.tuple<|L.2.map .int]else .tuple (.str L.1::L.2.map .int)
def JN(h:Str)(ls:gV Ln):Mc:=.tuple [.str h,.list<|ls.map li]
theorem LnA.mono(h:LnA H L v)(k:Same H H'):LnA H' L v:=by
 obtain⟨p,e,h⟩:=h;exists p,e;obtain⟨a,q,b,c⟩|⟨a,b⟩:=h
 ·exact .inl ⟨a,q,k _ _ b,k _ _ c⟩
 ·exact .inr ⟨a,k _ _ b⟩
theorem LnA.upd(h:LnA H L v)(hq:H q=A' (.lst xs)):LnA (upd H q o) L v:=by
 have ne:∀{p ys},H p=A' (.tup ys)->p≠q:=λ{p ys} z e=>by rw[e,hq]at z;cases z
 obtain⟨p,e,h⟩:=h;exists p,e;obtain⟨a,q',b,c⟩|⟨a,b⟩:=h
 ·exact .inl ⟨a,q',by rw[al<|ne b];exact b,by rw[al<|ne c];exact c⟩
 ·exact .inr ⟨a,by rw[al<|ne b];exact b⟩
abbrev LnAs(H:Hp):gV Ln->gV V->Prop:=Paired<|LnA H
theorem LnAs.mono(k:Same H H'):∀{ls:gV Ln} {xs:gV V},LnAs H ls xs->LnAs H' ls xs
 |_,_,.nil=>.nil
 |_,_,.cons h t=>.cons (h.mono k)<|LnAs.mono k t
theorem LnAs.upd(hq:H q=A' (.lst ys)):∀{ls:gV Ln} {xs:gV V},LnAs H ls xs->LnAs (upd H q o) ls xs
 |_,_,.nil=>.nil
 |_,_,.cons h t=>.cons (h.upd hq)<|LnAs.upd hq t
theorem LnAs.get:∀{ls:gV Ln} {xs:gV V} {j:Nat} {v:V},LnAs H ls xs->xs[j]? =A' v->∃L,ls[j]? =A' L/\LnA H L v
 |_,_,_,_,.nil,e=>by cases e
 |_,_,0,_,.cons h _,e=>⟨_,rfl,by have e':=MC e;subst e';exact h⟩
 |_,_,j+1,v,.cons _ t,e=>by
  obtain⟨c,h1,h2⟩:=LnAs.get (j:=j) (v:=v) t (by simpa using e);exact⟨c,by simpa using h1,h2⟩
theorem LnA.rd(h:LnA H L v):RD H (li L) v:=by
 obtain⟨p,rfl,h⟩:=h;unfold li;obtain⟨a,q,b,c⟩|⟨a,b⟩:=h
 ·rw[Ml a];exact bB b<|ap (dG _)<|ap (bB c<|ib _) aQ
 ·rw[Mi<|by rw[a];nofun];exact bB b<|ap (dG _)<|ib _
theorem LnAs.rds:∀{ls:gV Ln} {xs:gV V},LnAs H ls xs->c9 H (ls.map li) xs
 |_,_,.nil=>aQ
 |_,_,.cons h t=>ap h.rd<|LnAs.rds t
theorem AL(hp:H p=A' (.tup [.str h,.ref q]))(hq:H q=A' (.lst xs))(hl:LnAs H ls xs):RD H (JN h ls) (.ref p):=
 bB hp (ap (dG h)<|ap (fT hq hl.rds) aQ)
def wOk(w:Str):Prop:=bE w "join"=LI\/bE w "drop"=LI\/bE w "given"=LI\/bE w "hits"=LI
theorem wOk.str(h:wOk w):PB w=true:=by
 obtain h|h|h|h:=h<;>rw[gL h]<;>decide+kernel
theorem wOk.len(h:wOk w):w.length<=5:=by
 obtain h|h|h|h:=h<;>rw[gL h]<;>decide+kernel
def hOk(h:Str):Prop:=bE h "wisher"=LI\/bE h "spoiler"=LI
theorem hOk.str(h:hOk w):PB w=true:=by
 obtain h|h:=h<;>rw[gL h]<;>decide+kernel
theorem hOk.len(h:hOk w):w.length<=7/\1<=w.length:=by
 obtain h|h:=h<;>rw[gL h]<;>decide+kernel
theorem Hw(h:wOk L.1):(li L).canLay0=LI/\(li L).depth<=2:=by
 unfold li;have e1:=U2 L.2;have e2:=VL L.2
 split
 ·constructor
  ·show(PB L.1&&(MY (L.2.map NV)&&LI))=LI
   rw[h.str,e1];rfl
  ·show max 0 (max (NK (L.2.map NV)+1) 0)+1<=2
   rw[e2];decide
 ·constructor
  ·show(PB L.1&&MY (L.2.map NV))=LI
   rw[h.str,e1];rfl
  ·show max 0 (NK<|L.2.map NV)+1<=2
   rw[e2];decide
theorem wk:∀{ls:gV Ln},(∀L∈ls,wOk L.1)->MY (ls.map li)=LI/\NK (ls.map li)<=2
 |[],_=>⟨rfl,Mw _⟩
 |L::r,h=>by
  obtain⟨a,b⟩:=Hw<|h L L9;obtain⟨c,d⟩:=wk λx hx=>h x<|LY _ hx;constructor
  ·show((li L).canLay0&&MY (r.map li))=LI
   rw[a,c];rfl
  ·show max (li L).depth (NK<|r.map li)<=2
   lia
theorem uT(hh:hOk h)(hl:∀L∈ls,wOk L.1):NJ (JN h ls)=true:=by
 obtain⟨a,b⟩:=wk hl;refine jX ?_ ?_
 ·show(PB h&&(MY (ls.map li)&&LI))=LI
  rw[hh.str,a];rfl
 ·show max 0 (max (NK (ls.map li)+1) 0)+1<=64
  lia
def JO(w hd:Str)(ns:gV Int):Md:=match ns with
 |[a]=>decide (0<=a)&&((bE w "given"&&bE hd "spoiler") || bE w "drop")
 |[a,b,v]=>bE w "join"&&(decide (0<=a)&&(decide (0<=b)&&decide (1<=v)))
 |_=>LM
def ft(hd w:Str)(ns:gV Int):Md:=if bE w "hits"=LI then bE hd "wisher"&&fO 1000000000 0 (ns.map NV)else JO w hd ns
def iX(hd row:Str):LH Ln:=(ge fG (Nq row<|G' " ").tail).bind λns=>if ft hd ((Nq row<|G' " ").headD QJ) ns=LI then A' ((Nq row<|G' " ").headD QJ,ns)else LL
def ke(x:Str):LH (Str×gV Ln):=if(bE ((Nq x<|G' "\n").headD QJ) "wisher" || bE ((Nq x<|G' "\n").headD QJ) "spoiler")=LI then(ge (iX<|(Nq x<|G' "\n").headD QJ) (Nq x<|G' "\n").tail).map λls=>((Nq x<|G' "\n").headD QJ,ls)else LL
theorem sm(h:Nq row (G' " ")=w::ps):iX hd row=(ge fG ps).bind λns=>if ft hd w ns=LI then A' (w,ns)else none:=by
 unfold iX;rw[h];rfl
theorem oW(h:Nq x (G' "\n")=r::rs):ke x=if(bE r "wisher" || bE r "spoiler")=LI then(ge (iX r) rs).map λls=>(r,ls)else none:=by
 unfold ke;rw[h];rfl
theorem wl(h:ft hd w ns=LI):wOk w:=by
 unfold ft at h
 split at h
 ·rename_i e;exact .inr<|.inr<|.inr e
 ·unfold JO at h
  split at h
  ·simp only [MO,NL]at h;obtain z|z:=h.2
   ·exact .inr<|.inr<|.inl z.1
   ·exact .inr<|.inl z
  ·exact .inl (NU.mp h).1
  ·cases h
theorem oX:∀{cs:gV Nat} {a:Nat},(∀c∈cs,c<=57)->cs.foldl (λO0 c=>O0*10+(c - 48)) a < (a+1)*10 ^ cs.length
 |[],a,_=>by simp
 |c::r,a,h=>by
  have h1:=h c L9;have h2:=oX (cs:=r) (a:=a*10+(c - 48)) λx hx=>h x<|LY _ hx;refine Nb h2 ?_;rw[L4,QM,Z9 (10 ^ r.length) 10,<-Nat.mul_assoc];exact PJ _ (by lia)
theorem Hx(h:fG t=A' n):absI n < 1000000000:=by
 unfold fG yp at h
 split at h
 ·cases h
 rename_i hc;injection h with h;simp only [NL,not_or,Um]at hc;obtain⟨⟨⟨c1,c2⟩,c3⟩,_⟩:=hc;have c3':=P' c3;have c2':(b_ t.cps.toList).all gx=true:=by simpa using c2
 have hd:=oX (cs:=b_ t.cps.toList) (a:=0) λc Wx=>(My<|Mu.mp c2' c Wx).2;have hp:10 ^ (b_ t.cps.toList).length<=10 ^ 9:=O5 (by decide) (by lia);have hv:Ud (b_ t.cps.toList) < 1000000000:=by
  unfold Ud;lia
 unfold absI;subst h
 split<;>split<;>lia
theorem oY:∀{ns:gV Int} {b:Int},(∀n∈ns,absI n<=m1)->(∀n∈ns,absI n<=m2)->fO m1 b (ns.map NV)=fO m2 b (ns.map NV)
 |[],_,_,_=>rfl
 |n::r,b,h1,h2=>by
  have a1:=h1 n L9;have a2:=h2 n L9;rw[MH,gk,gk,oY (λx hx=>h1 x<|LY _ hx) λx hx=>h2 x<|LY _ hx];by_cases hb:b < absI n
  ·rw[Ml ⟨hb,a1⟩,Ml ⟨hb,a2⟩]
  ·rw[Mi λz=>hb z.1,Mi λz=>hb z.1]
end OD
namespace OD
open PySem L2 PySem.NumText Builtin.Str PyProof.Rows
theorem wm:∀{a b r s:gV Nat},c∉a->c∉b->a++c::r=b++c::s->a=b/\r=s
 |[],[],_,_,_,_,h=>⟨rfl,(Qn h).2⟩
 |[],y::b,_,_,_,hb,h=>absurd (by rw[(Qn h).1];exact L9) hb
 |x::a,[],_,_,ha,_,h=>absurd (by rw[<-(Qn h).1];exact L9) ha
 |x::a,y::b,_,_,ha,hb,h=>by
  obtain⟨e,h'⟩:=Qn h;obtain⟨e1,e2⟩:=wm (λz=>ha<|LY _ z) (λz=>hb<|LY _ z) h';exact⟨by rw[e,e1],e2⟩
theorem ql{a b:Str}(h:a.cps.toList=b.cps.toList):a=b:=by
 obtain⟨x⟩:=a;obtain⟨y⟩:=b;exact M0 acL<|RT.mp h
theorem so(c:Nat):∀{as bs:gV Str},as.length=bs.length->(∀s∈as,c∉s.cps.toList)->(∀s∈bs,c∉s.cps.toList)->QB ⟨#[c]⟩ as=QB ⟨#[c]⟩ bs->as=bs
 |[],[],_,_,_,_=>rfl
 |[],_::_,h,_,_,_=>nomatch h
 |_::_,[],h,_,_,_=>nomatch h
 |[x],[y],_,_,_,h=>by
  have h':x=y:=h;rw[h']
 |[_],_::_::_,h,_,_,_=>nomatch (UK h)
 |_::_::_,[_],h,_,_,_=>nomatch (UK h)
 |x::x2::r,y::y2::q,hl,ha,hb,h=>by
  have h1:(x++(⟨#[c]⟩:Str)++QB ⟨#[c]⟩ (x2::r)).cps.toList=(y++(⟨#[c]⟩:Str)++QB ⟨#[c]⟩ (y2::q)).cps.toList:=M0 (λs:Str=>s.cps.toList) h;rw[Rt,Rt,Rt,Rt,MN,MN]at h1;obtain⟨e1,e2⟩:=wm (ha x L9) (hb y L9) h1;rw[ql e1,so c (as:=x2::r) (bs:=y2::q) (UK hl) (λs hs=>ha s<|LY _ hs) (λs hs=>hb s<|LY _ hs)<|ql e2]
theorem gM(h0:ss≠[])(hn:∀s∈ss,c∉s.cps.toList):Nq (NO ⟨#[c]⟩ ss) ⟨#[c]⟩=ss:=by
 have ej:NO ⟨#[c]⟩ ss=QB ⟨#[c]⟩ ss:=RF _ _;rw[ej];refine so c ?_ (StrLaws.split_free _ c) hn<|StrLaws.join_split _ _;have h1:=split_len (QB ⟨#[c]⟩ ss) c;rw[cnt_join ⟨#[c]⟩ c (by show cnt c [c]=1;rw[cnt_cons,Ml rfl,cnt_nil];rfl) ss hn]at h1;have:0 < ss.length:=OL.mpr h0;lia
theorem AM:∀m,0 < m->∀ch,(Nn 10 m).head?=A' ch->ch.toNat≠48:=λm=>by
 induction m using Nat.strongRecOn with
 |_ m ih=>
  intro hm ch hc;by_cases h:m < 10
  ·rw[Nat.toDigits_of_lt_base h]at hc;have e:=Z0 m h;have hc':Nat.digitChar m=ch:=MC hc;rw[hc']at e;lia
  ·have hm':m % 10 < 10:=Nat.mod_lt m (by decide);have t:Nn 10 (m / 10)++Nn 10 (m % 10)=Nn 10 (10*(m / 10)+m % 10):=Nat.toDigits_append_toDigits (by decide) (by lia) hm';rw[Nat.div_add_mod]at t;rw[<-t]at hc;have hl:=XQ 10<|m / 10;cases g:Nn 10 (m / 10)with
   |nil=>rw[g]at hl;simp at hl
   |cons a r=>
    refine ih (m / 10) (by lia) (by lia) ch ?_;rw[g]at hc ⊢;exact hc
theorem wn(m:Nat):((Nn 10 m).map Ow).all gx=true:=Mu.mpr λc hc=>by
 obtain⟨ch,YL,rfl⟩:=MF.mp hc;exact Ma<|Zs<|Nat.isDigit_of_mem_toDigits (by decide) (by decide) YL
theorem mU(h:n < 0):(cN n).cps.toList=45::(Nn 10 n.natAbs).map Ow:=by
 unfold cN;rw[X5,Int.toString_eq_repr,Int.repr_eq_if,Mi (by lia),String.toList_append,Mq,Nat.toList_repr,show(-n).toNat=n.natAbs by lia];rfl
theorem mV(h:0<=n):(cN n).cps.toList=(Nn 10 n.natAbs).map Ow:=by
 obtain⟨m,rfl⟩:=Int.eq_ofNat_of_zero_le h;exact aah m
theorem AN(hm:m < 10 ^ 9):((Nn 10 m).map Ow).isEmpty=LM/\((Nn 10 m).map Ow).length<=9/\(0 < m->((Nn 10 m).map Ow).head?≠A' 48):=by
 have hl:=XQ 10 m;refine⟨?_,by rw[J'];exact digits10_le (by decide) hm,λh z=>?_⟩
 ·cases g:Nn 10 m with
  |nil=>rw[g]at hl;simp at hl
  |cons a r=>rfl
 ·cases g:Nn 10 m with
  |nil=>rw[g]at hl;simp at hl
  |cons a r=>
   rw[g]at z;exact AM m h a (by rw[g];rfl)<|MC z
theorem su(h:n.natAbs < 10 ^ 9):fG (cN n)=A' n:=by
 obtain⟨a1,a2,a3⟩:=AN h;have a4:=wn n.natAbs;have a5:=aaA n.natAbs;unfold fG yp;by_cases hn:n < 0
 ·rw[mU hn];have e1:sd (45::(Nn 10 n.natAbs).map Ow)=true:=rfl;have e2:b_ (45::(Nn 10 n.natAbs).map Ow)=(Nn 10 n.natAbs).map Ow:=rfl;rw[e1,e2,a1,a4,a5,LW (by lia),LW<|a3<|by lia];show(if LM=LI then LL else A' (if LI=LI then -((n.natAbs:Nat):Int)else _))=A' n
  rw[Mi Mb,Ml rfl]
  congr 1
  lia
 ·rw[mV<|by lia];have e1:sd ((Nn 10 n.natAbs).map Ow)=false:=by
   cases g:(Nn 10 n.natAbs).map Ow with
   |nil=>rfl
   |cons a r=>
    rw[g]at a4;have:=My<|Mu.mp a4 a L9;show(A' a == A' 45)=LM
    exact ND.mpr λz=>by have:=MC z;lia
  have e2:b_ ((Nn 10 n.natAbs).map Ow)=(Nn 10 n.natAbs).map Ow:=by
   unfold b_;rw[e1,Mi Mb]
  have e3:(decide (((Nn 10 n.natAbs).map Ow).head?=A' 48)&&!decide ((Nn 10 n.natAbs).map Ow=[48]))=false:=by
   by_cases z:n.natAbs=0
   ·rw[z];decide
   ·rw[LW (a3<|by lia),YI]
  rw[e1,e2,e3,a1,a4,a5,LW<|by lia];show(if LM=LI then LL else A' (if LM=LI then _ else((n.natAbs:Nat):Int)))=A' n
  rw[Mi Mb,Mi Mb]
  congr 1
  lia
theorem iK(hc:¬(48<=c/\c<=57))(h45:c≠45):c∉(cN n).cps.toList:=λz=>by
 have fg:c∉(Nn 10 n.natAbs).map Ow:=λz=>hc<|My<|Mu.mp (wn n.natAbs) c z;by_cases hn:n < 0
 ·rw[mU hn]at z;obtain e|e:=Mn.mp z
  ·exact h45 e
  ·exact fg e
 ·rw[mV<|by lia]at z;exact fg z
theorem sv(h:∀n∈ns,n.natAbs < 10 ^ 9):ge fG (ns.map cN)=A' ns:=by
 unfold ge;have e1:(ns.map cN).all (λa=>(fG a).isSome)=true:=Mu.mpr λs hs=>by
  obtain⟨n,hn,rfl⟩:=MF.mp hs;rw[su<|h n hn];rfl
 rw[Ml e1]
 congr 1
 induction ns with
 |nil=>rfl
 |cons n r ih=>
  rw[MH,ON,su<|h n L9];show n::_=n::r
  rw[ih (λm hm=>h m<|LY _ hm)<|Mu.mpr λs hs=>Mu.mp e1 s<|LY _ hs]
theorem yw(h0:ns≠[]):Nq (NO (G' " ")<|ns.map cN) (G' " ")=ns.map cN:=
 gM (c:=32) (λz=>h0<|PX.mp z) λs hs=>by
  obtain⟨n,_,rfl⟩:=MF.mp hs;exact iK (by decide) (by decide)
theorem Ef(h:∀n∈c,n.natAbs < 10 ^ 9):wf (lg c)=A' c:=by
 unfold wf lg;rw[yw (by simp),sv (λn hn=>by
  obtain hn|hn:=Mt.mp hn
  ·exact h n hn
  ·rw[LN.mp hn];decide)]
 show(if(c++[0]).getLast?=A' 0 then A' (c++[0]).dropLast else LL)=A' c
 rw[Ml (by simp),List.dropLast_concat]
theorem sA{α β:Type}{f:α->LH β}{g:β->α}{l:gV β}(h:∀b∈l,f (g b)=A' b):ge f (l.map g)=A' l:=by
 unfold ge;rw[Ml (Mu.mpr λs hs=>by
  obtain⟨b,hb,rfl⟩:=MF.mp hs;rw[h b hb];rfl)]
 congr 1
 induction l with
 |nil=>rfl
 |cons b r ih=>
  rw[MH,ON,h b L9];show b::_=b::r
  rw[ih λm hm=>h m<|LY _ hm]
theorem AO{ns:gV Int}{c:Nat}(h32:c≠32)(hc:¬(48<=c/\c<=57))(h45:c≠45):c∉(NO (G' " ")<|ns.map cN).cps.toList:=λz=>by
 have ej:NO (G' " ") (ns.map cN)=QB (G' " ") (ns.map cN):=RF _ _;rw[ej]at z;obtain⟨s,hs,e⟩|⟨_,e⟩:=(mem_join _ c _).mp z
 ·obtain⟨n,_,rfl⟩:=MF.mp hs;exact iK hc h45 e
 ·exact h32<|LN.mp e
theorem yx(hw:WS t):kU (fX t)=A' t:=by
 unfold fX;by_cases h:t.cps.toList=[]
 ·rw[Ml h];have e:t=G' "":=ql (by rw[h];rfl);rw[e];decide+kernel
 ·rw[Mi h];unfold kU;rw[Mi h,Mi λz=>by
   have:=hw 45 (by rw[z];exact LN.mpr rfl);lia]
theorem uU(hw:WS t)(h:∀c∈cs,∀n∈c,n.natAbs < 10 ^ 9)(hs:fo (eO t cs)=LI):mQ (NO (G' "\n")<|fq t cs)=A' (t,cs):=by
 have hsp:Nq (NO (G' "\n")<|fq t cs) (G' "\n")=fq t cs:=gM (c:=10) (λz=>nomatch z) λs hs=>by
  obtain rfl|hs:=Mn.mp hs
  ·unfold fX
   split
   ·decide+kernel
   ·intro z;have:=hw 10 z;lia
  ·obtain⟨c,_,rfl⟩:=MF.mp hs;exact AO (by decide) (by decide) (by decide)
 unfold mQ;rw[hsp];show(kU<|fX t).bind (λt=>(ge wf<|cs.map lg).bind λcs=>if fo (eO t cs)=LI then A' (t,cs)else LL)=A' (t,cs)
 rw[yx hw,sA λc hc=>Ef<|h c hc];show(if fo (eO t cs)=LI then A' (t,cs)else LL)=A' (t,cs)
 rw[Ml hs]
def qm(L:Ln):Str:=NO (G' " ")<|L.1::L.2.map cN
def fH(h:Str)(ls:gV Ln):gV Str:=h::ls.map qm
theorem oZ(h:wOk w):10∉w.cps.toList/\32∉w.cps.toList:=by
 obtain h|h|h|h:=h<;>rw[gL h]<;>decide+kernel
theorem yy(hb:ft hd L.1 L.2=LI)(h:∀n∈L.2,n.natAbs < 10 ^ 9):iX hd (qm L)=A' L:=by
 have hsp:Nq (qm L) (G' " ")=L.1::L.2.map cN:=gM (c:=32) (λz=>nomatch z) λs hs=>by
  obtain rfl|hs:=Mn.mp hs
  ·exact(oZ<|wl hb).2
  ·obtain⟨n,_,rfl⟩:=MF.mp hs;exact iK (by decide) (by decide)
 rw[sm hsp,sv h];show(if ft hd L.1 L.2=LI then A' (L.1,L.2)else LL)=A' L
 rw[Ml hb]
theorem sC(hh:hOk h)(hl:∀L∈ls,ft h L.1 L.2=LI/\∀n∈L.2,n.natAbs < 10 ^ 9):ke (NO (G' "\n")<|fH h ls)=A' (h,ls):=by
 have hsp:Nq (NO (G' "\n")<|fH h ls) (G' "\n")=h::ls.map qm:=gM (c:=10) (λz=>nomatch z) λs hs=>by
  obtain rfl|hs:=Mn.mp hs
  ·obtain z|z:=hh<;>rw[gL z]<;>decide+kernel
  ·obtain⟨L,hL,rfl⟩:=MF.mp hs;intro z;have ej:qm L=QB (G' " ") (L.1::L.2.map cN):=RF _ _;rw[ej]at z;obtain⟨s,hs,e⟩|⟨_,e⟩:=(mem_join _ 10 _).mp z
   ·obtain rfl|hs:=Mn.mp hs
    ·exact(oZ<|wl (hl L hL).1).1 e
    ·obtain⟨n,_,rfl⟩:=MF.mp hs;exact iK (by decide) (by decide) e
   ·exact absurd (LN.mp e) (by decide)
 have hk:(bE h "wisher" || bE h "spoiler")=true:=by
  obtain z|z:=hh<;>rw[z]
  ·rfl
  ·exact W9 _
 rw[oW hsp,Ml hk,sA λL hL=>yy (hl L hL).1 (hl L hL).2];rfl
end OD
namespace K94
open PySem L2 OD
def cZ(i:Nat):NN:=PySem.Challenge.pw_oathduel_k94_whole_papers_through_texts.main.body.getD i<|.Pass ⟨0,0,0,0⟩
abbrev AQ:NN:=cZ 68
abbrev Hy:NN:=cZ 69
abbrev uV:NN:=cZ 70
abbrev AR:NN:=cZ 71
structure Kv (mg:Str->LH LF):Prop where
 len:mg "len"=LL
 range:mg "range"=LL
 tuple:mg "tuple"=LL
 sorted:mg "sorted"=LL
def eZ(ns:gV Int)(k:Int):Int:=ns.getD k.toNat 0
def AS(c k:Int)(b:Md):Int:=if b=LI then((c*48271+k*69621+11) % 2147483629*((c*48271+k*69621+11) % 2147483629) % 2147483587)*((c*48271+k*69621+11) % 2147483629*((c*48271+k*69621+11) % 2147483629) % 2147483587) % 2147483563 else c
inductive Fy (K:K')(vs:gV V)(H:Hp)(Q:VK):Prop
 |mk (a:LJ)(ns:gV Int)(k:Int)(h0:vs=[.ref a,.int k])(h1:SqL K H a (ns.map V.int))(h2:0<=k)(h3:Q (.int<|eZ ns k) H):Fy K vs H Q
def uW(K:K'):Sp:=λvs H Q _=>Fy K vs H Q
inductive JP (vs:gV V)(H:Hp)(Q:VK):Prop
 |mk (c k:Int)(b:Md)(h0:vs=[.int c,.int k,.bl b])(h1:Q (.int<|AS c k b) H):JP vs H Q
def Fz:Sp:=λvs H Q _=>JP vs H Q
def AT(n:Int)(H:Hp)(Q:VK):Prop:=∀(p:LJ) (ls:gV Int) (H':Hp),Same H H'->H' p=A' (.tup<|ls.map V.int)->ClOk n ls->ls.length<=4->Q (.ref p) H'
def wo:Sp:=λvs H Q _=>∃c n:Int,vs=[.int c,.int n]/\0<=n/\n < 1000/\AT n H Q
inductive FA (K:K')(vs:gV V)(H:Hp)(Q:VK):Prop
 |mk (a:LJ)(ns:gV Int)(most:Int)(h0:vs=[.ref a,.int most])(h1:SqL K H a (ns.map V.int))(h2:ns.length<=63)(h3:0<=most)(h4:most < 20)(h5:∀(p:LJ) (t:Str) (cs:gV (gV Int)) (H':Hp),Same H H'->RD H' (eO t cs) (.ref p)->SOk most t cs->(∀c∈cs,c.length<=4)->Q (.ref p) H'):FA K vs H Q
def AU(K:K'):Sp:=λvs H Q _=>FA K vs H Q
def AV(s:Int):Int:=if s=0 then 1 else -1
def jB(ps:gV (Int×Int)):gV (Int×Int):=ps.map λq=>(q.1,AV q.2)
theorem AW(ps:gV (Int×Int))(k s:Int):jB (nU ps k s)=nU (jB ps) k (AV s):=by
 have e:((jB ps).any λq=>decide (q.1=k))=(ps.any λq=>decide (q.1=k)):=by
  unfold jB;rw[Qg];rfl
 unfold nU;rw[e]
 split
 ·unfold jB;rw[M9,M9];refine QS λq _=>?_;show(λq=>(q.1,AV q.2)) (if q.1=k then(q.1,s)else q)=if q.1=k then(q.1,AV s)else(q.1,AV q.2)
  split<;>rfl
 ·unfold jB;rw[Mq];rfl
theorem yz(ps:gV (Int×Int))(k:Int):iV (jB ps) k=(iV ps k).map AV:=by
 induction ps with
 |nil=>rfl
 |cons q r ih=>
  unfold jB at ih ⊢;unfold iV at ih ⊢;rw[MH,NZ,NZ];by_cases h:q.1=k
  ·simp [h]
  ·simp only [h,decide_false];exact ih
theorem o3(ps:gV (Int×Int)):(jB ps).map (·.1)=ps.map (·.1):=by
 unfold jB;rw[M9];rfl
theorem uX(s:Int):AV s=1\/AV s=-1:=by
 unfold AV
 split
 ·exact .inl rfl
 ·exact .inr rfl
theorem Hz(h:r=0\/r=1):kL [V.int 1,V.int (-1)] r=A' (.int<|AV r):=by
 obtain rfl|rfl:=h<;>rfl
theorem HA:aq ["_law_script","_law_k"] ["_law_script","_law_k"] (aj AQ):=⟨rfl,rfl,rfl,by decide+kernel,rfl,by decide+kernel,by decide+kernel⟩
theorem Eg(F:Fun K "_law_cell_at" "_law_cell_at" AQ f fd)(T:Kv mg):FnOk P w K mg base b7 1 f fd ["_law_script","_law_k"] (uW K):=by
 refine F.ok HA (λvs H Q E h=>?_) λOT A outer s H vs Q E hr h=>?_
 ·obtain⟨a,ns,k,rfl,_⟩:=h;rfl
 obtain⟨a,ns,k,rfl,hS,h0,q⟩:=h;refine⟨_,(af (aS (ay vK (pv 1) (aw bh rfl T.len M7<|aa (pv 0) ae)<|aB _) (ah<|ao<|av am (pv 0) (pv 1) λ_ _=>rfl) aA)
  (ah<|ao ai)),?_⟩
 exists _,rfl,_,rfl,.ref a,_,rfl,.inl ⟨_,hS,rfl⟩,_,_,rfl,rfl,_,rfl;refine jS (λc=>?_) λc=>?_
 ·have c':k < (((ns.map V.int).length:Nat):Int):=My c;rw[J']at c';obtain⟨v,hv1,hv⟩:=zQ (ns:=ns) h0 c';have e:eZ ns k=v:=by
   unfold eZ;rw[LK,hv1];rfl
  rw[e]at q;exact⟨_,rfl,_,rfl,.inl ⟨a,_,k,.int v,rfl,rfl,hS,hv,q⟩⟩
 ·have c':¬k < (((ns.map V.int).length:Nat):Int):=λz=>c<|Ma z;rw[J']at c';have e:eZ ns k=0:=by
   unfold eZ;rw[LK,N9<|by lia];rfl
  rw[e]at q;exact q
theorem FC:aq ["_law_cell","_law_k","_law_mixed","_law_number"] ["_law_cell","_law_k","_law_mixed"] (aj Hy):=⟨rfl,rfl,rfl,by decide+kernel,rfl,by decide+kernel,by decide+kernel⟩
theorem HB(F:Fun K "_law_mix" "_law_mix" Hy f fd):FnOk P w K mg base b7 1 f fd ["_law_cell","_law_k","_law_mixed"] Fz:=by
 have sc:=FC;refine F.ok FC (λvs H Q E h=>?_) λOT A outer s H vs Q E hr h=>?_
 ·obtain⟨c,k,b,rfl,_⟩:=h;rfl
 obtain⟨c,k,b,rfl,q⟩:=h;refine⟨_,(af (aS (cj<|bD<|pv 2) (ah<|ao<|pv 0) aA)
  (af (au (i:=3) sc.nd rfl (MA rfl)<|aU dW (aU g_ (aU g_ (aU hG (pv 0) ai)<|aU hG (pv 1) ai) ai) ai)
  (af (au (i:=3) sc.nd rfl (MA rfl)<|aU dW (aU hG (pv 3)<|pv 3) ai)
  (ah<|ao<|aU dW (aU hG (pv 3)<|pv 3) ai)))),?_⟩
 exists _,rfl,_,rfl;cases b with
 |false=>exact aJ ⟨_,rfl,q⟩
 |true=>
  refine aI ?_;unfold AS at q;rw[Ml rfl]at q;exists _,rfl,_,_,rfl,rfl,.inr ⟨by decide,by decide⟩,_,rfl,_,_,rfl,rfl,.inr ⟨by decide,by decide⟩,_,_,rfl,rfl,_,_,rfl,rfl,_,_,rfl,rfl,(by show(0:Int) < 2147483629;decide);exists _,rfl,_,rfl,_,_,rfl,rfl,.inl ⟨by lia,by lia⟩,_,_,rfl,rfl,(by show(0:Int) < 2147483587;decide);exact⟨_,rfl,_,rfl,_,_,rfl,rfl,.inl ⟨by lia,by lia⟩,_,_,rfl,rfl,(by show(0:Int) < 2147483563;decide),q⟩
theorem wp:aq ["_law_number","_law_count","_law_signs","_law_size","_law_k"] ["_law_number","_law_count"] (aj uV):=⟨rfl,rfl,rfl,by decide+kernel,rfl,by decide+kernel,by decide+kernel⟩
inductive sD (n:Int)(d:LJ)(c:Int)(H:Hp)(i:Nat)(σ:gV (LH V))(H2:Hp):Prop
 |mk (cc:Int)(ps:gV (Int×Int))(jv:LH V)(i0:σ=[A'<|.int cc,A'<|.int n,A'<|.ref d,A'<|.int<|c % 5,jv])(i1:H2 d=A' (.dK<|dP ps))(i2:Same H H2)(i3:DOk n (jB ps))(i4:(∀z∈ps,z.2=0\/z.2=1))(i5:ps.length<=i):sD n d c H i σ H2
inductive sE (d:LJ)(ks:gV Int)(ps:gV (Int×Int))(D:LJ)(H3:Hp)(i:Nat)(σ:gV (LH V))(ys:gV V)(H4:Hp):Prop
 |mk (i0:(∃v0,σ=[v0,A' (.ref d)]))(i1:ys=((ks.take i).map λk=>V.int<|k*Hg (jB ps) k))(i2:H4 D=A' (.lst ys))(i3:(∀b o,b≠D->H3 b=A' o->H4 b=A' o)):sE d ks ps D H3 i σ ys H4
theorem AX(F:Fun K "_law_drawn" "_law_drawn" uV f fd)(T:Kv mg):FnOk P w K mg base b7 1 f fd ["_law_number","_law_count"] wo:=by
 have sc:=wp;refine F.ok wp (λvs H Q E h=>?_) λOT A outer s H vs Q E hr h=>?_
 ·obtain⟨c,n,rfl,_⟩:=h;rfl
 obtain⟨c,n,rfl,n0,n1,q⟩:=h;have hu:=hr.units;have UX:=oo hr;refine⟨_,(af (au (i:=2) sc.nd rfl (Ra rfl) zu)
  (af (au (i:=3) sc.nd rfl (MA rfl)<|aU dW (pv 0) ai)
  (af (au (i:=0) sc.nd rfl (MA rfl)<|aU fR (pv 0) ai)
  (af (cO M_ rfl (iA rfl T.range<|aa (pv 3) ae) (aE (i:=4) sc.nd rfl<|MA rfl)
   (ah (aS (ay lT (pv 1) ai<|aB _) (af (ly UX (pv 2) (aU g_ ai<|aU dW (pv 0)<|pv 1) (aU dW (aU fR (pv 0)<|pv 1) ai) rfl)
    (ah<|au (i:=0) sc.nd rfl (MA rfl)<|aU fR (pv 0)<|aU hG ai<|pv 1)) aA)))
  (ah<|ao<|bg cn rfl T.tuple Nm<|aa (bp (NY:=["_law_variable","_law_signs"]) (idx:=[LL,A' 2]) rfl ⟨by with_unfolding_all rfl,(by with_unfolding_all exact⟨rfl,trivial⟩),λ_=>by rfl,by rfl,by rfl,by rfl,by decide⟩ (bw<|aw (rp rfl) rfl T.sorted R8<|aa (pv 2) ae) (λ_ _ _ _=>(aE (i:=0) (show Nf (["_law_variable","_law_signs"]:gV Str) by decide+kernel) rfl<|MA rfl)) (λ_ _ _ _=>bJ) λ_ _ _ _=>(aU hG (pv 0)<|av (lA (K:=K) rfl) (bY<|aa ai<|aa (fk c7 ai) ae) (bT UX (pv 1) (pv 0) λ_ _=>rfl) λ_ _=>rfl)) ae))))),?_⟩
 intro d hd;have c5:=Ql c (show(5:Int)≠0 by decide);have c5':=Pm c (show(0:Int) < 5 by decide);exists _,rfl,_,_,rfl,rfl,(by show(0:Int) < 5;decide),_,rfl,_,_,rfl,rfl,⟨by decide,by decide⟩;refine⟨_,rfl,c % 5,rfl,(by lia),(by lia),jQ (lo:=0) (n:=(c % 5).toNat)
  (sD n d c H)
  ⟨_,[],LL,rfl,ad,ag hd _,DOk.nil n,(λ_ z=>nomatch z),LQ _⟩ ?_ ?_⟩
 ·rintro i σ H2 hi ⟨cc,ps,jv,rfl,X4,k2,hok,h01,hl⟩;refine⟨_,rfl,_,_,rfl,rfl,_,rfl,jS (λg=>?_) λg=>?_⟩
  ·have g':0 < n:=My g;have m1:=Ql cc (show n≠0 by lia);have m2:=Pm cc g';have s1:=Ql (cc / n) (show(2:Int)≠0 by decide);have s2:=Pm (cc / n) (show(0:Int) < 2 by decide);exists _,rfl,_,rfl,_,_,rfl,rfl,⟨g',by lia⟩,_,_,rfl,rfl,(by show(0:Int) < 2;decide);exists _,rfl,_,rfl,_,rfl,_,_,rfl,rfl,g',_,_,rfl,rfl,d,_,rfl,DPut.k (k:=M5 (1+cc % n)) X4 (by unfold dP;rw[J'];exact aW<|by lia);exists _,rfl,_,rfl,_,_,rfl,rfl,.inl ⟨by decide,by decide⟩,_,_,rfl,rfl,⟨by lia,by lia⟩;obtain⟨o1,o2⟩:=hok.put (k:=1+cc % n) (s:=AV<|cc / n % 2) (by lia)<|uX _;rw[<-AW]at o1 o2;have ml:∀l,(jB l).length=l.length:=λl=>J' _;rw[ml,ml]at o2;refine⟨_,nU ps (1+cc % n)<|cc / n % 2,_,rfl,?_,k2.upd_new hd _,o1,λz hz=>?_,by lia⟩
   ·rw[ad];exact M0 (λz=>A'<|HO.dK z)<|He _ _ _
   ·unfold nU at hz
    split at hz
    ·obtain⟨y,hy,e⟩:=MF.mp hz
     split at e
     ·rw[<-e];show cc / n % 2=0\/cc / n % 2=1
      lia
     ·rw[<-e];exact h01 y hy
    ·obtain y|y:=Mt.mp hz
     ·exact h01 z y
     ·rw[LN.mp y];show cc / n % 2=0\/cc / n % 2=1
      lia
  ·exact⟨cc,ps,_,rfl,X4,k2,hok,h01,by lia⟩
 ·rintro σ H2 ⟨cc,ps,jv,rfl,X4,k2,hok,h01,hl⟩;refine⟨_,rfl,d,dP ps,ps.map (·.1),rfl,X4,DG ps,by rw[J'];lia,λl ks hl' hperm hpw=>⟨l,rfl,⟨_,SqL.of ad⟩,λD hD=>?_⟩⟩;have hkl:ks.length=ps.length:=by rw[hperm.length_eq,J']
  have k3:=k2.upd_new (k2.free hl')<|.lst<|ks.map V.int;have hd3:upd H2 l (.lst<|ks.map V.int) d=A' (.dK<|dP ps):=by rw[al<|ak X4 hl'];exact X4
  have Zz:upd H2 l (.lst<|ks.map V.int) l=A' (.lst<|ks.map V.int):=ad;generalize upd H2 l (.lst<|ks.map V.int)=H3 at k3 hd3 Zz hD;refine bO (K:=K) (a:=l) (xs:=ks.map V.int) (sE d ks ps D H3)
   ⟨⟨LL,rfl⟩,rfl,ad,λb o hb e=>by rw[al hb];exact e⟩ ?_ ?_ ?_
  ·rintro i σ ys H4 _ ⟨_,_,h1,h2⟩;exact⟨h1,SqL.of<|h2 _ _ (ak Zz hD) Zz⟩
  ·rintro i x σ ys H4 hx ⟨⟨v0,rfl⟩,T8,h1,h2⟩;obtain⟨k,rfl,hk⟩:=dh hx;have km:k∈ps.map (·.1):=hperm.mem_iff.mp<|LZ hk;obtain⟨hlk,hsg⟩:=hok.look (k:=k) (by rw[o3];exact km);rw[yz]at hlk;obtain⟨r,hr1,hr2⟩:=NW.mp hlk;have ahr:r=0\/r=1:=by
    unfold iV at hr1;obtain⟨y,hy1,hy2⟩:=NW.mp hr1;rw[<-hy2];exact h01 y<|Tb hy1
   have V3:i < ks.length:=(LS.mp hk).1;have hyl:ys.length<=60:=by
    rw[T8,J',ME];lia
   have nd:d≠D:=ak hd3 hD;refine bS ⟨_,rfl,_,rfl,(by show 2<=sizeLine;decide),λe he=>?_⟩;have hd5:upd H4 e (.lst [.int 1,.int (-1)]) d=A' (.dK<|dP ps):=by rw[al<|ak (h2 _ _ nd hd3) he];exact h2 _ _ nd hd3
   have hv:DGet (upd H4 e<|.lst [.int 1,.int (-1)]) d (.int k) (A'<|.int r):=by
    have z:=DGet.k (k:=M5 k) hd5;rw[Hf,hr1]at z;exact z
   refine⟨_,rfl,_,rfl,d,_,rfl,hv,.inl ⟨e,_,r,_,rfl,rfl,SqL.of ad,Hz ahr,_,_,rfl,rfl,.inr ⟨?_,?_⟩,?_,aW (by lia),⟨_,rfl⟩,?_,ad,λb o hb eb=>?_⟩⟩
   ·obtain z|z:=uX r<;>rw[z]<;>decide
   ·obtain z|z:=uX r<;>rw[z]<;>decide
   ·rw[al<|ak h1 he];exact h1
   ·rw[T8,MM,hk,Mq,hr2];rfl
   ·have eb4:=h2 b o hb eb;rw[al hb,al<|ak eb4 he];exact eb4
  ·rintro σ ys H4 ⟨_,T8,h1,h2⟩;rw[J',L8<|LQ _]at T8;have ac8:ys=(ks.map λk=>k*Hg (jB ps) k).map V.int:=by rw[T8,M9];rfl
   refine⟨D,ys,rfl,.inl ⟨SqL.of h1,λt ht=>?_⟩⟩;have nH:H D=none:=k3.free hD;have k4:Same H H4:=λb o e=>h2 b o (ak e nH)<|k3 b o e;refine q t _ _ (k4.upd_new (k4.free ht) _) (by rw[ad,ac8]) (hok.clause (by rw[o3];exact hperm) hpw) ?_;rw[J'];lia
theorem Eh{ns:gV Int}:(cQ (ns.map V.int) (A' 3)<|A' 15).length<=12:=by
 unfold cQ;have e1:HT.sIx (ns.map V.int).length 0 (A' 3)=min 3 (ns.map V.int).length:=HT.sIx_nat _ 0 3;have e2:HT.sIx (ns.map V.int).length (ns.map V.int).length (A' 15)=min 15 (ns.map V.int).length:=HT.sIx_nat _ _ 15;rw[e1,e2,ME,N6];lia
theorem lH(h:∀N,(∀σ' H',B D σ' H'->N σ' H')->A {D with nx:=N} σ H):ze A B D σ H:=h (λσ H=>B D σ H) λ_ _ z=>z
theorem AY:aq ["_law_script","_law_most","_law_first","_law_count","_law_turn","_law_odd","_law_clauses","_law_cell","_law_turns"] ["_law_script","_law_most"] (aj AR):=⟨rfl,rfl,rfl,by decide+kernel,rfl,by decide+kernel,by decide+kernel⟩
inductive o4 (a:LJ)(most:Int)(first:Int)(ns:gV Int)(qa:LJ)(p2:LJ)(H:Hp)(r0:Int)(i:Nat)(σ:gV (LH V))(H3:Hp):Prop
 |mk (xs:gV V)(cs:gV (gV Int))(v7:LH V)(i0:σ=[A'<|.ref a,A'<|.int most,A'<|.int first,A'<|.int (first / 2 % (most+1)),A'<|.int<|AS (eZ ns 1) 1 (decide (V.int (first % 2)=V.int 1)),A'<|.int<|eZ ns 2 / 7,A'<|.ref qa,v7,LL])(i1:H3 qa=A' (.lst xs))(i2:H3 p2=A' (.lst<|cQ (ns.map V.int) (A' 3)<|A' 15))(i3:CLs H3 cs xs)(i4:Same H H3)(i5:cs.length=i)(i6:∀c∈cs,ClOk r0 c/\c.length<=4):o4 a most first ns qa p2 H r0 i σ H3
inductive o5 (r1:Int)(H3:Hp)(D:LJ)(i:Nat)(σ:gV (LH V))(ys:gV V)(H2:Hp):Prop
 |mk (i0:(∃v0,σ=[v0,A'<|.int r1]))(i1:(∃ss:gV Str,ys=ss.map V.str/\ss.length=i/\∀s∈ss,mt s))(i2:H2=upd H3 D (.lst ys)):o5 r1 H3 D i σ ys H2
inductive kh (ns:gV Int)(D2:LJ)(H:Hp)(qa:LJ)(xs:gV V)(cs:gV (gV Int))(r0:Int)(i:Nat)(σ:gV (LH V))(ys:gV V)(H4:Hp):Prop
 |mk (i0:(∃v0,σ=[v0,A'<|.int<|eZ ns 2 / 7]))(i1:H4 D2=A' (.lst ys))(i2:Same H H4)(i3:H4 qa=A' (.lst xs))(i4:CLs H4 cs xs)(cs':gV (gV Int))(i5:cs'.length<=i)(i6:CLs H4 cs' ys)(i7:∀c∈cs',ClOk r0 c/\c.length<=4):kh ns D2 H qa xs cs r0 i σ ys H4
theorem Ei{f3:LJ}{d3:Ms}(F:Fun K "_law_sentence" "_law_sentence" AR f fd)(T:Kv mg)(QV:Fn P w K mg base 1 "_law_cell_at" f1 d1 ["_law_script","_law_k"] (uW K))(ZC:Fn P w K mg base 1 "_law_mix" f2 d2 ["_law_cell","_law_k","_law_mixed"] Fz)
  (aax:Fn P w K mg base 1 "_law_drawn" f3 d3 ["_law_number","_law_count"] wo):FnOk P w K mg base b7 2 f fd ["_law_script","_law_most"] (AU K):=by
 have sc:=AY;refine F.ok AY (λvs H Q E h=>?_) λOT A outer s H vs Q E hr h=>?_
 ·obtain⟨a,ns,most,rfl,_⟩:=h;rfl
 obtain⟨a,ns,most,rfl,hS,h63,o0,o1,q⟩:=h;have hu:=hr.units;refine⟨_,(af (au (i:=2) sc.nd rfl (MA rfl)<|aG QV hr (by lia) rfl<|aa (pv 0)<|aa ai ae)
  (af (au (i:=3) sc.nd rfl (MA rfl)<|aU dW (aU fR (pv 2) ai)<|aU g_ (pv 1) ai)
  (af (au (i:=4) sc.nd rfl (Ra rfl)<|aG ZC hr (by lia) rfl<|aa (aG QV hr (by lia) rfl<|aa (pv 0)<|aa ai ae)<|aa ai<|aa (aY (aX hu) (aU dW (pv 2) ai) ai<|aB _) ae)
  (af (au (i:=5) sc.nd rfl (Ra rfl)<|aU fR (aG QV hr (by lia) rfl<|aa (pv 0)<|aa ai ae) ai)
  (af (au (i:=6) sc.nd rfl (MA rfl)<|bY ae)
  (af (cO M_ rfl (bw<|eJ iB (pv 0) (fu ai)<|fu ai) (aE (i:=7) sc.nd rfl<|MA rfl)
   (ah<|bA<|cv ML Na Ng bW (pv 6)<|aa (aG aax hr (by lia) rfl<|aa (aG ZC hr (by lia) rfl<|aa (pv 7)<|aa (aU g_ (aw bh rfl T.len M7<|aa (pv 6) ae) ai)<|aa (aY (aX hu) (aU dW (pv 2) ai) ai<|aB _) ae)<|aa (pv 3) ae) ae))
  (af (aS (PW.pt<|lQ (ay lT (aw bh rfl T.len M7<|aa (pv 6) ae) ai<|aB _)<|jg<|ay (aX hu) (aU dW (pv 5) ai) ai<|aB _) (ah<|bA<|cv ML Na Ng bW (pv 6)<|aa (av am (pv 6) (aU dW (aU fR (pv 5) ai)<|aw bh rfl T.len M7<|aa (pv 6) ae) λ_ _=>rfl) ae) aA)
  (af (au (i:=8) sc.nd rfl (MA rfl)<|cv NF Pq Pp jp aH<|aa (bp (NY:=["_law_k","_law_turn"]) (idx:=[LL,A' 4]) rfl ⟨by with_unfolding_all rfl,(by with_unfolding_all exact⟨rfl,trivial⟩),λ_=>by rfl,by rfl,by rfl,by rfl,by decide⟩ (iA rfl T.range<|aa (pv 3) ae) (λ_ _ _ _=>(aE (i:=0) (show Nf (["_law_k","_law_turn"]:gV Str) by decide+kernel) rfl<|MA rfl)) (λ_ _ _ _=>bJ) λ_ _ _ _=>(av (lA (K:=K) rfl) aH (aU zh (aU zg (pv 1)<|pv 0) ai) λ_ _=>rfl)) ae)
  (ah<|ao<|bx<|aa (pv 8)<|aa (bp (NY:=["_law_clause","_law_odd"]) (idx:=[LL,A' 5]) rfl ⟨by with_unfolding_all rfl,(by with_unfolding_all exact⟨rfl,trivial⟩),λ_=>by rfl,by rfl,by rfl,by rfl,by decide⟩ (bw<|pv 6) (λ_ _ _ _=>(aE (i:=0) (show Nf (["_law_clause","_law_odd"]:gV Str) by decide+kernel) rfl<|MA rfl)) (λ_ _ _ _=>(fw<|PW.pt<|gf (ay lT (aw (oA (K:=K) rfl) rfl T.len M7<|aa (pv 0) ae) ai<|aB _)<|fB<|ay (aX hu) (aU dW (aU fR (pv 1) ai) ai) ai<|aB _)) λ_ _ _ _=>(pv 0)) ae))))))))),?_⟩
 exists _,rfl,a,ns,0,rfl,hS,QF 0;generalize eZ ns 0=first
 exists _,rfl,_,_,rfl,rfl,⟨by decide,by decide⟩,_,rfl,_,_,rfl,rfl,_,_,rfl,rfl,(by show(0:Int) < most+1;lia);have x0:=Ql (first / 2) (show most+1≠0 by lia);have x1:=Pm (first / 2) (show 0 < most+1 by lia);refine⟨_,rfl,a,ns,1,rfl,hS,(by decide),_,rfl,_,_,rfl,rfl,(by show(0:Int) < 2;decide),.inl ⟨rfl,_,_,_,rfl,?_⟩⟩;exists _,rfl,a,ns,2,rfl,hS,(by decide),_,_,rfl,rfl,⟨by decide,by decide⟩;refine⟨Mw _,λqa hqa=>?_⟩;have nqa:H qa=none:=hqa;have hr0:∃r0,first / 2 % (most+1)=r0:=⟨_,rfl⟩
 obtain⟨r0,hr0⟩:=hr0;rw[hr0]at x0 x1;refine⟨_,rfl,3,rfl,15,rfl,a,_,rfl,(ag hqa _).seq hS,λp2 Xc=>⟨p2,rfl,⟨_,SqL.of ad⟩,?_⟩⟩;obtain⟨ms,hms,_⟩:=zX ns (A' 3)<|A' 15;have akY:=Eh (ns:=ns);have k3:Same H (upd (upd H qa<|.lst []) p2<|.lst<|cQ (ns.map V.int) (A' 3)<|A' 15):=(ag hqa _).upd_new ((ag hqa _).free Xc) _;have hp3:upd (upd H qa<|.lst []) p2 (.lst<|cQ (ns.map V.int) (A' 3)<|A' 15) p2=A' (.lst<|cQ (ns.map V.int) (A' 3)<|A' 15):=ad;have nqp:qa≠p2:=ak ad Xc;have hq3:upd (upd H qa<|.lst []) p2 (.lst<|cQ (ns.map V.int) (A' 3)<|A' 15) qa=A' (.lst []):=by rw[al nqp];exact ad
 refine fD (K:=K) (a:=p2) (xs:=cQ (ns.map V.int) (A' 3)<|A' 15) (o4 a most first ns qa p2 H r0)
  ⟨[],[],LL,rfl,hq3,hp3,.nil,k3,rfl,λ_ z=>nomatch z⟩ ?_ ?_ ?_
 ·rintro i σ H3 _ ⟨_,_,_,_,_,g,_⟩;exact SqL.of g
 ·rintro i x σ H3 hx ⟨xs,cs,v7,rfl,g1,g2,g3,g4,g5,g6⟩;have V3:i < (cQ (ns.map V.int) (A' 3)<|A' 15).length:=(LS.mp hx).1;rw[hms]at hx;obtain⟨cz,rfl,_⟩:=dh hx;refine⟨_,rfl,.inl ⟨rfl,_,SqL.of g1⟩,_,rfl,_,rfl,.ref qa,_,rfl,.inl ⟨_,SqL.of g1,rfl⟩,_,_,rfl,rfl,_,rfl,_,_,rfl,rfl,(by show(0:Int) < 2;decide),.inl ⟨rfl,_,_,_,rfl,_,rfl,_,_,rfl,?_⟩⟩;rw[hr0];refine⟨x0,by lia,λp4 ls H4 k4 hp4 hls hl4=>?_⟩;have h4:=k4 _ _ g1;exists qa,_,_,rfl,rfl,h4,(by rw[<-g3.length,g5];exact aW<|by lia);refine⟨xs++[.ref p4],cs++[ls],_,by rw[hr0];rfl,ad,by rw[al nqp.symm];exact k4 _ _ g2,CLs.snoc (CL.upd ⟨p4,rfl,hp4⟩ h4)<|(g3.mono k4).upd h4,λb o e=>?_,by rw[LX,g5];rfl,λc hc=>?_⟩
  ·rw[al<|ak e nqa];exact k4 _ _<|g4 _ _ e
  ·obtain z|z:=Mt.mp hc
   ·exact g6 c z
   ·rw[LN.mp z];exact⟨hls,hl4⟩
 rintro σ H3 ⟨xs,cs,v7,rfl,g1,g2,g3,g4,g5,g6⟩;have afM:cs.length<=12:=by lia
 clear g2 hp3 hq3 k3;dsimp only;refine lH λN hN=>?_;have key:∀xs cs H3,H3 qa=A' (.lst xs)->CLs H3 cs xs->Same H H3->cs.length<=13->(∀c∈cs,ClOk r0 c/\c.length<=4)->
   N [A'<|.ref a,A'<|.int most,A'<|.int first,A'<|.int (first / 2 % (most+1)),A'<|.int<|AS (eZ ns 1) 1 (decide (V.int (first % 2)=V.int 1)),A'<|.int<|eZ ns 2 / 7,A'<|.ref qa,v7,LL] H3:=by
  clear g1 g3 g4 g5 g6 afM;intro xs cs H3 g1 g3 g4 g5 g6;refine hN _ _ ?_;generalize AS (eZ ns 1) 1 (decide (V.int (first % 2)=V.int 1))=r1;refine⟨rfl,_,rfl,first / 2 % (most+1),rfl,(by lia),(by lia),λD hD=>?_⟩;refine mh (lo:=0) (n:=(first / 2 % (most+1)).toNat) (o5 r1 H3 D) ⟨⟨LL,rfl⟩,⟨[],rfl,rfl,λ_ h=>nomatch h⟩,rfl⟩ ?_ ?_ ?_
  ·rintro i σ ys H2 _ ⟨_,_,rfl⟩;exact ad
  ·rintro i σ ys H2 hi ⟨⟨v0,rfl⟩,⟨ss,rfl,hss,hsg⟩,rfl⟩;have e0:P4 (r1 / 2 ^ ((0:Int)+(i:Int)).toNat) 1=r1 / 2 ^ ((0:Int)+(i:Int)).toNat % 2:=UI _;obtain⟨ch,YL,hs⟩:=Jw (j:=P4 (r1 / 2 ^ ((0:Int)+(i:Int)).toNat) 1) (by rw[e0];exact Ql _<|by decide) (by rw[e0];exact Pm _<|by decide);refine bS ⟨_,rfl,_,rfl,_,_,rfl,rfl,(by show(0:Int)<=0+(i:Int);lia),_,_,rfl,rfl,.inr<|.inr ⟨_,_,ch,rfl,rfl,(by decide+kernel),YL,ad,(by rw[J'];exact aW<|by lia),⟨_,rfl⟩,⟨ss++[⟨#[ch]⟩],by rw[Mq];rfl,by rw[LX,hss];rfl,λz hz=>?_⟩,ee⟩⟩;obtain w|w:=Mt.mp hz
   ·exact hsg z w
   ·rw[LN.mp w];exact hs
  rintro σ ys H2 ⟨_,⟨ss,rfl,hss,hsg⟩,rfl⟩;obtain⟨tl,tw⟩:=zY hsg;refine⟨_,D,ss,rfl,rfl,SqL.of ad,?_,?_⟩
  ·rw[oE hsg,show(G' "").length=0 from by decide+kernel];lia
  generalize NO (G' "") ss=t at tl tw;have kD:Same H3 (upd H3 D<|.lst<|ss.map V.str):=ag hD _;have g1':=kD _ _ g1;have g3':=g3.mono kD;have k2:=g4.trans kD;clear hD;generalize upd H3 D (.lst<|ss.map V.str)=H2 at k2 g1' g3';have agJ:(t.length:Int)=r0:=by lia
  refine⟨_,rfl,_,rfl,qa,rfl,⟨_,SqL.of g1'⟩,λD2 hD2=>?_⟩;have nD2:H D2=none:=k2.free hD2;have nq:qa≠D2:=ak g1' hD2;refine bO (K:=K) (a:=qa) (xs:=xs) (kh ns D2 H qa xs cs r0)
   ⟨⟨LL,rfl⟩,ad,k2.upd_new nD2 _,by rw[al nq];exact g1',g3'.mono<|ag hD2 _,[],Mw _,.nil,λ_ h=>nomatch h⟩ ?_ ?_ ?_
  ·rintro i σ ys H4 _ ⟨_,h1,_,h2,_⟩;exact⟨h1,SqL.of h2⟩
  ·rintro i x σ ys H4 hx ⟨⟨v0,rfl⟩,j1,j2,j3,j4,cs',j5,j6,j7⟩;have V3:i < xs.length:=(LS.mp hx).1;have V4:=g3.length;obtain⟨c,hc,tc,rfl,T7⟩:=j4.get hx;have Wx:c∈cs:=LZ hc;have sz:ys.length < sizeLine:=by rw[<-j6.length];exact aW (by lia)
   have nqD:qa≠D2:=nq;have kp:∀v0,kh ns D2 H qa xs cs r0 (i+1) [A' v0,A'<|.int<|eZ ns 2 / 7] (ys++[.ref tc]) (upd H4 D2<|.lst<|ys++[.ref tc]):=by
    intro v0;refine⟨⟨_,rfl⟩,ad,j2.upd_new nD2 _,by rw[al nqD];exact j3,j4.upd j1,cs'++[c],by rw[LX];exact P7 j5,CLs.snoc (CL.upd ⟨tc,rfl,T7⟩ j1)<|j6.upd j1,λz hz=>?_⟩;obtain y|y:=Mt.mp hz
    ·exact j7 z y
    ·rw[LN.mp y];exact g6 c Wx
   refine⟨_,rfl,.ref tc,_,rfl,.inr ⟨_,SqT.of T7,rfl⟩,_,_,rfl,rfl,_,rfl,jS (λ_=>aJ ⟨_,rfl,j1,sz,kp _⟩) λ_=>?_⟩;refine⟨_,rfl,_,_,rfl,rfl,⟨by decide,by decide⟩,_,_,rfl,rfl,(by show(0:Int) < 8;decide),.inl ⟨rfl,_,rfl,jS (λ_=>⟨_,rfl,j1,sz,kp _⟩) λ_=>?_⟩⟩;exact⟨⟨_,rfl⟩,j1,j2,j3,j4,cs',by lia,j6,j7⟩
  ·rintro σ ys H4 ⟨_,j1,j2,j3,j4,cs',j5,j6,j7⟩;refine⟨(by show 2<=sizeLine;decide),λp5 hp5=>?_⟩;have k5:Same H4 (upd H4 p5<|.tup [.str t,.ref D2]):=ag hp5 _;have V4:=g3.length;refine q p5 t cs' _ (j2.trans k5) (jq ad (k5 _ _ j1)<|j6.mono k5) ⟨by lia,tw,by lia,λc hc=>?_⟩ λc hc=>(j7 c hc).2;rw[agJ];exact(j7 c hc).1
 refine⟨_,rfl,.ref qa,_,rfl,.inl ⟨_,SqL.of g1,rfl⟩,_,_,rfl,rfl,_,rfl,jS (λc1=>?_) λc1=>?_⟩
 ·have c1':(0:Int) < ((xs.length:Nat):Int):=My c1;refine⟨_,rfl,_,_,rfl,rfl,(by show(0:Int) < 6;decide),.inl ⟨rfl,_,rfl,jS (λc2=>?_) λc2=>?_⟩⟩
  ·have z0:=Ql (eZ ns 2 / 7 / 6) (show((xs.length:Nat):Int)≠0 by lia);have z1:=Pm (eZ ns 2 / 7 / 6) c1';obtain⟨x,hx,hxa⟩:=uw (xs:=xs) z0 z1;obtain⟨c,hc,tc,rfl,T7⟩:=g3.get hx;refine⟨_,rfl,.inl ⟨rfl,_,SqL.of g1⟩,_,rfl,_,rfl,_,_,rfl,rfl,⟨by decide,by decide⟩,_,rfl,.ref qa,_,rfl,.inl ⟨_,SqL.of g1,rfl⟩,_,_,rfl,rfl,c1',.inl ⟨qa,xs,_,_,rfl,rfl,SqL.of g1,hxa,?_⟩⟩;exists qa,_,_,rfl,rfl,g1,(by rw[<-g3.length];exact aW<|by lia);refine key (xs++[.ref tc]) (cs++[c]) _ ad (CLs.snoc (CL.upd ⟨tc,rfl,T7⟩ g1)<|g3.upd g1) (λb o e=>?_) (by rw[LX];exact P7 afM) λz hz=>?_
   ·rw[al<|ak e nqa];exact g4 _ _ e
   ·obtain y|y:=Mt.mp hz
    ·exact g6 z y
    ·rw[LN.mp y];exact g6 c<|LZ hc
  ·exact key xs cs H3 g1 g3 g4 (by lia) g6
 ·exact aI<|key xs cs H3 g1 g3 g4 (by lia) g6
abbrev qo:NN:=cZ 18
structure Kw (mg:Str->LH LF):Prop where
 len:mg "len"=LL
 g_WISHER:fm mg "WISHER" (.str<|G' "wisher")
 g_SPOILER:fm mg "SPOILER" (.str<|G' "spoiler")
inductive FD (vs:gV V)(H:Hp)(Q:VK):Prop
 |mk (p:LJ)(t:Str)(w:V)(i:Nat)(h0:vs=[.ref p,.int<|(i:Int)+1])(h1:H p=A' (.tup [.str t,w]))(h2:i < t.length)(h3:t.length<=900)(h4:Q (.str<|aK<|cF t i) H):FD vs H Q
def uY:Sp:=λvs H Q _=>FD vs H Q
theorem sF:aq ["sentence","variable","turns"] ["sentence","variable"] (aj qo):=⟨rfl,rfl,rfl,by decide+kernel,rfl,by decide+kernel,by decide+kernel⟩
theorem yA(F:Fun K "hand_of" "hand_of" qo f fd)(T:Kw mg):FnOk P w K mg base b7 1 f fd ["sentence","variable"] uY:=by
 have sc:=sF;refine F.ok sF (λvs H Q E h=>?_) λOT A outer s H vs Q E hr h=>?_
 ·obtain⟨p,t,w,i,rfl,_⟩:=h;rfl
 obtain⟨p,t,w,i,rfl,hp,hi,h9,q⟩:=h;have hu:=hr.units;refine⟨_,(af (au (i:=2) sc.nd rfl (MA rfl)<|av am (pv 0) ai λ_ _=>rfl)
  (af (aS (cj<|qV qT qT ai (pv 1)<|aw bh rfl T.len M7<|aa (pv 2) ae) (ah gg) aA)
  (ah<|ao<|eF (ay (aX hu) (av am (pv 2) (aU pI (pv 1) ai) λ_ _=>rfl) aH<|aB _) (aM rfl T.g_WISHER)<|aM rfl T.g_SPOILER))),?_⟩
 refine⟨_,rfl,.inr<|.inl ⟨p,_,0,.str t,rfl,rfl,SqT.of hp,rfl,?_⟩⟩;have e1:decide ((1:Int)<=(i:Int)+1)=true:=Ma (by lia);have e2:decide ((i:Int)+1<=((t.length:Nat):Int))=true:=Ma (by lia);have V3:i < t.cps.toList.length:=by
  rw[Mr];exact hi
 have YL:=LU V3;have hat:kL t.cps.toList ((i:Int)+1 - 1)=A' t.cps.toList[i]:=by
  have e:(i:Int)+1 - 1=(i:Int):=by lia
  rw[e];exact cb YL
 exists _,rfl,_,_,rfl,rfl,_,rfl;rw[e1];refine aJ ⟨_,rfl,.str t,_,rfl,⟨Nx (aW<|by lia),rfl⟩,_,_,rfl,rfl,_,rfl,?_⟩;rw[e2];refine aI ?_;refine⟨_,rfl,_,rfl,_,_,rfl,rfl,.inr<|.inr ⟨t,_,_,rfl,rfl,Nx (aW<|by lia),hat,.inl ⟨rfl,_,rfl,?_⟩⟩⟩;rw[Jy,<-z_ YL];cases g:cF t i with
 |true=>
  rw[g]at q;exact aJ q
 |false=>
  rw[g]at q;exact aI q
abbrev HC:NN:=cZ 8
abbrev HE:NN:=cZ 14
abbrev AZ:NN:=cZ 38
abbrev uZ:NN:=cZ 19
structure yB (mg:Str->LH LF):Prop where
 isinstance:mg "isinstance"=LL
 int:mg "int"=LL
 bool:mg "bool"=LL
 tuple:mg "tuple"=LL
 list:mg "list"=LL
 abs:mg "abs"=LL
 len:mg "len"=LL
 all:mg "all"=LL
 range:mg "range"=LL
 zip:mg "zip"=LL
 sorted:mg "sorted"=LL
 set:mg "set"=LL
 any:mg "any"=LL
 max:mg "max"=LL
def wq:Sp:=λvs H Q _=>∃v d,vs=[v]/\RD H d v/\Q (.bl<|pQ d&&!pR d) H
def wt:Sp:=λvs H Q _=>∃v d most,vs=[v,.int most]/\RD H d v/\Q (.bl<|ij most d) H
inductive FE (vs:gV V)(H:Hp)(Q:VK):Prop
 |mk (p:LJ)(t:Str)(w:V)(hw:Md)(h0:vs=[.ref p,.str<|aK hw])(h1:H p=A' (.tup [.str t,w]))(h2:t.length<=900)(h3:∀(l:LJ) (H':Hp),Same H H'->H' l=A' (.lst<|(du t hw).map V.int)->Q (.ref l) H'):FE vs H Q
def u4:Sp:=λvs H Q _=>FE vs H Q
def qp:Sp:=λvs H Q _=>∃b:Md,vs=[.str<|aK b]/\Q (.str<|aK (!b)) H
theorem cp(h:c9 H ds xs)(hl:ds.length=2):∃d0 d1 x0 x1,ds=[d0,d1]/\xs=[x0,x1]/\RD H d0 x0/\RD H d1 x1:=by
 match ds,hl with
 |[d0,d1],_=>
  obtain⟨x0,r0,rfl,h0,k0⟩:=ar h;obtain⟨x1,r1,rfl,h1,k1⟩:=ar k0;obtain rfl:=bV k1;exact⟨_,_,x0,x1,rfl,rfl,h0,h1⟩
inductive JQ (H:Hp)(a:LJ)(most:Int)(ds:gV Mc)(i:Nat)(σ:St)(H2:Hp):Prop
 |mk (b:Int)(l:LH V)(h0:σ=[A'<|.ref a,A'<|.int most,A'<|.int b,l])(h1:H2=H)(h2:fO most b (ds.drop i)=fO most 0 ds):JQ H a most ds i σ H2
inductive FF (H:Hp)(D p:LJ)(t:Str)(hw:Md)(i:Nat)(σ:St)(ys:gV V)(H2:Hp):Prop
 |mk (v0:LH V)(h0:σ=[v0,A' (.str (aK hw)),A' (.ref p)])(h1:ys=(((Nr i).filter λi=>cF t i == hw).map λ(i:Nat)=>V.int<|(i:Int)+1))(h2:H2=upd H D (.lst ys)):FF H D p t hw i σ ys H2
theorem JR:aq ["thing"] ["thing"] (aj HC):=⟨rfl,rfl,rfl,by decide+kernel,rfl,by decide+kernel,by decide+kernel⟩
theorem HF(F:Fun K "is_number" "is_number" HC f fd)(T:yB mg):FnOk P w K mg base b7 1 f fd ["thing"] wq:=by
 refine F.ok JR (λvs H Q E h=>?_) λOT A outer s H vs Q E hr h=>?_
 ·obtain⟨v,d,rfl,_⟩:=h;rfl
 obtain⟨v,d,rfl,hd,q⟩:=h;have nd:=fA hd;exists _,(ah<|ao<|dm (aw cx rfl T.isinstance NA<|aa (pv 0)<|aa (fQ (v:=.ty "int") rfl T.int Qq rfl) ae)<|fh<|zd<|aw cx rfl T.isinstance NA<|aa (pv 0)<|aa (fQ (v:=.ty "bool") rfl T.bool Z7 rfl) ae);exists _,rfl,v,_,"int",_,rfl,ma d v hd,DD d nd,_,rfl;cases hI:pQ d with
 |false=>
  rw[hI]at q;exact aI q
 |true=>
  rw[hI]at q;exact aJ ⟨_,rfl,v,_,"bool",_,rfl,ma d v hd,zP d nd,_,rfl,q⟩
theorem FG:aq ["thing","most","behind","literal"] ["thing","most"] (aj HE):=⟨rfl,rfl,rfl,by decide+kernel,rfl,by decide+kernel,by decide+kernel⟩
theorem HG(F:Fun K "is_set" "is_set" HE f fd)(T:yB mg)(Sy:Fn P w K mg base 1 "is_number" g gd ["thing"] wq):FnOk P w K mg base b7 2 f fd ["thing","most"] wt:=by
 have sc:=FG;refine F.ok FG (λvs H Q E h=>?_) λOT A outer s H vs Q E hr h=>?_
 ·obtain⟨v,d,most,rfl,_⟩:=h;rfl
 obtain⟨v,d,most,rfl,hd,q⟩:=h;have nd:=fA hd;refine⟨_,(af (aS (cj<|bD<|aw cx rfl T.isinstance NA<|aa (pv 0)<|aa (fQ (v:=.ty "tuple") rfl T.tuple Nm rfl) ae) (ah<|ao c_) aA)
  (af (au (i:=2) sc.nd rfl (MA rfl) ai)
  (af (cO M_ rfl (fC<|pv 0) (aE (i:=3) sc.nd rfl<|MA rfl)
   (af (aS (PW.pt<|gf (cj<|bD<|aG Sy hr (by lia) rfl<|aa (pv 3) ae)<|fB<|cj<|qV vK qT (pv 2) (aw cP rfl T.abs Np<|aa (pv 3) ae)<|pv 1) (ah<|ao c_) aA)
   (ah<|au (i:=2) sc.nd rfl (MA rfl)<|aw cP rfl T.abs Np<|aa (pv 3) ae)))
  (ah<|ao c_)))),?_⟩
 exists _,rfl,v,_,"tuple",_,rfl,ma d v hd,jV d nd,_,rfl;cases d with
 |tuple ds=>
  refine aI ?_;obtain⟨a,xs,rfl,ha,hx⟩:=ax hd;have N1:=dH hx;refine⟨_,rfl,a,rfl,⟨_,SqT.of ha⟩,pH (K:=K) (a:=a) (xs:=xs) (JQ H a most ds)
   ⟨0,LL,rfl,rfl,rfl⟩ (λi σ H2 _ hp=>by obtain⟨_,_,_,e,_⟩:=hp;rw[e];exact SqT.of ha) ?_ ?_⟩
  ·rintro i y σ H2 hi ⟨b,l,rfl,rfl,hb⟩;have V3:i < xs.length:=(LS.mp hi).1;have hy:=fU hx hi;rw[x_ Ox<|by lia]at hb;exists _,rfl,y,_,rfl,hy,_,rfl;obtain⟨z,hz⟩|hz:=pV (ds.getD i .none)
   ·rw[hz]at hy hb ⊢;obtain rfl:=aT hy;refine aI ?_;exists _,rfl,_,rfl,z,rfl,_,_,rfl,rfl,_,rfl;rw[gk]at hb;refine jS (λc1=>?_) λc1=>?_
    ·have c1':b < absI z:=My c1;exists _,rfl,_,_,rfl,rfl,_,rfl;refine jS (λc2=>?_) λc2=>?_
     ·have c2':¬absI z<=most:=λhh=>by
       have e:decide (absI z<=most)=true:=Ma hh;rw[show decide ((if z < 0 then -z else z)<=most)=LI from e]at c2;cases c2
      rw[Mi<|by lia]at hb;show Q (.bl LM) _
      rw[show ij most (.tuple ds)=fO most 0 ds from rfl,<-hb]at q;exact q
     ·have c2':absI z<=most:=Te λhh=>by
       have e:decide (absI z<=most)=false:=LW hh;rw[show decide ((if z < 0 then -z else z)<=most)=LM from e]at c2;exact c2 rfl
      rw[Ml ⟨c1',c2'⟩]at hb;exists _,rfl,z,rfl;exact⟨absI z,A'<|.int z,rfl,rfl,hb⟩
    ·have c1':¬b < absI z:=λhh=>c1<|Ma hh;rw[Mi λhh=>c1' hh.1]at hb;refine⟨_,rfl,aJ ?_⟩;show Q (.bl LM) _
     rw[show ij most (.tuple ds)=fO most 0 ds from rfl,<-hb]at q;exact q
   ·rw[pU hz];rw[rL hz]at hb;refine aJ<|aJ ?_;show Q (.bl LM) _
    rw[show ij most (.tuple ds)=fO most 0 ds from rfl,<-hb]at q;exact q
  ·rintro σ H2 ⟨b,l,rfl,rfl,hb⟩;show Q (.bl LI) _
   rw[List.drop_eq_nil_of_le<|by lia]at hb;rw[show ij most (.tuple ds)=fO most 0 ds from rfl,<-hb]at q;exact q
 |_=>exact aJ q
theorem A0:aq ["sentence","hand"] ["sentence","hand"] (aj AZ):=⟨rfl,rfl,rfl,by decide+kernel,rfl,by decide+kernel,by decide+kernel⟩
theorem Ej(F:Fun K "variables_of" "variables_of" AZ f fd)(T:yB mg)(Yc:Fn P w K mg base 1 "hand_of" f1 d1 ["sentence","variable"] uY):FnOk P w K mg base b7 2 f fd ["sentence","hand"] u4:=by
 have sc:=A0;refine F.ok A0 (λvs H Q E h=>?_) λOT A outer s H vs Q E hr h=>?_
 ·obtain⟨p,t,w,hw,rfl,_⟩:=h;rfl
 obtain⟨p,t,w,hw,rfl,hp,h9,q⟩:=h;have hu:=hr.units;refine⟨_,(ah<|ao<|bp (NY:=["variable","hand","sentence"]) (idx:=[LL,A' 1,A' 0]) rfl ⟨by with_unfolding_all rfl,(by with_unfolding_all exact⟨rfl,rfl,trivial⟩),λ_=>by rfl,by rfl,by rfl,by rfl,by decide⟩ (xG rfl T.range<|aa ai<|aa (aU g_ (aw bh rfl T.len M7<|aa (av am (pv 0) ai λ_ _=>rfl) ae) ai) ae) (λ_ _ _ _=>(aE (i:=0) (show Nf (["variable","hand","sentence"]:gV Str) by decide+kernel) rfl<|MA rfl)) (λ_ _ _ _=>(fw<|ay (aX hu) (aG Yc hr (by lia) rfl<|aa (pv 2)<|aa (pv 0) ae) (pv 1)<|aB _)) λ_ _ _ _=>(pv 0)),?_⟩;refine⟨_,rfl,.inr<|.inl ⟨p,_,0,.str t,rfl,rfl,SqT.of hp,rfl,.str t,_,rfl,⟨Nx (aW<|by lia),rfl⟩,_,_,rfl,rfl,?_⟩⟩;refine⟨_,_,rfl,⟨by decide,by decide,by lia,by lia⟩,λD hD=>?_⟩;have en:((t.length:Int)+1 - 1).toNat=t.length:=by lia
 refine mh (lo:=1) (n:=((t.length:Int)+1 - 1).toNat) (FF H D p t hw)
  ⟨LL,rfl,rfl,rfl⟩ ?_ ?_ ?_
 ·rintro i σ ys H2 _ ⟨_,_,_,rfl⟩;exact ad
 ·rintro i σ ys H2 hi ⟨v0,rfl,rfl,rfl⟩;rw[en]at hi;have Xc:=ag hD (.lst<|((Nr i).filter λi=>cF t i == hw).map λ(i:Nat)=>V.int<|(i:Int)+1) _ _ hp;have ei:(1:Int)+(i:Int)=(i:Int)+1:=by lia
  rw[ei];refine⟨_,rfl,_,rfl,p,t,w,i,rfl,Xc,hi,h9,_,rfl,.inl ⟨rfl,_,rfl,?_⟩⟩;rw[jr];by_cases g0:cF t i=hw
  ·have g:(cF t i == hw)=true:=by rw[g0];exact Xe _
   rw[Ma g0];refine aJ ⟨_,rfl,ad,?_,_,rfl,?_,ee⟩
   ·have:=N8 (λi=>cF t i == hw)<|Nr i;rw[NS]at this;rw[J'];exact aW (by lia)
   ·rw[Qk,OX,Rh (p:=λi=>cF t i == hw) g,Mq];rfl
  ·rw[LW g0];refine aI ⟨_,rfl,?_,rfl⟩;rw[Qk,OX,P9 (p:=λi=>cF t i == hw) λz=>g0<|by simpa using z];simp
 ·rintro σ ys H2 ⟨_,_,rfl,rfl⟩;refine q D _ (ag hD _) ?_;rw[ad,en];unfold du;rw[M9];rfl
theorem Ek:aq ["hand"] ["hand"] (aj uZ):=⟨rfl,rfl,rfl,by decide+kernel,rfl,by decide+kernel,by decide+kernel⟩
theorem A1(F:Fun K "other_hand" "other_hand" uZ f fd)(T:Kw mg):FnOk P w K mg base b7 1 f fd ["hand"] qp:=by
 refine F.ok Ek (λvs H Q E h=>?_) λOT A outer s H vs Q E hr h=>?_
 ·obtain⟨b,rfl,_⟩:=h;rfl
 obtain⟨b,rfl,q⟩:=h;have hu:=hr.units;exists _,(ah<|ao<|eF (ay (aX hu) (pv 0) (aM rfl T.g_WISHER)<|aB _) (aM rfl T.g_SPOILER)<|aM rfl T.g_WISHER);refine⟨_,rfl,.inl ⟨rfl,_,rfl,?_⟩⟩;have e:decide (V.str (aK b)=V.str (G' "wisher"))=b:=by
  have z:=jr b LI;have z2:aK LI=G' "wisher":=rfl;rw[z2]at z;rw[z];cases b<;>rfl
 rw[e];cases b with
 |true=>exact aJ q
 |false=>exact aI q
abbrev A2:NN:=cZ 39
abbrev qq:NN:=cZ 40
abbrev mW:NN:=cZ 41
def sG(H:Hp)(p:LJ)(c:gV Int):Prop:=H p=A' (.tup<|c.map V.int)
inductive FH (vs:gV V)(H:Hp)(Q:VK):Prop
 |mk (p q:LJ)(f s:gV Int)(v:Int)(h0:vs=[.ref p,.ref q,.int v])(h1:sG H p f)(h2:sG H q s)(h3:f.length<=60)(h4:s.length<=60)(h5:∀H',Same H H'->Q (.bl<|dz f s v) H'):FH vs H Q
def A3:Sp:=λvs H Q _=>FH vs H Q
inductive wu (vs:gV V)(H:Hp)(Q:VK):Prop
 |mk (p q:LJ)(f s:gV Int)(v:Int)(h0:vs=[.ref p,.ref q,.int v])(h1:sG H p f)(h2:sG H q s)(h3:f.length+s.length<=60)(h4:Ups f)(h5:Ups s)(h6:dz f s v=LM)(h7:∀(l:LJ) (r:gV Int) (H':Hp),Same H H'->Joins f s v r->sG H' l r->Q (.ref l) H'):wu vs H Q
def jC:Sp:=λvs H Q _=>wu vs H Q
inductive sI (vs:gV V)(H:Hp)(Q:VK):Prop
 |mk (p q:LJ)(t:Str)(w:V)(hw:Md)(c:gV Int)(h0:vs=[.ref p,.str<|aK hw,.ref q])(h1:H p=A' (.tup [.str t,w]))(h2:t.length<=900)(h3:sG H q c)(h4:c.length<=60)(h5:(∀l∈c,1<=absI l/\absI l<=(t.length:Int)))(h6:∀(l:LJ) (H':Hp),Same H H'->sG H' l (aR t hw c)->Q (.ref l) H'):sI vs H Q
def iL:Sp:=λvs H Q _=>sI vs H Q
theorem bX(c:gV Int):(c.map V.int).all jj=true:=by
 rw[Qh];exact Mu.mpr λ_ _=>rfl
theorem El{α:Type}(l:gV α)(f:α->Md):((l.map λx=>V.bl<|f x).all uy)=LI/\(l.map λx=>V.bl<|f x).any iR=l.any f:=by
 refine⟨by rw[Qh];exact Mu.mpr λ_ _=>rfl,?_⟩;rw[Qg];exact fE λ_ _=>rfl
theorem sJ(c:gV Int)(p:Int->Md)(f:Int->V):((c.map V.int).filter<|zZ p).map (Ks f)=(c.filter p).map f:=by
 induction c with
 |nil=>rfl
 |cons x r ih=>
  rw[MH];by_cases h:p x=LI
  ·rw[Rh (p:=zZ p) (a:=V.int x) h,Rh (p:=p) h,MH,MH,ih];rfl
  ·rw[P9 (p:=zZ p) (a:=V.int x) h,P9 (p:=p) h,ih]
theorem Em{K:K'}{H:Hp}{p:LJ}{ns:gV Int}{Q:VK}(h:SqL K H p (ns.map V.int))(h0:∀a∈ns,0<=a)(q:Q (.int<|ns.foldl max 0) H):Aq K (.ref p) (.int 0) H Q:=
 ⟨p,ns,rfl,h,λe=>by rw[e]at q;exact q,λM m1 m2=>by rw[Hr h0 (.inl m1) m2<|h0 M m1]at q;exact q⟩
theorem En(l:Int):0<=absI l:=by
 obtain⟨_,e⟩|⟨_,e⟩:=b8 l<;>lia
theorem A4:aq ["first","second","variable"] ["first","second","variable"] (aj A2):=⟨rfl,rfl,rfl,by decide+kernel,rfl,by decide+kernel,by decide+kernel⟩
theorem Eo(F:Fun K "stands_both_ways" "stands_both_ways" A2 f fd)(T:yB mg):FnOk P w K mg base b7 1 f fd ["first","second","variable"] A3:=by
 have sc:=A4;refine F.ok A4 (λvs H Q E h=>?_) λOT A outer s H vs Q E hr h=>?_
 ·obtain⟨p,q,f,s,v,rfl,_⟩:=h;rfl
 obtain⟨p,q,f,s,v,rfl,hp,hq,h9,h8,q'⟩:=h;have hu:=hr.units;refine⟨_,(ah<|ao<|aw (rn rfl) rfl T.any U6<|aa (bp (NY:=["literal","second","variable"]) (idx:=[LL,A' 1,A' 2]) rfl ⟨by with_unfolding_all rfl,(by with_unfolding_all exact⟨rfl,rfl,trivial⟩),λ_=>by rfl,by rfl,by rfl,by rfl,by decide⟩ (fC<|pv 0) (λ_ _ _ _=>(aE (i:=0) (show Nf (["literal","second","variable"]:gV Str) by decide+kernel) rfl<|MA rfl)) (λ_ _ _ _=>(fw<|ay (ic hu) (aw cP rfl T.abs Np<|aa (pv 0) ae) (pv 2)<|aB _)) λ_ _ _ _=>(aY (iY (K:=K) rfl) (fk c7<|pv 0) (pv 1)<|by with_unfolding_all rfl)) ae),?_⟩;refine⟨_,rfl,p,rfl,⟨_,SqT.of hp⟩,λD hD=>?_⟩;refine gj [A'<|.ref q,A'<|.int v] (zZ λl=>!decide (absI l=v)) (Ks λl=>.bl<|s.contains (-l)) rfl hp hD (by rw[J'];lia) ?_ ?_ ?_
 ·intro x hx H' R k r;obtain⟨z,_,rfl⟩:=fz hx;refine⟨_,rfl,z,rfl,_,rfl,.inl ⟨rfl,_,rfl,?_⟩⟩;have e:decide (V.int (absI z)=V.int v)=decide (absI z=v):=by
   by_cases h:absI z=v
   ·rw[h];simp
   ·rw[LW h,LW λe=>h<|V.int.inj e]
  have r':R (!decide (absI z=v)) H':=r;rw[<-e]at r';exact r'
 ·intro x hx _ H' R k r;obtain⟨z,_,rfl⟩:=fz hx;exists _,rfl,_,rfl,_,rfl,q,_,rfl,.inr<|SqT.of<|k _ _ hq,rfl,bX s;show R (.bl<|gY (.int (-z))<|s.map V.int) H'
  rw[cT];exact r
 ·rw[sJ];have e:=El (f.filter λl=>!decide (absI l=v)) λl=>s.contains (-l);exists D,_,rfl,SqL.of ad,e.1;rw[e.2];exact q' _<|ag hD _
theorem sK:aq ["first","second","variable","both"] ["first","second","variable"] (aj qq):=⟨rfl,rfl,rfl,by decide+kernel,rfl,by decide+kernel,by decide+kernel⟩
theorem yC(F:Fun K "joined" "joined" qq f fd)(T:yB mg):FnOk P w K mg base b7 1 f fd ["first","second","variable"] jC:=by
 have sc:=sK;refine F.ok sK (λvs H Q E h=>?_) λOT A outer s H vs Q E hr h=>?_
 ·obtain⟨p,q,f,s,v,rfl,_⟩:=h;rfl
 obtain⟨p,q,f,s,v,rfl,hp,hq,h9,hf,hs,hb,q'⟩:=h;have hu:=hr.units;refine⟨_,(af (au (i:=3) sc.nd rfl (MA rfl)<|aU pO (bg dF rfl T.list OI<|aa (pv 0) ae)<|bp (NY:=["literal","first"]) (idx:=[LL,A' 0]) rfl ⟨by with_unfolding_all rfl,(by with_unfolding_all exact⟨rfl,trivial⟩),λ_=>by rfl,by rfl,by rfl,by rfl,by decide⟩ (fC<|pv 1) (λ_ _ _ _=>(aE (i:=0) (show Nf (["literal","first"]:gV Str) by decide+kernel) rfl<|MA rfl)) (λ_ _ _ _=>(fw<|ay (nT (K:=K) rfl) (pv 0) (pv 1)<|by with_unfolding_all rfl)) λ_ _ _ _=>(pv 0))
  (ah<|ao<|bg cn rfl T.tuple Nm<|aa (mz rfl T.sorted rfl T.abs<|bp (NY:=["literal","variable"]) (idx:=[LL,A' 2]) rfl ⟨by with_unfolding_all rfl,(by with_unfolding_all exact⟨rfl,trivial⟩),λ_=>by rfl,by rfl,by rfl,by rfl,by decide⟩ (bw<|pv 3) (λ_ _ _ _=>(aE (i:=0) (show Nf (["literal","variable"]:gV Str) by decide+kernel) rfl<|MA rfl)) (λ_ _ _ _=>(fw<|ay (ic hu) (aw cP rfl T.abs Np<|aa (pv 0) ae) (pv 1)<|aB _)) λ_ _ _ _=>(pv 0)) ae)),?_⟩
 refine⟨_,rfl,p,_,rfl,.inr<|SqT.of hp,λL1 hL1=>?_⟩;have k1:=ag hL1<|.lst<|f.map V.int;have r1:upd H L1 (.lst<|f.map V.int) L1=A' (.lst<|f.map V.int):=ad;generalize upd H L1 (.lst<|f.map V.int)=H1 at k1 r1;refine⟨_,rfl,q,rfl,⟨_,SqT.of<|k1 _ _ hq⟩,λD hD=>?_⟩;refine gj [A'<|.ref p] (zZ λl=>!f.contains l) (λx=>x) rfl (k1 _ _ hq) hD (by rw[J'];lia) ?_ ?_ ?_
 ·intro x hx H' R k r;obtain⟨z,_,rfl⟩:=fz hx;exists _,rfl,_,rfl,p,_,rfl,.inr<|SqT.of<|k _ _<|k1 _ _ hp,rfl,bX f,_,rfl;show R (!gY (.int z) (f.map V.int)) H'
  rw[cT];exact r
 ·intro x hx _ H' R k r;exact⟨_,rfl,r⟩
 rw[eQ s (λl=>!f.contains l) _ λi=>rfl];have k2:=ag hD<|.lst<|(s.filter λl=>!f.contains l).map V.int;have r2:upd H1 D (.lst<|(s.filter λl=>!f.contains l).map V.int) D=A' (.lst<|(s.filter λl=>!f.contains l).map V.int):=ad;generalize upd H1 D (.lst<|(s.filter λl=>!f.contains l).map V.int)=H2 at k2 r2;have Up:=N8 (λl=>!f.contains l) s;refine⟨L1,D,_,_,rfl,rfl,k2 _ _ r1,r2,by rw[J',J',NT];lia,λL3 hL3=>?_⟩;rw[<-Mq];have k3:=ag hL3<|.lst<|(f++s.filter λl=>!f.contains l).map V.int;have r3:upd H2 L3 (.lst<|(f++s.filter λl=>!f.contains l).map V.int) L3=A' (.lst<|(f++s.filter λl=>!f.contains l).map V.int):=ad;generalize upd H2 L3 (.lst<|(f++s.filter λl=>!f.contains l).map V.int)=H3 at k3 r3;have Zz:(f++s.filter λl=>!f.contains l).length<=60:=by rw[LX];lia
 refine⟨_,rfl,L3,rfl,⟨_,SqL.of r3⟩,λD4 hD4=>?_⟩;refine i9 [A'<|.int v] (zZ λl=>!decide (absI l=v)) (λx=>x) rfl r3 hD4 (by rw[J'];lia) ?_ ?_ ?_
 ·intro x hx H' R k r;obtain⟨z,_,rfl⟩:=fz hx;refine⟨_,rfl,z,rfl,_,rfl,.inl ⟨rfl,_,rfl,?_⟩⟩;have e:decide (V.int (absI z)=V.int v)=decide (absI z=v):=by
   by_cases h:absI z=v
   ·rw[h];simp
   ·rw[LW h,LW λe=>h<|V.int.inj e]
  have r':R (!decide (absI z=v)) H':=r;rw[<-e]at r';exact r'
 ·intro x hx _ H' R k r;exact⟨_,rfl,r⟩
 rw[eQ _ (λl=>!decide (absI l=v)) _ λi=>rfl];have k4:=ag hD4<|.lst<|(fV f s v).map V.int;have r4:upd H3 D4 (.lst<|(fV f s v).map V.int) D4=A' (.lst<|(fV f s v).map V.int):=ad;have hl4:(fV f s v).length < 64:=Pl (N8 _ _) (by lia);show my _ _ (upd H3 D4<|.lst<|(fV f s v).map V.int) _
 generalize upd H3 D4 (.lst<|(fV f s v).map V.int)=H4 at k4 r4;refine⟨D4,_,rfl,SqL.of r4,hl4,λL5 r hL5 hpm ho=>?_⟩;refine⟨L5,_,rfl,.inl ⟨SqL.of ad,λL6 hL6=>?_⟩⟩;exact q' L6 r _ ((((k1.trans k2).trans k3).trans k4).trans<|(ag hL5 _).trans<|ag hL6 _) (rO hf hs hb hpm ho) ad
theorem o6:aq ["sentence","hand","literals","others","last"] ["sentence","hand","literals"] (aj mW):=⟨rfl,rfl,rfl,by decide+kernel,rfl,by decide+kernel,by decide+kernel⟩
theorem u5(F:Fun K "dropped" "dropped" mW f fd)(T:yB mg)(Va:Fn P w K mg base 1 "other_hand" f1 d1 ["hand"] qp)(TL:Fn P w K mg base 2 "variables_of" f2 d2 ["sentence","hand"] u4):
  FnOk P w K mg base b7 3 f fd ["sentence","hand","literals"] iL:=by
 have sc:=o6;refine F.ok o6 (λvs H Q E h=>?_) λOT A outer s H vs Q E hr h=>?_
 ·obtain⟨p,q,t,w,hw,c,rfl,_⟩:=h;rfl
 obtain⟨p,q,t,w,hw,c,rfl,hp,h9,hq,hc9,hrg,q'⟩:=h;have hu:=hr.units;refine⟨_,(af (au (i:=3) sc.nd rfl (Ra rfl)<|aG TL hr (by lia) rfl<|aa (pv 0)<|aa (aG Va hr (by lia) rfl<|aa (pv 1) ae) ae)
  (af (au (i:=4) sc.nd rfl (Ra rfl)<|v8 rfl rfl T.max (bp (NY:=["literal","others"]) (idx:=[LL,A' 3]) rfl ⟨by with_unfolding_all rfl,(by with_unfolding_all exact⟨rfl,trivial⟩),λ_=>by rfl,by rfl,by rfl,by rfl,by decide⟩ (fC<|pv 2) (λ_ _ _ _=>(aE (i:=0) (show Nf (["literal","others"]:gV Str) by decide+kernel) rfl<|MA rfl)) (λ_ _ _ _=>(fw<|ay (iY (K:=K) rfl) (aw cP rfl T.abs Np<|aa (pv 0) ae) (pv 1)<|by with_unfolding_all rfl)) λ_ _ _ _=>(aw cP rfl T.abs Np<|aa (pv 0) ae)) ai)
  (ah<|ao<|bg cn rfl T.tuple Nm<|aa (bp (NY:=["literal","last"]) (idx:=[LL,A' 4]) rfl ⟨by with_unfolding_all rfl,(by with_unfolding_all exact⟨rfl,trivial⟩),λ_=>by rfl,by rfl,by rfl,by rfl,by decide⟩ (fC<|pv 2) (λ_ _ _ _=>(aE (i:=0) (show Nf (["literal","last"]:gV Str) by decide+kernel) rfl<|MA rfl)) (λ_ _ _ _=>(fw<|ay qT (aw cP rfl T.abs Np<|aa (pv 0) ae) (pv 1)<|aB _)) λ_ _ _ _=>(pv 0)) ae))),?_⟩
 refine⟨_,rfl,_,rfl,hw,rfl,p,t,w,!hw,rfl,hp,h9,λl H1 k1 hl=>?_⟩;refine⟨_,rfl,q,rfl,⟨_,SqT.of<|k1 _ _ hq⟩,λD hD=>?_⟩;refine gj [A'<|.ref l] (zZ λz=>(du t (!hw)).contains<|absI z) (Ks λz=>.int<|absI z) rfl (k1 _ _ hq) hD (by rw[J'];lia) ?_ ?_ ?_
 ·intro x hx H' R k r;obtain⟨z,_,rfl⟩:=fz hx;exists _,rfl,z,rfl,_,rfl,l,_,rfl,.inl<|SqL.of<|k _ _ hl,rfl,bX _,_,rfl;show R (gY (.int<|absI z)<|(du t (!hw)).map V.int) H'
  rw[cT];exact r
 ·intro x hx _ H' R k r;obtain⟨z,_,rfl⟩:=fz hx;exact⟨_,rfl,z,rfl,r⟩
 have e:((c.map V.int).filter<|zZ λz=>(du t (!hw)).contains<|absI z).map (Ks λz=>.int<|absI z)=((c.filter λl=>!(cF t (absI l - 1).toNat == hw)).map absI).map V.int:=by
  rw[sJ,M9];have:(c.filter λz=>(du t (!hw)).contains<|absI z)=c.filter λl=>!(cF t (absI l - 1).toNat == hw):=Tx λz hz=>DV (hrg z hz).1 (hrg z hz).2;rw[this];rfl
 rw[e];have k2:=ag hD<|.lst<|((c.filter λl=>!(cF t (absI l - 1).toNat == hw)).map absI).map V.int;have r2:upd H1 D (.lst<|((c.filter λl=>!(cF t (absI l - 1).toNat == hw)).map absI).map V.int) D=A' (.lst<|((c.filter λl=>!(cF t (absI l - 1).toNat == hw)).map absI).map V.int):=ad;generalize upd H1 D (.lst<|((c.filter λl=>!(cF t (absI l - 1).toNat == hw)).map absI).map V.int)=H2 at k2 r2;unfold tC;refine Em (ns:=(c.filter λl=>!(cF t (absI l - 1).toNat == hw)).map absI) (SqL.of r2) (λa ha=>?_) ?_
 ·obtain⟨z,_,rfl⟩:=MF.mp ha;exact En z
 refine⟨_,rfl,q,rfl,⟨_,SqT.of<|k2 _ _<|k1 _ _ hq⟩,λD2 hD2=>?_⟩;refine gj [A'<|.int<|eV t hw c] (zZ λl=>decide (absI l<=eV t hw c)) (λx=>x) rfl (k2 _ _<|k1 _ _ hq) hD2 (by rw[J'];lia) ?_ ?_ ?_
 ·intro x hx H' R k r;obtain⟨z,_,rfl⟩:=fz hx;exact⟨_,rfl,z,rfl,_,rfl,_,_,rfl,rfl,_,rfl,r⟩
 ·intro x hx _ H' R k r;exact⟨_,rfl,r⟩
 rw[eQ c (λl=>decide (absI l<=eV t hw c)) _ λi=>rfl];refine⟨D2,_,rfl,.inl ⟨SqL.of ad,λL3 hL3=>?_⟩⟩;exact q' L3 _ (((k1.trans k2).trans<|ag hD2 _).trans<|ag hL3 _) ad
abbrev u6:NN:=cZ 9
abbrev A5:NN:=cZ 10
abbrev u7:NN:=cZ 43
abbrev u8:NN:=cZ 48
abbrev u9:NN:=cZ 47
inductive A6 (vs:gV V)(H:Hp)(Q:VK):Prop
 |mk (v:V)(d:Mc)(many:Nat)(h0:vs=[v,.int (many:Int)])(h1:RD H d v)(h2:Q (.bl (bj many d).isSome) H):A6 vs H Q
def lI:Sp:=λvs H Q _=>A6 vs H Q
inductive FI (vs:gV V)(H:Hp)(Q:VK):Prop
 |mk (v:V)(d:Mc)(w:Str)(n:Nat)(h0:vs=[v,.str w,.int (n:Int)])(h1:RD H d v)(h2:1<=n)(h3:NJ (.str w)=LI)(h4:(∀ds,d=.tuple ds->NJ (ds.getD 0 .none)=LI))(h5:Q (.bl<|bP w n d) H):FI vs H Q
def A7:Sp:=λvs H Q _=>FI vs H Q
inductive A8 (vs:gV V)(H:Hp)(Q:VK):Prop
 |mk (p q:LJ)(t:V)(v:V)(d:Mc)(xs:gV V)(cs:gV (gV Int))(h0:vs=[.ref p,v])(h1:H p=A' (.tup [t,.ref q]))(h2:H q=A' (.lst xs))(h3:CLs H cs xs)(h4:cs.length<=2000)(h5:RD H d v)(h6:∀v',RV H ((bj cs.length d).map λi=>cs.getD i []) v'->Q v' H):A8 vs H Q
def wv:Sp:=λvs H Q _=>A8 vs H Q
inductive A9 (vs:gV V)(H:Hp)(Q:VK):Prop
 |mk (p a:LJ)(t:Str)(w:V)(hw:Md)(v:V)(d:Mc)(ys:gV V)(sets:gV (gV Int))(h0:vs=[.ref p,.str<|aK hw,v,.ref a])(h1:H p=A' (.tup [.str t,w]))(h2:t.length<=30)(h3:H a=A' (.lst ys))(h4:CLs H sets ys)(h5:sets.length<=9000)(h6:(∀c∈sets,aD t.length c))(h7:RD H d v)(h8:∀v' H',Same H H'->RV H' (gS t hw sets d) v'->Q v' H'):A9 vs H Q
def ww:Sp:=λvs H Q _=>A9 vs H Q
inductive A_ (vs:gV V)(H:Hp)(Q:VK):Prop
 |mk (p a b:LJ)(t:Str)(w:V)(hw:Md)(x0 x1 x2 x3:V)(d1 d2 d3:Mc)(ys:gV V)(sets:gV (gV Int))(h0:vs=[.ref p,.str<|aK hw,.ref b,.ref a])(h1:H p=A' (.tup [.str t,w]))(h2:t.length<=30)(h3:H b=A' (.tup [x0,x1,x2,x3]))(h4:H a=A' (.lst ys))(h5:CLs H sets ys)(h6:sets.length<=9000)(h7:(∀c∈sets,aD t.length c))(h8:RD H d1 x1)(h9:RD H d2 x2)(h10:RD H d3 x3)(h11:∀v' H',Same H H'->RV H' (dI t hw sets d1 d2 d3) v'->Q v' H'):A_ vs H Q
def wy:Sp:=λvs H Q _=>A_ vs H Q
theorem wz:aq ["thing","many"] ["thing","many"] (aj u6):=⟨rfl,rfl,rfl,by decide+kernel,rfl,by decide+kernel,by decide+kernel⟩
theorem Ba(F:Fun K "is_place" "is_place" u6 f fd)(Sy:Fn P w K mg base 1 "is_number" g gd ["thing"] wq):FnOk P w K mg base b7 2 f fd ["thing","many"] lI:=by
 have sc:=wz;refine F.ok wz (λvs H Q E h=>?_) λOT A outer s H vs Q E hr h=>?_
 ·obtain⟨v,d,many,rfl,_⟩:=h;rfl
 obtain⟨v,d,many,rfl,hd,q⟩:=h;exists _,(ah<|ao<|dm (aG Sy hr (by lia) rfl<|aa (pv 0) ae)<|fh<|zj qT vK ai (pv 0)<|pv 1);exists _,rfl,v,d,rfl,hd,_,rfl;obtain⟨z,rfl⟩|hn:=pV d
 ·obtain rfl:=aT hd;refine aJ ?_;have q':Q (.bl (if 0<=z/\z < (many:Int)then A' z.toNat else LL).isSome) H:=q;exists _,rfl,_,_,rfl,rfl,_,rfl;by_cases h0:0<=z
  ·rw[Ma h0];refine aJ ⟨_,rfl,_,_,rfl,rfl,?_⟩;by_cases h1:z < (many:Int)
   ·rw[Ml ⟨h0,h1⟩]at q';show Q (.bl (decide (z < (many:Int)))) H
    rw[Ma h1];exact q'
   ·rw[Mi λc=>h1 c.2]at q';show Q (.bl (decide (z < (many:Int)))) H
    rw[LW h1];exact q'
  ·rw[Mi λc=>h0 c.1]at q';rw[LW h0];exact aI q'
 ·rw[pU hn];have e:bj many d=none:=by
   cases d with
   |int z=>exact absurd rfl<|hn z
   |_=>rfl
  rw[e]at q;exact aI q
theorem Bb:aq ["thing","word","many"] ["thing","word","many"] (aj A5):=⟨rfl,rfl,rfl,by decide+kernel,rfl,by decide+kernel,by decide+kernel⟩
theorem Er(F:Fun K "begins_with" "begins_with" A5 f fd)(T:yB mg):FnOk P w K mg base b7 1 f fd ["thing","word","many"] A7:=by
 have sc:=Bb;refine F.ok Bb (λvs H Q E h=>?_) λOT A outer s H vs Q E hr h=>?_
 ·obtain⟨v,d,wd,n,rfl,_⟩:=h;rfl
 obtain⟨v,d,wd,n,rfl,hd,h1,hws,hsh,q⟩:=h;have hu:=hr.units;have nd:=fA hd;exists _,(ah<|ao<|dm (aw cx rfl T.isinstance NA<|aa (pv 0)<|aa (fQ (v:=.ty "tuple") rfl T.tuple Nm rfl) ae)<|dm (aY (aX hu) (aw bh rfl T.len M7<|aa (pv 0) ae) (pv 2)<|aB _)<|fh<|aY (aX hu) (av am (pv 0) ai λ_ _=>rfl) (pv 1)<|aB _);exists _,rfl,v,_,"tuple",_,rfl,ma d v hd,jV d nd,_,rfl;cases d with
 |tuple ds=>
  obtain⟨a,xs,rfl,ha,hx⟩:=ax hd;have N1:=dH hx;refine aJ ⟨_,rfl,.ref a,_,rfl,.inr ⟨_,SqT.of ha,rfl⟩,_,rfl,.inl ⟨rfl,_,rfl,?_⟩⟩;have q':Q (.bl (decide (ds.length=n)&&rP wd (ds.getD 0 .none))) H:=q;by_cases h2:ds.length=n
  ·rw[Ma h2]at q';have e:decide (V.int ((xs.length:Nat):Int)=V.int (n:Int))=true:=Ma (by rw[N1,h2]);rw[e];obtain⟨x0,hx0⟩:∃x0,xs[0]? =A' x0:=⟨_,LU (by lia)⟩;have r0:=fU hx hx0;refine aJ ⟨_,rfl,.inr (.inl ⟨a,xs,0,x0,rfl,rfl,SqT.of ha,cb hx0,_,rfl,.inr ⟨_,_,r0,dG wd,hsh ds rfl,hws,?_⟩⟩)⟩;rw[At];exact q'
  ·rw[LW h2]at q';have e:decide (V.int ((xs.length:Nat):Int)=V.int (n:Int))=false:=LW λz=>h2 (by have:=V.int.inj z;lia);rw[e];exact aI q'
 |_=>exact aI q
theorem wA:aq ["sentence","place"] ["sentence","place"] (aj u7):=⟨rfl,rfl,rfl,by decide+kernel,rfl,by decide+kernel,by decide+kernel⟩
theorem Bc(F:Fun K "given_set" "given_set" u7 f fd)(T:yB mg)(Sv:Fn P w K mg base 2 "is_place" g gd ["thing","many"] lI):FnOk P w K mg base b7 3 f fd ["sentence","place"] wv:=by
 have sc:=wA;refine F.ok wA (λvs H Q E h=>?_) λOT A outer s H vs Q E hr h=>?_
 ·obtain⟨p,q,t,v,d,xs,cs,rfl,_⟩:=h;rfl
 obtain⟨p,q,t,v,d,xs,cs,rfl,hp,hq,Qx,h9,hd,q'⟩:=h;have N1:=Qx.length;refine⟨_,(af (aS (cj<|bD<|aG Sv hr (by lia) rfl<|aa (pv 1)<|aa (aw bh rfl T.len M7<|aa (av am (pv 0) ai λ_ _=>rfl) ae) ae) (ah<|ao cK) aA)
  (ah<|ao<|av am (av am (pv 0) ai λ_ _=>rfl) (pv 1) λ_ _=>rfl)),?_⟩
 refine⟨_,rfl,_,rfl,.inr<|.inl ⟨p,_,1,.ref q,rfl,rfl,SqT.of hp,rfl,.ref q,_,rfl,.inl ⟨_,SqL.of hq,rfl⟩,v,d,xs.length,rfl,hd,_,rfl,?_⟩⟩;rw[<-N1];cases g:bj cs.length d with
 |none=>
  rw[g]at q';exact aJ<|q' _ rfl
 |some i=>
  rw[g]at q';obtain⟨hi,rfl⟩:=b9 g;obtain rfl:=aT hd;obtain⟨x,hx⟩:∃x,xs[i]? =A' x:=⟨_,LU (by lia)⟩;obtain⟨c,hc,V4⟩:=Qx.get hx;have e:cs.getD i []=c:=by rw[LK,hc];rfl
  refine aI ⟨_,rfl,.inr<|.inl ⟨p,_,1,.ref q,rfl,rfl,SqT.of hp,rfl,_,rfl,.inl ⟨q,_,_,x,rfl,rfl,SqL.of hq,cb hx,q' _ ?_⟩⟩⟩;show CL H (cs.getD i []) x
  rw[e];exact V4
theorem wB:aq ["sentence","hand","place","ahead"] ["sentence","hand","place","ahead"] (aj u8):=⟨rfl,rfl,rfl,by decide+kernel,rfl,by decide+kernel,by decide+kernel⟩
theorem Bd(F:Fun K "drop_set" "drop_set" u8 f fd)(T:yB mg)(Sv:Fn P w K mg base 2 "is_place" g gd ["thing","many"] lI)(Vb:Fn P w K mg base 3 "dropped" g2 gd2 ["sentence","hand","literals"] iL):FnOk P w K mg base b7 4 f fd ["sentence","hand","place","ahead"] ww:=by
 have sc:=wB;refine F.ok wB (λvs H Q E h=>?_) λOT A outer s H vs Q E hr h=>?_
 ·obtain⟨p,a,t,w,hw,v,d,ys,sets,rfl,_⟩:=h;rfl
 obtain⟨p,a,t,w,hw,v,d,ys,sets,rfl,hp,h9,ha,hs,h8,hok,hd,q'⟩:=h;have N1:=hs.length;refine⟨_,(af (aS (cj<|bD<|aG Sv hr (by lia) rfl<|aa (pv 2)<|aa (aw bh rfl T.len M7<|aa (pv 3) ae) ae) (ah<|ao cK) aA)
  (ah<|ao<|aG Vb hr (by lia) rfl<|aa (pv 0)<|aa (pv 1)<|aa (av am (pv 3) (pv 2) λ_ _=>rfl) ae)),?_⟩
 exists _,rfl,_,rfl,.ref a,_,rfl,.inl ⟨_,SqL.of ha,rfl⟩,v,d,ys.length,rfl,hd,_,rfl;rw[<-N1];unfold gS at q';cases g:bj sets.length d with
 |none=>
  rw[g]at q';exact aJ<|q' _ _ (Same.refl _) rfl
 |some i=>
  rw[g]at q';obtain⟨hi,rfl⟩:=b9 g;obtain rfl:=aT hd;obtain⟨x,hx⟩:∃x,ys[i]? =A' x:=⟨_,LU (by lia)⟩;obtain⟨c,hc,l,rfl,hl⟩:=hs.get hx;have e:sets.getD i []=c:=by rw[LK,hc];rfl
  have hck:=hok c<|LZ hc;have V4:=bQ hck;refine aI ⟨_,rfl,_,rfl,_,rfl,_,rfl,.inl ⟨a,_,_,.ref l,rfl,rfl,SqL.of ha,cb hx,p,l,t,w,hw,c,rfl,hp,by lia,hl,by lia,hck.2,λl2 H2 k2 h2=>q' _ _ k2 ?_⟩⟩;show CL H2 (aR t hw<|sets.getD i []) _
  rw[e];exact⟨l2,rfl,h2⟩
theorem Es(h:bj sets.length d1=LL):dI t hw sets d1 d2 d3=none:=by
 unfold dI;rw[h]
theorem Et(h:bj sets.length d2=LL):dI t hw sets d1 d2 d3=none:=by
 unfold dI;rw[h];cases bj sets.length d1<;>rfl
theorem Eu(h:∀z,d3≠.int z):dI t hw sets d1 d2 d3=none:=by
 unfold dI
 split
 ·rename_i z _ _;exact absurd rfl<|h z
 ·rfl
theorem Ev{t:Str}{hw:Md}{z:Int}(h1:bj sets.length d1=A' i)(h2:bj sets.length d2=A' j):
  dI t hw sets d1 d2 (.int z)=if dR t hw (sets.getD i []) (sets.getD j []) z=LI then A' (bK (sets.getD i []) (sets.getD j []) z)else none:=by
 unfold dI;rw[h1,h2]
theorem wC:aq ["sentence","hand","line","ahead","variable","first","second"] ["sentence","hand","line","ahead"] (aj u9):=⟨rfl,rfl,rfl,by decide+kernel,rfl,by decide+kernel,by decide+kernel⟩
theorem Be{g3 g4 g5 g6:LJ}{e3 e4 e5 e6:Ms}(F:Fun K "join_set" "join_set" u9 f fd)(T:yB mg)(Sy:Fn P w K mg base 1 "is_number" g1 e1 ["thing"] wq)(Sv:Fn P w K mg base 2 "is_place" g2 e2 ["thing","many"] lI)
  (Va:Fn P w K mg base 1 "other_hand" g3 e3 ["hand"] qp) (TL:Fn P w K mg base 2 "variables_of" g4 e4 ["sentence","hand"] u4) (WA:Fn P w K mg base 1 "stands_both_ways" g5 e5 ["first","second","variable"] A3) (ZU:Fn P w K mg base 1 "joined" g6 e6 ["first","second","variable"] jC):
  FnOk P w K mg base b7 3 f fd ["sentence","hand","line","ahead"] wy:=by
 have sc:=wC;refine F.ok wC (λvs H Q E h=>?_) λOT A outer s H vs Q E hr h=>?_
 ·obtain⟨p,a,b,t,w,hw,x0,x1,x2,x3,d1,d2,d3,ys,sets,rfl,_⟩:=h;rfl
 obtain⟨p,a,b,t,w,hw,x0,x1,x2,x3,d1,d2,d3,ys,sets,rfl,hp,h9,hb,ha,hs,h8,hok,r1,r2,r3,q'⟩:=h;have hu:=hr.units;have N1:=hs.length;refine⟨_,(af (au (i:=4) sc.nd rfl (MA rfl)<|av am (pv 2) ai λ_ _=>rfl)
  (af (aS (PW.pt<|gf (cj<|bD<|aG Sv hr (by lia) rfl<|aa (av am (pv 2) ai λ_ _=>rfl)<|aa (aw bh rfl T.len M7<|aa (pv 3) ae) ae)<|gf (cj<|bD<|aG Sv hr (by lia) rfl<|aa (av am (pv 2) ai λ_ _=>rfl)<|aa (aw bh rfl T.len M7<|aa (pv 3) ae) ae)<|fB<|cj<|bD<|aG Sy hr (by lia) rfl<|aa (pv 4) ae) (ah<|ao cK) aA)
  (af (au (i:=5) sc.nd rfl (MA rfl)<|av am (pv 3) (av am (pv 2) ai λ_ _=>rfl) λ_ _=>rfl)
  (af (au (i:=6) sc.nd rfl (MA rfl)<|av am (pv 3) (av am (pv 2) ai λ_ _=>rfl) λ_ _=>rfl)
  (af (aS (PW.pt<|gf (ay cY (pv 4) (aG TL hr (by lia) rfl<|aa (pv 0)<|aa (aG Va hr (by lia) rfl<|aa (pv 1) ae) ae)<|by with_unfolding_all rfl)<|gf (ay cY (pv 4) (pv 5)<|by with_unfolding_all rfl)<|fB<|ay cY (fk c7<|pv 4) (pv 6)<|by with_unfolding_all rfl) (ah<|ao cK) aA)
  (af (aS (bD<|aG WA hr (by lia) rfl<|aa (pv 5)<|aa (pv 6)<|aa (pv 4) ae) (ah<|ao cK) aA)
  (ah<|ao<|aG ZU hr (by lia) rfl<|aa (pv 5)<|aa (pv 6)<|aa (pv 4) ae))))))),?_⟩
 refine⟨_,rfl,.inr<|.inl ⟨b,_,3,x3,rfl,rfl,SqT.of hb,rfl,?_⟩⟩;refine⟨_,rfl,.inr<|.inl ⟨b,_,1,x1,rfl,rfl,SqT.of hb,rfl,_,rfl,.ref a,_,rfl,.inl ⟨_,SqL.of ha,rfl⟩,x1,d1,ys.length,rfl,r1,_,rfl,?_⟩⟩;rw[<-N1];cases g1':bj sets.length d1 with
 |none=>
  rw[Es g1']at q';exact aJ<|aJ<|q' _ _ (Same.refl _) rfl
 |some i=>
 refine aI ⟨_,rfl,.inr<|.inl ⟨b,_,2,x2,rfl,rfl,SqT.of hb,rfl,_,rfl,.ref a,_,rfl,.inl ⟨_,SqL.of ha,rfl⟩,x2,d2,ys.length,rfl,r2,_,rfl,?_⟩⟩;rw[<-N1];cases g2':bj sets.length d2 with
 |none=>
  rw[Et g2']at q';exact aJ<|aJ<|q' _ _ (Same.refl _) rfl
 |some j=>
 refine aI ⟨_,rfl,x3,d3,rfl,r3,_,rfl,?_⟩;obtain⟨z,rfl⟩|hn:=pV d3
 rotate_left
 ·rw[pU hn,Eu hn]at*;exact aJ<|q' _ _ (Same.refl _) rfl
 obtain rfl:=aT r3;rw[Ev g1' g2']at q';obtain⟨hi,rfl⟩:=b9 g1';obtain⟨hj,rfl⟩:=b9 g2';obtain rfl:=aT r1;obtain rfl:=aT r2;obtain⟨y1,hy1⟩:∃x,ys[i]? =A' x:=⟨_,LU (by lia)⟩;obtain⟨y2,hy2⟩:∃x,ys[j]? =A' x:=⟨_,LU (by lia)⟩;obtain⟨fs,hf,l1,rfl,Sx⟩:=hs.get hy1;obtain⟨ss,hss,l2,rfl,Up⟩:=hs.get hy2;have ef:sets.getD i []=fs:=by rw[LK,hf];rfl
 have es:sets.getD j []=ss:=by rw[LK,hss];rfl
 rw[ef,es]at q';have of:=hok fs<|LZ hf;have os:=hok ss<|LZ hss;have cf:=bQ of;have cs:=bQ os;refine aI ?_;refine⟨_,rfl,_,rfl,.inr<|.inl ⟨b,_,1,.int (i:Int),rfl,rfl,SqT.of hb,rfl,.inl ⟨a,_,_,.ref l1,rfl,rfl,SqL.of ha,cb hy1,?_⟩⟩⟩;refine⟨_,rfl,_,rfl,.inr<|.inl ⟨b,_,2,.int (j:Int),rfl,rfl,SqT.of hb,rfl,.inl ⟨a,_,_,.ref l2,rfl,rfl,SqL.of ha,cb hy2,?_⟩⟩⟩;have q0:dR t hw fs ss z=LM->∀H',Same H H'->Q .non H':=λe H' k=>by
  rw[e]at q';exact q' _ _ k rfl
 refine⟨_,rfl,_,rfl,_,rfl,hw,rfl,p,t,w,!hw,rfl,hp,by lia,λl H1 k1 hl=>?_⟩;exists l,_,rfl,.inl<|SqL.of hl,rfl,bX _,_,rfl;show(if(!gY (.int z) ((du t (!hw)).map V.int))=LI then _ else _)
 rw[cT];cases c1:(du t (!hw)).contains z with
 |false=>exact aJ<|aJ<|q0 (by unfold dR;rw[c1];rfl) _ k1
 |true=>
 refine aI ⟨_,rfl,_,rfl,l1,_,rfl,.inr<|SqT.of<|k1 _ _ Sx,rfl,bX _,_,rfl,?_⟩;show(if(!gY (.int z) (fs.map V.int))=LI then _ else _)
 rw[cT];cases c2:fs.contains z with
 |false=>exact aJ<|aJ<|q0 (by unfold dR;rw[c1,c2];rfl) _ k1
 |true=>
 refine aI ⟨_,rfl,_,rfl,_,rfl,l2,_,rfl,.inr<|SqT.of<|k1 _ _ Up,rfl,bX _,_,rfl,?_⟩;show(if(!gY (.int (-z)) (ss.map V.int))=LI then _ else _)
 rw[cT];cases c3:ss.contains (-z)with
 |false=>exact aJ<|q0 (by unfold dR;rw[c1,c2,c3];rfl) _ k1
 |true=>
 refine aI ⟨_,rfl,_,rfl,_,rfl,l1,l2,fs,ss,z,rfl,k1 _ _ Sx,k1 _ _ Up,by lia,by lia,λH2 k2=>⟨_,rfl,?_⟩⟩;cases c4:dz fs ss z with
 |true=>exact aJ<|q0 (by unfold dR;rw[c1,c2,c3,c4];rfl) _<|k1.trans k2
 |false=>
 have ej:dR t hw fs ss z=true:=by unfold dR;rw[c1,c2,c3,c4];rfl
 rw[ej]at q';refine aI ⟨_,rfl,_,rfl,_,rfl,l1,l2,fs,ss,z,rfl,k2 _ _<|k1 _ _ Sx,k2 _ _<|k1 _ _ Up,by lia,of.1,os.1,c4,λl3 r H3 k3 hj3 h3=>q' _ _ ((k1.trans k2).trans k3) ?_⟩;rw[hj3.eq of.1 os.1 c4]at h3;exact⟨l3,rfl,h3⟩
abbrev qr:NN:=cZ 44
abbrev u_:NN:=cZ 45
abbrev vc:NN:=cZ 46
abbrev Bf:NN:=cZ 49
inductive Bg (vs:gV V)(H:Hp)(Q:VK):Prop
 |mk (l tc:LJ)(c kc:gV Int)(h0:vs=[.ref l,.ref tc])(h1:sG H l c)(h2:sG H tc kc)(h3:Q (.bl (c.any λz=>kc.contains z)) H):Bg vs H Q
def wD:Sp:=λvs H Q _=>Bg vs H Q
inductive FJ (H:Hp)(l tc:LJ)(c kc:gV Int)(i:Nat)(σ:St)(H2:Hp):Prop
 |mk (v2:LH V)(h0:σ=[A' (.ref l),A' (.ref tc),v2])(h1:H2=H)(h2:((c.take i).any λz=>kc.contains z)=LM):FJ H l tc c kc i σ H2
inductive Bh (vs:gV V)(H:Hp)(Q:VK):Prop
 |mk (l q:LJ)(c:gV Int)(xs:gV V)(cs:gV (gV Int))(h0:vs=[.ref l,.ref q])(h1:sG H l c)(h2:c.length<=60)(h3:H q=A' (.lst xs))(h4:CLs H cs xs)(h5:cs.length<=2000)(h6:∀H',Same H H'->Q (.bl<|rQ c cs) H'):Bh vs H Q
def wE:Sp:=λvs H Q _=>Bh vs H Q
inductive Bi (vs:gV V)(H:Hp)(Q:VK):Prop
 |mk (p q:LJ)(t:Str)(v:V)(d:Mc)(xs:gV V)(cs:gV (gV Int))(h0:vs=[.ref p,v])(h1:H p=A' (.tup [.str t,.ref q]))(h2:t.length<=30)(h3:H q=A' (.lst xs))(h4:CLs H cs xs)(h5:cs.length<=2000)(h6:RD H d v)(h7:∀v' H',Same H H'->RV H' (iW t.length cs d) v'->Q v' H'):Bi vs H Q
def wF:Sp:=λvs H Q _=>Bi vs H Q
def ki(d:Mc):Prop:=∀ds,d=.tuple ds->NJ (ds.getD 0 .none)=LI
inductive FK (vs:gV V)(H:Hp)(Q:VK):Prop
 |mk (p q a:LJ)(t:Str)(hw:Md)(v:V)(d:Mc)(xs ys:gV V)(cs sets:gV (gV Int))(h0:vs=[.ref p,.str<|aK hw,v,.ref a])(h1:H p=A' (.tup [.str t,.ref q]))(h2:t.length<=30)(h3:H q=A' (.lst xs))(h4:CLs H cs xs)(h5:cs.length<=2000)(h6:H a=A' (.lst ys))(h7:CLs H sets ys)(h8:sets.length<=9000)(h9:(∀c∈sets,aD t.length c))(h10:RD H d v)(h11:ki d)(h12:∀v' H',Same H H'->RV H' (aP t cs hw sets d) v'->Q v' H'):FK vs H Q
def Bj:Sp:=λvs H Q _=>FK vs H Q
theorem il(h:c9 H ds xs)(hl:ds.length=4):∃d0 d1 d2 d3 x0 x1 x2 x3,ds=[d0,d1,d2,d3]/\xs=[x0,x1,x2,x3]/\RD H d0 x0/\RD H d1 x1/\RD H d2 x2/\RD H d3 x3:=by
 match ds,hl with
 |[d0,d1,d2,d3],_=>
  obtain⟨x0,r0,rfl,h0,k0⟩:=ar h;obtain⟨x1,r1,rfl,h1,k1⟩:=ar k0;obtain⟨x2,r2,rfl,h2,k2⟩:=ar k1;obtain⟨x3,r3,rfl,h3,k3⟩:=ar k2;obtain rfl:=bV k3;exact⟨_,_,_,_,x0,x1,x2,x3,rfl,rfl,h0,h1,h2,h3⟩
theorem JS:NJ (.str aZ)=true:=Nice.shaped (ju 8<|by decide+kernel)
theorem JT:NJ (.str aO)=true:=Nice.shaped (ju 8<|by decide+kernel)
theorem JU:NJ (.str bn)=true:=Nice.shaped (ju 8<|by decide+kernel)
theorem JV:NJ (.str aN)=true:=Nice.shaped (ju 8<|by decide+kernel)
theorem Ew{α:Type}(l:gV α)(f:α->Md):((l.map λx=>V.bl<|f x).all uy)=LI/\(l.map λx=>V.bl<|f x).all iR=l.all f:=by
 refine⟨by rw[Qh];exact Mu.mpr λ_ _=>rfl,?_⟩;rw[Qh];rfl
def Bk(H:Hp)(c:gV Int)(x:V):Md:=match x with
 |.ref p=>match H p with
  |some (.tup zs)=>c.any λl=>zs.contains<|.int l
  |_=>LM
 |_=>LM
theorem Bl(zs:gV Int)(l:Int):(zs.map V.int).contains (.int l)=zs.contains l:=by
 induction zs with
 |nil=>rfl
 |cons z r ih=>
  rw[MH,Wu,Wu,ih]
  congr 1
  by_cases h:l=z
  ·rw[h];simp
  ·rw[ND.mpr h,ND.mpr λe=>h<|V.int.inj e]
theorem wG(h:CL H k x):Bk H c x=c.any λl=>k.contains l:=by
 obtain⟨p,rfl,hp⟩:=h;unfold Bk;simp only [hp];exact fE λl _=>Bl k l
theorem sM:∀{cs:gV (gV Int)} {xs:gV V},CLs H cs xs->xs.all (Bk H c)=rQ c cs
 |_,_,.nil=>rfl
 |k::cs,x::xs,.cons h t=>by
  rw[RY,wG h,sM t];rfl
theorem lJ:aq ["literals","clause","literal"] ["literals","clause"] (aj qr):=⟨rfl,rfl,rfl,by decide+kernel,rfl,by decide+kernel,by decide+kernel⟩
theorem Bm(F:Fun K "hits" "hits" qr f fd):FnOk P w K mg base b7 1 f fd ["literals","clause"] wD:=by
 have sc:=lJ;refine F.ok lJ (λvs H Q E h=>?_) λOT A outer s H vs Q E hr h=>?_
 ·obtain⟨l,tc,c,kc,rfl,_⟩:=h;rfl
 obtain⟨l,tc,c,kc,rfl,hl,T7,q⟩:=h;refine⟨_,(af (cO M_ rfl (fC<|pv 0) (aE (i:=2) sc.nd rfl<|MA rfl)
   (ah<|aS (ay cX (pv 2) (pv 1)<|by with_unfolding_all rfl) (ah<|ao c_) aA))
  (ah<|ao c_)),?_⟩
 refine⟨_,rfl,l,rfl,⟨_,SqT.of hl⟩,pH (K:=K) (a:=l) (xs:=c.map V.int) (FJ H l tc c kc) ⟨LL,rfl,rfl,rfl⟩ ?_ ?_ ?_⟩
 ·rintro i σ H2 _ ⟨_,_,rfl,_⟩;exact SqT.of hl
 ·rintro i x σ H2 hx ⟨v2,rfl,rfl,ha⟩;obtain⟨z,rfl,hz⟩:=dh hx;have e:(if LM=LI then !gY (.int z) (kc.map V.int)else gY (.int z) (kc.map V.int))=kc.contains z:=by
   rw[Mi Mb,cT]
  exists _,rfl,_,rfl,tc,_,rfl,.inr<|SqT.of T7,rfl,bX kc,_,rfl;rw[e];cases g:kc.contains z with
  |true=>
   refine aJ ?_;have e2:(c.any λz=>kc.contains z)=true:=MW.mpr ⟨z,LZ hz,g⟩;rw[e2]at q;exact q
  |false=>
   refine aI ⟨_,rfl,rfl,?_⟩;rw[MM,hz,UW,ha];show(kc.contains z || LM)=LM
   rw[g];rfl
 ·rintro σ H2 ⟨v2,rfl,rfl,ha⟩;rw[L8<|by rw[J'];exact LQ _]at ha;rw[ha]at q;exact q
theorem wH:aq ["literals","clauses"] ["literals","clauses"] (aj u_):=⟨rfl,rfl,rfl,by decide+kernel,rfl,by decide+kernel,by decide+kernel⟩
theorem Bn(F:Fun K "hits_each" "hits_each" u_ f fd)(T:yB mg)(acK:Fn P w K mg base 1 "hits" g0 gd ["literals","clause"] wD):FnOk P w K mg base b7 2 f fd ["literals","clauses"] wE:=by
 have sc:=wH;refine F.ok wH (λvs H Q E h=>?_) λOT A outer s H vs Q E hr h=>?_
 ·obtain⟨l,q,c,xs,cs,rfl,_⟩:=h;rfl
 obtain⟨l,q,c,xs,cs,rfl,hl,hc,hq,Qx,h9,q'⟩:=h;have hu:=hr.units;have N1:=Qx.length;refine⟨_,(ah<|ao<|aw (mn rfl) rfl T.all RJ<|aa (bp (NY:=["clause","literals"]) (idx:=[LL,A' 0]) rfl ⟨by with_unfolding_all rfl,(by with_unfolding_all exact⟨rfl,trivial⟩),λ_=>by rfl,by rfl,by rfl,by rfl,by decide⟩ (bw<|pv 1) (λ_ _ _ _=>(aE (i:=0) (show Nf (["clause","literals"]:gV Str) by decide+kernel) rfl<|MA rfl)) (λ_ _ _ _=>bJ) λ_ _ _ _=>(aG acK hr (by lia) rfl<|aa (pv 1)<|aa (pv 0) ae)) ae),?_⟩;refine⟨_,rfl,q,rfl,⟨_,SqL.of hq⟩,λD hD=>?_⟩;refine i9 [A'<|.ref l] (λ_=>LI) (λx=>.bl<|Bk H c x) rfl hq hD (by lia) ?_ ?_ ?_
 ·intro x hx H' R k r;exact r
 ·intro x hx _ H' R k r;obtain⟨i,hi⟩:=Qr.mp hx;obtain⟨kc,_,V4⟩:=Qx.get hi;rw[wG V4]at r;obtain⟨tc,rfl,T7⟩:=V4;exact⟨_,rfl,_,rfl,l,tc,c,kc,rfl,k _ _ hl,k _ _ T7,r⟩
 ·have e1:(xs.filter λ_=>LI)=xs:=QU.mpr λ_ _=>rfl;rw[e1];have e:=Ew xs<|Bk H c;exists D,_,rfl,SqL.of ad,e.1;rw[e.2,sM Qx];exact q' _<|ag hD _
theorem wI:aq ["sentence","literals"] ["sentence","literals"] (aj vc):=⟨rfl,rfl,rfl,by decide+kernel,rfl,by decide+kernel,by decide+kernel⟩
theorem Bo(F:Fun K "hits_set" "hits_set" vc f fd)(T:yB mg)(WB:Fn P w K mg base 2 "is_set" g1 e1 ["thing","most"] wt)(abj:Fn P w K mg base 2 "hits_each" g2 e2 ["literals","clauses"] wE):FnOk P w K mg base b7 3 f fd ["sentence","literals"] wF:=by
 have sc:=wI;refine F.ok wI (λvs H Q E h=>?_) λOT A outer s H vs Q E hr h=>?_
 ·obtain⟨p,q,t,v,d,xs,cs,rfl,_⟩:=h;rfl
 obtain⟨p,q,t,v,d,xs,cs,rfl,hp,ht,hq,Qx,h9,hd,q'⟩:=h;have hu:=hr.units;refine⟨_,(af (aS (PW.pt<|gf (cj<|bD<|aG WB hr (by lia) rfl<|aa (pv 1)<|aa (aw bh rfl T.len M7<|aa (av am (pv 0) ai λ_ _=>rfl) ae) ae)<|fB<|cj<|bD<|aG abj hr (by lia) rfl<|aa (pv 1)<|aa (av am (pv 0) ai λ_ _=>rfl) ae) (ah<|ao cK) aA)
  (ah<|ao<|pv 1)),?_⟩
 refine⟨_,rfl,_,rfl,.inr<|.inl ⟨p,_,0,.str t,rfl,rfl,SqT.of hp,rfl,.str t,_,rfl,⟨Nx (aW<|by lia),rfl⟩,v,d,_,rfl,hd,_,rfl,?_⟩⟩;unfold iW at q';cases g:ij (t.length:Int) d with
 |false=>
  rw[g]at q';exact aJ<|aJ<|q' _ _ (Same.refl _) rfl
 |true=>
 obtain⟨ed,ok⟩:=pY g;have V4:CL H (kO d) v:=CL.of (by rw[<-ed];exact hd);obtain⟨l,rfl,hl⟩:=V4;have N1:=bQ ok;refine aI ⟨_,rfl,_,rfl,.inr<|.inl ⟨p,_,1,.ref q,rfl,rfl,SqT.of hp,rfl,l,q,kO d,xs,cs,rfl,hl,by lia,hq,Qx,h9,λH1 k1=>⟨_,rfl,?_⟩⟩⟩;rw[g,Q2]at q';cases g2:rQ (kO d) cs with
 |false=>
  rw[g2]at q';exact aJ<|q' _ _ k1 rfl
 |true=>
  rw[g2]at q';exact aI ⟨_,rfl,q' _ _ k1 ⟨l,rfl,k1 _ _ hl⟩⟩
theorem Bp:aq ["sentence","hand","line","ahead"] ["sentence","hand","line","ahead"] (aj Bf):=⟨rfl,rfl,rfl,by decide+kernel,rfl,by decide+kernel,by decide+kernel⟩
theorem Ex{g3 g4 g5:LJ}{e3 e4 e5:Ms}(F:Fun K "line_set" "line_set" Bf f fd)(T:Kw mg)(Py:Fn P w K mg base 1 "begins_with" g1 e1 ["thing","word","many"] A7)(abk:Fn P w K mg base 3 "given_set" g2 e2 ["sentence","place"] wv)
  (abX:Fn P w K mg base 3 "hits_set" g3 e3 ["sentence","literals"] wF) (abU:Fn P w K mg base 3 "join_set" g4 e4 ["sentence","hand","line","ahead"] wy) (abY:Fn P w K mg base 4 "drop_set" g5 e5 ["sentence","hand","place","ahead"] ww):FnOk P w K mg base b7 5 f fd ["sentence","hand","line","ahead"] Bj:=by
 have sc:=Bp;refine F.ok Bp (λvs H Q E h=>?_) λOT A outer s H vs Q E hr h=>?_
 ·obtain⟨p,q,a,t,hw,v,d,xs,ys,cs,sets,rfl,_⟩:=h;rfl
 obtain⟨p,q,a,t,hw,v,d,xs,ys,cs,sets,rfl,hp,ht,hq,Qx,h9,ha,hs,h8,hok,hd,hsh,q'⟩:=h;have hu:=hr.units;refine⟨_,(af (aS (PW.pt<|lQ (ay (aX hu) (pv 1) (aM rfl T.g_SPOILER)<|aB _)<|jg<|bD<|aG Py hr (by lia) rfl<|aa (pv 2)<|aa aH<|aa ai ae) (ah<|ao<|aG abk hr (by lia) rfl<|aa (pv 0)<|aa (av am (pv 2) ai λ_ _=>rfl) ae) aA)
  (af (aS (PW.pt<|lQ (ay (aX hu) (pv 1) (aM rfl T.g_WISHER)<|aB _)<|jg<|bD<|aG Py hr (by lia) rfl<|aa (pv 2)<|aa aH<|aa ai ae) (ah<|ao<|aG abX hr (by lia) rfl<|aa (pv 0)<|aa (av am (pv 2) ai λ_ _=>rfl) ae) aA)
  (af (aS (bD<|aG Py hr (by lia) rfl<|aa (pv 2)<|aa aH<|aa ai ae) (ah<|ao<|aG abU hr (by lia) rfl<|aa (pv 0)<|aa (pv 1)<|aa (pv 2)<|aa (pv 3) ae) aA)
  (af (aS (bD<|aG Py hr (by lia) rfl<|aa (pv 2)<|aa aH<|aa ai ae) (ah<|ao<|aG abY hr (by lia) rfl<|aa (pv 0)<|aa (pv 1)<|aa (av am (pv 2) ai λ_ _=>rfl)<|aa (pv 3) ae) aA)
  (ah<|ao cK))))),?_⟩
 have ew:decide (V.str (aK hw)=V.str (G' "wisher"))=hw:=by
  have z:=jr hw LI;have z2:aK LI=G' "wisher":=rfl;rw[z2]at z;rw[z];cases hw<;>rfl
 have es:decide (V.str (aK hw)=V.str (G' "spoiler"))=!hw:=by
  have z:=jr hw LM;have z2:aK LM=G' "spoiler":=rfl;rw[z2]at z;rw[z];cases hw<;>rfl
 refine lH λN hN=>?_;have hN':(!hw&&bP aN 2 d)=LM->N (L2.start ["sentence","hand","line","ahead"] [.ref p,.str<|aK hw,v,.ref a]) H:=λc1=>hN _ _ (by
  refine lH λN2 hN2=>?_;have afS:(hw&&bP bn 2 d)=LM->N2 (L2.start ["sentence","hand","line","ahead"] [.ref p,.str<|aK hw,v,.ref a]) H:=λc2=>hN2 _ _ (by
   have eL:aP t cs hw sets d=if bP aZ 4 d=LI then dI t hw sets (gW d 1) (gW d 2) (gW d 3)else if bP aO 2 d=LI then gS t hw sets (gW d 1)else none:=by
    unfold aP;rw[c1,c2];rfl
   rw[eL]at q';exists _,rfl,v,d,aZ,4,rfl,hd,by decide,JS,hsh,_,rfl;cases c3:bP aZ 4 d with
   |true=>
    rw[c3,Ml rfl]at q';obtain⟨ds,rfl,hl⟩:=jy c3;obtain⟨b,zs,rfl,hb,hz⟩:=ax hd;obtain⟨d0,d1,d2,d3,x0,x1,x2,x3,rfl,rfl,r0,r1,r2,r3⟩:=il hz hl;exact aJ ⟨_,rfl,_,rfl,_,rfl,_,rfl,p,a,b,t,_,hw,x0,x1,x2,x3,d1,d2,d3,ys,sets,rfl,hp,ht,hb,ha,hs,h8,hok,r1,r2,r3,q'⟩
   |false=>
   rw[c3,Mi Mb]at q';refine aI ⟨_,rfl,v,d,aO,2,rfl,hd,by decide,JT,hsh,_,rfl,?_⟩;cases c4:bP aO 2 d with
   |true=>
    rw[c4,Ml rfl]at q';obtain⟨ds,rfl,hl⟩:=jy c4;obtain⟨b,zs,rfl,hb,hz⟩:=ax hd;obtain⟨d0,d1,x0,x1,rfl,rfl,r0,r1⟩:=cp hz hl;exact aJ ⟨_,rfl,_,rfl,_,rfl,.inr<|.inl ⟨b,_,1,x1,rfl,rfl,SqT.of hb,rfl,_,rfl,p,a,t,_,hw,x1,d1,ys,sets,rfl,hp,ht,ha,hs,h8,hok,r1,q'⟩⟩
   |false=>
    rw[c4,Mi Mb]at q';exact aI<|q' _ _ (Same.refl _) rfl)
  refine⟨_,rfl,.inl ⟨rfl,_,rfl,?_⟩⟩;dsimp only;rw[ew];cases hw with
  |false=>exact aI<|aI<|afS rfl
  |true=>
  refine aJ ⟨_,rfl,v,d,bn,2,rfl,hd,by decide,JU,hsh,_,rfl,?_⟩;cases c2:bP bn 2 d with
  |false=>exact aI<|afS c2
  |true=>
   have eL:aP t cs LI sets d=iW t.length cs (gW d 1):=by
    unfold aP;rw[c2];rfl
   rw[eL]at q';obtain⟨ds,rfl,hl⟩:=jy c2;obtain⟨b,zs,rfl,hb,hz⟩:=ax hd;obtain⟨d0,d1,x0,x1,rfl,rfl,r0,r1⟩:=cp hz hl;exact aJ ⟨_,rfl,_,rfl,.inr<|.inl ⟨b,_,1,x1,rfl,rfl,SqT.of hb,rfl,p,q,t,x1,d1,xs,cs,rfl,hp,ht,hq,Qx,h9,r1,q'⟩⟩)
 refine⟨_,rfl,.inl ⟨rfl,_,rfl,?_⟩⟩;dsimp only;rw[es];cases hw with
 |true=>exact aI<|aI<|hN' rfl
 |false=>
 refine aJ ⟨_,rfl,v,d,aN,2,rfl,hd,by decide,JV,hsh,_,rfl,?_⟩;cases c1:bP aN 2 d with
 |false=>exact aI<|hN' c1
 |true=>
  have eL:aP t cs LM sets d=gJ cs (gW d 1):=by
   unfold aP;rw[c1];rfl
  rw[eL]at q';obtain⟨ds,rfl,hl⟩:=jy c1;obtain⟨b,zs,rfl,hb,hz⟩:=ax hd;obtain⟨d0,d1,x0,x1,rfl,rfl,r0,r1⟩:=cp hz hl;exact aJ ⟨_,rfl,_,rfl,.inr<|.inl ⟨b,_,1,x1,rfl,rfl,SqT.of hb,rfl,p,q,_,x1,d1,xs,cs,rfl,hp,hq,Qx,h9,r1,λv' hv=>q' _ _ (Same.refl _) hv⟩⟩
abbrev qt:NN:=cZ 50
structure Lu (mg:Str->LH LF):Prop where
 enumerate:mg "enumerate"=LL
inductive wJ (vs:gV V)(H:Hp)(Q:VK):Prop
 |mk (p q pp la:LJ)(t:Str)(hw:Md)(xs ls:gV V)(cs:gV (gV Int))(ds:gV Mc)(out:gV (gV Int))(h0:vs=[.ref p,.ref pp])(h1:H p=A' (.tup [.str t,.ref q]))(h2:t.length<=30)(h3:H q=A' (.lst xs))(h4:CLs H cs xs)(h5:cs.length<=2000)(h6:(∀c∈cs,aD t.length c))(h7:H pp=A' (.tup [.str<|aK hw,.ref la]))(h8:H la=A' (.lst ls))(h9:c9 H ds ls)(h10:ds.length<=9000)(h11:(∀d∈ds,ki d))(h12:bL t cs hw [] ds=(out,LI))(h13:∀l ys H',Same H H'->H l=LL->H' l=A' (.lst ys)->CLs H' out ys->Q (.ref l) H'):wJ vs H Q
def jD:Sp:=λvs H Q _=>wJ vs H Q
theorem sN:aq ["sentence","paper","sets","place","line","literals"] ["sentence","paper"] (aj qt):=⟨rfl,rfl,rfl,by decide+kernel,rfl,by decide+kernel,by decide+kernel⟩
inductive mY (p:LJ)(pp:LJ)(sl:LJ)(t:Str)(cs:gV (gV Int))(hw:Md)(ds:gV Mc)(H:Hp)(i:Nat)(σ:gV (LH V))(G:Hp):Prop
 |mk (x3:LH V)(x4:LH V)(x5:LH V)(ys:gV V)(sets:gV (gV Int))(i0:σ=[A'<|.ref p,A'<|.ref pp,A'<|.ref sl,x3,x4,x5])(i1:G sl=A' (.lst ys))(i2:CLs G sets ys)(i3:bL t cs hw [] (ds.take i)=(sets,LI))(i4:Same H G):mY p pp sl t cs hw ds H i σ G
theorem yD(F:Fun K "sets_of" "sets_of" qt f fd)(T:Lu mg)(abT:Fn P w K mg base 5 "line_set" g1 e1 ["sentence","hand","line","ahead"] Bj):FnOk P w K mg base b7 6 f fd ["sentence","paper"] jD:=by
 have sc:=sN;refine F.ok sN (λvs H Q E h=>?_) λOT A outer s H vs Q E hr h=>?_
 ·obtain⟨p,q,pp,la,t,hw,xs,ls,cs,ds,out,rfl,_⟩:=h;rfl
 obtain⟨p,q,pp,la,t,hw,xs,ls,cs,ds,out,rfl,hp,ht,hq,Qx,h9,QH,hpp,Zy,Y0,h8,hsh,QG,q'⟩:=h;have hu:=hr.units;have N1:=dH Y0;refine⟨_,(af (au (i:=2) sc.nd rfl (MA rfl)<|bY ae)
  (af (cO M_ rfl (pS rfl T.enumerate<|av am (pv 1) ai λ_ _=>rfl) (pG rfl<|eI (aE (i:=3) sc.nd rfl<|MA rfl)<|eI (aE (i:=4) sc.nd rfl<|MA rfl) lu)
   (af (au (i:=5) sc.nd rfl (MA rfl)<|aG abT hr (by lia) rfl<|aa (pv 0)<|aa (av am (pv 1) ai λ_ _=>rfl)<|aa (pv 4)<|aa (pv 2) ae)
   (af (aS (ay lU (pv 5) cK<|aB _) (ah gg) aA)
   (ah<|bA<|cv ML Na Ng bW (pv 2)<|aa (pv 5) ae))))
  (ah<|ao<|pv 2))),?_⟩
 refine⟨Mw _,λsl Xb=>?_⟩;have k1:=ag Xb<|.lst [];refine⟨_,rfl,.inr<|.inl ⟨pp,_,1,.ref la,rfl,rfl,SqT.of<|k1 _ _ hpp,rfl,la,rfl,⟨_,SqL.of<|k1 _ _ Zy⟩,?_⟩⟩;refine rq (K:=K) (a:=la) (xs:=ls) (mY p pp sl t cs hw ds H)
  ⟨LL,LL,LL,[],[],rfl,ad,.nil,rfl,k1⟩ ?_ ?_ ?_
 ·rintro i σ G _ ⟨_,_,_,_,_,_,_,_,_,k⟩;exact SqL.of<|k _ _ Zy
 ·rintro i x σ G t1 hx ⟨x3,x4,x5,ys,sets,rfl,g1,g2,g3,kG⟩ ht1;have V3:i < ls.length:=(LS.mp hx).1;have rx:=fU Y0 hx;have hd:=aL (d:=Ox) (show i < ds.length by lia);generalize ds.getD i .none=d at rx hd;have hdm:d∈ds:=LZ hd;have k2:Same G (upd G t1<|.tup [.int i,x]):=ag ht1 _;have kH:=kG.trans k2;have hct:=cJ g3;rw[ME,OO]at hct;have hso:∀c∈sets,aD t.length c:=by
   have:=pZ (hw:=hw) QH (ds:=ds.take i) (sets:=[]) (λ_ h=>nomatch h);rw[g3]at this;exact this
  exists t1,_,rfl,SqT.of ad,rfl,_,_,rfl,_,_,rfl,rfl;refine⟨_,rfl,_,rfl,.inr<|.inl ⟨pp,_,0,.str<|aK hw,rfl,rfl,SqT.of<|kH _ _ hpp,rfl,_,rfl,_,rfl,p,q,sl,t,hw,x,d,xs,ys,cs,sets,rfl,kH _ _ hp,ht,kH _ _ hq,Qx.mono kH,h9,k2 _ _ g1,g2.mono k2,by lia,hso,iG kH _ _ rx,hsh d hdm,λv' H3 k3 hv=>?_⟩⟩;cases hl:aP t cs hw sets d with
  |none=>
   rw[DY g3 hd hl]at QG;cases QG
  |some c=>
   rw[hl]at hv;obtain⟨tc,rfl,T7⟩:=hv;have kH3:=kH.trans k3;have g4:=k3 _ _<|k2 _ _ g1;refine⟨_,rfl,rfl,_,rfl,aI ?_⟩;exists _,rfl,.inl ⟨rfl,_,SqL.of g4⟩,_,rfl,sl,_,_,rfl,rfl,g4,(by rw[<-g2.length];exact aW<|by lia);refine⟨_,_,_,ys++[.ref tc],sets++[c],rfl,ad,CLs.snoc (CL.upd ⟨tc,rfl,T7⟩ g4)<|(g2.mono<|k2.trans k3).upd g4,rV g3 hd hl,λb o e=>?_⟩;rw[al<|ak e Xb];exact kH3 _ _ e
 ·rintro σ G ⟨x3,x4,x5,ys,sets,rfl,g1,g2,g3,kG⟩;rw[L8 (by lia),QG]at g3;cases g3;exact⟨_,rfl,q' _ _ _ kG Xb g1 g2⟩
abbrev HH:NN:=cZ 51
def mZ(out:gV (gV Int)):Md:=match out.getLast? with
 |some c=>decide (c=[])
 |none=>LM
inductive JW (vs:gV V)(H:Hp)(Q:VK):Prop
 |mk (l:LJ)(ys:gV V)(out:gV (gV Int))(h0:vs=[.ref l])(h1:H l=A' (.lst ys))(h2:CLs H out ys)(h3:out.length<=9000)(h4:∀H',Same H H'->Q (.bl<|mZ out) H'):JW vs H Q
def Bq:Sp:=λvs H Q _=>JW vs H Q
theorem yE(ys:gV V):cQ ys (A' (-1)) LL=ys.drop (ys.length - 1):=by
 unfold cQ;have e1:HT.sIx ys.length 0 (A' (-1))=ys.length - 1:=by
  unfold HT.sIx;simp;lia
 have e2:HT.sIx ys.length ys.length LL=ys.length:=rfl;rw[e1,e2];exact L8 (by rw[N6];lia)
theorem yF(out:gV (gV Int)):out.drop (out.length - 1)=match out.getLast? with|some c=>[c]|none=>[]:=by
 obtain rfl|⟨i,c,rfl⟩:=List.eq_nil_or_concat out
 ·rfl
 ·rw[List.concat_eq_append,LX,Mz,Wo,Vy];simp
theorem CLs.drop':∀{cs:gV (gV Int)} {xs:gV V} (n:Nat),CLs H cs xs->CLs H (cs.drop n) (xs.drop n)
 |_,_,0,h=>h
 |_,_,n+1,.nil=>.nil
 |_,_,n+1,.cons _ t=>CLs.drop' n t
theorem Ey(out:gV (gV Int)):MU (.list<|(out.drop<|out.length - 1).map fN) (.list [.tuple []])=mZ out:=by
 rw[yF];unfold mZ;cases out.getLast? with
 |none=>simp [MU,Pc]
 |some c=>
  cases c with
  |nil=>simp [MU,Pc,fN]
  |cons x r=>simp [MU,Pc,fN]
theorem FL:aq ["sets"] ["sets"] (aj HH):=⟨rfl,rfl,rfl,by decide+kernel,rfl,by decide+kernel,by decide+kernel⟩
theorem HI(F:Fun K "end_empty" "end_empty" HH f fd):FnOk P w K mg base b7 1 f fd ["sets"] Bq:=by
 have sc:=FL;refine F.ok FL (λvs H Q E h=>?_) λOT A outer s H vs Q E hr h=>?_
 ·obtain⟨l,ys,out,rfl,_⟩:=h;rfl
 obtain⟨l,ys,out,rfl,hl,hs,h9,q⟩:=h;have hu:=hr.units;exists _,(ah<|ao<|aY (aX hu) (eJ iB (pv 0) (fu<|fk c7 ai) gG) (bY<|aa (bx ae) ae)<|aB _);refine⟨_,rfl,_,rfl,_,rfl,l,_,rfl,SqL.of hl,λp2 Xc=>?_⟩;have e:=yE ys;have k2:=ag Xc<|.lst<|cQ ys (A' (-1)) LL;have r2:upd H p2 (.lst<|cQ ys (A' (-1)) LL) p2=A' (.lst<|ys.drop<|ys.length - 1):=by rw[ad,e]
 generalize upd H p2 (.lst<|cQ ys (A' (-1)) LL)=H2 at k2 r2;refine⟨(by show 0<=sizeLine;decide),λet het=>?_⟩;have k3:=ag het<|.tup [];have r3:upd H2 et (.tup []) et=A' (.tup []):=ad;generalize upd H2 et (.tup [])=H3 at k3 r3;refine⟨(by show 1<=sizeLine;decide),λel hel=>?_⟩;have k4:=ag hel<|.lst [.ref et];have r4:upd H3 el (.lst [.ref et]) el=A' (.lst [.ref et]):=ad;generalize upd H3 el (.lst [.ref et])=H4 at k4 r4;have hd:CLs H4 (out.drop<|out.length - 1) (ys.drop<|ys.length - 1):=by
  rw[hs.length];exact CLs.drop' _<|hs.mono<|k2.trans<|k3.trans k4
 refine .inr ⟨.list<|(out.drop<|out.length - 1).map fN,.list [.tuple []],fT ((k3.trans k4) _ _ r2) hd.rds,fT r4<|ap (bB (k4 _ _ r3) aQ) aQ,(Nice.mono (ya<|An _)<|by decide).shaped,by decide+kernel,?_⟩;rw[Ey];exact q _<|k2.trans<|k3.trans k4
abbrev HJ:NN:=cZ 53
inductive JX (vs:gV V)(H:Hp)(Q:VK):Prop
 |mk (p q pp la:LJ)(t:Str)(hw:Md)(xs ls:gV V)(cs:gV (gV Int))(ds:gV Mc)(out:gV (gV Int))(h0:vs=[.ref p,.ref pp])(h1:H p=A' (.tup [.str t,.ref q]))(h2:t.length<=30)(h3:H q=A' (.lst xs))(h4:CLs H cs xs)(h5:cs.length<=2000)(h6:(∀c∈cs,aD t.length c))(h7:H pp=A' (.tup [.str<|aK hw,.ref la]))(h8:H la=A' (.lst ls))(h9:c9 H ds ls)(h10:ds.length<=9000)(h11:(∀d∈ds,ki d))(h12:bL t cs hw [] ds=(out,LI))(h14:mZ out=LI)(h13:∀l ys H',Same H H'->H l=LL->H' l=A' (.lst ys)->CLs H' out ys->Q (.ref l) H'):JX vs H Q
def FM:Sp:=λvs H Q _=>JX vs H Q
theorem FN:aq ["sentence","paper","sets"] ["sentence","paper"] (aj HJ):=⟨rfl,rfl,rfl,by decide+kernel,rfl,by decide+kernel,by decide+kernel⟩
theorem HK(F:Fun K "whole_sets" "whole_sets" HJ f fd)(U_:Fn P w K mg base 6 "sets_of" g1 e1 ["sentence","paper"] jD)(V6:Fn P w K mg base 1 "end_empty" g2 e2 ["sets"] Bq):FnOk P w K mg base b7 7 f fd ["sentence","paper"] FM:=by
 have sc:=FN;refine F.ok FN (λvs H Q E h=>?_) λOT A outer s H vs Q E hr h=>?_
 ·obtain⟨p,q,pp,la,t,hw,xs,ls,cs,ds,out,rfl,_⟩:=h;rfl
 obtain⟨p,q,pp,la,t,hw,xs,ls,cs,ds,out,rfl,hp,ht,hq,Qx,h9,QH,hpp,Zy,Y0,h8,hsh,QG,adg,q'⟩:=h;have hol:out.length=ds.length:=by
  have:=cJ QG;simpa using this
 refine⟨_,(af (au (i:=2) sc.nd rfl (MA rfl)<|aG U_ hr (by lia) rfl<|aa (pv 0)<|aa (pv 1) ae)
  (af (aS (cj<|bD<|aG V6 hr (by lia) rfl<|aa (pv 2) ae) (ah gg) aA)
  (ah<|ao<|pv 2))),?_⟩
 refine⟨_,rfl,_,rfl,p,q,pp,la,t,hw,xs,ls,cs,ds,out,rfl,hp,ht,hq,Qx,h9,QH,hpp,Zy,Y0,h8,hsh,QG,λl ys H1 k1 hl Sx hs1=>?_⟩;refine⟨_,rfl,l,ys,out,rfl,Sx,hs1,by lia,λH2 k2=>⟨_,rfl,?_⟩⟩;rw[adg];exact aI ⟨_,rfl,q' l ys H2 (k1.trans k2) hl (k2 _ _ Sx)<|hs1.mono k2⟩
def HL(d:Mc):Prop:=∀ds,d=.tuple ds->ds.length<=9000/\∀es,ds.getD 1 .none=.tuple es->es.length<=18
theorem o7:∀{a b:gV Int},a.Nodup->(∀x∈a,x∈b)->a.length<=b.length
 |[],_,_,_=>Mw _
 |x::a,b,h,g=>by
  obtain⟨h1,h2⟩:=NX.mp h;have hx:=g x L9;have:=o7 (b:=b.erase x) h2 λy hy=>(List.mem_erase_of_ne (show y≠x from λe=>h1<|by rw[<-e];exact hy)).mpr<|g y<|LY _ hy;rw[List.length_erase_of_mem hx]at this;have:=UO hx;rw[L4];lia
def be(d:Mc):Prop:=(∃k:Int,d=.tuple [.str aN,.int k])\/(∃c:gV Int,c.length<=18/\d=.tuple [.str bn,fN c])\/(∃k:Int,d=.tuple [.str aO,.int k])\/(∃i j z:Int,d=.tuple [.str aZ,.int i,.int j,.int z])
theorem qu(h:be d):ki d/\HL d:=by
 obtain⟨k,rfl⟩|⟨c,hc,rfl⟩|⟨k,rfl⟩|⟨i,j,z,rfl⟩:=h
 ·exact⟨λds e=>by cases e;exact JV,λds e=>by cases e;exact⟨by show 2<=9000;decide,λes e=>by cases e⟩⟩
 ·exact⟨λds e=>by cases e;exact JU,λds e=>by
   cases e;refine⟨by show 2<=9000;decide,λes e=>?_⟩;cases e;rw[J'];exact hc⟩
 ·exact⟨λds e=>by cases e;exact JT,λds e=>by cases e;exact⟨by show 2<=9000;decide,λes e=>by cases e⟩⟩
 ·exact⟨λds e=>by cases e;exact JS,λds e=>by cases e;exact⟨by show 4<=9000;decide,λes e=>by cases e⟩⟩
theorem im(h:RD H (.str x) v):RD H' (.str x) v:=by rw[bd h];exact dG x
theorem fI(h:RD H (.int x) v):RD H' (.int x) v:=by rw[aT h];exact dt x
theorem qv{H:Hp}{a q:LJ}{zs ys:gV V}(h:H a=A' (.tup zs))(hq:H q=A' (.lst ys)):a≠q:=λe=>by
 rw[e,hq]at h;cases h
theorem Br(g:be d)(h:RD H d v)(hq:H q=A' (.lst ys)):RD (upd H q o) d v:=by
 obtain⟨k,rfl⟩|⟨c,hc,rfl⟩|⟨k,rfl⟩|⟨i,j,z,rfl⟩:=g
 ·obtain⟨a,zs,rfl,ha,hz⟩:=ax h;obtain⟨d0,d1,x0,x1,e,rfl,r0,r1⟩:=cp hz rfl;cases e;exact bB (by rw[al<|qv ha hq];exact ha)<|ap (im r0)<|ap (fI r1) aQ
 ·obtain⟨a,zs,rfl,ha,hz⟩:=ax h;obtain⟨d0,d1,x0,x1,e,rfl,r0,r1⟩:=cp hz rfl;cases e;exact bB (by rw[al<|qv ha hq];exact ha)<|ap (im r0)<|ap (CL.rd<|(CL.of r1).upd hq) aQ
 ·obtain⟨a,zs,rfl,ha,hz⟩:=ax h;obtain⟨d0,d1,x0,x1,e,rfl,r0,r1⟩:=cp hz rfl;cases e;exact bB (by rw[al<|qv ha hq];exact ha)<|ap (im r0)<|ap (fI r1) aQ
 ·obtain⟨a,zs,rfl,ha,hz⟩:=ax h;obtain⟨d0,d1,d2,d3,x0,x1,x2,x3,e,rfl,r0,r1,r2,r3⟩:=il hz rfl;cases e;exact bB (by rw[al<|qv ha hq];exact ha)<|ap (im r0)<|ap (fI r1)<|ap (fI r2)<|ap (fI r3) aQ
theorem o8(hq:H q=A' (.lst ys)):∀{ds:gV Mc} {vs:gV V},(∀d∈ds,be d)->c9 H ds vs->c9 (upd H q o) ds vs
 |[],vs,_,h=>by
  rw[bV h];exact aQ
 |d::ds,vs,g,h=>by
  obtain⟨y,ys',rfl,h1,h2⟩:=ar h;exact ap (Br (g d L9) h1 hq)<|o8 hq (λe he=>g e<|LY _ he) h2
theorem m6:∀{ds:gV Mc} {vs:gV V} {ds2:gV Mc} {vs2:gV V},c9 H ds vs->c9 H ds2 vs2->c9 H (ds++ds2) (vs++vs2)
 |[],vs,ds2,vs2,h,g=>by
  rw[show vs=[]from by unfold c9 at h;exact h];exact g
 |d::ds,vs,ds2,vs2,h,g=>by
  obtain⟨y,ys,rfl,a,b⟩:=ar h;exact ap a<|m6 b g
theorem Bt(h:mZ out=LI):1<=out.length/\out[out.length - 1]? =A' []:=by
 unfold mZ at h;cases e:out.getLast? with
 |none=>rw[e]at h;cases h
 |some c=>
  rw[e]at h;have hc:c=[]:=My h;subst hc;rw[Tc]at e;exact⟨by have:=(LS.mp e).1;lia,e⟩
abbrev Bu:NN:=cZ 55
def bz:Mc->gV Int
 |.tuple [.str w,.int i,.int j,.int _]=>if w=aZ then [i,j]else []
 |.tuple [.str w,.int k]=>if w=aO then [k]else []
 |_=>[]
theorem io(k:Int):bz (.tuple [.str aN,.int k])=[]:=by
 show(if aN=aO then [k]else [])=[]
 rw[Mi<|by decide+kernel]
theorem dy(k:Int):bz (.tuple [.str aO,.int k])=[k]:=by
 show(if aO=aO then [k]else [])=[k]
 rw[Ml rfl]
theorem cU(i j z:Int):bz (.tuple [.str aZ,.int i,.int j,.int z])=[i,j]:=by
 show(if aZ=aZ then [i,j]else [])=[i,j]
 rw[Ml rfl]
inductive JY (vs:gV V)(H:Hp)(Q:VK):Prop
 |mk (v:V)(d:Mc)(h0:vs=[v])(hd:RD H d v)(hg:be d)(q:∀l H',Same H H'->H l=LL->H' l=A' (.lst<|(bz d).map V.int)->Q (.ref l) H'):JY vs H Q
def FO:Sp:=λvs H Q _=>JY vs H Q
theorem Bv:aq ["line"] ["line"] (aj Bu):=⟨rfl,rfl,rfl,by decide+kernel,rfl,by decide+kernel,by decide+kernel⟩
theorem Ez(F:Fun K "named_by" "named_by" Bu f fd):FnOk P w K mg base b7 1 f fd ["line"] FO:=by
 have sc:=Bv;refine F.ok Bv (λvs H Q E h=>?_) λOT A outer s H vs Q E hr h=>?_
 ·obtain⟨v,d,rfl,_⟩:=h;rfl
 obtain⟨v,d,rfl,hd,hg,q⟩:=h;have hu:=hr.units;refine⟨_,(af (aS (ay (aX hu) (av am (pv 0) ai λ_ _=>rfl) aH<|aB _) (ah<|ao<|bY<|aa (av am (pv 0) ai λ_ _=>rfl)<|aa (av am (pv 0) ai λ_ _=>rfl) ae) aA)
  (af (aS (ay (aX hu) (av am (pv 0) ai λ_ _=>rfl) aH<|aB _) (ah<|ao<|bY<|aa (av am (pv 0) ai λ_ _=>rfl) ae) aA)
  (ah<|ao<|bY ae))),?_⟩
 obtain⟨k,rfl⟩|⟨c,hc,rfl⟩|⟨k,rfl⟩|⟨i,j,z,rfl⟩:=hg
 ·obtain⟨a,zs,rfl,ha,hz⟩:=ax hd;obtain⟨d0,d1,x0,x1,e,rfl,r0,r1⟩:=cp hz rfl;cases e;obtain rfl:=bd r0;refine⟨_,rfl,.inr<|.inl ⟨a,_,0,.str aN,rfl,rfl,SqT.of ha,rfl,.inl ⟨rfl,_,rfl,?_⟩⟩⟩;rw[LW (show¬V.str aN=V.str (G' "join") by decide+kernel)];refine aI ⟨_,rfl,.inr<|.inl ⟨a,_,0,.str aN,rfl,rfl,SqT.of ha,rfl,.inl ⟨rfl,_,rfl,?_⟩⟩⟩;rw[LW (show¬V.str aN=V.str (G' "drop") by decide+kernel)];refine aI ⟨Mw _,λl nl=>q l _ (ag nl _) nl ?_⟩;rw[io];exact ad
 ·obtain⟨a,zs,rfl,ha,hz⟩:=ax hd;obtain⟨d0,d1,x0,x1,e,rfl,r0,r1⟩:=cp hz rfl;cases e;obtain rfl:=bd r0;refine⟨_,rfl,.inr<|.inl ⟨a,_,0,.str bn,rfl,rfl,SqT.of ha,rfl,.inl ⟨rfl,_,rfl,?_⟩⟩⟩;rw[LW (show¬V.str bn=V.str (G' "join") by decide+kernel)];refine aI ⟨_,rfl,.inr<|.inl ⟨a,_,0,.str bn,rfl,rfl,SqT.of ha,rfl,.inl ⟨rfl,_,rfl,?_⟩⟩⟩;rw[LW (show¬V.str bn=V.str (G' "drop") by decide+kernel)];exact aI ⟨Mw _,λl nl=>q l _ (ag nl _) nl ad⟩
 ·obtain⟨a,zs,rfl,ha,hz⟩:=ax hd;obtain⟨d0,d1,x0,x1,e,rfl,r0,r1⟩:=cp hz rfl;cases e;obtain rfl:=bd r0;obtain rfl:=aT r1;refine⟨_,rfl,.inr<|.inl ⟨a,_,0,.str aO,rfl,rfl,SqT.of ha,rfl,.inl ⟨rfl,_,rfl,?_⟩⟩⟩;rw[LW (show¬V.str aO=V.str (G' "join") by decide+kernel)];refine aI ⟨_,rfl,.inr<|.inl ⟨a,_,0,.str aO,rfl,rfl,SqT.of ha,rfl,.inl ⟨rfl,_,rfl,?_⟩⟩⟩;rw[Ma (show V.str aO=V.str (G' "drop")from rfl)];refine aJ ⟨_,rfl,.inr<|.inl ⟨a,_,1,.int k,rfl,rfl,SqT.of ha,rfl,(by show 1<=sizeLine;decide),λl nl=>q l _ (ag nl _) nl ?_⟩⟩;rw[dy];exact ad
 ·obtain⟨a,zs,rfl,ha,hz⟩:=ax hd;obtain⟨d0,d1,d2,d3,x0,x1,x2,x3,e,rfl,r0,r1,r2,r3⟩:=il hz rfl;cases e;obtain rfl:=bd r0;obtain rfl:=aT r1;obtain rfl:=aT r2;refine⟨_,rfl,.inr<|.inl ⟨a,_,0,.str aZ,rfl,rfl,SqT.of ha,rfl,.inl ⟨rfl,_,rfl,?_⟩⟩⟩;rw[Ma (show V.str aZ=V.str (G' "join")from rfl)];refine aJ ⟨_,rfl,.inr<|.inl ⟨a,_,1,.int i,rfl,rfl,SqT.of ha,rfl,_,rfl,.inr<|.inl ⟨a,_,2,.int j,rfl,rfl,SqT.of ha,rfl,(by show 2<=sizeLine;decide),λl nl=>q l _ (ag nl _) nl ?_⟩⟩⟩;rw[cU];exact ad
abbrev EA:NN:=cZ 57
structure JZ (mg:Str->LH LF):Prop where
 range:mg "range"=LL
 sorted:mg "sorted"=LL
def gN(O0:gV Int)(k:Int):gV Int:=if k∈O0 then O0 else O0++[k]
def bM(nm:Nat->gV Int)(last:Nat):Nat->gV Int
 |0=>[(last:Int)]
 |j+1=>if((last - j:Nat):Int)∈bM nm last j then(nm<|last - j).foldl gN (bM nm last j)else bM nm last j
theorem Bw(O0:gV Int)(k:Int):(gN O0 k).length<=O0.length+1:=by
 unfold gN
 split
 ·exact Re _
 ·rw[LX];exact LQ _
theorem kj:∀(ks O0:gV Int),(ks.foldl gN O0).length<=O0.length+ks.length
 |[],O0=>LQ _
 |k::ks,O0=>by
  have h1:=kj ks<|gN O0 k;have h2:=Bw O0 k;rw[Q8,L4];lia
theorem iM(h:∀i,(nm i).length<=2):∀j,(bM nm last j).length<=1+2*j
 |0=>LQ _
 |j+1=>by
  have ih:=iM h (last:=last) j;have:=h<|last - j;have h2:=kj (nm<|last - j)<|bM nm last j;show(if _ then _ else _:gV Int).length<=_
  split<;>lia
theorem iN(d:Mc):(bz d).length<=2:=by
 unfold bz
 split
 ·split
  ·exact LQ _
  ·exact Mw _
 ·split
  ·exact(by decide:1<=2)
  ·exact Mw _
 ·exact Mw _
def dB(O0:gV Int):gV (bo×V):=O0.map λk=>((M5 k:bo),V.bl LI)
theorem Bx:∀O0 k,(bZ (dB O0) (M5 k:bo)).isSome=decide (k∈O0):=λO0 k=>by
 unfold dB bZ
 induction O0 with
 |nil=>rfl
 |cons a O0 ih=>
  rw[MH,NZ];by_cases e:k=a
  ·subst e;simp
  ·have e1:decide ((M5 a:bo)=M5 k)=false:=LW λz=>e (Qz z).symm;simp only [e1];rw[ih,NB];simp [e]
theorem HM(O0:gV Int)(k:Int):bH (dB O0) (M5 k:bo) (V.bl LI)=dB (gN O0 k):=by
 by_cases h:k∈O0
 ·unfold gN;rw[Ml h];unfold bH;have e:((dB O0).any λkv=>decide (kv.1=(M5 k:bo)))=true:=by
   unfold dB;rw[Qg,MW];exact⟨k,h,by simp⟩
  rw[Ml e];unfold dB;rw[M9];refine QS λa _=>?_;simp only [Function.comp]
  split<;>rfl
 ·unfold gN;rw[Mi h,l4]
  ·unfold dB;rw[Mq];rfl
  ·have:=Bx O0 k;rw[LW h]at this;cases q:bZ (dB O0) (M5 k:bo)with
   |none=>rfl
   |some v=>rw[q]at this;cases this
theorem EB(O0:gV Int):(dB O0).map (·.1)=O0.map (M5:Int->bo):=by
 unfold dB;rw[M9];rfl
inductive J0 (vs:gV V)(H:Hp)(Q:VK):Prop
 |mk (la:LJ)(ls:gV V)(ds:gV Mc)(last:Nat)(h0:vs=[.ref la,.int (last:Int)])(h1:H la=A' (.lst ls))(h2:c9 H ds ls)(h3:∀d∈ds,be d)(h4:last < ds.length)(h5:ds.length<=3000)
   (q:∀l V2 H',Same H H'->H l=LL->H' l=A' (.lst<|V2.map V.int)->QO V2 (bM (λi=>bz<|ds.getD i .none) last<|last+1)->PR (·<=·) V2->Q (.ref l) H'):J0 vs H Q
def FP:Sp:=λvs H Q _=>J0 vs H Q
inductive J1 (la dn:LJ)(last:Nat)(nm:Nat->gV Int)(H:Hp)(j:Nat)(σ:St)(G:Hp):Prop
 |mk (x3 x4:LH V)(i0:σ=[A'<|.ref la,A'<|.int (last:Int),A'<|.ref dn,x3,x4])(i1:G dn=A' (.dK<|dB<|bM nm last j))(i2:Same H G):J1 la dn last nm H j σ G
inductive J2 (la dn l:LJ)(last:Nat)(x3:LH V)(O0 ks:gV Int)(H:Hp)(j:Nat)(σ:St)(G:Hp):Prop
 |mk (x4:LH V)(i0:σ=[A'<|.ref la,A'<|.int (last:Int),A'<|.ref dn,x3,x4])(i1:G dn=A' (.dK<|dB<|(ks.take j).foldl gN O0))(i2:Same H G)(i3:G l=A' (.lst<|ks.map V.int)):J2 la dn l last x3 O0 ks H j σ G
theorem vd{ks O0:gV Int}{j:Nat}{k:Int}(h:ks[j]? =A' k):(ks.take<|j+1).foldl gN O0=gN ((ks.take j).foldl gN O0) k:=by
 rw[MM,h,Qw];rfl
theorem FQ:aq ["lines","last","needed","place","ahead"] ["lines","last"] (aj EA):=⟨rfl,rfl,rfl,by decide+kernel,rfl,by decide+kernel,by decide+kernel⟩
theorem HN(F:Fun K "needed_by" "needed_by" EA f fd)(T:JZ mg)(abS:Fn P w K mg base 1 "named_by" g1 e1 ["line"] FO):FnOk P w K mg base b7 2 f fd ["lines","last"] FP:=by
 have sc:=FQ;refine F.ok FQ (λvs H Q E h=>?_) λOT A outer s H vs Q E hr h=>?_
 ·obtain⟨la,ls,ds,last,rfl,_⟩:=h;rfl
 obtain⟨la,ls,ds,last,rfl,h1,h2,h3,h4,h5,q⟩:=h;have hu:=hr.units;have UX:(A.deeper<|Nj "needed_by" (aj EA) s.heap.objs.size f OT).units+1 < PU:=by lia
 have N1:=dH h2;refine⟨_,(af (au (i:=2) sc.nd rfl (MA rfl)<|AD (pv 1) c_)
  (af (cO M_ rfl (oH rfl T.range<|aa (pv 1)<|aa (fk c7 ai)<|aa (fk c7 ai) ae) (aE (i:=3) sc.nd rfl<|MA rfl)
   (ah (aS (tY<|GI UX (pv 3)<|pv 2) (ah (cO M_ rfl (bw<|aG abS hr (by lia) rfl<|aa (av am (pv 0) (pv 3) λ_ _=>rfl) ae) (aE (i:=4) sc.nd rfl<|MA rfl)
     (ah<|ly UX (pv 2) (pv 4) c_ rfl))) aA)))
  (ah<|ao<|aw (uv rfl) rfl T.sorted R8<|aa (pv 2) ae))),?_⟩
 refine λdn ndn=>⟨_,rfl,ad,[(M5 (last:Int),.bl LI)],rfl,(by show 1<=15;decide),?_⟩;have k1:Same H (upd (upd H dn<|.dK []) dn<|.dK<|gc [] [(M5 (last:Int),.bl LI)]):=by rw[ee];exact ag ndn _
 have s1:upd (upd H dn<|.dK []) dn (.dK<|gc [] [(M5 (last:Int),.bl LI)]) dn=A' (.dK<|dB [(last:Int)]):=ad;generalize upd (upd H dn<|.dK []) dn (.dK<|gc [] [(M5 (last:Int),.bl LI)])=H1 at k1 s1 ⊢;refine⟨_,rfl,_,rfl,_,rfl,(last:Int),-1,rfl,⟨by lia,by lia,by lia,by lia⟩,mw (lo:=(last:Int)) (J1 la dn last (λi=>bz<|ds.getD i .none) H) ⟨LL,LL,rfl,s1,k1⟩ ?_ ?_⟩
 ·rintro j σ G hj ⟨x3,x4,rfl,i1,i2⟩;have hjl:j<=last:=by lia
  have ej:(last:Int) - (j:Int)=((last - j:Nat):Int):=by lia
  rw[ej];exists _,rfl,_,rfl,dn,_,rfl,DGet.k (k:=M5 ((last - j:Nat):Int)) i1;rw[Bx];by_cases hm:((last - j:Nat):Int)∈bM (λi=>bz<|ds.getD i .none) last j
  ·rw[Ma hm];have en:bM (λi=>bz<|ds.getD i .none) last (j+1)=(bz<|ds.getD (last - j) .none).foldl gN (bM (λi=>bz<|ds.getD i .none) last j):=Ml hm;obtain⟨v,hv⟩:∃v,ls[last - j]? =A' v:=⟨_,LU (by lia)⟩;have rv:=fU (cR i2 _ _ h2) hv;have gd:be (ds.getD (last - j) .none):=h3 _ (LZ (aL (d:=Ox) (show last - j < ds.length by lia)));have hnl:=iN (ds.getD (last - j) .none);generalize hks:bz (ds.getD (last - j) .none)=ks at en hnl;have hal:=iM (nm:=λi=>bz (ds.getD i .none)) (last:=last) (λi=>iN _) j;generalize bM (λi=>bz (ds.getD i .none)) last j=O0 at i1 en hal;refine⟨_,rfl,aJ ⟨_,rfl,_,rfl,.inl ⟨la,ls,_,v,rfl,rfl,SqL.of (i2 _ _ h1),cb hv,v,ds.getD (last - j) .none,rfl,rv,gd,λl G1 kg nl hl=>?_⟩⟩⟩;rw[hks]at hl;refine⟨l,rfl,⟨_,SqL.of hl⟩,fD (K:=K) (a:=l) (xs:=ks.map V.int) (J2 la dn l last (A' (.int ((last - j:Nat):Int))) O0 ks H) ⟨_,rfl,kg _ _ i1,i2.trans kg,hl⟩ ?_ ?_ ?_⟩
   ·rintro i σ G2 _ ⟨_,_,_,_,m⟩;exact SqL.of m
   ·rintro i x σ G2 hx ⟨x4,rfl,m1,m2,m3⟩;obtain⟨k,rfl,hk⟩:=dh hx;have hfl:=kj (ks.take i) O0;rw[ME]at hfl;exists _,rfl,_,rfl,dn,_,rfl,DPut.k (k:=M5 k) m1 (aW<|by unfold dB;rw[J'];lia);rw[HM,<-vd hk];exists _,rfl,ad,m2.upd_new ndn _;rw[al λz=>by rw[z,m1]at m3;cases m3];exact m3
   ·rintro σ G2 ⟨x4,rfl,m1,m2,m3⟩;rw[J',L8<|LQ _,<-en]at m1;exact⟨_,_,rfl,m1,m2⟩
  ·rw[LW hm];have en:bM (λi=>bz<|ds.getD i .none) last (j+1)=bM (λi=>bz<|ds.getD i .none) last j:=Mi hm;exact⟨_,rfl,aI ⟨_,_,rfl,by rw[en];exact i1,i2⟩⟩
 ·rintro σ G ⟨x3,x4,rfl,i1,i2⟩;have en:((last:Int) - -1).toNat=last+1:=by lia
  rw[en]at i1;have hal:=iM (nm:=λi=>bz<|ds.getD i .none) (last:=last) (λi=>iN _)<|last+1;refine⟨_,rfl,dn,_,_,rfl,i1,EB _,by lia,λl V2 nl hp hs=>q l V2 _ (i2.trans<|ag nl _) (i2.free nl) ad hp hs⟩
theorem CL.updD(h:CL H c v)(hq:H q=A' (.dT kvs)):CL (upd H q o) c v:=by
 obtain⟨t,e,z⟩:=h;exact⟨t,e,by rw[al λg=>by rw[g,hq]at z;cases z];exact z⟩
theorem CLs.updD(hq:H q=A' (.dT kvs)):∀{cs:gV (gV Int)} {xs:gV V},CLs H cs xs->CLs (upd H q o) cs xs
 |_,_,.nil=>.nil
 |_,_,.cons h t=>.cons (CL.updD h hq)<|CLs.updD hq t
def cg(c:gV Int):gV bo:=c.map M5
theorem iq(c:gV Int):(cg c).map kV=c.map V.int:=by
 unfold cg;rw[M9];rfl
theorem keyI_inj:cg a=cg b↔a=b:=Wq λ_ _ h=>Qz h
theorem m7:∀{zs:gV V},(∀y∈zs,∃p,y=.ref p)->∃ts:gV LJ,zs=ts.map V.ref
 |[],_=>⟨[],rfl⟩
 |y::zs,h=>by
  obtain⟨p,rfl⟩:=h y L9;obtain⟨ts,rfl⟩:=m7 λz hz=>h z<|LY _ hz;exact⟨p::ts,rfl⟩
theorem m8{α:Type}{l:gV α}{i:Nat}{x:α}(h:l[i]? =A' x):l.take (i+1)=l.take i++[x]:=by
 rw[MM,h];rfl
theorem HP{a b c:gV Int}(h1:QO a c)(h2:PR (·<=·) a)(h3:QO b c)(h4:PR (·<=·) b):a=b:=
 Zv (λx y _ _ p q=>by have p':x<=y:=p;have q':y<=x:=q;lia) h2 h4 (h1.trans h3.symm)
theorem sO(g:be d)(h:aP t cs hw sets d=A' c):∀k∈bz d,0<=k/\k < (sets.length:Int):=by
 obtain⟨k,rfl⟩|⟨c',hc,rfl⟩|⟨k,rfl⟩|⟨i,j,z,rfl⟩:=g
 ·rw[io];exact λ_ h=>nomatch h
 ·exact λ_ h=>nomatch h
 ·rw[dy];intro k' RU;rw[LN.mp RU];unfold aP at h;have f1:bP aN 2 (.tuple [.str aO,.int k])=false:=by
   show(decide (2=2)&&decide (aO=aN))=LM
   rw[LW (show¬aO=aN by decide+kernel),On]
  have f2:bP bn 2 (.tuple [.str aO,.int k])=false:=by
   show(decide (2=2)&&decide (aO=bn))=LM
   rw[LW (show¬aO=bn by decide+kernel),On]
  have f3:bP aZ 4 (.tuple [.str aO,.int k])=false:=rfl;have f4:bP aO 2 (.tuple [.str aO,.int k])=true:=by
   show(decide (2=2)&&decide (aO=aO))=LI
   simp
  rw[f1,f2,f3,f4,On,On]at h;have h':gS t hw sets (.int k)=A' c:=h;unfold gS at h';cases e:bj sets.length (.int k)with
  |none=>rw[e]at h';cases h'
  |some i=>
   obtain⟨a1,a2⟩:=b9 e;cases a2;lia
 ·rw[cU];intro k' RU;unfold aP at h;have f1:bP aN 2 (.tuple [.str aZ,.int i,.int j,.int z])=false:=rfl;have f2:bP bn 2 (.tuple [.str aZ,.int i,.int j,.int z])=false:=rfl;have f3:bP aZ 4 (.tuple [.str aZ,.int i,.int j,.int z])=true:=by
   show(decide (4=4)&&decide (aZ=aZ))=LI
   simp
  rw[f1,f2,f3,On,On]at h;have h':dI t hw sets (.int i) (.int j) (.int z)=A' c:=h;unfold dI at h';cases e:bj sets.length (.int i)with
  |none=>rw[e]at h';cases h'
  |some i'=>
  cases e2:bj sets.length (.int j)with
  |none=>rw[e,e2]at h';cases h'
  |some j'=>
   obtain⟨a1,a2⟩:=b9 e;obtain⟨b1,b2⟩:=b9 e2;cases a2;cases b2;obtain rfl|RU:=Mn.mp RU
   ·lia
   ·rw[LN.mp RU];lia
abbrev yG:NN:=cZ 56
def bN(f:Int->Int):Mc->Mc
 |.tuple [.str w,.int i,.int j,.int z]=>if w=aZ then .tuple [.str aZ,.int<|f i,.int<|f j,.int z]else .tuple [.str w,.int i,.int j,.int z]
 |.tuple [.str w,.int k]=>if w=aO then .tuple [.str aO,.int<|f k]else .tuple [.str w,.int k]
 |d=>d
theorem dD(f:Int->Int)(k:Int):bN f (.tuple [.str aN,.int k])=.tuple [.str aN,.int k]:=by
 show(if aN=aO then QK [.str aO,.int<|f k]else QK [.str aN,.int k])=_
 rw[Mi<|by decide+kernel]
theorem e_(f:Int->Int)(k:Int):bN f (.tuple [.str aO,.int k])=.tuple [.str aO,.int<|f k]:=by
 show(if aO=aO then QK [.str aO,.int<|f k]else QK [.str aO,.int k])=_
 rw[Ml rfl]
theorem fb(f:Int->Int)(i j z:Int):bN f (.tuple [.str aZ,.int i,.int j,.int z])=.tuple [.str aZ,.int<|f i,.int<|f j,.int z]:=by
 show(if aZ=aZ then QK [.str aZ,.int<|f i,.int<|f j,.int z]else QK [.str aZ,.int i,.int j,.int z])=_
 rw[Ml rfl]
theorem m9(f:Int->Int)(c:gV Int):bN f (.tuple [.str bn,fN c])=.tuple [.str bn,fN c]:=rfl
theorem jE(g:be d):be (bN f d):=by
 obtain⟨k,rfl⟩|⟨c,hc,rfl⟩|⟨k,rfl⟩|⟨i,j,z,rfl⟩:=g
 ·rw[dD];exact .inl ⟨k,rfl⟩
 ·exact .inr<|.inl ⟨c,hc,rfl⟩
 ·rw[e_];exact .inr<|.inr<|.inl ⟨_,rfl⟩
 ·rw[fb];exact .inr<|.inr<|.inr ⟨_,_,_,rfl⟩
theorem o9(g:be d):bz (bN f d)=(bz d).map f:=by
 obtain⟨k,rfl⟩|⟨c,hc,rfl⟩|⟨k,rfl⟩|⟨i,j,z,rfl⟩:=g
 ·rw[dD,io];rfl
 ·rfl
 ·rw[e_,dy,dy];rfl
 ·rw[fb,cU,cU];rfl
inductive FR (vs:gV V)(H:Hp)(Q:VK):Prop
 |mk (v:V)(na:LJ)(d:Mc)(ns:gV Int)(h0:vs=[v,.ref na])(hd:RD H d v)(hg:be d)(hn:H na=A' (.lst (ns.map V.int)))(hr:∀k∈bz d,0<=k/\k < (ns.length:Int))(q:∀v' H',Same H H'->RD H' (bN (λk=>ns.getD k.toNat 0) d) v'->Q v' H'):FR vs H Q
def By:Sp:=λvs H Q _=>FR vs H Q
inductive FS (vs:gV V)(H:Hp)(Q:VK):Prop
 |mk (v:V)(na:LJ)(d:Mc)(kvs:gV (bo×V))(f:Int->Int)(h0:vs=[v,.ref na])(hd:RD H d v)(hg:be d)(hn:H na=A' (.dK kvs))(hr:∀k∈bz d,bZ kvs (M5 k:bo)=A' (.int<|f k))(q:∀v' H',Same H H'->RD H' (bN f d) v'->Q v' H'):FS vs H Q
def Bz:Sp:=λvs H Q _=>FS vs H Q
theorem qw{ns:gV Int}{k:Int}(h:0<=k/\k < (ns.length:Int)):kL (ns.map V.int) k=A' (.int<|ns.getD k.toNat 0):=by
 obtain⟨n,rfl⟩:∃n:Nat,k=(n:Int):=⟨k.toNat,by lia⟩;refine cb ?_;rw[Mp,aL (d:=(0:Int)) (show n < ns.length by lia)];rfl
theorem m_{H:Hp}{na:LJ}{kvs:gV (bo×V)}{k z:Int}(hn:H na=A' (.dK kvs))(h:bZ kvs (M5 k:bo)=A' (.int z)):DGet H na (.int k) (A'<|.int z):=by
 rw[<-h];exact DGet.k (k:=M5 k) hn
theorem wK:aq ["line","numbers"] ["line","numbers"] (aj yG):=⟨rfl,rfl,rfl,by decide+kernel,rfl,by decide+kernel,by decide+kernel⟩
theorem EC(F:Fun K "renamed" "renamed" yG f fd):FnOk P w K mg base b7 1 f fd ["line","numbers"] By:=by
 have sc:=wK;refine F.ok wK (λvs H Q E h=>?_) λOT A outer s H vs Q E hr h=>?_
 ·obtain⟨v,na,d,ns,rfl,_⟩:=h;rfl
 have hu:=hr.units;have UX:(A.deeper<|Nj "renamed" (aj yG) s.heap.objs.size f OT).units+1 < PU:=by lia
 obtain⟨v,na,d,ns,rfl,hd,hg,hn,hr,q⟩:=h;refine⟨_,(af (aS (ay (aX hu) (av am (pv 0) ai λ_ _=>rfl) aH<|aB _) (ah<|ao<|bx<|aa aH<|aa (av am (pv 1) (av am (pv 0) ai λ_ _=>rfl) λ_ _=>rfl)<|aa (av am (pv 1) (av am (pv 0) ai λ_ _=>rfl) λ_ _=>rfl)<|aa (av am (pv 0) ai λ_ _=>rfl) ae) aA)
  (af (aS (ay (aX hu) (av am (pv 0) ai λ_ _=>rfl) aH<|aB _) (ah<|ao<|bx<|aa aH<|aa (av am (pv 1) (av am (pv 0) ai λ_ _=>rfl) λ_ _=>rfl) ae) aA)
  (ah<|ao<|pv 0))),?_⟩
 obtain⟨k,rfl⟩|⟨c,hc,rfl⟩|⟨k,rfl⟩|⟨i,j,z,rfl⟩:=hg
 ·obtain⟨a,zs,rfl,ha,hz⟩:=ax hd;obtain⟨d0,d1,x0,x1,e,rfl,r0,r1⟩:=cp hz rfl;cases e;obtain rfl:=bd r0;refine⟨_,rfl,.inr<|.inl ⟨a,_,0,.str aN,rfl,rfl,SqT.of ha,rfl,.inl ⟨rfl,_,rfl,?_⟩⟩⟩;rw[LW (show¬V.str aN=V.str (G' "join") by decide+kernel)];refine aI ⟨_,rfl,.inr<|.inl ⟨a,_,0,.str aN,rfl,rfl,SqT.of ha,rfl,.inl ⟨rfl,_,rfl,?_⟩⟩⟩;rw[LW (show¬V.str aN=V.str (G' "drop") by decide+kernel)];rw[dD]at q;exact aI ⟨_,rfl,q _ _ (Same.refl _) hd⟩
 ·obtain⟨a,zs,rfl,ha,hz⟩:=ax hd;obtain⟨d0,d1,x0,x1,e,rfl,r0,r1⟩:=cp hz rfl;cases e;obtain rfl:=bd r0;refine⟨_,rfl,.inr<|.inl ⟨a,_,0,.str bn,rfl,rfl,SqT.of ha,rfl,.inl ⟨rfl,_,rfl,?_⟩⟩⟩;rw[LW (show¬V.str bn=V.str (G' "join") by decide+kernel)];refine aI ⟨_,rfl,.inr<|.inl ⟨a,_,0,.str bn,rfl,rfl,SqT.of ha,rfl,.inl ⟨rfl,_,rfl,?_⟩⟩⟩;rw[LW (show¬V.str bn=V.str (G' "drop") by decide+kernel)];rw[m9]at q;exact aI ⟨_,rfl,q _ _ (Same.refl _) hd⟩
 ·obtain⟨a,zs,rfl,ha,hz⟩:=ax hd;obtain⟨d0,d1,x0,x1,e,rfl,r0,r1⟩:=cp hz rfl;cases e;obtain rfl:=bd r0;obtain rfl:=aT r1;rw[dy]at hr;rw[e_]at q;refine⟨_,rfl,.inr<|.inl ⟨a,_,0,.str aO,rfl,rfl,SqT.of ha,rfl,.inl ⟨rfl,_,rfl,?_⟩⟩⟩;rw[LW (show¬V.str aO=V.str (G' "join") by decide+kernel)];refine aI ⟨_,rfl,.inr<|.inl ⟨a,_,0,.str aO,rfl,rfl,SqT.of ha,rfl,.inl ⟨rfl,_,rfl,?_⟩⟩⟩;rw[Ma (show V.str aO=V.str (G' "drop")from rfl)];refine aJ ⟨_,rfl,_,rfl,.inr<|.inl ⟨a,_,1,.int k,rfl,rfl,SqT.of ha,rfl,.inl ⟨na,_,_,_,rfl,rfl,SqL.of hn,qw<|hr k<|LN.mpr rfl,(by show 2<=sizeLine;decide),λl nl=>q (.ref l) _ (ag nl _)<|bB ad<|ap (dG _)<|ap (dt _) aQ⟩⟩⟩
 ·obtain⟨a,zs,rfl,ha,hz⟩:=ax hd;obtain⟨d0,d1,d2,d3,x0,x1,x2,x3,e,rfl,r0,r1,r2,r3⟩:=il hz rfl;cases e;obtain rfl:=bd r0;obtain rfl:=aT r1;obtain rfl:=aT r2;obtain rfl:=aT r3;rw[cU]at hr;rw[fb]at q;refine⟨_,rfl,.inr<|.inl ⟨a,_,0,.str aZ,rfl,rfl,SqT.of ha,rfl,.inl ⟨rfl,_,rfl,?_⟩⟩⟩;rw[Ma (show V.str aZ=V.str (G' "join")from rfl)];refine aJ ⟨_,rfl,_,rfl,.inr<|.inl ⟨a,_,1,.int i,rfl,rfl,SqT.of ha,rfl,.inl ⟨na,_,_,_,rfl,rfl,SqL.of hn,qw<|hr i L9,_,rfl,_,rfl,.inr<|.inl ⟨a,_,2,.int j,rfl,rfl,SqT.of ha,rfl,.inl ⟨na,_,_,_,rfl,rfl,SqL.of hn,qw<|hr j<|LY _<|LN.mpr rfl,_,rfl,.inr<|.inl ⟨a,_,3,.int z,rfl,rfl,SqT.of ha,rfl,(by show 4<=sizeLine;decide),λl nl=>q (.ref l) _ (ag nl _)<|bB ad<|ap (dG _)<|ap (dt _)<|ap (dt _)<|ap (dt _) aQ⟩⟩⟩⟩⟩⟩
theorem ED(F:Fun K "renamed" "renamed" yG f fd):FnOk P w K mg base b7 1 f fd ["line","numbers"] Bz:=by
 have sc:=wK;refine F.ok wK (λvs H Q E h=>?_) λOT A outer s H vs Q E hr h=>?_
 ·obtain⟨v,na,d,kvs,f',rfl,_⟩:=h;rfl
 have hu:=hr.units;have UX:(A.deeper<|Nj "renamed" (aj yG) s.heap.objs.size f OT).units+1 < PU:=by lia
 obtain⟨v,na,d,kvs,f',rfl,hd,hg,hn,hr,q⟩:=h;refine⟨_,(af (aS (ay (aX hu) (av am (pv 0) ai λ_ _=>rfl) aH<|aB _) (ah<|ao<|bx<|aa aH<|aa (bT UX (pv 1) (av am (pv 0) ai λ_ _=>rfl) λ_ _=>rfl)<|aa (bT UX (pv 1) (av am (pv 0) ai λ_ _=>rfl) λ_ _=>rfl)<|aa (av am (pv 0) ai λ_ _=>rfl) ae) aA)
  (af (aS (ay (aX hu) (av am (pv 0) ai λ_ _=>rfl) aH<|aB _) (ah<|ao<|bx<|aa aH<|aa (bT UX (pv 1) (av am (pv 0) ai λ_ _=>rfl) λ_ _=>rfl) ae) aA)
  (ah<|ao<|pv 0))),?_⟩
 obtain⟨k,rfl⟩|⟨c,hc,rfl⟩|⟨k,rfl⟩|⟨i,j,z,rfl⟩:=hg
 ·obtain⟨a,zs,rfl,ha,hz⟩:=ax hd;obtain⟨d0,d1,x0,x1,e,rfl,r0,r1⟩:=cp hz rfl;cases e;obtain rfl:=bd r0;refine⟨_,rfl,.inr<|.inl ⟨a,_,0,.str aN,rfl,rfl,SqT.of ha,rfl,.inl ⟨rfl,_,rfl,?_⟩⟩⟩;rw[LW (show¬V.str aN=V.str (G' "join") by decide+kernel)];refine aI ⟨_,rfl,.inr<|.inl ⟨a,_,0,.str aN,rfl,rfl,SqT.of ha,rfl,.inl ⟨rfl,_,rfl,?_⟩⟩⟩;rw[LW (show¬V.str aN=V.str (G' "drop") by decide+kernel)];rw[dD]at q;exact aI ⟨_,rfl,q _ _ (Same.refl _) hd⟩
 ·obtain⟨a,zs,rfl,ha,hz⟩:=ax hd;obtain⟨d0,d1,x0,x1,e,rfl,r0,r1⟩:=cp hz rfl;cases e;obtain rfl:=bd r0;refine⟨_,rfl,.inr<|.inl ⟨a,_,0,.str bn,rfl,rfl,SqT.of ha,rfl,.inl ⟨rfl,_,rfl,?_⟩⟩⟩;rw[LW (show¬V.str bn=V.str (G' "join") by decide+kernel)];refine aI ⟨_,rfl,.inr<|.inl ⟨a,_,0,.str bn,rfl,rfl,SqT.of ha,rfl,.inl ⟨rfl,_,rfl,?_⟩⟩⟩;rw[LW (show¬V.str bn=V.str (G' "drop") by decide+kernel)];rw[m9]at q;exact aI ⟨_,rfl,q _ _ (Same.refl _) hd⟩
 ·obtain⟨a,zs,rfl,ha,hz⟩:=ax hd;obtain⟨d0,d1,x0,x1,e,rfl,r0,r1⟩:=cp hz rfl;cases e;obtain rfl:=bd r0;obtain rfl:=aT r1;rw[dy]at hr;rw[e_]at q;refine⟨_,rfl,.inr<|.inl ⟨a,_,0,.str aO,rfl,rfl,SqT.of ha,rfl,.inl ⟨rfl,_,rfl,?_⟩⟩⟩;rw[LW (show¬V.str aO=V.str (G' "join") by decide+kernel)];refine aI ⟨_,rfl,.inr<|.inl ⟨a,_,0,.str aO,rfl,rfl,SqT.of ha,rfl,.inl ⟨rfl,_,rfl,?_⟩⟩⟩;rw[Ma (show V.str aO=V.str (G' "drop")from rfl)];refine aJ ⟨_,rfl,_,rfl,.inr<|.inl ⟨a,_,1,.int k,rfl,rfl,SqT.of ha,rfl,na,_,rfl,m_ hn<|hr k<|LN.mpr rfl,(by show 2<=sizeLine;decide),λl nl=>q (.ref l) _ (ag nl _)<|bB ad<|ap (dG _)<|ap (dt _) aQ⟩⟩
 ·obtain⟨a,zs,rfl,ha,hz⟩:=ax hd;obtain⟨d0,d1,d2,d3,x0,x1,x2,x3,e,rfl,r0,r1,r2,r3⟩:=il hz rfl;cases e;obtain rfl:=bd r0;obtain rfl:=aT r1;obtain rfl:=aT r2;obtain rfl:=aT r3;rw[cU]at hr;rw[fb]at q;refine⟨_,rfl,.inr<|.inl ⟨a,_,0,.str aZ,rfl,rfl,SqT.of ha,rfl,.inl ⟨rfl,_,rfl,?_⟩⟩⟩;rw[Ma (show V.str aZ=V.str (G' "join")from rfl)];refine aJ ⟨_,rfl,_,rfl,.inr<|.inl ⟨a,_,1,.int i,rfl,rfl,SqT.of ha,rfl,na,_,rfl,m_ hn<|hr i L9,_,rfl,_,rfl,.inr<|.inl ⟨a,_,2,.int j,rfl,rfl,SqT.of ha,rfl,na,_,rfl,m_ hn<|hr j<|LY _<|LN.mpr rfl,_,rfl,.inr<|.inl ⟨a,_,3,.int z,rfl,rfl,SqT.of ha,rfl,(by show 4<=sizeLine;decide),λl nl=>q (.ref l) _ (ag nl _)<|bB ad<|ap (dG _)<|ap (dt _)<|ap (dt _)<|ap (dt _) aQ⟩⟩⟩⟩
abbrev EE:NN:=cZ 58
structure J3 (mg:Str->LH LF):Prop where
 enumerate:mg "enumerate"=LL
def ir(out:gV (gV Int)):gV Int:=out.map λc=>((out.idxOf c:Nat):Int)
theorem o_:∀{out:gV (gV Int)} {i:Nat} {c:gV Int},out[i]? =A' c->c∉out.take i->out.idxOf c=i
 |[],i,c,h,_=>by simp at h
 |x::out,0,c,h,_=>by
  have h':x=c:=by simpa using h
  subst h';simp
 |x::out,i+1,c,h,n=>by
  have hx:x≠c:=λz=>n (by rw[VQ,z];exact L9);have h':out[i]? =A' c:=by simpa using h
  have n':c∉out.take i:=λz=>n (by rw[VQ];exact LY _ z);rw[XY,o_ h' n'];have:(x == c)=false:=by simpa using hx
  rw[this];rfl
inductive J4 (vs:gV V)(H:Hp)(Q:VK):Prop
 |mk (sl:LJ)(ys:gV V)(out:gV (gV Int))(h0:vs=[.ref sl])(h1:H sl=A' (.lst ys))(h2:CLs H out ys)(h3:out.length<=3000)(q:∀l H',Same H H'->H l=LL->H' l=A' (.lst<|(ir out).map V.int)->Q (.ref l) H'):J4 vs H Q
def FT:Sp:=λvs H Q _=>J4 vs H Q
inductive J5 (sl dk:LJ)(out:gV (gV Int))(H:Hp)(i:Nat)(σ:gV (LH V))(G:Hp):Prop
 |mk (x2 x3:LH V)(D:gV (gV bo×V))(i0:σ=[A'<|.ref sl,A'<|.ref dk,x2,x3])(i1:G dk=A' (.dT D))(i2:∀c:gV Int,bZ D (cg c)=if c∈out.take i then A' (.int ((out.idxOf c:Nat):Int))else LL)(i3:D.length<=i)(i4:Same H G):J5 sl dk out H i σ G
theorem BA(O2:St)(f:Nat->V)(e0:σ0=LL::O2)(ha:H1 a=A' (.lst xs))(hD:H1 D=LL)(N1:xs.length<=9000)
  (he:∀i x,xs[i]? =A' x->∀H' R,Same H1 H'->R (f i) H'->te (A' x::O2) H' R) (hq:Q (.ref D) (upd H1 D<|.lst<|(Nr xs.length).map f)):gi (C5 K a) D (gh 0) Fp te σ0 H1 Q:=by
 have na:a≠D:=ak ha hD;refine bO (K:=K) (a:=a) (xs:=xs) (λi σ ys H2=>(∃v0,σ=v0::O2)/\ys=(Nr i).map f/\H2=upd H1 D (.lst ys)) ⟨⟨LL,e0⟩,rfl,rfl⟩ ?_ ?_ ?_
 ·rintro i σ ys H2 _ ⟨_,_,rfl⟩;exact⟨ad,SqL.of<|by rw[al na];exact ha⟩
 ·rintro i x σ ys H2 hx ⟨⟨v0,rfl⟩,rfl,rfl⟩;have V3:i < xs.length:=(LS.mp hx).1;refine bS<|he i x hx _ _ (ag hD _) ⟨ad,aW (by rw[J',NS];lia),⟨_,rfl⟩,?_,?_⟩
  ·rw[Qk,Mq];rfl
  ·rw[ee]
 ·rintro σ ys H2 ⟨_,rfl,rfl⟩;exact hq
theorem FU:aq ["sets","places","place","literals"] ["sets"] (aj EE):=⟨rfl,rfl,rfl,by decide+kernel,rfl,by decide+kernel,by decide+kernel⟩
theorem HQ(F:Fun K "first_places" "first_places" EE f fd)(T:J3 mg):FnOk P w K mg base b7 1 f fd ["sets"] FT:=by
 have sc:=FU;refine F.ok FU (λvs H Q E h=>?_) λOT A outer s H vs Q E hr h=>?_
 ·obtain⟨sl,ys,out,rfl,_⟩:=h;rfl
 have hu:=hr.units;have UX:(A.deeper<|Nj "first_places" (aj EE) s.heap.objs.size f OT).units+1 < PU:=by lia
 obtain⟨sl,ys,out,rfl,h1,h2,h3,q⟩:=h;have N1:=h2.length;refine⟨_,(af (au (i:=1) sc.nd rfl (Ra rfl) l7)
  (af (cO M_ rfl (pS rfl T.enumerate<|pv 0) (pG rfl<|eI (aE (i:=2) sc.nd rfl<|MA rfl)<|eI (aE (i:=3) sc.nd rfl<|MA rfl) lu)
   (ah<|bA<|AC UX (pv 1) (pv 3) (pv 2) ⟨rfl,rfl,rfl,rfl⟩))
  (ah<|ao<|bp (NY:=["literals","places"]) (idx:=[LL,A' 1]) rfl ⟨by with_unfolding_all rfl,(by with_unfolding_all exact⟨rfl,trivial⟩),λ_=>by rfl,by rfl,by rfl,by rfl,by decide⟩ (bw<|pv 0) (λ_ _ _ _=>(aE (i:=0) (show Nf (["literals","places"]:gV Str) by decide+kernel) rfl<|MA rfl)) (λ_ _ _ _=>bJ) λ_ _ _ _=>(bT UX (pv 1) (pv 0) λ_ _=>rfl)))),?_⟩
 refine λdk ndk=>?_;have k1:=ag ndk<|.dT [];have s1:upd H dk (.dT []) dk=A' (.dT []):=ad;refine⟨_,rfl,sl,rfl,⟨_,SqL.of<|k1 _ _ h1⟩,rq (K:=K) (a:=sl) (xs:=ys) (J5 sl dk out H) ⟨LL,LL,[],rfl,s1,λc=>rfl,LQ _,k1⟩ ?_ ?_ ?_⟩
 ·rintro i σ G _ ⟨_,_,_,_,_,_,_,k⟩;exact SqL.of<|k _ _ h1
 ·rintro i x σ G t1 hx ⟨x2,x3,D,rfl,i1,i2,i3,i4⟩ ht1;have k2:Same G (upd G t1<|.tup [.int i,x]):=ag ht1 _;obtain⟨c,hc,tc,rfl,T7⟩:=((h2.mono i4).mono k2).get hx;have V3:i < out.length:=(LS.mp hc).1;have ZO:upd G t1 (.tup [.int i,.ref tc]) tc=A' (.tup<|(cg c).map kV):=by rw[iq];exact T7
  have j1:=k2 _ _ i1;have kk:=i4.trans k2;have st1:upd G t1 (.tup [.int i,.ref tc]) t1=A' (.tup [.int i,.ref tc]):=ad;generalize upd G t1 (.tup [.int i,.ref tc])=G1 at ZO j1 kk st1 ⊢;have et:=m8 hc;exists t1,_,rfl,SqT.of st1,rfl,_,_,rfl,_,_,rfl,rfl;exists _,rfl,dk,rfl,.inr ⟨_,.inl j1⟩,_,rfl,_,rfl;have e0:=i2 c;by_cases hm:c∈out.take i
  ·rw[Ml hm]at e0;refine .inl ⟨.int ((out.idxOf c:Nat):Int),by rw[<-e0];exact DGet.t j1 ZO,?_⟩;refine⟨_,_,D,rfl,j1,λc'=>?_,by lia,kk⟩;rw[i2 c',et];have:(c'∈out.take i++[c])↔c'∈out.take i:=by
    rw[Mt,LN];exact⟨λz=>z.elim id λz=>z▸hm,.inl⟩
   simp only [this]
  ·rw[Mi hm]at e0;have ei:=o_ hc hm;refine .inr ⟨by rw[<-e0];exact DGet.t j1 ZO,_,DPut.t j1 ZO (aW<|by lia),?_⟩;refine⟨_,_,_,rfl,ad,λc'=>?_,?_,kk.upd_new ndk _⟩
   ·rw[jl,et];by_cases e:c'=c
    ·subst e;rw[Ml rfl,Ml<|MR _<|LN.mpr rfl,ei]
    ·rw[Mi λz=>e<|keyI_inj.mp z,i2 c'];have:(c'∈out.take i++[c])↔c'∈out.take i:=by
      rw[Mt,LN];exact⟨λz=>z.elim id λz=>absurd z e,.inl⟩
     simp only [this]
   ·have:=cw D (cg c)<|.int (i:Int);lia
 ·rintro σ G ⟨x2,x3,D,rfl,i1,i2,i3,i4⟩;rw[L8<|by lia]at i2;refine⟨_,rfl,sl,rfl,⟨_,SqL.of<|i4 _ _ h1⟩,λDl nDl=>?_⟩;refine BA [A'<|.ref dk] (λi=>.int ((out.idxOf (out.getD i []):Nat):Int)) rfl (i4 _ _ h1) nDl (by lia) (λi x hx H' R k r=>?_) ?_
  ·obtain⟨c,hc,tc,rfl,T7⟩:=(h2.mono<|i4.trans k).get hx;have ZO:H' tc=A' (.tup<|(cg c).map kV):=by rw[iq];exact T7
   have e0:=i2 c;rw[Ml<|LZ hc]at e0;have eg:out.getD i []=c:=by rw[LK,hc];rfl
   rw[eg]at r;exact⟨_,rfl,_,rfl,dk,_,rfl,by rw[<-e0];exact DGet.t (k _ _ i1) ZO,r⟩
  ·have k5:=ag nDl<|.lst ((Nr ys.length).map λi:Nat=>V.int ((out.idxOf (out.getD i []):Nat):Int));refine q Dl _ (i4.trans k5) (i4.free nDl) ?_;rw[ad]
   congr 2
   unfold ir;rw[M9];refine RC λj=>?_;rw[Mp,Mp];by_cases hj:j < out.length
   ·rw[QT (by lia),LU hj];show A' (V.int ((out.idxOf (out.getD j []):Nat):Int))=A' (V.int _)
    rw[LK,LU hj];rfl
   ·rw[N9 (by rw[NS];lia),N9<|by lia];rfl
theorem BB:x∈gN O0 k↔x∈O0\/x=k:=by
 unfold gN
 split
 ·rename_i h;exact⟨.inl,λz=>z.elim id λz=>z▸h⟩
 ·rw[Mt,LN]
theorem pd:∀{ks O0:gV Int} {x:Int},x∈ks.foldl gN O0↔x∈O0\/x∈ks
 |[],O0,x=>by simp
 |k::ks,O0,x=>by
  rw[Q8,pd,BB,Mn,or_assoc]
theorem ve(h:O0.Nodup):(gN O0 k).Nodup:=by
 unfold gN
 split
 ·exact h
 ·rename_i n;rw[Oa];exact⟨h,by simp,λx hx y hy z=>by rw[LN.mp hy]at z;exact n<|z▸hx⟩
theorem kW:∀{ks O0:gV Int},O0.Nodup->(ks.foldl gN O0).Nodup
 |[],_,h=>h
 |_::ks,_,h=>kW (ks:=ks)<|ve h
section
variable {nm:Nat->gV Int}{last:Nat}
theorem fY:∀j,(bM nm last j).Nodup
 |0=>by show([(last:Int)]:gV Int).Nodup;simp
 |j+1=>by
  show(if _ then _ else _:gV Int).Nodup
  split
  ·exact kW<|fY j
  ·exact fY j
theorem needG_step:x∈bM nm last (j+1)↔x∈bM nm last j\/(((last - j:Nat):Int)∈bM nm last j/\x∈nm (last - j)):=by
 show x∈(if _ then _ else _:gV Int)↔_
 split
 ·rename_i h;rw[pd];exact⟨λz=>z.imp id λz=>⟨h,z⟩,λz=>z.imp id λz=>z.2⟩
 ·rename_i h;exact⟨.inl,λz=>z.elim id λz=>absurd z.1 h⟩
theorem i_(h:x∈bM nm last j):∀m,x∈bM nm last (j+m)
 |0=>h
 |m+1=>needG_step.mpr<|.inl<|i_ h m
theorem fZ(hn:∀i,i<=last->∀k∈nm i,0<=k/\k < (i:Int)):∀{j:Nat} {x:Int},x∈bM nm last j->0<=x/\x<=(last:Int)
 |0,x,h=>by
  have h':x=(last:Int):=LN.mp h;lia
 |j+1,x,h=>by
  obtain z|⟨_,z⟩:=needG_step.mp h
  ·exact fZ hn z
  ·have:=hn (last - j) (abt _ _) x z;lia
theorem nc(hn:∀i,i<=last->∀k∈nm i,0<=k/\k < (i:Int))(hp:last - j<=p):∀m,(p:Int)∈bM nm last (j+m)->(p:Int)∈bM nm last j
 |0,h=>h
 |m+1,h=>by
  obtain z|⟨_,z⟩:=needG_step.mp (show(p:Int)∈bM nm last ((j+m)+1)from h)
  ·exact nc hn hp m z
  ·have:=hn (last - (j+m)) (abt _ _) _ z;lia
theorem jF(hn:∀i,i<=last->∀k∈nm i,0<=k/\k < (i:Int)){p:Nat}(h:(p:Int)∈bM nm last (last+1)):∀k∈nm p,k∈bM nm last (last+1):=λk hk=>by
 have X3:p<=last:=by
  have:=(fZ hn h).2;lia
 have e:last+1=(last - p)+(p+1):=by lia
 rw[e]at h;have h1:=nc hn (show last - (last - p)<=p by lia) (p+1) h;have h2:k∈bM nm last (last - p+1):=needG_step.mpr<|.inr ⟨by rw[show last - (last - p)=p by lia];exact h1,by rw[show last - (last - p)=p by lia];exact hk⟩;have h3:=i_ h2 p;rw[show last - p+1+p=last+1 by lia]at h3;exact h3
theorem vf(j:Nat):(last:Int)∈bM nm last j:=by
 have:=i_ (nm:=nm) (last:=last) (j:=0) (x:=(last:Int)) (LN.mpr rfl) j
 rwa [Qe]at this
end
theorem vg{out:gV (gV Int)}{k:Nat}{c:gV Int}(h:out[k]? =A' c):out.idxOf c<=k:=by
 obtain g|g:=Ru k (out.idxOf c)
 ·exact absurd (LS.mp h).2 (by
   have:=UN (p:=λx=>x == c) (xs:=out) (i:=k) g;simpa using this)
 ·exact g
theorem iu{out:gV (gV Int)}{c:gV Int}(h:c∈out):out.idxOf c < out.length/\out[out.idxOf c]? =A' c:=by
 have h1:=T6.mpr h;exists h1;rw[LU h1,Ws]
abbrev HR:NN:=cZ 59
structure J6 (mg:Str->LH LF):Prop where
 enumerate:mg "enumerate"=LL
 dict:mg "dict"=LL
theorem HS{A B:Hp->Prop}(h:A H):Fp σ H λb H4=>if b=LI then A H4 else B H4:=by
 show(if LI=LI then A H else B H)
 exact aJ h
inductive FV (O2:St)(H1:Hp)(D:LJ)(es:Nat->Mc)(i:Nat)(σ:St)(ys:gV V)(H2:Hp):Prop
 |mk (v0:LH V)(h0:σ=v0::O2)(h1:H2 D=A' (.lst ys))(h2:Same H1 H2)(h3:c9 H2 ((Nr i).map es) ys):FV O2 H1 D es i σ ys H2
theorem pe(O2:St)(es:Nat->Mc)(e0:σ0=LL::O2)(ha:H1 a=A' (.lst xs))(hD:H1 D=LL)(N1:xs.length<=9000)(hg:∀i,i < xs.length->be (es i))
  (he:∀i x,xs[i]? =A' x->∀H' R,Same H1 H'->(∀v' H'',Same H' H''->RD H'' (es i) v'->R v' H'')->te (A' x::O2) H' R)
  (hq:∀ys H',Same H1 H'->H' D=A' (.lst ys)->c9 H' ((Nr xs.length).map es) ys->Q (.ref D) H'):gi (C5 K a) D (gh 0) Fp te σ0 H1 Q:=by
 have na:a≠D:=ak ha hD;refine bO (K:=K) (a:=a) (xs:=xs) (FV O2 H1 D es) ⟨LL,e0,ad,ag hD _,aQ⟩ ?_ ?_ ?_
 ·rintro i σ ys H2 _ ⟨_,_,h1,h2,_⟩;exact⟨h1,SqL.of<|h2 _ _ ha⟩
 ·rintro i x σ ys H2 hx ⟨v0,rfl,h1,h2,h3⟩;have V3:i < xs.length:=(LS.mp hx).1;refine bS<|he i x hx _ _ h2 λv' H3 k3 r3=>?_;have hyl:=dH h3;rw[J',NS]at hyl;have d3:=k3 _ _ h1;have all:∀d∈(Nr<|i+1).map es,be d:=λd hd=>by
   obtain⟨j,hj,rfl⟩:=MF.mp hd;exact hg j (by have:=P8.mp hj;lia)
  refine⟨d3,aW (by lia),_,rfl,ad,(h2.trans k3).upd_new hD _,o8 d3 all ?_⟩;rw[Qk,Mq];exact m6 (cR k3 _ _ h3)<|ap r3 aQ
 ·rintro σ ys H2 ⟨_,_,h1,h2,h3⟩;exact hq ys H2 h2 h1 h3
inductive BC (O2:St)(H1:Hp)(D:LJ)(ks:gV Int)(i:Nat)(σ:St)(ys:gV V)(H2:Hp):Prop
 |mk (v0 v1:LH V)(ts:gV LJ)(h0:σ=v0::v1::O2)(h1:H2 D=A' (.lst ys))(h2:Same H1 H2)(h3:ys=ts.map V.ref)(h4:ts.length=i)(h5:∀(j:Nat) (t:LJ) (k:Int),ts[j]? =A' t->ks[j]? =A' k->H2 t=A' (.tup [.int k,.int (j:Int)])):BC O2 H1 D ks i σ ys H2
theorem kn{α β:Type}(d0:α)(g:α->β)(l:gV α)(h:n=l.length):(Nr n).map (λi=>g<|l.getD i d0)=l.map g:=by
 subst h;refine RC λj=>?_;rw[Mp,Mp];by_cases hj:j < l.length
 ·rw[QT hj,LU hj];show A' (g<|l.getD j d0)=A' (g l[j])
  rw[LK,LU hj];rfl
 ·rw[N9 (by rw[NS];lia),N9<|by lia];rfl
def lm(nd:gV Int):gV (bo×V):=(Nr nd.length).map λi=>((M5 (nd.getD i 0):bo),V.int (i:Int))
theorem yH(nd:gV Int):(lm nd).map (·.1)=nd.map (M5:Int->bo):=by
 unfold lm;rw[M9];exact kn 0 (M5:Int->bo) nd rfl
theorem BD(hk:k∈nd):bZ (lm nd) (M5 k:bo)=A' (.int ((nd.idxOf k:Nat):Int)):=by
 have gen:∀(l:gV Int) (s:Nat),k∈l->bZ ((Nr l.length).map λi=>((M5 (l.getD i 0):bo),V.int ((s+i:Nat):Int))) (M5 k:bo)=A' (.int ((s+l.idxOf k:Nat):Int)):=by
  intro l
  induction l with
  |nil=>exact λ_ h=>nomatch h
  |cons x l ih=>
   intro s hm;rw[L4,List.range_succ_eq_map,MH,M9];unfold bZ;rw[NZ];by_cases e:x=k
   ·subst e;simp
   ·have e1:decide ((M5 ((x::l).getD 0 0):bo)=M5 k)=false:=LW λz=>e<|Qz z;have hm':k∈l:=(Mn.mp hm).resolve_left λz=>e z.symm;have:=ih (s+1) hm';simp only [e1];unfold bZ at this;rw[XY,show(x == k)=LM by simpa using e];have ef:((λi=>((M5 ((x::l).getD i 0):bo),V.int ((s+i:Nat):Int)))∘Nat.succ)=λi=>((M5 (l.getD i 0):bo),V.int ((s+1+i:Nat):Int)):=by
     funext i
     show((M5 (l.getD i 0):bo),V.int ((s+(i+1):Nat):Int))=_
     rw[show s+(i+1)=s+1+i by lia]
    rw[ef];rw[this];show A' (V.int ((s+1+l.idxOf k:Nat):Int))=A' (V.int ((s+(l.idxOf k+1):Nat):Int))
    rw[show s+1+l.idxOf k=s+(l.idxOf k+1) by lia]
 have:=gen nd 0 hk;simp only [Qe]at this;exact this
def fj(ds1:gV Mc)(nd:gV Int):gV Mc:=nd.map λp=>bN (λk=>((nd.idxOf k:Nat):Int))<|ds1.getD p.toNat .none
def bI(out:gV (gV Int))(k:Int):Int:=(ir out).getD k.toNat 0
def wL(ds1:gV Mc)(i:Nat):gV Int:=bz<|ds1.getD i .none
inductive J7 (vs:gV V)(H:Hp)(Q:VK):Prop
 |mk (p q pp la:LJ)(t:Str)(hw:Md)(xs ls:gV V)(cs:gV (gV Int))(ds:gV Mc)(out:gV (gV Int))(h0:vs=[.ref p,.ref pp])(h1:H p=A' (.tup [.str t,.ref q]))(h2:t.length<=30)(h3:H q=A' (.lst xs))(h4:CLs H cs xs)(h5:cs.length<=2000)(h6:(∀c∈cs,aD t.length c))(h7:H pp=A' (.tup [.str<|aK hw,.ref la]))(h8:H la=A' (.lst ls))(h9:c9 H ds ls)(h10:ds.length<=3000)(h11:(∀d∈ds,be d))(h12:bL t cs hw [] ds=(out,LI))(h14:mZ out=LI)
   (h13:∀r l ys nd H',Same H H'->H r=LL->H l=LL->H' r=A' (.tup [.str<|aK hw,.ref l])->H' l=A' (.lst ys)->c9 H' (fj (ds.map<|bN<|bI out) nd) ys->QO nd (bM (wL<|ds.map<|bN<|bI out) (out.idxOf [])<|out.idxOf []+1)->PR (·<=·) nd->Q (.ref r) H'):J7 vs H Q
def BE:Sp:=λvs H Q _=>J7 vs H Q
theorem FW:aq ["sentence","paper","sets","firsts","lines","needed","numbers"] ["sentence","paper"] (aj HR):=⟨rfl,rfl,rfl,by decide+kernel,rfl,by decide+kernel,by decide+kernel⟩
theorem HU(F:Fun K "shortened_paper" "shortened_paper" HR f fd)(T:J6 mg)(aas:Fn P w K mg base 7 "whole_sets" g1 e1 ["sentence","paper"] FM)(Y3:Fn P w K mg base 1 "first_places" g2 e2 ["sets"] FT)(acI:Fn P w K mg base 1 "renamed" g3 e3 ["line","numbers"] By)(abi:Fn P w K mg base 2 "needed_by" g4 e4 ["lines","last"] FP)(abR:Fn P w K mg base 1 "renamed" g5 e5 ["line","numbers"] Bz):FnOk P w K mg base b7 8 f fd ["sentence","paper"] BE:=by
 have sc:=FW;refine F.ok FW (λvs H Q E h=>?_) λOT A outer s H vs Q E hr h=>?_
 ·obtain⟨p,q,pp,la,t,hw,xs,ls,cs,ds,out,rfl,_⟩:=h;rfl
 obtain⟨p,q,pp,la,t,hw,xs,ls,cs,ds,out,rfl,hp,ht,hq,Qx,h9,QH,hpp,Zy,Y0,h8,hgd,QG,adg,q'⟩:=h;have hu:=hr.units;have hol:out.length=ds.length:=by
  have:=cJ QG;simpa using this
 have hll:=dH Y0;obtain⟨he,U8⟩:=Bt adg;refine⟨_,(af (au (i:=2) sc.nd rfl (MA rfl)<|aG aas hr (by lia) rfl<|aa (pv 0)<|aa (pv 1) ae)
  (af (au (i:=3) sc.nd rfl (Ra rfl)<|aG Y3 hr (by lia) rfl<|aa (pv 2) ae)
  (af (au (i:=4) sc.nd rfl (Ra rfl)<|bp (NY:=["line","firsts"]) (idx:=[LL,A' 3]) rfl ⟨by with_unfolding_all rfl,(by with_unfolding_all exact⟨rfl,trivial⟩),λ_=>by rfl,by rfl,by rfl,by rfl,by decide⟩ (bw<|av am (pv 1) ai λ_ _=>rfl) (λ_ _ _ _=>(aE (i:=0) (show Nf (["line","firsts"]:gV Str) by decide+kernel) rfl<|MA rfl)) (λ_ _ _ _=>bJ) λ_ _ _ _=>(aG acI hr (by lia) rfl<|aa (pv 0)<|aa (pv 1) ae))
  (af (au (i:=5) sc.nd rfl (MA rfl)<|aG abi hr (by lia) rfl<|aa (pv 4)<|aa (cv ML RH Ue (oS hu) (pv 2)<|aa (bx ae) ae) ae)
  (af (au (i:=6) sc.nd rfl (Ra rfl)<|bg (uH rfl) rfl T.dict UH<|aa (bp (NY:=["number","place"]) (idx:=[LL,LL]) rfl ⟨by with_unfolding_all rfl,(by with_unfolding_all exact trivial),λ_=>by rfl,by rfl,by rfl,by rfl,by decide⟩ (pS rfl T.enumerate<|pv 5) (λ_ _ _ _=>(DS (K:=K) (n:=2) rfl rfl<|eI (aE (i:=0) (show Nf (["number","place"]:gV Str) by decide+kernel) rfl<|MA rfl)<|eI (aE (i:=1) (show Nf (["number","place"]:gV Str) by decide+kernel) rfl<|MA rfl) lu)) (λ_ _ _ _=>bJ) λ_ _ _ _=>(bx<|aa (pv 1)<|aa (pv 0) ae)) ae)
  (ah<|ao<|bx<|aa (av am (pv 1) ai λ_ _=>rfl)<|aa (bp (NY:=["place","numbers","lines"]) (idx:=[LL,A' 6,A' 4]) rfl ⟨by with_unfolding_all rfl,(by with_unfolding_all exact⟨rfl,rfl,trivial⟩),λ_=>by rfl,by rfl,by rfl,by rfl,by decide⟩ (bw<|pv 5) (λ_ _ _ _=>(aE (i:=0) (show Nf (["place","numbers","lines"]:gV Str) by decide+kernel) rfl<|MA rfl)) (λ_ _ _ _=>bJ) λ_ _ _ _=>(aG abR hr (by lia) rfl<|aa (av (lA (K:=K) rfl) (pv 2) (pv 0) λ_ _=>rfl)<|aa (pv 1) ae)) ae)))))),?_⟩
 refine⟨_,rfl,_,rfl,p,q,pp,la,t,hw,xs,ls,cs,ds,out,rfl,hp,ht,hq,Qx,h9,QH,hpp,Zy,Y0,by lia,(λd hd=>(qu<|hgd d hd).1),QG,adg,λsl ys H1 k1 nsl Xb T8=>?_⟩;have hyl:=T8.length;refine⟨_,rfl,sl,ys,out,rfl,Xb,T8,by lia,λfl H2 k2 nfl hfl=>?_⟩;have k02:=k1.trans k2;have ale:(ir out).length=ds.length:=by unfold ir;rw[J',hol]
 have hnm:∀(i:Nat) (d:Mc),ds[i]? =A' d->∀k∈bz d,0<=k/\k < (i:Int):=λi d hd k hk=>by
  have aeb:=p_ QG hd;have:=sO (hgd _<|LZ hd) aeb k hk;rw[ME]at this;lia
 refine⟨_,rfl,.inr<|.inl ⟨pp,_,1,.ref la,rfl,rfl,SqT.of<|k02 _ _ hpp,rfl,la,rfl,⟨_,SqL.of<|k02 _ _ Zy⟩,λD1 nD1=>?_⟩⟩;refine pe [A'<|.ref fl] (λi=>bN (bI out)<|ds.getD i .none) rfl (k02 _ _ Zy) nD1 (by lia) (λi hi=>jE<|hgd _<|LZ<|aL (d:=Ox) (show i < ds.length by lia)) (λi x hx H' R k r=>?_) λl1 H3 k3 hD1 Sx=>?_
 ·have V3:i < ds.length:=by have:=(LS.mp hx).1;lia
  have hd:=aL (d:=Ox) V3;have rx:=fU (cR (k02.trans k) _ _ Y0) hx;exact⟨_,rfl,_,rfl,x,fl,ds.getD i .none,ir out,rfl,rx,hgd _<|LZ hd,k _ _ hfl,(λz hz=>by have:=hnm i _ hd z hz;lia),r⟩
 rw[kn Ox (bN<|bI out) ds<|by lia]at Sx;have g1:∀d∈ds.map (bN<|bI out),be d:=λd hd=>by
  obtain⟨d',h',rfl⟩:=MF.mp hd;exact jE<|hgd d' h'
 have adb:([]:gV Int)∈out:=LZ U8;obtain⟨hei,hea⟩:=iu adb;have k03:=k02.trans k3;have k13:=k2.trans k3;refine⟨_,rfl,_,rfl,.inl ⟨rfl,_,SqL.of<|k13 _ _ Xb⟩,Mw _,λet net=>?_⟩;have k4:=ag net<|.tup [];have s4:upd H3 et (.tup []) et=A' (.tup []):=ad;generalize upd H3 et (.tup [])=H4 at k4 s4 ⊢;have eG:∀j,j < out.length->(out.map fN).getD j .none=fN (out.getD j []):=λj hj=>by
  rw[LK,LK,Mp,LU hj];rfl
 refine⟨.tuple [],out.map fN,_,sl,ys,out.idxOf [],rfl,rfl,(k13.trans k4) _ _ Xb,(T8.mono<|k13.trans k4).rds,bB s4 aQ,by decide+kernel,gI out,by decide+kernel,by rw[J'];exact hei,?_,λm hm=>?_,?_⟩
 ·rw[eG _ hei,iZ,LK,hea];rfl
 ·rw[eG _ (by lia),iZ];refine LW λz=>?_;have hm2:out[m]? =A' []:=by rw[LK,LU<|by lia]at z;rw[LU<|by lia];exact M0 A' z
  have:=vg hm2;lia
 refine⟨D1,l1,ds.map<|bN<|bI out,out.idxOf [],rfl,k4 _ _ hD1,cR k4 _ _ Sx,g1,by rw[J'];lia,by rw[J'];lia,λnl nd H5 k5 nnl hnl hpn hsn=>?_⟩;have abM:QO nd (bM (wL<|ds.map<|bN<|bI out) (out.idxOf [])<|out.idxOf []+1):=hpn;clear hpn;have aco:∀i,i<=out.idxOf []->∀k∈wL (ds.map<|bN<|bI out) i,0<=k/\k < (i:Int):=λi hi k hk=>by
  have hd:=aL (d:=Ox) (show i < ds.length by lia);have e1:(ds.map<|bN<|bI out).getD i .none=bN (bI out) (ds.getD i .none):=by rw[LK,Mp,hd];rfl
  have RU:k∈bz ((ds.map<|bN<|bI out).getD i .none):=hk;rw[e1,o9<|hgd _<|LZ hd]at RU;obtain⟨k0,hk0,rfl⟩:=MF.mp RU;have hr0:=hnm i _ hd k0 hk0;obtain⟨n0,rfl⟩:∃n:Nat,k0=(n:Int):=⟨k0.toNat,by lia⟩;have hn0:n0 < out.length:=by lia
  have ef:bI out (n0:Int)=((out.idxOf (out[n0]'hn0):Nat):Int):=by
   unfold bI ir;rw[M3,LK,Mp,LU hn0];rfl
  have:=vg<|LU hn0;rw[ef];lia
 have ad':∀x∈nd,0<=x/\x<=((out.idxOf []:Nat):Int):=λx hx=>fZ aco<|abM.mem_iff.mp hx;have ahA:nd.Nodup:=abM.nodup_iff.mpr<|fY _;have afn:nd.length<=9000:=by
  have:=iM (nm:=wL<|ds.map<|bN<|bI out) (last:=out.idxOf []) (λi=>iN _)<|out.idxOf []+1;rw[abM.length_eq];lia
 have aek:∀x∈nd,∀k∈bz ((ds.map<|bN<|bI out).getD x.toNat .none),k∈nd:=λx hx k hk=>by
  have YY:=abM.mem_iff.mp hx;have hr2:=ad' x hx;obtain⟨n,rfl⟩:∃n:Nat,x=(n:Int):=⟨x.toNat,by lia⟩;rw[M3]at hk;exact abM.mem_iff.mpr<|jF aco YY k hk
 have k35:=k4.trans k5;have k05:=k03.trans k35;refine⟨_,rfl,nl,rfl,⟨_,SqL.of hnl⟩,λD2 nD2=>?_⟩;refine yg (K:=K) (a:=nl) (xs:=nd.map V.int) (BC [] H5 D2 nd) ⟨LL,LL,[],rfl,ad,ag nD2 _,rfl,rfl,λj t k h _=>by simp at h⟩ ?_ ?_ ?_
 ·rintro i σ zs G _ ⟨_,_,_,_,i1,i2,_⟩;exact⟨i1,SqL.of<|i2 _ _ hnl⟩
 ·rintro i x σ zs G t0 hx ⟨v0,v1,ts,rfl,i1,i2,rfl,i4,i5⟩ ht0;obtain⟨k,rfl,hk⟩:=dh hx;have V3:=(LS.mp hk).1;have k6:=ag ht0<|.tup [.int (i:Nat),.int k];have s6:upd G t0 (.tup [.int (i:Nat),.int k]) t0=A' (.tup [.int (i:Nat),.int k]):=ad;generalize upd G t0 (.tup [.int (i:Nat),.int k])=G6 at k6 s6 ⊢;refine⟨t0,[.int (i:Nat),.int k],rfl,SqT.of s6,rfl,_,_,rfl,_,_,rfl,rfl,HS ⟨_,rfl,_,rfl,(by show 2<=sizeLine;decide),λtt ntt=>?_⟩⟩;have k7:=ag ntt<|.tup [.int k,.int (i:Nat)];have d7:=(k6.trans k7) _ _ i1;refine⟨d7,aW (by rw[J'];lia),_,_,ts++[tt],rfl,?_,(i2.trans<|k6.trans k7).upd_new nD2 _,?_,by rw[LX,i4];rfl,λj t' k' hj RU=>?_⟩
  ·rw[ad]
  ·rw[Mq];rfl
  ·have keep:∀{b:LJ} {zs:gV V},upd G6 tt (.tup [.int k,.int (i:Nat)]) b=A' (.tup zs)->upd (upd G6 tt<|.tup [.int k,.int (i:Nat)]) D2 (.lst<|ts.map V.ref++[.ref tt]) b=A' (.tup zs):=λe=>by
    rw[al λz=>by rw[z,d7]at e;cases e];exact e
   obtain g|g:=Ru j ts.length
   ·rw[Nd g]at hj;exact keep<|(k6.trans k7) _ _<|i5 j t' k' hj RU
   ·rw[Nh g]at hj;have hji:j=i:=by
     have:=(LS.mp hj).1;rw[Mz]at this;lia
    subst hji;rw[i4,PF]at hj;cases hj;rw[hk]at RU;cases RU;exact keep ad
 ·rintro σ zs G ⟨v0,v1,ts,rfl,i1,i2,rfl,i4,i5⟩;rw[J']at i4;refine⟨D2,ts,lm nd,rfl,i1,?_,λj t' kv hj hkv=>?_,?_,?_,λdn ndn=>?_⟩
  ·unfold lm;rw[J',NS,i4]
  ·have hjl:=(LS.mp hj).1;unfold lm at hkv;rw[Mp,QT<|by lia]at hkv;cases hkv;exact i5 j t' _ hj (aL (d:=(0:Int))<|by lia)
  ·rw[yH];exact abJ _ (λa b h z=>h<|Qz z) ahA
  ·unfold lm;rw[J',NS];exact afn
  have k8:=ag ndn<|.dK<|lm nd;have s8:upd G dn (.dK<|lm nd) dn=A' (.dK<|lm nd):=ad;generalize upd G dn (.dK<|lm nd)=G8 at k8 s8 ⊢;have k58:=i2.trans k8;have k08:=k05.trans k58;refine⟨_,rfl,.inr<|.inl ⟨pp,_,0,.str<|aK hw,rfl,rfl,SqT.of<|k08 _ _ hpp,rfl,_,rfl,nl,rfl,⟨_,SqL.of<|k58 _ _ hnl⟩,λD3 nD3=>?_⟩⟩;refine pe [A'<|.ref dn,A'<|.ref D1] (λi=>bN (λk=>((nd.idxOf k:Nat):Int))<|(ds.map<|bN<|bI out).getD (nd.getD i 0).toNat .none) rfl (k58 _ _ hnl) nD3 (by rw[J'];exact afn) (λi hi=>?_) (λi x hx H' R k r=>?_) λl3 H9 k9 hD3 Zz=>?_
  ·rw[J']at hi;have hx:=ad' _<|LZ<|aL (d:=(0:Int)) hi;exact jE (g1 _<|LZ<|aL (d:=Ox)<|by rw[J'];lia)
  ·obtain⟨z,rfl,hz⟩:=dh hx;have hzd:nd.getD i 0=z:=by rw[LK,hz];rfl
   rw[hzd]at r;have hzm:=LZ hz;have hzr:=ad' z hzm;obtain⟨n,rfl⟩:∃n:Nat,z=(n:Int):=⟨z.toNat,by lia⟩;rw[M3]at r;have hn:n < (ds.map<|bN<|bI out).length:=by rw[J'];lia
   have afv:=cR (k35.trans<|k58.trans k) _ _ Sx;have ak5:=dH afv;obtain⟨v,hv⟩:∃v,l1[n]? =A' v:=⟨_,LU (by lia)⟩;have rv:=fU afv hv;have V4:=aek _ hzm;rw[M3]at V4;exact⟨_,rfl,_,rfl,.inl ⟨D1,l1,(n:Int),v,rfl,rfl,SqL.of ((k35.trans (k58.trans k)) _ _ hD1),cb hv,_,rfl,v,dn,(ds.map (bN (bI out))).getD n .none,lm nd,λk=>((nd.idxOf k:Nat):Int),rfl,rv,g1 _ (LZ (aL (d:=Ox) hn)),k _ _ s8,(λk' RU=>BD (V4 k' RU)),r⟩⟩
  ·refine⟨(by show 2<=sizeLine;decide),λr nr=>?_⟩;have k10:=ag nr<|.tup [.str<|aK hw,.ref D3];rw[J',kn (0:Int) (λp=>bN (λk=>((nd.idxOf k:Nat):Int))<|(ds.map<|bN<|bI out).getD p.toNat .none) nd rfl]at Zz;exact q' r D3 l3 nd _ (k08.trans<|k9.trans k10) ((k08.trans k9).free nr) (k08.free nD3) ad (k10 _ _ hD3) (cR k10 _ _ Zz) abM hsn
theorem fJ(t:Str)(cs:gV (gV Int))(hw:Md)(sets:gV (gV Int))(k:Int):aP t cs hw sets (.tuple [.str aN,.int k])=if hw=LI then LL else gJ cs (.int k):=by
 unfold aP;have f1:bP aN 2 (.tuple [.str aN,.int k])=true:=by
  show(decide (2=2)&&decide (aN=aN))=LI
  simp
 have f2:bP bn 2 (.tuple [.str aN,.int k])=false:=by
  show(decide (2=2)&&decide (aN=bn))=LM
  decide+kernel
 have f3:bP aZ 4 (.tuple [.str aN,.int k])=false:=rfl;have f4:bP aO 2 (.tuple [.str aN,.int k])=false:=by
  show(decide (2=2)&&decide (aN=aO))=LM
  decide+kernel
 rw[f1,f2,f3,f4];cases hw<;>rfl
theorem iO(t:Str)(cs:gV (gV Int))(hw:Md)(sets:gV (gV Int))(c:gV Int):aP t cs hw sets (.tuple [.str bn,fN c])=if hw=LI then iW t.length cs (fN c)else none:=by
 unfold aP;have f1:bP aN 2 (.tuple [.str bn,fN c])=false:=by
  show(decide (2=2)&&decide (bn=aN))=LM
  decide+kernel
 have f2:bP bn 2 (.tuple [.str bn,fN c])=true:=by
  show(decide (2=2)&&decide (bn=bn))=LI
  simp
 have f3:bP aZ 4 (.tuple [.str bn,fN c])=false:=rfl;have f4:bP aO 2 (.tuple [.str bn,fN c])=false:=by
  show(decide (2=2)&&decide (bn=aO))=LM
  decide+kernel
 rw[f1,f2,f3,f4];cases hw<;>rfl
theorem gy(t:Str)(cs:gV (gV Int))(hw:Md)(sets:gV (gV Int))(i j z:Int):aP t cs hw sets (.tuple [.str aZ,.int i,.int j,.int z])=dI t hw sets (.int i) (.int j) (.int z):=by
 unfold aP;have f1:bP aN 2 (.tuple [.str aZ,.int i,.int j,.int z])=false:=rfl;have f2:bP bn 2 (.tuple [.str aZ,.int i,.int j,.int z])=false:=rfl;have f3:bP aZ 4 (.tuple [.str aZ,.int i,.int j,.int z])=true:=by
  show(decide (4=4)&&decide (aZ=aZ))=LI
  simp
 rw[f1,f2,f3];cases hw<;>rfl
theorem gz{n:Nat}{k:Int}(h:0<=k/\k < (n:Int)):bj n (.int k)=A' k.toNat:=by
 show(if 0<=k/\k < (n:Int)then A' k.toNat else LL)=_
 rw[Ml h]
theorem jG:dI t hw sets (.int i) (.int j) (.int z)=A' c↔(0<=i/\i < (sets.length:Int))/\(0<=j/\j < (sets.length:Int))/\dR t hw (sets.getD i.toNat []) (sets.getD j.toNat []) z=LI/\bK (sets.getD i.toNat []) (sets.getD j.toNat []) z=c:=by
 unfold dI;by_cases hi:0<=i/\i < (sets.length:Int)
 ·by_cases hj:0<=j/\j < (sets.length:Int)
  ·rw[gz hi,gz hj];show(if dR t hw (sets.getD i.toNat []) (sets.getD j.toNat []) z=LI then A' (bK (sets.getD i.toNat []) (sets.getD j.toNat []) z)else LL)=A' c↔_
   constructor
   ·intro h
    split at h
    ·rename_i hb;exact⟨hi,hj,hb,MC h⟩
    ·cases h
   ·rintro⟨_,_,hb,e⟩;rw[Ml hb,e]
  ·have:bj sets.length (.int j)=none:=Mi hj;rw[gz hi,this];exact⟨λh=>(nomatch h),λh=>absurd h.2.1 hj⟩
 ·have:bj sets.length (.int i)=none:=Mi hi;rw[this];exact⟨λh=>(nomatch h),λh=>absurd h.1 hi⟩
theorem jH:gS t hw sets (.int k)=A' c↔(0<=k/\k < (sets.length:Int))/\aR t hw (sets.getD k.toNat [])=c:=by
 unfold gS;by_cases hk:0<=k/\k < (sets.length:Int)
 ·rw[gz hk];exact⟨λh=>⟨hk,MC h⟩,λh=>M0 A' h.2⟩
 ·have:bj sets.length (.int k)=none:=Mi hk;rw[this];exact⟨λh=>(nomatch h),λh=>absurd h.1 hk⟩
theorem BF{ab9:gV (gV Int)}{f:Int->Int}(g:be d)(h:aP t cs hw sets d=A' c)
  (hf:∀k∈bz d,(0<=f k/\f k < (ab9.length:Int))/\ab9.getD (f k).toNat []=sets.getD k.toNat []):aP t cs hw ab9 (bN f d)=A' c:=by
 obtain⟨k,rfl⟩|⟨c',hc,rfl⟩|⟨k,rfl⟩|⟨i,j,z,rfl⟩:=g
 ·rw[dD,fJ];rw[fJ]at h;exact h
 ·rw[m9,iO];rw[iO]at h;exact h
 ·rw[e_,iI,jH];rw[iI,jH]at h;obtain⟨a,b⟩:=hf k (by rw[dy];exact LN.mpr rfl);exact⟨a,by rw[b];exact h.2⟩
 ·rw[fb,gy,jG];rw[gy,jG]at h;obtain⟨a1,b1⟩:=hf i (by rw[cU];exact L9);obtain⟨a2,b2⟩:=hf j (by rw[cU];exact LY _<|LN.mpr rfl);rw[b1,b2];exact⟨a1,a2,h.2.2.1,h.2.2.2⟩
theorem EF(h:be d):bN f (bN g d)=bN (λk=>f<|g k) d:=by
 obtain⟨k,rfl⟩|⟨c',hc,rfl⟩|⟨k,rfl⟩|⟨i,j,z,rfl⟩:=h
 ·rw[dD,dD,dD]
 ·rfl
 ·rw[e_,e_,e_]
 ·rw[fb,fb,fb]
theorem ja(h:0<=k/\k < (out.length:Int)):bI out k=((out.idxOf (out.getD k.toNat []):Nat):Int)/\out.getD (bI out k).toNat []=out.getD k.toNat []/\0<=bI out k/\bI out k<=k:=by
 obtain⟨n,rfl⟩:∃n:Nat,k=(n:Int):=⟨k.toNat,by lia⟩;rw[M3];have hn:n < out.length:=by lia
 have hg:=aL (d:=([]:gV Int)) hn;have e:bI out (n:Int)=((out.idxOf (out.getD n []):Nat):Int):=by
  unfold bI ir;rw[M3,LK,Mp,hg];rfl
 have hm:out.getD n []∈out:=LZ hg;obtain⟨h1,h2⟩:=iu hm;have h3:=vg hg;refine⟨e,?_,by lia,by lia⟩;rw[e,M3,LK,h2];rfl
theorem ng(QG:bL t cs hw [] ds=(out,LI))(hg:∀d∈ds,be d){i:Nat}{d:Mc}(hd:ds[i]? =A' d):∀k∈bz d,0<=k/\k < (i:Int):=λk hk=>by
 have:=sO (hg _<|LZ hd) (p_ QG hd) k hk;rw[ME]at this;lia
theorem BG{ds:gV Mc}{out:gV (gV Int)}(hg:∀d∈ds,be d)(hd:ds[i]? =A' d):wL (ds.map<|bN<|bI out) i=(bz d).map (bI out):=by
 unfold wL;rw[LK,Mp,hd];exact o9<|hg _<|LZ hd
theorem HV(QG:bL t cs hw [] ds=(out,LI))(hg:∀d∈ds,be d)(hl:last < ds.length):∀i,i<=last->∀k∈wL (ds.map<|bN<|bI out) i,0<=k/\k < (i:Int):=λi hi k hk=>by
 have hd:=aL (d:=Ox) (show i < ds.length by lia);have hol:out.length=ds.length:=by
  have:=cJ QG;simpa using this
 rw[BG hg hd]at hk;obtain⟨k0,h0,rfl⟩:=MF.mp hk;have hr:=ng QG hg hd k0 h0;obtain⟨_,_,a,b⟩:=ja (out:=out) (k:=k0) (by lia);lia
structure EG (t:Str)(cs:gV (gV Int))(hw:Md)(ds:gV Mc)(out:gV (gV Int))(nd:gV Int):Prop where
 run:bL t cs hw [] (fj (ds.map<|bN<|bI out) nd)=(nd.map λp=>out.getD p.toNat [],LI)
 good:∀d∈fj (ds.map<|bN<|bI out) nd,be d
 few:nd.length<=ds.length
 last:nd.getLast?=A' ((out.idxOf []:Nat):Int)
 nodup:(nd.map λp=>out.getD p.toNat []).Nodup
theorem FX{nd:gV Int}(h:nd.Pairwise (·<=·))(n:nd.Nodup){i j:Nat}{x y:Int}(hx:nd[i]? =A' x) (hy:nd[j]? =A' y) (Qi:x < y):i < j:=by
 obtain g|g|g:=Tt i j
 ·exact g
 ·subst g;rw[hx]at hy;cases hy;lia
 ·have:=OQ.mp h j i (LS.mp hy).1 (LS.mp hx).1 g;rw[(LS.mp hy).2,(LS.mp hx).2]at this;lia
theorem pf:∀{nd:gV Int} {b n:Int},nd.Pairwise (·<=·)->nd.Nodup->(∀x∈nd,b<=x/\x < n)->(nd.length:Int)<=max 0 (n - b)
 |[],b,n,_,_,_=>by simp;lia
 |x::r,b,n,h,u,hr=>by
  rw[Nc]at h;rw[NX]at u;have:=pf (b:=x+1) (n:=n) h.2 u.2 λy hy=>by
   have h1:=h.1 y hy;have h2:=hr y<|LY _ hy;have:x≠y:=λe=>u.1<|e▸hy;lia
  have hx:=hr x L9;rw[L4];lia
theorem wM(QG:bL t cs hw [] ds=(out,LI))(hg:∀d∈ds,be d)(hm:[]∈out)(hp:QO nd (bM (wL<|ds.map<|bN<|bI out) (out.idxOf [])<|out.idxOf []+1))(hs:nd.Pairwise (·<=·)):EG t cs hw ds out nd:=by
 have hol:out.length=ds.length:=by
  have:=cJ QG;simpa using this
 obtain⟨hE,hEa⟩:=iu hm;have afi:=HV QG hg (show out.idxOf [] < ds.length by lia);have S9:∀x∈nd,0<=x/\x<=((out.idxOf []:Nat):Int):=λx hx=>fZ afi<|hp.mem_iff.mp hx;have hnd:nd.Nodup:=hp.nodup_iff.mpr<|fY _;have aek:∀x∈nd,∀k∈wL (ds.map<|bN<|bI out) x.toNat,k∈nd:=λx hx k hk=>by
  have YY:=hp.mem_iff.mp hx;have:=S9 x hx;obtain⟨n,rfl⟩:∃n:Nat,x=(n:Int):=⟨x.toNat,by lia⟩;rw[M3]at hk;exact hp.mem_iff.mpr<|jF afi YY k hk
 have acw:∀x∈nd,bI out x=x:=λx hx=>by
  have gen:∀(j:Nat) (x:Int),x∈bM (wL<|ds.map<|bN<|bI out) (out.idxOf []) j->x=(out.idxOf []:Nat)\/∃k,0<=k/\k < (out.length:Int)/\x=bI out k:=by
   intro j
   induction j with
   |zero=>exact λx h=>.inl<|LN.mp h
   |succ j ih=>
    intro x h;obtain z|⟨_,z⟩:=needG_step.mp h
    ·exact ih x z
    ·have hd:=aL (d:=Ox) (show out.idxOf [] - j < ds.length by lia);rw[BG hg hd]at z;obtain⟨k0,h0,rfl⟩:=MF.mp z;have hr:=ng QG hg hd k0 h0;exact .inr ⟨k0,by lia,by lia,rfl⟩
  have aha:∀k:Int,0<=k/\k < (out.length:Int)->bI out (bI out k)=bI out k:=λk hk=>by
   obtain⟨e1,e2,e3,e4⟩:=ja hk;obtain⟨e5,_,_,_⟩:=ja (out:=out) (k:=bI out k) (by lia);rw[e5,e2,<-e1]
  obtain z|⟨k,h0,h1,z⟩:=gen _ x (hp.mem_iff.mp hx)
  ·obtain⟨e5,_,_,_⟩:=ja (out:=out) (k:=x) (by lia);rw[e5,z,M3,LK,hEa];rfl
  ·rw[z];exact aha k ⟨h0,h1⟩
 have afQ:∀(i:Nat) (x:Int),nd[i]? =A' x->(fj (ds.map<|bN<|bI out) nd)[i]? =A' (bN (λk=>((nd.idxOf (bI out k):Nat):Int))<|ds.getD x.toNat .none):=λi x hx=>by
  have hxr:=S9 x<|LZ hx;have hd:=aL (d:=Ox) (show x.toNat < ds.length by lia);unfold fj;rw[Mp,hx];show A' (bN _<|(ds.map<|bN<|bI out).getD x.toNat .none)=_
  have e1:(ds.map<|bN<|bI out).getD x.toNat .none=bN (bI out) (ds.getD x.toNat .none):=by rw[LK,Mp,hd];rfl
  rw[e1,EF<|hg _<|LZ hd]
 have N1:(fj (ds.map<|bN<|bI out) nd).length=nd.length:=by unfold fj;rw[J']
 refine⟨?_,?_,?_,?_,?_⟩
 ·have gen:∀i,i<=nd.length->bL t cs hw [] ((fj (ds.map<|bN<|bI out) nd).take i)=((nd.take i).map λp=>out.getD p.toNat [],LI):=by
   intro i
   induction i with
   |zero=>exact λ_=>rfl
   |succ i ih=>
    intro hi;have hx:=aL (d:=(0:Int)) (show i < nd.length by lia);generalize nd.getD i 0=x at hx;have hxm:=LZ hx;have hxr:=S9 x hxm;have hd:=aL (d:=Ox) (show x.toNat < ds.length by lia);have hgd:=hg _<|LZ hd;have aeb:=p_ QG hd;have hl:aP t cs hw ((nd.take i).map λp=>out.getD p.toNat []) (bN (λk=>((nd.idxOf (bI out k):Nat):Int))<|ds.getD x.toNat .none)=A' (out.getD x.toNat []):=by
     refine BF hgd aeb λk hk=>?_;have hkr:=ng QG hg hd k hk;obtain⟨_,f2,f3,f4⟩:=ja (out:=out) (k:=k) (by lia);have hkn:bI out k∈nd:=aek x hxm _ (by rw[BG hg hd];exact OK hk);have hj:=T6.mpr hkn;have hja:nd[nd.idxOf (bI out k)]? =A' (bI out k):=by rw[LU hj,Ws]
     have hji:=FX hs hnd hja hx (by lia);rw[M3,J',ME];refine⟨by lia,?_⟩;rw[LK,Mp,PP hji,hja];show out.getD (bI out k).toNat []=_
     rw[f2,LK,LK,PP<|by lia]
    rw[rV (ih<|by lia) (afQ i x hx) hl,MM,hx];show _=(((nd.take i++[x]).map λp=>out.getD p.toNat []),LI)
    rw[Mq];rfl
  have:=gen nd.length<|LQ _;rw[L8<|QN N1,L8<|LQ _]at this;exact this
 ·intro d hd;obtain⟨i,hi⟩:=Qr.mp hd;have V3:i < nd.length:=by
   have:=(LS.mp hi).1;lia
  have hx:=aL (d:=(0:Int)) V3;have hxr:=S9 _<|LZ hx;have hdd:=aL (d:=Ox) (show(nd.getD i 0).toNat < ds.length by lia);rw[afQ i _ hx]at hi;cases hi;exact jE<|hg _<|LZ hdd
 ·have:=pf (b:=0) (n:=(ds.length:Int)) hs hnd λx hx=>by
   have:=S9 x hx;lia
  lia
 ·have hlm:((out.idxOf []:Nat):Int)∈nd:=hp.mem_iff.mpr<|vf _;obtain⟨i,hi⟩:=Qr.mp hlm;have V3:=(LS.mp hi).1;have hx:=aL (d:=(0:Int)) (show nd.length - 1 < nd.length by lia);have hxr:=S9 _<|LZ hx;rw[Tc,hx];by_cases g:nd.getD (nd.length - 1) 0 < ((out.idxOf []:Nat):Int)
  ·have:=FX hs hnd hx hi g;lia
  ·congr 1
   lia
 ·refine Ny.mpr<|hnd.imp_of_mem λ{x y} hx hy S7 e=>S7 ?_;have ex:=acw x hx;have ey:=acw y hy;have hxr:=S9 x hx;have hyr:=S9 y hy;obtain⟨a1,_⟩:=ja (out:=out) (k:=x) (by lia);obtain⟨a2,_⟩:=ja (out:=out) (k:=y) (by lia);rw[ex]at a1;rw[ey]at a2;rw[a1,a2,e]
structure SS where
 lw:Md->gV Mc
 ow:Md->gV (gV Int)
 bs:gV Md
 fs:gV (LH<|gV Int)
 win:LH Md
def cV{α:Type}(F:Md->gV α)(b:Md)(x:α):Md->gV α:=λc=>if c=b then F c++[x]else F c
theorem bv{α:Type}(F:Md->gV α)(b:Md)(x:α):cV F b x b=F b++[x]:=Ml rfl
theorem cq{α:Type}(F:Md->gV α)(x:α)(h:c≠b):cV F b x c=F c:=Mi h
def dM(hw:Md)(d:Mc)(c:gV Int)(S:SS):SS:=if c∈S.ow hw then S else{S with lw:=cV S.lw hw d,ow:=cV S.ow hw c}
def nh(k:Nat):Mc:=.tuple [.str aO,.int (k:Int)]
def bF(t:Str)(hw:Md)(d:Mc)(c:gV Int)(S:SS):SS:=dM hw (nh<|((dM hw d c S).ow hw).idxOf c) (aR t hw c)<|dM hw d c S
def ph(i j:Nat)(v:Int):Mc:=.tuple [.str aZ,.int (i:Int),.int (j:Int),.int v]
def cr(O:gV (gV Int))(f s:gV Int)(v:Int):Mc:=if f.contains (-v)=LI then ph (O.idxOf s) (O.idxOf f) v else ph (O.idxOf f) (O.idxOf s) v
def dS(b:Md)(o:LH (gV Int))(S:SS):SS:={S with bs:=S.bs++[b],fs:=S.fs++[o]}
def ci(S:SS):SS:={S with bs:=S.bs.dropLast,fs:=S.fs.dropLast}
def fK(t:Str)(hw:Md):Nat->gV Int->SS->SS
 |0,_,S=>{S with win:=A' hw}
 |k+1,c,S=>if(c.contains ((k:Int)+1) || c.contains (-((k:Int)+1)))=LI then
   match S.fs.getD k LL with
   |none=>dS (!S.bs.getD k LM) (A' c)<|ci S
   |some F=>fK t hw k (aR t hw<|bK F c<|(k:Int)+1) (bF t hw (cr (S.ow hw) F c<|(k:Int)+1) (bK F c<|(k:Int)+1)<|ci S)
  else fK t hw k c (ci S)
def yI(hw:Md)(bs:gV Md)(c:gV Int):Prop:=∀l∈c,held hw bs l=LI
def dO:Nat->gV Md->Nat
 |_,[]=>0
 |n,b::r=>(if b=LI then 2 ^ n else 1)+dO (n - 1) r
def pend(fs:gV (LH<|gV Int)):Nat:=(fs.filter Option.isSome).length
def cu(S:SS):Nat:=(S.lw LI).length+(S.lw LM).length
def BH(t:Str)(S:SS)(k:Nat):Prop:=match S.fs.getD k LL with
 |none=>S.bs.getD k LM=LM
 |some F=>S.bs.getD k LM=LI/\F∈S.ow (!cF t k)/\yI (!cF t k) (S.bs.take k++[LM]) F/\((k:Int)+1∈F\/ -((k:Int)+1)∈F)
structure gX (t:Str)(cs:gV (gV Int))(S:SS):Prop where
 run:∀hw,bL t cs hw [] (S.lw hw)=(S.ow hw,LI)
 good:∀hw,∀d∈S.lw hw,be d
 nd:∀hw,(S.ow hw).Nodup
 flen:S.fs.length=S.bs.length
 blen:S.bs.length<=t.length
 fst:∀k,k < S.bs.length->BH t S k
def HW(S:SS):Prop:=∀h,([]:gV Int)∉S.ow h
theorem yJ(h:bL t cs hw [] ds=(out,LI))(g:aP t cs hw out d=A' c):bL t cs hw [] (ds++[d])=(out++[c],LI):=by
 rw[jZ h,g]
section
variable {S:SS}
theorem jb(h:c∈S.ow hw):dM hw d c S=S:=Ml h
theorem ez(h:c∉S.ow hw):dM hw d c S={S with lw:=cV S.lw hw d,ow:=cV S.ow hw c}:=Mi h
theorem put_bs:(dM hw d c S).bs=S.bs:=by
 unfold dM
 split<;>rfl
theorem put_fs:(dM hw d c S).fs=S.fs:=by
 unfold dM
 split<;>rfl
theorem put_win:(dM hw d c S).win=S.win:=by
 unfold dM
 split<;>rfl
theorem EH(hx:x∈S.ow h):x∈(dM hw d c S).ow h:=by
 by_cases g:c∈S.ow hw
 ·rw[jb g];exact hx
 ·rw[ez g];show x∈cV S.ow hw c h
  by_cases e:h=hw
  ·subst e;rw[bv];exact OA _ hx
  ·rw[cq _ _ e];exact hx
theorem lK:c∈(dM hw d c S).ow hw:=by
 by_cases g:c∈S.ow hw
 ·rw[jb g];exact g
 ·rw[ez g];show c∈cV S.ow hw c hw
  rw[bv];exact MR _<|LN.mpr rfl
theorem ni(hx:x∈(dM hw d c S).ow h):x∈S.ow h\/(h=hw/\x=c):=by
 by_cases g:c∈S.ow hw
 ·rw[jb g]at hx;exact .inl hx
 ·rw[ez g]at hx;have hx':x∈cV S.ow hw c h:=hx;by_cases e:h=hw
  ·subst e;rw[bv]at hx';obtain z|z:=Mt.mp hx'
   ·exact .inl z
   ·exact .inr ⟨rfl,LN.mp z⟩
  ·rw[cq _ _ e]at hx';exact .inl hx'
theorem sP(h:c∉S.ow hw):((dM hw d c S).ow hw).getLast?=A' c:=by
 rw[ez h];show(cV S.ow hw c hw).getLast?=_
 rw[bv,List.getLast?_append];rfl
theorem kq:cu (dM hw d c S)<=cu S+1:=by
 by_cases g:c∈S.ow hw
 ·rw[jb g];lia
 ·rw[ez g];show(cV S.lw hw d LI).length+(cV S.lw hw d LM).length<=_
  unfold cu;cases hw
  ·rw[bv,cq _ _ (by decide),LX,Mz];lia
  ·rw[bv,cq _ _ (by decide),LX,Mz];lia
theorem HX(hb:S'.bs=S.bs)(hf:S'.fs=S.fs)(hs:∀h x,x∈S.ow h->x∈S'.ow h)(h:BH t S k):BH t S' k:=by
 unfold BH at h ⊢;rw[hb,hf];cases e:S.fs.getD k LL with
 |none=>rw[e]at h;exact h
 |some F=>rw[e]at h;exact⟨h.1,hs _ _ h.2.1,h.2.2⟩
theorem wN(I:gX t cs S)(hl:aP t cs hw (S.ow hw) d=A' c)(hg:be d):gX t cs (dM hw d c S):=by
 by_cases g:c∈S.ow hw
 ·rw[jb g];exact I
 ·have sub:=λh x (hx:x∈S.ow h)=>EH (hw:=hw) (d:=d) (c:=c) hx;rw[ez g]at sub ⊢;refine⟨λh=>?_,λh d' hd=>?_,λh=>?_,I.flen,I.blen,λk hk=>HX (S:=S) (S':={S with lw:=cV S.lw hw d,ow:=cV S.ow hw c}) rfl rfl sub<|I.fst k hk⟩
  ·show bL t cs h [] (cV S.lw hw d h)=(cV S.ow hw c h,LI)
   by_cases e:h=hw
   ·subst e;rw[bv,bv];exact yJ (I.run h) hl
   ·rw[cq _ _ e,cq _ _ e];exact I.run h
  ·have hd':d'∈cV S.lw hw d h:=hd;by_cases e:h=hw
   ·subst e;rw[bv]at hd';obtain z|z:=Mt.mp hd'
    ·exact I.good h d' z
    ·rw[LN.mp z];exact hg
   ·rw[cq _ _ e]at hd';exact I.good h d' hd'
  ·show(cV S.ow hw c h).Nodup
   by_cases e:h=hw
   ·subst e;rw[bv,Oa];exact⟨I.nd h,by simp,λx hx y hy z=>g<|by rw[LN.mp hy]at z;exact z▸hx⟩
   ·rw[cq _ _ e];exact I.nd h
theorem pi(k:Nat):be (nh k):=.inr<|.inr<|.inl ⟨_,rfl⟩
theorem iP(i j:Nat)(v:Int):be (ph i j v):=.inr<|.inr<|.inr ⟨_,_,_,rfl⟩
theorem yK(h:c∈O):aP t cs hw O (nh<|O.idxOf c)=A' (aR t hw c):=by
 obtain⟨h1,h2⟩:=iu h;unfold nh;rw[iI,jH];refine⟨by lia,?_⟩;rw[M3,LK,h2];rfl
theorem kr(I:gX t cs S)(hl:aP t cs hw (S.ow hw) d=A' c)(hg:be d):gX t cs (bF t hw d c S):=
 wN (wN I hl hg) (yK lK) (pi _)
theorem fc:(bF t hw d c S).bs=S.bs:=put_bs.trans put_bs
theorem iw:(bF t hw d c S).fs=S.fs:=put_fs.trans put_fs
theorem learn_win:(bF t hw d c S).win=S.win:=put_win.trans put_win
theorem fe:cu (bF t hw d c S)<=cu S+2:=by
 have h1:=kq (hw:=hw) (d:=d) (c:=c) (S:=S);have h2:=kq (hw:=hw) (d:=nh<|((dM hw d c S).ow hw).idxOf c) (c:=aR t hw c) (S:=dM hw d c S);unfold bF;lia
theorem kt:aR t hw c∈(bF t hw d c S).ow hw:=lK
theorem ku(hE:HW S):(aR t hw c≠[]/\HW (bF t hw d c S))\/(aR t hw c=[]/\((bF t hw d c S).ow hw).getLast?=A' []/\∀h,h≠hw->[]∉(bF t hw d c S).ow h):=by
 have frm:∀h,[]∈(bF t hw d c S).ow h->h=hw/\(aR t hw c=[]\/c=[]):=λh hx=>by
  obtain z|⟨z,e⟩:=ni hx
  ·obtain z|⟨z,e⟩:=ni z
   ·exact absurd z<|hE h
   ·exact⟨z,.inr e.symm⟩
  ·exact⟨z,.inl e.symm⟩
 by_cases g:aR t hw c=[]
 ·refine .inr ⟨g,?_,λh hn hx=>hn (frm h hx).1⟩;by_cases e:c=[]
  ·subst e;have S9:aR t hw []∈(dM hw d [] S).ow hw:=lK;unfold bF;rw[jb S9];exact sP<|hE hw
  ·have hn:aR t hw c∉(dM hw d c S).ow hw:=λz=>by
    rw[g]at z;obtain z|⟨_,z⟩:=ni z
    ·exact hE hw z
    ·exact e z.symm
   unfold bF;rw[sP hn,g]
 ·refine .inl ⟨g,λh hx=>?_⟩;obtain z|z:=(frm h hx).2
  ·exact g z
  ·exact g (by rw[z];rfl)
end
theorem eD(z:Int):absI (-z)=absI z:=by
 obtain⟨_,e⟩|⟨_,e⟩:=b8 z<;>obtain⟨_,e'⟩|⟨_,e'⟩:=b8 (-z)<;>lia
theorem BI(hz:1<=z)(h:absI l=z):l=z\/l=-z:=by
 obtain⟨_,e⟩|⟨_,e⟩:=b8 l<;>lia
def FY(t:Str)(hw:Md)(c:gV Int):Prop:=c=[]\/∃l∈c,cF t (absI l - 1).toNat=!hw/\∀m∈c,absI m<=absI l
theorem jc(h:aD n c):FY t hw (aR t hw c):=by
 obtain e|e:=(gn ((c.filter λl=>!(cF t (absI l - 1).toNat == hw)).map absI) 0).2
 ·refine .inl<|RB.mpr λl hl=>?_;have h1:=(h.2 l hl).1;have e':eV t hw c=0:=e;rw[MQ];lia
 ·obtain⟨l,hl,e2⟩:=MF.mp e;obtain⟨Sx,Up⟩:=MP.mp hl;have e':absI l=eV t hw c:=e2;refine .inr ⟨l,MP.mpr ⟨Sx,by rw[MQ];lia⟩,?_,λm hm=>?_⟩
  ·cases g:cF t (absI l - 1).toNat<;>cases hw<;>rw[g]at Up<;>first|rfl|cases Up
  ·have:=(MP.mp hm).2;rw[MQ]at this;lia
theorem BJ(h:yI hw bs c)(hl:l∈c)(h1:1<=absI l):absI l<=(bs.length:Int):=by
 obtain g|g:=Ru (absI l - 1).toNat bs.length
 ·lia
 ·have:=h l hl;rw[di g]at this;cases this
theorem jI(h:yI hw (bs++[b]) c)(hl:l∈c)(h1:1<=absI l)(S7:absI l≠(bs.length:Int)+1):held hw bs l=true:=by
 have h2:=BJ h hl h1;rw[LX,Mz]at h2;have h3:=h l hl;rw[mD<|by lia]at h3;exact h3
theorem wO(hz:z=(bs.length:Int)+1)(h:yI hw (bs++[b]) c)(S9:z∈c\/ -z∈c):(if(b == hw)=LI then z else -z)∈c:=by
 have key:∀l∈c,absI l=z->(b == decide (0 < l))=hw:=λl hl e=>by
  have h3:=h l hl;rw[mE<|by lia]at h3;exact eq_of_beq h3
 have hzp:absI z=z:=dg (by lia);have hzn:absI (-z)=z:=by rw[eD,hzp]
 obtain g|g:=S9
 ·have:=key z g hzp;rw[Ma (show 0 < z by lia)]at this;have e:(b == hw)=true:=by cases b<;>cases hw<;>first|rfl|cases this
  rw[Ml e];exact g
 ·have:=key (-z) g hzn;rw[LW (show¬0 < -z by lia)]at this;have e:(b == hw)=false:=by cases b<;>cases hw<;>first|rfl|cases this
  rw[e,Mi Mb];exact g
theorem sQ(hz:z=(bs.length:Int)+1)(kf:aD n f)(ks:aD n s)(hf:yI hw (bs++[b1]) f)(hs:yI hw (bs++[b2]) s):dz f s z=false:=by
 cases g:dz f s z with
 |false=>rfl
 |true=>
  obtain⟨l,hl,hc⟩:=MW.mp g;obtain⟨Sx,Up⟩:=MP.mp hl;have S7:absI l≠(bs.length:Int)+1:=by
   have:¬absI l=z:=by simpa using Up
   lia
  have hm:=Mo.mp hc;have r1:=(kf.2 l Sx).1;have a1:=jI hf Sx r1 S7;have a2:=jI hs hm (by rw[eD];exact r1) (by rw[eD];exact S7);obtain⟨p,e⟩|⟨p,e⟩:=b8 l
  ·exact(gu (show 1<=l by lia) a1 a2).elim
  ·exact(gu (show 1<=-l by lia) a2<|by rw[aaP];exact a1).elim
theorem yL(hf:Ups f)(hs:Ups s)(h1:dz f s z=LM)(h2:dz s f z=LM):bK f s z=bK s f z:=by
 have a:=dA hf hs h1;have b:=dA hs hf h2;exact jx a.1 b.1 λl=>(a.2 l).trans (by rw[Or.comm];exact(b.2 l).symm)
theorem dX{α:Type}{l:gV α}{k:Nat}{d:α}(h:l.length=k+1):l=l.dropLast++[l.getD k d]:=by
 have S7:l≠[]:=λz=>by rw[z]at h;cases h
 have e:l.getD k d=l.getLast S7:=by
  rw[LK,Uk,LU<|by lia];simp [h]
 rw[e];exact(Sb S7).symm
section
variable {S:SS}
theorem sR(hc:∀c∈cs,aD t.length c)(I:gX t cs S)(hw:Md):∀c∈S.ow hw,aD t.length c:=λc h=>by
 have:=pZ (hw:=hw) hc (ds:=S.lw hw) (sets:=[]) (λ_ z=>nomatch z);rw[I.run hw]at this;exact this c h
theorem qx(I:gX t cs S)(hk:S.bs.length=k+1):gX t cs (ci S):=by
 have hb:=dX (d:=LM) hk;have hf:=dX (d:=LL)<|I.flen.trans hk;have lb:S.bs.dropLast.length=k:=by rw[Nw,hk];rfl
 have lf:S.fs.dropLast.length=k:=by rw[Nw,I.flen,hk];rfl
 refine⟨I.run,I.good,I.nd,lf.trans lb.symm,?_,λj hj=>?_⟩
 ·show S.bs.dropLast.length<=_
  have:=I.blen;lia
 ·have hj':j < k:=by
   have:j < S.bs.dropLast.length:=hj;lia
  have:=I.fst j (by lia);unfold BH at this ⊢;have e1:(ci S).fs.getD j LL=S.fs.getD j none:=by
   show S.fs.dropLast.getD j LL=_
   rw[LK,LK,Rz,Ml<|by rw[I.flen];lia]
  have e2:(ci S).bs.getD j LM=S.bs.getD j false:=by
   show S.bs.dropLast.getD j LM=_
   rw[LK,LK,Rz,Ml<|by lia]
  have e3:(ci S).bs.take j=S.bs.take j:=by
   show S.bs.dropLast.take j=_
   rw[Qs,SX]
   congr 1
   lia
  rw[e1,e2,e3];exact this
theorem sS(I:gX t cs S)(hk:S.bs.length < t.length)(h:BH t (dS b o S) S.bs.length):gX t cs (dS b o S):=by
 refine⟨I.run,I.good,I.nd,?_,?_,λj hj=>?_⟩
 ·show(S.fs++[o]).length=(S.bs++[b]).length
  rw[LX,LX,I.flen];rfl
 ·show(S.bs++[b]).length<=_
  rw[LX,Mz];lia
 ·have hj':j < S.bs.length+1:=by
   have:j < (S.bs++[b]).length:=hj;rw[LX,Mz]at this;exact this
  by_cases e:j=S.bs.length
  ·subst e;exact h
  ·have:=I.fst j (by lia);unfold BH at this ⊢;have e1:(dS b o S).fs.getD j LL=S.fs.getD j none:=by
    show(S.fs++[o]).getD j LL=_
    rw[LK,LK,Nd<|by rw[I.flen];lia]
   have e2:(dS b o S).bs.getD j LM=S.bs.getD j false:=by
    show(S.bs++[b]).getD j LM=_
    rw[LK,LK,Nd<|by lia]
   have e3:(dS b o S).bs.take j=S.bs.take j:=P_ (by lia);rw[e1,e2,e3];exact this
theorem wP(I:gX t cs S):BH t (dS b o S) S.bs.length↔match o with
  |none=>b=LM
  |some F=>b=LI/\F∈S.ow (!cF t S.bs.length)/\yI (!cF t S.bs.length) (S.bs++[LM]) F/\((S.bs.length:Int)+1∈F\/ -((S.bs.length:Int)+1)∈F):=by
 unfold BH;have e1:(dS b o S).fs.getD S.bs.length LL=o:=by
  show(S.fs++[o]).getD S.bs.length LL=_
  rw[LK,Nh (by rw[I.flen];exact LQ _),I.flen,PF];rfl
 have e2:(dS b o S).bs.getD S.bs.length LM=b:=by
  show(S.bs++[b]).getD S.bs.length LM=_
  rw[LK,Nh<|LQ _,PF];rfl
 have e3:(dS b o S).bs.take S.bs.length=S.bs:=List.take_left;rw[e1,e2,e3];exact Iff.rfl
theorem nj(a b:gV (LH<|gV Int)):pend (a++b)=pend a+pend b:=by
 unfold pend;rw[OX,LX]
structure nn (t:Str)(cs:gV (gV Int))(hw:Md)(c:gV Int)(S:SS):Prop where
 I:gX t cs S
 mem:c∈S.ow hw
 agr:yI hw S.bs c
 dr:FY t hw c
 win:S.win=LL
 emp:(c≠[]/\HW S)\/(c=[]/\(S.ow hw).getLast?=A' []/\∀h,h≠hw->[]∉S.ow h)
inductive BK (t:Str)(cs:gV (gV Int))(hw:Md)(S S':SS):Prop
 |on (I:gX t cs S') (aa6:S'.win=LL) (emp:HW S') (pre:gV Md) (hb:S'.bs=pre++[LI]) (hp:(pre++[LM]) <+:S.bs) (hn:cu S'+2*pend S'.fs<=cu S+2*pend S.fs+2):BK t cs hw S S'
 |won (I:gX t cs S') (aa6:S'.win=A' hw) (hb:S'.bs=[]) (he:(S'.ow hw).getLast?=A' []) (hn:cu S'<=cu S+2*pend S.fs):BK t cs hw S S'
theorem nu(hc:∀c∈cs,aD t.length c)(T:nn t cs hw c S)(hk:S.bs.length=k+1)(S9:(k:Int)+1∈c\/ -((k:Int)+1)∈c):hw=!cF t k/\c≠[]/\HW S:=by
 have QH:=sR hc T.I hw c T.mem;have acA:c≠[]:=λz=>by rw[z]at S9;obtain z|z:=S9<;>cases z
 refine⟨?_,acA,T.emp.elim (λz=>z.2) λz=>absurd z.1 acA⟩;obtain z|⟨l,hl,h1,h2⟩:=T.dr
 ·exact absurd z acA
 ·have ha:=BJ T.agr hl (QH.2 l hl).1;have hz:(k:Int)+1<=absI l:=by
   obtain z|z:=S9
   ·have:=h2 _ z;rw[dg<|by lia]at this;exact this
   ·have:=h2 _ z;rw[eD,dg<|by lia]at this;exact this
  have e:(absI l - 1).toNat=k:=by lia
  rw[e]at h1;rw[h1,Su]
structure J8 (t:Str)(cs:gV (gV Int))(hw:Md)(k:Nat)(F c:gV Int)(S:SS):Prop where
 mF:F∈S.ow hw
 okF:aD t.length F
 okC:aD t.length c
 both:dz F c ((k:Int)+1)=LM
 line:aP t cs hw (S.ow hw) (cr (S.ow hw) F c<|(k:Int)+1)=A' (bK F c<|(k:Int)+1)
 good:be (cr (S.ow hw) F c<|(k:Int)+1)
 next:nn t cs hw (aR t hw<|bK F c<|(k:Int)+1) (bF t hw (cr (S.ow hw) F c<|(k:Int)+1) (bK F c<|(k:Int)+1)<|ci S)
theorem pj(hc:∀c∈cs,aD t.length c)(T:nn t cs hw c S)(hk:S.bs.length=k+1)(aan:(k:Int)+1∈c\/ -((k:Int)+1)∈c)(e:S.fs.getD k LL=A' F):J8 t cs hw k F c S:=by
 obtain⟨YZ,acA,hE⟩:=nu hc T hk aan;have hpb:=dX (d:=LM) hk;have lb:(ci S).bs.length=k:=by show S.bs.dropLast.length=k;rw[Nw,hk];rfl
 have Ip:=qx T.I hk;have hkt:k < t.length:=by have:=T.I.blen;lia
 have QH:=sR hc T.I hw c T.mem;have XJ:yI hw ((ci S).bs++[S.bs.getD k LM]) c:=by
  have:=T.agr;rw[hpb]at this;exact this
 have hf:=T.I.fst k (by lia);unfold BH at hf;rw[e]at hf;obtain⟨hbt,hFm,hFa,hFi⟩:=hf;rw[<-YZ]at hFm hFa;rw[hbt]at XJ;have ZO:S.bs.take k=(ci S).bs:=by
  show _=S.bs.dropLast
  rw[Qs,hk];rfl
 rw[ZO]at hFa;have aar:=sR hc T.I hw F hFm;have hz:(k:Int)+1=((ci S).bs.length:Int)+1:=by rw[lb]
 have b1:=sQ hz aar QH hFa XJ;have b2:=sQ hz QH aar XJ hFa;have lF:=wO hz hFa hFi;have lC:=wO hz XJ aan;have hJ:=dA aar.1 QH.1 b1;have aep:=mB aar QH b1;have ae':(du t (!hw)).contains ((k:Int)+1)=true:=Mo.mpr<|mem_vars.mpr ⟨by lia,by lia,by rw[show((k:Int)+1 - 1).toNat=k by lia,YZ,Su]⟩;obtain⟨iF,aF⟩:=iu hFm;obtain⟨iC,aC⟩:=iu T.mem;have gF:(S.ow hw).getD ((S.ow hw).idxOf F) []=F:=by rw[LK,aF];rfl
 have gC:(S.ow hw).getD ((S.ow hw).idxOf c) []=c:=by rw[LK,aC];rfl
 have VU:aP t cs hw (S.ow hw) (cr (S.ow hw) F c<|(k:Int)+1)=A' (bK F c<|(k:Int)+1):=by
  unfold cr;cases hw with
  |true=>
   have lF':-((k:Int)+1)∈F:=lF;have lC':(k:Int)+1∈c:=lC;rw[Ml<|Mo.mpr lF'];unfold ph;rw[gy,jG];rw[M3,M3,gF,gC];refine⟨by lia,by lia,?_,yL QH.1 aar.1 b2 b1⟩;unfold dR;rw[ae',Mo.mpr lC',Mo.mpr lF',b2];rfl
  |false=>
   have lF':(k:Int)+1∈F:=lF;have lC':-((k:Int)+1)∈c:=lC;have hno:¬F.contains (-((k:Int)+1))=true:=λz=>by
    have:=aar.1.inj lF' (Mo.mp z) (by rw[eD]);lia
   rw[Mi hno];unfold ph;rw[gy,jG];rw[M3,M3,gF,gC];refine⟨by lia,by lia,?_,rfl⟩;unfold dR;rw[ae',Mo.mpr lC',Mo.mpr lF',b1];rfl
 have hgl:be (cr (S.ow hw) F c<|(k:Int)+1):=by
  unfold cr
  split
  ·exact iP _ _ _
  ·exact iP _ _ _
 have Ep:HW (ci S):=hE;have lbs:=fc (t:=t) (hw:=hw) (d:=cr (S.ow hw) F c<|(k:Int)+1) (c:=bK F c<|(k:Int)+1) (S:=ci S);refine⟨hFm,aar,QH,b1,VU,hgl,kr Ip VU hgl,kt,?_,jc aep,learn_win.trans T.win,ku Ep⟩;rw[lbs];intro l hl;have hl':=(MP.mp hl).1;obtain⟨Sx,Up⟩:=(hJ.2 l).mp hl';rw[hz]at Up;obtain q|q:=Sx
 ·exact jI hFa q (aar.2 l q).1 Up
 ·exact jI XJ q (QH.2 l q).1 Up
theorem pq(hc:∀c∈cs,aD t.length c)(T:nn t cs hw c S)(hk:S.bs.length=k+1)(S9:¬((k:Int)+1∈c\/ -((k:Int)+1)∈c)):nn t cs hw c (ci S):=by
 have hpb:=dX (d:=LM) hk;have QH:=sR hc T.I hw c T.mem;refine⟨qx T.I hk,T.mem,λl hl=>?_,T.dr,T.win,T.emp⟩;have ha:=T.agr;rw[hpb]at ha;refine jI ha hl (QH.2 l hl).1 ?_;have:S.bs.dropLast.length=k:=by rw[Nw,hk];rfl
 show absI l≠((S.bs.dropLast.length:Nat):Int)+1
 rw[this];intro z;obtain q|q:=BI (by lia) z
 ·exact S9<|.inl<|q▸hl
 ·exact S9<|.inr<|q▸hl
theorem yM(hc:∀c∈cs,aD t.length c)(T:nn t cs hw c S)(hk:S.bs.length=k+1)(S9:(k:Int)+1∈c\/ -((k:Int)+1)∈c)(e:S.fs.getD k LL=LL):S.bs.getD k LM=LM/\gX t cs (dS LI (A' c)<|ci S):=by
 obtain⟨YZ,acA,hE⟩:=nu hc T hk S9;have hpb:=dX (d:=LM) hk;have lb:(ci S).bs.length=k:=by show S.bs.dropLast.length=k;rw[Nw,hk];rfl
 have Ip:=qx T.I hk;have hkt:k < t.length:=by have:=T.I.blen;lia
 have XJ:yI hw ((ci S).bs++[S.bs.getD k LM]) c:=by
  have:=T.agr;rw[hpb]at this;exact this
 have hf:=T.I.fst k (by lia);unfold BH at hf;rw[e]at hf;have hf':S.bs.getD k LM=false:=hf;rw[hf']at XJ;refine⟨hf',sS Ip (by lia)<|(wP Ip).mpr ⟨rfl,?_,?_,?_⟩⟩
 ·rw[lb,<-YZ];exact T.mem
 ·rw[lb,<-YZ];exact XJ
 ·rw[lb];exact S9
theorem sT(I:gX t cs S)(hk:S.bs.length=k+1):pend S.fs=pend (ci S).fs+pend [S.fs.getD k LL]:=by
 have hpf:=dX (d:=LL) (I.flen.trans hk)
 conv=>lhs;rw[hpf]
 exact nj _ _
theorem nv(hc:∀c∈cs,aD t.length c):∀k c S,S.bs.length=k->nn t cs hw c S->BK t cs hw S (fK t hw k c S)
 |0,c,S,hk,T=>by
  have hb:S.bs=[]:=R5 hk;have he:c=[]:=by
   cases c with
   |nil=>rfl
   |cons l r=>
    have:=T.agr l L9;rw[hb,di<|Mw _]at this;cases this
  obtain⟨z,_⟩|⟨_,z,_⟩:=T.emp
  ·exact absurd he z
  ·exact .won ⟨T.I.run,T.I.good,T.I.nd,T.I.flen,T.I.blen,T.I.fst⟩ rfl hb z (by show cu S<=_;lia)
 |k+1,c,S,hk,T=>by
  have hpb:=dX (d:=LM) hk;have lb:(ci S).bs.length=k:=by show S.bs.dropLast.length=k;rw[Nw,hk];rfl
  have adt:=sT T.I hk;have aa9:(ci S).bs <+:S.bs:=⟨_,hpb.symm⟩;have htp:cu (ci S)=cu S:=rfl;unfold fK;by_cases S9:(c.contains ((k:Int)+1) || c.contains (-((k:Int)+1)))=LI
  ·rw[Ml S9];have aan:(k:Int)+1∈c\/ -((k:Int)+1)∈c:=by
    rw[NL]at S9;exact S9.imp Mo.mp Mo.mp
   cases e:S.fs.getD k LL with
   |none=>
    obtain⟨hf',If⟩:=yM hc T hk aan e;show BK t cs hw S (dS (!S.bs.getD k LM) (A' c)<|ci S)
    rw[hf'];refine .on If T.win (nu hc T hk aan).2.2 (ci S).bs rfl ?_ ?_
    ·exists [];rw[N0]
     conv=>rhs;rw[hpb]
     rw[hf'];rfl
    ·show cu S+2*pend ((ci S).fs++[A' c])<=_
     rw[nj,adt];have:pend [A' c]=1:=rfl;lia
   |some F=>
    have J:=pj hc T hk aan e;have hpd:pend [A' F]=1:=rfl;rw[e,hpd]at adt;have Qi:=fe (t:=t) (hw:=hw) (d:=cr (S.ow hw) F c<|(k:Int)+1) (c:=bK F c<|(k:Int)+1) (S:=ci S);have lfs:=iw (t:=t) (hw:=hw) (d:=cr (S.ow hw) F c<|(k:Int)+1) (c:=bK F c<|(k:Int)+1) (S:=ci S);have lbs:=fc (t:=t) (hw:=hw) (d:=cr (S.ow hw) F c<|(k:Int)+1) (c:=bK F c<|(k:Int)+1) (S:=ci S);have:=nv hc k _ _ (by rw[lbs];exact lb) J.next;show BK t cs hw S (fK t hw k (aR t hw<|bK F c<|(k:Int)+1)<|bF t hw (cr (S.ow hw) F c<|(k:Int)+1) (bK F c<|(k:Int)+1)<|ci S)
    cases this with
    |on I w em pre hb hp hn=>
     rw[lbs]at hp;rw[lfs]at hn;exact .on I w em pre hb (hp.trans aa9) (by lia)
    |won I w hb he hn=>
     rw[lfs]at hn;exact .won I w hb he (by lia)
  ·rw[Mi S9];have hni:¬((k:Int)+1∈c\/ -((k:Int)+1)∈c):=λz=>S9 (by
    rw[NL];exact z.imp Mo.mpr Mo.mpr)
   have:=nv hc k c (ci S) lb<|pq hc T hk hni;cases this with
   |on I w em pre hb hp hn=>exact .on I w em pre hb (hp.trans aa9) (by lia)
   |won I w hb he hn=>exact .won I w hb he (by lia)
end
def cH(bs:gV Md)(c:gV Int):LH (gV Int):=if c.any (held LI bs)=LI then LL else A' (c.filter λl=>decide ((bs.length:Int) < absI l))
def bU(bs:gV Md)(c:gV Int):gV Int:=c.filter<|held LI bs
def ny(t:Str)(bs:gV Md)(c:gV Int):Int:=(((bU bs c).filter λl=>cF t (absI l - 1).toNat)++bU bs c).headD 0
def cm(t:Str)(bs:gV Md)(O0 c:gV Int):gV Int:=if(O0.any λl=>c.contains l)=LI then O0 else O0++[ny t bs c]
def gO(t:Str)(cs:gV (gV Int))(bs:gV Md):gV Int:=cs.foldl (cm t bs) []
def fP(t:Str)(cs:gV (gV Int))(bs:gV Md):gV Int:=(gO t cs bs).mergeSort λa b=>decide (absI a<=absI b)
def gP(i:Nat):Mc:=.tuple [.str aN,.int (i:Int)]
def kZ(c:gV Int):Mc:=.tuple [.str bn,fN c]
def cW(t:Str)(bs:gV Md)(c:gV Int):Md:=decide (cH bs (aR t LM c)=A' [])
def f_(t:Str)(cs:gV (gV Int))(S:SS):SS:=
 if cs.any (cW t S.bs)=LI then
  fK t LM S.bs.length (aR t LM<|cs.getD (cs.findIdx<|cW t S.bs) []) (bF t LM (gP<|cs.findIdx<|cW t S.bs) (cs.getD (cs.findIdx<|cW t S.bs) []) S)
 else if(cs.all λc=>decide (cH S.bs (aR t LM c)=LL))=LI then
  fK t LI S.bs.length (aR t LI<|fP t cs S.bs) (bF t LI (kZ<|fP t cs S.bs) (fP t cs S.bs) S)
 else dS LM LL S
theorem jJ:∀n a b,dO n (a++b)=dO n a+dO (n - a.length) b
 |n,[],b=>by simp [dO]
 |n,x::a,b=>by
  show(if x=LI then 2 ^ n else 1)+dO (n - 1) (a++b)=(if x=LI then 2 ^ n else 1)+dO (n - 1) a+dO (n - (a.length+1)) b
  rw[jJ (n - 1) a b,show n - 1 - a.length=n - (a.length+1) by lia];lia
theorem kx:∀n a,a.length<=n->dO n a+2<=2 ^ (n+1)
 |n,[],_=>by
  show 0+2<=_
  have:=Wn (n:=n);rw[QM];lia
 |0,x::a,h=>by simp at h
 |n+1,x::a,h=>by
  rw[L4]at h;have:=kx n a (by lia);have e:2 ^ (n+1+1)=2 ^ (n+1)+2 ^ (n+1):=by rw[QM];lia
  have h1:=Wn (n:=n+1);show(if x=LI then 2 ^ (n+1)else 1)+dO n a+2<=_
  split<;>lia
theorem BL(h:(pre++[LM]) <+:bs)(hl:bs.length<=n):dO n bs < dO n (pre++[LI]):=by
 obtain⟨r,rfl⟩:=h;rw[LX,LX,Mz]at hl;rw[MN,jJ n pre ([LM]++r),jJ n pre [LI]];have e1:dO (n - pre.length) ([LM]++r)=1+dO (n - pre.length - 1) r:=rfl;have e2:dO (n - pre.length) [LI]=2 ^ (n - pre.length):=by show 2 ^ (n - pre.length)+0=_;lia
 have:=kx (n - pre.length - 1) r (by lia);rw[show n - pre.length - 1+1=n - pre.length by lia]at this;lia
section
variable {S:SS}
theorem sU(hok:aD t.length c)(h:cW t bs c=LI):yI LM bs (aR t LM c):=by
 have h':cH bs (aR t LM c)=A' []:=My h;have aa':=gr (t:=t) (hw:=LM) hok;generalize aR t LM c=e at h' aa';unfold cH at h'
 split at h'
 ·cases h'
 ·rename_i hn;intro l hl;have h0:held LI bs l=false:=by
   cases g:held LI bs l with
   |false=>rfl
   |true=>exact absurd (MW.mpr ⟨l,hl,g⟩) hn
  have hf:=MC h';have h1:=(aa'.2 l hl).1;have h2:absI l<=(bs.length:Int):=by
   have:=RB.mp hf l hl;rw[MQ]at this;lia
  unfold held at h0 ⊢;rw[LU (show(absI l - 1).toNat < bs.length by lia)]at h0 ⊢;have h0':((bs[(absI l - 1).toNat] == decide (0 < l)) == LI)=false:=h0;show((bs[(absI l - 1).toNat] == decide (0 < l)) == LM)=LI
  cases z:(bs[(absI l - 1).toNat] == decide (0 < l))with
  |true=>rw[z]at h0';cases h0'
  |false=>rfl
theorem kB(ha:1<=absI a)(h1:held LI bs a=LI)(h2:held LI bs b=LI)(e:absI a=absI b):a=b:=by
 obtain z|z:=jw e
 ·exact z
 ·subst z;obtain⟨p,q⟩|⟨p,q⟩:=b8 a
  ·exact(gu (show 1<=a by lia) h1 h2).elim
  ·exact(gu (show 1<=-a by lia) h2<|by rw[aaP];exact h1).elim
theorem EI(h:∃l∈c,held LI bs l=LI):ny t bs c∈c/\held LI bs (ny t bs c)=true:=by
 have hs:bU bs c≠[]:=by
  obtain⟨l,hl,hh⟩:=h;exact Wp<|MP.mpr ⟨hl,hh⟩
 have hm:ny t bs c∈bU bs c:=by
  unfold ny;cases e:(bU bs c).filter λl=>cF t (absI l - 1).toNat with
  |nil=>
   rw[Sa];cases g:bU bs c with
   |nil=>exact absurd g hs
   |cons x r=>exact L9
  |cons x r=>
   show x∈bU bs c
   have:x∈(bU bs c).filter λl=>cF t (absI l - 1).toNat:=by rw[e];exact L9
   exact(MP.mp this).1
 exact MP.mp hm
structure ChOk (bs:gV Md)(cs:gV (gV Int))(O0:gV Int):Prop where
 st:∀l∈O0,held LI bs l=LI/\∃c∈cs,l∈c
 hit:∀c∈cs,∃l∈O0,l∈c
 nd:O0.Nodup
theorem ChOk.step(h:ChOk bs ds O0)(hc:∃l∈c,held LI bs l=LI):ChOk bs (ds++[c]) (cm t bs O0 c):=by
 unfold cm
 split
 ·rename_i g;obtain⟨l,hl,hlc⟩:=MW.mp g;refine⟨λl hl=>⟨(h.st l hl).1,let ⟨c',a,b⟩:=(h.st l hl).2;⟨c',OA _ a,b⟩⟩,λc' hc'=>?_,h.nd⟩;obtain z|z:=Mt.mp hc'
  ·exact h.hit c' z
  ·rw[LN.mp z];exact⟨l,hl,Mo.mp hlc⟩
 ·rename_i g;obtain⟨p1,p2⟩:=EI (t:=t) hc;refine⟨λl hl=>?_,λc' hc'=>?_,?_⟩
  ·obtain z|z:=Mt.mp hl
   ·exact⟨(h.st l z).1,let ⟨c',a,b⟩:=(h.st l z).2;⟨c',OA _ a,b⟩⟩
   ·rw[LN.mp z];exact⟨p2,c,MR _<|LN.mpr rfl,p1⟩
  ·obtain z|z:=Mt.mp hc'
   ·obtain⟨l,a,b⟩:=h.hit c' z;exact⟨l,OA _ a,b⟩
   ·rw[LN.mp z];exact⟨_,MR _<|LN.mpr rfl,p1⟩
  ·rw[Oa];refine⟨h.nd,by simp,λx hx y hy z=>g ?_⟩;rw[LN.mp hy]at z;exact MW.mpr ⟨x,hx,Mo.mpr<|z▸p1⟩
theorem kC{t:Str}{cs:gV (gV Int)}(h:∀c∈cs,∃l∈c,held LI bs l=LI):∀k,k<=cs.length->ChOk bs (cs.take k) ((cs.take k).foldl (cm t bs) [])
 |0,_=>⟨λ_ z=>(nomatch z),λ_ z=>(nomatch z),Rx⟩
 |k+1,hk=>by
  have hx:=aL (d:=([]:gV Int)) (show k < cs.length by lia);rw[MM,hx];show ChOk bs (cs.take k++[cs.getD k []]) ((cs.take k++[cs.getD k []]).foldl (cm t bs) [])
  rw[Qw];exact(kC h k<|by lia).step<|h _<|LZ hx
theorem dY(h:∀c∈cs,∃l∈c,held LI bs l=LI):ChOk bs cs (gO t cs bs):=by
 have:=kC (t:=t) h cs.length<|LQ _;rw[L8<|LQ _]at this;exact this
theorem hit_mem:l∈fP t cs bs↔l∈gO t cs bs:=List.mem_mergeSort
theorem wQ(hc:∀c∈cs,aD t.length c)(h:∀c∈cs,∃l∈c,held LI bs l=LI):Ups (fP t cs bs):=by
 have C:=dY (t:=t) h;refine pX ?_ ((QR _ _).nodup_iff.mpr C.nd) λa ha b hb e=>?_
 ·rw[Ny];have:=Rf (le:=λa b:Int=>decide (absI a<=absI b)) (λa b c h1 h2=>by rw[MQ]at h1 h2 ⊢;lia) (λa b=>by rw[NL,MQ,MQ];lia)<|gO t cs bs;exact this.imp λh=>My h
 ·obtain⟨a1,c1,d1,e1⟩:=C.st a<|hit_mem.mp ha;obtain⟨a2,_⟩:=C.st b<|hit_mem.mp hb;exact kB ((hc c1 d1).2 a e1).1 a1 a2 e
theorem qy(hc:∀c∈cs,aD t.length c)(h:∀c∈cs,∃l∈c,held LI bs l=LI):aD t.length (fP t cs bs):=
 ⟨wQ hc h,λl hl=>let ⟨_,c,a,b⟩:=(dY (t:=t) h).st l<|hit_mem.mp hl;(hc c a).2 l b⟩
theorem sV(hc:∀c∈cs,aD t.length c)(h:∀c∈cs,∃l∈c,held LI bs l=LI)(O:gV (gV Int)):aP t cs LI O (kZ<|fP t cs bs)=A' (fP t cs bs):=by
 unfold kZ;rw[iO,Ml rfl];unfold iW;rw[DW<|qy hc h,Au];have:rQ (fP t cs bs) cs=true:=Mu.mpr λc hc'=>by
  obtain⟨l,a,b⟩:=(dY (t:=t) h).hit c hc';exact MW.mpr ⟨l,hit_mem.mpr a,Mo.mpr b⟩
 rw[this];rfl
theorem k_(h:cH bs (aR t LM c)=LL):∃l∈c,held LI bs l=true:=by
 unfold cH at h
 split at h
 ·rename_i g;obtain⟨l,hl,hh⟩:=MW.mp g;exact⟨l,(MP.mp hl).1,hh⟩
 ·cases h
structure jd (t:Str)(cs:gV (gV Int))(S:SS):Prop where
 I:gX t cs S
 win:S.win=LL
 emp:HW S
 few:cu S+2*pend S.fs<=4*dO t.length S.bs
structure BM (t:Str)(cs:gV (gV Int))(S:SS):Prop where
 I:gX t cs S
 hb:S.bs=[]
 hw:∃hw,S.win=A' hw/\(S.ow hw).getLast?=A' []
 few:cu S<=4*2 ^ (t.length+1)
theorem sW(hc:∀c∈cs,aD t.length c)(ht:t.length<=18)(L:jd t cs S):(jd t cs (f_ t cs S)/\dO t.length S.bs < dO t.length (f_ t cs S).bs)\/BM t cs (f_ t cs S):=by
 have acx:=L.few;have Qi:=kx t.length S.bs L.I.blen;have S6:∀hw d c,aP t cs hw (S.ow hw) d=A' c->be d->aD t.length c->yI hw S.bs (aR t hw c)->
   (jd t cs (fK t hw S.bs.length (aR t hw c)<|bF t hw d c S)/\dO t.length S.bs < dO t.length (fK t hw S.bs.length (aR t hw c)<|bF t hw d c S).bs)\/BM t cs (fK t hw S.bs.length (aR t hw c)<|bF t hw d c S):=by
  intro hw d c hl hg hok XJ;have T:nn t cs hw (aR t hw c) (bF t hw d c S):=⟨kr L.I hl hg,kt,by rw[fc];exact XJ,jc hok,learn_win.trans L.win,ku L.emp⟩;have akZ:=fe (t:=t) (hw:=hw) (d:=d) (c:=c) (S:=S);have lfs:=iw (t:=t) (hw:=hw) (d:=d) (c:=c) (S:=S);have lbs:=fc (t:=t) (hw:=hw) (d:=d) (c:=c) (S:=S);cases nv hc S.bs.length _ _ (by rw[lbs]) T with
  |on I w em pre hb hp hn=>
   rw[lbs]at hp;rw[lfs]at hn;have afl:=BL hp L.I.blen;rw[<-hb]at afl;exact .inl ⟨⟨I,w,em,by lia⟩,afl⟩
  |won I w hb he hn=>
   rw[lfs]at hn;exact .inr ⟨I,hb,⟨hw,w,he⟩,by lia⟩
 unfold f_;by_cases h1:cs.any (cW t S.bs)=LI
 ·rw[Ml h1];have hi:cs.findIdx (cW t S.bs) < cs.length:=RA<|MW.mp h1;have hx:=aL (d:=([]:gV Int)) hi;have abC:cW t S.bs (cs.getD (cs.findIdx<|cW t S.bs) [])=true:=by
   have:=Vx (w:=hi) (p:=cW t S.bs) (xs:=cs);rw[LK,LU hi];exact this
  have hok:=hc _<|LZ hx;refine S6 LM _ _ ?_ (.inl ⟨_,rfl⟩) hok<|sU hok abC;unfold gP;rw[fJ,Mi Mb];unfold gJ;rw[gz (by lia),M3];rfl
 ·rw[Mi h1];by_cases h2:(cs.all λc=>decide (cH S.bs (aR t LM c)=LL))=LI
  ·rw[Ml h2];have hs:∀c∈cs,∃l∈c,held LI S.bs l=true:=λc Wx=>k_<|My<|Mu.mp h2 c Wx;have hok:=qy hc hs;refine S6 LI _ _ (sV hc hs _) (.inr<|.inl ⟨_,?_,rfl⟩) hok λl hl=>?_
   ·have:=bQ hok;lia
   ·exact((dY (t:=t) hs).st l<|hit_mem.mp (MP.mp hl).1).1
  ·rw[Mi h2];have N1:S.bs.length < t.length:=by
    obtain g|g:=Ru S.bs.length t.length
    ·exact g
    ·refine absurd (Mu.mpr λc Wx=>?_) h2;rw[MQ];have hno:cW t S.bs c=false:=by
      cases z:cW t S.bs c with
      |false=>rfl
      |true=>exact absurd (MW.mpr ⟨c,Wx,z⟩) h1
     have ada:¬cH S.bs (aR t LM c)=A' []:=P' hno;have aa':=gr (t:=t) (hw:=LM)<|hc c Wx;generalize aR t LM c=e at ada aa';unfold cH at ada ⊢
     split
     ·rfl
     ·rename_i q;rw[Mi q]at ada;refine absurd (M0 A'<|RB.mpr λl hl=>?_) ada;have:=(aa'.2 l hl).2;rw[MQ];lia
   refine .inl ⟨⟨sS L.I N1<|(wP L.I).mpr rfl,L.win,L.emp,?_⟩,?_⟩
   ·show cu S+2*pend (S.fs++[LL])<=4*dO t.length (S.bs++[LM])
    have e1:pend [(LL:LH (gV Int))]=0:=rfl;have e2:dO (t.length - S.bs.length) [LM]=1:=rfl;rw[nj,jJ];lia
   ·show dO t.length S.bs < dO t.length (S.bs++[LM])
    have e2:dO (t.length - S.bs.length) [LM]=1:=rfl;rw[jJ];lia
def dZ:SS:=⟨λ_=>[],λ_=>[],[],[],LL⟩
theorem iQ:jd t cs dZ:=⟨⟨λ_=>rfl,λ_ _ z=>(nomatch z),λ_=>Rx,rfl,Mw _,λk hk=>(nomatch hk)⟩,rfl,λ_ z=>(nomatch z),Mw _⟩
def lL(t:Str)(cs:gV (gV Int)):Nat->SS->SS
 |0,S=>S
 |k+1,S=>if S.win.isSome=LI then S else lL t cs k (f_ t cs S)
theorem vh(hc:∀c∈cs,aD t.length c)(ht:t.length<=18):∀k S,jd t cs S->(jd t cs (lL t cs k S)/\dO t.length S.bs+k<=dO t.length (lL t cs k S).bs)\/BM t cs (lL t cs k S)
 |0,S,L=>.inl ⟨L,LQ _⟩
 |k+1,S,L=>by
  unfold lL;rw[Mi<|by rw[L.win];exact Mb];obtain⟨L',h⟩|W:=sW hc ht L
  ·obtain⟨L2,h2⟩|W:=vh hc ht k _ L'
   ·exact .inl ⟨L2,by lia⟩
   ·exact .inr W
  ·have:lL t cs k (f_ t cs S)=f_ t cs S:=by
    cases k with
    |zero=>rfl
    |succ k=>
     unfold lL;obtain⟨hw,e,_⟩:=W.hw;rw[Ml<|by rw[e];rfl]
   rw[this];exact .inr W
theorem HY(hc:∀c∈cs,aD t.length c)(ht:t.length<=18){S:SS}(L:jd t cs S)(hk:2 ^ (t.length+1)<=dO t.length S.bs+k):BM t cs (lL t cs k S):=by
 obtain⟨L',h⟩|W:=vh hc ht k S L
 ·have:=kx t.length _ L'.I.blen;lia
 ·exact W
end
abbrev BN:NN:=eh (cZ 65) 1
abbrev qz:NN:=eh (cZ 65) 2
abbrev vi:NN:=eh (cZ 65) 3
structure nz (K:K')(mg:Str->LH LF)(CS:LJ):Prop where
 len:mg "len"=LL
 list:mg "list"=LL
 cl:Cls K CS
 nS:NoAttr K CS "sentence"
 nL:NoAttr K CS "lines"
 nP:NoAttr K CS "places"
 nB:NoAttr K CS "begun"
 nF:NoAttr K CS "firsts"
 nR:NoAttr K CS "rests"
 nW:NoAttr K CS "winner"
 g_WISHER:fm mg "WISHER" (.str<|G' "wisher")
 g_SPOILER:fm mg "SPOILER" (.str<|G' "spoiler")
def je(l:Md->LJ):gV (bo×V):=[(Qt<|aK LM,.ref<|l LM),(Qt<|aK LI,.ref<|l LI)]
theorem dN(h:H d=A' (.dK<|je l))(b:Md):DGet H d (.str<|aK b) (A'<|.ref<|l b):=by
 have e:bZ (je l) (Qt<|aK b)=A' (.ref<|l b):=by
  cases b<;>rfl
 rw[<-e];exact DGet.k (k:=Qt<|aK b) h
structure SA where
 x:LJ
 dx:LJ
 p:LJ
 q:LJ
 dl:LJ
 dp:LJ
 b:LJ
 f:LJ
 r:LJ
 ll:Md->LJ
 pp:Md->LJ
 far:LJ->Prop
def SA.own(A:SA)(a:LJ):Prop:=a=A.x\/a=A.b\/a=A.f\/a=A.r\/∃h,a=A.ll h\/a=A.pp h
def SA.taken(A:SA)(a:LJ):Prop:=A.own a\/A.far a
def Mv(A:SA)(H H':Hp):Prop:=∀a o,¬A.own a->H a=A' o->H' a=A' o
theorem Mv.of(k:Same H H'):Mv A H H':=λa o _ e=>k a o e
theorem Mv.trans(k:Mv A H H')(j:Mv A H' H''):Mv A H H'':=λa o n e=>j a o n<|k a o n e
theorem Mv.upd(k:Mv A H H')(h:A.own a)(o:HO):Mv A H (upd H' a o):=λb u n e=>by
 rw[al λz=>n<|by rw[z];exact h];exact k b u n e
def TupS(H H':Hp):Prop:=∀a xs,H a=A' (.tup xs)->H' a=A' (.tup xs)
theorem TupS.of(k:Same H H'):TupS H H':=λa _ e=>k a _ e
theorem TupS.trans(k:TupS H H')(j:TupS H' H''):TupS H H'':=λa xs e=>j a xs<|k a xs e
theorem TupS.cl(k:TupS H H')(h:CL H c v):CL H' c v:=let ⟨t,e,z⟩:=h;⟨t,e,k _ _ z⟩
theorem TupS.cls(k:TupS H H'):∀{cs:gV (gV Int)} {xs:gV V},CLs H cs xs->CLs H' cs xs
 |_,_,.nil=>.nil
 |_,_,.cons h t=>.cons (k.cl h)<|TupS.cls k t
theorem TupS.good(k:TupS H H')(g:be d)(h:RD H d v):RD H' d v:=by
 obtain⟨n,rfl⟩|⟨c,hc,rfl⟩|⟨n,rfl⟩|⟨i,j,z,rfl⟩:=g
 ·obtain⟨a,zs,rfl,ha,hz⟩:=ax h;obtain⟨y1,r1,rfl,a1,b1⟩:=ar hz;obtain⟨y2,r2,rfl,a2,b2⟩:=ar b1;have e:r2=[]:=by unfold c9 at b2;exact b2
  subst e;exact bB (k _ _ ha)<|ap (im a1)<|ap (fI a2) aQ
 ·obtain⟨a,zs,rfl,ha,hz⟩:=ax h;obtain⟨y1,r1,rfl,a1,b1⟩:=ar hz;obtain⟨y2,r2,rfl,a2,b2⟩:=ar b1;have e:r2=[]:=by unfold c9 at b2;exact b2
  subst e;obtain⟨p,us,rfl,hp,hus⟩:=ax a2;refine bB (k _ _ ha)<|ap (im a1)<|ap (bB (k _ _ hp) ?_) aQ;clear hp a2 hz ha h b1 hc b2
  induction c generalizing us with
  |nil=>
   have e:us=[]:=by unfold c9 at hus;exact hus
   subst e;exact aQ
  |cons x c ih=>
   obtain⟨y,r,rfl,q1,q2⟩:=ar hus;exact ap (fI q1)<|ih r q2
 ·obtain⟨a,zs,rfl,ha,hz⟩:=ax h;obtain⟨y1,r1,rfl,a1,b1⟩:=ar hz;obtain⟨y2,r2,rfl,a2,b2⟩:=ar b1;have e:r2=[]:=by unfold c9 at b2;exact b2
  subst e;exact bB (k _ _ ha)<|ap (im a1)<|ap (fI a2) aQ
 ·obtain⟨a,zs,rfl,ha,hz⟩:=ax h;obtain⟨y1,r1,rfl,a1,b1⟩:=ar hz;obtain⟨y2,r2,rfl,a2,b2⟩:=ar b1;obtain⟨y3,r3,rfl,a3,b3⟩:=ar b2;obtain⟨y4,r4,rfl,a4,b4⟩:=ar b3;have e:r4=[]:=by unfold c9 at b4;exact b4
  subst e;exact bB (k _ _ ha)<|ap (im a1)<|ap (fI a2)<|ap (fI a3)<|ap (fI a4) aQ
theorem TupS.goods(k:TupS H H'):∀{ds:gV Mc} {vs:gV V},(∀d∈ds,be d)->c9 H ds vs->c9 H' ds vs
 |[],vs,_,h=>by
  have e:vs=[]:=by unfold c9 at h;exact h
  subst e;exact aQ
 |d::ds,vs,g,h=>by
  obtain⟨y,ys,rfl,a,b⟩:=ar h;exact ap (k.good (g d L9) a)<|TupS.goods k (λd' h'=>g d'<|LY _ h') b
def ln(H:Hp):LH (gV Int)->V->Prop
 |none,v=>v=.non
 |some c,v=>CL H c v
def iy(H:Hp):gV (LH<|gV Int)->gV V->Prop:=Paired<|ln H
theorem TupS.opt(k:TupS H H')(h:ln H o v):ln H' o v:=by
 cases o with
 |none=>exact h
 |some c=>exact k.cl h
theorem TupS.opts(k:TupS H H'):∀{os:gV (LH<|gV Int)} {xs:gV V},iy H os xs->iy H' os xs
 |_,_,.nil=>.nil
 |_,_,.cons h t=>.cons (k.opt h)<|TupS.opts k t
def ca(t:Str)(cs:gV (gV Int))(bs:gV Md):gV (LH<|gV Int):=cs.map λc=>cH bs<|aR t LM c
structure Rsts (A:SA)(t:Str)(cs:gV (gV Int))(bs:gV Md)(H:Hp)(vs:gV V):Prop where
 len:vs.length=bs.length+1
 at_:∀(k:Nat) (v:V),vs[k]? =A' v->∃a ws,v=.ref a/\H a=A' (.lst ws)/\¬A.taken a/\iy H (ca t cs<|bs.take k) ws
theorem lp{κ:Type} [Pd κ] {kvs:gV (κ×V)}{k:κ}{v:V}(h:bZ kvs k=LL):(bH kvs k v).length=kvs.length+1:=by
 unfold bH;have hn:kvs.any (λkv=>decide (kv.1=k))=false:=by
  cases e:kvs.any (λkv=>decide (kv.1=k))with
  |false=>rfl
  |true=>
   obtain⟨kv,h1,h2⟩:=MW.mp e;unfold bZ at h;have:=Wt.mp (Option.map_eq_none_iff.mp h) kv h1;exact absurd h2 this
 first
  |(rw[hn];simp)
  |(simp [hn])
def HZ(D:gV (gV bo×V))(O:gV (gV Int)):Prop:=D.length=O.length/\∀c:gV Int,bZ D (cg c)=if c∈O then A' (.int ((O.idxOf c:Nat):Int))else LL
def qA:LH Md->V
 |none=>.non
 |some hw=>.str<|aK hw
def sX(A:SA)(w:V):gV (Str×V):=[("sentence",.ref A.p),("lines",.ref A.dl),("places",.ref A.dp),("begun",.ref A.b),("firsts",.ref A.f),("rests",.ref A.r),("winner",w)]
structure SrAt (CS:LJ)(A:SA)(t:Str)(cs:gV (gV Int))(S:SS)(H:Hp):Prop where
 hx:H A.x=A' (.ins CS A.dx<|sX A<|qA S.win)
 hp:H A.p=A' (.tup [.str t,.ref A.q])
 hq:∃xs,H A.q=A' (.lst xs)/\CLs H cs xs
 hl:H A.dl=A' (.dK<|je A.ll)
 hd:H A.dp=A' (.dK<|je A.pp)
 l:∀h,∃vs,H (A.ll h)=A' (.lst vs)/\c9 H (S.lw h) vs
 d:∀h,∃D,H (A.pp h)=A' (.dT D)/\HZ D (S.ow h)
 b:H A.b=A' (.lst<|S.bs.map V.bl)
 f:∃vs,H A.f=A' (.lst vs)/\iy H S.fs vs
 r:∃vs,H A.r=A' (.lst vs)/\Rsts A t cs S.bs H vs
 nq:¬A.taken A.q
 nd:[A.b,A.f,A.r,A.ll LM,A.ll LI].Nodup
 np:A.pp LM≠A.pp LI
 good:∀h,∀d∈S.lw h,be d
 len:∀h,(S.ow h).length=(S.lw h).length
 far:∀a,A.far a->¬A.own a/\∃o,H a=A' o
section
variable {S:SS}
theorem SrAt.own_ty(h:SrAt CS A t cs S H)(ha:A.own a):(∃w,H a=A' (.ins CS A.dx<|sX A w))\/(∃vs,H a=A' (.lst vs))\/∃D,H a=A' (.dT D):=by
 obtain rfl|rfl|rfl|rfl|⟨z,rfl|rfl⟩:=ha
 ·exact .inl ⟨_,h.hx⟩
 ·exact .inr<|.inl ⟨_,h.b⟩
 ·obtain⟨vs,e,_⟩:=h.f;exact .inr<|.inl ⟨_,e⟩
 ·obtain⟨vs,e,_⟩:=h.r;exact .inr<|.inl ⟨_,e⟩
 ·obtain⟨vs,e,_⟩:=h.l z;exact .inr<|.inl ⟨_,e⟩
 ·obtain⟨vs,e,_⟩:=h.d z;exact .inr<|.inr ⟨_,e⟩
theorem SrAt.ntup(h:SrAt CS A t cs S H)(e:H a=A' (.tup xs)):¬A.own a:=λz=>by
 obtain⟨_,g⟩|⟨_,g⟩|⟨_,g⟩:=h.own_ty z<;>rw[e]at g<;>cases g
theorem SrAt.ndk(h:SrAt CS A t cs S H)(e:H a=A' (.dK kvs)):¬A.own a:=λz=>by
 obtain⟨_,g⟩|⟨_,g⟩|⟨_,g⟩:=h.own_ty z<;>rw[e]at g<;>cases g
theorem SrAt.tups(h:SrAt CS A t cs S H)(m:Mv A H H'):TupS H H':=λa xs e=>m a _ (h.ntup e) e
theorem SrAt.make(h:SrAt CS A t cs S H)(m:Mv A H H')(hx:H' A.x=A' (.ins CS A.dx<|sX A<|qA S'.win))(l:∀z,∃vs,H' (A.ll z)=A' (.lst vs)/\c9 H' (S'.lw z) vs)(d:∀z,∃D,H' (A.pp z)=A' (.dT D)/\HZ D (S'.ow z))
  (b:H' A.b=A' (.lst<|S'.bs.map V.bl)) (f:∃vs,H' A.f=A' (.lst vs)/\iy H' S'.fs vs) (r:∃vs,H' A.r=A' (.lst vs)/\Rsts A t cs S'.bs H' vs) (good:∀z,∀d∈S'.lw z,be d) (len:∀z,(S'.ow z).length=(S'.lw z).length):SrAt CS A t cs S' H':=by
 have k:=h.tups m;obtain⟨xs,q1,q2⟩:=h.hq;exact⟨hx,k _ _ h.hp,⟨xs,m _ _ (λz=>h.nq<|.inl z) q1,k.cls q2⟩,m _ _ (h.ndk h.hl) h.hl,m _ _ (h.ndk h.hd) h.hd,l,d,b,f,r,h.nq,h.nd,h.np,good,len,λa z=>let ⟨n,o,e⟩:=h.far a z;⟨n,o,m _ _ n e⟩⟩
theorem Rsts.mono(r:Rsts A t cs bs H vs)(m:Mv A H H')(k:TupS H H'):Rsts A t cs bs H' vs:=
 ⟨r.len,λi v e=>let ⟨a,ws,e1,e2,e3,e4⟩:=r.at_ i v e;⟨a,ws,e1,m _ _ (λz=>e3<|.inl z) e2,e3,k.opts e4⟩⟩
theorem SrAt.same(h:SrAt CS A t cs S H)(k:Same H H'):SrAt CS A t cs S H':=
 h.make (.of k) (k _ _ h.hx) (λz=>let ⟨vs,e,g⟩:=h.l z;⟨vs,k _ _ e,(TupS.of k).goods (h.good z) g⟩) (λz=>let ⟨D,e,g⟩:=h.d z;⟨D,k _ _ e,g⟩) (k _ _ h.b) (let ⟨vs,e,g⟩:=h.f;⟨vs,k _ _ e,(TupS.of k).opts g⟩) (let ⟨vs,e,g⟩:=h.r;⟨vs,k _ _ e,g.mono (.of k)<|.of k⟩) h.good h.len
structure Lv (A:SA):Prop where
 bf:A.b≠A.f
 br:A.b≠A.r
 fr:A.f≠A.r
 lb:∀z,A.ll z≠A.b
 lf:∀z,A.ll z≠A.f
 lr:∀z,A.ll z≠A.r
 ll:A.ll LM≠A.ll LI
theorem SrAt.nes(h:SrAt CS A t cs S H):Lv A:=by
 have:=h.nd;simp only [NX,Mn,OW,Yg,not_or]at this;obtain⟨⟨a1,a2,a3,a4⟩,⟨b1,b2,b3⟩,⟨c1,c2⟩,d1,_⟩:=this;exact⟨a1,a2,b1,(λz=>by cases z;exact NC a3;exact NC a4),(λz=>by cases z;exact NC b2;exact NC b3),(λz=>by cases z;exact NC c1;exact NC c2),d1⟩
theorem Ld(h:Lv A)(e:a≠b):A.ll a≠A.ll b:=by
 cases a<;>cases b
 ·exact absurd rfl e
 ·exact h.ll
 ·exact λz=>h.ll z.symm
 ·exact absurd rfl e
theorem SrAt.ne_p(h:SrAt CS A t cs S H){a b:Md}(e:a≠b):A.pp a≠A.pp b:=by
 cases a<;>cases b
 ·exact absurd rfl e
 ·exact h.np
 ·exact λz=>h.np z.symm
 ·exact absurd rfl e
end
inductive FZ (CS:LJ)(vs:gV V)(H:Hp)(Q:VK):Prop
 |mk (A:SA)(t:Str)(cs:gV (gV Int))(S:SS)(hw:Md)(v u:V)(d:Mc)(c:gV Int)(h0:vs=[.ref A.x,.str<|aK hw,v,u])(h:SrAt CS A t cs S H)(hv:RD H d v)(hg:be d)(hu:CL H c u)(hn:cu S<=9000)(q:∀H',SrAt CS A t cs (dM hw d c S) H'->Mv A H H'->Q .non H'):FZ CS vs H Q
def BO(CS:LJ):Sp:=λvs H Q _=>FZ CS vs H Q
theorem BP:aq ["self","hand","line","literals"] ["self","hand","line","literals"] (aj BN):=⟨rfl,rfl,rfl,by decide+kernel,rfl,by decide+kernel,by decide+kernel⟩
theorem nA(S:SS)(hw:Md):(S.lw hw).length<=cu S:=by
 unfold cu;cases hw<;>lia
theorem EJ(F:Fun K "put" "Searcher.put" BN f fd)(T:nz K mg CS):FnOk P w K mg base b7 1 f fd ["self","hand","line","literals"] (BO CS):=by
 have sc:=BP;refine F.ok BP (λvs H Q E h=>?_) λOT A outer s H vs Q E hr h=>?_
 ·obtain⟨A,t,cs,S,hw,v,u,d,c,rfl,_⟩:=h;rfl
 obtain⟨B,t,cs,S,hw,v,u,d,c,rfl,h,hv,hg,hcu,hn,q⟩:=h;have hu:=hr.units;have UX:=oo hr;obtain⟨tc,rfl,T7⟩:=hcu;obtain⟨D,hD,hDl,hDv⟩:=h.d hw;obtain⟨ls,hls,hlr⟩:=h.l hw;have akG:=nA S hw;have N1:=h.len hw;have hll:=dH hlr;have ZO:H tc=A' (.tup<|(cg c).map kV):=by rw[iq];exact T7
 have acu:=DGet.t hD ZO;rw[hDv c]at acu;refine⟨_,(ah (aS (tY<|om UX (pv 3)<|bT UX (bu (pv 0) rfl) (pv 1) λ_ _=>rfl) (af (ly UX (bT UX (bu (pv 0) rfl) (pv 1) λ_ _=>rfl) (pv 3) (aw bh rfl T.len M7<|aa (bT UX (bu (pv 0) rfl) (pv 1) λ_ _=>rfl) ae) rfl)
   (ah<|bA<|cv ML Na Ng bW (bT UX (bu (pv 0) rfl) (pv 1) λ_ _=>rfl)<|aa (pv 2) ae)) aA)),?_⟩
 exists _,rfl,_,rfl,B.x,CS,B.dx,_,_,rfl,h.hx,T.cl,T.nP,rfl,_,rfl,B.dp,_,rfl,dN h.hd hw,B.pp hw,_,rfl,acu,_,rfl;by_cases hm:c∈S.ow hw
 ·rw[Ml hm];refine aI<|q H ?_<|.of<|Same.refl _;rw[jb hm];exact h
 rw[Mi hm];refine aJ ?_;exists _,rfl,B.x,CS,B.dx,_,_,rfl,h.hx,T.cl,T.nL,rfl,_,rfl,B.dl,_,rfl,dN h.hl hw,.ref<|B.ll hw,_,rfl,.inl ⟨_,SqL.of hls,rfl⟩;exists _,rfl,B.x,CS,B.dx,_,_,rfl,h.hx,T.cl,T.nP,rfl,_,rfl,B.dp,_,rfl,dN h.hd hw,_,rfl,B.pp hw,_,rfl,DPut.t hD ZO (aW<|by lia);have oP:B.own (B.pp hw):=.inr<|.inr<|.inr<|.inr ⟨hw,.inr rfl⟩;have oL:B.own (B.ll hw):=.inr<|.inr<|.inr<|.inr ⟨hw,.inl rfl⟩;have m1:Mv B H (upd H (B.pp hw)<|.dT<|bH D (cg c)<|.int (ls.length:Nat)):=(Mv.of<|Same.refl H).upd oP _;have npl:B.pp hw≠B.ll hw:=bR hD hls (by intro z;cases z);have VT:∀a o,H a=A' o->a≠B.pp hw->upd H (B.pp hw) (.dT<|bH D (cg c)<|.int (ls.length:Nat)) a=A' o:=λa o e n=>by rw[al n];exact e
 have s1:upd H (B.pp hw) (.dT<|bH D (cg c)<|.int (ls.length:Nat)) (B.pp hw)=A' (.dT<|bH D (cg c)<|.int (ls.length:Nat)):=ad;generalize upd H (B.pp hw) (.dT<|bH D (cg c)<|.int (ls.length:Nat))=H1 at m1 VT s1 ⊢;have nx:B.x≠B.pp hw:=bR h.hx hD (by intro z;cases z);have hx1:=VT _ _ h.hx nx;have Sx:=VT _ _ h.hl (bR h.hl hD<|by intro z;cases z);have ls1:=VT _ _ hls<|NC npl;have k1:=h.tups m1;exists _,rfl,B.x,CS,B.dx,_,_,rfl,hx1,T.cl,T.nL,rfl,_,rfl,B.dl,_,rfl,dN Sx hw,.inl ⟨rfl,_,SqL.of ls1⟩,_,rfl,B.ll hw,ls,v,rfl,rfl,ls1,aW (by lia);have m2:Mv B H (upd H1 (B.ll hw)<|.lst<|ls++[v]):=m1.upd oL _;have Tf:∀a o,H a=A' o->a≠B.pp hw->a≠B.ll hw->upd H1 (B.ll hw) (.lst<|ls++[v]) a=A' o:=λa o e n n2=>by rw[al n2];exact VT a o e n
 have s2:upd H1 (B.ll hw) (.lst<|ls++[v]) (B.ll hw)=A' (.lst<|ls++[v]):=ad;have s3:upd H1 (B.ll hw) (.lst<|ls++[v]) (B.pp hw)=A' (.dT<|bH D (cg c)<|.int (ls.length:Nat)):=by rw[al npl];exact s1
 generalize upd H1 (B.ll hw) (.lst<|ls++[v])=H2 at m2 Tf s2 s3 ⊢;have k2:=h.tups m2;have N:=h.nes;refine q H2 (h.make (S':=dM hw d c S) m2 ?_ ?_ ?_ ?_ ?_ ?_ ?_ ?_) m2
 ·rw[put_win];exact Tf _ _ h.hx nx (bR h.hx hls<|by intro z;cases z)
 ·intro z;rw[ez hm];show∃vs,H2 (B.ll z)=A' (.lst vs)/\c9 H2 (cV S.lw hw d z) vs
  by_cases e:z=hw
  ·subst e;rw[bv];exact⟨_,s2,m6 (k2.goods (h.good z) hlr)<|ap (k2.good hg hv) aQ⟩
  ·rw[cq _ _ e];obtain⟨vs,e1,e2⟩:=h.l z;exact⟨vs,Tf _ _ e1 (bR e1 hD<|by intro z;cases z)<|Ld N e,k2.goods (h.good z) e2⟩
 ·intro z;rw[ez hm];show∃D,H2 (B.pp z)=A' (.dT D)/\HZ D (cV S.ow hw c z)
  by_cases e:z=hw
  ·subst e;rw[bv];refine⟨_,s3,?_,λc'=>?_⟩
   ·have hno:bZ D (cg c)=none:=by rw[hDv c,Mi hm]
    rw[lp hno,LX,hDl];rfl
   ·rw[jl];by_cases e:c'=c
    ·subst e;rw[Ml rfl,Ml<|MR _<|LN.mpr rfl,W6,Mi hm];simp;lia
    ·rw[Mi λz=>e<|keyI_inj.mp z,hDv c'];have afz:(c'∈S.ow z++[c])↔c'∈S.ow z:=by
      rw[Mt,LN];exact⟨λz=>z.elim id λz=>absurd z e,.inl⟩
     by_cases g:c'∈S.ow z
     ·rw[Ml g,Ml<|afz.mpr g,W6,Ml g]
     ·rw[Mi g,Mi λz=>g<|afz.mp z]
  ·rw[cq _ _ e];obtain⟨D',e1,e2⟩:=h.d z;exact⟨D',Tf _ _ e1 (h.ne_p e) (bR e1 hls<|by intro z;cases z),e2⟩
 ·rw[put_bs];exact Tf _ _ h.b (bR h.b hD<|by intro z;cases z)<|NC<|N.lb hw
 ·rw[put_fs];obtain⟨vs,e1,e2⟩:=h.f;exact⟨vs,Tf _ _ e1 (bR e1 hD<|by intro z;cases z)<|NC<|N.lf hw,k2.opts e2⟩
 ·rw[put_bs];obtain⟨vs,e1,e2⟩:=h.r;exact⟨vs,Tf _ _ e1 (bR e1 hD<|by intro z;cases z)<|NC<|N.lr hw,e2.mono m2 k2⟩
 ·intro z d' hd';rw[ez hm]at hd';have X4:d'∈cV S.lw hw d z:=hd';by_cases e:z=hw
  ·subst e;rw[bv]at X4;obtain y|y:=Mt.mp X4
   ·exact h.good z d' y
   ·rw[LN.mp y];exact hg
  ·rw[cq _ _ e]at X4;exact h.good z d' X4
 ·intro z;rw[ez hm];show(cV S.ow hw c z).length=(cV S.lw hw d z).length
  by_cases e:z=hw
  ·subst e;rw[bv,bv,LX,LX,h.len z];rfl
  ·rw[cq _ _ e,cq _ _ e];exact h.len z
inductive wR (CS:LJ)(vs:gV V)(H:Hp)(Q:VK):Prop
 |mk (A:SA)(t:Str)(cs:gV (gV Int))(S:SS)(hw:Md)(v u:V)(d:Mc)(c:gV Int)(h0:vs=[.ref A.x,.str<|aK hw,v,u])(h:SrAt CS A t cs S H)(hv:RD H d v)(hg:be d)(hu:CL H c u)(hok:aD t.length c)(ht:t.length<=18)(hn:cu S<=8900)(q:∀a H',SrAt CS A t cs (bF t hw d c S) H'->Mv A H H'->sG H' a (aR t hw c)->Q (.ref a) H'):wR CS vs H Q
def jK(CS:LJ):Sp:=λvs H Q _=>wR CS vs H Q
inductive BQ (CS:LJ)(vs:gV V)(H:Hp)(Q:VK):Prop
 |mk (A:SA)(t:Str)(cs:gV (gV Int))(S:SS)(hw:Md)(u1 u2:V)(F c:gV Int)(z:Int)(h0:vs=[.ref A.x,.str<|aK hw,u1,u2,.int z])(h:SrAt CS A t cs S H)(h1:CL H F u1)(h2:CL H c u2)(mF:F∈S.ow hw)(mC:c∈S.ow hw)(okF:aD t.length F)(okC:aD t.length c)(hb:dz F c z=LM)(ht:t.length<=18)(hn:cu S<=8900)(q:∀a H',SrAt CS A t cs (bF t hw (cr (S.ow hw) F c z) (bK F c z) S) H'->Mv A H H'->sG H' a (aR t hw<|bK F c z)->Q (.ref a) H'):BQ CS vs H Q
def wS(CS:LJ):Sp:=λvs H Q _=>BQ CS vs H Q
theorem sY:aq ["self","hand","line","literals","left"] ["self","hand","line","literals"] (aj qz):=⟨rfl,rfl,rfl,by decide+kernel,rfl,by decide+kernel,by decide+kernel⟩
theorem BR(h:H a=A' (.tup [.str aO,.int (k:Int)])):RD H (nh k) (.ref a):=bB h<|ap (dG _)<|ap (dt _) aQ
theorem sZ(h:H a=A' (.tup [.str aZ,.int (i:Int),.int (j:Int),.int z])):RD H (ph i j z) (.ref a):=bB h<|ap (dG _)<|ap (dt _)<|ap (dt _)<|ap (dt _) aQ
theorem yN(F:Fun K "learn" "Searcher.learn" qz f fd)(T:nz K mg CS)(Vb:Fn P w K mg base 3 "dropped" g1 e1 ["sentence","hand","literals"] iL)(af3:mH P w K mg base b7 1 CS "put" g2 e2 ["self","hand","line","literals"] (BO CS)):FnOk P w K mg base b7 4 f fd ["self","hand","line","literals"] (jK CS):=by
 have sc:=sY;refine F.ok sY (λvs H Q E h=>?_) λOT A outer s H vs Q E hr h=>?_
 ·obtain⟨A,t,cs,S,hw,v,u,d,c,rfl,_⟩:=h;rfl
 obtain⟨B,t,cs,S,hw,v,u,d,c,rfl,h,hv,hg,hcu,hok,ht,hn,q⟩:=h;have hu:=hr.units;have UX:=oo hr;obtain⟨tc,rfl,T7⟩:=hcu;have V4:=bQ hok;refine⟨_,(af (au (i:=4) sc.nd rfl (MA rfl)<|aG Vb hr (by lia) rfl<|aa (bu (pv 0) rfl)<|aa (pv 1)<|aa (pv 3) ae)
  (af (bA<|gT af3 (pv 0) hr (by lia)<|aa (pv 1)<|aa (pv 2)<|aa (pv 3) ae)
  (af (bA<|gT af3 (pv 0) hr (by lia)<|aa (pv 1)<|aa (bx<|aa aH<|aa (bT UX (bT UX (bu (pv 0) rfl) (pv 1) λ_ _=>rfl) (pv 3) λ_ _=>rfl) ae)<|aa (pv 4) ae)
  (ah<|ao<|pv 4)))),?_⟩
 refine⟨_,rfl,B.x,CS,B.dx,_,_,rfl,h.hx,T.cl,T.nS,rfl,_,rfl,_,rfl,B.p,tc,t,_,hw,c,rfl,h.hp,(by lia),T7,(by lia),hok.2,λla H1 k1 Zy=>?_⟩;have h1:=h.same k1;refine⟨_,rfl,B.x,B.dx,_,rfl,h1.hx,rfl,_,rfl,_,rfl,_,rfl,B,t,cs,S,hw,v,.ref tc,d,c,rfl,h1,iG k1 _ _ hv,hg,⟨tc,rfl,k1 _ _ T7⟩,(by lia),λH2 h2 m2=>?_⟩;have k2:=h1.tups m2;have ahi:=k2 _ _<|k1 _ _ T7;have afs:sG H2 la (aR t hw c):=k2 _ _ Zy;have hm:c∈(dM hw d c S).ow hw:=lK;obtain⟨D,hD,hDl,hDv⟩:=h2.d hw;have ZO:H2 tc=A' (.tup<|(cg c).map kV):=by rw[iq];exact ahi
 have acu:=DGet.t hD ZO;rw[hDv c,Ml hm]at acu;refine⟨_,rfl,B.x,B.dx,_,rfl,h2.hx,rfl,_,rfl,_,rfl,B.x,CS,B.dx,_,_,rfl,h2.hx,T.cl,T.nP,rfl,_,rfl,B.dp,_,rfl,dN h2.hd hw,_,rfl,B.pp hw,_,rfl,acu,(by show 2<=sizeLine;decide),λa na=>?_⟩;have k3:=ag na<|.tup [.str aO,.int (((dM hw d c S).ow hw).idxOf c:Nat)];have h3:=h2.same k3;have s3:upd H2 a (.tup [.str aO,.int (((dM hw d c S).ow hw).idxOf c:Nat)]) a=A' (.tup [.str aO,.int (((dM hw d c S).ow hw).idxOf c:Nat)]):=ad;have hpt:=kq (hw:=hw) (d:=d) (c:=c) (S:=S);refine⟨_,rfl,B,t,cs,dM hw d c S,hw,_,.ref la,nh<|((dM hw d c S).ow hw).idxOf c,aR t hw c,rfl,h3,BR s3,pi _,⟨la,rfl,k3 _ _ afs⟩,(by lia),λH4 h4 m4=>?_⟩;exact⟨_,rfl,q la H4 h4 ((Mv.of k1).trans<|m2.trans<|(Mv.of k3).trans m4)<|(h3.tups m4) _ _<|k3 _ _ afs⟩
theorem wT:aq ["self","hand","first","second","variable","places","line"] ["self","hand","first","second","variable"] (aj vi):=⟨rfl,rfl,rfl,by decide+kernel,rfl,by decide+kernel,by decide+kernel⟩
theorem BS(F:Fun K "learn_join" "Searcher.learn_join" vi f fd)(T:nz K mg CS)(ZU:Fn P w K mg base 1 "joined" g1 e1 ["first","second","variable"] jC)(ZT:mH P w K mg base b7 4 CS "learn" g2 e2 ["self","hand","line","literals"] (jK CS)):FnOk P w K mg base b7 5 f fd ["self","hand","first","second","variable"] (wS CS):=by
 have sc:=wT;refine F.ok wT (λvs H Q E h=>?_) λOT A outer s H vs Q E hr h=>?_
 ·obtain⟨A,t,cs,S,hw,u1,u2,F',c,z,rfl,_⟩:=h;rfl
 obtain⟨B,t,cs,S,hw,u1,u2,F',c,z,rfl,h,hc1,hc2,mF,mC,okF,okC,hb,ht,hn,q⟩:=h;have hu:=hr.units;have UX:=oo hr;obtain⟨t1,rfl,ht1⟩:=hc1;obtain⟨t2,rfl,ht2⟩:=hc2;obtain⟨D,hD,hDl,hDv⟩:=h.d hw;have l1:=bQ okF;have l2:=bQ okC;have tk1:H t1=A' (.tup<|(cg F').map kV):=by rw[iq];exact ht1
 have tk2:H t2=A' (.tup<|(cg c).map kV):=by rw[iq];exact ht2
 have g1':=DGet.t hD tk1;rw[hDv F',Ml mF]at g1';have g2':=DGet.t hD tk2;rw[hDv c,Ml mC]at g2';have JE:∀r,Joins F' c z r->r=bK F' c z:=λr hr'=>Joins.eq okF.1 okC.1 hb hr';have aep:=mB okF okC hb;refine⟨_,(af (au (i:=5) sc.nd rfl (MA rfl)<|bT UX (bu (pv 0) rfl) (pv 1) λ_ _=>rfl)
  (af (au (i:=6) sc.nd rfl (MA rfl)<|bx<|aa aH<|aa (bT UX (pv 5) (pv 2) λ_ _=>rfl)<|aa (bT UX (pv 5) (pv 3) λ_ _=>rfl)<|aa (pv 4) ae)
  (af (aS (ay cX (fk c7<|pv 4) (pv 2)<|by with_unfolding_all rfl) (ah<|au (i:=6) sc.nd rfl (MA rfl)<|bx<|aa aH<|aa (bT UX (pv 5) (pv 3) λ_ _=>rfl)<|aa (bT UX (pv 5) (pv 2) λ_ _=>rfl)<|aa (pv 4) ae) aA)
  (ah<|ao<|gT ZT (pv 0) hr (by lia)<|aa (pv 1)<|aa (pv 6)<|aa (aG ZU hr (by lia) rfl<|aa (pv 2)<|aa (pv 3)<|aa (pv 4) ae) ae)))),?_⟩
 exists _,rfl,B.x,CS,B.dx,_,_,rfl,h.hx,T.cl,T.nP,rfl,_,rfl,B.dp,_,rfl,dN h.hd hw;refine⟨_,rfl,_,rfl,B.pp hw,_,rfl,g1',_,rfl,_,rfl,B.pp hw,_,rfl,g2',_,rfl,(by show 4<=sizeLine;decide),λa1 n1=>?_⟩;have k1:=ag n1<|.tup [.str aZ,.int ((S.ow hw).idxOf F':Nat),.int ((S.ow hw).idxOf c:Nat),.int z];have s1:upd H a1 (.tup [.str aZ,.int ((S.ow hw).idxOf F':Nat),.int ((S.ow hw).idxOf c:Nat),.int z]) a1=A' (.tup [.str aZ,.int ((S.ow hw).idxOf F':Nat),.int ((S.ow hw).idxOf c:Nat),.int z]):=ad;have main:∀H1 a,Same H H1->RD H1 (cr (S.ow hw) F' c z) (.ref a)->be (cr (S.ow hw) F' c z)->Da (qY CS "learn" (jK CS) [] E0 (gZ 0)<|iS (gZ 1)<|iS (gZ 6)<|iS (qX jC [] E0<|iS (gZ 2)<|iS (gZ 3)<|iS (gZ 4) qW) qW) {nx:=λ_ H'=>Q .non H',rt:=Q} [A'<|.ref B.x,A'<|.str<|aK hw,A'<|.ref t1,A'<|.ref t2,A'<|.int z,A'<|.ref<|B.pp hw,A'<|.ref a] H1:=by
  intro H1 a k hrd hgl;have h1:=h.same k;refine⟨_,rfl,B.x,B.dx,_,rfl,h1.hx,rfl,_,rfl,_,rfl,_,rfl,_,rfl,_,rfl,t1,t2,F',c,z,rfl,k _ _ ht1,k _ _ ht2,(by lia),okF.1,okC.1,hb,λlj r H2 k2 hj hlj=>?_⟩;obtain rfl:=JE r hj;have k12:=k.trans k2;exact⟨B,t,cs,S,hw,_,.ref lj,cr (S.ow hw) F' c z,bK F' c z,rfl,h.same k12,iG k2 _ _ hrd,hgl,⟨lj,rfl,hlj⟩,aep,ht,hn,λb H3 h3 m3 hb3=>q b H3 h3 ((Mv.of k12).trans m3) hb3⟩
 have ail:(if LM=LI then !gY (.int (-z)) (F'.map V.int)else gY (.int (-z)) (F'.map V.int))=F'.contains (-z):=by rw[Mi Mb,cT]
 exists _,rfl,_,rfl,_,rfl,t1,_,rfl,.inr<|SqT.of<|k1 _ _ ht1,rfl,bX _,_,rfl;rw[ail];cases ef:F'.contains (-z)with
 |false=>
  refine aI<|main _ a1 k1 ?_ ?_
  ·unfold cr;rw[ef,Mi Mb];exact sZ s1
  ·unfold cr;rw[ef,Mi Mb];exact iP _ _ _
 |true=>
  have hD1:=k1 _ _ hD;have agL:=k1 _ _ tk1;have agK:=k1 _ _ tk2;have afX:=DGet.t hD1 agL;rw[hDv F',Ml mF]at afX;have afW:=DGet.t hD1 agK;rw[hDv c,Ml mC]at afW;refine aJ ⟨_,rfl,_,rfl,B.pp hw,_,rfl,afW,_,rfl,_,rfl,B.pp hw,_,rfl,afX,_,rfl,(by show 4<=sizeLine;decide),λa2 n2=>?_⟩;have k2:=ag n2<|.tup [.str aZ,.int ((S.ow hw).idxOf c:Nat),.int ((S.ow hw).idxOf F':Nat),.int z];refine main _ a2 (k1.trans k2) ?_ ?_
  ·unfold cr;rw[ef,Ml rfl];exact sZ ad
  ·unfold cr;rw[ef,Ml rfl];exact iP _ _ _
abbrev vj:NN:=cZ 20
abbrev vk:NN:=cZ 63
abbrev vm:NN:=eh (cZ 65) 4
def wU:Sp:=λvs H Q _=>∃(n:Int) (b:Md),vs=[.int n,.bl b]/\Q (.int (if b=LI then n else -n)) H
def wV:LH (gV Int)->Int->LH (gV Int)
 |none,_=>LL
 |some r,z=>if r.contains z=LI then LL else if r.contains (-z)=LI then A' (r.drop 1)else A' r
inductive BU (vs:gV V)(H:Hp)(Q:VK):Prop
 |mk (v:V)(o:LH (gV Int))(z:Int)(h0:vs=[v,.int z])(h1:ln H o v)(h2:∀c,o=A' c->c.length<=60)(q:∀v' H',Same H H'->ln H' (wV o z) v'->Q v' H'):BU vs H Q
def wW:Sp:=λvs H Q _=>BU vs H Q
theorem kE(h1:1<=absI l):held LI (bs++[b]) l=(held LI bs l || decide (l=if b=LI then(bs.length:Int)+1 else -((bs.length:Int)+1))):=by
 obtain g|g|g:=Tt (absI l - 1).toNat bs.length
 ·rw[mD g,LW,Q3];intro z;have:absI l=(bs.length:Int)+1:=by
   rw[z]
   split
   ·exact dg (by lia)
   ·rw[eD];exact dg (by lia)
  lia
 ·rw[mE g,di<|QN g.symm,Q4];have ha:absI l=(bs.length:Int)+1:=by lia
  obtain e|e:=BI (by lia) ha
  ·rw[e,Ma (show(0:Int) < (bs.length:Int)+1 by lia)];cases b
   ·rw[Mi Mb,LW<|by lia];rfl
   ·rw[Ml rfl,Ma rfl];rfl
  ·rw[e,LW (show¬(0:Int) < -((bs.length:Int)+1) by lia)];cases b
   ·rw[Mi Mb,Ma rfl];rfl
   ·rw[Ml rfl,LW<|by lia];rfl
 ·rw[di (by rw[LX,Mz];lia),di (by lia),LW,Q4];intro z;have:absI l=(bs.length:Int)+1:=by
   rw[z]
   split
   ·exact dg (by lia)
   ·rw[eD];exact dg (by lia)
  lia
theorem yO(hok:aD n c):wV (cH bs c) (if b=LI then(bs.length:Int)+1 else -((bs.length:Int)+1))=cH (bs++[b]) c:=by
 generalize hz:(if b=LI then(bs.length:Int)+1 else -((bs.length:Int)+1))=z;have az:absI z=(bs.length:Int)+1:=by
  rw[<-hz]
  split
  ·exact dg (by lia)
  ·rw[eD];exact dg (by lia)
 have ah5:c.any (held LI<|bs++[b])=(c.any (held LI bs) || c.contains z):=by
  rw[NB,NL,MW,MW,Mo];constructor
  ·rintro⟨l,hl,h⟩;rw[kE (hok.2 l hl).1,hz,NL]at h;exact h.imp (λq=>⟨l,hl,q⟩) λq=>by rw[<-(My q:l=z)];exact hl
  ·rintro (⟨l,hl,h⟩|h)
   ·exact⟨l,hl,by rw[kE (hok.2 l hl).1,h,aac]⟩
   ·exact⟨z,h,by rw[kE (hok.2 z h).1,hz,Ma rfl,W9]⟩
 unfold cH;rw[ah5,LX,Mz];cases g1:c.any (held LI bs)with
 |true=>rfl
 |false=>
  rw[Mi Mb,Q4];show(if(c.filter λl=>decide ((bs.length:Int) < absI l)).contains z=LI then LL else if(c.filter λl=>decide ((bs.length:Int) < absI l)).contains (-z)=LI then A' ((c.filter λl=>decide ((bs.length:Int) < absI l)).drop 1)else A' (c.filter λl=>decide ((bs.length:Int) < absI l)))=_
  have S9:∀y,absI y=(bs.length:Int)+1->((c.filter λl=>decide ((bs.length:Int) < absI l)).contains y=LI↔y∈c):=λy hy=>by
   rw[Mo,MP,MQ];exact⟨λq=>q.1,λq=>⟨q,by lia⟩⟩
  by_cases g2:z∈c
  ·rw[Ml<|(S9 z az).mpr g2,Ml<|Mo.mpr g2]
  ·rw[Mi λq=>g2<|(S9 z az).mp q,Mi λq=>g2<|Mo.mp q];have hff:c.filter (λl=>decide (((bs.length+1:Nat):Int) < absI l))=(c.filter λl=>decide ((bs.length:Int) < absI l)).filter λl=>decide (((bs.length+1:Nat):Int) < absI l):=by
    rw[List.filter_filter];refine Tx λl _=>?_;rw[NB,MO,MQ,MQ];lia
   have hup:Ups (c.filter λl=>decide ((bs.length:Int) < absI l)):=Ny.mpr<|QE _<|Ny.mp hok.1;have hgt:∀l∈c.filter λl=>decide ((bs.length:Int) < absI l),(bs.length:Int) < absI l:=λl hl=>My (MP.mp hl).2;have hnz:∀l∈c.filter λl=>decide ((bs.length:Int) < absI l),absI l=(bs.length:Int)+1->l=-z:=λl hl e=>by
    have e':absI l=absI z:=by lia
    obtain q|q:=jw e'
    ·exact absurd (q▸(MP.mp hl).1) g2
    ·lia
   rw[hff];generalize c.filter (λl=>decide ((bs.length:Int) < absI l))=r at hup hgt hnz S9;by_cases g3:r.contains (-z)=LI
   ·rw[Ml g3]
    congr 1
    have hm:=Mo.mp g3;cases r with
    |nil=>cases hm
    |cons x r=>
     have hx:absI x=(bs.length:Int)+1:=by
      have h1:=hgt x L9;obtain e|e:=Mn.mp hm
      ·rw[<-e,eD];exact az
      ·have:=hup.head _ e;rw[eD,az]at this;lia
     rw[P9<|by rw[MQ];lia];show r=_
     refine(QU.mpr λl hl=>?_).symm;have:=hup.head l hl;rw[MQ];lia
   ·rw[Mi g3]
    congr 1
    refine(QU.mpr λl hl=>?_).symm;have h1:=hgt l hl;rw[MQ];obtain q|q|q:=Int.lt_trichotomy (absI l) ((bs.length:Int)+1)
    ·lia
    ·exact absurd (Mo.mpr<|hnz l hl q▸hl) g3
    ·lia
theorem wX:aq ["variable","value"] ["variable","value"] (aj vj):=⟨rfl,rfl,rfl,by decide+kernel,rfl,by decide+kernel,by decide+kernel⟩
theorem BV(F:Fun K "literal_by" "literal_by" vj f fd):FnOk P w K mg base b7 1 f fd ["variable","value"] wU:=by
 have sc:=wX;refine F.ok wX (λvs H Q E h=>?_) λOT A outer s H vs Q E hr h=>?_
 ·obtain⟨n,b,rfl,_⟩:=h;rfl
 obtain⟨n,b,rfl,q⟩:=h;exists _,(ah<|ao<|eF (bD<|pv 1) (pv 0)<|fk c7<|pv 0);exists _,rfl,_,rfl;cases b with
 |true=>exact aJ ⟨_,rfl,q⟩
 |false=>exact aI ⟨_,rfl,_,rfl,q⟩
theorem wY:aq ["rest","literal"] ["rest","literal"] (aj vk):=⟨rfl,rfl,rfl,by decide+kernel,rfl,by decide+kernel,by decide+kernel⟩
theorem BW(F:Fun K "rest_behind" "rest_behind" vk f fd):FnOk P w K mg base b7 1 f fd ["rest","literal"] wW:=by
 have sc:=wY;refine F.ok wY (λvs H Q E h=>?_) λOT A outer s H vs Q E hr h=>?_
 ·obtain⟨v,o,z,rfl,_⟩:=h;rfl
 obtain⟨v,o,z,rfl,h1,h2,q⟩:=h;refine⟨_,(af (aS (PW.pt<|gf (ay lU (pv 0) cK<|aB _)<|fB<|ay cX (pv 1) (pv 0)<|by with_unfolding_all rfl) (ah<|ao cK) aA)
  (ah<|ao<|eF (ay cX (fk c7<|pv 1) (pv 0)<|by with_unfolding_all rfl) (eJ DU (pv 0) (fu ai) gG)<|pv 0)),?_⟩
 cases o with
 |none=>
  have h1':v=.non:=h1;subst h1';exists _,rfl,rfl,_,rfl;rw[Ma rfl];exact aJ<|aJ<|q _ _ (Same.refl _) rfl
 |some r=>
  obtain⟨tr,rfl,htr⟩:=h1;have ein:∀y,(if LM=LI then !gY (.int y) (r.map V.int)else gY (.int y) (r.map V.int))=r.contains y:=λy=>by rw[Mi Mb,cT]
  exists _,rfl,rfl,_,rfl;rw[LW λz=>by cases z];refine aI ⟨_,rfl,_,rfl,tr,_,rfl,.inr<|SqT.of htr,rfl,bX _,_,rfl,?_⟩;rw[ein];cases g1:r.contains z with
  |true=>exact aJ<|q _ _ (Same.refl _) (by show ln H (if r.contains z=LI then LL else _) .non;rw[Ml g1];rfl)
  |false=>
   have q2:∀v' H',Same H H'->ln H' (if r.contains (-z)=LI then A' (r.drop 1)else A' r) v'->Q v' H':=λv' H' k hk=>q v' H' k (by
    show ln H' (if r.contains z=LI then LL else if r.contains (-z)=LI then A' (r.drop 1)else A' r) v'
    rw[Mi<|by rw[g1];exact Mb];exact hk)
   refine aI ⟨_,rfl,_,rfl,_,rfl,tr,_,rfl,.inr<|SqT.of htr,rfl,bX _,_,rfl,?_⟩;rw[ein];cases g2:r.contains (-z)with
   |true=>
    rw[g2]at q2;have hm:=Mo.mp g2;have N1:1<=r.length:=UO hm;refine aJ ⟨_,rfl,1,rfl,tr,_,rfl,SqT.of htr,λaaq=>?_,λ_ p np=>?_⟩
    ·have e1:HT.sIx (r.map V.int).length 0 (A' 1)=min 1 (r.map V.int).length:=HT.sIx_nat _ 0 1;rw[e1,J']at aaq;lia
    ·have ec:cQ (r.map V.int) (A' 1) LL=(r.drop 1).map V.int:=by
      rw[show(A' (1:Int))=A' (((1:Nat):Int))from rfl,Ah,Zu]
     rw[ec];exact q2 _ _ (ag np _) ⟨p,rfl,ad⟩
   |false=>
    rw[g2]at q2;exact aI ⟨_,rfl,q2 _ _ (Same.refl _) ⟨tr,rfl,htr⟩⟩
inductive BX (CS:LJ)(vs:gV V)(H:Hp)(Q:VK):Prop
 |mk (A:SA)(t:Str)(cs:gV (gV Int))(S:SS)(b:Md)(fv:V)(o:LH (gV Int))(h0:vs=[.ref A.x,.bl b,fv])(h:SrAt CS A t cs S H)(ho:ln H o fv)(hc:∀c∈cs,aD t.length c)(ht:t.length<=18)(Qx:cs.length<=2000)(hb:S.bs.length<=18)(hf:S.fs.length<=18)(q:∀H',SrAt CS A t cs (dS b o S) H'->Mv A H H'->Q .non H'):BX CS vs H Q
def qB(CS:LJ):Sp:=λvs H Q _=>BX CS vs H Q
theorem fL{α β:Type}{R:α->β->Prop}{as:gV α}{bs:gV β}(h:Paired R as bs):as.length=bs.length:=by
 induction h with
 |nil=>rfl
 |cons _ _ ih=>rw[L4,L4,ih]
theorem px{α β:Type}{R:α->β->Prop}{as:gV α}{bs:gV β}(h:Paired R as bs):∀{i:Nat} {b:β},bs[i]? =A' b->∃a,as[i]? =A' a/\R a b:=by
 induction h with
 |nil=>intro i b e;simp at e
 |cons r _ ih=>
  intro i b e;cases i with
  |zero=>
   have e':=MC (show A' _=A' b from e);subst e';exact⟨_,rfl,r⟩
  |succ i=>
   obtain⟨a,e1,e2⟩:=ih (i:=i) (b:=b) (by simpa using e);exact⟨a,by simpa using e1,e2⟩
theorem lc{α β:Type}{R:α->β->Prop}{as:gV α}{bs:gV β}{a:α}{b:β}(h:Paired R as bs)(r:R a b):Paired R (as++[a]) (bs++[b]):=by
 induction h with
 |nil=>exact .cons r .nil
 |cons r' _ ih=>exact .cons r' ih
theorem s0{xs:gV V}{y:V}(h:xs[xs.length - 1]? =A' y):kL xs (-1)=A' y:=by
 have hl:0 < xs.length:=by
  have:=(LS.mp h).1;lia
 unfold kL C6;rw[Mi (by decide),Ml<|by lia];show xs[(-1+(xs.length:Int)).toNat]? =A' y
 rw[show(-1+(xs.length:Int)).toNat=xs.length - 1 by lia];exact h
inductive F0 (H1:Hp)(D:LJ)(z:Int)(os:gV (LH<|gV Int))(i:Nat)(σ:St)(ys:gV V)(H2:Hp):Prop
 |mk (v0:LH V)(h0:σ=[v0,A' (.int z)])(h1:H2 D=A' (.lst ys))(h2:Same H1 H2)(h3:iy H2 ((os.take i).map λo=>wV o z) ys):F0 H1 D z os i σ ys H2
theorem wZ:aq ["self","value","first","literal"] ["self","value","first"] (aj vm):=⟨rfl,rfl,rfl,by decide+kernel,rfl,by decide+kernel,by decide+kernel⟩
theorem BY(F:Fun K "fill_in" "Searcher.fill_in" vm f fd)(T:nz K mg CS)(aav:Fn P w K mg base 1 "literal_by" g1 e1 ["variable","value"] wU)(ZR:Fn P w K mg base 1 "rest_behind" g2 e2 ["rest","literal"] wW):FnOk P w K mg base b7 2 f fd ["self","value","first"] (qB CS):=by
 have sc:=wZ;refine F.ok wZ (λvs H Q E h=>?_) λOT A outer s H vs Q E hr h=>?_
 ·obtain⟨A,t,cs,S,b,fv,o,rfl,_⟩:=h;rfl
 obtain⟨B,t,cs,S,b,fv,o,rfl,h,ho,hc,ht,Qx,ah2,alg,q⟩:=h;have hu:=hr.units;have N:=h.nes;obtain⟨fvs,hf,XA⟩:=h.f;have hfl:=fL XA;refine⟨_,(af (au (i:=3) sc.nd rfl (Ra rfl)<|aG aav hr (by lia) rfl<|aa (aU g_ (aw bh rfl T.len M7<|aa (bu (pv 0) rfl) ae) ai)<|aa (pv 1) ae)
  (af (bA<|cv ML Na Ng bW (bu (pv 0) rfl)<|aa (pv 1) ae)
  (af (bA<|cv ML Na Ng bW (bu (pv 0) rfl)<|aa (pv 2) ae)
  (ah<|bA<|cv ML Na Ng bW (bu (pv 0) rfl)<|aa (bp (NY:=["rest","literal"]) (idx:=[LL,A' 3]) rfl ⟨by with_unfolding_all rfl,(by with_unfolding_all exact⟨rfl,trivial⟩),λ_=>by rfl,by rfl,by rfl,by rfl,by decide⟩ (bw<|av am (bu (pv 0) rfl) (fk c7 ai) λ_ _=>rfl) (λ_ _ _ _=>(aE (i:=0) (show Nf (["rest","literal"]:gV Str) by decide+kernel) rfl<|MA rfl)) (λ_ _ _ _=>bJ) λ_ _ _ _=>(aG ZR hr (by lia) rfl<|aa (pv 0)<|aa (pv 1) ae)) ae)))),?_⟩
 exists _,rfl,B.x,CS,B.dx,_,_,rfl,h.hx,T.cl,T.nB,rfl,.ref B.b,_,rfl,.inl ⟨_,SqL.of h.b,rfl⟩,_,_,rfl,rfl,_,rfl,_,b,rfl;rw[J'];generalize hz:(if b=LI then((S.bs.length:Nat):Int)+1 else -(((S.bs.length:Nat):Int)+1))=z;exists _,rfl,B.x,CS,B.dx,_,_,rfl,h.hx,T.cl,T.nB,rfl,.inl ⟨rfl,_,SqL.of h.b⟩,_,rfl,B.b,_,_,rfl,rfl,h.b,aW (by rw[J'];lia);have oB:B.own B.b:=.inr<|.inl rfl;have oF:B.own B.f:=.inr<|.inr<|.inl rfl;have oR:B.own B.r:=.inr<|.inr<|.inr<|.inl rfl;have nxb:B.x≠B.b:=bR h.hx h.b (by intro z;cases z);have nxf:B.x≠B.f:=bR h.hx hf (by intro z;cases z);have m1:Mv B H (upd H B.b<|.lst<|S.bs.map V.bl++[.bl b]):=(Mv.of<|Same.refl H).upd oB _;have VT:∀a u,H a=A' u->a≠B.b->upd H B.b (.lst<|S.bs.map V.bl++[.bl b]) a=A' u:=λa u e n=>by rw[al n];exact e
 have s1:upd H B.b (.lst<|S.bs.map V.bl++[.bl b]) B.b=A' (.lst<|S.bs.map V.bl++[.bl b]):=ad;generalize upd H B.b (.lst<|S.bs.map V.bl++[.bl b])=H1 at m1 VT s1 ⊢;have hx1:=VT _ _ h.hx nxb;have hf1:=VT _ _ hf<|NC N.bf;exists _,rfl,B.x,CS,B.dx,_,_,rfl,hx1,T.cl,T.nF,rfl,.inl ⟨rfl,_,SqL.of hf1⟩,_,rfl,B.f,_,_,rfl,rfl,hf1,aW (by lia);have m2:Mv B H (upd H1 B.f<|.lst<|fvs++[fv]):=m1.upd oF _;have Tf:∀a u,H a=A' u->a≠B.b->a≠B.f->upd H1 B.f (.lst<|fvs++[fv]) a=A' u:=λa u e n n2=>by rw[al n2];exact VT a u e n
 have s2:upd H1 B.f (.lst<|fvs++[fv]) B.f=A' (.lst<|fvs++[fv]):=ad;have s1':upd H1 B.f (.lst<|fvs++[fv]) B.b=A' (.lst<|S.bs.map V.bl++[.bl b]):=by rw[al N.bf];exact s1
 generalize upd H1 B.f (.lst<|fvs++[fv])=H2 at m2 Tf s2 s1' ⊢;have k2:=h.tups m2;have YY:=Tf _ _ h.hx nxb nxf;obtain⟨rvs,hr1,hrr⟩:=h.r;have hr2:=Tf _ _ hr1 (NC N.br)<|NC N.fr;have ahn:=hrr.mono m2 k2;have hrl:=hrr.len;have U8:rvs[rvs.length - 1]? =A' (rvs.getD (rvs.length - 1) .non):=aL (by lia);obtain⟨a,ws,ev,hws,hna,how⟩:=ahn.at_ _ _ U8;rw[ev]at U8;rw[show rvs.length - 1=S.bs.length by lia,L8<|LQ _]at how;have hwl:=fL how;have hol:(ca t cs S.bs).length=cs.length:=J' _;refine⟨_,rfl,B.x,CS,B.dx,_,_,rfl,YY,T.cl,T.nR,rfl,.inl ⟨rfl,_,SqL.of hr2⟩,_,rfl,B.x,CS,B.dx,_,_,rfl,YY,T.cl,T.nR,rfl,_,rfl,.inl ⟨B.r,_,-1,.ref a,rfl,rfl,SqL.of hr2,s0 U8,a,rfl,⟨_,SqL.of hws⟩,λD nD=>?_⟩⟩;have naD:a≠D:=ak hws nD;have nDo:¬B.taken D:=λzz=>by
  obtain(zz|zz|zz|zz|⟨y,zz|zz⟩)|zz:=zz
  ·rw[zz,YY]at nD;cases nD
  ·rw[zz,s1']at nD;cases nD
  ·rw[zz,s2]at nD;cases nD
  ·rw[zz,hr2]at nD;cases nD
  ·obtain⟨vs,e,_⟩:=h.l y;rw[zz,Tf _ _ e (N.lb y)<|N.lf y]at nD;cases nD
  ·obtain⟨D',e,_⟩:=h.d y;rw[zz,Tf _ _ e (bR e h.b<|by intro z;cases z)<|bR e hf<|by intro z;cases z]at nD;cases nD
  ·obtain⟨n,o,e⟩:=h.far _ zz;rw[m2 _ _ n e]at nD;cases nD
 refine bO (K:=K) (a:=a) (xs:=ws) (F0 H2 D z<|ca t cs S.bs) ⟨LL,rfl,ad,ag nD _,.nil⟩ ?_ ?_ ?_
 ·rintro i σ ys H3 _ ⟨_,_,i1,i2,_⟩;exact⟨i1,SqL.of<|i2 _ _ hws⟩
 ·rintro i x σ ys H3 hx ⟨v0,rfl,i1,i2,i3⟩;obtain⟨oi,hoi,aci⟩:=px how hx;have V3:=(LS.mp hoi).1;have hyl:=fL i3;rw[J',ME]at hyl;have aec:∀c,oi=A' c->c.length<=60:=λc e=>by
   unfold ca at hoi;rw[Mp]at hoi;cases g:cs[i]? with
   |none=>rw[g]at hoi;cases hoi
   |some c0=>
    rw[g]at hoi;have e2:cH S.bs (aR t LM c0)=A' c:=(MC hoi).trans e;unfold cH at e2
    split at e2
    ·cases e2
    ·rw[<-MC e2];have h1:=N8 (λl=>decide ((S.bs.length:Int) < absI l))<|aR t LM c0;have h2:=bQ<|gr (t:=t) (hw:=LM)<|hc c0<|LZ g;lia
  refine bS ⟨_,rfl,_,rfl,x,oi,z,rfl,(TupS.of i2).opt aci,aec,λv' H4 k4 hv'=>?_⟩;have hD4:=k4 _ _ i1;have tk:TupS H4 (upd H4 D<|.lst<|ys++[v']):=λb' xs' e=>by rw[al λzz=>by rw[zz,hD4]at e;cases e];exact e
  exists hD4,aW (by lia),_,rfl,ad,(i2.trans k4).upd_new nD _;rw[MM,hoi,Mq];exact lc (((TupS.of k4).trans tk).opts i3)<|tk.opt hv'
 ·rintro σ ys H3 ⟨_,_,i1,i2,i3⟩;rw[L8<|by lia]at i3;have hx3:=i2 _ _ YY;have hr3:=i2 _ _ hr2;exists B.r,rvs,_,rfl,rfl,hr3,aW (by lia);have m4:Mv B H (upd H3 B.r<|.lst<|rvs++[.ref D]):=(m2.trans<|.of i2).upd oR _;have aby:∀a u,H a=A' u->a≠B.b->a≠B.f->a≠B.r->upd H3 B.r (.lst<|rvs++[.ref D]) a=A' u:=λa u e n n2 n3=>by rw[al n3];exact i2 _ _<|Tf a u e n n2
  have k4:=h.tups m4;have nDr:D≠B.r:=λzz=>nDo (by rw[zz];exact .inl oR);have hD4:upd H3 B.r (.lst<|rvs++[.ref D]) D=A' (.lst ys):=by rw[al nDr];exact i1
  have tk:TupS H3 (upd H3 B.r<|.lst<|rvs++[.ref D]):=λb' xs' e=>by rw[al λzz=>by rw[zz,hr3]at e;cases e];exact e
  have sr:upd H3 B.r (.lst<|rvs++[.ref D]) B.r=A' (.lst<|rvs++[.ref D]):=ad;have sb:upd H3 B.r (.lst<|rvs++[.ref D]) B.b=A' (.lst<|S.bs.map V.bl++[.bl b]):=by rw[al N.br];exact i2 _ _ s1'
  have sf:upd H3 B.r (.lst<|rvs++[.ref D]) B.f=A' (.lst<|fvs++[fv]):=by rw[al N.fr];exact i2 _ _ s2
  generalize upd H3 B.r (.lst<|rvs++[.ref D])=H4 at m4 aby k4 hD4 tk sr sb sf ⊢;refine q H4 (h.make (S':=dS b o S) m4 ?_ ?_ ?_ ?_ ?_ ?_ h.good h.len) m4
  ·exact aby _ _ h.hx nxb nxf (bR h.hx hr1<|by intro z;cases z)
  ·intro y;obtain⟨vs,e1,e2⟩:=h.l y;exact⟨vs,aby _ _ e1 (N.lb y) (N.lf y)<|N.lr y,k4.goods (h.good y) e2⟩
  ·intro y;obtain⟨D',e1,e2⟩:=h.d y;exact⟨D',aby _ _ e1 (bR e1 h.b<|by intro z;cases z) (bR e1 hf<|by intro z;cases z) (bR e1 hr1<|by intro z;cases z),e2⟩
  ·show H4 B.b=A' (.lst<|(S.bs++[b]).map V.bl)
   rw[Mq];exact sb
  ·exact⟨_,sf,lc (k4.opts XA)<|k4.opt ho⟩
  ·refine⟨_,sr,?_,λk v hk=>?_⟩
   ·show(rvs++[V.ref D]).length=(S.bs++[b]).length+1
    rw[LX,LX,hrl];rfl
   ·by_cases g:k < rvs.length
    ·rw[Nd g]at hk;obtain⟨a',ws',e1,e2,e3,e4⟩:=(hrr.mono m4 k4).at_ k v hk;exists a',ws',e1,e2,e3;have:(dS b o S).bs.take k=S.bs.take k:=P_ (by lia);rw[this];exact e4
    ·rw[Nh<|by lia]at hk;have hk0:k=rvs.length:=by
      have:=(LS.mp hk).1;rw[Mz]at this;lia
     subst hk0;rw[PF]at hk;cases hk;exists D,ys,rfl,hD4,nDo;have e1:(dS b o S).bs.take rvs.length=S.bs++[b]:=L8 (by show(S.bs++[b]).length<=_;rw[LX,Mz];lia);rw[e1];have e2:(ca t cs S.bs).map (λo=>wV o z)=ca t cs (S.bs++[b]):=by
      unfold ca;rw[M9];refine QS λc Wx=>?_;rw[<-hz];exact yO<|gr (t:=t) (hw:=LM)<|hc c Wx
     rw[<-e2];exact tk.opts i3
abbrev vn:NN:=eh (cZ 65) 5
inductive BZ (CS:LJ)(vs:gV V)(H:Hp)(Q:VK):Prop
 |mk (A:SA)(t:Str)(cs:gV (gV Int))(S:SS)(hw:Md)(u:V)(c:gV Int)(h0:vs=[.ref A.x,.str<|aK hw,u])(h:SrAt CS A t cs S H)(hu:CL H c u)(T:nn t cs hw c S)(hc:∀c∈cs,aD t.length c)(ht:t.length<=18)(Qx:cs.length<=2000)(hn:cu S+2*pend S.fs<=8800)(q:∀H',SrAt CS A t cs (fK t hw S.bs.length c S) H'->Mv A H H'->Q .non H'):BZ CS vs H Q
def w4(CS:LJ):Sp:=λvs H Q _=>BZ CS vs H Q
inductive B0 (CS:LJ)(A:SA)(t:Str)(cs:gV (gV Int))(hw:Md)(R:SS)(H:Hp)(m:Nat)(σ:St)(H1:Hp):Prop
 |mk (c:gV Int)(S:SS)(u:V)(v3 v4 v5:LH V)(h0:σ=[A'<|.ref A.x,A'<|.str<|aK hw,A' u,v3,v4,v5])(h:SrAt CS A t cs S H1)(hm:Mv A H H1)(hu:CL H1 c u)(T:nn t cs hw c S)(hk:S.bs.length=m)(hn:cu S+2*pend S.fs<=8800)(hR:fK t hw m c S=R):B0 CS A t cs hw R H m σ H1
theorem J9(h1:∀R,R p H->T1 σ H R)(h2:∀R,R q H->T2 σ H R)(hq:if(p || q)=LI then t D σ H else u D σ H):IE (Li T1 T2) t u D σ H:=by
 refine h1 _ ?_;cases p with
 |true=>exact aJ hq
 |false=>exact aI<|h2 _ hq
section
variable {S:SS}
theorem SrAt.pop(h:SrAt CS A t cs S H)(hk:S.bs.length=k+1)(hf:H A.f=A' (.lst fvs))(XA:iy H S.fs fvs)(hr:H A.r=A' (.lst rvs))(hrr:Rsts A t cs S.bs H rvs):
  SrAt CS A t cs (ci S) (upd (upd (upd H A.b<|.lst (S.bs.map V.bl).dropLast) A.f<|.lst fvs.dropLast) A.r<|.lst rvs.dropLast)/\Mv A H (upd (upd (upd H A.b<|.lst (S.bs.map V.bl).dropLast) A.f<|.lst fvs.dropLast) A.r<|.lst rvs.dropLast):=by
 have N:=h.nes;have oB:A.own A.b:=.inr<|.inl rfl;have oF:A.own A.f:=.inr<|.inr<|.inl rfl;have oR:A.own A.r:=.inr<|.inr<|.inr<|.inl rfl;have m:Mv A H (upd (upd (upd H A.b<|.lst (S.bs.map V.bl).dropLast) A.f<|.lst fvs.dropLast) A.r<|.lst rvs.dropLast):=(((Mv.of<|Same.refl H).upd oB _).upd oF _).upd oR _;have keep:∀a u,H a=A' u->a≠A.b->a≠A.f->a≠A.r->upd (upd (upd H A.b<|.lst (S.bs.map V.bl).dropLast) A.f<|.lst fvs.dropLast) A.r (.lst rvs.dropLast) a=A' u:=λa u e n1 n2 n3=>by rw[al n3,al n2,al n1];exact e
 have sr:upd (upd (upd H A.b<|.lst (S.bs.map V.bl).dropLast) A.f<|.lst fvs.dropLast) A.r (.lst rvs.dropLast) A.r=A' (.lst rvs.dropLast):=ad;have sf:upd (upd (upd H A.b<|.lst (S.bs.map V.bl).dropLast) A.f<|.lst fvs.dropLast) A.r (.lst rvs.dropLast) A.f=A' (.lst fvs.dropLast):=by rw[al N.fr];exact ad
 have sb:upd (upd (upd H A.b<|.lst (S.bs.map V.bl).dropLast) A.f<|.lst fvs.dropLast) A.r (.lst rvs.dropLast) A.b=A' (.lst (S.bs.map V.bl).dropLast):=by rw[al N.br,al N.bf];exact ad
 generalize upd (upd (upd H A.b<|.lst (S.bs.map V.bl).dropLast) A.f<|.lst fvs.dropLast) A.r (.lst rvs.dropLast)=H3 at m keep sr sf sb ⊢;have kk:=h.tups m;refine⟨h.make (S':=ci S) m ?_ ?_ ?_ ?_ ?_ ?_ h.good h.len,m⟩
 ·exact keep _ _ h.hx (bR h.hx h.b<|by intro z;cases z) (bR h.hx hf<|by intro z;cases z) (bR h.hx hr<|by intro z;cases z)
 ·intro y;obtain⟨vs,e1,e2⟩:=h.l y;exact⟨vs,keep _ _ e1 (N.lb y) (N.lf y)<|N.lr y,kk.goods (h.good y) e2⟩
 ·intro y;obtain⟨D',e1,e2⟩:=h.d y;exact⟨D',keep _ _ e1 (bR e1 h.b<|by intro z;cases z) (bR e1 hf<|by intro z;cases z) (bR e1 hr<|by intro z;cases z),e2⟩
 ·show H3 A.b=A' (.lst<|S.bs.dropLast.map V.bl)
  rw[W5];exact sb
 ·exists _,sf;show iy H3 S.fs.dropLast fvs.dropLast
  have hh:=kk.opts XA;clear XA hf keep sf;generalize S.fs=os at hh;have gen:∀{os:gV (LH<|gV Int)} {vs:gV V},Paired (ln H3) os vs->Paired (ln H3) os.dropLast vs.dropLast:=λ{os vs} hp=>by
   induction hp with
   |nil=>exact .nil
   |cons r t ih=>
    cases t with
    |nil=>exact .nil
    |cons r' t'=>exact .cons r ih
  exact gen hh
 ·have hrl:=hrr.len;have aho:=hrr.mono m kk;refine⟨_,sr,?_,λj v hj=>?_⟩
  ·show rvs.dropLast.length=S.bs.dropLast.length+1
   rw[Nw,Nw];lia
  ·have hj':j < rvs.dropLast.length:=(LS.mp hj).1;rw[Nw]at hj';rw[Rz,Ml hj']at hj;obtain⟨a',ws',e1,e2,e3,e4⟩:=aho.at_ j v hj;exists a',ws',e1,e2,e3;have:(ci S).bs.take j=S.bs.take j:=by
    show S.bs.dropLast.take j=_
    rw[Qs,SX]
    congr 1
    lia
   rw[this];exact e4
end
theorem w6:aq ["self","hand","literals","variable","value","first"] ["self","hand","literals"] (aj vn):=⟨rfl,rfl,rfl,by decide+kernel,rfl,by decide+kernel,by decide+kernel⟩
theorem B1(F:Fun K "turn_back" "Searcher.turn_back" vn f fd)(T:nz K mg CS)(Yd:mH P w K mg base b7 2 CS "fill_in" g1 e1 ["self","value","first"] (qB CS))(aaw:mH P w K mg base b7 5 CS "learn_join" g2 e2 ["self","hand","first","second","variable"] (wS CS)):FnOk P w K mg base b7 6 f fd ["self","hand","literals"] (w4 CS):=by
 have sc:=w6;refine F.ok w6 (λvs H Q E h=>?_) λOT A outer s H vs Q E hr h=>?_
 ·obtain⟨A,t,cs,S,hw,u,c,rfl,_⟩:=h;rfl
 obtain⟨B,t,cs,S0,hw,u0,c0,rfl,h0,hu0,T0,hc,ht,Qx,hn0,q⟩:=h;have hu:=hr.units;obtain⟨R,hR0⟩:∃R,R=fK t hw S0.bs.length c0 S0:=⟨_,rfl⟩;rw[<-hR0]at q;refine⟨_,(af (lR M_ (hU (bu (pv 0) rfl) λ_=>rfl)
   (af (au (i:=3) sc.nd rfl (MA rfl)<|aw bh rfl T.len M7<|aa (bu (pv 0) rfl) ae)
   (af (au (i:=4) sc.nd rfl (MA rfl)<|ug ML QL RG uk<|bu (pv 0) rfl)
   (af (au (i:=5) sc.nd rfl (MA rfl)<|ug ML QL RG uk<|bu (pv 0) rfl)
   (af (bA<|ug ML QL RG uk<|bu (pv 0) rfl)
   (ah (aS (PW.pt<|gf (ay cX (pv 3) (pv 2)<|by with_unfolding_all rfl)<|fB<|ay cX (fk c7<|pv 3) (pv 2)<|by with_unfolding_all rfl) (af (aS (ay lU (pv 5) cK<|aB _) (af (bA<|gT Yd (pv 0) hr (by lia)<|aa (zd<|pv 4)<|aa (pv 2) ae)
     (ah Db)) aA)
    (ah<|au (i:=2) sc.nd rfl (MA rfl)<|gT aaw (pv 0) hr (by lia)<|aa (pv 1)<|aa (pv 5)<|aa (pv 2)<|aa (pv 3) ae)) aA)))))))
  (ah<|hV (pv 0) (pv 1) rfl)),?_⟩
 exists B0 CS B t cs hw R H,⟨S0.bs.length,c0,S0,u0,LL,LL,LL,rfl,h0,.of<|Same.refl _,hu0,T0,rfl,hn0,hR0.symm⟩;clear hR0;rintro m σ H1 ⟨c,S,u,v3,v4,v5,rfl,h,hm,hcu,TI,hk,hn,hR⟩;have N:=h.nes;have afN:=TI.I.blen;exists _,rfl,B.x,CS,B.dx,_,_,rfl,h.hx,T.cl,T.nB,rfl,!(S.bs.map V.bl).isEmpty,.inl ⟨_,SqL.of h.b,rfl⟩;cases m with
 |zero=>
  have hb0:S.bs=[]:=R5 hk;rw[hb0];refine aI ?_;exists _,rfl,_,rfl,B.x,CS,B.dx,_,rfl,h.hx,T.cl,T.nW,(by show 7 < 1000;decide);have ox:B.own B.x:=.inl rfl;have mm:Mv B H (upd H1 B.x<|.ins CS B.dx<|fM "winner" (.str<|aK hw)<|sX B<|qA S.win):=hm.upd ox _;have m1:Mv B H1 (upd H1 B.x<|.ins CS B.dx<|fM "winner" (.str<|aK hw)<|sX B<|qA S.win):=(Mv.of<|Same.refl H1).upd ox _;have kk:=h.tups m1;have keep:∀a o,H1 a=A' o->a≠B.x->upd H1 B.x (.ins CS B.dx<|fM "winner" (.str<|aK hw)<|sX B<|qA S.win) a=A' o:=λa o e n=>by rw[al n];exact e
  refine q _ ?_ mm;rw[<-hR];show SrAt CS B t cs {S with win:=A' hw} _
  obtain⟨fvs,hf,XA⟩:=h.f;obtain⟨rvs,hr1,hrr⟩:=h.r;refine h.make (S':={S with win:=A' hw}) m1 ?_ ?_ ?_ ?_ ?_ ?_ h.good h.len
  ·rw[ad];rfl
  ·intro y;obtain⟨vs,e1,e2⟩:=h.l y;exact⟨vs,keep _ _ e1 (bR e1 h.hx<|by intro z;cases z),kk.goods (h.good y) e2⟩
  ·intro y;obtain⟨D',e1,e2⟩:=h.d y;exact⟨D',keep _ _ e1 (bR e1 h.hx<|by intro z;cases z),e2⟩
  ·exact keep _ _ h.b (bR h.b h.hx<|by intro z;cases z)
  ·exact⟨fvs,keep _ _ hf (bR hf h.hx<|by intro z;cases z),kk.opts XA⟩
  ·exact⟨rvs,keep _ _ hr1 (bR hr1 h.hx<|by intro z;cases z),hrr.mono m1 kk⟩
 |succ k=>
  have S7:(!(S.bs.map V.bl).isEmpty)=true:=by
   cases e:S.bs with
   |nil=>rw[e]at hk;cases hk
   |cons x r=>rfl
  rw[S7];refine aJ ⟨λσ' H'=>∃m',m' < k+1/\B0 CS B t cs hw R H m' σ' H',λσ' H' z=>z,?_⟩;have aht:=λfvs rvs=>h.pop (fvs:=fvs) (rvs:=rvs) hk;obtain⟨fvs,hf,XA⟩:=h.f;obtain⟨rvs,hr1,hrr⟩:=h.r;obtain⟨hpS,hpm⟩:=aht fvs rvs hf XA hr1 hrr;have hfl:=fL XA;have adA:=TI.I.flen;have hrl:=hrr.len;exists _,rfl,B.x,CS,B.dx,_,_,rfl,h.hx,T.cl,T.nB,rfl,.ref B.b,_,rfl,.inl ⟨_,SqL.of h.b,rfl⟩;have ah1:(S.bs.map V.bl)[(S.bs.map V.bl).length - 1]? =A' (.bl<|S.bs.getD k LM):=by
   rw[J',hk,Wo,Mp,aL (d:=LM)<|by lia];rfl
  exists _,rfl,B.x,CS,B.dx,_,_,rfl,h.hx,T.cl,T.nB,rfl,.inl ⟨rfl,_,SqL.of h.b⟩,B.b,_,_,rfl,rfl,h.b,ah1;have nxb:B.x≠B.b:=bR h.hx h.b (by intro z;cases z);have nxf:B.x≠B.f:=bR h.hx hf (by intro z;cases z);have hx1:upd H1 B.b (.lst (S.bs.map V.bl).dropLast) B.x=A' (.ins CS B.dx<|sX B<|qA S.win):=by rw[al nxb];exact h.hx
  have hf1:upd H1 B.b (.lst (S.bs.map V.bl).dropLast) B.f=A' (.lst fvs):=by rw[al<|NC N.bf];exact hf
  have ahq:upd H1 B.b (.lst (S.bs.map V.bl).dropLast) B.r=A' (.lst rvs):=by rw[al<|NC N.br];exact hr1
  have hfx:=aL (d:=V.non) (show k < fvs.length by lia);have afF:fvs[fvs.length - 1]? =A' (fvs.getD k .non):=by rw[show fvs.length - 1=k by lia];exact hfx
  obtain⟨ok,hok,ad8⟩:=px XA hfx;have ac':S.fs.getD k LL=ok:=by rw[LK,hok];rfl
  generalize fvs.getD k .non=fv at afF ad8;exists _,rfl,B.x,CS,B.dx,_,_,rfl,hx1,T.cl,T.nF,rfl,.inl ⟨rfl,_,SqL.of hf1⟩,B.f,_,_,rfl,rfl,hf1,afF;have YY:upd (upd H1 B.b<|.lst (S.bs.map V.bl).dropLast) B.f (.lst fvs.dropLast) B.x=A' (.ins CS B.dx<|sX B<|qA S.win):=by rw[al nxf];exact hx1
  have afk:upd (upd H1 B.b<|.lst (S.bs.map V.bl).dropLast) B.f (.lst fvs.dropLast) B.r=A' (.lst rvs):=by rw[al<|NC N.fr];exact ahq
  exists _,rfl,B.x,CS,B.dx,_,_,rfl,YY,T.cl,T.nR,rfl,.inl ⟨rfl,_,SqL.of afk⟩,B.r,_,_,rfl,rfl,afk,aL (d:=V.non) (by lia);have tk:=h.tups hpm;generalize upd (upd (upd H1 B.b<|.lst (S.bs.map V.bl).dropLast) B.f<|.lst fvs.dropLast) B.r (.lst rvs.dropLast)=H2 at hpS hpm tk ⊢;have hm2:=hm.trans hpm;obtain⟨tc,rfl,T7⟩:=tk.cl hcu;have lb:(ci S).bs.length=k:=by show S.bs.dropLast.length=k;rw[Nw,hk];rfl
  have lf:(ci S).fs.length=k:=by show S.fs.dropLast.length=k;rw[Nw,adA,hk];rfl
  have hz:(((S.bs.map V.bl).length:Nat):Int)=(k:Int)+1:=by rw[J',hk];rfl
  rw[hz];have ein:∀y,(if LM=LI then !gY (.int y) (c.map V.int)else gY (.int y) (c.map V.int))=c.contains y:=λy=>by rw[Mi Mb,cT]
  have hpd:=sT TI.I hk;have htp:cu (ci S)=cu S:=rfl;dsimp only;refine J9 (p:=c.contains<|(k:Int)+1) (q:=c.contains (-((k:Int)+1))) (λR r=>⟨_,rfl,_,rfl,tc,_,rfl,.inr<|SqT.of T7,rfl,bX _,_,rfl,by rw[ein];exact r⟩) (λR r=>⟨_,rfl,_,rfl,_,rfl,tc,_,rfl,.inr<|SqT.of T7,rfl,bX _,_,rfl,by rw[ein];exact r⟩) ?_;unfold fK at hR;by_cases S9:(c.contains ((k:Int)+1) || c.contains (-((k:Int)+1)))=LI
  ·rw[Ml S9]at hR;have aan:(k:Int)+1∈c\/ -((k:Int)+1)∈c:=by
    rw[NL]at S9;exact S9.imp Mo.mp Mo.mp
   rw[S9];refine aJ ?_;cases ok with
   |none=>
    rw[ac']at hR;have hR':dS (!S.bs.getD k LM) (A' c) (ci S)=R:=hR;have hfv:fv=.non:=ad8;subst hfv;exists _,rfl,rfl,_,rfl;rw[Ma rfl];refine aJ ?_;refine⟨_,rfl,B.x,B.dx,_,rfl,hpS.hx,rfl,_,rfl,_,rfl,_,rfl,B,t,cs,ci S,!S.bs.getD k LM,.ref tc,A' c,rfl,hpS,⟨tc,rfl,T7⟩,hc,ht,Qx,(by lia),(by lia),λH3 h3 m3=>?_⟩;rw[hR']at h3;exact q H3 h3<|hm2.trans m3
   |some F=>
    have J:=pj hc TI hk aan ac';rw[ac']at hR;have hR':fK t hw k (aR t hw<|bK F c<|(k:Int)+1) (bF t hw (cr (S.ow hw) F c<|(k:Int)+1) (bK F c<|(k:Int)+1)<|ci S)=R:=hR;obtain⟨tf,rfl,htf⟩:=tk.cl (show CL H1 F fv from ad8);exists _,rfl,rfl,_,rfl;rw[LW λz=>by cases z];refine aI ?_;have hp1:pend [A' F]=1:=rfl;rw[ac',hp1]at hpd;have Qi:=fe (t:=t) (hw:=hw) (d:=cr (S.ow hw) F c<|(k:Int)+1) (c:=bK F c<|(k:Int)+1) (S:=ci S);have lfs:=iw (t:=t) (hw:=hw) (d:=cr (S.ow hw) F c<|(k:Int)+1) (c:=bK F c<|(k:Int)+1) (S:=ci S);have lbs:=fc (t:=t) (hw:=hw) (d:=cr (S.ow hw) F c<|(k:Int)+1) (c:=bK F c<|(k:Int)+1) (S:=ci S);refine⟨_,rfl,B.x,B.dx,_,rfl,hpS.hx,rfl,_,rfl,_,rfl,_,rfl,_,rfl,B,t,cs,ci S,hw,.ref tf,.ref tc,F,c,(k:Int)+1,rfl,hpS,⟨tf,rfl,htf⟩,⟨tc,rfl,T7⟩,J.mF,TI.mem,J.okF,J.okC,J.both,ht,(by lia),λa H3 h3 m3 ha=>?_⟩;refine⟨k,by lia,_,_,.ref a,_,_,_,rfl,h3,hm2.trans m3,⟨a,rfl,ha⟩,J.next,(M0 Oe lbs).trans lb,?_,hR'⟩;have hlp:=M0 pend lfs;exact(by lia:cu (bF t hw (cr (S.ow hw) F c<|(k:Int)+1) (bK F c<|(k:Int)+1)<|ci S)+2*pend (bF t hw (cr (S.ow hw) F c<|(k:Int)+1) (bK F c<|(k:Int)+1)<|ci S).fs<=8800)
  ·rw[Mi S9]at hR;have hni:¬((k:Int)+1∈c\/ -((k:Int)+1)∈c):=λz=>S9 (by
    rw[NL];exact z.imp Mo.mpr Mo.mpr)
   have ahL:(c.contains ((k:Int)+1) || c.contains (-((k:Int)+1)))=false:=by
    cases z:(c.contains ((k:Int)+1) || c.contains (-((k:Int)+1)))with
    |false=>rfl
    |true=>exact absurd z S9
   rw[ahL];refine aI ?_;exact⟨k,by lia,c,ci S,.ref tc,_,_,_,rfl,hpS,hm2,⟨tc,rfl,T7⟩,pq hc TI hk hni,lb,by lia,hR⟩
abbrev qC:NN:=cZ 17
abbrev B2:NN:=cZ 64
structure H_ (mg:Str->LH LF):Prop where
 abs:mg "abs"=LL
 len:mg "len"=LL
 sorted:mg "sorted"=LL
 tuple:mg "tuple"=LL
 g_WISHER:fm mg "WISHER" (.str<|G' "wisher")
def s_:Sp:=λvs H Q _=>∃(l:Int) (f:LJ) (bs:gV Md),vs=[.int l,.ref f]/\H f=A' (.lst<|bs.map V.bl)/\bs.length<=900/\1<=absI l/\Q (jY bs (absI l) (decide (0 < l))) H
inductive B3 (vs:gV V)(H:Hp)(Q:VK):Prop
 |mk (l tc:LJ)(c kc:gV Int)(h0:vs=[.ref l,.ref tc])(h1:H l=A' (.lst (c.map V.int)))(h2:sG H tc kc)(q:Q (.bl (c.any λz=>kc.contains z)) H):B3 vs H Q
def w9:Sp:=λvs H Q _=>B3 vs H Q
inductive F_ (vs:gV V)(H:Hp)(Q:VK):Prop
 |mk (p q b:LJ)(t:Str)(xs:gV V)(cs:gV (gV Int))(bs:gV Md)(h0:vs=[.ref p,.ref b])(h1:H p=A' (.tup [.str t,.ref q]))(h2:H q=A' (.lst xs))(h3:CLs H cs xs)(h4:H b=A' (.lst<|bs.map V.bl))(hc:∀c∈cs,aD t.length c)(ht:t.length<=18)(hb:bs.length<=18)(hs:∀c∈cs,∃l∈c,held LI bs l=LI)
  (q':∀a H',Same H H'->sG H' a (fP t cs bs)->Q (.ref a) H'):F_ vs H Q
def B4:Sp:=λvs H Q _=>F_ vs H Q
theorem yP(h1:1<=absI l):Dg K (jY bs (absI l) (decide (0 < l))) H (held LI bs l):=by
 by_cases h:((bs.length:Nat):Int) < absI l
 ·rw[mx h];show held LI bs l=LM
  exact di (by lia)
 ·obtain⟨b,hb,e⟩:=oJ (bs:=bs) (v:=absI l) (p:=decide (0 < l)) h1 (by lia);rw[e];show held LI bs l=(b == decide (0 < l))
  unfold held;have hb2:bs[(absI l - 1).toNat]? =A' b:=by
   have Qi:(absI l - 1).toNat < bs.length:=by lia
   obtain⟨n,hn⟩:∃n:Nat,absI l - 1=(n:Int):=⟨(absI l - 1).toNat,by lia⟩;rw[hn]at hb ⊢;rw[M3];have hnl:n < bs.length:=by lia
   have h2:kL (bs.map V.bl) (n:Int)=A' (.bl bs[n]):=cb (by rw[Mp,LU hnl];rfl);rw[h2]at hb;rw[LU hnl];exact M0 A'<|V.bl.inj<|MC hb
  rw[hb2];show((b == decide (0 < l)) == LI)=_
  cases(b == decide (0 < l))<;>rfl
inductive B5 (H:Hp)(l tc:LJ)(c kc:gV Int)(i:Nat)(σ:St)(H2:Hp):Prop
 |mk (v2:LH V)(h0:σ=[A' (.ref l),A' (.ref tc),v2])(h1:H2=H)(h2:((c.take i).any λz=>kc.contains z)=LM):B5 H l tc c kc i σ H2
inductive Ga (p b ch:LJ)(t:Str)(cs:gV (gV Int))(bs:gV Md)(H:Hp)(i:Nat)(σ:St)(H2:Hp):Prop
 |mk (v3 v4 v5:LH V)(h0:σ=[A'<|.ref p,A'<|.ref b,A'<|.ref ch,v3,v4,v5])(h1:H2 ch=A' (.lst<|((cs.take i).foldl (cm t bs) []).map V.int))(h2:Same H H2):Ga p b ch t cs bs H i σ H2
theorem tj:aq ["literal","filling","variable"] ["literal","filling"] (aj qC):=⟨rfl,rfl,rfl,by decide+kernel,rfl,by decide+kernel,by decide+kernel⟩
theorem yQ(F:Fun K "stands_by" "stands_by" qC f fd)(T:H_ mg):FnOk P w K mg base b7 1 f fd ["literal","filling"] s_:=by
 have sc:=tj;refine F.ok tj (λvs H Q E h=>?_) λOT A outer s H vs Q E hr h=>?_
 ·obtain⟨l,f,bs,rfl,_⟩:=h;rfl
 obtain⟨l,g,bs,rfl,hg,h9,h1,q⟩:=h;have hu:=hr.units;refine⟨_,(af (au (i:=2) sc.nd rfl (MA rfl)<|aw cP rfl T.abs Np<|aa (pv 0) ae)
  (af (aS (ay (aX hu) (pv 2) ai<|aB _) (ah gg) aA)
  (af (aS (ay lT (pv 2) (aw bh rfl T.len M7<|aa (pv 1) ae)<|aB _) (ah<|ao cK) aA)
  (ah<|ao<|aY (aX hu) (av am (pv 1) (aU pI (pv 2) ai) λ_ _=>rfl) (aY lT (pv 0) ai<|aB _)<|aB _)))),?_⟩
 have h0:decide (V.int (absI l)=V.int 0)=false:=LW λz=>by
  have:=V.int.inj z;lia
 refine⟨_,rfl,l,rfl,_,rfl,.inl ⟨rfl,_,rfl,?_⟩⟩;show if decide (V.int (absI l)=V.int 0)=LI then _ else _
 rw[h0];refine aI ⟨_,rfl,_,rfl,.ref g,_,rfl,.inl ⟨_,SqL.of hg,rfl⟩,_,_,rfl,rfl,_,rfl,jS (λc=>?_) λc=>?_⟩
 ·have c':((bs.length:Nat):Int) < absI l:=by
   have z:=My c;rw[J']at z;exact z
  rw[mx c']at q;exact q
 ·have c':absI l<=((bs.length:Nat):Int):=by
   rw[MQ,J']at c;exact YG.mp c
  obtain⟨b,hb,e⟩:=oJ (p:=decide (0 < l)) h1 c';rw[e]at q;refine⟨_,rfl,_,rfl,_,_,rfl,rfl,.inl ⟨g,_,_,.bl b,rfl,rfl,SqL.of hg,hb,_,rfl,_,_,rfl,rfl,.inl ⟨rfl,?_⟩⟩⟩;rw[pJ];exact q
theorem B6(F:Fun K "hits" "hits" qr f fd):FnOk P w K mg base b7 1 f fd ["literals","clause"] w9:=by
 have sc:=lJ;refine F.ok lJ (λvs H Q E h=>?_) λOT A outer s H vs Q E hr h=>?_
 ·obtain⟨l,tc,c,kc,rfl,_⟩:=h;rfl
 obtain⟨l,tc,c,kc,rfl,hl,T7,q⟩:=h;refine⟨_,(af (cO M_ rfl (bw<|pv 0) (aE (i:=2) sc.nd rfl<|MA rfl)
   (ah<|aS (ay cX (pv 2) (pv 1)<|by with_unfolding_all rfl) (ah<|ao c_) aA))
  (ah<|ao c_)),?_⟩
 refine⟨_,rfl,l,rfl,⟨_,SqL.of hl⟩,fD (K:=K) (a:=l) (xs:=c.map V.int) (B5 H l tc c kc) ⟨LL,rfl,rfl,rfl⟩ ?_ ?_ ?_⟩
 ·rintro i σ H2 _ ⟨_,_,rfl,_⟩;exact SqL.of hl
 ·rintro i x σ H2 hx ⟨v2,rfl,rfl,ha⟩;obtain⟨z,rfl,hz⟩:=dh hx;have e:(if LM=LI then !gY (.int z) (kc.map V.int)else gY (.int z) (kc.map V.int))=kc.contains z:=by
   rw[Mi Mb,cT]
  exists _,rfl,_,rfl,tc,_,rfl,.inr<|SqT.of T7,rfl,bX kc,_,rfl;rw[e];cases g:kc.contains z with
  |true=>
   refine aJ ?_;have e2:(c.any λz=>kc.contains z)=true:=MW.mpr ⟨z,LZ hz,g⟩;rw[e2]at q;exact q
  |false=>
   refine aI ⟨_,rfl,rfl,?_⟩;rw[MM,hz,UW,ha];show(kc.contains z || LM)=LM
   rw[g];rfl
 ·rintro σ H2 ⟨v2,rfl,rfl,ha⟩;rw[L8<|by rw[J'];exact LQ _]at ha;rw[ha]at q;exact q
theorem B7:aq ["sentence","begun","chosen","clause","standing","wishers"] ["sentence","begun"] (aj B2):=⟨rfl,rfl,rfl,by decide+kernel,rfl,by decide+kernel,by decide+kernel⟩
theorem EK(F:Fun K "hitting_set" "hitting_set" B2 f fd)(T:H_ mg)(acK:Fn P w K mg base 1 "hits" g1 e1 ["literals","clause"] w9)(abh:Fn P w K mg base 1 "stands_by" g2 e2 ["literal","filling"] s_)(Yc:Fn P w K mg base 1 "hand_of" g3 e3 ["sentence","variable"] uY):FnOk P w K mg base b7 2 f fd ["sentence","begun"] B4:=by
 have sc:=B7;refine F.ok B7 (λvs H Q E h=>?_) λOT A outer s H vs Q E hr h=>?_
 ·obtain⟨p,q,b,t,xs,cs,bs,rfl,_⟩:=h;rfl
 obtain⟨p,qa,b,t,xs,cs,bs,rfl,hp,hq,V4,hb,hc,ht,ah2,hs,q⟩:=h;have hu:=hr.units;have C:=dY (t:=t) hs;refine⟨_,(af (au (i:=2) sc.nd rfl (MA rfl)<|bY ae)
  (af (cO M_ rfl (bw<|av am (pv 0) ai λ_ _=>rfl) (aE (i:=3) sc.nd rfl<|MA rfl)
   (ah (aS (cj<|bD<|aG acK hr (by lia) rfl<|aa (pv 2)<|aa (pv 3) ae) (af (mf (i:=4) sc.nd rfl rfl (NY:=["literal","begun"]) (idx:=[LL,A' 1]) rfl ⟨by with_unfolding_all rfl,(by with_unfolding_all exact⟨rfl,trivial⟩),λ_=>by rfl,by rfl,by rfl,by rfl,by decide⟩ (fC<|pv 3) (λ_ _ _ _=>(aE (i:=0) (show Nf (["literal","begun"]:gV Str) by decide+kernel) rfl<|MA rfl)) (λ_ _ _ _=>(fw<|yk (K:=K) rfl (aG abh hr (by lia) rfl<|aa (pv 0)<|aa (pv 1) ae) λ_=>rfl)) (λ_ _ _ _=>(pv 0))<|by with_unfolding_all rfl)
    (af (mf (i:=5) sc.nd rfl rfl (NY:=["literal","sentence"]) (idx:=[LL,A' 0]) rfl ⟨by with_unfolding_all rfl,(by with_unfolding_all exact⟨rfl,trivial⟩),λ_=>by rfl,by rfl,by rfl,by rfl,by decide⟩ (bw<|pv 4) (λ_ _ _ _=>(aE (i:=0) (show Nf (["literal","sentence"]:gV Str) by decide+kernel) rfl<|MA rfl)) (λ_ _ _ _=>(fw<|ay (aX hu) (aG Yc hr (by lia) rfl<|aa (pv 1)<|aa (aw cP rfl T.abs Np<|aa (pv 0) ae) ae) (aM rfl T.g_WISHER)<|aB _)) (λ_ _ _ _=>(pv 0))<|by with_unfolding_all rfl)
    (ah<|bA<|cv ML Na Ng bW (pv 2)<|aa (av am (aU pO (pv 5)<|pv 4) ai λ_ _=>rfl) ae))) aA)))
  (ah<|ao<|bg cn rfl T.tuple Nm<|aa (mz rfl T.sorted rfl T.abs<|pv 2) ae))),?_⟩
 refine⟨Mw _,λch nch=>?_⟩;have k1:=ag nch<|.lst [];have s1:upd H ch (.lst []) ch=A' (.lst []):=ad;refine⟨_,rfl,.inr<|.inl ⟨p,_,1,.ref qa,rfl,rfl,SqT.of<|k1 _ _ hp,rfl,qa,rfl,⟨_,SqL.of<|k1 _ _ hq⟩,fD (K:=K) (a:=qa) (xs:=xs) (Ga p b ch t cs bs H) ⟨LL,LL,LL,rfl,s1,k1⟩ ?_ ?_ ?_⟩⟩
 ·rintro i σ H2 _ ⟨_,_,_,_,_,k⟩;exact SqL.of<|k _ _ hq
 ·rintro i x σ H2 hx ⟨v3,v4,v5,rfl,i1,i2⟩;obtain⟨c,hci,tc,rfl,T7⟩:=(V4.mono i2).get hx;have Wx:=LZ hci;have hok:=hc c Wx;have ajm:=bQ hok;have V3:=(LS.mp hci).1;have et:(cs.take<|i+1).foldl (cm t bs) []=cm t bs ((cs.take i).foldl (cm t bs) []) c:=by
   rw[MM,hci,Qw];rfl
  have Ci:=kC (t:=t) hs i (by lia);have hal:((cs.take i).foldl (cm t bs) []).length<=60:=by
   have hu2:∀a∈(cs.take i).foldl (cm t bs) [],∀b'∈(cs.take i).foldl (cm t bs) [],absI a=absI b'->a=b':=λa ha b' hb' e=>by
    obtain⟨a1,c1,d1,f1⟩:=Ci.st a ha;obtain⟨a2,_⟩:=Ci.st b' hb';exact kB ((hc c1<|PK d1).2 a f1).1 a1 a2 e
   have hnd:(((cs.take i).foldl (cm t bs) []).map absI).Nodup:=by
    refine Ny.mpr<|Ci.nd.imp_of_mem λ{x y} hx hy S7 e=>S7<|hu2 x hx y hy e
   have aak:∀x∈((cs.take i).foldl (cm t bs) []).map absI,x∈(Nr 19).map (λn:Nat=>(n:Int)):=λx hx=>by
    obtain⟨l,hl,rfl⟩:=MF.mp hx;obtain⟨_,c1,d1,f1⟩:=Ci.st l hl;have hr:=(hc c1<|PK d1).2 l f1;exact MF.mpr ⟨(absI l).toNat,P8.mpr (by lia),by lia⟩
   have:=o7 hnd aak;rw[J',J',NS]at this;lia
  generalize (cs.take i).foldl (cm t bs) []=O0 at i1 et hal;refine DL ?_;exists _,rfl,_,rfl,ch,tc,O0,c,rfl,i1,T7,_,rfl;cases g:O0.any λz=>c.contains z with
  |true=>
   refine aI ⟨_,_,_,rfl,?_,i2⟩;rw[et];unfold cm;rw[g,Ml rfl];exact i1
  |false=>
   refine aJ ?_;refine⟨_,rfl,tc,rfl,⟨_,SqT.of T7⟩,λD1 n1=>?_⟩;refine gj [A'<|.ref b] (zZ λl=>held LI bs l) (λx=>x) rfl T7 n1 (by rw[J'];lia) ?_ ?_ ?_
   ·intro x hx H' R k r;obtain⟨z,hz,rfl⟩:=fz hx;exact⟨_,rfl,_,rfl,z,b,bs,rfl,k _ _<|i2 _ _ hb,(by lia),(hok.2 z hz).1,held LI bs z,yP (hok.2 z hz).1,r⟩
   ·intro x hx _ H' R k r;exact⟨_,rfl,r⟩
   rw[eQ _ (λl=>held LI bs l) _ λi=>rfl];have j1:=ag n1<|.lst<|(bU bs c).map V.int;have r1:upd H2 D1 (.lst<|(bU bs c).map V.int) D1=A' (.lst<|(bU bs c).map V.int):=ad;refine(show∀H3,Same H2 H3->H3 D1=A' (.lst<|(bU bs c).map V.int)->ze _ _ _ _ H3 from λH3 j1 r1=>?_) _ j1 r1;have Xb:(bU bs c).length<=18:=MD (N8 _ _) (by lia);refine⟨_,rfl,D1,rfl,⟨_,SqL.of r1⟩,λD2 n2=>?_⟩;refine i9 [A'<|.ref p] (zZ λl=>cF t (absI l - 1).toNat) (λx=>x) rfl r1 n2 (by rw[J'];lia) ?_ ?_ ?_
   ·intro x hx H' R k r;obtain⟨z,hz,rfl⟩:=fz hx;have hzr:=hok.2 z (MP.mp hz).1;have r':R (cF t (absI z - 1).toNat) H':=r;refine⟨_,rfl,_,rfl,z,rfl,p,t,_,(absI z - 1).toNat,(by rw[show(((absI z - 1).toNat:Nat):Int)+1=absI z by lia];rfl),k _ _<|j1 _ _<|i2 _ _ hp,(by lia),(by lia),.inl ⟨rfl,_,rfl,?_⟩⟩;cases gw:cF t (absI z - 1).toNat with
    |true=>
     rw[gw]at r';rw[show decide (V.str (aK LI)=V.str (G' "wisher"))=LI from Ma rfl];exact r'
    |false=>
     rw[gw]at r';rw[show decide (V.str (aK LM)=V.str (G' "wisher"))=LM from LW λz=>absurd (V.str.inj z)<|by decide+kernel];exact r'
   ·intro x hx _ H' R k r;exact⟨_,rfl,r⟩
   rw[eQ _ (λl=>cF t (absI l - 1).toNat) _ λi=>rfl];have j2:=ag n2<|.lst<|((bU bs c).filter λl=>cF t (absI l - 1).toNat).map V.int;have r2:upd H3 D2 (.lst<|((bU bs c).filter λl=>cF t (absI l - 1).toNat).map V.int) D2=A' (.lst<|((bU bs c).filter λl=>cF t (absI l - 1).toNat).map V.int):=ad;dsimp only;generalize upd H3 D2 (.lst<|((bU bs c).filter λl=>cF t (absI l - 1).toNat).map V.int)=H4 at j2 r2 ⊢;have i14:=(j1.trans j2) _ _ i1;have r14:=j2 _ _ r1;have hpk:ny t bs c=(((bU bs c).filter λl=>cF t (absI l - 1).toNat)++bU bs c).headD 0:=rfl;have S7:((bU bs c).filter λl=>cF t (absI l - 1).toNat)++bU bs c≠[]:=by
    obtain⟨l,hl,hh⟩:=hs c Wx;exact List.append_ne_nil_of_right_ne_nil _<|Wp<|MP.mpr ⟨hl,hh⟩
   have hwl:((bU bs c).filter λl=>cF t (absI l - 1).toNat).length<=18:=MD (N8 _ _) Xb;refine⟨_,rfl,.inl ⟨rfl,_,SqL.of i14⟩,_,rfl,_,rfl,D2,D1,_,_,rfl,rfl,r2,r14,Nx (aW<|by rw[J',J'];lia),λL n=>?_⟩;rw[<-Mq];generalize ((bU bs c).filter λl=>cF t (absI l - 1).toNat)++bU bs c=ps at hpk S7;have j3:=ag n<|.lst<|ps.map V.int;have r3:upd H4 L (.lst<|ps.map V.int) L=A' (.lst<|ps.map V.int):=ad;have hat:kL (ps.map V.int) (0:Int)=A' (.int<|ny t bs c):=by
    cases ps with
    |nil=>exact absurd rfl S7
    |cons y r=>rw[hpk];exact cb (show(V.int y::r.map V.int)[0]? =A' (V.int y)from rfl)
   refine .inl ⟨L,_,0,_,rfl,rfl,SqL.of r3,hat,ch,_,_,rfl,rfl,j3 _ _ i14,aW (by rw[J'];lia),?_⟩;refine⟨_,_,_,rfl,?_,(i2.trans<|j1.trans<|j2.trans j3).upd_new nch _⟩;rw[ad,et];unfold cm;rw[g,Mi Mb,Mq];rfl
 ·rintro σ H2 ⟨v3,v4,v5,rfl,i1,i2⟩;rw[L8<|by rw[V4.length];exact LQ _]at i1;have i1':H2 ch=A' (.lst<|(gO t cs bs).map V.int):=i1;have hu2:∀a∈gO t cs bs,∀b'∈gO t cs bs,absI a=absI b'->a=b':=λa ha b' hb' e=>by
   obtain⟨a1,c1,d1,f1⟩:=C.st a ha;obtain⟨a2,_⟩:=C.st b' hb';exact kB ((hc c1 d1).2 a f1).1 a1 a2 e
  have ahF:(gO t cs bs).length < 64:=by
   have N1:=bQ<|qy hc hs;have:(fP t cs bs).length=(gO t cs bs).length:=(QR _ _).length_eq;lia
  refine⟨_,rfl,ch,_,rfl,SqL.of i1',ahF,λL5 r hL5 hpm ho=>?_⟩;refine⟨L5,_,rfl,.inl ⟨SqL.of ad,λL6 hL6=>?_⟩⟩;have er:r=fP t cs bs:=by
   refine jx (pX ho (hpm.nodup_iff.mpr C.nd) λa ha b' hb' e=>hu2 a (hpm.mem_iff.mp ha) b' (hpm.mem_iff.mp hb') e) (wQ hc hs) λl=>?_;rw[hit_mem];exact hpm.mem_iff
  subst er;exact q L6 _ (i2.trans<|(ag hL5 _).trans<|ag hL6 _) ad
abbrev vo:NN:=eh (cZ 65) 6
abbrev Ia:NN:=eh (cZ 65) 7
def gQ:LH (gV Int)->Mc
 |none=>.none
 |some c=>fN c
theorem Ib(h:ln H o v):RD H (gQ o) v:=by
 cases o with
 |none=>
  have h':v=.non:=h;subst h';exact vV
 |some c=>exact CL.rd h
theorem lM:∀{os:gV (LH<|gV Int)} {vs:gV V},iy H os vs->c9 H (os.map gQ) vs
 |_,_,.nil=>aQ
 |_,_,.cons h t=>ap (Ib h)<|lM t
theorem jL:∀os:gV (LH<|gV Int),MY (os.map gQ)=LI
 |[]=>rfl
 |o::os=>by
  have h1:(gQ o).canLay0=true:=by
   cases o with
   |none=>rfl
   |some c=>
    have:=gI [c];rw[MH,Ry]at this;unfold MY at this;rw[MO]at this;exact this.1
  show MY (gQ o::os.map gQ)=LI
  unfold MY;rw[h1,jL os];rfl
theorem w_(o:LH (gV Int)):MU (gQ o) (.tuple [])=decide (o=A' []):=by
 cases o with
 |none=>
  rw[LW λz=>by cases z];show MU .none (.tuple [])=LM
  unfold MU;rfl
 |some c=>
  show MU (fN c) (.tuple [])=_
  rw[iZ];by_cases h:c=[]
  ·rw[h];simp
  ·rw[LW h,LW λz=>h<|MC z]
theorem B8(o:LH (gV Int)):MU (gQ o) .none=decide (o=LL):=by
 cases o with
 |none=>
  rw[Ma rfl];show MU .none .none=LI
  unfold MU;rfl
 |some c=>
  rw[LW λz=>by cases z];show MU (.tuple _) .none=LM
  unfold MU;rfl
theorem vp:(((ca t cs bs).map gQ).any λd=>MU d<|.tuple [])=cs.any (cW t bs):=by
 unfold ca;rw[M9,Qg]
 congr 1
 funext c
 exact w_ _
theorem vq:decide (((ca t cs bs).map gQ).countP (λd=>MU d .none)=cs.length)=cs.all λc=>decide (cH bs (aR t LM c)=LL):=by
 unfold ca;rw[M9,X0];have e:((λd=>MU d .none)∘gQ∘λc=>cH bs<|aR t LM c)=λc=>decide (cH bs (aR t LM c)=LL):=by
  funext c
  exact B8 _
 rw[e,NB,MQ,List.countP_eq_length,Mu]
inductive B9 (CS:LJ)(vs:gV V)(H:Hp)(Q:VK):Prop
 |mk (A:SA)(t:Str)(cs:gV (gV Int))(S:SS)(h0:vs=[.ref A.x])(h:SrAt CS A t cs S H)(L:jd t cs S)(hc:∀c∈cs,aD t.length c)(ht:t.length<=9)(Qx:cs.length<=2000)(q:∀H',SrAt CS A t cs (f_ t cs S) H'->Mv A H H'->Q .non H'):B9 CS vs H Q
def xa(CS:LJ):Sp:=λvs H Q _=>B9 CS vs H Q
theorem yR{S:SS}(L:jd t cs S)(ht:t.length<=9):cu S+2*pend S.fs<=4096:=by
 have h1:=L.few;have h2:=kx t.length S.bs L.I.blen;have h3:2 ^ (t.length+1)<=2 ^ 10:=O5 (by decide) (by lia);have h4:(2:Nat) ^ 10=1024:=by decide
 lia
theorem B_{S:SS}(L:jd t cs S)(hl:aP t cs hw (S.ow hw) d=A' c)(hg:be d)(hok:aD t.length c)(XJ:yI hw S.bs (aR t hw c)):nn t cs hw (aR t hw c) (bF t hw d c S):=
 ⟨kr L.I hl hg,kt,by rw[fc];exact XJ,jc hok,learn_win.trans L.win,ku L.emp⟩
theorem xb:aq ["self","rests","place","literals"] ["self"] (aj vo):=⟨rfl,rfl,rfl,by decide+kernel,rfl,by decide+kernel,by decide+kernel⟩
theorem Ca(F:Fun K "look" "Searcher.look" vo f fd)(T:nz K mg CS)(ZV:Fn P w K mg base 2 "hitting_set" g1 e1 ["sentence","begun"] B4)(ZT:mH P w K mg base b7 4 CS "learn" g2 e2 ["self","hand","line","literals"] (jK CS))(X':mH P w K mg base b7 6 CS "turn_back" g3 e3 ["self","hand","literals"] (w4 CS))(Yd:mH P w K mg base b7 2 CS "fill_in" g4 e4 ["self","value","first"] (qB CS)):FnOk P w K mg base b7 7 f fd ["self"] (xa CS):=by
 have sc:=xb;refine F.ok xb (λvs H Q E h=>?_) λOT A outer s H vs Q E hr h=>?_
 ·obtain⟨A,t,cs,S,rfl,_⟩:=h;rfl
 obtain⟨B,t,cs,S,rfl,h,L,hc,ht,Qx,q⟩:=h;have hu:=hr.units;have acx:=yR L ht;obtain⟨rvs,hr1,hrr⟩:=h.r;have hrl:=hrr.len;have afN:=L.I.blen;have adA:=L.I.flen;have U8:rvs[rvs.length - 1]? =A' (rvs.getD (rvs.length - 1) .non):=aL (by lia);obtain⟨a,ws,ev,hws,hna,how⟩:=hrr.at_ _ _ U8;rw[ev]at U8;rw[show rvs.length - 1=S.bs.length by lia,L8<|LQ _]at how;have hwl:=fL how;have hol:(ca t cs S.bs).length=cs.length:=J' _;obtain⟨xs,hq1,hq2⟩:=h.hq;refine⟨_,(af (au (i:=1) sc.nd rfl (MA rfl)<|av am (bu (pv 0) rfl) (fk c7 ai) λ_ _=>rfl)
  (ah (aS (ay ((Hi hu)) (bx ae) (pv 1)<|by with_unfolding_all rfl) (af (au (i:=2) sc.nd rfl (MA rfl)<|cv ML RH Ue (oS hu) (pv 1)<|aa (bx ae) ae)
   (ah<|bA<|gT X' (pv 0) hr (by lia)<|aa (aM rfl T.g_SPOILER)<|aa (gT ZT (pv 0) hr (by lia)<|aa (aM rfl T.g_SPOILER)<|aa (bx<|aa aH<|aa (pv 2) ae)<|aa (av am (av am (bu (pv 0) rfl) ai λ_ _=>rfl) (pv 2) λ_ _=>rfl) ae) ae)) (ah (aS (ay (aX hu) (cv ML Vl PySem.F.type_list_count (yl hu) (pv 1)<|aa cK ae) (aw bh rfl T.len M7<|aa (pv 1) ae)<|aB _) (af (au (i:=3) sc.nd rfl (MA rfl)<|aG ZV hr (by lia) rfl<|aa (bu (pv 0) rfl)<|aa (bu (pv 0) rfl) ae)
    (ah<|bA<|gT X' (pv 0) hr (by lia)<|aa (aM rfl T.g_WISHER)<|aa (gT ZT (pv 0) hr (by lia)<|aa (aM rfl T.g_WISHER)<|aa (bx<|aa aH<|aa (pv 3) ae)<|aa (pv 3) ae) ae)) (ah<|bA<|gT Yd (pv 0) hr (by lia)<|aa c_<|aa cK ae)))))),?_⟩
 refine⟨_,rfl,B.x,CS,B.dx,_,_,rfl,h.hx,T.cl,T.nR,rfl,_,rfl,.inl ⟨B.r,_,-1,.ref a,rfl,rfl,SqL.of hr1,s0 U8,?_⟩⟩;refine⟨Mw _,λet net=>?_⟩;have k1:=ag net<|.tup [];have s1:upd H et (.tup []) et=A' (.tup []):=ad;have h1:=h.same k1;generalize upd H et (.tup [])=H1 at k1 s1 h1 ⊢;refine⟨_,rfl,.tuple [],(ca t cs S.bs).map gQ,bB s1 aQ,fT (k1 _ _ hws)<|lM<|(TupS.of k1).opts how,by decide+kernel,jL _,by decide+kernel,_,rfl,?_⟩;rw[vp];unfold f_ at q;by_cases g1:cs.any (cW t S.bs)=LI
 ·rw[Ml g1]at q;rw[g1];have hi:cs.findIdx (cW t S.bs) < cs.length:=RA<|MW.mp g1;have hx:=aL (d:=([]:gV Int)) hi;have abC:∀j,j < cs.length->MU (((ca t cs S.bs).map gQ).getD j .none) (.tuple [])=cW t S.bs (cs.getD j []):=λj hj=>by
   have:((ca t cs S.bs).map gQ).getD j .none=gQ (cH S.bs<|aR t LM<|cs.getD j []):=by
    rw[LK];unfold ca;rw[M9,Mp,aL (d:=([]:gV Int)) hj];rfl
   rw[this];exact w_ _
  have hl0:cW t S.bs (cs.getD (cs.findIdx<|cW t S.bs) [])=true:=by
   have:=Vx (w:=hi) (p:=cW t S.bs) (xs:=cs);rw[LK,LU hi];exact this
  refine aJ ⟨_,rfl,.inl ⟨rfl,_,SqL.of<|k1 _ _ hws⟩,Mw _,λe2 n2=>?_⟩;have k2:=ag n2<|.tup [];have s2:upd H1 e2 (.tup []) e2=A' (.tup []):=ad;have h2:=h1.same k2;have k12:=k1.trans k2;generalize upd H1 e2 (.tup [])=H2 at k2 s2 h2 k12 ⊢;refine⟨.tuple [],(ca t cs S.bs).map gQ,_,a,ws,cs.findIdx<|cW t S.bs,rfl,rfl,k12 _ _ hws,lM<|(TupS.of k12).opts how,bB s2 aQ,by decide+kernel,jL _,by decide+kernel,by rw[J',hol];exact hi,(abC _ hi).trans hl0,λm hm=>?_,?_⟩
  ·rw[abC m<|by lia];have:=UN hm;rw[LK,LU<|by lia];exact this
  generalize cs.findIdx (cW t S.bs)=i at q hi hx hl0;have hok:=hc _<|LZ hx;obtain⟨tc,hxc,T7⟩:∃tc,xs[i]? =A' (.ref tc)/\sG H2 tc (cs.getD i []):=by
   have hc2:=(hq2.mono k12);have hxl:i < xs.length:=by have:=hq2.length;lia
   obtain⟨c',e1,e2,e3,e4⟩:=hc2.get<|LU hxl;rw[hx]at e1;cases e1;exact⟨e2,by rw[LU hxl,e3],e4⟩
  refine⟨_,rfl,B.x,B.dx,_,rfl,h2.hx,rfl,_,rfl,B.x,B.dx,_,rfl,h2.hx,rfl,_,rfl,(by show 2<=sizeLine;decide),λga nga=>?_⟩;have k3:=ag nga<|.tup [.str aN,.int (i:Int)];have s3:upd H2 ga (.tup [.str aN,.int (i:Int)]) ga=A' (.tup [.str aN,.int (i:Int)]):=ad;have h3:=h2.same k3;have k13:=k12.trans k3;have VU:aP t cs LM (S.ow LM) (gP i)=A' (cs.getD i []):=by
   unfold gP;rw[fJ,Mi Mb];unfold gJ;rw[gz (by lia),M3];rfl
  have hgd:be (gP i):=.inl ⟨_,rfl⟩;have Qi:=fe (t:=t) (hw:=LM) (d:=gP i) (c:=cs.getD i []) (S:=S);have lfs:=iw (t:=t) (hw:=LM) (d:=gP i) (c:=cs.getD i []) (S:=S);have lbs:=fc (t:=t) (hw:=LM) (d:=gP i) (c:=cs.getD i []) (S:=S);refine⟨_,rfl,B.x,CS,B.dx,_,_,rfl,h3.hx,T.cl,T.nS,rfl,.inr<|.inl ⟨B.p,_,1,.ref B.q,rfl,rfl,SqT.of h3.hp,rfl,_,rfl,.inl ⟨B.q,xs,(i:Int),.ref tc,rfl,rfl,SqL.of<|k13 _ _ hq1,cb hxc,?_⟩⟩⟩;refine⟨B,t,cs,S,LM,_,.ref tc,gP i,cs.getD i [],rfl,h3,bB s3<|ap (dG _)<|ap (dt _) aQ,hgd,⟨tc,rfl,k3 _ _ T7⟩,hok,(by lia),(by lia),λla H4 h4 m4 Zy=>?_⟩;refine⟨B,t,cs,_,LM,.ref la,_,rfl,h4,⟨la,rfl,Zy⟩,B_ L VU hgd hok<|sU hok hl0,hc,(by lia),Qx,(by rw[lfs];lia),λH5 h5 m5=>?_⟩;rw[lbs]at h5;exact q H5 h5<|(Mv.of k13).trans<|m4.trans m5
 ·have g1':cs.any (cW t S.bs)=false:=by
   cases z:cs.any (cW t S.bs)with
   |false=>rfl
   |true=>exact absurd z g1
  rw[Mi g1]at q;rw[g1'];refine aI ?_;refine⟨_,rfl,.inl ⟨rfl,_,SqL.of<|k1 _ _ hws⟩,.none,(ca t cs S.bs).map gQ,_,a,ws,rfl,rfl,k1 _ _ hws,lM<|(TupS.of k1).opts how,vV,by decide+kernel,jL _,by decide+kernel,?_⟩;refine⟨_,rfl,.ref a,_,rfl,.inl ⟨_,SqL.of<|k1 _ _ hws,rfl⟩,.inl ⟨rfl,_,rfl,?_⟩⟩;have aet:decide (V.int ((((ca t cs S.bs).map gQ).countP λd=>MU d .none:Nat):Int)=V.int (ws.length:Nat))=cs.all λc=>decide (cH S.bs (aR t LM c)=LL):=by
   rw[<-vq,<-hwl,hol];by_cases z:((ca t cs S.bs).map gQ).countP (λd=>MU d .none)=cs.length
   ·rw[z,Ma rfl,Ma rfl]
   ·rw[LW z,LW λy=>z (by have:=V.int.inj y;lia)]
  rw[aet];by_cases g2:(cs.all λc=>decide (cH S.bs (aR t LM c)=LL))=LI
  ·rw[Ml g2]at q;rw[g2];have hs:∀c∈cs,∃l∈c,held LI S.bs l=true:=λc Wx=>k_<|My<|Mu.mp g2 c Wx;have hok:=qy hc hs;refine aJ ?_;refine⟨_,rfl,B.x,CS,B.dx,_,_,rfl,h1.hx,T.cl,T.nS,rfl,_,rfl,B.x,CS,B.dx,_,_,rfl,h1.hx,T.cl,T.nB,rfl,B.p,B.q,B.b,t,xs,cs,S.bs,rfl,h1.hp,k1 _ _ hq1,hq2.mono k1,h1.b,hc,(by lia),(by lia),hs,λhl H2 k2 hhl=>?_⟩;have h2:=h1.same k2;have k12:=k1.trans k2;refine⟨_,rfl,B.x,B.dx,_,rfl,h2.hx,rfl,_,rfl,B.x,B.dx,_,rfl,h2.hx,rfl,_,rfl,(by show 2<=sizeLine;decide),λga nga=>?_⟩;have k3:=ag nga<|.tup [.str bn,.ref hl];have s3:upd H2 ga (.tup [.str bn,.ref hl]) ga=A' (.tup [.str bn,.ref hl]):=ad;have h3:=h2.same k3;have k13:=k12.trans k3;have afA:sG _ hl (fP t cs S.bs):=k3 _ _ hhl;have VU:=sV hc hs<|S.ow LI;have hgd:be (kZ<|fP t cs S.bs):=.inr<|.inl ⟨_,by have:=bQ hok;lia,rfl⟩;have Qi:=fe (t:=t) (hw:=LI) (d:=kZ<|fP t cs S.bs) (c:=fP t cs S.bs) (S:=S);have lfs:=iw (t:=t) (hw:=LI) (d:=kZ<|fP t cs S.bs) (c:=fP t cs S.bs) (S:=S);have lbs:=fc (t:=t) (hw:=LI) (d:=kZ<|fP t cs S.bs) (c:=fP t cs S.bs) (S:=S);refine⟨_,rfl,?_⟩;refine⟨B,t,cs,S,LI,_,.ref hl,kZ<|fP t cs S.bs,fP t cs S.bs,rfl,h3,bB s3<|ap (dG _)<|ap (CL.rd ⟨hl,rfl,afA⟩) aQ,hgd,⟨hl,rfl,afA⟩,hok,(by lia),(by lia),λla H4 h4 m4 Zy=>?_⟩;refine⟨B,t,cs,_,LI,.ref la,_,rfl,h4,⟨la,rfl,Zy⟩,B_ L VU hgd hok λl hl'=>((dY (t:=t) hs).st l<|hit_mem.mp (MP.mp hl').1).1,hc,(by lia),Qx,(by rw[lfs];lia),λH5 h5 m5=>?_⟩;rw[lbs]at h5;exact q H5 h5<|(Mv.of k13).trans<|m4.trans m5
  ·have g2':(cs.all λc=>decide (cH S.bs (aR t LM c)=LL))=false:=by
    cases z:cs.all λc=>decide (cH S.bs (aR t LM c)=LL)with
    |false=>rfl
    |true=>exact absurd z g2
   rw[Mi g2]at q;rw[g2'];refine aI ?_;exact⟨_,rfl,B.x,B.dx,_,rfl,h1.hx,rfl,B,t,cs,S,LM,.non,LL,rfl,h1,rfl,hc,(by lia),Qx,(by lia),(by lia),λH2 h2 m2=>q H2 h2<|(Mv.of k1).trans m2⟩
inductive J_ (CS:LJ)(vs:gV V)(H:Hp)(Q:VK):Prop
 |mk (A:SA)(t:Str)(cs:gV (gV Int))(S:SS)(n:Nat)(h0:vs=[.ref A.x,.int (n:Int)])(h:SrAt CS A t cs S H)(L:jd t cs S\/BM t cs S)(hc:∀c∈cs,aD t.length c)(ht:t.length<=9)(Qx:cs.length<=2000)(q:∀H',SrAt CS A t cs (lL t cs n S) H'->Mv A H H'->Q (.bl (lL t cs n S).win.isSome) H'):J_ CS vs H Q
def Cb(CS:LJ):Sp:=λvs H Q _=>J_ CS vs H Q
inductive Le (CS:LJ)(A:SA)(t:Str)(cs:gV (gV Int))(n:Nat)(R:SS)(H:Hp)(m:Nat)(σ:St)(H1:Hp):Prop
 |mk (S:SS)(j:Nat)(h0:σ=[A'<|.ref A.x,A'<|.int (n:Int),A'<|.int (j:Int)])(hj:j+m=n)(h:SrAt CS A t cs S H1)(hm:Mv A H H1)(L:jd t cs S\/BM t cs S)(hR:lL t cs m S=R):Le CS A t cs n R H m σ H1
theorem EL{S:SS}(h:S.win.isSome=LI):∀k,lL t cs k S=S
 |0=>rfl
 |k+1=>by unfold lL;rw[Ml h]
theorem Gb:aq ["self","many","looks"] ["self","many"] (aj Ia):=⟨rfl,rfl,rfl,by decide+kernel,rfl,by decide+kernel,by decide+kernel⟩
theorem Ic(F:Fun K "go" "Searcher.go" Ia f fd)(T:nz K mg CS)(af4:mH P w K mg base b7 7 CS "look" g1 e1 ["self"] (xa CS)):FnOk P w K mg base b7 8 f fd ["self","many"] (Cb CS):=by
 have sc:=Gb;refine F.ok Gb (λvs H Q E h=>?_) λOT A outer s H vs Q E hr h=>?_
 ·obtain⟨A,t,cs,S,n,rfl,_⟩:=h;rfl
 obtain⟨B,t,cs,S0,n,rfl,h0,L0,hc,ht,Qx,q⟩:=h;obtain⟨R,hR0⟩:∃R,R=lL t cs n S0:=⟨_,rfl⟩;rw[<-hR0]at q;refine⟨_,(af (au (i:=2) sc.nd rfl (MA rfl) ai)
  (af (lR M_ (PW.pt<|lQ (ay vK (pv 2) (pv 1)<|aB _)<|jg<|ay lU (bu (pv 0) rfl) cK<|aB _)
   (af (bA<|uN af4 (pv 0) hr<|by lia)
   (ah<|Gv (i:=2) sc.nd rfl (MA rfl) ai Gw)))
  (ah<|ao<|aY Df (bu (pv 0) rfl) cK<|aB _))),?_⟩
 exists Le CS B t cs n R H,⟨n,S0,0,rfl,by lia,h0,.of<|Same.refl _,L0,hR0.symm⟩;clear hR0;rintro m σ H1 ⟨S,j,rfl,hj,h,hm,L,hR⟩;have S6:S=R->Da (Im (λx y H Q=>y=V.non/\Q (V.bl !decide (x=V.non)) H) (GC K (gZ 0) "winner")<|tC V.non) {nx:=λ_ H'=>Q .non H',rt:=Q} [A'<|.ref B.x,A'<|.int (n:Int),A'<|.int (j:Int)] H1:=λe=>by
  exists _,rfl,B.x,CS,B.dx,_,_,rfl,h.hx,T.cl,T.nW,rfl,rfl;rw[e]at h ⊢;have:=q H1 h hm;cases ew:R.win with
  |none=>rw[ew]at this;exact this
  |some hw=>rw[ew]at this;exact this
 exists _,rfl,_,rfl,_,_,rfl,rfl,_,rfl;cases m with
 |zero=>
  rw[LW<|by lia];exact aI<|aI<|S6 hR
 |succ m=>
  rw[Ma<|by lia];refine aJ ⟨_,rfl,B.x,CS,B.dx,_,_,rfl,h.hx,T.cl,T.nW,rfl,rfl,_,rfl,?_⟩;cases ew:S.win with
  |some hw=>
   rw[LW λz=>by cases z];exact aI (S6<|by rw[<-hR,EL<|by rw[ew];rfl])
  |none=>
   rw[show decide (qA LL=V.non)=LI from Ma rfl];have L':jd t cs S:=by
    obtain L|W:=L
    ·exact L
    ·obtain⟨hw,e,_⟩:=W.hw;rw[ew]at e;cases e
   refine aJ ⟨λσ' H'=>∃m',m' < m+1/\Le CS B t cs n R H m' σ' H',λσ' H' z=>z,?_⟩;refine⟨_,rfl,B.x,B.dx,_,rfl,h.hx,rfl,B,t,cs,S,rfl,h,L',hc,ht,Qx,λH2 h2 m2=>?_⟩;have hR':lL t cs m (f_ t cs S)=R:=by
    rw[<-hR];show _=if S.win.isSome=LI then S else lL t cs m (f_ t cs S)
    rw[ew];exact(Mi (show¬(LL:LH Md).isSome=LI from Mb)).symm
   have Ln:jd t cs (f_ t cs S)\/BM t cs (f_ t cs S):=(sW hc (by lia) L').imp (λz=>z.1) id;refine⟨_,rfl,_,_,rfl,rfl,m,by lia,f_ t cs S,j+1,?_,by lia,h2,hm.trans m2,Ln,hR'⟩;show _=[A'<|V.ref B.x,A'<|V.int (n:Int),A'<|V.int<|(j:Int)+1]
   rfl
abbrev vt:NN:=eh (cZ 65) 0
def BtX(x:LJ)(H H':Hp):Prop:=∀b o,b≠x->H b=A' o->H' b=A' o
theorem BtX.of(k:Same H H'):BtX x H H':=λb o _ e=>k b o e
theorem BtX.put(k:BtX x H H'):BtX x H (upd H' x o):=λb u hb e=>by rw[al hb];exact k b u hb e
theorem BtX.trans(k:BtX x H H')(j:BtX x H' H''):BtX x H H'':=λb u hb e=>j b u hb<|k b u hb e
theorem BtX.free(k:BtX x H H')(h:H' a=LL)(n:a≠x):H a=none:=by
 cases e:H a with
 |none=>rfl
 |some o=>rw[k a o n e]at h;cases h
inductive Cc (CS:LJ)(vs:gV V)(H:Hp)(Q:VK):Prop
 |mk (x dx p q:LJ)(t:Str)(xs:gV V)(cs:gV (gV Int))(h0:vs=[.ref x,.ref p])(hx:H x=A' (.ins CS dx []))(hp:H p=A' (.tup [.str t,.ref q]))(hq:H q=A' (.lst xs))(V4:CLs H cs xs)(hc:∀c∈cs,aD t.length c)(ht:t.length<=9)(Qx:cs.length<=2000)(F:LJ->Prop)(hF:∀a,F a->a≠x/\∃o,H a=A' o)
  (q':∀A H',A.x=x->A.far=F->SrAt CS A t cs dZ H'->BtX x H H'->(∀a,A.own a->a=x\/H a=LL)->Q .non H'):Cc CS vs H Q
def qD(CS:LJ):Sp:=λvs H Q _=>Cc CS vs H Q
theorem Cd:gc [] [((Qt (G' "spoiler"):bo),V.ref a0),(Qt<|G' "wisher",V.ref a1)]=je λb=>if b=LI then a1 else a0:=by
 unfold gc;rw[Q8,l4 _ rfl,Q8,l4 _ rfl];rfl
theorem Ce(h0:∀H' R,(∀p,H' p=LL->R (.ref p) (upd H' p o))->T0 σ H' R)(h1:∀H' R,(∀p,H' p=LL->R (.ref p) (upd H' p o))->T1 σ H' R)(q:∀d l H',Same H H'->H d=LL->(∀b,H (l b)=LL)->l LM≠l LI->H' d=A' (.dK<|je l)->(∀b,H' (l b)=A' o)->Q (.ref d) H'):
  rf [(tC<|.str<|G' "spoiler",T0),(tC<|.str<|G' "wisher",T1)] σ H Q:=by
 refine λdl ndl=>h0 _ _ λa0 n0=>h1 _ _ λa1 n1=>?_;have d1:a0≠dl:=λz=>by rw[z,ad]at n0;cases n0
 have d2:a1≠a0:=λz=>by rw[z,ad]at n1;cases n1
 have d3:a1≠dl:=λz=>by rw[z,al λz=>d1 z.symm,ad]at n1;cases n1
 have f0:H a0=none:=by rw[al d1]at n0;exact n0
 have f1:H a1=none:=by rw[al d2,al d3]at n1;exact n1
 exists by rw[al λz=>d3 z.symm,al λz=>d1 z.symm];exact ad,[(Qt<|G' "spoiler",.ref a0),(Qt<|G' "wisher",.ref a1)],rfl,(by show 2<=15;decide);rw[Cd];refine q dl (λb=>if b=LI then a1 else a0) _ (λb u e=>?_) ndl (λb=>?_) (λz=>d2 z.symm) ad λb=>?_
 ·rw[al<|ak e ndl,al<|ak e f1,al<|ak e f0,al<|ak e ndl];exact e
 ·cases b
  ·exact f0
  ·exact f1
 ·cases b
  ·show upd _ dl _ a0=_
   rw[al d1,al λz=>d2 z.symm];exact ad
  ·show upd _ dl _ a1=_
   rw[al d3];exact ad
theorem tm{K:K'}{f:Str}{B:TS}{D:jO}(h0:∀H' R,(∀p,H' p=LL->R (.ref p) (upd H' p o))->T0 σ H' R)(h1:∀H' R,(∀p,H' p=LL->R (.ref p) (upd H' p o))->T1 σ H' R)(q:∀d l H',Same H H'->H d=LL->(∀b,H (l b)=LL)->l LM≠l LI->H' d=A' (.dK<|je l)->(∀b,H' (l b)=A' o)->
  gZ 0 σ H' λx H2=>∃a C dx fs,x=.ref a/\H2 a=A' (.ins C dx fs)/\Cls K C/\NoAttr K C f/\fs.length < 1000/\B D σ (upd H2 a<|.ins C dx<|fM f (.ref d) fs)):
  ze (GD K (gZ 0) (rf [(tC<|.str<|G' "spoiler",T0),(tC<|.str<|G' "wisher",T1)]) f) B D σ H:=by
 unfold ze GD;exact Ce h0 h1 q
theorem nE:∀{as:gV (gV Int)} {vs:gV V},CLs H as vs->iy H (as.map A') vs
 |_,_,.nil=>.nil
 |_,_,.cons h t=>.cons h<|nE t
inductive Gc (x D:LJ)(t:Str)(cs:gV (gV Int))(H1:Hp)(i:Nat)(σ:St)(ys:gV V)(H2:Hp):Prop
 |mk (v0:LH V)(h0:σ=[v0,A' (.ref x)])(h1:H2 D=A' (.lst ys))(h2:Same H1 H2)(h3:CLs H2 ((cs.take i).map λc=>aR t LM c) ys):Gc x D t cs H1 i σ ys H2
theorem vv(h:aD n c):cH [] c=A' c:=by
 unfold cH;rw[Mi (λz=>by obtain⟨l,_,e⟩:=MW.mp z;rw[di<|Mw _]at e;cases e)]
 congr 1
 refine QU.mpr λl hl=>?_;have:=(h.2 l hl).1;rw[MQ];show(0:Int) < absI l
 lia
theorem jf{R:Hp->Prop}(hx:H x=A' (.ins CS dx fs))(cl:Cls K CS)(na:NoAttr K CS f)(hl:VG fs.length 999=LI)(q:∀G,BtX x H G->G x=A' (.ins CS dx<|fM f v fs)->R G):∃a C d' fs,V.ref x=.ref a/\H a=A' (.ins C d' fs)/\Cls K C/\NoAttr K C f/\fs.length < 1000/\R (upd H a<|.ins C d'<|fM f v fs):=
 ⟨x,CS,dx,fs,rfl,hx,cl,na,Nat.lt_succ_of_le<|U7 hl,q _ (BtX.of<|Same.refl _).put ad⟩
theorem nG(n:H a=LL)(o:HO):∃G,upd H a o=G/\Same H G/\G a=A' o:=⟨_,rfl,ag n o,ad⟩
theorem BtX.tup(k:BtX x H H')(hx:H x=A' (.ins CS dx fs)):TupS H H':=λ_ _ e=>k _ _ (λz=>by rw[z,hx]at e;cases e) e
theorem nw{H:Hp}(e:H b=A' o)(n:H a=LL):a≠b:=NC<|ak e n
theorem xc:aq ["self","sentence"] ["self","sentence"] (aj vt):=⟨rfl,rfl,rfl,by decide+kernel,rfl,by decide+kernel,by decide+kernel⟩
theorem Cf(F:Fun K "__init__" "Searcher.__init__" vt f fd)(T:nz K mg CS)(Vb:Fn P w K mg base 3 "dropped" g1 e1 ["sentence","hand","literals"] iL):FnOk P w K mg base b7 4 f fd ["self","sentence"] (qD CS):=by
 have sc:=xc;refine F.ok xc (λvs H Q E h=>?_) λOT A outer s H vs Q E hr h=>?_
 ·obtain⟨x,dx,p,q,t,xs,cs,rfl,_⟩:=h;rfl
 obtain⟨x,dx,p0,q0,t,xs,cs,rfl,hx,hp,hq,V4,hc,ht,Qx,Fr,hFr,q⟩:=h;refine⟨_,(af (hV (pv 0) (bx<|aa (av am (pv 1) ai λ_ _=>rfl)<|aa (bg dF rfl T.list OI<|aa (av am (pv 1) ai λ_ _=>rfl) ae) ae) rfl)
  (af (hV (pv 0) (r9 (aM rfl T.g_SPOILER) (bY ae) (aM rfl T.g_WISHER)<|bY ae) rfl)
  (af (hV (pv 0) (r9 (aM rfl T.g_SPOILER) l7 (aM rfl T.g_WISHER) l7) rfl)
  (af (hV (pv 0) (bY ae) rfl)
  (af (hV (pv 0) (bY ae) rfl)
  (af (hV (pv 0) (bY<|aa (bp (NY:=["clause","self"]) (idx:=[LL,A' 0]) rfl ⟨by with_unfolding_all rfl,(by with_unfolding_all exact⟨rfl,trivial⟩),λ_=>by rfl,by rfl,by rfl,by rfl,by decide⟩ (bw<|av am (pv 1) ai λ_ _=>rfl) (λ_ _ _ _=>(aE (i:=0) (show Nf (["clause","self"]:gV Str) by decide+kernel) rfl<|MA rfl)) (λ_ _ _ _=>bJ) λ_ _ _ _=>(aG Vb hr (by lia) rfl<|aa (D9 (K:=K) rfl (pv 1) rfl)<|aa (aM rfl T.g_SPOILER)<|aa (pv 0) ae)) ae) rfl)
  (ah<|hV (pv 0) cK rfl))))))),?_⟩
 refine⟨_,rfl,.inr<|.inl ⟨p0,_,0,.str t,rfl,rfl,SqT.of hp,rfl,_,rfl,.inr<|.inl ⟨p0,_,1,.ref q0,rfl,rfl,SqT.of hp,rfl,q0,xs,rfl,.inl<|SqL.of hq,λqa nq=>⟨(by show 2<=sizeLine;decide),λpa np=>?_⟩⟩⟩⟩;obtain⟨H0,e,j1,sq⟩:=nG nq<|.lst xs;rw[e]at np ⊢;obtain⟨H1,e,j2,sp⟩:=nG np<|.tup [.str t,.ref qa];rw[e];have nqx:=nw hx nq;have npx:=nw (j1 _ _ hx) np;refine⟨_,rfl,jf (j2 _ _<|j1 _ _ hx) T.cl T.nS rfl λG b1 x1=>?_⟩;have q1:=b1 _ _ nqx<|j2 _ _ sq;have p1:=b1 _ _ npx sp;replace b1:=(BtX.of<|j1.trans j2).trans b1;refine tm (o:=.lst []) (λH' R r=>⟨Mw _,r⟩) (λH' R r=>⟨Mw _,r⟩) λdl ll G1 k1 ndl nll dll hdl hll=>?_;refine⟨_,rfl,jf (k1 _ _ x1) T.cl T.nL rfl λG2 c2 x2=>?_⟩;have nlx:=λb=>nw x1<|nll b;have ndx:=nw x1 ndl;have dl2:=c2 _ _ ndx hdl;have ll2:=λb=>c2 _ _ (nlx b)<|hll b;replace c2:=(BtX.of k1).trans c2;refine tm (o:=.dT []) (λH' R r=>r) (λH' R r=>r) λdp pp G3 k3 ndp npp dpp hdp hpp=>?_;refine⟨_,rfl,jf (k3 _ _ x2) T.cl T.nP rfl λG4 c4 x4=>?_⟩;have aca:=λb=>nw x2<|npp b;have ae2:=nw x2 ndp;have dp4:=c4 _ _ ae2 hdp;have pp4:=λb=>c4 _ _ (aca b)<|hpp b;replace c4:=(BtX.of k3).trans c4;refine⟨Mw _,λba nb=>?_⟩;obtain⟨G5,e,k5,sb⟩:=nG nb<|.lst [];rw[e];have nbx:=nw x4 nb;refine⟨_,rfl,jf (k5 _ _ x4) T.cl T.nB rfl λG6 c6 x6=>?_⟩;have b6:=c6 _ _ nbx sb;replace c6:=(BtX.of k5).trans c6;refine⟨Mw _,λfa nf=>?_⟩;obtain⟨G7,e,k7,sf⟩:=nG nf<|.lst [];rw[e];have nfx:=nw x6 nf;refine⟨_,rfl,jf (k7 _ _ x6) T.cl T.nF rfl λG8 c8 x8=>?_⟩;have f8:=c8 _ _ nfx sf;replace c8:=(BtX.of k7).trans c8;have agV:p0≠x:=λz=>by rw[z,hx]at hp;cases hp
 have agS:q0≠x:=λz=>by rw[z,hx]at hq;cases hq
 have B28:=c4.trans<|c6.trans c8;have B18:=c2.trans B28;have B08:=b1.trans B18;have hq8:=B08 _ _ agS hq;have pa8:=B18 _ _ npx p1;have ahY:=(B08.tup hx).cls V4;have hxl:=V4.length;refine⟨_,rfl,.inr<|.inl ⟨p0,_,1,.ref q0,rfl,rfl,SqT.of<|B08 _ _ agV hp,rfl,q0,rfl,⟨_,SqL.of hq8⟩,λD nD=>?_⟩⟩;refine bO (K:=K) (a:=q0) (xs:=xs) (Gc x D t cs G8) ⟨LL,rfl,ad,ag nD _,.nil⟩ ?_ ?_ ?_
 ·rintro i σ ys H3 _ ⟨_,_,i1,i2,_⟩;exact⟨i1,SqL.of<|i2 _ _ hq8⟩
 ·rintro i y σ ys H3 hy ⟨v0,rfl,i1,i2,i3⟩;obtain⟨c,hci,tc,rfl,T7⟩:=(ahY.mono i2).get hy;have hok:=hc c<|LZ hci;have alo:=bQ hok;have V3:=(LS.mp hci).1;have hyl:=i3.length;rw[J',ME]at hyl;refine bS ⟨_,rfl,x,CS,dx,_,_,rfl,i2 _ _ x8,T.cl,T.nS,rfl,_,rfl,pa,tc,t,_,LM,c,rfl,i2 _ _ pa8,(by lia),T7,(by lia),hok.2,λla H4 k4 Zy=>?_⟩;have hD4:=k4 _ _ i1;exists hD4,aW (by lia),_,rfl,ad,(i2.trans k4).upd_new nD _;rw[MM,hci,Mq];exact CLs.snoc (CL.upd ⟨la,rfl,Zy⟩ hD4)<|(i3.mono k4).upd hD4
 rintro σ ys G9 ⟨_,_,hD9,k9,T8⟩;rw[L8<|by lia]at T8;refine⟨(by show 1<=sizeLine;decide),λra nr=>?_⟩;obtain⟨G10,e,k10,sr⟩:=nG nr<|.lst [.ref D];rw[e];have nDx:=nw x8 nD;have nrx:=nw (k9 _ _ x8) nr;have x10:=k10 _ _<|k9 _ _ x8;refine⟨_,rfl,jf x10 T.cl T.nR rfl λG11 c11 x11=>?_⟩;refine⟨_,rfl,jf x11 T.cl T.nW rfl λZ c12 x12=>?_⟩;have CZ:=c11.trans c12;have B8Z:=(BtX.of<|k9.trans k10).trans CZ;have B6Z:=c8.trans B8Z;have B4Z:=c6.trans B6Z;have B2Z:=c4.trans B4Z;have BGZ:=c2.trans B2Z;have BHZ:=b1.trans BGZ;have adU:=λb=>c4 _ _ (nlx b)<|ll2 b;have adT:=λb=>c6 _ _ (nlx b)<|adU b;have adS:=λb=>c8 _ _ (nlx b)<|adT b;have bG8:=c8 _ _ nbx b6;have qG2:=c2 _ _ nqx q1;have qG4:=c4 _ _ nqx qG2;have qG6:=c6 _ _ nqx qG4;have S6:∀a,SA.own ⟨x,dx,pa,qa,dl,dp,ba,fa,ra,ll,pp,Fr⟩ a->a=x\/H a=none:=?_;refine q ⟨x,dx,pa,qa,dl,dp,ba,fa,ra,ll,pp,Fr⟩ Z rfl rfl ?_ BHZ S6
 ·refine⟨x12,BGZ _ _ npx p1,⟨xs,BGZ _ _ nqx q1,(BHZ.tup hx).cls V4⟩,B2Z _ _ ndx dl2,B4Z _ _ ae2 dp4,λb=>⟨[],B2Z _ _ (nlx b)<|ll2 b,aQ⟩,λb=>⟨[],B4Z _ _ (aca b)<|pp4 b,rfl,λc=>(Mi (λz=>nomatch z)).symm⟩,B6Z _ _ nbx b6,⟨[],B8Z _ _ nfx f8,.nil⟩,⟨[.ref D],CZ _ _ nrx sr,rfl,λk v hk=>?_⟩,?_,?_,dpp,λ_ _ z=>(nomatch z),λ_=>rfl,λa z=>?_⟩
  ·cases k with
   |succ k=>simp at hk
   |zero=>
    cases hk;refine⟨D,ys,rfl,CZ _ _ nDx<|k10 _ _ hD9,?_,?_⟩
    ·rintro ((z|z|z|z|⟨b,z|z⟩)|z)
     ·exact nDx z
     ·exact nw bG8 nD z
     ·exact nw f8 nD z
     ·exact ak hD9 nr z
     ·exact nw (adS b) nD z
     ·exact nw (c8 _ _ (aca b)<|c6 _ _ (aca b)<|pp4 b) nD z
     ·obtain⟨n,o,e⟩:=hFr _ z;exact nw (B08 _ _ n e) nD rfl
    ·have e:ca t cs ([]:gV Md)=(cs.map λc=>aR t LM c).map some:=by
      unfold ca;rw[M9];exact QS λc Wx=>vv<|gr (t:=t) (hw:=LM)<|hc c Wx
     show iy Z (ca t cs ([]:gV Md)) ys
     rw[e];exact nE<|(CZ.tup x10).cls<|T8.mono k10
  ·rintro ((z|z|z|z|⟨b,z|z⟩)|z)
   ·exact nqx z
   ·exact ak qG4 nb z
   ·exact ak qG6 nf z
   ·exact ak (k9 _ _<|c8 _ _ nqx qG6) nr z
   ·exact ak q1 (nll b) z
   ·exact ak qG2 (npp b) z
   ·obtain⟨_,o,e⟩:=hFr _ z;exact nw e nq rfl
  ·simp only [NX,Mn,OW,Yg,not_or,not_false_eq_true,true_and,Rx,and_true];exact⟨⟨ak b6 nf,ak (k9 _ _ bG8) nr,nw (adU _) nb,nw (adU _) nb⟩,⟨ak (k9 _ _ f8) nr,nw (adT _) nf,nw (adT _) nf⟩,⟨nw (k9 _ _<|adS _) nr,nw (k9 _ _<|adS _) nr⟩,dll⟩
  ·obtain⟨n,o,e⟩:=hFr a z;exact⟨λu=>(S6 a u).elim n λg=>(by rw[g]at e;cases e),o,BHZ _ _ n e⟩
 ·rintro a (z|z|z|z|⟨b,z|z⟩)
  ·exact .inl z
  ·refine .inr ?_;rw[z];exact(b1.trans<|c2.trans c4).free nb nbx
  ·refine .inr ?_;rw[z];exact(b1.trans<|c2.trans<|c4.trans c6).free nf nfx
  ·refine .inr ?_;rw[z];exact(B08.trans<|BtX.of k9).free nr nrx
  ·refine .inr ?_;rw[z];exact b1.free (nll b)<|nlx b
  ·refine .inr ?_;rw[z];exact(b1.trans c2).free (npp b)<|aca b
abbrev qE:NN:=eh (cZ 65) 9
abbrev nI:NN:=cZ 66
def jM(ds:gV Mc)(out:gV (gV Int)):gV Int:=(bM (wL<|ds.map<|bN<|bI out) (out.idxOf [])<|out.idxOf []+1).mergeSort λa b=>decide (a<=b)
def vw(ds:gV Mc)(out:gV (gV Int)):gV Mc:=fj (ds.map<|bN<|bI out)<|jM ds out
theorem xf(ds:gV Mc)(out:gV (gV Int)):QO (jM ds out) (bM (wL<|ds.map<|bN<|bI out) (out.idxOf [])<|out.idxOf []+1):=QR _ _
theorem py(ds:gV Mc)(out:gV (gV Int)):PR (·<=·) (jM ds out):=by
 have:=Rf (le:=λa b:Int=>decide (a<=b)) (λa b c h1 h2=>by rw[MQ]at h1 h2 ⊢;lia) (λa b=>by rw[NL,MQ,MQ];lia)<|bM (wL<|ds.map<|bN<|bI out) (out.idxOf [])<|out.idxOf []+1;exact this.imp λh=>My h
theorem EM(h1:QO nd (bM (wL<|ds.map<|bN<|bI out) (out.idxOf [])<|out.idxOf []+1))(h2:PR (·<=·) nd):nd=jM ds out:=HP h1 h2 (xf ds out)<|py ds out
inductive xh (CS:LJ)(vs:gV V)(H:Hp)(Q:VK):Prop
 |mk (A:SA)(t:Str)(cs:gV (gV Int))(S:SS)(hw:Md)(h0:vs=[.ref A.x])(h:SrAt CS A t cs S H)(W:BM t cs S)(aa6:S.win=A' hw)(he:(S.ow hw).getLast?=A' [])(hc:∀c∈cs,aD t.length c)(ht:t.length<=8)(Qx:cs.length<=2000)
  (q:∀r l ys H',Same H H'->H r=LL->H l=LL->H' r=A' (.tup [.str<|aK hw,.ref l])->H' l=A' (.lst ys)->c9 H' (vw (S.lw hw)<|S.ow hw) ys->Q (.ref r) H'):xh CS vs H Q
def tp(CS:LJ):Sp:=λvs H Q _=>xh CS vs H Q
def jN(t:Str)(cs:gV (gV Int)):SS:=lL t cs 10000 dZ
def d_(t:Str)(cs:gV (gV Int)):Md:=(jN t cs).win.getD LM
def Cg(t:Str)(cs:gV (gV Int)):gV Mc:=vw ((jN t cs).lw<|d_ t cs)<|(jN t cs).ow<|d_ t cs
def tq(t:Str)(cs:gV (gV Int)):gV (gV Int):=(jM ((jN t cs).lw<|d_ t cs)<|(jN t cs).ow<|d_ t cs).map λp=>((jN t cs).ow<|d_ t cs).getD p.toNat []
theorem xi(hc:∀c∈cs,aD t.length c)(ht:t.length<=8):BM t cs (jN t cs)/\(jN t cs).win=A' (d_ t cs)/\((jN t cs).ow<|d_ t cs).getLast?=A' []:=by
 have h3:2 ^ (t.length+1)<=2 ^ 9:=O5 (by decide) (by lia);have h4:(2:Nat) ^ 9=512:=by decide
 have W:=HY hc (by lia) (k:=10000) (iQ (t:=t) (cs:=cs)) (by lia);obtain⟨hw,e1,e2⟩:=W.hw;have e1':(jN t cs).win=A' hw:=e1;have e:d_ t cs=hw:=by
  unfold d_;rw[e1'];rfl
 rw[e];exact⟨W,e1,e2⟩
theorem xj{S:SS}(W:BM t cs S)(ht:t.length<=8)(hw:Md):(S.lw hw).length<=2048:=by
 have h1:=W.few;have h2:=nA S hw;have h3:2 ^ (t.length+1)<=2 ^ 9:=O5 (by decide) (by lia);have h4:(2:Nat) ^ 9=512:=by decide
 lia
theorem gD{out:gV (gV Int)}(h:out.getLast?=A' []):[]∈out:=List.mem_of_getLast? h
theorem kF(h:out.getLast?=A' []):mZ out=true:=by
 unfold mZ;rw[h];rfl
structure Ka (t:Str)(cs:gV (gV Int)):Prop where
 run:bL t cs (d_ t cs) [] (Cg t cs)=(tq t cs,LI)
 good:∀d∈Cg t cs,be d
 few:(Cg t cs).length<=2048
 last:(tq t cs).getLast?=A' []
 nodup:(tq t cs).Nodup
theorem Ch(hc:∀c∈cs,aD t.length c)(ht:t.length<=8):Ka t cs:=by
 obtain⟨W,e1,e2⟩:=xi hc ht;have Sh:=wM (W.I.run _) (W.I.good _) (gD e2) (xf _ _)<|py _ _;refine⟨Sh.run,Sh.good,?_,?_,Sh.nodup⟩
 ·have:=xj W ht<|d_ t cs;have:=Sh.few;show(fj _ _).length<=_
  unfold fj;rw[J'];lia
 ·unfold tq;rw[W7,Sh.last];show A' (((jN t cs).ow<|d_ t cs).getD (((jN t cs).ow<|d_ t cs).idxOf []:Nat) [])=A' []
  obtain⟨_,h2⟩:=iu<|gD e2;rw[LK,h2];rfl
inductive tu (vs:gV V)(H:Hp)(Q:VK):Prop
 |mk (p q:LJ)(t:Str)(xs:gV V)(cs:gV (gV Int))(h0:vs=[.ref p])(hp:H p=A' (.tup [.str t,.ref q]))(hq:H q=A' (.lst xs))(V4:CLs H cs xs)(hc:∀c∈cs,aD t.length c)(ht:t.length<=8)(Qx:cs.length<=2000)
  (q':∀r l ys H',Same H H'->H r=LL->H l=LL->H' r=A' (.tup [.str<|aK<|d_ t cs,.ref l])->H' l=A' (.lst ys)->c9 H' (Cg t cs) ys->Q (.ref r) H'):tu vs H Q
def pA:Sp:=λvs H Q _=>tu vs H Q
structure Kb (mg:Str->LH LF):Prop where
 g_MOST_LOOKS:fm mg "MOST_LOOKS" (.int 10000)
theorem tz:aq ["self"] ["self"] (aj qE):=⟨rfl,rfl,rfl,by decide+kernel,rfl,by decide+kernel,by decide+kernel⟩
theorem yS(F:Fun K "paper" "Searcher.paper" qE f fd)(T:nz K mg CS)(RL:Fn P w K mg base 8 "shortened_paper" g1 e1 ["sentence","paper"] BE):FnOk P w K mg base b7 9 f fd ["self"] (tp CS):=by
 have sc:=tz;refine F.ok tz (λvs H Q E h=>?_) λOT A outer s H vs Q E hr h=>?_
 ·obtain⟨A,t,cs,S,hw,rfl,_⟩:=h;rfl
 obtain⟨B,t,cs,S,hw,rfl,h,W,aa6,he,hc,ht,Qx,q⟩:=h;have hu:=hr.units;have UX:=oo hr;have hx:=h.hx;rw[aa6]at hx;obtain⟨xs,hq1,hq2⟩:=h.hq;obtain⟨ls,hls,hlr⟩:=h.l hw;have acx:=xj W ht hw;refine⟨_,(af (aS (ay lU (bu (pv 0) rfl) cK<|aB _) (ah gg) aA)
  (ah<|ao<|aG RL hr (by lia) rfl<|aa (bu (pv 0) rfl)<|aa (bx<|aa (bu (pv 0) rfl)<|aa (bT UX (bu (pv 0) rfl) (bu (pv 0) rfl) λ_ _=>rfl) ae) ae)),?_⟩
 exists _,rfl,B.x,CS,B.dx,_,_,rfl,hx,T.cl,T.nW,rfl,rfl,_,rfl;rw[show decide (qA (A' hw)=V.non)=LM from LW λz=>by cases z];refine aI ?_;refine⟨_,rfl,B.x,CS,B.dx,_,_,rfl,hx,T.cl,T.nS,rfl,_,rfl,B.x,CS,B.dx,_,_,rfl,hx,T.cl,T.nW,rfl,_,rfl,B.x,CS,B.dx,_,_,rfl,hx,T.cl,T.nL,rfl,_,rfl,B.x,CS,B.dx,_,_,rfl,hx,T.cl,T.nW,rfl,B.dl,_,rfl,dN h.hl hw,(by show 2<=sizeLine;decide),λa na=>?_⟩;have k1:=ag na<|.tup [.str<|aK hw,.ref<|B.ll hw];have s1:upd H a (.tup [.str<|aK hw,.ref<|B.ll hw]) a=A' (.tup [.str<|aK hw,.ref<|B.ll hw]):=ad;exact⟨B.p,B.q,a,B.ll hw,t,hw,xs,ls,cs,S.lw hw,S.ow hw,rfl,k1 _ _ h.hp,(by lia),k1 _ _ hq1,hq2.mono k1,Qx,hc,s1,k1 _ _ hls,cR k1 _ _ hlr,(by lia),h.good hw,W.I.run hw,kF he,λr l ys nd H2 k2 nr nl hr2 Up T8 hpn hsn=>q r l ys H2 (k1.trans k2) (k1.free nr) (k1.free nl) hr2 Up<|by unfold vw;rw[<-EM hpn hsn];exact T8⟩
theorem pB:aq ["sentence","searcher"] ["sentence"] (aj nI):=⟨rfl,rfl,rfl,by decide+kernel,rfl,by decide+kernel,by decide+kernel⟩
theorem vx(F:Fun K "settled_paper" "settled_paper" nI f fd)(T:Kb mg)(Xd:Ku P w K mg base 4 "Searcher" CS g1 e1 ["self","sentence"] (qD CS))(Ggo:mH P w K mg base b7 8 CS "go" g2 e2 ["self","many"] (Cb CS))(aew:mH P w K mg base b7 9 CS "paper" g3 e3 ["self"] (tp CS)):FnOk P w K mg base b7 10 f fd ["sentence"] pA:=by
 have sc:=pB;refine F.ok pB (λvs H Q E h=>?_) λOT A outer s H vs Q E hr h=>?_
 ·obtain⟨p,q,t,xs,cs,rfl,_⟩:=h;rfl
 obtain⟨p,qa,t,xs,cs,rfl,hp,hq,V4,hc,ht,Qx,q⟩:=h;obtain⟨W,ew,el⟩:=xi hc ht;refine⟨_,(af (au (i:=1) sc.nd rfl (MA rfl)<|Fu Xd hr (by lia) rfl<|aa (pv 0) ae)
  (af (lR M_ (cj<|bD<|gT Ggo (pv 1) hr (by lia)<|aa (aM rfl T.g_MOST_LOOKS) ae)
   (ah C_))
  (ah<|ao<|uN aew (pv 1) hr<|by lia))),?_⟩
 refine⟨_,rfl,λx dx nx ndx S7=>?_⟩;have k1:Same H (upd (upd H dx<|.own x) x<|.ins CS dx []):=λb o e=>by
  rw[al<|ak e nx,al<|ak e ndx];exact e
 refine⟨x,dx,p,qa,t,xs,cs,rfl,ad,k1 _ _ hp,k1 _ _ hq,V4.mono k1,hc,(by lia),Qx,(λ_=>False),(λ_ z=>z.elim),λB H2 ex _ h2 b2 YZ=>⟨rfl,?_⟩⟩;have k2:Same H H2:=λb o e=>b2 _ _ (ak e nx)<|k1 _ _ e;have aa5:∀a,B.own a->H a=none:=λa ha=>by
  obtain z|z:=YZ a ha
  ·rw[z];exact nx
  ·exact k1.free z
 subst ex;exists λm σ G=>m=0/\σ=[A'<|.ref p,A'<|.ref B.x]/\G=H2,⟨0,rfl,rfl,rfl⟩;rintro m σ G ⟨rfl,rfl,rfl⟩;refine⟨_,rfl,B.x,B.dx,_,rfl,h2.hx,rfl,B,t,cs,dZ,10000,rfl,h2,.inl iQ,hc,(by lia),Qx,λH3 h3 m3=>⟨_,rfl,?_⟩⟩;have e3:(lL t cs 10000 dZ).win.isSome=true:=by
  show(jN t cs).win.isSome=LI
  rw[ew];rfl
 rw[e3];refine aI ?_;have k3:Same H H3:=λb o e=>m3 _ _ (λz=>by have:=aa5 b z;rw[e]at this;cases this)<|k2 _ _ e;exact⟨_,rfl,B.x,B.dx,_,rfl,h3.hx,rfl,B,t,cs,jN t cs,d_ t cs,rfl,h3,W,ew,el,hc,ht,Qx,λr l ys H4 k4 nr nl hr4 hl4 T8=>q r l ys H4 (k3.trans k4) (k3.free nr) (k3.free nl) hr4 hl4 T8⟩
abbrev qF:NN:=cZ 72
abbrev qG:NN:=cZ 73
structure Lf (mg:Str->LH LF):Prop where
 len:mg "len"=LL
 range:mg "range"=LL
 abs:mg "abs"=LL
 int:mg "int"=LL
inductive xk (vs:gV V)(H:Hp)(Q:VK):Prop
 |mk (p qa:LJ)(t:Str)(xs:gV V)(cs:gV (gV Int))(h0:vs=[.ref p])(h1:H p=A' (.tup [.str t,.ref qa]))(h2:H qa=A' (.lst xs))(h3:CLs H cs xs)(h4:Iu 0 t.length cs)(h5:WS t)(h6:t.length<=8)(h7:∀(p:LJ) (xs:gV V) (H':Hp),Same H H'->H' p=A' (.lst xs)->xs.length=t.length+1->LV H' p t cs 0 xs->Q (.ref p) H'):xk vs H Q
def tD:Sp:=λvs H Q _=>xk vs H Q
inductive xl (vs:gV V)(H:Hp)(Q:VK):Prop
 |mk (p qa:LJ)(t:Str)(xs:gV V)(cs:gV (gV Int))(h0:vs=[.ref p])(h1:H p=A' (.tup [.str t,.ref qa]))(h2:H qa=A' (.lst xs))(h3:CLs H cs xs)(h4:Iu 0 t.length cs)(h5:WS t)(h6:t.length<=8)(h7:∀H',Same H H'->Q (.str<|aK<|cG t cs t.length 0 0) H'):xl vs H Q
def tE:Sp:=λvs H Q _=>xl vs H Q
theorem Cj(b x y:Md):gY (.bl b) [.bl x,.bl y]=if b then(x || y)else !(x&&y):=by
 cases b<;>cases x<;>cases y<;>rfl
theorem Kc(h:ch=119\/ch=115):decide (V.str ⟨#[ch]⟩=V.str (G' "s"))=!decide (ch=119):=by
 obtain rfl|rfl:=h<;>decide+kernel
theorem Ck(b:Md)(x y:V):kL [x,y] (if b then 1 else 0)=A' (if b then y else x):=by
 cases b<;>rfl
theorem tG:aq ["_law_sentence_here","_law_turns","_law_clauses","_law_count","_law_level","_law_number","_law_comes","_law_clause","_law_some","_law_literal","_law_levels_here","_law_k","_law_two"] ["_law_sentence_here"] (aj qF):=⟨rfl,rfl,rfl,by decide+kernel,rfl,by decide+kernel,by decide+kernel⟩
inductive tH (p:LJ)(t:Str)(qa:LJ)(lv:LJ)(cs:gV (gV Int))(H:Hp)(i:Nat)(σ:gV (LH V))(G:Hp):Prop
 |mk (x5:LH V)(x6:LH V)(x7:LH V)(x8:LH V)(x9:LH V)(i0:σ=[A' (.ref p),A' (.str t),A' (.ref qa),A' (.int (t.length:Int)),A' (.ref lv),x5,x6,x7,x8,x9,LL,LL,LL])(i1:G lv=A' (.lst ((Nr i).map λm=>V.bl<|cG t cs (t.length - t.length) t.length m)))(i2:Same H G):tH p t qa lv cs H i σ G
inductive tI (p:LJ)(t:Str)(qa:LJ)(lv:LJ)(i:Nat)(cs:gV (gV Int))(G:Hp)(j:Nat)(σ:gV (LH V))(G2:Hp):Prop
 |mk (x7:LH V)(x8:LH V)(x9:LH V)(i0:σ=[A' (.ref p),A' (.str t),A' (.ref qa),A' (.int (t.length:Int)),A' (.ref lv),A' (.int (0+(i:Int))),A' (.bl ((cs.take j).all λc=>c.any<|gU t.length i)),x7,x8,x9,LL,LL,LL])(i1:G2=G):tI p t qa lv i cs G j σ G2
inductive tJ (p:LJ)(t:Str)(qa:LJ)(lv:LJ)(i:Nat)(cs:gV (gV Int))(j:Nat)(c:gV Int)(tc:LJ)(G2:Hp)(k:Nat)(σ:gV (LH V))(G3:Hp):Prop
 |mk (x9:LH V)(i0:σ=[A' (.ref p),A' (.str t),A' (.ref qa),A' (.int (t.length:Int)),A' (.ref lv),A' (.int (0+(i:Int))),A' (.bl ((cs.take j).all λc=>c.any<|gU t.length i)),A'<|.ref tc,A'<|.bl<|(c.take k).any<|gU t.length i,x9,LL,LL,LL])(i1:G3=G2):tJ p t qa lv i cs j c tc G2 k σ G3
inductive tK (p:LJ)(t:Str)(qa:LJ)(l:LJ)(cs:gV (gV Int))(H:Hp)(j:Nat)(σ:gV (LH V))(H3:Hp):Prop
 |mk (x4:LH V)(x5:LH V)(x6:LH V)(x7:LH V)(x8:LH V)(x9:LH V)(x11:LH V)(x12:LH V)(ys:gV V)(i0:σ=[A'<|.ref p,A'<|.str t,A'<|.ref qa,A'<|.int (t.length:Int),x4,x5,x6,x7,x8,x9,A'<|.ref l,x11,x12])(i1:H3 l=A' (.lst ys))(i2:ys.length=j+1)(i3:LV H3 l t cs (t.length - j) ys)(i4:Same H H3):tK p t qa l cs H j σ H3
inductive tL (p:LJ)(t:Str)(qa:LJ)(D:LJ)(x6:LH V)(x7:LH V)(x8:LH V)(x9:LH V)(l:LJ)(k:Nat)(cs:gV (gV Int))(H3:Hp)(i:Nat)(σ:gV (LH V))(G:Hp):Prop
 |mk (x5:LH V)(x12:LH V)(i0:σ=[A' (.ref p),A' (.str t),A' (.ref qa),A' (.int (t.length:Int)),A' (.ref D),x5,x6,x7,x8,x9,A' (.ref l),A' (.int (k:Int)),x12])(i1:G D=A' (.lst ((Nr i).map λm=>V.bl<|cG t cs (t.length - k) k m)))(i2:Same H3 G):tL p t qa D x6 x7 x8 x9 l k cs H3 i σ G
theorem yT(F:Fun K "_law_levels" "_law_levels" qF f fd)(T:Lf mg):FnOk P w K mg base b7 1 f fd ["_law_sentence_here"] tD:=by
 have sc:=tG;refine F.ok tG (λvs H Q E h=>?_) λOT A outer s H vs Q E hr h=>?_
 ·obtain⟨p,qa,t,xs,cs,rfl,_⟩:=h;rfl
 obtain⟨p,qa,t,xs,cs,rfl,h1,h2,h3,hrg,hws,h8,q⟩:=h;have hu:=hr.units;have p8:∀k,k<=8->2 ^ k<=256:=λk hk=>O5 (by decide) hk;have e2n:=vZ t.length;have p8n:=p8 _ h8;refine⟨_,(af (Gu (pv 0)<|pG rfl<|eI (aE (i:=1) sc.nd rfl<|MA rfl)<|eI (aE (i:=2) sc.nd rfl<|MA rfl) lu)
  (af (au (i:=3) sc.nd rfl (MA rfl)<|aw bh rfl T.len M7<|aa (pv 1) ae)
  (af (au (i:=4) sc.nd rfl (MA rfl)<|bY ae)
  (af (cO M_ rfl (iA rfl T.range<|aa (aU zf ai<|pv 3) ae) (aE (i:=5) sc.nd rfl<|MA rfl)
   (af (au (i:=6) sc.nd rfl (MA rfl) c_)
   (af (cO M_ rfl (bw<|pv 2) (aE (i:=7) sc.nd rfl<|MA rfl)
    (af (au (i:=8) sc.nd rfl (MA rfl) c_)
    (af (cO M_ rfl (fC<|pv 7) (aE (i:=9) sc.nd rfl<|MA rfl)
     (ah<|au (i:=8) sc.nd rfl (MA rfl)<|IB (pv 8)<|fh<|aY (aX hu) (aY (aX hu) (aU zh (aU zg (pv 5)<|aU pI (pv 3)<|aw cP rfl T.abs Np<|aa (pv 9) ae) ai) ai<|aB _) (aY lT (pv 9) ai<|aB _)<|aB _))
    (ah<|au (i:=6) sc.nd rfl (MA rfl)<|dm (pv 6)<|fh<|pv 8))))
   (ah<|bA<|cv ML Na Ng bW (pv 4)<|aa (pv 6) ae))))
  (af (au (i:=10) sc.nd rfl (MA rfl)<|bY<|aa (pv 4) ae)
  (af (cO M_ rfl (oH rfl T.range<|aa (aU pI (pv 3) ai)<|aa (fk c7 ai)<|aa (fk c7 ai) ae) (aE (i:=11) sc.nd rfl<|MA rfl)
   (af (au (i:=4) sc.nd rfl (MA rfl)<|bY ae)
   (af (cO M_ rfl (iA rfl T.range<|aa (aU zf ai<|pv 11) ae) (aE (i:=5) sc.nd rfl<|MA rfl)
    (af (au (i:=12) sc.nd rfl (MA rfl)<|bY<|aa (av am (av am (pv 10) ai λ_ _=>rfl) (aU hG ai<|pv 5) λ_ _=>rfl)<|aa (av am (av am (pv 10) ai λ_ _=>rfl) (aU g_ (aU hG ai<|pv 5) ai) λ_ _=>rfl) ae)
    (ah<|bA<|cv ML Na Ng bW (pv 4)<|aa (av am (bY<|aa (aY cX c_ (pv 12)<|by with_unfolding_all rfl)<|aa (aY cY c_ (pv 12)<|by with_unfolding_all rfl) ae) (bg nZ rfl T.int Qq<|aa (aY (aX hu) (av am (pv 1) (pv 11) λ_ _=>rfl) aH<|aB _) ae) λ_ _=>rfl) ae)))
   (ah<|bA<|cv ML U3 PySem.F.type_list_insert xT (pv 10)<|aa ai<|aa (pv 4) ae))))
  (ah<|ao<|pv 10))))))),?_⟩
 refine⟨_,rfl,p,_,rfl,SqT.of h1,rfl,_,_,rfl,_,_,rfl,rfl,?_⟩;refine⟨_,rfl,.str t,_,rfl,⟨Nx (aW<|by lia),rfl⟩,?_⟩;refine⟨Mw _,λlv hlv=>?_⟩;have k1:=ag hlv<|.lst [];have r1:upd H lv (.lst []) lv=A' (.lst []):=ad;generalize upd H lv (.lst [])=H1 at k1 r1;refine⟨_,rfl,_,_,rfl,rfl,⟨by lia,by lia,by decide⟩,((2 ^ t.length:Nat):Int),M0 (λz=>[V.int z]) e2n,(aab (by decide)<|S2 _),(by lia),?_⟩;refine jQ (lo:=0) (n:=2 ^ t.length) (tH p t qa lv cs H)
  ⟨LL,LL,LL,LL,LL,rfl,r1,k1⟩ ?_ ?_
 ·rintro i σ G hi ⟨x5,x6,x7,x8,x9,rfl,g1,kG⟩;refine⟨_,rfl,qa,rfl,⟨_,SqL.of<|kG _ _ h2⟩,fD (K:=K) (a:=qa) (xs:=xs)
   (tI p t qa lv i cs G) ⟨_,_,_,rfl,rfl⟩ ?_ ?_ ?_⟩
  ·rintro j σ G2 _ ⟨_,_,_,_,rfl⟩;exact SqL.of<|kG _ _ h2
  ·rintro j x σ G2 hx ⟨x7,x8,x9,rfl,rfl⟩;obtain⟨c,hc,tc,rfl,T7⟩:=h3.get hx;have Wx:c∈cs:=LZ hc;refine⟨_,rfl,tc,rfl,⟨_,SqT.of<|kG _ _ T7⟩,pH (K:=K) (a:=tc) (xs:=c.map V.int)
    (tJ p t qa lv i cs j c tc G2) ⟨_,rfl,rfl⟩ ?_ ?_ ?_⟩
   ·rintro k σ G3 _ ⟨_,_,rfl⟩;exact SqT.of<|kG _ _ T7
   ·rintro k x σ G3 hx ⟨x9,rfl,rfl⟩;obtain⟨z,rfl,hz⟩:=dh hx;have hzr:=hrg c Wx z<|LZ hz;have ea:(c.take<|k+1).any (gU t.length i)=((c.take k).any (gU t.length i) || gU t.length i z):=by
     rw[MM,hz,UW];show(_ || (gU t.length i z || LM))=_
     rw[Q3]
    refine⟨_,rfl,_,rfl,?_⟩;cases ga:(c.take k).any (gU t.length i)with
    |true=>exact aJ ⟨_,by rw[ea,ga];rfl,rfl⟩
    |false=>
     refine aI ⟨_,rfl,_,rfl,_,rfl,z,rfl,_,_,rfl,rfl,_,_,rfl,rfl,(by show(0:Int)<=(t.length:Int) - absI z;lia),_,_,rfl,rfl,.inl ⟨rfl,_,rfl,_,_,rfl,rfl,.inl ⟨rfl,?_⟩⟩⟩;have eb:=DK (n:=t.length) (num:=i) (z:=z) hzr.2 (by lia);rw[aaa];refine⟨A'<|.int z,?_,rfl⟩;rw[ea,ga,Q4,<-eb,aaa];rfl
   ·rintro σ G3 ⟨x9,rfl,rfl⟩;rw[J',L8<|LQ _];have e:(cs.take<|j+1).all (λc=>c.any<|gU t.length i)=((cs.take j).all (λc=>c.any<|gU t.length i)&&c.any (gU t.length i)):=by
     rw[MM,hc,List.all_append];show(_&&(c.any (gU t.length i)&&LI))=_
     rw[VZ]
    refine⟨_,rfl,_,rfl,?_⟩;cases ga:(cs.take j).all λc=>c.any (gU t.length i)with
    |true=>exact aJ ⟨_,rfl,_,_,_,by rw[e,ga];rfl,rfl⟩
    |false=>exact aI ⟨_,_,_,by rw[e,ga];rfl,rfl⟩
  ·rintro σ G2 ⟨x7,x8,x9,rfl,rfl⟩;rw[<-h3.length,L8<|LQ _];refine⟨_,rfl,.inl ⟨rfl,_,SqL.of g1⟩,_,rfl,lv,_,_,rfl,rfl,g1,(by rw[J',NS];exact aW<|by lia),?_⟩;refine⟨_,_,_,_,_,rfl,?_,kG.upd_new hlv _⟩;rw[ad,Qk,Mq,PF];rfl
 rintro σ G ⟨x5,x6,x7,x8,x9,rfl,g1,kG⟩;have eR:(Nr (2 ^ t.length)).map (λm=>V.bl<|cG t cs (t.length - t.length) t.length m)=uz t cs t.length:=rfl;rw[eR]at g1;refine⟨_,rfl,(by show 1<=sizeLine;decide),λl hl=>?_⟩;have nDl:lv≠l:=ak g1 hl;have kl:Same G (upd G l<|.lst [.ref lv]):=ag hl _;have rl:upd G l (.lst [.ref lv]) l=A' (.lst [.ref lv]):=ad;have nl:H l=none:=kG.free hl;generalize upd G l (.lst [.ref lv])=H2 at kl rl;refine⟨_,rfl,_,_,rfl,rfl,_,rfl,_,rfl,(t.length:Int) - 1,-1,rfl,⟨by lia,by lia,by lia,by lia⟩,mw (lo:=(t.length:Int) - 1)
  (tK p t qa l cs H)
  ⟨_,_,_,_,_,_,LL,LL,[.ref lv],rfl,rl,rfl,λd hd=>?_,kG.trans kl⟩ ?_ ?_⟩
 ·have:d=0:=by
   have:d < 1:=hd;lia
  subst this;exact⟨lv,rfl,nDl,kl _ _ g1⟩
 ·rintro j σ H3 hj ⟨x4,x5,x6,x7,x8,x9,x11,x12,ys,rfl,g1,g2,g3,k3⟩;have hj':j < t.length:=by lia
  obtain⟨k,hk⟩:∃k:Nat,t.length=k+j+1:=⟨t.length - j - 1,by lia⟩;have ek:(t.length:Int) - 1 - (j:Int)=(k:Int):=by lia
  have eL:t.length - j=k+1:=by lia
  rw[eL]at g3;obtain⟨a0,g4,g5,g6⟩:=g3 0 (by lia);rw[W3]at g6;have p8k:=p8 k (by lia);have e2k:=vZ k;rw[ek];have hkl:k < t.cps.toList.length:=by
   rw[Mr];show k < t.length
   lia
  have YL:=LU hkl;have ah0:=hws _<|OB hkl;refine⟨Mw _,λD hD=>?_⟩;have k4:=ag hD<|.lst [];have r4:upd H3 D (.lst []) D=A' (.lst []):=ad;have nDl:D≠l:=NC<|ak g1 hD;generalize upd H3 D (.lst [])=H4 at k4 r4;refine⟨_,rfl,_,_,rfl,rfl,⟨by lia,by lia,by decide⟩,((2 ^ k:Nat):Int),M0 (λz=>[V.int z]) e2k,(aab (by decide)<|S2 _),(by lia),?_⟩;refine jQ (lo:=0) (n:=2 ^ k) (tL p t qa D x6 x7 x8 x9 l k cs H3)
   ⟨_,_,rfl,r4,k4⟩ ?_ ?_
  ·rintro i σ G hi ⟨x5,x12,rfl,d1,kG⟩;have get:∀(H':Hp) (m:Nat) (i:Int),Same H3 H'->m < 2 ^ (k+1)->i=(m:Int)->∀R:VK,R (.bl<|cG t cs (t.length - (k+1)) (k+1) m) H'->I_ K (.ref a0) (.int i) H' R:=λH' m i k' hm hi R r=>
    .inl ⟨a0,_,i,_,rfl,rfl,SqL.of<|k' _ _ g6,Af hm hi,r⟩
   refine⟨_,rfl,.inl ⟨l,ys,0,.ref a0,rfl,rfl,SqL.of<|kG _ _ g1,cb (j:=0) g4,_,rfl,_,_,rfl,rfl,.inl ⟨by decide,by decide⟩,get G (2*i) _ kG (by rw[QM];lia) (by lia) _ ?_⟩⟩;refine⟨_,rfl,.inl ⟨l,ys,0,.ref a0,rfl,rfl,SqL.of<|kG _ _ g1,cb (j:=0) g4,_,rfl,_,_,rfl,rfl,.inl ⟨by decide,by decide⟩,_,_,rfl,rfl,get G (2*i+1) _ kG (by rw[QM];lia) (by lia) _ ?_⟩⟩;have acF:=Ag (cs:=cs) (show k < t.length by lia) i;generalize cG t cs (t.length - (k+1)) (k+1) (2*i)=u1 at acF;generalize cG t cs (t.length - (k+1)) (k+1) (2*i+1)=u2 at acF;refine⟨(by show 2<=sizeLine;decide),λtw htw=>?_⟩;have k5:=ag htw<|.lst [.bl u1,.bl u2];have r5:upd G tw (.lst [.bl u1,.bl u2]) tw=A' (.lst [.bl u1,.bl u2]):=ad;have d5:=k5 _ _ d1;generalize upd G tw (.lst [.bl u1,.bl u2])=G2 at k5 r5 d5;refine⟨_,rfl,.inl ⟨rfl,_,SqL.of d5⟩,_,rfl,tw,_,rfl,.inl<|SqL.of r5,rfl,rfl,_,rfl,tw,_,rfl,.inl<|SqL.of r5,rfl,rfl,(by show 2<=sizeLine;decide),λpk hpk=>?_⟩;have k6:=ag hpk<|.lst [.bl<|gY (.bl LI) [.bl u1,.bl u2],.bl (!gY (.bl LM) [.bl u1,.bl u2])];have r6:upd G2 pk (.lst [.bl<|gY (.bl LI) [.bl u1,.bl u2],.bl (!gY (.bl LM) [.bl u1,.bl u2])]) pk=A' (.lst [.bl<|gY (.bl LI) [.bl u1,.bl u2],.bl (!gY (.bl LM) [.bl u1,.bl u2])]):=ad;have d6:=k6 _ _ d5;change _ at r6;refine⟨_,rfl,_,rfl,.inr<|.inr ⟨t,(k:Int),_,rfl,rfl,Nx (aW<|by lia),cb YL,.inl ⟨rfl,.inr ⟨_,rfl,.inl ⟨pk,_,_,_,rfl,rfl,SqL.of r6,Ck _ _ _,?_⟩⟩⟩⟩⟩;rw[Kc ah0];have ew:decide (t.cps.toList[k]=119)=cF t k:=(z_ YL).symm;rw[ew];have ev:(if(!cF t k)=LI then V.bl (!gY (.bl LM) [.bl u1,.bl u2])else V.bl (gY (.bl LI) [.bl u1,.bl u2]))=.bl (cG t cs (t.length - k) k i):=by
    rw[acF,Cj,Cj];cases cF t k<;>cases u1<;>cases u2<;>rfl
   rw[ev];refine⟨D,_,_,rfl,rfl,d6,(by rw[J',NS];exact aW<|by lia),?_⟩;refine⟨_,_,rfl,?_,(kG.trans<|k5.trans k6).upd_new hD _⟩;rw[ad,Qk,Mq];rfl
  ·rintro σ G ⟨x5,x12,rfl,d1,kG⟩;have eR:(Nr (2 ^ k)).map (λm=>V.bl<|cG t cs (t.length - k) k m)=uz t cs k:=rfl;rw[eR]at d1;have l1:=kG _ _ g1;refine⟨_,rfl,.inl ⟨rfl,_,SqL.of l1⟩,_,rfl,l,ys,0,.ref D,rfl,rfl,l1,QF _,by lia,by rw[g2];exact aW (by lia),?_⟩;have e3:t.length - (j+1)=k:=by lia
   refine⟨_,_,_,_,_,_,_,_,.ref D::ys,rfl,ad,by rw[L4,g2],e3▸LV.cons (lo:=k+1) (g3.keep λb o hb S7=>?_) nDl ?_ rfl,(k3.trans kG).upd_new nl _⟩
   ·rw[al S7];exact kG _ _ hb
   ·rw[al nDl];exact d1
 ·rintro σ H3 ⟨x4,x5,x6,x7,x8,x9,x11,x12,ys,rfl,g1,g2,g3,k3⟩;have eN:((t.length:Int) - 1 - -1).toNat=t.length:=by lia
  rw[eN]at g2 g3;rw[PF]at g3;exact⟨_,rfl,q l ys H3 k3 g1 g2 g3⟩
theorem tO:aq ["_law_sentence_here"] ["_law_sentence_here"] (aj qG):=⟨rfl,rfl,rfl,by decide+kernel,rfl,by decide+kernel,by decide+kernel⟩
theorem yU(F:Fun K "_law_winner" "_law_winner" qG f fd)(T:Lf mg)(ZW:Fn P w K mg base 1 "_law_levels" g gd ["_law_sentence_here"] tD):FnOk P w K mg base b7 2 f fd ["_law_sentence_here"] tE:=by
 have sc:=tO;refine F.ok tO (λvs H Q E h=>?_) λOT A outer s H vs Q E hr h=>?_
 ·obtain⟨p,qa,t,xs,cs,rfl,_⟩:=h;rfl
 obtain⟨p,qa,t,xs,cs,rfl,h1,h2,h3,hrg,hws,h8,q⟩:=h;exists _,(ah<|ao<|av am (bY<|aa aH<|aa aH ae) (bg nZ rfl T.int Qq<|aa (av am (av am (aG ZW hr (by lia) rfl<|aa (pv 0) ae) ai λ_ _=>rfl) ai λ_ _=>rfl) ae) λ_ _=>rfl);refine⟨(by show 2<=sizeLine;decide),λlh hlh=>?_⟩;have k1:=ag hlh<|.lst [.str<|G' "spoiler",.str<|G' "wisher"];have r1:upd H lh (.lst [.str<|G' "spoiler",.str<|G' "wisher"]) lh=A' (.lst [.str<|G' "spoiler",.str<|G' "wisher"]):=ad;generalize upd H lh (.lst [.str<|G' "spoiler",.str<|G' "wisher"])=H1 at k1 r1;refine⟨_,rfl,p,qa,t,xs,cs,rfl,k1 _ _ h1,k1 _ _ h2,h3.mono k1,hrg,hws,h8,λl ys H2 k2 g1 g2 g3=>?_⟩;obtain⟨a,ha,hra⟩:=g3.at (d:=0) (by lia) (j:=0) rfl;refine .inl ⟨l,ys,0,.ref a,rfl,rfl,SqL.of g1,ha,.inl ⟨a,_,0,_,rfl,rfl,SqL.of hra,Af (m:=0) (by decide) rfl,.inr ⟨_,rfl,?_⟩⟩⟩;exact OD.hand_at (k2 _ _ r1) _<|q _<|k1.trans k2
theorem Cl(hc:∀c∈cs,aD t.length c)(ht:t.length<=18)(n:Nat):jd t cs (lL t cs n dZ)\/BM t cs (lL t cs n dZ):=(vh hc ht n dZ iQ).imp And.left id
abbrev vy:NN:=cZ 15
abbrev qH:NN:=cZ 16
structure Id (mg:Str->LH LF):Prop where
 isinstance:mg "isinstance"=LL
 int:mg "int"=LL
 bool:mg "bool"=LL
 tuple:mg "tuple"=LL
 list:mg "list"=LL
 str:mg "str"=LL
 abs:mg "abs"=LL
 len:mg "len"=LL
 all:mg "all"=LL
def xm:Sp:=λvs H Q _=>∃v d,vs=[v]/\RD H d v/\(∀t,d=.str t->t.length<=1000000)/\∀H',Same H H'->Q (.bl<|uD d) H'
def Lg(d:Mc):Prop:=∀d0 d1,d=.tuple [d0,d1]->(∀t,d0=.str t->t.length<=1000000)/\(∀es,d1=.list es->es.length<=1000000)
def nJ:Sp:=λvs H Q _=>∃v d,vs=[v]/\RD H d v/\Lg d/\∀H',Same H H'->Q (.bl<|fo d) H'
theorem xn:aq ["thing"] ["thing"] (aj vy):=⟨rfl,rfl,rfl,by decide+kernel,rfl,by decide+kernel,by decide+kernel⟩
theorem Cn(F:Fun K "is_turns" "is_turns" vy f fd)(T:Id mg):FnOk P w K mg base b7 1 f fd ["thing"] xm:=by
 have sc:=xn;refine F.ok xn (λvs H Q E h=>?_) λOT A outer s H vs Q E hr h=>?_
 ·obtain⟨v,d,rfl,_⟩:=h;rfl
 obtain⟨v,d,rfl,hd,h9,q⟩:=h;have nd:=fA hd;exists _,(ah<|ao<|dm (aw cx rfl T.isinstance NA<|aa (pv 0)<|aa (fQ (v:=.ty "str") rfl T.str RI rfl) ae)<|fh<|aw (mn rfl) rfl T.all RJ<|aa (bp (NY:=["sign"]) (idx:=[LL]) rfl ⟨by with_unfolding_all rfl,(by with_unfolding_all exact trivial),λ_=>by rfl,by rfl,by rfl,by rfl,by decide⟩ (Aj<|pv 0) (λ_ _ _ _=>(aE (i:=0) (show Nf (["sign"]:gV Str) by decide+kernel) rfl<|MA rfl)) (λ_ _ _ _=>bJ) λ_ _ _ _=>(aY (iY (K:=K) rfl) (pv 0) (bx<|aa aH<|aa aH ae)<|by with_unfolding_all rfl)) ae);exists _,rfl,v,_,"str",_,rfl,ma d v hd,DQ d nd,_,rfl;cases d with
 |str t=>
  refine aJ ?_;obtain rfl:=bd hd;refine⟨_,rfl,t,rfl,λD hD=>?_⟩;refine oV [] (λc=>.bl<|DR c) rfl hD (h9 t rfl) (λ_ _ _ r=>r) ?_ ?_
  ·intro c H' R k r;refine⟨_,rfl,(by show 2<=sizeLine;decide),λp hp=>⟨p,_,rfl,.inr<|SqT.of ad,rfl,rfl,?_⟩⟩;show R (.bl<|gY (.str ⟨#[c]⟩) [.str<|G' "w",.str<|G' "s"]) _
   rw[Ho];exact r _<|ag hp _
  ·intro H2 k2 r2;exists D,_,rfl,SqL.of r2,(pW _ _).1;rw[(pW _ _).2];exact q H2 k2
 |_=>exact aI<|q H<|Same.refl _
theorem vz(h:ds.length≠2):fo (.tuple ds)=false:=by
 match ds,h with
 |[],_=>rfl
 |[_],_=>rfl
 |[_,_],h=>exact absurd rfl h
 |_::b::_::_,_=>cases b<;>rfl
theorem qI(h:uD d0=LM):fo (.tuple [d0,d1])=false:=by
 cases d1 with
 |list es=>
  cases d0 with
  |str t=>
   show(rM t&&_)=LM
   rw[show rM t=LM from h];rfl
  |_=>rfl
 |_=>rfl
theorem tP(h:uC d1=LM):fo (.tuple [d0,d1])=false:=by
 cases d1 with
 |list es=>cases h
 |_=>rfl
theorem tQ:aq ["thing","turns","clauses"] ["thing"] (aj qH):=⟨rfl,rfl,rfl,by decide+kernel,rfl,by decide+kernel,by decide+kernel⟩
theorem yV(F:Fun K "is_sentence" "is_sentence" qH f fd)(T:Id mg)(WB:Fn P w K mg base 2 "is_set" f1 d1 ["thing","most"] wt)(abW:Fn P w K mg base 1 "is_turns" f2 d2 ["thing"] xm):
  FnOk P w K mg base b7 3 f fd ["thing"] nJ:=by
 have sc:=tQ;refine F.ok tQ (λvs H Q E h=>?_) λOT A outer s H vs Q E hr h=>?_
 ·obtain⟨v,d,rfl,_⟩:=h;rfl
 obtain⟨v,d,rfl,hd,hz,q⟩:=h;have hu:=hr.units;have nd:=fA hd;refine⟨_,(af (aS (PW.pt<|gf (cj<|bD<|aw cx rfl T.isinstance NA<|aa (pv 0)<|aa (fQ (v:=.ty "tuple") rfl T.tuple Nm rfl) ae)<|fB<|ay (ic hu) (aw bh rfl T.len M7<|aa (pv 0) ae) ai<|aB _) (ah<|ao c_) aA)
  (af (au (i:=1) sc.nd rfl (Ra rfl)<|av am (pv 0) ai λ_ _=>rfl)
  (af (au (i:=2) sc.nd rfl (MA rfl)<|av am (pv 0) ai λ_ _=>rfl)
  (af (aS (PW.pt<|gf (cj<|bD<|aG abW hr (by lia) rfl<|aa (pv 1) ae)<|fB<|cj<|bD<|aw cx rfl T.isinstance NA<|aa (pv 2)<|aa (fQ (v:=.ty "list") rfl T.list OI rfl) ae) (ah<|ao c_) aA)
  (ah<|ao<|aw (mn rfl) rfl T.all RJ<|aa (bp (NY:=["clause","turns"]) (idx:=[LL,A' 1]) rfl ⟨by with_unfolding_all rfl,(by with_unfolding_all exact⟨rfl,trivial⟩),λ_=>by rfl,by rfl,by rfl,by rfl,by decide⟩ (bw<|pv 2) (λ_ _ _ _=>(aE (i:=0) (show Nf (["clause","turns"]:gV Str) by decide+kernel) rfl<|MA rfl)) (λ_ _ _ _=>bJ) λ_ _ _ _=>(aG WB hr (by lia) rfl<|aa (pv 0)<|aa (aw (oA (K:=K) rfl) rfl T.len M7<|aa (pv 1) ae) ae)) ae))))),?_⟩
 exists _,rfl,v,_,"tuple",_,rfl,ma d v hd,jV d nd,_,rfl;cases d with
 |tuple ds=>
  refine aI ?_;obtain⟨a,xs,rfl,ha,hx⟩:=ax hd;have N1:=dH hx;refine⟨_,rfl,.ref a,_,rfl,.inr ⟨_,SqT.of ha,rfl⟩,.inl ⟨rfl,_,rfl,?_⟩⟩;by_cases h2:ds.length=2
  ·obtain⟨d0,d1,x0,x1,rfl,rfl,r0,r1⟩:=cp hx h2;refine Ls rfl ?_;obtain⟨z0,z1⟩:=hz d0 d1 rfl;refine⟨_,rfl,.inr<|.inl ⟨a,[x0,x1],0,x0,rfl,rfl,SqT.of ha,rfl,?_⟩⟩;refine⟨_,rfl,.inr<|.inl ⟨a,[x0,x1],1,x1,rfl,rfl,SqT.of ha,rfl,?_⟩⟩;refine⟨_,rfl,x0,d0,rfl,r0,z0,λH1 k1=>⟨_,rfl,?_⟩⟩;cases g0:uD d0 with
   |false=>
    rw[qI g0]at q;exact aJ<|aJ<|q H1 k1
   |true=>
    have r1':=iG k1 _ _ r1;refine aI ⟨_,rfl,x1,_,"list",_,rfl,ma d1 x1 r1',Ak d1<|fA r1',_,rfl,?_⟩;cases g1:uC d1 with
    |false=>
     rw[tP g1]at q;exact aJ<|q H1 k1
    |true=>
     refine aI ?_;obtain⟨es,rfl⟩:∃es,d1=.list es:=by
      cases d1 with
      |list es=>exact⟨es,rfl⟩
      |_=>cases g1
     obtain⟨t,rfl⟩:∃t,d0=.str t:=by
      cases d0 with
      |str t=>exact⟨t,rfl⟩
      |_=>cases g0
     obtain rfl:=bd r0;obtain⟨b,ys,rfl,hb,hy⟩:=eM r1';have hyl:=dH hy;have z1':=z1 es rfl;refine⟨_,rfl,b,rfl,⟨_,SqL.of hb⟩,λD hD=>?_⟩;refine bO (K:=K) (a:=b) (xs:=ys) (λi σ zs H2=>(∃v0,σ=[v0,A'<|.str t])/\zs=(es.take i).map (λd=>V.bl<|ij t.length d)/\H2=upd H1 D (.lst zs)) ⟨⟨LL,rfl⟩,rfl,rfl⟩ ?_ ?_ ?_
     ·rintro i σ zs H2 _ ⟨_,_,rfl⟩;refine⟨ad,SqL.of ?_⟩;rw[al<|ak hb hD];exact hb
     ·rintro i y σ zs H2 hi ⟨⟨v0,rfl⟩,rfl,rfl⟩;have V3:i < ys.length:=(LS.mp hi).1;have hyi:=iG (ag hD<|.lst<|(es.take i).map λd=>V.bl<|ij t.length d) _ _<|fU hy hi;refine bS ⟨_,rfl,_,rfl,.str t,_,rfl,⟨MD (z0 t rfl) (by decide),rfl⟩,y,_,_,rfl,hyi,ad,?_,⟨_,rfl⟩,?_,ee⟩
      ·rw[J',ME];exact cB (by lia)
      ·have hei:es[i]? =A' (es.getD i .none):=by
        rw[LK,LU<|by lia];rfl
       rw[MM,hei,Mq];rfl
     ·rintro σ zs H2 ⟨_,rfl,rfl⟩;rw[L8<|by lia];exists D,_,rfl,SqL.of ad,(pW _ _).1;rw[(pW _ _).2];have e:fo (.tuple [.str t,.list es])=es.all (ij t.length):=by
       show(rM t&&_)=_
       rw[show rM t=LI from g0];rfl
      rw[e]at q;exact q _<|k1.trans<|ag hD _
  ·rw[vz h2]at q;have e:(!decide (V.int (xs.length:Int)=V.int 2))=true:=by
    rw[LW λz=>h2 (by have:=V.int.inj z;lia)];rfl
   rw[e];exact aJ<|q H<|Same.refl _
 |_=>exact aJ<|aJ<|q H<|Same.refl _
abbrev Co:NN:=cZ 29
abbrev vA:NN:=cZ 30
structure Kd (K:K')(mg:Str->LH LF)(CN:LJ):Prop where
 any:mg "any"=LL
 int:mg "int"=LL
 len:mg "len"=LL
 tuple:mg "tuple"=LL
 str:mg "str"=LL
 g_FIGURES:fm mg "FIGURES" (.str<|G' "0123456789")
 g_MOST_FIGURES:fm mg "MOST_FIGURES" (.int 9)
 m_NoText:mg "NoText"=A' (.ref CN)
 x_NoText:Qm K CN [.type "ValueError",.type "Exception",.type "BaseException",.type "object"] "ValueError.__new__"=LI
def Cp(CN:LJ):Sp:=λvs H Q E=>∃t:Str,vs=[.str t]/\t.length<=1000000/\(∀n,fG t=A' n->∀H',Same H H'->Q (.int n) H')/\(fG t=LL->∀H',Same H H'->E (.ref CN) LL H')
theorem Cq:aq ["piece","figures"] ["piece"] (aj Co):=⟨rfl,rfl,rfl,by decide+kernel,rfl,by decide+kernel,by decide+kernel⟩
theorem EN(F:Fun K "read_number" "read_number" Co f fd)(T:Kd K mg CN):FnOk P w K mg base (fF P w) 1 f fd ["piece"] (Cp CN):=by
 have sc:=Cq;refine F.okX Cq (λvs H Q E h=>?_) λOT A outer s H vs Q E hr h=>?_
 ·obtain⟨t,rfl,_⟩:=h;rfl
 obtain⟨t,rfl,hz,q,qe⟩:=h;have hu:=hr.units;refine⟨_,(af (au (i:=1) sc.nd rfl (MA rfl)<|eF (bD<|cv NF PySem.F.slot_str_startswith PySem.F.type_str_startswith uQ (pv 0)<|aa aH ae) (eJ Hl (pv 0) (fu ai) gG)<|pv 0)
  (af (aS (PW.pt<|gf (cj<|hU (pv 1) λ_=>rfl)<|fB<|bD<|aw (rn rfl) rfl T.any U6<|aa (bp (NY:=["sign"]) (idx:=[LL]) rfl ⟨by with_unfolding_all rfl,(by with_unfolding_all exact trivial),λ_=>by rfl,by rfl,by rfl,by rfl,by decide⟩ (Aj<|pv 1) (λ_ _ _ _=>(aE (i:=0) (show Nf (["sign"]:gV Str) by decide+kernel) rfl<|MA rfl)) (λ_ _ _ _=>bJ) λ_ _ _ _=>(aY pK (pv 0) (aM rfl T.g_FIGURES)<|by with_unfolding_all rfl)) ae) (ah<|eU T.x_NoText NI T.m_NoText rfl<|aa aH ae) aA)
  (af (aS (ay lT (aw bh rfl T.len M7<|aa (pv 1) ae) (aM rfl T.g_MOST_FIGURES)<|aB _) (ah<|eU T.x_NoText NI T.m_NoText rfl<|aa aH ae) aA)
  (af (aS (PW.pt<|lQ (ay (aX hu) (av am (pv 1) ai λ_ _=>rfl) aH<|aB _)<|jg<|ay (ic hu) (pv 0) aH<|aB _) (ah<|eU T.x_NoText NI T.m_NoText rfl<|aa aH ae) aA)
  (ah<|ao<|bg yn rfl T.int Qq<|aa (pv 0) ae))))),?_⟩
 exists _,rfl,rfl,t,G' "-",rfl,rfl,_,rfl;refine yq rfl hz λfg ef hl=>?_;have N1:fg.length=(b_ t.cps.toList).length:=by rw[<-ef];exact Mr.symm
 exists _,rfl,_,⟨MD hl (by decide),rfl⟩;by_cases h1:b_ t.cps.toList=[]
 ·have e:((fg.length:Int) != 0)=false:=by rw[N1,h1];rfl
  rw[e];exact aJ<|aJ ⟨(by show 1<=sizeLine;decide),qe (jA<|.inl h1) _<|Same.refl _⟩
 have hp:0 < (b_ t.cps.toList).length:=OL.mpr h1;have e:((fg.length:Int) != 0)=true:=by
  rw[N1,Yh];lia
 rw[e];refine aI ?_;refine⟨_,rfl,fg,rfl,λD hD=>?_⟩;refine oV [] (λc=>.bl (!gx c)) rfl hD hl (λ_ _ _ r=>r) ?_ ?_
 ·intro c H' R k r;exists _,rfl,_,_,rfl,rfl;rw[Hu];exact r _<|Same.refl _
 intro H2 k2 r2;exists D,_,rfl,SqL.of r2,(AF _ _).1,_,rfl;rw[(AF _ _).2,ef];cases h2:(b_ t.cps.toList).all gx with
 |false=>
  have e:((b_ t.cps.toList).any λc=>!gx c)=true:=by
   rw[Ul];simp only [Su];rw[h2];rfl
  rw[e];exact aJ ⟨(by show 1<=sizeLine;decide),qe (jA<|.inr<|.inl h2) _ k2⟩
 |true=>
  have e:((b_ t.cps.toList).any λc=>!gx c)=false:=by
   rw[Ul];simp only [Su];rw[h2];rfl
  rw[e];refine aI ?_;exists _,rfl,.str fg,_,rfl,⟨MD hl (by decide),rfl⟩,_,_,rfl,rfl,_,rfl;by_cases h3:9 < (b_ t.cps.toList).length
  ·rw[Ma<|by lia];exact aJ ⟨(by show 1<=sizeLine;decide),qe (jA<|.inr<|.inr<|.inl h3) _ k2⟩
  rw[LW<|by lia];refine aI ?_;obtain⟨c,r,hcr⟩:=SZ h1;refine⟨_,rfl,.inr<|.inr ⟨fg,0,c,rfl,rfl,MD hl (by decide),by rw[ef,hcr];exact dL,.inl ⟨rfl,_,rfl,?_⟩⟩⟩;rw[lE];by_cases h4:c=48/\t.cps.toList≠[48]
  ·rw[Ma<|by rw[h4.1];decide+kernel];refine aJ ⟨_,rfl,.inl ⟨rfl,_,rfl,?_⟩⟩;rw[lE,LW<|by rw[show(G' "0").cps.toList=[48]from by decide+kernel];exact h4.2];exact aJ ⟨(by show 1<=sizeLine;decide),qe (jA<|.inr<|.inr<|.inr ⟨by rw[hcr,h4.1];rfl,h4.2⟩) _ k2⟩
  have hs:=AG h1 h2 (by lia) λz=>h4 ⟨by rw[hcr]at z;exact MC z.1,z.2⟩;obtain⟨i1,i2⟩:=AE hs;have S6:Da (IS (λxs H Q=>∃a n,xs=[V.str a]/\intText? a=A' n/\a.length<=640/\Q (V.int n) H)<|iS (gZ 0) qW) {nx:=λ_ H'=>Q .non H',rt:=Q} [A'<|.str t,A'<|.str fg] H2:=⟨_,rfl,t,_,rfl,i1,by lia,q _ hs _ k2⟩;refine jS (λc1=>⟨_,rfl,.inl ⟨rfl,_,rfl,?_⟩⟩) λc1=>aI S6;rw[lE];have c1':c=48:=by
   have:=My c1;rw[show(G' "0").cps.toList=[48]from by decide+kernel]at this;exact(Qn this).1
  rw[Ma<|by rw[show(G' "0").cps.toList=[48]from by decide+kernel];exact Te λz=>h4 ⟨c1',z⟩];exact aI S6
abbrev Ie:NN:=cZ 31
abbrev qJ:NN:=cZ 32
abbrev qK:NN:=cZ 33
def qL(CN:LJ):Sp:=λvs H Q E=>∃(p:LJ) (ss:gV Str),vs=[.ref p]/\H p=A' (.lst<|ss.map V.str)/\ss.length<=1000000/\(∀s∈ss,s.length<=1000000)/\
 (∀ns,ge fG ss=A' ns->∀D H',Same H H'->H' D=A' (.lst<|ns.map V.int)->Q (.ref D) H')/\(ge fG ss=LL->∀H',Same H H'->E (.ref CN) LL H')
def Cr(CN:LJ):Sp:=λvs H Q E=>∃row:Str,vs=[.str row]/\row.length<=900000/\
 (∀c,wf row=A' c->∀D H',Same H H'->H' D=A' (.tup<|c.map V.int)->Q (.ref D) H')/\(wf row=LL->∀H',Same H H'->E (.ref CN) LL H')
def nK(CN:LJ):Sp:=λvs H Q E=>∃row:Str,vs=[.str row]/\row.length<=900000/\(∀t,kU row=A' t->Q (.str t) H)/\(kU row=LL->E (.ref CN) LL H)
def EO(CN:LJ):Sp:=λvs H Q E=>∃x:Str,vs=[.str x]/\x.length<=800000/\
 (∀t cs,mQ x=A' (t,cs)->∀p q xs H',Same H H'->H q=LL->H' p=A' (.tup [.str t,.ref q])->H' q=A' (.lst xs)->CLs H' cs xs->Q (.ref p) H')/\(mQ x=LL->∀H',Same H H'->E (.ref CN) LL H')
structure Ke (K:K')(mg:Str->LH LF)(CN:LJ):Prop where
 g_NO_TURNS:fm mg "NO_TURNS" (.str<|G' "-")
 m_NoText:mg "NoText"=A' (.ref CN)
 x_NoText:Qm K CN [.type "ValueError",.type "Exception",.type "BaseException",.type "object"] "ValueError.__new__"=LI
theorem xo:aq ["pieces"] ["pieces"] (aj vA):=⟨rfl,rfl,rfl,by decide+kernel,rfl,by decide+kernel,by decide+kernel⟩
theorem Cs(F:Fun K "read_numbers" "read_numbers" vA f fd)(ZS:zb P w K mg base 1 "read_number" f1 d1 ["piece"] (Cp CN)):FnOk P w K mg base (fF P w) 2 f fd ["pieces"] (qL CN):=by
 have sc:=xo;refine F.okX xo (λvs H Q E h=>?_) λOT A outer s H vs Q E hr h=>?_
 ·obtain⟨p,ss,rfl,_⟩:=h;rfl
 obtain⟨p,ss,rfl,hp,hl,hz,q,qe⟩:=h;exists _,(ah<|ao<|mL (NY:=["piece"]) (idx:=[LL]) ⟨by with_unfolding_all rfl,(by with_unfolding_all exact trivial),λ_=>by rfl,by rfl,by rfl,by rfl,by decide⟩ (bw<|pv 0) (λ_ _ _ _=>(aE (i:=0) (show Nf (["piece"]:gV Str) by decide+kernel) rfl<|MA rfl)) (λ_ _ _ _=>bJ) λ_ _ _ _=>(qh ZS hr (by lia) rfl<|aa (pv 0) ae));refine⟨_,rfl,p,rfl,⟨_,SqL.of hp⟩,λD hD=>?_⟩;refine bO (K:=K) (a:=p) (xs:=ss.map V.str) (λi σ ys H2=>(∃v0,σ=[v0])/\H2 D=A' (.lst ys)/\Same H H2/\ys=((ss.take i).filterMap fG).map V.int/\∀a∈ss.take i,(fG a).isSome=LI) ⟨⟨LL,rfl⟩,ad,ag hD _,rfl,λ_ z=>nomatch z⟩ ?_ ?_ ?_
 ·rintro i σ ys H2 _ ⟨_,g1,g2,_⟩;exact⟨g1,SqL.of<|g2 _ _ hp⟩
 ·rintro i x σ ys H2 hx ⟨⟨v0,rfl⟩,g1,g2,g3,g4⟩;rw[Mp]at hx;obtain⟨a,ha,rfl⟩:=NW.mp hx;have V3:i < ss.length:=(LS.mp ha).1;have ham:=LZ ha;refine bS ⟨_,rfl,a,rfl,hz a ham,λn hn H3 k3=>⟨k3 _ _ g1,?_,⟨_,rfl⟩,ad,(g2.trans k3).upd_new hD _,?_,mP ha g4<|by rw[hn];rfl⟩,λhn H3 k3=>qe (mM ham hn) _<|g2.trans k3⟩
  ·rw[g3,J'];exact cB (MD (mO i)<|by lia)
  ·rw[j_ ha hn,Mq,g3];rfl
 ·rintro σ ys H2 ⟨_,g1,g2,g3,g4⟩;rw[J',L8<|LQ _]at g3 g4;exact q _ (qi g4) D H2 g2 (by rw[g1,g3])
theorem Gd:aq ["row","numbers"] ["row"] (aj Ie):=⟨rfl,rfl,rfl,by decide+kernel,rfl,by decide+kernel,by decide+kernel⟩
theorem Ig(F:Fun K "read_clause" "read_clause" Ie f fd)(T:Kd K mg CN)(TM:zb P w K mg base 2 "read_numbers" f1 d1 ["pieces"] (qL CN)):FnOk P w K mg base (fF P w) 3 f fd ["row"] (Cr CN):=by
 have sc:=Gd;refine F.okX Gd (λvs H Q E h=>?_) λOT A outer s H vs Q E hr h=>?_
 ·obtain⟨row,rfl,_⟩:=h;rfl
 obtain⟨row,rfl,hz,q,qe⟩:=h;have hu:=hr.units;refine⟨_,(af (au (i:=1) sc.nd rfl (MA rfl)<|uA TM hr (by lia) rfl<|aa (cv NF OE Qb jz (pv 0)<|aa aH ae) ae)
  (af (aS (ay (ic hu) (av am (pv 1) (fk c7 ai) λ_ _=>rfl) ai<|aB _) (ah<|eU T.x_NoText NI T.m_NoText rfl<|aa aH ae) aA)
  (ah<|ao<|bg cn rfl T.tuple Nm<|aa (eJ iB (pv 1) gG<|fu<|fk c7 ai) ae))),?_⟩
 refine⟨_,rfl,rfl,row,G' " ",rfl,rfl,(by decide+kernel),(by lia),λl hl=>?_⟩;have Xb:=Pr row<|G' " ";refine⟨l,_,rfl,ad,(by lia),λs hs=>MD (gK hs) (by lia),λns Xa D H1 k1 hD=>?_,λhn H1 k1=>qe (by unfold wf;rw[hn];rfl) _<|(ag hl _).trans k1⟩;have k1':=(ag hl<|.lst<|(Nq row<|G' " ").map V.str).trans k1;have S7:ns≠[]:=λz=>by
  have hp:=Qd row<|G' " ";obtain⟨a,r,e⟩:=OY hp;obtain⟨b,_,hb⟩:=AH Xa (a:=a) (by rw[e];exact L9);rw[z]at hb;cases hb
 have ahz:ns.map V.int≠[]:=λz=>S7<|PX.mp z;refine⟨_,rfl,1,rfl,.inl ⟨D,_,_,_,rfl,rfl,SqL.of hD,Ec ahz,?_⟩⟩;rw[List.getLast_map];refine .inl ⟨rfl,_,rfl,?_⟩;by_cases h0:ns.getLast S7=0
 ·rw[h0];refine Ls rfl ?_;refine⟨_,rfl,1,rfl,_,rfl,D,_,rfl,SqL.of hD,λp2 Xc=>⟨p2,_,rfl,.inl ⟨SqL.of ad,λp3 hp3=>?_⟩⟩⟩;have k3:=k1'.trans<|(ag Xc<|.lst<|cQ (ns.map V.int) LL<|A' (-1)).trans<|ag hp3<|.tup<|cQ (ns.map V.int) LL<|A' (-1);refine q ns.dropLast (by unfold wf;rw[Xa];show(if _ then _ else _)=_;rw[Ml<|by rw[R4 S7,h0]]) p3 _ k3 ?_;rw[ad,AI,W5]
 ·rw[LW λz=>h0<|V.int.inj z];refine aJ ⟨(by show 1<=sizeLine;decide),qe ?_ _ k1'⟩;unfold wf;rw[Xa];show(if _ then _ else _)=_
  rw[Mi<|by rw[R4 S7];exact λz=>h0<|MC z]
theorem tR:aq ["row"] ["row"] (aj qJ):=⟨rfl,rfl,rfl,by decide+kernel,rfl,by decide+kernel,by decide+kernel⟩
theorem yW(F:Fun K "read_turns" "read_turns" qJ f fd)(T:Ke K mg CN):FnOk P w K mg base (fF P w) 1 f fd ["row"] (nK CN):=by
 have sc:=tR;refine F.okX tR (λvs H Q E h=>?_) λOT A outer s H vs Q E hr h=>?_
 ·obtain⟨row,rfl,_⟩:=h;rfl
 obtain⟨row,rfl,hz,q,qe⟩:=h;have hu:=hr.units;refine⟨_,(af (aS (cj<|hU (pv 0) λ_=>rfl) (ah<|eU T.x_NoText NI T.m_NoText rfl<|aa aH ae) aA)
  (ah<|ao<|eF (ay (aX hu) (pv 0) (aM rfl T.g_NO_TURNS)<|aB _) aH<|pv 0)),?_⟩
 have hl:row.cps.toList.length=row.length:=Mr;exists _,rfl,_,⟨MD hz (by decide),rfl⟩;by_cases h0:row.cps.toList=[]
 ·have e:((row.length:Int) != 0)=false:=by rw[<-hl,h0];rfl
  rw[e];exact aJ ⟨(by show 1<=sizeLine;decide),qe<|Ml h0⟩
 ·have e:((row.length:Int) != 0)=true:=by
   have:=OL.mpr h0;rw[Yh];lia
  rw[e];refine aI ⟨_,rfl,.inl ⟨rfl,_,rfl,?_⟩⟩;have q':=q _<|Mi h0;rw[lE,show(G' "-").cps.toList=[45]from by decide+kernel];by_cases h1:row.cps.toList=[45]
  ·rw[Ml h1]at q';rw[Ma h1];exact aJ q'
  ·rw[Mi h1]at q';rw[LW h1];exact aI ⟨_,rfl,q'⟩
theorem Ct(h:Nq x (G' "\n")=r::rs):mQ x=(kU r).bind λt=>(ge wf rs).bind λcs=>if fo (eO t cs)=LI then A' (t,cs)else none:=by
 unfold mQ;rw[h];rfl
theorem xp:aq ["text","rows","sentence"] ["text"] (aj qK):=⟨rfl,rfl,rfl,by decide+kernel,rfl,by decide+kernel,by decide+kernel⟩
theorem Cu(F:Fun K "read_sentence" "read_sentence" qK f fd)(T:Kd K mg CN)(U':zb P w K mg base 1 "read_turns" f1 d1 ["row"] (nK CN))(Ur:zb P w K mg base 3 "read_clause" f2 d2 ["row"] (Cr CN))(Us:Fn P w K mg base 3 "is_sentence" f3 d3 ["thing"] nJ):
  FnOk P w K mg base (fF P w) 4 f fd ["text"] (EO CN):=by
 have sc:=xp;refine F.okX xp (λvs H Q E h=>?_) λOT A outer s H vs Q E hr h=>?_
 ·obtain⟨x,rfl,_⟩:=h;rfl
 obtain⟨x,rfl,hz,q,qe⟩:=h;have hu:=hr.units;refine⟨_,(af (au (i:=1) sc.nd rfl (MA rfl)<|cv NF OE Qb jz (pv 0)<|aa aH ae)
  (af (au (i:=2) sc.nd rfl (MA rfl)<|bx<|aa (uA U' hr (by lia) rfl<|aa (av am (pv 1) ai λ_ _=>rfl) ae)<|aa (mL (NY:=["row"]) (idx:=[LL]) ⟨by with_unfolding_all rfl,(by with_unfolding_all exact trivial),λ_=>by rfl,by rfl,by rfl,by rfl,by decide⟩ (bw<|eJ iB (pv 1) (fu ai) gG) (λ_ _ _ _=>(aE (i:=0) (show Nf (["row"]:gV Str) by decide+kernel) rfl<|MA rfl)) (λ_ _ _ _=>bJ) λ_ _ _ _=>(qh Ur hr (by lia) rfl<|aa (pv 0) ae)) ae)
  (af (aS (cj<|bD<|aG Us hr (by lia) rfl<|aa (pv 2) ae) (ah<|eU T.x_NoText NI T.m_NoText rfl<|aa aH ae) aA)
  (ah<|ao<|pv 2)))),?_⟩
 refine⟨_,rfl,rfl,x,G' "\n",rfl,rfl,(by decide+kernel),(by lia),λl hl=>?_⟩;have Xb:=Pr x<|G' "\n";have Uo:∀s∈Nq x (G' "\n"),s.length<=800000:=λs hs=>MD (gK hs) hz;obtain⟨r,rs,es⟩:=OY<|Qd x<|G' "\n";have hof:=Ct es;rw[es]at Xb Uo ⊢;have k1:Same H (upd H l<|.lst<|(r::rs).map V.str):=ag hl _;have Sx:upd H l (.lst<|(r::rs).map V.str) l=A' (.lst<|(r::rs).map V.str):=ad;generalize upd H l (.lst<|(r::rs).map V.str)=H1 at k1 Sx ⊢;have hrl:=Uo r L9;refine⟨_,rfl,.inl ⟨l,_,0,.str r,rfl,rfl,SqL.of Sx,dL,?_⟩⟩;refine⟨r,rfl,by lia,λt ht=>?_,λht=>qe (by rw[hof,ht];rfl) _ k1⟩;refine⟨_,rfl,1,rfl,l,_,rfl,SqL.of Sx,λp2 Xc=>?_⟩;have ect:cQ ((r::rs).map V.str) (A' 1) LL=rs.map V.str:=mR _ (by rw[J'];lia);rw[ect];have k2:Same H (upd H1 p2<|.lst<|rs.map V.str):=k1.trans<|ag Xc _;have Up:upd H1 p2 (.lst<|rs.map V.str) p2=A' (.lst<|rs.map V.str):=ad;generalize upd H1 p2 (.lst<|rs.map V.str)=H2 at k2 Up ⊢;refine⟨p2,rfl,⟨_,SqL.of Up⟩,λD hD=>?_⟩;have nD:H D=none:=k2.free hD;refine bO (K:=K) (a:=p2) (xs:=rs.map V.str) (λi σ ys H3=>(∃v0,σ=[v0])/\H3 D=A' (.lst ys)/\Same H H3/\Same H2 H3/\CLs H3 ((rs.take i).filterMap wf) ys/\∀a∈rs.take i,(wf a).isSome=LI) ⟨⟨LL,rfl⟩,ad,k2.upd_new nD _,ag hD _,.nil,λ_ z=>nomatch z⟩ ?_ ?_ ?_
 ·rintro i σ ys H3 _ ⟨_,g1,g2,g3,_⟩;exact⟨g1,SqL.of<|g3 _ _ Up⟩
 ·rintro i v σ ys H3 hx ⟨⟨v0,rfl⟩,g1,g2,g3,g4,g5⟩;rw[Mp]at hx;obtain⟨a,ha,rfl⟩:=NW.mp hx;have V3:i < rs.length:=(LS.mp ha).1;have ham:=LZ ha;have hal:=Uo a<|LY _ ham;rw[L4]at Xb;refine bS ⟨_,rfl,a,rfl,by lia,λc hc t1 H4 k4 ht1=>?_,λhn H4 k4=>qe (by rw[hof,ht,mM ham hn];rfl) _<|g2.trans k4⟩;have h4:=k4 _ _ g1;refine⟨h4,?_,⟨_,rfl⟩,ad,(g2.trans k4).upd_new nD _,(g3.trans k4).upd_new hD _,?_,mP ha g5<|by rw[hc];rfl⟩
  ·rw[<-g4.length];exact cB (MD (mO i)<|by lia)
  ·rw[j_ ha hc];exact CLs.snoc (CL.upd ⟨t1,rfl,ht1⟩ h4)<|(g4.mono k4).upd h4
 rintro σ ys H3 ⟨_,g1,g2,g3,g4,g5⟩;rw[J',L8<|LQ _]at g4 g5;have aaq:=qi g5;have V4:(rs.filterMap wf).length<=rs.length:=Q1 _ _;generalize rs.filterMap wf=cs at g4 aaq V4;rw[hof,ht,aaq]at q qe;refine⟨(by show 2<=sizeLine;decide),λp5 hp5=>?_⟩;have k5:Same H3 (upd H3 p5<|.tup [.str t,.ref D]):=ag hp5 _;have h5:upd H3 p5 (.tup [.str t,.ref D]) p5=A' (.tup [.str t,.ref D]):=ad;generalize upd H3 p5 (.tup [.str t,.ref D])=H5 at k5 h5 ⊢;have ahl:=jq h5 (k5 _ _ g1)<|g4.mono k5;have htl:t.length<=800000:=by
  unfold kU at ht
  split at ht
  ·cases ht
  ·injection ht with ht;rw[<-ht]
   split
   ·exact Mw _
   ·exact hrl
 refine⟨_,rfl,.ref p5,eO t cs,rfl,ahl,λd0 d1 e=>?_,λH6 k6=>⟨_,rfl,?_⟩⟩
 ·injection e with e;injection e with e1 e;injection e with e2 e;subst e1 e2;refine⟨λt' e=>?_,λes' e=>?_⟩
  ·injection e with e;rw[<-e];lia
  ·injection e with e;rw[<-e,J'];rw[L4]at Xb;lia
 cases hb:fo (eO t cs)with
 |true=>
  refine aI ⟨_,rfl,?_⟩;exact q t cs (by show(if fo (eO t cs)=LI then A' (t,cs)else LL)=_;rw[hb,Ml rfl]) p5 D ys H6 (g2.trans<|k5.trans k6) nD (k6 _ _ h5) (k6 _ _<|k5 _ _ g1)<|(g4.mono k5).mono k6
 |false=>
  refine aJ ⟨(by show 1<=sizeLine;decide),qe ?_ _<|g2.trans<|k5.trans k6⟩;show(if fo (eO t cs)=LI then A' (t,cs)else LL)=_
  rw[hb,Mi<|by nofun]
abbrev Kf:NN:=cZ 10
abbrev Cv:NN:=cZ 34
abbrev Ih:NN:=cZ 35
abbrev xq:NN:=cZ 36
structure Lh (mg:Str->LH LF):Prop where
 isinstance:mg "isinstance"=LL
 tuple:mg "tuple"=LL
 len:mg "len"=LL
 abs:mg "abs"=LL
 max:mg "max"=LL
 g_WISHER:fm mg "WISHER" (.str<|G' "wisher")
 g_SPOILER:fm mg "SPOILER" (.str<|G' "spoiler")
structure EQ (K:K')(mg:Str->LH LF)(CN:LJ):Prop where
 tuple:mg "tuple"=LL
 g_WISHER:fm mg "WISHER" (.str<|G' "wisher")
 g_SPOILER:fm mg "SPOILER" (.str<|G' "spoiler")
 m_NoText:mg "NoText"=A' (.ref CN)
 x_NoText:Qm K CN [.type "ValueError",.type "Exception",.type "BaseException",.type "object"] "ValueError.__new__"=LI
def Ge:Sp:=λvs H Q _=>∃(p:LJ) (w x:Str) (xs:gV V) (m:Int),vs=[.ref p,.str x,.int m]/\H p=A' (.tup<|.str w::xs)/\Q (.bl (decide ((xs.length:Int)+1=m)&&decide (V.str w=V.str x))) H
def Cw:Sp:=λvs H Q _=>∃(v:V) (L:Ln) (hd:Str),vs=[v,.str hd]/\LnA H L v/\L.2.length<=900000/\(∀n∈L.2,absI n < 1000000000)/\∀H',Same H H'->Q (.bl<|ft hd L.1 L.2) H'
def Cy(CN:LJ):Sp:=λvs H Q E=>∃row hd:Str,vs=[.str row,.str hd]/\row.length<=800000/\(∀L,iX hd row=A' L->∀p H',Same H H'->LnA H' L (.ref p)->Q (.ref p) H')/\(iX hd row=LL->∀H',Same H H'->E (.ref CN) LL H')
def Ii(CN:LJ):Sp:=λvs H Q E=>∃x:Str,vs=[.str x]/\x.length<=800000/\
 (∀h ls,ke x=A' (h,ls)->∀p q xs H',Same H H'->H q=LL->H' p=A' (.tup [.str h,.ref q])->H' q=A' (.lst xs)->LnAs H' ls xs->Q (.ref p) H')/\(ke x=LL->∀H',Same H H'->E (.ref CN) LL H')
theorem Cz(r:Str):gY (.str r) [.str<|G' "wisher",.str<|G' "spoiler"]=(bE r "wisher" || bE r "spoiler"):=by
 have key:∀a,(a == r)=decide (V.str r=V.str a):=λa=>by
  rw[NB,Pf,MQ];exact⟨λz=>by rw[z],λz=>(V.str.inj z).symm⟩
 show((G' "wisher" == r) || ((G' "spoiler" == r) || LM))=_
 rw[key,key,Q3];rfl
theorem Gf:aq ["thing","word","many"] ["thing","word","many"] (aj Kf):=⟨rfl,rfl,rfl,by decide+kernel,rfl,by decide+kernel,by decide+kernel⟩
theorem Ij(F:Fun K "begins_with" "begins_with" Kf f fd)(T:Lh mg):FnOk P w K mg base b7 1 f fd ["thing","word","many"] Ge:=by
 have sc:=Gf;refine F.ok Gf (λvs H Q E h=>?_) λOT A outer s H vs Q E hr h=>?_
 ·obtain⟨p,w,x,xs,m,rfl,_⟩:=h;rfl
 obtain⟨p,w,x,xs,m,rfl,hp,q⟩:=h;have hu:=hr.units;exists _,(ah<|ao<|dm (aw cx rfl T.isinstance NA<|aa (pv 0)<|aa (fQ (v:=.ty "tuple") rfl T.tuple Nm rfl) ae)<|dm (aY (aX hu) (aw bh rfl T.len M7<|aa (pv 0) ae) (pv 2)<|aB _)<|fh<|aY (aX hu) (av am (pv 0) ai λ_ _=>rfl) (pv 1)<|aB _);refine⟨_,rfl,.ref p,_,"tuple",LI,rfl,.tup hp,aV LE,LI,rfl,aJ ?_⟩;refine⟨_,rfl,.ref p,_,rfl,.inr ⟨_,SqT.of hp,rfl⟩,_,rfl,.inl ⟨rfl,_,rfl,?_⟩⟩;have e:decide (V.int ((V.str w::xs).length:Int)=V.int m)=decide ((xs.length:Int)+1=m):=OU.mpr ⟨λz=>by have:=V.int.inj z;rw[L4]at this;lia,λz=>by rw[L4];exact M0 V.int<|by lia⟩;rw[e];cases hb:decide ((xs.length:Int)+1=m)with
 |false=>
  rw[hb]at q;exact aI q
 |true=>
  rw[hb]at q;exact aJ ⟨_,rfl,.inr<|.inl ⟨p,_,0,.str w,rfl,rfl,SqT.of hp,dL,_,rfl,.inl ⟨rfl,q⟩⟩⟩
theorem CA:aq ["line","hand"] ["line","hand"] (aj Cv):=⟨rfl,rfl,rfl,by decide+kernel,rfl,by decide+kernel,by decide+kernel⟩
theorem ER{w hd:Str}{ns:gV Int}(b1:(decide ((ns.length:Int)+1=4)&&bE w "join")=LM)(b2:(decide ((ns.length:Int)+1=2)&&bE w "given")=LM)(b3:(decide ((ns.length:Int)+1=2)&&bE w "drop")=LM):JO w hd ns=false:=by
 unfold JO
 split
 ·rw[show decide ((([_]:gV Int).length:Int)+1=2)=LI from by rfl,Q2]at b2 b3;rw[b2,b3];simp
 ·rw[show decide ((([_,_,_]:gV Int).length:Int)+1=4)=LI from by rfl,Q2]at b1;rw[b1];rfl
 ·rfl
theorem CC{ns:gV Int}(h:(ns.length:Int)+1=2):∃a,ns=[a]:=by
 match ns,h with
 |[a],_=>exact⟨a,rfl⟩
 |[],h=>exact absurd h (by decide)
 |_::_::r,h=>exact absurd h (by rw[L4,L4];lia)
theorem CD{ns:gV Int}(h:(ns.length:Int)+1=4):∃a b c,ns=[a,b,c]:=by
 match ns,h with
 |[a,b,c],_=>exact⟨a,b,c,rfl⟩
 |[],h=>exact absurd h (by decide)
 |[_],h=>exact absurd h (by rw[L4,OO];lia)
 |[_,_],h=>exact absurd h (by rw[L4,L4,OO];lia)
 |_::_::_::_::r,h=>exact absurd h (by rw[L4,L4,L4,L4];lia)
theorem ES(F:Fun K "is_line" "is_line" Cv f fd)(T:Lh mg)(Py:Fn P w K mg base 1 "begins_with" f1 d1 ["thing","word","many"] Ge)(WB:Fn P w K mg base 2 "is_set" f2 d2 ["thing","most"] wt):FnOk P w K mg base b7 3 f fd ["line","hand"] Cw:=by
 have sc:=CA;refine F.ok CA (λvs H Q E h=>?_) λOT A outer s H vs Q E hr h=>?_
 ·obtain⟨v,L,hd,rfl,_⟩:=h;rfl
 obtain⟨v,L,hd,rfl,hL,hl,hn,q⟩:=h;have hu:=hr.units;obtain⟨p,rfl,hL⟩:=hL;obtain⟨w,ns⟩:=L;dsimp only at hL hl hn q;refine⟨_,(af (aS (ay (aX hu) (av am (pv 0) ai λ_ _=>rfl) aH<|aB _) (ah<|ao<|dm (aY (aX hu) (pv 1) (aM rfl T.g_WISHER)<|aB _)<|fh<|aG WB hr (by lia) rfl<|aa (av am (pv 0) ai λ_ _=>rfl)<|aa (v8 rfl rfl T.max (bp (NY:=["literal"]) (idx:=[LL]) rfl ⟨by with_unfolding_all rfl,(by with_unfolding_all exact trivial),λ_=>by rfl,by rfl,by rfl,by rfl,by decide⟩ (fC<|av am (pv 0) ai λ_ _=>rfl) (λ_ _ _ _=>(aE (i:=0) (show Nf (["literal"]:gV Str) by decide+kernel) rfl<|MA rfl)) (λ_ _ _ _=>bJ) λ_ _ _ _=>(aw cP rfl T.abs Np<|aa (pv 0) ae)) ai) ae) aA)
  (af (aS (bD<|aG Py hr (by lia) rfl<|aa (pv 0)<|aa aH<|aa ai ae) (ah<|ao<|dm (aY qU (av am (pv 0) ai λ_ _=>rfl) ai<|aB _)<|dm (aY qU (av am (pv 0) ai λ_ _=>rfl) ai<|aB _)<|fh<|aY qU (av am (pv 0) ai λ_ _=>rfl) ai<|aB _) aA)
  (af (aS (bD<|aG Py hr (by lia) rfl<|aa (pv 0)<|aa aH<|aa ai ae) (ah<|ao<|dm (aY (aX hu) (pv 1) (aM rfl T.g_SPOILER)<|aB _)<|fh<|aY qU (av am (pv 0) ai λ_ _=>rfl) ai<|aB _) aA)
  (ah<|ao<|dm (aG Py hr (by lia) rfl<|aa (pv 0)<|aa aH<|aa ai ae)<|fh<|aY qU (av am (pv 0) ai λ_ _=>rfl) ai<|aB _)))),?_⟩
 obtain⟨e,qa,hp,hq⟩|⟨e,hp⟩:=hL
 ·have eB:ft hd w ns=(bE hd "wisher"&&fO 1000000000 0 (ns.map NV)):=Ml e;rw[eB]at q;refine⟨_,rfl,.inr<|.inl ⟨p,_,0,.str w,rfl,rfl,SqT.of hp,rfl,.inl ⟨rfl,_,rfl,?_⟩⟩⟩;rw[show decide (V.str w=V.str (G' "hits"))=LI from e];refine aJ ⟨_,rfl,.inl ⟨rfl,_,rfl,?_⟩⟩;rw[show decide (V.str hd=V.str (G' "wisher"))=bE hd "wisher" from rfl];cases hw:bE hd "wisher" with
  |false=>
   rw[hw]at q;exact aI<|q H<|Same.refl _
  |true=>
  rw[hw]at q;refine aJ ⟨_,rfl,.inr<|.inl ⟨p,_,1,.ref qa,rfl,rfl,SqT.of hp,rfl,?_⟩⟩;refine⟨_,rfl,.inr<|.inl ⟨p,_,1,.ref qa,rfl,rfl,SqT.of hp,rfl,qa,rfl,⟨_,SqT.of hq⟩,λD hD=>?_⟩⟩;refine jo (K:=K) (a:=qa) (xs:=ns.map V.int) (λi σ ys H2=>(∃v0,σ=[v0])/\ys=((ns.take i).map absI).map V.int/\H2=upd H D (.lst ys)) ⟨⟨LL,rfl⟩,rfl,rfl⟩ ?_ ?_ ?_
  ·rintro i σ ys H2 _ ⟨_,_,rfl⟩;exact⟨ad,SqT.of<|by rw[al<|ak hq hD];exact hq⟩
  ·rintro i x σ ys H2 hx ⟨⟨v0,rfl⟩,rfl,rfl⟩;obtain⟨z,rfl,hz⟩:=dh hx;have V3:i < ns.length:=(LS.mp hz).1;refine bS ⟨_,rfl,z,rfl,ad,?_,⟨_,rfl⟩,?_,ee⟩
   ·rw[J',J',ME];exact cB (by lia)
   ·rw[MM,hz,Mq,Mq];rfl
  rintro σ ys H2 ⟨_,rfl,rfl⟩;rw[J',L8<|LQ _];have k2:Same H (upd H D<|.lst<|(ns.map absI).map V.int):=ag hD _;have S6:∀m,(∀n∈ns,absI n<=m)->Q (.bl<|ij m<|fN ns) (upd H D<|.lst<|(ns.map absI).map V.int):=λm hm=>by
   have e2:ij m (fN ns)=fO 1000000000 0 (ns.map NV):=oY hm λn hn'=>W8<|hn n hn';rw[e2];exact q _ k2
  have rdq:RD (upd H D<|.lst<|(ns.map absI).map V.int) (fN ns) (.ref qa):=bB (k2 _ _ hq)<|ib _;refine⟨D,_,rfl,SqL.of ad,λe0=>⟨.ref qa,fN ns,0,rfl,rdq,S6 0 λn hn'=>?_⟩,λM _ hM=>⟨.ref qa,fN ns,M,rfl,rdq,S6 M λn hn'=>hM _<|MF.mpr ⟨n,hn',rfl⟩⟩⟩;rw[PX.mp e0]at hn';cases hn'
 ·have eB:ft hd w ns=JO w hd ns:=Mi (by rw[e];nofun);rw[eB]at q;have hml:((ns.map V.int).length:Int)=ns.length:=by rw[J']
  refine⟨_,rfl,.inr<|.inl ⟨p,_,0,.str w,rfl,rfl,SqT.of hp,dL,.inl ⟨rfl,_,rfl,?_⟩⟩⟩;rw[show decide (V.str w=V.str (G' "hits"))=LM from e];refine aI ⟨_,rfl,p,w,_,ns.map V.int,4,rfl,hp,_,rfl,?_⟩;rw[hml,show decide (V.str w=V.str (G' "join"))=bE w "join" from rfl];cases b1:(decide ((ns.length:Int)+1=4)&&bE w "join")with
  |true=>
   obtain⟨b1a,b1b⟩:=NU.mp b1;obtain⟨a,b,c,rfl⟩:=CD<|My b1a;have q':Q (.bl<|bE w "join"&&(decide (0<=a)&&(decide (0<=b)&&decide (1<=c)))) H:=q H<|Same.refl _;rw[b1b,Q2]at q';refine aJ ⟨_,rfl,.inr<|.inl ⟨p,_,1,.int a,rfl,rfl,SqT.of hp,rfl,_,_,rfl,rfl,_,rfl,?_⟩⟩;refine jS (λc1=>?_) λc1=>?_
   ·rw[c1]at q';refine⟨_,rfl,.inr<|.inl ⟨p,_,2,.int b,rfl,rfl,SqT.of hp,rfl,_,_,rfl,rfl,_,rfl,?_⟩⟩;refine jS (λc2=>?_) λc2=>?_
    ·rw[c2]at q';exact⟨_,rfl,.inr<|.inl ⟨p,_,3,.int c,rfl,rfl,SqT.of hp,rfl,_,_,rfl,rfl,q'⟩⟩
    ·rw[Um]at c2;rw[c2]at q';exact q'
   ·rw[Um]at c1;rw[c1]at q';exact q'
  |false=>
  refine aI ⟨_,rfl,p,w,_,ns.map V.int,2,rfl,hp,_,rfl,?_⟩;rw[hml,show decide (V.str w=V.str (G' "given"))=bE w "given" from rfl];cases b2:(decide ((ns.length:Int)+1=2)&&bE w "given")with
  |true=>
   obtain⟨b2a,b2b⟩:=NU.mp b2;obtain⟨a,rfl⟩:=CC<|My b2a;have q':Q (.bl (decide (0<=a)&&((bE w "given"&&bE hd "spoiler") || bE w "drop"))) H:=q H<|Same.refl _;rw[b2b,Ee b2b (y:="drop") (by decide+kernel),Q3,Q2]at q';refine aJ ⟨_,rfl,.inl ⟨rfl,_,rfl,?_⟩⟩;rw[show decide (V.str hd=V.str (G' "spoiler"))=bE hd "spoiler" from rfl];cases hs:bE hd "spoiler" with
   |false=>
    rw[hs,On]at q';exact aI q'
   |true=>
    rw[hs,VZ]at q';exact aJ ⟨_,rfl,.inr<|.inl ⟨p,_,1,.int a,rfl,rfl,SqT.of hp,rfl,_,_,rfl,rfl,q'⟩⟩
  |false=>
  refine aI ⟨_,rfl,p,w,_,ns.map V.int,2,rfl,hp,_,rfl,?_⟩;rw[hml,show decide (V.str w=V.str (G' "drop"))=bE w "drop" from rfl];cases b3:(decide ((ns.length:Int)+1=2)&&bE w "drop")with
  |true=>
   obtain⟨b3a,b3b⟩:=NU.mp b3;obtain⟨a,rfl⟩:=CC<|My b3a;have q':Q (.bl (decide (0<=a)&&((bE w "given"&&bE hd "spoiler") || bE w "drop"))) H:=q H<|Same.refl _;rw[b3b,W9,VZ]at q';exact aJ ⟨_,rfl,.inr<|.inl ⟨p,_,1,.int a,rfl,rfl,SqT.of hp,rfl,_,_,rfl,rfl,q'⟩⟩
  |false=>
   have q':=q H<|Same.refl _;rw[ER b1 b2 b3]at q';exact aI q'
theorem Gg:aq ["row","hand","pieces","numbers","line"] ["row","hand"] (aj Ih):=⟨rfl,rfl,rfl,by decide+kernel,rfl,by decide+kernel,by decide+kernel⟩
theorem Ik(F:Fun K "read_line" "read_line" Ih f fd)(T:EQ K mg CN)(TM:zb P w K mg base 2 "read_numbers" f1 d1 ["pieces"] (qL CN))(acJ:Fn P w K mg base 3 "is_line" f2 d2 ["line","hand"] Cw):FnOk P w K mg base (fF P w) 4 f fd ["row","hand"] (Cy CN):=by
 have sc:=Gg;refine F.okX Gg (λvs H Q E h=>?_) λOT A outer s H vs Q E hr h=>?_
 ·obtain⟨row,hd,rfl,_⟩:=h;rfl
 obtain⟨row,hd,rfl,hz,q,qe⟩:=h;have hu:=hr.units;refine⟨_,(af (au (i:=2) sc.nd rfl (MA rfl)<|cv NF OE Qb jz (pv 0)<|aa aH ae)
  (af (au (i:=3) sc.nd rfl (MA rfl)<|uA TM hr (by lia) rfl<|aa (eJ iB (pv 2) (fu ai) gG) ae)
  (af (au (i:=4) sc.nd rfl (MA rfl)<|eF (ay (aX hu) (av am (pv 2) ai λ_ _=>rfl) aH<|aB _) (bx<|aa (av am (pv 2) ai λ_ _=>rfl)<|aa (bg cn rfl T.tuple Nm<|aa (pv 3) ae) ae)<|bg cn rfl T.tuple Nm<|aa (aU pO (bY<|aa (av am (pv 2) ai λ_ _=>rfl) ae)<|pv 3) ae)
  (af (aS (cj<|bD<|aG acJ hr (by lia) rfl<|aa (pv 4)<|aa (pv 1) ae) (ah<|eU T.x_NoText NI T.m_NoText rfl<|aa aH ae) aA)
  (ah<|ao<|pv 4))))),?_⟩
 refine⟨_,rfl,rfl,row,G' " ",rfl,rfl,(by decide+kernel),(by lia),λl hl=>?_⟩;have Xb:=Pr row<|G' " ";have Uo:∀s∈Nq row (G' " "),s.length<=800000:=λs hs=>MD (gK hs) hz;obtain⟨w,ps,es⟩:=OY<|Qd row<|G' " ";have hof:=sm (hd:=hd) es;rw[es]at Xb Uo ⊢;rw[L4]at Xb;have k1:Same H (upd H l<|.lst<|(w::ps).map V.str):=ag hl _;have Sx:upd H l (.lst<|(w::ps).map V.str) l=A' (.lst<|(w::ps).map V.str):=ad;generalize upd H l (.lst<|(w::ps).map V.str)=H1 at k1 Sx ⊢;refine⟨_,rfl,1,rfl,l,_,rfl,SqL.of Sx,λp2 Xc=>?_⟩;have ect:cQ ((w::ps).map V.str) (A' 1) LL=ps.map V.str:=mR _ (by rw[J',L4];lia);rw[ect];have k2:Same H (upd H1 p2<|.lst<|ps.map V.str):=k1.trans<|ag Xc _;have Up:=ag Xc (.lst<|ps.map V.str) _ _ Sx;refine⟨p2,ps,rfl,ad,(by lia),λs hs=>MD (Uo s<|LY _ hs) (by decide),λns Xa D H3 k3 hD=>?_,λhn H3 k3=>qe (by rw[hof,hn];rfl) _<|k2.trans k3⟩;have k3':=k2.trans k3;have Zz:=k3 _ _ Up;have hnl:ns.length<=900000:=by
  have:=M0 Oe<|yr Xa;rw[J',J']at this;lia
 have hnb:∀n∈ns,absI n < 1000000000:=λn hn=>by
  unfold ge at Xa
  split at Xa
  ·injection Xa with Xa;rw[<-Xa]at hn;obtain⟨a,_,ha⟩:=M4.mp hn;exact Hx ha
  ·cases Xa
 rw[Xa]at hof;have q':ft hd w ns=LI->∀p H',Same H H'->LnA H' (w,ns) (.ref p)->Q (.ref p) H':=λhb=>q (w,ns) (by rw[hof];show(if ft hd w ns=LI then _ else _)=_;rw[Ml hb]);have qe':ft hd w ns=LM->∀H',Same H H'->E (.ref CN) LL H':=λhb=>qe (by rw[hof];show(if ft hd w ns=LI then _ else _)=_;rw[Mi<|by rw[hb];nofun]);unfold gh;dsimp only;refine lH λN hN=>?_;have key:∀p H4,Same H H4->LnA H4 (w,ns) (.ref p)->N [A'<|.str row,A'<|.str hd,A'<|.ref l,A'<|.ref D,A'<|.ref p] H4:=λp H4 k4 h4=>by
  refine hN _ _ ?_;refine⟨_,rfl,_,rfl,.ref p,(w,ns),hd,rfl,h4,hnl,hnb,λH5 k5=>⟨_,rfl,?_⟩⟩;cases hb:ft hd w ns with
  |true=>exact aI ⟨_,rfl,q' hb p H5 (k4.trans k5)<|h4.mono k5⟩
  |false=>exact aJ ⟨(by show 1<=sizeLine;decide),qe' hb _<|k4.trans k5⟩
 refine⟨_,rfl,.inl ⟨l,_,0,.str w,rfl,rfl,SqL.of Zz,dL,.inl ⟨rfl,_,rfl,?_⟩⟩⟩;rw[show decide (V.str w=V.str (G' "hits"))=bE w "hits" from rfl];cases hw:bE w "hits" with
 |true=>
  refine aJ ⟨_,rfl,.inl ⟨l,_,0,.str w,rfl,rfl,SqL.of Zz,dL,_,rfl,D,_,rfl,.inl ⟨SqL.of hD,λp5 hp5=>⟨(by show 2<=sizeLine;decide),λp6 hp6=>?_⟩⟩⟩⟩;have k5:Same H3 (upd H3 p5<|.tup<|ns.map V.int):=ag hp5 _;have k6:=ag hp6<|.tup [.str w,.ref p5];exact key p6 _ (k3'.trans<|k5.trans k6) ⟨p6,rfl,.inl ⟨hw,p5,ad,k6 _ _ ad⟩⟩
 |false=>
  refine aI ⟨_,rfl,.inl ⟨l,_,0,.str w,rfl,rfl,SqL.of Zz,dL,(by show 1<=sizeLine;decide),λl5 hl5=>?_⟩⟩;have k5:Same H3 (upd H3 l5<|.lst [.str w]):=ag hl5 _;refine⟨_,rfl,l5,D,_,_,rfl,rfl,ad,k5 _ _ hD,?_,λl6 hl6=>?_⟩
  ·rw[J'];exact Nx<|cB (by show 1+ns.length<=_;lia)
  have k6:=ag hl6<|.lst ([.str w]++ns.map V.int);refine⟨l6,_,rfl,.inl ⟨SqL.of ad,λp7 hp7=>?_⟩⟩;have k7:=ag hp7<|.tup ([.str w]++ns.map V.int);exact key p7 _ (k3'.trans<|k5.trans<|k6.trans k7) ⟨p7,rfl,.inr ⟨hw,ad⟩⟩
theorem CG:aq ["text","rows"] ["text"] (aj xq):=⟨rfl,rfl,rfl,by decide+kernel,rfl,by decide+kernel,by decide+kernel⟩
theorem ET(F:Fun K "read_paper" "read_paper" xq f fd)(T:EQ K mg CN)(V5:zb P w K mg base 4 "read_line" f1 d1 ["row","hand"] (Cy CN)):FnOk P w K mg base (fF P w) 5 f fd ["text"] (Ii CN):=by
 have sc:=CG;refine F.okX CG (λvs H Q E h=>?_) λOT A outer s H vs Q E hr h=>?_
 ·obtain⟨x,rfl,_⟩:=h;rfl
 obtain⟨x,rfl,hz,q,qe⟩:=h;have hu:=hr.units;refine⟨_,(af (au (i:=1) sc.nd rfl (Ra rfl)<|cv NF OE Qb jz (pv 0)<|aa aH ae)
  (af (aS (ay cY (av am (pv 1) ai λ_ _=>rfl) (bx<|aa (aM rfl T.g_WISHER)<|aa (aM rfl T.g_SPOILER) ae)<|by with_unfolding_all rfl) (ah<|eU T.x_NoText NI T.m_NoText rfl<|aa aH ae) aA)
  (ah<|ao<|bx<|aa (av am (pv 1) ai λ_ _=>rfl)<|aa (mL (NY:=["row","rows"]) (idx:=[LL,A' 1]) ⟨by with_unfolding_all rfl,(by with_unfolding_all exact⟨rfl,trivial⟩),λ_=>by rfl,by rfl,by rfl,by rfl,by decide⟩ (bw<|eJ iB (pv 1) (fu ai) gG) (λ_ _ _ _=>(aE (i:=0) (show Nf (["row","rows"]:gV Str) by decide+kernel) rfl<|MA rfl)) (λ_ _ _ _=>bJ) λ_ _ _ _=>(qh V5 hr (by lia) rfl<|aa (pv 0)<|aa (av (lA (K:=K) rfl) (pv 1) ai λ_ _=>rfl) ae)) ae))),?_⟩
 refine⟨_,rfl,rfl,x,G' "\n",rfl,rfl,(by decide+kernel),(by lia),λl hl=>?_⟩;have Xb:=Pr x<|G' "\n";have Uo:∀s∈Nq x (G' "\n"),s.length<=800000:=λs hs=>MD (gK hs) hz;obtain⟨r,rs,es⟩:=OY<|Qd x<|G' "\n";have hof:=oW es;rw[es]at Xb Uo ⊢;have k1:Same H (upd H l<|.lst<|(r::rs).map V.str):=ag hl _;have Sx:upd H l (.lst<|(r::rs).map V.str) l=A' (.lst<|(r::rs).map V.str):=ad;generalize upd H l (.lst<|(r::rs).map V.str)=H1 at k1 Sx ⊢;refine⟨_,rfl,.inl ⟨l,_,0,.str r,rfl,rfl,SqL.of Sx,dL,(by show 2<=sizeLine;decide),λp1 hp1=>?_⟩⟩;have k1b:=ag hp1<|.tup [.str<|G' "wisher",.str<|G' "spoiler"];exists p1,_,rfl,.inr<|SqT.of ad,rfl,rfl,_,rfl;generalize upd H1 p1 (.tup [.str<|G' "wisher",.str<|G' "spoiler"])=H2 at k1b ⊢;have k2:Same H H2:=k1.trans k1b;have Up:=k1b _ _ Sx;rw[show(if LI=LI then !gY (V.str r) [.str<|G' "wisher",.str<|G' "spoiler"]else gY (V.str r) [.str<|G' "wisher",.str<|G' "spoiler"])=!gY (V.str r) [.str<|G' "wisher",.str<|G' "spoiler"]from rfl,Cz];cases hh:bE r "wisher" || bE r "spoiler" with
 |false=>exact aJ ⟨(by show 1<=sizeLine;decide),qe (by rw[hof,Mi<|by rw[hh];nofun]) _ k2⟩
 |true=>
 rw[Ml hh]at hof;refine aI ⟨_,rfl,.inl ⟨l,_,0,.str r,rfl,rfl,SqL.of Up,dL,?_⟩⟩;refine⟨_,rfl,1,rfl,l,_,rfl,SqL.of Up,λp2 Xc=>?_⟩;have ect:cQ ((r::rs).map V.str) (A' 1) LL=rs.map V.str:=mR _ (by rw[J'];lia);rw[ect];have k3:Same H (upd H2 p2<|.lst<|rs.map V.str):=k2.trans<|ag Xc _;have Zz:upd H2 p2 (.lst<|rs.map V.str) p2=A' (.lst<|rs.map V.str):=ad;have afq:=ag Xc (.lst<|rs.map V.str) _ _ Up;generalize upd H2 p2 (.lst<|rs.map V.str)=H3 at k3 Zz afq ⊢;refine⟨p2,rfl,⟨_,SqL.of Zz⟩,λD hD=>?_⟩;have nD:H D=none:=k3.free hD;refine bO (K:=K) (a:=p2) (xs:=rs.map V.str) (λi σ ys H4=>(∃v0,σ=[v0,A'<|.ref l])/\H4 D=A' (.lst ys)/\Same H H4/\Same H3 H4/\LnAs H4 ((rs.take i).filterMap<|iX r) ys/\∀a∈rs.take i,(iX r a).isSome=LI) ⟨⟨LL,rfl⟩,ad,k3.upd_new nD _,ag hD _,.nil,λ_ z=>nomatch z⟩ ?_ ?_ ?_
 ·rintro i σ ys H4 _ ⟨_,g1,g2,g3,_⟩;exact⟨g1,SqL.of<|g3 _ _ Zz⟩
 ·rintro i v σ ys H4 hx ⟨⟨v0,rfl⟩,g1,g2,g3,g4,g5⟩;rw[Mp]at hx;obtain⟨a,ha,rfl⟩:=NW.mp hx;have V3:i < rs.length:=(LS.mp ha).1;have ham:=LZ ha;have hal:=Uo a<|LY _ ham;rw[L4]at Xb;refine bS ⟨_,rfl,_,rfl,.inl ⟨l,_,0,.str r,rfl,rfl,SqL.of<|g3 _ _ afq,dL,a,r,rfl,hal,λL hL t1 H5 k5 ht1=>?_,λhn H5 k5=>qe (by rw[hof,mM ham hn];rfl) _<|g2.trans k5⟩⟩;have h5:=k5 _ _ g1;refine⟨h5,?_,⟨_,rfl⟩,ad,(g2.trans k5).upd_new nD _,(g3.trans k5).upd_new hD _,?_,mP ha g5<|by rw[hL];rfl⟩
  ·rw[<-Paired.length g4];exact cB (MD (mO i)<|by lia)
  ·rw[j_ ha hL];exact Paired.snoc ((g4.mono k5).upd h5)<|ht1.upd h5
 rintro σ ys H4 ⟨_,g1,g2,g3,g4,g5⟩;rw[J',L8<|LQ _]at g4 g5;refine⟨(by show 2<=sizeLine;decide),λp5 hp5=>?_⟩;have k5:Same H4 (upd H4 p5<|.tup [.str r,.ref D]):=ag hp5 _;exact q r (rs.filterMap<|iX r) (by rw[hof,qi g5];rfl) p5 D ys _ (g2.trans k5) nD ad (k5 _ _ g1)<|g4.mono k5
abbrev qM:NN:=cZ 25
abbrev vB:NN:=cZ 26
structure Lw (mg:Str->LH LF):Prop where
 int:mg "int"=LL
 str:mg "str"=LL
structure Lx (mg:Str->LH LF):Prop where
 g_NO_TURNS:fm mg "NO_TURNS" (.str<|G' "-")
def nM:Sp:=λvs H Q _=>∃(p:LJ) (ns:gV Int),vs=[.ref p]/\H p=A' (.tup<|ns.map V.int)/\ns.length<=13/\(∀n∈ns,n.natAbs<=12)/\∀H',Same H H'->Q (.str<|NO (G' " ")<|ns.map cN) H'
def xr:Sp:=λvs H Q _=>∃(v:V) (t:Str) (cs:gV (gV Int)),vs=[v]/\RD H (eO t cs) v/\yt t cs/\∀H',Same H H'->Q (.str<|NO (G' "\n")<|fq t cs) H'
theorem yX{H:Hp}{p D:LJ}{ns:gV Int}{σ0:St}{Q:VK}(hp:H p=A' (.tup<|ns.map V.int))(hD:H D=LL)(hl:ns.length<=13)(hn:∀n∈ns,n.natAbs<=12)(e0:σ0=[LL]){r:gV V->Hp->VK->Prop}(hr:∀i H Q,i.natAbs.log2 < 1920->Q (.str<|cN i) H->r [.int i] H Q)
  (hq:Q (.ref D) (upd H D<|.lst<|(ns.map cN).map V.str)):gi (Dc K p) D (gh 0) Fp (IS r<|iS (gZ 0) qW) σ0 H Q:=by
 refine jo (K:=K) (a:=p) (xs:=ns.map V.int) (λi σ ys H2=>(∃v0,σ=[v0])/\ys=((ns.take i).map cN).map V.str/\H2=upd H D (.lst ys)) ⟨⟨LL,e0⟩,rfl,rfl⟩ ?_ ?_ ?_
 ·rintro i σ ys H2 _ ⟨_,_,rfl⟩;exact⟨ad,SqT.of<|by rw[al<|ak hp hD];exact hp⟩
 ·rintro i x σ ys H2 hx ⟨⟨v0,rfl⟩,rfl,rfl⟩;obtain⟨z,rfl,hz⟩:=dh hx;have V3:i < ns.length:=(LS.mp hz).1;refine bS ⟨_,rfl,hr z _ _ (wg (hn z<|LZ hz)<|by decide) ⟨ad,?_,⟨_,rfl⟩,?_,ee⟩⟩
  ·rw[J',J',ME];exact cB (by lia)
  ·rw[MM,hz,Mq,Mq];rfl
 ·rintro σ ys H2 ⟨_,rfl,rfl⟩;rw[J',L8<|LQ _];exact hq
theorem lN:aq ["parts"] ["parts"] (aj qM):=⟨rfl,rfl,rfl,by decide+kernel,rfl,by decide+kernel,by decide+kernel⟩
theorem yY(F:Fun K "shown_row" "shown_row" qM f fd)(T:Lw mg):FnOk P w K mg base b7 1 f fd ["parts"] nM:=by
 have sc:=lN;refine F.ok lN (λvs H Q E h=>?_) λOT A outer s H vs Q E hr h=>?_
 ·obtain⟨p,ns,rfl,_⟩:=h;rfl
 obtain⟨p,ns,rfl,hp,hl,hn,q⟩:=h;exists _,(ah<|ao<|cv NF Pq Pp jp aH<|aa (bp (NY:=["part"]) (idx:=[LL]) rfl ⟨by with_unfolding_all rfl,(by with_unfolding_all exact trivial),λ_=>by rfl,by rfl,by rfl,by rfl,by decide⟩ (fC<|pv 0) (λ_ _ _ _=>(aE (i:=0) (show Nf (["part"]:gV Str) by decide+kernel) rfl<|MA rfl)) (λ_ _ _ _=>bJ) λ_ _ _ _=>(bg jh rfl T.str RI<|aa (pv 0) ae)) ae);refine⟨rfl,_,rfl,p,rfl,⟨_,SqT.of hp⟩,λD hD=>?_⟩;refine yX hp hD hl hn rfl (λi H Q h1 h2=>⟨i,rfl,h1,h2⟩) ?_;refine⟨_,D,_,rfl,rfl,SqL.of ad,?_,q _<|ag hD _⟩;have h1:∀s∈ns.map cN,s.length<=14:=λs hs=>by
  obtain⟨i,hi,rfl⟩:=MF.mp hs;exact se<|hn i hi
 have h2:=mS h1;rw[J']at h2 ⊢;rw[qj];lia
theorem xt:aq ["sentence","rows"] ["sentence"] (aj vB):=⟨rfl,rfl,rfl,by decide+kernel,rfl,by decide+kernel,by decide+kernel⟩
theorem CH(h:yt t cs):((fq t cs).map (·.length)).sum+(fq t cs).length*(G' "\n").length<=16777216:=by
 obtain⟨a,b⟩:=sk h;have h1:=mS b;have h2:(fq t cs).length*195<=201*195:=PJ _ a;rw[qk];lia
theorem yZ(hk:k=((t.length:Int) != 0))(h0:σ[0]? =A' (A'<|.ref p))(h1:H p=A' (.tup [.str t,.ref qa]))(h:Q (.str<|fX t) H):
  if k=LI then Im (I_ K) (gZ 0) (tC<|V.int 0) σ H Q else tC (.str<|G' "-") σ H Q:=by
 have e:t.cps.toList.length=t.length:=Mr;subst hk;unfold fX at h;by_cases h2:t.cps.toList=[]
 ·rw[Ml h2]at h;have:((t.length:Int) != 0)=false:=by rw[<-e,h2];rfl
  rw[this];exact aI h
 ·rw[Mi h2]at h;have hp:=OL.mpr h2;have:((t.length:Int) != 0)=true:=by rw[Yh];lia
  rw[this];exact aJ ⟨_,h0,.inr<|.inl ⟨p,_,0,.str t,rfl,rfl,SqT.of h1,rfl,h⟩⟩
theorem CI(F:Fun K "shown_sentence" "shown_sentence" vB f fd)(T:Lx mg)(Uq:Fn P w K mg base 1 "shown_row" f1 d1 ["parts"] nM):FnOk P w K mg base b7 2 f fd ["sentence"] xr:=by
 have sc:=xt;refine F.ok xt (λvs H Q E h=>?_) λOT A outer s H vs Q E hr h=>?_
 ·obtain⟨v,t,cs,rfl,_⟩:=h;rfl
 obtain⟨v,t,cs,rfl,hd,ok,q⟩:=h;obtain⟨p,qa,xs,rfl,h1,h2,h3⟩:=rD hd;have htl:=ok.tl;have V4:=ok.cl;have hxl:=h3.length;refine⟨_,(af (au (i:=1) sc.nd rfl (MA rfl)<|bY<|aa (eF (hU (av am (pv 0) ai λ_ _=>rfl) λ_=>rfl) (av am (pv 0) ai λ_ _=>rfl)<|aM rfl T.g_NO_TURNS) ae)
  (af (bA<|cv ML U4 PySem.F.type_list_extend xN (pv 1)<|aa (bp (NY:=["clause"]) (idx:=[LL]) rfl ⟨by with_unfolding_all rfl,(by with_unfolding_all exact trivial),λ_=>by rfl,by rfl,by rfl,by rfl,by decide⟩ (bw<|av am (pv 0) ai λ_ _=>rfl) (λ_ _ _ _=>(aE (i:=0) (show Nf (["clause"]:gV Str) by decide+kernel) rfl<|MA rfl)) (λ_ _ _ _=>bJ) λ_ _ _ _=>(aG Uq hr (by lia) rfl<|aa (aU (Ay (K:=K) rfl) (pv 0)<|bx<|aa ai ae) ae)) ae)
  (ah<|ao<|cv NF Pq Pp jp aH<|aa (pv 1) ae))),?_⟩
 refine⟨_,rfl,.inr<|.inl ⟨p,_,0,.str t,rfl,rfl,SqT.of h1,rfl,_,⟨MD htl (by decide),rfl⟩,?_⟩⟩;refine yZ rfl rfl h1 ⟨(by show 1<=sizeLine;decide),λl hl=>?_⟩;have k1:Same H (upd H l<|.lst [.str<|fX t]):=ag hl _;have Sx:upd H l (.lst [.str<|fX t]) l=A' (.lst [.str<|fX t]):=ad;generalize upd H l (.lst [.str<|fX t])=H1 at k1 Sx ⊢;refine⟨_,rfl,.inl ⟨rfl,_,SqL.of Sx⟩,_,rfl,.inr<|.inl ⟨p,_,1,.ref qa,rfl,rfl,SqT.of<|k1 _ _ h1,rfl,qa,rfl,⟨_,SqL.of<|k1 _ _ h2⟩,λD hD=>?_⟩⟩;refine bO (K:=K) (a:=qa) (xs:=xs) (λi σ ys H2=>(∃v0,σ=[v0])/\H2 D=A' (.lst ys)/\Same H1 H2/\ys=((cs.take i).map lg).map V.str) ⟨⟨LL,rfl⟩,ad,ag hD _,rfl⟩ ?_ ?_ ?_
 ·rintro i σ ys H2 _ ⟨_,g1,g2,_⟩;exact⟨g1,SqL.of<|g2 _ _<|k1 _ _ h2⟩
 ·rintro i x σ ys H2 hx ⟨⟨v0,rfl⟩,g1,g2,g3⟩;obtain⟨c,hc,ahZ⟩:=h3.get hx;obtain⟨pc,rfl,hpc⟩:=ahZ.mono<|k1.trans g2;have Wx:=LZ hc;have V3:i < cs.length:=(LS.mp hc).1;have S6:∀H3,Same H2 H3->H3 D=A' (.lst ys)/\ys.length < sizeLine/\((∃v0,[A'<|V.ref pc]=[v0])/\upd H3 D (.lst<|ys++[.str<|lg c]) D=A' (.lst<|ys++[.str<|lg c])/\Same H1 (upd H3 D<|.lst<|ys++[.str<|lg c])/\ys++[.str<|lg c]=((cs.take<|i+1).map lg).map V.str):=λH3 k3=>by
   refine⟨k3 _ _ g1,?_,⟨_,rfl⟩,ad,(g2.trans k3).upd_new hD _,?_⟩
   ·rw[g3,J',J',ME];exact cB (by lia)
   ·rw[MM,hc,Mq,Mq,g3];rfl
  have afh:∀pr H3,Same H2 H3->H3 pr=A' (.tup<|(c++[0]).map V.int)->nM [V.ref pr] H3 (λy H5=>H5 D=A' (.lst ys)/\ys.length < sizeLine/\((∃v0,[A'<|V.ref pc]=[v0])/\upd H5 D (.lst<|ys++[y]) D=A' (.lst<|ys++[y])/\Same H1 (upd H5 D<|.lst<|ys++[y])/\ys++[y]=((cs.take<|i+1).map lg).map V.str)) E0:=λpr H3 k3 hpr=>by
   refine⟨pr,c++[0],rfl,hpr,?_,λn hn=>?_,λH4 k4=>S6 H4<|k3.trans k4⟩
   ·have:=ok.ll c Wx;rw[LX,Mz];lia
   ·obtain w|w:=Mt.mp hn
    ·exact ok.nl c Wx n w
    ·rw[LN.mp w];decide
  refine bS ⟨_,rfl,(by show 1<=sizeLine;decide),λp1 hp1=>?_⟩;have k3:Same H2 (upd H2 p1<|.tup [.int 0]):=ag hp1 _;refine⟨pc,p1,_,_,rfl,rfl,SqT.of<|k3 _ _ hpc,SqT.of ad,nofun,?_,λhe=>?_,λ_ p2 Xc=>afh p2 _ (k3.trans<|ag Xc _)<|by rw[ad,Mq];rfl⟩
  ·rw[J'];have:=ok.ll c Wx;exact Nx<|cB (by show c.length+1<=_;lia)
  ·have he':c=[]:=PX.mp he;exact afh p1 _ k3 (by rw[he',ad];rfl)
 ·rintro σ ys H2 ⟨_,g1,g2,g3⟩;rw[<-hxl,L8<|LQ _]at g3;have Up:=g2 _ _ Sx;refine⟨l,D,_,_,rfl,rfl,Up,g1,?_,?_⟩
  ·rw[g3,J',J'];exact Nx<|cB (by show 1+cs.length<=_;lia)
  refine⟨rfl,_,rfl,_,l,fq t cs,rfl,rfl,SqL.of (by rw[ad,g3];rfl),CH ok,q _ ?_⟩;exact(k1.trans g2).upd_new hl _
abbrev CJ:NN:=cZ 27
abbrev vC:NN:=cZ 28
structure Kg (mg:Str->LH LF):Prop where
 list:mg "list"=LL
 str:mg "str"=LL
structure nV (L:Ln):Prop where
 w:wOk L.1
 ll:L.2.length<=8
 nl:∀n∈L.2,n.natAbs<=3000
theorem CK(h:n.natAbs < 10 ^ 9):(cN n).length<=10:=by
 have e:(cN n).cps.toList.length=(cN n).length:=Mr;obtain⟨_,a,_⟩:=AN h;by_cases hn:n < 0
 ·rw[mU hn,L4]at e;lia
 ·rw[mV<|by lia]at e;lia
theorem nN(h:nV L):(∀s∈L.1::L.2.map cN,s.length<=10)/\(L.1::L.2.map cN).length<=9:=by
 refine⟨λs hs=>?_,by rw[L4,J'];have:=h.ll;lia⟩;obtain rfl|hs:=Mn.mp hs
 ·have:=h.w.len;lia
 ·obtain⟨i,hi,rfl⟩:=MF.mp hs;exact CK (by have:=h.nl i hi;lia)
theorem CM(h:nV L):((L.1::L.2.map cN).map (·.length)).sum+(L.1::L.2.map cN).length*(G' " ").length<=16777216:=by
 obtain⟨a,b⟩:=nN h;have h1:=mS a;have h2:(L.1::L.2.map cN).length*10<=9*10:=PJ _ b;rw[qj];lia
theorem CO(h:nV L):(qm L).length<=100:=by
 obtain⟨a,b⟩:=nN h;exact MD (lG a b qj) (by decide)
theorem pC(hh:hOk h)(hl:ls.length<=3000)(hs:∀L∈ls,nV L):(fH h ls).length<=3001/\∀s∈fH h ls,s.length<=100:=by
 refine⟨by unfold fH;rw[L4,J'];lia,λs X2=>?_⟩;obtain rfl|X2:=Mn.mp X2
 ·have:=hh.len;lia
 ·obtain⟨L,hL,rfl⟩:=MF.mp X2;exact CO<|hs L hL
theorem y0(hh:hOk h)(hl:ls.length<=3000)(hs:∀L∈ls,nV L):((fH h ls).map (·.length)).sum+(fH h ls).length*(G' "\n").length<=16777216:=by
 obtain⟨a,b⟩:=pC hh hl hs;have h1:=mS b;have h2:(fH h ls).length*100<=3001*100:=PJ _ a;rw[qk];lia
theorem y6(hh:hOk h)(hl:ls.length<=3000)(hs:∀L∈ls,nV L):(NO (G' "\n")<|fH h ls).length<=800000/\1<=(NO (G' "\n")<|fH h ls).length:=by
 obtain⟨a,b⟩:=pC hh hl hs;exists MD (lG b a qk) (by decide);rw[mT];unfold fH;rw[MH,T5];have:=hh.len;lia
def xu:Sp:=λvs H Q _=>∃(p:LJ) (L:Ln),vs=[.ref p]/\H p=A' (.tup<|.str L.1::L.2.map V.int)/\nV L/\∀H',Same H H'->Q (.str<|qm L) H'
def CP:Sp:=λvs H Q _=>∃(v:V) (L:Ln),vs=[v]/\LnA H L v/\nV L/\∀H',Same H H'->Q (.str<|qm L) H'
def xv:Sp:=λvs H Q _=>∃(p q:LJ) (xs:gV V) (h:Str) (ls:gV Ln),vs=[.ref p]/\H p=A' (.tup [.str h,.ref q])/\H q=A' (.lst xs)/\LnAs H ls xs/\hOk h/\ls.length<=3000/\(∀L∈ls,nV L)/\∀H',Same H H'->Q (.str<|NO (G' "\n")<|fH h ls) H'
def tT:V->Str
 |.str a=>a
 |.int i=>cN i
 |_=>QJ
theorem vD(hp:H p=A' (.tup xs))(hD:H D=LL)(hl:xs.length<=1000)(e0:σ0=[LL])(hr:∀x∈xs,∀H Q,Q (.str<|tT x) H->r [x] H Q)
  (hq:Q (.ref D) (upd H D<|.lst<|(xs.map tT).map V.str)):gi (Dc K p) D (gh 0) Fp (IS r<|iS (gZ 0) qW) σ0 H Q:=by
 refine jo (K:=K) (a:=p) (xs:=xs) (λi σ ys H2=>(∃v0,σ=[v0])/\ys=((xs.take i).map tT).map V.str/\H2=upd H D (.lst ys)) ⟨⟨LL,e0⟩,rfl,rfl⟩ ?_ ?_ ?_
 ·rintro i σ ys H2 _ ⟨_,_,rfl⟩;exact⟨ad,SqT.of<|by rw[al<|ak hp hD];exact hp⟩
 ·rintro i x σ ys H2 hx ⟨⟨v0,rfl⟩,rfl,rfl⟩;have V3:i < xs.length:=(LS.mp hx).1;refine bS ⟨_,rfl,hr x (LZ hx) _ _ ⟨ad,?_,⟨_,rfl⟩,?_,ee⟩⟩
  ·rw[J',J',ME];exact cB (by lia)
  ·rw[MM,hx,Mq,Mq];rfl
 ·rintro σ ys H2 ⟨_,rfl,rfl⟩;rw[L8<|LQ _];exact hq
theorem y8(ns:gV Int):(ns.map V.int).map tT=ns.map cN:=by
 rw[M9];rfl
theorem CQ(F:Fun K "shown_row" "shown_row" qM f fd)(T:Kg mg):FnOk P w K mg base b7 1 f fd ["parts"] xu:=by
 have sc:=lN;refine F.ok lN (λvs H Q E h=>?_) λOT A outer s H vs Q E hr h=>?_
 ·obtain⟨p,L,rfl,_⟩:=h;rfl
 obtain⟨p,L,rfl,hp,sL,q⟩:=h;exists _,(ah<|ao<|cv NF Pq Pp jp aH<|aa (bp (NY:=["part"]) (idx:=[LL]) rfl ⟨by with_unfolding_all rfl,(by with_unfolding_all exact trivial),λ_=>by rfl,by rfl,by rfl,by rfl,by decide⟩ (fC<|pv 0) (λ_ _ _ _=>(aE (i:=0) (show Nf (["part"]:gV Str) by decide+kernel) rfl<|MA rfl)) (λ_ _ _ _=>bJ) λ_ _ _ _=>(bg yo rfl T.str RI<|aa (pv 0) ae)) ae);refine⟨rfl,_,rfl,p,rfl,⟨_,SqT.of hp⟩,λD hD=>?_⟩;have hll:=sL.ll;refine vD hp hD (by rw[L4,J'];lia) rfl (λx hx H Q h2=>?_) ?_
 ·obtain rfl|hx:=Mn.mp hx
  ·exact .inr ⟨_,rfl,h2⟩
  ·obtain⟨i,hi,rfl⟩:=MF.mp hx;exact .inl ⟨i,rfl,wg (sL.nl i hi) (by decide),h2⟩
 ·have e:(V.str L.1::L.2.map V.int).map tT=L.1::L.2.map cN:=by rw[MH,y8];rfl
  rw[e];exact⟨_,D,_,rfl,rfl,SqL.of ad,CM sL,q _<|ag hD _⟩
theorem CT:aq ["line"] ["line"] (aj CJ):=⟨rfl,rfl,rfl,by decide+kernel,rfl,by decide+kernel,by decide+kernel⟩
theorem EU(F:Fun K "shown_line" "shown_line" CJ f fd)(Uq:Fn P w K mg base 1 "shown_row" f1 d1 ["parts"] xu):FnOk P w K mg base b7 2 f fd ["line"] CP:=by
 have sc:=CT;refine F.ok CT (λvs H Q E h=>?_) λOT A outer s H vs Q E hr h=>?_
 ·obtain⟨v,L,rfl,_⟩:=h;rfl
 obtain⟨v,L,rfl,hL,sL,q⟩:=h;have hu:=hr.units;obtain⟨p,rfl,hL⟩:=hL;have hll:=sL.ll;refine⟨_,(af (aS (ay (aX hu) (av am (pv 0) ai λ_ _=>rfl) aH<|aB _) (ah<|ao<|aG Uq hr (by lia) rfl<|aa (aU DT (bx<|aa (av am (pv 0) ai λ_ _=>rfl) ae)<|av am (pv 0) ai λ_ _=>rfl) ae) aA)
  (ah<|ao<|aG Uq hr (by lia) rfl<|aa (pv 0) ae)),?_⟩
 obtain⟨e,qa,hp,hq⟩|⟨e,hp⟩:=hL
 ·refine⟨_,rfl,.inr<|.inl ⟨p,_,0,.str L.1,rfl,rfl,SqT.of hp,rfl,.inl ⟨rfl,_,rfl,?_⟩⟩⟩;rw[show decide (V.str L.1=V.str (G' "hits"))=LI from e];refine aJ ⟨_,rfl,.inr<|.inl ⟨p,_,0,.str L.1,rfl,rfl,SqT.of hp,rfl,(by show 1<=sizeLine;decide),λp1 hp1=>?_⟩⟩;have k1:Same H (upd H p1<|.tup [.str L.1]):=ag hp1 _;have h1:upd H p1 (.tup [.str L.1]) p1=A' (.tup [.str L.1]):=ad;generalize upd H p1 (.tup [.str L.1])=H1 at k1 h1 ⊢;refine⟨_,rfl,.inr<|.inl ⟨p,_,1,.ref qa,rfl,rfl,SqT.of<|k1 _ _ hp,rfl,p1,qa,_,_,rfl,rfl,SqT.of h1,SqT.of<|k1 _ _ hq,?_,nofun,λ_ he=>?_,λ_ _ p2 Xc=>?_⟩⟩
  ·rw[J'];exact Nx<|cB (by show 1+L.2.length<=_;lia)
  ·have he':L.2=[]:=PX.mp he;exact⟨p1,L,rfl,by rw[h1,he'];rfl,sL,λH' k=>q _<|k1.trans k⟩
  ·exact⟨p2,L,rfl,ad,sL,λH' k=>q _<|k1.trans<|(ag Xc _).trans k⟩
 ·refine⟨_,rfl,.inr<|.inl ⟨p,_,0,.str L.1,rfl,rfl,SqT.of hp,dL,.inl ⟨rfl,_,rfl,?_⟩⟩⟩;rw[show decide (V.str L.1=V.str (G' "hits"))=LM from e];exact aI ⟨_,rfl,p,L,rfl,hp,sL,q⟩
theorem xw:aq ["paper"] ["paper"] (aj vC):=⟨rfl,rfl,rfl,by decide+kernel,rfl,by decide+kernel,by decide+kernel⟩
theorem CU(F:Fun K "shown_paper" "shown_paper" vC f fd)(aat:Fn P w K mg base 2 "shown_line" f1 d1 ["line"] CP):FnOk P w K mg base b7 3 f fd ["paper"] xv:=by
 have sc:=xw;refine F.ok xw (λvs H Q E h=>?_) λOT A outer s H vs Q E hr h=>?_
 ·obtain⟨p,qa,xs,h,ls,rfl,_⟩:=h;rfl
 obtain⟨p,qa,xs,h,ls,rfl,hp,hq,hL,hh,hl,hs,q⟩:=h;have hxl:=Paired.length hL;exists _,(ah<|ao<|cv NF Pq Pp jp aH<|aa (aU pO (bY<|aa (av am (pv 0) ai λ_ _=>rfl) ae)<|bp (NY:=["line"]) (idx:=[LL]) rfl ⟨by with_unfolding_all rfl,(by with_unfolding_all exact trivial),λ_=>by rfl,by rfl,by rfl,by rfl,by decide⟩ (bw<|av am (pv 0) ai λ_ _=>rfl) (λ_ _ _ _=>(aE (i:=0) (show Nf (["line"]:gV Str) by decide+kernel) rfl<|MA rfl)) (λ_ _ _ _=>bJ) λ_ _ _ _=>(aG aat hr (by lia) rfl<|aa (pv 0) ae)) ae);refine⟨rfl,_,rfl,.inr<|.inl ⟨p,_,0,.str h,rfl,rfl,SqT.of hp,rfl,(by show 1<=sizeLine;decide),λl1 Sx=>?_⟩⟩;have k1:Same H (upd H l1<|.lst [.str h]):=ag Sx _;have h1:upd H l1 (.lst [.str h]) l1=A' (.lst [.str h]):=ad;generalize upd H l1 (.lst [.str h])=H1 at k1 h1 ⊢;refine⟨_,rfl,.inr<|.inl ⟨p,_,1,.ref qa,rfl,rfl,SqT.of<|k1 _ _ hp,rfl,qa,rfl,⟨_,SqL.of<|k1 _ _ hq⟩,λD hD=>?_⟩⟩;refine bO (K:=K) (a:=qa) (xs:=xs) (λi σ ys H2=>(∃v0,σ=[v0])/\H2 D=A' (.lst ys)/\Same H1 H2/\ys=((ls.take i).map qm).map V.str) ⟨⟨LL,rfl⟩,ad,ag hD _,rfl⟩ ?_ ?_ ?_
 ·rintro i σ ys H2 _ ⟨_,g1,g2,_⟩;exact⟨g1,SqL.of<|g2 _ _<|k1 _ _ hq⟩
 ·rintro i x σ ys H2 hx ⟨⟨v0,rfl⟩,g1,g2,g3⟩;obtain⟨L,hLi,hLa⟩:=hL.get hx;have V3:i < ls.length:=(LS.mp hLi).1;refine bS ⟨_,rfl,x,L,rfl,hLa.mono<|k1.trans g2,hs L<|LZ hLi,λH3 k3=>⟨k3 _ _ g1,?_,⟨_,rfl⟩,ad,(g2.trans k3).upd_new hD _,?_⟩⟩
  ·rw[g3,J',J',ME];exact cB (by lia)
  ·rw[MM,hLi,Mq,Mq,g3];rfl
 ·rintro σ ys H2 ⟨_,g1,g2,g3⟩;rw[<-hxl,L8<|LQ _]at g3;refine⟨l1,D,_,_,rfl,rfl,g2 _ _ h1,g1,?_,λl3 Zz=>?_⟩
  ·rw[g3,J',J'];exact Nx<|cB (by show 1+ls.length<=_;lia)
  refine⟨_,l3,fH h ls,rfl,rfl,SqL.of (by rw[ad,g3];rfl),y0 hh hl hs,q _<|k1.trans<|g2.trans<|ag Zz _⟩
abbrev vE:NN:=cZ 52
inductive CV (vs:gV V)(H:Hp)(Q:VK):Prop
 |mk (p q pp la:LJ)(t:Str)(hw:Md)(xs ls:gV V)(cs:gV (gV Int))(ds:gV Mc)(out:gV (gV Int))(h0:vs=[.ref p,.ref pp])(h1:H p=A' (.tup [.str t,.ref q]))(h2:t.length<=30)(h3:H q=A' (.lst xs))(h4:CLs H cs xs)(h5:cs.length<=2000)(h6:(∀c∈cs,aD t.length c))(h7:H pp=A' (.tup [.str<|aK hw,.ref la]))(h8:H la=A' (.lst ls))(h9:c9 H ds ls)(h10:ds.length<=9000)(h11:(∀d∈ds,ki d))(h12:bL t cs hw [] ds=(out,LI))(h13:∀H',Same H H'->Q (.bl<|mZ out) H'):CV vs H Q
def xx:Sp:=λvs H Q _=>CV vs H Q
theorem xy:aq ["sentence","paper","sets"] ["sentence","paper"] (aj vE):=⟨rfl,rfl,rfl,by decide+kernel,rfl,by decide+kernel,by decide+kernel⟩
theorem CY(F:Fun K "is_whole" "is_whole" vE f fd)(U_:Fn P w K mg base 6 "sets_of" g1 e1 ["sentence","paper"] jD)(V6:Fn P w K mg base 1 "end_empty" g2 e2 ["sets"] Bq):FnOk P w K mg base b7 7 f fd ["sentence","paper"] xx:=by
 have sc:=xy;refine F.ok xy (λvs H Q E h=>?_) λOT A outer s H vs Q E hr h=>?_
 ·obtain⟨p,q,pp,la,t,hw,xs,ls,cs,ds,out,rfl,_⟩:=h;rfl
 obtain⟨p,q,pp,la,t,hw,xs,ls,cs,ds,out,rfl,hp,ht,hq,Qx,h9,QH,hpp,Zy,Y0,h8,hsh,QG,q'⟩:=h;have hol:out.length=ds.length:=by
  have:=cJ QG;simpa using this
 refine⟨_,(af (D6 rfl<|ah<|au (i:=2) sc.nd rfl (MA rfl)<|aG U_ hr (by lia) rfl<|aa (pv 0)<|aa (pv 1) ae)
  (ah<|ao<|aG V6 hr (by lia) rfl<|aa (pv 2) ae)),?_⟩
 refine⟨_,rfl,_,rfl,p,q,pp,la,t,hw,xs,ls,cs,ds,out,rfl,hp,ht,hq,Qx,h9,QH,hpp,Zy,Y0,h8,hsh,QG,λl ys H1 k1 hl Sx hs1=>?_⟩;exact⟨_,rfl,l,ys,out,rfl,Sx,hs1,by lia,λH2 k2=>q' _<|k1.trans k2⟩
abbrev tU:NN:=cZ 60
structure Ly (mg:Str->LH LF):Prop where
 list:mg "list"=LL
 dict:mg "dict"=LL
 g_SPOILER:fm mg "SPOILER" (.str<|aK LM)
inductive Gh (vs:gV V)(H:Hp)(Q:VK):Prop
 |mk (p q pp la:LJ)(t:Str)(xs ls:gV V)(cs:gV (gV Int))(ds:gV Mc)(out:gV (gV Int))(h0:vs=[.ref p,.ref pp])(h1:H p=A' (.tup [.str t,.ref q]))(h2:t.length<=30)(h3:H q=A' (.lst xs))(h4:CLs H cs xs)(h5:cs.length<=100)(h6:(∀c∈cs,aD t.length c))(h7:H pp=A' (.tup [.str<|aK LM,.ref la]))(h8:H la=A' (.lst ls))(h9:c9 H ds ls)(h10:ds.length<=3000)(h11:(∀d∈ds,ki d))(h12:bL t cs LM [] ds=(out,LI))
   (h13:∀r c ys H',Same H H'->H r=LL->H c=LL->H' r=A' (.tup [.str t,.ref c])->H' c=A' (.lst ys)->CLs H' (cy cs out) ys->Q (.ref r) H'):Gh vs H Q
def C0:Sp:=λvs H Q _=>Gh vs H Q
theorem y9(cs:gV (gV Int))(k:gV Int):(bZ (dJ<|cs.map λc=>(cg c,V.bl LI))<|cg k).isSome=decide (k∈cs):=by
 unfold dJ;rw[r8,Qg];show((bZ ([]:gV (gV bo×V))<|cg k).isSome || _)=_
 rw[show(bZ ([]:gV (gV bo×V))<|cg k).isSome=LM from rfl,Q4]
 induction cs with
 |nil=>rfl
 |cons c cs ih=>
  rw[PQ,ih,NB];simp [keyI_inj]
inductive Gi (p pp sl cl dk:LJ)(ys:gV V)(cs out:gV (gV Int))(H:Hp)(i:Nat)(σ:gV (LH V))(G:Hp):Prop
 |mk (x5:LH V)(zs:gV V)(D:gV (gV bo×V))(i0:σ=[A'<|.ref p,A'<|.ref pp,A'<|.ref sl,A'<|.ref cl,A'<|.ref dk,x5])(i1:G cl=A' (.lst zs))(i2:CLs G (cy cs<|out.take i) zs)(i3:G dk=A' (.dT D))(i4:∀k:gV Int,(bZ D<|cg k).isSome=decide (k∈cy cs (out.take i)))(i5:D.length<=cs.length+i)(i6:Same H G)(i7:G sl=A' (.lst ys))(i8:CLs G out ys):Gi p pp sl cl dk ys cs out H i σ G
theorem C1:aq ["sentence","paper","sets","clauses","known","literals"] ["sentence","paper"] (aj tU):=⟨rfl,rfl,rfl,by decide+kernel,rfl,by decide+kernel,by decide+kernel⟩
theorem EV(F:Fun K "joined_clauses" "joined_clauses" tU f fd)(T:Ly mg)(U_:Fn P w K mg base 6 "sets_of" g1 e1 ["sentence","paper"] jD):FnOk P w K mg base b7 7 f fd ["sentence","paper"] C0:=by
 have sc:=C1;refine F.ok C1 (λvs H Q E h=>?_) λOT A outer s H vs Q E hr h=>?_
 ·obtain⟨p,q,pp,la,t,xs,ls,cs,ds,out,rfl,_⟩:=h;rfl
 obtain⟨p,q,pp,la,t,xs,ls,cs,ds,out,rfl,hp,ht,hq,Qx,h9,QH,hpp,Zy,Y0,h8,hsh,QG,q'⟩:=h;have hu:=hr.units;have UX:(A.deeper<|Nj "joined_clauses" (aj tU) s.heap.objs.size f OT).units+1 < PU:=by lia
 have hu2:(A.deeper<|Nj "joined_clauses" (aj tU) s.heap.objs.size f OT).units+2 < PU:=by lia
 have hol:out.length=ds.length:=by
  have:=cJ QG;simpa using this
 refine⟨_,(af (au (i:=2) sc.nd rfl (MA rfl)<|aG U_ hr (by lia) rfl<|aa (pv 0)<|aa (pv 1) ae)
  (af (aS (ay (ic hu) (av am (pv 1) ai λ_ _=>rfl) (aM rfl T.g_SPOILER)<|aB _) (ah gg) aA)
  (af (au (i:=3) sc.nd rfl (MA rfl)<|bg dF rfl T.list OI<|aa (av am (pv 0) ai λ_ _=>rfl) ae)
  (af (au (i:=4) sc.nd rfl (MA rfl)<|bg (uM rfl hu2) rfl T.dict UH<|aa (bp (NY:=["clause"]) (idx:=[LL]) rfl ⟨by with_unfolding_all rfl,(by with_unfolding_all exact trivial),λ_=>by rfl,by rfl,by rfl,by rfl,by decide⟩ (bw<|pv 3) (λ_ _ _ _=>(aE (i:=0) (show Nf (["clause"]:gV Str) by decide+kernel) rfl<|MA rfl)) (λ_ _ _ _=>bJ) λ_ _ _ _=>(bx<|aa (pv 0)<|aa c_ ae)) ae)
  (af (cO M_ rfl (bw<|pv 2) (aE (i:=5) sc.nd rfl<|MA rfl)
   (ah (aS (tY<|om UX (pv 5)<|pv 4) (af (ly UX (pv 4) (pv 5) c_ rfl)
    (ah<|bA<|cv ML Na Ng bW (pv 3)<|aa (pv 5) ae)) aA)))
  (ah<|ao<|bx<|aa (av am (pv 0) ai λ_ _=>rfl)<|aa (pv 3) ae)))))),?_⟩
 refine⟨_,rfl,_,rfl,p,q,pp,la,t,LM,xs,ls,cs,ds,out,rfl,hp,ht,hq,Qx,by lia,QH,hpp,Zy,Y0,by lia,hsh,QG,λsl ys H1 k1 nsl Xb T8=>?_⟩;refine⟨_,rfl,.inr<|.inl ⟨pp,_,0,.str<|aK LM,rfl,rfl,SqT.of<|k1 _ _ hpp,rfl,.inl ⟨rfl,_,rfl,?_⟩⟩⟩;rw[Ma rfl];refine aI ?_;refine⟨_,rfl,.inr<|.inl ⟨p,_,1,.ref q,rfl,rfl,SqT.of<|k1 _ _ hp,rfl,q,xs,rfl,.inl<|SqL.of<|k1 _ _ hq,λcl ncl=>?_⟩⟩;have k2:=ag ncl<|.lst xs;have s2:upd H1 cl (.lst xs) cl=A' (.lst xs):=ad;generalize upd H1 cl (.lst xs)=H2 at k2 s2;refine⟨_,rfl,cl,rfl,⟨_,SqL.of s2⟩,λD nD=>?_⟩;have alp:=Qx.mono<|k1.trans k2;refine uK [] (λx=>[x,.bl LI]) rfl s2 nD (by rw[<-Qx.length];lia) (λx hx H' R k r=>⟨_,rfl,(by show 2<=sizeLine;decide),r⟩) λzs H3 k3 s3 l3 m3=>?_;obtain⟨ts,ets⟩:∃ts:gV LJ,zs=ts.map V.ref:=m7 λy hy=>by
  obtain⟨j,hj,e⟩:=OM hy;obtain⟨x,_,pt,e2,_⟩:=m3 j y (by rw[LU hj,e]);exact⟨pt,e2⟩
 obtain⟨cl',ecl⟩:∃cl':gV LJ,xs=cl'.map V.ref:=m7 λy hy=>by
  obtain⟨j,hj,e⟩:=OM hy;obtain⟨x,_,pt,e2,_⟩:=Qx.get (j:=j) (v:=y) (by rw[LU hj,e]);exact⟨pt,e2⟩
 have lts:ts.length=cs.length:=by rw[Qx.length,<-l3,ets,J']
 have lcl:cl'.length=cs.length:=by rw[Qx.length,ecl,J']
 have k03:=k1.trans<|k2.trans k3;refine⟨D,ts,cl',cs.map λc=>(cg c,V.bl LI),rfl,(by rw[<-ets];exact s3),(by rw[J'];exact lts),(by rw[J'];exact lcl),(λi t' c kv e1 e2 e3=>?_),(by rw[J'];lia),λdk ndk=>?_⟩
 ·rw[Mp]at e3;obtain⟨k,hk,rfl⟩:=NW.mp e3;have hx:xs[i]? =A' (.ref c):=by rw[ecl,Mp,e2];rfl
  obtain⟨x,hx',pt,e4,e5⟩:=m3 i (.ref t') (by rw[ets,Mp,e1];rfl);rw[hx]at hx';cases hx';cases e4;obtain⟨k',RU,tc,e6,e7⟩:=(Qx.mono k03).get hx;rw[hk]at RU;cases RU;cases e6;exact⟨e5,by rw[iq];exact e7⟩
 have k4:=ag ndk<|.dT<|dJ<|cs.map λc=>(cg c,V.bl LI);have s4:upd H3 dk (.dT<|dJ<|cs.map λc=>(cg c,V.bl LI)) dk=A' (.dT<|dJ<|cs.map λc=>(cg c,V.bl LI)):=ad;have hdl:(dJ<|cs.map λc=>(cg c,V.bl LI)).length<=cs.length:=by
  have:=ik (cs.map λc=>(cg c,V.bl LI)) [];rw[J',OO,Qe]at this;exact this
 have hkn:=y9 cs;generalize dJ (cs.map λc=>(cg c,V.bl LI))=D0 at k4 s4 hdl hkn ⊢;generalize upd H3 dk (.dT D0)=H4 at k4 s4 ⊢;have k04:=k03.trans k4;have kc:=(k2.trans k3).trans k4;have ncd:cl≠dk:=λz=>by have:=k3 _ _ s2;rw[z,ndk]at this;cases this
 have nsc:sl≠cl:=ak Xb ncl;have nsd:sl≠dk:=λz=>by have:=k3 _ _<|k2 _ _ Xb;rw[z,ndk]at this;cases this
 have fcl:H cl=none:=k1.free ncl;have fdk:H dk=none:=k03.free ndk;refine⟨_,rfl,sl,rfl,⟨_,SqL.of<|kc _ _ Xb⟩,?_⟩;refine fD (K:=K) (a:=sl) (xs:=ys) (Gi p pp sl cl dk ys cs out H) ?_ ?_ ?_ ?_
 ·exact⟨LL,xs,D0,rfl,(k3.trans k4) _ _ s2,Qx.mono k04,s4,hkn,by lia,k04,kc _ _ Xb,T8.mono kc⟩
 ·rintro i σ G _ ⟨_,_,_,_,_,_,_,_,_,_,i7,_⟩;exact SqL.of i7
 ·rintro i x σ G hx ⟨x5,zs',D',rfl,i1,i2,i3,i4,i5,i6,i7,i8⟩;obtain⟨c,hc,tc,rfl,T7⟩:=i8.get hx;have ZO:G tc=A' (.tup<|(cg c).map kV):=by rw[iq];exact T7
  have V3:i < out.length:=(LS.mp hc).1;refine⟨_,rfl,_,rfl,dk,_,rfl,DGet.t i3 ZO,?_⟩;rw[i4];have ej:cy cs (out.take<|i+1)=if c∈cy cs (out.take i)then cy cs (out.take i)else cy cs (out.take i)++[c]:=by rw[m8 hc,mJ]
  by_cases hm:c∈cy cs (out.take i)
  ·rw[Ma hm];rw[Ml hm]at ej;exact⟨_,rfl,aI ⟨_,zs',D',rfl,i1,by rw[ej];exact i2,i3,by rw[ej];exact i4,by lia,i6,i7,i8⟩⟩
  ·rw[LW hm];rw[Mi hm]at ej;refine⟨_,rfl,aJ ?_⟩;refine⟨_,rfl,_,rfl,dk,_,rfl,DPut.t i3 ZO (aW<|by lia),?_⟩;have g1:upd G dk (.dT<|bH D' (cg c)<|.bl LI) cl=A' (.lst zs'):=by rw[al ncd];exact i1
   have g2:=CLs.updD (o:=.dT<|bH D' (cg c)<|.bl LI) i3 i2;have g3:=CLs.updD (o:=.dT<|bH D' (cg c)<|.bl LI) i3 i8;have g4:upd G dk (.dT<|bH D' (cg c)<|.bl LI) sl=A' (.lst ys):=by rw[al nsd];exact i7
   have g5:CL (upd G dk<|.dT<|bH D' (cg c)<|.bl LI) c (.ref tc):=CL.updD ⟨tc,rfl,T7⟩ i3;have g6:upd G dk (.dT<|bH D' (cg c)<|.bl LI) dk=A' (.dT<|bH D' (cg c)<|.bl LI):=ad;have g7:Same H (upd G dk<|.dT<|bH D' (cg c)<|.bl LI):=i6.upd_new fdk _;have g8:(bH D' (cg c)<|.bl LI).length<=cs.length+(i+1):=by have:=cw D' (cg c)<|.bl LI;lia
   have g9:∀k:gV Int,(bZ (bH D' (cg c)<|.bl LI)<|cg k).isSome=decide (k∈cy cs (out.take i)++[c]):=λk=>by
    rw[jl];by_cases e:k=c
    ·subst e;rw[Ml rfl];simp
    ·rw[Mi λz=>e<|keyI_inj.mp z,i4,NB];simp [e]
   have hjl:=j9 (out.take i) cs;rw[ME]at hjl;have hzl:=i2.length;generalize upd G dk (.dT<|bH D' (cg c)<|.bl LI)=G1 at g1 g2 g3 g4 g5 g6 g7 ⊢;refine⟨_,rfl,.inl ⟨rfl,_,SqL.of g1⟩,_,rfl,cl,_,_,rfl,rfl,g1,aW (by lia),?_⟩;refine⟨_,zs'++[.ref tc],_,rfl,ad,?_,?_,?_,g8,g7.upd_new fcl _,?_,g3.upd g1⟩
   ·rw[ej];exact CLs.snoc (g5.upd g1)<|g2.upd g1
   ·rw[al λz=>ncd z.symm];exact g6
   ·rw[ej];exact g9
   ·rw[al nsc];exact g4
 ·rintro σ G ⟨x5,zs',D',rfl,i1,i2,i3,i4,i5,i6,i7,i8⟩;rw[L8<|by rw[<-T8.length];exact LQ _]at i2;refine⟨_,rfl,.inr<|.inl ⟨p,_,0,.str t,rfl,rfl,SqT.of<|i6 _ _ hp,rfl,_,rfl,(by show 2<=sizeLine;decide),λr nr=>?_⟩⟩;have k5:=ag nr<|.tup [.str t,.ref cl];exact q' r cl zs' _ (i6.trans k5) (i6.free nr) fcl ad (k5 _ _ i1)<|i2.mono k5
theorem qN:∀{c:gV Int} {us:gV V},c9 H (c.map NV) us->us=c.map V.int
 |[],us,h=>by
  unfold c9 at h;exact h
 |x::c,us,h=>by
  obtain⟨y,r,rfl,q1,q2⟩:=ar h;rw[aT q1,qN q2];rfl
theorem Kh(h:RD H (li L) v):LnA H L v:=by
 unfold li at h;by_cases e:bE L.1 "hits"=LI
 ·rw[Ml e]at h;obtain⟨a,zs,rfl,ha,hz⟩:=ax h;obtain⟨y1,r1,rfl,a1,b1⟩:=ar hz;obtain⟨y2,r2,rfl,a2,b2⟩:=ar b1;have e2:r2=[]:=by unfold c9 at b2;exact b2
  subst e2;obtain⟨p,us,rfl,hp,hus⟩:=ax a2;rw[bd a1]at ha;rw[qN hus]at hp;exact⟨a,rfl,.inl ⟨e,p,ha,hp⟩⟩
 ·rw[Mi e]at h;obtain⟨a,zs,rfl,ha,hz⟩:=ax h;obtain⟨y1,r1,rfl,a1,b1⟩:=ar hz;rw[bd a1,qN b1]at ha;exact⟨a,rfl,.inr ⟨Bool.eq_false_iff.mpr e,ha⟩⟩
theorem C2:∀{ls:gV Ln} {xs:gV V},c9 H (ls.map li) xs->LnAs H ls xs
 |[],xs,h=>by
  have e:xs=[]:=by unfold c9 at h;exact h
  rw[e];exact .nil
 |L::ls,xs,h=>by
  obtain⟨y,r,rfl,q1,q2⟩:=ar h;exact .cons (Kh q1)<|C2 q2
theorem lO(hw:Md):hOk (aK hw):=by
 cases hw
 ·exact .inr (by decide+kernel)
 ·exact .inl (by decide+kernel)
structure Iw (hw:Md)(L:Ln):Prop where
 b:ft (aK hw) L.1 L.2=LI
 s:nV L
theorem EW(g:be d)(h:aP t cs hw out d=A' c)(ht:t.length<=8)(Qx:cs.length<=2000)(ho:out.length<=2048):∃L,li L=d/\Iw hw L:=by
 obtain⟨k,rfl⟩|⟨c',hc,rfl⟩|⟨k,rfl⟩|⟨i,j,z,rfl⟩:=g
 ·rw[fJ]at h;cases hw with
  |true=>cases h
  |false=>
   have hk:0<=k/\k < (cs.length:Int):=by
    by_cases hk:0<=k/\k < (cs.length:Int)
    ·exact hk
    ·have:bj cs.length (.int k)=none:=Mi hk;have h':gJ cs (.int k)=A' c:=h;unfold gJ at h';rw[this]at h';cases h'
   refine⟨(aN,[k]),rfl,?_,.inr<|.inr<|.inl (show bE aN "given"=LI by decide+kernel),(by show 1<=8;decide),λn hn=>?_⟩
   ·show(decide (0<=k)&&LI)=LI
    rw[Ma hk.1];rfl
   ·rw[LN.mp hn];lia
 ·rw[iO]at h;cases hw with
  |false=>cases h
  |true=>
   have h':iW t.length cs (fN c')=A' c:=h;unfold iW at h'
   split at h'
   case isFalse=>cases h'
   case isTrue hb=>
    have hs:fO (t.length:Int) 0 (c'.map NV)=true:=(NU.mp hb).1;obtain⟨h1,h2⟩:=setB_iff.mp hs;have hm:∀l∈c',1<=absI l/\absI l<=(t.length:Int):=λl hl=>⟨(Nc.mp h1).1 _<|MF.mpr ⟨l,hl,rfl⟩,h2 l hl⟩;have hok:aD t.length c':=⟨(Nc.mp h1).2,hm⟩;have N1:=bQ hok;refine⟨(bn,c'),rfl,?_,.inr<|.inr<|.inr (show bE bn "hits"=LI by decide+kernel),(by show c'.length<=8;lia),λn hn=>?_⟩
    ·show(LI&&fO 1000000000 0 (c'.map NV))=LI
     rw[Q2,setB_iff];exact⟨h1,λl hl=>by have:=h2 l hl;lia⟩
    ·have:=(hm n hn).2;unfold absI at this
     split at this<;>lia
 ·rw[iI,jH]at h;obtain⟨hk,_⟩:=h;refine⟨(aO,[k]),rfl,?_,.inr<|.inl (show bE aO "drop"=LI by decide+kernel),(by show 1<=8;decide),λn hn=>?_⟩
  ·show(decide (0<=k)&&_)=LI
   rw[Ma hk.1];cases hw<;>rfl
  ·rw[LN.mp hn];lia
 ·rw[gy,jG]at h;obtain⟨hi,hj,hb,_⟩:=h;have hz:1<=z/\z<=(t.length:Int):=by
   unfold dR at hb;have:=(NU.mp hb).1;have h3:=mem_vars.mp<|Mo.mp this;exact⟨h3.1,h3.2.1⟩
  refine⟨(aZ,[i,j,z]),rfl,?_,.inl (show bE aZ "join"=LI by decide+kernel),(by show 3<=8;decide),λn hn=>?_⟩
  ·show(LI&&(decide (0<=i)&&(decide (0<=j)&&decide (1<=z))))=LI
   rw[Ma hi.1,Ma hj.1,Ma hz.1];rfl
  ·obtain rfl|hn:=Mn.mp hn
   ·lia
   obtain rfl|hn:=Mn.mp hn
   ·lia
   rw[LN.mp hn];lia
theorem xz:∀{ds:gV Mc},(∀d∈ds,∃L,li L=d/\Iw hw L)->∃ls:gV Ln,ls.map li=ds/\∀L∈ls,Iw hw L
 |[],_=>⟨[],rfl,λ_ z=>nomatch z⟩
 |d::ds,h=>by
  obtain⟨L,e,g⟩:=h d L9;obtain⟨ls,e2,g2⟩:=xz λd' h'=>h d'<|LY _ h';refine⟨L::ls,by rw[MH,e,e2],λM hM=>?_⟩;obtain rfl|hM:=Mn.mp hM
  ·exact g
  ·exact g2 M hM
theorem EY(h:bL t cs hw [] ds=(out,LI))(g:∀d∈ds,be d)(ht:t.length<=8)(Qx:cs.length<=2000)(hd:ds.length<=2048):∃ls:gV Ln,ls.map li=ds/\∀L∈ls,Iw hw L:=
 xz λd hm=>by
  obtain⟨k,hk,e⟩:=OM hm;have hol:out.length=ds.length:=by
   have:=cJ h;simpa using this
  exact EW (g d hm) (p_ h (k:=k)<|by rw[LU hk,e]) ht Qx (by rw[ME];lia)
abbrev nO:NN:=eh (cZ 65) 8
inductive tV (CS:LJ)(vs:gV V)(H:Hp)(Q:VK):Prop
 |mk (A:SA)(t:Str)(cs:gV (gV Int))(S:SS)(h0:vs=[.ref A.x])(h:SrAt CS A t cs S H)
  (q:∀r a b l ys H',Same H H'->H' r=A' (.tup [.ref a,.ref b])->H' a=A' (.tup [.str<|aK LM,.ref l])->H' l=A' (.lst ys)->c9 H' (S.lw LM) ys->Q (.ref r) H'):tV CS vs H Q
def pD(CS:LJ):Sp:=λvs H Q _=>tV CS vs H Q
theorem pE:aq ["self"] ["self"] (aj nO):=⟨rfl,rfl,rfl,by decide+kernel,rfl,by decide+kernel,by decide+kernel⟩
theorem vF(F:Fun K "learnt" "Searcher.learnt" nO f fd)(T:nz K mg CS):FnOk P w K mg base b7 1 f fd ["self"] (pD CS):=by
 have sc:=pE;refine F.ok pE (λvs H Q E h=>?_) λOT A outer s H vs Q E hr h=>?_
 ·obtain⟨A,t,cs,S,rfl,_⟩:=h;rfl
 obtain⟨B,t,cs,S,rfl,h,q⟩:=h;have hu:=hr.units;have UX:=oo hr;have hx:=h.hx;obtain⟨ls,hls,hlr⟩:=h.l LM;obtain⟨ms,hms,_⟩:=h.l LI;exists _,(ah<|ao<|bx<|aa (bx<|aa (aM rfl T.g_SPOILER)<|aa (bg dF rfl T.list OI<|aa (bT UX (bu (pv 0) rfl) (aM rfl T.g_SPOILER) λ_ _=>rfl) ae) ae)<|aa (bx<|aa (aM rfl T.g_WISHER)<|aa (bg dF rfl T.list OI<|aa (bT UX (bu (pv 0) rfl) (aM rfl T.g_WISHER) λ_ _=>rfl) ae) ae) ae);refine⟨_,rfl,B.x,CS,B.dx,_,_,rfl,hx,T.cl,T.nL,rfl,B.dl,_,rfl,dN h.hl LM,B.ll LM,ls,rfl,.inl<|SqL.of hls,λl1 n1=>⟨(by show 2<=sizeLine;decide),λa na=>?_⟩⟩;have k1:=ag n1<|.lst ls;have s1:upd H l1 (.lst ls) l1=A' (.lst ls):=ad;generalize upd H l1 (.lst ls)=H1 at k1 s1 na ⊢;have k2:=ag na<|.tup [.str<|G' "spoiler",.ref l1];have s2:upd H1 a (.tup [.str<|G' "spoiler",.ref l1]) a=A' (.tup [.str<|G' "spoiler",.ref l1]):=ad;generalize upd H1 a (.tup [.str<|G' "spoiler",.ref l1])=H2 at k2 s2 ⊢;have k02:=k1.trans k2;refine⟨_,rfl,B.x,CS,B.dx,_,_,rfl,k02 _ _ hx,T.cl,T.nL,rfl,B.dl,_,rfl,dN (k02 _ _ h.hl) LI,B.ll LI,ms,rfl,.inl<|SqL.of<|k02 _ _ hms,λl3 n3=>⟨(by show 2<=sizeLine;decide),λb nb=>⟨(by show 2<=sizeLine;decide),λr nr=>?_⟩⟩⟩;have k3:=ag n3<|.lst ms;generalize upd H2 l3 (.lst ms)=H3 at k3 nb nr ⊢;have k4:=ag nb<|.tup [.str<|G' "wisher",.ref l3];have k34:=k3.trans k4;exact q r a b l1 ls _ (k02.trans<|k34.trans<|ag nr _) ad ((k34.trans<|ag nr _) _ _ s2) (((k2.trans k34).trans<|ag nr _) _ _ s1)<|cR (k02.trans<|k34.trans<|ag nr _) _ _ hlr
def tX:Sp:=λvs H Q _=>∃(t:Str) (cs:gV (gV Int)),vs=[.str<|NO (G' "\n")<|fq t cs]/\WS t/\yt t cs/\fo (eO t cs)=LI/\∀p q xs H',Same H H'->H' p=A' (.tup [.str t,.ref q])->H' q=A' (.lst xs)->CLs H' cs xs->Q (.ref p) H'
def xA:Sp:=λvs H Q _=>∃(hw:Md) (ls:gV Ln),vs=[.str<|NO (G' "\n")<|fH (aK hw) ls]/\ls.length<=3000/\(∀L∈ls,Iw hw L)/\∀p q xs H',Same H H'->H' p=A' (.tup [.str<|aK hw,.ref q])->H' q=A' (.lst xs)->LnAs H' ls xs->Q (.ref p) H'
theorem y_(F:Fun K "read_sentence" "read_sentence" qK f fd)(T:Kd K mg CN)(U':zb P w K mg base 1 "read_turns" f1 d1 ["row"] (nK CN))(Ur:zb P w K mg base 3 "read_clause" f2 d2 ["row"] (Cr CN))(Us:Fn P w K mg base 3 "is_sentence" f3 d3 ["thing"] nJ):
  FnOk P w K mg base b7 4 f fd ["text"] tX:=(Cu F T U' Ur Us).down λvs H Q E h=>by
 obtain⟨t,cs,rfl,hw,ok,hb,q⟩:=h;have hs:mQ (NO (G' "\n")<|fq t cs)=A' (t,cs):=uU hw (λc hc n hn=>by have:=ok.nl c hc n hn;lia) hb;refine⟨_,rfl,by have:=(AK ok).1;lia,λt' cs' e p qa xs H' k _ h1 h2 h3=>?_,λe=>by rw[hs]at e;cases e⟩;rw[hs]at e;cases e;exact q p qa xs H' k h1 h2 h3
theorem C3(F:Fun K "read_paper" "read_paper" xq f fd)(T:EQ K mg CN)(V5:zb P w K mg base 4 "read_line" f1 d1 ["row","hand"] (Cy CN)):FnOk P w K mg base b7 5 f fd ["text"] xA:=(ET F T V5).down λvs H Q E h=>by
 obtain⟨hw,ls,rfl,hl,g,q⟩:=h;have hs:ke (NO (G' "\n")<|fH (aK hw) ls)=A' (aK hw,ls):=sC (lO hw) λL hL=>⟨(g L hL).b,λn hn=>by have:=(g L hL).s.nl n hn;lia⟩;refine⟨_,rfl,(y6 (lO hw) hl λL hL=>(g L hL).s).1,λh' ls' e p qa xs H' k _ h1 h2 h3=>?_,λe=>by rw[hs]at e;cases e⟩;rw[hs]at e;cases e;exact q p qa xs H' k h1 h2 h3
abbrev za:NN:=cZ 74
inductive Ki (K:K')(vs:gV V)(H:Hp)(Q:VK):Prop
 |mk (a:LJ)(ns:gV Int)(h0:vs=[.ref a])(h1:SqL K H a (ns.map V.int))(h2:ns.length<=63)(h3:∀H',Q (.bl LI) H'):Ki K vs H Q
def xB(K:K'):Sp:=λvs H Q _=>Ki K vs H Q
inductive PapW (t:Str)(cs:gV (gV Int))(hw:Md)(v:V)(H:Hp):Prop
 |mk (r l:LJ)(ys:gV V)(ls:gV Ln)(out:gV (gV Int))(h0:v=.ref r)(h1:H r=A' (.tup [.str<|aK hw,.ref l]))(h2:H l=A' (.lst ys))(h3:LnAs H ls ys)(h4:∀L∈ls,Iw hw L)(h5:ls.length<=2048)(h6:bL t cs hw [] (ls.map li)=(out,LI))(h7:mZ out=LI)(h8:∀d∈ls.map li,be d):PapW t cs hw v H
theorem PapW.mono(h:PapW t cs hw v H)(k:Same H H'):PapW t cs hw v H':=by
 obtain⟨r,l,ys,ls,out,h0,h1,h2,h3,h4,h5,h6,h7,h8⟩:=h;exact⟨r,l,ys,ls,out,h0,k _ _ h1,k _ _ h2,LnAs.mono k h3,h4,h5,h6,h7,h8⟩
theorem C4(hr:H r=A' (.tup [.str<|aK hw,.ref l]))(hl:H l=A' (.lst ys))(hy:c9 H ds ys)(QG:bL t cs hw [] ds=(out,LI))(g:∀d∈ds,be d)(hd:ds.length<=2048)(he:out.getLast?=A' [])(ht:t.length<=8)(Qx:cs.length<=2000):PapW t cs hw (.ref r) H:=by
 obtain⟨ls,e,h4⟩:=EY QG g ht Qx hd;subst e;exact⟨r,l,ys,ls,out,rfl,hr,hl,C2 hy,h4,by rw[J']at hd;exact hd,QG,kF he,g⟩
theorem EZ(ok:SOk 7 t cs):yt t cs/\fo (eO t cs)=true:=by
 have ht:=ok.len;exists ⟨by lia,by have:=ok.many;lia,λc hc=>(si (ok.cl c hc)<|by lia).1,λc hc=>(si (ok.cl c hc)<|by lia).2⟩;rw[AJ,NU];refine⟨?_,Mu.mpr λc hc=>?_⟩
 ·exact Mu.mpr λch YL=>by
   obtain rfl|rfl:=ok.ws ch YL<;>rfl
 ·obtain⟨u,b⟩:=oK<|ok.cl c hc;show fO (t.length:Int) 0 (c.map NV)=LI
  refine setB_iff.mpr ⟨Nc.mpr ⟨λx hx=>?_,u⟩,λl hl=>(b l hl).2⟩;obtain⟨l,hl,rfl⟩:=MF.mp hx;have:=(b l hl).1;lia
theorem vG(hc:∀c∈cs,aD t.length c)(ht:t.length<=7)(n:Nat):gX t cs (lL t cs n dZ)/\((lL t cs n dZ).lw LM).length<=1024:=by
 have h1:=nA (lL t cs n dZ) LM;have h3:2 ^ (t.length+1)<=2 ^ 8:=O5 (by decide) (by lia);have h4:(2:Nat) ^ 8=256:=by decide
 obtain L|W:=Cl hc (by lia) n
 ·have h2:=L.few;have h5:=kx t.length _ L.I.blen;exact⟨L.I,by lia⟩
 ·have h2:=W.few;exact⟨W.I,by lia⟩
inductive Kj (a p ra rb g:LJ)(Hb:Hp)(σ:St)(H:Hp):Prop
 |mk (v5 v6:LH V)(h0:σ=[A'<|.ref a,A'<|.ref p,A'<|.ref ra,A'<|.ref rb,A'<|.ref g,v5,v6,LL,LL,LL])(h:Same Hb H):Kj a p ra rb g Hb σ H
theorem Gj:aq ["_law_script","_law_sentence_here","_law_paper","_law_short","_law_again","_law_told","_law_read","_law_searcher","_law_wide","_law_wins"] ["_law_script"] (aj za):=⟨rfl,rfl,rfl,by decide+kernel,rfl,by decide+kernel,by decide+kernel⟩
theorem Il{f3 f4 f5 f6 f7 f8 f9 f10 g1 g2 g3:LJ}{d3 d4 d5 d6 d7 d8 d9 d10 e1 e2 e3:Ms}(F:Fun K "law" "law" za f fd)(QV:Fn P w K mg base 1 "_law_cell_at" f0 d0 ["_law_script","_law_k"] (uW K))(Ye:Fn P w K mg base 2 "_law_sentence" f1 d1 ["_law_script","_law_most"] (AU K))(WC:Fn P w K mg base 2 "_law_winner" f2 d2 ["_law_sentence_here"] tE)
  (U9:Fn P w K mg base 10 "settled_paper" f3 d3 ["sentence"] pA) (RL:Fn P w K mg base 8 "shortened_paper" f4 d4 ["sentence","paper"] BE) (Yb:Fn P w K mg base 4 "read_sentence" f5 d5 ["text"] tX) (XM:Fn P w K mg base 2 "shown_sentence" f6 d6 ["sentence"] xr) (aau:Fn P w K mg base 5 "read_paper" f7 d7 ["text"] xA) (ZQ:Fn P w K mg base 3 "shown_paper" f8 d8 ["paper"] xv)
  (abV:Fn P w K mg base 7 "is_whole" f9 d9 ["sentence","paper"] xx) (XN:Fn P w K mg base 7 "joined_clauses" f10 d10 ["sentence","paper"] C0) (Xd:Ku P w K mg base 4 "Searcher" CS g1 e1 ["self","sentence"] (qD CS)) (Ggo:mH P w K mg base b7 8 CS "go" g2 e2 ["self","many"] (Cb CS)) (adj:mH P w K mg base b7 1 CS "learnt" g3 e3 ["self"] (pD CS)):
  FnOk P w K mg base b7 11 f fd ["_law_script"] (xB K):=by
 have sc:=Gj;refine F.ok Gj (λvs H Q E h=>?_) λOT A outer s H vs Q E hr h=>?_
 ·obtain⟨a,ns,rfl,_⟩:=h;rfl
 obtain⟨a,ns,rfl,hS,hl,q⟩:=h;have hu:=hr.units;refine⟨_,(af (au (i:=1) sc.nd rfl (MA rfl)<|aG Ye hr (by lia) rfl<|aa (pv 0)<|aa ai ae)
  (af (au (i:=2) sc.nd rfl (MA rfl)<|aG U9 hr (by lia) rfl<|aa (pv 1) ae)
  (af (au (i:=3) sc.nd rfl (MA rfl)<|aG RL hr (by lia) rfl<|aa (pv 1)<|aa (pv 2) ae)
  (af (au (i:=4) sc.nd rfl (MA rfl)<|aG Yb hr (by lia) rfl<|aa (aG XM hr (by lia) rfl<|aa (pv 1) ae) ae)
  (af (aS (ay (ic hu) (pv 4) (pv 1)<|aB _) (ah<|ao c_) aA)
  (af (cO M_ rfl (bw<|bY<|aa (pv 2)<|aa (pv 3) ae) (aE (i:=5) sc.nd rfl<|MA rfl)
   (af (au (i:=6) sc.nd rfl (MA rfl)<|aG aau hr (by lia) rfl<|aa (aG ZQ hr (by lia) rfl<|aa (pv 5) ae) ae)
   (ah<|aS (PW.pt<|gf (ay (ic hu) (pv 6) (pv 5)<|aB _)<|fB<|ay Ea (aG abV hr (by lia) rfl<|aa (pv 4)<|aa (pv 6) ae) c_<|aB _) (ah<|ao c_) aA)))
  (af (au (i:=7) sc.nd rfl (MA rfl)<|Fu Xd hr (by lia) rfl<|aa (pv 1) ae)
  (af (bA<|gT Ggo (pv 7) hr (by lia)<|aa (aU dW (aU fR (aG QV hr (by lia) rfl<|aa (pv 0)<|aa ai ae) ai) ai) ae)
  (af (au (i:=8) sc.nd rfl (MA rfl)<|aG XN hr (by lia) rfl<|aa (pv 1)<|aa (av am (uN adj (pv 7) hr<|by lia) ai λ_ _=>rfl) ae)
  (af (au (i:=9) sc.nd rfl (MA rfl)<|aG WC hr (by lia) rfl<|aa (pv 1) ae)
  (ah<|ao<|dm (aY (aX hu) (av am (pv 2) ai λ_ _=>rfl) (pv 9)<|aB _)<|dm (aY (aX hu) (aG WC hr (by lia) rfl<|aa (pv 8) ae) (pv 9)<|aB _)<|fh<|aY (aX hu) (av am (aG U9 hr (by lia) rfl<|aa (pv 8) ae) ai λ_ _=>rfl) (pv 9)<|aB _))))))))))),?_⟩
 refine⟨_,rfl,a,ns,7,rfl,hS,hl,(by decide),(by decide),λp t cs H1 k1 hd ok _=>?_⟩;have htl:=ok.len;have Wx:=ok.many;have QH:∀c∈cs,aD t.length c:=λc hc=>oK<|ok.cl c hc;obtain⟨sh,sb⟩:=EZ ok;obtain⟨pp,qa,zs,ep,h1,h2,h3⟩:=rD hd;cases ep;have E:=Ch QH (by lia);have aa6:cG t cs t.length 0 0=d_ t cs:=kR QH E.run<|gD E.last;have hS1:=k1.seq hS;clear k1 hS;refine⟨_,rfl,p,qa,t,zs,cs,rfl,h1,h2,h3,QH,(by lia),(by lia),λra l ys H2 k2 _ _ hr2 Up T8=>?_⟩;have acx:=E.few;have P1:PapW t cs (d_ t cs) (.ref ra) H2:=C4 hr2 Up T8 E.run E.good E.few E.last (by lia) (by lia);refine⟨_,rfl,_,rfl,p,qa,ra,l,t,d_ t cs,zs,ys,cs,Cg t cs,tq t cs,rfl,k2 _ _ h1,(by lia),k2 _ _ h2,h3.mono k2,(by lia),QH,hr2,Up,T8,(by lia),E.good,E.run,kF E.last,λrb l' ys' nd H3 k3 _ _ hr3 Zz ac8 hp hs=>?_⟩;have Sh:=wM E.run E.good (gD E.last) hp hs;have U8:(nd.map λp=>(tq t cs).getD p.toNat []).getLast?=A' []:=by
  rw[W7,Sh.last];obtain⟨_,h2⟩:=iu<|gD E.last;show A' ((tq t cs).getD ((tq t cs).idxOf []:Nat) [])=A' []
  rw[LK,h2];rfl
 have P2:PapW t cs (d_ t cs) (.ref rb) H3:=C4 hr3 Zz ac8 Sh.run Sh.good (by unfold fj;rw[J'];have:=Sh.few;lia) U8 (by lia) (by lia);have k23:=k2.trans k3;have P1':=P1.mono k3;have hd3:=jq (k23 _ _ h1) (k23 _ _ h2)<|h3.mono k23;refine⟨_,rfl,.ref p,t,cs,rfl,hd3,sh,λH4 k4=>⟨t,cs,rfl,ok.ws,sh,sb,λg qg xg H5 k5 hg1 hg2 hg3=>?_⟩⟩;have k45:=k4.trans k5;have k25:=k23.trans k45;refine⟨_,rfl,_,rfl,rG (jq hg1 hg2 hg3) (jq (k25 _ _ h1) (k25 _ _ h2)<|h3.mono k25) (rF ok.ws cs) ⟨LM,rfl,aI ?_⟩⟩;refine⟨_,rfl,_,rfl,(by show 2<=sizeLine;decide),λla nla=>?_⟩;have k6:=ag nla<|.lst [.ref ra,.ref rb];have s6:upd H5 la (.lst [.ref ra,.ref rb]) la=A' (.lst [.ref ra,.ref rb]):=ad;generalize upd H5 la (.lst [.ref ra,.ref rb])=Hb at k6 s6 ⊢;have kb:=k25.trans k6;have afE:=k6 _ _ hg1;have afC:=k6 _ _ hg2;have afB:=hg3.mono k6;have Pb:∀x∈[V.ref ra,V.ref rb],PapW t cs (d_ t cs) x Hb:=λx hx=>by
  obtain rfl|hx:=Mn.mp hx
  ·exact P1'.mono<|k45.trans k6
  ·rw[LN.mp hx];exact P2.mono<|k45.trans k6
 have hrb:Hb ra=A' (.tup [.str<|aK<|d_ t cs,.ref l]):=(k3.trans<|k45.trans k6) _ _ hr2;have hSb:=kb.seq hS1;have hb1:=kb _ _ h1;have hb2:=kb _ _ h2;have hb3:=h3.mono kb;clear k2 k3 k4 k5 k6 k23 k45 k25 kb P1 P1' P2 hg1 hg2 hg3 hd3 hr2 Up hr3 Zz T8 ac8 nla hS1 h1 h2 h3 hd;refine⟨la,rfl,⟨_,SqL.of s6⟩,fD (K:=K) (a:=la) (xs:=[.ref ra,.ref rb]) (λ_ σ H=>Kj a p ra rb g Hb σ H) ⟨_,_,rfl,Same.refl _⟩ (λi σ H _ h=>?_) (λi x σ H hx h=>?_) λσ H h=>?_⟩
 ·obtain⟨v5,v6,rfl,k⟩:=h;exact SqL.of<|k _ _ s6
 ·obtain⟨v5,v6,rfl,k⟩:=h;obtain⟨r,l1,ys1,ls,out,rfl,p1,p2,p3,p4,p5,p6,p7,p8⟩:=(Pb x<|LZ hx).mono k;have X3:=Paired.length p3;refine⟨_,rfl,r,l1,ys1,aK<|d_ t cs,ls,rfl,p1,p2,p3,lO _,(by lia),(λL hL=>(p4 L hL).s),λH7 k7=>⟨d_ t cs,ls,rfl,(by lia),p4,λr2 l2 ys2 H8 k8 q1 q2 q3=>?_⟩⟩;have k78:=k7.trans k8;have kk:=k.trans k78;have hsh:=uT (lO<|d_ t cs) λL hL=>(p4 L hL).s.w;refine⟨_,rfl,_,rfl,rG (AL q1 q2 q3) (AL (k78 _ _ p1) (k78 _ _ p2)<|LnAs.mono k78 p3) hsh ⟨LM,rfl,aI ?_⟩⟩;refine⟨_,rfl,_,rfl,g,qg,r2,l2,t,d_ t cs,xg,ys2,cs,ls.map li,out,rfl,kk _ _ afE,(by lia),kk _ _ afC,afB.mono kk,(by lia),QH,q1,q2,q3.rds,(by rw[J'];lia),(λd hd=>(qu<|p8 d hd).1),p6,λH9 k9=>⟨_,_,rfl,rfl,?_⟩⟩;rw[p7];exact⟨_,rfl,aI ⟨_,_,rfl,kk.trans k9⟩⟩
 obtain⟨v5,v6,rfl,k⟩:=h;have hp0:=k _ _ hb1;have hq0:=k _ _ hb2;have hc0:=hb3.mono k;have hra:=k _ _ hrb;have hS0:=k.seq hSb;clear hb1 hb2 hb3 hrb hSb Pb afE afC afB s6 k;refine⟨_,rfl,λx dx nx ndx S7=>?_⟩;have j1:Same H (upd (upd H dx<|.own x) x<|.ins CS dx []):=λb o e=>by
  rw[al<|ak e nx,al<|ak e ndx];exact e
 refine⟨x,dx,p,qa,t,zs,cs,rfl,ad,j1 _ _ hp0,j1 _ _ hq0,hc0.mono j1,QH,(by lia),(by lia),(λ_=>False),(λ_ z=>z.elim),λB H2 ex _ s2 b2 YZ=>⟨rfl,?_⟩⟩;have k2:Same H H2:=λb o e=>b2 _ _ (ak e nx)<|j1 _ _ e;have aa5:∀a,B.own a->H a=none:=λa ha=>by
  obtain z|z:=YZ a ha
  ·rw[z];exact nx
  ·exact j1.free z
 subst ex;obtain⟨n,hn⟩:∃n:Nat,eZ ns 40 / 3 % 300=(n:Int):=⟨(eZ ns 40 / 3 % 300).toNat,by lia⟩;refine⟨_,rfl,B.x,B.dx,_,rfl,s2.hx,rfl,_,rfl,a,ns,40,rfl,k2.seq hS0,(by decide),_,_,rfl,rfl,⟨by decide,by decide⟩,_,_,rfl,rfl,(by show(0:Int) < 300;decide),?_⟩;rw[hn];refine⟨B,t,cs,dZ,n,rfl,s2,.inl iQ,QH,(by lia),(by lia),λH3 s3 m3=>?_⟩;have k3:Same H H3:=λb o e=>m3 _ _ (λz=>by rw[aa5 b z]at e;cases e)<|k2 _ _ e;obtain⟨I,hfw⟩:=vG QH (by lia) n;generalize lL t cs n dZ=S at s3 I hfw ⊢;clear s2 m3 b2 YZ aa5 j1 nx ndx S7 k2;have QG:=I.run LM;have hol:(S.ow LM).length=(S.lw LM).length:=by
  have:=cJ QG;simpa using this
 have afm:∀c∈S.ow LM,aD t.length c:=sR QH I LM;have hj:∀c∈cy cs (S.ow LM),aD t.length c:=λc hm=>(joinL_mem.mp hm).elim (QH c)<|afm c;have hjl:=j9 (S.ow LM) cs;have hjw:=(uI QH afm QG).trans aa6;have E2:=Ch hj (by lia);have hjs:d_ t (cy cs<|S.ow LM)=d_ t cs:=(kR hj E2.run<|gD E2.last).symm.trans hjw;refine⟨_,rfl,_,rfl,B.x,B.dx,_,rfl,s3.hx,rfl,B,t,cs,S,rfl,s3,λr0 a0 b0 l0 ys0 H4 k4 r1 r2 r3 r4=>?_⟩;have k04:=k3.trans k4;refine .inr<|.inl ⟨r0,_,0,.ref a0,rfl,rfl,SqT.of r1,rfl,p,qa,a0,l0,t,zs,ys0,cs,S.lw LM,S.ow LM,rfl,k04 _ _ hp0,(by lia),k04 _ _ hq0,hc0.mono k04,(by lia),QH,r2,r3,r4,(by lia),(λd hd=>(qu<|I.good LM d hd).1),QG,λr5 c5 ys5 H5 k5 _ _ w1 w2 w3=>?_⟩;have k05:=k04.trans k5;refine⟨_,rfl,p,qa,t,zs,cs,rfl,k05 _ _ hp0,k05 _ _ hq0,hc0.mono k05,ok.rng,ok.ws,(by lia),λH6 k6=>?_⟩;rw[aa6];have k06:=k05.trans k6;refine⟨_,rfl,.inr<|.inl ⟨ra,_,0,_,rfl,rfl,SqT.of<|k06 _ _ hra,rfl,_,rfl,.inl ⟨rfl,LI,by rw[Ma rfl],aJ ?_⟩⟩⟩;refine⟨_,rfl,r5,c5,t,ys5,_,rfl,k6 _ _ w1,k6 _ _ w2,w3.mono k6,(λc hm l hl=>?_),ok.ws,(by lia),λH7 k7=>?_⟩
 ·have:=(hj c hm).2 l hl;exact⟨by lia,this.2⟩
 rw[hjw];refine⟨_,rfl,.inl ⟨rfl,LI,by rw[Ma rfl],aJ ?_⟩⟩;have k67:=k6.trans k7;refine⟨_,rfl,r5,c5,t,ys5,_,rfl,k67 _ _ w1,k67 _ _ w2,w3.mono k67,hj,(by lia),(by lia),λr6 l6 ys6 H8 k8 _ _ u1 u2 u3=>?_⟩;rw[hjs]at u1;refine .inr<|.inl ⟨r6,_,0,_,rfl,rfl,SqT.of u1,rfl,_,rfl,.inl ⟨rfl,?_⟩⟩;rw[Ma rfl];exact q _
abbrev fqq(K n s f e):=Fun K n n s f e
theorem all_mk {l:R0}{w:MK}{K:K'}{h:M8}{mg:Str->LH LF}{fa:LJ}(X:K.In h)(G:h.Ns L7 mg)(hfa:mg "law"=A' (.ref fa)){CS CF:LJ}{tM tF tM9 tN:Tok}(a1:L_ K L7 "is_number"=A' (A' (.ref f1)))(F1:fqq K "is_number" HC f1 e1)(a2:L_ K L7 "is_set"=A' (A' (.ref f2)))(F2:fqq K "is_set" HE f2 e2)(a3:L_ K L7 "is_turns"=A' (A' (.ref f3)))(F3:fqq K "is_turns" vy f3 e3)(a4:L_ K L7 "is_sentence"=A' (A' (.ref f4)))(F4:fqq K "is_sentence" qH f4 e4)(a5:L_ K L7 "stands_by"=A' (A' (.ref f5)))(F5:fqq K "stands_by" qC f5 e5)(a6:L_ K L7 "hand_of"=A' (A' (.ref f6)))(F6:fqq K "hand_of" qo f6 e6)(a7:L_ K L7 "other_hand"=A' (A' (.ref f7)))(F7:fqq K "other_hand" uZ f7 e7)(a8:L_ K L7 "literal_by"=A' (A' (.ref f8)))(F8:fqq K "literal_by" vj f8 e8)(a9:L_ K L7 "variables_of"=A' (A' (.ref f9)))(F9:fqq K "variables_of" AZ f9 e9)(a10:L_ K L7 "stands_both_ways"=A' (A' (.ref f10)))(F10:fqq K "stands_both_ways" A2 f10 e10)(a11:L_ K L7 "joined"=A' (A' (.ref f11)))(F11:fqq K "joined" qq f11 e11)(a12:L_ K L7 "dropped"=A' (A' (.ref f12)))(F12:fqq K "dropped" mW f12 e12)(a13:L_ K L7 "is_place"=A' (A' (.ref f13)))(F13:fqq K "is_place" u6 f13 e13)(a14:L_ K L7 "begins_with"=A' (A' (.ref f14)))(F14:fqq K "begins_with" A5 f14 e14)(a16:L_ K L7 "given_set"=A' (A' (.ref f16)))(F16:fqq K "given_set" u7 f16 e16)(a17:L_ K L7 "hits"=A' (A' (.ref f17)))(F17:fqq K "hits" qr f17 e17)(a19:L_ K L7 "hits_each"=A' (A' (.ref f19)))(F19:fqq K "hits_each" u_ f19 e19)(a20:L_ K L7 "hits_set"=A' (A' (.ref f20)))(F20:fqq K "hits_set" vc f20 e20)(a21:L_ K L7 "join_set"=A' (A' (.ref f21)))(F21:fqq K "join_set" u9 f21 e21)(a22:L_ K L7 "drop_set"=A' (A' (.ref f22)))(F22:fqq K "drop_set" u8 f22 e22)(a23:L_ K L7 "line_set"=A' (A' (.ref f23)))(F23:fqq K "line_set" Bf f23 e23)(a24:L_ K L7 "sets_of"=A' (A' (.ref f24)))(F24:fqq K "sets_of" qt f24 e24)(a25:L_ K L7 "end_empty"=A' (A' (.ref f25)))(F25:fqq K "end_empty" HH f25 e25)(a26:L_ K L7 "is_whole"=A' (A' (.ref f26)))(F26:fqq K "is_whole" vE f26 e26)(a27:L_ K L7 "joined_clauses"=A' (A' (.ref f27)))(F27:fqq K "joined_clauses" tU f27 e27)(a28:L_ K L7 "whole_sets"=A' (A' (.ref f28)))(F28:fqq K "whole_sets" HJ f28 e28)(a29:L_ K L7 "named_by"=A' (A' (.ref f29)))(F29:fqq K "named_by" Bu f29 e29)(a30:L_ K L7 "renamed"=A' (A' (.ref f30)))(F30:fqq K "renamed" yG f30 e30)(a32:L_ K L7 "needed_by"=A' (A' (.ref f32)))(F32:fqq K "needed_by" EA f32 e32)(a33:L_ K L7 "first_places"=A' (A' (.ref f33)))(F33:fqq K "first_places" EE f33 e33)(a34:L_ K L7 "shortened_paper"=A' (A' (.ref f34)))(F34:fqq K "shortened_paper" HR f34 e34)(a35:L_ K L7 "rest_behind"=A' (A' (.ref f35)))(F35:fqq K "rest_behind" vk f35 e35)(a36:L_ K L7 "hitting_set"=A' (A' (.ref f36)))(F36:fqq K "hitting_set" B2 f36 e36)(a37:MV K (.ref CS) "__init__"=A' (A' (.ref f37)))(i37:Oq K (.ref f37)=LI)(F37:Fun K "__init__" "Searcher.__init__" vt f37 e37)(a38:MV K (.ref CS) "put"=A' (A' (.ref f38)))(i38:Oq K (.ref f38)=LI)(F38:Fun K "put" "Searcher.put" BN f38 e38)(a39:MV K (.ref CS) "learn"=A' (A' (.ref f39)))(i39:Oq K (.ref f39)=LI)(F39:Fun K "learn" "Searcher.learn" qz f39 e39)(a40:MV K (.ref CS) "learn_join"=A' (A' (.ref f40)))(i40:Oq K (.ref f40)=LI)(F40:Fun K "learn_join" "Searcher.learn_join" vi f40 e40)(a41:MV K (.ref CS) "fill_in"=A' (A' (.ref f41)))(i41:Oq K (.ref f41)=LI)(F41:Fun K "fill_in" "Searcher.fill_in" vm f41 e41)(a42:MV K (.ref CS) "turn_back"=A' (A' (.ref f42)))(i42:Oq K (.ref f42)=LI)(F42:Fun K "turn_back" "Searcher.turn_back" vn f42 e42)(a43:MV K (.ref CS) "look"=A' (A' (.ref f43)))(i43:Oq K (.ref f43)=LI)(F43:Fun K "look" "Searcher.look" vo f43 e43)(a44:MV K (.ref CS) "go"=A' (A' (.ref f44)))(i44:Oq K (.ref f44)=LI)(F44:Fun K "go" "Searcher.go" Ia f44 e44)(a45:MV K (.ref CS) "learnt"=A' (A' (.ref f45)))(i45:Oq K (.ref f45)=LI)(F45:Fun K "learnt" "Searcher.learnt" nO f45 e45)(a46:MV K (.ref CS) "paper"=A' (A' (.ref f46)))(i46:Oq K (.ref f46)=LI)(F46:Fun K "paper" "Searcher.paper" qE f46 e46)(a47:L_ K L7 "settled_paper"=A' (A' (.ref f47)))(F47:fqq K "settled_paper" nI f47 e47)(a48:L_ K L7 "is_line"=A' (A' (.ref f48)))(F48:fqq K "is_line" Cv f48 e48)(a49:L_ K L7 "shown_row"=A' (A' (.ref f49)))(F49:fqq K "shown_row" qM f49 e49)(a51:L_ K L7 "shown_sentence"=A' (A' (.ref f51)))(F51:fqq K "shown_sentence" vB f51 e51)(a52:L_ K L7 "shown_line"=A' (A' (.ref f52)))(F52:fqq K "shown_line" CJ f52 e52)(a53:L_ K L7 "shown_paper"=A' (A' (.ref f53)))(F53:fqq K "shown_paper" vC f53 e53)(a54:L_ K L7 "read_number"=A' (A' (.ref f54)))(F54:fqq K "read_number" Co f54 e54)(a55:L_ K L7 "read_numbers"=A' (A' (.ref f55)))(F55:fqq K "read_numbers" vA f55 e55)(a56:L_ K L7 "read_clause"=A' (A' (.ref f56)))(F56:fqq K "read_clause" Ie f56 e56)(a57:L_ K L7 "read_turns"=A' (A' (.ref f57)))(F57:fqq K "read_turns" qJ f57 e57)(a58:L_ K L7 "read_sentence"=A' (A' (.ref f58)))(F58:fqq K "read_sentence" qK f58 e58)(a59:L_ K L7 "read_line"=A' (A' (.ref f59)))(F59:fqq K "read_line" Ih f59 e59)(a60:L_ K L7 "read_paper"=A' (A' (.ref f60)))(F60:fqq K "read_paper" xq f60 e60)(a61:L_ K L7 "_law_cell_at"=A' (A' (.ref f61)))(F61:fqq K "_law_cell_at" AQ f61 e61)(a62:L_ K L7 "_law_mix"=A' (A' (.ref f62)))(F62:fqq K "_law_mix" Hy f62 e62)(a63:L_ K L7 "_law_drawn"=A' (A' (.ref f63)))(F63:fqq K "_law_drawn" uV f63 e63)(a64:L_ K L7 "_law_sentence"=A' (A' (.ref f64)))(F64:fqq K "_law_sentence" AR f64 e64)(a65:L_ K L7 "_law_levels"=A' (A' (.ref f65)))(F65:fqq K "_law_levels" qF f65 e65)(a66:L_ K L7 "_law_winner"=A' (A' (.ref f66)))(F66:fqq K "_law_winner" qG f66 e66)(a67:L_ K L7 "law"=A' (A' (.ref f67)))(F67:fqq K "law" za f67 e67)(z0:L_ K L7 "len"=A' LL)(z1:L_ K L7 "range"=A' LL)(z2:L_ K L7 "tuple"=A' LL)(z3:L_ K L7 "sorted"=A' LL)(z4:L_ K L7 "isinstance"=A' LL)(z5:L_ K L7 "int"=A' LL)(z6:L_ K L7 "bool"=A' LL)(z7:L_ K L7 "list"=A' LL)(z8:L_ K L7 "abs"=A' LL)(z9:L_ K L7 "all"=A' LL)(z10:L_ K L7 "zip"=A' LL)(z11:L_ K L7 "set"=A' LL)(z12:L_ K L7 "any"=A' LL)(z13:L_ K L7 "max"=A' LL)(z14:L_ K L7 "enumerate"=A' LL)(z15:L_ K L7 "dict"=A' LL)(z16:L_ K L7 "str"=A' LL){tW tS:Tok} (zW:L_ K L7 "WISHER"=A' (A' (.str (G' "wisher") tW)))(zS:L_ K L7 "SPOILER"=A' (A' (.str (G' "spoiler") tS)))(CSy:L_ K L7 "Searcher"=A' (A' (.ref CS)))(zM:L_ K L7 "MOST_LOOKS"=A' (A' (.int 10000 tM)))(c1:QI K CS QJ=LI)(c2:Rp K CS=LI)(c3:Tn K CS=LI)(c4:MV K (.ref CS) "__setattr__"=A' (A' (.builtin "object.__setattr__")))(n1:MV K (.ref CS) "sentence"=A' LL)(n2:MV K (.ref CS) "lines"=A' LL)(n3:MV K (.ref CS) "places"=A' LL)(n4:MV K (.ref CS) "begun"=A' LL)(n5:MV K (.ref CS) "firsts"=A' LL)(n6:MV K (.ref CS) "rests"=A' LL)(n7:MV K (.ref CS) "winner"=A' LL)(CSmk:UT K CS=LI)(CSkc:Pk K (.ref CS)=LI)(yCF:L_ K L7 "NoText"=A' (A' (.ref CF)))(zF:L_ K L7 "FIGURES"=A' (A' (.str (G' "0123456789") tF)))(zM9:L_ K L7 "MOST_FIGURES"=A' (A' (.int 9 tM9)))(zN:L_ K L7 "NO_TURNS"=A' (A' (.str (G' "-") tN)))(xCF:Qm K CF [.type "ValueError",.type "Exception",.type "BaseException",.type "object"] "ValueError.__new__"=LI):∃ fd:Ms,(∀ (s:LR) (v:LF),WV s fd ⟨[v],[]⟩ [("_law_script",v)])/\∀ base:M8,K.In base->base.Ns L7 mg->FnOk l.prog w K mg base b7 11 fa fd ["_law_script"] (xB K):=by
 have e:=hfa.symm.trans (Of X G a67);cases e;have TG:Kv mg:=⟨Mh X G z0,Mh X G z1,Mh X G z2,Mh X G z3⟩;have TS:yB mg:=⟨Mh X G z4,Mh X G z5,Mh X G z6,Mh X G z2,Mh X G z7,Mh X G z8,Mh X G z0,Mh X G z9,Mh X G z1,Mh X G z10,Mh X G z3,Mh X G z11,Mh X G z12,Mh X G z13⟩;have TH:Kw mg:=⟨Mh X G z0,⟨_,Of X G zW,⟨_,rfl⟩⟩,⟨_,Of X G zS,⟨_,rfl⟩⟩⟩;have TE:Lu mg:=⟨Mh X G z14⟩;have TV:Lf mg:=⟨Mh X G z0,Mh X G z1,Mh X G z8,Mh X G z5⟩;have TFs:J3 mg:=⟨Mh X G z14⟩;have TSh:J6 mg:=⟨Mh X G z14,Mh X G z15⟩;have TNe:JZ mg:=⟨Mh X G z1,Mh X G z3⟩;have TSt:Id mg:=⟨Mh X G z4,Mh X G z5,Mh X G z6,Mh X G z2,Mh X G z7,Mh X G z16,Mh X G z8,Mh X G z0,Mh X G z9⟩;have TX:Lw mg:=⟨Mh X G z5,Mh X G z16⟩;have TXp:Kg mg:=⟨Mh X G z7,Mh X G z16⟩;have Y4:Cls K CS:=⟨c1,c2,c3,c4⟩;have TSr:nz K mg CS:=⟨TS.len,TS.list,Y4,n1,n2,n3,n4,n5,n6,n7,TH.g_WISHER,TH.g_SPOILER⟩;have THs:H_ mg:=⟨TS.abs,TS.len,TS.sorted,TS.tuple,TH.g_WISHER⟩;have TSe:Kb mg:=⟨⟨_,Of X G zM,⟨_,rfl⟩⟩⟩;have TT:Kd K mg CF:=⟨TS.any,TS.int,TS.len,TS.tuple,TX.str,⟨_,Of X G zF,⟨_,rfl⟩⟩,⟨_,Of X G zM9,⟨_,rfl⟩⟩,Of X G yCF,xCF⟩;have TY:Lx mg:=⟨⟨_,Of X G zN,⟨_,rfl⟩⟩⟩;have TVt:Ke K mg CF:=⟨TY.g_NO_TURNS,Of X G yCF,xCF⟩;have TI:Lh mg:=⟨TS.isinstance,TS.tuple,TS.len,TS.abs,TS.max,TH.g_WISHER,TH.g_SPOILER⟩;have TJr:EQ K mg CF:=⟨TS.tuple,TH.g_WISHER,TH.g_SPOILER,Of X G yCF,xCF⟩;have TJ:Ly mg:=⟨TS.list,TSh.dict,TH.g_SPOILER⟩;obtain⟨_,_,kV,dc,pm,an,cd,ct,_,rfl,_,_⟩:=F67.ex;refine⟨OG "law" "law" (eu za) (dj za) (aj za) .none kV dc pm an cd ct,λs v=>.of_eq rfl,λbase _ _=>?_⟩;have G1:=fi l.prog w base X G a1 F1 F1.b1 (HF F1 TS);have G2:=fi l.prog w base X G a2 F2 F2.b2 (HG F2 TS G1);have G3:=fi l.prog w base X G a3 F3 F3.b1 (Cn F3 TSt);have G4:=fi l.prog w base X G a4 F4 F4.b1 (yV F4 TSt G2 G3);have G5:=fi l.prog w base X G a5 F5 F5.b2 (yQ F5 THs);have G6:=fi l.prog w base X G a6 F6 F6.b2 (yA F6 TH);have G7:=fi l.prog w base X G a7 F7 F7.b1 (A1 F7 TH);have G8:=fi l.prog w base X G a8 F8 F8.b2 (BV F8);have G9:=fi l.prog w base X G a9 F9 F9.b2 (Ej F9 TS G6);have G10:=fi l.prog w base X G a10 F10 F10.b3 (Eo F10 TS);have G11:=fi l.prog w base X G a11 F11 F11.b3 (yC F11 TS);have G12:=fi l.prog w base X G a12 F12 F12.b3 (u5 F12 TS G7 G9);have G13:=fi l.prog w base X G a13 F13 F13.b2 (Ba F13 G1);have G14:=fi l.prog w base X G a14 F14 F14.b3 (Er F14 TS);have G15:=fi l.prog w base X G a14 F14 F14.b3 (Ij F14 TI);have G16:=fi l.prog w base X G a16 F16 F16.b2 (Bc F16 TS G13);have G17:=fi l.prog w base X G a17 F17 F17.b2 (Bm F17);have G18:=fi l.prog w base X G a17 F17 F17.b2 (B6 F17);have G19:=fi l.prog w base X G a19 F19 F19.b2 (Bn F19 TS G17);have G20:=fi l.prog w base X G a20 F20 F20.b2 (Bo F20 TS G2 G19);have G21:=fi l.prog w base X G a21 F21 F21.b4 (Be F21 TS G1 G13 G7 G9 G10 G11);have G22:=fi l.prog w base X G a22 F22 F22.b4 (Bd F22 TS G13 G12);have G23:=fi l.prog w base X G a23 F23 F23.b4 (Ex F23 TH G14 G16 G20 G21 G22);have G24:=fi l.prog w base X G a24 F24 F24.b2 (yD F24 TE G23);have G25:=fi l.prog w base X G a25 F25 F25.b1 (HI F25);have G26:=fi l.prog w base X G a26 F26 F26.b2 (CY F26 G24 G25);have G27:=fi l.prog w base X G a27 F27 F27.b2 (EV F27 TJ G24);have G28:=fi l.prog w base X G a28 F28 F28.b2 (HK F28 G24 G25);have G29:=fi l.prog w base X G a29 F29 F29.b1 (Ez F29);have G30:=fi l.prog w base X G a30 F30 F30.b2 (EC F30);have G31:=fi l.prog w base X G a30 F30 F30.b2 (ED F30);have G32:=fi l.prog w base X G a32 F32 F32.b2 (HN F32 TNe G29);have G33:=fi l.prog w base X G a33 F33 F33.b1 (HQ F33 TFs);have G34:=fi l.prog w base X G a34 F34 F34.b2 (HU F34 TSh G28 G33 G30 G32 G31);have G35:=fi l.prog w base X G a35 F35 F35.b2 (BW F35);have G36:=fi l.prog w base X G a36 F36 F36.b2 (EK F36 THs G18 G5 G6);have G37:Ku l.prog w K mg base _ "Searcher" CS _ _ _ _:=⟨Cf F37 TSr G12,F37.b2,⟨CSmk,a37,i37,CSkc⟩,Of X G CSy⟩;have G38:mH l.prog w K mg base b7 _ CS "put" _ _ _ _:=⟨EJ F38 TSr,F38.b4,Y4,⟨a38,i38,F38.kp⟩⟩;have G39:mH l.prog w K mg base b7 _ CS "learn" _ _ _ _:=⟨yN F39 TSr G12 G38,F39.b4,Y4,⟨a39,i39,F39.kp⟩⟩;have G40:mH l.prog w K mg base b7 _ CS "learn_join" _ _ _ _:=⟨BS F40 TSr G11 G39,F40.b5,Y4,⟨a40,i40,F40.kp⟩⟩;have G41:mH l.prog w K mg base b7 _ CS "fill_in" _ _ _ _:=⟨BY F41 TSr G8 G35,F41.b3,Y4,⟨a41,i41,F41.kp⟩⟩;have G42:mH l.prog w K mg base b7 _ CS "turn_back" _ _ _ _:=⟨B1 F42 TSr G41 G40,F42.b3,Y4,⟨a42,i42,F42.kp⟩⟩;have G43:mH l.prog w K mg base b7 _ CS "look" _ _ _ _:=⟨Ca F43 TSr G36 G39 G42 G41,F43.b1,Y4,⟨a43,i43,F43.kp⟩⟩;have G44:mH l.prog w K mg base b7 _ CS "go" _ _ _ _:=⟨Ic F44 TSr G43,F44.b2,Y4,⟨a44,i44,F44.kp⟩⟩;have G45:mH l.prog w K mg base b7 _ CS "learnt" _ _ _ _:=⟨vF F45 TSr,F45.b1,Y4,⟨a45,i45,F45.kp⟩⟩;have G46:mH l.prog w K mg base b7 _ CS "paper" _ _ _ _:=⟨yS F46 TSr G34,F46.b1,Y4,⟨a46,i46,F46.kp⟩⟩;have G47:=fi l.prog w base X G a47 F47 F47.b1 (vx F47 TSe G37 G44 G46);have G48:=fi l.prog w base X G a48 F48 F48.b2 (ES F48 TI G15 G2);have G49:=fi l.prog w base X G a49 F49 F49.b1 (yY F49 TX);have G50:=fi l.prog w base X G a49 F49 F49.b1 (CQ F49 TXp);have G51:=fi l.prog w base X G a51 F51 F51.b1 (CI F51 TY G49);have G52:=fi l.prog w base X G a52 F52 F52.b1 (EU F52 G50);have G53:=fi l.prog w base X G a53 F53 F53.b1 (CU F53 G52);have G54:=Az l.prog w base X G a54 F54 F54.b1 (EN F54 TT);have G55:=Az l.prog w base X G a55 F55 F55.b1 (Cs F55 G54);have G56:=Az l.prog w base X G a56 F56 F56.b1 (Ig F56 TT G55);have G57:=Az l.prog w base X G a57 F57 F57.b1 (yW F57 TVt);have G58:=fi l.prog w base X G a58 F58 F58.b1 (y_ F58 TT G57 G56 G4);have G59:=Az l.prog w base X G a59 F59 F59.b2 (Ik F59 TJr G55 G48);have G60:=fi l.prog w base X G a60 F60 F60.b1 (C3 F60 TJr G59);have G61:=fi l.prog w base X G a61 F61 F61.b2 (Eg F61 TG);have G62:=fi l.prog w base X G a62 F62 F62.b3 (HB F62);have G63:=fi l.prog w base X G a63 F63 F63.b2 (AX F63 TG);have G64:=fi l.prog w base X G a64 F64 F64.b2 (Ei F64 TG G61 G62 G63);have G65:=fi l.prog w base X G a65 F65 F65.b1 (yT F65 TV);have G66:=fi l.prog w base X G a66 F66 F66.b1 (yU F66 TV G65);exact Il F67 G61 G64 G66 G47 G34 G58 G51 G60 G53 G26 G27 G37 G44 G45
theorem walk {l:R0}{q:Mm}{loose:gV Str}{XP:(Str->LH LF)->M8->Prop}{YP:MK->M8->Prop}{d:DefRec}{K:Z1->K'}(hn:l.most=A' 63)(hdf:d.params.defaults=[])
  (hY:∀ (w:MK) (h:M8),YP w h->(K w.params).In h)
  (F:∀ (w:MK) (mg:Str->LH LF) (fa:LJ) (h:M8),(K w.params).In h->h.Ns L7 mg->mg d.name=A' (.ref fa)->
   ∃ fd:Ms,(∀ (s:LR) (u:LF),WV s fd ⟨[u],[]⟩ [("_law_script",u)])/\∀ base:M8,(K w.params).In base->base.Ns L7 mg->FnOk l.prog w (K w.params) mg base b7 11 fa fd ["_law_script"] (xB (K w.params))):
  Xl q loose XP YP l.row.toRowW d [] (λf vs=>V' f vs):=
 L2.walk_of (n:=63) (k:=11) (x:="_law_script") (CX:=λ_=>b7) (sp:=λw=>xB (K w.params)) hn (by decide) hdf ⟨rfl,by decide,by decide⟩ hY F (λ_ _ a ns hl _ hS=>⟨a,ns,rfl,hS,hl,λ_=>rfl⟩) λ_ _ _ _ _ z=>z
end K94
open PySem PySem.W PySem.Calls PyProof.Rows
set_option maxRecDepth 100000
set_option maxHeartbeats 0
local macro_rules|`(tactic|o_head $H)=>`(tactic|refine HD.head (q:=K94.vQ) (loose:=[]) (lv:=[]) $H (N:=7082) (HD.left (by kernel_rfl) (fun s=>by kernel_rfl) (by kernel_rfl) (by kernel_rfl) (fun w=>by kernel_rfl) K94.seen (fun w os=>by kernel_rfl)) (by rfl) (by rfl) (by rfl) (by rfl) (by assumption) (by decide+kernel) ⟨rfl,rfl,rfl,rfl,rfl,by decide+kernel⟩ ?hw ?hc)
theorem PySem.Challenge.cw_oathduel_k94_whole_papers_through_texts_holds : PySem.Challenge.rw_oathduel_k94_whole_papers_through_texts.Holds := by
 w_on
 refine holds_law K94.said λsaid=>?_
 k_head
 (case hw=>w_witness2)
 k_fill
 refine K94.walk (l:=NP) rfl rfl (λw h Y=>PySem.W.kIn_of Y) ?F
 case F=>
  intro w mg fa h KX G hmg;apply K94.all_mk KX G hmg
  (case CSy|zM|yCF|zF|zM9|zN|a1|a2|a3|a4|a5|a6|a7|a8|a9|a10|a11|a12|a13|a14|a16|a17|a19|a20|a21|a22|a23|a24|a25|a26|a27|a28|a29|a30|a32|a33|a34|a35|a36|a37|a38|a39|a40|a41|a42|a43|a44|a45|a46|a47|a48|a49|a51|a52|a53|a54|a55|a56|a57|a58|a59|a60|a61|a62|a63|a64|a65|a66|a67|i37|i38|i39|i40|i41|i42|i43|i44|i45|i46|z0|z1|z2|z3|z4|z5|z6|z7|z8|z9|z10|z11|z12|z13|z14|z15|z16|zW|zS|c1|c2|c3|c4|n1|n2|n3|n4|n5|n6|n7|CSmk|CSkc=>k_is)
  (case F1|F2|F3|F4|F5|F6|F7|F8|F9|F10|F11|F12|F13|F14|F16|F17|F19|F20|F21|F22|F23|F24|F25|F26|F27|F28|F29|F30|F32|F33|F34|F35|F36|F37|F38|F39|F40|F41|F42|F43|F44|F45|F46|F47|F48|F49|F51|F52|F53|F54|F55|F56|F57|F58|F59|F60|F61|F62|F63|F64|F65|F66|F67=>refine' L2.fun_mk ?l ?c ?k;(case l=>k_is);(case c=>k_is);(case k=>k_is))
  (case xCF=>k_exc)
