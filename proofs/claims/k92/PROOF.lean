import PyProof.Rows.All
import Wide.All
import OpenK.KSplit
import OpenK.KNot
import OpenK.KApp
import KE.KEqSeq
import KE.KDictSum
import KE.KSortTup
import KE.KDictOf
import KE.KSortKey
import KE.BitLaws
import KE.KLam
import KE.KMinKey
import KE.KNestM
import KE.KStateDown
import KE.KIsAll
import KE.RegKIsAll
import KE.KDictList
import KE.KDictLaws
import KE.KNest
import Wide.FinOn
import Lean
import PyProof.EqAt
import PyProof.EqKinds
import PyProof.TupleCall
import PySem.Challenge.RW_oathduel_k92_whole_smaller_to_the_end
set_option compiler.extract_closed false
set_option genSizeOf false
set_option genInjectivity false
set_option bootstrap.genMatcherCode false
set_option Elab.async false
set_option linter.all false
set_option maxRecDepth 100000
set_option maxHeartbeats 4000000
open Array renaming length_toList->Qi,getElem?_toList->Rl,perm_iff_toList_perm->Ti,toList_append->UY,mk->Wl,toList_setIfInBounds->W7,toList_push->Xp,toList_reverse->Y4,getElem_toList->Y5,forIn_toList->ZT,toList->aar,size_zip->abV,size_map->Y'
open Array.Perm renaming refl->Ya
open Bool renaming false_ne_true->Pk,true->Pn,false->Pr,and_eq_true->Qs,eq_iff_iff->RE,and_false->Sb,or_eq_true->Sj,false_eq_true->So,false_or->Tb,rec->Wk,eq_false_iff->Xo,and_eq_true_iff->Y3,or_false->Zo,false_and->abU,true_and->acK,true_or->Sh,not_not->adl
open Decidable renaming byContradiction->UU
open False renaming elim->Rt
open ForInStep renaming yield->Vd,done->Zj
open Int renaming toNat_natCast->Qo,lt_trans->S_,emod_lt_of_pos->Th,emod_nonneg->Um,le_refl->Vo,neg_neg->Wi,natCast_nonneg->W5,fdiv_eq_ediv_of_nonneg->W6,lt_of_not_ge->XT,add_comm->Yi,lt_or_eq_of_le->ZS,lt_trichotomy->aaq,not_lt->zz,zero_add->Ts,le_trans->vb,le_of_lt->jl,one_mul->ad1,mul_one->VN,lt_of_lt_of_le->aaU
open List renaming length_map->A',getD_eq_getElem?_getD->B',getElem?_eq_getElem->K',getElem?_eq_some_iff->N',length_append->Pl,mem_of_getElem?->Pq,mem_singleton->Pw,contains_iff_mem->Py,take_of_length_le->PJ,getElem?_append_left->PL,getElem?_map->PN,mem_filter->PQ,getElem?_append_right->PV,mem_cons_of_mem->P1,size_toArray->P2,mem_cons_self->P3,length_cons->P4,mem_append->P5,map_append->P6,length_take->P9,mem_cons->P_,any_eq_true->P',take_add_one->Qb,mem_map->Qe,map_cons->Qf,length_singleton->Qg,map_map->Qm,range->Qt,append_assoc->Qu,all_eq_true->Qv,mem_append_right->Qw,length_filter_le->Qx,getElem?_eq_none->QI,filter_cons_of_pos->QK,getElem?_take_of_lt->QM,append_nil->QN,filter_cons_of_neg->QP,length_range->QQ,pairwise_map->QU,filter_append->QY,nodup_cons->Q3,length->Q4,take_append_drop->Q5,mem_iff_getElem?->Q6,length_drop->Q8,length_dropLast->Q_,mem_of_find?_eq_some->Re,mem_map_of_mem->Rp,filter_eq_self->Rq,nodup_append->Rw,mem_range->Rx,mem_append_left->Ry,length_eq_zero_iff->RG,pairwise_append->RK,drop_eq_getElem_cons->RL,pairwise_cons->RM,find?_eq_none->RN,find?_cons->RO,any_cons->R0,length_reverse->R4,take_append_of_le_length->R7,range_succ->Si,not_mem_nil->Sq,mem_of_mem_take->Ss,getElem_mem->Su,foldl_append->Sy,find?_cons_of_pos->Sz,filter_eq_nil_iff->SB,pairwise_iff_getElem->SD,lookup_cons->SI,filter_cons->SJ,contains_cons->SM,filterMap_cons->SZ,drop_of_length_le->S9,foldl_cons->Tr,find?_some->Tt,forall_mem_cons->TF,all_map->TJ,Pairwise->TN,length_pos_iff->TU,getElem_of_mem->TV,filter_sublist->TX,getElem?_replicate->T6,lookup->Ua,find?_cons_of_neg->Ug,any_map->Uh,nil_append->Ul,all_cons->Up,take_sublist->Uz,reverse_cons->UA,find?_append->UB,ext_getElem?->UC,length_filter_lt_length_iff_exists->UD,reverse_reverse->UI,nodup_nil->UJ,mem_of_mem_drop->UK,Perm->UR,getLast?_eq_getElem?->UT,mergeSort_perm->UV,map_congr_left->UW,getElem?_range->UX,length_filterMap_le->U9,of_mem_zip->Va,length_nil->Vb,all_append->Vc,pairwise_mergeSort->Vn,take_succ_eq_append_getElem->VD,map_nil->VE,getElem_cons_drop->VF,getElem?_dropLast->VG,findIdx_lt_length_of_exists->VH,filter_congr->VI,all_eq_false->VJ,pairwise_reverse->VT,dropLast_eq_take->VU,mem_reverse->V7,mem_of_getLast?->Wg,eq_nil_of_length_eq_zero->Wh,dropLast_concat_getLast->Wv,forall_mem_nil->Wy,map_id'->WJ,take_take->WZ,replicate->W0,nodup_iff_pairwise_ne->W1,mem_filterMap->W2,getElem?_drop->W3,drop_drop->W4,rel_of_pairwise_cons->W_,getElem?_zip_eq_some->W',getElem?_eq_none_iff->Xa,reverse_perm->Xl,getElem_take->Xm,drop_sublist->Xn,idxOf_lt_length_iff->Xx,cons_ne_nil->XS,not_of_lt_findIdx->Ye,length_pos_of_mem->Yg,getElem?_set_self->Yh,filter_nil->Yn,filter_map->Yo,drop_left'->Yp,any_append->Yq,length_replicate->Yy,filterMap_append->Yz,take_zero->YV,take_left->YW,getElem_toArray->YX,getElem?_set_ne->YY,getElem?_of_mem->YZ,findIdx_getElem->Y0,filter->Y1,drop_left->Y2,take_succ_cons->Zi,zip_cons_cons->ZN,ne_nil_of_mem->ZO,map_inj_right->ZP,lookup_append->ZQ,getElem_idxOf->ZR,idxOf_append->aao,any_eq_false->aap,mem_flatten->aaO,map_snd_zip->aaP,map_fst_zip->aaQ,getElem_map->aaR,getElem_inj->aaS,map_id->aa3,length_zip->abd,idxOf_cons->YC,countP_map->Yf,map->CB,findSome?->abQ,filterMap->Zk,sum_cons->acH,map_drop->acI,reverse->Tu,all_nil->adg,drop->afl
open List.Pairwise renaming nil->TK,filter->UL,map->VL,sublist->adu
open List.Perm renaming eq_of_pairwise->acJ
open List.cons renaming inj->agg
open Nat renaming le_refl->Po,zero_le->P8,ne_of_lt->Qa,le_of_lt->QA,le_trans->QF,lt_of_lt_of_le->QH,sub_self->QO,lt_succ_of_lt->RH,lt_irrefl->Sa,zero_add->Sg,lt_of_le_of_lt->SH,succ_le_succ->Te,lt_succ_self->Tf,pow_le_pow_right->Tz,ne_of_gt->TC,eq_or_lt_of_le->Ue,not_lt_zero->Uk,add_sub_assoc->Uy,add_sub_cancel->Vk,pow_succ->Vz,lt_trichotomy->VA,lt_or_ge->VB,le_of_eq->VC,min_le_right->V5,le_add_right->V6,le_succ->Wf,min_eq_left->Wu,add_assoc->Xw,add_sub_cancel_left->XR,lt_trans->Yc,eq_zero_of_not_pos->Yd,le_of_ble_eq_true->Yx,ble->Y_,add_le_add_left->Zh,one_le_two_pow->ZL,lt_of_le_of_ne->ZM,lt_succ_of_le->aak,le_of_succ_le->j',le_of_lt_succ->ud,add_zero->F3,succ_ne_self->aaL,min_eq_right->aaM,le_of_not_lt->i0,le_add_left->y4,min_self->ade,le_zero->ad0,sub_le->ky,le_antisymm->aat,le_succ_of_le->aaT
open Ne renaming symm->Q1
open Option renaming some->gV,none->Pt,map_eq_some_iff->Qn,bind_eq_some_iff->QX,getD_some->T5,map_some->Uj,bind_some->UQ,isSome_iff_exists->U8,or_eq_some_iff->VS,isSome_map->Xk,rec->Yb,isSome_some->ZK,getD_none->aaK
open Option.some renaming inj->PZ
open Or renaming inr->X',inl->ZJ
open Prod renaming ext->Vy,snd->YU,fst->rz,rec->T1
open PyProof renaming noPylong_small->X4
open PyProof.Rows renaming wpS_bind->Ql,wpS_pure->QC,arrOf->QE,pendingOf->QJ,Keyed->Q2,SortSt->Q9,callWith_type1->Rh,boot_tuple->Ro,envOfC->Rr,seqObj->RB,wpS_forRange->Sx,slot_tuple_getitem->SC,failedOf->SE,boot_dict->S8,boot_any->Tn,IntsAre->TR,wpS_mono->T4,boot_int->Ur,boot_abs->Us,boot_list->UZ,listUpdate_at->U6,callWith_kw->U7,kws_cons->VQ,boot_all->VR,kws_nil->We,boot_sorted->Wo,get?_update_seq->Ws,boot_isinstance->Wt,wpS_get->Xi,AllBare->Xj,elem'->XQ,wpS_modify->X5,subscriptTail_builtinR->X6,size_push'->X7,setPending->X8,mem_zip_self->X9,bitAnd_m1->X_,entry_list_sort->Ym,boot_min->Yw,wpS_lift->YQ,slot_list_sort->YR,seqEpoch_at->YS,pairsOf_toList->YT,getElem?_mirror_all->Zf,entry_tuple_getitem->Zg,subscriptTail->Zm,call_abs_int->Zn,boot_range->ZH,args_tuple_getitem->ZI,plain_sorted->Ip,mergeAt'->pw,listItems_at->G',entry_sorted->F',join_plain_closes->aaI,callWith_builtin1->aaJ,kind_sorted->L0,getElem?_bubble->YP,pairsOf->o3,minRun'->oD,sortedHeap_old->ZW,sortedHeap->CW,slicePart_none->ZU,args_list_sort->Zq,Subscript_->CN,SortKind->sy,tupleItemsOf_->Xt,sortedHeap_at->Xq,numOf->m8,setArr->mu,mirror->ot,boot_bool->ada,KskOut->mi,boot_max->adt
open PyProof.Rows.IntsAre renaming length->Zl
open PyProof.Rows.IsTup renaming new->OK
open PyProof.Rows.SortSt renaming mk'->WY
open PySem renaming Addr->C',Value->Pm,wpAny_bind->Pp,Shared->PF,PyData->PK,FuncData->PR,Program->PU,wpAny_pure->PY,World->Qc,model->Qj,starEach->Qk,mainGlobals->Qr,Heap->QB,Expr->QS,Stmt->QW,mem_of_lookup->QZ,Around->Q0,cellsFrom->Q7,compareOp->Rf,wpAny_truthy_bool->Rj,sizeLine_eq->Ru,wpAny_holding->Rz,wpAny_Call_Name_kw->RA,wpAny_mono->RT,eval->RU,wpAny_tryCatch->RX,wpAny_newObj_type->R5,boot_len->R9,sysModules->Sn,argBest->Sw,tupleKind_room_in1->SF,plainId_quiet->SN,codeAny_builtin->SV,backTo->SW,wpAny_passesOwn->Tq,foldedSetIterable->Tv,cLine->Tw,wpAny_rule->TM,wpAny_seqItems->TZ,wpAny_letGo->T9,Scope->T_,wpAny_updateSeq->Ui,behindInMarks->Uo,wpAny_pyIter_list->Uu,relabel->Uv,OsState->Ux,Arguments->UP,wpAny_newList->U1,binaryOp->U2,attributeBase->U3,assignEach->Vh,sliceBounds->Vl,intItems->Vq,holding->Vr,codeAny_mono->Vs,call_meetsIn->Vt,bootBuiltins->Vu,wpAny_call_entry->VZ,tupleKind->V0,call_meets->V1,builtinsNs->V2,Thread->V4,keywordEach->Wd,wpAny_execs_nil->Wq,letOwnedTupleGo->Wr,wpAny_typeOf->WD,getItem->WE,swapsWith->WL,NameKind->WV,valueAt->Xc,atKey->Xd,wpAny_comprehension_free->Xs,rawInt->Xu,pyNext->Xv,wpAny_callSpecial?_slot->XE,seqItems?->XF,getMethod->XG,wpAny_pyNext_range_end->XX,wpAny_pyIter_rangeiter->XY,wpAny_notOrdered_dict->Yr,wpAny_isTrue_Compare1->Ys,wpAny_loadName_local->YF,subscripted->YG,newFunctionEnv->YH,dictSetDefault->YI,backToKw->YJ,IsRangeIter->YL,standAt->Y6,callerA->Y7,wpAny_loadName_cell->Za,kt_meets_setdefault->Zb,wpAny_pyIter_range->Zs,wpAny_call->Zt,merged->Zu,getattributeRaised->Zv,denote->Zw,call->Zx,IsPart->ZF,wpAny_sequenceKey->Z3,wpAny_pyIter_enum->Z4,wpAny_assign_Name->Z5,wpAny_Call_method->Z6,name_of_addr->Z7,bindArgs->Z8,Within->Z9,ReadsAll->pz,BindsTo->lA,wpAny_pyIter_zip->aav,wpAny_execs_cons->aaw,wpAny_Dict_empty->Z1,updateSeq->aay,assign->tA,Result->kS,Params->l',wpAny_field->I',CmpOp->aa1,pushCells_keeps->aa_,wpAny_newTuple->XP,wpAny_Name->y3,typeLookup->x9,recursionLimit->XA,pyIter->lh,closureFor->w1,checkCount->abz,callWith->ti,bindL->kH,bindC->kG,wpAny_standAt->WN,wpAny_attempt->WK,rangeSize_one->aci,intBits_le_64->Wp,evalPart_none->ack,call_list_seq->Wb,bltViewBooted->V9,treeTable->wh,storeName->vu,PassesOwn->vl,storedH->ry,Keyword->rb,numAt->mr,compEnvC->VM,Operator->adV,Model->mj,GenState->T2,Fin->afi
open PySem.Around renaming under_plainId->RY,frames_deeper->YO,under->aaf
open PySem.AutoListH renaming list_insert_list_int_val_1->Ze
open PySem.Builtin renaming bitAnd->SU
open PySem.Builtin.Builtins renaming bindParams->S7
open PySem.Builtin.Dict renaming updateFrom->XO,pairItems->X3,keyAndDefault->abG,selfAndRest->acD,addKeywords->acE
open PySem.Builtin.List renaming listTooLong->U5,listFitsIndex->abF,listUpdate->acU
open PySem.Builtin.Range renaming rangeSize->XN
open PySem.Builtin.Slice renaming slicePlaces->To,sliceApplied->UH,sliceAdjust->US,slicePartIndex->aba,sliceFields->ab_
open PySem.Builtin.Tuple renaming tupleExact->RQ,tupleItemsOf->WX
open PySem.Calls renaming spliced_cons->Tg,callWith_builtin->Ud,evalArgs_plain->UG,spliced_nil->Vx,Name_function_global->WW,call_function_entry->W9,call_len_list->Zd
open PySem.Challenge renaming pw_oathduel_k92_whole_smaller_to_the_end->P7,rw_oathduel_k92_whole_smaller_to_the_end->RJ
open PySem.Code renaming isFrame->aad,frames->adY
open PySem.Data renaming fields->aa0,cell->acT
open PySem.DictEntry renaming refKey->afj
open PySem.EqMixed renaming ne_str_bool->ab6,ne_bool_str->ab7,eq_str_bool->ab8,eq_bool_str->ab9,ne_str_int->acz,ne_int_str->acA,eq_str_int->acB,eq_int_str->acC
open PySem.EqNone renaming ne_none_none->ab0,ne_none_bool->ab1,ne_bool_none->ab2,eq_none_none->ab3,eq_none_bool->ab4,eq_bool_none->ab5,ne_str_none->acq,ne_none_str->acr,ne_none_int->acs,ne_int_none->acu,eq_str_none->acv,eq_none_str->acw,eq_none_int->acx,eq_int_none->acy
open PySem.F renaming plainAttrs_list->QD,slot_list_append->Ra,type_list_append->Ri,plain_min_loop->R1,slot_dict_setdefault->Sf,args_dict_setdefault_3->SG,entry_dict_setdefault->SQ,plain_max_loop->Td,entry_min_loop->Vw,slot_list_index->VO,slot_dict_get->VP,type_list_index->XH,plainAttrs_dict->XI,entry_max_loop->XJ,args_dict_get_3->XM,entry_dict_get->X2,slot_list_insert->Yu,slot_list_extend->Yv,slot_list_count->YN,slot_list_pop->ZG
open PySem.Heap renaming get?_push_of_some->PH,lt_size->P0,get?_push_size->Qh,get?_update_other->Qp,get?_update_self->Tj,size_push->UF,SameBut->UO,get?_none_of_le->YM,get?_push_ne->aac,size_update->aaH,mk->R'
open PySem.Heap.DictOf renaming new->aa'
open PySem.Heap.IsSliceOf renaming new->aeF
open PySem.Heap.SameBut renaming update->Wx
open PySem.IsL renaming update->afh
open PySem.IsRange renaming new->I0
open PySem.NameKind renaming cell->U4,free->acp
open PySem.Obj renaming mapSeq->R3,data_mapDictKeys->YK
open PySem.PassesOwn renaming never->Rc
open PySem.PyData renaming eqv->QG,canLayAll0->Rv,none->RI,tuple->UN,depthAll->U',eqvAll->Wa,int->WU
open PySem.SeqAt renaming shaped->Rb,readOf->WI,readsAll_map->ZC,items_eqAt->aaE,EqAt->Rk
open PySem.SeqAt.EqAt renaming str_int->ZD,int_str->ZE,none_bool->adS,bool_none->adT,bool_bool->adU,str_none->ad9,str_bool->ad_,none_str->ad',none_int->aea,int_none->aeb,int_bool->aec,bool_str->aed,bool_int->aee,str_str->aeC,int_int->aeD,same->afv
open PySem.Str renaming ofString->PD,empty->u3,join->th
open PySem.Txt renaming join->qb
open PySem.Value renaming ref->QV,int->Vm,type->WT,isInt_shape->Xh,str->Y9,none->Zz,bool->ZA,float->aaY,isStrOf->VW,isInt->T7,bytes->adR
open PySem.W renaming Frag->J',findIn->Qy,mg_none_of->QL,nsIn->QR,keepIn->RF,boot_heap->RP,kia_one->RZ,emptyDict->R6,kitOne->R_,SharedT->Se,fnOf->SO,kla_obj->SX,instObj->SY,mg_of->Ta,plainGet->Tc,hasDictIn->Tx,CodeHd->T3,plainOver->Uw,tabObj->UE,makesIn->U_,callWith_K->Vi,boot_drawn->Vj,codeIn->Vv,boot_toks->V3,mroIn->V',plainGet_of->Ww,isFn->WG,envX->WH,lookIn->WQ,through->Xe,specialIn->Xf,methodObj->Xg,OpenLaw->XW,cellsFrom_some->X0,absHeap->X1,takesIn->Yk,takerIn->Yl,methodCall_KW->Yt,topStub->Y8,kdu_collect->Zc,stepOk->Zy,kitx_list->Z_,kitx_dict->Z',kdl_dict->aaA,handedIn->aaB,WalkO->va,stepT->Fw,topRun->nk
open PySem.W.Fast renaming tw5923862056798008813->WR
open PySem.W.Looks renaming here->aeB,ld->afg
open PySem.W.WData renaming int->O'
open PySem.W.WShape renaming has->aeA
open PySem.Walks renaming list->XZ,range->T8
open PySem.Within renaming cons->ae1
open StateT renaming run_pure->aa9
open Sum renaming inl->Qd,inr->Ut
open Sum.inl renaming inj->Rm
open True renaming intro->Sv
open _root_ renaming List->ab,Option->M',decide_eq_false->Pu,Bool->Px,decide_eq_true->PB,if_neg->PM,if_pos->PP,of_decide_eq_true->PX,congrArg->Qq,decide_eq_true_iff->Qz,beq_eq_false_iff_ne->QT,Array->RW,String->TL,decide_eq_decide->TY,ForInStep->Uq,if_false->U0,beq_iff_eq->VY,or_false->Wc,DecidableEq->Wj,if_true->WB,getElem?_pos->WC,of_decide_eq_false->WO,StateT->Xr,Unit->YE,bne_self_eq_false->Z2,beq_self_eq_true->aau,modify->oj
namespace HD
open PySem PySem.W PySem.Calls PyProof.Rows
noncomputable def AB (p:Se->V4->M' (Se×V4))(o T:V4->Px)(n:Nat):Se->V4->M' Se:=
 @Nat.rec (λ_=>Se->V4->M' Se) (λ_ _=>Pt)
  (λ_ i s t=>@Wk (λ_=>M' Se)
   (@Wk (λ_=>M' Se) Pt
    (@Yb (Se×V4) (λ_=>M' Se) Pt
     (λr=>@T1 Se V4 (λ_=>M' Se) (λa b=>@Wk (λ_=>M' Se) Pt (i a b) (Y_ a.toks 1000000000)) r) (p s t)) (o t))
   (gV s) (T t)) n
theorem yx{T:TL->M' Builtin}{p:PU}{w:Qc}{N:Nat}{a:M' Pm}:∀n s b t,
  AB (Fw (Zw T) p w) (Zy N a) Xe n s t=gV b->nk T p w N a n s.abs t=gV b.abs
 |0,s,b,t,h=>by cases h
 |n+1,s,b,t,h=>by
  have h:@Wk (λz=>M' Se)
   _
   _ _=gV b:=h
  unfold nk;cases e:Xe t with
  |true=>rw[e]at h;cases h;rfl
  |false=>
   rw[e]at h;cases k:Zy N a t with
   |false=>rw[k]at h;cases h
   |true=>
    rw[k]at h;cases H:Fw _ p w s t with
    |none=>rw[H]at h;cases h
    |some r=>
     rw[H]at h;replace h:@Wk (λz=>M' Se) Pt _ _=gV b:=h;rw[stepT_spec H];cases f:Y_ _ _ with
     |false=>rw[f]at h;cases h
     |true=>rw[f]at h;exact yx n _ _ _ h
noncomputable def se (l:ab Obj):BT->Nat->M' (BT×Nat):=
 @List.rec Obj (λ_=>BT->Nat->M' (BT×Nat)) (λT n=>gV (T,n))
  (λo _ i T n=>@Wk (λ_=>M'<|BT×Nat) Pt (i (T.ins n o)<|n+1) (((T.ins n o).get n).isSome)) l
theorem qO:∀l T t n N,se l T n=gV (t,N)->X1 t N L=⟨(X1 T n L).objs++l.toArray,L⟩
 |[],T,t,n,N,h=>by
  cases h;rfl
 |o::l,T,t,n,N,h=>by
  replace h:@Wk (λz=>M'<|BT×Nat) Pt (se l _<|n+1) _=gV _:=h;cases H:((T.ins n o).get n).isSome with
  |false=>simp_all
  |true=>
   rw[H]at h;rw[qO l _ _ _ _ h,absHeap_ins H];show R' ((X1 T n L).objs.push o++l.toArray) L=_
   simp
noncomputable def look {a:Type}(p:Se->V4->M' (Se×V4))(o t:V4->Px)(M:Nat)(os:Ux)(P:l')(st:V4)(F:PF->a):M' a:=
 @Yb (BT×Nat) (λ_=>M' a) Pt
  (λr=>@T1 BT Nat (λ_=>M' a) (λT n=>@Yb Se (λ_=>M' a) Pt (λs=>gV<|F s.abs) (AB p o t M ⟨T,n,(RP P).life,Wl [],Vj,V3,os⟩ st)) r)
  (se (RP P).objs.toList .nil 0)
theorem GN{c:Type}{t:TL->M' Builtin}{p:PU}{w:Qc}{N:Nat}{a:M' Pm}{M:Nat}{os:Ux}{F:PF->c}{b:c}
  (h:look (Fw (Zw t) p w) (Zy N a) Xe M os w.params (Y8 p) F=gV b):
  ∃s,nk t p w N a M ⟨RP w.params,Wl [],Vj,V3,os⟩ (Y8 p)=gV s/\F s=b:=by
 unfold look at h;cases H:se _ _ 0 with
 |none=>rw[H]at h;cases h
 |some r=>
  obtain⟨T,n⟩:=r;rw[H]at h;replace h:@Yb Se (λz=>M' c) Pt _ (AB _ _ Xe M _<|Y8 p)=gV b:=h;cases d:AB _ _ Xe M _ _ with
  |none=>rw[d]at h;cases h
  |some s=>
   rw[d]at h;have e:=qO (L:=(RP w.params).life) _ _ _ _ _ H;have g:X1 T n (RP w.params).life=RP w.params:=by
    rw[e];show R' (#[]++(RP _).objs.toList.toArray) _=_
    rw[Array.empty_append]
   have f:=yx _ _ _ _ d;refine⟨s.abs,?_,PZ h⟩;rw[<-f];show _=nk t p w N a M ⟨X1 T n _,Wl [],Vj,V3,os⟩ _
   rw[g]
noncomputable def xt (q:PU)(s:PF):Px:=xlAt q [] s&&recOk [] s
noncomputable def sn (p q:PU)(loose:ab Str)(X:PF->Px)(g:Px)(s:PF):=Fast.tw4187177175401517315 q loose (WR p.main.body) X g s
noncomputable def seenA (p q:PU)(loose:ab Str)(X:PF->Px)(g:Px)(w:Qc)(s:PF):=((staticsOk (WR p.main.body) (RP w.params) s.heap&&namesBound p s.heap&&gensDone s&&laidKept (RP w.params) s.heap),(sn p q loose X g s).1)
noncomputable def seenB (p q:PU)(loose:ab Str)(X:PF->Px)(g:Px)(s:PF):=((sn p q loose X g s).2.1,(sn p q loose X g s).2.2.1)
noncomputable def seenE (p q:PU)(loose:ab Str)(X:PF->Px)(g:Px)(s:PF):=((sn p q loose X g s).2.2.2.1,(sn p q loose X g s).2.2.2.2.1)
noncomputable def seenC (p q:PU)(loose:ab Str)(X:PF->Px)(g:Px)(s:PF):=(sn p q loose X g s).2.2.2.2.2.1
noncomputable def seenD (p q:PU)(loose:ab Str)(X:PF->Px)(g:Px)(s:PF):=((sn p q loose X g s).2.2.2.2.2.2.1,(sn p q loose X g s).2.2.2.2.2.2.2.1,(sn p q loose X g s).2.2.2.2.2.2.2.2)
noncomputable def lookAt {b:Type}(p:PU)(m:Nat)(a:M' Pm)(M:Nat)(w:Qc)(os:Ux)(F:PF->b):M' b:=
 look (Fast.tw10156331382660048174 (Fast.tw11892475500146522536 Fast.tw14364793385576792824) p w) (Fast.tw6613529449190102663 m a) Xe M os w.params (Y8 p) F
theorem fE{c:Type}{p:PU}{m:Nat}{a:M' Pm}{M:Nat}{w:Qc}{os:Ux}{F:PF->c}{b:c}(h:lookAt p m a M w os F=gV b):
  ∃s,nk wh p w m a M ⟨RP w.params,Wl [],Vj,V3,os⟩ (Y8 p)=gV s/\F s=b:=by
 unfold lookAt at h;rw[<-Fast.te10156331382660048174,<-Fast.te11892475500146522536,<-Fast.te14364793385576792824,<-Fast.te6613529449190102663]at h;exact GN h
theorem left{p q:PU}{loose:ab Str}{X:PF->Px}{j:Type}{Y:PF->j}{y:Qc->j}{N:Nat}{g:Px}{m:Nat}{Z:M' Pm}{M:Nat}
  (e:opening p=plainProg p.main.scope.names) (f:∀s,fenceModules? p s=gV s) (H:Y_ 600 N=Pn) (n:Y_ M N=Pn)
  (h:∀w:Qc,((RP w.params).isNs Qr&&(Wl []:RW T2).size == 0,(RP w.params).objs.size,(RP w.params).nsMap Qr "__annotations__")=(Pn,m,Z))
  (o:∀(w:Qc) (os:Ux),lookAt p m Z M w os (seenA p q loose X g w)=gV (Pn,expectedOf q)) (u:∀(w:Qc) (os:Ux),lookAt p m Z M w os (seenB p q loose X g)=gV (V9,Pn)) (v:∀(w:Qc) (os:Ux),lookAt p m Z M w os (seenE p q loose X g)=gV (Pn,pinGoodD<|drecsOf q))
  (C:∀(w:Qc) (os:Ux),lookAt p m Z M w os (seenC p q loose X g)=gV (plainGoodE q<|looseW q loose)) (x:∀(w:Qc) (os:Ux),lookAt p m Z M w os (seenD p q loose X g)=gV (plainGoodD q loose,wideGood q,clsGoodW q loose)) (z:∀(w:Qc) (os:Ux),lookAt p m Z M w os Y=gV (y w)):
  LeftO p q loose X Y y N g:=λw=>by
 obtain⟨⟨F,G,d,k,os⟩,a,b⟩:=Qn.mp<|boot_open e H f w;obtain⟨rfl,rfl,rfl,rfl⟩:F=RP _/\G=Wl []/\d=Vj/\k=V3:=by simpa using b
 obtain⟨I,J,O⟩:_/\_/\_:=by simpa only [Prod.mk.injEq]using h w
 obtain⟨s,r,A⟩:=fE<|o w os;obtain⟨i,c,P⟩:=fE<|z w os;rw[r]at c;cases c;obtain⟨i,c,B⟩:=fE<|u w os;rw[r]at c;cases c;obtain⟨i,c,E⟩:=fE<|v w os;rw[r]at c;cases c;obtain⟨i,c,Q⟩:=fE<|C w os;rw[r]at c;cases c;obtain⟨i,c,D⟩:=fE<|x w os;rw[r]at c;cases c;have l:=Qq rz A;have L:sn p q _ X g s=openGood q _:=Vy (Qq YU A) (Vy (Qq (·.1) B) (Vy (Qq (·.2) B) (Vy (Qq (·.1) E) (Vy (Qq (·.2) E) (Vy Q (Vy (Qq _ D) (Vy (Qq (·.2.1) D) (Qq (·.2.2) D))))))));unfold seenA at l;unfold sn at L;dsimp only at l;rw[<-Fast.te5923862056798008813]at l L;rw[<-Fast.te4187177175401517315]at L;have r:=topRun_mono (N-M) _ _ _ _ r;rw[show M+(N-M)=N by have:=Yx n;lia]at r;have t:topFrom wh p w N ⟨RP w.params,Wl [],Vj,V3,os⟩=gV s:=by
  unfold topFrom;rw[I,J,O,r];show(match staticsOk _ _ _&&namesBound p _&&gensDone s&&laidKept _ _ with|true=>_|false=>_)=_
  rw[l]
 unfold openEnds;rw[a];show(topFrom wh p w N _).map _=_
 rw[t];exact Qq gV<|Vy L P
theorem head{r:OpenRow}{q:PU}{loose:ab Str}{lv:ab (Str×WData)}(H:Hook){d:DefRec}{k:ab (Str×QS)}{N:Nat}
  (l:LeftO r.prog q loose (λs=>xlAt q lv s&&recOk r.records s) H.obs H.val N) (a:defOf q r.name=gV (d,k)) (p:r.prog.theDef r.name=gV (d.params,d.body,d.scope)) (b:kwWritten? d.params.kwonlyargs d.params.kw_defaults=gV k)
  (h:(!r.writes || r.records.isEmpty)=Pn) (c:r.wellSaid=Pn) (o:(chainsOk q&&opensWell r.prog&&(frees r.toRowW&&r.within.isEmpty))=Pn) (g:r.prog.bare) (w:r.toRowW.promised)
  (i:va q loose (XL q lv) H.says r.toRowW d k λf v=>Zx f v):r.Holds:=
 holds_open l H.of H.keeps (λs e=>xl_of s (Y3.mp e).1) XL.keeps a p b (λs e=>recFacts_of (Y3.mp e).2) h c o g w i
end HD
section
open PySem PySem.W PySem.Calls PyProof.Rows
set_option maxRecDepth 100000
set_option maxHeartbeats 0
noncomputable def K92.vQ:PU:=view P7 [0,2,3,4,5,6,7,9,10,11,13,14,15,16,17,18,19,20,21,22,24,25,26,27,28,30,31,32,33,34,35,36,38,39,40,41,42,43,44,45,46,47,48,49,50,51,52,53,54,55,56,57,58,59,60,61,63,64,65,66,67,68,69,70,71,72,74,75,77,78,79,80,81,83,84,85,86,87,89,90,91,92,93,94,95,96,97,98,99,100,101,102,103]
theorem K92.said:OpenLaw.wellSaid RJ=true:=(congrFun Fast.te9446332074065402090 RJ).trans (by kernel_rfl)
theorem K92.seenA (w:Qc)(os:Ux):HD.lookAt P7 11 (gV (.ref 6)) 5143 w os (HD.seenA P7 K92.vQ [] (HD.xt K92.vQ) Pn w)=gV (Pn,expectedOf K92.vQ):=by kernel_rfl
theorem K92.seenB (w:Qc)(os:Ux):HD.lookAt P7 11 (gV (.ref 6)) 5143 w os (HD.seenB P7 K92.vQ [] (HD.xt K92.vQ) Pn)=gV (V9,Pn):=by kernel_rfl
theorem K92.seenE (w:Qc)(os:Ux):HD.lookAt P7 11 (gV (.ref 6)) 5143 w os (HD.seenE P7 K92.vQ [] (HD.xt K92.vQ) Pn)=gV (Pn,pinGoodD (drecsOf K92.vQ)):=by kernel_rfl
theorem K92.seenC (w:Qc)(os:Ux):HD.lookAt P7 11 (gV (.ref 6)) 5143 w os (HD.seenC P7 K92.vQ [] (HD.xt K92.vQ) Pn)=gV (plainGoodE K92.vQ (looseW K92.vQ [])):=by kernel_rfl
theorem K92.seenD (w:Qc)(os:Ux):HD.lookAt P7 11 (gV (.ref 6)) 5143 w os (HD.seenD P7 K92.vQ [] (HD.xt K92.vQ) Pn)=gV (plainGoodD K92.vQ [],wideGood K92.vQ,clsGoodW K92.vQ []):=by kernel_rfl
section
local macro_rules | `(tactic| o_head $H) => `(tactic| assumption)
theorem K92.zpre (h : PySem.Challenge.rw_oathduel_k92_whole_smaller_to_the_end.row.Holds) : PySem.Challenge.rw_oathduel_k92_whole_smaller_to_the_end.row.Holds:= by k_head
end
def K92.zad : List Addr:= [2,3,15,17,18,20,21,22,29,30,31,32,35,42,43,44,47,54,55,56,59,66,68,69,71,72,73,74,75,78,85,86,87,90,97,98,99,102,104,105,107,108,109,111,112,114,115,116,118,119,121,122,123,125,126,128,129,130,132,133,135,136,137,140,141,142,145,146,147,149,150,152,153,154,156,157,159,160,161,163,164,166,167,168,171,172,173,176,177,178,181,182,183,186,187,188,191,192,193,196,197,198,200,201,203,204,212,213,214,215,216,219,226,229,230,231,233,234,236,237,238,239,240,243,245,246,248,249,250,252,253,255,256,257,259,260,262,263,264,266,267,269,270,271,273,274,276,277,278,280,281,283,284,285,287,288,290,291,292,294,295,297,298,299,301,302,304,305,306,308,309,311,312,313,315,316,318,319,320,323,324,325,327,328,330,331,332,335,336,337,339,340,342,343,344,346,347,349,350,351,353,354,356,357,358,360,361,363,364,365,367,368,370,371,372,375,376,377,379,380,382,383,384,387,388,389,391,392,394,395,396,398,399,401,402,403,406,407,408,410,411,413,414,415,422,425,426,427,429,430,432,433,434,437,438,439,440,441,444,446,447,449,450,451,453,454,456,457,458,460,461,463,464,465,468,469,470,472,473,475,476,477,479,480,482,483,484,486,487,489,490,491,493,494,496,497,498,500,501,503,504,505,507,508,510,511,512,514,515,517,518,519,521,522,524,525,526,529,530,531,533,534,536,537,538,540,541,543,544,545,547,548,550,551,552,555,556,557,560,561,562,564,565,567,568,569,572,573,581,584,585,586,588,589,591,592,593,595,596,598,599,600,602,603,605,606,607,610,611,612,614,615,617,618,619,621,622,624,625,626,628,629,631,632,633,635,636,638,639,640,642,643,645,646,647,648,649,650,651,654,656,657,659,660,661,663,664,666,667,668,670,671,673,674,675,678,679,680,683,684,685,687,688,690,691,692,694,695,697,698,699,701,702,704,705,728,731,732,733,736,737,738,741,742,743,745,746,748,749]
theorem K92.seenY (w : World) (os : OsState) : HD.lookAt PySem.Challenge.pw_oathduel_k92_whole_smaller_to_the_end 11 (some (.ref 6)) 5143 w os (kmHook K92.zpre.heap_1 K92.zad (fun _ => by kernel_rfl) [265]).obs = some ((kmHook K92.zpre.heap_1 K92.zad (fun _ => by kernel_rfl) [265]).val w):= by kernel_rfl
end
namespace L2
open PySem PySem.Spec PyProof.Rows
abbrev aJ:=Sum Int Str
noncomputable def qt:aJ->Pm->Px
 |.inl k,v=>T7 k v
 |.inr x,v=>VW x v
noncomputable def N_(w:Qc):aJ->Int
 |.inl k=>hashInt k
 |.inr x=>hashStr w x
theorem bO:∀{k:aJ} {v:Pm},qt k v=Pn->(∃i t,k=Qd i/\v=Vm i t)\/(∃x t,k=Ut x/\v=Y9 x t)
 |.inl i,v,h=>by
  obtain⟨t,e⟩:=Xh h;exact .inl ⟨i,t,rfl,e⟩
 |.inr x,v,h=>by
  obtain⟨t,e⟩:=Value.isStrOf_shape h;exact .inr ⟨x,t,rfl,e⟩
theorem zO(i:Int)(t:Tok):qt (.inl i) (.int i t)=true:=by simp[qt,T7]
theorem zP(x:Str)(t:Tok):qt (.inr x) (.str x t)=true:=by simp[qt,VW]
theorem JL(a b:Int):decide ((Qd a:aJ)=Qd b)=(a == b):=by
 lia
theorem JM(a b:Str):decide ((Ut a:aJ)=Ut b)=decide (a=b):=by
 simp
theorem JN(a:Int)(b:Str):decide ((Qd a:aJ)=Ut b)=false:=rfl
theorem JO(a:Str)(b:Int):decide ((Ut a:aJ)=Qd b)=false:=rfl
noncomputable def aQ(p:PU)(w:Qc):PySem.KeyKind p w aJ where
 is:=qt
 hash:=N_ w
 inj:=λv a b d c=>by
  rcases bO d with⟨i,t,rfl,rfl⟩|⟨x,t,rfl,rfl⟩
  ·rcases bO c with⟨j,u,rfl,e⟩|⟨y,u,rfl,e⟩
   ·simp_all
   simp_all
  rcases bO c with⟨j,u,rfl,e⟩|⟨y,u,rfl,e⟩
  ·simp_all
  simp_all
 byValue:=λk v h=>by
  rcases bO h with⟨i,t,rfl,rfl⟩|⟨x,t,rfl,rfl⟩<;>rfl
 pyHash:=λH h=>by
  rcases bO H with⟨i,t,rfl,rfl⟩|⟨x,t,rfl,rfl⟩
  ·exact wpAny_pyHash_int h
  exact wpAny_pyHash_str h
 eqBool:=λf H h=>by
  rcases bO f with⟨i,t,rfl,rfl⟩|⟨x,t,rfl,rfl⟩
  ·rcases bO H with⟨j,u,rfl,rfl⟩|⟨y,u,rfl,rfl⟩
   ·rw[JL]at h;exact wpAny_eqBool_int h
   rw[JN]at h;exact ZE i t y u _ _ _ _ h
  rcases bO H with⟨j,u,rfl,rfl⟩|⟨y,u,rfl,rfl⟩
  ·rw[JO]at h;exact ZD x t j u _ _ _ _ h
  rw[JM]at h;exact wpAny_eqBool_str h
 «strs»:=λk x t v h=>by
  rcases bO h with⟨i,u,rfl,e⟩|⟨y,u,rfl,e⟩
  ·simp_all
  injection e with E _;subst E;cases v<;>rfl
theorem tY(p:PU)(w:Qc)(i:Int)(t:Tok):(aQ p w).is (.inl i) (.int i t)=true:=zO i t
theorem tZ(p:PU)(w:Qc)(x:Str)(t:Tok):(aQ p w).is (.inr x) (.str x t)=true:=zP x t
set_option genInjectivity true in
inductive V where
 |non|bl (b:Px)|int (i:Int)|str (x:Str)|byt (b:RW UInt8)|flt (b:UInt64)|ref (a:C')|ty (n:TL)
 deriving Wj
def RelV:V->Pm->Prop
 |.non,u=>u=Zz
 |.bl b,u=>u=ZA b
 |.int i,u=>∃t,u=Vm i t
 |.str x,u=>∃t,u=Y9 x t
 |.byt b,u=>∃t,u=adR b t
 |.flt b,u=>∃t,u=aaY b t
 |.ref a,u=>u=QV a
 |.ty n,u=>u=WT n
abbrev Vals:ab V->ab Pm->Prop:=Paired RelV
theorem Vals.length(r:Vals xs u):xs.length=u.length:=Paired.length r
theorem Vals.get:∀{xs:ab V} {U:ab Pm} {i:Nat} {x:V},Vals xs U->xs[i]?=gV x->∃u,U[i]?=gV u/\RelV x u:=by
 intro xs U i x h e;induction h generalizing i with
 |nil=>cases e
 |cons r t j=>
  cases i with
  |zero=>cases e;exact⟨_,rfl,r⟩
  |succ i=>exact j e
theorem Vals.append:∀{xs y:ab V} {u w:ab Pm},Vals xs u->Vals y w->Vals (xs++y) (u++w):=by
 intro xs y u w h s;induction h with
 |nil=>exact s
 |cons r t i=>exact .cons r i
theorem Vals.take:∀{xs:ab V} {u:ab Pm} (n:Nat),Vals xs u->Vals (xs.take n) (u.take n):=by
 intro xs u n h;induction h generalizing n with
 |nil=>cases n<;>exact .nil
 |cons r t i=>
  cases n with
  |zero=>exact .nil
  |succ n=>exact .cons r<|i n
theorem Vals.drop:∀{xs:ab V} {u:ab Pm} (n:Nat),Vals xs u->Vals (xs.drop n) (u.drop n)
 |_,_,0,r=>r
 |_,_,_+1,.nil=>.nil
 |_,_,n+1,.cons _ t=>Vals.drop n t
theorem Vals.none_of:∀{xs:ab V} {u:ab Pm} {i:Nat},Vals xs u->xs[i]?=Pt->u[i]?=none:=λ{xs u i} r e=>by
 have h:=r.length;simp_all
def RelO:M' V->M' Pm->Prop
 |some v,gV u=>RelV v u
 |none,Pt=>True
 |_,_=>False
def KV{a:Type}:ab (a×V)->ab (a×Pm)->Prop:=Paired λ(p:a×V) (q:a×Pm)=>p.1=q.1/\RelV p.2 q.2
noncomputable def kV:aJ->V
 |.inl i=>.int i
 |.inr x=>.str x
set_option genInjectivity true in
inductive HO where
 |lst (xs:ab V)
 |tup (xs:ab V)
 |dK (kvs:ab (aJ×V))|dT (kvs:ab (ab aJ×V))
 |set (S:Int->Px) (n:Nat)
 |ins (C dx:C') (fs:ab (Str×V))
 |own (x:C')
 |xd (fs:ab (Str×V))
 |met (f x:C')
 |rng (lo h:Int)
 |frz (o:Obj) (u:HO)
 |tbl (p:RW Pm)
 |ext (a:QB->Prop)
abbrev Hp:=C'->M' HO
noncomputable def upd(H:Hp)(a:C')(o:HO):Hp:=λb=>if b=a then gV o else H b
theorem aa:upd H a o a=gV o:=by unfold upd;simp
theorem af(h:b≠a):upd H a o b=H b:=by unfold upd;rw[PM h]
theorem hG:upd (upd H a o) a u=upd H a u:=by
 unfold upd;simp_all
theorem bi{H:Hp}(h:H a=gV o)(h':H b=gV u)(d:o≠u):a≠b:=by
 lia
theorem ag{H:Hp}(h:H a=gV o)(h':H b=Pt):a≠b:=by
 lia
section
variable (P:PU)(w:Qc)
def ObjOk(H:Hp)(h:QB)(a:C'):HO->Prop
 |.lst X=>X.length<=sizeLine/\∃(r:ab Pm) (n:Nat),Vals X r/\h.get? a=gV {cls:=.type "list",data:=.seq r.toArray n}
 |.tup X=>X.length<=sizeLine/\∃r:ab Pm,Vals X r/\IsTup h a r.toArray
 |.dK k=>k.length<=sizeLine/\(a == Sn)=Pr/\∃s,KV k s/\h.DictOf (aQ P w) a s
 |.dT k=>k.length<=sizeLine/\(a == Sn)=Pr/\∃X:ab (ab aJ×C'×Pm),
   Paired (λ(p:ab aJ×V) (q:ab aJ×C'×Pm)=>p.1=q.1/\H q.2.1=gV (.tup<|p.1.map kV)/\RelV p.2 q.2.2) k X/\
   ∃o e E,h.get? a=gV o/\o.ExactDict/\o.data=.dict e E/\e.toList=X.map (entryOfKey<|V0<|aQ P w)/\(X.map (·.1)).Nodup
 |.set S n=>h.SetOf (intKind P w) a S n
 |.ins C d F=>H d=gV (.own a)/\F.length<=1000/\d≠a/\h.get? a=gV (SY C d)/\
   ∃m,h.Ns1 d m/\(∀f,RelO (F.lookup f)<|m f)/\Z9 m (F.map (·.1))
 |.own _=>∃o,h.get? a=gV o
 |.xd F=>∃m,h.Ns1 a m/\∀f,RelO (F.lookup f)<|m f
 |.rng lo i=>∃t u v,h.get? a=gV {cls:=.type "range",data:=.fields #[.int lo t,.int i u,.int 1 v]}
 |.frz o u=>h.get? a=gV o/\ObjOk H h a u
 |.tbl j=>h.get? a=gV {cls:=.none,data:=.fields j}
 |.met f x=>h.get? a=gV (Xg (.ref f)<|.ref x)
 |.ext b=>b h/\(∃o,h.get? a=gV o)/\∀c g:QB,b c->(∀o,c.get? a=gV o->g.get? a=gV o)->b g
def HOk(H:Hp)(h:QB):Prop:=∀a o,H a=gV o->ObjOk P w H h a o
end
section
variable {P:PU}{w:Qc}{H:Hp}{h:QB}{a:C'}
theorem ObjOk.lt(x:ObjOk P w H h a o):a<h.objs.size:=by
 cases o with
 |lst X=>obtain⟨z,z,z,z,e⟩:=x;exact P0 e
 |tup X=>obtain⟨z,z,z,p⟩:=x;exact p.lt
 |dK k=>obtain⟨z,z,z,z,o,z,z,e,z⟩:=x;exact P0 e
 |dT k=>obtain⟨z,z,z,z,o,z,z,e,z⟩:=x;exact P0 e
 |set S n=>obtain⟨o,z,z,z,e,z⟩:=x;exact P0 e
 |ins C d F=>obtain⟨z,z,z,e,z⟩:=x;exact P0 e
 |own y=>obtain⟨z,e⟩:=x;exact P0 e
 |xd F=>obtain⟨z,⟨z,z,z,e,z⟩,z⟩:=x;exact P0 e
 |rng lo i=>obtain⟨z,z,z,e⟩:=x;exact P0 e
 |frz O u=>obtain⟨e,z⟩:=x;exact P0 e
 |tbl s=>exact P0 (x)
 |met f y=>exact P0 (x)
 |ext b=>obtain⟨z,⟨z,e⟩,z⟩:=x;exact P0 e
theorem Paired.mapP{c d:Type}{F G:c->d->Prop}:∀{l:ab c} {L:ab d},Paired F l L->(∀a b,F a b->G a b)->Paired G l L:=by
 intro l L h f;induction h with
 |nil=>exact .nil
 |cons r t i=>exact .cons (f _ _ r) i
theorem Paired.imp'{c d:Type}{F G:c->d->Prop}(f:∀a b,F a b->G a b){l:ab c}{L:ab d}(r:Paired F l L):Paired G l L:=Paired.mapP r f
theorem ObjOk.stay(x:ObjOk P w H h a o)(k:∀b u,(b=a\/H b=gV (.own a))->h.get? b=gV u->h'.get? b=gV u)
  (B:∀b,H b=gV (.own a)->l b=gV (.own a)) (D:∀b X,H b=gV (.tup X)->l b=gV (.tup X)):ObjOk P w l h' a o:=by
 induction o with
 |lst X=>obtain⟨z,i,n,r,e⟩:=x;exact⟨z,i,n,r,k _ _ (.inl rfl) e⟩
 |tup X=>obtain⟨z,i,r,O,e,c⟩:=x;exact⟨z,i,r,O,k _ _ (.inl rfl) e,c⟩
 |dK s=>obtain⟨z,y,F,r,O,E,g,e,c⟩:=x;exact⟨z,y,F,r,O,E,g,k _ _ (.inl rfl) e,c⟩
 |dT s=>
  obtain⟨z,y,X,r,O,E,g,e,c⟩:=x;exact⟨z,y,X,Paired.mapP r λp q z=>⟨z.1,D _ _ z.2.1,z.2.2⟩,O,E,g,k _ _ (.inl rfl) e,c⟩
 |set S n=>obtain⟨O,E,g,t,e,c⟩:=x;exact⟨O,E,g,t,k _ _ (.inl rfl) e,c⟩
 |ins C L G=>
  obtain⟨d,z,N,e,m,⟨j,E,g,I,c⟩,r⟩:=x;exact⟨B _ d,z,N,k _ _ (.inl rfl) e,m,⟨j,E,g,k _ _ (.inr d) I,c⟩,r⟩
 |own y=>obtain⟨O,e⟩:=x;exact⟨O,k _ _ (.inl rfl) e⟩
 |xd G=>obtain⟨m,⟨j,E,g,e,c⟩,r⟩:=x;exact⟨m,⟨j,E,g,k _ _ (.inl rfl) e,c⟩,r⟩
 |rng lo M=>obtain⟨t,u,v,e⟩:=x;exact⟨t,u,v,k _ _ (.inl rfl) e⟩
 |frz O u J=>obtain⟨e,q⟩:=x;exact⟨k _ _ (.inl rfl) e,J q⟩
 |tbl A=>
  have e:=x;exact k a _ (.inl rfl) e
 |met f y=>
  have e:h.get? a=gV _:=x;show h'.get? a=gV _
  exact k a _ (.inl rfl) e
 |ext Q=>obtain⟨p,⟨o,e⟩,st⟩:=x;exact⟨st _ _ p λo q=>k _ _ (.inl rfl) q,⟨o,k _ _ (.inl rfl) e⟩,st⟩
theorem HOk.lt(x:HOk P w H h)(e:H a=gV o):a<h.objs.size:=(x a o e).lt
theorem HOk.fresh(x:HOk P w H h)(e:h.objs.size<=a):H a=none:=by
 cases q:H a with
 |none=>rfl
 |some u=>exact absurd (QH (x.lt q) e)<|Sa _
theorem HOk.kept(x:HOk P w H h)(k:∀b u,h.get? b=gV u->h'.get? b=gV u):HOk P w H h':=λa o e=>
 (x a o e).stay (λb u z q=>k b u q) (λz q=>q) λz z q=>q
theorem HOk.laid{h':QB}{o:HO}(x:HOk P w H h)(k:∀b u,h.get? b=gV u->h'.get? b=gV u)(p:h.objs.size<=a)(n:ObjOk P w (upd H a o) h' a o):HOk P w (upd H a o) h':=λb u e=>by
 have d:=x.fresh p;by_cases f:b=a
 ·subst f;rw[aa]at e;cases e;exact n
 rw[af f]at e;exact(x b u e).stay (λc v z q=>k c v q) (λc q=>by rwa[af<|ag q d]) λc X q=>by rwa[af<|ag q d]
end
def Rd(H:Hp)(a:C')(u:HO):Prop:=H a=gV u\/∃o,H a=gV (.frz o u)
theorem Rd.of(h:H a=gV u):Rd H a u:=.inl h
theorem Rd.ok(r:Rd H a u)(x:HOk P w H h):ObjOk P w H h a u:=by
 obtain r|⟨o,r⟩:=r
 ·exact x a u r
 obtain⟨z,q⟩:=x a _ r;exact q
def L9:M' HO->Prop
 |some (.lst _)=>True
 |some (.dK _)=>True
 |some (.dT _)=>True
 |some (.set _ _)=>True
 |some (.ins _ _ _)=>True
 |some (.ext _)=>True
 |_=>False
theorem HOk.write(g:HOk P w H h)(m:L9 (H x))(j:e=x\/H e=gV (.own x))(k:∀b u,b≠e->h.get? b=gV u->h'.get? b=gV u)(o:∃u,h'.get? e=gV u)
  (N:ObjOk P w (upd H x O) h' x O):HOk P w (upd H x O) h':=λb u q=>by
 have A:∀c y,H c=gV (.own y)->c≠x:=λc y r z=>by subst z;rwa[r]at m
 have n:∀c X,H c=gV (.tup X)->c≠x:=λc X r z=>by subst z;rwa[r]at m
 by_cases d:b=x
 ·subst d;rw[aa]at q;cases q;exact N
 rw[af d]at q;by_cases a:b=e
 ·have Q:H b=gV (.own x):=by
   lia
  rw[q]at Q;cases Q;obtain⟨v,i⟩:=o;exact⟨v,by rwa[a]⟩
 refine(g b u q).stay (λc v f r=>k c v ?_ r) (λc r=>by rwa[af<|A c b r]) λc X r=>by rwa[af<|n c X r]
 grind
structure Un (fs ex:ab C')(H H':Hp)(h h':QB):Prop where
 keep:∀b o,h.get? b=gV o->H b=Pt->b∉fs->b∉ex->h'.get? b=gV o
 slot:∀b o,h.get? b=gV o->H b=Pt->b∈fs->b∉ex->∃sl,h'.get? b=gV {o with slots:=sl}
 free:∀b o,h.get? b=gV o->H b=Pt->b∉ex->H' b=Pt
 there:∀b o,h.get? b=gV o->b∉ex->∃o',h'.get? b=gV o'
 tups:∀b xs,H b=gV (.tup xs)->H' b=gV (.tup xs)
 frzs:∀b o u,H b=gV (.frz o u)->H' b=gV (.frz o u)
 tbls:∀b ps,H b=gV (.tbl ps)->∃more,H' b=gV (.tbl<|ps++more)
theorem Un.any(u:Un f e H d h c)(q:h.get? b=gV o)(n:H b=Pt)(x:b∉e):∃s,c.get? b=gV {o with slots:=s}:=by
 by_cases a:b∈f
 ·exact u.slot b o q n a x
 exact⟨o.slots,u.keep b o q n a x⟩
theorem Un.kept(k:∀b u,h.get? b=gV u->h'.get? b=gV u):Un f e H H h h':=
 ⟨λb o q z z z=>k b o q,λb o q z z z=>⟨o.slots,k b o q⟩,λz z z n z=>n,λb o q z=>⟨o,k b o q⟩,λz z q=>q,λz z z q=>q,λz p q=>by simp_all⟩
theorem Un.refl:Un f e H H h h:=Un.kept λz z q=>q
theorem Un.laid(k:∀b u,h.get? b=gV u->h'.get? b=gV u)(p:h.objs.size<=a)(c:H a=Pt):Un f e H (upd H a o) h h' where
 keep:=λb u q z z z=>k b u q
 slot:=λb u q z z z=>⟨u.slots,k b u q⟩
 free:=λb u q n z=>by rwa[af<|Qa<|QH (P0 q) p]
 there:=λb u q z=>⟨u,k b u q⟩
 tups:=λb x q=>by rwa[af<|ag q c]
 frzs:=λb u x q=>by rwa[af<|ag q c]
 tbls:=λb P q=>⟨#[],by rw[af<|ag q c,q];simp⟩
theorem Un.write(m:L9 (H x))(i:e=x\/H e=gV (.own x))(k:∀b u,b≠e->h.get? b=gV u->h'.get? b=gV u)(c:∃u,h'.get? e=gV u):Un F E H (upd H x o) h h':=by
 have f:∀b,H b=Pt->b≠x:=λb n z=>by subst z;rwa[n]at m
 have g:∀b,H b=Pt->b≠e:=λb n z=>by
  simp_all
 have d:∀b u,H b=gV u->¬L9 (gV u)->b≠x:=λb u q N z=>by simp_all
 refine⟨λb u q n y y=>k b u (g b n) q,λb u q n y y=>⟨u.slots,k b u (g b n) q⟩,λb u q n y=>by rwa[af<|f b n],λb u q y=>?_,
  λb X q=>by rwa[af<|d b _ q λz=>z],λb u X q=>by rwa[af<|d b _ q λz=>z],λb p q=>⟨#[],by rw[af<|d b _ q λz=>z,q];simp⟩⟩
 by_cases a:b=e
 ·subst a;exact c
 exact⟨u,k b u a q⟩
noncomputable def NV(h:QB)(H:Hp):ab C':=(Qt h.objs.size).filter λa=>(H a).isSome
noncomputable def qh(h:QB)(H:Hp):QB:=PySem.W.hideAll h<|NV h H
theorem zQ(h:QB)(H:Hp):(qh h H).objs.size=h.objs.size:=PySem.W.hideAll_size _ _
theorem BF(e:h.get? b=gV o)(n:H b=Pt):(qh h H).get? b=gV o:=
 PySem.W.hideAll_get _ e λm=>by
  have q:=(PQ.mp m).2;simp_all
theorem FP(e:(qh h H).get? b=gV o):h.get? b=gV o/\H b=none:=by
 have E:=PySem.W.of_hideAll _ e;exists E;cases q:H b with
 |none=>rfl
 |some x=>
  have m:b∈NV h H:=PQ.mpr ⟨Rx.mpr<|P0 E,by simp[q]⟩;have z:(qh h H).get? b=none:=PySem.W.hideAll_none _ m;lia
structure Mod (K:J')(mg:Str->M' Pm)(base:QB):Prop where
 kin:K.In base
 glob:base.Ns Qr mg
 blt:∃mb,base.Ns V2 mb/\∀x:Str,x≠"__name__"->mb x=Vu x
 nolimit:base.NoLimit
structure Cx where
 prog:PU
 w:Qc
 K:J'
 mg:Str->M' Pm
 base:QB
 A:Q0
 N:ab Str
 s₀:PF
 H₀:Hp
 env:Env
 outer:ab Env
 stack:ab Env
 ex:ab C'
 fn:Str->Px
 calm:Px
 pn:ab (C'×Obj)
 xe:Pm->PF->Prop
noncomputable def vP(l:ab Env):ab C':=l.filterMap (·.frame)
noncomputable abbrev Cx.fs(X:Cx):ab C':=vP X.outer
def LX(s:T_)(x:Str):Prop:=s.names.lookup x=gV .local\/s.names.lookup x=gV .cell\/s.names.lookup x=gV .free
def JP(s:T_)(x:Str):Prop:=s.names.lookup x=gV .local\/s.names.lookup x=gV .cell
def Oa(e:Env)(h:QB)(m:Str->M' Pm)(x:Str)(u:Pm):Prop:=
 (e.kindOf x=gV .local/\m x=gV u)\/((e.kindOf x=gV .cell\/e.kindOf x=gV .free)/\∃c,e.cells.lookup x=gV c/\h.IsCell c (gV u))
structure Cx.Ok (X:Cx):Prop where
 mod:Mod X.K X.mg X.base
 kind:X.env.scope.kind=.function
 glob:X.env.globals=Qr
 blt:X.env.builtins=V2
 above:X.s₀.heap.objs.size<=X.env.locals
 inj:∀x y c,X.env.cells.lookup x=gV c->X.env.cells.lookup y=gV c->x=y
 has:∀x,(X.env.kindOf x=gV .cell\/X.env.kindOf x=gV .free)->∃c,X.env.cells.lookup x=gV c
 cab:∀x c,X.fn x=Pn->X.env.cells.lookup x=gV c->X.s₀.heap.objs.size<=c
 hd:X.calm=Pn->X.A.handled=Pt
 frames:X.A.frames=gV X.stack
 stk:X.stack=X.outer\/(X.stack=X.env::X.outer/\X.env.frame=gV X.env.locals)
 exf:∀b∈X.ex,b≠X.env.locals/\∀x c,X.env.cells.lookup x=gV c->c≠b
 bs:∀b o,X.base.get? b=gV o->X.s₀.heap.get? b=gV o/\X.H₀ b=Pt
 bsz:X.base.objs.size<=X.s₀.heap.objs.size
 noex:∀b o,X.base.get? b=gV o->b∉X.ex
 exfs:∀b∈X.ex,b∉X.fs
 funs:X.s₀.heap.FunFrames X.base X.outer
 frf:∀b∈X.fs,X.H₀ b=Pt
structure Inv (X:Cx)(Pz:ab (C'×Obj))(σ:ab (M' V))(H:Hp)(s:PF):Prop where
 ok:X.Ok
 os:s.os=X.s₀.os
 bare:Xj s.gens
 base:Un X.fs X.ex X.H₀ H X.s₀.heap s.heap
 loc:∃m,s.heap.Ns X.env.locals m/\∀(i:Nat) (x:Str) (v:V),X.N[i]?=gV x->σ[i]?=gV (gV v)->LX X.env.scope x->∃u,RelV v u/\Oa X.env s.heap m x u
 cell:∀x c,X.env.cells.lookup x=gV c->∃v,s.heap.IsCell c v
 free:H X.env.locals=Pt
 freeC:∀x c,X.env.cells.lookup x=gV c->H c=Pt
 pin:∀p∈X.pn++Pz,s.heap.get? p.1=gV p.2/\H p.1=Pt/\p.1≠X.env.locals/\p.1∉X.fs/\∀v,p.2.data≠.cell v
 hok:HOk X.prog X.w H s.heap
 len:σ.length=X.N.length
theorem Cx.Ok.nofr{X:Cx}(O:X.Ok)(e:X.base.get? b=gV o):b∉X.fs:=λh=>by
 have:=(O.funs.mem h).1;lia
theorem Inv.bs(I:Inv X O a H s):∀b o,X.base.get? b=gV o->s.heap.get? b=gV o/\H b=none:=λb o e=>
 ⟨I.base.keep b o (I.ok.bs b o e).1 (I.ok.bs b o e).2 (I.ok.nofr e)<|I.ok.noex b o e,I.base.free b o (I.ok.bs b o e).1 (I.ok.bs b o e).2<|I.ok.noex b o e⟩
theorem Inv.bk(I:Inv X O a H s):∀b o,X.base.get? b=gV o->s.heap.get? b=gV o:=λb o e=>(I.bs b o e).1
theorem Inv.mod(I:Inv X O a H s):Mod X.K X.mg X.base:=I.ok.mod
theorem Inv.kIn(I:Inv X O a H s):X.K.In s.heap:=I.ok.mod.kin.keeps I.bk
theorem Inv.lt(I:Inv X O a H s):X.env.locals<s.heap.objs.size:=let ⟨_,h,_⟩:=I.loc;h.lt
theorem Inv.sz(I:Inv X O a H s):X.s₀.heap.objs.size<=s.heap.objs.size:=QF I.ok.above<|QA I.lt
theorem Inv.nofs(I:Inv X O d H s){a:C'}(h:s.heap.objs.size<=a):a∉X.fs:=λb=>by
 obtain⟨z,o,c,z⟩:=I.ok.funs.mem b;exact absurd (QH (P0 c)<|QF I.sz h)<|Sa _
theorem Inv.cne(I:Inv X O f H s):∀x c,X.env.cells.lookup x=gV c->c≠X.env.locals:=λx c e z=>by
 obtain⟨v,o,b,d⟩:=I.cell x c e;obtain⟨m,⟨g,E,p,h,a,y⟩,y⟩:=I.loc;simp_all
theorem Inv.funs(I:Inv X O q H s):s.heap.FunFrames X.base X.outer:=by
 have a:∀l,(∀b∈vP l,b∈X.fs)->X.s₀.heap.FunFrames X.base l->s.heap.FunFrames X.base l:=by
  intro l
  induction l with
  |nil=>intro y y;trivial
  |cons E r i=>
   intro f g;obtain⟨k,⟨L,o,h,n,j,m⟩,p⟩:=g;have c:=f L (by unfold vP;rw[SZ,h];exact P3);obtain⟨t,e⟩:=I.base.slot L o j (I.ok.frf L c) c λz=>I.ok.exfs L z c;exact⟨k,⟨L,_,h,n,e,m⟩,i (λb d=>f b<|by unfold vP;rw[SZ,h];exact P1 _ d) p⟩
 exact a _ (λy d=>d) I.ok.funs
theorem Inv.stack(I:Inv X O a H s):s.heap.FunFrames X.base X.stack:=by
 obtain e|⟨e,h⟩:=I.ok.stk
 ·rw[e];exact I.funs
 rw[e];obtain⟨m,n,z⟩:=I.loc;exact .cons (by rw[I.ok.kind];decide) h n (YM<|QF I.ok.bsz I.ok.above) I.funs
theorem Inv.stkSub(I:Inv X O a H s):∀b∈vP X.stack,b∈X.env.locals::X.fs:=λb h=>by
 obtain e|⟨e,f⟩:=I.ok.stk
 ·rw[e]at h;exact P1 _ h
 rw[e]at h;unfold vP at h;rwa[SZ,f]at h
theorem Inv.stkFree(I:Inv X O c H s):∀b∈vP X.stack,H b=none:=λb h=>by
 obtain e|h:=P_.mp (I.stkSub b h)
 ·rw[e];exact I.free
 obtain⟨y,o,a,y⟩:=I.ok.funs.mem h;exact I.base.free b o a (I.ok.frf b h) λz=>I.ok.exfs b z h
theorem Inv.step{g':RW T2}{t':Nat}{d':Drawn}{ch:ab C'}(I:Inv X Y σ H s)
  (a:∀b∈ch,(b∈X.ex\/X.s₀.heap.objs.size<=b)/\b≠X.env.locals/\(∀x c,X.env.cells.lookup x=gV c->c≠b)/\∀p∈X.pn++Y,p.1≠b)
  (g:∀b o,b≠X.env.locals->b∉X.fs->b∉ch->s.heap.get? b=gV o->H b=Pt->h'.get? b=gV o)
  (ac:∀b o,b≠X.env.locals->b∈X.fs->b∉ch->s.heap.get? b=gV o->H b=Pt->∃J,h'.get? b=gV {o with slots:=J}) (f:∀b o,b∉ch->s.heap.get? b=gV o->H b=Pt->A b=Pt)
  (t:∀b o,b∉ch->s.heap.get? b=gV o->∃O,h'.get? b=gV O)
  (T:∀b j,H b=gV (.tup j)->A b=gV (.tup j)) (F:∀b o u,H b=gV (.frz o u)->A b=gV (.frz o u)) (B:∀b P,H b=gV (.tbl P)->∃M,A b=gV (.tbl<|P++M))
  (ns:∀m,s.heap.Ns X.env.locals m->h'.Ns X.env.locals m) (Q:HOk X.prog X.w A h') (hg:Xj g'):
  Inv X Y σ A {s with heap:=h',gens:=g',drawn:=d',toks:=t'}:=by
 have L:∀b o,X.s₀.heap.get? b=gV o->b≠X.env.locals:=λb o e=>Qa<|QH (P0 e) I.ok.above;have C:∀b o,X.s₀.heap.get? b=gV o->b∉X.ex->b∉ch:=λb o e h w=>by
  obtain z|z:=(a b w).1
  ·exact h z
  exact absurd (QH (P0 e) z)<|Sa _
 have D:∀x c,X.env.cells.lookup x=gV c->∀v,s.heap.IsCell c v->h'.IsCell c v:=λx c e v ⟨o,y,U⟩=>by
  have N:=λz=>(a c z).2.2.1 x c e rfl;by_cases Z:c∈X.fs
  ·obtain⟨J,q⟩:=ac c o (I.cne x c e) Z N y<|I.freeC x c e;exact⟨_,q,U⟩
  exact⟨o,g c o (I.cne x c e) Z N y<|I.freeC x c e,U⟩
 refine⟨I.ok,I.os,hg,⟨λb o e n w h=>?_,λb o e n w h=>?_,λb o e n h=>?_,λb o e h=>?_,λb j e=>T b j<|I.base.tups b j e,λb o j e=>F b o j<|I.base.frzs b o j e,λb P e=>?_⟩,?_,λx c e=>?_,?_,λx c e=>?_,λp hp=>?_,Q,I.len⟩
 ·exact g b o (L b o e) w (C b o e h) (I.base.keep b o e n w h)<|I.base.free b o e n h
 ·obtain⟨J,E⟩:=I.base.slot b o e n w h;obtain⟨W,G⟩:=ac b _ (L b o e) w (C b o e h) E<|I.base.free b o e n h;exact⟨W,G⟩
 ·obtain⟨O,E⟩:=I.base.there b o e h;exact f b O (C b o e h) E<|I.base.free b o e n h
 ·obtain⟨O,E⟩:=I.base.there b o e h;exact t b O (C b o e h) E
 ·obtain⟨m1,E⟩:=I.base.tbls b P e;grind
 ·obtain⟨m,hn,hl⟩:=I.loc;refine⟨m,ns m hn,λi x v E G e3=>?_⟩;obtain⟨u,r,l⟩:=hl i x v E G e3;exists u,r;obtain l|⟨k,c,e,z⟩:=l
  ·exact .inl l
  exact .inr ⟨k,c,e,D x c e _ z⟩
 ·obtain⟨v,z⟩:=I.cell x c e;exact⟨v,D x c e v z⟩
 ·obtain⟨m,⟨o,V,V,y,V⟩,V⟩:=I.loc;exact f _ o (λz=>(a _ z).2.1 rfl) y I.free
 ·obtain⟨v,o,y,U⟩:=I.cell x c e;exact f c o (λz=>(a c z).2.2.1 x c e rfl) y<|I.freeC x c e
 obtain⟨e,n,ne,nf,d⟩:=I.pin p hp;have N:=λz=>(a p.1 z).2.2.2 p hp rfl;exact⟨g p.1 p.2 ne nf N e n,f p.1 p.2 N e n,ne,nf,d⟩
theorem Inv.un(I:Inv X O g H s)(u:Un X.fs [] H d s.heap h')(k:HOk X.prog X.w d h'):Inv X O g d {s with heap:=h',toks:=t'}:=by
 obtain⟨m,⟨o,l,p,f,r⟩,y⟩:=id I.loc;obtain⟨q,L⟩:=u.any f I.free (by simp);exact I.step (ch:=[]) (λy z=>nomatch z) (λb o y a y e n=>u.keep b o e n a<|by simp) (λb o y a y e n=>u.slot b o e n a<|by simp) (λb o y e n=>u.free b o e n<|by simp) (λb o y e=>u.there b o e<|by simp) u.tups u.frzs u.tbls (λM i=>by
  obtain⟨t,E,c,h,j⟩:=i;rw[f]at h;cases h;exact⟨_,E,c,L,j⟩) k I.bare
theorem Inv.call{t':Nat}{d':Drawn}(I:Inv X O j H s)(u:Un (vP X.stack) ch H g s.heap h')(k:HOk X.prog X.w g h')(l:Xj g')
  (a:∀b∈ch,(b∈X.ex\/X.s₀.heap.objs.size<=b)/\b≠X.env.locals/\(∀x c,X.env.cells.lookup x=gV c->c≠b)/\∀p∈X.pn++O,p.1≠b):
  Inv X O j g {s with heap:=h',gens:=g',drawn:=d',toks:=t'}:=by
 obtain⟨m,⟨o,w,y,i,r⟩,Z⟩:=id I.loc;obtain⟨A,L⟩:=u.any i I.free λz=>(a _ z).2.1 rfl;exact I.step a (λb o L q h e n=>u.keep b o e n (λz=>(P_.mp<|I.stkSub b z).elim L q) h) (λb o Z Z h e n=>u.any e n h) (λb o h e n=>u.free b o e n h) (λb o h e=>u.there b o e h) u.tups u.frzs u.tbls (λM t=>by
  obtain⟨B,E,f,d,v⟩:=t;rw[i]at d;cases d;exact⟨_,E,f,L,v⟩) k l
theorem Inv.turned{t':Nat}(I:Inv X O a H s)(k:∀b o,b≠i->s.heap.get? b=gV o->h'.get? b=gV o)(d:H i=Pt)(L:i≠X.env.locals)
  (f:i∈X.ex\/X.s₀.heap.objs.size<=i) (g:∀x c,X.env.cells.lookup x=gV c->c≠i) (j:∀p∈X.pn++O,p.1≠i):Inv X O a H {s with heap:=h',toks:=t'}:=by
 refine I.step (ch:=[i]) (λb l=>?_) (λb o z z h e z=>k b o (by simp_all) e) (λb o z z h e z=>⟨o.slots,k b o (by simp_all) e⟩) (λz z z z n=>n)
  (λb o h e=>⟨o,k b o (by simp_all) e⟩) (λz z e=>e) (λz z z e=>e) (λb P e=>⟨#[],by rw[e];simp⟩) (λm t=>?_) (λb u e=>?_) I.bare
 ·have e:b=i:=by simpa using l
  subst e;exact⟨f,L,g,j⟩
 ·obtain⟨o,E,w,y,r⟩:=t;exact⟨o,E,w,k _ o (Q1 L) y,r⟩
 refine(I.hok b u e).stay (λc v h q=>k c v ?_ q) (λz q=>q) λz z q=>q;lia
theorem Inv.tok(I:Inv X O a H s)(t:Nat):Inv X O a H {s with toks:=t}:=I.un Un.refl I.hok
theorem Inv.kept(I:Inv X O a H s)(k:∀b u,s.heap.get? b=gV u->h'.get? b=gV u):Inv X O a H {s with heap:=h',toks:=t'}:=I.un (Un.kept k)<|I.hok.kept k
theorem Inv.laid{a:C'}{o:HO}{t':Nat}(I:Inv X O c H s)(k:∀b u,s.heap.get? b=gV u->h'.get? b=gV u)(h:s.heap.objs.size<=a)(n:ObjOk X.prog X.w (upd H a o) h' a o):
  Inv X O c (upd H a o) {s with heap:=h',toks:=t'}:=I.un (Un.laid k h<|I.hok.fresh h)<|I.hok.laid k h n
theorem Inv.write{o:HO}{t':Nat}(I:Inv X O c H s)(m:L9 (H x))(a:e=x\/H e=gV (.own x))(k:∀b u,b≠e->s.heap.get? b=gV u->h'.get? b=gV u)(h:∃u,h'.get? e=gV u)
  (n:ObjOk X.prog X.w (upd H x o) h' x o):Inv X O c (upd H x o) {s with heap:=h',toks:=t'}:=I.un (Un.write m a k h)<|I.hok.write m a k h n
theorem Inv.pins_of(I:Inv X O b H s)(h:∀p∈a,s.heap.get? p.1=gV p.2/\H p.1=Pt/\p.1≠X.env.locals/\p.1∉X.fs/\∀v,p.2.data≠.cell v):Inv X a b H s:=
 ⟨I.ok,I.os,I.bare,I.base,I.loc,I.cell,I.free,I.freeC,λp c=>(P5.mp c).elim (λz=>I.pin p<|Ry _ z)<|h p,I.hok,I.len⟩
theorem t4{N:ab Str}(h:N.Nodup){i j:Nat}{x:Str}(a:N[i]?=gV x) (b:N[j]?=gV x):i=j:=by
 obtain⟨H,e⟩:=N'.mp a;obtain⟨c,E⟩:=N'.mp b;exact(aaS h).mp<|e.trans E.symm
theorem qu{M:mj}{A:Q0}{E:Pm->PF->Prop}{Q:YE->PF->Prop}(I:Inv X Oc σ H s)(hN:X.N.Nodup)(N:X.N[i]?=gV x)(t:JP X.env.scope x)(r:RelV v u)
  (h:∀P,Inv X Oc (σ.set i<|gV v) H P->(∃a,UO a s.heap P.heap/\(a=X.env.locals\/X.env.cells.lookup x=gV a))->Q () P) (hf:X.fn x=Pn\/X.env.scope.names.lookup x=gV .local:=by first|exact .inl rfl|exact .inr rfl|assumption):wpAny M A (vu X.env x u) Q E s:=by
 obtain⟨m,hn,hl⟩:=id I.loc;have ac:(X.env.scope.kind == .class || (X.env.scope.kind == .module&&X.env.locals != X.env.globals))=false:=by rw[I.ok.kind];rfl
 have B:i<σ.length:=by rw[I.len];exact(N'.mp N).1
 have D:=I.cne;have O:∀{a:C'} {L:QB},(∃o,s.heap.get? a=gV o/\H a=Pt)->UO a _ L->HOk _ X.w H L:=λ{a L} ha f b ob e=>by
  refine(I.hok b ob e).stay (λc W l q=>(f.2 c ?_).trans q) (λV q=>q) λV V q=>q;lia
 obtain C|C:=t
 ·refine wpAny_storeName_local C hn (λL am f=>?_) ac;obtain⟨oL,V,V,an,V⟩:=id hn;refine h _ ⟨I.ok,I.os,I.bare,⟨λb o e n F t=>?_,λb o e n F t=>?_,I.base.free,λb o e t=>?_,I.base.tups,I.base.frzs,I.base.tbls⟩,⟨_,am,λj y v' g w e3=>?_⟩,λy c e=>?_,I.free,I.freeC,λp hp=>?_,O ⟨oL,an,I.free⟩ f,by simpa using I.len⟩ ⟨_,f,.inl rfl⟩
  ·exact(f.2 b<|Qa<|QH (P0 e) I.ok.above).trans<|I.base.keep b o e n F t
  ·obtain⟨sl,g⟩:=I.base.slot b o e n F t;exact⟨sl,(f.2 b<|Qa<|QH (P0 e) I.ok.above).trans g⟩
  ·obtain⟨o',g⟩:=I.base.there b o e t;exact⟨o',(f.2 b<|Qa<|QH (P0 e) I.ok.above).trans g⟩
  ·by_cases G:j=i
   ·subst G;rw[N]at g;cases g;rw[Yh B]at w;cases w;exact⟨u,r,.inl ⟨C,by simp⟩⟩
   rw[YY<|Q1 G]at w;obtain⟨u',r',q⟩:=hl j y v' g w e3;exists u',r';obtain⟨k,e⟩|⟨k,c,e,z⟩:=q
   ·refine .inl ⟨k,?_⟩;have:y≠x:=λe=>G<|t4 hN g<|e▸N;simp_all
   exact .inr ⟨k,c,e,z.sameBut f<|D y c e⟩
  ·obtain⟨W,z⟩:=I.cell y c e;exact⟨W,z.sameBut f<|D y c e⟩
  obtain⟨e,n,Y,nf,d⟩:=I.pin p hp;exact⟨(f.2 p.1 Y).trans e,n,Y,nf,d⟩
 have J:X.fn x=true:=by
  simp_all
 obtain⟨c,l⟩:=I.ok.has x<|.inl C;obtain⟨W,z⟩:=I.cell x c l;refine wpAny_storeName_cell I.ok.kind C l z λL WB f=>?_;obtain⟨oc,T,as⟩:=id z;refine h _ ⟨I.ok,I.os,I.bare,⟨λb o e n F t=>?_,λb o e n F t=>?_,I.base.free,λb o e t=>?_,I.base.tups,I.base.frzs,I.base.tbls⟩,⟨m,hn.sameBut f<|Q1<|D x c l,λj y v' g w e3=>?_⟩,λy Z e=>?_,I.free,I.freeC,λp hp=>?_,O ⟨oc,T,I.freeC x c l⟩ f,by simpa using I.len⟩ ⟨c,f,.inr l⟩
 ·exact(f.2 b<|Qa<|QH (P0 e)<|I.ok.cab x c J l).trans<|I.base.keep b o e n F t
 ·obtain⟨sl,g⟩:=I.base.slot b o e n F t;exact⟨sl,(f.2 b<|Qa<|QH (P0 e)<|I.ok.cab x c J l).trans g⟩
 ·obtain⟨o',g⟩:=I.base.there b o e t;exact⟨o',(f.2 b<|Qa<|QH (P0 e)<|I.ok.cab x c J l).trans g⟩
 ·by_cases G:j=i
  ·subst G;rw[N]at g;cases g;rw[Yh B]at w;cases w;exact⟨u,r,.inr ⟨.inl C,c,l,WB⟩⟩
  rw[YY<|Q1 G]at w;obtain⟨u',r',q⟩:=hl j y v' g w e3;exists u',r';obtain q|⟨k,Z,e,z'⟩:=q
  ·exact .inl q
  refine .inr ⟨k,Z,e,z'.sameBut f ?_⟩;rintro rfl;exact G<|t4 hN g<|I.ok.inj _ _ _ e l▸N
 ·by_cases U:Z=c
  ·subst U;exact⟨_,WB⟩
  obtain⟨w2,z2⟩:=I.cell y Z e;exact⟨w2,z2.sameBut f U⟩
 obtain⟨e,n,Y,nf,d⟩:=I.pin p hp;refine⟨(f.2 p.1 ?_).trans e,n,Y,nf,d⟩;grind
theorem nV{M:mj}{A:Q0}{E:Pm->PF->Prop}{Q:YE->PF->Prop}(I:Inv X O b H s)(N:X.N.Nodup)(c:X.N[i]?=gV x)(d:JP X.env.scope x)(r:RelV v u)
  (h:∀a,Inv X O (b.set i<|gV v) H a->Q () a) (f:X.fn x=Pn\/X.env.scope.names.lookup x=gV .local:=by first|exact .inl rfl|exact .inr rfl|assumption):wpAny M A (vu X.env x u) Q E s:=
 qu I N c d r (λa e z=>h a e) f
theorem Inv.call'(I:Inv X O g H s)(o:a.os=s.os)(u:Un (vP X.stack) ch H f s.heap a.heap)(h:HOk X.prog X.w f a.heap)(i:Xj a.gens)
  (d:∀b∈ch,(b∈X.ex\/X.s₀.heap.objs.size<=b)/\b≠X.env.locals/\(∀x c,X.env.cells.lookup x=gV c->c≠b)/\∀p∈X.pn++O,p.1≠b):Inv X O g f a:=by
 obtain⟨k,G,D,t,j⟩:=a;have e:=o;subst e;exact I.call u h i d
abbrev XK:=Pm->M' C'->Hp->Prop
abbrev St:=ab<|M' V
abbrev VK:=V->Hp->Prop
abbrev TE:=St->Hp->VK->Prop
abbrev TT:=St->Hp->(Px->Hp->Prop)->Prop
abbrev TA:=St->Hp->(ab V->Hp->Prop)->Prop
structure hH where
 nx:St->Hp->Prop
 rt:VK
 bk:St->Hp->Prop:=λ_ _=>False
 ct:St->Hp->Prop:=λ_ _=>False
abbrev TS:=hH->St->Hp->Prop
def EP(X:Cx)(P:ab (C'×Obj))(a:St)(Q:VK)(u:Pm)(s:PF):Prop:=∃v H,Inv X P a H s/\RelV v u/\Q v H
def TP(X:Cx)(P:ab (C'×Obj))(a:St)(Q:Px->Hp->Prop)(b:Px)(s:PF):Prop:=∃H,Inv X P a H s/\Q b H
def AP(X:Cx)(P:ab (C'×Obj))(a:St)(Q:ab V->Hp->Prop)(u:ab Pm)(s:PF):Prop:=∃v H,Inv X P a H s/\Vals v u/\Q v H
def SP(X:Cx)(P:ab (C'×Obj))(D:hH)(f:Flow)(s:PF):Prop:=
 match f with
 |.next=>∃a H,Inv X P a H s/\D.nx a H
 |.brk=>∃a H,Inv X P a H s/\D.bk a H
 |.cont=>∃a H,Inv X P a H s/\D.ct a H
 |.ret u=>∃v a H,Inv X P a H s/\RelV v u/\D.rt v H
def PE(X:Cx)(e:QS)(t:TE):Prop:=
 ∀(P:ab (C'×Obj)) (s:PF) (a:St) (H:Hp) (Q:VK),Inv X P a H s->t a H Q->wpAny (Qj X.prog X.w) X.A (RU e X.env) (EP X P a Q) X.xe s
def PT(X:Cx)(e:QS)(t:TT):Prop:=
 ∀(P:ab (C'×Obj)) (s:PF) (a:St) (H:Hp) (Q:Px->Hp->Prop),Inv X P a H s->t a H Q->wpAny (Qj X.prog X.w) X.A (isTrue e X.env<|RU e X.env) (TP X P a Q) X.xe s
def PW(X:Cx)(e:QS)(t:TT):Prop:=
 ∀(Z:Sem Pm) (P:ab (C'×Obj)) (s:PF) (a:St) (H:Hp) (Q:Px->Hp->Prop),Inv X P a H s->t a H Q->wpAny (Qj X.prog X.w) X.A (isTrue e X.env Z) (TP X P a Q) X.xe s
theorem PW.pt(h:PW X e t):PT X e t:=h _
def PA(X:Cx)(e:ab QS)(t:TA):Prop:=
 ∀(p:Pos) (P:ab (C'×Obj)) (s:PF) (a:St) (H:Hp) (Q:ab V->Hp->Prop),Inv X P a H s->t a H Q->wpAny (Qj X.prog X.w) X.A (spliced<|SW p<|Qk e X.env) (AP X P a Q) X.xe s
def PS(X:Cx)(st:QW)(t:TS):Prop:=
 ∀(P:ab (C'×Obj)) (s:PF) (a:St) (H:Hp) (D:hH),Inv X P a H s->t D a H->wpAny (Qj X.prog X.w) X.A (exec st X.env) (SP X P D) X.xe s
def PSs(X:Cx)(st:ab QW)(t:TS):Prop:=
 ∀(P:ab (C'×Obj)) (s:PF) (a:St) (H:Hp) (D:hH),Inv X P a H s->t D a H->wpAny (Qj X.prog X.w) X.A (execs st X.env) (SP X P D) X.xe s
theorem bC{b:Type}{t:Sem b}{Q q:b->PF->Prop}{M:mj}{A:Q0}{E:Pm->PF->Prop}{s:PF}(h:wpAny M A t Q E s)(H:∀a s,Q a s->q a s):wpAny M A t q E s:=RT h H λz z x=>x
inductive Ij (i:Nat)(a:St)(H:Hp)(Q:VK):Prop
 |mk (v:V)(h:a[i]?=gV (gV v)) (q:Q v H)
def nX(i:Nat):TE:=λa H Q=>Ij i a H Q
def tC(v:V):TE:=λ_ H Q=>Q v H
theorem BG{X:Cx}{i:Nat}{x:Str}{p:Pos}(N:X.N[i]?=gV x) (j:LX X.env.scope x) (d:(x == ("__debug__":Str))=false:=by decide) (b:(x == ("__classdict__":Str))=false:=by decide):PE X (.Name x p) (nX i):=by
 intro O s n H Q I h;obtain⟨v,e,h⟩:=h;obtain⟨m,o,q⟩:=I.loc;obtain⟨u,r,l⟩:=q i x v N e j;have f:EP X O n Q u s:=⟨v,H,I,r,h⟩;obtain⟨k,t⟩|⟨k,c,g,a⟩:=l
 ·exact y3 (YF I.ok.kind k o t f) d
 obtain k|k:=k
 ·exact y3 (Za I.ok.kind k g a f) d
 exact y3 (wpAny_loadName_free I.ok.kind k g a f b) d
theorem cF{i j p}:PE X (.Constant (.int i) j p) (tC<|.int i):=λz z z H z I h=>wpAny_Constant_int ⟨.int i,H,I.tok _,⟨_,rfl⟩,h⟩
theorem gb{b j p}:PE X (.Constant (.bool b) j p) (tC<|.bl b):=λz z z H z I h=>Constant_bool ⟨.bl b,H,I,rfl,h⟩
theorem gG{j p}:PE X (.Constant .none j p) (tC .non):=λz z z H z I h=>Constant_none ⟨.non,H,I,rfl,h⟩
theorem iE{x j p}:PE X (.Constant (.str x) j p) (tC<|.str x):=λz z z H z I h=>Calls.Constant_str ⟨.str x,H,I.tok _,⟨_,rfl⟩,h⟩
def Gl(X:Cx)(x:Str):Prop:=X.env.kindOf x=gV .globalImplicit
theorem nj{E:Pm->PF->Prop}{p:Pos}(I:Inv X O a H s)(g:Gl X x)(m:X.mg x=gV u)(h:Q u s)
  (d:(x == ("__debug__":Str))=false:=by decide):wpAny (Qj X.prog X.w) X.A (RU (.Name x p) X.env) Q E s:=
 WW I.ok.kind g (Calls.loadGlobal_global (by rw[I.ok.glob];exact I.mod.glob.keeps I.bk) m h) d
theorem dD{E:Pm->PF->Prop}{p:Pos}(I:Inv X O c H s)(g:Gl X x)(m:X.mg x=Pt)(v:Vu x=gV u)(h:Q u s)
  (n:x≠"__name__":=by decide) (d:(x == ("__debug__":Str))=false:=by decide):wpAny (Qj X.prog X.w) X.A (RU (.Name x p) X.env) Q E s:=by
 obtain⟨M,a,b⟩:=I.mod.blt;exact WW I.ok.kind g (Calls.loadGlobal_builtin (by rw[I.ok.glob];exact I.mod.glob.keeps I.bk) m (by rw[I.ok.blt];exact a.keeps I.bk) ((b x n).trans v) h) d
theorem FQ(g:Gl X x)(m:X.mg x=gV u)(r:RelV v u)(d:(x == ("__debug__":Str))=false:=by decide):PE X (.Name x p) (tC v):=
 λz z z H z I h=>nj I g m ⟨v,H,I,r,h⟩ d
theorem nu{x:Str}{v:V}{u:Pm}{p:Pos}(g:Gl X x)(m:X.mg x=Pt)(a:Vu x=gV u)(r:RelV v u)(n:x≠"__name__":=by decide)(d:(x == ("__debug__":Str))=false:=by decide):PE X (.Name x p) (tC v):=
 λz z z H z I h=>dD I g m a ⟨v,H,I,r,h⟩ n d
def PC(X:Cx)(o:aa1)(a b:QS)(t:TE):Prop:=
 ∀(P:ab (C'×Obj)) (s:PF) (e:St) (H:Hp) (Q:VK),Inv X P e H s->t e H Q->
  wpAny (Qj X.prog X.w) X.A (RU a X.env) (λv c=>wpAny (Qj X.prog X.w) X.A (RU b X.env) (λu d=>wpAny (Qj X.prog X.w) X.A (Rf o v u) (EP X P e Q) X.xe d) X.xe c) X.xe s
inductive JQ (x:V)(Q:Px->Hp->Prop)(H:Hp):Prop
 |mk (c:Px)(h:x=.bl c)(q:Q c H)
def tB(t:TE):TT:=λa H Q=>t a H λx h=>JQ x Q h
theorem jI(h:PC X o a b t)(e:Uo o b=false:=by first|exact nobehind _ (by decide) (by decide)|rfl):PT X (.Compare a [o] [b] p) (tB t):=by
 intro O s f H Q I w;refine Ys (bC (h O s f H _ I w) λv l e=>bC e λu m g=>bC g λc n ⟨x,i,j,r,k⟩=>?_) e;obtain⟨d,rfl,q⟩:=k;cases r;exact Rj ⟨i,j,q⟩
theorem gH(h:PE X e t)(a:∀Y,isTrue e X.env Y=(do let v <-Y;Y6 e.pos;Vr [v] (truthy v)):=by intro z;rfl):PT X e (tB t):=by
 intro O s b H Q I w;refine isTrue_plain (bC (h O s b H _ I w) λv g ⟨x,c,i,r,f⟩=>?_)<|a _;obtain⟨d,rfl,q⟩:=f;cases r;exact Rj ⟨c,i,q⟩
def Ob(t u:TT):TT:=λa H Q=>t a H λc h=>if c=Pn then u a h Q else Q Pr h
def OZ(t u:TT):TT:=λa H Q=>t a H λc h=>if c=Pn then Q Pn h else u a h Q
def Oc(t:TT):TT:=λa H Q=>t a H λc h=>Q (!c) h
theorem rH(b:PT X a t):PW X (.BoolOp .And [a] p) t:=by
 intro w O s d H Q I h;refine isTrue_and<|bC (b O s d H Q I h) λc f e=>?_;cases c with
 |true=>exact isTrue_and_nil e
 |false=>exact e
theorem vR(b:PT X a t):PW X (.BoolOp .Or [a] p) t:=by
 intro w O s d H Q I h;refine isTrue_or<|bC (b O s d H Q I h) λc f e=>?_;cases c with
 |false=>exact isTrue_or_nil e
 |true=>exact e
theorem rJ(f:PT X a T)(g:PW X (.BoolOp .And (b::r) p) t):PW X (.BoolOp .And (a::b::r) p) (Ob T t):=by
 intro w O s d H Q I h;refine isTrue_and<|bC (f O s d H _ I h) λc j ⟨e,i,q⟩=>?_;cases c with
 |true=>exact g w O j d e Q i q
 |false=>assumption
theorem t5(f:PT X a T)(g:PW X (.BoolOp .Or (b::r) p) t):PW X (.BoolOp .Or (a::b::r) p) (OZ T t):=by
 intro w O s d H Q I h;refine isTrue_or<|bC (f O s d H _ I h) λc j ⟨e,i,q⟩=>?_;cases c with
 |true=>assumption
 |false=>exact g w O j d e Q i q
theorem iG(b:PT X a t):PT X (.UnaryOp .Not a p) (Oc t):=by
 intro O s d H Q I h;exact isTrue_not<|b O s d H _ I h
def L_(t T:TE):TE:=λa H Q=>t a H λx h=>∃c,x=.bl c/\if c=Pn then T a h Q else Q (.bl Pr) h
def Od(t T:TE):TE:=λa H Q=>t a H λx h=>∃c,x=.bl c/\if c=Pn then Q (.bl Pn) h else T a h Q
def Ma(t:TE):TE:=λa H Q=>t a H λx h=>∃c,x=.bl c/\Q (.bl (!c)) h
theorem rK{o}(h:PE X a t):PE X (.BoolOp o [a] p) t:=λO s b H Q I w=>BoolOp_one<|h O s b H Q I w
theorem vS(f:PE X a t)(g:PE X (.BoolOp .And (b::r) p) T):PE X (.BoolOp .And (a::b::r) p) (L_ t T):=by
 intro O s d H Q I h;refine BoolOp_and<|bC (f O s d H _ I h) λv j z=>?_;obtain⟨x,e,i,k,q⟩:=z;obtain⟨c,rfl,q⟩:=q;cases k;refine Rj ?_;cases c with
 |true=>exact g O j d e Q i q
 |false=>exact⟨.bl Pr,e,i,rfl,q⟩
theorem Ik(f:PE X a t)(g:PE X (.BoolOp .Or (b::r) p) T):PE X (.BoolOp .Or (a::b::r) p) (Od t T):=by
 intro O s d H Q I h;refine BoolOp_or<|bC (f O s d H _ I h) λv j z=>?_;obtain⟨x,e,i,k,q⟩:=z;obtain⟨c,rfl,q⟩:=q;cases k;refine Rj ?_;cases c with
 |false=>exact g O j d e Q i q
 |true=>exact⟨.bl Pn,e,i,rfl,q⟩
theorem JR(b:PE X a t):PE X (.UnaryOp .Not a p) (Ma t):=by
 intro O s d H Q I h;refine UnaryOp_<|bC (b O s d H _ I h) λv f z=>?_;obtain⟨x,e,i,r,q⟩:=z;obtain⟨c,rfl,q⟩:=q;cases r;exact not_of<|Rj ⟨.bl _,e,i,rfl,q⟩
def Pd(t:TT)(T b:TE):TE:=λa H Q=>t a H λc h=>if c=Pn then T a h Q else b a h Q
theorem nY(j:PT X c t)(k:PE X a T)(l:PE X b m):PE X (.IfExp c a b p) (Pd t T m):=by
 intro O s e H Q I h;refine wpAny_IfExp<|bC (j O s e H _ I h) λd f z=>?_;obtain⟨g,i,q⟩:=z;cases d with
 |true=>exact k O f e g Q i q
 |false=>exact l O f e g Q i q
def SqL(K:J')(H:Hp)(a:C')(xs:ab V):Prop:=
 Rd H a (.lst xs)\/
  ∃(o:Obj) (r:RW Pm) (n:Nat),K.lookup a=gV o/\o.cls=.type "list"/\o.dict=Pt/\o.data=.seq r n/\r.size<=sizeLine/\Vals xs r.toList
def SqT(K:J')(H:Hp)(a:C')(xs:ab V):Prop:=
 Rd H a (.tup xs)\/
  ∃(o:Obj) (r:RW Pm) (n:Nat),K.lookup a=gV o/\o.cls=.type "tuple"/\o.data=.seq r n/\r.size<=sizeLine/\Vals xs r.toList
noncomputable def Oe:Pm->M' V
 |.none=>gV .non
 |.bool b=>gV<|.bl b
 |.int i _=>gV<|.int i
 |.str x _=>gV<|.str x
 |.bytes b _=>gV<|.byt b
 |.float b _=>gV<|.flt b
 |.ref a=>gV<|.ref a
 |.type n=>gV<|.ty n
 |_=>Pt
theorem RelV.abs(r:RelV x u):Oe u=gV x:=by
 cases x with
 |non=>cases r;rfl
 |bl _=>cases r;rfl
 |int _=>obtain⟨t,rfl⟩:=r;rfl
 |str _=>obtain⟨t,rfl⟩:=r;rfl
 |byt _=>obtain⟨t,rfl⟩:=r;rfl
 |flt _=>obtain⟨t,rfl⟩:=r;rfl
 |ref _=>cases r;rfl
 |ty _=>cases r;rfl
theorem RelV.inj(r:RelV x u)(q:RelV y u):x=y:=PZ<|r.abs.symm.trans q.abs
theorem Vals.inj:∀{xs y:ab V} {u:ab Pm},Vals xs u->Vals y u->xs=y:=by
 intro xs y u h H;induction h generalizing y with
 |nil=>cases H;rfl
 |cons r t i=>
  cases H with
  |cons a T=>rw[r.inj a,i T]
theorem SqL.of{K:J'}(h:H a=gV (.lst xs)):SqL K H a xs:=.inl<|.inl h
theorem SqT.of{K:J'}(h:H a=gV (.tup xs)):SqT K H a xs:=.inl<|.inl h
theorem Inv.list(I:Inv X O f H s)(h:SqL X.K H a xs):∃P,Vals xs P/\PlainL s.heap a P.toArray/\xs.length<=sizeLine:=by
 obtain h|⟨o,P,n,k,c,d,b,g,r⟩:=h
 ·obtain⟨z,P,n,r,e⟩:=h.ok I.hok;exact⟨P,r,⟨_,n,e,rfl,rfl,rfl⟩,z⟩
 exists P.toList,r,⟨o,n,I.kIn a o k,c,d,by assumption⟩;have e:=r.length;simp_all
theorem Inv.tuple(I:Inv X O d H s)(h:SqT X.K H a xs):∃P,Vals xs P/\PyProof.Rows.IsTup s.heap a P.toArray/\xs.length<=sizeLine:=by
 obtain h|⟨o,P,n,k,c,b,f,r⟩:=h
 ·obtain⟨z,P,r,p⟩:=h.ok I.hok;exact⟨P,r,p,z⟩
 exists P.toList,r,⟨o,I.kIn a o k,c,n,by assumption⟩;have e:=r.length;simp_all
theorem Inv.list_inj(I:Inv X O f H s)(h:SqL X.K H a xs)(h':SqL X.K H a y):xs=y:=by
 obtain⟨P,r,⟨o,n,e,z,z,d⟩,z⟩:=I.list h;obtain⟨i,b,⟨g,N,E,z,z,D⟩,z⟩:=I.list h';rw[e]at E;cases E;rw[d]at D;injection D with c _;have:P=i:=by simpa using Qq aar c
 subst this;exact r.inj b
theorem Inv.tuple_inj(I:Inv X O f H s)(h:SqT X.K H a xs)(h':SqT X.K H a y):xs=y:=by
 obtain⟨P,r,⟨o,e,z,n,d⟩,z⟩:=I.tuple h;obtain⟨i,b,⟨g,E,z,N,D⟩,z⟩:=I.tuple h';rw[e]at E;cases E;rw[d]at D;injection D with c _;have:P=i:=by simpa using Qq aar c
 subst this;exact r.inj b
noncomputable abbrev Cx.wish(X:Cx)(E:Pm->PF->Prop):Cx:={X with xe:=E}
noncomputable abbrev Cx.nox(X:Cx):Cx:=X.wish λ_ _=>False
theorem Cx.Ok.wish{X:Cx}(o:X.Ok)(E:Pm->PF->Prop):(X.wish E).Ok:=
 ⟨o.mod,o.kind,o.glob,o.blt,o.above,o.inj,o.has,o.cab,o.hd,o.frames,o.stk,o.exf,o.bs,o.bsz,o.noex,o.exfs,o.funs,o.frf⟩
theorem Cx.Ok.unwish{X:Cx}{E:Pm->PF->Prop}(o:(X.wish E).Ok):X.Ok:=
 ⟨o.mod,o.kind,o.glob,o.blt,o.above,o.inj,o.has,o.cab,o.hd,o.frames,o.stk,o.exf,o.bs,o.bsz,o.noex,o.exfs,o.funs,o.frf⟩
theorem Inv.wish(I:Inv X O a H s)(E:Pm->PF->Prop):Inv (X.wish E) O a H s:=⟨I.ok.wish E,I.os,I.bare,I.base,I.loc,I.cell,I.free,I.freeC,I.pin,I.hok,I.len⟩
theorem Inv.unwish(I:Inv (X.wish E) O a H s):Inv X O a H s:=⟨I.ok.unwish,I.os,I.bare,I.base,I.loc,I.cell,I.free,I.freeC,I.pin,I.hok,I.len⟩
theorem SP.unwish(h:SP (X.wish E) O D f s):SP X O D f s:=by
 cases f with
 |next=>obtain⟨a,H,I,q⟩:=h;exact⟨a,H,I.unwish,q⟩
 |brk=>obtain⟨a,H,I,q⟩:=h;exact⟨a,H,I.unwish,q⟩
 |cont=>obtain⟨a,H,I,q⟩:=h;exact⟨a,H,I.unwish,q⟩
 |ret u=>obtain⟨v,a,H,I,r,q⟩:=h;exact⟨v,a,H,I.unwish,r,q⟩
theorem PSs.nox{st:ab QW}{t:TS}(h:PSs X.nox st t):PSs X st t:=λO s a H D I w=>
 RT (h O s a H D (I.wish _) w) (λy y q=>q.unwish) λy y z=>Rt z
section
variable {X:Cx}{st:QW}{t:TS}
def Il:TS:=λD a H=>D.nx a H
def nZ(t u:TS):TS:=λD a H=>t {D with nx:=u D} a H
theorem aK:PSs X [] Il:=λz z a H z I h=>Wq ⟨a,H,I,h⟩
theorem ae{r:ab QW}{u:TS}(b:PS X st t)(c:PSs X r u):PSs X (st::r) (nZ t u):=by
 intro O s d H D I h;refine aaw<|bC (b O s d H _ I h) λf e q=>?_;cases f with
 |next=>
  obtain⟨a,g,i,q⟩:=q;exact c O e a g D i q
 |ret v=>exact q
 |brk=>exact q
 |cont=>exact q
theorem au(a:PS X st t):PSs X [st] t:=by
 intro O s b H D I h;refine aaw<|bC (a O s b H D I h) λf c q=>?_;cases f with
 |next=>exact Wq q
 |ret v=>exact q
 |brk=>exact q
 |cont=>exact q
theorem FR:PS X (.Pass p) Il:=λz z a H z I h=>wpAny_Pass ⟨a,H,I,h⟩
theorem Inv.quiet(I:Inv X O a H s):interactive X.env=false:=by simp[interactive,I.ok.kind]
def Im(T:TE):TS:=λD a H=>T a H λ_ h=>D.nx a h
theorem cG(b:PE X e T)(c:WL e Pt p.line X.env=pure false:=by rfl):PS X (.Expr e p) (Im T):=by
 intro O s a H D I h;exact wpAny_Expr_any (bC (b O s a H _ I h) (by rintro v f ⟨x,d,i,r,q⟩;exact ⟨a,d,i,q⟩)) I.quiet c
def FS(T:TE):TS:=λD a H=>T a H D.rt
theorem JS(b:PE X e T):PS X (.Return (gV e) p) (FS T):=by
 intro O s a H D I h;exact wpAny_Return_some<|bC (b O s a H _ I h) (by rintro v d ⟨x,c,i,r,q⟩;exact ⟨x,a,c,i,r,q⟩)
def Mb:TS:=λD _ H=>D.rt .non H
theorem FT:PS X (.Return Pt p) Mb:=λz z a H z I h=>wpAny_Return_none ⟨.non,a,H,I,rfl,h⟩
def JT(c:TT)(t u:TS):TS:=λD a H=>c a H λb h=>if b=Pn then t D a h else u D a h
theorem bu(j:PT X c T)(k:PSs X a t)(l:PSs X b u):PS X (.If c a b p) (JT T t u):=by
 intro O s e H D I h;refine wpAny_If<|bC (j O s e H _ I h) λd f z=>?_;obtain⟨g,i,q⟩:=z;cases d with
 |true=>exact k O f e g D i q
 |false=>exact l O f e g D i q
def JU:TS:=λ_ _ _=>False
theorem eV:PS X st JU:=λz z z z z z h=>h.elim
end
abbrev TG:=V->St->Hp->(St->Hp->Prop)->Prop
abbrev Io:=ab V->St->Hp->(St->Hp->Prop)->Prop
def PG(X:Cx)(U:QS)(t:TG):Prop:=
 ∀(P:ab (C'×Obj)) (s:PF) (b:St) (H:Hp) (v:V) (u:Pm) (Q:St->Hp->Prop),Inv X P b H s->RelV v u->t v b H Q->
  wpAny (Qj X.prog X.w) X.A (tA U X.env u) (λ_ c=>∃a h,Inv X P a h c/\Q a h) X.xe s
def JV(X:Cx)(T:ab QS)(t:Io):Prop:=
 ∀(P:ab (C'×Obj)) (s:PF) (b:St) (H:Hp) (v:ab V) (u:ab Pm) (Q:St->Hp->Prop),Inv X P b H s->Vals v u->t v b H Q->
  wpAny (Qj X.prog X.w) X.A (assignInOrder ((Vh T X.env).map (·.2)) u) (λ_ c=>∃a h,Inv X P a h c/\Q a h) X.xe s
abbrev NW:=V->V->Hp->VK->Prop
def O0(X:Cx)(o:adV)(t:NW):Prop:=
 ∀(P:ab (C'×Obj)) (s:PF) (a:St) (H:Hp) (x y:V) (v u:Pm) (Q:VK),Inv X P a H s->RelV x v->RelV y u->t x y H Q->
  wpAny (Qj X.prog X.w) X.A (inplaceOp o v u) (EP X P a Q) X.xe s
section
variable {X:Cx}{pos:Pos}
def eW(i:Nat):TG:=λv a H Q=>Q (a.set i<|gV v) H
theorem rL(N:X.N.Nodup)(a:X.N[i]?=gV x)(b:JP X.env.scope x)(f:X.fn x=Pn\/X.env.scope.names.lookup x=gV .local:=by first|exact .inl rfl|exact .inr rfl|assumption):PG X (.Name x pos) (eW i):=by
 intro O s d H v u Q I r h;exact Z5<|nV I N a b r (λe c=>⟨_,H,c,h⟩) f
def Of:Io:=λv a H Q=>v=[]/\Q a H
def Mc(t:TG)(u:Io):Io:=λs b H Q=>∃v r,s=v::r/\t v b H λa h=>u r a h Q
theorem xR:JV X [] Of:=by
 intro O s a H v u Q I r h;obtain⟨e,h⟩:=h;exact assignInOrder_nil ⟨a,H,I,h⟩
theorem n9(b:PG X e t)(c:JV X E u)
  (d:(Vh (e::E) X.env).map (·.2)=tA e X.env::(Vh E X.env).map (·.2):=by rfl):JV X (e::E) (Mc t u):=by
 intro O s f H m U Q I r h;obtain⟨v,n,g,h⟩:=h;subst g;cases r with
 |cons r i=>
  rw[d];exact assignInOrder_cons<|bC (b O s f H _ _ _ I r h) (by rintro z j ⟨a,k,l,q⟩;exact c O j a k _ _ Q l i q)
def Md(K:J')(n:Nat)(t:Io):TG:=λv b H Q=>∃a x,v=.ref a/\SqT K H a x/\x.length=n/\t x b H Q
theorem BH{k:Nat}{n:Nat}(g:X.calm=Pn)(h:JV X E t)
  (i:(Vh E X.env).length=n:=by rfl) (c:(Vh E X.env).findIdx? (·.1)=none:=by rfl):PG X (.Tuple E k pos) (Md X.K n t):=by
 intro O s d H v u Q I r w;obtain⟨a,x,j,q,l,w⟩:=w;subst j;cases r;obtain⟨P,f,m,A⟩:=I.tuple q;refine assign_Tuple_tuple (I.ok.hd g) m (by simp[i,<-l,f.length]) c λp y=>?_;have z:Inv X O d H {s with heap:=p}:=I.kept λb o e=>y b o (Qa<|P0 e) e;exact h O _ d H x _ Q z (by assumption) w
def JW(t:TE)(g:TG):TS:=λD a H=>t a H λx h=>g x a h D.nx
theorem JX(b:PE X e T)(c:PG X t g)(d:swapsWithSole [t] e pos.line X.env=pure false:=by rfl)(w:swappedStores [t] e X.env=pure none:=by rfl)
  (f:(Vh [t] X.env).map (·.2)=[tA t X.env]:=by rfl):PS X (.Assign [t] e pos) (JW T g):=by
 intro O s a H D I h;refine wpAny_Assign_stores (bC (b O s a H _ I h) λv i z=>?_) d w;obtain⟨x,j,k,r,Q⟩:=z;rw[f];exact bC (c O i a j x v _ k r Q) λy l q=>q
theorem JY(N:X.N.Nodup)(a:X.N[i]?=gV x)(b:JP X.env.scope x)(c:PE X e t)(d:WL e (gV<|.Name x T) pos.line X.env=pure false:=by rfl)(f:X.fn x=Pn\/X.env.scope.names.lookup x=gV .local:=by first|exact .inl rfl|exact .inr rfl|assumption):
  PS X (.Assign [.Name x T] e pos) (JW t<|eW i):=by
 intro O s g H D I h;exact wpAny_Assign_Name (bC (c O s g H _ I h) (by rintro v m ⟨y,j,k,r,q⟩;exact nV k N a b r (λn l=>⟨_,j,l,q⟩) f)) d
def Og(i:Nat)(t:TE)(T:NW):TS:=λD a H=>∃x,a[i]?=gV (gV x)/\t a H λy h=>T x y h λz b=>D.nx (a.set i<|gV z) b
theorem JZ{T:Pos}(N:X.N.Nodup)(j:X.N[i]?=gV x)(f:JP X.env.scope x)(p:PE X e t)(q:O0 X o B)(C:X.fn x=Pn\/X.env.scope.names.lookup x=gV .local:=by first|exact .inl rfl|exact .inr rfl|assumption):
  PS X (.AugAssign (.Name x T) o e pos) (Og i t B):=by
 intro O s n H D I h;obtain⟨v,E,h⟩:=h;obtain⟨m,F,G⟩:=I.loc;have g:LX X.env.scope x:=by obtain k|k:=f;exact .inl k;exact .inr<|.inl k
 obtain⟨u,r,l⟩:=G i x v j E g;refine wpAny_AugAssign_Name ?_;have go:wpAny (Qj _ X.w) X.A (RU e _) (λw b=>wpAny (Qj _ X.w) X.A _ (λr d=>wpAny (Qj X.prog X.w) X.A (vu _ x r) (λ_=>SP X O D .next) X.xe d) _ b) _ s:=bC (p O s n H _ I h) (by rintro w J ⟨y,L,M,P,Q⟩;exact bC (q O J n L v y u w _ M r P Q) (by rintro z s2 ⟨zv,U,W,Y,Z⟩;exact nV W N j f Y (λs3 I3=>⟨_,U,I3,Z⟩) C))
 obtain⟨a,hm⟩|⟨a,c,hc,A⟩:=l
 ·exact YF I.ok.kind a F hm go
 obtain a|a:=a
 ·exact Za I.ok.kind a hc A go
 obtain k|k:=f
 ·have:X.env.scope.names.lookup x=gV _:=a;rw[k]at this;cases this
 have:X.env.scope.names.lookup x=gV _:=a;rw[k]at this;cases this
def Pe(f:Int->Int->Int):NW:=λx y H Q=>∃i j,x=.int i/\y=.int j/\Q (.int<|f i j) H
theorem J0:O0 X .Add (Pe λi j=>i+j):=by
 intro O s b H x y v u Q I r a h;obtain⟨i,j,e,E,q⟩:=h;subst e;subst E;obtain⟨t,rfl⟩:=r;obtain⟨T,rfl⟩:=a;exact iadd_int ⟨.int _,H,I.tok _,⟨_,rfl⟩,q⟩
end
def J1(c:TT)(t:TS):TS:=λD a H=>∃W:Nat->St->Hp->Prop,(∃m,W m a H)/\∀m a H,W m a H->
 c a H λb h=>if b=Pn then∃N:St->Hp->Prop,(∀d e,N d e->∃M,M<m/\W M d e)/\t {D with nx:=N,ct:=N,bk:=D.nx} a h else D.nx a h
theorem iH(p:vl (Qj X.prog X.w) X.A X.env X.xe)(x:PT X c T)(y:PSs X B z):PS X (.While c B [] P) (J1 T z):=by
 intro O s C H D I h;obtain⟨W,⟨M,E⟩,A⟩:=h;refine wpAny_While<|codeAny_whileLoop (λn F=>∃e l,Inv X O e l F/\W n e l) ?_ M ⟨C,H,I,E⟩;rintro n G ⟨d,o,J,L⟩;refine Tq p<|bC (x O G d o _ J<|A n d o L) λb U Z=>?_;obtain⟨r,t,q⟩:=Z;cases b with
 |true=>
  obtain⟨N,u,q⟩:=q;refine Tq p<|bC (y O U d r _ t q) λf Y Q=>?_;cases f with
  |next=>
   obtain⟨a,g,i,j⟩:=Q;obtain⟨m,k,w⟩:=u a g j;exact⟨m,k,a,g,i,w⟩
  |cont=>
   obtain⟨a,g,i,j⟩:=Q;obtain⟨m,k,w⟩:=u a g j;exact⟨m,k,a,g,i,w⟩
  |brk=>exact Q
  |ret v=>exact Q
 |false=>
  exact Wq ⟨d,r,t,q⟩
structure It where
 go:Nat->Hp->Prop
 yld:Nat->Hp->V->Hp->Prop
 stop:Nat->Hp->Prop
def qi(X:Cx)(P:ab (C'×Obj))(H:Hp)(b:C'):Prop:=
 H b=Pt/\b≠X.env.locals/\b∉X.fs/\(b∈X.ex\/X.s₀.heap.objs.size<=b)/\(∀x c,X.env.cells.lookup x=gV c->c≠b)/\∀p∈X.pn++P,p.1≠b
theorem Inv.fpOk{X:Cx}{O:ab (C'×Obj)}{d:St}{H a:Hp}{s:PF}{b:C'}(I:Inv X O d H s)(h:s.heap.objs.size<=b)(n:a b=Pt):qi X O a b:=by
 refine⟨n,TC<|QH I.lt h,I.nofs h,.inr<|QF I.sz h,λx c e z=>?_,λp f z=>?_⟩
 ·obtain⟨v,q⟩:=I.cell x c e;exact absurd (QH q.lt<|by rwa[z])<|Sa _
 exact absurd (QH (P0 (I.pin p f).1)<|by rwa[z])<|Sa _
structure t6 (P:PU)(w:Qc)(K:J')(tg:QS)(J:It)(fp:ab C')(it:C')(tn:Nat->QB->Prop):Prop where
 mem:it∈fp
 obj:∀i h,tn i h->∀b∈fp,∃o,h.get? b=gV o/\∀v,o.data≠.cell v
 keep:∀i h h',tn i h->(∀b∈fp,∀o,h.get? b=gV o->h'.get? b=gV o)->tn i h'
 item:∀(X:Cx),X.prog=P->X.w=w->X.K=K->X.calm=Pn->∀(i:Nat) (Pz:ab (C'×Obj)) (s:PF) (σ:St) (H:Hp) (E:Pm->PF->Prop),Inv X Pz σ H s->(∀b∈fp,qi X Pz H b)->tn i s.heap->J.go i H->
  wpAny (Qj P w) X.A (Xv<|.ref it) (λr s1=>∃u,r=gV u/\
   wpAny (Qj P w) X.A (Wr tg (.ref it) u) (λ_ s2=>∃x H',Inv X Pz σ H' s2/\RelV x u/\J.yld i H x H'/\tn (i+1) s2.heap/\∀b∈fp,H' b=Pt) E s1) E s
 done:∀(X:Cx),X.prog=P->X.w=w->X.K=K->X.calm=Pn->∀(i:Nat) (Pz:ab (C'×Obj)) (s:PF) (σ:St) (H:Hp) (E:Pm->PF->Prop),Inv X Pz σ H s->(∀b∈fp,qi X Pz H b)->tn i s.heap->J.stop i H->
  wpAny (Qj P w) X.A (Xv<|.ref it) (λr s1=>r=Pt/\Inv X Pz σ H s1) E s
 self:∀(A:Q0) (i:Nat) (s:PF) (Q:Pm->PF->Prop) (E:Pm->PF->Prop),tn i s.heap->Q (.ref it) s->wpAny (Qj P w) A (lh<|.ref it) Q E s
abbrev TI:=St->Hp->(It->Hp->Prop)->Prop
def Oh(X:Cx)(P:ab (C'×Obj))(a:St)(T:QS)(R:It->Hp->Prop)(i:Pm)(s:PF):Prop:=
 ∃(I:C') (f:ab C') (t:Nat->QB->Prop) (J:It) (H:Hp),i=.ref I/\Inv X P a H s/\t6 X.prog X.w X.K T J f I t/\t 0 s.heap/\(∀b∈f,qi X P H b)/\R J H
def PI(X:Cx)(t U:QS)(w:TI):Prop:=
 ∀(P:ab (C'×Obj)) (s:PF) (a:St) (H:Hp) (R:It->Hp->Prop),Inv X P a H s->w a H R->
  wpAny (Qj X.prog X.w) X.A (RU U X.env) (λv b=>wpAny (Qj X.prog X.w) X.A (lh v) (Oh X P a t R) X.xe b) X.xe s
theorem t7{M:mj}{A:Q0}{E:Pm->PF->Prop}{t:QS}{u:Pm}{Q:YE->PF->Prop}(a:s.heap.get? i=gV o)(c:o.cls=.type n)(d:o.data=.fields v)
  (b:["enumerate","zip","dict_itemiterator","dict_reverseitemiterator","odict_iterator","itertools.zip_longest","itertools.pairwise"].contains n=Pr) (H:Q () s):wpAny M A (Wr t (.ref i) u) Q E s:=by
 cases t<;>first
  |exact PY H
  |(cases u<;>first
    |exact PY H
    |(refine Pp<|wpAny_load a ?_
      rw[c,d];show wpAny M A (if(["enumerate","zip","dict_itemiterator","dict_reverseitemiterator","odict_iterator","itertools.zip_longest","itertools.pairwise"].contains n&&v[0]? == gV _)=Pn then _ else _) Q E s
      rw[PM<|by intro h;rw[b]at h;cases h];exact PY H))
noncomputable def FU(K:J')(a:C'):It:=
 ⟨λi H=>∃X x,SqL K H a X/\X[i]?=gV x,λi H x h=>h=H/\∀X,SqL K H a X->X[i]?=gV x,λi H=>∃X,SqL K H a X/\X.length<=i⟩
noncomputable def J2(K:J')(a:C'):It:=
 ⟨λi H=>∃X x,SqT K H a X/\X[i]?=gV x,λi H x h=>h=H/\∀X,SqT K H a X->X[i]?=gV x,λi H=>∃X,SqT K H a X/\X.length<=i⟩
noncomputable def FV(lo:Int)(n:Nat):It:=⟨λi _=>i<n,λi H x h=>h=H/\x=.int (lo+i),λi _=>n<=i⟩
theorem zR{P:PU}{w:Qc}{K:J'}{T:QS}(a t:C'):t6 P w K T (FU K a) [t] t (λi h=>h.IsListIter t a i) where
 mem:=by simp
 obj:=λi h st b f=>by
  have e:b=t:=by simpa using f
  subst e;obtain⟨o,e,c,d⟩:=st;exact⟨o,e,λv z=>by lia⟩
 keep:=λi h g st k=>st.at λo e=>k t (by simp) o e
 item:=by
  intro X l m n J i O s L H E I j st r;subst l m n;obtain⟨M,x,q,y⟩:=r;obtain⟨N,A,p,U⟩:=I.list q;obtain⟨u,W,Y⟩:=A.get y;obtain⟨F,B,Z,C,D,G⟩:=j t (by simp);refine wpAny_pyNext_list_item st p.isList (x:=u) (by simp_all) λg Q sb=>?_;have I1:Inv X O L H {s with heap:=g}:=I.turned (λb o f e=>(sb.2 b f).trans e) F B C D G;obtain⟨o,e,c,d⟩:=id Q;exact⟨u,rfl,t7 e c d (by rfl) ⟨x,H,I1,Y,⟨rfl,λys hy=>by rwa[I.list_inj hy q]⟩,Q,λb f=>(j b f).1⟩⟩
 done:=by
  intro X l m n J i O s L H E I j st r;subst l m n;obtain⟨M,q,y⟩:=r;obtain⟨N,A,p,U⟩:=I.list q;obtain⟨F,B,Z,C,D,G⟩:=j t (by simp);have hl:=A.length;exact wpAny_pyNext_list_end (I.ok.hd J) st p.isList (by simp;simp_all) λg eb=>⟨rfl,I.turned (λb o f e=>eb b o f e) F B C D G⟩
 self:=λV V V V V st h=>wpAny_pyIter_listiter st h
theorem vT{P:PU}{w:Qc}{K:J'}{T:QS}(a t:C'):t6 P w K T (J2 K a) [t] t (λi h=>h.IsTupleIter t a i) where
 mem:=by simp
 obj:=λi h st b f=>by
  have e:b=t:=by simpa using f
  subst e;obtain⟨o,e,c,d⟩:=st;exact⟨o,e,λv z=>by lia⟩
 keep:=λi h g st k=>st.at λo e=>k t (by simp) o e
 item:=by
  intro X l m n L i O s M H E I j st r;subst l m n;obtain⟨N,x,q,y⟩:=r;obtain⟨A,B,p,U⟩:=I.tuple q;obtain⟨u,W,Y⟩:=B.get y;obtain⟨F,C,Z,D,G,J⟩:=j t (by simp);refine wpAny_pyNext_tuple_item st (p) (x:=u) (by simp_all) λg Q sb=>?_;have I1:Inv X O M H {s with heap:=g}:=I.turned (λb o f e=>(sb.2 b f).trans e) F C D G J;obtain⟨o,e,c,d⟩:=id Q;exact⟨u,rfl,t7 e c d (by rfl) ⟨x,H,I1,Y,⟨rfl,λys hy=>by rwa[I.tuple_inj hy q]⟩,Q,λb f=>(j b f).1⟩⟩
 done:=by
  intro X l m n L i O s M H E I j st r;subst l m n;obtain⟨N,q,y⟩:=r;obtain⟨A,B,p,U⟩:=I.tuple q;obtain⟨F,C,Z,D,G,J⟩:=j t (by simp);have hl:=B.length;exact wpAny_pyNext_tuple_end (I.ok.hd L) st (p) (by simp;simp_all) λg eb=>⟨rfl,I.turned (λb o f e=>eb b o f e) F C D G J⟩
 self:=λV V V V V st h=>wpAny_pyIter_tupleiter st h
theorem vU{P:PU}{w:Qc}{K:J'}{A:QS}(a:C')(lo:Int)(n:Nat):t6 P w K A (FV lo n) [a] a (λi h=>YL h a (lo+(i:Nat)*1) ((n:Int)-(i:Nat)) 1) where
 mem:=by simp
 obj:=λi h st b c=>by
  have e:b=a:=by simpa using c
  subst e;exact⟨_,st,λv z=>by
   have Z:=z;cases Z⟩
 keep:=λi h d st k=>k a (by simp) _ st
 item:=by
  intro X g j l m i O s y H E I f st p;subst g j l;obtain⟨F,q,B,r,u,x⟩:=f a (by simp);have W:=T8 (prog:=X.prog) (w:=X.w) (I.ok.hd m) a lo 1 n;refine W.item i s _ _ p st λv d T C Q D=>?_;obtain⟨t,rfl⟩:=C;have G:Inv X O y H {s with heap:=d,toks:=T}:=I.turned (λb o c e=>D b o (by simpa using c) e) F q r u x;refine⟨_,rfl,t7 Q rfl rfl (by rfl) ⟨.int<|lo+i,H,G,⟨t,?_⟩,⟨rfl,rfl⟩,Q,λb c=>(f b c).1⟩⟩;rw[VN]
 done:=by
  intro X g j l m i O s y H E I f st p;obtain⟨F,q,B,r,u,x⟩:=f a (by simp);exact XX (I.ok.hd m) st (by have:n<=i:=p;lia) λd J=>⟨rfl,I.turned (λb o c e=>J b o c e) F q r u x⟩
 self:=λY Y Y Y Y st h=>XY st h
inductive Me (K:J')(x:V)(H:Hp)(R:It->Hp->Prop):Prop
 |mk (a:C')(h:x=.ref a)(e:∃xs,SqL K H a xs)(r:R (FU K a) H)
inductive Mf (K:J')(x:V)(H:Hp)(R:It->Hp->Prop):Prop
 |mk (a:C')(h:x=.ref a)(e:∃xs,SqT K H a xs)(r:R (J2 K a) H)
def Mh(K:J')(t:TE):TI:=λa H R=>t a H λx h=>Me K x h R
def Oi(K:J')(t:TE):TI:=λa H R=>t a H λx h=>Mf K x h R
theorem aO(d:PE X l t):PI X T l (Mh X.K t):=by
 intro O s f H R I h;refine bC (d O s f H _ I h) λv c y=>?_;obtain⟨x,g,i,r,Q⟩:=y;obtain⟨a,e,⟨m,j⟩,q⟩:=Q;subst e;cases r;obtain⟨P,n,p,z⟩:=i.list j;refine Uu p.isList<|⟨c.heap.objs.size,[c.heap.objs.size],_,_,g,rfl,i.kept λb o e=>PH _ e,zR a _,⟨_,Qh _ rfl,rfl,rfl⟩,λb k=>?_,q⟩;have e:b=c.heap.objs.size:=by simpa using k
 subst e;exact i.fpOk (Po _)<|i.hok.fresh<|Po _
theorem bT(d:PE X l t):PI X T l (Oi X.K t):=by
 intro O s f H R I h;refine bC (d O s f H _ I h) λv c y=>?_;obtain⟨x,g,i,r,Q⟩:=y;obtain⟨a,e,⟨m,j⟩,q⟩:=Q;subst e;cases r;obtain⟨P,n,p,z⟩:=i.tuple j;refine wpAny_pyIter_tuple ‹_›<|⟨c.heap.objs.size,[c.heap.objs.size],_,_,g,rfl,i.kept λb o e=>PH _ e,vT a _,⟨_,Qh _ rfl,rfl,rfl⟩,λb k=>?_,q⟩;have e:b=c.heap.objs.size:=by simpa using k
 subst e;exact i.fpOk (Po _)<|i.hok.fresh<|Po _
theorem t9{O:ab (C'×Obj)}{a:St}{H:Hp}{s:PF}{R:It->Hp->Prop}{E:Pm->PF->Prop}{lo h:Int}{t u v:Tok}{T:Nat}(I:Inv X O a H s)(c:-(2^62)<=lo)(d:lo<2^62)(f:-(2^62)<=h)(g:h<2^62)
  (q:R (FV lo (h-lo).toNat) H):wpAny (Qj X.prog X.w) X.A (lh<|.ref s.heap.objs.size) (Oh X O a m R) E {s with heap:=s.heap.push {cls:=.type "range",data:=.fields #[.int lo t,.int h u,.int 1 v]},toks:=T}:=by
 refine Zs (I0 ..) (small_one c d f g) ?_;have i:Inv X O a H {s with heap:=s.heap.push {cls:=.type "range",data:=.fields #[.int lo t,.int h u,.int 1 v]},toks:=T}:=I.kept λb o e=>PH _ e;refine⟨(s.heap.push _).objs.size,[(s.heap.push _).objs.size],_,_,H,rfl,
  i.kept λb o e=>PH _ e,vU _ lo _,?_,λb j=>?_,q⟩
 ·have k:lo+((0:Nat))*1=lo:=by simp
  have l:(((h-lo).toNat))-((0:Nat))=XN lo h 1:=by rw[rangeSize_one];grind
  show YL _ _ _ ((((h-lo).toNat))-((0:Nat))) 1
  rw[k,l];exact Qh _ rfl
 have e:b=(s.heap.push {cls:=.type "range",data:=.fields #[.int lo t,.int h u,.int 1 v]}).objs.size:=by simpa using j
 subst e;exact i.fpOk (Po _)<|i.hok.fresh<|Po _
def Mi(t:TA):TI:=λa H R=>t a H λv h=>∃j:Int,v=[.int j]/\ -(2^62)<=j/\j<2^62/\R (FV 0 j.toNat) h
def Mj(t:TA):TI:=λa H R=>t a H λv h=>∃i j:Int,v=[.int i,.int j]/\(-(2^62)<=i/\i<2^62/\ -(2^62)<=j/\j<2^62)/\R (FV i (j-i).toNat) h
theorem lL(g:Gl X "range")(m:X.mg "range"=Pt)(b:PA X [a] T)(c:Qk [a] X.env=[(Pr,RU a X.env)]:=by rfl):PI X n (.Call (.Name "range" p) [a] [] P) (Mi T):=by
 intro O s d H R I h;refine Call_<|dD I g m ZH<|Rh (bC (b P O s d H _ I h) λu o z=>?_) c rfl;obtain⟨v,w,i,f,Q⟩:=z;obtain⟨j,e,Q,k,q⟩:=Q;subst e;cases f with
 |cons r l=>
  cases l;obtain⟨t,rfl⟩:=r;exact call_range_1 (t9 i (by simp) (by simp) Q k<|by simp_all)
theorem qv{X:Cx}{T:QS}{p P:Pos}(g:Gl X "range")(m:X.mg "range"=Pt)(d:PA X [a,b] f)(k:Qk [a,b] X.env=[(Pr,RU a X.env),(Pr,RU b X.env)]:=by rfl)(Z:Qk [b] X.env=[(Pr,RU b X.env)]:=by rfl):
  PI X T (.Call (.Name "range" p) [a,b] [] P) (Mj f):=by
 intro O s l H R I h;refine Call_ (dD I g m ZH<|Rh (bC (d P O s l H _ I h) λU y Y=>?_) (by rw[k,Z])<|by rw[Z];rfl);obtain⟨z,A,n,o,Q⟩:=Y;obtain⟨i,j,e,⟨Q,u,v,w⟩,q⟩:=Q;subst e;cases o with
 |cons r c=>
  cases c with
  |cons x c=>
   cases c;obtain⟨t,rfl⟩:=r;obtain⟨B,rfl⟩:=x;exact call_range_2<|t9 n Q u v w q
def Ml(w:TI)(g:TG)(t:TS):TS:=λD a H=>w a H λJ d=>∃W:Nat->Nat->St->Hp->Prop,(∃m,W 0 m a d)/\∀i m a H,W i m a H->
 (J.stop i H/\D.nx a H)\/(J.go i H/\∃N:St->Hp->Prop,(∀b h,N b h->∃M,M<m/\W (i+1) M b h)/\∀x h,J.yld i H x h->g x a h λc e=>t {D with nx:=N,ct:=N,bk:=D.nx} c e)
noncomputable def n_(f:ab C')(h:QB):ab (C'×Obj):=f.filterMap λb=>(h.get? b).map λo=>(b,o)
theorem hO(H:b∈f)(e:h.get? b=gV o):(b,o)∈n_ f h:=W2.mpr ⟨b,H,by rw[e];rfl⟩
theorem zT(H:p∈n_ f h):p.1∈f/\h.get? p.1=gV p.2:=by
 obtain⟨b,a,e⟩:=W2.mp H;cases q:h.get? b with
 |none=>rw[q]at e;cases e
 |some o=>
  rw[q]at e;have E:=PZ e;subst E;exact⟨a,q⟩
theorem Inv.pinned(I:Inv X O a H s)(c:∀b∈f,qi X O H b)(g:∀b∈f,∃o,s.heap.get? b=gV o/\∀v,o.data≠.cell v):Inv X (O++n_ f s.heap) a H s:=
 I.pins_of λp i=>(P5.mp i).elim (λz=>I.pin p<|Qw _ z) λz=>by
  obtain⟨h,e⟩:=zT z;obtain⟨F,j,k,y⟩:=c p.1 h;obtain⟨o,E,d⟩:=g p.1 h;rw[e]at E;cases E;exact⟨e,F,j,k,d⟩
theorem Inv.unpinned(I:Inv X (O++P) a H s):Inv X O a H s:=I.pins_of λp h=>I.pin p<|Qw _<|Ry _ h
theorem fI{P:Pos}(y:vl (Qj X.prog X.w) X.A X.env X.xe)(hc:X.calm=Pn)(hi:PI X tg t wi)(hg:PG X tg g)(c:PSs X B tb)
  (hs:∀x,Tv t X.env x=pure x:=by intro _;rfl):PS X (.For tg t B [] P) (Ml wi g tb):=by
 intro O s σ H D I h;refine wpAny_For (bC (hi O s σ H _ I h) λv s1 h1=>bC h1 λac s2 h2=>?_) hs;obtain⟨it,F,tn,J,H2,e,I2,T,Sj,f2,W,⟨m0,w0⟩,L⟩:=h2;subst e;have A:∀{q:Hp},(∀b∈F,q b=Pt)->∀b∈F,qi X O q b:=λhn b c=>⟨hn b c,(f2 b c).2⟩;refine codeAny_forLoop_any (λn s'=>∃i j q,Inv X O j q s'/\tn i s'.heap/\(∀b∈F,q b=Pt)/\W i n j q) ?_ m0 ⟨0,σ,H2,I2,Sj,λb c=>(f2 b c).1,w0⟩;rintro n s3 ⟨i,k,G,I3,Z9,z,w3⟩;obtain⟨C,qn⟩|⟨go,N,hN,step⟩:=L i n k G w3
 ·refine Tq y<|bC (T.done X rfl rfl rfl hc i O s3 k G _ I3 (A z) Z9 C) λr s4 V=>?_;obtain⟨M,I4⟩:=V;subst M;exact Wq ⟨k,G,I4,qn⟩
 refine Tq y<|bC (T.item X rfl rfl rfl hc i O s3 k G _ I3 (A z) Z9 go) λr s4 S=>?_;obtain⟨u,M,h4⟩:=S;subst M;refine Tq y<|bC h4 λ_ s5 R=>?_;obtain⟨x,H5,I5,r5,y5,w,U⟩:=R;have Y:=I5.pinned (A U)<|T.obj _ _ w;refine Tq y<|bC (hg _ s5 k H5 x u _ Y r5<|step x H5 y5) λ_ s6 K=>?_;obtain⟨Z,H6,I6,q6⟩:=K;refine Tq y<|bC (c _ s6 Z H6 _ I6 q6) λf s7 Q=>?_;have again:∀{a:St} {l:Hp},Inv X _ a l s7->N a l->∃m,m<n/\∃i j q,Inv X O j q s7/\tn i _/\(∀b∈F,q b=Pt)/\W i m j q:=λ{a l} p E=>by
  obtain⟨m',hm,w7⟩:=hN a l E;refine⟨m',hm,i+1,a,l,p.unpinned,T.keep _ _ _ w λb c o e=>(p.pin _<|Qw _<|Qw _<|hO c e).1,λb c=>?_,w7⟩;obtain⟨o,e,d⟩:=T.obj _ _ w b c;exact(p.pin _<|Qw _<|Qw _<|hO c e).2.1
 cases f with
 |next=>obtain⟨a,l,p,E⟩:=Q;exact again p E
 |cont=>obtain⟨a,l,p,E⟩:=Q;exact again p E
 |brk=>obtain⟨a,l,p,Q⟩:=Q;exact⟨a,l,p.unpinned,Q⟩
 |ret v=>obtain⟨x7,a,l,p,r7,Q⟩:=Q;exact⟨x7,a,l,p.unpinned,r7,Q⟩
theorem cx{K:J'}{a:C'}{xs:ab V}{g:TG}{t:TS}{D:hH}{b:St}{H:Hp}(Pv:Nat->St->Hp->Prop)(j:Pv 0 b H)(l:∀i b H,i<=xs.length->Pv i b H->SqL K H a xs)
  (s:∀i x b H,xs[i]?=gV x->Pv i b H->g x b H λc f=>t {D with nx:=Pv<|i+1,ct:=Pv<|i+1,bk:=D.nx} c f) (k:∀b H,Pv xs.length b H->D.nx b H):
  ∃W:Nat->Nat->St->Hp->Prop,(∃m,W 0 m b H)/\∀i m b H,W i m b H->
   ((FU K a).stop i H/\D.nx b H)\/((FU K a).go i H/\∃N:St->Hp->Prop,(∀d h,N d h->∃M,M<m/\W (i+1) M d h)/\∀x h,(FU K a).yld i H x h->g x b h λc f=>t {D with nx:=N,ct:=N,bk:=D.nx} c f):=by
 exists λi m b H=>m=xs.length-i/\i<=xs.length/\Pv i b H,⟨xs.length,by simp,P8 _,j⟩;rintro i m b H ⟨rfl,n,p⟩;have q:=l i b H n p;by_cases r:i<xs.length
 ·refine .inr ⟨⟨xs,xs[i],q,by simp⟩,Pv<|i+1,λd h P=>⟨xs.length-(i+1),Nat.sub_lt_sub_left r (Tf _),rfl,r,P⟩,λx h y=>?_⟩;obtain⟨e,y⟩:=y;subst e;exact s i x b _ (y xs q) p
 have e:i=xs.length:=Nat.le_antisymm n (i0 r)
 subst e;exact .inl ⟨⟨xs,q,Po _⟩,k b H p⟩
theorem eK{K:J'}{a:C'}{xs:ab V}{g:TG}{t:TS}{D:hH}{b:St}{H:Hp}(Pv:Nat->St->Hp->Prop)(j:Pv 0 b H)(l:∀i b H,i<=xs.length->Pv i b H->SqT K H a xs)
  (s:∀i x b H,xs[i]?=gV x->Pv i b H->g x b H λc f=>t {D with nx:=Pv<|i+1,ct:=Pv<|i+1,bk:=D.nx} c f) (k:∀b H,Pv xs.length b H->D.nx b H):
  ∃W:Nat->Nat->St->Hp->Prop,(∃m,W 0 m b H)/\∀i m b H,W i m b H->
   ((J2 K a).stop i H/\D.nx b H)\/((J2 K a).go i H/\∃N:St->Hp->Prop,(∀d h,N d h->∃M,M<m/\W (i+1) M d h)/\∀x h,(J2 K a).yld i H x h->g x b h λc f=>t {D with nx:=N,ct:=N,bk:=D.nx} c f):=by
 exists λi m b H=>m=xs.length-i/\i<=xs.length/\Pv i b H,⟨xs.length,by simp,P8 _,j⟩;rintro i m b H ⟨rfl,n,p⟩;have q:=l i b H n p;by_cases r:i<xs.length
 ·refine .inr ⟨⟨xs,xs[i],q,by simp⟩,Pv<|i+1,λd h P=>⟨xs.length-(i+1),Nat.sub_lt_sub_left r (Tf _),rfl,r,P⟩,λx h y=>?_⟩;obtain⟨e,y⟩:=y;subst e;exact s i x b _ (y xs q) p
 have e:i=xs.length:=Nat.le_antisymm n (i0 r)
 subst e;exact .inl ⟨⟨xs,q,Po _⟩,k b H p⟩
theorem jg{lo:Int}{n:Nat}{g:TG}{t:TS}{D:hH}(Pv:Nat->St->Hp->Prop)(f:Pv 0 a H)
  (s:∀i a H,i<n->Pv i a H->g (.int<|lo+i) a H λb d=>t {D with nx:=Pv<|i+1,ct:=Pv<|i+1,bk:=D.nx} b d) (j:∀a H,Pv n a H->D.nx a H):
  ∃W:Nat->Nat->St->Hp->Prop,(∃m,W 0 m a H)/\∀i m a H,W i m a H->
   ((FV lo n).stop i H/\D.nx a H)\/((FV lo n).go i H/\∃N:St->Hp->Prop,(∀c h,N c h->∃M,M<m/\W (i+1) M c h)/\∀x h,(FV lo n).yld i H x h->g x a h λb d=>t {D with nx:=N,ct:=N,bk:=D.nx} b d):=by
 exists λi m a H=>m=n-i/\i<=n/\Pv i a H,⟨n,by simp,P8 _,f⟩;rintro i m a H ⟨rfl,k,p⟩;by_cases r:i<n
 ·refine .inr ⟨r,Pv<|i+1,λc h P=>⟨n-(i+1),Nat.sub_lt_sub_left r (Tf _),rfl,r,P⟩,λx h y=>?_⟩;obtain⟨e,y⟩:=y;subst e y;exact s i a _ r p
 have e:i=n:=Nat.le_antisymm k (i0 r)
 subst e;exact .inl ⟨Po _,j a H p⟩
abbrev R2:=V->V->Hp->VK->Prop
def OpR(X:Cx)(f:Pm->Pm->Sem Pm)(r:R2):Prop:=
 ∀(P:ab (C'×Obj)) (s:PF) (a:St) (H:Hp) (x y:V) (v u:Pm) (Q:VK),Inv X P a H s->RelV x v->RelV y u->r x y H Q->
  wpAny (Qj X.prog X.w) X.A (f v u) (EP X P a Q) X.xe s
def Oj(X:Cx)(f:Pm->Sem Pm)(r:V->Hp->VK->Prop):Prop:=
 ∀(P:ab (C'×Obj)) (s:PF) (a:St) (H:Hp) (x:V) (v:Pm) (Q:VK),Inv X P a H s->RelV x v->r x H Q->
  wpAny (Qj X.prog X.w) X.A (f v) (EP X P a Q) X.xe s
def eZ(X:Cx)(f:Pm)(r:ab V->Hp->VK->Prop):Prop:=
 ∀(P:ab (C'×Obj)) (s:PF) (a:St) (H:Hp) (x:ab V) (u:ab Pm) (Q:VK),Inv X P a H s->Vals x u->r x H Q->
  wpAny (Qj X.prog X.w) X.A (call f u) (EP X P a Q) X.xe s
def Ol(X:Cx)(r:V->Hp->(Px->Hp->Prop)->Prop):Prop:=
 ∀(P:ab (C'×Obj)) (s:PF) (a:St) (H:Hp) (x:V) (v:Pm) (Q:Px->Hp->Prop),Inv X P a H s->RelV x v->r x H Q->
  wpAny (Qj X.prog X.w) X.A (truthy v) (TP X P a Q) X.xe s
def FW(r:R2)(t T:TE):TE:=λa H Q=>t a H λx h=>T a h λy b=>r x y b Q
def Pf(r:V->Hp->VK->Prop)(t:TE):TE:=λa H Q=>t a H λx h=>r x h Q
inductive O1 (C:Int->Int->Prop)(g:Int->Int->V)(x y:V)(H:Hp)(Q:VK):Prop
 |mk (i j:Int)(hx:x=.int i)(h:y=.int j)(c:C i j)(q:Q (g i j) H)
inductive O2 (g:Int->Int->V)(x y:V)(H:Hp)(Q:VK):Prop
 |mk (i j:Int)(hx:x=.int i)(h:y=.int j)(q:Q (g i j) H)
inductive O3 (g:Int->V)(x:V)(H:Hp)(Q:VK):Prop
 |mk (i:Int)(hx:x=.int i)(q:Q (g i) H)
def rI(C:Int->Int->Prop)(g:Int->Int->V):R2:=λx y H Q=>O1 C g x y H Q
def FX(g:Int->Int->V):R2:=λx y H Q=>O2 g x y H Q
def rU(g:Int->V):V->Hp->VK->Prop:=λx H Q=>O3 g x H Q
theorem J3(k:PE X a t)(l:PE X b T){R:V->V->Hp->Prop}(I:Inv X O d H s)
  (h:t d H λx j=>T d j λy c=>R x y c) {Q:Pm->PF->Prop} {f:Pm->Pm->Sem Pm}
  (m:∀v u i x y c,Inv X O d c i->RelV x v->RelV y u->R x y c->wpAny (Qj X.prog X.w) X.A (f v u) Q X.xe i):
  wpAny (Qj X.prog X.w) X.A (RU a X.env) (λv e=>wpAny (Qj X.prog X.w) X.A (RU b X.env) (λu g=>wpAny (Qj X.prog X.w) X.A (f v u) Q X.xe g) X.xe e) X.xe s:=bC (k O s d H _ I h) (by rintro v n ⟨x,j,o,r,q⟩;exact bC (l O n d j _ o q) (by rintro u i ⟨y,c,p,w,z⟩;exact m v u i x y c p r w z))
theorem cN(o:OpR X (U2 O) r)(c:PE X a t)(d:PE X b T):PE X (.BinOp a O b p) (FW r t T):=by
 intro g s e H Q I h;exact wpAny_BinOp<|J3 c d I h λv u f x y i j k l q=>o g f e i x y v u Q j k l q
theorem Mm(o:Oj X (unaryOp p) r)(c:PE X a t):PE X (.UnaryOp p a P) (Pf r t):=by
 intro O s b H Q I h;exact UnaryOp_<|bC (c O s b H _ I h) (by rintro v d ⟨x,e,i,f,q⟩;exact o O d b e x v Q i f q)
theorem Mn{f:Pm->Pm->Sem Pm}{C:Int->Int->Prop}{g:Int->Int->Int}
  (rule:∀i j t u s Q E,C i j->Q (.int (g i j) s.toks) {s with toks:=s.toks+1}->wpAny (Qj X.prog X.w) X.A (f (.int i t)<|.int j u) Q E s):
  OpR X f (rI C λi j=>.int<|g i j):=by
 intro O s b H x y v u Q I r a h;obtain⟨i,j,rfl,rfl,c,q⟩:=h;obtain⟨t,rfl⟩:=r;obtain⟨T,rfl⟩:=a;exact rule i j t T s _ _ c ⟨.int<|g i j,H,I.tok _,⟨_,rfl⟩,q⟩
theorem J4{f:Pm->Pm->Sem Pm}{g:Int->Int->Int}
  (rule:∀i j t u s Q E,Q (.int (g i j) s.toks) {s with toks:=s.toks+1}->wpAny (Qj X.prog X.w) X.A (f (.int i t)<|.int j u) Q E s):
  OpR X f (FX λi j=>.int<|g i j):=by
 intro O s b H x y v u Q I r a h;obtain⟨i,j,rfl,rfl,q⟩:=h;obtain⟨t,rfl⟩:=r;obtain⟨T,rfl⟩:=a;exact rule i j t T s _ _ ⟨.int<|g i j,H,I.tok _,⟨_,rfl⟩,q⟩
theorem FY{f:Pm->Pm->Sem Pm}{g:Int->Int->Px}
  (rule:∀i j t u s Q E,Q (.bool<|g i j) s->wpAny (Qj X.prog X.w) X.A (f (.int i t)<|.int j u) Q E s):
  OpR X f (FX λi j=>.bl<|g i j):=by
 intro O s b H x y v u Q I r a h;obtain⟨i,j,rfl,rfl,q⟩:=h;obtain⟨t,rfl⟩:=r;obtain⟨T,rfl⟩:=a;exact rule i j t T s _ _ ⟨.bl<|g i j,H,I,rfl,q⟩
def Om(i j:Int):Prop:=0<j/\j<1073741824
def On(i j:Int):Prop:=0<=j/\j<=1000000/\i.natAbs<2^64
def CMul(i j:Int):Prop:=(-(2^64)<i/\i<2^64)\/(-(2^64)<j/\j<2^64)
theorem CMul.ok(h:CMul i j):IntMulOk i j:=by
 obtain⟨H,a⟩|⟨H,a⟩:=h
 ·exact .of_left<|Wp H a
 exact .of_right<|Wp H a
theorem vV(k:Nat):(0:Int)<=2^k:=Int.natCast_nonneg _
theorem BI:OpR X (U2 .Add) (FX λi j=>.int<|i+j):=J4 λz z z z z z z q=>add_int q
theorem BJ:OpR X (U2 .Sub) (FX λi j=>.int<|i-j):=J4 λz z z z z z z q=>sub_int q
theorem BK:OpR X (U2 .Mult) (rI CMul λi j=>.int<|i*j):=Mn λz z z z z z z h q=>mul_int q h.ok
theorem FZ:OpR X (U2 .FloorDiv) (rI Om λi j=>.int<|i/j):=Mn λi j z z z z z h q=>by
 have H:=h.1;have a:=h.2;exact floordiv_int (by lia) (by rwa[W6 i<|by exact jl H]) (.inl<|X4<|by omega)
theorem J5:OpR X (U2 .Mod) (rI (λz j=>0<j) λi j=>.int<|i%j):=Mn λi j z z z z z h q=>by
 have H:=h;exact mod_int' (by lia) (by rwa[Int.fmod_eq_emod_of_nonneg i<|by exact jl H])
theorem J6:OpR X (U2 .LShift) (rI On λi j=>.int<|i*2^j.toNat):=Mn λz z z z z z z h q=>lshift_int_small h.1 h.2.1 h.2.2 q
theorem BL:OpR X (U2 .RShift) (rI (λz j=>0<=j) λi j=>.int<|i/2^j.toNat):=Mn λi j z z z z z h q=>
 rshift_int h (by rwa[W6 i<|vV _])
theorem BN:OpR X (U2 .BitAnd) (FX λi j=>.int<|SU i j):=J4 λz z z z z z z q=>and_int q
theorem Pg{f:Pm->Sem Pm}{g:Int->Int}
  (rule:∀i t s Q E,Q (.int (g i) s.toks) {s with toks:=s.toks+1}->wpAny (Qj X.prog X.w) X.A (f<|.int i t) Q E s):
  Oj X f (rU λi=>.int<|g i):=by
 intro O s a H x v Q I r h;obtain⟨i,rfl,q⟩:=h;obtain⟨t,rfl⟩:=r;exact rule i t s _ _ ⟨.int<|g i,H,I.tok _,⟨_,rfl⟩,q⟩
theorem J7:Oj X (unaryOp .USub) (rU λi=>.int (-i)):=Pg λz z z z z q=>neg_int q
noncomputable def Mo:V->V->Px
 |.non,.non=>Pn|.non,.int _=>Pn|.int _,.non=>Pn|.non,.bl _=>Pn|.bl _,.non=>Pn|.non,.str _=>Pn|.str _,.non=>Pn
 |.int _,.int _=>Pn|.bl _,.bl _=>Pn|.str _,.str _=>Pn|.byt _,.byt _=>Pn
 |.int _,.str _=>Pn|.str _,.int _=>Pn|.bl _,.str _=>Pn|.str _,.bl _=>Pn
 |_,_=>Pr
def O4:R2:=λx y H Q=>Mo x y=Pn/\Q (.bl (decide (x=y))) H
def O5:R2:=λx y H Q=>Mo x y=Pn/\Q (.bl (!decide (x=y))) H
theorem xS:decide (V.int i=V.int j)=(i == j):=by
 rw[RE];simp
theorem lM:decide (V.bl i=V.bl j)=(i == j):=by
 rw[RE];simp
theorem xT:decide (V.str i=V.str j)=(i == j):=by
 rw[RE];simp
theorem xU:decide (V.byt i=V.byt j)=(i.toList == j.toList):=by
 rw[RE];simp
theorem aX(I:Inv X O a H s)(q:Q (.bl k) H)(e:k=b):EP X O a Q (.bool b) s:=by
 subst e;exact⟨.bl k,H,I,rfl,q⟩
theorem Mp:OpR X (Rf .Eq) O4:=by
 intro O s c H x y v u Q I b r h;obtain⟨a,q⟩:=h;cases x with
 |non=>
  cases b;cases y with
  |non=>cases r;exact ab3 (aX I q<|by simp)
  |bl j=>cases r;exact ab4 (aX I q<|by simp)
  |int j=>obtain⟨T,rfl⟩:=r;exact acx (aX I q<|by simp)
  |str j=>obtain⟨T,rfl⟩:=r;exact acw (aX I q<|by simp)
  |_=>exact absurd ‹_› Pk
 |bl i=>
  cases b;cases y with
  |non=>cases r;exact ab5 (aX I q<|by simp)
  |bl j=>cases r;exact eq_bool<|aX I q lM
  |str j=>obtain⟨T,rfl⟩:=r;exact ab9 (aX I q<|by simp)
  |_=>exact absurd ‹_› Pk
 |int i=>
  obtain⟨t,rfl⟩:=b;cases y with
  |non=>cases r;exact acy (aX I q<|by simp)
  |int j=>obtain⟨T,rfl⟩:=r;exact eq_int<|aX I q xS
  |str j=>obtain⟨T,rfl⟩:=r;exact acC (aX I q<|by simp)
  |_=>exact absurd ‹_› Pk
 |str i=>
  obtain⟨t,rfl⟩:=b;cases y with
  |non=>cases r;exact acv (aX I q<|by simp)
  |bl j=>cases r;exact ab8 (aX I q<|by simp)
  |int j=>obtain⟨T,rfl⟩:=r;exact acB (aX I q<|by simp)
  |str j=>obtain⟨T,rfl⟩:=r;exact eq_str<|aX I q xT
  |_=>exact absurd ‹_› Pk
 |byt i=>
  obtain⟨t,rfl⟩:=b;cases y with
  |byt j=>obtain⟨T,rfl⟩:=r;exact PySem.W.eq_bytes<|aX I q xU
  |_=>exact absurd ‹_› Pk
 |_=>cases y<;>exact absurd ‹_› Pk
theorem Mq:OpR X (Rf .NotEq) O5:=by
 intro O s c H x y v u Q I b r h;obtain⟨a,q⟩:=h;cases x with
 |non=>
  cases b;cases y with
  |non=>cases r;exact ab0 (aX I q<|by simp)
  |bl j=>cases r;exact ab1 (aX I q<|by simp)
  |int j=>obtain⟨T,rfl⟩:=r;exact acs (aX I q<|by simp)
  |str j=>obtain⟨T,rfl⟩:=r;exact acr (aX I q<|by simp)
  |_=>exact absurd ‹_› Pk
 |bl i=>
  cases b;cases y with
  |non=>cases r;exact ab2 (aX I q<|by simp)
  |bl j=>cases r;exact ne_bool<|aX I q<|Qq not lM
  |str j=>obtain⟨T,rfl⟩:=r;exact ab7 (aX I q<|by simp)
  |_=>exact absurd ‹_› Pk
 |int i=>
  obtain⟨t,rfl⟩:=b;cases y with
  |non=>cases r;exact acu (aX I q<|by simp)
  |int j=>obtain⟨T,rfl⟩:=r;exact ne_int<|aX I q<|Qq not xS
  |str j=>obtain⟨T,rfl⟩:=r;exact acA (aX I q<|by simp)
  |_=>exact absurd ‹_› Pk
 |str i=>
  obtain⟨t,rfl⟩:=b;cases y with
  |non=>cases r;exact acq (aX I q<|by simp)
  |bl j=>cases r;exact ab6 (aX I q<|by simp)
  |int j=>obtain⟨T,rfl⟩:=r;exact acz (aX I q<|by simp)
  |str j=>obtain⟨T,rfl⟩:=r;exact ne_str<|aX I q<|Qq not xT
  |_=>exact absurd ‹_› Pk
 |byt i=>
  obtain⟨t,rfl⟩:=b;cases y with
  |byt j=>obtain⟨T,rfl⟩:=r;exact PySem.W.ne_bytes<|aX I q<|Qq not xU
  |_=>exact absurd ‹_› Pk
 |_=>cases y<;>exact absurd ‹_› Pk
theorem qw:OpR X (Rf .Lt) (FX λi j=>.bl (decide (i<j))):=FY λz z z z z z z q=>lt_int q
theorem oe:OpR X (Rf .LtE) (FX λi j=>.bl (decide (i<=j))):=FY λz z z z z z z q=>le_int q
theorem BO:OpR X (Rf .Gt) (FX λi j=>.bl (decide (j<i))):=FY λz z z z z z z q=>gt_int q
theorem Iq:OpR X (Rf .GtE) (FX λi j=>.bl (decide (j<=i))):=FY λz z z z z z z q=>ge_int q
theorem BP:OpR X (Rf .Is) (λx y H Q=>y=.non/\Q (.bl (decide (x=.non))) H):=by
 intro O s b H x y v u Q I r a h;obtain⟨rfl,q⟩:=h;cases a;refine is_none_gen<|aX I q ?_;cases x<;>first
  |(rfl)
  |(obtain⟨t,rfl⟩:=r;rfl)
theorem xV:OpR X (Rf .IsNot) (λx y H Q=>y=.non/\Q (.bl (!decide (x=.non))) H):=by
 intro O s b H x y v u Q I r a h;obtain⟨rfl,q⟩:=h;cases a;refine isnot_none_gen<|aX I q ?_;cases x<;>first
  |(rfl)
  |(obtain⟨t,rfl⟩:=r;rfl)
theorem OpR.or(h:OpR X f r)(h':OpR X f d):OpR X f (λx y H Q=>r x y H Q\/d x y H Q):=by
 intro O s a H x y v u Q I b c q;obtain q|q:=q
 ·exact h O s a H x y v u Q I b c q
 exact h' O s a H x y v u Q I b c q
theorem BQ(b:QS)(h:o≠.In:=by decide)(H:o≠.NotIn:=by decide):Uo o b=false:=by
 have e:(o == CmpOp.In)=false:=by simp_all
 have E:(o == CmpOp.NotIn)=false:=by simp_all
 cases b<;>simp[Uo,e,E]
theorem jh(c:OpR X (Rf o) r)(d:PE X a t)(e:PE X b T)(m:Uo o b=Pr):PE X (.Compare a [o] [b] p) (FW r t T):=by
 intro O s f H Q I h;exact wpAny_Compare1 (J3 d e I h λv u g x y i j k l q=>c O g f i x y v u Q j k l q) m
def BR(t:TE):TT:=λa H Q=>t a H λx h=>JQ x Q h
theorem gi(f:OpR X (Rf o) r)(g:PE X a t)(i:PE X b T)(m:Uo o b=Pr):PT X (.Compare a [o] [b] p) (BR<|FW r t T):=by
 intro O s d H Q I h;refine Ys (bC (g O s d H _ I h) λv j Z=>?_) m;obtain⟨x,l,n,q,w⟩:=Z;refine bC (i O j d l _ n w) λu A Y=>?_;obtain⟨y,B,C,D,E⟩:=Y;refine bC (f O A d B x y v u _ C q D E) λc M W=>?_;obtain⟨z,F,G,J,k,e,L⟩:=W
 subst e;cases J;exact Rj ⟨F,G,L⟩
def BS(r b:R2)(t T c:TE):TE:=λa H Q=>t a H λx d=>T a d λy e=>r x y e λz h=>∃k,z=.bl k/\
 (if k=Pn then c a h λw f=>b y w f Q else Q (.bl Pr) h)
theorem t_(m:OpR X (Rf p) r)(g:OpR X (Rf o) n)(t:PE X a T)(w:PE X b A)(B:PE X c C)
  (D:lastMarks [p,o] [b,c]=false:=by with_unfolding_all rfl):PE X (.Compare a [p,o] [b,c] P) (BS r n T A C):=by
 intro O s f H Q I h;refine Compare_chain (bC (t O s f H _ I h) λv E V=>?_) D;obtain⟨x,F,G,J,L⟩:=V;refine chain_link (bC (w O E f F _ G L) λu M S=>?_);obtain⟨y,N,U,i,W⟩:=S;refine bC (m O M f N x y v u _ U J i W) λd Y R=>?_;obtain⟨z,j,l,Z,k,e,q⟩:=R
 subst e;cases Z;refine Rj ?_;cases k with
 |false=>exact ite_ff ⟨.bl Pr,j,l,rfl,q⟩
 |true=>exact ite_tt<|chain_last<|bC (B O Y f j _ l q) (by rintro w' s4 ⟨z',H4,I4,r4,q4⟩;exact g O s4 f H4 y z' u w' Q I4 i r4 q4)
theorem ua(m:OpR X (Rf p) r)(g:OpR X (Rf o) n)(t:PE X a T)(w:PE X b A)(B:PE X c C)
  (D:lastMarks [p,o] [b,c]=false:=by with_unfolding_all rfl):PT X (.Compare a [p,o] [b,c] P) (BR<|BS r n T A C):=by
 intro O s f H Q I h;refine isTrue_chain (bC (t O s f H _ I h) λv E V=>?_) D;obtain⟨x,F,G,J,L⟩:=V;refine test_link (bC (w O E f F _ G L) λu M S=>?_);obtain⟨y,N,U,i,W⟩:=S;refine bC (m O M f N x y v u _ U J i W) λd Y R=>?_;obtain⟨z,j,l,Z,k,e,q⟩:=R
 subst e;cases Z;refine Rj ?_;cases k with
 |false=>
  obtain⟨k',e',q'⟩:=q;cases e';exact ite_ff ⟨j,l,q'⟩
 |true=>
  refine ite_tt<|test_last<|bC (B O Y f j _ l q) λw' s4 K=>?_;obtain⟨z',H4,I4,r4,q4⟩:=K;refine bC (g O s4 f H4 y z' u w' _ I4 i r4 q4) λd' s5 hz=>?_;obtain⟨z2,H5,I5,r5,k2,e2,q5⟩:=hz;subst e2;cases r5;exact Rj ⟨H5,I5,q5⟩
def F0(K:J')(x:V)(H:Hp)(k:Px):Prop:=
 match x with
 |.non=>k=Pr
 |.bl b=>k=b
 |.int i=>k=(i != 0)
 |.str y=>y.length<=sizeLine/\k=((y.length:Int) != 0)
 |.byt y=>y.size<=sizeLine/\k=((y.size:Int) != 0)
 |.ref p=>(∃X,SqL K H p X/\k=!X.isEmpty)\/(∃X,SqT K H p X/\k=!X.isEmpty)\/∃s,H p=gV (.dK s)/\k=!s.isEmpty
 |_=>False
theorem vW{a:Type}{k:ab (a×V)}{v:ab (a×Pm)}(r:KV k v):(!v.isEmpty)=!k.isEmpty:=by
 cases r<;>rfl
theorem og(r:Vals xs P):(!P.toArray.isEmpty)=!xs.isEmpty:=by
 cases r<;>simp
theorem lN:(sizeLine:Nat)<2^63:=by rw[Ru];simp
theorem J8:Ol X (λx H Q=>∃k,F0 X.K x H k/\Q k H):=by
 intro O s u H x v Q I d h;obtain⟨k,e,q⟩:=h;have w:=lN;have A:sizeLine=16777216:=Ru;cases x with
 |non=>
  cases d;have E:k=false:=e;subst E;exact truthy_none ⟨H,I,q⟩
 |bl b=>
  cases d;have E:k=b:=e;subst E;exact Rj ⟨H,I,q⟩
 |int i=>
  obtain⟨t,rfl⟩:=d;have E:k=(i != 0):=e;subst E;exact PySem.P.truthy_int ⟨H,I,q⟩
 |str y=>
  obtain⟨t,rfl⟩:=d;obtain⟨j,E⟩:y.length<=sizeLine/\k=((y.length:Int) != 0):=e;subst E;exact PySem.P.truthy_str (by lia) ⟨H,I.tok _,q⟩
 |byt y=>
  obtain⟨t,rfl⟩:=d;obtain⟨j,E⟩:y.size<=sizeLine/\k=((y.size:Int) != 0):=e;subst E;exact PySem.W.truthy_bytes (QF j (by decide)) ⟨H,I.tok _,q⟩
 |ref p=>
  cases d;have E:(∃c,SqL X.K H p c/\k=!c.isEmpty)\/(∃c,SqT X.K H p c/\k=!c.isEmpty)\/∃a,H p=gV (.dK a)/\k=!a.isEmpty:=e;obtain⟨c,f,E⟩|⟨c,f,E⟩|⟨a,f,E⟩:=E
  ·subst E;obtain⟨n,r,P,z⟩:=I.list f;have l:=r.length;exact wpAny_truthy_list P.isList (by simp only[P2];lia) ⟨H,I.tok _,by rw[og r];exact q⟩
  ·subst E;obtain⟨n,r,P,z⟩:=I.tuple f;have l:=r.length;exact truthy_tuple P (by simp only[P2];lia) ⟨H,I.tok _,by rwa[og r]⟩
  ·subst E;obtain⟨z,o,g,r,m⟩:a.length<=sizeLine/\(p == Sn)=Pr/\∃g,KV a g/\s.heap.DictOf (aQ _ X.w) p g:=I.hok p _ f;have l:=Paired.length r;exact wpAny_truthy_dict o m (by lia) ⟨H,I.tok _,by rwa[vW r]⟩
 |_=>exact(e).elim
theorem kj(d:PE X a t)(e:∀Y,isTrue a X.env Y=(do let v <-Y;Y6 a.pos;Vr [v] (truthy v))):
  PT X a (λb H Q=>t b H λx c=>∃k,F0 X.K x c k/\Q k c):=by
 intro O s b H Q I h;exact isTrue_plain (bC (d O s b H _ I h) (by rintro v f ⟨x,g,i,r,q⟩;exact J8 O f b g x v Q i r q))<|e _
theorem e_(r:Vals [x] U):∃u,U=[u]/\RelV x u:=by
 cases r with
 |cons a b=>cases b;exact⟨_,rfl,a⟩
theorem xW(r:Vals [x,y] U):∃u w,U=[u,w]/\RelV x u/\RelV y w:=by
 cases r with
 |cons a b=>
  cases b with
  |cons c d=>cases d;exact⟨_,_,rfl,a,c⟩
theorem oh:eZ X (.builtin "abs") (λx H Q=>∃i,x=[.int i]/\Q (.int (if i<0 then -i else i)) H):=by
 intro O s a H x U Q I r h;obtain⟨i,rfl,q⟩:=h;obtain⟨u,rfl,t,rfl⟩:=e_ r;exact Zn λu T=>⟨.int _,H,I.tok _,⟨_,rfl⟩,q⟩
theorem zU(c:X.calm=Pn):eZ X (.builtin "min") (λxs H Q=>∃i j,xs=[.int i,.int j]/\Q (.int (if j<i then j else i)) H):=by
 intro P s b H xs U Q I r h;obtain⟨i,j,rfl,q⟩:=h;obtain⟨u,w,rfl,⟨t,rfl⟩,⟨T,rfl⟩⟩:=xW r;refine min_two_ints (I.ok.hd c) λd e k=>⟨_,H,I.kept k,?_,q⟩;by_cases a:j<i
 ·rw[PP a,PP a];exact⟨_,rfl⟩
 rw[PM a,PM a];exact⟨_,rfl⟩
theorem lO:eZ X (.type "int") (λx H Q=>(∃i,x=[.int i]/\Q (.int i) H)\/∃k,x=[.bl k]/\Q (.int (if k then 1 else 0)) H):=by
 intro O s b H x U Q I r h;obtain⟨i,rfl,q⟩|⟨k,rfl,q⟩:=h
 ·obtain⟨u,rfl,t,rfl⟩:=e_ r;exact call_int_int ⟨.int i,H,I,⟨_,rfl⟩,q⟩
 obtain⟨u,rfl,a⟩:=e_ r;cases a;exact call_int_bool ⟨.int _,H,I.tok _,⟨_,rfl⟩,q⟩
def Oo(K:J')(x:V)(H:Hp)(n:Nat):Prop:=
 match x with
 |.str y=>y.length<=sizeLine/\n=y.length
 |.byt y=>y.size<=sizeLine/\n=y.size
 |.ref p=>(∃X,SqL K H p X/\n=X.length)\/∃X,SqT K H p X/\n=X.length
 |_=>False
inductive J9 (K:J')(xs:ab V)(H:Hp)(Q:VK):Prop
 |mk (x:V)(n:Nat)(h:xs=[x])(l:Oo K x H n)(q:Q (.int n) H)
theorem dq:eZ X (.builtin "len") (J9 X.K):=by
 intro O s i H a U Q I r h;obtain⟨x,n,rfl,e,q⟩:=h;obtain⟨u,rfl,b⟩:=e_ r;have k:=Ru;cases x with
 |str y=>
  obtain⟨t,rfl⟩:=b;obtain⟨f,E⟩:y.length<=sizeLine/\n=y.length:=e;subst E;exact len_str (by lia) ⟨.int _,H,I.tok _,⟨_,rfl⟩,q⟩
 |byt y=>
  obtain⟨t,rfl⟩:=b;obtain⟨f,E⟩:y.size<=sizeLine/\n=y.size:=e;subst E;exact PySem.W.len_bytes (QF f (by decide)) ⟨.int _,H,I.tok _,⟨_,rfl⟩,q⟩
 |ref p=>
  cases b;have E:=e;obtain⟨a,c,E⟩|⟨a,c,E⟩:=E
  ·subst E;obtain⟨g,d,P,z⟩:=I.list c;have l:=d.length;exact Calls.call_len_list P.isList (by simp only[P2];lia) ⟨.int _,H,I.tok _,⟨_,by simp only[P2];rw[l]⟩,q⟩
  ·subst E;obtain⟨g,d,P,z⟩:=I.tuple c;have l:=d.length;exact len_tuple P (by simp only[P2];lia) ⟨.int _,H,I.tok _,⟨_,by simp only[P2];rw[l]⟩,q⟩
 |_=>exact(e).elim
structure ObjM (h:QB)(x dx C:C')(mA:Str->M' Pm):Prop where
 obj:h.get? x=gV (SY C dx)
 ns:h.Ns1 dx mA
 ne:dx≠x
theorem zV{h:QB}{d:C'}{m:Str->M' Pm}(n:h.Ns1 d m):∃O,h.get? d=gV O/\∀N,WQ N O=gV (m N):=by
 obtain⟨o,E,p,H,b,k,x,c⟩:=n;refine⟨o,H,λN=>?_⟩;have e:=c N;unfold nsFind findBy at e;unfold WQ;rw[b];dsimp only
 split
 ·simp_all
 have a:E.toList.any (·.refKey)=false:=by
  rw[List.any_eq_false];intro y f;obtain⟨z,t,A⟩:=k y<|Array.mem_toList_iff.mp f;simp[afj,A]
 grind
theorem ObjM.look(I:ObjM h x d C m):∃o,PySem.W.InstAt h x (SY C d) C (gV o)/\∀n,WQ n o=gV (m n):=
 let ⟨o,H,l⟩:=zV I.ns
 ⟨o,⟨I.obj,rfl,rfl,H⟩,l⟩
section
variable {prog:PU}{w:Qc}{A:Q0}{E:Pm->PF->Prop}{s:PF}{K:J'}{x dx C f:C'}{mA:Str->M' Pm}{name:Str}{v:Pm}
theorem F1{e:Px}{Q:Pm->PF->Prop}(X:K.In s.heap)(I:ObjM s.heap x dx C mA)(H:Tc K C name=Pn)(a:Tx K C=Pn)
  (b:Qy K (.ref C) name=gV Pt) (c:mA name=gV v) (Z:aaB v=Pn) (h:Q v {s with toks:=s.toks+1}):
  wpAny (Qj prog w) A (getAttr (.ref x) name e) Q E s:=by
 obtain⟨o,J,l⟩:=I.look;exact PySem.W.get_value X J (Ww H).1 (PySem.W.findObj_own a b rfl<|by rw[l,c]) Z h
theorem BU{p:Sem Px}{Q:Pm×ab Pm->PF->Prop}(X:K.In s.heap)(I:ObjM s.heap x dx C mA)(H:Tc K C name=Pn)
  (a:Qy K (.ref C) name=gV (gV<|.ref f)) (t:WG K (.ref f)=Pn) (b:mA name=Pt) (h:Q (.ref f,[.ref x]) s):
  wpAny (Qj prog w) A (XG (.ref x) name p) Q E s:=by
 obtain⟨o,J,l⟩:=I.look;exact PySem.W.method_fn X J (Ww H).1 (Ww H).2 a (VY.mp t) (by show(WQ _ o).map _=gV Pr;simp_all) h
theorem F2{n:ab Str}{Q:YE->PF->Prop}(X:K.In s.heap)(I:ObjM s.heap x dx C mA)
  (e:Qy K (.ref C) "__setattr__"=gV (gV<|.builtin "object.__setattr__")) (p:Uw K C=Pn) (t:Yl K C name=gV Pt) (g:Tx K C=Pn)
  (i:Z9 mA n) (z:n.length<=sizeLine)
  (h:∀h',ObjM h' x dx C (λy=>if y=name then gV v else mA y)->UO dx s.heap h'->Q () {s with heap:=h',toks:=s.toks+2}):
  wpAny (Qj prog w) A (setAttr (.ref x) name v) Q E s:=by
 obtain⟨o,J,q⟩:=I.look;refine PySem.W.set_plain X J e<|PySem.W.osa_open X J p t λb=>?_;obtain⟨r,j,a⟩:=PySem.W.any_some g;have k:=I.obj;refine Pp<|PY<|Pp<|Pp<|wpAny_loadPart k<|Pp<|aeB (PySem.W.looks_clsIn X j) ?_;rw[a];refine PY<|Pp<|PY<|Pp<|wpAny_nsSet1 I.ns λh' H Z=>?_;obtain⟨O,l,m,D,c,d⟩:=H.count<|ae1 _ v i;exact Pp<|wpAny_lookBehind D (by rw[c];exact pastItsLine_dict<|QF d<|Te z)<|PY<|h _ ⟨(Z.2 _<|Q1 I.ne).trans I.obj,H,I.ne⟩ Z
theorem BV{R:kS->PF->Prop}{b:ab Pm}{k:ab (Str×Pm)}(X:K.In s.heap)(H:U_ K C=Pn)
  (i:Qy K (.ref C) "__init__"=gV (gV<|.ref f)) (c:PySem.W.typeIn K (.ref f)=gV (.type "function"))
  (h:codeAny (Qj prog w) (A.under<|.builtin "type.__call__" ⟨.ref C::b,k⟩) (.call (.ref f) ⟨.ref (s.heap.objs.size+1)::b,k⟩) (PySem.W.InitBack (s.heap.objs.size+1) R)
   {s with heap:=(s.heap.push R6).push<|SY C s.heap.objs.size}):
  codeAny (Qj prog w) A (.call (.ref C) ⟨b,k⟩) R s:=PySem.W.make_core (PySem.W.makes_of X H) (PySem.W.looks_findIn X i) (λa=>PySem.W.bind_fn X a c) (.inl rfl) h
end
noncomputable def fZ(f:Str)(v:V):ab (Str×V)->ab (Str×V)
 |[]=>[(f,v)]
 |(g,x)::r=>if g=f then(g,v)::r else(g,x)::fZ f v r
theorem mK(f g:Str)(v:V):∀F,(fZ f v F).lookup g=if g=f then gV v else F.lookup g
 |[]=>by
  show Ua g [(f,v)]=_
  grind
 |(k,x)::r=>by
  have i:=mK f g v r;rw[show fZ f v _=(if k=f then(k,v)::r else(k,x)::fZ f v r)from rfl];grind
theorem lP(f:Str)(v:V):∀F,f∈(fZ f v F).map (·.1)/\∀g,g∈F.map (·.1)->g∈(fZ f v F).map (·.1)
 |[]=>⟨by simp[fZ],λg h=>by simp at h⟩
 |(k,x)::r=>by
  obtain⟨i,I⟩:=lP f v r;rw[show fZ f v _=(if k=f then(k,v)::r else(k,x)::fZ f v r)from rfl];grind
theorem mL(f:Str)(v:V):∀F,(fZ f v F).length<=F.length+1
 |[]=>by simp[fZ]
 |(k,x)::r=>by
  have i:=mL f v r;rw[show fZ f v _=(if k=f then(k,v)::r else(k,x)::fZ f v r)from rfl];by_cases h:k=f
  ·simp_all
  simp_all
theorem RelO.some_of(r:RelO (gV v) o):∃u,o=gV u/\RelV v u:=by
 cases o with
 |none=>exact(r).elim
 |some u=>exact⟨u,rfl,r⟩
theorem RelO.none_of(r:RelO Pt o):o=none:=by
 cases o with
 |none=>rfl
 |some u=>exact(r).elim
theorem zX(r:RelV v u):aaB u=true:=by
 cases v with
 |non=>cases(r);rfl
 |bl b=>cases(r);rfl
 |int i=>obtain⟨t,e⟩:=(r);cases e;rfl
 |str x=>obtain⟨t,e⟩:=(r);cases e;rfl
 |byt b=>obtain⟨t,e⟩:=(r);cases e;rfl
 |flt b=>obtain⟨t,e⟩:=(r);cases e;rfl
 |ref a=>cases(r);rfl
 |ty n=>cases(r);rfl
theorem ny(k:HOk P w H h)(e:H a=gV (.ins C D F)):∃m,ObjM h a D C m/\(∀f,RelO (F.lookup f)<|m f)/\Z9 m (F.map (·.1))/\F.length<=1000/\H D=gV (.own a):=by
 obtain⟨d,z,N,o,m,n,r,q⟩:=(k a _ e);exact⟨m,⟨o,n,N⟩,r,q,z,d⟩
structure Cls (K:J')(C:C'):Prop where
 pg:Tc K C u3=Pn
 hd:Tx K C=Pn
 po:Uw K C=Pn
 sa:Qy K (.ref C) "__setattr__"=gV (gV<|.builtin "object.__setattr__")
theorem Cls.get{K:J'}{C:C'}(c:Cls K C)(f:Str):Tc K C f=true:=c.pg
def NoAttr(K:J')(C:C')(f:Str):Prop:=Qy K (.ref C) f=gV Pt
theorem NoAttr.taker{K:J'}{C:C'}{f:Str}(n:NoAttr K C f):Yl K C f=gV none:=by
 unfold Yl;rw[n];rfl
structure F4 (K:J')(C:C')(m:Str)(f:C'):Prop where
 at_:Qy K (.ref C) m=gV (gV<|.ref f)
 fn:WG K (.ref f)=Pn
 kp:RF K (.ref f)=Pn
theorem vX{b:Px}{Q:Pm->PF->Prop}(I:Inv X o i H s)(e:H a=gV (.ins C D F))(c:Cls X.K C)(n:NoAttr X.K C f)(l:F.lookup f=gV v)
  (h:∀u d,Inv X o i H d->RelV v u->Q u d):wpAny (Qj X.prog X.w) A (getAttr (.ref a) f b) Q E s:=by
 obtain⟨m,O,r,z,z,z⟩:=ny I.hok e;obtain⟨u,j,g⟩:=RelO.some_of (by rw[<-l];exact r f);exact F1 I.kIn O (c.get f) c.hd n j (zX g)<|h u _ (I.tok _) g
theorem om{p:Sem Px}{Q:Pm×ab Pm->PF->Prop}(I:Inv X o b H s)(e:H a=gV (.ins C d f))(c:Cls X.K C)(k:F4 X.K C m g)(l:f.lookup m=Pt)
  (h:Q (.ref g,[.ref a]) s):wpAny (Qj X.prog X.w) A (XG (.ref a) m p) Q E s:=by
 obtain⟨M,O,r,z,z,z⟩:=ny I.hok e;have n:=RelO.none_of (by rw[<-l];exact r m);exact BU I.kIn O (c.get m) k.at_ k.fn n h
theorem vY{Q:YE->PF->Prop}(I:Inv X l p H s)(e:H a=gV (.ins C d F))(c:Cls X.K C)(n:NoAttr X.K C f)(M:F.length<1000)(t:RelV y u)
  (h:∀j,Inv X l p (upd H a<|.ins C d<|fZ f y F) j->Q () j):wpAny (Qj X.prog X.w) A (setAttr (.ref a) f u) Q E s:=by
 obtain⟨m,O,r,w,Z,k⟩:=ny I.hok e;have v:(F.map (·.1)).length<=sizeLine:=by rw[A',Ru];exact QA (QH M (by decide))
 refine F2 I.kIn O c.sa c.po n.taker c.hd w v λx i B=>h _ ?_;have D:∃o,x.get? d=gV o:=let ⟨o,_,_,G,_⟩:=i.ns;⟨o,G⟩
 refine I.write (by rw[e];exact Sv) (.inr k) (λb q J z=>(B.2 b J).trans z) D<|⟨by rwa[af O.ne],?_,O.ne,i.obj,_,i.ns,λg=>?_,λg L=>?_⟩
 ·have:=mL f y F;lia
 ·rw[mK];by_cases q:g=f
  ·rwa[PP q,PP q]
  simp_all
 by_cases q:g=f
 ·rw[q];exact(lP f y F).1
 refine(lP f y F).2 g<|w g λz=>L ?_;simp_all
theorem Inv.made(I:Inv X O a H s):Inv X O a (upd (upd H s.heap.objs.size<|.own<|s.heap.objs.size+1) (s.heap.objs.size+1)<|.ins C s.heap.objs.size [])
  {s with heap:=(s.heap.push R6).push<|SY C s.heap.objs.size}:=by
 have E:(s.heap.push R6).get? _=gV R6:=Qh _ rfl;have c:((s.heap.push R6).push<|SY C s.heap.objs.size).get? (s.heap.objs.size+1)=gV (SY C s.heap.objs.size):=by
  have:=Qh (s.heap.push R6) (o:=SY C s.heap.objs.size) rfl
  rwa [UF]at this
 have d:(s.heap.push R6).Ns _ _:=⟨R6,#[],_,E,rfl,(λe h=>by simp_all),λz=>rfl⟩;have i:=I.laid (o:=.own<|s.heap.objs.size+1) (t':=s.toks) (λb u q=>PH _ q) (Po _) ⟨_,E⟩;refine i.laid (λb u q=>PH _ q) (VC<|UF _ _) ?_;have n:s.heap.objs.size≠s.heap.objs.size+1:=Qa<|Tf _;refine⟨by rw[af n,aa],P8 _,n,c,λz=>Pt,(Heap.Ns1.of_empty d).at λo q=>PH _ q,λz=>Sv,λy f=>absurd rfl f⟩
theorem F6{p:PU}{w:Qc}{P:Pos}{s:PF}{Q:Pm->PF->Prop}(H:U3 e f v (RU e v)=RU e v)
  (h:wpAny (Qj p w) A (RU e v) (λo a=>wpAny (Qj p w) A (getAttr o f Pn) Q E a) E s):wpAny (Qj p w) A (RU (.Attribute e f P) v) Q E s:=
 Attribute_any_ h (by rw[arm_eval_Attribute,H])
def J_(K:J')(t:TE)(f:Str):TE:=λb H Q=>t b H λx h=>∃a C d F v,x=.ref a/\h a=gV (.ins C d F)/\Cls K C/\NoAttr K C f/\F.lookup f=gV v/\Q v h
def Ka(K:J')(t tv:TE)(f:Str):TS:=λD b H=>tv b H λy c=>t b c λx h=>∃a C d F,x=.ref a/\h a=gV (.ins C d F)/\Cls K C/\NoAttr K C f/\F.length<1000/\
 D.nx b (upd h a<|.ins C d<|fZ f y F)
theorem BW(b:PE X e t)(d:U3 e f X.env (RU e X.env)=RU e X.env):PE X (.Attribute e f p) (J_ X.K t f):=by
 intro O s g H Q I h;refine F6 d<|bC (b O s g H _ I h) λu w z=>?_;obtain⟨x,i,j,r,a,C,D,F,v,E,k,c,n,l,q⟩:=z;subst E;obtain rfl:u=QV a:=r;exact vX j k c n l λU y m o=>⟨v,i,m,o,q⟩
theorem jJ(d:PE X o t)(e:PE X v T)(g:WL v (gV<|.Attribute o f i) p.line X.env=pure Pr):PS X (.Assign [.Attribute o f i] v p) (Ka X.K t T f):=by
 intro O s b H D I h;refine plainObj_wpAny_Assign_Attribute (bC (e O s b H _ I h) λu j Y=>?_) g;obtain⟨y,k,m,r,q⟩:=Y;refine bC (d O j b k _ m q) λw G Z=>?_;obtain⟨x,J,z,A,a,C,L,M,E,B,c,n,l,Q⟩:=Z;subst E;obtain rfl:w=QV a:=A;exact vY z B c n l r λN F=>⟨b,_,F,Q⟩
inductive jK (K:J')(H:Hp):V->Pm->Prop where
 |non:jK K H .non (.type "NoneType")
 |bl (x:Px):jK K H (.bl x) (.type "bool")
 |int (i:Int):jK K H (.int i) (.type "int")
 |str (x:Str):jK K H (.str x) (.type "str")
 |flt (x:UInt64):jK K H (.flt x) (.type "float")
 |lst {a:C'} {xs:ab V} (e:H a=gV (.lst xs)):jK K H (.ref a) (.type "list")
 |frz {a:C'} {o:Obj} {xs:ab V} (e:H a=gV (.frz o<|.lst xs)):jK K H (.ref a) (.type "list")
 |tup {a:C'} {xs:ab V} (e:H a=gV (.tup xs)):jK K H (.ref a) (.type "tuple")
 |dK {a:C'} {kvs:ab (aJ×V)} (e:H a=gV (.dK kvs)):jK K H (.ref a) (.type "dict")
 |dT {a:C'} {kvs:ab (ab aJ×V)} (e:H a=gV (.dT kvs)):jK K H (.ref a) (.type "dict")
 |ins {a C dx:C'} {fs:ab (Str×V)} (e:H a=gV (.ins C dx fs)) (cl:Cls K C) (ha:Qy K (.ref C) "__class__"=gV (gV<|.builtin "object.__class__"))
   (hn:Xf K (.builtin "object.__class__") "__get__"=gV (gV<|.builtin "getset_descriptor.__get__")) (htk:Yk K (.builtin "object.__class__")=gV Pn)
   (hm:V' K C (.type "object")=gV Pn):jK K H (.ref a) (.ref C)
theorem qx(I:Inv X M N H s)(r:RelV x u)(T:jK X.K H x t)(e:R_ X.K t c=gV b)(h:∀v,Q (.bool b) {s with toks:=v}):
  wpAny (Qj X.prog X.w) A (call (.builtin "isinstance") [u,c]) Q E s:=by
 cases T with
 |non=>cases(r);exact RZ PySem.W.kitx_none I.kIn Sv e (by simp) h
 |bl y=>cases(r);exact RZ PySem.W.kitx_bool I.kIn Sv e (by simp) h
 |int i=>obtain⟨t,q⟩:=(r);cases q;exact RZ PySem.W.kitx_int I.kIn Sv e (by simp) h
 |str y=>obtain⟨t,q⟩:=(r);cases q;exact RZ PySem.W.kitx_str I.kIn Sv e (by simp) h
 |flt y=>obtain⟨t,q⟩:=(r);cases q;exact RZ PySem.W.kitx_float I.kIn Sv e (by simp) h
 |@lst a g d=>
  cases(r);obtain⟨z,z,n,z,f⟩:=(I.hok a _ d);exact RZ Z_ I.kIn ⟨_,f,rfl⟩ e (by simp) h
 |@frz a w g d=>
  cases(r);obtain⟨z,z,z,n,z,f⟩:=(I.hok a _ d);exact RZ Z_ I.kIn ⟨_,f,rfl⟩ e (by simp) h
 |@tup a g d=>
  cases(r);obtain⟨z,z,z,p⟩:=(I.hok a _ d);obtain⟨o,f,j,z⟩:=p;exact RZ PySem.W.kitx_tuple I.kIn ⟨o,f,j⟩ e (by simp) h
 |@dK a k d=>
  cases(show u=QV a from r);obtain⟨z,z,P,z,p⟩:=(I.hok a _ d);obtain⟨o,B,D,f,j,z⟩:=p;exact RZ Z' I.kIn ⟨o,f,j.1⟩ e (by simp) h
 |@dT a k d=>
  cases(show u=QV a from r);obtain⟨z,z,g,z,o,B,D,f,j,z⟩:=(I.hok a _ d);exact RZ Z' I.kIn ⟨o,f,j.1⟩ e (by simp) h
 |@ins a C U W d m F G l L=>
  cases(r);obtain⟨Y,O,z⟩:=ny I.hok d;obtain⟨Z,J,z⟩:=O.look;exact RZ (PySem.W.kitx_own (m.get _) m.hd F G l L) I.kIn J e (by simp) h
structure Room (k:Nat)(A:Q0):Prop where
 hd:A.handled=Pt
 dp:A.depth+3*k+5<XA
 un:A.units+16*k+200<Tw
theorem Room.mono(r:Room k A)(h:j<=k):Room j A:=⟨r.hd,by have:=r.dp;lia,by have:=r.un;lia⟩
theorem Room.deeper(r:Room (k+1) A)(e:Env):Room k (A.deeper e):=
 ⟨r.hd,by have:=r.dp;show A.depth+1+3*k+5<_;lia,by have:=r.un;show A.units+3+16*k+200<_;lia⟩
theorem vZ{A:Q0}{C:C'}{u:ab Pm}{k:ab (Str×Pm)}:(A.under<|.builtin "type.__call__" ⟨.ref C::u,k⟩).depth=A.depth+1:=by
 first|rfl|simp 
theorem v_{A:Q0}{C:C'}{u:ab Pm}{k:ab (Str×Pm)}:(A.under<|.builtin "type.__call__" ⟨.ref C::u,k⟩).units=A.units+1:=by
 first|rfl|simp 
theorem Room.make(r:Room (k+1) A)(C:C')(u:ab Pm)(w:ab (Str×Pm)):Room k (A.under<|.builtin "type.__call__" ⟨.ref C::u,w⟩):=
 ⟨r.hd,by have:=r.dp;rw[vZ];lia,by have:=r.un;rw[v_];lia⟩
theorem Room.depth(r:Room k A):A.depth<XA:=by have:=r.dp;lia
theorem Room.units(r:Room k A):A.units+64<Tw:=by have:=r.un;lia
def wa:TA:=λ_ H Q=>Q [] H
def jz(t:TE)(T:TA):TA:=λa H Q=>t a H λx h=>T a h λX b=>Q (x::X) b
theorem hU:PA X [] wa:=λz z z z H Q I h=>Vx ⟨[],H,I,.nil,h⟩
theorem aM(b:PE X e T)(r:PA X E t)(c:Qk (e::E) X.env=(Pr,RU e X.env)::Qk E X.env:=by rfl):PA X (e::E) (jz T t):=by
 intro p O s a H Q I h;rw[c];exact Tg<|bC (b O s a H _ I h) (by rintro u d ⟨x,f,i,g,q⟩;exact bC (r p O d a f _ i q) (by rintro U o ⟨j,k,l,m,n⟩;exact ⟨x::j,k,l,.cons g m,n⟩))
def Op(t:TA):TE:=λa H Q=>t a H λx h=>x.length<=sizeLine/\∀p,h p=Pt->Q (.ref p) (upd h p<|.tup x)
def Oq(t:TA):TE:=λa H Q=>t a H λx h=>x.length<=sizeLine/\∀p,h p=Pt->Q (.ref p) (upd h p<|.lst x)
theorem eD{x}(h:PA X E t):PE X (.Tuple E x p) (Op t):=by
 intro O s d H Q I f;refine wpAny_Tuple_spliced<|bC (h p O s d H _ I f) λU a y=>?_;obtain⟨g,c,i,r,z,q⟩:=y;refine ⟨by rwa[<-r.length],?_⟩;have j:=i.hok.fresh<|Po _;exact⟨.ref _,upd c _<|.tup g,i.laid (λb u e=>PH _ e) (Po _) (⟨z,U,r,⟨_,Qh _ rfl,rfl,_,rfl⟩⟩),rfl,q _ j⟩
theorem BX(h:PA X E t):PE X (.List E p) (Oq t):=by
 intro O s d H Q I f;refine wpAny_List_spliced<|bC (h p O s d H _ I f) λU a y=>?_;obtain⟨x,c,i,r,z,q⟩:=y;refine ⟨by rwa[<-r.length],?_⟩;have g:=i.hok.fresh<|Po _;exact⟨.ref _,upd c _<|.lst x,i.laid (λb u e=>PH _ e) (Po _) (⟨z,U,0,r,Qh _ rfl⟩),rfl,q _ g⟩
abbrev Sp:=ab V->Hp->VK->XK->Prop
abbrev BY:=ab Env->Hp->PF->XK->Pm->PF->Prop
structure Env0 (P:PU)(w:Qc)(K:J')(mg:Str->M' Pm)(base:QB)(A:Q0)(outer:ab Env)(s:PF)(H:Hp):Prop where
 frames:A.frames=gV outer
 mod:Mod K mg base
 bs:∀b o,base.get? b=gV o->s.heap.get? b=gV o/\H b=Pt
 bsz:base.objs.size<=s.heap.objs.size
 funs:s.heap.FunFrames base outer
 frf:∀b∈vP outer,H b=Pt
 hok:HOk P w H s.heap
 bare:Xj s.gens
def CE(o:ab Env)(P:PU)(w:Qc)(H:Hp)(s:PF)(Q:VK)(u:Pm)(a:PF):Prop:=
 ∃v h,a.os=s.os/\Xj a.gens/\Un (vP o) [] H h s.heap a.heap/\HOk P w h a.heap/\RelV v u/\Q v h
def CR(C:BY)(o:ab Env)(P:PU)(w:Qc)(H:Hp)(s:PF)(Q:VK)(E:XK)(r:kS)(a:PF):Prop:=
 match r with
 |.ok (.ret u)=>CE o P w H s Q u a
 |.ok _=>False
 |.error e=>C o H s E e a
structure ay (P:PU)(w:Qc)(K:J')(mg:Str->M' Pm)(base:QB)(CX:BY)(k:Nat)(f:C')(fd:PR)(ps:ab Str)(sp:Sp):Prop where
 len:∀vs H Q E,sp vs H Q E->vs.length=ps.length
 run:∀(A:Q0) (outer:ab Env) (s:PF) (H:Hp) (args:Args) (us:ab Pm) (vs:ab V) (Q:VK) (E:XK),Room k A->Env0 P w K mg base A outer s H->lA s fd args (ps.zip us)->Vals vs us->sp vs H Q E->
  codeAny (Qj P w) A (.call (.ref f) args) (CR CX outer P w H s Q E) s
theorem Env0.make{P:PU}{w:Qc}{K:J'}{m:Str->M' Pm}{b:QB}{A:Q0}{o:ab Env}{s:PF}{H:Hp}(e:Env0 P w K m b A o s H)(C:C')(u:ab Pm)(k:ab (Str×Pm)):
  Env0 P w K m b (A.under<|.builtin "type.__call__" ⟨.ref C::u,k⟩) o s H:=⟨by first|exact e.frames|(simpa using e.frames),e.mod,e.bs,e.bsz,e.funs,e.frf,e.hok,e.bare⟩
theorem Inv.env0(I:Inv X O a H s):Env0 X.prog X.w X.K X.mg X.base X.A X.stack s H:=
 ⟨I.ok.frames,I.ok.mod,I.bs,QF I.ok.bsz I.sz,I.stack,I.stkFree,I.hok,I.bare⟩
theorem Inv.after(I:Inv X O c H s)(h:CE X.stack X.prog X.w H s Q u a):EP X O c Q u a:=by
 obtain⟨v,e,os,B,U,k,r,q⟩:=h;obtain⟨f,g,d,t,o⟩:=a;obtain rfl:o=s.os:=os;exact⟨v,e,I.call U k B (λb z=>by simp_all),r,q⟩
def xX(s:Sp)(d:ab V)(E:XK)(t:TA):TE:=λa H Q=>t a H λv h=>s (v++d) h Q E
def ub(C:C')(m:Str)(s:Sp)(d:ab V)(E:XK)(T:TE)(t:TA):TE:=λb H Q=>T b H λx h=>∃a D f,x=.ref a/\h a=gV (.ins C D f)/\f.lookup m=Pt/\
 t b h λv c=>s (x::(v++d)) c Q E
def Ir(C:C')(s:Sp)(D:ab V)(E:XK)(t:TA):TE:=λa H Q=>t a H λb h=>∀x d,h x=Pt->h d=Pt->d≠x->
 s (.ref x::(b++D)) (upd (upd h d<|.own x) x<|.ins C d []) (λv c=>v=.non/\Q (.ref x) c) E
def Binds(K:J')(f:PR)(p:ab Str)(d:ab Pm):Prop:=
 ∀(s:PF) (u:ab Pm),K.In s.heap->(u++d).length=p.length->lA s f ⟨u,[]⟩ (p.zip<|u++d)
theorem Binds.all{K:J'}{f:PR}{p:ab Str}(h:∀u,u.length=p.length->Z8 f ⟨u,[]⟩=pure (p.zip u)):Binds K f p []:=λs u z H=>by
 rw[QN]at H ⊢;exact .of_eq<|h u H
def jL(C:BY)(X:Cx)(E:XK):Prop:=∀(P:ab (C'×Obj)) (b:St) (H:Hp) (s:PF) (e:Pm) (a:PF),Inv X P b H s->C X.stack H s E e a->X.xe e a
section
variable {X:Cx}{CX:BY}{k:Nat}{f C:C'}{fd:PR}{ps:ab Str}{sp:Sp}{dvs:ab V}{ds:ab Pm}{E:XK}{x:Str}{p pos:Pos}{e:QS}{es:ab QS}{t:TA}
theorem wb{O:ab (C'×Obj)}{a:St}{H:Hp}{s:PF}{Q:VK}{U:ab Pm}{v:ab V}(F:ay X.prog X.w X.K X.mg X.base CX k f fd ps sp)(c:Room k X.A)(d:Binds X.K fd ps ds)(g:Vals dvs ds)(i:jL CX X E)
  (I:Inv X O a H s) (r:Vals v U) (h:sp (v++dvs) H Q E):wpAny (Qj X.prog X.w) X.A (call (.ref f) U) (EP X O a Q) X.xe s:=by
 have b:=r.append g;have l:(U++ds).length=ps.length:=by rw[<-b.length];exact F.len _ _ _ _ h
 refine Zt<|Vs (F.run X.A _ s H _ _ _ Q E c I.env0 (d s U I.kIn l) b h) λr j q=>?_;cases r with
 |error e=>exact i O a H s e j I q
 |ok m=>
  cases m with
  |ret u=>exact I.after q
  |next=>exact Rt q
  |brk=>exact Rt q
  |cont=>exact Rt q
theorem F7(F:ay X.prog X.w X.K X.mg X.base CX k f fd ps sp)(a:Room k X.A)(g:Gl X x)(m:X.mg x=gV (.ref f))(c:RF X.K (.ref f)=Pn)(d:Binds X.K fd ps ds)(j:Vals dvs ds)(l:jL CX X E)
  (n:PA X (e::es) t) (b:(x == ("__debug__":Str))=false:=by decide) (o:Qk (e::es) X.env=(Pr,RU e X.env)::Qk es X.env:=by rfl) (u:(SW pos<|Qk es X.env).any (·.1)=false:=by rfl):
  PE X (.Call (.Name x p) (e::es) [] pos) (xX sp dvs E t):=by
 intro O s v H Q I h;exact RA<|nj I g m (Vi I.ok.mod.kin c (bC (n pos O s v H _ I h) (by rintro U w ⟨y,z,i,r,q⟩;exact ⟨i.kIn,wb F a d j l i r q⟩)) o u) b
theorem F8{m:Str}{v:Pos}{o:QS}{T:TE}{P:Sem Px}(w:PE X o T)(c:Cls X.K C)(d:F4 X.K C m f)(F:ay X.prog X.w X.K X.mg X.base CX k f fd ps sp)(y:Room k X.A)(z:Binds X.K fd ps ds)(A:Vals dvs ds)(B:jL CX X E)(D:PA X (e::es) t)
  (b:Qk (e::es) X.env=(Pr,RU e X.env)::Qk es X.env:=by rfl) (G:(SW pos<|Qk es X.env).any (·.1)=false:=by rfl)
  (J:RU (.Call (.Attribute o m v) (e::es) [] pos) X.env=(do
   let O <-RU o X.env
   Y6 v.atName
   let (f,first) <-Vr [O] (XG O m P)
   ti pos f first (SW pos<|Qk (e::es) X.env) (YJ pos<|Wd [] X.env)):=by rfl):
  PE X (.Call (.Attribute o m v) (e::es) [] pos) (ub C m sp dvs E T t):=by
 intro g s i H Q I h;refine Yt (bC (w g s i H _ I h) λu L p=>?_) J;obtain⟨x,M,j,N,a,dx,fs,U,W,l,q⟩:=p;subst U;obtain rfl:u=QV a:=N;exact om j W c d l<|Vi I.ok.mod.kin d.kp (bC (D pos g L i M _ j q) (by rintro Y s2 ⟨Z,H2,n,r,q2⟩;exact ⟨n.kIn,wb (v:=.ref a::Z) F y z A B n (.cons rfl r) q2⟩)) b G
theorem BZ{P:Sem Px}(d:PE X o T)(c:Cls X.K C)(b:F4 X.K C m f)(F:ay X.prog X.w X.K X.mg X.base CX k f fd ps sp)(r:Room k X.A)(g:Binds X.K fd ps ds)(j:Vals dvs ds)(n:jL CX X E)
  (w:RU (.Call (.Attribute o m v) [] [] pos) X.env=(do
   let O <-RU o X.env
   Y6 v.atName
   let (f,first) <-Vr [O] (XG O m P)
   ti pos f first (SW pos<|Qk [] X.env) (YJ pos<|Wd [] X.env)):=by rfl):
  PE X (.Call (.Attribute o m v) [] [] pos) (ub C m sp dvs E T wa):=by
 intro y s z H Q I h;refine Yt (bC (d y s z H _ I h) λu G t=>?_) w;obtain⟨x,J,i,A,a,L,M,B,D,l,q⟩:=t;subst B;obtain rfl:u=QV a:=A;exact om i D c b l<|PySem.W.callWith_K0 i.kIn b.kp<|wb (v:=[.ref a]) F r g j n i (.cons rfl .nil) q
structure Mk (K:J')(C f:C'):Prop where
 makes:U_ K C=Pn
 init:Qy K (.ref C) "__init__"=gV (gV<|.ref f)
 fn:WG K (.ref f)=Pn
 kp:RF K (.ref C)=Pn
theorem B0{O:ab (C'×Obj)}{b:St}{H:Hp}{s:PF}{Q:VK}{U:ab Pm}{c:ab V}(M:Mk X.K C f)(F:ay X.prog X.w X.K X.mg X.base CX k f fd ps sp)(j:Room (k+1) X.A)(l:Binds X.K fd ps ds)(m:Vals dvs ds)
  (n:jL CX X E) (I:Inv X O b H s) (r:Vals c U)
  (h:∀x d,H x=Pt->H d=Pt->d≠x->sp (.ref x::(c++dvs)) (upd (upd H d<|.own x) x<|.ins C d []) (λv o=>v=.non/\Q (.ref x) o) E):
  wpAny (Qj X.prog X.w) X.A (call (.ref C) U) (EP X O b Q) X.xe s:=by
 have q:=h _ _ (I.hok.fresh<|Wf _) (I.hok.fresh<|Po _)<|Qa<|Tf _;have i:=Inv.made (C:=C) I;have g:Vals (V.ref (s.heap.objs.size+1)::(c++dvs)) _:=.cons rfl<|r.append m;have w:(QV (s.heap.objs.size+1)::U++ds).length=ps.length:=by
  have e:=g.length;rw[F.len _ _ _ _ q]at e;exact e.symm
 refine Zt (BV I.kIn M.makes M.init (VY.mp M.fn) (Vs (F.run _ _ _ _ _ _ _ _ E (j.make C U [])
  (i.env0.make C U []) (l _ _ i.kIn w) g q) λr y a=>?_))
 cases r with
 |error e=>exact n O b _ _ e y i a
 |ok z=>
  cases z with
  |ret u=>
   obtain⟨v,A,B,D,G,J⟩:=i.after a;subst G;exact⟨D,⟨V.ref<|s.heap.objs.size+1,A,B,rfl,J⟩⟩
  |next=>exact Rt a
  |brk=>exact Rt a
  |cont=>exact Rt a
theorem F9(M:Mk X.K C f)(F:ay X.prog X.w X.K X.mg X.base CX k f fd ps sp)(a:Room (k+1) X.A)(g:Gl X x)(m:X.mg x=gV (.ref C))(c:Binds X.K fd ps ds)(d:Vals dvs ds)(j:jL CX X E)
  (l:PA X (e::es) t) (b:(x == ("__debug__":Str))=false:=by decide) (n:Qk (e::es) X.env=(Pr,RU e X.env)::Qk es X.env:=by rfl) (u:(SW pos<|Qk es X.env).any (·.1)=false:=by rfl):
  PE X (.Call (.Name x p) (e::es) [] pos) (Ir C sp dvs E t):=by
 intro O s o H Q I h;exact RA<|nj I g m (Vi I.ok.mod.kin M.kp (bC (l pos O s o H _ I h) (by rintro U v ⟨w,y,i,r,q⟩;exact ⟨i.kIn,B0 M F a c d j i r q⟩)) n u) b
end
structure eH (N P:ab Str)(sc:T_):Prop where
 kind:sc.kind=.function
 co:sc.isCoroutine=Pr
 gen:sc.isGenerator=Pr
 nd:N.Nodup
 pre:N.take P.length=P
 par:∀x∈P,sc.names.lookup x=gV .local\/sc.names.lookup x=gV .cell
 nofree:∀y∈sc.names,y.2≠.free
theorem qy{kindOf:Str->M' WV}{x:Str}:∀{b:ab (Str×Pm)} {m:Str->M' Pm},(∀v,(x,v)∉b)->kH kindOf b m x=m x
 |[],_,_=>rfl
 |(n,v)::r,m,h=>by
  unfold kH;rw[qy λw H=>h w<|P1 _ H]
  split
  ·grind
  rfl
theorem qz{kindOf:Str->M' WV}{x:Str}:∀{b:ab (Str×Pm)} {m:Str->M' Pm},(∀v,(x,v)∉b)->kG kindOf b m x=m x
 |[],_,_=>rfl
 |(n,v)::r,m,h=>by
  unfold kG;rw[qz λw H=>h w<|P1 _ H]
  split
  ·rfl
  grind
theorem qA{kindOf:Str->M' WV}{x:Str}{v:Pm}:∀{P:ab Str} {s:ab Pm} {i:Nat} {m:Str->M' Pm},P.Nodup->P[i]?=gV x->s[i]?=gV v->kindOf x=gV .local->
  kH kindOf (P.zip s) m x=gV v
 |[],_,_,_,_,h,_,_=>by simp at h
 |_::_,[],_,_,_,_,h,_=>by simp at h
 |p::P,w::s,0,m,n,H,a,k=>by
  simp at H a;subst H;subst a;show kH _ ((p,w)::P.zip s) m p=_
  unfold kH;rw[qy λv b=>(Q3.mp n).1 (Va b).1,PP k];simp
 |p::P,w::s,i+1,m,n,H,a,k=>by
  show kH _ ((p,w)::P.zip s) m x=_
  exact qA (Q3.mp n).2 (by assumption) (by assumption) k
theorem qB{kindOf:Str->M' WV}{x:Str}{v:Pm}:∀{P:ab Str} {s:ab Pm} {i:Nat} {m:Str->M' Pm},P.Nodup->P[i]?=gV x->s[i]?=gV v->kindOf x≠gV .local->
  kG kindOf (P.zip s) m x=gV v
 |[],_,_,_,_,h,_,_=>by simp at h
 |_::_,[],_,_,_,_,h,_=>by simp at h
 |p::P,w::s,0,m,n,H,a,k=>by
  simp at H a;subst H;subst a;show kG _ ((p,w)::P.zip s) m p=_
  unfold kG;rw[qz λv b=>(Q3.mp n).1 (Va b).1,PM k];simp
 |p::P,w::s,i+1,m,n,H,a,k=>by
  show kG _ ((p,w)::P.zip s) m x=_
  exact qB (Q3.mp n).2 (by assumption) (by assumption) k
noncomputable def start(N:ab Str)(v:ab V):St:=v.map gV++W0 (N.length-v.length) Pt
noncomputable def rM(C:BY)(P:PU)(w:Qc)(K:J')(mg:Str->M' Pm)(base:QB)(N:ab Str)(q:Str)(a:T_)(f:C')(c:Pm)(A:Q0)(outer:ab Env)(s:PF)(H:Hp)(E:XK):Cx where
 prog:=P
 w:=w
 K:=K
 mg:=mg
 base:=base
 A:=A.deeper (Rr q a s.heap.objs.size f c)
 N:=N
 s₀:=s
 H₀:=H
 env:=Rr q a s.heap.objs.size f c
 outer:=outer
 stack:=Rr q a s.heap.objs.size f c::outer
 ex:=[]
 calm:=Pn
 fn:=λ_=>Pn
 pn:=[]
 xe:=λe d=>wpAny (Qj P w) (A.deeper<|Rr q a s.heap.objs.size f c) (leaving (Rr q a s.heap.objs.size f c) e) (λ_ b=>C outer H s E e b) (λg b=>C outer H s E g b) d
theorem uc{s:T_}{n:Nat}{x:Str}(h:s.names.lookup x=gV .cell):∃c,(Q7 n s.names []).lookup x=gV c:=by
 have q:=X0 _ n []<|.inl h;exact U8.mp q
theorem zY{X:BY}{P:PU}{w:Qc}{K:J'}{M:Str->M' Pm}{B:QB}{N l:ab Str}{Q:Str}{d:T_}{f:C'}{F:Pm}{A:Q0}{o:ab Env}{s J:PF}{H:Hp}{E:XK}{U:ab Pm}{m:ab V}
  (S:eH N l d) (T:A.handled=Pt) (j:Env0 P w K M B A o s H) (Z:m.length=l.length) (r:Vals m U)
  (x:InCallC s s.heap.objs.size (kH (Rr Q d s.heap.objs.size f F).kindOf (l.zip U) λR=>Pt) (Q7 (s.heap.objs.size+1) d.names []) (kG (Rr Q d s.heap.objs.size f F).kindOf (l.zip U) λR=>Pt) J):
  Inv (rM X P w K M B N Q d f F A o s H E) [] (start N m) H J:=by
 have Xu:l.length<=N.length:=by have:=Qq Q4 S.pre;rw[P9]at this;lia
 obtain⟨G,tk,rfl,L⟩:=x.done;have n:∀b,b∉(rM X P w K M B N Q d f F A o s H E).ex:=λb z=>absurd (show b∈([])from z) (by simp);refine⟨⟨j.mod,S.kind,rfl,rfl,Po _,λy z c G g=>?_,λy t=>?_,λy c R h=>?_,λR=>T,YO j.frames,.inr ⟨rfl,rfl⟩,λb z=>absurd z<|n b,j.bs,j.bsz,λb R R=>n b,λb z=>absurd z<|n b,j.funs,j.frf⟩,
  rfl,j.bare,Un.kept L,⟨_,x.toInCall.ns,λi y v G g h3=>?_⟩,λy c h=>⟨_,x.cell y c h⟩,j.hok.fresh<|Po _,λy c h=>?_,λp C=>absurd (show p∈([])from C) (by simp),j.hok.kept L,?_⟩
 ·exact Z7 x.apart (QZ G)<|QZ g
 ·have t:=t;obtain t|t:=t
  ·exact uc t
  exact absurd rfl<|S.nofree _<|QZ t
 ·exact QA<|x.above y c<|QZ h
 ·have I:i<m.length:=by
   unfold start at g;by_cases I:i<m.length
   ·exact I
   rw[PV<|by simpa using I]at g;rw[List.getElem?_replicate]at g
   split at g<;>cases g
  have W:m[i]?=gV v:=by
   unfold start at g;rw[PL (by simpa using I),PN]at g;cases e:m[i]? with
   |none=>rw[e]at g;cases g
   |some a=>rw[e]at g;cases g;rfl
  obtain⟨u,O,Y⟩:=r.get W;have C:l[i]?=gV y:=by
   rwa[<-S.pre,QM<|by exact QH I (VC Z)]
  have D:l.Nodup:=by rw[<-S.pre];exact S.nd.sublist<|Uz _ _
  exists u,Y;obtain k|k:=S.par y (Pq C)
  ·exact .inl ⟨k,qA D C O k⟩
  obtain⟨c,e⟩:=uc k;refine .inr ⟨.inl k,c,e,?_⟩;have q:=x.cell y c e;rwa[qB D C O (by show d.names.lookup y≠_;rw[k];decide)]at q
 ·exact j.hok.fresh<|QA<|x.above y c<|QZ h
 unfold start;show _=N.length
 rw[Pl,A',List.length_replicate];lia
theorem Iu{X:BY}{P:PU}{w:Qc}{K:J'}{M:Str->M' Pm}{B:QB}{k:Nat}{f:C'}{h l:Str}{p:UP}{c:ab QW}{a:T_}{dV kV ZA pm j ct oc:Pm}{an od:M' C'}
  {F:RW (M' Pm)} {N D:ab Str} {sp:Sp} (lk:K.lookup f=gV ⟨oc,od,.func<|SO h l p c a dV kV ZA pm an j ct,F⟩) (L:Vv K j l=Pn) (S:eH N D a)
  (G:∀d H Q E,sp d H Q E->d.length=D.length)
  (T:∀A O s H d Q E,Room k (A.deeper<|Rr l a s.heap.objs.size f j)->sp d H Q E->
   ∃t,PSs (rM X P w K M B N l a f j A O s H E) c t/\t {nx:=λ_ i=>Q .non i,rt:=Q} (start N d) H):
  ay P w K M B X (k+1) f (SO h l p c a dV kV ZA pm an j ct) D sp:=by
 refine⟨G,λA O s H ac us d Q E U z hb r C=>?_⟩;have hl:=G _ _ _ _ C;have KX:=z.mod.kin.keeps λb o e=>(z.bs b o e).1;have W:=z.mod.nolimit.keeps λb o e=>(z.bs b o e).1;have Y:∀y∈D.zip us,a.names.lookup y.1=gV _\/(a.names.lookup y.1=gV _/\((Q7 (s.heap.objs.size+1) _ []).lookup y.1).isSome=Pn):=λ⟨n,v⟩ hy=>by
  obtain q|q:=S.par n (Va hy).1
  ·exact .inl q
  exact .inr ⟨q,X0 _ _ _<|.inl q⟩
 refine codeAny_call_function U.depth (KX _ _ lk) rfl S.co S.gen rfl (PySem.W.codeRec_of KX L)<|hb _ _ _ _<|wpAny_newFunctionEnv_cells S.kind Y λam he s1 x=>?_;subst he;refine⟨W.keeps x.toInCall.keep,codeAny_func ?_⟩;obtain⟨t,ht,hq⟩:=T A O s H d Q E (U.deeper _) C;have I:Inv (rM X P w K M B N l a f j A O s H E) [] _ H s1:=zY S U.hd z hl r x;refine RT (ht [] s1 _ H _ I hq) (λfl Z m=>?_) λe Z m=>m;have XX:∀{g:St} {i:Hp} {v:V} {u:Pm},Inv (rM X P w K M B N l a f j A O s H E) [] g i Z->RelV v u->Q v i->CE O P w H s Q u Z:=
  λ{g i v u} J rv q=>⟨v,i,J.os,J.bare,J.base,J.hok,rv,q⟩
 cases fl with
 |ret u=>
  obtain⟨v,g,i,J,rv,q⟩:=m;exact XX J rv q
 |next=>
  obtain⟨g,i,J,q⟩:=m;exact XX (v:=V.non) J rfl q
 |brk=>
  obtain⟨_,_,_,q⟩:=m;exact Rt q
 |cont=>
  obtain⟨_,_,_,q⟩:=m;exact Rt q
section
variable {X:Cx}{x:Str}{p pos:Pos}{e:QS}{es:ab QS}{t:TA}{id:TL}{r:ab V->Hp->VK->Prop}
def O6(r:ab V->Hp->VK->Prop)(t:TA):TE:=λa H Q=>t a H λv h=>r v h Q
theorem aR(c:eZ X (.builtin id) r)(g:Gl X x)(m:X.mg x=Pt)(v:Vu x=gV (.builtin id))(d:PA X (e::es) t)(n:x≠"__name__":=by decide)(b:(x == ("__debug__":Str))=false:=by decide)
  (f:Qk (e::es) X.env=(Pr,RU e X.env)::Qk es X.env:=by rfl) (u:(SW pos<|Qk es X.env).any (·.1)=false:=by rfl):PE X (.Call (.Name x p) (e::es) [] pos) (O6 r t):=by
 intro O s a H Q I h;exact RA<|dD I g m v (aaJ (bC (d pos O s a H _ I h) (by rintro U i ⟨j,k,l,o,q⟩;exact c O i a k j U Q l o q)) f u) n b
theorem aW{T:TL}(c:eZ X (.type T) r)(g:Gl X x)(m:X.mg x=Pt)(v:Vu x=gV (.type T))(d:PA X (e::es) t)(n:x≠"__name__":=by decide)(b:(x == ("__debug__":Str))=false:=by decide)
  (f:Qk (e::es) X.env=(Pr,RU e X.env)::Qk es X.env:=by rfl) (u:(SW pos<|Qk es X.env).any (·.1)=false:=by rfl):PE X (.Call (.Name x p) (e::es) [] pos) (O6 r t):=by
 intro O s a H Q I h;exact RA<|dD I g m v (Rh (bC (d pos O s a H _ I h) (by rintro U i ⟨j,k,l,o,q⟩;exact c O i a k j U Q l o q)) f u) n b
end
end L2
namespace HT
open PySem PyProof.Rows
noncomputable def sIx(n d:Nat):M' Int->Nat
 |none=>d
 |some v=>if v<0 then(v+(n:Int)).toNat else min v.toNat n
theorem q7(n d k:Nat):sIx n d (gV (k:Int))=min k n:=by
 rfl
theorem Kb(n d:Nat)(H:d<=n)(o:M' Int):sIx n d o<=n:=by
 cases o with
 |none=>exact H
 |some v=>
  show(if v<0 then(v+(n)).toNat else min _ n)<=n
  by_cases h:v<0
  ·rw[PP h];lia
  rw[PM h];exact V5 _ _
theorem xY(v:Int)(n d:Nat):(if v<0 then max (v+(n:Int)) 0 else min v (n:Int))=((sIx n d (gV v):Nat):Int):=by
 show(if v<0 then max _ 0 else min v _)=(((if v<0 then(v+(n)).toNat else min _ n):Nat))
 grind
theorem wc(lo h:M' Int)(n:Nat):US lo h 1 (n:Int)=(((sIx n 0 lo:Nat):Int),((sIx n n h:Nat):Int)):=by
 unfold US;simp only ;refine Vy ?_ ?_
 ·cases lo with
  |none=>rfl
  |some v=>exact xY v n 0
 cases h with
 |none=>rfl
 |some v=>exact xY v n n
theorem we(i j:Nat):To (i:Int) (j:Int) 1=j-i:=by
 unfold To;have h:(1:Int)>0:=by simp
 simp only[h,WB,Int.ediv_one]
 split<;>lia
theorem oo(p:ZF v o)(h:Q o s):wpAny (Qj P w) A (aba v) Q E s:=by
 cases p with
 |none=>exact ZU h
 |int i t=>exact slicePart_int h
theorem sliceApplied_gen{l:C'}{v u:Pm}{lo H:M' Int}{n:Nat}{Q:Int×Int×Nat->PF->Prop}(b:s.heap.IsSliceOf l v u .none)(P:ZF v lo)(c:ZF u H)
  (h:Q (((sIx n 0 lo:Nat):Int),1,sIx n n H-sIx n 0 lo) s):wpAny (Qj p w) A (UH (.ref l)<|pure (n:Int)) Q E s:=by
 obtain⟨os,a,d,Z⟩:=id b;refine Pp<|Pp<|I' a Z (x:=v) rfl<|Pp<|I' a Z (x:=u) rfl<|Pp<|I' a Z rfl<|PY<|Pp<|ZU<|Pp<|oo P<|Pp<|oo c<|Pp<|PY ?_;show wpAny _ _ (match US lo H 1 (n)with|(lo,H)=>pure (lo,(1:Int),To lo H 1)) _ _ s
 rw[wc lo H n];show wpAny _ _ (pure _) _ _ s
 rw[we];exact PY h
theorem B1(xs:RW Pm)(i k:Nat):((Qt k).filterMap λ(m:Nat)=>xs[((i:Int)+(m:Int)*1).toNat]?).toArray=((xs.toList.drop i).take k).toArray:=by
 have e:(λ(m:Nat)=>xs[((i:Int)+(m)*1).toNat]?)=λm=>xs[i+m]?:=by
  grind
 rw[e];have:=pick_run xs i k;have E:((λx=>xs[x]?)∘λx=>i+x)=λm=>xs[i+m]?:=rfl;simp_all
theorem getItem_tuple_cut{t l:C'}{i:RW Pm}{v u:Pm}{lo H:M' Int}{Q:Pm->PF->Prop}(b:PyProof.Rows.IsTup s.heap t i)(e:s.heap.IsSliceOf l v u .none)(P:ZF v lo)(f:ZF u H)
  (g:¬(sIx i.size 0 lo=0/\sIx i.size i.size H=i.size))
  (h:Q (.ref s.heap.objs.size) {s with heap:=s.heap.push {cls:=.type "tuple",data:=.seq ((i.toList.drop<|sIx i.size 0 lo).take<|sIx i.size i.size H-sIx i.size 0 lo).toArray}})
  (z:i.size<=sizeLine):wpAny (Qj p w) A (WE (.ref t)<|.ref l) Q E s:=by
 have a:sizeOk (.seq ((i.toList.drop<|sIx i.size 0 lo).take<|sIx i.size i.size H-sIx i.size 0 lo).toArray):=by
  show((i.toList.drop<|sIx _ 0 lo).take<|sIx _ _ H-sIx _ 0 lo).toArray.size<=sizeLine
  rw[P2,P9,Q8,Qi];exact QF (V5 _ _) (QF (ky _ _) z)
 obtain⟨os,c,j,Z⟩:=id e;have d:s.TypeIs (.ref l) _:=⟨os,c,j⟩;unfold WE
 try with_reducible refine Rz ?_
 refine Pp<|Z3 b.typeIs (by rfl) ?_;refine Pp (XE b.typeIs SC
  (VZ SC b.typeIs Zg ?_<|ZI _ _))
 show wpAny _ _ (WX _ >>=_) _ _ s
 refine Pp<|Xt b<|Pp<|WD d<|Pp<|sliceApplied_gen e P f ?_;have W:¬((((sIx i.size 0 lo):Int) == 0&&(1:Int) == 1&&(sIx i.size i.size H-sIx i.size 0 lo) == i.size)=Pn):=by
  simp_all
 show wpAny _ _ (if(((sIx _ 0 lo):Int) == 0&&(1) == 1&&(sIx _ _ H-sIx _ 0 lo) == i.size)=Pn then _ else _) _ _ s
 rw[PM W,B1]
 first
  |exact Pp<|R5 (PY ⟨_,rfl,PY h⟩) a
  |exact Pp<|R5 _ a
  |exact Pp<|Pp<|R5 _ a
  |exact Pp<|Pp<|R5 _ a
end HT
namespace L2
open PySem PySem.Spec PyProof.Rows
abbrev TO:=St->Hp->(M' Int->Hp->Prop)->Prop
def PO(X:Cx)(e:M' QS)(t:TO):Prop:=
 ∀(P:ab (C'×Obj)) (s:PF) (a:St) (H:Hp) (Q:M' Int->Hp->Prop),Inv X P a H s->t a H Q->
  wpAny (Qj X.prog X.w) X.A (evalPart e X.env) (λu b=>∃o h,Inv X P a h b/\ZF u o/\Q o h) X.xe s
def F_:TO:=λ_ H Q=>Q Pt H
def Mr(t:TE):TO:=λa H Q=>t a H λx h=>∃i,x=.int i/\Q (gV i) h
theorem ou:∀{u:ab Pm},Vals (N.map V.int) u->TR u N:=by
 induction N with
 |nil=>intro u r;cases r;exact .nil
 |cons n N i=>
  intro u r;cases r with
  |cons a b=>
   obtain⟨t,e⟩:=a;subst e;exact .cons n t<|i b
theorem eM:PO X Pt F_:=by
 intro O s a H Q I h;exact PY ⟨Pt,H,I,.none,h⟩
theorem Ga(h:PE X e T):PO X (gV e) (Mr T):=by
 intro O s a H Q I w;refine bC (h O s a H _ I w) λu f z=>?_;obtain⟨x,b,c,r,d⟩:=z;obtain⟨i,rfl,q⟩:=d;obtain⟨t,rfl⟩:=r;exact⟨gV i,b,c,.int i t,q⟩
def NX(X:Cx)(r:V->M' Int->M' Int->Hp->VK->Prop):Prop:=
 ∀(P:ab (C'×Obj)) (s:PF) (a:St) (H:Hp) (x:V) (v l u:Pm) (lo h:M' Int) (b:C') (Q:VK),Inv X P a H s->RelV x v->s.heap.IsSliceOf b l u .none->ZF l lo->ZF u h->r x lo h H Q->
  ∃T id,x9 (.type T) "__getitem__"=pure (gV<|.builtin id)/\s.TypeIs v T/\wpAny (Qj X.prog X.w) X.A (WE v<|.ref b) (EP X P a Q) X.xe s
def Ph(r:V->M' Int->M' Int->Hp->VK->Prop)(t:TE)(T h:TO):TE:=λa H Q=>t a H λx b=>T a b λl c=>h a c λu d=>r x l u d Q
theorem du{X:Cx}{e:QS}{t:TE}{lo:M' QS}{i:M' QS}{g:TO}{j:TO}{p:Pos}{P:Pos}(m:NX X r)(n:PE X e t)(o:PO X lo g)(w:PO X i j):PE X (.Subscript e (.Slice lo i Pt P) p) (Ph r t g j):=by
 intro O s c H Q I h;refine CN<|bC (n O s c H _ I h) λv y V=>?_;obtain⟨x,z,A,B,C⟩:=V;refine wpAny_Slice<|bC (o O y c z _ A C) λd D S=>?_;obtain⟨l,E,F,G,J⟩:=S;refine bC (w O D c E _ F J) λf a R=>?_;obtain⟨u,k,L,M,N⟩:=R;refine PY ?_;have U:Inv X O c k {a with heap:=a.heap.push {cls:=.type "slice",data:=.fields #[d,f,.none]}}:=L.kept λb Z q=>PH _ q;obtain⟨T,id,hT,W,Y⟩:=m O _ c k x v d f l u _ Q U B (aeF ..) G M N;exact tail_any W hT Y (by with_unfolding_all rfl)
noncomputable def dE(xs:ab V)(lo h:M' Int):ab V:=(xs.drop<|HT.sIx xs.length 0 lo).take<|HT.sIx xs.length xs.length h-HT.sIx xs.length 0 lo
theorem mM(xs:ab V)(lo h:M' Int):(dE xs lo h).length<=xs.length:=by
 unfold dE;rw[P9,Q8];exact QF (V5 _ _) (ky _ _)
def Os(K:J'):V->M' Int->M' Int->Hp->VK->Prop:=λx lo h H Q=>∃a X,x=.ref a/\SqT K H a X/\
 ¬(HT.sIx X.length 0 lo=0/\HT.sIx X.length X.length h=X.length)/\∀p,H p=Pt->Q (.ref p) (upd H p<|.tup<|dE X lo h)
theorem Kc:NX X (Os X.K):=by
 intro O s j H x v k u lo i m Q I d e p P h;obtain⟨a,c,rfl,f,w,q⟩:=h;cases d;obtain⟨g,r,t,z⟩:=I.tuple f;have l:g.toArray.size=c.length:=r.length.symm
 exists "tuple",_,PyProof.Rows.slot_tuple_getitem.lookup,t.typeIs;refine HT.getItem_tuple_cut t e p P (by rwa[l]) ?_ (by rwa[l]);rw[l];refine⟨.ref _,_,I.laid (λb o q=>PH _ q) (Po _) ?_,rfl,q _<|I.hok.fresh<|Po _⟩;exact⟨QF (mM c lo i) z,_,(r.drop<|HT.sIx _ 0 lo).take<|HT.sIx _ _ i-HT.sIx _ 0 lo,OK _ _⟩
noncomputable def Iw(n:Nat)(i:Int):M' Nat:=if 0<=i then(if i<n then gV i.toNat else Pt)else if -(n:Int)<=i then gV (i+n).toNat else Pt
noncomputable def kn{a:Type}(xs:ab a)(i:Int):M' a:=(Iw xs.length i).bind λj=>xs[j]?
theorem Gb(h:Iw n i=gV j):PySem.seqIndex? i n=gV j/\j<n/\ -(n:Int)<=i/\i<n:=by
 unfold Iw at h;by_cases a:0<=i
 ·rw[PP a]at h;by_cases H:i<n
  ·rw[PP H]at h;have e:=PZ h;exact⟨by rw[seqIndex_of a H,e],by lia,by lia,H⟩
  simp_all
 rw[PM a]at h;by_cases H:-(n)<=i
 ·rw[PP H]at h;have e:=PZ h;exact⟨by rw[seqIndex_neg (XT a) H,e],by lia,H,by lia⟩
 simp_all
theorem rN{a:Type}{xs:ab a}{i:Int}{v:a}(h:kn xs i=gV v):∃j,PySem.seqIndex? i xs.length=gV j/\xs[j]?=gV v/\j<xs.length/\ -(xs.length:Int)<=i/\i<xs.length:=by
 unfold kn at h;cases e:Iw xs.length i with
 |none=>simp_all
 |some j=>
  rw[e]at h;obtain⟨H,b,c,d⟩:=Gb e;exact⟨j,H,h,b,c,d⟩
theorem aE{a:Type}{xs:ab a}{j:Nat}{v:a}(h:xs[j]?=gV v):kn xs (j:Int)=gV v:=by
 have H:=(N'.mp h).1;have e:Iw xs.length (j)=gV j:=by
  unfold Iw;simp_all
 unfold kn;rwa[e]
def rO(b:QS):Prop:=∀o i,YG b Pr o i=operate [o,i] (WE o i)
def IxR(X:Cx)(r:R2):Prop:=
 ∀(e A:QS) (P:ab (C'×Obj)) (s:PF) (a:St) (H:Hp) (x y:V) (v u:Pm) (Q:VK),Inv X P a H s->RelV x v->RelV y u->r x y H Q->
  YG A Pr v u=operate [v,u] (WE v u)->wpAny (Qj X.prog X.w) X.A (Zm e A v u) (EP X P a Q) X.xe s
def NZ(X:Cx)(id:TL)(r:V->ab V->Hp->VK->Prop):Prop:=
 ∀(P:ab (C'×Obj)) (s:PF) (a:St) (H:Hp) (x:V) (b:ab V) (v:Pm) (u:ab Pm) (Q:VK),Inv X P a H s->RelV x v->Vals b u->r x b H Q->
  wpAny (Qj X.prog X.w) X.A (call (.builtin id)<|v::u) (EP X P a Q) X.xe s
section
variable {X:Cx}
theorem IxR.or(h:IxR X r)(h':IxR X f):IxR X (λx y H Q=>r x y H Q\/f x y H Q):=by
 intro e W O s a H x y v u Q I b c q d;obtain q|q:=q
 ·exact h e W O s a H x y v u Q I b c q d
 exact h' e W O s a H x y v u Q I b c q d
theorem Ix(c:IxR X r)(d:PE X a t)(e:PE X b T)(f:rO b):PE X (.Subscript a b p) (FW r t T):=by
 intro O s g H Q I h;exact CN<|J3 d e I h λv u i x y j k l m q=>c a b O i g j x y v u Q k l m q<|f _ _
inductive Ms (K:J')(x y:V)(H:Hp)(Q:VK):Prop
 |mk (p:C')(xs:ab V)(i:Int)(v:V)(hx:x=.ref p)(a:y=.int i)(h:SqL K H p xs)(e:kn xs i=gV v)(q:Q v H)
inductive Mt (K:J')(x y:V)(H:Hp)(Q:VK):Prop
 |mk (p:C')(xs:ab V)(i:Int)(v:V)(hx:x=.ref p)(a:y=.int i)(h:SqT K H p xs)(e:kn xs i=gV v)(q:Q v H)
inductive Mu (x y:V)(H:Hp)(Q:VK):Prop
 |mk (z:Str)(i:Int)(c:Nat)(hx:x=.str z)(a:y=.int i)(h:z.length<=sizeLine)(e:kn z.cps.toList i=gV c)(q:Q (.str ⟨#[c]⟩) H)
def Mw(K:J'):R2:=λx y H Q=>Ms K x y H Q
def Mx(K:J'):R2:=λx y H Q=>Mt K x y H Q
def My:R2:=λx y H Q=>Mu x y H Q
theorem kf:IxR X (Mw X.K):=by
 intro e W O s d H x y v u Q I l m h f;obtain⟨p,J,i,z,rfl,rfl,n,o,q⟩:=h;cases l;obtain⟨t,rfl⟩:=m;obtain⟨A,r,P,L⟩:=I.list n;obtain⟨j,a,B,M,C,D⟩:=rN o;obtain⟨w,E,b⟩:=r.get B;have F:=r.length;have N:=lN;have g:EP X O d Q w s:=⟨z,H,I,b,q⟩;by_cases k:0<=i
 ·have c:i.toNat=j:=by
   rw[seqIndex_of k D]at a;exact PZ a
  exact item_listR P.isList k (by lia) (by rw[c];simpa using E) g f
 have c:(i+(A.toArray.size)).toNat=j:=by
  rw[seqIndex_neg (XT k) C]at a;rw[P2,<-F];exact PZ a
 exact X6 P.isList.typeIs slot_list_getitem.lookup
  (wpAny_getItem_list_neg P.isList (XT k) (by simp_all) (by lia) (by rw[c];simpa using E) ⟨rfl,g⟩) f
theorem kz:IxR X (Mx X.K):=by
 intro e W O s b H x y v u Q I c d h f;obtain⟨p,B,i,z,rfl,rfl,g,k,q⟩:=h;cases c;obtain⟨t,rfl⟩:=d;obtain⟨C,r,P,D⟩:=I.tuple g;obtain⟨j,l,m,F,G,J⟩:=rN k;obtain⟨w,E,a⟩:=r.get m;have n:=r.length;have L:=lN;have o:EP X O b Q w s:=⟨z,H,I,a,q⟩;exact X6 P.typeIs slot_tuple_getitem.lookup
  (getItem_tuple (j:=j) P (by lia) (by lia) (by simp_all) (by simpa using E) ⟨rfl,o⟩) f
theorem Kd:IxR X My:=by
 intro e W O s o H x y v u Q I r b h d;obtain⟨z,i,c,rfl,rfl,p,f,q⟩:=h;obtain⟨t,rfl⟩:=r;obtain⟨T,rfl⟩:=b;obtain⟨j,a,g,w,k,l⟩:=rN f;have m:z.cps.toList.length=z.length:=by rfl
 rw[m]at a k l;have A:=lN;exact tail_any (typeIs_str s z t) slot_str_getitem.lookup (getItem_str (by
  lia) (by rw[a];simpa using g) ⟨.str _,H,I.tok _,⟨_,rfl⟩,q⟩) d
def Iy(K:J'):R2:=λx y H Q=>Mw K x y H Q\/Mx K x y H Q\/My x y H Q
theorem B2:IxR X (Iy X.K):=kf.or<|kz.or Kd
theorem lC{i:Int}{n:Nat}(h:i<0):max 0 (min (i+n) n)=((i+n).toNat:Int):=by
 rw[Int.min_eq_left (by lia),Int.ofNat_toNat,Int.max_comm]
theorem lB{i:Int}{n:Nat}(h:¬i<0):max 0 (min i n)=((min i.toNat n:Nat):Int):=by
 rw[Lean.Omega.Int.ofNat_min,Int.ofNat_toNat,Int.max_eq_left (Int.not_lt.1 h),Int.max_eq_right (Int.le_min.2 ⟨Int.not_lt.1 h,W5 n⟩)]
theorem rP(lo H:M' Int)(n:Nat):(Vl lo H Pt n).1=((HT.sIx n 0 lo:Nat):Int)/\(Vl lo H Pt n).2.1=((HT.sIx n n H:Nat):Int)/\(Vl lo H Pt n).2.2=1:=by
 refine⟨?_,?_,rfl⟩
 ·cases lo with
  |none=>rfl
  |some i=>
   simp only[Vl,HT.sIx,aaK,show(1:Int)>0 by decide,WB];by_cases h:i<0
   ·simp only[h,WB];exact lC h
   simp only[h,U0];exact lB h
 cases H with
 |none=>rfl
 |some i=>
  simp only[Vl,HT.sIx,aaK,show(1:Int)>0 by decide,WB];by_cases h:i<0
  ·simp only[h,WB];exact lC h
  simp only[h,U0];exact lB h
theorem qj(P:ab Pm)(lo h:M' Int):slicePick P.toArray lo h Pt=((P.drop<|HT.sIx P.length 0 lo).take<|HT.sIx P.length P.length h-HT.sIx P.length 0 lo).toArray:=by
 obtain⟨H,a,b⟩:=rP lo h _;unfold slicePick;rw[H,a,b];simp only[sliceRange_one,pick_run]<;>rfl
def Ot(K:J'):V->M' Int->M' Int->Hp->VK->Prop:=λx lo h H Q=>∃a s,x=.ref a/\SqL K H a s/\∀p,H p=Pt->Q (.ref p) (upd H p<|.lst<|dE s lo h)
theorem fw:NX X (Ot X.K):=by
 intro O s g H x v j u lo i k Q I d e p P h;obtain⟨a,c,rfl,f,q⟩:=h;cases d;obtain⟨m,r,t,z⟩:=I.list f;have l:=r.length;exists "list",_,slot_list_getitem.lookup,t.isList.typeIs;refine wpAny_getItem_list_slice t.isList e p P .none (by simp) ?_ (by simp_all);rw[qj,<-l];refine⟨.ref _,_,I.laid (λb o q=>PH _ q) (Po _) ?_,rfl,q _<|I.hok.fresh<|Po _⟩;exact⟨QF (mM c lo i) z,_,0,(r.drop<|HT.sIx _ 0 lo).take<|HT.sIx _ _ i-HT.sIx _ 0 lo,Qh _ rfl⟩
noncomputable def jA:V->Px
 |.non=>Pn
 |.bl _=>Pn
 |.int _=>Pn
 |.str _=>Pn
 |_=>Pr
noncomputable def Iz:V->V->Px
 |.non,.non=>Pn
 |.bl a,.bl b=>a == b
 |.bl a,.int b=>(if a then 1 else 0) == b
 |.int a,.bl b=>a == (if b then 1 else 0)
 |.int a,.int b=>a == b
 |.str a,.str b=>a == b
 |_,_=>Pr
theorem Ke(c:RelV y u)(r:RelV x v)(F:jA y=Pn)(f:jA x=Pn):Rk A s u v (Iz y x):=by
 cases y with
 |non=>
  cases c;cases x with
  |non=>cases r;exact afv _
  |bl b=>cases r;exact adS b
  |int b=>obtain⟨t,rfl⟩:=r;exact aea b t
  |str b=>obtain⟨t,rfl⟩:=r;exact ad' b t
  |_=>exact absurd ‹_› Pk
 |bl a=>
  cases c;cases x with
  |non=>cases r;exact adT a
  |bl b=>cases r;exact adU a b
  |int b=>obtain⟨t,rfl⟩:=r;exact aee a b t
  |str b=>obtain⟨t,rfl⟩:=r;exact aed a b t
  |_=>exact absurd ‹_› Pk
 |int a=>
  obtain⟨T,rfl⟩:=c;cases x with
  |non=>cases r;exact aeb a T
  |bl b=>cases r;exact aec a T b
  |int b=>obtain⟨t,rfl⟩:=r;exact aeD a T b t
  |str b=>obtain⟨t,rfl⟩:=r;exact ZE a T b t
  |_=>exact absurd ‹_› Pk
 |str a=>
  obtain⟨T,rfl⟩:=c;cases x with
  |non=>cases r;exact ad9 a T
  |bl b=>cases r;exact ad_ a T b
  |int b=>obtain⟨t,rfl⟩:=r;exact ZD a T b t
  |str b=>obtain⟨t,rfl⟩:=r;exact aeC a T b t
  |_=>exact absurd ‹_› Pk
 |_=>exact absurd ‹_› Pk
noncomputable def wf(x:V)(u:Pm):Px:=match u with
 |.none=>Iz .non x
 |.bool b=>Iz (.bl b) x
 |.int i _=>Iz (.int i) x
 |.str z _=>Iz (.str z) x
 |_=>Pr
theorem B3(r:RelV y u)(f:jA y=Pn):wf x u=Iz y x:=by
 cases y with
 |non=>cases r;rfl
 |bl b=>cases r;rfl
 |int i=>obtain⟨t,rfl⟩:=r;rfl
 |str z=>obtain⟨t,rfl⟩:=r;rfl
 |_=>exact absurd ‹_› Pk
theorem kq:∀{xs:ab V} {u:ab Pm},Vals xs u->xs.all jA=Pn->u.any (wf x)=xs.any λy=>Iz y x:=by
 intro xs u h f;induction h with
 |nil=>rfl
 |cons r t i=>rw[Up,Qs]at f;rw[R0,R0,B3 r f.1,i f.2]
theorem iI(b:RelV x v)(F:jA x=Pn):∀{xs:ab V} {U:ab Pm},Vals xs U->xs.all jA=Pn->∀u∈U,Rk A s u v<|wf x u:=by
 intro xs U h f;induction h with
 |nil=>intro u h;cases h
 |cons r t i=>
  intro c h;rw[Up,Qs]at f;obtain rfl|h:=P_.mp h
  ·rw[B3 r f.1];exact Ke r b f.1 F
  exact i f.2 c h
noncomputable def g_(x:V)(xs:ab V):Px:=xs.any λy=>Iz y x
inductive O7 (K:J')(n:Px)(x y:V)(H:Hp)(Q:VK):Prop
 |mk (p:C')(xs:ab V)(a:y=.ref p)(h:SqL K H p xs\/SqT K H p xs)(f:jA x=Pn)(fs:xs.all jA=Pn)(q:Q (.bl (if n then !g_ x xs else g_ x xs)) H)
def N0(K:J')(n:Px):R2:=λx y H Q=>O7 K n x y H Q
theorem lQ:OpR X (Rf .In) (N0 X.K Pr):=by
 intro O s e H x y v u Q I c d h;obtain⟨p,g,rfl,a,F,f,q⟩:=h;cases d;obtain a|a:=a
 ·obtain⟨P,r,l,z⟩:=I.list a;refine SeqAt.in_listAt _ l.isList (λw b=>iI c F r f w<|by simp_all) ⟨.bl _,H,I,rfl,?_⟩;rwa[show P.toArray.any _=P.any (wf x) by simp,kq r f]
 obtain⟨P,r,l,z⟩:=I.tuple a;refine SeqAt.in_tupleAt _ l (λw b=>iI c F r f w<|by simp_all) ⟨.bl _,H,I,rfl,?_⟩;rwa[show P.toArray.any _=P.any (wf x) by simp,kq r f]
theorem hV:OpR X (Rf .NotIn) (N0 X.K Pn):=by
 intro O s e H x y v u Q I c d h;obtain⟨p,g,rfl,a,F,f,q⟩:=h;cases d;obtain a|a:=a
 ·obtain⟨P,r,l,z⟩:=I.list a;refine SeqAt.notIn_listAt _ l.isList (λw b=>iI c F r f w<|by simp_all) ⟨.bl _,H,I,rfl,?_⟩;rwa[show P.toArray.any _=P.any (wf x) by simp,kq r f]
 obtain⟨P,r,l,z⟩:=I.tuple a;refine SeqAt.notIn_tupleAt _ l (λw b=>iI c F r f w<|by simp_all) ⟨.bl _,H,I,rfl,?_⟩;rwa[show P.toArray.any _=P.any (wf x) by simp,kq r f]
theorem kr:eZ X (.type "list") (λx H Q=>∃p y,x=[.ref p]/\(SqL X.K H p y\/SqT X.K H p y)/\∀l,H l=Pt->Q (.ref l) (upd H l<|.lst y)):=by
 intro v s w H x U Q I r h;obtain⟨p,y,rfl,f,q⟩:=h;obtain⟨u,rfl,A⟩:=e_ r;cases A;have t:∀P,Vals y P->y.length<=sizeLine->∀a c,(∀b O,s.heap.get? b=gV O->a.get? b=gV O)->
   a.get? s.heap.objs.size=gV _->EP X v w Q _ {s with heap:=a}:=λP d z a c k e=>
  ⟨.ref _,_,I.laid k (Po _) (show ObjOk _ X.w _ a _ (.lst y)from⟨z,P,c,d,e⟩),rfl,q _<|I.hok.fresh<|Po _⟩
 obtain f|f:=f
 ·obtain⟨P,d,g,z⟩:=I.list f;have B:=d.length;obtain⟨o,i,j,n,m⟩:=g.isList;exact Wb p (.inl rfl) i j m (λa c k e=>t P d z a c k e) (by simp_all)
 obtain⟨P,d,g,z⟩:=I.tuple f;have B:=d.length;obtain⟨o,i,j,n,m⟩:=g;exact Wb p (.inr rfl) i j m (λa c k e=>t P d z a c k e) (by simp_all)
theorem bP:eZ X (.type "tuple") (λx H Q=>∃p y,x=[.ref p]/\((SqL X.K H p y/\∀l,H l=Pt->Q (.ref l) (upd H l<|.tup y))\/(SqT X.K H p y/\Q (.ref p) H))):=by
 intro O s g H x U Q I r h;obtain⟨p,y,rfl,h⟩:=h;obtain⟨u,rfl,j⟩:=e_ r;cases j;obtain⟨c,q⟩|⟨c,q⟩:=h
 ·obtain⟨P,d,f,z⟩:=I.list c;have n:=d.length;refine call_tuple_list f.isList (λa k=>?_) (by simp_all);have i:Inv X O g H {s with heap:=a}:=I.kept k;have m:Inv X O g (upd H _<|.tup y) {s with heap:=a.push _}:=
   i.laid (λb o e=>PH _ e) (Po _) (⟨z,P,d,OK _ _⟩)
  exact⟨.ref _,_,m,rfl,q _<|i.hok.fresh<|Po _⟩
 obtain⟨P,d,f,z⟩:=I.tuple c;exact call_tuple_same f ⟨.ref p,H,I,rfl,q⟩
def Ou(K:J')(T:TL)(x:V)(H:Hp):Prop:=match x with
 |.str _=>T="str"
 |.int _=>T="int"
 |.ref p=>(T="list"/\∃s,SqL K H p s)\/(T="tuple"/\∃o,K.lookup p=gV o/\o.cls=.type "tuple"/\o.dict=Pt)\/
   (T="dict"/\((∃k,H p=gV (.dK k))\/∃k,H p=gV (.dT k)))\/(T="set"/\∃S n,H p=gV (.set S n))
 |_=>False
theorem B4(I:Inv X g j H s)(r:RelV x v)(y:Ou X.K T x H):
  s.TypeIs v T/\∀a,v=.ref a->∃O,s.heap.get? a=gV O/\O.dict=none:=by
 cases x with
 |str z=>
  obtain⟨t,rfl⟩:=r;cases(y);exact⟨typeIs_str s z t,λw e=>nomatch e⟩
 |int i=>
  obtain⟨t,rfl⟩:=r;cases(y);exact⟨typeIs_int s i t,λw e=>nomatch e⟩
 |ref p=>
  cases r;obtain⟨rfl,l,q⟩|⟨rfl,o,h,f,d⟩|⟨rfl,h⟩|⟨rfl,S,n,h⟩:=y
  ·obtain⟨m,w,P,w⟩:=I.list q;refine⟨P.isList.typeIs,λa e=>?_⟩;cases e;obtain⟨o,n,e,c,d,w⟩:=P;exact⟨o,e,d⟩
  ·refine⟨⟨o,I.kIn p o h,f⟩,λa e=>?_⟩;cases e;exact⟨o,I.kIn _ o h,d⟩
  ·have z:∃o,s.heap.get? p=gV o/\o.ExactDict:=by
    obtain⟨k,h⟩|⟨k,h⟩:=h
    ·obtain⟨w,w,w,w,o,w,w,e,E,w⟩:=I.hok p _ h;exact⟨o,e,E⟩
    obtain⟨w,w,w,w,o,w,w,e,E,w⟩:=I.hok p _ h;exact⟨o,e,E⟩
   obtain⟨o,e,E⟩:=z;refine⟨⟨o,e,E.1⟩,λa b=>?_⟩;cases b;exact⟨o,e,E.2.1⟩
  ·obtain⟨o,w,w,w,e,E,w⟩:=I.hok p _ h;refine⟨⟨o,e,E.1⟩,λa b=>?_⟩;cases b;exact⟨o,e,E.2.1⟩
 |_=>exact Rt y
def Ov(K:J')(T:TL)(r:V->ab V->Hp->VK->Prop)(t:TE):TE:=λa H Q=>t a H λx h=>Ou K T x h/\r x [] h Q
def Pi(K:J')(T:TL)(r:V->ab V->Hp->VK->Prop)(o:TE)(t:TA):TE:=λa H Q=>o a H λx h=>Ou K T x h/\t a h λs b=>r x s b Q
variable {o:QS}{to:TE}{name:Str}{VX XD:Pos}{T id:TL}{r:V->ab V->Hp->VK->Prop}
theorem Kf(p:PlainAttrs T)(t:Slot T name id)(y:typeOf (.builtin id)=pure (.type "method_descriptor"))(m:NZ X id r)(d:PE X o to)
  (a:U3 o name X.env (RU o X.env)=RU o X.env:=by rfl) (e:(VX.endLine == XD.line)=true:=by rfl):PE X (.Call (.Attribute o name VX) [] [] XD) (Ov X.K T r to):=by
 intro O s b H Q I h;refine wpAny_Call_method0_late a e<|bC (d O s b H _ I h) λv f ⟨x,g,i,c,j,q⟩=>?_;obtain⟨k,l⟩:=B4 i c j;exact⟨T,id,p,t,y,k,l,Ud rfl<|PySem.evalArgs_none<|m O f b g x [] v [] Q i c .nil q⟩
theorem fJ{e:QS}{E:ab QS}{t:TA}(p:PlainAttrs T)(a:Slot T name id)(y:typeOf (.builtin id)=pure (.type "method_descriptor"))(m:NZ X id r)(g:PE X o to)(j:PA X (e::E) t)
  (A:U3 o name X.env (RU o X.env)=RU o X.env:=by rfl)
  (L:((SW XD<|Qk (e::E) X.env).all (λx=>!x.1)&&(YJ XD<|Wd [] X.env).all (λx=>x.1.isSome)
   &&decide ((e::E).length+([]:ab rb).length+(if([]:ab rb).isEmpty then 0 else 1)<30))=true:=by rfl)
  (k:(VX.endLine == XD.line)=true:=by rfl) (l:Qk (e::E) X.env=(Pr,RU e X.env)::Qk E X.env:=by rfl) (b:(SW XD<|Qk E X.env).any (·.1)=false:=by rfl):
  PE X (.Call (.Attribute o name VX) (e::E) [] XD) (Pi X.K T r to t):=by
 intro O s c H Q I h;refine wpAny_Call_method_late A L k rfl<|bC (g O s c H _ I h) λv n ⟨x,q,i,d,u,w⟩=>?_;obtain⟨z,B⟩:=B4 i d u;exists T,id,p,a,y,z,B;have f:=j XD O n c q _ i w;rw[l]at f ⊢;exact Ud (by assumption)<|UG<|bC f (by rintro U C ⟨D,F,G,J,M⟩;exact m O C c F x D v U Q G d J M)
end
def Mz(X:Cx)(id:TL)(r:V->ab V->Hp->VK->Prop):Prop:=
 ∀(P:ab (C'×Obj)) (s:PF) (a:St) (H:Hp) (x:V) (b:ab V) (v:Pm) (u:ab Pm) (Q:VK),Inv X P a H s->RelV x v->Vals b u->r x b H Q->
  wpAny (Qj X.prog X.w) X.A (call (.builtin id)<|v::u) (EP X P a Q) X.xe s
theorem Vals.one:∀{x:V} {U:ab Pm},Vals [x] U->∃u,U=[u]/\RelV x u:=by
 rintro x U(z|⟨r,z|z⟩);exact⟨_,rfl,r⟩
theorem Vals.two:∀{x y:V} {U:ab Pm},Vals [x,y] U->∃u v,U=[u,v]/\RelV x u/\RelV y v:=by
 rintro x y U(z|⟨r,z|⟨q,z|z⟩⟩);exact⟨_,_,rfl,r,q⟩
theorem Vals.zero:∀{u:ab Pm},Vals [] u->u=[]
 |_,.nil=>rfl
theorem Vals.dropLast(h:Vals xs u):Vals xs.dropLast u.dropLast:=by
 induction h with
 |nil=>exact .nil
 |cons r t i=>
  cases t with
  |nil=>exact .nil
  |cons q T=>exact .cons r i
theorem wg{c:Type}(l:ab c):l.eraseIdx (l.length-1)=l.dropLast:=by
 simp
theorem Inv.lset{P i:ab Pm}{n:Nat}{f:RW Pm->RW Pm}{t':Nat}(I:Inv X O a H s)(h:H l=gV (.lst xs))
  (e:s.heap.get? l=gV {cls:=.type "list",data:=.seq P.toArray n}) (b:f P.toArray=i.toArray) (v:Vals y i) (z:y.length<=sizeLine):
  Inv X O a (upd H l<|.lst y) {s with heap:=s.heap.update l<|R3 f,toks:=t'}:=by
 have q:=afh e f;rw[b]at q;exact I.write (by rw[h];exact trivial) (.inl rfl) (λB u c d=>(Qp _ _<|Q1 c).trans d) ⟨_,q⟩<|⟨z,i,_,v,q⟩
theorem Inv.lnew{t':Nat}(I:Inv X O a H s)(h:Vals y P)(z:y.length<=sizeLine):
  Inv X O a (upd H s.heap.objs.size<|.lst y) {s with heap:=s.heap.push {cls:=.type "list",data:=.seq P.toArray},toks:=t'}:=
 I.laid (λx x q=>PH _ q) (Po _) ⟨z,P,0,h,Qh _ rfl⟩
theorem Inv.fresh(I:Inv X O a H s):H s.heap.objs.size=none:=I.hok.fresh<|Po _
theorem Inv.lstM(I:Inv X O a H s)(h:H l=gV (.lst xs)):xs.length<=sizeLine/\∃P n,Vals xs P/\xs.length=P.length/\s.heap.get? l=gV {cls:=.type "list",data:=.seq P.toArray n}:=by
 obtain⟨z,P,n,r,e⟩:=I.hok l _ h;exact⟨z,P,n,r,r.length,e⟩
theorem B5(h:n<=sizeLine):U5 n=false:=by
 unfold U5;simp_all
inductive MA (x:V)(vs:ab V)(H:Hp)(Q:VK):Prop
 |mk (l:C')(xs:ab V)(y:V)(hx:x=.ref l)(v:vs=[y])(h:H l=gV (.lst xs))(z:xs.length<sizeLine)(q:Q .non (upd H l<|.lst<|xs++[y]))
def Gc:V->ab V->Hp->VK->Prop:=λx v H Q=>MA x v H Q
theorem cK:Mz X "list.append" Gc:=by
 intro O s f H x g v U Q I b c h;obtain⟨l,i,y,rfl,rfl,a,j,q⟩:=h;cases b;obtain⟨u,rfl,d⟩:=c.one;obtain⟨z,P3,n,r,k,e⟩:=I.lstM a;refine V1 Ra ⟨_,e,rfl⟩ F.entry_list_append (F.args_list_append_2 _ _) (PySem.list_append l _ n u<|by simp_all) ⟨e,⟨.non,_,I.lset (i:=P3++[u]) a e (by simp) (r.append<|‹_›) ?_,rfl,q⟩⟩;rw[Pl,Qg];lia
def Gd:V->ab V->Hp->VK->Prop:=λx v H Q=>∃l b X z,x=.ref l/\v=[.ref b]/\H l=gV (.lst X)/\H b=gV (.lst z)/\X.length+z.length<=sizeLine/\Q .non (upd H l<|.lst<|X++z)
theorem z_:Mz X "list.extend" Gd:=by
 intro O s k H x m v U Q I f g h;obtain⟨l,b,o,Z,rfl,rfl,d,B,p,q⟩:=h;cases f;obtain⟨u,rfl,i⟩:=g.one;cases i;obtain⟨z,P3,n,r,t,e⟩:=I.lstM d;obtain⟨w,a,N,j,y,E⟩:=I.lstM B;have c:P3.toArray.size+a.toArray.size<=sizeLine:=by simp_all
 have A:¬(!P3.toArray.isEmpty&&U5 (P3.toArray.size+a.toArray.size))=true:=by
  rw[B5 c,Sb];exact Pk
 refine V1 Yv ⟨_,e,rfl⟩ F.entry_list_extend (F.args_list_extend_2 _ _)
  (AutoSeq1.list_extend_list_list_0 l _ n b _ N A (by simp_all)<|Nat.le_succ_of_le c) ⟨e,E,⟨.non,_,I.lset d e (by simp) (r.append j) ?_,rfl,q⟩⟩;simp_all
def Ow:V->ab V->Hp->VK->Prop:=λx v H Q=>∃l X y,x=.ref l/\v=[]/\H l=gV (.lst X)/\X[X.length-1]?=gV y/\Q y (upd H l<|.lst X.dropLast)
theorem Kg:Mz X "list.pop" Ow:=by
 intro O s m H x o v U Q I d f h;obtain⟨l,p,y,rfl,rfl,c,g,q⟩:=h;cases d;have a:=f.zero;subst a;obtain⟨z,P,n,r,i,e⟩:=I.lstM c;obtain⟨u,j,k⟩:=r.get g;have b:P.toArray[P.toArray.size-1]?=gV u:=by
  simp_all
 refine V1 ZG ⟨_,e,rfl⟩ PySem.F.entry_list_pop (F.args_list_pop_1 _) (MeetsSeq.list_pop_last l _ n u b<|by simp_all) ⟨e,⟨y,_,I.lset c e ?_ r.dropLast ?_,k,q⟩⟩
 ·simp
 grind
def Ox:R2:=λx y H Q=>∃l b X z,x=.ref l/\y=.ref b/\H l=gV (.lst X)/\H b=gV (.lst z)/\X.length+z.length<=sizeLine/\∀p,H p=Pt->Q (.ref p) (upd H p<|.lst<|X++z)
theorem fK:OpR X (U2 .Add) Ox:=by
 intro O s j H x y v u Q I c d h;obtain⟨l,b,k,Z,rfl,rfl,f,B,m,q⟩:=h;cases c;cases d;obtain⟨z,P,n,r,o,e⟩:=I.lstM f;obtain⟨p,a,N,g,W,E⟩:=I.lstM B;refine PySem.P.add_list e E ?_ (by simp_all);have i:P.toArray++a.toArray=(P++a).toArray:=by simp
 rw[i];exact⟨.ref _,_,I.lnew (r.append g) (by simp_all),rfl,q _ I.fresh⟩
section
variable {κ:Type}[Wj κ]
noncomputable def aY(s:ab (κ×V))(k:κ):M' V:=(s.find? λv=>decide (v.1=k)).map (·.2)
noncomputable def cE(s:ab (κ×V))(k:κ)(v:V):ab (κ×V):=
 if(s.any λa=>decide (a.1=k))=Pn then s.map (λa=>if a.1=k then(a.1,v)else a)else s++[(k,v)]
theorem ci{p:κ×V}{r:ab (κ×V)}{k:κ}(e:p.1=k):aY (p::r) k=gV p.2:=by simp[aY,e]
theorem bU{p:κ×V}{r:ab (κ×V)}{k:κ}(e:¬p.1=k):aY (p::r) k=aY r k:=by simp[aY,e]
theorem iJ(k:κ):∀s,(s.any λv=>decide (v.1=k))=(aY s k).isSome
 |[]=>rfl
 |p::r=>by
  rw[R0];by_cases e:p.1=k
  ·simp only[ci e,PB e,Sh,ZK]
  rw[bU e,Pu e];exact iJ k r
theorem ue(k j:κ)(y:V):∀s,aY (s.map λv=>if v.1=k then(v.1,y)else v) j=(aY s j).map λx=>if j=k then y else x
 |[]=>rfl
 |p::r=>by
  have i:=ue k j y r;rw[Qf];by_cases h:p.1=k
  ·rw[PP h];by_cases e:p.1=j
   ·rw[ci (p:=(p.1,y)) e,ci e,Uj,PP<|e.symm.trans h]
   rw[bU (p:=(p.1,y)) e,bU e,i]
  rw[PM h];by_cases e:p.1=j
  ·rw[ci e,ci e,Uj,PM λz=>h<|e.trans z]
  rw[bU e,bU e,i]
theorem qC(k j:κ)(y:V):∀s,aY s k=Pt->aY (s++[(k,y)]) j=if j=k then gV y else aY s j
 |[],_=>by
  by_cases e:k=j
  ·rw[PP e.symm];exact ci e
  ·rw[PM λz=>e z.symm];exact bU e
 |p::r,h=>by
  rw[List.cons_append];have H:¬p.1=k:=λz=>by rw[ci z]at h;cases h
  rw[bU H]at h;have i:=qC k j y r h;by_cases e:p.1=j
  ·rw[ci e,ci e,PM λz=>H<|e.trans z]
  rw[bU e,bU e,i]
theorem gL(s:ab (κ×V))(k j:κ)(y:V):aY (cE s k y) j=if j=k then gV y else aY s j:=by
 unfold cE;by_cases a:(s.any λv=>decide (v.1=k))=Pn
 ·rw[PP a,ue];rw[iJ]at a;by_cases e:j=k
  ·obtain⟨x,h⟩:=U8.mp a;rw[PP e,e,h,Uj,PP rfl]
  simp_all
 rw[PM a];refine qC k j y s ?_;rw[iJ]at a;simp_all
theorem dJ(s:ab (κ×V))(k:κ)(v:V):(cE s k v).length<=s.length+1:=by
 unfold cE
 split
 ·simp
 simp
theorem oy{s:ab (κ×V)}{k:κ}(v:V)(h:aY s k=Pt):cE s k v=s++[(k,v)]:=by
 unfold cE;rw[iJ,h];rfl
theorem RelO.isSome_eq(r:RelO o u):o.isSome=u.isSome:=by
 cases o with
 |none=>cases u with
  |none=>rfl
  |some _=>exact(r).elim
 |some _=>cases u with
  |none=>exact(r).elim
  |some _=>rfl
theorem RelO.getD(r:RelO o u)(a:RelV d d'):RelV (o.getD d) (u.getD d'):=by
 cases o with
 |none=>cases u with
  |none=>exact a
  |some _=>exact(r).elim
 |some _=>cases u with
  |none=>exact(r).elim
  |some _=>exact r
theorem KV.val(r:KV s v)(k:κ):RelO (aY s k) (Xc v k):=by
 induction r with
 |nil=>exact Sv
 |@cons p q P Q h t i=>
  obtain⟨H,a⟩:=h;by_cases e:p.1=k
  ·have E:=H.symm.trans e;have b:Xc (q::Q) k=gV q.2:=by simp[Xc,E]
   rwa[ci e,b]
  have E:¬q.1=k:=λz=>e<|H.trans z;have b:Xc (q::Q) k=Xc Q k:=by simp[Xc,E]
  rwa[bU e,b]
theorem KV.any(r:KV s a)(k:κ):(s.any λv=>decide (v.1=k))=a.any λv=>decide (v.1=k):=by
 induction r with
 |nil=>rfl
 |cons h t i=>simp_all
theorem KV.repl(r:KV s a)(k:κ)(b:RelV y u):
  KV (s.map λv=>if v.1=k then(v.1,y)else v) (a.map λv=>if v.1=k then(v.1,u)else v):=by
 induction r with
 |nil=>exact .nil
 |@cons p q P Q h t i=>
  rw[Qf,Qf];refine .cons ?_ i;obtain⟨H,c⟩:=h;by_cases e:p.1=k
  ·rw[PP e,PP<|H.symm.trans e];exact⟨H,b⟩
  rw[PM e,PM λz=>e<|H.trans z];exact⟨H,c⟩
theorem KV.put(r:KV s v)(k:κ)(a:RelV y u):KV (cE s k y) (stored v k u):=by
 unfold cE stored;rw[r.any k];by_cases e:(v.any λb=>decide (b.1=k))=Pn
 ·rw[PP e,PP e];exact r.repl k a
 rw[PM e,PM e];exact Paired.snoc r ⟨rfl,a⟩
theorem KV.keys{k:ab (κ×V)}{v:ab (κ×Pm)}(r:KV k v):k.map (·.1)=v.map (·.1):=by
 induction r with
 |nil=>rfl
 |cons h t i=>simp_all
theorem KV.length{k:ab (κ×V)}{v:ab (κ×Pm)}(r:KV k v):k.length=v.length:=Paired.length r
end
theorem jB(r:RelV (kV k) u):(aQ P w).is k u=true:=by
 cases k with
 |inl i=>obtain⟨t,e⟩:=(r);subst e;exact tY P w i t
 |inr x=>obtain⟨t,e⟩:=(r);subst e;exact tZ P w x t
theorem qD:∀{s:ab aJ} {u:ab Pm},Vals (s.map kV) u->ItemsAre (aQ P w) s u
 |[],_,r=>by cases r;exact .nil
 |k::s,_,r=>by
  cases r with
  |cons h t=>exact .cons (jB h)<|qD t
abbrev KT(H:Hp):ab (ab aJ×V)->ab (ab aJ×C'×Pm)->Prop:=Paired λp q=>p.1=q.1/\H q.2.1=gV (.tup<|p.1.map kV)/\RelV p.2 q.2.2
theorem KT.val(r:KT H s xs)(k:ab aJ):RelO (aY s k) ((Xd xs k).map (·.2)):=by
 induction r with
 |nil=>exact Sv
 |@cons p q P Q h t i=>
  obtain⟨a,y,c⟩:=h;by_cases e:p.1=k
  ·have E:=a.symm.trans e;have b:Xd (q::Q) k=gV q.2:=by simp[Xd,E]
   rwa[ci e,b]
  have E:¬q.1=k:=λz=>e<|a.trans z;have b:Xd (q::Q) k=Xd Q k:=by simp[Xd,E]
  rwa[bU e,b]
theorem KT.repl(r:KT H s xs)(k:ab aJ)(c:RelV y u):
  KT H (s.map λv=>if v.1=k then(v.1,y)else v) (xs.map<|putAt k u):=by
 induction r with
 |nil=>exact .nil
 |@cons p q P Q h t i=>
  rw[Qf];refine .cons ?_ i;obtain⟨a,b,d⟩:=h;unfold putAt;by_cases e:p.1=k
  ·rw[PP e,PP<|a.symm.trans e];exact⟨a,b,c⟩
  rw[PM e,PM λz=>e<|a.trans z];exact⟨a,b,d⟩
theorem KT.put(r:KT H s xs)(k:ab aJ)(h:H b=gV (.tup<|k.map kV))(a:RelV y u):
  KT H (cE s k y) (ry xs k b u):=by
 have e:(s.any λv=>decide (v.1=k))=(Xd xs k).isSome:=by
  rw[iJ,(r.val k).isSome_eq,Xk]
 unfold cE ry;rw[e];by_cases q:(Xd xs k).isSome=Pn
 ·rw[PP q,PP q];exact r.repl k a
 rw[PM q,PM q];exact Paired.snoc r ⟨rfl,h,a⟩
theorem KT.keeps(r:KT H k xs)(h:∀b y,H b=gV (.tup y)->a b=gV (.tup y)):KT a k xs:=
 Paired.mapP r λw w z=>⟨z.1,h _ _ z.2.1,z.2.2⟩
theorem IA(o:HOk P w H h)(e:Rd H a u):ObjOk P w H h a u:=e.ok o
theorem ku(o:HOk P w H h)(e:Rd H a (.dK k)):k.length<=sizeLine/\(a == Sn)=Pr/\∃v,KV k v/\h.DictOf (aQ P w) a v:=
 IA o e
theorem xZ(o:HOk P w H h)(e:H a=gV (.dK k)):k.length<=sizeLine/\(a == Sn)=Pr/\∃v,KV k v/\h.DictOf (aQ P w) a v:=ku o<|.inl e
theorem iK(O:HOk P w H h)(e:H a=gV (.tup<|k.map kV)):(V0<|aQ P w).is h k a:=by
 obtain⟨z,p,r,o,b,c,n,d⟩:=(O a _ e);exact⟨o,p.toArray,n,b,c,d,by simpa using qD r⟩
theorem kB(O:HOk P w H h)(e:Rd H a (.dT k)):k.length<=sizeLine/\(a == Sn)=Pr/\
  ∃X,KT H k X/\h.DictOfH (V0<|aQ P w) a X:=by
 obtain⟨z,y,X,r,o,E,d,f,g,i,j,n⟩:=(IA O e);refine⟨z,y,X,r,o,E,d,f,g,i,j,λx b=>?_,n⟩;have A:∀{l:ab _} {m:ab _},KT H l m->∀x∈m,(V0<|aQ P w).is h x.1 x.2.1:=by
  intro l m q
  induction q with
  |nil=>intro x b;exact nomatch b
  |@cons p q s Q c t I=>
   intro x b;obtain e|b:=P_.mp b
   ·exact iK O (by simp_all)
   exact I x b
 exact A r x b
theorem MB(o:HOk P w H h)(e:H a=gV (.dT k)):k.length<=sizeLine/\(a == Sn)=Pr/\
  ∃x,KT H k x/\h.DictOfH (V0<|aQ P w) a x:=kB o<|.inl e
def DGet(H:Hp)(a:C')(y:V)(r:M' V):Prop:=
 (∃s k,Rd H a (.dK s)/\y=kV k/\r=aY s k)\/∃s k b,Rd H a (.dT s)/\y=.ref b/\H b=gV (.tup<|k.map kV)/\r=aY s k
def DPut(H:Hp)(a:C')(y v:V)(h:Hp):Prop:=
 (∃s k,H a=gV (.dK s)/\y=kV k/\s.length<sizeLine/\h=upd H a (.dK<|cE s k v))\/
 ∃s k b,H a=gV (.dT s)/\y=.ref b/\H b=gV (.tup<|k.map kV)/\s.length<sizeLine/\h=upd H a (.dT<|cE s k v)
theorem DGet.k{H:Hp}{a:C'}{s:ab (aJ×V)}{k:aJ}(e:H a=gV (.dK s)):DGet H a (kV k) (aY s k):=.inl ⟨s,k,.inl e,rfl,rfl⟩
theorem DGet.t{H:Hp}{a b:C'}{s:ab (ab aJ×V)}{k:ab aJ}(e:H a=gV (.dT s))(E:H b=gV (.tup<|k.map kV)):DGet H a (.ref b) (aY s k):=.inr ⟨s,k,b,.inl e,rfl,E,rfl⟩
theorem DPut.k{H:Hp}{a:C'}{s:ab (aJ×V)}{k:aJ}{v:V}(e:H a=gV (.dK s))(h:s.length<sizeLine):DPut H a (kV k) v (upd H a<|.dK<|cE s k v):=.inl ⟨s,k,e,rfl,h,rfl⟩
theorem DPut.t{H:Hp}{a b:C'}{s:ab (ab aJ×V)}{k:ab aJ}{v:V}(e:H a=gV (.dT s))(E:H b=gV (.tup<|k.map kV))(h:s.length<sizeLine):
  DPut H a (.ref b) v (upd H a<|.dT<|cE s k v):=.inr ⟨s,k,b,e,rfl,E,h,rfl⟩
theorem Inv.big(I:Inv X O a H s):Sn<s.heap.objs.size:=by
 have h:=(I.mod.glob.keeps I.bk).lt;exact Yc (by decide) h
theorem Aa(n:A.units+1<Tw)(I:Inv X O o H s)(g:DGet H a y (gV v))(j:RelV y u)(h:∀w m,Inv X O o H m->RelV v w->Q w m):
  wpAny (Qj X.prog X.w) A (WE (.ref a) u) Q E s:=by
 obtain⟨c,k,e,d,l⟩|⟨c,k,b,e,d,q,l⟩:=g
 ·subst d;obtain⟨z,t,x,W,D⟩:=ku I.hok e;obtain⟨w,f,r⟩:=RelO.some_of (by rw[l];exact W.val k);exact wpAny_getItem_of (jB j) D.mapOf f<|h w _ (I.tok _) r
 subst d;cases(j);obtain⟨z,t,B,W,D⟩:=kB I.hok e;obtain⟨w,f,r⟩:=RelO.some_of (by rw[l];exact W.val k);obtain⟨p,C,i⟩:=Qn.mp f;refine wpAny_getItem_heap (SF n) (iK I.hok q) D C ?_;rw[i];exact h w _ (I.tok _) r
theorem Oy(j:A.units+1<Tw)(I:Inv X O m H s)(g:DGet H a y o)(r:RelV y u)(h:∀i,Inv X O m H i->Q (.bool o.isSome) i):
  wpAny (Qj X.prog X.w) A (Rf .In u<|.ref a) Q E s:=by
 obtain⟨c,k,e,d,l⟩|⟨c,k,b,e,d,n,l⟩:=g
 ·subst d;obtain⟨z,f,v,W,D⟩:=ku I.hok e;refine wpAny_in_of (jB r) f D.mapOf ?_;rw[<-(W.val k).isSome_eq,<-l];exact h _<|I.tok _
 subst d;cases(r);obtain⟨z,f,x,W,D⟩:=kB I.hok e;refine wpAny_in_heap (SF j) (iK I.hok n) f D ?_;have q:=(W.val k).isSome_eq;rw[Xk]at q;rw[<-q,<-l];exact h _<|I.tok _
theorem Ge(j:A.units+1<Tw)(I:Inv X O m H s)(g:DGet H a y o)(r:RelV y u)(h:∀i,Inv X O m H i->Q (.bool (!o.isSome)) i):
  wpAny (Qj X.prog X.w) A (Rf .NotIn u<|.ref a) Q E s:=by
 obtain⟨c,k,e,d,l⟩|⟨c,k,b,e,d,n,l⟩:=g
 ·subst d;obtain⟨z,f,v,W,D⟩:=ku I.hok e;refine wpAny_notIn_of (jB r) f D.mapOf ?_;rw[<-(W.val k).isSome_eq,<-l];exact h _<|I.tok _
 subst d;cases(r);obtain⟨z,f,x,W,D⟩:=kB I.hok e;refine wpAny_notIn_heap (SF j) (iK I.hok n) f D ?_;have q:=(W.val k).isSome_eq;rw[Xk]at q;rw[<-q,<-l];exact h _<|I.tok _
theorem kC{t':Nat}(I:Inv X O c H s)(m:L9 (H a))(h:UO a s.heap h')(e:∃q,h'.get? a=gV q)(n:ObjOk X.prog X.w (upd H a o) h' a o):
  Inv X O c (upd H a o) {s with heap:=h',toks:=t'}:=
 I.write m (.inl rfl) (λb q d z=>(h.2 b d).trans z) e n
theorem rQ{H:Hp}(z:k.length<=sizeLine)(h:(a == Sn)=Pr)(W:KV k v)(d:h'.DictOf (aQ P w) a v):
  ObjOk P w H h' a (.dK k):=⟨z,h,v,W,d⟩
theorem Ab(J:A.units+1<Tw)(I:Inv X O L H s)(g:DPut H a y v M)(w:RelV y u)(x:RelV v r)(h:∀B,Inv X O L M B->Q () B):
  wpAny (Qj X.prog X.w) A (setItem (.ref a) u r) Q E s:=by
 obtain⟨d,k,e,i,l,j⟩|⟨d,k,b,e,i,C,l,j⟩:=g
 ·subst i j;obtain⟨z,m,N,W,n⟩:=xZ I.hok e;have o:N.length<=sizeLine:=by rwa[<-W.length]
  have p:(cE d k v).length<=sizeLine:=by have:=dJ d k v;lia
  refine wpAny_setItem_pairs (jB w) n λF D t=>h _ ?_;have P:∃q,F.get? a=gV q:=let ⟨q,_,_,f,_⟩:=D;⟨q,f⟩
  exact kC I (by rw[e];exact Sv) t P<|rQ p m (W.put k x) D
 subst i j;cases(w);obtain⟨z,m,T,W,n⟩:=MB I.hok e;have o:T.length<=sizeLine:=by rwa[<-Paired.length W]
 have p:(cE d k v).length<=sizeLine:=by have:=dJ d k v;lia
 refine wpAny_setItem_heap (SF J) (iK I.hok C) n λF D t=>h _ ?_;obtain⟨q,U,Y,f,Z,h3,h4,V,h5⟩:=D;refine kC I (by rw[e];exact Sv) t ⟨q,f⟩ ⟨p,m,_,(W.put k C x).keeps λc ys G=>?_,q,U,Y,f,Z,h3,h4,h5⟩;rwa[af<|bi G e (λz=>nomatch z)]
def MC(i:QS):Prop:=∀o I,YG i Pr o I=operate [o,I] (WE o I)
theorem Gg{p:PU}{w:Qc}{A:Q0}{E:Pm->PF->Prop}{s:PF}{e:Env}{v W:QS}{P:Pos}{T id:TL}{Q:Pm->PF->Prop}
  (l:x9 (.type T) "__getitem__"=pure (gV<|.builtin id)) (g:MC W)
  (h:wpAny (Qj p w) A (RU v e) (λo b=>wpAny (Qj p w) A (RU W e) (λi a=>a.TypeIs o T/\wpAny (Qj p w) A (WE o i) Q E a) E b) E s):
  wpAny (Qj p w) A (RU (.Subscript v W P) e) Q E s:=by
 refine CN<|RT h (λo b d=>RT d (λi a H=>?_) λz z x=>x) λz z x=>x;obtain⟨j,H⟩:=H;refine Pp<|Pp<|PySem.wpAny_specialOf j l ?_;have X:wpAny (Qj p w) A (YG W Pr o i) (λr c=>wpAny (Qj p w) A (letTemporaryGo v o r >>=λz=>pure r) Q E c) E a:=by
  rw[g o i];exact wpAny_operating<|RT H (λr c f=>Pp<|wpAny_letTemporaryGo<|PY f) λz z x=>x
 first
  |exact PY<|Pp X
  |exact Pp<|PY<|Pp X
  |exact Pp X
theorem uf(I:Inv X O f H s)(g:DGet H a y o):s.TypeIs (.ref a) "dict":=by
 obtain⟨c,k,e,z,z⟩|⟨c,k,b,e,z,z,z⟩:=g
 ·obtain⟨z,z,v,z,d⟩:=ku I.hok e;exact d.typeIs
 obtain⟨z,z,x,z,d⟩:=kB I.hok e;exact d.typeIs
def MD(t T:TE):TE:=λb H Q=>t b H λx c=>T b c λy h=>∃a v,x=.ref a/\DGet h a y (gV v)/\Q v h
def Oz(t T:TE):TE:=λb H Q=>t b H λy c=>T b c λx h=>∃a o,x=.ref a/\DGet h a y o/\Q (.bl o.isSome) h
def Gh(t T:TE):TE:=λb H Q=>t b H λy c=>T b c λx h=>∃a o,x=.ref a/\DGet h a y o/\Q (.bl (!o.isSome)) h
def ME(t T tv:TE):TS:=λD b H=>tv b H λv c=>t b c λx d=>T b d λy e=>∃a h,x=.ref a/\DPut e a y v h/\D.nx b h
theorem bv(d:X.A.units+1<Tw)(e:PE X o t)(f:PE X i T)(j:MC i):PE X (.Subscript o i p) (MD t T):=by
 intro O s b H Q I h;refine Gg PySem.F.slot_dict_getitem.lookup j<|bC (e O s b H _ I h) λu k Y=>?_;obtain⟨x,l,m,n,q⟩:=Y;refine bC (f O k b l _ m q) λC D Z=>?_;obtain⟨y,w,c,z,a,v,E,g,A⟩:=Z;subst E;obtain rfl:u=QV a:=n;exact⟨uf c g,Aa d c g z λW F B r=>⟨v,w,B,r,A⟩⟩
theorem wj(c:X.A.units+1<Tw)(d:PE X i t)(e:PE X o T):PC X .In i o (Oz t T):=by
 intro O s b H Q I h;refine bC (d O s b H _ I h) λz f Y=>?_;obtain⟨y,j,k,r,q⟩:=Y;refine bC (e O f b j _ k q) λu A Z=>?_;obtain⟨x,l,m,n,a,v,E,g,p⟩:=Z;subst E;obtain rfl:u=QV a:=n;exact Oy c m g r λB w=>⟨.bl _,l,w,rfl,p⟩
theorem ji(c:X.A.units+1<Tw)(d:PE X i t)(e:PE X o T):PC X .NotIn i o (Gh t T):=by
 intro O s b H Q I h;refine bC (d O s b H _ I h) λz f Y=>?_;obtain⟨y,j,k,r,q⟩:=Y;refine bC (e O f b j _ k q) λu A Z=>?_;obtain⟨x,l,m,n,a,v,E,g,p⟩:=Z;subst E;obtain rfl:u=QV a:=n;exact Ge c m g r λB w=>⟨.bl _,l,w,rfl,p⟩
theorem rR(c:X.A.units+1<Tw)(d:PE X o t)(f:PE X i T)(j:PE X e k)(l:WL e (gV<|.Subscript o i m) p.line X.env=pure Pr):
  PS X (.Assign [.Subscript o i m] e p) (ME t T k):=by
 intro O s b H D I h;refine wpAny_Assign_Subscript (bC (j O s b H _ I h) λr n S=>?_) l;obtain⟨v,q,w,z,Q⟩:=S;refine bC (d O n b q _ w Q) λu A R=>?_;obtain⟨x,B,C,E,F⟩:=R;refine bC (f O A b B _ C F) λU W V=>?_;obtain⟨y,Y,G,J,a,L,M,g,N⟩:=V;subst M;obtain rfl:u=QV a:=E;exact Ab c G g J z λZ P=>⟨b,L,P,N⟩
theorem ug(h:QB)(b:Sn<h.objs.size):ObjOk P w H (h.push {cls:=.type "dict",data:=.dict #[]}) h.objs.size (.dK []):=
 ⟨P8 _,QT.mpr<|Q1<|Qa b,[],.nil,aa' h⟩
theorem B6(h:QB)(b:Sn<h.objs.size):ObjOk P w H (h.push {cls:=.type "dict",data:=.dict #[]}) h.objs.size (.dT []):=
 ⟨P8 _,QT.mpr<|Q1<|Qa b,[],.nil,_,#[],0,Qh _ rfl,⟨rfl,rfl,rfl⟩,rfl,rfl,UJ⟩
def Kh:TE:=λ_ H Q=>∀p,H p=Pt->Q (.ref p) (upd H p<|.dK [])
def Ki:TE:=λ_ H Q=>∀p,H p=Pt->Q (.ref p) (upd H p<|.dT [])
theorem oz:PE X (.Dict [] [] p) Kh:=λO s a H Q I h=>
 Z1 ⟨.ref _,_,I.laid (λz z q=>PH _ q) (Po _)<|ug _ I.big,rfl,h _<|I.hok.fresh<|Po _⟩
theorem oA:PE X (.Dict [] [] p) Ki:=λO s a H Q I h=>
 Z1 ⟨.ref _,_,I.laid (λz z q=>PH _ q) (Po _)<|B6 _ I.big,rfl,h _<|I.hok.fresh<|Po _⟩
def wk:ab (TE×TE)->St->Hp->(ab (V×V)->Hp->Prop)->Prop
 |[],_,H,Q=>Q [] H
 |(t,tv)::r,a,H,Q=>t a H λx h=>tv a h λy b=>wk r a b λp c=>Q ((x,y)::p) c
abbrev VV:ab (V×V)->ab (Pm×Pm)->Prop:=Paired λp q=>RelV p.1 q.1/\RelV p.2 q.2
def N1(X:Cx)(p:Pos)(k:ab (M' QS))(a:ab QS)(t:ab (TE×TE)):Prop:=
 ∀(P:ab (C'×Obj)) (s:PF) (b:St) (H:Hp) (Q:ab (V×V)->Hp->Prop),Inv X P b H s->wk t b H Q->
  wpAny (Qj X.prog X.w) X.A (evalPairs<|pairTrees k a X.env p) (λv d=>∃c h,Inv X P b h d/\VV c v/\Q c h) X.xe s
theorem x_:N1 X p [] [] []:=λO s a H Q I h=>pairTrees_nil_walk ⟨[],H,I,.nil,h⟩
theorem oC(b:PE X k T)(c:PE X v d)(r:N1 X p e f t):
  N1 X p (gV k::e) (v::f) ((T,d)::t):=λO s a H Q I h=>
 pairTrees_cons_walk (bC (b O s a H _ I h) (by rintro u g ⟨x,i,j,l,q⟩;exact bC (c O g a i _ j q) (by rintro D m ⟨y,n,o,w,z⟩;exact bC (r O m a n _ o z) (by rintro E F ⟨P,A,B,W,C⟩;exact ⟨(x,y)::P,A,B,.cons ⟨l,w⟩ W,C⟩))))
noncomputable def gI(k m:ab (aJ×V)):ab (aJ×V):=m.foldl (λs v=>cE s v.1 v.2) k
theorem KV.merge:∀{m:ab (aJ×V)} {s:ab (aJ×Pm)} {k:ab (aJ×V)} {v:ab (aJ×Pm)},KV m s->KV k v->KV (gI k m) (Zu v s):=by
 intro m s k v r;induction r generalizing k v with
 |nil=>intro q;exact q
 |@cons p q P Q h t i=>
  intro a;have e:KV (cE k p.1 p.2) (stored v q.1 q.2):=by
   have:=a.put p.1 h.2;rwa[<-h.1]
  exact i e
theorem jC:∀m k,(gI k m).length<=k.length+m.length
 |[],k=>by show k.length<=k.length+0;simp
 |p::r,k=>by
  have h:=jC r<|cE k p.1 p.2;have H:=dJ k p.1 p.2;show(gI _ r).length<=_
  grind
theorem oE:∀{k:ab (aJ×V)} {W:ab (Pm×Pm)},VV (k.map λv=>(kV v.1,v.2)) W->∃s,Carries (aQ P w) W s/\KV k s
 |[],_,r=>by cases r;exact⟨[],Sv,.nil⟩
 |p::k,_,r=>by
  cases r with
  |@cons a b A d h t=>
   obtain⟨s,c,q⟩:=oE (P:=P) (w:=w) t;obtain⟨e,B⟩:=b;exact⟨(p.1,B)::s,⟨jB h.1,rfl,c⟩,.cons ⟨rfl,h.2⟩ q⟩
def uh(t:ab (TE×TE)):TE:=λa H Q=>∀p,H p=Pt->wk t a (upd H p<|.dK []) λP h=>h p=gV (.dK [])/\∃k:ab (aJ×V),P=k.map (λv=>(kV v.1,v.2))/\k.length<=15/\Q (.ref p) (upd h p<|.dK<|gI [] k)
theorem ya(h:N1 X p v a t)(r:v.all (·.isSome)=Pn)(l:v.length=a.length)(f:v≠[])
  (b:v.length<=15):PE X (.Dict v a p) (uh t):=by
 intro O s g H Q I q;have n:=I.hok.fresh<|Po _;have j:=I.laid (t':=s.toks) (λZ Z q=>PH _ q) (Po _)<|ug _ I.big;refine wpAny_Dict_walk (knd:=aQ _ X.w) r l f b<|bC (h O _ g _ _ j<|q _ n) λL M ⟨P,N,i,W,e,k,E,T,m⟩=>?_;subst E;obtain⟨o,c,u⟩:=oE W;obtain⟨z,w,x,y,D⟩:=xZ i.hok e;cases y;refine⟨o,c,D,λA d B=>⟨.ref _,_,?_,rfl,m⟩⟩;have C:(gI [] k).length<=sizeLine:=by
  have F:=jC k [];rw[Vb]at F;rw[Ru];lia
 have G:∃q,A.get? _=gV q:=let ⟨q,_,_,J,_⟩:=d;⟨q,J⟩
 exact kC i (by rw[e];exact Sv) B G<|rQ C w (u.merge .nil) d
structure M2 (X:Cx)(o:QS)(m:Str)(VX:Pos)(e f:QS)(XD:Pos):Prop where
 base:U3 o m X.env (RU o X.env)=RU o X.env
 few:((SW XD<|Qk [e,f] X.env).all (λx=>!x.1)&&(YJ XD<|Wd [] X.env).all (λx=>x.1.isSome)
  &&decide (([e,f]:ab QS).length+([]:ab rb).length+(if([]:ab rb).isEmpty then 0 else 1)<30))=Pn
 line:(VX.endLine == XD.line)=Pn
 trees:SW XD (Qk [e,f] X.env)=[(Pr,RU e X.env),(Pr,RU f X.env)]
def OA(H:Hp)(a:C'):Prop:=(∃k,Rd H a<|.dK k)\/∃k,Rd H a<|.dT k
theorem B7(I:Inv X O g H s)(d:OA H a):
  s.TypeIs (.ref a) "dict"/\(∀b,QV a=.ref b->∃o,s.heap.get? b=gV o/\o.dict=Pt)/\(a == Sn)=false:=by
 obtain⟨k,e⟩|⟨k,e⟩:=d
 ·obtain⟨z,h,v,z,D⟩:=ku I.hok e;refine⟨D.typeIs,λb q=>?_,h⟩;cases q;obtain⟨o,z,z,c,f,z⟩:=D;exact⟨o,c,f.2.1⟩
 obtain⟨z,h,x,z,D⟩:=kB I.hok e;refine⟨D.typeIs,λb q=>?_,h⟩;cases q;obtain⟨o,z,z,c,f,z⟩:=D;exact⟨o,c,f.2.1⟩
theorem Kj(p:A.units+1<Tw)(I:Inv X P q H s)(g:DGet H a y o)(j:RelV y u)(m:RelV d r)(h:∀w n,Inv X P q H n->RelV (o.getD d) w->Q w n):
  wpAny (Qj X.prog X.w) A (call (.builtin "dict.get") [.ref a,u,r]) Q E s:=by
 obtain⟨c,k,e,f,l⟩|⟨c,k,b,e,f,t,l⟩:=g
 ·subst f;obtain⟨z,i,B,v,D⟩:=ku I.hok e;refine Vt VP D.typeIs X2 (XM _ _ _) (meets_dict_get_default _ a (jB j) i r) ⟨_,D.mapOf,h _ _ (I.tok _) ?_⟩;rw[l];exact(v.val k).getD m
 subst f;cases(j);obtain⟨z,i,x,v,D⟩:=kB I.hok e;refine Vt VP D.typeIs X2 (XM _ _ _) (meetsH_dict_get_default _ a b i r) ⟨SF p,k,x,iK I.hok t,D,h _ _ (I.tok _) ?_⟩;rw[l];exact(v.val k).getD m
def Kk(t T tx:TE):TE:=λb H Q=>t b H λx h=>∃a,x=.ref a/\OA h a/\T b h λy d=>tx b d λz c=>∃o,DGet c a y o/\Q (o.getD z) c
theorem B8(c:X.A.units+1<Tw)(j:PE X o t)(k:PE X e T)(l:PE X f tx)(m:M2 X o "get" v e f D):PE X (.Call (.Attribute o "get" v) [e,f] [] D) (Kk t T tx):=by
 intro P s b H Q I h;refine Z6 m.base m.few m.line XI VP PySem.F.type_dict_get<|bC (j P s b H _ I h) λu n ⟨x,p,i,q,a,E,d,w⟩=>?_;subst E;obtain rfl:u=QV a:=q;obtain⟨A,B,V⟩:=B7 i d;exists A,B;rw[m.trees];exact Ud rfl (UG (Tg (bC (k P n b p _ i w) (by rintro Y C ⟨y,F,G,J,L⟩;exact Tg (bC (l P C b F _ G L) (by rintro Z s3 ⟨z,M,N,O,ov,g,U⟩;exact Vx (Kj c N g J O λw' s4 W r=>⟨_,M,W,r,U⟩)))))))
end L2
namespace Att
open PySem PySem.W PySem.Calls PyProof.Rows
theorem m_:∀N v,WellAll P h v (N.map O')->TR v N:=by
 intro N
 induction N with
 |nil=>
  intro v w;cases w;exact .nil
 |cons n N i=>
  intro v w;cases w with
  |cons a b=>
   cases a;exact .cons _ _<|i _ b
theorem Ac{l:XW}{n:Nat}(i:l.most=gV n){P:l'}{h:QB}{A:ab WData}{M:ab Pm}
  (b:l.row.toRowW.claim.pre A=Pn) (e:WellAll P h M A):
  ∃a v N,M=[QV a]/\A=[WData.list<|N.map O']/\h.get? a=gV {cls:=.type "list",data:=.seq v.toArray}/\TR v N/\N.length<=n:=by
 have f:WShape.hasAll [] A _=true:=(pre_splitW b).1;have g:=(pre_splitW b).2;obtain⟨d,r,rfl,j,k⟩:=hasAllW_cons f;obtain rfl:=hasAllW_nil k;obtain⟨x,rfl,m⟩:=hasW_list j;obtain⟨N,rfl⟩:=items_int m;have Q:N.length<=n:=by
  have H:(WTm.not<|.lt (.lit<|.int (n))<|.len<|.arg 0).holds [] {args:=[.list<|N.map .int]}=true:=by
   have H:=(holds_andW g).1;rwa[i]at H
  have c:=condW_of H<|rfl;simp_all
 cases e with
 |cons w W=>
  cases W;cases w with
  |list p s=>exact⟨_,_,N,rfl,rfl,p,m_ N _ s,Q⟩
theorem Ad(l:XW)(a:ab WData):l.row.toRowW.claim.post a (.bool Pn) a=true:=
 postW_of
  rfl
  (w_eq_bool (w_res rfl) w_lit) rfl
theorem attach_call{l:XW}{n:Nat}{q:PU}{loose:ab Str}{X:(Str->M' Pm)->QB->Prop}{y:Qc->QB->Prop}{d:DefRec}
  (u:l.most=gV n) (h:d.params.defaults=[])
  (call:∀w b s m M F o p c Z a v N,
   Ground q loose [] X w b m M s.heap->y w s.heap->
   s.heap.get? F=gV o->o.data=.func (docDef d.name d.params d.body d.scope p c Z)->s.heap.CodeRec c d.name->m d.name=gV (.ref F)->
   s.heap.get? a=gV {cls:=.type "list",data:=.seq v.toArray}->TR v N->N.length<=n->s.gens=#[]->
   codeAny (Qj l.prog w) Y7 (.call (.ref F) ⟨[.ref a],[]⟩) (λr e=>r=.ok (.ret<|.bool Pn)/\OldK s.heap e.heap/\e.os=s.os/\Xj e.gens) s):
  va q loose X y l.row.toRowW d [] (λf v=>Zx f v):=by
 intro w b s m M G Y F o p c Z x kV z B H D g C k E as A t I i J;obtain rfl:x=.none:=Dflts.none D h;obtain rfl:kV=.none:=Dflts.noKw D;obtain⟨a,v,N,rfl,rfl,j,L,Q⟩:=Ac u A i;refine enter_call<|Vs (call w b s m M F o p c Z a v N G Y z ‹_› H g j L Q C) λr e O=>?_;obtain⟨rfl,P,T,U⟩:=O;exact⟨.inl ⟨.bool Pn,.bool Pn,[],rfl,λ_=>rfl,.bool Pn,Ad l _,λ_=>⟨TK,λ_ W=>(nomatch W)⟩⟩,P,T,U⟩
end Att
namespace L2
open PySem PySem.Spec PyProof.Rows
theorem jj:∀{v:ab Pm} {N:ab Int},TR v N->Vals (N.map V.int) v:=by
 intro v N h;induction h with
 |nil=>exact .nil
 |cons n t h i=>exact .cons ⟨t,rfl⟩ i
noncomputable def cO(s:QW)(j:Nat):QW:=match s with
 |.ClassDef _ _ _ b _ _ _ _ _ _ _=>b.getD j<|.Pass ⟨0,0,0,0⟩
 |_=>.Pass ⟨0,0,0,0⟩
noncomputable def fz(s:QW):UP:=match s with
 |.FunctionDef _ a _ _ _ _ _ _ _ _=>a
 |_=>{posonlyargs:=[],args:=[],vararg:=Pt,kwonlyargs:=[],kw_defaults:=[],kwarg:=Pt,defaults:=[]}
noncomputable def cP(s:QW):ab QW:=match s with
 |.FunctionDef _ _ b _ _ _ _ _ _ _=>b
 |_=>[]
noncomputable def aA(s:QW):T_:=match s with
 |.FunctionDef _ _ _ _ _ _ c _ _ _=>c
 |_=>{kind:=.function,names:=[],isGenerator:=Pr,isCoroutine:=Pr}
abbrev aV:BY:=λ_ _ _ _ _ _=>False
abbrev E0:XK:=λ_ _ _=>False
theorem yb:jL aV X E0:=λz z z z z z z h=>h.elim
structure Fun (K:J')(x qual:Str)(st:QW)(f:C')(fd:PR):Prop where
 ex:∃(oc:Pm) (od:M' C') (kV Z0 pm:Pm) (an:M' C') (R8 ct:Pm) (osl:RW (M' Pm)),
  fd=SO x qual (fz st) (cP st) (aA st) .none kV Z0 pm an R8 ct/\K.lookup f=gV ⟨oc,od,.func fd,osl⟩/\Vv K R8 qual=Pn
 kp:RF K (.ref f)=Pn
section
variable {K:J'}
theorem Fun.ok{P:PU}{w:Qc}{M:Str->M' Pm}{b:QB}{x l:Str}{st:QW}{f:C'}{i:PR}{N p:ab Str}{k:Nat}{c:Sp}(F:Fun K x l st f i)(S:eH N p (aA st))(m:∀v H Q E,c v H Q E->v.length=p.length)
  (d:∀a A o s H v Q E,Room k (A.deeper<|Rr l (aA st) s.heap.objs.size f a)->c v H Q E->
   ∃t,PSs (rM aV P w K M b N l (aA st) f a A o s H E).nox (cP st) t/\t {nx:=λY j=>Q .non j,rt:=Q} (start N v) H):ay P w K M b aV (k+1) f i p c:=by
 obtain⟨n,u,kV,Z,y,z,a,C,O,rfl,L,e⟩:=F.ex;refine Iu L e S m λA o s H v Q E r g=>?_;obtain⟨t,h,q⟩:=d a A o s H v Q E r g;exact⟨t,h.nox,q⟩
theorem Fun.binds{x q:Str}{st:QW}{f:C'}{d:PR}{p:ab Str}(F:Fun K x q st f d)
  (h:∀kV Z P a Q c u,u.length=p.length->Z8 (SO x q (fz st) (cP st) (aA st) .none kV Z P a Q c) ⟨u,[]⟩=pure (p.zip u)):Binds K d p []:=by
 obtain⟨O,b,kV,Z,P,a,Q,c,o,rfl,l,H⟩:=F.ex;exact .all<|h kV Z P a Q c
theorem fun_mk{x q:Str}{st:QW}{f:C'}{O:Pm}{d a:M' C'}{o:RW (M' Pm)}{kV Z p Q C:Pm}(l:K.lookup f=gV ⟨O,d,.func<|SO x q (fz st) (cP st) (aA st) .none kV Z p a Q C,o⟩)
  (c:Vv K Q q=Pn) (k:RF K (.ref f)=Pn):Fun K x q st f (SO x q (fz st) (cP st) (aA st) .none kV Z p a Q C):=⟨⟨O,d,kV,Z,p,a,Q,C,o,rfl,l,c⟩,k⟩
end
theorem mN(h:Room k A):A.units+1<Tw:=SH (Zh (by simp) _) h.units
theorem ak(h:n<=1000):n<sizeLine:=SH h (by decide)
theorem gq{l:List a}(i:Nat)(h:l[i]?=x):l[i]?=x:=h
theorem nn{p:Prop}(h:p:=by first|exact gq 0 rfl|exact gq 1 rfl|exact gq 2 rfl|exact gq 3 rfl|exact gq 4 rfl|exact gq 5 rfl|exact gq 6 rfl|exact gq 7 rfl|exact gq 8 rfl|exact gq 9 rfl|exact gq 10 rfl|exact gq 11 rfl|exact gq 12 rfl|exact gq 13 rfl|exact gq 14 rfl|exact gq 15 rfl):p:=h
theorem pv{X:Cx}(i:Nat){p:Pos}(H:X.N[i]?=gV x:=by exact nn)(v:LX X.env.scope x:=by first|exact ZJ rfl|exact X' (ZJ rfl)|exact X'<|X' rfl)(d:(x == ("__debug__":Str))=false:=by decide)
  (h:(x == ("__classdict__":Str))=false:=by decide):PE X (.Name x p) (nX i):=BG H v d h
theorem al{A B:Prop}(h:B):if Pr=Pn then A else B:=by
 assumption
theorem ar{A B:Prop}(h:A):if Pn=Pn then A else B:=by
 assumption
theorem iA{c A B:Prop} [Decidable c] (H:c->A)(a:¬c->B):if c then A else B:=by
 simp_all
def Same(H h:Hp):Prop:=∀b o,H b=gV o->h b=gV o
theorem Same.refl(H:Hp):Same H H:=λz z h=>h
theorem Same.trans(a:Same H d)(b:Same d e):Same H e:=λc o h=>b c o<|a c o h
theorem Same.free(e:Same H a)(h:a l=Pt):H l=Pt:=by
 cases q:H l with
 |none=>rfl
 |some o=>
  rw[e l o q]at h;cases h
theorem Same.seq{K:J'}{H b:Hp}{a:C'}{xs:ab V}(e:Same H b)(h:SqL K H a xs):SqL K b a xs:=by
 obtain(h|⟨o,h⟩)|h:=h
 ·exact .inl<|.inl<|e _ _ h
 ·exact .inl<|.inr ⟨o,e _ _ h⟩
 exact .inr h
section
variable {κ:Type}[Wj κ]
theorem yc:∀{l:ab κ} {k:κ},l.Nodup->¬k∈l->(l++[k]).Nodup
 |[],k,_,_=>by simp
 |a::r,k,h,H=>by
  obtain⟨b,c⟩:=Q3.mp h;refine Q3.mpr ⟨λm=>?_,yc c λm=>H<|P_.mpr<|X' m⟩;simp_all
end
end L2
namespace L2
open PySem
theorem cH(h:n<=10000):n<sizeLine:=SH h (by decide)
end L2
namespace TS
open PySem PyProof.Rows
structure Cm (prog:PU)(w:Qc)(A:Q0)(E:Pm->PF->Prop)(s:PF) where
 num:Q2->Int
 ok:Q2->Prop
 kd:sy
 lt:∀{x y:Q2} {Q:M' Px->Q9->Prop} {st:Q9},kindOf st=kd->ok x->ok y->Q (gV (decide (num x<num y))) st->wpS (Qj prog w) A E s (lt' x y) Q st
section
variable {prog:PU}{w:Qc}{A:Q0}{E:Pm->PF->Prop}{s:PF}{C:Cm prog w A E s}{st:Q9}{α:Type}
abbrev Cm.W(C:Cm prog w A E s)(m:Xr Q9 Sem α)(Q:α->Q9->Prop)(st:Q9):Prop:=wpS (Qj prog w) A E s m Q st
noncomputable def Cm.K(C:Cm prog w A E s)(xs:RW Q2)(i:Nat):Int:=(xs[i]?.map C.num).getD 0
def Cm.Oks(C:Cm prog w A E s)(xs:RW Q2):Prop:=∀p∈xs.toList,C.ok p
theorem Kl(h:C.Oks xs)(H:i<xs.size):∃p,xs[i]?=gV p/\C.ok p/\C.K xs i=C.num p:=
 ⟨xs[i],WC xs i H,h _ (by simp),by unfold Cm.K;rw[WC xs i H];rfl⟩
theorem dF(H:a[i]?=gV p)(h:Q p st):wpS (Qj prog w) A E s (XQ a i) Q st:=by
 rw[elem'_eq,H];exact QC h
theorem dw{c:Prop} [Decidable c] {x y:Xr Q9 Sem α}{Q:α->Q9->Prop}(h:c->wpS (Qj prog w) A E s x Q st)(H:¬c->wpS (Qj prog w) A E s y Q st):wpS (Qj prog w) A E s (if c then x else y) Q st:=by
 split
 ·exact h ‹_›
 exact H ‹_›
noncomputable def hZ:Px->Q2->RW Q2->Nat->Nat->Nat->Xr Q9 Sem (M' Nat):=sortPriv% PySem.Builtin.gallop
noncomputable def Gi(left:Px)(k:Q2)(a:RW Q2)(b i:Nat):Xr Q9 Sem (M' Px):=do
 let x <-XQ a (b+i)
 if left then lt' x k else
  let r <-lt' k x
  return r.map (!·)
section
variable (left:Px)(key:Q2)(arr:RW Q2)(base n W8:Nat)
noncomputable def B9(lo h:Nat):Xr Q9 Sem (M' Nat):=do
 let mut lo:=lo
 let mut h:=h
 for _ in [0:n] do
  if lo>=h then break
  let m:=lo+(h-lo)/2
  let gV M <-Gi left key arr base m|return Pt
  if M then lo:=m+1 else h:=m
 return gV h
noncomputable def Gj(m:Nat)(f:Nat->Nat)(t:Px->Px)(k:Nat->Nat->Xr Q9 Sem (M' Nat)):Xr Q9 Sem (M' Nat):=do
 let mut l:=0
 let mut o:=1
 for _ in [0:n] do
  if o>=m then break
  let gV M <-Gi left key arr base (f o)|return Pt
  if t M then break
  l:=o
  o:=2*o+1
 k l o
theorem wm:hZ left key arr base n W8=(do
 let gV right <-Gi left key arr base W8|return Pt
 if right then Gj left key arr base n (n-W8) (W8+·) not λl o=>B9 left key arr base n (W8+l+1) (W8+min o (n-W8))
 else Gj left key arr base n (W8+1) (W8 - ·) id λl o=>B9 left key arr base n (W8+1-min o (W8+1)) (W8-l)):=rfl
end
section
variable {left:Px}{key:Q2}{arr:RW Q2}{base n:Nat}{Q:M' Nat->Q9->Prop}
def OB(C:Cm prog w A E s)(left:Px)(key:Q2)(arr:RW Q2)(base n:Nat)(st:Q9)(P:Nat->Px):Prop:=∀(m:Nat) (q:M' Px->Q9->Prop),m<n->q (gV<|P m) st->C.W (Gi left key arr base m) q st
theorem L'{lo m u:Nat}(h:u<m):lo+(lo+m)-1-(lo+u)=lo+(m-1-u):=by
 rw[Nat.sub_sub,Nat.add_left_comm 1,Nat.add_sub_add_left,Nat.add_comm 1,Nat.add_sub_assoc h,Nat.sub_sub,Nat.add_comm 1]
theorem mdx{l r:Nat}(g:l<r):l<=(l+r)/2/\(l+r)/2<r:=⟨by lia,by lia⟩
theorem tx{l r k x m:Nat}(H:r-l<=k-x)(a:l<=m)(b:m<r):r-(m+1)<=k-(x+1)/\m-l<=k-(x+1):=⟨QF (Nat.sub_le_sub_left (Nat.succ_le_succ a) r) (Nat.sub_le_sub_right H 1),Nat.le_sub_one_of_lt (QH (Nat.sub_lt_sub_right a b) H)⟩
theorem Km{lo H:Nat}{P:Nat->Px}(B:OB C left key arr base n st P)(f:∀i j,i<=j->j<n->P j=Pn->P i=Pn)(m:lo<=H)(o:H<=n)(p:∀i,i<lo->P i=Pn)(t:∀i,H<=i->i<n->P i=Pr)
  (h:∀k,k<=n->(∀i,i<k->P i=Pn)->(∀i,k<=i->i<n->P i=Pr)->Q (gV k) st):C.W (B9 left key arr base n lo H) Q st:=by
 unfold B9;refine Ql (T4 (Sx (I:=λx c q=>q=st/\∃l r,c=(Pt,l,r)/\l<=r/\r<=n/\r-l<=n-x/\(∀i,i<l->P i=Pn)/\(∀i,r<=i->i<n->P i=Pr))
  (Q:=λc q=>q=st/\∃l,c=(Pt,l,l)/\l<=n/\(∀i,i<l->P i=Pn)/\(∀i,l<=i->i<n->P i=Pr)) ?_ ?_ ⟨rfl,lo,H,rfl,m,o,QF (ky _ _) o,p,t⟩) ?_)
 ·rintro x c q w F ⟨rfl,l,r,rfl,u,a,v,b,d⟩;dsimp only;refine dw (λg=>QC ?_) λg=>Ql<|B _ _ (by grind) ?_
  ·obtain rfl:l=r:=Nat.le_antisymm u g
   exact⟨rfl,l,rfl,a,b,d⟩
  have q:l+(r-l)/2<r:=by lia
  have p:=tx v (V6 l _) q;cases e:P (l+(r-l)/2)with
  |true=>exact QC ⟨rfl,_,_,rfl,q,a,p.1,λi H=>by grind,d⟩
  |false=>exact QC ⟨rfl,_,_,rfl,by simp,QA (QH q a),p.2,b,λi y z=>by
    cases D:P i with
    |false=>rfl
    |true=>rw[f _ i y z D]at e;cases e⟩
 ·rintro c q ⟨rfl,l,r,rfl,u,a,v,b,d⟩;obtain rfl:l=r:=by grind
  exact⟨rfl,l,rfl,a,b,d⟩
 rintro c q ⟨rfl,l,rfl,a,b,d⟩;exact QC<|h l a b d
theorem B_{k:Nat->Nat->Xr Q9 Sem (M' Nat)}(B:OB C left key arr base n st P)(r:m<=n)(H:∀o,o<m->f o<n)(e:t (P<|f 0)=Pr)(i:1<=m)
  (h:∀l O,l<O->l<m->t (P<|f l)=Pr->(O<m->t (P<|f O)=Pn)->C.W (k l O) Q st):C.W (Gj left key arr base n m f t k) Q st:=by
 refine Ql (T4 (Sx (I:=λx c q=>q=st/\∃l O,c=(Pt,l,O)/\l<O/\x<O/\l<m/\t (P<|f l)=Pr)
  (Q:=λc q=>q=st/\∃l O,c=(Pt,l,O)/\l<O/\l<m/\t (P<|f l)=Pr/\(O<m->t (P<|f O)=Pn)) ?_ ?_ ⟨rfl,0,1,rfl,by simp,by simp,i,e⟩) ?_)
 ·rintro x c q _ u ⟨rfl,l,O,rfl,a,j,b,d⟩;exact dw (λg=>QC ⟨rfl,l,O,rfl,a,b,d,λ_=>absurd g (Nat.not_le_of_lt ‹_›)⟩) λg=>Ql<|B _ _ (by simp_all)<|dw (λG=>QC ⟨rfl,l,O,rfl,a,b,d,λ_=>G⟩) λG=>QC ⟨rfl,_,_,rfl,by lia,by lia,Nat.lt_of_not_le g,by simpa using G⟩
 ·rintro c q ⟨rfl,l,O,rfl,a,j,b,d⟩;exact⟨rfl,l,O,rfl,a,b,d,λ_=>by lia⟩
 rintro c q ⟨rfl,l,O,rfl,a,b,d,p⟩;exact h l O a b d p
theorem lD{H O i:Nat}(a:i<H+1-min O (H+1)):i<=H-O/\O<H+1:=by
 obtain h|h:=VB O (H+1)
 ·rw[Nat.min_eq_left (QA h),Nat.succ_sub (Nat.le_of_lt_succ h)]at a;exact⟨Nat.le_of_lt_succ a,h⟩
 rw[Nat.min_eq_right h,Nat.sub_self]at a;cases a
theorem lE{H O n i:Nat}(G:H<=n)(y:H+min O (n-H)<=i)(c:i<n):H+O<=i/\O<n-H:=by
 obtain h|h:=VB O (n-H)
 ·rw[Nat.min_eq_left (QA h)]at y;exact⟨y,h⟩
 rw[Nat.min_eq_right h,Nat.add_sub_of_le G]at y;exact absurd c (Nat.not_lt.2 y)
theorem Ca(z:kindOf st=C.kd)(N:C.ok key)(r:C.Oks arr)(Z:base+n<=arr.size)(G:H<n)(B:∀i j,i<=j->j<n->C.K arr (base+i)<=C.K arr (base+j))(U:∀i,i<n->C.K arr (base+i)≠C.num key)
  (h:∀k,k<=n->(∀i,i<k->C.K arr (base+i)<C.num key)->(∀i,k<=i->i<n->C.num key<C.K arr (base+i))->Q (gV k) st):C.W (hZ left key arr base n H) Q st:=by
 have b:OB C left key arr base n st λi=>decide (C.K arr (base+i)<C.num key):=λm o J q=>by
  obtain⟨p,L,I,e⟩:=Kl r (i:=base+m) (by lia);have M:=U m J;simp only[e]at q M;refine Ql<|dF L ?_;cases left
  ·refine Ql<|C.lt z N I<|QC ?_;rw[show decide (C.num p<C.num key)=!decide (C.num key<C.num p) by rw[<-decide_not];exact TY.mpr ⟨λ_=>Int.not_lt_of_ge (jl ‹_›),λ_=>by lia⟩]at q;exact q
  exact C.lt z I N q
 have D:∀i j,i<=j->j<n->decide (C.K arr (base+j)<C.num key)=Pn->decide (C.K arr (base+i)<C.num key)=true:=λi j t u g=>PB<|Int.lt_of_le_of_lt (B i j t u)<|PX g;have F:∀i j,i<=j->j<n->decide (C.K arr (base+i)<C.num key)=Pr->decide (C.K arr (base+j)<C.num key)=false:=λi j t u g=>by
  have:=WO g;have:=B i j t u;exact Pu (by lia)
 have X:∀{lo a},lo<=a->a<=n->(∀i,i<lo->decide (C.K arr (base+i)<C.num key)=Pn)->(∀i,a<=i->i<n->decide (C.K arr (base+i)<C.num key)=Pr)->C.W (B9 left key arr base n lo a) Q st:=λv x d f=>
  Km b D v x d f λk P T W=>h k P (λi a=>PX<|T i a) λi y c=>by
   have:=WO<|W i y c;have:=U i c;lia
 rw[wm];refine Ql<|b _ _ G ?_;dsimp only;refine dw (λe=>B_ b (by simp) (by lia) (by rw[F3,e];rfl) (by grind) λl O v x d f=>?_) λe=>B_ b (Nat.le_of_lt_succ (Nat.succ_lt_succ G)) (by grind) (by simpa using e) (by simp) λl O v x d f=>?_
 ·exact X (Zh (Nat.le_min.2 ⟨v,x⟩) H) (QF (Zh (Nat.min_le_right _ _) H) (Nat.le_of_eq (Nat.add_sub_of_le (QA G)))) (λi a=>D i (H+l) (Nat.le_of_lt_succ a) (Nat.add_lt_of_lt_sub' x)<|by simpa using d) λi y c=>F (H+O) i (lE (QA G) y c).1 c (by simpa using f (lE (QA G) y c).2)
 exact X (QF (Nat.sub_le_sub_left (Nat.le_min.2 ⟨v,x⟩) (H+1)) (Nat.le_of_eq (Nat.succ_sub_succ H l))) (QA (SH (ky _ _) G)) (λi a=>D i _ (lD a).1 (SH (ky _ _) G)<|f (lD a).2) λi y c=>F _ i y c d
end
end
abbrev R:=RW Q2
abbrev S:=Xr Q9 Sem
noncomputable def Cb(g:Nat):S YE:=oj λst=>WY (kindOf st) (QE st) (QJ st) g<|SE st
structure Sd where
 arr:R
 ia:Nat->Nat
 na:Nat->Nat
 gal:Px->Q2->Nat->S (M' Nat)
 kk:Nat->Nat->Nat
 ex:Nat->Nat->R
 nx:Nat->Nat->Nat
 v:Nat->ab Q2
structure Mg where
 T:Type->Type
 m:{X:Type}->M' R->R->Nat->Nat->X->T X
 r:{X:Type}->T X->M' R
 o:{X:Type}->T X->R
 i:{X:Type}->T X->Nat
 j:{X:Type}->T X->Nat
 x:{X:Type}->T X->X
 a:Sd
 b:Sd
 sel:{β:Type}->Px->S β->S β->S β
 don:R->Nat->Nat->R
 pa:{β:Type}->R->Nat->Nat->(R->S β)->S β->S β
 pb:{β:Type}->R->Nat->Nat->(R->S β)->S β->S β
 ta:{β:Type}->R->Nat->Nat->(R->S β)->S β->S β
 tb:{β:Type}->R->Nat->Nat->(R->S β)->S β->S β
 n:Nat
noncomputable def Mg.in1(M:Mg)(g:Nat)(c:M.T (Nat×Nat)):S (Uq<|M.T<|Nat×Nat):=do
 let q <-XQ M.b.arr (M.b.ia<|M.j c)
 let p <-XQ M.a.arr (M.a.ia<|M.i c)
 let gV w <-lt' q p|return .done (M.m (gV<|M.don (M.o c) (M.i c)<|M.j c) (M.o c) (M.i c) (M.j c)<|M.x c)
 M.sel w (do
   let p <-XQ M.a.arr (M.a.ia<|M.i c)
   M.pa ((M.o c).push p) (M.a.na<|M.i c) (M.j c) (λx=>return .done<|M.m (gV x) ((M.o c).push p) (M.a.na<|M.i c) (M.j c) ((M.x c).1+1,0))
    (if(M.x c).1+1>=g then return .done (M.m Pt ((M.o c).push p) (M.a.na<|M.i c) (M.j c) ((M.x c).1+1,0))else return .yield (M.m Pt ((M.o c).push p) (M.a.na<|M.i c) (M.j c) ((M.x c).1+1,0))))
  (do
   let q <-XQ M.b.arr (M.b.ia<|M.j c)
   M.pb ((M.o c).push q) (M.i c) (M.b.na<|M.j c) (λx=>return .done<|M.m (gV x) ((M.o c).push q) (M.i c) (M.b.na<|M.j c) (0,(M.x c).2+1))
    (if(M.x c).2+1>=g then return .done (M.m Pt ((M.o c).push q) (M.i c) (M.b.na<|M.j c) (0,(M.x c).2+1))else return .yield (M.m Pt ((M.o c).push q) (M.i c) (M.b.na<|M.j c) (0,(M.x c).2+1))))
section
variable (M:Mg)(mg ac bc:Nat)(o:R)(i j:Nat)
noncomputable def Mg.gC:S (Uq<|M.T<|Nat×Nat×Nat):=do
 let p <-XQ M.a.arr (M.a.ia i)
 M.pa (o.push p) (M.a.na i) j (λx=>return .done<|M.m (gV x) (o.push p) (M.a.na i) j (mg,ac,bc))
  (if(decide (ac<7)&&decide (bc<7))=Pn then return .done (M.m Pt (o.push p) (M.a.na i) j (mg,ac,bc))else return .yield (M.m Pt (o.push p) (M.a.na i) j (mg,ac,bc)))
noncomputable def Mg.gB:S (Uq<|M.T<|Nat×Nat×Nat):=do
 let q <-XQ M.b.arr (M.b.ia j)
 M.pb (o.push q) i (M.b.na j) (λx=>return .done<|M.m (gV x) (o.push q) i (M.b.na j) (mg,ac,bc)) (do
  let gV u <-M.b.gal Pn (<-XQ M.a.arr<|M.a.ia i) (M.b.na j)|return .done (M.m (gV<|M.don (o.push q) i<|M.b.na j) (o.push q) i (M.b.na j) (mg,ac,bc))
  if M.b.kk (M.b.na j) u>0 then
   M.tb (o.push q++M.b.ex (M.b.na j) u) i (M.b.nx (M.b.na j) u) (λx=>return .done<|M.m (gV x) (o.push q++M.b.ex (M.b.na j) u) i (M.b.nx (M.b.na j) u) (mg,ac,M.b.kk (M.b.na j) u))
    (M.gC mg ac (M.b.kk (M.b.na j) u) (o.push q++M.b.ex (M.b.na j) u) i<|M.b.nx (M.b.na j) u)
  else M.gC mg ac (M.b.kk (M.b.na j) u) (o.push q) i (M.b.na j))
noncomputable def Mg.gA:S (Uq<|M.T<|Nat×Nat×Nat):=do
 Cb mg
 let gV u <-M.a.gal Pr (<-XQ M.b.arr<|M.b.ia j) i|return .done (M.m (gV<|M.don o i j) o i j (mg,ac,bc))
 if M.a.kk i u>0 then
  M.ta (o++M.a.ex i u) (M.a.nx i u) j (λx=>return .done<|M.m (gV x) (o++M.a.ex i u) (M.a.nx i u) j (mg,M.a.kk i u,bc))
   (M.gB mg (M.a.kk i u) bc (o++M.a.ex i u) (M.a.nx i u) j)
 else M.gB mg (M.a.kk i u) bc o i j
noncomputable def Mg.out(c:M.T Nat):S (Uq<|M.T Nat):=do
 let d <-forIn [0:M.n] (M.m Pt (M.o c) (M.i c) (M.j c) (0,0)) λ_=>M.in1 (M.x c)
 match M.r d with
 |some r=>return .done<|M.m (gV r) (M.o d) (M.i d) (M.j d)<|M.x c
 |none=>
  rule "list.sort.gallop"
  let C <-forIn [0:M.n] (M.m Pt (M.o d) (M.i d) (M.j d) (M.x c+1,M.x d)) λ_ c=>
   if(M.x c).1>1 then M.gA ((M.x c).1-1) (M.x c).2.1 (M.x c).2.2 (M.o c) (M.i c) (M.j c)else M.gA (M.x c).1 (M.x c).2.1 (M.x c).2.2 (M.o c) (M.i c) (M.j c)
  match M.r C with
  |some r=>return .done<|M.m (gV r) (M.o C) (M.i C) (M.j C) (M.x C).1
  |none=>
   Cb ((M.x C).1+1)
   return .yield (M.m Pt (M.o C) (M.i C) (M.j C)<|(M.x C).1+1)
noncomputable def Mg.run:S R:=do
 let c <-forIn [0:M.n] (M.m Pt o i j<|gallopOf (<-get)) λ_=>M.out
 match M.r c with
 |some r=>return r
 |none=>unsupported "internal:list.sort.merge-bound"
end
noncomputable def OC(a:R):Sd where
 arr:=a
 ia:=λi=>i
 na:=λi=>i+1
 gal:=λl q i=>hZ l q a i (a.size-i) 0
 kk:=λ_ u=>u
 ex:=λi u=>a.extract i (i+u)
 nx:=λi u=>i+u
 v:=λi=>a.toList.drop i
noncomputable def N3(a:R):Sd where
 arr:=a
 ia:=λi=>i-1
 na:=λi=>i-1
 gal:=λl q i=>hZ l q a 0 i (i-1)
 kk:=λi u=>i-u
 ex:=λi u=>(a.extract u i).reverse
 nx:=λ_ u=>u
 v:=λi=>(a.toList.take i).reverse
noncomputable def IB(a b o:R)(i j:Nat):R:=o++a.extract i a.size++b.extract j b.size
noncomputable def LY(a b o:R)(i j:Nat):R:=o++b.extract j b.size++a.extract i a.size
noncomputable def FN(a b:R):Mg where
 T:=λX=>M' R×R×Nat×Nat×X
 m:=λr o i j x=>(r,o,i,j,x)
 r:=λc=>c.1
 o:=λc=>c.2.1
 i:=λc=>c.2.2.1
 j:=λc=>c.2.2.2.1
 x:=λc=>c.2.2.2.2
 a:=OC a
 b:=OC b
 sel:=λw x y=>if w=Pn then y else x
 don:=IB a b
 pa:=λo i j f k=>if(i+1 == a.size)=Pn then f (LY a b o i j)else k
 pb:=λo i j f k=>if(j == b.size)=Pn then f (IB a b o i j)else k
 ta:=λo i j f k=>if(i+1 == a.size)=Pn then f (LY a b o i j)else if(i == a.size)=Pn then f (IB a b o i j)else k
 tb:=λo i j f k=>if(j == b.size)=Pn then f (IB a b o i j)else k
 n:=a.size+b.size
noncomputable def IC(a b o:R)(i j:Nat):R:=a.extract 0 i++b.extract 0 j++o.reverse
noncomputable def LZ(a b o:R)(i j:Nat):R:=b.extract 0 j++a.extract 0 i++o.reverse
noncomputable def Cc(a b:R):Mg where
 T:=λX=>M' R×Nat×Nat×R×X
 m:=λr o i j x=>(r,i,j,o,x)
 r:=λc=>c.1
 o:=λc=>c.2.2.2.1
 i:=λc=>c.2.1
 j:=λc=>c.2.2.1
 x:=λc=>c.2.2.2.2
 a:=N3 a
 b:=N3 b
 sel:=λw x y=>if w=Pn then x else y
 don:=IC a b
 pa:=λo i j f k=>if(i == 0)=Pn then f (IC a b o i j)else k
 pb:=λo i j f k=>if(j == 1)=Pn then f (LZ a b o i j)else k
 ta:=λo i j f k=>if(i == 0)=Pn then f (IC a b o i j)else k
 tb:=λo i j f k=>if(j == 1)=Pn then f (LZ a b o i j)else if(j == 0)=Pn then f (IC a b o i j)else k
 n:=a.size+b.size
noncomputable def OE:R->R->S R:=sortPriv% PySem.Builtin.mergeLo
noncomputable def OF:R->R->S R:=sortPriv% PySem.Builtin.mergeHi
theorem Kn(a b:R):OE a b=(do
 rule "list.sort.merge-lo"
 let q <-XQ b 0
 if(1 == b.size)=Pn then return IB a b #[q] 0 1
 else if(0+1 == a.size)=Pn then return LY a b #[q] 0 1
 else(FN a b).run #[q] 0 1):=by kernel_rfl
theorem Ko(a b:R):OF a b=(do
 rule "list.sort.merge-hi"
 let p <-XQ a (a.size-1)
 if(a.size-1 == 0)=Pn then return IC a b #[p] (a.size-1) b.size
 else if(b.size == 1)=Pn then return LZ a b #[p] (a.size-1) b.size
 else(Cc a b).run #[p] (a.size-1) b.size):=by kernel_rfl
structure MI (r:Q2->Q2->Prop)(z o x y:ab Q2):Prop where
 p:(o++(x++y)).Perm z
 u:(o++x).Pairwise r
 v:(o++y).Pairwise r
theorem MI.sw(h:MI r z o x y):MI r z o y x:=⟨(List.perm_append_comm.append_left o).trans h.p,h.v,h.u⟩
theorem MI.ta(T:∀a b c,r a b->r b c->r a c)(h:MI r z o (t++x) (q::y))(g:∀c∈t,r c q):MI r z (o++t) x (q::y):=by
 have u:=h.u;rw[<-Qu]at u;have v:=RK.mp h.v;refine⟨by simpa using h.p,u,RK.mpr ⟨(RK.mp u).1,v.2.1,λc H d e=>?_⟩⟩;obtain H|H:=P5.mp H
 ·exact v.2.2 c H d e
 obtain rfl|e:=P_.mp e
 ·exact g c H
 exact T _ _ _ (g c H)<|W_ v.2.1 e
section
variable {C:Cm prog w A E s}{r:Q2->Q2->Prop}{z:ab Q2}{st:Q9}{M:Mg}{la lb:Nat}{α:Type}
theorem Cd{prog:PU}{w:Qc}{A:Q0}{E:Pm->PF->Prop}{s:PF}(h:Q () (WY (kindOf st) (QE st) (QJ st) g<|SE st)):wpS (Qj prog w) A E s (Cb g) Q st:=X5 h
structure Gk (C:Cm prog w A E s)(r:Q2->Q2->Prop)(D:Sd):Prop where
 at_:∀{i p t},i<=D.arr.size->D.v i=p::t->D.arr[D.ia i]?=gV p/\D.v (D.na i)=t/\D.na i<=D.arr.size
 gal:∀{l q i Q st},i<=D.arr.size->kindOf st=C.kd->C.ok q->D.v i≠[]->(∀c∈D.v i,C.num c≠C.num q)->
  (∀u,D.nx i u<=D.arr.size->D.v i=(D.ex i u).toList++D.v (D.nx i u)->(∀c∈(D.ex i u).toList,r c q)->(∀c∈D.v (D.nx i u),r q c)->(¬D.kk i u>0->(D.ex i u).toList=[])->Q (gV u) st)->C.W (D.gal l q i) Q st
def ui(C:Cm prog w A E s)(z:ab Q2)(x:R):Prop:=x.toList.Perm z/\x.toList.Pairwise λa b=>C.num a<C.num b
structure MS (M:Mg)(r:Q2->Q2->Prop)(z:ab Q2)(o:R)(i j:Nat):Prop where
 m:MI r z o.toList (M.a.v i) (M.b.v j)
 i:i<=M.a.arr.size
 j:j<=M.b.arr.size
structure Kp (C:Cm prog w A E s)(M:Mg)(r:Q2->Q2->Prop)(z:ab Q2)(la lb:Nat):Prop where
 er:∀{X e o i j} {x:X},M.r (M.m e o i j x)=e
 eo:∀{X e o i j} {x:X},M.o (M.m e o i j x)=o
 ei:∀{X e o i j} {x:X},M.i (M.m e o i j x)=i
 ej:∀{X e o i j} {x:X},M.j (M.m e o i j x)=j
 ex:∀{X e o i j} {x:X},M.x (M.m e o i j x)=x
 n:M.n=z.length
 tr:∀a b c,r a b->r b c->r a c
 nd:(z.map C.num).Nodup
 ok:∀c∈z,C.ok c
 a:Gk C r M.a
 b:Gk C r M.b
 l1:1<=la
 l2:1<=lb
 sel:∀{α p q} {x y:S α} {Q st},C.num p≠C.num q->(r p q->C.W x Q st)->(r q p->C.W y Q st)->C.W (M.sel (decide (C.num q<C.num p)) x y) Q st
 pa:∀{α o i j} {f:R->S α} {k Q st},MS M r z o i j->la<=(M.a.v i).length+1->(∀x,ui C z x->C.W (f x) Q st)->(la<=(M.a.v i).length->C.W k Q st)->C.W (M.pa o i j f k) Q st
 pb:∀{α o i j} {f:R->S α} {k Q st},MS M r z o i j->lb<=(M.b.v j).length+1->(∀x,ui C z x->C.W (f x) Q st)->(lb<=(M.b.v j).length->C.W k Q st)->C.W (M.pb o i j f k) Q st
 ta:∀{α o i j} {f:R->S α} {k Q st},MS M r z o i j->(∀x,ui C z x->C.W (f x) Q st)->(la<=(M.a.v i).length->C.W k Q st)->C.W (M.ta o i j f k) Q st
 tb:∀{α o i j} {f:R->S α} {k Q st},MS M r z o i j->(∀x,ui C z x->C.W (f x) Q st)->(lb<=(M.b.v j).length->C.W k Q st)->C.W (M.tb o i j f k) Q st
structure Iv (M:Mg)(r:Q2->Q2->Prop)(z:ab Q2)(la lb:Nat)(n:Nat)(o:R)(i j:Nat):Prop where
 m:MS M r z o i j
 a:la<=(M.a.v i).length
 b:lb<=(M.b.v j).length
 n:(M.a.v i).length+(M.b.v j).length+n<=z.length
theorem MI.ne(h:MI r z o x y)(n:(z.map C.num).Nodup)(H:c∈x)(a:q∈y):C.num c≠C.num q:=by
 have:=(h.p.map _).nodup_iff.mpr n;rw[P6,P6]at this;exact(Rw.mp (Rw.mp this).2.1).2.2 _ (Rp H) _<|Rp a
theorem qE{l:ab Q2}{n:Nat}(H:1<=n)(h:n<=l.length):∃p t,l=p::t:=by
 cases l with
 |nil=>simp_all
 |cons p t=>exact⟨p,t,rfl⟩
def Go(C:Cm prog w A E s)(M:Mg)(r:Q2->Q2->Prop)(z:ab Q2)(la lb n:Nat){X:Type}(c:M.T X):Prop:=(∃x,M.r c=gV x/\ui C z x)\/∃o i j e,c=M.m Pt o i j e/\Iv M r z la lb n o i j
variable (K:Kp C M r z la lb)
include K
theorem Ce(m:MS M r z o i j)(e:M.a.v i=p::t)(a:M.b.v j=q::u)(g:r p q):MS M r z (o.push p) (M.a.na i) j:=by
 obtain⟨y,c,d⟩:=K.a.at_ m.i e;have b:=m.m;refine⟨?_,d,m.j⟩;rw[c,Xp,a];rw[e,a]at b;exact MI.ta K.tr b (by simpa using g)
theorem Cf(m:MS M r z o i j)(e:M.a.v i=p::t)(a:M.b.v j=q::u)(g:r q p):MS M r z (o.push q) i (M.b.na j):=by
 obtain⟨y,c,d⟩:=K.b.at_ m.j a;have b:=m.m;refine⟨?_,m.i,d⟩;rw[c,Xp,e];rw[e,a]at b;exact(MI.ta K.tr b.sw<|by simpa using g).sw
theorem N4(I:Iv M r z la lb n o i j):∃p t q u,M.a.v i=p::t/\M.b.v j=q::u/\C.ok p/\C.ok q/\C.num p≠C.num q/\M.a.arr[M.a.ia i]?=gV p/\M.b.arr[M.b.ia j]?=gV q/\M.a.v (M.a.na i)=t/\M.b.v (M.b.na j)=u:=by
 obtain⟨p,t,e⟩:=qE K.l1 I.a;obtain⟨q,u,a⟩:=qE K.l2 I.b;exact⟨p,t,q,u,e,a,K.ok p (I.m.m.p.mem_iff.mp<|by simp[e]),K.ok q (I.m.m.p.mem_iff.mp<|by simp[a]),I.m.m.ne K.nd (by simp[e]) (by simp[a]),(K.a.at_ I.m.i e).1,(K.b.at_ I.m.j a).1,(K.a.at_ I.m.i e).2.1,(K.b.at_ I.m.j a).2.1⟩
theorem MF(B:kindOf st=C.kd)(I:Iv M r z la lb n o i j):C.W (M.in1 J<|M.m Pt o i j e) (λx Q=>Q=st/\match x with|.done c=>Go C M r z la lb (n+1) c|.yield c=>∃o i j e,c=M.m Pt o i j e/\Iv M r z la lb (n+1) o i j) st:=by
 obtain⟨p,t,q,u,b,d,O,D,F,G,k,N,l⟩:=N4 K I;have H:=I.n;have v:=I.a;have y:=I.b;rw[b]at H v;rw[d]at H y;rw[P4]at H v y;rw[P4]at H;unfold Mg.in1;rw[K.eo,K.ei,K.ej];refine Ql<|dF k<|Ql<|dF G<|Ql<|C.lt B D O<|K.sel F (λg=>?_) λg=>?_
 ·refine Ql<|dF G ?_;have m:=Ce K I.m b d g;refine K.pa m (by simp_all) (λx f=>QC ⟨rfl,.inl ⟨x,K.er,f⟩⟩) λh=>?_;have a:Iv M r z la lb (n+1) _ _ j:=⟨m,h,I.b,by rw[N,d,P4];lia⟩;exact dw (λw=>QC ⟨rfl,.inr ⟨_,_,_,_,rfl,a⟩⟩) λw=>QC ⟨rfl,_,_,_,_,rfl,a⟩
 refine Ql<|dF k ?_;have m:=Cf K I.m b d g;refine K.pb m (by simp_all) (λx f=>QC ⟨rfl,.inl ⟨x,K.er,f⟩⟩) λh=>?_;have a:Iv M r z la lb (n+1) _ i _:=⟨m,I.a,h,by rw[l,b,P4];lia⟩;exact dw (λw=>QC ⟨rfl,.inr ⟨_,_,_,_,rfl,a⟩⟩) λw=>QC ⟨rfl,_,_,_,_,rfl,a⟩
def gj(st l:Q9):Prop:=kindOf l=kindOf st/\QE l=QE st/\QJ l=QJ st/\SE l=SE st
abbrev Kq(C:Cm prog w A E s)(M:Mg)(r:Q2->Q2->Prop)(z:ab Q2)(la lb n:Nat)(st:Q9){X:Type}(x:Uq (M.T X))(l:Q9):Prop:=gj st l/\match x with|.done c=>Go C M r z la lb n c|.yield c=>∃o i j e,c=M.m Pt o i j e/\Iv M r z la lb n o i j
theorem MG(H:gj a st)(I:Iv M r z la lb n o i j)(g:∀p q t u,M.a.v i=p::t->M.b.v j=q::u->r p q):C.W (M.gC v y B o i j) (Kq C M r z la lb n a) st:=by
 obtain⟨p,t,q,u,e,b,w,w,w,G,D,c,w⟩:=N4 K I;have f:=I.a;have k:=I.n;rw[e,P4]at f k;have m:=Ce K I.m e b<|g p q t u e b;refine Ql<|dF G<|K.pa m (by simp_all) (λx l=>QC ⟨H,.inl ⟨x,K.er,l⟩⟩) λh=>?_;have d:Iv M r z la lb n _ _ j:=⟨m,h,I.b,by rw[c];lia⟩;exact dw (λw=>QC ⟨H,.inr ⟨_,_,_,_,rfl,d⟩⟩) λw=>QC ⟨H,_,_,_,_,rfl,d⟩
theorem MH(F:kindOf a=C.kd)(H:gj a st)(I:Iv M r z la lb n o i j)(g:∀p q t u,M.a.v i=p::t->M.b.v j=q::u->r q p):C.W (M.gB mg ac bc o i j) (Kq C M r z la lb n a) st:=by
 obtain⟨p,t,q,u,e,d,O,w,w,J,L,w,f⟩:=N4 K I;have N:=I.b;have P:=I.n;rw[d,P4]at N P;have m:=Cf K I.m e d<|g p q t u e d;refine Ql<|dF L<|K.pb m (by simp_all) (λx k=>QC ⟨H,.inl ⟨x,K.er,k⟩⟩) λh=>?_;have T:∀c∈M.b.v _,C.num c≠C.num p:=λc U=>(m.m.ne K.nd (by simp[e]) U).symm;refine Ql<|dF J<|Ql<|K.b.gal m.j (H.1.trans F) O (λz=>by rw[z]at h;exact absurd (QF K.l2 h)<|by decide) T λu W G X v Y=>?_;have y:=Qq Q4 G;rw[Pl]at y;refine dw (λw=>?_) λZ=>?_
 ·have B:MS M r z (o.push q++M.b.ex (M.b.na j) u) i (M.b.nx (M.b.na j) u):=by
   have D:=m.m;refine⟨?_,m.i,W⟩;rw[UY];rw[e,G]at D;rw[e];exact(MI.ta K.tr D.sw X).sw
  refine K.tb B (λx k=>QC ⟨H,.inl ⟨x,K.er,k⟩⟩) λh2=>MG K H ⟨B,I.a,h2,by lia⟩ λp' Q t' u' b l=>?_;simp_all
 rw[Y Z,Ul]at G;refine MG K H ⟨m,I.a,h,by rw[f];lia⟩ λp' Q t' u' b l=>?_;rw[e]at b;cases b;exact v Q (by simp[<-G,l])
theorem MJ(H:kindOf a=C.kd)(d:gj a st)(I:Iv M r z la lb n o i j):C.W (M.gA l Z bc o i j) (Kq C M r z la lb n a) st:=by
 obtain⟨p,t,q,u,v,e,op,O,w,gp,y,w⟩:=N4 K I;have hn:=I.n;have N:∀c∈M.a.v i,C.num c≠C.num q:=λc B=>I.m.m.ne K.nd B (by simp[e]);refine Ql<|Cd<|Ql<|dF y<|Ql<|K.a.gal I.m.i (d.1.trans H) O (by simp[v]) N λu D g F G J=>?_;have h:=d;have L:=Qq Q4 g;rw[Pl]at L;refine dw (λw=>?_) λQ=>?_
 ·have k:MS M r z (o++M.a.ex i u) (M.a.nx i u) j:=by
   have m:=I.m.m;refine⟨?_,D,I.m.j⟩;rw[UY];rw[e,g]at m;rw[e];exact MI.ta K.tr m F
  refine K.ta k (λx T=>QC ⟨d,.inl ⟨x,K.er,T⟩⟩) λU=>MH K H h ⟨k,U,I.b,by lia⟩ λP W X Y f b=>?_;simp_all
 rw[J Q]at g;refine MH K H h I λP W X Y f b=>?_;simp_all
theorem ID(k:kindOf st=C.kd)(I:Iv M r z la lb 1 o i j)(q:∀x a,gj st a->ui C z x->Q x a):C.W (M.run o i j) Q st:=by
 have B:∀{n o i j},Iv M r z la lb n o i j->n<z.length:=λI=>by
  have:=I.a;have:=I.n;have:=K.l1;lia
 refine Ql<|Xi<|Ql<|T4 (Sx (I:=λx c a=>gj st a/\∃o i j e,c=M.m Pt o i j e/\Iv M r z la lb (x+1) o i j) (Q:=λc a=>gj st a/\∃x,M.r c=gV x/\ui C z x) ?_ ?_ ⟨⟨rfl,rfl,rfl,rfl⟩,_,_,_,_,rfl,I⟩) ?_
 ·rintro n c a y p ⟨g,o,i,j,e,rfl,I⟩;unfold Mg.out;rw[K.eo,K.ei,K.ej];refine Ql<|T4 (Sx (I:=λx c b=>b=a/\∃o i j e,c=M.m Pt o i j e/\Iv M r z la lb (n+1+x) o i j) (Q:=λc b=>b=a/\Go C M r z la lb (n+2) c) ?_ ?_ ⟨rfl,_,_,_,_,rfl,I⟩) ?_
  ·rintro x c b y d ⟨rfl,o,i,j,e,rfl,I⟩;refine T4 (MF K (g.1.trans k) I) ?_;rintro (c|c) Z ⟨rfl,h⟩
   ·refine⟨rfl,h.imp id (by rintro ⟨o,i,j,e,l,f⟩;exact ⟨o,i,j,e,l,f.m,f.a,f.b,by have:=f.n;lia⟩)⟩
   exact⟨rfl,h⟩
  ·rintro c b ⟨y,o,i,j,e,rfl,I⟩;have:=B I;have:=K.n;lia
  rintro c b ⟨rfl,⟨x,e,d⟩|⟨o,i,j,e,rfl,I⟩⟩
  ·rw[e];exact QC ⟨g,x,K.er,d⟩
  rw[K.er];refine Ql<|YQ<|TM ⟨rfl,?_⟩;rw[K.eo,K.ei,K.ej];refine Ql<|T4 (Sx (I:=λy c Z=>gj st Z/\∃o i j e,c=M.m Pt o i j e/\Iv M r z la lb _ o i j) (Q:=λc Z=>gj st Z/\Go C M r z la lb _ c) ?_ (by rintro y y ⟨l,f⟩;exact ⟨l,.inr f⟩) ⟨g,_,_,_,_,rfl,I⟩) ?_
  ·rintro x c Z y y ⟨H,o,i,j,e,rfl,I⟩;rw[K.eo,K.ei,K.ej];refine dw (λy=>T4 (MJ K k H I) ?_) λy=>T4 (MJ K k H I) ?_<;>(rintro (c|c) m h<;>exact h)
  rintro c Z ⟨H,⟨x,e,d⟩|⟨o,i,j,e,rfl,I⟩⟩
  ·rw[e];exact QC ⟨H,x,K.er,d⟩
  rw[K.er];refine Ql<|Cd<|QC ⟨H,_,_,_,_,rfl,?_⟩;rwa[K.eo,K.ei,K.ej]
 ·rintro c a ⟨y,o,i,j,e,rfl,I⟩;have:=B I;have:=K.n;lia
 rintro c a ⟨g,x,e,d⟩;rw[e];exact QC<|q x a g d
end
section
variable {C:Cm prog w A E s}{z o x y:ab Q2}{st:Q9}{a b:R}
theorem MI.end1(h:MI r z o x y)(e:x=[]\/y=[]):(o++(x++y)).Pairwise r:=by
 obtain rfl|rfl:=e
 ·exact h.v
 simpa using h.u
theorem MI.end2{p:Q2}(t:∀a b c,r a b->r b c->r a c)(h:MI r z o [p] y)(g:∀c∈y,r c p):(o++(y++[p])).Pairwise r:=by
 have H:=h.sw;rw[<-QN y]at H;simpa using(MI.ta t H g).v
abbrev Cm.lo(C:Cm prog w A E s)(x y:Q2):Prop:=C.num x<C.num y
theorem wo(e:a.toList=P++(x++T))(h:i<x.length):C.K a (P.length+i)=C.num x[i]:=by
 unfold Cm.K;rw[<-Rl,e,PV (V6 ..),XR,PL h,K' h];rfl
theorem yd{l:Px}{Q:M' Nat->Q9->Prop}(e:a.toList=P++(x++T))(B:u=P.length)(D:n=x.length)(F:C.Oks a)(G:x.Pairwise C.lo)(I:kindOf st=C.kd)(J:C.ok q)(L:H<n)(U:∀c∈x,C.num c≠C.num q)
  (h:∀k,k<=n->(∀c∈x.take k,C.lo c q)->(∀c∈x.drop k,C.lo q c)->Q (gV k) st):C.W (hZ l q a u n H) Q st:=by
 subst B D;have M:=Qq Q4 e;simp only[Qi]at M;refine Ca I J F (by simp_all) L (λi j f d=>?_) (λi v=>?_) λk f d N=>h k f (λc p=>?_) λc p=>?_
 ·rw[wo e d,wo e<|SH f d];obtain e|g:=Ue f
  ·subst e;exact Vo _
  exact jl<|SD.mp G i j _ d g
 ·rw[wo e v];exact U _<|Su v
 ·obtain⟨m,r,t⟩:=TV p;rw[P9]at r;have:=d m (by simp_all);rw[wo e<|by exact QH r (V5 _ _)]at this;rwa[<-t,Xm]
 obtain⟨m,r,t⟩:=TV p;rw[Q8]at r;have:=N (k+m) (by simp) (by lia);rw[wo e<|by lia]at this;rwa[<-t,List.getElem_drop]
theorem iw{prog:PU}{w:Qc}{A:Q0}{E:Pm->PF->Prop}{s:PF}{c:Type}{i n:Nat}{x y:S c}{Q:c->Q9->Prop}(h:i=n->wpS (Qj prog w) A E s x Q st)(H:¬i=n->wpS (Qj prog w) A E s y Q st):wpS (Qj prog w) A E s (if(i == n)=Pn then x else y) Q st:=
 dw (λe=>h<|by simpa using e) λe=>H (by simpa using e)
theorem qF(i k:Nat):(a.extract i<|i+k).toList=(a.toList.drop i).take k:=by
 simp
theorem Cg(f:C.Oks a)(g:a.toList.Pairwise C.lo):Gk C C.lo (OC a) where
 at_:=λ{i p t} y e=>by
  have d:a.toList.drop i=p::t:=e;have h:=Qq (·[0]?) d;simp at h;exact⟨h,by show a.toList.drop (i+1)=t;rw[<-List.tail_drop,d];rfl,(Array.getElem?_eq_some_iff.mp h).1⟩
 gal:=λ{l q i Q st} H j m v U h=>by
  have H:i<=a.size:=H;have D:i≠a.size:=λz=>v (S9<|by simp_all);refine yd (P:=a.toList.take i) (T:=[]) (by simp) (by simp_all) (by simp) f (g.sublist (Xn ..)) j m (Nat.sub_pos_of_lt (Nat.lt_of_le_of_ne H D)) U λk F n r=>h k (by show i+k<=a.size;grind) ?_ (qF i k▸n) (λc u=>r c<|by rwa[W4]) λB=>?_
  ·show a.toList.drop i=(a.extract i<|i+k).toList++a.toList.drop (i+k)
   rw[qF,<-W4,Q5]
  obtain rfl:k=0:=Yd B;exact qF i 0
theorem Ch(n:C.Oks a)(r:a.toList.Pairwise C.lo):Gk C (λx y=>C.lo y x) (N3 a) where
 at_:=λ{i p t} H e=>by
  have H:i<=a.size:=H;have h:=Qq Tu (show(a.toList.take i).reverse=p::t from e);rw[UI,UA]at h;cases i with
  |zero=>simp at h
  |succ i=>
   rw[VD<|by simpa using by exact QH (Tf _) H]at h;obtain⟨j,f⟩:=List.append_inj' h rfl;refine⟨?_,?_,j' H⟩
   ·show a[i]?=gV p
    rw[WC a i<|by exact QH (Tf _) H];simpa using f
   show(a.toList.take i).reverse=t
   rw[j,UI]
 gal:=λ{l q i Q st} H u v B U h=>by
  have H:i<=a.size:=H;have F:i≠0:=λz=>B (by subst z;rfl);refine yd (P:=[]) (T:=a.toList.drop i) (by simp) rfl (by simpa using by exact Eq.symm (Wu H)) n (r.sublist (Uz ..)) u v (by lia) (λc d=>U c<|V7.mpr d) λk j f m=>?_;have g:=qF (a:=a) k<|i-k;rw[show k+(i-k)=i by exact Nat.add_sub_of_le j]at g;rw[List.drop_take]at m;rw[WZ,show min k i=k by exact Wu j]at f;refine h k (QF j H) ?_ (λc d=>m c<|by simpa[N3]using d) (λc d=>f c<|V7.mp d) λD=>?_
  ·show(a.toList.take i).reverse=(a.extract k i).reverse.toList++(a.toList.take k).reverse
   rw[Y4,<-List.reverse_append,g,<-List.take_add,show k+(i-k)=i by exact Nat.add_sub_of_le j]
  show(a.extract k i).reverse.toList=[]
  rw[Y4,g,show i-k=0 from Yd D];rfl
theorem MK(p:R)(i j:Nat):(IB a b p i j).toList=p.toList++(a.toList.drop i++b.toList.drop j):=by
 simp[IB,PJ]
theorem ML(p:R)(i j:Nat):(LY a b p i j).toList=p.toList++(b.toList.drop j++a.toList.drop i):=by
 simp[LY,PJ]
theorem MM(p:R):(IC a b p i j).toList=(p.toList++((b.toList.take j).reverse++(a.toList.take i).reverse)).reverse:=by
 simp[IC]
theorem MN(p:R):(LZ a b p i j).toList=(p.toList++((a.toList.take i).reverse++(b.toList.take j).reverse)).reverse:=by
 simp[LZ]
section
variable (ka:C.Oks a)(kb:C.Oks b)(sa:a.toList.Pairwise C.lo)(sb:b.toList.Pairwise C.lo)(nd:((a.toList++b.toList).map C.num).Nodup)
include ka kb sa sb nd
theorem Kr(g:∀c∈b.toList,∀p∈a.toList.drop (a.size-1),C.lo c p):Kp C (FN a b) C.lo (a.toList++b.toList) 2 1:=by
 have l:∀i,((FN a b).a.v i).length=a.size-i:=λi=>by show(a.toList.drop i).length=_;simp
 have f:∀j,((FN a b).b.v j).length=b.size-j:=λj=>by show(b.toList.drop j).length=_;simp
 have D:∀{o i j},MS (FN a b) C.lo (a.toList++b.toList) o i j->(i=a.size\/j=b.size)->ui C (a.toList++b.toList) (IB a b o i j):=λ{o i j} m e=>by
  unfold ui;rw[MK];exact⟨m.m.p,m.m.end1<|e.imp (λe=>RG.mp<|by simp_all) λe=>RG.mp<|by simp_all⟩
 have L:∀{o i j},MS (FN a b) C.lo (a.toList++b.toList) o i j->i+1=a.size->ui C (a.toList++b.toList) (LY a b o i j):=λ{o i j} m e=>by
  have d:=RL (l:=a.toList) (i:=i) (QH (Tf _) (VC e));rw[S9 (l:=a.toList) (i:=i+1)<|by simpa using by exact VC (Eq.symm e)]at d;have M:MI C.lo (a.toList++b.toList) o.toList (a.toList.drop i) (b.toList.drop j):=m.m;unfold ui;rw[ML,d];rw[d]at M;exact⟨M.sw.p,M.end2 (λw w w=>S_) λc k=>g c (UK k) _<|by rw[show a.size-1=i by lia,d];exact Pw.mpr rfl⟩
 refine⟨rfl,rfl,rfl,rfl,rfl,by simp[FN],λw w w=>S_,nd,λc k=>(P5.mp k).elim (ka c)<|kb c,Cg ka sa,Cg kb sb,by simp,by simp,λ{u p q x y Q st} N r t=>?_,λm n H h=>?_,λm n H h=>?_,λm H h=>?_,λm H h=>?_⟩
 ·exact dw (λe=>t<|PX e) λe=>r<|(ZS<|zz.mp λz=>e<|PB z).resolve_right N
 ·rw[l]at n h;exact iw (λe=>H _<|L m e) λe=>h (by lia)
 ·rw[f]at h;have:_<=b.size:=m.j;exact iw (λe=>H _<|D m<|.inr e) λe=>h (by lia)
 ·rw[l]at h;have:_<=a.size:=m.i;exact iw (λe=>H _<|L m e) λe=>iw (λe=>H _<|D m<|.inl e) λe=>h (by lia)
 rw[f]at h;have:_<=b.size:=m.j;exact iw (λe=>H _<|D m<|.inr e) λe=>h (by lia)
theorem Ks(g:∀c∈a.toList,∀q∈b.toList.take 1,C.lo q c):Kp C (Cc a b) (λx y=>C.lo y x) (a.toList++b.toList) 1 2:=by
 have n:∀i,((Cc a b).a.v i).length=min i a.size:=λi=>by show(a.toList.take i).reverse.length=_;simp
 have r:∀j,((Cc a b).b.v j).length=min j b.size:=λj=>by show(b.toList.take j).reverse.length=_;simp
 have v:∀{l:ab Q2},l.Perm (a.toList++b.toList)->l.Pairwise (λx y=>C.lo y x)->l.reverse.Perm _/\l.reverse.Pairwise _:=λd f=>⟨(Xl _).trans d,VT.mpr f⟩;have D:∀{o i j},MS (Cc a b) _ _ o i j->(i=0\/j=0)->ui C _ _:=λ{o i j} m e=>by
  unfold ui;rw[MM];exact v m.m.sw.p (m.m.sw.end1<|e.symm.imp (λe=>by subst e;rfl) λe=>by subst e;rfl)
 have L:∀{o i j},MS (Cc a b) _ _ o i j->j=1->ui C _ (LZ a b o i j):=λ{o i j} m e=>by
  subst e;have B:1<=b.size:=m.j;have t:=VD (by assumption);have M:MI _ _ _ _ (b.toList.take 1).reverse:=m.m;unfold ui;rw[MN,t];rw[t]at M g;exact v M.p<|M.sw.end2 (λw w w d f=>S_ f d) λc k=>g c (Ss<|V7.mp k) _<|Pw.mpr rfl
 refine⟨rfl,rfl,rfl,rfl,rfl,by simp[Cc],λw w w d f=>S_ f d,nd,λc k=>(P5.mp k).elim (ka c)<|kb c,Ch ka sa,Ch kb sb,by simp,by simp,λ{F p q x y Q st} N d f=>?_,λm u H h=>?_,λm u H h=>?_,λm H h=>?_,λm H h=>?_⟩
 ·exact dw (λe=>d<|PX e) λe=>f<|(ZS<|zz.mp λz=>e<|PB z).resolve_right N
 ·rw[n]at h;have:_<=a.size:=m.i;exact iw (λe=>H _<|D m<|.inl e) λe=>h (by lia)
 ·rw[r]at u h;have:_<=b.size:=m.j;exact iw (λe=>H _<|L m e) λe=>h (by lia)
 ·rw[n]at h;have:_<=a.size:=m.i;exact iw (λe=>H _<|D m<|.inl e) λe=>h (by lia)
 rw[r]at h;have:_<=b.size:=m.j;exact iw (λe=>H _<|L m e) λe=>iw (λe=>H _<|D m<|.inr e) λe=>h (by lia)
variable (hk:kindOf st=C.kd)(na:1<=a.size)(nb:1<=b.size)(g0:∀ c∈a.toList,∀ q∈b.toList.take 1,C.lo q c)(g1:∀ c∈b.toList,∀ p∈a.toList.drop (a.size-1),C.lo c p){Q:R->Q9->Prop}(h:∀ x Sl,gj st Sl->ui C (a.toList++b.toList) x->Q x Sl)
include hk na nb g0 g1 h
theorem OG:C.W (OE a b) Q st:=by
 have K:=Kr ka kb sa sb nd g1;obtain⟨p,t,e⟩:=qE (l:=(FN a b).a.v 0) (Po 1) (by assumption);obtain⟨q,u,d⟩:=qE (Po 1) (by assumption);have m:MS _ _ _ _ 0 1:=Cf K (o:=#[]) ⟨⟨.refl _,sa,sb⟩,P8 _,P8 _⟩ e d (g0 p (by rw[show a.toList=p::t from e];simp) q<|by rw[d];simp);rw[Kn];refine Ql<|YQ<|TM ⟨rfl,Ql<|dF (K.b.at_ (P8 _) d).1 ?_⟩;have g:gj st st:=⟨rfl,rfl,rfl,rfl⟩;refine K.pb m (y4 ..) (λx H=>QC<|h x _ g H) λf=>K.pa m ?_ (λx H=>QC<|h x _ g H) λi=>ID K hk ⟨m,i,f,?_⟩ h
 ·rw[e];simp
 show(a.toList.drop 0).length+(b.toList.drop 1).length+1<=_
 simp;grind
theorem OH:C.W (OF a b) Q st:=by
 have K:=Ks ka kb sa sb nd g0;obtain⟨p,t,d⟩:=qE (l:=(Cc a b).a.v a.size) (Po 1) (by show 1<=(a.toList.take _).reverse.length;simpa using na);obtain⟨q,u,f⟩:=qE (l:=(Cc a b).b.v b.size) (Po 1) (by show 1<=(b.toList.take _).reverse.length;simpa using nb);obtain⟨F,k,n⟩:=K.a.at_ (Po _) d;have v:∀{x:R},(x.toList.take x.size).reverse=x.toList.reverse:=λ{x}=>by rw[PJ<|by simp]
 have m:MS (Cc a b) (λx y=>C.lo y x) (a.toList++b.toList) #[p] (a.size-1) b.size:=by
  refine Ce K (o:=#[]) ⟨⟨?_,?_,?_⟩,Po _,Po _⟩ d f<|g1 q ?_ p ?_
  ·show((a.toList.take _).reverse++(b.toList.take _).reverse).Perm _
   rw[v,v];exact(Xl _).append<|Xl _
  ·show(a.toList.take _).reverse.Pairwise _
   rw[v];exact VT.mpr sa
  ·show(b.toList.take _).reverse.Pairwise _
   rw[v];exact VT.mpr sb
  ·exact V7.mp<|v▸(show q∈(Cc a b).b.v _ by rw[f];simp)
  have:a.toList.drop (a.size-1)=[p]:=by
   have e:=Qq Tu (show(a.toList.take _).reverse=p::t from d);rw[v,UI,UA]at e;have l:=Qq Q4 e;simp at l;rw[e,Yp<|by simp;lia]
  rw[this];exact Pw.mpr rfl
 rw[Ko];refine Ql<|YQ<|TM ⟨rfl,Ql<|dF F ?_⟩;have g:gj st st:=⟨rfl,rfl,rfl,rfl⟩;refine K.pa m (y4 ..) (λx H=>QC<|h x _ g H) λi=>K.pb m ?_ (λx H=>QC<|h x _ g H) λj=>ID K hk ⟨m,i,j,?_⟩ h
 ·rw[f];simp
 show(a.toList.take<|a.size-1).reverse.length+(b.toList.take _).reverse.length+1<=_
 simp;lia
end
end
section
variable {C:Cm prog w A E s}{a₀:R}{lo n:Nat}{st Sl:Q9}{xs:R}
structure Bs (C:Cm prog w A E s)(a₀:R):Prop where
 ok:C.Oks a₀
 nd:(a₀.toList.map C.num).Nodup
structure SL (C:Cm prog w A E s)(a₀:R)(lo:Nat)(st Sl:Q9):Prop where
 perm:(QE Sl).Perm a₀
 kind:kindOf Sl=C.kd
 failed:SE Sl=Pt
 pend:QJ Sl=QJ st
 low:∀k,k<lo->(QE Sl)[k]?=(QE st)[k]?
def Srt(C:Cm prog w A E s)(xs:R)(lo n:Nat):Prop:=∀i j,i<j->j<n->C.K xs (lo+i)<C.K xs (lo+j)
theorem Bs.of(b:Bs C a₀)(h:xs.Perm a₀):Bs C xs:=⟨λp H=>b.ok p<|(Ti.mp h).mem_iff.mp H,((Ti.mp h).map _).nodup_iff.mpr b.nd⟩
theorem Bs.ne(b:Bs C xs)(H:i<xs.size)(a:j<xs.size)(h:i≠j):C.K xs i≠C.K xs j:=by
 have:=(W1.mp b.nd);unfold Cm.K;rw[WC xs i H,WC xs j a];intro e;obtain g|g:=Nat.lt_or_gt_of_ne h
 ·exact SD.mp this i j (by simpa using H) (by simpa using a) g (by simpa using e)
 exact SD.mp this j i (by simpa using a) (by simpa using H) g (by simpa using e.symm)
theorem IE(h:j<=xs.size)(k:Nat):C.K (ot xs i j<|(j-i)/2) k=if i<=k/\k<j then C.K xs (i+j-1-k)else C.K xs k:=by
 unfold Cm.K;rw[Zf h]
 split<;>rfl
theorem IF(h:c<xs.size)(H:d<=c)(k:Nat):C.K (bubble xs c d) k=if k=c-d then C.K xs c else if c-d<k/\k<=c then C.K xs (k-1)else C.K xs k:=by
 unfold Cm.K;rw[YP h d H]
 split
 ·rfl
 split<;>rfl
theorem Cj(b:Bs C (QE st))(k:kindOf st=C.kd)(H:i<(QE st).size)(a:j<(QE st).size)(U:i≠j)(c:C.K (QE st) i<C.K (QE st) j->Q (gV Pn) st)(d:C.K (QE st) j<C.K (QE st) i->Q (gV Pr) st):C.W (ltAt' i j) Q st:=by
 obtain⟨p,f,l,m⟩:=Kl b.ok H;obtain⟨P,h,I,e⟩:=Kl b.ok a;have N:=b.ne H a U;rw[m,e]at c d N;refine Ql<|Xi<|Ql<|dF f<|Ql<|dF h<|C.lt k l I ?_;by_cases g:C.num p<C.num P
 ·rw[PB g];exact c g
 rw[Pu g];lia
theorem Srt.next(b:1<=x)(h:Srt C xs lo x)(g:C.K xs (lo+x-1)<C.K xs (lo+x)):Srt C xs lo (x+1):=λi j H c=>by
 by_cases a:j<x
 ·exact h i j H a
 obtain rfl:j=x:=by lia
 by_cases e:i=j-1
 ·rwa[e,<-Uy b]
 have:=h i (j-1) (by lia) (by omega);rw[<-Uy b]at this;exact S_ this g
section
variable (b:Bs C a₀)(h:SL C a₀ lo st Sl)(hn:lo+n<=a₀.size)
include b h hn
theorem IG{f:Nat->M' (M' Nat)×Nat->Xr Q9 Sem (Uq<|M' (M' Nat)×Nat)}{Q:M' (M' Nat)×Nat->Q9->Prop}(o:1<=k)(a:k<=n)(e:Srt C (QE Sl) lo k)
  (i:∀x n,f x (Pt,n)=(do
   let r <-ltAt' (lo+n) (lo+n-1)
   match r with
   |some y=>if y=Pn then pure (Zj (Pt,n))else pure (Vd (Pt,n+1))
   |_=>pure<|Zj (gV Pt,n)))
  (q:∀m,k<=m->m<=n->Srt C (QE Sl) lo m->(m=n\/C.K (QE Sl) (lo+m)<C.K (QE Sl) (lo+m-1))->Q (Pt,m) Sl):C.W (forIn [k:n] ((Pt,k):M' (M' Nat)×Nat) f) Q Sl:=by
 refine Sx (I:=λx c j=>j=Sl/\c=(Pt,x)/\Srt C _ lo x) ?_ ?_ ⟨rfl,rfl,e⟩
 ·rintro x c j d l ⟨rfl,rfl,H⟩;have:=h.perm.size_eq;rw[i];exact Ql<|Cj (b.of h.perm) h.kind (by lia) (by lia) (by lia) (λg=>QC<|q x d (QA l) H<|.inr g) λg=>QC ⟨rfl,rfl,H.next (QF o d) g⟩
 simp_all
theorem MO(t:1<=n)(q:∀m a,SL C a₀ lo st a->1<=m->m<=n->Srt C (QE a) lo m->Q (gV m) a):C.W (countRun' lo n) Q Sl:=by
 have z:=h.perm.size_eq;rw[countRun'_eq];refine Ql<|IG b h hn (Po 1) t (λi j w w=>by lia) (λw w=>rfl) λm M d f r=>?_;dsimp only;refine dw (λe=>QC<|q m _ h M d f) λe=>?_;have y:=r.resolve_left (by simp_all);have B:m<n:=Nat.lt_of_le_of_ne d (by simp_all);refine dw (λg=>Ql<|Cj (b.of h.perm) h.kind (by lia) (by lia) (by lia) (λw=>QC<|q m _ h M d f) λG=>?_) λg=>?_
 ·have:=f 0 (m-1) (Nat.sub_pos_of_lt g) (by lia);rw[F3,<-Uy M]at this;exact absurd G (Int.not_lt_of_ge (jl this))
 obtain rfl:m=1:=by lia
 refine Ql<|YQ<|TM ⟨rfl,?_⟩;refine Ql<|T4 (Sx (I:=λx c a=>a=Sl/\c=(Pt,x,0)/\∀i j,i<j->j<x->C.K (QE Sl) (lo+j)<C.K (QE Sl) (lo+i)) (Q:=λc a=>a=Sl/\∃m,c=(Pt,m,0)/\2<=m/\m<=n/\∀i j,i<j->j<m->C.K (QE Sl) (lo+j)<C.K (QE Sl) (lo+i)) ?_ ?_ ⟨rfl,rfl,λi j I D=>?_⟩) ?_
 ·rintro x c a l F ⟨rfl,rfl,H⟩;dsimp only;refine Ql<|Cj (b.of h.perm) h.kind (by lia) (by lia) (by lia) (λg=>QC ⟨rfl,rfl,λi j I D=>?_⟩) λg=>?_
  ·by_cases J:j<x
   ·exact H i j I J
   obtain rfl:j=x:=by lia
   by_cases e:i=j-1
   ·rw[e,<-Uy<|by exact j' l];exact g
   have:=H i (j-1) (by lia) (by lia);rw[<-Uy<|by exact j' l]at this;exact S_ g this
  exact Ql (Cj (b.of h.perm) h.kind (by lia) (by lia) (by lia) (λw=>QC ⟨rfl,x,rfl,l,QA F,H⟩) λG=>absurd G<|Int.not_lt_of_ge (jl g))
 ·rintro c a ⟨rfl,rfl,H⟩;rw[show max (1+1) n=n by lia]at H ⊢;exact⟨rfl,n,rfl,Nat.le_of_lt_succ (Nat.succ_lt_succ B),Po _,H⟩
 ·obtain rfl:i=0:=by lia
  obtain rfl:j=1:=by lia
  exact y
 rintro c a ⟨rfl,m,rfl,U,L,H⟩;dsimp only;have p:SL C _ lo st (mu a<|ot _ lo _<|(lo+m-lo)/2):=⟨(mirror_perm _ _ _ _).trans h.perm,h.kind,h.failed,h.pend,λk N=>by
  show(ot _ lo _<|(lo+m-lo)/2)[k]?=_
  rw[Zf (by lia),PM<|by lia];exact h.low k N⟩
 refine Ql<|wpS_reverse<|Ql<|IG b p hn (j' U) L (λu v O W=>?_) (λw w=>rfl) λP X T o w=>QC<|q P _ p (j' (QF U X)) T o;show C.K (ot _ lo _<|(lo+m-lo)/2) _<C.K (ot _ lo _<|(lo+m-lo)/2) _
 rw[IE (by lia),IE (by lia),PP (by lia),PP<|by simp_all];have:=H (m-1-v) (m-1-u) (Nat.sub_lt_sub_left (QH O (Nat.le_sub_one_of_lt W)) O) (by grind)
 rwa[L' (Yc O W),L' W]
theorem MP{Q:Px->Q9->Prop}(z:ok<=n)(D:1<=n)(F:Srt C (QE Sl) lo ok)
  (q:∀a,SL C a₀ lo st a->Srt C (QE a) lo n->Q Pn a):C.W (binarySort' lo n ok) Q Sl:=by
 rw[binarySort'_eq];refine Ql (T4 (Sx (I:=λk c a=>c=(Pt,())/\SL C a₀ lo st a/\Srt C (QE a) lo (min k n))
  (Q:=λc a=>c=(Pt,())/\SL C a₀ lo st a/\Srt C (QE a) lo n) ?_ ?_ ⟨rfl,h,λi j o I=>F i j o<|by lia⟩) ?_)
 ·rintro k c a J L ⟨rfl,H,d⟩;rw[show min k n=k by exact Wu (QA L)]at d;have M:=H.perm.size_eq;have N:=b.of H.perm;refine Ql (T4 (Sx (I:=λx c Z=>Z=a/\∃l r,c=(Pt,l,r)/\l<=r/\r<=k/\r-l<=k-x/\(∀i,i<l->C.K (QE a) (lo+i)<C.K (QE a) (lo+k))/\(∀i,r<=i->i<k->C.K (QE a) (lo+k)<C.K (QE a) (lo+i)))
   (Q:=λc Z=>Z=a/\∃l,c=(Pt,l,l)/\l<=k/\(∀i,i<l->C.K (QE a) (lo+i)<C.K (QE a) (lo+k))/\(∀i,l<=i->i<k->C.K (QE a) (lo+k)<C.K (QE a) (lo+i))) ?_ ?_ ⟨rfl,0,k,rfl,by simp,by simp,by simp,λi X=>absurd X (Nat.not_lt_of_le (P8 _)),λi D H=>absurd H (Nat.not_lt_of_le D)⟩) ?_)
  ·rintro x c Z w Y ⟨rfl,l,r,rfl,O,t,P,B,f⟩;dsimp only;refine dw (λg=>?_) λg=>have q:=mdx (Nat.not_le.1 g);Ql<|Cj N H.kind (by lia) (by lia) (by lia) (λG=>QC ⟨rfl,l,(l+r)/2,rfl,q.1,QA (QH q.2 t),(tx P q.1 q.2).2,B,λi p y=>?_⟩) λG=>QC ⟨rfl,(l+r)/2+1,r,rfl,q.2,t,(tx P q.1 q.2).1,λi p=>?_,f⟩
   ·obtain rfl:l=r:=Nat.le_antisymm O g
    exact QC ⟨rfl,l,rfl,t,B,f⟩
   ·obtain e|e:=Ue p
    ·exact e▸G
    exact S_ G<|d _ _ e y
   obtain e|e:=Ue (Nat.le_of_lt_succ p)
   ·exact e▸G
   exact S_ (d _ _ e<|by lia) G
  ·rintro c Z ⟨rfl,l,r,rfl,O,t,P,B,f⟩;obtain rfl:l=r:=by lia
   exact⟨rfl,l,rfl,t,B,f⟩
  rintro c Z ⟨rfl,l,rfl,t,B,f⟩;dsimp only;rw[moveDown'_eq];refine Ql<|X5<|QC ⟨rfl,⟨(bubble_perm _ _ _).trans H.perm,H.kind,H.failed,H.pend,λm T=>?_⟩,λi j o I=>?_⟩
  ·show(bubble (QE Z) (lo+k)<|lo+k-(lo+l))[m]?=_
   rw[YP (by lia) _ (by simp),PM (by omega),PM<|by omega];exact H.low m T
  show C.K (bubble (QE Z) (lo+k)<|lo+k-(lo+l)) (lo+i)<C.K (bubble (QE Z) (lo+k)<|lo+k-(lo+l)) (lo+j)
  rw[IF (by lia) (by simp),IF (by lia) (by simp),Nat.sub_sub_self (Zh t lo)];have sub:∀u v,lo<=u->u<v->v<lo+k->C.K (QE Z) u<C.K (QE Z) v:=λu v p y c3=>by
   have:=d (u-lo) (v-lo) (Nat.sub_lt_sub_right p y) (Nat.sub_lt_left_of_lt_add (QF p (QA y)) c3)
   rwa [Nat.add_sub_of_le p,Nat.add_sub_of_le (QF p (QA y))]at this
  have U:∀u,lo+l<=u->u<lo+k->C.K (QE Z) (lo+k)<C.K (QE Z) u:=λu p y=>by
   have z:=QF (V6 lo l) p;have:=f (u-lo) (Nat.le_sub_of_add_le' p) (Nat.sub_lt_left_of_lt_add z y)
   rwa [Nat.add_sub_of_le z]at this
  repeat' split
  all_goals first
   |lia
   |exact B _ (by lia)
   |exact U _ (by lia) (by omega)
   |exact sub _ _ (by omega) (by omega) (by omega)
 ·rintro c a ⟨W,H,d⟩;exact⟨W,H,by rwa [show min (max _ n) n=n by exact aaM (Nat.le_max_right _ _)]at d⟩
 rintro c a ⟨rfl,H,d⟩;exact QC<|q a H d
end
end
theorem wp(i:Nat):pw i=(do
 let t <-get
 let (gV (s,n,A),gV (b,N,_)):=((QJ t)[i]?,(QJ t)[i+1]?)|unsupported "internal:list.sort.pending"
 set (X8 t<|((QJ t).setIfInBounds i (s,n+N,A)).eraseIdxIfInBounds<|i+1)
 let gV k <-hZ Pr (<-XQ (QE t) b) (QE t) s n 0|return Pr
 let (s,n):=(s+k,n-k)
 if n == 0 then return Pn
 let gV N <-hZ Pn (<-XQ (QE t)<|s+n-1) (QE t) b N (N-1)|return Pr
 if N == 0 then return Pn
 let x:=(QE t).extract s b
 let y:=(QE t).extract b (b+N)
 let m <-if n<=N then OE x y else OF x y
 oj λt=>mu t (m.toList.zipIdx.foldl (λa (p,j)=>a.setIfInBounds (s+j) p)<|QE t)
 return (SE (<-get)).isNone):=rfl
theorem IH(b:Nat):∀(m x P T:ab Q2) (k:Nat) (a:R),b+k=P.length->m.length=x.length->a.toList=P++(x++T)->((m.zipIdx k).foldl (λa (q:Q2×Nat)=>a.setIfInBounds (b+q.2) q.1) a).toList=P++(m++T)
 |[],x,P,T,k,a,_,h,e=>by
  obtain rfl:x=[]:=RG.mp h.symm;exact e
 |p::m,[],P,T,k,a,_,h,e=>by cases h
 |p::m,y::x,P,T,k,a,H,h,e=>by
  have:=IH b m x (P++[p]) T (k+1) (a.setIfInBounds (b+k) p) (by simpa using by lia) (by simpa using h) (by simp_all);simpa using this
section
variable {C:Cm prog w A E s}{st:Q9}
theorem OI{x X y Y z:ab Q2}(h:(x++X).Pairwise C.lo)(H:(y++Y).Pairwise C.lo)(a:∀c∈x,∀d∈y++Y,C.lo c d)(b:∀d∈Y,∀c∈x++X,C.lo c d)(r:z.Perm (X++y))(s:z.Pairwise C.lo):(x++(z++Y)).Pairwise C.lo:=by
 obtain⟨p,q,t⟩:=List.pairwise_append.1 h;obtain⟨u,v,w⟩:=List.pairwise_append.1 H;refine List.pairwise_append.2 ⟨p,List.pairwise_append.2 ⟨s,v,λc m d n=>?_⟩,λc m d n=>?_⟩
 ·obtain k|k:=P5.1 (r.mem_iff.1 m)
  ·exact b d n c (Qw _ k)
  exact w c k d n
 obtain n|n:=P5.1 n
 ·obtain k|k:=P5.1 (r.mem_iff.1 n)
  ·exact t c m d k
  exact a c m d (Ry _ k)
 exact a c m d (Qw _ n)
theorem MQ{prog:PU}{w:Qc}{A:Q0}{E:Pm->PF->Prop}{s:PF}{Q:YE->Q9->Prop}{x:Q9}(h:Q () x):wpS (Qj prog w) A E s (set x:Xr Q9 Sem YE) Q st:=PY ⟨rfl,h⟩
theorem Gm{T:ab Q2}{Q:Px->Q9->Prop}(b:Bs C (QE st))(u:kindOf st=C.kd)(U:SE st=Pt)(e:(QJ st).toList=l1++(P.length,x.length,J)::(P.length+x.length,y.length,pb)::l2)(hi:l1.length=i)
  (g:(QE st).toList=P++(x++(y++T))) (n1:x≠[]) (n2:y≠[]) (v:x.Pairwise C.lo) (I:y.Pairwise C.lo)
  (q:∀z L,kindOf L=C.kd->SE L=Pt->(QJ L).toList=l1++(P.length,x.length+y.length,J)::l2->(QE L).toList=P++(z++T)->z.Perm (x++y)->z.Pairwise C.lo->Q Pn L):C.W (pw i) Q st:=by
 obtain⟨e1,e2,e3⟩:(QJ st)[i]?=gV (P.length,x.length,J)/\(QJ st)[i+1]?=gV (P.length+x.length,y.length,pb)/\(((QJ st).setIfInBounds i (P.length,x.length+y.length,J)).eraseIdxIfInBounds (i+1)).toList=l1++(P.length,x.length+y.length,J)::l2:=by
  rw[<-Rl,<-Rl,Array.toList_eraseIdxIfInBounds,W7,e];subst hi;simp[List.eraseIdx_append];lia
 have hl:=Qq Q4 g;simp only[Pl,Qi]at hl;have W:=b.nd;rw[g,P6,P6]at W;have ne:∀c∈x,∀d∈y,C.num c≠C.num d:=λc h d H=>(Rw.mp (Rw.mp W).2.1).2.2 _ (Rp h) _<|Rp<|Ry _ H;have ac:((x++y).map C.num).Nodup:=(P6▸(Rw.mp W).2.1).sublist (by simp);clear W;obtain⟨f,Y,rfl⟩:=List.exists_cons_of_ne_nil n2;obtain⟨B,l,rfl⟩:∃B l,x=B++[l]:=⟨_,_,(Wv n1).symm⟩;have am:(QE st)[P.length+(B++[l]).length]?=gV f:=by
  rw[<-Rl,g,<-Qu,PV<|by simp];simp
 have an:(QE st)[P.length+B.length]?=gV l:=by
  rw[<-Rl,g];simp
 have oq:C.ok f:=b.ok f (by simp_all);have op:C.ok l:=b.ok l (by simp_all);rw[wp];refine Ql<|Xi ?_;rw[e1,e2];dsimp only;refine Ql<|MQ<|Ql<|dF am<|Ql<|yd g rfl rfl b.ok v u oq (by simp) (λc h=>ne c h f<|by simp) λk k1 k2 k3=>?_;dsimp only;generalize Z:B++[l]=X at*;have a1:∀c∈X.take k,∀d∈f::Y,C.lo c d:=λc h d H=>by
  obtain rfl|H:=P_.mp H
  ·exact k2 c h
  exact S_ (k2 c h)<|W_ I H
 refine iw (λe=>QC<|q (X++f::Y) _ u U e3 (by rw[Qu];exact g) (.refl _)<|RK.mpr ⟨v,I,λc h=>a1 c ?_⟩) λen=>?_
 ·rwa [PJ<|by grind]
 have as:=Qq Q4 Z;simp only[Pl,Qg]at as;rw[show P.length+k+(X.length-k)-1=P.length+B.length by lia];refine Ql<|dF an<|Ql<|yd (P:=P++X) (x:=f::Y) (T:=T) (by simpa using g) (by simp) rfl b.ok I u op (by simp) (λd H=>(ne l (by simp[<-Z]) d H).symm) λn m1 m2 m3=>?_;dsimp only;have a2:∀d∈(f::Y).drop n,∀c∈X,C.lo c d:=λd H c h=>by
  rw[<-Z]at h v;obtain h|h:=P5.mp h
  ·exact S_ ((RK.mp v).2.2 c h l<|Pw.mpr rfl)<|m3 d H
  exact Pw.mp h▸m3 d H
 refine iw (λe=>QC<|q (X++f::Y) _ u U e3 (by rw[Qu];exact g) (.refl _)<|RK.mpr ⟨v,I,λc h d H=>a2 d ?_ c h⟩) λaC=>?_
 ·simp_all
 have D:((QE st).extract (P.length+k)<|P.length+X.length).toList=X.drop k:=by
  have:=qF (a:=QE st) (P.length+k)<|X.length-k;rw[show P.length+k+(X.length-k)=P.length+X.length by lia]at this;rw[this,g,<-W4,Y2,List.drop_append_of_le_length k1,List.take_left'<|by simp]
 have F:((QE st).extract (P.length+X.length)<|P.length+X.length+n).toList=(f::Y).take n:=by
  rw[qF,g,<-Qu,Yp (by simp),R7 m1]
 have o:=Q5 n<|f::Y;have r:=Q5 k X;have kX:C.Oks ((QE st).extract (P.length+k)<|P.length+X.length):=λc h=>b.ok c (by rw[D]at h;rw[g];simp[UK h]);have kY:C.Oks ((QE st).extract (P.length+X.length)<|P.length+X.length+n):=λc h=>b.ok c (by rw[F]at h;rw[g];simp only[P5];exact .inr<|.inr<|.inl<|Ss h);have av:((X.drop k++(f::Y).take n).map C.num).Nodup:=ac.sublist<|((Xn ..).append (Uz ..)).map _;have sz:((QE st).extract (P.length+k)<|P.length+X.length).size=X.length-k:=by rw[<-Qi,D,Q8]
 have az:((QE st).extract (P.length+X.length)<|P.length+X.length+n).size=n:=by rw[<-Qi,F,P9];exact Wu m1
 have M:∀m G,gj (X8 st<|((QJ st).setIfInBounds i (P.length,X.length+(f::Y).length,J)).eraseIdxIfInBounds<|i+1) G->ui C (((QE st).extract (P.length+k)<|P.length+X.length).toList++((QE st).extract (P.length+X.length)<|P.length+X.length+n).toList) m->C.W (do
   oj λt=>mu t (m.toList.zipIdx.foldl (λa (p,j)=>a.setIfInBounds (P.length+k+j) p)<|QE t)
   return (SE (<-get)).isNone) Q G:=λm G N O=>by
  rw[D,F]at O;refine Ql<|X5<|Ql<|Xi ?_;rw[show(SE<|mu G _).isNone=Pn by rw[show SE (mu G _)=Pt from N.2.2.2.trans U];rfl];refine QC<|q (X.take k++(m.toList++(f::Y).drop n)) _ (N.1.trans u) (N.2.2.2.trans U) (N.2.2.1▸e3) ?_ ?_<|OI (r.symm▸v) (o.symm▸I) (o.symm▸a1) (r.symm▸a2) O.1 O.2
  ·have:=IH (P.length+k) m.toList (X.drop k++(f::Y).take n) (P++X.take k) ((f::Y).drop n++T) 0 (QE G) (by simp_all) O.1.length_eq (by
    rw[show QE G=QE st from N.2.1,g];simp only[Qu];rw[<-Qu<|List.take n _,o,<-Qu<|X.take k,r])
   simpa using this
  refine(O.1.append_right _|>.append_left _).trans ?_;rw[Qu,o,<-Qu,r]
 refine dw (λw=>Ql<|OG kX kY ?_ ?_ ?_ (by exact u) ?_ ?_ ?_ ?_ M) λw=>Ql<|OH kX kY ?_ ?_ ?_ (by exact u) ?_ ?_ ?_ ?_ M
 all_goals first
  |(rw[D,F];exact av)
  |(rw[D];exact v.sublist (Xn ..))
  |(rw[F];exact I.sublist (Uz ..))
  |(rw[sz];lia)
  |(rw[az];lia)
  |(rw[D,F,WZ]
    intro c h d H;rw[show min 1 n=1 by lia]at H;exact Pw.mp H▸k3 c h)
  |(rw[F,D,sz,W4,show k+(X.length-k-1)=B.length by lia,<-Z]
    intro c h d H;rw[Y2]at H;exact Pw.mp H▸m2 c h)
end
noncomputable def OJ(lo n:Nat):S (Uq<|M' YE×Nat):=do
 oj λs=>X8 s ((QJ s).push (lo,n,0))
 return .yield (Pt,lo+n)
noncomputable def N5(e lo n:Nat):S (Uq<|M' YE×Nat):=do
 match (QJ (<-get)).back? with
 |some (b,N,_)=>
  let P:=power' e (2*b+N) (2*b+N+N+n) e
  let c <-forIn [0:e] ((Pt,()):M' YE×YE) λ_ _=>do
   let p:=QJ (<-get)
   match (if p.size>1 then p[p.size-2]? else Pt)with
   |some (_,_,a)=>
    if a<=P then return .done (Pt,())
    else if(!(<-pw<|p.size-2))=Pn then return .done (gV (),())
    else return .yield (Pt,())
   |_=>return .done (Pt,())
  match c.1 with
  |some r=>return .done (gV r,lo)
  |none=>
   oj λs=>X8 s ((QJ s).modify ((QJ s).size-1) λ(st,l,_)=>(st,l,P))
   OJ lo n
 |_=>OJ lo n
theorem Gn:sortRuns'=(do
 let s:=(QE (<-get)).size
 let c <-forIn [0:s] ((Pt,0):M' YE×Nat) λz c=>do
  if c.2>=s then return .done (Pt,c.2)
  else
   let gV n <-countRun' c.2 (s-c.2)|return .done (gV (),c.2)
   if n<oD s s 0 then
    rule "list.sort.binary-insertion"
    if(!(<-binarySort' c.2 (min (s-c.2)<|oD s s 0) n))=Pn then return .done (gV (),c.2)
    else N5 s c.2 (min (s-c.2)<|oD s s 0)
   else N5 s c.2 n
 match c.1 with
 |some r=>return r
 |none=>
  for _ in [0:s] do
   let p:=QJ (<-get)
   if p.size<=1 then break
   let i:=p.size-2
   let b:=if i>0 then p[i-1]?.map (·.2.1)else Pt
   let i:=if b.any (· < (p[i+1]?.elim 0 (·.2.1)))then i-1 else i
   if !(<-pw i)then return):=by kernel_rfl
section
variable {C:Cm prog w A E s}{a₀:R}{hi:Nat}{st:Q9}
inductive Rn (C:Cm prog w A E s):Nat->ab (Nat×Nat×Nat)->ab Q2->Prop
 |nil (lo:Nat):Rn C lo [] []
 |cons {lo p:Nat} {r:ab (Nat×Nat×Nat)} {x t:ab Q2} (h:x≠[]) (H:x.Pairwise C.lo) (a:Rn C (lo+x.length) r t):Rn C lo ((lo,x.length,p)::r) (x++t)
theorem Rn.app{lo:Nat}{l L:ab (Nat×Nat×Nat)}{t T:ab Q2}(h:Rn C lo l t)(h':Rn C (lo+t.length) L T):Rn C lo (l++L) (t++T):=by
 induction h with
 |nil=>exact h'
 |cons a b _ i=>
  rw[Qu];exact .cons a b (i<|by rwa [Pl,<-Xw]at h')
theorem Rn.split:∀{l:ab (Nat×Nat×Nat)} {lo:Nat} {t:ab Q2},Rn C lo (l++L) t->∃T c,t=T++c/\Rn C lo l T/\Rn C (lo+T.length) L c
 |[],lo,t,h=>⟨[],t,rfl,.nil _,h⟩
 |_::l,_,_,.cons (x:=x) a b h=>by
  obtain⟨T,c,rfl,H,d⟩:=Rn.split h;exact⟨x++T,c,by simp,.cons a b H,by rwa [Pl,<-Xw]⟩
theorem Rn.pow:∀{lo:Nat} {l L:ab (Nat×Nat×Nat)} {t:ab Q2},Rn C lo l t->L.map (λq=>(q.1,q.2.1))=l.map (λq=>(q.1,q.2.1))->Rn C lo L t:=by
 intro lo l L t h e;induction h generalizing L with
 |nil lo=>
  cases L with
  |nil=>exact .nil lo
  |cons=>cases e
 |cons a b t i=>
  cases L with
  |nil=>cases e
  |cons x L=>obtain⟨u,v,p⟩:=x;obtain⟨c,d⟩:=agg e;cases c;exact .cons a b<|i d
theorem Rn.len{lo:Nat}{l:ab (Nat×Nat×Nat)}{t:ab Q2}(h:Rn C lo l t):l.length<=t.length:=by
 induction h with
 |nil=>exact Po _
 |cons a _ _ i=>
  have:=TU.mpr a;rw[P4,Pl];lia
structure SR (C:Cm prog w A E s)(a₀:R)(hi:Nat)(u:ab Q2)(st:Q9):Prop where
 perm:(QE st).Perm a₀
 kind:kindOf st=C.kd
 failed:SE st=Pt
 runs:∃t,(QE st).toList=t++u/\t.length=hi/\Rn C 0 (QJ st).toList t
variable {u:ab Q2}
theorem Ck(b:Bs C a₀)(h:SR C a₀ hi u st)(I:i+1<(QJ st).size)(q:∀a,SR C a₀ hi u a->(QJ a).size+1=(QJ st).size->Q Pn a):C.W (pw i) Q st:=by
 obtain⟨t,d,g,H⟩:=h.runs;have c:(QJ st).toList=(QJ st).toList.take i++((QJ st)[i]::(QJ st)[i+1]::(QJ st).toList.drop (i+2)):=by
  rw[<-Y5,<-Y5,<-RL,<-RL,Q5]
 rw[c]at H;obtain⟨P,J,rfl,j,r⟩:=H.split;rw[Sg]at r;generalize (QJ st)[i]=L,(QJ st)[i+1]=M,(QJ st).toList.drop _=O at c r;cases r with
 |cons n m o=>
  cases o with
  |@cons _ _ _ y T N v U=>
   rw[Qu,Qu,Qu]at d;refine Gm (b.of h.perm) h.kind h.failed c (by simp;lia) d n N m v λz a x B k f p D=>?_;have l:=p.length_eq;rw[Pl]at l;refine q a ⟨?_,x,B,P++(z++T),by rw[f];simp,?_,?_⟩ ?_
   ·refine .trans (Ti.mpr ?_) h.perm;have:=(p.append_right<|T++u).append_left P;rw[Qu]at this
    rwa [f,d]
   ·rw[<-g];simp[l,Xw]
   ·rw[k,<-l];exact j.app (by rw[Sg];exact .cons (λe=>n<|by rw[e]at l;exact RG.mp<|by simp at l;lia) D<|by rwa [l,<-Xw])
   have F:=Qq Q4 k;have G:=Qq Q4 c;simp only[Pl,P4,Qi]at F G;lia
theorem SR.push(h:SR C a₀ hi u st)(d:1<=n)(f:n<=u.length)(a:(u.take n).Pairwise C.lo):SR C a₀ (hi+n) (u.drop n) (X8 st<|(QJ st).push (hi,n,0)):=by
 obtain⟨t,b,c,r⟩:=h.runs;subst c;have H:(u.take n).length=n:=by simp_all
 refine⟨h.perm,h.kind,h.failed,t++u.take n,by rwa[Qu,Q5],by rw[Pl,H],?_⟩;show Rn C 0 _ _
 rw[Xp];refine r.app ?_;have:=Rn.cons (lo:=t.length) (p:=0) (by grind) a<|.nil _;rw[Sg]
 rwa [H,QN]at this
theorem II{n lo:Nat}{Q:Uq (M' YE×Nat)->Q9->Prop}(h:SR C a₀ lo u st)(H:1<=n)(b:n<=u.length)(c:(u.take n).Pairwise C.lo)(q:∀a,SR C a₀ (lo+n) (u.drop n) a->Q (.yield (Pt,lo+n)) a):C.W (OJ lo n) Q st:=
 Ql (X5<|QC<|q _<|h.push H b c)
theorem Gp{b c:Type}(g:b->c)(f:b->b)(h:∀x,g (f x)=g x)(l:ab b)(i:Nat):(l.modify i f).map g=l.map g:=by
 refine UC λj=>?_;rw[PN,PN,List.getElem?_modify];cases l[j]? with
 |none=>rfl
 |some a=>
  show gV _=gV _
  split
  ·rw[h]
  rfl
theorem IJ{d n lo:Nat}{Q:Uq (M' YE×Nat)->Q9->Prop}(b:Bs C a₀)(h:SR C a₀ lo u st)(H:1<=n)(f:n<=u.length)(g:(u.take n).Pairwise C.lo)(q:∀i,SR C a₀ (lo+n) (u.drop n) i->Q (.yield (Pt,lo+n)) i):C.W (N5 d lo n) Q st:=by
 refine Ql<|Xi ?_
 split
 ·refine Ql<|T4 (Sx (I:=λx c a=>c=(Pt,())/\SR C _ lo u a) ?_ (λx x z=>z) ⟨rfl,h⟩) ?_
  ·rintro y c a x x ⟨rfl,r⟩;refine Ql<|Xi ?_;dsimp only
   split
   ·have j:(QJ a).size>1:=by
     simp_all
    exact dw (λx=>QC ⟨rfl,r⟩) λx=>Ql<|Ck b r (by omega) λk l x=>QC ⟨rfl,l⟩
   exact QC ⟨rfl,r⟩
  rintro c a ⟨rfl,r⟩;obtain⟨t,m,o,p⟩:=r.runs;refine Ql<|X5<|II ⟨r.perm,r.kind,r.failed,t,m,o,p.pow ?_⟩ H f g q;rw[Array.toList_modify];exact Gp _ _ (by simp) _ _
 exact II h H f g q
theorem oG:∀f n r,1<=n->1<=oD f n r
 |0,n,r,h=>QF h<|V6 _ _
 |f+1,n,r,h=>by
  rw[minRun'_succ]
  split
  ·exact Nat.le_add_right_of_le h
  exact oG f _ _ (by lia)
theorem SL.sr{lo n:Nat}{Q:Q9}(h:SL C a₀ lo st Q)(r:SR C a₀ lo u st)(l:lo+n<=a₀.size)(c:Srt C (QE Q) lo n):∃U,SR C a₀ lo U Q/\n<=U.length/\(U.take n).Pairwise C.lo:=by
 obtain⟨t,d,H,f⟩:=r.runs;have z:=h.perm.size_eq;have e:(QE Q).toList=t++(QE Q).toList.drop lo:=by
  rw[<-Q5 lo (QE Q).toList]
  congr 1
  ·refine UC λk=>?_;by_cases b:k<lo
   ·have:=h.low k b;rw[QM b,Rl,this,<-Rl,d,PL<|by simp_all]
   rw[QI (by simp;exact QF (Nat.min_le_left _ _) (i0 b)),QI<|by simp_all]
  simp
 refine⟨(QE Q).toList.drop lo,⟨h.perm,h.kind,h.failed,t,e,H,h.pend▸f⟩,by simp;lia,?_⟩;rw[SD];intro i j hi g a;simp only[P9,Q8,Qi]at hi g;have:=c i j a (QH g (Nat.min_le_left _ _));rw[<-QN<|List.drop lo _]at e;rw[<-H,wo e (by simp;exact QH hi (V5 _ _)),wo e<|by simp;exact QH g (V5 _ _)]at this;rwa[Xm,Xm]
theorem Kt(b:Bs C a₀)(h:SR C a₀ 0 u st)(k:1<=a₀.size)(q:∀a,(QE a).Perm a₀->SE a=Pt->(QE a).toList.Pairwise C.lo->Q () a):C.W sortRuns' Q st:=by
 rw[Gn];refine Ql<|Xi ?_;dsimp only;rw[h.perm.size_eq];have o:=oG a₀.size a₀.size 0 k;generalize oD a₀.size a₀.size 0=M at o;refine Ql (T4 (Sx (I:=λx c a=>∃lo u,c=(Pt,lo)/\SR C a₀ lo u a/\(x<=lo\/lo=a₀.size))
  (Q:=λc a=>c=(Pt,a₀.size)/\∃u,SR C a₀ a₀.size u a) ?_ ?_ ⟨0,u,rfl,h,.inl<|Po _⟩) ?_)
 ·rintro x c a w D ⟨lo,u,rfl,r,F⟩;obtain⟨t,e,f,w⟩:=r.runs;have cD:=Qq Q4 e;rw[Pl,Qi,r.perm.size_eq]at cD;dsimp only;refine dw (λg=>?_) λg=>?_
  ·obtain rfl:lo=a₀.size:=by lia
   exact QC ⟨rfl,u,r⟩
  refine Ql<|MO b (st:=a) ⟨r.perm,r.kind,r.failed,rfl,λw w=>rfl⟩ (by simp_all) (by grind) λm j k p G Z=>?_;dsimp only;refine dw (λI=>Ql<|YQ<|TM ⟨rfl,Ql<|MP b k (n:=min (a₀.size-lo) M) (by grind) (by grind) (by grind) Z λJ L N=>?_⟩) λI=>?_
  ·obtain⟨U,i,v,y⟩:=L.sr r (by grind) N;exact IJ b i (by grind) v y λz B=>⟨_,_,rfl,B,by grind⟩
  obtain⟨U,i,v,y⟩:=k.sr r (by simp_all) Z;exact IJ b i p v y λz B=>⟨_,_,rfl,B,by lia⟩
 ·rintro c a ⟨lo,u,rfl,r,D⟩;obtain⟨t,e,f,w⟩:=r.runs;have cD:=Qq Q4 e;rw[Pl,Qi,r.perm.size_eq]at cD;obtain rfl:lo=a₀.size:=by lia
  exact⟨rfl,u,r⟩
 rintro c a ⟨rfl,u,r⟩;have T:∀{st},SR C a₀ a₀.size u st->(QJ st).size<=a₀.size:=λr=>by
  obtain⟨t,w,f,n⟩:=r.runs;have:=n.len
  simp_all
 refine Ql<|T4 (Sx (I:=λx c j=>c=(Pt,())/\SR C _ _ u j/\((QJ j).size+x<=a₀.size\/(QJ j).size<=1)) (Q:=λc j=>c=(Pt,())/\SR C a₀ a₀.size u j/\(QJ j).size<=1) ?_ ?_ ⟨rfl,r,by simp_all⟩) ?_
 ·rintro x c j w D ⟨rfl,d,H⟩;refine Ql (Xi<|dw (λg=>QC ⟨rfl,d,g⟩) λg=>Ql<|Ck b d ?_ λJ i P=>QC ⟨rfl,i,by lia⟩)
  repeat' split
  all_goals omega
 ·rintro c j ⟨rfl,d,H⟩;exact⟨rfl,d,by lia⟩
 rintro c j ⟨rfl,d,H⟩;obtain⟨t,e,f,n⟩:=d.runs;refine QC<|q j d.perm d.failed ?_;have O:=Qq Q4 e;rw[Pl,Qi,d.perm.size_eq,f]at O;rw[e,RG.mp (show u.length=0 by lia),QN];rw[<-Qi]at H;generalize (QJ j).toList=l at n H;cases n with
 |nil=>exact .nil
 |cons _ s r=>
  cases r with
  |nil=>simpa using s
  |cons=>simp only[P4]at H;lia
end
noncomputable def sH(h:QB)(b:C')(u:ab Pm):QB:=((h.update b<|R3 λ_=>#[]).push<|RB "tuple" u.toArray 0).push<|RB "list" #[] 0
theorem uj{d e:Type}{F:d->e->Prop}{B b:ab e}(p:b.Perm B):∀{A:ab d},Paired F A B->∃a,Paired F a b/\a.Perm A:=by
 induction p with
 |nil=>exact λh=>⟨_,h,.refl _⟩
 |cons x _ f=>
  rintro z (z|⟨r,t⟩);obtain⟨a,H,c⟩:=f t;exact⟨_,.cons r H,c.cons _⟩
 |swap x y l=>
  rintro z (z|⟨r,z|⟨g,t⟩⟩);exact⟨_,.cons g<|.cons r t,.swap ..⟩
 |trans _ _ i I=>
  intro A h;obtain⟨m,H,P⟩:=I h;obtain⟨j,c,k⟩:=i H;exact⟨j,c,k.trans P⟩
theorem wq{d c:Type}{F:d->c->Prop}{A:ab d}{B:ab c}(h:Paired F A B):∀{i:Nat} {b:c},B[i]?=gV b->∃a,A[i]?=gV a/\F a b:=by
 induction h with
 |nil=>intro i b e;simp at e
 |cons r _ I=>
  intro i b e;cases i with
  |zero=>exact⟨_,rfl,PZ e▸r⟩
  |succ i=>exact I e
section
variable {κ:Type}{is:κ->Pm->Prop}{key:κ->Int}
open Classical in
noncomputable def Ku (is:κ->Pm->Prop)(key:κ->Int)(v:Pm):Int:=if h:∃k,is k v then key h.choose else 0
theorem wt(i:∀k a v,is k v->is a v->k=a)(h:is k v):Ku is key v=key k:=by
 unfold Ku;rw[dif_pos ⟨k,h⟩,i _ k v (Exists.choose_spec (p:=λk=>is k v) _) h]
theorem ye(i:∀k a v,is k v->is a v->k=a)(h:Paired is s u):u.map (Ku is key)=s.map key:=by
 induction h with
 |nil=>rfl
 |cons r _ I=>rw[Qf,Qf,I,wt i r]
theorem sort_gen{P:PU}{w:Qc}{A:Q0}{E:Pm->PF->Prop}{s:PF}{R:afi->PF->Prop}{F:sy}(B:s.heap.get? b=gV (RB "list" u.toArray ep))(G:u.length<=10000)(I:∀k c v,is k v->is c v->k=c)(J:Paired is U u)(X:(U.map key).Nodup)
  (Y:2<=u.length->∀{Q:sy->PF->Prop},Q F {s with heap:=sH s.heap b u}->wpAny (Qj P w) A (keyKind' u.toArray) Q E {s with heap:=sH s.heap b u})
  (lt:∀{E':Pm->PF->Prop} {k c:κ} {x y:Pm} {Q:Px->PF->Prop},is k x->is c y->Q (decide (key k<key c)) {s with heap:=sH s.heap b u}->wpAny (Qj P w) A (keyLt' F x y) Q E' {s with heap:=sH s.heap b u})
  (q:∀W a,Paired is a W->a.Perm U->(a.map key).Pairwise (· < ·)->R (.done<|.ret .none) {s with heap:=CW s.heap b u W.toArray}):wpAny (Qj P w) A (Builtin.«list.sort» ⟨[.ref b],[]⟩) R E s:=by
 let C:Cm P w A E {s with heap:=sH s.heap b u}:=⟨λp=>Ku is key p.1,λp=>∃k,is k p.1,F,λ{x y Q st} e ⟨k,H⟩ ⟨c,d⟩ h=>by
  rw[wt I H,wt I d]at h;rw[lt'_eq];refine Ql<|Xi ?_;rw[e];exact Ql<|YQ<|WK<|lt H d ⟨rfl,QC h⟩⟩
 have L:∀{n:Nat},n<=10000->n<=sizeLine:=λz=>by rw[Ru];exact QF z (by decide)
 have XX:∀t,(QE t).Perm (o3 u)->(QE t).toList.Pairwise C.lo->R (.done<|.ret .none) {s with heap:=CW s.heap b u ((QE t).map (·.2))}/\((QE t).map (·.2)).size<=sizeLine:=λt j hs=>by
  have f:(QE t).toList.Perm (u.zip u):=by rw[<-YT];exact Ti.mp j
  have e:((QE t).map (·.2)).toList=(QE t).toList.map (·.2):=Array.toList_map;have M:((QE t).toList.map (·.2)).Perm u:=by
   have:=f.map (·.2)
   rwa [aaP<|Po _]at this
  obtain⟨a,H,d⟩:=uj M J;refine⟨?_,by rw[Y',j.size_eq,pairsOf_size];exact L G⟩;have:=q _ a H d (by
   rw[<-ye I H,Qm,QU];refine hs.imp_of_mem λ{x y} hx hy h=>?_;have D:=(X9<|f.mem_iff.mp hx).1;have e2:=(X9<|f.mem_iff.mp hy).1;show Ku is key x.2<Ku is key y.2
   rw[<-D,<-e2];exact h)
  rwa [<-e]at this
 rw[list_sort_plain];have RH:b<s.heap.objs.size:=P0 B;obtain⟨D,m⟩:∃x,(s.heap.update b (R3 λV=>#[])).get? b=gV (RB "list" #[] x):=⟨_,Ws B _⟩;have o:(sH s.heap b u).get? b=gV (RB "list" #[] D):=PH _ (PH _ m);refine Pp (G' B rfl (Pp (U6 B rfl ?_ (by rw[P2];exact L G))));refine Pp (YS m rfl (Pp (XP (Pp (U1 (Rz ?_))) (by simp_all))));show wpAny (Qj P w) A _ R E {s with heap:=sH s.heap b u}
 have go:∀t,SE t=Pt->(QE t).Perm (o3 u)->(QE t).toList.Pairwise C.lo->wpAny (Qj P w) A (do
   let T:=(<-seqEpoch b) != D
   acU (.ref b) λV=>(QE t).map (·.2)
   if let gV e:=SE t then rule "list.sort.comparison-raised";throw e
   if T then rule "list.sort.modified";raiseError "ValueError" "list modified during sort"
   ret .none) R E {s with heap:=sH s.heap b u}:=λt h0 H d=>by
  obtain⟨f1,f2⟩:=XX t H d;refine Pp<|YS o rfl<|Pp<|U6 o rfl ?_ (P8 _)<|Nat.le_succ_of_le f2;rw[h0];simp only[Z2,So,U0];exact PY f1
 by_cases g:u.toArray.size<2
 ·rw[PP g,PP g];refine Pp<|PY ?_;dsimp only;rw[aa9];refine Pp<|PY<|go (WY general' (u.toArray.zip u.toArray) #[] 7 Pt) rfl (.refl _) ?_;have f:(u.toArray.zip u.toArray).toList.length<2:=by simp_all
  show(u.toArray.zip u.toArray).toList.Pairwise C.lo
  generalize (u.toArray.zip u.toArray).toList=l at f;cases l with
  |nil=>exact .nil
  |cons x r=>
   cases r with
   |nil=>exact List.pairwise_singleton _ _
   |cons y r=>exact absurd f<|by simp
 rw[PM g,PM g];rw[P2]at g;refine Pp<|Y (i0 g) ?_;have hB:Bs C (o3 u):=⟨λp j=>?_,?_⟩
 ·refine Pp<|RT (Kt (C:=C) (u:=(o3 u).toList) (Q:=λV t=>(QE t).Perm (o3 u)/\SE t=Pt/\(QE t).toList.Pairwise C.lo) hB ⟨.refl _,rfl,rfl,[],rfl,rfl,.nil _⟩ (by rw[pairsOf_size];exact j' (i0 g)) λt Z N O=>⟨Z,N,O⟩) ?_ λV V z=>z;rintro⟨⟨⟩,t⟩ s2 ⟨rfl,Z,N,O⟩;exact go t N Z O
 ·rw[YT]at j;have M:=(X9 j).2;obtain⟨i,hi⟩:=Q6.mp M;obtain⟨k,V,h⟩:=wq J hi;exact⟨k,h⟩
 rw[YT];show((u.zip u).map<|Ku is key∘rz).Nodup
 rwa[<-Qm,aaQ<|Po _,ye I J]
end
end TS
namespace L2
open PySem PySem.Spec PyProof.Rows
theorem qG{c d:Type}{F:c->d->Prop}:∀{A:ab c} {B:ab d},A.length=B.length->(∀(i:Nat) a b,A[i]?=gV a->B[i]?=gV b->F a b)->Paired F A B
 |[],[],_,_=>.nil
 |[],_::_,h,_=>by cases h
 |_::_,[],h,_=>by cases h
 |a::A,b::B,h,f=>.cons (f 0 a b rfl rfl)<|qG (by simpa using h) λi a b H e=>f (i+1) a b H e
structure SK (X:Cx)(H:Hp)(κ:Type) where
 vr:κ->V->Prop
 key:κ->Int
 kd:sy
 hp:QB->Prop
 mono:∀{h h'},hp h->(∀b o,h.get? b=gV o->h'.get? b=gV o)->hp h'
 inj:∀{k k' x x' v},vr k x->RelV x v->vr k' x'->RelV x' v->k=k'
 kk:∀{A E s Q us} {ks:ab κ},hp s.heap->2<=us.length->Paired (λk v=>∃x,vr k x/\RelV x v) ks us->Q kd s->wpAny (Qj X.prog X.w) A (keyKind' us.toArray) Q E s
 lt:∀{A E s Q k k' x x' v v'},hp s.heap->vr k x->RelV x v->vr k' x'->RelV x' v'->Q (decide (key k<key k')) s->wpAny (Qj X.prog X.w) A (keyLt' kd v v') Q E s
section
variable {κ:Type}(S:SK X H κ)
theorem Gq(h:Paired (λk v=>∃x,S.vr k x/\RelV x v) s z):∃t,Vals t z/\Paired S.vr s t:=by
 induction h with
 |nil=>exact⟨[],.nil,.nil⟩
 |cons r _ i=>
  obtain⟨x,a,b⟩:=r;obtain⟨t,c,d⟩:=i;exact⟨x::t,.cons b c,.cons a d⟩
theorem wu(I:Inv X O y H s)(A:S.hp s.heap)(p:c.length<=9000)(g:Paired (λk v=>∃x,S.vr k x/\RelV x v) P c)(N:(P.map S.key).Nodup)
  (q:∀l t a,H l=Pt->a.Perm P->(a.map S.key).Pairwise (· < ·)->Paired S.vr a t->Q (.ref l) (upd H l<|.lst t)):
  wpAny (Qj X.prog X.w) X.A.in1 (do
   let l <-newList c
   let _ <-Vr [l] (call (.builtin "list.sort") [l] [])
   ret l) (λr B=>∃v,r=.done (.ret v)/\EP X O y Q v B) X.xe s:=by
 refine Pp (U1 ?_<|by rw[Ru];exact QF p (by decide));have h:(s.heap.push<|RB "list" c.toArray 0).get? _=gV _:=Qh _ rfl;have d:S.hp (TS.sH (s.heap.push<|RB "list" c.toArray 0) _ c):=S.mono A λb o e=>PH _<|PH _<|(Qp _ _<|TC<|P0 e).trans<|PH _ e;refine Pp<|Rz<|VZ YR ⟨_,h,rfl⟩ Ym (TS.sort_gen h (QF p (by decide)) (λk T v ⟨x,i,j⟩ ⟨C,m,n⟩=>S.inj i j m n) g N (λf=>S.kk d f g) (λ⟨x,i,j⟩ ⟨C,m,n⟩=>S.lt d i j m n) λz a D f F=>⟨_,rfl,?_⟩)<|Zq _;obtain⟨t,G,u⟩:=Gq S D;obtain⟨e,J⟩:=Xq h;refine PY ⟨_,rfl,.ref _,_,I.laid (o:=.lst t) (λb o E=>?_) (Po _) ⟨?_,z,e,G,J⟩,rfl,q _ t a (I.hok.fresh<|Po _) f F u⟩
 ·have w:=P0 E;rw[ZW (Qa w)<|by rw[X7];exact RH w];exact PH _ E
 have L:=Paired.length u;have M:=Paired.length g;rw[<-L,f.length_eq,M];exact QA (cH<|QF p (by decide))
noncomputable def IK(X:Cx)(H:Hp):SK X H Int where
 vr:=λk x=>x=.int k
 key:=λk=>k
 kd:=oneType'
 hp:=λ_=>True
 mono:=λh _=>h
 inj:=by
  rintro k b _ _ v rfl ⟨t,rfl⟩ rfl ⟨T,e⟩;simp_all
 kk:=λ{A E s Q u c} _ a h q=>by
  have i:TR u c:=by
   clear a
   induction h with
   |nil=>exact .nil
   |cons r _ I=>
    obtain⟨_,rfl,t,rfl⟩:=r;exact .cons _ t I
  match u,a with
  |v1::d::vr,_=>
   rw[keyKind_ints i];exact PY q
 lt:=by
  rintro A E s Q k b _ _ _ _ _ rfl ⟨t,rfl⟩ rfl ⟨T,rfl⟩ q;exact oneLt_int q
theorem Ae{k:ab Int}{t:ab V}(h:Paired (IK X H).vr k t):t=k.map V.int:=by
 induction h with
 |nil=>rfl
 |cons r _ i=>rw[Qf,i,r]
theorem ww(B:X.calm=Pn):eZ X (.builtin "sorted") (λn H Q=>∃p a b,n=[.ref p]/\H p=gV (.dK a)/\a.map (·.1)=b.map Qd/\b.length<=9000/\
  ∀l E,H l=Pt->List.Perm E b->TN (·<=·) E->Q (.ref l) (upd H l<|.lst<|CB V.int E)):=by
 intro Og s σ H n us Q I r h;obtain⟨p,a,b,rfl,o,w,C,q⟩:=h;obtain⟨u,rfl,F⟩:=e_ r;cases F;obtain⟨z,G,c,W,D⟩:a.length<=sizeLine/\(p == Sn)=Pr/\∃c,KV a c/\s.heap.DictOf _ p c:=I.hok p _ o;obtain⟨J,d⟩:=D.dictAt;have L:=Paired.length W;have f:c.map (·.1)=b.map Qd:=by
  rw[<-w];clear w o d D L z
  induction W with
  |nil=>rfl
  |cons r _ M=>simp_all
 have g:=Qq Q4 f;simp only[A']at g;refine W9 L0 Ip F' (PyProof.Rows.args_sorted1 _) ?_;refine Pp<|PY ?_;refine Pp<|Zc (aaA G) (I.ok.hd B) d (by simp_all) λO T P j A=>?_;have hl:P.toList.length=c.length:=A.1
 refine wu (IK X H) (P:=b) (I.kept j) trivial (by simp_all) ?_ ?_ λl ts e U Y Z h4=>?_
 ·refine qG (by simp_all) λi k v UR hv=>?_;obtain⟨k2,x,hx,m⟩:=A.2 i v (by rwa[<-Rl]);have y:=Qq (·[i]?) f;simp only[PN,hx,UR,Uj]at y;cases PZ y;obtain⟨t,et⟩:=Xh m;exact⟨.int k,rfl,t,et⟩
 ·obtain⟨S,S,S,S,S,S,S,S,N⟩:=D;rw[f,W1,QU]at N;exact(WJ b).symm▸N.imp λh z=>h<|Qq _ z
 rw[Ae h4];exact q l e U Y<|((WJ e)▸Z).imp jl
end
mutual
def RD(H:Hp):PK->V->Prop
 |.none,v=>v=.non
 |.bool b,v=>v=.bl b
 |.int i,v=>v=.int i
 |.str x,v=>v=.str x
 |.list d,v=>∃a X,v=.ref a/\H a=gV (.lst X)/\dy H d X
 |.tuple d,v=>∃a X,v=.ref a/\H a=gV (.tup X)/\dy H d X
 |.dict _,_=>False
def dy(H:Hp):ab PK->ab V->Prop
 |[],x=>x=[]
 |d::D,x=>∃y Y,x=y::Y/\RD H d y/\dy H D Y
end
theorem gk(h:H a=gV (.lst x))(r:dy H d x):RD H (.list d) (.ref a):=⟨a,x,rfl,h,r⟩
theorem bo(h:H a=gV (.tup x))(r:dy H d x):RD H (.tuple d) (.ref a):=⟨a,x,rfl,h,r⟩
theorem fb(h:RD H (.list d) v):∃a x,v=.ref a/\H a=gV (.lst x)/\dy H d x:=by
 assumption
theorem aj(h:RD H (.tuple d) v):∃a x,v=.ref a/\H a=gV (.tup x)/\dy H d x:=by
 assumption
theorem yf:RD H .none .non:=by rfl
theorem ca(i:Int):RD H (.int i) (.int i):=by rfl
theorem cR(x:Str):RD H (.str x) (.str x):=by rfl
theorem aG:dy H [] []:=by rfl
theorem ah(h:RD H d y)(t:dy H D Y):dy H (d::D) (y::Y):=⟨y,Y,rfl,h,t⟩
theorem bz(h:dy H [] x):x=[]:=by
 assumption
theorem ai(h:dy H (d::D) x):∃y Y,x=y::Y/\RD H d y/\dy H D Y:=by
 assumption
theorem uk:∀N:ab Int,dy H (N.map WU)<|N.map V.int
 |[]=>aG
 |n::r=>ah (ca n)<|uk r
theorem c9:∀{D:ab PK} {x:ab V},dy H D x->x.length=D.length
 |[],_,h=>by
  rw[bz h];rfl
 |d::D,_,h=>by
  obtain⟨y,Y,rfl,z,t⟩:=ai h;rw[P4,P4,c9 t]
theorem cQ:∀{D:ab PK} {x:ab V} {j:Nat} {v:V},dy H D x->x[j]?=gV v->RD H (D.getD j .none) v
 |[],_,_,_,h,e=>by rw[bz h]at e;cases e
 |d::D,_,j,v,h,e=>by
  obtain⟨y,Y,rfl,a,t⟩:=ai h;cases j with
  |zero=>
   simp_all
  |succ j=>exact cQ (D:=D) t (by assumption)
mutual
theorem eO(k:Same H g):∀d v,RD H d v->RD g d v
 |.none,v,h=>by unfold RD at h ⊢;exact h
 |.bool b,v,h=>by unfold RD at h ⊢;exact h
 |.int i,v,h=>by unfold RD at h ⊢;exact h
 |.str x,v,h=>by unfold RD at h ⊢;exact h
 |.list D,v,h=>by
  obtain⟨a,X,e,c,f⟩:=fb h;subst e;exact gk (k _ _ c)<|dz k D X f
 |.tuple D,v,h=>by
  obtain⟨a,X,e,c,f⟩:=aj h;subst e;exact bo (k _ _ c)<|dz k D X f
 |.dict _,v,h=>by
  unfold RD at h;exact h.elim
theorem dz(k:Same H a):∀D x,dy H D x->dy a D x
 |[],x,h=>by
  rw[bz h];exact aG
 |d::D,x,h=>by
  obtain⟨y,Y,e,b,c⟩:=ai h;subst e;exact ah (eO k d y b)<|dz k D Y c
end
mutual
theorem cT(I:Inv X O m H s):∀d x v,RD H d x->RelV x v->∃A,Reads s.heap v d A
 |.none,x,v,h,r=>by
  unfold RD at h;subst h;cases r;exact⟨[],.none⟩
 |.bool b,x,v,h,r=>by
  unfold RD at h;subst h;cases r;exact⟨[],.bool b⟩
 |.int i,x,v,h,r=>by
  unfold RD at h;subst h;obtain⟨t,rfl⟩:=r;exact⟨[],.int i t⟩
 |.str y,x,v,h,r=>by
  unfold RD at h;subst h;obtain⟨t,rfl⟩:=r;exact⟨[],.str y t⟩
 |.list D,x,v,h,r=>by
  obtain⟨a,c,e,f,g⟩:=fb h;subst e;cases r;obtain⟨P3,j,⟨o,n,E,k,z,l⟩,z⟩:=I.list<|SqL.of f;obtain⟨A,q⟩:=lR I D c P3 g j;exact⟨a::A,.list E k l<|by simpa using q⟩
 |.tuple D,x,v,h,r=>by
  obtain⟨a,c,e,f,g⟩:=aj h;subst e;cases r;obtain⟨P3,j,⟨o,E,k,n,l⟩,z⟩:=I.tuple<|SqT.of f;obtain⟨A,q⟩:=lR I D c P3 g j;exact⟨A,.tuple E k l<|by simpa using q⟩
 |.dict _,x,v,h,_=>by
  unfold RD at h;exact h.elim
theorem lR(I:Inv X O i H s):∀D x v,dy H D x->Vals x v->∃a,pz s.heap v D a
 |[],x,v,h,r=>by
  rw[bz h]at r;cases r;exact⟨[],.nil⟩
 |d::D,x,v,h,r=>by
  obtain⟨y,Y,e,b,c⟩:=ai h;subst e;cases r with
  |cons f g=>
   obtain⟨a,q⟩:=cT I d y _ b f;obtain⟨B,Q⟩:=lR I D Y _ c g;exact⟨a++B,.cons q Q⟩
end
inductive MR (x y:V)(H:Hp)(Q:VK):Prop
 |mk (d D:PK)(r:RD H d x)(b:RD H D y)(sa:Rb d=Pn)(s:Rb D=Pn)(q:Q (.bl<|QG d D) H)
inductive MT (x y:V)(H:Hp)(Q:VK):Prop
 |mk (d D:PK)(r:RD H d x)(b:RD H D y)(sa:Rb d=Pn)(s:Rb D=Pn)(q:Q (.bl (!QG d D)) H)
def MU:R2:=λx y H Q=>MR x y H Q
def MV:R2:=λx y H Q=>MT x y H Q
theorem Kv(a:X.A.units+64<Tw):OpR X (Rf .Eq) MU:=by
 intro O s k H x y v u Q I r b h;obtain⟨d,D,c,e,f,g,q⟩:=h;obtain⟨A,i⟩:=cT I d x v c r;obtain⟨B,j⟩:=cT I D y u e b;exact eq_dataH i j f g a ⟨.bl _,H,I,rfl,q⟩
theorem Kw(a:X.A.units+64<Tw):OpR X (Rf .NotEq) MV:=by
 intro O s k H x y v u Q I r b h;obtain⟨d,D,c,e,f,g,q⟩:=h;obtain⟨A,i⟩:=cT I d x v c r;obtain⟨B,j⟩:=cT I D y u e b;exact ne_dataH i j f g a ⟨.bl _,H,I,rfl,q⟩
theorem h_(h:X.A.units+64<Tw):OpR X (Rf .Eq) (λx y H Q=>O4 x y H Q\/MU x y H Q):=OpR.or Mp<|Kv h
theorem wx(h:X.A.units+64<Tw):OpR X (Rf .NotEq) (λx y H Q=>O5 x y H Q\/MV x y H Q):=OpR.or Mq<|Kw h
theorem ul:eZ X (.builtin "isinstance") (λa H Q=>∃x t c b,a=[x,.ty c]/\jK X.K H x t/\R_ X.K t (.type c)=gV b/\Q (.bl b) H):=by
 intro O s f H a U Q I r h;obtain⟨x,t,c,b,rfl,T,e,q⟩:=h;obtain⟨u,w,rfl,d,y⟩:=xW r;obtain rfl:w=WT c:=y;exact qx I d T e λk=>⟨.bl b,H,I.tok _,rfl,q⟩
noncomputable def ib(T c:TL):M' Px:=if(WT T == WT c)=Pn then gV Pn else if PySem.W.kitMeta c=Pn then(fastBuiltinMro T).map (·.contains (WT c))else Pt
theorem bX{K:J'}{T c:TL}{b:Px}(h:ib T c=gV b):R_ K (.type T) (.type c)=gV b:=h
noncomputable def rS:PK->TL
 |.none=>"NoneType"
 |.bool _=>"bool"
 |.int _=>"int"
 |.str _=>"str"
 |.list _=>"list"
 |.tuple _=>"tuple"
 |.dict _=>"dict"
theorem oH{K:J'}{H:Hp}:∀d v,RD H d v->jK K H v (.type<|rS d)
 |.none,v,h=>by
  subst h;exact .non
 |.bool b,v,h=>by
  subst h;exact .bl b
 |.int i,v,h=>by
  subst h;exact .int i
 |.str x,v,h=>by
  subst h;exact .str x
 |.list D,v,h=>by
  obtain⟨a,X,e,c,z⟩:=fb h;subst e;exact .lst c
 |.tuple D,v,h=>by
  obtain⟨a,X,e,c,z⟩:=aj h;subst e;exact .tup c
 |.dict _,v,h=>by
  unfold RD at h;simp_all
noncomputable def Kx:PK->Px
 |.tuple _=>Pn
 |_=>Pr
noncomputable def lS:PK->Px
 |.int _=>Pn
 |.bool _=>Pn
 |_=>Pr
noncomputable def nz:PK->Px
 |.bool _=>Pn
 |_=>Pr
noncomputable def nA:PK->Px
 |.dict _=>Pn
 |_=>Pr
theorem Cl:ib "NoneType" "tuple"=gV Pr/\ib "bool" "tuple"=gV Pr/\ib "int" "tuple"=gV Pr/\ib "str" "tuple"=gV Pr/\ib "list" "tuple"=gV Pr/\ib "tuple" "tuple"=gV true:=by
 refine⟨?_,?_,?_,?_,?_,?_⟩<;>decide+kernel
theorem Ky:ib "NoneType" "int"=gV Pr/\ib "bool" "int"=gV Pn/\ib "int" "int"=gV Pn/\ib "str" "int"=gV Pr/\ib "list" "int"=gV Pr/\ib "tuple" "int"=gV false:=by
 refine⟨?_,?_,?_,?_,?_,?_⟩<;>decide+kernel
theorem Gr:ib "NoneType" "bool"=gV Pr/\ib "bool" "bool"=gV Pn/\ib "int" "bool"=gV Pr/\ib "str" "bool"=gV Pr/\ib "list" "bool"=gV Pr/\ib "tuple" "bool"=gV false:=by
 refine⟨?_,?_,?_,?_,?_,?_⟩<;>decide+kernel
theorem lT{K:J'}(d:PK)(h:nA d=Pr):R_ K (.type<|rS d) (.type "tuple")=gV (Kx d):=by
 cases d with
 |none=>rfl
 |bool _=>rfl
 |int _=>rfl
 |str _=>rfl
 |list _=>rfl
 |tuple _=>rfl
 |dict _=>rfl
theorem yg{K:J'}(d:PK)(h:nA d=Pr):R_ K (.type<|rS d) (.type "int")=gV (lS d):=by
 cases d with
 |none=>rfl
 |bool _=>rfl
 |int _=>rfl
 |str _=>rfl
 |list _=>rfl
 |tuple _=>rfl
 |dict _=>rfl
theorem um{K:J'}(d:PK)(h:nA d=Pr):R_ K (.type<|rS d) (.type "bool")=gV (nz d):=by
 cases d with
 |none=>rfl
 |bool _=>rfl
 |int _=>rfl
 |str _=>rfl
 |list _=>rfl
 |tuple _=>rfl
 |dict _=>rfl
theorem gM(h:RD H d v):nA d=false:=by
 cases d with
 |dict _=>
  unfold RD at h;simp_all
 |_=>rfl
def Gs:V->ab V->Hp->VK->Prop:=λx v H Q=>∃l X i y,x=.ref l/\v=[.int i,y]/\H l=gV (.lst X)/\0<=i/\i<=X.length/\X.length<sizeLine/\Q .non (upd H l<|.lst<|X.take i.toNat++y::X.drop i.toNat)
theorem Af:NZ X "list.insert" Gs:=by
 intro P s m H x o v U Q I c d h;obtain⟨l,p,i,y,rfl,rfl,b,w,A,B,q⟩:=h;cases c;obtain⟨C,u,rfl,⟨t,rfl⟩,f⟩:=xW d;obtain⟨z,k,n,r,D,e⟩:=I.lstM b;have E:=Ru;have a:¬(!abF i)=true:=by
  rw[fitsIndex_both (by lia)<|by lia];exact Pk
 refine V1 Yu ⟨_,e,rfl⟩ F.entry_list_insert (F.args_list_insert_3 _ _ _) (Ze l _ n i t u a<|by simp_all) ⟨e,⟨.non,_,I.lset b e ?_ ((r.take _).append<|.cons f<|r.drop _) ?_,rfl,q⟩⟩
 ·have j:min i.toNat k.toArray.size=i.toNat:=by simp_all
  grind
 grind
structure Fn (P:PU)(w:Qc)(K:J')(mg:Str->M' Pm)(base:QB)(k:Nat)(x:Str)(f:C')(fd:PR)(ps:ab Str)(sp:Sp):Prop where
 ok:ay P w K mg base aV k f fd ps sp
 b:Binds K fd ps []
 kp:RF K (.ref f)=Pn
 at_:mg x=gV (.ref f)
theorem MW{X:Cx}{j:Nat}{k:Nat}{f:C'}{F:PR}{a:ab Str}{s:Sp}{x:Str}{p:Pos}{P:Pos}{e:QS}{E:ab QS}{t:TA}(G:Fn X.prog X.w X.K X.mg X.base j x f F a s)(r:Room k X.A)(h:j<=k)(g:Gl X x)(b:PA X (e::E) t)(H:(x == ("__debug__":Str))=false:=by decide)
  (c:Qk (e::E) X.env=(Pr,RU e X.env)::Qk E X.env:=by rfl) (v:(SW P<|Qk E X.env).any (·.1)=false:=by rfl):PE X (.Call (.Name x p) (e::E) [] P) (xX s [] E0 t):=
 F7 G.ok (r.mono h) g G.at_ G.kp G.b .nil yb b H c v
theorem ad(h:H p=Pt)(o:HO):Same H (upd H p o):=λb u q=>by rwa[af<|ag q h]
theorem cm(k:Same H (upd H a o)):upd H a o a=gV o:=aa
theorem Same.upd_new(k:Same a H)(h:a p=Pt)(o:HO):Same a (upd H p o):=λb u q=>by rw[af<|ag q h];exact k b u q
theorem wy{a:Type}{xs:ab a}{i:Int}(H:0<=i)(b:i<xs.length):∃v,xs[i.toNat]?=gV v/\kn xs i=gV v:=by
 have h:i.toNat<xs.length:=by simp_all
 have e:i=((i.toNat:Nat):Int):=by lia
 have q:kn xs ((i.toNat:Nat):Int)=gV xs[i.toNat]:=aE<|K' h;rw[<-e]at q;exact⟨_,K' h,q⟩
theorem Cn{n:ab Int}{i:Int}(a:0<=i)(b:i<n.length):∃v,n[i.toNat]?=gV v/\kn (n.map V.int) i=gV (.int v):=by
 obtain⟨v,h,c⟩:=wy (xs:=n.map V.int) a (by simp_all);simp_all
def AllIn(f:Str->M' C'):ab (Str×C')->Prop
 |[]=>True
 |p::r=>f p.1=gV p.2/\AllIn f r
theorem AllIn.look:∀{C:ab (Str×C')},AllIn f C->∀{y:Str} {c:C'},C.lookup y=gV c->f y=gV c
 |[],_,y,c,e=>by cases e
 |(n,a)::r,h,y,c,e=>by
  rw[SI]at e;cases q:(y == n)with
  |true=>
   rw[q]at e;have E:=eq_of_beq q;have b:=PZ e;rw[E,<-b];exact h.1
  |false=>
   rw[q]at e;exact AllIn.look h.2 e
noncomputable def bN(X:Cx)(s:T_)(c:ab (Str×C'))(n:ab Str)(C:C')(f:ab C')(s₀:PF)(H₀:Hp):Cx where
 prog:=X.prog
 w:=X.w
 K:=X.K
 mg:=X.mg
 base:=X.base
 A:=X.A
 N:=n
 s₀:=s₀
 H₀:=H₀
 env:=VM s (Q7 (C+1) s.names c) C X.env
 outer:=X.stack
 stack:=X.stack
 ex:=f
 fn:=λx=>(c.lookup x).isNone
 calm:=X.calm
 pn:=[]
 xe:=λ_ _=>False
structure CompSc (X:Cx)(scope:T_)(cl:ab (Str×C'))(NY:ab Str)(idx:ab (M' Nat)):Prop where
 clos:w1 scope X.env=pure cl
 all:AllIn (λy=>X.env.cells.lookup y) cl
 c2:∀n,((Uv scope X.env).names.all λq=>!(decide (q.2=.cell) || decide (q.2=.free)) || ((Q7 n scope.names cl).lookup q.1).isSome)=Pn
 ix:((NY.zip idx).all λp=>match p.2 with
  |none=>Pn
  |some i=>decide (X.N[i]?=gV p.1)&&(decide (X.env.kindOf p.1=gV .cell) || decide (X.env.kindOf p.1=gV .free))&&(decide ((Uv scope X.env).names.lookup p.1=gV .cell) || decide ((Uv scope X.env).names.lookup p.1=gV .free))&&(scope.names.all λq=>!decide (q.2=.cell) || !decide (q.1=p.1)))=Pn
 len:idx.length=NY.length
 kind:scope.kind=.function
 names:∀y∈scope.names,y.2=.local->scope.names.lookup y.1=gV .local
theorem cL:∀N n i,Q7 n N i=Q7 n N []++i
 |[],_,_=>rfl
 |(x,k)::r,n,i=>by
  unfold Q7
  split
  ·rw[cL r _<|(x,n)::i,cL r _ [(x,n)],Qu];rfl
  exact cL r n i
theorem lU:∀{N:ab (Str×WV)} {n:Nat} {y:Str} {c:C'},(y,c)∈Q7 n N []->(y,U4)∈N
 |(x,k)::r,n,y,c,h=>by
  unfold Q7 at h
  split at h
  ·rw[cL]at h;obtain h|h:=P5.mp h
   ·exact P1 _<|lU h
   simp_all
  exact P1 _<|lU h
theorem oI(h:(Q7 n N C).lookup y=gV c):(y,c)∈Q7 n N []\/C.lookup y=gV c:=by
 rw[cL,ZQ]at h;cases e:(Q7 n N []).lookup y with
 |some d=>
  rw[e]at h;cases h;exact .inl<|QZ e
 |none=>
  rw[e]at h;exact .inr h
theorem Co(h:∀q∈N,q.2=U4->q.1≠y):(Q7 n N c).lookup y=c.lookup y:=by
 rw[cL,ZQ];cases e:(Q7 n N []).lookup y with
 |some d=>exact absurd rfl<|h _ (lU<|QZ e) rfl
 |none=>rfl
theorem ql{M:mj}{A:Q0}{E:Pm->PF->Prop}{s:PF}{a:T_}{g:C'}{Y:ab (Str×C')}{q:Str}{O:Env}{Q:Env->PF->Prop}
  (H:∀h',h'.Ns s.heap.objs.size (λz=>Pt)->(∀b o,s.heap.get? b=gV o->h'.get? b=gV o)->CellsOk h' (s.heap.objs.size+1) (Q7 (s.heap.objs.size+1) a.names [])->
   Q (newEnv a s.heap.objs.size g (Q7 (s.heap.objs.size+1) a.names Y) q Pt .none (gV O) O.builtins) {s with heap:=h'}):
  wpAny M A (YH a g Y [] q Pt .none<|gV O) Q E s:=by
 refine Pp<|wpAny_alloc<|Pp<|wpAny_layCells _ (by simp) _ _ _ _ ?_;have d:=cellsFrom_ok a.names (s.heap.push {cls:=.type "dict",data:=.dict #[]}) _ [] ⟨λz z m=>(nomatch m),TK⟩ (Po _);rw[UF]at d;rw[UF ..];exact Pp<|PY<|PY<|H _ ((Heap.Ns.new _<|.type _).keeps<|aa_ _ _) (λb o e=>aa_ _ _ b o<|PH _ e) d
noncomputable def Cp(I:ab (M' Nat))(a:St):St:=I.map λo=>match o with
 |none=>Pt
 |some i=>(a[i]?).getD Pt
theorem CompSc.look(S:CompSc X s C N i)(n:Nat)(h:(Uv s X.env).names.lookup y=gV .cell\/(Uv s X.env).names.lookup y=gV .free):∃c,(Q7 n s.names C).lookup y=gV c:=by
 have m:∃k,(y,k)∈(Uv s X.env).names/\(k=.cell\/k=.free):=by
  obtain h|h:=h
  ·exact⟨_,QZ h,.inl rfl⟩
  exact⟨_,QZ h,.inr rfl⟩
 obtain⟨k,a,H⟩:=m;have q:=Qv.mp (S.c2 n) _ a;have e:(decide (k=U4) || decide (k=acp))=true:=by
  simp_all
 have Q:=q;rw[e]at Q;exact U8.mp Q
theorem Cq{F:ab C'}{f:QB}{m:Str->M' Pm}{tk:Nat}(S:CompSc X d C NY l)(I:Inv X Pz r H s)
  (D:∀b∈F,qi X Pz H b) (w:∀b∈F,b<s.heap.objs.size) (G:f.Ns s.heap.objs.size m) (O:∀b o,s.heap.get? b=gV o->f.get? b=gV o) (n:CellsOk f (s.heap.objs.size+1) (Q7 (s.heap.objs.size+1) d.names [])):
  Inv (bN X d C NY s.heap.objs.size F s H) [] (Cp l r) H {s with heap:=f,toks:=tk}:=by
 have hC:=I.hok.fresh<|Po _;have T:∀{x:Str} {c:C'},C.lookup x=gV c->X.env.cells.lookup x=gV c:=λe=>S.all.look e;have J:∀{x:Str} {c:C'},X.env.cells.lookup x=gV c->c<s.heap.objs.size:=λ{x c} e=>by
  obtain⟨v,z⟩:=I.cell x c e;exact z.lt
 have t:∀{x:Str} {c:C'},(Q7 _ _ C).lookup x=gV c->((x,c)∈Q7 _ _ []/\s.heap.objs.size<c/\f.IsCell c Pt)\/(X.env.cells.lookup x=gV c/\c<s.heap.objs.size):=λ{x c} e=>by
  obtain h|h:=oI e
  ·exact .inl ⟨h,(n.empty x c h).2,(n.empty x c h).1⟩
  exact .inr ⟨T h,J<|T h⟩
 have L:∀x y c,(Q7 _ _ C).lookup x=gV c->(Q7 _ _ C).lookup y=gV c->x=y:=λx y c M N=>by
  obtain a|a:=t M<;>obtain b|b:=t N
  ·exact Z7 n.apart a.1 b.1
  ·exact absurd (Yc a.2.1 b.2)<|Sa _
  ·exact absurd (Yc b.2.1 a.2)<|Sa _
  exact I.ok.inj x y c a.1 b.1
 have ne:∀b∈F,∀x c,(Q7 _ _ C).lookup x=gV c->c≠b:=λb k x c e=>by
  obtain a|a:=t e
  ·exact TC<|Yc (w b k) a.2.1
  exact(D b k).2.2.2.2.1 x c a.1
 have fr:∀x c,(Q7 _ _ C).lookup x=gV c->H c=none:=λx c e=>by
  obtain a|a:=t e
  ·exact I.hok.fresh<|QA a.2.1
  exact I.freeC x c a.1
 have P:∀x c,(C.lookup x).isNone=Pn->(Q7 _ _ C).lookup x=gV c->s.heap.objs.size<=c:=λx c hf e=>by
  obtain h|h:=oI e
  ·exact j' (n.empty x c h).2
  rw[h]at hf;cases hf
 refine⟨⟨I.ok.mod,?_,I.ok.glob,I.ok.blt,Po _,L,λx hx=>S.look _ hx,P,I.ok.hd,I.ok.frames,.inl rfl,λb k=>⟨Qa<|w b k,ne b k⟩,
  I.bs,QF I.ok.bsz I.sz,λb o e k=>?_,λb k U=>?_,I.stack,I.stkFree⟩,rfl,I.bare,Un.kept O,⟨m,G,λj y v M N h3=>?_⟩,λx c e=>?_,hC,fr,λp hp=>absurd (show p∈([])from hp) (by simp),I.hok.kept O,?_⟩
 ·exact S.kind
 ·obtain z|z:=(D b k).2.2.2.1
  ·exact I.ok.noex b o e z
  exact absurd (QH (P0 e)<|QF I.ok.bsz z)<|Sa _
 ·obtain e|e:=P_.mp (I.stkSub b U)
  ·exact(D b k).2.1 e
  exact(D b k).2.2.1 e
 ·
  have g:=N;unfold Cp at g;rw[PN]at g;cases W:l[j]? with
  |none=>rw[W]at g;cases g
  |some o=>
   rw[W]at g;cases o with
   |none=>cases g
   |some i=>
    have E:(r[i]?).getD Pt=gV v:=by simpa using g
    have e4:r[i]?=gV (gV v):=by
     cases q:r[i]? with
     |none=>rw[q]at E;cases E
     |some z=>
      rw[q]at E;exact Qq gV E
    have U:(NY.zip l)[j]?=gV (y,gV i):=by
     rw[W'];exact⟨M,W⟩
    have q:=Qv.mp S.ix _<|Pq U;have q':=q;rw[Qs,Qs,Qs,Sj,Sj]at q';obtain⟨⟨⟨q1,q2⟩,q3⟩,q4⟩:=q';have q5:∀q∈d.names,q.2=U4->q.1≠y:=λq hq e1 e2=>by
     have:=Qv.mp q4 q hq;rw[PB e1,PB e2]at this;cases this
    have Y:=PX q1;have Q:X.env.kindOf y=gV _\/X.env.kindOf y=gV _:=q2.elim (λz=>.inl<|PX z) λz=>.inr<|PX z;have A:(Uv d _).names.lookup y=gV _\/(Uv d _).names.lookup y=gV _:=q3.elim (λz=>.inl<|PX z) λz=>.inr<|PX z;obtain⟨mX,V,hl⟩:=I.loc;obtain⟨u,ru,lk⟩:=hl i y v Y e4<|.inr Q;refine⟨u,ru,.inr ⟨A,?_⟩⟩;obtain⟨c,B⟩:=S.look (s.heap.objs.size+1) A;have hc:=B;rw[Co q5]at hc;obtain⟨hk,V⟩|⟨V,c',WB,Z⟩:=lk
    ·obtain z|z:=Q
     ·rw[hk]at z;cases z
     rw[hk]at z;cases z
    have e5:=T hc;rw[WB]at e5;cases e5;obtain⟨oc,ho,hd⟩:=Z;exact⟨_,B,oc,O _ _ ho,hd⟩
 ·obtain a|a:=t e
  ·exact⟨Pt,a.2.2⟩
  obtain⟨v,oc,ho,hd⟩:=I.cell x c a.1;exact⟨v,oc,O _ _ ho,hd⟩
 unfold Cp;rw[A'];exact S.len
def Kz(Y:Cx)(i:ab QS)(t:TT):Prop:=
 ∀(P:ab (C'×Obj)) (s:PF) (a:St) (H:Hp) (Q:Px->Hp->Prop),Inv Y P a H s->t a H Q->
  wpAny (Qj Y.prog Y.w) Y.A (forIn i Pn λc r=>if r=Pn then do let o <-isTrue c Y.env<|RU c Y.env;pure (Vd o)else pure (Vd r)) (TP Y P a Q) Y.xe s
def MX:TT:=λ_ H Q=>Q Pn H
theorem cy{A B:St->Hp->Prop}(h:A (c.set i<|gV x) H):eW i x c H (λa e=>MX a e λb d=>if b=Pn then A a d else B a d):=by
 assumption
theorem nC:Kz Y [] MX:=λO s a H Q I h=>wpAny_tests_nil ⟨H,I,h⟩
theorem dA(h:PT Y c t):Kz Y [c] t:=λO s a H Q I w=>wpAny_tests_one<|h O s a H Q I w
def jD(J:It)(D:C')(g:TG)(t:TT)(T:TE)(e:St)(n:Hp)(Q:VK):Prop:=
 ∃W:Nat->Nat->St->ab V->Hp->Prop,(∃m,W 0 m e []<|upd n D<|.lst [])/\∀i m f Y H,W i m f Y H->H D=gV (.lst Y)/\
  ((J.stop i H/\Q (.ref D) H)\/(J.go i H/\∃N:St->ab V->Hp->Prop,(∀c d h,N c d h->∃M,M<m/\W (i+1) M c d h)/\
   ∀x j,J.yld i H x j->g x f j λa o=>t a o λb k=>if b=Pn then T a k λy l=>l D=gV (.lst Y)/\Y.length<sizeLine/\N a (Y++[y]) (upd l D<|.lst<|Y++[y])else N a Y k))
def uo(i:ab (M' Nat))(w:TI)(g:TG)(t:TT)(T:TE):TE:=λa H Q=>w a H λJ h=>∀D,h D=Pt->jD J D g t T (Cp i a) h Q
section
variable {R:kS->PF->Prop}
theorem iL{o D J:QS}{q:ab QS}{a:T_}{P:Pos}{F G:Pm}{e:Env}(I:Nat->PF->Prop)
  (Z:∀n s,I n s->wpAny (Qj p w) A (Xv F) (λr b=>match r with
   |none=>R (.ok .next) b
   |some v=>wpAny (Qj p w) A (Wr D F v) (λ_ f=>wpAny (Qj p w) A (tA D e v) (λ_ g=>
     wpAny (Qj p w) A (forIn q Pn λc r=>if r=Pn then do let O <-isTrue c e<|RU c e;pure (Vd O)else pure (Vd r)) (λO d=>
      if O=Pn then wpAny (Qj p w) A (RU o e) (λx i=>
       wpAny (Qj p w) A (call (.builtin "list.append") [G,x]) (λ_ j=>∃m,m<n/\I m j) (λ_ _=>False) i) (λ_ _=>False) d
      else∃m,m<n/\I m d) (λ_ _=>False) g) (λ_ _=>False) f) (λ_ _=>False) b) (λ_ _=>False) s)
  (n:Nat) (h:I n s):
  codeAny (Qj p w) A (.compLoop (.ListComp o [⟨D,J,q,0⟩] a P) 0 F G e) R s:=by
 refine codeAny_loop rfl I (λn s M=>?_) n h;show wpAny _ A _ _ _ s
 refine wpAny_noted ?_;rw[compTurn_list];refine Pp<|WN<|Pp<|RT (Z n s M) (λr b k=>?_) λ_ _ H=>H.elim;cases r with
 |none=>exact PY k
 |some v=>
  refine Pp<|RT k (λ_ f u=>Pp<|RT u (λ_ g y=>Pp<|RT y (λO d l=>?_) λ_ _ H=>H.elim) λ_ _ H=>H.elim) λ_ _ H=>H.elim;cases O with
  |false=>exact PY ⟨rfl,l⟩
  |true=>
   exact Pp<|Pp<|RT l (λx i B=>Pp<|RT B (λ_ j C=>PY<|PY ⟨rfl,C⟩) λ_ _ H=>H.elim) λ_ _ H=>H.elim
end
structure CompEnd (X:Cx)(Pz:ab (C'×Obj))(σ:St)(H:Hp)(C:C')(s:PF):Prop where
 inv:Inv X Pz σ H s
 ns:∃m,s.heap.Ns C m
 free:H C=Pt
 loc:C≠X.env.locals
 young:X.s₀.heap.objs.size<=C
 cells:∀x c,X.env.cells.lookup x=gV c->c≠C
 pin:∀p∈X.pn++Pz,p.1≠C
theorem CompEnd.gone(e:CompEnd X O a H C s)(h:UO C s.heap h'):Inv X O a H {s with heap:=h'}:=
 e.inv.turned (λb o c q=>(h.2 b c).trans q) e.free e.loc (.inr e.young) e.cells e.pin
theorem uq{Pz:ab (C'×Obj)}{σ:St}{H:Hp}{s:PF}{Q:VK}{RR:Pm->C'->kS->PF->Prop}(an:X.calm=Pn)(S:CompSc X a G Y bf)(hi:PI X Ub UM wi)
  (hg:∀C F w A,PG (bN X a G Y C F w A) Ub g) (ht:∀C F w A,Kz (bN X a G Y C F w A) as tt) (he:∀C F w A,PE (bN X a G Y C F w A) av te)
  (I:Inv X Pz σ H s) (h:uo bf wi g tt te σ H Q)
  (bg:∀D C B s',CompEnd X Pz σ B C s'->Q (.ref D) B->RR (.ref D) C (.ok .next) s'):
  wpAny (Qj X.prog X.w) X.A (RU UM X.env) (λx az=>wpAny (Qj X.prog X.w) X.A (lh x) (λit aC=>wpAny (Qj X.prog X.w) X.A (newList []) (λRi aF=>
   wpAny (Qj X.prog X.w) X.A (PySem.newFunctionEnv a X.env.globals G [] X.env.qual Pt .none<|gV X.env) (λaL a0=>
    codeAny (Qj X.prog X.w) X.A (.compStart (.ListComp av [⟨Ub,UM,as,0⟩] a bk) 0 it Ri {aL with scope:=Uv a X.env}) (RR Ri aL.locals) a0) X.xe aF) X.xe aC) X.xe az) X.xe s:=by
 refine bC (hi Pz s σ H _ I h) λv s1 h1=>bC h1 λcf f h2=>?_;obtain⟨it,F,tn,J,M,e,I2,T,RX,f2,r2⟩:=h2;subst e;have hD:M _=none:=I2.hok.fresh<|Po _;have r3:=r2 _ hD;have Z:Inv X Pz σ (upd M _<|.lst []) {f with heap:=f.heap.push {cls:=.type _,data:=.seq _}}:=
  I2.laid (λb u q=>PH _ q) (Po _) ⟨P8 _,[],0,.nil,Qh _ rfl⟩
 refine R5<|ql λl a1 a2 a3=>?_;dsimp only at a1 a2 a3 ⊢;have a4:∀b∈F,b<f.heap.objs.size:=λb j=>by
  obtain⟨o,q,_⟩:=T.obj 0 _ RX b j;exact P0 q
 have bl:=λb j=>Qa<|a4 b j;have f3:∀b∈F,qi X Pz (upd M _<|.lst []) b:=λb j=>⟨by rw[af<|bl b j];exact(f2 b j).1,(f2 b j).2⟩;generalize a5:({f with heap:=f.heap.push {cls:=.type _,data:=.seq _}}:PF)=k at Z;have E:k.heap=f.heap.push {cls:=.type "list",data:=.seq ([]).toArray}:=by rw[<-a5]
 have a6:∀b∈F,b<k.heap.objs.size:=λb j=>by
  rw[E,UF];exact RH<|a4 b j
 have bm:l.Ns k.heap.objs.size (λ_=>Pt):=by rwa[E]
 have a7:∀b o,k.heap.get? b=gV o->l.get? b=gV o:=λb o q=>by
  rw[E]at q;exact a2 b o q
 have br:CellsOk l (k.heap.objs.size+1) (Q7 (k.heap.objs.size+1) a.names []):=by rwa[E]
 have YH:=T.keep _ _ _ RX λb j o q=>a7 b o (by rw[E];exact PH _ q);have O:=Cq (tk:=f.toks) S Z f3 a6 bm a7 br;have e4:({k with heap:=l,toks:=f.toks})={f with heap:=l,toks:=f.toks}:=by rw[<-a5]
 rw[e4]at O;have eC:k.heap.objs.size=(f.heap.push {cls:=.type "list",data:=.seq ([]).toArray}).objs.size:=by rw[E]
 have bs:k.heap.get? _=none:=YM<|Po _;obtain⟨W,⟨m0,w0⟩,ZE⟩:=r3;have bt:∀s4,s4={f with heap:=l,toks:=f.toks}->
   codeAny (Qj X.prog X.w) X.A (.compLoop (.ListComp av [⟨Ub,UM,as,0⟩] a bk) 0 (.ref it) (.ref f.heap.objs.size)<|VM a (Q7 (k.heap.objs.size+1) a.names G) k.heap.objs.size X.env) (RR (.ref f.heap.objs.size) k.heap.objs.size) s4:=by
  rintro s4 rfl;have ac:∀{B:Hp},(∀b∈F,B b=Pt)->∀b∈F,qi (bN X a G Y _ F k<|upd M _<|.lst []) [] B b:=λ{B} hn b j=>
   ⟨hn b j,Qa<|a6 b j,(λz=>(O.ok.exfs b j) z),.inl j,λx c e=>(O.ok.exf b j).2 x c e,λp hp=>absurd (show p∈([]:ab _)from hp)<|by simp⟩
  refine iL (λn s'=>∃i L ys B,Inv (bN X a G Y _ F k<|upd M _<|.lst []) [] L B s'/\tn i s'.heap/\(∀b∈F,B b=Pt)/\W i n L ys B) ?_ m0
   ⟨0,_,[],_,O,YH,λb j=>(f3 b j).1,w0⟩
  rintro n s5 ⟨i,P,ys,H5,I5,a8,a9,w5⟩;obtain⟨ch,b0⟩:=ZE i n P ys H5 w5;obtain⟨ba,qn⟩|⟨go,N,hN,step⟩:=b0
  ·refine bC (T.done (bN X a G Y _ F k<|upd M _<|.lst []) rfl rfl rfl an i [] s5 P H5 _ I5 (ac a9) a8 ba) λr s6 ⟨hr,I6⟩=>?_;subst hr;have I7:=Z.call' I6.os I6.base I6.hok I6.bare λb j=>⟨(f3 b j).2.2.2.1,(f3 b j).2.1,(f3 b j).2.2.2.2.1,(f3 b j).2.2.2.2.2⟩;refine bg _ _ H5 s6 ⟨I7,?_,I6.free,TC Z.lt,Z.sz,λx c e=>?_,λp hp z=>?_⟩ qn
   ·obtain⟨m,hn,_⟩:=I6.loc;exact⟨m,hn⟩
   ·obtain⟨v,q⟩:=Z.cell x c e;exact Qa q.lt
   have q:=(Z.pin p hp).1;rw[z,bs]at q;cases q
  refine bC (T.item (bN X a G Y _ F k<|upd M _<|.lst []) rfl rfl rfl an i [] s5 P H5 _ I5 (ac a9) a8 go) λr s6 ⟨u,hr,h6⟩=>?_;subst hr;refine bC h6 λ_ s7 ⟨x,H7,I7,r7,y7,am,b1⟩=>?_;have b2:=I7.pinned (ac b1)<|T.obj _ _ am;have bb:∀{t:St} {U:ab V} {H8:Hp} {s8:PF},Inv (bN X a G Y k.heap.objs.size F k<|upd M f.heap.objs.size<|.lst []) _ t H8 s8->N t U H8->
    ∃m,m<n/\∃i L ys B,Inv _ [] L B s8/\tn i _/\(∀b∈F,B b=Pt)/\W i m L ys B:=λ{t U H8 s8} I8 n8=>by
   obtain⟨m',hm,w8⟩:=hN t U H8 n8;refine⟨m',hm,i+1,t,U,H8,I8.unpinned,T.keep _ _ _ am λb j o e=>(I8.pin _<|Qw _<|Qw _<|hO j e).1,λb j=>?_,w8⟩;obtain⟨o,e,d⟩:=T.obj _ _ am b j;exact(I8.pin _<|Qw _<|Qw _<|hO j e).2.1
  refine bC (hg _ _ _ _ _ s7 P H7 x u _ b2 r7<|step x H7 y7) λ_ s8 ⟨t,H8,I8,q8⟩=>bC (ht _ _ _ _ _ s8 t H8 _ I8 q8) λok s9 ⟨H9,I9,q9⟩=>?_;cases ok with
  |false=>exact al<|bb I9 q9
  |true=>
   refine ar<|bC (he _ _ _ _ _ s9 t H9 _ I9 q9) λy b3 ⟨yv,bc,b4,b5,b6,b7,cc⟩=>bC (cK _ b3 t bc (.ref _) _ _ [y] (λv B=>v=.non/\B=upd bc _ _) b4 rfl (.cons b5 .nil) ⟨_,ys,yv,rfl,rfl,b6,b7,rfl,rfl⟩) λ_ ck ⟨_,co,cd,_,_,ce⟩=>?_;subst ce;exact bb cd cc
 have L1:=bt _ rfl;rw[eC]at L1;exact codeAny_compStart_list L1<|T.self _ 0 _ _ _ YH L1
theorem rT(A:X.calm=Pn)(S:CompSc X a l N i)(k:PI X r u w)(n:∀C f b c,PG (bN X a l N C f b c) r g)(t:∀C f b c,Kz (bN X a l N C f b c) d T)
  (o:∀C f b c,PE (bN X a l N C f b c) E p) (v:∀x,Tv u X.env x=pure x:=by intro z;rfl):PE X (.ListComp E [⟨r,u,d,0⟩] a P) (uo i w g T p):=by
 intro O s y H Q I h;refine Xs rfl v S.clos S.kind S.names ?_;refine uq A S k n t o I h ?_;intro D C B G e q;obtain⟨m,F⟩:=e.ns;exact⟨m,F,λJ j=>⟨.ref D,B,e.gone j,rfl,q⟩⟩
def ur(i:Nat)(t:TE):TS:=λD a H=>t a H λv h=>D.nx (a.set i<|gV v) h
theorem wz{l A:Pos}(T:X.N.Nodup)(U:X.N[i]?=gV x)(P:X.env.scope.names.lookup x=gV .local)(t:X.calm=Pn)(S:CompSc X b v Y w)(W:PI X r u Z)
  (hg:∀C F c d,PG (bN X b v Y C F c d) r g) (ht:∀C F c d,Kz (bN X b v Y C F c d) k tt) (he:∀C F c d,PE (bN X b v Y C F c d) E te)
  (y:WL (.ListComp E [⟨r,u,k,0⟩] b p) (gV<|.Name x l) A.line X.env=pure Pn) (hs:∀x,Tv u X.env x=pure x:=by intro f;rfl):
  PS X (.Assign [.Name x l] (.ListComp E [⟨r,u,k,0⟩] b p) A) (ur i<|uo w Z g tt te):=by
 intro O s σ H D I h;rw[exec_Assign_Name_used _ _ _ _ y];refine Pp<|WN<|Pp ?_;show wpAny _ X.A _ _ _ s
 refine Pp<|RT (Xs rfl hs S.clos S.kind S.names ?_) (λf n hq=>PY<|PY hq) λf f e=>e;refine uq t S W hg ht he I h ?_;intro B C j n e q;refine Z5<|qu e.inv T U (.inl P) (v:=.ref B) rfl (λG J sb=>?_)<|.inr P;obtain⟨a,o,L⟩:=sb;have N:C≠a:=by
  obtain rfl|L:=L
  ·exact e.loc
  exact λz=>e.cells _ _ L z.symm
 obtain⟨m,Q⟩:=e.ns;have e2:CompEnd X O _ j C G:=⟨J,⟨m,Q.sameBut o N⟩,e.free,e.loc,e.young,e.cells,e.pin⟩;exact⟨m,Q.sameBut o N,λh' M=>⟨_,j,e2.gone M,q⟩⟩
section
variable {K:J'}{a D:C'}{xs:ab V}{g:TG}{tt:TT}{te:TE}{σ0:St}{H1:Hp}{Q:VK}
theorem bQ(Pv:Nat->St->ab V->Hp->Prop)(j:Pv 0 σ0 [] (upd H1 D<|.lst []))(k:∀i c Y H,i<=xs.length->Pv i c Y H->H D=gV (.lst Y)/\SqL K H a xs)
  (l:∀i x c Y H,xs[i]?=gV x->Pv i c Y H->g x c H λd n=>tt d n λb h=>if b=Pn then te d h λy f=>f D=gV (.lst Y)/\Y.length<sizeLine/\Pv (i+1) d (Y++[y]) (upd f D<|.lst<|Y++[y])else Pv (i+1) d Y h)
  (o:∀c Y H,Pv xs.length c Y H->Q (.ref D) H):jD (FU K a) D g tt te σ0 H1 Q:=by
 exists λi m c Y H=>m=xs.length-i/\i<=xs.length/\Pv i c Y H,(by simp_all);rintro i m c Y H ⟨rfl,r,p⟩;obtain⟨t,q⟩:=k i c Y H r p;exists t;by_cases s:i<xs.length
 ·refine .inr ⟨⟨xs,xs[i],q,by simp⟩,Pv<|i+1,λu v w P=>⟨xs.length-(i+1),Nat.sub_lt_sub_left s (Tf _),rfl,s,P⟩,λx w y=>?_⟩;obtain⟨e,y⟩:=y;subst e;exact l i x c Y _ (y xs q) p
 have e:i=xs.length:=Nat.le_antisymm r (i0 s)
 subst e;exact .inl ⟨⟨xs,q,Po _⟩,o c Y H p⟩
theorem ut(Pv:Nat->St->ab V->Hp->Prop)(j:Pv 0 σ0 [] (upd H1 D<|.lst []))(k:∀i c Y H,i<=xs.length->Pv i c Y H->H D=gV (.lst Y)/\SqT K H a xs)
  (l:∀i x c Y H,xs[i]?=gV x->Pv i c Y H->g x c H λd n=>tt d n λb h=>if b=Pn then te d h λy f=>f D=gV (.lst Y)/\Y.length<sizeLine/\Pv (i+1) d (Y++[y]) (upd f D<|.lst<|Y++[y])else Pv (i+1) d Y h)
  (o:∀c Y H,Pv xs.length c Y H->Q (.ref D) H):jD (J2 K a) D g tt te σ0 H1 Q:=by
 exists λi m c Y H=>m=xs.length-i/\i<=xs.length/\Pv i c Y H,(by simp_all);rintro i m c Y H ⟨rfl,r,p⟩;obtain⟨t,q⟩:=k i c Y H r p;exists t;by_cases s:i<xs.length
 ·refine .inr ⟨⟨xs,xs[i],q,by simp⟩,Pv<|i+1,λu v w P=>⟨xs.length-(i+1),Nat.sub_lt_sub_left s (Tf _),rfl,s,P⟩,λx w y=>?_⟩;obtain⟨e,y⟩:=y;subst e;exact l i x c Y _ (y xs q) p
 have e:i=xs.length:=Nat.le_antisymm r (i0 s)
 subst e;exact .inl ⟨⟨xs,q,Po _⟩,o c Y H p⟩
theorem fL{lo:Int}(Pv:Nat->St->ab V->Hp->Prop)(j:Pv 0 σ0 [] (upd H1 D<|.lst []))(k:∀i c Y H,i<=n->Pv i c Y H->H D=gV (.lst Y))
  (l:∀i c Y H,i<n->Pv i c Y H->g (.int<|lo+i) c H λd o=>tt d o λb h=>if b=Pn then te d h λy f=>f D=gV (.lst Y)/\Y.length<sizeLine/\Pv (i+1) d (Y++[y]) (upd f D<|.lst<|Y++[y])else Pv (i+1) d Y h)
  (q:∀c Y H,Pv n c Y H->Q (.ref D) H):jD (FV lo n) D g tt te σ0 H1 Q:=by
 exists λi m c Y H=>m=n-i/\i<=n/\Pv i c Y H,⟨n,by simp,P8 _,j⟩;rintro i m c Y H ⟨rfl,r,p⟩;exists k i c Y H r p;by_cases s:i<n
 ·refine .inr ⟨s,Pv<|i+1,λt u v P=>⟨n-(i+1),Nat.sub_lt_sub_left s (Tf _),rfl,s,P⟩,λx v y=>?_⟩;obtain⟨e,y⟩:=y;subst e y;exact l i c Y _ s p
 have e:i=n:=Nat.le_antisymm r (i0 s)
 subst e;exact .inl ⟨Po _,q c Y H p⟩
end
theorem wA:∀{us:ab Pm},Vals (ss.map V.str) us->StrsAre us ss:=by
 induction ss with
 |nil=>intro us r;cases r;exact .nil
 |cons n ns ih=>
  intro us r;cases r with
  |cons r1 r2=>
   obtain⟨t,e⟩:=r1;subst e;exact .cons n t<|ih r2
theorem Gu:NZ X "str.join" (λx b H Q=>∃a p y,x=.str a/\b=[.ref p]/\SqL X.K H p (y.map V.str)/\(y.map (·.length)).sum+y.length*a.length<=16777216/\Q (.str<|qb a y) H):=by
 intro O s g H x b v U Q I c d h;obtain⟨a,p,y,rfl,rfl,e,z,q⟩:=h;obtain⟨t,rfl⟩:=c;obtain⟨u,rfl,f⟩:=e_ d;cases f;obtain⟨P3,r,P,w⟩:=I.list e;exact join_list P.isList (by simpa using wA r) z λT k=>⟨.str _,H,I.tok _,⟨_,rfl⟩,q⟩
noncomputable def uu:V->Px
 |.bl _=>Pn
 |.non=>Pn
 |_=>Pr
noncomputable def iB:V->Px
 |.bl b=>b
 |_=>Pr
theorem yh(r:Vals Y k)(c:Y.all uu=Pn):TruthOf p w A (λi v=>k.toArray[i]?=gV v) (λi=>(Y[i]?).elim Pr iB):=by
 intro i v s Q E d q;have h:k[i]?=gV v:=by simpa using d
 cases e:Y[i]? with
 |none=>
  rw[r.none_of e]at h;cases h
 |some y=>
  obtain⟨u,f,a⟩:=r.get e;rw[f]at h;cases h;have H:Q ((Y[i]?).elim Pr iB) s:=q;rw[e]at H;have g:=Qv.mp c y<|Pq e;cases y with
  |bl b=>
   cases a;exact Rj H
  |non=>
   cases a;exact truthy_none H
  |_=>cases g
theorem Ag(Y:ab V):(Qt Y.length).any (λi=>(Y[i]?).elim Pr iB)=Y.any iB:=by
 rw[RE];simp only[P',Rx];constructor
 ·rintro⟨i,H,h⟩;exists Y[i],Su H;simpa[H]using h
 rintro⟨y,a,h⟩;obtain⟨i,H,rfl⟩:=TV a;exact⟨i,H,by simp_all⟩
theorem Ah(Y:ab V):(Qt Y.length).all (λi=>(Y[i]?).elim Pr iB)=Y.all iB:=by
 rw[RE];simp only[Qv,Rx];constructor
 ·intro h y a;obtain⟨i,H,rfl⟩:=TV a;simpa[H]using h i H
 simp_all
theorem iM(c:X.calm=Pn):eZ X (.builtin "any") (λx H Q=>∃p y,x=[.ref p]/\SqL X.K H p y/\y.all uu=Pn/\Q (.bl<|y.any iB) H):=by
 intro O s n H x U Q I r h;obtain⟨p,y,rfl,a,d,q⟩:=h;obtain⟨u,rfl,f⟩:=e_ r;cases f;obtain⟨P3,v,P,z⟩:=I.list a;have l:=P.isList;obtain⟨o,g,w⟩:=id l;have j:=P0 g;refine call_any_walk<|Uu l<|⟨s.heap.objs.size,_,_,_,_,_,_,rfl,XZ (A:=X.A.in1) (I.ok.hd c) _ p (Qa j) _,⟨⟨_,Qh _ rfl,rfl,rfl⟩,l.push _⟩,yh v d,λt T k=>?_⟩;have e:(Qt P3.toArray.size).any (λi=>(y[i]?).elim Pr iB)=y.any iB:=by
  rw[P2,<-v.length];exact Ag y
 rw[e];refine⟨.bl _,H,I.kept λb o e=>k b o ?_<|PH _ e,rfl,q⟩;intro m;exact absurd (Pw.mp m)<|Qa<|P0 e
theorem oJ(c:X.calm=Pn):eZ X (.builtin "all") (λx H Q=>∃p y,x=[.ref p]/\SqL X.K H p y/\y.all uu=Pn/\Q (.bl<|y.all iB) H):=by
 intro O s n H x U Q I r h;obtain⟨p,y,rfl,a,d,q⟩:=h;obtain⟨u,rfl,f⟩:=e_ r;cases f;obtain⟨P3,v,P,z⟩:=I.list a;have l:=P.isList;obtain⟨o,g,w⟩:=id l;have j:=P0 g;refine call_all_walk<|Uu l<|⟨s.heap.objs.size,_,_,_,_,_,_,rfl,XZ (A:=X.A.in1) (I.ok.hd c) _ p (Qa j) _,⟨⟨_,Qh _ rfl,rfl,rfl⟩,l.push _⟩,yh v d,λt T k=>?_⟩;have e:(Qt P3.toArray.size).all (λi=>(y[i]?).elim Pr iB)=y.all iB:=by
  rw[P2,<-v.length];exact Ah y
 rw[e];refine⟨.bl _,H,I.kept λb o e=>k b o ?_<|PH _ e,rfl,q⟩;intro m;exact absurd (Pw.mp m)<|Qa<|P0 e
theorem oK:∀(l:ab Pm) (s:ab Int),l.length=s.length->(∀(i:Nat) (v:Pm),l[i]?=gV v->∃(k:Int) (t:Tok),s[i]?=gV k/\v=.int k t)->TR l s
 |[],[],_,_=>.nil
 |[],_::_,h,_=>by cases h
 |_::_,[],h,_=>by cases h
 |v::l,k::s,h,f=>by
  obtain⟨a,t,E,b⟩:=f 0 v rfl;have e:=PZ E;subst e b;exact .cons k t (oK l s (by simpa using h) λi u H=>f (i+1) u<|by assumption)
theorem uv{a:Type}:∀{k:ab (a×V)} {v:ab (a×Pm)} {i:Nat} {q:a×Pm},KV k v->v[i]?=gV q->∃p,k[i]?=gV p/\p.1=q.1/\RelV p.2 q.2
 |_,_,_,_,.nil,e=>by cases e
 |_,_,0,_,.cons r _,e=>by
  have E:=PZ e;subst E;exact⟨_,rfl,r.1,r.2⟩
 |_,_,i+1,q,.cons _ t,e=>by
  obtain⟨p,h,H⟩:=uv t (by assumption);exact⟨p,by assumption,H⟩
theorem uw(hc:X.calm=Pn):eZ X (.builtin "sorted") (λF H Q=>∃p a d,F=[.ref p]/\H p=gV (.dK a)/\a.map (·.1)=d.map Qd/\d.length<64/\
  ∀l w,H l=Pt->UR w d->TN (·<=·) w->Q (.ref l) (upd H l<|.lst<|CB V.int w)):=by
 intro G s J H F us Q I r h;obtain⟨p,a,d,rfl,hp,M,ac,q⟩:=h;obtain⟨u,rfl,ru⟩:=e_ r;cases ru;obtain⟨z,hd,f,N,dd⟩:a.length<=sizeLine/\(p == Sn)=Pr/\∃f,KV a f/\s.heap.DictOf _ p f:=I.hok p _ hp;obtain⟨ep,j⟩:=dd.dictAt;have P1:=Paired.length N;have am:d.length=a.length:=by
  have e:=Qq Q4 M;rw[A',A']at e;exact e.symm
 refine W9 L0 Ip F' (args_sorted1 _)<|Pp<|PY<|Pp<|Zc (aaA hd) (I.ok.hd hc) j (by simp_all) λc T g m A=>?_;have P:=A.1
 have y:TR g.toList d:=by
  refine oK _ _ (by simp_all) λi v hv=>?_;obtain⟨k,x,hx,B⟩:=A.2 i v (by simp_all);obtain⟨q1,C,D,S⟩:=uv N hx;have E:(a.map (·.1))[i]?=gV k:=by rw[PN,C];exact Qq gV D
  rw[M,PN]at E;cases U:d[i]? with
  |none=>simp_all
  |some n=>
   rw[U]at E;have e3:=PZ E;subst e3;obtain⟨t,et⟩:=Xh B;exact⟨n,t,rfl,et⟩
 refine Pp (U1 ?_<|by simp_all);have W:Inv X G J H {s with heap:=c,toks:=T}:=I.kept m;have L:(c.push<|RB "list" g.toList.toArray 0).get? _=gV _:=Qh _ rfl;refine Pp<|Rz<|VZ YR ⟨_,L,rfl⟩ Ym (list_sort_tree L y (by simp_all) λO w a1 Y a3=>⟨_,rfl,PY ⟨_,rfl,?_⟩⟩)<|Zq _;have hn:=W.hok.fresh<|Po _;obtain⟨e,he⟩:=Xq L;have I2:Inv X G J (upd H c.objs.size<|.lst<|w.map V.int) {s with heap:=CW (c.push<|RB "list" g.toList.toArray 0) c.objs.size g.toList O,toks:=T}:=by
  refine W.laid (λb o Z=>?_) (Po _) ?_
  ·have hb:=P0 Z;rw[ZW (Qa hb)<|by rw[X7];exact RH hb];exact PH _ Z
  refine⟨?_,O.toList,e,?_,?_⟩
  ·rw[A',Y.length_eq];simp_all
  ·exact jj a1
  assumption
 exact⟨.ref _,_,I2,rfl,q _ w hn Y a3⟩
noncomputable def KB(K:J')(a:C'):It:=
 ⟨λi H=>∃X x,SqL K H a X/\X[i]?=gV x,λi H x h=>∃t v,H t=Pt/\x=.ref t/\h=upd H t (.tup [.int i,v])/\∀X,SqL K H a X->X[i]?=gV v,λi H=>∃X,SqL K H a X/\X.length<=i⟩
theorem Ai{P:PU}{w:Qc}{K:J'}{L:ab QS}{k1:Nat}{M:Pos}(a e t:C')(Wi:e≠t):t6 P w K (.Tuple L k1 M) (KB K a) [e,t] e (λi h=>(∃O,IsEnum h e t i O)/\h.IsListIter t a i) where
 mem:=by simp
 obj:=λi h st b f=>by
  obtain⟨⟨O,g⟩,o,j,V,Q⟩:=st;obtain rfl|f:=P_.mp f
  ·exact⟨_,g,λv z=>by
    simp_all⟩
  have e:b=t:=Pw.mp f;subst e;exact⟨o,j,λv z=>by lia⟩
 keep:=λi h h' st k=>by
  obtain⟨⟨O,g⟩,j⟩:=st;exact⟨⟨O,k e (by simp) _ g⟩,j.at λo e=>k t (by simp) o e⟩
 item:=by
  intro X T U W d i Oc s σ H E I B st Y;subst T U W;obtain⟨xs,x,G,Z⟩:=Y;obtain⟨P3,rv,p,hz⟩:=I.list G;obtain⟨u,hu,ru⟩:=rv.get Z;obtain⟨⟨O,g⟩,j⟩:=st;obtain⟨f0,f1,f2,f3,f4,f5⟩:=B e (by simp);obtain⟨g0,J,g2,g3,g4,g5⟩:=B t (by simp);refine wpAny_pyNext_enum_item g j p.isList (x:=u) (by simp_all) Wi λh' ho C ht an hk=>?_;refine⟨_,rfl,wpAny_letOwnedTupleGo_enum ho λl ac A=>?_⟩;have D:e<s.heap.objs.size:=P0 g;have Wy:t<s.heap.objs.size:=by
   obtain⟨o,q,V⟩:=j;exact P0 q
  have y:∀b o,b≠e->b≠t->s.heap.get? b=gV o->l.get? b=gV o:=λb o h3 Q q=>A.extBut b o h3<|hk b o h3 Q q;have I1:Inv X Oc σ (upd H s.heap.objs.size<|.tup [.int i,x]) {s with heap:=l,toks:=s.toks+1}:=by
   have F:H s.heap.objs.size=none:=I.hok.fresh<|Po _;have am:l.get? _=gV {cls:=.type _,data:=.seq #[.int i _,u]}:=A.extBut _ _ (TC D) ht;have N:∀b o,H b=gV o->b≠e/\b≠t:=λb o q=>(by lia);refine I.step (ch:=[e,t]) (λb f=>?_) (λb o V V d q V=>?_) (λb o V V d q V=>⟨o.slots,?_⟩) (λb o V q n=>?_) (λb o d q=>⟨o,?_⟩) (λb ys q=>?_) (λb ob ys q=>?_) (λb ps q=>⟨#[],?_⟩) (λm hm=>?_) (λb ob q=>?_) I.bare
   ·obtain rfl|f:=P_.mp f
    ·exact⟨f3,f1,f4,f5⟩
    have z:=Pw.mp f;subst z;exact⟨g3,J,g4,g5⟩
   ·simp_all
   ·simp_all
   ·rwa[af<|Qa<|P0 q]
   ·simp_all
   ·rwa[af<|ag q F]
   ·rwa[af<|ag q F]
   ·rw[af<|ag q F,q];simp
   ·obtain⟨o,L,ep,ho,r⟩:=hm;exact⟨o,L,ep,y _ o (Q1 f1) (Q1 J) ho,r⟩
   by_cases f:b=s.heap.objs.size
   ·subst f;rw[aa]at q;cases q;exact⟨by show 2<=sizeLine;decide,[.int i _,u],.cons ⟨_,rfl⟩<|.cons ru .nil,⟨_,am,rfl,_,rfl⟩⟩
   rw[af f]at q;refine(I.hok b ob q).stay (λc v d z=>?_) (λc z=>by rwa[af<|ag z F]) λc ys z=>by rwa[af<|ag z F]
   obtain d|d:=d
   ·subst d;exact y _ v (N _ _ q).1 (N _ _ q).2 z
   exact y _ v (N _ _ d).1 (N _ _ d).2 z
  refine⟨.ref _,_,I1,rfl,⟨s.heap.objs.size,x,I.hok.fresh<|Po _,rfl,rfl,λys hy=>by rwa[I.list_inj hy G]⟩,⟨⟨u,by simpa using ac⟩,C.at λo q=>A.extBut t o (Q1 Wi) q⟩,λb f=>?_⟩;have Sv:b<s.heap.objs.size:=by
   obtain rfl|f:=P_.mp f
   ·exact D
   rwa[Pw.mp f]
  rw[af<|Qa Sv];exact(B b f).1
 done:=by
  intro X T U W d i Oc s σ H E I B st Y;subst T U W;obtain⟨xs,G,Z⟩:=Y;obtain⟨P3,rv,p,hz⟩:=I.list G;obtain⟨⟨O,g⟩,j⟩:=st;obtain⟨g0,J,g2,g3,g4,g5⟩:=B t (by simp);have hl:=rv.length;exact wpAny_pyNext_enum_end (I.ok.hd d) g j p.isList (by simp;simp_all) λh' eb=>⟨rfl,I.turned (λb o f e=>eb b o f e) g0 J g3 g4 g5⟩
 self:=λV V V V V st h=>by
  obtain⟨⟨O,g⟩,V⟩:=st;exact Z4 g h
def Aj(f:V->Hp->Prop):ab V->Hp->Prop
 |[x],H=>f x H
 |_,_=>False
theorem iN:∀{v:ab V} {H:Hp},Aj f v H->∃x,v=[x]/\f x H
 |[x],_,h=>⟨x,rfl,h⟩
def MY(K:J')(t:TE):TI:=λb H R=>t b H λx h=>∃a,x=.ref a/\(∃X,SqL K h a X)/\R (KB K a) h
theorem kE{E:ab QS}{n:Nat}{A:Pos}{p P:Pos}(o:Gl X "enumerate")(r:X.mg "enumerate"=Pt)(t:PE X l T)(g:Qk [l] X.env=[(Pr,RU l X.env)]:=by rfl):
  PI X (.Tuple E n A) (.Call (.Name "enumerate" p) [l] [] P) (MY X.K T):=by
 intro O s j H R I h;have v:=aM t (hU) (by rw[g];rfl);refine Call_<|dD I o r boot_enumerate<|Rh (bC (v P O s j H (Aj _) I h) λU d ⟨L,c,i,w,Q⟩=>?_) g rfl
 obtain⟨x,e,a,y,⟨k,z⟩,q⟩:=iN Q;subst e y;obtain⟨u,rfl,B⟩:=e_ w;cases B;obtain⟨P3,M,C,N⟩:=i.list z;refine call_enumerate_list C.isList λD m hit F G=>Z4 m ?_;have J:Inv X O j c {d with heap:=D}:=i.kept G;refine⟨d.heap.objs.size+1,[d.heap.objs.size+1,d.heap.objs.size],_,_,c,rfl,J,Ai a _ _<|Nat.succ_ne_self _,⟨⟨_,m⟩,hit⟩,λb f=>?_,q⟩;obtain rfl|f:=P_.mp f
 ·exact i.fpOk (Wf _)<|i.hok.fresh<|Wf _
 rw[Pw.mp f];exact i.fpOk (Po _)<|i.hok.fresh<|Po _
theorem gN{K:J'}{a:C'}{xs:ab V}{g:TG}{T:TS}{D:hH}{b:St}{H:Hp}(Pv:Nat->St->Hp->Prop)(j:Pv 0 b H)(l:∀i b H,i<=xs.length->Pv i b H->SqL K H a xs)
  (s:∀i x b H t,xs[i]?=gV x->Pv i b H->H t=Pt->g (.ref t) b (upd H t<|.tup [.int i,x]) λc f=>T {D with nx:=Pv<|i+1,ct:=Pv<|i+1,bk:=D.nx} c f) (k:∀b H,Pv xs.length b H->D.nx b H):
  ∃W:Nat->Nat->St->Hp->Prop,(∃m,W 0 m b H)/\∀i m b H,W i m b H->
   ((KB K a).stop i H/\D.nx b H)\/((KB K a).go i H/\∃N:St->Hp->Prop,(∀d h,N d h->∃M,M<m/\W (i+1) M d h)/\∀x h,(KB K a).yld i H x h->g x b h λc f=>T {D with nx:=N,ct:=N,bk:=D.nx} c f):=by
 exists λi m b H=>m=xs.length-i/\i<=xs.length/\Pv i b H,(by simp_all);rintro i m b H ⟨rfl,n,p⟩;have q:=l i b H n p;by_cases Q:i<xs.length
 ·refine .inr ⟨⟨xs,xs[i],q,by simp⟩,Pv<|i+1,λd h P=>⟨xs.length-(i+1),by grind,rfl,Q,P⟩,λx h y=>?_⟩;obtain⟨t,v,o,rfl,rfl,y⟩:=y;exact s i v b H t (y xs q) p o
 have e:i=xs.length:=by lia
 subst e;exact .inl ⟨⟨xs,q,Po _⟩,k b H p⟩
end L2
namespace L2
section
open PySem
theorem Gv(e:X.K=K):IxR X (Iy K):=by subst e;exact B2
theorem fM(e:X.K=K):OpR X (Rf .In) (N0 K Pr):=by subst e;exact lQ
theorem jE(e:X.K=K):OpR X (Rf .NotIn) (N0 K Pn):=by subst e;exact hV
theorem Ak(e:X.K=K):eZ X (.builtin "len") (J9 K):=by subst e;exact dq
end
end L2
namespace OD
open PySem L2
noncomputable def absI(i:Int):Int:=if i<0 then -i else i
theorem cj(h:0<=i):absI i=i:=by unfold absI;rw[PM<|by simp_all]
def L4:Int->ab Int->Prop
 |_,[]=>True
 |b,l::r=>b<absI l/\L4 (absI l) r
def ClOk(n:Int)(L:ab Int):Prop:=L4 0 L/\∀l∈L,absI l<=n
noncomputable def jw(c:ab Int):PK:=.tuple<|c.map .int
noncomputable def oM(t:Str)(c:ab (ab Int)):PK:=.tuple [.str t,.list<|c.map jw]
def WS(t:Str):Prop:=∀c∈t.cps.toList,c=119\/c=115
structure Pj (most:Int)(t:Str)(cs:ab (ab Int)):Prop where
 len:(t.length:Int)<=most
 ws:WS t
 many:cs.length<=16
 cl:∀c∈cs,ClOk t.length c
noncomputable def dP(p:ab (Int×Int)):ab (aJ×V):=p.map λq=>(Qd q.1,V.int q.2)
noncomputable def qo(p:ab (Int×Int))(k s:Int):ab (Int×Int):=if(p.any λq=>decide (q.1=k))=Pn then p.map (λq=>if q.1=k then(q.1,s)else q)else p++[(k,s)]
theorem KC(p:ab (Int×Int))(k:Int):((dP p).any λv=>decide (v.1=(Qd k:aJ)))=p.any λq=>decide (q.1=k):=by
 unfold dP;rw[Uh]
 congr 1
 grind
theorem KD(p:ab (Int×Int))(k s:Int):cE (dP p) (Qd k) (V.int s)=dP (qo p k s):=by
 unfold cE qo;rw[KC];by_cases h:(p.any λq=>decide (q.1=k))=Pn
 ·rw[PP h,PP h];unfold dP;rw[Qm,Qm]
  congr 1
  funext q
  show(if(Qd q.1)=Qd k then((Qd q.1),V.int s)else(Qd q.1,V.int q.2))=(Qd (if q.1=k then(q.1,s)else q).1,V.int (if q.1=k then(q.1,s)else q).2)
  by_cases e:q.1=k
  ·rw[PP (by rw[e]),PP e]
  rw[PM λz=>e<|Rm z,PM e]
 rw[PM h,PM h];unfold dP;rw[P6];rfl
theorem Gw(p:ab (Int×Int)):(dP p).map (·.1)=(p.map (·.1)).map Qd:=by
 unfold dP;rw[Qm,Qm];rfl
noncomputable def jF(p:ab (Int×Int))(k:Int):M' Int:=(p.find? λq=>decide (q.1=k)).map (·.2)
theorem KE(p:ab (Int×Int))(k:Int):aY (dP p) (Qd k:aJ)=(jF p k).map V.int:=by
 induction p with
 |nil=>rfl
 |cons q r i=>
  show aY (((Qd q.1),V.int q.2)::dP r) _=_
  by_cases e:q.1=k
  ·rw[ci<|by rw[e]];simp[jF,e]
  rw[bU λz=>e<|Rm z,i];simp[jF,e]
structure DOk (n:Int)(ps:ab (Int×Int)):Prop where
 nd:(ps.map (·.1)).Nodup
 rng:∀q∈ps,1<=q.1/\q.1<=n
 sg:∀q∈ps,q.2=1\/q.2=-1
theorem DOk.nil(n:Int):DOk n []:=⟨UJ,(by simp),(by simp)⟩
theorem DOk.put(h:DOk n p)(d:1<=k/\k<=n)(c:s=1\/s=-1):DOk n (qo p k s)/\(qo p k s).length<=p.length+1:=by
 unfold qo;by_cases a:(p.any λq=>decide (q.1=k))=Pn
 ·rw[PP a];have e:(p.map λq=>if q.1=k then(q.1,s)else q).map (·.1)=p.map (·.1):=by
   rw[Qm]
   congr 1
   funext q
   lia
  refine⟨⟨by rw[e];exact h.nd,λq H=>?_,λq H=>?_⟩,by simp⟩
  ·obtain⟨Q,b,rfl⟩:=Qe.mp H
   split
   ·exact h.rng Q b
   exact h.rng Q b
  obtain⟨Q,b,rfl⟩:=Qe.mp H
  split
  ·exact c
  exact h.sg Q b
 rw[PM a];refine⟨⟨?_,λq H=>?_,λq H=>?_⟩,by simp⟩
 ·rw[P6];refine yc h.nd λm=>a ?_;simp_all
 ·obtain z|z:=P5.mp H
  ·exact h.rng q z
  rwa[Pw.mp z]
 obtain z|z:=P5.mp H
 ·exact h.sg q z
 rwa[Pw.mp z]
noncomputable def KF(p:ab (Int×Int))(k:Int):Int:=(jF p k).getD 1
theorem DOk.look(h:DOk n p)(H:k∈p.map (·.1)):jF p k=gV (KF p k)/\(KF p k=1\/KF p k=-1):=by
 obtain⟨q,a,e⟩:=Qe.mp H;unfold KF jF;cases f:p.find? _ with
 |none=>
  have:=RN.mp f q a;exact absurd (PB e) this
 |some z=>exact⟨rfl,h.sg z<|Re f⟩
theorem ux(H:1<=k)(h:s=1\/s=-1):absI (k*s)=k:=by
 unfold absI;obtain rfl|rfl:=h
 ·rw[VN,PM<|by lia]
 lia
theorem Cr{f:Int->Int}:∀(s:ab Int) (b:Int),0<=b->(∀k∈s,b<k)->s.Pairwise (· < ·)->(∀k∈s,f k=1\/f k=-1)->L4 b (s.map λk=>k*f k)
 |[],_,_,_,_,_=>trivial
 |k::r,b,g,H,p,h=>by
  have a:=H k P3;have e:=ux (show 1<=k by lia)<|h k P3;obtain⟨P,c⟩:=RM.mp p;show b<absI _/\L4 _ _
  rw[e];exact⟨a,Cr r k (jl (Int.lt_of_le_of_lt g a)) P c λz d=>h z<|P1 _ d⟩
theorem iO:∀{s:ab Int},s.Pairwise (·<=·)->s.Nodup->s.Pairwise (· < ·)
 |[],_,_=>TK
 |k::r,H,n=>by
  obtain⟨p,P⟩:=RM.mp H;obtain⟨N,a⟩:=Q3.mp n;refine RM.mpr ⟨λz h=>?_,iO P a⟩;have:=p z h;have:k≠z:=λe=>N<|e▸h;lia
theorem DOk.clause{n:Int}{p:ab (Int×Int)}{s:ab Int}(h:DOk n p)(a:s.Perm (p.map (·.1)))(b:s.Pairwise (·<=·)):ClOk n (s.map λk=>k*KF p k):=by
 have m:∀k∈s,k∈p.map _:=λk H=>a.mem_iff.mp H;have r:∀k∈s,1<=k/\k<=n:=λk H=>by
  obtain⟨q,c,e⟩:=Qe.mp<|m k H;rw[<-e];exact h.rng q c
 refine⟨Cr s 0 (Vo 0) (λk H=>by have:=(r k H).1;lia) (iO b<|a.nodup_iff.mpr h.nd) λk H=>(h.look<|m k H).2,λl d=>?_⟩;obtain⟨k,H,rfl⟩:=Qe.mp d;rw[ux (r k H).1 (h.look<|m k H).2];simp_all
theorem cn{n:ab Int}{i:Nat}{x:V}(h:(n.map V.int)[i]?=gV x):∃z,x=.int z/\n[i]?=gV z:=by
 cases e:n[i]? with
 |none=>simp_all
 |some z=>
  simp_all
theorem Ct(n:ab Int)(lo h:M' Int):∃m:ab Int,dE (n.map V.int) lo h=m.map V.int/\m.length<=n.length:=by
 unfold dE;rw[A'];refine⟨(n.drop<|HT.sIx n.length 0 lo).take<|HT.sIx n.length n.length h-HT.sIx n.length 0 lo,?_,?_⟩
 ·simp
 rw[P9,Q8];exact QF (V5 _ _) (ky _ _)
theorem yi(a b:Str):(a++b).cps.toList=a.cps.toList++b.cps.toList:=by
 show(a.cps++b.cps).toList=_
 simp
theorem uy(h:e.cps.toList=[]):∀a,(th e a).cps.toList=(a.map λs=>s.cps.toList).flatten
 |[]=>rfl
 |[x]=>by
  show x.cps.toList=_
  simp
 |x::y::r=>by
  show((x++e)++th e _).cps.toList=_
  rw[yi,yi,h,uy h<|y::r];simp
def oN(s:Str):Prop:=s=⟨#[119]⟩\/s=⟨#[115]⟩
theorem oO:∀{a:ab Str},(∀s∈a,oN s)->(a.map λs=>s.cps.toList).flatten.length=a.length/\∀ch∈(a.map λs=>s.cps.toList).flatten,ch=119\/ch=115
 |[],_=>by simp
 |s::r,h=>by
  obtain⟨b,c⟩:=oO λz d=>h z<|P1 _ d;rw[Qf,List.flatten_cons];obtain rfl|rfl:=h s P3
  ·refine⟨by rw[Pl,b];show 1+r.length=r.length+1;exact Nat.add_comm _ _,λch H=>?_⟩;obtain z|z:=P5.mp H
   ·exact .inl (by simpa using z)
   exact c ch z
  refine⟨by rw[Pl,b];show 1+r.length=r.length+1;exact Nat.add_comm _ _,λch H=>?_⟩;obtain z|z:=P5.mp H
  ·exact .inr (by simpa using z)
  exact c ch z
theorem MZ:(PD "").cps.toList=[]:=by rfl
theorem Cu(h:∀s∈a,oN s):(qb "" a).length=a.length/\WS (qb "" a):=by
 have e:qb (PD "") a=th _ a:=eq_of_beq<|aaI _ a;obtain⟨b,c⟩:=oO h;have E:=uy MZ a;refine⟨?_,?_⟩
 ·rw[e];show(th _ a).cps.size=_
  rwa[<-Qi,E]
 intro C H;rw[e,E]at H;exact c C H
theorem qH:∀{a:ab Str},(∀s∈a,oN s)->(a.map λs=>s.length).sum=a.length
 |[],_=>rfl
 |s::r,h=>by
  rw[Qf,List.sum_cons,qH λz H=>h z<|P1 _ H,P4];obtain rfl|rfl:=h s P3
  ·show 1+_=_;exact Nat.add_comm _ _
  show 1+_=_;exact Nat.add_comm _ _
theorem M0(h:0<=j)(H:j<2):∃c,kn (PD "ws").cps.toList j=gV c/\oN ⟨#[c]⟩:=by
 obtain rfl|rfl:=(by lia:j=0\/j=1)
 ·exact⟨119,by rfl,.inl rfl⟩
 exact⟨115,by rfl,.inr rfl⟩
def CL(H:Hp)(c:ab Int)(v:V):Prop:=∃t,v=.ref t/\H t=gV (.tup<|c.map V.int)
def CLs(H:Hp):ab (ab Int)->ab V->Prop:=Paired<|CL H
theorem CL.mono(h:CL H c v)(k:Same H a):CL a c v:=let ⟨t,e,z⟩:=h;⟨t,e,k _ _ z⟩
theorem CL.upd(h:CL H c v)(a:H q=gV (.lst xs)):CL (upd H q o) c v:=by
 obtain⟨t,e,z⟩:=h;exact⟨t,e,by rwa[af<|bi z a<|by intro w;cases w]⟩
theorem CLs.mono(k:Same H a):∀{c:ab (ab Int)} {xs:ab V},CLs H c xs->CLs a c xs:=λh=>Paired.mapP h λz z h=>h.mono k
theorem CLs.upd(a:H q=gV (.lst y)):∀{c:ab (ab Int)} {xs:ab V},CLs H c xs->CLs (upd H q o) c xs
 |_,_,.nil=>.nil
 |_,_,.cons h t=>.cons (h.upd a)<|CLs.upd a t
theorem CLs.snoc(h:CL H c v)(t:CLs H C xs):CLs H (C++[c]) (xs++[v]):=Paired.snoc t h
theorem CLs.length(h:CLs H c xs):c.length=xs.length:=Paired.length h
theorem CLs.get:∀{C:ab (ab Int)} {xs:ab V} {j:Nat} {v:V},CLs H C xs->xs[j]?=gV v->∃c,C[j]?=gV c/\CL H c v:=by
 intro C xs j v h e;change Paired _ _ _ at h;induction h generalizing j with
 |nil=>cases e
 |cons h t i=>
  cases j with
  |zero=>exact⟨_,rfl,by simp_all⟩
  |succ j=>exact i e
theorem CL.rd(h:CL H c v):RD H (jw c) v:=by
 obtain⟨t,rfl,z⟩:=h;exact bo z<|uk c
theorem CLs.rds:∀{c:ab (ab Int)} {xs:ab V},CLs H c xs->dy H (c.map jw) xs
 |_,_,.nil=>aG
 |_,_,.cons h t=>ah h.rd<|CLs.rds t
theorem CL.of(h:RD H (jw c) v):CL H c v:=by
 obtain⟨a,x,rfl,b,d⟩:=aj h;refine⟨a,rfl,?_⟩;rw[b];have:∀(N:ab Int) (x:ab V),dy H (N.map WU) x->x=N.map V.int:=by
  intro N
  induction N with
  |nil=>intro x r;exact bz r
  |cons n r i=>
   intro x z;obtain⟨y,Y,rfl,e,t⟩:=ai z;have E:y=.int n:=by
    assumption
   rw[E,i Y t];rfl
 rw[this c x d]
theorem CLs.of:∀{C:ab (ab Int)} {xs:ab V},dy H (C.map jw) xs->CLs H C xs
 |[],xs,h=>by
  rw[bz h];exact .nil
 |c::C,xs,h=>by
  obtain⟨y,Y,rfl,a,b⟩:=ai h;exact .cons (CL.of a)<|CLs.of b
theorem Gx(a:H p=gV (.tup [.str t,.ref q]))(b:H q=gV (.lst xs))(h:CLs H c xs):RD H (oM t c) (.ref p):=
 bo a (ah (cR t)<|ah (gk b h.rds) aG)
theorem kF(h:RD H (oM t c) v):∃p q x,v=.ref p/\H p=gV (.tup [.str t,.ref q])/\H q=gV (.lst x)/\CLs H c x:=by
 obtain⟨p,Y,rfl,b,d⟩:=aj h;obtain⟨y,Z,rfl,a,f⟩:=ai d;obtain⟨z,w,rfl,g,i⟩:=ai f;have j:=bz i;subst j;obtain⟨q,x,rfl,k,l⟩:=fb g;have e:y=.str t:=by
  assumption
 subst e;exact⟨p,q,x,rfl,b,k,CLs.of l⟩
theorem jM:∀C:ab (ab Int),Rv (C.map jw)=Pn
 |[]=>rfl
 |c::r=>by
  show(Rv _&&Rv _)=Pn
  rw[PySem.W.ke_canLayAll0,jM r];rfl
theorem Al(h:d.canLay0=Pn)(H:d.depth<=64):Rb d=true:=by
 unfold Rb;rw[h,PB H];rfl
theorem jN(c:ab Int):QG (jw c) (.tuple [])=decide (c=[]):=by
 cases c with
 |nil=>rfl
 |cons n r=>rfl
theorem yj:∀{c:ab Int} {b:Int},0<=b->L4 b c->∀l∈c,1<=absI l
 |[],_,_,_,_,h=>nomatch h
 |x::r,b,a,h,l,H=>by
  have d:=h.1;obtain rfl|H:=P_.mp H
  ·lia
  exact yj (jl (Int.lt_of_le_of_lt a d)) h.2 l H
theorem ClOk.pos(h:ClOk n c):∀l∈c,1<=absI l:=yj (Vo 0) h.1
noncomputable def eP(l:Int)(c:ab Int):M' (ab Int):=if c.contains l=Pn then Pt else gV (c.filter λo=>!decide (o=-l))
noncomputable def bp(l:Int)(c:ab (ab Int)):ab (ab Int):=c.filterMap<|eP l
noncomputable def hit(B:ab Px)(l:Int):Px:=match B[(absI l-1).toNat]? with
 |some b=>b == decide (0<l)
 |none=>Pr
theorem dG{a:Type}{f g:a->Px}:∀{xs:ab a},(∀x∈xs,f x=g x)->xs.any f=xs.any g
 |[],_=>rfl
 |x::r,h=>by
  rw[R0,R0,h x P3,dG λz H=>h z<|P1 _ H]
theorem rV(c:ab Int)(l:Int):c.any (λx=>decide (x=l))=c.contains l:=by
 rw[RE];simp
theorem bj(c:ab Int)(l:Int):g_ (.int l) (c.map V.int)=c.contains l:=by
 unfold g_;rw[Uh,<-rV];rfl
theorem cg(r:St)(p:V->Px)(f:V->V)(E:d=Pt::r)(k:h a=gV (.tup X))(g:h D=Pt)(u:X.length<=9000)
  (t:∀x∈X,∀H R,Same h H->R (p x) H->T (gV x::r) H R)
  (o:∀x∈X,p x=Pn->∀H R,Same h H->R (f x) H->q (gV x::r) H R)
  (s:Q (.ref D) (upd h D<|.lst<|(X.filter p).map f)):jD (J2 K a) D (eW 0) T q d h Q:=by
 have N:=ag k g;refine ut (xs:=X) (λi b y c=>(∃l,b=l::r)/\y=((X.take i).filter p).map f/\c=upd h D (.lst y)) ⟨⟨Pt,E⟩,rfl,rfl⟩ ?_ ?_ ?_
 ·rintro i b y c z ⟨z,z,rfl⟩;exact⟨aa,SqT.of<|by rwa[af N]⟩
 ·rintro i x b y c m ⟨⟨l,rfl⟩,v,rfl⟩;have n:=Pq m;have e:X.take (i+1)=X.take i++[x]:=by rw[Qb,m];rfl
  refine t x n _ _ (ad g _) ?_;cases j:p x with
  |true=>
   refine ar<|o x n j _ _ (ad g _) ⟨aa,?_,⟨_,rfl⟩,?_,hG⟩
   ·have:y.length<=X.length:=by
     rw[v,A'];exact QF (Qx _ _) (by rw[P9];exact V5 _ _)
    exact cH (QF this (QF u (by decide)))
   simp_all
  |false=>
   simp_all
 simp_all
theorem cU(r:St)(p:V->Px)(f:V->V)(E:d=Pt::r)(k:h a=gV (.lst X))(g:h D=Pt)(u:X.length<=9000)
  (t:∀x∈X,∀H R,Same h H->R (p x) H->T (gV x::r) H R)
  (o:∀x∈X,p x=Pn->∀H R,Same h H->R (f x) H->q (gV x::r) H R)
  (s:Q (.ref D) (upd h D<|.lst<|(X.filter p).map f)):jD (FU K a) D (eW 0) T q d h Q:=by
 have N:=ag k g;refine bQ (xs:=X) (λi b y c=>(∃l,b=l::r)/\y=((X.take i).filter p).map f/\c=upd h D (.lst y)) ⟨⟨Pt,E⟩,rfl,rfl⟩ ?_ ?_ ?_
 ·rintro i b y c z ⟨z,z,rfl⟩;exact⟨aa,SqL.of<|by rwa[af N]⟩
 ·rintro i x b y c m ⟨⟨l,rfl⟩,v,rfl⟩;have n:=Pq m;have e:X.take (i+1)=X.take i++[x]:=by rw[Qb,m];rfl
  refine t x n _ _ (ad g _) ?_;cases j:p x with
  |true=>
   refine ar<|o x n j _ _ (ad g _) ⟨aa,?_,⟨_,rfl⟩,?_,hG⟩
   ·have:y.length<=X.length:=by
     rw[v,A'];exact QF (Qx _ _) (by rw[P9];exact V5 _ _)
    exact cH (QF this (QF u (by decide)))
   simp_all
  |false=>
   simp_all
 simp_all
theorem uz(r:St)(f:Nat->V)(e:c=Pt::r)(g:h D=Pt)(m:n<=9000)
  (t:∀x H R,R Pn H->T (gV x::r) H R)
  (j:∀i,i<n->∀H R,Same h H->R (f i) H->k (gV (.int (0+(i:Int)))::r) H R)
  (q:Q (.ref D) (upd h D<|.lst<|(Qt n).map f)):jD (FV 0 n) D (eW 0) T k c h Q:=by
 refine fL (λi a y b=>(∃d,a=d::r)/\y=(Qt i).map f/\b=upd h D (.lst y)) ⟨⟨Pt,e⟩,rfl,rfl⟩ ?_ ?_ ?_
 ·rintro i a y b z ⟨z,z,rfl⟩;exact aa
 ·rintro i a y b l ⟨⟨d,rfl⟩,v,rfl⟩;refine t _ _ _<|ar<|j i l _ _ (ad g _) ⟨aa,?_,⟨_,rfl⟩,?_,hG⟩
  ·rw[v,A',QQ];exact cH (by lia)
  rw[Si,P6,<-v];rfl
 simp_all
theorem dL(c:ab Int)(p:Int->Px)(q:V->Px)(h:∀i,q (.int i)=p i):((c.map V.int).filter q).map (λx=>x)=(c.filter p).map V.int:=by
 rw[WJ];rw[List.filter_map];refine Qq _<|VI λx z=>h x
theorem c_{c:ab Int}{x:V}(h:x∈c.map V.int):∃z∈c,x=.int z:=by
 obtain⟨z,H,e⟩:=Qe.mp h;exact⟨z,H,e.symm⟩
theorem L7{x y:V}{A B:Prop}(h:x=y)(b:B):if(!decide (x=y))=Pn then A else B:=by
 rwa[PB h]
theorem Gy{B:ab Px}{i:Nat}{x:V}(h:(B.map V.bl)[i]?=gV x):∃b,x=.bl b/\B[i]?=gV b:=by
 cases e:B[i]? with
 |none=>simp_all
 |some z=>
  simp_all
noncomputable def Cv(p:Int->Px):V->Px
 |.int z=>p z
 |_=>Pr
noncomputable def IL(f:Int->V):V->V
 |.int z=>f z
 |x=>x
theorem wB{xs:ab V}{f:V->V}:(xs.filter λz=>Pn).map f=xs.map f:=by
 rw[Rq.mpr λz z=>rfl]
end OD
namespace L2
open PySem PySem.Spec PyProof.Rows
def OL:R2:=λx y H Q=>∃(D:PK) (s:ab PK),RD H D x/\RD H (.list s) y/\D.canLay0=Pn/\Rv s=Pn/\D.depth<=60/\Q (.bl<|s.any λd=>QG d D) H
theorem KG(j:X.A.units+64<Tw):OpR X (Rf .In) OL:=by
 intro O s k H x y v u Q I r a h;obtain⟨d,D,b,c,e,f,l,q⟩:=h;obtain⟨A,g⟩:=cT I d x v b r;obtain⟨B,i⟩:=cT I _ y u c a;refine SeqAt.in_list_reads i g f e ?_ ⟨.bl _,H,I,rfl,q⟩;have:min (U' D) _<=d.depth:=V5 _ _;lia
def kI(m:Str->M' Pm)(x:Str)(v:V):Prop:=∃u,m x=gV u/\RelV v u
theorem bL(h:Gl X x)(H:kI X.mg x v)(d:(x == ("__debug__":Str))=false:=by decide):PE X (.Name x p) (tC v):=by
 obtain⟨u,a,b⟩:=H;exact FQ h a b d
end L2
namespace OD
open PySem L2
noncomputable def cD(t:Str)(i:Nat):Px:=decide (t.cps.toList[i]?=gV 119)
noncomputable def aq(b:Px):Str:=if b=Pn then PD "wisher" else PD "spoiler"
theorem uA:PD "wisher"≠PD "spoiler":=by decide+kernel
theorem Am(h:aq a=aq b):a=b:=by
 cases a<;>cases b
 ·rfl
 ·exact absurd h.symm uA
 ·exact absurd h uA
 rfl
theorem ff(a b:Px):decide (V.str (aq a)=V.str (aq b))=decide (a=b):=by
 refine TY.mpr ⟨λh=>Am<|V.str.inj h,λh=>by rw[h]⟩
def N6(i n:Nat)(C:ab (ab Int)):Prop:=∀c∈C,∀l∈c,(i:Int)<absI l/\absI l<=(n:Int)
def uB(C:ab (ab Int)):Prop:=C.length<=900/\∀c∈C,c.length<=900
theorem aH(l:Int):(0<=l/\absI l=l)\/(l<0/\absI l=-l):=by
 by_cases h:l<0
 ·exact .inr ⟨h,PP h⟩
 exact .inl ⟨Int.le_of_not_gt h,PM h⟩
theorem IM:decide (V.str ⟨#[ch]⟩=V.str (PD "w"))=decide (ch=119):=by
 have e:PD "w"=⟨#[119]⟩:=by rfl
 simp_all
theorem wC(h:t.cps.toList[i]?=gV ch):cD t i=decide (ch=119):=by
 unfold cD;simp_all
end OD
namespace L2
open PySem PySem.Spec PyProof.Rows
noncomputable def An(lo:Int)(n:Nat):It:=⟨λi _=>i<n,λi H x h=>h=H/\x=.int (lo-i),λi _=>n<=i⟩
theorem uC{P:PU}{w:Qc}{K:J'}{A:QS}(a:C')(lo:Int)(n:Nat):t6 P w K A (An lo n) [a] a (λi h=>YL h a (lo+(i:Nat)*(-1)) ((n:Int)-(i:Nat)) (-1)) where
 mem:=by simp
 obj:=λi h st b c=>by
  have e:b=a:=by simpa using c
  subst e;exact⟨_,st,λv z=>by
   have Z:=z;cases Z⟩
 keep:=λi h d st k=>k a (by simp) _ st
 item:=by
  intro X g j l m i O s y H E I f st p;subst g j l;obtain⟨F,q,B,r,u,x⟩:=f a (by simp);have W:=T8 (prog:=X.prog) (w:=X.w) (I.ok.hd m) a lo (-1) n;refine W.item i s _ _ p st λv d T C Q D=>?_;obtain⟨t,rfl⟩:=C;have G:Inv X O y H {s with heap:=d,toks:=T}:=I.turned (λb o c e=>D b o (by simpa using c) e) F q r u x;refine⟨_,rfl,t7 Q rfl rfl (by rfl) ⟨.int<|lo-i,H,G,⟨t,?_⟩,⟨rfl,rfl⟩,Q,λb c=>(f b c).1⟩⟩;lia
 done:=by
  intro X g j l m i O s y H E I f st p;obtain⟨F,q,B,r,u,x⟩:=f a (by simp);exact XX (I.ok.hd m) st (by have:n<=i:=p;lia) λd J=>⟨rfl,I.turned (λb o c e=>J b o c e) F q r u x⟩
 self:=λY Y Y Y Y st h=>XY st h
theorem Ao{O:ab (C'×Obj)}{a:St}{H:Hp}{s:PF}{R:It->Hp->Prop}{E:Pm->PF->Prop}{lo h:Int}{t u v:Tok}{T:Nat}(I:Inv X O a H s)(c:-(2^62)<=lo)(d:lo<2^62)(f:-(2^62)<=h)(g:h<2^62)
  (q:R (An lo (lo-h).toNat) H):wpAny (Qj X.prog X.w) X.A (lh<|.ref s.heap.objs.size) (Oh X O a m R) E {s with heap:=s.heap.push {cls:=.type "range",data:=.fields #[.int lo t,.int h u,.int (-1) v]},toks:=T}:=by
 refine Zs (I0 ..) (PySem.W.small_down c d f g) ?_;have i:Inv X O a H {s with heap:=s.heap.push {cls:=.type "range",data:=.fields #[.int lo t,.int h u,.int (-1) v]},toks:=T}:=I.kept λb o e=>PH _ e;refine⟨(s.heap.push {cls:=.type _,data:=.fields _}).objs.size,[(s.heap.push {cls:=.type _,data:=.fields _}).objs.size],_,_,H,rfl,
  i.kept λb o e=>PH _ e,uC _ lo _,?_,λb j=>?_,q⟩
 ·have k:lo+((0:Nat))*(-1)=lo:=by simp
  have l:(((lo-h).toNat))-((0:Nat))=XN lo h (-1):=by rw[PySem.W.rangeSize_down];grind
  show YL _ _ _ ((((lo-h).toNat))-((0:Nat))) _
  rw[k,l];exact Qh _ rfl
 have e:b=(s.heap.push {cls:=.type "range",data:=.fields #[.int lo t,.int h u,.int (-1) v]}).objs.size:=by simpa using j
 subst e;exact i.fpOk (Po _)<|i.hok.fresh<|Po _
def M1(t:TA):TI:=λa H R=>t a H λv h=>∃i j:Int,v=[.int i,.int j,.int (-1)]/\(-(2^62)<=i/\i<2^62/\ -(2^62)<=j/\j<2^62)/\R (An i (i-j).toNat) h
theorem qI{X:Cx}{g:QS}{a b c:QS}{T:TA}{p P:Pos}(k:Gl X "range")(m:X.mg "range"=Pt)(l:PA X [a,b,c] T)(n:Qk [a,b,c] X.env=(Pr,RU a X.env)::Qk [b,c] X.env:=by rfl)(Z:(SW P<|Qk [b,c] X.env).any (·.1)=false:=by rfl):
  PI X g (.Call (.Name "range" p) [a,b,c] [] P) (M1 T):=by
 intro O s o H R I h;refine Call_<|dD I k m ZH<|Rh (bC (l P O s o H _ I h) λU B Y=>?_) n Z;obtain⟨C,D,u,v,Q⟩:=Y;obtain⟨i,j,e,⟨Q,w,x,y⟩,q⟩:=Q;subst e;cases v with
 |cons r d=>
  cases d with
  |cons z d=>
   cases d with
   |cons f d=>
    cases d;obtain⟨t,rfl⟩:=r;obtain⟨E,rfl⟩:=z;obtain⟨A,rfl⟩:=f;exact call_range_3 (by decide) (Ao u Q w x y q) (.inl<|rfl)
theorem jO{lo:Int}{n:Nat}{g:TG}{t:TS}{D:hH}(Pv:Nat->St->Hp->Prop)(f:Pv 0 a H)
  (s:∀i a H,i<n->Pv i a H->g (.int<|lo-i) a H λb d=>t {D with nx:=Pv<|i+1,ct:=Pv<|i+1,bk:=D.nx} b d) (j:∀a H,Pv n a H->D.nx a H):
  ∃W:Nat->Nat->St->Hp->Prop,(∃m,W 0 m a H)/\∀i m a H,W i m a H->
   ((An lo n).stop i H/\D.nx a H)\/((An lo n).go i H/\∃N:St->Hp->Prop,(∀c h,N c h->∃M,M<m/\W (i+1) M c h)/\∀x h,(An lo n).yld i H x h->g x a h λb d=>t {D with nx:=N,ct:=N,bk:=D.nx} b d):=by
 exists λi m a H=>m=n-i/\i<=n/\Pv i a H,⟨n,by simp,P8 _,f⟩;rintro i m a H ⟨rfl,k,p⟩;by_cases r:i<n
 ·refine .inr ⟨r,Pv<|i+1,λc h P=>⟨n-(i+1),Nat.sub_lt_sub_left r (Tf _),rfl,r,P⟩,λx h y=>?_⟩;obtain⟨e,y⟩:=y;subst e y;exact s i a _ r p
 have e:i=n:=Nat.le_antisymm k (i0 r)
 subst e;exact .inl ⟨Po _,j a H p⟩
end L2
namespace OD
open PySem L2
noncomputable def iD(n:Nat)(N:Nat)(l:Int):Px:=decide (N/2^(n-(absI l).toNat)%2=1) == decide (0<l)
noncomputable def uD(n:Nat)(C:ab (ab Int))(N:Nat):Px:=C.all λc=>c.any<|iD n N
noncomputable def bR(t:Str)(c:ab (ab Int)):Nat->Nat->Nat->Px
 |0,_,n=>uD t.length c n
 |f+1,i,n=>if cD t i=Pn then bR t c f (i+1) (2*n) || bR t c f (i+1) (2*n+1)else bR t c f (i+1) (2*n)&&bR t c f (i+1) (2*n+1)
noncomputable def fm(B:ab Px):Nat:=B.foldl (λa b=>2*a+(if b=Pn then 1 else 0)) 0
theorem lV(B:ab Px)(b:Px):fm (B++[b])=2*fm B+(if b=Pn then 1 else 0):=by
 unfold fm;simp
theorem Cw(m r e:Nat)(h:r<2):(2*m+r)/2^(e+1)=m/2^e:=by
 rw[Vz,Nat.mul_comm _ 2,<-Nat.div_div_eq_div_mul];have:(2*m+r)/2=m:=by lia
 rw[this]
theorem Cy{P:ab Px->Prop}(h0:P [])(hs:∀bs b,P bs->P (bs++[b]))(bs:ab Px):P bs:=by
 have:∀(r:ab Px),P r.reverse:=by
  intro r
  induction r with
  |nil=>exact h0
  |cons b r ih=>
   rw[UA];exact hs _ _ ih
 have z:=this bs.reverse
 simp_all
theorem Cz(B:ab Px):∀j,j<B.length->B[j]?=gV (decide (fm B/2^(B.length-1-j)%2=1)):=by
 induction B using Cy with
 |h0=>intro j h;cases h
 |hs B b i=>
  intro j H;rw[Pl,Qg]at H ⊢;rw[lV];by_cases e:j<B.length
  ·rw[PL e,i j e];have E:B.length+1-1-j=(B.length-1-j)+1:=by grind
   rw[E,Cw _ _ _ (by split<;>lia)]
  have E:j=B.length:=by lia
  subst E;rw[PV<|Po _,QO];have a:B.length+1-1-B.length=0:=by simp
  rw[a];show gV b=_
  cases b with
  |true=>simp
  |false=>simp
theorem yl(h:1<=absI l)(H:absI l<=(b.length:Int)):hit b l=iD b.length (fm b) l:=by
 unfold hit iD;rw[Cz b _<|by omega];have e:b.length-1-(absI l-1).toNat=b.length-(absI l).toNat:=by
  obtain⟨k,e⟩:=Int.eq_ofNat_of_zero_le (Int.sub_nonneg_of_le h);rw[e,Nat.sub_sub,show absI l=(1+k:Nat) by lia];rfl
 rw[e]
theorem uE(k:Nat):((2:Int)^k)=((2^k:Nat):Int):=by
 rfl
theorem ym(n:Nat):(1:Int)*2^((n:Int)).toNat=((2^n:Nat):Int):=by
 simp
theorem Gz(n k:Nat):SU ((n:Int)/2^k) 1=((n/2^k%2:Nat):Int):=by
 have e:SU _ 1=(n)/2^k%2:=X_ _;assumption
theorem CA(n k:Nat):decide (V.int (SU ((n:Int)/2^k) 1)=V.int 1)=decide (n/2^k%2=1):=by
 rw[Gz];refine TY.mpr ⟨λh=>?_,λh=>?_⟩
 ·lia
 rw[h];rfl
theorem GA{n:Nat}{N:Nat}{z:Int}(h:absI z<=(n:Int))(H:1<=absI z):decide (V.bl (decide (V.int (SU ((N:Int)/2^((n:Int)-absI z).toNat) 1)=V.int 1))=V.bl (decide (0<z)))=iD n N z:=by
 rw[lM,CA];unfold iD;have e:((n)-absI z).toNat=n-(absI z).toNat:=by
  obtain⟨k,e⟩:=Int.eq_ofNat_of_zero_le (vb (by decide) H);rw[e];exact Int.toNat_sub n k
 rw[e]
noncomputable def wD(t:Str)(c:ab (ab Int))(i:Nat):ab V:=(Qt (2^i)).map λm=>V.bl<|bR t c (t.length-i) i m
theorem CC{t:Str}{c:ab (ab Int)}{i m:Nat}(h:m<2^i){j:Int}(H:j=(m:Int)):kn (wD t c i) j=gV (.bl<|bR t c (t.length-i) i m):=by
 subst H;refine aE ?_;unfold wD;rw[PN,UX h];rfl
theorem CD(h:k<t.length)(m:Nat):bR t c (t.length-k) k m=if cD t k=Pn then bR t c (t.length-(k+1)) (k+1) (2*m) || bR t c (t.length-(k+1)) (k+1) (2*m+1)else bR t c (t.length-(k+1)) (k+1) (2*m)&&bR t c (t.length-(k+1)) (k+1) (2*m+1):=by
 have e:t.length-k=(t.length-(k+1))+1:=by lia
 rw[e];rfl
def LV(H:Hp)(p:C')(t:Str)(c:ab (ab Int))(lo:Nat)(xs:ab V):Prop:=∀d:Nat,d<xs.length->∃a,xs[d]?=gV (.ref a)/\a≠p/\H a=gV (.lst<|wD t c<|lo+d)
theorem LV.keep(h:LV H p t C lo x)(k:∀b o,H b=gV o->b≠p->e b=gV o):LV e p t C lo x:=λd f=>by
 obtain⟨a,g,c,i⟩:=h d f;exact⟨a,g,c,k a _ i c⟩
theorem LV.cons(h:LV H p t c lo x)(f:a≠p)(r:H a=gV (.lst<|wD t c l))(e:l+1=lo):LV H p t c l (.ref a::x):=λd g=>by
 cases d with
 |zero=>exact⟨a,rfl,f,r⟩
 |succ d=>
  obtain⟨b,i,j,k⟩:=h d (Nat.lt_of_succ_lt_succ g);have E:l+(d+1)=lo+d:=by lia
  exact⟨b,by assumption,j,by rwa[E]⟩
theorem LV.at(h:LV H p t c 0 x)(e:d<x.length)(f:j=(d:Int)):∃a,kn x j=gV (.ref a)/\H a=gV (.lst<|wD t c d):=by
 obtain⟨a,g,z,b⟩:=h d e;rw[Sg]at b;subst f;exact⟨a,aE g,b⟩
theorem hand_at(h:H l=gV (.lst [.str<|PD "spoiler",.str<|PD "wisher"]))(b:Px)(q:Q (.str<|aq b) H):Iy K (.ref l) (.int (if b then 1 else 0)) H Q:=by
 refine .inl ⟨l,_,_,.str<|aq b,rfl,rfl,SqL.of h,?_,q⟩;cases b<;>rfl
theorem df(h:Q (a.set i<|gV v) H):eW i v a H Q:=h
noncomputable def cM(B:ab Px)(v:Int)(p:Px):V:=if((B.length:Nat):Int)<v then .non else match B[(v-1).toNat]? with
 |some b=>.bl<|b == p
 |none=>.non
theorem oQ(h:((b.length:Nat):Int)<v):cM b v p=.non:=by
 unfold cM;rw[PP h]
theorem jk(c:1<=v)(d:v<=((B.length:Nat):Int)):∃b,kn (B.map V.bl) (v-1)=gV (.bl b)/\cM B v p=.bl (b == p):=by
 obtain⟨w,h,H⟩:=wy (xs:=B.map V.bl) (i:=v-1) (by simp_all) (by rw[A'];lia);obtain⟨b,rfl,a⟩:=Gy h;exists b,H;unfold cM;simp_all
theorem uF(B:ab Px)(v:Int)(p:Px):cM B v p=.non\/∃b,cM B v p=.bl b:=by
 unfold cM
 split
 ·exact .inl rfl
 split
 ·exact .inr ⟨_,rfl⟩
 exact .inl rfl
theorem qJ(h:1<=absI l):(cM B (absI l) (decide (0<l))=.non/\hit B l=Pr)\/cM B (absI l) (decide (0<l))=.bl (hit B l):=by
 unfold cM hit;by_cases g:((B.length))<absI l
 ·rw[PP g,QI<|by omega];exact .inl ⟨rfl,rfl⟩
 rw[PM g];cases e:B[(absI l-1).toNat]? with
 |none=>exact .inl ⟨rfl,rfl⟩
 |some b=>exact .inr rfl
theorem uG(c:ab Int)(B:ab Px):((c.map<|(IL λl=>cM B (absI l) (decide (0<l)))∘V.int).all uu)=true:=by
 rw[TJ];refine Qv.mpr λl z=>?_;show uu (cM B _ _)=Pn
 obtain e|⟨b,e⟩:=uF B _ _
 ·rw[e];rfl
 rw[e];rfl
theorem wE(c:ab Int)(b:ab Px)(h:∀l∈c,1<=absI l):(c.map<|(IL λl=>cM b (absI l) (decide (0<l)))∘V.int).any iB=c.any (hit b):=by
 rw[Uh];refine dG λl H=>?_;show iB (cM b _ _)=hit b l
 obtain⟨e,E⟩|e:=qJ (h l H)
 ·rw[e,E];rfl
 rw[e];rfl
theorem gn{a b:Type}{F:a->b->Prop}:∀{xs:ab a} {u:ab b} (n:Nat),Paired F xs u->Paired F (xs.take n) (u.take n)
 |_,_,0,_=>.nil
 |_,_,_+1,.nil=>.nil
 |_,_,n+1,.cons h t=>.cons h<|gn n t
theorem gr{a b:Type}{F:a->b->Prop}:∀{xs:ab a} {u:ab b} (n:Nat),Paired F xs u->Paired F (xs.drop n) (u.drop n)
 |_,_,0,h=>h
 |_,_,_+1,.nil=>.nil
 |_,_,n+1,.cons _ t=>gr n t
theorem cV{a b:Type}{F:a->b->Prop}:∀{xs y:ab a} {u w:ab b},Paired F xs u->Paired F y w->Paired F (xs++y) (u++w)
 |_,_,_,_,.nil,h=>h
 |_,_,_,_,.cons h t,g=>.cons h<|cV t g
theorem wF(xs:ab V)(k:Nat):dE xs Pt (gV (k:Int))=xs.take k:=by
 show(xs.drop 0).take (min k _-0)=_
 simp
theorem iP(xs:ab V)(k:Nat):dE xs (gV (k:Int)) Pt=xs.drop k:=by
 show(xs.drop<|min k _).take (xs.length-min k _)=_
 by_cases h:k<=xs.length
 ·rw[Wu h,PJ<|by simp]
 rw[aaM (QA (Nat.lt_of_not_le h)),S9<|Po _,S9 (QA (Nat.lt_of_not_le h)),List.take_nil]
theorem M3(b:Px):decide (V.str (aq b)=V.str (PD "wisher"))=b:=by
 have z:=ff b Pn;have Z:aq Pn=PD _:=rfl;simp_all
noncomputable def lW(m:Int):Int->ab PK->Px
 |_,[]=>Pn
 |b,.int i::r=>if b<absI i/\absI i<=m then lW m (absI i) r else Pr
 |_,_::_=>Pr
noncomputable def rW(m:Int):PK->Px
 |.tuple d=>lW m 0 d
 |_=>Pr
theorem Ap{a:Type}{l:ab a}{i:Nat}(d:a)(h:i<l.length):l.drop i=l.getD i d::l.drop (i+1):=by
 simp_all
theorem jm(h:∀z,d≠.int z):(lS d&&!nz d)=false:=by
 cases d with
 |int z=>exact absurd rfl<|h z
 |_=>rfl
theorem uH(h:∀z,d≠.int z):lW m b (d::r)=false:=by
 cases d with
 |int z=>exact absurd rfl<|h z
 |_=>rfl
theorem oS:lW m b (.int z::r)=if b<absI z/\absI z<=m then lW m (absI z) r else false:=rfl
theorem jP(d:PK):(∃z,d=.int z)\/∀z,d≠.int z:=by
 lia
theorem aw(h:RD H (.int z) v):v=.int z:=by
 assumption
theorem aS(h:RD H (.str z) v):v=.str z:=by
 assumption
def Nice(n:Nat)(d:PK):Prop:=d.canLay0=Pn/\d.depth<=n
theorem Nice.mono(h:Nice m d)(k:m<=n):Nice n d:=⟨h.1,QF h.2 k⟩
theorem kJ:∀{D:ab PK} {n:Nat},(∀d∈D,Nice n d)->Rv D=Pn/\U' D<=n
 |[],_,_=>⟨rfl,P8 _⟩
 |d::D,n,h=>by
  have H:=h d P3;have a:=kJ λx b=>h x<|P1 _ b;refine⟨?_,?_⟩
  ·show(d.canLay0&&Rv D)=Pn
   rw[H.1,a.1];rfl
  exact Nat.max_le.mpr ⟨H.2,a.2⟩
theorem Aq(h:∀d∈D,Nice n d):Nice (n+1) (.list D):=⟨(kJ h).1,Te (kJ h).2⟩
theorem CF(h:∀d∈D,Nice n d):Nice (n+1) (.tuple D):=⟨(kJ h).1,Te (kJ h).2⟩
theorem CG(n:Nat)(i:Int):Nice n (.int i):=⟨rfl,P8 _⟩
theorem dQ(n:Nat)(h:PyData.strOk x=Pn):Nice n (.str x):=⟨h,P8 _⟩
theorem Ar(n:Nat)(N:ab Int):∀d∈N.map WU,Nice n d:=λd h=>by
 obtain⟨i,z,rfl⟩:=Qe.mp h;exact CG n i
theorem Nice.shaped(h:Nice 8 d):Rb d=true:=Al h.1 (QF h.2<|by simp)
theorem CH(C:ab (ab Int)):∀d∈C.map jw,Nice 2 d:=λd h=>by
 obtain⟨c,z,rfl⟩:=Qe.mp h;exact CF<|Ar 1 c
end OD
namespace L2
open PySem PySem.Spec PyProof.Rows
structure Zp (z TI TO i1 i2:C'):Prop where
 a1:TI≠z
 a2:TO≠z
 a3:i1≠z
 a4:i2≠z
 a5:TI≠TO
 a6:TI≠i1
 a7:TI≠i2
 a8:TO≠i1
 a9:TO≠i2
 b1:i1≠i2
noncomputable def L8(K:J')(a b:C'):It:=
 ⟨λi H=>∃X Y x y,SqL K H a X/\SqL K H b Y/\X[i]?=gV x/\Y[i]?=gV y,
  λi H x h=>∃t u v,H t=Pt/\x=.ref t/\h=upd H t (.tup [u,v])/\(∀X,SqL K H a X->X[i]?=gV u)/\(∀Y,SqL K H b Y->Y[i]?=gV v),
  λi H=>∃X Y,SqL K H a X/\SqL K H b Y/\(X.length<=i\/Y.length<=i)⟩
theorem uI{TI TO:C'}(D:Zp z TI TO i I)(a:IsZip h z TI TO F)(H:IsPair h TO t T)(j:h.IsListIter i L q)(k:h.IsListIter I b r)(W:h.IsList L xs)(w:h.IsList b y):ZipApart z TI TO i I L b:=by
 have n:∀{c l:C'} {o:Obj} {s:RW Pm},h.get? c=gV o->o.cls≠.type "list"->h.IsList l s->l≠c:=λm p ⟨O,e,E,Z⟩ z=>by
  simp_all
 obtain⟨u,C,d,Z⟩:=j;obtain⟨v,f,g,Z⟩:=k;exact⟨D.a1,D.a2,D.a3,D.a4,D.a5,D.a6,D.a7,D.a8,D.a9,D.b1,n a (by simp) W,n H (by simp) W,n C (by rw[d];decide) W,n f (by rw[g];decide) W,n a (by simp) w,n H (by simp) w,n C (by rw[d];decide) w,n f (by rw[g];decide) w⟩
theorem CI{P:PU}{w:Qc}{K:J'}{es:ab QS}{k1:Nat}{an:Pos}(a b z TI TO f g:C')(D:Zp z TI TO f g):
  t6 P w K (.Tuple es k1 an) (L8 K a b) [z,TI,TO,f,g] z (λi h=>IsZip h z TI TO .none/\IsPair h TI (.ref f) (.ref g)/\(∃c d,IsPair h TO c d)/\h.IsListIter f a i/\h.IsListIter g b i) where
 mem:=by simp
 obj:=λi h st c hc=>by
  obtain⟨B,J,⟨p,q,C⟩,⟨o4,F,V,e4⟩,⟨o5,G,V,e5⟩⟩:=st;simp only[P_,Sq,Wc]at hc;obtain rfl|rfl|rfl|rfl|rfl:=hc
  ·exact⟨_,B,λv y=>by cases y⟩
  ·exact⟨_,J,λv y=>by cases y⟩
  ·exact⟨_,C,λv y=>by cases y⟩
  ·exact⟨o4,F,λv y=>by lia⟩
  exact⟨o5,G,λv y=>by lia⟩
 keep:=λi h h' st k=>by
  obtain⟨B,J,⟨p,q,C⟩,F,G⟩:=st;exact⟨k z (by simp) _ B,k TI (by simp) _ J,⟨p,q,k TO (by simp) _ C⟩,F.at λo e=>k f (by simp) o e,G.at λo e=>k g (by simp) o e⟩
 item:=by
  intro X hP U hK hc i Og s σ H E I T st hg;subst hP U hK;obtain⟨xs,ys,x,y,L,M,hx,hy⟩:=hg;obtain⟨as,Y,p1,V⟩:=I.list L;obtain⟨av,Z,p2,V⟩:=I.list M;obtain⟨u1,WZ,az⟩:=Y.get hx;obtain⟨u2,aC,aF⟩:=Z.get hy;obtain⟨B,J,⟨p,q,C⟩,F,G⟩:=st;have DA:=uI D B C F G p1.isList p2.isList;refine wpAny_pyNext_zip_item DA B J C F G p1.isList p2.isList (x:=u1) (y:=u2) (by simp_all) (by simp_all) λh' g1 g2 g3 g4 g5 g6 hk=>?_;refine⟨_,rfl,wpAny_letOwnedTupleGo_zip g1 λN aL A=>?_⟩;have am:z<s.heap.objs.size:=P0 B;have a0:TO<s.heap.objs.size:=P0 C;have a1:TI<s.heap.objs.size:=P0 J;have a2:f<s.heap.objs.size:=by
   obtain⟨o,e,V⟩:=F;exact P0 e
  have a3:g<s.heap.objs.size:=by
   obtain⟨o,e,V⟩:=G;exact P0 e
  have kk:∀c o,c≠z->c≠TO->c≠f->c≠g->s.heap.get? c=gV o->N.get? c=gV o:=λc o n1 n2 n3 n4 e=>A.extBut c o n1<|hk c o n1 n2 n3 n4 e;have t:∀c o,c∉[z,TO,f,g]->s.heap.get? c=gV o->N.get? c=gV o:=λc o j e=>(by simp_all);have j:H s.heap.objs.size=none:=I.hok.fresh<|Po _;have a4:IsPair N s.heap.objs.size u1 u2:=A.extBut _ _ (TC am) g5;have nt:∀c o,H c=gV o->c∉[z,TO,f,g]:=λc o e O=>by
   have:c∈[z,TI,TO,f,g]:=by
    grind
   rw[(T c this).1]at e;cases e
  have I1:Inv X Og σ (upd H s.heap.objs.size<|.tup [x,y]) {s with heap:=N,toks:=s.toks}:=by
   refine I.step (g':=s.gens) (d':=s.drawn) (t':=s.toks) (ch:=[z,TO,f,g]) (λc W=>?_) (λc o V V W e V=>t c o W e) (λc o V V W e V=>⟨o.slots,t c o W e⟩) (λc o V e n=>?_) (λc o W e=>⟨o,t c o W e⟩) (λc ws e=>?_) (λc ob ws e=>?_) (λc ps e=>⟨#[],?_⟩) (λm O=>?_) (λc ob e=>?_) I.bare
   ·have l:c∈[z,TI,TO,f,g]:=by
     grind
    obtain⟨f0,f1,f2,f3,f4,f5⟩:=T c l;exact⟨f3,f1,f4,f5⟩
   ·rw[af<|Qa<|P0 e];exact n
   ·rw[af<|ag e j];exact e
   ·rw[af<|ag e j];exact e
   ·rw[af<|ag e j,e];simp
   ·obtain⟨o,ac,ep,ho,r⟩:=O;have Q:∀c,c∈[z,TI,TO,f,g]->c≠X.env.locals:=λc l=>(T c l).2.1;exact⟨o,ac,ep,by grind,r⟩
   by_cases hb:c=s.heap.objs.size
   ·subst hb;rw[aa]at e;cases e;exact⟨by show 2<=sizeLine;decide,[u1,u2],.cons az<|.cons aF .nil,⟨_,a4,rfl,_,rfl⟩⟩
   rw[af hb]at e;refine(I.hok c ob e).stay (λd v u y=>?_) (λd y=>by rw[af<|ag y j];exact y) λd ws y=>by rw[af<|ag y j];exact y
   obtain u|u:=u
   ·subst u;exact t _ v (nt _ _ e) y
   exact t _ v (nt _ _ u) y
  refine⟨.ref s.heap.objs.size,_,I1,rfl,⟨s.heap.objs.size,x,y,j,rfl,rfl,λws U=>by rw[I.list_inj U L];exact hx,λws U=>by rw[I.list_inj U M];exact hy⟩,⟨aL,A.extBut _ _ D.a1<|hk _ _ D.a1 D.a5 D.a6 D.a7 J,⟨_,_,A.extBut _ _ D.a2 g2⟩,g3.at λo e=>A.extBut f o D.a3 e,g4.at λo e=>A.extBut g o D.a4 e⟩,λc W=>?_⟩;have RH:c<s.heap.objs.size:=by
   simp only[P_,Sq,Wc]at W;obtain rfl|rfl|rfl|rfl|rfl:=W
   ·exact am
   ·exact a1
   ·exact a0
   ·exact a2
   exact a3
  rw[af<|Qa RH];exact(T c W).1
 done:=by
  intro X hP U hK hc i Og s σ H E I T st hg;subst hP U hK;obtain⟨xs,ys,L,M,hx⟩:=hg;obtain⟨as,Y,p1,V⟩:=I.list L;obtain⟨av,Z,p2,V⟩:=I.list M;obtain⟨B,J,⟨p,q,C⟩,F,G⟩:=st;have DA:=uI D B C F G p1.isList p2.isList;have l1:=Y.length;have l2:=Z.length;refine wpAny_pyNext_zip_end (I.ok.hd hc) DA B J C F G p1.isList p2.isList ?_ λh' hk=>⟨rfl,?_⟩
  ·simp_all
  have t:∀c o,c∉[z,TO,f,g]->s.heap.get? c=gV o->h'.get? c=gV o:=λc o j e=>(by simp_all);have nt:∀c o,H c=gV o->c∉[z,TO,f,g]:=λc o e O=>by
   have:c∈[z,TI,TO,f,g]:=by
    grind
   rw[(T c this).1]at e;cases e
  refine I.step (g':=s.gens) (d':=s.drawn) (t':=s.toks) (ch:=[z,TO,f,g]) (λc W=>?_) (λc o V V W e V=>t c o W e) (λc o V V W e V=>⟨o.slots,t c o W e⟩) (λc o V e n=>n) (λc o W e=>⟨o,t c o W e⟩) (λc ws e=>e) (λc ob ws e=>e) (λc ps e=>⟨#[],by rw[e];simp⟩) (λm O=>?_) (λc ob e=>?_) I.bare
  ·have l:c∈[z,TI,TO,f,g]:=by
    grind
   obtain⟨f0,f1,f2,f3,f4,f5⟩:=T c l;exact⟨f3,f1,f4,f5⟩
  ·obtain⟨o,ac,ep,ho,r⟩:=O;have Q:=λc l=>(T c l).2.1;exact⟨o,ac,ep,by grind,r⟩
  refine(I.hok c ob e).stay (λd v u y=>?_) (λd y=>y) λd ws y=>y;obtain u|u:=u
  ·subst u;exact t _ v (nt _ _ e) y
  exact t _ v (nt _ _ u) y
 self:=λV V V V V st h=>aav st.1 h
def M4(f:V->V->Hp->Prop):ab V->Hp->Prop
 |[x,y],H=>f x y H
 |_,_=>False
theorem CJ:∀{v:ab V} {H:Hp},M4 f v H->∃x y,v=[x,y]/\f x y H:=by
 intro v H h;cases v with
 |nil=>cases h
 |cons x v=>
  cases v with
  |nil=>cases h
  |cons y v=>
   cases v with
   |nil=>exact⟨x,y,rfl,h⟩
   |cons=>cases h
def OM(K:J')(t T:TE):TI:=λc H R=>t c H λx d=>T c d λy h=>∃a b,x=.ref a/\y=.ref b/\(∃X,SqL K h a X)/\(∃Y,SqL K h b Y)/\R (L8 K a b) h
theorem wG{E:ab QS}{J:Nat}{A:Pos}{p P:Pos}(L:Gl X "zip")(M:X.mg "zip"=Pt)(Q:PE X l T)(U:PE X m tm)(z:Qk [l,m] X.env=[(Pr,RU l X.env),(Pr,RU m X.env)]:=by rfl)(Z:Qk [m] X.env=[(Pr,RU m X.env)]:=by rfl):
  PI X (.Tuple E J A) (.Call (.Name "zip" p) [l,m] [] P) (OM X.K T tm):=by
 intro O s B H R I h;have ha:=aM Q (aM U (hU)<|by rw[Z];rfl) (by rw[z,Z]);refine Call_ (dD I L M boot_zip<|Rh (bC (ha P O s B H (M4 _) I h) λus d V=>?_) (by rw[z,Z])<|by rw[Z];rfl);obtain⟨vs,f,g,r1,q1⟩:=V;obtain⟨x,y,e,a,b,ex,ey,⟨C,k⟩,⟨Y,o⟩,q⟩:=CJ q1;subst e ex ey;obtain⟨u1,u2,rfl,r,t⟩:=xW r1;cases r;cases t;obtain⟨ac,am,u,S⟩:=g.list k;obtain⟨an,as,v,S⟩:=g.list o;refine call_zip_2 u.isList v.isList λh' G g2 g3 g4 g5 g6 hk=>aav G ?_;have I2:Inv X O B f {d with heap:=h'}:=g.kept hk;have F:∀n,qi X O f (d.heap.objs.size+n):=λn=>g.fpOk (V6 _ _)<|g.hok.fresh<|V6 _ _;have N:∀i j,i≠j->d.heap.objs.size+i≠d.heap.objs.size+j:=λi j w e=>w<|Nat.add_left_cancel e;have D:Zp (d.heap.objs.size+4) (d.heap.objs.size+2) (d.heap.objs.size+3) (d.heap.objs.size+0) (d.heap.objs.size+1):=⟨N _ _ (by decide),N _ _ (by decide),N _ _ (by decide),N _ _ (by decide),N _ _ (by decide),N _ _ (by decide),N _ _ (by decide),N _ _ (by decide),N _ _ (by decide),N _ _<|by decide⟩;refine⟨d.heap.objs.size+4,_,_,_,f,rfl,I2,CI a b _ _ _ _ _ D,⟨G,g2,⟨_,_,g3⟩,g4,g5⟩,λc W=>?_,q⟩;simp only[P_,Sq,Wc]at W;obtain rfl|rfl|rfl|rfl|rfl:=W
 ·exact F 4
 ·exact F 2
 ·exact F 3
 ·exact F 0
 exact F 1
end L2
namespace OD
open PySem L2
noncomputable def aD(t:Str)(h:Px):ab Int:=((Qt t.length).filter λi=>cD t i == h).map λ(i:Nat)=>(i:Int)+1
end OD
namespace L2
open PySem
theorem GB{X:Cx}(e:X.K=K){E:ab QS}{k n:Nat}{p:Pos}{t:Io}(c:X.calm=Pn)(h:JV X E t)(a:(Vh E X.env).length=n:=by rfl)(H:(Vh E X.env).findIdx? (·.1)=none:=by rfl):PG X (.Tuple E k p) (Md K n t):=by
 subst e;exact BH c h a H
end L2
namespace HT
open PySem PyProof.Rows
theorem getItem_tuple_by{Q:Pm->PF->Prop}{lo st:Int}{n:Nat}(H:PyProof.Rows.IsTup s.heap t i)(a:s.TypeIs (.ref b) "slice")
  (l:∀{A:Q0} {E:Pm->PF->Prop} (d:Int×Int×Nat->PF->Prop),d (lo,st,n) s->wpAny (Qj p w) A (UH (.ref b)<|pure (i.size:Int)) d E s)
  (e:(lo == 0&&st == 1&&n == i.size)=Pn->Q (.ref t) s)
  (f:(lo == 0&&st == 1&&n == i.size)=Pr->n<=sizeLine/\Q (.ref s.heap.objs.size) {s with heap:=s.heap.push {cls:=.type "tuple",data:=.seq ((Qt n).filterMap λ(k:Nat)=>i[(lo+(k:Int)*st).toNat]?).toArray}}):
  wpAny (Qj p w) A (WE (.ref t)<|.ref b) Q E s:=by
 unfold WE
 try with_reducible refine Rz ?_
 refine Pp<|Z3 H.typeIs (by rfl) ?_;refine Pp<|XE H.typeIs SC<|VZ SC H.typeIs Zg ?_<|ZI _ _;refine Pp (m:=WX<|.ref t)<|Xt H<|Pp<|WD a<|Pp<|l _ ?_;show wpAny _ _ (if(lo == 0&&st == 1&&n == i.size)=Pn then _ else _) _ _ s
 cases c:(lo == 0&&st == 1&&n == i.size)with
 |true=>
  exact Pp<|Pp<|WD H.typeIs<|PY<|Pp<|TM<|PY ⟨_,rfl,PY<|e c⟩
 |false=>
  obtain⟨z,q⟩:=f c;have h:sizeOk (.seq ((Qt n).filterMap λ(k:Nat)=>i[(lo+(k)*st).toNat]?).toArray):=by
   show((Qt n).filterMap _).toArray.size<=sizeLine
   exact QF (List.length_filterMap_le _ _) (by simp_all)
  first
   |exact Pp<|R5 (PY ⟨_,rfl,PY q⟩) h
   |exact Pp<|R5 _ h
   |exact Pp<|Pp<|R5 _ h
end HT
namespace L2
open PySem PySem.Spec PyProof.Rows
def M5(K:J'):V->M' Int->M' Int->Hp->VK->Prop:=λx lo h H Q=>∃a X,x=.ref a/\SqT K H a X/\
 ((HT.sIx X.length 0 lo=0/\HT.sIx X.length X.length h=X.length)->Q (.ref a) H)/\(¬(HT.sIx X.length 0 lo=0/\HT.sIx X.length X.length h=X.length)->∀p,H p=Pt->Q (.ref p) (upd H p<|.tup<|dE X lo h))
theorem GC:NX X (M5 X.K):=by
 intro O s k H x v l m lo i n Q I g d p u h;obtain⟨a,b,rfl,j,q,o⟩:=h;by_cases w:HT.sIx b.length 0 lo=0/\HT.sIx b.length b.length i=b.length
 ·cases g;obtain⟨P,r,t,B⟩:=I.tuple j;have y:P.toArray.size=b.length:=r.length.symm
  exists "tuple",_,PyProof.Rows.slot_tuple_getitem.lookup,t.typeIs;obtain⟨os,f,z,Z⟩:=id d;have e:(((HT.sIx P.toArray.size 0 lo):Int) == 0&&(1:Int) == 1&&(HT.sIx P.toArray.size P.toArray.size i-HT.sIx P.toArray.size 0 lo) == P.toArray.size)=true:=by
   simp_all
  refine HT.getItem_tuple_by t ⟨os,f,z⟩ (λC A=>HT.sliceApplied_gen d p u A) (λZ=>⟨.ref a,H,I,rfl,q w⟩) λc=>?_;rw[e]at c;cases c
 exact Kc O s k H _ v l m lo i n Q I g d p u ⟨a,b,rfl,j,w,o w⟩
theorem oT{K:J'}(e:X.K=K):eZ X (.type "tuple") (λx H Q=>∃p y,x=[.ref p]/\((SqL K H p y/\∀l,H l=Pt->Q (.ref l) (upd H l<|.tup y))\/(SqT K H p y/\Q (.ref p) H))):=by
 subst e;exact bP
end L2
namespace L2
open PySem
@[irreducible] def PEi (X:Cx) (e:QS) (t:TE):Prop:=PE X e t
@[irreducible] def PAi (X:Cx) (es:ab QS) (t:TA):Prop:=PA X es t
end L2
namespace KA
open PySem PyProof.Rows
def But(H h:QB)(a k:C'):Prop:=∀b o,b≠a->b≠k->H.get? b=gV o->h.get? b=gV o
theorem But.upA(k:But c h a d)(f:Obj->Obj):But c (h.update a f) a d:=λb o H e q=>(Qp _ _<|Q1 H).trans<|k b o H e q
theorem But.upK(k:But d h a c)(f:Obj->Obj):But d (h.update c f) a c:=λb o e H q=>(Qp _ _<|Q1 H).trans<|k b o e H q
theorem IN{st:Q9}(m:But q s.heap a k)(N:s.heap.get? k=gV (RB "list" r e))(t:s.heap.get? a=gV (RB "list" #[] f))(b:k≠a)
  (g:TR r.toList z) (Q:z.length=v.length) (u:v.length<64) (p:(QE st).Perm (r.zip v.toArray)) (x:SortedTo (QE st) (QE st).size) (l:SE st=Pt)
  (h:∀h' T o c,But q h' a k->h'.get? a=gV (RB "list" o c)->mi Pr z v o.toList->P (.done<|.ret .none) {s with heap:=h',toks:=T}):
  wpAny (Qj i w) A (ksk_tail a Pr f (.ref k) st) P E s:=by
 have H:r.size=v.length:=by
  have y:=g.length;simp_all
 have F:(QE st).size=v.length:=by rw[p.size_eq,abV,H,P2,ade]
 have n:(s.heap.update k<|R3 λZ=>(#[]:RW Pm)).get? a=gV (RB "list" #[] f):=(Qp _ _ b).trans t;obtain⟨C,d⟩:∃C,((s.heap.update k (R3 λZ=>(#[]:RW Pm))).update a (R3 λZ=>(QE st).map (·.2))).get? a=gV (RB "list" ((QE st).map (·.2)) C):=
  ⟨_,Ws n λZ=>(QE st).map (·.2)⟩
 unfold ksk_tail
 try dsimp only
 refine Pp<|U6 N rfl ?_ (by rw[H,Ru];exact QA (QH u (by decide)))<|P8 _;refine Pp<|T9 ?_;refine Pp<|YS n rfl ?_;refine Pp (U6 n rfl ?_ (P8 _)<|by simp only[So,U0,Y'];rw[F,Ru];exact QA (QH u (by decide)));rw[l];simp only[Z2,So,U0];have j:=ksk_out (b:=Pr) g p x;simp only[So,U0]at j;exact PY<|h _ _ _ C ((m.upK _).upA _) d j
theorem ON(p:But x s.heap a g)(n:s.heap.get? g=gV (RB "list" r e))(N:s.heap.get? a=gV (RB "list" #[] y))(f:g≠a)
  (k:TR r.toList m) (q:m.length=v.length) (H:v.length<64)
  (h:∀h' T o c,But x h' a g->h'.get? a=gV (RB "list" o c)->mi Pr m v o.toList->P (.done<|.ret .none) {s with heap:=h',toks:=T}):
  wpAny (Qj t w) A (ksk_end a Pr v.toArray y (.ref g) r) P E s:=by
 have z:r.size=v.length:=by
  have B:=k.length;simp_all
 have b:(r.zip v.toArray).size=v.length:=by simp_all
 unfold ksk_end
 try dsimp only
 by_cases d:v.toArray.size<2
 ·rw[PP d,PP d];refine IN (st:=WY _ (r.zip _) #[] 7 Pt) p n N f k q H (Ya _) ?_ rfl h;intro i j C D;grind
 rw[PM d,PM d];rw[ksk_kind k<|by simp_all];refine Pp<|PY ?_;refine Pp (RT (wpS_sortRuns (st:=WY _ _ #[] 7 Pt)
  (Q:=λl Q=>(QE Q).Perm _/\SE Q=Pt/\SortedTo (QE Q) _)
  (ksk_intKeys k) ⟨Ya _,rfl,rfl,rfl⟩ (by simp_all) (by rwa[b]) λQ F G I=>⟨F,G,I⟩) ?_ λl l e=>e)
 rintro⟨⟨⟩,Q⟩ M ⟨rfl,u,J,L⟩
 exact IN p n N f k q H u (by rwa[u.size_eq]) J h
theorem M6{f:Pm}(L:But G s.heap a g)(M:s.heap.get? g=gV (RB "list" #[] 0))(O:s.heap.get? a=gV (RB "list" #[] I))(m:g≠a)
  (Q:z.length=l.length) (u:l.length<64)
  (y:∀(i:Nat) (v:Pm) (k:Int),l[i]?=gV v->z[i]?=gV k->∀(h:QB) (d:Nat) (R:Pm->PF->Prop),(∀t T,R (.int k T) {s with heap:=h,toks:=t})->
   wpAny (Qj p w) A (call f [v]) R (λ_ _=>False) {s with heap:=h,toks:=d})
  (h:∀h' d o c,But G h' a g->h'.get? a=gV (RB "list" o c)->mi Pr z l o.toList->P (.done<|.ret .none) {s with heap:=h',toks:=d}):
  wpAny (Qj p w) A (ksk_rest a f Pr l.toArray I<|.ref g) P E s:=by
 refine Pp<|TM ?_
 first
  |rw[List.forIn_toArray]
  |(simp only )
  |rw[<-ZT]
 refine Pp (ksk_fold (λi B=>∃h' d b e,B={s with heap:=h',toks:=d}/\But G h' a g/\h'.get? g=gV (RB _ b e)/\h'.get? a=gV _/\TR b.toList (z.take i)) l 0 s
  ⟨s.heap,s.toks,#[],0,rfl,L,M,O,by simpa using IntsAre.nil⟩ ?step ?done)
 case step=>
  rintro j x B J ⟨h',d,b,e,rfl,F,n,N,H⟩;simp only[Sg]at H ⊢;have hj:=(N'.mp J).1;obtain⟨k,q⟩:∃k,z[j]?=gV k:=⟨_,K' (by lia)⟩;have hz:b.size<=l.length:=by
   have U:=H.length;grind
  refine Pp<|WK<|RT (y j x k J q h' d (λv r=>∃t T,v=.int k T/\r={s with heap:=h',toks:=t}) λt T=>⟨t,T,rfl,rfl⟩) (λv r W=>?_) λ_ _ X=>X.elim;obtain⟨t,T,rfl,rfl⟩:=W
  obtain⟨C,D⟩:∃C,(h'.update g (R3 _)).get? g=gV _:=⟨_,Ws n (·.push _)⟩;have Y:z.take (j+1)=z.take j++[k]:=by rw[Qb,q];simp
  have Z:(b.push<|Vm k T).toList=b.toList++[Vm k T]:=by simp
  refine Pp (U6 n rfl (PY ⟨rfl,_,_,b.push<|.int k T,C,rfl,F.upK _,D,(Qp _ _ m).trans N,by rw[Z,Y];exact ksk_snoc H⟩) (by rw[Ru];lia)<|QF (VC (Array.size_push ..))<|by rw[Ru];lia)
 case done=>
  rintro B ⟨h',d,b,e,rfl,F,n,N,H⟩;have UR:TR b.toList z:=by
   grind
  exact Pp<|G' n rfl<|ON F n N m UR Q u h
theorem tree_{f:Pm}(g:s.heap.get? a=gV (RB "list" d.toArray n))(Q:z.length=d.length)(j:d.length<64)
  (l:∀(i:Nat) (v:Pm) (k:Int),d[i]?=gV v->z[i]?=gV k->∀(h:QB) (t:Nat) (R:Pm->PF->Prop),(∀T r,R (.int k r) {s with heap:=h,toks:=T})->
   wpAny (Qj p w) A (call f [v]) R (λZ Z=>False) {s with heap:=h,toks:=t})
  (h:∀h' t O c,(∀b o,b≠a->s.heap.get? b=gV o->h'.get? b=gV o)->h'.get? a=gV (RB "list" O c)->mi Pr z d O.toList->P (.done<|.ret .none) {s with heap:=h',toks:=t}):
  wpAny (Qj p w) A (ksk_tree a f Pr) P E s:=by
 have u:=P0 g;obtain⟨m,H⟩:∃m,(s.heap.update a (R3 λZ=>(#[]))).get? a=gV _:=⟨_,Ws g _ ⟩;have e:((s.heap.update a (R3 λZ=>(#[]))).push (RB "tuple" d.toArray 0)).objs.size=s.heap.objs.size+1:=by rw[X7,aaH]
 refine Pp<|G' g rfl<|Pp<|U6 g rfl ?_ (by rw[P2,Ru];exact QA (QH j (by decide)))<|P8 _;refine Pp<|YS H rfl<|Pp<|XP (Pp<|U1 (Rz ?_)<|P8 _) (by show d.length<=_;rw[Ru];exact QA (QH j (by decide)));refine M6 (s:={s with heap:=((s.heap.update a<|R3 _).push<|RB _ _ 0).push<|RB _ #[] 0}) (g:=((s.heap.update a<|R3 _).push<|RB _ _ 0).objs.size)
  (λb o x F q=>PH _<|PH _<|(Qp _ _<|Q1 x).trans q) (Qh _ rfl) (PH _<|PH _ H) (by rw[e];exact TC<|RH u) Q j l
  λh' t O c y B C=>h h' t O c (λb o D q=>y b o D (by rw[e];exact Qa<|RH<|P0 q) q) B C
end KA
namespace L2
open PySem PySem.Spec PyProof.Rows
theorem CK(i:TR s n)(k:mi Pr (n.map g) s o):∃E,TR o E/\E.Perm n/\(E.map g).Pairwise (·<=·):=by
 obtain⟨P,H,e,f⟩:=k;have Q:=i.length;have a:∀p,p∈(n.map g).zip s->p.1=g (m8 p.2)/\p.2∈s:=by
  rw[<-i.nums,Qm,List.zip_map_left];intro p H;obtain⟨⟨u,v⟩,j,rfl⟩:=Qe.mp H;have b:u=v/\u∈s:=X9 j;refine⟨?_,?_⟩
  ·show g _=g (m8 v)
   rw[b.1]
  rw[<-b.1];exact b.2
 have I:=intsAre_map _ λv l=>by
  obtain⟨p,h,rfl⟩:=Qe.mp l;exact i.all _ (a p<|H.mem_iff.mp h).2
 have m:((P.map YU).map m8).Perm n:=by
  have b:=(H.map YU).map m8;rwa[aaP (by simp_all),i.nums]at b
 exists (P.map YU).map m8,by rwa[e],m;rw[QU,QU,QU];refine f.imp_of_mem λ{p q} h d r=>?_;have c:p.1<=q.1:=by assumption
 rwa[(a p<|H.mem_iff.mp h).1,(a q<|H.mem_iff.mp d).1]at c
theorem As{Q:VK}(I:Inv X m w H s)(A:SqL X.K H p (N.map V.int))(B:N.length<64)
  (q:∀(l:C') (E:ab Int),H l=Pt->E.Perm N->(E.map OD.absI).Pairwise (·<=·)->Q (.ref l) (upd H l<|.lst<|E.map V.int)):
  wpAny (Qj X.prog X.w) X.A (call (.builtin "sorted") [.ref p] [(PD "key",.builtin "abs")]) (EP X m w Q) X.xe s:=by
 obtain⟨a,C,P,hz⟩:=I.list A;have g:=ou C;have D:a.length=N.length:=Zl g;refine call_function_entry_kw L0 Ip F' (ksk_s1 _ _) ?_;unfold Builtin.«sorted»;refine Pp (m:=abz "sorted" 1 1 _)<|PY ?_;refine Pp (collect_list P.isList ?_<|by simp_all);refine Pp (U1 ?_<|by simp_all);have z:((s.heap.push<|RB "list" #[] 0).update s.heap.objs.size (R3 (·++a.toArray))).objs.size=s.heap.objs.size+1:=by
  rw[aaH,X7]
 have L:(((s.heap.push<|RB "list" #[] 0).update s.heap.objs.size (R3 (·++a.toArray))).push<|RB "list" a.toArray 0).get? (s.heap.objs.size+1)=gV (RB "list" a.toArray 0):=by
  rw[<-z];exact Qh _ rfl
 have d:∀b o,s.heap.get? b=gV o->(((s.heap.push<|RB "list" #[] 0).update s.heap.objs.size (R3 (·++a.toArray))).push<|RB "list" a.toArray 0).get? b=gV o:=λb o q=>by
  have r:b<s.heap.objs.size:=P0 q;rw[aac _ _ _ (by rw[z];exact Qa<|RH r),Heap.get?_update_ne _ _ _ _<|Qa r,aac _ _ _<|Qa r];exact q
 show wpAny _ _ _ _ _ {s with heap:=((s.heap.push<|RB "list" #[] 0).update s.heap.objs.size (R3 (·++a.toArray))).push<|RB "list" a.toArray 0}
 rw[z];refine Pp<|Rz<|wpAny_call_entry_kw YR ⟨_,L,rfl⟩ Ym ?body (ksk_l1 _ _)
 case body=>
  show wpAny (Qj X.prog X.w) X.A.in1.in1 (Builtin.«list.sort» ⟨[.ref<|s.heap.objs.size+1],_⟩) _ _ _
  rw[ksk_t4];refine KA.tree_ (z:=N.map OD.absI) (s:={s with heap:=((s.heap.push<|RB "list" #[] 0).update s.heap.objs.size (R3 (·++a.toArray))).push<|RB "list" a.toArray 0}) L (by rw[A',D]) (by simp_all) (λi v k F f h T R G=>?_) λJ T O c M U W=>⟨_,rfl,?_⟩
  ·obtain⟨t,rfl⟩:=IntsAre.int_at g i v F;rw[PN]at f;cases e:N[i]? with
   |none=>rw[e]at f;simp at f
   |some n=>
    rw[e]at f;have Y:gV _=gV k:=f;cases Y;have Z:N.getD i 0=n:=by simp_all
    rw[Z];exact Zn λu j=>G j u
  refine PY ⟨_,rfl,?_⟩;obtain⟨E,i1,x,i3⟩:=CK g W;have I2:Inv X m w (upd H (s.heap.objs.size+1)<|.lst<|E.map V.int) {s with heap:=J,toks:=T}:=by
   refine I.laid (λb o y=>?_) (Wf _) ?_
   ·have hb:=P0 y;exact M b o (Qa<|RH hb)<|d b o y
   refine⟨?_,O.toList,c,jj i1,by simpa using U⟩;rw[A',x.length_eq];simp_all
  exact⟨.ref<|s.heap.objs.size+1,_,I2,rfl,q _ E (I.hok.fresh<|Wf _) x i3⟩
end L2
namespace KX
open PySem PyProof.Rows
theorem At(a v:Pm):PySem.argsOk "max" ⟨[a],[(PD "default",v)]⟩:=by rfl
section
variable {R:kS->PF->Prop}{St:Nat->QB->Prop}
theorem M7(W:Walks p w A.in1 I O G n P St)(B:Nat->Nat->Px)(C:CmpOf p w A.in1 .Gt P B)(S:C')(r:S∉O):
  ∀k j s f c,n-(j+1)=k->j+1<=n->St (j+1) s.heap->P (Sw B j) f->
  s.heap.get? S=gV {cls:=.type "list",dict:=Pt,data:=.seq #[f,f] c,slots:=#[]}->
  (∀v h' y,P (Sw B<|n-1) v->(∀b o,b∉G->b≠S->s.heap.get? b=gV o->h'.get? b=gV o)->R (.ok<|.ret v) {s with heap:=h',toks:=y})->
  codeAny (Qj p w) A (.builtin "max.loop" ⟨[.ref I,.none,.ref S],Z⟩) R s:=by
 have u:S∉G:=λh=>r<|W.sub _ h;have Q:(toString "max"++toString ".loop":TL)="max.loop":=by rfl
 intro k
 induction k with
 |zero=>
  intro j s f c X Y l g x z;have J:j+1=n:=by lia
  refine SV XJ ?_;rw[RY Td _];show wpAny _ A.in1 (XF (.ref S) >>=_) _ _ s
  refine Pp<|TZ x rfl ?_;show wpAny _ A.in1 (tryCatch (Xv<|.ref I) _ >>=_) _ _ s
  refine Pp<|RX<|W.done s _ _ (J▸l) λh' y U=>?_;have d:=U S _ u x;show wpAny _ A.in1 (updateSeq S (λV=>#[]) >>=_) _ _ _
  refine Pp ?_;refine Ui d rfl<|Pp<|T9<|PY ?_;refine z f _ y (by rw[<-J];exact g) λb o H a e=>(Qp _ _<|Q1 a).trans<|U b o H e
 |succ k L=>
  intro j s f c X Y l g x z;have D:j+1<n:=by omega
  refine SV XJ ?_;rw[RY Td _];show wpAny _ A.in1 (XF (.ref S) >>=_) _ _ s
  refine Pp<|TZ x rfl ?_;show wpAny _ A.in1 (tryCatch (Xv<|.ref I) _ >>=_) _ _ s
  refine Pp<|RX<|W.item (j+1) s _ _ D l λv h' y M i U=>?_;have d:=U S _ u x;show wpAny _ A.in1 (tryCatch (Vr [v,v]<|richCompare .Gt v f >>=_) _ >>=_) _ _ _
  refine Pp<|RX<|Rz<|Pp<|C (j+1) (Sw B j) v f _ _ _ M g ?_;refine Pp<|Rz<|Rj ?_;refine Pp<|T9<|PY ?_;cases N:B _ _ with
  |true=>
   simp only ;refine Pp<|Ui d rfl<|Pp<|T9 ?_;refine PY ⟨SN Td _,L _ _ v _ (by omega) D (W.frame _ _ _ i λb E o e=>?_) (by simp only[Sw,N];exact M) (Tj _ d rfl)
    λF m t q T=>?_⟩
   ·exact(Qp _ _ λh:S=b=>by simp_all).trans e
   ·exact z F m t q λb o H a e=>T b o H a<|(Qp _ _<|Q1 a).trans<|U b o H e
  |false=>
   simp only[So];refine Pp<|T9 ?_;refine PY ⟨SN Td _,L _ _ f c (by omega) D i (by simp only[Sw,N,So];exact g) d λF m t q T=>?_⟩;exact z F m t q λb o H a e=>T b o H a<|U b o H e
theorem KH(W:Walks p w A.in1 I F r n P St)(B:Nat->Nat->Px)(l:CmpOf p w A.in1 .Gt P B)(S:C')(f:S∉F){d:Pm}{D:Str}{c:Nat}(g:St 0 s.heap)
  (C:s.heap.get? S=gV {cls:=.type "list",dict:=Pt,data:=.seq #[] c,slots:=#[]})
  (E:0<n->∀v h' t,P (Sw B<|n-1) v->(∀b o,b∉r->b≠S->s.heap.get? b=gV o->h'.get? b=gV o)->R (.ok<|.ret v) {s with heap:=h',toks:=t})
  (G:n=0->∀h' t,(∀b o,b∉r->b≠S->s.heap.get? b=gV o->h'.get? b=gV o)->R (.ok<|.ret d) {s with heap:=h',toks:=t}):
  codeAny (Qj p w) A (.builtin "max.loop" ⟨[.ref I,.none,.ref S],[(D,d)]⟩) R s:=by
 have m:S∉r:=λh=>f<|W.sub _ h;have Q:(toString "max"++toString ".loop":TL)="max.loop":=by rfl
 refine SV XJ ?_;rw[RY Td _];show wpAny _ A.in1 (XF (.ref S) >>=_) _ _ s
 refine Pp<|TZ C rfl ?_;show wpAny _ _ (tryCatch _ _ >>=_) _ _ s
 by_cases q:0<n
 ·refine Pp<|RX<|W.item 0 s _ _ q g λv h' t J i U=>?_;have j:=U S _ m C;show wpAny _ _ (updateSeq S _ >>=_) _ _ _
  refine Pp<|Ui j rfl ?_;refine PY ⟨SN Td _,M7 W B l S f _ 0 _ v _ rfl q (W.frame _ _ _ i λb u o e=>?_) J (Tj _ j rfl) λL x T y z=>?_⟩
  ·exact(Qp _ _ λh:S=b=>by simp_all).trans e
  exact E q L x T y λb o H a e=>z b o H a<|(Qp _ _<|Q1 a).trans<|U b o H e
 have k:0=n:=by simp_all
 refine Pp<|RX<|W.done s _ _ (k▸g) λh' t U=>?_;exact Pp<|TM<|PY<|G k.symm h' t λb o H a e=>U b o H e
end
theorem M8{x d:Pm}{Q:Pm->PF->Prop}
  (h:wpAny (Qj p w) A.in1 (lh x) (λy a=>∃I f r n P St B,y=.ref I/\Walks p w A.in1 I f r n P St/\St 0 a.heap/\(∀b∈f,b<a.heap.objs.size)/\CmpOf p w A.in1 .Gt P B/\
   (0<n->∀v h' t,P (Sw B<|n-1) v->(∀b o,b∉r->a.heap.get? b=gV o->h'.get? b=gV o)->Q v {a with heap:=h',toks:=t})/\
   (n=0->∀h' t,(∀b o,b∉r->a.heap.get? b=gV o->h'.get? b=gV o)->Q d {a with heap:=h',toks:=t})) E s):
  wpAny (Qj p w) A (call (.builtin "max") [x] [(PD "default",d)]) Q E s:=by
 refine kmk_tree F.kind_max F.plain_max F.entry_max (At _ _) ?_;refine Pp<|PySem.wpAny_of_eq rfl<|Pp<|PY<|Pp<|RT h (λy a c=>?_) λg g e=>e;obtain⟨I,f,r,n,P,St,B,rfl,W,i,j,k,z,l⟩:=c;refine Pp<|R5 ?_;have m:=λC=>Sa _<|j _ C;refine PY ⟨SN Td _,KH W B k _ m (W.frame _ _ _ i λb g o e=>PH _ e) (Qh _ rfl) (λq v h' t D u=>?_) λq h' t u=>?_⟩
 ·exact z q v h' t D λb o H e=>u b o H (Qa<|P0 e)<|PH _ e
 exact l q h' t λb o H e=>u b o H (Qa<|P0 e)<|PH _ e
theorem max_listD{d:Pm}{Q:Pm->PF->Prop}(c:A.handled=Pt)(f:s.heap.IsList l (Vq xs))
  (h:0<xs.size->∀v h' t,(Vq xs)[Sw (λi j=>decide (mr xs i>mr xs j)) (xs.size-1)]?=gV v->(∀b o,s.heap.get? b=gV o->h'.get? b=gV o)->Q v {s with heap:=h',toks:=t})
  (g:xs.size=0->∀h' t,(∀b o,s.heap.get? b=gV o->h'.get? b=gV o)->Q d {s with heap:=h',toks:=t}):
  wpAny (Qj p w) A (call (.builtin "max") [.ref l] [(PD "default",d)]) Q E s:=by
 refine M8<|iter_intList f λa e st H I=>?_;subst e;refine⟨_,_,_,_,_,_,_,rfl,XZ (A:=A.in1) c _ l I<|Vq xs,st,H,CmpOf.ints_gt _ λz z=>intItems_at,λn v h' t P k=>?_,λn h' t k=>?_⟩
 ·exact h (by simpa[Vq]using n) v h' t (by simpa[Vq]using P)<|old_kept k
 exact g (by simpa[Vq]using n) h' t<|old_kept k
end KX
namespace L2
open PySem PySem.Spec PyProof.Rows
theorem CM(H:TR s n)(e:s.toArray=Vq xs)(g:0<xs.size)(b:(Vq xs)[Sw (λi j=>decide (mr xs i>mr xs j)) (xs.size-1)]?=gV v):∃M t,v=.int M t/\M∈n/\∀a∈n,a<=M:=by
 have h:xs.toList.map (·.1)=n:=by
  rw[<-nums_intItems,<-e];exact H.numsOf
 obtain⟨t,rfl⟩:=intItems_at b;obtain⟨k,c⟩:=argBest_gt (mr xs)<|xs.size-1;refine⟨_,t,rfl,?_,λa d=>?_⟩
 ·rw[numAt_eq,h];exact getD_mem (by grind)
 obtain⟨j,f,rfl⟩:=mem_getD d;rw[<-h,A',Qi]at f;have:=c j (by lia);rwa[numAt_eq,h]at this
def CO(K:J'):V->V->Hp->VK->Prop:=λx d H Q=>∃(p:C') (n:ab Int),x=.ref p/\SqL K H p (n.map V.int)/\(n=[]->Q d H)/\∀M,M∈n->(∀a∈n,a<=M)->Q (.int M) H
def M9(K:J')(t T:TE):TE:=λa H Q=>t a H λx h=>T a h λd b=>CO K x d b Q
theorem GD{P z o:Pos}(A:X.calm=Pn)(b:Gl X "max")(c:X.mg "max"=Pt)(B:PE X e C)(D:PE X E T)
  (f:Qk [e] X.env=[(Pr,RU e X.env)]:=by rfl):
  PE X (.Call (.Name "max" P) [e] [⟨gV "default",E,z⟩] o) (M9 X.K C T):=by
 intro O s g H Q I h;refine RA<|dD I b c adt<|U7 (bC (aM B (hU) (by rw[f];rfl) o O s g H (Aj _) I h) λus F ⟨G,j,J,L,k⟩=>?_) (by rw[f];rfl) (by rw[f];rfl) rfl rfl;obtain⟨x,N,l⟩:=iN k;subst N;obtain⟨u,rfl,U⟩:=e_ L;refine VQ<|bC (D O F g j _ J l) λW s2 ⟨d,a,i,Y,Z⟩=>We ?_;obtain⟨p,ns,rfl,hq,q0,q⟩:=Z;cases U;obtain⟨G,rv,pl,hz⟩:=i.list hq;have m:=ou rv;obtain⟨y,e⟩:=m.allInts.items;have r:=pl.isList;rw[e]at r;have ac:y.size=ns.length:=by
  have l:(Vq y).size=y.size:=by simp[Vq]
  rw[<-l,<-e,P2,Zl m]
 show wpAny _ _ _ _ _ _
 refine KX.max_listD (i.ok.hd A) r (λw v h' tk hv n=>?_) λw h' tk n=>?_
 ·obtain⟨M,t,rfl,m1,m2⟩:=CM m e w hv;exact⟨.int M,a,i.kept n,⟨t,rfl⟩,q M m1 m2⟩
 exact⟨d,a,i.kept n,Y,q0<|RG.mp<|by lia⟩
def oU(K:J'):V->Hp->VK->Prop:=λx H Q=>∃(p:C') (n:ab Int),x=.ref p/\SqL K H p (n.map V.int)/\n.length<64/\
 ∀(l:C') (Z:ab Int),H l=Pt->Z.Perm n->(Z.map OD.absI).Pairwise (·<=·)->Q (.ref l) (upd H l<|.lst<|Z.map V.int)
def CQ(K:J')(t:TE):TE:=λa H Q=>t a H λx h=>oU K x h Q
theorem oV{P m n j:Pos}(a:Gl X "sorted")(b:X.mg "sorted"=Pt)(c:Gl X "abs")(d:X.mg "abs"=Pt)(o:PE X e t)
  (f:Qk [e] X.env=[(Pr,RU e X.env)]:=by rfl):
  PE X (.Call (.Name "sorted" P) [e] [⟨gV "key",.Name "abs" m,n⟩] j) (CQ X.K t):=by
 intro O s r H Q I h;refine RA<|dD I a b Wo<|U7 (bC (aM o (hU) (by rw[f];rfl) j O s r H (Aj λx k=>oU X.K x k Q) I h) λU z Z=>?_) (by rw[f];rfl) (by rw[f];rfl) rfl rfl;obtain⟨A,k,l,v,g⟩:=Z;obtain⟨x,E,p,N,rfl,w,i,q⟩:=iN g;subst E;obtain⟨u,rfl,y⟩:=e_ v;cases y;exact VQ<|dD l c d Us<|We<|As l w i q
end L2
namespace OD
open PySem L2
noncomputable def dM(f s:ab Int)(v:Int):Px:=(f.filter λl=>!decide (absI l=v)).any λl=>s.contains (-l)
noncomputable def gO(f s:ab Int)(v:Int):ab Int:=(f++s.filter λl=>!f.contains l).filter λl=>!decide (absI l=v)
def Ups(c:ab Int):Prop:=(c.map absI).Pairwise (· < ·)
def Joins(f s:ab Int)(v:Int)(r:ab Int):Prop:=Ups r/\∀l,l∈r↔(l∈f\/l∈s)/\absI l≠v
theorem gP(h:absI a=absI b):a=b\/b=-a:=by
 obtain⟨z,e⟩|⟨z,e⟩:=aH a<;>obtain⟨z,E⟩|⟨z,E⟩:=aH b<;>lia
theorem Ups.tail(h:Ups (x::c)):Ups c:=(RM.mp h).2
theorem Ups.head(h:Ups (x::c)):∀l∈c,absI x<absI l:=λl H=>(RM.mp h).1 _<|Rp H
theorem Ups.inj(h:Ups c)(f:a∈c)(g:b∈c)(e:absI a=absI b):a=b:=by
 induction c with
 |nil=>cases f
 |cons x c I=>
  obtain i|d:=P_.mp f
  ·obtain E|H:=P_.mp g
   ·rw[i,E]
   have:=h.head b H;simp_all
  obtain E|H:=P_.mp g
  ·have:=h.head a d;simp_all
  exact I h.tail d H
theorem Ups.nodup(h:Ups c):c.Nodup:=(QU.mp h).imp λ{a b} H e=>by simp_all
theorem kK:∀{a b:ab Int},Ups a->Ups b->(∀l,l∈a↔l∈b)->a=b
 |[],[],_,_,_=>rfl
 |[],y::b,_,_,h=>absurd ((h y).mpr P3) (by simp)
 |x::a,[],_,_,h=>absurd ((h x).mp P3) (by simp)
 |x::a,y::b,c,d,h=>by
  have e:x=y:=by
   obtain z|z:=P_.mp ((h x).mp P3)
   ·exact z
   obtain w|w:=P_.mp ((h y).mpr P3)
   ·exact w.symm
   have:=d.head x z;have:=c.head y w;lia
  subst e;rw[kK c.tail d.tail λz=>?_];constructor
  ·intro H;obtain w|w:=P_.mp ((h z).mp<|P1 _ H)
   ·have:=c.head z H;simp_all
   exact w
  intro H;obtain w|w:=P_.mp ((h z).mpr<|P1 _ H)
  ·have:=d.head z H;simp_all
  exact w
theorem Joins.uniq(h:Joins f s v a)(h':Joins f s v b):a=b:=kK h.1 h'.1 λl=>(h.2 l).trans (h'.2 l).symm
theorem hJ:l∈gO f s v↔(l∈f\/l∈s)/\absI l≠v:=by
 unfold gO;grind
theorem uJ(h:dM f s v=Pr)(H:l∈f)(a:absI l≠v):-l∉s:=λb=>by
 have:dM f s v=true:=P'.mpr ⟨l,PQ.mpr ⟨H,by rw[Pu a];rfl⟩,by simpa using b⟩;simp_all
theorem CT(H:Ups f)(c:Ups s)(h:dM f s v=Pr)(d:a∈gO f s v)(g:b∈gO f s v)(e:absI a=absI b):a=b:=by
 obtain⟨A,i⟩:=hJ.mp d;obtain⟨B,j⟩:=hJ.mp g;obtain A|A:=A<;>obtain B|B:=B
 ·exact H.inj A B e
 ·obtain z|z:=gP e
  ·exact z
  exact absurd (z▸B)<|uJ h A i
 ·obtain z|z:=gP e.symm
  ·exact z.symm
  exact absurd (z▸A)<|uJ h B j
 exact c.inj A B e
theorem wH(H:Ups f)(c:Ups s):(gO f s v).Nodup:=by
 refine UL _<|Rw.mpr ⟨H.nodup,UL _ c.nodup,?_⟩;grind
theorem rX:∀{r:ab Int},(r.map absI).Pairwise (·<=·)->r.Nodup->(∀a∈r,∀b∈r,absI a=absI b->a=b)->Ups r
 |[],_,_,_=>.nil
 |x::r,h,n,i=>by
  obtain⟨d,f⟩:=RM.mp h;obtain⟨N,g⟩:=Q3.mp n;refine RM.mpr ⟨λz H=>?_,rX f g λa j b k=>i a (P1 _ j) b<|P1 _ k⟩;obtain⟨y,c,rfl⟩:=Qe.mp H;have:=d _ H;have l:=λe=>N<|i x P3 y (P1 _ c) e▸c;lia
theorem uK(H:Ups f)(c:Ups s)(d:dM f s v=Pr)(h:r.Perm (gO f s v))(o:(r.map absI).Pairwise (·<=·)):Joins f s v r:=
 ⟨rX o (h.nodup_iff.mpr<|wH H c) λa g b i e=>CT H c d (h.mem_iff.mp g) (h.mem_iff.mp i) e,λl=>h.mem_iff.trans hJ⟩
noncomputable def iy(t:Str)(h:Px)(c:ab Int):Int:=((c.filter λl=>!(cD t (absI l-1).toNat == h)).map absI).foldl max 0
noncomputable def ao(t:Str)(h:Px)(c:ab Int):ab Int:=c.filter λl=>decide (absI l<=iy t h c)
theorem gQ:∀(n:ab Int) (b:Int),(b<=n.foldl max b/\∀a∈n,a<=n.foldl max b)/\(n.foldl max b=b\/n.foldl max b∈n)
 |[],b=>by simp
 |x::r,b=>by
  obtain⟨⟨e,d⟩,H⟩:=gQ r<|max b x;rw[Tr];refine⟨⟨by lia,λa c=>?_⟩,?_⟩
  ·obtain rfl|c:=P_.mp c
   ·lia
   exact d a c
  grind
theorem KI{n:ab Int}{M:Int}(f:∀a∈n,0<=a)(h:M∈n\/M=0)(H:∀a∈n,a<=M)(b:0<=M):n.foldl max 0=M:=by
 obtain⟨⟨A,c⟩,d⟩:=gQ n 0;have:n.foldl max 0<=M:=by
  obtain e|e:=d
  ·simp_all
  exact H _ e
 have:M<=n.foldl max 0:=by
  obtain h|h:=h
  ·exact c _ h
  rwa[h]
 lia
theorem eY:z∈aD t w↔1<=z/\z<=(t.length:Int)/\cD t (z-1).toNat=w:=by
 unfold aD;rw[Qe];constructor
 ·rintro⟨i,a,rfl⟩;obtain⟨h,H⟩:=PQ.mp a;have:=Rx.mp h;exact⟨by lia,by lia,by simpa using H⟩
 rintro⟨h,H,b⟩;refine⟨(z-1).toNat,PQ.mpr ⟨Rx.mpr (by omega),?_⟩,by lia⟩;rw[b];exact aau _
theorem GE(H:1<=absI l)(b:absI l<=(t.length:Int)):(aD t (!h)).contains (absI l)=!(cD t (absI l-1).toNat == h):=by
 cases g:cD t _ == h with
 |true=>
  cases z:(aD t _).contains _ with
  |false=>rfl
  |true=>
   have Z:=(eY.mp<|by simpa using z).2.2;simp_all
 |false=>
  have G:cD t (absI l-1).toNat=!h:=by
   cases a:cD t _<;>cases h<;>simp_all
  have:=eY.mpr ⟨H,b,G⟩;simp_all
noncomputable def bK(f s:ab Int)(v:Int):ab Int:=(gO f s v).mergeSort λa b=>decide (absI a<=absI b)
theorem dN(H:Ups f)(d:Ups s)(g:dM f s v=Pr):Joins f s v (bK f s v):=by
 refine uK H d g (UV _ _) ?_;have h:=Vn (le:=λa b:Int=>decide (absI a<=absI b)) (by lia) (by lia)<|gO f s v;rw[QU];exact h.imp λ{a b} e=>by simp_all
theorem Joins.eq(H:Ups f)(a:Ups s)(b:dM f s v=Pr)(h:Joins f s v r):r=bK f s v:=h.uniq<|dN H a b
noncomputable def aI(m:Nat):PK->M' Nat
 |.int z=>if 0<=z/\z<(m:Int)then gV z.toNat else Pt
 |_=>Pt
theorem aB(h:aI m d=gV i):i<m/\d=.int (i:Int):=by
 cases d with
 |int z=>
  have H:(if 0<=z/\z<(m)then gV _ else Pt)=gV i:=h
  grind
 |_=>cases h
noncomputable def mO(w:Str):PK->Px
 |.str x=>decide (x=w)
 |_=>Pr
theorem uL(d:PK)(w:Str):QG d (.str w)=mO w d:=by
 cases d with
 |str x=>
  rfl
 |_=>rfl
noncomputable def formB(w:Str)(n:Nat):PK->Px
 |.tuple d=>decide (d.length=n)&&mO w (d.getD 0 .none)
 |_=>Pr
def ap(n:Nat)(c:ab Int):Prop:=Ups c/\∀l∈c,1<=absI l/\absI l<=(n:Int)
noncomputable def gR(t:Str)(h:Px)(s:ab (ab Int))(d:PK):M' (ab Int):=(aI s.length d).map λi=>ao t h<|s.getD i []
noncomputable def fg(t:Str)(h:Px)(f s:ab Int)(z:Int):Px:=(aD t (!h)).contains z&&(f.contains z&&(s.contains (-z)&&!dM f s z))
noncomputable def dR(t:Str)(h:Px)(s:ab (ab Int))(d D a:PK):M' (ab Int):=
 match aI s.length d,aI s.length D,a with
 |some i,gV j,.int z=>if fg t h (s.getD i []) (s.getD j []) z=Pn then gV (bK (s.getD i []) (s.getD j []) z)else Pt
 |_,_,_=>Pt
def RV(H:Hp)(o:M' (ab Int))(v:V):Prop:=
 match o with
 |none=>v=.non
 |some c=>CL H c v
theorem yn:∀{c:ab Int} {n b:Int},Ups c->(∀l∈c,b<absI l/\absI l<=n)->(c.length:Int)<=max 0 (n-b)
 |[],n,b,_,_=>by simp;omega
 |x::c,n,b,h,g=>by
  have G:=g x P3;have i:=yn h.tail λl H=>⟨h.head l H,(g l<|P1 _ H).2⟩;grind
theorem bx(h:ap n c):c.length<=n:=by
 have:=yn (b:=0) h.1 λl H=>⟨by have:=(h.2 l H).1;lia,(h.2 l H).2⟩;simp_all
noncomputable def uM(c:ab Int)(C:ab (ab Int)):Px:=C.all λk=>c.any λl=>k.contains l
noncomputable def zD:PK->Int
 |.int z=>z
 |_=>0
noncomputable def mP:PK->ab Int
 |.tuple d=>d.map zD
 |_=>[]
noncomputable def mQ(n:Nat)(c:ab (ab Int))(d:PK):M' (ab Int):=if(rW (n:Int) d&&uM (mP d) c)=Pn then gV (mP d)else Pt
noncomputable def fN:PK->Nat->PK
 |.tuple d,i=>d.getD i .none
 |_,_=>.none
noncomputable def aT:Str:=PD "given"
noncomputable def bH:Str:=PD "hits"
noncomputable def aZ:Str:=PD "join"
noncomputable def ax:Str:=PD "drop"
noncomputable def jQ(c:ab (ab Int))(d:PK):M' (ab Int):=(aI c.length d).map λi=>c.getD i []
noncomputable def aN(t:Str)(c:ab (ab Int))(h:Px)(s:ab (ab Int))(d:PK):M' (ab Int):=
 if(!h&&formB aT 2 d)=Pn then jQ c (fN d 1)
 else if(h&&formB bH 2 d)=Pn then mQ t.length c (fN d 1)
 else if formB aZ 4 d=Pn then dR t h s (fN d 1) (fN d 2) (fN d 3)
 else if formB ax 2 d=Pn then gR t h s (fN d 1)
 else Pt
noncomputable def bG(t:Str)(C:ab (ab Int))(h:Px)(s:ab (ab Int)):ab PK->ab (ab Int)×Px
 |[]=>(s,Pn)
 |d::r=>match aN t C h s d with
  |none=>(s,Pr)
  |some c=>bG t C h (s++[c]) r
theorem uN:∀{d:ab PK} {n b:Int},lW n b d=Pn->d=(d.map zD).map WU/\Ups (d.map zD)/\∀l∈d.map zD,b<absI l/\absI l<=n
 |[],_,_,_=>⟨rfl,.nil,λ_ h=>nomatch h⟩
 |e::d,n,b,h=>by
  obtain⟨z,rfl⟩|c:=jP e
  ·rw[oS]at h
   split at h
   ·rename_i f;obtain⟨g,i,a⟩:=uN h;refine⟨?_,RM.mpr ⟨λy j=>?_,i⟩,λl H=>?_⟩
    ·rw[Qf,Qf,<-g];rfl
    ·obtain⟨l,H,rfl⟩:=Qe.mp j;exact(a l H).1
    obtain rfl|H:=P_.mp H
    ·exact f
    have:=a l H;lia
   simp_all
  rw[uH c]at h;cases h
theorem yo{n:Nat}{d:PK}(h:rW (n:Int) d=Pn):d=jw (mP d)/\ap n (mP d):=by
 cases d with
 |tuple D=>
  obtain⟨H,a,b⟩:=uN h;refine⟨?_,a,λl c=>?_⟩
  ·show UN D=.tuple ((D.map zD).map _)
   rw[<-H]
  ·have:=b l c;assumption
 |_=>cases h
theorem yp:∀{c:ab Int} {n b:Int},Ups c->(∀l∈c,b<absI l/\absI l<=n)->lW n b (c.map .int)=Pn
 |[],_,_,_,_=>rfl
 |x::c,n,b,h,g=>by
  rw[Qf,oS,PP<|g x P3];exact yp h.tail λl H=>⟨h.head l H,(g l<|P1 _ H).2⟩
theorem GF(h:ap n c):rW (n:Int) (jw c)=true:=yp h.1 λl H=>⟨by have:=(h.2 l H).1;lia,(h.2 l H).2⟩
theorem GG(c:ab Int):(c.map WU).map zD=c:=by
 rw[Qm];exact List.map_id c
theorem CU(c:ab Int):mP (jw c)=c:=GG c
theorem eQ{n:Nat}{C:ab (ab Int)}(h:∀c∈C,ap n c){i:Nat}(H:i<C.length):ap n (C.getD i []):=by
 simp_all
theorem gS(h:ap n c):ap n (ao t w c):=
 ⟨QU.mpr<|UL _<|QU.mp h.1,λl H=>h.2 l (PQ.mp H).1⟩
theorem oW(h:ap n f)(H:ap n s)(a:dM f s v=Pr):ap n (bK f s v):=by
 obtain⟨b,c⟩:=dN h.1 H.1 a;exact⟨b,λl d=>((c l).mp d).1.elim (h.2 l)<|H.2 l⟩
theorem CV(H:∀c∈s,ap n c)(h:gR t w s d=gV c):ap n c:=by
 unfold gR at h;cases e:aI _ d with
 |none=>rw[e]at h;cases h
 |some i=>
  rw[e]at h;cases h;exact gS<|eQ H (aB e).1
theorem CY(a:∀c∈s,ap n c)(h:dR t w s d D b=gV c):ap n c:=by
 unfold dR at h;cases e:aI s.length d with
 |none=>simp_all
 |some i=>
 cases E:aI s.length D with
 |none=>simp_all
 |some j=>
 rw[e,E]at h;cases b with
 |int z=>
  have H:(if fg t w _ _ z=Pn then gV _ else Pt)=gV c:=h
  split at H
  ·rename_i g;cases H;unfold fg at g;refine oW (eQ a (aB e).1) (eQ a (aB E).1) ?_;lia
  simp_all
 |_=>cases h
theorem C0(a:∀c∈C,ap t.length c)(H:∀c∈s,ap t.length c)(h:aN t C w s d=gV c):ap t.length c:=by
 unfold aN at h
 split at h
 ·unfold jQ at h;cases e:aI _ _ with
  |none=>rw[e]at h;cases h
  |some i=>
   rw[e]at h;cases h;exact eQ a (aB e).1
 split at h
 ·unfold mQ at h
  split at h
  ·rename_i g;cases h;rw[Qs]at g;exact(yo g.1).2
  simp_all
 split at h
 ·exact CY H h
 split at h
 ·exact CV H h
 simp_all
theorem gu(a:∀c∈C,ap t.length c):∀{D:ab PK} {s:ab (ab Int)},(∀c∈s,ap t.length c)->∀c∈(bG t C w s D).1,ap t.length c
 |[],s,h=>h
 |d::r,s,h=>by
  show∀c∈(match aN t C w s d with|none=>(s,Pr)|some c=>bG t C w (s++[c]) r).1,ap _ c
  cases e:aN t C w s d with
  |none=>exact h
  |some c=>
   refine gu a λz H=>?_;obtain H|H:=P5.mp H
   ·exact h z H
   rw[Pw.mp H];exact C0 a h e
theorem lX{d:PK}:∀{D:ab PK} {s o:ab (ab Int)},bG t C H s D=(o,Pn)->
  bG t C H s (D++[d])=match aN t C H o d with|none=>(o,Pr)|some c=>(o++[c],Pn)
 |[],s,o,h=>by
  cases h;rfl
 |e::r,s,o,h=>by
  have a:(match aN t C H s e with|none=>(s,Pr)|some c=>bG t C H _ r)=(o,Pn):=h;show(match aN t C H s e with|none=>(s,Pr)|some c=>bG t C H _<|r++[d])=_
  cases g:aN t C H s e with
  |none=>simp_all
  |some c=>
   rw[g]at a;exact lX a
theorem dS(h:formB w n d=Pn):∃D,d=.tuple D/\D.length=n:=by
 cases d with
 |tuple D=>
  have H:(decide _&&mO w _)=true:=h;rw[Qs]at H;exact⟨D,rfl,PX H.1⟩
 |_=>cases h
theorem uO{n:Nat}:∀{c:ab Int} {b:Int},L4 b c->Ups c/\∀l∈c,b<absI l
 |[],_,_=>⟨.nil,λz h=>nomatch h⟩
 |x::c,b,h=>by
  obtain⟨d,a⟩:=uO (n:=n) h.2;refine⟨RM.mpr ⟨λy e=>?_,d⟩,λl H=>?_⟩
  ·obtain⟨l,H,rfl⟩:=Qe.mp e;exact a l H
  obtain rfl|H:=P_.mp H
  ·exact h.1
  have:=a l H;have:=h.1;lia
theorem mR:∀{a:ab PK} {s:ab (ab Int)},bG t C h s (a++b)=if(bG t C h s a).2=Pn then bG t C h (bG t C h s a).1 b else bG t C h s a
 |[],s=>rfl
 |d::a,s=>by
  show(match aN t C h s d with|none=>(s,Pr)|some c=>bG t C h _<|a++b)=if(match aN t C h s d with|none=>(s,Pr)|some c=>bG t C h _ a).2=Pn then bG t C h (match aN t C h s d with|none=>(s,Pr)|some c=>bG t C h _ a).1 b else(match aN t C h s d with|none=>(s,Pr)|some c=>bG t C h _ a)
  cases e:aN t C h s d with
  |none=>rfl
  |some c=>exact mR
theorem GH(h:bG t C H [] (D.take i)=(s,Pn))(a:D[i]?=gV d)(l:aN t C H s d=Pt):bG t C H [] D=(s,Pr):=by
 have e:D=D.take i++d::D.drop (i+1):=by
  obtain⟨b,rfl⟩:=N'.mp a;simp
 rw[e,mR,h];show(match aN t C H s d with|none=>(s,Pr)|some c=>bG t C H _<|D.drop<|i+1)=_
 rw[l]
theorem uP{t:Str}{C:ab (ab Int)}{H:Px}{D:ab PK}{s:ab (ab Int)}{i:Nat}{d:PK}{c:ab Int}(h:bG t C H [] (D.take i)=(s,Pn))(a:D[i]?=gV d) (l:aN t C H s d=gV c):bG t C H [] (D.take<|i+1)=(s++[c],Pn):=by
 rw[Qb,a];show bG t C H [] (D.take i++[d])=_
 rw[lX h,l]
theorem dg:∀{D:ab PK} {s o:ab (ab Int)},bG t C w s D=(o,Pn)->o.length=s.length+D.length
 |[],s,o,h=>by
  cases h;rfl
 |d::r,s,o,h=>by
  have H:(match aN t C w s d with|none=>(s,Pr)|some c=>bG t C w _ r)=(o,Pn):=h;cases g:aN t C w s d with
  |none=>simp_all
  |some c=>
   rw[g]at H;have:=dg H;rw[Pl,Qg]at this;rw[P4];lia
theorem getD_some{a:Type}{l:ab a}{i:Nat}{d:a}(h:i<l.length):l[i]?=gV (l.getD i d):=by
 rw[B',K' h];rfl
noncomputable def cq(o:Px)(B:ab Px)(l:Int):Px:=match B[(absI l-1).toNat]? with
 |some b=>(b == decide (0<l)) == o
 |none=>Pr
noncomputable def bw(C:ab (ab Int))(b:ab Px):Px:=C.all λc=>c.any<|hit b
theorem uQ(h:(absI l-1).toNat<B.length):cq o (B++[b]) l=cq o B l:=by
 unfold cq;rw[PL h]
theorem uR(h:(absI l-1).toNat=B.length):cq o (B++[b]) l=((b == decide (0<l)) == o):=by
 unfold cq;simp_all
theorem fO(h:b.length<=(absI l-1).toNat):cq o b l=false:=by
 unfold cq;rw[QI h]
theorem oX(a:l∈c)(h:iy t H c<absI l):cD t (absI l-1).toNat=H:=by
 cases g:cD t _ == H with
 |true=>exact eq_of_beq g
 |false=>
  have m:absI l∈(c.filter λl=>!(cD t (absI l-1).toNat == H)).map _:=Rp<|PQ.mpr ⟨a,by rw[g];rfl⟩;have:=(gQ ((c.filter _).map _) 0).1.2 _ m;unfold iy at h;omega
theorem jn(d:1<=z)(h:cq o B z=Pn)(c:cq o B (-z)=Pn):False:=by
 have e:absI (-z)=absI z:=by
  obtain⟨y,e⟩|⟨y,e⟩:=aH z<;>obtain⟨y,E⟩|⟨y,E⟩:=aH (-z)<;>lia
 unfold cq at h c;rw[e]at c;cases g:B[(absI z-1).toNat]? with
 |none=>rw[g]at h;cases h
 |some b=>
  rw[g]at h c;have H:=h;have a:=c;rw[PB (by lia)]at H;rw[Pu (by lia)]at a;simp_all
theorem oY{a:Type}{p q:a->Px}:∀{l:ab a},(∀x∈l,p x=q x)->l.all p=l.all q
 |[],_=>rfl
 |x::l,h=>by
  rw[Up,Up,h x P3,oY λy H=>h y<|P1 _ H]
end OD
namespace DP
open PySem
theorem GI:x9 (.type "list") "keys"=pure none:=by rfl
theorem yq:PySem.entryFor table "dict.update.loop"=gV Builtin.«dict.update.loop»:=PySem.entryFor_of_tree (by rfl)
theorem nE:plainId "dict.update.loop"=true:=by decide+kernel
theorem Au{Q:M' Pm->PF->Prop}(x:s.heap.get? l=gV o)(f:o.cls=.type "list")(a:o.data=.seq xs k)(i:o.dict=Pt)(j:A.handled=Pt)
  (h:∀h' T,(∀b o,s.heap.get? b=gV o->h'.get? b=gV o)->Q Pt {s with heap:=h',toks:=T}):wpAny (Qj p w) A (getAttr? (.ref l) "keys") Q E s:=by
 obtain⟨c,D,m,n⟩:=o;simp only at f a i;subst f a i;obtain⟨q,g,d,T,os⟩:=s;have C:∀t,(⟨q,g,d,t,os⟩:PF).TypeIs (.ref l) "list":=λZ=>⟨_,x,rfl⟩;have r:=sub_AttributeError;have u:=F.slot_list_getattribute.lookup;have v:=F.slot_list_getattribute.bind<|.ref l;have y:=am_list_getattr_none;unfold getAttr? getAttrBy? getAttrBy
 repeat (any_goals (first|assumption|exact C _|((with_reducible show wpAny _ _ (call (Value.builtin "list.__getattribute__") _ _) _ _ _);refine V1 F.slot_list_getattribute (C _) am_entry_list_getattribute (F.args_list_getattribute_2 _ _) (meets_getattribute_miss_list l xs k n "keys" _ GI (by rfl)<|by decide+kernel) ⟨x,j,λh' t e H=>?_⟩)|wp_step))
 obtain⟨z,U,B⟩:=H.there;show wpAny _ _ (Zv _ _ _ _ _ _ _) _ _ _
 unfold Zv
 repeat (any_goals (first|assumption|wp_step))
 exact h _ _ H.keeps
section
variable {prog:PU}{w:Qc}{K:Type}[Wj K]{knd:KeyKind prog w K}{A:Q0}{s:PF}
theorem wI(a:s.heap.IsTuple t xs)(h:Q xs.toList s):wpAny (Qj prog w) A (X3<|.ref t) Q E s:=by
 obtain⟨o,H,c,n,d⟩:=a;have T:s.TypeIs (.ref t) _:=⟨o,H,c⟩;exact Pp<|WD T<|Pp<|TZ H d<|PY h
theorem Av(hh:A.in1.handled=Pt){x:QB}(y:l≠I)(h:d≠I)(B:d≠l)(hn:a.size<=sizeLine)(hm:M.length=a.size)
  (C:∀(i:Nat) (v:Pm),a[i]?=gV v->∃f k t,M[i]?=gV f/\knd.is f.1 k=Pn/\v=.ref t/\t≠d/\t≠I/\x.IsTuple t #[k,f.2]) {R:kS->PF->Prop}:
  ∀(m i:Nat) (s:PF) (T:Tok),a.size-i=m->i<=a.size->s.heap.IsListIter I l i->s.heap.IsList l a->s.heap.DictOf knd d (Zu []<|M.take i)->
   (∀b o,b≠d->b≠I->x.get? b=gV o->s.heap.get? b=gV o)->
   (∀h' g,h'.DictOf knd d (Zu [] M)->(∀b o,b≠d->b≠I->x.get? b=gV o->h'.get? b=gV o)->R (.ok<|.ret .none) {s with heap:=h',toks:=g})->
   codeAny (Qj prog w) A (.builtin "dict.update.loop" ⟨[.ref d,.ref I,.int (i:Int) T,.none],[]⟩) R s:=by
 have W:=XZ (prog:=prog) (w:=w) (A:=A.in1) hh I l y a;intro m
 induction m with
 |zero=>
  intro i s T D hi j E c Z F;have e:i=a.size:=by lia
  subst e;refine SV yq ?_;rw[RY nE _];refine Pp (m:=Xv<|.ref I)<|W.done s _ _ ⟨j,E⟩ λh' g G=>?_;have U:∀b o,b≠I->s.heap.get? b=gV o->h'.get? b=gV o:=λb o J e=>G b o (by simpa using J) e;refine Pp (m:=acE d [])<|PY<|PY ?_;refine F h' g ?_ λb o q u e=>U b o u<|Z b o q u e;rw[PJ<|by exact VC hm]at c;obtain⟨o,L,N,H,r⟩:=c;exact⟨o,L,N,U d o h H,r⟩
 |succ m ih=>
  intro i s T D hi j E c Z F;have RH:i<a.size:=by lia
  refine SV yq ?_;rw[RY nE _];refine Pp (m:=Xv<|.ref I)<|W.item i s _ _ RH ⟨j,E⟩ λv h' g hv QV G=>?_;have U:=λb o J e=>G b o (by simpa using J) e;obtain⟨f,k,t,O,P,rfl,Q,n,ht⟩:=C i v hv;have X:h'.IsTuple t _:=let ⟨o,H,r⟩:=ht;⟨o,U t o n<|Z t o Q n H,r⟩
  have Y:h'.DictOf knd d _:=let ⟨o,L,N,H,r⟩:=c;⟨o,L,N,U d o h H,r⟩
  have hz:(Zu []<|M.take i).length<=sizeLine:=by
   have:=merged_length_le []<|M.take i;rw[P9]at this;simp only[Vb]at this;lia
  refine Pp<|Rz<|Pp<|RX<|wI X<|Rz<|wpAny_dictSet_pairs P Y λu Y4 sb=>?_;have e2:Zu [] _=stored _ f.1 f.2:=merged_take_succ _ _ _ _ O;refine PY ⟨SN nE _,ih (i+1) _ 0 (by grind) RH ?_ ?_ (by rwa[e2]) (λb o q p e=>(sb.2 b q).trans<|U b o p<|Z b o q p e) λh3 ac b1 b2=>F h3 ac b1 b2⟩
  ·exact QV.1.at λo e=>(sb.2 I λz=>h z.symm).trans e
  exact QV.2.at λo e=>(sb.2 l λz=>B z.symm).trans e
theorem call_pairs{E:Pm->PF->Prop}(L:A.handled=Pt){Q:Pm->PF->Prop}(M:s.heap.get? l=gV p)(q:p.cls=.type "list")(Z:p.data=.seq I U)(u:p.dict=Pt)(X:I.size<=sizeLine)(Y:m.length=I.size)
  (z:∀(i:Nat) (v:Pm),I[i]?=gV v->∃d k t,m[i]?=gV d/\knd.is d.1 k=Pn/\v=.ref t/\s.heap.IsTuple t #[k,d.2])
  (h:∀(h':QB) (T:Nat),h'.DictOf knd s.heap.objs.size (Zu [] m)->(∀b o,s.heap.get? b=gV o->h'.get? b=gV o)->Q (.ref s.heap.objs.size) {s with heap:=h',toks:=T}):
  wpAny (Qj prog w) A (call (.type "dict") [.ref l]) Q E s:=by
 refine callType_codes (Q₁:=λO a=>O=.ref s.heap.objs.size/\a={s with heap:=s.heap.push {cls:=.type "dict",data:=.dict #[]}}) F.kt_called_dict (F.kt_typeCall_dict_1 _) F.entry_dict_init (kt_code_dict_new _ ⟨rfl,rfl⟩) ?_;rintro O a ⟨rfl,rfl⟩;have c:(s.heap.push {cls:=.type "dict",data:=.dict #[]}).DictOf knd s.heap.objs.size []:=aa' s.heap;have W:=PH {cls:=.type "dict",data:=.dict #[]} M;have RH:l<s.heap.objs.size:=P0 M;have x:PySem.Shared.TypeIs {s with heap:=s.heap.push {cls:=.type "dict",data:=.dict #[]}} (.ref l) "list":=⟨_,W,q⟩;exists c.typeIs,F.args_dict_init_2 _ _;unfold Builtin.«dict.__init__»;refine Pp ?_;refine Pp<|Yr c.typeIs ?_;show wpAny _ _ (pure _) _ _ _
 refine PY ?_;show wpAny _ _ _ _ _ _
 refine Pp<|WD x<|Pp<|Au W q Z u (by simpa using L) λH y f=>?_;have N:=f _ _ W;have g:H.IsList l I:=⟨_,N,q,U,Z⟩;simp only ;refine Pp<|TM<|Pp<|Uu g<|PY ?_;exists SN nE _;have B:=Qh s.heap (o:={cls:=.type "dict",data:=.dict #[]}) rfl;have C:=f _ _ B;have D:=P0 N;have G:=P0 C;have J:H.DictOf knd _ []:=let ⟨o,es,ep,n,r⟩:=c;⟨o,es,ep,f _ _ n,r⟩
 have hit:(H.push {cls:=.type "list_iterator",data:=.fields #[.ref l,.int 0 0]}).get? _=gV _:=Qh _ rfl;refine Av (by simpa using L) (x:=H.push _) (Qa D) (Qa G) (TC RH) X Y (λi v hv=>?_) _ 0 _ 0 rfl (P8 _) ⟨_,hit,rfl,rfl⟩ (g.push _) (J.push _) (λb o V V e=>e) λh' T b1 b2=>?_
 ·obtain⟨d,k,t,a1,a2,a3,a4⟩:=z i v hv;obtain⟨o,n,r⟩:=a4;have j:=f _ _<|PH _ n;exact⟨d,k,t,a1,a2,a3,Qa<|P0 n,Qa<|P0 j,o,PH _ j,r⟩
 refine⟨rfl,h h' T b1 λb o e=>?_⟩;have P:=f _ _<|PH _ e;exact b2 b o (Qa<|P0 e) (Qa<|P0 P)<|PH _ P
end
end DP
namespace L2
open PySem PySem.Spec PyProof.Rows
structure tV (P:PU)(w:Qc)(K:J')(mg:Str->M' Pm)(base:QB)(CX:BY)(k:Nat)(C:C')(m:Str)(f:C')(fd:PR)(ps:ab Str)(sp:Sp):Prop where
 ok:ay P w K mg base CX k f fd ps sp
 b:Binds K fd ps []
 cl:Cls K C
 me:F4 K C m f
structure KJ (P:PU)(w:Qc)(K:J')(mg:Str->M' Pm)(base:QB)(k:Nat)(x:Str)(C f:C')(fd:PR)(ps:ab Str)(sp:Sp):Prop where
 ok:ay P w K mg base aV k f fd ps sp
 b:Binds K fd ps []
 mks:Mk K C f
 at_:mg x=gV (.ref C)
section
variable {X:Cx}{j k:Nat}{C f:C'}{fd:PR}{ps:ab Str}{sp:Sp}{pos:Pos}{e:QS}{es:ab QS}{t:TA}
theorem iQ{m:Str}{v:Pos}{o:QS}{T:TE}{p:Sem Px}(G:tV X.prog X.w X.K X.mg X.base aV j C m f fd ps sp)(a:PE X o T)(r:Room k X.A)(h:j<=k)(b:PA X (e::es) t)
  (H:Qk (e::es) X.env=(Pr,RU e X.env)::Qk es X.env:=by rfl) (x:(SW pos<|Qk es X.env).any (·.1)=false:=by rfl)
  (c:RU (.Call (.Attribute o m v) (e::es) [] pos) X.env=(do
   let O <-RU o X.env
   Y6 v.atName
   let (f,first) <-Vr [O] (XG O m p)
   ti pos f first (SW pos<|Qk (e::es) X.env) (YJ pos<|Wd [] X.env)):=by rfl):
  PE X (.Call (.Attribute o m v) (e::es) [] pos) (ub C m sp [] E0 T t):=F8 a G.cl G.me G.ok (r.mono h) G.b .nil yb b H x c
theorem M_{x:Str}{p:Pos}(G:KJ X.prog X.w X.K X.mg X.base j x C f fd ps sp)(r:Room k X.A)(h:j+1<=k)(g:Gl X x)(a:PA X (e::es) t)(H:(x == ("__debug__":Str))=false:=by decide)
  (b:Qk (e::es) X.env=(Pr,RU e X.env)::Qk es X.env:=by rfl) (u:(SW pos<|Qk es X.env).any (·.1)=false:=by rfl):
  PE X (.Call (.Name x p) (e::es) [] pos) (Ir C sp [] E0 t):=F9 G.mks G.ok (r.mono h) g G.at_ G.b .nil yb a H b u
theorem rY:eZ X (.builtin "isinstance") (λx H Q=>∃y T C b,x=[y,.ref C]/\jK X.K H y T/\R_ X.K T (.ref C)=gV b/\Q (.bl b) H):=by
 rintro O s g H x U Q I r ⟨y,T,C,b,rfl,h,a,q⟩;obtain⟨u,v,rfl,c,d⟩:=r.two;cases d;exact qx I c h a λi=>⟨.bl b,H,I.tok _,rfl,q⟩
end
theorem uS(O:HOk P w H h):∀(T:ab C') (k:ab (aJ×V)),T.length=k.length->(∀(i:Nat) (t:C') (a:aJ×V),T[i]?=gV t->k[i]?=gV a->H t=gV (.tup [kV a.1,a.2]))->
  ∃m:ab (aJ×Pm),KV k m/\m.length=T.length/\m.map (·.1)=k.map (·.1)/\∀(i:Nat) (t:C'),T[i]?=gV t->∃a y,m[i]?=gV a/\(aQ P w).is a.1 y=Pn/\h.IsTuple t #[y,a.2]
 |[],[],_,_=>⟨[],.nil,rfl,rfl,λi t e=>by simp at e⟩
 |[],_::_,e,_=>by simp at e
 |_::_,[],e,_=>by simp at e
 |t::T,a::k,e,p=>by
  obtain⟨m,A,d,f,g⟩:=uS O T k (by simpa using e) λi c b E j=>p (i+1) c b (by assumption) (by assumption);obtain⟨Z,G,r,o,l,q,n,s⟩:=(O t _<|p 0 t a rfl rfl);obtain⟨u,v,rfl,x,z⟩:=r.two;refine⟨(a.1,v)::m,.cons ⟨rfl,z⟩ A,by simp[d],by simp[f],λi c E=>?_⟩;cases i with
  |zero=>
   have B:t=c:=by simpa using E
   subst B;exact⟨(a.1,v),u,rfl,jB x,o,l,q,n,s⟩
  |succ i=>
   obtain⟨b,y,C,D,F⟩:=g i c (by assumption);exact⟨b,y,by assumption,D,F⟩
inductive IP (xs:ab V)(H:Hp)(Q:VK):Prop
 |mk (l:C')(T:ab C')(kvs:ab (aJ×V))(hx:xs=[.ref l])(h:H l=gV (.lst<|T.map V.ref))(hl:T.length=kvs.length)(hp:∀(i:Nat) (t:C') (k:aJ×V),T[i]?=gV t->kvs[i]?=gV k->H t=gV (.tup [kV k.1,k.2])) (nd:(kvs.map (·.1)).Nodup) (z:kvs.length<=9000)
  (q:∀d,H d=Pt->Q (.ref d) (upd H d<|.dK kvs)):IP xs H Q
theorem fP(g:X.calm=Pn):eZ X (.type "dict") IP:=by
 intro Og s J H xs us Q I r h;obtain⟨l,t,k,rfl,j,o,p,N,z,q⟩:=h;obtain⟨u,rfl,w⟩:=r.one;cases w;obtain⟨z1,P,n,x,A,e⟩:=I.lstM j;obtain⟨m,B,a2,C,D⟩:=uS I.hok t k o p;refine DP.call_pairs (knd:=aQ _ X.w) (m:=m) (I.ok.hd g) e rfl rfl rfl (by simp_all) (by simp_all) (λi v E=>?_) λh' T d F=>?_
 ·have Z:P[i]?=gV v:=by simpa using E
  have G:i<t.length:=by
   have:=(N'.mp Z).1;simp_all
  have f:t[i]?=gV _:=K' G;obtain⟨L,y,M,O,U⟩:=D i _ f;have W:(t.map V.ref)[i]?=gV (.ref t[i]):=by rw[PN,f];rfl
  obtain⟨v',a,c⟩:=x.get W;rw[Z]at a;cases a;cases c;exact⟨L,y,_,M,O,rfl,U⟩
 rw[merged_nil_of_nodup m<|by simp_all]at d;refine⟨.ref _,_,I.laid (λb q Y=>F b q Y) (Po _)<|rQ (QF z (by decide)) (QT.mpr<|Q1<|Qa I.big) B d,rfl,q _<|I.hok.fresh<|Po _⟩
noncomputable def Na(a:C'):HO:=.ext λh=>∃o,h.get? a=gV o
noncomputable def dm(a:C')(o:Obj):HO:=.frz o<|Na a
theorem kL(e:h.get? a=gV o):ObjOk P w H h a (dm a o):=
 ⟨e,⟨o,e⟩,⟨o,e⟩,λz z ⟨o,q⟩ k=>⟨o,k o q⟩⟩
theorem gv(x:HOk P w H h)(e:H a=gV (dm a o)):h.get? a=gV o:=(x a _ e).1
inductive CodeK (H:Hp)(qual:Str)(C:Pm):Prop
 |mk (c:C')(o:Obj)(vs:RW Pm)(t:Tok)(e:C=.ref c)(h:H c=gV (dm c o))(d:o.data=.fields vs)(q:vs[1]?=gV (.str qual t))
inductive TabAt (H:Hp)(T:C')(pos:Pos)(qual:Str):Prop
 |mk (p:RW Pm)(h:H T=gV (.tbl p))(t:TriplesOk p.toList)(c:∀C,codeAmong pos p.toList=gV C->CodeK H qual C)
inductive LamAt (H:Hp)(f:C')(qual:Str)(params:UP)(body:QS)(s:T_)(clos:ab (Str×C')):Prop
 |mk (p C:Pm)(c:C')(h:H f=gV (dm f<|SX "<lambda>" qual params body s clos p c C))(k:CodeK H qual (.ref c))
def Off(T:C')(H h:Hp):Prop:=∀b o,b≠T->H b=gV o->h b=gV o
theorem CodeK.mono(x:CodeK H Q C)(k:∀b o,H b=gV (dm b o)->a b=gV (dm b o)):CodeK a Q C:=by
 obtain⟨c,O,v,t,e,h,d,q⟩:=x;exact⟨c,O,v,t,e,k _ _ h,d,q⟩
theorem LamAt.mono(x:LamAt H f Q p B s C)(k:∀b o,H b=gV (dm b o)->a b=gV (dm b o)):LamAt a f Q p B s C:=by
 obtain⟨P,v,c,h,q⟩:=x;exact⟨P,v,c,k _ _ h,q.mono k⟩
theorem TabAt.mono(x:TabAt H T p Q)(k:Same H a):TabAt a T p Q:=by
 obtain⟨P,h,t,c⟩:=x;exact⟨P,k _ _ h,t,λC e=>(c C e).mono λb o q=>k _ _ q⟩
inductive Nb (T:C')(pos:Pos)(qual:Str)(params:UP)(body:QS)(s:T_)(clos:ab (Str×C'))(H:Hp)(Q:VK):Prop
 |mk (t:TabAt H T pos qual)(q:∀(f:C') (h:Hp),H f=Pt->Off T H h->TabAt h T pos qual->LamAt h f qual params body s clos->Q (.ref f) h)
def OO(T:C')(P:Pos)(q:Str)(p:UP)(b:QS)(s:T_)(c:ab (Str×C')):TE:=λ_ H Q=>Nb T P q p b s c H Q
structure rZ (mg:Str->M' Pm)(base:QB)(c T:C'):Prop where
 code:T3 base c T
 bm:∃bm ob,mg "__builtins__"=gV (.ref bm)/\bm≠V2/\base.get? bm=gV ob/\ob.cls=.type "module"/\ob.dict=gV V2/\ob.data=.plain
theorem r8(L:rZ X.mg X.base c T)(I:Inv X i j H s)(l:H T=gV (.tbl p)):s.heap.BuiltinsAt X.mg T:=by
 obtain⟨m,O,a,d,b,f,g,B⟩:=L.bm;refine⟨m,O,a,d,λq=>?_,λq=>?_,I.bk _ _ b,f,g,B⟩
 ·obtain⟨o,E,k,e,h,y⟩:=I.ok.mod.glob;simp_all
 have z:=(I.bs _ _ b).2;lia
theorem KK{X:Cx}{p:UP}{B:QS}{a:T_}{P:Pos}{c:C'}{T:C'}{f:ab (Str×C')}(L:rZ X.mg X.base c T)(hc:X.env.code=.ref c)(ac:defaultsOf p X.env=([],[]):=by rfl)(Vl:w1 a X.env=pure f:=by rfl):
  PE X (.Lambda p B a P) (OO T P (X.env.qual++"<lambda>") p B a f):=by
 intro Og s σ H Q I ⟨am,hq⟩;refine PySem.W.kla_eval ac ?_;obtain⟨j,hT,y,D⟩:=am;have hP:s.heap.get? T=gV (UE j):=I.hok T _ hT;have Cs:T3 s.heap c T:=L.code.keeps I.bk;have hg:s.heap.Ns Qr X.mg:=I.ok.mod.glob.keeps I.bk;have an:Qr≠T:=λq=>by
  obtain⟨o,es,ep,e,E,V⟩:=hg;lia
 have U:=r8 L I hT;cases W:codeAmong P j.toList with
 |none=>
  refine PySem.W.kla_makeFunction (mg:=X.mg) Vl I.ok.glob hg hc Cs hP y W an U λC g h m Y r RH F G=>?_;obtain⟨c2,k,vs,t,e2,as,E,hv⟩:=F;cases e2;have fc:H C=none:=I.hok.fresh r;have nT:C≠T:=λz=>by lia
  have atT:upd (upd H T<|.tbl<|j++#[Xu P.line,Xu P.col,.ref C]) C (dm C k) T=gV (.tbl<|j++#[Xu P.line,Xu P.col,.ref C]):=by rw[af<|Q1 nT,aa]
  have A:upd (upd H T<|.tbl<|j++#[Xu P.line,Xu P.col,.ref C]) C (dm C k) C=gV (dm C k):=aa;have O:∀b,b≠T->b≠C->upd (upd H T<|.tbl<|j++#[Xu P.line,Xu P.col,.ref C]) C (dm C k) b=H b:=λb h1 h2=>by rw[af h2,af h1]
  generalize upd (upd H T<|.tbl<|j++#[Xu P.line,Xu P.col,.ref C]) C (dm C k)=w at atT A O;have neT:∀b u,H b=gV u->(∀j,u≠.tbl j)->b≠T:=λb u e n z=>by
   grind
  have neN:∀b,H b=Pt->b≠T:=λb e z=>by lia
  have N:∀b u,H b=gV u->b≠C:=λb u e z=>by lia
  have av:∀b o,s.heap.get? b=gV o->b≠C:=λb o e=>Qa<|QH (P0 e) r;have un:Un X.fs [] H w s.heap h:=by
   refine⟨λb o e n V V=>Y b o (neN b n) e,λb o e n V V=>⟨o.slots,Y b o (neN b n) e⟩,λb o e n V=>?_,λb o e V=>?_,λb xs e=>?_,λb o u e=>?_,λb qs e=>?_⟩
   ·rw[O b (neN b n)<|av b o e];exact n
   ·by_cases i:b=T
    ·exact⟨_,i▸G⟩
    exact⟨o,Y b o i e⟩
   ·simp_all
   ·simp_all
   by_cases i:b=T
   ·grind
   exact⟨#[],by rw[O b i<|N b _ e,e];simp⟩
  have az:HOk X.prog X.w w h:=λb u e=>by
   by_cases i:b=T
   ·subst i;rw[atT]at e;cases e;exact G
   by_cases J:b=C
   ·subst J;rw[A]at e;cases e;exact kL as
   rw[O b i J]at e;refine(I.hok b u e).stay (λd v x q=>Y d v ?_ q) (λd q=>?_) λd xs q=>?_
   ·lia
   ·simp_all
   simp_all
  have M:Inv X Og σ w {s with heap:=h,toks:=m}:=I.un (t':=m) un az;have Z:w h.objs.size=none:=M.hok.fresh<|Po _;have aC:H h.objs.size=none:=I.hok.fresh<|QF r<|QA RH;have I3:=M.laid (a:=h.objs.size) (o:=dm h.objs.size<|SX "<lambda>" (X.env.qual++"<lambda>") p B a f ((X.mg "__name__").getD .none) C g) (h':=h.push<|SX "<lambda>" (X.env.qual++"<lambda>") p B a f ((X.mg "__name__").getD .none) C g) (t':=m)
   (λb u e=>PH _ e) (Po _) (kL<|Qh _ rfl)
  have l:∀b u,w b=gV u->upd w h.objs.size (dm h.objs.size<|SX "<lambda>" (X.env.qual++"<lambda>") p B a f ((X.mg "__name__").getD .none) C g) b=gV u:=λb u e=>by
   rw[af<|ag e Z];exact e
  have ck:CodeK (upd w h.objs.size<|dm h.objs.size<|SX "<lambda>" (X.env.qual++"<lambda>") p B a f ((X.mg "__name__").getD .none) C g) (X.env.qual++"<lambda>") (.ref C):=⟨C,k,vs,t,rfl,l _ _ A,E,hv⟩;refine⟨.ref h.objs.size,_,I3,rfl,hq _ _ aC (λb u U e=>l _ _<|by rw[O b U<|N b _ e];exact e) ⟨_,l _ _ atT,?_,λcv e=>?_⟩ ⟨_,g,C,aa,ck⟩⟩
  ·rw[UY];exact TriplesOk_snoc _ _ _ _ y
  ·rw[UY]at e;have z:=codeAmong_snoc (c:=QV C) j.toList y W;simp_all
 |some cv=>
  obtain⟨C,k,vs,t,rfl,hC,E,hv⟩:=D cv W;refine PySem.W.kla_makeFunctionHit (mg:=X.mg) Vl I.ok.glob hg hc Cs hP y W U λg h m hk aF=>?_;have M:Inv X Og σ H {s with heap:=h,toks:=m}:=I.kept (t':=m) hk;have Z:H h.objs.size=none:=M.hok.fresh<|Po _;have I3:=M.laid (a:=h.objs.size) (o:=dm h.objs.size<|SX "<lambda>" (X.env.qual++"<lambda>") p B a f ((X.mg "__name__").getD .none) C g) (h':=h.push<|SX "<lambda>" (X.env.qual++"<lambda>") p B a f ((X.mg _).getD _) C g) (t':=m)
   (λb u e=>PH _ e) (Po _) (kL<|Qh _ rfl)
  have l:∀b u,H b=gV u->upd H _ (dm h.objs.size<|SX "<lambda>" (X.env.qual++"<lambda>") p B a f ((X.mg "__name__").getD .none) C g) b=gV u:=λb u e=>by
   rwa[af<|ag e Z]
  refine⟨.ref _,_,I3,rfl,hq _ _ Z (λb u V e=>l _ _ e) ⟨j,l _ _ hT,y,λcv e=>(D cv e).mono λb o q=>l _ _ q⟩ ⟨_,g,C,aa,⟨C,k,vs,t,rfl,l _ _ hC,E,hv⟩⟩⟩
abbrev dU:=ab<|C'×Obj
noncomputable def jx(H:Hp)(c:dU):Hp:=λb=>match c.lookup b with
 |some o=>gV<|dm b o
 |none=>H b
noncomputable def less(H:Hp)(c:dU):Hp:=λb=>match c.lookup b with
 |some _=>Pt
 |none=>H b
theorem ie(e:c.lookup b=gV o):jx H c b=gV (dm b o):=by unfold jx;rw[e]
theorem a_(e:c.lookup b=Pt):jx H c b=H b:=by unfold jx;rw[e]
theorem kM(e:c.lookup b=gV o):less H c b=none:=by unfold less;rw[e]
theorem bM(e:c.lookup b=Pt):less H c b=H b:=by unfold less;rw[e]
theorem aU(c:dU)(b:C'):c.lookup b=Pt\/∃o,c.lookup b=gV o:=by
 cases e:c.lookup b with
 |none=>exact .inl rfl
 |some o=>exact .inr ⟨o,rfl⟩
theorem Aw(h:∀b o,c.lookup b=gV o->H b=Pt):Same H (jx H c):=λb u e=>by
 obtain q|⟨o,q⟩:=aU c b
 ·rwa[a_ q]
 rw[h b o q]at e;cases e
theorem qK:Same (less H c) H:=λb u e=>by
 obtain q|⟨o,q⟩:=aU c b
 ·rwa[bM q]at e
 rw[kM q]at e;cases e
theorem Ax(h:∀b o,c.lookup b=gV o->H b=gV (dm b o))(k:Same (less H c) a):Same H (jx a c):=λb u e=>by
 obtain q|⟨o,q⟩:=aU c b
 ·rw[a_ q];exact k _ _ (by rwa[bM q])
 rwa[ie q,<-h b o q]
theorem C1(h:∀b o,c.lookup b=gV o->H b=Pt)(k:Same (jx H c) a):Same H (less a c):=λb u e=>by
 obtain q|⟨o,q⟩:=aU c b
 ·rw[bM q];exact k _ _ (by rwa[a_ q])
 rw[h b o q]at e;cases e
def KL(P:PU)(w:Qc)(K:J')(m:Str->M' Pm)(b:QB)(k:Nat)(f:C')(p:Sp):Prop:=
 ∀(A:Q0) (o:ab Env) (s:PF) (H:Hp) (u:ab Pm) (v:ab V) (Q:VK) (E:XK),Room k A->Env0 P w K m b A o s H->Vals v u->p v H Q E->
  codeAny (Qj P w) A (.call (.ref f) ⟨u,[]⟩) (CR aV o P w H s Q E) s
section
variable {X:Cx}{k:Nat}{f:C'}{fd:PR}{sp:Sp}{x:Str}{p pos:Pos}{e:QS}{es:ab QS}{t:TA}
theorem GJ{Og:ab (C'×Obj)}{σ:St}{H:Hp}{s:PF}{Q:VK}{m:ab Pm}{M:ab V}(F:ay X.prog X.w X.K X.mg X.base aV k f fd ps sp)(hr:Room k X.A)(hb:Binds X.K fd ps [])
  (I:Inv X Og σ H s) (r:Vals M m) (c:dU) (P:∀x,X.fn x=Pn) (w:∀b o,c.lookup b=gV o->(∃x,X.env.cells.lookup x=gV b)/\s.heap.get? b=gV o)
  (h:sp M (jx H c) (λv H2=>Q v<|less H2 c) E0):wpAny (Qj X.prog X.w) X.A (call (.ref f) m) (EP X Og σ Q) X.xe s:=by
 have N:∀b o,c.lookup b=gV o->H b=none:=λb o q=>by
  obtain⟨⟨x,a⟩,_⟩:=w b o q;exact I.freeC x b a
 have B:∀b o,c.lookup b=gV o->X.s₀.heap.objs.size<=b:=λb o q=>by
  obtain⟨⟨x,a⟩,_⟩:=w b o q;exact I.ok.cab x b (P x) a
 have T:∀b o,X.base.get? b=gV o->c.lookup b=none:=λb o q=>by
  obtain z|⟨O,z⟩:=aU c b
  ·exact z
  exact absurd (QH (QH (P0 q) I.ok.bsz)<|B b O z)<|Sa _
 have C:∀b∈vP X.stack,c.lookup b=none:=λb q=>by
  obtain z|⟨O,z⟩:=aU c b
  ·exact z
  obtain⟨⟨x,a⟩,_⟩:=w b O z;obtain e|i:=P_.mp (I.stkSub b q)
  ·exact absurd e<|I.cne x b a
  obtain⟨_,o,ho,_⟩:=I.ok.funs.mem i;exact absurd (QH (P0 ho)<|B b O z)<|Sa _
 have U:∀b u,H b=gV u->c.lookup b=none:=λb u q=>by
  obtain z|⟨O,z⟩:=aU c b
  ·exact z
  simp_all
 have W:HOk X.prog X.w (jx H c) s.heap:=λb u q=>by
  obtain z|⟨o,z⟩:=aU c b
  ·rw[a_ z]at q;refine(I.hok b u q).stay (λ_ _ _ y=>y) (λd y=>?_) λd Y y=>?_
   ·rw[a_<|U d _ y];exact y
   rw[a_<|U d _ y];exact y
  rw[ie z]at q;cases q;exact kL (w b o z).2
 have E:=I.env0;have e1:Env0 X.prog X.w X.K X.mg X.base X.A X.stack s (jx H c):=
  ⟨E.frames,E.mod,λb o q=>⟨(E.bs b o q).1,by rw[a_<|T b o q];exact(E.bs b o q).2⟩,E.bsz,E.funs,λb q=>by rw[a_<|C b q];exact E.frf b q,W,E.bare⟩
 have hl:m.length=ps.length:=by rw[<-r.length];exact F.len _ _ _ _ h
 have i:=hb s m I.kIn (by rwa[QN]);rw[QN]at i;refine Zt<|Vs (F.run X.A _ s _ _ m M _ E0 hr e1 i r h) λr s' D=>?_;cases r with
 |error e=>exact Rt D
 |ok fl=>
  cases fl with
  |next=>exact Rt D
  |brk=>exact Rt D
  |cont=>exact Rt D
  |ret u=>
   obtain⟨v,L,os,G,l,J,rv,q⟩:=D;obtain⟨Z,g,d,tk,ac⟩:=s';obtain rfl:ac=s.os:=os;have A:=λb o z=>l.frzs b o _ (by rw[ie z];rfl);have am:Un (vP X.stack) [] H (less L c) s.heap Z:=by
    refine⟨λb o e n j a=>?_,λb o e n j a=>?_,λb o e n a=>?_,λb o e a=>l.there b o e a,λb Y e=>?_,λb o u e=>?_,λb qs e=>?_⟩
    ·obtain z|⟨O,z⟩:=aU c b
     ·exact l.keep b o e (by rwa[a_ z]) j a
     have e2:=(w b O z).2;rw[e]at e2;cases e2;exact gv J<|A b o z
    ·exact l.slot b o e (by rwa[a_<|C b j]) j a
    ·obtain z|⟨O,z⟩:=aU c b
     ·rw[bM z];exact l.free b o e (by rwa[a_ z]) a
     exact kM z
    ·rw[bM<|U b _ e];exact l.tups b Y (by rwa[a_<|U b _ e])
    ·rw[bM<|U b _ e];exact l.frzs b o u (by rwa[a_<|U b _ e])
    rw[bM<|U b _ e];exact l.tbls b qs (by rwa[a_<|U b _ e])
   have an:HOk _ X.w (less L c) Z:=λb u e=>by
    have e':=qK _ _ e;refine(J b u e').stay (λ_ _ _ y=>y) (λd y=>?_) λd Y y=>?_
    ·obtain z|⟨O,z⟩:=aU c d
     ·rwa[bM z]
     rw[A d O z]at y;cases y
    obtain z|⟨O,z⟩:=aU c d
    ·rwa[bM z]
    rw[A d O z]at y;cases y
   exact⟨v,_,I.call am an G (λb z=>by simp_all),rv,q⟩
def yr(X:Cx)(a:St)(n:ab Str)(c:dU):Prop:=
 Paired (λ(y:Str) (q:C'×Obj)=>X.env.cells.lookup y=gV q.1/\∃u,q.2.data=.cell (gV u)/\∀(i:Nat) (v:V),X.N[i]?=gV y->a[i]?=gV (gV v)->RelV v u) n c
theorem uT(I:Inv X Z w H s):∀n:ab Str,(∀y∈n,X.env.kindOf y=gV .cell/\∃(i:Nat) (v:V),X.N[i]?=gV y/\w[i]?=gV (gV v))->
  ∃C:dU,yr X w n C/\∀q∈C,(∃y,X.env.cells.lookup y=gV q.1)/\s.heap.get? q.1=gV q.2
 |[],_=>⟨[],.nil,λq a=>absurd a<|by simp⟩
 |y::n,h=>by
  obtain⟨C,M,N⟩:=uT I n λz O=>h z<|P1 _ O;obtain⟨F,i,v,A,B⟩:=h y P3;obtain⟨m,hn,P⟩:=I.loc;have D:LX _ y:=.inr<|.inl F;have look:∀(i:Nat) (v:V),X.N[i]?=gV y->w[i]?=gV _->∃u,RelV v u/\∃c,X.env.cells.lookup y=gV c/\s.heap.IsCell c _:=λi v A B=>by
   obtain⟨u,r,l⟩:=P i y v A B D;obtain⟨G,x⟩|⟨x,c,E,Q⟩:=l
   ·rw[F]at G;cases G
   exact⟨u,r,c,E,Q⟩
  obtain⟨u,r,c,E,o,J,L⟩:=look i v A B;refine⟨(c,o)::C,.cons ⟨E,u,L,λj T U W=>?_⟩ M,λq a=>?_⟩
  ·obtain⟨u',Y,c',b,o',d,g⟩:=look j T U W;simp_all
  obtain rfl|a:=P_.mp a
  ·exact⟨⟨y,E⟩,J⟩
  exact N q a
theorem mS:∀{c:dU} {b:C'} {o:Obj},c.lookup b=gV o->(b,o)∈c
 |[],_,_,e=>by simp at e
 |(a,O)::c,b,o,e=>by
  rw[SI]at e;cases h:(b == a)with
  |true=>
   simp_all
  |false=>
   rw[h]at e;exact P1 _<|mS e
inductive C2 (X:Cx)(names:ab Str)(sp:Sp)(a:St)(vs:ab V)(H:Hp)(Q:VK):Prop
 |mk (has:∀y∈names,∃(i:Nat) (v:V),X.N[i]?=gV y/\a[i]?=gV (gV v)) (q:∀cs:dU,yr X a names cs->(∀b o,cs.lookup b=gV o->H b=Pt)->sp vs (jx H cs) (λv h=>Q v<|less h cs) E0)
def C3(X:Cx)(n:ab Str)(sp:Sp)(t:TA):TE:=λa H Q=>t a H λv h=>C2 X n sp a v h Q
theorem C4{P:ab Str}{n:ab Str}(F:ay X.prog X.w X.K X.mg X.base aV k f fd P sp)(j:Room k X.A)(l:Gl X x)(m:X.mg x=gV (.ref f))(u:RF X.K (.ref f)=Pn)(v:Binds X.K fd P [])
  (w:PA X (e::es) t) (c:∀x,X.fn x=Pn) (A:∀y∈n,X.env.kindOf y=gV .cell) (d:(x == ("__debug__":Str))=false:=by decide) (T:Qk (e::es) X.env=(Pr,RU e X.env)::Qk es X.env:=by rfl) (D:(SW pos<|Qk es X.env).any (·.1)=false:=by rfl):
  PE X (.Call (.Name x p) (e::es) [] pos) (C3 X n sp t):=by
 intro O s E H Q I h;refine RA<|nj I l m (Vi I.ok.mod.kin u (bC (w pos O s E H _ I h) λU G Z=>?_) T D) d;obtain⟨M,N,i,r,B,q⟩:=Z;refine ⟨i.kIn,?_⟩;obtain⟨C,J,L⟩:=uT i n λy a=>⟨A y a,B y a⟩;have g:∀b o,C.lookup b=gV o->(∃x,X.env.cells.lookup x=gV b)/\G.heap.get? b=gV o:=λb o z=>L _<|mS z;exact GJ F j v i r C c g (q C J λb o z=>by
  obtain⟨⟨y,a⟩,Y⟩:=g b o z;exact i.freeC y b a)
inductive wJ (X:Cx)(k:Nat)(f:C')(vs:ab V)(H:Hp)(Q:VK):Prop
 |mk (sp:Sp)(o:Obj)(fd:PR)(F:KL X.prog X.w X.K X.mg X.base k f sp)(h:H f=gV (dm f o))(d:o.data=.func fd)(q:sp vs H Q E0)
def KM(X:Cx)(k i:Nat)(t:TA):TE:=λa H Q=>∃f,a[i]?=gV (gV<|.ref f)/\t a H λv h=>wJ X k f v h Q
theorem C5(h:QB)(x:∃o fd,h.get? f=gV o/\o.data=.func fd):∃k,(k=Keeper.frame\/k=Keeper.machine\/k=Keeper.boundFrame)/\PySem.W.Looks M h (PySem.keeperOf<|.ref f) k:=by
 obtain⟨o,fd,e,d⟩:=x;obtain⟨c,D,a,s⟩:=o;cases d;exact⟨.frame,.inl rfl,(afg e).andThen .now⟩
theorem C6(n:Room k X.A)(w:PA X (e::es) t)(N:X.N[i]?=gV x:=by rfl)(y:LX X.env.scope x:=by first|exact ZJ rfl|exact X' (ZJ rfl)|exact X'<|X' rfl)(A:(x == ("__debug__":Str))=false:=by decide)
  (d:(x == ("__classdict__":Str))=false:=by decide) (m:Qk (e::es) X.env=(Pr,RU e X.env)::Qk es X.env:=by rfl) (B:(SW pos<|Qk es X.env).any (·.1)=false:=by rfl):
  PE X (.Call (.Name x p) (e::es) [] pos) (KM X k i t):=by
 intro O s c H Q I ⟨f,E,h⟩;refine RA<|bC (BG N y A d O s c H (λv a=>v=.ref f/\t c a _) I ⟨.ref f,E,rfl,h⟩) λu C Z=>?_;obtain⟨v,D,G,J,L,M⟩:=Z;subst L;obtain rfl:u=QV f:=J;rw[m];refine PySem.W.callWith_of (by show((Pr || (SW pos<|Qk es _).any _) || Pr)=Pr;rw[B];rfl) C5<|UG ?_;have z:=w pos O C c D _ G M;rw[m]at z;refine bC z λU P V=>?_;obtain⟨g,a,j,r,sp,o,fd,F,T,l,q⟩:=V;refine ⟨⟨o,fd,gv j.hok T,l⟩,Zt<|Vs (F X.A _ P a U g Q E0 n j.env0 r q) λr Y b=>?_⟩;cases r with
 |error e=>exact Rt b
 |ok W=>
  cases W with
  |ret u=>exact j.after b
  |next=>exact Rt b
  |brk=>exact Rt b
  |cont=>exact Rt b
end
noncomputable def IQ(P:PU)(w:Qc)(K:J')(mg:Str->M' Pm)(base:QB)(N:ab Str)(q:Str)(e:T_)(f c:C')(C:ab (Str×C'))(A:Q0)(outer:ab Env)(s:PF)(H:Hp):Cx where
 prog:=P
 w:=w
 K:=K
 mg:=mg
 base:=base
 A:=A.deeper (WH q e s.heap.objs.size f (.ref c) C)
 N:=N
 s₀:=s
 H₀:=H
 env:=WH q e s.heap.objs.size f (.ref c) C
 outer:=outer
 stack:=WH q e s.heap.objs.size f (.ref c) C::outer
 ex:=[]
 calm:=Pn
 fn:=λ_=>Pr
 pn:=[]
 xe:=λ_ _=>False
structure uU (x:Str)(xs:ab Str)(sc:T_):Prop where
 kind:sc.kind=.function
 co:sc.isCoroutine=Pr
 gen:sc.isGenerator=Pr
 par:sc.names.lookup x=gV .local
 fr:∀y∈xs,sc.names.lookup y=gV .free
 all:∀y∈sc.names,y.2=.free->y.1∈xs
 nocell:∀y∈sc.names,y.2≠.cell
 nd:xs.Nodup
def CapAt(H:Hp)(c:dU)(W:ab V):Prop:=Paired (λ(p:C'×Obj) (v:V)=>H p.1=gV (dm p.1 p.2)/\∃u,p.2.data=.cell (gV u)/\RelV v u) c W
theorem CapAt.mono(x:CapAt H c v)(k:∀b o,H b=gV (dm b o)->h b=gV (dm b o)):CapAt h c v:=Paired.mapP x λy y z=>⟨k _ _ z.1,z.2⟩
theorem CapAt.look:∀{c:dU} {v:ab V},CapAt H c v->∀b o,c.lookup b=gV o->H b=gV (dm b o):=by
 intro c v h b o e;change Paired _ _ _ at h;induction h with
 |nil=>simp at e
 |@cons a _ c _ r t i=>
  obtain⟨a,O⟩:=a;rw[SI]at e;cases h:(b == a)with
  |true=>simp_all
  |false=>rw[h]at e;exact i e
theorem uV:∀{xs:ab Str} {c:dU} {f:ab V} {H:Hp} {j:Nat} {y:Str} {v:V},xs.Nodup->CapAt H c f->xs[j]?=gV y->f[j]?=gV v->∃b o u,(xs.zip (c.map (·.1))).lookup y=gV b/\H b=gV (dm b o)/\o.data=.cell (gV u)/\RelV v u
 |[],_,_,_,_,_,_,_,_,e,_=>by simp at e
 |_::_,_,_,_,_,_,_,_,.nil,_,e=>by simp at e
 |x::xs,(a,O)::c,w::f,H,0,y,v,_,.cons r _,g,i=>by
  simp at g i;subst g i;obtain⟨h,u,d,k⟩:=r;exact⟨a,O,u,by simp,h,d,k⟩
 |x::xs,(a,O)::c,w::f,H,j+1,y,v,n,.cons _ t,g,i=>by
  obtain⟨N,l⟩:=Q3.mp n;have E:xs[j]?=gV y:=by assumption
  obtain⟨b,o,u,z,r⟩:=uV l t E (by simpa using i);refine⟨b,o,u,?_,r⟩;have m:y≠x:=λq=>N<|q▸Pq E;show((x,a)::xs.zip _).lookup y=gV b
  rw[SI];have p:(y == x)=false:=by simpa using m
  rwa[p]
theorem yt:∀{xs:ab Str} {A:ab C'} {y:Str},xs.length<=A.length->y∈xs->∃c,(xs.zip A).lookup y=gV c
 |[],_,_,_,h=>by simp at h
 |_::_,[],_,h,_=>by simp at h
 |x::xs,a::A,y,H,h=>by
  show∃c,((x,a)::xs.zip A).lookup y=gV c
  rw[SI];cases b:(y == x)with
  |true=>exact⟨a,rfl⟩
  |false=>
   exact yt (Nat.le_of_succ_le_succ H)<|by simp_all
theorem yu{xs:ab Str}{C:dU}{y:Str}{c:C'}(e:(xs.zip (C.map (·.1))).lookup y=gV c):∃o,(c,o)∈C:=by
 have m:=(Va<|QZ e).2;simp_all
theorem qL:∀(xs:ab Str) (A:ab C'),A.Nodup->((xs.zip A).map (·.2)).Nodup
 |[],_,_=>by simp
 |_::_,[],_=>by simp
 |x::xs,a::A,h=>by
  obtain⟨H,c⟩:=Q3.mp h;refine Q3.mpr ⟨λm=>H ?_,qL xs A c⟩;obtain⟨⟨y,b⟩,d,rfl⟩:=Qe.mp m;exact(Va d).2
theorem mT:∀{c:dU} {b:C'} {o:Obj},(b,o)∈c->∃O,c.lookup b=gV O
 |[],_,_,h=>by simp at h
 |(a,d)::c,b,o,h=>by
  rw[SI];cases H:(b == a)with
  |true=>exact⟨d,rfl⟩
  |false=>
   have n:b≠a:=by simpa using H
   exact mT<|(P_.mp h).resolve_left λz=>n<|Qq rz z
inductive C7 (P:PU)(w:Qc)(K:J')(mg:Str->M' Pm)(base:QB)(k:Nat)(f:C')(qual:Str)(params:UP)(body:QS)(e:T_)(x:Str)(xs:ab Str)(vs:ab V)(H:Hp)(Q:VK):Prop
 |mk (v:V)(cs:dU)(W:ab V)(h0:vs=[v])(a:LamAt H f qual params body e (xs.zip (cs.map (·.1))))(b:CapAt H cs W)(d:xs.length=W.length)(g:(cs.map (·.1)).Nodup)
  (i:∀(c:C') (A:Q0) (outer:ab Env) (s:PF),Room k (A.deeper (WH qual e s.heap.objs.size f (.ref c) (xs.zip (cs.map (·.1)))))->
   ∃t,PE (IQ P w K mg base (x::xs) qual e f c (xs.zip (cs.map (·.1))) A outer s<|less H cs) body t/\t (gV v::W.map gV) (less H cs) (λu h=>Q u<|jx h cs)):C7 P w K mg base k f qual params body e x xs vs H Q
theorem paired_len{a b:Type}{F:a->b->Prop}:∀{l:ab a} {L:ab b},Paired F l L->l.length=L.length:=by
 intro l L h;induction h with
 |nil=>rfl
 |cons r t i=>rw[P4,P4,i]
theorem GK{P:PU}{w:Qc}{K:J'}{mg:Str->M' Pm}{T:QB}{k:Nat}{f:C'}{G:Str}{M:PySem.Arguments}{U:QS}{g:T_}{x:Str}{xs:ab Str}{sp:Sp}(S:uU x xs g)(a3:∀an pm am u c,Z8 (PySem.W.kla_fn "<lambda>" G M U g an pm (.ref c) am) ⟨[u],[]⟩=pure [(x,u)])
  (h:∀vs H Q E,sp vs H Q E->C7 P w K mg T k f G M U g x xs vs H Q):KL P w K mg T (k+1) f sp:=by
 intro A O s H us vs Q E hr D r a4;obtain⟨v,C,Vc,rfl,⟨pm,am,c,hf,c',oc,a5,tq,ec,hc,a6,hq⟩,Y,as,a7,R3⟩:=h vs H Q E a4;cases ec;obtain⟨u,rfl,ru⟩:=e_ r;have a8:C.length=Vc.length:=paired_len Y;have of:=gv D.hok hf;have a9:s.heap.CodeRec (.ref c) G:=⟨c,oc,a5,tq,rfl,gv D.hok hc,a6,hq⟩;have ba:s.heap.NoLimit:=D.mod.nolimit.keeps λb o e=>(D.bs b o e).1;refine PySem.W.kla_callFunE hr.depth of rfl S.co S.gen rfl a9 ?_;rw[show Z8 _ _=_ from a3 _ pm am u c];refine PY<|wpAny_newFunctionEnv S.nocell (λy Z=>?_) (λac bb av=>⟨ba.keeps λb o e=>?_,?_⟩) S.kind
 ·obtain rfl:y=(x,u):=Pw.mp Z;exact S.par
 ·exact av.extBut b o (Qa<|P0 e)<|PH _ e
 show codeAny _ _ (.expr U (WH G g s.heap.objs.size f (.ref c) (xs.zip (C.map (·.1))))) _ _
 have B:∀b o,s.heap.get? b=gV o->ac.get? b=gV o:=λb o e=>av.extBut b o (Qa<|P0 e)<|PH _ e;obtain⟨t,ht,bc⟩:=R3 c A O s<|hr.deeper _;have L:∀b o,C.lookup b=gV o->H b=gV (dm b o):=Y.look;have az:∀b o,(b,o)∈C->∃F,C.lookup b=gV F/\H b=gV (dm b F):=λb o m=>by
  obtain⟨F,e⟩:=mT m;exact⟨F,e,L b F e⟩
 have UP:∀b u,H b=gV u->(∀o,u≠dm b o)->C.lookup b=none:=λb u e n=>by
  obtain z|⟨o,z⟩:=aU C b
  ·exact z
  rw[L b o z]at e;cases e;exact absurd rfl<|n o
 have aC:∀b,H b=Pt->C.lookup b=none:=λb e=>by
  obtain z|⟨o,z⟩:=aU C b
  ·exact z
  rw[L b o z]at e;cases e
 have aF:HOk P w (less H C) s.heap:=λb u' e=>by
  have e':H b=gV u':=qK _ _ e;refine(D.hok b u' e').stay (λR R R y=>y) (λd y=>?_) λd zs y=>?_
  ·rw[bM<|UP d _ y λo z=>nomatch z];exact y
  rw[bM<|UP d _ y λo z=>nomatch z];exact y
 have bd:∀b,s.heap.objs.size<=b->less H C b=none:=λb N=>aF.fresh N;have W:∀b,H b=Pt->less H C b=none:=λb e=>by
  rw[bM<|aC b e];exact e
 have I:Inv (IQ P w K mg T (x::xs) G g f c (xs.zip (C.map (·.1))) A O s<|less H C) [] (gV v::Vc.map gV) (less H C) {s with heap:=ac,toks:=s.toks+[(x,u)].length}:=by
  refine⟨⟨D.mod,S.kind,rfl,rfl,Po _,λy z c h1 h2=>?_,λy Z=>?_,λy c hz=>absurd (show Pr=Pn from hz) Pk,λR=>hr.hd,YO D.frames,.inr ⟨rfl,rfl⟩,λb z=>absurd (show b∈([]:ab C')from z) (by simp),λb o e=>⟨(D.bs b o e).1,W b (D.bs b o e).2⟩,D.bsz,λb R R z=>absurd (show b∈([]:ab C')from z) (by simp),λb z=>absurd (show b∈([]:ab C')from z) (by simp),D.funs,λb N=>W b<|D.frf b N⟩,
   rfl,D.bare,Un.kept B,⟨_,bb,λi y v' h1 h2 h3=>?_⟩,λy c h=>?_,bd _<|Po _,λy c h=>?_,λp hp=>absurd (show p∈([]:ab (C'×Obj))from hp) (by simp),aF.kept B,?_⟩
  ·exact Z7 (QU.mp<|qL xs _ a7) (QZ h1)<|QZ h2
  ·have Z:g.names.lookup y=gV .cell\/g.names.lookup y=gV .free:=Z;obtain Z|Z:=Z
   ·exact absurd rfl<|S.nocell _<|QZ Z
   exact yt (by rw[A',a8,as];exact Po _)<|S.all _ (QZ Z) rfl
  ·replace h1:(x::xs)[i]?=gV y:=h1;cases i with
   |zero=>
    simp at h1 h2;subst h1 h2;exact⟨u,ru,.inl ⟨S.par,by simp⟩⟩
   |succ j=>
    have aL:xs[j]?=gV y:=by simpa using h1
    have bf:Vc[j]?=gV v':=by
     have q:(Vc.map gV)[j]?=gV (gV v'):=by simpa using h2
     rw[PN]at q;obtain⟨a,ha,e⟩:=Qn.mp q;cases e;exact ha
    obtain⟨b,o,u',z1,z2,z3,z4⟩:=uV S.nd Y aL bf;exact⟨u',z4,.inr ⟨.inr<|S.fr y<|Pq aL,b,z1,o,B _ _<|gv D.hok z2,z3⟩⟩
  ·obtain⟨o,m⟩:=yu h;obtain⟨F,e,z⟩:=az c o m;have cd:∃u,F.data=.cell (gV u):=by
    have bg:∀{l:dU} {cp:ab V},CapAt H l cp->∀b o,l.lookup b=gV o->∃u,o.data=.cell (gV u):=by
     intro l
     induction l with
     |nil=>intro cp R b o e;simp at e
     |cons a l ih=>
      intro cp hc b o e;cases hc with
      |cons r t=>
       obtain⟨a1,a2⟩:=a;rw[SI]at e;cases N:(b == a1)with
       |true=>
        rw[N]at e;cases e;obtain⟨R,u,d,R⟩:=r;exact⟨u,d⟩
       |false=>
        rw[N]at e;exact ih t b o e
    exact bg Y c F e
   obtain⟨u',d'⟩:=cd;exact⟨gV u',F,B _ _<|gv D.hok z,d'⟩
  ·obtain⟨o,m⟩:=yu h;obtain⟨F,e,z⟩:=az c o m;exact kM e
  show(gV v::Vc.map gV).length=(x::xs).length
  rw[P4,P4,A',as]
 refine PySem.W.kla_codeExpr<|RT (ht [] _ _ _ _ I bc) (λu2 s' hs=>?_) λe s' hs=>Rt hs;obtain⟨v2,H',J,rv,q⟩:=hs;have X:Un (vP O) [] (less H C) H' s.heap _:=J.base;have bk:=λb o e n N=>X.keep b o e (W b n) N (by show b∉([]);simp);have bl:=λb o z=>by
  refine X.keep b o (gv D.hok<|L b o z) (kM z) (λN=>?_) (by show b∉([]);simp);have y:=D.frf b N;rw[L b o z]at y;cases y
 have a0:=λb o z=>X.free b o (gv D.hok<|L b o z) (kM z) (by simp);refine⟨v2,jx H' C,J.os,J.bare,⟨λb o e n N hx=>bk b o e n N,λb o e n N hx=>X.slot b o e (W b n) N hx,λb o e n hx=>?_,λb o e hx=>X.there b o e hx,λb zs e=>?_,λb o z e=>?_,λb qs e=>?_⟩,λb u' e=>?_,rv,q⟩
 ·rw[a_<|aC b n];exact X.free b o e (W b n) hx
 ·have z:=UP b _ e λo z=>nomatch z
  rw[a_ z];exact X.tups b zs (by rwa[bM z])
 ·obtain y|⟨F,y⟩:=aU C b
  ·rw[a_ y];exact X.frzs b o z (by rwa[bM y])
  rwa[ie y,<-L b F y]
 ·have z:=UP b _ e λo z=>nomatch z
  rw[a_ z];exact X.tbls b qs (by rwa[bM z])
 obtain y|⟨F,y⟩:=aU C b
 ·rw[a_ y]at e;refine(J.hok b u' e).stay (λR R R y=>y) (λd y'=>?_) λd zs y'=>?_
  ·obtain z|⟨F,z⟩:=aU C d
   ·rwa[a_ z]
   rw[a0 d F z]at y';cases y'
  obtain z|⟨F,z⟩:=aU C d
  ·rwa[a_ z]
  rw[a0 d F z]at y';cases y'
 rw[ie y]at e;cases e;exact kL<|bl b F y
theorem KN{X:Cx}{j:Nat}{k:Nat}{f:C'}{F:PR}{a:ab Str}{s:Sp}{x:Str}{p:Pos}{P:Pos}{e:QS}{E:ab QS}{t:TA}(n:ab Str)(G:Fn X.prog X.w X.K X.mg X.base j x f F a s)(r:Room k X.A)(h:j<=k)(g:Gl X x)(H:∀x,X.fn x=Pn)(v:∀y∈n,X.env.kindOf y=gV .cell)(c:PA X (e::E) t)(b:(x == ("__debug__":Str))=false:=by decide)
  (d:Qk (e::E) X.env=(Pr,RU e X.env)::Qk E X.env:=by rfl) (u:(SW P<|Qk E X.env).any (·.1)=false:=by rfl):
  PE X (.Call (.Name x p) (e::E) [] P) (C3 X n s t):=C4 G.ok (r.mono h) g G.at_ G.kp G.b c H v b d u
structure FunL (K:J')(x qual:Str)(st:QW)(f:C')(fd:PR)(c:C'):Prop where
 ex:∃(oc:Pm) (od:M' C') (kV Z0 pm:Pm) (an:M' C') (ct:Pm) (osl:RW (M' Pm)),
  fd=SO x qual (fz st) (cP st) (aA st) .none kV Z0 pm an (.ref c) ct/\K.lookup f=gV ⟨oc,od,.func fd,osl⟩/\Vv K (.ref c) qual=Pn
section
variable {K:J'}
theorem FunL.ok{P:PU}{w:Qc}{M:Str->M' Pm}{b:QB}{x l:Str}{st:QW}{f c:C'}{i:PR}{N p:ab Str}{k:Nat}{a:Sp}(F:FunL K x l st f i c)(S:eH N p (aA st))(m:∀v H Q E,a v H Q E->v.length=p.length)
  (d:∀A o s H v Q E,Room k (A.deeper<|Rr l (aA st) s.heap.objs.size f<|.ref c)->a v H Q E->
   ∃t,PSs (rM aV P w K M b N l (aA st) f (.ref c) A o s H E).nox (cP st) t/\t {nx:=λY j=>Q .non j,rt:=Q} (start N v) H):ay P w K M b aV (k+1) f i p a:=by
 obtain⟨n,u,kV,Z,y,z,C,O,rfl,L,e⟩:=F.ex;refine Iu L e S m λA o s H v Q E r g=>?_;obtain⟨t,h,q⟩:=d A o s H v Q E r g;exact⟨t,h.nox,q⟩
theorem FunL.toFun{x q:Str}{st:QW}{f c:C'}{d:PR}(F:FunL K x q st f d c)(k:RF K (.ref f)=Pn):Fun K x q st f d:=by
 obtain⟨O,a,kV,Z,p,A,C,o,e,l,h⟩:=F.ex;exact⟨⟨O,a,kV,Z,p,A,.ref c,C,o,e,l,h⟩,k⟩
end
def IR(o:Obj)(T:C'):Prop:=∃(v:RW Pm) (a:Str) (t:Tok) (A:Int) (g:Tok) (i:Px) (D:Int) (b:Tok),o.cls=.type "code"/\o.data=.fields v/\v[11]?=gV (.ref T)/\v.getD 11 .none=.ref T/\v.getD 18 .none=.str a t/\
  v.getD 7 .none=.int A g/\v.getD 9 .none=.bool i/\v.getD 10 .none=.int D b
theorem qM{K:J'}{h:QB}{c T:C'}{o:Obj}(X:K.In h)(l:K.lookup c=gV o)(p:IR o T)(n:c≠T):T3 h c T:=by
 obtain⟨v,a,t,A,g,i,N,b,H,d,e,f,j,k,m,q⟩:=p;exact⟨o,v,a,t,A,g,i,N,b,X _ _ l,H,d,e,f,j,k,m,q,n⟩
def BM(m:Str->M' Pm)(h:QB):Prop:=∃b o,m "__builtins__"=gV (.ref b)/\b≠V2/\h.get? b=gV o/\o.cls=.type "module"/\o.dict=gV V2/\o.data=.plain
theorem Ay{P:PU}{w:Qc}{K:J'}{y mb:Str->M' Pm}{k:Nat}{fa a:C'}{fd:PR}{x:Str}{sp:Sp}{f:PF}{i:ab Pm}{E:ab Int}(t:ab C')
  (KX:K.In f.heap) (G:f.heap.Ns Qr y) (g:f.heap.Ns V2 mb) (ac:∀x:Str,x≠"__name__"->mb x=Vu x) (am:BM y f.heap) (an:f.heap.NoLimit) (hg:f.gens=#[])
  (I:f.heap.get? a=gV {cls:=.type "list",data:=.seq i.toArray}) (hi:TR i E) (hl:E.length<=sizeLine) (hr:Room k Y7)
  (hT:∀T∈t,f.heap.get? T=gV (UE #[])) (as:∀T∈t,K.lookup T=Pt) (av:∀T∈t,∃c,T3 f.heap c T)
  (F:∀B:QB,K.In B->B.Ns Qr y->BM y B->ay P w K y B aV k fa fd [x] sp) (az:∀(s:PF) (u:Pm),lA s fd ⟨[u],[]⟩ [(x,u)])
  (aC:∀H:Hp,(∀T∈t,H T=gV (.tbl #[]))->SqL K H a (E.map V.int)->sp [.ref a] H (λv _=>v=.bl Pn) λ_ _ _=>False):
  codeAny (Qj P w) Y7 (.call (.ref fa) ⟨[.ref a],[]⟩) (λr l=>r=.ok (.ret<|.bool Pn)/\OldK f.heap l.heap/\l.os=f.os/\Xj l.gens) f:=by
 have rv:=jj hi;have aF:=hi.length;have N:∀T∈t,T≠a:=λT h z=>by
  have e:=hT T h;rw[z,I]at e;cases e
 have J:∀H:Hp,(∀b,H b≠Pt->b∈t\/b=a)->(∀T∈t,H T=gV (.tbl #[]))->(∀u,H a=gV u->∃o,u=.frz o (.lst<|E.map V.int))->SqL K H a (E.map V.int)->HOk P w H f.heap->(H a≠Pt->K.lookup a=Pt)->
   codeAny (Qj P w) Y7 (.call (.ref fa) ⟨[.ref a],[]⟩) (λr l=>r=.ok (.ret<|.bool Pn)/\OldK f.heap l.heap/\l.os=f.os/\Xj l.gens) f:=by
  intro H hA L aL hS O hK;have A:∀{b:C'} {o:Obj},f.heap.get? b=gV o->H b=Pt->(qh f.heap H).get? b=gV o:=λe n=>BF e n;have Q:∀{b:C'} {o:Obj},f.heap.get? b=gV o->(∀i n,o.data≠.seq i n)->(∀i,o.data≠.fields i)->H b=none:=λ{b o} e d1 d2=>by
   cases q:H b with
   |none=>rfl
   |some u=>
    obtain h|h:=hA b (by rw[q];simp)
    ·rw[hT b h]at e;cases e;exact absurd rfl<|d2 _
    subst h;rw[I]at e;cases e;exact absurd rfl<|d1 _ _
  have p:∀{b:C'} {m:Str->M' Pm},f.heap.Ns b m->(qh f.heap H).Ns b m:=λ{b m} ⟨o,es,ep,e,d,r⟩=>⟨o,es,ep,A e (Q e (λi n z=>by rw[d]at z;cases z) λi z=>by rw[d]at z;cases z),d,r⟩;have U:K.In (qh f.heap H):=λb o e=>A (KX b o e) (by
   cases q:H b with
   |none=>rfl
   |some u=>
    obtain h|h:=hA b (by rw[q];simp)
    ·rw[as b h]at e;cases e
    subst h;rw[hK<|by rw[q];simp]at e;cases e)
  have a0:BM y (qh f.heap H):=by
   obtain⟨bm,ob,b1,b2,b3,b4,b5,b6⟩:=am;exact⟨bm,ob,b1,b2,A b3 (Q b3 (λi n z=>by rw[b6]at z;cases z) λi z=>by rw[b6]at z;cases z),b4,b5,b6⟩
  have hM:Mod K y (qh _ H):=⟨U,p G,⟨mb,p g,ac⟩,let ⟨mc,h1,h2⟩:=an;⟨mc,p h1,h2⟩⟩;have e0:Env0 P w K y (qh _ H) Y7 [] f H:=⟨rfl,hM,λb o e=>FP e,VC<|zQ _ _,trivial,λb g=>absurd (show b∈([])from g) (by simp),O,.of_eq hg⟩;refine Vs ((F _ U (p G) a0).run Y7 [] f H _ [.ref a] [.ref a] _ _ hr e0 (az f<|.ref a) (.cons rfl .nil)<|aC H L hS) λr l h=>?_;cases r with
  |error e=>exact Rt h
  |ok fl=>
   cases fl with
   |next=>exact Rt h
   |brk=>exact Rt h
   |cont=>exact Rt h
   |ret u=>
    obtain⟨v,H',os,W,un,X,r',q⟩:=h;have q':v=.bl _:=q;subst q';obtain rfl:u=ZA _:=r';have Y:∀b o,f.heap.get? b=gV o->l.heap.get? b=gV o\/(b∈t/\o=UE #[]/\∃M,l.heap.get? b=gV (UE M)):=λb o e=>by
     cases q:H b with
     |none=>exact .inl (un.keep b o e q (by intro z;exact absurd (show b∈([])from z)<|by simp)<|by simp)
     |some u=>
      obtain z|z:=hA b (by rw[q];simp)
      ·obtain⟨M,D⟩:=un.tbls b #[]<|L b z;rw[hT b z]at e;cases e;exact .inr ⟨z,rfl,_,X b _ D⟩
      subst z;obtain⟨ob,rfl⟩:=aL u q;have D:=un.frzs b ob _ q;obtain⟨e1,_⟩:=O b _ q;obtain⟨e2,_⟩:=X b _ D;rw[e]at e1;cases e1;exact .inl e2
    refine⟨rfl,⟨λb o e=>?_,λb o e=>?_⟩,os,W⟩
    ·obtain z|⟨g,rfl,M,z⟩:=Y b o e
     ·exact .inl z
     obtain⟨c,C⟩:=av b g;exact .inr<|.inl ⟨(C.tab<|hT b g).isCodeTable,rfl,#[],M,rfl,by rw[z];simp⟩
    obtain z|⟨_,_,M,z⟩:=Y b o e
    ·exact⟨o,z⟩
    exact⟨_,z⟩
 cases hk:K.lookup a with
 |some o=>
  have e:=KX a o hk;rw[I]at e;cases e;refine J (λb=>if b∈t then gV _ else Pt) (λb z=>?_) (λT h=>PP h) (λu z=>?_) (.inr ⟨_,i.toArray,_,hk,rfl,rfl,rfl,by rwa[P2,aF],by simpa using rv⟩) (λb u z=>?_) λz=>?_
  ·by_cases g:b∈t
   ·exact .inl g
   exact absurd (PM g) z
  ·have Z:=(PM λh=>N a h rfl).symm.trans z;cases Z
  ·by_cases g:b∈t
   ·have Z:=(PP g).symm.trans z;cases Z;exact hT b g
   have Z:=(PM g).symm.trans z;cases Z
  ·exact absurd (PM λh=>N a h rfl) z
 |none=>
  refine J (λb=>if b∈t then gV _ else if b=a then gV (.frz {cls:=.type "list",data:=.seq i.toArray}<|.lst<|E.map _)else Pt) (λb z=>?_) (λT h=>PP h) (λu z=>?_)
   (.inl<|.inr ⟨{cls:=.type _,data:=.seq _},(PM λh=>N a h rfl).trans<|PP rfl⟩) (λb u z=>?_) λ_=>hk
  ·by_cases g:b∈t
   ·exact .inl g
   by_cases j:b=a
   ·exact .inr j
   exact absurd ((PM g).trans<|PM j) z
  ·have Z:=((PM λh=>N a h rfl).trans<|PP rfl).symm.trans z;cases Z;exact⟨_,rfl⟩
  by_cases g:b∈t
  ·have Z:=(PP g).symm.trans z;cases Z;exact hT b g
  have Z:=(PM g).symm.trans z;by_cases j:b=a
  ·have D:=(PP j).symm.trans Z;cases D;subst j;exact⟨I,by rwa[A'],i,_,rv,I⟩
  have D:=(PM j).symm.trans Z;cases D
theorem walk_ofT{l:XW}{n k:Nat}{q:PU}{loose:ab Str}{X:(Str->M' Pm)->QB->Prop}{z:Qc->QB->Prop}{d:DefRec}{K:l'->J'}{B:Qc->Sp}{x:Str}(t:ab C')
  (I:l.most=gV n) (g:n<=sizeLine) (i:d.params.defaults=[]) (J:Room k Y7)
  (M:∀(w:Qc) (h:QB),z w h->(K w.params).In h/\∀T∈t,h.get? T=gV (UE #[])) (j:∀P:l',(t.all λT=>((K P).lookup T).isNone)=Pn)
  (F:∀(w:Qc) (m:Str->M' Pm) (e:C') (h:QB),(K w.params).In h->h.Ns Qr m->m d.name=gV (.ref e)->
   ∃p:PR,(∀(s:PF) (u:Pm),lA s p ⟨[u],[]⟩ [(x,u)])/\(∀T∈t,∃c,T3 h c T)/\
    ∀b:QB,(K w.params).In b->b.Ns Qr m->BM m b->ay l.prog w (K w.params) m b aV k e p [x] (B w))
  (r:∀(w:Qc) (H:Hp) (a:C') (N:ab Int),N.length<=n->(∀T∈t,H T=gV (.tbl #[]))->SqL (K w.params) H a (N.map V.int)->B w [.ref a] H (λv S=>v=.bl Pn) λS S S=>False):
  va q loose X z l.row.toRowW d [] (λf C=>Zx f C):=by
 refine Att.attach_call I i λw D E m mb e o pm cd ZA a C N G Y ho hd O y A L Q U=>?_;obtain⟨KX,hT⟩:=M w _ Y;obtain⟨p,W,Z,hF⟩:=F w m e _ KX G.T.g y;exact Ay t KX G.T.g G.T.b G.T.builtins G.T.bmain G.T.nolimit U A L (QF Q g) J hT (λT h=>Option.isNone_iff_eq_none.mp<|Qv.mp (j _) T h) Z hF W λH h1 h2=>r w H a N Q h1 h2
noncomputable def OP:QS:=.Constant .none 0 ⟨0,0,0,0⟩
noncomputable def OQ:ab QW->QS
 |.Return (gV e) _::_=>e
 |_=>OP
noncomputable def OR:QS->Nat->QS
 |.Call _ e _ _,i=>e.getD i OP
 |_,_=>OP
noncomputable def KO:QS->UP
 |.Lambda a _ _ _=>a
 |_=>{posonlyargs:=[],args:=[],vararg:=Pt,kwonlyargs:=[],kw_defaults:=[],kwarg:=Pt,defaults:=[]}
noncomputable def KP:QS->QS
 |.Lambda _ b _ _=>b
 |e=>e
noncomputable def KQ:QS->T_
 |.Lambda _ _ s _=>s
 |_=>{kind:=.function,names:=[],isGenerator:=Pr,isCoroutine:=Pr}
noncomputable def OS:QS->Pos
 |.Lambda _ _ _ p=>p
 |_=>⟨0,0,0,0⟩
theorem Off.same(k:Off T H h)(a:Same h c):Off T H c:=λb o n e=>a _ _<|k b o n e
theorem Off.at_(k:Off T H h)(t:TabAt H T P q)(e:H b=gV o)(n:∀p,o≠.tbl p):h b=gV o:=by
 refine k b o (λz=>?_) e;obtain⟨p,E,y⟩:=t;grind
theorem CapAt.less(c:CapAt H C v)(e:H b=gV u)(n:∀o,u≠dm b o):less H C b=gV u:=by
 obtain z|⟨o,z⟩:=aU C b
 ·rwa[bM z]
 rw[c.look b o z]at e;grind
mutual
theorem r_(k:∀b X,H b=gV (.lst X)->g b=gV (.lst X))(t:∀b X,H b=gV (.tup X)->g b=gV (.tup X)):∀d v,RD H d v->RD g d v
 |.none,v,h=>by unfold RD at h ⊢;exact h
 |.bool b,v,h=>by unfold RD at h ⊢;exact h
 |.int i,v,h=>by unfold RD at h ⊢;exact h
 |.str x,v,h=>by unfold RD at h ⊢;exact h
 |.list D,v,h=>by
  obtain⟨a,X,e,c,f⟩:=fb h;subst e;exact gk (k _ _ c)<|oZ k t D X f
 |.tuple D,v,h=>by
  obtain⟨a,X,e,c,f⟩:=aj h;subst e;exact bo (t _ _ c)<|oZ k t D X f
 |.dict _,v,h=>by
  unfold RD at h;exact h.elim
theorem oZ(k:∀b xs,H b=gV (.lst xs)->a b=gV (.lst xs))(t:∀b xs,H b=gV (.tup xs)->a b=gV (.tup xs)):∀D xs,dy H D xs->dy a D xs
 |[],xs,h=>by unfold dy at h ⊢;exact h
 |d::D,xs,h=>by
  unfold dy at h ⊢;obtain⟨y,Y,e,c,f⟩:=h;exact⟨y,Y,e,r_ k t d y c,oZ k t D Y f⟩
end
theorem KR(r:RD H d v)(k:Off T H h)(t:TabAt H T p q):RD h d v:=
 r_ (λy y e=>k.at_ t e λy z=>nomatch z) (λy y e=>k.at_ t e λy z=>nomatch z) d v r
theorem GL(r:RD H d v)(c:CapAt H C U):RD (less H C) d v:=
 r_ (λy y e=>c.less e λy z=>nomatch z) (λy y e=>c.less e λy z=>nomatch z) d v r
end L2
namespace L2
theorem TabAt.start(h:H T=gV (.tbl #[])):TabAt H T p q:=⟨#[],h,trivial,λc e=>nomatch e⟩
end L2
namespace L2
open PySem
theorem Az(Pv:Nat->St->ab V->Hp->Prop)(k:Pv 0 f [] (upd l D<|.lst []))(n:∀i b Y H,i<=xs.length->Pv i b Y H->H D=gV (.lst Y)/\SqL K H a xs)
  (s:∀i x b Y H t,xs[i]?=gV x->Pv i b Y H->H t=Pt->g (.ref t) b (upd H t<|.tup [.int (i:Nat),x]) λd o=>T d o λc h=>if c=Pn then u d h λy j=>j D=gV (.lst Y)/\Y.length<sizeLine/\Pv (i+1) d (Y++[y]) (upd j D<|.lst<|Y++[y])else Pv (i+1) d Y h)
  (w:∀b Y H,Pv xs.length b Y H->Q (.ref D) H):jD (KB K a) D g T u f l Q:=by
 exists λi m b Y H=>m=xs.length-i/\i<=xs.length/\Pv i b Y H,⟨xs.length,by simp,P8 _,k⟩;rintro i m b Y H ⟨rfl,z,p⟩;obtain⟨A,q⟩:=n i b Y H z p;exists A;by_cases r:i<xs.length
 ·refine .inr ⟨⟨xs,xs[i],q,by simp⟩,Pv<|i+1,λB C E P=>⟨xs.length-(i+1),by lia,rfl,r,P⟩,λx E y=>?_⟩;obtain⟨t,v,F,rfl,rfl,y⟩:=y;exact s i v b Y H t (y xs q) p F
 have e:i=xs.length:=by lia
 subst e;exact .inl ⟨⟨xs,q,Po _⟩,w b Y H p⟩
end L2
namespace L2
open PySem PySem.Spec PyProof.Rows
def Nc:V->Hp->VK->Prop:=λx H Q=>∃n:Nat,x=.int (n:Int)/\n<=1000/\∀l:C',H l=Pt->Q (.ref l) (upd H l<|.lst ((Qt n).map λi:Nat=>V.int (i:Int)))
theorem qN(k:Nat):∀U,(∀j v,U[j]?=gV v->∃t,v=Vm ((k+j:Nat):Int) t)->Vals ((List.range' k U.length).map λi:Nat=>V.int (i:Int)) U
 |[],_=>.nil
 |u::U,h=>by
  refine .cons (h 0 u rfl) ?_;have H:=qN (k+1) U λj v a=>by
   obtain⟨t,e⟩:=h (j+1) v a;grind
  exact H
theorem wK(H:u.length=n)(h:∀(j:Nat) (v:Pm),u[j]?=gV v->∃t,v=Vm (0+(j:Int)*1) t):Vals ((Qt n).map λi:Nat=>V.int (i:Int)) u:=by
 subst H;rw[List.range_eq_range'];exact qN 0 u λj v a=>by
  simp_all
theorem AA{P p B a:Pos}(F:X.calm=Pn)(l:Gl X "list")(m:X.mg "list"=Pt)(r:Gl X "range")(w:X.mg "range"=Pt)(G:PE X e T)
  (C:Qk [e] X.env=[(Pr,RU e X.env)]:=by rfl) (d:Qk [.Call (.Name "range" p) [e] [] a] X.env=[(Pr,RU (.Call (.Name "range" p) [e] [] a) X.env)]:=by rfl):
  PE X (.Call (.Name "list" P) [.Call (.Name "range" p) [e] [] a] [] B) (λk H Q=>T k H λx f=>Nc x f Q):=by
 intro O s k H Q I h;refine RA<|dD I l m UZ<|Rh ?_ d rfl;show wpAny _ _ (spliced<|(Pr,RU _ _)::SW B _) _ _ s
 refine Tg<|RA<|dD I r w ZH<|Rh (bC (aM G (hU) (by rw[C];rfl) a O s k H (Aj λx f=>Nc x f Q) I h) λus g ⟨vs,f,D,J,y⟩=>?_) C rfl;obtain⟨x,L,n,rfl,M,q⟩:=iN y;subst L;obtain⟨u,rfl,N⟩:=e_ J;obtain⟨t,rfl⟩:=N;refine call_range_1<|Vx ?_;have E:Inv X O k f {g with heap:=g.heap.push {cls:=.type "range",data:=.fields #[.int 0 g.toks,.int (n) t,.int 1<|g.toks+1]},toks:=g.toks+1+1}:=D.kept λb o e=>PH _ e;refine call_list_range (n:=n) (D.ok.hd F) (I0 ..) (small_one (by simp) (by simp) (by simp)<|by lia) (by rw[aci];simp_all) (by lia) λU W z c Y Z A=>?_;have hl:=A.1
 have rv:Vals _ _:=wK hl λj v hv=>A.2 j v (by simpa using hv);have hz:((Qt n).map λi:Nat=>V.int (i)).length<=sizeLine:=by
  rw[A',QQ];exact QA<|ak M
 refine⟨.ref _,_,E.laid Y (Po _) (show ObjOk _ X.w _ U _ (.lst _)from⟨hz,z.toList,c,rv,by simpa using Z⟩),rfl,q _<|E.hok.fresh<|Po _⟩
end L2
namespace OD
open PySem L2
theorem ee:bw C b=Pn↔∀c∈C,∃l∈c,hit b l=true:=by
 unfold bw;simp
theorem yw(h:1<=absI l)(H:absI l<=(b.length:Int)):hit b (-l)=!hit b l:=by
 have e:absI (-l)=absI l:=by
  obtain⟨z,e⟩|⟨z,e⟩:=aH l<;>obtain⟨z,E⟩|⟨z,E⟩:=aH (-l)<;>lia
 have d:decide (0 < -l)=!decide (0<l):=by
  by_cases g:0<l
  ·rw[PB g,Pu<|by lia];rfl
  rw[Pu g,PB (by obtain⟨z,e⟩|⟨z,e⟩:=aH l<;>lia)];rfl
 unfold hit;rw[e,d,K' (by lia)];lia
theorem eX:k∈bp z C↔∃c∈C,z∉c/\k=c.filter λo=>!decide (o=-z):=by
 unfold bp;rw[W2];constructor
 ·rintro⟨c,H,e⟩;unfold eP at e
  split at e
  ·cases e
  rename_i g;exact⟨c,H,λm=>g<|Py.mpr m,(PZ e).symm⟩
 rintro⟨c,H,h,rfl⟩;exists c,H;unfold eP;rw[PM λg=>h<|Py.mp g]
theorem gs{c:ab Int}{z l:Int}:(l∈c.filter λo=>!decide (o=z))↔l∈c/\l≠z:=by
 simp
theorem wL(h:1<=absI l)(H:1<=absI z)(a:l≠z)(b:l≠-z):(absI l-1).toNat≠(absI z-1).toNat:=λe=>by
 obtain g|g:=gP (a:=z) (b:=l) (by omega)
 ·exact a g.symm
 exact b g
section
variable {cs:ab (ab Int)}
theorem o6(h:c∈cs):c=cs.getD i []\/c∈cs.take i++cs.drop (i+1):=by
 obtain⟨j,H,rfl⟩:=List.mem_iff_getElem.mp h;obtain g|g|g:=VA j i
 ·exact .inr<|Ry _<|Q6.mpr ⟨j,by rw[QM g,K' H]⟩
 ·subst g;simp_all
 exact .inr<|Qw _<|Q6.mpr ⟨j-(i+1),by rw[W3,show i+1+(j-(i+1))=j by lia,K' H]⟩
theorem GM(H:j<cs.length)(h:i≠j):cs.getD j []∈cs.take i++cs.drop (i+1):=by
 rw[B'];obtain g|g|g:=VA j i
 ·exact Ry _<|Q6.mpr ⟨j,by simp_all⟩
 ·lia
 exact Qw _<|Q6.mpr ⟨j-(i+1),by rw[W3,show i+1+(j-(i+1))=j by lia,K' H];rfl⟩
theorem kN(h:c∈cs.take i++cs.drop (i+1)):c∈cs:=(P5.mp h).elim Ss UK
end
end OD
namespace OD
open PySem L2
noncomputable def mU(h:Px)(l:Int)(left:ab Int):ab Int×Px:=if h=Pn then(left,decide (0<l))else(left.map λz=>-z,decide (l<0))
noncomputable def o7:PK->M' Nat
 |.tuple [.str w,.int z]=>if w=ax then gV z.toNat else Pt
 |_=>Pt
noncomputable def bY(d:ab PK)(o:ab (ab Int))(k:Nat):ab Int:=match o7 (d.getD k .none)with
 |some i=>(o.getD i []).filter λl=>!(o.getD k []).contains l
 |none=>[]
noncomputable def dh(h:Px)(left:ab Int)(v:Int)(L:ab Int):ab (ab Int×Px):=(L.filter λl=>decide (absI l=v)).map λl=>mU h l left
noncomputable def be(h:Px)(d:ab PK)(o:ab (ab Int))(v:Int):Nat->ab (ab Int×Px)
 |0=>[]
 |n+1=>be h d o v n++dh h (o.getD n []) v (bY d o n)
theorem yy:∀{D:ab PK} {s o:ab (ab Int)},bG t C H s D=(o,Pn)->∃T,o=s++T/\T.length=D.length/\∀k d,D[k]?=gV d->aN t C H (s++T.take k) d=gV (T.getD k [])
 |[],s,o,h=>by
  cases h;simp
 |e::r,s,o,h=>by
  have a:(match aN t C H s e with|none=>(s,Pr)|some c=>bG t C H _ r)=(o,Pn):=h;cases g:aN t C H s e with
  |none=>simp_all
  |some c=>
   rw[g]at a;obtain⟨T,b,f,i⟩:=yy a;refine⟨c::T,by simp_all,by simp_all,λk d E=>?_⟩;cases k with
   |zero=>
    simp_all
   |succ k=>
    have:=i k d E;rwa[Qu]at this
theorem o8(h:bG t c w [] D=(o,Pn))(a:D[k]?=gV d):aN t c w (o.take k) d=gV (o.getD k []):=by
 obtain⟨T,H,z,b⟩:=yy h;subst H;exact b k d a
theorem lY(h:ax≠w)(n:Nat)(z:Int):formB w n (.tuple [.str ax,.int z])=false:=by
 show(decide _&&decide _)=Pr
 rw[Pu h,Sb]
theorem jo:aN t c h s (.tuple [.str ax,.int z])=gR t h s (.int z):=by
 unfold aN;rw[lY (by decide+kernel),lY (by decide+kernel),Sb,Sb,PP (show formB ax 2 _=Pn by show(decide (2=2)&&decide (ax=ax))=Pn;simp)];rfl
theorem sh(h:bG t C w [] d=(o,Pn))(a:d[k]?=gV (.tuple [.str ax,.int z])):
  ∃i:Nat,z=(i:Int)/\i<k/\k<o.length/\o.getD k []=ao t w (o.getD i []):=by
 have H:=o8 h a;have b:=dg h;have f:=(N'.mp a).1;rw[jo]at H;unfold gR at H;rw[P9]at H;cases g:aI _ _ with
 |none=>rw[g]at H;cases H
 |some i=>
  rw[g]at H;obtain⟨j,e⟩:=aB g;cases e;have c:ao t w _=o.getD k []:=PZ H;rw[Vb,Sg]at b;refine⟨i,rfl,QH j (Nat.min_le_left _ _),by omega,?_⟩;rw[<-c]
  rw[B',B',QM<|by exact QH j (Nat.min_le_left _ _)]
theorem AC(m:∀c∈C,ap t.length c)(h:bG t C b [] D=(o,Pn))(n:k<D.length)(H:l∈bY D o k):absI l∈aD t b:=by
 unfold bY at H;have j:=getD_some (d:=RI) n;generalize D.getD k _=d at H j;unfold o7 at H
 split at H
 ·rename_i i e
  split at e
  ·split at e
   ·rename_i w z f;subst f;cases e;obtain⟨i,rfl,r,s,e⟩:=sh h j;obtain⟨a,p⟩:=PQ.mp H;have O:ap t.length (o.getD i []):=by
     have:=gu (w:=b) m (D:=D) (s:=[]) (by simp);rw[h]at this;exact eQ this (Yc r s)
    have q:l∉ao t b (o.getD i []):=by grind
    refine eY.mpr ⟨(O.2 l a).1,(O.2 l a).2,oX a (XT λg=>q<|PQ.mpr ⟨a,PB g⟩)⟩
   simp_all
  simp_all
 simp_all
theorem yz(d:1<=v):∀{c:ab Int},Ups c->c.filter (λl=>decide (absI l=v))=[v,-v].filter λl=>c.contains l
 |[],_=>rfl
 |x::c,h=>by
  have i:=yz d h.tail;rw[SJ];by_cases H:absI x=v
  ·have n:∀l∈c,absI l≠v:=λl a z=>by have:=h.head l a;simp_all
   have E:c.filter (λl=>decide _)=[]:=SB.mpr λl a=>by simpa using n l a
   have A:absI v=v:=by unfold absI;lia
   have f:absI (-v)=v:=by unfold absI;lia
   have N:v∉c:=λz=>n v z A;have g:=λz=>n _ z f;rw[PP<|PB H,E];obtain e|e:=gP (H.trans A.symm)
   ·subst e;have C:(x::c).contains x=true:=by simp
    have b:(x::c).contains (-x)=false:=by
     grind
    rw[SJ,PP C,SJ,PM<|by rw[b];decide];rfl
   subst e;have C:(x::c).contains (-x)=false:=by
    have:(-x == x)=false:=QT.mpr (by lia);simp_all
   grind
  rw[PM (by simpa using H),i];refine VI λl a=>?_;have:l≠x:=λz=>by
   subst z;obtain e|e:=P_.mp a
   ·exact H (by rw[e];unfold absI;lia)
   rw[Pw.mp e]at H;exact H (by unfold absI;lia)
  simp_all
end OD
namespace L2
open PySem
theorem si{g:TG}{T:TS}{D:hH}(B:xs.length=n)(C:n<=Y.length)(Pv:Nat->St->Hp->Prop)(k:Pv 0 c H)(l:∀i c H,i<=n->Pv i c H->SqL K H a xs/\SqL K H b Y)
  (s:∀i x y c H t,xs[i]?=gV x->Y[i]?=gV y->Pv i c H->H t=Pt->g (.ref t) c (upd H t<|.tup [x,y]) λd j=>T {D with nx:=Pv<|i+1,ct:=Pv<|i+1,bk:=D.nx} d j) (o:∀c H,Pv n c H->D.nx c H):
  ∃W:Nat->Nat->St->Hp->Prop,(∃m,W 0 m c H)/\∀i m c H,W i m c H->
   ((L8 K a b).stop i H/\D.nx c H)\/((L8 K a b).go i H/\∃N:St->Hp->Prop,(∀f h,N f h->∃M,M<m/\W (i+1) M f h)/\∀x h,(L8 K a b).yld i H x h->g x c h λd j=>T {D with nx:=N,ct:=N,bk:=D.nx} d j):=by
 exists λi m c H=>m=n-i/\i<=n/\Pv i c H,⟨n,by simp,P8 _,k⟩;rintro i m c H ⟨rfl,r,p⟩;obtain⟨q,Q⟩:=l i c H r p;by_cases w:i<n
 ·refine .inr ⟨⟨xs,Y,xs[i],Y[i],q,Q,K' _,K' _⟩,Pv<|i+1,λf h P=>⟨n-(i+1),Nat.sub_lt_sub_left w (Tf _),rfl,w,P⟩,λx h y=>?_⟩;obtain⟨t,u,v,z,rfl,rfl,E,A⟩:=y;exact s i u v c H t (E xs q) (A Y Q) p z
 have e:i=n:=Nat.le_antisymm r (i0 w)
 subst e;exact .inl ⟨⟨xs,Y,q,Q,by simp_all⟩,o c H p⟩
end L2
namespace L2
open PySem PySem.Spec PyProof.Rows
def GO:V->ab V->Hp->VK->Prop:=λx v H Q=>∃(d:PK) (D:ab PK) (y:V) (l:C') (X:ab V) (j:Nat),x=.ref l/\v=[y]/\H l=gV (.lst X)/\dy H D X/\RD H d y/\d.canLay0=Pn/\Rv D=Pn/\d.depth<=60/\j<D.length/\QG (D.getD j .none) d=Pn/\(∀m,m<j->QG (D.getD m .none) d=Pr)/\Q (.int j) H
theorem qP(O:X.A.units+64<Tw):Mz X "list.index" GO:=by
 intro T s U H x Y v M Q I p w h;obtain⟨D,d,y,l,xs,j,rfl,rfl,k,Z,g,A,C,c3,hj,hit,W,q⟩:=h;cases p;obtain⟨u,rfl,B⟩:=w.one;obtain⟨z,P,n,r,hl,e⟩:=I.lstM k;obtain⟨as,E⟩:=cT I D y u g B;obtain⟨bs,G⟩:=cT I _ _ _ (gk k Z) rfl;have b:∃c,pz s.heap P d c:=by
  cases G with
  |list o h2 J L=>
   rw[e]at o;cases o;cases J;exact⟨_,by simpa using L⟩
 obtain⟨c,b⟩:=b;have i:pz s.heap P.toArray.toList d c:=by simpa using b
 have a:=ZC d P c C b;have Ql:P.length=d.length:=by rw[<-a,A']
 have t:∀m f,QG _ D=QG (d.getD m _) D:=λm f=>by
  have:d.getD m .none=WI s.heap P[m]:=by
   rw[<-a,B',PN,K' f];rfl
  rw[this]
 refine V1 VO ⟨_,e,rfl⟩ F.entry_list_index (F.args_list_index_2 _ _) (SeqAt.list_indexAt l _ n Pt #[] u (λy=>QG _ D) j (by simp_all) ?_ ?_ ?_) ⟨e,aaE i E C A (by lia),?_⟩
 ·have:=Ru;lia
 ·exact(t j<|by simp_all).trans hit
 ·intro m f N;exact(t m<|by assumption).trans<|W m N
 exact⟨.int j,H,I.tok _,⟨_,rfl⟩,q⟩
end L2
namespace DP
open PySem
section
variable {prog:PU}{w:Qc}{K:Type}[Wj K]{knd:HeapKind prog w K}{A:Q0}{s:PF}
theorem AD{E:Pm->PF->Prop}{v:Pm}{Q:Pm->PF->Prop}(u:knd.room A)(N:knd.is s.heap k a)(o:s.heap.DictOfH knd d xs)(H:xs.length<=sizeLine)
  (q:∀p,Xd xs k=gV p->Q p.2 {s with toks:=s.toks+knd.draws k})
  (r:Xd xs k=Pt->∀h',h'.DictOfH knd d (ry xs k a v)->UO d s.heap h'->Q v {s with heap:=h',toks:=s.toks+knd.draws k}):wpAny (Qj prog w) A (YI d (.ref a) v) Q E s:=by
 obtain⟨O,D,t,G,B,g,b,i,c⟩:=o;refine Rz<|Pp<|knd.pyHash u N<|Pp<|wpAny_dictFind_heap u N G g b i c (λn=>?_) λj p l=>?_
 ·have m:=atKey_none_of_get n;have e:=not_mem_keys_of_get n;have st:=storedH_new m a v;refine Pp<|TM<|Pp<|wpAny_updateDictKeys (hz:=by rwa[size_of_entries b]) G g<|PY<|r m _ (⟨_,_,t+1,Tj _ G<|Obj.isFreed_of_dict<|YK g _,B.mapDictKeys _,YK g _,?_,λx h=>?_,?_⟩) (Wx ..)
  ·rw[st];simp[b,entryOfKey]
  ·rw[st]at h;obtain z|z:=P5.mp h
   ·exact knd.keeps (i x z) G g (Wx ..)
   rw[Pw.mp z];exact knd.keeps N G g (Wx ..)
  rw[st,P6,Rw];exact⟨c,by simp,λx h y C z=>by
   have f:y=k:=by simpa using C
   subst z f;exact e h⟩
 refine Pp<|wpAny_dictEntries G g ?_;rw[entry_at b j,l];exact Pp<|TM<|PY<|q p<|atKey_of_get c l
theorem meetsH_setd(b:(d == Sn)=Pr)(v:Pm):MeetsIn prog w (Builtin.«dict.setdefault» ⟨[.ref d,.ref a,v],[]⟩) (λA R s=>knd.room A.in1/\∃k x,knd.is s.heap k a/\s.heap.DictOfH knd d x/\x.length<=sizeLine/\
  (∀p,Xd x k=gV p->R (.ok<|.ret p.2) {s with toks:=s.toks+knd.draws k})/\
  (Xd x k=Pt->∀h',h'.DictOfH knd d (ry x k a v)->UO d s.heap h'->R (.ok<|.ret v) {s with heap:=h',toks:=s.toks+knd.draws k})):=by
 refine .of_wp λA R s h=>?_;obtain⟨u,k,x,N,m,z,c,e⟩:=h;refine Pp<|Pp<|Yr m.typeIs<|PY ?_;show wpAny _ _ (if(d == Sn)=Pn then _ else(YI d _ v >>=_)) _ _ s
 rw[b];exact Pp<|AD u N m z (λp f=>PY ⟨_,rfl,c p f⟩) λn h' h H=>PY ⟨v,rfl,e n h' h H⟩
end
end DP
namespace L2
open PySem PySem.Spec PyProof.Rows
def IS(H:Hp)(a:C')(y z:V)(Q:VK):Prop:=(∃v,DGet H a y (gV v)/\Q v H)\/(DGet H a y Pt/\∃h,DPut H a y z h/\Q z h)
theorem Nd(e:H a=gV (.dK k))(g:Rd H a (.dK A)):A=k:=by
 obtain g|⟨z,g⟩:=g
 ·simp_all
 simp_all
theorem Nf(e:H a=gV (.dT k))(g:Rd H a (.dT A)):A=k:=by
 obtain g|⟨z,g⟩:=g
 ·simp_all
 simp_all
theorem KS{R:Pm->PF->Prop}(hu:A.units+1<Tw)(I:Inv X Pz σ H s)(g:IS H a y z Q)(O:RelV y u)(P:RelV z r)(h:∀v Y W s',Inv X Pz σ Y s'->RelV v W->Q v Y->R W s'):
  wpAny (Qj X.prog X.w) A (call (.builtin "dict.setdefault") [.ref a,u,r]) R E s:=by
 obtain⟨v,⟨d,k,e,w,l⟩|⟨d,k,b,e,w,G,l⟩,q⟩|⟨⟨d,k,e,w,l⟩|⟨d,k,b,e,w,G,l⟩,Y,p,q⟩:=g
 ·subst w;obtain⟨Z,m,J,N,D⟩:=ku I.hok e;obtain⟨W,B,C⟩:=RelO.some_of (v:=v) (o:=Xc J k) (by rw[l];exact N.val k);refine Vt Sf D.typeIs SQ (SG _ _ _) (Zb (aQ X.prog X.w) a (jB O) m r) ⟨J,D,by rw[<-N.length];exact Z,λv2 j=>?_,λn=>?_⟩
  ·rw[B]at j;cases j;exact h v H W _ (I.tok _) C q
  rw[B]at n;cases n
 ·subst w;cases(show u=QV b from O);obtain⟨Z,m,L,N,D⟩:=kB I.hok e;obtain⟨W,B,C⟩:=RelO.some_of (v:=v) (o:=(Xd L k).map (·.2)) (by rw[l];exact N.val k);refine Vt Sf D.typeIs SQ (SG _ _ _) (DP.meetsH_setd (knd:=V0<|aQ X.prog X.w) m r) ⟨SF hu,k,L,iK I.hok G,D,by rw[<-Paired.length N];exact Z,λp hp=>?_,λn=>?_⟩
  ·rw[hp]at B;cases B;exact h v H _ _ (I.tok _) C q
  rw[n]at B;cases B
 ·subst w;obtain⟨Z,m,J,N,D⟩:=ku I.hok e;have n:Xc J k=none:=RelO.none_of (by rw[l];exact N.val k);obtain⟨F,i,t,f,l2,T⟩|⟨F,i,b2,t,f,V⟩:=p
  ·obtain rfl:=Nd t e;obtain rfl:k=i:=by cases k<;>cases i<;>cases f<;>rfl
   subst T;have hl:(cE d k z).length<=sizeLine:=by have:=dJ d k z;lia
   refine Vt Sf D.typeIs SQ (SG _ _ _) (Zb (aQ X.prog X.w) a (jB O) m r) ⟨J,D,by rw[<-N.length];exact Z,λv2 j=>(by rw[n]at j;cases j),λV h' o hs=>?_⟩;have he:∃q,h'.get? a=gV q:=let ⟨q,_,_,U,_⟩:=o;⟨q,U⟩
   exact h z _ r _ (kC I (by rw[t];exact Sv) hs he<|rQ hl m (N.put k P) o) P q
  cases k<;>cases f
 subst w;cases(show u=QV b from O);obtain⟨Z,m,L,N,D⟩:=kB I.hok e;have n:(Xd L k).map (·.2)=none:=RelO.none_of (by rw[l];exact N.val k);obtain⟨F,i,t,f,l2,T⟩|⟨F,i,b2,t,f,M,l2,T⟩:=p
 ·cases i<;>cases f
 obtain rfl:=Nf t e;cases f;have ek:i=k:=by
  rw[G]at M;have e3:k.map kV=i.map kV:=HO.tup.inj<|PZ M;exact(ZP (λx y ac=>by cases x<;>cases y<;>cases ac<;>rfl)|>.mp e3).symm
 subst ek;subst T;have hl:(cE d i z).length<=sizeLine:=by have:=dJ d i z;lia
 refine Vt Sf D.typeIs SQ (SG _ _ _) (DP.meetsH_setd (knd:=V0<|aQ X.prog X.w) m r) ⟨SF hu,i,L,iK I.hok G,D,by rw[<-Paired.length N];exact Z,λp hp=>(by rw[hp]at n;cases n),λV h' o hs=>?_⟩;obtain⟨q2,es,ep,U,g2,g3,g4,V,g5⟩:=o;have am:ObjOk X.prog X.w (upd H a<|.dT<|cE d i z) h' a (.dT<|cE d i z):=by
  refine⟨hl,m,_,(N.put i G P).keeps λc ys ec=>?_,q2,es,ep,U,g2,g3,g4,g5⟩;rw[af<|bi ec t (λz=>nomatch z)];exact ec
 exact h z _ r _ (kC I (by rw[t];exact Sv) hs ⟨q2,U⟩ am) P q
def KU(t T tx:TE):TE:=λb H Q=>t b H λx h=>∃a,x=.ref a/\OA h a/\T b h λy c=>tx b c λz d=>IS d a y z Q
theorem uW(c:X.A.units+1<Tw)(j:PE X o t)(k:PE X e T)(l:PE X f n)(m:M2 X o "setdefault" p e f Y):PE X (.Call (.Attribute o "setdefault" p) [e,f] [] Y) (KU t T n):=by
 intro O s b H Q I h;refine wpAny_Call_method m.base m.few m.line PySem.F.plainAttrs_dict Sf PySem.F.type_dict_setdefault<|bC (j O s b H _ I h) λu w V=>?_;obtain⟨x,A,i,B,a,E,d,C⟩:=V;subst E;obtain rfl:u=QV a:=B;obtain⟨D,F,S⟩:=B7 i d;exists D,F;rw[m.trees];exact Ud rfl<|UG<|Tg<|bC (k O w b A _ i C) (by rintro iv G ⟨y,J,L,M,N⟩;exact Tg<|bC (l O G b J _ L N) (by rintro fv s3 ⟨z,H3,P,U,g⟩;exact Vx<|KS c P g M U λv W w' s4 Z r q=>⟨v,W,Z,r,q⟩))
theorem kO(h:PE X k t)(H:PE X v T):PE X (.Dict [gV k] [v] p) (uh [(t,T)]):=ya (oC h H x_) rfl rfl (XS _ _) (by simp)
theorem uX(h:PE X k a)(H:PE X v b)(U:PE X c t)(Z:PE X d T):PE X (.Dict [gV k,gV c] [v,d] p) (uh [(a,b),(t,T)]):=ya (oC h H<|oC U Z x_) rfl rfl (XS _ _) (by show 2<=15;decide)
theorem Inv.swap(I:Inv X z j H s)(f:H a=gV u)(l:i a=gV v)(k:∀b,b≠a->i b=H b)(N:∀xs,u≠.tup xs)(q:∀o w,X.H₀ a=gV (.frz o w)->False)(t:∀P,u≠.tbl P)(y:∀b,u≠.own b)
  (hok:ObjOk X.prog X.w i s.heap a v):Inv X z j i s where
 ok:=I.ok
 os:=I.os
 bare:=I.bare
 base:={
  keep:=I.base.keep
  slot:=I.base.slot
  free:=λb O e n A=>by
   have h:=I.base.free b O e n A;grind
  there:=I.base.there
  tups:=λb xs e=>by
   have h:=I.base.tups b xs e;grind
  frzs:=λb O w e=>by
   have h:=I.base.frzs b O w e;grind
  tbls:=λb P e=>by
   obtain⟨m,h⟩:=I.base.tbls b P e;grind}
 loc:=I.loc
 cell:=I.cell
 free:=by
  have h:=I.free;grind
 freeC:=λx c e=>by
  have h:=I.freeC x c e;grind
 pin:=λp B=>by
  obtain⟨C,h,D⟩:=I.pin p B;refine⟨C,?_,D⟩;grind
 hok:=λb w e=>by
  by_cases d:b=a
  ·subst d;rw[l]at e;cases e;exact hok
  rw[k b d]at e;refine(I.hok b w e).stay (λg g g r=>r) (λc r=>?_) λc xs r=>?_
  ·grind
  grind
 len:=I.len
theorem Inv.nofrz(I:Inv X P b H s)(h:H a=gV u)(n:∀o w,u≠.frz o w):∀o w,X.H₀ a=gV (.frz o w)->False:=λo w e=>by
 have:=I.base.frzs a o w e;grind
theorem Inv.freeze(I:Inv X P c H s)(e:H a=gV (.dK k)):∃o,s.heap.get? a=gV o/\Inv X P c (upd H a<|.frz o<|.dK k) s:=by
 obtain⟨z,f,v,N,d⟩:=xZ I.hok e;obtain⟨o,E,p,h,i⟩:=id d;exact⟨o,h,I.swap e aa (λb g=>af g) (by lia) (I.nofrz e λy y z=>by cases z) (by lia) (by lia) ⟨h,z,f,v,N,d⟩⟩
theorem Inv.thaw(n:∀o w,X.H₀ a=gV (.frz o w)->False)(e:H a=gV (.dK k))(I:Inv X P c (upd H a<|.frz o<|.dK k) s):Inv X P c H s:=by
 have O:=I.hok a _ aa;exact I.swap aa e (λb h=>(af h).symm) (by simp) n (by simp) (by simp) (O.2)
noncomputable def Ng(a:C')(o:Obj)(s:ab (aJ×V)):It:=
 ⟨λi H=>H a=gV (.frz o<|.dK s)/\i<s.length,λi H x h=>h=H/\∃k v,s[i]?=gV (k,v)/\x=kV k,λi H=>H a=gV (.frz o<|.dK s)/\s.length<=i⟩
theorem KW(h:(aQ P w).is k u=Pn):RelV (kV k) u:=by
 obtain⟨i,t,rfl,rfl⟩|⟨x,t,rfl,rfl⟩:=@bO k u h
 ·exact⟨t,rfl⟩
 exact⟨t,rfl⟩
theorem AE{P:PU}{w:Qc}{K:J'}{tg:QS}(a t:C')(o:Obj){x:RW DictEntry}{ep:Nat}(f:ab (aJ×V))(n:o.data=.dict x ep):t6 P w K tg (Ng a o f) [t] t (λi h=>h.IsKeyIter t a i f.length ep) where
 mem:=by simp
 obj:=λi h st b j=>by
  have e:b=t:=by simpa using j
  subst e;obtain⟨o,e,c,d⟩:=st;exact⟨o,e,λv z=>by simp_all⟩
 keep:=λi h p st k=>st.at λo e=>k t (by simp) o e
 item:=by
  intro X y A B hc i Pz s σ H E I r st C;subst y A B;obtain⟨D,F⟩:=C;obtain⟨l,z,G,g,N,o',J,L,q,M,Q,O,T,U⟩:=(I.hok a _ D);rw[l]at q;cases q;rw[n]at Q;cases Q;have u:=N.length;have m:i<g.length:=by simp_all
  obtain⟨W,Y,f2,Z,f4,f5⟩:=r t (by simp);refine wpAny_pyNext_dict_item (by rwa[<-u]) ⟨o,x,l,M,n,O,T,U⟩ (K' m) λac p ZY Sl sb=>?_;have I1:Inv X Pz σ H {s with heap:=p}:=I.turned (λb o j e=>(sb.2 b j).trans e) W Y Z f4 f5;rw[<-u]at Sl;obtain⟨oi,e,c,d⟩:=id Sl;refine⟨ac,rfl,t7 e c d (by rfl) ⟨kV _,H,I1,KW ZY,⟨rfl,f[i].1,f[i].2,K' F,?_⟩,Sl,λb j=>(r b j).1⟩⟩;have hk:=N.keys;have e1:(f.map (·.1))[i]?=(g.map (·.1))[i]?:=by rw[hk]
  rw[PN,PN,K' F,K' m]at e1;simp_all
 done:=by
  intro X y A B hc i Pz s σ H E I r st C;subst y A B;obtain⟨D,F⟩:=C;obtain⟨l,z,G,g,N,o',J,L,q,M,Q,O,T,U⟩:=(I.hok a _ D);rw[l]at q;cases q;rw[n]at Q;cases Q;have u:=N.length;obtain⟨W,Y,f2,Z,f4,f5⟩:=r t (by simp);exact wpAny_pyNext_dict_end (I.ok.hd hc) (by rwa[<-u]) ⟨o,x,l,M,n,O,T,U⟩ (by simp_all) λp eb=>⟨rfl,I.turned (λb o j e=>eb b o j e) W Y Z f4 f5⟩
 self:=λS S S S S st h=>wpAny_pyIter_keyiter st h
inductive Nh (x:V)(H:Hp)(R:It->Hp->Prop):Prop
 |mk (a:C')(kvs:ab (aJ×V))(h:x=.ref a)(e:H a=gV (.dK kvs))(r:∀o,R (Ng a o kvs)<|upd H a<|.frz o<|.dK kvs)
def Ni(t:TE):TI:=λa H R=>t a H λx h=>Nh x h R
theorem GP(n:PE X l t):PI X T l (Ni t):=by
 intro P s p H R I h;refine bC (n P s p H _ I h) λv c ⟨x,F,d,r,Q⟩=>?_;obtain⟨a,k,e,f,q⟩:=Q;subst e;cases r;obtain⟨o,g,i⟩:=d.freeze f;obtain⟨z,m,u,N,O,E,w,Q,y,j,A,B,C⟩:=xZ d.hok f;rw[g]at Q;cases Q;refine wpAny_pyIter_dict m ⟨o,E,g,y,j,A,B,C⟩<|⟨c.heap.objs.size,[c.heap.objs.size],_,_,_,rfl,i.kept λb o e=>PH _ e,AE a _ o k j,?_,λb D=>?_,q o⟩
 ·exact⟨_,Qh _ rfl,rfl,by rw[N.length];rfl⟩
 have e:b=c.heap.objs.size:=by simpa using D
 subst e;exact i.fpOk (Po _)<|i.hok.fresh<|Po _
def N7(a:C')(Q:Hp->Prop)(H:Hp):Prop:=∃o k h,h a=gV (.dK k)/\H=upd h a (.frz o<|.dK k)/\Q h
def Nj(t:TS):TS:=λD b H=>∃a k,H a=gV (.dK k)/\t {nx:=λb H=>N7 a (D.nx b) H,rt:=λv H=>N7 a (D.rt v) H,bk:=λb H=>N7 a (D.bk b) H,ct:=λb H=>N7 a (D.ct b) H} b H
theorem GQ{st:QW}{t:TS}(h:PS X st t):PS X st (Nj t):=by
 intro P s g H D I ⟨a,k,e,q⟩;have n:=I.nofrz e λ_ _ z=>by cases z
 refine bC (h P s g H _ I q) λf l r=>?_;cases f with
 |next=>obtain⟨b,d,i,o,A,c,E,rfl,Q⟩:=r;exact⟨b,c,i.thaw n E,Q⟩
 |cont=>obtain⟨b,d,i,o,A,c,E,rfl,Q⟩:=r;exact⟨b,c,i.thaw n E,Q⟩
 |brk=>obtain⟨b,d,i,o,A,c,E,rfl,Q⟩:=r;exact⟨b,c,i.thaw n E,Q⟩
 |ret v=>obtain⟨x,b,d,i,j,o,A,c,E,rfl,Q⟩:=r;exact⟨x,b,c,i.thaw n E,j,Q⟩
theorem C8{g:TG}{t:TS}{D:hH}(Pv:Nat->St->Hp->Prop)(j:Pv 0 b H)(l:∀i b H,i<=s.length->Pv i b H->H a=gV (.frz o<|.dK s))
  (n:∀i k v b H,s[i]?=gV (k,v)->Pv i b H->g (kV k) b H λc f=>t {D with nx:=Pv<|i+1,ct:=Pv<|i+1,bk:=D.nx} c f) (r:∀b H,Pv s.length b H->D.nx b H):
  ∃W:Nat->Nat->St->Hp->Prop,(∃m,W 0 m b H)/\∀i m b H,W i m b H->
   ((Ng a o s).stop i H/\D.nx b H)\/((Ng a o s).go i H/\∃N:St->Hp->Prop,(∀d h,N d h->∃M,M<m/\W (i+1) M d h)/\∀x h,(Ng a o s).yld i H x h->g x b h λc f=>t {D with nx:=N,ct:=N,bk:=D.nx} c f):=by
 exists λi m b H=>m=s.length-i/\i<=s.length/\Pv i b H,⟨s.length,by simp,P8 _,j⟩;rintro i m b H ⟨rfl,u,p⟩;have q:=l i b H u p;by_cases T:i<s.length
 ·refine .inr ⟨⟨q,T⟩,Pv<|i+1,λd h P=>⟨s.length-(i+1),Nat.sub_lt_sub_left T (Tf _),rfl,T,P⟩,λx h y=>?_⟩;obtain⟨e,k,v,w,rfl⟩:=y;subst e;exact n i k v b _ w p
 have e:i=s.length:=aat u (i0 T)
 subst e;exact .inl ⟨⟨q,Po _⟩,r b H p⟩
end L2
namespace KX
open PySem PyProof.Rows
noncomputable abbrev ltB(k:Nat->Int):Nat->Nat->Px:=λi j=>decide (k i<k j)
section
variable {R:kS->PF->Prop}{St:Nat->QB->Prop}
theorem Nk(W:Walks p w A.in1 I fp X n P St)(f:Nat->Int)(O:QB->Prop)(S:C')(F:S∉fp)
  (G:∀h h',O h->(∀b o,b∉X->b≠S->h.get? b=gV o->h'.get? b=gV o)->O h')
  (Rg:∀i v s Q E,P i v->O s.heap->(∀t z,Q (.int (f i) t) {s with toks:=z})->wpAny (Qj p w) A.in1 (call (.builtin "len") [v]) Q E s):
  ∀k j s B C c,n-(j+1)=k->j+1<=n->St (j+1) s.heap->O s.heap->P (Sw (ltB f) j) B->
  s.heap.get? S=gV {cls:=.type "list",dict:=Pt,data:=.seq #[B,.int (f<|Sw (ltB f) j) C] c,slots:=#[]}->
  (∀v h' z,P (Sw (ltB f)<|n-1) v->(∀b o,b∉X->b≠S->s.heap.get? b=gV o->h'.get? b=gV o)->R (.ok<|.ret v) {s with heap:=h',toks:=z})->
  codeAny (Qj p w) A (.builtin "min.loop" ⟨[.ref I,.builtin "len",.ref S],[]⟩) R s:=by
 have J:S∉X:=λh=>F<|W.sub _ h;have XB:(toString "min"++toString ".loop":TL)="min.loop":=by rfl
 intro k
 induction k with
 |zero=>
  intro j s B C c hk hj l V m L N;have Vp:j+1=n:=by lia
  refine SV Vw ?_;rw[RY R1 _];show wpAny _ A.in1 (XF (.ref S) >>=_) _ _ s
  refine Pp<|TZ L rfl ?_;show wpAny _ A.in1 (tryCatch (Xv<|.ref I) _ >>=_) _ _ s
  refine Pp<|RX<|W.done s _ _ (Vp▸l) λh' z q=>?_;have d:=q S _ J L;show wpAny _ A.in1 (aay S (λV=>#[]) >>=_) _ _ _
  refine Pp ?_;refine Ui d rfl<|Pp<|T9<|PY ?_;refine N B _ z (by rw[<-Vp];exact m) λb o a H e=>(Qp _ _<|Q1 H).trans<|q b o a e
 |succ k ih=>
  intro j s B C c hk hj l Y m L N;have Z:j+1<n:=by omega
  refine SV Vw ?_;rw[RY R1 _];show wpAny _ A.in1 (XF (.ref S) >>=_) _ _ s
  refine Pp<|TZ L rfl ?_;show wpAny _ A.in1 (tryCatch (Xv<|.ref I) _ >>=_) _ _ s
  refine Pp<|RX<|W.item (j+1) s _ _ Z l λv h' z hP g q=>?_;have d:=q S _ J L;have r:O h':=G _ _ Y λb o D V e=>q b o D e;show wpAny _ A.in1 (tryCatch (Vr [v]<|call (.builtin "len") [v]) _ >>=_) _ _ _
  refine Pp<|RX<|Rz<|Rg (j+1) v _ _ _ hP r λU am=>?_;show wpAny _ A.in1 (tryCatch (Vr [v,.int (f<|j+1) U]<|richCompare .Lt (.int (f<|j+1) U) (.int (f<|Sw (ltB f) j) C) >>=_) _ >>=_) _ _ _
  refine Pp<|RX<|Rz<|Pp<|CmpOf.ints_lt (prog:=p) (w:=w) (A:=A.in1) (P:=λi v=>∃t,v=.int (f i) t) f (λi v h=>h) (j+1) (Sw (ltB f) j) _ _ _ _ _ ⟨U,rfl⟩ ⟨C,rfl⟩ ?_;refine Pp<|Rz<|Rj ?_;refine Pp<|T9<|PY ?_;by_cases D:f (j+1)<f (Sw (ltB f) j)
  ·have M:Sw (ltB f) (j+1)=j+1:=by simp[Sw,D]
   simp only[D,decide_true];refine Pp<|Ui d rfl<|Pp<|T9 ?_;refine PY ⟨SN R1 _,ih _ _ v U _ (by lia) Z (W.frame _ _ _ g λb ac o e=>?_) (G _ _ r λb o V H e=>(Qp _ _<|Q1 H).trans e) (by simp_all) (by rw[M];exact Tj _ d rfl)
    λv' u T x y=>?_⟩
   ·exact(Qp _ _ λh:S=b=>by simp_all).trans e
   exact N v' u T x λb o a H e=>y b o a H<|(Qp _ _<|Q1 H).trans<|q b o a e
  have M:Sw (ltB f) (j+1)=Sw (ltB f) j:=by simp[Sw,D]
  simp only[D,So];refine Pp<|T9 ?_;refine PY ⟨SN R1 _,ih _ _ B C c (by omega) Z g r (by rwa[M]) (by rwa[M]) λv' u T x y=>?_⟩;exact N v' u T x λb o a H e=>y b o a H<|q b o a e
theorem KY(W:Walks p w A.in1 I N r n P St)(l:Nat->Int)(O:QB->Prop)(S:C')(f:S∉N)
  (k:∀h h',O h->(∀b o,b∉r->b≠S->h.get? b=gV o->h'.get? b=gV o)->O h')
  (F:∀i v s Q E,P i v->O s.heap->(∀t m,Q (.int (l i) t) {s with toks:=m})->wpAny (Qj p w) A.in1 (call (.builtin "len") [v]) Q E s)
  {s:PF} {c:Nat} (G:0<n) (q:St 0 s.heap) (u:O s.heap)
  (J:s.heap.get? S=gV {cls:=.type "list",dict:=Pt,data:=.seq #[] c,slots:=#[]})
  (U:∀v h' m,P (Sw (ltB l)<|n-1) v->(∀b o,b∉r->b≠S->s.heap.get? b=gV o->h'.get? b=gV o)->R (.ok<|.ret v) {s with heap:=h',toks:=m}):
  codeAny (Qj p w) A (.builtin "min.loop" ⟨[.ref I,.builtin "len",.ref S],[]⟩) R s:=by
 have x:=λh=>f<|W.sub _ h;refine SV Vw ?_;refine Pp<|TZ J rfl ?_;refine Pp<|RX<|W.item 0 s _ _ G q λv h' m L a y=>?_;have d:=y S _ x J;have g:=k _ _ u λb o Y X e=>y b o Y e;show wpAny _ _ (tryCatch _ _ >>=_) _ _ _
 refine Pp<|RX<|Rz<|F 0 v _ _ _ L g λM Z=>?_;show wpAny _ _ _ _ _ _
 refine Pp<|Ui d rfl<|PY ⟨SN R1 _,Nk W l O S f k F _ 0 _ v M _ rfl G (W.frame _ _ _ a λb z o e=>?_) (k _ _ g λb o X H e=>(Qp _ _<|Q1 H).trans e) L (Tj _ d rfl) λv' B T C D=>?_⟩
 ·exact(Qp _ _ λh:S=b=>by simp_all).trans e
 exact U v' B T C λb o j H e=>D b o j H<|(Qp _ _<|Q1 H).trans<|y b o j e
end
theorem min_len{p:PU}{w:Qc}{A:Q0}{E:Pm->PF->Prop}{s:PF}(g:Nat->Int)(O:QB->Prop){Q:Pm->PF->Prop}(y:A.handled=Pt)(u:s.heap.IsList l a)(B:0<a.size)(j:O s.heap)
  (H:∀h h',O h->(∀b o,b<s.heap.objs.size->h.get? b=gV o->h'.get? b=gV o)->O h')
  (C:∀i v s Q E,a[i]?=gV v->O s.heap->(∀t T,Q (.int (g i) t) {s with toks:=T})->wpAny (Qj p w) A.in1 (call (.builtin "len") [v]) Q E s)
  (h:∀v h' T,a[Sw (ltB g) (a.size-1)]?=gV v->(∀b o,s.heap.get? b=gV o->h'.get? b=gV o)->Q v {s with heap:=h',toks:=T}):
  wpAny (Qj p w) A (call (.builtin "min") [.ref l] [(PD "key",.builtin "len")]) Q E s:=by
 obtain⟨D,c,m⟩:=id u;have d:=P0 c;refine kmk_tree PySem.F.kind_min PySem.F.plain_min PySem.F.entry_min (kmk_min_key _ _)<|Pp<|wpAny_of_eq rfl<|Pp<|PY<|Pp<|Uu u<|Pp<|U1 ?_<|P8 _;have n:(s.heap.push {cls:=.type "list_iterator",data:=.fields #[.ref l,.int 0 0]}).objs.size=s.heap.objs.size+1:=X7 ..;have I:=Qa d;have W:=XZ (prog:=p) (w:=w) (A:=A.in1) y _ l I a;have q:∀b o,s.heap.get? b=gV o->((s.heap.push {cls:=.type "list_iterator",data:=.fields #[.ref l,.int 0 0]}).push<|RB "list" #[] 0).get? b=gV o:=λb o e=>PH _<|PH _ e;refine PY ⟨SN R1 _,KY W g O _ (λF=>?_) (λG J r k=>H G J r λb o x e=>k b o (λz=>?_) (λz=>?_) e) C B ⟨⟨_,PH _<|Qh _ rfl,rfl,rfl⟩,?_⟩ (H _ _ j λb o Z e=>q b o e) (Qh _ rfl) λv h' T L M=>?_⟩
 ·have f:=P_.mp F;rw[n]at f;obtain z|z:=f
  ·simp_all
  exact absurd (Pw.mp z)<|TC<|RH d
 ·exact Qa x<|Pw.mp z
 ·rw[n]at z;exact Qa (RH x) z
 ·exact⟨D,q _ _ c,m⟩
 refine h v h' T L λb o e=>M b o (λz=>?_) (λz=>?_)<|q b o e
 ·exact Qa (P0 e)<|Pw.mp z
 rw[n]at z;exact Qa (RH<|P0 e) z
end KX
namespace L2
open PySem PySem.Spec PyProof.Rows
noncomputable def GR(n:ab Nat):Nat:=Sw (KX.ltB λi=>((n.getD i 0:Nat):Int))<|n.length-1
theorem GS(h:n≠[]):GR n<n.length/\∀j,j<n.length->n.getD (GR n) 0<=n.getD j 0:=by
 obtain⟨H,a⟩:=argBest_lt _<|n.length-1;have l:=TU.mpr h;refine⟨SH H (Nat.sub_lt l (by decide)),λj b=>?_⟩;have:=a j (by lia);exact Int.ofNat_le.mp this
def KZ(K:J')(H:Hp)(A:ab C')(n:ab Nat):Prop:=A.length=n.length/\∀(i:Nat) (a:C'),A[i]?=gV a->∃l,SqL K H a l/\n[i]?=gV l.length
def IT(K:J'):V->Hp->VK->Prop:=λx H Q=>∃(p:C') (A:ab C') (n:ab Nat),x=.ref p/\SqL K H p (A.map V.ref)/\n≠[]/\KZ K H A n/\∀a:C',A[GR n]?=gV a->Q (.ref a) H
def Nl(K:J')(t:TE):TE:=λa H Q=>t a H λx h=>IT K x h Q
theorem GT{p1 p2 kp U:Pos}(hc:X.calm=Pn)(t:Gl X "min")(w:X.mg "min"=Pt)(y:Gl X "len")(z:X.mg "len"=Pt)(he:PE X e te)
  (B:Qk [e] X.env=[(Pr,RU e X.env)]:=by rfl):
  PE X (.Call (.Name "min" p1) [e] [⟨gV "key",.Name "len" p2,kp⟩] U) (Nl X.K te):=by
 intro Pz s σ H Q I h;refine RA<|dD I t w Yw<|U7 (bC (aM he (hU) (by rw[B];rfl) U Pz s σ H (Aj λx C=>IT X.K x C Q) I h) λus s1 ⟨vs,C,d,r1,D⟩=>?_) (by rw[B];rfl) (by rw[B];rfl) rfl rfl;obtain⟨x,E,p,A,n,rfl,hq,WA,⟨F,hL⟩,q⟩:=iN D;subst E;obtain⟨u,rfl,G⟩:=e_ r1;cases G;refine VQ<|dD d y z R9<|We ?_;show wpAny _ _ _ _ _ _
 obtain⟨m,W,pl,hz⟩:=d.list hq;have am:=Ru;have L:m.length=n.length:=by rw[<-W.length,A',F]
 have an:=TU.mpr WA;have f:∀{i:Nat} {v:Pm},m.toArray[i]?=gV v->∃a,A[i]?=gV a/\v=.ref a:=λ{i v} g=>by
  have j:m[i]?=gV v:=by simpa using g
  have Z:i<A.length:=by
   have:=(N'.mp j).1;simp_all
  obtain⟨u,hu,G⟩:=W.get (by rw[PN,K' Z];rfl);rw[j]at hu;cases hu;exact⟨A[i],K' Z,G⟩
 refine KX.min_len (λi=>((n.getD i 0))) (λh=>∀i a,A[i]?=gV a->∃b:ab Pm,h.IsList a b.toArray/\b.length=n.getD i 0/\b.length<=sizeLine/\a<s1.heap.objs.size) (d.ok.hd hc) pl.isList (by simp_all) (λi a c=>?_) (λh1 h2 O k i a c=>?_) (λi v s' Q' E' g O hQ=>?_) λv h' tk g hk=>?_
 ·obtain⟨l,hl,hn⟩:=hL i a c;obtain⟨b,r,P,J⟩:=d.list hl;have Y:=P.isList;obtain⟨o,M,V⟩:=id Y;exact⟨b,Y,by rw[B',hn,T5,r.length],by rwa[<-r.length],P0 M⟩
 ·obtain⟨b,Y,E,e2,N⟩:=O i a c;obtain⟨o,M,T⟩:=Y;exact⟨b,⟨o,k a o N M,T⟩,E,e2,N⟩
 ·obtain⟨a,c,rfl⟩:=f g;obtain⟨b,Y,E,e2,N⟩:=O i a c;refine Zd Y (by simp only[P2];lia) ?_;simp only[P2,E];exact hQ _ _
 obtain⟨a,c,rfl⟩:=f g;have e:m.toArray.size-1=n.length-1:=by simp[L]
 rw[e]at c;exact⟨.ref a,C,d.kept hk,rfl,q a c⟩
theorem AF{K:J'}{a:QS}{t:TE}(e:X.K=K)(b:PE X a t)(c:∀Y,isTrue a X.env Y=(do let v <-Y;Y6 a.pos;Vr [v] (truthy v))):
  PT X a (λd H Q=>t d H λx h=>∃k,F0 K x h k/\Q k h):=by
 subst e;exact kj b c
theorem GU{K:J'}{e:QS}{f:Str}{p:Pos}{t:TE}(E:X.K=K)(h:PE X e t)(H:U3 e f X.env (RU e X.env)=RU e X.env):PE X (.Attribute e f p) (J_ K t f):=by
 subst E;exact BW h H
def GV:V->ab V->Hp->VK->Prop:=λx v H Q=>∃(D:PK) (s:ab PK) (y:V) (l:C') (X:ab V),x=.ref l/\v=[y]/\H l=gV (.lst X)/\dy H s X/\RD H D y/\D.canLay0=Pn/\Rv s=Pn/\D.depth<=60/\Q (.int ((s.countP λd=>QG d D:Nat):Int)) H
theorem AG(J:X.A.units+64<Tw):Mz X "list.count" GV:=by
 intro O s L H x M v U Q I k m h;obtain⟨D,a,y,l,N,rfl,rfl,i,Z,f,o,C,T,q⟩:=h;cases k;obtain⟨u,rfl,p⟩:=m.one;obtain⟨z,P,n,r,W,e⟩:=I.lstM i;obtain⟨Y,t⟩:=cT I D y u f p;obtain⟨G,w⟩:=cT I _ _ _ (gk i Z) rfl;have b:∃c,pz s.heap P a c:=by
  cases w with
  |list j h2 B E=>
   rw[e]at j;cases j;cases B;exact⟨_,by simpa using E⟩
 obtain⟨c,b⟩:=b;have g:pz s.heap P.toArray.toList a c:=by simpa using b
 have A:=ZC a P c C b;refine V1 YN ⟨_,e,rfl⟩ F.entry_list_count (F.args_list_count_2 _ _) (SeqAt.list_countAt l _ n Pt #[] u λy=>QG _ D) ⟨e,aaE g t C o (by lia),?_⟩;exists .int _,H,I.tok _,⟨_,rfl⟩;have:P.toArray.toList.countP (λy=>QG (WI s.heap y) D)=a.countP λd=>QG d D:=by
  rw[<-A,Yf];rfl
 rwa[this]
theorem K0{P:Sem Px}(G:tV X.prog X.w X.K X.mg X.base aV j C m f F b s)(H:PE X o t)(r:Room k X.A)(h:j<=k)
  (a:RU (.Call (.Attribute o m v) [] [] p) X.env=(do
   let O <-RU o X.env
   Y6 v.atName
   let (f,first) <-Vr [O] (XG O m P)
   ti p f first (SW p<|Qk [] X.env) (YJ p<|Wd [] X.env)):=by rfl):
  PE X (.Call (.Attribute o m v) [] [] p) (ub C m s [] E0 t wa):=BZ H G.cl G.me G.ok (r.mono h) G.b .nil yb a
theorem GW{N Q:ab Str}{s:T_}(a:s.kind=.function:=by rfl)(b:s.isCoroutine=false:=by rfl)(c:s.isGenerator=false:=by rfl)(d:N.Nodup:=by decide+kernel)(e:N.take Q.length=Q:=by rfl)
  (f:∀x∈Q,s.names.lookup x=gV .local\/s.names.lookup x=gV .cell:=by decide+kernel) (g:∀y∈s.names,y.2≠.free:=by decide+kernel):eH N Q s:=⟨a,b,c,d,e,f,g⟩
theorem nD(l:ab Str)(h:l.Nodup:=by decide+kernel):l.Nodup:=h
theorem cS{X:Cx}{s:T_}{C:ab (Str×C')}{N:ab Str}{I:ab (M' Nat)}(a:w1 s X.env=pure C:=by with_unfolding_all rfl)
  (b:AllIn (λy=>X.env.cells.lookup y) C:=by with_unfolding_all first|exact trivial|exact⟨rfl,trivial⟩|exact⟨rfl,rfl,trivial⟩|exact⟨rfl,rfl,rfl,trivial⟩|exact⟨rfl,rfl,rfl,rfl,trivial⟩)
  (c:∀n,((Uv s X.env).names.all λq=>!(decide (q.2=.cell) || decide (q.2=.free)) || ((Q7 n s.names C).lookup q.1).isSome)=true:=by exact λz=>by rfl)
  (d:((N.zip I).all λp=>match p.2 with
  |none=>Pn
  |some i=>decide (X.N[i]?=gV p.1)&&(decide (X.env.kindOf p.1=gV .cell) || decide (X.env.kindOf p.1=gV .free))&&(decide ((Uv s X.env).names.lookup p.1=gV .cell) || decide ((Uv s X.env).names.lookup p.1=gV .free))&&(s.names.all λq=>!decide (q.2=.cell) || !decide (q.1=p.1)))=true:=by rfl)
  (e:I.length=N.length:=by rfl) (f:s.kind=.function:=by rfl) (g:∀y∈s.names,y.2=.local->s.names.lookup y.1=gV .local:=by decide):CompSc X s C N I:=⟨a,b,c,d,e,f,g⟩
theorem Fun.okA{P:PU}{w:Qc}{K:J'}{m:Str->M' Pm}{b:QB}{x:Str}{q:Str}{st:QW}{f:C'}{d:PR}{N:ab Str}{p:ab Str}{k:Nat}{a:Sp}(F:Fun K x q st f d)(S:eH N p (aA st))
  (h:∀c A o s H v Q E,Room k (A.deeper<|Rr q (aA st) s.heap.objs.size f c)->a v H Q E->
   ∃t,PSs (rM aV P w K m b N q (aA st) f c A o s H E).nox (cP st) t/\t {nx:=λz e=>Q .non e,rt:=Q} (start N v) H)
  (l:∀v H Q E,a v H Q E->v.length=p.length:=by intro z z z z h;repeat (first|(cases h<;>subst_vars<;>rfl)|obtain⟨z,h⟩:=h)):ay P w K m b aV (k+1) f d p a:=F.ok S l h
def Fe(P:PU)(w:Qc)(K:J')(m:Str->M' Pm)(b:QB)(k:Nat)(x:Str)(s:Sp):Prop:=∃f F p,Fn P w K m b k x f F p s
theorem wM{X:Cx}{j:Nat}{k:Nat}{s:Sp}{x:Str}{p:Pos}{P:Pos}{e:QS}{E:ab QS}{t:TA}(G:Fe X.prog X.w X.K X.mg X.base j x s)(r:Room k X.A)(a:PA X (e::E) t)(h:j<=k:=by lia)(g:Gl X x:=by rfl)(H:(x == ("__debug__":Str))=false:=by decide)
  (b:Qk (e::E) X.env=(Pr,RU e X.env)::Qk E X.env:=by rfl) (u:(SW P<|Qk E X.env).any (·.1)=false:=by rfl):PE X (.Call (.Name x p) (e::E) [] P) (xX s [] E0 t):=by
 obtain⟨z,z,z,G⟩:=G;exact MW G r h g a H b u
section
variable {X:Cx}{pos:Pos}
theorem K1(h:PE X a t)(H:PE X b T)(s:rO b:=by exact λz z=>rfl):PE X (.Subscript a b pos) (FW (Iy X.K) t T):=Ix B2 h H s
theorem C9{a:QS}{b:QS}{t:TE}{T:TE}{K:J'}(h:PE X a t)(H:PE X b T)(s:rO b:=by exact λz z=>rfl)(e:X.K=K:=by rfl):PE X (.Subscript a b pos) (FW (Iy K) t T):=Ix (Gv e) h H s
theorem qp{x:Str}(i:Nat)(h:X.N.Nodup)(H:X.N[i]?=gV x:=by exact nn) (a:JP X.env.scope x:=by exact ZJ rfl) (f:X.fn x=Pn\/X.env.scope.names.lookup x=gV .local:=by first|exact .inl rfl|exact .inr rfl|assumption):PG X (.Name x pos) (eW i):=rL h H a f
theorem AH(h:OpR X (Rf o) r)(H:PE X a t)(c:PE X b T)(m:Uo o b=false:=by exact BQ _):PE X (.Compare a [o] [b] pos) (FW r t T):=jh h H c m
theorem AI(h:OpR X (Rf o) r)(H:PE X a t)(c:PE X b T)(m:Uo o b=false:=by exact BQ _):PT X (.Compare a [o] [b] pos) (BR<|FW r t T):=gi h H c m
theorem gT(h:PE X e t)(H:Qk [e] X.env=[(Pr,RU e X.env)]:=by rfl):PA X [e] (jz t wa):=aM h hU H
theorem kh(h:PE X E t)(H:PE X e T)(a:Qk [E,e] X.env=(Pr,RU E X.env)::Qk [e] X.env:=by rfl)(b:Qk [e] X.env=[(Pr,RU e X.env)]:=by rfl):PA X [E,e] (jz t<|jz T wa):=aM h (aM H hU b) a
theorem bA{K:J'}{H:Hp}{q:C'}{s:ab V}{i:Int}{v:V}{Q:VK}(h:H q=gV (.tup s))(e:kn s i=gV v)(g:Q v H):Iy K (.ref q) (.int i) H Q:=.inr<|.inl ⟨q,s,i,v,rfl,rfl,SqT.of h,e,g⟩
theorem fY{K:J'}{H:Hp}{q:C'}{s:ab V}{i:Int}{v:V}{Q:VK}(h:H q=gV (.lst s))(e:kn s i=gV v)(g:Q v H):Iy K (.ref q) (.int i) H Q:=.inl ⟨q,s,i,v,rfl,rfl,SqL.of h,e,g⟩
theorem di(h:PE X e t):PSs X [.Return (gV e) pos] (FS t):=au<|JS h
end
theorem K2(h:PE X e t)(k:PE X e u):PE X e (λa H Q=>t a H Q\/u a H Q):=λP s a H Q I z=>z.elim (h P s a H Q I)<|k P s a H Q I
end L2
namespace OD
open PySem L2
def K3(h:Px)(s:ab Int)(b:ab Px):Prop:=∀l∈s,hit b l=h
theorem wN:∀{n:Nat},r∈be H d o v n->∃k,k<n/\r∈dh H (o.getD k []) v (bY d o k)
 |0,h=>nomatch h
 |n+1,h=>by
  obtain h|h:=P5.mp h
  ·obtain⟨k,a,z⟩:=wN h;exact⟨k,RH a,z⟩
  exact⟨n,by simp,h⟩
theorem yA:∀{n k:Nat},k<n->(∃r∈dh H (o.getD k []) v (bY d o k),p r=Pn)->∃a r,a<=k/\r∈dh H (o.getD a []) v (bY d o a)/\p r=Pn/\(be H d o v n).find? p=gV r
 |0,k,h,_=>by simp_all
 |n+1,k,h,⟨r,c,f⟩=>by
  show∃a r,a<=k/\_/\_/\(be H d o v n++dh H _ v _).find? p=gV r
  rw[UB];by_cases i:k<n
  ·obtain⟨a,b,Z,z,j,l⟩:=yA i ⟨r,c,f⟩;exact⟨a,b,Z,z,j,by rw[l];rfl⟩
  have e:k=n:=by lia
  subst e;cases g:(be H d o v k).find? p with
  |some b=>
   obtain⟨a,Z,z⟩:=wN<|Re g;exact⟨a,b,QA Z,z,Tt g,rfl⟩
  |none=>
   cases G:(dh H _ v<|bY d o k).find? p with
   |none=>exact absurd f<|RN.mp G r c
   |some b=>exact⟨k,b,Po _,Re G,Tt G,rfl⟩
theorem sj(h:1<=absI l)(H:absI l<=(b.length:Int)):hit b (-l)=!hit b l:=by
 have e:absI (-l)=absI l:=by
  obtain⟨z,e⟩|⟨z,e⟩:=aH l<;>obtain⟨z,E⟩|⟨z,E⟩:=aH (-l)<;>lia
 have d:decide (0 < -l)=!decide (0<l):=by
  by_cases g:0<l
  ·rw[PB g,Pu<|by lia];rfl
  rw[Pu g,PB (by obtain⟨z,e⟩|⟨z,e⟩:=aH l<;>lia)];rfl
 unfold hit;rw[e,d,K' (by lia)];lia
theorem uY(h:hit (b.take n) l=Pn):hit b l=true:=by
 by_cases g:(absI l-1).toNat<n
 ·unfold hit at h ⊢;rwa[QM g]at h
 unfold hit at h;rw[QI<|by rw[P9];exact QF (Nat.min_le_left _ _) (i0 g)]at h;cases h
theorem yB(h:(absI l-1).toNat<n):hit (b.take n) l=hit b l:=by
 unfold hit;rw[QM h]
theorem AJ(h:formB w n d=Pn):∃r,d=.tuple (.str w::r)/\r.length+1=n:=by
 cases d with
 |tuple D=>
  unfold formB at h;rw[Qs]at h;cases D with
  |nil=>cases h.2
  |cons x r=>
   have H:mO w x=true:=h.2;cases x with
   |str y=>
    have:=PX H;subst this;exact⟨r,rfl,PX h.1⟩
   |_=>cases H
 |_=>cases h
theorem C_(n:∀c∈s,ap t.length c)(h:aN t C w s d=gV c):
  (w=Pr/\c∈C)\/(w=Pn/\∀k∈C,∃l∈c,l∈k)\/(∃i j z,i<s.length/\j<s.length/\1<=z/\z<=(t.length:Int)/\(∀l∈s.getD i [],l=z\/l∈c)/\∀l∈s.getD j [],l=-z\/l∈c)\/∃i,i<s.length/\o7 d=gV i/\c=ao t w (s.getD i []):=by
 unfold aN at h
 split at h
 ·rename_i o;rw[Qs]at o;unfold jQ at h;obtain⟨i,e,rfl⟩:=Qn.mp h;refine .inl ⟨by simpa using o.1,?_⟩;rw[B',K' (aB e).1];exact Su _
 split at h
 ·rename_i p;rw[Qs]at p;unfold mQ at h
  split at h
  ·rename_i g;cases h;rw[Qs]at g;refine .inr<|.inl ⟨p.1,λk A=>?_⟩;obtain⟨l,H,b⟩:=P'.mp<|Qv.mp g.2 k A;exact⟨l,H,Py.mp b⟩
  simp_all
 split at h
 ·unfold dR at h;cases E:aI s.length (fN d 1)with
  |none=>simp_all
  |some i=>
  cases a:aI s.length (fN d 2)with
  |none=>simp_all
  |some j=>
  rw[E,a]at h;cases u:fN d 3 with
  |int z=>
   rw[u]at h;have f:(if fg t w (s.getD i []) (s.getD j []) z=Pn then gV (bK (s.getD i []) (s.getD j []) z)else Pt)=gV c:=h
   split at f
   ·rename_i g;cases f;have M:=n _ (show s.getD i []∈s by rw[B',K' (aB E).1];exact Su _);have v:=n _ (show s.getD j []∈s by rw[B',K' (aB a).1];exact Su _);unfold fg at g;simp only[Qs,Py,eY]at g;obtain⟨⟨B,G,_⟩,D,F,I⟩:=g;have J:dM (s.getD i []) (s.getD j []) z=false:=by
     lia
    have y:=(dN M.1 v.1 J).2;have Q:absI z=z:=cj (by lia);have e:absI (-z)=z:=by
     obtain⟨_,L⟩|⟨_,L⟩:=aH (-z)<;>lia
    refine .inr<|.inr<|.inl ⟨i,j,z,(aB E).1,(aB a).1,B,G,λl H=>?_,λl H=>?_⟩
    ·by_cases q:absI l=z
     ·exact .inl (M.1.inj H D<|by simp_all)
     exact .inr<|(y l).mpr ⟨.inl H,q⟩
    by_cases q:absI l=z
    ·exact .inl (v.1.inj H F<|by simp_all)
    exact .inr<|(y l).mpr ⟨.inr H,q⟩
   simp_all
  |_=>simp_all
 split at h
 ·rename_i N;obtain⟨r,rfl,H⟩:=AJ N
  match r,H with
  |[x],_=>
   obtain⟨i,e,rfl⟩:=Qn.mp h;obtain⟨O,P⟩:=aB e;have m:x=.int (i):=P;subst m;refine .inr<|.inr<|.inr ⟨i,O,?_,rfl⟩;rfl
 simp_all
theorem lF{z:Int}(h:1<=z):1+(((z-1).toNat:Nat):Int)=z:=by
 rw[Int.toNat_of_nonneg (Int.sub_nonneg_of_le h),Int.add_comm,Int.sub_add_cancel]
theorem AK(hc:∀c∈cs,ap t.length c)(y:bG t cs w [] D=(o,Pn))(hl:B.length=t.length)
  (hp:∀i r,i<t.length->cD t i=w->(be w D o (1+(i:Int)) D.length).find? (λr=>r.1.all<|hit<|B.take i)=gV r->B[i]?=gV r.2):∀k,k<o.length->K3 w (o.getD k []) B->bw cs B=w:=by
 have ac:o.length=D.length:=by
  have:=dg y;simpa using this
 have u:∀c∈o,ap t.length c:=by
  have:=gu (w:=w) hc (D:=D) (s:=[]) (by simp);rw[y]at this;exact this
 intro k
 induction k using Nat.strongRecOn with
 |ind k ih=>
 intro Q v;by_cases W:∃f,f<k/\K3 w (o.getD f []) B
 ·obtain⟨f,A,H⟩:=W;exact ih f A (Yc A Q) H
 have A:=o8 y<|getD_some (d:=RI) (show k<D.length by exact QH Q (VC ac));have C:∀{i:Nat},i<k->(o.take k).getD i []=o.getD i []:=λ{i} q=>by simp_all
 have X:(o.take k).length=k:=by grind
 have N:∀{f:Nat},f<k->¬K3 w (o.getD f []) B:=λh z=>W ⟨_,h,z⟩;obtain⟨rfl,h⟩|⟨rfl,h⟩|⟨i,j,z,q,E,hz,am,a,b⟩|⟨i,q,hd,e⟩:=C_ (λc h=>u c<|Ss h) A
 ·refine VJ.mpr ⟨_,h,λz=>?_⟩;obtain⟨l,H,p⟩:=P'.mp z;rw[v l H]at p;cases p
 ·refine Qv.mpr λc Zz=>?_;obtain⟨l,H,p⟩:=h c Zz;exact P'.mpr ⟨l,p,v l H⟩
 ·rw[X]at q E;rw[C q]at a;rw[C E]at b;have az:absI z=z:=cj (by lia);have n:=yw (b:=B) (l:=z) (by simp_all) (by simp_all);exfalso;by_cases g:hit B z=w
  ·refine N q λl h=>?_;obtain rfl|h:=a l h
   ·exact g
   exact v l h
  refine N E λl h=>?_;obtain rfl|h:=b l h
  ·rw[n];revert g;cases hit B z<;>cases w<;>simp
  exact v l h
 rw[X]at q;rw[C q]at e;have ok:=eQ u (show i<o.length by exact Yc q Q);exfalso;refine N q λl m=>?_;by_cases U:l∈o.getD k []
 ·exact v l U
 have F:iy t w (o.getD i [])<absI l:=by
  refine XT λg=>U ?_;rw[e];exact PQ.mpr ⟨m,PB g⟩
 have O:=oX m F;have r1:=ok.2 l m;have ei:=lF r1.1
 have T:bY D o k=(o.getD i []).filter λl=>!(o.getD k []).contains l:=by
  unfold bY;rw[hd]
 have Y:∀L∈o.getD k [],(absI L-1).toNat<(absI l-1).toNat:=λL H=>by
  rw[e]at H;have p:=PX (PQ.mp H).2;have h4:=(ok.2 L (PQ.mp H).1).1;lia
 have G:(mU w l<|o.getD k []).1.all (hit<|B.take (absI l-1).toNat)=true:=by
  refine Qv.mpr λL H=>?_;unfold mU at H
  split at H
  ·rename_i d;rw[yB<|Y L H,v L H,d]
  rename_i I;obtain⟨s,p,rfl⟩:=Qe.mp H;have e3:absI (-s)=absI s:=by
   obtain⟨_,e⟩|⟨_,e⟩:=aH s<;>obtain⟨_,e'⟩|⟨_,e'⟩:=aH (-s)<;>lia
  have m3:s∈o.getD i []:=by
   rw[e]at p;exact(PQ.mp p).1
  have r3:=ok.2 s m3;rw[yB (by rw[e3];exact Y s p),yw r3.1 (by simp_all),v s p];lia
 obtain⟨f,r,z1,z2,z3,z4⟩:=yA (H:=w) (d:=D) (o:=o) (v:=absI l) (p:=λr=>r.1.all<|hit<|B.take (absI l-1).toNat) (n:=D.length) (k:=k) (by simp_all)
  ⟨mU w l<|o.getD k [],Qe.mpr ⟨l,by grind,rfl⟩,G⟩
 obtain⟨x,h5,rfl⟩:=Qe.mp z2;obtain⟨h6,J⟩:=PQ.mp h5;have J:=PX J;have ek:f=k:=by
  refine Nat.le_antisymm z1<|i0 λRH=>N RH λL H=>?_;have Z:=Qv.mp z3;unfold mU at Z;by_cases d:w=Pn
  ·rw[PP d]at Z;rw[uY<|Z L H,d]
  rw[PM d]at Z;have h8:=uY<|Z (-L)<|Qe.mpr ⟨L,H,rfl⟩;have M:=(eQ u (show f<o.length by exact SH z1 Q)).2 L H;rw[yw M.1<|by simp_all]at h8;lia
 subst ek;rw[T]at h6;have el:x=l:=ok.1.inj (PQ.mp h6).1 m J;subst el;have P:=hp (absI x-1).toNat _ (by lia) O (by rw[ei];exact z4);unfold hit;rw[P];show(_ == decide (0<x))=w
 unfold mU;cases w with
 |true=>simp
 |false=>
  show(decide (x<0) == decide (0<x))=Pr
  obtain⟨_,e⟩|⟨_,e⟩:=aH x
  ·rw[Pu (Int.not_lt_of_ge ‹_›),PB<|by lia];rfl
  rw[PB ‹_›,Pu<|by exact Int.not_lt_of_ge (jl ‹_›)];rfl
theorem qQ(a:∀c∈C,ap t.length c)(f:bG t C h [] d=(o,Pn))(g:[]∈o)(l:b.length=t.length)
  (p:∀i r,i<t.length->cD t i=h->(be h d o (1+(i:Int)) d.length).find? (λr=>r.1.all<|hit<|b.take i)=gV r->b[i]?=gV r.2):bw C b=h:=by
 obtain⟨k,H,e⟩:=TV g;refine AK a f l p k H ?_;rw[B',K' H,e];exact λy z=>nomatch z
end OD
namespace L2
open PySem PySem.Spec PyProof.Rows
theorem su{P:ab Pm->Prop}(h:∀x u,u.length=n->P (x::u))(u:ab Pm)(e:u.length=n+1):P u:=by
 obtain⟨x,r,rfl⟩:=List.exists_cons_of_length_eq_add_one e;exact h x r<|Nat.succ.inj e
theorem sA{P:ab Pm->Prop}(h:P [])(u:ab Pm)(e:u.length=0):P u:=by
 simp_all
structure DA (mg:Str->M' Pm)(K:J')(x:Str)(st:QW)(f:C')(fd:PR):Prop where
 F:Fun K x x st f fd
 a:mg x=gV (.ref f)
structure DM (K:J')(C:C')(m q:Str)(st:QW)(f:C')(fd:PR):Prop where
 F:Fun K m q st f fd
 a:Qy K (.ref C) m=gV (gV<|.ref f)
 i:WG K (.ref f)=Pn
section
variable (P:PU)(w:Qc)(base:QB){K:J'}{mg:Str->M' Pm}{x m q:Str}{st:QW}{f C:C'}{fd:PR}{k:Nat}{ps:ab Str}{sp:Sp}
abbrev N8(x q:Str)(st:QW)(ps:ab Str):Prop:=∀(kV Z p:Pm) (a:M' C') (r c:Pm) (u:ab Pm),u.length=ps.length->Z8 (SO x q (fz st) (cP st) (aA st) .none kV Z p a r c) ⟨u,[]⟩=pure (ps.zip u)
theorem DA.of{h:QB}(X:K.In h)(G:h.Ns Qr mg)(a:QR K Qr x=gV (gV<|.ref f))(F:Fun K x x st f fd):DA mg K x st f fd:=⟨F,Ta X G a⟩
theorem DM.of(a:Qy K (.ref C) m=gV (gV<|.ref f))(i:WG K (.ref f)=Pn)(F:Fun K m q st f fd):DM K C m q st f fd:=⟨F,a,i⟩
theorem Fun.bs(F:Fun K x q st f fd)(b:N8 x q st ps:=by intro z z z z z z;(repeat' refine su λz=>?_);exact sA rfl):Binds K fd ps []:=F.binds b
theorem DA.fn(D:DA mg K x st f fd)(o:ay P w K mg base aV k f fd ps sp)(b:N8 x x st ps:=by intro z z z z z z;(repeat' refine su λz=>?_);exact sA rfl):Fn P w K mg base k x f fd ps sp:=⟨o,D.F.binds b,D.F.kp,D.a⟩
theorem DM.mt{c:BY}(D:DM K C m q st f fd)(l:Cls K C)(o:ay P w K mg base c k f fd ps sp)(b:N8 m q st ps:=by intro z z z z z z;(repeat' refine su λz=>?_);exact sA rfl):tV P w K mg base c k C m f fd ps sp:=⟨o,D.F.binds b,l,⟨D.a,D.i,D.F.kp⟩⟩
end
section
variable (P:PU)(w:Qc)(base:QB)
theorem DA.fe{K:J'}{m:Str->M' Pm}{x:Str}{st:QW}{f:C'}{d:PR}{k:Nat}{p:ab Str}{s:Sp}(D:DA m K x st f d)(o:ay P w K m base aV k f d p s)(b:N8 x x st p:=by intro z z z z z z;(repeat' refine su λz=>?_);exact sA rfl):Fe P w K m base k x s:=⟨_,_,_,o,D.F.binds b,D.F.kp,D.a⟩
end
theorem funL_mk{K:J'}{x q:Str}{st:QW}{f c:C'}{O:Pm}{b a:M' C'}{o:RW (M' Pm)}{kV Z p C:Pm}(l:K.lookup f=gV ⟨O,b,.func<|SO x q (fz st) (cP st) (aA st) .none kV Z p a (.ref c) C,o⟩)
  (d:Vv K (.ref c) q=Pn):FunL K x q st f (SO x q (fz st) (cP st) (aA st) .none kV Z p a (.ref c) C) c:=⟨O,b,kV,Z,p,a,C,o,rfl,l,d⟩
end L2
namespace OD
open PySem L2
theorem o9(m:N6 0 t.length C)(o:Px)(g:ab Px->Px):∀f B,B.length+f=t.length->bR t C f B.length (fm B)=o->∃r,B.length+r.length=t.length/\bw C (B++r)=o/\∀i,B.length<=i->i<t.length->cD t i≠o->(B++r)[i]?=gV (g<|(B++r).take i)
 |0,B,h,e=>by
  have p:B.length=t.length:=h
  refine⟨[],h,?_,λi w w=>by lia⟩;have E:=e;rw[<-E,QN];refine oY λc q=>dG λl H=>?_;have:=m c q l H;rw[yl (by lia) (by simp_all),p]
 |f+1,B,h,e=>by
  have E:(if cD t _=Pn then bR t C f _ _ || bR t C f _ _ else bR t C f _ _&&bR t C f _ _)=o:=e;have d:∃b,bR t C f (B.length+1) (2*fm B+if b=Pn then 1 else 0)=o/\(cD t B.length≠o->b=g B):=by
   cases x:bR t C f (B.length+1) (2*fm B)<;>cases y:bR t C f (B.length+1) (2*fm B+1)<;>cases z:cD t _<;>cases o<;>rw[x,y,z]at E<;>
    first|(cases E;done)|exact⟨Pr,x,λz=>absurd rfl z⟩|exact⟨Pn,y,λz=>absurd rfl z⟩|exact⟨g B,by cases g B<;>assumption,λw=>rfl⟩
  obtain⟨b,s,u⟩:=d;obtain⟨r,v,n,j⟩:=o9 m o g f (B++[b]) (by rw[Pl,Qg];exact Eq.trans (Nat.add_right_comm _ _ _) h) (by rwa[lV,Pl]);rw[Qu]at n j;rw[Pl,Qg]at v j;refine⟨[b]++r,by rw[Pl,Qg];lia,n,λi a k c=>?_⟩;obtain rfl|a:=Ue a
  ·rw[YW,PV<|Po _,QO,u c];rfl
  exact j i a k c
theorem wO(H:∀c∈C,ap t.length c)(h:bG t C w [] d=(o,Pn))(e:[]∈o):bR t C t.length 0 0=w:=by
 obtain⟨r,a,f,g⟩:=o9 (λc Z l j=>by have:=(H c Z).2 l j;assumption) _ (λb=>match (be w d o (1+(b.length)) _).find? λr=>r.1.all (hit b)with
  |some r=>r.2
  |none=>Pr) _ [] (Sg _) rfl
 refine UU λn=>n<|f.symm.trans<|qQ H h e ((Sg _).symm.trans a) λi q k m p=>?_;rw[g i (P8 _) k λz=>n<|z.symm.trans m,P9,Wu (by rw[Ul];have:=(Sg _).symm.trans a;lia),p]
theorem o_(h:b[(absI l-1).toNat]?=c[(absI l-1).toNat]?):hit b l=hit c l:=by unfold hit;rw[h]
theorem fF(h:∀c∈C,∃k∈d,∀l∈k,l∈c)(e:bw d u=Pn):bw C u=true:=
 ee.mpr λc H=>by
  obtain⟨k,a,s⟩:=h c H;obtain⟨l,b,g⟩:=ee.mp e k a;exact⟨l,s l b,g⟩
theorem yC(d:∀c∈C,∀l∈c,1<=absI l)(f:1<=absI z)(i:∀j,j≠(absI z-1).toNat->b[j]?=u[j]?) (v:hit b z=Pn) (h:bw (bp z C) u=Pn):bw C b=true:=
 ee.mpr λc a=>by
  by_cases m:z∈c
  ·exact⟨z,m,v⟩
  obtain⟨l,k,g⟩:=ee.mp h _<|eX.mpr ⟨c,a,m,rfl⟩;obtain⟨H,n⟩:=gs.mp k;exact⟨l,H,by rwa[o_<|i _<|wL (d c a l H) f (λe=>m<|e▸H) n]⟩
theorem Da(a:1<=absI z)(d:absI z<=(b.length:Int))(f:[z]∈C)(h:bw C b=Pn):bw (bp z C) b=true:=by
 have e:hit b z=true:=by
  obtain⟨l,m,g⟩:=ee.mp h _ f;rwa[Pw.mp m]at g
 refine ee.mpr λk i=>?_;obtain⟨c,m,y,rfl⟩:=eX.mp i;obtain⟨l,H,g⟩:=ee.mp h c m;refine⟨l,gs.mpr ⟨H,λq=>?_⟩,g⟩;rw[q,yw a d,e]at g;cases g
theorem Db(d:∀c∈C,∀l∈c,1<=absI l)(e:1<=absI z)(f:∀j,j≠(absI z-1).toNat->b[j]?=u[j]?) (v:hit b z=Pr) (h:bw C b=Pn):bw (bp (-z) C) u=true:=by
 refine ee.mpr λk i=>?_;obtain⟨c,m,n,rfl⟩:=eX.mp i;obtain⟨l,H,g⟩:=ee.mp h c m;have a:l≠z:=λq=>by simp_all
 exists l,gs.mpr ⟨H,by rwa[Wi]⟩;rwa[<-o_<|f _<|wL (d c m l H) e a λq=>n<|q▸H]
theorem AL(H:∀c∈C,∀l∈c,1<=absI l/\absI l<=(B.length:Int))(r:k∈C)(o:z∈k)(p:∀c∈C,c=k\/c∈D)(t:∀c∈C,-z∈c->∃a∈c,absI a<absI z/\ -a∈k)
  (v:∀j,j≠(absI z-1).toNat->B[j]?=u[j]?) (x:((∃l∈k,hit B l=Pn)/\B=u)\/((∀l∈k,absI l<absI z->hit B l=Pr)/\hit B z=Pn)) (h:bw D u=Pn):bw C B=true:=
 ee.mpr λc m=>by
  obtain⟨s,rfl⟩|⟨n,e⟩:=x
  ·obtain rfl|g:=p c m
   ·exact s
   exact ee.mp h c g
  obtain rfl|g:=p c m
  ·exact⟨z,o,e⟩
  obtain⟨l,d,q⟩:=ee.mp h c g;by_cases w:-z∈c
  ·obtain⟨a,i,s,b⟩:=t c m w;have E:absI (-a)=absI a:=by obtain⟨Z,e⟩|⟨Z,e⟩:=aH a<;>obtain⟨Z,A⟩|⟨Z,A⟩:=aH (-a)<;>lia
   have f:=n _ b (by rwa[E]);rw[yw (H c m a i).1 (H c m a i).2]at f;grind
  by_cases y:l=z
  ·exact⟨z,y▸d,e⟩
  exact⟨l,d,by rwa[o_<|v _<|wL (H c m l d).1 (H k r z o).1 y λq=>w<|q▸d]⟩
theorem Dc{left:ab Int}(H:k∈C)(d:∀c∈D,c=left\/c∈C)(f:((∃l∈left,hit b l=Pn)/\b=u)\/((∀l∈left,hit b l=Pr)/\∀l∈k,l∉left->hit b l=Pr))(h:bw C b=Pn):bw D u=true:=
 ee.mpr λc m=>by
  obtain⟨s,rfl⟩|⟨n,e⟩:=f
  ·obtain rfl|g:=d c m
   ·exact s
   exact ee.mp h c g
  obtain⟨l,a,q⟩:=ee.mp h k H;grind
end OD
namespace L2
open PySem PySem.Spec PyProof.Rows
structure Bl (mg:Str->M' Pm):Prop where
 len:mg "len"=Pt
 range:mg "range"=Pt
 tuple:mg "tuple"=Pt
 sorted:mg "sorted"=Pt
 isinstance:mg "isinstance"=Pt
 int:mg "int"=Pt
 bool:mg "bool"=Pt
 list:mg "list"=Pt
 abs:mg "abs"=Pt
 all:mg "all"=Pt
 zip:mg "zip"=Pt
 set:mg "set"=Pt
 any:mg "any"=Pt
 max:mg "max"=Pt
 enumerate:mg "enumerate"=Pt
 dict:mg "dict"=Pt
 min:mg "min"=Pt
 g_WISHER:kI mg "WISHER" (.str<|PD "wisher")
 g_SPOILER:kI mg "SPOILER" (.str<|PD "spoiler")
section
variable {X:Cx}{x:Str}{pos Vf:Pos}
theorem sT{e:QS}{t:TE}(i:Nat)(h:PE X e t)(H:X.N.Nodup:=by exact eH.nd<|by assumption)(a:X.N[i]?=gV x:=by exact nn) (b:JP X.env.scope x:=by first|exact ZJ rfl|exact X' rfl) (s:WL e (gV<|.Name x Vf) pos.line X.env=pure false:=by rfl) (f:X.fn x=Pn\/X.env.scope.names.lookup x=gV .local:=by first|exact .inl rfl|exact .inr rfl|assumption):
  PS X (.Assign [.Name x Vf] e pos) (JW t<|eW i):=JY H a b h s f
theorem fS{s:QS}{w:TI}{t:TS}{b:ab QW}(i:Nat)(h:PI X (.Name x Vf) s w)(H:PSs X b t)(p:vl (Qj X.prog X.w) X.A X.env X.xe:=by exact Rc)(c:X.calm=true:=by rfl)(g:PG X (.Name x Vf) (eW i):=by exact qp _<|eH.nd<|by assumption)(a:∀x,Tv s X.env x=pure x:=by intro z;rfl):
  PS X (.For (.Name x Vf) s b [] pos) (Ml w (eW i) t):=fI p c h g H a
end
theorem kA{p:Prop}(h:p:=by first|exact h_ (Room.units ‹_›)|exact wx (Room.units ‹_›)|exact BP|exact xV|exact qw|exact oe|exact BO|exact Iq|exact BI|exact BJ|exact BK|exact FZ|exact J5|exact J6|exact BL|exact BN):p:=h
theorem gg{p:Prop}(h:p:=by
 repeat' (show(_:Prop);first
  |(show PSs _ _ _;first|refine' di ?_|refine' au ?_|refine' ae ?_ ?_|exact aK)
  |(show PS _ _ _;first|refine' bu ?_ ?_ ?_|refine' cG ?_|refine' jJ ?_ ?_ rfl|refine' sT _ ?_)
  |(show PA _ _ _;first|refine' aM ?_ ?_|exact hU)
  |(show PT _ _ _;first|refine' AI kA ?_ ?_|refine' gi lQ ?_ ?_ (by with_unfolding_all rfl)|refine' gi hV ?_ ?_ (by with_unfolding_all rfl)|refine' PW.pt (t5 ?_ ?_)|refine' PW.pt (rJ ?_ ?_)|refine' iG ?_|refine' gH ?_)
  |(show PW _ _ _;first|refine' t5 ?_ ?_|refine' rJ ?_ ?_|refine' vR ?_|refine' rH ?_)
  |(show PG _ _ _;first|exact qp _ (eH.nd ‹_›)|refine' BH rfl ?_)
  |(show JV _ _ _;first|refine' n9 ?_ ?_|exact xR)
  |(show PI _ _ _ _;first|refine' lL rfl (Bl.range ‹_›) ?_|refine' qv rfl (Bl.range ‹_›) ?_|refine' qI rfl (Bl.range ‹_›) ?_|refine' kE rfl (Bl.enumerate ‹_›) ?_)
  |(show PO _ _ _;first|refine' Ga ?_|exact eM)
  |(show PE _ (.Name _ _) _;first|exact pv _|exact bL rfl (Bl.g_WISHER ‹_›)|exact bL rfl (Bl.g_SPOILER ‹_›)|exact nu (v:=.ty "bool") rfl (Bl.bool ‹_›) ada rfl|exact nu (v:=.ty "int") rfl (Bl.int ‹_›) Ur rfl|exact nu (v:=.ty "tuple") rfl (Bl.tuple ‹_›) Ro rfl|exact nu (v:=.ty "list") rfl (Bl.list ‹_›) UZ rfl)
  |(show PE _ (.Call (.Name _ _) _ _ _) _;first|refine' wM ‹_› ‹_› ?_|refine' aR dq rfl (Bl.len ‹_›) R9 ?_|refine' aR ul rfl (Bl.isinstance ‹_›) Wt ?_|refine' aR oh rfl (Bl.abs ‹_›) Us ?_|refine' aR (iM rfl) rfl (Bl.any ‹_›) Tn ?_|refine' aR (oJ rfl) rfl (Bl.all ‹_›) VR ?_|refine' aW bP rfl (Bl.tuple ‹_›) Ro ?_|refine' aW kr rfl (Bl.list ‹_›) UZ ?_|refine' aW lO rfl (Bl.int ‹_›) Ur ?_|refine' M_ ‹_› ‹_› (by lia) rfl ?_)
  |(show PE _ (.Call _ _ _ _) _;first|refine' fJ QD Ra Ri cK ?_ ?_|refine' Kf QD ZG PySem.F.type_list_pop Kg ?_|refine' iQ ‹_› ?_ ‹_› (by lia) ?_|refine' K0 ‹_› ?_ ‹_› (by lia))
  |(show PE _ (.BinOp _ _ _ _) _;first|refine' cN kA ?_ ?_)
  |(show PE _ (.Compare _ _ _ _) _;first|refine' AH kA ?_ ?_|refine' jh lQ ?_ ?_ (by with_unfolding_all rfl)|refine' jh hV ?_ ?_ (by with_unfolding_all rfl))
  |(show PE _ _ _;first|exact cF|refine' K1 ?_ ?_|exact iE|exact gb|exact gG|refine' eD ?_|refine' BX ?_|refine' BW ?_ rfl|refine' vS ?_ ?_|refine' Ik ?_ ?_|refine' rK ?_|refine' JR ?_|refine' Mm J7 ?_|refine' nY ?_ ?_ ?_)
  )):p:=h
theorem Fun.okB{P:PU}{w:Qc}{K:J'}{m:Str->M' Pm}{b:QB}{x q:Str}{st:QW}{f:C'}{d:PR}{N p:ab Str}{k:Nat}{a:Sp}(F:Fun K x q st f d)
  (h:∀c A o s H v Q E,eH N p (aA st)->Room k (A.deeper<|Rr q (aA st) s.heap.objs.size f c)->a v H Q E->
   ∃t,PSs (rM aV P w K m b N q (aA st) f c A o s H E).nox (cP st) t/\t {nx:=λy e=>Q .non e,rt:=Q} (start N v) H)
  (S:eH N p (aA st):=by exact GW) (l:∀v H Q E,a v H Q E->v.length=p.length:=by intro y y y y h;repeat (first|(cases h<;>subst_vars<;>rfl)|obtain⟨y,h⟩:=h)):ay P w K m b aV (k+1) f d p a:=F.okA S (λy y y y y y y y r z=>h _ _ _ _ _ _ _ _ S r z) l
section
variable {X:Cx}{x:Str}{elt UM:QS}{te:TE}{tt:TT}{wi:TI}{pos Vf:Pos}{ifs:ab QS}{scope:T_}{cl:ab (Str×C')}
theorem jR(N:ab Str)(i:ab (M' Nat))(a:PI X (.Name x Vf) UM wi)(S:CompSc X scope cl N i:=by exact cS)(t:∀C f s H,Kz (bN X scope cl N C f s H) ifs tt:=by intro z z z z;first|exact nC|exact dA gg)(e:∀C f s H,PE (bN X scope cl N C f s H) elt te:=by intro z z z z;exact gg)(c:X.calm=true:=by rfl)
  (n:N.Nodup:=by decide+kernel) (g:∀C f s H,(bN X scope cl N C f s H).N.Nodup->PG (bN X scope cl N C f s H) (.Name x Vf) (eW 0):=by exact λz z z z h=>qp 0 h) (b:∀x,Tv UM X.env x=pure x:=by intro z;rfl):PE X (.ListComp elt [⟨.Name x Vf,UM,ifs,0⟩] scope pos) (uo i wi (eW 0) tt te):=rT c S a (λz z z z=>g _ _ _ _ n) t e b
theorem K4{q:Pos}{a:Pos}{y:Str}(i:Nat)(N:ab Str)(I:ab (M' Nat))(b:PI X (.Name x Vf) UM wi)(S:CompSc X scope cl N I:=by exact cS)(t:∀C f s H,Kz (bN X scope cl N C f s H) ifs tt:=by intro z z z z;first|exact nC|exact dA gg)(e:∀C f s H,PE (bN X scope cl N C f s H) elt te:=by intro z z z z;exact gg)(c:X.N.Nodup:=by exact eH.nd<|by assumption)(d:X.N[i]?=gV y:=by rfl) (l:X.env.scope.names.lookup y=gV .local:=by rfl) (g:X.calm=true:=by rfl)
  (n:N.Nodup:=by decide+kernel) (j:∀C f s H,(bN X scope cl N C f s H).N.Nodup->PG (bN X scope cl N C f s H) (.Name x Vf) (eW 0):=by exact λz z z z h=>qp 0 h) (w:WL (.ListComp elt [⟨.Name x Vf,UM,ifs,0⟩] scope pos) (gV<|.Name y q) a.line X.env=pure true:=by with_unfolding_all rfl) (k:∀x,Tv UM X.env x=pure x:=by intro z;rfl):
  PS X (.Assign [.Name y q] (.ListComp elt [⟨.Name x Vf,UM,ifs,0⟩] scope pos) a) (ur i<|uo I wi (eW 0) tt te):=wz c d l g S b (λz z z z=>j _ _ _ _ n) t e w k
end
end L2
namespace K92
open PySem L2 OD
seal PE PS PSs PA PT PG JV PI PO PW OpR Rf U2
noncomputable def bS(i:Nat):QW:=PySem.Challenge.pw_oathduel_k92_whole_smaller_to_the_end.main.body.getD i<|.Pass ⟨0,0,0,0⟩
noncomputable abbrev Dd:QW:=bS 89
noncomputable abbrev Nm:QW:=bS 90
noncomputable abbrev De:QW:=bS 91
noncomputable abbrev IU:QW:=bS 92
noncomputable def fQ(n:ab Int)(k:Int):Int:=n.getD k.toNat 0
noncomputable def Df(c k:Int)(b:Px):Int:=if b=Pn then((c*48271+k*69621+11)%2147483629*((c*48271+k*69621+11)%2147483629)%2147483587)*((c*48271+k*69621+11)%2147483629*((c*48271+k*69621+11)%2147483629)%2147483587)%2147483563 else c
inductive wP (K:J')(vs:ab V)(H:Hp)(Q:VK)(E:XK):Prop
 |mk (a:C')(ns:ab Int)(k:Int)(h0:vs=[.ref a,.int k])(h:SqL K H a (ns.map V.int))(b:0<=k)(c:Q (.int<|fQ ns k) H)
inductive Dg (vs:ab V)(H:Hp)(Q:VK)(E:XK):Prop
 |mk (c k:Int)(b:Px)(h0:vs=[.int c,.int k,.bl b])(h:Q (.int<|Df c k b) H)
def Dh(n:Int)(H:Hp)(Q:VK):Prop:=∀(p:C') (l:ab Int) (h:Hp),Same H h->h p=gV (.tup<|l.map V.int)->ClOk n l->l.length<=4->Q (.ref p) h
def yD:Sp:=λv H Q _=>∃c n:Int,v=[.int c,.int n]/\0<=n/\n<1000/\Dh n H Q
inductive wQ (K:J')(vs:ab V)(H:Hp)(Q:VK)(E:XK):Prop
 |mk (a:C')(ns:ab Int)(m:Int)(h0:vs=[.ref a,.int m])(b:SqL K H a (ns.map V.int))(d:ns.length<=63)(e:0<=m)(f:m<20)(g:∀(p:C') (t:Str) (cs:ab (ab Int)) (h:Hp),Same H h->RD h (oM t cs) (.ref p)->Pj m t cs->(∀c∈cs,c.length<=4)->Q (.ref p) h)
noncomputable def Di(s:Int):Int:=if s=0 then 1 else -1
noncomputable def kP(p:ab (Int×Int)):ab (Int×Int):=p.map λq=>(q.1,Di q.2)
theorem Dj(p:ab (Int×Int))(k s:Int):kP (qo p k s)=qo (kP p) k (Di s):=by
 have e:((kP p).any λq=>decide (q.1=k))=(p.any λq=>decide (q.1=k)):=by
  unfold kP;rw[Uh];rfl
 unfold qo;rw[e]
 split
 ·unfold kP;rw[Qm,Qm];refine UW λq z=>?_;lia
 unfold kP;rw[P6];rfl
theorem AM(p:ab (Int×Int))(k:Int):jF (kP p) k=(jF p k).map Di:=by
 induction p with
 |nil=>rfl
 |cons q r i=>
  unfold kP at i ⊢;unfold jF at i ⊢;rw[Qf,RO,RO];by_cases h:q.1=k
  ·simp[h]
  simp only[h];exact i
theorem qR(p:ab (Int×Int)):(kP p).map (·.1)=p.map (·.1):=by
 unfold kP;rw[Qm];rfl
theorem wR(s:Int):Di s=1\/Di s=-1:=by
 unfold Di
 lia
theorem K5(h:r=0\/r=1):kn [V.int 1,V.int (-1)] r=gV (.int<|Di r):=by
 obtain rfl|rfl:=h<;>rfl
theorem K6:eH ["_law_script","_law_k"] ["_law_script","_law_k"] (aA Dd):=GW
theorem GX(F:Fun K "_law_cell_at" "_law_cell_at" Dd f g)(T:Bl m):ay P w K m B aV 1 f g ["_law_script","_law_k"] (wP K):=by
 refine F.okA K6 λl A o s H p Q E r h=>?_;obtain⟨a,n,k,rfl,d,i,q⟩:=h;exists _,gg;exists _,rfl,_,rfl,.ref a,_,rfl,.inl ⟨_,d,rfl⟩,_,_,rfl,rfl,_,rfl;refine iA (λc=>?_) λc=>?_
 ·have C:k<(((n.map _).length)):=PX c;rw[A']at C;obtain⟨v,b,j⟩:=Cn i C;have e:fQ n k=v:=by
   unfold fQ;rw[B',b];rfl
  rw[e]at q;exact⟨_,rfl,_,rfl,.inl ⟨a,_,k,.int v,rfl,rfl,d,j,q⟩⟩
 have C:¬k<(((n.map _).length)):=λz=>c<|PB z;rw[A']at C;have e:fQ n k=0:=by
  unfold fQ;simp_all
 rwa[e]at q
theorem K7(F:Fun K "_law_mix" "_law_mix" Nm f d):ay P w K m B aV 1 f d ["_law_cell","_law_k","_law_mixed"] Dg:=by
 refine F.okB (N:=["_law_cell","_law_k","_law_mixed","_law_number"]) λC A o s H v Q E a r h=>?_;obtain⟨c,k,b,rfl,q⟩:=h;exists _,gg;exists _,rfl,_,rfl;cases b with
 |false=>exact ar ⟨_,rfl,q⟩
 |true=>
  exists _,rfl,_,_,rfl,rfl,.inr (by simp),_,rfl,_,_,rfl,rfl,.inr (by simp),_,_,rfl,rfl,_,_,rfl,rfl,_,_,rfl,rfl,(by simp);exists _,rfl,_,rfl,_,_,rfl,rfl,.inl (by grind),_,_,rfl,rfl,(by simp);exact⟨_,rfl,_,rfl,_,_,rfl,rfl,.inl (by lia),_,_,rfl,rfl,(by simp),q⟩
inductive uZ (n:Int)(d:C')(c:Int)(H:Hp)(i:Nat)(a:ab (M' V))(h:Hp):Prop
 |mk (C:Int)(p:ab (Int×Int))(j:M' V)(I:a=[gV<|.int C,gV<|.int n,gV<|.ref d,gV<|.int<|c%5,j])(b:h d=gV (.dK<|dP p))(e:Same H h)(f:DOk n (kP p))(g:(∀z∈p,z.2=0\/z.2=1))(k:p.length<=i)
inductive u4 (d:C')(ks:ab Int)(p:ab (Int×Int))(D:C')(h:Hp)(i:Nat)(a:ab (M' V))(ys:ab V)(H:Hp):Prop
 |mk (I:(∃v,a=[v,gV (.ref d)]))(c:ys=((ks.take i).map λk=>V.int<|k*KF (kP p) k))(e:H D=gV (.lst ys))(f:(∀b o,b≠D->h b=gV o->H b=gV o))
theorem Dk(F:Fun K "_law_drawn" "_law_drawn" De f fd)(T:Bl mg):ay P w K mg aL aV 1 f fd ["_law_number","_law_count"] yD:=by
 refine F.okB (N:=["_law_number","_law_count","_law_signs","_law_size","_law_k"]) λR8 A ac s H vs Q E sc hr h=>?_;obtain⟨c,n,rfl,n0,n1,q⟩:=h;have hu:=hr.units;have V8:=mN hr;refine⟨_,(ae (sT 2 oz)
  (ae gg
  (ae gg
  (ae (fS 4 gg (au (bu gg (ae (rR V8 (pv 2) gg gg rfl)
    gg) aK)))
  (di<|aW bP rfl T.tuple Ro<|gT<|jR ["_law_variable","_law_signs"] [Pt,gV 2] (aO<|aR (uw rfl) rfl T.sorted Wo<|gT<|pv 2) (e:=λS S S S=>(cN BK (pv 0)<|C9 (K:=K) gg<|bv V8 (pv 1) (pv 0) λS S=>rfl))))))),?_⟩
 intro d hd;have c5:=Um c (show(5:Int)≠0 by decide);have a0:=Th c (show(0:Int)<5 by decide);exists _,rfl,_,_,rfl,rfl,(by show(0:Int)<5;decide),_,rfl,_,_,rfl,rfl,⟨by decide,by decide⟩;refine⟨_,rfl,c%5,rfl,(by lia),(aaU a0 (by decide)),jg (lo:=0) (n:=(c%5).toNat)
  (uZ n d c H)
  ⟨_,[],Pt,rfl,aa,ad hd _,DOk.nil n,(λS z=>nomatch z),Po _⟩ ?_ ?_⟩
 ·rintro i W H2 hi ⟨C,p,jv,rfl,Z,L,a,j,hl⟩;refine⟨_,rfl,_,_,rfl,rfl,_,rfl,iA (λg=>?_) λg=>?_⟩
  ·have g':0<n:=PX g;have m1:=Um C (show n≠0 by lia);have m2:=Th C g';have s1:=Um (C/n) (show(2:Int)≠0 by decide);have s2:=Th (C/n) (show(0:Int)<2 by decide);exists _,rfl,_,rfl,_,_,rfl,rfl,⟨g',aaU n1 (by decide)⟩,_,_,rfl,rfl,(by show(0:Int)<2;decide);exists _,rfl,_,rfl,_,rfl,_,_,rfl,rfl,g',_,_,rfl,rfl,d,_,rfl,DPut.k (k:=Qd (1+C%n)) Z (by unfold dP;rw[A'];exact ak<|by lia);exists _,rfl,_,rfl,_,_,rfl,rfl,.inl ⟨by decide,by decide⟩,_,_,rfl,rfl,⟨by lia,by lia⟩;obtain⟨o1,o2⟩:=a.put (k:=1+C%n) (s:=Di<|C/n%2) (by lia)<|wR _;rw[<-Dj]at o1 o2;have ml:∀l,(kP l).length=l.length:=λl=>A' _;rw[ml,ml]at o2;refine⟨_,qo p (1+C%n)<|C/n%2,_,rfl,?_,L.upd_new hd _,o1,λz hz=>?_,by lia⟩
   ·rw[aa];exact Qq (λz=>gV<|HO.dK z)<|KD _ _ _
   unfold qo at hz
   split at hz
   ·obtain⟨y,hy,e⟩:=Qe.mp hz
    split at e
    ·rw[<-e];show C/n%2=0\/C/n%2=1
     lia
    rw[<-e];exact j y hy
   obtain y|y:=P5.mp hz
   ·exact j z y
   rw[Pw.mp y];show C/n%2=0\/C/n%2=1
   lia
  exact⟨C,p,_,rfl,Z,L,a,j,aaT hl⟩
 rintro W H2 ⟨C,p,jv,rfl,Z,L,a,j,hl⟩;refine⟨_,rfl,d,dP p,p.map (·.1),rfl,Z,Gw p,by rw[A'];lia,λl u M m am=>⟨l,rfl,⟨_,SqL.of aa⟩,λD hD=>?_⟩⟩;have a1:u.length=p.length:=by rw[m.length_eq,A']
 have k3:=L.upd_new (L.free M)<|.lst<|u.map V.int;have v:upd H2 l (.lst<|u.map V.int) d=gV (.dK<|dP p):=by rw[af<|ag Z M];exact Z
 have B:=@aa H2 l (.lst<|u.map V.int);generalize upd H2 l (.lst<|u.map V.int)=H3 at k3 v B hD;refine bQ (K:=K) (a:=l) (xs:=u.map V.int) (u4 d u p D H3)
  ⟨⟨Pt,rfl⟩,rfl,aa,λb o hb e=>by rw[af hb];exact e⟩ ?_ ?_ ?_
 ·rintro i W Y N S ⟨S,S,J,G⟩;exact⟨J,SqL.of<|G _ _ (ag B hD) B⟩
 ·rintro i x W Y N hx ⟨⟨v0,rfl⟩,X,J,G⟩;obtain⟨k,rfl,hk⟩:=cn hx;have km:k∈p.map (·.1):=m.mem_iff.mp<|Pq hk;obtain⟨O,a2⟩:=a.look (k:=k) (by rw[qR];exact km);rw[AM]at O;obtain⟨r,I,an⟩:=Qn.mp O;have as:r=0\/r=1:=by
   unfold jF at I;obtain⟨y,av,az⟩:=Qn.mp I;rw[<-az];exact j y<|Re av
  have YA:i<u.length:=(N'.mp hk).1;have a3:Y.length<=60:=by
   rw[X,A',P9];lia
  have nd:d≠D:=ag v hD;refine cy ⟨_,rfl,_,rfl,(by show 2<=sizeLine;decide),λe he=>?_⟩;have aC:upd N e (.lst [.int 1,.int (-1)]) d=gV (.dK<|dP p):=by rw[af<|ag (G _ _ nd v) he];exact G _ _ nd v
  have hv:DGet (upd N e<|.lst [.int 1,.int (-1)]) d (.int k) (gV<|.int r):=by
   have z:=DGet.k (k:=Qd k) aC;rw[KE,I]at z;exact z
  refine⟨_,rfl,_,rfl,d,_,rfl,hv,(fY aa (K5 as) ⟨_,_,rfl,rfl,.inr ⟨?_,?_⟩,?_,ak (QF a3 (by decide)),⟨_,rfl⟩,?_,aa,λb o hb eb=>?_⟩)⟩
  ·obtain z|z:=wR r<;>rw[z]<;>decide
  ·obtain z|z:=wR r<;>rw[z]<;>decide
  ·rwa[af<|ag J he]
  ·rw[X,Qb,hk,P6,an];rfl
  have U:=G b o hb eb;rwa[af hb,af<|ag U he]
 rintro W Y N ⟨S,X,J,G⟩;rw[A',PJ<|Po _]at X;have aF:Y=(u.map λk=>k*KF (kP p) k).map V.int:=by rw[X,Qm];rfl
 refine⟨D,Y,rfl,.inl ⟨SqL.of J,λt ht=>?_⟩⟩;have nH:=k3.free hD;have k4:Same H N:=λb o e=>G b o (ag e nH)<|k3 b o e;refine q t _ _ (k4.upd_new (k4.free ht) _) (by rw[aa,aF]) (a.clause (by rwa[qR]) am) ?_;rw[A'];lia
theorem tv(a n:Nat):min (a+12) n-min a n<=12:=Nat.sub_le_of_le_add (by rw[Nat.add_comm 12,<-Nat.add_min_add_right];exact Nat.le_min.2 ⟨Nat.min_le_left _ _,QF (Nat.min_le_right _ _) (V6 _ _)⟩)
theorem GY{n:ab Int}:(dE (n.map V.int) (gV 3)<|gV 15).length<=12:=by
 unfold dE;have e:HT.sIx (n.map V.int).length 0 (gV 3)=min 3 _:=rfl;rw[e,P9];exact QF (Nat.min_le_left _ _) (tv 3 _)
theorem sB(h:∀N,(∀a c,B D a c->N a c)->A {D with nx:=N} b H):nZ A B D b H:=h _ λy y z=>z
inductive qS (a:C')(m:Int)(first:Int)(ns:ab Int)(q:C')(p:C')(H:Hp)(r:Int)(i:Nat)(b:ab (M' V))(h:Hp):Prop
 |mk (xs:ab V)(cs:ab (ab Int))(v:M' V)(I:b=[gV<|.ref a,gV<|.int m,gV<|.int first,gV<|.int (first/2%(m+1)),gV<|.int<|Df (fQ ns 1) 1 (decide (V.int (first%2)=V.int 1)),gV<|.int<|fQ ns 2/7,gV<|.ref q,v,Pt])(d:h q=gV (.lst xs))(e:h p=gV (.lst<|dE (ns.map V.int) (gV 3)<|gV 15))(f:CLs h cs xs)(g:Same H h)(j:cs.length=i)(k:∀c∈cs,ClOk r c/\c.length<=4)
inductive qT (r:Int)(H:Hp)(D:C')(i:Nat)(b:ab (M' V))(ys:ab V)(h:Hp):Prop
 |mk (I:(∃v,b=[v,gV<|.int r]))(c:(∃a:ab Str,ys=a.map V.str/\a.length=i/\∀s∈a,oN s))(d:h=upd H D (.lst ys))
inductive lZ (ns:ab Int)(D:C')(H:Hp)(q:C')(xs:ab V)(cs:ab (ab Int))(r:Int)(i:Nat)(a:ab (M' V))(ys:ab V)(h:Hp):Prop
 |mk (I:(∃v,a=[v,gV<|.int<|fQ ns 2/7]))(b:h D=gV (.lst ys))(d:Same H h)(e:h q=gV (.lst xs))(f:CLs h cs xs)(C:ab (ab Int))(g:C.length<=i)(j:CLs h C ys)(k:∀c∈C,ClOk r c/\c.length<=4)
theorem GZ(F:Fun K "_law_sentence" "_law_sentence" IU f fd)(T:Bl mg)(VD:Fe P w K mg B 1 "_law_cell_at" (wP K))(bb:Fe P w K mg B 1 "_law_mix" Dg)
  (bc:Fe P w K mg B 1 "_law_drawn" yD):ay P w K mg B aV 2 f fd ["_law_script","_law_most"] (wQ K):=by
 refine F.okB (N:=["_law_script","_law_most","_law_first","_law_count","_law_turn","_law_odd","_law_clauses","_law_cell","_law_turns"]) λQC A a1 s H vs Q E sc hr h=>?_;obtain⟨a,n,m,rfl,hS,bf,o0,o1,q⟩:=h;refine⟨_,(ae gg
  (ae gg
  (ae gg
  (ae gg
  (ae gg
  (ae (fS 7 (aO<|du fw (pv 0) gg gg) gg)
  (ae gg
  (ae (sT 8<|fJ PySem.F.plainAttrs_str PySem.F.slot_str_join PySem.F.type_str_join Gu iE<|gT<|jR ["_law_k","_law_turn"] [Pt,gV 4] gg (e:=λS S S S=>(C9 (K:=K) iE gg)))
  (di<|eD<|kh (pv 8)<|jR ["_law_clause","_law_odd"] [Pt,gV 5] (aO<|pv 6) (t:=λS S S S=>(dA<|PW.pt<|t5 (AI BO (aR (Ak (K:=K) rfl) rfl T.len R9<|gT<|pv 0) cF) gg))))))))))),?_⟩
 exists _,rfl,a,n,0,rfl,hS,Vo 0;generalize fQ n 0=first
 exists _,rfl,_,_,rfl,rfl,⟨by simp,by simp⟩,_,rfl,_,_,rfl,rfl,_,_,rfl,rfl,(by lia);have x0:=Um (first/2) (show m+1≠0 by lia);have x1:=Th (first/2) (show 0<m+1 by lia);refine⟨_,rfl,a,n,1,rfl,hS,(by simp),_,rfl,_,_,rfl,rfl,(by simp),.inl ⟨rfl,_,_,_,rfl,?_⟩⟩;exists _,rfl,a,n,2,rfl,hS,(by simp),_,_,rfl,rfl,⟨by simp,by simp⟩;refine⟨P8 _,λd p=>?_⟩;have ac:H d=none:=p;have l:∃U,first/2%(m+1)=U:=⟨_,rfl⟩
 obtain⟨U,l⟩:=l;rw[l]at x0 x1;refine⟨_,rfl,3,rfl,15,rfl,a,_,rfl,(ad p _).seq hS,λW am=>⟨W,rfl,⟨_,SqL.of aa⟩,?_⟩⟩;obtain⟨ms,a2,S⟩:=Ct n (gV 3)<|gV 15;have bg:=GY (n:=n);have k3:Same H (upd (upd H d<|.lst []) W<|.lst<|dE (n.map V.int) (gV 3)<|gV 15):=(ad p _).upd_new ((ad p _).free am) _;have an:=@aa (upd H d<|.lst []) W (.lst<|dE (n.map V.int) (gV 3)<|gV 15);have as:d≠W:=ag aa am;have av:upd (upd H d<|.lst []) W (.lst<|dE (n.map V.int) (gV 3)<|gV 15) d=gV (.lst []):=by rw[af as];exact aa
 refine cx (K:=K) (a:=W) (xs:=dE (n.map V.int) (gV 3)<|gV 15) (qS a m first n d W H U)
  ⟨[],[],Pt,rfl,av,an,.nil,k3,rfl,λS z=>nomatch z⟩ ?_ ?_ ?_
 ·rintro i J j S ⟨S,S,S,S,S,g,S⟩;exact SqL.of g
 ·rintro i x J j L ⟨X,C,v7,rfl,G,g2,k,M,g5,r⟩;have Wy:i<(dE (n.map V.int) (gV 3)<|gV 15).length:=(N'.mp L).1;rw[a2]at L;obtain⟨cz,rfl,S⟩:=cn L;refine⟨_,rfl,.inl ⟨rfl,_,SqL.of G⟩,_,rfl,_,rfl,.ref d,_,rfl,.inl ⟨_,SqL.of G,rfl⟩,_,_,rfl,rfl,_,rfl,_,_,rfl,rfl,(by simp),.inl ⟨rfl,_,_,_,rfl,_,rfl,_,_,rfl,?_⟩⟩;rw[l];refine⟨x0,by lia,λp4 ls H4 k4 a3 a4 a5=>?_⟩;have h4:=k4 _ _ G;exists d,_,_,rfl,rfl,h4,(by rw[<-k.length,g5];exact ak<|by lia);refine⟨X++[.ref p4],C++[ls],_,by rw[l];rfl,aa,by rw[af as.symm];exact k4 _ _ g2,CLs.snoc (CL.upd ⟨p4,rfl,a3⟩ h4)<|(k.mono k4).upd h4,λb o e=>?_,by rw[Pl,g5];rfl,λc u=>?_⟩
  ·rw[af<|ag e ac];exact k4 _ _<|M _ _ e
  obtain z|z:=P5.mp u
  ·exact r c z
  simp_all
 rintro J j ⟨X,C,v7,rfl,G,g2,k,M,g5,r⟩;have az:C.length<=12:=by simp_all
 clear g2 an av k3;dsimp only;refine sB λN hN=>?_;have Z:∀X C j,j d=gV (.lst X)->CLs j C X->Same H j->C.length<=13->(∀c∈C,ClOk U c/\c.length<=4)->
   N [gV<|.ref a,gV<|.int m,gV<|.int first,gV<|.int (first/2%(m+1)),gV<|.int<|Df (fQ n 1) 1 (decide (V.int (first%2)=V.int 1)),gV<|.int<|fQ n 2/7,gV<|.ref d,v7,Pt] j:=by
  clear G k M g5 r az;intro X C j G k M g5 r;refine hN _ _ ?_;generalize Df (fQ n 1) 1 (decide (V.int (first%2)=V.int 1))=r1;refine⟨rfl,_,rfl,first/2%(m+1),rfl,(by lia),(by lia),λD hD=>?_⟩;refine fL (lo:=0) (n:=(first/2%(m+1)).toNat) (qT r1 j D) ⟨⟨Pt,rfl⟩,by simp,rfl⟩ ?_ ?_ ?_
  ·rintro i J Y H2 S ⟨S,S,rfl⟩;exact aa
  ·rintro i J Y H2 hi ⟨⟨v0,rfl⟩,⟨ss,rfl,aC,v⟩,rfl⟩;have e0:SU (r1/2^((0:Int)+(i:Int)).toNat) 1=r1/2^((0:Int)+(i:Int)).toNat%2:=X_ _;obtain⟨ch,a6,hs⟩:=M0 (j:=SU (r1/2^((0:Int)+(i:Int)).toNat) 1) (by rw[e0];exact Um _<|by decide) (by rw[e0];exact Th _<|by simp);refine cy ⟨_,rfl,_,rfl,_,_,rfl,rfl,(by simp),_,_,rfl,rfl,.inr<|.inr ⟨_,_,ch,rfl,rfl,(by decide+kernel),a6,aa,(by rw[A'];exact ak<|by lia),⟨_,rfl⟩,⟨ss++[⟨#[ch]⟩],by rw[P6];rfl,by rw[Pl,aC];rfl,λz hz=>?_⟩,hG⟩⟩;grind
  rintro J Y H2 ⟨S,⟨ss,rfl,aC,v⟩,rfl⟩;obtain⟨tl,tw⟩:=Cu v;refine⟨_,D,ss,rfl,rfl,SqL.of aa,?_,?_⟩
  ·rw[qH v,show(PD "").length=0 from by decide+kernel];lia
  generalize qb (PD "") ss=t at tl tw;have kD:Same j (upd j D<|.lst<|ss.map V.str):=ad hD _;have Yc:=kD _ _ G;have aF:=k.mono kD;have k2:=M.trans kD;clear hD;generalize upd j D (.lst<|ss.map V.str)=H2 at k2 Yc aF;have a7:(t.length:Int)=U:=by lia
  refine⟨_,rfl,_,rfl,d,rfl,⟨_,SqL.of Yc⟩,λD2 ZG=>?_⟩;have aL:H D2=none:=k2.free ZG;have nq:d≠D2:=ag Yc ZG;refine bQ (K:=K) (a:=d) (xs:=X) (lZ n D2 H d X C U)
   ⟨⟨Pt,rfl⟩,aa,k2.upd_new aL _,by rw[af nq];exact Yc,aF.mono<|ad ZG _,[],P8 _,.nil,λS h=>nomatch h⟩ ?_ ?_ ?_
  ·rintro i J Y H4 S ⟨S,h1,S,h2,S⟩;exact⟨h1,SqL.of h2⟩
  ·rintro i x J Y H4 L ⟨⟨v0,rfl⟩,O,j2,j3,j4,I,j5,j6,j7⟩;have Wy:i<X.length:=(N'.mp L).1;have TQ:=k.length;obtain⟨c,u,tc,rfl,Q7⟩:=j4.get L;have Xy:c∈C:=Pq u;have sz:Y.length<sizeLine:=by rw[<-j6.length];exact ak (by lia)
   have a8:d≠D2:=nq;have kp:∀v0,lZ n D2 H d X C U (i+1) [gV v0,gV<|.int<|fQ n 2/7] (Y++[.ref tc]) (upd H4 D2<|.lst<|Y++[.ref tc]):=by
    intro v0;refine⟨⟨_,rfl⟩,aa,j2.upd_new aL _,by rw[af a8];exact j3,j4.upd O,I++[c],by simp_all,CLs.snoc (CL.upd ⟨tc,rfl,Q7⟩ O)<|j6.upd O,λz hz=>?_⟩;obtain y|y:=P5.mp hz
    ·exact j7 z y
    rw[Pw.mp y];exact r c Xy
   refine⟨_,rfl,.ref tc,_,rfl,.inr ⟨_,SqT.of Q7,rfl⟩,_,_,rfl,rfl,_,rfl,iA (λS=>ar ⟨_,rfl,O,sz,kp _⟩) λS=>?_⟩;refine⟨_,rfl,_,_,rfl,rfl,⟨by simp,by simp⟩,_,_,rfl,rfl,(by simp),.inl ⟨rfl,_,rfl,iA (λS=>⟨_,rfl,O,sz,kp _⟩) λS=>?_⟩⟩;exact⟨⟨_,rfl⟩,O,j2,j3,j4,I,Nat.le_succ_of_le j5,j6,j7⟩
  rintro J Y H4 ⟨S,O,j2,j3,j4,I,j5,j6,j7⟩;refine⟨(by show 2<=sizeLine;decide),λp5 a9=>?_⟩;have k5:Same H4 (upd H4 p5<|.tup [.str t,.ref D2]):=ad a9 _;have TQ:=k.length;refine q p5 t I _ (j2.trans k5) (Gx aa (k5 _ _ O)<|j6.mono k5) ⟨by grind,tw,by lia,λc u=>?_⟩ λc u=>(j7 c u).2;rw[a7];simp_all
 refine⟨_,rfl,.ref d,_,rfl,.inl ⟨_,SqL.of G,rfl⟩,_,_,rfl,rfl,_,rfl,iA (λc1=>?_) λc1=>?_⟩
 ·have a0:(0:Int)<((X.length:Nat):Int):=PX c1;refine⟨_,rfl,_,_,rfl,rfl,(by simp),.inl ⟨rfl,_,rfl,iA (λc2=>?_) λc2=>?_⟩⟩
  ·have z0:=Um (fQ n 2/7/6) (show((X.length:Nat):Int)≠0 by lia);have z1:=Th (fQ n 2/7/6) a0;obtain⟨x,L,ba⟩:=wy (xs:=X) z0 z1;obtain⟨c,u,tc,rfl,Q7⟩:=k.get L;refine⟨_,rfl,.inl ⟨rfl,_,SqL.of G⟩,_,rfl,_,rfl,_,_,rfl,rfl,⟨by simp,by simp⟩,_,rfl,.ref d,_,rfl,.inl ⟨_,SqL.of G,rfl⟩,_,_,rfl,rfl,a0,(fY G ba ?_)⟩;exists d,_,_,rfl,rfl,G,(by rw[<-k.length];exact ak<|by lia);refine Z (X++[.ref tc]) (C++[c]) _ aa (CLs.snoc (CL.upd ⟨tc,rfl,Q7⟩ G)<|k.upd G) (λb o e=>?_) (by rw[Pl];exact Te az) λz hz=>?_
   ·rw[af<|ag e ac];exact M _ _ e
   obtain y|y:=P5.mp hz
   ·exact r z y
   rw[Pw.mp y];exact r c<|Pq u
  exact Z X C j G k M (Nat.le_succ_of_le az) r
 exact al<|Z X C j G k M (Nat.le_succ_of_le az) r
noncomputable abbrev yE:QW:=bS 19
inductive l_ (vs:ab V)(H:Hp)(Q:VK)(E:XK):Prop
 |mk (p:C')(t:Str)(w:V)(i:Nat)(h0:vs=[.ref p,.int<|(i:Int)+1])(h:H p=gV (.tup [.str t,w]))(a:i<t.length)(b:t.length<=900)(c:Q (.str<|aq<|cD t i) H)
theorem AN(F:Fun K "hand_of" "hand_of" yE f d)(T:Bl m):ay P w K m B aV 1 f d ["sentence","variable"] l_:=by
 refine F.okB (N:=["sentence","variable","turns"]) λC A o s H v Q E n r h=>?_;obtain⟨p,t,w,i,rfl,c,j,u,q⟩:=h;refine⟨_,(ae gg
  (ae (bu (iG<|ua oe oe cF (pv 1) gg) (au eV) aK)
  gg)),?_⟩
 refine⟨_,rfl,(bA c rfl ?_)⟩;have k:decide ((1:Int)<=(i)+1)=true:=PB (by lia);have l:decide ((i)+1<=((t.length):Int))=true:=PB (by lia);have W:i<t.cps.toList.length:=by
  assumption
 have a:=K' W;have b:kn t.cps.toList ((i)+1-1)=gV t.cps.toList[i]:=by
  have e:(i:Int)+1-1=(i):=by simp
  rw[e];exact aE a
 exists _,rfl,_,_,rfl,rfl,_,rfl;rw[k];refine ar ⟨_,rfl,.str t,_,rfl,⟨QA (ak<|by lia),rfl⟩,_,_,rfl,rfl,_,rfl,?_⟩;rw[l];refine al<|⟨_,rfl,_,rfl,_,_,rfl,rfl,.inr<|.inr ⟨t,_,_,rfl,rfl,QA (ak<|by lia),b,.inl ⟨rfl,_,rfl,?_⟩⟩⟩;rw[IM,<-wC a];cases g:cD t i with
 |true=>
  rwa[g]at q
 |false=>
  rwa[g]at q
noncomputable abbrev K8:QW:=bS 9
noncomputable abbrev Nn:QW:=bS 15
noncomputable abbrev IV:QW:=bS 24
noncomputable abbrev wS:QW:=bS 20
def yF:Sp:=λs H Q _=>∃v d,s=[v]/\RD H d v/\Q (.bl<|lS d&&!nz d) H
def IW:Sp:=λs H Q _=>∃v d m,s=[v,.int m]/\RD H d v/\Q (.bl<|rW m d) H
inductive jS (vs:ab V)(H:Hp)(Q:VK)(E:XK):Prop
 |mk (p:C')(t:Str)(w:V)(hw:Px)(h0:vs=[.ref p,.str<|aq hw])(a:H p=gV (.tup [.str t,w]))(b:t.length<=900)(c:∀(l:C') (h:Hp),Same H h->h l=gV (.lst<|(aD t hw).map V.int)->Q (.ref l) h)
def nG:Sp:=λv H Q _=>∃b:Px,v=[.str<|aq b]/\Q (.str<|aq (!b)) H
theorem cI(h:dy H d xs)(l:d.length=2):∃D a x X,d=[D,a]/\xs=[x,X]/\RD H D x/\RD H a X:=by
 match d,l with
 |[D,a],_=>
  obtain⟨x,r,rfl,b,k⟩:=ai h;obtain⟨X,f,rfl,c,e⟩:=ai k;obtain rfl:=bz e;exact⟨_,_,x,X,rfl,rfl,b,c⟩
inductive No (H:Hp)(a:C')(m:Int)(ds:ab PK)(i:Nat)(c:St)(h:Hp):Prop
 |mk (b:Int)(l:M' V)(h0:c=[gV<|.ref a,gV<|.int m,gV<|.int b,l])(d:h=H)(e:lW m b (ds.drop i)=lW m 0 ds)
inductive IX (H:Hp)(D p:C')(t:Str)(hw:Px)(i:Nat)(a:St)(ys:ab V)(h:Hp):Prop
 |mk (v:M' V)(h0:a=[v,gV (.str (aq hw)),gV (.ref p)])(b:ys=(((Qt i).filter λi=>cD t i == hw).map λ(i:Nat)=>V.int<|(i:Int)+1))(c:h=upd H D (.lst ys))
theorem Np:eH ["thing"] ["thing"] (aA K8):=GW
theorem K9(F:Fun K "is_number" "is_number" K8 f c)(T:Bl m):ay P w K m b aV 1 f c ["thing"] yF:=by
 refine F.okA Np λC A o s H e Q E r h=>?_;obtain⟨v,d,rfl,a,q⟩:=h;have n:=gM a;exists _,gg;exists _,rfl,v,_,"int",_,rfl,oH d v a,yg d n,_,rfl;cases I:lS d with
 |false=>
  rwa[I]at q
 |true=>
  rw[I]at q;exact ar ⟨_,rfl,v,_,"bool",_,rfl,oH d v a,um d n,_,rfl,q⟩
theorem K_(F:Fun K "is_set" "is_set" Nn f N)(T:Bl M)(W:Fe P w K M B 1 "is_number" yF):ay P w K M B aV 2 f N ["thing","most"] IW:=by
 refine F.okB (N:=["thing","most","behind","literal"]) λX A o s H Y Q E Z hr h=>?_;obtain⟨v,d,m,rfl,p,q⟩:=h;have O:=gM p;refine⟨_,(ae gg
  (ae gg
  (ae (fS 3 (bT<|pv 0) (ae (bu (PW.pt<|t5 gg<|vR<|iG<|ua qw oe (pv 2) gg<|pv 1) (di gb) aK)
   gg))
  (di gb)))),?_⟩
 exists _,rfl,v,_,"tuple",_,rfl,oH d v p,lT d O,_,rfl;cases d with
 |tuple D=>
  refine al ?_;obtain⟨a,x,rfl,u,G⟩:=aj p;have P1:=c9 G;refine⟨_,rfl,a,rfl,⟨_,SqT.of u⟩,eK (K:=K) (a:=a) (xs:=x) (No H a m D)
   ⟨0,Pt,rfl,rfl,rfl⟩ (λi I J V U=>by obtain⟨V,V,V,e,V⟩:=U;rw[e];exact SqT.of u) ?_ ?_⟩
  ·rintro i y I J L ⟨b,l,rfl,rfl,c⟩;have Wy:i<x.length:=(N'.mp L).1;have r:=cQ G L;rw[Ap RI<|by lia]at c;exists _,rfl,y,_,rfl,r,_,rfl;obtain⟨z,n⟩|n:=jP (D.getD i .none)
   ·rw[n]at r c ⊢;obtain rfl:=aw r;refine al ?_;exists _,rfl,_,rfl,z,rfl,_,_,rfl,rfl,_,rfl;rw[oS]at c;refine iA (λt=>?_) λt=>?_
    ·have C:b<absI z:=PX t;exists _,rfl,_,_,rfl,rfl,_,rfl;refine iA (λj=>?_) λj=>?_
     ·have k:¬absI z<=m:=λg=>by
       have e:decide (absI z<=m)=true:=PB g;rw[show decide ((if z<0 then -z else z)<=m)=Pn from e]at j;cases j
      rw[PM<|by simp_all]at c;show Q (.bl Pr) _
      rw[show rW m (.tuple D)=lW m 0 D from rfl,<-c]at q;exact q
     have k:absI z<=m:=UU λg=>by
      have e:decide _=false:=Pu g;rw[show decide ((if z<0 then -z else z)<=m)=Pr from e]at j;exact j rfl
     rw[PP ⟨C,k⟩]at c;exists _,rfl,z,rfl;exact⟨absI z,gV<|.int z,rfl,rfl,c⟩
    have C:=λg=>t<|PB g;rw[PM λg=>C g.1]at c;refine⟨_,rfl,ar ?_⟩;show Q _ _
    rw[show rW m _=lW m 0 D from rfl,<-c]at q;exact q
   rw[jm n];rw[uH n]at c;rwa[show rW m _=lW m 0 D from rfl,<-c]at q
  ·rintro I J ⟨b,l,rfl,rfl,c⟩;rw[List.drop_eq_nil_of_le<|by lia]at c;rwa[show rW m _=lW m 0 D from rfl,<-c]at q
 |_=>exact ar q
theorem G0(F:Fun K "variables_of" "variables_of" IV f r)(T:Bl m)(Z:Fe P w K m b 1 "hand_of" l_):ay P w K m b aV 2 f r ["sentence","hand"] jS:=by
 refine F.okB (N:=["sentence","hand"]) λC A o s H x Q E B I h=>?_;obtain⟨p,t,w,a,rfl,d,u,q⟩:=h;exists _,(di<|jR ["variable","hand","sentence"] [Pt,gV 1,gV 0] gg);refine⟨_,rfl,(bA d rfl ⟨.str t,_,rfl,⟨QA (cH<|by lia),rfl⟩,_,_,rfl,rfl,⟨_,_,rfl,by lia,λD e=>?_⟩⟩)⟩;have n:((t.length:Int)+1-1).toNat=t.length:=by simp
 refine fL (IX H D p t a)
  ⟨Pt,rfl,rfl,rfl⟩ ?_ ?_ ?_
 ·rintro i j y k Y ⟨Y,Y,Y,rfl⟩;exact aa
 ·rintro i j y k l ⟨J,rfl,rfl,rfl⟩;rw[n]at l;have c:=ad e (.lst<|((Qt i).filter λi=>cD t i == a).map λ(i:Nat)=>V.int<|(i)+1) _ _ d;have v:(1:Int)+(i)=(i)+1:=by lia
  rw[v];refine⟨_,rfl,_,rfl,p,t,w,i,rfl,c,l,u,_,rfl,.inl ⟨rfl,_,rfl,?_⟩⟩;rw[ff];by_cases G:cD t i=a
  ·have g:(cD t i == a)=true:=by simp_all
   rw[PB G];refine ar ⟨_,rfl,aa,?_,_,rfl,?_,hG⟩
   ·have:=Qx (λi=>cD t i == a)<|Qt i;rw[QQ]at this;rw[A'];exact cH (by lia)
   rw[Si,QY,QK (p:=λi=>cD t i == a) g,P6];rfl
  rw[Pu G];refine al ⟨_,rfl,?_,rfl⟩;rw[Si,QY,QP λz=>G<|by simpa using z];simp
 rintro j y k ⟨Y,Y,rfl,rfl⟩;refine q D _ (ad e _) ?_;rw[aa,n];unfold aD;rw[Qm];rfl
theorem G_:eH ["hand"] ["hand"] (aA wS):=GW
theorem Dm(F:Fun K "other_hand" "other_hand" wS f d)(T:Bl m):ay P w K m B aV 1 f d ["hand"] nG:=by
 refine F.okA G_ λC A o s H v Q E r h=>?_;obtain⟨b,rfl,q⟩:=h;exists _,gg;refine⟨_,rfl,.inl ⟨rfl,_,rfl,?_⟩⟩;cases b with
 |true=>exact ar q
 |false=>exact al q
noncomputable abbrev IY:QW:=bS 26
noncomputable abbrev yG:QW:=bS 27
noncomputable abbrev u5:QW:=bS 28
def ki(H:Hp)(p:C')(c:ab Int):Prop:=H p=gV (.tup<|c.map V.int)
inductive wT (vs:ab V)(H:Hp)(Q:VK)(E:XK):Prop
 |mk (p q:C')(f s:ab Int)(v:Int)(h0:vs=[.ref p,.ref q,.int v])(a:ki H p f)(b:ki H q s)(c:f.length<=60)(d:s.length<=60)(e:∀h,Same H h->Q (.bl<|dM f s v) h)
inductive iR (vs:ab V)(H:Hp)(Q:VK)(E:XK):Prop
 |mk (p q:C')(f s:ab Int)(v:Int)(h0:vs=[.ref p,.ref q,.int v])(a:ki H p f)(b:ki H q s)(c:f.length+s.length<=60)(d:Ups f)(e:Ups s)(g:dM f s v=Pr)(i:∀(l:C') (r:ab Int) (h:Hp),Same H h->Joins f s v r->ki h l r->Q (.ref l) h)
inductive eE (vs:ab V)(H:Hp)(Q:VK)(E:XK):Prop
 |mk (p q:C')(t:Str)(w:V)(hw:Px)(c:ab Int)(h0:vs=[.ref p,.str<|aq hw,.ref q])(a:H p=gV (.tup [.str t,w]))(b:t.length<=900)(d:ki H q c)(e:c.length<=60)(f:(∀l∈c,1<=absI l/\absI l<=(t.length:Int)))(g:∀(l:C') (h:Hp),Same H h->ki h l (ao t hw c)->Q (.ref l) h)
theorem bF(c:ab Int):(c.map V.int).all jA=true:=by
 rw[TJ];exact Qv.mpr λz z=>rfl
theorem Ha{a:Type}(l:ab a)(f:a->Px):((l.map λx=>V.bl<|f x).all uu)=Pn/\(l.map λx=>V.bl<|f x).any iB=l.any f:=by
 refine⟨by rw[TJ];exact Qv.mpr λz z=>rfl,?_⟩;rw[Uh];rfl
theorem u6(c:ab Int)(p:Int->Px)(f:Int->V):((c.map V.int).filter<|Cv p).map (IL f)=(c.filter p).map f:=by
 induction c with
 |nil=>rfl
 |cons x r i=>
  rw[Qf];by_cases h:p x=Pn
  ·rw[QK (a:=V.int x) h,QK h,Qf,i];rfl
  rw[QP (a:=V.int x) h,QP h,i]
theorem Hb{K:J'}{H:Hp}{p:C'}{n:ab Int}{Q:VK}(h:SqL K H p (n.map V.int))(b:∀a∈n,0<=a)(q:Q (.int<|n.foldl max 0) H):CO K (.ref p) (.int 0) H Q:=
 ⟨p,n,rfl,h,λe=>by simp_all,λM m c=>by rwa[KI b (.inl m) c<|b M m]at q⟩
theorem Hc(l:Int):0<=absI l:=by
 obtain⟨z,e⟩|⟨z,e⟩:=aH l<;>lia
theorem Hd(F:Fun K "stands_both_ways" "stands_both_ways" IY f i)(T:Bl m):ay P w K m B aV 1 f i ["first","second","variable"] wT:=by
 refine F.okB (N:=["first","second","variable"]) λC A o s H t Q E u y h=>?_;obtain⟨p,q,f,s,v,rfl,c,j,G,I,n⟩:=h;exists _,(di<|aR (iM rfl) rfl T.any Tn<|gT<|jR ["literal","second","variable"] [Pt,gV 1,gV 2] (bT<|pv 0) (e:=λZ Z Z Z=>(jh (fM rfl) gg (pv 1)<|by rfl)));refine⟨_,rfl,p,rfl,⟨_,SqT.of c⟩,λD d=>cg [gV<|.ref q,gV<|.int v] (Cv λl=>!decide (absI l=v)) (IL λl=>.bl<|s.contains (-l)) rfl c d (by rw[A'];lia) ?_ ?_ ?_⟩
 ·intro x a b R k r;obtain⟨z,Z,rfl⟩:=c_ a;refine⟨_,rfl,z,rfl,_,rfl,.inl ⟨rfl,_,rfl,?_⟩⟩;have e:decide (V.int (absI z)=V.int v)=decide (absI z=v):=by
   simp
  have g:R (!decide _) b:=r;rwa[<-e]at g
 ·intro x a Z b R k r;obtain⟨z,Z,rfl⟩:=c_ a;exists _,rfl,_,rfl,_,rfl,q,_,rfl,.inr<|SqT.of<|k _ _ j,rfl,bF s;show R _ b
  rwa[bj]
 rw[u6];have e:=Ha (f.filter λl=>!decide (absI l=v)) λl=>s.contains (-l);exists D,_,rfl,SqL.of aa,e.1;rw[e.2];exact n _<|ad d _
theorem AO(F:Fun K "joined" "joined" yG f fd)(T:Bl mg):ay P w K mg J aV 1 f fd ["first","second","variable"] iR:=by
 refine F.okB (N:=["first","second","variable","both"]) λQC A o s H vs Q E sc hr h=>?_;obtain⟨p,q,f,s,v,rfl,M,N,h9,hf,hs,hb,q'⟩:=h;refine⟨_,(ae (sT 3<|cN fK gg<|jR ["literal","first"] [Pt,gV 0] (bT<|pv 1) (t:=λS S S S=>(dA<|gi (jE (K:=K) rfl) (pv 0) (pv 1)<|by rfl)))
  (di<|aW bP rfl T.tuple Ro<|gT<|oV rfl T.sorted rfl T.abs<|jR ["literal","variable"] [Pt,gV 2]<|aO<|pv 3)),?_⟩
 refine⟨_,rfl,p,_,rfl,.inr<|SqT.of M,λL j=>?_⟩;have a:=ad j<|.lst<|f.map V.int;have O:=cm a;generalize upd H L (.lst<|f.map V.int)=U at a O;refine⟨_,rfl,q,rfl,⟨_,SqT.of<|a _ _ N⟩,λD W=>?_⟩;refine cg [gV<|.ref p] (Cv λl=>!f.contains l) (λx=>x) rfl (a _ _ N) W (by rw[A'];lia) ?_ ?_ ?_
 ·intro x b c R k r;obtain⟨z,S,rfl⟩:=c_ b;exists _,rfl,_,rfl,p,_,rfl,.inr<|SqT.of<|k _ _<|a _ _ M,rfl,bF f,_,rfl;show R (!g_ (.int z) (f.map V.int)) c
  rw[bj];exact r
 ·intro x b S c R k r;exact⟨_,rfl,r⟩
 rw[dL s (λl=>!f.contains l) _ λi=>rfl];have m:=ad W<|.lst<|(s.filter λl=>!f.contains l).map V.int;have X:=cm m;generalize upd U D (.lst<|(s.filter λl=>!f.contains l).map V.int)=Y at m X;have V0:=Qx (λl=>!f.contains l) s;refine⟨L,D,_,_,rfl,rfl,m _ _ O,X,by rw[A',A',Ru];lia,λn t=>?_⟩;rw[<-P6];have Z:=ad t<|.lst<|(f++s.filter λl=>!f.contains l).map V.int;have u:=cm Z;generalize upd Y n (.lst<|(f++s.filter λl=>!f.contains l).map V.int)=y at Z u;have ac:(f++s.filter λl=>!f.contains l).length<=60:=by rw[Pl];lia
 refine⟨_,rfl,n,rfl,⟨_,SqL.of u⟩,λg d=>?_⟩;refine cU [gV<|.int v] (Cv λl=>!decide (absI l=v)) (λx=>x) rfl u d (by rw[A'];lia) ?_ ?_ ?_
 ·intro x b c R k r;obtain⟨z,S,rfl⟩:=c_ b;refine⟨_,rfl,z,rfl,_,rfl,.inl ⟨rfl,_,rfl,?_⟩⟩;have e:decide (V.int (absI z)=V.int v)=decide (absI z=v):=by
   simp
  have r':R (!decide _) c:=r;rwa[<-e]at r'
 ·intro x b S c R k r;exact⟨_,rfl,r⟩
 rw[dL _ (λl=>!decide _) _ λi=>rfl];have k4:=ad d<|.lst<|(gO f s v).map V.int;have r4:=cm k4;have B:(gO f s v).length<64:=SH (Qx _ _) (SH ac (by decide));show oU _ _ (upd y g<|.lst<|(gO f s v).map _) _
 generalize upd y g _=H4 at k4 r4;exact⟨g,_,rfl,SqL.of r4,B,λL5 r C G ho=>⟨L5,_,rfl,.inl ⟨SqL.of aa,λL6 I=>q' L6 r _ ((((a.trans m).trans Z).trans k4).trans<|(ad C _).trans<|ad I _) (uK hf hs hb G ho) aa⟩⟩⟩
theorem wU(F:Fun K "dropped" "dropped" u5 f I)(T:Bl M)(U:Fe P w K M B 1 "other_hand" nG)(VC:Fe P w K M B 2 "variables_of" jS):
  ay P w K M B aV 3 f I ["sentence","hand","literals"] eE:=by
 refine F.okB (N:=["sentence","hand","literals","others","last"]) λQC A O s H vs Q E sc hr h=>?_;obtain⟨p,q,t,w,b,c,rfl,J,L,m,N,g,W⟩:=h;refine⟨_,(ae gg
  (ae (sT 4<|GD rfl rfl T.max (jR ["literal","others"] [Pt,gV 3] (bT<|pv 2) (t:=λS S S S=>(dA<|gi (fM (K:=K) rfl) gg (pv 1)<|by rfl))) cF)
  (di<|aW bP rfl T.tuple Ro<|gT<|jR ["literal","last"] [Pt,gV 4]<|bT<|pv 2))),?_⟩
 refine⟨_,rfl,_,rfl,b,rfl,p,t,w,!b,rfl,J,L,λl v j X=>?_⟩;refine⟨_,rfl,q,rfl,⟨_,SqT.of<|j _ _ m⟩,λD y=>?_⟩;refine cg [gV<|.ref l] (Cv λz=>(aD t (!b)).contains<|absI z) (IL λz=>.int<|absI z) rfl (j _ _ m) y (by rw[A'];lia) ?_ ?_ ?_
 ·intro x d n R k r;obtain⟨z,S,rfl⟩:=c_ d;exists _,rfl,z,rfl,_,rfl,l,_,rfl,.inl<|SqL.of<|k _ _ X,rfl,bF _,_,rfl;show R (g_ (.int<|absI z)<|(aD t (!b)).map V.int) n
  rw[bj];exact r
 ·intro x d S n R k r;obtain⟨z,S,rfl⟩:=c_ d;exact⟨_,rfl,z,rfl,r⟩
 have e:((c.map V.int).filter<|Cv λz=>(aD t (!b)).contains<|absI z).map (IL λz=>.int<|absI z)=((c.filter λl=>!(cD t (absI l-1).toNat == b)).map absI).map V.int:=by
  rw[u6,Qm];have:(c.filter λz=>(aD t (!b)).contains<|absI z)=c.filter λl=>!(cD t (absI l-1).toNat == b):=VI λz C=>GE (g z C).1 (g z C).2;rw[this];rfl
 rw[e];have o:=ad y<|.lst<|((c.filter λl=>!(cD t (absI l-1).toNat == b)).map absI).map V.int;have G:=cm o;generalize upd v D (.lst<|((c.filter λl=>!(cD t _ == b)).map _).map _)=H2 at o G;unfold tC;refine Hb (n:=(c.filter λl=>!(cD t _ == b)).map _) (SqL.of G) (λa Y=>?_) ?_
 ·obtain⟨z,S,rfl⟩:=Qe.mp Y;exact Hc z
 refine⟨_,rfl,q,rfl,⟨_,SqT.of<|o _ _<|j _ _ m⟩,λD2 Z=>cg [gV<|.int<|iy t b c] (Cv λl=>decide (absI l<=iy t b c)) (λx=>x) rfl (o _ _<|j _ _ m) Z (by rw[A'];lia) ?_ ?_ ?_⟩
 ·intro x d n R k r;obtain⟨z,S,rfl⟩:=c_ d;exact⟨_,rfl,z,rfl,_,rfl,_,_,rfl,rfl,_,rfl,r⟩
 ·intro x d S n R k r;exact⟨_,rfl,r⟩
 rw[dL c _ _ λi=>rfl];exact⟨D2,_,rfl,.inl ⟨SqL.of aa,λL3 u=>W L3 _ (((j.trans o).trans<|ad Z _).trans<|ad u _) aa⟩⟩
noncomputable abbrev Dn:QW:=bS 10
noncomputable abbrev IZ:QW:=bS 11
noncomputable abbrev Do:QW:=bS 63
noncomputable abbrev Dp:QW:=bS 68
noncomputable abbrev Dq:QW:=bS 67
inductive kQ (vs:ab V)(H:Hp)(Q:VK)(E:XK):Prop
 |mk (v:V)(d:PK)(many:Nat)(h0:vs=[v,.int (many:Int)])(h:RD H d v)(a:Q (.bl (aI many d).isSome) H)
inductive wV (vs:ab V)(H:Hp)(Q:VK)(E:XK):Prop
 |mk (v:V)(d:PK)(w:Str)(n:Nat)(h0:vs=[v,.str w,.int (n:Int)])(h:RD H d v)(a:1<=n)(b:Rb (.str w)=Pn)(c:(∀ds,d=.tuple ds->Rb (ds.getD 0 .none)=Pn))(e:Q (.bl<|formB w n d) H)
inductive sC (vs:ab V)(H:Hp)(Q:VK)(E:XK):Prop
 |mk (p q:C')(t:V)(v:V)(d:PK)(xs:ab V)(cs:ab (ab Int))(h0:vs=[.ref p,v])(h:H p=gV (.tup [t,.ref q]))(b:H q=gV (.lst xs))(c:CLs H cs xs)(e:cs.length<=900)(f:RD H d v)(g:∀a,RV H ((aI cs.length d).map λi=>cs.getD i []) a->Q a H)
inductive sE (vs:ab V)(H:Hp)(Q:VK)(E:XK):Prop
 |mk (p a:C')(t:Str)(w:V)(hw:Px)(v:V)(d:PK)(ys:ab V)(sets:ab (ab Int))(h0:vs=[.ref p,.str<|aq hw,v,.ref a])(e:H p=gV (.tup [.str t,w]))(f:t.length<=30)(g:H a=gV (.lst ys))(i:CLs H sets ys)(j:sets.length<=9000)(k:(∀c∈sets,ap t.length c))(l:RD H d v)(m:∀b h,Same H h->RV h (gR t hw sets d) b->Q b h)
inductive sF (vs:ab V)(H:Hp)(Q:VK)(E:XK):Prop
 |mk (p a b:C')(t:Str)(w:V)(hw:Px)(g x X d:V)(D e f:PK)(ys:ab V)(sets:ab (ab Int))(h0:vs=[.ref p,.str<|aq hw,.ref b,.ref a])(k:H p=gV (.tup [.str t,w]))(l:t.length<=30)(m:H b=gV (.tup [g,x,X,d]))(n:H a=gV (.lst ys))(o:CLs H sets ys)(q:sets.length<=9000)(r:(∀c∈sets,ap t.length c))(s:RD H D x)(u:RD H e X)(i:RD H f d)(j:∀v h,Same H h->RV h (dR t hw sets D e f) v->Q v h)
theorem Dr(F:Fun K "is_place" "is_place" Dn f k)(U:Fe P w K M b 1 "is_number" yF):ay P w K M b aV 2 f k ["thing","many"] kQ:=by
 refine F.okB (N:=["thing","many"]) λC A o s H l Q E p r h=>?_;obtain⟨v,d,m,rfl,j,q⟩:=h;exists _,(di<|vS gg<|rK<|t_ oe qw cF (pv 0)<|pv 1);exists _,rfl,v,d,rfl,j,_,rfl;obtain⟨z,rfl⟩|n:=jP d
 ·obtain rfl:=aw j;have a:Q (.bl (if 0<=z/\z<(m)then gV _ else Pt).isSome) H:=q;exists _,rfl,_,_,rfl,rfl,_,rfl;by_cases g:0<=z
  ·rw[PB g];refine ar ⟨_,rfl,_,_,rfl,rfl,?_⟩;by_cases i:z<(m)
   ·simp_all
   rw[PM λc=>i c.2]at a;show Q (.bl _) H
   rwa[Pu i]
  rw[PM λc=>g c.1]at a;rwa[Pu g]
 rw[jm n];have e:aI m d=none:=by
  cases d with
  |int z=>lia
  |_=>rfl
 rwa[e]at q
theorem He(F:Fun K "begins_with" "begins_with" IZ f p)(T:Bl M):ay P w K M B aV 1 f p ["thing","word","many"] wV:=by
 refine F.okB (N:=["thing","word","many"]) λC A o s H u Q E y G h=>?_;obtain⟨v,d,W,n,rfl,i,I,j,k,q⟩:=h;have N:=gM i;exists _,gg;exists _,rfl,v,_,"tuple",_,rfl,oH d v i,lT d N,_,rfl;cases d with
 |tuple D=>
  obtain⟨a,x,rfl,l,m⟩:=aj i;have r:=c9 m;refine ar ⟨_,rfl,.ref a,_,rfl,.inr ⟨_,SqT.of l,rfl⟩,_,rfl,.inl ⟨rfl,_,rfl,?_⟩⟩;have c:Q (.bl (decide _&&mO W _)) H:=q;by_cases g:D.length=n
  ·rw[PB g]at c;have e:decide (V.int ((x.length))=V.int _)=true:=PB (by rw[r,g]);rw[e];obtain⟨X,b⟩:∃X,x[0]?=gV X:=⟨_,K' (by lia)⟩;have t:=cQ m b;refine ar ⟨_,rfl,(bA l (aE b) ⟨_,rfl,.inr ⟨_,_,t,cR W,k D rfl,j,?_⟩⟩)⟩;rwa[uL]
  ·rw[Pu g]at c;have e:decide (V.int ((x.length))=V.int (n))=false:=(by lia);rwa[e]
 |_=>exact al q
theorem Ds(F:Fun K "given_set" "given_set" Do f u)(T:Bl m)(U:Fe P w K m b 2 "is_place" kQ):ay P w K m b aV 3 f u ["sentence","place"] sC:=by
 refine F.okB (N:=["sentence","place"]) λD A o s H G Q E I J h=>?_;obtain⟨p,q,t,v,d,X,C,rfl,k,l,a,L,n,j⟩:=h;have y:=a.length;exists _,gg;refine⟨_,rfl,_,rfl,(bA k rfl ⟨.ref q,_,rfl,.inl ⟨_,SqL.of l,rfl⟩,v,d,X.length,rfl,n,_,rfl,?_⟩)⟩;rw[<-y];cases g:aI _ d with
 |none=>
  rw[g]at j;exact ar<|j _ rfl
 |some i=>
  rw[g]at j;obtain⟨M,rfl⟩:=aB g;obtain rfl:=aw n;obtain⟨x,r⟩:∃x,X[i]?=gV x:=⟨_,K' (QH M (VC y))⟩;obtain⟨c,z,B⟩:=a.get r;have e:C.getD i []=c:=by rw[B',z];rfl
  refine al ⟨_,rfl,(bA k rfl ⟨_,rfl,(fY l (aE r)<|j _ ?_)⟩)⟩;show CL H (C.getD i []) x
  rwa[e]
theorem Dt(F:Fun K "drop_set" "drop_set" Dp f G)(T:Bl m)(W:Fe P w K m B 2 "is_place" kQ)(X:Fe P w K m B 3 "dropped" eE):ay P w K m B aV 4 f G ["sentence","hand","place","ahead"] sE:=by
 refine F.okB (N:=["sentence","hand","place","ahead"]) λY A o s H Z Q E sc hr h=>?_;obtain⟨p,a,t,w,n,v,d,y,b,rfl,I,h9,r,u,h8,j,z,q⟩:=h;have J:=u.length;exists _,gg;exists _,rfl,_,rfl,.ref a,_,rfl,.inl ⟨_,SqL.of r,rfl⟩,v,d,y.length,rfl,z,_,rfl;rw[<-J];unfold gR at q;cases g:aI _ d with
 |none=>
  rw[g]at q;exact ar<|q _ _ (Same.refl _) rfl
 |some i=>
  rw[g]at q;obtain⟨hi,rfl⟩:=aB g;obtain rfl:=aw z;obtain⟨x,C⟩:∃x,y[i]?=gV x:=⟨_,K' (QH hi (VC J))⟩;obtain⟨c,D,l,rfl,L⟩:=u.get C;have e:b.getD i []=c:=by rw[B',D];rfl
  have k:=j c<|Pq D;have TQ:=bx k;refine al ⟨_,rfl,_,rfl,_,rfl,_,rfl,(fY r (aE C) ⟨p,l,t,w,n,c,rfl,I,by lia,L,by lia,k.2,λM N O U=>q _ _ O ?_⟩)⟩;show CL N (ao t n<|b.getD i []) _
  rw[e];exact⟨M,rfl,U⟩
theorem Hf(h:aI s.length d=Pt):dR t H s d D a=none:=by
 unfold dR;rw[h]
theorem Hg(h:aI s.length d=Pt):dR t H s D d a=none:=by
 unfold dR;rw[h];cases aI _ D<;>rfl
theorem Hh(h:∀z,d≠.int z):dR t H s D a d=none:=by
 unfold dR
 simp_all
theorem Hi{t:Str}{h:Px}{z:Int}(H:aI s.length d=gV i)(a:aI s.length D=gV j):
  dR t h s d D (.int z)=if fg t h (s.getD i []) (s.getD j []) z=Pn then gV (bK (s.getD i []) (s.getD j []) z)else none:=by
 unfold dR;rw[H,a]
theorem Du(F:Fun K "join_set" "join_set" Dq f fd)(T:Bl M)(UT:Fe P w K M B 1 "is_number" yF)(UO:Fe P w K M B 2 "is_place" kQ)
  (am:Fe P w K M B 1 "other_hand" nG) (VC:Fe P w K M B 2 "variables_of" jS) (an:Fe P w K M B 1 "stands_both_ways" wT) (as:Fe P w K M B 1 "joined" iR):
  ay P w K M B aV 3 f fd ["sentence","hand","line","ahead"] sF:=by
 refine F.okB (N:=["sentence","hand","line","ahead","variable","first","second"]) λQC A U s H vs Q E sc hr h=>?_;obtain⟨p,a,b,t,w,n,x0,x1,x2,x3,d1,d2,d3,Y,c,rfl,hp,h9,o,I,W,h8,u,r1,r2,r3,q⟩:=h;have P1:=W.length;exists _,gg;refine⟨_,rfl,(bA o rfl ?_)⟩;refine⟨_,rfl,(bA o rfl ⟨_,rfl,.ref a,_,rfl,.inl ⟨_,SqL.of I,rfl⟩,x1,d1,Y.length,rfl,r1,_,rfl,?_⟩)⟩;rw[<-P1];cases X:aI c.length d1 with
 |none=>
  rw[Hf X]at q;exact ar<|ar<|q _ _ (Same.refl _) rfl
 |some i=>
 refine al ⟨_,rfl,(bA o rfl ⟨_,rfl,.ref a,_,rfl,.inl ⟨_,SqL.of I,rfl⟩,x2,d2,Y.length,rfl,r2,_,rfl,?_⟩)⟩;rw[<-P1];cases G:aI c.length d2 with
 |none=>
  rw[Hg G]at q;exact ar<|ar<|q _ _ (Same.refl _) rfl
 |some j=>
 refine al ⟨_,rfl,x3,d3,rfl,r3,_,rfl,?_⟩;obtain⟨z,rfl⟩|hn:=jP d3
 rotate_left
 ·rw[jm hn,Hh hn]at*;exact ar<|q _ _ (Same.refl _) rfl
 obtain rfl:=aw r3;rw[Hi X G]at q;obtain⟨hi,rfl⟩:=aB X;obtain⟨hj,rfl⟩:=aB G;obtain rfl:=aw r1;obtain rfl:=aw r2;obtain⟨y1,v⟩:∃x,Y[i]?=gV x:=⟨_,K' (QH hi (Nat.le_of_eq P1))⟩;obtain⟨y2,y⟩:∃x,Y[j]?=gV x:=⟨_,K' (QH hj (Nat.le_of_eq P1))⟩;obtain⟨g,hf,Z,rfl,Yb⟩:=W.get v;obtain⟨m,C,l2,rfl,V0⟩:=W.get y;have ef:c.getD i []=g:=by rw[B',hf];rfl
 have es:c.getD j []=m:=by rw[B',C];rfl
 rw[ef,es]at q;have of:=u g<|Pq hf;have os:=u m<|Pq C;have cf:=bx of;have cs:=bx os;refine al ?_;refine⟨_,rfl,_,rfl,(bA o rfl<|(fY I (aE v) ?_))⟩;refine⟨_,rfl,_,rfl,(bA o rfl<|(fY I (aE y) ?_))⟩;have J:fg t n g m z=Pr->∀H',Same H H'->Q .non H':=λe H' k=>by
  rw[e]at q;exact q _ _ k rfl
 refine⟨_,rfl,_,rfl,_,rfl,n,rfl,p,t,w,!n,rfl,hp,by lia,λl H1 d hl=>?_⟩;exists l,_,rfl,.inl<|SqL.of hl,rfl,bF _,_,rfl;show(if(!g_ (.int z) ((aD t (!n)).map V.int))=Pn then _ else _)
 rw[bj];cases D:(aD t (!n)).contains z with
 |false=>exact ar<|ar<|J (by unfold fg;rw[D];rfl) _ d
 |true=>
 refine al ⟨_,rfl,_,rfl,Z,_,rfl,.inr<|SqT.of<|d _ _ Yb,rfl,bF _,_,rfl,?_⟩;show(if(!g_ (.int z) (g.map V.int))=Pn then _ else _)
 rw[bj];cases L:g.contains z with
 |false=>exact ar<|ar<|J (by unfold fg;rw[D,L];rfl) _ d
 |true=>
 refine al ⟨_,rfl,_,rfl,_,rfl,l2,_,rfl,.inr<|SqT.of<|d _ _ V0,rfl,bF _,_,rfl,?_⟩;show(if(!g_ (.int (-z)) (m.map V.int))=Pn then _ else _)
 rw[bj];cases c3:m.contains (-z)with
 |false=>exact ar<|J (by unfold fg;rw[D,L,c3];rfl) _ d
 |true=>
 refine al ⟨_,rfl,_,rfl,_,rfl,Z,l2,g,m,z,rfl,d _ _ Yb,d _ _ V0,by lia,by lia,λH2 N=>⟨_,rfl,?_⟩⟩;cases O:dM g m z with
 |true=>exact ar<|J (by unfold fg;rw[D,L,c3,O];rfl) _<|d.trans N
 |false=>
 have ej:fg t n g m z=true:=by unfold fg;rw[D,L,c3,O];rfl
 rw[ej]at q;refine al ⟨_,rfl,_,rfl,_,rfl,Z,l2,g,m,z,rfl,N _ _<|d _ _ Yb,N _ _<|d _ _ V0,by lia,of.1,os.1,O,λl3 r H3 k3 ac h3=>q _ _ ((d.trans N).trans k3) ?_⟩;rw[ac.eq of.1 os.1 O]at h3;exact⟨l3,rfl,h3⟩
noncomputable abbrev sG:QW:=bS 64
noncomputable abbrev Dv:QW:=bS 65
noncomputable abbrev Dw:QW:=bS 66
noncomputable abbrev I_:QW:=bS 69
inductive sI (vs:ab V)(H:Hp)(Q:VK)(E:XK):Prop
 |mk (l t:C')(c k:ab Int)(h0:vs=[.ref l,.ref t])(h:ki H l c)(a:ki H t k)(b:Q (.bl (c.any λz=>k.contains z)) H)
inductive Ja (H:Hp)(l t:C')(c k:ab Int)(i:Nat)(a:St)(h:Hp):Prop
 |mk (v:M' V)(h0:a=[gV (.ref l),gV (.ref t),v])(b:h=H)(d:((c.take i).any λz=>k.contains z)=Pr)
inductive sJ (vs:ab V)(H:Hp)(Q:VK)(E:XK):Prop
 |mk (l q:C')(c:ab Int)(xs:ab V)(cs:ab (ab Int))(h0:vs=[.ref l,.ref q])(a:ki H l c)(b:c.length<=60)(d:H q=gV (.lst xs))(e:CLs H cs xs)(f:cs.length<=900)(g:∀h,Same H h->Q (.bl<|uM c cs) h)
inductive sK (vs:ab V)(H:Hp)(Q:VK)(E:XK):Prop
 |mk (p q:C')(t:Str)(v:V)(d:PK)(xs:ab V)(cs:ab (ab Int))(h0:vs=[.ref p,v])(b:H p=gV (.tup [.str t,.ref q]))(c:t.length<=30)(e:H q=gV (.lst xs))(f:CLs H cs xs)(g:cs.length<=900)(i:RD H d v)(j:∀a h,Same H h->RV h (mQ t.length cs d) a->Q a h)
def sL(d:PK):Prop:=∀D,d=.tuple D->Rb (D.getD 0 .none)=Pn
inductive wW (vs:ab V)(H:Hp)(Q:VK)(E:XK):Prop
 |mk (p q a:C')(t:Str)(hw:Px)(v:V)(d:PK)(xs ys:ab V)(cs sets:ab (ab Int))(h0:vs=[.ref p,.str<|aq hw,v,.ref a])(i:H p=gV (.tup [.str t,.ref q]))(j:t.length<=30)(k:H q=gV (.lst xs))(l:CLs H cs xs)(m:cs.length<=900)(n:H a=gV (.lst ys))(o:CLs H sets ys)(r:sets.length<=9000)(s:(∀c∈sets,ap t.length c))(e:RD H d v)(f:sL d)(g:∀b h,Same H h->RV h (aN t cs hw sets d) b->Q b h)
theorem iS(h:dy H d xs)(l:d.length=4):∃D c e f x X a b,d=[D,c,e,f]/\xs=[x,X,a,b]/\RD H D x/\RD H c X/\RD H e a/\RD H f b:=by
 match d,l with
 |[D,c,e,f],_=>
  obtain⟨x,r,rfl,g,k⟩:=ai h;obtain⟨X,q,rfl,i,j⟩:=ai k;obtain⟨a,t,rfl,m,n⟩:=ai j;obtain⟨b,u,rfl,o,p⟩:=ai n;obtain rfl:=bz p;exact⟨_,_,_,_,x,X,a,b,rfl,rfl,g,i,m,o⟩
theorem Nq:Rb (.str aZ)=true:=Nice.shaped (dQ 8<|by decide+kernel)
theorem Nr:Rb (.str ax)=true:=Nice.shaped (dQ 8<|by decide+kernel)
theorem Nt:Rb (.str bH)=true:=Nice.shaped (dQ 8<|by decide+kernel)
theorem Nu:Rb (.str aT)=true:=Nice.shaped (dQ 8<|by decide+kernel)
theorem Hj{a:Type}(l:ab a)(f:a->Px):(l.map λx=>V.bl<|f x).all uu=Pn/\(l.map λx=>V.bl<|f x).all iB=l.all f:=by
 constructor
 ·rw[TJ];exact Qv.mpr λz z=>rfl
 rw[TJ];rfl
noncomputable def Dx(H:Hp)(c:ab Int)(x:V):Px:=match x with
 |.ref p=>match H p with
  |some (.tup z)=>c.any λl=>z.contains<|.int l
  |_=>Pr
 |_=>Pr
theorem Dy(z:ab Int)(l:Int):(z.map V.int).contains (.int l)=z.contains l:=by
 simp
theorem yH(h:CL H k x):Dx H c x=c.any λl=>k.contains l:=by
 obtain⟨p,rfl,a⟩:=h;unfold Dx;simp only[a];exact dG λl z=>Dy k l
theorem u7:∀{C:ab (ab Int)} {xs:ab V},CLs H C xs->xs.all (Dx H c)=uM c C:=by
 intro C xs h;change Paired _ _ _ at h;induction h with
 |nil=>rfl
 |cons h t i=>rw[Up,yH h,i];rfl
theorem nI:eH ["literals","clause","literal"] ["literals","clause"] (aA sG):=GW
theorem Dz(F:Fun K "hits" "hits" sG f p):ay P w K M b aV 1 f p ["literals","clause"] sI:=by
 have B:=nI;refine F.okA nI λC A o s H D Q E G h=>?_;obtain⟨l,t,c,k,rfl,d,r,q⟩:=h;refine⟨_,(ae (fS 2 (bT<|pv 0) gg)
  (di gb)),⟨_,rfl,l,rfl,⟨_,SqT.of d⟩,eK (K:=K) (xs:=c.map V.int) (Ja H l t c k) ⟨Pt,rfl,rfl,rfl⟩ ?_ ?_ ?_⟩⟩
 ·rintro i j m Z ⟨Z,Z,rfl,Z⟩;exact SqT.of d
 ·rintro i x j m u ⟨v,rfl,rfl,a⟩;obtain⟨z,rfl,n⟩:=cn u;have e:(if Pr=Pn then !g_ (.int z) (k.map V.int)else g_ (.int z) (k.map V.int))=k.contains z:=by
   rw[PM Pk,bj]
  exists _,rfl,_,rfl,t,_,rfl,.inr<|SqT.of r,rfl,bF k,_,rfl;rw[e];cases g:k.contains z with
  |true=>
   have y:=P'.mpr ⟨z,Pq n,g⟩;rwa[y]at q
  |false=>
   refine al ⟨_,rfl,rfl,?_⟩;rw[Qb,n,Yq,a];show(k.contains z || Pr)=Pr
   rw[g];rfl
 rintro j m ⟨v,rfl,rfl,a⟩;rw[PJ<|by rw[A'];exact Po _]at a;rwa[a]at q
theorem DB(F:Fun K "hits_each" "hits_each" Dv f n)(T:Bl m)(p:Fe P w K m b 1 "hits" sI):ay P w K m b aV 2 f n ["literals","clauses"] sJ:=by
 refine F.okB (N:=["literals","clauses"]) λJ A o s H L Q E M N h=>?_;obtain⟨l,q,c,X,O,rfl,u,U,d,a,W,v⟩:=h;have Y:=a.length;exists _,(di<|aR (oJ rfl) rfl T.all VR<|gT<|jR ["clause","literals"] [Pt,gV 0]<|aO<|pv 1);refine⟨_,rfl,q,rfl,⟨_,SqL.of d⟩,λD g=>cU [gV<|.ref l] (λZ=>Pn) (λx=>.bl<|Dx H c x) rfl d g (by lia) ?_ ?_ ?_⟩
 ·intro x j y R k r;exact r
 ·intro x j Z y R k r;obtain⟨i,z⟩:=Q6.mp j;obtain⟨B,Z,t⟩:=a.get z;rw[yH t]at r;obtain⟨C,rfl,G⟩:=t;exact⟨_,rfl,_,rfl,l,C,c,B,rfl,k _ _ u,k _ _ G,r⟩
 have I:(X.filter _)=X:=Rq.mpr λZ Z=>rfl;rw[I];have e:=Hj X<|Dx H c;exists D,_,rfl,SqL.of aa,e.1;rw[e.2,u7 a];exact v _<|ad g _
theorem DC(F:Fun K "hits_set" "hits_set" Dw f n)(T:Bl m)(r:Fe P w K m b 2 "is_set" IW)(J:Fe P w K m b 2 "hits_each" sJ):ay P w K m b aV 3 f n ["sentence","literals"] sK:=by
 refine F.okB (N:=["sentence","literals"]) λD A o s H I Q E L M h=>?_;obtain⟨p,q,t,v,d,x,C,rfl,e,N,u,c,y,i,a⟩:=h;exists _,gg;refine⟨_,rfl,_,rfl,(bA e rfl ⟨.str t,_,rfl,⟨QA (cH<|by lia),rfl⟩,v,d,_,rfl,i,_,rfl,?_⟩)⟩;unfold mQ at a;cases g:rW _ d with
 |false=>
  rw[g]at a;exact ar<|ar<|a _ _ (Same.refl _) rfl
 |true=>
 obtain⟨z,O⟩:=yo g;have B:=CL.of (by rwa[<-z]);obtain⟨l,rfl,j⟩:=B;have U:=bx O;refine al ⟨_,rfl,_,rfl,(bA e rfl ⟨l,q,mP d,x,C,rfl,j,by lia,u,c,y,λW k=>⟨_,rfl,?_⟩⟩)⟩;rw[g]at a;cases G:uM _ C with
 |false=>
  rw[G]at a;exact ar<|a _ _ k rfl
 |true=>
  rw[G]at a;exact al ⟨_,rfl,a _ _ k ⟨l,rfl,k _ _ j⟩⟩
theorem Hk(F:Fun K "line_set" "line_set" I_ f fd)(T:Bl M)(ac:Fe P w K M B 1 "begins_with" wV)(am:Fe P w K M B 3 "given_set" sC)
  (an:Fe P w K M B 3 "hits_set" sK) (as:Fe P w K M B 3 "join_set" sF) (av:Fe P w K M B 4 "drop_set" sE):ay P w K M B aV 5 f fd ["sentence","hand","line","ahead"] wW:=by
 refine F.okB (N:=["sentence","hand","line","ahead"]) λQC A O s H vs Q E sc hr h=>?_;obtain⟨p,q,a,t,e,v,d,xs,ys,C,c,rfl,J,U,hq,n,h9,ha,hs,h8,o,j,i,g⟩:=h;exists _,gg;have ew:decide (V.str (aq e)=V.str (PD "wisher"))=e:=by
  have z:=ff e Pn;have Z:aq Pn=PD "wisher":=rfl;simp_all
 have es:decide (V.str (aq e)=V.str (PD "spoiler"))=!e:=by
  have z:=ff e Pr;have Z:aq Pr=PD "spoiler":=rfl;simp_all
 refine sB λN hN=>?_;have u:(!e&&formB aT 2 d)=Pr->N (start ["sentence","hand","line","ahead"] [.ref p,.str<|aq e,v,.ref a]) H:=λy=>hN _ _ (by
  refine sB λN2 W=>?_;have G:(e&&formB bH 2 d)=Pr->N2 (start ["sentence","hand","line","ahead"] [.ref p,.str<|aq e,v,.ref a]) H:=λI=>W _ _ (by
   have L:aN t C e c d=if formB aZ 4 d=Pn then dR t e c (fN d 1) (fN d 2) (fN d 3)else if formB ax 2 d=Pn then gR t e c (fN d 1)else none:=by
    unfold aN;rw[y,I];rfl
   rw[L]at g;exists _,rfl,v,d,aZ,4,rfl,j,by simp,Nq,i,_,rfl;cases Y:formB aZ 4 d with
   |true=>
    rw[Y,PP rfl]at g;obtain⟨ds,rfl,l⟩:=dS Y;obtain⟨b,zs,rfl,k,m⟩:=aj j;obtain⟨d0,D,d2,d3,X,x,x2,x3,rfl,rfl,r0,r,r2,r3⟩:=iS m l;exact ar ⟨_,rfl,_,rfl,_,rfl,_,rfl,p,a,b,t,_,e,X,x,x2,x3,D,d2,d3,ys,c,rfl,J,U,k,ha,hs,h8,o,r,r2,r3,g⟩
   |false=>
   rw[Y,PM Pk]at g;refine al ⟨_,rfl,v,d,ax,2,rfl,j,by simp,Nr,i,_,rfl,?_⟩;cases c4:formB ax 2 d with
   |true=>
    rw[c4]at g;obtain⟨ds,rfl,l⟩:=dS c4;obtain⟨b,zs,rfl,k,m⟩:=aj j;obtain⟨d0,D,X,x,rfl,rfl,r0,r⟩:=cI m l;exact ar ⟨_,rfl,_,rfl,_,rfl,(bA k rfl ⟨_,rfl,p,a,t,_,e,x,D,ys,c,rfl,J,U,ha,hs,h8,o,r,g⟩)⟩
   |false=>
    rw[c4]at g;exact al<|g _ _ (Same.refl _) rfl)
  refine⟨_,rfl,.inl ⟨rfl,_,rfl,?_⟩⟩;cases e with
  |false=>exact al<|al<|G rfl
  |true=>
  refine ar ⟨_,rfl,v,d,bH,2,rfl,j,by simp,Nt,i,_,rfl,?_⟩;cases I:formB bH 2 d with
  |false=>exact al<|G I
  |true=>
   have L:aN t C Pn c d=mQ t.length C (fN d 1):=by
    unfold aN;rw[I];rfl
   rw[L]at g;obtain⟨ds,rfl,l⟩:=dS I;obtain⟨b,zs,rfl,k,m⟩:=aj j;obtain⟨d0,D,X,x,rfl,rfl,r0,r⟩:=cI m l;exact ar ⟨_,rfl,_,rfl,(bA k rfl ⟨p,q,t,x,D,xs,C,rfl,J,U,hq,n,h9,r,g⟩)⟩)
 refine⟨_,rfl,.inl ⟨rfl,_,rfl,?_⟩⟩;cases e with
 |true=>exact al<|al<|u rfl
 |false=>
 refine ar ⟨_,rfl,v,d,aT,2,rfl,j,by simp,Nu,i,_,rfl,?_⟩;cases y:formB aT 2 d with
 |false=>exact al<|u y
 |true=>
  have L:aN t C Pr c d=jQ C (fN d 1):=by
   unfold aN;rw[y];rfl
  rw[L]at g;obtain⟨ds,rfl,l⟩:=dS y;obtain⟨b,zs,rfl,k,m⟩:=aj j;obtain⟨d0,D,X,x,rfl,rfl,r0,r⟩:=cI m l;exact ar ⟨_,rfl,_,rfl,(bA k rfl ⟨p,q,_,x,D,xs,C,rfl,J,hq,n,h9,r,λv' hv=>g _ _ (Same.refl _) hv⟩)⟩
noncomputable abbrev yI:QW:=bS 70
inductive pc (vs:ab V)(H:Hp)(Q:VK)(E:XK):Prop
 |mk (p q pp L:C')(t:Str)(hw:Px)(xs s:ab V)(cs:ab (ab Int))(ds:ab PK)(out:ab (ab Int))(h0:vs=[.ref p,.ref pp])(g:H p=gV (.tup [.str t,.ref q]))(i:t.length<=30)(j:H q=gV (.lst xs))(k:CLs H cs xs)(m:cs.length<=900)(n:(∀c∈cs,ap t.length c))(o:H pp=gV (.tup [.str<|aq hw,.ref L]))(r:H L=gV (.lst s))(u:dy H ds s)(a:ds.length<=9000)(b:(∀d∈ds,sL d))(e:bG t cs hw [] ds=(out,Pn))(f:∀l ys h,Same H h->H l=Pt->h l=gV (.lst ys)->CLs h out ys->Q (.ref l) h)
inductive pd (p:C')(pp:C')(s:C')(t:Str)(cs:ab (ab Int))(hw:Px)(ds:ab PK)(H:Hp)(i:Nat)(a:ab (M' V))(G:Hp):Prop
 |mk (x:M' V)(X:M' V)(b:M' V)(ys:ab V)(sets:ab (ab Int))(I:a=[gV<|.ref p,gV<|.ref pp,gV<|.ref s,x,X,b])(c:G s=gV (.lst ys))(d:CLs G sets ys)(e:bG t cs hw [] (ds.take i)=(sets,Pn))(f:Same H G)
theorem AQ(F:Fun K "sets_of" "sets_of" yI f fd)(T:Bl mg)(an:Fe P w K mg B 5 "line_set" wW):ay P w K mg B aV 6 f fd ["sentence","paper"] pc:=by
 refine F.okB (N:=["sentence","paper","sets","place","line","literals"]) λQC A O s H vs Q E sc hr h=>?_;obtain⟨p,q,pp,la,t,u,xs,ls,C,D,as,rfl,hp,ht,hq,I,h9,VB,m,Zy,Zz,h8,J,L,q'⟩:=h;have P1:=c9 Zz;refine⟨_,(ae gg
  (ae (fI Rc rfl gg gg
   (ae gg
   (ae (bu gg (au eV) aK)
   gg)))
  (di<|pv 2))),?_⟩
 refine⟨P8 _,λM l=>?_⟩;have N:=ad l<|.lst [];refine⟨_,rfl,(bA (N _ _ m) rfl ⟨la,rfl,⟨_,SqL.of<|N _ _ Zy⟩,?_⟩)⟩;refine gN (K:=K) (xs:=ls) (pd p pp M t C u D H)
  ⟨Pt,Pt,Pt,[],[],rfl,aa,.nil,rfl,N⟩ ?_ ?_ ?_
 ·rintro i σ G V ⟨V,V,V,V,V,V,V,V,V,k⟩;exact SqL.of<|k _ _ Zy
 ·rintro i x σ G t1 hx ⟨x3,x4,x5,Y,a,rfl,v,n,g,U⟩ W;have Wy:=(N'.mp hx).1;have rx:=cQ Zz hx;have y:=getD_some (d:=RI) (show i<D.length by lia);generalize D.getD i _=d at rx y;have X:=Pq y;have r:Same G (upd G t1<|.tup [.int i,x]):=ad W _;have j:=U.trans r;have Z:=dg g;rw[P9,Vb]at Z;have ac:∀c∈a,ap t.length c:=by
   have:=gu (w:=u) VB (D:=D.take i) (s:=[]) (by simp);rwa[g]at this
  exists t1,_,rfl,SqT.of aa,rfl,_,_,rfl,_,_,rfl,rfl;refine⟨_,rfl,_,rfl,(bA (j _ _ m) rfl ⟨_,rfl,_,rfl,p,q,M,t,u,x,d,xs,Y,C,a,rfl,j _ _ hp,ht,j _ _ hq,I.mono j,h9,r _ _ v,n.mono r,by lia,ac,eO j _ _ rx,J d X,λv' H3 k3 hv=>?_⟩)⟩;cases hl:aN t C u a d with
  |none=>
   rw[GH g y hl]at L;cases L
  |some c=>
   rw[hl]at hv;obtain⟨tc,rfl,Q7⟩:=hv;have am:=j.trans k3;have z:=k3 _ _<|r _ _ v;refine⟨_,rfl,rfl,_,rfl,al ?_⟩;exists _,rfl,.inl ⟨rfl,_,SqL.of z⟩,_,rfl,M,_,_,rfl,rfl,z,(by rw[<-n.length];exact cH<|by lia);refine⟨_,_,_,Y++[.ref tc],a++[c],rfl,aa,CLs.snoc (CL.upd ⟨tc,rfl,Q7⟩ z)<|(n.mono<|r.trans k3).upd z,uP g y hl,λb o e=>?_⟩;rw[af<|ag e l];exact am _ _ e
 rintro σ G ⟨x3,x4,x5,Y,a,rfl,v,n,g,U⟩;rw[PJ (by simp_all),L]at g;cases g;exact⟨_,rfl,q' _ _ _ U l v n⟩
noncomputable abbrev Nv:QW:=bS 71
noncomputable def qq(o:ab (ab Int)):Px:=match o.getLast? with
 |some c=>decide (c=[])
 |none=>Pr
inductive DD (vs:ab V)(H:Hp)(Q:VK)(E:XK):Prop
 |mk (l:C')(ys:ab V)(out:ab (ab Int))(h0:vs=[.ref l])(a:H l=gV (.lst ys))(b:CLs H out ys)(c:out.length<=9000)(d:∀h,Same H h->Q (.bl<|qq out) h)
theorem AR(y:ab V):dE y (gV (-1)) Pt=y.drop (y.length-1):=by
 unfold dE;have e:HT.sIx y.length 0 (gV (-1))=y.length-1:=by
  unfold HT.sIx;lia
 have E:HT.sIx y.length _ Pt=y.length:=rfl;rw[e,E];exact PJ (by simp)
theorem AS(o:ab (ab Int)):o.drop (o.length-1)=match o.getLast? with|some c=>[c]|none=>[]:=by
 obtain rfl|⟨i,c,rfl⟩:=List.eq_nil_or_concat o
 ·rfl
 simp
theorem CLs.drop':∀{c:ab (ab Int)} {xs:ab V} (n:Nat),CLs H c xs->CLs H (c.drop n) (xs.drop n):=by
 intro c xs n h;change Paired _ _ _ at h;induction h generalizing n with
 |nil=>cases n<;>exact .nil
 |cons r t i=>
  cases n with
  |zero=>exact .cons r t
  |succ n=>exact i n
theorem Hl(o:ab (ab Int)):QG (.list<|(o.drop<|o.length-1).map jw) (.list [.tuple []])=qq o:=by
 rw[AS];unfold qq;cases o.getLast? with
 |none=>rfl
 |some c=>
  cases c with
  |nil=>rfl
  |cons x r=>rfl
theorem La(F:Fun K "end_empty" "end_empty" Nv f x):ay P w K M B aV 1 f x ["sets"] DD:=by
 refine F.okB (N:=["sets"]) λJ A O s H L Q E N z h=>?_;obtain⟨l,y,o,rfl,C,i,T,q⟩:=h;have D:=z.units;exists _,(di<|AH (h_ D) (du fw (pv 0) gg eM) gg);refine⟨_,rfl,_,rfl,_,rfl,l,_,rfl,SqL.of C,λp b=>?_⟩;have e:=AR y;have c:=ad b<|.lst<|dE y (gV (-1)) Pt;have r:upd H p (.lst<|dE y (gV (-1)) Pt) p=gV (.lst<|y.drop<|y.length-1):=by rw[aa,e]
 generalize upd H p _=j at c r;refine⟨(by simp),λt d=>?_⟩;have a:=ad d<|.tup [];have m:=cm a;generalize upd j t _=n at a m;refine⟨(by show 1<=sizeLine;decide),λu g=>?_⟩;have k:=ad g<|.lst [.ref t];have v:=cm k;generalize upd n u _=G at k v;have I:CLs G (o.drop<|o.length-1) (y.drop<|y.length-1):=by
  rw[i.length];exact CLs.drop' _<|i.mono<|c.trans<|a.trans k
 refine .inr ⟨.list<|(o.drop<|o.length-1).map jw,.list _,gk ((a.trans k) _ _ r) I.rds,gk v<|ah (bo (k _ _ m) aG) aG,(Nice.mono (Aq<|CH _)<|by simp).shaped,by rfl,?_⟩;rw[Hl];exact q _<|c.trans<|a.trans k
noncomputable abbrev Nw:QW:=bS 72
inductive yJ (vs:ab V)(H:Hp)(Q:VK)(E:XK):Prop
 |mk (p q pp L:C')(t:Str)(hw:Px)(xs s:ab V)(cs:ab (ab Int))(ds:ab PK)(out:ab (ab Int))(h0:vs=[.ref p,.ref pp])(i:H p=gV (.tup [.str t,.ref q]))(j:t.length<=30)(k:H q=gV (.lst xs))(m:CLs H cs xs)(n:cs.length<=900)(o:(∀c∈cs,ap t.length c))(r:H pp=gV (.tup [.str<|aq hw,.ref L]))(u:H L=gV (.lst s))(v:dy H ds s)(a:ds.length<=9000)(b:(∀d∈ds,sL d))(e:bG t cs hw [] ds=(out,Pn))(f:qq out=Pn)(g:∀l ys h,Same H h->H l=Pt->h l=gV (.lst ys)->CLs h out ys->Q (.ref l) h)
theorem Lb(F:Fun K "whole_sets" "whole_sets" Nw f i)(j:Fe P w K m b 6 "sets_of" pc)(L:Fe P w K m b 1 "end_empty" DD):ay P w K m b aV 7 f i ["sentence","paper"] yJ:=by
 refine F.okB (N:=["sentence","paper","sets"]) λQC A O s H vs Q E sc hr h=>?_;obtain⟨p,q,n,u,t,v,x,z,C,D,o,rfl,B,G,I,c,J,M,d,Z,N,T,e,r,g,U⟩:=h;have W:o.length=D.length:=by
  have:=dg r;simpa using this
 refine⟨_,(ae gg
  (ae (bu gg (au eV) aK)
  (di<|pv 2))),?_⟩
 refine⟨_,rfl,_,rfl,p,q,n,u,t,v,x,z,C,D,o,rfl,B,G,I,c,J,M,d,Z,N,T,e,r,λl y H1 X hl Y a=>⟨_,rfl,l,y,o,rfl,Y,a,by simp_all,λH2 k=>⟨_,rfl,?_⟩⟩⟩;rw[g];exact al ⟨_,rfl,U l y H2 (X.trans k) hl (k _ _ Y)<|a.mono k⟩
def Lc(d:PK):Prop:=∀D,d=.tuple D->D.length<=9000/\∀e,D.getD 1 .none=.tuple e->e.length<=18
theorem qU:∀{a b:ab Int},a.Nodup->(∀x∈a,x∈b)->a.length<=b.length
 |[],_,_,_=>P8 _
 |x::a,b,h,g=>by
  obtain⟨d,f⟩:=Q3.mp h;have H:=g x P3;have:=qU f λy c=>(List.mem_erase_of_ne (show y≠x from λe=>d<|by rwa[<-e])).mpr<|g y<|P1 _ c;rw[List.length_erase_of_mem H]at this;have:=Yg H;rw[P4];lia
def bd(d:PK):Prop:=(∃k:Int,d=.tuple [.str aT,.int k])\/(∃c:ab Int,c.length<=18/\d=.tuple [.str bH,jw c])\/(∃k:Int,d=.tuple [.str ax,.int k])\/(∃i j z:Int,d=.tuple [.str aZ,.int i,.int j,.int z])
theorem yK(h:bd d):sL d/\Lc d:=by
 obtain⟨k,rfl⟩|⟨c,H,rfl⟩|⟨k,rfl⟩|⟨i,j,z,rfl⟩:=h
 ·exact⟨λD e=>by cases e;exact Nu,λD e=>by cases e;exact⟨by show 2<=9000;decide,λE e=>by cases e⟩⟩
 ·exact⟨λD e=>by cases e;exact Nt,λD e=>by
   cases e;refine⟨by show 2<=9000;decide,λE e=>?_⟩;cases e;simp_all⟩
 ·exact⟨λD e=>by cases e;exact Nr,λD e=>by cases e;exact⟨by show 2<=9000;decide,λE e=>by cases e⟩⟩
 exact⟨λD e=>by cases e;exact Nq,λD e=>by cases e;exact⟨by show 4<=9000;decide,λE e=>by cases e⟩⟩
theorem iT(h:RD H (.str x) v):RD a (.str x) v:=by assumption
theorem fR(h:RD H (.int x) v):RD a (.int x) v:=by assumption
theorem sM{H:Hp}{a q:C'}{z y:ab V}(h:H a=gV (.tup z))(b:H q=gV (.lst y)):a≠q:=λe=>by
 simp_all
theorem DE(g:bd d)(h:RD H d v)(m:H q=gV (.lst y)):RD (upd H q o) d v:=by
 obtain⟨k,rfl⟩|⟨c,t,rfl⟩|⟨k,rfl⟩|⟨i,j,z,rfl⟩:=g
 ·obtain⟨a,Z,rfl,b,f⟩:=aj h;exact bo (by rwa[af<|sM b m])<|‹_›
 ·obtain⟨a,Z,rfl,b,f⟩:=aj h;obtain⟨D,n,x,X,e,rfl,r,l⟩:=cI f rfl;cases e;exact bo (by rwa[af<|sM b m])<|ah (iT r)<|ah (CL.rd<|(CL.of l).upd m) aG
 ·obtain⟨a,Z,rfl,b,f⟩:=aj h;exact bo (by rwa[af<|sM b m])<|‹_›
 obtain⟨a,Z,rfl,b,f⟩:=aj h;exact bo (by rwa[af<|sM b m])<|‹_›
theorem qV(a:H q=gV (.lst s)):∀{D:ab PK} {v:ab V},(∀d∈D,bd d)->dy H D v->dy (upd H q o) D v
 |[],v,_,h=>by
  assumption
 |d::D,v,g,h=>by
  obtain⟨y,Y,rfl,b,c⟩:=ai h;exact ah (DE (g d P3) b a)<|qV a (λe f=>g e<|P1 _ f) c
theorem pe:∀{c:ab PK} {s:ab V} {D:ab PK} {v:ab V},dy H c s->dy H D v->dy H (c++D) (s++v)
 |[],s,D,v,h,g=>by
  rwa[h]
 |d::c,s,D,v,h,g=>by
  obtain⟨y,Y,rfl,a,b⟩:=ai h;exact ah a<|pe b g
theorem DF(h:qq o=Pn):1<=o.length/\o[o.length-1]?=gV []:=by
 unfold qq at h;cases e:o.getLast? with
 |none=>simp_all
 |some c=>
  rw[e]at h;have H:=PX h;subst H;rw[UT]at e;exact⟨by have:=(N'.mp e).1;lia,e⟩
noncomputable abbrev Jb:QW:=bS 77
noncomputable def bq:PK->ab Int
 |.tuple [.str w,.int i,.int j,.int _]=>if w=aZ then [i,j]else []
 |.tuple [.str w,.int k]=>if w=ax then [k]else []
 |_=>[]
theorem iU(k:Int):bq (.tuple [.str aT,.int k])=[]:=by
 rfl
theorem dH(k:Int):bq (.tuple [.str ax,.int k])=[k]:=by
 rfl
theorem cW(i j z:Int):bq (.tuple [.str aZ,.int i,.int j,.int z])=[i,j]:=by
 rfl
inductive DG (vs:ab V)(H:Hp)(Q:VK)(E:XK):Prop
 |mk (v:V)(d:PK)(h0:vs=[v])(hd:RD H d v)(g:bd d)(q:∀l h,Same H h->H l=Pt->h l=gV (.lst<|(bq d).map V.int)->Q (.ref l) h)
theorem Hm(F:Fun K "named_by" "named_by" Jb f t):ay P w K M B aV 1 f t ["line"] DG:=by
 refine F.okB (N:=["line"]) λC A O s H G Q E I J h=>?_;obtain⟨v,d,rfl,o,u,q⟩:=h;exists _,gg;obtain⟨k,rfl⟩|⟨c,L,rfl⟩|⟨k,rfl⟩|⟨i,j,z,rfl⟩:=u
 ·obtain⟨a,Z,rfl,b,g⟩:=aj o;obtain⟨D,p,x,X,e,rfl,r,m⟩:=cI g rfl;cases e;obtain rfl:=aS r;refine⟨_,rfl,(bA b rfl<|.inl ⟨rfl,_,rfl,?_⟩)⟩;refine al ⟨_,rfl,(bA b rfl<|.inl ⟨rfl,_,rfl,?_⟩)⟩;exact al ⟨P8 _,λl n=>q l _ (ad n _) n (aa)⟩
 ·obtain⟨a,Z,rfl,b,g⟩:=aj o;obtain⟨D,p,x,X,e,rfl,r,m⟩:=cI g rfl;cases e;obtain rfl:=aS r;refine⟨_,rfl,(bA b rfl<|.inl ⟨rfl,_,rfl,?_⟩)⟩;refine al ⟨_,rfl,(bA b rfl<|.inl ⟨rfl,_,rfl,?_⟩)⟩;exact al ⟨P8 _,λl n=>q l _ (ad n _) n aa⟩
 ·obtain⟨a,Z,rfl,b,g⟩:=aj o;obtain⟨D,p,x,X,e,rfl,r,m⟩:=cI g rfl;cases e;obtain rfl:=aS r;obtain rfl:=aw m;refine⟨_,rfl,(bA b rfl<|.inl ⟨rfl,_,rfl,?_⟩)⟩;exact al ⟨_,rfl,(bA b rfl<|.inl ⟨rfl,_,rfl,ar ⟨_,rfl,(bA b rfl ⟨(by show 1<=sizeLine;decide),λl n=>q l _ (ad n _) n (aa)⟩)⟩⟩)⟩
 obtain⟨a,Z,rfl,b,g⟩:=aj o;obtain⟨D,p,N,T,x,X,U,W,e,rfl,r,m,y,Y⟩:=iS g rfl;cases e;obtain rfl:=aS r;obtain rfl:=aw m;obtain rfl:=aw y;exact⟨_,rfl,(bA b rfl<|.inl ⟨rfl,_,rfl,ar ⟨_,rfl,(bA b rfl ⟨_,rfl,(bA b rfl ⟨(by show 2<=sizeLine;decide),λl n=>q l _ (ad n _) n (aa)⟩)⟩)⟩⟩)⟩
noncomputable abbrev Ld:QW:=bS 79
noncomputable def ig(s:ab Int)(k:Int):ab Int:=if k∈s then s else s++[k]
noncomputable def bI(n:Nat->ab Int)(l:Nat):Nat->ab Int
 |0=>[(l:Int)]
 |j+1=>if((l-j:Nat):Int)∈bI n l j then(n<|l-j).foldl ig (bI n l j)else bI n l j
theorem DH(r:ab Int)(k:Int):(ig r k).length<=r.length+1:=by
 unfold ig
 split
 ·exact Wf _
 simp
theorem ma:∀(s r:ab Int),(s.foldl ig r).length<=r.length+s.length
 |[],r=>Po _
 |k::s,r=>by
  have h:=ma s<|ig r k;have H:=DH r k;rw[Tr,P4];lia
theorem jp(h:∀i,(n i).length<=2):∀j,(bI n l j).length<=1+2*j
 |0=>Po _
 |j+1=>by
  have I:=jp h (l:=l) j;have:=h<|l-j;have H:=ma (n<|l-j)<|bI n l j;show(if _ then _ else _:ab Int).length<=_
  lia
theorem jq(d:PK):(bq d).length<=2:=by
 unfold bq
 split
 ·split
  ·exact Po _
  simp
 ·split
  ·simp
  simp
 simp
noncomputable def dB(s:ab Int):ab (aJ×V):=s.map λk=>((Qd k:aJ),V.bl Pn)
theorem DI:∀r k,(aY (dB r) (Qd k:aJ)).isSome=decide (k∈r):=λr k=>by
 unfold dB aY
 grind
theorem Le(r:ab Int)(k:Int):cE (dB r) (Qd k:aJ) (V.bl Pn)=dB (ig r k):=by
 by_cases h:k∈r
 ·unfold ig;rw[PP h];unfold cE;have e:((dB r).any λb=>decide (b.1=(Qd k)))=true:=by
   unfold dB;simp_all
  rw[PP e];unfold dB;simp
 unfold ig;rw[PM h,oy]
 ·unfold dB;rw[P6];rfl
 have:=DI r k;simp_all
theorem Hn(r:ab Int):(dB r).map (·.1)=r.map (Qd:Int->aJ):=by
 unfold dB;rw[Qm];rfl
inductive DJ (vs:ab V)(H:Hp)(Q:VK)(E:XK):Prop
 |mk (L:C')(s:ab V)(ds:ab PK)(last:Nat)(h0:vs=[.ref L,.int (last:Int)])(a:H L=gV (.lst s))(b:dy H ds s)(c:∀d∈ds,bd d)(e:last<ds.length)(f:ds.length<=3000)
   (q:∀l Z h,Same H h->H l=Pt->h l=gV (.lst<|Z.map V.int)->UR Z (bI (λi=>bq<|ds.getD i .none) last<|last+1)->TN (·<=·) Z->Q (.ref l) h):DJ vs H Q E
inductive Ny (l d:C')(last:Nat)(nm:Nat->ab Int)(H:Hp)(j:Nat)(a:St)(G:Hp):Prop
 |mk (x X:M' V)(i:a=[gV<|.ref l,gV<|.int (last:Int),gV<|.ref d,x,X])(I:G d=gV (.dK<|dB<|bI nm last j))(b:Same H G)
inductive Nz (L d l:C')(last:Nat)(x:M' V)(s ks:ab Int)(H:Hp)(j:Nat)(a:St)(G:Hp):Prop
 |mk (X:M' V)(i:a=[gV<|.ref L,gV<|.int (last:Int),gV<|.ref d,x,X])(I:G d=gV (.dK<|dB<|(ks.take j).foldl ig s))(b:Same H G)(c:G l=gV (.lst<|ks.map V.int))
theorem wX{s r:ab Int}{j:Nat}{k:Int}(h:s[j]?=gV k):(s.take<|j+1).foldl ig r=ig ((s.take j).foldl ig r) k:=by
 rw[Qb,h,Sy];rfl
theorem Lf(F:Fun K "needed_by" "needed_by" Ld f fd)(T:Bl J)(ac:Fe P w K J b 1 "named_by" DG):ay P w K J b aV 2 f fd ["lines","last"] DJ:=by
 refine F.okB (N:=["lines","last","needed","place","ahead"]) λQC A O s H vs Q E sc hr h=>?_;obtain⟨U,ls,d,L,rfl,h1,W,h3,h4,h5,q⟩:=h;have hu:=hr.units;have Y:(A.deeper<|Rr "needed_by" (aA Ld) s.heap.objs.size f QC).units+1<Tw:=by lia
 have P1:=c9 W;refine⟨_,(ae (sT 2<|kO (pv 1) gb)
  (ae (fS 3 gg<|au<|bu (jI<|wj Y (pv 3)<|pv 2) (au<|fS 4 (aO gg)<|au<|rR Y (pv 2) (pv 4) gb rfl) aK)
  (di<|aR (ww rfl) rfl T.sorted Wo<|gT<|pv 2))),?_⟩
 refine λD n=>⟨_,rfl,aa,[(Qd (L:Int),.bl Pn)],rfl,(by simp),?_⟩;have Z:Same H (upd (upd H D<|.dK []) D<|.dK<|gI [] [(Qd (L:Int),.bl Pn)]):=by rw[hG];exact ad n _
 have s1:upd (upd H D<|.dK []) D (.dK<|gI [] [(Qd _,.bl Pn)]) D=gV (.dK<|dB [(L)]):=aa;generalize upd _ D (.dK<|gI [] [(Qd _,.bl Pn)])=H1 at Z s1 ⊢;refine⟨_,rfl,_,rfl,_,rfl,(L),-1,rfl,by lia,jO (lo:=(L)) (Ny U D L (λi=>bq<|d.getD i .none) H) ⟨Pt,Pt,rfl,s1,Z⟩ ?_ ?_⟩
 ·rintro j g G hj ⟨x3,X,rfl,I,a⟩;have ej:(L:Int)-(j)=((L-j:Nat)):=by lia
  rw[ej];exists _,rfl,_,rfl,D,_,rfl,DGet.k (k:=Qd _) I;rw[DI];by_cases o:((L-j:Nat):Int)∈bI (λi=>bq<|d.getD i .none) L j
  ·rw[PB o];have e:bI (λi=>bq<|d.getD i _) L (j+1)=(bq<|d.getD _ _).foldl ig (bI (λi=>bq<|d.getD i _) L j):=PP o;obtain⟨v,hv⟩:∃v,ls[L-j]?=gV v:=⟨_,K' (by lia)⟩;have rv:=cQ (dz a _ _ W) hv;have gd:bd (d.getD (L-j) .none):=h3 _ (Pq (getD_some (SH (ky _ _) h4)));have r:=jq (d.getD (L-j) .none);generalize t:bq (d.getD _ _)=u at e r;have c:=jp (n:=λi=>bq (d.getD i .none)) (l:=L) (λi=>jq _) j;generalize bI (λi=>bq (d.getD i _)) L j=Ri at I e c;refine⟨_,rfl,ar ⟨_,rfl,_,rfl,(fY (a _ _ h1) (aE hv) ⟨v,d.getD _ _,rfl,rv,gd,λl G1 kg N y=>?_⟩)⟩⟩;rw[t]at y;refine⟨l,rfl,⟨_,SqL.of y⟩,cx (K:=K) (xs:=u.map V.int) (Nz U D l L (gV (.int _)) Ri u H) ⟨_,rfl,kg _ _ I,a.trans kg,y⟩ ?_ ?_ ?_⟩
   ·rintro i g G2 S ⟨S,S,S,S,m⟩;exact SqL.of m
   ·rintro i x g G2 hx ⟨X,rfl,M,B,p⟩;obtain⟨k,rfl,hk⟩:=cn hx;have C:=ma (u.take i) Ri;rw[P9]at C;exists _,rfl,_,rfl,D,_,rfl,DPut.k (k:=Qd k) M (cH<|by unfold dB;grind);rw[Le,<-wX hk];exists _,rfl,aa,B.upd_new n _;rwa[af λz=>by lia]
   rintro g G2 ⟨X,rfl,M,B,p⟩;rw[A',PJ<|Po _,<-e]at M;exact⟨_,_,rfl,M,B⟩
  rw[Pu o];have e:bI _ L (j+1)=bI _ L j:=PM o;exact⟨_,rfl,al ⟨_,_,rfl,by rwa[e],a⟩⟩
 rintro g G ⟨x3,X,rfl,I,a⟩;have e:((L:Int) - -1).toNat=L+1:=by rfl
 rw[e]at I;have c:=jp (n:=λi=>bq<|d.getD i .none) (l:=L) (λi=>jq _)<|L+1;refine⟨_,rfl,D,_,_,rfl,I,Hn _,by lia,λl Xw N hp hs=>q l Xw _ (a.trans<|ad N _) (a.free N) aa hp hs⟩
noncomputable def ii(c:ab Int):ab aJ:=c.map Qd
theorem md(c:ab Int):(ii c).map kV=c.map V.int:=by
 unfold ii;rw[Qm];rfl
theorem ic:ii a=ii b↔a=b:=ZP λz z h=>Rm h
theorem wY{a:Type}{l:ab a}{i:Nat}{x:a}(h:l[i]?=gV x):l.take (i+1)=l.take i++[x]:=by
 rw[Qb,h];rfl
theorem Lg{a b c:ab Int}(h:UR a c)(H:TN (·<=·) a)(d:UR b c)(e:TN (·<=·) b):a=b:=
 acJ (by lia) H e (h.trans d.symm)
theorem u8(g:bd d)(h:aN t C w s d=gV c):∀k∈bq d,0<=k/\k<(s.length:Int):=by
 obtain⟨k,rfl⟩|⟨n,o,rfl⟩|⟨k,rfl⟩|⟨i,j,z,rfl⟩:=g
 ·rw[iU];simp
 ·exact λy h=>nomatch h
 ·rw[dH];intro b v;unfold aN at h;have f:formB aT 2 (.tuple [.str ax,.int k])=false:=by
   rfl
  have F:formB bH 2 (.tuple [.str ax,.int k])=false:=by
   rfl
  rw[f,F,Sb,Sb]at h;have H:gR t w s (.int k)=gV c:=h;unfold gR at H;cases e:aI _ _ with
  |none=>rw[e]at H;cases H
  |some i=>
   obtain⟨m,A⟩:=aB e;simp_all
 intro b v;unfold aN at h;have f:formB aT 2 (.tuple [.str aZ,.int i,.int j,.int z])=false:=rfl;have F:formB bH 2 (.tuple [.str aZ,.int i,.int j,.int z])=false:=rfl;rw[f,F,Sb,Sb]at h;have H:dR t w s (.int i) (.int j) (.int z)=gV c:=h;unfold dR at H;cases e:aI s.length (.int i)with
 |none=>simp_all
 |some I=>
 cases E:aI s.length (.int j)with
 |none=>simp_all
 |some J=>
  obtain⟨m,A⟩:=aB e;obtain⟨p,B⟩:=aB E;cases A;obtain rfl|v:=P_.mp v
  ·simp_all
  simp_all
noncomputable abbrev AT:QW:=bS 78
noncomputable def bJ(f:Int->Int):PK->PK
 |.tuple [.str w,.int i,.int j,.int z]=>if w=aZ then .tuple [.str aZ,.int<|f i,.int<|f j,.int z]else .tuple [.str w,.int i,.int j,.int z]
 |.tuple [.str w,.int k]=>if w=ax then .tuple [.str ax,.int<|f k]else .tuple [.str w,.int k]
 |d=>d
theorem dO(f:Int->Int)(k:Int):bJ f (.tuple [.str aT,.int k])=.tuple [.str aT,.int k]:=by
 rfl
theorem fh(f:Int->Int)(k:Int):bJ f (.tuple [.str ax,.int k])=.tuple [.str ax,.int<|f k]:=by
 rfl
theorem fi(f:Int->Int)(i j z:Int):bJ f (.tuple [.str aZ,.int i,.int j,.int z])=.tuple [.str aZ,.int<|f i,.int<|f j,.int z]:=by
 rfl
theorem pf(f:Int->Int)(c:ab Int):bJ f (.tuple [.str bH,jw c])=.tuple [.str bH,jw c]:=rfl
theorem kR(g:bd d):bd (bJ f d):=by
 obtain⟨k,rfl⟩|⟨c,h,rfl⟩|⟨k,rfl⟩|⟨i,j,z,rfl⟩:=g
 ·exact .inl ⟨k,rfl⟩
 ·exact .inr<|.inl ⟨c,h,rfl⟩
 ·exact .inr<|.inr<|.inl ⟨_,rfl⟩
 exact .inr<|.inr<|.inr ⟨_,_,_,rfl⟩
theorem qW(g:bd d):bq (bJ f d)=(bq d).map f:=by
 obtain⟨k,rfl⟩|⟨c,h,rfl⟩|⟨k,rfl⟩|⟨i,j,z,rfl⟩:=g
 ·rfl
 ·rfl
 ·rfl
 rfl
inductive wZ (vs:ab V)(H:Hp)(Q:VK)(E:XK):Prop
 |mk (v:V)(na:C')(d:PK)(ns:ab Int)(h0:vs=[v,.ref na])(hd:RD H d v)(g:bd d)(hn:H na=gV (.lst (ns.map V.int)))(r:∀k∈bq d,0<=k/\k<(ns.length:Int))(q:∀a h,Same H h->RD h (bJ (λk=>ns.getD k.toNat 0) d) a->Q a h)
inductive w9 (vs:ab V)(H:Hp)(Q:VK)(E:XK):Prop
 |mk (v:V)(na:C')(d:PK)(kvs:ab (aJ×V))(f:Int->Int)(h0:vs=[v,.ref na])(hd:RD H d v)(g:bd d)(hn:H na=gV (.dK kvs))(r:∀k∈bq d,aY kvs (Qd k:aJ)=gV (.int<|f k))(q:∀a h,Same H h->RD h (bJ f d) a->Q a h)
theorem sN{N:ab Int}{k:Int}(h:0<=k/\k<(N.length:Int)):kn (N.map V.int) k=gV (.int<|N.getD k.toNat 0):=by
 obtain⟨n,rfl⟩:∃n:Nat,k=(n):=⟨k.toNat,by lia⟩;refine aE ?_;simp_all
theorem ph{H:Hp}{n:C'}{s:ab (aJ×V)}{k z:Int}(a:H n=gV (.dK s))(h:aY s (Qd k:aJ)=gV (.int z)):DGet H n (.int k) (gV<|.int z):=by
 rw[<-h];exact DGet.k (k:=Qd k) a
theorem yL:eH ["line","numbers"] ["line","numbers"] (aA AT):=GW
theorem Ho(F:Fun K "renamed" "renamed" AT f u):ay P w K M B aV 1 f u ["line","numbers"] wZ:=by
 refine F.okA yL λC A O s H L Q E r h=>?_;obtain⟨v,W,d,Y,rfl,n,y,p,r,q⟩:=h;exists _,gg;obtain⟨k,rfl⟩|⟨c,J,rfl⟩|⟨k,rfl⟩|⟨i,j,z,rfl⟩:=y
 ·obtain⟨a,Z,rfl,b,g⟩:=aj n;obtain⟨D,t,x,X,e,rfl,m,o⟩:=cI g rfl;cases e;obtain rfl:=aS m;refine⟨_,rfl,(bA b rfl<|.inl ⟨rfl,_,rfl,?_⟩)⟩;rw[Pu (show¬V.str aT=V.str _ by decide+kernel)];refine al ⟨_,rfl,(bA b rfl<|.inl ⟨rfl,_,rfl,?_⟩)⟩;rw[Pu (show¬V.str aT=V.str _ by decide+kernel)];exact al ⟨_,rfl,q _ _ (Same.refl _) n⟩
 ·obtain⟨a,Z,rfl,b,g⟩:=aj n;obtain⟨D,t,x,X,e,rfl,m,o⟩:=cI g rfl;cases e;obtain rfl:=aS m;refine⟨_,rfl,(bA b rfl<|.inl ⟨rfl,_,rfl,?_⟩)⟩;rw[Pu (by decide+kernel)];refine al ⟨_,rfl,(bA b rfl<|.inl ⟨rfl,_,rfl,?_⟩)⟩;rw[Pu (by decide+kernel)];exact al ⟨_,rfl,q _ _ (Same.refl _) n⟩
 ·obtain⟨a,Z,rfl,b,g⟩:=aj n;obtain⟨D,t,x,X,e,rfl,m,o⟩:=cI g rfl;cases e;obtain rfl:=aS m;obtain rfl:=aw o;refine⟨_,rfl,(bA b rfl<|.inl ⟨rfl,_,rfl,?_⟩)⟩;rw[Pu (by decide+kernel)];refine al ⟨_,rfl,(bA b rfl<|.inl ⟨rfl,_,rfl,ar ⟨_,rfl,_,rfl,(bA b rfl<|(fY p (sN<|r k<|Pw.mpr rfl) ⟨(by show 2<=sizeLine;decide),λl N=>q _ _ (ad N _)<|bo aa<|ah (cR _)<|ah (ca _) aG⟩))⟩⟩)⟩
 obtain⟨a,Z,rfl,b,g⟩:=aj n;obtain⟨D,t,T,U,x,X,x2,x3,e,rfl,m,o,G,I⟩:=iS g rfl;cases e;obtain rfl:=aS m;obtain rfl:=aw o;obtain rfl:=aw G;obtain rfl:=aw I;refine⟨_,rfl,(bA b rfl<|.inl ⟨rfl,_,rfl,ar ⟨_,rfl,_,rfl,(bA b rfl<|(fY p (sN<|r i P3) ⟨_,rfl,_,rfl,(bA b rfl<|(fY p (sN<|r j<|P1 _<|Pw.mpr rfl) ⟨_,rfl,(bA b rfl ⟨(by show 4<=sizeLine;decide),λl N=>q _ _ (ad N _)<|bo aa<|ah (cR _)<|ah (ca _)<|ah (ca _)<|ah (ca _) aG⟩)⟩))⟩))⟩⟩)⟩
theorem Hq(F:Fun K "renamed" "renamed" AT f C):ay P w K T B aV 1 f C ["line","numbers"] w9:=by
 refine F.okA yL λG A O s H W Q E r h=>?_;have Y:=r.units;have p:(A.deeper<|Rr "renamed" (aA AT) s.heap.objs.size f G).units+1<Tw:=by lia
 obtain⟨v,N,d,I,U,rfl,n,J,t,r,q⟩:=h;refine⟨_,(ae (bu gg (di<|eD<|aM iE<|aM (bv p (pv 1) gg λS S=>rfl)<|kh (bv p (pv 1) gg λS S=>rfl) gg) aK)
  (ae (bu gg (di<|eD<|kh iE<|bv p (pv 1) gg λS S=>rfl) aK)
  (di<|pv 0))),?_⟩
 obtain⟨k,rfl⟩|⟨c,hc,rfl⟩|⟨k,rfl⟩|⟨i,j,z,rfl⟩:=J
 ·obtain⟨a,Z,rfl,b,g⟩:=aj n;obtain⟨D,u,x,X,e,rfl,m,o⟩:=cI g rfl;cases e;obtain rfl:=aS m;refine⟨_,rfl,(bA b rfl<|.inl ⟨rfl,_,rfl,?_⟩)⟩;refine al ⟨_,rfl,(bA b rfl<|.inl ⟨rfl,_,rfl,?_⟩)⟩;exact al ⟨_,rfl,q _ _ (Same.refl _) n⟩
 ·obtain⟨a,Z,rfl,b,g⟩:=aj n;obtain⟨D,u,x,X,e,rfl,m,o⟩:=cI g rfl;cases e;obtain rfl:=aS m;refine⟨_,rfl,(bA b rfl<|.inl ⟨rfl,_,rfl,?_⟩)⟩;refine al ⟨_,rfl,(bA b rfl<|.inl ⟨rfl,_,rfl,?_⟩)⟩;exact al ⟨_,rfl,q _ _ (Same.refl _) n⟩
 ·obtain⟨a,Z,rfl,b,g⟩:=aj n;obtain⟨D,u,x,X,e,rfl,m,o⟩:=cI g rfl;cases e;obtain rfl:=aS m;obtain rfl:=aw o;refine⟨_,rfl,(bA b rfl<|.inl ⟨rfl,_,rfl,?_⟩)⟩;refine al ⟨_,rfl,(bA b rfl<|.inl ⟨rfl,_,rfl,ar ⟨_,rfl,_,rfl,(bA b rfl ⟨N,_,rfl,ph t<|r k<|Pw.mpr rfl,(by show 2<=sizeLine;decide),λl y=>q _ _ (ad y _)<|bo aa<|ah (cR _)<|ah (ca _) aG⟩)⟩⟩)⟩
 obtain⟨a,Z,rfl,b,g⟩:=aj n;obtain⟨D,u,d2,d3,x,X,x2,x3,e,rfl,m,o,L,M⟩:=iS g rfl;cases e;obtain rfl:=aS m;obtain rfl:=aw o;obtain rfl:=aw L;obtain rfl:=aw M;refine⟨_,rfl,(bA b rfl<|.inl ⟨rfl,_,rfl,ar ⟨_,rfl,_,rfl,(bA b rfl ⟨N,_,rfl,ph t<|r i P3,_,rfl,_,rfl,(bA b rfl ⟨N,_,rfl,ph t<|r j<|P1 _<|Pw.mpr rfl,_,rfl,(bA b rfl ⟨(by show 4<=sizeLine;decide),λl y=>q _ _ (ad y _)<|bo aa<|ah (cR _)<|ah (ca _)<|ah (ca _)<|ah (ca _) aG⟩)⟩)⟩)⟩⟩)⟩
noncomputable abbrev Lh:QW:=bS 80
noncomputable def iV(o:ab (ab Int)):ab Int:=o.map λc=>((o.idxOf c:Nat):Int)
theorem qX:∀{o:ab (ab Int)} {i:Nat} {c:ab Int},o[i]?=gV c->c∉o.take i->o.idxOf c=i
 |[],i,c,h,_=>by simp at h
 |x::o,0,c,h,_=>by
  simp_all
 |x::o,i+1,c,h,n=>by
  have a:x≠c:=λz=>n (by rw[z];exact P3);have H:o[i]?=gV c:=by assumption
  have N:c∉o.take i:=λz=>(by simp_all);rw[YC,qX H N];have:(x == c)=false:=by simpa using a
  rw[this];rfl
inductive DK (vs:ab V)(H:Hp)(Q:VK)(E:XK):Prop
 |mk (s:C')(ys:ab V)(out:ab (ab Int))(h0:vs=[.ref s])(a:H s=gV (.lst ys))(b:CLs H out ys)(c:out.length<=3000)(q:∀l h,Same H h->H l=Pt->h l=gV (.lst<|(iV out).map V.int)->Q (.ref l) h)
inductive NA (s d:C')(out:ab (ab Int))(H:Hp)(i:Nat)(a:ab (M' V))(G:Hp):Prop
 |mk (x X:M' V)(D:ab (ab aJ×V))(I:a=[gV<|.ref s,gV<|.ref d,x,X])(b:G d=gV (.dT D))(e:∀c:ab Int,aY D (ii c)=if c∈out.take i then gV (.int ((out.idxOf c:Nat):Int))else Pt)(f:D.length<=i)(g:Same H G)
theorem DL(r:St)(f:Nat->V)(E:c=Pt::r)(e:H a=gV (.lst X))(g:H D=Pt)(l:X.length<=9000)
  (k:∀i x,X[i]?=gV x->∀d R,Same H d->R (f i) d->t (gV x::r) d R) (q:Q (.ref D) (upd H D<|.lst<|(Qt X.length).map f)):jD (FU K a) D (eW 0) MX t c H Q:=by
 have n:=ag e g;refine bQ (xs:=X) (λi b y h=>(∃v,b=v::r)/\y=(Qt i).map f/\h=upd H D (.lst y)) ⟨⟨Pt,E⟩,rfl,rfl⟩ ?_ ?_ ?_
 ·rintro i b y h z ⟨z,z,rfl⟩;exact⟨aa,SqL.of<|by rwa[af n]⟩
 ·rintro i x b y h j ⟨⟨v,rfl⟩,rfl,rfl⟩;have m:=(N'.mp j).1;refine cy<|k i x j _ _ (ad g _) ⟨aa,cH (by rw[A',QQ];lia),⟨_,rfl⟩,?_,?_⟩
  ·rw[Si,P6];rfl
  rw[hG]
 simp_all
theorem Li(F:Fun K "first_places" "first_places" Lh f fd)(T:Bl mg):ay P w K mg Z aV 1 f fd ["sets"] DK:=by
 refine F.okB (N:=["sets","places","place","literals"]) λQC A O s H vs Q E sc hr h=>?_;have hu:=hr.units;have Va:(A.deeper<|Rr "first_places" (aA Lh) s.heap.objs.size f QC).units+1<Tw:=by lia
 obtain⟨u,ys,o,rfl,v,B,h3,q⟩:=h;have P1:=B.length;refine⟨_,(ae (sT 1 oA)
  (ae (fI Rc rfl gg gg
   (au<|cG<|uW Va (pv 1) (pv 3) (pv 2) ⟨rfl,rfl,rfl,rfl⟩))
  (di<|jR ["literals","places"] [Pt,gV 1] (aO<|pv 0) (e:=λS S S S=>(bv Va (pv 1) (pv 0) λS S=>rfl))))),λl N=>?_⟩;have k1:=ad N<|.dT [];have s1:=cm k1;refine⟨_,rfl,u,rfl,⟨_,SqL.of<|k1 _ _ v⟩,gN (K:=K) (xs:=ys) (NA u l o H) ⟨Pt,Pt,[],rfl,s1,λc=>rfl,Po _,k1⟩ ?_ ?_ ?_⟩
 ·rintro i σ G S ⟨S,S,S,S,S,S,S,k⟩;exact SqL.of<|k _ _ v
 ·rintro i x σ G m L ⟨x2,x3,D,rfl,M,d,i3,I⟩ U;have W:Same G (upd G m<|.tup [.int i,x]):=ad U _;obtain⟨c,g,t,rfl,X⟩:=((B.mono I).mono W).get L;have Wy:=(N'.mp g).1;have a:upd G m (.tup [.int i,.ref t]) t=gV (.tup<|(ii c).map kV):=by rwa[md]
  have J:=W _ _ M;have Y:=I.trans W;have p:=@aa G m (.tup [.int i,.ref t]);generalize upd G m (.tup _)=G1 at a J Y p ⊢;have et:=wY g;exists m,_,rfl,SqT.of p,rfl,_,_,rfl,_,_,rfl,rfl;exists _,rfl,l,rfl,.inr ⟨_,.inl J⟩,_,rfl,_,rfl;have b:=d c;by_cases y:c∈o.take i
  ·rw[PP y]at b;refine .inl ⟨.int ((o.idxOf c):Int),by rw[<-b];exact DGet.t J a,?_⟩;refine⟨_,_,D,rfl,J,λC=>?_,Nat.le_succ_of_le i3,Y⟩;grind
  rw[PM y]at b;have ei:=qX g y;refine .inr ⟨by rw[<-b];exact DGet.t J a,_,DPut.t J a (cH<|by lia),⟨_,_,_,rfl,aa,λC=>?_,?_,Y.upd_new N _⟩⟩
  ·rw[gL];by_cases e:C=c
   ·simp_all
   rw[PM λz=>e<|ic.mp z];simp_all
  have:=dJ D (ii c)<|.int (i);lia
 rintro σ G ⟨x2,x3,D,rfl,M,d,i3,I⟩;rw[PJ<|by simp_all]at d;refine⟨_,rfl,u,rfl,⟨_,SqL.of<|I _ _ v⟩,λDl n=>?_⟩;refine DL [gV<|.ref l] (λi=>.int ((o.idxOf (o.getD i [])))) rfl (I _ _ v) n (by lia) (λi x L H' R k r=>?_) ?_
 ·obtain⟨c,g,t,rfl,X⟩:=(B.mono<|I.trans k).get L;have a:H' t=gV (.tup<|(ii c).map kV):=by rwa[md]
  have b:=d c;rw[PP<|Pq g]at b;have eg:o.getD i []=c:=by simp_all
  rw[eg]at r;exact⟨_,rfl,_,rfl,l,_,rfl,by rw[<-b];exact DGet.t (k _ _ M) a,r⟩
 have k5:=ad n<|.lst ((Qt ys.length).map λi:Nat=>V.int ((o.idxOf (o.getD i []))));refine q Dl _ (I.trans k5) (I.free n) ?_;rw[aa]
 congr 2
 unfold iV;rw[Qm];refine UC λj=>?_;grind
theorem DN:x∈ig r k↔x∈r\/x=k:=by
 unfold ig
 split
 ·simp_all
 simp
theorem qY:∀{s r:ab Int} {x:Int},x∈s.foldl ig r↔x∈r\/x∈s
 |[],r,x=>by simp
 |k::s,r,x=>by
  rw[Tr,qY,DN,P_,or_assoc]
theorem w_(h:r.Nodup):(ig r k).Nodup:=by
 unfold ig
 split
 ·exact h
 rename_i n;rw[Rw];exact⟨h,by simp,λx H y a z=>by rw[Pw.mp a]at z;exact n<|z▸H⟩
theorem mV:∀{k r:ab Int},r.Nodup->(k.foldl ig r).Nodup
 |[],_,h=>h
 |_::k,_,h=>mV (k:=k)<|w_ h
section
variable {nm:Nat->ab Int}{last:Nat}
theorem gx:∀j,(bI nm last j).Nodup
 |0=>by show([(last)]:ab Int).Nodup;simp
 |j+1=>by
  show(if _ then _ else _:ab Int).Nodup
  split
  ·exact mV<|gx j
  exact gx j
theorem fx:x∈bI nm last (j+1)↔x∈bI nm last j\/(((last-j:Nat):Int)∈bI nm last j/\x∈nm (last-j)):=by
 show x∈(if _ then _ else _)↔_
 split
 ·rw[qY];simp_all
 simp_all
theorem jT(h:x∈bI nm last j):∀m,x∈bI nm last (j+m)
 |0=>h
 |m+1=>fx.mpr<|.inl<|jT h m
theorem gy(H:∀i,i<=last->∀k∈nm i,0<=k/\k<(i:Int)):∀{j:Nat} {x:Int},x∈bI nm last j->0<=x/\x<=(last:Int)
 |0,x,h=>by
  have a:=Pw.mp h;simp_all
 |j+1,x,h=>by
  obtain z|⟨y,z⟩:=fx.mp h
  ·exact gy H z
  have:=H _ (ky _ _) x z;omega
theorem pi(H:∀i,i<=last->∀k∈nm i,0<=k/\k<(i:Int))(a:last-j<=p):∀m,(p:Int)∈bI nm last (j+m)->(p:Int)∈bI nm last j
 |0,h=>h
 |m+1,h=>by
  obtain z|⟨_,z⟩:=fx.mp ‹_›
  ·exact pi H a m z
  have:=H (last-(j+m)) (ky _ _) _ z;omega
theorem kT(H:∀i,i<=last->∀k∈nm i,0<=k/\k<(i:Int)){p:Nat}(h:(p:Int)∈bI nm last (last+1)):∀k∈nm p,k∈bI nm last (last+1):=λk b=>by
 have X:p<=last:=by
  have:=(gy H h).2;simp_all
 have e:last+1=(last-p)+(p+1):=by lia
 rw[e]at h;have c:=pi H (by simp_all) _ h;have d:=fx.mpr<|.inr ⟨by rwa[show last-(last-p)=p by lia],by rwa[show last-(last-p)=p by lia]⟩;have a:=jT d p;lia
theorem xa(j:Nat):(last:Int)∈bI nm last j:=by
 have:=jT (nm:=nm) (j:=0) (x:=(last)) (Pw.mpr rfl) j
 simp_all
end
theorem xb{o:ab (ab Int)}{k:Nat}{c:ab Int}(h:o[k]?=gV c):o.idxOf c<=k:=by
 obtain g|g:=VB k (o.idxOf c)
 ·exact absurd (N'.mp h).2 (by
   have:=Ye g;simpa using this)
 exact g
theorem jU{o:ab (ab Int)}{c:ab Int}(h:c∈o):o.idxOf c<o.length/\o[o.idxOf c]?=gV c:=by
 have H:=Xx.mpr h;exists H;rw[K' H,ZR]
noncomputable abbrev NB:QW:=bS 81
theorem Lj{A B:Hp->Prop}(h:A H):MX c H λb a=>if b=Pn then A a else B a:=by
 assumption
inductive Jc (T:St)(h:Hp)(D:C')(es:Nat->PK)(i:Nat)(a:St)(ys:ab V)(H:Hp):Prop
 |mk (v:M' V)(h0:a=v::T)(b:H D=gV (.lst ys))(c:Same h H)(d:dy H ((Qt i).map es) ys)
theorem qZ(r:St)(e:Nat->PK)(E:k=Pt::r)(p:c a=gV (.lst X))(l:c D=Pt)(G:X.length<=9000)(u:∀i,i<X.length->bd (e i))
  (w:∀i x,X[i]?=gV x->∀H R,Same c H->(∀v h,Same H h->RD h (e i) v->R v h)->T (gV x::r) H R)
  (z:∀y H,Same c H->H D=gV (.lst y)->dy H ((Qt X.length).map e) y->Q (.ref D) H):jD (FU K a) D (eW 0) MX T k c Q:=by
 refine bQ (xs:=X) (Jc r c D e) ⟨Pt,E,aa,ad l _,aG⟩ ?_ ?_ ?_
 ·rintro i q y m j ⟨j,j,f,b,j⟩;exact⟨f,SqL.of<|b _ _ p⟩
 ·rintro i x q y m s ⟨I,rfl,f,b,g⟩;have J:=(N'.mp s).1;refine cy<|w i x s _ _ b λv L n B=>?_;have o:=c9 g;rw[A',QQ]at o;have t:=n _ _ f;have A:∀d∈(Qt<|i+1).map e,bd d:=λd C=>by
   grind
  refine⟨t,cH (by lia),_,rfl,aa,(b.trans n).upd_new l _,qV t A ?_⟩;rw[Si,P6];exact pe (dz n _ _ g)<|ah B aG
 rintro q y m ⟨j,j,f,b,g⟩;exact z y m b f g
inductive DO (a:St)(h:Hp)(D:C')(ks:ab Int)(i:Nat)(b:St)(ys:ab V)(H:Hp):Prop
 |mk (v c:M' V)(T:ab C')(h0:b=v::c::a)(d:H D=gV (.lst ys))(e:Same h H)(f:ys=T.map V.ref)(g:T.length=i)(l:∀(j:Nat) (t:C') (k:Int),T[j]?=gV t->ks[j]?=gV k->H t=gV (.tup [.int k,.int (j:Int)]))
theorem mf{a b:Type}(d:a)(g:a->b)(l:ab a)(h:n=l.length):(Qt n).map (λi=>g<|l.getD i d)=l.map g:=by
 refine UC λj=>?_;rw[PN,PN];by_cases H:j<l.length
 ·simp_all
 simp_all
noncomputable def pj(n:ab Int):ab (aJ×V):=(Qt n.length).map λi=>((Qd (n.getD i 0):aJ),V.int (i:Int))
theorem AU(n:ab Int):(pj n).map (·.1)=n.map (Qd:Int->aJ):=by
 unfold pj;rw[Qm];exact mf 0 _ n rfl
theorem DQ(a:k∈n):aY (pj n) (Qd k:aJ)=gV (.int ((n.idxOf k:Nat):Int)):=by
 have g:∀(l:ab Int) (s:Nat),k∈l->aY ((Qt l.length).map λi=>((Qd (l.getD i 0):aJ),V.int ((s+i:Nat)))) (Qd k)=gV (.int ((s+l.idxOf k:Nat))):=by
  intro l
  induction l with
  |nil=>exact λy h=>nomatch h
  |cons x l I=>
   intro s m;rw[P4,List.range_succ_eq_map,Qf];unfold aY;rw[RO];by_cases e:x=k
   ·simp_all
   have E:decide ((Qd ((x::l).getD 0 0):aJ)=Qd k)=false:=Pu λz=>e<|Rm z;have H:=(P_.mp m).resolve_left λz=>e z.symm;have:=I (s+1) H;simp only[E];unfold aY at this;rw[YC,show(x == k)=Pr by simpa using e];simp_all
 have:=g n 0 a;simp only[Sg]at this;exact this
noncomputable def fT(d:ab PK)(n:ab Int):ab PK:=n.map λp=>bJ (λk=>((n.idxOf k:Nat):Int))<|d.getD p.toNat .none
noncomputable def bD(o:ab (ab Int))(k:Int):Int:=(iV o).getD k.toNat 0
noncomputable def yM(d:ab PK)(i:Nat):ab Int:=bq<|d.getD i .none
inductive DR (vs:ab V)(H:Hp)(Q:VK)(E:XK):Prop
 |mk (p q pp L:C')(t:Str)(hw:Px)(xs s:ab V)(cs:ab (ab Int))(ds:ab PK)(out:ab (ab Int))(h0:vs=[.ref p,.ref pp])(i:H p=gV (.tup [.str t,.ref q]))(j:t.length<=30)(k:H q=gV (.lst xs))(m:CLs H cs xs)(n:cs.length<=900)(o:(∀c∈cs,ap t.length c))(u:H pp=gV (.tup [.str<|aq hw,.ref L]))(v:H L=gV (.lst s))(w:dy H ds s)(a:ds.length<=3000)(b:(∀d∈ds,bd d))(e:bG t cs hw [] ds=(out,Pn))(f:qq out=Pn)
   (g:∀r l ys nd h,Same H h->H r=Pt->H l=Pt->h r=gV (.tup [.str<|aq hw,.ref l])->h l=gV (.lst ys)->dy h (fT (ds.map<|bJ<|bD out) nd) ys->UR nd (bI (yM<|ds.map<|bJ<|bD out) (out.idxOf [])<|out.idxOf []+1)->TN (·<=·) nd->Q (.ref r) h):DR vs H Q E
theorem Lk(F:Fun K "shortened_paper" "shortened_paper" NB f fd)(T:Bl mg)(cf:Fe P w K mg B 7 "whole_sets" yJ)(ch:Fe P w K mg B 1 "first_places" DK)(a7:Fe P w K mg B 1 "renamed" wZ)(a8:Fe P w K mg B 2 "needed_by" DJ)(a9:Fe P w K mg B 1 "renamed" w9):ay P w K mg B aV 8 f fd ["sentence","paper"] DR:=by
 refine F.okB (N:=["sentence","paper","sets","firsts","lines","needed","numbers"]) λQC A ba s H vs Q E sc hr h=>?_;obtain⟨p,q,pp,la,t,hw,xs,ls,cs,D,o,rfl,hp,ht,hq,bb,h9,VB,W,Zy,Zz,h8,c,Rz,av,q'⟩:=h;have hu:=hr.units;have bc:o.length=D.length:=by
  have:=dg Rz;simpa using this
 have ck:=c9 Zz;obtain⟨he,z9⟩:=DF av;refine⟨_,(ae gg
  (ae gg
  (ae (sT 4<|jR ["line","firsts"] [Pt,gV 3] (aO gg) (e:=λS S S S=>(wM a7 hr gg)))
  (ae (sT 5<|wM a8 hr<|kh (pv 4)<|fJ QD VO XH (qP hu) (pv 2) gg)
  (ae (sT 6<|aW (fP rfl) rfl T.dict S8<|gT<|rT (N:=["number","place"]) (i:=[Pt,Pt]) rfl cS gg (λS S S S=>(GB (K:=K) (n:=2) rfl rfl<|n9 (qp 0<|nD ["number","place"])<|n9 (qp 1<|nD ["number","place"]) xR)) (λS S S S=>nC) λS S S S=>gg)
  (di<|eD<|kh gg<|jR ["place","numbers","lines"] [Pt,gV 6,gV 4] (aO<|pv 5) (e:=λS S S S=>(wM a9 hr<|kh (C9 (K:=K) (pv 2)<|pv 0)<|pv 1)))))))),?_⟩
 refine⟨_,rfl,_,rfl,p,q,pp,la,t,hw,xs,ls,cs,D,o,rfl,hp,ht,hq,bb,h9,VB,W,Zy,Zz,by lia,(λd l=>(yK<|c d l).1),Rz,av,λsl ys H1 k1 cl X VL=>?_⟩;have co:=VL.length;refine⟨_,rfl,sl,ys,o,rfl,X,VL,by simp_all,λfl H2 k2 cp bf=>?_⟩;have Xb:=k1.trans k2;have ct:(iV o).length=D.length:=by unfold iV;rw[A',bc]
 have az:∀(i:Nat) (d:PK),D[i]?=gV d->∀k∈bq d,0<=k/\k<(i:Int):=λi d l k J=>by
  have bg:=o8 Rz l;have:=u8 (c _<|Pq l) bg k J;grind
 refine⟨_,rfl,(bA (Xb _ _ W) rfl ⟨la,rfl,⟨_,SqL.of<|Xb _ _ Zy⟩,λD1 bk=>?_⟩)⟩;refine qZ [gV<|.ref fl] (λi=>bJ (bD o)<|D.getD i .none) rfl (Xb _ _ Zy) bk (by lia) (λi hi=>kR<|by simp_all) (λi x y H' R k r=>?_) λl1 H3 k3 aC Yb=>?_
 ·have Wy:i<D.length:=by have:=(N'.mp y).1;simp_all
  have l:=getD_some (d:=RI) Wy;have rx:=cQ (dz (Xb.trans k) _ _ Zz) y;exact⟨_,rfl,_,rfl,x,fl,D.getD i .none,iV o,rfl,rx,c _<|Pq l,k _ _ bf,(λz hz=>by have:=az i _ l z hz;lia),r⟩
 rw[mf RI (bJ<|bD o) D<|by lia]at Yb;have g1:∀d∈D.map (bJ<|bD o),bd d:=λd l=>by
  obtain⟨d',h',rfl⟩:=Qe.mp l;exact kR<|c d' h'
 have bl:([]:ab Int)∈o:=Pq z9;obtain⟨aF,bm⟩:=jU bl;have br:=Xb.trans k3;have Y:=k2.trans k3;refine⟨_,rfl,_,rfl,.inl ⟨rfl,_,SqL.of<|Y _ _ X⟩,P8 _,λet bs=>?_⟩;have k4:=ad bs<|.tup [];have s4:=cm k4;generalize upd H3 et (.tup [])=H4 at k4 s4 ⊢;have eG:∀j,j<o.length->(o.map jw).getD j .none=jw (o.getD j []):=λj C=>by
  rw[B',B',PN,K' C];rfl
 refine⟨.tuple [],o.map jw,_,sl,ys,o.idxOf [],rfl,rfl,(Y.trans k4) _ _ X,(VL.mono<|Y.trans k4).rds,bo s4 aG,by rfl,jM o,by decide+kernel,by rw[A'];exact aF,?_,λm hm=>?_,?_⟩
 ·rw[eG _ aF,jN,B',bm];rfl
 ·rw[eG _ (Yc hm aF),jN];refine Pu λz=>?_;have bt:o[m]?=gV []:=by rw[B',K'<|by exact Yc hm aF]at z;rw[K'<|by exact Yc hm aF];exact Qq gV z
  have:=xb bt;lia
 refine⟨D1,l1,D.map<|bJ<|bD o,o.idxOf [],rfl,k4 _ _ aC,dz k4 _ _ Yb,g1,by simp_all,by simp_all,λnl N H5 k5 cu L aL b0=>?_⟩;have u:UR N (bI (yM<|D.map<|bJ<|bD o) (o.idxOf [])<|o.idxOf []+1):=aL;clear aL;have a0:∀i,i<=o.idxOf []->∀k∈yM (D.map<|bJ<|bD o) i,0<=k/\k<(i:Int):=λi hi k J=>by
  have l:=getD_some (d:=RI) (show i<D.length by lia);have e1:(D.map<|bJ<|bD o).getD i .none=bJ (bD o) (D.getD i .none):=by rw[B',PN,l];rfl
  have O:k∈bq ((D.map<|bJ<|bD o).getD i .none):=J;rw[e1,qW<|c _<|Pq l]at O;obtain⟨k0,b1,rfl⟩:=Qe.mp O;have cv:=az i _ l k0 b1;obtain⟨n0,rfl⟩:∃n:Nat,k0=(n:Int):=⟨k0.toNat,by lia⟩;have Z:n0<o.length:=by lia
  have ef:bD o (n0:Int)=((o.idxOf (o[n0]'Z):Nat):Int):=by
   unfold bD iV;rw[Qo,B',PN,K' Z];rfl
  have:=xb<|K' Z;rw[ef];lia
 have ac:∀x∈N,0<=x/\x<=((o.idxOf []:Nat):Int):=λx y=>gy a0<|u.mem_iff.mp y;have b2:N.Nodup:=u.nodup_iff.mpr<|gx _;have a1:N.length<=9000:=by
  have:=jp (n:=yM<|D.map<|bJ<|bD o) (l:=o.idxOf []) (λi=>jq _)<|o.idxOf []+1;rw[u.length_eq];lia
 have b3:∀x∈N,∀k∈bq ((D.map<|bJ<|bD o).getD x.toNat .none),k∈N:=λx y k J=>by
  have WA:=u.mem_iff.mp y;have cz:=ac x y;obtain⟨n,rfl⟩:∃n:Nat,x=(n:Int):=⟨x.toNat,by lia⟩;rw[Qo]at J;exact u.mem_iff.mpr<|kT a0 WA k J
 have am:=k4.trans k5;have b4:=br.trans am;refine⟨_,rfl,nl,rfl,⟨_,SqL.of L⟩,λD2 a2=>?_⟩;refine Az (K:=K) (a:=nl) (xs:=N.map V.int) (DO [] H5 D2 N) ⟨Pt,Pt,[],rfl,aa,ad a2 _,rfl,rfl,λj t k h S=>by grind⟩ ?_ ?_ ?_
 ·rintro i σ zs G S ⟨S,S,S,S,i1,i2,S⟩;exact⟨i1,SqL.of<|i2 _ _ L⟩
 ·rintro i x σ zs G t0 y ⟨v0,v1,ts,rfl,i1,i2,rfl,i4,i5⟩ b5;obtain⟨k,rfl,J⟩:=cn y;have Wy:=(N'.mp J).1;have k6:=ad b5<|.tup [.int (i:Nat),.int k];have s6:=cm k6;generalize upd G t0 (.tup [.int (i:Nat),.int k])=G6 at k6 s6 ⊢;refine⟨t0,[.int (i:Nat),.int k],rfl,SqT.of s6,rfl,_,_,rfl,_,_,rfl,rfl,Lj ⟨_,rfl,_,rfl,(by show 2<=sizeLine;decide),λtt b6=>?_⟩⟩;have k7:=ad b6<|.tup [.int k,.int (i:Nat)];have d7:=(k6.trans k7) _ _ i1;refine⟨d7,cH (by rw[A'];lia),_,_,ts++[tt],rfl,?_,(i2.trans<|k6.trans k7).upd_new a2 _,?_,by rw[Pl,i4];rfl,λj t' k' C O=>?_⟩
  ·rw[aa]
  ·rw[P6];rfl
  have U:∀{b:C'} {zs:ab V},upd G6 tt (.tup [.int k,.int (i:Nat)]) b=gV (.tup zs)->upd (upd G6 tt<|.tup [.int k,.int (i:Nat)]) D2 (.lst<|ts.map V.ref++[.ref tt]) b=gV (.tup zs):=λe=>by
   rw[af λz=>by simp_all];exact e
  obtain g|g:=Nat.lt_or_ge j ts.length
  ·rw[PL g]at C;exact U<|(k6.trans k7) _ _<|i5 j t' k' C O
  rw[PV g]at C;have b7:j=i:=by
   have:=(N'.mp C).1;rw[Qg]at this;lia
  subst b7;rw[i4,QO]at C;cases C;rw[J]at O;cases O;exact U aa
 rintro σ zs G ⟨v0,v1,ts,rfl,i1,i2,rfl,i4,i5⟩;rw[A']at i4;refine⟨D2,ts,pj N,rfl,i1,?_,λj t' kv C an=>?_,?_,?_,λdn cc=>?_⟩
 ·unfold pj;rw[A',QQ,i4]
 ·have c0:=(N'.mp C).1;unfold pj at an;rw[PN,UX<|by simp_all]at an;cases an;exact i5 j t' _ C (by simp_all)
 ·rw[AU];exact List.Pairwise.map _ (λa b h z=>h<|Rm z) b2
 ·unfold pj;rw[A',QQ];exact a1
 have k8:=ad cc<|.dK<|pj N;have s8:=cm k8;generalize upd G dn (.dK<|pj N)=G8 at k8 s8 ⊢;have I:=i2.trans k8;have M:=b4.trans I;refine⟨_,rfl,(bA (M _ _ W) rfl ⟨_,rfl,nl,rfl,⟨_,SqL.of<|I _ _ L⟩,λD3 a3=>?_⟩)⟩;refine qZ [gV<|.ref dn,gV<|.ref D1] (λi=>bJ (λk=>((N.idxOf k:Nat):Int))<|(D.map<|bJ<|bD o).getD (N.getD i 0).toNat .none) rfl (I _ _ L) a3 (by simp_all) (λi hi=>?_) (λi x y H' R k r=>?_) λl3 H9 k9 cd a4=>?_
 ·rw[A']at hi;have y:=ac _<|Pq<|getD_some (d:=(0:Int)) hi;exact kR (g1 _<|Pq<|getD_some (d:=RI)<|by grind)
 ·obtain⟨z,rfl,hz⟩:=cn y;have ce:N.getD i 0=z:=by simp_all
  rw[ce]at r;have a5:=Pq hz;have c1:=ac z a5;obtain⟨n,rfl⟩:∃n:Nat,z=(n:Int):=⟨z.toNat,by lia⟩;rw[Qo]at r;have hn:n<(D.map<|bJ<|bD o).length:=by rw[A'];lia
  have a6:=dz (am.trans<|I.trans k) _ _ Yb;have c2:=c9 a6;obtain⟨v,hv⟩:∃v,l1[n]?=gV v:=⟨_,K' (by lia)⟩;have rv:=cQ a6 hv;have TQ:=b3 _ a5;rw[Qo]at TQ;exact⟨_,rfl,_,rfl,(fY ((am.trans (I.trans k)) _ _ aC) (aE hv) ⟨_,rfl,v,dn,(D.map (bJ (bD o))).getD n .none,pj N,λk=>((N.idxOf k:Nat):Int),rfl,rv,g1 _ (Pq (getD_some (d:=RI) hn)),k _ _ s8,(λk' O=>DQ (TQ k' O)),r⟩)⟩
 refine⟨(by show 2<=sizeLine;decide),λr nr=>?_⟩;have as:=ad nr<|.tup [.str<|aq hw,.ref D3];rw[A',mf _ (λp=>bJ (λk=>((N.idxOf k):Int))<|(D.map<|bJ<|bD o).getD _ _) N rfl]at a4;exact q' r D3 l3 N _ (M.trans<|k9.trans as) ((M.trans k9).free nr) (M.free a3) aa (as _ _ cd) (dz as _ _ a4) u b0
theorem ij(t:Str)(c:ab (ab Int))(h:Px)(s:ab (ab Int))(k:Int):aN t c h s (.tuple [.str aT,.int k])=if h=Pn then Pt else jQ c (.int k):=by
 cases h<;>rfl
theorem mh(t:Str)(C:ab (ab Int))(h:Px)(s:ab (ab Int))(c:ab Int):aN t C h s (.tuple [.str bH,jw c])=if h=Pn then mQ t.length C (jw c)else none:=by
 cases h<;>rfl
theorem jr(t:Str)(c:ab (ab Int))(h:Px)(s:ab (ab Int))(i j z:Int):aN t c h s (.tuple [.str aZ,.int i,.int j,.int z])=dR t h s (.int i) (.int j) (.int z):=by
 cases h<;>rfl
theorem gU{n:Nat}{k:Int}(h:0<=k/\k<(n:Int)):aI n (.int k)=gV k.toNat:=by
 show(if 0<=k/\k<(n)then gV _ else Pt)=_
 rw[PP h]
theorem nJ:dR t w s (.int i) (.int j) (.int z)=gV c↔(0<=i/\i<(s.length:Int))/\(0<=j/\j<(s.length:Int))/\fg t w (s.getD i.toNat []) (s.getD j.toNat []) z=Pn/\bK (s.getD i.toNat []) (s.getD j.toNat []) z=c:=by
 unfold dR;by_cases H:0<=i/\i<(s.length)
 ·by_cases a:0<=j/\j<(s.length)
  ·rw[gU H,gU a];simp_all
  have:aI _ (.int j)=none:=PM a;rw[gU H,this];exact⟨λh=>(nomatch h),λh=>absurd h.2.1 a⟩
 have:aI _ (.int i)=none:=PM H;rw[this];exact⟨λh=>(nomatch h),λh=>absurd h.1 H⟩
theorem pq:gR t w s (.int k)=gV c↔(0<=k/\k<(s.length:Int))/\ao t w (s.getD k.toNat [])=c:=by
 unfold gR;by_cases H:0<=k/\k<(s.length)
 ·rw[gU H];exact⟨λh=>⟨H,PZ h⟩,λh=>Qq gV h.2⟩
 have:aI _ (.int k)=none:=PM H;rw[this];exact⟨λh=>(nomatch h),λh=>absurd h.1 H⟩
theorem DS{A:ab (ab Int)}{f:Int->Int}(g:bd d)(h:aN t C w s d=gV c)
  (H:∀k∈bq d,(0<=f k/\f k<(A.length:Int))/\A.getD (f k).toNat []=s.getD k.toNat []):aN t C w A (bJ f d)=gV c:=by
 obtain⟨k,rfl⟩|⟨n,o,rfl⟩|⟨k,rfl⟩|⟨i,j,z,rfl⟩:=g
 ·assumption
 ·assumption
 ·rw[fh,jo,pq];rw[jo,pq]at h;obtain⟨a,b⟩:=H k (Pw.mpr rfl);exact⟨a,by rw[b];exact h.2⟩
 rw[fi,jr,nJ];rw[jr,nJ]at h;obtain⟨e,B⟩:=H i (P3);obtain⟨l,m⟩:=H j (by rw[cW];simp);rw[B,m];exact⟨e,l,h.2.2.1,h.2.2.2⟩
theorem Hr(h:bd d):bJ f (bJ g d)=bJ (λk=>f<|g k) d:=by
 obtain⟨k,rfl⟩|⟨c,H,rfl⟩|⟨k,rfl⟩|⟨i,j,z,rfl⟩:=h
 ·rfl
 ·rfl
 ·rfl
 rfl
theorem jV(h:0<=k/\k<(o.length:Int)):bD o k=((o.idxOf (o.getD k.toNat []):Nat):Int)/\o.getD (bD o k).toNat []=o.getD k.toNat []/\0<=bD o k/\bD o k<=k:=by
 obtain⟨n,rfl⟩:∃n:Nat,k=(n):=⟨k.toNat,by lia⟩;have a:n<o.length:=by simp_all
 have H:=getD_some (d:=([])) a;have e:bD o (n)=((o.idxOf (o.getD n []))):=by
  unfold bD iV;rw[Qo,B',PN,H];rfl
 have m:=Pq H;obtain⟨c,b⟩:=jU m;have d:=xb H;simp_all
theorem px(r:bG t c w [] D=(o,Pn))(H:∀d∈D,bd d){i:Nat}{d:PK}(h:D[i]?=gV d):∀k∈bq d,0<=k/\k<(i:Int):=λk a=>by
 have:=u8 (H _<|Pq h) (o8 r h) k a;grind
theorem DT{D:ab PK}{o:ab (ab Int)}(H:∀d∈D,bd d)(h:D[i]?=gV d):yM (D.map<|bJ<|bD o) i=(bq d).map (bD o):=by
 unfold yM;rw[B',PN,h];exact qW<|H _<|Pq h
theorem Ll(r:bG t C w [] D=(o,Pn))(h:∀d∈D,bd d)(j:l<D.length):∀i,i<=l->∀k∈yM (D.map<|bJ<|bD o) i,0<=k/\k<(i:Int):=λi m k H=>by
 have c:=getD_some (d:=RI) (show i<D.length by exact SH m j);have f:o.length=D.length:=by
  have:=dg r;simpa using this
 rw[DT h c]at H;obtain⟨e,g,rfl⟩:=Qe.mp H;have n:=px r h c e g;obtain⟨z,z,a,b⟩:=jV (o:=o) (k:=e) (by lia);lia
structure Hs (t:Str)(cs:ab (ab Int))(hw:Px)(ds:ab PK)(out:ab (ab Int))(nd:ab Int):Prop where
 run:bG t cs hw [] (fT (ds.map<|bJ<|bD out) nd)=(nd.map λp=>out.getD p.toNat [],Pn)
 good:∀d∈fT (ds.map<|bJ<|bD out) nd,bd d
 few:nd.length<=ds.length
 last:nd.getLast?=gV ((out.idxOf []:Nat):Int)
 nodup:(nd.map λp=>out.getD p.toNat []).Nodup
theorem Jd{N:ab Int}(h:N.Pairwise (·<=·))(n:N.Nodup){i j:Nat}{x y:Int}(a:N[i]?=gV x) (H:N[j]?=gV y) (r:x<y):i<j:=by
 obtain g|g|g:=VA i j
 ·exact g
 ·simp_all
 have:=SD.mp h j i (N'.mp H).1 (N'.mp a).1 g;rw[(N'.mp H).2,(N'.mp a).2]at this;lia
theorem q_:∀{N:ab Int} {b n:Int},N.Pairwise (·<=·)->N.Nodup->(∀x∈N,b<=x/\x<n)->(N.length:Int)<=max 0 (n-b)
 |[],b,n,_,_,_=>by simp;omega
 |x::r,b,n,h,u,a=>by
  rw[RM]at h;rw[Q3]at u;have:=q_ (b:=x+1) (n:=n) h.2 u.2 λy H=>by
   have c:=h.1 y H;have d:=a y<|P1 _ H;have:x≠y:=λe=>u.1<|e▸H;lia
  have f:=a x P3;grind
theorem Ht(q:bG t C B [] D=(o,Pn))(c:∀d∈D,bd d)(hm:[]∈o)(m:UR N (bI (yM<|D.map<|bJ<|bD o) (o.idxOf [])<|o.idxOf []+1))(E:N.Pairwise (·<=·)):Hs t C B D o N:=by
 have ac:o.length=D.length:=by
  have:=dg q;simpa using this
 obtain⟨hE,F⟩:=jU hm;have A:=Ll q c (show o.idxOf []<D.length by lia);have U:∀x∈N,0<=x/\x<=((o.idxOf []:Nat):Int):=λx H=>gy A<|m.mem_iff.mp H;have b:N.Nodup:=m.nodup_iff.mpr<|gx _;have I:∀x∈N,∀k∈yM (D.map<|bJ<|bD o) x.toNat,k∈N:=λx H k f=>by
  have WA:=m.mem_iff.mp H;have:=U x H;obtain⟨n,rfl⟩:∃n:Nat,x=(n:Int):=⟨x.toNat,by lia⟩;rw[Qo]at f;exact m.mem_iff.mpr<|kT A WA k f
 have s:∀x∈N,bD o x=x:=λx H=>by
  have G:∀(j:Nat) (x:Int),x∈bI (yM<|D.map<|bJ<|bD o) (o.idxOf []) j->x=(o.idxOf []:Nat)\/∃k,0<=k/\k<(o.length:Int)/\x=bD o k:=by
   intro j
   induction j with
   |zero=>exact λx h=>.inl<|Pw.mp h
   |succ j J=>
    intro x h;obtain z|⟨_,z⟩:=fx.mp h
    ·exact J x z
    have a:=getD_some (d:=RI) (show o.idxOf []-j<D.length by lia);rw[DT c a]at z;obtain⟨k0,L,rfl⟩:=Qe.mp z;have hr:=px q c a k0 L;exact .inr ⟨k0,by lia,by lia,rfl⟩
  have M:∀k:Int,0<=k/\k<(o.length:Int)->bD o (bD o k)=bD o k:=λk f=>by
   obtain⟨O,e2,e3,e4⟩:=jV f;obtain⟨P,_,_,_⟩:=jV (o:=o) (k:=bD o k) (by lia);rw[P,e2,<-O]
  obtain z|⟨k,L,h1,z⟩:=G _ x (m.mem_iff.mp H)
  ·obtain⟨P,_,_,_⟩:=jV (o:=o) (k:=x) (by simp_all);rw[P,z,Qo,B',F];rfl
  rw[z];exact M k ⟨L,h1⟩
 have u:∀(i:Nat) (x:Int),N[i]?=gV x->(fT (D.map<|bJ<|bD o) N)[i]?=gV (bJ (λk=>((N.idxOf (bD o k):Nat):Int))<|D.getD x.toNat .none):=λi x H=>by
  have r:=U x<|Pq H;have a:=getD_some (d:=RI) (show x.toNat<D.length by lia);unfold fT;rw[PN,H];show gV (bJ _<|(D.map<|bJ<|bD o).getD x.toNat .none)=_
  have O:(D.map<|bJ<|bD o).getD x.toNat .none=bJ (bD o) (D.getD x.toNat .none):=by rw[B',PN,a];rfl
  rw[O,Hr<|c _<|Pq a]
 have P1:(fT (D.map<|bJ<|bD o) N).length=N.length:=by unfold fT;rw[A']
 refine⟨?_,?_,?_,?_,?_⟩
 ·have G:∀i,i<=N.length->bG t C B [] ((fT (D.map<|bJ<|bD o) N).take i)=((N.take i).map λp=>o.getD p.toNat [],Pn):=by
   intro i
   induction i with
   |zero=>exact λ_=>rfl
   |succ i J=>
    intro l;have H:=getD_some (d:=(0:Int)) ‹_›;generalize N.getD i 0=x at H;have v:=Pq H;have r:=U x v;have a:=getD_some (d:=RI) (show x.toNat<D.length by lia);have Q:=c _<|Pq a;have T:=o8 q a;have hl:aN t C B ((N.take i).map λp=>o.getD p.toNat []) (bJ (λk=>((N.idxOf (bD o k):Nat):Int))<|D.getD x.toNat .none)=gV (o.getD x.toNat []):=by
     refine DS Q T λk f=>?_;have am:=px q c a k f;obtain⟨_,f2,f3,f4⟩:=jV (o:=o) (k:=k) (by lia);have W:bD o k∈N:=I x v _ (by rw[DT c a];exact Rp f);have hj:=Xx.mpr W;have w:N[N.idxOf (bD o k)]?=gV (bD o k):=by rw[K' hj,ZR]
     have X:=Jd E b w H (by lia);rw[Qo,A',P9];refine⟨by lia,?_⟩;rw[B',PN,QM X,w];show o.getD _ []=_
     rw[f2,B',B',QM<|by lia]
    rw[uP (J<|j' l) (u i x H) hl,Qb,H];show _=(((N.take i++[x]).map λp=>o.getD _ []),Pn)
    rw[P6];rfl
  have:=G _<|Po _;rwa[PJ<|VC P1,PJ<|Po _]at this
 ·intro d a;obtain⟨i,l⟩:=Q6.mp a;have Wy:i<N.length:=by
   have:=(N'.mp l).1;simp_all
  have H:=getD_some (d:=(0)) Wy;have r:=U _<|Pq H;have Y:=getD_some (d:=RI) (show(N.getD i 0).toNat<D.length by lia);rw[u i _ H]at l;cases l;exact kR<|c _<|Pq Y
 ·have:=q_ (b:=0) (n:=(D.length)) E b λx H=>by
   have:=U x H;lia
  simp_all
 ·have Z:((o.idxOf []):Int)∈N:=m.mem_iff.mpr<|xa _;obtain⟨i,l⟩:=Q6.mp Z;have Wy:=(N'.mp l).1;have H:=getD_some (d:=(0)) (show N.length-1<N.length by lia);have r:=U _<|Pq H;rw[UT,H];by_cases g:N.getD (N.length-1) 0<((o.idxOf []):Int)
  ·have:=Jd E b H l g;lia
  congr 1
  lia
 refine QU.mpr<|b.imp_of_mem λ{x y} H hy Wi e=>Wi ?_;have ex:=s x H;have ey:=s y hy;have r:=U x H;have an:=U y hy;obtain⟨a1,_⟩:=jV (o:=o) (k:=x) (by lia);obtain⟨a2,_⟩:=jV (o:=o) (k:=y) (by lia);rw[ex]at a1;rw[ey]at a2;rw[a1,a2,e]
structure SS where
 lw:Px->ab PK
 ow:Px->ab (ab Int)
 bs:ab Px
 fs:ab (M'<|ab Int)
 win:M' Px
noncomputable def cX{a:Type}(F:Px->ab a)(b:Px)(x:a):Px->ab a:=λc=>if c=b then F c++[x]else F c
theorem bh{a:Type}(F:Px->ab a)(b:Px)(x:a):cX F b x b=F b++[x]:=PP rfl
theorem cA{a:Type}(F:Px->ab a)(x:a)(h:c≠b):cX F b x c=F c:=PM h
noncomputable def dZ(h:Px)(d:PK)(c:ab Int)(S:SS):SS:=if c∈S.ow h then S else{S with lw:=cX S.lw h d,ow:=cX S.ow h c}
noncomputable def py(k:Nat):PK:=.tuple [.str ax,.int (k:Int)]
noncomputable def bB(t:Str)(h:Px)(d:PK)(c:ab Int)(S:SS):SS:=dZ h (py<|((dZ h d c S).ow h).idxOf c) (ao t h c)<|dZ h d c S
noncomputable def rc(i j:Nat)(v:Int):PK:=.tuple [.str aZ,.int (i:Int),.int (j:Int),.int v]
noncomputable def cB(O:ab (ab Int))(f s:ab Int)(v:Int):PK:=if f.contains (-v)=Pn then rc (O.idxOf s) (O.idxOf f) v else rc (O.idxOf f) (O.idxOf s) v
noncomputable def d_(b:Px)(o:M' (ab Int))(S:SS):SS:={S with bs:=S.bs++[b],fs:=S.fs++[o]}
noncomputable def b9(S:SS):SS:={S with bs:=S.bs.dropLast,fs:=S.fs.dropLast}
noncomputable def fU(t:Str)(h:Px):Nat->ab Int->SS->SS
 |0,_,S=>{S with win:=gV h}
 |k+1,c,S=>if(c.contains ((k:Int)+1) || c.contains (-((k:Int)+1)))=Pn then
   match S.fs.getD k Pt with
   |none=>d_ (!S.bs.getD k Pr) (gV c)<|b9 S
   |some F=>fU t h k (ao t h<|bK F c<|(k:Int)+1) (bB t h (cB (S.ow h) F c<|(k:Int)+1) (bK F c<|(k:Int)+1)<|b9 S)
  else fU t h k c (b9 S)
def AV(h:Px)(b:ab Px)(c:ab Int):Prop:=∀l∈c,cq h b l=Pn
noncomputable def d9:Nat->ab Px->Nat
 |_,[]=>0
 |n,b::r=>(if b=Pn then 2^n else 1)+d9 (n-1) r
noncomputable def pend(f:ab (M'<|ab Int)):Nat:=(f.filter Option.isSome).length
noncomputable def cC(S:SS):Nat:=(S.lw Pn).length+(S.lw Pr).length
def DU(t:Str)(S:SS)(k:Nat):Prop:=match S.fs.getD k Pt with
 |none=>S.bs.getD k Pr=Pr
 |some F=>S.bs.getD k Pr=Pn/\F∈S.ow (!cD t k)/\AV (!cD t k) (S.bs.take k++[Pr]) F/\((k:Int)+1∈F\/ -((k:Int)+1)∈F)
structure iW (t:Str)(cs:ab (ab Int))(S:SS):Prop where
 run:∀hw,bG t cs hw [] (S.lw hw)=(S.ow hw,Pn)
 good:∀hw,∀d∈S.lw hw,bd d
 nd:∀hw,(S.ow hw).Nodup
 flen:S.fs.length=S.bs.length
 blen:S.bs.length<=t.length
 fst:∀k,k<S.bs.length->DU t S k
def Lm(S:SS):Prop:=∀h,([]:ab Int)∉S.ow h
theorem AW(h:bG t C H [] D=(o,Pn))(g:aN t C H o d=gV c):bG t C H [] (D++[d])=(o++[c],Pn):=by
 rw[lX h,g]
section
variable {S:SS}
theorem jW(h:c∈S.ow H):dZ H d c S=S:=PP h
theorem eS(h:c∉S.ow H):dZ H d c S={S with lw:=cX S.lw H d,ow:=cX S.ow H c}:=PM h
theorem hY:(dZ h d c S).bs=S.bs:=by
 unfold dZ
 split<;>rfl
theorem ip:(dZ h d c S).fs=S.fs:=by
 unfold dZ
 split<;>rfl
theorem hX:(dZ h d c S).win=S.win:=by
 unfold dZ
 split<;>rfl
theorem Hu(H:x∈S.ow h):x∈(dZ w d c S).ow h:=by
 by_cases g:c∈S.ow w
 ·rwa[jW g]
 rw[eS g];show x∈cX _ w c h
 by_cases e:h=w
 ·subst e;rw[bh];exact Ry _ H
 rwa[cA _ _ e]
theorem nK:c∈(dZ h d c S).ow h:=by
 by_cases g:c∈S.ow h
 ·rwa[jW g]
 rw[eS g];show c∈cX _ h c h
 rw[bh];exact Qw _<|Pw.mpr rfl
theorem pA(a:x∈(dZ w d c S).ow h):x∈S.ow h\/(h=w/\x=c):=by
 by_cases g:c∈S.ow w
 ·rw[jW g]at a;exact .inl a
 rw[eS g]at a;have H:x∈cX _ w c h:=a;by_cases e:h=w
 ·subst e;rw[bh]at H;simp_all
 rw[cA _ _ e]at H;exact .inl H
theorem u9(h:c∉S.ow H):((dZ H d c S).ow H).getLast?=gV c:=by
 rw[eS h];show(cX _ H c H).getLast?=_
 rw[bh,List.getLast?_append];rfl
theorem mn:cC (dZ h d c S)<=cC S+1:=by
 by_cases g:c∈S.ow h
 ·rw[jW g];simp
 rw[eS g];show(cX _ h d Pn).length+(cX _ h d Pr).length<=_
 unfold cC;cases h
 ·rw[bh,cA _ _ (by decide),Pl,Qg];exact Po _
 rw[bh,cA _ _ (by decide),Pl,Qg];lia
theorem Lo(H:S'.bs=S.bs)(f:S'.fs=S.fs)(s:∀h x,x∈S.ow h->x∈S'.ow h)(h:DU t S k):DU t S' k:=by
 unfold DU at h ⊢;rw[H,f];cases e:S.fs.getD k Pt with
 |none=>rwa[e]at h
 |some F=>rw[e]at h;exact⟨h.1,s _ _ h.2.1,h.2.2⟩
theorem yN(I:iW t C S)(l:aN t C H (S.ow H) d=gV c)(f:bd d):iW t C (dZ H d c S):=by
 by_cases g:c∈S.ow H
 ·rwa[jW g]
 have sub:=λh x (b:x∈S.ow h)=>Hu (w:=H) (d:=d) (c:=c) b;rw[eS g]at sub ⊢;refine⟨λh=>?_,λh D i=>?_,λh=>?_,I.flen,I.blen,λk j=>Lo (S:=S) rfl rfl sub<|I.fst k j⟩
 ·show bG t C h [] (cX _ H d h)=(cX _ H c h,Pn)
  by_cases e:h=H
  ·subst e;rw[bh,bh];exact AW (I.run h) l
  rw[cA _ _ e,cA _ _ e];exact I.run h
 ·have a:D∈cX _ H d h:=i;by_cases e:h=H
  ·subst e;rw[bh]at a;obtain z|z:=P5.mp a
   ·exact I.good h D z
   simp_all
  rw[cA _ _ e]at a;exact I.good h D a
 show(cX _ H c h).Nodup
 by_cases e:h=H
 ·subst e;rw[bh,Rw];exact⟨I.nd h,by simp,λx b y m z=>by simp_all⟩
 rw[cA _ _ e];exact I.nd h
theorem re(k:Nat):bd (py k):=.inr<|.inr<|.inl ⟨_,rfl⟩
theorem js(i j:Nat)(v:Int):bd (rc i j v):=.inr<|.inr<|.inr ⟨_,_,_,rfl⟩
theorem AX(h:c∈O):aN t C H O (py<|O.idxOf c)=gV (ao t H c):=by
 obtain⟨b,a⟩:=jU h;unfold py;rw[jo,pq];simp_all
theorem mo(I:iW t C S)(H:aN t C h (S.ow h) d=gV c)(g:bd d):iW t C (bB t h d c S):=
 yN (yN I H g) (AX nK) (re _)
theorem fj:(bB t h d c S).bs=S.bs:=hY.trans hY
theorem iX:(bB t h d c S).fs=S.fs:=ip.trans ip
theorem hI:(bB t h d c S).win=S.win:=hX.trans hX
theorem fk:cC (bB t h d c S)<=cC S+2:=by
 have H:=mn (h:=h) (d:=d) (c:=c) (S:=S);have a:=mn (h:=h) (d:=py<|((dZ h d c S).ow h).idxOf c) (c:=ao t h c) (S:=dZ h d c S);unfold bB;lia
theorem mq:ao t h c∈(bB t h d c S).ow h:=nK
theorem mw(E:Lm S):(ao t H c≠[]/\Lm (bB t H d c S))\/(ao t H c=[]/\((bB t H d c S).ow H).getLast?=gV []/\∀h,h≠H->[]∉(bB t H d c S).ow h):=by
 have f:∀h,[]∈(bB t H d c S).ow h->h=H/\(ao t H c=[]\/c=[]):=λh x=>by
  obtain z|⟨z,e⟩:=pA x
  ·obtain z|⟨z,e⟩:=pA z
   ·exact absurd z<|E h
   exact⟨z,.inr e.symm⟩
  exact⟨z,.inl e.symm⟩
 by_cases g:ao t H c=[]
 ·refine .inr ⟨g,?_,λh n x=>n (f h x).1⟩;by_cases e:c=[]
  ·subst e;have U:ao t H []∈(dZ H d [] S).ow H:=nK;unfold bB;rw[jW U];exact u9<|E H
  have n:ao t H c∉(dZ H d c S).ow H:=λz=>by
   rw[g]at z;obtain z|⟨y,z⟩:=pA z
   ·exact E H z
   exact e z.symm
  unfold bB;rw[u9 n,g]
 refine .inl ⟨g,λh x=>?_⟩;obtain z|z:=(f h x).2
 ·exact g z
 exact g (by rw[z];rfl)
end
theorem eT(z:Int):absI (-z)=absI z:=by
 obtain⟨y,e⟩|⟨y,e⟩:=aH z<;>obtain⟨y,E⟩|⟨y,E⟩:=aH (-z)<;>lia
theorem DV(H:1<=z)(h:absI l=z):l=z\/l=-z:=by
 obtain⟨y,e⟩|⟨y,e⟩:=aH l<;>lia
def Je(t:Str)(h:Px)(c:ab Int):Prop:=c=[]\/∃l∈c,cD t (absI l-1).toNat=!h/\∀m∈c,absI m<=absI l
theorem jX(h:ap n c):Je t H (ao t H c):=by
 obtain e|e:=(gQ _ 0).2
 ·refine .inl<|SB.mpr λl a=>?_;have f:=(h.2 l a).1;have E:iy t H c=0:=e;lia
 obtain⟨l,a,b⟩:=Qe.mp e;obtain⟨w,W⟩:=PQ.mp a;have E:absI l=iy t H c:=b;refine .inr ⟨l,PQ.mpr ⟨w,by lia⟩,?_,λm d=>?_⟩
 ·cases g:cD t _<;>cases H<;>rw[g]at W<;>first|rfl|cases W
 have:=(PQ.mp d).2;simp_all
theorem DW(h:AV w b c)(H:l∈c)(a:1<=absI l):absI l<=(b.length:Int):=by
 obtain g|g:=VB (absI l-1).toNat b.length
 ·omega
 have:=h l H;rw[fO g]at this;simp_all
theorem kU(h:AV w (B++[b]) c)(H:l∈c)(d:1<=absI l)(U:absI l≠(B.length:Int)+1):cq w B l=true:=by
 have e:=DW h H d;rw[Pl,Qg]at e;have a:=h l H;rwa[uQ<|by omega]at a
theorem yO(f:z=(B.length:Int)+1)(h:AV H (B++[b]) c)(U:z∈c\/ -z∈c):(if(b == H)=Pn then z else -z)∈c:=by
 have k:∀l∈c,absI l=z->(b == decide _)=H:=λl d e=>by
  have a:=h l d;rw[uR<|by simp_all]at a;exact eq_of_beq a
 have p:absI z=z:=cj (by lia);have n:absI (-z)=z:=by rw[eT,p]
 obtain g|g:=U
 ·have:=k z g p;simp_all
 have:=k _ g n;rw[Pu (by lia)]at this;simp_all
theorem u_(j:z=(b.length:Int)+1)(k:ap n f)(o:ap n s)(h:AV H (b++[B]) f)(c:AV H (b++[q]) s):dM f s z=false:=by
 cases g:dM f s z with
 |false=>rfl
 |true=>
  obtain⟨l,d,i⟩:=P'.mp g;obtain⟨W,w⟩:=PQ.mp d;have U:absI l≠(b.length)+1:=by
   simp_all
  have m:=Py.mp i;have r:=(k.2 l W).1;have a:=kU h W r U;have A:=kU c m (by rwa[eT]) (by rwa[eT]);obtain⟨p,e⟩|⟨p,e⟩:=aH l
  ·exact(jn (by simp_all) a A).elim
  exact(jn (by simp_all) A<|by rwa[Wi]).elim
theorem AY(h:Ups f)(H:Ups s)(c:dM f s z=Pr)(d:dM s f z=Pr):bK f s z=bK s f z:=by
 have a:=dN h H c;have b:=dN H h d;exact kK a.1 b.1 λl=>(a.2 l).trans (by rw[Or.comm];exact(b.2 l).symm)
theorem eF{a:Type}{l:ab a}{k:Nat}{d:a}(h:l.length=k+1):l=l.dropLast++[l.getD k d]:=by
 have U:l≠[]:=λz=>by simp_all
 have e:l.getD k d=l.getLast U:=by
  rw[List.getLast_eq_getElem];simp[h]
 rw[e];exact(Wv U).symm
section
variable {S:SS}
theorem yP(a:∀c∈C,ap t.length c)(I:iW t C S)(H:Px):∀c∈S.ow H,ap t.length c:=λc h=>by
 have:=gu (w:=H) a (D:=S.lw H) (s:=[]) (by simp);rw[I.run H]at this;exact this c h
theorem sO(I:iW t c S)(h:S.bs.length=k+1):iW t c (b9 S):=by
 have l:S.bs.dropLast.length=k:=by rw[Q_,h];rfl
 have L:S.fs.dropLast.length=k:=by rw[Q_,I.flen,h];rfl
 refine⟨I.run,I.good,I.nd,L.trans l.symm,?_,λj H=>?_⟩
 ·show S.bs.dropLast.length<=_
  have:=I.blen;lia
 have a:j<k:=by
  have:j<S.bs.dropLast.length:=H;lia
 have:=I.fst j (by lia);unfold DU at this ⊢;have e:(b9 S).fs.getD j Pt=S.fs.getD j none:=by
  show S.fs.dropLast.getD j Pt=_
  rw[B',B',VG,PP<|by rw[I.flen];lia]
 have E:(b9 S).bs.getD j Pr=S.bs.getD j false:=by
  show S.bs.dropLast.getD j Pr=_
  rw[B',B',VG,PP<|by lia]
 have b:(b9 S).bs.take j=S.bs.take j:=by
  show S.bs.dropLast.take j=_
  rw[VU,WZ]
  lia
 rwa[e,E,b]
theorem vc(I:iW t c S)(k:S.bs.length<t.length)(h:DU t (d_ b o S) S.bs.length):iW t c (d_ b o S):=by
 refine⟨I.run,I.good,I.nd,?_,?_,λj H=>?_⟩
 ·show(S.fs++[o]).length=(S.bs++[b]).length
  rw[Pl,Pl,I.flen];rfl
 ·show(S.bs++[b]).length<=_
  rw[Pl,Qg];exact Nat.le_of_lt_succ (Nat.succ_lt_succ k)
 have a:j<S.bs.length+1:=by
  have:j<(S.bs++[b]).length:=H;simp_all
 by_cases e:j=S.bs.length
 ·simp_all
 have:=I.fst j (by lia);unfold DU at this ⊢;have E:(d_ b o S).fs.getD j Pt=S.fs.getD j none:=by
  show(S.fs++[o]).getD j Pt=_
  rw[B',B',PL<|by rw[I.flen];lia]
 have d:(d_ b o S).bs.getD j Pr=S.bs.getD j false:=by
  show(S.bs++[b]).getD j Pr=_
  rw[B',B',PL<|by lia]
 have f:(d_ b o S).bs.take j=S.bs.take j:=R7 (Nat.le_of_lt_succ a);rwa[E,d,f]
theorem yQ(I:iW t c S):DU t (d_ b o S) S.bs.length↔match o with
  |none=>b=Pr
  |some F=>b=Pn/\F∈S.ow (!cD t S.bs.length)/\AV (!cD t S.bs.length) (S.bs++[Pr]) F/\((S.bs.length:Int)+1∈F\/ -((S.bs.length:Int)+1)∈F):=by
 unfold DU;have e:(d_ b o S).fs.getD S.bs.length Pt=o:=by
  show(S.fs++[o]).getD _ Pt=_
  rw[B',PV (by rw[I.flen];exact Po _),I.flen,QO];rfl
 have E:(d_ b o S).bs.getD S.bs.length Pr=b:=by
  show(S.bs++[b]).getD _ Pr=_
  rw[B',PV<|Po _,QO];rfl
 have a:(d_ b o S).bs.take _=S.bs:=YW;rw[e,E,a];rfl
theorem pB(a b:ab (M'<|ab Int)):pend (a++b)=pend a+pend b:=by
 unfold pend;simp
structure pC (t:Str)(cs:ab (ab Int))(hw:Px)(c:ab Int)(S:SS):Prop where
 I:iW t cs S
 mem:c∈S.ow hw
 agr:AV hw S.bs c
 dr:Je t hw c
 win:S.win=Pt
 emp:(c≠[]/\Lm S)\/(c=[]/\(S.ow hw).getLast?=gV []/\∀h,h≠hw->[]∉S.ow h)
inductive DX (t:Str)(cs:ab (ab Int))(hw:Px)(S S':SS):Prop
 |on (I:iW t cs S') (a:S'.win=Pt) (emp:Lm S') (pre:ab Px) (hb:S'.bs=pre++[Pn]) (hp:(pre++[Pr]) <+:S.bs) (hn:cC S'+2*pend S'.fs<=cC S+2*pend S.fs+2):DX t cs hw S S'
 |won (I:iW t cs S') (a:S'.win=gV hw) (hb:S'.bs=[]) (he:(S'.ow hw).getLast?=gV []) (hn:cC S'<=cC S+2*pend S.fs):DX t cs hw S S'
theorem pD(f:∀c∈C,ap t.length c)(T:pC t C h c S)(g:S.bs.length=k+1)(U:(k:Int)+1∈c\/ -((k:Int)+1)∈c):h=!cD t k/\c≠[]/\Lm S:=by
 have s:=yP f T.I h c T.mem;have a:c≠[]:=λz=>by simp_all
 refine⟨?_,a,T.emp.elim (λz=>z.2) λz=>absurd z.1 a⟩;obtain z|⟨l,H,b,d⟩:=T.dr
 ·exact absurd z a
 have i:=DW T.agr H (s.2 l H).1;have j:(k)+1<=absI l:=by
  obtain z|z:=U
  ·have:=d _ z;assumption
  have:=d _ z;rwa[eT]at this
 have e:(absI l-1).toNat=k:=by lia
 simp_all
structure NC (t:Str)(cs:ab (ab Int))(hw:Px)(k:Nat)(F c:ab Int)(S:SS):Prop where
 mF:F∈S.ow hw
 okF:ap t.length F
 okC:ap t.length c
 both:dM F c ((k:Int)+1)=Pr
 line:aN t cs hw (S.ow hw) (cB (S.ow hw) F c<|(k:Int)+1)=gV (bK F c<|(k:Int)+1)
 good:bd (cB (S.ow hw) F c<|(k:Int)+1)
 next:pC t cs hw (ao t hw<|bK F c<|(k:Int)+1) (bB t hw (cB (S.ow hw) F c<|(k:Int)+1) (bK F c<|(k:Int)+1)<|b9 S)
theorem rf(n:∀c∈C,ap t.length c)(T:pC t C h c S)(d:S.bs.length=k+1)(M:(k:Int)+1∈c\/ -((k:Int)+1)∈c)(e:S.fs.getD k Pt=gV F):NC t C h k F c S:=by
 obtain⟨B,N,O⟩:=pD n T d M;have o:=eF (d:=Pr) d;have P:(b9 S).bs.length=k:=by show S.bs.dropLast.length=k;rw[Q_,d];rfl
 have Q:=sO T.I d;have U:k<t.length:=by have:=T.I.blen;lia
 have s:=yP n T.I h c T.mem;have A:AV h ((b9 S).bs++[S.bs.getD k Pr]) c:=by
  have:=T.agr;rw[o]at this;exact this
 have p:=T.I.fst k (by lia);unfold DU at p;rw[e]at p;obtain⟨r,m,H,u⟩:=p;rw[<-B]at m H;rw[r]at A;have v:S.bs.take k=(b9 S).bs:=by
  show _=S.bs.dropLast
  rw[VU,d];rfl
 rw[v]at H;have a:=yP n T.I h F m;have f:(k:Int)+1=((b9 S).bs.length)+1:=by rw[P]
 have g:=u_ f a s H A;have D:=u_ f s a A H;have E:=yO f H u;have G:=yO f A M;have X:=dN a.1 s.1 g;have w:=oW a s g;have i:(aD t (!h)).contains ((k)+1)=true:=Py.mpr<|eY.mpr ⟨by lia,by lia,by rw[show((k:Int)+1-1).toNat=k by lia,B,adl]⟩;obtain⟨iF,Z⟩:=jU m;obtain⟨iC,aC⟩:=jU T.mem;have I:(S.ow h).getD ((S.ow h).idxOf F) []=F:=by rw[B',Z];rfl
 have J:(S.ow h).getD ((S.ow h).idxOf c) []=c:=by rw[B',aC];rfl
 have Y:aN t C h (S.ow h) (cB (S.ow h) F c<|(k)+1)=gV (bK F c<|(k)+1):=by
  unfold cB;cases h with
  |true=>
   have L:-((k:Int)+1)∈F:=E;have b:(k:Int)+1∈c:=G;rw[PP<|Py.mpr L];unfold rc;rw[jr,nJ];rw[Qo,Qo,I,J];refine⟨by lia,by lia,?_,AY s.1 a.1 D g⟩;unfold fg;rw[i,Py.mpr b,Py.mpr L,D];rfl
  |false=>
   have L:(k:Int)+1∈F:=E;have b:-((k:Int)+1)∈c:=G;have WD:¬F.contains (-((k)+1))=true:=λz=>by
    have:=a.1.inj L (Py.mp z) (by rw[eT]);lia
   rw[PM WD];unfold rc;rw[jr,nJ];rw[Qo,Qo,I,J];refine⟨by lia,by lia,?_,rfl⟩;unfold fg;rw[i,Py.mpr b,Py.mpr L,g];rfl
 have j:bd (cB (S.ow h) F c<|(k)+1):=by
  unfold cB
  split
  ·exact js _ _ _
  exact js _ _ _
 have Ep:Lm _:=O;have x:=fj (t:=t) (h:=h) (d:=cB (S.ow h) F c<|(k)+1) (c:=bK F c<|(k)+1) (S:=b9 S);refine⟨m,a,s,g,Y,j,mo Q Y j,mq,?_,jX w,hI.trans T.win,mw Ep⟩;rw[x];intro l hl;have y:=(PQ.mp hl).1;obtain⟨WX,W⟩:=(X.2 l).mp y;rw[f]at W;obtain q|q:=WX
 ·exact kU H q (a.2 l q).1 W
 exact kU A q (s.2 l q).1 W
theorem rg(d:∀c∈C,ap t.length c)(T:pC t C w c S)(H:S.bs.length=k+1)(U:¬((k:Int)+1∈c\/ -((k:Int)+1)∈c)):pC t C w c (b9 S):=by
 have b:=eF (d:=Pr) H;have s:=yP d T.I w c T.mem;refine⟨sO T.I H,T.mem,λl h=>?_,T.dr,T.win,T.emp⟩;have a:=T.agr;rw[b]at a;refine kU a h (s.2 l h).1 ?_;have:S.bs.dropLast.length=k:=by rw[Q_,H];rfl
 show absI l≠((S.bs.dropLast.length))+1
 rw[this];intro z;obtain q|q:=DV (by lia) z
 ·exact U<|.inl<|q▸h
 exact U<|.inr<|q▸h
theorem AZ(d:∀c∈C,ap t.length c)(T:pC t C w c S)(H:S.bs.length=k+1)(U:(k:Int)+1∈c\/ -((k:Int)+1)∈c)(e:S.fs.getD k Pt=Pt):S.bs.getD k Pr=Pr/\iW t C (d_ Pn (gV c)<|b9 S):=by
 obtain⟨a,g,E⟩:=pD d T H U;have b:=eF (d:=Pr) H;have l:(b9 S).bs.length=k:=by show S.bs.dropLast.length=k;rw[Q_,H];rfl
 have I:=sO T.I H;have i:k<t.length:=by have:=T.I.blen;lia
 have A:AV w ((b9 S).bs++[S.bs.getD k Pr]) c:=by
  have:=T.agr;rwa[b]at this
 have f:=T.I.fst k (by lia);unfold DU at f;rw[e]at f;have h:=f;rw[h]at A;refine⟨h,vc I (by lia)<|(yQ I).mpr ⟨rfl,?_,?_,?_⟩⟩
 ·rw[l,<-a];exact T.mem
 ·rwa[l,<-a]
 rwa[l]
theorem vd(I:iW t c S)(H:S.bs.length=k+1):pend S.fs=pend (b9 S).fs+pend [S.fs.getD k Pt]:=by
 have h:=eF (d:=Pt) (I.flen.trans H)
 conv=>lhs;rw[h]
 exact pB _ _
theorem pE(b:∀c∈C,ap t.length c):∀k c S,S.bs.length=k->pC t C h c S->DX t C h S (fU t h k c S)
 |0,c,S,a,T=>by
  have H:=Wh a;have d:c=[]:=by
   cases c with
   |nil=>rfl
   |cons l r=>
    have:=T.agr l P3;rw[H,fO<|P8 _]at this;simp_all
  obtain⟨z,_⟩|⟨_,z,_⟩:=T.emp
  ·simp_all
  ·exact .won ⟨T.I.run,T.I.good,T.I.nd,T.I.flen,T.I.blen,T.I.fst⟩ rfl H z (by show cC S<=_;simp)
 |k+1,c,S,a,T=>by
  have f:=eF (d:=Pr) a;have u:(b9 S).bs.length=k:=by show S.bs.dropLast.length=k;rw[Q_,a];rfl
  have m:=vd T.I a;have g:(b9 S).bs <+:S.bs:=⟨_,f.symm⟩;have v:cC (b9 S)=cC S:=rfl;unfold fU;by_cases U:(c.contains ((k)+1) || c.contains (-((k)+1)))=Pn
  ·rw[PP U];have A:(k:Int)+1∈c\/ -((k:Int)+1)∈c:=by
    rw[Sj]at U;exact U.imp Py.mp Py.mp
   cases e:S.fs.getD k Pt with
   |none=>
    obtain⟨i,x⟩:=AZ b T a A e;show DX t C h S _
    rw[i];refine .on x T.win (pD b T a A).2.2 _ rfl ?_ ?_
    ·exists [];rw[QN]
     conv=>rhs;rw[f]
     rw[i];rfl
    ·show cC S+2*pend ((b9 S).fs++[gV c])<=_
     rw[pB,m];have:pend [gV c]=1:=rfl;lia
   |some F=>
    have J:=rf b T a A e;have o:pend [gV F]=1:=rfl;rw[e,o]at m;have y:=fk (t:=t) (h:=h) (d:=cB (S.ow h) F c<|(k)+1) (c:=bK F c<|(k)+1) (S:=b9 S);have L:=iX (t:=t) (h:=h) (d:=cB (S.ow h) F c<|(k)+1) (c:=bK F c<|(k)+1) (S:=b9 S);have s:=fj (t:=t) (h:=h) (d:=cB (S.ow h) F c<|(k)+1) (c:=bK F c<|(k)+1) (S:=b9 S);have:=pE b k _ _ (by rwa[s]) J.next;cases this with
    |on I w em p H j n=>
     rw[s]at j;rw[L]at n;exact .on I w em p H (j.trans g) (by lia)
    |won I w H d n=>
     rw[L]at n;exact .won I w H d (by lia)
  rw[PM U];have q:¬((k:Int)+1∈c\/ -((k:Int)+1)∈c):=λz=>U (by
   rw[Sj];exact z.imp Py.mpr Py.mpr)
  have:=pE b k c _ u<|rg b T a q;cases this with
  |on I w em p H j n=>exact .on I w em p H (j.trans g) (by lia)
  |won I w H d n=>exact .won I w H d (by lia)
end
noncomputable def cJ(b:ab Px)(c:ab Int):M' (ab Int):=if c.any (cq Pn b)=Pn then Pt else gV (c.filter λl=>decide ((b.length:Int)<absI l))
noncomputable def cb(b:ab Px)(c:ab Int):ab Int:=c.filter<|cq Pn b
noncomputable def pF(t:Str)(b:ab Px)(c:ab Int):Int:=(((cb b c).filter λl=>cD t (absI l-1).toNat)++cb b c).headD 0
noncomputable def cr(t:Str)(b:ab Px)(s c:ab Int):ab Int:=if(s.any λl=>c.contains l)=Pn then s else s++[pF t b c]
noncomputable def ik(t:Str)(c:ab (ab Int))(b:ab Px):ab Int:=c.foldl (cr t b) []
noncomputable def f_(t:Str)(c:ab (ab Int))(B:ab Px):ab Int:=(ik t c B).mergeSort λa b=>decide (absI a<=absI b)
noncomputable def im(i:Nat):PK:=.tuple [.str aT,.int (i:Int)]
noncomputable def mW(c:ab Int):PK:=.tuple [.str bH,jw c]
noncomputable def cY(t:Str)(b:ab Px)(c:ab Int):Px:=decide (cJ b (ao t Pr c)=gV [])
noncomputable def gz(t:Str)(C:ab (ab Int))(S:SS):SS:=
 if C.any (cY t S.bs)=Pn then
  fU t Pr S.bs.length (ao t Pr<|C.getD (C.findIdx<|cY t S.bs) []) (bB t Pr (im<|C.findIdx<|cY t S.bs) (C.getD (C.findIdx<|cY t S.bs) []) S)
 else if(C.all λc=>decide (cJ S.bs (ao t Pr c)=Pt))=Pn then
  fU t Pn S.bs.length (ao t Pn<|f_ t C S.bs) (bB t Pn (mW<|f_ t C S.bs) (f_ t C S.bs) S)
 else d_ Pr Pt S
theorem kW:∀n a b,d9 n (a++b)=d9 n a+d9 (n-a.length) b
 |n,[],b=>by simp[d9]
 |n,x::a,b=>by
  show(if x=Pn then 2^n else 1)+d9 _ (a++b)=(if x=Pn then 2^n else 1)+d9 _ a+d9 (n-(a.length+1)) b
  rw[kW _ a b];lia
theorem pG:∀n a,a.length<=n->d9 n a+2<=2^(n+1)
 |n,[],_=>by
  show 0+2<=_
  have:=ZL (n:=n);rw[Vz];lia
 |0,x::a,h=>by simp at h
 |n+1,x::a,h=>by
  have:=pG n a (Nat.le_of_succ_le_succ h);show(if x=Pn then 2^(n+1)else 1)+d9 n a+2<=2^(n+1)*2
  rw[Nat.add_assoc,Nat.mul_two];exact Nat.add_le_add (by split;exact Po _;exact Nat.one_le_two_pow) this
theorem DY(h:(p++[Pr]) <+:b)(H:b.length<=n):d9 n b<d9 n (p++[Pn]):=by
 obtain⟨r,rfl⟩:=h;rw[Pl,Pl,Qg]at H;rw[Qu,kW n p _,kW n p _];have e:d9 (n-p.length) ([Pr]++r)=1+d9 _ r:=rfl;have E:d9 (n-p.length) [Pn]=2^(n-p.length):=by rfl
 have:=pG (n-p.length-1) r (by omega);rw[show n-p.length-1+1=n-p.length by lia]at this;lia
section
variable {S:SS}
theorem ve(k:ap t.length c)(h:cY t b c=Pn):AV Pr b (ao t Pr c):=by
 have H:=PX h;have a:=gS (t:=t) (w:=Pr) k;unfold cJ at H
 split at H
 ·cases H
 intro l f;have i:cq Pn b l=false:=by
  simp_all
 have m:=(a.2 l f).1;have o:absI l<=(b.length):=by
  simp_all
 unfold cq at i ⊢;rw[K' (by lia)]at i ⊢;simp_all
theorem mx(c:1<=absI a)(h:cq Pn B a=Pn)(H:cq Pn B b=Pn)(e:absI a=absI b):a=b:=by
 obtain z|z:=gP e
 ·exact z
 subst z;obtain⟨p,q⟩|⟨p,q⟩:=aH a
 ·exact(jn (Int.le_trans c (Int.le_of_eq q)) h H).elim
 exact(jn (Int.le_trans c (Int.le_of_eq q)) H<|by rwa[Wi]).elim
theorem Hv(h:∃l∈c,cq Pn b l=Pn):pF t b c∈c/\cq Pn b (pF t b c)=true:=by
 have H:cb b c≠[]:=by
  obtain⟨l,a,d⟩:=h;exact ZO<|PQ.mpr ⟨a,d⟩
 have m:pF t b c∈cb b c:=by
  unfold pF;cases e:(cb b c).filter _ with
  |nil=>
   cases g:cb b c with
   |nil=>exact absurd g H
   |cons x r=>exact P3
  |cons x r=>
   have:x∈(cb b c).filter λl=>cD t (absI l-1).toNat:=by rw[e];exact P3
   exact(PQ.mp this).1
 exact PQ.mp m
structure ChOk (bs:ab Px)(cs:ab (ab Int))(S6:ab Int):Prop where
 st:∀l∈S6,cq Pn bs l=Pn/\∃c∈cs,l∈c
 hit:∀c∈cs,∃l∈S6,l∈c
 nd:S6.Nodup
theorem ChOk.step(h:ChOk B D r)(e:∃l∈c,cq Pn B l=Pn):ChOk B (D++[c]) (cr t B r c):=by
 unfold cr
 split
 ·rename_i g;obtain⟨l,H,d⟩:=P'.mp g;refine⟨λl H=>⟨(h.st l H).1,let ⟨C,a,b⟩:=(h.st l H).2;⟨C,Ry _ a,b⟩⟩,λC X=>?_,h.nd⟩;obtain z|z:=P5.mp X
  ·exact h.hit C z
  rw[Pw.mp z];exact⟨l,H,Py.mp d⟩
 rename_i g;obtain⟨p,P⟩:=Hv e;refine⟨λl H=>?_,λC X=>?_,?_⟩
 ·obtain z|z:=P5.mp H
  ·exact⟨(h.st l z).1,let ⟨C,a,b⟩:=(h.st l z).2;⟨C,Ry _ a,b⟩⟩
  rw[Pw.mp z];exact⟨P,c,Qw _<|Pw.mpr rfl,p⟩
 ·obtain z|z:=P5.mp X
  ·obtain⟨l,a,b⟩:=h.hit C z;exact⟨l,Ry _ a,b⟩
  rw[Pw.mp z];exact⟨_,Qw _<|Pw.mpr rfl,p⟩
 rw[Rw];refine⟨h.nd,by simp,λx f y i z=>g ?_⟩;rw[Pw.mp i]at z;exact P'.mpr ⟨x,f,Py.mpr<|z▸p⟩
theorem my{t:Str}{C:ab (ab Int)}(h:∀c∈C,∃l∈c,cq Pn b l=Pn):∀k,k<=C.length->ChOk b (C.take k) ((C.take k).foldl (cr t b) [])
 |0,_=>⟨λ_ z=>(nomatch z),λ_ z=>(nomatch z),UJ⟩
 |k+1,a=>by
  have H:=getD_some (d:=([])) ‹_›;rw[Qb,H];rw[Sy];exact(my h k<|j' a).step<|h _<|Pq H
theorem eI(h:∀c∈C,∃l∈c,cq Pn b l=Pn):ChOk b C (ik t C b):=by
 have:=my (t:=t) h _<|Po _;rwa[PJ<|Po _]at this
theorem fy:l∈f_ t c b↔l∈ik t c b:=List.mem_mergeSort
theorem yR(H:∀c∈s,ap t.length c)(h:∀c∈s,∃l∈c,cq Pn B l=Pn):Ups (f_ t s B):=by
 have C:=eI (t:=t) h;refine rX ?_ ((UV _ _).nodup_iff.mpr C.nd) λa d b f e=>?_
 ·rw[QU];have:=Vn (le:=λa b:Int=>decide (absI a<=absI b)) (by lia) (by lia)<|ik t s B;exact this.imp λh=>PX h
 obtain⟨A,j,D,E⟩:=C.st a<|fy.mp d;obtain⟨k,z⟩:=C.st b<|fy.mp f;exact mx ((H j D).2 a E).1 A k e
theorem sP(H:∀c∈C,ap t.length c)(h:∀c∈C,∃l∈c,cq Pn B l=Pn):ap t.length (f_ t C B):=
 ⟨yR H h,λl d=>let ⟨_,c,a,b⟩:=(eI h).st l<|fy.mp d;(H c a).2 l b⟩
theorem vf(H:∀c∈C,ap t.length c)(h:∀c∈C,∃l∈c,cq Pn B l=Pn)(O:ab (ab Int)):aN t C Pn O (mW<|f_ t C B)=gV (f_ t C B):=by
 unfold mW;rw[mh];unfold mQ;rw[GF<|sP H h,CU];have:uM (f_ t C B) C=true:=Qv.mpr λc X=>by
  obtain⟨l,a,b⟩:=(eI h).hit c X;exact P'.mpr ⟨l,fy.mpr a,Py.mpr b⟩
 rw[this];rfl
theorem mY(h:cJ b (ao t Pr c)=Pt):∃l∈c,cq Pn b l=true:=by
 unfold cJ at h
 split at h
 ·rename_i g;obtain⟨l,H,a⟩:=P'.mp g;exact⟨l,(PQ.mp H).1,a⟩
 simp_all
structure kZ (t:Str)(cs:ab (ab Int))(S:SS):Prop where
 I:iW t cs S
 win:S.win=Pt
 emp:Lm S
 few:cC S+2*pend S.fs<=4*d9 t.length S.bs
structure FO (t:Str)(cs:ab (ab Int))(S:SS):Prop where
 I:iW t cs S
 hb:S.bs=[]
 hw:∃hw,S.win=gV hw/\(S.ow hw).getLast?=gV []
 few:cC S<=4*2^(t.length+1)
theorem vg(b:∀c∈C,ap t.length c)(e:t.length<=18)(L:kZ t C S):(kZ t C (gz t C S)/\d9 t.length S.bs<d9 t.length (gz t C S).bs)\/FO t C (gz t C S):=by
 have v:=L.few;have G:=pG t.length S.bs L.I.blen;have X:∀h d c,aN t C h (S.ow h) d=gV c->bd d->ap t.length c->AV h S.bs (ao t h c)->
   (kZ t C (fU t h S.bs.length (ao t h c)<|bB t h d c S)/\d9 t.length S.bs<d9 t.length (fU t h S.bs.length (ao t h c)<|bB t h d c S).bs)\/FO t C (fU t h S.bs.length (ao t h c)<|bB t h d c S):=by
  intro h d c f x H O;have T:pC t C h (ao t h c) (bB t h d c S):=⟨mo L.I f x,mq,by rw[fj];exact O,jX H,hI.trans L.win,mw L.emp⟩;have y:=fk (t:=t) (h:=h) (d:=d) (c:=c) (S:=S);have s:=iX (t:=t) (h:=h) (d:=d) (c:=c) (S:=S);have i:=fj (t:=t) (h:=h) (d:=d) (c:=c) (S:=S);cases pE b S.bs.length _ _ (by rw[i]) T with
  |on I w em P m u n=>
   rw[i]at u;rw[s]at n;have U:=DY u L.I.blen;rw[<-m]at U;exact .inl ⟨⟨I,w,em,by lia⟩,U⟩
  |won I w m B n=>
   rw[s]at n;exact .inr ⟨I,m,⟨h,w,B⟩,by lia⟩
 unfold gz;by_cases j:C.any (cY t S.bs)=Pn
 ·rw[PP j];have o:C.findIdx (cY t S.bs)<C.length:=VH<|P'.mp j;have D:=getD_some (d:=([]:ab Int)) o;have p:cY t S.bs (C.getD (C.findIdx<|cY t S.bs) [])=true:=by
   have:=Y0 (w:=o) (p:=cY t S.bs) (xs:=C);simp_all
  have H:=b _<|Pq D;refine X Pr _ _ ?_ (.inl ⟨_,rfl⟩) H<|ve H p;unfold im;rw[ij,PM Pk];unfold jQ;rw[gU (by simp_all),Qo];rfl
 rw[PM j];by_cases k:(C.all λc=>decide (cJ S.bs (ao t Pr c)=Pt))=Pn
 ·rw[PP k];have r:∀c∈C,∃l∈c,cq Pn _ l=true:=λc Z=>mY<|PX<|Qv.mp k c Z;have H:=sP b r;refine X Pn _ _ (vf b r _) (.inr<|.inl ⟨_,?_,rfl⟩) H λl f=>?_
  ·have:=bx H;lia
  exact((eI r).st l<|fy.mp (PQ.mp f).1).1
 rw[PM k];have Q:S.bs.length<t.length:=by
  obtain g|g:=VB _ _
  ·exact g
  refine absurd (Qv.mpr λc Z=>?_) k;rw[Qz];have W:cY t S.bs c=false:=by
   simp_all
  have a:¬cJ _ _=gV []:=WO W;have A:=gS (t:=t) (w:=Pr)<|b c Z;unfold cJ at a ⊢
  split
  ·rfl
  rename_i q;rw[PM q]at a;refine absurd (Qq gV<|SB.mpr λl f=>?_) a;have:=(A.2 l f).2;lia
 refine .inl ⟨⟨vc L.I Q<|(yQ L.I).mpr rfl,L.win,L.emp,?_⟩,?_⟩
 ·show cC S+2*pend (S.fs++[Pt])<=4*d9 _ (S.bs++[Pr])
  have J:pend [(Pt:M' _)]=0:=rfl;rw[pB,kW];lia
 show d9 _ _<d9 _ (S.bs++[Pr])
 have E:d9 (t.length-S.bs.length) [Pr]=1:=rfl;rw[kW];simp_all
noncomputable def pH:SS:=⟨λ_=>[],λ_=>[],[],[],Pt⟩
theorem rh:kZ t c pH:=⟨⟨λy=>rfl,λy y z=>(nomatch z),λy=>UJ,rfl,P8 _,λk h=>(nomatch h)⟩,rfl,λy z=>(nomatch z),P8 _⟩
noncomputable def tX(t:Str)(c:ab (ab Int)):Nat->SS->SS
 |0,S=>S
 |k+1,S=>if S.win.isSome=Pn then S else tX t c k (gz t c S)
theorem DZ(H:∀c∈C,ap t.length c)(a:t.length<=18):∀k S,kZ t C S->(kZ t C (tX t C k S)/\d9 t.length S.bs+k<=d9 t.length (tX t C k S).bs)\/FO t C (tX t C k S)
 |0,S,L=>.inl ⟨L,Po _⟩
 |k+1,S,L=>by
  unfold tX;rw[PM<|by rw[L.win];exact Pk];obtain⟨l,h⟩|W:=vg H a L
  ·obtain⟨L2,b⟩|W:=DZ H a k _ l
   ·exact .inl ⟨L2,by lia⟩
   exact .inr W
  have:tX t C k (gz t C S)=gz t C S:=by
   cases k with
   |zero=>rfl
   |succ k=>
    unfold tX;obtain⟨w,e,z⟩:=W.hw;simp_all
  rw[this];exact .inr W
theorem Lp(H:∀c∈C,ap t.length c)(a:t.length<=18){S:SS}(L:kZ t C S)(b:2^(t.length+1)<=d9 t.length S.bs+k):FO t C (tX t C k S):=by
 obtain⟨l,h⟩|W:=DZ H a k S L
 ·have:=pG _ _ l.I.blen;lia
 exact W
end
noncomputable abbrev Jf:QW:=cO (bS 86) 1
noncomputable abbrev yS:QW:=cO (bS 86) 2
noncomputable abbrev D0:QW:=cO (bS 86) 3
structure qr (K:J')(mg:Str->M' Pm)(CS:C'):Prop where
 len:mg "len"=Pt
 list:mg "list"=Pt
 cl:Cls K CS
 nS:NoAttr K CS "sentence"
 nL:NoAttr K CS "lines"
 nP:NoAttr K CS "places"
 nB:NoAttr K CS "begun"
 nF:NoAttr K CS "firsts"
 nR:NoAttr K CS "rests"
 nW:NoAttr K CS "winner"
 g_WISHER:kI mg "WISHER" (.str<|PD "wisher")
 g_SPOILER:kI mg "SPOILER" (.str<|PD "spoiler")
noncomputable def jY(l:Px->C'):ab (aJ×V):=[(Ut<|aq Pr,.ref<|l Pr),(Ut<|aq Pn,.ref<|l Pn)]
theorem fV(h:H d=gV (.dK<|jY l))(b:Px):DGet H d (.str<|aq b) (gV<|.ref<|l b):=by
 have e:aY (jY l) (Ut<|aq b)=gV (.ref<|l b):=by
  cases b<;>rfl
 rw[<-e];exact DGet.k (k:=Ut<|aq b) h
structure SA where
 x:C'
 dx:C'
 p:C'
 q:C'
 dl:C'
 dp:C'
 b:C'
 f:C'
 r:C'
 ll:Px->C'
 pp:Px->C'
 far:C'->Prop
def SA.own(A:SA)(a:C'):Prop:=a=A.x\/a=A.b\/a=A.f\/a=A.r\/∃h,a=A.ll h\/a=A.pp h
def SA.taken(A:SA)(a:C'):Prop:=A.own a\/A.far a
def Mv(A:SA)(H h:Hp):Prop:=∀a o,¬A.own a->H a=gV o->h a=gV o
theorem Mv.of(k:Same H h):Mv A H h:=λa o z e=>k a o e
theorem Mv.trans(k:Mv A H b)(j:Mv A b h):Mv A H h:=λa o n e=>j a o n<|k a o n e
theorem Mv.upd(k:Mv A H c)(h:A.own a)(o:HO):Mv A H (upd c a o):=λb u n e=>by
 rw[af λz=>n<|by rwa[z]];exact k b u n e
def TupS(H h:Hp):Prop:=∀a x,H a=gV (.tup x)->h a=gV (.tup x)
theorem TupS.of(k:Same H h):TupS H h:=λa z e=>k a _ e
theorem TupS.trans(k:TupS H b)(j:TupS b h):TupS H h:=λa x e=>j a x<|k a x e
theorem TupS.cl(k:TupS H a)(h:CL H c v):CL a c v:=let ⟨t,e,z⟩:=h;⟨t,e,k _ _ z⟩
theorem TupS.cls(k:TupS H a):∀{c:ab (ab Int)} {xs:ab V},CLs H c xs->CLs a c xs
 |_,_,.nil=>.nil
 |_,_,.cons h t=>.cons (k.cl h)<|TupS.cls k t
theorem TupS.good(k:TupS H D)(g:bd d)(h:RD H d v):RD D d v:=by
 obtain⟨n,rfl⟩|⟨c,E,rfl⟩|⟨n,rfl⟩|⟨i,j,z,rfl⟩:=g
 ·obtain⟨a,Z,rfl,f,l⟩:=aj h;exact bo (k _ _ f)<|‹_›
 ·obtain⟨a,Z,rfl,f,l⟩:=aj h;obtain⟨Y,q,rfl,m,B⟩:=ai l;obtain⟨t,o,rfl,A,b⟩:=ai B;have e:o=[]:=by assumption
  subst e;obtain⟨p,u,rfl,w,s⟩:=aj A;refine bo (k _ _ f)<|ah (iT m)<|ah (bo (k _ _ w) ?_) aG;clear w A l f h B E b
  induction c generalizing u with
  |nil=>
   assumption
  |cons x c I=>
   obtain⟨y,r,rfl,Q,F⟩:=ai s;exact ah (fR Q)<|I r F
 ·obtain⟨a,Z,rfl,f,l⟩:=aj h;exact bo (k _ _ f)<|‹_›
 obtain⟨a,Z,rfl,f,l⟩:=aj h;exact bo (k _ _ f)<|‹_›
theorem TupS.goods(k:TupS H c):∀{D:ab PK} {v:ab V},(∀d∈D,bd d)->dy H D v->dy c D v
 |[],v,_,h=>by
  assumption
 |d::D,v,g,h=>by
  obtain⟨y,Y,rfl,a,b⟩:=ai h;exact ah (k.good (g d P3) a)<|TupS.goods k (λf i=>g f<|P1 _ i) b
def nc(H:Hp):M' (ab Int)->V->Prop
 |none,v=>v=.non
 |some c,v=>CL H c v
def iY(H:Hp):ab (M'<|ab Int)->ab V->Prop:=Paired<|nc H
theorem TupS.opt(k:TupS H a)(h:nc H o v):nc a o v:=by
 cases o with
 |none=>exact h
 |some c=>exact k.cl h
theorem TupS.opts(k:TupS H a):∀{os:ab (M'<|ab Int)} {xs:ab V},iY H os xs->iY a os xs:=λh=>Paired.mapP h λz z=>k.opt
noncomputable def bV(t:Str)(C:ab (ab Int))(b:ab Px):ab (M'<|ab Int):=C.map λc=>cJ b<|ao t Pr c
structure Rsts (A:SA)(t:Str)(cs:ab (ab Int))(bs:ab Px)(H:Hp)(vs:ab V):Prop where
 len:vs.length=bs.length+1
 at_:∀(k:Nat) (v:V),vs[k]?=gV v->∃a ws,v=.ref a/\H a=gV (.lst ws)/\¬A.taken a/\iY H (bV t cs<|bs.take k) ws
theorem ng{b:Type} [Wj b] {s:ab (b×V)}{k:b}{v:V}(h:aY s k=Pt):(cE s k v).length=s.length+1:=by
 unfold cE;have H:s.any (λa=>decide (a.1=k))=false:=by
  cases e:s.any _ with
  |false=>rfl
  |true=>
   obtain⟨a,c,d⟩:=P'.mp e;have:=RN.mp (Option.map_eq_none_iff.mp h) a c;exact absurd d this
 first
  |(rw[H];simp)
  |(simp )
def Lq(D:ab (ab aJ×V))(O:ab (ab Int)):Prop:=D.length=O.length/\∀c:ab Int,aY D (ii c)=if c∈O then gV (.int ((O.idxOf c:Nat):Int))else Pt
noncomputable def sQ:M' Px->V
 |none=>.non
 |some h=>.str<|aq h
noncomputable def vh(A:SA)(w:V):ab (Str×V):=[("sentence",.ref A.p),("lines",.ref A.dl),("places",.ref A.dp),("begun",.ref A.b),("firsts",.ref A.f),("rests",.ref A.r),("winner",w)]
structure SrAt (CS:C')(A:SA)(t:Str)(cs:ab (ab Int))(S:SS)(H:Hp):Prop where
 hx:H A.x=gV (.ins CS A.dx<|vh A<|sQ S.win)
 hp:H A.p=gV (.tup [.str t,.ref A.q])
 hq:∃xs,H A.q=gV (.lst xs)/\CLs H cs xs
 hl:H A.dl=gV (.dK<|jY A.ll)
 hd:H A.dp=gV (.dK<|jY A.pp)
 l:∀h,∃vs,H (A.ll h)=gV (.lst vs)/\dy H (S.lw h) vs
 d:∀h,∃D,H (A.pp h)=gV (.dT D)/\Lq D (S.ow h)
 b:H A.b=gV (.lst<|S.bs.map V.bl)
 f:∃vs,H A.f=gV (.lst vs)/\iY H S.fs vs
 r:∃vs,H A.r=gV (.lst vs)/\Rsts A t cs S.bs H vs
 nq:¬A.taken A.q
 nd:[A.b,A.f,A.r,A.ll Pr,A.ll Pn].Nodup
 np:A.pp Pr≠A.pp Pn
 good:∀h,∀d∈S.lw h,bd d
 len:∀h,(S.ow h).length=(S.lw h).length
 far:∀a,A.far a->¬A.own a/\∃o,H a=gV o
section
variable {S:SS}
theorem SrAt.own_ty(h:SrAt C A t s S H)(c:A.own a):(∃w,H a=gV (.ins C A.dx<|vh A w))\/(∃v,H a=gV (.lst v))\/∃D,H a=gV (.dT D):=by
 obtain rfl|rfl|rfl|rfl|⟨z,rfl|rfl⟩:=c
 ·exact .inl ⟨_,h.hx⟩
 ·exact .inr<|.inl ⟨_,h.b⟩
 ·obtain⟨v,e,y⟩:=h.f;exact .inr<|.inl ⟨_,e⟩
 ·obtain⟨v,e,y⟩:=h.r;exact .inr<|.inl ⟨_,e⟩
 ·obtain⟨v,e,y⟩:=h.l z;exact .inr<|.inl ⟨_,e⟩
 obtain⟨v,e,y⟩:=h.d z;exact .inr<|.inr ⟨_,e⟩
theorem SrAt.ntup(h:SrAt C A t c S H)(e:H a=gV (.tup xs)):¬A.own a:=λz=>by
 obtain⟨y,g⟩|⟨y,g⟩|⟨y,g⟩:=h.own_ty z<;>rw[e]at g<;>cases g
theorem SrAt.ndk(h:SrAt C A t c S H)(e:H a=gV (.dK k)):¬A.own a:=λz=>by
 obtain⟨y,g⟩|⟨y,g⟩|⟨y,g⟩:=h.own_ty z<;>rw[e]at g<;>cases g
theorem SrAt.tups(h:SrAt C A t s S H)(m:Mv A H c):TupS H c:=λa x e=>m a _ (h.ntup e) e
theorem SrAt.make(h:SrAt C A t s S H)(m:Mv A H c)(x:c A.x=gV (.ins C A.dx<|vh A<|sQ S'.win))(l:∀z,∃v,c (A.ll z)=gV (.lst v)/\dy c (S'.lw z) v)(d:∀z,∃D,c (A.pp z)=gV (.dT D)/\Lq D (S'.ow z))
  (b:c A.b=gV (.lst<|S'.bs.map V.bl)) (f:∃v,c A.f=gV (.lst v)/\iY c S'.fs v) (r:∃v,c A.r=gV (.lst v)/\Rsts A t s S'.bs c v) (g:∀z,∀d∈S'.lw z,bd d) (L:∀z,(S'.ow z).length=(S'.lw z).length):SrAt C A t s S' c:=by
 have k:=h.tups m;obtain⟨X,q,Q⟩:=h.hq;exact⟨x,k _ _ h.hp,⟨X,m _ _ (λz=>h.nq<|.inl z) q,k.cls Q⟩,m _ _ (h.ndk h.hl) h.hl,m _ _ (h.ndk h.hd) h.hd,l,d,b,f,r,h.nq,h.nd,h.np,g,L,λa z=>let ⟨n,o,e⟩:=h.far a z;⟨n,o,m _ _ n e⟩⟩
theorem Rsts.mono(r:Rsts A t c b H s)(m:Mv A H h)(k:TupS H h):Rsts A t c b h s:=
 ⟨r.len,λi v e=>let ⟨a,w,d,f,E,g⟩:=r.at_ i v e;⟨a,w,d,m _ _ (λz=>E<|.inl z) f,E,k.opts g⟩⟩
theorem SrAt.same(h:SrAt C A t c S H)(k:Same H a):SrAt C A t c S a:=
 h.make (.of k) (k _ _ h.hx) (λz=>let ⟨v,e,g⟩:=h.l z;⟨v,k _ _ e,(TupS.of k).goods (h.good z) g⟩) (λz=>let ⟨D,e,g⟩:=h.d z;⟨D,k _ _ e,g⟩) (k _ _ h.b) (let ⟨v,e,g⟩:=h.f;⟨v,k _ _ e,(TupS.of k).opts g⟩) (let ⟨v,e,g⟩:=h.r;⟨v,k _ _ e,g.mono (.of k)<|.of k⟩) h.good h.len
structure O8 (A:SA):Prop where
 bf:A.b≠A.f
 br:A.b≠A.r
 fr:A.f≠A.r
 lb:∀z,A.ll z≠A.b
 lf:∀z,A.ll z≠A.f
 lr:∀z,A.ll z≠A.r
 ll:A.ll Pr≠A.ll Pn
theorem SrAt.nes(h:SrAt m A t s S H):O8 A:=by
 have:=h.nd;simp only[Q3,P_,Sq,Wc,not_or]at this;obtain⟨⟨a,c,e,g⟩,⟨B,i,j⟩,⟨C,k⟩,D,y⟩:=this;exact⟨a,c,B,(λz=>by cases z;exact Q1 e;exact Q1 g),(λz=>by cases z;exact Q1 i;exact Q1 j),(λz=>by cases z;exact Q1 C;exact Q1 k),D⟩
theorem OT(h:O8 A)(e:a≠b):A.ll a≠A.ll b:=by
 cases a<;>cases b
 ·exact absurd rfl e
 ·exact h.ll
 ·exact λz=>h.ll z.symm
 simp_all
theorem SrAt.ne_p(h:SrAt C A t c S H){a b:Px}(e:a≠b):A.pp a≠A.pp b:=by
 cases a<;>cases b
 ·exact absurd rfl e
 ·exact h.np
 ·exact λz=>h.np z.symm
 simp_all
end
inductive xf (C:C')(vs:ab V)(H:Hp)(Q:VK)(E:XK):Prop
 |mk (A:SA)(t:Str)(cs:ab (ab Int))(S:SS)(hw:Px)(v u:V)(d:PK)(c:ab Int)(h0:vs=[.ref A.x,.str<|aq hw,v,u])(h:SrAt C A t cs S H)(b:RD H d v)(g:bd d)(e:CL H c u)(hn:cC S<=9000)(q:∀a,SrAt C A t cs (dZ hw d c S) a->Mv A H a->Q .non a)
theorem vi(S:SS)(h:Px):(S.lw h).length<=cC S:=by
 unfold cC;cases h<;>lia
theorem Hw(F:Fun K "put" "Searcher.put" Jf f fd)(T:qr K mg I):ay P w K mg aC aV 1 f fd ["self","hand","line","literals"] (xf I):=by
 refine F.okB (N:=["self","hand","line","literals"]) λQC A an s H k Q E sc hr h=>?_;obtain⟨B,t,cs,S,b,v,u,d,c,rfl,h,hv,hg,as,hn,q⟩:=h;have hu:=hr.units;have G:=mN hr;obtain⟨tc,rfl,Q7⟩:=as;obtain⟨D,m,av,r⟩:=h.d b;obtain⟨l,i,J⟩:=h.l b;have aF:=vi S b;have P1:=h.len b;have aL:=c9 J;have L:H tc=gV (.tup<|(ii c).map kV):=by rw[md];exact Q7
 have M:=DGet.t m L;rw[r c]at M;refine⟨_,(au (bu (jI<|ji G (pv 3)<|bv G gg (pv 1) λg g=>rfl) (ae (rR G (bv G gg (pv 1) λg g=>rfl) (pv 3) (aR dq rfl T.len R9<|gT<|bv G gg (pv 1) λg g=>rfl) rfl)
   (au<|cG<|fJ QD Ra Ri cK (bv G gg (pv 1) λg g=>rfl)<|gT<|pv 2)) aK)),?_⟩
 exists _,rfl,_,rfl,B.x,I,B.dx,_,_,rfl,h.hx,T.cl,T.nP,rfl,_,rfl,B.dp,_,rfl,fV h.hd b,B.pp b,_,rfl,M,_,rfl;by_cases p:c∈S.ow b
 ·rw[PP p];refine al<|q H ?_<|.of<|Same.refl _;rw[jW p];exact h
 rw[PM p];refine ar ?_;exists _,rfl,B.x,I,B.dx,_,_,rfl,h.hx,T.cl,T.nL,rfl,_,rfl,B.dl,_,rfl,fV h.hl b,.ref<|B.ll b,_,rfl,.inl ⟨_,SqL.of i,rfl⟩;exists _,rfl,B.x,I,B.dx,_,_,rfl,h.hx,T.cl,T.nP,rfl,_,rfl,B.dp,_,rfl,fV h.hd b,_,rfl,B.pp b,_,rfl,DPut.t m L (cH<|by lia);have oP:B.own (B.pp b):=.inr<|.inr<|.inr<|.inr ⟨b,.inr rfl⟩;have oL:B.own (B.ll b):=.inr<|.inr<|.inr<|.inr ⟨b,.inl rfl⟩;have m1:Mv B H (upd H (B.pp b)<|.dT<|cE D (ii c)<|.int (l.length:Nat)):=(Mv.of<|Same.refl H).upd oP _;have O:B.pp b≠B.ll b:=bi m i (by intro z;cases z);have X:∀a o,H a=gV o->a≠B.pp b->upd H (B.pp b) (.dT<|cE D (ii c)<|.int (l.length:Nat)) a=gV o:=λa o e n=>by rw[af n];exact e
 have s1:=@aa H (B.pp b) (.dT<|cE D (ii c)<|.int (l.length:Nat));generalize upd H (B.pp b) (.dT<|cE D (ii c)<|.int (l.length:Nat))=U at m1 X s1 ⊢;have nx:B.x≠B.pp b:=bi h.hx m (by simp);have az:=X _ _ h.hx nx;have Yb:=X _ _ h.hl (bi h.hl m<|by simp);have W:=X _ _ i<|Q1 O;have k1:=h.tups m1;exists _,rfl,B.x,I,B.dx,_,_,rfl,az,T.cl,T.nL,rfl,_,rfl,B.dl,_,rfl,fV Yb b,.inl ⟨rfl,_,SqL.of W⟩,_,rfl,B.ll b,l,v,rfl,rfl,W,cH (by lia);have Y:Mv B H (upd U (B.ll b)<|.lst<|l++[v]):=m1.upd oL _;have x:∀a o,H a=gV o->a≠B.pp b->a≠B.ll b->upd U (B.ll b) (.lst<|l++[v]) a=gV o:=λa o e n n2=>by rw[af n2];exact X a o e n
 have s2:=@aa U (B.ll b) (.lst<|l++[v]);have s3:upd U (B.ll b) (.lst<|l++[v]) (B.pp b)=gV (.dT<|cE D (ii c)<|.int (l.length:Nat)):=by rw[af O];exact s1
 generalize upd U (B.ll b) (.lst<|l++[v])=H2 at Y x s2 s3 ⊢;have Z:=h.tups Y;have N:=h.nes;refine q H2 (h.make (S':=dZ b d c S) Y ?_ ?_ ?_ ?_ ?_ ?_ ?_ ?_) Y
 ·rw[hX];exact x _ _ h.hx nx (by lia)
 ·intro z;rw[eS p];show∃k,H2 (B.ll z)=gV (.lst k)/\dy H2 (cX S.lw b d z) k
  by_cases e:z=b
  ·subst e;rw[bh];exact⟨_,s2,pe (Z.goods (h.good z) J)<|ah (Z.good hg hv) aG⟩
  rw[cA _ _ e];obtain⟨k,j,C⟩:=h.l z;exact⟨k,x _ _ j (bi j m<|by intro z;cases z)<|OT N e,Z.goods (h.good z) C⟩
 ·intro z;rw[eS p];show∃D,H2 _=gV _/\Lq D (cX _ b c z)
  by_cases e:z=b
  ·subst e;rw[bh];refine⟨_,s3,?_,λc'=>?_⟩
   ·have Wn:aY D (ii c)=none:=by simp_all
    rw[ng Wn,Pl,av];rfl
   rw[gL];by_cases e:c'=c
   ·subst e;rw[PP<|Qw _<|Pw.mpr rfl,aao];simp_all
   rw[PM λz=>e<|ic.mp z,r c'];grind
  rw[cA _ _ e];obtain⟨D',j,C⟩:=h.d z;exact⟨D',x _ _ j (h.ne_p e) (bi j i<|by intro z;cases z),C⟩
 ·rw[hY];exact x _ _ h.b (bi h.b m<|by simp)<|Q1<|N.lb b
 ·rw[ip];obtain⟨k,j,C⟩:=h.f;exact⟨k,x _ _ j (bi j m<|by intro z;cases z)<|Q1<|N.lf b,Z.opts C⟩
 ·rw[hY];obtain⟨k,j,C⟩:=h.r;exact⟨k,x _ _ j (bi j m<|by intro z;cases z)<|Q1<|N.lr b,C.mono Y Z⟩
 ·intro z d' am;rw[eS p]at am;have X_:d'∈cX _ b d z:=am;by_cases e:z=b
  ·subst e;rw[bh]at X_;obtain y|y:=P5.mp X_
   ·exact h.good z d' y
   simp_all
  rw[cA _ _ e]at X_;exact h.good z d' X_
 intro z;rw[eS p];show(cX _ b c z).length=(cX _ b d z).length
 by_cases e:z=b
 ·subst e;rw[bh,bh,Pl,Pl,h.len z];rfl
 rw[cA _ _ e,cA _ _ e];exact h.len z
inductive iZ (C:C')(vs:ab V)(H:Hp)(Q:VK)(E:XK):Prop
 |mk (A:SA)(t:Str)(cs:ab (ab Int))(S:SS)(hw:Px)(v u:V)(d:PK)(c:ab Int)(h0:vs=[.ref A.x,.str<|aq hw,v,u])(h:SrAt C A t cs S H)(e:RD H d v)(g:bd d)(f:CL H c u)(hok:ap t.length c)(ht:t.length<=18)(hn:cC S<=8900)(q:∀a b,SrAt C A t cs (bB t hw d c S) b->Mv A H b->ki b a (ao t hw c)->Q (.ref a) b)
inductive sR (C:C')(vs:ab V)(H:Hp)(Q:VK)(E:XK):Prop
 |mk (A:SA)(t:Str)(cs:ab (ab Int))(S:SS)(hw:Px)(u U:V)(F c:ab Int)(z:Int)(h0:vs=[.ref A.x,.str<|aq hw,u,U,.int z])(h:SrAt C A t cs S H)(d:CL H F u)(e:CL H c U)(mF:F∈S.ow hw)(m:c∈S.ow hw)(okF:ap t.length F)(okC:ap t.length c)(hb:dM F c z=Pr)(ht:t.length<=18)(hn:cC S<=8900)(q:∀a b,SrAt C A t cs (bB t hw (cB (S.ow hw) F c z) (bK F c z) S) b->Mv A H b->ki b a (ao t hw<|bK F c z)->Q (.ref a) b)
theorem D_(h:H a=gV (.tup [.str ax,.int (k:Int)])):RD H (py k) (.ref a):=bo h<|ah (cR _)<|ah (ca _) aG
theorem vj(h:H a=gV (.tup [.str aZ,.int (i:Int),.int (j:Int),.int z])):RD H (rc i j z) (.ref a):=bo h<|ah (cR _)<|ah (ca _)<|ah (ca _)<|ah (ca _) aG
theorem A1(F:Fun K "learn" "Searcher.learn" yS f Z)(T:qr K M C)(WG:Fe P w K M e 3 "dropped" eE)(n:tV P w K M e aV 1 C "put" g2 e2 ["self","hand","line","literals"] (xf C)):ay P w K M e aV 4 f Z ["self","hand","line","literals"] (iZ C):=by
 refine F.okB (N:=["self","hand","line","literals","left"]) λQC A o s H vs Q E sc r h=>?_;obtain⟨B,t,J,S,b,v,u,d,c,rfl,h,hv,hg,p,k,ht,hn,q⟩:=h;have N:=mN r;obtain⟨l,rfl,x⟩:=p;have TQ:=bx k;refine⟨_,(ae gg
  (ae gg
  (ae (cG<|iQ n (pv 0) r (by simp)<|aM (pv 1)<|kh (eD<|kh iE<|bv N (bv N gg (pv 1) λV V=>rfl) (pv 3) λV V=>rfl)<|pv 4)
  (di<|pv 4)))),?_⟩
 refine⟨_,rfl,B.x,C,B.dx,_,_,rfl,h.hx,T.cl,T.nS,rfl,_,rfl,_,rfl,B.p,l,t,_,b,c,rfl,h.hp,(by lia),x,(by lia),k.2,λL H1 g Zy=>?_⟩;have y:=h.same g;refine⟨_,rfl,B.x,B.dx,_,rfl,y.hx,rfl,_,rfl,_,rfl,_,rfl,B,t,J,S,b,v,.ref l,d,c,rfl,y,eO g _ _ hv,hg,⟨l,rfl,g _ _ x⟩,(by lia),λz i U=>?_⟩;have W:=y.tups U;have Xx:=W _ _<|g _ _ x;have O:=W _ _ Zy;have hm:c∈(dZ b d c S).ow b:=nK;obtain⟨D,hD,ac,G⟩:=i.d b;have I:z l=gV (.tup<|(ii c).map kV):=by rwa[md]
 have j:=DGet.t hD I;rw[G c,PP hm]at j;refine⟨_,rfl,B.x,B.dx,_,rfl,i.hx,rfl,_,rfl,_,rfl,B.x,C,B.dx,_,_,rfl,i.hx,T.cl,T.nP,rfl,_,rfl,B.dp,_,rfl,fV i.hd b,_,rfl,B.pp b,_,rfl,j,(by show 2<=sizeLine;decide),λa na=>?_⟩;have m:=ad na<|.tup [.str ax,.int (((dZ b d c S).ow b).idxOf c)];have X:=i.same m;have s3:=cm m;have am:=mn (h:=b) (d:=d) (c:=c) (S:=S);exact⟨_,rfl,B,t,J,dZ b d c S,b,_,.ref L,py<|((dZ b d c S).ow b).idxOf c,ao t b c,rfl,X,D_ s3,re _,⟨L,rfl,m _ _ O⟩,(by lia),λH4 h4 Y=>⟨_,rfl,q L H4 h4 ((Mv.of g).trans<|U.trans<|(Mv.of m).trans Y)<|(X.tups Y) _ _<|m _ _ O⟩⟩
theorem Ea(F:Fun K "learn_join" "Searcher.learn_join" D0 f fd)(T:qr K U C)(a0:Fe P w K U g 1 "joined" iR)(a3:tV P w K U g aV 4 C "learn" g2 e2 ["self","hand","line","literals"] (iZ C)):ay P w K U g aV 5 f fd ["self","hand","first","second","variable"] (sR C):=by
 refine F.okB (N:=["self","hand","first","second","variable","places","line"]) λQC A W s H vs Q E sc hr h=>?_;obtain⟨B,t,cs,S,d,u1,u2,e,c,z,rfl,h,X,Y,mF,mC,o,O,Z,ht,hn,q⟩:=h;have hu:=hr.units;have l:=mN hr;obtain⟨J,rfl,i⟩:=X;obtain⟨t2,rfl,n⟩:=Y;obtain⟨D,hD,a4,v⟩:=h.d d;have l1:=bx o;have l2:=bx O;have p:H J=gV (.tup<|(ii e).map kV):=by rw[md];exact i
 have u:H t2=gV (.tup<|(ii c).map kV):=by rw[md];exact n
 have Yc:=DGet.t hD p;rw[v e,PP mF]at Yc;have G:=DGet.t hD u;rw[v c,PP mC]at G;have JE:∀r,Joins e c z r->r=bK e c z:=λr ac=>Joins.eq o.1 O.1 Z ac;have am:=oW o O Z;refine⟨_,(ae (sT 5<|bv l gg (pv 1) λR R=>rfl)
  (ae (sT 6<|eD<|aM iE<|aM (bv l (pv 5) (pv 2) λR R=>rfl)<|kh (bv l (pv 5) (pv 3) λR R=>rfl)<|pv 4)
  (ae (bu gg (au<|sT 6<|eD<|aM iE<|aM (bv l (pv 5) (pv 3) λR R=>rfl)<|kh (bv l (pv 5) (pv 2) λR R=>rfl)<|pv 4) aK)
  gg))),?_⟩
 exists _,rfl,B.x,C,B.dx,_,_,rfl,h.hx,T.cl,T.nP,rfl,_,rfl,B.dp,_,rfl,fV h.hd d;refine⟨_,rfl,_,rfl,B.pp d,_,rfl,Yc,_,rfl,_,rfl,B.pp d,_,rfl,G,_,rfl,(by show 4<=sizeLine;decide),λa1 n1=>?_⟩;have j:=ad n1<|.tup [.str aZ,.int ((S.ow d).idxOf e),.int ((S.ow d).idxOf c),.int z];have s1:=cm j;have m:∀L a,Same H L->RD L (cB (S.ow d) e c z) (.ref a)->bd (cB (S.ow d) e c z)->FS (ub C "learn" (iZ C) [] E0 (nX 0)<|jz (nX 1)<|jz (nX 6)<|jz (xX iR [] E0<|jz (nX 2)<|jz (nX 3)<|jz (nX 4) wa) wa) {nx:=λR H'=>Q .non H',rt:=Q} [gV<|.ref B.x,gV<|.str<|aq d,gV<|.ref J,gV<|.ref t2,gV<|.int z,gV<|.ref<|B.pp d,gV<|.ref a] L:=by
  intro L a k an as;have h1:=h.same k;refine⟨_,rfl,B.x,B.dx,_,rfl,h1.hx,rfl,_,rfl,_,rfl,_,rfl,_,rfl,_,rfl,J,t2,e,c,z,rfl,k _ _ i,k _ _ n,(by lia),o.1,O.1,Z,λlj r H2 M hj av=>?_⟩;obtain rfl:=JE r hj;have VZ:=k.trans M;exact⟨B,t,cs,S,d,_,.ref lj,cB _ e c z,bK e c z,rfl,h.same VZ,eO M _ _ an,as,⟨lj,rfl,av⟩,am,ht,hn,λb H3 h3 m3 az=>q b H3 h3 ((Mv.of VZ).trans m3) az⟩
 have aC:(if Pr=Pn then !g_ (.int (-z)) (e.map V.int)else g_ (.int (-z)) (e.map V.int))=e.contains (-z):=by rw[PM Pk,bj]
 exists _,rfl,_,rfl,_,rfl,J,_,rfl,.inr<|SqT.of<|j _ _ i,rfl,bF _,_,rfl;rw[aC];cases N:e.contains _ with
 |false=>
  refine al<|m _ a1 j ?_ ?_
  ·unfold cB;rw[N];exact vj s1
  ·unfold cB;rw[N];exact js _ _ _
 |true=>
  have x:=j _ _ hD;have aF:=j _ _ p;have aL:=j _ _ u;have y:=DGet.t x aF;rw[v e,PP mF]at y;have I:=DGet.t x aL;rw[v c,PP mC]at I;refine ar ⟨_,rfl,_,rfl,B.pp d,_,rfl,I,_,rfl,_,rfl,B.pp d,_,rfl,y,_,rfl,(by show 4<=sizeLine;decide),λa2 n2=>?_⟩;have M:=ad n2<|.tup [.str aZ,.int ((S.ow d).idxOf c),.int ((S.ow d).idxOf e),.int z];refine m _ a2 (j.trans M) ?_ ?_
  ·unfold cB;rw[N];exact vj aa
  unfold cB;rw[N];exact js _ _ _
noncomputable abbrev Eb:QW:=bS 21
noncomputable abbrev Ec:QW:=bS 84
noncomputable abbrev Ed:QW:=cO (bS 86) 4
def yT:Sp:=λv H Q _=>∃(n:Int) (b:Px),v=[.int n,.bl b]/\Q (.int (if b=Pn then n else -n)) H
noncomputable def yU:M' (ab Int)->Int->M' (ab Int)
 |none,_=>Pt
 |some r,z=>if r.contains z=Pn then Pt else if r.contains (-z)=Pn then gV (r.drop 1)else gV r
inductive sS (vs:ab V)(H:Hp)(Q:VK)(E:XK):Prop
 |mk (v:V)(o:M' (ab Int))(z:Int)(h0:vs=[v,.int z])(b:nc H o v)(d:∀c,o=gV c->c.length<=60)(q:∀a h,Same H h->nc h (yU o z) a->Q a h)
theorem mz(H:1<=absI l):cq Pn (B++[b]) l=(cq Pn B l || decide (l=if b=Pn then(B.length:Int)+1 else -((B.length:Int)+1))):=by
 obtain g|g|g:=VA _ _
 ·rw[uQ g,Pu,Zo];intro z;have:absI l=(B.length)+1:=by
   rw[z]
   split
   ·rfl
   rw[eT];rfl
  simp_all
 ·rw[uR g,fO<|VC g.symm,Tb];have h:absI l=(B.length)+1:=by lia
  obtain e|e:=DV (by simp_all) h
  ·rw[e,PB (by lia)];cases b
   ·rfl
   simp
  rw[e];cases b
  ·rw[PM Pk,PB rfl];rfl
  rfl
 rw[fO (by rw[Pl,Qg];exact Nat.le_of_lt_succ (Nat.succ_lt_succ g)),fO (QA g),Pu,Tb];intro z;have:absI l=(B.length)+1:=by
  rw[z]
  split
  ·rfl
  rw[eT];rfl
 simp_all
theorem A2(k:ap n c):yU (cJ B c) (if b=Pn then(B.length:Int)+1 else -((B.length:Int)+1))=cJ (B++[b]) c:=by
 generalize d:(if b=Pn then(B.length:Int)+1 else -((B.length:Int)+1))=z;have A:absI z=(B.length:Int)+1:=by
  rw[<-d]
  split
  ·rfl
  rw[eT];rfl
 have w:c.any (cq Pn<|B++[b])=(c.any (cq Pn B) || c.contains z):=by
  rw[RE,Sj,P',P',Py];constructor
  ·rintro⟨l,H,h⟩;rw[mz (k.2 l H).1,d,Sj]at h;exact h.imp (λq=>⟨l,H,q⟩) λq=>by simp_all
  rintro (⟨l,H,h⟩|h)
  ·exact⟨l,H,by rw[mz (k.2 l H).1,h,Sh]⟩
  exact⟨z,h,by rw[mz (k.2 z h).1,d,PB rfl,Bool.or_true]⟩
 unfold cJ;rw[w,Pl,Qg];cases j:c.any (cq Pn B)with
 |true=>rfl
 |false=>
  rw[PM Pk,Tb];show(if(c.filter λl=>decide ((B.length:Int)<absI l)).contains z=Pn then Pt else if(c.filter λl=>decide ((B.length:Int)<absI l)).contains (-z)=Pn then gV ((c.filter λl=>decide ((B.length:Int)<absI l)).drop 1)else gV (c.filter λl=>decide ((B.length:Int)<absI l)))=_
  have U:∀y,absI y=(B.length:Int)+1->((c.filter λl=>decide ((B.length:Int)<absI l)).contains y=Pn↔y∈c):=λy o=>by
   rw[Py,PQ,Qz];exact⟨λq=>q.1,λq=>⟨q,by lia⟩⟩
  by_cases g:z∈c
  ·rw[PP<|(U z A).mpr g,PP<|Py.mpr g]
  rw[PM λq=>g<|(U z A).mp q,PM λq=>g<|Py.mp q];have f:c.filter (λl=>decide (((B.length+1:Nat):Int)<absI l))=(c.filter λl=>decide ((B.length:Int)<absI l)).filter λl=>decide (((B.length+1:Nat):Int)<absI l):=by
   rw[List.filter_filter];refine VI λl v=>?_;lia
  have p:Ups (c.filter λl=>decide ((B.length:Int)<absI l)):=QU.mpr<|UL _<|QU.mp k.1;have t:∀l∈c.filter λl=>decide ((B.length:Int)<absI l),(B.length:Int)<absI l:=λl H=>PX (PQ.mp H).2;have a:∀l∈c.filter λl=>decide ((B.length:Int)<absI l),absI l=(B.length:Int)+1->l=-z:=λl H e=>by
   have E:absI l=absI z:=by simp_all
   obtain q|q:=gP E
   ·exact absurd (q▸(PQ.mp H).1) g
   simp_all
  rw[f];generalize c.filter (λl=>decide ((B.length:Int)<absI l))=r at p t a U;by_cases G:r.contains (-z)=Pn
  ·rw[PP G]
   congr 1
   have m:=Py.mp G;cases r with
   |nil=>rfl
   |cons x r=>
    have s:absI x=(B.length:Int)+1:=by
     have i:=t x P3;obtain e|e:=P_.mp m
     ·rw[<-e,eT];exact A
     have:=p.head _ e;rw[eT,A]at this;lia
    rw[QP<|by lia];refine(Rq.mpr λl H=>?_).symm;have:=p.head l H;simp_all
  rw[PM G]
  congr 1
  refine(Rq.mpr λl H=>?_).symm;have i:=t l H;obtain q|q|q:=Int.lt_trichotomy (absI l) ((B.length)+1)
  ·omega
  ·exact absurd (Py.mpr<|a l H q▸H) G
  lia
theorem Ee(F:Fun K "literal_by" "literal_by" Eb f d):ay P w K m B aV 1 f d ["variable","value"] yT:=by
 refine F.okB (N:=["variable","value"]) λC A o s H v Q E c r h=>?_;obtain⟨n,b,rfl,q⟩:=h;exists _,gg;exists _,rfl,_,rfl;cases b with
 |true=>exact ar ⟨_,rfl,q⟩
 |false=>exact al ⟨_,rfl,_,rfl,q⟩
theorem Ef(F:Fun K "rest_behind" "rest_behind" Ec f l):ay P w K M B aV 1 f l ["rest","literal"] sS:=by
 refine F.okB (N:=["rest","literal"]) λD A O s H I Q E J L h=>?_;obtain⟨v,o,z,rfl,i,T,q⟩:=h;refine⟨_,(ae gg
  (di<|nY gg (du GC (pv 0) gg eM)<|pv 0)),?_⟩
 cases o with
 |none=>
  have g:=i;subst g;exists _,rfl,rfl,_,rfl;exact ar<|ar<|q _ _ (Same.refl _) rfl
 |some r=>
  obtain⟨t,rfl,a⟩:=i;have e:∀y,(if Pr=Pn then !g_ (.int y) (r.map V.int)else g_ _ _)=r.contains y:=λy=>by rw[PM Pk,bj]
  exists _,rfl,rfl,_,rfl;refine al ⟨_,rfl,_,rfl,t,_,rfl,.inr<|SqT.of a,rfl,bF _,_,rfl,?_⟩;rw[e];cases j:r.contains z with
  |true=>exact ar<|q _ _ (Same.refl _) (by show nc H (if r.contains z=Pn then Pt else _) _;rw[PP j];rfl)
  |false=>
   have d:=λc b k m=>q c b k (by
    show nc b (if r.contains z=Pn then Pt else if r.contains _=Pn then gV _ else gV r) c
    rwa[PM<|by lia])
   refine al ⟨_,rfl,_,rfl,_,rfl,t,_,rfl,.inr<|SqT.of a,rfl,bF _,_,rfl,?_⟩;rw[e];cases G:r.contains _ with
   |true=>
    rw[G]at d;have n:=Py.mp G;have U:1<=r.length:=Yg n;refine ar ⟨_,rfl,1,rfl,t,_,rfl,SqT.of a,λu=>?_,λZ p N=>?_⟩
    ·have x:HT.sIx (r.map V.int).length 0 (gV 1)=min 1 _:=rfl;simp_all
    ·have C:dE (r.map V.int) (gV 1) Pt=(r.drop 1).map V.int:=by
      rw[show(gV (1))=gV (((1:Nat):Int))from rfl,iP,acI]
     rw[C];exact d _ _ (ad N _) ⟨p,rfl,aa⟩
   |false=>
    rw[G]at d;exact al ⟨_,rfl,d _ _ (Same.refl _) ⟨t,rfl,a⟩⟩
inductive nM (C:C')(vs:ab V)(H:Hp)(Q:VK)(E:XK):Prop
 |mk (A:SA)(t:Str)(cs:ab (ab Int))(S:SS)(b:Px)(f:V)(o:M' (ab Int))(h0:vs=[.ref A.x,.bl b,f])(h:SrAt C A t cs S H)(d:nc H o f)(hc:∀c∈cs,ap t.length c)(ht:t.length<=18)(hcs:cs.length<=900)(hb:S.bs.length<=18)(e:S.fs.length<=18)(q:∀a,SrAt C A t cs (d_ b o S) a->Mv A H a->Q .non a)
theorem paired_len{a b:Type}{R:a->b->Prop}{A:ab a}{B:ab b}(h:Paired R A B):A.length=B.length:=by
 induction h with
 |nil=>rfl
 |cons _ _ i=>simp_all
theorem dj{d c:Type}{R:d->c->Prop}{A:ab d}{B:ab c}(h:Paired R A B):∀{i:Nat} {b:c},B[i]?=gV b->∃a,A[i]?=gV a/\R a b:=by
 induction h with
 |nil=>intro i b e;simp at e
 |cons r _ I=>
  intro i b e;cases i with
  |zero=>
   simp_all
  |succ i=>
   simp_all
theorem mZ{c d:Type}{R:c->d->Prop}{A:ab c}{B:ab d}{a:c}{b:d}(h:Paired R A B)(r:R a b):Paired R (A++[a]) (B++[b]):=by
 induction h with
 |nil=>exact .cons r .nil
 |cons e _ i=>exact .cons e i
theorem gW{xs:ab V}{y:V}(h:xs[xs.length-1]?=gV y):kn xs (-1)=gV y:=by
 have H:0<xs.length:=by
  have:=(N'.mp h).1;lia
 unfold kn Iw;rw[PM (by decide),PP<|by lia];rwa[show(-1+(xs.length:Int)).toNat=xs.length-1 by lia]
inductive Jg (h:Hp)(D:C')(z:Int)(os:ab (M'<|ab Int))(i:Nat)(a:St)(ys:ab V)(H:Hp):Prop
 |mk (v:M' V)(h0:a=[v,gV (.int z)])(b:H D=gV (.lst ys))(c:Same h H)(d:iY H ((os.take i).map λo=>yU o z) ys)
theorem Eg(F:Fun K "fill_in" "Searcher.fill_in" Ed f fd)(T:qr K mg CS)(aC:Fe P w K mg M 1 "literal_by" yT)(ba:Fe P w K mg M 1 "rest_behind" sS):ay P w K mg M aV 2 f fd ["self","value","first"] (nM CS):=by
 refine F.okB (N:=["self","value","first","literal"]) λQC A aF s H vs Q E sc hr h=>?_;obtain⟨B,t,cs,S,b,fv,o,rfl,h,ho,hc,ht,bb,bc,bf,q⟩:=h;have N:=h.nes;obtain⟨j,hf,am⟩:=h.f;have bg:=paired_len am;refine⟨_,(ae (sT 3<|wM aC hr<|kh (cN BI (aR dq rfl T.len R9 gg) cF)<|pv 1)
  (ae gg
  (ae gg
  (au<|cG<|fJ QD Ra Ri cK gg<|gT<|jR ["rest","literal"] [Pt,gV 3]<|aO gg)))),?_⟩
 exists _,rfl,B.x,CS,B.dx,_,_,rfl,h.hx,T.cl,T.nB,rfl,.ref B.b,_,rfl,.inl ⟨_,SqL.of h.b,rfl⟩,_,_,rfl,rfl,_,rfl,_,b,rfl;rw[A'];generalize hz:(if b=Pn then((S.bs.length:Nat):Int)+1 else -(((S.bs.length:Nat):Int)+1))=z;exists _,rfl,B.x,CS,B.dx,_,_,rfl,h.hx,T.cl,T.nB,rfl,.inl ⟨rfl,_,SqL.of h.b⟩,_,rfl,B.b,_,_,rfl,rfl,h.b,ak (by rw[A'];lia);have oB:B.own B.b:=.inr<|.inl rfl;have oF:B.own B.f:=.inr<|.inr<|.inl rfl;have oR:B.own B.r:=.inr<|.inr<|.inr<|.inl rfl;have U:B.x≠B.b:=bi h.hx h.b (by simp);have an:B.x≠B.f:=bi h.hx hf (by simp);have m1:Mv B H (upd H B.b<|.lst<|S.bs.map V.bl++[.bl b]):=(Mv.of<|Same.refl H).upd oB _;have Xr:∀a u,H a=gV u->a≠B.b->upd H B.b (.lst<|S.bs.map V.bl++[.bl b]) a=gV u:=λa u e n=>by rw[af n];exact e
 have s1:=@aa H B.b (.lst<|S.bs.map V.bl++[.bl b]);generalize upd H B.b (.lst<|S.bs.map V.bl++[.bl b])=H1 at m1 Xr s1 ⊢;have aL:=Xr _ _ h.hx U;have as:=Xr _ _ hf<|Q1 N.bf;exists _,rfl,B.x,CS,B.dx,_,_,rfl,aL,T.cl,T.nF,rfl,.inl ⟨rfl,_,SqL.of as⟩,_,rfl,B.f,_,_,rfl,rfl,as,ak (by lia);have m2:Mv B H (upd H1 B.f<|.lst<|j++[fv]):=m1.upd oF _;have Vh:∀a u,H a=gV u->a≠B.b->a≠B.f->upd H1 B.f (.lst<|j++[fv]) a=gV u:=λa u e n n2=>by rw[af n2];exact Xr a u e n
 have s2:=@aa H1 B.f (.lst<|j++[fv]);have W:upd H1 B.f (.lst<|j++[fv]) B.b=gV (.lst<|S.bs.map V.bl++[.bl b]):=by rw[af N.bf];exact s1
 generalize upd H1 B.f (.lst<|j++[fv])=H2 at m2 Vh s2 W ⊢;have k2:=h.tups m2;have WA:=Vh _ _ h.hx U an;obtain⟨r,Zd,X⟩:=h.r;have J:=Vh _ _ Zd (Q1 N.br)<|Q1 N.fr;have a0:=X.mono m2 k2;have a1:=X.len;have X':r[r.length-1]?=gV (r.getD (r.length-1) .non):=getD_some (by simp_all);obtain⟨a,ws,ev,Y,bk,ac⟩:=a0.at_ _ _ X';rw[ev]at X';rw[show r.length-1=S.bs.length by lia,PJ<|Po _]at ac;have bl:=paired_len ac;have bm:(bV t cs S.bs).length=cs.length:=A' _;refine⟨_,rfl,B.x,CS,B.dx,_,_,rfl,WA,T.cl,T.nR,rfl,.inl ⟨rfl,_,SqL.of J⟩,_,rfl,B.x,CS,B.dx,_,_,rfl,WA,T.cl,T.nR,rfl,_,rfl,(fY J (gW X') ⟨a,rfl,⟨_,SqL.of Y⟩,λD nD=>?_⟩)⟩;have br:a≠D:=ag Y nD;have av:¬B.taken D:=λZ=>by
  obtain(Z|Z|Z|Z|⟨y,Z|Z⟩)|Z:=Z
  ·simp_all
  ·simp_all
  ·simp_all
  ·lia
  ·obtain⟨vs,e,R⟩:=h.l y;rw[Z,Vh _ _ e (N.lb y)<|N.lf y]at nD;cases nD
  ·obtain⟨D',e,R⟩:=h.d y;rw[Z,Vh _ _ e (bi e h.b<|by intro z;cases z)<|bi e hf<|by intro z;cases z]at nD;cases nD
  obtain⟨n,o,e⟩:=h.far _ Z;rw[m2 _ _ n e]at nD;cases nD
 refine bQ (K:=K) (a:=a) (xs:=ws) (Jg H2 D z<|bV t cs S.bs) ⟨Pt,rfl,aa,ad nD _,.nil⟩ ?_ ?_ ?_
 ·rintro i σ ys p R ⟨R,R,i1,I,R⟩;exact⟨i1,SqL.of<|I _ _ Y⟩
 ·rintro i x σ ys p hx ⟨v0,rfl,i1,I,i3⟩;obtain⟨oi,d,a2⟩:=dj ac hx;have Wy:=(N'.mp d).1;have a3:=paired_len i3;rw[A',P9]at a3;have a4:∀c,oi=gV c->c.length<=60:=λc e=>by
   unfold bV at d;rw[PN]at d;cases g:cs[i]? with
   |none=>simp_all
   |some c0=>
    rw[g]at d;have m:cJ S.bs (ao t Pr c0)=gV c:=(PZ d).trans e;unfold cJ at m
    split at m
    ·cases m
    rw[<-PZ m];have h1:=Qx (λl=>decide ((S.bs.length:Int)<absI l))<|ao t Pr c0;have h2:=bx<|gS (t:=t) (w:=Pr)<|hc c0<|Pq g;lia
  refine cy ⟨_,rfl,_,rfl,x,oi,z,rfl,(TupS.of I).opt a2,a4,λv' H4 L a5=>?_⟩;have C:=L _ _ i1;have tk:TupS H4 (upd H4 D<|.lst<|ys++[v']):=λb' a6 e=>by rw[af λZ=>by simp_all];exact e
  exists C,ak (by lia),_,rfl,aa,(I.trans L).upd_new nD _;rw[Qb,d,P6];exact mZ (((TupS.of L).trans tk).opts i3)<|tk.opt a5
 rintro σ ys p ⟨R,R,i1,I,i3⟩;rw[PJ<|by simp_all]at i3;have bs:=I _ _ WA;have az:=I _ _ J;exists B.r,r,_,rfl,rfl,az,ak (by lia);have m4:Mv B H (upd p B.r<|.lst<|r++[.ref D]):=(m2.trans<|.of I).upd oR _;have O:∀a u,H a=gV u->a≠B.b->a≠B.f->a≠B.r->upd p B.r (.lst<|r++[.ref D]) a=gV u:=λa u e n n2 n3=>by rw[af n3];exact I _ _<|Vh a u e n n2
 have L:=h.tups m4;have a7:D≠B.r:=λZ=>(by lia);have C:upd p B.r (.lst<|r++[.ref D]) D=gV (.lst ys):=by rw[af a7];exact i1
 have tk:TupS p (upd p B.r<|.lst<|r++[.ref D]):=λb' a6 e=>by rw[af λZ=>by simp_all];exact e
 have sr:=@aa p B.r (.lst<|r++[.ref D]);have sb:upd p B.r (.lst<|r++[.ref D]) B.b=gV (.lst<|S.bs.map V.bl++[.bl b]):=by rw[af N.br];exact I _ _ W
 have sf:upd p B.r (.lst<|r++[.ref D]) B.f=gV (.lst<|j++[fv]):=by rw[af N.fr];exact I _ _ s2
 generalize upd p B.r (.lst<|r++[.ref D])=H4 at m4 O L C tk sr sb sf ⊢;refine q H4 (h.make (S':=d_ b o S) m4 ?_ ?_ ?_ ?_ ?_ ?_ h.good h.len) m4
 ·exact O _ _ h.hx U an (by lia)
 ·intro y;obtain⟨vs,G,m⟩:=h.l y;exact⟨vs,O _ _ G (N.lb y) (N.lf y)<|N.lr y,L.goods (h.good y) m⟩
 ·intro y;obtain⟨D',G,m⟩:=h.d y;exact⟨D',O _ _ G (bi G h.b<|by simp) (by lia) (by lia),m⟩
 ·show H4 B.b=gV (.lst<|(S.bs++[b]).map V.bl)
  rw[P6];exact sb
 ·exact⟨_,sf,mZ (L.opts am)<|L.opt ho⟩
 refine⟨_,sr,?_,λk v hk=>?_⟩
 ·show(r++[V.ref D]).length=(S.bs++[b]).length+1
  simp_all
 by_cases g:k<r.length
 ·rw[PL g]at hk;obtain⟨a',a8,G,m,e3,e4⟩:=(X.mono m4 L).at_ k v hk;exists a',a8,G,m,e3;have:(d_ b o S).bs.take k=S.bs.take k:=R7 (by lia);simp_all
 rw[PV<|by simp_all]at hk;have a9:k=r.length:=by
  grind
 subst a9;rw[QO]at hk;cases hk;exists D,ys,rfl,C,av;have G:(d_ b o S).bs.take r.length=S.bs++[b]:=PJ (by show(S.bs++[b]).length<=_;simp_all);rw[G];have m:(bV t cs S.bs).map (λo=>yU o z)=bV t cs (S.bs++[b]):=by
  unfold bV;rw[Qm];refine UW λc Xy=>?_;rw[<-hz];exact A2<|gS<|hc c Xy
 rw[<-m];exact tk.opts i3
noncomputable abbrev Eh:QW:=cO (bS 86) 5
inductive sU (C:C')(vs:ab V)(H:Hp)(Q:VK)(E:XK):Prop
 |mk (A:SA)(t:Str)(cs:ab (ab Int))(S:SS)(hw:Px)(u:V)(c:ab Int)(h0:vs=[.ref A.x,.str<|aq hw,u])(h:SrAt C A t cs S H)(b:CL H c u)(T:pC t cs hw c S)(hc:∀c∈cs,ap t.length c)(ht:t.length<=18)(hcs:cs.length<=900)(hn:cC S+2*pend S.fs<=8800)(q:∀a,SrAt C A t cs (fU t hw S.bs.length c S) a->Mv A H a->Q .non a)
inductive Ei (C:C')(A:SA)(t:Str)(cs:ab (ab Int))(hw:Px)(R:SS)(H:Hp)(m:Nat)(b:St)(a:Hp):Prop
 |mk (c:ab Int)(S:SS)(u:V)(v d e:M' V)(h0:b=[gV<|.ref A.x,gV<|.str<|aq hw,gV u,v,d,e])(h:SrAt C A t cs S a)(hm:Mv A H a)(f:CL a c u)(T:pC t cs hw c S)(k:S.bs.length=m)(hn:cC S+2*pend S.fs<=8800)(g:fU t hw m c S=R)
theorem ND(b:∀R,R p H->T a H R)(c:∀R,R q H->d a H R)(h:if(p || q)=Pn then t D a H else u D a H):JT (OZ T d) t u D a H:=by
 refine b _ ?_;cases p with
 |true=>exact ar h
 |false=>exact al<|c _ h
section
variable {S:SS}
theorem SrAt.pop(h:SrAt M A t C S H)(hk:S.bs.length=k+1)(q:H A.f=gV (.lst F))(Z:iY H S.fs F)(D:H A.r=gV (.lst s))(c:Rsts A t C S.bs H s):
  SrAt M A t C (b9 S) (upd (upd (upd H A.b<|.lst (S.bs.map V.bl).dropLast) A.f<|.lst F.dropLast) A.r<|.lst s.dropLast)/\Mv A H (upd (upd (upd H A.b<|.lst (S.bs.map V.bl).dropLast) A.f<|.lst F.dropLast) A.r<|.lst s.dropLast):=by
 have N:=h.nes;have O:A.own A.b:=.inr<|.inl rfl;have P:A.own A.f:=.inr<|.inr<|.inl rfl;have Q:A.own A.r:=.inr<|.inr<|.inr<|.inl rfl;have m:Mv A H (upd (upd (upd H A.b<|.lst (S.bs.map V.bl).dropLast) A.f<|.lst F.dropLast) A.r<|.lst s.dropLast):=(((Mv.of<|Same.refl H).upd O _).upd P _).upd Q _;have p:∀a u,H a=gV u->a≠A.b->a≠A.f->a≠A.r->upd (upd (upd H A.b<|.lst (S.bs.map V.bl).dropLast) A.f<|.lst F.dropLast) A.r (.lst s.dropLast) a=gV u:=λa u e T U X=>by rwa[af X,af U,af T]
 have I:=@aa (upd (upd H A.b<|.lst (S.bs.map V.bl).dropLast) A.f<|.lst F.dropLast) A.r (.lst s.dropLast);have w:upd (upd (upd H A.b<|.lst (S.bs.map V.bl).dropLast) A.f<|.lst F.dropLast) A.r (.lst s.dropLast) A.f=gV (.lst F.dropLast):=by rw[af N.fr];exact aa
 have J:upd (upd (upd H A.b<|.lst (S.bs.map V.bl).dropLast) A.f<|.lst F.dropLast) A.r (.lst s.dropLast) A.b=gV (.lst (S.bs.map V.bl).dropLast):=by rw[af N.br,af N.bf];exact aa
 generalize upd (upd (upd H A.b<|.lst (S.bs.map _).dropLast) A.f<|.lst _) A.r (.lst _)=o at m p I w J ⊢;have x:=h.tups m;refine⟨h.make m ?_ ?_ ?_ ?_ ?_ ?_ h.good h.len,m⟩
 ·exact p _ _ h.hx (bi h.hx h.b<|by simp) (bi h.hx q<|by simp) (bi h.hx D<|by simp)
 ·intro y;obtain⟨g,E,i⟩:=h.l y;exact⟨g,p _ _ E (N.lb y) (N.lf y)<|N.lr y,x.goods (h.good y) i⟩
 ·intro y;obtain⟨D',E,i⟩:=h.d y;exact⟨D',p _ _ E (bi E h.b<|by simp) (bi E q<|by intro z;cases z) (bi E D<|by intro z;cases z),i⟩
 ·show o A.b=gV (.lst<|S.bs.dropLast.map _)
  simp_all
 ·exists _,w;show iY o _ _
  have L:=x.opts Z;have G:∀{os:ab _} {g:ab V},Paired (nc o) os g->Paired _ os.dropLast g.dropLast:=λ{os g} hp=>by
   induction hp with
   |nil=>exact .nil
   |cons r t ih=>
    cases t with
    |nil=>exact .nil
    |cons r' t'=>exact .cons r ih
  exact G L
 have ac:=c.len;have Y:=c.mono m x;refine⟨_,I,?_,λj v B=>?_⟩
 ·show s.dropLast.length=S.bs.dropLast.length+1
  simp_all
 have n:=(N'.mp B).1;rw[Q_]at n;rw[VG,PP n]at B;obtain⟨a',W,E,i,e3,e4⟩:=Y.at_ j v B;exists a',W,E,i,e3;have:(b9 S).bs.take j=S.bs.take j:=by
  show S.bs.dropLast.take j=_
  rw[VU]
  grind
 simp_all
end
theorem Ej(F:Fun K "turn_back" "Searcher.turn_back" Eh f fd)(T:qr K mg C)(bt:tV P w K mg L aV 2 C "fill_in" g1 e1 ["self","value","first"] (nM C))(b0:tV P w K mg L aV 5 C "learn_join" g2 e2 ["self","hand","first","second","variable"] (sR C)):ay P w K mg L aV 6 f fd ["self","hand","literals"] (sU C):=by
 refine F.okB (N:=["self","hand","literals","variable","value","first"]) λQC A aF s H vs Q E sc hr h=>?_;obtain⟨B,t,cs,S0,d,u0,c0,rfl,h0,aL,T0,hc,ht,a0,a1,q⟩:=h;obtain⟨R,O⟩:∃R,R=fU t d S0.bs.length c0 S0:=⟨_,rfl⟩;rw[<-O]at q;refine⟨_,(ae (iH Rc (kj gg λ_=>rfl)
   (ae (sT 3<|aR dq rfl T.len R9 gg)
   (ae gg
   (ae gg
   (ae gg
   (au (bu gg (ae (bu gg (ae gg
     (au FT)) aK)
    gg) aK)))))))
  gg),?_⟩
 exists Ei C B t cs d R H,⟨S0.bs.length,c0,S0,u0,Pt,Pt,Pt,rfl,h0,.of<|Same.refl _,aL,T0,rfl,a1,O.symm⟩;clear O;rintro m σ i ⟨c,S,u,v3,v4,v5,rfl,h,hm,a2,TI,l,hn,D⟩;have N:=h.nes;have b1:=TI.I.blen;exists _,rfl,B.x,C,B.dx,_,_,rfl,h.hx,T.cl,T.nB,rfl,!(S.bs.map V.bl).isEmpty,.inl ⟨_,SqL.of h.b,rfl⟩;cases m with
 |zero=>
  have a3:S.bs=[]:=Wh l;rw[a3];refine al ?_;exists _,rfl,_,rfl,B.x,C,B.dx,_,rfl,h.hx,T.cl,T.nW,(by show 7<1000;simp);have ox:B.own B.x:=.inl rfl;have mm:Mv B H (upd i B.x<|.ins C B.dx<|fZ "winner" (.str<|aq d)<|vh B<|sQ S.win):=hm.upd ox _;have m1:Mv B i (upd i B.x<|.ins C B.dx<|fZ "winner" (.str<|aq d)<|vh B<|sQ S.win):=(Mv.of<|Same.refl i).upd ox _;have kk:=h.tups m1;have p:∀a o,i a=gV o->a≠B.x->upd i B.x (.ins C B.dx<|fZ "winner" (.str<|aq d)<|vh B<|sQ S.win) a=gV o:=λa o e n=>by rw[af n];exact e
  refine q _ ?_ mm;rw[<-D];show SrAt C B t cs {S with win:=gV d} _
  obtain⟨b,hf,v⟩:=h.f;obtain⟨g,Zd,G⟩:=h.r;refine h.make (S':={S with win:=gV d}) m1 ?_ ?_ ?_ ?_ ?_ ?_ h.good h.len
  ·rw[aa];rfl
  ·intro y;obtain⟨vs,e1,e2⟩:=h.l y;exact⟨vs,p _ _ e1 (bi e1 h.hx<|by simp),kk.goods (h.good y) e2⟩
  ·intro y;obtain⟨D',e1,e2⟩:=h.d y;exact⟨D',p _ _ e1 (bi e1 h.hx<|by simp),e2⟩
  ·exact p _ _ h.b (bi h.b h.hx<|by simp)
  ·exact⟨b,p _ _ hf (bi hf h.hx<|by simp),kk.opts v⟩
  ·exact⟨g,p _ _ Zd (bi Zd h.hx<|by simp),G.mono m1 kk⟩
 |succ k=>
  have Wi:(!(S.bs.map V.bl).isEmpty)=true:=by
   cases e:S.bs with
   |nil=>simp_all
   |cons x r=>rfl
  rw[Wi];refine ar ⟨λac H'=>∃m',m'<k+1/\Ei C B t cs d R H m' ac H',λac H' z=>z,?_⟩;have a4:=λb g=>h.pop (F:=b) (s:=g) l;obtain⟨b,hf,v⟩:=h.f;obtain⟨g,Zd,G⟩:=h.r;obtain⟨j,U⟩:=a4 b g hf v Zd G;have b2:=paired_len v;have a5:=TI.I.flen;have b3:=G.len;exists _,rfl,B.x,C,B.dx,_,_,rfl,h.hx,T.cl,T.nB,rfl,.ref B.b,_,rfl,.inl ⟨_,SqL.of h.b,rfl⟩;have a6:(S.bs.map V.bl)[(S.bs.map V.bl).length-1]?=gV (.bl<|S.bs.getD k Pr):=by
   rw[A',l,Vk,PN,getD_some (d:=Pr)<|by lia];rfl
  exists _,rfl,B.x,C,B.dx,_,_,rfl,h.hx,T.cl,T.nB,rfl,.inl ⟨rfl,_,SqL.of h.b⟩,B.b,_,_,rfl,rfl,h.b,a6;have a7:B.x≠B.b:=bi h.hx h.b (by simp);have a8:B.x≠B.f:=bi h.hx hf (by simp);have am:upd i B.b (.lst (S.bs.map V.bl).dropLast) B.x=gV (.ins C B.dx<|vh B<|sQ S.win):=by rw[af a7];exact h.hx
  have an:upd i B.b (.lst (S.bs.map V.bl).dropLast) B.f=gV (.lst b):=by rw[af<|Q1 N.bf];exact hf
  have a9:upd i B.b (.lst (S.bs.map V.bl).dropLast) B.r=gV (.lst g):=by rw[af<|Q1 N.br];exact Zd
  have as:=getD_some (d:=V.non) (show k<b.length by lia);have av:b[b.length-1]?=gV (b.getD k .non):=by rw[show b.length-1=k by lia];exact as
  obtain⟨ok,ba,W⟩:=dj v as;have I:S.fs.getD k Pt=ok:=by rw[B',ba];rfl
  generalize b.getD k .non=fv at av W;exists _,rfl,B.x,C,B.dx,_,_,rfl,am,T.cl,T.nF,rfl,.inl ⟨rfl,_,SqL.of an⟩,B.f,_,_,rfl,rfl,an,av;have WA:upd (upd i B.b<|.lst (S.bs.map V.bl).dropLast) B.f (.lst b.dropLast) B.x=gV (.ins C B.dx<|vh B<|sQ S.win):=by rw[af a8];exact am
  have az:upd (upd i B.b<|.lst (S.bs.map V.bl).dropLast) B.f (.lst b.dropLast) B.r=gV (.lst g):=by rw[af<|Q1 N.fr];exact a9
  exists _,rfl,B.x,C,B.dx,_,_,rfl,WA,T.cl,T.nR,rfl,.inl ⟨rfl,_,SqL.of az⟩,B.r,_,_,rfl,rfl,az,getD_some (d:=V.non) (by lia);have tk:=h.tups U;generalize upd (upd (upd i B.b<|.lst (S.bs.map V.bl).dropLast) B.f<|.lst b.dropLast) B.r (.lst g.dropLast)=H2 at j U tk ⊢;have X:=hm.trans U;obtain⟨M,rfl,Q7⟩:=tk.cl a2;have lb:(b9 S).bs.length=k:=by show S.bs.dropLast.length=k;rw[Q_,l];rfl
  have lf:(b9 S).fs.length=k:=by show S.fs.dropLast.length=k;rw[Q_,a5,l];rfl
  have hz:(((S.bs.map V.bl).length:Nat):Int)=(k:Int)+1:=by rw[A',l];rfl
  rw[hz];have aC:∀y,(if Pr=Pn then !g_ (.int y) (c.map V.int)else g_ (.int y) (c.map V.int))=c.contains y:=λy=>by rw[PM Pk,bj]
  have bb:=vd TI.I l;have b4:cC (b9 S)=cC S:=rfl;dsimp only;refine ND (p:=c.contains<|(k:Int)+1) (q:=c.contains (-((k:Int)+1))) (λR r=>⟨_,rfl,_,rfl,M,_,rfl,.inr<|SqT.of Q7,rfl,bF _,_,rfl,by rw[aC];exact r⟩) (λR r=>⟨_,rfl,_,rfl,_,rfl,M,_,rfl,.inr<|SqT.of Q7,rfl,bF _,_,rfl,by rw[aC];exact r⟩) ?_;unfold fU at D;by_cases Y:(c.contains ((k:Int)+1) || c.contains (-((k:Int)+1)))=Pn
  ·rw[PP Y]at D;have bc:(k:Int)+1∈c\/ -((k:Int)+1)∈c:=by
    simp_all
   rw[Y];refine ar ?_;cases ok with
   |none=>
    rw[I]at D;have Z:d_ (!S.bs.getD k Pr) (gV c) (b9 S)=R:=D;have bf:fv=.non:=W;subst bf;exists _,rfl,rfl,_,rfl;rw[PB rfl];refine ar ?_;refine⟨_,rfl,B.x,B.dx,_,rfl,j.hx,rfl,_,rfl,_,rfl,_,rfl,B,t,cs,b9 S,!S.bs.getD k Pr,.ref M,gV c,rfl,j,⟨M,rfl,Q7⟩,hc,ht,a0,(by lia),(by lia),λH3 h3 m3=>?_⟩;rw[Z]at h3;exact q H3 h3<|X.trans m3
   |some F=>
    have J:=rf hc TI l bc I;rw[I]at D;have Z:fU t d k (ao t d<|bK F c<|(k:Int)+1) (bB t d (cB (S.ow d) F c<|(k:Int)+1) (bK F c<|(k:Int)+1)<|b9 S)=R:=D;obtain⟨tf,rfl,bg⟩:=tk.cl ‹_›;exists _,rfl,rfl,_,rfl;rw[Pu λz=>by cases z];refine al ?_;have bk:pend [gV F]=1:=rfl;rw[I,bk]at bb;have Sv:=fk (t:=t) (h:=d) (d:=cB (S.ow d) F c<|(k:Int)+1) (c:=bK F c<|(k:Int)+1) (S:=b9 S);have bl:=iX (t:=t) (h:=d) (d:=cB (S.ow d) F c<|(k)+1) (c:=bK F c<|(k)+1) (S:=b9 S);have bm:=fj (t:=t) (h:=d) (d:=cB (S.ow d) F c<|(k)+1) (c:=bK F c<|(k)+1) (S:=b9 S);refine⟨_,rfl,B.x,B.dx,_,rfl,j.hx,rfl,_,rfl,_,rfl,_,rfl,_,rfl,B,t,cs,b9 S,d,.ref tf,.ref M,F,c,(k)+1,rfl,j,⟨tf,rfl,bg⟩,⟨M,rfl,Q7⟩,J.mF,TI.mem,J.okF,J.okC,J.both,ht,(by lia),λa H3 h3 m3 ha=>?_⟩;refine⟨k,by simp,_,_,.ref a,_,_,_,rfl,h3,X.trans m3,⟨a,rfl,ha⟩,J.next,(Qq Q4 bm).trans lb,?_,Z⟩;exact(by lia:cC (bB t d (cB (S.ow d) F c<|(k)+1) (bK F c<|(k)+1)<|b9 S)+2*pend (bB t d (cB (S.ow d) F c<|(k)+1) (bK F c<|(k)+1)<|b9 S).fs<=8800)
  rw[PM Y]at D;have br:¬((k:Int)+1∈c\/ -((k:Int)+1)∈c):=λz=>by simp_all
  have bs:(c.contains ((k)+1) || c.contains (-((k)+1)))=false:=by
   simp_all
  rw[bs];exact al<|⟨k,by simp,c,b9 S,.ref M,_,_,_,rfl,j,X,⟨M,rfl,Q7⟩,rg hc TI l br,lb,by lia,D⟩
noncomputable abbrev yV:QW:=bS 16
noncomputable abbrev Jh:QW:=bS 85
def k_:Sp:=λv H Q _=>∃(l:Int) (f:C') (b:ab Px),v=[.int l,.ref f]/\H f=gV (.lst<|b.map V.bl)/\b.length<=900/\1<=absI l/\Q (cM b (absI l) (decide (0<l))) H
inductive sV (vs:ab V)(H:Hp)(Q:VK)(E:XK):Prop
 |mk (l t:C')(c k:ab Int)(h0:vs=[.ref l,.ref t])(h:H l=gV (.lst (c.map V.int)))(a:ki H t k)(q:Q (.bl (c.any λz=>k.contains z)) H)
inductive xg (vs:ab V)(H:Hp)(Q:VK)(E:XK):Prop
 |mk (p q b:C')(t:Str)(xs:ab V)(cs:ab (ab Int))(bs:ab Px)(h0:vs=[.ref p,.ref b])(d:H p=gV (.tup [.str t,.ref q]))(e:H q=gV (.lst xs))(f:CLs H cs xs)(g:H b=gV (.lst<|bs.map V.bl))(hc:∀c∈cs,ap t.length c)(ht:t.length<=18)(hb:bs.length<=18)(s:∀c∈cs,∃l∈c,cq Pn bs l=Pn)
  (i:∀a h,Same H h->ki h a (f_ t cs bs)->Q (.ref a) h):xg vs H Q E
theorem A3(f:1<=absI l):F0 K (cM B (absI l) (decide (0<l))) H (cq Pn B l):=by
 by_cases h:((B.length))<absI l
 ·rw[oQ h];exact fO (by omega)
 obtain⟨b,c,e⟩:=jk (B:=B) f (Int.le_of_not_gt h);rw[e];show cq Pn B l=(b == decide _)
 unfold cq;have d:B[(absI l-1).toNat]?=gV b:=by
  have r:(absI l-1).toNat<B.length:=by omega
  obtain⟨n,g⟩:∃n:Nat,absI l-1=(n):=⟨(absI l-1).toNat,by lia⟩;have a:n<B.length:=by simp_all
  have i:kn (B.map V.bl) (n)=gV _:=aE (by rw[PN,K' a];rfl);simp_all
 simp_all
inductive Ek (H:Hp)(l t:C')(c k:ab Int)(i:Nat)(a:St)(h:Hp):Prop
 |mk (v:M' V)(h0:a=[gV (.ref l),gV (.ref t),v])(b:h=H)(d:((c.take i).any λz=>k.contains z)=Pr)
inductive Ji (p b ch:C')(t:Str)(cs:ab (ab Int))(bs:ab Px)(H:Hp)(i:Nat)(a:St)(h:Hp):Prop
 |mk (v c d:M' V)(h0:a=[gV<|.ref p,gV<|.ref b,gV<|.ref ch,v,c,d])(e:h ch=gV (.lst<|((cs.take i).foldl (cr t bs) []).map V.int))(f:Same H h)
theorem A4(F:Fun K "stands_by" "stands_by" yV f i)(T:Bl m):ay P w K m B aV 1 f i ["literal","filling"] k_:=by
 refine F.okB (N:=["literal","filling","variable"]) λp A o s H v Q E r t h=>?_;obtain⟨l,g,a,rfl,d,u,j,q⟩:=h;refine⟨_,(ae gg
  (ae (bu gg (au eV) aK)
  gg)),?_⟩
 have k:decide (V.int (absI l)=V.int 0)=false:=by lia
 refine⟨_,rfl,l,rfl,_,rfl,.inl ⟨rfl,_,rfl,?_⟩⟩;show if decide (V.int (absI l)=V.int 0)=Pn then _ else _
 rw[k];refine al ⟨_,rfl,_,rfl,.ref g,_,rfl,.inl ⟨_,SqL.of d,rfl⟩,_,_,rfl,rfl,_,rfl,iA (λc=>?_) λc=>?_⟩
 ·have C:((a.length))<absI l:=by
   have z:=PX c;rwa[A']at z
  rwa[oQ C]at q
 have C:absI l<=((a.length)):=by
  rw[Qz,A']at c;exact zz.mp c
 obtain⟨b,n,e⟩:=jk j C;rw[e]at q;refine⟨_,rfl,_,rfl,_,_,rfl,rfl,(fY d n ⟨_,rfl,_,_,rfl,rfl,.inl ⟨rfl,?_⟩⟩)⟩;rwa[lM]
theorem El(F:Fun K "hits" "hits" sG f p):ay P w K M b aV 1 f p ["literals","clause"] sV:=by
 have B:=nI;refine F.okA nI λC A o s H D Q E G h=>?_;obtain⟨l,t,c,k,rfl,d,r,q⟩:=h;refine⟨_,(ae (fS 2 (aO<|pv 0) gg)
  (di gb)),⟨_,rfl,l,rfl,⟨_,SqL.of d⟩,cx (K:=K) (xs:=c.map V.int) (Ek H l t c k) ⟨Pt,rfl,rfl,rfl⟩ ?_ ?_ ?_⟩⟩
 ·rintro i j m Z ⟨Z,Z,rfl,Z⟩;exact SqL.of d
 ·rintro i x j m u ⟨v,rfl,rfl,a⟩;obtain⟨z,rfl,n⟩:=cn u;have e:(if Pr=Pn then !g_ (.int z) (k.map V.int)else g_ (.int z) (k.map V.int))=k.contains z:=by
   rw[PM Pk,bj]
  exists _,rfl,_,rfl,t,_,rfl,.inr<|SqT.of r,rfl,bF k,_,rfl;rw[e];cases g:k.contains z with
  |true=>
   have y:=P'.mpr ⟨z,Pq n,g⟩;rwa[y]at q
  |false=>
   refine al ⟨_,rfl,rfl,?_⟩;rw[Qb,n,Yq,a];show(k.contains z || Pr)=Pr
   rw[g];rfl
 rintro j m ⟨v,rfl,rfl,a⟩;rw[PJ<|by rw[A'];exact Po _]at a;rwa[a]at q
theorem Hx(F:Fun K "hitting_set" "hitting_set" Jh f fd)(T:Bl mg)(a6:Fe P w K mg j 1 "hits" sV)(ZI:Fe P w K mg j 1 "stands_by" k_)(z9:Fe P w K mg j 1 "hand_of" l_):ay P w K mg j aV 2 f fd ["sentence","begun"] xg:=by
 refine F.okB (N:=["sentence","begun","chosen","clause","standing","wishers"]) λQC A an s H vs Q E sc hr h=>?_;obtain⟨p,qa,b,t,xs,d,B,rfl,hp,hq,TQ,hb,N,ht,a7,W,q⟩:=h;have C:=eI (t:=t) W;refine⟨_,(ae gg
  (ae (fS 3 (aO gg) (au (bu gg (ae (K4 4 ["literal","begun"] [Pt,gV 1] (bT<|pv 3) (t:=λS S S S=>(dA<|AF (K:=K) rfl gg λS=>rfl)))
    (ae (K4 5 ["literal","sentence"] [Pt,gV 0]<|aO<|pv 4)
    (au<|cG<|fJ QD Ra PySem.F.type_list_append cK (pv 2)<|gT<|K1 (cN fK (pv 5)<|pv 4) cF))) aK)))
  (di<|aW bP rfl T.tuple Ro<|gT<|oV rfl T.sorted rfl T.abs<|pv 2))),?_⟩
 refine⟨P8 _,λO X=>?_⟩;have k1:=ad X<|.lst [];have s1:=cm k1;refine⟨_,rfl,(bA (k1 _ _ hp) rfl ⟨qa,rfl,⟨_,SqL.of<|k1 _ _ hq⟩,cx (K:=K) (a:=qa) (xs:=xs) (Ji p b O t d B H) ⟨Pt,Pt,Pt,rfl,s1,k1⟩ ?_ ?_ ?_⟩)⟩
 ·rintro i σ Y S ⟨S,S,S,S,S,k⟩;exact SqL.of<|k _ _ hq
 ·rintro i x σ Y m ⟨v3,v4,v5,rfl,I,G⟩;obtain⟨c,J,tc,rfl,Q7⟩:=(TQ.mono G).get m;have Xy:=Pq J;have v:=N c Xy;have a8:=bx v;have Wy:=(N'.mp J).1;have et:(d.take<|i+1).foldl (cr t B) []=cr t B ((d.take i).foldl (cr t B) []) c:=by
   rw[Qb,J,Sy];rfl
  have Ci:=my (t:=t) W i (QA Wy);have as:((d.take i).foldl (cr t B) []).length<=60:=by
   have M:∀a∈(d.take i).foldl (cr t B) [],∀o∈(d.take i).foldl (cr t B) [],absI a=absI o->a=o:=λa Z o u e=>by
    obtain⟨a1,c1,d1,f1⟩:=Ci.st a Z;obtain⟨a2,S⟩:=Ci.st o u;exact mx ((N c1<|Ss d1).2 a f1).1 a1 a2 e
   have av:(((d.take i).foldl (cr t B) []).map absI).Nodup:=by
    refine QU.mpr<|Ci.nd.imp_of_mem λ{x y} m hy Wi e=>Wi<|M x m y hy e
   have az:∀x∈((d.take i).foldl (cr t B) []).map absI,x∈(Qt 19).map (λn:Nat=>(n:Int)):=λx m=>by
    obtain⟨l,hl,rfl⟩:=Qe.mp m;obtain⟨S,c1,d1,f1⟩:=Ci.st l hl;have hr:=(N c1<|Ss d1).2 l f1;exact Qe.mpr ⟨(absI l).toNat,by grind,by lia⟩
   have:=qU av az;rw[A',A',QQ]at this;lia
  generalize (d.take i).foldl (cr t B) []=Ri at I et as;refine df ?_;exists _,rfl,_,rfl,O,tc,Ri,c,rfl,I,Q7,_,rfl;cases g:Ri.any λz=>c.contains z with
  |true=>
   refine al ⟨_,_,_,rfl,?_,G⟩;rw[et];unfold cr;rw[g,PP rfl];exact I
  |false=>
   refine ar ?_;refine⟨_,rfl,tc,rfl,⟨_,SqT.of Q7⟩,λD1 n1=>?_⟩;refine cg [gV<|.ref b] (Cv λl=>cq Pn B l) (λx=>x) rfl Q7 n1 (by rw[A'];lia) ?_ ?_ ?_
   ·intro x m H' R k r;obtain⟨z,hz,rfl⟩:=c_ m;exact⟨_,rfl,_,rfl,z,b,B,rfl,k _ _<|G _ _ hb,(by lia),(v.2 z hz).1,cq Pn B z,A3 (v.2 z hz).1,r⟩
   ·intro x m S H' R k r;exact⟨_,rfl,r⟩
   rw[dL _ (λl=>cq Pn B l) _ λi=>rfl];have j1:=ad n1<|.lst<|(cb B c).map V.int;have r1:=cm j1;refine(show∀U,Same Y U->U D1=gV (.lst<|(cb B c).map V.int)->nZ _ _ _ _ U from λU j1 r1=>?_) _ j1 r1;have aC:(cb B c).length<=18:=QF (Qx _ _) (QF a8 ht);refine⟨_,rfl,D1,rfl,⟨_,SqL.of r1⟩,λD2 n2=>?_⟩;refine cU [gV<|.ref p] (Cv λl=>cD t (absI l-1).toNat) (λx=>x) rfl r1 n2 (by rw[A'];lia) ?_ ?_ ?_
   ·intro x m H' R k r;obtain⟨z,hz,rfl⟩:=c_ m;have a9:=v.2 z (PQ.mp hz).1;have r':R (cD t (absI z-1).toNat) H':=r;refine⟨_,rfl,_,rfl,z,rfl,p,t,_,(absI z-1).toNat,(by rw[show(((absI z-1).toNat:Nat):Int)+1=absI z by lia];rfl),k _ _<|j1 _ _<|G _ _ hp,(by omega),(by lia),.inl ⟨rfl,_,rfl,?_⟩⟩;cases gw:cD t (absI z-1).toNat with
    |true=>
     rw[gw]at r';assumption
    |false=>
     rw[gw]at r';assumption
   ·intro x m S H' R k r;exact⟨_,rfl,r⟩
   rw[dL _ (λl=>cD t (absI l-1).toNat) _ λi=>rfl];have j2:=ad n2<|.lst<|((cb B c).filter λl=>cD t (absI l-1).toNat).map V.int;have r2:=cm j2;dsimp only;generalize upd U D2 (.lst<|((cb B c).filter λl=>cD t (absI l-1).toNat).map V.int)=H4 at j2 r2 ⊢;have ac:=(j1.trans j2) _ _ I;have aF:=j2 _ _ r1;have am:pF t B c=(((cb B c).filter λl=>cD t (absI l-1).toNat)++cb B c).headD 0:=rfl;have Wi:((cb B c).filter λl=>cD t (absI l-1).toNat)++cb B c≠[]:=by
    obtain⟨l,hl,hh⟩:=W c Xy;exact List.append_ne_nil_of_right_ne_nil _<|ZO<|PQ.mpr ⟨hl,hh⟩
   have ba:((cb B c).filter λl=>cD t (absI l-1).toNat).length<=18:=QF (Qx _ _) aC;refine⟨_,rfl,.inl ⟨rfl,_,SqL.of ac⟩,_,rfl,_,rfl,D2,D1,_,_,rfl,rfl,r2,aF,QA (ak<|by rw[A',A'];lia),λL n=>?_⟩;rw[<-P6];generalize ((cb B c).filter λl=>cD t (absI l-1).toNat)++cb B c=ps at am Wi;have j3:=ad n<|.lst<|ps.map V.int;have r3:=cm j3;have aL:kn (ps.map V.int) (0:Int)=gV (.int<|pF t B c):=by
    cases ps with
    |nil=>simp_all
    |cons y r=>rw[am];exact aE rfl
   refine(fY r3 aL ⟨O,_,_,rfl,rfl,j3 _ _ ac,ak (by rw[A'];lia),?_⟩);refine⟨_,_,_,rfl,?_,(G.trans<|j1.trans<|j2.trans j3).upd_new X _⟩;rw[aa,et];unfold cr;rw[g,PM Pk,P6];rfl
 rintro σ Y ⟨v3,v4,v5,rfl,I,G⟩;rw[PJ<|by rw[TQ.length];exact Po _]at I;have a0:Y O=gV (.lst<|(ik t d B).map _):=I;have M:∀a∈ik t d B,∀o∈ik t d B,absI a=absI o->a=o:=λa Z o u e=>by
  obtain⟨a1,c1,d1,f1⟩:=C.st a Z;obtain⟨a2,S⟩:=C.st o u;exact mx ((N c1 d1).2 a f1).1 a1 a2 e
 have a3:(ik t d B).length<64:=by
  have P1:=bx<|sP N W;have:(f_ t d B).length=(ik t d B).length:=(UV _ _).length_eq;lia
 refine⟨_,rfl,O,_,rfl,SqL.of a0,a3,λL5 r a4 D ho=>⟨L5,_,rfl,.inl ⟨SqL.of aa,λL6 a5=>?_⟩⟩⟩;have er:r=f_ t d B:=by
  refine kK (rX ho (D.nodup_iff.mpr C.nd) λa Z o u e=>M a (D.mem_iff.mp Z) o (D.mem_iff.mp u) e) (yR N W) λl=>?_;rw[fy];exact D.mem_iff
 subst er;exact q L6 _ (G.trans<|(ad a4 _).trans<|ad a5 _) aa
noncomputable abbrev Em:QW:=cO (bS 86) 6
noncomputable abbrev NE:QW:=cO (bS 86) 7
noncomputable def io:M' (ab Int)->PK
 |none=>.none
 |some c=>jw c
theorem Lr(h:nc H o v):RD H (io o) v:=by
 cases o with
 |none=>
  assumption
 |some c=>exact CL.rd h
theorem nN:∀{os:ab (M'<|ab Int)} {v:ab V},iY H os v->dy H (os.map io) v
 |_,_,.nil=>aG
 |_,_,.cons h t=>ah (Lr h)<|nN t
theorem lc:∀os:ab (M'<|ab Int),Rv (os.map io)=Pn
 |[]=>rfl
 |o::os=>by
  have h:(io o).canLay0=true:=by
   cases o with
   |none=>rfl
   |some c=>
    have:=jM [c];rw[Qf]at this;unfold Rv at this;rw[Qs]at this;exact this.1
  show Rv (io o::os.map io)=Pn
  unfold Rv;rw[h,lc os];rfl
theorem yW(o:M' (ab Int)):QG (io o) (.tuple [])=decide (o=gV []):=by
 cases o with
 |none=>
  rfl
 |some c=>
  show QG (jw c) _=_
  rw[jN];simp
theorem En(o:M' (ab Int)):QG (io o) .none=decide (o=Pt):=by
 cases o with
 |none=>
  rfl
 |some c=>
  rfl
theorem xh:(((bV t C b).map io).any λd=>QG d<|.tuple [])=C.any (cY t b):=by
 unfold bV;rw[Qm,Uh]
 congr 1
 funext c
 exact yW _
theorem xi:decide (((bV t C b).map io).countP (λd=>QG d .none)=C.length)=C.all λc=>decide (cJ b (ao t Pr c)=Pt):=by
 unfold bV;rw[Qm,Yf];have e:((λd=>QG d .none)∘io∘λc=>cJ b<|ao t Pr c)=λc=>decide (cJ b (ao t Pr c)=Pt):=by
  funext c
  exact En _
 rw[e,RE,Qz,List.countP_eq_length,Qv]
inductive sW (C:C')(vs:ab V)(H:Hp)(Q:VK)(E:XK):Prop
 |mk (A:SA)(t:Str)(cs:ab (ab Int))(S:SS)(h0:vs=[.ref A.x])(h:SrAt C A t cs S H)(L:kZ t cs S)(hc:∀c∈cs,ap t.length c)(ht:t.length<=9)(hcs:cs.length<=900)(q:∀a,SrAt C A t cs (gz t cs S) a->Mv A H a->Q .non a)
theorem A5{S:SS}(L:kZ t c S)(h:t.length<=9):cC S+2*pend S.fs<=4096:=by
 have H:=L.few;have a:=pG _ _ L.I.blen;have b:2^(t.length+1)<=2^10:=Tz (by decide) (Te h);lia
theorem Eo{S:SS}(L:kZ t C S)(l:aN t C h (S.ow h) d=gV c)(g:bd d)(H:ap t.length c)(a:AV h S.bs (ao t h c)):pC t C h (ao t h c) (bB t h d c S):=
 ⟨mo L.I l g,mq,by rwa[fj],jX H,hI.trans L.win,mw L.emp⟩
theorem Er(F:Fun K "look" "Searcher.look" Em f fd)(T:qr K mg n)(a7:Fe P w K mg b 2 "hitting_set" xg)(ac:tV P w K mg b aV 4 n "learn" W e2 ["self","hand","line","literals"] (iZ n))(ZH:tV P w K mg b aV 6 n "turn_back" g3 e3 ["self","hand","literals"] (sU n))(a8:tV P w K mg b aV 2 n "fill_in" g4 e4 ["self","value","first"] (nM n)):ay P w K mg b aV 7 f fd ["self"] (sW n):=by
 refine F.okB (N:=["self","rests","place","literals"]) λQC A aF s H vs Q E sc hr h=>?_;obtain⟨B,t,C,S,rfl,h,L,D,ht,G,q⟩:=h;have hu:=hr.units;have a9:=A5 L ht;obtain⟨r,Zd,am⟩:=h.r;have ba:=am.len;have bb:=L.I.blen;have bc:=L.I.flen;have X':r[r.length-1]?=gV (r.getD (r.length-1) .non):=getD_some (by simp_all);obtain⟨a,ws,ev,g,bf,o⟩:=am.at_ _ _ X';rw[ev]at X';rw[show r.length-1=S.bs.length by lia,PJ<|Po _]at o;have aL:=paired_len o;have an:(bV t C S.bs).length=C.length:=A' _;obtain⟨xs,as,I⟩:=h.hq;refine⟨_,(ae gg
  (au (bu (gi ((KG hu)) gg (pv 1)<|by rfl) (ae (sT 2<|fJ QD VO XH (qP hu) (pv 1) gg)
   (au<|cG<|iQ ZH (pv 0) hr (by simp)<|kh (bL rfl T.g_SPOILER)<|iQ ac (pv 0) hr (by simp)<|aM (bL rfl T.g_SPOILER) gg)) (au (bu (AI (h_ hu) (fJ QD YN PySem.F.type_list_count (AG hu) (pv 1)<|gT gG)<|aR dq rfl T.len R9<|gT<|pv 1) (ae gg
    (au<|cG<|iQ ZH (pv 0) hr (by simp)<|kh (bL rfl T.g_WISHER)<|iQ ac (pv 0) hr (by simp)<|aM (bL rfl T.g_WISHER) gg)) gg))))),?_⟩
 refine⟨_,rfl,B.x,n,B.dx,_,_,rfl,h.hx,T.cl,T.nR,rfl,_,rfl,(fY Zd (gW X') ?_)⟩;refine⟨P8 _,λet a0=>?_⟩;have e:=ad a0<|.tup [];have s1:=cm e;have v:=h.same e;generalize upd H et (.tup [])=H1 at e s1 v ⊢;refine⟨_,rfl,.tuple [],(bV t C S.bs).map io,bo s1 aG,gk (e _ _ g)<|nN<|(TupS.of e).opts o,by rfl,lc _,by decide+kernel,_,rfl,?_⟩;rw[xh];unfold gz at q;by_cases g1:C.any (cY t S.bs)=Pn
 ·rw[PP g1]at q;rw[g1];have X:C.findIdx (cY t S.bs)<C.length:=VH<|P'.mp g1;have hx:=getD_some (d:=([]:ab Int)) X;have av:∀j,j<C.length->QG (((bV t C S.bs).map io).getD j .none) (.tuple [])=cY t S.bs (C.getD j []):=λj hj=>by
   have:((bV t C S.bs).map io).getD j .none=io (cJ S.bs<|ao t Pr<|C.getD j []):=by
    rw[B'];unfold bV;rw[Qm,PN,getD_some (d:=([]:ab Int)) hj];rfl
   rw[this];exact yW _
  have J:cY t S.bs (C.getD (C.findIdx<|cY t S.bs) [])=true:=by
   have:=Y0 (w:=X) (p:=cY t S.bs) (xs:=C);rw[B',K' X];exact this
  refine ar ⟨_,rfl,.inl ⟨rfl,_,SqL.of<|e _ _ g⟩,P8 _,λe2 n2=>?_⟩;have Y:=ad n2<|.tup [];have s2:=cm Y;have u:=v.same Y;have Z:=e.trans Y;generalize upd H1 e2 (.tup [])=y at Y s2 u Z ⊢;refine⟨.tuple [],(bV t C S.bs).map io,_,a,ws,C.findIdx<|cY t S.bs,rfl,rfl,Z _ _ g,nN<|(TupS.of Z).opts o,bo s2 aG,by rfl,lc _,by decide+kernel,by rw[A',an];exact X,(av _ X).trans J,λm hm=>?_,?_⟩
  ·rw[av m<|by exact Nat.lt_trans hm X];have:=Ye hm;grind
  generalize C.findIdx (cY t S.bs)=i at q X hx J;have k:=D _<|Pq hx;obtain⟨tc,a1,Q7⟩:∃tc,xs[i]?=gV (.ref tc)/\ki y tc (C.getD i []):=by
   have a2:=(I.mono Z);have az:i<xs.length:=by have:=I.length;lia
   obtain⟨c',e1,e2,e3,e4⟩:=a2.get<|K' az;rw[hx]at e1;cases e1;exact⟨e2,by rw[K' az,e3],e4⟩
  refine⟨_,rfl,B.x,B.dx,_,rfl,u.hx,rfl,_,rfl,B.x,B.dx,_,rfl,u.hx,rfl,_,rfl,(by show 2<=sizeLine;decide),λga N=>?_⟩;have M:=ad N<|.tup [.str aT,.int (i:Int)];have s3:=cm M;have h3:=u.same M;have x:=Z.trans M;have Xs:aN t C Pr (S.ow Pr) (im i)=gV (C.getD i []):=by
   unfold im;rw[ij,PM Pk];unfold jQ;rw[gU (by lia),Qo];rfl
  have p:bd (im i):=.inl ⟨_,rfl⟩;have Sv:=fk (t:=t) (h:=Pr) (d:=im i) (c:=C.getD i []) (S:=S);have O:=iX (t:=t) (h:=Pr) (d:=im i) (c:=C.getD i []) (S:=S);have U:=fj (t:=t) (h:=Pr) (d:=im i) (c:=C.getD i []) (S:=S);refine⟨_,rfl,B.x,n,B.dx,_,_,rfl,h3.hx,T.cl,T.nS,rfl,(bA h3.hp rfl ⟨_,rfl,(fY (x _ _ as) (aE a1) ?_)⟩)⟩;refine⟨B,t,C,S,Pr,_,.ref tc,im i,C.getD i [],rfl,h3,bo s3<|ah (cR _)<|ah (ca _) aG,p,⟨tc,rfl,M _ _ Q7⟩,k,(by lia),(by lia),λla H4 h4 m4 Zy=>?_⟩;refine⟨B,t,C,_,Pr,.ref la,_,rfl,h4,⟨la,rfl,Zy⟩,Eo L Xs p k<|ve k J,D,(by lia),G,(by rw[O];lia),λH5 h5 m5=>?_⟩;rw[U]at h5;exact q H5 h5<|(Mv.of x).trans<|m4.trans m5
 have Yc:C.any (cY t S.bs)=false:=by
  lia
 rw[PM g1]at q;rw[Yc];refine al ?_;refine⟨_,rfl,.inl ⟨rfl,_,SqL.of<|e _ _ g⟩,.none,(bV t C S.bs).map io,_,a,ws,rfl,rfl,e _ _ g,nN<|(TupS.of e).opts o,yf,by rfl,lc _,by decide+kernel,?_⟩;refine⟨_,rfl,.ref a,_,rfl,.inl ⟨_,SqL.of<|e _ _ g,rfl⟩,.inl ⟨rfl,_,rfl,?_⟩⟩;have a3:decide (V.int ((((bV t C S.bs).map io).countP λd=>QG d .none:Nat):Int)=V.int (ws.length:Nat))=C.all λc=>decide (cJ S.bs (ao t Pr c)=Pt):=by
  rw[<-xi,<-aL,an];lia
 rw[a3];by_cases W:(C.all λc=>decide (cJ S.bs (ao t Pr c)=Pt))=Pn
 ·rw[PP W]at q;rw[W];have hs:∀c∈C,∃l∈c,cq Pn S.bs l=true:=λc Xy=>mY<|PX<|Qv.mp W c Xy;have k:=sP D hs;refine ar ?_;refine⟨_,rfl,B.x,n,B.dx,_,_,rfl,v.hx,T.cl,T.nS,rfl,_,rfl,B.x,n,B.dx,_,_,rfl,v.hx,T.cl,T.nB,rfl,B.p,B.q,B.b,t,xs,C,S.bs,rfl,v.hp,e _ _ as,I.mono e,v.b,D,(by lia),(by lia),hs,λz y Y a4=>?_⟩;have u:=v.same Y;have Z:=e.trans Y;refine⟨_,rfl,B.x,B.dx,_,rfl,u.hx,rfl,_,rfl,B.x,B.dx,_,rfl,u.hx,rfl,_,rfl,(by show 2<=sizeLine;decide),λga N=>?_⟩;have M:=ad N<|.tup [.str bH,.ref z];have s3:=cm M;have h3:=u.same M;have x:=Z.trans M;have aC:ki _ z (f_ t C S.bs):=M _ _ a4;have Xs:=vf D hs<|S.ow Pn;have p:bd (mW<|f_ t C S.bs):=.inr<|.inl ⟨_,by have:=bx k;lia,rfl⟩;have Sv:=fk (t:=t) (h:=Pn) (d:=mW<|f_ t C S.bs) (c:=f_ t C S.bs) (S:=S);have O:=iX (t:=t) (h:=Pn) (d:=mW<|f_ t C S.bs) (c:=f_ t C S.bs) (S:=S);have U:=fj (t:=t) (h:=Pn) (d:=mW<|f_ t C S.bs) (c:=f_ t C S.bs) (S:=S);refine⟨_,rfl,?_⟩;refine⟨B,t,C,S,Pn,_,.ref z,mW<|f_ t C _,f_ t C _,rfl,h3,bo s3<|ah (cR _)<|ah (CL.rd ⟨z,rfl,aC⟩) aG,p,⟨z,rfl,aC⟩,k,(by lia),(by lia),λla H4 h4 m4 Zy=>?_⟩;refine⟨B,t,C,_,Pn,.ref la,_,rfl,h4,⟨la,rfl,Zy⟩,Eo L Xs p k λl a5=>((eI hs).st l<|fy.mp (PQ.mp a5).1).1,D,(by lia),G,(by rw[O];lia),λH5 h5 m5=>?_⟩;rw[U]at h5;exact q H5 h5<|(Mv.of x).trans<|m4.trans m5
 have a6:(C.all λc=>decide (cJ S.bs (ao t Pr c)=Pt))=false:=by
  lia
 rw[PM W]at q;rw[a6];exact al<|⟨_,rfl,B.x,B.dx,_,rfl,v.hx,rfl,B,t,C,S,Pr,.non,Pt,rfl,v,rfl,D,(by lia),G,(by lia),(by lia),λy u m2=>q y u<|(Mv.of e).trans m2⟩
inductive Es (C:C')(vs:ab V)(H:Hp)(Q:VK)(E:XK):Prop
 |mk (A:SA)(t:Str)(cs:ab (ab Int))(S:SS)(n:Nat)(h0:vs=[.ref A.x,.int (n:Int)])(h:SrAt C A t cs S H)(L:kZ t cs S\/FO t cs S)(hc:∀c∈cs,ap t.length c)(ht:t.length<=9)(hcs:cs.length<=900)(q:∀a,SrAt C A t cs (tX t cs n S) a->Mv A H a->Q (.bl (tX t cs n S).win.isSome) a)
inductive OU (C:C')(A:SA)(t:Str)(cs:ab (ab Int))(n:Nat)(R:SS)(H:Hp)(m:Nat)(b:St)(a:Hp):Prop
 |mk (S:SS)(j:Nat)(h0:b=[gV<|.ref A.x,gV<|.int (n:Int),gV<|.int (j:Int)])(c:j+m=n)(h:SrAt C A t cs S a)(hm:Mv A H a)(L:kZ t cs S\/FO t cs S)(d:tX t cs m S=R)
theorem Hy{S:SS}(h:S.win.isSome=Pn):∀k,tX t c k S=S
 |0=>rfl
 |k+1=>by unfold tX;rw[PP h]
theorem Ls(F:Fun K "go" "Searcher.go" NE f O)(T:qr K M C)(U:tV P w K M d aV 7 C "look" g1 e1 ["self"] (sW C)):ay P w K M d aV 8 f O ["self","many"] (Es C):=by
 refine F.okB (N:=["self","many","looks"]) λQC A o s H vs Q E X hr h=>?_;obtain⟨B,t,c,r,n,rfl,Y,Z,u,ht,k,q⟩:=h;obtain⟨R,a⟩:∃R,R=tX t c n r:=⟨_,rfl⟩;rw[<-a]at q;refine⟨_,(ae gg
  (ae (iH Rc gg
   (ae gg
   (au<|JZ (i:=2) X.nd rfl (ZJ rfl) cF J0)))
  gg)),?_⟩
 exists OU C B t c n R H,⟨n,r,0,rfl,by simp,Y,.of<|Same.refl _,Z,a.symm⟩;rintro m σ v ⟨S,j,rfl,hj,h,D,L,l⟩;have G:S=R->FS (FW (λx y H Q=>y=V.non/\Q (V.bl !decide (x=V.non)) H) (J_ K (nX 0) _)<|tC _) {nx:=λ_ i=>Q .non i,rt:=Q} [gV<|.ref B.x,gV<|.int (n),gV<|.int (j)] v:=λe=>by
  exists _,rfl,B.x,C,B.dx,_,_,rfl,h.hx,T.cl,T.nW,rfl,rfl;rw[e]at h ⊢;have:=q v h D;cases b:R.win with
  |none=>rwa[b]at this
  |some I=>rwa[b]at this
 exists _,rfl,_,rfl,_,_,rfl,rfl,_,rfl;cases m with
 |zero=>
  rw[Pu<|by simp_all];exact al<|al<|G l
 |succ m=>
  rw[PB<|by lia];refine ar ⟨_,rfl,B.x,C,B.dx,_,_,rfl,h.hx,T.cl,T.nW,rfl,rfl,_,rfl,?_⟩;cases b:S.win with
  |some I=>
   exact al (G<|by rw[<-l,Hy<|by rw[b];rfl])
  |none=>
   have J:kZ t c S:=by
    obtain L|W:=L
    ·exact L
    obtain⟨I,e,_⟩:=W.hw;lia
   refine ar ⟨λg i=>∃N,N<m+1/\OU C B t c n R H N g i,λg i z=>z,⟨_,rfl,B.x,B.dx,_,rfl,h.hx,rfl,B,t,c,S,rfl,h,J,u,ht,k,λH2 h2 m2=>?_⟩⟩;have p:tX t c m (gz t c S)=R:=by
    rw[<-l];show _=if S.win.isSome=Pn then S else tX t c m _
    simp_all
   have Ln:=(vg u (by lia) J).imp (λz=>z.1) id;refine⟨_,rfl,_,_,rfl,rfl,m,by simp,gz t c S,j+1,?_,by lia,h2,D.trans m2,Ln,p⟩;simp
noncomputable abbrev Et:QW:=cO (bS 86) 0
def BtX(x:C')(H h:Hp):Prop:=∀b o,b≠x->H b=gV o->h b=gV o
theorem BtX.of(k:Same H h):BtX x H h:=λb o z e=>k b o e
theorem BtX.put(k:BtX x H a):BtX x H (upd a x o):=λb u h e=>by rw[af h];exact k b u h e
theorem BtX.trans(k:BtX x H c)(j:BtX x c h):BtX x H h:=λb u a e=>j b u a<|k b u a e
theorem BtX.free(k:BtX x H b)(h:b a=Pt)(n:a≠x):H a=none:=by
 cases e:H a with
 |none=>rfl
 |some o=>rw[k a o n e]at h;cases h
inductive sX (C:C')(vs:ab V)(H:Hp)(Q:VK)(E:XK):Prop
 |mk (x dx p q:C')(t:Str)(xs:ab V)(cs:ab (ab Int))(h0:vs=[.ref x,.ref p])(hx:H x=gV (.ins C dx []))(hp:H p=gV (.tup [.str t,.ref q]))(hq:H q=gV (.lst xs))(v:CLs H cs xs)(hc:∀c∈cs,ap t.length c)(ht:t.length<=9)(hcs:cs.length<=900)(F:C'->Prop)(b:∀a,F a->a≠x/\∃o,H a=gV o)
  (d:∀A h,A.x=x->A.far=F->SrAt C A t cs pH h->BtX x H h->(∀a,A.own a->a=x\/H a=Pt)->Q .non h):sX C vs H Q E
theorem Eu:gI [] [((Ut (PD "spoiler"):aJ),V.ref a),(Ut<|PD "wisher",V.ref A)]=jY λb=>if b=Pn then A else a:=by
 rfl
theorem Ev(k:∀h R,(∀p,h p=Pt->R (.ref p) (upd h p o))->T i h R)(m:∀h R,(∀p,h p=Pt->R (.ref p) (upd h p o))->t i h R)(q:∀d l h,Same H h->H d=Pt->(∀b,H (l b)=Pt)->l Pr≠l Pn->h d=gV (.dK<|jY l)->(∀b,h (l b)=gV o)->Q (.ref d) h):
  uh [(tC<|.str<|PD "spoiler",T),(tC<|.str<|PD "wisher",t)] i H Q:=by
 refine λdl n=>k _ _ λa c=>m _ _ λA N=>?_;have D:a≠dl:=λz=>by rw[z,aa]at c;cases c
 have f:A≠a:=λz=>by rw[z,aa]at N;cases N
 have g:A≠dl:=λz=>by rw[z,af λz=>D z.symm,aa]at N;cases N
 have F:H a=none:=by rwa[af D]at c
 have j:H A=none:=by rwa[af f,af g]at N
 exists by rw[af λz=>g z.symm,af λz=>D z.symm];exact aa,[(Ut<|PD _,.ref a),(Ut<|PD _,.ref A)],rfl,(by show 2<=15;decide);rw[Eu];refine q dl _ _ (λb u e=>?_) n (λb=>?_) (λz=>f z.symm) aa λb=>?_
 ·rwa[af<|ag e n,af<|ag e j,af<|ag e F,af<|ag e n]
 ·cases b
  ·exact F
  exact j
 cases b
 ·show upd _ dl _ a=_
  rw[af D,af λz=>f z.symm];exact aa
 show upd _ dl _ A=_
 rw[af g];exact aa
theorem vn{K:J'}{f:Str}{B:TS}{D:hH}(i:∀h R,(∀p,h p=Pt->R (.ref p) (upd h p o))->T c h R)(j:∀h R,(∀p,h p=Pt->R (.ref p) (upd h p o))->t c h R)(q:∀d l h,Same H h->H d=Pt->(∀b,H (l b)=Pt)->l Pr≠l Pn->h d=gV (.dK<|jY l)->(∀b,h (l b)=gV o)->
  nX 0 c h λx e=>∃a C g F,x=.ref a/\e a=gV (.ins C g F)/\Cls K C/\NoAttr K C f/\F.length<1000/\B D c (upd e a<|.ins C g<|fZ f (.ref d) F)):
  nZ (Ka K (nX 0) (uh [(tC<|.str<|PD "spoiler",T),(tC<|.str<|PD "wisher",t)]) f) B D c H:=by
 unfold nZ Ka;exact Ev i j q
theorem pI:∀{a:ab (ab Int)} {v:ab V},CLs H a v->iY H (a.map gV) v
 |_,_,.nil=>.nil
 |_,_,.cons h t=>.cons h<|pI t
inductive Jj (x D:C')(t:Str)(cs:ab (ab Int))(h:Hp)(i:Nat)(a:St)(ys:ab V)(H:Hp):Prop
 |mk (v:M' V)(h0:a=[v,gV (.ref x)])(b:H D=gV (.lst ys))(d:Same h H)(e:CLs H ((cs.take i).map λc=>ao t Pr c) ys)
theorem xj(h:ap n c):cJ [] c=gV c:=by
 unfold cJ;rw[PM (λz=>by obtain⟨l,y,e⟩:=P'.mp z;cases e)]
 congr 1
 refine Rq.mpr λl H=>?_;have:=(h.2 l H).1;rw[Qz];show(0)<absI l
 lia
theorem jZ{R:Hp->Prop}(h:H x=gV (.ins c d F))(l:Cls K c)(n:NoAttr K c f)(b:Y_ F.length 999=Pn)(q:∀G,BtX x H G->G x=gV (.ins c d<|fZ f v F)->R G):∃a C d' F,V.ref x=.ref a/\H a=gV (.ins C d' F)/\Cls K C/\NoAttr K C f/\F.length<1000/\R (upd H a<|.ins C d'<|fZ f v F):=
 ⟨x,c,d,F,rfl,h,l,n,aak<|Yx b,q _ (BtX.of<|Same.refl _).put aa⟩
theorem pJ(n:H a=Pt)(o:HO):∃G,upd H a o=G/\Same H G/\G a=gV o:=⟨_,rfl,ad n o,aa⟩
theorem BtX.tup(k:BtX x H h)(a:H x=gV (.ins C d f)):TupS H h:=λz z e=>k _ _ (by lia) e
theorem nw{H:Hp}(e:H b=gV o)(n:H a=Pt):a≠b:=Q1<|ag e n
theorem Ew(F:Fun K "__init__" "Searcher.__init__" Et f fd)(T:qr K mg CS)(WG:Fe P w K mg a2 3 "dropped" eE):ay P w K mg a2 aV 4 f fd ["self","sentence"] (sX CS):=by
 refine F.okB (N:=["self","sentence"]) λQC A b0 s H vs Q E sc hr h=>?_;obtain⟨x,dx,p0,q0,t,xs,cs,rfl,U,hp,hq,TQ,hc,ht,c3,Fr,W,q⟩:=h;refine⟨_,(ae (jJ (pv 0) (eD<|kh gg<|aW kr rfl T.list UZ gg) rfl)
  (ae (jJ (pv 0) (uX (bL rfl T.g_SPOILER) gg (bL rfl T.g_WISHER) gg) rfl)
  (ae (jJ (pv 0) (uX (bL rfl T.g_SPOILER) oA (bL rfl T.g_WISHER) oA) rfl)
  (ae gg
  (ae gg
  (ae (jJ (pv 0) (BX<|gT<|jR ["clause","self"] [Pt,gV 0] (aO gg) (e:=λV V V V=>(wM WG hr<|aM (GU (K:=K) rfl (pv 1) rfl)<|kh (bL rfl T.g_SPOILER)<|pv 0))) rfl)
  gg)))))),?_⟩
 refine⟨_,rfl,(bA hp rfl ⟨_,rfl,(bA hp rfl ⟨q0,xs,rfl,.inl<|SqL.of hq,λqa nq=>⟨(by show 2<=sizeLine;decide),λpa np=>?_⟩⟩)⟩)⟩;obtain⟨H0,e,j1,sq⟩:=pJ nq<|.lst xs;rw[e]at np ⊢;obtain⟨H1,e,j2,sp⟩:=pJ np<|.tup [.str t,.ref qa];rw[e];have N:=nw U nq;have X:=nw (j1 _ _ U) np;refine⟨_,rfl,jZ (j2 _ _<|j1 _ _ U) T.cl T.nS rfl λG j x1=>?_⟩;have q1:=j _ _ N<|j2 _ _ sq;have p1:=j _ _ X sp;replace j:=(BtX.of<|j1.trans j2).trans j;refine vn (o:=.lst []) (λH' R r=>⟨P8 _,r⟩) (λH' R r=>⟨P8 _,r⟩) λdl ll G1 k1 b2 Y b3 b4 b5=>?_;refine⟨_,rfl,jZ (k1 _ _ x1) T.cl T.nL rfl λG2 l x2=>?_⟩;have d:=λb=>nw x1<|Y b;have a3:=nw x1 b2;have b7:=l _ _ a3 b4;have a4:=λb=>l _ _ (d b)<|b5 b;replace l:=(BtX.of k1).trans l;refine vn (o:=.dT []) (λH' R r=>r) (λH' R r=>r) λdp pp G3 k3 cc ac cd ce cf=>?_;refine⟨_,rfl,jZ (k3 _ _ x2) T.cl T.nP rfl λG4 m x4=>?_⟩;have C:=λb=>nw x2<|ac b;have a5:=nw x2 cc;have ch:=m _ _ a5 ce;have a6:=λb=>m _ _ (C b)<|cf b;replace m:=(BtX.of k3).trans m;refine⟨P8 _,λba nb=>?_⟩;obtain⟨G5,e,k5,sb⟩:=pJ nb<|.lst [];rw[e];have p:=nw x4 nb;refine⟨_,rfl,jZ (k5 _ _ x4) T.cl T.nB rfl λG6 I x6=>?_⟩;have b6:=I _ _ p sb;replace I:=(BtX.of k5).trans I;refine⟨P8 _,λfa nf=>?_⟩;obtain⟨G7,e,k7,sf⟩:=pJ nf<|.lst [];rw[e];have am:=nw x6 nf;refine⟨_,rfl,jZ (k7 _ _ x6) T.cl T.nF rfl λG8 J x8=>?_⟩;have f8:=J _ _ am sf;replace J:=(BtX.of k7).trans J;have ck:p0≠x:=λz=>by simp_all
 have cl:q0≠x:=λz=>by simp_all
 have co:=m.trans<|I.trans J;have a7:=l.trans co;have B:=j.trans a7;have a8:=B _ _ cl hq;have cp:=a7 _ _ X p1;have ct:=(B.tup U).cls TQ;have c5:=TQ.length;refine⟨_,rfl,(bA (B _ _ ck hp) rfl ⟨q0,rfl,⟨_,SqL.of a8⟩,λD nD=>?_⟩)⟩;refine bQ (K:=K) (a:=q0) (xs:=xs) (Jj x D t cs G8) ⟨Pt,rfl,aa,ad nD _,.nil⟩ ?_ ?_ ?_
 ·rintro i σ ys H3 V ⟨V,V,i1,i2,V⟩;exact⟨i1,SqL.of<|i2 _ _ a8⟩
 ·rintro i y σ ys H3 hy ⟨v0,rfl,i1,i2,i3⟩;obtain⟨c,an,tc,rfl,Q7⟩:=(ct.mono i2).get hy;have a9:=hc c<|Pq an;have da:=bx a9;have Wy:=(N'.mp an).1;have cu:=i3.length;rw[A',P9]at cu;refine cy ⟨_,rfl,x,CS,dx,_,_,rfl,i2 _ _ x8,T.cl,T.nS,rfl,_,rfl,pa,tc,t,_,Pr,c,rfl,i2 _ _ cp,(by lia),Q7,(by lia),a9.2,λla H4 k4 Zy=>?_⟩;have as:=k4 _ _ i1;exists as,ak (by lia),_,rfl,aa,(i2.trans k4).upd_new nD _;rw[Qb,an,P6];exact CLs.snoc (CL.upd ⟨la,rfl,Zy⟩ as)<|(i3.mono k4).upd as
 rintro σ ys G9 ⟨V,V,bb,L,VL⟩;rw[PJ<|by simp_all]at VL;refine⟨(by show 1<=sizeLine;decide),λra M=>?_⟩;obtain⟨db,e,O,sr⟩:=pJ M<|.lst [.ref D];rw[e];have bc:=nw x8 nD;have bf:=nw (L _ _ x8) M;have bg:=O _ _<|L _ _ x8;refine⟨_,rfl,jZ bg T.cl T.nR rfl λdc cv cz=>?_⟩;refine⟨_,rfl,jZ cz T.cl T.nW rfl λZ c0 c1=>?_⟩;have CZ:=cv.trans c0;have bk:=(BtX.of<|L.trans O).trans CZ;have bl:=J.trans bk;have av:=I.trans bl;have az:=m.trans av;have aC:=l.trans az;have aF:=j.trans aC;have aL:=λb=>m _ _ (d b)<|a4 b;have a0:=λb=>I _ _ (d b)<|aL b;have a1:=λb=>J _ _ (d b)<|a0 b;have bm:=J _ _ p b6;have br:=l _ _ N q1;have bs:=m _ _ N br;have bt:=I _ _ N bs;have Wz:∀a,SA.own ⟨x,dx,pa,qa,dl,dp,ba,fa,ra,ll,pp,Fr⟩ a->a=x\/H a=none:=?_;refine q ⟨x,dx,pa,qa,dl,dp,ba,fa,ra,ll,pp,Fr⟩ Z rfl rfl ?_ aF Wz
 ·refine⟨c1,aC _ _ X p1,⟨xs,aC _ _ N q1,(aF.tup U).cls TQ⟩,az _ _ a3 b7,av _ _ a5 ch,λb=>⟨[],az _ _ (d b)<|a4 b,aG⟩,λb=>⟨[],av _ _ (C b)<|a6 b,rfl,λc=>rfl⟩,bl _ _ p b6,⟨[],bk _ _ am f8,.nil⟩,⟨[.ref D],CZ _ _ bf sr,rfl,λk v hk=>?_⟩,?_,?_,cd,λV V z=>(nomatch z),λV=>rfl,λa z=>?_⟩
  ·cases k with
   |succ k=>simp at hk
   |zero=>
    cases hk;refine⟨D,ys,rfl,CZ _ _ bc<|O _ _ bb,?_,?_⟩
    ·rintro ((z|z|z|z|⟨b,z|z⟩)|z)
     ·exact bc z
     ·exact nw bm nD z
     ·exact nw f8 nD z
     ·exact ag bb M z
     ·exact nw (a1 b) nD z
     ·exact nw (J _ _ (C b)<|I _ _ (C b)<|a6 b) nD z
     obtain⟨n,o,e⟩:=W _ z;exact nw (B _ _ n e) nD rfl
    have e:bV t cs ([])=(cs.map λc=>ao t Pr c).map some:=by
     rw[Qm];exact UW λc Xy=>xj<|gS<|hc c Xy
    show iY Z (bV t cs ([])) ys
    rw[e];exact pI<|(CZ.tup bg).cls<|VL.mono O
  ·rintro ((z|z|z|z|⟨b,z|z⟩)|z)
   ·exact N z
   ·exact ag bs nb z
   ·exact ag bt nf z
   ·exact ag (L _ _<|J _ _ N bt) M z
   ·exact ag q1 (Y b) z
   ·exact ag br (ac b) z
   obtain⟨V,o,e⟩:=W _ z;simp_all
  ·simp only[Q3,P_,Sq,Wc,not_or,not_false_eq_true,UJ,and_true];exact⟨⟨ag b6 nf,ag (L _ _ bm) M,nw (aL _) nb,nw (aL _) nb⟩,⟨ag (L _ _ f8) M,nw (a0 _) nf,nw (a0 _) nf⟩,⟨nw (L _ _<|a1 _) M,nw (L _ _<|a1 _) M⟩,b3⟩
  obtain⟨n,o,e⟩:=W a z;exact⟨λu=>(Wz a u).elim n λg=>(by lia),o,aF _ _ n e⟩
 rintro a (z|z|z|z|⟨b,z|z⟩)
 ·exact .inl z
 ·refine .inr ?_;rw[z];exact(j.trans<|l.trans m).free nb p
 ·refine .inr ?_;rw[z];exact(j.trans<|l.trans<|m.trans I).free nf am
 ·refine .inr ?_;rw[z];exact(B.trans<|BtX.of L).free M bf
 ·refine .inr ?_;rw[z];exact j.free (Y b)<|d b
 refine .inr ?_;rw[z];exact(j.trans l).free (ac b)<|C b
noncomputable abbrev yX:QW:=cO (bS 86) 9
noncomputable abbrev vo:QW:=bS 87
noncomputable def li(d:ab PK)(o:ab (ab Int)):ab Int:=(bI (yM<|d.map<|bJ<|bD o) (o.idxOf [])<|o.idxOf []+1).mergeSort λa b=>decide (a<=b)
noncomputable def xl(d:ab PK)(o:ab (ab Int)):ab PK:=fT (d.map<|bJ<|bD o)<|li d o
theorem yY(d:ab PK)(o:ab (ab Int)):UR (li d o) (bI (yM<|d.map<|bJ<|bD o) (o.idxOf [])<|o.idxOf []+1):=UV _ _
theorem ri(d:ab PK)(o:ab (ab Int)):TN (·<=·) (li d o):=by
 have:=Vn (le:=λa b:Int=>decide (a<=b)) (by lia) (by lia)<|bI (yM<|d.map<|bJ<|bD o) (o.idxOf [])<|o.idxOf []+1;exact this.imp λh=>PX h
theorem Hz(h:UR n (bI (yM<|d.map<|bJ<|bD o) (o.idxOf [])<|o.idxOf []+1))(H:TN (·<=·) n):n=li d o:=Lg h H (yY d o)<|ri d o
inductive pK (C:C')(vs:ab V)(H:Hp)(Q:VK)(E:XK):Prop
 |mk (A:SA)(t:Str)(cs:ab (ab Int))(S:SS)(hw:Px)(h0:vs=[.ref A.x])(h:SrAt C A t cs S H)(W:FO t cs S)(b:S.win=gV hw)(he:(S.ow hw).getLast?=gV [])(hc:∀c∈cs,ap t.length c)(ht:t.length<=8)(hcs:cs.length<=900)
  (q:∀r l ys a,Same H a->H r=Pt->H l=Pt->a r=gV (.tup [.str<|aq hw,.ref l])->a l=gV (.lst ys)->dy a (xl (S.lw hw)<|S.ow hw) ys->Q (.ref r) a):pK C vs H Q E
noncomputable def lm(t:Str)(c:ab (ab Int)):SS:=tX t c 10000 pH
noncomputable def fA(t:Str)(c:ab (ab Int)):Px:=(lm t c).win.getD Pr
noncomputable def sY(t:Str)(c:ab (ab Int)):ab PK:=xl ((lm t c).lw<|fA t c)<|(lm t c).ow<|fA t c
noncomputable def sZ(t:Str)(c:ab (ab Int)):ab (ab Int):=(li ((lm t c).lw<|fA t c)<|(lm t c).ow<|fA t c).map λp=>((lm t c).ow<|fA t c).getD p.toNat []
theorem yZ(H:∀c∈C,ap t.length c)(d:t.length<=8):FO t C (lm t C)/\(lm t C).win=gV (fA t C)/\((lm t C).ow<|fA t C).getLast?=gV []:=by
 have f:2^(t.length+1)<=2^9:=Tz (by decide) (Te d);have W:=Lp H (QF d (by decide)) (k:=10000) (rh) (QF f (y4 _ _));obtain⟨h,a,b⟩:=W.hw;have E:(lm t C).win=gV h:=a;have e:fA t C=h:=by
  unfold fA;rw[E];rfl
 rw[e];exact⟨W,a,b⟩
theorem y6{S:SS}(W:FO t c S)(H:t.length<=8)(h:Px):(S.lw h).length<=2048:=by
 have a:=W.few;have b:=vi S h;have d:2^(t.length+1)<=2^9:=Tz (by decide) (Te H);lia
theorem lp{o:ab (ab Int)}(h:o.getLast?=gV []):[]∈o:=List.mem_of_getLast? h
theorem rj(h:o.getLast?=gV []):qq o=true:=by
 unfold qq;rw[h];rfl
structure NF (t:Str)(cs:ab (ab Int)):Prop where
 run:bG t cs (fA t cs) [] (sY t cs)=(sZ t cs,Pn)
 good:∀d∈sY t cs,bd d
 few:(sY t cs).length<=2048
 last:(sZ t cs).getLast?=gV []
 nodup:(sZ t cs).Nodup
theorem Lu(H:∀c∈C,ap t.length c)(h:t.length<=8):NF t C:=by
 obtain⟨W,E,e⟩:=yZ H h;have s:=Ht (W.I.run _) (W.I.good _) (lp e) (yY _ _)<|ri _ _;refine⟨s.run,s.good,?_,?_,s.nodup⟩
 ·have:=y6 W h<|fA t C;have:=s.few;show(fT _ _).length<=_
  unfold fT;rw[A'];lia
 unfold sZ;rw[List.getLast?_map,s.last];show gV (((lm t C).ow<|fA t C).getD (((lm t C).ow<|fA t C).idxOf []) [])=gV []
 obtain⟨z,a⟩:=jU<|lp e;rw[B',a];rfl
inductive mB (vs:ab V)(H:Hp)(Q:VK)(E:XK):Prop
 |mk (p q:C')(t:Str)(xs:ab V)(cs:ab (ab Int))(h0:vs=[.ref p])(hp:H p=gV (.tup [.str t,.ref q]))(hq:H q=gV (.lst xs))(v:CLs H cs xs)(hc:∀c∈cs,ap t.length c)(ht:t.length<=8)(hcs:cs.length<=900)
  (a:∀r l ys h,Same H h->H r=Pt->H l=Pt->h r=gV (.tup [.str<|aq<|fA t cs,.ref l])->h l=gV (.lst ys)->dy h (sY t cs) ys->Q (.ref r) h):mB vs H Q E
structure NG (mg:Str->M' Pm):Prop where
 g_MOST_LOOKS:kI mg "MOST_LOOKS" (.int 10000)
theorem A6(F:Fun K "paper" "Searcher.paper" yX f v)(T:qr K M C)(Y:Fe P w K M e 8 "shortened_paper" DR):ay P w K M e aV 9 f v ["self"] (pK C):=by
 refine F.okB (N:=["self"]) λQC A o s H vs Q E sc c h=>?_;obtain⟨B,t,D,S,b,rfl,h,W,y,G,I,J,d,q⟩:=h;have L:=mN c;have x:=h.hx;rw[y]at x;obtain⟨X,g,i⟩:=h.hq;obtain⟨N,j,m⟩:=h.l b;have O:=y6 W J b;refine⟨_,(ae (bu gg (au eV) aK)
  (di<|wM Y c<|kh gg<|eD<|kh gg<|bv L gg gg λV V=>rfl)),?_⟩
 exists _,rfl,B.x,C,B.dx,_,_,rfl,x,T.cl,T.nW,rfl,rfl,_,rfl;rw[Pu λz=>by cases z];refine al<|⟨_,rfl,B.x,C,B.dx,_,_,rfl,x,T.cl,T.nS,rfl,_,rfl,B.x,C,B.dx,_,_,rfl,x,T.cl,T.nW,rfl,_,rfl,B.x,C,B.dx,_,_,rfl,x,T.cl,T.nL,rfl,_,rfl,B.x,C,B.dx,_,_,rfl,x,T.cl,T.nW,rfl,B.dl,_,rfl,fV h.hl b,(by show 2<=sizeLine;decide),λa U=>?_⟩;have k:=ad U<|.tup [.str<|aq b,.ref<|B.ll b];have Z:=cm k;exact⟨B.p,B.q,a,B.ll b,t,b,X,N,D,S.lw b,S.ow b,rfl,k _ _ h.hp,(by lia),k _ _ g,i.mono k,d,I,Z,k _ _ j,dz k _ _ m,(by lia),h.good b,W.I.run b,rj G,λr l ys nd H2 k2 nr nl n V0 VL p u=>q r l ys H2 (k.trans k2) (k.free nr) (k.free nl) n V0<|by unfold xl;rwa[<-Hz p u]⟩
theorem xn(F:Fun K "settled_paper" "settled_paper" vo f fd)(T:NG M)(ac:KJ P w K M c 4 "Searcher" g g1 e1 ["self","sentence"] (sX g))(j:tV P w K M c aV 8 g "go" g2 e2 ["self","many"] (Es g))(am:tV P w K M c aV 9 g "paper" g3 L ["self"] (pK g)):ay P w K M c aV 10 f fd ["sentence"] mB:=by
 refine F.okB (N:=["sentence","searcher"]) λQC A O s H vs Q E sc hr h=>?_;obtain⟨p,qa,t,xs,C,rfl,hp,hq,TQ,i,U,d,q⟩:=h;obtain⟨W,X,el⟩:=yZ i U;refine⟨_,(ae gg
  (ae (iH Rc (iG<|gH<|iQ j (pv 1) hr (by simp)<|gT<|bL rfl T.g_MOST_LOOKS)
   (au FR))
  gg)),?_⟩
 refine⟨_,rfl,λx D n N Wi=>?_⟩;have k:Same H (upd (upd H D<|.own x) x<|.ins g D []):=λb o e=>by
  rwa[af<|ag e n,af<|ag e N]
 refine⟨x,D,p,qa,t,xs,C,rfl,aa,k _ _ hp,k _ _ hq,TQ.mono k,i,(Nat.le_succ_of_le U),d,(λV=>False),(λV z=>z.elim),λB Y ex V Z b2 v=>⟨rfl,?_⟩⟩;have k2:Same H Y:=λb o e=>b2 _ _ (ag e n)<|k _ _ e;have u:∀a,B.own a->H a=none:=λa ha=>by
  obtain z|z:=v a ha
  ·rwa[z]
  exact k.free z
 subst ex;exists λm σ G=>m=0/\σ=[gV<|.ref p,gV<|.ref B.x]/\G=Y,⟨0,rfl,rfl,rfl⟩;rintro m σ G ⟨rfl,rfl,rfl⟩;refine⟨_,rfl,B.x,B.dx,_,rfl,Z.hx,rfl,B,t,C,pH,10000,rfl,Z,.inl rh,i,(Nat.le_succ_of_le U),d,λH3 h3 m3=>⟨_,rfl,?_⟩⟩;have L:(tX t C 10000 pH).win.isSome=true:=by
  show(lm t C).win.isSome=Pn
  rw[X];rfl
 rw[L];have y:Same H H3:=λb o e=>m3 _ _ (by grind)<|k2 _ _ e;exact⟨_,rfl,B.x,B.dx,_,rfl,h3.hx,rfl,B,t,C,lm t C,fA t C,rfl,h3,W,X,el,i,U,d,λr l ys H4 k4 nr nl I J VL=>q r l ys H4 (y.trans k4) (y.free nr) (y.free nl) I J VL⟩
noncomputable abbrev Jk:QW:=bS 25
noncomputable abbrev Jl:QW:=bS 74
inductive xo (vs:ab V)(H:Hp)(Q:VK)(E:XK):Prop
 |mk (q:C')(c:ab Int)(h0:vs=[.ref q])(a:ki H q c)(b:c.length<=9000)(d:∀(l:C') (h:Hp),Same H h->ki h l (c.map λz=>-z)->Q (.ref l) h)
inductive RuAt (H:Hp)(r:ab Int×Px)(v:V):Prop
 |mk (p q:C')(h:v=.ref p)(a:H p=gV (.tup [.ref q,.bl r.2]))(b:ki H q r.1)
theorem RuAt.mono(x:RuAt H r v)(k:Same H h):RuAt h r v:=by
 obtain⟨p,q,a,b,c⟩:=x;exact⟨p,q,a,k _ _ b,k _ _ c⟩
theorem RuAt.upd(x:RuAt H r v)(h:H a=gV (.lst y)):RuAt (upd H a o) r v:=by
 obtain⟨p,q,d,b,c⟩:=x;exact⟨p,q,d,by rwa[af<|bi b h<|by simp],by show L2.upd H a o q=_;rwa[af<|bi c h<|by simp]⟩
abbrev RuLs(H:Hp):ab (ab Int×Px)->ab V->Prop:=Paired<|RuAt H
theorem RuLs.mono(x:RuLs H r v)(k:Same H h):RuLs h r v:=Paired.imp' (λy y z=>z.mono k) x
theorem RuLs.upd(x:RuLs H r v)(h:H a=gV (.lst y)):RuLs (upd H a o) r v:=Paired.imp' (λw w z=>z.upd h) x
theorem RuLs.snoc(z:RuAt H r v):∀{s:ab (ab Int×Px)} {a:ab V},RuLs H s a->RuLs H (s++[r]) (a++[v]):=by
 intro s a h;induction h with
 |nil=>exact .cons z .nil
 |cons r t i=>exact .cons r i
inductive xp (vs:ab V)(H:Hp)(Q:VK)(E:XK):Prop
 |mk (q:C')(hw:Px)(l:Int)(left:ab Int)(h0:vs=[.str<|aq hw,.int l,.ref q])(a:ki H q left)(b:left.length<=9000)(c:∀(v:V) (h:Hp),Same H h->RuAt h (mU hw l left) v->Q v h)
theorem HA(F:Fun K "turned_about" "turned_about" Jk f i)(T:Bl m):ay P w K m b aV 1 f i ["literals"] xo:=by
 refine F.okB (N:=["literals"]) λC A o s H v Q E p t h=>?_;obtain⟨q,c,rfl,d,j,l⟩:=h;exists _,(di<|aW bP rfl T.tuple Ro<|gT<|jR ["literal"] [Pt]<|bT<|pv 0);refine⟨_,rfl,q,rfl,⟨_,SqT.of d⟩,λD e=>cg [] _ (IL λz=>.int (-z)) rfl d e (by simp_all) (λx g n R k r=>r) ?_ ?_⟩
 ·intro x g y n R k r;obtain⟨z,y,rfl⟩:=c_ g;exact⟨_,rfl,z,rfl,r⟩
 refine⟨D,_,rfl,.inl ⟨SqL.of aa,λL a=>l L _ ((ad e _).trans<|ad a _) ?_⟩⟩;show upd _ L _ L=_
 rw[aa,Rq.mpr λy y=>rfl,Qm,Qm];rfl
theorem HB(F:Fun K "rule_of" "rule_of" Jl f e)(T:Bl m)(j:Fe P w K m b 1 "turned_about" xo):ay P w K m b aV 2 f e ["hand","literal","left"] xp:=by
 refine F.okB (N:=["hand","literal","left"]) λC A o s H v Q E r u h=>?_;obtain⟨q,g,l,left,rfl,c,i,d⟩:=h;exists _,gg;refine⟨_,rfl,.inl ⟨rfl,_,rfl,?_⟩⟩;cases g with
 |false=>
  refine ar ⟨_,rfl,q,left,rfl,c,i,λL x n t=>⟨_,rfl,_,_,rfl,rfl,(by show 2<=sizeLine;decide),λp a=>?_⟩⟩;have k:=ad a<|.tup [.ref L,.bl (decide (l<0))];exact d _ _ (n.trans k) ⟨p,L,rfl,aa,k _ _ t⟩
 |true=>
  refine al ⟨_,rfl,_,rfl,_,_,rfl,rfl,(by show 2<=sizeLine;decide),λp a=>?_⟩;have k:=ad a<|.tup [.ref q,.bl (decide (0<l))];exact d _ _ k ⟨p,q,rfl,aa,k _ _ c⟩
noncomputable abbrev Ex:QW:=bS 75
abbrev HC:=Int×ab (ab Int×Px)
inductive PartAt (H h:Hp)(L:C')(e:HC)(x:V):Prop
 |mk (p a:C')(ys:ab V)(hx:x=.ref p)(b:h p=gV (.tup [.int e.1,.ref a,.bl Pr]))(c:h a=gV (.lst ys))(d:RuLs h e.2 ys)(f:H a=Pt)(g:a≠L)
noncomputable def vp(t:Str)(h:Px)(d:ab PK)(o:ab (ab Int)):ab HC:=(aD t h).map λv=>(v,be h d o v d.length)
inductive s_ (vs:ab V)(H:Hp)(Q:VK)(E:XK):Prop
 |mk (p q pp l:C')(t:Str)(hw:Px)(xs s:ab V)(cs:ab (ab Int))(ds:ab PK)(out:ab (ab Int))(h0:vs=[.ref p,.ref pp])(i:H p=gV (.tup [.str t,.ref q]))(j:t.length<=30)(k:H q=gV (.lst xs))(m:CLs H cs xs)(n:cs.length<=900)(o:(∀c∈cs,ap t.length c))(r:H pp=gV (.tup [.str<|aq hw,.ref l]))(u:H l=gV (.lst s))(v:dy H ds s)(a:ds.length<=4000)(b:(∀d∈ds,bd d))(e:bG t cs hw [] ds=(out,Pn))(f:qq out=Pn)(g:∀L xs h,Same H h->H L=Pt->h L=gV (.lst xs)->Paired (PartAt H h L) (vp t hw ds out) xs->Q (.ref L) h)
inductive Jm (D:C')(H:Hp)(e:ab Int)(i:Nat)(b:St)(ys:ab V)(G:Hp):Prop
 |mk (c:M' V)(T A:ab C')(I:b=[c])(d:ys=T.map V.ref)(f:G D=gV (.lst ys))(g:Same H G)(h:T.length=i)(k:A.length=i)(l:∀(j:Nat) (t:C') (v:Int) (a:C'),T[j]?=gV t->e[j]?=gV v->A[j]?=gV a->G t=gV (.tup [.int v,.ref a])) (m:∀a∈A,G a=gV (.lst [])/\H a=Pt/\a≠D) (n:A.Nodup)
noncomputable def j0(v:ab Int)(a:ab C'):ab (aJ×V):=(v.zip a).map λp=>((Qd p.1:aJ),V.ref p.2)
theorem HE(h:a.length=T.length):(j0 T a).map (·.1)=T.map λv=>(Qd v:aJ):=by
 unfold j0;rw[Qm];have:(T.zip a).map ((λx=>x.1)∘λp=>((Qd p.1:aJ),V.ref p.2))=((T.zip a).map rz).map λv=>(Qd v):=by
  rw[Qm];rfl
 rw[this,aaQ<|by simp_all]
theorem xq:∀{T:ab Int} {A:ab C'} {m:Nat} {v:Int} {a:C'},T.Nodup->T[m]?=gV v->A[m]?=gV a->aY (j0 T A) (.inl v)=gV (.ref a)
 |[],_,_,_,_,_,e,_=>by simp at e
 |x::T,[],_,_,_,_,_,e=>by simp at e
 |x::T,b::A,0,v,a,n,E,c=>by
  cases(E);cases(c);unfold aY j0;simp
 |x::T,b::A,m+1,v,a,n,E,c=>by
  obtain⟨N,d⟩:=Q3.mp n;have i:=xq d E c;have h:x≠v:=λz=>N (by rw[z];exact Pq E);unfold aY j0 at i ⊢;rwa[ZN,Qf,Ug<|by simpa using h]
theorem y8{c d:Type}{f:c->d}(e:∀a b,f a=f b->a=b){l:ab c}(h:l.Nodup):(l.map f).Nodup:=VL f (λa b H z=>H<|e a b z) h
theorem vq{c:Type}{l:ab c}(h:l.Nodup){i j:Nat}{x:c}(a:l[i]?=gV x) (b:l[j]?=gV x):i=j:=by
 obtain⟨H,e⟩:=N'.mp a;obtain⟨d,E⟩:=N'.mp b;exact(aaS h).mp<|e.trans E.symm
theorem tj{a b:Type}{f:a->b}{l:ab a}{i:Nat}{y:b}(h:(l.map f)[i]?=gV y):∃x,l[i]?=gV x/\y=f x:=by
 cases e:l[i]? with
 |none=>simp_all
 |some x=>simp_all
theorem Lv{a b:Type}{l:ab a}{m:ab b}{i:Nat}{x:a}{y:b}(h:(l.zip m)[i]?=gV (x,y)):l[i]?=gV x/\m[i]?=gV y:=by
 rwa[W']at h
theorem j8(t:Str)(h:Px):(aD t h).Nodup:=y8 (by lia)<|(List.nodup_range).sublist TX
theorem pL(t:Str)(h:Px):(aD t h).length<=t.length:=by
 unfold aD;have:=Qx (λi=>cD t i == h)<|Qt t.length;simp_all
structure Boxes (G:Hp)(as:ab C')(Ve:ab Int)(R:Int->ab (ab Int×Px)):Prop where
 at_:∀(m:Nat) (a:C') (v:Int),as[m]?=gV a->Ve[m]?=gV v->∃ys,G a=gV (.lst ys)/\RuLs G (R v) ys
theorem Boxes.mono{R:Int->ab (ab Int×Px)}(x:Boxes G A T R)(k:Same G g):Boxes g A T R:=⟨λm a v h H=>by
 obtain⟨y,b,c⟩:=x.at_ m a v h H;exact⟨y,k _ _ b,c.mono k⟩⟩
theorem Boxes.same{R:Int->ab (ab Int×Px)}(x:Boxes G A T R)(h:∀v∈T,R v=r v):Boxes G A T r:=⟨λm a v b H=>by
 obtain⟨y,g,c⟩:=x.at_ m a v b H;exact⟨y,g,by rwa[<-h v<|Pq H]⟩⟩
theorem Boxes.put{G:Hp}{A:ab C'}{T:ab Int}{R:Int->ab (ab Int×Px)}(x:Boxes G A T R)(g:A.Nodup)(i:T.Nodup){m:Nat}{a:C'}{v:Int}{Y:ab V}{r:ab Int×Px}{y:V}(b:A[m]?=gV a) (c:T[m]?=gV v) (h:G a=gV (.lst Y)) (j:RuLs G (R v) Y) (k:RuAt G r y):
  Boxes (upd G a<|.lst<|Y++[y]) A T (λu=>if u=v then R v++[r]else R u):=⟨λM d f e E=>by
 by_cases H:M=m
 ·subst H;rw[b]at e;rw[c]at E;cases e;cases E;exact⟨_,aa,by rw[PP rfl];exact RuLs.snoc (k.upd h)<|j.upd h⟩
 have n:d≠a:=λz=>H (vq g e<|by rwa[z]);have N:f≠v:=λz=>H (vq i E<|by rwa[z]);obtain⟨Z,l,o⟩:=x.at_ M d f e E;exact⟨Z,by rwa[af n],by rw[PM N];exact o.upd h⟩⟩
inductive NH (p pp s l d:C')(H:Hp)(a:ab C')(t:Str)(hw:Px)(ds:ab PK)(out:ab (ab Int))(i:Nat)(b:St)(G:Hp):Prop
 |mk (x X c:M' V)(I:b=[gV (.ref p),gV (.ref pp),gV (.ref s),gV (.ref l),gV (.ref d),x,X,c])(e:Same H G)(f:G d=gV (.dK (j0 (aD t hw) a)))(g:Boxes G a (aD t hw) (λv=>be hw ds out v i))
inductive NI (p pp s l d L lf:C')(H:Hp)(a:ab C')(t:Str)(hw:Px)(ds:ab PK)(out:ab (ab Int))(i:Nat)(c:ab Int)(j:Nat)(b:St)(G:Hp):Prop
 |mk (x:M' V)(I:b=[gV (.ref p),gV (.ref pp),gV (.ref s),gV (.ref l),gV (.ref d),gV (.ref L),gV (.ref lf),x])(e:Same H G)(f:G d=gV (.dK (j0 (aD t hw) a)))(g:Boxes G a (aD t hw) (λv=>be hw ds out v i++dh hw (out.getD i []) v ((c.take j).filter λl=>!(out.getD i []).contains l)))
theorem y9(h:List.Sublist a b)(u:Ups b):Ups a:=adu (h.map _) u
theorem m6{left:ab Int}(H:1<=v)(h:Ups l):(dh w left v l).length<=2:=by
 unfold dh;rw[A',yz H h];exact Qx _ _
theorem A7(h:∀c∈o,ap n c)(k:Nat):Ups (bY d o k):=by
 unfold bY
 split
 ·rename_i i _;refine y9 TX ?_;by_cases H:i<o.length
  ·exact(eQ h H).1
  rw[B',QI<|by simp_all];exact TK
 exact TK
theorem i9(h:∀c∈o,ap N c)(a:1<=v):∀{n:Nat},(be H d o v n).length<=2*n
 |0=>Po _
 |n+1=>by
  have:=i9 (H:=H) (d:=d) h a (n:=n);have:=m6 (w:=H) (left:=o.getD n []) a<|A7 (d:=d) h n;show(be H d o v n++_).length<=_
  rw[Pl];lia
theorem PartAt.mono(z:PartAt H h L e x)(k:Same h b):PartAt H b L e x:=by
 obtain⟨p,a,y,c,d,f,g,i,j⟩:=z;exact⟨p,a,y,c,k _ _ d,k _ _ f,g.mono k,i,j⟩
theorem PartAt.upd(z:PartAt H h L e x)(b:h L=gV (.lst Z)):PartAt H (upd h L o) L e x:=by
 obtain⟨p,a,y,f,c,g,i,j,d⟩:=z;exact⟨p,a,y,f,by rwa[af<|bi c b<|by simp],by rwa[af d],i.upd b,j,d⟩
theorem lq{c d:Type}{F G:c->d->Prop}(f:∀a b,F a b->G a b){a:c}{b:d}:∀{l:ab c} {m:ab d},Paired F l m->G a b->Paired G (l++[a]) (m++[b]):=by
 intro l m h z;induction h with
 |nil=>exact .cons z .nil
 |cons r t i=>exact .cons (f _ _ r) i
inductive NJ (L:C')(H g:Hp)(d:C')(A:ab C')(t:Str)(hw:Px)(ds:ab PK)(out:ab (ab Int))(i:Nat)(a:St)(zs:ab V)(G:Hp):Prop
 |mk (b:M' V)(I:a=[b,gV (.ref d)])(c:G L=gV (.lst zs))(e:Same g G)(f:Paired (PartAt H G L) (((aD t hw).take i).map λv=>(v,be hw ds out v ds.length)) zs)
theorem Ey(F:Fun K "plan_of" "plan_of" Ex f fd)(T:Bl mg)(cp:Fe P w K mg N 7 "whole_sets" yJ)(VC:Fe P w K mg N 2 "variables_of" jS)(ct:Fe P w K mg N 2 "rule_of" xp):ay P w K mg N aV 8 f fd ["sentence","paper"] s_:=by
 refine F.okB (N:=["sentence","paper","sets","variables","rules","line","left","literal"]) λQC A b2 s H vs Q E sc hr h=>?_;obtain⟨p,q,pp,la,t,g,xs,ls,cs,n,o,rfl,hp,ht,hq,b3,h9,VB,ac,Zy,Zz,h8,a7,Rz,b4,q'⟩:=h;have hu:=hr.units;have Va:=SH (Zh (show 1<=64 by decide) _) hu;have cu:o.length=n.length:=by
  have:=dg Rz;simpa using this
 have aC:∀c∈o,ap t.length c:=by
  have:=gu (w:=g) VB (D:=n) (s:=[]) (by simp);rw[Rz]at this;exact this
 have cv:=pL t g;have an:=j8 t g;refine⟨_,(ae gg
  (ae gg
  (ae (sT 4<|aW (fP rfl) rfl T.dict S8<|gT<|jR ["variable"] [Pt]<|aO<|pv 3)
  (ae (fI Rc rfl (wG rfl T.zip gg<|pv 2) gg
   (au<|bu gg (au<|fS 7 (bT gg)<|au<|bu gg (au<|cG<|fJ QD Ra Ri cK (bv Va (pv 4) gg λS S=>rfl) gg) aK) aK))
  (di<|jR ["variable","rules"] [Pt,gV 4] (aO<|pv 3) (e:=λS S S S=>(eD<|aM (pv 0)<|kh (bv Va (pv 1) (pv 0) λS S=>rfl) gb))))))),?_⟩
 refine⟨_,rfl,_,rfl,p,q,pp,la,t,g,xs,ls,cs,n,o,rfl,hp,ht,hq,b3,h9,VB,ac,Zy,Zz,by lia,λd hd=>(yK<|a7 d hd).1,Rz,b4,λsl ys H1 k1 cz aF a0=>?_⟩;refine⟨_,rfl,_,rfl,(bA (k1 _ _ ac) rfl ⟨p,t,.ref q,g,rfl,k1 _ _ hp,by lia,λl H2 k2 V0=>?_⟩)⟩;refine⟨_,rfl,l,rfl,⟨_,SqL.of V0⟩,λD hD=>?_⟩;refine bQ (K:=K) (a:=l) (xs:=(aD t g).map V.int) (Jm D H2<|aD t g) ⟨Pt,[],[],rfl,rfl,aa,ad hD _,rfl,rfl,(by grind),(by simp),TK⟩ ?_ ?_ ?_
 ·rintro i O Z G S ⟨S,ts,r,S,S,i2,i3,S⟩;exact⟨i2,SqL.of<|i3 _ _ V0⟩
 ·rintro i x O Z G hx ⟨v0,ts,r,rfl,rfl,i2,i3,i4,i5,i6,i7,i8⟩;obtain⟨v,hv,rfl⟩:=tj hx;have Wy:i<(aD t g).length:=(N'.mp hv).1;refine cy ⟨_,rfl,P8 _,λu U=>⟨(by show 2<=sizeLine;decide),λpt av=>?_⟩⟩;have k3:=ad U<|.lst [];have s3:=cm k3;have b6:H2 u=none:=i3.free U;have a8:u≠D:=λz=>by lia
  generalize upd G u (.lst [])=G3 at k3 s3 av ⊢;have k4:=ad av<|.tup [.int v,.ref u];have s4:=cm k4;generalize upd G3 pt (.tup [.int v,.ref u])=G4 at k4 s4 ⊢;have az:=k3.trans k4;have d4:=az _ _ i2;exists d4,(by rw[A'];exact cH<|by lia);refine⟨_,ts++[pt],r++[u],rfl,by simp,aa,(i3.trans az).upd_new hD _,by rw[Pl,i4];rfl,by rw[Pl,i5];rfl,λj t' v' a' e1 e2 e3=>?_,λa ha=>?_,?_⟩
  ·by_cases hj:j<i
   ·rw[PL<|by simp_all]at e1 e3;have z:=az _ _<|i6 j t' v' a' e1 e2 e3;rw[af<|bi z d4<|by simp];exact z
   rw[PV<|by simp_all]at e1 e3;have b7:j=i:=by
    have:=(N'.mp e1).1;rw[Qg]at this;lia
   subst b7;rw[i4,QO]at e1;rw[i5,QO]at e3;rw[hv]at e2;cases e1;cases e2;cases e3;rw[af<|bi s4 d4<|by simp];exact s4
  ·obtain z|z:=P5.mp ha
   ·obtain⟨g1,g2,g3⟩:=i7 a z;exact⟨by rw[af g3];exact az _ _ g1,g2,g3⟩
   rw[Pw.mp z];exact⟨by rw[af a8];exact k4 _ _ s3,b6,a8⟩
  refine Rw.mpr ⟨i8,by simp,λa ha b hb z=>?_⟩;simp_all
 rintro O Z G ⟨v0,ts,r,rfl,rfl,i2,i3,i4,i5,i6,i7,i8⟩;rw[A']at i4 i5;refine⟨D,ts,j0 (aD t g) r,rfl,i2,?_,λi t' kv e1 e2=>?_,?_,?_,λd hd=>?_⟩
 ·unfold j0;simp_all
 ·unfold j0 at e2;obtain⟨⟨v,a⟩,e3,rfl⟩:=tj e2;obtain⟨e4,e5⟩:=Lv e3;exact i6 i t' v a e1 e4 e5
 ·rw[HE i5];exact y8 (λS S z=>Rm z) an
 ·unfold j0;rw[A',abd];lia
 have k5:=ad hd<|.dK<|j0 (aD t g) r;have s5:=cm k5;have b5:Boxes (upd G d<|.dK<|j0 (aD t g) r) r (aD t g) (λv=>be g n o v 0):=⟨λm a v h1 h2=>⟨[],k5 _ _ (i7 a<|Pq h1).1,.nil⟩⟩;have W:=i3.trans k5;generalize upd G d (.dK<|j0 (aD t g) r)=G5 at k5 s5 b5 W ⊢;have a9:∀a∈r,H2 a=none:=λa ha=>(i7 a ha).2.1;clear k5 i7 i6 i3 i2;have VZ:=k1.trans k2;have P1:=c9 Zz;have c0:=a0.length;refine⟨_,rfl,(bA (W _ _<|VZ _ _ ac) rfl ⟨_,rfl,la,sl,rfl,rfl,⟨_,SqL.of<|W _ _<|VZ _ _ Zy⟩,⟨_,SqL.of<|W _ _<|k2 _ _ aF⟩,?_⟩)⟩;refine si (K:=K) (a:=la) (b:=sl) (xs:=ls) (Y:=ys) (n:=n.length) P1 (by simp_all) (NH p pp sl l d H2 r t g n o) ⟨Pt,Pt,Pt,rfl,W,s5,b5⟩ ?_ ?_ ?_
 ·rintro i O G6 S ⟨S,S,S,S,j1,S⟩;exact⟨SqL.of<|j1 _ _<|VZ _ _ Zy,SqL.of<|j1 _ _<|k2 _ _ aF⟩
 ·rintro i x y O G6 t1 hx hy ⟨x5,x6,x7,rfl,j1,j2,j3⟩ cc;have Wy:i<n.length:=by have:=(N'.mp hx).1;simp_all
  have rx:=cQ Zz hx;have a1:=getD_some (d:=RI) Wy;have ba:=Pq a1;have ed:n.getD i .none=n.getD i .none:=rfl;generalize bb:n.getD i .none=d1 at rx a1 ba;obtain⟨c1,bc,cd⟩:=a0.get hy;have eo:o.getD i []=c1:=by rw[B',bc];rfl
  obtain⟨lf,rfl,bf⟩:=cd;have k7:=ad cc<|.tup [x,.ref lf];exists t1,_,rfl,SqT.of aa,rfl,_,_,rfl,_,_,rfl,rfl;have J:=j1.trans k7;have X:=k7 _ _ j2;have a2:=j3.mono k7;show JT _ _ _ _ _ (upd G6 t1<|.tup [x,.ref lf])
  generalize upd G6 t1 (.tup [x,.ref lf])=G7 at k7 J X a2 ⊢;clear j1 j2 j3;have Y:=VZ.trans J;have a3:o7 d1=Pt->Boxes G7 r (aD t g) (λv=>be g n o v<|i+1):=λe=>a2.same λv S=>by
   show _=be g n o v i++dh g (o.getD i []) v (bY n o i)
   unfold bY;rw[bb,e];exact(QN _).symm
  obtain⟨k,rfl⟩|⟨c,S,rfl⟩|⟨z,rfl⟩|⟨z1,z2,z3,rfl⟩:=a7 d1 ba
  ·obtain⟨ln,Z,rfl,B,M⟩:=aj rx;obtain⟨y0,Z,rfl,r0,M⟩:=ai M;obtain rfl:=aS r0;refine⟨_,rfl,(bA (Y _ _ B) (aE (j:=0) rfl)<|.inl ⟨rfl,_,rfl,?_⟩)⟩;rw[Pu (show V.str aT≠V.str (PD "drop") by decide+kernel)];exact al ⟨_,_,_,rfl,J,X,a3 rfl⟩
  ·obtain⟨ln,Z,rfl,B,M⟩:=aj rx;obtain⟨y0,Z,rfl,r0,M⟩:=ai M;obtain rfl:=aS r0;refine⟨_,rfl,(bA (Y _ _ B) (aE (j:=0) rfl)<|.inl ⟨rfl,_,rfl,?_⟩)⟩;rw[Pu (show V.str bH≠V.str (PD "drop") by decide+kernel)];exact al ⟨_,_,_,rfl,J,X,a3 rfl⟩
  ·obtain⟨ln,Z,rfl,B,M⟩:=aj rx;obtain⟨y0,Z,rfl,r0,M⟩:=ai M;obtain⟨y1,Z,rfl,r1,M⟩:=ai M;obtain rfl:=aS r0;obtain rfl:=aw r1;obtain⟨i',rfl,c2,S,c3⟩:=sh Rz a1;refine⟨_,rfl,(bA (Y _ _ B) (aE (j:=0) rfl)<|.inl ⟨rfl,_,rfl,?_⟩)⟩;rw[PB (show V.str ax=V.str (PD "drop") by rfl)];obtain⟨xc,bg⟩:∃xc,ys[i']?=gV xc:=⟨_,K' (by lia)⟩;obtain⟨c,hc,TQ⟩:=a0.get bg;have ec:o.getD i' []=c:=by simp_all
   obtain⟨tc,rfl,Q7⟩:=TQ;have bk:=aC c<|Pq hc;have c4:=bx bk;have ce:=aC c1<|Pq bc;have c5:=bx ce;have bl:=k2.trans J;refine ar ⟨_,rfl,_,rfl,(bA (Y _ _ B) (aE (j:=1) rfl)<|(fY (bl _ _ aF) (aE bg) ⟨tc,rfl,⟨_,SqT.of<|bl _ _ Q7⟩,?_⟩))⟩;have bm:bY n o i=c.filter λl=>!c1.contains l:=by
    unfold bY;have ep:o7 (.tuple [.str ax,.int (i':Int)])=gV i':=by
     rfl
    rw[bb,ep];show(o.getD i' []).filter (λl=>!(o.getD i []).contains l)=_
    rw[ec,eo]
   refine eK (K:=K) (a:=tc) (xs:=c.map V.int) (NI p pp sl l d ln lf H2 r t g n o i c) ⟨_,rfl,J,X,a2.same λv S=>?_⟩ ?_ ?_ ?_
   ·rw[YV];exact(QN _).symm
   ·rintro j O G8 S ⟨S,S,m1,S⟩;exact SqT.of<|m1 _ _<|k2 _ _ Q7
   ·rintro j x O G8 cf ⟨x7,rfl,m1,m2,m3⟩;obtain⟨lz,br,rfl⟩:=tj cf;have bs:c.take (j+1)=c.take j++[lz]:=by rw[Qb,br];rfl
    have bt:=k2.trans m1;have e:(if Pn=Pn then !g_ (.int lz) (c1.map V.int)else g_ (.int lz) (c1.map V.int))=!c1.contains lz:=by
     rw[PP rfl,bj]
    exists _,rfl,_,rfl,lf,_,rfl,.inr<|SqT.of<|bt _ _ bf,rfl,bF _,_,rfl;rw[e];cases a4:c1.contains lz with
    |true=>
     refine al ⟨_,rfl,m1,m2,m3.same λv S=>?_⟩;rw[bs,QY,eo,SJ,a4];simp
    |false=>
     have b0:absI lz∈aD t g:=AC VB Rz Wy (by rw[bm];exact PQ.mpr ⟨Pq br,by rw[a4];rfl⟩);obtain⟨m,hm⟩:=YZ b0;obtain⟨C,I⟩:∃C,r[m]?=gV C:=⟨_,K' (by have:=(N'.mp hm).1;lia)⟩;obtain⟨us,g1,g2⟩:=m3.at_ m C _ I hm;have b1:1<=absI lz:=(eY.mp b0).1;have YI:Ups ((c.take j).filter λl=>!(o.getD i []).contains l):=y9 (TX.trans (Uz _ _)) bk.1;have c6:us.length<=2*i+2:=by
      have e1:=i9 aC b1 (H:=g) (d:=n) (n:=i);have e2:=m6 (w:=g) (left:=o.getD i []) b1 YI;have e3:=Paired.length g2;grind
     refine ar ⟨_,rfl,_,rfl,lz,rfl,d,.ref C,rfl,.inl ⟨_,.inl<|absI lz,Rd.of m2,rfl,(xq an hm I).symm⟩,.inl ⟨rfl,_,SqL.of g1⟩,?_⟩;refine⟨_,rfl,(bA ((VZ.trans m1) _ _ ac) rfl ⟨_,rfl,_,rfl,lf,g,lz,c1,rfl,bt _ _ bf,by lia,λrv G9 k9 ch=>?_⟩)⟩;have Yc:=k9 _ _ g1;have ck:=m1.trans k9;exists C,us,rv,rfl,rfl,Yc,cH (by lia);have cl:=a9 C<|Pq I;refine⟨_,rfl,ck.upd_new cl _,by rw[af<|bi (k9 _ _ m2) Yc<|by simp];exact k9 _ _ m2,((m3.mono k9).put i8 an I hm Yc (g2.mono k9) ch).same λv S=>?_⟩;rw[bs,QY,eo,SJ,a4];unfold dh;rw[PP (show(!Pr)=Pn from rfl),QY,P6,SJ];by_cases ev:v=absI lz
     ·subst ev;rw[PP rfl,PP<|PB rfl,Qu];rfl
     rw[PM ev,PM<|by lia];show _=_++(_++[])
     rw[QN]
   rintro O G8 ⟨x7,rfl,m1,m2,m3⟩;refine⟨_,_,_,rfl,m1,m2,m3.same λv S=>?_⟩;show _=be g n o v i++dh g (o.getD i []) v (bY n o i)
   rw[A',PJ<|Po _,bm,eo]
  obtain⟨ln,Z,rfl,B,M⟩:=aj rx;obtain⟨y0,Z,rfl,r0,M⟩:=ai M;obtain rfl:=aS r0;refine⟨_,rfl,(bA (Y _ _ B) (aE (j:=0) rfl)<|.inl ⟨rfl,_,rfl,?_⟩)⟩;rw[Pu (show V.str aZ≠V.str (PD "drop") by decide+kernel)];exact al ⟨_,_,_,rfl,J,X,a3 rfl⟩
 rintro O G6 ⟨x5,x6,x7,rfl,j1,j2,j3⟩;refine⟨_,rfl,l,rfl,⟨_,SqL.of<|j1 _ _ V0⟩,λL hL=>?_⟩;have nL:H L=none:=VZ.free<|j1.free hL;have aL:∀a∈r,a≠L:=λa ha z=>by
  obtain⟨m,hm⟩:=YZ ha;obtain⟨v,hv⟩:∃v,(aD t g)[m]?=gV v:=⟨_,K' (by have:=(N'.mp hm).1;lia)⟩;obtain⟨us,g1,S⟩:=j3.at_ m a v hm hv;lia
 refine bQ (K:=K) (a:=l) (xs:=(aD t g).map V.int) (NJ L H G6 d r t g n o) ⟨Pt,rfl,aa,ad hL _,.nil⟩ ?_ ?_ ?_
 ·rintro i O Z G7 S ⟨S,S,n2,n3,S⟩;exact⟨n2,SqL.of<|n3 _ _<|j1 _ _ V0⟩
 ·rintro i x O Z G7 hx ⟨v0,rfl,n2,n3,n4⟩;obtain⟨v,hv,rfl⟩:=tj hx;have Wy:i<(aD t g).length:=(N'.mp hv).1;obtain⟨C,I⟩:∃C,r[i]?=gV C:=⟨_,K' (by lia)⟩;obtain⟨us,g1,g2⟩:=j3.at_ i C v I hv;have a5:=Pq I;refine cy ⟨_,rfl,_,rfl,_,rfl,d,.ref C,rfl,.inl ⟨_,.inl v,Rd.of (n3 _ _ j2),rfl,(xq an hv I).symm⟩,(by show 3<=sizeLine;decide),λpt av=>?_⟩;have k8:=ad av (.tup [.int v,.ref C,.bl Pr]);have d8:=k8 _ _ n2;have a6:=n3.trans k8;have co:=Paired.length n4;rw[A',P9]at co;exists d8,cH (by lia),_,rfl,aa,a6.upd_new hL _;rw[Qb,hv,P6];refine lq (G:=PartAt H (upd (upd G7 pt (.tup [.int v,.ref C,.bl Pr])) L (.lst (Z++[.ref pt]))) L) (a:=(v,be g n o v n.length)) (λe y (z:PartAt H G7 L e y)=>PartAt.upd (z.mono k8) d8) n4 ⟨pt,C,us,rfl,?_,?_,?_,?_,aL C a5⟩
  ·rw[af (bi aa d8<|by simp),aa]
  ·rw[af<|aL C a5];exact a6 _ _ g1
  ·exact(g2.mono a6).upd d8
  exact VZ.free<|a9 C a5
 rintro O Z G7 ⟨S,S,n2,n3,n4⟩;rw[A',PJ<|Po _]at n4;exact q' L Z G7 (VZ.trans<|j1.trans n3) nL n2 n4
noncomputable abbrev Jn:QW:=bS 9
noncomputable abbrev HF:QW:=bS 10
noncomputable abbrev OW:QW:=bS 11
def N9(d:PK):Prop:=∀D,d=.tuple D->Rb (D.getD 0 .none)=Pn
inductive pM (vs:ab V)(H:Hp)(Q:VK)(E:XK):Prop
 |mk (v:V)(d:PK)(h0:vs=[v])(h:RD H d v)(a:Q (.bl<|lS d&&!nz d) H)
inductive gX (vs:ab V)(H:Hp)(Q:VK)(E:XK):Prop
 |mk (v:V)(d:PK)(many:Nat)(h0:vs=[v,.int (many:Int)])(h:RD H d v)(a:Q (.bl (aI many d).isSome) H)
inductive Ez (vs:ab V)(H:Hp)(Q:VK)(E:XK):Prop
 |mk (v:V)(d:PK)(w:Str)(n:Nat)(h0:vs=[v,.str w,.int (n:Int)])(h:RD H d v)(a:1<=n)(b:Rb (.str w)=Pn)(c:N9 d)(e:Q (.bl<|OD.formB w n d) H)
theorem pN(h:dy H s xs)(l:s.length=2):∃d D x X,s=[d,D]/\xs=[x,X]/\RD H d x/\RD H D X:=by
 have v:=c9 h
 match s,xs,l,v with
 |[d,D],[x,X],_,_=>exact⟨d,D,x,X,rfl,rfl,cQ (j:=0) h rfl,cQ (j:=1) h rfl⟩
theorem pO(h:dy H s xs)(l:s.length=3):∃d D a x X b,s=[d,D,a]/\xs=[x,X,b]/\RD H d x/\RD H D X/\RD H a b:=by
 have v:=c9 h
 match s,xs,l,v with
 |[d,D,a],[x,X,b],_,_=>exact⟨d,D,a,x,X,b,rfl,rfl,cQ (j:=0) h rfl,cQ (j:=1) h rfl,cQ (j:=2) h rfl⟩
theorem Lw:eH ["thing"] ["thing"] (aA Jn):=GW
theorem HG(F:Fun K "is_number" "is_number" Jn f c)(T:Bl m):ay P w K m b aV 1 f c ["thing"] pM:=by
 refine F.okA Lw λC A o s H e Q E r h=>?_;obtain⟨v,d,rfl,a,q⟩:=h;have n:=gM a;exists _,gg;exists _,rfl,v,_,"int",_,rfl,oH d v a,yg d n,_,rfl;cases I:lS d with
 |false=>
  rwa[I]at q
 |true=>
  rw[I]at q;exact ar ⟨_,rfl,v,_,"bool",_,rfl,oH d v a,um d n,_,rfl,q⟩
theorem A8(F:Fun K "is_place" "is_place" HF f k)(U:Fe P w K M b 1 "is_number" pM):ay P w K M b aV 2 f k ["thing","many"] gX:=by
 refine F.okB (N:=["thing","many"]) λC A o s H l Q E p r h=>?_;obtain⟨v,d,m,rfl,j,q⟩:=h;exists _,(di<|vS gg<|rK<|t_ oe qw cF (pv 0)<|pv 1);exists _,rfl,v,d,rfl,j,_,rfl;obtain⟨z,rfl⟩|n:=jP d
 ·obtain rfl:=aw j;have a:Q (.bl (if 0<=z/\z<(m)then gV _ else Pt).isSome) H:=q;exists _,rfl,_,_,rfl,rfl,_,rfl;by_cases g:0<=z
  ·rw[PB g];refine ar ⟨_,rfl,_,_,rfl,rfl,?_⟩;by_cases i:z<(m)
   ·simp_all
   rw[PM λc=>i c.2]at a;show Q (.bl _) H
   rwa[Pu i]
  rw[PM λc=>g c.1]at a;rwa[Pu g]
 rw[jm n];have e:aI m d=none:=by
  cases d with
  |int z=>lia
  |_=>rfl
 rwa[e]at q
theorem Lx(F:Fun K "begins_with" "begins_with" OW f p)(T:Bl M):ay P w K M B aV 1 f p ["thing","word","many"] Ez:=by
 refine F.okB (N:=["thing","word","many"]) λC A o s H u Q E y G h=>?_;obtain⟨v,d,W,n,rfl,i,I,j,k,q⟩:=h;have N:=gM i;exists _,gg;exists _,rfl,v,_,"tuple",_,rfl,oH d v i,lT d N,_,rfl;cases d with
 |tuple D=>
  obtain⟨a,x,rfl,l,m⟩:=aj i;have r:=c9 m;refine ar ⟨_,rfl,.ref a,_,rfl,.inr ⟨_,SqT.of l,rfl⟩,_,rfl,.inl ⟨rfl,_,rfl,?_⟩⟩;have c:Q (.bl (decide _&&mO W _)) H:=q;by_cases g:D.length=n
  ·rw[PB g]at c;have e:decide (V.int ((x.length))=V.int (n))=true:=PB (by rw[r,g]);rw[e];obtain⟨X,b⟩:∃X,x[0]?=gV X:=⟨_,K' (by lia)⟩;have t:=cQ m b;refine ar ⟨_,rfl,(bA l (aE b) ⟨_,rfl,.inr ⟨_,_,t,cR W,k D rfl,j,?_⟩⟩)⟩;rwa[uL]
  ·rw[Pu g]at c;have e:decide (V.int ((x.length))=V.int (n))=false:=Pu λz=>g (by lia);rwa[e]
 |_=>exact al q
noncomputable abbrev Jo:QW:=bS 38
noncomputable abbrev y_:QW:=bS 39
noncomputable abbrev EA:QW:=bS 40
noncomputable abbrev zb:QW:=bS 41
noncomputable abbrev Jp:QW:=bS 42
noncomputable def cw(t:Str)(z:Int):Px:=cD t (absI z-1).toNat
noncomputable def jG(t:Str):ab Int->Px
 |[z]=>cw t z
 |_=>Pr
noncomputable def cZ(c:ab Int)(z:Int):ab Int->Px
 |[]=>Pr
 |x::r=>if absI z<=absI x then Pr else if c.contains (-x)=Pn then Pn else cZ c z r
def xr(n:Nat)(c:ab Int):Prop:=∀l∈c,1<=absI l/\absI l<=(n:Int)
inductive i_ (vs:ab V)(H:Hp)(Q:VK)(E:XK):Prop
 |mk (p:C')(t:Str)(w:V)(z:Int)(hw:Px)(h0:vs=[.ref p,.int z,.str<|aq hw])(h:H p=gV (.tup [.str t,w]))(a:t.length<=900)(b:1<=absI z)(c:absI z<=(t.length:Int))(q:Q (.bl<|cw t z == hw) H)
inductive lu (vs:ab V)(H:Hp)(Q:VK)(E:XK):Prop
 |mk (p a:C')(t:Str)(w:V)(c:ab Int)(h0:vs=[.ref p,.ref a])(h:H p=gV (.tup [.str t,w]))(b:t.length<=900)(d:ki H a c)(e:xr t.length c)(q:Q (.bl<|jG t c) H)
inductive nO (vs:ab V)(H:Hp)(Q:VK)(E:XK):Prop
 |mk (a b:C')(c k:ab Int)(h0:vs=[.ref a,.ref b])(h:ki H a c)(d:ki H b k)(q:Q (.bl (k.all λz=>c.contains z)) H)
inductive pP (vs:ab V)(H:Hp)(Q:VK)(E:XK):Prop
 |mk (a b:C')(c k:ab Int)(z:Int)(h0:vs=[.ref a,.ref b,.int z])(h:ki H a c)(d:ki H b k)(q:Q (.bl<|cZ c z k) H)
inductive tp (vs:ab V)(H:Hp)(Q:VK)(E:XK):Prop
 |mk (a l:C')(c:ab Int)(z:Int)(xs:ab V)(cs:ab (ab Int))(h0:vs=[.ref a,.int z,.ref l])(h:ki H a c)(b:H l=gV (.lst xs))(d:CLs H cs xs)(q:Q (.bl (cs.all λk=>cZ c z k)) H)
theorem dI(c:ab Int):(c.map V.int).all jA=true:=by
 rw[TJ];exact Qv.mpr λz z=>rfl
inductive EB (H:Hp)(a b:C')(c k:ab Int)(i:Nat)(d:St)(h:Hp):Prop
 |mk (v:M' V)(h0:d=[gV (.ref a),gV (.ref b),v])(e:h=H)(f:((k.take i).all λz=>c.contains z)=Pn)
inductive EC (H:Hp)(a b:C')(z:Int)(c k:ab Int)(i:Nat)(d:St)(h:Hp):Prop
 |mk (v:M' V)(h0:d=[gV<|.ref a,gV<|.ref b,gV<|.int z,v])(e:h=H)(f:cZ c z k=cZ c z (k.drop i))
inductive Jq (H:Hp)(a l:C')(z:Int)(c:ab Int)(cs:ab (ab Int))(i:Nat)(b:St)(h:Hp):Prop
 |mk (v:M' V)(h0:b=[gV (.ref a),gV (.int z),gV (.ref l),v])(d:h=H)(e:((cs.take i).all λk=>cZ c z k)=Pn)
theorem HH(F:Fun K "is_of" "is_of" Jo f d)(T:Bl m)(Z:Fe P w K m b 1 "hand_of" l_):ay P w K m b aV 2 f d ["sentence","literal","hand"] i_:=by
 refine F.okB (N:=["sentence","literal","hand"]) λC A o s H v Q E l r h=>?_;obtain⟨p,t,w,z,a,rfl,c,g,n,u,q⟩:=h;refine⟨_,gg,?_⟩;obtain⟨i,j⟩:∃i:Nat,absI z=(i)+1:=⟨(absI z-1).toNat,by omega⟩;have e:(absI z-1).toNat=i:=by simp_all
 refine⟨_,rfl,_,rfl,z,rfl,p,t,w,i,?_,c,(by lia),g,_,rfl,.inl ⟨rfl,?_⟩⟩
 ·show [V.ref p,V.int<|absI z]=_
  rw[j]
 rw[ff];unfold cw at q;lia
theorem A9(F:Fun K "is_unit" "is_unit" y_ f i)(T:Bl m)(j:Fe P w K m B 2 "is_of" i_):ay P w K m B aV 3 f i ["sentence","clause"] lu:=by
 refine F.okB (N:=["sentence","clause"]) λC A o s H v Q E u D h=>?_;obtain⟨p,a,t,w,c,rfl,l,n,b,k,q⟩:=h;exists _,gg;refine⟨_,rfl,.ref a,_,rfl,.inr ⟨_,SqT.of b,rfl⟩,.inl ⟨rfl,_,rfl,?_⟩⟩
 match c,b,k,q with
 |[],b,k,q=>exact iA (λz=>absurd (V.int.inj<|PX z)<|by decide) λg=>q
 |[z],b,k,q=>
  have d:=k z P3;refine⟨_,rfl,_,rfl,(bA b rfl ⟨p,t,w,z,Pn,rfl,l,n,d.1,d.2,?_⟩)⟩;have e:Q (.bl<|cw t z) H:=q;simp_all
 |x::y::r,b,k,q=>exact iA (λz=>absurd (V.int.inj<|PX z)<|by simp;lia) λg=>q
theorem ED(F:Fun K "holds_all" "holds_all" EA f n):ay P w K M B aV 1 f n ["clause","literals"] nO:=by
 refine F.okB (N:=["clause","literals","literal"]) λC A o s H y Q E D G h=>?_;obtain⟨a,b,c,k,rfl,p,d,q⟩:=h;refine⟨_,(ae (fS 2 (bT<|pv 1) gg)
  (di gb)),⟨_,rfl,b,rfl,⟨_,SqT.of d⟩,eK (K:=K) (xs:=k.map V.int) (EB H a b c k) ⟨Pt,rfl,rfl,rfl⟩ ?_ ?_ ?_⟩⟩
 ·rintro i j l Z ⟨Z,Z,rfl,Z⟩;exact SqT.of d
 ·rintro i x j l t ⟨v,rfl,rfl,r⟩;obtain⟨z,rfl,m⟩:=cn t;have e:(if Pn=Pn then !g_ (.int z) (c.map V.int)else g_ (.int z) (c.map V.int))=!c.contains z:=by
   rw[PP rfl,bj]
  exists _,rfl,_,rfl,a,_,rfl,.inr<|SqT.of p,rfl,dI c,_,rfl;rw[e];cases g:c.contains z with
  |false=>
   have u:(k.all λz=>c.contains z)=false:=VJ.mpr ⟨z,Pq m,by lia⟩;rwa[u]at q
  |true=>
   refine al ⟨_,rfl,rfl,?_⟩;rw[Qb,m,Vc,r];show(c.contains z&&Pn)=Pn
   rw[g];rfl
 rintro j l ⟨v,rfl,rfl,r⟩;rw[PJ<|by rw[A'];exact Po _]at r;rwa[r]at q
theorem A_(F:Fun K "has_other_way" "has_other_way" zb f r)(T:Bl M):ay P w K M B aV 1 f r ["clause","other","literal"] pP:=by
 refine F.okB (N:=["clause","other","literal","ahead"]) λJ A o s H L Q E N O h=>?_;obtain⟨a,b,c,k,z,rfl,t,j,q⟩:=h;refine⟨_,(ae (fS 3 (bT<|pv 1) gg)
  (di gb)),?_⟩
 refine⟨_,rfl,b,rfl,⟨_,SqT.of j⟩,eK (K:=K) (xs:=k.map V.int) (EC H a b z c k) ⟨Pt,rfl,rfl,rfl⟩ ?_ ?_ ?_⟩
 ·rintro i l m Z ⟨Z,Z,rfl,Z⟩;exact SqT.of j
 ·rintro i x l m u ⟨v,rfl,rfl,d⟩;obtain⟨y,rfl,p⟩:=cn u;have C:k.drop i=y::k.drop (i+1):=by
   have D:=(N'.mp p).1;rw[RL D,(N'.mp p).2]
  have I:cZ c z (y::k.drop (i+1))=if absI z<=absI y then Pr else if c.contains _=Pn then Pn else cZ c z _:=rfl
  rw[C,I]at d;refine⟨_,rfl,y,rfl,_,rfl,z,rfl,_,_,rfl,rfl,_,rfl,iA (λg=>?_) λg=>?_⟩
  ·rw[PP (show absI z<=absI y from PX g)]at d;rwa[d]at q
  rw[PM (show¬absI z<=absI y from λn=>g<|PB n)]at d;have e:(if Pr=Pn then !g_ (.int (-y)) (c.map V.int)else g_ (.int (-y)) (c.map V.int))=c.contains (-y):=by
   rw[PM Pk,bj]
  exists _,rfl,_,rfl,_,rfl,a,_,rfl,.inr<|SqT.of t,rfl,dI c,_,rfl;rw[e];cases G:c.contains _ with
  |true=>
   rw[G]at d;rwa[d]at q
  |false=>
   rw[G]at d;exact al ⟨_,rfl,rfl,d⟩
 rintro l m ⟨v,rfl,rfl,d⟩;rw[S9<|by rw[A'];exact Po _]at d;rwa[d]at q
theorem HI(F:Fun K "is_blocked" "is_blocked" Jp f p)(t:Fe P w K M b 1 "has_other_way" pP):ay P w K M b aV 2 f p ["clause","literal","opposed"] tp:=by
 refine F.okB (N:=["clause","literal","opposed","other"]) λI A o s H J Q E L N h=>?_;obtain⟨a,l,c,z,X,C,rfl,u,e,d,q⟩:=h;refine⟨_,(ae (fS 3 (aO<|pv 2) gg)
  (di gb)),⟨_,rfl,l,rfl,⟨_,SqL.of e⟩,cx (K:=K) (xs:=X) (Jq H a l z c C) ⟨Pt,rfl,rfl,rfl⟩ ?_ ?_ ?_⟩⟩
 ·rintro i j m Z ⟨Z,Z,rfl,Z⟩;exact SqL.of e
 ·rintro i x j m v ⟨y,rfl,rfl,r⟩;obtain⟨k,n,T⟩:=d.get v;obtain⟨B,rfl,D⟩:=T;exists _,rfl,_,rfl,_,rfl,a,B,c,k,z,rfl,u,D,_,rfl;cases g:cZ c z k with
  |false=>
   have G:(C.all λk=>cZ c z k)=false:=VJ.mpr ⟨k,Pq n,by rw[g];exact Pk⟩;rwa[G]at q
  |true=>
   refine al ⟨_,rfl,rfl,?_⟩;rw[Qb,Vc,r];simp_all
 rintro j m ⟨y,rfl,rfl,r⟩;rw[PJ<|by rw[d.length];exact Po _]at r;rwa[r]at q
noncomputable abbrev EE:QW:=bS 43
noncomputable abbrev EF:QW:=bS 44
noncomputable abbrev EG:QW:=bS 45
noncomputable abbrev EH:QW:=bS 46
noncomputable abbrev NK:QW:=bS 47
def RC(H h:Hp)(o:M' (ab<|ab Int))(v:V):Prop:=
 match o with
 |none=>v=.non
 |some c=>∃(l:C') (x:ab V),v=.ref l/\H l=Pt/\h l=gV (.lst x)/\CLs h c x
noncomputable def dC(c:ab (ab Int))(i:Nat):ab (ab Int):=c.take i++c.drop (i+1)
noncomputable def rn(t:Str)(c:ab (ab Int))(d:PK):M' (ab<|ab Int):=(aI c.length d).map λi=>c.take i++[ao t Pr<|c.getD i []]++c.drop (i+1)
noncomputable def ro(t:Str)(c:ab (ab Int))(d:PK):M' (ab<|ab Int):=(aI c.length d).bind λi=>if jG t (c.getD i [])=Pn then gV (bp ((c.getD i []).getD 0 0) c)else Pt
noncomputable def m7(t:Str)(C:ab (ab Int)):PK->M' (ab<|ab Int)
 |.int z=>if((C.any λc=>c.contains z)&&!(C.any λc=>c.contains (-z)))=Pn then gV (bp (if cw t z=Pn then z else -z) C)else Pt
 |_=>Pt
noncomputable def rq(c:ab (ab Int))(d e:PK):M' (ab<|ab Int):=(aI c.length d).bind λi=>(aI c.length e).bind λj=>if(!decide (i=j)&&((c.getD j []).all λz=>(c.getD i []).contains z))=Pn then gV (dC c i)else Pt
noncomputable def fo(t:Str)(C:ab (ab Int))(i:Nat)(z:Int):Px:=(C.getD i []).contains z&&(cw t z&&((C.filter λc=>c.contains (-z)).all λk=>cZ (C.getD i []) z k))
noncomputable def ja(t:Str)(c:ab (ab Int))(d:PK):PK->M' (ab<|ab Int)
 |.int z=>(aI c.length d).bind λi=>if fo t c i z=Pn then gV (dC c i)else Pt
 |_=>Pt
structure SentAt (H:Hp)(p q:C')(t:Str)(xs:ab V)(cs:ab (ab Int)):Prop where
 hp:H p=gV (.tup [.str t,.ref q])
 hq:H q=gV (.lst xs)
 hcs:CLs H cs xs
 ht:t.length<=30
 hn:cs.length<=400
 hok:∀c∈cs,xr t.length c
 hc:∀c∈cs,c.length<=60
inductive O9 (b:Str->ab (ab Int)->PK->M' (ab<|ab Int))(vs:ab V)(H:Hp)(Q:VK):Prop
 |mk (p q:C')(t:Str)(xs:ab V)(cs:ab (ab Int))(v:V)(d:PK)(h0:vs=[.ref p,v])(c:SentAt H p q t xs cs)(e:RD H d v)(f:∀a h,Same H h->RC H h (b t cs d) a->Q a h)
def Ba(b:Str->ab (ab Int)->PK->M' (ab<|ab Int)):Sp:=λv H Q _=>O9 b v H Q
inductive O_ (b:Str->ab (ab Int)->PK->PK->M' (ab<|ab Int))(vs:ab V)(H:Hp)(Q:VK):Prop
 |mk (p q:C')(t:Str)(xs:ab V)(cs:ab (ab Int))(v w:V)(d e:PK)(h0:vs=[.ref p,v,w])(c:SentAt H p q t xs cs)(f:RD H d v)(g:RD H e w)(i:∀a h,Same H h->RC H h (b t cs d e) a->Q a h)
def HJ(b:Str->ab (ab Int)->PK->PK->M' (ab<|ab Int)):Sp:=λv H Q _=>O_ b v H Q
inductive jt (vs:ab V)(H:Hp)(Q:VK)(E:XK):Prop
 |mk (p:C')(l:Int)(xs:ab V)(cs:ab (ab Int))(h0:vs=[.ref p,.int l])(a:H p=gV (.lst xs))(b:CLs H cs xs)(d:cs.length<=900)(e:∀c∈cs,c.length<=900)(f:∀(q:C') (ys:ab V) (h:Hp),Same H h->H q=Pt->h q=gV (.lst ys)->CLs h (bp l cs) ys->Q (.ref q) h)
theorem vt(h:jG t c=Pn):∃z,c=[z]:=by
 match c,h with
 |[z],_=>lia
theorem fW(h:CLs H C xs)(d:i<C.length):∃t,xs[i]?=gV (.ref t)/\ki H t (C.getD i [])/\C.getD i []∈C:=by
 have l:=h.length;obtain⟨x,a⟩:∃x,xs[i]?=gV x:=⟨_,K' (QH d (VC l))⟩;obtain⟨c,b,t,rfl,Q⟩:=h.get a;have e:C.getD i []=c:=by rw[B',b];rfl
 rw[e];exact⟨t,a,Q,Pq b⟩
def gC{K:J'}{a:C'}{C:ab (ab Int)}{xs:ab V}{Z:Hp}{g:TG}{T:TS}{D:hH}{b:St}{H:Hp}(m:CLs Z C xs)(q:Z a=gV (.lst xs))(Pv:Nat->St->Hp->Prop)(e:∀i b H,Pv i b H->Same Z H)(j:Pv 0 b H)
  (s:∀(i:Nat) c h G t L,i<C.length->C.getD i []∈C->Pv i c h->Same Z G->Same h G->G t=gV (.tup [.int i,.ref L])->ki Z L (C.getD i [])->g (.ref t) c G λc f=>T {D with nx:=Pv<|i+1,ct:=Pv<|i+1,bk:=D.nx} c f)(k:∀b H,Pv C.length b H->D.nx b H):=
 gN (K:=K) (a:=a) (xs:=xs) Pv j (λi b H _ h=>SqL.of<|e i b H h _ _ q) (λi x c h t y p n=>by
  have l:=m.length;have o:i<C.length:=by
   have:=(N'.mp y).1;lia
  obtain⟨L,M,u,v⟩:=fW m o;rw[y]at M;cases M;have k:=ad n<|.tup [.int (i:Int),.ref L];exact s i c h _ t L o v p ((e i c h p).trans k) k aa u) (m.length▸k)
theorem lS{p:Nat->Prop}(W:∀k,k<i->p k)(h:p i):∀k,k<i+1->p k:=λk l=>by
 by_cases e:k<i
 ·exact W k e
 have:k=i:=by lia
 rwa[this]
theorem EI(F:Fun K "behind_drop" "behind_drop" EE f D)(T:Bl M)(UO:Fe P w K M b 2 "is_place" gX)(WG:Fe P w K M b 3 "dropped" eE):ay P w K M b aV 4 f D ["sentence","place"] (Ba rn):=by
 refine F.okB (N:=["sentence","place","clauses"]) λQC A o s H vs Q E sc hr h=>?_;obtain⟨p,q,t,x,C,v,d,rfl,S,r,a⟩:=h;have G:=S.hcs.length;refine⟨_,(ae gg
  (ae gg
  (di<|cN fK (cN fK (du fw (pv 2) eM gg) gg)<|du fw (pv 2) gg eM))),?_⟩
 refine⟨_,rfl,(bA S.hp rfl ?_)⟩;exists _,rfl,_,rfl,.ref q,_,rfl,.inl ⟨_,SqL.of S.hq,rfl⟩,v,d,C.length,(by rw[G];rfl),r,_,rfl;unfold rn at a;cases e:aI _ d with
 |none=>
  rw[e]at a;exact ar<|a _ _ (Same.refl _) rfl
 |some i=>
  rw[e]at a;obtain⟨I,rfl⟩:=aB e;obtain rfl:=aw r;obtain⟨J,N,O,u⟩:=fW S.hcs I;have ht:=S.ht;have hn:=S.hn;refine al<|⟨_,rfl,_,rfl,_,rfl,q,x,rfl,SqL.of S.hq,λL U=>?_⟩;rw[wF];have k:=ad U<|.lst<|x.take i;have y:=cm k;refine⟨_,rfl,_,rfl,_,rfl,(fY (k _ _ S.hq) (aE N) ⟨p,J,t,_,Pr,_,rfl,k _ _ S.hp,(by lia),k _ _ O,S.hc _ u,S.hok _ u,λl H2 g W=>⟨(by show 1<=sizeLine;decide),λX Y=>?_⟩⟩)⟩;have c:=ad Y<|.lst [.ref l];refine⟨L,X,_,_,rfl,rfl,(g.trans c) _ _ y,aa,QA<|ak (by grind),λZ q4=>?_⟩;have j:=ad q4<|.lst<|x.take i++[.ref l];refine⟨_,rfl,_,rfl,_,_,rfl,rfl,_,rfl,q,x,rfl,SqL.of<|(k.trans<|g.trans<|c.trans j) _ _ S.hq,λl5 q5=>?_⟩;have ec:dE x (gV<|(i)+1) Pt=x.drop _:=iP x<|i+1;rw[ec];have m:=ad q5<|.lst<|x.drop<|i+1;refine⟨Z,l5,_,_,rfl,rfl,m _ _ aa,aa,QA<|ak (by grind),λl6 z=>?_⟩;have B:=ad z<|.lst<|x.take i++[.ref l]++x.drop (i+1);have n:=k.trans<|g.trans<|c.trans<|j.trans<|m.trans B;exact a _ _ n ⟨l6,_,rfl,(k.trans<|g.trans<|c.trans<|j.trans m).free z,aa,cV (cV (gn i<|S.hcs.mono n)<|Paired.cons ⟨l,rfl,(c.trans<|j.trans<|m.trans B) _ _ W⟩ .nil)<|gr _<|S.hcs.mono n⟩
theorem EJ(F:Fun K "behind_unit" "behind_unit" EF f y)(T:Bl m)(Z:Fe P w K m b 2 "is_place" gX)(B:Fe P w K m b 3 "is_unit" lu)(Zh:Fe P w K m b 1 "clauses_behind" jt):ay P w K m b aV 4 f y ["sentence","place"] (Ba ro):=by
 refine F.okB (N:=["sentence","place","clauses"]) λQC A o s H vs Q E sc hr h=>?_;obtain⟨p,q,t,X,C,v,d,rfl,S,r,a⟩:=h;have D:=S.hcs.length;exists _,gg;refine⟨_,rfl,(bA S.hp rfl ?_)⟩;exists _,rfl,_,rfl,.ref q,_,rfl,.inl ⟨_,SqL.of S.hq,rfl⟩,v,d,C.length,(by rw[D];rfl),r,_,rfl;unfold ro at a;cases e:aI _ d with
 |none=>
  rw[e]at a;exact ar<|ar<|a _ _ (Same.refl _) rfl
 |some i=>
  rw[e]at a;obtain⟨G,rfl⟩:=aB e;obtain rfl:=aw r;obtain⟨I,x,k,J⟩:=fW S.hcs G;have ht:=S.ht;have hn:=S.hn;have L:=S.hc;have j:∀u n,Same H n->RC H n (if jG t _=Pn then gV _ else Pt) u->Q u n:=a;refine al ⟨_,rfl,_,rfl,_,rfl,(fY S.hq (aE x) ⟨p,I,t,_,_,rfl,S.hp,(by lia),k,S.hok _ J,_,rfl,?_⟩)⟩;cases g:jG t _ with
  |false=>
   rw[g]at j;exact ar<|j _ _ (Same.refl _) rfl
  |true=>
   rw[g]at j;obtain⟨z,M⟩:=vt g;rw[M]at k j;exact al ⟨_,rfl,_,rfl,_,rfl,(fY S.hq (aE x)<|bA k rfl ⟨q,z,X,C,rfl,S.hq,S.hcs,(by lia),(λc h=>by have:=L c h;lia),λl Y H1 N O U W=>j _ _ N ⟨l,Y,rfl,O,U,W⟩⟩)⟩
theorem EK(F:Fun K "behind_within" "behind_within" EH f U)(T:Bl m)(UO:Fe P w K m b 2 "is_place" gX)(W:Fe P w K m b 1 "holds_all" nO):ay P w K m b aV 3 f U ["sentence","place","within"] (HJ λV=>rq):=by
 refine F.okB (N:=["sentence","place","within","clauses"]) λQC A o s H vs Q E sc hr h=>?_;obtain⟨p,q,t,x,c,v,w,d,e,rfl,S,G,I,a⟩:=h;have J:=S.hcs.length;refine⟨_,(ae gg
  (ae gg
  (ae gg
  (di<|cN fK (du fw (pv 3) eM gg)<|du fw (pv 3) gg eM)))),?_⟩
 refine⟨_,rfl,(bA S.hp rfl ?_)⟩;exists _,rfl,_,rfl,.ref q,_,rfl,.inl ⟨_,SqL.of S.hq,rfl⟩,v,d,c.length,(by rw[J];rfl),G,_,rfl;unfold rq at a;cases l:aI _ d with
 |none=>
  rw[l]at a;exact ar<|ar<|a _ _ (Same.refl _) rfl
 |some i=>
  rw[l]at a;obtain⟨X,rfl⟩:=aB l;obtain rfl:=aw G;refine al ⟨_,rfl,_,rfl,.ref q,_,rfl,.inl ⟨_,SqL.of S.hq,rfl⟩,w,e,c.length,(by rw[J];rfl),I,_,rfl,?_⟩;cases n:aI _ e with
  |none=>
   rw[n]at a;exact ar<|ar<|a _ _ (Same.refl _) rfl
  |some j=>
   rw[n]at a;obtain⟨Y,rfl⟩:=aB n;obtain rfl:=aw I;have hn:=S.hn;have k:∀L r,Same H r->RC H r (if(!decide _&&((c.getD j []).all _))=Pn then gV _ else Pt) L->Q L r:=a;refine al ⟨_,rfl,_,rfl,.inl ⟨rfl,_,rfl,iA (λg=>?_) λg=>?_⟩⟩
   ·have u:i=j:=by
     lia
    rw[PB u]at k;exact k _ _ (Same.refl _) rfl
   have N:i≠j:=λz=>g (PB<|by rw[z]);rw[Pu N]at k;obtain⟨Z,hx,Q7,hm⟩:=fW S.hcs X;obtain⟨td,hy,y,ac⟩:=fW S.hcs Y;refine⟨_,rfl,_,rfl,(fY S.hq (aE hx) ⟨_,rfl,_,rfl,(fY S.hq (aE hy) ⟨Z,td,_,_,rfl,Q7,y,_,rfl,?_⟩)⟩)⟩;cases M:((c.getD j []).all _)with
   |false=>
    rw[M]at k;exact ar<|k _ _ (Same.refl _) rfl
   |true=>
    rw[M]at k;refine al<|⟨_,rfl,_,rfl,_,rfl,q,x,rfl,SqL.of S.hq,λl1 q1=>?_⟩;rw[wF];have B:=ad q1<|.lst<|x.take i;refine⟨_,rfl,_,rfl,_,_,rfl,rfl,_,rfl,q,x,rfl,SqL.of<|B _ _ S.hq,λl5 q5=>?_⟩;have ec:dE x (gV<|(i)+1) Pt=x.drop _:=iP x<|i+1;rw[ec];have C:=ad q5<|.lst<|x.drop<|i+1;refine⟨l1,l5,_,_,rfl,rfl,C _ _ aa,aa,QA (ak<|by grind),λl6 O=>?_⟩;have D:=B.trans<|C.trans<|ad O<|.lst<|x.take i++x.drop (i+1);exact k _ _ D ⟨l6,_,rfl,(B.trans C).free O,aa,cV (gn i<|S.hcs.mono D)<|gr _<|S.hcs.mono D⟩
noncomputable def eA(H:Hp)(z:Int)(x:V):Px:=match x with
 |.ref p=>match H p with
  |some (.tup Z)=>Z.contains<|.int z
  |_=>Pr
 |_=>Pr
theorem Bb(z:ab Int)(l:Int):(z.map V.int).contains (.int l)=z.contains l:=by
 simp
theorem gY(h:CL H k x):eA H z x=k.contains z:=by
 obtain⟨p,rfl,a⟩:=h;unfold eA;simp only[a];exact Bb k z
theorem tu:∀{C:ab (ab Int)} {xs:ab V},CLs H C xs->xs.any (eA H z)=C.any λc=>c.contains z
 |_,_,.nil=>rfl
 |k::C,x::xs,.cons h t=>by
  rw[R0,R0,gY h,tu t]
theorem pQ:∀{C:ab (ab Int)} {xs:ab V},CLs H C xs->CLs H (C.filter λc=>c.contains z) (xs.filter<|eA H z)
 |_,_,.nil=>.nil
 |k::C,x::xs,.cons h t=>by
  cases g:k.contains z with
  |true=>
   rw[QK (by exact g),QK<|by rwa[gY h]];exact .cons h<|pQ t
  |false=>
   rw[QP (by lia),QP<|by rw[gY h,g];decide];exact pQ t
theorem zc{a:Type}(l:ab a)(f:a->Px):((l.map λx=>V.bl<|f x).all uu)=Pn/\(l.map λx=>V.bl<|f x).any iB=l.any f:=by
 refine⟨by rw[TJ];exact Qv.mpr λz z=>rfl,?_⟩;rw[Uh];rfl
theorem EL(F:Fun K "behind_pure" "behind_pure" EG f fd)(T:Bl M)(UT:Fe P w K M b 1 "is_number" pM)(am:Fe P w K M b 2 "is_of" i_)(Zh:Fe P w K M b 1 "clauses_behind" jt):ay P w K M b aV 3 f fd ["sentence","literal"] (Ba m7):=by
 refine F.okB (N:=["sentence","literal","clauses"]) λQC A O s H vs Q E sc hr h=>?_;obtain⟨p,q,t,X,C,v,d,rfl,S,hd,I⟩:=h;have P1:=S.hcs.length;have hn:=S.hn;have hc:=S.hc;have ht:=S.ht;refine⟨_,(ae gg
  (ae (bu (PW.pt<|t5 gg<|vR<|iG<|gH<|aR (iM rfl) rfl T.any Tn<|gT<|jR ["clause","literal"] [Pt,gV 1] (aO<|pv 2) (e:=λ_ _ _ _=>(jh (fM (K:=K) rfl) (pv 1) (pv 0)<|by rfl))) (di gG) aK)
  (ae (bu (gH<|aR (iM rfl) rfl T.any Tn<|gT<|jR ["clause","literal"] [Pt,gV 1] (aO<|pv 2) (e:=λ_ _ _ _=>(jh (fM (K:=K) rfl) gg (pv 0)<|by rfl))) (di gG) aK)
  gg))),?_⟩
 refine⟨_,rfl,(bA S.hp rfl ?_)⟩;exists _,rfl,v,d,rfl,hd,_,rfl;obtain⟨z,rfl⟩|m:=jP d
 rotate_left
 ·rw[jm m];have e:m7 t C d=none:=by
   cases d with
   |int z=>lia
   |_=>rfl
  rw[e]at I;exact ar<|ar<|I _ _ (Same.refl _) rfl
 obtain rfl:=aw hd;have g:∀n a,Same H a->RC H a (if((C.any λc=>c.contains z)&&!(C.any λc=>c.contains (-z)))=Pn then gV (bp (if cw t z=Pn then z else -z) C)else Pt) n->Q n a:=I;refine al ⟨_,rfl,q,rfl,⟨_,SqL.of S.hq⟩,λD hD=>?_⟩;refine cU [gV<|.int z] (λ_=>Pn) (λx=>.bl<|eA H z x) rfl S.hq hD (by lia) ?_ ?_ ?_
 ·intro x o a R k r;exact r
 ·intro x o _ a R k r;obtain⟨i,J⟩:=Q6.mp o;obtain⟨u,_,y⟩:=S.hcs.get J;rw[gY y]at r;obtain⟨L,rfl,N⟩:=y;exists _,rfl,_,rfl,L,_,rfl,.inr<|SqT.of<|k _ _ N,rfl,dI u;show R (.bl<|g_ (.int z)<|u.map V.int) a
  rw[bj];exact r
 have ef:(X.filter λ_=>Pn)=X:=Rq.mpr λ_ _=>rfl;rw[ef];have ea:=zc X<|eA H z;have j:=ad hD<|.lst<|X.map λx=>.bl<|eA H z x;have r1:=cm j;generalize upd H D (.lst<|X.map λx=>.bl<|eA H z x)=H1 at j r1;exists D,_,rfl,SqL.of r1,ea.1,_,rfl;rw[ea.2,tu S.hcs];cases U:(C.any _)with
 |false=>
  rw[U]at g;exact ar<|g _ _ j rfl
 |true=>
 rw[U]at g;refine al ⟨_,rfl,q,rfl,⟨_,SqL.of<|j _ _ S.hq⟩,λW ZG=>cU [gV<|.int z] (λ_=>Pn) (λx=>.bl<|eA H (-z) x) rfl (j _ _ S.hq) ZG (by lia) ?_ ?_ ?_⟩
 ·intro x o a R k r;exact r
 ·intro x o _ a R k r;obtain⟨i,J⟩:=Q6.mp o;obtain⟨u,_,y⟩:=S.hcs.get J;rw[gY y]at r;obtain⟨L,rfl,N⟩:=y;exists _,rfl,_,rfl,_,rfl,L,_,rfl,.inr<|SqT.of<|k _ _<|j _ _ N,rfl,dI u;show R (.bl<|g_ (.int _)<|u.map _) a
  rwa[bj]
 rw[ef];have B:=zc X<|eA H (-z);have k2:=ad ZG<|.lst<|X.map λx=>.bl<|eA H (-z) x;have r2:=cm k2;generalize upd H1 W (.lst<|X.map λx=>.bl<|eA H _ x)=H2 at k2 r2;exists W,_,rfl,SqL.of r2,B.1,_,rfl;rw[B.2,tu S.hcs];have Z:=j.trans k2;cases g2:(C.any λc=>c.contains _)with
 |true=>
  rw[g2]at g;exact ar<|g _ _ Z rfl
 |false=>
 rw[g2]at g;obtain⟨c0,Y,ac⟩:=P'.mp U;have hz:=S.hok c0 Y z<|Py.mp ac;have G:∀n a,Same H a->RC H a _ n->Q n a:=g;refine al ⟨_,rfl,_,rfl,_,rfl,p,t,_,z,Pn,rfl,Z _ _ S.hp,(by lia),hz.1,hz.2,_,rfl,?_⟩;cases g3:cw t z with
 |true=>
  rw[g3]at G;exact ar ⟨_,rfl,q,z,X,C,rfl,Z _ _ S.hq,S.hcs.mono Z,(by lia),(λc h=>by have:=hc c h;lia),λl ys H3 k3 n3 r3 c3=>G _ _ (Z.trans k3) ⟨l,ys,rfl,Z.free n3,r3,c3⟩⟩
 |false=>
  rw[g3]at G;exact al ⟨_,rfl,_,rfl,q,-z,X,C,rfl,Z _ _ S.hq,S.hcs.mono Z,(by lia),(λc h=>by have:=hc c h;lia),λl ys H3 k3 n3 r3 c3=>G _ _ (Z.trans k3) ⟨l,ys,rfl,Z.free n3,r3,c3⟩⟩
theorem Ly(F:Fun K "behind_blocked" "behind_blocked" NK f fd)(T:Bl m)(UO:Fe P w K m b 2 "is_place" gX)(UT:Fe P w K m b 1 "is_number" pM)(ac:Fe P w K m b 2 "is_of" i_)(am:Fe P w K m b 2 "is_blocked" tp):ay P w K m b aV 3 f fd ["sentence","place","literal"] (HJ ja):=by
 refine F.okB (N:=["sentence","place","literal","clauses","opposed"]) λQC A O s H vs Q E sc hr h=>?_;obtain⟨p,q,t,X,C,v,w,d,e,rfl,S,W,Y,l⟩:=h;have P1:=S.hcs.length;have hn:=S.hn;have ht:=S.ht;refine⟨_,(ae gg
  (ae gg
  (ae (K4 4 ["clause","literal"] [Pt,gV 2] (aO<|pv 3) (t:=λ_ _ _ _=>(dA<|gi (fM (K:=K) rfl) gg (pv 0)<|by rfl)))
  (ae gg
  (di<|cN fK (du fw (pv 3) eM gg)<|du fw (pv 3) gg eM))))),?_⟩
 refine⟨_,rfl,(bA S.hp rfl ?_)⟩;exists _,rfl,_,rfl,.ref q,_,rfl,.inl ⟨_,SqL.of S.hq,rfl⟩,v,d,C.length,(by rw[P1];rfl),W,_,rfl;cases y:aI C.length d with
 |none=>
  have B:ja t C d e=none:=by
   cases e with
   |int z=>
    show(aI C.length d).bind _=Pt
    rw[y];rfl
   |_=>rfl
  rw[B]at l;exact ar<|ar<|l _ _ (Same.refl _) rfl
 |some i=>
 obtain⟨G,rfl⟩:=aB y;obtain rfl:=aw W;refine al ⟨_,rfl,w,e,rfl,Y,_,rfl,?_⟩;obtain⟨z,rfl⟩|n:=jP e
 rotate_left
 ·rw[jm n];have B:ja t C (.int (i:Int)) e=none:=by
   cases e with
   |int z=>lia
   |_=>rfl
  rw[B]at l;exact ar<|ar<|l _ _ (Same.refl _) rfl
 obtain rfl:=aw Y;obtain⟨Z,o,Q7,hm⟩:=fW S.hcs G;have a:∀u j,Same H j->RC H j (if fo t C i z=Pn then gV (dC C i)else Pt) u->Q u j:=λu j k r=>l u j k (by
  show RC H j ((aI C.length<|.int (i:Int)).bind _) u
  rw[y];exact r)
 unfold fo at a;have e:(if Pn=Pn then !g_ (.int z) ((C.getD i []).map V.int)else g_ (.int z) ((C.getD i []).map V.int))=!(C.getD i []).contains z:=by
  rw[PP rfl,bj]
 refine al ⟨_,rfl,_,rfl,_,rfl,(fY S.hq (aE o) ⟨Z,_,rfl,.inr<|SqT.of Q7,rfl,dI _,_,rfl,?_⟩)⟩;rw[e];cases I:(C.getD i []).contains z with
 |false=>
  rw[I]at a;exact ar<|a _ _ (Same.refl _) rfl
 |true=>
 rw[I]at a;have c:=S.hok _ hm z<|Py.mp I;refine al ⟨_,rfl,q,rfl,⟨_,SqL.of S.hq⟩,λD hD=>?_⟩;refine cU [gV<|.int z] (eA H (-z)) (λx=>x) rfl S.hq hD (by lia) ?_ ?_ ?_
 ·intro x o j R k r;obtain⟨i,G⟩:=Q6.mp o;obtain⟨kc,_,TQ⟩:=S.hcs.get G;rw[gY TQ]at r;obtain⟨td,rfl,J⟩:=TQ;exists _,rfl,_,rfl,_,rfl,td,_,rfl,.inr<|SqT.of<|k _ _ J,rfl,dI kc,_,rfl;show R (g_ (.int (-z))<|kc.map V.int) j
  rw[bj];exact r
 ·intro x o _ j R k r;exact⟨_,rfl,r⟩
 rw[WJ];have g:=ad hD<|.lst<|X.filter<|eA H (-z);have r1:=cm g;generalize upd H D (.lst<|X.filter<|eA H _)=H1 at g r1;have L:=(pQ (z:=-z) S.hcs).mono g;exists _,rfl,_,rfl,p,t,_,z,Pn,rfl,g _ _ S.hp,(by lia),c.1,c.2,_,rfl;cases g2:cw t z with
 |false=>
  rw[g2]at a;exact ar<|ar<|a _ _ g rfl
 |true=>
 rw[g2]at a;refine al ⟨_,rfl,_,rfl,(fY (g _ _ S.hq) (aE o) ⟨_,rfl,_,rfl,Z,D,_,z,_,_,rfl,g _ _ Q7,r1,L,_,rfl,?_⟩)⟩;cases g3:((C.filter _).all λk=>cZ _ z k)with
 |false=>
  rw[g3]at a;exact ar<|a _ _ g rfl
 |true=>
  rw[g3]at a;refine al<|⟨_,rfl,_,rfl,_,rfl,q,X,rfl,SqL.of<|g _ _ S.hq,λl1 q1=>?_⟩;rw[wF];have M:=ad q1<|.lst<|X.take i;refine⟨_,rfl,_,rfl,_,_,rfl,rfl,_,rfl,q,X,rfl,SqL.of<|(g.trans M) _ _ S.hq,λl5 q5=>?_⟩;have ec:dE X (gV<|(i)+1) Pt=X.drop _:=iP X<|i+1;rw[ec];have N:=ad q5<|.lst<|X.drop<|i+1;refine⟨l1,l5,_,_,rfl,rfl,N _ _ aa,aa,QA (ak<|by grind),λl6 q6=>?_⟩;have U:=g.trans<|M.trans<|N.trans<|ad q6<|.lst<|X.take i++X.drop (i+1);exact a _ _ U ⟨l6,_,rfl,(g.trans<|M.trans N).free q6,aa,cV (gn i<|S.hcs.mono U)<|gr _<|S.hcs.mono U⟩
noncomputable abbrev EM:QW:=bS 48
noncomputable abbrev xu:QW:=bS 49
noncomputable def eB:Str:=PD "unit"
noncomputable def dW:Str:=PD "pure"
noncomputable def bZ:Str:=PD "within"
noncomputable def bE:Str:=PD "blocked"
theorem zd:Rb (.str ax)=true:=Nice.shaped (dQ 8<|by decide+kernel)
theorem ze:Rb (.str eB)=true:=Nice.shaped (dQ 8<|by decide+kernel)
theorem zf:Rb (.str dW)=true:=Nice.shaped (dQ 8<|by decide+kernel)
theorem rA:Rb (.str bZ)=true:=Nice.shaped (dQ 8<|by decide+kernel)
theorem pR:Rb (.str bE)=true:=Nice.shaped (dQ 8<|by decide+kernel)
noncomputable def aP(t:Str)(c:ab (ab Int))(d:PK):M' (ab<|ab Int):=
 if formB ax 2 d=Pn then rn t c (fN d 1)
 else if formB eB 2 d=Pn then ro t c (fN d 1)
 else if formB dW 2 d=Pn then m7 t c (fN d 1)
 else if formB bZ 3 d=Pn then rq c (fN d 1) (fN d 2)
 else if formB bE 3 d=Pn then ja t c (fN d 1) (fN d 2)
 else Pt
inductive tz (vs:ab V)(H:Hp)(Q:VK)(E:XK):Prop
 |mk (p q:C')(t:Str)(xs:ab V)(cs:ab (ab Int))(v:V)(d:PK)(h0:vs=[.ref p,v])(b:SentAt H p q t xs cs)(c:RD H d v)(e:N9 d)(f:∀a h,Same H h->RC H h (aP t cs d) a->Q a h)
theorem EN(F:Fun K "clauses_after" "clauses_after" EM f O)(T:Fe P w K m B 1 "begins_with" Ez)(U:Fe P w K m B 4 "behind_drop" (Ba rn))(W:Fe P w K m B 4 "behind_unit" (Ba ro))(Y:Fe P w K m B 3 "behind_pure" (Ba m7))(ac:Fe P w K m B 3 "behind_within" (HJ λV=>rq))(am:Fe P w K m B 3 "behind_blocked" (HJ ja)):ay P w K m B aV 5 f O ["sentence","step"] tz:=by
 refine F.okB (N:=["sentence","step"]) λQC A o s H vs Q E sc hr h=>?_;obtain⟨p,q,t,X,C,v,d,rfl,S,g,c,a⟩:=h;exists _,gg;unfold aP at a;exists _,rfl,v,d,ax,2,rfl,g,by simp,zd,c,_,rfl;cases u:formB ax 2 d with
 |true=>
  rw[u,PP rfl]at a;obtain⟨i,rfl,l⟩:=dS u;obtain⟨b,Z,rfl,e,z⟩:=aj g;obtain⟨j,D,k,x,rfl,rfl,n,r⟩:=pN z l;exact ar ⟨_,rfl,_,rfl,(bA e rfl ⟨p,q,t,X,C,x,D,rfl,S,r,a⟩)⟩
 |false=>
 rw[u,PM Pk]at a;refine al ⟨_,rfl,v,d,eB,2,rfl,g,by simp,ze,c,_,rfl,?_⟩;cases y:formB eB 2 d with
 |true=>
  rw[y,PP rfl]at a;obtain⟨i,rfl,l⟩:=dS y;obtain⟨b,Z,rfl,e,z⟩:=aj g;obtain⟨j,D,k,x,rfl,rfl,n,r⟩:=pN z l;exact ar ⟨_,rfl,_,rfl,(bA e rfl ⟨p,q,t,X,C,x,D,rfl,S,r,a⟩)⟩
 |false=>
 rw[y,PM Pk]at a;refine al ⟨_,rfl,v,d,dW,2,rfl,g,by simp,zf,c,_,rfl,?_⟩;cases G:formB dW 2 d with
 |true=>
  rw[G,PP rfl]at a;obtain⟨i,rfl,l⟩:=dS G;obtain⟨b,Z,rfl,e,z⟩:=aj g;obtain⟨j,D,k,x,rfl,rfl,n,r⟩:=pN z l;exact ar ⟨_,rfl,_,rfl,(bA e rfl ⟨p,q,t,X,C,x,D,rfl,S,r,a⟩)⟩
 |false=>
 rw[G]at a;refine al ⟨_,rfl,v,d,bZ,3,rfl,g,by simp,rA,c,_,rfl,?_⟩;cases I:formB bZ 3 d with
 |true=>
  rw[I,PP rfl]at a;obtain⟨i,rfl,l⟩:=dS I;obtain⟨b,Z,rfl,e,z⟩:=aj g;obtain⟨j,D,J,k,x,L,rfl,rfl,n,r,M⟩:=pO z l;exact ar ⟨_,rfl,_,rfl,(bA e rfl ⟨_,rfl,(bA e rfl ⟨p,q,t,X,C,x,L,D,J,rfl,S,r,M,a⟩)⟩)⟩
 |false=>
 rw[I]at a;refine al ⟨_,rfl,v,d,bE,3,rfl,g,by simp,pR,c,_,rfl,?_⟩;cases N:formB bE 3 d with
 |true=>
  rw[N]at a;obtain⟨i,rfl,l⟩:=dS N;obtain⟨b,Z,rfl,e,z⟩:=aj g;obtain⟨j,D,J,k,x,L,rfl,rfl,n,r,M⟩:=pO z l;exact ar ⟨_,rfl,_,rfl,(bA e rfl ⟨_,rfl,(bA e rfl ⟨p,q,t,X,C,x,L,D,J,rfl,S,r,M,a⟩)⟩)⟩
 |false=>
  rw[N]at a;exact al<|a _ _ (Same.refl _) rfl
theorem zg:eH ["sentence","step","clauses"] ["sentence","step"] (aA xu):=GW
noncomputable abbrev zh:QW:=bS 22
theorem Bc(F:Fun K "clauses_behind" "clauses_behind" zh f fd)(T:Bl mg):ay P w K mg ac aV 1 f fd ["clauses","literal"] jt:=by
 refine F.okB (N:=["clauses","literal","left","clause"]) λQC A O s H vs Q E sc hr h=>?_;obtain⟨p,l,xs,C,rfl,hp,n,hn,M,q⟩:=h;refine⟨_,(ae gg
  (ae (fS 3 (aO<|pv 0)<|au<|bu gg (au<|cG<|fJ QD Ra Ri cK (pv 2)<|gT<|aW bP rfl T.tuple Ro<|gT<|jR ["other","literal"] [Pt,gV 1]<|bT<|pv 3) aK)
  (di<|pv 2))),?_⟩
 refine⟨P8 _,λL a=>?_⟩;have N:upd H L (.lst []) p=gV _:=(ad a _) _ _ hp;refine⟨_,rfl,p,rfl,⟨_,SqL.of N⟩,cx (K:=K) (xs:=xs)
  (λi B b=>∃U,B=[gV<|.ref p,gV<|.int l,gV<|.ref L,U]/\∃y,b L=gV (.lst y)/\CLs b (bp l<|C.take i) y/\Same H b)
  ⟨Pt,rfl,[],aa,.nil,ad a _⟩ ?_ ?_ ?_⟩
 ·rintro i B b S ⟨S,S,S,S,S,g⟩;exact SqL.of<|g _ _ hp
 ·rintro i x B b I ⟨U,rfl,y,G,m,g⟩;obtain⟨c,hc,t,rfl,ht⟩:=n.get I;have j:=g _ _ ht;have Xy:=Pq hc;have e:C.take (i+1)=C.take i++[c]:=by rw[Qb,hc];rfl
  have am:y.length<=900:=by
   rw[<-m.length];refine QF (U9 _ _) ?_;rw[P9];exact QF (V5 _ _) hn
  exists _,rfl,_,rfl,t,c.map _,rfl,.inr<|SqT.of j,rfl,bF c,_,rfl;rw[bj];cases gc:c.contains l with
  |false=>
   refine ar ⟨_,rfl,.inl ⟨rfl,_,SqL.of G⟩,_,rfl,t,rfl,⟨_,SqT.of j⟩,λD W=>cg [gV<|.int l] (λx=>!decide (x=.int (-l))) (λx=>x) rfl j W (by rw[A'];have:=M c Xy;lia) ?_ ?_ ?_⟩
   ·intro x I H' R k r;obtain⟨z,S,rfl⟩:=c_ I;exact⟨_,rfl,_,rfl,_,rfl,.inl ⟨rfl,_,rfl,r⟩⟩
   ·intro x I S H' R k r;exact⟨_,rfl,r⟩
   ·rw[dL c (λo=>!decide (o=-l)) _ λi=>by simp];refine⟨D,_,rfl,.inl ⟨SqL.of aa,λX u=>?_⟩⟩;have Y:=ag G W;have Yc:upd b D (.lst<|(c.filter λo=>!decide (o=-l)).map V.int) L=gV (.lst y):=by rwa[af Y]
    have Z:=ad W<|.lst<|(c.filter λo=>!decide (o=-l)).map V.int;generalize upd b D (.lst<|(c.filter _).map _)=H3 at Yc u Z;have J:=ad u<|.tup<|(c.filter λo=>!decide (o=-l)).map V.int;have d:=J _ _ Yc;have v:=cm J;generalize upd H3 X _=H4 at d v J;refine⟨L,y,_,rfl,rfl,d,ak (by lia),_,rfl,_,aa,?_,(g.trans<|Z.trans J).upd_new a _⟩;rw[e];unfold bp;rw[Yz];have eb:Zk (eP l) [c]=[c.filter λo=>!decide (o=-l)]:=by
     rw[SZ];unfold eP;rw[gc];rfl
    rw[eb];exact CLs.snoc (CL.upd ⟨X,rfl,v⟩ d)<|(m.mono<|Z.trans J).upd d
  |true=>
   refine al ⟨_,rfl,y,G,?_,g⟩;rw[e];unfold bp;rw[Yz];have eb:Zk (eP l) [c]=[]:=by
    rw[SZ];unfold eP;rw[gc];rfl
   rwa[eb,QN]
 rintro B b ⟨U,rfl,y,G,m,g⟩;rw[PJ<|by rw[n.length];exact Po _]at m;exact⟨_,rfl,q L y b g a G m⟩
theorem rB:∀{k:ab Int},Ups k->cZ c z k=k.any λx=>decide (absI x<absI z)&&c.contains (-x)
 |[],_=>rfl
 |x::r,h=>by
  have e:cZ c z (x::r)=if absI z<=absI x then Pr else if c.contains _=Pn then Pn else cZ c z r:=rfl
  rw[e,R0];by_cases g:absI z<=absI x
  ·rw[PP g,Pu (Int.not_lt_of_ge g)];refine(aap.mpr λy H=>?_).symm;have:=h.head y H;rw[Pu<|by lia];exact Pk
  rw[PM g,PB (XT g)];cases G:c.contains _ with
  |true=>rfl
  |false=>
   rw[rB h.tail];rfl
theorem rC(l:Int)(C:ab (ab Int)):bp l C=(C.filter λc=>!c.contains l).map λc=>c.filter λx=>!decide (x=-l):=by
 unfold bp
 induction C with
 |nil=>rfl
 |cons c r i=>
  cases g:c.contains l with
  |true=>
   rwa[List.filterMap_cons_none (by unfold eP;rw[PP g]),QP<|by lia]
  |false=>
   rw[List.filterMap_cons_some (by unfold eP;rw[PM<|by lia]),QK (by rw[g];rfl),Qf,i]
theorem vv(h:jG t c=Pn):∃z,c=[z]/\cw t z=true:=by
 unfold jG at h
 split at h
 ·exact⟨_,rfl,h⟩
 simp_all
theorem j9{c:ab (ab Int)}{i:Nat}(h:i<c.length):c.getD i []∈c:=by
 simp_all
theorem xv(h:aP t C d=gV D):D.length<=C.length/\∀c∈D,∃k∈C,∃p:Int->Px,c=k.filter p:=by
 have same:∀k:ab Int,∃p:Int->Px,k=k.filter p:=λk=>⟨λy=>Pn,(Rq.mpr λy y=>rfl).symm⟩;have w:∀{i:Nat},i<C.length->(dC C i).length<=C.length/\∀c∈dC C i,∃k∈C,∃p:Int->Px,c=k.filter p:=λ{i} a=>⟨by
  unfold dC;grind,λc H=>⟨c,kN H,same c⟩⟩
 have b:∀z:Int,(bp z C).length<=C.length/\∀c∈bp z C,∃k∈C,∃p:Int->Px,c=k.filter p:=λz=>⟨U9 _ _,λc H=>by
  obtain⟨k,f,y,e⟩:=eX.mp H;exact⟨k,f,_,e⟩⟩
 unfold aP at h
 split at h
 ·obtain⟨i,e,rfl⟩:=Qn.mp h;have a:=(aB e).1;refine⟨by rw[Pl,Pl,P9,Q8];show _+1+_<=_;lia,λc H=>?_⟩;obtain H|H:=P5.mp H
  ·obtain H|H:=P5.mp H
   ·exact⟨c,Ss H,same c⟩
   rw[Pw.mp H];exact⟨_,j9 a,_,rfl⟩
  exact⟨c,UK H,same c⟩
 split at h
 ·obtain⟨i,e,h⟩:=QX.mp h
  split at h
  ·cases h;exact b _
  simp_all
 split at h
 ·unfold m7 at h
  split at h
  ·split at h
   ·cases h;exact b _
   simp_all
  simp_all
 split at h
 ·obtain⟨i,E,h⟩:=QX.mp h;obtain⟨j,g,h⟩:=QX.mp h
  split at h
  ·cases h;exact w (aB E).1
  simp_all
 split at h
 ·unfold ja at h
  split at h
  ·obtain⟨i,E,h⟩:=QX.mp h
   split at h
   ·cases h;exact w (aB E).1
   simp_all
  simp_all
 simp_all
structure Few (t:Str)(cs:ab (ab Int)):Prop where
 ws:WS t
 t8:t.length<=8
 many:cs.length<=16
 ok:∀c∈cs,ap t.length c
 c4:∀c∈cs,c.length<=4
theorem Few.after(F:Few t C)(h:aP t C d=gV D):Few t D:=by
 obtain⟨a,b⟩:=xv h;refine⟨F.ws,F.t8,QF a F.many,λc e=>?_,λc e=>?_⟩
 ·obtain⟨k,H,p,rfl⟩:=b c e;exact⟨(F.ok k H).1.sublist<|(TX).map _,λl f=>(F.ok k H).2 l (PQ.mp f).1⟩
 obtain⟨k,H,p,rfl⟩:=b c e;exact QF (Qx _ _)<|F.c4 k H
theorem Few.lits(F:Few t C):∀c∈C,xr t.length c:=λc h=>(F.ok c h).2
inductive mD (cs:ab (ab Int)):PK->Prop
 |drop (i:Nat) (h:i<cs.length):mD cs (.tuple [.str ax,.int (i:Int)])
 |unit (i:Nat) (h:i<cs.length):mD cs (.tuple [.str eB,.int (i:Int)])
 |pure (z:Int):mD cs (.tuple [.str dW,.int z])
 |within (i j:Nat) (h:i<cs.length) (g:j<cs.length):mD cs (.tuple [.str bZ,.int (i:Int),.int (j:Int)])
 |blocked (i:Nat) (z:Int) (h:i<cs.length):mD cs (.tuple [.str bE,.int (i:Int),.int z])
theorem rD(w x:Str)(n:Nat)(a:PK):formB w n (.tuple [.str x,a])=(decide (2=n)&&decide (x=w)):=rfl
theorem lx(w x:Str)(n:Nat)(a b:PK):formB w n (.tuple [.str x,a,b])=(decide (3=n)&&decide (x=w)):=rfl
theorem pS(t:Str)(c:ab (ab Int))(a:PK):aP t c (.tuple [.str ax,a])=rn t c a:=by
 rfl
theorem pT(t:Str)(c:ab (ab Int))(a:PK):aP t c (.tuple [.str eB,a])=ro t c a:=by
 rfl
theorem pU(t:Str)(c:ab (ab Int))(a:PK):aP t c (.tuple [.str dW,a])=m7 t c a:=by
 rfl
theorem ly(t:Str)(c:ab (ab Int))(a b:PK):aP t c (.tuple [.str bZ,a,b])=rq c a b:=by
 rfl
theorem jH(t:Str)(c:ab (ab Int))(a b:PK):aP t c (.tuple [.str bE,a,b])=ja t c a b:=by
 rfl
theorem gZ(h:i<n):aI n (.int (i:Int))=gV i:=by
 show(if 0<=(i:Int)/\(i:Int)<(n)then gV _ else Pt)=gV i
 simp_all
inductive Nx:Type
 |unit (i:Nat)
 |drop (i:Nat)
 |pure (z:Int)
 |within (i j:Nat)
 |blocked (i:Nat) (z:Int)
noncomputable def Nx.d:Nx->PK
 |.unit i=>.tuple [.str eB,.int (i:Int)]
 |.drop i=>.tuple [.str ax,.int (i:Int)]
 |.pure z=>.tuple [.str dW,.int z]
 |.within i j=>.tuple [.str bZ,.int (i:Int),.int (j:Int)]
 |.blocked i z=>.tuple [.str bE,.int (i:Int),.int z]
noncomputable def Nx.zs:Nx->ab V
 |.unit i=>[.str eB,.int (i:Int)]
 |.drop i=>[.str ax,.int (i:Int)]
 |.pure z=>[.str dW,.int z]
 |.within i j=>[.str bZ,.int (i:Int),.int (j:Int)]
 |.blocked i z=>[.str bE,.int (i:Int),.int z]
noncomputable def dX(f:Nat->M' Nx)(n:Nat):M' Nx:=(Qt n).findSome? f
theorem f':dX f n=Pt↔∀j,j<n->f j=none:=by
 unfold dX;simp
theorem iq:∀{n:Nat},i<n->(∀j,j<i->f j=Pt)->f i=gV s->dX f n=gV s
 |n+1,a,h,e=>by
  unfold dX;rw[Si,List.findSome?_append];by_cases H:i<n
  ·have:=iq H h e;unfold dX at this;rw[this];rfl
  have v:i=n:=by lia
  subst v;have:=f'.mpr h;unfold dX at this;rw[this];simp_all
theorem mE(h:dX f n=gV s):∃i,i<n/\f i=gV s:=by
 obtain⟨i,H,e⟩:=List.exists_of_findSome?_eq_some h;exact⟨i,Rx.mp H,e⟩
noncomputable def bW(c:ab (ab Int)):Nat:=c.length+(c.map Q4).sum
noncomputable def vw(t:Str)(c:ab Int):Px:=match c.getLast? with
 |some z=>!cw t z
 |none=>Pr
noncomputable def fq(t:Str)(c:ab (ab Int))(i:Nat):M' Nx:=if jG t (c.getD i [])=Pn then gV (.unit i)else if vw t (c.getD i [])=Pn then gV (.drop i)else Pt
noncomputable def fB(k:ab Int)(z:Int):ab Int:=if k.contains z=Pn then k else k++[z]
noncomputable def gJ(c:ab (ab Int)):ab Int:=c.flatten.foldl fB []
theorem lG:∀(Z k:ab Int),x∈Z.foldl fB k↔x∈k\/x∈Z
 |[],k=>by simp
 |z::r,k=>by
  rw[Tr,lG r];have h:x∈fB k z↔x∈k\/x=z:=by
   unfold fB
   split
   ·simp_all
   simp
  rw[h,P_,or_assoc]
theorem gh:x∈gJ C↔∃c∈C,x∈c:=by
 unfold gJ;rw[lG];simp
noncomputable def lH(c:ab (ab Int)):M' Nx:=((gJ c).find? λz=>!(gJ c).contains (-z)).map Nx.pure
noncomputable def bn(c:ab (ab Int))(z:Int):ab Nat:=(Qt c.length).filter λi=>(c.getD i []).contains z
noncomputable def ir(C:ab (ab Int))(c:ab Int):ab Nat:=if c=[]then Qt C.length else(c.map<|bn C).getD (GR<|(c.map<|bn C).map Q4) []
noncomputable def pV(c:ab (ab Int))(j i:Nat):Px:=!decide (i=j)&&((c.getD j []).all λz=>(c.getD i []).contains z)
noncomputable def zi(c:ab (ab Int))(j:Nat):M' Nx:=((ir c<|c.getD j []).find?<|pV c j).map λi=>.within i j
noncomputable def jb(c:ab (ab Int)):M' Nx:=dX (zi c) c.length
noncomputable def HK(t:Str)(c:ab (ab Int))(i:Nat):M' Nx:=(((c.getD i []).filter<|cw t).find? λz=>fo t c i z).map λz=>.blocked i z
noncomputable def nQ(t:Str)(c:ab (ab Int)):M' Nx:=dX (HK t c) c.length
noncomputable def c7(t:Str)(c:ab (ab Int)):M' Nx:=(dX (fq t c) c.length).or<|(lH c).or<|(jb c).or<|nQ t c
theorem fG(c:ab Int)(C:ab (ab Int)):bW (c::C)=1+c.length+bW C:=by
 unfold bW;simp only[P4,Qf,acH];lia
theorem lI(a b:ab (ab Int)):bW (a++b)=bW a+bW b:=by
 unfold bW;simp only[Pl,P6,List.sum_append];lia
theorem pW(h:i<c.length):bW c=bW (c.take i)+(1+(c.getD i []).length+bW (c.drop<|i+1)):=by
 have e:c=c.take i++(c.getD i []::c.drop (i+1)):=by
  simp_all
 have E:=Qq bW e;rwa[lI,fG]at E
theorem lJ(h:i<c.length):bW (dC c i)<bW c:=by
 have:=pW h;unfold dC;rw[lI];lia
theorem jc(z:Int):∀C,bW (bp z C)<=bW C/\((∃c∈C,z∈c\/ -z∈c)->bW (bp z C)<bW C)
 |[]=>⟨Po _,λ⟨_,h,_⟩=>nomatch h⟩
 |c::r=>by
  obtain⟨f,d⟩:=jc z r;by_cases H:c.contains z=Pn
  ·have e:bp z (c::r)=bp z r:=by
    unfold bp;rw[SZ];unfold eP;rw[PP H]
   rw[e,fG];exact⟨Nat.le_add_left_of_le f,λy=>by lia⟩
  have e:bp z (c::r)=(c.filter λx=>!decide (x=-z))::bp z r:=by
   have:=rC z<|c::r;rw[this,rC,QK<|by simpa using H];rfl
  rw[e,fG,fG];have g:=Qx (λx=>!decide (x=-z)) c;refine⟨by lia,λ⟨k,a,b⟩=>?_⟩;obtain rfl|a:=P_.mp a
  ·have T:(k.filter λx=>!decide (x=-z)).length<k.length:=(by simp_all);omega
  have:=d ⟨k,a,b⟩;omega
theorem Bd(u:Ups c)(H:c.getLast?=gV z)(a:y∈c):absI y<absI z\/y=z:=by
 obtain⟨r,rfl⟩:=List.getLast?_eq_some_iff.mp H;unfold Ups at u;rw[P6,RK]at u;obtain h|h:=P5.mp a
 ·exact .inl (u.2.2 _ (Rp h) _<|by simp)
 exact .inr<|Pw.mp h
theorem Be(h:ap n c)(H:vw t c=Pn):(ao t Pr c).length<c.length:=by
 unfold vw at H;cases f:c.getLast? with
 |none=>simp_all
 |some z=>
  rw[f]at H;have d:=Wg f;refine UD.mpr ⟨z,d,λg=>?_⟩;have g:=PX g;have m:=(h.2 z d).1;unfold iy at g;obtain e|e:=(gQ ((c.filter λl=>!(cD t (absI l-1).toNat == Pr)).map absI) 0).2
  ·omega
  obtain⟨y,k,E⟩:=Qe.mp e;obtain⟨i,o⟩:=PQ.mp k;obtain q|q:=Bd h.1 f i
  ·omega
  have j:(!cD t _)=true:=H;lia
theorem gF:i∈bn c z↔i<c.length/\z∈c.getD i []:=by
 unfold bn;rw[PQ,Rx,Py]
theorem EO(h:i∈ir C c):i<C.length:=by
 unfold ir at h
 split at h
 ·simp_all
 have n:(c.map<|bn C).map Q4≠[]:=by simp_all
 have H:=(GS n).1;rw[A']at H;rw[B',K' H,aaR]at h;exact(gF.mp h).1
theorem fH(F:Few t C)(h:c7 t C=gV s):mD C s.d/\∃D,aP t C s.d=gV D/\bW D<bW C:=by
 obtain h|⟨_,h⟩:=VS.mp h
 ·obtain⟨i,H,e⟩:=mE h;unfold fq at e
  split at e
  ·rename_i u;cases e;refine⟨.unit i H,bp ((C.getD i []).getD 0 0) C,?_,?_⟩
   ·show aP t C (.tuple _)=_
    rw[pT];unfold ro;rw[gZ H,UQ,PP u]
   obtain⟨z,b,_⟩:=vv u;refine(jc _ C).2 ⟨C.getD i [],j9 H,.inl ?_⟩;rw[b];simp
  split at e
  ·rename_i l;cases e;refine⟨.drop i H,C.take i++[ao t Pr<|C.getD i []]++C.drop (i+1),?_,?_⟩
   ·show aP t C (.tuple _)=_
    rw[pS];unfold rn;rw[gZ H,Uj]
   have:=Be (F.ok _<|j9 H) l;rw[lI,lI,pW H,fG];show _+(1+_+0)+_<_
   lia
  simp_all
 obtain h|⟨_,h⟩:=VS.mp h
 ·obtain⟨z,e,rfl⟩:=Qn.mp h;have b:=Re e;have n:=Tt e;have k:(C.any λc=>c.contains z)=true:=by
   obtain⟨c,a,m⟩:=gh.mp b;exact P'.mpr ⟨c,a,Py.mpr m⟩
  have d:(C.any λc=>c.contains (-z))=false:=by
   rw[Xo];intro q;obtain⟨c,a,m⟩:=P'.mp q;have:=gh.mpr ⟨c,a,Py.mp m⟩;simp_all
  refine⟨.pure z,bp (if cw t z=Pn then z else -z) C,?_,?_⟩
  ·show(if((C.any _)&&!(C.any _))=Pn then _ else _)=_
   rw[k,d];rfl
  obtain⟨c,a,m⟩:=gh.mp b;refine(jc _ C).2 ⟨c,a,?_⟩
  split
  ·exact .inl m
  exact .inr (by simp_all)
 obtain h|⟨_,h⟩:=VS.mp h
 ·obtain⟨j,g,E⟩:=mE h;obtain⟨i,e,rfl⟩:=Qn.mp E;have H:=EO<|Re e;have f:=Tt e;refine⟨.within i j H g,dC C i,?_,lJ H⟩;show aP t C (.tuple _)=_
  rw[ly];unfold rq;rw[gZ H,gZ g];exact PP f
 obtain⟨i,H,E⟩:=mE h;obtain⟨z,e,rfl⟩:=Qn.mp E;have f:=Tt e;refine⟨.blocked i z H,dC C i,?_,lJ H⟩;show aP t C _=_
 show(aI _<|.int (i)).bind _=_
 rw[gZ H];exact PP f
noncomputable def lK(t:Str):Nat->ab (ab Int)->ab Nx
 |0,_=>[]
 |n+1,c=>match c7 t c with
  |none=>[]
  |some s=>s::lK t n ((aP t c s.d).getD [])
inductive tD (t:Str)(cs:ab (ab Int)):Nx->Prop
 |unit (i:Nat) (h:i<cs.length) (u:jG t (cs.getD i [])=Pn):tD t cs (.unit i)
 |drop (i:Nat) (h:i<cs.length):tD t cs (.drop i)
 |pure (z:Int) (c:ab Int) (h:c∈cs) (u:z∈c):tD t cs (.pure z)
 |within (i j:Nat):tD t cs (.within i j)
 |blocked (i:Nat) (z:Int) (h:i<cs.length) (u:z∈cs.getD i []):tD t cs (.blocked i z)
theorem jd(h:formB w n d=Pn):∃r,d=.tuple (.str w::r)/\r.length+1=n:=by
 cases d with
 |tuple D=>
  unfold formB at h;rw[Qs]at h;cases D with
  |nil=>cases h.2
  |cons x r=>
   have H:mO w x=true:=h.2;cases x with
   |str y=>
    have:=PX H;subst this;exact⟨r,rfl,PX h.1⟩
   |_=>cases H
 |_=>cases h
theorem EQ(h:aP t C d=gV D):∃s,d=s.d/\tD t C s:=by
 unfold aP at h
 split at h
 ·rename_i H;obtain⟨r,rfl,l⟩:=jd H
  match r,l with
  |[x],_=>
   obtain⟨i,e,_⟩:=Qn.mp h;obtain⟨f,a⟩:=aB e;have E:=a;subst E;exact⟨.drop i,rfl,.drop i f⟩
 split at h
 ·rename_i H;obtain⟨r,rfl,l⟩:=jd H
  match r,l with
  |[x],_=>
   obtain⟨i,e,b⟩:=QX.mp h;obtain⟨f,a⟩:=aB e;have E:=a;subst E
   split at b
   ·rename_i u;exact⟨.unit i,rfl,.unit i f u⟩
   simp_all
 split at h
 ·rename_i H;obtain⟨r,rfl,l⟩:=jd H
  match r,l with
  |[x],_=>
   have g:m7 t C x=gV D:=h;cases x with
   |int z=>
    have b:(if((C.any _)&&!(C.any _))=Pn then gV _ else Pt)=gV D:=g
    split at b
    ·rename_i q;rw[Qs]at q;obtain⟨c,o,p⟩:=P'.mp q.1;exact⟨.pure z,rfl,.pure z c o<|Py.mp p⟩
    simp_all
   |_=>cases g
 split at h
 ·rename_i H;obtain⟨r,rfl,l⟩:=jd H
  match r,l with
  |[x,y],_=>
   obtain⟨i,k,h⟩:=QX.mp h;obtain⟨j,v,h⟩:=QX.mp h;obtain⟨f,a⟩:=aB k;obtain⟨A,w⟩:=aB v;have E:=a;have m:y=.int _:=w;subst E m;exact⟨.within i j,rfl,.within i j⟩
 split at h
 ·rename_i H;obtain⟨r,rfl,l⟩:=jd H
  match r,l with
  |[x,y],_=>
   have g:ja t C x y=gV D:=h;cases y with
   |int z=>
    have b:=g;obtain⟨i,k,n⟩:=QX.mp b;obtain⟨f,a⟩:=aB k;have E:=a;subst E
    split at n
    ·rename_i q;unfold fo at q;rw[Qs]at q;exact⟨.blocked i z,rfl,.blocked i z f<|Py.mp q.1⟩
    simp_all
   |_=>cases g
 simp_all
theorem ER{H:Hp}{s:Nx}{v:V}(h:RD H s.d v):∃b,v=.ref b/\H b=gV (.tup s.zs):=by
 have t:∀{w:Str} {i:Int} {v:V},RD H (.tuple [.str w,.int i]) v->∃b,v=.ref b/\H b=gV _:=λ{w i v} h=>by
  obtain⟨b,X,e,a,r⟩:=aj h;obtain⟨x,X,rfl,c,r⟩:=ai r;obtain⟨y,X,rfl,d,r⟩:=ai r;obtain rfl:=bz r;rw[aS c,aw d]at a;exact⟨b,e,a⟩
 have A:∀{w:Str} {i j:Int} {v:V},RD H (.tuple [.str w,.int i,.int j]) v->∃b,v=.ref b/\H b=gV _:=λ{w i j v} h=>by
  obtain⟨b,X,e,a,r⟩:=aj h;obtain⟨x,X,rfl,c,r⟩:=ai r;obtain⟨y,X,rfl,d,r⟩:=ai r;obtain⟨z,X,rfl,f,r⟩:=ai r;obtain rfl:=bz r;rw[aS c,aw d,aw f]at a;exact⟨b,e,a⟩
 cases s with
 |unit i=>exact t h
 |drop i=>exact t h
 |pure z=>exact t h
 |within i j=>exact A h
 |blocked i z=>exact A h
noncomputable abbrev zj:QW:=bS 50
structure Bf (mg:Str->M' Pm):Prop where
 abs:mg "abs"=Pt
 len:mg "len"=Pt
 enumerate:mg "enumerate"=Pt
 min:mg "min"=Pt
 list:mg "list"=Pt
 range:mg "range"=Pt
 g_WISHER:kI mg "WISHER" (.str<|PD "wisher")
 g_SPOILER:kI mg "SPOILER" (.str<|PD "spoiler")
def RS(H:Hp)(o:M' Nx)(v:V):Prop:=match o with
 |none=>v=.non
 |some s=>∃p:C',v=.ref p/\H p=gV (.tup s.zs)
inductive Jr (f:Str->ab (ab Int)->M' Nx)(vs:ab V)(H:Hp)(Q:VK):Prop
 |mk (p q:C')(t:Str)(xs:ab V)(cs:ab (ab Int))(h0:vs=[.ref p])(a:SentAt H p q t xs cs)(u:∀c∈cs,Ups c)(b:∀v h,Same H h->RS h (f t cs) v->Q v h)
def tE(f:Str->ab (ab Int)->M' Nx):Sp:=λv H Q _=>Jr f v H Q
theorem SentAt.mono(h:SentAt H p q t xs c)(k:Same H a):SentAt a p q t xs c:=⟨k _ _ h.hp,k _ _ h.hq,h.hcs.mono k,h.ht,h.hn,h.hok,h.hc⟩
inductive zk (p:C')(t:Str)(cs:ab (ab Int))(H:Hp)(i:Nat)(a:St)(h:Hp):Prop
 |mk (v b:M' V)(h0:a=[gV<|.ref p,v,b])(c:Same H h)(d:∀j,j<i->fq t cs j=Pt)
theorem HL{c:ab Int}{z:Int}(h:c.getLast?=gV z):kn (c.map V.int) (-1)=gV (.int z):=by
 have W:c≠[]:=λe=>by simp_all
 have H:=TU.mpr W;unfold kn Iw;rw[PM (by decide),PP (by rw[A'];lia)];rw[UT]at h;have e:(-1+((c.length):Int)).toNat=c.length-1:=by lia
 simp_all
theorem Bg(F:Fun K "next_short" "next_short" zj f fd)(T:Bf M)(ac:Fe P w K M b 3 "is_unit" lu)(Zr:Fe P w K M b 2 "is_of" i_):ay P w K M b aV 4 f fd ["sentence"] (tE λt C=>dX (fq t C) C.length):=by
 refine F.okB (N:=["sentence","place","clause"]) λR8 A O s H vs Q E sc hr h=>?_;obtain⟨p,q,t,xs,C,rfl,S,hu,L⟩:=h;refine⟨_,(ae (fI Rc rfl (kE rfl T.enumerate gg) gg
   (ae gg
   (au<|bu (PW.pt<|rJ (kj (pv 2) λo=>rfl)<|rH<|gH<|wM Zr hr<|aM (pv 0)<|kh gg<|bL rfl T.g_SPOILER) gg aK)))
  (di gG)),?_⟩
 refine⟨_,rfl,(bA S.hp rfl ⟨q,rfl,⟨_,SqL.of S.hq⟩,?_⟩)⟩;refine gC (K:=K) S.hcs S.hq (zk p t C H) ?_ ⟨Pt,Pt,rfl,Same.refl _,λo h=>by simp_all⟩ ?_ ?_
 ·rintro i Z g ⟨v1,v2,rfl,m,o⟩;exact m
 ·rintro i Z g G1 G n hi hm ⟨v1,v2,rfl,m,W⟩ k o v Tp;have U:=S.mono k;have a:=k _ _ Tp;have u:∀s,fq t C i=gV s->dX (fq t C) C.length=gV s:=λs e=>iq hi W e;have am:=S.ht;have l:=S.hok _ hm;have X:=S.hc _ hm;generalize I:C.getD i []=c at a l X;exists G,_,rfl,SqT.of v,rfl,_,_,rfl,_,_,rfl,rfl;exists _,rfl,_,rfl,p,n,t,.ref q,c,rfl,U.hp,(QF am (by decide)),a,l,_,rfl;cases J:jG t c with
  |true=>
   refine ar ⟨_,rfl,(by show 2<=sizeLine;decide),λr d=>?_⟩;have Y:=ad d<|.tup [.str eB,.int (i:Int)];refine L _ _ (k.trans Y) ?_;rw[u (.unit i)<|by unfold fq;rw[I,PP J]];exact⟨r,rfl,aa⟩
  |false=>
   refine al ?_;cases y:c.getLast? with
   |none=>
    have e0:=List.getLast?_eq_none_iff.mp y;subst e0;exists _,rfl,Pr,.inr<|.inl ⟨_,SqT.of a,rfl⟩;refine al<|al ⟨_,_,rfl,k,lS W ?_⟩;unfold fq;rw[I,J];rfl
   |some z=>
    have B:z∈c:=Wg y;have D:=l z B;refine⟨_,rfl,Pn,.inr<|.inl ⟨_,SqT.of a,?_⟩,?_⟩
    ·cases c with
     |nil=>grind
     |cons x r=>rfl
    refine ar ⟨_,rfl,_,rfl,_,rfl,(bA a (HL y) ⟨p,t,.ref q,z,Pr,rfl,U.hp,(QF am (by decide)),D.1,D.2,_,rfl,?_⟩)⟩;cases eo:cw t z with
    |false=>
     refine ar ⟨_,rfl,(by show 2<=sizeLine;decide),λr d=>?_⟩;have Y:=ad d<|.tup [.str ax,.int (i:Int)];refine L _ _ (k.trans Y) ?_;rw[u (.drop i) (by unfold fq vw;simp_all)];exact⟨r,rfl,aa⟩
    |true=>
     refine al ⟨_,_,rfl,k,lS W ?_⟩;unfold fq vw;simp_all
 rintro Z g ⟨v1,v2,rfl,m,W⟩;exact L _ _ m (by rw[f'.mpr W];rfl)
noncomputable abbrev ES:QW:=bS 51
noncomputable abbrev fX(n:ab Nat):ab V:=n.map λi:Nat=>V.int (i:Int)
structure HoldAt (H:Hp)(a:C')(kvs:ab (aJ×V))(ks:ab Int)(pl:Int->ab Nat):Prop where
 ha:H a=gV (.dK kvs)
 keys:kvs.map (·.1)=ks.map Qd
 val:∀z,z∈ks->∃l:C',aY kvs (.inl z)=gV (.ref l)/\H l=gV (.lst<|fX<|pl z)
 non:∀z,z∉ks->aY kvs (.inl z)=Pt
 inj:∀y z (l:C'),aY kvs (.inl y)=gV (.ref l)->aY kvs (.inl z)=gV (.ref l)->y=z
theorem HoldAt.mono(h:HoldAt H a s b p)(k:Same H c):HoldAt c a s b p:=
 ⟨k _ _ h.ha,h.keys,λz d=>let ⟨l,e,q⟩:=h.val z d;⟨l,e,k _ _ q⟩,h.non,h.inj⟩
structure HoldN (H0 H:Hp)(a:C')(kvs:ab (aJ×V))(ks:ab Int)(pl:Int->ab Nat):Prop where
 at_:HoldAt H a kvs ks pl
 sam:Same H0 H
 na:H0 a=Pt
 nl:∀z (l:C'),aY kvs (.inl z)=gV (.ref l)->H0 l=Pt
theorem HoldN.mono(h:HoldN b H a s c p)(k:Same H d):HoldN b d a s c p:=⟨h.at_.mono k,h.sam.trans k,h.na,h.nl⟩
noncomputable def Bh(p:Int->ab Nat)(z:Int)(i:Nat):Int->ab Nat:=λy=>if y=z then p y++[i]else p y
theorem mG{a:Type}{l:ab a}{i:Nat}{x:a}(h:l[i]?=gV x):l.take (i+1)=l.take i++[x]:=by
 rw[Qb,h];rfl
theorem xw(n:ab Nat)(i:Nat):fX n++[V.int (i:Int)]=fX (n++[i]):=by
 simp
theorem ET{i:Nat}(h:HoldN d H a k s p)(c:z∈s)(e:aY k (.inl z)=gV (.ref l)):
  HoldN d (upd H l<|.lst<|fX (p z)++[.int (i:Int)]) a k (fB s z) (Bh p z i):=by
 have f:H l=gV (.lst<|fX<|p z):=by
  obtain⟨L,E,q⟩:=h.at_.val z c;simp_all
 have n:a≠l:=λq=>by have:=h.at_.ha;simp_all
 have g:fB s z=s:=by
  unfold fB;rw[PP<|Py.mpr c]
 rw[g];refine⟨⟨by rw[af n];exact h.at_.ha,h.at_.keys,λy j=>?_,h.at_.non,h.at_.inj⟩,h.sam.upd_new (h.nl z l e) _,h.na,h.nl⟩;obtain⟨L,E,q⟩:=h.at_.val y j;exists L,E;unfold Bh;by_cases b:y=z
 ·subst b;rw[e]at E;cases E;rw[aa,PP rfl,xw]
 rwa[PM b,af λQ=>b<|h.at_.inj y z l (by rwa[<-Q]) e]
theorem EU{i:Nat}(h:HoldN r H a k s P)(j:z∉s)(w:P z=[])(n:H l=Pt):
  HoldN r (upd (upd (upd H l<|.lst []) a<|.dK<|cE k (.inl z)<|.ref l) l<|.lst ([]++[.int (i:Int)])) a (cE k (.inl z)<|.ref l) (fB s z) (Bh P z i):=by
 have N:a≠l:=λq=>by have:=h.at_.ha;lia
 have B:fB s z=s++[z]:=by
  unfold fB;rw[PM λq=>j<|Py.mp q]
 have m:(k.any λv=>decide (v.1=(Qd z)))=false:=by
  rw[Xo];intro q;obtain⟨v,C,e⟩:=P'.mp q;have:v.1∈k.map _:=Rp C;rw[h.at_.keys]at this;simp_all
 have o:=h.sam.free n;have A:∀y (L:C'),aY k (.inl y)=gV (.ref L)->L≠l:=λy L e q=>by
  by_cases b:y∈s
  ·obtain⟨G,E,Q⟩:=h.at_.val y b;simp_all
  rw[h.at_.non y b]at e;lia
 rw[B];refine⟨⟨by rw[af N,aa],?_,λy b=>?_,λy b=>?_,λy x L d E=>?_⟩,((h.sam.upd_new o _).upd_new h.na _).upd_new o _,h.na,λy L e=>?_⟩
 ·unfold cE;rw[m,PM Pk,P6,h.at_.keys,P6];rfl
 ·rw[gL];unfold Bh;by_cases c:y=z
  ·subst c;rw[PP rfl,PP rfl,w];exact⟨l,rfl,aa⟩
  rw[PM λq=>c<|Rm q,PM c];have p:y∈s:=(by simp_all);obtain⟨L,t,q⟩:=h.at_.val y p;have u:=A y L t;have D:L≠a:=λQ=>by have:=h.at_.ha;simp_all
  exact⟨L,t,by rwa[af u,af D,af u]⟩
 ·rw[gL,PM λq=>b<|Qw _<|by rw[Rm q];exact Pw.mpr rfl];exact h.at_.non y λq=>b<|Ry _ q
 ·rw[gL]at d E;by_cases f:y=z
  ·grind
  rw[PM λq=>f<|Rm q]at d;by_cases g:x=z
  ·grind
  rw[PM λq=>g<|Rm q]at E;exact h.at_.inj y x L d E
 rw[gL]at e;by_cases f:(Qd y:aJ)=.inl z
 ·simp_all
 rw[PM f]at e;exact h.nl y L e
noncomputable def zl(C:ab (ab Int))(i:Nat)(c:ab Int)(z:Int):ab Nat:=((Qt i).filter λk=>(C.getD k []).contains z)++if c.contains z=Pn then [i]else []
theorem zm(c:ab (ab Int))(i:Nat):zl c i []=λz=>(Qt i).filter λk=>(c.getD k []).contains z:=by
 unfold zl;simp
theorem EV:zl c i (c.getD i [])=zl c (i+1) []:=by
 rw[zm]
 funext z
 unfold zl;rw[Si]
 grind
theorem vx(H:y∉c):Bh (zl C i c) y i=zl C i (c++[y]):=by
 funext z
 unfold Bh zl;grind
theorem HM(d:i<=C.length)(h:y∉c.foldl fB ((C.take i).flatten.foldl fB [])):zl C i c y=[]:=by
 rw[lG,lG]at h;unfold zl;have b:=λq=>h<|.inr<|Py.mp q;rw[PM b,QN,SB];intro k a q;have a:=Rx.mp a;have H:k<C.length:=QH a d
 refine h<|.inl<|.inr<|aaO.mpr ⟨C.getD k [],?_,Py.mp q⟩;rw[B',K' H];exact List.mem_take_iff_getElem.mpr ⟨k,by simp_all,rfl⟩
theorem pX:∀(Z k:ab Int),(Z.foldl fB k).length<=k.length+Z.length
 |[],k=>Po _
 |z::r,k=>by
  rw[Tr];have h:=pX r<|fB k z;have H:(fB k z).length<=k.length+1:=by
   unfold fB
   split
   ·simp
   simp
  grind
theorem HN(u:Ups c)(h:c[j]?=gV y):y∉c.take j:=λH=>by
 have e:c=c.take j++y::c.drop (j+1):=by
  rw[<-(N'.mp h).2,VF,Q5]
 unfold Ups at u;rw[e,P6,RK]at u;have:=u.2.2 _ (Rp H) (absI y) (by simp);lia
inductive xx (vs:ab V)(H:Hp)(Q:VK)(E:XK):Prop
 |mk (q:C')(xs:ab V)(cs:ab (ab Int))(h0:vs=[.ref q])(b:H q=gV (.lst xs))(d:CLs H cs xs)(e:cs.length<=400)(f:∀c∈cs,c.length<=60)(g:∀c∈cs,Ups c)
  (i:∀(a:C') (kvs:ab (aJ×V)) (h:Hp),Same H h->HoldAt h a kvs (gJ cs) (bn cs)->Q (.ref a) h):xx vs H Q E
inductive Js (q a:C')(cs:ab (ab Int))(H:Hp)(i:Nat)(b:St)(h:Hp):Prop
 |mk (v c d:M' V)(kvs:ab (aJ×V))(h0:b=[gV<|.ref q,gV<|.ref a,v,c,d])(e:HoldN H h a kvs ((cs.take i).flatten.foldl fB []) (zl cs i []))(f:((cs.take i).flatten.foldl fB []).length<=60*i)
inductive Jt (q a t:C')(cs:ab (ab Int))(c:ab Int)(H:Hp)(i j:Nat)(b:St)(h:Hp):Prop
 |mk (v:M' V)(kvs:ab (aJ×V))(h0:b=[gV<|.ref q,gV<|.ref a,gV<|.int (i:Int),gV<|.ref t,v])(d:HoldN H h a kvs ((c.take j).foldl fB<|(cs.take i).flatten.foldl fB []) (zl cs i<|c.take j))
theorem HP(F:Fun K "holders_of" "holders_of" ES f fd)(T:Bf mg):ay P w K mg aC aV 1 f fd ["clauses"] xx:=by
 refine F.okB (N:=["clauses","holders","place","clause","literal"]) λR8 A ac s H vs Q E sc hr h=>?_;obtain⟨q,xs,C,rfl,hq,t,hn,am,an,q'⟩:=h;have hu:=hr.units;have V8:(A.deeper<|Rr "holders_of" (aA ES) s.heap.objs.size f R8).units+1<Tw:=by lia
 refine⟨_,(ae (sT 1 oz)
  (ae (fI Rc rfl (kE rfl T.enumerate<|pv 0) gg
   (au<|fS 4 (bT<|pv 3)<|au<|cG<|fJ QD Ra Ri cK (uW V8 (pv 1) (pv 4) gg ⟨rfl,rfl,rfl,rfl⟩)<|gT<|pv 2))
  (di<|pv 1))),?_⟩
 refine λa na=>⟨_,rfl,q,rfl,⟨_,SqL.of<|ad na _ _ _ hq⟩,?_⟩;refine gC (K:=K) t hq (Js q a C H) ?_ ⟨Pt,Pt,Pt,[],rfl,⟨⟨aa,rfl,λz hz=>(by simp_all),λz S=>rfl,λy z l e=>(nomatch e)⟩,ad na _,na,λz l e=>(nomatch e)⟩,Po _⟩ ?_ ?_
 ·rintro i v B ⟨S,S,S,S,S,r,S⟩;exact r.sam
 ·rintro i v B G1 tt D Y hm ⟨v2,v3,v4,o,rfl,r,aF⟩ S k3 I Tp;have p:=r.mono k3;have u:=an _ hm;have hc:=am _ hm;have J:=@EV C i;have O:(C.take<|i+1).flatten=(C.take i).flatten++C.getD i []:=by
   rw[mG<|K' Y,List.flatten_append,List.flatten_singleton,B',K' Y];rfl
  exists tt,_,rfl,SqT.of I,rfl,_,_,rfl,_,_,rfl,rfl;generalize C.getD i []=c at Tp hm u hc J O;exists _,rfl,D,rfl,⟨_,SqT.of<|p.sam _ _ Tp⟩;refine eK (K:=K) (a:=D) (xs:=c.map V.int) (Jt q a D C c H i) ⟨_,o,rfl,p⟩ ?_ ?_ ?_
  ·rintro j v H4 S ⟨S,S,S,b⟩;exact SqT.of<|b.sam _ _ Tp
  ·rintro j x v H4 av ⟨w4,d,rfl,b⟩;obtain⟨y,rfl,hy⟩:=cn av;have hj:=(N'.mp hy).1;refine df ?_;refine⟨_,rfl,a,rfl,.inl ⟨_,.inl b.at_.ha⟩,_,rfl,(by simp),λL N=>?_⟩;have M:=HN u hy;have n:=mG hy;have Z:=ad N<|.lst [];have Wz:∀z,(zl C i (c.take j) z).length<=401:=λz=>by
    unfold zl;grind
   have aL:sizeLine=16777216:=Ru;by_cases g:y∈(c.take j).foldl fB ((C.take i).flatten.foldl fB [])
   ·obtain⟨l,el,hl⟩:=b.at_.val y g;have U:=b.mono Z;refine .inl ⟨.ref l,by rw[<-el];exact DGet.k (k:=.inl y) U.at_.ha,?_⟩;have W:=Z _ _ hl;exists .inl ⟨rfl,_,SqL.of W⟩,_,rfl,l,_,_,rfl,rfl,W,(by rw[A'];have:=Wz y;lia);have m:=ET (i:=i) U g el;rw[vx M,<-n]at m;exists _,d,rfl;simp_all
   have ev:=b.at_.non y g;have a0:d.length<=60*i+j:=by
    have e1:=Qq Q4 b.at_.keys;rw[A',A']at e1;have e2:=pX (c.take j)<|(C.take i).flatten.foldl fB [];rw[P9]at e2;lia
   refine .inr ⟨by rw[<-ev];exact DGet.k (k:=.inl y)<|Z _ _ b.at_.ha,_,DPut.k (k:=.inl y) (Z _ _ b.at_.ha) (by lia),?_⟩;have m:=EU (i:=i) b g (HM (QA Y) g) N;rw[vx M,<-n]at m;have az:L≠a:=λz=>by have:=b.at_.ha;simp_all
   have X:upd (upd H4 L<|.lst []) a (.dK<|cE d (.inl y)<|.ref L) L=gV (.lst []):=by rw[af az];exact aa
   exists .inl ⟨rfl,_,SqL.of X⟩,_,rfl,L,_,_,rfl,rfl,X,(by decide);exists _,cE d (.inl y)<|.ref L,rfl;simp_all
  rintro v H4 ⟨w4,d,rfl,b⟩;have et:c.take (c.map V.int).length=c:=(by simp);rw[et]at b;rw[J,<-Sy,<-O]at b;exists _,_,_,d,rfl,b;have:=pX c<|(C.take i).flatten.foldl fB [];rw[O,Sy];lia
 rintro v B ⟨v2,v3,v4,o,rfl,r,S⟩;refine⟨_,rfl,q' a o B r.sam ?_⟩;have h1:=r.at_;rw[PJ<|Po _,zm]at h1;exact h1
noncomputable abbrev xy:QW:=bS 52
inductive xz (vs:ab V)(H:Hp)(Q:VK)(E:XK):Prop
 |mk (a:C')(kvs:ab (aJ×V))(ks:ab Int)(pl:Int->ab Nat)(h0:vs=[.ref a])(b:HoldAt H a kvs ks pl)(c:∀v h,Same H h->RS h ((ks.find? λz=>!ks.contains (-z)).map Nx.pure) v->Q v h)
inductive Ju (a:C')(o:Obj)(kvs:ab (aJ×V))(ks:ab Int)(H:Hp)(i:Nat)(b:St)(h:Hp):Prop
 |mk (v:M' V)(h0:b=[gV<|.ref a,v])(c:h=upd H a (.frz o<|.dK kvs))(d:∀z∈ks.take i,(!ks.contains (-z))=Pr)
theorem HoldAt.key{H:Hp}{a:C'}{s:ab (aJ×V)}{b:ab Int}{p:Int->ab Nat}{i:Nat}{k:aJ}{v:V}(h:HoldAt H a s b p)(e:s[i]?=gV (k,v)):∃z,k=.inl z/\b[i]?=gV z:=by
 have E:(s.map (·.1))[i]?=gV k:=by simp_all
 rw[h.keys,PN]at E;obtain⟨z,c,d⟩:=Qn.mp E;exact⟨z,d.symm,c⟩
theorem HoldAt.has(h:HoldAt H a k s p)(z:Int):(aY k<|.inl z).isSome=s.contains z:=by
 by_cases b:z∈s
 ·obtain⟨l,e,y⟩:=h.val z b;simp_all
 rw[h.non z b,Xo.mpr λq=>b<|Py.mp q];rfl
theorem tF{a:Type}{l:ab a}{p:a->Px}{i:Nat}{z:a}(e:l[i]?=gV z) (h:∀y∈l.take i,p y=Pr) (H:p z=Pn):l.find? p=gV z:=by
 have E:l=l.take i++z::l.drop (i+1):=by
  rw[<-(N'.mp e).2,VF,Q5]
 rw[E,UB,RN.mpr λy b=>by rw[h y b];exact Pk,Sz H];rfl
theorem mH{a:Type}{l:ab a}{i:Nat}{z y:a}(e:l[i]?=gV z) (h:y∈l.take (i+1)):y∈l.take i\/y=z:=by
 rw[mG e]at h;simp_all
theorem EW(h:a≠r):upd (upd H a x) r y=upd (upd H r y) a x:=by
 funext b
 by_cases e:b=r
 ·subst e;rw[aa,af<|Q1 h,aa]
 rw[af e];by_cases E:b=a
 ·subst E;rw[aa,aa]
 rw[af E,af E,af e]
theorem EX(F:Fun K "next_pure" "next_pure" xy f C):ay P w K T B aV 1 f C ["holders"] xz:=by
 refine F.okB (N:=["holders","literal"]) λD A O s H U Q E X G h=>?_;obtain⟨a,b,g,Y,rfl,d,p⟩:=h;have Z:=G.units;have I:(A.deeper<|Rr "next_pure" (aA xy) s.heap.objs.size f D).units+1<Tw:=by lia
 have J:b.length=g.length:=by
  have:=Qq Q4 d.keys;simp_all
 refine⟨_,(ae (GQ<|fS 1 (GP<|pv 0)<|au<|bu (jI<|ji I gg<|pv 0) gg aK)
  (di gG)),⟨a,b,d.ha,_,rfl,a,b,rfl,d.ha,λo=>C8 (Ju a o b g H) ⟨Pt,rfl,rfl,λz e=>(nomatch e)⟩ ?_ ?_ ?_⟩⟩
 ·rintro i t u V ⟨V,V,rfl,V⟩;exact aa
 ·rintro i k v t u L ⟨M,rfl,rfl,W⟩;obtain⟨z,rfl,e⟩:=d.key L;refine⟨_,rfl,_,rfl,_,rfl,a,_,rfl,.inl ⟨b,.inl _,.inr ⟨o,aa⟩,rfl,rfl⟩,_,rfl,?_⟩;have j:=d.has (-z);cases l:g.contains _ with
  |false=>
   rw[l]at j;rw[j];refine ar ⟨_,rfl,(by show 2<=sizeLine;decide),λr c=>?_⟩;have n:a≠r:=λq=>by rw[<-q,aa]at c;cases c
   have m:H r=none:=by rwa[af<|Q1 n]at c
   have x:=ad m<|.tup [.str dW,.int z];refine⟨o,b,upd H r<|.tup _,x _ _ d.ha,EW n,p _ _ x ?_⟩;rw[tF e W<|by rw[l];rfl];exact⟨r,rfl,aa⟩
  |true=>
   rw[l]at j;rw[j];refine al ⟨_,rfl,rfl,λy N=>?_⟩;obtain q|q:=mH e N
   ·exact W y q
   simp_all
 rintro t u ⟨M,rfl,rfl,W⟩;exists o,b,H,d.ha,rfl;refine p _ _ (Same.refl _) ?_;rw[PJ<|by simp_all]at W;rw[RN.mpr λz e=>by rw[W z e];exact Pk];rfl
noncomputable abbrev Lz:QW:=bS 53
noncomputable def adr(k:ab (aJ×V))(z:Int):C':=match aY k (.inl z)with
 |some (.ref l)=>l
 |_=>0
noncomputable def NL(k:ab (aJ×V)):V->V
 |.int z=>.ref<|adr k z
 |_=>.non
inductive EY (vs:ab V)(H:Hp)(Q:VK)(E:XK):Prop
 |mk (a b:C')(kvs:ab (aJ×V))(cs:ab (ab Int))(c:ab Int)(h0:vs=[.ref a,.ref b,.int (cs.length:Int)])(d:HoldAt H a kvs (gJ cs) (bn cs))(e:ki H b c)(f:c.length<=60)(g:cs.length<=400)(i:∀z∈c,z∈gJ cs)
  (j:∀(l:C') (h:Hp),Same H h->h l=gV (.lst<|fX<|ir cs c)->Q (.ref l) h):EY vs H Q E
theorem HoldAt.adr(h:HoldAt H a k s p)(b:z∈s):aY k (.inl z)=gV (.ref<|adr k z)/\H (adr k z)=gV (.lst<|fX<|p z):=by
 obtain⟨l,e,q⟩:=h.val z b;have:K92.adr k z=l:=by unfold K92.adr;rw[e]
 rw[this];exact⟨e,q⟩
theorem LA(F:Fun K "fewest_holders" "fewest_holders" Lz f I)(T:Bf M):ay P w K M B aV 1 f I ["holders","literals","many"] EY:=by
 refine F.okB (N:=["holders","literals","many"]) λJ A o s H vs Q E sc N h=>?_;obtain⟨a,b,d,C,c,rfl,l,m,O,U,n,u⟩:=h;have hu:=N.units;have W:(A.deeper<|Rr "fewest_holders" (aA Lz) s.heap.objs.size f J).units+1<Tw:=by lia
 refine⟨_,(ae (bu (iG<|kj (pv 1) λS=>rfl) (di<|AA rfl rfl T.list rfl T.range<|pv 2) aK)
  (di<|GT rfl rfl T.min rfl T.len<|jR ["literal","holders"] [Pt,gV 0] (bT<|pv 1) (e:=λS S S S=>(bv W (pv 1) (pv 0) λS S=>rfl)))),?_⟩
 exists _,rfl,!(c.map _).isEmpty,.inr<|.inl ⟨_,SqT.of m,rfl⟩;cases c with
 |nil=>
  exact ar ⟨_,rfl,C.length,rfl,QF U (by decide),λL X=>u L _ (ad X _) aa⟩
 |cons y r=>
  refine al<|⟨_,rfl,b,rfl,⟨_,SqT.of m⟩,λD nD=>cg [gV<|.ref a] _ (NL d) rfl m nD (by rw[A'];lia) (λx v Y R k q=>q) (λx v S Y R k q=>?_) ?_⟩
  ·obtain⟨z,e,rfl⟩:=Qe.mp v;obtain⟨Z,S⟩:=l.adr<|n z e;exact⟨_,rfl,_,rfl,a,.ref<|adr d z,rfl,by rw[<-Z];exact DGet.k (k:=.inl z)<|k _ _ l.ha,q⟩
  have ef:(((y::r).map V.int).filter λS=>Pn).map (NL d)=((y::r).map<|adr d).map V.ref:=by
   rw[Rq.mpr λS S=>rfl,Qm,Qm];rfl
  rw[ef];have p:=ad nD<|.lst<|((y::r).map<|adr d).map V.ref;have G:=cm p;have g:=l.mono p;refine⟨D,(y::r).map<|adr d,((y::r).map<|bn C).map Q4,rfl,SqL.of G,(by simp),⟨by simp,λi a' j=>?_⟩,λa' j=>?_⟩
  ·rw[PN]at j;obtain⟨z,e,rfl⟩:=Qn.mp j;obtain⟨S,t⟩:=g.adr<|n z<|Pq e;exists _,SqL.of t;rw[PN,PN,e,A'];rfl
  rw[PN]at j;obtain⟨z,e,rfl⟩:=Qn.mp j;obtain⟨S,t⟩:=g.adr<|n z<|Pq e;refine u _ _ p ?_;rw[t];unfold ir;rw[B',PN,e];rfl
noncomputable abbrev EZ:QW:=bS 54
inductive tG (vs:ab V)(H:Hp)(Q:VK)(E:XK):Prop
 |mk (q a:C')(xs:ab V)(cs:ab (ab Int))(kvs:ab (aJ×V))(h0:vs=[.ref q,.ref a])(b:H q=gV (.lst xs))(d:CLs H cs xs)(e:cs.length<=400)(f:∀c∈cs,c.length<=60)(g:HoldAt H a kvs (gJ cs) (bn cs))
  (i:∀v h,Same H h->RS h (jb cs) v->Q v h):tG vs H Q E
inductive E1 (q a:C')(cs:ab (ab Int))(H:Hp)(j:Nat)(b:St)(h:Hp):Prop
 |mk (v c d:M' V)(h0:b=[gV<|.ref q,gV<|.ref a,v,c,d])(e:Same H h)(f:∀k,k<j->zi cs k=Pt)
inductive xA (q a t:C')(cs:ab (ab Int))(H:Hp)(j:Nat)(ns:ab Nat)(i:Nat)(b:St)(h:Hp):Prop
 |mk (v:M' V)(h0:b=[gV<|.ref q,gV<|.ref a,gV<|.int (j:Int),gV<|.ref t,v])(c:Same H h)(d:∀k∈ns.take i,pV cs j k=Pr)
theorem E2{N:ab Nat}{i:Nat}{x:V}(h:(fX N)[i]?=gV x):∃n:Nat,x=.int (n:Int)/\N[i]?=gV n:=by
 rw[PN]at h;obtain⟨n,e,rfl⟩:=Qn.mp h;exact⟨n,rfl,e⟩
theorem E3(F:Fun K "next_within" "next_within" EZ f fd)(T:Bf M)(N:Fe P w K M B 1 "fewest_holders" EY)(aL:Fe P w K M B 1 "holds_all" nO):ay P w K M B aV 2 f fd ["clauses","holders"] tG:=by
 refine F.okB (N:=["clauses","holders","within","literals","place"]) λR8 A O s H vs Q E sc hr h=>?_;obtain⟨q,a,xs,c,U,rfl,G,m,X,Y,hA,q'⟩:=h;have Rg:=m.length;refine⟨_,(ae (fI Rc rfl (kE rfl T.enumerate<|pv 0) gg
   (au<|fS 4 (aO<|wM N hr<|aM (pv 1)<|kh (pv 3)<|aR dq rfl T.len R9<|gT<|pv 0) gg))
  (di gG)),?_⟩
 exists _,rfl,q,rfl,⟨_,SqL.of G⟩;refine gC (K:=K) m G (E1 q a c H) ?_ ⟨Pt,Pt,Pt,rfl,Same.refl _,λu h=>by simp_all⟩ ?_ ?_
 ·rintro j o I ⟨u,u,u,u,k,u⟩;exact k
 ·rintro j o I G1 Z t hj hm ⟨v2,v3,v4,rfl,k2,W⟩ p u v Tp;exists Z,_,rfl,SqT.of v,rfl,_,_,rfl,_,_,rfl,rfl;have am:=Y _ hm;exists _,rfl,_,rfl,_,rfl,.ref q,_,rfl,.inl ⟨_,SqL.of<|p _ _ G,rfl⟩;rw[<-Rg];refine⟨a,t,U,c,c.getD j [],rfl,hA.mono p,p _ _ Tp,am,X,λz hz=>gh.mpr ⟨_,hm,hz⟩,λl H4 k4 C=>⟨l,rfl,⟨_,SqL.of C⟩,?_⟩⟩;have D:=p.trans k4;have an:∀i,(ir c<|c.getD j []).find? (pV c j)=gV i->jb c=gV (.within i j):=λi e=>iq hj W (by unfold zi;rw[e];rfl);refine cx (K:=K) (a:=l) (xs:=fX<|ir c<|c.getD j []) (xA q a t c H4 j<|ir c<|c.getD j []) ⟨_,rfl,Same.refl _,λk J=>(nomatch J)⟩ ?_ ?_ ?_
  ·rintro i o H5 u ⟨u,u,k,u⟩;exact SqL.of<|k _ _ C
  ·rintro i x o H5 as ⟨w4,rfl,L,b⟩;obtain⟨n,rfl,hn⟩:=E2 as;have av:=EO<|Pq hn;obtain⟨tn,az,aC,a0⟩:=fW m av;have d:=D.trans L;refine df ?_;have y:pV c j n=Pr->xA q a t c H4 j (ir c<|c.getD j []) (i+1) [gV<|.ref q,gV<|.ref a,gV<|.int (j:Int),gV<|.ref t,gV<|.int (n:Int)] H5:=λe=>by
    refine⟨_,rfl,L,λk J=>?_⟩;obtain z|z:=mH hn J
    ·exact b k z
    simp_all
   refine⟨_,rfl,_,rfl,.inl ⟨rfl,_,rfl,?_⟩⟩;by_cases g:n=j
   ·refine L7 (by rw[g])<|al<|y ?_;unfold pV;rw[PB g];rfl
   rw[Pu λz:V.int (n:Int)=V.int (j:Int)=>g (by have:=V.int.inj z;lia)];refine ar ?_;refine⟨_,rfl,_,rfl,(fY (d _ _ G) (aE az) ⟨_,rfl,tn,t,_,_,rfl,d _ _ aC,d _ _ Tp,_,rfl,?_⟩)⟩;cases ew:((c.getD j []).all λz=>(c.getD n []).contains z)with
   |false=>
    refine al<|y ?_;unfold pV;rw[ew,Sb]
   |true=>
    refine ar ⟨_,rfl,_,rfl,(by show 3<=sizeLine;decide),λr aF=>?_⟩;have k6:=ad aF<|.tup [.str bZ,.int (n:Int),.int (j:Int)];refine q' _ _ (d.trans k6) ?_;rw[an n<|tF hn b<|by unfold pV;rw[ew,Pu g];rfl];exact⟨r,rfl,aa⟩
  rintro o H5 ⟨w4,rfl,L,b⟩;refine⟨_,_,_,rfl,D.trans L,lS W ?_⟩;rw[PJ<|by rw[A'];exact Po _]at b;unfold zi;grind
 rintro o I ⟨v2,v3,v4,rfl,k2,W⟩;exact q' _ _ k2 (by unfold jb;rw[f'.mpr W];rfl)
noncomputable abbrev E4:QW:=bS 55
inductive xB (vs:ab V)(H:Hp)(Q:VK)(E:XK):Prop
 |mk (p q a:C')(t:Str)(xs:ab V)(cs:ab (ab Int))(kvs:ab (aJ×V))(h0:vs=[.ref p,.ref a])(b:SentAt H p q t xs cs)(c:HoldAt H a kvs (gJ cs) (bn cs))
  (d:∀v h,Same H h->RS h (nQ t cs) v->Q v h):xB vs H Q E
theorem xC(C:ab (ab Int))(z:Int):(bn C z).map (λi=>C.getD i [])=C.filter λc=>c.contains z:=by
 have e:C=(Qt C.length).map λi=>C.getD i []:=by
  refine List.ext_getElem (by simp) λi h H=>?_;simp_all
 conv=>rhs;rw[e]
 rw[Yo];rfl
theorem E5(h:CLs H c xs):∀{N:ab Nat},(∀n∈N,n<c.length)->CLs H (N.map λi=>c.getD i []) (N.map λi=>xs.getD i .non)
 |[],_=>.nil
 |n::r,a=>by
  obtain⟨t,x,T,z⟩:=fW h<|a n P3;refine Paired.cons ⟨t,?_,T⟩<|E5 h λm b=>a m<|P1 _ b;simp_all
theorem HQ(h:CLs H C xs)(z:Int):CLs H (C.filter λc=>c.contains z) ((bn C z).map λi=>xs.getD i .non):=by
 rw[<-xC];exact E5 h λn a=>(gF.mp a).1
noncomputable def E6(t:Str):V->Px
 |.int z=>cw t z
 |_=>Pr
theorem vy(t:Str):∀c:ab Int,((c.map V.int).filter<|E6 t).map id=(c.filter<|cw t).map V.int
 |[]=>rfl
 |z::r=>by
  have i:=vy t r;rw[aa3]at i ⊢;rw[Qf];by_cases h:cw t z=Pn
  ·rw[QK (a:=V.int z) h,QK h,Qf,i]
  rw[QP (a:=V.int z) h,QP h,i]
noncomputable def OX(xs:ab V):V->V
 |.int n=>xs.getD n.toNat .non
 |_=>.non
theorem HR(xs:ab V)(n:ab Nat):((fX n).filter λz=>Pn).map (OX xs)=n.map λi=>xs.getD i .non:=by
 rw[Rq.mpr λz z=>rfl];rw[Qm];rfl
inductive Jv (p q a:C')(t:Str)(cs:ab (ab Int))(H:Hp)(i:Nat)(b:St)(h:Hp):Prop
 |mk (v c d e:M' V)(h0:b=[gV<|.ref p,gV<|.ref a,gV<|.ref q,v,c,d,e])(f:Same H h)(g:∀k,k<i->HK t cs k=Pt)
inductive Jw (p q a T:C')(t:Str)(cs:ab (ab Int))(zs:ab Int)(H:Hp)(i j:Nat)(b:St)(h:Hp):Prop
 |mk (v c:M' V)(h0:b=[gV<|.ref p,gV<|.ref a,gV<|.ref q,gV<|.int (i:Int),gV<|.ref T,v,c])(d:Same H h)(e:∀z∈zs.take j,fo t cs i z=Pr)
theorem HS(F:Fun K "next_blocked" "next_blocked" E4 f fd)(T:Bf mg)(Zr:Fe P w K mg B 2 "is_of" i_)(a5:Fe P w K mg B 2 "is_blocked" tp):ay P w K mg B aV 3 f fd ["sentence","holders"] xB:=by
 refine F.okB (N:=["sentence","holders","clauses","place","clause","literal","opposed"]) λR8 A an s H vs Q E sc hr h=>?_;obtain⟨p,q,a,t,X,C,as,rfl,S,hA,q'⟩:=h;have hu:=hr.units;have V8:(A.deeper<|Rr "next_blocked" (aA E4) s.heap.objs.size f R8).units+1<Tw:=by lia
 have ht:=S.ht;have a6:=S.hn;refine⟨_,(ae gg
  (ae (fI Rc rfl (kE rfl T.enumerate<|pv 2) gg
   (au (fS 5 (aO<|jR ["literal","sentence"] [Pt,gV 0] (bT<|pv 4) (t:=λM M M M=>(dA<|gH<|wM Zr hr<|aM (pv 1)<|kh (pv 0)<|bL rfl T.g_WISHER))) (ae (K4 6 ["other","clauses"] [Pt,gV 2] (aO<|B8 V8 (pv 1) gg gg ⟨rfl,rfl,rfl,rfl⟩) (e:=λM M M M=>(C9 (K:=K) (pv 1)<|pv 0)))
    gg))))
  (di gG))),?_⟩
 refine⟨_,rfl,(bA S.hp rfl ?_)⟩;exists _,rfl,q,rfl,⟨_,SqL.of S.hq⟩;refine gC (K:=K) S.hcs S.hq (Jv p q a t C H) ?_ ⟨Pt,Pt,Pt,Pt,rfl,Same.refl _,λM h=>by simp_all⟩ ?_ ?_
 ·rintro i J H2 ⟨M,M,M,M,M,k,M⟩;exact k
 ·rintro i J H2 G1 tt L hi hm ⟨v3,v4,v5,v6,rfl,k2,W⟩ kk M N Tp;exists tt,_,rfl,SqT.of N,rfl,_,_,rfl,_,_,rfl,rfl;have a7:=S.hc _ hm;have az:=S.hok _ hm;have O:=kk _ _ Tp;have S1:=S.mono kk;have aC:∀z,((C.getD i []).filter<|cw t).find? (λz=>fo t C i z)=gV z->nQ t C=gV (.blocked i z):=λz e=>iq hi W (by unfold HK;rw[e];rfl);refine⟨_,rfl,L,rfl,⟨_,SqT.of O⟩,λD nD=>?_⟩;refine cg [gV<|.ref p] (E6 t) id rfl O nD (by rw[A'];lia) (λx o H' R k r=>?_) (λx o M H' R k r=>⟨_,rfl,r⟩) ?_
  ·obtain⟨z,u,rfl⟩:=Qe.mp o;have v:=az z u;exists _,rfl,_,rfl,p,t,.ref q,z,Pn,rfl,k _ _ S1.hp,(by lia),v.1,v.2,_,rfl;have e:(cw t z == Pn)=E6 t (.int z):=by
    show _=cw t z
    simp
   rw[e];exact r
  rw[vy];have kD:=ad nD<|.lst<|((C.getD i []).filter<|cw t).map V.int;have sD:=cm kD;have G:=kk.trans kD;generalize upd G1 D (.lst<|((C.getD i []).filter<|cw t).map V.int)=G2 at kD sD G ⊢;exists D,rfl,⟨_,SqL.of sD⟩;refine cx (K:=K) (a:=D) (xs:=((C.getD i []).filter<|cw t).map V.int) (Jw p q a L t C ((C.getD i []).filter<|cw t) G2 i) ⟨_,_,rfl,Same.refl _,λk I=>(nomatch I)⟩ ?_ ?_ ?_
  ·rintro j J H5 M ⟨M,M,M,k,M⟩;exact SqL.of<|k _ _ sD
  ·rintro j x J H5 aF ⟨w5,w6,rfl,k5,b⟩;obtain⟨z,rfl,u⟩:=cn aF;obtain⟨aL,a0⟩:=PQ.mp<|Pq u;have U:=G.trans k5;refine df ?_;refine⟨_,rfl,a,rfl,.inl ⟨_,.inl<|U _ _ hA.ha⟩,_,rfl,_,rfl,(by simp),λl0 a1=>?_⟩;have k6:=ad a1<|.lst [];have Y:=cm k6;have d:=U.trans k6;have g:=hA.mono d;generalize upd H5 l0 (.lst [])=H6 at k6 Y d g ⊢;have v:∃l,(aY as<|.inl (-z)).getD (.ref l0)=.ref l/\H6 l=gV (.lst<|fX<|bn C (-z)):=by
    by_cases I:-z∈gJ C
    ·obtain⟨e1,e2⟩:=g.adr I;exact⟨_,by rw[e1];rfl,e2⟩
    exists l0,(by rw[g.non _ I];rfl);have:bn C (-z)=[]:=SB.mpr λn hn q=>I<|gh.mpr ⟨_,j9<|Rx.mp hn,Py.mp q⟩;rw[this];exact Y
   obtain⟨l,el,v⟩:=v;exists _,DGet.k (k:=.inl (-z)) g.ha;rw[el];refine⟨l,rfl,⟨_,SqL.of v⟩,λD2 Z=>?_⟩;have a2:(fX<|bn C (-z)).length<=900:=by
    rw[A'];have:=Qx (λi=>(C.getD i []).contains (-z))<|Qt C.length;rw[QQ]at this;unfold bn;lia
   refine cU [gV<|.ref q] (λM=>Pn) (OX X) rfl v Z (QF a2<|by simp) (λx o H' R k r=>r) (λx o M H' R k r=>?_) ?_
   ·obtain⟨n,hn,rfl⟩:=Qe.mp o;have a3:=(gF.mp hn).1;obtain⟨tn,ac,M,M⟩:=fW S.hcs a3;refine⟨_,rfl,_,rfl,(fY (k _ _<|d _ _ S.hq) (aE ac) ?_)⟩;have e:OX X (.int (n:Int))=.ref tn:=by
     show X.getD (n:Int).toNat .non=_
     rw[Qo,B',ac];rfl
    simp_all
   rw[HR];have k7:=ad Z<|.lst<|(bn C (-z)).map λi=>X.getD i .non;have s7:=cm k7;have m:=d.trans k7;have am:=k5.trans<|k6.trans k7;generalize upd H6 D2 (.lst<|(bn C (-z)).map λi=>X.getD i .non)=H7 at k7 s7 m am ⊢;have eb:((C.filter λc=>c.contains (-z)).all λk=>cZ (C.getD i []) z k)=fo t C i z:=by
    unfold fo;rw[Py.mpr aL,a0];rfl
   exists _,rfl,_,rfl,_,rfl,L,D2,C.getD i [],z,_,_,rfl,m _ _ Tp,s7,HQ (S.hcs.mono m) (-z),_,rfl;rw[eb];cases ew:fo t C i z with
   |false=>
    refine al ⟨_,_,rfl,am,λy hy=>?_⟩;obtain q1|q1:=mH u hy
    ·exact b y q1
    simp_all
   |true=>
    refine ar ⟨_,rfl,_,rfl,(by show 3<=sizeLine;decide),λr a4=>?_⟩;have k8:=ad a4<|.tup [.str bE,.int (i:Int),.int z];refine q' _ _ (m.trans k8) ?_;rw[aC z<|tF u b ew];exact⟨r,rfl,aa⟩
  rintro J H5 ⟨w5,w6,rfl,k5,b⟩;refine⟨_,_,_,_,rfl,G.trans k5,lS W ?_⟩;rw[PJ<|by rw[A'];exact Po _]at b;unfold HK;grind
 rintro J H2 ⟨v3,v4,v5,v6,rfl,k2,W⟩;exact q' _ _ k2 (by unfold nQ;rw[f'.mpr W];rfl)
noncomputable abbrev E7:QW:=bS 56
noncomputable abbrev NM:QW:=bS 57
inductive je (vs:ab V)(H:Hp)(Q:VK)(E:XK):Prop
 |mk (p q:C')(t:Str)(xs:ab V)(cs ds:ab (ab Int))(v:V)(d:PK)(h0:vs=[.ref p,v])(a:SentAt H p q t xs cs)(b:RD H d v)(c:N9 d)(e:aP t cs d=gV ds)
  (f:∀(r l:C') (ys:ab V) (h:Hp),Same H h->H l=Pt->h r=gV (.tup [.str t,.ref l])->h l=gV (.lst ys)->CLs h ds ys->Q (.ref r) h):je vs H Q E
theorem Few.at(F:Few t C)(a:H p=gV (.tup [.str t,.ref q]))(b:H q=gV (.lst xs))(h:CLs H C xs):SentAt H p q t xs C:=
 ⟨a,b,h,by have:=F.t8;lia,by have:=F.many;lia,F.lits,λc d=>by have:=F.c4 c d;lia⟩
def StpsAt(H:Hp)(a:ab Nx)(Y:ab V):Prop:=Paired (λs y=>∃p:C',y=.ref p/\H p=gV (.tup s.zs)) a Y
theorem SentAt.but(h:SentAt H p q t xs c)(a:H l=gV (.lst y))(d:q≠l):SentAt (upd H l o) p q t xs c:=
 have n:∀b Z,H b=gV (.tup Z)->b≠l:=λb Z e z=>by simp_all
 ⟨by rw[af<|n p _ h.hp];exact h.hp,by rw[af d];exact h.hq,Paired.mapP h.hcs λx x ⟨T,e,q⟩=>⟨T,e,by rwa[af<|n T _ q]⟩,h.ht,h.hn,h.hok,h.hc⟩
theorem StpsAt.but(h:StpsAt H s Z)(a:H l=gV (.lst y)):StpsAt (upd H l o) s Z:=
 Paired.mapP h λx x ⟨t,e,q⟩=>⟨t,e,by rwa[af λz=>by lia]⟩
theorem StpsAt.mono(h:StpsAt H s y)(k:Same H a):StpsAt a s y:=by
 induction h with
 |nil=>exact .nil
 |cons h _ i=>
  obtain⟨p,e,q⟩:=h;exact .cons ⟨p,e,k _ _ q⟩ i
theorem vz:∀n m c,Few t c->bW c<=n->bW c<=m->lK t n c=lK t m c
 |0,0,_,_,_,_=>rfl
 |0,m+1,c,F,H,_=>by
  unfold lK;cases e:c7 t c with
  |none=>rfl
  |some s=>
   obtain⟨z,d,z,T⟩:=fH F e;simp_all
 |n+1,0,c,F,_,a=>by
  unfold lK;cases e:c7 t c with
  |none=>rfl
  |some s=>
   obtain⟨z,d,z,T⟩:=fH F e;simp_all
 |n+1,m+1,c,F,H,a=>by
  unfold lK;cases e:c7 t c with
  |none=>rfl
  |some s=>
   obtain⟨z,d,h,T⟩:=fH F e;show s::lK t n _=s::lK t m _
   rw[h,T5,vz n m d (F.after h) (ud (QH T H))<|by exact ud (QH T a)]
noncomputable def ft(t:Str)(c:ab (ab Int)):ab Nx:=lK t (bW c) c
theorem vA(h:c7 t c=Pt):ft t c=[]:=by
 unfold ft;cases bW c with
 |zero=>rfl
 |succ n=>unfold lK;rw[h]
theorem vB(F:Few t c)(h:c7 t c=gV s)(a:aP t c s.d=gV d):ft t c=s::ft t d:=by
 obtain⟨z,D,H,T⟩:=fH F h;rw[a]at H;unfold ft;cases e:bW c with
 |zero=>simp_all
 |succ n=>
  show(match c7 t c with
   |none=>[]
   |some s=>s::lK t n _)=_
  rw[h];show s::lK t n _=_
  rw[a,T5,vz n _ d (F.after a) (by lia)<|Po _]
theorem tH:∀n c,(lK t n c).length<=n
 |0,_=>Po _
 |n+1,c=>by
  unfold lK;cases c7 t c with
  |none=>simp
  |some s=>exact Te<|tH n _
theorem zn:∀{C:ab (ab Int)},(∀c∈C,c.length<=4)->bW C<=5*C.length
 |[],_=>Po _
 |c::r,h=>by
  have a:=h c P3;have b:=zn λk H=>h k<|P1 _ H;rw[fG,P4];lia
theorem Few.size(F:Few t c):bW c<=80:=by
 have h:=zn F.c4;have H:=F.many;lia
theorem zo{H:Hp}{s:Nx}{p:C'}(h:H p=gV (.tup s.zs)):RD H s.d (.ref p):=by
 cases s with
 |unit i=>exact bo h<|ah (cR _)<|ah (ca _) aG
 |drop i=>exact bo h<|ah (cR _)<|ah (ca _) aG
 |pure z=>exact bo h<|ah (cR _)<|ah (ca _) aG
 |within i j=>exact bo h<|ah (cR _)<|ah (ca _)<|ah (ca _) aG
 |blocked i z=>exact bo h<|ah (cR _)<|ah (ca _)<|ah (ca _) aG
theorem E8(s:Nx):N9 s.d:=by
 cases s with
 |unit i=>exact λd e=>by cases e;exact ze
 |drop i=>exact λd e=>by cases e;exact zd
 |pure z=>exact λd e=>by cases e;exact zf
 |within i j=>exact λd e=>by cases e;exact rA
 |blocked i z=>exact λd e=>by cases e;exact pR
inductive E_ (vs:ab V)(H:Hp)(Q:VK)(E:XK):Prop
 |mk (p q:C')(t:Str)(xs:ab V)(cs:ab (ab Int))(h0:vs=[.ref p])(a:SentAt H p q t xs cs)(b:Few t cs)(c:∀(l:C') (ys:ab V) (h:Hp),Same H h->H l=Pt->h l=gV (.lst ys)->StpsAt h (ft t cs) ys->Q (.ref l) h)
inductive LB (p l:C')(t:Str)(c:ab (ab Int))(H:Hp)(m:Nat)(a:St)(h:Hp):Prop
 |mk (r q:C')(xs ys:ab V)(cs:ab (ab Int))(s:ab Nx)(v:V)(h0:a=[gV<|.ref p,gV<|.ref l,gV<|.ref r,gV v])(b:Same H h)(d:h l=gV (.lst ys))(e:StpsAt h s ys)(f:SentAt h r q t xs cs)(g:Few t cs)(i:ft t c=s++ft t cs)(j:RS h (c7 t cs) v)(k:m=bW cs)(n:q≠l)
theorem Bi(F:Fun K "smaller_by" "smaller_by" xu f j)(m:Fe P w K M b 5 "clauses_after" tz):ay P w K M b aV 6 f j ["sentence","step"] je:=by
 have G:=zg;refine F.okA zg λI A o s H J Q E L h=>?_;obtain⟨p,q,t,x,C,O,v,d,rfl,S,n,a,e,u⟩:=h;refine⟨_,(ae gg
  (ae (bu gg (au eV) aK)
  gg)),?_⟩
 refine⟨_,rfl,_,rfl,p,q,t,x,C,v,d,rfl,S,n,a,λT U g i=>?_⟩;rw[e]at i;obtain⟨l,y,rfl,N,B,D⟩:=i;exists _,rfl,rfl,_,rfl;refine al ⟨_,rfl,(bA (g _ _ S.hp) rfl ⟨_,rfl,(by show 2<=sizeLine;decide),λr c=>?_⟩)⟩;have k:=ad c<|.tup [.str t,.ref l];exact u r l y _ (g.trans k) N aa (k _ _ B)<|D.mono k
theorem Fa(F:Fun K "next_step" "next_step" E7 f fd)(ac:Fe P w K m b 4 "next_short" (tE λt c=>dX (fq t c) c.length))(am:Fe P w K m b 1 "holders_of" xx)(an:Fe P w K m b 1 "next_pure" xz)
  (as:Fe P w K m b 2 "next_within" tG) (av:Fe P w K m b 3 "next_blocked" xB):ay P w K m b aV 5 f fd ["sentence"] (tE c7):=by
 refine F.okB (N:=["sentence","step","holders"]) λR8 A I s H vs Q E sc hr h=>?_;obtain⟨p,q,t,X,c,rfl,S,Y,q'⟩:=h;exists _,gg;refine⟨_,rfl,p,q,t,X,c,rfl,S,Y,λv H1 J C=>?_⟩;have W:∀{o:M' Nx} {n:Hp} {v:V},Same H n->RS n o v->c7 t c=o->Q v n:=λ{o n v} k r e=>q' v n k (by simp_all);cases O:dX (fq t c) c.length with
 |some s=>
  have u:c7 t c=gV s:=by unfold c7;rw[O];rfl
  rw[O]at C;obtain⟨r,rfl,d⟩:=C;exists _,rfl,rfl,_,rfl;rw[Pu (λz=>nomatch z)];exact ar ⟨_,rfl,W (o:=gV s) J ⟨r,rfl,d⟩ u⟩
 |none=>
  rw[O]at C;have L:v=.non:=C;subst L;exists _,rfl,rfl,_,rfl;rw[PB rfl];refine al ?_;have x:=S.mono J;refine⟨_,rfl,(bA x.hp rfl ⟨q,X,c,rfl,x.hq,x.hcs,x.hn,x.hc,Y,λa i H2 k2 M=>?_⟩)⟩;have Z:=J.trans k2;have S2:=S.mono Z;refine⟨_,rfl,a,i,_,_,rfl,M,λv H3 N r3=>?_⟩;have j:=Z.trans N;cases y:lH c with
  |some s=>
   have u:c7 t c=gV s:=by unfold c7;rw[O,y];rfl
   have g:RS H3 (lH c) v:=r3;rw[y]at g;obtain⟨r,rfl,d⟩:=g;exists _,rfl,rfl,_,rfl;exact ar ⟨_,rfl,W (o:=gV s) j ⟨r,rfl,d⟩ u⟩
  |none=>
   have g:RS H3 (lH c) v:=r3;rw[y]at g;have T:=g;subst T;exists _,rfl,rfl,_,rfl;have B:=S.mono j;refine⟨_,rfl,(bA B.hp rfl ⟨_,rfl,q,a,X,c,i,rfl,B.hq,B.hcs,B.hn,B.hc,M.mono N,λv H4 k4 D=>?_⟩)⟩;have l:=j.trans k4;cases G:jb c with
   |some s=>
    have u:c7 t c=gV s:=by unfold c7;simp_all
    rw[G]at D;obtain⟨r,rfl,d⟩:=D;exists _,rfl,rfl,_,rfl;exact ar ⟨_,rfl,W (o:=gV s) l ⟨r,rfl,d⟩ u⟩
   |none=>
    rw[G]at D;have U:=D;subst U;exists _,rfl,rfl,_,rfl;have S4:=S.mono l;exact⟨_,rfl,_,rfl,p,q,a,t,X,c,i,rfl,S4,M.mono<|N.trans k4,λv H5 k5 r5=>W (l.trans k5) r5 (by unfold c7;simp_all)⟩
theorem LC(F:Fun K "all_smaller" "all_smaller" NM f fd)(av:Fe P w K mg B 5 "next_step" (tE c7))(az:Fe P w K mg B 6 "smaller_by" je):ay P w K mg B aV 7 f fd ["sentence"] E_:=by
 refine F.okB (N:=["sentence","steps","left","step"]) λR8 A I s H vs Q E sc hr h=>?_;obtain⟨p,q,t,xs,C,rfl,S,J,q'⟩:=h;refine⟨_,(ae gg
  (ae gg
  (ae gg
  (ae (iH Rc gg
   gg)
  (di<|pv 1))))),?_⟩
 refine⟨(by simp),λl n=>?_⟩;have L:=ad n<|.lst [];have s1:=cm L;generalize upd H l (.lst [])=H1 at L s1 ⊢;have S1:=S.mono L;refine⟨_,rfl,_,rfl,p,q,t,xs,C,rfl,S1,λc M=>(J.ok c M).1,λv H2 T r2=>?_⟩;exists LB p l t C H,⟨_,p,q,xs,[],C,[],v,rfl,L.trans T,T _ _ s1,.nil,S1.mono T,J,rfl,r2,rfl,λz=>by rw[<-z,S.hq]at n;cases n⟩;rintro m σ j ⟨r,q3,X,y,U,ss,v3,rfl,k3,a,e,S3,u,d,D,rfl,W⟩;cases o:c7 t U with
 |none=>
  rw[o]at D;have Y:v3=.non:=D;subst Y;exists _,rfl,rfl,_,rfl;rw[PB rfl];refine al ⟨_,rfl,?_⟩;rw[vA o,QN]at d;exact q' l y j k3 n a (by simp_all)
 |some s=>
  rw[o]at D;obtain⟨b,rfl,Z⟩:=D;obtain⟨V,es,ha,TQ⟩:=fH u o;have hz:=u.size;have x:=Qq Q4 d;have aC:y.length<=80:=by
   have h1:=tH (t:=t) (bW C) C;have h2:=J.size;have h3:=Paired.length e;unfold ft at x;grind
  exists _,rfl,rfl,_,rfl;refine ar ⟨λac H'=>∃m',m'<bW U/\LB p l t C H m' ac H',λV V z=>z,?_⟩;exists _,rfl,.inl ⟨rfl,_,SqL.of a⟩,_,rfl,l,_,_,rfl,rfl,a,ak (QF aC (by decide));have k4:=k3.upd_new n<|.lst<|y++[.ref b];have S4:=S3.but (o:=.lst<|y++[.ref b]) a W;have O:=e.but (o:=.lst<|y++[.ref b]) a;have g:upd j l (.lst<|y++[.ref b]) b=gV (.tup s.zs):=by rwa[af λz=>by simp_all]
  have i:=@aa j l (.lst<|y++[.ref b]);generalize upd j l _=H4 at k4 S4 O g i ⊢;refine⟨_,rfl,_,rfl,r,q3,t,X,U,es,.ref b,s.d,rfl,S4,zo g,E8 s,ha,λr5 l5 us H5 G N am an as=>?_⟩;have F5:=u.after ha;have S5:=F5.at am an as;refine⟨_,rfl,r5,l5,t,us,es,rfl,S5,λc M=>(F5.ok c M).1,λv6 H6 k r6=>⟨_,TQ,r5,l5,us,y++[.ref b],es,ss++[s],v6,rfl,k4.trans<|G.trans k,k _ _<|G _ _ i,cV (O.mono<|G.trans k)<|Paired.cons ⟨b,rfl,k _ _<|G _ _ g⟩ .nil,S5.mono k,F5,?_,r6,rfl,λz=>by simp_all⟩⟩;rw[d,vB u o ha,Qu];rfl
noncomputable abbrev Jx:QW:=bS 58
inductive LvAt (H:Hp)(v:V)(c:ab Int)(b:Px):Prop
 |mk (t lf:C')(e:v=.ref t)(h:H t=gV (.tup [.ref lf,.bl b]))(a:H lf=gV (.tup<|c.map V.int))(d:c.length<=900)(f:∀l∈c,1<=absI l)
theorem LvAt.mono(h:LvAt H v c b)(k:Same H a):LvAt a v c b:=by
 obtain⟨t,l,e,d,f,g,i⟩:=h;exact⟨t,l,e,k _ _ d,k _ _ f,g,i⟩
theorem LvAt.but(h:LvAt H v c b)(f:H D=gV (.lst y)):LvAt (upd H D<|.lst Z) v c b:=by
 obtain⟨t,l,e,a,d,g,i⟩:=h;exact⟨t,l,e,by rwa[af λz=>by simp_all],by rwa[af λz=>by simp_all],g,i⟩
def OV(H:Hp)(o:Int×ab Int×Px)(k:aJ×V):Prop:=k.1=.inl o.1/\LvAt H k.2 o.2.1 o.2.2
theorem OV.all{H a:Hp}{os:ab (Int×ab Int×Px)}{s:ab (aJ×V)}(h:Paired (OV H) os s)(k:∀v c b,LvAt H v c b->LvAt a v c b):Paired (OV a) os s:=by
 induction h with
 |nil=>exact .nil
 |cons r _ i=>exact .cons ⟨r.1,k _ _ _ r.2⟩ i
noncomputable def vC(t:Str)(c:ab (ab Int))(h:Px):Nx->ab (Int×ab Int×Px)
 |.drop i=>if h=Pn then []else((c.getD i []).filter λl=>!(ao t Pr<|c.getD i []).contains l).map λl=>(absI l,ao t Pr<|c.getD i [],decide (l<0))
 |.unit i=>if h=Pn then [(absI<|(c.getD i []).getD 0 0,[],decide (0<(c.getD i []).getD 0 0))]else []
 |.pure z=>if(cw t z == h)=Pn then [(absI z,[],decide (0<z) == h)]else []
 |.within _ _=>[]
 |.blocked i z=>if h=Pn then [(absI z,(c.getD i []).filter λl=>decide (absI l<absI z),decide (0<z))]else []
theorem OY(c:ab Int)(d:H D=gV (.dK []))(h:H p=gV (.tup [.ref e,.bl b]))(a:H e=gV (.tup<|c.map V.int))(f:c.length<=900)(g:∀l∈c,1<=absI l):Paired (OV<|upd H D<|.dK [((.inl (absI z):aJ),.ref p)]) [(absI z,c,b)] [((.inl (absI z):aJ),.ref p)]:=
 .cons ⟨rfl,p,e,rfl,by rwa[af λz=>by simp_all],by rwa[af λz=>by simp_all],f,g⟩ .nil
theorem Bj(p:V->Px)(c:ab Int):((c.map V.int).filter p).map id=(c.filter λl=>p<|.int l).map V.int:=by
 rw[aa3,Yo];rfl
noncomputable def Nx.w:Nx->Str
 |.unit _=>eB
 |.drop _=>ax
 |.pure _=>dW
 |.within _ _=>bZ
 |.blocked _ _=>bE
theorem zp(s:Nx):kn s.zs 0=gV (.str s.w):=by cases s<;>rfl
theorem LD{s:Nx}(h:decide (V.str s.w=V.str (PD "unit"))=Pn):∃i,s=.unit i:=by
 cases s<;>first|exact⟨_,rfl⟩|exact absurd (V.str.inj<|PX h) (by dsimp only[Nx.w];decide+kernel)
theorem LF{s:Nx}(h:decide (V.str s.w=V.str (PD "drop"))=Pn):∃i,s=.drop i:=by
 cases s<;>first|exact⟨_,rfl⟩|exact absurd (V.str.inj<|PX h) (by dsimp only[Nx.w];decide+kernel)
theorem LG{s:Nx}(h:decide (V.str s.w=V.str (PD "pure"))=Pn):∃i,s=.pure i:=by
 cases s<;>first|exact⟨_,rfl⟩|exact absurd (V.str.inj<|PX h) (by dsimp only[Nx.w];decide+kernel)
theorem Bk{s:Nx}(h:decide (V.str s.w=V.str (PD "blocked"))=Pn):∃i z,s=.blocked i z:=by
 cases s<;>first|exact⟨_,_,rfl⟩|exact absurd (V.str.inj<|PX h) (by dsimp only[Nx.w];decide+kernel)
theorem fC(P:St->Hp->Prop)(c:∀R,(∀a h,P a h->R a h)->s {D with nx:=R} b H)(n:∀a h,P a h->d D a h):nZ s d D b H:=c _ n
inductive xD (vs:ab V)(H:Hp)(Q:VK)(E:XK):Prop
 |mk (p q:C')(t:Str)(xs:ab V)(cs:ab (ab Int))(v:V)(s:Nx)(hw:Px)(h0:vs=[.ref p,v,.str<|aq hw])(b:SentAt H p q t xs cs)(u:∀c∈cs,Ups c)(d:RD H s.d v)(e:tD t cs s)
  (f:∀(a:C') (kvs:ab (aJ×V)) (h:Hp),Same H h->H a=Pt->h a=gV (.dK kvs)->Paired (OV h) (vC t cs hw s) kvs->Q (.ref a) h):xD vs H Q E
structure PrsAt (H:Hp)(ts:ab C')(kvs:ab (aJ×V)):Prop where
 len:ts.length=kvs.length
 at_:∀(j:Nat) (t:C') (k:aJ) (v:V),ts[j]?=gV t->kvs[j]?=gV (k,v)->H t=gV (.tup [kV k,v])
inductive NN (h:Hp)(D lf:C')(c left:ab Int)(i:Nat)(a:St)(ys:ab V)(H:Hp):Prop
 |mk (v:M' V)(t:ab C')(kvs:ab (aJ×V))(h0:a=[v,gV (.ref lf)])(b:H D=gV (.lst ys))(d:Same h H)(e:ys=t.map V.ref)(f:PrsAt H t kvs)(g:kvs.map (·.1)=((c.take i).filter λl=>!left.contains l).map λl=>(Qd (absI l):aJ))(j:Paired (OV H) (((c.take i).filter λl=>!left.contains l).map λl=>(absI l,left,decide (l<0))) kvs)
theorem PrsAt.but(h:PrsAt H T s)(a:H D=gV (.lst y)):PrsAt (upd H D<|.lst Z) T s:=
 ⟨h.len,λj t k v e E=>by
  have:=h.at_ j t k v e E;rwa[af λz=>by simp_all]⟩
theorem PrsAt.mono(h:PrsAt H T s)(k:Same H a):PrsAt a T s:=⟨h.len,λj t b v e E=>k _ _<|h.at_ j t b v e E⟩
theorem PrsAt.snoc(h:PrsAt H T s)(b:H t=gV (.tup [kV k,v])):PrsAt H (T++[t]) (s++[(k,v)]):=
 ⟨by rw[Pl,Pl,h.len];rfl,λj c d f e E=>by
  by_cases a:j<T.length
  ·rw[PL a]at e;rw[PL<|by rwa[<-h.len]]at E;exact h.at_ j c d f e E
  rw[PV<|by simp_all]at e;rw[PV (by have:=h.len;simp_all),<-h.len]at E;have g:j-T.length=0:=by
   have:=(N'.mp e).1;simp_all
  simp_all⟩
theorem Bm(u:Ups c)(f:Int->Px):((c.filter f).map λl=>(Qd (absI l):aJ)).Nodup:=by
 have h:(c.filter f).Pairwise λa b=>absI a<absI b:=by
  have H:=QU.mp u;exact H.sublist TX
 refine QU.mpr<|h.imp λ{a b} d z=>?_;simp_all
theorem HU(F:Fun K "own_values" "own_values" Jx f fd)(T:Bl mg)(WG:Fe P w K mg am 3 "dropped" eE)(a6:Fe P w K mg am 2 "is_of" i_):ay P w K mg am aV 4 f fd ["sentence","step","hand"] xD:=by
 refine F.okB (N:=["sentence","step","hand","clauses","clause","left","literal","lesser"]) λQC A aL s H vs Q E sc hr h=>?_;obtain⟨p,q,t,xs,M,v,s,o,rfl,S,YI,hd,ac,q'⟩:=h;obtain⟨b,rfl,O⟩:=ER hd;have ht:=S.ht;refine⟨_,(ae gg
  (ae (bu gg (ae gg
   (ae gg
   (di<|aW (fP rfl) rfl T.dict S8<|gT<|jR ["literal","left"] [Pt,gV 5] (bT<|pv 4) (t:=λ_ _ _ _=>(dA<|gi (jE (K:=K) rfl) (pv 0) (pv 1)<|by rfl))))) aK)
  (ae (bu gg (ae gg
   (di<|kO gg gg)) aK)
  (ae (bu gg (di<|kO gg gg) aK)
  (ae (bu gg (ae (K4 7 ["literal","step"] [Pt,gV 1] (bT gg) (t:=λ_ _ _ _=>(dA<|AI qw gg<|aR oh rfl T.abs Us<|gT<|C9 (K:=K) (pv 1) cF)))
   (di<|kO gg gg)) aK)
  (di oz)))))),?_⟩
 refine fC (λB U=>B=[gV<|.ref p,gV<|.ref b,gV<|.str<|aq o,gV<|.ref q,Pt,Pt,Pt,Pt]/\H=U) (λR I=>⟨_,rfl,(bA S.hp rfl<|I _ _ ⟨rfl,rfl⟩)⟩) ?_;have an:vC t M o s=[]->∀C,Same H C->∀a,C a=Pt->Q (.ref a) (upd C a<|.dK []):=λho C k a W=>q' a [] _ (k.trans<|ad W _) (k.free W) aa (by rw[ho];exact .nil);have wd:∀x y,x≠y->decide (V.str x=V.str y)=false:=λx y h=>Pu λz=>h<|V.str.inj z;have Wz:∀{d:ab (aJ×V)} {C:Hp} {a:C'},Same H C->H a=Pt->Paired (OV<|upd C a<|.dK d) (vC t M o s) d->Q (.ref a) (upd C a<|.dK d):=λ{d C a} kk W hl=>q' a _ _ (kk.upd_new W _) W aa hl;rintro _ _ ⟨rfl,rfl⟩;refine fC (λB U=>B=[gV<|.ref p,gV<|.ref b,gV<|.str<|aq o,gV<|.ref q,Pt,Pt,Pt,Pt]/\H=U/\∀i,s=.drop i->vC t M o s=[]) (λR I=>?_) ?_
 ·refine⟨_,rfl,(bA O (zp s)<|.inl ⟨rfl,_,rfl,iA (λg=>?_) λg=>al<|I _ _ ⟨rfl,rfl,λi e=>by subst e;exact absurd (PB rfl) g⟩⟩)⟩;obtain⟨i,rfl⟩:=LF g;obtain _|⟨_,hi⟩:=ac
  obtain⟨tc,hx,Q7,hm⟩:=fW S.hcs hi;have as:=S.hc _ hm;have L:=S.hok _ hm;have u:=YI _ hm;obtain⟨c,ec⟩:∃c,M.getD i []=c:=⟨_,rfl⟩;rw[ec]at Q7 hm as L u;refine⟨_,rfl,.inl ⟨rfl,_,rfl,?_⟩⟩;cases o with
  |true=>
   rw[wd (aq Pn) (PD "spoiler")<|by decide+kernel];exact al<|I _ _ ⟨rfl,rfl,λ_ _=>rfl⟩
  |false=>
   rw[PB (show V.str (aq Pr)=V.str (PD "spoiler")from rfl)];refine ar ?_;refine⟨_,rfl,_,rfl,(bA O rfl<|(fY S.hq (aE hx) ?_))⟩;refine⟨_,rfl,_,rfl,p,tc,t,_,Pr,c,rfl,S.hp,(by lia),Q7,as,L,λlf C J a0=>?_⟩;have az:=J _ _ Q7;refine⟨_,rfl,tc,rfl,⟨_,SqT.of az⟩,λD nD=>?_⟩;refine ut (K:=K) (a:=tc) (xs:=c.map V.int) (NN C D lf c<|ao t Pr c) ⟨Pt,[],[],rfl,aa,ad nD _,rfl,⟨rfl,λj t k v e=>by grind⟩,rfl,.nil⟩ ?_ ?_ ?_
   ·rintro n σ ys H2 _ ⟨_,_,_,_,X_,m,_⟩;exact⟨X_,SqT.of<|m _ _ az⟩
   ·rintro n x σ ys H2 WA ⟨v0,ts,d,rfl,X_,m,rfl,hp,hk,X⟩;obtain⟨z,rfl,hz⟩:=cn WA;have V0:=m _ _ a0;have et:=Qb (l:=c) (i:=n);rw[hz]at et;refine df ?_;have a1:(if Pn=Pn then !g_ (.int z) ((ao t Pr c).map V.int)else g_ (.int z) ((ao t Pr c).map V.int))=!(ao t Pr c).contains z:=by
     rw[PP rfl,bj]
    exists _,rfl,_,rfl,lf,_,rfl,.inr<|SqT.of V0,rfl,dI _,_,rfl;rw[a1];cases WC:(ao t Pr c).contains z with
    |true=>
     have ef:(c.take<|n+1).filter (λl=>!(ao t Pr c).contains l)=(c.take n).filter λl=>!(ao t Pr c).contains l:=by
      simp_all
     exact al ⟨_,ts,d,rfl,X_,m,rfl,hp,by rw[ef];exact hk,by rw[ef];exact X⟩
    |false=>
     refine ar ⟨_,rfl,z,rfl,_,rfl,_,rfl,_,_,rfl,rfl,(by show 2<=sizeLine;decide),λte a2=>⟨(by show 2<=sizeLine;decide),λpt aC=>?_⟩⟩;have k3:=ad a2<|.tup [.ref lf,.bl (decide (z<0))];have s3:=cm k3;generalize upd H2 te (.tup [.ref lf,.bl (decide (z<0))])=H3 at k3 s3 aC ⊢;have k4:=ad aC<|.tup [.int (if z<0 then -z else z),.ref te];have s4:=cm k4;generalize upd H3 pt (.tup [.int (if z<0 then -z else z),.ref te])=H4 at k4 s4 ⊢;have Y:=k3.trans k4;have Z:=Y _ _ X_;have a3:pt≠D:=λe=>by simp_all
     have tl:ts.length<=60:=by
      have e1:=Qq Q4 hk;rw[A',A']at e1;have e2:=Qx (λl=>!(ao t Pr c).contains l)<|c.take n;rw[P9]at e2;have:=hp.len;lia
     refine⟨Z,by rw[A'];exact ak (by lia),_,ts++[pt],d++[(.inl<|absI z,.ref te)],rfl,aa,(m.trans Y).upd_new nD _,by rw[P6];rfl,?_,?_,?_⟩
     ·refine((hp.mono Y).but Z).snoc ?_;rw[af a3];exact s4
     ·simp_all
     rw[et,QY];show Paired _ ((_++Y1 _ [z]).map _) _
     rw[QK (by rw[WC];rfl),Yn,P6];exact(OV.all X λv c b h=>(h.mono Y).but Z).snoc ⟨rfl,(LvAt.mk te lf rfl (k4 _ _ s3) (Y _ _ V0) (QF (Qx _ _)<|by lia) λl hl=>(L l<|(PQ.mp hl).1).1).but Z⟩
   rintro σ ys H2 ⟨v0,ts,d,rfl,X_,m,rfl,hp,hk,X⟩;rw[PJ<|by rw[A'];exact Po _]at hk X;have P1:d.length<=60:=by
    have e1:=Qq Q4 hk;grind
   refine⟨D,ts,d,rfl,X_,hp.len,λj t' kv e1 e2=>hp.at_ j t' kv.1 kv.2 e1 e2,by rw[hk];exact Bm u _,by lia,λa W=>?_⟩;exact q' a d _ (J.trans<|m.trans<|ad W _) ((J.trans m).free W) aa (by show Paired _ (((M.getD i []).filter _).map _) _;rw[ec];exact OV.all X λv c b h=>h.mono<|ad W _)
 rintro _ _ ⟨rfl,rfl,n1⟩;refine fC (λB U=>B=[gV<|.ref p,gV<|.ref b,gV<|.str<|aq o,gV<|.ref q,Pt,Pt,Pt,Pt]/\H=U/\∀i,s=.unit i->vC t M o s=[]) (λR I=>?_) ?_
 ·refine⟨_,rfl,(bA O (zp s)<|.inl ⟨rfl,_,rfl,iA (λg=>?_) λg=>al<|I _ _ ⟨rfl,rfl,λi e=>by subst e;exact absurd (PB rfl) g⟩⟩)⟩;obtain⟨i,rfl⟩:=LD g;obtain⟨_,hi,a4⟩|_:=ac
  obtain⟨tc,hx,Q7,hm⟩:=fW S.hcs hi;obtain⟨z,ez⟩:=vt a4;rw[ez]at Q7;refine⟨_,rfl,.inl ⟨rfl,_,rfl,?_⟩⟩;cases o with
  |true=>
   rw[PB (show V.str (aq Pn)=V.str (PD "wisher")from rfl)];refine ar ?_;refine⟨_,rfl,_,rfl,(bA O rfl<|(fY S.hq (aE hx)<|bA Q7 rfl ?_))⟩;refine df λdp G=>⟨_,rfl,z,rfl,P8 _,λe ne=>⟨_,rfl,_,_,rfl,rfl,(by show 2<=sizeLine;decide),λpr N=>⟨?_,[(.inl<|absI z,.ref pr)],rfl,(by simp),?_⟩⟩⟩
   ·exact ad N _ _ _<|ad ne _ _ _ aa
   ·exact Wz ((ad G _).trans<|(ad ne _).trans<|ad N _) G (by show Paired _ [(absI<|(M.getD i []).getD 0 0,_,_)] _;rw[ez];exact OY [] (ad N _ _ _<|ad ne _ _ _ aa) aa (ad N _ _ _ aa) (by simp) λ_ z=>nomatch z)
  |false=>
   rw[wd (aq Pr) (PD "wisher")<|by decide+kernel];exact al<|I _ _ ⟨rfl,rfl,λ_ _=>rfl⟩
 rintro _ _ ⟨rfl,rfl,n2⟩;refine fC (λB U=>B=[gV<|.ref p,gV<|.ref b,gV<|.str<|aq o,gV<|.ref q,Pt,Pt,Pt,Pt]/\H=U/\∀z,s=.pure z->vC t M o s=[]) (λR I=>?_) ?_
 ·refine⟨_,rfl,(bA O (zp s)<|.inl ⟨rfl,_,rfl,iA (λg=>?_) λg=>al<|I _ _ ⟨rfl,rfl,λi e=>by subst e;exact absurd (PB rfl) g⟩⟩)⟩;obtain⟨z,rfl⟩:=LG g;obtain _|_|⟨_,c,hc,hz⟩:=ac
  have L:=S.hok _ hc z hz;refine⟨_,rfl,_,rfl,(bA O rfl ⟨_,rfl,p,t,_,z,o,rfl,S.hp,(by lia),L.1,L.2,_,rfl,?_⟩)⟩;cases go:cw t z == o with
  |true=>
   refine ar λdp G=>?_;have J:=ad G<|.dK [];have s1:=cm J;generalize upd H dp (.dK [])=C at J s1 ⊢;refine⟨_,rfl,(bA (J _ _ O) rfl ⟨z,rfl,P8 _,λe ne=>?_⟩)⟩;have m:=ad ne<|.tup [];have s2:=cm m;generalize upd C e (.tup [])=H2 at m s2 ⊢;refine⟨_,rfl,(bA ((J.trans m) _ _ O) rfl ⟨_,_,rfl,rfl,_,rfl,.inl ⟨rfl,.inl ⟨rfl,(by show 2<=sizeLine;decide),λpr N=>⟨?_,[(.inl<|absI z,.ref pr)],rfl,(by simp),?_⟩⟩⟩⟩)⟩
   ·exact ad N _ _ _<|m _ _ s1
   ·exact Wz (J.trans<|m.trans<|ad N _) G (by show Paired _ (if(cw t z == o)=Pn then _ else []) _;rw[go,PP rfl];exact OY [] (ad N _ _ _<|m _ _ s1) (by rw[aa];cases o<;>cases decide (0<z)<;>rfl) (ad N _ _ _ s2) (by simp) λ_ z=>nomatch z)
  |false=>exact al<|I _ _ ⟨rfl,rfl,λ_ _=>by show(if(cw t z == o)=Pn then _ else [])=[];rw[go];rfl⟩
 rintro _ _ ⟨rfl,rfl,n3⟩;refine fC (λB U=>B=[gV<|.ref p,gV<|.ref b,gV<|.str<|aq o,gV<|.ref q,Pt,Pt,Pt,Pt]/\H=U/\∀i z,s=.blocked i z->vC t M o s=[]) (λR I=>?_) ?_
 ·refine⟨_,rfl,(bA O (zp s)<|.inl ⟨rfl,_,rfl,iA (λg=>?_) λg=>al<|I _ _ ⟨rfl,rfl,λi z e=>by subst e;exact absurd (PB rfl) g⟩⟩)⟩;obtain⟨i,z,rfl⟩:=Bk g;obtain _|_|_|_|⟨_,_,hi,hz⟩:=ac
  obtain⟨tc,hx,Q7,hm⟩:=fW S.hcs hi;have as:=S.hc _ hm;refine⟨_,rfl,.inl ⟨rfl,_,rfl,?_⟩⟩;cases o with
  |false=>
   rw[wd (aq Pr) (PD "wisher")<|by decide+kernel];exact al<|I _ _ ⟨rfl,rfl,λ_ _ _=>rfl⟩
  |true=>
   rw[PB (show V.str (aq Pn)=V.str (PD "wisher")from rfl)];refine ar ?_;refine⟨_,rfl,_,rfl,(bA O rfl<|(fY S.hq (aE hx) ⟨tc,rfl,⟨_,SqT.of Q7⟩,λD nD=>?_⟩))⟩;refine cg [gV<|.ref b] (λx=>match x with
    |.int l=>decide (absI l<absI z)
    |_=>Pr) id rfl Q7 nD (by rw[A'];lia) (λx WA U R k r=>?_) (λx WA _ U R k r=>⟨_,rfl,r⟩) ?_
   ·obtain⟨l,hl,rfl⟩:=Qe.mp WA;exact⟨_,rfl,l,rfl,_,rfl,(bA (k _ _ O) rfl ⟨z,rfl,_,_,rfl,rfl,_,rfl,r⟩)⟩
   have L:=S.hok _ hm;obtain⟨us,c',eu,ec,a5,av⟩:∃us c',us=c'.map V.int/\c'=((M.getD i []).filter λl=>decide (absI l<absI z))/\c'.length<=900/\(∀l∈c',1<=absI l)/\CB id (Y1 (λx=>match x with
    |.int l=>decide (absI l<absI z)
    |_=>Pr) ((M.getD i []).map V.int))=us:=⟨_,_,Bj _ _,rfl,QF (Qx _ _) (by lia),λl hl=>(L l<|(PQ.mp hl).1).1,rfl⟩
   obtain⟨av,e5⟩:=av;rw[e5];have kD:=ad nD<|.lst us;have sD:=cm kD;generalize upd H D (.lst us)=H0 at kD sD ⊢;refine λdp G=>?_;have J:=ad G<|.dK [];have s1:=cm J;generalize upd H0 dp (.dK [])=C at J s1 ⊢;have aF:=J _ _<|kD _ _ O;refine⟨_,rfl,(bA aF rfl ⟨z,rfl,_,rfl,D,us,rfl,.inl ⟨SqL.of<|J _ _ sD,λe ne=>?_⟩⟩)⟩;have m:=ad ne<|.tup us;have s2:=cm m;generalize upd C e (.tup us)=H2 at m s2 ⊢;refine⟨_,rfl,(bA (m _ _ aF) rfl ⟨_,_,rfl,rfl,(by show 2<=sizeLine;decide),λpr N=>⟨?_,[(.inl<|absI z,.ref pr)],rfl,(by simp),?_⟩⟩)⟩
   ·exact ad N _ _ _<|m _ _ s1
   exact Wz (kD.trans<|J.trans<|m.trans<|ad N _) (kD.free G) (by show Paired _ [(absI z,(M.getD i []).filter _,_)] _;rw[<-ec];exact OY c' (ad N _ _ _<|m _ _ s1) aa (ad N _ _ _<|by rwa[<-eu]) a5 av)
 rintro _ _ ⟨rfl,rfl,n4⟩;refine λa W=>an ?_ H (Same.refl _) a W;cases s with
 |drop i=>exact n1 i rfl
 |unit i=>exact n2 i rfl
 |pure z=>exact n3 z rfl
 |within=>rfl
 |blocked i z=>exact n4 i z rfl
noncomputable abbrev Jy:QW:=bS 30
noncomputable abbrev Jz:QW:=cO (bS 32) 0
noncomputable abbrev zq:QW:=cO (bS 32) 1
structure LH (K:J')(mg:Str->M' Pm)(CP:C'):Prop where
 tuple:mg "tuple"=Pt
 dict:mg "dict"=Pt
 cl:Cls K CP
 ne:NoAttr K CP "entries"
abbrev gD:=Int×ab (ab Int×Px)×Px
inductive RuleAt (H:Hp)(r:ab Int×Px)(x:V):Prop
 |mk (q s:C')(hx:x=.ref q)(h:H q=gV (.tup [.ref s,.bl r.2]))(a:H s=gV (.tup<|r.1.map V.int))
structure RulesAt (H:Hp)(ZV:ab (ab Int×Px))(xs:ab V):Prop where
 len:xs.length=ZV.length
 at_:∀(i:Nat) (x:V),xs[i]?=gV x->∃r,ZV[i]?=gV r/\RuleAt H r x
inductive EntAt (H:Hp)(F:C'->Prop)(e:gD)(x:V):Prop
 |mk (p lr:C')(r:ab V)(hx:x=.ref p)(h:H p=gV (.tup [.int e.1,.ref lr,.bl e.2.2]))(a:H lr=gV (.lst r))(b:RulesAt H e.2.1 r)(c:F lr)
structure EntsAt (H:Hp)(F:C'->Prop)(es:ab gD)(xs:ab V):Prop where
 len:xs.length=es.length
 at_:∀(i:Nat) (x:V),xs[i]?=gV x->∃e,es[i]?=gV e/\EntAt H F e x
inductive OwnE (H:Hp)(e:gD)(t:C'):Prop
 |mk (tr:C')(r:ab V)(h:H t=gV (.tup [.ref tr,.bl e.2.2]))(a:H tr=gV (.tup r))(b:RulesAt H e.2.1 r)
inductive PlayerAt (H:Hp)(C x:C')(es:ab gD):Prop
 |mk (dx d:C')(kvs:ab (aJ×V))(h:H x=gV (.ins C dx [("entries",.ref d)]))(a:H d=gV (.dK kvs))(hn:∀v:Int,(∀e∈es,e.1≠v)->aY kvs (.inl v)=Pt)(s:∀e∈es,∃t,aY kvs (.inl e.1)=gV (.ref t)/\OwnE H e t)
def NO:HO->Prop
 |.lst _=>False
 |_=>True
def Kept(H h:Hp):Prop:=∀b o,NO o->H b=gV o->h b=gV o
theorem Same.kept(k:Same H h):Kept H h:=λb o z e=>k b o e
theorem RuleAt.mono(h:RuleAt H r x)(k:Kept H a):RuleAt a r x:=by
 obtain⟨q,s,b,c,d⟩:=h;exact⟨q,s,b,k _ _ trivial c,k _ _ trivial d⟩
theorem RulesAt.mono(h:RulesAt H X xs)(k:Kept H c):RulesAt c X xs:=
 ⟨h.len,λi x e=>let ⟨r,a,b⟩:=h.at_ i x e;⟨r,a,b.mono k⟩⟩
theorem PlayerAt.mono(h:PlayerAt H C x E)(k:Kept H b):PlayerAt b C x E:=by
 obtain⟨d,D,s,c,f,n,g⟩:=h;refine⟨d,D,s,k _ _ trivial c,k _ _ trivial f,n,λe i=>?_⟩;obtain⟨t,a,T,r,B,j,l⟩:=g e i;exact⟨t,a,T,r,k _ _ trivial B,k _ _ trivial j,l.mono k⟩
noncomputable def tI(Z:ab (ab Int×Px))(b:ab Px)(o:Px):Px:=match Z.find? λr=>r.1.all (hit b)with
 |some r=>r.2
 |none=>o
def LI(n:Nat)(Z:ab (ab Int×Px)):Prop:=∀r∈Z,r.1.length<=900/\∀l∈r.1,1<=absI l/\absI l<=(n:Int)
theorem rE(h:1<=absI l)(H:absI l<=(B.length:Int)):cM B (absI l) (decide (0<l))=.bl (hit B l):=by
 obtain⟨e,z⟩|e:=qJ (B:=B) h
 ·obtain⟨b,z,E⟩:=jk (p:=decide (0<l)) h H;simp_all
 exact e
inductive xE (vs:ab V)(H:Hp)(Q:VK)(E:XK):Prop
 |mk (p f:C')(c:ab Int)(bs:ab Px)(h0:vs=[.ref p,.ref f])(h:H p=gV (.tup<|c.map V.int))(a:H f=gV (.lst<|bs.map V.bl))(b:bs.length<=900)(d:∀l∈c,1<=absI l/\absI l<=(bs.length:Int))(q:Q (.bl<|c.all<|hit bs) H)
inductive vD (C:C')(vs:ab V)(H:Hp)(Q:VK)(E:XK):Prop
 |mk (x b:C')(es:ab gD)(e:gD)(bs:ab Px)(h0:vs=[.ref x,.int e.1,.ref b])(h:PlayerAt H C x es)(a:H b=gV (.lst<|bs.map V.bl))(c:bs.length<=900)(d:e∈es)(f:LI bs.length e.2.1)(q:Q (.bl<|tI e.2.1 bs e.2.2) H)
inductive xF (C:C')(vs:ab V)(H:Hp)(Q:VK)(E:XK):Prop
 |mk (x dx l:C')(es:ab gD)(xs:ab V)(F:C'->Prop)(h0:vs=[.ref x,.ref l])(a:H x=gV (.ins C dx []))(c:H l=gV (.lst xs))(d:EntsAt H F es xs)(f:(es.map (·.1)).Nodup)(g:es.length<=900)(i:∀e∈es,e.2.1.length<=9000)
  (q:∀h,PlayerAt h C x es->(∀b o,b≠x->H b=gV o->h b=gV o)->Q .non h):xF C vs H Q E
theorem Fb{a:Type}{p:a->Px}{l:ab a}{i:Nat}{x:a}(h:l[i]?=gV x) (W:(l.take i).find? p=Pt) (H:p x=Pn):l.find? p=gV x:=by
 have e:l.take (i+1)=l.take i++[x]:=by rw[Qb,h];rfl
 rw[<-Q5 _ l,e,Qu,UB,W,UB,Sz H];rfl
theorem Bn{a:Type}{p:a->Px}{l:ab a}{i:Nat}{x:a}(h:l[i]?=gV x) (W:(l.take i).find? p=Pt) (H:p x=Pr):(l.take<|i+1).find? p=none:=by
 have e:l.take (i+1)=l.take i++[x]:=by rw[Qb,h];rfl
 rw[e,UB,W,Ug<|by rw[H];exact Pk];rfl
theorem Bo{b:ab Px}{c:ab Int}{l:Int}(H:l∈c)(h:hit b l=Pr):c.all (hit b)=false:=by
 grind
inductive zr (p:C')(g:C')(H:Hp)(c:ab Int)(bs:ab Px)(i:Nat)(a:ab (M' V))(h:Hp):Prop
 |mk (v:M' V)(I:a=[gV<|.ref p,gV<|.ref g,v])(b:h=H)(d:(c.take i).all (hit bs)=Pn)
theorem Ff(F:Fun K "all_stand" "all_stand" Jy f t)(Z:Fe P w K M b 1 "stands_by" k_):ay P w K M b aV 2 f t ["literals","begun"] xE:=by
 refine F.okB (N:=["literals","begun","literal"]) λC A o s H D Q E I J h=>?_;obtain⟨p,g,c,B,rfl,d,u,y,v,q⟩:=h;refine⟨_,(ae (fS 2 (bT<|pv 0) gg)
  (di gb)),⟨_,rfl,p,rfl,⟨_,SqT.of d⟩,eK (K:=K) (xs:=c.map V.int) (zr p g H c B) ⟨Pt,rfl,rfl,rfl⟩ ?_ ?_ ?_⟩⟩
 ·rintro i j k Y ⟨Y,Y,e,Y⟩;rw[e];exact SqT.of d
 ·rintro i x j k a ⟨z,rfl,rfl,r⟩;obtain⟨l,n,rfl⟩:∃l,c[i]?=gV l/\x=.int l:=by
   cases e:c[i]? with
   |none=>simp_all
   |some l=>simp_all
  have m:=Pq n;have e:c.take (i+1)=c.take i++[l]:=by rw[Qb,n];rfl
  exists _,rfl,_,rfl,l,g,B,rfl,u,y,(v l m).1;rw[rE (v l m).1 (v l m).2];exists _,rfl;cases G:hit B l with
  |true=>
   refine al ⟨_,rfl,rfl,?_⟩;simp_all
  |false=>
   rwa[Bo m G]at q
 rintro j k ⟨z,rfl,rfl,r⟩;rw[PJ<|by rw[A'];exact Po _]at r;rwa[r]at q
inductive zt (x:C')(e:gD)(b:C')(t:C')(H:Hp)(bs:ab Px)(i:Nat)(a:ab (M' V))(h:Hp):Prop
 |mk (v:M' V)(I:a=[gV (.ref x),gV (.int e.1),gV (.ref b),gV (.ref t),v])(c:h=H)(d:(e.2.1.take i).find? (λr=>r.1.all<|hit bs)=Pt)
theorem Bp(F:Fun K "answer" "Planned.answer" zq f I)(T:LH K M C)(J:Fe P w K M B 2 "all_stand" xE):ay P w K M B aV 3 f I ["self","variable","begun"] (vD C):=by
 refine F.okB (N:=["self","variable","begun","entry","rule"]) λQC A o s H vs Q E sc c h=>?_;obtain⟨x,b,es,e,a,rfl,L,O,U,X,N,q⟩:=h;have v:=mN c;obtain⟨d,D,Y,j,h2,hn,hs⟩:=L;obtain⟨te,a1,t,rs,k,l,n⟩:=hs e X;have g:=DGet.k (k:=Qd e.1) h2;rw[a1]at g;refine⟨_,(ae (bu (jI<|ji v (pv 1) gg) (au eV) aK)
  (ae (sT 3<|bv v gg (pv 1) λV V=>rfl)
  (ae (fS 4 (bT gg) gg)
  gg))),?_⟩
 refine⟨_,rfl,_,rfl,x,C,d,_,_,rfl,j,T.cl,T.ne,rfl,D,_,rfl,g,_,rfl,al ?_⟩;exists _,rfl,x,C,d,_,_,rfl,j,T.cl,T.ne,rfl,_,rfl,D,_,rfl,g;refine⟨_,rfl,(bA k rfl ⟨t,rfl,⟨_,SqT.of l⟩,eK (xs:=rs)
  (zt x e b te H a) ⟨Pt,rfl,rfl,rfl⟩ ?_ ?_ ?_⟩)⟩
 ·rintro i p u V ⟨V,V,e2,V⟩;rw[e2];exact SqT.of l
 ·rintro i y p u hy ⟨v4,rfl,rfl,W⟩;obtain⟨r,Z,qa,sv,rfl,z,c2⟩:=n.at_ i y hy;have m:=Pq Z;refine⟨_,rfl,(bA z rfl ⟨_,rfl,sv,b,r.1,a,rfl,c2,O,U,(N r m).2,_,rfl,?_⟩)⟩;cases G:r.1.all _ with
  |true=>
   refine ar ⟨_,rfl,(bA z rfl ?_)⟩;have ea:tI e.2.1 a e.2.2=r.2:=by
    unfold tI;have ef:=Fb Z W G;rw[ef]
   rwa[ea]at q
  |false=>
   exact al ⟨_,rfl,rfl,Bn Z W G⟩
 rintro p u ⟨v4,rfl,rfl,W⟩;rw[PJ<|by rw[n.len];exact Po _]at W;refine⟨_,rfl,(bA k rfl ?_)⟩;unfold tI at q;rwa[W]at q
theorem Fg{c d:Type}{f:c->d}(e:∀a b,f a=f b->a=b){l:ab c}(h:l.Nodup):(l.map f).Nodup:=VL f (λa b H z=>H<|e a b z) h
theorem Fh(h:H D=gV (.lst y)):Kept H (upd H D<|.lst Z):=λb o n e=>by
 have a:b≠D:=λz=>by
  rw[z,h]at e;rwa[<-PZ e]at n
 rwa[af a]
theorem Kept.trans(a:Kept H d)(b:Kept d e):Kept H e:=λc o n h=>b c o n<|a c o n h
theorem OwnE.mono(h:OwnE H e t)(k:Kept H a):OwnE a e t:=by
 obtain⟨T,r,b,c,d⟩:=h;exact⟨T,r,k _ _ trivial b,k _ _ trivial c,d.mono k⟩
theorem zu:∀{s:ab (aJ×V)} {j:Nat} {k:aJ×V},(s.map (·.1)).Nodup->s[j]?=gV k->aY s k.1=gV k.2
 |[],_,_,_,h=>by simp at h
 |p::r,0,k,_,h=>by
  have e:p=k:=by simpa using h
  subst e;exact ci rfl
 |p::r,j+1,k,n,h=>by
  rw[Qf,Q3]at n;have H:r[j]?=gV k:=by assumption
  have U:¬p.1=k.1:=λe=>n.1<|e▸Rp (Pq H);rw[bU U];exact zu n.2 H
theorem vE:∀{s:ab (aJ×V)} {k:aJ},k∉s.map (·.1)->aY s k=Pt
 |[],_,_=>rfl
 |p::r,k,h=>by
  rw[Qf,P_,not_or]at h;rw[bU λe=>h.1 e.symm];exact vE h.2
structure Pairs (H:Hp)(es:ab gD)(ts:ab C')(kvs:ab (aJ×V)):Prop where
 tl:ts.length=es.length
 ks:kvs.map (·.1)=es.map λe=>(Qd e.1:aJ)
 tup:∀(j:Nat) (t:C') (kv:aJ×V),ts[j]?=gV t->kvs[j]?=gV kv->H t=gV (.tup [kV kv.1,kv.2])
 own:∀(j:Nat) (e:gD),es[j]?=gV e->∃te,kvs[j]?=gV (Qd e.1,.ref te)/\OwnE H e te
theorem Pairs.kl(h:Pairs H e t k):k.length=e.length:=by
 have:=Qq Q4 h.ks;simpa using this
theorem Pairs.snoc(h:Pairs H E T s)(k:Kept H g)(p:g t=gV (.tup [.int e.1,.ref i]))(q:OwnE g e i):Pairs g (E++[e]) (T++[t]) (s++[(Qd e.1,.ref i)]):=by
 have l:=h.kl;refine⟨by simp[h.tl],by simp[h.ks],λj r v c f=>?_,λj u c=>?_⟩
 ·by_cases d:j<T.length
  ·rw[PL d]at c;rw[PL<|by rwa[l,<-h.tl]]at f;exact k _ _ trivial<|h.tup j r v c f
  have m:=(N'.mp c).1;rw[Pl,Qg]at m;have n:j=T.length:=by lia
  subst n;rw[PV<|Po _,QO]at c;rw[PV (by rw[l,h.tl];exact Po _),l,h.tl,QO]at f;cases c;cases f;exact p
 by_cases d:j<E.length
 ·rw[PL d]at c;obtain⟨o,a,b⟩:=h.own j u c;exact⟨o,by rwa[PL<|by simp_all],b.mono k⟩
 have m:=(N'.mp c).1;simp_all
theorem Pairs.player(h:Pairs H E T k)(N:(E.map (·.1)).Nodup)(f:H x=gV (.ins C D [("entries",.ref d)]))(g:H d=gV (.dK k)):PlayerAt H C x E/\(k.map (·.1)).Nodup:=by
 have n:(k.map (·.1)).Nodup:=by
  rw[h.ks];have e:(E.map λe=>(Qd e.1:aJ))=(E.map (·.1)).map Qd:=by rw[Qm];rfl
  rw[e];exact Fg (λy y z=>Rm z) N
 refine⟨⟨D,d,k,f,g,λv i=>vE ?_,λe c=>?_⟩,n⟩
 ·rw[h.ks];intro m;obtain⟨e,c,l⟩:=Qe.mp m;exact i e c<|Rm l
 obtain⟨j,o⟩:=Q6.mp c;obtain⟨t,a,b⟩:=h.own j e o;exact⟨t,zu n a,b⟩
inductive zw (D:C')(H:Hp)(es:ab gD)(i:Nat)(a:ab (M' V))(ys:ab V)(h:Hp):Prop
 |mk (I:(∃v,a=[v]))(b:h D=gV (.lst ys))(c:Same H h)(t:ab C')(kvs:ab (aJ×V))(d:ys=t.map V.ref)(e:Pairs h (es.take i) t kvs)
theorem HV(F:Fun K "__init__" "Planned.__init__" Jz f fd)(T:LH K mg X):ay P w K mg aC aV 1 f fd ["self","plan"] (xF X):=by
 refine F.okB (N:=["self","plan"]) λQC A an s H vs Q E sc hr h=>?_;obtain⟨x,dx,l,u,xs,G,rfl,h1,h2,h3,nd,e9,r9,q⟩:=h;exists _,(au<|jJ (pv 0) (aW (fP rfl) rfl T.dict S8<|gT<|jR ["entry"] [Pt] (aO<|pv 1) (e:=λS S S S=>(eD<|kh (C9 (pv 0) cF)<|eD<|kh (aW (oT rfl) rfl T.tuple Ro<|gT<|C9 (pv 0) cF)<|C9 (pv 0) cF))) rfl);refine⟨_,rfl,l,rfl,⟨_,SqL.of h2⟩,λD hD=>?_⟩;refine bQ (K:=K) (xs:=xs) (zw D H u)
  ⟨⟨Pt,rfl⟩,aa,ad hD _,[],[],rfl,⟨rfl,rfl,λj t kv e=>by grind,λj e e1=>by simp_all⟩⟩ ?_ ?_ ?_
 ·rintro i σ ys v S ⟨S,Y,k,S⟩;exact⟨Y,SqL.of<|k _ _ h2⟩
 ·rintro i y σ ys v hy ⟨⟨v0,rfl⟩,Y,k,B,a,rfl,c⟩;obtain⟨e,he,p,lr,O,rfl,p1,p2,p3,S⟩:=h3.at_ i y hy;have I:=k _ _ p1;have as:=k _ _ p2;have Sv:=(N'.mp he).1;have et:u.take (i+1)=u.take i++[e]:=by rw[Qb,he];rfl
  refine cy ⟨_,rfl,(bA I rfl ⟨_,rfl,(bA I rfl ⟨lr,_,rfl,.inl ⟨SqL.of as,λm Z=>⟨_,rfl,(bA (ad Z _ _ _ I) rfl ⟨(by show 2<=sizeLine;decide),λn ac=>⟨(by show 2<=sizeLine;decide),λU J=>?_⟩⟩)⟩⟩⟩)⟩)⟩;have L:=ad Z<|.tup O;have M:=cm L;generalize upd v m _=N at L M ac J ⊢;have k4:=ad ac<|.tup [.ref m,.bl e.2.2];have s4:=cm k4;generalize upd N n (.tup [.ref m,.bl _])=H4 at k4 s4 J ⊢;have k5:=ad J<|.tup [.int e.1,.ref n];have s5:=cm k5;generalize upd H4 U (.tup _)=H5 at k5 s5 ⊢;have g:=L.trans<|k4.trans k5;have am:=g _ _ Y;have kd:=Fh (Z:=(B++[U]).map V.ref) am;refine⟨am,?_,⟨_,rfl⟩,aa,?_,B++[U],a++[(Qd e.1,.ref n)],by simp,?_⟩
  ·rw[A',c.tl];exact ak (by grind)
  ·exact(k.trans g).upd_new hD _
  rw[et];have e1:B.map V.ref++[V.ref U]=(B++[U]).map V.ref:=by simp
  rw[e1];exact c.snoc ((Same.kept g).trans kd) (kd _ _ trivial s5) ⟨m,O,kd _ _ trivial<|k5 _ _ s4,kd _ _ trivial<|k5 _ _<|k4 _ _ M,(p3.mono<|Same.kept<|k.trans g).mono kd⟩
 rintro σ ys v ⟨S,Y,k,B,a,rfl,c⟩;rw[PJ<|by rw[h3.len];exact Po _]at c;have x2:=k _ _ h1;refine⟨D,B,a,rfl,Y,by rw[c.kl,c.tl],c.tup,?_,by rw[c.kl];exact QF e9 (by simp),λW av=>?_⟩
 ·have e:(u.map λe=>(Qd e.1:aJ))=(u.map (·.1)).map Qd:=by rw[Qm];rfl
  rw[c.ks,e];exact Fg (λS S z=>Rm z) nd
 have L:=ad av<|.dK a;have M:=cm L;generalize upd v W _=N at L M ⊢;have x3:=L _ _ x2;have Wi:W≠x:=λz=>by lia
 exists _,rfl,x,X,dx,[],rfl,x3,T.cl,T.ne,(by simp);have kx:∀b o,b≠x->N b=gV o->upd N x (.ins X dx [("entries",.ref W)]) b=gV o:=λb o hb e=>by rwa[af hb]
 refine q _ ?_ λb o hb e=>kx b o hb<|L _ _<|k _ _ e;have az:Pairs (upd N x<|.ins X dx [("entries",.ref W)]) u B a:=by
  have kk:∀b o,(∀C d fs,o≠.ins C d fs)->v b=gV o->upd N x _ b=gV o:=λb o ho e=>kx b o (by grind) (L _ _ e)
  refine⟨c.tl,c.ks,λj t kv a1 a2=>kk _ _ (by lia)<|c.tup j t kv a1 a2,λj e a1=>?_⟩;obtain⟨n,b1,m,O,c1,c2,c3⟩:=c.own j e a1;refine⟨n,b1,m,O,kk _ _ (by lia) c1,kk _ _ (by lia) c2,c3.len,λi y hy=>?_⟩;obtain⟨r,d1,qa,sv,rfl,d2,d3⟩:=c3.at_ i y hy;exact⟨r,d1,qa,sv,rfl,kk _ _ (by lia) d2,kk _ _ (by lia) d3⟩
 exact(az.player nd aa<|kx _ _ Wi M).1
noncomputable abbrev JA:QW:=bS 17
noncomputable abbrev Fi:QW:=bS 18
def xG:Sp:=λv H Q _=>∃(p f:C') (c:ab Int) (b:ab Px),v=[.ref p,.ref f]/\H p=gV (.tup<|c.map V.int)/\H f=gV (.lst<|b.map V.bl)/\b.length<=900/\c.length<=900/\(∀l∈c,1<=absI l)/\∀h:Hp,Same H h->Q (.bl<|c.any<|hit b) h
def tJ:Sp:=λs H Q _=>∃(v:V) (f:C') (t:Str) (C:ab (ab Int)) (b:ab Px),s=[v,.ref f]/\RD H (oM t C) v/\H f=gV (.lst<|b.map V.bl)/\b.length<=900/\uB C/\(∀c∈C,∀l∈c,1<=absI l)/\∀h:Hp,Same H h->Q (.bl<|C.all λc=>c.any<|hit b) h
theorem HW(F:Fun K "some_stands" "some_stands" JA f e)(T:Bl m)(Z:Fe P w K m b 1 "stands_by" k_):ay P w K m b aV 2 f e ["clause","filling"] xG:=by
 refine F.okB (N:=["clause","filling"]) λC A o s H y Q E G I h=>?_;obtain⟨p,g,c,B,rfl,a,i,j,n,v,q⟩:=h;exists _,(di<|aR (iM rfl) rfl T.any Tn<|gT<|jR ["literal","filling"] [Pt,gV 1]<|bT<|pv 0);refine⟨_,rfl,p,rfl,⟨_,SqT.of a⟩,λD d=>cg [gV<|.ref g] _ (IL λl=>cM B (absI l) (decide (0<l))) rfl a d (by rw[A'];lia) (λY Y Y Y Y r=>r) ?_ ?_⟩
 ·intro x t Y J R k r;obtain⟨z,u,rfl⟩:=c_ t;exact⟨_,rfl,_,rfl,z,g,B,rfl,k _ _ i,j,v z u,r⟩
 rw[wB,Qm];refine⟨D,_,rfl,SqL.of aa,?_,?_⟩
 ·exact uG c B
 rw[wE c B v];exact q _<|ad d _
theorem Fj(F:Fun K "comes_true" "comes_true" Fi f J)(T:Bl M)(Ye:Fe P w K M b 2 "some_stands" xG):ay P w K M b aV 3 f J ["sentence","filling"] tJ:=by
 refine F.okB (N:=["sentence","filling"]) λQC A o s H vs Q E sc hr h=>?_;obtain⟨v,g,t,C,B,rfl,N,O,U,m,W,q⟩:=h;obtain⟨p,j,Y,rfl,Z,l,n⟩:=kF N;exists _,(di<|aR (oJ rfl) rfl T.all VR<|gT<|jR ["clause","filling"] [Pt,gV 1]<|aO gg);refine⟨_,rfl,(bA Z rfl ⟨j,rfl,⟨_,SqL.of l⟩,λD r=>bQ (K:=K) (xs:=Y) (λi d y a=>(∃u,d=[u,gV<|.ref g])/\y=(C.take i).map (λc=>V.bl<|c.any<|hit B)/\a D=gV (.lst y)/\Same H a) ⟨⟨Pt,rfl⟩,rfl,aa,ad r _⟩ ?_ ?_ ?_⟩)⟩
 ·rintro i d y a S ⟨S,S,h,k⟩;exact⟨h,SqL.of<|k _ _ l⟩
 ·rintro i x d y a hx ⟨⟨u,rfl⟩,L,X,k⟩;obtain⟨c,z,tc,rfl,Q7⟩:=n.get hx;have G:=Pq z;have e:C.take (i+1)=C.take i++[c]:=by rw[Qb,z];rfl
  refine cy ⟨_,rfl,_,rfl,tc,g,c,B,rfl,k _ _ Q7,k _ _ O,U,m.2 c G,W c G,λH3 I=>⟨I _ _ X,?_,⟨_,rfl⟩,?_,aa,(k.trans I).upd_new r _⟩⟩
  ·have:y.length<=C.length:=by
    rw[L,A',P9];exact V5 _ _
   exact ak (by have:=m.1;lia)
  rw[e,P6,<-L];rfl
 rintro d y a ⟨S,L,X,k⟩;rw[PJ<|by rw[n.length];exact Po _]at L;refine⟨D,y,rfl,SqL.of X,?_,?_⟩
 ·rw[L,TJ];exact Qv.mpr λS S=>rfl
 have e:y.all iB=C.all λc=>c.any (hit B):=by
  rw[L,TJ];rfl
 rw[e];exact q a k
abbrev m9:=Nat->ab Px->Px
noncomputable def iz(E:ab gD)(i:Nat)(b:ab Px):Px:=match E.find? λe=>decide (e.1=1+(i:Int))with
 |some e=>tI e.2.1 b e.2.2
 |none=>Pr
noncomputable def b_(t:Str)(h:Px)(i:Nat):Px:=cD t i == h
noncomputable def g7(t:Str)(h:Px)(i:Nat):Nat:=((Qt i).filter λi=>!b_ t h i).length
theorem g8(t:Str)(h:Px)(i:Nat):g7 t h (i+1)=g7 t h i+(if b_ t h i=Pn then 0 else 1):=by
 unfold g7;rw[Si,QY,Pl];cases g:b_ t h i with
 |true=>simp_all
 |false=>rw[QK<|by rw[g];rfl];rfl
theorem Bq(t:Str)(H:Px)(h:i<=j):g7 t H i<=g7 t H j:=by
 induction j with
 |zero=>simp_all
 |succ j I=>
  obtain g|g:=VB i (j+1)
  ·rw[g8];lia
  rw[show i=j+1 by exact Nat.le_antisymm h g];exact Po _
theorem zx(t:Str)(h:Px)(i:Nat):g7 t h i<=i:=by
 unfold g7;have:=Qx (λi=>!b_ t h i)<|Qt i;simp_all
structure PlanOk (es:ab gD)(t:Str)(hw:Px):Prop where
 has:∀i,i<t.length->b_ t hw i=Pn->∃e,es.find? (λe=>decide (e.1=1+(i:Int)))=gV e/\e∈es/\e.1=1+(i:Int)
 near:∀e∈es,∃i:Nat,i<t.length/\e.1=1+(i:Int)/\LI i e.2.1
theorem PlanOk.nearAt{E:ab gD}{t:Str}{H:Px}(h:PlanOk E t H){e:gD}{i:Nat}(a:e∈E)(b:e.1=1+(i:Int)):LI i e.2.1:=by
 obtain⟨j,z,c,n⟩:=h.near e a;have:j=i:=by lia
 rwa[<-this]
theorem HX(t:Str)(h:Px)(i:Nat):decide (cD t i=h)=b_ t h i:=by
 rfl
theorem Fl(b:Px):decide (V.str (aq b)=V.str (PD "wisher"))=b:=by
 have z:=ff b Pn;have Z:aq Pn=PD _:=rfl;simp_all
theorem tK(b:Px)(B:ab Px):B.map V.bl++[V.bl b]=(B++[b]).map V.bl:=by simp
def Fol(A:m9)(t:Str)(h:Px)(b:ab Px):Prop:=∀i,i<b.length->b_ t h i=Pn->b[i]?=gV (A i<|b.take i)
theorem Fol.snoc(h:Fol A t H B)(g:b_ t H B.length=Pn->b=A B.length B):Fol A t H (B++[b]):=λi a o=>by
 rw[Pl,Qg]at a;by_cases e:i<B.length
 ·rw[PL e,R7 (QA e),h i e o]
 have:i=B.length:=by lia
 subst this;rw[PV<|Po _,QO,YW,<-g o];rfl
noncomputable abbrev JB:QW:=cO (bS 60) 0
noncomputable abbrev Fo:QW:=bS 61
structure NP (K:J')(mg:Str->M' Pm)(CP CL:C'):Prop where
 dict:mg "dict"=Pt
 isinstance:mg "isinstance"=Pt
 tuple:mg "tuple"=Pt
 clP:Cls K CP
 clL:Cls K CL
 nv:NoAttr K CL "variables"
 ni:NoAttr K CL "innermost"
 nl:NoAttr K CL "layers"
 g_LedBack:kI mg "LedBack" (.ref CL)
 ha:Qy K (.ref CP) "__class__"=gV (gV<|.builtin "object.__class__")
 hn:Xf K (.builtin "object.__class__") "__get__"=gV (gV<|.builtin "getset_descriptor.__get__")
 htk:Yk K (.builtin "object.__class__")=gV Pn
 hm:V' K CP (.type "object")=gV Pn
 kit:R_ K (.ref CP) (.ref CL)=gV Pr
 ha':Qy K (.ref CL) "__class__"=gV (gV<|.builtin "object.__class__")
 hm':V' K CL (.type "object")=gV Pn
 kit':R_ K (.ref CL) (.ref CL)=gV Pn
def LvF(H:Hp)(k:ab (aJ×V))(g:Int->ab Px->Px->Px):Prop:=∀v:Int,(aY k (.inl v)=Pt/\∀B i,g v B i=i)\/∃(t L:C') (c:ab Int) (b:Px),aY k (.inl v)=gV (.ref t)/\H t=gV (.tup [.ref L,.bl b])/\H L=gV (.tup<|c.map V.int)/\c.length<=900/\(∀l∈c,1<=absI l)/\∀B i,g v B i=if c.any (hit B)=Pn then i else b
noncomputable def j_(os:ab (Int×ab Int×Px))(v:Int)(b:ab Px)(i:Px):Px:=match os.find? λo=>decide (o.1=v)with
 |some o=>if o.2.1.any (hit b)=Pn then i else o.2.2
 |none=>i
theorem LJ{H:Hp}{os:ab (Int×ab Int×Px)}{s:ab (aJ×V)}(h:Paired (OV H) os s):LvF H s (j_ os):=λv=>by
 induction h with
 |nil=>exact .inl ⟨rfl,λx x=>rfl⟩
 |@cons o a os s r _ I=>
  obtain⟨k,y⟩:=a;obtain⟨rfl,t,l,rfl,c,d,g,j⟩:=r;by_cases e:o.1=v
  ·refine .inr ⟨t,l,o.2.1,o.2.2,?_,c,d,g,j,λb i=>?_⟩
   ·have f:((Qd o.1,V.ref t)::s).find? (λa=>decide (a.1=(Qd v)))=gV _:=Sz (PB<|by rw[e]);unfold aY;rw[f];rfl
   have f:(o::os).find? (λo=>decide (o.1=v))=gV o:=Sz (PB e);unfold j_;rw[f]
  have E:aY ((Qd o.1,V.ref t)::s) (.inl v)=aY s (.inl v):=by
   have f:((Qd o.1,V.ref t)::s).find? (λa=>decide (a.1=(Qd v)))=s.find? _:=Ug (λz=>e<|Rm<|PX z);unfold aY;rw[f]
  have m:∀b i,j_ _ v b i=j_ os v b i:=λb i=>by
   have f:(o::os).find? (λo=>decide (o.1=v))=os.find? _:=Ug (λz=>e<|PX z);unfold j_;rw[f]
  rw[E];simp only[m];exact I
theorem LK(h:u D a H):nZ hH.nx u D a H:=h
abbrev Gf:=Int->ab Px->Px->Px
noncomputable def jy(A:m9)(t:Str)(h:Px)(b:ab Px):Nat->ab Px
 |0=>[]
 |k+1=>jy A t h b k++[if b_ t h k=Pn then A k (jy A t h b k)else b.getD k Pr]
theorem dY(A:m9)(t:Str)(h:Px)(b:ab Px):∀k,(jy A t h b k).length=k
 |0=>rfl
 |k+1=>by rw[jy,Pl,dY A t h b k];rfl
noncomputable def HY(A:m9)(g:Gf)(t:Str)(h:Px):m9:=λi b=>g ((i:Int)+1) b<|A i<|jy A t h b i
noncomputable def eJ(e:ab gD)(t:Str)(h:Px):ab Gf->m9
 |[]=>iz e
 |g::r=>HY (eJ e t h r) g t h
def LvsAt(H:Hp)(G:ab Gf)(A:ab V):Prop:=Paired (λg v=>∃(a:C') (k:ab (aJ×V)),v=.ref a/\H a=gV (.dK k)/\LvF H k g) G A
theorem LvF.to(h:LvF H s g)(k:∀b x,H b=gV (.tup x)->a b=gV (.tup x)):LvF a s g:=λv=>by
 obtain h|⟨t,l,c,b,e,d,f,r⟩:=h v
 ·exact .inl h
 exact .inr ⟨t,l,c,b,e,k _ _ d,k _ _ f,r⟩
theorem LvsAt.to(h:LvsAt H g A)(k:∀b xs,H b=gV (.tup xs)->c b=gV (.tup xs))(d:∀b s,H b=gV (.dK s)->c b=gV (.dK s)):LvsAt c g A:=
 Paired.mapP h (by rintro z z ⟨a,s,e,f,i⟩;exact ⟨a,s,e,d _ _ f,i.to k⟩)
inductive LedX (H:Hp)(C CL x:C')(es:ab gD)(r:ab Gf)(t:Str)(hw:Px):Prop
 |mk (dx d pl l:C')(a:ab V)(h:H x=gV (.ins CL dx [("variables",.ref d),("innermost",.ref pl),("layers",.ref l)]))(b:H d=gV (.dK ((aD t hw).map λk=>((Qd k:aJ),V.bl Pn))))(c:H l=gV (.lst a))(e:LvsAt H r.reverse a)(f:PlayerAt H C pl es)
inductive PlX (H:Hp)(C CL x:C')(es:ab gD)(r:ab Gf)(t:Str)(hw:Px):Prop
 |pln (h:PlayerAt H C x es) (e:r=[]):PlX H C CL x es r t hw
 |led (h:LedX H C CL x es r t hw) (ne:r≠[]):PlX H C CL x es r t hw
theorem LedX.mono{CL:C'}(h:LedX H C CL x E r t w)(k:Same H a):LedX a C CL x E r t w:=by
 obtain⟨D,d,p,l,A,c,f,g,i,j⟩:=h;exact⟨D,d,p,l,A,k _ _ c,k _ _ f,k _ _ g,i.to (λb X e=>k _ _ e) λb X e=>k _ _ e,j.mono<|Same.kept k⟩
theorem PlX.mono{CL:C'}(h:PlX H C CL x E r t w)(k:Same H a):PlX a C CL x E r t w:=by
 cases h with
 |pln h e=>exact .pln (h.mono<|Same.kept k) e
 |led h n=>exact .led (h.mono k) n
inductive xH (C CL:C')(vs:ab V)(H:Hp)(Q:VK)(E:XK):Prop
 |mk (x dx p q pl:C')(es:ab gD)(r:ab Gf)(t:Str)(xs:ab V)(cs:ab (ab Int))(v:V)(s:Nx)(hw:Px)(h0:vs=[.ref x,.ref p,v,.str<|aq hw,.ref pl])(hx:H x=gV (.ins CL dx []))(a:SentAt H p q t xs cs)(u:∀c∈cs,Ups c)(b:RD H s.d v)(d:tD t cs s)(e:PlX H C CL pl es r t hw)(f:r.length<=4)
  (q:∀h,BtX x H h->LedX h C CL x es (j_ (vC t cs hw s)::r) t hw->Q .non h):xH C CL vs H Q E
inductive NQ (h:Hp)(D:C')(ks:ab Int)(i:Nat)(a:St)(ys:ab V)(H:Hp):Prop
 |mk (v:M' V)(t:ab C')(h0:a=[v])(b:H D=gV (.lst ys))(c:Same h H)(d:ys=t.map V.ref)(e:PrsAt H t ((ks.take i).map λk=>((Qd k:aJ),V.bl Pn)))
theorem BtX.cls(a:H x=gV (.ins C d f))(k:BtX x H b):∀{c:ab (ab Int)} {xs:ab V},CLs H c xs->CLs b c xs
 |_,_,.nil=>.nil
 |_,_,.cons ⟨t,e,h⟩ r=>.cons ⟨t,e,k _ _ (by lia) h⟩<|BtX.cls a k r
theorem BtX.sent(h:H x=gV (.ins C d f))(k:BtX x H a)(S:SentAt H p q t xs c):SentAt a p q t xs c:=
 ⟨k _ _ (λz=>by have:=S.hp;simp_all) S.hp,k _ _ (λz=>by have:=S.hq;simp_all) S.hq,k.cls h S.hcs,S.ht,S.hn,S.hok,S.hc⟩
theorem PlayerAt.monoX{CL:C'}(h:PlayerAt H C p E)(d:H x=gV (.ins CL D M))(n:p≠x)(k:∀b o,b≠x->NO o->H b=gV o->f b=gV o):PlayerAt f C p E:=by
 have t:∀b X,H b=gV _->f b=gV (.tup X):=λb X e=>k b _ (by lia) trivial e;obtain⟨D,g,s,j,c,l,m⟩:=h;refine⟨D,g,s,k _ _ n trivial j,k _ _ (by lia) trivial c,l,λe u=>?_⟩;obtain⟨T,a,v,w,A,F,B⟩:=m e u;refine⟨T,a,v,w,t _ _ A,t _ _ F,B.len,λi y z=>?_⟩;obtain⟨r,Z,q,G,I,J,L⟩:=B.at_ i y z;exact⟨r,Z,q,G,I,t _ _ J,t _ _ L⟩
theorem PlayerAt.monoX'(h:PlayerAt H C p E)(k:∀b o,NO o->H b=gV o->c b=gV o):PlayerAt c C p E:=by
 have t:∀b x,H b=gV _->c b=gV (.tup x):=λb x e=>k b _ trivial e;obtain⟨d,D,s,f,g,n,j⟩:=h;refine⟨d,D,s,k _ _ trivial f,k _ _ trivial g,n,λe l=>?_⟩;obtain⟨T,a,m,u,v,w,B⟩:=j e l;refine⟨T,a,m,u,t _ _ v,t _ _ w,B.len,λi y z=>?_⟩;obtain⟨r,Z,q,A,F,G,I⟩:=B.at_ i y z;exact⟨r,Z,q,A,F,t _ _ G,t _ _ I⟩
section
variable {CL:C'}
theorem HZ(F:Fun K "__init__" "LedBack.__init__" JB f fd)(T:NP K mg CP CL)(V_:Fe P w K mg Y 2 "variables_of" jS)(bf:Fe P w K mg Y 4 "own_values" xD):ay P w K mg Y aV 5 f fd ["self","sentence","step","hand","player"] (xH CP CL):=by
 refine F.okB (N:=["self","sentence","step","hand","player"]) λR8 A a0 s H vs Q E sc hr h=>?_;obtain⟨x,g,p,qa,m,es,rs,t,X,cs,v,s,u,rfl,B,S,a1,hd,a2,M,bg,q⟩:=h;have ht:=S.ht;refine⟨_,(ae (jJ (pv 0) (aW (fP rfl) rfl T.dict S8<|gT<|jR ["variable"] [Pt]<|aO gg) rfl)
  (ae gg
  (ae gg
  (ae (bu (gH<|aR rY rfl T.isinstance Wt<|kh (pv 4)<|bL rfl T.g_LedBack) (ae gg
   (au<|cG<|fJ QD Yv PySem.F.type_list_extend z_ gg gg)) aK)
  gg)))),?_⟩
 refine⟨_,rfl,_,rfl,p,t,_,u,rfl,S.hp,(QF ht (by decide)),λl H1 k1 hl=>?_⟩;refine⟨l,rfl,⟨_,SqL.of hl⟩,λD nD=>?_⟩;have bk:=pL t u;refine bQ (K:=K) (a:=l) (xs:=(aD t u).map V.int) (NQ H1 D<|aD t u) ⟨Pt,[],rfl,aa,ad nD _,rfl,⟨rfl,λj t k v e=>by simp at e⟩⟩ ?_ ?_ ?_
 ·rintro i σ Z H2 _ ⟨_,_,_,h1,h2,_⟩;exact⟨h1,SqL.of<|h2 _ _ hl⟩
 ·rintro i y σ Z H2 hy ⟨v0,ts,rfl,h1,h2,rfl,h4⟩;obtain⟨z,rfl,hz⟩:=cn hy;have YA:=(N'.mp hz).1;have et:=Qb (l:=aD t u) (i:=i);rw[hz]at et;refine cy ⟨_,rfl,(by show 2<=sizeLine;decide),λpt a3=>?_⟩;have k3:=ad a3<|.tup [.int z,.bl Pn];have s3:=cm k3;generalize upd H2 pt (.tup [.int z,.bl Pn])=H3 at k3 s3 ⊢;have d3:=k3 _ _ h1;have tl:=h4.len;rw[A',P9]at tl;have a4:pt≠D:=λe=>by rw[e,d3]at s3;cases s3
  exists d3,by rw[A'];exact ak (by lia),_,ts++[pt],rfl,aa,(h2.trans k3).upd_new nD _,(by rw[P6];rfl);rw[et,P6];refine((h4.mono k3).but d3).snoc ?_;rw[af a4];exact s3
 rintro σ Z H2 ⟨_,ts,_,h1,h2,rfl,h4⟩;rw[PJ<|by rw[A'];exact Po _]at h4;refine⟨D,ts,_,rfl,h1,h4.len,(λi t kv e1 e2=>h4.at_ i t kv.1 kv.2 e1 e2),?_,(by rw[A'];lia),λd nd=>?_⟩
 ·rw[Qm];exact VL _ (λa b h z=>h<|Rm z)<|j8 t u
 have kd:=ad nd<|.dK<|(aD t u).map λk=>((Qd k:aJ),V.bl Pn);have ac:=k1.trans<|h2.trans kd;have sx:=ac _ _ B;have sd:=cm kd;generalize upd H2 d _=H3 at ac sx sd ⊢;clear k1 h2 kd h1 h4 nd;refine⟨_,rfl,jZ sx T.clL T.nv rfl λH4 b1 s1=>⟨_,rfl,_,rfl,jZ s1 T.clL T.ni rfl λH5 b2 s2=>⟨P8 _,λL N=>?_⟩⟩⟩;have O:d≠x:=λe=>by rw[e,sx]at sd;cases sd
 have d5:=b2 _ _ O<|b1 _ _ O sd;replace b2:=((BtX.of ac).trans b1).trans b2;have k6:=ad N<|.lst [];have s6:=cm k6;generalize upd H5 L (.lst [])=H6 at k6 s6 ⊢;have s3:=k6 _ _ s2;refine⟨_,rfl,jZ s3 T.clL T.nl rfl λJ b7 s7=>?_⟩;have az:L≠x:=λe=>by rw[e,s3]at s6;cases s6
 have l7:=b7 _ _ az s6;have d7:=b7 _ _ O<|k6 _ _ d5;have C:=(b2.trans<|BtX.of k6).trans b7
 have kb:∀b o,b≠x->NO o->H b=gV o->J b=gV o:=λb o nb _ e=>C _ _ nb e;have kt:∀b X,H b=gV (.tup X)->J b=gV (.tup X):=λb X e=>C _ _ (λz=>by rw[z,B]at e;cases e) e;refine LK ?_;refine fC (λa5 H'=>∃U G,a5=[gV<|.ref x,gV<|.ref p,gV v,gV<|.str<|aq u,gV<|.ref m]/\BtX x H H'/\H' x=gV (.ins CL g [("variables",.ref d),("innermost",.ref U),("layers",.ref L)])/\H' d=gV (.dK<|(aD t u).map λk=>((Qd k:aJ),V.bl Pn))/\H' L=gV (.lst G)/\LvsAt H' rs.reverse G/\PlayerAt H' CP U es) (λR hR=>?_) ?_
 ·cases M with
  |pln M e=>
   subst e;obtain⟨dp,de,a6,Wz,_,_,_⟩:=id M;have I:m≠x:=λe=>by
    rw[e,B]at Wz;cases Wz
   exact⟨_,rfl,.ref m,.ref CP,CL,Pr,rfl,.ins (C _ _ I Wz) T.clP T.ha T.hn T.htk T.hm,T.kit,Pr,rfl,al<|hR _ _ ⟨m,[],rfl,C,s7,d7,l7,.nil,M.monoX B I kb⟩⟩
  |led hL _=>
   obtain⟨aC,d',r,an,G,g1,g2,g3,g4,g6⟩:=hL;have I:m≠x:=λe=>by
    rw[e,B]at g1;cases g1
   obtain⟨dp,de,a6,Wz,_,_,_⟩:=id g6;have a7:r≠x:=λe=>by
    rw[e,B]at Wz;cases Wz
   have h7:=C _ _ I g1;refine⟨_,rfl,.ref m,.ref CL,CL,Pn,rfl,.ins h7 T.clL T.ha' T.hn T.htk T.hm',T.kit',Pn,rfl,ar ?_⟩;refine⟨_,rfl,m,CL,aC,_,_,rfl,h7,T.clL,T.ni,rfl,_,rfl,jZ s7 T.clL T.ni rfl λW b8 s8=>?_⟩;have l8:=b8 _ _ az l7;have d8:=b8 _ _ O d7;replace b8:=C.trans b8;have aF:an≠x:=λe=>by rw[e,B]at g3;cases g3
   have bl:an≠L:=λe=>by
    have:=b2 _ _ aF g3;rw[e,N]at this;cases this
   have lg:=Paired.length g4;rw[R4]at lg;exists _,rfl,x,CL,g,_,_,rfl,s8,T.clL,T.nl,rfl,.inl ⟨rfl,_,SqL.of l8⟩,_,rfl,m,CL,aC,_,_,rfl,b8 _ _ I g1,T.clL,T.nl,rfl,L,an,_,_,rfl,rfl,l8,b8 _ _ aF g3,QA<|ak (by show 0+G.length<=1000;lia);have nn:∀{b:C'} {o:HO},W b=gV o->b≠L->upd W L (.lst ([]++G)) b=gV o:=λ{b o} e h=>by rw[af h];exact e
   have av:∀{b:C'} {o:HO},W b=gV o->(∀Z,o≠.lst Z)->b≠L:=λ{b o} e h z=>by rw[z,l8]at e;exact h _ (PZ e).symm
   have mv:∀b o,b≠x->NO o->H b=gV o->upd W L (.lst ([]++G)) b=gV o:=λb o nb n e=>nn (b8 _ _ nb e) (av (b8 _ _ nb e) λZ z=>by rw[z]at n;exact n);refine hR _ _ ⟨r,G,rfl,λc o hc e=>?_,nn s8<|av s8 λ_ z=>(nomatch z),nn d8<|av d8 λ_ z=>(nomatch z),aa,g4.to (λb X e=>mv _ _ (λz=>by rw[z,B]at e;cases e) trivial e) λb X e=>mv _ _ (λz=>by rw[z,B]at e;cases e) trivial e,g6.monoX B a7 mv⟩;refine nn (b8 _ _ hc e) λz=>?_;have:=b2 _ _ hc e;rw[z,N]at this;cases this
 rintro σ J ⟨U,G,rfl,C,s7,d7,l7,aL,a8⟩;have lg:=Paired.length aL;rw[R4]at lg;obtain⟨b,rfl,hb⟩:=ER hd;have a9:=C _ _ (λz=>by rw[z,B]at hb;cases hb) hb;refine⟨_,rfl,x,CL,g,_,_,rfl,s7,T.clL,T.nl,rfl,.inl ⟨rfl,_,SqL.of l7⟩,_,rfl,_,rfl,_,rfl,p,qa,t,X,cs,_,s,u,rfl,C.sent B S,a1,zo a9,a2,λa ba W k8 na ha bb=>?_⟩;exists L,_,_,rfl,rfl,k8 _ _ l7,ak (by lia);have bc:=k8 _ _ l7;have nn:∀{b:C'} {o:HO},W b=gV o->(∀Z,o≠.lst Z)->upd W L (.lst<|G++[.ref a]) b=gV o:=λ{b o} e h=>by
  rw[af λz=>by rw[z,bc]at e;exact h _ (PZ e).symm];exact e
 have hg:=LJ bb;have nt:∀b X,W b=gV (.tup X)->upd W L (.lst<|G++[.ref a]) b=gV (.tup X):=λb X e=>nn e λ_ z=>nomatch z
 refine q _ (λc o hc e=>?_) ⟨g,d,U,L,G++[.ref a],nn (k8 _ _ s7) (λ_ z=>nomatch z),nn (k8 _ _ d7) (λ_ z=>nomatch z),aa,?_,?_⟩
 ·by_cases z:c=L
  ·have:=b2 _ _ hc e;rw[z,N]at this;cases this
  rw[af z];exact k8 _ _<|C _ _ hc e
 ·rw[UA];exact cV (aL.to (λb X e=>nt _ _<|k8 _ _ e) λb X e=>nn (k8 _ _ e) λ_ z=>nomatch z)<|.cons ⟨a,ba,rfl,nn ha (λ_ z=>nomatch z),hg.to nt⟩ .nil
 refine a8.monoX' λb o n e=>nn (k8 _ _ e) λZ z=>?_;rwa[z]at n
inductive tL (C CL:C')(vs:ab V)(H:Hp)(Q:VK)(E:XK):Prop
 |mk (p q pl:C')(es:ab gD)(r:ab Gf)(t:Str)(xs:ab V)(cs ds:ab (ab Int))(v:V)(s:Nx)(hw:Px)(h0:vs=[.ref p,v,.str<|aq hw,.ref pl])(b:SentAt H p q t xs cs)(u:∀c∈cs,Ups c)(d:RD H s.d v)(e:tD t cs s)(a:aP t cs s.d=gV ds)(f:PlX H C CL pl es r t hw)(g:r.length<=4)
  (i:∀x h,Same H h->LedX h C CL x es (j_ (vC t cs hw s)::r) t hw->Q (.ref x) h):tL C CL vs H Q E
theorem Fp(F:Fun K "player_back" "player_back" Fo f y)(z:Fe P w K m B 6 "smaller_by" je)(G:KJ P w K m B 5 "LedBack" CL g2 e2 ["self","sentence","step","hand","player"] (xH I CL)):ay P w K m B aV 7 f y ["sentence","step","hand","player"] (tL I CL):=by
 refine F.okB (N:=["sentence","step","hand","player"]) λR8 A O s H vs Q E sc hr h=>?_;obtain⟨p,q,J,L,M,t,X,C,T,v,s,U,rfl,S,a,i,c,d,W,g,Y⟩:=h;exists _,gg;refine⟨_,rfl,_,rfl,p,q,t,X,C,T,v,s.d,rfl,S,i,E8 s,d,λr l ys j u V V V V=>⟨_,rfl,_,rfl,_,rfl,_,rfl,λx D N n WA=>?_⟩⟩;have Z:Same j (upd (upd j D<|.own x) x<|.ins CL D []):=λb o e=>by
  rwa[af<|ag e N,af<|ag e n]
 have k:=u.trans Z;refine⟨x,D,p,q,J,L,M,t,X,C,v,s,U,rfl,aa,⟨k _ _ S.hp,k _ _ S.hq,S.hcs.mono k,S.ht,S.hn,S.hok,S.hc⟩,a,eO k _ _ i,c,W.mono k,g,λH3 k3 hL=>⟨rfl,Y x H3 (λb o e=>k3 b o (ag e<|u.free N)<|k _ _ e) hL⟩⟩
end
noncomputable abbrev JC:QW:=bS 59
noncomputable abbrev Fq:QW:=cO (bS 60) 1
noncomputable abbrev Fs:QW:=cO (bS 60) 2
structure LL (K:J')(mg:Str->M' Pm)(CL:C'):Prop where
 zip:mg "zip"=Pt
 range:mg "range"=Pt
 cl:Cls K CL
 nv:NoAttr K CL "variables"
 ni:NoAttr K CL "innermost"
 nl:NoAttr K CL "layers"
inductive xI (vs:ab V)(H:Hp)(Q:VK)(E:XK):Prop
 |mk (a b:C')(kvs:ab (aJ×V))(g:Int->ab Px->Px->Px)(v:Int)(bs:ab Px)(i:Px)(h0:vs=[.ref a,.int v,.ref b,.bl i])(c:H a=gV (.dK kvs))(d:LvF H kvs g)(e:H b=gV (.lst<|bs.map V.bl))(f:bs.length<=900)(q:∀h,Same H h->Q (.bl<|g v bs i) h)
theorem tN:∀m,(∀k,k<m->b.getD k Pr=c.getD k Pr)->jy A t H b m=jy A t H c m
 |0,_=>rfl
 |m+1,h=>by rw[jy,jy,tN m λk a=>h k (RH a),h m<|Tf m]
noncomputable def mI(e:ab gD)(t:Str)(h:Px):ab Gf->ab Px->Nat->ab (ab Px)
 |[],_,_=>[]
 |_::r,b,k=>mI e t h r (jy (eJ e t h r) t h b k) k++[jy (eJ e t h r) t h b k]
noncomputable def tO(e:ab gD)(t:Str)(h:Px):ab Gf->ab Px->Nat->ab Px
 |[],b,k=>[iz e k b]
 |g::r,b,k=>tO e t h r (jy (eJ e t h r) t h b k) k++[eJ e t h (g::r) k b]
theorem eU:∀r b k,(mI e t h r b k).length=r.length
 |[],_,_=>rfl
 |_::r,_,_=>by rw[mI,Pl,eU r];rfl
theorem jf:∀r b k,∀f∈mI e t H r b k,f.length=k
 |[],_,_,_,h=>by cases h
 |_::r,_,k,f,h=>by
  obtain h|h:=P5.mp h
  ·exact jf r _ k f h
  rw[Pw.mp h];exact dY _ _ _ _ _
theorem fD:∀r b k,(tO e t h r b k).length=r.length+1
 |[],_,_=>rfl
 |_::r,_,_=>by rw[tO,Pl,fD r];rfl
theorem pY:∀r b k,(tO e t h r b k)[r.length]?=gV (eJ e t h r k b)
 |[],_,_=>rfl
 |_::r,_,_=>by rw[tO,P4,PV (by rw[fD];simp),fD,QO];rfl
theorem rF:∀r b k,(tO e t h r b k)[0]?=gV (iz e k<|(mI e t h r b k++[b]).getD 0 [])
 |[],_,_=>rfl
 |_::r,b,k=>by
  rw[tO,PL (by rw[fD];simp),rF r,mI,B',B',PL (l₂:=[b])<|by simp]
theorem vF:∀r b k i g f,r.reverse[i]?=gV g->(mI e t H r b k++[b])[i+1]?=gV f->∃y,(tO e t H r b k)[i]?=gV y/\(tO e t H r b k)[i+1]?=gV (g ((k:Int)+1) f y)
 |[],_,_,_,_,_,h,_=>by cases h
 |G::r,b,k,i,g,f,a,c=>by
  rw[UA]at a;rw[mI]at c;have l:=eU (e:=e) (t:=t) (h:=H) r (jy (eJ e t H r) t H b k) k;have T:=fD (e:=e) (t:=t) (h:=H) r (jy (eJ e t H r) t H b k) k;by_cases j:i<r.length
  ·rw[PL<|by simp_all]at a;rw[PL<|by simp_all]at c;obtain⟨y,E,m⟩:=vF r _ k i g f a c;exact⟨y,by rwa[tO,PL<|by lia],by rwa[tO,PL<|by simp_all]⟩
  have:=(N'.mp a).1;rw[Pl,R4]at this;obtain rfl:i=r.length:=by have:[G].length=1:=rfl;lia
  rw[PV (by simp),R4,QO]at a;rw[PV (by rwa[Pl,l]),Pl,l]at c;have d:([b])[r.length+1-(r.length+1)]?=gV f:=c;rw[QO]at d;cases a;cases d;exists _,(by rw[tO,PL<|by simp_all];exact pY r _ k);rw[tO,PV (VC T),T,QO];rfl
theorem zy:∀(r:ab Gf) (B b:ab Px),(∀k,k<i->B.getD k Pr=b.getD k Pr)->(b_ t H i=Pr->B.getD i Pr=c)->∀(j:Nat) (f:ab Px),(mI e t H r b i)[j]?=gV f->∃y,(if b_ t H i=Pn then tO e t H r b i else W0 r.length c)[j]?=gV y/\(mI e t H r B<|i+1)[j]?=gV (f++[y])
 |[],_,_,_,_,_,_,h=>by cases h
 |g::r,B,b,p,q,j,f,a=>by
  have E:jy (eJ e t H r) t H B i=jy _ t H b i:=tN i p;have s:jy (eJ e t H r) t H B (i+1)=jy (eJ e t H r) t H b i++[if b_ t H i=Pn then eJ e t H r i (jy (eJ e t H r) t H b i)else c]:=by
   rw[jy];simp_all
  have I:=dY (eJ e t H r) t H b i;have m:=eU (e:=e) (t:=t) (h:=H) r (jy (eJ e t H r) t H b i) i;have T:=fD (e:=e) (t:=t) (h:=H) r (jy (eJ e t H r) t H b i) i;have J:=(N'.mp a).1;rw[eU,P4]at J;rw[mI]at a ⊢;rw[s,tO];obtain⟨d,u⟩:∃d,jy (eJ e t H r) t H b i=d:=⟨_,rfl⟩;rw[u]at I m T a ⊢;by_cases n:j<r.length
  ·rw[PL<|by simp_all]at a;have v:=zy (c:=c) r (d++[if b_ t H i=Pn then eJ e t H r i d else c]) d (λk w=>by rw[B',PL (by simp_all),<-B']) (by simp_all) j f a
   obtain⟨y,z,Z⟩:=v;refine⟨y,?_,by rwa[PL<|by rwa[eU]]⟩;cases o:b_ t H i with
   |true=>
    rw[o]at z;rwa[PP rfl,PL<|by simp_all]
   |false=>
    simp_all
  obtain rfl:j=r.length:=by lia
  rw[PV (VC m),m,QO]at a;have l:=PZ a;subst l;refine⟨if b_ t H i=Pn then eJ e t H r i d else c,?_,by rw[PV (by rw[eU];exact Po _),eU,QO];rfl⟩;cases o:b_ t H i with
  |true=>
   rw[PP rfl,PL<|by simp_all];exact pY r d i
  |false=>simp
def FlA(H:Hp)(F:Nat->ab Px)(A:ab C'):Prop:=∀j a,A[j]?=gV a->H a=gV (.lst<|(F j).map V.bl)
theorem FlA.mono(h:FlA H F A)(k:Same H b):FlA b F A:=λj a e=>k _ _<|h j a e
theorem FlA.put(h:FlA H F A)(N:A.Nodup)(e:A[n]?=gV a)(g:∀j,j≠n->G j=F j):FlA (upd H a<|.lst<|(G n).map V.bl) G A:=λj b E=>by
 by_cases z:j=n
 ·subst z;rw[e]at E;cases E;exact aa
 rw[af (λy=>z<|by rw[y]at E;exact(List.getElem?_inj (N'.mp E).1 N).mp<|E.trans e.symm),g j z];exact h j b E
inductive xJ (C CL:C')(vs:ab V)(H:Hp)(Q:VK)(E:XK):Prop
 |mk (x fs b:C')(a:ab C')(es:ab gD)(r:ab Gf)(t:Str)(hw:Px)(n:Nat)(bs:ab Px)(z:Int)(e:z=(n:Int)+1)(h0:vs=[.ref x,.int z,.ref fs])(f:LedX H C CL x es r t hw)(c:r≠[])(g:r.length<=9)(ok:PlanOk es t hw)(i:H fs=gV (.lst (a.map V.ref++[.ref b])))(k:FlA H (λj=>(mI es t hw r bs n).getD j []) a)(d:a.length=r.length)(m:H b=gV (.lst<|bs.map V.bl))(o:n<t.length)(t8:t.length<=8)(p:bs.length<=900)(s:b_ t hw n=Pn)
  (q:∀(l:C') (h:Hp),Same H h->H l=Pt->h l=gV (.lst<|(tO es t hw r bs n).map V.bl)->Q (.ref l) h):xJ C CL vs H Q E
theorem PlayerAt.off(h:PlayerAt H C x E)(k:Off T H d)(t:TabAt H T p Q):PlayerAt d C x E:=by
 have c:∀b X,H b=gV (.tup X)->d b=gV _:=λb X e=>k.at_ t e λY z=>nomatch z
 obtain⟨D,f,s,g,j,n,l⟩:=h;refine⟨D,f,s,k.at_ t g (by simp),k.at_ t j (by lia),n,λe m=>?_⟩;obtain⟨o,a,u,v,w,A,B⟩:=l e m;refine⟨o,a,u,v,c _ _ w,c _ _ A,B.len,λi y z=>?_⟩;obtain⟨r,Z,q,F,G,I,J⟩:=B.at_ i y z;exact⟨r,Z,q,F,G,c _ _ I,c _ _ J⟩
theorem LedX.off{CL:C'}(h:LedX H C CL x E r t w)(k:Off T H c)(a:TabAt H T p q):LedX c C CL x E r t w:=by
 obtain⟨D,d,P,l,A,f,g,i,j,m⟩:=h;exact⟨D,d,P,l,A,k.at_ a f (by simp),k.at_ a g (by simp),k.at_ a i (λy z=>nomatch z),j.to (λb X e=>k.at_ a e λy z=>nomatch z) (λb X e=>k.at_ a e λy z=>nomatch z),m.off k a⟩
def Pa(C CL:C')(H:Hp)(x:C')(A:m9)(t:Str)(h:Px):Prop:=∃e r,LedX H C CL x e r t h/\r≠[]/\r.length<=9/\PlanOk e t h/\A=eJ e t h r
def PAp(C CL:C')(H:Hp)(x:C')(A:m9)(t:Str)(h:Px):Prop:=Pa C CL H x A t h\/∃e,PlayerAt H C x e/\PlanOk e t h/\A=iz e
theorem PAp.mono{CL:C'}(h:PAp C CL H x A t w)(k:Same H a):PAp C CL a x A t w:=by
 obtain⟨e,r,h,o⟩|⟨e,h,o⟩:=h
 ·exact .inl ⟨e,r,h.mono k,o⟩
 exact .inr ⟨e,h.mono<|Same.kept k,o⟩
theorem PAp.off{CL:C'}(h:PAp C CL H x A t w)(k:Off T H a)(b:TabAt H T p q):PAp C CL a x A t w:=by
 obtain⟨e,r,h,o⟩|⟨e,h,o⟩:=h
 ·exact .inl ⟨e,r,h.off k b,o⟩
 exact .inr ⟨e,h.off k b,o⟩
inductive xK (C CL:C')(vs:ab V)(H:Hp)(Q:VK)(E:XK):Prop
 |mk (x b:C')(A:m9)(t:Str)(hw:Px)(bs:ab Px)(m:Nat)(h0:vs=[.ref x,.int<|(m:Int)+1,.ref b])(a:Pa C CL H x A t hw)(c:H b=gV (.lst<|bs.map V.bl))(d:m<t.length)(e:m<=bs.length)(f:bs.length<=8)(t8:t.length<=8)(o:b_ t hw m=Pn)(q:∀h:Hp,Same H h->Q (.bl<|A m bs) h)
theorem zA(t:Str)(H:Px){i:Nat}{z:Int}(a:z=(i:Int)+1)(b:i<t.length):aY ((aD t H).map λk=>((Qd k:aJ),V.bl Pn)) (.inl z)=if b_ t H i=Pn then gV (.bl Pn)else none:=by
 have c:∀(s:ab Int) (z:Int),aY (s.map λk=>((Qd k:aJ),V.bl Pn)) (.inl z)=if z∈s then gV _ else none:=λs z=>by
  induction s with
  |nil=>rfl
  |cons k r I=>
   rw[Qf];by_cases e:k=z
   ·rw[ci (by rw[e]),PP<|by rw[e];exact P3]
   rw[bU (λh=>e<|Rm h)];grind
 have E:((i:Int)+1∈aD t H)↔b_ t H i=true:=by
  unfold aD b_;rw[Qe];constructor
  ·rintro⟨j,d,e⟩;have:j=i:=by lia
   subst this;exact(PQ.mp d).2
  intro h;exact⟨i,PQ.mpr ⟨Rx.mpr b,h⟩,by rfl⟩
 simp_all
inductive Pb (H:Hp)(D:C')(i:Nat)(b:St)(ys:ab V)(h:Hp):Prop
 |mk (v:M' V)(A:ab C')(h0:b=[v])(c:h D=gV (.lst ys))(d:Same H h)(e:ys=A.map V.ref)(f:A.length=i)(g:A.Nodup)(j:∀a∈A,a≠D/\H a=Pt/\h a=gV (.lst []))
inductive JD (x fs l s L:C')(z:Int)(t:ab Px)(u ws:ab V)(H:Hp)(i:Nat)(a:St)(h:Hp):Prop
 |mk (v b:M' V)(I:a=[gV<|.ref x,gV<|.int z,gV<|.ref fs,gV<|.ref l,v,b])(c:h l=gV (.lst<|(t.take<|i+1).map V.bl))(d:Same H h)(e:h L=gV (.lst u))(f:h s=gV (.lst ws))
inductive JF (x b F:C')(a:ab C')(es:ab gD)(r:ab Gf)(t:Str)(hw:Px)(bs:ab Px)(m:Nat)(H:Hp)(i:Nat)(c:St)(h:Hp):Prop
 |mk (v d e f:M' V)(I:c=[gV (.ref x),gV (.int ((m:Int)+1)),gV (.ref b),gV (.ref F),v,d,e,f])(g:FlA h (λj=>(mI es t hw r bs i).getD j []) a)(k:h F=gV (.lst<|a.map V.ref))(l:Same H h)
inductive JG (x b F tl:C')(a:ab C')(z:Int)(n:Nat)(o N:ab (ab Px))(u:ab V)(H:Hp)(i:Nat)(c:St)(h:Hp):Prop
 |mk (v d:M' V)(I:c=[gV (.ref x),gV (.int ((n:Int)+1)),gV (.ref b),gV (.ref F),gV (.int z),gV (.ref tl),v,d])(e:FlA h (λj=>if j<i then N.getD j []else o.getD j []) a)(f:h F=gV (.lst<|a.map V.ref))(g:Same H h)(k:h tl=gV (.lst u))
theorem ju{a:Type}{xs:ab a}{i:Nat}{x d:a}(h:xs[i]?=gV x):xs.getD i d=x:=by simp_all
theorem some_of{a:Type}{xs:ab a}{i:Nat}(h:i<xs.length):∃x,xs[i]?=gV x:=⟨_,K' h⟩
section
variable {CL:C'}
theorem H_(F:Fun K "led_value" "led_value" JC f u)(Y:Fe P w K M B 2 "some_stands" xG):ay P w K M B aV 3 f u ["values","variable","begun","inner"] xI:=by
 refine F.okB (N:=["values","variable","begun","inner"]) λT A o s H U Q E W r h=>?_;obtain⟨a,b,x,g,v,m,i,rfl,n,y,C,D,q⟩:=h;have j:=mN r;have G:=DGet.k (k:=Qd v) n;refine⟨_,(ae (bu (PW.pt<|rJ (jI<|wj j (pv 1)<|pv 0)<|rH<|iG<|gH<|wM Y r<|kh (K1 (bv j (pv 0) (pv 1) λX X=>rfl) cF)<|pv 2) (di<|K1 (bv j (pv 0) (pv 1) λX X=>rfl) cF) aK)
  (di<|pv 3)),?_⟩
 obtain⟨e,k⟩|⟨Z,L,c,bb,e,p,I,J,N,k⟩:=y v
 ·rw[e]at G;refine⟨_,rfl,_,rfl,a,_,rfl,G,_,rfl,al<|al ⟨_,rfl,?_⟩⟩;have z:=q H<|Same.refl _;rwa[k]at z
 rw[e]at G;refine⟨_,rfl,_,rfl,a,_,rfl,G,_,rfl,ar ⟨_,rfl,_,rfl,a,_,rfl,G,(bA p rfl ⟨_,rfl,L,b,c,m,rfl,I,C,D,J,N,λO l=>⟨_,rfl,?_⟩⟩)⟩⟩;have z:=q O l;rw[k]at z;cases t:c.any _ with
 |true=>
  rw[t]at z;exact al ⟨_,rfl,z⟩
 |false=>
  rw[t]at z;have d:=DGet.k (k:=Qd v)<|l _ _ n;rw[e]at d;exact ar ⟨_,rfl,_,rfl,a,_,rfl,d,(bA (l _ _ p) rfl z)⟩
theorem Ft(F:Fun K "answers" "LedBack.answers" Fq f fd)(T:LL K mg CL)(a2:tV P w K mg u aV 3 CP "answer" f1 d1 ["self","variable","begun"] (vD CP))(a3:Fe P w K mg u 3 "led_value" xI):ay P w K mg u aV 4 f fd ["self","variable","fillings"] (xJ CP CL):=by
 refine F.okB (N:=["self","variable","fillings","told","values","begun"]) λR8 A av s H vs Q E sc hr h=>?_;obtain⟨x,fs,b,m,j,k,t,p,n,B,z,rfl,rfl,hL,WA,a4,L,M,N,a5,hb,O,t8,h9,ho,q⟩:=h;obtain⟨dx,d,pl,la,us,h1,h2,h3,h4,h6⟩:=id hL;obtain⟨dp,de,a6,p1,S⟩:=id h6;obtain⟨e,C,U,W⟩:=L.has _ O ho;have ea:∀v,iz j n v=tI e.2.1 v e.2.2:=λv=>by
  unfold iz;rw[C]
 have az:=Paired.length h4;rw[R4]at az;have fl:=eU (e:=j) (t:=t) (h:=p) k B n;have rp:0<k.length:=TU.mpr WA;obtain⟨f0,X⟩:=some_of (xs:=m) (i:=0) (by lia);obtain⟨v,D⟩:=some_of (xs:=mI j t p k B n) (i:=0) (by lia);have hn:v.length=n:=jf _ _ _ _<|Pq D;have G:=N 0 f0 X;dsimp only at G;rw[ju D]at G;have I:=rF (e:=j) (t:=t) (h:=p) k B n;rw[ju (PL (by lia)|>.trans D)]at I;have tl:=fD (e:=j) (t:=t) (h:=p) k B n;have tS:=vF (e:=j) (t:=t) (H:=p) k B n;refine⟨_,(ae gg
  (ae (fI Rc rfl (wG rfl T.zip gg<|du fw (pv 2) gg eM) gg
   gg)
  (di<|pv 3))),?_⟩
 refine⟨_,rfl,x,CL,dx,_,_,rfl,h1,T.cl,T.ni,rfl,pl,dp,_,rfl,p1,rfl,_,rfl,_,rfl,(fY M (aE (j:=0)<|by rw[PL (by simp_all),PN,X];rfl) ⟨pl,f0,j,e,v,(by rw[W,Yi];rfl),h6,G,by lia,U,hn▸L.nearAt U W,(by show 1<=sizeLine;decide),λl nl=>?_⟩)⟩;rw[<-ea];have k1:=ad nl<|.lst [.bl<|iz j n v];have s1:upd H l (.lst [.bl<|iz j n v]) l=gV (.lst<|((tO j t p k B n).take 1).map V.bl):=by
  rw[aa];cases g:tO j t p k B n with
  |nil=>rw[g]at tl;cases tl
  |cons y r=>rw[g]at I;cases I;rfl
 generalize upd H l (.lst [.bl<|iz j n v])=H1 at k1 s1 ⊢;generalize tO j t p k B n=ts at q s1 tl tS;refine⟨_,rfl,x,CL,dx,_,_,rfl,k1 _ _ h1,T.cl,T.nl,rfl,_,rfl,1,rfl,fs,_,rfl,SqL.of<|k1 _ _ M,λY Z=>?_⟩;rw[show dE (m.map V.ref++[V.ref b]) (gV 1) Pt=(m.map V.ref++[V.ref b]).drop 1 from iP _ 1];have k2:=ad Z<|.lst<|(m.map V.ref++[V.ref b]).drop 1;have s2:=cm k2;generalize upd H1 Y (.lst<|(m.map V.ref++[V.ref b]).drop 1)=H2 at k2 s2 ⊢;have J:=k1.trans k2;refine⟨la,Y,rfl,rfl,⟨_,SqL.of<|J _ _ h3⟩,⟨_,SqL.of s2⟩,si (K:=K) (a:=la) (b:=Y) (xs:=us) (Y:=(m.map V.ref++[V.ref b]).drop 1) (n:=us.length) rfl (by simp_all) (JD x fs l Y la ((n:Int)+1) ts us ((m.map V.ref++[V.ref b]).drop 1) H) ⟨Pt,Pt,rfl,k2 _ _ s1,J,J _ _ h3,s2⟩ ?_ ?_ ?_⟩
 ·rintro i σ H3 S ⟨S,S,S,S,S,g3,g4⟩;exact⟨SqL.of g3,SqL.of g4⟩
 ·rintro i y z σ H3 I hy hz ⟨v4,v5,rfl,g1,k3,g3,g4⟩ aC;have hi:=(N'.mp hy).1;obtain⟨g,hg,a,aF,rfl,ha,aL⟩:=dj h4 hy;rw[W3,Nat.add_comm]at hz;obtain⟨f,c,C,a0,rfl,a1⟩:∃f c,(mI j t p k B n++[B])[i+1]?=gV f/\f.length<=900/\z=.ref c/\H c=gV (.lst (f.map V.bl)):=by
   by_cases a7:i+1<k.length
   ·obtain⟨c,hc⟩:=some_of (xs:=m) (i:=i+1) (by lia);obtain⟨f,C⟩:=some_of (xs:=mI j t p k B n) (i:=i+1) (by lia);have O:=N (i+1) c hc;dsimp only at O;rw[ju C]at O;rw[PL (by rw[A'];lia),PN,hc]at hz;exact⟨f,c,by simp_all,by rw[jf _ _ _ _<|Pq C];lia,(PZ hz).symm,O⟩
   rw[PV (by simp_all),A',show i+1-m.length=0 by lia]at hz;exact⟨B,b,by simp_all,h9,(PZ hz).symm,hb⟩
  obtain⟨y,e1,e2⟩:=tS i g f hg C;have k4:=ad aC<|.tup [.ref a,.ref c];exists I,_,rfl,SqT.of aa,rfl,_,_,rfl,_,_,rfl,rfl;have ZZ:=k4 _ _ g1;have ac:=k4 _ _ g3;have am:=k4 _ _ g4;have o:=k3.trans k4;show Im _ _ _ (upd H3 I<|.tup [.ref a,.ref c])
  generalize upd H3 I (.tup [.ref a,.ref c])=H4 at o ZZ ac am ⊢;have an:(ts.take<|i+1).length=i+1:=by rw[P9];grind
  refine⟨_,rfl,.inl ⟨rfl,_,SqL.of ZZ⟩,_,rfl,_,rfl,_,rfl,_,rfl,1,rfl,(fY ZZ (gW<|by rw[A',an,Vk,PN,QM<|Tf i,e1];rfl) ⟨a,c,aF,g,_,f,y,rfl,o _ _ ha,aL.to λb xs e=>o _ _ e,o _ _ a1,a0,λH5 k5=>⟨l,_,_,rfl,rfl,k5 _ _ ZZ,ak (by rw[A',an];lia),?_⟩⟩)⟩;refine⟨_,_,rfl,?_,(o.trans k5).upd_new nl _,(by rw[af<|ag h3 nl];exact k5 _ _ ac),(by rw[af<|Q1<|ag s1 Z];exact k5 _ _ am)⟩;rw[aa,Qb (i:=i+1),e2,P6];rfl
 rintro σ H3 ⟨v4,v5,rfl,g1,k3,S,S⟩;rw[PJ<|by simp_all]at g1;exact⟨_,rfl,q l H3 k3 nl g1⟩
theorem Fu(F:Fun K "answer" "LedBack.answer" Fs f fd)(T:LL K mg CL)(bc:tV P w K mg U aV 3 CP "answer" f1 d1 ["self","variable","begun"] (vD CP))(am:tV P w K mg U aV 4 CL "answers" f2 d2 ["self","variable","fillings"] (xJ CP CL)):ay P w K mg U aV 5 f fd ["self","variable","begun"] (xK CP CL):=by
 refine F.okB (N:=["self","variable","begun","fillings","lesser","told","filling","value"]) λR8 A a1 s H vs Q E sc hr h=>?_;obtain⟨x,b,A0,t,l,B,m,rfl,a2,hb,an,bf,bg,t8,ho,q⟩:=h;obtain⟨u,o,hL,WA,av,az,rfl⟩:=a2;have hu:=hr.units;have V8:=mN hr;obtain⟨dx,d,pl,la,us,h1,h2,h3,h4,h6⟩:=id hL;have a3:=Paired.length h4;rw[R4]at a3;have gt:=DGet.k (k:=Qd<|(m:Int)+1) h2;rw[zA t l rfl an,PP ho]at gt;refine⟨_,(ae (bu (jI<|ji V8 (pv 1) gg) gg aK)
  (ae (K4 3 ["values"] [Pt]<|aO gg)
  (ae (fI Rc rfl (qv rfl T.range gg) (rL (i:=4) sc.nd rfl<|X' rfl)
   (ae (bu (jI<|wj V8 (pv 4) gg) (au<|sT 5<|iQ am (pv 0) hr (by lia)<|kh (pv 4)<|cN fK (pv 3) gg)<|au<|K4 5 ["filling","begun","lesser"] [Pt,gV 2,gV 4] (aO<|pv 3) (e:=λ_ _ _ _=>(C9 (K:=K) (pv 1) gg)))
   (au (fI Rc rfl (wG rfl T.zip (pv 3)<|pv 5) gg
    gg))))
  (di<|K1 (iQ am (pv 0) hr (by lia)<|kh (pv 1)<|cN fK (pv 3) gg) gg)))),?_⟩
 refine⟨_,rfl,_,rfl,x,CL,dx,_,_,rfl,h1,T.cl,T.nv,rfl,d,_,rfl,gt,_,rfl,al ?_⟩;refine⟨_,rfl,x,CL,dx,_,_,rfl,h1,T.cl,T.nl,rfl,la,rfl,⟨_,SqL.of h3⟩,λD nD=>?_⟩;refine bQ (K:=K) (a:=la) (xs:=us) (Pb H D) ⟨Pt,[],rfl,aa,ad nD _,rfl,rfl,.nil,λ_ h=>nomatch h⟩ ?_ ?_ ?_
 ·rintro i W ys H2 _ ⟨_,_,_,g1,k2,_,_,_,_⟩;exact⟨g1,SqL.of<|k2 _ _ h3⟩
 ·rintro i y W ys H2 hy ⟨v0,g,rfl,g1,k2,rfl,e0,nd,ha⟩;have hi:=(N'.mp hy).1;refine cy ⟨P8 _,λf0 J=>?_⟩;have k3:=ad J<|.lst [];have aC:f0≠D:=λz=>by lia
  refine⟨k3 _ _ g1,ak (by rw[A'];lia),_,g++[f0],rfl,aa,(k2.trans k3).upd_new nD _,by rw[P6];rfl,by rw[Pl,e0];rfl,Rw.mpr ⟨nd,by simp,λa h c hc z=>?_⟩,λa h=>?_⟩
  ·simp_all
  obtain h|h:=P5.mp h
  ·obtain⟨Z,X,z3⟩:=ha a h;exact⟨Z,X,by rw[af Z];exact k3 _ _ z3⟩
  rw[Pw.mp h];exact⟨aC,k2.free J,by rw[af aC];exact aa⟩
 rintro W ys H2 ⟨_,g,_,g1,k2,rfl,e1,nd,ha⟩;have Y:g.length=o.length:=by simp_all
 have en:((m:Int)+1-1).toNat=m:=by simp
 have a4:FlA H2 (λj=>(mI u t l o B 0).getD j []) g:=λj a e=>by
  rw[(ha a<|Pq e).2.2];dsimp only;have:=(N'.mp e).1;obtain⟨f,hf⟩:=some_of (xs:=mI u t l o B 0) (i:=j) (by rw[eU];simp_all);rw[ju hf,RG.mp<|jf _ _ _ _<|Pq hf];rfl
 have nh:∀j a,g[j]?=gV a->a≠D/\H a=none:=λj a e=>⟨(ha a<|Pq e).1,(ha a<|Pq e).2.1⟩;refine⟨_,rfl,_,_,rfl,by lia,jg (lo:=1) (n:=((m:Int)+1-1).toNat)
  (JF x b D g u o t l B m H) ⟨Pt,Pt,Pt,Pt,rfl,a4,g1,k2⟩ ?_ ?_⟩
 ·rintro i W H4 hi ⟨v4,v5,v6,v7,rfl,j1,j2,M⟩;rw[en]at hi;have hit:i<t.length:=Yc hi an
  have aF:=DGet.k (k:=Qd (1+(i:Int)))<|M _ _ h2;rw[zA t l (Yi _ _) hit]at aF;refine fC (λa5 H'=>∃G,∃ws:ab Px,a5=[gV<|.ref x,gV<|.int<|(m:Int)+1,gV<|.ref b,gV<|.ref D,gV<|.int (1+(i:Int)),gV<|.ref G,v6,v7]/\Same H H'/\FlA H' (λj=>(mI u t l o B i).getD j []) g/\H' D=gV (.lst<|g.map V.ref)/\H' G=gV (.lst<|ws.map V.bl)/\H4 G=Pt/\g.length<=ws.length/\∀(j:Nat) f,(mI u t l o B i)[j]?=gV f->∃y,ws[j]?=gV y/\(mI u t l o B<|i+1)[j]?=gV (f++[y])) (λR hR=>?_) ?_
  ·exists _,rfl,_,rfl,x,CL,dx,_,_,rfl,M _ _ h1,T.cl,T.nv,rfl,d,_,rfl,aF,_,rfl;have st:=zy (e:=u) (t:=t) (H:=l) (i:=i) (c:=B.getD i Pr) o B B (λ_ _=>rfl) λ_=>rfl;cases go:b_ t l i with
   |true=>
    rw[go,PP rfl]at st;rw[PP rfl];refine ar ⟨_,rfl,x,dx,_,rfl,M _ _ h1,rfl,_,rfl,_,rfl,_,rfl,(by show 1<=sizeLine;decide),λl1 n1=>?_⟩;have O:=ad n1<|.lst [.ref b];refine⟨D,l1,_,_,rfl,rfl,O _ _ j2,aa,QA<|ak (by rw[A'];show g.length+1<=1000;lia),λl2 n2=>?_⟩;have C:=O.trans<|ad n2<|.lst<|g.map V.ref++[.ref b];have s6:=@aa (upd H4 l1<|.lst [.ref b]) l2 (.lst<|g.map V.ref++[.ref b]);generalize upd (upd H4 l1<|.lst [.ref b]) l2 (.lst<|g.map V.ref++[.ref b])=H6 at C s6 ⊢;have p:=M.trans C;refine⟨x,l2,b,g,u,o,t,l,i,B,_,Yi _ _,rfl,hL.mono p,WA,av,az,s6,j1.mono C,Y,p _ _ hb,hit,t8,QF bg (by decide),go,λG H7 I N ac=>hR _ _ ⟨G,_,rfl,p.trans I,(j1.mono C).mono I,I _ _<|C _ _ j2,ac,C.free N,by rw[fD];simp_all,st⟩⟩
   |false=>
    rw[go,PM Pk]at st;rw[PM Pk];refine al ⟨_,rfl,D,rfl,⟨_,SqL.of j2⟩,λG N=>?_⟩;have aL:B[i]?=gV (B.getD i Pr):=by rw[B',K'<|by exact QH hi bf];rfl
    generalize B.getD i Pr=r at aL st;refine cU [gV<|.ref b,gV<|.int (1+(i:Int))] (λ_=>Pn) (λ_=>.bl r) rfl j2 N (by rw[A'];lia) (λ_ _ _ _ _ r=>r) (λy hy _ H' R k rr=>⟨_,rfl,_,rfl,_,_,rfl,rfl,(fY (k _ _<|M _ _ hb) (by rw[show(1:Int)+(i:Int)-1=(i:Int) by lia];exact aE<|by simp_all) rr)⟩) ?_;have er:((g.map V.ref).filter λ_=>Pn).map (λ_=>V.bl r)=(W0 o.length r).map V.bl:=by
     rw[Rq.mpr λ_ _=>rfl,Qm,List.map_replicate,<-Y];exact List.map_const' ..
    rw[er];have O:=ad N<|.lst<|(W0 o.length r).map V.bl;exact hR _ _ ⟨G,_,rfl,M.trans O,j1.mono O,O _ _ j2,aa,N,by simp_all,st⟩
  rintro W H7 ⟨G,ws,rfl,a6,f5,d5,a0,N,wl,st⟩;have a7:∀j a,g[j]?=gV a->G≠a:=λj a e z=>by
   have:=j1 j a e;lia
  refine⟨_,rfl,_,rfl,D,G,rfl,rfl,⟨_,SqL.of d5⟩,⟨_,SqL.of a0⟩,si (K:=K) (a:=D) (b:=G) (xs:=g.map V.ref) (Y:=ws.map V.bl) (n:=g.length) (A' _) (by rw[A'];exact wl) (JG x b D G g (1+(i:Int)) m (mI u t l o B i) (mI u t l o B<|i+1) (ws.map V.bl) H) ⟨_,_,rfl,‹_›,d5,a6,a0⟩ ?_ ?_ ?_⟩
  ·rintro n W H6 _ ⟨_,_,_,_,X,_,z4⟩;exact⟨SqL.of X,SqL.of z4⟩
  ·rintro n y z W H6 t1 hy hz ⟨w6,w7,rfl,Z,X,C,z4⟩ a8;rw[PN]at hy hz;obtain⟨a,L,rfl⟩:=Qn.mp hy;obtain⟨v,a9,rfl⟩:=Qn.mp hz;have bk:=(N'.mp L).1;obtain⟨f,hf⟩:=some_of (xs:=mI u t l o B i) (i:=n) (by rw[eU];simp_all);obtain⟨v',e1,e2⟩:=st n f hf;rw[a9]at e1;cases e1;have I:=ad a8<|.tup [.ref a,.bl v];exists t1,_,rfl,SqT.of aa,rfl,_,_,rfl,_,_,rfl,rfl;have za:=Z n a L;dsimp only at za;rw[PM<|Sa n,ju hf]at za;obtain⟨ba,bb⟩:=nh n a L;exists _,rfl,.inl ⟨rfl,_,SqL.of<|I _ _ za⟩,_,rfl,a,_,_,rfl,rfl,I _ _ za,(by rw[A',jf _ _ _ _<|Pq hf];exact ak<|by lia);have WM:=FlA.put (G:=λj=>if j<n+1 then(mI u t l o B<|i+1).getD j []else(mI u t l o B i).getD j []) (Z.mono I) nd L λj hj=>by
    lia
   rw[PP<|Tf n,ju e2,<-tK]at WM;exact⟨_,_,rfl,WM,(by rw[af<|Q1 ba];exact I _ _ X),(C.trans I).upd_new bb _,(by rw[af<|a7 n a L];exact I _ _ z4)⟩
  rintro W H6 ⟨w6,w7,rfl,Z,X,C,_⟩;exact⟨_,_,_,_,rfl,(λj a e=>by have:=Z j a e;dsimp only at this;rw[PP (N'.mp e).1]at this;exact this),X,C⟩
 rintro W H4 ⟨v4,v5,v6,v7,rfl,j1,j2,M⟩;rw[en]at j1;refine⟨_,rfl,x,dx,_,rfl,M _ _ h1,rfl,_,rfl,_,rfl,_,rfl,(by show 1<=sizeLine;decide),λl1 n1=>?_⟩;have O:=ad n1<|.lst [.ref b];refine⟨D,l1,_,_,rfl,rfl,O _ _ j2,aa,QA<|ak (by rw[A'];show g.length+1<=1000;lia),λl2 n2=>?_⟩;have C:=O.trans<|ad n2<|.lst<|g.map V.ref++[.ref b];have s6:=@aa (upd H4 l1<|.lst [.ref b]) l2 (.lst<|g.map V.ref++[.ref b]);generalize upd (upd H4 l1<|.lst [.ref b]) l2 (.lst<|g.map _++[.ref b])=H6 at C s6 ⊢;have p:=M.trans C;refine⟨x,l2,b,g,u,o,t,l,m,B,_,rfl,rfl,hL.mono p,WA,av,az,s6,j1.mono C,Y,p _ _ hb,an,t8,QF bg (by decide),ho,λG H7 I N ac=>⟨1,rfl,(fY ac (gW<|by rw[A',fD,Vk,PN,pY];rfl)<|q H7<|p.trans I)⟩⟩
end
noncomputable abbrev Pc:QW:=bS 33
inductive Br (C CL:C')(vs:ab V)(H:Hp)(Q:VK)(E:XK):Prop
 |mk (p x b:C')(t:Str)(w:V)(hw:Px)(es:m9)(B:ab Px)(h0:vs=[.ref p,.str<|aq hw,.ref x,.ref b])(a:H p=gV (.tup [.str t,w]))(c:t.length<=8)(d:PAp C CL H x es t hw)(e:H b=gV (.lst<|B.map V.bl))(f:B.length<=t.length)(g:Fol es t hw B)
  (q:∀(l:C') (h:Hp) (bs:ab Px),Same H h->H l=Pt->h l=gV (.lst<|bs.map V.bl)->Fol es t hw bs->B.length<=bs.length->bs.length<=t.length->(bs.length<t.length->b_ t hw bs.length=Pr)->g7 t hw bs.length=g7 t hw B.length->Q (.ref l) h):Br C CL vs H Q E
section
variable {CL:C'}
inductive zB (p x b l:C')(t:Str)(hw:Px)(es:m9)(B:ab Px)(H:Hp)(m:Nat)(a:St)(h:Hp):Prop
 |mk (v:ab Px)(i:a=[gV<|.ref p,gV<|.str<|aq hw,gV<|.ref x,gV<|.ref b,gV<|.ref l])(I:h l=gV (.lst<|v.map V.bl))(c:v.length+m=t.length)(d:Fol es t hw v)(e:B.length<=v.length)(f:g7 t hw v.length=g7 t hw B.length)(g:Same H h)
theorem NR{f4 f5:C'}{d4 d5:PR}(F:Fun K "played_on" "played_on" Pc f fd)(T:Bl M)(ac:Fe P w K M B 1 "hand_of" l_)
  (D:tV P w K M B aV 3 G "answer" f5 d5 ["self","variable","begun"] (vD G)) (I:tV P w K M B aV 5 CL "answer" f4 d4 ["self","variable","begun"] (xK G CL)):ay P w K M B aV 6 f fd ["sentence","hand","player","begun"] (Br G CL):=by
 refine F.okB (N:=["sentence","hand","player","begun","filling"]) λR8 A J s H vs Q E sc hr h=>?_;obtain⟨p,x,b,t,w,c,i,a,rfl,h1,t8,Wz,hb,am,hF,q⟩:=h;refine⟨_,(ae gg
  (ae (iH Rc gg
   (au<|cG<|fJ QD Ra Ri cK (pv 4)<|gT<|K2 (iQ D gg hr (by simp) gg)<|iQ I gg hr (by simp) gg))
  (di<|pv 4))),?_⟩
 refine⟨_,rfl,b,_,rfl,.inl<|SqL.of hb,λl N=>?_⟩;have k1:=ad N<|.lst<|a.map V.bl;have s1:=cm k1;generalize upd H l (.lst<|a.map V.bl)=H1 at k1 s1 ⊢;exists zB p x b l t c i a H,⟨t.length-a.length,a,rfl,s1,by simp_all,hF,Po _,rfl,k1⟩;rintro m σ y ⟨v,rfl,g,g2,L,g5,U,k⟩;have W:=k _ _ h1;have an:p≠l:=(by lia);refine⟨_,rfl,.ref l,_,rfl,.inl ⟨_,SqL.of g,rfl⟩,_,rfl,(bA W rfl ⟨.str t,_,rfl,⟨QA (ak<|QF t8 (by decide)),rfl⟩,_,_,rfl,rfl,_,rfl,?_⟩)⟩;rw[A'];cases m with
 |zero=>
  rw[Pu (by lia:¬(v.length:Int)<(t.length:Int))];exact al<|al ⟨_,rfl,q l y v k N g L g5 (VC g2) (by simp_all) U⟩
 |succ m=>
  rw[PB (by lia:(v.length:Int)<(t.length:Int))];refine ar ?_;have X:v.length<t.length:=by lia
  refine⟨_,rfl,_,rfl,.ref l,_,rfl,.inl ⟨_,SqL.of g,rfl⟩,_,_,rfl,rfl,p,t,w,v.length,?_,W,X,QF t8 (by decide),_,rfl,.inl ⟨rfl,_,rfl,?_⟩⟩
  ·rw[A'];rfl
  rw[ff,HX];cases go:b_ t c v.length with
  |true=>
   have Y:=Wz.mono k;have WM:∀n,Same y n->zB p x b l t c i a H m [gV<|.ref p,gV<|.str<|aq c,gV<|.ref x,gV<|.ref b,gV<|.ref l] (upd n l<|.lst<|v.map V.bl++[.bl<|i v.length v]):=λn C=>by
    refine⟨v++[i v.length v],rfl,by rw[aa,<-tK],?_,L.snoc λS=>rfl,?_,?_,(k.trans C).upd_new N _⟩
    ·rw[Pl];show v.length+1+m=t.length
     lia
    ·rw[Pl];exact aaT g5
    rw[Pl];show g7 t c (v.length+1)=_
    rw[g8,PP go];exact U
   have o:(v.map V.bl).length<sizeLine:=by
    rw[A'];exact ak (by lia)
   have en:V.int (((v.map V.bl).length:Nat)+1)=.int ((v.length:Int)+1):=by rw[A']
   refine ar ⟨zB p x b l t c i a H m,λav H' z=>⟨m,Tf _,z⟩,?_⟩;obtain⟨j,rs,hL,ne,l9,O,e⟩|⟨j,hP,O,e⟩:=id Y
   ·obtain⟨Z,d,pl,la,as,x1,S⟩:=id hL;refine⟨_,rfl,.inl ⟨rfl,_,SqL.of g⟩,.inr ⟨_,rfl,x,Z,_,rfl,x1,rfl,_,rfl,.ref l,_,rfl,.inl ⟨_,SqL.of g,rfl⟩,_,_,rfl,rfl,_,rfl,x,l,i,t,c,v,v.length,(by rw[A'];rfl),⟨j,rs,hL,ne,l9,O,e⟩,g,X,Po _,QA (QH X t8),t8,go,λn C=>⟨l,_,_,rfl,rfl,C _ _ g,o,WM n C⟩⟩⟩
   ·obtain⟨Z,de,az,x1,S⟩:=id hP;obtain⟨e',hf,r,u⟩:=O.has _ X go;have ea:i v.length v=tI e'.2.1 v e'.2.2:=by
     rw[e];unfold iz;rw[hf]
    have z:=WM y<|Same.refl _;rw[ea]at z;exact⟨_,rfl,.inl ⟨rfl,_,SqL.of g⟩,.inl ⟨_,rfl,x,Z,_,rfl,x1,rfl,_,rfl,.ref l,_,rfl,.inl ⟨_,SqL.of g,rfl⟩,_,_,rfl,rfl,_,rfl,x,l,j,e',v,(by rw[u,Yi,A'];rfl),hP,g,by lia,r,O.nearAt r u,l,_,_,rfl,rfl,g,o,z⟩⟩
  |false=>exact al ⟨_,rfl,q l y v k N g L g5 (QA X) (λS=>go) U⟩
end
noncomputable abbrev zC:QW:=bS 35
structure Fv (P:PU)(w:Qc)(K:J')(mg:Str->M' Pm)(base:QB)(lf:C')(bad:ab Px->Px)(n:Nat)(C:Hp->Prop):Prop where
 mono:∀H H',Same H H'->C H->C H'
 obj:∀H,C H->∃o fd,H lf=gV (dm lf o)/\o.data=.func fd
 fn:KL P w K mg base 4 lf (λvs H Q _=>∃(l:C') (bs:ab Px),vs=[.ref l]/\C H/\H l=gV (.lst<|bs.map V.bl)/\bs.length=n/\∀H',Same H H'->Q (.bl<|bad bs) H')
inductive xL (P:PU)(w:Qc)(K:J')(mg:Str->M' Pm)(base:QB)(c CL:C')(fu:Nat)(vs:ab V)(H:Hp)(Q:VK)(E:XK):Prop
 |mk (p x lf b o:C')(t:Str)(W:V)(hw:Px)(es:m9)(B:ab Px->Px)(C:Hp->Prop)(g:ab Px)(O:ab V)(h0:vs=[.ref p,.str<|aq hw,.ref x,.ref lf,.ref b,.ref o])(a:H p=gV (.tup [.str t,W]))(t8:t.length<=8)(pl:PAp c CL H x es t hw)
  (L:Fv P w K mg base lf B t.length C) (d:C H) (e:H b=gV (.lst<|g.map V.bl)) (f:H o=gV (.lst O)) (i:g.length+fu=t.length) (j:O.length<=g.length) (k:Fol es t hw g) (l:∀bs,bs.length=t.length->Fol es t hw bs->B bs=Pr)
  (q:∀h:Hp,Same H h->Q .non h):xL P w K mg base c CL fu vs H Q E
def nU(P:PU)(w:Qc)(K:J')(m:Str->M' Pm)(b:QB)(C CL:C')(n:Nat):Sp:=λv H Q E=>∃g,g<n/\xL P w K m b C CL g v H Q E
section
variable {CL:C'}
inductive JH (p x lf b o l:C')(hw:Px)(H:Hp)(j:Nat)(a:St)(h:Hp):Prop
 |mk (v:M' V)(c:M' V)(i:a=[gV<|.ref p,gV<|.str<|aq hw,gV<|.ref x,gV<|.ref lf,gV<|.ref b,gV<|.ref o,gV<|.ref l,v,c])(I:Same H h)
theorem xM{u:Nat}(F:Fun K "first_loss" "first_loss" zC f fd)(T:Bl m)(Vg:Fe P w K m e 6 "played_on" (Br CP CL))
  (YB:Fe P w K m e (u+6) "first_loss" (nU P w K m e CP CL u)):ay P w K m e aV (u+7) f fd ["sentence","hand","player","loses","begun","others"] (xL P w K m e CP CL u):=by
 refine F.okB (N:=["sentence","hand","player","loses","begun","others","filling","value","found"]) λR8 A W s H vs Q E sc hr h=>?_;obtain⟨p,x,X,b,o,t,wv,Y,es,Z,C,I,O,rfl,h1,t8,Wz,L,hC,hb,ho,Rg,am,hF,hW,q⟩:=h;refine⟨_,(ae gg
  (ae (bu gg (di<|nY (gH<|C6 (k:=4) (i:=3) (hr.mono<|by simp)<|gT<|pv 6) (pv 5) gG) aK)
  (ae (fS 7 (bT gg) (ae (sT 8<|wM YB hr<|aM (pv 0)<|aM (pv 1)<|aM (pv 2)<|aM (pv 3)<|kh (cN fK (pv 6) gg)<|cN fK (pv 5) gg)
   gg))
  (di gG)))),?_⟩
 refine⟨_,rfl,_,rfl,_,rfl,_,rfl,p,x,b,t,wv,Y,es,I,rfl,h1,t8,Wz,hb,by lia,hF,λl H1 c i nl hl n ZX XU Wm S=>?_⟩;have g1:=i _ _ h1;refine⟨_,rfl,.ref l,_,rfl,.inl ⟨_,SqL.of hl,rfl⟩,_,rfl,(bA g1 rfl ⟨.str t,_,rfl,⟨QA (ak<|QF t8 (by decide)),rfl⟩,.inl ⟨rfl,_,rfl,?_⟩⟩)⟩;rw[A'];by_cases J:c.length=t.length
 ·rw[PB (show V.int (c.length:Nat)=V.int (t.length:Nat) by rw[J])];obtain⟨ob,ac,e1,e2⟩:=L.obj H1<|L.mono _ _ i hC;refine ar ⟨X,rfl,_,rfl,_,ob,ac,L.fn,e1,e2,l,c,rfl,L.mono _ _ i hC,hl,J,λH2 r=>⟨_,rfl,?_⟩⟩;rw[hW c J n];exact al<|q H2<|i.trans r
 rw[Pu (show¬V.int (c.length:Nat)=V.int (t.length:Nat)from λz=>J (by have:=V.int.inj z;lia))];have eg:c.length+1+(I.length+u-c.length-1)=t.length:=by lia
 have ge:I.length+u-c.length-1<u:=by lia
 generalize I.length+u-c.length-1=g at eg ge;refine al ⟨(by show 2<=sizeLine;decide),λa na=>?_⟩;have r:=ad na<|.tup [.bl Pr,.bl Pn];have s2:=cm r;generalize upd H1 a (.tup [.bl Pr,.bl Pn])=H2 at r s2 ⊢;have v:=i.trans r;refine⟨a,rfl,⟨_,SqT.of s2⟩,eK (K:=K) (a:=a) (xs:=[.bl Pr,.bl Pn]) (JH p x X b o l Y H2) ⟨Pt,Pt,rfl,Same.refl _⟩ ?_ ?_ ?_⟩
 ·rintro j σ D S ⟨S,S,S,k⟩;exact SqT.of<|k _ _ s2
 ·rintro j y σ D hy ⟨v7,v8,rfl,k⟩;have G:=v.trans k;obtain⟨B,S,rfl⟩:=Qe.mp (show y∈[Pr,Pn].map V.bl from Pq hy);refine⟨_,rfl,_,rfl,_,rfl,_,rfl,_,rfl,_,rfl,(by show 1<=sizeLine;decide),λl1 n1=>?_⟩;have k4:=ad n1<|.lst [.bl B];refine⟨l,l1,_,_,rfl,rfl,k4 _ _<|k _ _<|r _ _ hl,aa,?_,λM n2=>?_⟩
  ·rw[A'];exact QA<|ak (by show c.length+1<=1000;lia)
  have N:=k4.trans<|ad n2<|.lst<|c.map V.bl++[.bl B];have s5:upd (upd D l1<|.lst [.bl B]) M (.lst<|c.map V.bl++[.bl B]) M=gV (.lst<|(c++[B]).map V.bl):=by rw[aa,tK]
  generalize upd (upd D l1<|.lst _) M (.lst<|c.map _++[.bl B])=H5 at N s5 ⊢;refine⟨_,rfl,_,rfl,(by show 1<=sizeLine;decide),λl3 n3=>?_⟩;have k6:=ad n3<|.lst [.bl B];refine⟨o,l3,_,_,rfl,rfl,k6 _ _<|N _ _<|G _ _ ho,aa,QA<|ak (by show O.length+1<=1000;lia),λl4 n4=>?_⟩;have U:=k6.trans<|ad n4<|.lst<|O++[.bl B];have s7:=@aa (upd H5 l3<|.lst [.bl B]) l4 (.lst<|O++[.bl B]);generalize upd (upd H5 l3<|.lst _) l4 _=H7 at U s7 ⊢;have d:=G.trans<|N.trans U;exact⟨g,ge,p,x,X,M,l4,t,wv,Y,es,Z,C,c++[B],O++[.bl B],rfl,d _ _ h1,t8,Wz.mono d,L,L.mono _ _ d hC,U _ _ s5,s7,(by rwa[Pl]),(by rw[Pl,Pl];show O.length+1<=c.length+1;grind),n.snoc (by lia),hW,λH' k'=>⟨_,rfl,rfl,_,rfl,L7 rfl ⟨_,_,rfl,k.trans<|N.trans<|U.trans k'⟩⟩⟩
 rintro σ D ⟨v7,v8,rfl,k⟩;exact q D<|v.trans k
theorem zE(F:Fun K "first_loss" "first_loss" zC f d)(T:Bl m)(i:Fe P w K m B 6 "played_on" (Br q CL))
  (b:Binds K d ["sentence","hand","player","loses","begun","others"] []) (k:RF K (.ref f)=Pn) (c:m "first_loss"=gV (.ref f)):∀u,ay P w K m B aV (u+6) f d ["sentence","hand","player","loses","begun","others"]<|nU P w K m B q CL u
 |0=>⟨λZ Z Z Z h=>by obtain⟨Z,z,Z⟩:=h;simp_all,λZ Z Z Z Z Z Z Z Z Z Z Z Z h=>by obtain⟨Z,z,Z⟩:=h;lia⟩
 |u+1=>by
  have I:=zE F T i b k c u;have st:=xM F T i ⟨_,_,_,I,b,k,c⟩;refine⟨λv H Q E h=>?_,λA O s H a U v Q E r j l n h=>?_⟩
  ·obtain⟨g,Z,p,x,L,b,o,t,W,D,G,y,C,J,M,rfl,Z⟩:=h;rfl
  obtain⟨g,N,h⟩:=h;by_cases e:g=u
  ·subst e;exact st.run A O s H a U v Q E r j l n h
  exact I.run A O s H a U v Q E (r.mono<|by simp) j l n ⟨g,by lia,h⟩
theorem Ia(F:Fun K "first_loss" "first_loss" zC f d)(T:Bl m)(v:Fe P w K m B 6 "played_on" (Br C CL))
  (b:Binds K d ["sentence","hand","player","loses","begun","others"] []) (k:RF K (.ref f)=Pn) (a:m "first_loss"=gV (.ref f)):ay P w K m B aV 15 f d ["sentence","hand","player","loses","begun","others"] (nU P w K m B C CL 9):=zE F T v b k a 9
end
noncomputable abbrev tP:QW:=bS 36
noncomputable abbrev gK:QS:=OR (OQ<|cP tP) 3
noncomputable abbrev tQ:Str:=("losing_play":Str)++".<locals>."++"<lambda>"
noncomputable def LM(C:ab (ab Int))(h:Px)(b:ab Px):Px:=(C.all λc=>c.any<|hit b) != h
structure LoseIn (CP CL:C')(H:Hp)(p x:C')(t:Str)(cs:ab (ab Int))(hw:Px)(es:m9):Prop where
 rd:RD H (oM t cs) (.ref p)
 t8:t.length<=8
 pl:PAp CP CL H x es t hw
 sm:uB cs
 pos:∀c∈cs,∀l∈c,1<=absI l
theorem LoseIn.mono{CL:C'}(h:LoseIn C CL H p x t c w e)(k:Same H a):LoseIn C CL a p x t c w e:=⟨eO k _ _ h.rd,h.t8,h.pl.mono k,h.sm,h.pos⟩
abbrev LN(H:Hp)(T:C'):Prop:=TabAt H T (OS gK) tQ
theorem LoseIn.off{C CL p x T:C'}{H a:Hp}{t:Str}{c:ab (ab Int)}{w:Px}{e:m9}{P:Pos}{q:Str}(h:LoseIn C CL H p x t c w e)(k:Off T H a)(b:TabAt H T P q):LoseIn C CL a p x t c w e:=⟨KR h.rd k b,h.t8,h.pl.off k b,h.sm,h.pos⟩
inductive tR (C CL:C')(T:C')(vs:ab V)(H:Hp)(Q:VK)(E:XK):Prop
 |mk (p x:C')(t:Str)(cs:ab (ab Int))(hw:Px)(es:m9)(h0:vs=[.ref p,.str<|aq hw,.ref x])(a:LoseIn C CL H p x t cs hw es)(b:LN H T)(c:∀bs,bs.length=t.length->Fol es t hw bs->bw cs bs=hw)(q:∀h:Hp,Off T H h->LN h T->Q .non h)
section
variable {CL:C'}
theorem zF:eH ["sentence","hand","player"] ["sentence","hand","player"] (aA tP):=GW
theorem Ib:uU "filling" ["sentence","hand"] (KQ gK):=⟨rfl,rfl,rfl,rfl,TF.mpr ⟨rfl,TF.mpr ⟨rfl,Wy _⟩⟩,by decide+kernel,by decide+kernel,by decide+kernel⟩
theorem Bt{L p:C'}{n q:Obj}{g:Px}(v:Bl M)(W:Fe P w K M B 3 "comes_true" tJ)(J:t.length<=8)(m:uB C)(x:∀c∈C,∀l∈c,1<=absI l)(N:d≠f):
  Fv P w K M B L (LM C g) t.length (λH=>LamAt H L tQ (KO gK) (KP gK) (KQ gK) [("sentence",d),("hand",f)]/\CapAt H [(d,n),(f,q)] [.ref p,.str<|aq g]/\RD H (oM t C) (.ref p)):=by
 refine⟨λH U k h=>⟨h.1.mono λb o z=>k _ _ z,h.2.1.mono λb o z=>k _ _ z,eO k _ _ h.2.2⟩,λH h=>?_,?_⟩
 ·obtain⟨X,y,c,e,V⟩:=h.1;exact⟨_,_,e,rfl⟩
 refine GK (G:=tQ) (M:=KO gK) (U:=KP gK) Ib (λV V V V V=>rfl) λY H Q E h=>?_;obtain⟨l,D,rfl,⟨i,a,j⟩,F,Z,G⟩:=h;refine⟨.ref l,[(d,n),(f,q)],[.ref p,.str<|aq g],rfl,i,a,rfl,?_,λc A O s r=>?_⟩
 ·simp_all
 have u:=r.units;have T:=v;exists _,(AH (wx u) (wM W r<|kh (pv 1)<|pv 0)<|AH (h_ u) (pv 2)<|bL rfl T.g_WISHER);refine⟨_,rfl,_,rfl,.ref p,l,t,C,D,rfl,GL j a,a.less F (λV z=>nomatch z),by lia,m,x,λH1 I=>⟨_,rfl,.inl ⟨rfl,.inl ⟨rfl,?_⟩⟩⟩⟩;rw[Fl,lM];exact G _<|Ax a.look I
theorem Fx{f2:C'}{J:PR}(F:FunL K "losing_play" "losing_play" tP f fd c)(L:rZ m B c T)(TH:Bl m)(YD:Fn P w K m B 3 "comes_true" f1 d1 ["sentence","filling"] tJ)
  (YB:Fn P w K m B 15 "first_loss" f2 J ["sentence","hand","player","loses","begun","others"] (nU P w K m B CP CL 9)):ay P w K m B aV 16 f fd ["sentence","hand","player"] (tR CP CL T):=by
 refine F.ok zF (λvs H Q E h=>?_) λA M s H vs Q E hr h=>?_
 ·obtain⟨p,x,t,U,e,es,rfl,_⟩:=h;rfl
 obtain⟨p,x,t,U,e,es,rfl,v,n,hW,q⟩:=h;refine⟨_,(di<|KN ["sentence","hand"] YB hr (by simp) rfl (λ_=>rfl) (TF.mpr ⟨rfl,TF.mpr ⟨rfl,Wy _⟩⟩)<|aM (pv 0)<|aM (pv 1)<|aM (pv 2)<|aM (KK L rfl) gg),?_⟩;refine⟨_,rfl,_,rfl,_,rfl,n,λlf r as u C D=>⟨P8 _,λb nb=>⟨P8 _,λo no=>?_⟩⟩⟩;have k2:=ad nb<|.lst [];have N:=no;have sb:upd _ o (.lst []) b=gV _:=ad N _ _ _ aa;have I:=k2.trans<|ad N<|.lst [];have so:=@aa (upd r b<|.lst []) o (.lst []);refine⟨?_,λce W X=>?_⟩
 ·intro y G;obtain rfl|G:=P_.mp G
  ·exact⟨0,_,rfl,rfl⟩
  obtain rfl|G:=P_.mp G
  ·exact⟨1,_,rfl,rfl⟩
  exact absurd G (by simp)
 cases W with
 |cons c1 r1=>
 cases r1 with
 |cons c2 r2=>
 cases r2;rename_i q1 q2;obtain⟨a,O⟩:=q1;obtain⟨d,l⟩:=q2;obtain⟨e1,u1,d1,v1⟩:=c1;obtain⟨e2,u2,J,v2⟩:=c2;have z1:=v1 0 _ rfl rfl;have z2:=v2 1 _ rfl rfl;have g:gV _=gV a:=e1;have j:gV _=gV d:=e2;have ne:a≠d:=λz=>by
  simp_all
 have Y:LamAt r lf tQ (KO gK) (KP gK) (KQ gK) [("sentence",a),("hand",d)]:=by
  rwa[<-PZ g,<-PZ j]
 generalize upd _ o _=Z at sb I so X;have ac:Ua a [(a,O),(d,l)]=gV O:=by simp
 have am:Ua d [(a,O),(d,l)]=gV l:=by
  have hb:(d == a)=false:=by simpa using Q1 ne
  rw[SI,hb];simp
 have kp:Same Z _:=Aw X;have k4:=I.trans kp;have an:CapAt (jx Z _) _ _:=.cons ⟨ie ac,u1,d1,z1⟩<|.cons ⟨ie am,u2,J,z2⟩ .nil;have k:=LoseIn.mono (LoseIn.off v u n) k4;obtain⟨pp,qa,zs,ep,p1,p2,p3⟩:=kF k.rd;cases ep;refine⟨t.length,aak v.t8,p,x,lf,b,o,t,_,e,es,LM U e,_,[],[],rfl,p1,v.t8,k.pl,Bt TH ⟨_,_,_,YD⟩ v.t8 v.sm v.pos ne,⟨Y.mono λb o z=>k4 _ _ z,an,k.rd⟩,kp _ _ sb,kp _ _ so,(by simp),Po _,(λi z=>by simp_all),λbs hl hF=>?_,λH' k'=>?_⟩
 ·unfold LM;rw[show(U.all _)=e from hW bs hl hF];simp
 have ko:=C1 X k';exact q _ (u.same<|I.trans ko)<|C.mono<|I.trans ko
end
noncomputable abbrev zG:QW:=bS 34
theorem Fy(t:Str)(h:Px):(aD t (!h)).length=g7 t h t.length:=by
 unfold aD g7 b_;rw[A']
 congr 2
 funext i
 cases cD t i<;>cases h<;>rfl
inductive xN (C CL:C')(vs:ab V)(H:Hp)(Q:VK)(E:XK):Prop
 |mk (p x o:C')(t:Str)(w:V)(hw:Px)(A:m9)(os:ab Px)(h0:vs=[.ref p,.str<|aq hw,.ref x,.ref o])(a:H p=gV (.tup [.str t,w]))(b:t.length<=8)(c:PAp C CL H x A t hw)(d:H o=gV (.lst<|os.map V.bl))(e:os.length=g7 t hw t.length)
  (q:∀(l:C') (h:Hp) (bs:ab Px),Same H h->h l=gV (.lst<|bs.map V.bl)->bs.length=t.length->Fol A t hw bs->Q (.ref l) h):xN C CL vs H Q E
section
variable {CL:C'}
inductive JI (p x o:C')(t:Str)(hw:Px)(A:m9)(H:Hp)(j:Nat)(a:St)(h:Hp):Prop
 |mk (l:C')(v:ab Px)(b:M' V)(i:a=[gV<|.ref p,gV<|.str<|aq hw,gV<|.ref x,gV<|.ref o,gV<|.ref l,b])(I:h l=gV (.lst<|v.map V.bl))(c:Fol A t hw v)(d:g7 t hw v.length=j)(e:v.length<=t.length)(f:v.length<t.length->b_ t hw v.length=Pr)(g:Same H h)
theorem Bu(F:Fun K "played_by" "played_by" zG f fd)(T:Bl m)(as:Fe P w K m B 1 "other_hand" nG)(V_:Fe P w K m B 2 "variables_of" jS)
  (Vg:Fe P w K m B 6 "played_on" (Br CP CL)):ay P w K m B aV 7 f fd ["sentence","hand","player","others"] (xN CP CL):=by
 refine F.okB (N:=["sentence","hand","player","others","filling","value"]) λR8 A O s H vs Q E sc hr h=>?_;obtain⟨p,x,o,t,w,c,A,os,rfl,n,t8,Wz,r,u,q⟩:=h;refine⟨_,(ae (bu gg (au eV) aK)
  (ae gg
  (ae (fS 5 (aO<|pv 3)<|au<|sT 4<|wM Vg hr<|aM (pv 0)<|aM (pv 1)<|kh (pv 2)<|cN fK (pv 4) gg)
  (di<|pv 4)))),?_⟩
 refine⟨_,rfl,.ref o,_,rfl,.inl ⟨_,SqL.of r,rfl⟩,_,rfl,_,rfl,c,rfl,p,t,w,!c,rfl,n,QF t8 (by decide),λlv H1 k1 C=>⟨.ref lv,_,rfl,.inl ⟨_,SqL.of C,rfl⟩,.inl ⟨rfl,_,rfl,L7 ?_ ?_⟩⟩⟩
 ·rw[A',A',Fy,u]
 refine⟨_,rfl,_,rfl,_,rfl,P8 _,λe0 N=>?_⟩;have D:=k1.trans<|ad N<|.lst [];refine⟨p,x,e0,t,w,c,A,[],rfl,D _ _ n,t8,Wz.mono D,aa,P8 _,λi z=>by simp_all,λl H3 b0 k3 nl hl hF _ G Wm I=>?_⟩;have k:=D.trans k3;refine⟨_,rfl,o,rfl,⟨_,SqL.of<|k _ _ r⟩,cx (K:=K) (a:=o) (xs:=os.map V.bl) (JI p x o t c A H) ⟨l,b0,Pt,rfl,hl,hF,I,G,Wm,k⟩ ?_ ?_ ?_⟩
 ·rintro j σ J _ ⟨_,_,_,_,_,_,_,_,_,d⟩;exact SqL.of<|d _ _ r
 ·rintro j y σ J hy ⟨L,M,v5,rfl,U,W,g,g5,X,d⟩;obtain⟨v,hv,rfl⟩:∃v,os[j]?=gV v/\y=.bl v:=by
   rw[PN]at hy;obtain⟨v,a,b⟩:=Qn.mp hy;exact⟨v,a,b.symm⟩
  have TQ:=ZM g5 λe=>by
   simp_all
  have go:=X TQ;refine⟨_,rfl,_,rfl,_,rfl,_,rfl,_,rfl,(by show 1<=sizeLine;decide),λl1 n1=>?_⟩;have k5:=ad n1<|.lst [.bl v];refine⟨L,l1,_,_,rfl,rfl,k5 _ _ U,aa,?_,λl2 n2=>?_⟩
  ·rw[A'];exact QA<|ak (by show M.length+1<=1000;lia)
  have Y:=d.trans<|k5.trans<|ad n2<|.lst<|M.map V.bl++[.bl v];refine⟨p,x,l2,t,w,c,A,M++[v],rfl,Y _ _ n,t8,Wz.mono Y,(by rw[aa,tK]),(by rwa[Pl]),W.snoc (by simp_all),λl7 H7 b7 k7 n7 s7 Z _ ac am an=>?_⟩;refine⟨l7,b7,_,rfl,s7,Z,?_,ac,am,Y.trans k7⟩;rw[an,Pl];show g7 t c (M.length+1)=_
  rw[g8,PM (by rw[go];exact Pk),g]
 rintro σ J ⟨L,M,v5,rfl,U,W,g,g5,X,d⟩;rw[A']at g;refine⟨_,rfl,q L J M d U ?_ W⟩;obtain z|z:=VB _ t.length
 ·have:=Bq t c ‹_›;rw[g8,PM<|by rw[X z];exact Pk]at this;lia
 exact aat g5 z
end
theorem LO:∀k,k<=i->jy A t H (b.take i) k=jy A t H b k:=λk h=>tN k λj a=>by
 rw[B',QM (QH a h),<-B']
theorem Fz:∀n,k<n->(jy A t H b n)[k]?=gV (if b_ t H k=Pn then A k (jy A t H b k)else b.getD k Pr)
 |n+1,h=>by
  rw[jy];by_cases e:k<n
  ·rw[PL<|by rwa[dY]];exact Fz n e
  have:k=n:=by lia
  subst this;rw[PV (by rw[dY];exact Po _),dY,QO];rfl
theorem vG:∀n,i<=n->(jy A t H b n).take i=jy A t H b i
 |0,h=>by rw[ad0.mp h];rfl
 |n+1,h=>by
  obtain rfl|h:=Ue h
  ·exact PJ (by rw[dY];simp)
  rw[jy,R7<|by rw[dY];exact ud h];exact vG n<|ud h
def LedRel(t:Str)(h:Px)(os:ab (Int×ab Int×Px))(b c:ab Px):Prop:=b.length=t.length/\c.length=t.length/\∀i,i<t.length->(b_ t h i=Pr/\b[i]?=c[i]?)\/(b_ t h i=Pn/\∃y,c[i]?=gV y/\b[i]?=gV (j_ os ((i:Int)+1) (b.take i) y))
theorem Ic{os:ab (Int×ab Int×Px)}(l:b.length=t.length)(h:∀i,i<t.length->b_ t H i=Pn->b[i]?=gV (HY A (j_ os) t H i<|b.take i)):LedRel t H os b (jy A t H b t.length):=
 ⟨l,dY _ _ _ _ _,λi a=>by
  rw[Fz _ a];cases o:b_ t H i with
  |false=>simp_all
  |true=>
   refine .inr ⟨rfl,_,by rw[PP rfl],?_⟩;rw[h i a o];unfold HY;rw[LO i<|Po _]⟩
theorem LedRel.plain{os:ab (Int×ab Int×Px)}(h:LedRel t w os b c){i:Nat}(H:i<t.length)(n:os.find? (λo=>decide (o.1=(i:Int)+1))=Pt):b[i]?=c[i]?:=by
 obtain⟨z,e⟩|⟨z,y,a,E⟩:=h.2.2 i H
 ·exact e
 unfold j_ at E;rw[n]at E;rw[a,E]
theorem LedRel.same{os:ab (Int×ab Int×Px)}(h:LedRel t w os b c)(n:∀i,i<t.length->b[i]?=c[i]?):b=c:=UC λi=>by
 by_cases H:i<t.length
 ·exact n i H
 rw[QI (by have:=h.1;simp_all),QI (by have:=h.2.1;simp_all)]
theorem LedRel.none(h:LedRel t w [] b c):b=c:=h.same λz H=>h.plain H rfl
theorem LedRel.one{v:Nat}{c:ab Int}{b:Px}{z:Int}(a:z=(v:Int)+1)(h:LedRel t w [(z,c,b)] B C):∀j,j≠v->B[j]?=C[j]?:=λj n=>by
 by_cases H:j<t.length
 ·exact h.plain H (RN.mpr λo m=>by
   rw[Pw.mp m];simp;lia)
 rw[QI (by have:=h.1;simp_all),QI (by have:=h.2.1;simp_all)]
theorem LedRel.own{v:Nat}{c:ab Int}{b:Px}{z:Int}(H:z=(v:Int)+1)(d:v<t.length)(i:b_ t w v=Pn)(h:LedRel t w [(z,c,b)] B C):(c.any (hit<|B.take v)=Pn/\B[v]?=C[v]?)\/(c.any (hit<|B.take v)=Pr/\B[v]?=gV b):=by
 obtain⟨e,x⟩|⟨x,y,j,a⟩:=h.2.2 v d
 ·simp_all
 have f:[(z,c,b)].find? (λo=>decide (o.1=(v:Int)+1))=gV _:=Sz (PB H);unfold j_ at a;rw[f]at a;lia
theorem g9(h:bw c b=Pn->bw d C=Pn)(e:bw d C=Pr):bw c b=false:=by
 lia
theorem iu(h:1<=absI z):absI z=(((absI z-1).toNat:Nat):Int)+1:=by lia
theorem pZ(h:B[(absI z-1).toNat]?=gV b):hit B z=(b == decide (0<z)):=by unfold hit;rw[h]
theorem xO(H:aP t C (Nx.within i j).d=gV d)(R:LedRel t w (vC t C w<|.within i j) b u)(e:bw d u=w):bw C b=w:=by
 obtain rfl:=LedRel.none R;obtain⟨I,k,H⟩:=QX.mp H;obtain⟨J,E,H⟩:=QX.mp H
 split at H
 ·rename_i g;cases H;rw[Qs]at g;cases w with
  |true=>
   refine fF (λc a=>?_) e;obtain rfl|m:=o6 (i:=I) a
   ·exact⟨_,GM (aB E).1 (by lia),λl f=>Py.mp<|Qv.mp g.2 l f⟩
   ·exact⟨c,m,λ_ h=>h⟩
  |false=>exact g9 (fF λc a=>⟨c,kN a,λ_ h=>h⟩) e
 simp_all
theorem Bv(j:∀c∈C,ap t.length c)(k:aP t C (Nx.unit i).d=gV D)(R:LedRel t H (vC t C H<|.unit i) b u)(e:bw D u=H):bw C b=H:=by
 rw[show(Nx.unit i).d=.tuple _ from rfl,pT]at k;obtain⟨I,E,a⟩:=QX.mp k;have p:I=i:=by have:=(aB E).2;lia
 subst p;have d:=j9 (aB E).1
 split at a
 ·rename_i g;cases a;obtain⟨z,s,n⟩:=vv g;have f:LedRel t H (if H=Pn then [(absI<|(C.getD I []).getD 0 0,[],decide _)]else []) b u:=R;rw[s]at d e f;have o:=e;have r:=(j _ d).2 z P3;have v:(absI z-1).toNat<t.length:=by omega
  cases H with
  |true=>
   have R2:LedRel t Pn [(absI z,[],decide (0<z))] b u:=f;obtain⟨q,_⟩|⟨_,q⟩:=LedRel.own (iu r.1) v (by unfold b_;unfold cw at n;rw[n];rfl) R2
   ·cases q
   ·exact yC (λc h l m=>((j c h).2 l m).1) r.1 (LedRel.one (iu r.1) R2) (by rw[pZ q];simp) o
  |false=>
   obtain rfl:=LedRel.none f;exact g9 (Da r.1 (by rw[R.1];simp_all) d) o
 simp_all
theorem Bw(f:∀c∈C,ap t.length c)(b:aP t C (Nx.pure z).d=gV D)(R:LedRel t H (vC t C H<|.pure z) B u)(e:bw D u=H):bw C B=H:=by
 rw[show(Nx.pure z).d=.tuple _ from rfl,pU]at b;rw[show m7 t C _=if((C.any _)&&!(C.any _))=Pn then gV _ else Pt from rfl]at b
 split at b
 ·rename_i g;cases b;rw[Qs]at g;obtain⟨i,X,j⟩:=P'.mp g.1;have r:=(f i X).2 z<|Py.mp j;have p:∀c∈C,-z∉c:=λc X n=>by
   simp_all
  have v:(absI z-1).toNat<t.length:=by omega
  have a:LedRel t H (if(cw t z == H)=Pn then [(absI z,[],decide _ == H)]else []) B u:=R;cases q:cw t z with
  |true=>
   rw[q]at e;rw[q]at a;cases H with
   |true=>
    have R2:=a;obtain⟨y,_⟩|⟨_,y⟩:=LedRel.own (iu r.1) v (by unfold b_;unfold cw at q;rw[q];rfl) R2
    ·cases y
    ·exact yC (λc h l m=>((f c h).2 l m).1) r.1 (LedRel.one (iu r.1) R2) (by rw[pZ y];simp) e
   |false=>
    obtain rfl:=LedRel.none a;refine g9 (fF λk o=>?_) e;obtain⟨c,m,_,rfl⟩:=eX.mp o;exact⟨c,m,λl d=>gs.mpr ⟨d,λy=>p c m<|y▸d⟩⟩
  |false=>
   rw[q]at e;rw[q]at a;cases H with
   |false=>
    have R2:=a;obtain⟨y,_⟩|⟨_,y⟩:=LedRel.own (iu r.1) v (by unfold b_;unfold cw at q;rw[q];rfl) R2
    ·cases y
    ·exact g9 (Db (λc h l m=>((f c h).2 l m).1) r.1 (LedRel.one (iu r.1) R2) (by rw[pZ y];simp)) e
   |true=>
    obtain rfl:=LedRel.none a;refine fF (λc m=>⟨_,eX.mpr ⟨c,m,p c m,rfl⟩,λl d=>(gs.mp d).1⟩) e
 simp_all
theorem zH(h:(absI l-1).toNat<v):hit (b.take v) l=hit b l:=by unfold hit;rw[QM h]
theorem xP(d:∀c∈C,ap t.length c)(r:aP t C (Nx.blocked i z).d=gV D)(R:LedRel t H (vC t C H<|.blocked i z) B u)(e:bw D u=H):bw C B=H:=by
 rw[show(Nx.blocked i z).d=.tuple _ from rfl,jH]at r;obtain⟨I,E,n⟩:=QX.mp r;have F:I=i:=by have:=(aB E).2;lia
 subst F;have o:=j9 (aB E).1
 split at n
 ·rename_i g;cases n;unfold fo at g;rw[Qs,Qs]at g;have s:=R;have f:=Py.mp g.1;have v:=(d _ o).2 z f;have G:(absI z-1).toNat<t.length:=by omega
  have J:∀c∈C,-z∈c->∃a∈c,absI a<absI z/\ -a∈C.getD I []:=λk w f=>by
   have:=Qv.mp g.2.2 k<|PQ.mpr ⟨w,Py.mpr f⟩;rw[rB (d k w).1]at this;simp_all
  cases H with
  |true=>
   have R2:=s;have A:=LedRel.one (iu v.1) R2;refine AL (λc h l m=>by rw[R.1];exact(d c h).2 l m) o f (λc h=>o6 h) J A ?_ e;have T:∀l∈C.getD I [],absI l<absI z->hit (B.take (absI z-1).toNat) l=hit B l:=λl m h=>zH (by have:=((d _ o).2 l m).1;omega);obtain⟨a,b⟩|⟨a,b⟩:=LedRel.own (iu v.1) G (by unfold b_;have:=g.2.1;unfold cw at this;rw[this];rfl) R2
   ·obtain⟨l,m,h⟩:=P'.mp a;obtain⟨M,N⟩:=PQ.mp m;refine .inl ⟨⟨l,M,by rwa[<-T l M<|PX N]⟩,R2.same λj _=>?_⟩;by_cases q:j=(absI z-1).toNat
    ·rwa[q]
    exact A j q
   ·refine .inr ⟨λl m h=>?_,by rw[pZ b];simp⟩;simp_all
  |false=>
   obtain rfl:=LedRel.none s;exact g9 (fF λc h=>⟨c,kN h,λ_ h=>h⟩) e
 simp_all
theorem FA{c:ab Int}{p q:Int->Px}(h:∀a∈c,p a=q a):c.any p=c.any q:=by
 induction c with
 |nil=>rfl
 |cons a c i=>rw[R0,R0,h a P3,i λb m=>h b<|P1 _ m]
theorem Bx(J:∀c∈C,ap t.length c)(v:aP t C (Nx.drop i).d=gV L)(R:LedRel t H (vC t C H<|.drop i) b w)(e:bw L w=H):bw C b=H:=by
 rw[show(Nx.drop i).d=.tuple [.str ax,.int (i)]from rfl,pS]at v;obtain⟨I,E,rfl⟩:=Qn.mp v;have N:I=i:=by have:=(aB E).2;cases this;rfl
 subst N;have u:=j9 (aB E).1;have M:∀c,c∈C.take I++[ao t Pr<|C.getD I []]++C.drop (I+1)↔c=ao t Pr _\/c∈C.take I++C.drop _:=λc=>by
  rw[P5,P5,P5,Pw];exact⟨λh=>h.elim (λh=>h.elim (λh=>.inr<|.inl h) .inl) λh=>.inr<|.inr h,λh=>h.elim (λh=>.inl<|.inr h) λh=>h.elim (λh=>.inl<|.inl h) .inr⟩
 cases H with
 |true=>
  obtain rfl:=LedRel.none R;refine fF (λc h=>?_) e;obtain rfl|m:=o6 (i:=I) h
  ·exact⟨_,(M _).mpr<|.inl rfl,λl P=>(PQ.mp P).1⟩
  ·exact⟨c,(M c).mpr<|.inr m,λV h=>h⟩
 |false=>
  have R2:LedRel t Pr (((C.getD I []).filter _).map λl=>(absI l,ao t Pr<|C.getD I [],decide _)) b w:=R;have O:=J _ u;have x:∀c∈C.take I++[ao t Pr<|C.getD I []]++C.drop _,c=ao t Pr _\/c∈C:=λc h=>((M c).mp h).imp_right kN;generalize C.getD I []=k at u R2 O x e;refine g9 (Dc u x ?_) e;have F:∀l∈k,l∉ao t Pr k->iy t Pr k<absI l:=λl m n=>Int.not_le.mp λh=>n<|PQ.mpr ⟨m,PB h⟩;have T:∀l∈k,l∉ao t Pr k->(ao t Pr k).any (hit<|b.take (absI l-1).toNat)=(ao t Pr k).any _:=λl m n=>FA λa h=>zH (by
   have r:=F l m n;have A:=PX (PQ.mp h).2;have h3:=(O.2 a (PQ.mp h).1).1;lia)
  have d:∀j o,(((k.filter λl=>!(ao t Pr k).contains l).map λl=>(absI l,ao t Pr k,decide (l<0))).find? λo=>decide (o.1=((j:Nat):Int)+1))=gV o->∃l∈k,l∉ao t Pr k/\o=(absI l,ao t Pr k,decide (l<0))/\j=(absI l-1).toNat:=λj o h=>by
   have r:o.1=((j):Int)+1:=by have:=Tt h;exact PX this
   obtain⟨l,m,rfl⟩:=Qe.mp<|Re h;obtain⟨U,B⟩:=PQ.mp m;refine⟨l,U,λz=>?_,rfl,?_⟩
   ·rw[Py.mpr z]at B;cases B
   have W:absI l=(j)+1:=r;lia
  cases g:(ao t Pr k).any _ with
  |true=>
   obtain⟨l,r,A⟩:=P'.mp g;refine .inl ⟨⟨l,r,A⟩,R2.same λj s=>?_⟩;cases f:(((k.filter _).map λl=>(absI l,ao t Pr k,decide (l<0))).find? λo=>decide (o.1=((j):Int)+1))with
   |none=>exact R2.plain s f
   |some o=>
    obtain⟨a,m,n,rfl,rfl⟩:=d j o f;obtain⟨V,q⟩|⟨V,y,D,Q⟩:=R2.2.2 _ s
    ·exact q
    ·unfold j_ at Q;rw[f]at Q;have p:b[(absI a-1).toNat]?=gV (if(ao t Pr k).any (hit<|b.take _)=Pn then y else decide _):=Q;rw[T a m n,g,PP rfl]at p;rw[D,p]
  |false=>
   refine .inr ⟨λl h=>?_,λl m n=>?_⟩
   ·cases y:hit b l with
    |false=>rfl
    |true=>
     rw[P'.mpr ⟨l,h,y⟩]at g;cases g
   have X:=O.2 l m;have s:(absI l-1).toNat<t.length:=by lia
   have Y:b_ t Pr (absI l-1).toNat=true:=by unfold b_;rw[oX m<|F l m n];rfl
   have Z:=iu X.1;obtain⟨q,V⟩|⟨V,y,D,Q⟩:=R2.2.2 _ s
   ·rw[Y]at q;cases q
   cases f:(((k.filter λl=>!(ao t Pr k).contains l).map λl=>(absI l,ao t Pr k,decide (l<0))).find? λo=>decide (o.1=(((absI l-1).toNat):Int)+1))with
   |none=>exact absurd (PB Z)<|RN.mp f _<|Qe.mpr ⟨l,PQ.mpr ⟨m,by rw[Bool.not_eq_true',<-Bool.not_eq_true];exact λz=>n<|Py.mp z⟩,rfl⟩
   |some o=>
    obtain⟨a,G,n',rfl,ea⟩:=d _ o f;have ac:=O.2 a G;obtain rfl:a=l:=O.1.inj G m (by lia);unfold j_ at Q;rw[f]at Q;have p:b[(absI a-1).toNat]?=gV (if(ao t Pr k).any _=Pn then y else decide _):=Q;rw[T a m n,g]at p;rw[pZ p];obtain⟨h,e⟩|⟨h,e⟩:=aH a
    ·rw[Pu (Int.not_lt_of_ge h),PB (by lia)];rfl
    rw[PB h,Pu (Int.not_lt_of_ge (jl h))];rfl
theorem FB(H:∀c∈C,ap t.length c)(h:aP t C s.d=gV d)(R:LedRel t w (vC t C w s) b u)(e:bw d u=w):bw C b=w:=by
 cases s with
 |unit i=>exact Bv H h R e
 |drop i=>exact Bx H h R e
 |pure z=>exact Bw H h R e
 |within i j=>exact xO h R e
 |blocked i z=>exact xP H h R e
def Wn(A:m9)(t:Str)(h:Px)(c:ab (ab Int)):Prop:=∀b,b.length=t.length->Fol A t h b->bw c b=h
theorem rG(b:∀c∈C,ap t.length c)(d:aP t C s.d=gV D)(h:Wn A t H D):Wn (HY A (j_<|vC t C H s) t H) t H C:=λB l F=>
 FB b d (Ic l λi a o=>F i (by simp_all) o) (h _ (dY _ _ _ _ _) λi a o=>by
  rw[dY]at a;rw[Fz _ a,PP o,vG _<|QA a])
theorem tT{t:Str}(h:∀c∈C,ap t.length c):N6 0 t.length C:=λc X l H=>by
 have:=(h c X).2 l H;assumption
theorem By(g:∀c∈C,ap t.length c)(h:bR t C t.length 0 0=H):∃A,Wn A t H C:=by
 refine⟨λi b=>decide (bR t C (t.length-(i+1)) (i+1) (2*fm b+1)=H),λb j F=>?_⟩;have k:∀i,i<=t.length->bR t C (t.length-i) i (fm<|b.take i)=H:=λi=>by
  induction i with
  |zero=>exact λw=>h
  |succ i I=>
   intro m;have e:=I (j' m);rw[show t.length-i=t.length-(i+1)+1 by lia]at e;have E:(if cD t i=Pn then bR t C _ _ _ || bR t C _ _ _ else bR t C _ _ _&&bR t C _ _ _)=H:=e;have f:b[i]?=gV (b.getD i Pr):=by rw[B',K'<|by lia];rfl
   have a:b_ t H i=Pn->b.getD i Pr=decide _:=λo=>PZ<|f.symm.trans<|F i (by lia) o;rw[Qb,f];show bR t C _ _ (fm<|b.take i++[b.getD i Pr])=H
   rw[lV];unfold b_ at a;generalize b.getD i Pr=v at a;cases x:bR t C (t.length-(i+1)) (i+1) (2*fm (b.take i))<;>cases y:bR t C (t.length-(i+1)) (i+1) (2*fm (b.take i)+1)<;>cases z:cD t i<;>cases H<;>cases v<;>rw[x,y,z]at E<;>rw[y,z]at a<;>first|(cases E;done)|(cases a rfl;done)|exact x|exact y
 have e:=k _<|Po _;rw[QO,PJ<|by exact VC j]at e;have E:=e;rw[<-E];refine oY λc X=>dG λl d=>?_;have:=tT g c X l d;rw[yl (by lia) (by lia),j]
theorem LP(H:∀c∈C,ap t.length c)(h:Wn A t w C):bR t C t.length 0 0=w:=by
 obtain⟨r,a,d,e⟩:=o9 (tT H) _ (λb=>A b.length b) _ [] (Sg _) rfl;have f:=(Sg _).symm.trans a;refine UU λn=>n<|d.symm.trans<|h r f λi g o=>?_;have:=e i (P8 _) (by simp_all) λz=>n<|Eq.trans z.symm<|VY.mp o;rw[Ul]at this;rw[this,P9,Wu<|by exact QA g]
theorem FC{s:Nx}(H:∀c∈C,ap t.length c)(a:∀c∈d,ap t.length c)(b:aP t C s.d=gV d):bR t C t.length 0 0=bR t d t.length 0 0:=by
 obtain⟨A,h⟩:=By a rfl;exact LP H<|rG H b h
noncomputable def gE(t:Str)(h:Px)(d:ab PK)(o:ab (ab Int)):ab gD:=(vp t h d o).map λe=>(e.1,e.2,Pr)
theorem FD(h:o7 d=gV i):∃z,d=.tuple [.str ax,.int z]/\z.toNat=i:=by
 unfold o7 at h;split at h
 ·split at h
  ·rename_i e;subst e;exact⟨_,rfl,PZ h⟩
  cases h
 cases h
theorem Bz(u:∀c∈C,ap t.length c)(m:bG t C w [] d=(o,Pn))(h:r∈be w d o v d.length):r.1.length<=t.length/\∀l∈r.1,1<=absI l/\absI l<v:=by
 have H:∀c∈o,ap t.length c:=by
  have:=gu (w:=w) u (D:=d) (s:=[]) (by simp);rwa[m]at this
 obtain⟨k,x,y⟩:=wN h;obtain⟨l,A,rfl⟩:=Qe.mp y;obtain⟨b,n⟩:=PQ.mp A;unfold bY at b
 split at b
 ·rename_i i e;obtain⟨z,B,D⟩:=FD e;obtain⟨j,rfl,Q,F,p⟩:=sh m (by rw[<-B];exact getD_some x);have E:j=i:=by rw[<-D,Qo]
  subst E;obtain⟨G,f⟩:=PQ.mp b;have f:l∉o.getD k []:=by grind
  have I:iy t w (o.getD j [])<absI l:=by
   refine XT λg=>f ?_;rw[p];exact PQ.mpr ⟨G,PB g⟩
  have O:=eQ H F;have q:∀L∈o.getD k [],1<=absI L/\absI L<v:=λL g=>by
   have J:=(O.2 L g).1;rw[p]at g;have U:=PX (PQ.mp g).2;exact⟨J,by lia⟩
  have s:=bx O;unfold mU
  split
  ·exact⟨s,q⟩
  refine⟨by rwa[A'],λL g=>?_⟩;obtain⟨a,M,rfl⟩:=Qe.mp g;have N:absI (-a)=absI a:=by
   obtain⟨_,e⟩|⟨_,e⟩:=aH a<;>obtain⟨_,P⟩|⟨_,P⟩:=aH (-a)<;>lia
  rw[N];exact q a M
 simp_all
theorem mJ(h:e∈gE t H d o):∃i,i<t.length/\cD t i=H/\e=(1+(i:Int),be H d o (1+(i:Int)) d.length,Pr):=by
 obtain⟨E,f,rfl⟩:=Qe.mp h;obtain⟨v,g,rfl⟩:=Qe.mp f;obtain⟨a,b,c⟩:=eY.mp g;refine⟨(v-1).toNat,by lia,c,?_⟩;rw[lF a]
theorem p_(b:i<t.length)(a:cD t i=h):(gE t h d o).find? (λe=>decide (e.1=1+(i:Int)))=gV (1+(i:Int),be h d o (1+(i:Int)) d.length,Pr):=by
 cases H:(gE t h d o).find? _ with
 |none=>
  refine absurd (PB rfl)<|RN.mp H (1+(i),be h d o (1+(i)) d.length,Pr) ?_;refine Qe.mpr ⟨(1+(i),be h d o _ _),Qe.mpr ⟨1+(i),eY.mpr ⟨by lia,by lia,?_⟩,rfl⟩,rfl⟩;grind
 |some e=>
  obtain⟨j,z,z,rfl⟩:=mJ<|Re H;have E:=PX<|Tt (p:=λe:gD=>decide (e.1=1+(i))) H;simp_all
theorem FE(l:t.length<=900)(f:∀c∈C,ap t.length c)(z:bG t C H [] d=(o,Pn)):PlanOk (gE t H d o) t H:=by
 refine⟨λi h g=>?_,λe j=>?_⟩
 ·have e:=p_ (d:=d) (o:=o) h<|eq_of_beq g;exact⟨_,e,Re e,rfl⟩
 obtain⟨i,h,y,rfl⟩:=mJ j;refine⟨i,h,rfl,λr k=>?_⟩;obtain⟨a,b⟩:=Bz f z k;lia
theorem Ie(a:∀c∈C,ap t.length c)(T:bG t C h [] d=(o,Pn))(e:[]∈o):Wn (iz<|gE t h d o) t h C:=λB l F=>
 qQ a T e l λi r b H f=>by
  rw[F i (by simp_all) (by unfold b_;simp_all)];unfold iz;rw[p_ b H];show gV (tI _ _ _)=_
  unfold tI;rw[f]
theorem FF(f:t.length<=8)(j:d.length<=2100)(b:∀c∈C,ap t.length c)(r:bG t C h [] d=(o,Pn))(H:e∈gE t h d o):e.2.1.length<=9000:=by
 obtain⟨i,k,z,rfl⟩:=mJ H;have a:∀c∈o,ap t.length c:=by
  have:=gu (w:=h) b (D:=d) (s:=[]) (by simp);rwa[r]at this
 have l:=i9 (H:=h) (d:=d) (v:=1+(i)) a (by lia) (n:=d.length);lia
theorem ke{b a:Type}{R:b->a->Prop}:∀{l:ab b} {m:ab a} {j:Nat} {y:a},Paired R l m->m[j]?=gV y->∃x,l[j]?=gV x/\R x y
 |_,_,_,_,.nil,h=>by simp at h
 |x::_,_,0,_,.cons r _,h=>by simp_all
 |_,_,j+1,_,.cons _ t,h=>ke (j:=j) t h
theorem qc(t:Str)(h:Px)(d:ab PK)(o:ab (ab Int)):(gE t h d o).map (·.1)=aD t h:=by
 unfold gE vp;rw[Qm,Qm];exact WJ _
theorem BA(t:Str)(h:Px)(d:ab PK)(o:ab (ab Int)):(gE t h d o).length<=t.length:=by
 have:=Qq Q4<|qc t h d o;rw[A']at this;rw[this];exact pL t h
theorem xQ(h:Paired (PartAt H c L) (vp t w d o) xs):EntsAt c (λz=>True) (gE t w d o) xs:=by
 unfold gE;refine⟨by rw[A'];exact h.length.symm,λi x f=>?_⟩;obtain⟨e,g,p,a,Y,rfl,k,l,b,z,z⟩:=ke h f;refine⟨(e.1,e.2,Pr),by simp_all,p,a,Y,rfl,k,l,⟨b.length.symm,λj y m=>?_⟩,trivial⟩;obtain⟨r,n,q,s,rfl,G,u⟩:=ke b m;exact⟨r,n,q,s,rfl,G,u⟩
noncomputable abbrev NS:QW:=bS 95
inductive FG (vs:ab V)(H:Hp)(Q:VK)(E:XK):Prop
 |mk (t:Str)(hw:Px)(l:Int)(h0:vs=[.str t,.str<|aq hw,.int l])(h:1<=absI l)(a:absI l<=t.length)(b:t.length<=900)(c:Q (.bl<|cD t (absI l-1).toNat == hw) H)
theorem LQ(F:Fun K "_law_own" "_law_own" NS f g)(T:Bl m):ay P w K m B aV 1 f g ["_law_turns","_law_hand","_law_literal"] FG:=by
 refine F.okB (N:=["_law_turns","_law_hand","_law_literal"]) λC A o s H v Q E i r h=>?_;obtain⟨t,b,l,rfl,L,j,k,q⟩:=h;exists _,gg;have W:(absI l-1).toNat<t.cps.toList.length:=by
  show _<t.length
  omega
 obtain⟨c,a⟩:∃c,t.cps.toList[(absI l-1).toNat]?=gV c:=⟨_,K' W⟩;have d:kn t.cps.toList (absI l-1)=gV c:=by
  have e:absI l-1=(((absI l-1).toNat)):=by lia
  rw[e];exact aE a
 refine⟨_,rfl,_,rfl,l,rfl,_,_,rfl,rfl,.inr<|.inr ⟨t,_,_,rfl,rfl,QA (ak<|by lia),d,.inl ⟨rfl,_,rfl,.inl ⟨rfl,.inl ⟨rfl,?_⟩⟩⟩⟩⟩;rw[IM,<-wC a,M3];have e:decide (V.bl (cD t (absI l-1).toNat)=V.bl b)=(cD t (absI l-1).toNat == b):=by
  cases cD t _<;>cases b<;>rfl
 rwa[e]
noncomputable abbrev zI:QW:=bS 100
noncomputable abbrev zJ:QW:=bS 101
noncomputable abbrev FH:QW:=bS 102
inductive qd (vs:ab V)(H:Hp)(Q:VK)(E:XK):Prop
 |mk (v:V)(f:C')(t:Str)(cs:ab (ab Int))(bs:ab Px)(h0:vs=[v,.ref f])(a:RD H (oM t cs) v)(b:H f=gV (.lst (bs.map V.bl)))(d:uB cs)(e:∀c∈cs,∀l∈c,1<=absI l/\absI l<=(bs.length:Int))(q:∀h:Hp,Same H h->Q (.bl (cs.all λc=>c.any<|hit bs)) h)
def Ig(H:Hp)(m:Nat)(xs:ab V):Prop:=∀x∈xs,∃(r:ab Px) (a:C'),x=.ref a/\H a=gV (.lst<|r.map V.bl)/\r.length=m
inductive qe (vs:ab V)(H:Hp)(Q:VK)(E:XK):Prop
 |mk (m:Nat)(h0:vs=[.int (m:Int)])(a:m<=8)(q:∀(l:C') (xs:ab V) (h:Hp),Same H h->h l=gV (.lst xs)->xs.length=2^m->Ig h m xs->Q (.ref l) h)
inductive tU (vs:ab V)(H:Hp)(Q:VK)(E:XK):Prop
 |mk (p:C')(t:Str)(w:V)(hw:Px)(h0:vs=[.ref p,.str<|aq hw])(a:H p=gV (.tup [.str t,w]))(b:t.length<=8)(q:∀h:Hp,Same H h->Q (.int (g7 t hw t.length:Nat)) h)
noncomputable def vH(b:ab Px):V->Px
 |.int l=>hit b l
 |_=>Pr
theorem Ih(b:ab Px)(c:ab Int):decide (V.int (((((c.map V.int).filter<|vH b).map id).length:Nat):Int)=V.int 0)=!c.any (hit b):=by
 induction c with
 |nil=>rfl
 |cons l r i=>
  rw[Qf,R0];cases g:hit b l with
  |false=>
   rw[QP (by show¬hit b l=Pn;rw[g];exact Pk),i];rfl
  |true=>
   rw[QK (a:=V.int l) g];rfl
theorem Ii(h:1<=absI l)(H:absI l<=(B.length:Int)):∃b,kn (B.map V.bl) (absI l-1)=gV (.bl b)/\decide (V.bl b=V.bl (decide (0<l)))=hit B l:=by
 obtain⟨b,a,e⟩:=jk h H;exists b,a;rw[rE h H]at e;rw[lM,V.bl.inj e]
theorem LR{t:Str}{H:Px}{i:Nat}{z:Int}(h:z=(i:Int)+1):(cD t (absI z-1).toNat == H)=b_ t H i:=by
 subst h;have e:(absI ((i)+1)-1).toNat=i:=by
  rw[cj<|by lia];lia
 rw[e];rfl
inductive JJ (H:Hp)(D p:C')(t:Str)(hw:Px)(i:Nat)(a:St)(ys:ab V)(h:Hp):Prop
 |mk (v:M' V)(h0:a=[v,gV<|.str<|aq hw,gV<|.ref p])(b:ys.length=g7 t hw i)(c:h D=gV (.lst ys))(d:Same H h)
inductive vI (p:C')(g:C')(H:Hp)(cs:ab (ab Int))(bs:ab Px)(i:Nat)(a:ab (M' V))(h:Hp):Prop
 |mk (v:M' V)(I:a=[gV (.ref p),gV (.ref g),v])(b:Same H h)(d:((cs.take i).all λc=>c.any<|hit bs)=Pn)
theorem BB(F:Fun K "_law_comes" "_law_comes" zI f Z)(T:Bl mg):ay P w K mg B aV 1 f Z ["_law_sentence_here","_law_filling"] qd:=by
 refine F.okB (N:=["_law_sentence_here","_law_filling","_law_clause"]) λQC A o s H vs Q E sc hr h=>?_;obtain⟨v,g,t,C,b,rfl,hd,hg,m,n,q⟩:=h;obtain⟨p,u,xs,rfl,h1,y,G⟩:=kF hd;have I:=hr.units;refine⟨_,(ae (fS 2 (aO gg)<|au<|bu (AI (h_ I) (aR dq rfl T.len R9<|gT<|jR ["_law_one","_law_filling"] [Pt,gV 1] (bT<|pv 2) (t:=λS S S S=>(dA<|AI (h_ I) (C9 (K:=K) (pv 1) gg) gg))) cF) (di gb) aK)
  (di gb)),?_⟩
 refine⟨_,rfl,(bA h1 rfl ⟨u,rfl,⟨_,SqL.of y⟩,cx (xs:=xs)
  (vI p g H C b) ⟨Pt,rfl,Same.refl _,rfl⟩ ?_ ?_ ?_⟩)⟩
 ·rintro i J L S ⟨S,S,a,S⟩;exact SqL.of<|a _ _ y
 ·rintro i x J L d ⟨v2,rfl,a,r⟩;obtain⟨c,M,tc,rfl,N⟩:=G.get d;have X:=Pq M;have e:C.take (i+1)=C.take i++[c]:=by rw[Qb,M];rfl
  refine⟨_,rfl,tc,rfl,⟨_,SqT.of<|a _ _ N⟩,λD O=>cg [gV<|.ref g] (vH b) id rfl (a _ _ N) O (by rw[A'];have:=m.2 c X;lia) ?_ ?_ ?_⟩
  ·intro x d H' R k j;obtain⟨z,U,rfl⟩:=c_ d;obtain⟨bb,l,WC⟩:=Ii (n c X z U).1 (n c X z U).2;refine⟨_,rfl,_,rfl,z,rfl,_,_,rfl,rfl,(fY (k _ _<|a _ _ hg) l ⟨_,rfl,_,_,rfl,rfl,.inl ⟨rfl,_,rfl,?_⟩⟩)⟩;rwa[WC]
  ·intro x d S H' R k j;exact⟨_,rfl,j⟩
  have W:=ad O<|.lst<|((c.map V.int).filter<|vH b).map id;refine⟨.ref D,_,rfl,.inl ⟨_,SqL.of aa,rfl⟩,.inl ⟨rfl,_,rfl,?_⟩⟩;rw[Ih];cases Y:c.any _ with
  |true=>
   refine al ⟨_,rfl,a.trans W,?_⟩;rw[e,Vc,r,Up,Y];rfl
  |false=>
   have ef:(C.all λc=>c.any<|hit b)=false:=VJ.mpr ⟨c,X,by lia⟩;rw[ef]at q;exact ar<|q _<|a.trans W
 rintro J L ⟨v2,rfl,a,r⟩;rw[PJ<|by rw[G.length];exact Po _]at r;rw[r]at q;exact q _ a
theorem FI(F:Fun K "_law_many" "_law_many" FH f r)(T:Bl m)(u:Fe P w K m B 1 "_law_own" FG):ay P w K m B aV 2 f r ["_law_sentence_here","_law_hand"] tU:=by
 refine F.okB (N:=["_law_sentence_here","_law_hand"]) λG A o s H I Q E J v h=>?_;obtain⟨p,t,w,a,rfl,e,L,q⟩:=h;exists _,(di<|aR dq rfl T.len R9<|gT<|jR ["_law_k","_law_hand","_law_sentence_here"] [Pt,gV 1,gV 0] gg (t:=λZ Z Z Z=>(dA<|iG<|gH<|wM u v<|aM (C9 (pv 2) cF) gg)));refine⟨_,rfl,(bA e rfl ⟨.str t,_,rfl,⟨QA (ak<|by lia),rfl⟩,(t.length),rfl,(by simp),(by lia),λD g=>?_⟩)⟩;have n:((t.length:Int)).toNat=t.length:=by rfl
 refine fL (JJ H D p t a) ⟨Pt,rfl,rfl,aa,ad g _⟩ ?_ ?_ ?_
 ·rintro i j y d Z ⟨Z,Z,Z,b,Z⟩;exact b
 ·rintro i j y d x ⟨z,rfl,l,b,k⟩;rw[n]at x;have c:=g8 t a i;have C:=zx t a i;refine⟨_,rfl,(bA (k _ _ e) rfl ⟨_,rfl,_,rfl,_,_,rfl,rfl,t,a,(0)+(i)+1,rfl,(by rw[cj<|by lia];lia),(by rw[cj<|by lia];lia),by lia,_,rfl,?_⟩)⟩;rw[LR (i:=i)<|by simp];cases go:b_ t a i with
  |true=>
   exact al ⟨_,rfl,by simp_all,b,k⟩
  |false=>
   rw[go]at c;refine ar ⟨_,rfl,b,ak (by lia),_,rfl,by rw[Pl,l,c];rfl,aa,k.upd_new g _⟩
 rintro j y d ⟨z,rfl,l,b,k⟩;exists .ref D,_,rfl,.inl ⟨_,SqL.of b,rfl⟩;simp_all
inductive vJ (m:Nat)(D:C')(H:Hp)(i:Nat)(b:ab (M' V))(ys:ab V)(h:Hp):Prop
 |mk (I:(∃v,b=[v,gV<|.int (m:Int)]))(c:h D=gV (.lst ys))(d:Same H h)(e:ys.length=i)(f:∀y∈ys,∃(r:ab Px) (a:C'),y=.ref a/\a≠D/\h a=gV (.lst<|r.map V.bl)/\r.length=m)
theorem BC(F:Fun K "_law_lists" "_law_lists" zJ f L)(T:Bl M):ay P w K M B aV 1 f L ["_law_many_here"] qe:=by
 refine F.okB (N:=["_law_many_here"]) λQC A o s H vs Q E sc hr h=>?_;obtain⟨m,rfl,O,q⟩:=h;have U:2^m<=256:=Tz (by decide) O;have v:(1:Int)*2^((m:Int)).toNat=((2^m:Nat)):=by
  simp
 generalize 2^m=N at U v q;exists _,(di<|rT (i:=[Pt,gV 0]) rfl cS gg (λS S S S=>(rL (i:=0) (L2.nD ["_law_number","_law_many_here"]) rfl<|X' rfl)) (λS S S S=>nC) λS S S S=>(jR ["_law_k","_law_number","_law_many_here"] [Pt,gV 0,gV 1] gg));exists _,rfl,_,_,rfl,rfl,⟨by simp,by lia,by simp⟩;rw[v];refine⟨(N),rfl,(by simp),(by lia),λD x=>?_⟩;have C:((N:Int)).toNat=N:=by rfl
 refine fL (vJ m D H) ⟨⟨Pt,rfl⟩,aa,ad x _,rfl,λS z=>nomatch z⟩ ?_ ?_ ?_
 ·rintro i G Y d S ⟨S,c,S⟩;exact c
 ·rintro i G Y d W ⟨⟨v0,rfl⟩,c,j,l,n⟩;rw[C]at W;refine cy ⟨_,rfl,(m),rfl,(by simp),(by lia),λe Z=>?_⟩;refine uz (n:=m) [gV<|.int<|(0)+(i),gV<|.int _] (λk=>.bl (decide (V.int (SU (((0)+(i))/2^((m:Int)-1-((0)+(k))).toNat) 1)=V.int 1))) rfl Z (by lia) (λS S S r=>r) ?_ ?_
  ·intro k hk H' R k' r;exact⟨_,rfl,_,rfl,_,_,rfl,rfl,_,rfl,_,_,rfl,rfl,_,_,rfl,rfl,(by lia),_,_,rfl,rfl,.inl ⟨rfl,r⟩⟩
  obtain⟨r,X,rl⟩:∃r,(Qt m).map (λk:Nat=>V.bl (decide (V.int (SU (((0)+(i))/2^((m:Int)-1-((0)+(k))).toNat) 1)=V.int 1)))=r.map V.bl/\r.length=m:=⟨(Qt m).map _,by rw[Qm];rfl,by rw[A',QQ]⟩;rw[X];have nD:=(ag c Z).symm;have g:=ad Z<|.lst<|r.map V.bl;have I:=cm g;generalize upd d e _=H3 at g I ⊢;refine⟨g _ _ c,ak (by lia),⟨_,rfl⟩,aa,(j.trans g).upd_new x _,by rw[Pl,l];rfl,λy b=>?_⟩;obtain b|b:=P5.mp b
  ·obtain⟨r,a,p,J,t,u⟩:=n y b;exact⟨r,a,p,J,by rw[af J];exact g _ _ t,u⟩
  rw[Pw.mp b];exact⟨r,e,rfl,nD,by rwa[af nD],rl⟩
 rintro G Y d ⟨S,c,j,l,n⟩;refine q D Y d j c l λy b=>?_;obtain⟨r,a,p,S,t,u⟩:=n y b;exact⟨r,a,p,t,u⟩
noncomputable abbrev zK:QW:=bS 93
noncomputable abbrev zL:QW:=bS 94
structure LS (mg:Str->M' Pm):Prop where
 len:mg "len"=Pt
 range:mg "range"=Pt
 abs:mg "abs"=Pt
 int:mg "int"=Pt
inductive qf (vs:ab V)(H:Hp)(Q:VK)(E:XK):Prop
 |mk (p q:C')(t:Str)(xs:ab V)(cs:ab (ab Int))(h0:vs=[.ref p])(a:H p=gV (.tup [.str t,.ref q]))(b:H q=gV (.lst xs))(c:CLs H cs xs)(d:N6 0 t.length cs)(e:WS t)(f:t.length<=8)(g:∀(p:C') (xs:ab V) (h:Hp),Same H h->h p=gV (.lst xs)->xs.length=t.length+1->LV h p t cs 0 xs->Q (.ref p) h)
inductive qg (vs:ab V)(H:Hp)(Q:VK)(E:XK):Prop
 |mk (p q:C')(t:Str)(xs:ab V)(cs:ab (ab Int))(h0:vs=[.ref p])(a:H p=gV (.tup [.str t,.ref q]))(b:H q=gV (.lst xs))(c:CLs H cs xs)(d:N6 0 t.length cs)(e:WS t)(f:t.length<=8)(g:∀h,Same H h->Q (.str<|aq<|bR t cs t.length 0 0) h)
theorem FJ(b x y:Px):g_ (.bl b) [.bl x,.bl y]=if b then(x || y)else !(x&&y):=by
 cases b<;>cases x<;>cases y<;>rfl
theorem NT(h:ch=119\/ch=115):decide (V.str ⟨#[ch]⟩=V.str (PD "s"))=!decide (ch=119):=by
 obtain rfl|rfl:=h<;>decide+kernel
theorem FK(b:Px)(x y:V):kn [x,y] (if b then 1 else 0)=gV (if b then y else x):=by
 cases b<;>rfl
inductive vK (p:C')(t:Str)(q:C')(lv:C')(cs:ab (ab Int))(H:Hp)(i:Nat)(a:ab (M' V))(G:Hp):Prop
 |mk (x:M' V)(X:M' V)(b:M' V)(c:M' V)(d:M' V)(I:a=[gV (.ref p),gV (.str t),gV (.ref q),gV (.int (t.length:Int)),gV (.ref lv),x,X,b,c,d,Pt,Pt,Pt])(e:G lv=gV (.lst ((Qt i).map λm=>V.bl<|bR t cs (t.length-t.length) t.length m)))(f:Same H G)
inductive vL (p:C')(t:Str)(q:C')(lv:C')(i:Nat)(cs:ab (ab Int))(G:Hp)(j:Nat)(a:ab (M' V))(g:Hp):Prop
 |mk (x:M' V)(X:M' V)(b:M' V)(I:a=[gV (.ref p),gV (.str t),gV (.ref q),gV (.int (t.length:Int)),gV (.ref lv),gV (.int (0+(i:Int))),gV (.bl ((cs.take j).all λc=>c.any<|iD t.length i)),x,X,b,Pt,Pt,Pt])(d:g=G)
inductive vM (p:C')(t:Str)(q:C')(lv:C')(i:Nat)(cs:ab (ab Int))(j:Nat)(c:ab Int)(T:C')(G:Hp)(k:Nat)(a:ab (M' V))(g:Hp):Prop
 |mk (x:M' V)(I:a=[gV (.ref p),gV (.str t),gV (.ref q),gV (.int (t.length:Int)),gV (.ref lv),gV (.int (0+(i:Int))),gV (.bl ((cs.take j).all λc=>c.any<|iD t.length i)),gV<|.ref T,gV<|.bl<|(c.take k).any<|iD t.length i,x,Pt,Pt,Pt])(b:g=G)
inductive vN (p:C')(t:Str)(q:C')(l:C')(cs:ab (ab Int))(H:Hp)(j:Nat)(a:ab (M' V))(h:Hp):Prop
 |mk (b:M' V)(c:M' V)(d:M' V)(e:M' V)(f:M' V)(g:M' V)(x:M' V)(X:M' V)(ys:ab V)(i:a=[gV<|.ref p,gV<|.str t,gV<|.ref q,gV<|.int (t.length:Int),b,c,d,e,f,g,gV<|.ref l,x,X])(I:h l=gV (.lst ys))(k:ys.length=j+1)(m:LV h l t cs (t.length-j) ys)(n:Same H h)
inductive vO (p:C')(t:Str)(q:C')(D:C')(X:M' V)(a:M' V)(b:M' V)(c:M' V)(l:C')(k:Nat)(cs:ab (ab Int))(H:Hp)(i:Nat)(d:ab (M' V))(G:Hp):Prop
 |mk (e:M' V)(x:M' V)(I:d=[gV (.ref p),gV (.str t),gV (.ref q),gV (.int (t.length:Int)),gV (.ref D),e,X,a,b,c,gV (.ref l),gV (.int (k:Int)),x])(f:G D=gV (.lst ((Qt i).map λm=>V.bl<|bR t cs (t.length-k) k m)))(g:Same H G)
theorem BD(F:Fun K "_law_levels" "_law_levels" zK f fd)(T:LS mg):ay P w K mg a4 aV 1 f fd ["_law_sentence_here"] qf:=by
 refine F.okB (N:=["_law_sentence_here","_law_turns","_law_clauses","_law_count","_law_level","_law_number","_law_comes_here","_law_clause","_law_some","_law_literal","_law_levels_here","_law_k","_law_two"]) λR8 A an s H vs Q E sc hr h=>?_;obtain⟨p,v,t,xs,C,rfl,h1,h2,h3,as,av,h8,q⟩:=h;have hu:=hr.units;have p8:∀k,k<=8->2^k<=256:=λk hk=>Tz (by decide) hk;have az:=ym t.length;have a5:=p8 _ h8;refine⟨_,(ae (JX (pv 0) gg)
  (ae (sT 3<|aR dq rfl T.len R9<|gT<|pv 1)
  (ae gg
  (ae (fS 5 (lL rfl T.range gg) (ae gg
   (ae (fS 7 (aO<|pv 2) (ae gg
    (ae (fS 9 (bT<|pv 7)<|au<|sT 8<|Ik (pv 8)<|rK<|AH (h_ hu) (AH (h_ hu) (cN BN (cN BL (pv 5)<|cN BJ (pv 3)<|aR oh rfl T.abs Us<|gT<|pv 9) cF) cF) gg)
    gg)))
   gg)))
  (ae gg
  (ae (fS 11 (qI rfl T.range gg) (ae gg
   (ae (fS 5 (lL rfl T.range gg) (ae gg
    (au<|cG<|fJ QD Ra Ri cK (pv 4)<|gT<|K1 gg<|aW lO rfl T.int Ur gg)))
   (au<|cG<|fJ QD Yu PySem.F.type_list_insert Af (pv 10) gg))))
  (di<|pv 10))))))),?_⟩
 exists _,rfl,p,_,rfl,SqT.of h1,rfl,_,_,rfl,_,_,rfl,rfl;exists _,rfl,.str t,_,rfl,⟨QA (ak<|by lia),rfl⟩;refine⟨P8 _,λL W=>?_⟩;have k1:=ad W<|.lst [];have r1:=cm k1;generalize upd H L (.lst [])=H1 at k1 r1;exists _,rfl,_,_,rfl,rfl,⟨by simp,by lia,by simp⟩,((2^t.length:Nat):Int),by simp,(vb (by simp)<|W5 _),(by omega);refine jg (lo:=0) (n:=2^t.length) (vK p t v L C H)
  ⟨Pt,Pt,Pt,Pt,Pt,rfl,r1,k1⟩ ?_ ?_
 ·rintro i n G hi ⟨Y,x6,J,M,X,rfl,g,a⟩;refine⟨_,rfl,v,rfl,⟨_,SqL.of<|a _ _ h2⟩,cx (K:=K) (a:=v) (xs:=xs)
   (vL p t v L i C G) ⟨_,_,_,rfl,rfl⟩ ?_ ?_ ?_⟩
  ·rintro j n Z _ ⟨_,_,_,_,rfl⟩;exact SqL.of<|a _ _ h2
  ·rintro j x n Z hx ⟨J,M,X,rfl,rfl⟩;obtain⟨c,hc,tc,rfl,Tp⟩:=h3.get hx;have Xz:c∈C:=Pq hc;refine⟨_,rfl,tc,rfl,⟨_,SqT.of<|a _ _ Tp⟩,eK (K:=K) (a:=tc) (xs:=c.map V.int)
    (vM p t v L i C j c tc Z) ⟨_,rfl,rfl⟩ ?_ ?_ ?_⟩
   ·rintro k n G3 _ ⟨_,_,rfl⟩;exact SqT.of<|a _ _ Tp
   ·rintro k x n G3 hx ⟨X,rfl,rfl⟩;obtain⟨z,rfl,hz⟩:=cn hx;have aC:=as c Xz z<|Pq hz;have ea:(c.take<|k+1).any (iD t.length i)=((c.take k).any (iD t.length i) || iD t.length i z):=by
     rw[Qb,hz,Yq];simp
    exists _,rfl,_,rfl;cases ga:(c.take k).any (iD t.length i)with
    |true=>exact ar ⟨_,by rw[ea,ga];rfl,rfl⟩
    |false=>
     refine al ⟨_,rfl,_,rfl,_,rfl,z,rfl,_,_,rfl,rfl,_,_,rfl,rfl,(by show(0:Int)<=(t.length:Int)-absI z;simp_all),_,_,rfl,rfl,.inl ⟨rfl,_,rfl,_,_,rfl,rfl,.inl ⟨rfl,?_⟩⟩⟩;have eb:=GA (n:=t.length) (N:=i) (z:=z) aC.2 (by lia);rw[Ts];refine⟨gV<|.int z,?_,rfl⟩;rw[ea,ga,Tb,<-eb,Ts];rfl
   rintro n G3 ⟨X,rfl,rfl⟩;rw[A',PJ<|Po _];have e:(C.take<|j+1).all (λc=>c.any<|iD t.length i)=((C.take j).all (λc=>c.any<|iD t.length i)&&c.any (iD t.length i)):=by
    rw[Qb,hc,Vc];simp
   exists _,rfl,_,rfl;cases ga:(C.take j).all λc=>c.any (iD t.length i)with
   |true=>exact ar ⟨_,rfl,_,_,_,by rw[e,ga];rfl,rfl⟩
   |false=>exact al ⟨_,_,_,by rw[e,ga];rfl,rfl⟩
  rintro n Z ⟨J,M,X,rfl,rfl⟩;rw[<-h3.length,PJ<|Po _];exists _,rfl,.inl ⟨rfl,_,SqL.of g⟩,_,rfl,L,_,_,rfl,rfl,g,(by rw[A',QQ];exact ak<|by grind);refine⟨_,_,_,_,_,rfl,?_,a.upd_new W _⟩;rw[aa,Si,P6,QO];rfl
 rintro n G ⟨Y,x6,J,M,X,rfl,g,a⟩;have eR:(Qt (2^t.length)).map (λm=>V.bl<|bR t C (t.length-t.length) t.length m)=wD t C t.length:=rfl;rw[eR]at g;refine⟨_,rfl,(by show 1<=sizeLine;decide),λl hl=>?_⟩;have N:L≠l:=ag g hl;have kl:Same G (upd G l<|.lst [.ref L]):=ad hl _;have rl:=@aa G l (.lst [.ref L]);have nl:H l=none:=a.free hl;generalize upd G l (.lst [.ref L])=H2 at kl rl;refine⟨_,rfl,_,_,rfl,rfl,_,rfl,_,rfl,(t.length:Int)-1,-1,rfl,by lia,jO (lo:=(t.length:Int)-1)
  (vN p t v l C H)
  ⟨_,_,_,_,_,_,Pt,Pt,[.ref L],rfl,rl,rfl,λd hd=>?_,a.trans kl⟩ ?_ ?_⟩
 ·have:d=0:=by
   simp_all
  subst this;exact⟨L,rfl,N,kl _ _ g⟩
 ·rintro j n O hj ⟨x4,Y,x6,J,M,X,aF,y,ys,rfl,g,g2,B,k3⟩;have a6:j<t.length:=by simp_all
  obtain⟨k,hk⟩:∃k,t.length=k+j+1:=⟨t.length-j-1,by lia⟩;have ek:(t.length:Int)-1-(j:Int)=(k:Int):=by simp_all
  have eL:t.length-j=k+1:=by lia
  rw[eL]at B;obtain⟨a0,g4,g5,g6⟩:=B 0 (by simp_all);rw[F3]at g6;have a7:=p8 k (by lia);have aL:=ym k;rw[ek];have ac:k<t.cps.toList.length:=by
   rw[Qi];show k<t.length
   lia
  have am:=K' ac;have a1:=av _<|Su ac;refine⟨P8 _,λD hD=>?_⟩;have k4:=ad hD<|.lst [];have r4:=cm k4;have N:D≠l:=Q1<|ag g hD;generalize upd O D (.lst [])=H4 at k4 r4;exists _,rfl,_,_,rfl,rfl,⟨by simp,by lia,by simp⟩,((2^k:Nat):Int),by simp,(vb (by simp)<|W5 _),(by lia);refine jg (lo:=0) (n:=2^k) (vO p t v D x6 J M X l k C O)
   ⟨_,_,rfl,r4,k4⟩ ?_ ?_
  ·rintro i n G hi ⟨Y,y,rfl,d1,a⟩;have get:∀H' (m:Nat) i,Same O H'->m<2^(k+1)->i=(m:Int)->∀R,R (.bl<|bR t C (t.length-(k+1)) (k+1) m) H'->Iy K (.ref a0) (.int i) H' R:=λH' m i k' hm hi R r=>
    (fY (k' _ _ g6) (CC hm hi) r)
   refine⟨_,rfl,(fY (a _ _ g) (aE (j:=0) g4) ⟨_,rfl,_,_,rfl,rfl,.inl (by simp),get G (2*i) _ a (by rw[Vz];lia) (by simp) _ ?_⟩)⟩;refine⟨_,rfl,(fY (a _ _ g) (aE (j:=0) g4) ⟨_,rfl,_,_,rfl,rfl,.inl (by simp),_,_,rfl,rfl,get G (2*i+1) _ a (by rw[Vz];lia) (by simp) _ ?_⟩)⟩;have I:=CD (c:=C) ‹_› i;generalize bR t C (t.length-(k+1)) (k+1) (2*i)=u at I;generalize bR t C (t.length-(k+1)) (k+1) (2*i+1)=U at I;refine⟨(by show 2<=sizeLine;decide),λtw a2=>?_⟩;have k5:=ad a2<|.lst [.bl u,.bl U];have r5:=cm k5;have d5:=k5 _ _ d1;generalize upd G tw (.lst [.bl u,.bl U])=Z at k5 r5 d5;refine⟨_,rfl,.inl ⟨rfl,_,SqL.of d5⟩,_,rfl,tw,_,rfl,.inl<|SqL.of r5,rfl,rfl,_,rfl,tw,_,rfl,.inl<|SqL.of r5,rfl,rfl,(by show 2<=sizeLine;decide),λpk a3=>?_⟩;have k6:=ad a3<|.lst [.bl<|g_ (.bl Pn) [.bl u,.bl U],.bl (!g_ (.bl Pr) [.bl u,.bl U])];have r6:=cm k6;have d6:=k6 _ _ d5;change _ at r6;refine⟨_,rfl,_,rfl,.inr<|.inr ⟨t,(k:Int),_,rfl,rfl,QA (ak<|by lia),aE am,.inl ⟨rfl,.inr ⟨_,rfl,(fY r6 (FK _ _ _) ?_)⟩⟩⟩⟩;rw[NT a1];have ew:decide (t.cps.toList[k]=119)=cD t k:=(wC am).symm;rw[ew];have ev:(if(!cD t k)=Pn then V.bl (!g_ (.bl Pr) [.bl u,.bl U])else V.bl (g_ (.bl Pn) [.bl u,.bl U]))=.bl (bR t C (t.length-k) k i):=by
    rw[I,FJ,FJ];lia
   rw[ev];exists D,_,_,rfl,rfl,d6,(by rw[A',QQ];exact ak<|by lia);refine⟨_,_,rfl,?_,(a.trans<|k5.trans k6).upd_new hD _⟩;rw[aa,Si,P6];rfl
  rintro n G ⟨Y,y,rfl,d1,a⟩;have eR:(Qt (2^k)).map (λm=>V.bl<|bR t C (t.length-k) k m)=wD t C k:=rfl;rw[eR]at d1;have l1:=a _ _ g;exists _,rfl,.inl ⟨rfl,_,SqL.of l1⟩,_,rfl,l,ys,0,.ref D,rfl,rfl,l1,Vo _,by simp,(by rw[g2];exact ak (by lia));have e3:t.length-(j+1)=k:=by simp_all
  refine⟨_,_,_,_,_,_,_,_,.ref D::ys,rfl,aa,by rw[P4,g2],e3▸LV.cons (lo:=k+1) (B.keep λb o hb WA=>?_) N ?_ rfl,(k3.trans a).upd_new nl _⟩
  ·rw[af WA];exact a _ _ hb
  rw[af N];exact d1
 rintro n O ⟨x4,Y,x6,J,M,X,aF,y,ys,rfl,g,g2,B,k3⟩;have eN:((t.length:Int)-1 - -1).toNat=t.length:=by simp
 rw[eN]at g2 B;rw[QO]at B;exact⟨_,rfl,q l ys O k3 g g2 B⟩
theorem BE(F:Fun K "_law_winner" "_law_winner" zL f j)(T:LS m)(X:Fe P w K m b 1 "_law_levels" qf):ay P w K m b aV 2 f j ["_law_sentence_here"] qg:=by
 refine F.okB (N:=["_law_sentence_here"]) λI A o s H J Q E M N h=>?_;obtain⟨p,n,t,x,C,rfl,u,v,y,g,c,z,q⟩:=h;exists _,(di<|K1 gg<|aW lO rfl T.int Ur gg);refine⟨(by decide),λL d=>?_⟩;have k:=ad d<|.lst [.str<|PD "spoiler",.str<|PD "wisher"];have r:=cm k;generalize upd H L _=O at k r;refine⟨_,rfl,p,n,t,x,C,rfl,k _ _ u,k _ _ v,y.mono k,g,c,z,λl Y U i G W B=>?_⟩;obtain⟨a,D,e⟩:=B.at (d:=0) (by simp_all) rfl;exact(fY G D<|fY e rfl<|.inr ⟨_,rfl,OD.hand_at (i _ _ r) _<|q _<|k.trans i⟩)
noncomputable abbrev FL:QW:=bS 103
def zN(K:J')(T:C'):Sp:=λv H Q _=>∃(a:C') (n:ab Int),v=[.ref a]/\SqL K H a (n.map V.int)/\n.length<=63/\LN H T/\∀h,Q (.bl Pn) h
theorem EntAt.mono(h:EntAt H G e x)(k:Same H a):EntAt a G e x:=by
 obtain⟨p,l,r,b,c,d,f,g⟩:=h;exact⟨p,l,r,b,k _ _ c,k _ _ d,f.mono<|Same.kept k,g⟩
theorem EntsAt.mono(h:EntsAt H G E xs)(k:Same H b):EntsAt b G E xs:=⟨h.len,λi x e=>by
 obtain⟨r,z,a⟩:=h.at_ i x e;exact⟨r,z,a.mono k⟩⟩
theorem FM(F:Few t c)(h:ft t c=s::r):∃d,aP t c s.d=gV d/\ft t d=r:=by
 cases e:c7 t c with
 |none=>rw[vA e]at h;cases h
 |some a=>
  obtain⟨z,d,H,z⟩:=fH F e;rw[vB F e H]at h;simp_all
inductive RowAt (H:Hp)(L:C')(t:Str)(cs:ab (ab Int))(v:V):Prop
 |mk (r q:C')(xs:ab V)(e:v=.ref r)(h:SentAt H r q t xs cs)(F:Few t cs)(n:q≠L)
theorem RowAt.mono(h:RowAt H L t c v)(k:Same H a):RowAt a L t c v:=by
 obtain⟨r,q,x,e,h,F,n⟩:=h;exact⟨r,q,x,e,h.mono k,F,n⟩
theorem RowAt.but(h:RowAt H L t c v)(l:H L=gV (.lst y)):RowAt (upd H L o) L t c v:=by
 obtain⟨r,q,x,e,h,F,n⟩:=h;exact⟨r,q,x,e,h.but l n,F,n⟩
structure Rows (t:Str)(cs:ab (ab Int))(css:ab (ab<|ab Int))(i:Nat):Prop where
 len:css.length=i+1
 fst:css[0]?=gV cs
 next:∀k c d s,css[k]?=gV c->css[k+1]?=gV d->(ft t cs)[k]?=gV s->aP t c s.d=gV d
 lev:∀(k:Nat) c,css[k]?=gV c->bR t c t.length 0 0=bR t cs t.length 0 0
 last:∃c,css[i]?=gV c/\ft t cs=(ft t cs).take i++ft t c
theorem Rows.snoc(R:Rows t d C i)(l:C[i]?=gV c)(F:Few t c)(m:(ft t d)[i]?=gV s)(f:aP t c s.d=gV D)(n:ft t D=(ft t d).drop (i+1)):Rows t d (C++[D]) (i+1):=by
 have H:=R.len;refine⟨by rw[Pl,H];rfl,by rw[PL<|by simp_all];exact R.fst,λk g o p b a j=>?_,λk g h=>?_,D,by simp_all,by rw[n,Q5]⟩
 ·have:=(N'.mp a).1;rw[Pl,H]at this;have this:k+1<i+1+1:=this;rw[PL<|by simp_all]at b;by_cases e:k=i
  ·simp_all
  rw[PL<|by lia]at a;exact R.next k g o p b a j
 by_cases e:k<i+1
 ·rw[PL<|by simp_all]at h;exact R.lev k g h
 have:=(N'.mp h).1;rw[Pl,H]at this;have this:k<i+1+1:=this;obtain rfl:k=i+1:=by lia
 rw[PV (VC H),H,QO]at h;cases h;exact(FC F.ok (F.after f).ok f).symm.trans<|R.lev i c l
inductive LU (a p L l:C')(t:Str)(cs:ab (ab Int))(hw:Px)(s:ab V)(H:Hp)(i:Nat)(b:St)(h:Hp):Prop
 |mk (v:M' V)(r:ab V)(c:ab (ab<|ab Int))(I:b=[gV<|.ref a,gV<|.ref p,gV<|.str<|aq hw,gV<|.ref L,gV<|.ref l,v,Pt,Pt,Pt,Pt,Pt])(d:h L=gV (.lst r))(e:Paired (RowAt h L t) c r)(f:Rows t cs c i)(g:Same H h)(j:h l=gV (.lst s))(k:StpsAt h (ft t cs) s)
inductive JK (P CL a p L l b:C')(t:Str)(C:ab (ab<|ab Int))(hw:Px)(m:Nat)(es:ab gD)(v:M' V)(H:Hp)(j:Nat)(d:St)(h:Hp):Prop
 |mk (x:C')(r:ab Gf)(e:M' V)(c:ab (ab Int))(i:d=[gV<|.ref a,gV<|.ref p,gV<|.str<|aq hw,gV<|.ref L,gV<|.ref l,v,gV<|.int (m:Int),gV<|.ref b,gV<|.ref x,e,Pt])(I:PlX h P CL x es r t hw)(f:r.length=j)(g:C[m-j]?=gV c) (k:Wn (eJ es t hw r) t hw c) (n:Same H h)
inductive NU (a p L l P x:C')(hw:Px)(m:Nat)(b c:M' V)(H:Hp)(j:Nat)(d:St)(h:Hp):Prop
 |mk (v:M' V)(i:d=[gV<|.ref a,gV<|.ref p,gV<|.str<|aq hw,gV<|.ref L,gV<|.ref l,b,gV<|.int (m:Int),gV<|.ref P,gV<|.ref x,c,v])(I:Same H h)
section
variable {CL:C'}
theorem LW{f8:C'}{d8:PR}(F:Fun K "law" "law" FL f fd)(T:Bl O)(de:Fe P w K O B 2 "_law_sentence" (wQ K))(dk:Fe P w K O B 2 "_law_winner" qg)
  (dn:Fe P w K O B 7 "all_smaller" E_) (dp:Fe P w K O B 6 "smaller_by" je) (dr:Fe P w K O B 10 "settled_paper" mB) (dt:Fe P w K O B 8 "plan_of" s_)
  (dv:KJ P w K O B 1 "Planned" CP f8 d8 ["self","plan"] (xF CP)) (dK:Fe P w K O B 7 "player_back" (tL CP CL)) (dT:Fe P w K O B 1 "_law_lists" qe) (dV:Fe P w K O B 2 "_law_many" tU) (d0:Fe P w K O B 1 "_law_comes" qd)
  (d1:Fe P w K O B 7 "played_by" (xN CP CL)) (d2:Fe P w K O B 16 "losing_play" (tR CP CL T')):ay P w K O B aV 17 f fd ["_law_script"] (zN K T'):=by
 refine F.okB (N:=["_law_script","_law_sentence_here","_law_wins","_law_rows","_law_steps","_law_step","_law_many_here","_law_paper","_law_player","_law_k","_law_others"]) λR8 A b2 s H vs Q E sc hr h=>?_;obtain⟨a,ns,rfl,hS,hl,b3,q⟩:=h;refine⟨_,(ae gg
  (ae gg
  (ae gg
  (ae gg
  (ae (fS 5 (aO<|pv 4) gg)
  (ae gg
  (ae (sT 6<|aR (zU rfl) rfl T.min Yw gg)
  (ae gg
  (ae gg
  (ae gg
  (ae (fS 9 gg gg)
  (ae (fS 10 (aO gg) gg)
  gg)))))))))))),?_⟩
 refine⟨_,rfl,a,ns,6,rfl,hS,hl,(by simp),(by simp),λp t n H1 k1 hd ok c4=>?_⟩;have d3:=ok.len;have Z:Few t n:=⟨ok.ws,by lia,ok.many,λc u=>⟨(uO (n:=0) (ok.cl c u).1).1,λl hl=>⟨(ok.cl c u).pos l hl,(ok.cl c u).2 l hl⟩⟩,c4⟩;have t8:=Z.t8;obtain⟨pp,qa,zs,ep,h1,h2,h3⟩:=kF hd;cases ep;have S1:=Z.at h1 h2 h3;refine⟨_,rfl,p,qa,t,zs,n,rfl,h1,h2,h3,tT Z.ok,Z.ws,t8,λH2 k2=>?_⟩;refine⟨_,rfl,(by show 1<=sizeLine;decide),λL nL=>?_⟩;have k3:=ad nL<|.lst [.ref p];have s3:=cm k3;generalize upd H2 L (.lst [.ref p])=H3 at k3 s3 ⊢;have am:=k2.trans k3;refine⟨_,rfl,p,qa,t,zs,n,rfl,S1.mono am,Z,λl Y H4 k4 nl a3 a4=>?_⟩;have b4:l≠L:=λz=>by lia
 have a5:=k3.trans k4;have G:=k2.trans a5;have b5:qa≠L:=λz=>by
  have:=k2 _ _ h2;lia
 have r0:Rows t n [n] 0:=⟨rfl,rfl,λk c d s h1 h2=>(by grind),λk c h=>(by cases k<;>cases h;rfl),n,rfl,rfl⟩;have sl:=Paired.length a4;have d4:Y.length<=80:=by
  have h1:=tH (t:=t) (bW n) n;have h2:=Z.size;unfold ft at sl;lia
 refine df ?_;dsimp only;refine fC (λas H'=>LU a p L l t n (bR t n t.length 0 0) Y H2 Y.length as H') (λR hR=>?_) ?_
 ·refine⟨_,rfl,l,rfl,⟨_,SqL.of a3⟩,cx (K:=K) (a:=l) (xs:=Y) (LU a p L l t n (bR t n t.length 0 0) Y H2) ⟨Pt,[.ref p],[n],rfl,k4 _ _ s3,.cons ⟨p,qa,zs,rfl,S1.mono G,Z,b5⟩ .nil,r0,a5,a3,a4⟩ ?_ ?_ ?_⟩
  ·rintro i σ H5 _ ⟨_,_,_,_,_,_,_,_,g5,_⟩;exact SqL.of g5
  ·rintro i y σ H5 hy ⟨v5,rs,av,rfl,g1,g2,g3,g4,g5,g6⟩;have hi:=(N'.mp hy).1;obtain⟨s,hs,b,rfl,hb⟩:=dj g6 hy;obtain⟨c,u,Uc⟩:=g3.last;have hh:ft t c=s::(ft t n).drop (i+1):=by
    have e1:(ft t n).drop i=ft t c:=by
     have il:((ft t n).take i).length=i:=by rw[P9];lia
     have:=Qq (afl i) Uc;rw[Yp il]at this;exact this
    rw[<-e1,RL<|by lia];rw[K'<|by lia]at hs;rw[PZ hs]
   have b6:=Paired.length g2;have cl:=g3.len;obtain⟨v,hv⟩:=some_of (xs:=rs) (i:=i) (by lia);obtain⟨c',XC,r,q',xs,rfl,Sr,Fc,nq⟩:=dj g2 hv;rw[u]at XC;cases XC;obtain⟨ds,ha,hd⟩:=FM Fc hh;refine df ?_;refine⟨_,rfl,.inl ⟨rfl,_,SqL.of g1⟩,_,rfl,1,rfl,(fY g1 (gW<|by rw[show rs.length-1=i by lia];exact hv) ⟨_,rfl,r,q',t,xs,c,ds,.ref b,s.d,rfl,Sr,zo hb,E8 s,ha,λr5 l5 us H6 U a6 b7 b8 cc=>⟨L,_,_,rfl,rfl,U _ _ g1,ak (by lia),?_⟩⟩)⟩;have I:=U _ _ g1;have n5:l5≠L:=λz=>by rw[z,g1]at a6;cases a6
   have Fd:=Fc.after ha;exact⟨_,rs++[.ref r5],av++[ds],rfl,aa,cV (Paired.mapP g2 λ_ _ z=>(z.mono U).but I)<|.cons (RowAt.but ⟨r5,l5,us,rfl,Fd.at b7 b8 cc,Fd,n5⟩ I) .nil,g3.snoc u Fc hs ha hd,(g4.trans U).upd_new nL _,(by rw[af b4];exact U _ _ g5),(g6.mono U).but I⟩
  assumption
 rintro σ H5 ⟨v5,rs,av,rfl,g1,g2,g3,g4,g5,g6⟩;have b6:=Paired.length g2;have cl:=g3.len;obtain⟨c,u,_⟩:=g3.last;have cd:=g3.lev _ _ u;obtain⟨v,hv⟩:=some_of (xs:=rs) (i:=Y.length) (by lia);obtain⟨c',XC,r,q',xs,rfl,Sr,Fc,nq⟩:=dj g2 hv;rw[u]at XC;cases XC;refine⟨_,rfl,1,rfl,(fY g1 (gW<|by rw[show rs.length-1=Y.length by lia];exact hv) ⟨r,q',t,xs,c,rfl,Sr.hp,Sr.hq,Sr.hcs,tT Fc.ok,Fc.ws,Fc.t8,λH6 U=>?_⟩)⟩;rw[cd];refine⟨_,rfl,.inl ⟨rfl,_,rfl,L7 rfl ?_⟩⟩;have I:=U _ _ g1;have az:=U _ _ g5;have aC:=Paired.mapP g2 λ_ _ z=>RowAt.mono z U;have a7:=g6.mono U;have aF:=g4.trans U;clear g1 g2 g4 g5 g6 Sr U;exists _,rfl,.ref l,_,rfl,.inl ⟨_,SqL.of az,rfl⟩,_,_,rfl;obtain⟨m,em,m4,ml⟩:∃m:Nat,(if((Y.length:Nat):Int)<4 then((Y.length:Nat):Int)else 4)=(m:Int)/\m<=4/\m<=Y.length:=by
  split
  ·exact⟨Y.length,rfl,by lia,Po _⟩
  exact⟨4,rfl,Po _,by lia⟩
 dsimp only;rw[em];refine df ?_;obtain⟨vm,aL⟩:=some_of (xs:=rs) (i:=m) (by lia);obtain⟨C,Xz,rm,qm,xm,rfl,Sm,Fm,nm⟩:=dj aC aL;have E9:=Lu Fm.ok t8;have d5:=E9.few;have d6:=Fm.many;refine⟨_,rfl,_,rfl,(fY I (aE aL) ⟨rm,qm,t,xm,C,rfl,Sm.hp,Sm.hq,Sm.hcs,Fm.ok,t8,QF d6 (by decide),λpr pl ls H7 k7 _ _ a0 Wz a8=>?_⟩)⟩;have ew:fA t C=bR t n t.length 0 0:=(wO Fm.ok E9.run<|lp E9.last).symm.trans<|g3.lev m C Xz;rw[<-ew];refine⟨_,rfl,(bA a0 rfl ⟨_,rfl,.inl ⟨rfl,_,rfl,L7 rfl ?_⟩⟩)⟩;refine⟨_,rfl,_,rfl,(fY (k7 _ _ I) (aE aL) ⟨_,rfl,rm,qm,pr,pl,t,fA t C,xm,ls,C,sY t C,sZ t C,rfl,k7 _ _ Sm.hp,QF t8 (by decide),k7 _ _ Sm.hq,Sm.hcs.mono k7,QF d6 (by decide),Fm.ok,a0,Wz,a8,QF d5 (by decide),E9.good,E9.run,rj E9.last,λM ys H8 k8 _ hM hP=>λx dx nx ce WA=>?_⟩)⟩;have k9:Same H8 (upd (upd H8 dx<|.own x) x<|.ins CP dx []):=λb o e=>by
  rw[af<|ag e nx,af<|ag e ce];exact e
 have el:=BA t (fA t C) (sY t C)<|sZ t C;have wn:Wn (eJ (gE t (fA t C) (sY t C)<|sZ t C) t (fA t C) []) t (fA t C) C:=Ie Fm.ok E9.run<|lp E9.last;have an:=FE (QF t8 (by decide)) Fm.ok E9.run;refine⟨x,dx,M,gE t (fA t C) (sY t C)<|sZ t C,ys,λ_=>True,rfl,aa,k9 _ _ hM,(xQ hP).mono k9,(by rw[qc];exact j8 _ _),by lia,λe he=>FF t8 (QF d5 (by decide)) Fm.ok E9.run he,λa1 ac kx=>⟨rfl,?_⟩⟩;have a9:Same H8 a1:=λb o e=>kx b o (ag e nx)<|k9 _ _ e;have J:=k7.trans<|k8.trans a9;have cf:=(k1.trans<|k2.trans<|aF.trans J);have ch:=J _ _ I;have co:=J _ _ az;have cp:=Paired.mapP aC λ_ _ z=>RowAt.mono z J;have ct:=a7.mono J;have cu:=S1.mono<|k2.trans<|aF.trans J;generalize gE t (fA t C) (sY t C) (sZ t C)=es at wn an ac;generalize fA t C=D at wn an;clear I az aC a7 Sm a0 Wz a8 hM hP a9 kx k9 k8 k7 E9 ew em;refine df ?_;dsimp only;refine fC (λas H'=>∃x W v9,as=[gV<|.ref a,gV<|.ref p,gV<|.str<|aq D,gV<|.ref L,gV<|.ref l,v5,gV<|.int (m:Int),gV<|.ref pr,gV<|.ref x,v9,Pt]/\PlX H' CP CL x es W t D/\W.length<=4/\Wn (eJ es t D W) t D n/\Same a1 H') (λR hR=>?_) ?_
 ·refine⟨_,rfl,_,_,rfl,rfl,_,rfl,_,rfl,(m:Int)-1,-1,rfl,⟨by lia,by lia,by simp,by simp⟩,jO (lo:=(m:Int)-1) (JK CP CL a p L l pr t av D m es v5 a1) ⟨x,[],Pt,C,rfl,.pln ac rfl,rfl,Xz,wn,Same.refl _⟩ ?_ ?_⟩
  ·rintro j σ a2 hj ⟨x,W,v9,c,rfl,hx,ba,u,X,g⟩;have d7:j<m:=by lia
   rw[show(m:Int)-1-(j:Int)=((m-1-j:Nat):Int) by lia];refine df ?_;obtain⟨vk,bb⟩:=some_of (xs:=rs) (i:=m-1-j) (by lia);obtain⟨ck,bc,rk,qk,xk,rfl,Sk,Fk,_⟩:=dj cp bb;obtain⟨yk,bf⟩:=some_of (xs:=Y) (i:=m-1-j) (by lia);obtain⟨sk,cv,bk,rfl,cz⟩:=dj ct bf;have ha:=g3.next _ ck c sk bc (by rw[show m-1-j+1=m-j by lia];exact u) cv;obtain⟨s',c0,c1⟩:=EQ ha;have rd:=zo<|g _ _ cz;rw[c0]at rd ha;refine⟨_,rfl,_,rfl,(fY (g _ _ ch) (aE bb) ⟨_,rfl,_,rfl,(fY (g _ _ co) (aE bf) ⟨_,rfl,_,rfl,rk,qk,x,es,W,t,xk,ck,c,.ref bk,s',D,rfl,Sk.mono g,λc u=>(Fk.ok c u).1,rd,c1,ha,hx,by lia,λy c2 Yj hL=>?_⟩)⟩)⟩;exact⟨y,j_ (vC t ck D s')::W,_,ck,rfl,.led hL<|XS _ _,by rw[P4,ba],by rw[show m-(j+1)=m-1-j by lia];exact bc,rG Fk.ok ha X,g.trans Yj⟩
  rintro σ a2 ⟨x,W,v9,c,rfl,hx,ba,u,X,g⟩;rw[show m-((m:Int)-1 - -1).toNat=0 by lia,g3.fst]at u;cases u;exact hR _ _ ⟨x,W,v9,rfl,hx,by lia,X,g⟩
 rintro σ a2 ⟨x,W,v9,rfl,hx,r4,X,g⟩;have hA:PAp CP CL a2 x (eJ es t D W) t D:=by
  cases hx with
  |pln h e=>
   subst e;exact .inr ⟨es,h,an,rfl⟩
  |led h ne=>exact .inl ⟨es,W,h,ne,QF r4 (by decide),an,rfl⟩
 have bg:=cu.mono g;have c3:=cf.trans g;have bl:=eO (k2.trans<|aF.trans<|J.trans g) _ _ hd;have eh:decide (V.str (aq D)=V.str (PD "wisher"))=D:=by cases D<;>decide+kernel
 have bm:uB n:=⟨by have:=Z.many;lia,λc u=>by have:=Z.c4 c u;lia⟩;refine⟨_,rfl,_,rfl,p,t,_,D,rfl,bg.hp,t8,λc2 Yj=>⟨g7 t D t.length,rfl,QF (zx _ _ _) t8,λll us c5 am br eb c6=>⟨ll,rfl,⟨_,SqL.of br⟩,cx (K:=K) (a:=ll) (xs:=us) (NU a p L l pr x D m v5 v9 c5) ⟨Pt,rfl,Same.refl _⟩ ?_ ?_ ?_⟩⟩⟩
 ·rintro i σ bt _ ⟨_,_,G⟩;exact SqL.of<|G _ _ br
 ·rintro i y σ bt hy ⟨c8,rfl,G⟩;obtain⟨os,oa,rfl,da,db⟩:=c6 y<|Pq hy;refine df ?_;have N:=Yj.trans<|am.trans G;refine⟨_,rfl,_,rfl,_,rfl,_,rfl,_,rfl,p,x,oa,t,_,D,eJ es t D W,os,rfl,(bg.mono N).hp,t8,hA.mono N,G _ _ da,db,λlf ea bs b0 dc b1 hF=>?_⟩;refine⟨.ref p,lf,t,n,bs,rfl,eO (N.trans b0) _ _ bl,dc,bm,λc u z hz=>by rw[b1];exact(Z.ok c u).2 z hz,λec dd=>?_⟩;rw[show(n.all λc=>c.any<|hit bs)=D from X bs b1 hF];exact⟨_,rfl,.inl ⟨rfl,.inl ⟨rfl,_,rfl,L7 (by rw[eh]) ⟨_,rfl,G.trans<|b0.trans dd⟩⟩⟩⟩
 rintro σ bt ⟨c8,rfl,G⟩;have N:=Yj.trans<|am.trans G;exact⟨_,rfl,_,rfl,_,rfl,p,x,t,n,D,eJ es t D W,rfl,⟨eO N _ _ bl,t8,hA.mono N,bm,λc u z hz=>((Z.ok c u).2 z hz).1⟩,b3.mono<|c3.trans N,X,λH' _ _=>⟨rfl,q H'⟩⟩
end
abbrev fqq(K n s f e):=Fun K n n s f e
theorem all_mk {P:PU}{w:Qc}{K:J'}{h:QB}{mg:Str->M' Pm}{fa:C'}(X:K.In h)(G:h.Ns Qr mg)(hfa:mg "law"=gV (.ref fa)){CS CP CL:C'}{tM:Tok}(D1:DA mg K "is_number" K8 f1 e1)(D3:DA mg K "is_set" Nn f3 e3)(D4:DA mg K "stands_by" yV f4 e4)(D5:DA mg K "some_stands" JA f5 e5)(D6:DA mg K "comes_true" Fi f6 e6)(D7:DA mg K "hand_of" yE f7 e7)(D8:DA mg K "other_hand" wS f8 e8)(D9:DA mg K "literal_by" Eb f9 e9)(D10:DA mg K "variables_of" IV f10 e10)(D11:DA mg K "stands_both_ways" IY f11 e11)(D12:DA mg K "joined" yG f12 e12)(D13:DA mg K "dropped" u5 f13 e13)(D14:DA mg K "is_place" Dn f14 e14)(D16:DA mg K "begins_with" IZ f16 e16)(D18:DA mg K "given_set" Do f18 e18)(D19:DA mg K "hits" sG f19 e19)(D21:DA mg K "hits_each" Dv f21 e21)(D22:DA mg K "hits_set" Dw f22 e22)(D23:DA mg K "join_set" Dq f23 e23)(D24:DA mg K "drop_set" Dp f24 e24)(D25:DA mg K "line_set" I_ f25 e25)(D26:DA mg K "sets_of" yI f26 e26)(D27:DA mg K "end_empty" Nv f27 e27)(D28:DA mg K "whole_sets" Nw f28 e28)(D29:DA mg K "named_by" Jb f29 e29)(D30:DA mg K "renamed" AT f30 e30)(D32:DA mg K "needed_by" Ld f32 e32)(D33:DA mg K "first_places" Lh f33 e33)(D34:DA mg K "shortened_paper" NB f34 e34)(D35:DA mg K "rest_behind" Ec f35 e35)(D36:DA mg K "hitting_set" Jh f36 e36)(D37:DM K CS "__init__" "Searcher.__init__" Et f37 e37)(D38:DM K CS "put" "Searcher.put" Jf f38 e38)(D39:DM K CS "learn" "Searcher.learn" yS f39 e39)(D40:DM K CS "learn_join" "Searcher.learn_join" D0 f40 e40)(D41:DM K CS "fill_in" "Searcher.fill_in" Ed f41 e41)(D42:DM K CS "turn_back" "Searcher.turn_back" Eh f42 e42)(D43:DM K CS "look" "Searcher.look" Em f43 e43)(D44:DM K CS "go" "Searcher.go" NE f44 e44)(D45:DM K CS "paper" "Searcher.paper" yX f45 e45)(D46:DA mg K "settled_paper" vo f46 e46)(D47:DA mg K "turned_about" Jk f47 e47)(D48:DA mg K "rule_of" Jl f48 e48)(D49:DA mg K "plan_of" Ex f49 e49)(D50:DA mg K "all_stand" Jy f50 e50)(D51:DM K CP "__init__" "Planned.__init__" Jz f51 e51)(D52:DM K CP "answer" "Planned.answer" zq f52 e52)(D53:DA mg K "clauses_behind" zh f53 e53)(D54:DA mg K "is_of" Jo f54 e54)(D55:DA mg K "is_unit" y_ f55 e55)(D56:DA mg K "holds_all" EA f56 e56)(D57:DA mg K "has_other_way" zb f57 e57)(D58:DA mg K "is_blocked" Jp f58 e58)(D59:DA mg K "behind_drop" EE f59 e59)(D60:DA mg K "behind_unit" EF f60 e60)(D61:DA mg K "behind_within" EH f61 e61)(D62:DA mg K "behind_pure" EG f62 e62)(D63:DA mg K "behind_blocked" NK f63 e63)(D64:DA mg K "clauses_after" EM f64 e64)(D65:DA mg K "smaller_by" xu f65 e65)(D66:DA mg K "next_short" zj f66 e66)(D67:DA mg K "holders_of" ES f67 e67)(D68:DA mg K "next_pure" xy f68 e68)(D69:DA mg K "fewest_holders" Lz f69 e69)(D70:DA mg K "next_within" EZ f70 e70)(D71:DA mg K "next_blocked" E4 f71 e71)(D72:DA mg K "next_step" E7 f72 e72)(D73:DA mg K "all_smaller" NM f73 e73)(D74:DA mg K "own_values" Jx f74 e74)(D75:DA mg K "led_value" JC f75 e75)(D76:DM K CL "__init__" "LedBack.__init__" JB f76 e76)(D77:DM K CL "answers" "LedBack.answers" Fq f77 e77)(D78:DM K CL "answer" "LedBack.answer" Fs f78 e78)(D79:DA mg K "player_back" Fo f79 e79)(D80:DA mg K "played_on" Pc f80 e80)(D81:DA mg K "played_by" zG f81 e81)(D82:DA mg K "first_loss" zC f82 e82){afT:C'} {akz:Obj} (a83:QR K Qr "losing_play"=gV (gV (.ref f83)))(FL83:FunL K "losing_play" "losing_play" tP f83 e83 afT)(k83:RF K (.ref f83)=Pn)(lc83:K.lookup afT=gV akz)(pc83:IR akz 265)(nc83:afT≠265)(D84:DA mg K "_law_cell_at" Dd f84 e84)(D85:DA mg K "_law_mix" Nm f85 e85)(D86:DA mg K "_law_drawn" De f86 e86)(D87:DA mg K "_law_sentence" IU f87 e87)(D88:DA mg K "_law_own" NS f88 e88)(D89:DA mg K "_law_comes" zI f89 e89)(D90:DA mg K "_law_lists" zJ f90 e90)(D91:DA mg K "_law_many" FH f91 e91)(D92:DA mg K "_law_levels" zK f92 e92)(D93:DA mg K "_law_winner" zL f93 e93)(D94:DA mg K "law" FL f94 e94)(z0:QR K Qr "len"=gV Pt)(z1:QR K Qr "range"=gV Pt)(z2:QR K Qr "tuple"=gV Pt)(z3:QR K Qr "sorted"=gV Pt)(z4:QR K Qr "isinstance"=gV Pt)(z5:QR K Qr "int"=gV Pt)(z6:QR K Qr "bool"=gV Pt)(z7:QR K Qr "list"=gV Pt)(z8:QR K Qr "abs"=gV Pt)(z9:QR K Qr "all"=gV Pt)(z10:QR K Qr "zip"=gV Pt)(z11:QR K Qr "set"=gV Pt)(z12:QR K Qr "any"=gV Pt)(z13:QR K Qr "max"=gV Pt)(z14:QR K Qr "enumerate"=gV Pt)(z15:QR K Qr "dict"=gV Pt)(z16:QR K Qr "min"=gV Pt){tW tS:Tok} (zW:QR K Qr "WISHER"=gV (gV (.str (PD "wisher") tW)))(zS:QR K Qr "SPOILER"=gV (gV (.str (PD "spoiler") tS)))(CSy:QR K Qr "Searcher"=gV (gV (.ref CS)))(zM:QR K Qr "MOST_LOOKS"=gV (gV (.int 10000 tM)))(c1:Tc K CS u3=Pn)(c2:Tx K CS=Pn)(c3:Uw K CS=Pn)(c4:Qy K (.ref CS) "__setattr__"=gV (gV (.builtin "object.__setattr__")))(n1:Qy K (.ref CS) "sentence"=gV Pt)(n2:Qy K (.ref CS) "lines"=gV Pt)(n3:Qy K (.ref CS) "places"=gV Pt)(n4:Qy K (.ref CS) "begun"=gV Pt)(n5:Qy K (.ref CS) "firsts"=gV Pt)(n6:Qy K (.ref CS) "rests"=gV Pt)(n7:Qy K (.ref CS) "winner"=gV Pt)(an':U_ K CS=Pn)(aoa:RF K (.ref CS)=Pn)(CPy:QR K Qr "Planned"=gV (gV (.ref CP)))(p1:Tc K CP u3=Pn)(p2:Tx K CP=Pn)(p3:Uw K CP=Pn)(p4:Qy K (.ref CP) "__setattr__"=gV (gV (.builtin "object.__setattr__")))(p5:Qy K (.ref CP) "entries"=gV Pt)(aob:U_ K CP=Pn)(aoc:RF K (.ref CP)=Pn)(zZ:QR K Qr "zip"=gV Pt)(CLy:QR K Qr "LedBack"=gV (gV (.ref CL)))(p6:Qy K (.ref CP) "__class__"=gV (gV (.builtin "object.__class__")))(p7:Xf K (.builtin "object.__class__") "__get__"=gV (gV (.builtin "getset_descriptor.__get__")))(p8:Yk K (.builtin "object.__class__")=gV Pn)(p9:V' K CP (.type "object")=gV Pn)(pk:R_ K (.ref CP) (.ref CL)=gV Pr)(e1:Tc K CL u3=Pn)(e2:Tx K CL=Pn)(e3:Uw K CL=Pn)(e4:Qy K (.ref CL) "__setattr__"=gV (gV (.builtin "object.__setattr__")))(e5:Qy K (.ref CL) "variables"=gV Pt)(e6:Qy K (.ref CL) "innermost"=gV Pt)(e7:Qy K (.ref CL) "layers"=gV Pt)(aoe:U_ K CL=Pn)(aof:RF K (.ref CL)=Pn)(e8:Qy K (.ref CL) "__class__"=gV (gV (.builtin "object.__class__")))(e9:V' K CL (.type "object")=gV Pn)(pl:R_ K (.ref CL) (.ref CL)=gV Pn):∃ fd:PR,(∀ (s:PF) (v:Pm),lA s fd ⟨[v],[]⟩ [("_law_script",v)])/\(∀ T∈([265]:ab C'),∃ c,T3 h c T)/\∀ base:QB,K.In base->base.Ns Qr mg->BM mg base->ay P w K mg base aV 17 fa fd ["_law_script"] (zN K 265):=by
 have e:=hfa.symm.trans D94.a;cases e;have TB:Bl mg:=⟨QL X G z0,QL X G z1,QL X G z2,QL X G z3,QL X G z4,QL X G z5,QL X G z6,QL X G z7,QL X G z8,QL X G z9,QL X G z10,QL X G z11,QL X G z12,QL X G z13,QL X G z14,QL X G z15,QL X G z16,⟨_,Ta X G zW,⟨_,rfl⟩⟩,⟨_,Ta X G zS,⟨_,rfl⟩⟩⟩;have TNn:Bf mg:=⟨TB.abs,TB.len,TB.enumerate,TB.min,TB.list,TB.range,TB.g_WISHER,TB.g_SPOILER⟩;have TVl:LS mg:=⟨TB.len,TB.range,TB.abs,TB.int⟩;have ac5:Cls K CS:=⟨c1,c2,c3,c4⟩;have TSr:qr K mg CS:=⟨TB.len,TB.list,ac5,n1,n2,n3,n4,n5,n6,n7,TB.g_WISHER,TB.g_SPOILER⟩;have TSe:NG mg:=⟨⟨_,Ta X G zM,⟨_,rfl⟩⟩⟩;have aiL:Cls K CP:=⟨p1,p2,p3,p4⟩;have TPy:LH K mg CP:=⟨TB.tuple,TB.dict,aiL,p5⟩;have agY:Cls K CL:=⟨e1,e2,e3,e4⟩;have TLd:NP K mg CP CL:=⟨TB.dict,TB.isinstance,TB.tuple,aiL,agY,e5,e6,e7,⟨_,Ta X G CLy,rfl⟩,p6,p7,p8,p9,pk,e8,e9,pl⟩;have TLA:LL K mg CL:=⟨QL X G zZ,TB.range,agY,e5,e6,e7⟩;obtain⟨_,_,kV,dc,pm,an,cd,ct,_,rfl,_,_⟩:=D94.F.ex;refine⟨SO "law" "law" (fz FL) (cP FL) (aA FL) .none kV dc pm an cd ct,λs v=>.of_eq rfl,TF.mpr ⟨⟨afT,qM X lc83 pc83 nc83⟩,Wy _⟩,λbase hKb _ hBM=>?_⟩;have L83:rZ mg base afT 265:=⟨qM hKb lc83 pc83 nc83,hBM⟩;have F83:=FL83.toFun k83;have ge:=@L2.DA.fe P w base;have gf:=@L2.DA.fn P w base;have gm:=@L2.DM.mt P w base;have G1:=ge D1 (K9 D1.F TB);have G2:=ge D1 (HG D1.F TB);have G3:=ge D3 (K_ D3.F TB G1);have G4:=ge D4 (A4 D4.F TB);have G5:=ge D5 (HW D5.F TB G4);have G6:=gf D6 (Fj D6.F TB G5);have G7:=ge D7 (AN D7.F TB);have G8:=ge D8 (Dm D8.F TB);have G9:=ge D9 (Ee D9.F);have G10:=ge D10 (G0 D10.F TB G7);have G11:=ge D11 (Hd D11.F TB);have G12:=ge D12 (AO D12.F TB);have G13:=ge D13 (wU D13.F TB G8 G10);have G14:=ge D14 (Dr D14.F G1);have G15:=ge D14 (A8 D14.F G2);have G16:=ge D16 (He D16.F TB);have G17:=ge D16 (Lx D16.F TB);have G18:=ge D18 (Ds D18.F TB G14);have G19:=ge D19 (Dz D19.F);have G20:=ge D19 (El D19.F);have G21:=ge D21 (DB D21.F TB G19);have G22:=ge D22 (DC D22.F TB G3 G21);have G23:=ge D23 (Du D23.F TB G1 G14 G8 G10 G11 G12);have G24:=ge D24 (Dt D24.F TB G14 G13);have G25:=ge D25 (Hk D25.F TB G16 G18 G22 G23 G24);have G26:=ge D26 (AQ D26.F TB G25);have G27:=ge D27 (La D27.F);have G28:=ge D28 (Lb D28.F G26 G27);have G29:=ge D29 (Hm D29.F);have G30:=ge D30 (Ho D30.F);have G31:=ge D30 (Hq D30.F);have G32:=ge D32 (Lf D32.F TB G29);have G33:=ge D33 (Li D33.F TB);have G34:=ge D34 (Lk D34.F TB G28 G33 G30 G32 G31);have G35:=ge D35 (Ef D35.F);have G36:=ge D36 (Hx D36.F TB G20 G4 G7);have G37:KJ P w K mg base _ "Searcher" CS _ _ _ _:=⟨Ew D37.F TSr G13,D37.F.bs,⟨an',D37.a,D37.i,aoa⟩,Ta X G CSy⟩;have G38:=gm D38 ac5 (Hw D38.F TSr);have G39:=gm D39 ac5 (A1 D39.F TSr G13 G38);have G40:=gm D40 ac5 (Ea D40.F TSr G12 G39);have G41:=gm D41 ac5 (Eg D41.F TSr G9 G35);have G42:=gm D42 ac5 (Ej D42.F TSr G41 G40);have G43:=gm D43 ac5 (Er D43.F TSr G36 G39 G42 G41);have G44:=gm D44 ac5 (Ls D44.F TSr G43);have G45:=gm D45 ac5 (A6 D45.F TSr G34);have G46:=ge D46 (xn D46.F TSe G37 G44 G45);have G47:=ge D47 (HA D47.F TB);have G48:=ge D48 (HB D48.F TB G47);have G49:=ge D49 (Ey D49.F TB G28 G10 G48);have G50:=ge D50 (Ff D50.F G4);have G51:KJ P w K mg base _ "Planned" CP _ _ _ _:=⟨HV D51.F TPy,D51.F.bs,⟨aob,D51.a,D51.i,aoc⟩,Ta X G CPy⟩;have G52:=gm D52 aiL (Bp D52.F TPy G50);have G53:=ge D53 (Bc D53.F TB);have G54:=ge D54 (HH D54.F TB G7);have G55:=ge D55 (A9 D55.F TB G54);have G56:=ge D56 (ED D56.F);have G57:=ge D57 (A_ D57.F TB);have G58:=ge D58 (HI D58.F G57);have G59:=ge D59 (EI D59.F TB G15 G13);have G60:=ge D60 (EJ D60.F TB G15 G55 G53);have G61:=ge D61 (EK D61.F TB G15 G56);have G62:=ge D62 (EL D62.F TB G2 G54 G53);have G63:=ge D63 (Ly D63.F TB G15 G2 G54 G58);have G64:=ge D64 (EN D64.F G17 G59 G60 G62 G61 G63);have G65:=ge D65 (Bi D65.F G64);have G66:=ge D66 (Bg D66.F TNn G55 G54);have G67:=ge D67 (HP D67.F TNn);have G68:=ge D68 (EX D68.F);have G69:=ge D69 (LA D69.F TNn);have G70:=ge D70 (E3 D70.F TNn G69 G56);have G71:=ge D71 (HS D71.F TNn G54 G58);have G72:=ge D72 (Fa D72.F G66 G67 G68 G70 G71);have G73:=ge D73 (LC D73.F G72 G65);have G74:=ge D74 (HU D74.F TB G13 G54);have G75:=ge D75 (H_ D75.F G5);have G76:KJ P w K mg base _ "LedBack" CL _ _ _ _:=⟨HZ D76.F TLd G10 G74,D76.F.bs,⟨aoe,D76.a,D76.i,aof⟩,Ta X G CLy⟩;have G77:=gm D77 agY (Ft D77.F TLA G52 G75);have G78:=gm D78 agY (Fu D78.F TLA G52 G77);have G79:=ge D79 (Fp D79.F G65 G76);have G80:=ge D80 (NR D80.F TB G7 G52 G78);have G81:=ge D81 (Bu D81.F TB G8 G10 G80);have G82:=gf D82 (Ia D82.F TB G80 D82.F.bs D82.F.kp D82.a);have G83:Fe P w K mg base _ "losing_play" _:=⟨_,_,_,Fx FL83 L83 TB G6 G82,F83.bs,k83,Ta X G a83⟩;have G84:=ge D84 (GX D84.F TB);have G85:=ge D85 (K7 D85.F);have G86:=ge D86 (Dk D86.F TB);have G87:=ge D87 (GZ D87.F TB G84 G85 G86);have G88:=ge D88 (LQ D88.F TB);have G89:=ge D89 (BB D89.F TB);have G90:=ge D90 (BC D90.F TB);have G91:=ge D91 (FI D91.F TB G88);have G92:=ge D92 (BD D92.F TVl);have G93:=ge D93 (BE D93.F TVl G92);exact LW D94.F TB G87 G93 G73 G65 G46 G49 G51 G79 G90 G91 G89 G81 G83
theorem walk {l:XW}{q:PU}{loose:ab Str}{X:(Str->M' Pm)->QB->Prop}{Y:Qc->QB->Prop}{d:DefRec}{K:l'->J'}(n:l.most=gV 63)(H:d.params.defaults=[])
  (j:∀ (w:Qc) (h:QB),Y w h->(K w.params).In h/\∀ T∈([265]:ab C'),h.get? T=gV (UE #[])) (e:∀ P:l',(([265]:ab C').all λT=>((K P).lookup T).isNone)=Pn)
  (F:∀ (w:Qc) (m:Str->M' Pm) (g:C') (h:QB),(K w.params).In h->h.Ns Qr m->m d.name=gV (.ref g)->
   ∃ i:PR,(∀ (s:PF) (u:Pm),lA s i ⟨[u],[]⟩ [("_law_script",u)])/\(∀ T∈([265]:ab C'),∃ c,T3 h c T)/\∀ b:QB,(K w.params).In b->b.Ns Qr m->BM m b->ay l.prog w (K w.params) m b aV 17 g i ["_law_script"] (zN (K w.params) 265)):
  va q loose X Y l.row.toRowW d [] (λf v=>Zx f v):=
 L2.walk_ofT (n:=63) (k:=17) (x:="_law_script") (B:=λw=>zN (K w.params) 265) [265] n (by decide) H ⟨rfl,by decide,by decide⟩ j e F λz z a N k o p=>⟨a,N,rfl,p,k,TabAt.start (o 265 P3),λz=>rfl⟩
end K92
open PySem PySem.W PySem.Calls PyProof.Rows
set_option maxRecDepth 100000
set_option maxHeartbeats 0
local macro_rules|`(tactic|o_head $H)=>`(tactic|refine HD.head (q:=K92.vQ) (loose:=[]) (lv:=[]) $H (N:=10286) (HD.left (by kernel_rfl) (fun s=>by kernel_rfl) (by kernel_rfl) (by kernel_rfl) (fun w=>by kernel_rfl) K92.seenA K92.seenB K92.seenE K92.seenC K92.seenD K92.seenY) (by rfl) (by rfl) (by rfl) (by rfl) (by assumption) (by decide+kernel) ⟨rfl,rfl,rfl,rfl,rfl,by decide+kernel⟩ ?hw ?hc)
theorem PySem.Challenge.cw_oathduel_k92_whole_smaller_to_the_end_holds : PySem.Challenge.rw_oathduel_k92_whole_smaller_to_the_end.Holds := by
 w_on
 refine holds_law K92.said λsaid=>?_
 o_head (kmHook K92.zpre.heap_1 K92.zad (λ_=>by kernel_rfl) [265])
 (case hw=>w_witness2)
 k_fill
 refine K92.walk (l:=RJ) rfl rfl (λw h Y=>⟨PySem.W.km_in_of Y,PySem.W.km_tabs_of Y⟩) (λP=>by kernel_rfl) ?F
 case F=>
  intro w mg fa h KX G hmg;apply K92.all_mk KX G hmg
  (case CSy|zM|CPy|zZ|CLy=>k_is)
  (case pk|pl=>kit_is)
  (case a83=>k_is);(case FL83=>refine' L2.funL_mk ?l ?c;case l|c=>k_is);(case lc83=>k_is);(case pc83=>exact⟨_,_,_,_,_,_,_,_,rfl,rfl,rfl,rfl,rfl,rfl,rfl,rfl⟩);(case nc83=>show (_:Nat)≠_;decide)
  all_goals first|k_is|(refine' L2.DA.of KX G ?a (L2.fun_mk ?l ?c ?k);case a|l|c|k=>k_is)|(refine' L2.DM.of ?a ?i (L2.fun_mk ?l ?c ?k);case a|i|l|c|k=>k_is)
