import PyProof.Rows.All
import Wide.All
import OpenK.KSplit
import OpenK.KNot
import OpenK.KApp
import KE.KEqSeq
import KE.KDictSum
import KE.KSortTup
import KE.KDictOf
import KE.KSortKey
import KE.BitLaws
import KE.KLam
import KE.KMinKey
import KE.KNestM
import KE.KStateDown
import KE.KIsAll
import KE.RegKIsAll
import KE.KUnpack
import KE.KDictList
import KE.KDictLaws
import KE.KNest
import Wide.FinOn
import Lean
import PyProof.EqAt
import PyProof.EqKinds
import PyProof.TupleCall
import PySem.Challenge.RW_oathduel_k75_whole_forms_as_sentences
set_option compiler.extract_closed false
set_option genSizeOf false
set_option genInjectivity false
set_option bootstrap.genMatcherCode false
set_option Elab.async false
set_option linter.all false
set_option maxRecDepth 100000
set_option maxHeartbeats 4000000
open Array renaming length_toList->OL,getElem?_toList->Qe,perm_iff_toList_perm->RH,toList_append->Tf,mk->U0,toList_setIfInBounds->VF,empty_append->VG,toList_push->V1,toList_reverse->XB,getElem_toList->XC,forIn_toList->Yy,append_assoc->Yz,toList->Y',size_zip->aaD,size_map->F',ext'->adq
open Array.Perm renaming refl->Z7
open Bool renaming true->NU,false->NZ,false_ne_true->Oa,and_eq_true->Pf,eq_iff_iff->PV,and_false->Qx,or_eq_true->QL,false_eq_true->QN,or_false->Rx,false_or->R6,and_true->Tt,rec->UZ,and_eq_true_iff->XA,true_or->Y9,eq_false_iff->Y_,false_and->aaC,true_and->ZQ,or_true->ab7,not_not->ab8
open Decidable renaming byContradiction->aaR
open False renaming elim->P6
open ForInStep renaming yield->TJ,done->G'
open Int renaming toNat_natCast->OP,emod_lt_of_pos->Po,emod_nonneg->PK,lt_trans->Rw,natCast_nonneg->TV,le_refl->T5,fdiv_eq_ediv_of_nonneg->VE,neg_neg->VZ,lt_of_not_ge->Ww,zero_add->WX,add_comm->WY,lt_or_eq_of_le->Yx,lt_trichotomy->Y7,le_trans->Y8,not_lt->rk,le_of_lt->hY,not_lt_of_ge->CW,lt_of_lt_of_le->Fw
open Int.ofNat renaming inj->Q1
open List renaming getD_eq_getElem?_getD->A',length_map->J',getElem?_eq_getElem->K',getElem?_eq_some_iff->NT,length_append->NX,mem_of_getElem?->N7,mem_singleton->N9,contains_iff_mem->N',take_of_length_le->Od,getElem?_map->Og,size_toArray->Ol,mem_cons_self->Om,mem_filter->Oq,length_cons->Os,mem_cons_of_mem->Ov,getElem?_append_right->Ow,map_append->Oy,mem_cons->Oz,getElem?_append_left->OA,mem_append->OB,length_take->OC,length_singleton->OG,map_cons->OH,take_add_one->OM,any_eq_true->OR,mem_map->OT,append_assoc->OX,all_eq_true->O0,range->O1,mem_append_right->O2,getElem?_eq_none->O3,map_map->O_,append_nil->Pd,length_filter_le->Ph,length_range->Pm,getElem?_take_of_lt->Pn,pairwise_map->Py,length_dropLast->PD,filter_cons_of_pos->PH,filter_cons_of_neg->PJ,forall_mem_cons->PP,not_mem_nil->PQ,nodup_cons->PU,take_append_drop->PZ,length_eq_zero_iff->P2,length->P3,mem_map_of_mem->P4,length_drop->P7,pairwise_append->P_,filter_append->Qc,any_cons->Qd,filter_eq_self->Qg,mem_range->Qh,nodup_append->Qi,mem_iff_getElem?->Qr,mem_append_left->Qw,exists_cons_of_length_eq_add_one->QA,drop_eq_getElem_cons->QB,take_append_of_le_length->QG,replicate->QH,mem_of_mem_take->QQ,foldl_append->QX,filter_eq_nil_iff->QY,forall_mem_nil->QZ,filterMap_cons->Q0,range_succ->Q3,foldl_cons->Q4,pairwise_iff_getElem->Q6,lookup_cons->Ra,getElem_mem->Rb,filter_cons->Rc,contains_cons->Re,all_cons->Ri,find?_cons->Rp,getElem_of_mem->Rq,find?_cons_of_pos->Ru,drop_of_length_le->Rv,pairwise_cons->RG,mem_of_find?_eq_some->RL,lookup->RY,ext_getElem?->RZ,all_map->R0,length_filterMap_le->R5,map_congr_left->R8,find?_cons_of_neg->Sq,Pairwise->Sv,take_sublist->SE,length_filter_lt_length_iff_exists->SG,mem_of_mem_drop->SO,map_nil->S6,any_nil->S7,any_map->S8,all_nil->S9,getLast?_eq_getElem?->Ta,mergeSort_perm->Tb,length_pos_iff->Tc,getElem?_range->Td,filter_sublist->Te,of_mem_zip->Tx,nil_append->Tz,length_nil->TC,all_append->TF,mem_filterMap->TR,find?_eq_none->TU,pairwise_mergeSort->T3,Perm->T4,take_take->Uj,take_succ_eq_append_getElem->Uk,nodup_nil->Ul,getElem?_dropLast->Um,findIdx_lt_length_of_exists->Uo,find?_append->Up,filter_congr->Uq,all_eq_false->Ur,pairwise_reverse->UB,eq_nil_or_concat->UC,dropLast_eq_take->UD,concat_eq_append->UE,mem_reverse->UP,reverse_reverse->UW,mem_of_getLast?->UX,eq_nil_of_length_eq_zero->UY,dropLast_concat_getLast->U9,map_id'->Vm,take_zero->VB,nodup_iff_pairwise_ne->VC,drop_drop->VD,rel_of_pairwise_cons->VI,getElem?_zip_eq_some->VJ,getElem?_eq_none_iff->VL,reverse_perm->VW,getElem_take->VX,drop_sublist->VY,idxOf_lt_length_iff->Wc,getElem?_replicate->Wv,not_of_lt_findIdx->WT,length_pos_of_mem->WU,getElem_cons_drop->WV,getElem?_set_self->WW,take_left'->W2,find?_some->W3,filterMap_append->W',getElem_toArray->Xv,getElem?_set_ne->Xw,getElem?_of_mem->Xx,findIdx_getElem->Xy,drop_left->Xz,take_succ_cons->XT,replicate_succ->XU,zip_cons_cons->Yr,ne_nil_of_mem->Ys,map_inj_right->Yt,lookup_append->Yu,getElem_idxOf->Yv,reverse_cons->Y4,idxOf_append->Y5,any_eq_false->Y6,mem_flatten->Zy,map_snd_zip->Zz,map_fst_zip->ZA,isEmpty_iff->ZC,getElem_map->ZD,getElem_inj->ZE,cons_ne_nil->ZF,append_inj'->ZG,length_zip->Z1,idxOf_cons->Z2,filter_map->Z3,drop_left'->Z4,countP_map->Z5,any_append->Z6,take_left->wd,filterMap->vu,sum_cons->abm,map_drop->Z8,reverse->vb,map_id->XZ,map->sy,take->UF
open List.Pairwise renaming nil->SF,filter->SQ,map->Us,sublist->V3
open List.Perm renaming cons_inv->Yw,eq_of_pairwise->ZR,swap->PN
open List.cons renaming inj->ud
open Nat renaming le_refl->N1,zero_le->Ou,ne_of_lt->OF,le_of_lt->OQ,le_trans->O6,lt_of_lt_of_le->Pb,sub_self->PY,lt_succ_of_lt->QF,zero_add->QK,lt_irrefl->QR,lt_of_le_of_lt->Q_,pow_le_pow_right->RW,ne_of_gt->RX,lt_succ_self->Sg,add_sub_assoc->SD,succ_le_succ->SZ,le_succ->TZ,le_of_eq->Ui,le_of_ble_eq_true->UA,min_le_right->UN,le_add_right->UO,not_lt_zero->U8,eq_or_lt_of_le->Vz,add_sub_cancel->VA,lt_trichotomy->VU,add_assoc->Wb,add_sub_cancel_left->Wu,lt_trans->WO,lt_or_ge->WQ,eq_zero_of_not_pos->WR,min_eq_left->W1,ble->XI,add_le_add_left->XS,one_le_two_pow->Yq,pow_succ->Y2,le_of_succ_le->Y3,succ_ne_self->Zv,min_eq_right->Zw,le_of_not_lt->Zx,le_add_left->Z0,pow_succ'->u3,min_self->ab3,add_zero->vl,sub_le->hJ,add_right_comm->rb,le_succ_of_le->q7,le_of_lt_succ->E9,lt_succ_of_le->EX
open Nat.succ renaming inj->S2
open Ne renaming symm->Pw
open Option renaming some->gV,none->N4,map_eq_some_iff->P9,getD_some->Sf,isSome_iff_exists->Tr,map_some->Tw,isSome_map->VT,rec->WN,isSome_some->Yp,getD_none->Zu
open Option.some renaming inj->Ot
open Or renaming inr->Wa,inl->Zt
open Prod renaming ext->Uh,snd->Xu,fst->mr,rec->th
open PyProof renaming noPylong_small->WH
open PyProof.Rows renaming wpS_bind->OO,wpS_pure->O8,arrOf->O9,pendingOf->Pc,Keyed->Pu,SortSt->PB,callWith_type1->PM,boot_tuple->P1,envOfC->P5,seqObj->Ql,wpS_forRange->QW,slot_tuple_getitem->Q5,failedOf->Q7,boot_dict->Rt,boot_any->RJ,IntsAre->R7,wpS_mono->Se,boot_list->Tg,listUpdate_at->Tp,callWith_kw->Tq,kws_cons->Ux,boot_all->Uy,boot_abs->Uz,kws_nil->UV,get?_update_seq->U6,boot_isinstance->U7,AllBare->Vl,wpS_get->VS,subscriptTail->V',elem'->Wt,wpS_modify->WI,subscriptTail_builtinR->WJ,setPending->WK,mem_zip_self->WL,bitAnd_m1->WM,boot_min->W8,boot_max->W9,boot_int->W_,wpS_lift->Xq,seqEpoch_at->Xr,pairsOf_toList->Xs,getElem?_mirror_all->XO,entry_tuple_getitem->XR,call_abs_int->X3,size_push'->Yl,boot_range->Ym,args_tuple_getitem->Yn,Subscript_->Yo,boot_sorted->YA,mergeAt'->Y0,listItems_at->Y1,join_plain_closes->Zr,callWith_builtin1->Zs,getElem?_bubble->ZY,entry_list_sort->ZZ,pairsOf->Z_,minRun'->Z',slot_list_sort->y4,slicePart_none->y3,SortKind->mu,tupleItemsOf_->va,numOf->kG,setArr->kf,mirror->kS,boot_bool->ab1,KskOut->kH,boot_sum->Wd,tail_any->Ya,IsTup->n'
open PyProof.Rows.IntsAre renaming length->wh
open PyProof.Rows.IsTup renaming new->ot
open PyProof.Rows.SortSt renaming mk'->Vy
open PySem renaming Addr->C',Value->M',wpAny_bind->N0,Shared->N8,FuncData->Oc,PyData->Oe,Program->Of,wpAny_pure->Oj,World->OE,model->OI,starEach->ON,mainGlobals->OS,Heap->O5,Stmt->Pk,Expr->Pl,mem_of_lookup->Pq,Around->Pr,cellsFrom->Pz,compareOp->PL,wpAny_truthy_bool->PR,sizeLine_eq->P0,wpAny_holding->P',wpAny_Call_Name_kw->Qa,wpAny_mono->Qq,eval->Qs,wpAny_tryCatch->Qu,wpAny_newObj_type->QD,sliceBounds->QP,sysModules->QT,argBest->QU,tupleKind_room_in1->Q8,plainId_quiet->Rf,codeAny_builtin->Rk,backTo->Rl,boot_len->RB,binaryOp->RC,wpAny_passesOwn->RM,foldedSetIterable->RS,cLine->RT,wpAny_rule->R3,assignEach->R4,wpAny_seqItems->Sa,wpAny_letGo->Sl,Scope->Sm,wpAny_updateSeq->Sr,behindInMarks->Su,wpAny_pyIter_list->Sy,relabel->Sz,OsState->SC,Arguments->SY,attributeBase->Ti,intItems->T6,holding->T7,codeAny_mono->T9,call_meetsIn->T_,bootBuiltins->Ua,tupleKind->UJ,builtinsNs->UK,Thread->UM,wpAny_newList->UR,keywordEach->UU,wpAny_execs_nil->U4,letOwnedTupleGo->U5,wpAny_typeOf->Vg,getItem->Vh,swapsWith->Vn,call_meets->Vq,NameKind->Vv,valueAt->VN,atKey->VO,wpAny_getItem_list_slice->V6,wpAny_comprehension_free->V7,rawInt->V8,pyNext->V9,wpAny_call_entry->Wh,wpAny_callSpecial?_slot->Wi,seqItems?->Wj,noFill_tuple_add->Wk,getMethod->Wl,wpAny_pyNext_range_end->Wy,wpAny_pyIter_rangeiter->Wz,wpAny_notOrdered_dict->W5,wpAny_isTrue_Compare1->W6,wpAny_loadName_local->Xg,subscripted->Xh,newFunctionEnv->Xi,dictSetDefault->Xj,backToKw->Xk,IsRangeIter->Xm,standAt->XE,callerA->XF,wpAny_loadName_cell->XJ,kt_meets_setdefault->XM,wpAny_standAt->X0,seq_tuple_add->X1,wpAny_pyIter_range->X6,wpAny_call->X7,merged->X8,getattributeRaised->X9,denote->X_,call->X',IsPart->Yi,wpAny_sequenceKey->YI,wpAny_pyIter_enum->YJ,wpAny_assign_Name->YK,wpAny_Call_method->YL,name_of_addr->YM,concat_meets->YN,bindArgs->YO,Within->YQ,ReadsAll->YV,BindsTo->YY,wpAny_pyIter_zip->Ze,wpAny_execs_cons->Zf,wpAny_Dict_empty->Zg,updateSeq->Zh,assign->Zi,Result->Zn,Params->Zo,wpAny_field->ZK,CmpOp->ZO,pushCells_keeps->ZV,wpAny_newTuple->CN,wpAny_Name->qb,typeLookup->pz,sliceRange->o2,recursionLimit->zz,pyIter->j',closureFor->o1,callWith->nk,bindL->i0,bindC->ic,wpAny_attempt->Fd,rangeSize_one->aa0,nums_intItems->aa1,intBits_le_64->L0,evalPart_none->aa3,call_list_seq->I',bltViewBooted->I0,treeTable->oj,storeName->oa,numAt->js,PassesOwn->oz,storedH->mj,Keyword->mi,compEnvC->tA,Operator->Yf,Model->kc,GenState->ti,Fin->U3
open PySem.Around renaming under_plainId->Qv,frames_deeper->Xp,under->YZ
open PySem.Builtin renaming bitAnd->RF
open PySem.Builtin.Builtins renaming bindParams->Rr
open PySem.Builtin.Dict renaming updateFrom->Ws,pairItems->WG,keyAndDefault->aas,selfAndRest->abi,addKeywords->abj
open PySem.Builtin.List renaming listTooLong->To,listUpdate->abD
open PySem.Builtin.Range renaming rangeSize->Wr
open PySem.Builtin.Slice renaming slicePlaces->RK,sliceApplied->SN,sliceAdjust->S_,slicePartIndex->ZX,sliceFields->aaQ
open PySem.Builtin.Str renaming tooLong->Vc
open PySem.Builtin.Tuple renaming tupleExact->Qn,tupleItemsOf->Vx
open PySem.Calls renaming spliced_cons->RE,callWith_builtin->So,evalArgs_plain->SM,spliced_nil->Ug,Name_function_global->Vw,call_len_list->XN
open PySem.Challenge renaming pw_oathduel_k75_whole_forms_as_sentences->Ox,rw_oathduel_k75_whole_forms_as_sentences->Qk
open PySem.Code renaming isFrame->YX,frames->acK
open PySem.Data renaming fields->ZN,cell->abC
open PySem.DictEntry renaming refKey->UQ
open PySem.EqMixed renaming ne_str_bool->aaM,ne_bool_str->aaN,eq_str_bool->aaO,eq_bool_str->aaP,ne_str_int->abe,ne_int_str->abf,eq_str_int->abg,eq_int_str->abh
open PySem.EqNone renaming ne_none_none->aaG,ne_none_bool->aaH,ne_bool_none->aaI,eq_none_none->aaJ,eq_none_bool->aaK,eq_bool_none->aaL,ne_str_none->aa8,ne_none_str->aa9,ne_none_int->aa_,ne_int_none->aa',eq_str_none->aba,eq_none_str->abb,eq_none_int->abc,eq_int_none->abd
open PySem.F renaming plainAttrs_list->Pe,slot_list_append->PX,type_list_append->Qb,plain_min_loop->Qz,slot_dict_setdefault->QJ,args_dict_setdefault_3->Q9,entry_dict_setdefault->Rj,plain_max_loop->Rz,args_tuple_add_2->Tn,entry_tuple_add->TY,slot_tuple_add->Uc,slot_list_extend->Ud,entry_min_loop->Ue,slot_list_index->Uv,slot_dict_get->Uw,type_list_extend->V_,type_list_index->Wm,plainAttrs_dict->Wo,entry_max_loop->Wp,args_dict_get_3->Wq,entry_dict_get->WE,slot_list_count->Xo,slot_list_pop->Yk
open PySem.Heap renaming get?_push_of_some->N_,lt_size->On,get?_push_size->OJ,get?_update_other->OU,get?_update_self->RI,size_push->SJ,SameBut->SX,get?_none_of_le->Xn,get?_push_ne->YW,size_update->Zq,mk->rz
open PySem.Heap.DictOf renaming new->ZW
open PySem.Heap.IsSliceOf renaming new->Yj
open PySem.Heap.SameBut renaming update->Vb
open PySem.IsL renaming update->VM
open PySem.IsRange renaming new->ZM
open PySem.NameKind renaming cell->Tj,free->aa7
open PySem.Obj renaming mapSeq->QC,data_mapDictKeys->Xl
open PySem.PassesOwn renaming never->Pt
open PySem.PyData renaming eqv->O7,canLayAll0->P8,none->Qj,tuple->SW,depthAll->Tv,eqvAll->US,int->Vu,strOk->WD
open PySem.SeqAt renaming shaped->Qf,readOf->Vk,readsAll_map->Ye,items_eqAt->Zm,EqAt->ry
open PySem.SeqAt.EqAt renaming str_int->Yg,int_str->Yh,none_bool->YF,bool_none->YE,bool_bool->YC,str_none->XY,str_bool->XW,none_str->Xt,none_int->Xc,int_none->ZP,int_bool->Zc,bool_str->Zb,bool_int->Za,str_str->R',int_int->RP,same->O'
open PySem.Str renaming ofString->NV,empty->Zl,join->m8
open PySem.Txt renaming join->YU
open PySem.Value renaming ref->Pp,int->TX,type->Vt,str->XH,none->Yc,bool->Yd,isInt_shape->YT,float->ZL,isStrOf->Ip,isInt->tp,bytes->YP
open PySem.W renaming Frag->B',findIn->O4,mg_none_of->Pa,nsIn->Pj,keepIn->Px,boot_heap->Qm,kia_one->Qy,emptyDict->QE,SharedT->QI,kitOne->QV,mg_of->Rg,fnOf->Rh,kla_obj->Rm,instObj->Ro,plainGet->Ry,hasDictIn->RU,CodeHd->Sb,plainOver->SB,tabObj->SI,makesIn->Tu,callWith_K->TN,boot_drawn->TQ,codeIn->Ub,boot_toks->UL,plainGet_of->Va,isFn->Vi,envX->Vj,lookIn->Vr,through->VP,specialIn->VQ,methodObj->VR,OpenLaw->Wx,cellsFrom_some->WB,absHeap->WC,takesIn->WZ,takerIn->W0,methodCall_KW->W7,topStub->XG,mroIn->X2,stepOk->Yb,kitx_list->YR,kitx_dict->YS,handedIn->Zj,WalkO->Zk,stepT->oD,topRun->ky
open PySem.W.Fast renaming tw5923862056798008813->Vs
open PySem.W.Looks renaming here->Sh,ld->V2
open PySem.W.WData renaming int->sg
open PySem.W.WShape renaming has->adk
open PySem.Walks renaming list->WA,range->tv
open PySem.Within renaming cons->Uu
open StateT renaming run_pure->ZU
open Sum renaming inl->OW,inr->Sx
open Sum.inl renaming inj->Qo
open True renaming intro->QS
open _root_ renaming List->ab,Option->NW,decide_eq_false->N3,Bool->N6,decide_eq_true->Ob,if_neg->Oh,if_pos->Oi,of_decide_eq_true->Oo,congrArg->OY,decide_eq_true_iff->OZ,beq_eq_false_iff_ne->Pg,Array->Qp,String->R1,or_false->R9,decide_eq_decide->R_,ForInStep->Sw,if_false->Th,beq_iff_eq->UI,if_true->Ve,getElem?_pos->Vf,of_decide_eq_false->Vp,DecidableEq->V0,StateT->V5,Unit->Xf,bne_self_eq_false->YH,beq_self_eq_true->Zd,modify->kz
namespace HD
open PySem PySem.W PySem.Calls PyProof.Rows
noncomputable def yX (p:QI->UM->NW (QI×UM))(o T:UM->N6)(n:Nat):QI->UM->NW QI:=
 @Nat.rec (λ_=>QI->UM->NW QI) (λ_ _=>N4)
  (λ_ i s t=>@UZ (λ_=>NW QI)
   (@UZ (λ_=>NW QI) N4
    (@WN (QI×UM) (λ_=>NW QI) N4
     (λr=>@th QI UM (λ_=>NW QI) (λa b=>@UZ (λ_=>NW QI) N4 (i a b) (XI a.toks 1000000000)) r) (p s t)) (o t))
   (gV s) (T t)) n
theorem wU{T:R1->NW Builtin}{p:Of}{w:OE}{N:Nat}{a:NW M'}:∀n s b t,
  yX (oD (X_ T) p w) (Yb N a) VP n s t=gV b->ky T p w N a n s.abs t=gV b.abs
 |0,s,b,t,h=>by cases h
 |n+1,s,b,t,h=>by
  have h:@UZ (λz=>NW QI)
   _
   _ _=gV b:=h
  unfold ky;cases e:VP t with
  |true=>rw[e]at h;cases h;rfl
  |false=>
   rw[e]at h;cases k:Yb N a t with
   |false=>rw[k]at h;cases h
   |true=>
    rw[k]at h;cases H:oD _ p w s t with
    |none=>rw[H]at h;cases h
    |some r=>
     rw[H]at h;replace h:@UZ (λz=>NW QI) N4 _ _=gV b:=h;rw[stepT_spec H];cases f:XI _ _ with
     |false=>rw[f]at h;cases h
     |true=>rw[f]at h;exact wU n _ _ _ h
noncomputable def qJ (l:ab Obj):BT->Nat->NW (BT×Nat):=
 @List.rec Obj (λ_=>BT->Nat->NW (BT×Nat)) (λT n=>gV (T,n))
  (λo _ i T n=>@UZ (λ_=>NW<|BT×Nat) N4 (i (T.ins n o)<|n+1) (((T.ins n o).get n).isSome)) l
theorem pQ:∀l T t n N,qJ l T n=gV (t,N)->WC t N L=⟨(WC T n L).objs++l.toArray,L⟩
 |[],T,t,n,N,h=>by
  cases h;rfl
 |o::l,T,t,n,N,h=>by
  replace h:@UZ (λz=>NW<|BT×Nat) N4 (qJ l _<|n+1) _=gV _:=h;cases H:((T.ins n o).get n).isSome with
  |false=>simp_all
  |true=>
   rw[H]at h;rw[pQ l _ _ _ _ h,absHeap_ins H];show rz ((WC T n L).objs.push o++l.toArray) L=_
   simp
noncomputable def look {a:Type}(p:QI->UM->NW (QI×UM))(o t:UM->N6)(M:Nat)(os:SC)(P:Zo)(st:UM)(F:N8->a):NW a:=
 @WN (BT×Nat) (λ_=>NW a) N4
  (λr=>@th BT Nat (λ_=>NW a) (λT n=>@WN QI (λ_=>NW a) N4 (λs=>gV<|F s.abs) (yX p o t M ⟨T,n,(Qm P).life,U0 [],TQ,UL,os⟩ st)) r)
  (qJ (Qm P).objs.toList .nil 0)
theorem Fc{c:Type}{t:R1->NW Builtin}{p:Of}{w:OE}{N:Nat}{a:NW M'}{M:Nat}{os:SC}{F:N8->c}{b:c}
  (h:look (oD (X_ t) p w) (Yb N a) VP M os w.params (XG p) F=gV b):
  ∃s,ky t p w N a M ⟨Qm w.params,U0 [],TQ,UL,os⟩ (XG p)=gV s/\F s=b:=by
 unfold look at h;cases H:qJ _ _ 0 with
 |none=>rw[H]at h;cases h
 |some r=>
  obtain⟨T,n⟩:=r;rw[H]at h;replace h:@WN QI (λz=>NW c) N4 _ (yX _ _ VP M _<|XG p)=gV b:=h;cases d:yX _ _ VP M _ _ with
  |none=>rw[d]at h;cases h
  |some s=>
   rw[d]at h;have e:=pQ (L:=(Qm w.params).life) _ _ _ _ _ H;have g:WC T n (Qm w.params).life=Qm w.params:=by
    rw[e];show rz (#[]++(Qm _).objs.toList.toArray) _=_
    rw[Array.empty_append]
   have f:=wU _ _ _ _ d;refine⟨s.abs,?_,Ot h⟩;rw[<-f];show _=ky t p w N a M ⟨WC T n _,U0 [],TQ,UL,os⟩ _
   rw[g]
noncomputable def xt (q:Of)(s:N8):N6:=xlAt q [] s&&recOk [] s
noncomputable def sn (p q:Of)(loose:ab Str)(X:N8->N6)(g:N6)(s:N8):=Fast.tw4187177175401517315 q loose (Vs p.main.body) X g s
noncomputable def seenA (p q:Of)(loose:ab Str)(X:N8->N6)(g:N6)(w:OE)(s:N8):=((staticsOk (Vs p.main.body) (Qm w.params) s.heap&&namesBound p s.heap&&gensDone s&&laidKept (Qm w.params) s.heap),(sn p q loose X g s).1)
noncomputable def seenB (p q:Of)(loose:ab Str)(X:N8->N6)(g:N6)(s:N8):=((sn p q loose X g s).2.1,(sn p q loose X g s).2.2.1)
noncomputable def seenE (p q:Of)(loose:ab Str)(X:N8->N6)(g:N6)(s:N8):=((sn p q loose X g s).2.2.2.1,(sn p q loose X g s).2.2.2.2.1)
noncomputable def seenC (p q:Of)(loose:ab Str)(X:N8->N6)(g:N6)(s:N8):=(sn p q loose X g s).2.2.2.2.2.1
noncomputable def seenD (p q:Of)(loose:ab Str)(X:N8->N6)(g:N6)(s:N8):=((sn p q loose X g s).2.2.2.2.2.2.1,(sn p q loose X g s).2.2.2.2.2.2.2.1,(sn p q loose X g s).2.2.2.2.2.2.2.2)
noncomputable def lookAt {a:Type}(p:Of)(m:Nat)(Z:NW M')(M:Nat)(w:OE)(os:SC)(F:N8->a):NW a:=
 look (Fast.tw10156331382660048174 (Fast.tw11892475500146522536 Fast.tw14364793385576792824) p w) (Fast.tw6613529449190102663 m Z) VP M os w.params (XG p) F
theorem eW{c:Type}{p:Of}{m:Nat}{a:NW M'}{M:Nat}{w:OE}{os:SC}{F:N8->c}{b:c}(h:lookAt p m a M w os F=gV b):
  ∃s,ky oj p w m a M ⟨Qm w.params,U0 [],TQ,UL,os⟩ (XG p)=gV s/\F s=b:=by
 unfold lookAt at h;rw[<-Fast.te10156331382660048174,<-Fast.te11892475500146522536,<-Fast.te14364793385576792824,<-Fast.te6613529449190102663]at h;exact Fc h
theorem left{p q:Of}{loose:ab Str}{X:N8->N6}{j:Type}{Y:N8->j}{y:OE->j}{N:Nat}{g:N6}{m:Nat}{Z:NW M'}{M:Nat}
  (e:opening p=plainProg p.main.scope.names) (f:∀s,fenceModules? p s=gV s) (H:XI 600 N=NU) (n:XI M N=NU)
  (h:∀w:OE,((Qm w.params).isNs OS&&(U0 []:Qp ti).size == 0,(Qm w.params).objs.size,(Qm w.params).nsMap OS "__annotations__")=(NU,m,Z))
  (o:∀(w:OE) (os:SC),lookAt p m Z M w os (seenA p q loose X g w)=gV (NU,expectedOf q)) (u:∀(w:OE) (os:SC),lookAt p m Z M w os (seenB p q loose X g)=gV (I0,NU)) (v:∀(w:OE) (os:SC),lookAt p m Z M w os (seenE p q loose X g)=gV (NU,pinGoodD<|drecsOf q))
  (C:∀(w:OE) (os:SC),lookAt p m Z M w os (seenC p q loose X g)=gV (plainGoodE q loose)) (K:looseW q loose=loose) (x:∀(w:OE) (os:SC),lookAt p m Z M w os (seenD p q loose X g)=gV (plainGoodD q loose,wideGood q,clsGoodW q loose)) (z:∀(w:OE) (os:SC),lookAt p m Z M w os Y=gV (y w)):
  LeftO p q loose X Y y N g:=λw=>by
 obtain⟨⟨F,G,d,k,os⟩,a,b⟩:=P9.mp<|boot_open e H f w;obtain⟨rfl,rfl,rfl,rfl⟩:F=Qm _/\G=U0 []/\d=TQ/\k=UL:=by simpa using b
 obtain⟨I,J,O⟩:_/\_/\_:=by simpa only [Prod.mk.injEq]using h w
 obtain⟨s,r,A⟩:=eW<|o w os;obtain⟨i,c,P⟩:=eW<|z w os;rw[r]at c;cases c;obtain⟨i,c,B⟩:=eW<|u w os;rw[r]at c;cases c;obtain⟨i,c,E⟩:=eW<|v w os;rw[r]at c;cases c;obtain⟨i,c,Q⟩:=eW<|C w os;rw[r]at c;cases c;obtain⟨i,c,D⟩:=eW<|x w os;rw[r]at c;cases c;have l:=OY mr A;have L:sn p q _ X g s=openGood q _:=Uh (OY Xu A) (Uh (OY (·.1) B) (Uh (OY (·.2) B) (Uh (OY (·.1) E) (Uh (OY (·.2) E) (Uh (Q.trans<|OY (plainGoodE q) K.symm) (Uh (OY _ D) (Uh (OY (·.2.1) D) (OY (·.2.2) D))))))));unfold seenA at l;unfold sn at L;dsimp only at l;rw[<-Fast.te5923862056798008813]at l L;rw[<-Fast.te4187177175401517315]at L;have r:=topRun_mono (N-M) _ _ _ _ r;rw[show M+(N-M)=N by have:=UA n;lia]at r;have t:topFrom oj p w N ⟨Qm w.params,U0 [],TQ,UL,os⟩=gV s:=by
  unfold topFrom;rw[I,J,O,r];show(match staticsOk _ _ _&&namesBound p _&&gensDone s&&laidKept _ _ with|true=>_|false=>_)=_
  rw[l]
 unfold openEnds;rw[a];show(topFrom oj p w N _).map _=_
 rw[t];exact OY gV<|Uh L P
theorem head{r:OpenRow}{q:Of}{loose:ab Str}{lv:ab (Str×WData)}(H:Hook){d:DefRec}{k:ab (Str×Pl)}{N:Nat}
  (l:LeftO r.prog q loose (λs=>xlAt q lv s&&recOk r.records s) H.obs H.val N) (a:defOf q r.name=gV (d,k)) (p:r.prog.theDef r.name=gV (d.params,d.body,d.scope)) (b:kwWritten? d.params.kwonlyargs d.params.kw_defaults=gV k)
  (h:(!r.writes || r.records.isEmpty)=NU) (c:r.wellSaid=NU) (o:(chainsOk q&&opensWell r.prog&&(frees r.toRowW&&r.within.isEmpty))=NU) (g:r.prog.bare) (w:r.toRowW.promised)
  (i:Zk q loose (XL q lv) H.says r.toRowW d k λf v=>X' f v):r.Holds:=
 holds_open l H.of H.keeps (λs e=>xl_of s (XA.mp e).1) XL.keeps a p b (λs e=>recFacts_of (XA.mp e).2) h c o g w i
end HD
section
open PySem PySem.W PySem.Calls PyProof.Rows
set_option maxRecDepth 100000
set_option maxHeartbeats 0
noncomputable def K75.vQ:Of:=view Ox [0,2,3,4,5,6,7,9,10,11,13,14,15,16,17,18,19,20,21,22,24,25,26,27,28,30,31,32,33,34,36,37,38,39,41,42,43,44,45,46,47,48,49,50,52,53,54,55,56,57,58,59,60,61,63,64,66,67,68,69,70,72,73,74,75,76,78,79,80,81,82,83,84,85,86,87,88,89,90,91,92,93,94,95,96,97,98,99,100,101,103,104,105,106,107,108,109,110,111,112]
theorem K75.said:OpenLaw.wellSaid Qk=true:=(congrFun Fast.te9446332074065402090 Qk).trans (by kernel_rfl)
theorem K75.seenA (w:OE)(os:SC):HD.lookAt Ox 11 (gV (.ref 6)) 5387 w os (HD.seenA Ox K75.vQ [] (HD.xt K75.vQ) NU w)=gV (NU,expectedOf K75.vQ):=by kernel_rfl
theorem K75.seenB (w:OE)(os:SC):HD.lookAt Ox 11 (gV (.ref 6)) 5387 w os (HD.seenB Ox K75.vQ [] (HD.xt K75.vQ) NU)=gV (I0,NU):=by kernel_rfl
theorem K75.seenE (w:OE)(os:SC):HD.lookAt Ox 11 (gV (.ref 6)) 5387 w os (HD.seenE Ox K75.vQ [] (HD.xt K75.vQ) NU)=gV (NU,pinGoodD (drecsOf K75.vQ)):=by kernel_rfl
theorem K75.seenC (w:OE)(os:SC):HD.lookAt Ox 11 (gV (.ref 6)) 5387 w os (HD.seenC Ox K75.vQ [] (HD.xt K75.vQ) NU)=gV (plainGoodE K75.vQ []):=by kernel_rfl
theorem K75.seenG:looseW K75.vQ []=[]:=by kernel_rfl
theorem K75.seenD (w:OE)(os:SC):HD.lookAt Ox 11 (gV (.ref 6)) 5387 w os (HD.seenD Ox K75.vQ [] (HD.xt K75.vQ) NU)=gV (plainGoodD K75.vQ [],wideGood K75.vQ,clsGoodW K75.vQ []):=by kernel_rfl
section
local macro_rules | `(tactic| o_head $H) => `(tactic| assumption)
theorem K75.zpre (h : PySem.Challenge.rw_oathduel_k75_whole_forms_as_sentences.row.Holds) : PySem.Challenge.rw_oathduel_k75_whole_forms_as_sentences.row.Holds:= by k_head
end
def K75.zad : List Addr:= [2,3,15,17,18,20,21,22,29,30,31,32,35,42,43,44,47,54,56,57,59,60,61,62,63,66,73,74,75,78,85,86,87,90,97,98,99,102,104,105,107,108,109,111,112,114,115,116,118,119,121,122,123,125,126,128,129,130,132,133,135,136,137,140,141,142,144,145,147,148,149,151,152,154,155,156,158,159,161,162,163,166,167,168,170,171,173,174,175,178,179,180,183,184,185,188,189,190,193,194,195,198,199,200,202,203,205,206,214,215,216,217,218,221,228,231,232,233,235,236,238,239,240,241,242,245,247,248,250,251,252,254,255,257,258,259,261,262,264,265,266,268,269,271,272,273,275,276,278,279,280,282,283,285,286,287,289,290,292,293,294,297,298,299,301,302,304,305,306,308,309,311,312,313,315,316,318,319,320,322,323,325,326,327,329,330,332,333,334,336,337,339,340,341,343,344,346,347,348,350,351,353,354,355,357,358,360,361,362,364,365,367,368,369,372,373,374,376,377,379,380,381,383,384,386,387,388,390,391,393,394,395,397,398,400,401,402,404,405,407,408,409,411,412,414,415,416,418,419,421,422,423,425,426,428,429,430,433,434,435,437,438,440,441,442,444,445,447,448,449,451,452,454,455,456,459,460,461,464,465,466,468,469,471,472,473,476,477,485,488,489,490,492,493,495,496,497,499,500,502,503,504,506,507,509,510,511,514,515,516,518,519,521,522,523,525,526,528,529,530,532,533,535,536,537,539,540,542,543,544,546,547,549,550,551,552,553,554,555,558,560,561,563,564,565,567,568,570,571,572,574,575,577,578,579,581,582,584,585,586,588,589,591,592,593,595,596,598,599,600,602,603,605,606,607,609,610,612,613,614,617,618,619,621,622,624,625,626,629,630,631,633,634,636,637,638,640,641,643,644,645,647,648,650,651,652,654,655,657,658,659,661,662,664,665,666,669,670,671,673,674,676,677,678,681,682,683,685,686,688,689,690,692,693,695,696,697,700,701,702,704,705,707,708,709,716,719,720,721,723,724,726,727,728,731,732,733,734,735,738,740,741,743,744,745,747,748,750,751,752,754,755,757,758,759,761,762,764,765,766,769,770,771,773,774,776,777,778,781,782,783,785,786,788,789,790,793,794,795,798,799,800,803,804]
theorem K75.seenY (w : World) (os : OsState) : HD.lookAt PySem.Challenge.pw_oathduel_k75_whole_forms_as_sentences 11 (some (.ref 6)) 5387 w os (kmHook K75.zpre.heap_1 K75.zad (fun _ => by kernel_rfl) [349, 342]).obs = some ((kmHook K75.zpre.heap_1 K75.zad (fun _ => by kernel_rfl) [349, 342]).val w):= by kernel_rfl
end
namespace L2
open PySem PySem.Spec PyProof.Rows
abbrev aK:=Sum Int Str
noncomputable def o_:aK->M'->N6
 |.inl k,v=>tp k v
 |.inr x,v=>Ip x v
noncomputable def MB(w:OE):aK->Int
 |.inl k=>hashInt k
 |.inr x=>hashStr w x
theorem bN:∀{k:aK} {v:M'},o_ k v=NU->(∃i t,k=OW i/\v=TX i t)\/(∃x t,k=Sx x/\v=XH x t)
 |.inl i,v,h=>by
  obtain⟨t,e⟩:=YT h;exact .inl ⟨i,t,rfl,e⟩
 |.inr x,v,h=>by
  obtain⟨t,e⟩:=Value.isStrOf_shape h;exact .inr ⟨x,t,rfl,e⟩
theorem yh(i:Int)(t:Tok):o_ (.inl i) (.int i t)=true:=by simp[o_,tp]
theorem yi(x:Str)(t:Tok):o_ (.inr x) (.str x t)=true:=by simp[o_,Ip]
theorem HX(a b:Int):decide ((OW a:aK)=OW b)=(a == b):=by
 lia
theorem HY(a b:Str):decide ((Sx a:aK)=Sx b)=decide (a=b):=by
 simp
theorem HZ(a:Int)(b:Str):decide ((OW a:aK)=Sx b)=false:=rfl
theorem H_(a:Str)(b:Int):decide ((Sx a:aK)=OW b)=false:=rfl
noncomputable def aN(p:Of)(w:OE):PySem.KeyKind p w aK where
 is:=o_
 hash:=MB w
 inj:=λv a b d c=>by
  rcases bN d with⟨i,t,rfl,rfl⟩|⟨x,t,rfl,rfl⟩
  ·rcases bN c with⟨j,u,rfl,e⟩|⟨y,u,rfl,e⟩
   ·simp_all
   simp_all
  rcases bN c with⟨j,u,rfl,e⟩|⟨y,u,rfl,e⟩
  ·simp_all
  simp_all
 byValue:=λk v h=>by
  rcases bN h with⟨i,t,rfl,rfl⟩|⟨x,t,rfl,rfl⟩<;>rfl
 pyHash:=λH h=>by
  rcases bN H with⟨i,t,rfl,rfl⟩|⟨x,t,rfl,rfl⟩
  ·exact wpAny_pyHash_int h
  exact wpAny_pyHash_str h
 eqBool:=λf H h=>by
  rcases bN f with⟨i,t,rfl,rfl⟩|⟨x,t,rfl,rfl⟩
  ·rcases bN H with⟨j,u,rfl,rfl⟩|⟨y,u,rfl,rfl⟩
   ·rw[HX]at h;exact wpAny_eqBool_int h
   rw[HZ]at h;exact Yh i t y u _ _ _ _ h
  rcases bN H with⟨j,u,rfl,rfl⟩|⟨y,u,rfl,rfl⟩
  ·rw[H_]at h;exact Yg x t j u _ _ _ _ h
  rw[HY]at h;exact wpAny_eqBool_str h
 «strs»:=λk x t v h=>by
  rcases bN h with⟨i,u,rfl,e⟩|⟨y,u,rfl,e⟩
  ·simp_all
  injection e with E _;subst E;cases v<;>rfl
theorem r_(p:Of)(w:OE)(i:Int)(t:Tok):(aN p w).is (.inl i) (.int i t)=true:=yh i t
theorem se(p:Of)(w:OE)(x:Str)(t:Tok):(aN p w).is (.inr x) (.str x t)=true:=yi x t
set_option genInjectivity true in
inductive V where
 |non|bl (b:N6)|int (i:Int)|str (x:Str)|byt (b:Qp UInt8)|flt (b:UInt64)|ref (a:C')|ty (n:R1)
 deriving V0
def RelV:V->M'->Prop
 |.non,u=>u=Yc
 |.bl b,u=>u=Yd b
 |.int i,u=>∃t,u=TX i t
 |.str x,u=>∃t,u=XH x t
 |.byt b,u=>∃t,u=YP b t
 |.flt b,u=>∃t,u=ZL b t
 |.ref a,u=>u=Pp a
 |.ty n,u=>u=Vt n
abbrev Vals:ab V->ab M'->Prop:=Paired RelV
theorem Vals.length(r:Vals x u):x.length=u.length:=Paired.length r
theorem Vals.get:∀{X:ab V} {U:ab M'} {i:Nat} {x:V},Vals X U->X[i]?=gV x->∃u,U[i]?=gV u/\RelV x u:=by
 intro X U i x h e;induction h generalizing i with
 |nil=>cases e
 |cons r t j=>
  cases i with
  |zero=>cases e;exact⟨_,rfl,r⟩
  |succ i=>exact j e
theorem Vals.append:∀{x y:ab V} {u w:ab M'},Vals x u->Vals y w->Vals (x++y) (u++w):=by
 intro x y u w h s;induction h with
 |nil=>exact s
 |cons r t i=>exact .cons r i
theorem Vals.take:∀{x:ab V} {u:ab M'} (n:Nat),Vals x u->Vals (x.take n) (u.take n):=by
 intro x u n h;induction h generalizing n with
 |nil=>cases n<;>exact .nil
 |cons r t i=>
  cases n with
  |zero=>exact .nil
  |succ n=>exact .cons r<|i n
theorem Vals.drop:∀{x:ab V} {u:ab M'} (n:Nat),Vals x u->Vals (x.drop n) (u.drop n)
 |_,_,0,r=>r
 |_,_,_+1,.nil=>.nil
 |_,_,n+1,.cons _ t=>Vals.drop n t
theorem Vals.none_of:∀{x:ab V} {u:ab M'} {i:Nat},Vals x u->x[i]?=N4->u[i]?=none:=λ{x u i} r e=>by
 have h:=r.length;simp_all
def RelO:NW V->NW M'->Prop
 |some v,gV u=>RelV v u
 |none,N4=>True
 |_,_=>False
def KV{a:Type}:ab (a×V)->ab (a×M')->Prop:=Paired λ(p:a×V) (q:a×M')=>p.1=q.1/\RelV p.2 q.2
noncomputable def kV:aK->V
 |.inl i=>.int i
 |.inr x=>.str x
set_option genInjectivity true in
inductive HO where
 |lst (xs:ab V)
 |tup (xs:ab V)
 |dK (kvs:ab (aK×V))|dT (kvs:ab (ab aK×V))
 |set (S:Int->N6) (n:Nat)
 |ins (C dx:C') (fs:ab (Str×V))
 |own (x:C')
 |xd (fs:ab (Str×V))
 |met (f x:C')
 |rng (lo h:Int)
 |frz (o:Obj) (u:HO)
 |tbl (p:Qp M')
 |ext (a:O5->Prop)
abbrev Hp:=C'->NW HO
noncomputable def upd(H:Hp)(a:C')(o:HO):Hp:=λb=>if b=a then gV o else H b
theorem aa:upd H a o a=gV o:=by unfold upd;simp
theorem af(h:b≠a):upd H a o b=H b:=by unfold upd;rw[Oh h]
theorem gx:upd (upd H a o) a u=upd H a u:=by
 unfold upd;simp_all
theorem bj{H:Hp}(h:H a=gV o)(h':H b=gV u)(d:o≠u):a≠b:=by
 lia
theorem ah{H:Hp}(h:H a=gV o)(h':H b=N4):a≠b:=by
 lia
section
variable (P:Of)(w:OE)
def ObjOk(H:Hp)(h:O5)(a:C'):HO->Prop
 |.lst X=>X.length<=sizeLine/\∃(N:ab M') (n:Nat),Vals X N/\h.get? a=gV {cls:=.type "list",data:=.seq N.toArray n}
 |.tup X=>X.length<=sizeLine/\∃N:ab M',Vals X N/\n' h a N.toArray
 |.dK k=>k.length<=sizeLine/\(a == QT)=NZ/\∃s,KV k s/\h.DictOf (aN P w) a s
 |.dT k=>k.length<=sizeLine/\(a == QT)=NZ/\∃X:ab (ab aK×C'×M'),
   Paired (λ(p:ab aK×V) (q:ab aK×C'×M')=>p.1=q.1/\H q.2.1=gV (.tup<|p.1.map kV)/\RelV p.2 q.2.2) k X/\
   ∃o e E,h.get? a=gV o/\o.ExactDict/\o.data=.dict e E/\e.toList=X.map (entryOfKey<|UJ<|aN P w)/\(X.map (·.1)).Nodup
 |.set S n=>h.SetOf (intKind P w) a S n
 |.ins C d F=>H d=gV (.own a)/\F.length<=1000/\d≠a/\h.get? a=gV (Ro C d)/\
   ∃m,h.Ns1 d m/\(∀f,RelO (F.lookup f)<|m f)/\YQ m (F.map (·.1))
 |.own _=>∃o,h.get? a=gV o
 |.xd F=>∃m,h.Ns1 a m/\∀f,RelO (F.lookup f)<|m f
 |.rng lo i=>∃t u v,h.get? a=gV {cls:=.type "range",data:=.fields #[.int lo t,.int i u,.int 1 v]}
 |.frz o u=>h.get? a=gV o/\ObjOk H h a u
 |.tbl j=>h.get? a=gV {cls:=.none,data:=.fields j}
 |.met f x=>h.get? a=gV (VR (.ref f)<|.ref x)
 |.ext b=>b h/\(∃o,h.get? a=gV o)/\∀c g:O5,b c->(∀o,c.get? a=gV o->g.get? a=gV o)->b g
def HOk(H:Hp)(h:O5):Prop:=∀a o,H a=gV o->ObjOk P w H h a o
end
section
variable {P:Of}{w:OE}{H:Hp}{h:O5}{a:C'}
theorem ObjOk.lt(x:ObjOk P w H h a o):a<h.objs.size:=by
 cases o with
 |lst X=>obtain⟨z,z,z,z,e⟩:=x;exact On e
 |tup X=>obtain⟨z,z,z,p⟩:=x;exact p.lt
 |dK k=>obtain⟨z,z,z,z,o,z,z,e,z⟩:=x;exact On e
 |dT k=>obtain⟨z,z,z,z,o,z,z,e,z⟩:=x;exact On e
 |set S n=>obtain⟨o,z,z,z,e,z⟩:=x;exact On e
 |ins C d F=>obtain⟨z,z,z,e,z⟩:=x;exact On e
 |own y=>obtain⟨z,e⟩:=x;exact On e
 |xd F=>obtain⟨z,⟨z,z,z,e,z⟩,z⟩:=x;exact On e
 |rng lo i=>obtain⟨z,z,z,e⟩:=x;exact On e
 |frz O u=>obtain⟨e,z⟩:=x;exact On e
 |tbl s=>exact On (x)
 |met f y=>exact On (x)
 |ext b=>obtain⟨z,⟨z,e⟩,z⟩:=x;exact On e
theorem Paired.mapP{c d:Type}{F G:c->d->Prop}:∀{l:ab c} {L:ab d},Paired F l L->(∀a b,F a b->G a b)->Paired G l L:=by
 intro l L h f;induction h with
 |nil=>exact .nil
 |cons r t i=>exact .cons (f _ _ r) i
theorem Paired.imp'{c d:Type}{F G:c->d->Prop}(f:∀a b,F a b->G a b){l:ab c}{L:ab d}(r:Paired F l L):Paired G l L:=Paired.mapP r f
theorem ObjOk.stay(x:ObjOk P w H h a o)(k:∀b u,(b=a\/H b=gV (.own a))->h.get? b=gV u->h'.get? b=gV u)
  (B:∀b,H b=gV (.own a)->l b=gV (.own a)) (D:∀b X,H b=gV (.tup X)->l b=gV (.tup X)):ObjOk P w l h' a o:=by
 induction o with
 |lst X=>obtain⟨z,i,n,r,e⟩:=x;exact⟨z,i,n,r,k _ _ (.inl rfl) e⟩
 |tup X=>obtain⟨z,i,r,O,e,c⟩:=x;exact⟨z,i,r,O,k _ _ (.inl rfl) e,c⟩
 |dK s=>obtain⟨z,y,F,r,O,E,g,e,c⟩:=x;exact⟨z,y,F,r,O,E,g,k _ _ (.inl rfl) e,c⟩
 |dT s=>
  obtain⟨z,y,X,r,O,E,g,e,c⟩:=x;exact⟨z,y,X,Paired.mapP r λp q z=>⟨z.1,D _ _ z.2.1,z.2.2⟩,O,E,g,k _ _ (.inl rfl) e,c⟩
 |set S n=>obtain⟨O,E,g,t,e,c⟩:=x;exact⟨O,E,g,t,k _ _ (.inl rfl) e,c⟩
 |ins C L G=>
  obtain⟨d,z,N,e,m,⟨j,E,g,I,c⟩,r⟩:=x;exact⟨B _ d,z,N,k _ _ (.inl rfl) e,m,⟨j,E,g,k _ _ (.inr d) I,c⟩,r⟩
 |own y=>obtain⟨O,e⟩:=x;exact⟨O,k _ _ (.inl rfl) e⟩
 |xd G=>obtain⟨m,⟨j,E,g,e,c⟩,r⟩:=x;exact⟨m,⟨j,E,g,k _ _ (.inl rfl) e,c⟩,r⟩
 |rng lo M=>obtain⟨t,u,v,e⟩:=x;exact⟨t,u,v,k _ _ (.inl rfl) e⟩
 |frz O u J=>obtain⟨e,q⟩:=x;exact⟨k _ _ (.inl rfl) e,J q⟩
 |tbl A=>
  have e:=x;exact k a _ (.inl rfl) e
 |met f y=>
  have e:h.get? a=gV _:=x;show h'.get? a=gV _
  exact k a _ (.inl rfl) e
 |ext Q=>obtain⟨p,⟨o,e⟩,st⟩:=x;exact⟨st _ _ p λo q=>k _ _ (.inl rfl) q,⟨o,k _ _ (.inl rfl) e⟩,st⟩
theorem HOk.lt(x:HOk P w H h)(e:H a=gV o):a<h.objs.size:=(x a o e).lt
theorem HOk.fresh(x:HOk P w H h)(e:h.objs.size<=a):H a=none:=by
 cases q:H a with
 |none=>rfl
 |some u=>exact absurd (Pb (x.lt q) e)<|QR _
theorem HOk.kept(x:HOk P w H h)(k:∀b u,h.get? b=gV u->h'.get? b=gV u):HOk P w H h':=λa o e=>
 (x a o e).stay (λb u z q=>k b u q) (λz q=>q) λz z q=>q
theorem HOk.laid{h':O5}{o:HO}(x:HOk P w H h)(k:∀b u,h.get? b=gV u->h'.get? b=gV u)(p:h.objs.size<=a)(n:ObjOk P w (upd H a o) h' a o):HOk P w (upd H a o) h':=λb u e=>by
 have d:=x.fresh p;by_cases f:b=a
 ·subst f;rw[aa]at e;cases e;exact n
 rw[af f]at e;exact(x b u e).stay (λc v z q=>k c v q) (λc q=>by rwa[af<|ah q d]) λc X q=>by rwa[af<|ah q d]
end
def Rd(H:Hp)(a:C')(u:HO):Prop:=H a=gV u\/∃o,H a=gV (.frz o u)
theorem Rd.of(h:H a=gV u):Rd H a u:=.inl h
theorem Rd.ok(r:Rd H a u)(x:HOk P w H h):ObjOk P w H h a u:=by
 obtain r|⟨o,r⟩:=r
 ·exact x a u r
 obtain⟨z,q⟩:=x a _ r;exact q
def Ko:NW HO->Prop
 |some (.lst _)=>True
 |some (.dK _)=>True
 |some (.dT _)=>True
 |some (.set _ _)=>True
 |some (.ins _ _ _)=>True
 |some (.ext _)=>True
 |_=>False
theorem HOk.write(g:HOk P w H h)(m:Ko (H x))(j:e=x\/H e=gV (.own x))(k:∀b u,b≠e->h.get? b=gV u->h'.get? b=gV u)(o:∃u,h'.get? e=gV u)
  (N:ObjOk P w (upd H x O) h' x O):HOk P w (upd H x O) h':=λb u q=>by
 have A:∀c y,H c=gV (.own y)->c≠x:=λc y r z=>by subst z;rwa[r]at m
 have n:∀c X,H c=gV (.tup X)->c≠x:=λc X r z=>by subst z;rwa[r]at m
 by_cases d:b=x
 ·subst d;rw[aa]at q;cases q;exact N
 rw[af d]at q;by_cases a:b=e
 ·have Q:H b=gV (.own x):=by
   lia
  rw[q]at Q;cases Q;obtain⟨v,i⟩:=o;exact⟨v,by rwa[a]⟩
 refine(g b u q).stay (λc v f r=>k c v ?_ r) (λc r=>by rwa[af<|A c b r]) λc X r=>by rwa[af<|n c X r]
 grind
structure Un (fs ex:ab C')(H H':Hp)(h h':O5):Prop where
 keep:∀b o,h.get? b=gV o->H b=N4->b∉fs->b∉ex->h'.get? b=gV o
 slot:∀b o,h.get? b=gV o->H b=N4->b∈fs->b∉ex->∃sl,h'.get? b=gV {o with slots:=sl}
 free:∀b o,h.get? b=gV o->H b=N4->b∉ex->H' b=N4
 there:∀b o,h.get? b=gV o->b∉ex->∃o',h'.get? b=gV o'
 tups:∀b xs,H b=gV (.tup xs)->H' b=gV (.tup xs)
 frzs:∀b o u,H b=gV (.frz o u)->H' b=gV (.frz o u)
 tbls:∀b ps,H b=gV (.tbl ps)->∃more,H' b=gV (.tbl<|ps++more)
theorem Un.any(u:Un f e H d h c)(q:h.get? b=gV o)(n:H b=N4)(x:b∉e):∃s,c.get? b=gV {o with slots:=s}:=by
 by_cases a:b∈f
 ·exact u.slot b o q n a x
 exact⟨o.slots,u.keep b o q n a x⟩
theorem Un.kept(k:∀b u,h.get? b=gV u->h'.get? b=gV u):Un f e H H h h':=
 ⟨λb o q z z z=>k b o q,λb o q z z z=>⟨o.slots,k b o q⟩,λz z z n z=>n,λb o q z=>⟨o,k b o q⟩,λz z q=>q,λz z z q=>q,λz p q=>by simp_all⟩
theorem Un.refl:Un f e H H h h:=Un.kept λz z q=>q
theorem Un.laid(k:∀b u,h.get? b=gV u->h'.get? b=gV u)(p:h.objs.size<=a)(c:H a=N4):Un f e H (upd H a o) h h' where
 keep:=λb u q z z z=>k b u q
 slot:=λb u q z z z=>⟨u.slots,k b u q⟩
 free:=λb u q n z=>by rwa[af<|OF<|Pb (On q) p]
 there:=λb u q z=>⟨u,k b u q⟩
 tups:=λb x q=>by rwa[af<|ah q c]
 frzs:=λb u x q=>by rwa[af<|ah q c]
 tbls:=λb P q=>⟨#[],by rw[af<|ah q c,q];simp⟩
theorem Un.write(m:Ko (H x))(i:e=x\/H e=gV (.own x))(k:∀b u,b≠e->h.get? b=gV u->h'.get? b=gV u)(c:∃u,h'.get? e=gV u):Un F E H (upd H x o) h h':=by
 have f:∀b,H b=N4->b≠x:=λb n z=>by subst z;rwa[n]at m
 have g:∀b,H b=N4->b≠e:=λb n z=>by
  simp_all
 have d:∀b u,H b=gV u->¬Ko (gV u)->b≠x:=λb u q N z=>by simp_all
 refine⟨λb u q n y y=>k b u (g b n) q,λb u q n y y=>⟨u.slots,k b u (g b n) q⟩,λb u q n y=>by rwa[af<|f b n],λb u q y=>?_,
  λb X q=>by rwa[af<|d b _ q λz=>z],λb u X q=>by rwa[af<|d b _ q λz=>z],λb p q=>⟨#[],by rw[af<|d b _ q λz=>z,q];simp⟩⟩
 by_cases a:b=e
 ·subst a;exact c
 exact⟨u,k b u a q⟩
noncomputable def Mq(h:O5)(H:Hp):ab C':=(O1 h.objs.size).filter λa=>(H a).isSome
noncomputable def oX(h:O5)(H:Hp):O5:=PySem.W.hideAll h<|Mq h H
theorem yj(h:O5)(H:Hp):(oX h H).objs.size=h.objs.size:=PySem.W.hideAll_size _ _
theorem Ag(e:h.get? b=gV o)(n:H b=N4):(oX h H).get? b=gV o:=
 PySem.W.hideAll_get _ e λm=>by
  have q:=(Oq.mp m).2;simp_all
theorem Eh(e:(oX h H).get? b=gV o):h.get? b=gV o/\H b=none:=by
 have E:=PySem.W.of_hideAll _ e;exists E;cases q:H b with
 |none=>rfl
 |some x=>
  have m:b∈Mq h H:=Oq.mpr ⟨Qh.mpr<|On E,by simp[q]⟩;have z:(oX h H).get? b=none:=PySem.W.hideAll_none _ m;lia
structure Mod (K:B')(mg:Str->NW M')(base:O5):Prop where
 kin:K.In base
 glob:base.Ns OS mg
 blt:∃mb,base.Ns UK mb/\∀x:Str,x≠"__name__"->mb x=Ua x
 nolimit:base.NoLimit
structure Cx where
 prog:Of
 w:OE
 K:B'
 mg:Str->NW M'
 base:O5
 A:Pr
 N:ab Str
 s₀:N8
 H₀:Hp
 env:Env
 outer:ab Env
 stack:ab Env
 ex:ab C'
 fn:Str->N6
 calm:N6
 pn:ab (C'×Obj)
 xe:M'->N8->Prop
noncomputable def rW(l:ab Env):ab C':=l.filterMap (·.frame)
noncomputable abbrev Cx.fs(X:Cx):ab C':=rW X.outer
def Ki(s:Sm)(x:Str):Prop:=s.names.lookup x=gV .local\/s.names.lookup x=gV .cell\/s.names.lookup x=gV .free
def Ia(s:Sm)(x:Str):Prop:=s.names.lookup x=gV .local\/s.names.lookup x=gV .cell
def MC(e:Env)(h:O5)(m:Str->NW M')(x:Str)(u:M'):Prop:=
 (e.kindOf x=gV .local/\m x=gV u)\/((e.kindOf x=gV .cell\/e.kindOf x=gV .free)/\∃c,e.cells.lookup x=gV c/\h.IsCell c (gV u))
structure Cx.Ok (X:Cx):Prop where
 mod:Mod X.K X.mg X.base
 kind:X.env.scope.kind=.function
 glob:X.env.globals=OS
 blt:X.env.builtins=UK
 above:X.s₀.heap.objs.size<=X.env.locals
 inj:∀x y c,X.env.cells.lookup x=gV c->X.env.cells.lookup y=gV c->x=y
 has:∀x,(X.env.kindOf x=gV .cell\/X.env.kindOf x=gV .free)->∃c,X.env.cells.lookup x=gV c
 cab:∀x c,X.fn x=NU->X.env.cells.lookup x=gV c->X.s₀.heap.objs.size<=c
 hd:X.calm=NU->X.A.handled=N4
 frames:X.A.frames=gV X.stack
 stk:X.stack=X.outer\/(X.stack=X.env::X.outer/\X.env.frame=gV X.env.locals)
 exf:∀b∈X.ex,b≠X.env.locals/\∀x c,X.env.cells.lookup x=gV c->c≠b
 bs:∀b o,X.base.get? b=gV o->X.s₀.heap.get? b=gV o/\X.H₀ b=N4
 bsz:X.base.objs.size<=X.s₀.heap.objs.size
 noex:∀b o,X.base.get? b=gV o->b∉X.ex
 exfs:∀b∈X.ex,b∉X.fs
 funs:X.s₀.heap.FunFrames X.base X.outer
 frf:∀b∈X.fs,X.H₀ b=N4
structure Inv (X:Cx)(N5:ab (C'×Obj))(σ:ab (NW V))(H:Hp)(s:N8):Prop where
 ok:X.Ok
 os:s.os=X.s₀.os
 bare:Vl s.gens
 base:Un X.fs X.ex X.H₀ H X.s₀.heap s.heap
 loc:∃m,s.heap.Ns X.env.locals m/\∀(i:Nat) (x:Str) (v:V),X.N[i]?=gV x->σ[i]?=gV (gV v)->Ki X.env.scope x->∃u,RelV v u/\MC X.env s.heap m x u
 cell:∀x c,X.env.cells.lookup x=gV c->∃v,s.heap.IsCell c v
 free:H X.env.locals=N4
 freeC:∀x c,X.env.cells.lookup x=gV c->H c=N4
 pin:∀p∈X.pn++N5,s.heap.get? p.1=gV p.2/\H p.1=N4/\p.1≠X.env.locals/\p.1∉X.fs/\∀v,p.2.data≠.cell v
 hok:HOk X.prog X.w H s.heap
 len:σ.length=X.N.length
theorem Cx.Ok.nofr{X:Cx}(O:X.Ok)(e:X.base.get? b=gV o):b∉X.fs:=λh=>by
 have:=(O.funs.mem h).1;lia
theorem Inv.bs(I:Inv X O a H s):∀b o,X.base.get? b=gV o->s.heap.get? b=gV o/\H b=none:=λb o e=>
 ⟨I.base.keep b o (I.ok.bs b o e).1 (I.ok.bs b o e).2 (I.ok.nofr e)<|I.ok.noex b o e,I.base.free b o (I.ok.bs b o e).1 (I.ok.bs b o e).2<|I.ok.noex b o e⟩
theorem Inv.bk(I:Inv X O a H s):∀b o,X.base.get? b=gV o->s.heap.get? b=gV o:=λb o e=>(I.bs b o e).1
theorem Inv.mod(I:Inv X O a H s):Mod X.K X.mg X.base:=I.ok.mod
theorem Inv.kIn(I:Inv X O a H s):X.K.In s.heap:=I.ok.mod.kin.keeps I.bk
theorem Inv.lt(I:Inv X O a H s):X.env.locals<s.heap.objs.size:=let ⟨_,h,_⟩:=I.loc;h.lt
theorem Inv.sz(I:Inv X O a H s):X.s₀.heap.objs.size<=s.heap.objs.size:=O6 I.ok.above<|OQ I.lt
theorem Inv.nofs(I:Inv X O d H s){a:C'}(h:s.heap.objs.size<=a):a∉X.fs:=λb=>by
 obtain⟨z,o,c,z⟩:=I.ok.funs.mem b;exact absurd (Pb (On c)<|O6 I.sz h)<|QR _
theorem Inv.cne(I:Inv X O f H s):∀x c,X.env.cells.lookup x=gV c->c≠X.env.locals:=λx c e z=>by
 obtain⟨v,o,b,d⟩:=I.cell x c e;obtain⟨m,⟨g,E,p,h,a,y⟩,y⟩:=I.loc;simp_all
theorem Inv.funs(I:Inv X O q H s):s.heap.FunFrames X.base X.outer:=by
 have a:∀l,(∀b∈rW l,b∈X.fs)->X.s₀.heap.FunFrames X.base l->s.heap.FunFrames X.base l:=by
  intro l
  induction l with
  |nil=>intro y y;trivial
  |cons E r i=>
   intro f g;obtain⟨k,⟨L,o,h,n,j,m⟩,p⟩:=g;have c:=f L (by unfold rW;rw[Q0,h];exact Om);obtain⟨t,e⟩:=I.base.slot L o j (I.ok.frf L c) c λz=>I.ok.exfs L z c;exact⟨k,⟨L,_,h,n,e,m⟩,i (λb d=>f b<|by unfold rW;rw[Q0,h];exact Ov _ d) p⟩
 exact a _ (λy d=>d) I.ok.funs
theorem Inv.stack(I:Inv X O a H s):s.heap.FunFrames X.base X.stack:=by
 obtain e|⟨e,h⟩:=I.ok.stk
 ·rw[e];exact I.funs
 rw[e];obtain⟨m,n,z⟩:=I.loc;exact .cons (by rw[I.ok.kind];decide) h n (Xn<|O6 I.ok.bsz I.ok.above) I.funs
theorem Inv.stkSub(I:Inv X O a H s):∀b∈rW X.stack,b∈X.env.locals::X.fs:=λb h=>by
 obtain e|⟨e,f⟩:=I.ok.stk
 ·rw[e]at h;exact Ov _ h
 rw[e]at h;unfold rW at h;rwa[Q0,f]at h
theorem Inv.stkFree(I:Inv X O c H s):∀b∈rW X.stack,H b=none:=λb h=>by
 obtain e|h:=Oz.mp (I.stkSub b h)
 ·rw[e];exact I.free
 obtain⟨y,o,a,y⟩:=I.ok.funs.mem h;exact I.base.free b o a (I.ok.frf b h) λz=>I.ok.exfs b z h
theorem Inv.step{g':Qp ti}{t':Nat}{d':Drawn}{ch:ab C'}(I:Inv X Y σ H s)
  (a:∀b∈ch,(b∈X.ex\/X.s₀.heap.objs.size<=b)/\b≠X.env.locals/\(∀x c,X.env.cells.lookup x=gV c->c≠b)/\∀p∈X.pn++Y,p.1≠b)
  (g:∀b o,b≠X.env.locals->b∉X.fs->b∉ch->s.heap.get? b=gV o->H b=N4->h'.get? b=gV o)
  (ac:∀b o,b≠X.env.locals->b∈X.fs->b∉ch->s.heap.get? b=gV o->H b=N4->∃J,h'.get? b=gV {o with slots:=J}) (f:∀b o,b∉ch->s.heap.get? b=gV o->H b=N4->A b=N4)
  (t:∀b o,b∉ch->s.heap.get? b=gV o->∃O,h'.get? b=gV O)
  (T:∀b j,H b=gV (.tup j)->A b=gV (.tup j)) (F:∀b o u,H b=gV (.frz o u)->A b=gV (.frz o u)) (B:∀b P,H b=gV (.tbl P)->∃M,A b=gV (.tbl<|P++M))
  (ns:∀m,s.heap.Ns X.env.locals m->h'.Ns X.env.locals m) (Q:HOk X.prog X.w A h') (hg:Vl g'):
  Inv X Y σ A {s with heap:=h',gens:=g',drawn:=d',toks:=t'}:=by
 have L:∀b o,X.s₀.heap.get? b=gV o->b≠X.env.locals:=λb o e=>OF<|Pb (On e) I.ok.above;have C:∀b o,X.s₀.heap.get? b=gV o->b∉X.ex->b∉ch:=λb o e h w=>by
  obtain z|z:=(a b w).1
  ·exact h z
  exact absurd (Pb (On e) z)<|QR _
 have D:∀x c,X.env.cells.lookup x=gV c->∀v,s.heap.IsCell c v->h'.IsCell c v:=λx c e v ⟨o,y,U⟩=>by
  have N:=λz=>(a c z).2.2.1 x c e rfl;by_cases Z:c∈X.fs
  ·obtain⟨J,q⟩:=ac c o (I.cne x c e) Z N y<|I.freeC x c e;exact⟨_,q,U⟩
  exact⟨o,g c o (I.cne x c e) Z N y<|I.freeC x c e,U⟩
 refine⟨I.ok,I.os,hg,⟨λb o e n w h=>?_,λb o e n w h=>?_,λb o e n h=>?_,λb o e h=>?_,λb j e=>T b j<|I.base.tups b j e,λb o j e=>F b o j<|I.base.frzs b o j e,λb P e=>?_⟩,?_,λx c e=>?_,?_,λx c e=>?_,λp hp=>?_,Q,I.len⟩
 ·exact g b o (L b o e) w (C b o e h) (I.base.keep b o e n w h)<|I.base.free b o e n h
 ·obtain⟨J,E⟩:=I.base.slot b o e n w h;obtain⟨W,G⟩:=ac b _ (L b o e) w (C b o e h) E<|I.base.free b o e n h;exact⟨W,G⟩
 ·obtain⟨O,E⟩:=I.base.there b o e h;exact f b O (C b o e h) E<|I.base.free b o e n h
 ·obtain⟨O,E⟩:=I.base.there b o e h;exact t b O (C b o e h) E
 ·obtain⟨m1,E⟩:=I.base.tbls b P e;grind
 ·obtain⟨m,hn,hl⟩:=I.loc;refine⟨m,ns m hn,λi x v E G e3=>?_⟩;obtain⟨u,r,l⟩:=hl i x v E G e3;exists u,r;obtain l|⟨k,c,e,z⟩:=l
  ·exact .inl l
  exact .inr ⟨k,c,e,D x c e _ z⟩
 ·obtain⟨v,z⟩:=I.cell x c e;exact⟨v,D x c e v z⟩
 ·obtain⟨m,⟨o,V,V,y,V⟩,V⟩:=I.loc;exact f _ o (λz=>(a _ z).2.1 rfl) y I.free
 ·obtain⟨v,o,y,U⟩:=I.cell x c e;exact f c o (λz=>(a c z).2.2.1 x c e rfl) y<|I.freeC x c e
 obtain⟨e,n,ne,nf,d⟩:=I.pin p hp;have N:=λz=>(a p.1 z).2.2.2 p hp rfl;exact⟨g p.1 p.2 ne nf N e n,f p.1 p.2 N e n,ne,nf,d⟩
theorem Inv.un(I:Inv X O g H s)(u:Un X.fs [] H d s.heap h')(k:HOk X.prog X.w d h'):Inv X O g d {s with heap:=h',toks:=t'}:=by
 obtain⟨m,⟨o,l,p,f,r⟩,y⟩:=id I.loc;obtain⟨q,L⟩:=u.any f I.free (by simp);exact I.step (ch:=[]) (λy z=>nomatch z) (λb o y a y e n=>u.keep b o e n a<|by simp) (λb o y a y e n=>u.slot b o e n a<|by simp) (λb o y e n=>u.free b o e n<|by simp) (λb o y e=>u.there b o e<|by simp) u.tups u.frzs u.tbls (λM i=>by
  obtain⟨t,E,c,h,j⟩:=i;rw[f]at h;cases h;exact⟨_,E,c,L,j⟩) k I.bare
theorem Inv.call{t':Nat}{d':Drawn}(I:Inv X O j H s)(u:Un (rW X.stack) ch H g s.heap h')(k:HOk X.prog X.w g h')(l:Vl g')
  (a:∀b∈ch,(b∈X.ex\/X.s₀.heap.objs.size<=b)/\b≠X.env.locals/\(∀x c,X.env.cells.lookup x=gV c->c≠b)/\∀p∈X.pn++O,p.1≠b):
  Inv X O j g {s with heap:=h',gens:=g',drawn:=d',toks:=t'}:=by
 obtain⟨m,⟨o,w,y,i,r⟩,Z⟩:=id I.loc;obtain⟨A,L⟩:=u.any i I.free λz=>(a _ z).2.1 rfl;exact I.step a (λb o L q h e n=>u.keep b o e n (λz=>(Oz.mp<|I.stkSub b z).elim L q) h) (λb o Z Z h e n=>u.any e n h) (λb o h e n=>u.free b o e n h) (λb o h e=>u.there b o e h) u.tups u.frzs u.tbls (λM t=>by
  obtain⟨B,E,f,d,v⟩:=t;rw[i]at d;cases d;exact⟨_,E,f,L,v⟩) k l
theorem Inv.turned{t':Nat}(I:Inv X O a H s)(k:∀b o,b≠i->s.heap.get? b=gV o->h'.get? b=gV o)(d:H i=N4)(L:i≠X.env.locals)
  (f:i∈X.ex\/X.s₀.heap.objs.size<=i) (g:∀x c,X.env.cells.lookup x=gV c->c≠i) (j:∀p∈X.pn++O,p.1≠i):Inv X O a H {s with heap:=h',toks:=t'}:=by
 refine I.step (ch:=[i]) (λb l=>?_) (λb o z z h e z=>k b o (by simp_all) e) (λb o z z h e z=>⟨o.slots,k b o (by simp_all) e⟩) (λz z z z n=>n)
  (λb o h e=>⟨o,k b o (by simp_all) e⟩) (λz z e=>e) (λz z z e=>e) (λb P e=>⟨#[],by rw[e];simp⟩) (λm t=>?_) (λb u e=>?_) I.bare
 ·have e:b=i:=by simpa using l
  subst e;exact⟨f,L,g,j⟩
 ·obtain⟨o,E,w,y,r⟩:=t;exact⟨o,E,w,k _ o (Pw L) y,r⟩
 refine(I.hok b u e).stay (λc v h q=>k c v ?_ q) (λz q=>q) λz z q=>q;lia
theorem Inv.tok(I:Inv X O a H s)(t:Nat):Inv X O a H {s with toks:=t}:=I.un Un.refl I.hok
theorem Inv.kept(I:Inv X O a H s)(k:∀b u,s.heap.get? b=gV u->h'.get? b=gV u):Inv X O a H {s with heap:=h',toks:=t'}:=I.un (Un.kept k)<|I.hok.kept k
theorem Inv.laid{a:C'}{o:HO}{t':Nat}(I:Inv X O c H s)(k:∀b u,s.heap.get? b=gV u->h'.get? b=gV u)(h:s.heap.objs.size<=a)(n:ObjOk X.prog X.w (upd H a o) h' a o):
  Inv X O c (upd H a o) {s with heap:=h',toks:=t'}:=I.un (Un.laid k h<|I.hok.fresh h)<|I.hok.laid k h n
theorem Inv.write{o:HO}{t':Nat}(I:Inv X O c H s)(m:Ko (H x))(a:e=x\/H e=gV (.own x))(k:∀b u,b≠e->s.heap.get? b=gV u->h'.get? b=gV u)(h:∃u,h'.get? e=gV u)
  (n:ObjOk X.prog X.w (upd H x o) h' x o):Inv X O c (upd H x o) {s with heap:=h',toks:=t'}:=I.un (Un.write m a k h)<|I.hok.write m a k h n
theorem Inv.pins_of(I:Inv X O b H s)(h:∀p∈a,s.heap.get? p.1=gV p.2/\H p.1=N4/\p.1≠X.env.locals/\p.1∉X.fs/\∀v,p.2.data≠.cell v):Inv X a b H s:=
 ⟨I.ok,I.os,I.bare,I.base,I.loc,I.cell,I.free,I.freeC,λp c=>(OB.mp c).elim (λz=>I.pin p<|Qw _ z)<|h p,I.hok,I.len⟩
theorem sh{N:ab Str}(h:N.Nodup){i j:Nat}{x:Str}(a:N[i]?=gV x) (b:N[j]?=gV x):i=j:=by
 obtain⟨H,e⟩:=NT.mp a;obtain⟨c,E⟩:=NT.mp b;exact(ZE h).mp<|e.trans E.symm
theorem pc{M:kc}{A:Pr}{E:M'->N8->Prop}{Q:Xf->N8->Prop}(I:Inv X N5 σ H s)(hN:X.N.Nodup)(N:X.N[i]?=gV x)(t:Ia X.env.scope x)(r:RelV v u)
  (h:∀P,Inv X N5 (σ.set i<|gV v) H P->(∃a,SX a s.heap P.heap/\(a=X.env.locals\/X.env.cells.lookup x=gV a))->Q () P) (hf:X.fn x=NU\/X.env.scope.names.lookup x=gV .local:=by first|exact .inl rfl|exact .inr rfl|assumption):wpAny M A (oa X.env x u) Q E s:=by
 obtain⟨m,hn,hl⟩:=id I.loc;have ac:(X.env.scope.kind == .class || (X.env.scope.kind == .module&&X.env.locals != X.env.globals))=false:=by rw[I.ok.kind];rfl
 have B:i<σ.length:=by rw[I.len];exact(NT.mp N).1
 have D:=I.cne;have O:∀{a:C'} {L:O5},(∃o,s.heap.get? a=gV o/\H a=N4)->SX a _ L->HOk _ X.w H L:=λ{a L} ha f b ob e=>by
  refine(I.hok b ob e).stay (λc W l q=>(f.2 c ?_).trans q) (λV q=>q) λV V q=>q;lia
 obtain C|C:=t
 ·refine wpAny_storeName_local C hn (λL am f=>?_) ac;obtain⟨oL,V,V,an,V⟩:=id hn;refine h _ ⟨I.ok,I.os,I.bare,⟨λb o e n F t=>?_,λb o e n F t=>?_,I.base.free,λb o e t=>?_,I.base.tups,I.base.frzs,I.base.tbls⟩,⟨_,am,λj y v' g w e3=>?_⟩,λy c e=>?_,I.free,I.freeC,λp hp=>?_,O ⟨oL,an,I.free⟩ f,by simpa using I.len⟩ ⟨_,f,.inl rfl⟩
  ·exact(f.2 b<|OF<|Pb (On e) I.ok.above).trans<|I.base.keep b o e n F t
  ·obtain⟨sl,g⟩:=I.base.slot b o e n F t;exact⟨sl,(f.2 b<|OF<|Pb (On e) I.ok.above).trans g⟩
  ·obtain⟨o',g⟩:=I.base.there b o e t;exact⟨o',(f.2 b<|OF<|Pb (On e) I.ok.above).trans g⟩
  ·by_cases G:j=i
   ·subst G;rw[N]at g;cases g;rw[WW B]at w;cases w;exact⟨u,r,.inl ⟨C,by simp⟩⟩
   rw[Xw<|Pw G]at w;obtain⟨u',r',q⟩:=hl j y v' g w e3;exists u',r';obtain⟨k,e⟩|⟨k,c,e,z⟩:=q
   ·refine .inl ⟨k,?_⟩;have:y≠x:=λe=>G<|sh hN g<|e▸N;simp_all
   exact .inr ⟨k,c,e,z.sameBut f<|D y c e⟩
  ·obtain⟨W,z⟩:=I.cell y c e;exact⟨W,z.sameBut f<|D y c e⟩
  obtain⟨e,n,Y,nf,d⟩:=I.pin p hp;exact⟨(f.2 p.1 Y).trans e,n,Y,nf,d⟩
 have J:X.fn x=true:=by
  simp_all
 obtain⟨c,l⟩:=I.ok.has x<|.inl C;obtain⟨W,z⟩:=I.cell x c l;refine wpAny_storeName_cell I.ok.kind C l z λL WB f=>?_;obtain⟨oc,T,as⟩:=id z;refine h _ ⟨I.ok,I.os,I.bare,⟨λb o e n F t=>?_,λb o e n F t=>?_,I.base.free,λb o e t=>?_,I.base.tups,I.base.frzs,I.base.tbls⟩,⟨m,hn.sameBut f<|Pw<|D x c l,λj y v' g w e3=>?_⟩,λy Z e=>?_,I.free,I.freeC,λp hp=>?_,O ⟨oc,T,I.freeC x c l⟩ f,by simpa using I.len⟩ ⟨c,f,.inr l⟩
 ·exact(f.2 b<|OF<|Pb (On e)<|I.ok.cab x c J l).trans<|I.base.keep b o e n F t
 ·obtain⟨sl,g⟩:=I.base.slot b o e n F t;exact⟨sl,(f.2 b<|OF<|Pb (On e)<|I.ok.cab x c J l).trans g⟩
 ·obtain⟨o',g⟩:=I.base.there b o e t;exact⟨o',(f.2 b<|OF<|Pb (On e)<|I.ok.cab x c J l).trans g⟩
 ·by_cases G:j=i
  ·subst G;rw[N]at g;cases g;rw[WW B]at w;cases w;exact⟨u,r,.inr ⟨.inl C,c,l,WB⟩⟩
  rw[Xw<|Pw G]at w;obtain⟨u',r',q⟩:=hl j y v' g w e3;exists u',r';obtain q|⟨k,Z,e,z'⟩:=q
  ·exact .inl q
  refine .inr ⟨k,Z,e,z'.sameBut f ?_⟩;rintro rfl;exact G<|sh hN g<|I.ok.inj _ _ _ e l▸N
 ·by_cases U:Z=c
  ·subst U;exact⟨_,WB⟩
  obtain⟨w2,z2⟩:=I.cell y Z e;exact⟨w2,z2.sameBut f U⟩
 obtain⟨e,n,Y,nf,d⟩:=I.pin p hp;refine⟨(f.2 p.1 ?_).trans e,n,Y,nf,d⟩;grind
theorem mE{M:kc}{A:Pr}{E:M'->N8->Prop}{Q:Xf->N8->Prop}(I:Inv X O b H s)(N:X.N.Nodup)(c:X.N[i]?=gV x)(d:Ia X.env.scope x)(r:RelV v u)
  (h:∀a,Inv X O (b.set i<|gV v) H a->Q () a) (f:X.fn x=NU\/X.env.scope.names.lookup x=gV .local:=by first|exact .inl rfl|exact .inr rfl|assumption):wpAny M A (oa X.env x u) Q E s:=
 pc I N c d r (λa e z=>h a e) f
theorem Inv.call'(I:Inv X O g H s)(o:a.os=s.os)(u:Un (rW X.stack) ch H f s.heap a.heap)(h:HOk X.prog X.w f a.heap)(i:Vl a.gens)
  (d:∀b∈ch,(b∈X.ex\/X.s₀.heap.objs.size<=b)/\b≠X.env.locals/\(∀x c,X.env.cells.lookup x=gV c->c≠b)/\∀p∈X.pn++O,p.1≠b):Inv X O g f a:=by
 obtain⟨k,G,D,t,j⟩:=a;have e:=o;subst e;exact I.call u h i d
abbrev XK:=M'->NW C'->Hp->Prop
abbrev St:=ab<|NW V
abbrev VK:=V->Hp->Prop
abbrev TE:=St->Hp->VK->Prop
abbrev TT:=St->Hp->(N6->Hp->Prop)->Prop
abbrev TA:=St->Hp->(ab V->Hp->Prop)->Prop
structure g7 where
 nx:St->Hp->Prop
 rt:VK
 bk:St->Hp->Prop:=λ_ _=>False
 ct:St->Hp->Prop:=λ_ _=>False
abbrev TS:=g7->St->Hp->Prop
def EP(X:Cx)(N:ab (C'×Obj))(a:St)(Q:VK)(u:M')(s:N8):Prop:=∃v H,Inv X N a H s/\RelV v u/\Q v H
def TP(X:Cx)(N:ab (C'×Obj))(a:St)(Q:N6->Hp->Prop)(b:N6)(s:N8):Prop:=∃H,Inv X N a H s/\Q b H
def AP(X:Cx)(N:ab (C'×Obj))(a:St)(Q:ab V->Hp->Prop)(u:ab M')(s:N8):Prop:=∃v H,Inv X N a H s/\Vals v u/\Q v H
def SP(X:Cx)(N:ab (C'×Obj))(D:g7)(f:Flow)(s:N8):Prop:=
 match f with
 |.next=>∃a H,Inv X N a H s/\D.nx a H
 |.brk=>∃a H,Inv X N a H s/\D.bk a H
 |.cont=>∃a H,Inv X N a H s/\D.ct a H
 |.ret u=>∃v a H,Inv X N a H s/\RelV v u/\D.rt v H
def PE(X:Cx)(e:Pl)(t:TE):Prop:=
 ∀(N:ab (C'×Obj)) (s:N8) (a:St) (H:Hp) (Q:VK),Inv X N a H s->t a H Q->wpAny (OI X.prog X.w) X.A (Qs e X.env) (EP X N a Q) X.xe s
def PT(X:Cx)(e:Pl)(t:TT):Prop:=
 ∀(N:ab (C'×Obj)) (s:N8) (a:St) (H:Hp) (Q:N6->Hp->Prop),Inv X N a H s->t a H Q->wpAny (OI X.prog X.w) X.A (isTrue e X.env<|Qs e X.env) (TP X N a Q) X.xe s
def PW(X:Cx)(e:Pl)(t:TT):Prop:=
 ∀(x:Sem M') (N:ab (C'×Obj)) (s:N8) (a:St) (H:Hp) (Q:N6->Hp->Prop),Inv X N a H s->t a H Q->wpAny (OI X.prog X.w) X.A (isTrue e X.env x) (TP X N a Q) X.xe s
theorem PW.pt(h:PW X e t):PT X e t:=h _
def PA(X:Cx)(e:ab Pl)(t:TA):Prop:=
 ∀(p:Pos) (N:ab (C'×Obj)) (s:N8) (a:St) (H:Hp) (Q:ab V->Hp->Prop),Inv X N a H s->t a H Q->wpAny (OI X.prog X.w) X.A (spliced<|Rl p<|ON e X.env) (AP X N a Q) X.xe s
def PS(X:Cx)(st:Pk)(t:TS):Prop:=
 ∀(N:ab (C'×Obj)) (s:N8) (a:St) (H:Hp) (D:g7),Inv X N a H s->t D a H->wpAny (OI X.prog X.w) X.A (exec st X.env) (SP X N D) X.xe s
def PSs(X:Cx)(st:ab Pk)(t:TS):Prop:=
 ∀(N:ab (C'×Obj)) (s:N8) (a:St) (H:Hp) (D:g7),Inv X N a H s->t D a H->wpAny (OI X.prog X.w) X.A (execs st X.env) (SP X N D) X.xe s
theorem bu{b:Type}{t:Sem b}{Q q:b->N8->Prop}{M:kc}{A:Pr}{E:M'->N8->Prop}{s:N8}(h:wpAny M A t Q E s)(H:∀a s,Q a s->q a s):wpAny M A t q E s:=Qq h H λz z x=>x
inductive Gv (i:Nat)(a:St)(H:Hp)(Q:VK):Prop
 |mk (v:V)(h:a[i]?=gV (gV v)) (q:Q v H)
def mG(i:Nat):TE:=λa H Q=>Gv i a H Q
def tC(v:V):TE:=λ_ H Q=>Q v H
theorem Ah{X:Cx}{i:Nat}{x:Str}{p:Pos}(N:X.N[i]?=gV x) (j:Ki X.env.scope x) (d:(x == ("__debug__":Str))=false:=by decide) (b:(x == ("__classdict__":Str))=false:=by decide):PE X (.Name x p) (mG i):=by
 intro O s n H Q I h;obtain⟨v,e,h⟩:=h;obtain⟨m,o,q⟩:=I.loc;obtain⟨u,r,l⟩:=q i x v N e j;have f:EP X O n Q u s:=⟨v,H,I,r,h⟩;obtain⟨k,t⟩|⟨k,c,g,a⟩:=l
 ·exact qb (Xg I.ok.kind k o t f) d
 obtain k|k:=k
 ·exact qb (XJ I.ok.kind k g a f) d
 exact qb (wpAny_loadName_free I.ok.kind k g a f b) d
theorem cZ{i j p}:PE X (.Constant (.int i) j p) (tC<|.int i):=λz z z H z I h=>wpAny_Constant_int ⟨.int i,H,I.tok _,⟨_,rfl⟩,h⟩
theorem fT{b j p}:PE X (.Constant (.bool b) j p) (tC<|.bl b):=λz z z H z I h=>Constant_bool ⟨.bl b,H,I,rfl,h⟩
theorem fN{j p}:PE X (.Constant .none j p) (tC .non):=λz z z H z I h=>Constant_none ⟨.non,H,I,rfl,h⟩
theorem gz{x j p}:PE X (.Constant (.str x) j p) (tC<|.str x):=λz z z H z I h=>Calls.Constant_str ⟨.str x,H,I.tok _,⟨_,rfl⟩,h⟩
def Gl(X:Cx)(x:Str):Prop:=X.env.kindOf x=gV .globalImplicit
theorem l9{E:M'->N8->Prop}{p:Pos}(I:Inv X O a H s)(g:Gl X x)(m:X.mg x=gV u)(h:Q u s)
  (d:(x == ("__debug__":Str))=false:=by decide):wpAny (OI X.prog X.w) X.A (Qs (.Name x p) X.env) Q E s:=
 Vw I.ok.kind g (Calls.loadGlobal_global (by rw[I.ok.glob];exact I.mod.glob.keeps I.bk) m h) d
theorem c7{E:M'->N8->Prop}{p:Pos}(I:Inv X O c H s)(g:Gl X x)(m:X.mg x=N4)(v:Ua x=gV u)(h:Q u s)
  (n:x≠"__name__":=by decide) (d:(x == ("__debug__":Str))=false:=by decide):wpAny (OI X.prog X.w) X.A (Qs (.Name x p) X.env) Q E s:=by
 obtain⟨M,a,b⟩:=I.mod.blt;exact Vw I.ok.kind g (Calls.loadGlobal_builtin (by rw[I.ok.glob];exact I.mod.glob.keeps I.bk) m (by rw[I.ok.blt];exact a.keeps I.bk) ((b x n).trans v) h) d
theorem Ei(g:Gl X x)(m:X.mg x=gV u)(r:RelV v u)(d:(x == ("__debug__":Str))=false:=by decide):PE X (.Name x p) (tC v):=
 λz z z H z I h=>l9 I g m ⟨v,H,I,r,h⟩ d
theorem l_{x:Str}{v:V}{u:M'}{p:Pos}(g:Gl X x)(m:X.mg x=N4)(a:Ua x=gV u)(r:RelV v u)(n:x≠"__name__":=by decide)(d:(x == ("__debug__":Str))=false:=by decide):PE X (.Name x p) (tC v):=
 λz z z H z I h=>c7 I g m a ⟨v,H,I,r,h⟩ n d
def PC(X:Cx)(o:ZO)(a b:Pl)(t:TE):Prop:=
 ∀(N:ab (C'×Obj)) (s:N8) (e:St) (H:Hp) (Q:VK),Inv X N e H s->t e H Q->
  wpAny (OI X.prog X.w) X.A (Qs a X.env) (λv c=>wpAny (OI X.prog X.w) X.A (Qs b X.env) (λu d=>wpAny (OI X.prog X.w) X.A (PL o v u) (EP X N e Q) X.xe d) X.xe c) X.xe s
inductive Ib (x:V)(Q:N6->Hp->Prop)(H:Hp):Prop
 |mk (c:N6)(h:x=.bl c)(q:Q c H)
def tB(t:TE):TT:=λa H Q=>t a H λx h=>Ib x Q h
theorem jc(h:PC X o a b t)(e:Su o b=false:=by first|exact nobehind _ (by decide) (by decide)|rfl):PT X (.Compare a [o] [b] p) (tB t):=by
 intro O s f H Q I w;refine W6 (bu (h O s f H _ I w) λv l e=>bu e λu m g=>bu g λc n ⟨x,i,j,r,k⟩=>?_) e;obtain⟨d,rfl,q⟩:=k;cases r;exact PR ⟨i,j,q⟩
theorem du(h:PE X e t)(a:∀Y,isTrue e X.env Y=(do let v <-Y;XE e.pos;T7 [v] (truthy v)):=by intro z;rfl):PT X e (tB t):=by
 intro O s b H Q I w;refine isTrue_plain (bu (h O s b H _ I w) λv g ⟨x,c,i,r,f⟩=>?_)<|a _;obtain⟨d,rfl,q⟩:=f;cases r;exact PR ⟨c,i,q⟩
def MD(t u:TT):TT:=λa H Q=>t a H λc h=>if c=NU then u a h Q else Q NZ h
def Nt(t u:TT):TT:=λa H Q=>t a H λc h=>if c=NU then Q NU h else u a h Q
def ME(t:TT):TT:=λa H Q=>t a H λc h=>Q (!c) h
theorem qt(b:PT X a t):PW X (.BoolOp .And [a] p) t:=by
 intro w O s d H Q I h;refine isTrue_and<|bu (b O s d H Q I h) λc f e=>?_;cases c with
 |true=>exact isTrue_and_nil e
 |false=>exact e
theorem mH(b:PT X a t):PW X (.BoolOp .Or [a] p) t:=by
 intro w O s d H Q I h;refine isTrue_or<|bu (b O s d H Q I h) λc f e=>?_;cases c with
 |false=>exact isTrue_or_nil e
 |true=>exact e
theorem qu(f:PT X a T)(g:PW X (.BoolOp .And (b::r) p) t):PW X (.BoolOp .And (a::b::r) p) (MD T t):=by
 intro w O s d H Q I h;refine isTrue_and<|bu (f O s d H _ I h) λc j ⟨e,i,q⟩=>?_;cases c with
 |true=>exact g w O j d e Q i q
 |false=>assumption
theorem pd(f:PT X a T)(g:PW X (.BoolOp .Or (b::r) p) t):PW X (.BoolOp .Or (a::b::r) p) (Nt T t):=by
 intro w O s d H Q I h;refine isTrue_or<|bu (f O s d H _ I h) λc j ⟨e,i,q⟩=>?_;cases c with
 |true=>assumption
 |false=>exact g w O j d e Q i q
theorem gD(b:PT X a t):PT X (.UnaryOp .Not a p) (ME t):=by
 intro O s d H Q I h;exact isTrue_not<|b O s d H _ I h
def Kp(t T:TE):TE:=λa H Q=>t a H λx h=>∃c,x=.bl c/\if c=NU then T a h Q else Q (.bl NZ) h
def MF(t T:TE):TE:=λa H Q=>t a H λx h=>∃c,x=.bl c/\if c=NU then Q (.bl NU) h else T a h Q
def Kq(t:TE):TE:=λa H Q=>t a H λx h=>∃c,x=.bl c/\Q (.bl (!c)) h
theorem hO{o}(h:PE X a t):PE X (.BoolOp o [a] p) t:=λO s b H Q I w=>BoolOp_one<|h O s b H Q I w
theorem kh(f:PE X a t)(g:PE X (.BoolOp .And (b::r) p) T):PE X (.BoolOp .And (a::b::r) p) (Kp t T):=by
 intro O s d H Q I h;refine BoolOp_and<|bu (f O s d H _ I h) λv j z=>?_;obtain⟨x,e,i,k,q⟩:=z;obtain⟨c,rfl,q⟩:=q;cases k;refine PR ?_;cases c with
 |true=>exact g O j d e Q i q
 |false=>exact⟨.bl NZ,e,i,rfl,q⟩
theorem Ai(f:PE X a t)(g:PE X (.BoolOp .Or (b::r) p) T):PE X (.BoolOp .Or (a::b::r) p) (MF t T):=by
 intro O s d H Q I h;refine BoolOp_or<|bu (f O s d H _ I h) λv j z=>?_;obtain⟨x,e,i,k,q⟩:=z;obtain⟨c,rfl,q⟩:=q;cases k;refine PR ?_;cases c with
 |false=>exact g O j d e Q i q
 |true=>exact⟨.bl NU,e,i,rfl,q⟩
theorem Ic(b:PE X a t):PE X (.UnaryOp .Not a p) (Kq t):=by
 intro O s d H Q I h;refine UnaryOp_<|bu (b O s d H _ I h) λv f z=>?_;obtain⟨x,e,i,r,q⟩:=z;obtain⟨c,rfl,q⟩:=q;cases r;exact not_of<|PR ⟨.bl _,e,i,rfl,q⟩
def NL(t:TT)(T b:TE):TE:=λa H Q=>t a H λc h=>if c=NU then T a h Q else b a h Q
theorem jx(j:PT X c t)(k:PE X a T)(l:PE X b m):PE X (.IfExp c a b p) (NL t T m):=by
 intro O s e H Q I h;refine wpAny_IfExp<|bu (j O s e H _ I h) λd f z=>?_;obtain⟨g,i,q⟩:=z;cases d with
 |true=>exact k O f e g Q i q
 |false=>exact l O f e g Q i q
def SqL(K:B')(H:Hp)(a:C')(x:ab V):Prop:=
 Rd H a (.lst x)\/
  ∃(o:Obj) (P:Qp M') (n:Nat),K.lookup a=gV o/\o.cls=.type "list"/\o.dict=N4/\o.data=.seq P n/\P.size<=sizeLine/\Vals x P.toList
def SqT(K:B')(H:Hp)(a:C')(x:ab V):Prop:=
 Rd H a (.tup x)\/
  ∃(o:Obj) (P:Qp M') (n:Nat),K.lookup a=gV o/\o.cls=.type "tuple"/\o.data=.seq P n/\P.size<=sizeLine/\Vals x P.toList
noncomputable def MG:M'->NW V
 |.none=>gV .non
 |.bool b=>gV<|.bl b
 |.int i _=>gV<|.int i
 |.str x _=>gV<|.str x
 |.bytes b _=>gV<|.byt b
 |.float b _=>gV<|.flt b
 |.ref a=>gV<|.ref a
 |.type n=>gV<|.ty n
 |_=>N4
theorem RelV.abs(r:RelV x u):MG u=gV x:=by
 cases x with
 |non=>cases r;rfl
 |bl _=>cases r;rfl
 |int _=>obtain⟨t,rfl⟩:=r;rfl
 |str _=>obtain⟨t,rfl⟩:=r;rfl
 |byt _=>obtain⟨t,rfl⟩:=r;rfl
 |flt _=>obtain⟨t,rfl⟩:=r;rfl
 |ref _=>cases r;rfl
 |ty _=>cases r;rfl
theorem RelV.inj(r:RelV x u)(q:RelV y u):x=y:=Ot<|r.abs.symm.trans q.abs
theorem Vals.inj:∀{x y:ab V} {u:ab M'},Vals x u->Vals y u->x=y:=by
 intro x y u h H;induction h generalizing y with
 |nil=>cases H;rfl
 |cons r t i=>
  cases H with
  |cons a T=>rw[r.inj a,i T]
theorem SqL.of{K:B'}(h:H a=gV (.lst x)):SqL K H a x:=.inl<|.inl h
theorem SqT.of{K:B'}(h:H a=gV (.tup x)):SqT K H a x:=.inl<|.inl h
theorem Inv.list(I:Inv X O f H s)(h:SqL X.K H a x):∃P,Vals x P/\PlainL s.heap a P.toArray/\x.length<=sizeLine:=by
 obtain h|⟨o,P,n,k,c,d,b,g,r⟩:=h
 ·obtain⟨z,P,n,r,e⟩:=h.ok I.hok;exact⟨P,r,⟨_,n,e,rfl,rfl,rfl⟩,z⟩
 exists P.toList,r,⟨o,n,I.kIn a o k,c,d,by assumption⟩;have e:=r.length;simp_all
theorem Inv.tuple(I:Inv X O d H s)(h:SqT X.K H a x):∃P,Vals x P/\PyProof.Rows.IsTup s.heap a P.toArray/\x.length<=sizeLine:=by
 obtain h|⟨o,P,n,k,c,b,f,r⟩:=h
 ·obtain⟨z,P,r,p⟩:=h.ok I.hok;exact⟨P,r,p,z⟩
 exists P.toList,r,⟨o,I.kIn a o k,c,n,by assumption⟩;have e:=r.length;simp_all
theorem Inv.list_inj(I:Inv X O f H s)(h:SqL X.K H a x)(h':SqL X.K H a y):x=y:=by
 obtain⟨P,r,⟨o,n,e,z,z,d⟩,z⟩:=I.list h;obtain⟨i,b,⟨g,N,E,z,z,D⟩,z⟩:=I.list h';rw[e]at E;cases E;rw[d]at D;injection D with c _;have:P=i:=by simpa using OY Y' c
 subst this;exact r.inj b
theorem Inv.tuple_inj(I:Inv X O f H s)(h:SqT X.K H a x)(h':SqT X.K H a y):x=y:=by
 obtain⟨P,r,⟨o,e,z,n,d⟩,z⟩:=I.tuple h;obtain⟨i,b,⟨g,E,z,N,D⟩,z⟩:=I.tuple h';rw[e]at E;cases E;rw[d]at D;injection D with c _;have:P=i:=by simpa using OY Y' c
 subst this;exact r.inj b
noncomputable abbrev Cx.wish(X:Cx)(E:M'->N8->Prop):Cx:={X with xe:=E}
noncomputable abbrev Cx.nox(X:Cx):Cx:=X.wish λ_ _=>False
theorem Cx.Ok.wish{X:Cx}(o:X.Ok)(E:M'->N8->Prop):(X.wish E).Ok:=
 ⟨o.mod,o.kind,o.glob,o.blt,o.above,o.inj,o.has,o.cab,o.hd,o.frames,o.stk,o.exf,o.bs,o.bsz,o.noex,o.exfs,o.funs,o.frf⟩
theorem Cx.Ok.unwish{X:Cx}{E:M'->N8->Prop}(o:(X.wish E).Ok):X.Ok:=
 ⟨o.mod,o.kind,o.glob,o.blt,o.above,o.inj,o.has,o.cab,o.hd,o.frames,o.stk,o.exf,o.bs,o.bsz,o.noex,o.exfs,o.funs,o.frf⟩
theorem Inv.wish(I:Inv X O a H s)(E:M'->N8->Prop):Inv (X.wish E) O a H s:=⟨I.ok.wish E,I.os,I.bare,I.base,I.loc,I.cell,I.free,I.freeC,I.pin,I.hok,I.len⟩
theorem Inv.unwish(I:Inv (X.wish E) O a H s):Inv X O a H s:=⟨I.ok.unwish,I.os,I.bare,I.base,I.loc,I.cell,I.free,I.freeC,I.pin,I.hok,I.len⟩
theorem SP.unwish(h:SP (X.wish E) O D f s):SP X O D f s:=by
 cases f with
 |next=>obtain⟨a,H,I,q⟩:=h;exact⟨a,H,I.unwish,q⟩
 |brk=>obtain⟨a,H,I,q⟩:=h;exact⟨a,H,I.unwish,q⟩
 |cont=>obtain⟨a,H,I,q⟩:=h;exact⟨a,H,I.unwish,q⟩
 |ret u=>obtain⟨v,a,H,I,r,q⟩:=h;exact⟨v,a,H,I.unwish,r,q⟩
theorem PSs.nox{st:ab Pk}{t:TS}(h:PSs X.nox st t):PSs X st t:=λO s a H D I w=>
 Qq (h O s a H D (I.wish _) w) (λy y q=>q.unwish) λy y z=>P6 z
section
variable {X:Cx}{st:Pk}{t:TS}
def Gw:TS:=λD a H=>D.nx a H
def oY(t u:TS):TS:=λD a H=>t {D with nx:=u D} a H
theorem ay:PSs X [] Gw:=λz z a H z I h=>U4 ⟨a,H,I,h⟩
theorem ae{r:ab Pk}{u:TS}(b:PS X st t)(c:PSs X r u):PSs X (st::r) (oY t u):=by
 intro O s d H D I h;refine Zf<|bu (b O s d H _ I h) λf e q=>?_;cases f with
 |next=>
  obtain⟨a,g,i,q⟩:=q;exact c O e a g D i q
 |ret v=>exact q
 |brk=>exact q
 |cont=>exact q
theorem ap(a:PS X st t):PSs X [st] t:=by
 intro O s b H D I h;refine Zf<|bu (a O s b H D I h) λf c q=>?_;cases f with
 |next=>exact U4 q
 |ret v=>exact q
 |brk=>exact q
 |cont=>exact q
theorem Ej:PS X (.Pass p) Gw:=λz z a H z I h=>wpAny_Pass ⟨a,H,I,h⟩
theorem Inv.quiet(I:Inv X O a H s):interactive X.env=false:=by simp[interactive,I.ok.kind]
def Gx(T:TE):TS:=λD a H=>T a H λ_ h=>D.nx a h
theorem cB(b:PE X e T)(c:Vn e N4 p.line X.env=pure false:=by rfl):PS X (.Expr e p) (Gx T):=by
 intro O s a H D I h;exact wpAny_Expr_any (bu (b O s a H _ I h) (by rintro v f ⟨x,d,i,r,q⟩;exact ⟨a,d,i,q⟩)) I.quiet c
def Ek(T:TE):TS:=λD a H=>T a H D.rt
theorem Ie(b:PE X e T):PS X (.Return (gV e) p) (Ek T):=by
 intro O s a H D I h;exact wpAny_Return_some<|bu (b O s a H _ I h) (by rintro v d ⟨x,c,i,r,q⟩;exact ⟨x,a,c,i,r,q⟩)
def Kr:TS:=λD _ H=>D.rt .non H
theorem El:PS X (.Return N4 p) Kr:=λz z a H z I h=>wpAny_Return_none ⟨.non,a,H,I,rfl,h⟩
def Ig(c:TT)(t u:TS):TS:=λD a H=>c a H λb h=>if b=NU then t D a h else u D a h
theorem aO(j:PT X c T)(k:PSs X a t)(l:PSs X b u):PS X (.If c a b p) (Ig T t u):=by
 intro O s e H D I h;refine wpAny_If<|bu (j O s e H _ I h) λd f z=>?_;obtain⟨g,i,q⟩:=z;cases d with
 |true=>exact k O f e g D i q
 |false=>exact l O f e g D i q
def Ih:TS:=λ_ _ _=>False
theorem d_:PS X st Ih:=λz z z z z z h=>h.elim
end
abbrev TG:=V->St->Hp->(St->Hp->Prop)->Prop
abbrev Eb:=ab V->St->Hp->(St->Hp->Prop)->Prop
def PG(X:Cx)(n:Pl)(t:TG):Prop:=
 ∀(N:ab (C'×Obj)) (s:N8) (b:St) (H:Hp) (v:V) (u:M') (Q:St->Hp->Prop),Inv X N b H s->RelV v u->t v b H Q->
  wpAny (OI X.prog X.w) X.A (Zi n X.env u) (λ_ c=>∃a h,Inv X N a h c/\Q a h) X.xe s
def Gy(X:Cx)(T:ab Pl)(t:Eb):Prop:=
 ∀(N:ab (C'×Obj)) (s:N8) (b:St) (H:Hp) (v:ab V) (u:ab M') (Q:St->Hp->Prop),Inv X N b H s->Vals v u->t v b H Q->
  wpAny (OI X.prog X.w) X.A (assignInOrder ((R4 T X.env).map (·.2)) u) (λ_ c=>∃a h,Inv X N a h c/\Q a h) X.xe s
abbrev Mr:=V->V->Hp->VK->Prop
def Nu(X:Cx)(o:Yf)(t:Mr):Prop:=
 ∀(N:ab (C'×Obj)) (s:N8) (a:St) (H:Hp) (x y:V) (v u:M') (Q:VK),Inv X N a H s->RelV x v->RelV y u->t x y H Q->
  wpAny (OI X.prog X.w) X.A (inplaceOp o v u) (EP X N a Q) X.xe s
section
variable {X:Cx}{pos:Pos}
def df(i:Nat):TG:=λv a H Q=>Q (a.set i<|gV v) H
theorem jy(N:X.N.Nodup)(a:X.N[i]?=gV x)(b:Ia X.env.scope x)(f:X.fn x=NU\/X.env.scope.names.lookup x=gV .local:=by first|exact .inl rfl|exact .inr rfl|assumption):PG X (.Name x pos) (df i):=by
 intro O s d H v u Q I r h;exact YK<|mE I N a b r (λe c=>⟨_,H,c,h⟩) f
def MH:Eb:=λv a H Q=>v=[]/\Q a H
def Ks(t:TG)(u:Eb):Eb:=λs b H Q=>∃v r,s=v::r/\t v b H λa h=>u r a h Q
theorem ma:Gy X [] MH:=by
 intro O s a H v u Q I r h;obtain⟨e,h⟩:=h;exact assignInOrder_nil ⟨a,H,I,h⟩
theorem dw(b:PG X e t)(c:Gy X E u)
  (d:(R4 (e::E) X.env).map (·.2)=Zi e X.env::(R4 E X.env).map (·.2):=by rfl):Gy X (e::E) (Ks t u):=by
 intro O s f H m U Q I r h;obtain⟨v,n,g,h⟩:=h;subst g;cases r with
 |cons r i=>
  rw[d];exact assignInOrder_cons<|bu (b O s f H _ _ _ I r h) (by rintro z j ⟨a,k,l,q⟩;exact c O j a k _ _ Q l i q)
def Kt(K:B')(n:Nat)(t:Eb):TG:=λv b H Q=>∃a x,v=.ref a/\SqT K H a x/\x.length=n/\t x b H Q
theorem Aj{k:Nat}{n:Nat}(g:X.calm=NU)(h:Gy X E t)
  (i:(R4 E X.env).length=n:=by rfl) (c:(R4 E X.env).findIdx? (·.1)=none:=by rfl):PG X (.Tuple E k pos) (Kt X.K n t):=by
 intro O s d H v u Q I r w;obtain⟨a,x,j,q,l,w⟩:=w;subst j;cases r;obtain⟨P,f,m,A⟩:=I.tuple q;refine assign_Tuple_tuple (I.ok.hd g) m (by simp[i,<-l,f.length]) c λp y=>?_;have z:Inv X O d H {s with heap:=p}:=I.kept λb o e=>y b o (OF<|On e) e;exact h O _ d H x _ Q z (by assumption) w
def Ii(t:TE)(g:TG):TS:=λD a H=>t a H λx h=>g x a h D.nx
theorem Ak(b:PE X e T)(c:PG X t g)(d:swapsWithSole [t] e pos.line X.env=pure false:=by rfl)(w:swappedStores [t] e X.env=pure none:=by rfl)
  (f:(R4 [t] X.env).map (·.2)=[Zi t X.env]:=by rfl):PS X (.Assign [t] e pos) (Ii T g):=by
 intro O s a H D I h;refine wpAny_Assign_stores (bu (b O s a H _ I h) λv i z=>?_) d w;obtain⟨x,j,k,r,Q⟩:=z;rw[f];exact bu (c O i a j x v _ k r Q) λy l q=>q
theorem Ij(N:X.N.Nodup)(a:X.N[i]?=gV x)(b:Ia X.env.scope x)(c:PE X e t)(d:Vn e (gV<|.Name x T) pos.line X.env=pure false:=by rfl)(f:X.fn x=NU\/X.env.scope.names.lookup x=gV .local:=by first|exact .inl rfl|exact .inr rfl|assumption):
  PS X (.Assign [.Name x T] e pos) (Ii t<|df i):=by
 intro O s g H D I h;exact wpAny_Assign_Name (bu (c O s g H _ I h) (by rintro v m ⟨y,j,k,r,q⟩;exact mE k N a b r (λn l=>⟨_,j,l,q⟩) f)) d
def MJ(i:Nat)(t:TE)(T:Mr):TS:=λD a H=>∃x,a[i]?=gV (gV x)/\t a H λy h=>T x y h λz b=>D.nx (a.set i<|gV z) b
theorem Ik{T:Pos}(N:X.N.Nodup)(j:X.N[i]?=gV x)(f:Ia X.env.scope x)(p:PE X e t)(q:Nu X o B)(C:X.fn x=NU\/X.env.scope.names.lookup x=gV .local:=by first|exact .inl rfl|exact .inr rfl|assumption):
  PS X (.AugAssign (.Name x T) o e pos) (MJ i t B):=by
 intro O s n H D I h;obtain⟨v,E,h⟩:=h;obtain⟨m,F,G⟩:=I.loc;have g:Ki X.env.scope x:=by obtain k|k:=f;exact .inl k;exact .inr<|.inl k
 obtain⟨u,r,l⟩:=G i x v j E g;refine wpAny_AugAssign_Name ?_;have go:wpAny (OI _ X.w) X.A (Qs e _) (λw b=>wpAny (OI _ X.w) X.A _ (λr d=>wpAny (OI X.prog X.w) X.A (oa _ x r) (λ_=>SP X O D .next) X.xe d) _ b) _ s:=bu (p O s n H _ I h) (by rintro w J ⟨y,L,M,P,Q⟩;exact bu (q O J n L v y u w _ M r P Q) (by rintro z s2 ⟨zv,U,W,Y,Z⟩;exact mE W N j f Y (λs3 I3=>⟨_,U,I3,Z⟩) C))
 obtain⟨a,hm⟩|⟨a,c,hc,A⟩:=l
 ·exact Xg I.ok.kind a F hm go
 obtain a|a:=a
 ·exact XJ I.ok.kind a hc A go
 obtain k|k:=f
 ·have:X.env.scope.names.lookup x=gV _:=a;rw[k]at this;cases this
 have:X.env.scope.names.lookup x=gV _:=a;rw[k]at this;cases this
def NM(f:Int->Int->Int):Mr:=λx y H Q=>∃i j,x=.int i/\y=.int j/\Q (.int<|f i j) H
theorem Il:Nu X .Add (NM λi j=>i+j):=by
 intro O s b H x y v u Q I r a h;obtain⟨i,j,e,E,q⟩:=h;subst e;subst E;obtain⟨t,rfl⟩:=r;obtain⟨T,rfl⟩:=a;exact iadd_int ⟨.int _,H,I.tok _,⟨_,rfl⟩,q⟩
end
def Im(c:TT)(t:TS):TS:=λD a H=>∃W:Nat->St->Hp->Prop,(∃m,W m a H)/\∀m a H,W m a H->
 c a H λb h=>if b=NU then∃N:St->Hp->Prop,(∀d e,N d e->∃M,M<m/\W M d e)/\t {D with nx:=N,ct:=N,bk:=D.nx} a h else D.nx a h
theorem hU(p:oz (OI X.prog X.w) X.A X.env X.xe)(x:PT X c T)(y:PSs X B z):PS X (.While c B [] P) (Im T z):=by
 intro O s C H D I h;obtain⟨W,⟨M,E⟩,A⟩:=h;refine wpAny_While<|codeAny_whileLoop (λn F=>∃e l,Inv X O e l F/\W n e l) ?_ M ⟨C,H,I,E⟩;rintro n G ⟨d,o,J,L⟩;refine RM p<|bu (x O G d o _ J<|A n d o L) λb U Z=>?_;obtain⟨r,t,q⟩:=Z;cases b with
 |true=>
  obtain⟨N,u,q⟩:=q;refine RM p<|bu (y O U d r _ t q) λf Y Q=>?_;cases f with
  |next=>
   obtain⟨a,g,i,j⟩:=Q;obtain⟨m,k,w⟩:=u a g j;exact⟨m,k,a,g,i,w⟩
  |cont=>
   obtain⟨a,g,i,j⟩:=Q;obtain⟨m,k,w⟩:=u a g j;exact⟨m,k,a,g,i,w⟩
  |brk=>exact Q
  |ret v=>exact Q
 |false=>
  exact U4 ⟨d,r,t,q⟩
structure It where
 go:Nat->Hp->Prop
 yld:Nat->Hp->V->Hp->Prop
 stop:Nat->Hp->Prop
def oZ(X:Cx)(N:ab (C'×Obj))(H:Hp)(b:C'):Prop:=
 H b=N4/\b≠X.env.locals/\b∉X.fs/\(b∈X.ex\/X.s₀.heap.objs.size<=b)/\(∀x c,X.env.cells.lookup x=gV c->c≠b)/\∀p∈X.pn++N,p.1≠b
theorem Inv.fpOk{X:Cx}{O:ab (C'×Obj)}{d:St}{H a:Hp}{s:N8}{b:C'}(I:Inv X O d H s)(h:s.heap.objs.size<=b)(n:a b=N4):oZ X O a b:=by
 refine⟨n,RX<|Pb I.lt h,I.nofs h,.inr<|O6 I.sz h,λx c e z=>?_,λp f z=>?_⟩
 ·obtain⟨v,q⟩:=I.cell x c e;exact absurd (Pb q.lt<|by rwa[z])<|QR _
 exact absurd (Pb (On (I.pin p f).1)<|by rwa[z])<|QR _
structure si (P:Of)(w:OE)(K:B')(tg:Pl)(J:It)(fp:ab C')(it:C')(tn:Nat->O5->Prop):Prop where
 mem:it∈fp
 obj:∀i h,tn i h->∀b∈fp,∃o,h.get? b=gV o/\∀v,o.data≠.cell v
 keep:∀i h h',tn i h->(∀b∈fp,∀o,h.get? b=gV o->h'.get? b=gV o)->tn i h'
 item:∀(X:Cx),X.prog=P->X.w=w->X.K=K->X.calm=NU->∀(i:Nat) (N5:ab (C'×Obj)) (s:N8) (σ:St) (H:Hp) (E:M'->N8->Prop),Inv X N5 σ H s->(∀b∈fp,oZ X N5 H b)->tn i s.heap->J.go i H->
  wpAny (OI P w) X.A (V9<|.ref it) (λr s1=>∃u,r=gV u/\
   wpAny (OI P w) X.A (U5 tg (.ref it) u) (λ_ s2=>∃x H',Inv X N5 σ H' s2/\RelV x u/\J.yld i H x H'/\tn (i+1) s2.heap/\∀b∈fp,H' b=N4) E s1) E s
 done:∀(X:Cx),X.prog=P->X.w=w->X.K=K->X.calm=NU->∀(i:Nat) (N5:ab (C'×Obj)) (s:N8) (σ:St) (H:Hp) (E:M'->N8->Prop),Inv X N5 σ H s->(∀b∈fp,oZ X N5 H b)->tn i s.heap->J.stop i H->
  wpAny (OI P w) X.A (V9<|.ref it) (λr s1=>r=N4/\Inv X N5 σ H s1) E s
 self:∀(A:Pr) (i:Nat) (s:N8) (Q:M'->N8->Prop) (E:M'->N8->Prop),tn i s.heap->Q (.ref it) s->wpAny (OI P w) A (j'<|.ref it) Q E s
abbrev TI:=St->Hp->(It->Hp->Prop)->Prop
def MK(X:Cx)(N:ab (C'×Obj))(a:St)(T:Pl)(R:It->Hp->Prop)(i:M')(s:N8):Prop:=
 ∃(I:C') (f:ab C') (t:Nat->O5->Prop) (J:It) (H:Hp),i=.ref I/\Inv X N a H s/\si X.prog X.w X.K T J f I t/\t 0 s.heap/\(∀b∈f,oZ X N H b)/\R J H
def PI(X:Cx)(t b:Pl)(w:TI):Prop:=
 ∀(N:ab (C'×Obj)) (s:N8) (a:St) (H:Hp) (R:It->Hp->Prop),Inv X N a H s->w a H R->
  wpAny (OI X.prog X.w) X.A (Qs b X.env) (λv c=>wpAny (OI X.prog X.w) X.A (j' v) (MK X N a t R) X.xe c) X.xe s
theorem sj{M:kc}{A:Pr}{E:M'->N8->Prop}{t:Pl}{u:M'}{Q:Xf->N8->Prop}(a:s.heap.get? i=gV o)(c:o.cls=.type n)(d:o.data=.fields v)
  (b:["enumerate","zip","dict_itemiterator","dict_reverseitemiterator","odict_iterator","itertools.zip_longest","itertools.pairwise"].contains n=NZ) (H:Q () s):wpAny M A (U5 t (.ref i) u) Q E s:=by
 cases t<;>first
  |exact Oj H
  |(cases u<;>first
    |exact Oj H
    |(refine N0<|wpAny_load a ?_
      rw[c,d];show wpAny M A (if(["enumerate","zip","dict_itemiterator","dict_reverseitemiterator","odict_iterator","itertools.zip_longest","itertools.pairwise"].contains n&&v[0]? == gV _)=NU then _ else _) Q E s
      rw[Oh<|by intro h;rw[b]at h;cases h];exact Oj H))
noncomputable def Em(K:B')(a:C'):It:=
 ⟨λi H=>∃X x,SqL K H a X/\X[i]?=gV x,λi H x h=>h=H/\∀X,SqL K H a X->X[i]?=gV x,λi H=>∃X,SqL K H a X/\X.length<=i⟩
noncomputable def Io(K:B')(a:C'):It:=
 ⟨λi H=>∃X x,SqT K H a X/\X[i]?=gV x,λi H x h=>h=H/\∀X,SqT K H a X->X[i]?=gV x,λi H=>∃X,SqT K H a X/\X.length<=i⟩
noncomputable def En(lo:Int)(n:Nat):It:=⟨λi _=>i<n,λi H x h=>h=H/\x=.int (lo+i),λi _=>n<=i⟩
theorem yk{P:Of}{w:OE}{K:B'}{T:Pl}(a t:C'):si P w K T (Em K a) [t] t (λi h=>h.IsListIter t a i) where
 mem:=by simp
 obj:=λi h st b f=>by
  have e:b=t:=by simpa using f
  subst e;obtain⟨o,e,c,d⟩:=st;exact⟨o,e,λv z=>by lia⟩
 keep:=λi h g st k=>st.at λo e=>k t (by simp) o e
 item:=by
  intro X l m n J i O s L H E I j st r;subst l m n;obtain⟨M,x,q,y⟩:=r;obtain⟨N,A,p,U⟩:=I.list q;obtain⟨u,W,Y⟩:=A.get y;obtain⟨F,B,Z,C,D,G⟩:=j t (by simp);refine wpAny_pyNext_list_item st p.isList (x:=u) (by simp_all) λg Q sb=>?_;have I1:Inv X O L H {s with heap:=g}:=I.turned (λb o f e=>(sb.2 b f).trans e) F B C D G;obtain⟨o,e,c,d⟩:=id Q;exact⟨u,rfl,sj e c d (by rfl) ⟨x,H,I1,Y,⟨rfl,λys hy=>by rwa[I.list_inj hy q]⟩,Q,λb f=>(j b f).1⟩⟩
 done:=by
  intro X l m n J i O s L H E I j st r;subst l m n;obtain⟨M,q,y⟩:=r;obtain⟨N,A,p,U⟩:=I.list q;obtain⟨F,B,Z,C,D,G⟩:=j t (by simp);have hl:=A.length;exact wpAny_pyNext_list_end (I.ok.hd J) st p.isList (by simp;simp_all) λg eb=>⟨rfl,I.turned (λb o f e=>eb b o f e) F B C D G⟩
 self:=λV V V V V st h=>wpAny_pyIter_listiter st h
theorem uD{P:Of}{w:OE}{K:B'}{T:Pl}(a t:C'):si P w K T (Io K a) [t] t (λi h=>h.IsTupleIter t a i) where
 mem:=by simp
 obj:=λi h st b f=>by
  have e:b=t:=by simpa using f
  subst e;obtain⟨o,e,c,d⟩:=st;exact⟨o,e,λv z=>by lia⟩
 keep:=λi h g st k=>st.at λo e=>k t (by simp) o e
 item:=by
  intro X l m n L i O s M H E I j st r;subst l m n;obtain⟨N,x,q,y⟩:=r;obtain⟨A,B,p,U⟩:=I.tuple q;obtain⟨u,W,Y⟩:=B.get y;obtain⟨F,C,Z,D,G,J⟩:=j t (by simp);refine wpAny_pyNext_tuple_item st (p) (x:=u) (by simp_all) λg Q sb=>?_;have I1:Inv X O M H {s with heap:=g}:=I.turned (λb o f e=>(sb.2 b f).trans e) F C D G J;obtain⟨o,e,c,d⟩:=id Q;exact⟨u,rfl,sj e c d (by rfl) ⟨x,H,I1,Y,⟨rfl,λys hy=>by rwa[I.tuple_inj hy q]⟩,Q,λb f=>(j b f).1⟩⟩
 done:=by
  intro X l m n L i O s M H E I j st r;subst l m n;obtain⟨N,q,y⟩:=r;obtain⟨A,B,p,U⟩:=I.tuple q;obtain⟨F,C,Z,D,G,J⟩:=j t (by simp);have hl:=B.length;exact wpAny_pyNext_tuple_end (I.ok.hd L) st (p) (by simp;simp_all) λg eb=>⟨rfl,I.turned (λb o f e=>eb b o f e) F C D G J⟩
 self:=λV V V V V st h=>wpAny_pyIter_tupleiter st h
theorem uE{P:Of}{w:OE}{K:B'}{A:Pl}(a:C')(lo:Int)(n:Nat):si P w K A (En lo n) [a] a (λi h=>Xm h a (lo+(i:Nat)*1) ((n:Int)-(i:Nat)) 1) where
 mem:=by simp
 obj:=λi h st b c=>by
  have e:b=a:=by simpa using c
  subst e;exact⟨_,st,λv z=>by
   have Z:=z;cases Z⟩
 keep:=λi h d st k=>k a (by simp) _ st
 item:=by
  intro X g j l m i O s y H E I f st p;subst g j l;obtain⟨F,q,B,r,u,x⟩:=f a (by simp);have W:=tv (prog:=X.prog) (w:=X.w) (I.ok.hd m) a lo 1 n;refine W.item i s _ _ p st λv d T C Q D=>?_;obtain⟨t,rfl⟩:=C;have G:Inv X O y H {s with heap:=d,toks:=T}:=I.turned (λb o c e=>D b o (by simpa using c) e) F q r u x;refine⟨_,rfl,sj Q rfl rfl (by rfl) ⟨.int<|lo+i,H,G,⟨t,?_⟩,⟨rfl,rfl⟩,Q,λb c=>(f b c).1⟩⟩;rw[Int.mul_one]
 done:=by
  intro X g j l m i O s y H E I f st p;obtain⟨F,q,B,r,u,x⟩:=f a (by simp);exact Wy (I.ok.hd m) st (by have:n<=i:=p;lia) λd J=>⟨rfl,I.turned (λb o c e=>J b o c e) F q r u x⟩
 self:=λY Y Y Y Y st h=>Wz st h
inductive Ku (K:B')(x:V)(H:Hp)(R:It->Hp->Prop):Prop
 |mk (a:C')(h:x=.ref a)(e:∃xs,SqL K H a xs)(r:R (Em K a) H)
inductive Kv (K:B')(x:V)(H:Hp)(R:It->Hp->Prop):Prop
 |mk (a:C')(h:x=.ref a)(e:∃xs,SqT K H a xs)(r:R (Io K a) H)
def Kw(K:B')(t:TE):TI:=λa H R=>t a H λx h=>Ku K x h R
def ML(K:B')(t:TE):TI:=λa H R=>t a H λx h=>Kv K x h R
theorem aT(d:PE X l t):PI X T l (Kw X.K t):=by
 intro O s f H R I h;refine bu (d O s f H _ I h) λv c y=>?_;obtain⟨x,g,i,r,Q⟩:=y;obtain⟨a,e,⟨m,j⟩,q⟩:=Q;subst e;cases r;obtain⟨P,n,p,z⟩:=i.list j;refine Sy p.isList<|⟨c.heap.objs.size,[c.heap.objs.size],_,_,g,rfl,i.kept λb o e=>N_ _ e,yk a _,⟨_,OJ _ rfl,rfl,rfl⟩,λb k=>?_,q⟩;have e:b=c.heap.objs.size:=by simpa using k
 subst e;exact i.fpOk (N1 _)<|i.hok.fresh<|N1 _
theorem bQ(d:PE X l t):PI X T l (ML X.K t):=by
 intro O s f H R I h;refine bu (d O s f H _ I h) λv c y=>?_;obtain⟨x,g,i,r,Q⟩:=y;obtain⟨a,e,⟨m,j⟩,q⟩:=Q;subst e;cases r;obtain⟨P,n,p,z⟩:=i.tuple j;refine wpAny_pyIter_tuple ‹_›<|⟨c.heap.objs.size,[c.heap.objs.size],_,_,g,rfl,i.kept λb o e=>N_ _ e,uD a _,⟨_,OJ _ rfl,rfl,rfl⟩,λb k=>?_,q⟩;have e:b=c.heap.objs.size:=by simpa using k
 subst e;exact i.fpOk (N1 _)<|i.hok.fresh<|N1 _
theorem sk{O:ab (C'×Obj)}{a:St}{H:Hp}{s:N8}{R:It->Hp->Prop}{E:M'->N8->Prop}{lo h:Int}{t u v:Tok}{T:Nat}(I:Inv X O a H s)(c:-(2^62)<=lo)(d:lo<2^62)(f:-(2^62)<=h)(g:h<2^62)
  (q:R (En lo (h-lo).toNat) H):wpAny (OI X.prog X.w) X.A (j'<|.ref s.heap.objs.size) (MK X O a m R) E {s with heap:=s.heap.push {cls:=.type "range",data:=.fields #[.int lo t,.int h u,.int 1 v]},toks:=T}:=by
 refine X6 (ZM ..) (small_one c d f g) ?_;have i:Inv X O a H {s with heap:=s.heap.push {cls:=.type "range",data:=.fields #[.int lo t,.int h u,.int 1 v]},toks:=T}:=I.kept λb o e=>N_ _ e;refine⟨(s.heap.push _).objs.size,[(s.heap.push _).objs.size],_,_,H,rfl,
  i.kept λb o e=>N_ _ e,uE _ lo _,?_,λb j=>?_,q⟩
 ·have k:lo+((0:Nat))*1=lo:=by simp
  have l:(((h-lo).toNat))-((0:Nat))=Wr lo h 1:=by rw[rangeSize_one];grind
  show Xm _ _ _ ((((h-lo).toNat))-((0:Nat))) 1
  rw[k,l];exact OJ _ rfl
 have e:b=(s.heap.push {cls:=.type "range",data:=.fields #[.int lo t,.int h u,.int 1 v]}).objs.size:=by simpa using j
 subst e;exact i.fpOk (N1 _)<|i.hok.fresh<|N1 _
def Kx(t:TA):TI:=λa H R=>t a H λv h=>∃j:Int,v=[.int j]/\ -(2^62)<=j/\j<2^62/\R (En 0 j.toNat) h
def Ky(t:TA):TI:=λa H R=>t a H λv h=>∃i j:Int,v=[.int i,.int j]/\(-(2^62)<=i/\i<2^62/\ -(2^62)<=j/\j<2^62)/\R (En i (j-i).toNat) h
theorem pe(g:Gl X "range")(m:X.mg "range"=N4)(b:PA X [a] T)(c:ON [a] X.env=[(NZ,Qs a X.env)]:=by rfl):PI X n (.Call (.Name "range" p) [a] [] P) (Kx T):=by
 intro O s d H R I h;refine Call_<|c7 I g m Ym<|PM (bu (b P O s d H _ I h) λu o z=>?_) c rfl;obtain⟨v,w,i,f,Q⟩:=z;obtain⟨j,e,Q,k,q⟩:=Q;subst e;cases f with
 |cons r l=>
  cases l;obtain⟨t,rfl⟩:=r;exact call_range_1 (sk i (by simp) (by simp) Q k<|by simp_all)
theorem pf{X:Cx}{T:Pl}{p P:Pos}(g:Gl X "range")(m:X.mg "range"=N4)(d:PA X [a,b] f)(k:ON [a,b] X.env=[(NZ,Qs a X.env),(NZ,Qs b X.env)]:=by rfl)(Z:ON [b] X.env=[(NZ,Qs b X.env)]:=by rfl):
  PI X T (.Call (.Name "range" p) [a,b] [] P) (Ky f):=by
 intro O s l H R I h;refine Call_ (c7 I g m Ym<|PM (bu (d P O s l H _ I h) λU y Y=>?_) (by rw[k,Z])<|by rw[Z];rfl);obtain⟨z,A,n,o,Q⟩:=Y;obtain⟨i,j,e,⟨Q,u,v,w⟩,q⟩:=Q;subst e;cases o with
 |cons r c=>
  cases c with
  |cons x c=>
   cases c;obtain⟨t,rfl⟩:=r;obtain⟨B,rfl⟩:=x;exact call_range_2<|sk n Q u v w q
def Kz(w:TI)(g:TG)(t:TS):TS:=λD a H=>w a H λJ d=>∃W:Nat->Nat->St->Hp->Prop,(∃m,W 0 m a d)/\∀i m a H,W i m a H->
 (J.stop i H/\D.nx a H)\/(J.go i H/\∃N:St->Hp->Prop,(∀b h,N b h->∃M,M<m/\W (i+1) M b h)/\∀x h,J.yld i H x h->g x a h λc e=>t {D with nx:=N,ct:=N,bk:=D.nx} c e)
noncomputable def mI(f:ab C')(h:O5):ab (C'×Obj):=f.filterMap λb=>(h.get? b).map λo=>(b,o)
theorem gE(H:b∈f)(e:h.get? b=gV o):(b,o)∈mI f h:=TR.mpr ⟨b,H,by rw[e];rfl⟩
theorem yl(H:p∈mI f h):p.1∈f/\h.get? p.1=gV p.2:=by
 obtain⟨b,a,e⟩:=TR.mp H;cases q:h.get? b with
 |none=>rw[q]at e;cases e
 |some o=>
  rw[q]at e;have E:=Ot e;subst E;exact⟨a,q⟩
theorem Inv.pinned(I:Inv X O a H s)(c:∀b∈f,oZ X O H b)(g:∀b∈f,∃o,s.heap.get? b=gV o/\∀v,o.data≠.cell v):Inv X (O++mI f s.heap) a H s:=
 I.pins_of λp i=>(OB.mp i).elim (λz=>I.pin p<|O2 _ z) λz=>by
  obtain⟨h,e⟩:=yl z;obtain⟨F,j,k,y⟩:=c p.1 h;obtain⟨o,E,d⟩:=g p.1 h;rw[e]at E;cases E;exact⟨e,F,j,k,d⟩
theorem Inv.unpinned(I:Inv X (O++P) a H s):Inv X O a H s:=I.pins_of λp h=>I.pin p<|O2 _<|Qw _ h
theorem dP{P:Pos}(y:oz (OI X.prog X.w) X.A X.env X.xe)(hc:X.calm=NU)(hi:PI X tg t wi)(hg:PG X tg g)(c:PSs X B tb)
  (hs:∀x,RS t X.env x=pure x:=by intro _;rfl):PS X (.For tg t B [] P) (Kz wi g tb):=by
 intro O s σ H D I h;refine wpAny_For (bu (hi O s σ H _ I h) λv s1 h1=>bu h1 λac s2 h2=>?_) hs;obtain⟨it,F,tn,J,H2,e,I2,T,Sj,f2,W,⟨m0,w0⟩,L⟩:=h2;subst e;have A:∀{q:Hp},(∀b∈F,q b=N4)->∀b∈F,oZ X O q b:=λhn b c=>⟨hn b c,(f2 b c).2⟩;refine codeAny_forLoop_any (λn s'=>∃i j q,Inv X O j q s'/\tn i s'.heap/\(∀b∈F,q b=N4)/\W i n j q) ?_ m0 ⟨0,σ,H2,I2,Sj,λb c=>(f2 b c).1,w0⟩;rintro n s3 ⟨i,k,G,I3,Z9,z,w3⟩;obtain⟨C,qn⟩|⟨go,N,hN,step⟩:=L i n k G w3
 ·refine RM y<|bu (T.done X rfl rfl rfl hc i O s3 k G _ I3 (A z) Z9 C) λr s4 V=>?_;obtain⟨M,I4⟩:=V;subst M;exact U4 ⟨k,G,I4,qn⟩
 refine RM y<|bu (T.item X rfl rfl rfl hc i O s3 k G _ I3 (A z) Z9 go) λr s4 S=>?_;obtain⟨u,M,h4⟩:=S;subst M;refine RM y<|bu h4 λ_ s5 R=>?_;obtain⟨x,H5,I5,r5,y5,w,U⟩:=R;have Y:=I5.pinned (A U)<|T.obj _ _ w;refine RM y<|bu (hg _ s5 k H5 x u _ Y r5<|step x H5 y5) λ_ s6 K=>?_;obtain⟨Z,H6,I6,q6⟩:=K;refine RM y<|bu (c _ s6 Z H6 _ I6 q6) λf s7 Q=>?_;have again:∀{a:St} {l:Hp},Inv X _ a l s7->N a l->∃m,m<n/\∃i j q,Inv X O j q s7/\tn i _/\(∀b∈F,q b=N4)/\W i m j q:=λ{a l} p E=>by
  obtain⟨m',hm,w7⟩:=hN a l E;refine⟨m',hm,i+1,a,l,p.unpinned,T.keep _ _ _ w λb c o e=>(p.pin _<|O2 _<|O2 _<|gE c e).1,λb c=>?_,w7⟩;obtain⟨o,e,d⟩:=T.obj _ _ w b c;exact(p.pin _<|O2 _<|O2 _<|gE c e).2.1
 cases f with
 |next=>obtain⟨a,l,p,E⟩:=Q;exact again p E
 |cont=>obtain⟨a,l,p,E⟩:=Q;exact again p E
 |brk=>obtain⟨a,l,p,Q⟩:=Q;exact⟨a,l,p.unpinned,Q⟩
 |ret v=>obtain⟨x7,a,l,p,r7,Q⟩:=Q;exact⟨x7,a,l,p.unpinned,r7,Q⟩
theorem dy{K:B'}{a:C'}{X:ab V}{g:TG}{t:TS}{D:g7}{b:St}{H:Hp}(Pv:Nat->St->Hp->Prop)(j:Pv 0 b H)(l:∀i b H,i<=X.length->Pv i b H->SqL K H a X)
  (s:∀i x b H,X[i]?=gV x->Pv i b H->g x b H λc f=>t {D with nx:=Pv<|i+1,ct:=Pv<|i+1,bk:=D.nx} c f) (k:∀b H,Pv X.length b H->D.nx b H):
  ∃W:Nat->Nat->St->Hp->Prop,(∃m,W 0 m b H)/\∀i m b H,W i m b H->
   ((Em K a).stop i H/\D.nx b H)\/((Em K a).go i H/\∃N:St->Hp->Prop,(∀d h,N d h->∃M,M<m/\W (i+1) M d h)/\∀x h,(Em K a).yld i H x h->g x b h λc f=>t {D with nx:=N,ct:=N,bk:=D.nx} c f):=by
 exists λi m b H=>m=X.length-i/\i<=X.length/\Pv i b H,⟨X.length,by simp,Ou _,j⟩;rintro i m b H ⟨rfl,n,p⟩;have q:=l i b H n p;by_cases r:i<X.length
 ·refine .inr ⟨⟨X,X[i],q,by simp⟩,Pv<|i+1,λd h P=>⟨X.length-(i+1),Nat.sub_lt_sub_left r (Sg _),rfl,r,P⟩,λx h y=>?_⟩;obtain⟨e,y⟩:=y;subst e;exact s i x b _ (y X q) p
 have e:i=X.length:=Nat.le_antisymm n (Zx r)
 subst e;exact .inl ⟨⟨X,q,N1 _⟩,k b H p⟩
theorem dz{K:B'}{a:C'}{X:ab V}{g:TG}{t:TS}{D:g7}{b:St}{H:Hp}(Pv:Nat->St->Hp->Prop)(j:Pv 0 b H)(l:∀i b H,i<=X.length->Pv i b H->SqT K H a X)
  (s:∀i x b H,X[i]?=gV x->Pv i b H->g x b H λc f=>t {D with nx:=Pv<|i+1,ct:=Pv<|i+1,bk:=D.nx} c f) (k:∀b H,Pv X.length b H->D.nx b H):
  ∃W:Nat->Nat->St->Hp->Prop,(∃m,W 0 m b H)/\∀i m b H,W i m b H->
   ((Io K a).stop i H/\D.nx b H)\/((Io K a).go i H/\∃N:St->Hp->Prop,(∀d h,N d h->∃M,M<m/\W (i+1) M d h)/\∀x h,(Io K a).yld i H x h->g x b h λc f=>t {D with nx:=N,ct:=N,bk:=D.nx} c f):=by
 exists λi m b H=>m=X.length-i/\i<=X.length/\Pv i b H,⟨X.length,by simp,Ou _,j⟩;rintro i m b H ⟨rfl,n,p⟩;have q:=l i b H n p;by_cases r:i<X.length
 ·refine .inr ⟨⟨X,X[i],q,by simp⟩,Pv<|i+1,λd h P=>⟨X.length-(i+1),Nat.sub_lt_sub_left r (Sg _),rfl,r,P⟩,λx h y=>?_⟩;obtain⟨e,y⟩:=y;subst e;exact s i x b _ (y X q) p
 have e:i=X.length:=Nat.le_antisymm n (Zx r)
 subst e;exact .inl ⟨⟨X,q,N1 _⟩,k b H p⟩
theorem ki{lo:Int}{n:Nat}{g:TG}{t:TS}{D:g7}(Pv:Nat->St->Hp->Prop)(f:Pv 0 a H)
  (s:∀i a H,i<n->Pv i a H->g (.int<|lo+i) a H λb d=>t {D with nx:=Pv<|i+1,ct:=Pv<|i+1,bk:=D.nx} b d) (j:∀a H,Pv n a H->D.nx a H):
  ∃W:Nat->Nat->St->Hp->Prop,(∃m,W 0 m a H)/\∀i m a H,W i m a H->
   ((En lo n).stop i H/\D.nx a H)\/((En lo n).go i H/\∃N:St->Hp->Prop,(∀c h,N c h->∃M,M<m/\W (i+1) M c h)/\∀x h,(En lo n).yld i H x h->g x a h λb d=>t {D with nx:=N,ct:=N,bk:=D.nx} b d):=by
 exists λi m a H=>m=n-i/\i<=n/\Pv i a H,⟨n,by simp,Ou _,f⟩;rintro i m a H ⟨rfl,k,p⟩;by_cases r:i<n
 ·refine .inr ⟨r,Pv<|i+1,λc h P=>⟨n-(i+1),Nat.sub_lt_sub_left r (Sg _),rfl,r,P⟩,λx h y=>?_⟩;obtain⟨e,y⟩:=y;subst e y;exact s i a _ r p
 have e:i=n:=Nat.le_antisymm k (Zx r)
 subst e;exact .inl ⟨N1 _,j a H p⟩
abbrev R2:=V->V->Hp->VK->Prop
def OpR(X:Cx)(f:M'->M'->Sem M')(r:R2):Prop:=
 ∀(N:ab (C'×Obj)) (s:N8) (a:St) (H:Hp) (x y:V) (v u:M') (Q:VK),Inv X N a H s->RelV x v->RelV y u->r x y H Q->
  wpAny (OI X.prog X.w) X.A (f v u) (EP X N a Q) X.xe s
def MM(X:Cx)(f:M'->Sem M')(r:V->Hp->VK->Prop):Prop:=
 ∀(N:ab (C'×Obj)) (s:N8) (a:St) (H:Hp) (x:V) (v:M') (Q:VK),Inv X N a H s->RelV x v->r x H Q->
  wpAny (OI X.prog X.w) X.A (f v) (EP X N a Q) X.xe s
def dL(X:Cx)(f:M')(r:ab V->Hp->VK->Prop):Prop:=
 ∀(N:ab (C'×Obj)) (s:N8) (a:St) (H:Hp) (x:ab V) (u:ab M') (Q:VK),Inv X N a H s->Vals x u->r x H Q->
  wpAny (OI X.prog X.w) X.A (call f u) (EP X N a Q) X.xe s
def MN(X:Cx)(r:V->Hp->(N6->Hp->Prop)->Prop):Prop:=
 ∀(N:ab (C'×Obj)) (s:N8) (a:St) (H:Hp) (x:V) (v:M') (Q:N6->Hp->Prop),Inv X N a H s->RelV x v->r x H Q->
  wpAny (OI X.prog X.w) X.A (truthy v) (TP X N a Q) X.xe s
def Eo(r:R2)(t T:TE):TE:=λa H Q=>t a H λx h=>T a h λy b=>r x y b Q
def NN(r:V->Hp->VK->Prop)(t:TE):TE:=λa H Q=>t a H λx h=>r x h Q
inductive Nv (C:Int->Int->Prop)(g:Int->Int->V)(x y:V)(H:Hp)(Q:VK):Prop
 |mk (i j:Int)(hx:x=.int i)(h:y=.int j)(c:C i j)(q:Q (g i j) H)
inductive Nw (g:Int->Int->V)(x y:V)(H:Hp)(Q:VK):Prop
 |mk (i j:Int)(hx:x=.int i)(h:y=.int j)(q:Q (g i j) H)
inductive Ny (g:Int->V)(x:V)(H:Hp)(Q:VK):Prop
 |mk (i:Int)(hx:x=.int i)(q:Q (g i) H)
def rI(C:Int->Int->Prop)(g:Int->Int->V):R2:=λx y H Q=>Nv C g x y H Q
def Er(g:Int->Int->V):R2:=λx y H Q=>Nw g x y H Q
def rU(g:Int->V):V->Hp->VK->Prop:=λx H Q=>Ny g x H Q
theorem Iq(k:PE X a t)(l:PE X b T){R:V->V->Hp->Prop}(I:Inv X O d H s)
  (h:t d H λx j=>T d j λy c=>R x y c) {Q:M'->N8->Prop} {f:M'->M'->Sem M'}
  (m:∀v u i x y c,Inv X O d c i->RelV x v->RelV y u->R x y c->wpAny (OI X.prog X.w) X.A (f v u) Q X.xe i):
  wpAny (OI X.prog X.w) X.A (Qs a X.env) (λv e=>wpAny (OI X.prog X.w) X.A (Qs b X.env) (λu g=>wpAny (OI X.prog X.w) X.A (f v u) Q X.xe g) X.xe e) X.xe s:=bu (k O s d H _ I h) (by rintro v n ⟨x,j,o,r,q⟩;exact bu (l O n d j _ o q) (by rintro u i ⟨y,c,p,w,z⟩;exact m v u i x y c p r w z))
theorem cm(o:OpR X (RC O) r)(c:PE X a t)(d:PE X b T):PE X (.BinOp a O b p) (Eo r t T):=by
 intro g s e H Q I h;exact wpAny_BinOp<|Iq c d I h λv u f x y i j k l q=>o g f e i x y v u Q j k l q
theorem KB(o:MM X (unaryOp p) r)(c:PE X a t):PE X (.UnaryOp p a P) (NN r t):=by
 intro O s b H Q I h;exact UnaryOp_<|bu (c O s b H _ I h) (by rintro v d ⟨x,e,i,f,q⟩;exact o O d b e x v Q i f q)
theorem KC{f:M'->M'->Sem M'}{C:Int->Int->Prop}{g:Int->Int->Int}
  (rule:∀i j t u s Q E,C i j->Q (.int (g i j) s.toks) {s with toks:=s.toks+1}->wpAny (OI X.prog X.w) X.A (f (.int i t)<|.int j u) Q E s):
  OpR X f (rI C λi j=>.int<|g i j):=by
 intro O s b H x y v u Q I r a h;obtain⟨i,j,rfl,rfl,c,q⟩:=h;obtain⟨t,rfl⟩:=r;obtain⟨T,rfl⟩:=a;exact rule i j t T s _ _ c ⟨.int<|g i j,H,I.tok _,⟨_,rfl⟩,q⟩
theorem Ir{f:M'->M'->Sem M'}{g:Int->Int->Int}
  (rule:∀i j t u s Q E,Q (.int (g i j) s.toks) {s with toks:=s.toks+1}->wpAny (OI X.prog X.w) X.A (f (.int i t)<|.int j u) Q E s):
  OpR X f (Er λi j=>.int<|g i j):=by
 intro O s b H x y v u Q I r a h;obtain⟨i,j,rfl,rfl,q⟩:=h;obtain⟨t,rfl⟩:=r;obtain⟨T,rfl⟩:=a;exact rule i j t T s _ _ ⟨.int<|g i j,H,I.tok _,⟨_,rfl⟩,q⟩
theorem Es{f:M'->M'->Sem M'}{g:Int->Int->N6}
  (rule:∀i j t u s Q E,Q (.bool<|g i j) s->wpAny (OI X.prog X.w) X.A (f (.int i t)<|.int j u) Q E s):
  OpR X f (Er λi j=>.bl<|g i j):=by
 intro O s b H x y v u Q I r a h;obtain⟨i,j,rfl,rfl,q⟩:=h;obtain⟨t,rfl⟩:=r;obtain⟨T,rfl⟩:=a;exact rule i j t T s _ _ ⟨.bl<|g i j,H,I,rfl,q⟩
def MO(i j:Int):Prop:=0<j/\j<1073741824
def MP(i j:Int):Prop:=0<=j/\j<=1000000/\i.natAbs<2^64
def CMul(i j:Int):Prop:=(-(2^64)<i/\i<2^64)\/(-(2^64)<j/\j<2^64)
theorem CMul.ok(h:CMul i j):IntMulOk i j:=by
 obtain⟨H,a⟩|⟨H,a⟩:=h
 ·exact .of_left<|L0 H a
 exact .of_right<|L0 H a
theorem uF(k:Nat):(0:Int)<=2^k:=Int.natCast_nonneg _
theorem Al:OpR X (RC .Add) (Er λi j=>.int<|i+j):=Ir λz z z z z z z q=>add_int q
theorem Iu:OpR X (RC .Sub) (Er λi j=>.int<|i-j):=Ir λz z z z z z z q=>sub_int q
theorem Iw:OpR X (RC .Mult) (rI CMul λi j=>.int<|i*j):=KC λz z z z z z z h q=>mul_int q h.ok
theorem Et:OpR X (RC .FloorDiv) (rI MO λi j=>.int<|i/j):=KC λi j z z z z z h q=>by
 have H:=h.1;have a:=h.2;exact floordiv_int (by lia) (by rwa[VE i<|by exact hY H]) (.inl<|WH<|by omega)
theorem Ix:OpR X (RC .Mod) (rI (λz j=>0<j) λi j=>.int<|i%j):=KC λi j z z z z z h q=>by
 have H:=h;exact mod_int' (by lia) (by rwa[Int.fmod_eq_emod_of_nonneg i<|by exact hY H])
theorem Iy:OpR X (RC .LShift) (rI MP λi j=>.int<|i*2^j.toNat):=KC λz z z z z z z h q=>lshift_int_small h.1 h.2.1 h.2.2 q
theorem Iz:OpR X (RC .RShift) (rI (λz j=>0<=j) λi j=>.int<|i/2^j.toNat):=KC λi j z z z z z h q=>
 rshift_int h (by rwa[VE i<|uF _])
theorem IA:OpR X (RC .BitAnd) (Er λi j=>.int<|RF i j):=Ir λz z z z z z z q=>and_int q
theorem NO{f:M'->Sem M'}{g:Int->Int}
  (rule:∀i t s Q E,Q (.int (g i) s.toks) {s with toks:=s.toks+1}->wpAny (OI X.prog X.w) X.A (f<|.int i t) Q E s):
  MM X f (rU λi=>.int<|g i):=by
 intro O s a H x v Q I r h;obtain⟨i,rfl,q⟩:=h;obtain⟨t,rfl⟩:=r;exact rule i t s _ _ ⟨.int<|g i,H,I.tok _,⟨_,rfl⟩,q⟩
theorem IB:MM X (unaryOp .USub) (rU λi=>.int (-i)):=NO λz z z z z q=>neg_int q
noncomputable def KD:V->V->N6
 |.non,.non=>NU|.non,.int _=>NU|.int _,.non=>NU|.non,.bl _=>NU|.bl _,.non=>NU|.non,.str _=>NU|.str _,.non=>NU
 |.int _,.int _=>NU|.bl _,.bl _=>NU|.str _,.str _=>NU|.byt _,.byt _=>NU
 |.int _,.str _=>NU|.str _,.int _=>NU|.bl _,.str _=>NU|.str _,.bl _=>NU
 |_,_=>NZ
def Nz:R2:=λx y H Q=>KD x y=NU/\Q (.bl (decide (x=y))) H
def NA:R2:=λx y H Q=>KD x y=NU/\Q (.bl (!decide (x=y))) H
theorem wm:decide (V.int i=V.int j)=(i == j):=by
 rw[PV];simp
theorem qv:decide (V.bl i=V.bl j)=(i == j):=by
 rw[PV];simp
theorem wo:decide (V.str i=V.str j)=(i == j):=by
 rw[PV];simp
theorem wp:decide (V.byt i=V.byt j)=(i.toList == j.toList):=by
 rw[PV];simp
theorem aW(I:Inv X O a H s)(q:Q (.bl k) H)(e:k=b):EP X O a Q (.bool b) s:=by
 subst e;exact⟨.bl k,H,I,rfl,q⟩
theorem KE:OpR X (PL .Eq) Nz:=by
 intro O s c H x y v u Q I b r h;obtain⟨a,q⟩:=h;cases x with
 |non=>
  cases b;cases y with
  |non=>cases r;exact aaJ (aW I q<|by simp)
  |bl j=>cases r;exact aaK (aW I q<|by simp)
  |int j=>obtain⟨T,rfl⟩:=r;exact abc (aW I q<|by simp)
  |str j=>obtain⟨T,rfl⟩:=r;exact abb (aW I q<|by simp)
  |_=>exact absurd ‹_› Oa
 |bl i=>
  cases b;cases y with
  |non=>cases r;exact aaL (aW I q<|by simp)
  |bl j=>cases r;exact eq_bool<|aW I q qv
  |str j=>obtain⟨T,rfl⟩:=r;exact aaP (aW I q<|by simp)
  |_=>exact absurd ‹_› Oa
 |int i=>
  obtain⟨t,rfl⟩:=b;cases y with
  |non=>cases r;exact abd (aW I q<|by simp)
  |int j=>obtain⟨T,rfl⟩:=r;exact eq_int<|aW I q wm
  |str j=>obtain⟨T,rfl⟩:=r;exact abh (aW I q<|by simp)
  |_=>exact absurd ‹_› Oa
 |str i=>
  obtain⟨t,rfl⟩:=b;cases y with
  |non=>cases r;exact aba (aW I q<|by simp)
  |bl j=>cases r;exact aaO (aW I q<|by simp)
  |int j=>obtain⟨T,rfl⟩:=r;exact abg (aW I q<|by simp)
  |str j=>obtain⟨T,rfl⟩:=r;exact eq_str<|aW I q wo
  |_=>exact absurd ‹_› Oa
 |byt i=>
  obtain⟨t,rfl⟩:=b;cases y with
  |byt j=>obtain⟨T,rfl⟩:=r;exact PySem.W.eq_bytes<|aW I q wp
  |_=>exact absurd ‹_› Oa
 |_=>cases y<;>exact absurd ‹_› Oa
theorem KF:OpR X (PL .NotEq) NA:=by
 intro O s c H x y v u Q I b r h;obtain⟨a,q⟩:=h;cases x with
 |non=>
  cases b;cases y with
  |non=>cases r;exact aaG (aW I q<|by simp)
  |bl j=>cases r;exact aaH (aW I q<|by simp)
  |int j=>obtain⟨T,rfl⟩:=r;exact aa_ (aW I q<|by simp)
  |str j=>obtain⟨T,rfl⟩:=r;exact aa9 (aW I q<|by simp)
  |_=>exact absurd ‹_› Oa
 |bl i=>
  cases b;cases y with
  |non=>cases r;exact aaI (aW I q<|by simp)
  |bl j=>cases r;exact ne_bool<|aW I q<|OY not qv
  |str j=>obtain⟨T,rfl⟩:=r;exact aaN (aW I q<|by simp)
  |_=>exact absurd ‹_› Oa
 |int i=>
  obtain⟨t,rfl⟩:=b;cases y with
  |non=>cases r;exact aa' (aW I q<|by simp)
  |int j=>obtain⟨T,rfl⟩:=r;exact ne_int<|aW I q<|OY not wm
  |str j=>obtain⟨T,rfl⟩:=r;exact abf (aW I q<|by simp)
  |_=>exact absurd ‹_› Oa
 |str i=>
  obtain⟨t,rfl⟩:=b;cases y with
  |non=>cases r;exact aa8 (aW I q<|by simp)
  |bl j=>cases r;exact aaM (aW I q<|by simp)
  |int j=>obtain⟨T,rfl⟩:=r;exact abe (aW I q<|by simp)
  |str j=>obtain⟨T,rfl⟩:=r;exact ne_str<|aW I q<|OY not wo
  |_=>exact absurd ‹_› Oa
 |byt i=>
  obtain⟨t,rfl⟩:=b;cases y with
  |byt j=>obtain⟨T,rfl⟩:=r;exact PySem.W.ne_bytes<|aW I q<|OY not wp
  |_=>exact absurd ‹_› Oa
 |_=>cases y<;>exact absurd ‹_› Oa
theorem ph:OpR X (PL .Lt) (Er λi j=>.bl (decide (i<j))):=Es λz z z z z z z q=>lt_int q
theorem jz:OpR X (PL .LtE) (Er λi j=>.bl (decide (i<=j))):=Es λz z z z z z z q=>le_int q
theorem Gz:OpR X (PL .Gt) (Er λi j=>.bl (decide (j<i))):=Es λz z z z z z z q=>gt_int q
theorem GA:OpR X (PL .GtE) (Er λi j=>.bl (decide (j<=i))):=Es λz z z z z z z q=>ge_int q
theorem Am:OpR X (PL .Is) (λx y H Q=>y=.non/\Q (.bl (decide (x=.non))) H):=by
 intro O s b H x y v u Q I r a h;obtain⟨rfl,q⟩:=h;cases a;refine is_none_gen<|aW I q ?_;cases x<;>first
  |(rfl)
  |(obtain⟨t,rfl⟩:=r;rfl)
theorem wq:OpR X (PL .IsNot) (λx y H Q=>y=.non/\Q (.bl (!decide (x=.non))) H):=by
 intro O s b H x y v u Q I r a h;obtain⟨rfl,q⟩:=h;cases a;refine isnot_none_gen<|aW I q ?_;cases x<;>first
  |(rfl)
  |(obtain⟨t,rfl⟩:=r;rfl)
theorem OpR.or(h:OpR X f r)(h':OpR X f d):OpR X f (λx y H Q=>r x y H Q\/d x y H Q):=by
 intro O s a H x y v u Q I b c q;obtain q|q:=q
 ·exact h O s a H x y v u Q I b c q
 exact h' O s a H x y v u Q I b c q
theorem An(b:Pl)(h:o≠.In:=by decide)(H:o≠.NotIn:=by decide):Su o b=false:=by
 have e:(o == CmpOp.In)=false:=by simp_all
 have E:(o == CmpOp.NotIn)=false:=by simp_all
 cases b<;>simp[Su,e,E]
theorem iI(c:OpR X (PL o) r)(d:PE X a t)(e:PE X b T)(m:Su o b=NZ):PE X (.Compare a [o] [b] p) (Eo r t T):=by
 intro O s f H Q I h;exact wpAny_Compare1 (Iq d e I h λv u g x y i j k l q=>c O g f i x y v u Q j k l q) m
def Ao(t:TE):TT:=λa H Q=>t a H λx h=>Ib x Q h
theorem eO(f:OpR X (PL o) r)(g:PE X a t)(i:PE X b T)(m:Su o b=NZ):PT X (.Compare a [o] [b] p) (Ao<|Eo r t T):=by
 intro O s d H Q I h;refine W6 (bu (g O s d H _ I h) λv j Z=>?_) m;obtain⟨x,l,n,q,w⟩:=Z;refine bu (i O j d l _ n w) λu A Y=>?_;obtain⟨y,B,C,D,E⟩:=Y;refine bu (f O A d B x y v u _ C q D E) λc M W=>?_;obtain⟨z,F,G,J,k,e,L⟩:=W
 subst e;cases J;exact PR ⟨F,G,L⟩
def Ap(r b:R2)(t T c:TE):TE:=λa H Q=>t a H λx d=>T a d λy e=>r x y e λz h=>∃k,z=.bl k/\
 (if k=NU then c a h λw f=>b y w f Q else Q (.bl NZ) h)
theorem mJ(m:OpR X (PL p) r)(g:OpR X (PL o) n)(t:PE X a T)(w:PE X b A)(B:PE X c C)
  (D:lastMarks [p,o] [b,c]=false:=by with_unfolding_all rfl):PE X (.Compare a [p,o] [b,c] P) (Ap r n T A C):=by
 intro O s f H Q I h;refine Compare_chain (bu (t O s f H _ I h) λv E V=>?_) D;obtain⟨x,F,G,J,L⟩:=V;refine chain_link (bu (w O E f F _ G L) λu M S=>?_);obtain⟨y,N,U,i,W⟩:=S;refine bu (m O M f N x y v u _ U J i W) λd Y R=>?_;obtain⟨z,j,l,Z,k,e,q⟩:=R
 subst e;cases Z;refine PR ?_;cases k with
 |false=>exact ite_ff ⟨.bl NZ,j,l,rfl,q⟩
 |true=>exact ite_tt<|chain_last<|bu (B O Y f j _ l q) (by rintro w' s4 ⟨z',H4,I4,r4,q4⟩;exact g O s4 f H4 y z' u w' Q I4 i r4 q4)
theorem sm(m:OpR X (PL p) r)(g:OpR X (PL o) n)(t:PE X a T)(w:PE X b A)(B:PE X c C)
  (D:lastMarks [p,o] [b,c]=false:=by with_unfolding_all rfl):PT X (.Compare a [p,o] [b,c] P) (Ao<|Ap r n T A C):=by
 intro O s f H Q I h;refine isTrue_chain (bu (t O s f H _ I h) λv E V=>?_) D;obtain⟨x,F,G,J,L⟩:=V;refine test_link (bu (w O E f F _ G L) λu M S=>?_);obtain⟨y,N,U,i,W⟩:=S;refine bu (m O M f N x y v u _ U J i W) λd Y R=>?_;obtain⟨z,j,l,Z,k,e,q⟩:=R
 subst e;cases Z;refine PR ?_;cases k with
 |false=>
  obtain⟨k',e',q'⟩:=q;cases e';exact ite_ff ⟨j,l,q'⟩
 |true=>
  refine ite_tt<|test_last<|bu (B O Y f j _ l q) λw' s4 K=>?_;obtain⟨z',H4,I4,r4,q4⟩:=K;refine bu (g O s4 f H4 y z' u w' _ I4 i r4 q4) λd' s5 hz=>?_;obtain⟨z2,H5,I5,r5,k2,e2,q5⟩:=hz;subst e2;cases r5;exact PR ⟨H5,I5,q5⟩
def Eu(K:B')(x:V)(H:Hp)(k:N6):Prop:=
 match x with
 |.non=>k=NZ
 |.bl b=>k=b
 |.int i=>k=(i != 0)
 |.str y=>y.length<=sizeLine/\k=((y.length:Int) != 0)
 |.byt y=>y.size<=sizeLine/\k=((y.size:Int) != 0)
 |.ref p=>(∃X,SqL K H p X/\k=!X.isEmpty)\/(∃X,SqT K H p X/\k=!X.isEmpty)\/∃s,H p=gV (.dK s)/\k=!s.isEmpty
 |_=>False
theorem uG{a:Type}{k:ab (a×V)}{v:ab (a×M')}(r:KV k v):(!v.isEmpty)=!k.isEmpty:=by
 cases r<;>rfl
theorem mK(r:Vals x P):(!P.toArray.isEmpty)=!x.isEmpty:=by
 cases r<;>simp
theorem kj:(sizeLine:Nat)<2^63:=by rw[P0];simp
theorem IC:MN X (λx H Q=>∃k,Eu X.K x H k/\Q k H):=by
 intro O s u H x v Q I d h;obtain⟨k,e,q⟩:=h;have w:=kj;have A:sizeLine=16777216:=P0;cases x with
 |non=>
  cases d;have E:k=false:=e;subst E;exact truthy_none ⟨H,I,q⟩
 |bl b=>
  cases d;have E:k=b:=e;subst E;exact PR ⟨H,I,q⟩
 |int i=>
  obtain⟨t,rfl⟩:=d;have E:k=(i != 0):=e;subst E;exact PySem.P.truthy_int ⟨H,I,q⟩
 |str y=>
  obtain⟨t,rfl⟩:=d;obtain⟨j,E⟩:y.length<=sizeLine/\k=((y.length:Int) != 0):=e;subst E;exact PySem.P.truthy_str (by lia) ⟨H,I.tok _,q⟩
 |byt y=>
  obtain⟨t,rfl⟩:=d;obtain⟨j,E⟩:y.size<=sizeLine/\k=((y.size:Int) != 0):=e;subst E;exact PySem.W.truthy_bytes (O6 j (by decide)) ⟨H,I.tok _,q⟩
 |ref p=>
  cases d;have E:(∃c,SqL X.K H p c/\k=!c.isEmpty)\/(∃c,SqT X.K H p c/\k=!c.isEmpty)\/∃a,H p=gV (.dK a)/\k=!a.isEmpty:=e;obtain⟨c,f,E⟩|⟨c,f,E⟩|⟨a,f,E⟩:=E
  ·subst E;obtain⟨n,r,P,z⟩:=I.list f;have l:=r.length;exact wpAny_truthy_list P.isList (by simp only[Ol];lia) ⟨H,I.tok _,by rw[mK r];exact q⟩
  ·subst E;obtain⟨n,r,P,z⟩:=I.tuple f;have l:=r.length;exact truthy_tuple P (by simp only[Ol];lia) ⟨H,I.tok _,by rwa[mK r]⟩
  ·subst E;obtain⟨z,o,g,r,m⟩:a.length<=sizeLine/\(p == QT)=NZ/\∃g,KV a g/\s.heap.DictOf (aN _ X.w) p g:=I.hok p _ f;have l:=Paired.length r;exact wpAny_truthy_dict o m (by lia) ⟨H,I.tok _,by rwa[uG r]⟩
 |_=>exact(e).elim
theorem fU(d:PE X a t)(e:∀Y,isTrue a X.env Y=(do let v <-Y;XE a.pos;T7 [v] (truthy v))):
  PT X a (λb H Q=>t b H λx c=>∃k,Eu X.K x c k/\Q k c):=by
 intro O s b H Q I h;exact isTrue_plain (bu (d O s b H _ I h) (by rintro v f ⟨x,g,i,r,q⟩;exact IC O f b g x v Q i r q))<|e _
theorem uH:OpR X (RC .Add) (λx y H Q=>∃i j,x=.str i/\y=.str j/\i.length+j.length<=sizeLine/\Q (.str<|i++j) H):=by
 intro N s b H x y v u Q I r a h;obtain⟨i,j,rfl,rfl,z,q⟩:=h;obtain⟨t,rfl⟩:=r;obtain⟨T,rfl⟩:=a;exact add_str (λT k=>⟨.str<|i++j,H,I.tok _,⟨_,rfl⟩,q⟩) z
theorem eu(r:Vals [x] U):∃u,U=[u]/\RelV x u:=by
 cases r with
 |cons a b=>cases b;exact⟨_,rfl,a⟩
theorem wt(r:Vals [x,y] U):∃u w,U=[u,w]/\RelV x u/\RelV y w:=by
 cases r with
 |cons a b=>
  cases b with
  |cons c d=>cases d;exact⟨_,_,rfl,a,c⟩
theorem su:dL X (.builtin "abs") (λx H Q=>∃i,x=[.int i]/\Q (.int (if i<0 then -i else i)) H):=by
 intro O s a H x U Q I r h;obtain⟨i,rfl,q⟩:=h;obtain⟨u,rfl,t,rfl⟩:=eu r;exact X3 λu T=>⟨.int _,H,I.tok _,⟨_,rfl⟩,q⟩
theorem ym(c:X.calm=NU):dL X (.builtin "max") (λx H Q=>∃i j,x=[.int i,.int j]/\Q (.int (if j>i then j else i)) H):=by
 intro N s b H x U Q I r h;obtain⟨i,j,rfl,q⟩:=h;obtain⟨u,w,rfl,⟨t,rfl⟩,⟨T,rfl⟩⟩:=wt r;refine max_two_ints (I.ok.hd c) λd e k=>⟨_,H,I.kept k,?_,q⟩;by_cases a:j>i
 ·rw[Oi a,Oi a];exact⟨_,rfl⟩
 rw[Oh a,Oh a];exact⟨_,rfl⟩
theorem yn(c:X.calm=NU):dL X (.builtin "min") (λx H Q=>∃i j,x=[.int i,.int j]/\Q (.int (if j<i then j else i)) H):=by
 intro P s b H x U Q I r h;obtain⟨i,j,rfl,q⟩:=h;obtain⟨u,w,rfl,⟨t,rfl⟩,⟨T,rfl⟩⟩:=wt r;refine min_two_ints (I.ok.hd c) λd e k=>⟨_,H,I.kept k,?_,q⟩;by_cases a:j<i
 ·rw[Oi a,Oi a];exact⟨_,rfl⟩
 rw[Oh a,Oh a];exact⟨_,rfl⟩
theorem yo:dL X (.type "int") (λx H Q=>(∃i,x=[.int i]/\Q (.int i) H)\/∃k,x=[.bl k]/\Q (.int (if k then 1 else 0)) H):=by
 intro O s b H x U Q I r h;obtain⟨i,rfl,q⟩|⟨k,rfl,q⟩:=h
 ·obtain⟨u,rfl,t,rfl⟩:=eu r;exact call_int_int ⟨.int i,H,I,⟨_,rfl⟩,q⟩
 obtain⟨u,rfl,a⟩:=eu r;cases a;exact call_int_bool ⟨.int _,H,I.tok _,⟨_,rfl⟩,q⟩
def MQ(K:B')(x:V)(H:Hp)(n:Nat):Prop:=
 match x with
 |.str y=>y.length<=sizeLine/\n=y.length
 |.byt y=>y.size<=sizeLine/\n=y.size
 |.ref p=>(∃X,SqL K H p X/\n=X.length)\/∃X,SqT K H p X/\n=X.length
 |_=>False
inductive ID (K:B')(xs:ab V)(H:Hp)(Q:VK):Prop
 |mk (x:V)(n:Nat)(h:xs=[x])(l:MQ K x H n)(q:Q (.int n) H)
theorem e_:dL X (.builtin "len") (ID X.K):=by
 intro O s i H a U Q I r h;obtain⟨x,n,rfl,e,q⟩:=h;obtain⟨u,rfl,b⟩:=eu r;have k:=P0;cases x with
 |str y=>
  obtain⟨t,rfl⟩:=b;obtain⟨f,E⟩:y.length<=sizeLine/\n=y.length:=e;subst E;exact len_str (by lia) ⟨.int _,H,I.tok _,⟨_,rfl⟩,q⟩
 |byt y=>
  obtain⟨t,rfl⟩:=b;obtain⟨f,E⟩:y.size<=sizeLine/\n=y.size:=e;subst E;exact PySem.W.len_bytes (O6 f (by decide)) ⟨.int _,H,I.tok _,⟨_,rfl⟩,q⟩
 |ref p=>
  cases b;have E:=e;obtain⟨a,c,E⟩|⟨a,c,E⟩:=E
  ·subst E;obtain⟨g,d,P,z⟩:=I.list c;have l:=d.length;exact Calls.call_len_list P.isList (by simp only[Ol];lia) ⟨.int _,H,I.tok _,⟨_,by simp only[Ol];rw[l]⟩,q⟩
  ·subst E;obtain⟨g,d,P,z⟩:=I.tuple c;have l:=d.length;exact len_tuple P (by simp only[Ol];lia) ⟨.int _,H,I.tok _,⟨_,by simp only[Ol];rw[l]⟩,q⟩
 |_=>exact(e).elim
structure ObjM (h:O5)(x dx C:C')(mA:Str->NW M'):Prop where
 obj:h.get? x=gV (Ro C dx)
 ns:h.Ns1 dx mA
 ne:dx≠x
theorem yp{h:O5}{d:C'}{m:Str->NW M'}(n:h.Ns1 d m):∃O,h.get? d=gV O/\∀N,Vr N O=gV (m N):=by
 obtain⟨o,E,p,H,b,k,x,c⟩:=n;refine⟨o,H,λN=>?_⟩;have e:=c N;unfold nsFind findBy at e;unfold Vr;rw[b];dsimp only
 split
 ·simp_all
 have a:E.toList.any (·.refKey)=false:=by
  rw[List.any_eq_false];intro y f;obtain⟨z,t,A⟩:=k y<|Array.mem_toList_iff.mp f;simp[UQ,A]
 grind
theorem ObjM.look(I:ObjM h x d C m):∃o,PySem.W.InstAt h x (Ro C d) C (gV o)/\∀n,Vr n o=gV (m n):=
 let ⟨o,H,l⟩:=yp I.ns
 ⟨o,⟨I.obj,rfl,rfl,H⟩,l⟩
section
variable {prog:Of}{w:OE}{A:Pr}{E:M'->N8->Prop}{s:N8}{K:B'}{x dx C f:C'}{mA:Str->NW M'}{name:Str}{v:M'}
theorem Ev{e:N6}{Q:M'->N8->Prop}(X:K.In s.heap)(I:ObjM s.heap x dx C mA)(H:Ry K C name=NU)(a:RU K C=NU)
  (b:O4 K (.ref C) name=gV N4) (c:mA name=gV v) (Z:Zj v=NU) (h:Q v {s with toks:=s.toks+1}):
  wpAny (OI prog w) A (getAttr (.ref x) name e) Q E s:=by
 obtain⟨o,J,l⟩:=I.look;exact PySem.W.get_value X J (Va H).1 (PySem.W.findObj_own a b rfl<|by rw[l,c]) Z h
theorem Aq{p:Sem N6}{Q:M'×ab M'->N8->Prop}(X:K.In s.heap)(I:ObjM s.heap x dx C mA)(H:Ry K C name=NU)
  (a:O4 K (.ref C) name=gV (gV<|.ref f)) (t:Vi K (.ref f)=NU) (b:mA name=N4) (h:Q (.ref f,[.ref x]) s):
  wpAny (OI prog w) A (Wl (.ref x) name p) Q E s:=by
 obtain⟨o,J,l⟩:=I.look;exact PySem.W.method_fn X J (Va H).1 (Va H).2 a (UI.mp t) (by show(Vr _ o).map _=gV NZ;simp_all) h
theorem Ew{n:ab Str}{Q:Xf->N8->Prop}(X:K.In s.heap)(I:ObjM s.heap x dx C mA)
  (e:O4 K (.ref C) "__setattr__"=gV (gV<|.builtin "object.__setattr__")) (p:SB K C=NU) (t:W0 K C name=gV N4) (g:RU K C=NU)
  (i:YQ mA n) (z:n.length<=sizeLine)
  (h:∀h',ObjM h' x dx C (λy=>if y=name then gV v else mA y)->SX dx s.heap h'->Q () {s with heap:=h',toks:=s.toks+2}):
  wpAny (OI prog w) A (setAttr (.ref x) name v) Q E s:=by
 obtain⟨o,J,q⟩:=I.look;refine PySem.W.set_plain X J e<|PySem.W.osa_open X J p t λb=>?_;obtain⟨r,j,a⟩:=PySem.W.any_some g;have k:=I.obj;refine N0<|Oj<|N0<|N0<|wpAny_loadPart k<|N0<|Sh (PySem.W.looks_clsIn X j) ?_;rw[a];refine Oj<|N0<|Oj<|N0<|wpAny_nsSet1 I.ns λh' H Z=>?_;obtain⟨O,l,m,D,c,d⟩:=H.count<|Uu _ v i;exact N0<|wpAny_lookBehind D (by rw[c];exact pastItsLine_dict<|O6 d<|SZ z)<|Oj<|h _ ⟨(Z.2 _<|Pw I.ne).trans I.obj,H,I.ne⟩ Z
theorem Ar{R:Zn->N8->Prop}{b:ab M'}{k:ab (Str×M')}(X:K.In s.heap)(H:Tu K C=NU)
  (i:O4 K (.ref C) "__init__"=gV (gV<|.ref f)) (c:PySem.W.typeIn K (.ref f)=gV (.type "function"))
  (h:codeAny (OI prog w) (A.under<|.builtin "type.__call__" ⟨.ref C::b,k⟩) (.call (.ref f) ⟨.ref (s.heap.objs.size+1)::b,k⟩) (PySem.W.InitBack (s.heap.objs.size+1) R)
   {s with heap:=(s.heap.push QE).push<|Ro C s.heap.objs.size}):
  codeAny (OI prog w) A (.call (.ref C) ⟨b,k⟩) R s:=PySem.W.make_core (PySem.W.makes_of X H) (PySem.W.looks_findIn X i) (λa=>PySem.W.bind_fn X a c) (.inl rfl) h
end
noncomputable def fz(f:Str)(v:V):ab (Str×V)->ab (Str×V)
 |[]=>[(f,v)]
 |(g,x)::r=>if g=f then(g,v)::r else(g,x)::fz f v r
theorem ly(f g:Str)(v:V):∀F,(fz f v F).lookup g=if g=f then gV v else F.lookup g
 |[]=>by
  show RY g [(f,v)]=_
  grind
 |(k,x)::r=>by
  have i:=ly f g v r;rw[show fz f v _=(if k=f then(k,v)::r else(k,x)::fz f v r)from rfl];grind
theorem km(f:Str)(v:V):∀F,f∈(fz f v F).map (·.1)/\∀g,g∈F.map (·.1)->g∈(fz f v F).map (·.1)
 |[]=>⟨by simp[fz],λg h=>by simp at h⟩
 |(k,x)::r=>by
  obtain⟨i,I⟩:=km f v r;rw[show fz f v _=(if k=f then(k,v)::r else(k,x)::fz f v r)from rfl];grind
theorem lG(f:Str)(v:V):∀F,(fz f v F).length<=F.length+1
 |[]=>by simp[fz]
 |(k,x)::r=>by
  have i:=lG f v r;rw[show fz f v _=(if k=f then(k,v)::r else(k,x)::fz f v r)from rfl];by_cases h:k=f
  ·simp_all
  simp_all
theorem RelO.some_of(r:RelO (gV v) o):∃u,o=gV u/\RelV v u:=by
 cases o with
 |none=>exact(r).elim
 |some u=>exact⟨u,rfl,r⟩
theorem RelO.none_of(r:RelO N4 o):o=none:=by
 cases o with
 |none=>rfl
 |some u=>exact(r).elim
theorem yq(r:RelV v u):Zj u=true:=by
 cases v with
 |non=>cases(r);rfl
 |bl b=>cases(r);rfl
 |int i=>obtain⟨t,e⟩:=(r);cases e;rfl
 |str x=>obtain⟨t,e⟩:=(r);cases e;rfl
 |byt b=>obtain⟨t,e⟩:=(r);cases e;rfl
 |flt b=>obtain⟨t,e⟩:=(r);cases e;rfl
 |ref a=>cases(r);rfl
 |ty n=>cases(r);rfl
theorem md(k:HOk P w H h)(e:H a=gV (.ins C D F)):∃m,ObjM h a D C m/\(∀f,RelO (F.lookup f)<|m f)/\YQ m (F.map (·.1))/\F.length<=1000/\H D=gV (.own a):=by
 obtain⟨d,z,N,o,m,n,r,q⟩:=(k a _ e);exact⟨m,⟨o,n,N⟩,r,q,z,d⟩
structure Cls (K:B')(C:C'):Prop where
 pg:Ry K C Zl=NU
 hd:RU K C=NU
 po:SB K C=NU
 sa:O4 K (.ref C) "__setattr__"=gV (gV<|.builtin "object.__setattr__")
theorem Cls.get{K:B'}{C:C'}(c:Cls K C)(f:Str):Ry K C f=true:=c.pg
def NoAttr(K:B')(C:C')(f:Str):Prop:=O4 K (.ref C) f=gV N4
theorem NoAttr.taker{K:B'}{C:C'}{f:Str}(n:NoAttr K C f):W0 K C f=gV none:=by
 unfold W0;rw[n];rfl
structure Ex (K:B')(C:C')(m:Str)(f:C'):Prop where
 at_:O4 K (.ref C) m=gV (gV<|.ref f)
 fn:Vi K (.ref f)=NU
 kp:Px K (.ref f)=NU
theorem uI{b:N6}{Q:M'->N8->Prop}(I:Inv X o i H s)(e:H a=gV (.ins C D F))(c:Cls X.K C)(n:NoAttr X.K C f)(l:F.lookup f=gV v)
  (h:∀u d,Inv X o i H d->RelV v u->Q u d):wpAny (OI X.prog X.w) A (getAttr (.ref a) f b) Q E s:=by
 obtain⟨m,O,r,z,z,z⟩:=md I.hok e;obtain⟨u,j,g⟩:=RelO.some_of (by rw[<-l];exact r f);exact Ev I.kIn O (c.get f) c.hd n j (yq g)<|h u _ (I.tok _) g
theorem mL{p:Sem N6}{Q:M'×ab M'->N8->Prop}(I:Inv X o b H s)(e:H a=gV (.ins C d f))(c:Cls X.K C)(k:Ex X.K C m g)(l:f.lookup m=N4)
  (h:Q (.ref g,[.ref a]) s):wpAny (OI X.prog X.w) A (Wl (.ref a) m p) Q E s:=by
 obtain⟨M,O,r,z,z,z⟩:=md I.hok e;have n:=RelO.none_of (by rw[<-l];exact r m);exact Aq I.kIn O (c.get m) k.at_ k.fn n h
theorem uJ{Q:Xf->N8->Prop}(I:Inv X l p H s)(e:H a=gV (.ins C d F))(c:Cls X.K C)(n:NoAttr X.K C f)(M:F.length<1000)(t:RelV y u)
  (h:∀j,Inv X l p (upd H a<|.ins C d<|fz f y F) j->Q () j):wpAny (OI X.prog X.w) A (setAttr (.ref a) f u) Q E s:=by
 obtain⟨m,O,r,w,Z,k⟩:=md I.hok e;have v:(F.map (·.1)).length<=sizeLine:=by rw[J',P0];exact OQ (Pb M (by decide))
 refine Ew I.kIn O c.sa c.po n.taker c.hd w v λx i B=>h _ ?_;have D:∃o,x.get? d=gV o:=let ⟨o,_,_,G,_⟩:=i.ns;⟨o,G⟩
 refine I.write (by rw[e];exact QS) (.inr k) (λb q J z=>(B.2 b J).trans z) D<|⟨by rwa[af O.ne],?_,O.ne,i.obj,_,i.ns,λg=>?_,λg L=>?_⟩
 ·have:=lG f y F;lia
 ·rw[ly];by_cases q:g=f
  ·rwa[Oi q,Oi q]
  simp_all
 by_cases q:g=f
 ·rw[q];exact(km f y F).1
 refine(km f y F).2 g<|w g λz=>L ?_;simp_all
theorem Inv.made(I:Inv X O a H s):Inv X O a (upd (upd H s.heap.objs.size<|.own<|s.heap.objs.size+1) (s.heap.objs.size+1)<|.ins C s.heap.objs.size [])
  {s with heap:=(s.heap.push QE).push<|Ro C s.heap.objs.size}:=by
 have E:(s.heap.push QE).get? _=gV QE:=OJ _ rfl;have c:((s.heap.push QE).push<|Ro C s.heap.objs.size).get? (s.heap.objs.size+1)=gV (Ro C s.heap.objs.size):=by
  have:=OJ (s.heap.push QE) (o:=Ro C s.heap.objs.size) rfl
  rwa [SJ]at this
 have d:(s.heap.push QE).Ns _ _:=⟨QE,#[],_,E,rfl,(λe h=>by simp_all),λz=>rfl⟩;have i:=I.laid (o:=.own<|s.heap.objs.size+1) (t':=s.toks) (λb u q=>N_ _ q) (N1 _) ⟨_,E⟩;refine i.laid (λb u q=>N_ _ q) (Ui<|SJ _ _) ?_;have n:s.heap.objs.size≠s.heap.objs.size+1:=OF<|Sg _;refine⟨by rw[af n,aa],Ou _,n,c,λz=>N4,(Heap.Ns1.of_empty d).at λo q=>N_ _ q,λz=>QS,λy f=>absurd rfl f⟩
theorem Ey{p:Of}{w:OE}{P:Pos}{s:N8}{Q:M'->N8->Prop}(H:Ti e f v (Qs e v)=Qs e v)
  (h:wpAny (OI p w) A (Qs e v) (λo a=>wpAny (OI p w) A (getAttr o f NU) Q E a) E s):wpAny (OI p w) A (Qs (.Attribute e f P) v) Q E s:=
 Attribute_any_ h (by rw[arm_eval_Attribute,H])
def IE(K:B')(t:TE)(f:Str):TE:=λb H Q=>t b H λx h=>∃a C d F v,x=.ref a/\h a=gV (.ins C d F)/\Cls K C/\NoAttr K C f/\F.lookup f=gV v/\Q v h
def IF(K:B')(t T:TE)(f:Str):TS:=λD b H=>T b H λy c=>t b c λx h=>∃a C d F,x=.ref a/\h a=gV (.ins C d F)/\Cls K C/\NoAttr K C f/\F.length<1000/\
 D.nx b (upd h a<|.ins C d<|fz f y F)
theorem As(b:PE X e t)(d:Ti e f X.env (Qs e X.env)=Qs e X.env):PE X (.Attribute e f p) (IE X.K t f):=by
 intro O s g H Q I h;refine Ey d<|bu (b O s g H _ I h) λu w z=>?_;obtain⟨x,i,j,r,a,C,D,F,v,E,k,c,n,l,q⟩:=z;subst E;obtain rfl:u=Pp a:=r;exact uI j k c n l λU y m o=>⟨v,i,m,o,q⟩
theorem jd(d:PE X o t)(e:PE X v T)(g:Vn v (gV<|.Attribute o f i) p.line X.env=pure NZ):PS X (.Assign [.Attribute o f i] v p) (IF X.K t T f):=by
 intro O s b H D I h;refine plainObj_wpAny_Assign_Attribute (bu (e O s b H _ I h) λu j Y=>?_) g;obtain⟨y,k,m,r,q⟩:=Y;refine bu (d O j b k _ m q) λw G Z=>?_;obtain⟨x,J,z,A,a,C,L,M,E,B,c,n,l,Q⟩:=Z;subst E;obtain rfl:w=Pp a:=A;exact uJ z B c n l r λN F=>⟨b,_,F,Q⟩
inductive je (K:B')(H:Hp):V->M'->Prop where
 |non:je K H .non (.type "NoneType")
 |bl (x:N6):je K H (.bl x) (.type "bool")
 |int (i:Int):je K H (.int i) (.type "int")
 |str (x:Str):je K H (.str x) (.type "str")
 |flt (x:UInt64):je K H (.flt x) (.type "float")
 |lst {a:C'} {xs:ab V} (e:H a=gV (.lst xs)):je K H (.ref a) (.type "list")
 |frz {a:C'} {o:Obj} {xs:ab V} (e:H a=gV (.frz o<|.lst xs)):je K H (.ref a) (.type "list")
 |tup {a:C'} {xs:ab V} (e:H a=gV (.tup xs)):je K H (.ref a) (.type "tuple")
 |dK {a:C'} {kvs:ab (aK×V)} (e:H a=gV (.dK kvs)):je K H (.ref a) (.type "dict")
 |dT {a:C'} {kvs:ab (ab aK×V)} (e:H a=gV (.dT kvs)):je K H (.ref a) (.type "dict")
 |ins {a C dx:C'} {fs:ab (Str×V)} (e:H a=gV (.ins C dx fs)) (cl:Cls K C) (ha:O4 K (.ref C) "__class__"=gV (gV<|.builtin "object.__class__"))
   (hn:VQ K (.builtin "object.__class__") "__get__"=gV (gV<|.builtin "getset_descriptor.__get__")) (htk:WZ K (.builtin "object.__class__")=gV NU)
   (hm:X2 K C (.type "object")=gV NU):je K H (.ref a) (.ref C)
theorem pi(I:Inv X M N H s)(r:RelV x u)(T:je X.K H x t)(e:QV X.K t c=gV b)(h:∀v,Q (.bool b) {s with toks:=v}):
  wpAny (OI X.prog X.w) A (call (.builtin "isinstance") [u,c]) Q E s:=by
 cases T with
 |non=>cases(r);exact Qy PySem.W.kitx_none I.kIn QS e (by simp) h
 |bl y=>cases(r);exact Qy PySem.W.kitx_bool I.kIn QS e (by simp) h
 |int i=>obtain⟨t,q⟩:=(r);cases q;exact Qy PySem.W.kitx_int I.kIn QS e (by simp) h
 |str y=>obtain⟨t,q⟩:=(r);cases q;exact Qy PySem.W.kitx_str I.kIn QS e (by simp) h
 |flt y=>obtain⟨t,q⟩:=(r);cases q;exact Qy PySem.W.kitx_float I.kIn QS e (by simp) h
 |@lst a g d=>
  cases(r);obtain⟨z,z,n,z,f⟩:=(I.hok a _ d);exact Qy YR I.kIn ⟨_,f,rfl⟩ e (by simp) h
 |@frz a w g d=>
  cases(r);obtain⟨z,z,z,n,z,f⟩:=(I.hok a _ d);exact Qy YR I.kIn ⟨_,f,rfl⟩ e (by simp) h
 |@tup a g d=>
  cases(r);obtain⟨z,z,z,p⟩:=(I.hok a _ d);obtain⟨o,f,j,z⟩:=p;exact Qy PySem.W.kitx_tuple I.kIn ⟨o,f,j⟩ e (by simp) h
 |@dK a k d=>
  cases(show u=Pp a from r);obtain⟨z,z,P,z,p⟩:=(I.hok a _ d);obtain⟨o,B,D,f,j,z⟩:=p;exact Qy YS I.kIn ⟨o,f,j.1⟩ e (by simp) h
 |@dT a k d=>
  cases(show u=Pp a from r);obtain⟨z,z,g,z,o,B,D,f,j,z⟩:=(I.hok a _ d);exact Qy YS I.kIn ⟨o,f,j.1⟩ e (by simp) h
 |@ins a C U W d m F G l L=>
  cases(r);obtain⟨Y,O,z⟩:=md I.hok d;obtain⟨Z,J,z⟩:=O.look;exact Qy (PySem.W.kitx_own (m.get _) m.hd F G l L) I.kIn J e (by simp) h
structure Room (k:Nat)(A:Pr):Prop where
 hd:A.handled=N4
 dp:A.depth+3*k+5<zz
 un:A.units+16*k+200<RT
theorem Room.mono(r:Room k A)(h:j<=k):Room j A:=⟨r.hd,by have:=r.dp;lia,by have:=r.un;lia⟩
theorem Room.deeper(r:Room (k+1) A)(e:Env):Room k (A.deeper e):=
 ⟨r.hd,by have:=r.dp;show A.depth+1+3*k+5<_;lia,by have:=r.un;show A.units+3+16*k+200<_;lia⟩
theorem uK{A:Pr}{C:C'}{u:ab M'}{k:ab (Str×M')}:(A.under<|.builtin "type.__call__" ⟨.ref C::u,k⟩).depth=A.depth+1:=by
 first|rfl|simp 
theorem uL{A:Pr}{C:C'}{u:ab M'}{k:ab (Str×M')}:(A.under<|.builtin "type.__call__" ⟨.ref C::u,k⟩).units=A.units+1:=by
 first|rfl|simp 
theorem Room.make(r:Room (k+1) A)(C:C')(u:ab M')(w:ab (Str×M')):Room k (A.under<|.builtin "type.__call__" ⟨.ref C::u,w⟩):=
 ⟨r.hd,by have:=r.dp;rw[uK];lia,by have:=r.un;rw[uL];lia⟩
theorem Room.depth(r:Room k A):A.depth<zz:=by have:=r.dp;lia
theorem Room.units(r:Room k A):A.units+64<RT:=by have:=r.un;lia
def uM:TA:=λ_ H Q=>Q [] H
def iW(t:TE)(T:TA):TA:=λa H Q=>t a H λx h=>T a h λX b=>Q (x::X) b
theorem gG:PA X [] uM:=λz z z z H Q I h=>Ug ⟨[],H,I,.nil,h⟩
theorem aD(b:PE X e T)(r:PA X E t)(c:ON (e::E) X.env=(NZ,Qs e X.env)::ON E X.env:=by rfl):PA X (e::E) (iW T t):=by
 intro p O s a H Q I h;rw[c];exact RE<|bu (b O s a H _ I h) (by rintro u d ⟨x,f,i,g,q⟩;exact bu (r p O d a f _ i q) (by rintro U o ⟨j,k,l,m,n⟩;exact ⟨x::j,k,l,.cons g m,n⟩))
def MR(t:TA):TE:=λa H Q=>t a H λx h=>x.length<=sizeLine/\∀p,h p=N4->Q (.ref p) (upd h p<|.tup x)
def MT(t:TA):TE:=λa H Q=>t a H λx h=>x.length<=sizeLine/\∀p,h p=N4->Q (.ref p) (upd h p<|.lst x)
theorem dQ{x}(h:PA X E t):PE X (.Tuple E x p) (MR t):=by
 intro O s d H Q I f;refine wpAny_Tuple_spliced<|bu (h p O s d H _ I f) λU a y=>?_;obtain⟨g,c,i,r,z,q⟩:=y;refine ⟨by rwa[<-r.length],?_⟩;have j:=i.hok.fresh<|N1 _;exact⟨.ref _,upd c _<|.tup g,i.laid (λb u e=>N_ _ e) (N1 _) (⟨z,U,r,⟨_,OJ _ rfl,rfl,_,rfl⟩⟩),rfl,q _ j⟩
theorem mM(h:PA X E t):PE X (.List E p) (MT t):=by
 intro O s d H Q I f;refine wpAny_List_spliced<|bu (h p O s d H _ I f) λU a y=>?_;obtain⟨x,c,i,r,z,q⟩:=y;refine ⟨by rwa[<-r.length],?_⟩;have g:=i.hok.fresh<|N1 _;exact⟨.ref _,upd c _<|.lst x,i.laid (λb u e=>N_ _ e) (N1 _) (⟨z,U,0,r,OJ _ rfl⟩),rfl,q _ g⟩
abbrev Sp:=ab V->Hp->VK->XK->Prop
abbrev At:=ab Env->Hp->N8->XK->M'->N8->Prop
structure Env0 (P:Of)(w:OE)(K:B')(mg:Str->NW M')(base:O5)(A:Pr)(outer:ab Env)(s:N8)(H:Hp):Prop where
 frames:A.frames=gV outer
 mod:Mod K mg base
 bs:∀b o,base.get? b=gV o->s.heap.get? b=gV o/\H b=N4
 bsz:base.objs.size<=s.heap.objs.size
 funs:s.heap.FunFrames base outer
 frf:∀b∈rW outer,H b=N4
 hok:HOk P w H s.heap
 bare:Vl s.gens
def CE(o:ab Env)(P:Of)(w:OE)(H:Hp)(s:N8)(Q:VK)(u:M')(a:N8):Prop:=
 ∃v h,a.os=s.os/\Vl a.gens/\Un (rW o) [] H h s.heap a.heap/\HOk P w h a.heap/\RelV v u/\Q v h
def CR(C:At)(o:ab Env)(P:Of)(w:OE)(H:Hp)(s:N8)(Q:VK)(E:XK)(r:Zn)(a:N8):Prop:=
 match r with
 |.ok (.ret u)=>CE o P w H s Q u a
 |.ok _=>False
 |.error e=>C o H s E e a
structure ao (P:Of)(w:OE)(K:B')(mg:Str->NW M')(base:O5)(CX:At)(k:Nat)(f:C')(fd:Oc)(ps:ab Str)(sp:Sp):Prop where
 len:∀vs H Q E,sp vs H Q E->vs.length=ps.length
 run:∀(A:Pr) (outer:ab Env) (s:N8) (H:Hp) (args:Args) (us:ab M') (vs:ab V) (Q:VK) (E:XK),Room k A->Env0 P w K mg base A outer s H->YY s fd args (ps.zip us)->Vals vs us->sp vs H Q E->
  codeAny (OI P w) A (.call (.ref f) args) (CR CX outer P w H s Q E) s
theorem Env0.make{P:Of}{w:OE}{K:B'}{m:Str->NW M'}{b:O5}{A:Pr}{o:ab Env}{s:N8}{H:Hp}(e:Env0 P w K m b A o s H)(C:C')(u:ab M')(k:ab (Str×M')):
  Env0 P w K m b (A.under<|.builtin "type.__call__" ⟨.ref C::u,k⟩) o s H:=⟨by first|exact e.frames|(simpa using e.frames),e.mod,e.bs,e.bsz,e.funs,e.frf,e.hok,e.bare⟩
theorem Inv.env0(I:Inv X O a H s):Env0 X.prog X.w X.K X.mg X.base X.A X.stack s H:=
 ⟨I.ok.frames,I.ok.mod,I.bs,O6 I.ok.bsz I.sz,I.stack,I.stkFree,I.hok,I.bare⟩
theorem Inv.after(I:Inv X O c H s)(h:CE X.stack X.prog X.w H s Q u a):EP X O c Q u a:=by
 obtain⟨v,e,os,B,U,k,r,q⟩:=h;obtain⟨f,g,d,t,o⟩:=a;obtain rfl:o=s.os:=os;exact⟨v,e,I.call U k B (λb z=>by simp_all),r,q⟩
def wu(s:Sp)(d:ab V)(E:XK)(t:TA):TE:=λa H Q=>t a H λv h=>s (v++d) h Q E
def sA(C:C')(m:Str)(s:Sp)(d:ab V)(E:XK)(T:TE)(t:TA):TE:=λb H Q=>T b H λx h=>∃a D f,x=.ref a/\h a=gV (.ins C D f)/\f.lookup m=N4/\
 t b h λv c=>s (x::(v++d)) c Q E
def GB(C:C')(s:Sp)(D:ab V)(E:XK)(t:TA):TE:=λa H Q=>t a H λb h=>∀x d,h x=N4->h d=N4->d≠x->
 s (.ref x::(b++D)) (upd (upd h d<|.own x) x<|.ins C d []) (λv c=>v=.non/\Q (.ref x) c) E
def Binds(K:B')(f:Oc)(p:ab Str)(d:ab M'):Prop:=
 ∀(s:N8) (u:ab M'),K.In s.heap->(u++d).length=p.length->YY s f ⟨u,[]⟩ (p.zip<|u++d)
theorem Binds.all{K:B'}{f:Oc}{p:ab Str}(h:∀u,u.length=p.length->YO f ⟨u,[]⟩=pure (p.zip u)):Binds K f p []:=λs u z H=>by
 rw[Pd]at H ⊢;exact .of_eq<|h u H
def jf(C:At)(X:Cx)(E:XK):Prop:=∀(N:ab (C'×Obj)) (b:St) (H:Hp) (s:N8) (e:M') (a:N8),Inv X N b H s->C X.stack H s E e a->X.xe e a
section
variable {X:Cx}{CX:At}{k:Nat}{f C:C'}{fd:Oc}{ps:ab Str}{sp:Sp}{dvs:ab V}{ds:ab M'}{E:XK}{x:Str}{p pos:Pos}{e:Pl}{es:ab Pl}{t:TA}
theorem uN{O:ab (C'×Obj)}{a:St}{H:Hp}{s:N8}{Q:VK}{U:ab M'}{v:ab V}(F:ao X.prog X.w X.K X.mg X.base CX k f fd ps sp)(c:Room k X.A)(d:Binds X.K fd ps ds)(g:Vals dvs ds)(i:jf CX X E)
  (I:Inv X O a H s) (r:Vals v U) (h:sp (v++dvs) H Q E):wpAny (OI X.prog X.w) X.A (call (.ref f) U) (EP X O a Q) X.xe s:=by
 have b:=r.append g;have l:(U++ds).length=ps.length:=by rw[<-b.length];exact F.len _ _ _ _ h
 refine X7<|T9 (F.run X.A _ s H _ _ _ Q E c I.env0 (d s U I.kIn l) b h) λr j q=>?_;cases r with
 |error e=>exact i O a H s e j I q
 |ok m=>
  cases m with
  |ret u=>exact I.after q
  |next=>exact P6 q
  |brk=>exact P6 q
  |cont=>exact P6 q
theorem Ez(F:ao X.prog X.w X.K X.mg X.base CX k f fd ps sp)(a:Room k X.A)(g:Gl X x)(m:X.mg x=gV (.ref f))(c:Px X.K (.ref f)=NU)(d:Binds X.K fd ps ds)(j:Vals dvs ds)(l:jf CX X E)
  (n:PA X (e::es) t) (b:(x == ("__debug__":Str))=false:=by decide) (o:ON (e::es) X.env=(NZ,Qs e X.env)::ON es X.env:=by rfl) (u:(Rl pos<|ON es X.env).any (·.1)=false:=by rfl):
  PE X (.Call (.Name x p) (e::es) [] pos) (wu sp dvs E t):=by
 intro O s v H Q I h;exact Qa<|l9 I g m (TN I.ok.mod.kin c (bu (n pos O s v H _ I h) (by rintro U w ⟨y,z,i,r,q⟩;exact ⟨i.kIn,uN F a d j l i r q⟩)) o u) b
theorem EA{m:Str}{v:Pos}{o:Pl}{T:TE}{P:Sem N6}(w:PE X o T)(c:Cls X.K C)(d:Ex X.K C m f)(F:ao X.prog X.w X.K X.mg X.base CX k f fd ps sp)(y:Room k X.A)(z:Binds X.K fd ps ds)(A:Vals dvs ds)(B:jf CX X E)(D:PA X (e::es) t)
  (b:ON (e::es) X.env=(NZ,Qs e X.env)::ON es X.env:=by rfl) (G:(Rl pos<|ON es X.env).any (·.1)=false:=by rfl)
  (J:Qs (.Call (.Attribute o m v) (e::es) [] pos) X.env=(do
   let O <-Qs o X.env
   XE v.atName
   let (f,first) <-T7 [O] (Wl O m P)
   nk pos f first (Rl pos<|ON (e::es) X.env) (Xk pos<|UU [] X.env)):=by rfl):
  PE X (.Call (.Attribute o m v) (e::es) [] pos) (sA C m sp dvs E T t):=by
 intro g s i H Q I h;refine W7 (bu (w g s i H _ I h) λu L p=>?_) J;obtain⟨x,M,j,N,a,dx,fs,U,W,l,q⟩:=p;subst U;obtain rfl:u=Pp a:=N;exact mL j W c d l<|TN I.ok.mod.kin d.kp (bu (D pos g L i M _ j q) (by rintro Y s2 ⟨Z,H2,n,r,q2⟩;exact ⟨n.kIn,uN (v:=.ref a::Z) F y z A B n (.cons rfl r) q2⟩)) b G
theorem Au{P:Sem N6}(d:PE X o T)(c:Cls X.K C)(b:Ex X.K C m f)(F:ao X.prog X.w X.K X.mg X.base CX k f fd ps sp)(r:Room k X.A)(g:Binds X.K fd ps ds)(j:Vals dvs ds)(n:jf CX X E)
  (w:Qs (.Call (.Attribute o m v) [] [] pos) X.env=(do
   let O <-Qs o X.env
   XE v.atName
   let (f,first) <-T7 [O] (Wl O m P)
   nk pos f first (Rl pos<|ON [] X.env) (Xk pos<|UU [] X.env)):=by rfl):
  PE X (.Call (.Attribute o m v) [] [] pos) (sA C m sp dvs E T uM):=by
 intro y s z H Q I h;refine W7 (bu (d y s z H _ I h) λu G t=>?_) w;obtain⟨x,J,i,A,a,L,M,B,D,l,q⟩:=t;subst B;obtain rfl:u=Pp a:=A;exact mL i D c b l<|PySem.W.callWith_K0 i.kIn b.kp<|uN (v:=[.ref a]) F r g j n i (.cons rfl .nil) q
structure Mk (K:B')(C f:C'):Prop where
 makes:Tu K C=NU
 init:O4 K (.ref C) "__init__"=gV (gV<|.ref f)
 fn:Vi K (.ref f)=NU
 kp:Px K (.ref C)=NU
theorem Av{O:ab (C'×Obj)}{b:St}{H:Hp}{s:N8}{Q:VK}{U:ab M'}{c:ab V}(M:Mk X.K C f)(F:ao X.prog X.w X.K X.mg X.base CX k f fd ps sp)(j:Room (k+1) X.A)(l:Binds X.K fd ps ds)(m:Vals dvs ds)
  (n:jf CX X E) (I:Inv X O b H s) (r:Vals c U)
  (h:∀x d,H x=N4->H d=N4->d≠x->sp (.ref x::(c++dvs)) (upd (upd H d<|.own x) x<|.ins C d []) (λv o=>v=.non/\Q (.ref x) o) E):
  wpAny (OI X.prog X.w) X.A (call (.ref C) U) (EP X O b Q) X.xe s:=by
 have q:=h _ _ (I.hok.fresh<|TZ _) (I.hok.fresh<|N1 _)<|OF<|Sg _;have i:=Inv.made (C:=C) I;have g:Vals (V.ref (s.heap.objs.size+1)::(c++dvs)) _:=.cons rfl<|r.append m;have w:(Pp (s.heap.objs.size+1)::U++ds).length=ps.length:=by
  have e:=g.length;rw[F.len _ _ _ _ q]at e;exact e.symm
 refine X7 (Ar I.kIn M.makes M.init (UI.mp M.fn) (T9 (F.run _ _ _ _ _ _ _ _ E (j.make C U [])
  (i.env0.make C U []) (l _ _ i.kIn w) g q) λr y a=>?_))
 cases r with
 |error e=>exact n O b _ _ e y i a
 |ok z=>
  cases z with
  |ret u=>
   obtain⟨v,A,B,D,G,J⟩:=i.after a;subst G;exact⟨D,⟨V.ref<|s.heap.objs.size+1,A,B,rfl,J⟩⟩
  |next=>exact P6 a
  |brk=>exact P6 a
  |cont=>exact P6 a
theorem EB(M:Mk X.K C f)(F:ao X.prog X.w X.K X.mg X.base CX k f fd ps sp)(a:Room (k+1) X.A)(g:Gl X x)(m:X.mg x=gV (.ref C))(c:Binds X.K fd ps ds)(d:Vals dvs ds)(j:jf CX X E)
  (l:PA X (e::es) t) (b:(x == ("__debug__":Str))=false:=by decide) (n:ON (e::es) X.env=(NZ,Qs e X.env)::ON es X.env:=by rfl) (u:(Rl pos<|ON es X.env).any (·.1)=false:=by rfl):
  PE X (.Call (.Name x p) (e::es) [] pos) (GB C sp dvs E t):=by
 intro O s o H Q I h;exact Qa<|l9 I g m (TN I.ok.mod.kin M.kp (bu (l pos O s o H _ I h) (by rintro U v ⟨w,y,i,r,q⟩;exact ⟨i.kIn,Av M F a c d j i r q⟩)) n u) b
end
structure ee (N P:ab Str)(sc:Sm):Prop where
 kind:sc.kind=.function
 co:sc.isCoroutine=NZ
 gen:sc.isGenerator=NZ
 nd:N.Nodup
 pre:N.take P.length=P
 par:∀x∈P,sc.names.lookup x=gV .local\/sc.names.lookup x=gV .cell
 nofree:∀y∈sc.names,y.2≠.free
theorem pj{kindOf:Str->NW Vv}{x:Str}:∀{b:ab (Str×M')} {m:Str->NW M'},(∀v,(x,v)∉b)->i0 kindOf b m x=m x
 |[],_,_=>rfl
 |(n,v)::r,m,h=>by
  unfold i0;rw[pj λw H=>h w<|Ov _ H]
  split
  ·grind
  rfl
theorem pq{kindOf:Str->NW Vv}{x:Str}:∀{b:ab (Str×M')} {m:Str->NW M'},(∀v,(x,v)∉b)->ic kindOf b m x=m x
 |[],_,_=>rfl
 |(n,v)::r,m,h=>by
  unfold ic;rw[pq λw H=>h w<|Ov _ H]
  split
  ·rfl
  grind
theorem px{kindOf:Str->NW Vv}{x:Str}{v:M'}:∀{P:ab Str} {s:ab M'} {i:Nat} {m:Str->NW M'},P.Nodup->P[i]?=gV x->s[i]?=gV v->kindOf x=gV .local->
  i0 kindOf (P.zip s) m x=gV v
 |[],_,_,_,_,h,_,_=>by simp at h
 |_::_,[],_,_,_,_,h,_=>by simp at h
 |p::P,w::s,0,m,n,H,a,k=>by
  simp at H a;subst H;subst a;show i0 _ ((p,w)::P.zip s) m p=_
  unfold i0;rw[pj λv b=>(PU.mp n).1 (Tx b).1,Oi k];simp
 |p::P,w::s,i+1,m,n,H,a,k=>by
  show i0 _ ((p,w)::P.zip s) m x=_
  exact px (PU.mp n).2 (by assumption) (by assumption) k
theorem py{kindOf:Str->NW Vv}{x:Str}{v:M'}:∀{P:ab Str} {s:ab M'} {i:Nat} {m:Str->NW M'},P.Nodup->P[i]?=gV x->s[i]?=gV v->kindOf x≠gV .local->
  ic kindOf (P.zip s) m x=gV v
 |[],_,_,_,_,h,_,_=>by simp at h
 |_::_,[],_,_,_,_,h,_=>by simp at h
 |p::P,w::s,0,m,n,H,a,k=>by
  simp at H a;subst H;subst a;show ic _ ((p,w)::P.zip s) m p=_
  unfold ic;rw[pq λv b=>(PU.mp n).1 (Tx b).1,Oh k];simp
 |p::P,w::s,i+1,m,n,H,a,k=>by
  show ic _ ((p,w)::P.zip s) m x=_
  exact py (PU.mp n).2 (by assumption) (by assumption) k
noncomputable def start(N:ab Str)(v:ab V):St:=v.map gV++QH (N.length-v.length) N4
noncomputable def qw(C:At)(P:Of)(w:OE)(K:B')(mg:Str->NW M')(base:O5)(N:ab Str)(q:Str)(a:Sm)(f:C')(c:M')(A:Pr)(outer:ab Env)(s:N8)(H:Hp)(E:XK):Cx where
 prog:=P
 w:=w
 K:=K
 mg:=mg
 base:=base
 A:=A.deeper (P5 q a s.heap.objs.size f c)
 N:=N
 s₀:=s
 H₀:=H
 env:=P5 q a s.heap.objs.size f c
 outer:=outer
 stack:=P5 q a s.heap.objs.size f c::outer
 ex:=[]
 calm:=NU
 fn:=λ_=>NU
 pn:=[]
 xe:=λe d=>wpAny (OI P w) (A.deeper<|P5 q a s.heap.objs.size f c) (leaving (P5 q a s.heap.objs.size f c) e) (λ_ b=>C outer H s E e b) (λg b=>C outer H s E g b) d
theorem sB{s:Sm}{n:Nat}{x:Str}(h:s.names.lookup x=gV .cell):∃c,(Pz n s.names []).lookup x=gV c:=by
 have q:=WB _ n []<|.inl h;exact Tr.mp q
theorem yr{X:At}{P:Of}{w:OE}{K:B'}{M:Str->NW M'}{B:O5}{N l:ab Str}{Q:Str}{d:Sm}{f:C'}{F:M'}{A:Pr}{o:ab Env}{s J:N8}{H:Hp}{E:XK}{U:ab M'}{m:ab V}
  (S:ee N l d) (T:A.handled=N4) (j:Env0 P w K M B A o s H) (Z:m.length=l.length) (r:Vals m U)
  (x:InCallC s s.heap.objs.size (i0 (P5 Q d s.heap.objs.size f F).kindOf (l.zip U) λR=>N4) (Pz (s.heap.objs.size+1) d.names []) (ic (P5 Q d s.heap.objs.size f F).kindOf (l.zip U) λR=>N4) J):
  Inv (qw X P w K M B N Q d f F A o s H E) [] (start N m) H J:=by
 have Xu:l.length<=N.length:=by have:=OY P3 S.pre;rw[OC]at this;lia
 obtain⟨G,tk,rfl,L⟩:=x.done;have n:∀b,b∉(qw X P w K M B N Q d f F A o s H E).ex:=λb z=>absurd (show b∈([])from z) (by simp);refine⟨⟨j.mod,S.kind,rfl,rfl,N1 _,λy z c G g=>?_,λy t=>?_,λy c R h=>?_,λR=>T,Xp j.frames,.inr ⟨rfl,rfl⟩,λb z=>absurd z<|n b,j.bs,j.bsz,λb R R=>n b,λb z=>absurd z<|n b,j.funs,j.frf⟩,
  rfl,j.bare,Un.kept L,⟨_,x.toInCall.ns,λi y v G g h3=>?_⟩,λy c h=>⟨_,x.cell y c h⟩,j.hok.fresh<|N1 _,λy c h=>?_,λp C=>absurd (show p∈([])from C) (by simp),j.hok.kept L,?_⟩
 ·exact YM x.apart (Pq G)<|Pq g
 ·have t:=t;obtain t|t:=t
  ·exact sB t
  exact absurd rfl<|S.nofree _<|Pq t
 ·exact OQ<|x.above y c<|Pq h
 ·have I:i<m.length:=by
   unfold start at g;by_cases I:i<m.length
   ·exact I
   rw[Ow<|by simpa using I]at g;rw[List.getElem?_replicate]at g
   split at g<;>cases g
  have W:m[i]?=gV v:=by
   unfold start at g;rw[OA (by simpa using I),Og]at g;cases e:m[i]? with
   |none=>rw[e]at g;cases g
   |some a=>rw[e]at g;cases g;rfl
  obtain⟨u,O,Y⟩:=r.get W;have C:l[i]?=gV y:=by
   rwa[<-S.pre,Pn<|by exact Pb I (Ui Z)]
  have D:l.Nodup:=by rw[<-S.pre];exact S.nd.sublist<|SE _ _
  exists u,Y;obtain k|k:=S.par y (N7 C)
  ·exact .inl ⟨k,px D C O k⟩
  obtain⟨c,e⟩:=sB k;refine .inr ⟨.inl k,c,e,?_⟩;have q:=x.cell y c e;rwa[py D C O (by show d.names.lookup y≠_;rw[k];decide)]at q
 ·exact j.hok.fresh<|OQ<|x.above y c<|Pq h
 unfold start;show _=N.length
 rw[NX,J',List.length_replicate];lia
theorem GC{X:At}{P:Of}{w:OE}{K:B'}{M:Str->NW M'}{B:O5}{k:Nat}{f:C'}{h l:Str}{p:SY}{c:ab Pk}{a:Sm}{dV kV ZA pm j ct oc:M'}{an od:NW C'}
  {F:Qp (NW M')} {N D:ab Str} {sp:Sp} (lk:K.lookup f=gV ⟨oc,od,.func<|Rh h l p c a dV kV ZA pm an j ct,F⟩) (L:Ub K j l=NU) (S:ee N D a)
  (G:∀d H Q E,sp d H Q E->d.length=D.length)
  (T:∀A O s H d Q E,Room k (A.deeper<|P5 l a s.heap.objs.size f j)->sp d H Q E->
   ∃t,PSs (qw X P w K M B N l a f j A O s H E) c t/\t {nx:=λ_ i=>Q .non i,rt:=Q} (start N d) H):
  ao P w K M B X (k+1) f (Rh h l p c a dV kV ZA pm an j ct) D sp:=by
 refine⟨G,λA O s H ac us d Q E U z hb r C=>?_⟩;have hl:=G _ _ _ _ C;have KX:=z.mod.kin.keeps λb o e=>(z.bs b o e).1;have W:=z.mod.nolimit.keeps λb o e=>(z.bs b o e).1;have Y:∀y∈D.zip us,a.names.lookup y.1=gV _\/(a.names.lookup y.1=gV _/\((Pz (s.heap.objs.size+1) _ []).lookup y.1).isSome=NU):=λ⟨n,v⟩ hy=>by
  obtain q|q:=S.par n (Tx hy).1
  ·exact .inl q
  exact .inr ⟨q,WB _ _ _<|.inl q⟩
 refine codeAny_call_function U.depth (KX _ _ lk) rfl S.co S.gen rfl (PySem.W.codeRec_of KX L)<|hb _ _ _ _<|wpAny_newFunctionEnv_cells S.kind Y λam he s1 x=>?_;subst he;refine⟨W.keeps x.toInCall.keep,codeAny_func ?_⟩;obtain⟨t,ht,hq⟩:=T A O s H d Q E (U.deeper _) C;have I:Inv (qw X P w K M B N l a f j A O s H E) [] _ H s1:=yr S U.hd z hl r x;refine Qq (ht [] s1 _ H _ I hq) (λfl Z m=>?_) λe Z m=>m;have XX:∀{g:St} {i:Hp} {v:V} {u:M'},Inv (qw X P w K M B N l a f j A O s H E) [] g i Z->RelV v u->Q v i->CE O P w H s Q u Z:=
  λ{g i v u} J rv q=>⟨v,i,J.os,J.bare,J.base,J.hok,rv,q⟩
 cases fl with
 |ret u=>
  obtain⟨v,g,i,J,rv,q⟩:=m;exact XX J rv q
 |next=>
  obtain⟨g,i,J,q⟩:=m;exact XX (v:=V.non) J rfl q
 |brk=>
  obtain⟨_,_,_,q⟩:=m;exact P6 q
 |cont=>
  obtain⟨_,_,_,q⟩:=m;exact P6 q
section
variable {X:Cx}{x:Str}{p pos:Pos}{e:Pl}{es:ab Pl}{t:TA}{id:R1}{r:ab V->Hp->VK->Prop}
def NB(r:ab V->Hp->VK->Prop)(t:TA):TE:=λa H Q=>t a H λv h=>r v h Q
theorem aR(c:dL X (.builtin id) r)(g:Gl X x)(m:X.mg x=N4)(v:Ua x=gV (.builtin id))(d:PA X (e::es) t)(n:x≠"__name__":=by decide)(b:(x == ("__debug__":Str))=false:=by decide)
  (f:ON (e::es) X.env=(NZ,Qs e X.env)::ON es X.env:=by rfl) (u:(Rl pos<|ON es X.env).any (·.1)=false:=by rfl):PE X (.Call (.Name x p) (e::es) [] pos) (NB r t):=by
 intro O s a H Q I h;exact Qa<|c7 I g m v (Zs (bu (d pos O s a H _ I h) (by rintro U i ⟨j,k,l,o,q⟩;exact c O i a k j U Q l o q)) f u) n b
theorem bv{T:R1}(c:dL X (.type T) r)(g:Gl X x)(m:X.mg x=N4)(v:Ua x=gV (.type T))(d:PA X (e::es) t)(n:x≠"__name__":=by decide)(b:(x == ("__debug__":Str))=false:=by decide)
  (f:ON (e::es) X.env=(NZ,Qs e X.env)::ON es X.env:=by rfl) (u:(Rl pos<|ON es X.env).any (·.1)=false:=by rfl):PE X (.Call (.Name x p) (e::es) [] pos) (NB r t):=by
 intro O s a H Q I h;exact Qa<|c7 I g m v (PM (bu (d pos O s a H _ I h) (by rintro U i ⟨j,k,l,o,q⟩;exact c O i a k j U Q l o q)) f u) n b
end
end L2
namespace HT
open PySem PyProof.Rows
theorem cat_tup{Q:M'->N8->Prop}(m:n' s.heap t v.toArray)(q:n' s.heap b W.toArray)(g:v≠[])
  (r:W=[]->Q (.ref t) s) (u:W≠[]->Q (.ref s.heap.objs.size) {s with heap:=s.heap.push {cls:=.type "tuple",data:=.seq (v++W).toArray}})
  (z:v.length+W.length<=sizeLine):wpAny (OI p w) A (RC .Add (.ref t)<|.ref b) Q E s:=by
 obtain⟨⟨C,D,i,l⟩,o,j,n,k⟩:=id m;obtain⟨⟨x,d,data2,a⟩,h,H,N,c⟩:=id q;simp only at j k H c;subst j k H c;have e:v.toArray++W.toArray=(v++W).toArray:=by simp
 by_cases f:W=[]
 ·exact YN ⟨_,o,rfl⟩ ⟨_,h,rfl⟩ Wk X1 Uc TY (Tn _ _)
   (tuple_addW1 t b _ _ n N D d l a (by simp_all)<|by simp[f]) ⟨o,h,r f⟩
 refine YN ⟨_,o,rfl⟩ ⟨_,h,rfl⟩ Wk X1 Uc TY (Tn _ _)
  (tuple_addW2 t b _ _ n N D d l a (by simp_all) (by simp_all)<|by assumption) ⟨o,h,?_⟩
 rw[e];exact u f
noncomputable def sIx(n d:Nat):NW Int->Nat
 |none=>d
 |some v=>if v<0 then(v+(n:Int)).toNat else min v.toNat n
theorem lA(n d k:Nat):sIx n d (gV (k:Int))=min k n:=by
 rfl
theorem IG(n d:Nat)(H:d<=n)(o:NW Int):sIx n d o<=n:=by
 cases o with
 |none=>exact H
 |some v=>
  show(if v<0 then(v+(n)).toNat else min _ n)<=n
  by_cases h:v<0
  ·rw[Oi h];lia
  rw[Oh h];exact UN _ _
theorem ww(v:Int)(n d:Nat):(if v<0 then max (v+(n:Int)) 0 else min v (n:Int))=((sIx n d (gV v):Nat):Int):=by
 show(if v<0 then max _ 0 else min v _)=(((if v<0 then(v+(n)).toNat else min _ n):Nat))
 grind
theorem uO(lo h:NW Int)(n:Nat):S_ lo h 1 (n:Int)=(((sIx n 0 lo:Nat):Int),((sIx n n h:Nat):Int)):=by
 unfold S_;simp only ;refine Uh ?_ ?_
 ·cases lo with
  |none=>rfl
  |some v=>exact ww v n 0
 cases h with
 |none=>rfl
 |some v=>exact ww v n n
theorem uP(i j:Nat):RK (i:Int) (j:Int) 1=j-i:=by
 unfold RK;have h:(1:Int)>0:=by simp
 simp only[h,Ve,Int.ediv_one]
 split<;>lia
theorem mO(p:Yi v o)(h:Q o s):wpAny (OI P w) A (ZX v) Q E s:=by
 cases p with
 |none=>exact y3 h
 |int i t=>exact slicePart_int h
theorem sliceApplied_gen{l:C'}{v u:M'}{lo H:NW Int}{n:Nat}{Q:Int×Int×Nat->N8->Prop}(b:s.heap.IsSliceOf l v u .none)(P:Yi v lo)(c:Yi u H)
  (h:Q (((sIx n 0 lo:Nat):Int),1,sIx n n H-sIx n 0 lo) s):wpAny (OI p w) A (SN (.ref l)<|pure (n:Int)) Q E s:=by
 obtain⟨os,a,d,Z⟩:=id b;refine N0<|N0<|ZK a Z (x:=v) rfl<|N0<|ZK a Z (x:=u) rfl<|N0<|ZK a Z rfl<|Oj<|N0<|y3<|N0<|mO P<|N0<|mO c<|N0<|Oj ?_;show wpAny _ _ (match S_ lo H 1 (n)with|(lo,H)=>pure (lo,(1:Int),RK lo H 1)) _ _ s
 rw[uO lo H n];show wpAny _ _ (pure _) _ _ s
 rw[uP];exact Oj h
theorem Aw(X:Qp M')(i k:Nat):((O1 k).filterMap λ(m:Nat)=>X[((i:Int)+(m:Int)*1).toNat]?).toArray=((X.toList.drop i).take k).toArray:=by
 have e:(λ(m:Nat)=>X[((i:Int)+(m)*1).toNat]?)=λm=>X[i+m]?:=by
  grind
 rw[e];have:=pick_run X i k;have E:((λx=>X[x]?)∘λx=>i+x)=λm=>X[i+m]?:=rfl;simp_all
theorem getItem_tuple_cut{t l:C'}{i:Qp M'}{v u:M'}{lo H:NW Int}{Q:M'->N8->Prop}(b:PyProof.Rows.IsTup s.heap t i)(e:s.heap.IsSliceOf l v u .none)(P:Yi v lo)(f:Yi u H)
  (g:¬(sIx i.size 0 lo=0/\sIx i.size i.size H=i.size))
  (h:Q (.ref s.heap.objs.size) {s with heap:=s.heap.push {cls:=.type "tuple",data:=.seq ((i.toList.drop<|sIx i.size 0 lo).take<|sIx i.size i.size H-sIx i.size 0 lo).toArray}})
  (z:i.size<=sizeLine):wpAny (OI p w) A (Vh (.ref t)<|.ref l) Q E s:=by
 have a:sizeOk (.seq ((i.toList.drop<|sIx i.size 0 lo).take<|sIx i.size i.size H-sIx i.size 0 lo).toArray):=by
  show((i.toList.drop<|sIx _ 0 lo).take<|sIx _ _ H-sIx _ 0 lo).toArray.size<=sizeLine
  rw[Ol,OC,P7,OL];exact O6 (UN _ _) (O6 (hJ _ _) z)
 obtain⟨os,c,j,Z⟩:=id e;have d:s.TypeIs (.ref l) _:=⟨os,c,j⟩;unfold Vh
 try with_reducible refine P' ?_
 refine N0<|YI b.typeIs (by rfl) ?_;refine N0 (Wi b.typeIs Q5
  (Wh Q5 b.typeIs XR ?_<|Yn _ _))
 show wpAny _ _ (Vx _ >>=_) _ _ s
 refine N0<|va b<|N0<|Vg d<|N0<|sliceApplied_gen e P f ?_;have W:¬((((sIx i.size 0 lo):Int) == 0&&(1:Int) == 1&&(sIx i.size i.size H-sIx i.size 0 lo) == i.size)=NU):=by
  simp_all
 show wpAny _ _ (if(((sIx _ 0 lo):Int) == 0&&(1) == 1&&(sIx _ _ H-sIx _ 0 lo) == i.size)=NU then _ else _) _ _ s
 rw[Oh W,Aw]
 first
  |exact N0<|QD (Oj ⟨_,rfl,Oj h⟩) a
  |exact N0<|QD _ a
  |exact N0<|N0<|QD _ a
  |exact N0<|N0<|QD _ a
end HT
namespace L2
open PySem PySem.Spec PyProof.Rows
abbrev TO:=St->Hp->(NW Int->Hp->Prop)->Prop
def PO(X:Cx)(e:NW Pl)(t:TO):Prop:=
 ∀(N:ab (C'×Obj)) (s:N8) (a:St) (H:Hp) (Q:NW Int->Hp->Prop),Inv X N a H s->t a H Q->
  wpAny (OI X.prog X.w) X.A (evalPart e X.env) (λu b=>∃o h,Inv X N a h b/\Yi u o/\Q o h) X.xe s
def EC:TO:=λ_ H Q=>Q N4 H
def KG(t:TE):TO:=λa H Q=>t a H λx h=>∃i,x=.int i/\Q (gV i) h
theorem gH:∀{u:ab M'},Vals (N.map V.int) u->R7 u N:=by
 induction N with
 |nil=>intro u r;cases r;exact .nil
 |cons n N i=>
  intro u r;cases r with
  |cons a b=>
   obtain⟨t,e⟩:=a;subst e;exact .cons n t<|i b
theorem dA:PO X N4 EC:=by
 intro O s a H Q I h;exact Oj ⟨N4,H,I,.none,h⟩
theorem ED(h:PE X e T):PO X (gV e) (KG T):=by
 intro O s a H Q I w;refine bu (h O s a H _ I w) λu f z=>?_;obtain⟨x,b,c,r,d⟩:=z;obtain⟨i,rfl,q⟩:=d;obtain⟨t,rfl⟩:=r;exact⟨gV i,b,c,.int i t,q⟩
def Ms(X:Cx)(r:V->NW Int->NW Int->Hp->VK->Prop):Prop:=
 ∀(N:ab (C'×Obj)) (s:N8) (a:St) (H:Hp) (x:V) (v l u:M') (lo h:NW Int) (b:C') (Q:VK),Inv X N a H s->RelV x v->s.heap.IsSliceOf b l u .none->Yi l lo->Yi u h->r x lo h H Q->
  ∃T id,pz (.type T) "__getitem__"=pure (gV<|.builtin id)/\s.TypeIs v T/\wpAny (OI X.prog X.w) X.A (Vh v<|.ref b) (EP X N a Q) X.xe s
def NP(r:V->NW Int->NW Int->Hp->VK->Prop)(t:TE)(T h:TO):TE:=λa H Q=>t a H λx b=>T a b λl c=>h a c λu d=>r x l u d Q
theorem cR{X:Cx}{e:Pl}{t:TE}{lo:NW Pl}{i:NW Pl}{g:TO}{j:TO}{p:Pos}{P:Pos}(m:Ms X r)(n:PE X e t)(o:PO X lo g)(w:PO X i j):PE X (.Subscript e (.Slice lo i N4 P) p) (NP r t g j):=by
 intro O s c H Q I h;refine Yo<|bu (n O s c H _ I h) λv y V=>?_;obtain⟨x,z,A,B,C⟩:=V;refine wpAny_Slice<|bu (o O y c z _ A C) λd D S=>?_;obtain⟨l,E,F,G,J⟩:=S;refine bu (w O D c E _ F J) λf a R=>?_;obtain⟨u,k,L,M,N⟩:=R;refine Oj ?_;have U:Inv X O c k {a with heap:=a.heap.push {cls:=.type "slice",data:=.fields #[d,f,.none]}}:=L.kept λb Z q=>N_ _ q;obtain⟨T,id,hT,W,Y⟩:=m O _ c k x v d f l u _ Q U B (Yj ..) G M N;exact tail_any W hT Y (by with_unfolding_all rfl)
noncomputable def eJ(x:ab V)(lo h:NW Int):ab V:=(x.drop<|HT.sIx x.length 0 lo).take<|HT.sIx x.length x.length h-HT.sIx x.length 0 lo
theorem lH(x:ab V)(lo h:NW Int):(eJ x lo h).length<=x.length:=by
 unfold eJ;rw[OC,P7];exact O6 (UN _ _) (hJ _ _)
def MU(K:B'):V->NW Int->NW Int->Hp->VK->Prop:=λx lo h H Q=>∃a X,x=.ref a/\SqT K H a X/\
 ¬(HT.sIx X.length 0 lo=0/\HT.sIx X.length X.length h=X.length)/\∀p,H p=N4->Q (.ref p) (upd H p<|.tup<|eJ X lo h)
theorem IH:Ms X (MU X.K):=by
 intro O s j H x v k u lo i m Q I d e p P h;obtain⟨a,c,rfl,f,w,q⟩:=h;cases d;obtain⟨g,r,t,z⟩:=I.tuple f;have l:g.toArray.size=c.length:=r.length.symm
 exists "tuple",_,PyProof.Rows.slot_tuple_getitem.lookup,t.typeIs;refine HT.getItem_tuple_cut t e p P (by rwa[l]) ?_ (by rwa[l]);rw[l];refine⟨.ref _,_,I.laid (λb o q=>N_ _ q) (N1 _) ?_,rfl,q _<|I.hok.fresh<|N1 _⟩;exact⟨O6 (lH c lo i) z,_,(r.drop<|HT.sIx _ 0 lo).take<|HT.sIx _ _ i-HT.sIx _ 0 lo,ot _ _⟩
def KH(K:B'):R2:=λx y H Q=>∃a b X Y,x=.ref a/\y=.ref b/\SqT K H a X/\SqT K H b Y/\X≠[]/\X.length+Y.length<=sizeLine/\
 (Y=[]->Q (.ref a) H)/\(Y≠[]->∀p,H p=N4->Q (.ref p) (upd H p<|.tup<|X++Y))
theorem Vals.nil_iff(r:Vals x u):u=[]↔x=[]:=by
 cases r with
 |nil=>simp
 |cons _ _=>simp
theorem EE:OpR X (RC .Add) (KH X.K):=by
 intro N s n H x y v u Q I e f h;obtain⟨a,b,g,Y,rfl,rfl,i,j,k,d,l,m⟩:=h;cases e;cases f;obtain⟨o,c,p,t⟩:=I.tuple i;obtain⟨Z,r,P,t⟩:=I.tuple j;refine HT.cat_tup p P (λz=>k<|c.nil_iff.mp z) (λz=>⟨.ref a,H,I,rfl,l<|r.nil_iff.mp z⟩) (λz=>⟨.ref _,_,I.laid (λb O q=>N_ _ q) (N1 _) ?_,rfl,m (λw=>z<|r.nil_iff.mpr w) _<|I.hok.fresh<|N1 _⟩) (by rwa[<-c.length,<-r.length]);exact⟨by simp_all,_,c.append r,ot _ _⟩
noncomputable def Ec(n:Nat)(i:Int):NW Nat:=if 0<=i then(if i<n then gV i.toNat else N4)else if -(n:Int)<=i then gV (i+n).toNat else N4
noncomputable def iU{a:Type}(x:ab a)(i:Int):NW a:=(Ec x.length i).bind λj=>x[j]?
theorem EF(h:Ec n i=gV j):PySem.seqIndex? i n=gV j/\j<n/\ -(n:Int)<=i/\i<n:=by
 unfold Ec at h;by_cases a:0<=i
 ·rw[Oi a]at h;by_cases H:i<n
  ·rw[Oi H]at h;have e:=Ot h;exact⟨by rw[seqIndex_of a H,e],by lia,by lia,H⟩
  simp_all
 rw[Oh a]at h;by_cases H:-(n)<=i
 ·rw[Oi H]at h;have e:=Ot h;exact⟨by rw[seqIndex_neg (Ww a) H,e],by lia,H,by lia⟩
 simp_all
theorem qx{a:Type}{x:ab a}{i:Int}{v:a}(h:iU x i=gV v):∃j,PySem.seqIndex? i x.length=gV j/\x[j]?=gV v/\j<x.length/\ -(x.length:Int)<=i/\i<x.length:=by
 unfold iU at h;cases e:Ec x.length i with
 |none=>simp_all
 |some j=>
  rw[e]at h;obtain⟨H,b,c,d⟩:=EF e;exact⟨j,H,h,b,c,d⟩
theorem aH{a:Type}{x:ab a}{j:Nat}{v:a}(h:x[j]?=gV v):iU x (j:Int)=gV v:=by
 have H:=(NT.mp h).1;have e:Ec x.length (j)=gV j:=by
  unfold Ec;simp_all
 unfold iU;rwa[e]
theorem Ax{a:Type}(x:ab a)(v:a):iU (x++[v]) (-1)=gV v:=by
 have h:(x++[v]).length=x.length+1:=by simp
 have e:Ec (x++[v]).length (-1)=gV x.length:=by
  unfold Ec;rw[h,Oh (by decide),Oi<|by lia]
  grind
 unfold iU;simp_all
def qy(b:Pl):Prop:=∀o i,Xh b NZ o i=operate [o,i] (Vh o i)
def IxR(X:Cx)(r:R2):Prop:=
 ∀(e W:Pl) (N:ab (C'×Obj)) (s:N8) (a:St) (H:Hp) (x y:V) (v u:M') (Q:VK),Inv X N a H s->RelV x v->RelV y u->r x y H Q->
  Xh W NZ v u=operate [v,u] (Vh v u)->wpAny (OI X.prog X.w) X.A (V' e W v u) (EP X N a Q) X.xe s
def MV(X:Cx)(id:R1)(r:V->ab V->Hp->VK->Prop):Prop:=
 ∀(N:ab (C'×Obj)) (s:N8) (a:St) (H:Hp) (x:V) (b:ab V) (v:M') (u:ab M') (Q:VK),Inv X N a H s->RelV x v->Vals b u->r x b H Q->
  wpAny (OI X.prog X.w) X.A (call (.builtin id)<|v::u) (EP X N a Q) X.xe s
section
variable {X:Cx}
theorem IxR.or(h:IxR X r)(h':IxR X f):IxR X (λx y H Q=>r x y H Q\/f x y H Q):=by
 intro e W O s a H x y v u Q I b c q d;obtain q|q:=q
 ·exact h e W O s a H x y v u Q I b c q d
 exact h' e W O s a H x y v u Q I b c q d
theorem GD(c:IxR X r)(d:PE X a t)(e:PE X b T)(f:qy b):PE X (.Subscript a b p) (Eo r t T):=by
 intro O s g H Q I h;exact Yo<|Iq d e I h λv u i x y j k l m q=>c a b O i g j x y v u Q k l m q<|f _ _
inductive KI (K:B')(x y:V)(H:Hp)(Q:VK):Prop
 |mk (p:C')(xs:ab V)(i:Int)(v:V)(hx:x=.ref p)(a:y=.int i)(h:SqL K H p xs)(e:iU xs i=gV v)(q:Q v H)
inductive KJ (K:B')(x y:V)(H:Hp)(Q:VK):Prop
 |mk (p:C')(xs:ab V)(i:Int)(v:V)(hx:x=.ref p)(a:y=.int i)(h:SqT K H p xs)(e:iU xs i=gV v)(q:Q v H)
inductive KK (x y:V)(H:Hp)(Q:VK):Prop
 |mk (z:Str)(i:Int)(c:Nat)(hx:x=.str z)(a:y=.int i)(h:z.length<=sizeLine)(e:iU z.cps.toList i=gV c)(q:Q (.str ⟨#[c]⟩) H)
def KL(K:B'):R2:=λx y H Q=>KI K x y H Q
def KM(K:B'):R2:=λx y H Q=>KJ K x y H Q
def KN:R2:=λx y H Q=>KK x y H Q
theorem hX:IxR X (KL X.K):=by
 intro e W O s d H x y v u Q I l m h f;obtain⟨p,J,i,z,rfl,rfl,n,o,q⟩:=h;cases l;obtain⟨t,rfl⟩:=m;obtain⟨A,r,P,L⟩:=I.list n;obtain⟨j,a,B,M,C,D⟩:=qx o;obtain⟨w,E,b⟩:=r.get B;have F:=r.length;have N:=kj;have g:EP X O d Q w s:=⟨z,H,I,b,q⟩;by_cases k:0<=i
 ·have c:i.toNat=j:=by
   rw[seqIndex_of k D]at a;exact Ot a
  exact item_listR P.isList k (by lia) (by rw[c];simpa using E) g f
 have c:(i+(A.toArray.size)).toNat=j:=by
  rw[seqIndex_neg (Ww k) C]at a;rw[Ol,<-F];exact Ot a
 exact WJ P.isList.typeIs slot_list_getitem.lookup
  (wpAny_getItem_list_neg P.isList (Ww k) (by simp_all) (by lia) (by rw[c];simpa using E) ⟨rfl,g⟩) f
theorem h7:IxR X (KM X.K):=by
 intro e W O s b H x y v u Q I c d h f;obtain⟨p,B,i,z,rfl,rfl,g,k,q⟩:=h;cases c;obtain⟨t,rfl⟩:=d;obtain⟨C,r,P,D⟩:=I.tuple g;obtain⟨j,l,m,F,G,J⟩:=qx k;obtain⟨w,E,a⟩:=r.get m;have n:=r.length;have L:=kj;have o:EP X O b Q w s:=⟨z,H,I,a,q⟩;exact WJ P.typeIs slot_tuple_getitem.lookup
  (getItem_tuple (j:=j) P (by lia) (by lia) (by simp_all) (by simpa using E) ⟨rfl,o⟩) f
theorem II:IxR X KN:=by
 intro e W O s o H x y v u Q I r b h d;obtain⟨z,i,c,rfl,rfl,p,f,q⟩:=h;obtain⟨t,rfl⟩:=r;obtain⟨T,rfl⟩:=b;obtain⟨j,a,g,w,k,l⟩:=qx f;have m:z.cps.toList.length=z.length:=by rfl
 rw[m]at a k l;have A:=kj;exact tail_any (typeIs_str s z t) slot_str_getitem.lookup (getItem_str (by
  lia) (by rw[a];simpa using g) ⟨.str _,H,I.tok _,⟨_,rfl⟩,q⟩) d
def GE(K:B'):R2:=λx y H Q=>KL K x y H Q\/KM K x y H Q\/KN x y H Q
theorem Ay:IxR X (GE X.K):=hX.or<|h7.or II
theorem lB{i:Int}{n:Nat}(h:¬i<0):max 0 (min i n)=((min i.toNat n:Nat):Int):=by
 rw[Lean.Omega.Int.ofNat_min,Int.ofNat_toNat,Int.max_eq_left (Int.not_lt.1 h),Int.max_eq_right (Int.le_min.2 (by simp_all))]
theorem lC{i:Int}{n:Nat}(h:i<0):max 0 (min (i+n) n)=((i+n).toNat:Int):=by
 rw[Int.min_eq_left (by lia),Int.ofNat_toNat,Int.max_comm]
theorem qz(lo H:NW Int)(n:Nat):(QP lo H N4 n).1=((HT.sIx n 0 lo:Nat):Int)/\(QP lo H N4 n).2.1=((HT.sIx n n H:Nat):Int)/\(QP lo H N4 n).2.2=1:=by
 refine⟨?_,?_,rfl⟩
 ·cases lo with
  |none=>rfl
  |some i=>
   simp only[QP,HT.sIx,Zu,show(1:Int)>0 by decide,Ve];by_cases h:i<0
   ·simp only[h,Ve];exact lC h
   simp only[h,Th];exact lB h
 cases H with
 |none=>rfl
 |some i=>
  simp only[QP,HT.sIx,Zu,show(1:Int)>0 by decide,Ve];by_cases h:i<0
  ·simp only[h,Ve];exact lC h
  simp only[h,Th];exact lB h
theorem o0(P:ab M')(lo h:NW Int):slicePick P.toArray lo h N4=((P.drop<|HT.sIx P.length 0 lo).take<|HT.sIx P.length P.length h-HT.sIx P.length 0 lo).toArray:=by
 obtain⟨H,a,b⟩:=qz lo h _;unfold slicePick;rw[H,a,b];simp only[sliceRange_one,pick_run]<;>rfl
def MW(K:B'):V->NW Int->NW Int->Hp->VK->Prop:=λx lo h H Q=>∃a s,x=.ref a/\SqL K H a s/\∀p,H p=N4->Q (.ref p) (upd H p<|.lst<|eJ s lo h)
theorem eP:Ms X (MW X.K):=by
 intro O s g H x v j u lo i k Q I d e p P h;obtain⟨a,c,rfl,f,q⟩:=h;cases d;obtain⟨m,r,t,z⟩:=I.list f;have l:=r.length;exists "list",_,slot_list_getitem.lookup,t.isList.typeIs;refine wpAny_getItem_list_slice t.isList e p P .none (by simp) ?_ (by simp_all);rw[o0,<-l];refine⟨.ref _,_,I.laid (λb o q=>N_ _ q) (N1 _) ?_,rfl,q _<|I.hok.fresh<|N1 _⟩;exact⟨O6 (lH c lo i) z,_,0,(r.drop<|HT.sIx _ 0 lo).take<|HT.sIx _ _ i-HT.sIx _ 0 lo,OJ _ rfl⟩
noncomputable def iX:V->N6
 |.non=>NU
 |.bl _=>NU
 |.int _=>NU
 |.str _=>NU
 |_=>NZ
noncomputable def GF:V->V->N6
 |.non,.non=>NU
 |.bl a,.bl b=>a == b
 |.bl a,.int b=>(if a then 1 else 0) == b
 |.int a,.bl b=>a == (if b then 1 else 0)
 |.int a,.int b=>a == b
 |.str a,.str b=>a == b
 |_,_=>NZ
theorem IJ(c:RelV y u)(r:RelV x v)(F:iX y=NU)(f:iX x=NU):ry A s u v (GF y x):=by
 cases y with
 |non=>
  cases c;cases x with
  |non=>cases r;exact O' _
  |bl b=>cases r;exact YF b
  |int b=>obtain⟨t,rfl⟩:=r;exact Xc b t
  |str b=>obtain⟨t,rfl⟩:=r;exact Xt b t
  |_=>exact absurd ‹_› Oa
 |bl a=>
  cases c;cases x with
  |non=>cases r;exact YE a
  |bl b=>cases r;exact YC a b
  |int b=>obtain⟨t,rfl⟩:=r;exact Za a b t
  |str b=>obtain⟨t,rfl⟩:=r;exact Zb a b t
  |_=>exact absurd ‹_› Oa
 |int a=>
  obtain⟨T,rfl⟩:=c;cases x with
  |non=>cases r;exact ZP a T
  |bl b=>cases r;exact Zc a T b
  |int b=>obtain⟨t,rfl⟩:=r;exact RP a T b t
  |str b=>obtain⟨t,rfl⟩:=r;exact Yh a T b t
  |_=>exact absurd ‹_› Oa
 |str a=>
  obtain⟨T,rfl⟩:=c;cases x with
  |non=>cases r;exact XY a T
  |bl b=>cases r;exact XW a T b
  |int b=>obtain⟨t,rfl⟩:=r;exact Yg a T b t
  |str b=>obtain⟨t,rfl⟩:=r;exact R' a T b t
  |_=>exact absurd ‹_› Oa
 |_=>exact absurd ‹_› Oa
noncomputable def uQ(x:V)(u:M'):N6:=match u with
 |.none=>GF .non x
 |.bool b=>GF (.bl b) x
 |.int i _=>GF (.int i) x
 |.str z _=>GF (.str z) x
 |_=>NZ
theorem Az(r:RelV y u)(f:iX y=NU):uQ x u=GF y x:=by
 cases y with
 |non=>cases r;rfl
 |bl b=>cases r;rfl
 |int i=>obtain⟨t,rfl⟩:=r;rfl
 |str z=>obtain⟨t,rfl⟩:=r;rfl
 |_=>exact absurd ‹_› Oa
theorem jA:∀{s:ab V} {u:ab M'},Vals s u->s.all iX=NU->u.any (uQ x)=s.any λy=>GF y x:=by
 intro s u h f;induction h with
 |nil=>rfl
 |cons r t i=>rw[Ri,Pf]at f;rw[Qd,Qd,Az r f.1,i f.2]
theorem hV(b:RelV x v)(F:iX x=NU):∀{a:ab V} {U:ab M'},Vals a U->a.all iX=NU->∀u∈U,ry A s u v<|uQ x u:=by
 intro a U h f;induction h with
 |nil=>intro u h;cases h
 |cons r t i=>
  intro c h;rw[Ri,Pf]at f;obtain rfl|h:=Oz.mp h
  ·rw[Az r f.1];exact IJ r b f.1 F
  exact i f.2 c h
noncomputable def jg(x:V)(s:ab V):N6:=s.any λy=>GF y x
inductive NC (K:B')(n:N6)(x y:V)(H:Hp)(Q:VK):Prop
 |mk (p:C')(xs:ab V)(a:y=.ref p)(h:SqL K H p xs\/SqT K H p xs)(f:iX x=NU)(fs:xs.all iX=NU)(q:Q (.bl (if n then !jg x xs else jg x xs)) H)
def Mt(K:B')(n:N6):R2:=λx y H Q=>NC K n x y H Q
theorem kn:OpR X (PL .In) (Mt X.K NZ):=by
 intro O s e H x y v u Q I c d h;obtain⟨p,g,rfl,a,F,f,q⟩:=h;cases d;obtain a|a:=a
 ·obtain⟨P,r,l,z⟩:=I.list a;refine SeqAt.in_listAt _ l.isList (λw b=>hV c F r f w<|by simp_all) ⟨.bl _,H,I,rfl,?_⟩;rwa[show P.toArray.any _=P.any (uQ x) by simp,jA r f]
 obtain⟨P,r,l,z⟩:=I.tuple a;refine SeqAt.in_tupleAt _ l (λw b=>hV c F r f w<|by simp_all) ⟨.bl _,H,I,rfl,?_⟩;rwa[show P.toArray.any _=P.any (uQ x) by simp,jA r f]
theorem gI:OpR X (PL .NotIn) (Mt X.K NU):=by
 intro O s e H x y v u Q I c d h;obtain⟨p,g,rfl,a,F,f,q⟩:=h;cases d;obtain a|a:=a
 ·obtain⟨P,r,l,z⟩:=I.list a;refine SeqAt.notIn_listAt _ l.isList (λw b=>hV c F r f w<|by simp_all) ⟨.bl _,H,I,rfl,?_⟩;rwa[show P.toArray.any _=P.any (uQ x) by simp,jA r f]
 obtain⟨P,r,l,z⟩:=I.tuple a;refine SeqAt.notIn_tupleAt _ l (λw b=>hV c F r f w<|by simp_all) ⟨.bl _,H,I,rfl,?_⟩;rwa[show P.toArray.any _=P.any (uQ x) by simp,jA r f]
theorem jB:dL X (.type "list") (λx H Q=>∃p y,x=[.ref p]/\(SqL X.K H p y\/SqT X.K H p y)/\∀l,H l=N4->Q (.ref l) (upd H l<|.lst y)):=by
 intro v s w H x U Q I r h;obtain⟨p,y,rfl,f,q⟩:=h;obtain⟨u,rfl,A⟩:=eu r;cases A;have t:∀P,Vals y P->y.length<=sizeLine->∀a c,(∀b O,s.heap.get? b=gV O->a.get? b=gV O)->
   a.get? s.heap.objs.size=gV _->EP X v w Q _ {s with heap:=a}:=λP d z a c k e=>
  ⟨.ref _,_,I.laid k (N1 _) (show ObjOk _ X.w _ a _ (.lst y)from⟨z,P,c,d,e⟩),rfl,q _<|I.hok.fresh<|N1 _⟩
 obtain f|f:=f
 ·obtain⟨P,d,g,z⟩:=I.list f;have B:=d.length;obtain⟨o,i,j,n,m⟩:=g.isList;exact I' p (.inl rfl) i j m (λa c k e=>t P d z a c k e) (by simp_all)
 obtain⟨P,d,g,z⟩:=I.tuple f;have B:=d.length;obtain⟨o,i,j,n,m⟩:=g;exact I' p (.inr rfl) i j m (λa c k e=>t P d z a c k e) (by simp_all)
theorem bO:dL X (.type "tuple") (λx H Q=>∃p y,x=[.ref p]/\((SqL X.K H p y/\∀l,H l=N4->Q (.ref l) (upd H l<|.tup y))\/(SqT X.K H p y/\Q (.ref p) H))):=by
 intro O s g H x U Q I r h;obtain⟨p,y,rfl,h⟩:=h;obtain⟨u,rfl,j⟩:=eu r;cases j;obtain⟨c,q⟩|⟨c,q⟩:=h
 ·obtain⟨P,d,f,z⟩:=I.list c;have n:=d.length;refine call_tuple_list f.isList (λa k=>?_) (by simp_all);have i:Inv X O g H {s with heap:=a}:=I.kept k;have m:Inv X O g (upd H _<|.tup y) {s with heap:=a.push _}:=
   i.laid (λb o e=>N_ _ e) (N1 _) (⟨z,P,d,ot _ _⟩)
  exact⟨.ref _,_,m,rfl,q _<|i.hok.fresh<|N1 _⟩
 obtain⟨P,d,f,z⟩:=I.tuple c;exact call_tuple_same f ⟨.ref p,H,I,rfl,q⟩
def MX(K:B')(T:R1)(x:V)(H:Hp):Prop:=match x with
 |.str _=>T="str"
 |.int _=>T="int"
 |.ref p=>(T="list"/\∃s,SqL K H p s)\/(T="tuple"/\∃o,K.lookup p=gV o/\o.cls=.type "tuple"/\o.dict=N4)\/
   (T="dict"/\((∃k,H p=gV (.dK k))\/∃k,H p=gV (.dT k)))\/(T="set"/\∃S n,H p=gV (.set S n))
 |_=>False
theorem AA(I:Inv X g j H s)(r:RelV x v)(y:MX X.K T x H):
  s.TypeIs v T/\∀a,v=.ref a->∃O,s.heap.get? a=gV O/\O.dict=none:=by
 cases x with
 |str z=>
  obtain⟨t,rfl⟩:=r;cases(y);exact⟨typeIs_str s z t,λw e=>nomatch e⟩
 |int i=>
  obtain⟨t,rfl⟩:=r;cases(y);exact⟨typeIs_int s i t,λw e=>nomatch e⟩
 |ref p=>
  cases r;obtain⟨rfl,l,q⟩|⟨rfl,o,h,f,d⟩|⟨rfl,h⟩|⟨rfl,S,n,h⟩:=y
  ·obtain⟨m,w,P,w⟩:=I.list q;refine⟨P.isList.typeIs,λa e=>?_⟩;cases e;obtain⟨o,n,e,c,d,w⟩:=P;exact⟨o,e,d⟩
  ·refine⟨⟨o,I.kIn p o h,f⟩,λa e=>?_⟩;cases e;exact⟨o,I.kIn _ o h,d⟩
  ·have z:∃o,s.heap.get? p=gV o/\o.ExactDict:=by
    obtain⟨k,h⟩|⟨k,h⟩:=h
    ·obtain⟨w,w,w,w,o,w,w,e,E,w⟩:=I.hok p _ h;exact⟨o,e,E⟩
    obtain⟨w,w,w,w,o,w,w,e,E,w⟩:=I.hok p _ h;exact⟨o,e,E⟩
   obtain⟨o,e,E⟩:=z;refine⟨⟨o,e,E.1⟩,λa b=>?_⟩;cases b;exact⟨o,e,E.2.1⟩
  ·obtain⟨o,w,w,w,e,E,w⟩:=I.hok p _ h;refine⟨⟨o,e,E.1⟩,λa b=>?_⟩;cases b;exact⟨o,e,E.2.1⟩
 |_=>exact P6 y
def MY(K:B')(T:R1)(r:V->ab V->Hp->VK->Prop)(t:TE):TE:=λa H Q=>t a H λx h=>MX K T x h/\r x [] h Q
def NQ(K:B')(T:R1)(r:V->ab V->Hp->VK->Prop)(o:TE)(t:TA):TE:=λa H Q=>o a H λx h=>MX K T x h/\t a h λs b=>r x s b Q
variable {o:Pl}{to:TE}{name:Str}{UH Wg:Pos}{T id:R1}{r:V->ab V->Hp->VK->Prop}
theorem IK(p:PlainAttrs T)(t:Slot T name id)(y:typeOf (.builtin id)=pure (.type "method_descriptor"))(m:MV X id r)(d:PE X o to)
  (a:Ti o name X.env (Qs o X.env)=Qs o X.env:=by rfl) (e:(UH.endLine == Wg.line)=true:=by rfl):PE X (.Call (.Attribute o name UH) [] [] Wg) (MY X.K T r to):=by
 intro O s b H Q I h;refine wpAny_Call_method0_late a e<|bu (d O s b H _ I h) λv f ⟨x,g,i,c,j,q⟩=>?_;obtain⟨k,l⟩:=AA i c j;exact⟨T,id,p,t,y,k,l,So rfl<|PySem.evalArgs_none<|m O f b g x [] v [] Q i c .nil q⟩
theorem fC{e:Pl}{E:ab Pl}{t:TA}(p:PlainAttrs T)(a:Slot T name id)(y:typeOf (.builtin id)=pure (.type "method_descriptor"))(m:MV X id r)(g:PE X o to)(j:PA X (e::E) t)
  (A:Ti o name X.env (Qs o X.env)=Qs o X.env:=by rfl)
  (L:((Rl Wg<|ON (e::E) X.env).all (λx=>!x.1)&&(Xk Wg<|UU [] X.env).all (λx=>x.1.isSome)
   &&decide ((e::E).length+([]:ab mi).length+(if([]:ab mi).isEmpty then 0 else 1)<30))=true:=by rfl)
  (k:(UH.endLine == Wg.line)=true:=by rfl) (l:ON (e::E) X.env=(NZ,Qs e X.env)::ON E X.env:=by rfl) (b:(Rl Wg<|ON E X.env).any (·.1)=false:=by rfl):
  PE X (.Call (.Attribute o name UH) (e::E) [] Wg) (NQ X.K T r to t):=by
 intro O s c H Q I h;refine wpAny_Call_method_late A L k rfl<|bu (g O s c H _ I h) λv n ⟨x,q,i,d,u,w⟩=>?_;obtain⟨z,B⟩:=AA i d u;exists T,id,p,a,y,z,B;have f:=j Wg O n c q _ i w;rw[l]at f ⊢;exact So (by assumption)<|SM<|bu f (by rintro U C ⟨D,F,G,J,M⟩;exact m O C c F x D v U Q G d J M)
end
def KO(X:Cx)(id:R1)(r:V->ab V->Hp->VK->Prop):Prop:=
 ∀(N:ab (C'×Obj)) (s:N8) (a:St) (H:Hp) (x:V) (b:ab V) (v:M') (u:ab M') (Q:VK),Inv X N a H s->RelV x v->Vals b u->r x b H Q->
  wpAny (OI X.prog X.w) X.A (call (.builtin id)<|v::u) (EP X N a Q) X.xe s
theorem Vals.one:∀{x:V} {U:ab M'},Vals [x] U->∃u,U=[u]/\RelV x u:=by
 rintro x U(z|⟨r,z|z⟩);exact⟨_,rfl,r⟩
theorem Vals.two:∀{x y:V} {U:ab M'},Vals [x,y] U->∃u v,U=[u,v]/\RelV x u/\RelV y v:=by
 rintro x y U(z|⟨r,z|⟨q,z|z⟩⟩);exact⟨_,_,rfl,r,q⟩
theorem Vals.zero:∀{u:ab M'},Vals [] u->u=[]
 |_,.nil=>rfl
theorem Vals.dropLast(h:Vals x u):Vals x.dropLast u.dropLast:=by
 induction h with
 |nil=>exact .nil
 |cons r t i=>
  cases t with
  |nil=>exact .nil
  |cons q T=>exact .cons r i
theorem uR{c:Type}(l:ab c):l.eraseIdx (l.length-1)=l.dropLast:=by
 simp
theorem Inv.lset{P i:ab M'}{n:Nat}{f:Qp M'->Qp M'}{t':Nat}(I:Inv X O a H s)(h:H l=gV (.lst x))
  (e:s.heap.get? l=gV {cls:=.type "list",data:=.seq P.toArray n}) (b:f P.toArray=i.toArray) (v:Vals y i) (z:y.length<=sizeLine):
  Inv X O a (upd H l<|.lst y) {s with heap:=s.heap.update l<|QC f,toks:=t'}:=by
 have q:=VM e f;rw[b]at q;exact I.write (by rw[h];exact trivial) (.inl rfl) (λB u c d=>(OU _ _<|Pw c).trans d) ⟨_,q⟩<|⟨z,i,_,v,q⟩
theorem Inv.lnew{t':Nat}(I:Inv X O a H s)(h:Vals y P)(z:y.length<=sizeLine):
  Inv X O a (upd H s.heap.objs.size<|.lst y) {s with heap:=s.heap.push {cls:=.type "list",data:=.seq P.toArray},toks:=t'}:=
 I.laid (λx x q=>N_ _ q) (N1 _) ⟨z,P,0,h,OJ _ rfl⟩
theorem Inv.fresh(I:Inv X O a H s):H s.heap.objs.size=none:=I.hok.fresh<|N1 _
theorem Inv.lstM(I:Inv X O a H s)(h:H l=gV (.lst x)):x.length<=sizeLine/\∃P n,Vals x P/\x.length=P.length/\s.heap.get? l=gV {cls:=.type "list",data:=.seq P.toArray n}:=by
 obtain⟨z,P,n,r,e⟩:=I.hok l _ h;exact⟨z,P,n,r,r.length,e⟩
theorem AB(h:n<=sizeLine):To n=false:=by
 unfold To;simp_all
inductive KP (x:V)(vs:ab V)(H:Hp)(Q:VK):Prop
 |mk (l:C')(xs:ab V)(y:V)(hx:x=.ref l)(v:vs=[y])(h:H l=gV (.lst xs))(z:xs.length<sizeLine)(q:Q .non (upd H l<|.lst<|xs++[y]))
def EG:V->ab V->Hp->VK->Prop:=λx v H Q=>KP x v H Q
theorem cK:KO X "list.append" EG:=by
 intro O s f H x g v U Q I b c h;obtain⟨l,i,y,rfl,rfl,a,j,q⟩:=h;cases b;obtain⟨u,rfl,d⟩:=c.one;obtain⟨z,P3,n,r,k,e⟩:=I.lstM a;refine Vq PX ⟨_,e,rfl⟩ F.entry_list_append (F.args_list_append_2 _ _) (PySem.list_append l _ n u<|by simp_all) ⟨e,⟨.non,_,I.lset (i:=P3++[u]) a e (by simp) (r.append<|‹_›) ?_,rfl,q⟩⟩;rw[NX,OG];lia
def EH:V->ab V->Hp->VK->Prop:=λx v H Q=>∃l b X z,x=.ref l/\v=[.ref b]/\H l=gV (.lst X)/\H b=gV (.lst z)/\X.length+z.length<=sizeLine/\Q .non (upd H l<|.lst<|X++z)
theorem pA:KO X "list.extend" EH:=by
 intro O s k H x m v U Q I f g h;obtain⟨l,b,o,Z,rfl,rfl,d,B,p,q⟩:=h;cases f;obtain⟨u,rfl,i⟩:=g.one;cases i;obtain⟨z,P3,n,r,t,e⟩:=I.lstM d;obtain⟨w,a,N,j,y,E⟩:=I.lstM B;have c:P3.toArray.size+a.toArray.size<=sizeLine:=by simp_all
 have A:¬(!P3.toArray.isEmpty&&To (P3.toArray.size+a.toArray.size))=true:=by
  rw[AB c,Qx];exact Oa
 refine Vq Ud ⟨_,e,rfl⟩ F.entry_list_extend (F.args_list_extend_2 _ _)
  (AutoSeq1.list_extend_list_list_0 l _ n b _ N A (by simp_all)<|Nat.le_succ_of_le c) ⟨e,E,⟨.non,_,I.lset d e (by simp) (r.append j) ?_,rfl,q⟩⟩;simp_all
def MZ:V->ab V->Hp->VK->Prop:=λx v H Q=>∃l X y,x=.ref l/\v=[]/\H l=gV (.lst X)/\X[X.length-1]?=gV y/\Q y (upd H l<|.lst X.dropLast)
theorem IL:KO X "list.pop" MZ:=by
 intro O s m H x o v U Q I d f h;obtain⟨l,p,y,rfl,rfl,c,g,q⟩:=h;cases d;have a:=f.zero;subst a;obtain⟨z,P,n,r,i,e⟩:=I.lstM c;obtain⟨u,j,k⟩:=r.get g;have b:P.toArray[P.toArray.size-1]?=gV u:=by
  simp_all
 refine Vq Yk ⟨_,e,rfl⟩ PySem.F.entry_list_pop (F.args_list_pop_1 _) (MeetsSeq.list_pop_last l _ n u b<|by simp_all) ⟨e,⟨y,_,I.lset c e ?_ r.dropLast ?_,k,q⟩⟩
 ·simp
 grind
def M0:R2:=λx y H Q=>∃l b X z,x=.ref l/\y=.ref b/\H l=gV (.lst X)/\H b=gV (.lst z)/\X.length+z.length<=sizeLine/\∀p,H p=N4->Q (.ref p) (upd H p<|.lst<|X++z)
theorem eK:OpR X (RC .Add) M0:=by
 intro O s j H x y v u Q I c d h;obtain⟨l,b,k,Z,rfl,rfl,f,B,m,q⟩:=h;cases c;cases d;obtain⟨z,P,n,r,o,e⟩:=I.lstM f;obtain⟨p,a,N,g,W,E⟩:=I.lstM B;refine PySem.P.add_list e E ?_ (by simp_all);have i:P.toArray++a.toArray=(P++a).toArray:=by simp
 rw[i];exact⟨.ref _,_,I.lnew (r.append g) (by simp_all),rfl,q _ I.fresh⟩
section
variable {κ:Type}[V0 κ]
noncomputable def bh(s:ab (κ×V))(k:κ):NW V:=(s.find? λv=>decide (v.1=k)).map (·.2)
noncomputable def cn(s:ab (κ×V))(k:κ)(v:V):ab (κ×V):=
 if(s.any λa=>decide (a.1=k))=NU then s.map (λa=>if a.1=k then(a.1,v)else a)else s++[(k,v)]
theorem bY{p:κ×V}{r:ab (κ×V)}{k:κ}(e:p.1=k):bh (p::r) k=gV p.2:=by simp[bh,e]
theorem bV{p:κ×V}{r:ab (κ×V)}{k:κ}(e:¬p.1=k):bh (p::r) k=bh r k:=by simp[bh,e]
theorem hZ(k:κ):∀s,(s.any λv=>decide (v.1=k))=(bh s k).isSome
 |[]=>rfl
 |p::r=>by
  rw[Qd];by_cases e:p.1=k
  ·simp only[bY e,Ob e,Y9,Yp]
  rw[bV e,N3 e];exact hZ k r
theorem sC(k j:κ)(y:V):∀s,bh (s.map λv=>if v.1=k then(v.1,y)else v) j=(bh s j).map λx=>if j=k then y else x
 |[]=>rfl
 |p::r=>by
  have i:=sC k j y r;rw[OH];by_cases h:p.1=k
  ·rw[Oi h];by_cases e:p.1=j
   ·rw[bY (p:=(p.1,y)) e,bY e,Tw,Oi<|e.symm.trans h]
   rw[bV (p:=(p.1,y)) e,bV e,i]
  rw[Oh h];by_cases e:p.1=j
  ·rw[bY e,bY e,Tw,Oh λz=>h<|e.trans z]
  rw[bV e,bV e,i]
theorem pB(k j:κ)(y:V):∀s,bh s k=N4->bh (s++[(k,y)]) j=if j=k then gV y else bh s j
 |[],_=>by
  by_cases e:k=j
  ·rw[Oi e.symm];exact bY e
  ·rw[Oh λz=>e z.symm];exact bV e
 |p::r,h=>by
  rw[List.cons_append];have H:¬p.1=k:=λz=>by rw[bY z]at h;cases h
  rw[bV H]at h;have i:=pB k j y r h;by_cases e:p.1=j
  ·rw[bY e,bY e,Oh λz=>H<|e.trans z]
  rw[bV e,bV e,i]
theorem fV(s:ab (κ×V))(k j:κ)(y:V):bh (cn s k y) j=if j=k then gV y else bh s j:=by
 unfold cn;by_cases a:(s.any λv=>decide (v.1=k))=NU
 ·rw[Oi a,sC];rw[hZ]at a;by_cases e:j=k
  ·obtain⟨x,h⟩:=Tr.mp a;rw[Oi e,e,h,Tw,Oi rfl]
  simp_all
 rw[Oh a];refine pB k j y s ?_;rw[hZ]at a;simp_all
theorem dg(s:ab (κ×V))(k:κ)(v:V):(cn s k v).length<=s.length+1:=by
 unfold cn
 split
 ·simp
 simp
theorem mP{s:ab (κ×V)}{k:κ}(v:V)(h:bh s k=N4):cn s k v=s++[(k,v)]:=by
 unfold cn;rw[hZ,h];rfl
theorem RelO.isSome_eq(r:RelO o u):o.isSome=u.isSome:=by
 cases o with
 |none=>cases u with
  |none=>rfl
  |some _=>exact(r).elim
 |some _=>cases u with
  |none=>exact(r).elim
  |some _=>rfl
theorem RelO.getD(r:RelO o u)(a:RelV d d'):RelV (o.getD d) (u.getD d'):=by
 cases o with
 |none=>cases u with
  |none=>exact a
  |some _=>exact(r).elim
 |some _=>cases u with
  |none=>exact(r).elim
  |some _=>exact r
theorem KV.val(r:KV s v)(k:κ):RelO (bh s k) (VN v k):=by
 induction r with
 |nil=>exact QS
 |@cons p q P Q h t i=>
  obtain⟨H,a⟩:=h;by_cases e:p.1=k
  ·have E:=H.symm.trans e;have b:VN (q::Q) k=gV q.2:=by simp[VN,E]
   rwa[bY e,b]
  have E:¬q.1=k:=λz=>e<|H.trans z;have b:VN (q::Q) k=VN Q k:=by simp[VN,E]
  rwa[bV e,b]
theorem KV.any(r:KV s a)(k:κ):(s.any λv=>decide (v.1=k))=a.any λv=>decide (v.1=k):=by
 induction r with
 |nil=>rfl
 |cons h t i=>simp_all
theorem KV.repl(r:KV s a)(k:κ)(b:RelV y u):
  KV (s.map λv=>if v.1=k then(v.1,y)else v) (a.map λv=>if v.1=k then(v.1,u)else v):=by
 induction r with
 |nil=>exact .nil
 |@cons p q P Q h t i=>
  rw[OH,OH];refine .cons ?_ i;obtain⟨H,c⟩:=h;by_cases e:p.1=k
  ·rw[Oi e,Oi<|H.symm.trans e];exact⟨H,b⟩
  rw[Oh e,Oh λz=>e<|H.trans z];exact⟨H,c⟩
theorem KV.put(r:KV s v)(k:κ)(a:RelV y u):KV (cn s k y) (stored v k u):=by
 unfold cn stored;rw[r.any k];by_cases e:(v.any λb=>decide (b.1=k))=NU
 ·rw[Oi e,Oi e];exact r.repl k a
 rw[Oh e,Oh e];exact Paired.snoc r ⟨rfl,a⟩
theorem KV.keys{k:ab (κ×V)}{v:ab (κ×M')}(r:KV k v):k.map (·.1)=v.map (·.1):=by
 induction r with
 |nil=>rfl
 |cons h t i=>simp_all
theorem KV.length{k:ab (κ×V)}{v:ab (κ×M')}(r:KV k v):k.length=v.length:=Paired.length r
end
theorem iY(r:RelV (kV k) u):(aN P w).is k u=true:=by
 cases k with
 |inl i=>obtain⟨t,e⟩:=(r);subst e;exact r_ P w i t
 |inr x=>obtain⟨t,e⟩:=(r);subst e;exact se P w x t
theorem pC:∀{s:ab aK} {u:ab M'},Vals (s.map kV) u->ItemsAre (aN P w) s u
 |[],_,r=>by cases r;exact .nil
 |k::s,_,r=>by
  cases r with
  |cons h t=>exact .cons (iY h)<|pC t
abbrev KT(H:Hp):ab (ab aK×V)->ab (ab aK×C'×M')->Prop:=Paired λp q=>p.1=q.1/\H q.2.1=gV (.tup<|p.1.map kV)/\RelV p.2 q.2.2
theorem KT.val(r:KT H s x)(k:ab aK):RelO (bh s k) ((VO x k).map (·.2)):=by
 induction r with
 |nil=>exact QS
 |@cons p q P Q h t i=>
  obtain⟨a,y,c⟩:=h;by_cases e:p.1=k
  ·have E:=a.symm.trans e;have b:VO (q::Q) k=gV q.2:=by simp[VO,E]
   rwa[bY e,b]
  have E:¬q.1=k:=λz=>e<|a.trans z;have b:VO (q::Q) k=VO Q k:=by simp[VO,E]
  rwa[bV e,b]
theorem KT.repl(r:KT H s x)(k:ab aK)(c:RelV y u):
  KT H (s.map λv=>if v.1=k then(v.1,y)else v) (x.map<|putAt k u):=by
 induction r with
 |nil=>exact .nil
 |@cons p q P Q h t i=>
  rw[OH];refine .cons ?_ i;obtain⟨a,b,d⟩:=h;unfold putAt;by_cases e:p.1=k
  ·rw[Oi e,Oi<|a.symm.trans e];exact⟨a,b,c⟩
  rw[Oh e,Oh λz=>e<|a.trans z];exact⟨a,b,d⟩
theorem KT.put(r:KT H s x)(k:ab aK)(h:H b=gV (.tup<|k.map kV))(a:RelV y u):
  KT H (cn s k y) (mj x k b u):=by
 have e:(s.any λv=>decide (v.1=k))=(VO x k).isSome:=by
  rw[hZ,(r.val k).isSome_eq,VT]
 unfold cn mj;rw[e];by_cases q:(VO x k).isSome=NU
 ·rw[Oi q,Oi q];exact r.repl k a
 rw[Oh q,Oh q];exact Paired.snoc r ⟨rfl,h,a⟩
theorem KT.keeps(r:KT H k x)(h:∀b y,H b=gV (.tup y)->a b=gV (.tup y)):KT a k x:=
 Paired.mapP r λw w z=>⟨z.1,h _ _ z.2.1,z.2.2⟩
theorem GG(o:HOk P w H h)(e:Rd H a u):ObjOk P w H h a u:=e.ok o
theorem jC(o:HOk P w H h)(e:Rd H a (.dK k)):k.length<=sizeLine/\(a == QT)=NZ/\∃v,KV k v/\h.DictOf (aN P w) a v:=
 GG o e
theorem wx(o:HOk P w H h)(e:H a=gV (.dK k)):k.length<=sizeLine/\(a == QT)=NZ/\∃v,KV k v/\h.DictOf (aN P w) a v:=jC o<|.inl e
theorem h_(O:HOk P w H h)(e:H a=gV (.tup<|k.map kV)):(UJ<|aN P w).is h k a:=by
 obtain⟨z,p,r,o,b,c,n,d⟩:=(O a _ e);exact⟨o,p.toArray,n,b,c,d,by simpa using pC r⟩
theorem jD(O:HOk P w H h)(e:Rd H a (.dT k)):k.length<=sizeLine/\(a == QT)=NZ/\
  ∃X,KT H k X/\h.DictOfH (UJ<|aN P w) a X:=by
 obtain⟨z,y,X,r,o,E,d,f,g,i,j,n⟩:=(GG O e);refine⟨z,y,X,r,o,E,d,f,g,i,j,λx b=>?_,n⟩;have A:∀{l:ab _} {m:ab _},KT H l m->∀x∈m,(UJ<|aN P w).is h x.1 x.2.1:=by
  intro l m q
  induction q with
  |nil=>intro x b;exact nomatch b
  |@cons p q s Q c t I=>
   intro x b;obtain e|b:=Oz.mp b
   ·exact h_ O (by simp_all)
   exact I x b
 exact A r x b
theorem KQ(o:HOk P w H h)(e:H a=gV (.dT k)):k.length<=sizeLine/\(a == QT)=NZ/\
  ∃x,KT H k x/\h.DictOfH (UJ<|aN P w) a x:=jD o<|.inl e
def DGet(H:Hp)(a:C')(y:V)(r:NW V):Prop:=
 (∃s k,Rd H a (.dK s)/\y=kV k/\r=bh s k)\/∃s k b,Rd H a (.dT s)/\y=.ref b/\H b=gV (.tup<|k.map kV)/\r=bh s k
def DPut(H:Hp)(a:C')(y v:V)(h:Hp):Prop:=
 (∃s k,H a=gV (.dK s)/\y=kV k/\s.length<sizeLine/\h=upd H a (.dK<|cn s k v))\/
 ∃s k b,H a=gV (.dT s)/\y=.ref b/\H b=gV (.tup<|k.map kV)/\s.length<sizeLine/\h=upd H a (.dT<|cn s k v)
theorem DGet.k{H:Hp}{a:C'}{s:ab (aK×V)}{k:aK}(e:H a=gV (.dK s)):DGet H a (kV k) (bh s k):=.inl ⟨s,k,.inl e,rfl,rfl⟩
theorem DGet.t{H:Hp}{a b:C'}{s:ab (ab aK×V)}{k:ab aK}(e:H a=gV (.dT s))(E:H b=gV (.tup<|k.map kV)):DGet H a (.ref b) (bh s k):=.inr ⟨s,k,b,.inl e,rfl,E,rfl⟩
theorem DPut.k{H:Hp}{a:C'}{s:ab (aK×V)}{k:aK}{v:V}(e:H a=gV (.dK s))(h:s.length<sizeLine):DPut H a (kV k) v (upd H a<|.dK<|cn s k v):=.inl ⟨s,k,e,rfl,h,rfl⟩
theorem DPut.t{H:Hp}{a b:C'}{s:ab (ab aK×V)}{k:ab aK}{v:V}(e:H a=gV (.dT s))(E:H b=gV (.tup<|k.map kV))(h:s.length<sizeLine):
  DPut H a (.ref b) v (upd H a<|.dT<|cn s k v):=.inr ⟨s,k,b,e,rfl,E,h,rfl⟩
theorem Inv.big(I:Inv X O a H s):QT<s.heap.objs.size:=by
 have h:=(I.mod.glob.keeps I.bk).lt;exact WO (by decide) h
theorem yt(n:A.units+1<RT)(I:Inv X O o H s)(g:DGet H a y (gV v))(j:RelV y u)(h:∀w m,Inv X O o H m->RelV v w->Q w m):
  wpAny (OI X.prog X.w) A (Vh (.ref a) u) Q E s:=by
 obtain⟨c,k,e,d,l⟩|⟨c,k,b,e,d,q,l⟩:=g
 ·subst d;obtain⟨z,t,x,W,D⟩:=jC I.hok e;obtain⟨w,f,r⟩:=RelO.some_of (by rw[l];exact W.val k);exact wpAny_getItem_of (iY j) D.mapOf f<|h w _ (I.tok _) r
 subst d;cases(j);obtain⟨z,t,B,W,D⟩:=jD I.hok e;obtain⟨w,f,r⟩:=RelO.some_of (by rw[l];exact W.val k);obtain⟨p,C,i⟩:=P9.mp f;refine wpAny_getItem_heap (Q8 n) (h_ I.hok q) D C ?_;rw[i];exact h w _ (I.tok _) r
theorem M1(j:A.units+1<RT)(I:Inv X O m H s)(g:DGet H a y o)(r:RelV y u)(h:∀i,Inv X O m H i->Q (.bool o.isSome) i):
  wpAny (OI X.prog X.w) A (PL .In u<|.ref a) Q E s:=by
 obtain⟨c,k,e,d,l⟩|⟨c,k,b,e,d,n,l⟩:=g
 ·subst d;obtain⟨z,f,v,W,D⟩:=jC I.hok e;refine wpAny_in_of (iY r) f D.mapOf ?_;rw[<-(W.val k).isSome_eq,<-l];exact h _<|I.tok _
 subst d;cases(r);obtain⟨z,f,x,W,D⟩:=jD I.hok e;refine wpAny_in_heap (Q8 j) (h_ I.hok n) f D ?_;have q:=(W.val k).isSome_eq;rw[VT]at q;rw[<-q,<-l];exact h _<|I.tok _
theorem EI(j:A.units+1<RT)(I:Inv X O m H s)(g:DGet H a y o)(r:RelV y u)(h:∀i,Inv X O m H i->Q (.bool (!o.isSome)) i):
  wpAny (OI X.prog X.w) A (PL .NotIn u<|.ref a) Q E s:=by
 obtain⟨c,k,e,d,l⟩|⟨c,k,b,e,d,n,l⟩:=g
 ·subst d;obtain⟨z,f,v,W,D⟩:=jC I.hok e;refine wpAny_notIn_of (iY r) f D.mapOf ?_;rw[<-(W.val k).isSome_eq,<-l];exact h _<|I.tok _
 subst d;cases(r);obtain⟨z,f,x,W,D⟩:=jD I.hok e;refine wpAny_notIn_heap (Q8 j) (h_ I.hok n) f D ?_;have q:=(W.val k).isSome_eq;rw[VT]at q;rw[<-q,<-l];exact h _<|I.tok _
theorem jE{t':Nat}(I:Inv X O c H s)(m:Ko (H a))(h:SX a s.heap h')(e:∃q,h'.get? a=gV q)(n:ObjOk X.prog X.w (upd H a o) h' a o):
  Inv X O c (upd H a o) {s with heap:=h',toks:=t'}:=
 I.write m (.inl rfl) (λb q d z=>(h.2 b d).trans z) e n
theorem qA{H:Hp}(z:k.length<=sizeLine)(h:(a == QT)=NZ)(W:KV k v)(d:h'.DictOf (aN P w) a v):
  ObjOk P w H h' a (.dK k):=⟨z,h,v,W,d⟩
theorem yu(J:A.units+1<RT)(I:Inv X O L H s)(g:DPut H a y v M)(w:RelV y u)(x:RelV v r)(h:∀B,Inv X O L M B->Q () B):
  wpAny (OI X.prog X.w) A (setItem (.ref a) u r) Q E s:=by
 obtain⟨d,k,e,i,l,j⟩|⟨d,k,b,e,i,C,l,j⟩:=g
 ·subst i j;obtain⟨z,m,N,W,n⟩:=wx I.hok e;have o:N.length<=sizeLine:=by rwa[<-W.length]
  have p:(cn d k v).length<=sizeLine:=by have:=dg d k v;lia
  refine wpAny_setItem_pairs (iY w) n λF D t=>h _ ?_;have P:∃q,F.get? a=gV q:=let ⟨q,_,_,f,_⟩:=D;⟨q,f⟩
  exact jE I (by rw[e];exact QS) t P<|qA p m (W.put k x) D
 subst i j;cases(w);obtain⟨z,m,T,W,n⟩:=KQ I.hok e;have o:T.length<=sizeLine:=by rwa[<-Paired.length W]
 have p:(cn d k v).length<=sizeLine:=by have:=dg d k v;lia
 refine wpAny_setItem_heap (Q8 J) (h_ I.hok C) n λF D t=>h _ ?_;obtain⟨q,U,Y,f,Z,h3,h4,V,h5⟩:=D;refine jE I (by rw[e];exact QS) t ⟨q,f⟩ ⟨p,m,_,(W.put k C x).keeps λc ys G=>?_,q,U,Y,f,Z,h3,h4,h5⟩;rwa[af<|bj G e (λz=>nomatch z)]
def KR(i:Pl):Prop:=∀o I,Xh i NZ o I=operate [o,I] (Vh o I)
theorem EJ{p:Of}{w:OE}{A:Pr}{E:M'->N8->Prop}{s:N8}{e:Env}{v W:Pl}{P:Pos}{T id:R1}{Q:M'->N8->Prop}
  (l:pz (.type T) "__getitem__"=pure (gV<|.builtin id)) (g:KR W)
  (h:wpAny (OI p w) A (Qs v e) (λo b=>wpAny (OI p w) A (Qs W e) (λi a=>a.TypeIs o T/\wpAny (OI p w) A (Vh o i) Q E a) E b) E s):
  wpAny (OI p w) A (Qs (.Subscript v W P) e) Q E s:=by
 refine Yo<|Qq h (λo b d=>Qq d (λi a H=>?_) λz z x=>x) λz z x=>x;obtain⟨j,H⟩:=H;refine N0<|N0<|PySem.wpAny_specialOf j l ?_;have X:wpAny (OI p w) A (Xh W NZ o i) (λr c=>wpAny (OI p w) A (letTemporaryGo v o r >>=λz=>pure r) Q E c) E a:=by
  rw[g o i];exact wpAny_operating<|Qq H (λr c f=>N0<|wpAny_letTemporaryGo<|Oj f) λz z x=>x
 first
  |exact Oj<|N0 X
  |exact N0<|Oj<|N0 X
  |exact N0 X
theorem sE(I:Inv X O f H s)(g:DGet H a y o):s.TypeIs (.ref a) "dict":=by
 obtain⟨c,k,e,z,z⟩|⟨c,k,b,e,z,z,z⟩:=g
 ·obtain⟨z,z,v,z,d⟩:=jC I.hok e;exact d.typeIs
 obtain⟨z,z,x,z,d⟩:=jD I.hok e;exact d.typeIs
def KS(t T:TE):TE:=λb H Q=>t b H λx c=>T b c λy h=>∃a v,x=.ref a/\DGet h a y (gV v)/\Q v h
def M3(t T:TE):TE:=λb H Q=>t b H λy c=>T b c λx h=>∃a o,x=.ref a/\DGet h a y o/\Q (.bl o.isSome) h
def EK(t T:TE):TE:=λb H Q=>t b H λy c=>T b c λx h=>∃a o,x=.ref a/\DGet h a y o/\Q (.bl (!o.isSome)) h
def KU(t T c:TE):TS:=λD b H=>c b H λv d=>t b d λx e=>T b e λy f=>∃a h,x=.ref a/\DPut f a y v h/\D.nx b h
theorem bz(d:X.A.units+1<RT)(e:PE X o t)(f:PE X i T)(j:KR i):PE X (.Subscript o i p) (KS t T):=by
 intro O s b H Q I h;refine EJ PySem.F.slot_dict_getitem.lookup j<|bu (e O s b H _ I h) λu k Y=>?_;obtain⟨x,l,m,n,q⟩:=Y;refine bu (f O k b l _ m q) λC D Z=>?_;obtain⟨y,w,c,z,a,v,E,g,A⟩:=Z;subst E;obtain rfl:u=Pp a:=n;exact⟨sE c g,yt d c g z λW F B r=>⟨v,w,B,r,A⟩⟩
theorem uS(c:X.A.units+1<RT)(d:PE X i t)(e:PE X o T):PC X .In i o (M3 t T):=by
 intro O s b H Q I h;refine bu (d O s b H _ I h) λz f Y=>?_;obtain⟨y,j,k,r,q⟩:=Y;refine bu (e O f b j _ k q) λu A Z=>?_;obtain⟨x,l,m,n,a,v,E,g,p⟩:=Z;subst E;obtain rfl:u=Pp a:=n;exact M1 c m g r λB w=>⟨.bl _,l,w,rfl,p⟩
theorem iJ(c:X.A.units+1<RT)(d:PE X i t)(e:PE X o T):PC X .NotIn i o (EK t T):=by
 intro O s b H Q I h;refine bu (d O s b H _ I h) λz f Y=>?_;obtain⟨y,j,k,r,q⟩:=Y;refine bu (e O f b j _ k q) λu A Z=>?_;obtain⟨x,l,m,n,a,v,E,g,p⟩:=Z;subst E;obtain rfl:u=Pp a:=n;exact EI c m g r λB w=>⟨.bl _,l,w,rfl,p⟩
theorem wy(c:X.A.units+1<RT)(d:PE X o t)(f:PE X i T)(j:PE X e k)(l:Vn e (gV<|.Subscript o i m) p.line X.env=pure NZ):
  PS X (.Assign [.Subscript o i m] e p) (KU t T k):=by
 intro O s b H D I h;refine wpAny_Assign_Subscript (bu (j O s b H _ I h) λr n S=>?_) l;obtain⟨v,q,w,z,Q⟩:=S;refine bu (d O n b q _ w Q) λu A R=>?_;obtain⟨x,B,C,E,F⟩:=R;refine bu (f O A b B _ C F) λU W V=>?_;obtain⟨y,Y,G,J,a,L,M,g,N⟩:=V;subst M;obtain rfl:u=Pp a:=E;exact yu c G g J z λZ P=>⟨b,L,P,N⟩
theorem sF(h:O5)(b:QT<h.objs.size):ObjOk P w H (h.push {cls:=.type "dict",data:=.dict #[]}) h.objs.size (.dK []):=
 ⟨Ou _,Pg.mpr<|Pw<|OF b,[],.nil,ZW h⟩
theorem AC(h:O5)(b:QT<h.objs.size):ObjOk P w H (h.push {cls:=.type "dict",data:=.dict #[]}) h.objs.size (.dT []):=
 ⟨Ou _,Pg.mpr<|Pw<|OF b,[],.nil,_,#[],0,OJ _ rfl,⟨rfl,rfl,rfl⟩,rfl,rfl,Ul⟩
def IM:TE:=λ_ H Q=>∀p,H p=N4->Q (.ref p) (upd H p<|.dK [])
def IN:TE:=λ_ H Q=>∀p,H p=N4->Q (.ref p) (upd H p<|.dT [])
theorem sG:PE X (.Dict [] [] p) IM:=λO s a H Q I h=>
 Zg ⟨.ref _,_,I.laid (λz z q=>N_ _ q) (N1 _)<|sF _ I.big,rfl,h _<|I.hok.fresh<|N1 _⟩
theorem mQ:PE X (.Dict [] [] p) IN:=λO s a H Q I h=>
 Zg ⟨.ref _,_,I.laid (λz z q=>N_ _ q) (N1 _)<|AC _ I.big,rfl,h _<|I.hok.fresh<|N1 _⟩
def uT:ab (TE×TE)->St->Hp->(ab (V×V)->Hp->Prop)->Prop
 |[],_,H,Q=>Q [] H
 |(t,T)::r,a,H,Q=>t a H λx h=>T a h λy b=>uT r a b λp c=>Q ((x,y)::p) c
abbrev VV:ab (V×V)->ab (M'×M')->Prop:=Paired λp q=>RelV p.1 q.1/\RelV p.2 q.2
def Mu(X:Cx)(p:Pos)(k:ab (NW Pl))(a:ab Pl)(t:ab (TE×TE)):Prop:=
 ∀(N:ab (C'×Obj)) (s:N8) (b:St) (H:Hp) (Q:ab (V×V)->Hp->Prop),Inv X N b H s->uT t b H Q->
  wpAny (OI X.prog X.w) X.A (evalPairs<|pairTrees k a X.env p) (λv c=>∃P h,Inv X N b h c/\VV P v/\Q P h) X.xe s
theorem wz:Mu X p [] [] []:=λO s a H Q I h=>pairTrees_nil_walk ⟨[],H,I,.nil,h⟩
theorem mR(b:PE X k T)(c:PE X v d)(r:Mu X p e f t):
  Mu X p (gV k::e) (v::f) ((T,d)::t):=λO s a H Q I h=>
 pairTrees_cons_walk (bu (b O s a H _ I h) (by rintro u g ⟨x,i,j,l,q⟩;exact bu (c O g a i _ j q) (by rintro D m ⟨y,n,o,w,z⟩;exact bu (r O m a n _ o z) (by rintro E F ⟨P,A,B,W,C⟩;exact ⟨(x,y)::P,A,B,.cons ⟨l,w⟩ W,C⟩))))
noncomputable def fO(k m:ab (aK×V)):ab (aK×V):=m.foldl (λa v=>cn a v.1 v.2) k
theorem KV.merge:∀{m:ab (aK×V)} {s:ab (aK×M')} {k:ab (aK×V)} {v:ab (aK×M')},KV m s->KV k v->KV (fO k m) (X8 v s):=by
 intro m s k v r;induction r generalizing k v with
 |nil=>intro q;exact q
 |@cons p q P Q h t i=>
  intro a;have e:KV (cn k p.1 p.2) (stored v q.1 q.2):=by
   have:=a.put p.1 h.2;rwa[<-h.1]
  exact i e
theorem iZ:∀m k,(fO k m).length<=k.length+m.length
 |[],k=>by show k.length<=k.length+0;simp
 |p::r,k=>by
  have h:=iZ r<|cn k p.1 p.2;have H:=dg k p.1 p.2;show(fO _ r).length<=_
  grind
theorem mS:∀{k:ab (aK×V)} {W:ab (M'×M')},VV (k.map λv=>(kV v.1,v.2)) W->∃s,Carries (aN P w) W s/\KV k s
 |[],_,r=>by cases r;exact⟨[],QS,.nil⟩
 |p::k,_,r=>by
  cases r with
  |@cons a b A d h t=>
   obtain⟨s,c,q⟩:=mS (P:=P) (w:=w) t;obtain⟨e,B⟩:=b;exact⟨(p.1,B)::s,⟨iY h.1,rfl,c⟩,.cons ⟨rfl,h.2⟩ q⟩
def sI(t:ab (TE×TE)):TE:=λa H Q=>∀p,H p=N4->uT t a (upd H p<|.dK []) λP h=>h p=gV (.dK [])/\∃k:ab (aK×V),P=k.map (λv=>(kV v.1,v.2))/\k.length<=15/\Q (.ref p) (upd h p<|.dK<|fO [] k)
theorem wA(h:Mu X p v a t)(r:v.all (·.isSome)=NU)(l:v.length=a.length)(f:v≠[])
  (b:v.length<=15):PE X (.Dict v a p) (sI t):=by
 intro O s g H Q I q;have n:=I.hok.fresh<|N1 _;have j:=I.laid (t':=s.toks) (λZ Z q=>N_ _ q) (N1 _)<|sF _ I.big;refine wpAny_Dict_walk (knd:=aN _ X.w) r l f b<|bu (h O _ g _ _ j<|q _ n) λL M ⟨P,N,i,W,e,k,E,T,m⟩=>?_;subst E;obtain⟨o,c,u⟩:=mS W;obtain⟨z,w,x,y,D⟩:=wx i.hok e;cases y;refine⟨o,c,D,λA d B=>⟨.ref _,_,?_,rfl,m⟩⟩;have C:(fO [] k).length<=sizeLine:=by
  have F:=iZ k [];rw[TC]at F;rw[P0];lia
 have G:∃q,A.get? _=gV q:=let ⟨q,_,_,J,_⟩:=d;⟨q,J⟩
 exact jE i (by rw[e];exact QS) B G<|qA C w (u.merge .nil) d
structure M2 (X:Cx)(o:Pl)(m:Str)(UH:Pos)(e f:Pl)(Wg:Pos):Prop where
 base:Ti o m X.env (Qs o X.env)=Qs o X.env
 few:((Rl Wg<|ON [e,f] X.env).all (λx=>!x.1)&&(Xk Wg<|UU [] X.env).all (λx=>x.1.isSome)
  &&decide (([e,f]:ab Pl).length+([]:ab mi).length+(if([]:ab mi).isEmpty then 0 else 1)<30))=NU
 line:(UH.endLine == Wg.line)=NU
 trees:Rl Wg (ON [e,f] X.env)=[(NZ,Qs e X.env),(NZ,Qs f X.env)]
def M4(H:Hp)(a:C'):Prop:=(∃k,Rd H a<|.dK k)\/∃k,Rd H a<|.dT k
theorem AD(I:Inv X O g H s)(d:M4 H a):
  s.TypeIs (.ref a) "dict"/\(∀b,Pp a=.ref b->∃o,s.heap.get? b=gV o/\o.dict=N4)/\(a == QT)=false:=by
 obtain⟨k,e⟩|⟨k,e⟩:=d
 ·obtain⟨z,h,v,z,D⟩:=jC I.hok e;refine⟨D.typeIs,λb q=>?_,h⟩;cases q;obtain⟨o,z,z,c,f,z⟩:=D;exact⟨o,c,f.2.1⟩
 obtain⟨z,h,x,z,D⟩:=jD I.hok e;refine⟨D.typeIs,λb q=>?_,h⟩;cases q;obtain⟨o,z,z,c,f,z⟩:=D;exact⟨o,c,f.2.1⟩
theorem IP(p:A.units+1<RT)(I:Inv X P q H s)(g:DGet H a y o)(j:RelV y u)(m:RelV d r)(h:∀w n,Inv X P q H n->RelV (o.getD d) w->Q w n):
  wpAny (OI X.prog X.w) A (call (.builtin "dict.get") [.ref a,u,r]) Q E s:=by
 obtain⟨c,k,e,f,l⟩|⟨c,k,b,e,f,t,l⟩:=g
 ·subst f;obtain⟨z,i,B,v,D⟩:=jC I.hok e;refine T_ Uw D.typeIs WE (Wq _ _ _) (meets_dict_get_default _ a (iY j) i r) ⟨_,D.mapOf,h _ _ (I.tok _) ?_⟩;rw[l];exact(v.val k).getD m
 subst f;cases(j);obtain⟨z,i,x,v,D⟩:=jD I.hok e;refine T_ Uw D.typeIs WE (Wq _ _ _) (meetsH_dict_get_default _ a b i r) ⟨Q8 p,k,x,h_ I.hok t,D,h _ _ (I.tok _) ?_⟩;rw[l];exact(v.val k).getD m
def IQ(t T tx:TE):TE:=λb H Q=>t b H λx h=>∃a,x=.ref a/\M4 h a/\T b h λy d=>tx b d λz c=>∃o,DGet c a y o/\Q (o.getD z) c
theorem AE(c:X.A.units+1<RT)(j:PE X o t)(k:PE X e T)(l:PE X f tx)(m:M2 X o "get" v e f D):PE X (.Call (.Attribute o "get" v) [e,f] [] D) (IQ t T tx):=by
 intro P s b H Q I h;refine YL m.base m.few m.line Wo Uw PySem.F.type_dict_get<|bu (j P s b H _ I h) λu n ⟨x,p,i,q,a,E,d,w⟩=>?_;subst E;obtain rfl:u=Pp a:=q;obtain⟨A,B,V⟩:=AD i d;exists A,B;rw[m.trees];exact So rfl (SM (RE (bu (k P n b p _ i w) (by rintro Y C ⟨y,F,G,J,L⟩;exact RE (bu (l P C b F _ G L) (by rintro Z s3 ⟨z,M,N,O,ov,g,U⟩;exact Ug (IP c N g J O λw' s4 W r=>⟨_,M,W,r,U⟩)))))))
end L2
namespace Att
open PySem PySem.W PySem.Calls PyProof.Rows
theorem lV:∀N v,WellAll P h v (N.map sg)->R7 v N:=by
 intro N
 induction N with
 |nil=>
  intro v w;cases w;exact .nil
 |cons n N i=>
  intro v w;cases w with
  |cons a b=>
   cases a;exact .cons _ _<|i _ b
theorem yw{l:Wx}{n:Nat}(i:l.most=gV n){P:Zo}{h:O5}{A:ab WData}{M:ab M'}
  (b:l.row.toRowW.claim.pre A=NU) (e:WellAll P h M A):
  ∃a v N,M=[Pp a]/\A=[WData.list<|N.map sg]/\h.get? a=gV {cls:=.type "list",data:=.seq v.toArray}/\R7 v N/\N.length<=n:=by
 have f:WShape.hasAll [] A _=true:=(pre_splitW b).1;have g:=(pre_splitW b).2;obtain⟨d,r,rfl,j,k⟩:=hasAllW_cons f;obtain rfl:=hasAllW_nil k;obtain⟨x,rfl,m⟩:=hasW_list j;obtain⟨N,rfl⟩:=items_int m;have Q:N.length<=n:=by
  have H:(WTm.not<|.lt (.lit<|.int (n))<|.len<|.arg 0).holds [] {args:=[.list<|N.map .int]}=true:=by
   have H:=(holds_andW g).1;rwa[i]at H
  have c:=condW_of H<|rfl;simp_all
 cases e with
 |cons w W=>
  cases W;cases w with
  |list p s=>exact⟨_,_,N,rfl,rfl,p,lV N _ s,Q⟩
theorem yx(l:Wx)(a:ab WData):l.row.toRowW.claim.post a (.bool NU) a=true:=
 postW_of
  rfl
  (w_eq_bool (w_res rfl) w_lit) rfl
theorem attach_call{l:Wx}{n:Nat}{q:Of}{loose:ab Str}{X:(Str->NW M')->O5->Prop}{y:OE->O5->Prop}{d:DefRec}
  (u:l.most=gV n) (h:d.params.defaults=[])
  (call:∀w b s m M F o p c Z a v N,
   Ground q loose [] X w b m M s.heap->y w s.heap->
   s.heap.get? F=gV o->o.data=.func (docDef d.name d.params d.body d.scope p c Z)->s.heap.CodeRec c d.name->m d.name=gV (.ref F)->
   s.heap.get? a=gV {cls:=.type "list",data:=.seq v.toArray}->R7 v N->N.length<=n->s.gens=#[]->
   codeAny (OI l.prog w) XF (.call (.ref F) ⟨[.ref a],[]⟩) (λr e=>r=.ok (.ret<|.bool NU)/\OldK s.heap e.heap/\e.os=s.os/\Vl e.gens) s):
  Zk q loose X y l.row.toRowW d [] (λf v=>X' f v):=by
 intro w b s m M G Y F o p c Z x kV z B H D g C k E as A t I i J;obtain rfl:x=.none:=Dflts.none D h;obtain rfl:kV=.none:=Dflts.noKw D;obtain⟨a,v,N,rfl,rfl,j,L,Q⟩:=yw u A i;refine enter_call<|T9 (call w b s m M F o p c Z a v N G Y z ‹_› H g j L Q C) λr e O=>?_;obtain⟨rfl,P,T,U⟩:=O;exact⟨.inl ⟨.bool NU,.bool NU,[],rfl,λ_=>rfl,.bool NU,yx l _,λ_=>⟨SF,λ_ W=>(nomatch W)⟩⟩,P,T,U⟩
end Att
namespace L2
open PySem PySem.Spec PyProof.Rows
theorem kq:∀{v:ab M'} {N:ab Int},R7 v N->Vals (N.map V.int) v:=by
 intro v N h;induction h with
 |nil=>exact .nil
 |cons n t h i=>exact .cons ⟨t,rfl⟩ i
noncomputable def cC(s:Pk)(j:Nat):Pk:=match s with
 |.ClassDef _ _ _ b _ _ _ _ _ _ _=>b.getD j<|.Pass ⟨0,0,0,0⟩
 |_=>.Pass ⟨0,0,0,0⟩
noncomputable def eQ(s:Pk):SY:=match s with
 |.FunctionDef _ a _ _ _ _ _ _ _ _=>a
 |_=>{posonlyargs:=[],args:=[],vararg:=N4,kwonlyargs:=[],kw_defaults:=[],kwarg:=N4,defaults:=[]}
noncomputable def cc(s:Pk):ab Pk:=match s with
 |.FunctionDef _ _ b _ _ _ _ _ _ _=>b
 |_=>[]
noncomputable def aw(s:Pk):Sm:=match s with
 |.FunctionDef _ _ _ _ _ _ c _ _ _=>c
 |_=>{kind:=.function,names:=[],isGenerator:=NZ,isCoroutine:=NZ}
abbrev aP:At:=λ_ _ _ _ _ _=>False
abbrev E0:XK:=λ_ _ _=>False
theorem wB:jf aP X E0:=λz z z z z z z h=>h.elim
structure Fun (K:B')(x qual:Str)(st:Pk)(f:C')(fd:Oc):Prop where
 ex:∃(oc:M') (od:NW C') (kV YG pm:M') (an:NW C') (Qt ct:M') (osl:Qp (NW M')),
  fd=Rh x qual (eQ st) (cc st) (aw st) .none kV YG pm an Qt ct/\K.lookup f=gV ⟨oc,od,.func fd,osl⟩/\Ub K Qt qual=NU
 kp:Px K (.ref f)=NU
section
variable {K:B'}
theorem Fun.ok{P:Of}{w:OE}{M:Str->NW M'}{b:O5}{x l:Str}{st:Pk}{f:C'}{i:Oc}{N p:ab Str}{k:Nat}{c:Sp}(F:Fun K x l st f i)(S:ee N p (aw st))(m:∀v H Q E,c v H Q E->v.length=p.length)
  (d:∀a A o s H v Q E,Room k (A.deeper<|P5 l (aw st) s.heap.objs.size f a)->c v H Q E->
   ∃t,PSs (qw aP P w K M b N l (aw st) f a A o s H E).nox (cc st) t/\t {nx:=λY j=>Q .non j,rt:=Q} (start N v) H):ao P w K M b aP (k+1) f i p c:=by
 obtain⟨n,u,kV,Z,y,z,a,C,O,rfl,L,e⟩:=F.ex;refine GC L e S m λA o s H v Q E r g=>?_;obtain⟨t,h,q⟩:=d a A o s H v Q E r g;exact⟨t,h.nox,q⟩
theorem Fun.binds{x q:Str}{st:Pk}{f:C'}{d:Oc}{p:ab Str}(F:Fun K x q st f d)
  (h:∀kV Z P a Q c u,u.length=p.length->YO (Rh x q (eQ st) (cc st) (aw st) .none kV Z P a Q c) ⟨u,[]⟩=pure (p.zip u)):Binds K d p []:=by
 obtain⟨O,b,kV,Z,P,a,Q,c,o,rfl,l,H⟩:=F.ex;exact .all<|h kV Z P a Q c
theorem fun_mk{x q:Str}{st:Pk}{f:C'}{O:M'}{d a:NW C'}{o:Qp (NW M')}{kV Z p Q C:M'}(l:K.lookup f=gV ⟨O,d,.func<|Rh x q (eQ st) (cc st) (aw st) .none kV Z p a Q C,o⟩)
  (c:Ub K Q q=NU) (k:Px K (.ref f)=NU):Fun K x q st f (Rh x q (eQ st) (cc st) (aw st) .none kV Z p a Q C):=⟨⟨O,d,kV,Z,p,a,Q,C,o,rfl,l,c⟩,k⟩
end
theorem mT(h:Room k A):A.units+1<RT:=Q_ (XS (by simp) _) h.units
theorem ai(h:n<=1000):n<sizeLine:=Q_ h (by decide)
theorem gq{l:List a}(i:Nat)(h:l[i]?=x):l[i]?=x:=h
theorem nn{p:Prop}(h:p:=by first|exact gq 0 rfl|exact gq 1 rfl|exact gq 2 rfl|exact gq 3 rfl|exact gq 4 rfl|exact gq 5 rfl|exact gq 6 rfl|exact gq 7 rfl|exact gq 8 rfl|exact gq 9 rfl|exact gq 10 rfl|exact gq 11 rfl|exact gq 12 rfl|exact gq 13 rfl|exact gq 14 rfl|exact gq 15 rfl):p:=h
theorem pv{X:Cx}(i:Nat){p:Pos}(H:X.N[i]?=gV x:=by exact nn)(v:Ki X.env.scope x:=by first|exact Zt rfl|exact Wa (Zt rfl)|exact Wa<|Wa rfl)(d:(x == ("__debug__":Str))=false:=by decide)
  (h:(x == ("__classdict__":Str))=false:=by decide):PE X (.Name x p) (mG i):=Ah H v d h
theorem ak{A B:Prop}(h:B):if NZ=NU then A else B:=by
 assumption
theorem aq{A B:Prop}(h:A):if NU=NU then A else B:=by
 assumption
theorem fA{c A B:Prop} [Decidable c] (H:c->A)(a:¬c->B):if c then A else B:=by
 simp_all
def Same(H h:Hp):Prop:=∀b o,H b=gV o->h b=gV o
theorem Same.refl(H:Hp):Same H H:=λz z h=>h
theorem Same.trans(a:Same H d)(b:Same d e):Same H e:=λc o h=>b c o<|a c o h
theorem Same.free(e:Same H a)(h:a l=N4):H l=N4:=by
 cases q:H l with
 |none=>rfl
 |some o=>
  rw[e l o q]at h;cases h
theorem Same.seq{K:B'}{H b:Hp}{a:C'}{x:ab V}(e:Same H b)(h:SqL K H a x):SqL K b a x:=by
 obtain(h|⟨o,h⟩)|h:=h
 ·exact .inl<|.inl<|e _ _ h
 ·exact .inl<|.inr ⟨o,e _ _ h⟩
 exact .inr h
end L2
namespace L2
open PySem
theorem cg(h:n<=10000):n<sizeLine:=Q_ h (by decide)
end L2
namespace TS
open PySem PyProof.Rows
structure Cm (prog:Of)(w:OE)(A:Pr)(E:M'->N8->Prop)(s:N8) where
 num:Pu->Int
 ok:Pu->Prop
 kd:mu
 lt:∀{x y:Pu} {Q:NW N6->PB->Prop} {st:PB},kindOf st=kd->ok x->ok y->Q (gV (decide (num x<num y))) st->wpS (OI prog w) A E s (lt' x y) Q st
section
variable {prog:Of}{w:OE}{A:Pr}{E:M'->N8->Prop}{s:N8}{C:Cm prog w A E s}{st:PB}{α:Type}
abbrev Cm.W(C:Cm prog w A E s)(m:V5 PB Sem α)(Q:α->PB->Prop)(st:PB):Prop:=wpS (OI prog w) A E s m Q st
noncomputable def Cm.K(C:Cm prog w A E s)(x:Qp Pu)(i:Nat):Int:=(x[i]?.map C.num).getD 0
def Cm.Oks(C:Cm prog w A E s)(x:Qp Pu):Prop:=∀p∈x.toList,C.ok p
theorem IR(h:C.Oks x)(H:i<x.size):∃p,x[i]?=gV p/\C.ok p/\C.K x i=C.num p:=
 ⟨x[i],Vf x i H,h _ (by simp),by unfold Cm.K;rw[Vf x i H];rfl⟩
theorem c9(H:a[i]?=gV p)(h:Q p st):wpS (OI prog w) A E s (Wt a i) Q st:=by
 rw[elem'_eq,H];exact O8 h
theorem cT{c:Prop} [Decidable c] {x y:V5 PB Sem α}{Q:α->PB->Prop}(h:c->wpS (OI prog w) A E s x Q st)(H:¬c->wpS (OI prog w) A E s y Q st):wpS (OI prog w) A E s (if c then x else y) Q st:=by
 split
 ·exact h ‹_›
 exact H ‹_›
noncomputable def gJ:N6->Pu->Qp Pu->Nat->Nat->Nat->V5 PB Sem (NW Nat):=sortPriv% PySem.Builtin.gallop
noncomputable def EL(left:N6)(k:Pu)(a:Qp Pu)(b i:Nat):V5 PB Sem (NW N6):=do
 let x <-Wt a (b+i)
 if left then lt' x k else
  let r <-lt' k x
  return r.map (!·)
section
variable (left:N6)(key:Pu)(arr:Qp Pu)(base n VH:Nat)
noncomputable def AF(lo h:Nat):V5 PB Sem (NW Nat):=do
 let mut lo:=lo
 let mut h:=h
 for _ in [0:n] do
  if lo>=h then break
  let m:=lo+(h-lo)/2
  let gV M <-EL left key arr base m|return N4
  if M then lo:=m+1 else h:=m
 return gV h
noncomputable def EM(m:Nat)(f:Nat->Nat)(t:N6->N6)(k:Nat->Nat->V5 PB Sem (NW Nat)):V5 PB Sem (NW Nat):=do
 let mut l:=0
 let mut o:=1
 for _ in [0:n] do
  if o>=m then break
  let gV M <-EL left key arr base (f o)|return N4
  if t M then break
  l:=o
  o:=2*o+1
 k l o
theorem uU:gJ left key arr base n VH=(do
 let gV right <-EL left key arr base VH|return N4
 if right then EM left key arr base n (n-VH) (VH+·) not λl o=>AF left key arr base n (VH+l+1) (VH+min o (n-VH))
 else EM left key arr base n (VH+1) (VH - ·) id λl o=>AF left key arr base n (VH+1-min o (VH+1)) (VH-l)):=rfl
end
section
variable {left:N6}{key:Pu}{arr:Qp Pu}{base n:Nat}{Q:NW Nat->PB->Prop}
def M5(C:Cm prog w A E s)(left:N6)(key:Pu)(arr:Qp Pu)(base n:Nat)(st:PB)(P:Nat->N6):Prop:=∀(m:Nat) (q:NW N6->PB->Prop),m<n->q (gV<|P m) st->C.W (EL left key arr base m) q st
theorem OK{l r:Nat}(g:l<r):l<=(l+r)/2/\(l+r)/2<r:=by lia
theorem L'{lo m u:Nat}(h:u<m):lo+(lo+m)-1-(lo+u)=lo+(m-1-u):=by
 rw[Nat.sub_sub,Nat.add_left_comm 1,Nat.add_sub_add_left,Nat.add_comm 1,Nat.add_sub_assoc h,Nat.sub_sub,Nat.add_comm 1]
theorem tx{l r k x m:Nat}(H:r-l<=k-x)(a:l<=m)(b:m<r):r-(m+1)<=k-(x+1)/\m-l<=k-(x+1):=⟨O6 (Nat.sub_le_sub_left (Nat.succ_le_succ a) r) (Nat.sub_le_sub_right H 1),Nat.le_sub_one_of_lt (Pb (Nat.sub_lt_sub_right a b) H)⟩
theorem IS{lo H:Nat}{P:Nat->N6}(B:M5 C left key arr base n st P)(f:∀i j,i<=j->j<n->P j=NU->P i=NU)(m:lo<=H)(o:H<=n)(p:∀i,i<lo->P i=NU)(t:∀i,H<=i->i<n->P i=NZ)
  (h:∀k,k<=n->(∀i,i<k->P i=NU)->(∀i,k<=i->i<n->P i=NZ)->Q (gV k) st):C.W (AF left key arr base n lo H) Q st:=by
 unfold AF;refine OO (Se (QW (I:=λx c q=>q=st/\∃l r,c=(N4,l,r)/\l<=r/\r<=n/\r-l<=n-x/\(∀i,i<l->P i=NU)/\(∀i,r<=i->i<n->P i=NZ))
  (Q:=λc q=>q=st/\∃l,c=(N4,l,l)/\l<=n/\(∀i,i<l->P i=NU)/\(∀i,l<=i->i<n->P i=NZ)) ?_ ?_ ⟨rfl,lo,H,rfl,m,o,O6 (hJ _ _) o,p,t⟩) ?_)
 ·rintro x c q w F ⟨rfl,l,r,rfl,u,a,v,b,d⟩;dsimp only;refine cT (λg=>O8 ?_) λg=>OO<|B _ _ (by grind) ?_
  ·obtain rfl:l=r:=Nat.le_antisymm u g
   exact⟨rfl,l,rfl,a,b,d⟩
  have q:l+(r-l)/2<r:=by lia
  have p:=tx v (UO l _) q;cases e:P (l+(r-l)/2)with
  |true=>exact O8 ⟨rfl,_,_,rfl,q,a,p.1,λi H=>by grind,d⟩
  |false=>exact O8 ⟨rfl,_,_,rfl,by simp,OQ (Pb q a),p.2,b,λi y z=>by
    cases D:P i with
    |false=>rfl
    |true=>rw[f _ i y z D]at e;cases e⟩
 ·rintro c q ⟨rfl,l,r,rfl,u,a,v,b,d⟩;obtain rfl:l=r:=by grind
  exact⟨rfl,l,rfl,a,b,d⟩
 rintro c q ⟨rfl,l,rfl,a,b,d⟩;exact O8<|h l a b d
theorem AG{k:Nat->Nat->V5 PB Sem (NW Nat)}(B:M5 C left key arr base n st P)(r:m<=n)(H:∀o,o<m->f o<n)(e:t (P<|f 0)=NZ)(i:1<=m)
  (h:∀l O,l<O->l<m->t (P<|f l)=NZ->(O<m->t (P<|f O)=NU)->C.W (k l O) Q st):C.W (EM left key arr base n m f t k) Q st:=by
 refine OO (Se (QW (I:=λx c q=>q=st/\∃l O,c=(N4,l,O)/\l<O/\x<O/\l<m/\t (P<|f l)=NZ)
  (Q:=λc q=>q=st/\∃l O,c=(N4,l,O)/\l<O/\l<m/\t (P<|f l)=NZ/\(O<m->t (P<|f O)=NU)) ?_ ?_ ⟨rfl,0,1,rfl,by simp,by simp,i,e⟩) ?_)
 ·rintro x c q _ u ⟨rfl,l,O,rfl,a,j,b,d⟩;exact cT (λg=>O8 ⟨rfl,l,O,rfl,a,b,d,λ_=>absurd g (Nat.not_le_of_lt ‹_›)⟩) λg=>OO<|B _ _ (by simp_all)<|cT (λG=>O8 ⟨rfl,l,O,rfl,a,b,d,λ_=>G⟩) λG=>O8 ⟨rfl,_,_,rfl,by lia,by lia,Nat.lt_of_not_le g,by simpa using G⟩
 ·rintro c q ⟨rfl,l,O,rfl,a,j,b,d⟩;exact⟨rfl,l,O,rfl,a,b,d,λ_=>by lia⟩
 rintro c q ⟨rfl,l,O,rfl,a,b,d,p⟩;exact h l O a b d p
theorem lD{H O i:Nat}(a:i<H+1-min O (H+1)):i<=H-O/\O<H+1:=by
 obtain h|h:=WQ O _
 ·rw[Nat.min_eq_left (OQ h),Nat.succ_sub (Nat.le_of_lt_succ h)]at a;exact⟨Nat.le_of_lt_succ a,h⟩
 simp_all
theorem lE{H O n i:Nat}(G:H<=n)(y:H+min O (n-H)<=i)(c:i<n):H+O<=i/\O<n-H:=by
 obtain h|h:=WQ O _
 ·rw[Nat.min_eq_left (OQ h)]at y;exact⟨y,h⟩
 rw[Nat.min_eq_right h,Nat.add_sub_of_le G]at y;exact absurd c (Nat.not_lt.2 y)
theorem AH(z:kindOf st=C.kd)(N:C.ok key)(r:C.Oks arr)(Z:base+n<=arr.size)(G:H<n)(B:∀i j,i<=j->j<n->C.K arr (base+i)<=C.K arr (base+j))(U:∀i,i<n->C.K arr (base+i)≠C.num key)
  (h:∀k,k<=n->(∀i,i<k->C.K arr (base+i)<C.num key)->(∀i,k<=i->i<n->C.num key<C.K arr (base+i))->Q (gV k) st):C.W (gJ left key arr base n H) Q st:=by
 have b:M5 C left key arr base n st λi=>decide (C.K arr (base+i)<C.num key):=λm o J q=>by
  obtain⟨p,L,I,e⟩:=IR r (i:=base+m) (by lia);have M:=U m J;simp only[e]at q M;refine OO<|c9 L ?_;cases left
  ·refine OO<|C.lt z N I<|O8 ?_;rw[show decide (C.num p<C.num key)=!decide (C.num key<C.num p) by rw[<-decide_not];exact R_.mpr ⟨λ_=>Int.not_lt_of_ge (hY ‹_›),λ_=>by lia⟩]at q;exact q
  exact C.lt z I N q
 have D:∀i j,i<=j->j<n->decide (C.K arr (base+j)<C.num key)=NU->decide (C.K arr (base+i)<C.num key)=true:=λi j t u g=>Ob<|Int.lt_of_le_of_lt (B i j t u)<|Oo g;have F:∀i j,i<=j->j<n->decide (C.K arr (base+i)<C.num key)=NZ->decide (C.K arr (base+j)<C.num key)=false:=λi j t u g=>by
  have:=Vp g;have:=B i j t u;exact N3 (by lia)
 have X:∀{lo a},lo<=a->a<=n->(∀i,i<lo->decide (C.K arr (base+i)<C.num key)=NU)->(∀i,a<=i->i<n->decide (C.K arr (base+i)<C.num key)=NZ)->C.W (AF left key arr base n lo a) Q st:=λv x d f=>
  IS b D v x d f λk P T W=>h k P (λi a=>Oo<|T i a) λi y c=>by
   have:=Vp<|W i y c;have:=U i c;lia
 rw[uU];refine OO<|b _ _ G ?_;dsimp only;refine cT (λe=>AG b (by simp) (by lia) (by rw[vl,e];rfl) (by grind) λl O v x d f=>?_) λe=>AG b (Nat.le_of_lt_succ (Nat.succ_lt_succ G)) (by grind) (by simpa using e) (by simp) λl O v x d f=>?_
 ·exact X (XS (Nat.le_min.2 ⟨v,x⟩) H) (O6 (XS (Nat.min_le_right _ _) H) (Nat.le_of_eq (Nat.add_sub_of_le (OQ G)))) (λi a=>D i (H+l) (Nat.le_of_lt_succ a) (Nat.add_lt_of_lt_sub' x)<|by simpa using d) λi y c=>F (H+O) i (lE (OQ G) y c).1 c (by simpa using f (lE (OQ G) y c).2)
 exact X (O6 (Nat.sub_le_sub_left (Nat.le_min.2 ⟨v,x⟩) (H+1)) (Nat.le_of_eq (Nat.succ_sub_succ H l))) (OQ (Q_ (hJ _ _) G)) (λi a=>D i _ (lD a).1 (Q_ (hJ _ _) G)<|f (lD a).2) λi y c=>F _ i y c d
end
end
abbrev R:=Qp Pu
abbrev S:=V5 PB Sem
noncomputable def AI(g:Nat):S Xf:=kz λst=>Vy (kindOf st) (O9 st) (Pc st) g<|Q7 st
structure Sd where
 arr:R
 ia:Nat->Nat
 na:Nat->Nat
 gal:N6->Pu->Nat->S (NW Nat)
 kk:Nat->Nat->Nat
 ex:Nat->Nat->R
 nx:Nat->Nat->Nat
 v:Nat->ab Pu
structure Mg where
 T:Type->Type
 m:{X:Type}->NW R->R->Nat->Nat->X->T X
 r:{X:Type}->T X->NW R
 o:{X:Type}->T X->R
 i:{X:Type}->T X->Nat
 j:{X:Type}->T X->Nat
 x:{X:Type}->T X->X
 a:Sd
 b:Sd
 sel:{β:Type}->N6->S β->S β->S β
 don:R->Nat->Nat->R
 pa:{β:Type}->R->Nat->Nat->(R->S β)->S β->S β
 pb:{β:Type}->R->Nat->Nat->(R->S β)->S β->S β
 ta:{β:Type}->R->Nat->Nat->(R->S β)->S β->S β
 tb:{β:Type}->R->Nat->Nat->(R->S β)->S β->S β
 n:Nat
noncomputable def Mg.in1(M:Mg)(g:Nat)(c:M.T (Nat×Nat)):S (Sw<|M.T<|Nat×Nat):=do
 let q <-Wt M.b.arr (M.b.ia<|M.j c)
 let p <-Wt M.a.arr (M.a.ia<|M.i c)
 let gV w <-lt' q p|return .done (M.m (gV<|M.don (M.o c) (M.i c)<|M.j c) (M.o c) (M.i c) (M.j c)<|M.x c)
 M.sel w (do
   let p <-Wt M.a.arr (M.a.ia<|M.i c)
   M.pa ((M.o c).push p) (M.a.na<|M.i c) (M.j c) (λx=>return .done<|M.m (gV x) ((M.o c).push p) (M.a.na<|M.i c) (M.j c) ((M.x c).1+1,0))
    (if(M.x c).1+1>=g then return .done (M.m N4 ((M.o c).push p) (M.a.na<|M.i c) (M.j c) ((M.x c).1+1,0))else return .yield (M.m N4 ((M.o c).push p) (M.a.na<|M.i c) (M.j c) ((M.x c).1+1,0))))
  (do
   let q <-Wt M.b.arr (M.b.ia<|M.j c)
   M.pb ((M.o c).push q) (M.i c) (M.b.na<|M.j c) (λx=>return .done<|M.m (gV x) ((M.o c).push q) (M.i c) (M.b.na<|M.j c) (0,(M.x c).2+1))
    (if(M.x c).2+1>=g then return .done (M.m N4 ((M.o c).push q) (M.i c) (M.b.na<|M.j c) (0,(M.x c).2+1))else return .yield (M.m N4 ((M.o c).push q) (M.i c) (M.b.na<|M.j c) (0,(M.x c).2+1))))
section
variable (M:Mg)(mg ac bc:Nat)(o:R)(i j:Nat)
noncomputable def Mg.gC:S (Sw<|M.T<|Nat×Nat×Nat):=do
 let p <-Wt M.a.arr (M.a.ia i)
 M.pa (o.push p) (M.a.na i) j (λx=>return .done<|M.m (gV x) (o.push p) (M.a.na i) j (mg,ac,bc))
  (if(decide (ac<7)&&decide (bc<7))=NU then return .done (M.m N4 (o.push p) (M.a.na i) j (mg,ac,bc))else return .yield (M.m N4 (o.push p) (M.a.na i) j (mg,ac,bc)))
noncomputable def Mg.gB:S (Sw<|M.T<|Nat×Nat×Nat):=do
 let q <-Wt M.b.arr (M.b.ia j)
 M.pb (o.push q) i (M.b.na j) (λx=>return .done<|M.m (gV x) (o.push q) i (M.b.na j) (mg,ac,bc)) (do
  let gV u <-M.b.gal NU (<-Wt M.a.arr<|M.a.ia i) (M.b.na j)|return .done (M.m (gV<|M.don (o.push q) i<|M.b.na j) (o.push q) i (M.b.na j) (mg,ac,bc))
  if M.b.kk (M.b.na j) u>0 then
   M.tb (o.push q++M.b.ex (M.b.na j) u) i (M.b.nx (M.b.na j) u) (λx=>return .done<|M.m (gV x) (o.push q++M.b.ex (M.b.na j) u) i (M.b.nx (M.b.na j) u) (mg,ac,M.b.kk (M.b.na j) u))
    (M.gC mg ac (M.b.kk (M.b.na j) u) (o.push q++M.b.ex (M.b.na j) u) i<|M.b.nx (M.b.na j) u)
  else M.gC mg ac (M.b.kk (M.b.na j) u) (o.push q) i (M.b.na j))
noncomputable def Mg.gA:S (Sw<|M.T<|Nat×Nat×Nat):=do
 AI mg
 let gV u <-M.a.gal NZ (<-Wt M.b.arr<|M.b.ia j) i|return .done (M.m (gV<|M.don o i j) o i j (mg,ac,bc))
 if M.a.kk i u>0 then
  M.ta (o++M.a.ex i u) (M.a.nx i u) j (λx=>return .done<|M.m (gV x) (o++M.a.ex i u) (M.a.nx i u) j (mg,M.a.kk i u,bc))
   (M.gB mg (M.a.kk i u) bc (o++M.a.ex i u) (M.a.nx i u) j)
 else M.gB mg (M.a.kk i u) bc o i j
noncomputable def Mg.out(c:M.T Nat):S (Sw<|M.T Nat):=do
 let d <-forIn [0:M.n] (M.m N4 (M.o c) (M.i c) (M.j c) (0,0)) λ_=>M.in1 (M.x c)
 match M.r d with
 |some r=>return .done<|M.m (gV r) (M.o d) (M.i d) (M.j d)<|M.x c
 |none=>
  rule "list.sort.gallop"
  let C <-forIn [0:M.n] (M.m N4 (M.o d) (M.i d) (M.j d) (M.x c+1,M.x d)) λ_ c=>
   if(M.x c).1>1 then M.gA ((M.x c).1-1) (M.x c).2.1 (M.x c).2.2 (M.o c) (M.i c) (M.j c)else M.gA (M.x c).1 (M.x c).2.1 (M.x c).2.2 (M.o c) (M.i c) (M.j c)
  match M.r C with
  |some r=>return .done<|M.m (gV r) (M.o C) (M.i C) (M.j C) (M.x C).1
  |none=>
   AI ((M.x C).1+1)
   return .yield (M.m N4 (M.o C) (M.i C) (M.j C)<|(M.x C).1+1)
noncomputable def Mg.run:S R:=do
 let c <-forIn [0:M.n] (M.m N4 o i j<|gallopOf (<-get)) λ_=>M.out
 match M.r c with
 |some r=>return r
 |none=>unsupported "internal:list.sort.merge-bound"
end
noncomputable def M6(a:R):Sd where
 arr:=a
 ia:=λi=>i
 na:=λi=>i+1
 gal:=λl q i=>gJ l q a i (a.size-i) 0
 kk:=λ_ u=>u
 ex:=λi u=>a.extract i (i+u)
 nx:=λi u=>i+u
 v:=λi=>a.toList.drop i
noncomputable def Mw(a:R):Sd where
 arr:=a
 ia:=λi=>i-1
 na:=λi=>i-1
 gal:=λl q i=>gJ l q a 0 i (i-1)
 kk:=λi u=>i-u
 ex:=λi u=>(a.extract u i).reverse
 nx:=λ_ u=>u
 v:=λi=>(a.toList.take i).reverse
noncomputable def GH(a b o:R)(i j:Nat):R:=o++a.extract i a.size++b.extract j b.size
noncomputable def Kj(a b o:R)(i j:Nat):R:=o++b.extract j b.size++a.extract i a.size
noncomputable def Ed(a b:R):Mg where
 T:=λX=>NW R×R×Nat×Nat×X
 m:=λr o i j x=>(r,o,i,j,x)
 r:=λc=>c.1
 o:=λc=>c.2.1
 i:=λc=>c.2.2.1
 j:=λc=>c.2.2.2.1
 x:=λc=>c.2.2.2.2
 a:=M6 a
 b:=M6 b
 sel:=λw x y=>if w=NU then y else x
 don:=GH a b
 pa:=λo i j f k=>if(i+1 == a.size)=NU then f (Kj a b o i j)else k
 pb:=λo i j f k=>if(j == b.size)=NU then f (GH a b o i j)else k
 ta:=λo i j f k=>if(i+1 == a.size)=NU then f (Kj a b o i j)else if(i == a.size)=NU then f (GH a b o i j)else k
 tb:=λo i j f k=>if(j == b.size)=NU then f (GH a b o i j)else k
 n:=a.size+b.size
noncomputable def GI(a b o:R)(i j:Nat):R:=a.extract 0 i++b.extract 0 j++o.reverse
noncomputable def Kk(a b o:R)(i j:Nat):R:=b.extract 0 j++a.extract 0 i++o.reverse
noncomputable def AJ(a b:R):Mg where
 T:=λX=>NW R×Nat×Nat×R×X
 m:=λr o i j x=>(r,i,j,o,x)
 r:=λc=>c.1
 o:=λc=>c.2.2.2.1
 i:=λc=>c.2.1
 j:=λc=>c.2.2.1
 x:=λc=>c.2.2.2.2
 a:=Mw a
 b:=Mw b
 sel:=λw x y=>if w=NU then x else y
 don:=GI a b
 pa:=λo i j f k=>if(i == 0)=NU then f (GI a b o i j)else k
 pb:=λo i j f k=>if(j == 1)=NU then f (Kk a b o i j)else k
 ta:=λo i j f k=>if(i == 0)=NU then f (GI a b o i j)else k
 tb:=λo i j f k=>if(j == 1)=NU then f (Kk a b o i j)else if(j == 0)=NU then f (GI a b o i j)else k
 n:=a.size+b.size
noncomputable def M7:R->R->S R:=sortPriv% PySem.Builtin.mergeLo
noncomputable def M8:R->R->S R:=sortPriv% PySem.Builtin.mergeHi
theorem IT(a b:R):M7 a b=(do
 rule "list.sort.merge-lo"
 let q <-Wt b 0
 if(1 == b.size)=NU then return GH a b #[q] 0 1
 else if(0+1 == a.size)=NU then return Kj a b #[q] 0 1
 else(Ed a b).run #[q] 0 1):=by kernel_rfl
theorem IU(a b:R):M8 a b=(do
 rule "list.sort.merge-hi"
 let p <-Wt a (a.size-1)
 if(a.size-1 == 0)=NU then return GI a b #[p] (a.size-1) b.size
 else if(b.size == 1)=NU then return Kk a b #[p] (a.size-1) b.size
 else(AJ a b).run #[p] (a.size-1) b.size):=by kernel_rfl
structure MI (r:Pu->Pu->Prop)(z o x y:ab Pu):Prop where
 p:(o++(x++y)).Perm z
 u:(o++x).Pairwise r
 v:(o++y).Pairwise r
theorem MI.sw(h:MI r z o x y):MI r z o y x:=⟨(List.perm_append_comm.append_left o).trans h.p,h.v,h.u⟩
theorem MI.ta(T:∀a b c,r a b->r b c->r a c)(h:MI r z o (t++x) (q::y))(g:∀c∈t,r c q):MI r z (o++t) x (q::y):=by
 have u:=h.u;rw[<-OX]at u;have v:=P_.mp h.v;refine⟨by simpa using h.p,u,P_.mpr ⟨(P_.mp u).1,v.2.1,λc H d e=>?_⟩⟩;obtain H|H:=OB.mp H
 ·exact v.2.2 c H d e
 obtain rfl|e:=Oz.mp e
 ·exact g c H
 exact T _ _ _ (g c H)<|VI v.2.1 e
section
variable {C:Cm prog w A E s}{r:Pu->Pu->Prop}{z:ab Pu}{st:PB}{M:Mg}{la lb:Nat}{α:Type}
theorem AK{prog:Of}{w:OE}{A:Pr}{E:M'->N8->Prop}{s:N8}(h:Q () (Vy (kindOf st) (O9 st) (Pc st) g<|Q7 st)):wpS (OI prog w) A E s (AI g) Q st:=WI h
structure EN (C:Cm prog w A E s)(r:Pu->Pu->Prop)(D:Sd):Prop where
 at_:∀{i p t},i<=D.arr.size->D.v i=p::t->D.arr[D.ia i]?=gV p/\D.v (D.na i)=t/\D.na i<=D.arr.size
 gal:∀{l q i Q st},i<=D.arr.size->kindOf st=C.kd->C.ok q->D.v i≠[]->(∀c∈D.v i,C.num c≠C.num q)->
  (∀u,D.nx i u<=D.arr.size->D.v i=(D.ex i u).toList++D.v (D.nx i u)->(∀c∈(D.ex i u).toList,r c q)->(∀c∈D.v (D.nx i u),r q c)->(¬D.kk i u>0->(D.ex i u).toList=[])->Q (gV u) st)->C.W (D.gal l q i) Q st
def sJ(C:Cm prog w A E s)(z:ab Pu)(x:R):Prop:=x.toList.Perm z/\x.toList.Pairwise λa b=>C.num a<C.num b
structure MS (M:Mg)(r:Pu->Pu->Prop)(z:ab Pu)(o:R)(i j:Nat):Prop where
 m:MI r z o.toList (M.a.v i) (M.b.v j)
 i:i<=M.a.arr.size
 j:j<=M.b.arr.size
structure IV (C:Cm prog w A E s)(M:Mg)(r:Pu->Pu->Prop)(z:ab Pu)(la lb:Nat):Prop where
 er:∀{X e o i j} {x:X},M.r (M.m e o i j x)=e
 eo:∀{X e o i j} {x:X},M.o (M.m e o i j x)=o
 ei:∀{X e o i j} {x:X},M.i (M.m e o i j x)=i
 ej:∀{X e o i j} {x:X},M.j (M.m e o i j x)=j
 ex:∀{X e o i j} {x:X},M.x (M.m e o i j x)=x
 n:M.n=z.length
 tr:∀a b c,r a b->r b c->r a c
 nd:(z.map C.num).Nodup
 ok:∀c∈z,C.ok c
 a:EN C r M.a
 b:EN C r M.b
 l1:1<=la
 l2:1<=lb
 sel:∀{α p q} {x y:S α} {Q st},C.num p≠C.num q->(r p q->C.W x Q st)->(r q p->C.W y Q st)->C.W (M.sel (decide (C.num q<C.num p)) x y) Q st
 pa:∀{α o i j} {f:R->S α} {k Q st},MS M r z o i j->la<=(M.a.v i).length+1->(∀x,sJ C z x->C.W (f x) Q st)->(la<=(M.a.v i).length->C.W k Q st)->C.W (M.pa o i j f k) Q st
 pb:∀{α o i j} {f:R->S α} {k Q st},MS M r z o i j->lb<=(M.b.v j).length+1->(∀x,sJ C z x->C.W (f x) Q st)->(lb<=(M.b.v j).length->C.W k Q st)->C.W (M.pb o i j f k) Q st
 ta:∀{α o i j} {f:R->S α} {k Q st},MS M r z o i j->(∀x,sJ C z x->C.W (f x) Q st)->(la<=(M.a.v i).length->C.W k Q st)->C.W (M.ta o i j f k) Q st
 tb:∀{α o i j} {f:R->S α} {k Q st},MS M r z o i j->(∀x,sJ C z x->C.W (f x) Q st)->(lb<=(M.b.v j).length->C.W k Q st)->C.W (M.tb o i j f k) Q st
structure Iv (M:Mg)(r:Pu->Pu->Prop)(z:ab Pu)(la lb:Nat)(n:Nat)(o:R)(i j:Nat):Prop where
 m:MS M r z o i j
 a:la<=(M.a.v i).length
 b:lb<=(M.b.v j).length
 n:(M.a.v i).length+(M.b.v j).length+n<=z.length
theorem MI.ne(h:MI r z o x y)(n:(z.map C.num).Nodup)(H:c∈x)(a:q∈y):C.num c≠C.num q:=by
 have:=(h.p.map _).nodup_iff.mpr n;rw[Oy,Oy]at this;exact(Qi.mp (Qi.mp this).2.1).2.2 _ (P4 H) _<|P4 a
theorem pD{l:ab Pu}{n:Nat}(H:1<=n)(h:n<=l.length):∃p t,l=p::t:=by
 cases l with
 |nil=>simp_all
 |cons p t=>exact⟨p,t,rfl⟩
def Go(C:Cm prog w A E s)(M:Mg)(r:Pu->Pu->Prop)(z:ab Pu)(la lb n:Nat){X:Type}(c:M.T X):Prop:=(∃x,M.r c=gV x/\sJ C z x)\/∃o i j e,c=M.m N4 o i j e/\Iv M r z la lb n o i j
variable (K:IV C M r z la lb)
include K
theorem AL(m:MS M r z o i j)(e:M.a.v i=p::t)(a:M.b.v j=q::u)(g:r p q):MS M r z (o.push p) (M.a.na i) j:=by
 obtain⟨y,c,d⟩:=K.a.at_ m.i e;have b:=m.m;refine⟨?_,d,m.j⟩;rw[c,V1,a];rw[e,a]at b;exact MI.ta K.tr b (by simpa using g)
theorem AM(m:MS M r z o i j)(e:M.a.v i=p::t)(a:M.b.v j=q::u)(g:r q p):MS M r z (o.push q) i (M.b.na j):=by
 obtain⟨y,c,d⟩:=K.b.at_ m.j a;have b:=m.m;refine⟨?_,m.i,d⟩;rw[c,V1,e];rw[e,a]at b;exact(MI.ta K.tr b.sw<|by simpa using g).sw
theorem Mx(I:Iv M r z la lb n o i j):∃p t q u,M.a.v i=p::t/\M.b.v j=q::u/\C.ok p/\C.ok q/\C.num p≠C.num q/\M.a.arr[M.a.ia i]?=gV p/\M.b.arr[M.b.ia j]?=gV q/\M.a.v (M.a.na i)=t/\M.b.v (M.b.na j)=u:=by
 obtain⟨p,t,e⟩:=pD K.l1 I.a;obtain⟨q,u,a⟩:=pD K.l2 I.b;exact⟨p,t,q,u,e,a,K.ok p (I.m.m.p.mem_iff.mp<|by simp[e]),K.ok q (I.m.m.p.mem_iff.mp<|by simp[a]),I.m.m.ne K.nd (by simp[e]) (by simp[a]),(K.a.at_ I.m.i e).1,(K.b.at_ I.m.j a).1,(K.a.at_ I.m.i e).2.1,(K.b.at_ I.m.j a).2.1⟩
theorem KW(B:kindOf st=C.kd)(I:Iv M r z la lb n o i j):C.W (M.in1 J<|M.m N4 o i j e) (λx Q=>Q=st/\match x with|.done c=>Go C M r z la lb (n+1) c|.yield c=>∃o i j e,c=M.m N4 o i j e/\Iv M r z la lb (n+1) o i j) st:=by
 obtain⟨p,t,q,u,b,d,O,D,F,G,k,N,l⟩:=Mx K I;have H:=I.n;have v:=I.a;have y:=I.b;rw[b]at H v;rw[d]at H y;rw[Os]at H v y;rw[Os]at H;unfold Mg.in1;rw[K.eo,K.ei,K.ej];refine OO<|c9 k<|OO<|c9 G<|OO<|C.lt B D O<|K.sel F (λg=>?_) λg=>?_
 ·refine OO<|c9 G ?_;have m:=AL K I.m b d g;refine K.pa m (by simp_all) (λx f=>O8 ⟨rfl,.inl ⟨x,K.er,f⟩⟩) λh=>?_;have a:Iv M r z la lb (n+1) _ _ j:=⟨m,h,I.b,by rw[N,d,Os];lia⟩;exact cT (λw=>O8 ⟨rfl,.inr ⟨_,_,_,_,rfl,a⟩⟩) λw=>O8 ⟨rfl,_,_,_,_,rfl,a⟩
 refine OO<|c9 k ?_;have m:=AM K I.m b d g;refine K.pb m (by simp_all) (λx f=>O8 ⟨rfl,.inl ⟨x,K.er,f⟩⟩) λh=>?_;have a:Iv M r z la lb (n+1) _ i _:=⟨m,I.a,h,by rw[l,b,Os];lia⟩;exact cT (λw=>O8 ⟨rfl,.inr ⟨_,_,_,_,rfl,a⟩⟩) λw=>O8 ⟨rfl,_,_,_,_,rfl,a⟩
def fD(st Q:PB):Prop:=kindOf Q=kindOf st/\O9 Q=O9 st/\Pc Q=Pc st/\Q7 Q=Q7 st
abbrev IW(C:Cm prog w A E s)(M:Mg)(r:Pu->Pu->Prop)(z:ab Pu)(la lb n:Nat)(st:PB){X:Type}(x:Sw (M.T X))(Q:PB):Prop:=fD st Q/\match x with|.done c=>Go C M r z la lb n c|.yield c=>∃o i j e,c=M.m N4 o i j e/\Iv M r z la lb n o i j
theorem KY(H:fD a st)(I:Iv M r z la lb n o i j)(g:∀p q t u,M.a.v i=p::t->M.b.v j=q::u->r p q):C.W (M.gC v y B o i j) (IW C M r z la lb n a) st:=by
 obtain⟨p,t,q,u,e,b,w,w,w,G,D,c,w⟩:=Mx K I;have f:=I.a;have k:=I.n;rw[e,Os]at f k;have m:=AL K I.m e b<|g p q t u e b;refine OO<|c9 G<|K.pa m (by simp_all) (λx l=>O8 ⟨H,.inl ⟨x,K.er,l⟩⟩) λh=>?_;have d:Iv M r z la lb n _ _ j:=⟨m,h,I.b,by rw[c];lia⟩;exact cT (λw=>O8 ⟨H,.inr ⟨_,_,_,_,rfl,d⟩⟩) λw=>O8 ⟨H,_,_,_,_,rfl,d⟩
theorem KZ(F:kindOf a=C.kd)(H:fD a st)(I:Iv M r z la lb n o i j)(g:∀p q t u,M.a.v i=p::t->M.b.v j=q::u->r q p):C.W (M.gB mg ac bc o i j) (IW C M r z la lb n a) st:=by
 obtain⟨p,t,q,u,e,d,O,w,w,J,L,w,f⟩:=Mx K I;have N:=I.b;have P:=I.n;rw[d,Os]at N P;have m:=AM K I.m e d<|g p q t u e d;refine OO<|c9 L<|K.pb m (by simp_all) (λx k=>O8 ⟨H,.inl ⟨x,K.er,k⟩⟩) λh=>?_;have T:∀c∈M.b.v _,C.num c≠C.num p:=λc U=>(m.m.ne K.nd (by simp[e]) U).symm;refine OO<|c9 J<|OO<|K.b.gal m.j (H.1.trans F) O (λz=>by rw[z]at h;exact absurd (O6 K.l2 h)<|by decide) T λu W G X v Y=>?_;have y:=OY P3 G;rw[NX]at y;refine cT (λw=>?_) λZ=>?_
 ·have B:MS M r z (o.push q++M.b.ex (M.b.na j) u) i (M.b.nx (M.b.na j) u):=by
   have D:=m.m;refine⟨?_,m.i,W⟩;rw[Tf];rw[e,G]at D;rw[e];exact(MI.ta K.tr D.sw X).sw
  refine K.tb B (λx k=>O8 ⟨H,.inl ⟨x,K.er,k⟩⟩) λh2=>KY K H ⟨B,I.a,h2,by lia⟩ λp' Q t' u' b l=>?_;simp_all
 rw[Y Z,Tz]at G;refine KY K H ⟨m,I.a,h,by rw[f];lia⟩ λp' Q t' u' b l=>?_;rw[e]at b;cases b;exact v Q (by simp[<-G,l])
theorem K0(H:kindOf a=C.kd)(d:fD a st)(I:Iv M r z la lb n o i j):C.W (M.gA l Z bc o i j) (IW C M r z la lb n a) st:=by
 obtain⟨p,t,q,u,v,e,op,O,w,gp,y,w⟩:=Mx K I;have hn:=I.n;have N:∀c∈M.a.v i,C.num c≠C.num q:=λc B=>I.m.m.ne K.nd B (by simp[e]);refine OO<|AK<|OO<|c9 y<|OO<|K.a.gal I.m.i (d.1.trans H) O (by simp[v]) N λu D g F G J=>?_;have h:=d;have L:=OY P3 g;rw[NX]at L;refine cT (λw=>?_) λQ=>?_
 ·have k:MS M r z (o++M.a.ex i u) (M.a.nx i u) j:=by
   have m:=I.m.m;refine⟨?_,D,I.m.j⟩;rw[Tf];rw[e,g]at m;rw[e];exact MI.ta K.tr m F
  refine K.ta k (λx T=>O8 ⟨d,.inl ⟨x,K.er,T⟩⟩) λU=>KZ K H h ⟨k,U,I.b,by lia⟩ λP W X Y f b=>?_;simp_all
 rw[J Q]at g;refine KZ K H h I λP W X Y f b=>?_;simp_all
theorem GJ(k:kindOf st=C.kd)(I:Iv M r z la lb 1 o i j)(q:∀x a,fD st a->sJ C z x->Q x a):C.W (M.run o i j) Q st:=by
 have B:∀{n o i j},Iv M r z la lb n o i j->n<z.length:=λI=>by
  have:=I.a;have:=I.n;have:=K.l1;lia
 refine OO<|VS<|OO<|Se (QW (I:=λx c a=>fD st a/\∃o i j e,c=M.m N4 o i j e/\Iv M r z la lb (x+1) o i j) (Q:=λc a=>fD st a/\∃x,M.r c=gV x/\sJ C z x) ?_ ?_ ⟨⟨rfl,rfl,rfl,rfl⟩,_,_,_,_,rfl,I⟩) ?_
 ·rintro n c a y p ⟨g,o,i,j,e,rfl,I⟩;unfold Mg.out;rw[K.eo,K.ei,K.ej];refine OO<|Se (QW (I:=λx c b=>b=a/\∃o i j e,c=M.m N4 o i j e/\Iv M r z la lb (n+1+x) o i j) (Q:=λc b=>b=a/\Go C M r z la lb (n+2) c) ?_ ?_ ⟨rfl,_,_,_,_,rfl,I⟩) ?_
  ·rintro x c b y d ⟨rfl,o,i,j,e,rfl,I⟩;refine Se (KW K (g.1.trans k) I) ?_;rintro (c|c) Z ⟨rfl,h⟩
   ·refine⟨rfl,h.imp id (by rintro ⟨o,i,j,e,l,f⟩;exact ⟨o,i,j,e,l,f.m,f.a,f.b,by have:=f.n;lia⟩)⟩
   exact⟨rfl,h⟩
  ·rintro c b ⟨y,o,i,j,e,rfl,I⟩;have:=B I;have:=K.n;lia
  rintro c b ⟨rfl,⟨x,e,d⟩|⟨o,i,j,e,rfl,I⟩⟩
  ·rw[e];exact O8 ⟨g,x,K.er,d⟩
  rw[K.er];refine OO<|Xq<|R3 ⟨rfl,?_⟩;rw[K.eo,K.ei,K.ej];refine OO<|Se (QW (I:=λy c Z=>fD st Z/\∃o i j e,c=M.m N4 o i j e/\Iv M r z la lb _ o i j) (Q:=λc Z=>fD st Z/\Go C M r z la lb _ c) ?_ (by rintro y y ⟨l,f⟩;exact ⟨l,.inr f⟩) ⟨g,_,_,_,_,rfl,I⟩) ?_
  ·rintro x c Z y y ⟨H,o,i,j,e,rfl,I⟩;rw[K.eo,K.ei,K.ej];refine cT (λy=>Se (K0 K k H I) ?_) λy=>Se (K0 K k H I) ?_<;>(rintro (c|c) m h<;>exact h)
  rintro c Z ⟨H,⟨x,e,d⟩|⟨o,i,j,e,rfl,I⟩⟩
  ·rw[e];exact O8 ⟨H,x,K.er,d⟩
  rw[K.er];refine OO<|AK<|O8 ⟨H,_,_,_,_,rfl,?_⟩;rwa[K.eo,K.ei,K.ej]
 ·rintro c a ⟨y,o,i,j,e,rfl,I⟩;have:=B I;have:=K.n;lia
 rintro c a ⟨g,x,e,d⟩;rw[e];exact O8<|q x a g d
end
section
variable {C:Cm prog w A E s}{z o x y:ab Pu}{st:PB}{a b:R}
theorem MI.end1(h:MI r z o x y)(e:x=[]\/y=[]):(o++(x++y)).Pairwise r:=by
 obtain rfl|rfl:=e
 ·exact h.v
 simpa using h.u
theorem MI.end2{p:Pu}(t:∀a b c,r a b->r b c->r a c)(h:MI r z o [p] y)(g:∀c∈y,r c p):(o++(y++[p])).Pairwise r:=by
 have H:=h.sw;rw[<-Pd y]at H;simpa using(MI.ta t H g).v
abbrev Cm.lo(C:Cm prog w A E s)(x y:Pu):Prop:=C.num x<C.num y
theorem uV(e:a.toList=P++(x++T))(h:i<x.length):C.K a (P.length+i)=C.num x[i]:=by
 unfold Cm.K;rw[<-Qe,e,Ow (UO ..),Wu,OA h,K' h];rfl
theorem wC{l:N6}{Q:NW Nat->PB->Prop}(e:a.toList=P++(x++T))(B:u=P.length)(D:n=x.length)(F:C.Oks a)(G:x.Pairwise C.lo)(I:kindOf st=C.kd)(J:C.ok q)(L:H<n)(U:∀c∈x,C.num c≠C.num q)
  (h:∀k,k<=n->(∀c∈x.take k,C.lo c q)->(∀c∈x.drop k,C.lo q c)->Q (gV k) st):C.W (gJ l q a u n H) Q st:=by
 subst B D;have M:=OY P3 e;simp only[OL]at M;refine AH I J F (by simp_all) L (λi j f d=>?_) (λi v=>?_) λk f d N=>h k f (λc p=>?_) λc p=>?_
 ·rw[uV e d,uV e<|Q_ f d];obtain e|g:=Vz f
  ·subst e;exact T5 _
  exact hY<|Q6.mp G i j _ d g
 ·rw[uV e v];exact U _<|Rb v
 ·obtain⟨m,r,t⟩:=Rq p;rw[OC]at r;have:=d m (by simp_all);rw[uV e<|by exact Pb r (UN _ _)]at this;rwa[<-t,VX]
 obtain⟨m,r,t⟩:=Rq p;rw[P7]at r;have:=N (k+m) (by simp) (by lia);rw[uV e<|by lia]at this;rwa[<-t,List.getElem_drop]
theorem gX{prog:Of}{w:OE}{A:Pr}{E:M'->N8->Prop}{s:N8}{c:Type}{i n:Nat}{x y:S c}{Q:c->PB->Prop}(h:i=n->wpS (OI prog w) A E s x Q st)(H:¬i=n->wpS (OI prog w) A E s y Q st):wpS (OI prog w) A E s (if(i == n)=NU then x else y) Q st:=
 cT (λe=>h<|by simpa using e) λe=>H (by simpa using e)
theorem pE(i k:Nat):(a.extract i<|i+k).toList=(a.toList.drop i).take k:=by
 simp
theorem AN(f:C.Oks a)(g:a.toList.Pairwise C.lo):EN C C.lo (M6 a) where
 at_:=λ{i p t} y e=>by
  have d:a.toList.drop i=p::t:=e;have h:=OY (·[0]?) d;simp at h;exact⟨h,by show a.toList.drop (i+1)=t;rw[<-List.tail_drop,d];rfl,(Array.getElem?_eq_some_iff.mp h).1⟩
 gal:=λ{l q i Q st} H j m v U h=>by
  have H:i<=a.size:=H;have D:i≠a.size:=λz=>v (Rv<|by simp_all);refine wC (P:=a.toList.take i) (T:=[]) (by simp) (by simp_all) (by simp) f (g.sublist (VY ..)) j m (Nat.sub_pos_of_lt (Nat.lt_of_le_of_ne H D)) U λk F n r=>h k (by show i+k<=a.size;grind) ?_ (pE i k▸n) (λc u=>r c<|by rwa[VD]) λB=>?_
  ·show a.toList.drop i=(a.extract i<|i+k).toList++a.toList.drop (i+k)
   rw[pE,<-VD,PZ]
  obtain rfl:k=0:=WR B;exact pE i 0
theorem AO(n:C.Oks a)(r:a.toList.Pairwise C.lo):EN C (λx y=>C.lo y x) (Mw a) where
 at_:=λ{i p t} H e=>by
  have H:i<=a.size:=H;have h:=OY vb (show(a.toList.take i).reverse=p::t from e);rw[UW,Y4]at h;cases i with
  |zero=>simp at h
  |succ i=>
   rw[Uk<|by simpa using by exact Pb (Sg _) H]at h;obtain⟨j,f⟩:=List.append_inj' h rfl;refine⟨?_,?_,Y3 H⟩
   ·show a[i]?=gV p
    rw[Vf a i<|by exact Pb (Sg _) H];simpa using f
   show(a.toList.take i).reverse=t
   rw[j,UW]
 gal:=λ{l q i Q st} H u v B U h=>by
  have H:i<=a.size:=H;have F:i≠0:=λz=>B (by subst z;rfl);refine wC (P:=[]) (T:=a.toList.drop i) (by simp) rfl (by simpa using by exact Eq.symm (W1 H)) n (r.sublist (SE ..)) u v (by lia) (λc d=>U c<|UP.mpr d) λk j f m=>?_;have g:=pE (a:=a) k<|i-k;rw[show k+(i-k)=i by exact Nat.add_sub_of_le j]at g;rw[List.drop_take]at m;rw[Uj,show min k i=k by exact W1 j]at f;refine h k (O6 j H) ?_ (λc d=>m c<|by simpa[Mw]using d) (λc d=>f c<|UP.mp d) λD=>?_
  ·show(a.toList.take i).reverse=(a.extract k i).reverse.toList++(a.toList.take k).reverse
   rw[XB,<-List.reverse_append,g,<-List.take_add,show k+(i-k)=i by exact Nat.add_sub_of_le j]
  show(a.extract k i).reverse.toList=[]
  rw[XB,g,show i-k=0 from WR D];rfl
theorem K1(p:R)(i j:Nat):(GH a b p i j).toList=p.toList++(a.toList.drop i++b.toList.drop j):=by
 simp[GH,Od]
theorem K2(p:R)(i j:Nat):(Kj a b p i j).toList=p.toList++(b.toList.drop j++a.toList.drop i):=by
 simp[Kj,Od]
theorem K3(p:R):(GI a b p i j).toList=(p.toList++((b.toList.take j).reverse++(a.toList.take i).reverse)).reverse:=by
 simp[GI]
theorem K4(p:R):(Kk a b p i j).toList=(p.toList++((a.toList.take i).reverse++(b.toList.take j).reverse)).reverse:=by
 simp[Kk]
section
variable (ka:C.Oks a)(kb:C.Oks b)(sa:a.toList.Pairwise C.lo)(sb:b.toList.Pairwise C.lo)(nd:((a.toList++b.toList).map C.num).Nodup)
include ka kb sa sb nd
theorem IX(g:∀c∈b.toList,∀p∈a.toList.drop (a.size-1),C.lo c p):IV C (Ed a b) C.lo (a.toList++b.toList) 2 1:=by
 have l:∀i,((Ed a b).a.v i).length=a.size-i:=λi=>by show(a.toList.drop i).length=_;simp
 have f:∀j,((Ed a b).b.v j).length=b.size-j:=λj=>by show(b.toList.drop j).length=_;simp
 have D:∀{o i j},MS (Ed a b) C.lo (a.toList++b.toList) o i j->(i=a.size\/j=b.size)->sJ C (a.toList++b.toList) (GH a b o i j):=λ{o i j} m e=>by
  unfold sJ;rw[K1];exact⟨m.m.p,m.m.end1<|e.imp (λe=>P2.mp<|by simp_all) λe=>P2.mp<|by simp_all⟩
 have L:∀{o i j},MS (Ed a b) C.lo (a.toList++b.toList) o i j->i+1=a.size->sJ C (a.toList++b.toList) (Kj a b o i j):=λ{o i j} m e=>by
  have d:=QB (l:=a.toList) (i:=i) (Pb (Sg _) (Ui e));rw[Rv (l:=a.toList) (i:=i+1)<|by simpa using by exact Ui (Eq.symm e)]at d;have M:MI C.lo (a.toList++b.toList) o.toList (a.toList.drop i) (b.toList.drop j):=m.m;unfold sJ;rw[K2,d];rw[d]at M;exact⟨M.sw.p,M.end2 (λw w w=>Rw) λc k=>g c (SO k) _<|by rw[show a.size-1=i by lia,d];exact N9.mpr rfl⟩
 refine⟨rfl,rfl,rfl,rfl,rfl,by simp[Ed],λw w w=>Rw,nd,λc k=>(OB.mp k).elim (ka c)<|kb c,AN ka sa,AN kb sb,by simp,by simp,λ{u p q x y Q st} N r t=>?_,λm n H h=>?_,λm n H h=>?_,λm H h=>?_,λm H h=>?_⟩
 ·exact cT (λe=>t<|Oo e) λe=>r<|(Yx<|rk.mp λz=>e<|Ob z).resolve_right N
 ·rw[l]at n h;exact gX (λe=>H _<|L m e) λe=>h (by lia)
 ·rw[f]at h;have:_<=b.size:=m.j;exact gX (λe=>H _<|D m<|.inr e) λe=>h (by lia)
 ·rw[l]at h;have:_<=a.size:=m.i;exact gX (λe=>H _<|L m e) λe=>gX (λe=>H _<|D m<|.inl e) λe=>h (by lia)
 rw[f]at h;have:_<=b.size:=m.j;exact gX (λe=>H _<|D m<|.inr e) λe=>h (by lia)
theorem IY(g:∀c∈a.toList,∀q∈b.toList.take 1,C.lo q c):IV C (AJ a b) (λx y=>C.lo y x) (a.toList++b.toList) 1 2:=by
 have n:∀i,((AJ a b).a.v i).length=min i a.size:=λi=>by show(a.toList.take i).reverse.length=_;simp
 have r:∀j,((AJ a b).b.v j).length=min j b.size:=λj=>by show(b.toList.take j).reverse.length=_;simp
 have v:∀{l:ab Pu},l.Perm (a.toList++b.toList)->l.Pairwise (λx y=>C.lo y x)->l.reverse.Perm _/\l.reverse.Pairwise _:=λd f=>⟨(VW _).trans d,UB.mpr f⟩;have D:∀{o i j},MS (AJ a b) _ _ o i j->(i=0\/j=0)->sJ C _ _:=λ{o i j} m e=>by
  unfold sJ;rw[K3];exact v m.m.sw.p (m.m.sw.end1<|e.symm.imp (λe=>by subst e;rfl) λe=>by subst e;rfl)
 have L:∀{o i j},MS (AJ a b) _ _ o i j->j=1->sJ C _ (Kk a b o i j):=λ{o i j} m e=>by
  subst e;have B:1<=b.size:=m.j;have t:=Uk (by assumption);have M:MI _ _ _ _ (b.toList.take 1).reverse:=m.m;unfold sJ;rw[K4,t];rw[t]at M g;exact v M.p<|M.sw.end2 (λw w w d f=>Rw f d) λc k=>g c (QQ<|UP.mp k) _<|N9.mpr rfl
 refine⟨rfl,rfl,rfl,rfl,rfl,by simp[AJ],λw w w d f=>Rw f d,nd,λc k=>(OB.mp k).elim (ka c)<|kb c,AO ka sa,AO kb sb,by simp,by simp,λ{F p q x y Q st} N d f=>?_,λm u H h=>?_,λm u H h=>?_,λm H h=>?_,λm H h=>?_⟩
 ·exact cT (λe=>d<|Oo e) λe=>f<|(Yx<|rk.mp λz=>e<|Ob z).resolve_right N
 ·rw[n]at h;have:_<=a.size:=m.i;exact gX (λe=>H _<|D m<|.inl e) λe=>h (by lia)
 ·rw[r]at u h;have:_<=b.size:=m.j;exact gX (λe=>H _<|L m e) λe=>h (by lia)
 ·rw[n]at h;have:_<=a.size:=m.i;exact gX (λe=>H _<|D m<|.inl e) λe=>h (by lia)
 rw[r]at h;have:_<=b.size:=m.j;exact gX (λe=>H _<|L m e) λe=>gX (λe=>H _<|D m<|.inr e) λe=>h (by lia)
variable (hk:kindOf st=C.kd)(na:1<=a.size)(nb:1<=b.size)(g0:∀ c∈a.toList,∀ q∈b.toList.take 1,C.lo q c)(g1:∀ c∈b.toList,∀ p∈a.toList.drop (a.size-1),C.lo c p){Q:R->PB->Prop}(h:∀ x QM,fD st QM->sJ C (a.toList++b.toList) x->Q x QM)
include hk na nb g0 g1 h
theorem M9:C.W (M7 a b) Q st:=by
 have K:=IX ka kb sa sb nd g1;obtain⟨p,t,e⟩:=pD (l:=(Ed a b).a.v 0) (N1 1) (by assumption);obtain⟨q,u,d⟩:=pD (N1 1) (by assumption);have m:MS _ _ _ _ 0 1:=AM K (o:=#[]) ⟨⟨.refl _,sa,sb⟩,Ou _,Ou _⟩ e d (g0 p (by rw[show a.toList=p::t from e];simp) q<|by rw[d];simp);rw[IT];refine OO<|Xq<|R3 ⟨rfl,OO<|c9 (K.b.at_ (Ou _) d).1 ?_⟩;have g:fD st st:=⟨rfl,rfl,rfl,rfl⟩;refine K.pb m (Z0 ..) (λx H=>O8<|h x _ g H) λf=>K.pa m ?_ (λx H=>O8<|h x _ g H) λi=>GJ K hk ⟨m,i,f,?_⟩ h
 ·rw[e];simp
 show(a.toList.drop 0).length+(b.toList.drop 1).length+1<=_
 simp;grind
theorem M_:C.W (M8 a b) Q st:=by
 have K:=IY ka kb sa sb nd g0;obtain⟨p,t,d⟩:=pD (l:=(AJ a b).a.v a.size) (N1 1) (by show 1<=(a.toList.take _).reverse.length;simpa using na);obtain⟨q,u,f⟩:=pD (l:=(AJ a b).b.v b.size) (N1 1) (by show 1<=(b.toList.take _).reverse.length;simpa using nb);obtain⟨F,k,n⟩:=K.a.at_ (N1 _) d;have v:∀{x:R},(x.toList.take x.size).reverse=x.toList.reverse:=λ{x}=>by rw[Od<|by simp]
 have m:MS (AJ a b) (λx y=>C.lo y x) (a.toList++b.toList) #[p] (a.size-1) b.size:=by
  refine AL K (o:=#[]) ⟨⟨?_,?_,?_⟩,N1 _,N1 _⟩ d f<|g1 q ?_ p ?_
  ·show((a.toList.take _).reverse++(b.toList.take _).reverse).Perm _
   rw[v,v];exact(VW _).append<|VW _
  ·show(a.toList.take _).reverse.Pairwise _
   rw[v];exact UB.mpr sa
  ·show(b.toList.take _).reverse.Pairwise _
   rw[v];exact UB.mpr sb
  ·exact UP.mp<|v▸(show q∈(AJ a b).b.v _ by rw[f];simp)
  have:a.toList.drop (a.size-1)=[p]:=by
   have e:=OY vb (show(a.toList.take _).reverse=p::t from d);rw[v,UW,Y4]at e;have l:=OY P3 e;simp at l;rw[e,Z4<|by simp;lia]
  rw[this];exact N9.mpr rfl
 rw[IU];refine OO<|Xq<|R3 ⟨rfl,OO<|c9 F ?_⟩;have g:fD st st:=⟨rfl,rfl,rfl,rfl⟩;refine K.pa m (Z0 ..) (λx H=>O8<|h x _ g H) λi=>K.pb m ?_ (λx H=>O8<|h x _ g H) λj=>GJ K hk ⟨m,i,j,?_⟩ h
 ·rw[f];simp
 show(a.toList.take<|a.size-1).reverse.length+(b.toList.take _).reverse.length+1<=_
 simp;lia
end
end
section
variable {C:Cm prog w A E s}{a₀:R}{lo n:Nat}{st QM:PB}{xs:R}
structure Bs (C:Cm prog w A E s)(a₀:R):Prop where
 ok:C.Oks a₀
 nd:(a₀.toList.map C.num).Nodup
structure SL (C:Cm prog w A E s)(a₀:R)(lo:Nat)(st QM:PB):Prop where
 perm:(O9 QM).Perm a₀
 kind:kindOf QM=C.kd
 failed:Q7 QM=N4
 pend:Pc QM=Pc st
 low:∀k,k<lo->(O9 QM)[k]?=(O9 st)[k]?
def Srt(C:Cm prog w A E s)(xs:R)(lo n:Nat):Prop:=∀i j,i<j->j<n->C.K xs (lo+i)<C.K xs (lo+j)
theorem Bs.of(b:Bs C a₀)(h:xs.Perm a₀):Bs C xs:=⟨λp H=>b.ok p<|(RH.mp h).mem_iff.mp H,((RH.mp h).map _).nodup_iff.mpr b.nd⟩
theorem Bs.ne(b:Bs C xs)(H:i<xs.size)(a:j<xs.size)(h:i≠j):C.K xs i≠C.K xs j:=by
 have:=(VC.mp b.nd);unfold Cm.K;rw[Vf xs i H,Vf xs j a];intro e;obtain g|g:=Nat.lt_or_gt_of_ne h
 ·exact Q6.mp this i j (by simpa using H) (by simpa using a) g (by simpa using e)
 exact Q6.mp this j i (by simpa using a) (by simpa using H) g (by simpa using e.symm)
theorem GK(h:j<=xs.size)(k:Nat):C.K (kS xs i j<|(j-i)/2) k=if i<=k/\k<j then C.K xs (i+j-1-k)else C.K xs k:=by
 unfold Cm.K;rw[XO h]
 split<;>rfl
theorem GL(h:c<xs.size)(H:d<=c)(k:Nat):C.K (bubble xs c d) k=if k=c-d then C.K xs c else if c-d<k/\k<=c then C.K xs (k-1)else C.K xs k:=by
 unfold Cm.K;rw[ZY h d H]
 split
 ·rfl
 split<;>rfl
theorem AQ(b:Bs C (O9 st))(k:kindOf st=C.kd)(H:i<(O9 st).size)(a:j<(O9 st).size)(U:i≠j)(c:C.K (O9 st) i<C.K (O9 st) j->Q (gV NU) st)(d:C.K (O9 st) j<C.K (O9 st) i->Q (gV NZ) st):C.W (ltAt' i j) Q st:=by
 obtain⟨p,f,l,m⟩:=IR b.ok H;obtain⟨P,h,I,e⟩:=IR b.ok a;have N:=b.ne H a U;rw[m,e]at c d N;refine OO<|VS<|OO<|c9 f<|OO<|c9 h<|C.lt k l I ?_;by_cases g:C.num p<C.num P
 ·rw[Ob g];exact c g
 rw[N3 g];lia
theorem Srt.next(b:1<=x)(h:Srt C xs lo x)(g:C.K xs (lo+x-1)<C.K xs (lo+x)):Srt C xs lo (x+1):=λi j H c=>by
 by_cases a:j<x
 ·exact h i j H a
 obtain rfl:j=x:=by lia
 by_cases e:i=j-1
 ·rwa[e,<-SD b]
 have:=h i (j-1) (by lia) (by omega);rw[<-SD b]at this;exact Rw this g
section
variable (b:Bs C a₀)(h:SL C a₀ lo st QM)(hn:lo+n<=a₀.size)
include b h hn
theorem GM{f:Nat->NW (NW Nat)×Nat->V5 PB Sem (Sw<|NW (NW Nat)×Nat)}{Q:NW (NW Nat)×Nat->PB->Prop}(o:1<=k)(a:k<=n)(e:Srt C (O9 QM) lo k)
  (i:∀x n,f x (N4,n)=(do
   let r <-ltAt' (lo+n) (lo+n-1)
   match r with
   |some y=>if y=NU then pure (G' (N4,n))else pure (TJ (N4,n+1))
   |_=>pure<|G' (gV N4,n)))
  (q:∀m,k<=m->m<=n->Srt C (O9 QM) lo m->(m=n\/C.K (O9 QM) (lo+m)<C.K (O9 QM) (lo+m-1))->Q (N4,m) QM):C.W (forIn [k:n] ((N4,k):NW (NW Nat)×Nat) f) Q QM:=by
 refine QW (I:=λx c j=>j=QM/\c=(N4,x)/\Srt C _ lo x) ?_ ?_ ⟨rfl,rfl,e⟩
 ·rintro x c j d l ⟨rfl,rfl,H⟩;have:=h.perm.size_eq;rw[i];exact OO<|AQ (b.of h.perm) h.kind (by lia) (by lia) (by lia) (λg=>O8<|q x d (OQ l) H<|.inr g) λg=>O8 ⟨rfl,rfl,H.next (O6 o d) g⟩
 simp_all
theorem K5(t:1<=n)(q:∀m a,SL C a₀ lo st a->1<=m->m<=n->Srt C (O9 a) lo m->Q (gV m) a):C.W (countRun' lo n) Q QM:=by
 have z:=h.perm.size_eq;rw[countRun'_eq];refine OO<|GM b h hn (N1 1) t (λi j w w=>by lia) (λw w=>rfl) λm M d f r=>?_;dsimp only;refine cT (λe=>O8<|q m _ h M d f) λe=>?_;have y:=r.resolve_left (by simp_all);have B:m<n:=Nat.lt_of_le_of_ne d (by simp_all);refine cT (λg=>OO<|AQ (b.of h.perm) h.kind (by lia) (by lia) (by lia) (λw=>O8<|q m _ h M d f) λG=>?_) λg=>?_
 ·have:=f 0 (m-1) (Nat.sub_pos_of_lt g) (by lia);rw[vl,<-SD M]at this;exact absurd G (Int.not_lt_of_ge (hY this))
 obtain rfl:m=1:=by lia
 refine OO<|Xq<|R3 ⟨rfl,?_⟩;refine OO<|Se (QW (I:=λx c a=>a=QM/\c=(N4,x,0)/\∀i j,i<j->j<x->C.K (O9 QM) (lo+j)<C.K (O9 QM) (lo+i)) (Q:=λc a=>a=QM/\∃m,c=(N4,m,0)/\2<=m/\m<=n/\∀i j,i<j->j<m->C.K (O9 QM) (lo+j)<C.K (O9 QM) (lo+i)) ?_ ?_ ⟨rfl,rfl,λi j I D=>?_⟩) ?_
 ·rintro x c a l F ⟨rfl,rfl,H⟩;dsimp only;refine OO<|AQ (b.of h.perm) h.kind (by lia) (by lia) (by lia) (λg=>O8 ⟨rfl,rfl,λi j I D=>?_⟩) λg=>?_
  ·by_cases J:j<x
   ·exact H i j I J
   obtain rfl:j=x:=by lia
   by_cases e:i=j-1
   ·rw[e,<-SD<|by exact Y3 l];exact g
   have:=H i (j-1) (by lia) (by lia);rw[<-SD<|by exact Y3 l]at this;exact Rw g this
  exact OO (AQ (b.of h.perm) h.kind (by lia) (by lia) (by lia) (λw=>O8 ⟨rfl,x,rfl,l,OQ F,H⟩) λG=>absurd G<|Int.not_lt_of_ge (hY g))
 ·rintro c a ⟨rfl,rfl,H⟩;rw[show max (1+1) n=n by lia]at H ⊢;exact⟨rfl,n,rfl,Nat.le_of_lt_succ (Nat.succ_lt_succ B),N1 _,H⟩
 ·obtain rfl:i=0:=by lia
  obtain rfl:j=1:=by lia
  exact y
 rintro c a ⟨rfl,m,rfl,U,L,H⟩;dsimp only;have p:SL C _ lo st (kf a<|kS _ lo _<|(lo+m-lo)/2):=⟨(mirror_perm _ _ _ _).trans h.perm,h.kind,h.failed,h.pend,λk N=>by
  show(kS _ lo _<|(lo+m-lo)/2)[k]?=_
  rw[XO (by lia),Oh<|by lia];exact h.low k N⟩
 refine OO<|wpS_reverse<|OO<|GM b p hn (Y3 U) L (λu v O W=>?_) (λw w=>rfl) λP X T o w=>O8<|q P _ p (Y3 (O6 U X)) T o;show C.K (kS _ lo _<|(lo+m-lo)/2) _<C.K (kS _ lo _<|(lo+m-lo)/2) _
 rw[GK (by lia),GK (by lia),Oi (by lia),Oi<|by simp_all];have:=H (m-1-v) (m-1-u) (Nat.sub_lt_sub_left (Pb O (Nat.le_sub_one_of_lt W)) O) (by grind)
 rwa[L' (WO O W),L' W]
theorem K6{Q:N6->PB->Prop}(z:ok<=n)(D:1<=n)(F:Srt C (O9 QM) lo ok)
  (q:∀a,SL C a₀ lo st a->Srt C (O9 a) lo n->Q NU a):C.W (binarySort' lo n ok) Q QM:=by
 rw[binarySort'_eq];refine OO (Se (QW (I:=λk c a=>c=(N4,())/\SL C a₀ lo st a/\Srt C (O9 a) lo (min k n))
  (Q:=λc a=>c=(N4,())/\SL C a₀ lo st a/\Srt C (O9 a) lo n) ?_ ?_ ⟨rfl,h,λi j o I=>F i j o<|by lia⟩) ?_)
 ·rintro k c a J L ⟨rfl,H,d⟩;rw[show min k n=k by exact W1 (OQ L)]at d;have M:=H.perm.size_eq;have N:=b.of H.perm;refine OO (Se (QW (I:=λx c Z=>Z=a/\∃l r,c=(N4,l,r)/\l<=r/\r<=k/\r-l<=k-x/\(∀i,i<l->C.K (O9 a) (lo+i)<C.K (O9 a) (lo+k))/\(∀i,r<=i->i<k->C.K (O9 a) (lo+k)<C.K (O9 a) (lo+i)))
   (Q:=λc Z=>Z=a/\∃l,c=(N4,l,l)/\l<=k/\(∀i,i<l->C.K (O9 a) (lo+i)<C.K (O9 a) (lo+k))/\(∀i,l<=i->i<k->C.K (O9 a) (lo+k)<C.K (O9 a) (lo+i))) ?_ ?_ ⟨rfl,0,k,rfl,by simp,by simp,by simp,λi X=>absurd X (Nat.not_lt_of_le (Ou _)),λi D H=>absurd H (Nat.not_lt_of_le D)⟩) ?_)
  ·rintro x c Z w Y ⟨rfl,l,r,rfl,O,t,P,B,f⟩;dsimp only;refine cT (λg=>?_) λg=>have q:=OK (Nat.not_le.1 g);OO<|AQ N H.kind (by lia) (by lia) (by lia) (λG=>O8 ⟨rfl,l,(l+r)/2,rfl,q.1,OQ (Pb q.2 t),(tx P q.1 q.2).2,B,λi p y=>?_⟩) λG=>O8 ⟨rfl,(l+r)/2+1,r,rfl,q.2,t,(tx P q.1 q.2).1,λi p=>?_,f⟩
   ·obtain rfl:l=r:=Nat.le_antisymm O g
    exact O8 ⟨rfl,l,rfl,t,B,f⟩
   ·obtain e|e:=Vz p
    ·exact e▸G
    exact Rw G<|d _ _ e y
   obtain e|e:=Vz (Nat.le_of_lt_succ p)
   ·exact e▸G
   exact Rw (d _ _ e<|by lia) G
  ·rintro c Z ⟨rfl,l,r,rfl,O,t,P,B,f⟩;obtain rfl:l=r:=by lia
   exact⟨rfl,l,rfl,t,B,f⟩
  rintro c Z ⟨rfl,l,rfl,t,B,f⟩;dsimp only;rw[moveDown'_eq];refine OO<|WI<|O8 ⟨rfl,⟨(bubble_perm _ _ _).trans H.perm,H.kind,H.failed,H.pend,λm T=>?_⟩,λi j o I=>?_⟩
  ·show(bubble (O9 Z) (lo+k)<|lo+k-(lo+l))[m]?=_
   rw[ZY (by lia) _ (by simp),Oh (by omega),Oh<|by omega];exact H.low m T
  show C.K (bubble (O9 Z) (lo+k)<|lo+k-(lo+l)) (lo+i)<C.K (bubble (O9 Z) (lo+k)<|lo+k-(lo+l)) (lo+j)
  rw[GL (by lia) (by simp),GL (by lia) (by simp),Nat.sub_sub_self (XS t lo)];have sub:∀u v,lo<=u->u<v->v<lo+k->C.K (O9 Z) u<C.K (O9 Z) v:=λu v p y c3=>by
   have:=d (u-lo) (v-lo) (Nat.sub_lt_sub_right p y) (Nat.sub_lt_left_of_lt_add (O6 p (OQ y)) c3)
   rwa [Nat.add_sub_of_le p,Nat.add_sub_of_le (O6 p (OQ y))]at this
  have U:∀u,lo+l<=u->u<lo+k->C.K (O9 Z) (lo+k)<C.K (O9 Z) u:=λu p y=>by
   have z:=O6 (UO lo l) p;have:=f (u-lo) (Nat.le_sub_of_add_le' p) (Nat.sub_lt_left_of_lt_add z y)
   rwa [Nat.add_sub_of_le z]at this
  repeat' split
  all_goals first
   |lia
   |exact B _ (by lia)
   |exact U _ (by lia) (by omega)
   |exact sub _ _ (by omega) (by omega) (by omega)
 ·rintro c a ⟨W,H,d⟩;exact⟨W,H,by rwa [show min (max _ n) n=n by exact Zw (Nat.le_max_right _ _)]at d⟩
 rintro c a ⟨rfl,H,d⟩;exact O8<|q a H d
end
end
theorem uW(i:Nat):Y0 i=(do
 let t <-get
 let (gV (s,n,A),gV (b,N,_)):=((Pc t)[i]?,(Pc t)[i+1]?)|unsupported "internal:list.sort.pending"
 set (WK t<|((Pc t).setIfInBounds i (s,n+N,A)).eraseIdxIfInBounds<|i+1)
 let gV k <-gJ NZ (<-Wt (O9 t) b) (O9 t) s n 0|return NZ
 let (s,n):=(s+k,n-k)
 if n == 0 then return NU
 let gV N <-gJ NU (<-Wt (O9 t)<|s+n-1) (O9 t) b N (N-1)|return NZ
 if N == 0 then return NU
 let x:=(O9 t).extract s b
 let y:=(O9 t).extract b (b+N)
 let m <-if n<=N then M7 x y else M8 x y
 kz λt=>kf t (m.toList.zipIdx.foldl (λa (p,j)=>a.setIfInBounds (s+j) p)<|O9 t)
 return (Q7 (<-get)).isNone):=rfl
theorem GN(b:Nat):∀(m x P T:ab Pu) (k:Nat) (a:R),b+k=P.length->m.length=x.length->a.toList=P++(x++T)->((m.zipIdx k).foldl (λa (q:Pu×Nat)=>a.setIfInBounds (b+q.2) q.1) a).toList=P++(m++T)
 |[],x,P,T,k,a,_,h,e=>by
  obtain rfl:x=[]:=P2.mp h.symm;exact e
 |p::m,[],P,T,k,a,_,h,e=>by cases h
 |p::m,y::x,P,T,k,a,H,h,e=>by
  have:=GN b m x (P++[p]) T (k+1) (a.setIfInBounds (b+k) p) (by simpa using by lia) (by simpa using h) (by simp_all);simpa using this
section
variable {C:Cm prog w A E s}{st:PB}
theorem Na{x X y Y z:ab Pu}(h:(x++X).Pairwise C.lo)(H:(y++Y).Pairwise C.lo)(a:∀c∈x,∀d∈y++Y,C.lo c d)(b:∀d∈Y,∀c∈x++X,C.lo c d)(r:z.Perm (X++y))(s:z.Pairwise C.lo):(x++(z++Y)).Pairwise C.lo:=by
 obtain⟨p,q,t⟩:=List.pairwise_append.1 h;obtain⟨u,v,w⟩:=List.pairwise_append.1 H;refine List.pairwise_append.2 ⟨p,List.pairwise_append.2 ⟨s,v,λc m d n=>?_⟩,λc m d n=>?_⟩
 ·obtain k|k:=OB.1 (r.mem_iff.1 m)
  ·exact b d n c (O2 _ k)
  exact w c k d n
 obtain n|n:=OB.1 n
 ·obtain k|k:=OB.1 (r.mem_iff.1 n)
  ·exact t c m d k
  exact a c m d (Qw _ k)
 exact a c m d (O2 _ n)
theorem K7{prog:Of}{w:OE}{A:Pr}{E:M'->N8->Prop}{s:N8}{Q:Xf->PB->Prop}{x:PB}(h:Q () x):wpS (OI prog w) A E s (set x:V5 PB Sem Xf) Q st:=Oj ⟨rfl,h⟩
theorem EO{T:ab Pu}{Q:N6->PB->Prop}(b:Bs C (O9 st))(u:kindOf st=C.kd)(U:Q7 st=N4)(e:(Pc st).toList=l1++(P.length,x.length,J)::(P.length+x.length,y.length,pb)::l2)(hi:l1.length=i)
  (g:(O9 st).toList=P++(x++(y++T))) (n1:x≠[]) (n2:y≠[]) (v:x.Pairwise C.lo) (I:y.Pairwise C.lo)
  (q:∀z L,kindOf L=C.kd->Q7 L=N4->(Pc L).toList=l1++(P.length,x.length+y.length,J)::l2->(O9 L).toList=P++(z++T)->z.Perm (x++y)->z.Pairwise C.lo->Q NU L):C.W (Y0 i) Q st:=by
 obtain⟨e1,e2,e3⟩:(Pc st)[i]?=gV (P.length,x.length,J)/\(Pc st)[i+1]?=gV (P.length+x.length,y.length,pb)/\(((Pc st).setIfInBounds i (P.length,x.length+y.length,J)).eraseIdxIfInBounds (i+1)).toList=l1++(P.length,x.length+y.length,J)::l2:=by
  rw[<-Qe,<-Qe,Array.toList_eraseIdxIfInBounds,VF,e];subst hi;simp[List.eraseIdx_append];lia
 have hl:=OY P3 g;simp only[NX,OL]at hl;have W:=b.nd;rw[g,Oy,Oy]at W;have ne:∀c∈x,∀d∈y,C.num c≠C.num d:=λc h d H=>(Qi.mp (Qi.mp W).2.1).2.2 _ (P4 h) _<|P4<|Qw _ H;have ac:((x++y).map C.num).Nodup:=(Oy▸(Qi.mp W).2.1).sublist (by simp);clear W;obtain⟨f,Y,rfl⟩:=List.exists_cons_of_ne_nil n2;obtain⟨B,l,rfl⟩:∃B l,x=B++[l]:=⟨_,_,(U9 n1).symm⟩;have am:(O9 st)[P.length+(B++[l]).length]?=gV f:=by
  rw[<-Qe,g,<-OX,Ow<|by simp];simp
 have an:(O9 st)[P.length+B.length]?=gV l:=by
  rw[<-Qe,g];simp
 have oq:C.ok f:=b.ok f (by simp_all);have op:C.ok l:=b.ok l (by simp_all);rw[uW];refine OO<|VS ?_;rw[e1,e2];dsimp only;refine OO<|K7<|OO<|c9 am<|OO<|wC g rfl rfl b.ok v u oq (by simp) (λc h=>ne c h f<|by simp) λk k1 k2 k3=>?_;dsimp only;generalize Z:B++[l]=X at*;have a1:∀c∈X.take k,∀d∈f::Y,C.lo c d:=λc h d H=>by
  obtain rfl|H:=Oz.mp H
  ·exact k2 c h
  exact Rw (k2 c h)<|VI I H
 refine gX (λe=>O8<|q (X++f::Y) _ u U e3 (by rw[OX];exact g) (.refl _)<|P_.mpr ⟨v,I,λc h=>a1 c ?_⟩) λen=>?_
 ·rwa [Od<|by grind]
 have as:=OY P3 Z;simp only[NX,OG]at as;rw[show P.length+k+(X.length-k)-1=P.length+B.length by lia];refine OO<|c9 an<|OO<|wC (P:=P++X) (x:=f::Y) (T:=T) (by simpa using g) (by simp) rfl b.ok I u op (by simp) (λd H=>(ne l (by simp[<-Z]) d H).symm) λn m1 m2 m3=>?_;dsimp only;have a2:∀d∈(f::Y).drop n,∀c∈X,C.lo c d:=λd H c h=>by
  rw[<-Z]at h v;obtain h|h:=OB.mp h
  ·exact Rw ((P_.mp v).2.2 c h l<|N9.mpr rfl)<|m3 d H
  exact N9.mp h▸m3 d H
 refine gX (λe=>O8<|q (X++f::Y) _ u U e3 (by rw[OX];exact g) (.refl _)<|P_.mpr ⟨v,I,λc h d H=>a2 d ?_ c h⟩) λaC=>?_
 ·simp_all
 have D:((O9 st).extract (P.length+k)<|P.length+X.length).toList=X.drop k:=by
  have:=pE (a:=O9 st) (P.length+k)<|X.length-k;rw[show P.length+k+(X.length-k)=P.length+X.length by lia]at this;rw[this,g,<-VD,Xz,List.drop_append_of_le_length k1,List.take_left'<|by simp]
 have F:((O9 st).extract (P.length+X.length)<|P.length+X.length+n).toList=(f::Y).take n:=by
  rw[pE,g,<-OX,Z4 (by simp),QG m1]
 have o:=PZ n<|f::Y;have r:=PZ k X;have kX:C.Oks ((O9 st).extract (P.length+k)<|P.length+X.length):=λc h=>b.ok c (by rw[D]at h;rw[g];simp[SO h]);have kY:C.Oks ((O9 st).extract (P.length+X.length)<|P.length+X.length+n):=λc h=>b.ok c (by rw[F]at h;rw[g];simp only[OB];exact .inr<|.inr<|.inl<|QQ h);have av:((X.drop k++(f::Y).take n).map C.num).Nodup:=ac.sublist<|((VY ..).append (SE ..)).map _;have sz:((O9 st).extract (P.length+k)<|P.length+X.length).size=X.length-k:=by rw[<-OL,D,P7]
 have az:((O9 st).extract (P.length+X.length)<|P.length+X.length+n).size=n:=by rw[<-OL,F,OC];exact W1 m1
 have M:∀m G,fD (WK st<|((Pc st).setIfInBounds i (P.length,X.length+(f::Y).length,J)).eraseIdxIfInBounds<|i+1) G->sJ C (((O9 st).extract (P.length+k)<|P.length+X.length).toList++((O9 st).extract (P.length+X.length)<|P.length+X.length+n).toList) m->C.W (do
   kz λt=>kf t (m.toList.zipIdx.foldl (λa (p,j)=>a.setIfInBounds (P.length+k+j) p)<|O9 t)
   return (Q7 (<-get)).isNone) Q G:=λm G N O=>by
  rw[D,F]at O;refine OO<|WI<|OO<|VS ?_;rw[show(Q7<|kf G _).isNone=NU by rw[show Q7 (kf G _)=N4 from N.2.2.2.trans U];rfl];refine O8<|q (X.take k++(m.toList++(f::Y).drop n)) _ (N.1.trans u) (N.2.2.2.trans U) (N.2.2.1▸e3) ?_ ?_<|Na (r.symm▸v) (o.symm▸I) (o.symm▸a1) (r.symm▸a2) O.1 O.2
  ·have:=GN (P.length+k) m.toList (X.drop k++(f::Y).take n) (P++X.take k) ((f::Y).drop n++T) 0 (O9 G) (by simp_all) O.1.length_eq (by
    rw[show O9 G=O9 st from N.2.1,g];simp only[OX];rw[<-OX<|List.take n _,o,<-OX<|X.take k,r])
   simpa using this
  refine(O.1.append_right _|>.append_left _).trans ?_;rw[OX,o,<-OX,r]
 refine cT (λw=>OO<|M9 kX kY ?_ ?_ ?_ (by exact u) ?_ ?_ ?_ ?_ M) λw=>OO<|M_ kX kY ?_ ?_ ?_ (by exact u) ?_ ?_ ?_ ?_ M
 all_goals first
  |(rw[D,F];exact av)
  |(rw[D];exact v.sublist (VY ..))
  |(rw[F];exact I.sublist (SE ..))
  |(rw[sz];lia)
  |(rw[az];lia)
  |(rw[D,F,Uj]
    intro c h d H;rw[show min 1 n=1 by lia]at H;exact N9.mp H▸k3 c h)
  |(rw[F,D,sz,VD,show k+(X.length-k-1)=B.length by lia,<-Z]
    intro c h d H;rw[Xz]at H;exact N9.mp H▸m2 c h)
end
noncomputable def Nb(lo n:Nat):S (Sw<|NW Xf×Nat):=do
 kz λs=>WK s ((Pc s).push (lo,n,0))
 return .yield (N4,lo+n)
noncomputable def My(e lo n:Nat):S (Sw<|NW Xf×Nat):=do
 match (Pc (<-get)).back? with
 |some (b,N,_)=>
  let P:=power' e (2*b+N) (2*b+N+N+n) e
  let c <-forIn [0:e] ((N4,()):NW Xf×Xf) λ_ _=>do
   let p:=Pc (<-get)
   match (if p.size>1 then p[p.size-2]? else N4)with
   |some (_,_,a)=>
    if a<=P then return .done (N4,())
    else if(!(<-Y0<|p.size-2))=NU then return .done (gV (),())
    else return .yield (N4,())
   |_=>return .done (N4,())
  match c.1 with
  |some r=>return .done (gV r,lo)
  |none=>
   kz λs=>WK s ((Pc s).modify ((Pc s).size-1) λ(st,l,_)=>(st,l,P))
   Nb lo n
 |_=>Nb lo n
theorem EQ:sortRuns'=(do
 let s:=(O9 (<-get)).size
 let c <-forIn [0:s] ((N4,0):NW Xf×Nat) λz c=>do
  if c.2>=s then return .done (N4,c.2)
  else
   let gV n <-countRun' c.2 (s-c.2)|return .done (gV (),c.2)
   if n<Z' s s 0 then
    rule "list.sort.binary-insertion"
    if(!(<-binarySort' c.2 (min (s-c.2)<|Z' s s 0) n))=NU then return .done (gV (),c.2)
    else My s c.2 (min (s-c.2)<|Z' s s 0)
   else My s c.2 n
 match c.1 with
 |some r=>return r
 |none=>
  for _ in [0:s] do
   let p:=Pc (<-get)
   if p.size<=1 then break
   let i:=p.size-2
   let b:=if i>0 then p[i-1]?.map (·.2.1)else N4
   let i:=if b.any (· < (p[i+1]?.elim 0 (·.2.1)))then i-1 else i
   if !(<-Y0 i)then return):=by kernel_rfl
section
variable {C:Cm prog w A E s}{a₀:R}{hi:Nat}{st:PB}
inductive Rn (C:Cm prog w A E s):Nat->ab (Nat×Nat×Nat)->ab Pu->Prop
 |nil (lo:Nat):Rn C lo [] []
 |cons {lo p:Nat} {r:ab (Nat×Nat×Nat)} {x t:ab Pu} (h:x≠[]) (H:x.Pairwise C.lo) (a:Rn C (lo+x.length) r t):Rn C lo ((lo,x.length,p)::r) (x++t)
theorem Rn.app{lo:Nat}{l L:ab (Nat×Nat×Nat)}{t T:ab Pu}(h:Rn C lo l t)(h':Rn C (lo+t.length) L T):Rn C lo (l++L) (t++T):=by
 induction h with
 |nil=>exact h'
 |cons a b _ i=>
  rw[OX];exact .cons a b (i<|by rwa [NX,<-Wb]at h')
theorem Rn.split:∀{l:ab (Nat×Nat×Nat)} {lo:Nat} {t:ab Pu},Rn C lo (l++L) t->∃T c,t=T++c/\Rn C lo l T/\Rn C (lo+T.length) L c
 |[],lo,t,h=>⟨[],t,rfl,.nil _,h⟩
 |_::l,_,_,.cons (x:=x) a b h=>by
  obtain⟨T,c,rfl,H,d⟩:=Rn.split h;exact⟨x++T,c,by simp,.cons a b H,by rwa [NX,<-Wb]⟩
theorem Rn.pow:∀{lo:Nat} {l L:ab (Nat×Nat×Nat)} {t:ab Pu},Rn C lo l t->L.map (λq=>(q.1,q.2.1))=l.map (λq=>(q.1,q.2.1))->Rn C lo L t:=by
 intro lo l L t h e;induction h generalizing L with
 |nil lo=>
  cases L with
  |nil=>exact .nil lo
  |cons=>cases e
 |cons a b t i=>
  cases L with
  |nil=>cases e
  |cons x L=>obtain⟨u,v,p⟩:=x;obtain⟨c,d⟩:=ud e;cases c;exact .cons a b<|i d
theorem Rn.len{lo:Nat}{l:ab (Nat×Nat×Nat)}{t:ab Pu}(h:Rn C lo l t):l.length<=t.length:=by
 induction h with
 |nil=>exact N1 _
 |cons a _ _ i=>
  have:=Tc.mpr a;rw[Os,NX];lia
structure SR (C:Cm prog w A E s)(a₀:R)(hi:Nat)(u:ab Pu)(st:PB):Prop where
 perm:(O9 st).Perm a₀
 kind:kindOf st=C.kd
 failed:Q7 st=N4
 runs:∃t,(O9 st).toList=t++u/\t.length=hi/\Rn C 0 (Pc st).toList t
variable {u:ab Pu}
theorem AR(b:Bs C a₀)(h:SR C a₀ hi u st)(I:i+1<(Pc st).size)(q:∀a,SR C a₀ hi u a->(Pc a).size+1=(Pc st).size->Q NU a):C.W (Y0 i) Q st:=by
 obtain⟨t,d,g,H⟩:=h.runs;have c:(Pc st).toList=(Pc st).toList.take i++((Pc st)[i]::(Pc st)[i+1]::(Pc st).toList.drop (i+2)):=by
  rw[<-XC,<-XC,<-QB,<-QB,PZ]
 rw[c]at H;obtain⟨P,J,rfl,j,r⟩:=H.split;rw[QK]at r;generalize (Pc st)[i]=L,(Pc st)[i+1]=M,(Pc st).toList.drop _=O at c r;cases r with
 |cons n m o=>
  cases o with
  |@cons _ _ _ y T N v U=>
   rw[OX,OX,OX]at d;refine EO (b.of h.perm) h.kind h.failed c (by simp;lia) d n N m v λz a x B k f p D=>?_;have l:=p.length_eq;rw[NX]at l;refine q a ⟨?_,x,B,P++(z++T),by rw[f];simp,?_,?_⟩ ?_
   ·refine .trans (RH.mpr ?_) h.perm;have:=(p.append_right<|T++u).append_left P;rw[OX]at this
    rwa [f,d]
   ·rw[<-g];simp[l,Wb]
   ·rw[k,<-l];exact j.app (by rw[QK];exact .cons (λe=>n<|by rw[e]at l;exact P2.mp<|by simp at l;lia) D<|by rwa [l,<-Wb])
   have F:=OY P3 k;have G:=OY P3 c;simp only[NX,Os,OL]at F G;lia
theorem SR.push(h:SR C a₀ hi u st)(d:1<=n)(f:n<=u.length)(a:(u.take n).Pairwise C.lo):SR C a₀ (hi+n) (u.drop n) (WK st<|(Pc st).push (hi,n,0)):=by
 obtain⟨t,b,c,r⟩:=h.runs;subst c;have H:(u.take n).length=n:=by simp_all
 refine⟨h.perm,h.kind,h.failed,t++u.take n,by rwa[OX,PZ],by rw[NX,H],?_⟩;show Rn C 0 _ _
 rw[V1];refine r.app ?_;have:=Rn.cons (lo:=t.length) (p:=0) (by grind) a<|.nil _;rw[QK]
 rwa [H,Pd]at this
theorem GO{n lo:Nat}{Q:Sw (NW Xf×Nat)->PB->Prop}(h:SR C a₀ lo u st)(H:1<=n)(b:n<=u.length)(c:(u.take n).Pairwise C.lo)(q:∀a,SR C a₀ (lo+n) (u.drop n) a->Q (.yield (N4,lo+n)) a):C.W (Nb lo n) Q st:=
 OO (WI<|O8<|q _<|h.push H b c)
theorem ER{b c:Type}(g:b->c)(f:b->b)(h:∀x,g (f x)=g x)(l:ab b)(i:Nat):(l.modify i f).map g=l.map g:=by
 refine RZ λj=>?_;rw[Og,Og,List.getElem?_modify];cases l[j]? with
 |none=>rfl
 |some a=>
  show gV _=gV _
  split
  ·rw[h]
  rfl
theorem GP{d n lo:Nat}{Q:Sw (NW Xf×Nat)->PB->Prop}(b:Bs C a₀)(h:SR C a₀ lo u st)(H:1<=n)(f:n<=u.length)(g:(u.take n).Pairwise C.lo)(q:∀i,SR C a₀ (lo+n) (u.drop n) i->Q (.yield (N4,lo+n)) i):C.W (My d lo n) Q st:=by
 refine OO<|VS ?_
 split
 ·refine OO<|Se (QW (I:=λx c a=>c=(N4,())/\SR C _ lo u a) ?_ (λx x z=>z) ⟨rfl,h⟩) ?_
  ·rintro y c a x x ⟨rfl,r⟩;refine OO<|VS ?_;dsimp only
   split
   ·have j:(Pc a).size>1:=by
     simp_all
    exact cT (λx=>O8 ⟨rfl,r⟩) λx=>OO<|AR b r (by omega) λk l x=>O8 ⟨rfl,l⟩
   exact O8 ⟨rfl,r⟩
  rintro c a ⟨rfl,r⟩;obtain⟨t,m,o,p⟩:=r.runs;refine OO<|WI<|GO ⟨r.perm,r.kind,r.failed,t,m,o,p.pow ?_⟩ H f g q;rw[Array.toList_modify];exact ER _ _ (by simp) _ _
 exact GO h H f g q
theorem mU:∀f n r,1<=n->1<=Z' f n r
 |0,n,r,h=>O6 h<|UO _ _
 |f+1,n,r,h=>by
  rw[minRun'_succ]
  split
  ·exact Nat.le_add_right_of_le h
  exact mU f _ _ (by lia)
theorem SL.sr{lo n:Nat}{Q:PB}(h:SL C a₀ lo st Q)(r:SR C a₀ lo u st)(l:lo+n<=a₀.size)(c:Srt C (O9 Q) lo n):∃U,SR C a₀ lo U Q/\n<=U.length/\(U.take n).Pairwise C.lo:=by
 obtain⟨t,d,H,f⟩:=r.runs;have z:=h.perm.size_eq;have e:(O9 Q).toList=t++(O9 Q).toList.drop lo:=by
  rw[<-PZ lo (O9 Q).toList]
  congr 1
  ·refine RZ λk=>?_;by_cases b:k<lo
   ·have:=h.low k b;rw[Pn b,Qe,this,<-Qe,d,OA<|by simp_all]
   rw[O3 (by simp;exact O6 (Nat.min_le_left _ _) (Zx b)),O3<|by simp_all]
  simp
 refine⟨(O9 Q).toList.drop lo,⟨h.perm,h.kind,h.failed,t,e,H,h.pend▸f⟩,by simp;lia,?_⟩;rw[Q6];intro i j hi g a;simp only[OC,P7,OL]at hi g;have:=c i j a (Pb g (Nat.min_le_left _ _));rw[<-Pd<|List.drop lo _]at e;rw[<-H,uV e (by simp;exact Pb hi (UN _ _)),uV e<|by simp;exact Pb g (UN _ _)]at this;rwa[VX,VX]
theorem IZ(b:Bs C a₀)(h:SR C a₀ 0 u st)(k:1<=a₀.size)(q:∀a,(O9 a).Perm a₀->Q7 a=N4->(O9 a).toList.Pairwise C.lo->Q () a):C.W sortRuns' Q st:=by
 rw[EQ];refine OO<|VS ?_;dsimp only;rw[h.perm.size_eq];have o:=mU a₀.size a₀.size 0 k;generalize Z' a₀.size a₀.size 0=M at o;refine OO (Se (QW (I:=λx c a=>∃lo u,c=(N4,lo)/\SR C a₀ lo u a/\(x<=lo\/lo=a₀.size))
  (Q:=λc a=>c=(N4,a₀.size)/\∃u,SR C a₀ a₀.size u a) ?_ ?_ ⟨0,u,rfl,h,.inl<|N1 _⟩) ?_)
 ·rintro x c a w D ⟨lo,u,rfl,r,F⟩;obtain⟨t,e,f,w⟩:=r.runs;have cD:=OY P3 e;rw[NX,OL,r.perm.size_eq]at cD;dsimp only;refine cT (λg=>?_) λg=>?_
  ·obtain rfl:lo=a₀.size:=by lia
   exact O8 ⟨rfl,u,r⟩
  refine OO<|K5 b (st:=a) ⟨r.perm,r.kind,r.failed,rfl,λw w=>rfl⟩ (by simp_all) (by grind) λm j k p G Z=>?_;dsimp only;refine cT (λI=>OO<|Xq<|R3 ⟨rfl,OO<|K6 b k (n:=min (a₀.size-lo) M) (by grind) (by grind) (by grind) Z λJ L N=>?_⟩) λI=>?_
  ·obtain⟨U,i,v,y⟩:=L.sr r (by grind) N;exact GP b i (by grind) v y λz B=>⟨_,_,rfl,B,by grind⟩
  obtain⟨U,i,v,y⟩:=k.sr r (by simp_all) Z;exact GP b i p v y λz B=>⟨_,_,rfl,B,by lia⟩
 ·rintro c a ⟨lo,u,rfl,r,D⟩;obtain⟨t,e,f,w⟩:=r.runs;have cD:=OY P3 e;rw[NX,OL,r.perm.size_eq]at cD;obtain rfl:lo=a₀.size:=by lia
  exact⟨rfl,u,r⟩
 rintro c a ⟨rfl,u,r⟩;have T:∀{st},SR C a₀ a₀.size u st->(Pc st).size<=a₀.size:=λr=>by
  obtain⟨t,w,f,n⟩:=r.runs;have:=n.len
  simp_all
 refine OO<|Se (QW (I:=λx c j=>c=(N4,())/\SR C _ _ u j/\((Pc j).size+x<=a₀.size\/(Pc j).size<=1)) (Q:=λc j=>c=(N4,())/\SR C a₀ a₀.size u j/\(Pc j).size<=1) ?_ ?_ ⟨rfl,r,by simp_all⟩) ?_
 ·rintro x c j w D ⟨rfl,d,H⟩;refine OO (VS<|cT (λg=>O8 ⟨rfl,d,g⟩) λg=>OO<|AR b d ?_ λJ i P=>O8 ⟨rfl,i,by lia⟩)
  repeat' split
  all_goals omega
 ·rintro c j ⟨rfl,d,H⟩;exact⟨rfl,d,by lia⟩
 rintro c j ⟨rfl,d,H⟩;obtain⟨t,e,f,n⟩:=d.runs;refine O8<|q j d.perm d.failed ?_;have O:=OY P3 e;rw[NX,OL,d.perm.size_eq,f]at O;rw[e,P2.mp (show u.length=0 by lia),Pd];rw[<-OL]at H;generalize (Pc j).toList=l at n H;cases n with
 |nil=>exact .nil
 |cons _ s r=>
  cases r with
  |nil=>simpa using s
  |cons=>simp only[Os]at H;lia
end
noncomputable def sH(h:O5)(b:C')(u:ab M'):O5:=((h.update b<|QC λ_=>#[]).push<|Ql "tuple" u.toArray 0).push<|Ql "list" #[] 0
theorem sK{d e:Type}{F:d->e->Prop}{B b:ab e}(p:b.Perm B):∀{A:ab d},Paired F A B->∃a,Paired F a b/\a.Perm A:=by
 induction p with
 |nil=>exact λh=>⟨_,h,.refl _⟩
 |cons x _ f=>
  rintro z (z|⟨r,t⟩);obtain⟨a,H,c⟩:=f t;exact⟨_,.cons r H,c.cons _⟩
 |swap x y l=>
  rintro z (z|⟨r,z|⟨g,t⟩⟩);exact⟨_,.cons g<|.cons r t,.swap ..⟩
 |trans _ _ i I=>
  intro A h;obtain⟨m,H,P⟩:=I h;obtain⟨j,c,k⟩:=i H;exact⟨j,c,k.trans P⟩
theorem uX{d c:Type}{F:d->c->Prop}{A:ab d}{B:ab c}(h:Paired F A B):∀{i:Nat} {b:c},B[i]?=gV b->∃a,A[i]?=gV a/\F a b:=by
 induction h with
 |nil=>intro i b e;simp at e
 |cons r _ I=>
  intro i b e;cases i with
  |zero=>exact⟨_,rfl,Ot e▸r⟩
  |succ i=>exact I e
section
variable {κ:Type}{is:κ->M'->Prop}{key:κ->Int}
open Classical in
noncomputable def I_ (is:κ->M'->Prop)(key:κ->Int)(v:M'):Int:=if h:∃k,is k v then key h.choose else 0
theorem uY(i:∀k a v,is k v->is a v->k=a)(h:is k v):I_ is key v=key k:=by
 unfold I_;rw[dif_pos ⟨k,h⟩,i _ k v (Exists.choose_spec (p:=λk=>is k v) _) h]
theorem wD(i:∀k a v,is k v->is a v->k=a)(h:Paired is s u):u.map (I_ is key)=s.map key:=by
 induction h with
 |nil=>rfl
 |cons r _ I=>rw[OH,OH,I,uY i r]
theorem sort_gen{P:Of}{w:OE}{A:Pr}{E:M'->N8->Prop}{s:N8}{R:U3->N8->Prop}{F:mu}(B:s.heap.get? b=gV (Ql "list" u.toArray ep))(G:u.length<=10000)(I:∀k c v,is k v->is c v->k=c)(J:Paired is U u)(X:(U.map key).Nodup)
  (Y:2<=u.length->∀{Q:mu->N8->Prop},Q F {s with heap:=sH s.heap b u}->wpAny (OI P w) A (keyKind' u.toArray) Q E {s with heap:=sH s.heap b u})
  (lt:∀{E':M'->N8->Prop} {k c:κ} {x y:M'} {Q:N6->N8->Prop},is k x->is c y->Q (decide (key k<key c)) {s with heap:=sH s.heap b u}->wpAny (OI P w) A (keyLt' F x y) Q E' {s with heap:=sH s.heap b u})
  (q:∀W a,Paired is a W->a.Perm U->(a.map key).Pairwise (· < ·)->R (.done<|.ret .none) {s with heap:=PyProof.Rows.sortedHeap s.heap b u W.toArray}):wpAny (OI P w) A (Builtin.«list.sort» ⟨[.ref b],[]⟩) R E s:=by
 let C:Cm P w A E {s with heap:=sH s.heap b u}:=⟨λp=>I_ is key p.1,λp=>∃k,is k p.1,F,λ{x y Q st} e ⟨k,H⟩ ⟨c,d⟩ h=>by
  rw[uY I H,uY I d]at h;rw[lt'_eq];refine OO<|VS ?_;rw[e];exact OO<|Xq<|Fd<|lt H d ⟨rfl,O8 h⟩⟩
 have L:∀{n:Nat},n<=10000->n<=sizeLine:=λz=>by rw[P0];exact O6 z (by decide)
 have XX:∀t,(O9 t).Perm (Z_ u)->(O9 t).toList.Pairwise C.lo->R (.done<|.ret .none) {s with heap:=PyProof.Rows.sortedHeap s.heap b u ((O9 t).map (·.2))}/\((O9 t).map (·.2)).size<=sizeLine:=λt j hs=>by
  have f:(O9 t).toList.Perm (u.zip u):=by rw[<-Xs];exact Array.perm_iff_toList_perm.mp j
  have e:((O9 t).map (·.2)).toList=(O9 t).toList.map (·.2):=Array.toList_map;have M:((O9 t).toList.map (·.2)).Perm u:=by
   have:=f.map (·.2)
   rwa [Zz<|N1 _]at this
  obtain⟨a,H,d⟩:=sK M J;refine⟨?_,by rw[F',j.size_eq,pairsOf_size];exact L G⟩;have:=q _ a H d (by
   rw[<-wD I H,O_,Py];refine hs.imp_of_mem λ{x y} hx hy h=>?_;have D:=(WL<|f.mem_iff.mp hx).1;have e2:=(WL<|f.mem_iff.mp hy).1;show I_ is key x.2<I_ is key y.2
   rw[<-D,<-e2];exact h)
  rwa [<-e]at this
 rw[list_sort_plain];have RH:b<s.heap.objs.size:=On B;obtain⟨D,m⟩:∃x,(s.heap.update b (QC λV=>#[])).get? b=gV (Ql "list" #[] x):=⟨_,U6 B _⟩;have o:(sH s.heap b u).get? b=gV (Ql "list" #[] D):=N_ _ (N_ _ m);refine N0 (Y1 B rfl (N0 (Tp B rfl ?_ (by rw[Ol];exact L G))));refine N0 (Xr m rfl (N0 (CN (N0 (UR (P' ?_))) (by simp_all))));show wpAny (OI P w) A _ R E {s with heap:=sH s.heap b u}
 have go:∀t,Q7 t=N4->(O9 t).Perm (Z_ u)->(O9 t).toList.Pairwise C.lo->wpAny (OI P w) A (do
   let T:=(<-seqEpoch b) != D
   abD (.ref b) λV=>(O9 t).map (·.2)
   if let gV e:=Q7 t then rule "list.sort.comparison-raised";throw e
   if T then rule "list.sort.modified";raiseError "ValueError" "list modified during sort"
   ret .none) R E {s with heap:=sH s.heap b u}:=λt h0 H d=>by
  obtain⟨f1,f2⟩:=XX t H d;refine N0<|Xr o rfl<|N0<|Tp o rfl ?_ (Ou _)<|Nat.le_succ_of_le f2;rw[h0];simp only[YH,QN,Th];exact Oj f1
 by_cases g:u.toArray.size<2
 ·rw[Oi g,Oi g];refine N0<|Oj ?_;dsimp only;rw[ZU];refine N0<|Oj<|go (Vy general' (u.toArray.zip u.toArray) #[] 7 N4) rfl (.refl _) ?_;have f:(u.toArray.zip u.toArray).toList.length<2:=by simp_all
  show(u.toArray.zip u.toArray).toList.Pairwise C.lo
  generalize (u.toArray.zip u.toArray).toList=l at f;cases l with
  |nil=>exact .nil
  |cons x r=>
   cases r with
   |nil=>exact List.pairwise_singleton _ _
   |cons y r=>exact absurd f<|by simp
 rw[Oh g,Oh g];rw[Ol]at g;refine N0<|Y (Zx g) ?_;have hB:Bs C (Z_ u):=⟨λp j=>?_,?_⟩
 ·refine N0<|Qq (IZ (C:=C) (u:=(Z_ u).toList) (Q:=λV t=>(O9 t).Perm (Z_ u)/\Q7 t=N4/\(O9 t).toList.Pairwise C.lo) hB ⟨.refl _,rfl,rfl,[],rfl,rfl,.nil _⟩ (by rw[pairsOf_size];exact Y3 (Zx g)) λt Z N O=>⟨Z,N,O⟩) ?_ λV V z=>z;rintro⟨⟨⟩,t⟩ s2 ⟨rfl,Z,N,O⟩;exact go t N Z O
 ·rw[Xs]at j;have M:=(WL j).2;obtain⟨i,hi⟩:=Qr.mp M;obtain⟨k,V,h⟩:=uX J hi;exact⟨k,h⟩
 rw[Xs];show((u.zip u).map<|I_ is key∘mr).Nodup
 rwa[<-O_,ZA<|N1 _,wD I J]
end
end TS
namespace L2
open PySem PySem.Spec PyProof.Rows
theorem pF{c d:Type}{F:c->d->Prop}:∀{A:ab c} {B:ab d},A.length=B.length->(∀(i:Nat) a b,A[i]?=gV a->B[i]?=gV b->F a b)->Paired F A B
 |[],[],_,_=>.nil
 |[],_::_,h,_=>by cases h
 |_::_,[],h,_=>by cases h
 |a::A,b::B,h,f=>.cons (f 0 a b rfl rfl)<|pF (by simpa using h) λi a b H e=>f (i+1) a b H e
structure SK (X:Cx)(H:Hp)(κ:Type) where
 vr:κ->V->Prop
 key:κ->Int
 kd:mu
 hp:O5->Prop
 mono:∀{h h'},hp h->(∀b o,h.get? b=gV o->h'.get? b=gV o)->hp h'
 inj:∀{k k' x x' v},vr k x->RelV x v->vr k' x'->RelV x' v->k=k'
 kk:∀{A E s Q us} {ks:ab κ},hp s.heap->2<=us.length->Paired (λk v=>∃x,vr k x/\RelV x v) ks us->Q kd s->wpAny (OI X.prog X.w) A (keyKind' us.toArray) Q E s
 lt:∀{A E s Q k k' x x' v v'},hp s.heap->vr k x->RelV x v->vr k' x'->RelV x' v'->Q (decide (key k<key k')) s->wpAny (OI X.prog X.w) A (keyLt' kd v v') Q E s
section
variable {κ:Type}(S:SK X H κ)
theorem ES(h:Paired (λk v=>∃x,S.vr k x/\RelV x v) s z):∃t,Vals t z/\Paired S.vr s t:=by
 induction h with
 |nil=>exact⟨[],.nil,.nil⟩
 |cons r _ i=>
  obtain⟨x,a,b⟩:=r;obtain⟨t,c,d⟩:=i;exact⟨x::t,.cons b c,.cons a d⟩
theorem uZ(I:Inv X O y H s)(A:S.hp s.heap)(p:c.length<=9000)(g:Paired (λk v=>∃x,S.vr k x/\RelV x v) P c)(N:(P.map S.key).Nodup)
  (q:∀l t a,H l=N4->a.Perm P->(a.map S.key).Pairwise (· < ·)->Paired S.vr a t->Q (.ref l) (upd H l<|.lst t)):
  wpAny (OI X.prog X.w) X.A.in1 (do
   let l <-newList c
   let _ <-T7 [l] (call (.builtin "list.sort") [l] [])
   ret l) (λr B=>∃v,r=.done (.ret v)/\EP X O y Q v B) X.xe s:=by
 refine N0 (UR ?_<|by rw[P0];exact O6 p (by decide));have h:(s.heap.push<|Ql "list" c.toArray 0).get? _=gV _:=OJ _ rfl;have d:S.hp (TS.sH (s.heap.push<|Ql "list" c.toArray 0) _ c):=S.mono A λb o e=>N_ _<|N_ _<|(OU _ _<|RX<|On e).trans<|N_ _ e;refine N0<|P'<|Wh y4 ⟨_,h,rfl⟩ ZZ (TS.sort_gen h (O6 p (by decide)) (λk T v ⟨x,i,j⟩ ⟨C,m,n⟩=>S.inj i j m n) g N (λf=>S.kk d f g) (λ⟨x,i,j⟩ ⟨C,m,n⟩=>S.lt d i j m n) λz a D f F=>⟨_,rfl,?_⟩)<|PyProof.Rows.args_list_sort _;obtain⟨t,G,u⟩:=ES S D;obtain⟨e,J⟩:=PyProof.Rows.sortedHeap_at h;refine Oj ⟨_,rfl,.ref _,_,I.laid (o:=.lst t) (λb o E=>?_) (N1 _) ⟨?_,z,e,G,J⟩,rfl,q _ t a (I.hok.fresh<|N1 _) f F u⟩
 ·have w:=On E;rw[PyProof.Rows.sortedHeap_old (OF w)<|by rw[Yl];exact QF w];exact N_ _ E
 have L:=Paired.length u;have M:=Paired.length g;rw[<-L,f.length_eq,M];exact OQ (cg<|O6 p (by decide))
noncomputable def GQ(X:Cx)(H:Hp):SK X H Int where
 vr:=λk x=>x=.int k
 key:=λk=>k
 kd:=oneType'
 hp:=λ_=>True
 mono:=λh _=>h
 inj:=by
  rintro k b _ _ v rfl ⟨t,rfl⟩ rfl ⟨T,e⟩;simp_all
 kk:=λ{A E s Q u c} _ a h q=>by
  have i:R7 u c:=by
   clear a
   induction h with
   |nil=>exact .nil
   |cons r _ I=>
    obtain⟨_,rfl,t,rfl⟩:=r;exact .cons _ t I
  match u,a with
  |v1::d::vr,_=>
   rw[keyKind_ints i];exact Oj q
 lt:=by
  rintro A E s Q k b _ _ _ _ _ rfl ⟨t,rfl⟩ rfl ⟨T,rfl⟩ q;exact oneLt_int q
theorem yy{k:ab Int}{t:ab V}(h:Paired (GQ X H).vr k t):t=k.map V.int:=by
 induction h with
 |nil=>rfl
 |cons r _ i=>rw[OH,i,r]
theorem u4(B:X.calm=NU):dL X (.builtin "sorted") (λn H Q=>∃p a b,n=[.ref p]/\H p=gV (.dK a)/\a.map (·.1)=b.map OW/\b.length<=9000/\
  ∀l E,H l=N4->List.Perm E b->Sv (·<=·) E->Q (.ref l) (upd H l<|.lst<|sy V.int E)):=by
 intro Og s σ H n us Q I r h;obtain⟨p,a,b,rfl,o,w,C,q⟩:=h;obtain⟨u,rfl,F⟩:=eu r;cases F;obtain⟨z,G,c,W,D⟩:a.length<=sizeLine/\(p == QT)=NZ/\∃c,KV a c/\s.heap.DictOf _ p c:=I.hok p _ o;obtain⟨J,d⟩:=D.dictAt;have L:=Paired.length W;have f:c.map (·.1)=b.map OW:=by
  rw[<-w];clear w o d D L z
  induction W with
  |nil=>rfl
  |cons r _ M=>simp_all
 have g:=OY P3 f;simp only[J']at g;refine PySem.Calls.call_function_entry PyProof.Rows.kind_sorted PyProof.Rows.plain_sorted PyProof.Rows.entry_sorted (PyProof.Rows.args_sorted1 _) ?_;refine N0<|Oj ?_;refine N0<|PySem.W.kdu_collect (PySem.W.kdl_dict G) (I.ok.hd B) d (by simp_all) λO T P j A=>?_;have hl:P.toList.length=c.length:=A.1
 refine uZ (GQ X H) (P:=b) (I.kept j) trivial (by simp_all) ?_ ?_ λl ts e U Y Z h4=>?_
 ·refine pF (by simp_all) λi k v UR hv=>?_;obtain⟨k2,x,hx,m⟩:=A.2 i v (by rwa[<-Qe]);have y:=OY (·[i]?) f;simp only[List.getElem?_map,hx,UR,Tw]at y;cases Ot y;obtain⟨t,et⟩:=YT m;exact⟨.int k,rfl,t,et⟩
 ·obtain⟨S,S,S,S,S,S,S,S,N⟩:=D;rw[f,VC,Py]at N;exact(Vm b).symm▸N.imp λh z=>h<|OY _ z
 rw[yy h4];exact q l e U Y<|((Vm e)▸Z).imp hY
end
mutual
def RD(H:Hp):Oe->V->Prop
 |.none,v=>v=.non
 |.bool b,v=>v=.bl b
 |.int i,v=>v=.int i
 |.str x,v=>v=.str x
 |.list d,v=>∃a X,v=.ref a/\H a=gV (.lst X)/\cO H d X
 |.tuple d,v=>∃a X,v=.ref a/\H a=gV (.tup X)/\cO H d X
 |.dict _,_=>False
def cO(H:Hp):ab Oe->ab V->Prop
 |[],x=>x=[]
 |d::D,x=>∃y Y,x=y::Y/\RD H d y/\cO H D Y
end
theorem cW(h:H a=gV (.lst x))(r:cO H d x):RD H (.list d) (.ref a):=⟨a,x,rfl,h,r⟩
theorem aQ(h:H a=gV (.tup x))(r:cO H d x):RD H (.tuple d) (.ref a):=⟨a,x,rfl,h,r⟩
theorem cb(h:RD H (.list d) v):∃a x,v=.ref a/\H a=gV (.lst x)/\cO H d x:=by
 assumption
theorem al(h:RD H (.tuple d) v):∃a x,v=.ref a/\H a=gV (.tup x)/\cO H d x:=by
 assumption
theorem wE:RD H .none .non:=by rfl
theorem aX(i:Int):RD H (.int i) (.int i):=by rfl
theorem cP(x:Str):RD H (.str x) (.str x):=by rfl
theorem au:cO H [] []:=by rfl
theorem ag(h:RD H d y)(t:cO H D Y):cO H (d::D) (y::Y):=⟨y,Y,rfl,h,t⟩
theorem bP(h:cO H [] x):x=[]:=by
 assumption
theorem aj(h:cO H (d::D) x):∃y Y,x=y::Y/\RD H d y/\cO H D Y:=by
 assumption
theorem sL:∀N:ab Int,cO H (N.map Vu)<|N.map V.int
 |[]=>au
 |n::r=>ag (aX n)<|sL r
theorem ci:∀{ds:ab Oe} {xs:ab V},cO H ds xs->xs.length=ds.length
 |[],_,h=>by
  rw[bP h];rfl
 |d::ds,_,h=>by
  obtain⟨y,Y,rfl,z,t⟩:=aj h;rw[Os,Os,ci t]
theorem cL:∀{D:ab Oe} {x:ab V} {j:Nat} {v:V},cO H D x->x[j]?=gV v->RD H (D.getD j .none) v
 |[],_,_,_,h,e=>by rw[bP h]at e;cases e
 |d::D,_,j,v,h,e=>by
  obtain⟨y,Y,rfl,a,t⟩:=aj h;cases j with
  |zero=>
   simp_all
  |succ j=>exact cL (D:=D) t (by assumption)
mutual
theorem gK(k:Same H g):∀d v,RD H d v->RD g d v
 |.none,v,h=>by unfold RD at h ⊢;exact h
 |.bool b,v,h=>by unfold RD at h ⊢;exact h
 |.int i,v,h=>by unfold RD at h ⊢;exact h
 |.str x,v,h=>by unfold RD at h ⊢;exact h
 |.list D,v,h=>by
  obtain⟨a,X,e,c,f⟩:=cb h;subst e;exact cW (k _ _ c)<|bZ k D X f
 |.tuple D,v,h=>by
  obtain⟨a,X,e,c,f⟩:=al h;subst e;exact aQ (k _ _ c)<|bZ k D X f
 |.dict _,v,h=>by
  unfold RD at h;exact h.elim
theorem bZ(k:Same H a):∀D x,cO H D x->cO a D x
 |[],x,h=>by
  rw[bP h];exact au
 |d::D,x,h=>by
  obtain⟨y,Y,e,b,c⟩:=aj h;subst e;exact ag (gK k d y b)<|bZ k D Y c
end
mutual
theorem cD(I:Inv X O m H s):∀d x v,RD H d x->RelV x v->∃A,Reads s.heap v d A
 |.none,x,v,h,r=>by
  unfold RD at h;subst h;cases r;exact⟨[],.none⟩
 |.bool b,x,v,h,r=>by
  unfold RD at h;subst h;cases r;exact⟨[],.bool b⟩
 |.int i,x,v,h,r=>by
  unfold RD at h;subst h;obtain⟨t,rfl⟩:=r;exact⟨[],.int i t⟩
 |.str y,x,v,h,r=>by
  unfold RD at h;subst h;obtain⟨t,rfl⟩:=r;exact⟨[],.str y t⟩
 |.list D,x,v,h,r=>by
  obtain⟨a,c,e,f,g⟩:=cb h;subst e;cases r;obtain⟨P3,j,⟨o,n,E,k,z,l⟩,z⟩:=I.list<|SqL.of f;obtain⟨A,q⟩:=kr I D c P3 g j;exact⟨a::A,.list E k l<|by simpa using q⟩
 |.tuple D,x,v,h,r=>by
  obtain⟨a,c,e,f,g⟩:=al h;subst e;cases r;obtain⟨P3,j,⟨o,E,k,n,l⟩,z⟩:=I.tuple<|SqT.of f;obtain⟨A,q⟩:=kr I D c P3 g j;exact⟨A,.tuple E k l<|by simpa using q⟩
 |.dict _,x,v,h,_=>by
  unfold RD at h;exact h.elim
theorem kr(I:Inv X O i H s):∀D x v,cO H D x->Vals x v->∃a,YV s.heap v D a
 |[],x,v,h,r=>by
  rw[bP h]at r;cases r;exact⟨[],.nil⟩
 |d::D,x,v,h,r=>by
  obtain⟨y,Y,e,b,c⟩:=aj h;subst e;cases r with
  |cons f g=>
   obtain⟨a,q⟩:=cD I d y _ b f;obtain⟨B,Q⟩:=kr I D Y _ c g;exact⟨a++B,.cons q Q⟩
end
inductive K8 (x y:V)(H:Hp)(Q:VK):Prop
 |mk (d D:Oe)(r:RD H d x)(b:RD H D y)(sa:Qf d=NU)(s:Qf D=NU)(q:Q (.bl<|O7 d D) H)
inductive K9 (x y:V)(H:Hp)(Q:VK):Prop
 |mk (d D:Oe)(r:RD H d x)(b:RD H D y)(sa:Qf d=NU)(s:Qf D=NU)(q:Q (.bl (!O7 d D)) H)
def K_:R2:=λx y H Q=>K8 x y H Q
def La:R2:=λx y H Q=>K9 x y H Q
theorem Ja(a:X.A.units+64<RT):OpR X (PL .Eq) K_:=by
 intro O s k H x y v u Q I r b h;obtain⟨d,D,c,e,f,g,q⟩:=h;obtain⟨A,i⟩:=cD I d x v c r;obtain⟨B,j⟩:=cD I D y u e b;exact eq_dataH i j f g a ⟨.bl _,H,I,rfl,q⟩
theorem Jb(a:X.A.units+64<RT):OpR X (PL .NotEq) La:=by
 intro O s k H x y v u Q I r b h;obtain⟨d,D,c,e,f,g,q⟩:=h;obtain⟨A,i⟩:=cD I d x v c r;obtain⟨B,j⟩:=cD I D y u e b;exact ne_dataH i j f g a ⟨.bl _,H,I,rfl,q⟩
theorem ku(h:X.A.units+64<RT):OpR X (PL .Eq) (λx y H Q=>Nz x y H Q\/K_ x y H Q):=OpR.or KE<|Ja h
theorem u5(h:X.A.units+64<RT):OpR X (PL .NotEq) (λx y H Q=>NA x y H Q\/La x y H Q):=OpR.or KF<|Jb h
theorem sM:dL X (.builtin "isinstance") (λa H Q=>∃x t c b,a=[x,.ty c]/\je X.K H x t/\QV X.K t (.type c)=gV b/\Q (.bl b) H):=by
 intro O s f H a U Q I r h;obtain⟨x,t,c,b,rfl,T,e,q⟩:=h;obtain⟨u,w,rfl,d,y⟩:=wt r;obtain rfl:w=Vt c:=y;exact pi I d T e λk=>⟨.bl b,H,I.tok _,rfl,q⟩
noncomputable def eM(T c:R1):NW N6:=if(Vt T == Vt c)=NU then gV NU else if PySem.W.kitMeta c=NU then(fastBuiltinMro T).map (·.contains (Vt c))else N4
theorem bn{K:B'}{T c:R1}{b:N6}(h:eM T c=gV b):QV K (.type T) (.type c)=gV b:=h
noncomputable def mV:Oe->R1
 |.none=>"NoneType"
 |.bool _=>"bool"
 |.int _=>"int"
 |.str _=>"str"
 |.list _=>"list"
 |.tuple _=>"tuple"
 |.dict _=>"dict"
theorem lI{K:B'}{H:Hp}:∀d v,RD H d v->je K H v (.type<|mV d)
 |.none,v,h=>by
  subst h;exact .non
 |.bool b,v,h=>by
  subst h;exact .bl b
 |.int i,v,h=>by
  subst h;exact .int i
 |.str x,v,h=>by
  subst h;exact .str x
 |.list D,v,h=>by
  obtain⟨a,X,e,c,z⟩:=cb h;subst e;exact .lst c
 |.tuple D,v,h=>by
  obtain⟨a,X,e,c,z⟩:=al h;subst e;exact .tup c
 |.dict _,v,h=>by
  unfold RD at h;simp_all
noncomputable def Jc:Oe->N6
 |.tuple _=>NU
 |_=>NZ
noncomputable def kB:Oe->N6
 |.int _=>NU
 |.bool _=>NU
 |_=>NZ
noncomputable def mf:Oe->N6
 |.bool _=>NU
 |_=>NZ
noncomputable def jF:Oe->N6
 |.dict _=>NU
 |_=>NZ
theorem AS:eM "NoneType" "tuple"=gV NZ/\eM "bool" "tuple"=gV NZ/\eM "int" "tuple"=gV NZ/\eM "str" "tuple"=gV NZ/\eM "list" "tuple"=gV NZ/\eM "tuple" "tuple"=gV true:=by
 refine⟨?_,?_,?_,?_,?_,?_⟩<;>decide+kernel
theorem Jd:eM "NoneType" "int"=gV NZ/\eM "bool" "int"=gV NU/\eM "int" "int"=gV NU/\eM "str" "int"=gV NZ/\eM "list" "int"=gV NZ/\eM "tuple" "int"=gV false:=by
 refine⟨?_,?_,?_,?_,?_,?_⟩<;>decide+kernel
theorem ET:eM "NoneType" "bool"=gV NZ/\eM "bool" "bool"=gV NU/\eM "int" "bool"=gV NZ/\eM "str" "bool"=gV NZ/\eM "list" "bool"=gV NZ/\eM "tuple" "bool"=gV false:=by
 refine⟨?_,?_,?_,?_,?_,?_⟩<;>decide+kernel
theorem kC{K:B'}(d:Oe)(h:jF d=NZ):QV K (.type<|mV d) (.type "tuple")=gV (Jc d):=by
 cases d with
 |none=>rfl
 |bool _=>rfl
 |int _=>rfl
 |str _=>rfl
 |list _=>rfl
 |tuple _=>rfl
 |dict _=>rfl
theorem wF{K:B'}(d:Oe)(h:jF d=NZ):QV K (.type<|mV d) (.type "int")=gV (kB d):=by
 cases d with
 |none=>rfl
 |bool _=>rfl
 |int _=>rfl
 |str _=>rfl
 |list _=>rfl
 |tuple _=>rfl
 |dict _=>rfl
theorem sN{K:B'}(d:Oe)(h:jF d=NZ):QV K (.type<|mV d) (.type "bool")=gV (mf d):=by
 cases d with
 |none=>rfl
 |bool _=>rfl
 |int _=>rfl
 |str _=>rfl
 |list _=>rfl
 |tuple _=>rfl
 |dict _=>rfl
theorem eV(h:RD H d v):jF d=false:=by
 cases d with
 |dict _=>
  unfold RD at h;simp_all
 |_=>rfl
structure Fn (P:Of)(w:OE)(K:B')(mg:Str->NW M')(base:O5)(k:Nat)(x:Str)(f:C')(fd:Oc)(ps:ab Str)(sp:Sp):Prop where
 ok:ao P w K mg base aP k f fd ps sp
 b:Binds K fd ps []
 kp:Px K (.ref f)=NU
 at_:mg x=gV (.ref f)
theorem fW{X:Cx}{j:Nat}{k:Nat}{f:C'}{F:Oc}{a:ab Str}{s:Sp}{x:Str}{p:Pos}{P:Pos}{e:Pl}{E:ab Pl}{t:TA}(G:Fn X.prog X.w X.K X.mg X.base j x f F a s)(r:Room k X.A)(h:j<=k)(g:Gl X x)(b:PA X (e::E) t)(H:(x == ("__debug__":Str))=false:=by decide)
  (c:ON (e::E) X.env=(NZ,Qs e X.env)::ON E X.env:=by rfl) (v:(Rl P<|ON E X.env).any (·.1)=false:=by rfl):PE X (.Call (.Name x p) (e::E) [] P) (wu s [] E0 t):=
 Ez G.ok (r.mono h) g G.at_ G.kp G.b .nil wB b H c v
theorem ad(h:H p=N4)(o:HO):Same H (upd H p o):=λb u q=>by rwa[af<|ah q h]
theorem Same.upd_new(k:Same a H)(h:a p=N4)(o:HO):Same a (upd H p o):=λb u q=>by rw[af<|ah q h];exact k b u q
theorem u6{a:Type}{x:ab a}{i:Int}(H:0<=i)(b:i<x.length):∃v,x[i.toNat]?=gV v/\iU x i=gV v:=by
 have h:i.toNat<x.length:=by simp_all
 have e:i=((i.toNat:Nat):Int):=by lia
 have q:iU x ((i.toNat:Nat):Int)=gV x[i.toNat]:=aH<|K' h;rw[<-e]at q;exact⟨_,K' h,q⟩
theorem jG{n:ab Int}{i:Int}(H:0<=i)(b:i<n.length):∃v,n[i.toNat]?=gV v/\iU (n.map V.int) i=gV (.int v):=by
 obtain⟨v,h,c⟩:=u6 (x:=n.map V.int) H (by simp_all);simp_all
def AllIn(f:Str->NW C'):ab (Str×C')->Prop
 |[]=>True
 |p::r=>f p.1=gV p.2/\AllIn f r
theorem AllIn.look:∀{C:ab (Str×C')},AllIn f C->∀{y:Str} {c:C'},C.lookup y=gV c->f y=gV c
 |[],_,y,c,e=>by cases e
 |(n,a)::r,h,y,c,e=>by
  rw[Ra]at e;cases q:(y == n)with
  |true=>
   rw[q]at e;have E:=eq_of_beq q;have b:=Ot e;rw[E,<-b];exact h.1
  |false=>
   rw[q]at e;exact AllIn.look h.2 e
noncomputable def bM(X:Cx)(s:Sm)(c:ab (Str×C'))(n:ab Str)(C:C')(f:ab C')(s₀:N8)(H₀:Hp):Cx where
 prog:=X.prog
 w:=X.w
 K:=X.K
 mg:=X.mg
 base:=X.base
 A:=X.A
 N:=n
 s₀:=s₀
 H₀:=H₀
 env:=tA s (Pz (C+1) s.names c) C X.env
 outer:=X.stack
 stack:=X.stack
 ex:=f
 fn:=λx=>(c.lookup x).isNone
 calm:=X.calm
 pn:=[]
 xe:=λ_ _=>False
structure CompSc (X:Cx)(scope:Sm)(cl:ab (Str×C'))(NY:ab Str)(idx:ab (NW Nat)):Prop where
 clos:o1 scope X.env=pure cl
 all:AllIn (λy=>X.env.cells.lookup y) cl
 c2:∀n,((Sz scope X.env).names.all λq=>!(decide (q.2=.cell) || decide (q.2=.free)) || ((Pz n scope.names cl).lookup q.1).isSome)=NU
 ix:((NY.zip idx).all λp=>match p.2 with
  |none=>NU
  |some i=>decide (X.N[i]?=gV p.1)&&(decide (X.env.kindOf p.1=gV .cell) || decide (X.env.kindOf p.1=gV .free))&&(decide ((Sz scope X.env).names.lookup p.1=gV .cell) || decide ((Sz scope X.env).names.lookup p.1=gV .free))&&(scope.names.all λq=>!decide (q.2=.cell) || !decide (q.1=p.1)))=NU
 len:idx.length=NY.length
 kind:scope.kind=.function
 names:∀y∈scope.names,y.2=.local->scope.names.lookup y.1=gV .local
theorem cx:∀N n a,Pz n N a=Pz n N []++a
 |[],_,_=>rfl
 |(x,k)::r,n,a=>by
  unfold Pz
  split
  ·rw[cx r _<|(x,n)::a,cx r _ [(x,n)],OX];rfl
  exact cx r n a
theorem kE:∀{N:ab (Str×Vv)} {n:Nat} {y:Str} {c:C'},(y,c)∈Pz n N []->(y,Tj)∈N
 |(x,k)::r,n,y,c,h=>by
  unfold Pz at h
  split at h
  ·rw[cx]at h;obtain h|h:=OB.mp h
   ·exact Ov _<|kE h
   simp_all
  exact Ov _<|kE h
theorem mW(h:(Pz n N C).lookup y=gV c):(y,c)∈Pz n N []\/C.lookup y=gV c:=by
 rw[cx,Yu]at h;cases e:(Pz n N []).lookup y with
 |some d=>
  rw[e]at h;cases h;exact .inl<|Pq e
 |none=>
  rw[e]at h;exact .inr h
theorem AT(h:∀q∈N,q.2=Tj->q.1≠y):(Pz n N c).lookup y=c.lookup y:=by
 rw[cx,Yu];cases e:(Pz n N []).lookup y with
 |some d=>exact absurd rfl<|h _ (kE<|Pq e) rfl
 |none=>rfl
theorem o3{M:kc}{A:Pr}{E:M'->N8->Prop}{s:N8}{a:Sm}{g:C'}{Y:ab (Str×C')}{q:Str}{O:Env}{Q:Env->N8->Prop}
  (H:∀h',h'.Ns s.heap.objs.size (λz=>N4)->(∀b o,s.heap.get? b=gV o->h'.get? b=gV o)->CellsOk h' (s.heap.objs.size+1) (Pz (s.heap.objs.size+1) a.names [])->
   Q (newEnv a s.heap.objs.size g (Pz (s.heap.objs.size+1) a.names Y) q N4 .none (gV O) O.builtins) {s with heap:=h'}):
  wpAny M A (Xi a g Y [] q N4 .none<|gV O) Q E s:=by
 refine N0<|wpAny_alloc<|N0<|wpAny_layCells _ (by simp) _ _ _ _ ?_;have d:=cellsFrom_ok a.names (s.heap.push {cls:=.type "dict",data:=.dict #[]}) _ [] ⟨λz z m=>(nomatch m),SF⟩ (N1 _);rw[SJ]at d;rw[SJ ..];exact N0<|Oj<|Oj<|H _ ((Heap.Ns.new _<|.type _).keeps<|ZV _ _) (λb o e=>ZV _ _ b o<|N_ _ e) d
noncomputable def AU(I:ab (NW Nat))(a:St):St:=I.map λo=>match o with
 |none=>N4
 |some i=>(a[i]?).getD N4
theorem CompSc.look(S:CompSc X s C N i)(n:Nat)(h:(Sz s X.env).names.lookup y=gV .cell\/(Sz s X.env).names.lookup y=gV .free):∃c,(Pz n s.names C).lookup y=gV c:=by
 have m:∃k,(y,k)∈(Sz s X.env).names/\(k=.cell\/k=.free):=by
  obtain h|h:=h
  ·exact⟨_,Pq h,.inl rfl⟩
  exact⟨_,Pq h,.inr rfl⟩
 obtain⟨k,a,H⟩:=m;have q:=O0.mp (S.c2 n) _ a;have e:(decide (k=Tj) || decide (k=aa7))=true:=by
  simp_all
 have Q:=q;rw[e]at Q;exact Tr.mp Q
theorem AV{F:ab C'}{f:O5}{m:Str->NW M'}{tk:Nat}(S:CompSc X d C NY l)(I:Inv X N5 r H s)
  (D:∀b∈F,oZ X N5 H b) (w:∀b∈F,b<s.heap.objs.size) (G:f.Ns s.heap.objs.size m) (O:∀b o,s.heap.get? b=gV o->f.get? b=gV o) (n:CellsOk f (s.heap.objs.size+1) (PySem.cellsFrom (s.heap.objs.size+1) d.names [])):
  Inv (bM X d C NY s.heap.objs.size F s H) [] (AU l r) H {s with heap:=f,toks:=tk}:=by
 have hC:=I.hok.fresh<|N1 _;have T:∀{x:Str} {c:C'},C.lookup x=gV c->X.env.cells.lookup x=gV c:=λe=>S.all.look e;have J:∀{x:Str} {c:C'},X.env.cells.lookup x=gV c->c<s.heap.objs.size:=λ{x c} e=>by
  obtain⟨v,z⟩:=I.cell x c e;exact z.lt
 have t:∀{x:Str} {c:C'},(PySem.cellsFrom _ _ C).lookup x=gV c->((x,c)∈PySem.cellsFrom _ _ []/\s.heap.objs.size<c/\f.IsCell c N4)\/(X.env.cells.lookup x=gV c/\c<s.heap.objs.size):=λ{x c} e=>by
  obtain h|h:=mW e
  ·exact .inl ⟨h,(n.empty x c h).2,(n.empty x c h).1⟩
  exact .inr ⟨T h,J<|T h⟩
 have L:∀x y c,(PySem.cellsFrom _ _ C).lookup x=gV c->(PySem.cellsFrom _ _ C).lookup y=gV c->x=y:=λx y c M N=>by
  obtain a|a:=t M<;>obtain b|b:=t N
  ·exact YM n.apart a.1 b.1
  ·exact absurd (WO a.2.1 b.2)<|QR _
  ·exact absurd (WO b.2.1 a.2)<|QR _
  exact I.ok.inj x y c a.1 b.1
 have ne:∀b∈F,∀x c,(PySem.cellsFrom _ _ C).lookup x=gV c->c≠b:=λb k x c e=>by
  obtain a|a:=t e
  ·exact RX<|WO (w b k) a.2.1
  exact(D b k).2.2.2.2.1 x c a.1
 have fr:∀x c,(PySem.cellsFrom _ _ C).lookup x=gV c->H c=none:=λx c e=>by
  obtain a|a:=t e
  ·exact I.hok.fresh<|OQ a.2.1
  exact I.freeC x c a.1
 have P:∀x c,(C.lookup x).isNone=NU->(PySem.cellsFrom _ _ C).lookup x=gV c->s.heap.objs.size<=c:=λx c hf e=>by
  obtain h|h:=mW e
  ·exact Y3 (n.empty x c h).2
  rw[h]at hf;cases hf
 refine⟨⟨I.ok.mod,?_,I.ok.glob,I.ok.blt,N1 _,L,λx hx=>S.look _ hx,P,I.ok.hd,I.ok.frames,.inl rfl,λb k=>⟨OF<|w b k,ne b k⟩,
  I.bs,O6 I.ok.bsz I.sz,λb o e k=>?_,λb k U=>?_,I.stack,I.stkFree⟩,rfl,I.bare,Un.kept O,⟨m,G,λj y v M N h3=>?_⟩,λx c e=>?_,hC,fr,λp hp=>absurd (show p∈([])from hp) (by simp),I.hok.kept O,?_⟩
 ·exact S.kind
 ·obtain z|z:=(D b k).2.2.2.1
  ·exact I.ok.noex b o e z
  exact absurd (Pb (On e)<|O6 I.ok.bsz z)<|QR _
 ·obtain e|e:=Oz.mp (I.stkSub b U)
  ·exact(D b k).2.1 e
  exact(D b k).2.2.1 e
 ·
  have g:=N;unfold AU at g;rw[Og]at g;cases W:l[j]? with
  |none=>rw[W]at g;cases g
  |some o=>
   rw[W]at g;cases o with
   |none=>cases g
   |some i=>
    have E:(r[i]?).getD N4=gV v:=by simpa using g
    have e4:r[i]?=gV (gV v):=by
     cases q:r[i]? with
     |none=>rw[q]at E;cases E
     |some z=>
      rw[q]at E;exact OY gV E
    have U:(NY.zip l)[j]?=gV (y,gV i):=by
     rw[VJ];exact⟨M,W⟩
    have q:=O0.mp S.ix _<|N7 U;have q':=q;rw[Pf,Pf,Pf,QL,QL]at q';obtain⟨⟨⟨q1,q2⟩,q3⟩,q4⟩:=q';have q5:∀q∈d.names,q.2=Tj->q.1≠y:=λq hq e1 e2=>by
     have:=O0.mp q4 q hq;rw[Ob e1,Ob e2]at this;cases this
    have Y:=Oo q1;have Q:X.env.kindOf y=gV _\/X.env.kindOf y=gV _:=q2.elim (λz=>.inl<|Oo z) λz=>.inr<|Oo z;have A:(Sz d _).names.lookup y=gV _\/(Sz d _).names.lookup y=gV _:=q3.elim (λz=>.inl<|Oo z) λz=>.inr<|Oo z;obtain⟨mX,V,hl⟩:=I.loc;obtain⟨u,ru,lk⟩:=hl i y v Y e4<|.inr Q;refine⟨u,ru,.inr ⟨A,?_⟩⟩;obtain⟨c,B⟩:=S.look (s.heap.objs.size+1) A;have hc:=B;rw[AT q5]at hc;obtain⟨hk,V⟩|⟨V,c',WB,Z⟩:=lk
    ·obtain z|z:=Q
     ·rw[hk]at z;cases z
     rw[hk]at z;cases z
    have e5:=T hc;rw[WB]at e5;cases e5;obtain⟨oc,ho,hd⟩:=Z;exact⟨_,B,oc,O _ _ ho,hd⟩
 ·obtain a|a:=t e
  ·exact⟨N4,a.2.2⟩
  obtain⟨v,oc,ho,hd⟩:=I.cell x c a.1;exact⟨v,oc,O _ _ ho,hd⟩
 unfold AU;rw[J'];exact S.len
def Je(Y:Cx)(i:ab Pl)(t:TT):Prop:=
 ∀(N:ab (C'×Obj)) (s:N8) (a:St) (H:Hp) (Q:N6->Hp->Prop),Inv Y N a H s->t a H Q->
  wpAny (OI Y.prog Y.w) Y.A (forIn i NU λc r=>if r=NU then do let o <-isTrue c Y.env<|Qs c Y.env;pure (TJ o)else pure (TJ r)) (TP Y N a Q) Y.xe s
def Kl:TT:=λ_ H Q=>Q NU H
theorem cq{A B:St->Hp->Prop}(h:A (c.set i<|gV x) H):df i x c H (λa e=>Kl a e λb d=>if b=NU then A a d else B a d):=by
 assumption
theorem mh:Je Y [] Kl:=λO s a H Q I h=>wpAny_tests_nil ⟨H,I,h⟩
theorem eR(h:PT Y c t):Je Y [c] t:=λO s a H Q I w=>wpAny_tests_one<|h O s a H Q I w
def i9(J:It)(D:C')(g:TG)(t:TT)(T:TE)(e:St)(n:Hp)(Q:VK):Prop:=
 ∃W:Nat->Nat->St->ab V->Hp->Prop,(∃m,W 0 m e []<|upd n D<|.lst [])/\∀i m f Y H,W i m f Y H->H D=gV (.lst Y)/\
  ((J.stop i H/\Q (.ref D) H)\/(J.go i H/\∃N:St->ab V->Hp->Prop,(∀c d h,N c d h->∃M,M<m/\W (i+1) M c d h)/\
   ∀x j,J.yld i H x j->g x f j λa o=>t a o λb k=>if b=NU then T a k λy l=>l D=gV (.lst Y)/\Y.length<sizeLine/\N a (Y++[y]) (upd l D<|.lst<|Y++[y])else N a Y k))
def sO(i:ab (NW Nat))(w:TI)(g:TG)(t:TT)(T:TE):TE:=λa H Q=>w a H λJ h=>∀D,h D=N4->i9 J D g t T (AU i a) h Q
section
variable {R:Zn->N8->Prop}
theorem ib{o D J:Pl}{q:ab Pl}{a:Sm}{P:Pos}{F t:M'}{e:Env}(I:Nat->N8->Prop)
  (Z:∀n s,I n s->wpAny (OI p w) A (V9 F) (λr b=>match r with
   |none=>R (.ok .next) b
   |some v=>wpAny (OI p w) A (U5 D F v) (λ_ f=>wpAny (OI p w) A (Zi D e v) (λ_ g=>
     wpAny (OI p w) A (forIn q NU λc r=>if r=NU then do let O <-isTrue c e<|Qs c e;pure (TJ O)else pure (TJ r)) (λO d=>
      if O=NU then wpAny (OI p w) A (Qs o e) (λx i=>
       wpAny (OI p w) A (call (.builtin "list.append") [t,x]) (λ_ j=>∃m,m<n/\I m j) (λ_ _=>False) i) (λ_ _=>False) d
      else∃m,m<n/\I m d) (λ_ _=>False) g) (λ_ _=>False) f) (λ_ _=>False) b) (λ_ _=>False) s)
  (n:Nat) (h:I n s):
  codeAny (OI p w) A (.compLoop (.ListComp o [⟨D,J,q,0⟩] a P) 0 F t e) R s:=by
 refine codeAny_loop rfl I (λn s M=>?_) n h;show wpAny _ A _ _ _ s
 refine wpAny_noted ?_;rw[compTurn_list];refine N0<|X0<|N0<|Qq (Z n s M) (λr b k=>?_) λ_ _ H=>H.elim;cases r with
 |none=>exact Oj k
 |some v=>
  refine N0<|Qq k (λ_ f u=>N0<|Qq u (λ_ g y=>N0<|Qq y (λO d l=>?_) λ_ _ H=>H.elim) λ_ _ H=>H.elim) λ_ _ H=>H.elim;cases O with
  |false=>exact Oj ⟨rfl,l⟩
  |true=>
   exact N0<|N0<|Qq l (λx i B=>N0<|Qq B (λ_ j C=>Oj<|Oj ⟨rfl,C⟩) λ_ _ H=>H.elim) λ_ _ H=>H.elim
end
structure CompEnd (X:Cx)(N5:ab (C'×Obj))(σ:St)(H:Hp)(C:C')(s:N8):Prop where
 inv:Inv X N5 σ H s
 ns:∃m,s.heap.Ns C m
 free:H C=N4
 loc:C≠X.env.locals
 young:X.s₀.heap.objs.size<=C
 cells:∀x c,X.env.cells.lookup x=gV c->c≠C
 pin:∀p∈X.pn++N5,p.1≠C
theorem CompEnd.gone(e:CompEnd X O a H C s)(h:SX C s.heap h'):Inv X O a H {s with heap:=h'}:=
 e.inv.turned (λb o c q=>(h.2 b c).trans q) e.free e.loc (.inr e.young) e.cells e.pin
theorem sP{N5:ab (C'×Obj)}{σ:St}{H:Hp}{s:N8}{Q:VK}{RR:M'->C'->Zn->N8->Prop}(an:X.calm=NU)(S:CompSc X a G Y bf)(hi:PI X Sn SV wi)
  (hg:∀C F w A,PG (bM X a G Y C F w A) Sn g) (ht:∀C F w A,Je (bM X a G Y C F w A) as tt) (he:∀C F w A,PE (bM X a G Y C F w A) av te)
  (I:Inv X N5 σ H s) (h:sO bf wi g tt te σ H Q)
  (bg:∀D C B s',CompEnd X N5 σ B C s'->Q (.ref D) B->RR (.ref D) C (.ok .next) s'):
  wpAny (OI X.prog X.w) X.A (Qs SV X.env) (λx az=>wpAny (OI X.prog X.w) X.A (j' x) (λit aC=>wpAny (OI X.prog X.w) X.A (newList []) (λRi aF=>
   wpAny (OI X.prog X.w) X.A (PySem.newFunctionEnv a X.env.globals G [] X.env.qual N4 .none<|gV X.env) (λaL a0=>
    codeAny (OI X.prog X.w) X.A (.compStart (.ListComp av [⟨Sn,SV,as,0⟩] a bk) 0 it Ri {aL with scope:=Sz a X.env}) (RR Ri aL.locals) a0) X.xe aF) X.xe aC) X.xe az) X.xe s:=by
 refine bu (hi N5 s σ H _ I h) λv s1 h1=>bu h1 λcf f h2=>?_;obtain⟨it,F,tn,J,M,e,I2,T,RX,f2,r2⟩:=h2;subst e;have hD:M _=none:=I2.hok.fresh<|N1 _;have r3:=r2 _ hD;have Z:Inv X N5 σ (upd M _<|.lst []) {f with heap:=f.heap.push {cls:=.type _,data:=.seq _}}:=
  I2.laid (λb u q=>N_ _ q) (N1 _) ⟨Ou _,[],0,.nil,OJ _ rfl⟩
 refine QD<|o3 λl a1 a2 a3=>?_;dsimp only at a1 a2 a3 ⊢;have a4:∀b∈F,b<f.heap.objs.size:=λb j=>by
  obtain⟨o,q,_⟩:=T.obj 0 _ RX b j;exact On q
 have bl:=λb j=>OF<|a4 b j;have f3:∀b∈F,oZ X N5 (upd M _<|.lst []) b:=λb j=>⟨by rw[af<|bl b j];exact(f2 b j).1,(f2 b j).2⟩;generalize a5:({f with heap:=f.heap.push {cls:=.type _,data:=.seq _}}:N8)=k at Z;have E:k.heap=f.heap.push {cls:=.type "list",data:=.seq ([]).toArray}:=by rw[<-a5]
 have a6:∀b∈F,b<k.heap.objs.size:=λb j=>by
  rw[E,SJ];exact QF<|a4 b j
 have bm:l.Ns k.heap.objs.size (λ_=>N4):=by rwa[E]
 have a7:∀b o,k.heap.get? b=gV o->l.get? b=gV o:=λb o q=>by
  rw[E]at q;exact a2 b o q
 have br:CellsOk l (k.heap.objs.size+1) (PySem.cellsFrom (k.heap.objs.size+1) a.names []):=by rwa[E]
 have YH:=T.keep _ _ _ RX λb j o q=>a7 b o (by rw[E];exact N_ _ q);have O:=AV (tk:=f.toks) S Z f3 a6 bm a7 br;have e4:({k with heap:=l,toks:=f.toks})={f with heap:=l,toks:=f.toks}:=by rw[<-a5]
 rw[e4]at O;have eC:k.heap.objs.size=(f.heap.push {cls:=.type "list",data:=.seq ([]).toArray}).objs.size:=by rw[E]
 have bs:k.heap.get? _=none:=Xn<|N1 _;obtain⟨W,⟨m0,w0⟩,ZE⟩:=r3;have bt:∀s4,s4={f with heap:=l,toks:=f.toks}->
   codeAny (OI X.prog X.w) X.A (.compLoop (.ListComp av [⟨Sn,SV,as,0⟩] a bk) 0 (.ref it) (.ref f.heap.objs.size)<|tA a (PySem.cellsFrom (k.heap.objs.size+1) a.names G) k.heap.objs.size X.env) (RR (.ref f.heap.objs.size) k.heap.objs.size) s4:=by
  rintro s4 rfl;have ac:∀{B:Hp},(∀b∈F,B b=N4)->∀b∈F,oZ (bM X a G Y _ F k<|upd M _<|.lst []) [] B b:=λ{B} hn b j=>
   ⟨hn b j,OF<|a6 b j,(λz=>(O.ok.exfs b j) z),.inl j,λx c e=>(O.ok.exf b j).2 x c e,λp hp=>absurd (show p∈([]:ab _)from hp)<|by simp⟩
  refine ib (λn s'=>∃i L ys B,Inv (bM X a G Y _ F k<|upd M _<|.lst []) [] L B s'/\tn i s'.heap/\(∀b∈F,B b=N4)/\W i n L ys B) ?_ m0
   ⟨0,_,[],_,O,YH,λb j=>(f3 b j).1,w0⟩
  rintro n s5 ⟨i,P,ys,H5,I5,a8,a9,w5⟩;obtain⟨ch,b0⟩:=ZE i n P ys H5 w5;obtain⟨ba,qn⟩|⟨go,N,hN,step⟩:=b0
  ·refine bu (T.done (bM X a G Y _ F k<|upd M _<|.lst []) rfl rfl rfl an i [] s5 P H5 _ I5 (ac a9) a8 ba) λr s6 ⟨hr,I6⟩=>?_;subst hr;have I7:=Z.call' I6.os I6.base I6.hok I6.bare λb j=>⟨(f3 b j).2.2.2.1,(f3 b j).2.1,(f3 b j).2.2.2.2.1,(f3 b j).2.2.2.2.2⟩;refine bg _ _ H5 s6 ⟨I7,?_,I6.free,Nat.ne_of_gt Z.lt,Z.sz,λx c e=>?_,λp hp z=>?_⟩ qn
   ·obtain⟨m,hn,_⟩:=I6.loc;exact⟨m,hn⟩
   ·obtain⟨v,q⟩:=Z.cell x c e;exact OF q.lt
   have q:=(Z.pin p hp).1;rw[z,bs]at q;cases q
  refine bu (T.item (bM X a G Y _ F k<|upd M _<|.lst []) rfl rfl rfl an i [] s5 P H5 _ I5 (ac a9) a8 go) λr s6 ⟨u,hr,h6⟩=>?_;subst hr;refine bu h6 λ_ s7 ⟨x,H7,I7,r7,y7,am,b1⟩=>?_;have b2:=I7.pinned (ac b1)<|T.obj _ _ am;have bb:∀{t:St} {U:ab V} {H8:Hp} {s8:N8},Inv (bM X a G Y k.heap.objs.size F k<|upd M f.heap.objs.size<|.lst []) _ t H8 s8->N t U H8->
    ∃m,m<n/\∃i L ys B,Inv _ [] L B s8/\tn i _/\(∀b∈F,B b=N4)/\W i m L ys B:=λ{t U H8 s8} I8 n8=>by
   obtain⟨m',hm,w8⟩:=hN t U H8 n8;refine⟨m',hm,i+1,t,U,H8,I8.unpinned,T.keep _ _ _ am λb j o e=>(I8.pin _<|O2 _<|O2 _<|gE j e).1,λb j=>?_,w8⟩;obtain⟨o,e,d⟩:=T.obj _ _ am b j;exact(I8.pin _<|O2 _<|O2 _<|gE j e).2.1
  refine bu (hg _ _ _ _ _ s7 P H7 x u _ b2 r7<|step x H7 y7) λ_ s8 ⟨t,H8,I8,q8⟩=>bu (ht _ _ _ _ _ s8 t H8 _ I8 q8) λok s9 ⟨H9,I9,q9⟩=>?_;cases ok with
  |false=>exact ak<|bb I9 q9
  |true=>
   refine aq<|bu (he _ _ _ _ _ s9 t H9 _ I9 q9) λy b3 ⟨yv,bc,b4,b5,b6,b7,cc⟩=>bu (cK _ b3 t bc (.ref _) _ _ [y] (λv B=>v=.non/\B=upd bc _ _) b4 rfl (.cons b5 .nil) ⟨_,ys,yv,rfl,rfl,b6,b7,rfl,rfl⟩) λ_ ck ⟨_,co,cd,_,_,ce⟩=>?_;subst ce;exact bb cd cc
 have L1:=bt _ rfl;rw[eC]at L1;exact codeAny_compStart_list L1<|T.self _ 0 _ _ _ YH L1
theorem qB(A:X.calm=NU)(S:CompSc X a l N i)(k:PI X r u w)(n:∀C f b c,PG (bM X a l N C f b c) r g)(t:∀C f b c,Je (bM X a l N C f b c) d T)
  (o:∀C f b c,PE (bM X a l N C f b c) E p) (v:∀x,RS u X.env x=pure x:=by intro z;rfl):PE X (.ListComp E [⟨r,u,d,0⟩] a P) (sO i w g T p):=by
 intro O s y H Q I h;refine V7 rfl v S.clos S.kind S.names ?_;refine sP A S k n t o I h ?_;intro D C B G e q;obtain⟨m,F⟩:=e.ns;exact⟨m,F,λJ j=>⟨.ref D,B,e.gone j,rfl,q⟩⟩
def sQ(i:Nat)(t:TE):TS:=λD a H=>t a H λv h=>D.nx (a.set i<|gV v) h
theorem u7{l A:Pos}(T:X.N.Nodup)(U:X.N[i]?=gV x)(P:X.env.scope.names.lookup x=gV .local)(t:X.calm=NU)(S:CompSc X b v Y w)(W:PI X r u Z)
  (hg:∀C F c d,PG (bM X b v Y C F c d) r g) (ht:∀C F c d,Je (bM X b v Y C F c d) k tt) (he:∀C F c d,PE (bM X b v Y C F c d) E te)
  (y:Vn (.ListComp E [⟨r,u,k,0⟩] b p) (gV<|.Name x l) A.line X.env=pure NU) (hs:∀x,RS u X.env x=pure x:=by intro f;rfl):
  PS X (.Assign [.Name x l] (.ListComp E [⟨r,u,k,0⟩] b p) A) (sQ i<|sO w Z g tt te):=by
 intro O s σ H D I h;rw[exec_Assign_Name_used _ _ _ _ y];refine N0<|X0<|N0 ?_;show wpAny _ X.A _ _ _ s
 refine N0<|Qq (V7 rfl hs S.clos S.kind S.names ?_) (λf n hq=>Oj<|Oj hq) λf f e=>e;refine sP t S W hg ht he I h ?_;intro B C j n e q;refine YK<|pc e.inv T U (.inl P) (v:=.ref B) rfl (λG J sb=>?_)<|.inr P;obtain⟨a,o,L⟩:=sb;have N:C≠a:=by
  obtain rfl|L:=L
  ·exact e.loc
  exact λz=>e.cells _ _ L z.symm
 obtain⟨m,Q⟩:=e.ns;have e2:CompEnd X O _ j C G:=⟨J,⟨m,Q.sameBut o N⟩,e.free,e.loc,e.young,e.cells,e.pin⟩;exact⟨m,Q.sameBut o N,λh' M=>⟨_,j,e2.gone M,q⟩⟩
section
variable {K:B'}{a D:C'}{xs:ab V}{g:TG}{tt:TT}{te:TE}{σ0:St}{H1:Hp}{Q:VK}
theorem cy(Pv:Nat->St->ab V->Hp->Prop)(j:Pv 0 σ0 [] (upd H1 D<|.lst []))(k:∀i c Y H,i<=xs.length->Pv i c Y H->H D=gV (.lst Y)/\SqL K H a xs)
  (l:∀i x c Y H,xs[i]?=gV x->Pv i c Y H->g x c H λd n=>tt d n λb h=>if b=NU then te d h λy f=>f D=gV (.lst Y)/\Y.length<sizeLine/\Pv (i+1) d (Y++[y]) (upd f D<|.lst<|Y++[y])else Pv (i+1) d Y h)
  (o:∀c Y H,Pv xs.length c Y H->Q (.ref D) H):i9 (Em K a) D g tt te σ0 H1 Q:=by
 exists λi m c Y H=>m=xs.length-i/\i<=xs.length/\Pv i c Y H,(by simp_all);rintro i m c Y H ⟨rfl,r,p⟩;obtain⟨t,q⟩:=k i c Y H r p;exists t;by_cases s:i<xs.length
 ·refine .inr ⟨⟨xs,xs[i],q,by simp⟩,Pv<|i+1,λu v w P=>⟨xs.length-(i+1),Nat.sub_lt_sub_left s (Sg _),rfl,s,P⟩,λx w y=>?_⟩;obtain⟨e,y⟩:=y;subst e;exact l i x c Y _ (y xs q) p
 have e:i=xs.length:=Nat.le_antisymm r (Zx s)
 subst e;exact .inl ⟨⟨xs,q,N1 _⟩,o c Y H p⟩
theorem AW(Pv:Nat->St->ab V->Hp->Prop)(j:Pv 0 σ0 [] (upd H1 D<|.lst []))(k:∀i c Y H,i<=xs.length->Pv i c Y H->H D=gV (.lst Y)/\SqT K H a xs)
  (l:∀i x c Y H,xs[i]?=gV x->Pv i c Y H->g x c H λd n=>tt d n λb h=>if b=NU then te d h λy f=>f D=gV (.lst Y)/\Y.length<sizeLine/\Pv (i+1) d (Y++[y]) (upd f D<|.lst<|Y++[y])else Pv (i+1) d Y h)
  (o:∀c Y H,Pv xs.length c Y H->Q (.ref D) H):i9 (Io K a) D g tt te σ0 H1 Q:=by
 exists λi m c Y H=>m=xs.length-i/\i<=xs.length/\Pv i c Y H,(by simp_all);rintro i m c Y H ⟨rfl,r,p⟩;obtain⟨t,q⟩:=k i c Y H r p;exists t;by_cases s:i<xs.length
 ·refine .inr ⟨⟨xs,xs[i],q,by simp⟩,Pv<|i+1,λu v w P=>⟨xs.length-(i+1),Nat.sub_lt_sub_left s (Sg _),rfl,s,P⟩,λx w y=>?_⟩;obtain⟨e,y⟩:=y;subst e;exact l i x c Y _ (y xs q) p
 have e:i=xs.length:=Nat.le_antisymm r (Zx s)
 subst e;exact .inl ⟨⟨xs,q,N1 _⟩,o c Y H p⟩
theorem fb{lo:Int}(Pv:Nat->St->ab V->Hp->Prop)(j:Pv 0 σ0 [] (upd H1 D<|.lst []))(k:∀i c Y H,i<=n->Pv i c Y H->H D=gV (.lst Y))
  (l:∀i c Y H,i<n->Pv i c Y H->g (.int<|lo+i) c H λd o=>tt d o λb h=>if b=NU then te d h λy f=>f D=gV (.lst Y)/\Y.length<sizeLine/\Pv (i+1) d (Y++[y]) (upd f D<|.lst<|Y++[y])else Pv (i+1) d Y h)
  (q:∀c Y H,Pv n c Y H->Q (.ref D) H):i9 (En lo n) D g tt te σ0 H1 Q:=by
 exists λi m c Y H=>m=n-i/\i<=n/\Pv i c Y H,⟨n,by simp,Ou _,j⟩;rintro i m c Y H ⟨rfl,r,p⟩;exists k i c Y H r p;by_cases s:i<n
 ·refine .inr ⟨s,Pv<|i+1,λt u v P=>⟨n-(i+1),Nat.sub_lt_sub_left s (Sg _),rfl,s,P⟩,λx v y=>?_⟩;obtain⟨e,y⟩:=y;subst e y;exact l i c Y _ s p
 have e:i=n:=Nat.le_antisymm r (Zx s)
 subst e;exact .inl ⟨N1 _,q c Y H p⟩
end
def Nc(K:B')(n:Nat)(t:Eb):TG:=λv b H Q=>∃a x,v=.ref a/\SqL K H a x/\x.length=n/\t x b H Q
theorem AX{X:Cx}{p:Pos}{k:Nat}{n:Nat}(f:X.calm=NU)(h:Gy X E t)
  (g:(R4 E X.env).length=n:=by rfl) (Y:(R4 E X.env).findIdx? (·.1)=none:=by rfl):PG X (.Tuple E k p) (Nc X.K n t):=by
 intro N s c H v u Q I r w;obtain⟨a,x,i,q,l,w⟩:=w;subst i;cases r;obtain⟨P,d,j,B⟩:=I.list q;refine N0<|X0 ?_;unfold unpack;have z:(R4 E X.env).length=P.toArray.size:=by
  rw[g,Ol,<-d.length];exact l.symm
 rw[z,Y];refine N0<|P'<|PySem.W.kun_itemsOf (I.ok.hd f) j.isList λm y=>?_;have A:Inv X N c H {s with heap:=m}:=I.kept λb o e=>y b o (OF<|On e) e;exact h N _ c H x _ Q A (by assumption) w
theorem AY(c:X.calm=NU):dL X (.builtin "sum") (λx H Q=>∃(p:C') (n:ab Int),x=[.ref p]/\SqL X.K H p (n.map V.int)/\Q (.int n.sum) H):=by
 intro N s g H x U Q I r h;obtain⟨p,n,rfl,a,q⟩:=h;obtain⟨u,rfl,b⟩:=eu r;cases b;obtain⟨P,v,d,j⟩:=I.list a;have i:=gH v;obtain⟨z,e⟩:=i.allInts.items;have l:=d.isList;rw[e]at l;refine sum_intListG (I.ok.hd c) l λm t T k=>?_;have E:numsOf P=z.toList.map (·.1):=by
  rw[<-aa1,<-e]
 have f:preSum (js z) z.size=n.sum:=by
  rw[preSum_eq,Od (by simp),<-E,i.numsOf]
 rw[f];exact⟨.int _,H,I.kept k,⟨_,rfl⟩,q⟩
theorem u8:∀{us:ab M'},Vals (ss.map V.str) us->StrsAre us ss:=by
 induction ss with
 |nil=>intro us r;cases r;exact .nil
 |cons n ns ih=>
  intro us r;cases r with
  |cons r1 r2=>
   obtain⟨t,e⟩:=r1;subst e;exact .cons n t<|ih r2
theorem EU:MV X "str.join" (λx b H Q=>∃a p y,x=.str a/\b=[.ref p]/\SqL X.K H p (y.map V.str)/\(y.map (·.length)).sum+y.length*a.length<=16777216/\Q (.str<|YU a y) H):=by
 intro O s g H x b v U Q I c d h;obtain⟨a,p,y,rfl,rfl,e,z,q⟩:=h;obtain⟨t,rfl⟩:=c;obtain⟨u,rfl,f⟩:=eu d;cases f;obtain⟨P3,r,P,w⟩:=I.list e;exact join_list P.isList (by simpa using u8 r) z λT k=>⟨.str _,H,I.tok _,⟨_,rfl⟩,q⟩
noncomputable def qC:V->N6
 |.bl _=>NU
 |.non=>NU
 |_=>NZ
noncomputable def g8:V->N6
 |.bl b=>b
 |_=>NZ
theorem wG(r:Vals Y k)(c:Y.all qC=NU):TruthOf p w A (λi v=>k.toArray[i]?=gV v) (λi=>(Y[i]?).elim NZ g8):=by
 intro i v s Q E d q;have h:k[i]?=gV v:=by simpa using d
 cases e:Y[i]? with
 |none=>
  rw[r.none_of e]at h;cases h
 |some y=>
  obtain⟨u,f,a⟩:=r.get e;rw[f]at h;cases h;have H:Q ((Y[i]?).elim NZ g8) s:=q;rw[e]at H;have g:=O0.mp c y<|N7 e;cases y with
  |bl b=>
   cases a;exact PR H
  |non=>
   cases a;exact truthy_none H
  |_=>cases g
theorem yz(Y:ab V):(O1 Y.length).any (λi=>(Y[i]?).elim NZ g8)=Y.any g8:=by
 rw[PV];simp only[OR,Qh];constructor
 ·rintro⟨i,H,h⟩;exists Y[i],Rb H;simpa[H]using h
 rintro⟨y,a,h⟩;obtain⟨i,H,rfl⟩:=Rq a;exact⟨i,H,by simp_all⟩
theorem yA(Y:ab V):(O1 Y.length).all (λi=>(Y[i]?).elim NZ g8)=Y.all g8:=by
 rw[PV];simp only[O0,Qh];constructor
 ·intro h y a;obtain⟨i,H,rfl⟩:=Rq a;simpa[H]using h i H
 simp_all
theorem ie(c:X.calm=NU):dL X (.builtin "any") (λx H Q=>∃p y,x=[.ref p]/\SqL X.K H p y/\y.all qC=NU/\Q (.bl<|y.any g8) H):=by
 intro O s n H x U Q I r h;obtain⟨p,y,rfl,a,d,q⟩:=h;obtain⟨u,rfl,f⟩:=eu r;cases f;obtain⟨P3,v,P,z⟩:=I.list a;have l:=P.isList;obtain⟨o,g,w⟩:=id l;have j:=On g;refine call_any_walk<|Sy l<|⟨s.heap.objs.size,_,_,_,_,_,_,rfl,WA (A:=X.A.in1) (I.ok.hd c) _ p (OF j) _,⟨⟨_,OJ _ rfl,rfl,rfl⟩,l.push _⟩,wG v d,λt T k=>?_⟩;have e:(O1 P3.toArray.size).any (λi=>(y[i]?).elim NZ g8)=y.any g8:=by
  rw[Ol,<-v.length];exact yz y
 rw[e];refine⟨.bl _,H,I.kept λb o e=>k b o ?_<|N_ _ e,rfl,q⟩;intro m;exact absurd (N9.mp m)<|OF<|On e
theorem mY(c:X.calm=NU):dL X (.builtin "all") (λx H Q=>∃p y,x=[.ref p]/\SqL X.K H p y/\y.all qC=NU/\Q (.bl<|y.all g8) H):=by
 intro O s n H x U Q I r h;obtain⟨p,y,rfl,a,d,q⟩:=h;obtain⟨u,rfl,f⟩:=eu r;cases f;obtain⟨P3,v,P,z⟩:=I.list a;have l:=P.isList;obtain⟨o,g,w⟩:=id l;have j:=On g;refine call_all_walk<|Sy l<|⟨s.heap.objs.size,_,_,_,_,_,_,rfl,WA (A:=X.A.in1) (I.ok.hd c) _ p (OF j) _,⟨⟨_,OJ _ rfl,rfl,rfl⟩,l.push _⟩,wG v d,λt T k=>?_⟩;have e:(O1 P3.toArray.size).all (λi=>(y[i]?).elim NZ g8)=y.all g8:=by
  rw[Ol,<-v.length];exact yA y
 rw[e];refine⟨.bl _,H,I.kept λb o e=>k b o ?_<|N_ _ e,rfl,q⟩;intro m;exact absurd (N9.mp m)<|OF<|On e
theorem pG(h:R7 P n):∀(J:ab Nat),∃m:ab Int,Vals (m.map V.int) (J.filterMap (P.toArray[·]?))/\m.length<=J.length
 |[]=>⟨[],.nil,N1 _⟩
 |j::r=>by
  obtain⟨m,H,b⟩:=pG h r;rw[Q0];cases e:P.toArray[j]? with
  |none=>exact⟨m,H,by rw[Os];exact q7 b⟩
  |some v=>
   have E:P[j]?=gV v:=by simpa using e
   obtain⟨a,t,rfl⟩:=h.allInts v (by simpa using N7 E);exact⟨a::m,.cons ⟨t,rfl⟩ H,SZ b⟩
def Nf(K:B'):V->NW Int->NW Int->NW Int->Hp->VK->Prop:=λx lo h st H Q=>∃(a:C') (n:ab Int) (c:Int),x=.ref a/\SqL K H a (n.map V.int)/\st=gV c/\0<c/\n.length<=1000/\∀(p:C') (m:ab Int),H p=N4->m.length<=1000->Q (.ref p) (upd H p<|.lst<|sy V.int m)
theorem yB{lo H c:Int}{n:Nat}(a:0<c)(b:0<=lo)(d:H<=n):(o2 lo H c).length<=n:=by
 unfold o2;rw[J',Pm,Oi a];by_cases h:lo<H
 ·rw[Oi h];have e:(H-lo)*1<=(H-lo)*c:=Int.mul_le_mul_of_nonneg_left (by lia) (by lia);have f:(H-lo+c-1)/c<H-lo+1:=by
   refine Int.ediv_lt_of_lt_mul a ?_;grind
  omega
 rw[Oh h];simp
theorem yC{e:Pl}{T:TE}{lo k:NW Pl}{E:Pl}{w y B:TO}{D:Pos}(O:PE X e T)(U:PO X lo w)(W:PO X k y)(Y:PO X (gV E) B):
  PE X (.Subscript e (.Slice lo k (gV E) D) Z) (λd H Q=>T d H λx m=>w d m λl n=>y d n λu o=>B d o λc p=>Nf X.K x l u c p Q):=by
 intro N s d H Q I h;refine Yo<|bu (O N s d H _ I h) λv s1 ⟨x,m,I1,r1,q1⟩=>wpAny_Slice<|bu (U N s1 d m _ I1 q1) λF s2 ⟨l,n,I2,pl,q2⟩=>bu (W N s2 d n _ I2 q2) λG s3 ⟨u,o,I3,pu,q3⟩=>bu (Y N s3 d o _ I3 q3) λJ f ⟨c,p,I4,ps,q4⟩=>?_;obtain⟨a,ns,C,rfl,hS,rfl,g,PF,q⟩:=q4;cases r1;have t:Inv X N d p {f with heap:=f.heap.push {cls:=.type "slice",data:=.fields #[F,G,J]}}:=I4.kept λb ob q=>N_ _ q;obtain⟨P,r,L,hz⟩:=t.list hS;have A:=r.length;obtain⟨M,hv,hm⟩:=pG (gH r)<|o2 (QP l u (gV C) P.toArray.size).1 (QP l u (gV C) P.toArray.size).2.1 _;have j:M.length<=1000:=by
  refine O6 hm (O6 (yB (n:=P.toArray.size) g ?_ ?_)<|by simp_all)
  ·cases l with
   |none=>simp[QP,g]
   |some i=>
    simp only[QP,Sf,Oi g]
    omega
  cases u with
  |none=>simp[QP,g]
  |some i=>
   simp only[QP,Sf,Oi g]
   omega
 show wpAny _ X.A _ _ _ _
 refine Ya L.isList.typeIs slot_list_getitem.lookup ?_ (by with_unfolding_all rfl);refine V6 L.isList (Yj ..) pl pu ps (by lia) (⟨.ref _,_,t.laid (λb ob q=>N_ _ q) (N1 _) ?_,rfl,q _ M (t.hok.fresh<|N1 _) j⟩) (by simp_all);exists by rw[J'];exact OQ<|ai j,_,0,hv;exact OJ _ rfl
noncomputable def Jf(K:B')(a:C'):It:=
 ⟨λi H=>∃X x,SqL K H a X/\X[i]?=gV x,λi H x h=>∃t v,H t=N4/\x=.ref t/\h=upd H t (.tup [.int i,v])/\∀X,SqL K H a X->X[i]?=gV v,λi H=>∃X,SqL K H a X/\X.length<=i⟩
theorem yD{P:Of}{w:OE}{K:B'}{L:ab Pl}{k1:Nat}{M:Pos}(a e t:C')(Wi:e≠t):si P w K (.Tuple L k1 M) (Jf K a) [e,t] e (λi h=>(∃O,IsEnum h e t i O)/\h.IsListIter t a i) where
 mem:=by simp
 obj:=λi h st b f=>by
  obtain⟨⟨O,g⟩,o,j,V,Q⟩:=st;obtain rfl|f:=Oz.mp f
  ·exact⟨_,g,λv z=>by
    simp_all⟩
  have e:b=t:=N9.mp f;subst e;exact⟨o,j,λv z=>by lia⟩
 keep:=λi h h' st k=>by
  obtain⟨⟨O,g⟩,j⟩:=st;exact⟨⟨O,k e (by simp) _ g⟩,j.at λo e=>k t (by simp) o e⟩
 item:=by
  intro X T U W d i Oc s σ H E I B st Y;subst T U W;obtain⟨xs,x,G,Z⟩:=Y;obtain⟨P3,rv,p,hz⟩:=I.list G;obtain⟨u,hu,ru⟩:=rv.get Z;obtain⟨⟨O,g⟩,j⟩:=st;obtain⟨f0,f1,f2,f3,f4,f5⟩:=B e (by simp);obtain⟨g0,J,g2,g3,g4,g5⟩:=B t (by simp);refine wpAny_pyNext_enum_item g j p.isList (x:=u) (by simp_all) Wi λh' ho C ht an hk=>?_;refine⟨_,rfl,wpAny_letOwnedTupleGo_enum ho λl ac A=>?_⟩;have D:e<s.heap.objs.size:=On g;have Wy:t<s.heap.objs.size:=by
   obtain⟨o,q,V⟩:=j;exact On q
  have y:∀b o,b≠e->b≠t->s.heap.get? b=gV o->l.get? b=gV o:=λb o h3 Q q=>A.extBut b o h3<|hk b o h3 Q q;have I1:Inv X Oc σ (upd H s.heap.objs.size<|.tup [.int i,x]) {s with heap:=l,toks:=s.toks+1}:=by
   have F:H s.heap.objs.size=none:=I.hok.fresh<|N1 _;have am:l.get? _=gV {cls:=.type _,data:=.seq #[.int i _,u]}:=A.extBut _ _ (RX D) ht;have N:∀b o,H b=gV o->b≠e/\b≠t:=λb o q=>(by lia);refine I.step (ch:=[e,t]) (λb f=>?_) (λb o V V d q V=>?_) (λb o V V d q V=>⟨o.slots,?_⟩) (λb o V q n=>?_) (λb o d q=>⟨o,?_⟩) (λb ys q=>?_) (λb ob ys q=>?_) (λb ps q=>⟨#[],?_⟩) (λm hm=>?_) (λb ob q=>?_) I.bare
   ·obtain rfl|f:=Oz.mp f
    ·exact⟨f3,f1,f4,f5⟩
    have z:=N9.mp f;subst z;exact⟨g3,J,g4,g5⟩
   ·simp_all
   ·simp_all
   ·rwa[af<|OF<|On q]
   ·simp_all
   ·rwa[af<|ah q F]
   ·rwa[af<|ah q F]
   ·rw[af<|ah q F,q];simp
   ·obtain⟨o,L,ep,ho,r⟩:=hm;exact⟨o,L,ep,y _ o (Pw f1) (Pw J) ho,r⟩
   by_cases f:b=s.heap.objs.size
   ·subst f;rw[aa]at q;cases q;exact⟨by show 2<=sizeLine;decide,[.int i _,u],.cons ⟨_,rfl⟩<|.cons ru .nil,⟨_,am,rfl,_,rfl⟩⟩
   rw[af f]at q;refine(I.hok b ob q).stay (λc v d z=>?_) (λc z=>by rwa[af<|ah z F]) λc ys z=>by rwa[af<|ah z F]
   obtain d|d:=d
   ·subst d;exact y _ v (N _ _ q).1 (N _ _ q).2 z
   exact y _ v (N _ _ d).1 (N _ _ d).2 z
  refine⟨.ref _,_,I1,rfl,⟨s.heap.objs.size,x,I.hok.fresh<|N1 _,rfl,rfl,λys hy=>by rwa[I.list_inj hy G]⟩,⟨⟨u,by simpa using ac⟩,C.at λo q=>A.extBut t o (Pw Wi) q⟩,λb f=>?_⟩;have Sv:b<s.heap.objs.size:=by
   obtain rfl|f:=Oz.mp f
   ·exact D
   rwa[N9.mp f]
  rw[af<|OF Sv];exact(B b f).1
 done:=by
  intro X T U W d i Oc s σ H E I B st Y;subst T U W;obtain⟨xs,G,Z⟩:=Y;obtain⟨P3,rv,p,hz⟩:=I.list G;obtain⟨⟨O,g⟩,j⟩:=st;obtain⟨g0,J,g2,g3,g4,g5⟩:=B t (by simp);have hl:=rv.length;exact wpAny_pyNext_enum_end (I.ok.hd d) g j p.isList (by simp;simp_all) λh' eb=>⟨rfl,I.turned (λb o f e=>eb b o f e) g0 J g3 g4 g5⟩
 self:=λV V V V V st h=>by
  obtain⟨⟨O,g⟩,V⟩:=st;exact YJ g h
def yE(f:V->Hp->Prop):ab V->Hp->Prop
 |[x],H=>f x H
 |_,_=>False
theorem ig:∀{v:ab V} {H:Hp},yE f v H->∃x,v=[x]/\f x H
 |[x],_,h=>⟨x,rfl,h⟩
def Lb(K:B')(t:TE):TI:=λb H R=>t b H λx h=>∃a,x=.ref a/\(∃X,SqL K h a X)/\R (Jf K a) h
theorem jH{E:ab Pl}{n:Nat}{A:Pos}{p P:Pos}(o:Gl X "enumerate")(r:X.mg "enumerate"=N4)(t:PE X l T)(g:ON [l] X.env=[(NZ,Qs l X.env)]:=by rfl):
  PI X (.Tuple E n A) (.Call (.Name "enumerate" p) [l] [] P) (Lb X.K T):=by
 intro O s j H R I h;have v:=aD t (gG) (by rw[g];rfl);refine Call_<|c7 I o r boot_enumerate<|PM (bu (v P O s j H (yE _) I h) λU d ⟨L,c,i,w,Q⟩=>?_) g rfl
 obtain⟨x,e,a,y,⟨k,z⟩,q⟩:=ig Q;subst e y;obtain⟨u,rfl,B⟩:=eu w;cases B;obtain⟨P3,M,C,N⟩:=i.list z;refine call_enumerate_list C.isList λD m hit F G=>YJ m ?_;have J:Inv X O j c {d with heap:=D}:=i.kept G;refine⟨d.heap.objs.size+1,[d.heap.objs.size+1,d.heap.objs.size],_,_,c,rfl,J,yD a _ _<|Nat.succ_ne_self _,⟨⟨_,m⟩,hit⟩,λb f=>?_,q⟩;obtain rfl|f:=Oz.mp f
 ·exact i.fpOk (TZ _)<|i.hok.fresh<|TZ _
 rw[N9.mp f];exact i.fpOk (N1 _)<|i.hok.fresh<|N1 _
theorem eA{K:B'}{a:C'}{X:ab V}{g:TG}{T:TS}{D:g7}{b:St}{H:Hp}(Pv:Nat->St->Hp->Prop)(j:Pv 0 b H)(l:∀i b H,i<=X.length->Pv i b H->SqL K H a X)
  (s:∀i x b H t,X[i]?=gV x->Pv i b H->H t=N4->g (.ref t) b (upd H t<|.tup [.int i,x]) λc f=>T {D with nx:=Pv<|i+1,ct:=Pv<|i+1,bk:=D.nx} c f) (k:∀b H,Pv X.length b H->D.nx b H):
  ∃W:Nat->Nat->St->Hp->Prop,(∃m,W 0 m b H)/\∀i m b H,W i m b H->
   ((Jf K a).stop i H/\D.nx b H)\/((Jf K a).go i H/\∃N:St->Hp->Prop,(∀d h,N d h->∃M,M<m/\W (i+1) M d h)/\∀x h,(Jf K a).yld i H x h->g x b h λc f=>T {D with nx:=N,ct:=N,bk:=D.nx} c f):=by
 exists λi m b H=>m=X.length-i/\i<=X.length/\Pv i b H,(by simp_all);rintro i m b H ⟨rfl,n,p⟩;have q:=l i b H n p;by_cases Q:i<X.length
 ·refine .inr ⟨⟨X,X[i],q,by simp⟩,Pv<|i+1,λd h P=>⟨X.length-(i+1),by grind,rfl,Q,P⟩,λx h y=>?_⟩;obtain⟨t,v,o,rfl,rfl,y⟩:=y;exact s i v b H t (y X q) p o
 have e:i=X.length:=by lia
 subst e;exact .inl ⟨⟨X,q,N1 _⟩,k b H p⟩
end L2
namespace L2
section
open PySem
theorem EV(e:X.K=K):IxR X (GE K):=by subst e;exact Ay
theorem ff(e:X.K=K):OpR X (PL .In) (Mt K NZ):=by subst e;exact kn
theorem i_(e:X.K=K):OpR X (PL .NotIn) (Mt K NU):=by subst e;exact gI
theorem yF(e:X.K=K):dL X (.builtin "len") (ID K):=by subst e;exact e_
end
end L2
namespace OD
open PySem L2
noncomputable def absI(i:Int):Int:=if i<0 then -i else i
theorem absI_pos(h:0<=i):absI i=i:=by unfold absI;rw[Oh<|by simp_all]
noncomputable def ii(c:ab Int):Oe:=.tuple<|c.map .int
def WS(t:Str):Prop:=∀c∈t.cps.toList,c=119\/c=115
theorem cU{n:ab Int}{i:Nat}{x:V}(h:(n.map V.int)[i]?=gV x):∃z,x=.int z/\n[i]?=gV z:=by
 cases e:n[i]? with
 |none=>simp_all
 |some z=>
  simp_all
theorem AZ(n:ab Int)(lo h:NW Int):∃m:ab Int,eJ (n.map V.int) lo h=m.map V.int/\m.length<=n.length:=by
 unfold eJ;rw[J'];refine⟨(n.drop<|HT.sIx n.length 0 lo).take<|HT.sIx n.length n.length h-HT.sIx n.length 0 lo,?_,?_⟩
 ·simp
 rw[OC,P7];exact O6 (UN _ _) (hJ _ _)
theorem wH(a b:Str):(a++b).cps.toList=a.cps.toList++b.cps.toList:=by
 show(a.cps++b.cps).toList=_
 simp
theorem sR(h:e.cps.toList=[]):∀a,(m8 e a).cps.toList=(a.map λs=>s.cps.toList).flatten
 |[]=>rfl
 |[x]=>by
  show x.cps.toList=_
  simp
 |x::y::r=>by
  show((x++e)++m8 e _).cps.toList=_
  rw[wH,wH,h,sR h<|y::r];simp
def mZ(s:Str):Prop:=s=⟨#[119]⟩\/s=⟨#[115]⟩
theorem m6:∀{a:ab Str},(∀s∈a,mZ s)->(a.map λs=>s.cps.toList).flatten.length=a.length/\∀ch∈(a.map λs=>s.cps.toList).flatten,ch=119\/ch=115
 |[],_=>by simp
 |s::r,h=>by
  obtain⟨b,c⟩:=m6 λz d=>h z<|Ov _ d;rw[OH,List.flatten_cons];obtain rfl|rfl:=h s Om
  ·refine⟨by rw[NX,b];show 1+r.length=r.length+1;exact Nat.add_comm _ _,λch H=>?_⟩;obtain z|z:=OB.mp H
   ·exact .inl (by simpa using z)
   exact c ch z
  refine⟨by rw[NX,b];show 1+r.length=r.length+1;exact Nat.add_comm _ _,λch H=>?_⟩;obtain z|z:=OB.mp H
  ·exact .inr (by simpa using z)
  exact c ch z
theorem Lc:(NV "").cps.toList=[]:=by rfl
theorem A1(h:∀s∈a,mZ s):(YU "" a).length=a.length/\WS (YU "" a):=by
 have e:YU (NV "") a=m8 _ a:=eq_of_beq<|Zr _ a;obtain⟨b,c⟩:=m6 h;have E:=sR Lc a;refine⟨?_,?_⟩
 ·rw[e];show(m8 _ a).cps.size=_
  rwa[<-OL,E]
 intro C H;rw[e,E]at H;exact c C H
theorem pH:∀{a:ab Str},(∀s∈a,mZ s)->(a.map λs=>s.length).sum=a.length
 |[],_=>rfl
 |s::r,h=>by
  rw[OH,List.sum_cons,pH λz H=>h z<|Ov _ H,Os];obtain rfl|rfl:=h s Om
  ·show 1+_=_;exact Nat.add_comm _ _
  show 1+_=_;exact Nat.add_comm _ _
theorem Ld(h:0<=j)(H:j<2):∃c,iU (NV "ws").cps.toList j=gV c/\mZ ⟨#[c]⟩:=by
 obtain rfl|rfl:=(by lia:j=0\/j=1)
 ·exact⟨119,by rfl,.inl rfl⟩
 exact⟨115,by rfl,.inr rfl⟩
def CL(H:Hp)(c:ab Int)(v:V):Prop:=∃t,v=.ref t/\H t=gV (.tup<|c.map V.int)
def CLs(H:Hp):ab (ab Int)->ab V->Prop:=Paired<|CL H
theorem CL.mono(h:CL H c v)(k:Same H a):CL a c v:=let ⟨t,e,z⟩:=h;⟨t,e,k _ _ z⟩
theorem CL.upd(h:CL H c v)(a:H q=gV (.lst x)):CL (upd H q o) c v:=by
 obtain⟨t,e,z⟩:=h;exact⟨t,e,by rwa[af<|bj z a<|by intro w;cases w]⟩
theorem CLs.mono(k:Same H a):∀{c:ab (ab Int)} {x:ab V},CLs H c x->CLs a c x:=λh=>Paired.mapP h λz z h=>h.mono k
theorem CLs.upd(a:H q=gV (.lst y)):∀{c:ab (ab Int)} {x:ab V},CLs H c x->CLs (upd H q o) c x
 |_,_,.nil=>.nil
 |_,_,.cons h t=>.cons (h.upd a)<|CLs.upd a t
theorem CLs.snoc(h:CL H c v)(t:CLs H C x):CLs H (C++[c]) (x++[v]):=Paired.snoc t h
theorem CLs.length(h:CLs H c x):c.length=x.length:=Paired.length h
theorem CLs.get:∀{C:ab (ab Int)} {x:ab V} {j:Nat} {v:V},CLs H C x->x[j]?=gV v->∃c,C[j]?=gV c/\CL H c v:=by
 intro C x j v h e;change Paired _ _ _ at h;induction h generalizing j with
 |nil=>cases e
 |cons h t i=>
  cases j with
  |zero=>exact⟨_,rfl,by simp_all⟩
  |succ j=>exact i e
theorem CL.rd(h:CL H c v):RD H (ii c) v:=by
 obtain⟨t,rfl,z⟩:=h;exact aQ z<|sL c
theorem CLs.rds:∀{c:ab (ab Int)} {x:ab V},CLs H c x->cO H (c.map ii) x
 |_,_,.nil=>au
 |_,_,.cons h t=>ag h.rd<|CLs.rds t
theorem CL.of(h:RD H (ii c) v):CL H c v:=by
 obtain⟨a,x,rfl,b,d⟩:=al h;refine⟨a,rfl,?_⟩;rw[b];have:∀(N:ab Int) (x:ab V),cO H (N.map Vu) x->x=N.map V.int:=by
  intro N
  induction N with
  |nil=>intro x r;exact bP r
  |cons n r i=>
   intro x z;obtain⟨y,Y,rfl,e,t⟩:=aj z;have E:y=.int n:=by
    assumption
   rw[E,i Y t];rfl
 rw[this c x d]
theorem gL:∀C:ab (ab Int),P8 (C.map ii)=NU
 |[]=>rfl
 |c::r=>by
  show(P8 _&&P8 _)=NU
  rw[PySem.W.ke_canLayAll0,gL r];rfl
theorem yG(h:d.canLay0=NU)(H:d.depth<=64):Qf d=true:=by
 unfold Qf;rw[h,Ob H];rfl
theorem sS:Qf (.list [])=true:=by rfl
theorem gM(c:ab Int):O7 (ii c) (.tuple [])=decide (c=[]):=by
 cases c with
 |nil=>rfl
 |cons n r=>rfl
noncomputable def lit(i:Nat)(b:N6):Int:=if b=NU then(i:Int)+1 else -((i:Int)+1)
noncomputable def dC(l:Int)(c:ab Int):NW (ab Int):=if c.contains l=NU then N4 else gV (c.filter λo=>!decide (o=-l))
noncomputable def behind(l:Int)(c:ab (ab Int)):ab (ab Int):=c.filterMap<|dC l
noncomputable def hit(B:ab N6)(l:Int):N6:=match B[(absI l-1).toNat]? with
 |some b=>b == decide (0<l)
 |none=>NZ
theorem sU(i:Nat)(b:N6):absI (lit i b)=(i:Int)+1:=by
 unfold absI lit;cases b with
 |true=>rfl
 |false=>simp
theorem fg{a:Type}{f g:a->N6}:∀{X:ab a},(∀x∈X,f x=g x)->X.any f=X.any g
 |[],_=>rfl
 |x::r,h=>by
  rw[Qd,Qd,h x Om,fg λz H=>h z<|Ov _ H]
theorem qD(c:ab Int)(l:Int):c.any (λx=>decide (x=l))=c.contains l:=by
 rw[PV];simp
theorem bq(c:ab Int)(l:Int):jg (.int l) (c.map V.int)=c.contains l:=by
 unfold jg;rw[S8,<-qD];rfl
theorem cz(q:St)(p:V->N6)(f:V->V)(E:d=N4::q)(k:h a=gV (.tup X))(g:h D=N4)(P:X.length<=9000)
  (t:∀x∈X,∀H R,Same h H->R (p x) H->T (gV x::q) H R)
  (n:∀x∈X,p x=NU->∀H R,Same h H->R (f x) H->o (gV x::q) H R)
  (r:Q (.ref D) (upd h D<|.lst<|(X.filter p).map f)):i9 (Io K a) D (df 0) T o d h Q:=by
 have N:=ah k g;refine AW (xs:=X) (λi b y c=>(∃v,b=v::q)/\y=((X.take i).filter p).map f/\c=upd h D (.lst y)) ⟨⟨N4,E⟩,rfl,rfl⟩ ?_ ?_ ?_
 ·rintro i b y c z ⟨z,z,rfl⟩;exact⟨aa,SqT.of<|by rwa[af N]⟩
 ·rintro i x b y c l ⟨⟨v,rfl⟩,W,rfl⟩;have m:=N7 l;have e:X.take (i+1)=X.take i++[x]:=by rw[OM,l];rfl
  refine t x m _ _ (ad g _) ?_;cases j:p x with
  |true=>
   refine aq<|n x m j _ _ (ad g _) ⟨aa,?_,⟨_,rfl⟩,?_,gx⟩
   ·have:y.length<=X.length:=by
     rw[W,J'];exact O6 (Ph _ _) (by rw[OC];exact UN _ _)
    exact cg (O6 this (O6 P (by decide)))
   simp_all
  |false=>
   simp_all
 simp_all
theorem cE(q:St)(p:V->N6)(f:V->V)(E:d=N4::q)(k:h a=gV (.lst X))(g:h D=N4)(P:X.length<=9000)
  (t:∀x∈X,∀H R,Same h H->R (p x) H->T (gV x::q) H R)
  (n:∀x∈X,p x=NU->∀H R,Same h H->R (f x) H->o (gV x::q) H R)
  (r:Q (.ref D) (upd h D<|.lst<|(X.filter p).map f)):i9 (Em K a) D (df 0) T o d h Q:=by
 have N:=ah k g;refine cy (xs:=X) (λi b y c=>(∃v,b=v::q)/\y=((X.take i).filter p).map f/\c=upd h D (.lst y)) ⟨⟨N4,E⟩,rfl,rfl⟩ ?_ ?_ ?_
 ·rintro i b y c z ⟨z,z,rfl⟩;exact⟨aa,SqL.of<|by rwa[af N]⟩
 ·rintro i x b y c l ⟨⟨v,rfl⟩,W,rfl⟩;have m:=N7 l;have e:X.take (i+1)=X.take i++[x]:=by rw[OM,l];rfl
  refine t x m _ _ (ad g _) ?_;cases j:p x with
  |true=>
   refine aq<|n x m j _ _ (ad g _) ⟨aa,?_,⟨_,rfl⟩,?_,gx⟩
   ·have:y.length<=X.length:=by
     rw[W,J'];exact O6 (Ph _ _) (by rw[OC];exact UN _ _)
    exact cg (O6 this (O6 P (by decide)))
   simp_all
  |false=>
   simp_all
 simp_all
theorem ij(r:St)(f:Nat->V)(e:c=N4::r)(g:h D=N4)(m:n<=9000)
  (t:∀x H R,R NU H->T (gV x::r) H R)
  (j:∀i,i<n->∀H R,Same h H->R (f i) H->k (gV (.int (0+(i:Int)))::r) H R)
  (q:Q (.ref D) (upd h D<|.lst<|(O1 n).map f)):i9 (En 0 n) D (df 0) T k c h Q:=by
 refine fb (λi a y b=>(∃d,a=d::r)/\y=(O1 i).map f/\b=upd h D (.lst y)) ⟨⟨N4,e⟩,rfl,rfl⟩ ?_ ?_ ?_
 ·rintro i a y b z ⟨z,z,rfl⟩;exact aa
 ·rintro i a y b l ⟨⟨d,rfl⟩,v,rfl⟩;refine t _ _ _<|aq<|j i l _ _ (ad g _) ⟨aa,?_,⟨_,rfl⟩,?_,gx⟩
  ·rw[v,J',Pm];exact cg (by lia)
  rw[Q3,Oy,<-v];rfl
 simp_all
theorem dh(c:ab Int)(p:Int->N6)(q:V->N6)(h:∀i,q (.int i)=p i):((c.map V.int).filter q).map (λx=>x)=(c.filter p).map V.int:=by
 rw[Vm];rw[List.filter_map];refine OY _<|Uq λx z=>h x
theorem cX{c:ab Int}{x:V}(h:x∈c.map V.int):∃z∈c,x=.int z:=by
 obtain⟨z,H,e⟩:=OT.mp h;exact⟨z,H,e.symm⟩
theorem Ee{x y:V}{A B:Prop}(h:x=y)(b:B):if(!decide (x=y))=NU then A else B:=by
 rwa[Ob h]
theorem EW{B:ab N6}{i:Nat}{x:V}(h:(B.map V.bl)[i]?=gV x):∃b,x=.bl b/\B[i]?=gV b:=by
 cases e:B[i]? with
 |none=>simp_all
 |some z=>
  simp_all
noncomputable def A2(p:Int->N6):V->N6
 |.int z=>p z
 |_=>NZ
noncomputable def GR(f:Int->V):V->V
 |.int z=>f z
 |x=>x
theorem u9{x:ab V}{f:V->V}:(x.filter λz=>NU).map f=x.map f:=by
 rw[Qg.mpr λz z=>rfl]
end OD
namespace L2
open PySem PySem.Spec PyProof.Rows
def Ng:R2:=λx y H Q=>∃(D:Oe) (s:ab Oe),RD H D x/\RD H (.list s) y/\D.canLay0=NU/\P8 s=NU/\D.depth<=60/\Q (.bl<|s.any λd=>O7 d D) H
theorem A3(j:X.A.units+64<RT):OpR X (PL .In) Ng:=by
 intro O s k H x y v u Q I r a h;obtain⟨d,D,b,c,e,f,l,q⟩:=h;obtain⟨A,g⟩:=cD I d x v b r;obtain⟨B,i⟩:=cD I _ y u c a;refine SeqAt.in_list_reads i g f e ?_ ⟨.bl _,H,I,rfl,q⟩;have:min (Tv D) _<=d.depth:=UN _ _;lia
def jI(m:Str->NW M')(x:Str)(v:V):Prop:=∃u,m x=gV u/\RelV v u
theorem bK(h:Gl X x)(H:jI X.mg x v)(d:(x == ("__debug__":Str))=false:=by decide):PE X (.Name x p) (tC v):=by
 obtain⟨u,a,b⟩:=H;exact Ei h a b d
end L2
namespace OD
open PySem L2
noncomputable def bJ(t:Str)(i:Nat):N6:=decide (t.cps.toList[i]?=gV 119)
noncomputable def ax(b:N6):Str:=if b=NU then NV "wisher" else NV "spoiler"
theorem sV:NV "wisher"≠NV "spoiler":=by decide+kernel
theorem yH(h:ax a=ax b):a=b:=by
 cases a<;>cases b
 ·rfl
 ·exact absurd h.symm sV
 ·exact absurd h sV
 rfl
theorem dD(a b:N6):decide (V.str (ax a)=V.str (ax b))=decide (a=b):=by
 refine R_.mpr ⟨λh=>yH<|V.str.inj h,λh=>by rw[h]⟩
noncomputable def dE(t:Str):Nat->Nat->ab (ab Int)->N6
 |0,_,c=>if c.contains []=NU then NZ else c.isEmpty
 |f+1,i,c=>if c.contains []=NU then NZ else if c.isEmpty=NU then NU else
   if bJ t i=NU then dE t f (i+1) (behind (lit i NZ) c) || dE t f (i+1) (behind (lit i NU) c)else dE t f (i+1) (behind (lit i NZ) c)&&dE t f (i+1) (behind (lit i NU) c)
theorem sW(h:c.contains []=NU):dE t f i c=false:=by
 cases f<;>unfold dE<;>rw[Oi h]
theorem sX:dE t f i []=true:=by
 cases f<;>rfl
theorem kF{t:Str}{f i:Nat}(h:c.contains []=NZ)(H:c.isEmpty=NZ):
  dE t (f+1) i c=if bJ t i=NU then dE t f (i+1) (behind (lit i NZ) c) || dE t f (i+1) (behind (lit i NU) c)else dE t f (i+1) (behind (lit i NZ) c)&&dE t f (i+1) (behind (lit i NU) c):=by
 conv=>lhs;unfold dE
 rw[h,H,Oh Oa,Oh Oa]
theorem EY(h:c.contains []=NZ)(H:c.isEmpty=NZ)(b:N6)(e:dE t f (i+1) (behind (lit i b) c)=bJ t i):dE t (f+1) i c=bJ t i:=by
 rw[kF h H];cases g:bJ t i with
 |true=>
  rw[g]at e;cases b
  ·rw[e];rfl
  simp_all
 |false=>
  rw[g]at e;cases b
  ·rw[e];rfl
  simp_all
theorem A4(h:C.contains []=NZ)(H:C.isEmpty=NZ)(e:dE t f (i+1) (behind (lit i NZ) C)≠bJ t i)(E:dE t f (i+1) (behind (lit i NU) C)≠bJ t i):dE t (f+1) i C=!bJ t i:=by
 rw[kF h H];lia
def Rng(i n:Nat)(C:ab (ab Int)):Prop:=∀c∈C,∀l∈c,(i:Int)<absI l/\absI l<=(n:Int)
def Small(C:ab (ab Int)):Prop:=C.length<=900/\∀c∈C,c.length<=900
theorem m7(h:c∈behind l C):∃d∈C,d.contains l=NZ/\c=d.filter λo=>!decide (o=-l):=by
 obtain⟨d,H,e⟩:=TR.mp h;unfold dC at e;cases g:d.contains l with
 |true=>rw[g]at e;cases e
 |false=>
  rw[g]at e;exact⟨d,H,g,(Ot e).symm⟩
theorem Small.behind(h:Small C)(l:Int):Small (behind l C):=by
 refine⟨O6 (R5 _ _) h.1,λc H=>?_⟩;obtain⟨d,a,z,rfl⟩:=m7 H;exact O6 (Ph _ _)<|h.2 d a
theorem aB(l:Int):(0<=l/\absI l=l)\/(l<0/\absI l=-l):=by
 by_cases h:l<0
 ·exact .inr ⟨h,Oi h⟩
 exact .inl ⟨Int.le_of_not_gt h,Oh h⟩
theorem yI(i:Nat)(b:N6):lit i b=(i:Int)+1\/lit i b=-((i:Int)+1):=by
 unfold lit
 split
 ·simp
 simp
theorem Rng.behind(h:Rng i n C)(b:N6):Rng (i+1) n (behind (lit i b) C):=by
 intro c H l a;obtain⟨d,f,g,rfl⟩:=m7 H;obtain⟨X,x⟩:=Oq.mp a;have j:=h d f l X;have N:l≠lit i b:=λe=>by
  grind
 have:=aB l;have:=yI i b;lia
theorem Rng.fuel(h:Rng i n C)(H:C.contains []=NZ)(a:C.isEmpty=NZ):i<n:=by
 cases C with
 |nil=>cases a
 |cons c r=>
  cases c with
  |nil=>
   simp_all
  |cons l c=>
   have:=h _ Om l Om;lia
theorem any_nil(C:ab (ab Int)):((C.map ii).any λd=>O7 d<|.tuple [])=C.contains []:=by
 rw[S8];have e:(λc=>O7 (ii c)<|.tuple [])=λc:ab Int=>decide (c=[]):=by
  funext c
  exact gM c
 have E:((λd=>O7 d<|.tuple [])∘ii)=λc:ab Int=>decide _:=e;rw[E,PV];simp
theorem GS:decide (V.str ⟨#[ch]⟩=V.str (NV "w"))=decide (ch=119):=by
 have e:NV "w"=⟨#[119]⟩:=by rfl
 simp_all
theorem A5(h:t.cps.toList[i]?=gV ch):bJ t i=decide (ch=119):=by
 unfold bJ;simp_all
end OD
namespace L2
open PySem PySem.Spec PyProof.Rows
noncomputable def yJ(lo:Int)(n:Nat):It:=⟨λi _=>i<n,λi H x h=>h=H/\x=.int (lo-i),λi _=>n<=i⟩
theorem sY{P:Of}{w:OE}{K:B'}{A:Pl}(a:C')(lo:Int)(n:Nat):si P w K A (yJ lo n) [a] a (λi h=>Xm h a (lo+(i:Nat)*(-1)) ((n:Int)-(i:Nat)) (-1)) where
 mem:=by simp
 obj:=λi h st b c=>by
  have e:b=a:=by simpa using c
  subst e;exact⟨_,st,λv z=>by
   have Z:=z;cases Z⟩
 keep:=λi h d st k=>k a (by simp) _ st
 item:=by
  intro X g j l m i O s y H E I f st p;subst g j l;obtain⟨F,q,B,r,u,x⟩:=f a (by simp);have W:=tv (prog:=X.prog) (w:=X.w) (I.ok.hd m) a lo (-1) n;refine W.item i s _ _ p st λv d T C Q D=>?_;obtain⟨t,rfl⟩:=C;have G:Inv X O y H {s with heap:=d,toks:=T}:=I.turned (λb o c e=>D b o (by simpa using c) e) F q r u x;refine⟨_,rfl,sj Q rfl rfl (by rfl) ⟨.int<|lo-i,H,G,⟨t,?_⟩,⟨rfl,rfl⟩,Q,λb c=>(f b c).1⟩⟩;lia
 done:=by
  intro X g j l m i O s y H E I f st p;obtain⟨F,q,B,r,u,x⟩:=f a (by simp);exact Wy (I.ok.hd m) st (by have:n<=i:=p;lia) λd J=>⟨rfl,I.turned (λb o c e=>J b o c e) F q r u x⟩
 self:=λY Y Y Y Y st h=>Wz st h
theorem yK{O:ab (C'×Obj)}{a:St}{H:Hp}{s:N8}{R:It->Hp->Prop}{E:M'->N8->Prop}{lo h:Int}{t u v:Tok}{T:Nat}(I:Inv X O a H s)(c:-(2^62)<=lo)(d:lo<2^62)(f:-(2^62)<=h)(g:h<2^62)
  (q:R (yJ lo (lo-h).toNat) H):wpAny (OI X.prog X.w) X.A (j'<|.ref s.heap.objs.size) (MK X O a m R) E {s with heap:=s.heap.push {cls:=.type "range",data:=.fields #[.int lo t,.int h u,.int (-1) v]},toks:=T}:=by
 refine X6 (ZM ..) (PySem.W.small_down c d f g) ?_;have i:Inv X O a H {s with heap:=s.heap.push {cls:=.type "range",data:=.fields #[.int lo t,.int h u,.int (-1) v]},toks:=T}:=I.kept λb o e=>N_ _ e;refine⟨(s.heap.push {cls:=.type _,data:=.fields _}).objs.size,[(s.heap.push {cls:=.type _,data:=.fields _}).objs.size],_,_,H,rfl,
  i.kept λb o e=>N_ _ e,sY _ lo _,?_,λb j=>?_,q⟩
 ·have k:lo+((0:Nat))*(-1)=lo:=by simp
  have l:(((lo-h).toNat))-((0:Nat))=Wr lo h (-1):=by rw[PySem.W.rangeSize_down];grind
  show Xm _ _ _ ((((lo-h).toNat))-((0:Nat))) _
  rw[k,l];exact OJ _ rfl
 have e:b=(s.heap.push {cls:=.type "range",data:=.fields #[.int lo t,.int h u,.int (-1) v]}).objs.size:=by simpa using j
 subst e;exact i.fpOk (N1 _)<|i.hok.fresh<|N1 _
def Le(t:TA):TI:=λa H R=>t a H λv h=>∃i j:Int,v=[.int i,.int j,.int (-1)]/\(-(2^62)<=i/\i<2^62/\ -(2^62)<=j/\j<2^62)/\R (yJ i (i-j).toNat) h
theorem yL{X:Cx}{g:Pl}{a b c:Pl}{T:TA}{p P:Pos}(k:Gl X "range")(m:X.mg "range"=N4)(l:PA X [a,b,c] T)(n:ON [a,b,c] X.env=(NZ,Qs a X.env)::ON [b,c] X.env:=by rfl)(Z:(Rl P<|ON [b,c] X.env).any (·.1)=false:=by rfl):
  PI X g (.Call (.Name "range" p) [a,b,c] [] P) (Le T):=by
 intro O s o H R I h;refine Call_<|c7 I k m Ym<|PM (bu (l P O s o H _ I h) λU B Y=>?_) n Z;obtain⟨C,D,u,v,Q⟩:=Y;obtain⟨i,j,e,⟨Q,w,x,y⟩,q⟩:=Q;subst e;cases v with
 |cons r d=>
  cases d with
  |cons z d=>
   cases d with
   |cons f d=>
    cases d;obtain⟨t,rfl⟩:=r;obtain⟨E,rfl⟩:=z;obtain⟨A,rfl⟩:=f;exact call_range_3 (by decide) (yK u Q w x y q) (.inl<|rfl)
theorem m9{lo:Int}{n:Nat}{g:TG}{t:TS}{D:g7}(Pv:Nat->St->Hp->Prop)(f:Pv 0 a H)
  (s:∀i a H,i<n->Pv i a H->g (.int<|lo-i) a H λb d=>t {D with nx:=Pv<|i+1,ct:=Pv<|i+1,bk:=D.nx} b d) (j:∀a H,Pv n a H->D.nx a H):
  ∃W:Nat->Nat->St->Hp->Prop,(∃m,W 0 m a H)/\∀i m a H,W i m a H->
   ((yJ lo n).stop i H/\D.nx a H)\/((yJ lo n).go i H/\∃N:St->Hp->Prop,(∀c h,N c h->∃M,M<m/\W (i+1) M c h)/\∀x h,(yJ lo n).yld i H x h->g x a h λb d=>t {D with nx:=N,ct:=N,bk:=D.nx} b d):=by
 exists λi m a H=>m=n-i/\i<=n/\Pv i a H,⟨n,by simp,Ou _,f⟩;rintro i m a H ⟨rfl,k,p⟩;by_cases r:i<n
 ·refine .inr ⟨r,Pv<|i+1,λc h P=>⟨n-(i+1),Nat.sub_lt_sub_left r (Sg _),rfl,r,P⟩,λx h y=>?_⟩;obtain⟨e,y⟩:=y;subst e y;exact s i a _ r p
 have e:i=n:=Nat.le_antisymm k (Zx r)
 subst e;exact .inl ⟨N1 _,j a H p⟩
end L2
namespace OD
open PySem L2
theorem sZ(k:Nat):((2:Int)^k)=((2^k:Nat):Int):=by
 rfl
theorem wI(n:Nat):(1:Int)*2^((n:Int)).toNat=((2^n:Nat):Int):=by
 simp
theorem EZ(n k:Nat):RF ((n:Int)/2^k) 1=((n/2^k%2:Nat):Int):=by
 have e:RF _ 1=(n)/2^k%2:=WM _;assumption
theorem A6(n k:Nat):decide (V.int (RF ((n:Int)/2^k) 1)=V.int 1)=decide (n/2^k%2=1):=by
 rw[EZ];refine R_.mpr ⟨λh=>?_,λh=>?_⟩
 ·lia
 rw[h];rfl
theorem gN(h:Q (a.set i<|gV v) H):df i v a H Q:=h
end OD
namespace L2
open PySem PySem.Spec PyProof.Rows
structure Lf (P:Of)(w:OE)(outer:ab Env)(H:Hp)(s:N8)(H':Hp)(B:O5)(ea:C')(cls a0:M')(s':N8):Prop where
 os:s'.os=s.os
 bare:Vl s'.gens
 fly:Heap.FlyingW B outer ea cls a0 s'.heap
 hok:HOk P w H' B
 keep:∀b o,s.heap.get? b=gV o->H b=N4->b∉rW outer->B.get? b=gV o
 thr:∀b o,s.heap.get? b=gV o->b∉rW outer->∃o',B.get? b=gV o'
 slot:∀b o,s.heap.get? b=gV o->H b=N4->b∈rW outer->∃sl,s'.heap.get? b=gV {o with slots:=sl}
 free:∀b o,s.heap.get? b=gV o->H b=N4->H' b=N4
 tups:∀b xs,H b=gV (.tup xs)->H' b=gV (.tup xs)
 frzs:∀b o u,H b=gV (.frz o u)->H' b=gV (.frz o u)
 tbls:∀b ps,H b=gV (.tbl ps)->∃more,H' b=gV (.tbl<|ps++more)
abbrev XQ:=M'->St->Hp->Prop
def XP(X:Cx)(N:ab (C'×Obj))(b:XQ)(e:M')(d:N8):Prop:=
 ∃(a:St) (H:Hp) (s:N8) (h:Hp) (B:O5) (E:C') (c A:M'),e=.ref E/\Inv X N a H s/\Lf X.prog X.w X.stack H s h B E c A d/\b c a h
end L2
namespace OD
open PySem L2
noncomputable def cA(B:ab N6)(v:Int)(p:N6):V:=if((B.length:Nat):Int)<v then .non else match B[(v-1).toNat]? with
 |some b=>.bl<|b == p
 |none=>.non
theorem m_(h:((b.length:Nat):Int)<v):cA b v p=.non:=by
 unfold cA;rw[Oi h]
theorem kI(c:1<=v)(d:v<=((B.length:Nat):Int)):∃b,iU (B.map V.bl) (v-1)=gV (.bl b)/\cA B v p=.bl (b == p):=by
 obtain⟨w,h,H⟩:=u6 (x:=B.map V.bl) (i:=v-1) (by simp_all) (by rw[J'];lia);obtain⟨b,rfl,a⟩:=EW h;exists b,H;unfold cA;simp_all
theorem s_(B:ab N6)(v:Int)(p:N6):cA B v p=.non\/∃b,cA B v p=.bl b:=by
 unfold cA
 split
 ·exact .inl rfl
 split
 ·exact .inr ⟨_,rfl⟩
 exact .inl rfl
theorem pI(h:1<=absI l):(cA B (absI l) (decide (0<l))=.non/\hit B l=NZ)\/cA B (absI l) (decide (0<l))=.bl (hit B l):=by
 unfold cA hit;by_cases g:((B.length))<absI l
 ·rw[Oi g,O3<|by omega];exact .inl ⟨rfl,rfl⟩
 rw[Oh g];cases e:B[(absI l-1).toNat]? with
 |none=>exact .inl ⟨rfl,rfl⟩
 |some b=>exact .inr rfl
theorem tj(c:ab Int)(B:ab N6):((c.map<|(GR λl=>cA B (absI l) (decide (0<l)))∘V.int).all qC)=true:=by
 rw[R0];refine O0.mpr λl z=>?_;show qC (cA B _ _)=NU
 obtain e|⟨b,e⟩:=s_ B _ _
 ·rw[e];rfl
 rw[e];rfl
theorem u_(c:ab Int)(b:ab N6)(h:∀l∈c,1<=absI l):(c.map<|(GR λl=>cA b (absI l) (decide (0<l)))∘V.int).any g8=c.any (hit b):=by
 rw[S8];refine fg λl H=>?_;show g8 (cA b _ _)=hit b l
 obtain⟨e,E⟩|e:=pI (h l H)
 ·rw[e,E];rfl
 rw[e];rfl
end OD
namespace L2
open PySem PySem.Spec PyProof.Rows
def Lg(K:B'):R2:=λx y H Q=>∃a b X Y,x=.ref a/\y=.ref b/\SqT K H a X/\SqT K H b Y/\Y≠[]/\X.length+Y.length<=sizeLine/\
 (X=[]->Q (.ref b) H)/\(X≠[]->∀p,H p=N4->Q (.ref p) (upd H p<|.tup<|X++Y))
theorem wJ:OpR X (RC .Add) (Lg X.K):=by
 intro N s t H x y v u Q I r i h;obtain⟨a,b,j,Y,rfl,rfl,k,l,w,A,B,C⟩:=h;by_cases f:j=[]
 ·cases r;cases i;obtain⟨P,E,F,V⟩:=I.tuple k;obtain⟨Z,W,G,V⟩:=I.tuple l;have J:=E.nil_iff.mpr f;obtain⟨⟨L,M,m,O⟩,o,p,n,q⟩:=id F;obtain⟨⟨T,D,data2,g⟩,c,d,U,e⟩:=id G;simp only at p q d e;subst p q d e;exact YN ⟨_,o,rfl⟩ ⟨_,c,rfl⟩ Wk X1 Uc TY (Tn _ _)
   (tuple_addW0 a b _ _ n U M D O g<|by simp[J]) ⟨o,c,.ref b,H,I,rfl,B f⟩
 exact EE N s t H _ _ v u Q I r i ⟨a,b,j,Y,rfl,rfl,k,l,f,A,λz=>absurd z w,λV=>C f⟩
end L2
namespace OD
open PySem L2
theorem fE{a b:Type}{F:a->b->Prop}:∀{x:ab a} {u:ab b} (n:Nat),Paired F x u->Paired F (x.take n) (u.take n)
 |_,_,0,_=>.nil
 |_,_,_+1,.nil=>.nil
 |_,_,n+1,.cons h t=>.cons h<|fE n t
theorem fF{a b:Type}{F:a->b->Prop}:∀{x:ab a} {u:ab b} (n:Nat),Paired F x u->Paired F (x.drop n) (u.drop n)
 |_,_,0,h=>h
 |_,_,_+1,.nil=>.nil
 |_,_,n+1,.cons _ t=>fF n t
theorem cF{a b:Type}{F:a->b->Prop}:∀{x y:ab a} {u w:ab b},Paired F x u->Paired F y w->Paired F (x++y) (u++w)
 |_,_,_,_,.nil,h=>h
 |_,_,_,_,.cons h t,g=>.cons h<|cF t g
theorem vc(x:ab V)(k:Nat):eJ x N4 (gV (k:Int))=x.take k:=by
 show(x.drop 0).take (min k _-0)=_
 simp
theorem jJ(x:ab V)(k:Nat):eJ x (gV (k:Int)) N4=x.drop k:=by
 show(x.drop<|min k _).take (x.length-min k _)=_
 by_cases h:k<=x.length
 ·rw[W1 h,Od<|by simp]
 rw[Zw (OQ (Nat.lt_of_not_le h)),Rv<|N1 _,Rv (OQ (Nat.lt_of_not_le h)),List.take_nil]
end OD
namespace L2
open PySem PySem.Spec PyProof.Rows
noncomputable def o6(x:Str)(n:Int):Str:=⟨(QH n.toNat x.cps).foldl (·++·) #[]⟩
end L2
namespace OD
open PySem L2
noncomputable def Jg:Oe->N6
 |.list _=>NU
 |_=>NZ
theorem E1:eM "NoneType" "list"=gV NZ/\eM "bool" "list"=gV NZ/\eM "int" "list"=gV NZ/\eM "str" "list"=gV NZ/\eM "list" "list"=gV NU/\eM "tuple" "list"=gV false:=by
 refine⟨?_,?_,?_,?_,?_,?_⟩<;>decide+kernel
theorem A7(d:Oe)(h:jF d=NZ):QV K (.type<|mV d) (.type "list")=gV (Jg d):=by
 cases d with
 |none=>rfl
 |bool _=>rfl
 |int _=>rfl
 |str _=>rfl
 |list _=>rfl
 |tuple _=>rfl
 |dict _=>rfl
noncomputable def kJ(m:Int):Int->ab Oe->N6
 |_,[]=>NU
 |b,.int i::r=>if b<absI i/\absI i<=m then kJ m (absI i) r else NZ
 |_,_::_=>NZ
noncomputable def qE(m:Int):Oe->N6
 |.tuple d=>kJ m 0 d
 |_=>NZ
theorem yM{a:Type}{l:ab a}{i:Nat}(d:a)(h:i<l.length):l.drop i=l.getD i d::l.drop (i+1):=by
 simp_all
theorem ml(h:∀z,d≠.int z):(kB d&&!mf d)=false:=by
 cases d with
 |int z=>exact absurd rfl<|h z
 |_=>rfl
theorem tu(h:∀z,d≠.int z):kJ m b (d::r)=false:=by
 cases d with
 |int z=>exact absurd rfl<|h z
 |_=>rfl
theorem nc:kJ m b (.int z::r)=if b<absI z/\absI z<=m then kJ m (absI z) r else false:=rfl
theorem ng(d:Oe):(∃z,d=.int z)\/∀z,d≠.int z:=by
 lia
theorem aJ(h:RD H (.int z) v):v=.int z:=by
 assumption
theorem aS(h:RD H (.str z) v):v=.str z:=by
 assumption
theorem A8{a:Type}(l:ab a)(f:a->N6):(l.map λx=>V.bl<|f x).all qC=NU/\(l.map λx=>V.bl<|f x).all g8=l.all f:=by
 constructor
 ·rw[R0];exact O0.mpr λz z=>rfl
 rw[R0];rfl
def Nice(n:Nat)(d:Oe):Prop:=d.canLay0=NU/\d.depth<=n
theorem Nice.mono(h:Nice m d)(k:m<=n):Nice n d:=⟨h.1,O6 h.2 k⟩
theorem jK:∀{D:ab Oe} {n:Nat},(∀d∈D,Nice n d)->P8 D=NU/\Tv D<=n
 |[],_,_=>⟨rfl,Ou _⟩
 |d::D,n,h=>by
  have H:=h d Om;have a:=jK λx b=>h x<|Ov _ b;refine⟨?_,?_⟩
  ·show(d.canLay0&&P8 D)=NU
   rw[H.1,a.1];rfl
  exact Nat.max_le.mpr ⟨H.2,a.2⟩
theorem pJ(h:∀d∈D,Nice n d):Nice (n+1) (.list D):=⟨(jK h).1,SZ (jK h).2⟩
theorem nh(h:∀d∈D,Nice n d):Nice (n+1) (.tuple D):=⟨(jK h).1,SZ (jK h).2⟩
theorem jL(n:Nat)(i:Int):Nice n (.int i):=⟨rfl,Ou _⟩
theorem cV(n:Nat)(h:PyData.strOk x=NU):Nice n (.str x):=⟨h,Ou _⟩
theorem yN(n:Nat)(N:ab Int):∀d∈N.map Vu,Nice n d:=λd h=>by
 obtain⟨i,z,rfl⟩:=OT.mp h;exact jL n i
theorem fX(h:Nice n d)(t:∀x∈D,Nice n x):∀x∈d::D,Nice n x:=λx H=>by
 grind
theorem tz:∀x∈([]:ab Oe),Nice n x:=λz h=>nomatch h
theorem Nice.shaped(h:Nice 8 d):Qf d=true:=yG h.1 (O6 h.2<|by simp)
theorem A9(C:ab (ab Int)):∀d∈C.map ii,Nice 2 d:=λd h=>by
 obtain⟨c,z,rfl⟩:=OT.mp h;exact nh<|yN 1 c
end OD
namespace L2
open PySem PySem.Spec PyProof.Rows
structure Zp (z TI TO i1 i2:C'):Prop where
 a1:TI≠z
 a2:TO≠z
 a3:i1≠z
 a4:i2≠z
 a5:TI≠TO
 a6:TI≠i1
 a7:TI≠i2
 a8:TO≠i1
 a9:TO≠i2
 b1:i1≠i2
noncomputable def Km(K:B')(a b:C'):It:=
 ⟨λi H=>∃X Y x y,SqL K H a X/\SqL K H b Y/\X[i]?=gV x/\Y[i]?=gV y,
  λi H x h=>∃t u v,H t=N4/\x=.ref t/\h=upd H t (.tup [u,v])/\(∀X,SqL K H a X->X[i]?=gV u)/\(∀Y,SqL K H b Y->Y[i]?=gV v),
  λi H=>∃X Y,SqL K H a X/\SqL K H b Y/\(X.length<=i\/Y.length<=i)⟩
theorem tD{TI TO:C'}(D:Zp z TI TO i I)(a:IsZip h z TI TO F)(H:IsPair h TO t T)(j:h.IsListIter i L q)(k:h.IsListIter I b r)(W:h.IsList L x)(w:h.IsList b y):ZipApart z TI TO i I L b:=by
 have n:∀{c l:C'} {o:Obj} {s:Qp M'},h.get? c=gV o->o.cls≠.type "list"->h.IsList l s->l≠c:=λm p ⟨O,e,E,Z⟩ z=>by
  simp_all
 obtain⟨u,C,d,Z⟩:=j;obtain⟨v,f,g,Z⟩:=k;exact⟨D.a1,D.a2,D.a3,D.a4,D.a5,D.a6,D.a7,D.a8,D.a9,D.b1,n a (by simp) W,n H (by simp) W,n C (by rw[d];decide) W,n f (by rw[g];decide) W,n a (by simp) w,n H (by simp) w,n C (by rw[d];decide) w,n f (by rw[g];decide) w⟩
theorem A_{P:Of}{w:OE}{K:B'}{es:ab Pl}{k1:Nat}{an:Pos}(a b z TI TO f g:C')(D:Zp z TI TO f g):
  si P w K (.Tuple es k1 an) (Km K a b) [z,TI,TO,f,g] z (λi h=>IsZip h z TI TO .none/\IsPair h TI (.ref f) (.ref g)/\(∃c d,IsPair h TO c d)/\h.IsListIter f a i/\h.IsListIter g b i) where
 mem:=by simp
 obj:=λi h st c hc=>by
  obtain⟨B,J,⟨p,q,C⟩,⟨o4,F,V,e4⟩,⟨o5,G,V,e5⟩⟩:=st;simp only[Oz,PQ,R9]at hc;obtain rfl|rfl|rfl|rfl|rfl:=hc
  ·exact⟨_,B,λv y=>by cases y⟩
  ·exact⟨_,J,λv y=>by cases y⟩
  ·exact⟨_,C,λv y=>by cases y⟩
  ·exact⟨o4,F,λv y=>by lia⟩
  exact⟨o5,G,λv y=>by lia⟩
 keep:=λi h h' st k=>by
  obtain⟨B,J,⟨p,q,C⟩,F,G⟩:=st;exact⟨k z (by simp) _ B,k TI (by simp) _ J,⟨p,q,k TO (by simp) _ C⟩,F.at λo e=>k f (by simp) o e,G.at λo e=>k g (by simp) o e⟩
 item:=by
  intro X hP U hK hc i Og s σ H E I T st hg;subst hP U hK;obtain⟨xs,ys,x,y,L,M,hx,hy⟩:=hg;obtain⟨as,Y,p1,V⟩:=I.list L;obtain⟨av,Z,p2,V⟩:=I.list M;obtain⟨u1,WZ,az⟩:=Y.get hx;obtain⟨u2,aC,aF⟩:=Z.get hy;obtain⟨B,J,⟨p,q,C⟩,F,G⟩:=st;have DA:=tD D B C F G p1.isList p2.isList;refine wpAny_pyNext_zip_item DA B J C F G p1.isList p2.isList (x:=u1) (y:=u2) (by simp_all) (by simp_all) λh' g1 g2 g3 g4 g5 g6 hk=>?_;refine⟨_,rfl,wpAny_letOwnedTupleGo_zip g1 λN aL A=>?_⟩;have am:z<s.heap.objs.size:=On B;have a0:TO<s.heap.objs.size:=On C;have a1:TI<s.heap.objs.size:=On J;have a2:f<s.heap.objs.size:=by
   obtain⟨o,e,V⟩:=F;exact On e
  have a3:g<s.heap.objs.size:=by
   obtain⟨o,e,V⟩:=G;exact On e
  have kk:∀c o,c≠z->c≠TO->c≠f->c≠g->s.heap.get? c=gV o->N.get? c=gV o:=λc o n1 n2 n3 n4 e=>A.extBut c o n1<|hk c o n1 n2 n3 n4 e;have t:∀c o,c∉[z,TO,f,g]->s.heap.get? c=gV o->N.get? c=gV o:=λc o j e=>(by simp_all);have j:H s.heap.objs.size=none:=I.hok.fresh<|N1 _;have a4:IsPair N s.heap.objs.size u1 u2:=A.extBut _ _ (RX am) g5;have nt:∀c o,H c=gV o->c∉[z,TO,f,g]:=λc o e O=>by
   have:c∈[z,TI,TO,f,g]:=by
    grind
   rw[(T c this).1]at e;cases e
  have I1:Inv X Og σ (upd H s.heap.objs.size<|.tup [x,y]) {s with heap:=N,toks:=s.toks}:=by
   refine I.step (g':=s.gens) (d':=s.drawn) (t':=s.toks) (ch:=[z,TO,f,g]) (λc W=>?_) (λc o V V W e V=>t c o W e) (λc o V V W e V=>⟨o.slots,t c o W e⟩) (λc o V e n=>?_) (λc o W e=>⟨o,t c o W e⟩) (λc ws e=>?_) (λc ob ws e=>?_) (λc ps e=>⟨#[],?_⟩) (λm O=>?_) (λc ob e=>?_) I.bare
   ·have l:c∈[z,TI,TO,f,g]:=by
     grind
    obtain⟨f0,f1,f2,f3,f4,f5⟩:=T c l;exact⟨f3,f1,f4,f5⟩
   ·rw[af<|OF<|On e];exact n
   ·rw[af<|ah e j];exact e
   ·rw[af<|ah e j];exact e
   ·rw[af<|ah e j,e];simp
   ·obtain⟨o,ac,ep,ho,r⟩:=O;have Q:∀c,c∈[z,TI,TO,f,g]->c≠X.env.locals:=λc l=>(T c l).2.1;exact⟨o,ac,ep,by grind,r⟩
   by_cases hb:c=s.heap.objs.size
   ·subst hb;rw[aa]at e;cases e;exact⟨by show 2<=sizeLine;decide,[u1,u2],.cons az<|.cons aF .nil,⟨_,a4,rfl,_,rfl⟩⟩
   rw[af hb]at e;refine(I.hok c ob e).stay (λd v u y=>?_) (λd y=>by rw[af<|ah y j];exact y) λd ws y=>by rw[af<|ah y j];exact y
   obtain u|u:=u
   ·subst u;exact t _ v (nt _ _ e) y
   exact t _ v (nt _ _ u) y
  refine⟨.ref s.heap.objs.size,_,I1,rfl,⟨s.heap.objs.size,x,y,j,rfl,rfl,λws U=>by rw[I.list_inj U L];exact hx,λws U=>by rw[I.list_inj U M];exact hy⟩,⟨aL,A.extBut _ _ D.a1<|hk _ _ D.a1 D.a5 D.a6 D.a7 J,⟨_,_,A.extBut _ _ D.a2 g2⟩,g3.at λo e=>A.extBut f o D.a3 e,g4.at λo e=>A.extBut g o D.a4 e⟩,λc W=>?_⟩;have RH:c<s.heap.objs.size:=by
   simp only[Oz,PQ,R9]at W;obtain rfl|rfl|rfl|rfl|rfl:=W
   ·exact am
   ·exact a1
   ·exact a0
   ·exact a2
   exact a3
  rw[af<|OF RH];exact(T c W).1
 done:=by
  intro X hP U hK hc i Og s σ H E I T st hg;subst hP U hK;obtain⟨xs,ys,L,M,hx⟩:=hg;obtain⟨as,Y,p1,V⟩:=I.list L;obtain⟨av,Z,p2,V⟩:=I.list M;obtain⟨B,J,⟨p,q,C⟩,F,G⟩:=st;have DA:=tD D B C F G p1.isList p2.isList;have l1:=Y.length;have l2:=Z.length;refine wpAny_pyNext_zip_end (I.ok.hd hc) DA B J C F G p1.isList p2.isList ?_ λh' hk=>⟨rfl,?_⟩
  ·simp_all
  have t:∀c o,c∉[z,TO,f,g]->s.heap.get? c=gV o->h'.get? c=gV o:=λc o j e=>(by simp_all);have nt:∀c o,H c=gV o->c∉[z,TO,f,g]:=λc o e O=>by
   have:c∈[z,TI,TO,f,g]:=by
    grind
   rw[(T c this).1]at e;cases e
  refine I.step (g':=s.gens) (d':=s.drawn) (t':=s.toks) (ch:=[z,TO,f,g]) (λc W=>?_) (λc o V V W e V=>t c o W e) (λc o V V W e V=>⟨o.slots,t c o W e⟩) (λc o V e n=>n) (λc o W e=>⟨o,t c o W e⟩) (λc ws e=>e) (λc ob ws e=>e) (λc ps e=>⟨#[],by rw[e];simp⟩) (λm O=>?_) (λc ob e=>?_) I.bare
  ·have l:c∈[z,TI,TO,f,g]:=by
    grind
   obtain⟨f0,f1,f2,f3,f4,f5⟩:=T c l;exact⟨f3,f1,f4,f5⟩
  ·obtain⟨o,ac,ep,ho,r⟩:=O;have Q:=λc l=>(T c l).2.1;exact⟨o,ac,ep,by grind,r⟩
  refine(I.hok c ob e).stay (λd v u y=>?_) (λd y=>y) λd ws y=>y;obtain u|u:=u
  ·subst u;exact t _ v (nt _ _ e) y
  exact t _ v (nt _ _ u) y
 self:=λV V V V V st h=>Ze st.1 h
def Lh(f:V->V->Hp->Prop):ab V->Hp->Prop
 |[x,y],H=>f x y H
 |_,_=>False
theorem Ba:∀{v:ab V} {H:Hp},Lh f v H->∃x y,v=[x,y]/\f x y H:=by
 intro v H h;cases v with
 |nil=>cases h
 |cons x v=>
  cases v with
  |nil=>cases h
  |cons y v=>
   cases v with
   |nil=>exact⟨x,y,rfl,h⟩
   |cons=>cases h
def Nh(K:B')(t T:TE):TI:=λc H R=>t c H λx d=>T c d λy h=>∃a b,x=.ref a/\y=.ref b/\(∃X,SqL K h a X)/\(∃Y,SqL K h b Y)/\R (Km K a b) h
theorem vd{E:ab Pl}{J:Nat}{A:Pos}{p P:Pos}(L:Gl X "zip")(M:X.mg "zip"=N4)(Q:PE X l T)(U:PE X m tm)(z:ON [l,m] X.env=[(NZ,Qs l X.env),(NZ,Qs m X.env)]:=by rfl)(Z:ON [m] X.env=[(NZ,Qs m X.env)]:=by rfl):
  PI X (.Tuple E J A) (.Call (.Name "zip" p) [l,m] [] P) (Nh X.K T tm):=by
 intro O s B H R I h;have ha:=aD Q (aD U (gG)<|by rw[Z];rfl) (by rw[z,Z]);refine Call_ (c7 I L M boot_zip<|PM (bu (ha P O s B H (Lh _) I h) λus d V=>?_) (by rw[z,Z])<|by rw[Z];rfl);obtain⟨vs,f,g,r1,q1⟩:=V;obtain⟨x,y,e,a,b,ex,ey,⟨C,k⟩,⟨Y,o⟩,q⟩:=Ba q1;subst e ex ey;obtain⟨u1,u2,rfl,r,t⟩:=wt r1;cases r;cases t;obtain⟨ac,am,u,S⟩:=g.list k;obtain⟨an,as,v,S⟩:=g.list o;refine call_zip_2 u.isList v.isList λh' G g2 g3 g4 g5 g6 hk=>Ze G ?_;have I2:Inv X O B f {d with heap:=h'}:=g.kept hk;have F:∀n,oZ X O f (d.heap.objs.size+n):=λn=>g.fpOk (UO _ _)<|g.hok.fresh<|UO _ _;have N:∀i j,i≠j->d.heap.objs.size+i≠d.heap.objs.size+j:=λi j w e=>w<|Nat.add_left_cancel e;have D:Zp (d.heap.objs.size+4) (d.heap.objs.size+2) (d.heap.objs.size+3) (d.heap.objs.size+0) (d.heap.objs.size+1):=⟨N _ _ (by decide),N _ _ (by decide),N _ _ (by decide),N _ _ (by decide),N _ _ (by decide),N _ _ (by decide),N _ _ (by decide),N _ _ (by decide),N _ _ (by decide),N _ _<|by decide⟩;refine⟨d.heap.objs.size+4,_,_,_,f,rfl,I2,A_ a b _ _ _ _ _ D,⟨G,g2,⟨_,_,g3⟩,g4,g5⟩,λc W=>?_,q⟩;simp only[Oz,PQ,R9]at W;obtain rfl|rfl|rfl|rfl|rfl:=W
 ·exact F 4
 ·exact F 2
 ·exact F 3
 ·exact F 0
 exact F 1
end L2
namespace OD
open PySem L2
noncomputable def aA(t:Str)(h:N6):ab Int:=((O1 t.length).filter λi=>bJ t i == h).map λ(i:Nat)=>(i:Int)+1
end OD
namespace L2
open PySem
theorem wK{X:Cx}(e:X.K=K){E:ab Pl}{k n:Nat}{p:Pos}{t:Eb}(c:X.calm=NU)(h:Gy X E t)(a:(R4 E X.env).length=n:=by rfl)(H:(R4 E X.env).findIdx? (·.1)=none:=by rfl):PG X (.Tuple E k p) (Kt K n t):=by
 subst e;exact Aj c h a H
end L2
namespace HT
open PySem PyProof.Rows
theorem getItem_tuple_by{Q:M'->N8->Prop}{lo st:Int}{n:Nat}(H:PyProof.Rows.IsTup s.heap t i)(a:s.TypeIs (.ref b) "slice")
  (l:∀{A:Pr} {E:M'->N8->Prop} (d:Int×Int×Nat->N8->Prop),d (lo,st,n) s->wpAny (OI p w) A (SN (.ref b)<|pure (i.size:Int)) d E s)
  (e:(lo == 0&&st == 1&&n == i.size)=NU->Q (.ref t) s)
  (f:(lo == 0&&st == 1&&n == i.size)=NZ->n<=sizeLine/\Q (.ref s.heap.objs.size) {s with heap:=s.heap.push {cls:=.type "tuple",data:=.seq ((O1 n).filterMap λ(k:Nat)=>i[(lo+(k:Int)*st).toNat]?).toArray}}):
  wpAny (OI p w) A (Vh (.ref t)<|.ref b) Q E s:=by
 unfold Vh
 try with_reducible refine P' ?_
 refine N0<|YI H.typeIs (by rfl) ?_;refine N0<|Wi H.typeIs Q5<|Wh Q5 H.typeIs XR ?_<|Yn _ _;refine N0 (m:=Vx<|.ref t)<|va H<|N0<|Vg a<|N0<|l _ ?_;show wpAny _ _ (if(lo == 0&&st == 1&&n == i.size)=NU then _ else _) _ _ s
 cases c:(lo == 0&&st == 1&&n == i.size)with
 |true=>
  exact N0<|N0<|Vg H.typeIs<|Oj<|N0<|R3<|Oj ⟨_,rfl,Oj<|e c⟩
 |false=>
  obtain⟨z,q⟩:=f c;have h:sizeOk (.seq ((O1 n).filterMap λ(k:Nat)=>i[(lo+(k)*st).toNat]?).toArray):=by
   show((O1 n).filterMap _).toArray.size<=sizeLine
   exact O6 (List.length_filterMap_le _ _) (by simp_all)
  first
   |exact N0<|QD (Oj ⟨_,rfl,Oj q⟩) h
   |exact N0<|QD _ h
   |exact N0<|N0<|QD _ h
end HT
namespace L2
open PySem PySem.Spec PyProof.Rows
def Li(K:B'):V->NW Int->NW Int->Hp->VK->Prop:=λx lo h H Q=>∃a X,x=.ref a/\SqT K H a X/\
 ((HT.sIx X.length 0 lo=0/\HT.sIx X.length X.length h=X.length)->Q (.ref a) H)/\(¬(HT.sIx X.length 0 lo=0/\HT.sIx X.length X.length h=X.length)->∀p,H p=N4->Q (.ref p) (upd H p<|.tup<|eJ X lo h))
theorem E2:Ms X (Li X.K):=by
 intro O s k H x v l m lo i n Q I g d p u h;obtain⟨a,b,rfl,j,q,o⟩:=h;by_cases w:HT.sIx b.length 0 lo=0/\HT.sIx b.length b.length i=b.length
 ·cases g;obtain⟨P,r,t,B⟩:=I.tuple j;have y:P.toArray.size=b.length:=r.length.symm
  exists "tuple",_,PyProof.Rows.slot_tuple_getitem.lookup,t.typeIs;obtain⟨os,f,z,Z⟩:=id d;have e:(((HT.sIx P.toArray.size 0 lo):Int) == 0&&(1:Int) == 1&&(HT.sIx P.toArray.size P.toArray.size i-HT.sIx P.toArray.size 0 lo) == P.toArray.size)=true:=by
   simp_all
  refine HT.getItem_tuple_by t ⟨os,f,z⟩ (λC A=>HT.sliceApplied_gen d p u A) (λZ=>⟨.ref a,H,I,rfl,q w⟩) λc=>?_;rw[e]at c;cases c
 exact IH O s k H _ v l m lo i n Q I g d p u ⟨a,b,rfl,j,w,o w⟩
theorem nj{K:B'}(e:X.K=K):dL X (.type "tuple") (λx H Q=>∃p y,x=[.ref p]/\((SqL K H p y/\∀l,H l=N4->Q (.ref l) (upd H l<|.tup y))\/(SqT K H p y/\Q (.ref p) H))):=by
 subst e;exact bO
end L2
namespace L2
open PySem
@[irreducible] def PEi (X:Cx) (e:Pl) (t:TE):Prop:=PE X e t
@[irreducible] def PAi (X:Cx) (es:ab Pl) (t:TA):Prop:=PA X es t
end L2
namespace KA
open PySem PyProof.Rows
def But(H h:O5)(a k:C'):Prop:=∀b o,b≠a->b≠k->H.get? b=gV o->h.get? b=gV o
theorem But.upA(k:But c h a d)(f:Obj->Obj):But c (h.update a f) a d:=λb o H e q=>(OU _ _<|Pw H).trans<|k b o H e q
theorem But.upK(k:But d h a c)(f:Obj->Obj):But d (h.update c f) a c:=λb o e H q=>(OU _ _<|Pw H).trans<|k b o e H q
theorem GT{st:PB}(m:But q s.heap a k)(N:s.heap.get? k=gV (Ql "list" r e))(t:s.heap.get? a=gV (Ql "list" #[] f))(b:k≠a)
  (g:R7 r.toList z) (Q:z.length=v.length) (u:v.length<64) (p:(O9 st).Perm (r.zip v.toArray)) (x:SortedTo (O9 st) (O9 st).size) (l:Q7 st=N4)
  (h:∀h' T o c,But q h' a k->h'.get? a=gV (Ql "list" o c)->kH NZ z v o.toList->P (.done<|.ret .none) {s with heap:=h',toks:=T}):
  wpAny (OI i w) A (ksk_tail a NZ f (.ref k) st) P E s:=by
 have H:r.size=v.length:=by
  have y:=g.length;simp_all
 have F:(O9 st).size=v.length:=by rw[p.size_eq,aaD,H,Ol,ab3]
 have n:(s.heap.update k<|QC λZ=>(#[]:Qp M')).get? a=gV (Ql "list" #[] f):=(OU _ _ b).trans t;obtain⟨C,d⟩:∃C,((s.heap.update k (QC λZ=>(#[]:Qp M'))).update a (QC λZ=>(O9 st).map (·.2))).get? a=gV (Ql "list" ((O9 st).map (·.2)) C):=
  ⟨_,U6 n λZ=>(O9 st).map (·.2)⟩
 unfold ksk_tail
 try dsimp only
 refine N0<|Tp N rfl ?_ (by rw[H,P0];exact OQ (Pb u (by decide)))<|Ou _;refine N0<|Sl ?_;refine N0<|Xr n rfl ?_;refine N0 (Tp n rfl ?_ (Ou _)<|by simp only[QN,Th,F'];rw[F,P0];exact OQ (Pb u (by decide)));rw[l];simp only[YH,QN,Th];have j:=ksk_out (b:=NZ) g p x;simp only[QN,Th]at j;exact Oj<|h _ _ _ C ((m.upK _).upA _) d j
theorem Ni(p:But x s.heap a g)(n:s.heap.get? g=gV (Ql "list" r e))(N:s.heap.get? a=gV (Ql "list" #[] y))(f:g≠a)
  (k:R7 r.toList m) (q:m.length=v.length) (H:v.length<64)
  (h:∀h' T o c,But x h' a g->h'.get? a=gV (Ql "list" o c)->kH NZ m v o.toList->P (.done<|.ret .none) {s with heap:=h',toks:=T}):
  wpAny (OI t w) A (ksk_end a NZ v.toArray y (.ref g) r) P E s:=by
 have z:r.size=v.length:=by
  have B:=k.length;simp_all
 have b:(r.zip v.toArray).size=v.length:=by simp_all
 unfold ksk_end
 try dsimp only
 by_cases d:v.toArray.size<2
 ·rw[Oi d,Oi d];refine GT (st:=Vy _ (r.zip _) #[] 7 N4) p n N f k q H (Z7 _) ?_ rfl h;intro i j C D;grind
 rw[Oh d,Oh d];rw[ksk_kind k<|by simp_all];refine N0<|Oj ?_;refine N0 (Qq (wpS_sortRuns (st:=Vy _ _ #[] 7 N4)
  (Q:=λl Q=>(O9 Q).Perm _/\Q7 Q=N4/\SortedTo (O9 Q) _)
  (ksk_intKeys k) ⟨Z7 _,rfl,rfl,rfl⟩ (by simp_all) (by rwa[b]) λQ F G I=>⟨F,G,I⟩) ?_ λl l e=>e)
 rintro⟨⟨⟩,Q⟩ M ⟨rfl,u,J,L⟩
 exact GT p n N f k q H u (by rwa[u.size_eq]) J h
theorem Lj{f:M'}(L:But G s.heap a g)(M:s.heap.get? g=gV (Ql "list" #[] 0))(O:s.heap.get? a=gV (Ql "list" #[] I))(m:g≠a)
  (Q:z.length=l.length) (u:l.length<64)
  (y:∀(i:Nat) (v:M') (k:Int),l[i]?=gV v->z[i]?=gV k->∀(h:O5) (d:Nat) (R:M'->N8->Prop),(∀t T,R (.int k T) {s with heap:=h,toks:=t})->
   wpAny (OI p w) A (call f [v]) R (λ_ _=>False) {s with heap:=h,toks:=d})
  (h:∀h' d o c,But G h' a g->h'.get? a=gV (Ql "list" o c)->kH NZ z l o.toList->P (.done<|.ret .none) {s with heap:=h',toks:=d}):
  wpAny (OI p w) A (ksk_rest a f NZ l.toArray I<|.ref g) P E s:=by
 refine N0<|R3 ?_
 first
  |rw[List.forIn_toArray]
  |(simp only )
  |rw[<-Yy]
 refine N0 (ksk_fold (λi B=>∃h' d b e,B={s with heap:=h',toks:=d}/\But G h' a g/\h'.get? g=gV (Ql _ b e)/\h'.get? a=gV _/\R7 b.toList (z.take i)) l 0 s
  ⟨s.heap,s.toks,#[],0,rfl,L,M,O,by simpa using IntsAre.nil⟩ ?step ?done)
 case step=>
  rintro j x B J ⟨h',d,b,e,rfl,F,n,N,H⟩;simp only[QK]at H ⊢;have hj:=(NT.mp J).1;obtain⟨k,q⟩:∃k,z[j]?=gV k:=⟨_,K' (by lia)⟩;have hz:b.size<=l.length:=by
   have U:=H.length;grind
  refine N0<|Fd<|Qq (y j x k J q h' d (λv r=>∃t T,v=.int k T/\r={s with heap:=h',toks:=t}) λt T=>⟨t,T,rfl,rfl⟩) (λv r W=>?_) λ_ _ X=>X.elim;obtain⟨t,T,rfl,rfl⟩:=W
  obtain⟨C,D⟩:∃C,(h'.update g (QC _)).get? g=gV _:=⟨_,U6 n (·.push _)⟩;have Y:z.take (j+1)=z.take j++[k]:=by rw[OM,q];simp
  have Z:(b.push<|TX k T).toList=b.toList++[TX k T]:=by simp
  refine N0 (Tp n rfl (Oj ⟨rfl,_,_,b.push<|.int k T,C,rfl,F.upK _,D,(OU _ _ m).trans N,by rw[Z,Y];exact ksk_snoc H⟩) (by rw[P0];lia)<|O6 (Ui (Array.size_push ..))<|by rw[P0];lia)
 case done=>
  rintro B ⟨h',d,b,e,rfl,F,n,N,H⟩;have UR:R7 b.toList z:=by
   grind
  exact N0<|Y1 n rfl<|Ni F n N m UR Q u h
theorem tree_{f:M'}(g:s.heap.get? a=gV (Ql "list" d.toArray n))(Q:z.length=d.length)(j:d.length<64)
  (l:∀(i:Nat) (v:M') (k:Int),d[i]?=gV v->z[i]?=gV k->∀(h:O5) (t:Nat) (R:M'->N8->Prop),(∀T r,R (.int k r) {s with heap:=h,toks:=T})->
   wpAny (OI p w) A (call f [v]) R (λZ Z=>False) {s with heap:=h,toks:=t})
  (h:∀h' t O c,(∀b o,b≠a->s.heap.get? b=gV o->h'.get? b=gV o)->h'.get? a=gV (Ql "list" O c)->kH NZ z d O.toList->P (.done<|.ret .none) {s with heap:=h',toks:=t}):
  wpAny (OI p w) A (ksk_tree a f NZ) P E s:=by
 have u:=On g;obtain⟨m,H⟩:∃m,(s.heap.update a (QC λZ=>(#[]))).get? a=gV _:=⟨_,U6 g _ ⟩;have e:((s.heap.update a (QC λZ=>(#[]))).push (Ql "tuple" d.toArray 0)).objs.size=s.heap.objs.size+1:=by rw[Yl,Zq]
 refine N0<|Y1 g rfl<|N0<|Tp g rfl ?_ (by rw[Ol,P0];exact OQ (Pb j (by decide)))<|Ou _;refine N0<|Xr H rfl<|N0<|CN (N0<|UR (P' ?_)<|Ou _) (by show d.length<=_;rw[P0];exact OQ (Pb j (by decide)));refine Lj (s:={s with heap:=((s.heap.update a<|QC _).push<|Ql _ _ 0).push<|Ql _ #[] 0}) (g:=((s.heap.update a<|QC _).push<|Ql _ _ 0).objs.size)
  (λb o x F q=>N_ _<|N_ _<|(OU _ _<|Pw x).trans q) (OJ _ rfl) (N_ _<|N_ _ H) (by rw[e];exact RX<|QF u) Q j l
  λh' t O c y B C=>h h' t O c (λb o D q=>y b o D (by rw[e];exact OF<|QF<|On q) q) B C
end KA
namespace L2
open PySem PySem.Spec PyProof.Rows
theorem Bb(i:R7 s n)(k:kH NZ (n.map g) s o):∃E,R7 o E/\E.Perm n/\(E.map g).Pairwise (·<=·):=by
 obtain⟨P,H,e,f⟩:=k;have Q:=i.length;have a:∀p,p∈(n.map g).zip s->p.1=g (kG p.2)/\p.2∈s:=by
  rw[<-i.nums,O_,List.zip_map_left];intro p H;obtain⟨⟨u,v⟩,j,rfl⟩:=OT.mp H;have b:u=v/\u∈s:=WL j;refine⟨?_,?_⟩
  ·show g _=g (kG v)
   rw[b.1]
  rw[<-b.1];exact b.2
 have I:=intsAre_map _ λv l=>by
  obtain⟨p,h,rfl⟩:=OT.mp l;exact i.all _ (a p<|H.mem_iff.mp h).2
 have m:((P.map Xu).map kG).Perm n:=by
  have b:=(H.map Xu).map kG;rwa[Zz (by simp_all),i.nums]at b
 exists (P.map Xu).map kG,by rwa[e],m;rw[Py,Py,Py];refine f.imp_of_mem λ{p q} h d r=>?_;have c:p.1<=q.1:=by assumption
 rwa[(a p<|H.mem_iff.mp h).1,(a q<|H.mem_iff.mp d).1]at c
theorem yO{Q:VK}(I:Inv X m w H s)(A:SqL X.K H p (N.map V.int))(B:N.length<64)
  (q:∀(l:C') (E:ab Int),H l=N4->E.Perm N->(E.map OD.absI).Pairwise (·<=·)->Q (.ref l) (upd H l<|.lst<|E.map V.int)):
  wpAny (OI X.prog X.w) X.A (call (.builtin "sorted") [.ref p] [(NV "key",.builtin "abs")]) (EP X m w Q) X.xe s:=by
 obtain⟨a,C,P,hz⟩:=I.list A;have g:=gH C;have D:a.length=N.length:=wh g;refine call_function_entry_kw PyProof.Rows.kind_sorted PyProof.Rows.plain_sorted PyProof.Rows.entry_sorted (ksk_s1 _ _) ?_;unfold Builtin.«sorted»;refine N0 (m:=PySem.checkCount "sorted" 1 1 _)<|Oj ?_;refine N0 (collect_list P.isList ?_<|by simp_all);refine N0 (UR ?_<|by simp_all);have z:((s.heap.push<|Ql "list" #[] 0).update s.heap.objs.size (QC (·++a.toArray))).objs.size=s.heap.objs.size+1:=by
  rw[Zq,Yl]
 have L:(((s.heap.push<|Ql "list" #[] 0).update s.heap.objs.size (QC (·++a.toArray))).push<|Ql "list" a.toArray 0).get? (s.heap.objs.size+1)=gV (Ql "list" a.toArray 0):=by
  rw[<-z];exact OJ _ rfl
 have d:∀b o,s.heap.get? b=gV o->(((s.heap.push<|Ql "list" #[] 0).update s.heap.objs.size (QC (·++a.toArray))).push<|Ql "list" a.toArray 0).get? b=gV o:=λb o q=>by
  have r:b<s.heap.objs.size:=On q;rw[YW _ _ _ (by rw[z];exact OF<|QF r),Heap.get?_update_ne _ _ _ _<|OF r,YW _ _ _<|OF r];exact q
 show wpAny _ _ _ _ _ {s with heap:=((s.heap.push<|Ql "list" #[] 0).update s.heap.objs.size (QC (·++a.toArray))).push<|Ql "list" a.toArray 0}
 rw[z];refine N0<|P'<|wpAny_call_entry_kw y4 ⟨_,L,rfl⟩ ZZ ?body (ksk_l1 _ _)
 case body=>
  show wpAny (OI X.prog X.w) X.A.in1.in1 (Builtin.«list.sort» ⟨[.ref<|s.heap.objs.size+1],_⟩) _ _ _
  rw[ksk_t4];refine KA.tree_ (z:=N.map OD.absI) (s:={s with heap:=((s.heap.push<|Ql "list" #[] 0).update s.heap.objs.size (QC (·++a.toArray))).push<|Ql "list" a.toArray 0}) L (by rw[J',D]) (by simp_all) (λi v k F f h T R G=>?_) λJ T O c M U W=>⟨_,rfl,?_⟩
  ·obtain⟨t,rfl⟩:=IntsAre.int_at g i v F;rw[Og]at f;cases e:N[i]? with
   |none=>rw[e]at f;simp at f
   |some n=>
    rw[e]at f;have Y:gV _=gV k:=f;cases Y;have Z:N.getD i 0=n:=by simp_all
    rw[Z];exact X3 λu j=>G j u
  refine Oj ⟨_,rfl,?_⟩;obtain⟨E,i1,x,i3⟩:=Bb g W;have I2:Inv X m w (upd H (s.heap.objs.size+1)<|.lst<|E.map V.int) {s with heap:=J,toks:=T}:=by
   refine I.laid (λb o y=>?_) (TZ _) ?_
   ·have hb:=On y;exact M b o (OF<|QF hb)<|d b o y
   refine⟨?_,O.toList,c,kq i1,by simpa using U⟩;rw[J',x.length_eq];simp_all
  exact⟨.ref<|s.heap.objs.size+1,_,I2,rfl,q _ E (I.hok.fresh<|TZ _) x i3⟩
end L2
namespace KX
open PySem PyProof.Rows
theorem yP(a v:M'):PySem.argsOk "max" ⟨[a],[(NV "default",v)]⟩:=by rfl
section
variable {R:Zn->N8->Prop}{St:Nat->O5->Prop}
theorem Lk(W:Walks p w A.in1 I O G n P St)(B:Nat->Nat->N6)(C:CmpOf p w A.in1 .Gt P B)(S:C')(r:S∉O):
  ∀k j s f c,n-(j+1)=k->j+1<=n->St (j+1) s.heap->P (QU B j) f->
  s.heap.get? S=gV {cls:=.type "list",dict:=N4,data:=.seq #[f,f] c,slots:=#[]}->
  (∀v h' y,P (QU B<|n-1) v->(∀b o,b∉G->b≠S->s.heap.get? b=gV o->h'.get? b=gV o)->R (.ok<|.ret v) {s with heap:=h',toks:=y})->
  codeAny (OI p w) A (.builtin "max.loop" ⟨[.ref I,.none,.ref S],Z⟩) R s:=by
 have u:S∉G:=λh=>r<|W.sub _ h;have Q:(toString "max"++toString ".loop":R1)="max.loop":=by rfl
 intro k
 induction k with
 |zero=>
  intro j s f c X Y l g x z;have J:j+1=n:=by lia
  refine Rk Wp ?_;rw[Qv Rz _];show wpAny _ A.in1 (Wj (.ref S) >>=_) _ _ s
  refine N0<|Sa x rfl ?_;show wpAny _ A.in1 (tryCatch (V9<|.ref I) _ >>=_) _ _ s
  refine N0<|Qu<|W.done s _ _ (J▸l) λh' y U=>?_;have d:=U S _ u x;show wpAny _ A.in1 (updateSeq S (λV=>#[]) >>=_) _ _ _
  refine N0 ?_;refine Sr d rfl<|N0<|Sl<|Oj ?_;refine z f _ y (by rw[<-J];exact g) λb o H a e=>(OU _ _<|Pw a).trans<|U b o H e
 |succ k L=>
  intro j s f c X Y l g x z;have D:j+1<n:=by omega
  refine Rk Wp ?_;rw[Qv Rz _];show wpAny _ A.in1 (Wj (.ref S) >>=_) _ _ s
  refine N0<|Sa x rfl ?_;show wpAny _ A.in1 (tryCatch (V9<|.ref I) _ >>=_) _ _ s
  refine N0<|Qu<|W.item (j+1) s _ _ D l λv h' y M i U=>?_;have d:=U S _ u x;show wpAny _ A.in1 (tryCatch (T7 [v,v]<|richCompare .Gt v f >>=_) _ >>=_) _ _ _
  refine N0<|Qu<|P'<|N0<|C (j+1) (QU B j) v f _ _ _ M g ?_;refine N0<|P'<|PR ?_;refine N0<|Sl<|Oj ?_;cases N:B _ _ with
  |true=>
   simp only ;refine N0<|Sr d rfl<|N0<|Sl ?_;refine Oj ⟨Rf Rz _,L _ _ v _ (by omega) D (W.frame _ _ _ i λb E o e=>?_) (by simp only[QU,N];exact M) (RI _ d rfl)
    λF m t q T=>?_⟩
   ·exact(OU _ _ λh:S=b=>by simp_all).trans e
   ·exact z F m t q λb o H a e=>T b o H a<|(OU _ _<|Pw a).trans<|U b o H e
  |false=>
   simp only[QN];refine N0<|Sl ?_;refine Oj ⟨Rf Rz _,L _ _ f c (by omega) D i (by simp only[QU,N,QN];exact g) d λF m t q T=>?_⟩;exact z F m t q λb o H a e=>T b o H a<|U b o H e
theorem Jh(W:Walks p w A.in1 I F r n P St)(B:Nat->Nat->N6)(l:CmpOf p w A.in1 .Gt P B)(S:C')(f:S∉F){d:M'}{D:Str}{c:Nat}(g:St 0 s.heap)
  (C:s.heap.get? S=gV {cls:=.type "list",dict:=N4,data:=.seq #[] c,slots:=#[]})
  (E:0<n->∀v h' t,P (QU B<|n-1) v->(∀b o,b∉r->b≠S->s.heap.get? b=gV o->h'.get? b=gV o)->R (.ok<|.ret v) {s with heap:=h',toks:=t})
  (G:n=0->∀h' t,(∀b o,b∉r->b≠S->s.heap.get? b=gV o->h'.get? b=gV o)->R (.ok<|.ret d) {s with heap:=h',toks:=t}):
  codeAny (OI p w) A (.builtin "max.loop" ⟨[.ref I,.none,.ref S],[(D,d)]⟩) R s:=by
 have m:S∉r:=λh=>f<|W.sub _ h;have Q:(toString "max"++toString ".loop":R1)="max.loop":=by rfl
 refine Rk Wp ?_;rw[Qv Rz _];show wpAny _ A.in1 (Wj (.ref S) >>=_) _ _ s
 refine N0<|Sa C rfl ?_;show wpAny _ _ (tryCatch _ _ >>=_) _ _ s
 by_cases q:0<n
 ·refine N0<|Qu<|W.item 0 s _ _ q g λv h' t J i U=>?_;have j:=U S _ m C;show wpAny _ _ (updateSeq S _ >>=_) _ _ _
  refine N0<|Sr j rfl ?_;refine Oj ⟨Rf Rz _,Lk W B l S f _ 0 _ v _ rfl q (W.frame _ _ _ i λb u o e=>?_) J (RI _ j rfl) λL x T y z=>?_⟩
  ·exact(OU _ _ λh:S=b=>by simp_all).trans e
  exact E q L x T y λb o H a e=>z b o H a<|(OU _ _<|Pw a).trans<|U b o H e
 have k:0=n:=by simp_all
 refine N0<|Qu<|W.done s _ _ (k▸g) λh' t U=>?_;exact N0<|R3<|Oj<|G k.symm h' t λb o H a e=>U b o H e
end
theorem Ll{x d:M'}{Q:M'->N8->Prop}
  (h:wpAny (OI p w) A.in1 (j' x) (λy a=>∃I f r n P St B,y=.ref I/\Walks p w A.in1 I f r n P St/\St 0 a.heap/\(∀b∈f,b<a.heap.objs.size)/\CmpOf p w A.in1 .Gt P B/\
   (0<n->∀v h' t,P (QU B<|n-1) v->(∀b o,b∉r->a.heap.get? b=gV o->h'.get? b=gV o)->Q v {a with heap:=h',toks:=t})/\
   (n=0->∀h' t,(∀b o,b∉r->a.heap.get? b=gV o->h'.get? b=gV o)->Q d {a with heap:=h',toks:=t})) E s):
  wpAny (OI p w) A (call (.builtin "max") [x] [(NV "default",d)]) Q E s:=by
 refine kmk_tree F.kind_max F.plain_max F.entry_max (yP _ _) ?_;refine N0<|PySem.wpAny_of_eq rfl<|N0<|Oj<|N0<|Qq h (λy a c=>?_) λg g e=>e;obtain⟨I,f,r,n,P,St,B,rfl,W,i,j,k,z,l⟩:=c;refine N0<|QD ?_;have m:=λC=>QR _<|j _ C;refine Oj ⟨Rf Rz _,Jh W B k _ m (W.frame _ _ _ i λb g o e=>N_ _ e) (OJ _ rfl) (λq v h' t D u=>?_) λq h' t u=>?_⟩
 ·exact z q v h' t D λb o H e=>u b o H (OF<|On e)<|N_ _ e
 exact l q h' t λb o H e=>u b o H (OF<|On e)<|N_ _ e
theorem max_listD{d:M'}{Q:M'->N8->Prop}(c:A.handled=N4)(f:s.heap.IsList l (T6 x))
  (h:0<x.size->∀v h' t,(T6 x)[QU (λi j=>decide (js x i>js x j)) (x.size-1)]?=gV v->(∀b o,s.heap.get? b=gV o->h'.get? b=gV o)->Q v {s with heap:=h',toks:=t})
  (g:x.size=0->∀h' t,(∀b o,s.heap.get? b=gV o->h'.get? b=gV o)->Q d {s with heap:=h',toks:=t}):
  wpAny (OI p w) A (call (.builtin "max") [.ref l] [(NV "default",d)]) Q E s:=by
 refine Ll<|iter_intList f λa e st H I=>?_;subst e;refine⟨_,_,_,_,_,_,_,rfl,WA (A:=A.in1) c _ l I<|T6 x,st,H,CmpOf.ints_gt _ λz z=>intItems_at,λn v h' t P k=>?_,λn h' t k=>?_⟩
 ·exact h (by simpa[T6]using n) v h' t (by simpa[T6]using P)<|old_kept k
 exact g (by simpa[T6]using n) h' t<|old_kept k
end KX
namespace L2
open PySem PySem.Spec PyProof.Rows
theorem Bc(H:R7 s n)(e:s.toArray=T6 x)(g:0<x.size)(b:(T6 x)[QU (λi j=>decide (js x i>js x j)) (x.size-1)]?=gV v):∃M t,v=.int M t/\M∈n/\∀a∈n,a<=M:=by
 have h:x.toList.map (·.1)=n:=by
  rw[<-nums_intItems,<-e];exact H.numsOf
 obtain⟨t,rfl⟩:=intItems_at b;obtain⟨k,c⟩:=argBest_gt (js x)<|x.size-1;refine⟨_,t,rfl,?_,λa d=>?_⟩
 ·rw[numAt_eq,h];exact getD_mem (by grind)
 obtain⟨j,f,rfl⟩:=mem_getD d;rw[<-h,J',OL]at f;have:=c j (by lia);rwa[numAt_eq,h]at this
def Bd(K:B'):V->V->Hp->VK->Prop:=λx d H Q=>∃(p:C') (n:ab Int),x=.ref p/\SqL K H p (n.map V.int)/\(n=[]->Q d H)/\∀M,M∈n->(∀a∈n,a<=M)->Q (.int M) H
def Lm(K:B')(t T:TE):TE:=λa H Q=>t a H λx h=>T a h λd b=>Bd K x d b Q
theorem E3{P z o:Pos}(A:X.calm=NU)(b:Gl X "max")(c:X.mg "max"=N4)(B:PE X e C)(D:PE X E T)
  (f:ON [e] X.env=[(NZ,Qs e X.env)]:=by rfl):
  PE X (.Call (.Name "max" P) [e] [⟨gV "default",E,z⟩] o) (Lm X.K C T):=by
 intro O s g H Q I h;refine Qa<|c7 I b c W9<|Tq (bu (aD B (gG) (by rw[f];rfl) o O s g H (yE _) I h) λus F ⟨G,j,J,L,k⟩=>?_) (by rw[f];rfl) (by rw[f];rfl) rfl rfl;obtain⟨x,N,l⟩:=ig k;subst N;obtain⟨u,rfl,U⟩:=eu L;refine Ux<|bu (D O F g j _ J l) λW s2 ⟨d,a,i,Y,Z⟩=>UV ?_;obtain⟨p,ns,rfl,hq,q0,q⟩:=Z;cases U;obtain⟨G,rv,pl,hz⟩:=i.list hq;have m:=gH rv;obtain⟨y,e⟩:=m.allInts.items;have r:=pl.isList;rw[e]at r;have ac:y.size=ns.length:=by
  have l:(T6 y).size=y.size:=by simp[T6]
  rw[<-l,<-e,Ol,wh m]
 show wpAny _ _ _ _ _ _
 refine KX.max_listD (i.ok.hd A) r (λw v h' tk hv n=>?_) λw h' tk n=>?_
 ·obtain⟨M,t,rfl,m1,m2⟩:=Bc m e w hv;exact⟨.int M,a,i.kept n,⟨t,rfl⟩,q M m1 m2⟩
 exact⟨d,a,i.kept n,Y,q0<|P2.mp<|by lia⟩
def nu(K:B'):V->Hp->VK->Prop:=λx H Q=>∃(p:C') (n:ab Int),x=.ref p/\SqL K H p (n.map V.int)/\n.length<64/\
 ∀(l:C') (Z:ab Int),H l=N4->Z.Perm n->(Z.map OD.absI).Pairwise (·<=·)->Q (.ref l) (upd H l<|.lst<|Z.map V.int)
def Be(K:B')(t:TE):TE:=λa H Q=>t a H λx h=>nu K x h Q
theorem jh{P m n j:Pos}(a:Gl X "sorted")(b:X.mg "sorted"=N4)(c:Gl X "abs")(d:X.mg "abs"=N4)(o:PE X e t)
  (f:ON [e] X.env=[(NZ,Qs e X.env)]:=by rfl):
  PE X (.Call (.Name "sorted" P) [e] [⟨gV "key",.Name "abs" m,n⟩] j) (Be X.K t):=by
 intro O s r H Q I h;refine Qa<|c7 I a b YA<|Tq (bu (aD o (gG) (by rw[f];rfl) j O s r H (yE λx k=>nu X.K x k Q) I h) λU z Z=>?_) (by rw[f];rfl) (by rw[f];rfl) rfl rfl;obtain⟨A,k,l,v,g⟩:=Z;obtain⟨x,E,p,N,rfl,w,i,q⟩:=ig g;subst E;obtain⟨u,rfl,y⟩:=eu v;cases y;exact Ux<|c7 l c d Uz<|UV<|yO l w i q
end L2
namespace OD
open PySem L2
noncomputable def di(f s:ab Int)(v:Int):N6:=(f.filter λl=>!decide (absI l=v)).any λl=>s.contains (-l)
noncomputable def fY(f s:ab Int)(v:Int):ab Int:=(f++s.filter λl=>!f.contains l).filter λl=>!decide (absI l=v)
def Ups(c:ab Int):Prop:=(c.map absI).Pairwise (· < ·)
def Joins(f s:ab Int)(v:Int)(r:ab Int):Prop:=Ups r/\∀l,l∈r↔(l∈f\/l∈s)/\absI l≠v
theorem fZ(h:absI a=absI b):a=b\/b=-a:=by
 obtain⟨z,e⟩|⟨z,e⟩:=aB a<;>obtain⟨z,E⟩|⟨z,E⟩:=aB b<;>lia
theorem Ups.tail(h:Ups (x::c)):Ups c:=(RG.mp h).2
theorem Ups.head(h:Ups (x::c)):∀l∈c,absI x<absI l:=λl H=>(RG.mp h).1 _<|P4 H
theorem Ups.inj(h:Ups c)(f:a∈c)(g:b∈c)(e:absI a=absI b):a=b:=by
 induction c with
 |nil=>cases f
 |cons x c I=>
  obtain i|d:=Oz.mp f
  ·obtain E|H:=Oz.mp g
   ·rw[i,E]
   have:=h.head b H;simp_all
  obtain E|H:=Oz.mp g
  ·have:=h.head a d;simp_all
  exact I h.tail d H
theorem Ups.nodup(h:Ups c):c.Nodup:=(Py.mp h).imp λ{a b} H e=>by simp_all
theorem jM:∀{a b:ab Int},Ups a->Ups b->(∀l,l∈a↔l∈b)->a=b
 |[],[],_,_,_=>rfl
 |[],y::b,_,_,h=>absurd ((h y).mpr Om) (by simp)
 |x::a,[],_,_,h=>absurd ((h x).mp Om) (by simp)
 |x::a,y::b,c,d,h=>by
  have e:x=y:=by
   obtain z|z:=Oz.mp ((h x).mp Om)
   ·exact z
   obtain w|w:=Oz.mp ((h y).mpr Om)
   ·exact w.symm
   have:=d.head x z;have:=c.head y w;lia
  subst e;rw[jM c.tail d.tail λz=>?_];constructor
  ·intro H;obtain w|w:=Oz.mp ((h z).mp<|Ov _ H)
   ·have:=c.head z H;simp_all
   exact w
  intro H;obtain w|w:=Oz.mp ((h z).mpr<|Ov _ H)
  ·have:=d.head z H;simp_all
  exact w
theorem Joins.uniq(h:Joins f s v a)(h':Joins f s v b):a=b:=jM h.1 h'.1 λl=>(h.2 l).trans (h'.2 l).symm
theorem gu:l∈fY f s v↔(l∈f\/l∈s)/\absI l≠v:=by
 unfold fY;grind
theorem tE(h:di f s v=NZ)(H:l∈f)(a:absI l≠v):-l∉s:=λb=>by
 have:di f s v=true:=OR.mpr ⟨l,Oq.mpr ⟨H,by rw[N3 a];rfl⟩,by simpa using b⟩;simp_all
theorem Bf(H:Ups f)(c:Ups s)(h:di f s v=NZ)(d:a∈fY f s v)(g:b∈fY f s v)(e:absI a=absI b):a=b:=by
 obtain⟨A,i⟩:=gu.mp d;obtain⟨B,j⟩:=gu.mp g;obtain A|A:=A<;>obtain B|B:=B
 ·exact H.inj A B e
 ·obtain z|z:=fZ e
  ·exact z
  exact absurd (z▸B)<|tE h A i
 ·obtain z|z:=fZ e.symm
  ·exact z.symm
  exact absurd (z▸A)<|tE h B j
 exact c.inj A B e
theorem ve(H:Ups f)(c:Ups s):(fY f s v).Nodup:=by
 refine SQ _<|Qi.mpr ⟨H.nodup,SQ _ c.nodup,?_⟩;grind
theorem qF:∀{r:ab Int},(r.map absI).Pairwise (·<=·)->r.Nodup->(∀a∈r,∀b∈r,absI a=absI b->a=b)->Ups r
 |[],_,_,_=>.nil
 |x::r,h,n,i=>by
  obtain⟨d,f⟩:=RG.mp h;obtain⟨N,g⟩:=PU.mp n;refine RG.mpr ⟨λz H=>?_,qF f g λa j b k=>i a (Ov _ j) b<|Ov _ k⟩;obtain⟨y,c,rfl⟩:=OT.mp H;have:=d _ H;have l:=λe=>N<|i x Om y (Ov _ c) e▸c;lia
theorem tF(H:Ups f)(c:Ups s)(d:di f s v=NZ)(h:r.Perm (fY f s v))(o:(r.map absI).Pairwise (·<=·)):Joins f s v r:=
 ⟨qF o (h.nodup_iff.mpr<|ve H c) λa g b i e=>Bf H c d (h.mem_iff.mp g) (h.mem_iff.mp i) e,λl=>h.mem_iff.trans gu⟩
noncomputable def ik(t:Str)(h:N6)(c:ab Int):Int:=((c.filter λl=>!(bJ t (absI l-1).toNat == h)).map absI).foldl max 0
noncomputable def aG(t:Str)(h:N6)(c:ab Int):ab Int:=c.filter λl=>decide (absI l<=ik t h c)
theorem f_:∀(n:ab Int) (b:Int),(b<=n.foldl max b/\∀a∈n,a<=n.foldl max b)/\(n.foldl max b=b\/n.foldl max b∈n)
 |[],b=>by simp
 |x::r,b=>by
  obtain⟨⟨e,d⟩,H⟩:=f_ r<|max b x;rw[Q4];refine⟨⟨by lia,λa c=>?_⟩,?_⟩
  ·obtain rfl|c:=Oz.mp c
   ·lia
   exact d a c
  grind
theorem Ji{n:ab Int}{M:Int}(f:∀a∈n,0<=a)(h:M∈n\/M=0)(H:∀a∈n,a<=M)(b:0<=M):n.foldl max 0=M:=by
 obtain⟨⟨A,c⟩,d⟩:=f_ n 0;have:n.foldl max 0<=M:=by
  obtain e|e:=d
  ·simp_all
  exact H _ e
 have:M<=n.foldl max 0:=by
  obtain h|h:=h
  ·exact c _ h
  rwa[h]
 lia
theorem eX:z∈aA t w↔1<=z/\z<=(t.length:Int)/\bJ t (z-1).toNat=w:=by
 unfold aA;rw[OT];constructor
 ·rintro⟨i,a,rfl⟩;obtain⟨h,H⟩:=Oq.mp a;have:=Qh.mp h;exact⟨by lia,by lia,by simpa using H⟩
 rintro⟨h,H,b⟩;refine⟨(z-1).toNat,Oq.mpr ⟨Qh.mpr (by omega),?_⟩,by lia⟩;rw[b];exact Zd _
theorem E4(H:1<=absI l)(b:absI l<=(t.length:Int)):(aA t (!h)).contains (absI l)=!(bJ t (absI l-1).toNat == h):=by
 cases g:bJ t _ == h with
 |true=>
  cases z:(aA t _).contains _ with
  |false=>rfl
  |true=>
   have Z:=(eX.mp<|by simpa using z).2.2;simp_all
 |false=>
  have G:bJ t (absI l-1).toNat=!h:=by
   cases a:bJ t _<;>cases h<;>simp_all
  have:=eX.mpr ⟨H,b,G⟩;simp_all
noncomputable def bH(f s:ab Int)(v:Int):ab Int:=(fY f s v).mergeSort λa b=>decide (absI a<=absI b)
theorem dj(H:Ups f)(d:Ups s)(g:di f s v=NZ):Joins f s v (bH f s v):=by
 refine tF H d g (Tb _ _) ?_;have h:=T3 (le:=λa b:Int=>decide (absI a<=absI b)) (by lia) (by lia)<|fY f s v;rw[Py];exact h.imp λ{a b} e=>by simp_all
theorem Joins.eq(H:Ups f)(a:Ups s)(b:di f s v=NZ)(h:Joins f s v r):r=bH f s v:=h.uniq<|dj H a b
noncomputable def aU(m:Nat):Oe->NW Nat
 |.int z=>if 0<=z/\z<(m:Int)then gV z.toNat else N4
 |_=>N4
theorem bA(h:aU m d=gV i):i<m/\d=.int (i:Int):=by
 cases d with
 |int z=>
  have H:(if 0<=z/\z<(m)then gV _ else N4)=gV i:=h
  grind
 |_=>cases h
noncomputable def ny(w:Str):Oe->N6
 |.str x=>decide (x=w)
 |_=>NZ
theorem tG(d:Oe)(w:Str):O7 d (.str w)=ny w d:=by
 cases d with
 |str x=>
  rfl
 |_=>rfl
noncomputable def formB(w:Str)(n:Nat):Oe->N6
 |.tuple d=>decide (d.length=n)&&ny w (d.getD 0 .none)
 |_=>NZ
def ar(n:Nat)(c:ab Int):Prop:=Ups c/\∀l∈c,1<=absI l/\absI l<=(n:Int)
noncomputable def gb(t:Str)(h:N6)(s:ab (ab Int))(d:Oe):NW (ab Int):=(aU s.length d).map λi=>aG t h<|s.getD i []
noncomputable def eB(t:Str)(h:N6)(f s:ab Int)(z:Int):N6:=(aA t (!h)).contains z&&(f.contains z&&(s.contains (-z)&&!di f s z))
noncomputable def dF(t:Str)(h:N6)(s:ab (ab Int))(d D a:Oe):NW (ab Int):=
 match aU s.length d,aU s.length D,a with
 |some i,gV j,.int z=>if eB t h (s.getD i []) (s.getD j []) z=NU then gV (bH (s.getD i []) (s.getD j []) z)else N4
 |_,_,_=>N4
def RV(H:Hp)(o:NW (ab Int))(v:V):Prop:=
 match o with
 |none=>v=.non
 |some c=>CL H c v
theorem wL:∀{c:ab Int} {n b:Int},Ups c->(∀l∈c,b<absI l/\absI l<=n)->(c.length:Int)<=max 0 (n-b)
 |[],n,b,_,_=>by simp;omega
 |x::c,n,b,h,g=>by
  have G:=g x Om;have i:=wL h.tail λl H=>⟨h.head l H,(g l<|Ov _ H).2⟩;grind
theorem bw(h:ar n c):c.length<=n:=by
 have:=wL (b:=0) h.1 λl H=>⟨by have:=(h.2 l H).1;lia,(h.2 l H).2⟩;simp_all
noncomputable def tH(c:ab Int)(C:ab (ab Int)):N6:=C.all λk=>c.any λl=>k.contains l
noncomputable def zD:Oe->Int
 |.int z=>z
 |_=>0
noncomputable def lJ:Oe->ab Int
 |.tuple d=>d.map zD
 |_=>[]
noncomputable def lK(n:Nat)(c:ab (ab Int))(d:Oe):NW (ab Int):=if(qE (n:Int) d&&tH (lJ d) c)=NU then gV (lJ d)else N4
noncomputable def iV:Oe->Nat->Oe
 |.tuple d,i=>d.getD i .none
 |_,_=>.none
noncomputable def aM:Str:=NV "given"
noncomputable def bD:Str:=NV "hits"
noncomputable def aY:Str:=NV "join"
noncomputable def aE:Str:=NV "drop"
noncomputable def ji(c:ab (ab Int))(d:Oe):NW (ab Int):=(aU c.length d).map λi=>c.getD i []
noncomputable def aI(t:Str)(c:ab (ab Int))(h:N6)(s:ab (ab Int))(d:Oe):NW (ab Int):=
 if(!h&&formB aM 2 d)=NU then ji c (iV d 1)
 else if(h&&formB bD 2 d)=NU then lK t.length c (iV d 1)
 else if formB aY 4 d=NU then dF t h s (iV d 1) (iV d 2) (iV d 3)
 else if formB aE 2 d=NU then gb t h s (iV d 1)
 else N4
noncomputable def bE(t:Str)(C:ab (ab Int))(h:N6)(s:ab (ab Int)):ab Oe->ab (ab Int)×N6
 |[]=>(s,NU)
 |d::r=>match aI t C h s d with
  |none=>(s,NZ)
  |some c=>bE t C h (s++[c]) r
theorem tI:∀{d:ab Oe} {n b:Int},kJ n b d=NU->d=(d.map zD).map Vu/\Ups (d.map zD)/\∀l∈d.map zD,b<absI l/\absI l<=n
 |[],_,_,_=>⟨rfl,.nil,λ_ h=>nomatch h⟩
 |e::d,n,b,h=>by
  obtain⟨z,rfl⟩|c:=ng e
  ·rw[nc]at h
   split at h
   ·rename_i f;obtain⟨g,i,a⟩:=tI h;refine⟨?_,RG.mpr ⟨λy j=>?_,i⟩,λl H=>?_⟩
    ·rw[OH,OH,<-g];rfl
    ·obtain⟨l,H,rfl⟩:=OT.mp j;exact(a l H).1
    obtain rfl|H:=Oz.mp H
    ·exact f
    have:=a l H;lia
   simp_all
  rw[tu c]at h;cases h
theorem wM{n:Nat}{d:Oe}(h:qE (n:Int) d=NU):d=ii (lJ d)/\ar n (lJ d):=by
 cases d with
 |tuple D=>
  obtain⟨H,a,b⟩:=tI h;refine⟨?_,a,λl c=>?_⟩
  ·show SW D=.tuple ((D.map zD).map _)
   rw[<-H]
  ·have:=b l c;assumption
 |_=>cases h
theorem wN:∀{c:ab Int} {n b:Int},Ups c->(∀l∈c,b<absI l/\absI l<=n)->kJ n b (c.map .int)=NU
 |[],_,_,_,_=>rfl
 |x::c,n,b,h,g=>by
  rw[OH,nc,Oi<|g x Om];exact wN h.tail λl H=>⟨h.head l H,(g l<|Ov _ H).2⟩
theorem E5(h:ar n c):qE (n:Int) (ii c)=true:=wN h.1 λl H=>⟨by have:=(h.2 l H).1;lia,(h.2 l H).2⟩
theorem E6(c:ab Int):(c.map Vu).map zD=c:=by
 rw[O_];exact List.map_id c
theorem Bg(c:ab Int):lJ (ii c)=c:=E6 c
theorem dZ{n:Nat}{C:ab (ab Int)}(h:∀c∈C,ar n c){i:Nat}(H:i<C.length):ar n (C.getD i []):=by
 simp_all
theorem gi(h:ar n c):ar n (aG t w c):=
 ⟨Py.mpr<|SQ _<|Py.mp h.1,λl H=>h.2 l (Oq.mp H).1⟩
theorem nz(h:ar n f)(H:ar n s)(a:di f s v=NZ):ar n (bH f s v):=by
 obtain⟨b,c⟩:=dj h.1 H.1 a;exact⟨b,λl d=>((c l).mp d).1.elim (h.2 l)<|H.2 l⟩
theorem Bh(H:∀c∈s,ar n c)(h:gb t w s d=gV c):ar n c:=by
 unfold gb at h;cases e:aU _ d with
 |none=>rw[e]at h;cases h
 |some i=>
  rw[e]at h;cases h;exact gi<|dZ H (bA e).1
theorem Bi(a:∀c∈s,ar n c)(h:dF t w s d D b=gV c):ar n c:=by
 unfold dF at h;cases e:aU s.length d with
 |none=>simp_all
 |some i=>
 cases E:aU s.length D with
 |none=>simp_all
 |some j=>
 rw[e,E]at h;cases b with
 |int z=>
  have H:(if eB t w _ _ z=NU then gV _ else N4)=gV c:=h
  split at H
  ·rename_i g;cases H;unfold eB at g;refine nz (dZ a (bA e).1) (dZ a (bA E).1) ?_;lia
  simp_all
 |_=>cases h
theorem Bj(a:∀c∈C,ar t.length c)(H:∀c∈s,ar t.length c)(h:aI t C w s d=gV c):ar t.length c:=by
 unfold aI at h
 split at h
 ·unfold ji at h;cases e:aU _ _ with
  |none=>rw[e]at h;cases h
  |some i=>
   rw[e]at h;cases h;exact dZ a (bA e).1
 split at h
 ·unfold lK at h
  split at h
  ·rename_i g;cases h;rw[Pf]at g;exact(wM g.1).2
  simp_all
 split at h
 ·exact Bi H h
 split at h
 ·exact Bh H h
 simp_all
theorem fG(a:∀c∈C,ar t.length c):∀{D:ab Oe} {s:ab (ab Int)},(∀c∈s,ar t.length c)->∀c∈(bE t C w s D).1,ar t.length c
 |[],s,h=>h
 |d::r,s,h=>by
  show∀c∈(match aI t C w s d with|none=>(s,NZ)|some c=>bE t C w (s++[c]) r).1,ar _ c
  cases e:aI t C w s d with
  |none=>exact h
  |some c=>
   refine fG a λz H=>?_;obtain H|H:=OB.mp H
   ·exact h z H
   rw[N9.mp H];exact Bj a h e
theorem kK{d:Oe}:∀{D:ab Oe} {s o:ab (ab Int)},bE t C H s D=(o,NU)->
  bE t C H s (D++[d])=match aI t C H o d with|none=>(o,NZ)|some c=>(o++[c],NU)
 |[],s,o,h=>by
  cases h;rfl
 |e::r,s,o,h=>by
  have a:(match aI t C H s e with|none=>(s,NZ)|some c=>bE t C H _ r)=(o,NU):=h;show(match aI t C H s e with|none=>(s,NZ)|some c=>bE t C H _<|r++[d])=_
  cases g:aI t C H s e with
  |none=>simp_all
  |some c=>
   rw[g]at a;exact kK a
theorem jN(h:formB w n d=NU):∃D,d=.tuple D/\D.length=n:=by
 cases d with
 |tuple D=>
  have H:(decide _&&ny w _)=true:=h;rw[Pf]at H;exact⟨D,rfl,Oo H.1⟩
 |_=>cases h
theorem lL:∀{a:ab Oe} {s:ab (ab Int)},bE t C h s (a++b)=if(bE t C h s a).2=NU then bE t C h (bE t C h s a).1 b else bE t C h s a
 |[],s=>rfl
 |d::a,s=>by
  show(match aI t C h s d with|none=>(s,NZ)|some c=>bE t C h _<|a++b)=if(match aI t C h s d with|none=>(s,NZ)|some c=>bE t C h _ a).2=NU then bE t C h (match aI t C h s d with|none=>(s,NZ)|some c=>bE t C h _ a).1 b else(match aI t C h s d with|none=>(s,NZ)|some c=>bE t C h _ a)
  cases e:aI t C h s d with
  |none=>rfl
  |some c=>exact lL
theorem E7(h:bE t C H [] (D.take i)=(s,NU))(a:D[i]?=gV d)(l:aI t C H s d=N4):bE t C H [] D=(s,NZ):=by
 have e:D=D.take i++d::D.drop (i+1):=by
  obtain⟨b,rfl⟩:=NT.mp a;simp
 rw[e,lL,h];show(match aI t C H s d with|none=>(s,NZ)|some c=>bE t C H _<|D.drop<|i+1)=_
 rw[l]
theorem tJ{t:Str}{C:ab (ab Int)}{H:N6}{D:ab Oe}{s:ab (ab Int)}{i:Nat}{d:Oe}{c:ab Int}(h:bE t C H [] (D.take i)=(s,NU))(a:D[i]?=gV d) (l:aI t C H s d=gV c):bE t C H [] (D.take<|i+1)=(s++[c],NU):=by
 rw[OM,a];show bE t C H [] (D.take i++[d])=_
 rw[kK h,l]
theorem cM:∀{D:ab Oe} {s o:ab (ab Int)},bE t C w s D=(o,NU)->o.length=s.length+D.length
 |[],s,o,h=>by
  cases h;rfl
 |d::r,s,o,h=>by
  have H:(match aI t C w s d with|none=>(s,NZ)|some c=>bE t C w _ r)=(o,NU):=h;cases g:aI t C w s d with
  |none=>simp_all
  |some c=>
   rw[g]at H;have:=cM H;rw[NX,OG]at this;rw[Os];lia
theorem getD_some{a:Type}{l:ab a}{i:Nat}{d:a}(h:i<l.length):l[i]?=gV (l.getD i d):=by
 rw[A',K' h];rfl
noncomputable def bW(o:N6)(B:ab N6)(l:Int):N6:=match B[(absI l-1).toNat]? with
 |some b=>(b == decide (0<l)) == o
 |none=>NZ
noncomputable def bI(C:ab (ab Int))(b:ab N6):N6:=C.all λc=>c.any<|hit b
theorem tK(h:(absI l-1).toNat<B.length):bW o (B++[b]) l=bW o B l:=by
 unfold bW;rw[OA h]
theorem tL(h:(absI l-1).toNat=B.length):bW o (B++[b]) l=((b == decide (0<l)) == o):=by
 unfold bW;simp_all
theorem fh(h:b.length<=(absI l-1).toNat):bW o b l=false:=by
 unfold bW;rw[O3 h]
theorem tN(a:l∈c)(h:ik t H c<absI l):bJ t (absI l-1).toNat=H:=by
 cases g:bJ t _ == H with
 |true=>exact eq_of_beq g
 |false=>
  have m:absI l∈(c.filter λl=>!(bJ t (absI l-1).toNat == H)).map _:=P4<|Oq.mpr ⟨a,by rw[g];rfl⟩;have:=(f_ ((c.filter _).map _) 0).1.2 _ m;unfold ik at h;omega
theorem iK(d:1<=z)(h:bW o B z=NU)(c:bW o B (-z)=NU):False:=by
 have e:absI (-z)=absI z:=by
  obtain⟨y,e⟩|⟨y,e⟩:=aB z<;>obtain⟨y,E⟩|⟨y,E⟩:=aB (-z)<;>lia
 unfold bW at h c;rw[e]at c;cases g:B[(absI z-1).toNat]? with
 |none=>rw[g]at h;cases h
 |some b=>
  rw[g]at h c;have H:=h;have a:=c;rw[Ob (by lia)]at H;rw[N3 (by lia)]at a;simp_all
end OD
namespace DP
open PySem
theorem E8:pz (.type "list") "keys"=pure none:=by rfl
theorem wO:PySem.entryFor table "dict.update.loop"=gV Builtin.«dict.update.loop»:=PySem.entryFor_of_tree (by rfl)
theorem mo:plainId "dict.update.loop"=true:=by decide+kernel
theorem yQ{Q:NW M'->N8->Prop}(x:s.heap.get? l=gV o)(f:o.cls=.type "list")(a:o.data=.seq X k)(i:o.dict=N4)(j:A.handled=N4)
  (h:∀h' T,(∀b o,s.heap.get? b=gV o->h'.get? b=gV o)->Q N4 {s with heap:=h',toks:=T}):wpAny (OI p w) A (getAttr? (.ref l) "keys") Q E s:=by
 obtain⟨c,D,m,n⟩:=o;simp only at f a i;subst f a i;obtain⟨q,g,d,T,os⟩:=s;have C:∀t,(⟨q,g,d,t,os⟩:N8).TypeIs (.ref l) "list":=λZ=>⟨_,x,rfl⟩;have r:=sub_AttributeError;have u:=F.slot_list_getattribute.lookup;have v:=F.slot_list_getattribute.bind<|.ref l;have y:=am_list_getattr_none;unfold getAttr? getAttrBy? getAttrBy
 repeat (any_goals (first|assumption|exact C _|((with_reducible show wpAny _ _ (call (Value.builtin "list.__getattribute__") _ _) _ _ _);refine Vq F.slot_list_getattribute (C _) am_entry_list_getattribute (F.args_list_getattribute_2 _ _) (meets_getattribute_miss_list l X k n "keys" _ E8 (by rfl)<|by decide+kernel) ⟨x,j,λh' t e H=>?_⟩)|wp_step))
 obtain⟨z,U,B⟩:=H.there;show wpAny _ _ (X9 _ _ _ _ _ _ _) _ _ _
 unfold X9
 repeat (any_goals (first|assumption|wp_step))
 exact h _ _ H.keeps
section
variable {prog:Of}{w:OE}{K:Type}[V0 K]{knd:KeyKind prog w K}{A:Pr}{s:N8}
theorem vf(a:s.heap.IsTuple t x)(h:Q x.toList s):wpAny (OI prog w) A (WG<|.ref t) Q E s:=by
 obtain⟨o,H,c,n,d⟩:=a;have T:s.TypeIs (.ref t) _:=⟨o,H,c⟩;exact N0<|Vg T<|N0<|Sa H d<|Oj h
theorem yR(hh:A.in1.handled=N4){x:O5}(y:l≠I)(h:d≠I)(B:d≠l)(hn:a.size<=sizeLine)(hm:M.length=a.size)
  (C:∀(i:Nat) (v:M'),a[i]?=gV v->∃f k t,M[i]?=gV f/\knd.is f.1 k=NU/\v=.ref t/\t≠d/\t≠I/\x.IsTuple t #[k,f.2]) {R:Zn->N8->Prop}:
  ∀(m i:Nat) (s:N8) (T:Tok),a.size-i=m->i<=a.size->s.heap.IsListIter I l i->s.heap.IsList l a->s.heap.DictOf knd d (X8 []<|M.take i)->
   (∀b o,b≠d->b≠I->x.get? b=gV o->s.heap.get? b=gV o)->
   (∀h' g,h'.DictOf knd d (X8 [] M)->(∀b o,b≠d->b≠I->x.get? b=gV o->h'.get? b=gV o)->R (.ok<|.ret .none) {s with heap:=h',toks:=g})->
   codeAny (OI prog w) A (.builtin "dict.update.loop" ⟨[.ref d,.ref I,.int (i:Int) T,.none],[]⟩) R s:=by
 have W:=WA (prog:=prog) (w:=w) (A:=A.in1) hh I l y a;intro m
 induction m with
 |zero=>
  intro i s T D hi j E c Z F;have e:i=a.size:=by lia
  subst e;refine Rk wO ?_;rw[Qv mo _];refine N0 (m:=V9<|.ref I)<|W.done s _ _ ⟨j,E⟩ λh' g G=>?_;have U:∀b o,b≠I->s.heap.get? b=gV o->h'.get? b=gV o:=λb o J e=>G b o (by simpa using J) e;refine N0 (m:=abj d [])<|Oj<|Oj ?_;refine F h' g ?_ λb o q u e=>U b o u<|Z b o q u e;rw[Od<|by exact Ui hm]at c;obtain⟨o,L,N,H,r⟩:=c;exact⟨o,L,N,U d o h H,r⟩
 |succ m ih=>
  intro i s T D hi j E c Z F;have RH:i<a.size:=by lia
  refine Rk wO ?_;rw[Qv mo _];refine N0 (m:=V9<|.ref I)<|W.item i s _ _ RH ⟨j,E⟩ λv h' g hv QV G=>?_;have U:=λb o J e=>G b o (by simpa using J) e;obtain⟨f,k,t,O,P,rfl,Q,n,ht⟩:=C i v hv;have X:h'.IsTuple t _:=let ⟨o,H,r⟩:=ht;⟨o,U t o n<|Z t o Q n H,r⟩
  have Y:h'.DictOf knd d _:=let ⟨o,L,N,H,r⟩:=c;⟨o,L,N,U d o h H,r⟩
  have hz:(X8 []<|M.take i).length<=sizeLine:=by
   have:=merged_length_le []<|M.take i;rw[OC]at this;simp only[TC]at this;lia
  refine N0<|P'<|N0<|Qu<|vf X<|P'<|wpAny_dictSet_pairs P Y λu Y4 sb=>?_;have e2:X8 [] _=stored _ f.1 f.2:=merged_take_succ _ _ _ _ O;refine Oj ⟨Rf mo _,ih (i+1) _ 0 (by grind) RH ?_ ?_ (by rwa[e2]) (λb o q p e=>(sb.2 b q).trans<|U b o p<|Z b o q p e) λh3 ac b1 b2=>F h3 ac b1 b2⟩
  ·exact QV.1.at λo e=>(sb.2 I λz=>h z.symm).trans e
  exact QV.2.at λo e=>(sb.2 l λz=>B z.symm).trans e
theorem call_pairs{E:M'->N8->Prop}(L:A.handled=N4){Q:M'->N8->Prop}(M:s.heap.get? l=gV p)(q:p.cls=.type "list")(Z:p.data=.seq I U)(u:p.dict=N4)(X:I.size<=sizeLine)(Y:m.length=I.size)
  (z:∀(i:Nat) (v:M'),I[i]?=gV v->∃d k t,m[i]?=gV d/\knd.is d.1 k=NU/\v=.ref t/\s.heap.IsTuple t #[k,d.2])
  (h:∀(h':O5) (T:Nat),h'.DictOf knd s.heap.objs.size (X8 [] m)->(∀b o,s.heap.get? b=gV o->h'.get? b=gV o)->Q (.ref s.heap.objs.size) {s with heap:=h',toks:=T}):
  wpAny (OI prog w) A (call (.type "dict") [.ref l]) Q E s:=by
 refine callType_codes (Q₁:=λO a=>O=.ref s.heap.objs.size/\a={s with heap:=s.heap.push {cls:=.type "dict",data:=.dict #[]}}) F.kt_called_dict (F.kt_typeCall_dict_1 _) F.entry_dict_init (kt_code_dict_new _ ⟨rfl,rfl⟩) ?_;rintro O a ⟨rfl,rfl⟩;have c:(s.heap.push {cls:=.type "dict",data:=.dict #[]}).DictOf knd s.heap.objs.size []:=ZW s.heap;have W:=N_ {cls:=.type "dict",data:=.dict #[]} M;have RH:l<s.heap.objs.size:=On M;have x:PySem.Shared.TypeIs {s with heap:=s.heap.push {cls:=.type "dict",data:=.dict #[]}} (.ref l) "list":=⟨_,W,q⟩;exists c.typeIs,F.args_dict_init_2 _ _;unfold Builtin.«dict.__init__»;refine N0 ?_;refine N0<|W5 c.typeIs ?_;show wpAny _ _ (pure _) _ _ _
 refine Oj ?_;show wpAny _ _ _ _ _ _
 refine N0<|Vg x<|N0<|yQ W q Z u (by simpa using L) λH y f=>?_;have N:=f _ _ W;have g:H.IsList l I:=⟨_,N,q,U,Z⟩;simp only ;refine N0<|R3<|N0<|Sy g<|Oj ?_;exists Rf mo _;have B:=OJ s.heap (o:={cls:=.type "dict",data:=.dict #[]}) rfl;have C:=f _ _ B;have D:=On N;have G:=On C;have J:H.DictOf knd _ []:=let ⟨o,es,ep,n,r⟩:=c;⟨o,es,ep,f _ _ n,r⟩
 have hit:(H.push {cls:=.type "list_iterator",data:=.fields #[.ref l,.int 0 0]}).get? _=gV _:=OJ _ rfl;refine yR (by simpa using L) (x:=H.push _) (OF D) (OF G) (RX RH) X Y (λi v hv=>?_) _ 0 _ 0 rfl (Ou _) ⟨_,hit,rfl,rfl⟩ (g.push _) (J.push _) (λb o V V e=>e) λh' T b1 b2=>?_
 ·obtain⟨d,k,t,a1,a2,a3,a4⟩:=z i v hv;obtain⟨o,n,r⟩:=a4;have j:=f _ _<|N_ _ n;exact⟨d,k,t,a1,a2,a3,OF<|On n,OF<|On j,o,N_ _ j,r⟩
 refine⟨rfl,h h' T b1 λb o e=>?_⟩;have P:=f _ _<|N_ _ e;exact b2 b o (OF<|On e) (OF<|On P)<|N_ _ P
end
end DP
namespace L2
open PySem PySem.Spec PyProof.Rows
structure rX (P:Of)(w:OE)(K:B')(mg:Str->NW M')(base:O5)(CX:At)(k:Nat)(C:C')(m:Str)(f:C')(fd:Oc)(ps:ab Str)(sp:Sp):Prop where
 ok:ao P w K mg base CX k f fd ps sp
 b:Binds K fd ps []
 cl:Cls K C
 me:Ex K C m f
structure Jj (P:Of)(w:OE)(K:B')(mg:Str->NW M')(base:O5)(k:Nat)(x:Str)(C f:C')(fd:Oc)(ps:ab Str)(sp:Sp):Prop where
 ok:ao P w K mg base aP k f fd ps sp
 b:Binds K fd ps []
 mks:Mk K C f
 at_:mg x=gV (.ref C)
section
variable {X:Cx}{j k:Nat}{C f:C'}{fd:Oc}{ps:ab Str}{sp:Sp}{pos:Pos}{e:Pl}{es:ab Pl}{t:TA}
theorem il{m:Str}{v:Pos}{o:Pl}{T:TE}{p:Sem N6}(G:rX X.prog X.w X.K X.mg X.base aP j C m f fd ps sp)(a:PE X o T)(r:Room k X.A)(h:j<=k)(b:PA X (e::es) t)
  (H:ON (e::es) X.env=(NZ,Qs e X.env)::ON es X.env:=by rfl) (x:(Rl pos<|ON es X.env).any (·.1)=false:=by rfl)
  (c:Qs (.Call (.Attribute o m v) (e::es) [] pos) X.env=(do
   let O <-Qs o X.env
   XE v.atName
   let (f,first) <-T7 [O] (Wl O m p)
   nk pos f first (Rl pos<|ON (e::es) X.env) (Xk pos<|UU [] X.env)):=by rfl):
  PE X (.Call (.Attribute o m v) (e::es) [] pos) (sA C m sp [] E0 T t):=EA a G.cl G.me G.ok (r.mono h) G.b .nil wB b H x c
theorem Lo{x:Str}{p:Pos}(G:Jj X.prog X.w X.K X.mg X.base j x C f fd ps sp)(r:Room k X.A)(h:j+1<=k)(g:Gl X x)(a:PA X (e::es) t)(H:(x == ("__debug__":Str))=false:=by decide)
  (b:ON (e::es) X.env=(NZ,Qs e X.env)::ON es X.env:=by rfl) (u:(Rl pos<|ON es X.env).any (·.1)=false:=by rfl):
  PE X (.Call (.Name x p) (e::es) [] pos) (GB C sp [] E0 t):=EB G.mks G.ok (r.mono h) g G.at_ G.b .nil wB a H b u
theorem qG:dL X (.builtin "isinstance") (λx H Q=>∃y T C b,x=[y,.ref C]/\je X.K H y T/\QV X.K T (.ref C)=gV b/\Q (.bl b) H):=by
 rintro O s g H x U Q I r ⟨y,T,C,b,rfl,h,a,q⟩;obtain⟨u,v,rfl,c,d⟩:=r.two;cases d;exact pi I c h a λi=>⟨.bl b,H,I.tok _,rfl,q⟩
end
theorem tO(O:HOk P w H h):∀(T:ab C') (k:ab (aK×V)),T.length=k.length->(∀(i:Nat) (t:C') (a:aK×V),T[i]?=gV t->k[i]?=gV a->H t=gV (.tup [kV a.1,a.2]))->
  ∃m:ab (aK×M'),KV k m/\m.length=T.length/\m.map (·.1)=k.map (·.1)/\∀(i:Nat) (t:C'),T[i]?=gV t->∃a y,m[i]?=gV a/\(aN P w).is a.1 y=NU/\h.IsTuple t #[y,a.2]
 |[],[],_,_=>⟨[],.nil,rfl,rfl,λi t e=>by simp at e⟩
 |[],_::_,e,_=>by simp at e
 |_::_,[],e,_=>by simp at e
 |t::T,a::k,e,p=>by
  obtain⟨m,A,d,f,g⟩:=tO O T k (by simpa using e) λi c b E j=>p (i+1) c b (by assumption) (by assumption);obtain⟨Z,G,r,o,l,q,n,s⟩:=(O t _<|p 0 t a rfl rfl);obtain⟨u,v,rfl,x,z⟩:=r.two;refine⟨(a.1,v)::m,.cons ⟨rfl,z⟩ A,by simp[d],by simp[f],λi c E=>?_⟩;cases i with
  |zero=>
   have B:t=c:=by simpa using E
   subst B;exact⟨(a.1,v),u,rfl,iY x,o,l,q,n,s⟩
  |succ i=>
   obtain⟨b,y,C,D,F⟩:=g i c (by assumption);exact⟨b,y,by assumption,D,F⟩
inductive GU (xs:ab V)(H:Hp)(Q:VK):Prop
 |mk (l:C')(T:ab C')(kvs:ab (aK×V))(hx:xs=[.ref l])(h:H l=gV (.lst<|T.map V.ref))(hl:T.length=kvs.length)(hp:∀(i:Nat) (t:C') (k:aK×V),T[i]?=gV t->kvs[i]?=gV k->H t=gV (.tup [kV k.1,k.2])) (nd:(kvs.map (·.1)).Nodup) (z:kvs.length<=9000)
  (q:∀d,H d=N4->Q (.ref d) (upd H d<|.dK kvs)):GU xs H Q
theorem fi(g:X.calm=NU):dL X (.type "dict") GU:=by
 intro Og s J H xs us Q I r h;obtain⟨l,t,k,rfl,j,o,p,N,z,q⟩:=h;obtain⟨u,rfl,w⟩:=r.one;cases w;obtain⟨z1,P,n,x,A,e⟩:=I.lstM j;obtain⟨m,B,a2,C,D⟩:=tO I.hok t k o p;refine DP.call_pairs (knd:=aN _ X.w) (m:=m) (I.ok.hd g) e rfl rfl rfl (by simp_all) (by simp_all) (λi v E=>?_) λh' T d F=>?_
 ·have Z:P[i]?=gV v:=by simpa using E
  have G:i<t.length:=by
   have:=(NT.mp Z).1;simp_all
  have f:t[i]?=gV _:=K' G;obtain⟨L,y,M,O,U⟩:=D i _ f;have W:(t.map V.ref)[i]?=gV (.ref t[i]):=by rw[List.getElem?_map,f];rfl
  obtain⟨v',a,c⟩:=x.get W;rw[Z]at a;cases a;cases c;exact⟨L,y,_,M,O,rfl,U⟩
 rw[merged_nil_of_nodup m<|by simp_all]at d;refine⟨.ref _,_,I.laid (λb q Y=>F b q Y) (N1 _)<|qA (O6 z (by decide)) (Pg.mpr<|Pw<|OF I.big) B d,rfl,q _<|I.hok.fresh<|N1 _⟩
noncomputable def Lp(a:C'):HO:=.ext λh=>∃o,h.get? a=gV o
noncomputable def cQ(a:C')(o:Obj):HO:=.frz o<|Lp a
theorem jO(e:h.get? a=gV o):ObjOk P w H h a (cQ a o):=
 ⟨e,⟨o,e⟩,⟨o,e⟩,λz z ⟨o,q⟩ k=>⟨o,k o q⟩⟩
theorem fH(x:HOk P w H h)(e:H a=gV (cQ a o)):h.get? a=gV o:=(x a _ e).1
inductive CodeK (H:Hp)(qual:Str)(C:M'):Prop
 |mk (c:C')(o:Obj)(vs:Qp M')(t:Tok)(e:C=.ref c)(h:H c=gV (cQ c o))(d:o.data=.fields vs)(q:vs[1]?=gV (.str qual t))
inductive TabAt (H:Hp)(T:C')(p:Pos)(qual:Str):Prop
 |mk (P:Qp M')(h:H T=gV (.tbl P))(t:TriplesOk P.toList)(c:∀C,codeAmong p P.toList=gV C->CodeK H qual C)
inductive LamAt (H:Hp)(f:C')(qual:Str)(params:SY)(body:Pl)(s:Sm)(clos:ab (Str×C')):Prop
 |mk (p C:M')(c:C')(h:H f=gV (cQ f<|Rm "<lambda>" qual params body s clos p c C))(k:CodeK H qual (.ref c))
def Off(T:C')(H h:Hp):Prop:=∀b o,b≠T->H b=gV o->h b=gV o
theorem CodeK.mono(x:CodeK H Q C)(k:∀b o,H b=gV (cQ b o)->a b=gV (cQ b o)):CodeK a Q C:=by
 obtain⟨c,O,v,t,e,h,d,q⟩:=x;exact⟨c,O,v,t,e,k _ _ h,d,q⟩
theorem LamAt.mono(x:LamAt H f Q p B s C)(k:∀b o,H b=gV (cQ b o)->a b=gV (cQ b o)):LamAt a f Q p B s C:=by
 obtain⟨P,v,c,h,q⟩:=x;exact⟨P,v,c,k _ _ h,q.mono k⟩
theorem TabAt.mono(x:TabAt H T p Q)(k:Same H a):TabAt a T p Q:=by
 obtain⟨P,h,t,c⟩:=x;exact⟨P,k _ _ h,t,λC e=>(c C e).mono λb o q=>k _ _ q⟩
inductive Lq (T:C')(p:Pos)(qual:Str)(params:SY)(body:Pl)(s:Sm)(clos:ab (Str×C'))(H:Hp)(Q:VK):Prop
 |mk (t:TabAt H T p qual)(q:∀(f:C') (h:Hp),H f=N4->Off T H h->TabAt h T p qual->LamAt h f qual params body s clos->Q (.ref f) h)
def Nj(T:C')(P:Pos)(q:Str)(p:SY)(b:Pl)(s:Sm)(c:ab (Str×C')):TE:=λ_ H Q=>Lq T P q p b s c H Q
structure kL (mg:Str->NW M')(base:O5)(c T:C'):Prop where
 code:Sb base c T
 bm:∃bm ob,mg "__builtins__"=gV (.ref bm)/\bm≠UK/\base.get? bm=gV ob/\ob.cls=.type "module"/\ob.dict=gV UK/\ob.data=.plain
theorem qH(L:kL X.mg X.base c T)(I:Inv X i j H s)(l:H T=gV (.tbl p)):s.heap.BuiltinsAt X.mg T:=by
 obtain⟨m,O,a,d,b,f,g,B⟩:=L.bm;refine⟨m,O,a,d,λq=>?_,λq=>?_,I.bk _ _ b,f,g,B⟩
 ·obtain⟨o,E,k,e,h,y⟩:=I.ok.mod.glob;simp_all
 have z:=(I.bs _ _ b).2;lia
theorem Bk{X:Cx}{p:SY}{B:Pl}{a:Sm}{P:Pos}{c:C'}{T:C'}{f:ab (Str×C')}(L:kL X.mg X.base c T)(hc:X.env.code=.ref c)(ac:defaultsOf p X.env=([],[]):=by rfl)(Vl:o1 a X.env=pure f:=by rfl):
  PE X (.Lambda p B a P) (Nj T P (X.env.qual++"<lambda>") p B a f):=by
 intro Og s σ H Q I ⟨am,hq⟩;refine PySem.W.kla_eval ac ?_;obtain⟨j,hT,y,D⟩:=am;have hP:s.heap.get? T=gV (SI j):=I.hok T _ hT;have Cs:Sb s.heap c T:=L.code.keeps I.bk;have hg:s.heap.Ns OS X.mg:=I.ok.mod.glob.keeps I.bk;have an:OS≠T:=λq=>by
  obtain⟨o,es,ep,e,E,V⟩:=hg;lia
 have U:=qH L I hT;cases W:codeAmong P j.toList with
 |none=>
  refine PySem.W.kla_makeFunction (mg:=X.mg) Vl I.ok.glob hg hc Cs hP y W an U λC g h m Y r RH F G=>?_;obtain⟨c2,k,vs,t,e2,as,E,hv⟩:=F;cases e2;have fc:H C=none:=I.hok.fresh r;have nT:C≠T:=λz=>by lia
  have atT:upd (upd H T<|.tbl<|j++#[V8 P.line,V8 P.col,.ref C]) C (cQ C k) T=gV (.tbl<|j++#[V8 P.line,V8 P.col,.ref C]):=by rw[af<|Pw nT,aa]
  have A:upd (upd H T<|.tbl<|j++#[V8 P.line,V8 P.col,.ref C]) C (cQ C k) C=gV (cQ C k):=aa;have O:∀b,b≠T->b≠C->upd (upd H T<|.tbl<|j++#[V8 P.line,V8 P.col,.ref C]) C (cQ C k) b=H b:=λb h1 h2=>by rw[af h2,af h1]
  generalize upd (upd H T<|.tbl<|j++#[V8 P.line,V8 P.col,.ref C]) C (cQ C k)=w at atT A O;have neT:∀b u,H b=gV u->(∀j,u≠.tbl j)->b≠T:=λb u e n z=>by
   grind
  have neN:∀b,H b=N4->b≠T:=λb e z=>by lia
  have N:∀b u,H b=gV u->b≠C:=λb u e z=>by lia
  have av:∀b o,s.heap.get? b=gV o->b≠C:=λb o e=>OF<|Pb (On e) r;have un:Un X.fs [] H w s.heap h:=by
   refine⟨λb o e n V V=>Y b o (neN b n) e,λb o e n V V=>⟨o.slots,Y b o (neN b n) e⟩,λb o e n V=>?_,λb o e V=>?_,λb xs e=>?_,λb o u e=>?_,λb qs e=>?_⟩
   ·rw[O b (neN b n)<|av b o e];exact n
   ·by_cases i:b=T
    ·exact⟨_,i▸G⟩
    exact⟨o,Y b o i e⟩
   ·simp_all
   ·simp_all
   by_cases i:b=T
   ·grind
   exact⟨#[],by rw[O b i<|N b _ e,e];simp⟩
  have az:HOk X.prog X.w w h:=λb u e=>by
   by_cases i:b=T
   ·subst i;rw[atT]at e;cases e;exact G
   by_cases J:b=C
   ·subst J;rw[A]at e;cases e;exact jO as
   rw[O b i J]at e;refine(I.hok b u e).stay (λd v x q=>Y d v ?_ q) (λd q=>?_) λd xs q=>?_
   ·lia
   ·simp_all
   simp_all
  have M:Inv X Og σ w {s with heap:=h,toks:=m}:=I.un (t':=m) un az;have Z:w h.objs.size=none:=M.hok.fresh<|N1 _;have aC:H h.objs.size=none:=I.hok.fresh<|O6 r<|OQ RH;have I3:=M.laid (a:=h.objs.size) (o:=cQ h.objs.size<|Rm "<lambda>" (X.env.qual++"<lambda>") p B a f ((X.mg "__name__").getD .none) C g) (h':=h.push<|Rm "<lambda>" (X.env.qual++"<lambda>") p B a f ((X.mg "__name__").getD .none) C g) (t':=m)
   (λb u e=>N_ _ e) (N1 _) (jO<|OJ _ rfl)
  have l:∀b u,w b=gV u->upd w h.objs.size (cQ h.objs.size<|Rm "<lambda>" (X.env.qual++"<lambda>") p B a f ((X.mg "__name__").getD .none) C g) b=gV u:=λb u e=>by
   rw[af<|ah e Z];exact e
  have ck:CodeK (upd w h.objs.size<|cQ h.objs.size<|Rm "<lambda>" (X.env.qual++"<lambda>") p B a f ((X.mg "__name__").getD .none) C g) (X.env.qual++"<lambda>") (.ref C):=⟨C,k,vs,t,rfl,l _ _ A,E,hv⟩;refine⟨.ref h.objs.size,_,I3,rfl,hq _ _ aC (λb u U e=>l _ _<|by rw[O b U<|N b _ e];exact e) ⟨_,l _ _ atT,?_,λcv e=>?_⟩ ⟨_,g,C,aa,ck⟩⟩
  ·rw[Tf];exact TriplesOk_snoc _ _ _ _ y
  ·rw[Tf]at e;have z:=codeAmong_snoc (c:=Pp C) j.toList y W;simp_all
 |some cv=>
  obtain⟨C,k,vs,t,rfl,hC,E,hv⟩:=D cv W;refine PySem.W.kla_makeFunctionHit (mg:=X.mg) Vl I.ok.glob hg hc Cs hP y W U λg h m hk aF=>?_;have M:Inv X Og σ H {s with heap:=h,toks:=m}:=I.kept (t':=m) hk;have Z:H h.objs.size=none:=M.hok.fresh<|N1 _;have I3:=M.laid (a:=h.objs.size) (o:=cQ h.objs.size<|Rm "<lambda>" (X.env.qual++"<lambda>") p B a f ((X.mg "__name__").getD .none) C g) (h':=h.push<|Rm "<lambda>" (X.env.qual++"<lambda>") p B a f ((X.mg _).getD _) C g) (t':=m)
   (λb u e=>N_ _ e) (N1 _) (jO<|OJ _ rfl)
  have l:∀b u,H b=gV u->upd H _ (cQ h.objs.size<|Rm "<lambda>" (X.env.qual++"<lambda>") p B a f ((X.mg "__name__").getD .none) C g) b=gV u:=λb u e=>by
   rwa[af<|ah e Z]
  refine⟨.ref _,_,I3,rfl,hq _ _ Z (λb u V e=>l _ _ e) ⟨j,l _ _ hT,y,λcv e=>(D cv e).mono λb o q=>l _ _ q⟩ ⟨_,g,C,aa,⟨C,k,vs,t,rfl,l _ _ hC,E,hv⟩⟩⟩
abbrev dG:=ab<|C'×Obj
noncomputable def g9(H:Hp)(c:dG):Hp:=λb=>match c.lookup b with
 |some o=>gV<|cQ b o
 |none=>H b
noncomputable def less(H:Hp)(c:dG):Hp:=λb=>match c.lookup b with
 |some _=>N4
 |none=>H b
theorem fI(e:c.lookup b=gV o):g9 H c b=gV (cQ b o):=by unfold g9;rw[e]
theorem aZ(e:c.lookup b=N4):g9 H c b=H b:=by unfold g9;rw[e]
theorem jP(e:c.lookup b=gV o):less H c b=none:=by unfold less;rw[e]
theorem bL(e:c.lookup b=N4):less H c b=H b:=by unfold less;rw[e]
theorem aV(c:dG)(b:C'):c.lookup b=N4\/∃o,c.lookup b=gV o:=by
 cases e:c.lookup b with
 |none=>exact .inl rfl
 |some o=>exact .inr ⟨o,rfl⟩
theorem pK(h:∀b o,c.lookup b=gV o->H b=N4):Same H (g9 H c):=λb u e=>by
 obtain q|⟨o,q⟩:=aV c b
 ·rwa[aZ q]
 rw[h b o q]at e;cases e
theorem pL:Same (less H c) H:=λb u e=>by
 obtain q|⟨o,q⟩:=aV c b
 ·rwa[bL q]at e
 rw[jP q]at e;cases e
theorem pM(h:∀b o,c.lookup b=gV o->H b=gV (cQ b o))(k:Same (less H c) a):Same H (g9 a c):=λb u e=>by
 obtain q|⟨o,q⟩:=aV c b
 ·rw[aZ q];exact k _ _ (by rwa[bL q])
 rwa[fI q,<-h b o q]
theorem tP(h:∀b o,c.lookup b=gV o->H b=N4)(k:Same (g9 H c) a):Same H (less a c):=λb u e=>by
 obtain q|⟨o,q⟩:=aV c b
 ·rw[bL q];exact k _ _ (by rwa[aZ q])
 rw[h b o q]at e;cases e
def Jk(P:Of)(w:OE)(K:B')(m:Str->NW M')(b:O5)(k:Nat)(f:C')(p:Sp):Prop:=
 ∀(A:Pr) (o:ab Env) (s:N8) (H:Hp) (u:ab M') (v:ab V) (Q:VK) (E:XK),Room k A->Env0 P w K m b A o s H->Vals v u->p v H Q E->
  codeAny (OI P w) A (.call (.ref f) ⟨u,[]⟩) (CR aP o P w H s Q E) s
section
variable {X:Cx}{k:Nat}{f:C'}{fd:Oc}{sp:Sp}{x:Str}{p pos:Pos}{e:Pl}{es:ab Pl}{t:TA}
theorem E_{Og:ab (C'×Obj)}{σ:St}{H:Hp}{s:N8}{Q:VK}{m:ab M'}{M:ab V}(F:ao X.prog X.w X.K X.mg X.base aP k f fd ps sp)(hr:Room k X.A)(hb:Binds X.K fd ps [])
  (I:Inv X Og σ H s) (r:Vals M m) (c:dG) (P:∀x,X.fn x=NU) (w:∀b o,c.lookup b=gV o->(∃x,X.env.cells.lookup x=gV b)/\s.heap.get? b=gV o)
  (h:sp M (g9 H c) (λv H2=>Q v<|less H2 c) E0):wpAny (OI X.prog X.w) X.A (call (.ref f) m) (EP X Og σ Q) X.xe s:=by
 have N:∀b o,c.lookup b=gV o->H b=none:=λb o q=>by
  obtain⟨⟨x,a⟩,_⟩:=w b o q;exact I.freeC x b a
 have B:∀b o,c.lookup b=gV o->X.s₀.heap.objs.size<=b:=λb o q=>by
  obtain⟨⟨x,a⟩,_⟩:=w b o q;exact I.ok.cab x b (P x) a
 have T:∀b o,X.base.get? b=gV o->c.lookup b=none:=λb o q=>by
  obtain z|⟨O,z⟩:=aV c b
  ·exact z
  exact absurd (Pb (Pb (On q) I.ok.bsz)<|B b O z)<|QR _
 have C:∀b∈rW X.stack,c.lookup b=none:=λb q=>by
  obtain z|⟨O,z⟩:=aV c b
  ·exact z
  obtain⟨⟨x,a⟩,_⟩:=w b O z;obtain e|i:=Oz.mp (I.stkSub b q)
  ·exact absurd e<|I.cne x b a
  obtain⟨_,o,ho,_⟩:=I.ok.funs.mem i;exact absurd (Pb (On ho)<|B b O z)<|QR _
 have U:∀b u,H b=gV u->c.lookup b=none:=λb u q=>by
  obtain z|⟨O,z⟩:=aV c b
  ·exact z
  simp_all
 have W:HOk X.prog X.w (g9 H c) s.heap:=λb u q=>by
  obtain z|⟨o,z⟩:=aV c b
  ·rw[aZ z]at q;refine(I.hok b u q).stay (λ_ _ _ y=>y) (λd y=>?_) λd Y y=>?_
   ·rw[aZ<|U d _ y];exact y
   rw[aZ<|U d _ y];exact y
  rw[fI z]at q;cases q;exact jO (w b o z).2
 have E:=I.env0;have e1:Env0 X.prog X.w X.K X.mg X.base X.A X.stack s (g9 H c):=
  ⟨E.frames,E.mod,λb o q=>⟨(E.bs b o q).1,by rw[aZ<|T b o q];exact(E.bs b o q).2⟩,E.bsz,E.funs,λb q=>by rw[aZ<|C b q];exact E.frf b q,W,E.bare⟩
 have hl:m.length=ps.length:=by rw[<-r.length];exact F.len _ _ _ _ h
 have i:=hb s m I.kIn (by rwa[Pd]);rw[Pd]at i;refine X7<|T9 (F.run X.A _ s _ _ m M _ E0 hr e1 i r h) λr s' D=>?_;cases r with
 |error e=>exact P6 D
 |ok fl=>
  cases fl with
  |next=>exact P6 D
  |brk=>exact P6 D
  |cont=>exact P6 D
  |ret u=>
   obtain⟨v,L,os,G,l,J,rv,q⟩:=D;obtain⟨Z,g,d,tk,ac⟩:=s';obtain rfl:ac=s.os:=os;have A:=λb o z=>l.frzs b o _ (by rw[fI z];rfl);have am:Un (rW X.stack) [] H (less L c) s.heap Z:=by
    refine⟨λb o e n j a=>?_,λb o e n j a=>?_,λb o e n a=>?_,λb o e a=>l.there b o e a,λb Y e=>?_,λb o u e=>?_,λb qs e=>?_⟩
    ·obtain z|⟨O,z⟩:=aV c b
     ·exact l.keep b o e (by rwa[aZ z]) j a
     have e2:=(w b O z).2;rw[e]at e2;cases e2;exact fH J<|A b o z
    ·exact l.slot b o e (by rwa[aZ<|C b j]) j a
    ·obtain z|⟨O,z⟩:=aV c b
     ·rw[bL z];exact l.free b o e (by rwa[aZ z]) a
     exact jP z
    ·rw[bL<|U b _ e];exact l.tups b Y (by rwa[aZ<|U b _ e])
    ·rw[bL<|U b _ e];exact l.frzs b o u (by rwa[aZ<|U b _ e])
    rw[bL<|U b _ e];exact l.tbls b qs (by rwa[aZ<|U b _ e])
   have an:HOk _ X.w (less L c) Z:=λb u e=>by
    have e':=pL _ _ e;refine(J b u e').stay (λ_ _ _ y=>y) (λd y=>?_) λd Y y=>?_
    ·obtain z|⟨O,z⟩:=aV c d
     ·rwa[bL z]
     rw[A d O z]at y;cases y
    obtain z|⟨O,z⟩:=aV c d
    ·rwa[bL z]
    rw[A d O z]at y;cases y
   exact⟨v,_,I.call am an G (λb z=>by simp_all),rv,q⟩
def wP(X:Cx)(a:St)(n:ab Str)(c:dG):Prop:=
 Paired (λ(y:Str) (q:C'×Obj)=>X.env.cells.lookup y=gV q.1/\∃u,q.2.data=.cell (gV u)/\∀(i:Nat) (v:V),X.N[i]?=gV y->a[i]?=gV (gV v)->RelV v u) n c
theorem tQ(I:Inv X Z w H s):∀n:ab Str,(∀y∈n,X.env.kindOf y=gV .cell/\∃(i:Nat) (v:V),X.N[i]?=gV y/\w[i]?=gV (gV v))->
  ∃C:dG,wP X w n C/\∀q∈C,(∃y,X.env.cells.lookup y=gV q.1)/\s.heap.get? q.1=gV q.2
 |[],_=>⟨[],.nil,λq a=>absurd a<|by simp⟩
 |y::n,h=>by
  obtain⟨C,M,N⟩:=tQ I n λz O=>h z<|Ov _ O;obtain⟨F,i,v,A,B⟩:=h y Om;obtain⟨m,hn,P⟩:=I.loc;have D:Ki _ y:=.inr<|.inl F;have look:∀(i:Nat) (v:V),X.N[i]?=gV y->w[i]?=gV _->∃u,RelV v u/\∃c,X.env.cells.lookup y=gV c/\s.heap.IsCell c _:=λi v A B=>by
   obtain⟨u,r,l⟩:=P i y v A B D;obtain⟨G,x⟩|⟨x,c,E,Q⟩:=l
   ·rw[F]at G;cases G
   exact⟨u,r,c,E,Q⟩
  obtain⟨u,r,c,E,o,J,L⟩:=look i v A B;refine⟨(c,o)::C,.cons ⟨E,u,L,λj T U W=>?_⟩ M,λq a=>?_⟩
  ·obtain⟨u',Y,c',b,o',d,g⟩:=look j T U W;simp_all
  obtain rfl|a:=Oz.mp a
  ·exact⟨⟨y,E⟩,J⟩
  exact N q a
theorem lM:∀{c:dG} {b:C'} {o:Obj},c.lookup b=gV o->(b,o)∈c
 |[],_,_,e=>by simp at e
 |(a,O)::c,b,o,e=>by
  rw[Ra]at e;cases h:(b == a)with
  |true=>
   simp_all
  |false=>
   rw[h]at e;exact Ov _<|lM e
inductive Bm (X:Cx)(names:ab Str)(sp:Sp)(a:St)(vs:ab V)(H:Hp)(Q:VK):Prop
 |mk (has:∀y∈names,∃(i:Nat) (v:V),X.N[i]?=gV y/\a[i]?=gV (gV v)) (q:∀c:dG,wP X a names c->(∀b o,c.lookup b=gV o->H b=N4)->sp vs (g9 H c) (λv h=>Q v<|less h c) E0)
def Bn(X:Cx)(n:ab Str)(sp:Sp)(t:TA):TE:=λa H Q=>t a H λv h=>Bm X n sp a v h Q
theorem Bo{P:ab Str}{n:ab Str}(F:ao X.prog X.w X.K X.mg X.base aP k f fd P sp)(j:Room k X.A)(l:Gl X x)(m:X.mg x=gV (.ref f))(u:Px X.K (.ref f)=NU)(v:Binds X.K fd P [])
  (w:PA X (e::es) t) (c:∀x,X.fn x=NU) (A:∀y∈n,X.env.kindOf y=gV .cell) (d:(x == ("__debug__":Str))=false:=by decide) (T:ON (e::es) X.env=(NZ,Qs e X.env)::ON es X.env:=by rfl) (D:(Rl pos<|ON es X.env).any (·.1)=false:=by rfl):
  PE X (.Call (.Name x p) (e::es) [] pos) (Bn X n sp t):=by
 intro O s E H Q I h;refine Qa<|l9 I l m (TN I.ok.mod.kin u (bu (w pos O s E H _ I h) λU G Z=>?_) T D) d;obtain⟨M,N,i,r,B,q⟩:=Z;refine ⟨i.kIn,?_⟩;obtain⟨C,J,L⟩:=tQ i n λy a=>⟨A y a,B y a⟩;have g:∀b o,C.lookup b=gV o->(∃x,X.env.cells.lookup x=gV b)/\G.heap.get? b=gV o:=λb o z=>L _<|lM z;exact E_ F j v i r C c g (q C J λb o z=>by
  obtain⟨⟨y,a⟩,Y⟩:=g b o z;exact i.freeC y b a)
inductive vg (X:Cx)(k:Nat)(f:C')(vs:ab V)(H:Hp)(Q:VK):Prop
 |mk (sp:Sp)(o:Obj)(fd:Oc)(F:Jk X.prog X.w X.K X.mg X.base k f sp)(h:H f=gV (cQ f o))(d:o.data=.func fd)(q:sp vs H Q E0)
def Jl(X:Cx)(k i:Nat)(t:TA):TE:=λa H Q=>∃f,a[i]?=gV (gV<|.ref f)/\t a H λv h=>vg X k f v h Q
theorem Bp(h:O5)(x:∃o fd,h.get? f=gV o/\o.data=.func fd):∃k,(k=Keeper.frame\/k=Keeper.machine\/k=Keeper.boundFrame)/\PySem.W.Looks M h (PySem.keeperOf<|.ref f) k:=by
 obtain⟨o,fd,e,d⟩:=x;obtain⟨c,D,a,s⟩:=o;cases d;exact⟨.frame,.inl rfl,(V2 e).andThen .now⟩
theorem tR(n:Room k X.A)(w:PA X (e::es) t)(N:X.N[i]?=gV x:=by rfl)(y:Ki X.env.scope x:=by first|exact Zt rfl|exact Wa (Zt rfl)|exact Wa<|Wa rfl)(A:(x == ("__debug__":Str))=false:=by decide)
  (d:(x == ("__classdict__":Str))=false:=by decide) (m:ON (e::es) X.env=(NZ,Qs e X.env)::ON es X.env:=by rfl) (B:(Rl pos<|ON es X.env).any (·.1)=false:=by rfl):
  PE X (.Call (.Name x p) (e::es) [] pos) (Jl X k i t):=by
 intro O s c H Q I ⟨f,E,h⟩;refine Qa<|bu (Ah N y A d O s c H (λv a=>v=.ref f/\t c a _) I ⟨.ref f,E,rfl,h⟩) λu C Z=>?_;obtain⟨v,D,G,J,L,M⟩:=Z;subst L;obtain rfl:u=Pp f:=J;rw[m];refine PySem.W.callWith_of (by show((NZ || (Rl pos<|ON es _).any _) || NZ)=NZ;rw[B];rfl) Bp<|SM ?_;have z:=w pos O C c D _ G M;rw[m]at z;refine bu z λU P V=>?_;obtain⟨g,a,j,r,sp,o,fd,F,T,l,q⟩:=V;refine ⟨⟨o,fd,fH j.hok T,l⟩,X7<|T9 (F X.A _ P a U g Q E0 n j.env0 r q) λr Y b=>?_⟩;cases r with
 |error e=>exact P6 b
 |ok W=>
  cases W with
  |ret u=>exact j.after b
  |next=>exact P6 b
  |brk=>exact P6 b
  |cont=>exact P6 b
end
noncomputable def GV(P:Of)(w:OE)(K:B')(mg:Str->NW M')(base:O5)(N:ab Str)(q:Str)(e:Sm)(f c:C')(C:ab (Str×C'))(A:Pr)(outer:ab Env)(s:N8)(H:Hp):Cx where
 prog:=P
 w:=w
 K:=K
 mg:=mg
 base:=base
 A:=A.deeper (Vj q e s.heap.objs.size f (.ref c) C)
 N:=N
 s₀:=s
 H₀:=H
 env:=Vj q e s.heap.objs.size f (.ref c) C
 outer:=outer
 stack:=Vj q e s.heap.objs.size f (.ref c) C::outer
 ex:=[]
 calm:=NU
 fn:=λ_=>NZ
 pn:=[]
 xe:=λ_ _=>False
structure nA (x:Str)(xs:ab Str)(sc:Sm):Prop where
 kind:sc.kind=.function
 co:sc.isCoroutine=NZ
 gen:sc.isGenerator=NZ
 par:sc.names.lookup x=gV .local
 fr:∀y∈xs,sc.names.lookup y=gV .free
 all:∀y∈sc.names,y.2=.free->y.1∈xs
 nocell:∀y∈sc.names,y.2≠.cell
 nd:xs.Nodup
def CapAt(H:Hp)(c:dG)(U:ab V):Prop:=Paired (λ(p:C'×Obj) (v:V)=>H p.1=gV (cQ p.1 p.2)/\∃u,p.2.data=.cell (gV u)/\RelV v u) c U
theorem CapAt.mono(x:CapAt H c v)(k:∀b o,H b=gV (cQ b o)->h b=gV (cQ b o)):CapAt h c v:=Paired.mapP x λy y z=>⟨k _ _ z.1,z.2⟩
theorem CapAt.look:∀{c:dG} {v:ab V},CapAt H c v->∀b o,c.lookup b=gV o->H b=gV (cQ b o):=by
 intro c v h b o e;change Paired _ _ _ at h;induction h with
 |nil=>simp at e
 |@cons a _ c _ r t i=>
  obtain⟨a,O⟩:=a;rw[Ra]at e;cases h:(b == a)with
  |true=>simp_all
  |false=>rw[h]at e;exact i e
theorem tT:∀{X:ab Str} {c:dG} {f:ab V} {H:Hp} {j:Nat} {y:Str} {v:V},X.Nodup->CapAt H c f->X[j]?=gV y->f[j]?=gV v->∃b o u,(X.zip (c.map (·.1))).lookup y=gV b/\H b=gV (cQ b o)/\o.data=.cell (gV u)/\RelV v u
 |[],_,_,_,_,_,_,_,_,e,_=>by simp at e
 |_::_,_,_,_,_,_,_,_,.nil,_,e=>by simp at e
 |x::X,(a,O)::c,w::f,H,0,y,v,_,.cons r _,g,i=>by
  simp at g i;subst g i;obtain⟨h,u,d,k⟩:=r;exact⟨a,O,u,by simp,h,d,k⟩
 |x::X,(a,O)::c,w::f,H,j+1,y,v,n,.cons _ t,g,i=>by
  obtain⟨N,l⟩:=PU.mp n;have E:X[j]?=gV y:=by assumption
  obtain⟨b,o,u,z,r⟩:=tT l t E (by simpa using i);refine⟨b,o,u,?_,r⟩;have m:y≠x:=λq=>N<|q▸N7 E;show((x,a)::X.zip _).lookup y=gV b
  rw[Ra];have p:(y == x)=false:=by simpa using m
  rwa[p]
theorem wQ:∀{X:ab Str} {A:ab C'} {y:Str},X.length<=A.length->y∈X->∃c,(X.zip A).lookup y=gV c
 |[],_,_,_,h=>by simp at h
 |_::_,[],_,h,_=>by simp at h
 |x::X,a::A,y,H,h=>by
  show∃c,((x,a)::X.zip A).lookup y=gV c
  rw[Ra];cases b:(y == x)with
  |true=>exact⟨a,rfl⟩
  |false=>
   exact wQ (Nat.le_of_succ_le_succ H)<|by simp_all
theorem wR{x:ab Str}{C:dG}{y:Str}{c:C'}(e:(x.zip (C.map (·.1))).lookup y=gV c):∃o,(c,o)∈C:=by
 have m:=(Tx<|Pq e).2;simp_all
theorem pN:∀(X:ab Str) (A:ab C'),A.Nodup->((X.zip A).map (·.2)).Nodup
 |[],_,_=>by simp
 |_::_,[],_=>by simp
 |x::X,a::A,h=>by
  obtain⟨H,c⟩:=PU.mp h;refine PU.mpr ⟨λm=>H ?_,pN X A c⟩;obtain⟨⟨y,b⟩,d,rfl⟩:=OT.mp m;exact(Tx d).2
theorem lN:∀{c:dG} {b:C'} {o:Obj},(b,o)∈c->∃O,c.lookup b=gV O
 |[],_,_,h=>by simp at h
 |(a,d)::c,b,o,h=>by
  rw[Ra];cases H:(b == a)with
  |true=>exact⟨d,rfl⟩
  |false=>
   have n:b≠a:=by simpa using H
   exact lN<|(Oz.mp h).resolve_left λz=>n<|OY mr z
inductive Bq (P:Of)(w:OE)(K:B')(mg:Str->NW M')(base:O5)(k:Nat)(f:C')(qual:Str)(params:SY)(body:Pl)(e:Sm)(x:Str)(xs:ab Str)(vs:ab V)(H:Hp)(Q:VK):Prop
 |mk (v:V)(C:dG)(U:ab V)(h0:vs=[v])(a:LamAt H f qual params body e (xs.zip (C.map (·.1))))(b:CapAt H C U)(d:xs.length=U.length)(g:(C.map (·.1)).Nodup)
  (i:∀(c:C') (A:Pr) (outer:ab Env) (s:N8),Room k (A.deeper (Vj qual e s.heap.objs.size f (.ref c) (xs.zip (C.map (·.1)))))->
   ∃t,PE (GV P w K mg base (x::xs) qual e f c (xs.zip (C.map (·.1))) A outer s<|less H C) body t/\t (gV v::U.map gV) (less H C) (λu h=>Q u<|g9 h C)):Bq P w K mg base k f qual params body e x xs vs H Q
theorem paired_len{a b:Type}{F:a->b->Prop}:∀{l:ab a} {L:ab b},Paired F l L->l.length=L.length:=by
 intro l L h;induction h with
 |nil=>rfl
 |cons r t i=>rw[Os,Os,i]
theorem wS{P:Of}{w:OE}{K:B'}{mg:Str->NW M'}{T:O5}{k:Nat}{f:C'}{G:Str}{M:PySem.Arguments}{U:Pl}{g:Sm}{x:Str}{xs:ab Str}{sp:Sp}(S:nA x xs g)(a3:∀an pm am u c,YO (PySem.W.kla_fn "<lambda>" G M U g an pm (.ref c) am) ⟨[u],[]⟩=pure [(x,u)])
  (h:∀vs H Q E,sp vs H Q E->Bq P w K mg T k f G M U g x xs vs H Q):Jk P w K mg T (k+1) f sp:=by
 intro A O s H us vs Q E hr D r a4;obtain⟨v,C,Vc,rfl,⟨pm,am,c,hf,c',oc,a5,tq,ec,hc,a6,hq⟩,Y,as,a7,R3⟩:=h vs H Q E a4;cases ec;obtain⟨u,rfl,ru⟩:=eu r;have a8:C.length=Vc.length:=paired_len Y;have of:=fH D.hok hf;have a9:s.heap.CodeRec (.ref c) G:=⟨c,oc,a5,tq,rfl,fH D.hok hc,a6,hq⟩;have ba:s.heap.NoLimit:=D.mod.nolimit.keeps λb o e=>(D.bs b o e).1;refine PySem.W.kla_callFunE hr.depth of rfl S.co S.gen rfl a9 ?_;rw[show YO _ _=_ from a3 _ pm am u c];refine Oj<|wpAny_newFunctionEnv S.nocell (λy Z=>?_) (λac bb av=>⟨ba.keeps λb o e=>?_,?_⟩) S.kind
 ·obtain rfl:y=(x,u):=N9.mp Z;exact S.par
 ·exact av.extBut b o (OF<|On e)<|N_ _ e
 show codeAny _ _ (.expr U (Vj G g s.heap.objs.size f (.ref c) (xs.zip (C.map (·.1))))) _ _
 have B:∀b o,s.heap.get? b=gV o->ac.get? b=gV o:=λb o e=>av.extBut b o (OF<|On e)<|N_ _ e;obtain⟨t,ht,bc⟩:=R3 c A O s<|hr.deeper _;have L:∀b o,C.lookup b=gV o->H b=gV (cQ b o):=Y.look;have az:∀b o,(b,o)∈C->∃F,C.lookup b=gV F/\H b=gV (cQ b F):=λb o m=>by
  obtain⟨F,e⟩:=lN m;exact⟨F,e,L b F e⟩
 have UP:∀b u,H b=gV u->(∀o,u≠cQ b o)->C.lookup b=none:=λb u e n=>by
  obtain z|⟨o,z⟩:=aV C b
  ·exact z
  rw[L b o z]at e;cases e;exact absurd rfl<|n o
 have aC:∀b,H b=N4->C.lookup b=none:=λb e=>by
  obtain z|⟨o,z⟩:=aV C b
  ·exact z
  rw[L b o z]at e;cases e
 have aF:HOk P w (less H C) s.heap:=λb u' e=>by
  have e':H b=gV u':=pL _ _ e;refine(D.hok b u' e').stay (λR R R y=>y) (λd y=>?_) λd zs y=>?_
  ·rw[bL<|UP d _ y λo z=>nomatch z];exact y
  rw[bL<|UP d _ y λo z=>nomatch z];exact y
 have bd:∀b,s.heap.objs.size<=b->less H C b=none:=λb N=>aF.fresh N;have W:∀b,H b=N4->less H C b=none:=λb e=>by
  rw[bL<|aC b e];exact e
 have I:Inv (GV P w K mg T (x::xs) G g f c (xs.zip (C.map (·.1))) A O s<|less H C) [] (gV v::Vc.map gV) (less H C) {s with heap:=ac,toks:=s.toks+[(x,u)].length}:=by
  refine⟨⟨D.mod,S.kind,rfl,rfl,N1 _,λy z c h1 h2=>?_,λy Z=>?_,λy c hz=>absurd (show NZ=NU from hz) Oa,λR=>hr.hd,Xp D.frames,.inr ⟨rfl,rfl⟩,λb z=>absurd (show b∈([]:ab C')from z) (by simp),λb o e=>⟨(D.bs b o e).1,W b (D.bs b o e).2⟩,D.bsz,λb R R z=>absurd (show b∈([]:ab C')from z) (by simp),λb z=>absurd (show b∈([]:ab C')from z) (by simp),D.funs,λb N=>W b<|D.frf b N⟩,
   rfl,D.bare,Un.kept B,⟨_,bb,λi y v' h1 h2 h3=>?_⟩,λy c h=>?_,bd _<|N1 _,λy c h=>?_,λp hp=>absurd (show p∈([]:ab (C'×Obj))from hp) (by simp),aF.kept B,?_⟩
  ·exact YM (Py.mp<|pN xs _ a7) (Pq h1)<|Pq h2
  ·have Z:g.names.lookup y=gV .cell\/g.names.lookup y=gV .free:=Z;obtain Z|Z:=Z
   ·exact absurd rfl<|S.nocell _<|Pq Z
   exact wQ (by rw[J',a8,as];exact N1 _)<|S.all _ (Pq Z) rfl
  ·replace h1:(x::xs)[i]?=gV y:=h1;cases i with
   |zero=>
    simp at h1 h2;subst h1 h2;exact⟨u,ru,.inl ⟨S.par,by simp⟩⟩
   |succ j=>
    have aL:xs[j]?=gV y:=by simpa using h1
    have bf:Vc[j]?=gV v':=by
     have q:(Vc.map gV)[j]?=gV (gV v'):=by simpa using h2
     rw[Og]at q;obtain⟨a,ha,e⟩:=P9.mp q;cases e;exact ha
    obtain⟨b,o,u',z1,z2,z3,z4⟩:=tT S.nd Y aL bf;exact⟨u',z4,.inr ⟨.inr<|S.fr y<|N7 aL,b,z1,o,B _ _<|fH D.hok z2,z3⟩⟩
  ·obtain⟨o,m⟩:=wR h;obtain⟨F,e,z⟩:=az c o m;have cd:∃u,F.data=.cell (gV u):=by
    have bg:∀{l:dG} {cp:ab V},CapAt H l cp->∀b o,l.lookup b=gV o->∃u,o.data=.cell (gV u):=by
     intro l
     induction l with
     |nil=>intro cp R b o e;simp at e
     |cons a l ih=>
      intro cp hc b o e;cases hc with
      |cons r t=>
       obtain⟨a1,a2⟩:=a;rw[Ra]at e;cases N:(b == a1)with
       |true=>
        rw[N]at e;cases e;obtain⟨R,u,d,R⟩:=r;exact⟨u,d⟩
       |false=>
        rw[N]at e;exact ih t b o e
    exact bg Y c F e
   obtain⟨u',d'⟩:=cd;exact⟨gV u',F,B _ _<|fH D.hok z,d'⟩
  ·obtain⟨o,m⟩:=wR h;obtain⟨F,e,z⟩:=az c o m;exact jP e
  show(gV v::Vc.map gV).length=(x::xs).length
  rw[Os,Os,J',as]
 refine PySem.W.kla_codeExpr<|Qq (ht [] _ _ _ _ I bc) (λu2 s' hs=>?_) λe s' hs=>P6 hs;obtain⟨v2,H',J,rv,q⟩:=hs;have X:Un (rW O) [] (less H C) H' s.heap _:=J.base;have bk:=λb o e n N=>X.keep b o e (W b n) N (by show b∉([]);simp);have bl:=λb o z=>by
  refine X.keep b o (fH D.hok<|L b o z) (jP z) (λN=>?_) (by show b∉([]);simp);have y:=D.frf b N;rw[L b o z]at y;cases y
 have a0:=λb o z=>X.free b o (fH D.hok<|L b o z) (jP z) (by simp);refine⟨v2,g9 H' C,J.os,J.bare,⟨λb o e n N hx=>bk b o e n N,λb o e n N hx=>X.slot b o e (W b n) N hx,λb o e n hx=>?_,λb o e hx=>X.there b o e hx,λb zs e=>?_,λb o z e=>?_,λb qs e=>?_⟩,λb u' e=>?_,rv,q⟩
 ·rw[aZ<|aC b n];exact X.free b o e (W b n) hx
 ·have z:=UP b _ e λo z=>nomatch z
  rw[aZ z];exact X.tups b zs (by rwa[bL z])
 ·obtain y|⟨F,y⟩:=aV C b
  ·rw[aZ y];exact X.frzs b o z (by rwa[bL y])
  rwa[fI y,<-L b F y]
 ·have z:=UP b _ e λo z=>nomatch z
  rw[aZ z];exact X.tbls b qs (by rwa[bL z])
 obtain y|⟨F,y⟩:=aV C b
 ·rw[aZ y]at e;refine(J.hok b u' e).stay (λR R R y=>y) (λd y'=>?_) λd zs y'=>?_
  ·obtain z|⟨F,z⟩:=aV C d
   ·rwa[aZ z]
   rw[a0 d F z]at y';cases y'
  obtain z|⟨F,z⟩:=aV C d
  ·rwa[aZ z]
  rw[a0 d F z]at y';cases y'
 rw[fI y]at e;cases e;exact jO<|bl b F y
theorem Br{X:Cx}{j:Nat}{k:Nat}{f:C'}{F:Oc}{a:ab Str}{s:Sp}{x:Str}{p:Pos}{P:Pos}{e:Pl}{E:ab Pl}{t:TA}(n:ab Str)(G:Fn X.prog X.w X.K X.mg X.base j x f F a s)(r:Room k X.A)(h:j<=k)(g:Gl X x)(H:∀x,X.fn x=NU)(v:∀y∈n,X.env.kindOf y=gV .cell)(c:PA X (e::E) t)(b:(x == ("__debug__":Str))=false:=by decide)
  (d:ON (e::E) X.env=(NZ,Qs e X.env)::ON E X.env:=by rfl) (u:(Rl P<|ON E X.env).any (·.1)=false:=by rfl):
  PE X (.Call (.Name x p) (e::E) [] P) (Bn X n s t):=Bo G.ok (r.mono h) g G.at_ G.kp G.b c H v b d u
structure FunL (K:B')(x qual:Str)(st:Pk)(f:C')(fd:Oc)(c:C'):Prop where
 ex:∃(oc:M') (od:NW C') (kV YG pm:M') (an:NW C') (ct:M') (osl:Qp (NW M')),
  fd=Rh x qual (eQ st) (cc st) (aw st) .none kV YG pm an (.ref c) ct/\K.lookup f=gV ⟨oc,od,.func fd,osl⟩/\Ub K (.ref c) qual=NU
section
variable {K:B'}
theorem FunL.ok{P:Of}{w:OE}{M:Str->NW M'}{b:O5}{x l:Str}{st:Pk}{f c:C'}{i:Oc}{N p:ab Str}{k:Nat}{a:Sp}(F:FunL K x l st f i c)(S:ee N p (aw st))(m:∀v H Q E,a v H Q E->v.length=p.length)
  (d:∀A o s H v Q E,Room k (A.deeper<|P5 l (aw st) s.heap.objs.size f<|.ref c)->a v H Q E->
   ∃t,PSs (qw aP P w K M b N l (aw st) f (.ref c) A o s H E).nox (cc st) t/\t {nx:=λY j=>Q .non j,rt:=Q} (start N v) H):ao P w K M b aP (k+1) f i p a:=by
 obtain⟨n,u,kV,Z,y,z,C,O,rfl,L,e⟩:=F.ex;refine GC L e S m λA o s H v Q E r g=>?_;obtain⟨t,h,q⟩:=d A o s H v Q E r g;exact⟨t,h.nox,q⟩
theorem FunL.toFun{x q:Str}{st:Pk}{f c:C'}{d:Oc}(F:FunL K x q st f d c)(k:Px K (.ref f)=NU):Fun K x q st f d:=by
 obtain⟨O,a,kV,Z,p,A,C,o,e,l,h⟩:=F.ex;exact⟨⟨O,a,kV,Z,p,A,.ref c,C,o,e,l,h⟩,k⟩
end
def Bt(o:Obj)(T:C'):Prop:=∃(v:Qp M') (a:Str) (t:Tok) (A:Int) (g:Tok) (i:N6) (d:Int) (b:Tok),o.cls=.type "code"/\o.data=.fields v/\v[11]?=gV (.ref T)/\v.getD 11 .none=.ref T/\v.getD 18 .none=.str a t/\
  v.getD 7 .none=.int A g/\v.getD 9 .none=.bool i/\v.getD 10 .none=.int d b
theorem iL{K:B'}{h:O5}{c T:C'}{o:Obj}(X:K.In h)(l:K.lookup c=gV o)(p:Bt o T)(n:c≠T):Sb h c T:=by
 obtain⟨v,a,t,A,g,i,N,b,H,d,e,f,j,k,m,q⟩:=p;exact⟨o,v,a,t,A,g,i,N,b,X _ _ l,H,d,e,f,j,k,m,q,n⟩
def BM(m:Str->NW M')(h:O5):Prop:=∃b o,m "__builtins__"=gV (.ref b)/\b≠UK/\h.get? b=gV o/\o.cls=.type "module"/\o.dict=gV UK/\o.data=.plain
theorem yS{P:Of}{w:OE}{K:B'}{y mb:Str->NW M'}{k:Nat}{fa a:C'}{fd:Oc}{x:Str}{sp:Sp}{f:N8}{i:ab M'}{E:ab Int}(t:ab C')
  (KX:K.In f.heap) (I:f.heap.Ns OS y) (g:f.heap.Ns UK mb) (am:∀x:Str,x≠"__name__"->mb x=Ua x) (an:BM y f.heap) (as:f.heap.NoLimit) (hg:f.gens=#[])
  (J:f.heap.get? a=gV {cls:=.type "list",data:=.seq i.toArray}) (hi:R7 i E) (hl:E.length<=sizeLine) (hr:Room k XF)
  (G:∀T∈t,f.heap.get? T=gV (SI #[])) (av:∀T∈t,K.lookup T=N4) (az:∀T∈t,∃c,Sb f.heap c T)
  (F:∀B,K.In B->B.Ns OS y->BM y B->ao P w K y B aP k fa fd [x] sp) (aC:∀s u,YY s fd ⟨[u],[]⟩ [(x,u)])
  (aF:∀H,(∀T∈t,H T=gV (.tbl #[]))->SqL K H a (E.map V.int)->sp [.ref a] H (λv _=>v=.bl NU) λ_ _ _=>False):
  codeAny (OI P w) XF (.call (.ref fa) ⟨[.ref a],[]⟩) (λr l=>r=.ok (.ret<|.bool NU)/\OldK f.heap l.heap/\l.os=f.os/\Vl l.gens) f:=by
 have rv:=kq hi;have aL:=hi.length;have N:∀T∈t,T≠a:=λT h z=>by
  have e:=G T h;rw[z,J]at e;cases e
 have L:∀H,(∀b,H b≠N4->b∈t\/b=a)->(∀T∈t,H T=gV (.tbl #[]))->(∀u,H a=gV u->∃o,u=.frz o (.lst<|E.map V.int))->SqL K H a (E.map V.int)->HOk P w H f.heap->(H a≠N4->K.lookup a=N4)->
   codeAny (OI P w) XF (.call (.ref fa) ⟨[.ref a],[]⟩) (λr l=>r=.ok (.ret<|.bool NU)/\OldK f.heap l.heap/\l.os=f.os/\Vl l.gens) f:=by
  intro H hA O a0 hS Q hK;have A:∀{b:C'} {o:Obj},f.heap.get? b=gV o->H b=N4->(oX _ H).get? b=gV o:=λe n=>Ag e n;have U:∀{b:C'} {o:Obj},f.heap.get? b=gV o->(∀i n,o.data≠.seq i n)->(∀i,o.data≠.fields i)->H b=none:=λ{b o} e d1 d2=>by
   cases q:H b with
   |none=>rfl
   |some u=>
    obtain h|h:=hA b (by rw[q];simp)
    ·rw[G b h]at e;cases e;exact absurd rfl<|d2 _
    subst h;rw[J]at e;cases e;exact absurd rfl<|d1 _ _
  have p:∀{b:C'} {m:Str->NW M'},f.heap.Ns b m->(oX _ H).Ns b m:=λ{b m} ⟨o,es,ep,e,d,r⟩=>⟨o,es,ep,A e (U e (λi n z=>by rw[d]at z;cases z) λi z=>by rw[d]at z;cases z),d,r⟩;have W:K.In (oX _ H):=λb o e=>A (KX b o e) (by
   cases q:H b with
   |none=>rfl
   |some u=>
    obtain h|h:=hA b (by rw[q];simp)
    ·rw[av b h]at e;cases e
    subst h;rw[hK<|by rw[q];simp]at e;cases e)
  have a1:BM y (oX f.heap H):=by
   obtain⟨bm,ob,b1,b2,b3,b4,b5,b6⟩:=an;exact⟨bm,ob,b1,b2,A b3 (U b3 (λi n z=>by rw[b6]at z;cases z) λi z=>by rw[b6]at z;cases z),b4,b5,b6⟩
  have hM:Mod K y (oX _ H):=⟨W,p I,⟨mb,p g,am⟩,let ⟨mc,h1,h2⟩:=as;⟨mc,p h1,h2⟩⟩;have e0:Env0 P w K y (oX _ H) XF [] f H:=⟨rfl,hM,λb o e=>Eh e,Ui<|yj _ _,trivial,λb g=>absurd (show b∈([])from g) (by simp),Q,.of_eq hg⟩;refine T9 ((F _ W (p I) a1).run XF [] f H _ [.ref a] [.ref a] _ _ hr e0 (aC f<|.ref a) (.cons rfl .nil)<|aF H O hS) λr l h=>?_;cases r with
  |error e=>exact P6 h
  |ok fl=>
   cases fl with
   |next=>exact P6 h
   |brk=>exact P6 h
   |cont=>exact P6 h
   |ret u=>
    obtain⟨v,H',os,X,un,Y,r',q⟩:=h;have q':v=.bl _:=q;subst q';obtain rfl:u=Yd _:=r';have ac:∀b o,f.heap.get? b=gV o->l.heap.get? b=gV o\/(b∈t/\o=SI #[]/\∃M,l.heap.get? b=gV (SI M)):=λb o e=>by
     cases q:H b with
     |none=>exact .inl (un.keep b o e q (by intro z;exact absurd (show b∈([])from z)<|by simp)<|by simp)
     |some u=>
      obtain z|z:=hA b (by rw[q];simp)
      ·obtain⟨M,D⟩:=un.tbls b #[]<|O b z;rw[G b z]at e;cases e;exact .inr ⟨z,rfl,_,Y b _ D⟩
      subst z;obtain⟨ob,rfl⟩:=a0 u q;have D:=un.frzs b ob _ q;obtain⟨e1,_⟩:=Q b _ q;obtain⟨e2,_⟩:=Y b _ D;rw[e]at e1;cases e1;exact .inl e2
    refine⟨rfl,⟨λb o e=>?_,λb o e=>?_⟩,os,X⟩
    ·obtain z|⟨g,rfl,M,z⟩:=ac b o e
     ·exact .inl z
     obtain⟨c,C⟩:=az b g;exact .inr<|.inl ⟨(C.tab<|G b g).isCodeTable,rfl,#[],M,rfl,by rw[z];simp⟩
    obtain z|⟨_,_,M,z⟩:=ac b o e
    ·exact⟨o,z⟩
    exact⟨_,z⟩
 cases hk:K.lookup a with
 |some o=>
  have e:=KX a o hk;rw[J]at e;cases e;refine L (λb=>if b∈t then gV _ else N4) (λb z=>?_) (λT h=>Oi h) (λu z=>?_) (.inr ⟨_,i.toArray,_,hk,rfl,rfl,rfl,by rwa[Ol,aL],by simpa using rv⟩) (λb u z=>?_) λz=>?_
  ·by_cases g:b∈t
   ·exact .inl g
   exact absurd (Oh g) z
  ·have Z:=(Oh λh=>N a h rfl).symm.trans z;cases Z
  ·by_cases g:b∈t
   ·have Z:=(Oi g).symm.trans z;cases Z;exact G b g
   have Z:=(Oh g).symm.trans z;cases Z
  ·exact absurd (Oh λh=>N a h rfl) z
 |none=>
  refine L (λb=>if b∈t then gV _ else if b=a then gV (.frz {cls:=.type "list",data:=.seq i.toArray}<|.lst<|E.map _)else N4) (λb z=>?_) (λT h=>Oi h) (λu z=>?_)
   (.inl<|.inr ⟨{cls:=.type _,data:=.seq _},(Oh λh=>N a h rfl).trans<|Oi rfl⟩) (λb u z=>?_) λ_=>hk
  ·by_cases g:b∈t
   ·exact .inl g
   by_cases j:b=a
   ·exact .inr j
   exact absurd ((Oh g).trans<|Oh j) z
  ·have Z:=((Oh λh=>N a h rfl).trans<|Oi rfl).symm.trans z;cases Z;exact⟨_,rfl⟩
  by_cases g:b∈t
  ·have Z:=(Oi g).symm.trans z;cases Z;exact G b g
  have Z:=(Oh g).symm.trans z;by_cases j:b=a
  ·have D:=(Oi j).symm.trans Z;cases D;subst j;exact⟨J,by rwa[J'],i,_,rv,J⟩
  have D:=(Oh j).symm.trans Z;cases D
theorem walk_ofT{l:Wx}{n k:Nat}{q:Of}{loose:ab Str}{XP:(Str->NW M')->O5->Prop}{B:OE->O5->Prop}{d:DefRec}{K:Zo->B'}{C:OE->Sp}{x:Str}(t:ab C')
  (L:l.most=gV n) (g:n<=sizeLine) (i:d.params.defaults=[]) (M:Room k XF)
  (O:∀(w:OE) (h:O5),B w h->(K w.params).In h/\∀T∈t,h.get? T=gV (SI #[])) (j:∀P:Zo,(t.all λT=>((K P).lookup T).isNone)=NU)
  (F:∀(w:OE) (m:Str->NW M') (e:C') (h:O5),(K w.params).In h->h.Ns OS m->m d.name=gV (.ref e)->
   ∃p:Oc,(∀(s:N8) (u:M'),YY s p ⟨[u],[]⟩ [(x,u)])/\(∀T∈t,∃c,Sb h c T)/\
    ∀b:O5,(K w.params).In b->b.Ns OS m->BM m b->ao l.prog w (K w.params) m b aP k e p [x] (C w))
  (r:∀(w:OE) (H:Hp) (a:C') (N:ab Int),N.length<=n->(∀T∈t,H T=gV (.tbl #[]))->SqL (K w.params) H a (N.map V.int)->C w [.ref a] H (λv S=>v=.bl NU) λS S S=>False):
  Zk q loose XP B l.row.toRowW d [] (λf D=>X' f D):=by
 refine Att.attach_call L i λw E I m mb e o pm cd YG a D N G Y ho hd Q y A z J U=>?_;obtain⟨KX,W⟩:=O w _ Y;obtain⟨p,X,Z,hF⟩:=F w m e _ KX G.T.g y;exact yS t KX G.T.g G.T.b G.T.builtins G.T.bmain G.T.nolimit U A z (O6 J g) M W (λT h=>Option.isNone_iff_eq_none.mp<|O0.mp (j _) T h) Z hF X λH h1 h2=>r w H a N J h1 h2
noncomputable def Nk:Pl:=.Constant .none 0 ⟨0,0,0,0⟩
noncomputable def Lr:ab Pk->Pl
 |.Return (gV e) _::_=>e
 |_=>Nk
noncomputable def Ls:Pl->Nat->Pl
 |.Call _ e _ _,i=>e.getD i Nk
 |_,_=>Nk
noncomputable def yT:Pl->SY
 |.Lambda a _ _ _=>a
 |_=>{posonlyargs:=[],args:=[],vararg:=N4,kwonlyargs:=[],kw_defaults:=[],kwarg:=N4,defaults:=[]}
noncomputable def yU:Pl->Pl
 |.Lambda _ b _ _=>b
 |e=>e
noncomputable def yV:Pl->Sm
 |.Lambda _ _ s _=>s
 |_=>{kind:=.function,names:=[],isGenerator:=NZ,isCoroutine:=NZ}
noncomputable def Lu:Pl->Pos
 |.Lambda _ _ _ p=>p
 |_=>⟨0,0,0,0⟩
theorem Off.same(k:Off T H h)(a:Same h c):Off T H c:=λb o n e=>a _ _<|k b o n e
theorem Off.at_(k:Off T H h)(t:TabAt H T P q)(e:H b=gV o)(n:∀p,o≠.tbl p):h b=gV o:=by
 refine k b o (λz=>?_) e;obtain⟨p,E,y⟩:=t;grind
theorem CapAt.less(c:CapAt H C v)(e:H b=gV u)(n:∀o,u≠cQ b o):less H C b=gV u:=by
 obtain z|⟨o,z⟩:=aV C b
 ·rwa[bL z]
 rw[c.look b o z]at e;grind
mutual
theorem qI(k:∀b X,H b=gV (.lst X)->g b=gV (.lst X))(t:∀b X,H b=gV (.tup X)->g b=gV (.tup X)):∀d v,RD H d v->RD g d v
 |.none,v,h=>by unfold RD at h ⊢;exact h
 |.bool b,v,h=>by unfold RD at h ⊢;exact h
 |.int i,v,h=>by unfold RD at h ⊢;exact h
 |.str x,v,h=>by unfold RD at h ⊢;exact h
 |.list D,v,h=>by
  obtain⟨a,X,e,c,f⟩:=cb h;subst e;exact cW (k _ _ c)<|nC k t D X f
 |.tuple D,v,h=>by
  obtain⟨a,X,e,c,f⟩:=al h;subst e;exact aQ (t _ _ c)<|nC k t D X f
 |.dict _,v,h=>by
  unfold RD at h;exact h.elim
theorem nC(k:∀b x,H b=gV (.lst x)->a b=gV (.lst x))(t:∀b x,H b=gV (.tup x)->a b=gV (.tup x)):∀D x,cO H D x->cO a D x
 |[],x,h=>by unfold cO at h ⊢;exact h
 |d::D,x,h=>by
  unfold cO at h ⊢;obtain⟨y,Y,e,c,f⟩:=h;exact⟨y,Y,e,qI k t d y c,nC k t D Y f⟩
end
theorem Jm(r:RD H d v)(k:Off T H h)(t:TabAt H T p q):RD h d v:=
 qI (λy y e=>k.at_ t e λy z=>nomatch z) (λy y e=>k.at_ t e λy z=>nomatch z) d v r
theorem wT(r:RD H d v)(c:CapAt H C U):RD (less H C) d v:=
 qI (λy y e=>c.less e λy z=>nomatch z) (λy y e=>c.less e λy z=>nomatch z) d v r
end L2
namespace L2
theorem TabAt.start(h:H T=gV (.tbl #[])):TabAt H T p q:=⟨#[],h,trivial,λc e=>nomatch e⟩
end L2
namespace L2
open PySem PySem.Spec PyProof.Rows
theorem Fa:OpR X (RC .Mult) (λx y H Q=>∃a n,x=.str a/\y=.int n/\1<=n/\n<1000/\0<a.length/\¬((a.length:Int)>(2^63-1)/n)/\Vc (a.length*n.toNat)=NZ/\(o6 a n).length<=sizeLine/\Q (.str<|o6 a n) H):=by
 intro N s f H x y v u Q I r b h;obtain⟨a,n,rfl,rfl,g,i,j,c,l,z,q⟩:=h;obtain⟨t,rfl⟩:=r;obtain⟨T,rfl⟩:=b;refine P.mul_str ?_ (λw w=>?_) (λw w=>l) ?_
 ·lia
 ·exact c
 by_cases e:n=1
 ·subst e;have E:o6 a 1=a:=by
   unfold o6;simp
  rw[E]at q;exact⟨.str _,H,I,⟨_,rfl⟩,q⟩
 rw[Oh (CW g),Oh (by
  have E:(n == 1)=false:=by lia
  have d:(a.length == 0)=false:=by lia
  rw[E,d];decide)]
 exact⟨z,.str _,H,I.tok _,⟨_,rfl⟩,q⟩
end L2
namespace L2
open PySem
theorem pO(Pv:Nat->St->ab V->Hp->Prop)(k:Pv 0 f [] (upd l D<|.lst []))(n:∀i b Y H,i<=X.length->Pv i b Y H->H D=gV (.lst Y)/\SqL K H a X)
  (s:∀i x b Y H t,X[i]?=gV x->Pv i b Y H->H t=N4->g (.ref t) b (upd H t<|.tup [.int (i:Nat),x]) λd o=>T d o λc h=>if c=NU then u d h λy j=>j D=gV (.lst Y)/\Y.length<sizeLine/\Pv (i+1) d (Y++[y]) (upd j D<|.lst<|Y++[y])else Pv (i+1) d Y h)
  (w:∀b Y H,Pv X.length b Y H->Q (.ref D) H):i9 (Jf K a) D g T u f l Q:=by
 exists λi m b Y H=>m=X.length-i/\i<=X.length/\Pv i b Y H,⟨X.length,by simp,Ou _,k⟩;rintro i m b Y H ⟨rfl,z,p⟩;obtain⟨A,q⟩:=n i b Y H z p;exists A;by_cases r:i<X.length
 ·refine .inr ⟨⟨X,X[i],q,by simp⟩,Pv<|i+1,λB C E P=>⟨X.length-(i+1),by lia,rfl,r,P⟩,λx E y=>?_⟩;obtain⟨t,v,F,rfl,rfl,y⟩:=y;exact s i v b Y H t (y X q) p F
 have e:i=X.length:=by lia
 subst e;exact .inl ⟨⟨X,q,N1 _⟩,w b Y H p⟩
end L2
namespace L2
open PySem PySem.Spec PyProof.Rows
def Lv:V->Hp->VK->Prop:=λx H Q=>∃n:Nat,x=.int (n:Int)/\n<=1000/\∀l:C',H l=N4->Q (.ref l) (upd H l<|.lst ((O1 n).map λi:Nat=>V.int (i:Int)))
theorem pP(k:Nat):∀U,(∀j v,U[j]?=gV v->∃t,v=TX ((k+j:Nat):Int) t)->Vals ((List.range' k U.length).map λi:Nat=>V.int (i:Int)) U
 |[],_=>.nil
 |u::U,h=>by
  refine .cons (h 0 u rfl) ?_;have H:=pP (k+1) U λj v a=>by
   obtain⟨t,e⟩:=h (j+1) v a;grind
  exact H
theorem vh(H:u.length=n)(h:∀(j:Nat) (v:M'),u[j]?=gV v->∃t,v=TX (0+(j:Int)*1) t):Vals ((O1 n).map λi:Nat=>V.int (i:Int)) u:=by
 subst H;rw[List.range_eq_range'];exact pP 0 u λj v a=>by
  simp_all
theorem yW{P p B a:Pos}(F:X.calm=NU)(l:Gl X "list")(m:X.mg "list"=N4)(r:Gl X "range")(w:X.mg "range"=N4)(G:PE X e T)
  (C:ON [e] X.env=[(NZ,Qs e X.env)]:=by rfl) (d:ON [.Call (.Name "range" p) [e] [] a] X.env=[(NZ,Qs (.Call (.Name "range" p) [e] [] a) X.env)]:=by rfl):
  PE X (.Call (.Name "list" P) [.Call (.Name "range" p) [e] [] a] [] B) (λk H Q=>T k H λx f=>Lv x f Q):=by
 intro O s k H Q I h;refine Qa<|c7 I l m Tg<|PM ?_ d rfl;show wpAny _ _ (spliced<|(NZ,Qs _ _)::Rl B _) _ _ s
 refine RE<|Qa<|c7 I r w Ym<|PM (bu (aD G (gG) (by rw[C];rfl) a O s k H (yE λx f=>Lv x f Q) I h) λus g ⟨vs,f,D,J,y⟩=>?_) C rfl;obtain⟨x,L,n,rfl,M,q⟩:=ig y;subst L;obtain⟨u,rfl,N⟩:=eu J;obtain⟨t,rfl⟩:=N;refine call_range_1<|Ug ?_;have E:Inv X O k f {g with heap:=g.heap.push {cls:=.type "range",data:=.fields #[.int 0 g.toks,.int (n) t,.int 1<|g.toks+1]},toks:=g.toks+1+1}:=D.kept λb o e=>N_ _ e;refine call_list_range (n:=n) (D.ok.hd F) (ZM ..) (small_one (by simp) (by simp) (by simp)<|by lia) (by rw[aa0];simp_all) (by lia) λU W z c Y Z A=>?_;have hl:=A.1
 have rv:Vals _ _:=vh hl λj v hv=>A.2 j v (by simpa using hv);have hz:((O1 n).map λi:Nat=>V.int (i)).length<=sizeLine:=by
  rw[J',Pm];exact OQ<|ai M
 refine⟨.ref _,_,E.laid Y (N1 _) (show ObjOk _ X.w _ U _ (.lst _)from⟨hz,z.toList,c,rv,by simpa using Z⟩),rfl,q _<|E.hok.fresh<|N1 _⟩
end L2
namespace OD
open PySem L2
theorem eH:bI C b=NU↔∀c∈C,∃l∈c,hit b l=true:=by
 unfold bI;simp
theorem Fb(h:1<=absI l)(H:absI l<=(b.length:Int)):hit b (-l)=!hit b l:=by
 have e:absI (-l)=absI l:=by
  obtain⟨z,e⟩|⟨z,e⟩:=aB l<;>obtain⟨z,E⟩|⟨z,E⟩:=aB (-l)<;>lia
 have d:decide (0 < -l)=!decide (0<l):=by
  by_cases g:0<l
  ·rw[Ob g,N3<|by lia];rfl
  rw[N3 g,Ob (by obtain⟨z,e⟩|⟨z,e⟩:=aB l<;>lia)];rfl
 unfold hit;rw[e,d,K' (by lia)];lia
theorem fx:k∈behind z C↔∃c∈C,z∉c/\k=c.filter λo=>!decide (o=-z):=by
 unfold behind;rw[TR];constructor
 ·rintro⟨c,H,e⟩;unfold dC at e
  split at e
  ·cases e
  rename_i g;exact⟨c,H,λm=>g<|N'.mpr m,(Ot e).symm⟩
 rintro⟨c,H,h,rfl⟩;exists c,H;unfold dC;rw[Oh λg=>h<|N'.mp g]
theorem gy{c:ab Int}{z l:Int}:(l∈c.filter λo=>!decide (o=z))↔l∈c/\l≠z:=by
 simp
theorem Jn(h:1<=absI l)(H:1<=absI z)(a:l≠z)(b:l≠-z):(absI l-1).toNat≠(absI z-1).toNat:=λe=>by
 obtain g|g:=fZ (a:=z) (b:=l) (by omega)
 ·exact a g.symm
 exact b g
theorem Bu{C:ab (ab Int)}(h:c∈C.take i++C.drop (i+1)):c∈C:=(OB.mp h).elim QQ SO
end OD
namespace OD
open PySem L2
noncomputable def lO(h:N6)(l:Int)(left:ab Int):ab Int×N6:=if h=NU then(left,decide (0<l))else(left.map λz=>-z,decide (l<0))
noncomputable def nE:Oe->NW Nat
 |.tuple [.str w,.int z]=>if w=aE then gV z.toNat else N4
 |_=>N4
noncomputable def bS(d:ab Oe)(o:ab (ab Int))(k:Nat):ab Int:=match nE (d.getD k .none)with
 |some i=>(o.getD i []).filter λl=>!(o.getD k []).contains l
 |none=>[]
noncomputable def cN(h:N6)(left:ab Int)(v:Int)(L:ab Int):ab (ab Int×N6):=(L.filter λl=>decide (absI l=v)).map λl=>lO h l left
noncomputable def bo(h:N6)(d:ab Oe)(o:ab (ab Int))(v:Int):Nat->ab (ab Int×N6)
 |0=>[]
 |n+1=>bo h d o v n++cN h (o.getD n []) v (bS d o n)
theorem wV:∀{D:ab Oe} {s o:ab (ab Int)},bE t C H s D=(o,NU)->∃T,o=s++T/\T.length=D.length/\∀k d,D[k]?=gV d->aI t C H (s++T.take k) d=gV (T.getD k [])
 |[],s,o,h=>by
  cases h;simp
 |e::r,s,o,h=>by
  have a:(match aI t C H s e with|none=>(s,NZ)|some c=>bE t C H _ r)=(o,NU):=h;cases g:aI t C H s e with
  |none=>simp_all
  |some c=>
   rw[g]at a;obtain⟨T,b,f,i⟩:=wV a;refine⟨c::T,by simp_all,by simp_all,λk d E=>?_⟩;cases k with
   |zero=>
    simp_all
   |succ k=>
    have:=i k d E;rwa[OX]at this
theorem nG(h:bE t c w [] D=(o,NU))(a:D[k]?=gV d):aI t c w (o.take k) d=gV (o.getD k []):=by
 obtain⟨T,H,z,b⟩:=wV h;subst H;exact b k d a
theorem kM(h:aE≠w)(n:Nat)(z:Int):formB w n (.tuple [.str aE,.int z])=false:=by
 show(decide _&&decide _)=NZ
 rw[N3 h,Qx]
theorem iM:aI t c h s (.tuple [.str aE,.int z])=gb t h s (.int z):=by
 unfold aI;rw[kM (by decide+kernel),kM (by decide+kernel),Qx,Qx,Oi (show formB aE 2 _=NU by show(decide (2=2)&&decide (aE=aE))=NU;simp)];rfl
theorem qK(h:bE t C w [] d=(o,NU))(a:d[k]?=gV (.tuple [.str aE,.int z])):
  ∃i:Nat,z=(i:Int)/\i<k/\k<o.length/\o.getD k []=aG t w (o.getD i []):=by
 have H:=nG h a;have b:=cM h;have f:=(NT.mp a).1;rw[iM]at H;unfold gb at H;rw[OC]at H;cases g:aU _ _ with
 |none=>rw[g]at H;cases H
 |some i=>
  rw[g]at H;obtain⟨j,e⟩:=bA g;cases e;have c:aG t w _=o.getD k []:=Ot H;rw[TC,QK]at b;refine⟨i,rfl,Pb j (Nat.min_le_left _ _),by omega,?_⟩;rw[<-c]
  rw[A',A',Pn<|by exact Pb j (Nat.min_le_left _ _)]
theorem yY(m:∀c∈C,ar t.length c)(h:bE t C b [] D=(o,NU))(n:k<D.length)(H:l∈bS D o k):absI l∈aA t b:=by
 unfold bS at H;have j:=getD_some (d:=Qj) n;generalize D.getD k _=d at H j;unfold nE at H
 split at H
 ·rename_i i e
  split at e
  ·split at e
   ·rename_i w z f;subst f;cases e;obtain⟨i,rfl,r,s,e⟩:=qK h j;obtain⟨a,p⟩:=Oq.mp H;have O:ar t.length (o.getD i []):=by
     have:=fG (w:=b) m (D:=D) (s:=[]) (by simp);rw[h]at this;exact dZ this (WO r s)
    have q:l∉aG t b (o.getD i []):=by grind
    refine eX.mpr ⟨(O.2 l a).1,(O.2 l a).2,tN a (Ww λg=>q<|Oq.mpr ⟨a,Ob g⟩)⟩
   simp_all
  simp_all
 simp_all
theorem wW(d:1<=v):∀{c:ab Int},Ups c->c.filter (λl=>decide (absI l=v))=[v,-v].filter λl=>c.contains l
 |[],_=>rfl
 |x::c,h=>by
  have i:=wW d h.tail;rw[Rc];by_cases H:absI x=v
  ·have n:∀l∈c,absI l≠v:=λl a z=>by have:=h.head l a;simp_all
   have E:c.filter (λl=>decide _)=[]:=QY.mpr λl a=>by simpa using n l a
   have A:absI v=v:=by unfold absI;lia
   have f:absI (-v)=v:=by unfold absI;lia
   have N:v∉c:=λz=>n v z A;have g:=λz=>n _ z f;rw[Oi<|Ob H,E];obtain e|e:=fZ (H.trans A.symm)
   ·subst e;have C:(x::c).contains x=true:=by simp
    have b:(x::c).contains (-x)=false:=by
     grind
    rw[Rc,Oi C,Rc,Oh<|by rw[b];decide];rfl
   subst e;have C:(x::c).contains (-x)=false:=by
    have:(-x == x)=false:=Pg.mpr (by lia);simp_all
   grind
  rw[Oh (by simpa using H),i];refine Uq λl a=>?_;have:l≠x:=λz=>by
   subst z;obtain e|e:=Oz.mp a
   ·exact H (by rw[e];unfold absI;lia)
   rw[N9.mp e]at H;exact H (by unfold absI;lia)
  simp_all
end OD
namespace L2
open PySem
theorem qL{g:TG}{T:TS}{D:g7}(B:X.length=n)(C:n<=Y.length)(Pv:Nat->St->Hp->Prop)(k:Pv 0 c H)(l:∀i c H,i<=n->Pv i c H->SqL K H a X/\SqL K H b Y)
  (s:∀i x y c H t,X[i]?=gV x->Y[i]?=gV y->Pv i c H->H t=N4->g (.ref t) c (upd H t<|.tup [x,y]) λd j=>T {D with nx:=Pv<|i+1,ct:=Pv<|i+1,bk:=D.nx} d j) (o:∀c H,Pv n c H->D.nx c H):
  ∃W:Nat->Nat->St->Hp->Prop,(∃m,W 0 m c H)/\∀i m c H,W i m c H->
   ((Km K a b).stop i H/\D.nx c H)\/((Km K a b).go i H/\∃N:St->Hp->Prop,(∀f h,N f h->∃M,M<m/\W (i+1) M f h)/\∀x h,(Km K a b).yld i H x h->g x c h λd j=>T {D with nx:=N,ct:=N,bk:=D.nx} d j):=by
 exists λi m c H=>m=n-i/\i<=n/\Pv i c H,⟨n,by simp,Ou _,k⟩;rintro i m c H ⟨rfl,r,p⟩;obtain⟨q,Q⟩:=l i c H r p;by_cases w:i<n
 ·refine .inr ⟨⟨X,Y,X[i],Y[i],q,Q,K' _,K' _⟩,Pv<|i+1,λf h P=>⟨n-(i+1),Nat.sub_lt_sub_left w (Sg _),rfl,w,P⟩,λx h y=>?_⟩;obtain⟨t,u,v,z,rfl,rfl,E,A⟩:=y;exact s i u v c H t (E X q) (A Y Q) p z
 have e:i=n:=Nat.le_antisymm r (Zx w)
 subst e;exact .inl ⟨⟨X,Y,q,Q,by simp_all⟩,o c H p⟩
end L2
namespace L2
open PySem PySem.Spec PyProof.Rows
def Ff:V->ab V->Hp->VK->Prop:=λx v H Q=>∃(d:Oe) (D:ab Oe) (y:V) (l:C') (X:ab V) (j:Nat),x=.ref l/\v=[y]/\H l=gV (.lst X)/\cO H D X/\RD H d y/\d.canLay0=NU/\P8 D=NU/\d.depth<=60/\j<D.length/\O7 (D.getD j .none) d=NU/\(∀m,m<j->O7 (D.getD m .none) d=NZ)/\Q (.int j) H
theorem pR(O:X.A.units+64<RT):KO X "list.index" Ff:=by
 intro T s U H x Y v M Q I p w h;obtain⟨D,d,y,l,xs,j,rfl,rfl,k,Z,g,A,C,c3,hj,hit,W,q⟩:=h;cases p;obtain⟨u,rfl,B⟩:=w.one;obtain⟨z,P,n,r,hl,e⟩:=I.lstM k;obtain⟨as,E⟩:=cD I D y u g B;obtain⟨bs,G⟩:=cD I _ _ _ (cW k Z) rfl;have b:∃c,YV s.heap P d c:=by
  cases G with
  |list o h2 J L=>
   rw[e]at o;cases o;cases J;exact⟨_,by simpa using L⟩
 obtain⟨c,b⟩:=b;have i:YV s.heap P.toArray.toList d c:=by simpa using b
 have a:=Ye d P c C b;have Ql:P.length=d.length:=by rw[<-a,J']
 have t:∀m f,O7 _ D=O7 (d.getD m _) D:=λm f=>by
  have:d.getD m .none=Vk s.heap P[m]:=by
   rw[<-a,A',Og,K' f];rfl
  rw[this]
 refine Vq Uv ⟨_,e,rfl⟩ F.entry_list_index (F.args_list_index_2 _ _) (SeqAt.list_indexAt l _ n N4 #[] u (λy=>O7 _ D) j (by simp_all) ?_ ?_ ?_) ⟨e,Zm i E C A (by lia),?_⟩
 ·have:=P0;lia
 ·exact(t j<|by simp_all).trans hit
 ·intro m f N;exact(t m<|by assumption).trans<|W m N
 exact⟨.int j,H,I.tok _,⟨_,rfl⟩,q⟩
end L2
namespace DP
open PySem
section
variable {prog:Of}{w:OE}{K:Type}[V0 K]{knd:HeapKind prog w K}{A:Pr}{s:N8}
theorem yZ{E:M'->N8->Prop}{v:M'}{Q:M'->N8->Prop}(u:knd.room A)(N:knd.is s.heap k a)(o:s.heap.DictOfH knd d X)(H:X.length<=sizeLine)
  (q:∀p,VO X k=gV p->Q p.2 {s with toks:=s.toks+knd.draws k})
  (r:VO X k=N4->∀h',h'.DictOfH knd d (mj X k a v)->SX d s.heap h'->Q v {s with heap:=h',toks:=s.toks+knd.draws k}):wpAny (OI prog w) A (Xj d (.ref a) v) Q E s:=by
 obtain⟨O,D,t,G,B,g,b,i,c⟩:=o;refine P'<|N0<|knd.pyHash u N<|N0<|wpAny_dictFind_heap u N G g b i c (λn=>?_) λj p l=>?_
 ·have m:=atKey_none_of_get n;have e:=not_mem_keys_of_get n;have st:=storedH_new m a v;refine N0<|R3<|N0<|wpAny_updateDictKeys (hz:=by rwa[size_of_entries b]) G g<|Oj<|r m _ (⟨_,_,t+1,RI _ G<|Obj.isFreed_of_dict<|Xl g _,B.mapDictKeys _,Xl g _,?_,λx h=>?_,?_⟩) (Vb ..)
  ·rw[st];simp[b,entryOfKey]
  ·rw[st]at h;obtain z|z:=OB.mp h
   ·exact knd.keeps (i x z) G g (Vb ..)
   rw[N9.mp z];exact knd.keeps N G g (Vb ..)
  rw[st,Oy,Qi];exact⟨c,by simp,λx h y C z=>by
   have f:y=k:=by simpa using C
   subst z f;exact e h⟩
 refine N0<|wpAny_dictEntries G g ?_;rw[entry_at b j,l];exact N0<|R3<|Oj<|q p<|atKey_of_get c l
theorem meetsH_setd(b:(d == QT)=NZ)(v:M'):MeetsIn prog w (Builtin.«dict.setdefault» ⟨[.ref d,.ref a,v],[]⟩) (λA R s=>knd.room A.in1/\∃k x,knd.is s.heap k a/\s.heap.DictOfH knd d x/\x.length<=sizeLine/\
  (∀p,VO x k=gV p->R (.ok<|.ret p.2) {s with toks:=s.toks+knd.draws k})/\
  (VO x k=N4->∀h',h'.DictOfH knd d (mj x k a v)->SX d s.heap h'->R (.ok<|.ret v) {s with heap:=h',toks:=s.toks+knd.draws k})):=by
 refine .of_wp λA R s h=>?_;obtain⟨u,k,x,N,m,z,c,e⟩:=h;refine N0<|N0<|W5 m.typeIs<|Oj ?_;show wpAny _ _ (if(d == QT)=NU then _ else(Xj d _ v >>=_)) _ _ s
 rw[b];exact N0<|yZ u N m z (λp f=>Oj ⟨_,rfl,c p f⟩) λn h' h H=>Oj ⟨v,rfl,e n h' h H⟩
end
end DP
namespace L2
open PySem PySem.Spec PyProof.Rows
def GW(H:Hp)(a:C')(y z:V)(Q:VK):Prop:=(∃v,DGet H a y (gV v)/\Q v H)\/(DGet H a y N4/\∃h,DPut H a y z h/\Q z h)
theorem Lw(e:H a=gV (.dK k))(g:Rd H a (.dK A)):A=k:=by
 obtain g|⟨z,g⟩:=g
 ·simp_all
 simp_all
theorem Lx(e:H a=gV (.dT k))(g:Rd H a (.dT A)):A=k:=by
 obtain g|⟨z,g⟩:=g
 ·simp_all
 simp_all
theorem Jo{R:M'->N8->Prop}(hu:A.units+1<RT)(I:Inv X N5 σ H s)(g:GW H a y z Q)(O:RelV y u)(P:RelV z r)(h:∀v Y W s',Inv X N5 σ Y s'->RelV v W->Q v Y->R W s'):
  wpAny (OI X.prog X.w) A (call (.builtin "dict.setdefault") [.ref a,u,r]) R E s:=by
 obtain⟨v,⟨d,k,e,w,l⟩|⟨d,k,b,e,w,G,l⟩,q⟩|⟨⟨d,k,e,w,l⟩|⟨d,k,b,e,w,G,l⟩,Y,p,q⟩:=g
 ·subst w;obtain⟨Z,m,J,N,D⟩:=jC I.hok e;obtain⟨W,B,C⟩:=RelO.some_of (v:=v) (o:=VN J k) (by rw[l];exact N.val k);refine T_ QJ D.typeIs Rj (Q9 _ _ _) (XM (aN X.prog X.w) a (iY O) m r) ⟨J,D,by rw[<-N.length];exact Z,λv2 j=>?_,λn=>?_⟩
  ·rw[B]at j;cases j;exact h v H W _ (I.tok _) C q
  rw[B]at n;cases n
 ·subst w;cases(show u=Pp b from O);obtain⟨Z,m,L,N,D⟩:=jD I.hok e;obtain⟨W,B,C⟩:=RelO.some_of (v:=v) (o:=(VO L k).map (·.2)) (by rw[l];exact N.val k);refine T_ QJ D.typeIs Rj (Q9 _ _ _) (DP.meetsH_setd (knd:=UJ<|aN X.prog X.w) m r) ⟨Q8 hu,k,L,h_ I.hok G,D,by rw[<-Paired.length N];exact Z,λp hp=>?_,λn=>?_⟩
  ·rw[hp]at B;cases B;exact h v H _ _ (I.tok _) C q
  rw[n]at B;cases B
 ·subst w;obtain⟨Z,m,J,N,D⟩:=jC I.hok e;have n:VN J k=none:=RelO.none_of (by rw[l];exact N.val k);obtain⟨F,i,t,f,l2,T⟩|⟨F,i,b2,t,f,V⟩:=p
  ·obtain rfl:=Lw t e;obtain rfl:k=i:=by cases k<;>cases i<;>cases f<;>rfl
   subst T;have hl:(cn d k z).length<=sizeLine:=by have:=dg d k z;lia
   refine T_ QJ D.typeIs Rj (Q9 _ _ _) (XM (aN X.prog X.w) a (iY O) m r) ⟨J,D,by rw[<-N.length];exact Z,λv2 j=>(by rw[n]at j;cases j),λV h' o hs=>?_⟩;have he:∃q,h'.get? a=gV q:=let ⟨q,_,_,U,_⟩:=o;⟨q,U⟩
   exact h z _ r _ (jE I (by rw[t];exact QS) hs he<|qA hl m (N.put k P) o) P q
  cases k<;>cases f
 subst w;cases(show u=Pp b from O);obtain⟨Z,m,L,N,D⟩:=jD I.hok e;have n:(VO L k).map (·.2)=none:=RelO.none_of (by rw[l];exact N.val k);obtain⟨F,i,t,f,l2,T⟩|⟨F,i,b2,t,f,M,l2,T⟩:=p
 ·cases i<;>cases f
 obtain rfl:=Lx t e;cases f;have ek:i=k:=by
  rw[G]at M;have e3:k.map kV=i.map kV:=HO.tup.inj<|Ot M;exact(Yt (λx y ac=>by cases x<;>cases y<;>cases ac<;>rfl)|>.mp e3).symm
 subst ek;subst T;have hl:(cn d i z).length<=sizeLine:=by have:=dg d i z;lia
 refine T_ QJ D.typeIs Rj (Q9 _ _ _) (DP.meetsH_setd (knd:=UJ<|aN X.prog X.w) m r) ⟨Q8 hu,i,L,h_ I.hok G,D,by rw[<-Paired.length N];exact Z,λp hp=>(by rw[hp]at n;cases n),λV h' o hs=>?_⟩;obtain⟨q2,es,ep,U,g2,g3,g4,V,g5⟩:=o;have am:ObjOk X.prog X.w (upd H a<|.dT<|cn d i z) h' a (.dT<|cn d i z):=by
  refine⟨hl,m,_,(N.put i G P).keeps λc ys ec=>?_,q2,es,ep,U,g2,g3,g4,g5⟩;rw[af<|bj ec t (λz=>nomatch z)];exact ec
 exact h z _ r _ (jE I (by rw[t];exact QS) hs ⟨q2,U⟩ am) P q
def Jp(t T tx:TE):TE:=λb H Q=>t b H λx h=>∃a,x=.ref a/\M4 h a/\T b h λy c=>tx b c λz d=>GW d a y z Q
theorem tU(c:X.A.units+1<RT)(j:PE X o t)(k:PE X e T)(l:PE X f n)(m:M2 X o "setdefault" p e f Y):PE X (.Call (.Attribute o "setdefault" p) [e,f] [] Y) (Jp t T n):=by
 intro O s b H Q I h;refine wpAny_Call_method m.base m.few m.line PySem.F.plainAttrs_dict QJ PySem.F.type_dict_setdefault<|bu (j O s b H _ I h) λu w V=>?_;obtain⟨x,A,i,B,a,E,d,C⟩:=V;subst E;obtain rfl:u=Pp a:=B;obtain⟨D,F,S⟩:=AD i d;exists D,F;rw[m.trees];exact So rfl<|SM<|RE<|bu (k O w b A _ i C) (by rintro iv G ⟨y,J,L,M,N⟩;exact RE<|bu (l O G b J _ L N) (by rintro fv s3 ⟨z,H3,P,U,g⟩;exact Ug<|Jo c P g M U λv W w' s4 Z r q=>⟨v,W,Z,r,q⟩))
theorem jQ(h:PE X k t)(H:PE X v T):PE X (.Dict [gV k] [v] p) (sI [(t,T)]):=wA (mR h H wz) rfl rfl (ZF _ _) (by simp)
theorem tV(h:PE X k a)(H:PE X v b)(U:PE X c t)(Z:PE X d T):PE X (.Dict [gV k,gV c] [v,d] p) (sI [(a,b),(t,T)]):=wA (mR h H<|mR U Z wz) rfl rfl (ZF _ _) (by show 2<=15;decide)
theorem Inv.swap(I:Inv X z j H s)(f:H a=gV u)(l:i a=gV v)(k:∀b,b≠a->i b=H b)(N:∀E,u≠.tup E)(q:∀o w,X.H₀ a=gV (.frz o w)->False)(t:∀P,u≠.tbl P)(y:∀b,u≠.own b)
  (hok:ObjOk X.prog X.w i s.heap a v):Inv X z j i s where
 ok:=I.ok
 os:=I.os
 bare:=I.bare
 base:={
  keep:=I.base.keep
  slot:=I.base.slot
  free:=λb O e n A=>by
   have h:=I.base.free b O e n A;grind
  there:=I.base.there
  tups:=λb E e=>by
   have h:=I.base.tups b E e;grind
  frzs:=λb O w e=>by
   have h:=I.base.frzs b O w e;grind
  tbls:=λb P e=>by
   obtain⟨m,h⟩:=I.base.tbls b P e;grind}
 loc:=I.loc
 cell:=I.cell
 free:=by
  have h:=I.free;grind
 freeC:=λx c e=>by
  have h:=I.freeC x c e;grind
 pin:=λp B=>by
  obtain⟨C,h,D⟩:=I.pin p B;refine⟨C,?_,D⟩;grind
 hok:=λb w e=>by
  by_cases d:b=a
  ·subst d;rw[l]at e;cases e;exact hok
  rw[k b d]at e;refine(I.hok b w e).stay (λg g g r=>r) (λc r=>?_) λc E r=>?_
  ·grind
  grind
 len:=I.len
theorem Inv.nofrz(I:Inv X P b H s)(h:H a=gV u)(n:∀o w,u≠.frz o w):∀o w,X.H₀ a=gV (.frz o w)->False:=λo w e=>by
 have:=I.base.frzs a o w e;grind
theorem Inv.freeze(I:Inv X P c H s)(e:H a=gV (.dK k)):∃o,s.heap.get? a=gV o/\Inv X P c (upd H a<|.frz o<|.dK k) s:=by
 obtain⟨z,f,v,N,d⟩:=wx I.hok e;obtain⟨o,E,p,h,i⟩:=id d;exact⟨o,h,I.swap e aa (λb g=>af g) (by lia) (I.nofrz e λy y z=>by cases z) (by lia) (by lia) ⟨h,z,f,v,N,d⟩⟩
theorem Inv.thaw(n:∀o w,X.H₀ a=gV (.frz o w)->False)(e:H a=gV (.dK k))(I:Inv X P c (upd H a<|.frz o<|.dK k) s):Inv X P c H s:=by
 have O:=I.hok a _ aa;exact I.swap aa e (λb h=>(af h).symm) (by simp) n (by simp) (by simp) (O.2)
noncomputable def Ly(a:C')(o:Obj)(s:ab (aK×V)):It:=
 ⟨λi H=>H a=gV (.frz o<|.dK s)/\i<s.length,λi H x h=>h=H/\∃k v,s[i]?=gV (k,v)/\x=kV k,λi H=>H a=gV (.frz o<|.dK s)/\s.length<=i⟩
theorem Jq(h:(aN P w).is k u=NU):RelV (kV k) u:=by
 obtain⟨i,t,rfl,rfl⟩|⟨x,t,rfl,rfl⟩:=@bN k u h
 ·exact⟨t,rfl⟩
 exact⟨t,rfl⟩
theorem y6{P:Of}{w:OE}{K:B'}{tg:Pl}(a t:C')(o:Obj){x:Qp DictEntry}{ep:Nat}(f:ab (aK×V))(n:o.data=.dict x ep):si P w K tg (Ly a o f) [t] t (λi h=>h.IsKeyIter t a i f.length ep) where
 mem:=by simp
 obj:=λi h st b j=>by
  have e:b=t:=by simpa using j
  subst e;obtain⟨o,e,c,d⟩:=st;exact⟨o,e,λv z=>by simp_all⟩
 keep:=λi h p st k=>st.at λo e=>k t (by simp) o e
 item:=by
  intro X y A B hc i Pz s σ H E I r st C;subst y A B;obtain⟨D,F⟩:=C;obtain⟨l,z,G,g,N,o',J,L,q,M,Q,O,T,U⟩:=(I.hok a _ D);rw[l]at q;cases q;rw[n]at Q;cases Q;have u:=N.length;have m:i<g.length:=by simp_all
  obtain⟨W,Y,f2,Z,f4,f5⟩:=r t (by simp);refine wpAny_pyNext_dict_item (by rwa[<-u]) ⟨o,x,l,M,n,O,T,U⟩ (K' m) λac p ZY Sl sb=>?_;have I1:Inv X Pz σ H {s with heap:=p}:=I.turned (λb o j e=>(sb.2 b j).trans e) W Y Z f4 f5;rw[<-u]at Sl;obtain⟨oi,e,c,d⟩:=id Sl;refine⟨ac,rfl,sj e c d (by rfl) ⟨kV _,H,I1,Jq ZY,⟨rfl,f[i].1,f[i].2,K' F,?_⟩,Sl,λb j=>(r b j).1⟩⟩;have hk:=N.keys;have e1:(f.map (·.1))[i]?=(g.map (·.1))[i]?:=by rw[hk]
  rw[Og,Og,K' F,K' m]at e1;simp_all
 done:=by
  intro X y A B hc i Pz s σ H E I r st C;subst y A B;obtain⟨D,F⟩:=C;obtain⟨l,z,G,g,N,o',J,L,q,M,Q,O,T,U⟩:=(I.hok a _ D);rw[l]at q;cases q;rw[n]at Q;cases Q;have u:=N.length;obtain⟨W,Y,f2,Z,f4,f5⟩:=r t (by simp);exact wpAny_pyNext_dict_end (I.ok.hd hc) (by rwa[<-u]) ⟨o,x,l,M,n,O,T,U⟩ (by simp_all) λp eb=>⟨rfl,I.turned (λb o j e=>eb b o j e) W Y Z f4 f5⟩
 self:=λS S S S S st h=>wpAny_pyIter_keyiter st h
inductive Lz (x:V)(H:Hp)(R:It->Hp->Prop):Prop
 |mk (a:C')(kvs:ab (aK×V))(h:x=.ref a)(e:H a=gV (.dK kvs))(r:∀o,R (Ly a o kvs)<|upd H a<|.frz o<|.dK kvs)
def LA(t:TE):TI:=λa H R=>t a H λx h=>Lz x h R
theorem Fg(n:PE X l t):PI X T l (LA t):=by
 intro P s p H R I h;refine bu (n P s p H _ I h) λv c ⟨x,F,d,r,Q⟩=>?_;obtain⟨a,k,e,f,q⟩:=Q;subst e;cases r;obtain⟨o,g,i⟩:=d.freeze f;obtain⟨z,m,u,N,O,E,w,Q,y,j,A,B,C⟩:=wx d.hok f;rw[g]at Q;cases Q;refine wpAny_pyIter_dict m ⟨o,E,g,y,j,A,B,C⟩<|⟨c.heap.objs.size,[c.heap.objs.size],_,_,_,rfl,i.kept λb o e=>N_ _ e,y6 a _ o k j,?_,λb D=>?_,q o⟩
 ·exact⟨_,OJ _ rfl,rfl,by rw[N.length];rfl⟩
 have e:b=c.heap.objs.size:=by simpa using D
 subst e;exact i.fpOk (N1 _)<|i.hok.fresh<|N1 _
def Mz(a:C')(Q:Hp->Prop)(H:Hp):Prop:=∃o k h,h a=gV (.dK k)/\H=upd h a (.frz o<|.dK k)/\Q h
def LB(t:TS):TS:=λD b H=>∃a k,H a=gV (.dK k)/\t {nx:=λb H=>Mz a (D.nx b) H,rt:=λv H=>Mz a (D.rt v) H,bk:=λb H=>Mz a (D.bk b) H,ct:=λb H=>Mz a (D.ct b) H} b H
theorem Fh{st:Pk}{t:TS}(h:PS X st t):PS X st (LB t):=by
 intro P s g H D I ⟨a,k,e,q⟩;have n:=I.nofrz e λ_ _ z=>by cases z
 refine bu (h P s g H _ I q) λf l r=>?_;cases f with
 |next=>obtain⟨b,d,i,o,A,c,E,rfl,Q⟩:=r;exact⟨b,c,i.thaw n E,Q⟩
 |cont=>obtain⟨b,d,i,o,A,c,E,rfl,Q⟩:=r;exact⟨b,c,i.thaw n E,Q⟩
 |brk=>obtain⟨b,d,i,o,A,c,E,rfl,Q⟩:=r;exact⟨b,c,i.thaw n E,Q⟩
 |ret v=>obtain⟨x,b,d,i,j,o,A,c,E,rfl,Q⟩:=r;exact⟨x,b,c,i.thaw n E,j,Q⟩
theorem Bv{g:TG}{t:TS}{D:g7}(Pv:Nat->St->Hp->Prop)(j:Pv 0 b H)(l:∀i b H,i<=s.length->Pv i b H->H a=gV (.frz o<|.dK s))
  (n:∀i k v b H,s[i]?=gV (k,v)->Pv i b H->g (kV k) b H λc f=>t {D with nx:=Pv<|i+1,ct:=Pv<|i+1,bk:=D.nx} c f) (r:∀b H,Pv s.length b H->D.nx b H):
  ∃W:Nat->Nat->St->Hp->Prop,(∃m,W 0 m b H)/\∀i m b H,W i m b H->
   ((Ly a o s).stop i H/\D.nx b H)\/((Ly a o s).go i H/\∃N:St->Hp->Prop,(∀d h,N d h->∃M,M<m/\W (i+1) M d h)/\∀x h,(Ly a o s).yld i H x h->g x b h λc f=>t {D with nx:=N,ct:=N,bk:=D.nx} c f):=by
 exists λi m b H=>m=s.length-i/\i<=s.length/\Pv i b H,⟨s.length,by simp,Ou _,j⟩;rintro i m b H ⟨rfl,u,p⟩;have q:=l i b H u p;by_cases T:i<s.length
 ·refine .inr ⟨⟨q,T⟩,Pv<|i+1,λd h P=>⟨s.length-(i+1),Nat.sub_lt_sub_left T (Sg _),rfl,T,P⟩,λx h y=>?_⟩;obtain⟨e,k,v,w,rfl⟩:=y;subst e;exact n i k v b _ w p
 have e:i=s.length:=Nat.le_antisymm u (Zx T)
 subst e;exact .inl ⟨⟨q,N1 _⟩,r b H p⟩
end L2
namespace KX
open PySem PyProof.Rows
noncomputable abbrev ltB(k:Nat->Int):Nat->Nat->N6:=λi j=>decide (k i<k j)
section
variable {R:Zn->N8->Prop}{St:Nat->O5->Prop}
theorem LC(W:Walks p w A.in1 I fp M n P St)(f:Nat->Int)(O:O5->Prop)(S:C')(B:S∉fp)
  (C:∀h h',O h->(∀b o,b∉M->b≠S->h.get? b=gV o->h'.get? b=gV o)->O h')
  (PF:∀i v s Q E,P i v->O s.heap->(∀t u,Q (.int (f i) t) {s with toks:=u})->wpAny (OI p w) A.in1 (call (.builtin "len") [v]) Q E s):
  ∀k j s x y c,n-(j+1)=k->j+1<=n->St (j+1) s.heap->O s.heap->P (QU (ltB f) j) x->
  s.heap.get? S=gV {cls:=.type "list",dict:=N4,data:=.seq #[x,.int (f<|QU (ltB f) j) y] c,slots:=#[]}->
  (∀v h' u,P (QU (ltB f)<|n-1) v->(∀b o,b∉M->b≠S->s.heap.get? b=gV o->h'.get? b=gV o)->R (.ok<|.ret v) {s with heap:=h',toks:=u})->
  codeAny (OI p w) A (.builtin "min.loop" ⟨[.ref I,.builtin "len",.ref S],[]⟩) R s:=by
 have D:S∉M:=λh=>B<|W.sub _ h;have Wf:(toString "min"++toString ".loop":R1)="min.loop":=by rfl
 intro k
 induction k with
 |zero=>
  intro j s x y c hk hj N V l F J;have U':j+1=n:=by lia
  refine Rk Ue ?_;rw[Qv Qz _];show wpAny _ A.in1 (Wj (.ref S) >>=_) _ _ s
  refine N0<|Sa F rfl ?_;show wpAny _ A.in1 (tryCatch (V9<|.ref I) _ >>=_) _ _ s
  refine N0<|Qu<|W.done s _ _ (U'▸N) λh' u U=>?_;have d:=U S _ D F;show wpAny _ A.in1 (Zh S (λV=>#[]) >>=_) _ _ _
  refine N0 ?_;refine Sr d rfl<|N0<|Sl<|Oj ?_;refine J x _ u (by rw[<-U'];exact l) λb o a H e=>(OU _ _<|Pw H).trans<|U b o a e
 |succ k ih=>
  intro j s x y c hk hj N X l F J;have Z:j+1<n:=by omega
  refine Rk Ue ?_;rw[Qv Qz _];show wpAny _ A.in1 (Wj (.ref S) >>=_) _ _ s
  refine N0<|Sa F rfl ?_;show wpAny _ A.in1 (tryCatch (V9<|.ref I) _ >>=_) _ _ s
  refine N0<|Qu<|W.item (j+1) s _ _ Z N λv h' u hP g U=>?_;have d:=U S _ D F;have Y:O h':=C _ _ X λb o z V e=>U b o z e;show wpAny _ A.in1 (tryCatch (T7 [v]<|call (.builtin "len") [v]) _ >>=_) _ _ _
  refine N0<|Qu<|P'<|PF (j+1) v _ _ _ hP Y λL am=>?_;show wpAny _ A.in1 (tryCatch (T7 [v,.int (f<|j+1) L]<|richCompare .Lt (.int (f<|j+1) L) (.int (f<|QU (ltB f) j) y) >>=_) _ >>=_) _ _ _
  refine N0<|Qu<|P'<|N0<|CmpOf.ints_lt (prog:=p) (w:=w) (A:=A.in1) (P:=λi v=>∃t,v=.int (f i) t) f (λi v h=>h) (j+1) (QU (ltB f) j) _ _ _ _ _ ⟨L,rfl⟩ ⟨y,rfl⟩ ?_;refine N0<|P'<|PR ?_;refine N0<|Sl<|Oj ?_;by_cases z:f (j+1)<f (QU (ltB f) j)
  ·have G:QU (ltB f) (j+1)=j+1:=by simp[QU,z]
   simp only[z,decide_true,Ve];refine N0 ?_;refine Sr d rfl<|N0<|Sl ?_;rw[Wf];refine Oj ⟨Rf Qz _,ih (j+1) _ v L _ (by lia) Z (W.frame _ _ _ g λb ac o e=>?_) (C _ _ Y λb o V H e=>(OU _ _<|Pw H).trans e) (by simp_all) (by rw[G];exact RI _ d rfl)
    λv' m T q r=>?_⟩
   ·exact(OU _ _ λh:S=b=>by simp_all).trans e
   exact J v' m T q λb o a H e=>r b o a H<|(OU _ _<|Pw H).trans<|U b o a e
  have G:QU (ltB f) (j+1)=QU (ltB f) j:=by simp[QU,z]
  simp only[z,QN];refine N0<|Sl ?_;refine Oj ⟨Rf Qz _,ih _ _ x y c (by omega) Z g Y (by rwa[G]) (by rwa[G]) λv' m T q r=>?_⟩;exact J v' m T q λb o a H e=>r b o a H<|U b o a e
theorem Jr(W:Walks p w A.in1 I N r n P St)(l:Nat->Int)(O:O5->Prop)(S:C')(f:S∉N)
  (k:∀h h',O h->(∀b o,b∉r->b≠S->h.get? b=gV o->h'.get? b=gV o)->O h')
  (F:∀i v s Q E,P i v->O s.heap->(∀t m,Q (.int (l i) t) {s with toks:=m})->wpAny (OI p w) A.in1 (call (.builtin "len") [v]) Q E s)
  {s:N8} {c:Nat} (G:0<n) (q:St 0 s.heap) (u:O s.heap)
  (J:s.heap.get? S=gV {cls:=.type "list",dict:=N4,data:=.seq #[] c,slots:=#[]})
  (U:∀v h' m,P (QU (ltB l)<|n-1) v->(∀b o,b∉r->b≠S->s.heap.get? b=gV o->h'.get? b=gV o)->R (.ok<|.ret v) {s with heap:=h',toks:=m}):
  codeAny (OI p w) A (.builtin "min.loop" ⟨[.ref I,.builtin "len",.ref S],[]⟩) R s:=by
 have x:=λh=>f<|W.sub _ h;refine Rk Ue ?_;refine N0<|Sa J rfl ?_;refine N0<|Qu<|W.item 0 s _ _ G q λv h' m L a y=>?_;have d:=y S _ x J;have g:=k _ _ u λb o Y X e=>y b o Y e;show wpAny _ _ (tryCatch _ _ >>=_) _ _ _
 refine N0<|Qu<|P'<|F 0 v _ _ _ L g λM Z=>?_;show wpAny _ _ _ _ _ _
 refine N0<|Sr d rfl<|Oj ⟨Rf Qz _,LC W l O S f k F _ 0 _ v M _ rfl G (W.frame _ _ _ a λb z o e=>?_) (k _ _ g λb o X H e=>(OU _ _<|Pw H).trans e) L (RI _ d rfl) λv' B T C D=>?_⟩
 ·exact(OU _ _ λh:S=b=>by simp_all).trans e
 exact U v' B T C λb o j H e=>D b o j H<|(OU _ _<|Pw H).trans<|y b o j e
end
theorem min_len{p:Of}{w:OE}{A:Pr}{E:M'->N8->Prop}{s:N8}(g:Nat->Int)(O:O5->Prop){Q:M'->N8->Prop}(x:A.handled=N4)(r:s.heap.IsList l a)(y:0<a.size)(j:O s.heap)
  (H:∀h h',O h->(∀b o,b<s.heap.objs.size->h.get? b=gV o->h'.get? b=gV o)->O h')
  (P:∀i v s Q E,a[i]?=gV v->O s.heap->(∀t T,Q (.int (g i) t) {s with toks:=T})->wpAny (OI p w) A.in1 (call (.builtin "len") [v]) Q E s)
  (h:∀v h' T,a[QU (ltB g) (a.size-1)]?=gV v->(∀b o,s.heap.get? b=gV o->h'.get? b=gV o)->Q v {s with heap:=h',toks:=T}):
  wpAny (OI p w) A (call (.builtin "min") [.ref l] [(NV "key",.builtin "len")]) Q E s:=by
 obtain⟨C,c,X⟩:=id r;have d:=On c;refine kmk_tree PySem.F.kind_min PySem.F.plain_min PySem.F.entry_min (kmk_min_key _ _)<|N0<|wpAny_of_eq rfl<|N0<|Oj<|N0<|Sy r<|N0<|UR ?_<|Ou _;have m:(s.heap.push {cls:=.type "list_iterator",data:=.fields #[.ref l,.int 0 0]}).objs.size=s.heap.objs.size+1:=Yl ..;have I:=OF d;have W:=WA (prog:=p) (w:=w) (A:=A.in1) x _ l I a;have n:∀b o,s.heap.get? b=gV o->((s.heap.push {cls:=.type "list_iterator",data:=.fields #[.ref l,.int 0 0]}).push<|Ql "list" #[] 0).get? b=gV o:=λb o e=>N_ _<|N_ _ e;refine Oj ⟨Rf Qz _,Jr W g O _ (λD=>?_) (λF G q k=>H F G q λb o u e=>k b o (λz=>?_) (λz=>?_) e) P y ⟨⟨_,N_ _<|OJ _ rfl,rfl,rfl⟩,?_⟩ (H _ _ j λb o Z e=>n b o e) (OJ _ rfl) λv h' T J L=>?_⟩
 ·have f:=Oz.mp D;rw[m]at f;obtain z|z:=f
  ·simp_all
  exact absurd (N9.mp z)<|RX<|QF d
 ·exact OF u<|N9.mp z
 ·rw[m]at z;exact OF (QF u) z
 ·exact⟨C,n _ _ c,X⟩
 refine h v h' T J λb o e=>L b o (λz=>?_) (λz=>?_)<|n b o e
 ·exact OF (On e)<|N9.mp z
 rw[m]at z;exact OF (QF<|On e) z
end KX
namespace L2
open PySem PySem.Spec PyProof.Rows
noncomputable def Fi(n:ab Nat):Nat:=QU (KX.ltB λi=>((n.getD i 0:Nat):Int))<|n.length-1
theorem Fj(h:n≠[]):Fi n<n.length/\∀j,j<n.length->n.getD (Fi n) 0<=n.getD j 0:=by
 obtain⟨H,a⟩:=argBest_lt _<|n.length-1;have l:=Tc.mpr h;refine⟨Q_ H (Nat.sub_lt l (by decide)),λj b=>?_⟩;have:=a j (by lia);exact Int.ofNat_le.mp this
def Js(K:B')(H:Hp)(A:ab C')(n:ab Nat):Prop:=A.length=n.length/\∀(i:Nat) (a:C'),A[i]?=gV a->∃l,SqL K H a l/\n[i]?=gV l.length
def GX(K:B'):V->Hp->VK->Prop:=λx H Q=>∃(p:C') (A:ab C') (n:ab Nat),x=.ref p/\SqL K H p (A.map V.ref)/\n≠[]/\Js K H A n/\∀a:C',A[Fi n]?=gV a->Q (.ref a) H
def LD(K:B')(t:TE):TE:=λa H Q=>t a H λx h=>GX K x h Q
theorem Fk{p1 p2 kp U:Pos}(hc:X.calm=NU)(t:Gl X "min")(w:X.mg "min"=N4)(y:Gl X "len")(z:X.mg "len"=N4)(he:PE X e te)
  (B:ON [e] X.env=[(NZ,Qs e X.env)]:=by rfl):
  PE X (.Call (.Name "min" p1) [e] [⟨gV "key",.Name "len" p2,kp⟩] U) (LD X.K te):=by
 intro Pz s σ H Q I h;refine Qa<|c7 I t w W8<|Tq (bu (aD he (gG) (by rw[B];rfl) U Pz s σ H (yE λx C=>GX X.K x C Q) I h) λus s1 ⟨vs,C,d,r1,D⟩=>?_) (by rw[B];rfl) (by rw[B];rfl) rfl rfl;obtain⟨x,E,p,A,n,rfl,hq,WA,⟨F,hL⟩,q⟩:=ig D;subst E;obtain⟨u,rfl,G⟩:=eu r1;cases G;refine Ux<|c7 d y z RB<|UV ?_;show wpAny _ _ _ _ _ _
 obtain⟨m,W,pl,hz⟩:=d.list hq;have am:=P0;have L:m.length=n.length:=by rw[<-W.length,J',F]
 have an:=Tc.mpr WA;have f:∀{i:Nat} {v:M'},m.toArray[i]?=gV v->∃a,A[i]?=gV a/\v=.ref a:=λ{i v} g=>by
  have j:m[i]?=gV v:=by simpa using g
  have Z:i<A.length:=by
   have:=(NT.mp j).1;simp_all
  obtain⟨u,hu,G⟩:=W.get (by rw[Og,K' Z];rfl);rw[j]at hu;cases hu;exact⟨A[i],K' Z,G⟩
 refine KX.min_len (λi=>((n.getD i 0))) (λh=>∀i a,A[i]?=gV a->∃b:ab M',h.IsList a b.toArray/\b.length=n.getD i 0/\b.length<=sizeLine/\a<s1.heap.objs.size) (d.ok.hd hc) pl.isList (by simp_all) (λi a c=>?_) (λh1 h2 O k i a c=>?_) (λi v s' Q' E' g O hQ=>?_) λv h' tk g hk=>?_
 ·obtain⟨l,hl,hn⟩:=hL i a c;obtain⟨b,r,P,J⟩:=d.list hl;have Y:=P.isList;obtain⟨o,M,V⟩:=id Y;exact⟨b,Y,by rw[A',hn,Sf,r.length],by rwa[<-r.length],On M⟩
 ·obtain⟨b,Y,E,e2,N⟩:=O i a c;obtain⟨o,M,T⟩:=Y;exact⟨b,⟨o,k a o N M,T⟩,E,e2,N⟩
 ·obtain⟨a,c,rfl⟩:=f g;obtain⟨b,Y,E,e2,N⟩:=O i a c;refine XN Y (by simp only[Ol];lia) ?_;simp only[Ol,E];exact hQ _ _
 obtain⟨a,c,rfl⟩:=f g;have e:m.toArray.size-1=n.length-1:=by simp[L]
 rw[e]at c;exact⟨.ref a,C,d.kept hk,rfl,q a c⟩
theorem y8{K:B'}{a:Pl}{t:TE}(e:X.K=K)(b:PE X a t)(c:∀Y,isTrue a X.env Y=(do let v <-Y;XE a.pos;T7 [v] (truthy v))):
  PT X a (λd H Q=>t d H λx h=>∃k,Eu K x h k/\Q k h):=by
 subst e;exact fU b c
theorem Fl{K:B'}{e:Pl}{f:Str}{p:Pos}{t:TE}(E:X.K=K)(h:PE X e t)(H:Ti e f X.env (Qs e X.env)=Qs e X.env):PE X (.Attribute e f p) (IE K t f):=by
 subst E;exact As h H
def Fm:V->ab V->Hp->VK->Prop:=λx v H Q=>∃(D:Oe) (s:ab Oe) (y:V) (l:C') (X:ab V),x=.ref l/\v=[y]/\H l=gV (.lst X)/\cO H s X/\RD H D y/\D.canLay0=NU/\P8 s=NU/\D.depth<=60/\Q (.int ((s.countP λd=>O7 d D:Nat):Int)) H
theorem y9(J:X.A.units+64<RT):KO X "list.count" Fm:=by
 intro O s L H x M v U Q I k m h;obtain⟨D,a,y,l,N,rfl,rfl,i,Z,f,o,C,T,q⟩:=h;cases k;obtain⟨u,rfl,p⟩:=m.one;obtain⟨z,P,n,r,W,e⟩:=I.lstM i;obtain⟨Y,t⟩:=cD I D y u f p;obtain⟨G,w⟩:=cD I _ _ _ (cW i Z) rfl;have b:∃c,YV s.heap P a c:=by
  cases w with
  |list j h2 B E=>
   rw[e]at j;cases j;cases B;exact⟨_,by simpa using E⟩
 obtain⟨c,b⟩:=b;have g:YV s.heap P.toArray.toList a c:=by simpa using b
 have A:=Ye a P c C b;refine Vq Xo ⟨_,e,rfl⟩ F.entry_list_count (F.args_list_count_2 _ _) (SeqAt.list_countAt l _ n N4 #[] u λy=>O7 _ D) ⟨e,Zm g t C o (by lia),?_⟩;exists .int _,H,I.tok _,⟨_,rfl⟩;have:P.toArray.toList.countP (λy=>O7 (Vk s.heap y) D)=a.countP λd=>O7 d D:=by
  rw[<-A,Z5];rfl
 rwa[this]
theorem Jt{P:Sem N6}(G:rX X.prog X.w X.K X.mg X.base aP j C m f F b s)(H:PE X o t)(r:Room k X.A)(h:j<=k)
  (a:Qs (.Call (.Attribute o m v) [] [] p) X.env=(do
   let O <-Qs o X.env
   XE v.atName
   let (f,first) <-T7 [O] (Wl O m P)
   nk p f first (Rl p<|ON [] X.env) (Xk p<|UU [] X.env)):=by rfl):
  PE X (.Call (.Attribute o m v) [] [] p) (sA C m s [] E0 t uM):=Au H G.cl G.me G.ok (r.mono h) G.b .nil wB a
theorem Bw{N Q:ab Str}{s:Sm}(a:s.kind=.function:=by rfl)(b:s.isCoroutine=false:=by rfl)(c:s.isGenerator=false:=by rfl)(d:N.Nodup:=by decide+kernel)(e:N.take Q.length=Q:=by rfl)
  (f:∀x∈Q,s.names.lookup x=gV .local\/s.names.lookup x=gV .cell:=by decide+kernel) (g:∀y∈s.names,y.2≠.free:=by decide+kernel):ee N Q s:=⟨a,b,c,d,e,f,g⟩
theorem nD(l:ab Str)(h:l.Nodup:=by decide+kernel):l.Nodup:=h
theorem cS{X:Cx}{s:Sm}{C:ab (Str×C')}{N:ab Str}{I:ab (NW Nat)}(a:o1 s X.env=pure C:=by with_unfolding_all rfl)
  (b:AllIn (λy=>X.env.cells.lookup y) C:=by with_unfolding_all first|exact trivial|exact⟨rfl,trivial⟩|exact⟨rfl,rfl,trivial⟩|exact⟨rfl,rfl,rfl,trivial⟩|exact⟨rfl,rfl,rfl,rfl,trivial⟩)
  (c:∀n,((Sz s X.env).names.all λq=>!(decide (q.2=.cell) || decide (q.2=.free)) || ((Pz n s.names C).lookup q.1).isSome)=true:=by exact λz=>by rfl)
  (d:((N.zip I).all λp=>match p.2 with
  |none=>NU
  |some i=>decide (X.N[i]?=gV p.1)&&(decide (X.env.kindOf p.1=gV .cell) || decide (X.env.kindOf p.1=gV .free))&&(decide ((Sz s X.env).names.lookup p.1=gV .cell) || decide ((Sz s X.env).names.lookup p.1=gV .free))&&(s.names.all λq=>!decide (q.2=.cell) || !decide (q.1=p.1)))=true:=by rfl)
  (e:I.length=N.length:=by rfl) (f:s.kind=.function:=by rfl) (g:∀y∈s.names,y.2=.local->s.names.lookup y.1=gV .local:=by decide):CompSc X s C N I:=⟨a,b,c,d,e,f,g⟩
theorem Fun.okA{P:Of}{w:OE}{K:B'}{m:Str->NW M'}{b:O5}{x:Str}{q:Str}{st:Pk}{f:C'}{d:Oc}{N:ab Str}{p:ab Str}{k:Nat}{a:Sp}(F:Fun K x q st f d)(S:ee N p (aw st))
  (h:∀c A o s H v Q E,Room k (A.deeper<|P5 q (aw st) s.heap.objs.size f c)->a v H Q E->
   ∃t,PSs (qw aP P w K m b N q (aw st) f c A o s H E).nox (cc st) t/\t {nx:=λz e=>Q .non e,rt:=Q} (start N v) H)
  (l:∀v H Q E,a v H Q E->v.length=p.length:=by intro z z z z h;repeat (first|(cases h<;>subst_vars<;>rfl)|obtain⟨z,h⟩:=h)):ao P w K m b aP (k+1) f d p a:=F.ok S l h
def Fe(P:Of)(w:OE)(K:B')(m:Str->NW M')(b:O5)(k:Nat)(x:Str)(s:Sp):Prop:=∃f F p,Fn P w K m b k x f F p s
theorem rY{X:Cx}{j:Nat}{k:Nat}{s:Sp}{x:Str}{p:Pos}{P:Pos}{e:Pl}{E:ab Pl}{t:TA}(G:Fe X.prog X.w X.K X.mg X.base j x s)(r:Room k X.A)(a:PA X (e::E) t)(h:j<=k:=by lia)(g:Gl X x:=by rfl)(H:(x == ("__debug__":Str))=false:=by decide)
  (b:ON (e::E) X.env=(NZ,Qs e X.env)::ON E X.env:=by rfl) (u:(Rl P<|ON E X.env).any (·.1)=false:=by rfl):PE X (.Call (.Name x p) (e::E) [] P) (wu s [] E0 t):=by
 obtain⟨z,z,z,G⟩:=G;exact fW G r h g a H b u
section
variable {X:Cx}{pos:Pos}
theorem LF(h:PE X a t)(H:PE X b T)(s:qy b:=by exact λz z=>rfl):PE X (.Subscript a b pos) (Eo (GE X.K) t T):=GD Ay h H s
theorem y_{a:Pl}{b:Pl}{t:TE}{T:TE}{K:B'}(h:PE X a t)(H:PE X b T)(s:qy b:=by exact λz z=>rfl)(e:X.K=K:=by rfl):PE X (.Subscript a b pos) (Eo (GE K) t T):=GD (EV e) h H s
theorem mq{x:Str}(i:Nat)(h:X.N.Nodup)(H:X.N[i]?=gV x:=by exact nn) (a:Ia X.env.scope x:=by exact Zt rfl) (f:X.fn x=NU\/X.env.scope.names.lookup x=gV .local:=by first|exact .inl rfl|exact .inr rfl|assumption):PG X (.Name x pos) (df i):=jy h H a f
theorem Bx(h:OpR X (PL o) r)(H:PE X a t)(c:PE X b T)(m:Su o b=false:=by exact An _):PE X (.Compare a [o] [b] pos) (Eo r t T):=iI h H c m
theorem By(h:OpR X (PL o) r)(H:PE X a t)(c:PE X b T)(m:Su o b=false:=by exact An _):PT X (.Compare a [o] [b] pos) (Ao<|Eo r t T):=eO h H c m
theorem gY(h:PE X e t)(H:ON [e] X.env=[(NZ,Qs e X.env)]:=by rfl):PA X [e] (iW t uM):=aD h gG H
theorem g_(h:PE X E t)(H:PE X e T)(a:ON [E,e] X.env=(NZ,Qs E X.env)::ON [e] X.env:=by rfl)(b:ON [e] X.env=[(NZ,Qs e X.env)]:=by rfl):PA X [E,e] (iW t<|iW T uM):=aD h (aD H gG b) a
theorem a_{K:B'}{H:Hp}{q:C'}{s:ab V}{i:Int}{v:V}{Q:VK}(h:H q=gV (.tup s))(e:iU s i=gV v)(g:Q v H):GE K (.ref q) (.int i) H Q:=.inr<|.inl ⟨q,s,i,v,rfl,rfl,SqT.of h,e,g⟩
theorem dM{K:B'}{H:Hp}{q:C'}{s:ab V}{i:Int}{v:V}{Q:VK}(h:H q=gV (.lst s))(e:iU s i=gV v)(g:Q v H):GE K (.ref q) (.int i) H Q:=.inl ⟨q,s,i,v,rfl,rfl,SqL.of h,e,g⟩
theorem cr(h:PE X e t):PSs X [.Return (gV e) pos] (Ek t):=ap<|Ie h
end
theorem Ju(h:PE X e t)(k:PE X e u):PE X e (λa H Q=>t a H Q\/u a H Q):=λP s a H Q I z=>z.elim (h P s a H Q I)<|k P s a H Q I
end L2
namespace OD
open PySem L2
def Jv(h:N6)(s:ab Int)(b:ab N6):Prop:=∀l∈s,hit b l=h
theorem vi:∀{n:Nat},r∈bo H d o v n->∃k,k<n/\r∈cN H (o.getD k []) v (bS d o k)
 |0,h=>nomatch h
 |n+1,h=>by
  obtain h|h:=OB.mp h
  ·obtain⟨k,a,z⟩:=vi h;exact⟨k,QF a,z⟩
  exact⟨n,by simp,h⟩
theorem wX:∀{n k:Nat},k<n->(∃r∈cN H (o.getD k []) v (bS d o k),p r=NU)->∃a r,a<=k/\r∈cN H (o.getD a []) v (bS d o a)/\p r=NU/\(bo H d o v n).find? p=gV r
 |0,k,h,_=>by simp_all
 |n+1,k,h,⟨r,c,f⟩=>by
  show∃a r,a<=k/\_/\_/\(bo H d o v n++cN H _ v _).find? p=gV r
  rw[Up];by_cases i:k<n
  ·obtain⟨a,b,Z,z,j,l⟩:=wX i ⟨r,c,f⟩;exact⟨a,b,Z,z,j,by rw[l];rfl⟩
  have e:k=n:=by lia
  subst e;cases g:(bo H d o v k).find? p with
  |some b=>
   obtain⟨a,Z,z⟩:=vi<|RL g;exact⟨a,b,OQ Z,z,W3 g,rfl⟩
  |none=>
   cases G:(cN H _ v<|bS d o k).find? p with
   |none=>exact absurd f<|TU.mp G r c
   |some b=>exact⟨k,b,N1 _,RL G,W3 G,rfl⟩
theorem qM(h:1<=absI l)(H:absI l<=(b.length:Int)):hit b (-l)=!hit b l:=by
 have e:absI (-l)=absI l:=by
  obtain⟨z,e⟩|⟨z,e⟩:=aB l<;>obtain⟨z,E⟩|⟨z,E⟩:=aB (-l)<;>lia
 have d:decide (0 < -l)=!decide (0<l):=by
  by_cases g:0<l
  ·rw[Ob g,N3<|by lia];rfl
  rw[N3 g,Ob (by obtain⟨z,e⟩|⟨z,e⟩:=aB l<;>lia)];rfl
 unfold hit;rw[e,d,K' (by lia)];lia
theorem tX(h:hit (b.take n) l=NU):hit b l=true:=by
 by_cases g:(absI l-1).toNat<n
 ·unfold hit at h ⊢;rwa[Pn g]at h
 unfold hit at h;rw[O3<|by rw[OC];exact O6 (Nat.min_le_left _ _) (Zx g)]at h;cases h
theorem wY(h:(absI l-1).toNat<n):hit (b.take n) l=hit b l:=by
 unfold hit;rw[Pn h]
theorem za(h:formB w n d=NU):∃r,d=.tuple (.str w::r)/\r.length+1=n:=by
 cases d with
 |tuple D=>
  unfold formB at h;rw[Pf]at h;cases D with
  |nil=>cases h.2
  |cons x r=>
   have H:ny w x=true:=h.2;cases x with
   |str y=>
    have:=Oo H;subst this;exact⟨r,rfl,Oo h.1⟩
   |_=>cases H
 |_=>cases h
theorem Bz(n:∀c∈s,ar t.length c)(h:aI t C w s d=gV c):
  (w=NZ/\c∈C)\/(w=NU/\∀k∈C,∃l∈c,l∈k)\/(∃i j z,i<s.length/\j<s.length/\1<=z/\z<=(t.length:Int)/\(∀l∈s.getD i [],l=z\/l∈c)/\∀l∈s.getD j [],l=-z\/l∈c)\/∃i,i<s.length/\nE d=gV i/\c=aG t w (s.getD i []):=by
 unfold aI at h
 split at h
 ·rename_i o;rw[Pf]at o;unfold ji at h;obtain⟨i,e,rfl⟩:=P9.mp h;refine .inl ⟨by simpa using o.1,?_⟩;rw[A',K' (bA e).1];exact Rb _
 split at h
 ·rename_i p;rw[Pf]at p;unfold lK at h
  split at h
  ·rename_i g;cases h;rw[Pf]at g;refine .inr<|.inl ⟨p.1,λk A=>?_⟩;obtain⟨l,H,b⟩:=OR.mp<|O0.mp g.2 k A;exact⟨l,H,N'.mp b⟩
  simp_all
 split at h
 ·unfold dF at h;cases E:aU s.length (iV d 1)with
  |none=>simp_all
  |some i=>
  cases a:aU s.length (iV d 2)with
  |none=>simp_all
  |some j=>
  rw[E,a]at h;cases u:iV d 3 with
  |int z=>
   rw[u]at h;have f:(if eB t w (s.getD i []) (s.getD j []) z=NU then gV (bH (s.getD i []) (s.getD j []) z)else N4)=gV c:=h
   split at f
   ·rename_i g;cases f;have M:=n _ (show s.getD i []∈s by rw[A',K' (bA E).1];exact Rb _);have v:=n _ (show s.getD j []∈s by rw[A',K' (bA a).1];exact Rb _);unfold eB at g;simp only[Pf,N',eX]at g;obtain⟨⟨B,G,_⟩,D,F,I⟩:=g;have J:di (s.getD i []) (s.getD j []) z=false:=by
     lia
    have y:=(dj M.1 v.1 J).2;have Q:absI z=z:=absI_pos (by lia);have e:absI (-z)=z:=by
     obtain⟨_,L⟩|⟨_,L⟩:=aB (-z)<;>lia
    refine .inr<|.inr<|.inl ⟨i,j,z,(bA E).1,(bA a).1,B,G,λl H=>?_,λl H=>?_⟩
    ·by_cases q:absI l=z
     ·exact .inl (M.1.inj H D<|by simp_all)
     exact .inr<|(y l).mpr ⟨.inl H,q⟩
    by_cases q:absI l=z
    ·exact .inl (v.1.inj H F<|by simp_all)
    exact .inr<|(y l).mpr ⟨.inr H,q⟩
   simp_all
  |_=>simp_all
 split at h
 ·rename_i N;obtain⟨r,rfl,H⟩:=za N
  match r,H with
  |[x],_=>
   obtain⟨i,e,rfl⟩:=P9.mp h;obtain⟨O,P⟩:=bA e;have m:x=.int (i):=P;subst m;refine .inr<|.inr<|.inr ⟨i,O,?_,rfl⟩;rfl
 simp_all
theorem lF{z:Int}(h:1<=z):1+(((z-1).toNat:Nat):Int)=z:=by
 rw[Int.toNat_of_nonneg (Int.sub_nonneg_of_le h),Int.add_comm,Int.sub_add_cancel]
theorem zb(hc:∀c∈cs,ar t.length c)(y:bE t cs w [] D=(o,NU))(hl:B.length=t.length)
  (hp:∀i r,i<t.length->bJ t i=w->(bo w D o (1+(i:Int)) D.length).find? (λr=>r.1.all<|hit<|B.take i)=gV r->B[i]?=gV r.2):∀k,k<o.length->Jv w (o.getD k []) B->bI cs B=w:=by
 have ac:o.length=D.length:=by
  have:=cM y;simpa using this
 have u:∀c∈o,ar t.length c:=by
  have:=fG (w:=w) hc (D:=D) (s:=[]) (by simp);rw[y]at this;exact this
 intro k
 induction k using Nat.strongRecOn with
 |ind k ih=>
 intro Q v;by_cases W:∃f,f<k/\Jv w (o.getD f []) B
 ·obtain⟨f,A,H⟩:=W;exact ih f A (WO A Q) H
 have A:=nG y<|getD_some (d:=Qj) (show k<D.length by exact Pb Q (Ui ac));have C:∀{i:Nat},i<k->(o.take k).getD i []=o.getD i []:=λ{i} q=>by simp_all
 have X:(o.take k).length=k:=by grind
 have N:∀{f:Nat},f<k->¬Jv w (o.getD f []) B:=λh z=>W ⟨_,h,z⟩;obtain⟨rfl,h⟩|⟨rfl,h⟩|⟨i,j,z,q,E,hz,am,a,b⟩|⟨i,q,hd,e⟩:=Bz (λc h=>u c<|QQ h) A
 ·refine Ur.mpr ⟨_,h,λz=>?_⟩;obtain⟨l,H,p⟩:=OR.mp z;rw[v l H]at p;cases p
 ·refine O0.mpr λc Zz=>?_;obtain⟨l,H,p⟩:=h c Zz;exact OR.mpr ⟨l,p,v l H⟩
 ·rw[X]at q E;rw[C q]at a;rw[C E]at b;have az:absI z=z:=absI_pos (by lia);have n:=Fb (b:=B) (l:=z) (by simp_all) (by simp_all);exfalso;by_cases g:hit B z=w
  ·refine N q λl h=>?_;obtain rfl|h:=a l h
   ·exact g
   exact v l h
  refine N E λl h=>?_;obtain rfl|h:=b l h
  ·rw[n];revert g;cases hit B z<;>cases w<;>simp
  exact v l h
 rw[X]at q;rw[C q]at e;have ok:=dZ u (show i<o.length by exact WO q Q);exfalso;refine N q λl m=>?_;by_cases U:l∈o.getD k []
 ·exact v l U
 have F:ik t w (o.getD i [])<absI l:=by
  refine Ww λg=>U ?_;rw[e];exact Oq.mpr ⟨m,Ob g⟩
 have O:=tN m F;have r1:=ok.2 l m;have ei:=lF r1.1
 have T:bS D o k=(o.getD i []).filter λl=>!(o.getD k []).contains l:=by
  unfold bS;rw[hd]
 have Y:∀L∈o.getD k [],(absI L-1).toNat<(absI l-1).toNat:=λL H=>by
  rw[e]at H;have p:=Oo (Oq.mp H).2;have h4:=(ok.2 L (Oq.mp H).1).1;lia
 have G:(lO w l<|o.getD k []).1.all (hit<|B.take (absI l-1).toNat)=true:=by
  refine O0.mpr λL H=>?_;unfold lO at H
  split at H
  ·rename_i d;rw[wY<|Y L H,v L H,d]
  rename_i I;obtain⟨s,p,rfl⟩:=OT.mp H;have e3:absI (-s)=absI s:=by
   obtain⟨_,e⟩|⟨_,e⟩:=aB s<;>obtain⟨_,e'⟩|⟨_,e'⟩:=aB (-s)<;>lia
  have m3:s∈o.getD i []:=by
   rw[e]at p;exact(Oq.mp p).1
  have r3:=ok.2 s m3;rw[wY (by rw[e3];exact Y s p),Fb r3.1 (by simp_all),v s p];lia
 obtain⟨f,r,z1,z2,z3,z4⟩:=wX (H:=w) (d:=D) (o:=o) (v:=absI l) (p:=λr=>r.1.all<|hit<|B.take (absI l-1).toNat) (n:=D.length) (k:=k) (by simp_all)
  ⟨lO w l<|o.getD k [],OT.mpr ⟨l,by grind,rfl⟩,G⟩
 obtain⟨x,h5,rfl⟩:=OT.mp z2;obtain⟨h6,J⟩:=Oq.mp h5;have J:=Oo J;have ek:f=k:=by
  refine Nat.le_antisymm z1<|Zx λRH=>N RH λL H=>?_;have Z:=O0.mp z3;unfold lO at Z;by_cases d:w=NU
  ·rw[Oi d]at Z;rw[tX<|Z L H,d]
  rw[Oh d]at Z;have h8:=tX<|Z (-L)<|OT.mpr ⟨L,H,rfl⟩;have M:=(dZ u (show f<o.length by exact Q_ z1 Q)).2 L H;rw[Fb M.1<|by simp_all]at h8;lia
 subst ek;rw[T]at h6;have el:x=l:=ok.1.inj (Oq.mp h6).1 m J;subst el;have P:=hp (absI x-1).toNat _ (by lia) O (by rw[ei];exact z4);unfold hit;rw[P];show(_ == decide (0<x))=w
 unfold lO;cases w with
 |true=>simp
 |false=>
  show(decide (x<0) == decide (0<x))=NZ
  obtain⟨_,e⟩|⟨_,e⟩:=aB x
  ·rw[N3 (Int.not_lt_of_ge ‹_›),Ob<|by lia];rfl
  rw[Ob ‹_›,N3<|by exact Int.not_lt_of_ge (hY ‹_›)];rfl
theorem zc(a:∀c∈C,ar t.length c)(f:bE t C h [] d=(o,NU))(g:[]∈o)(l:b.length=t.length)
  (p:∀i r,i<t.length->bJ t i=h->(bo h d o (1+(i:Int)) d.length).find? (λr=>r.1.all<|hit<|b.take i)=gV r->b[i]?=gV r.2):bI C b=h:=by
 obtain⟨k,H,e⟩:=Rq g;refine zb a f l p k H ?_;rw[A',K' H,e];exact λy z=>nomatch z
end OD
namespace L2
open PySem PySem.Spec PyProof.Rows
theorem qN{P:ab M'->Prop}(h:∀x u,u.length=n->P (x::u))(u:ab M')(e:u.length=n+1):P u:=by
 obtain⟨x,r,rfl⟩:=List.exists_cons_of_length_eq_add_one e;exact h x r<|Nat.succ.inj e
theorem qO{P:ab M'->Prop}(h:P [])(u:ab M')(e:u.length=0):P u:=by
 simp_all
structure DA (mg:Str->NW M')(K:B')(x:Str)(st:Pk)(f:C')(fd:Oc):Prop where
 F:Fun K x x st f fd
 a:mg x=gV (.ref f)
structure DM (K:B')(C:C')(m q:Str)(st:Pk)(f:C')(fd:Oc):Prop where
 F:Fun K m q st f fd
 a:O4 K (.ref C) m=gV (gV<|.ref f)
 i:Vi K (.ref f)=NU
section
variable (P:Of)(w:OE)(base:O5){K:B'}{mg:Str->NW M'}{x m q:Str}{st:Pk}{f C:C'}{fd:Oc}{k:Nat}{ps:ab Str}{sp:Sp}
abbrev MA(x q:Str)(st:Pk)(ps:ab Str):Prop:=∀(kV Y p:M') (a:NW C') (Q c:M') (u:ab M'),u.length=ps.length->YO (Rh x q (eQ st) (cc st) (aw st) .none kV Y p a Q c) ⟨u,[]⟩=pure (ps.zip u)
theorem DA.of{h:O5}(X:K.In h)(G:h.Ns OS mg)(a:Pj K OS x=gV (gV<|.ref f))(F:Fun K x x st f fd):DA mg K x st f fd:=⟨F,Rg X G a⟩
theorem DM.of(a:O4 K (.ref C) m=gV (gV<|.ref f))(i:Vi K (.ref f)=NU)(F:Fun K m q st f fd):DM K C m q st f fd:=⟨F,a,i⟩
theorem Fun.bs(F:Fun K x q st f fd)(b:MA x q st ps:=by intro z z z z z z;(repeat' refine qN λz=>?_);exact qO rfl):Binds K fd ps []:=F.binds b
theorem DA.fn(D:DA mg K x st f fd)(o:ao P w K mg base aP k f fd ps sp)(b:MA x x st ps:=by intro z z z z z z;(repeat' refine qN λz=>?_);exact qO rfl):Fn P w K mg base k x f fd ps sp:=⟨o,D.F.binds b,D.F.kp,D.a⟩
theorem DM.mt{c:At}(D:DM K C m q st f fd)(l:Cls K C)(o:ao P w K mg base c k f fd ps sp)(b:MA m q st ps:=by intro z z z z z z;(repeat' refine qN λz=>?_);exact qO rfl):rX P w K mg base c k C m f fd ps sp:=⟨o,D.F.binds b,l,⟨D.a,D.i,D.F.kp⟩⟩
end
section
variable (P:Of)(w:OE)(base:O5)
theorem DA.fe{K:B'}{m:Str->NW M'}{x:Str}{st:Pk}{f:C'}{d:Oc}{k:Nat}{p:ab Str}{s:Sp}(D:DA m K x st f d)(o:ao P w K m base aP k f d p s)(b:MA x x st p:=by intro z z z z z z;(repeat' refine qN λz=>?_);exact qO rfl):Fe P w K m base k x s:=⟨_,_,_,o,D.F.binds b,D.F.kp,D.a⟩
end
theorem funL_mk{K:B'}{x q:Str}{st:Pk}{f c:C'}{O:M'}{b a:NW C'}{o:Qp (NW M')}{kV Z p C:M'}(l:K.lookup f=gV ⟨O,b,.func<|Rh x q (eQ st) (cc st) (aw st) .none kV Z p a (.ref c) C,o⟩)
  (d:Ub K (.ref c) q=NU):FunL K x q st f (Rh x q (eQ st) (cc st) (aw st) .none kV Z p a (.ref c) C) c:=⟨O,b,kV,Z,p,a,C,o,rfl,l,d⟩
end L2
namespace OD
open PySem L2
theorem BA(h:b[(absI l-1).toNat]?=c[(absI l-1).toNat]?):hit b l=hit c l:=by unfold hit;rw[h]
theorem wZ(d:∀c∈C,∀l∈c,1<=absI l)(f:1<=absI z)(i:∀j,j≠(absI z-1).toNat->b[j]?=u[j]?) (v:hit b z=NU) (h:bI (behind z C) u=NU):bI C b=true:=
 eH.mpr λc a=>by
  by_cases m:z∈c
  ·exact⟨z,m,v⟩
  obtain⟨l,k,g⟩:=eH.mp h _<|fx.mpr ⟨c,a,m,rfl⟩;obtain⟨H,n⟩:=gy.mp k;exact⟨l,H,by rwa[BA<|i _<|Jn (d c a l H) f (λe=>m<|e▸H) n]⟩
theorem w_(a:1<=absI z)(d:absI z<=(b.length:Int))(e:hit b z=NU)(h:bI C b=NU):bI (behind z C) b=true:=by
 refine eH.mpr λk f=>?_;obtain⟨c,m,y,rfl⟩:=fx.mp f;obtain⟨l,H,g⟩:=eH.mp h c m;refine⟨l,gy.mpr ⟨H,λq=>?_⟩,g⟩;rw[q,Fb a d,e]at g;cases g
theorem BB(a:1<=absI z)(d:absI z<=(b.length:Int))(f:[z]∈C)(h:bI C b=NU):bI (behind z C) b=true:=by
 have e:hit b z=true:=by
  obtain⟨l,m,g⟩:=eH.mp h _ f;rwa[N9.mp m]at g
 refine eH.mpr λk i=>?_;obtain⟨c,m,y,rfl⟩:=fx.mp i;obtain⟨l,H,g⟩:=eH.mp h c m;refine⟨l,gy.mpr ⟨H,λq=>?_⟩,g⟩;rw[q,Fb a d,e]at g;cases g
end OD
namespace L2
open PySem PySem.Spec PyProof.Rows
structure Bl (mg:Str->NW M'):Prop where
 len:mg "len"=N4
 range:mg "range"=N4
 tuple:mg "tuple"=N4
 sorted:mg "sorted"=N4
 isinstance:mg "isinstance"=N4
 int:mg "int"=N4
 bool:mg "bool"=N4
 list:mg "list"=N4
 abs:mg "abs"=N4
 all:mg "all"=N4
 zip:mg "zip"=N4
 set:mg "set"=N4
 any:mg "any"=N4
 max:mg "max"=N4
 enumerate:mg "enumerate"=N4
 dict:mg "dict"=N4
 min:mg "min"=N4
 g_WISHER:jI mg "WISHER" (.str<|NV "wisher")
 g_SPOILER:jI mg "SPOILER" (.str<|NV "spoiler")
section
variable {X:Cx}{x:Str}{pos TL:Pos}
theorem sT{e:Pl}{t:TE}(i:Nat)(h:PE X e t)(H:X.N.Nodup:=by exact ee.nd<|by assumption)(a:X.N[i]?=gV x:=by exact nn) (b:Ia X.env.scope x:=by first|exact Zt rfl|exact Wa rfl) (s:Vn e (gV<|.Name x TL) pos.line X.env=pure false:=by rfl) (f:X.fn x=NU\/X.env.scope.names.lookup x=gV .local:=by first|exact .inl rfl|exact .inr rfl|assumption):
  PS X (.Assign [.Name x TL] e pos) (Ii t<|df i):=Ij H a b h s f
theorem fS{s:Pl}{w:TI}{t:TS}{b:ab Pk}(i:Nat)(h:PI X (.Name x TL) s w)(H:PSs X b t)(p:oz (OI X.prog X.w) X.A X.env X.xe:=by exact Pt)(c:X.calm=true:=by rfl)(g:PG X (.Name x TL) (df i):=by exact mq _<|ee.nd<|by assumption)(a:∀x,RS s X.env x=pure x:=by intro z;rfl):
  PS X (.For (.Name x TL) s b [] pos) (Kz w (df i) t):=dP p c h g H a
end
theorem kA{p:Prop}(h:p:=by first|exact ku (Room.units ‹_›)|exact u5 (Room.units ‹_›)|exact Am|exact wq|exact ph|exact jz|exact Gz|exact GA|exact Al|exact Iu|exact Iw|exact Et|exact Ix|exact Iy|exact Iz|exact IA):p:=h
theorem gg{p:Prop}(h:p:=by
 repeat' (show(_:Prop);first
  |(show PSs _ _ _;first|refine' cr ?_|refine' ap ?_|refine' ae ?_ ?_|exact ay)
  |(show PS _ _ _;first|refine' aO ?_ ?_ ?_|refine' cB ?_|refine' jd ?_ ?_ rfl|refine' sT _ ?_)
  |(show PA _ _ _;first|refine' aD ?_ ?_|exact gG)
  |(show PT _ _ _;first|refine' By kA ?_ ?_|refine' eO kn ?_ ?_ (by with_unfolding_all rfl)|refine' eO gI ?_ ?_ (by with_unfolding_all rfl)|refine' PW.pt (pd ?_ ?_)|refine' PW.pt (qu ?_ ?_)|refine' gD ?_|refine' du ?_)
  |(show PW _ _ _;first|refine' pd ?_ ?_|refine' qu ?_ ?_|refine' mH ?_|refine' qt ?_)
  |(show PG _ _ _;first|exact mq _ (ee.nd ‹_›)|refine' Aj rfl ?_)
  |(show Gy _ _ _;first|refine' dw ?_ ?_|exact ma)
  |(show PI _ _ _ _;first|refine' pe rfl (Bl.range ‹_›) ?_|refine' pf rfl (Bl.range ‹_›) ?_|refine' yL rfl (Bl.range ‹_›) ?_|refine' jH rfl (Bl.enumerate ‹_›) ?_)
  |(show PO _ _ _;first|refine' ED ?_|exact dA)
  |(show PE _ (.Name _ _) _;first|exact pv _|exact bK rfl (Bl.g_WISHER ‹_›)|exact bK rfl (Bl.g_SPOILER ‹_›)|exact l_ (v:=.ty "bool") rfl (Bl.bool ‹_›) ab1 rfl|exact l_ (v:=.ty "int") rfl (Bl.int ‹_›) W_ rfl|exact l_ (v:=.ty "tuple") rfl (Bl.tuple ‹_›) P1 rfl|exact l_ (v:=.ty "list") rfl (Bl.list ‹_›) Tg rfl)
  |(show PE _ (.Call (.Name _ _) _ _ _) _;first|refine' rY ‹_› ‹_› ?_|refine' aR e_ rfl (Bl.len ‹_›) RB ?_|refine' aR sM rfl (Bl.isinstance ‹_›) U7 ?_|refine' aR su rfl (Bl.abs ‹_›) Uz ?_|refine' aR (ie rfl) rfl (Bl.any ‹_›) RJ ?_|refine' aR (mY rfl) rfl (Bl.all ‹_›) Uy ?_|refine' bv bO rfl (Bl.tuple ‹_›) P1 ?_|refine' bv jB rfl (Bl.list ‹_›) Tg ?_|refine' bv yo rfl (Bl.int ‹_›) W_ ?_|refine' Lo ‹_› ‹_› (by lia) rfl ?_)
  |(show PE _ (.Call _ _ _ _) _;first|refine' fC Pe PX Qb cK ?_ ?_|refine' IK Pe Yk PySem.F.type_list_pop IL ?_|refine' il ‹_› ?_ ‹_› (by lia) ?_|refine' Jt ‹_› ?_ ‹_› (by lia))
  |(show PE _ (.BinOp _ _ _ _) _;first|refine' cm kA ?_ ?_)
  |(show PE _ (.Compare _ _ _ _) _;first|refine' Bx kA ?_ ?_|refine' iI kn ?_ ?_ (by with_unfolding_all rfl)|refine' iI gI ?_ ?_ (by with_unfolding_all rfl))
  |(show PE _ _ _;first|exact cZ|refine' LF ?_ ?_|exact gz|exact fT|exact fN|refine' dQ ?_|refine' mM ?_|refine' As ?_ rfl|refine' kh ?_ ?_|refine' Ai ?_ ?_|refine' hO ?_|refine' Ic ?_|refine' KB IB ?_|refine' jx ?_ ?_ ?_)
  )):p:=h
theorem Fun.okB{P:Of}{w:OE}{K:B'}{m:Str->NW M'}{b:O5}{x q:Str}{st:Pk}{f:C'}{d:Oc}{N p:ab Str}{k:Nat}{a:Sp}(F:Fun K x q st f d)
  (h:∀c A o s H v Q E,ee N p (aw st)->Room k (A.deeper<|P5 q (aw st) s.heap.objs.size f c)->a v H Q E->
   ∃t,PSs (qw aP P w K m b N q (aw st) f c A o s H E).nox (cc st) t/\t {nx:=λy e=>Q .non e,rt:=Q} (start N v) H)
  (S:ee N p (aw st):=by exact Bw) (l:∀v H Q E,a v H Q E->v.length=p.length:=by intro y y y y h;repeat (first|(cases h<;>subst_vars<;>rfl)|obtain⟨y,h⟩:=h)):ao P w K m b aP (k+1) f d p a:=F.okA S (λy y y y y y y y r z=>h _ _ _ _ _ _ _ _ S r z) l
section
variable {X:Cx}{x:Str}{elt SV:Pl}{te:TE}{tt:TT}{wi:TI}{pos TL:Pos}{ifs:ab Pl}{scope:Sm}{cl:ab (Str×C')}
theorem jR(N:ab Str)(i:ab (NW Nat))(a:PI X (.Name x TL) SV wi)(S:CompSc X scope cl N i:=by exact cS)(t:∀C f s H,Je (bM X scope cl N C f s H) ifs tt:=by intro z z z z;first|exact mh|exact eR gg)(e:∀C f s H,PE (bM X scope cl N C f s H) elt te:=by intro z z z z;exact gg)(c:X.calm=true:=by rfl)
  (n:N.Nodup:=by decide+kernel) (g:∀C f s H,(bM X scope cl N C f s H).N.Nodup->PG (bM X scope cl N C f s H) (.Name x TL) (df 0):=by exact λz z z z h=>mq 0 h) (b:∀x,RS SV X.env x=pure x:=by intro z;rfl):PE X (.ListComp elt [⟨.Name x TL,SV,ifs,0⟩] scope pos) (sO i wi (df 0) tt te):=qB c S a (λz z z z=>g _ _ _ _ n) t e b
theorem GY{q:Pos}{a:Pos}{y:Str}(i:Nat)(N:ab Str)(I:ab (NW Nat))(b:PI X (.Name x TL) SV wi)(S:CompSc X scope cl N I:=by exact cS)(t:∀C f s H,Je (bM X scope cl N C f s H) ifs tt:=by intro z z z z;first|exact mh|exact eR gg)(e:∀C f s H,PE (bM X scope cl N C f s H) elt te:=by intro z z z z;exact gg)(c:X.N.Nodup:=by exact ee.nd<|by assumption)(d:X.N[i]?=gV y:=by rfl) (l:X.env.scope.names.lookup y=gV .local:=by rfl) (g:X.calm=true:=by rfl)
  (n:N.Nodup:=by decide+kernel) (j:∀C f s H,(bM X scope cl N C f s H).N.Nodup->PG (bM X scope cl N C f s H) (.Name x TL) (df 0):=by exact λz z z z h=>mq 0 h) (w:Vn (.ListComp elt [⟨.Name x TL,SV,ifs,0⟩] scope pos) (gV<|.Name y q) a.line X.env=pure true:=by with_unfolding_all rfl) (k:∀x,RS SV X.env x=pure x:=by intro z;rfl):
  PS X (.Assign [.Name y q] (.ListComp elt [⟨.Name x TL,SV,ifs,0⟩] scope pos) a) (sQ i<|sO I wi (df 0) tt te):=u7 c d l g S b (λz z z z=>j _ _ _ _ n) t e w k
end
end L2
seal L2.PE L2.PT L2.PW L2.PA L2.PS L2.PSs L2.PC L2.PG L2.Gy L2.PI L2.PO L2.OpR
namespace K75
open PySem L2 OD
noncomputable def top(i:Nat):Pk:=PySem.Challenge.pw_oathduel_k75_whole_forms_as_sentences.main.body.getD i<|.Pass ⟨0,0,0,0⟩
theorem xa(h:∀N,(∀a c,B D a c->N a c)->A {D with nx:=N} b H):oY A B D b H:=h _ λy y z=>z
noncomputable abbrev xb:Pk:=top 18
inductive eN (vs:ab V)(H:Hp)(Q:VK)(E:XK):Prop
 |mk (p:C')(t:Str)(w:V)(i:Nat)(h0:vs=[.ref p,.int<|(i:Int)+1])(h:H p=gV (.tup [.str t,w]))(a:i<t.length)(b:t.length<=900)(c:Q (.str<|ax<|bJ t i) H)
theorem zd(F:Fun K "hand_of" "hand_of" xb f d)(T:Bl m):ao P w K m B aP 1 f d ["sentence","variable"] eN:=by
 refine F.okB (N:=["sentence","variable","turns"]) λC A o s H v Q E n r h=>?_;obtain⟨p,t,w,i,rfl,c,j,u,q⟩:=h;refine⟨_,(ae gg
  (ae (aO (gD<|sm jz jz cZ (pv 1) gg) (ap d_) ay)
  gg)),?_⟩
 refine⟨_,rfl,(a_ c rfl ?_)⟩;have k:decide ((1:Int)<=(i)+1)=true:=Ob (by lia);have l:decide ((i)+1<=((t.length):Int))=true:=Ob (by lia);have W:i<t.cps.toList.length:=by
  assumption
 have a:=K' W;have b:iU t.cps.toList ((i)+1-1)=gV t.cps.toList[i]:=by
  have e:(i:Int)+1-1=(i):=by simp
  rw[e];exact aH a
 exists _,rfl,_,_,rfl,rfl,_,rfl;rw[k];refine aq ⟨_,rfl,.str t,_,rfl,⟨OQ (ai<|by lia),rfl⟩,_,_,rfl,rfl,_,rfl,?_⟩;rw[l];refine ak<|⟨_,rfl,_,rfl,_,_,rfl,rfl,.inr<|.inr ⟨t,_,_,rfl,rfl,OQ (ai<|by lia),b,.inl ⟨rfl,_,rfl,?_⟩⟩⟩;rw[GS,<-A5 a];cases g:bJ t i with
 |true=>
  rwa[g]at q
 |false=>
  rwa[g]at q
noncomputable abbrev Jw:Pk:=top 9
noncomputable abbrev LG:Pk:=top 15
noncomputable abbrev GZ:Pk:=top 24
noncomputable abbrev vj:Pk:=top 19
def xf:Sp:=λs H Q _=>∃v d,s=[v]/\RD H d v/\Q (.bl<|kB d&&!mf d) H
def G0:Sp:=λs H Q _=>∃v d m,s=[v,.int m]/\RD H d v/\Q (.bl<|qE m d) H
inductive kN (vs:ab V)(H:Hp)(Q:VK)(E:XK):Prop
 |mk (p:C')(t:Str)(w:V)(hw:N6)(h0:vs=[.ref p,.str<|ax hw])(a:H p=gV (.tup [.str t,w]))(b:t.length<=900)(c:∀(l:C') (h:Hp),Same H h->h l=gV (.lst<|(aA t hw).map V.int)->Q (.ref l) h)
def eS:Sp:=λv H Q _=>∃b:N6,v=[.str<|ax b]/\Q (.str<|ax (!b)) H
theorem cj(h:cO H d s)(l:d.length=2):∃D a x X,d=[D,a]/\s=[x,X]/\RD H D x/\RD H a X:=by
 match d,l with
 |[D,a],_=>
  obtain⟨x,r,rfl,b,k⟩:=aj h;obtain⟨X,f,rfl,c,e⟩:=aj k;obtain rfl:=bP e;exact⟨_,_,x,X,rfl,rfl,b,c⟩
inductive LH (H:Hp)(a:C')(m:Int)(ds:ab Oe)(i:Nat)(c:St)(h:Hp):Prop
 |mk (b:Int)(l:NW V)(h0:c=[gV<|.ref a,gV<|.int m,gV<|.int b,l])(d:h=H)(e:kJ m b (ds.drop i)=kJ m 0 ds)
inductive G_ (H:Hp)(D p:C')(t:Str)(hw:N6)(i:Nat)(a:St)(ys:ab V)(h:Hp):Prop
 |mk (v:NW V)(h0:a=[v,gV (.str (ax hw)),gV (.ref p)])(b:ys=(((O1 i).filter λi=>bJ t i == hw).map λ(i:Nat)=>V.int<|(i:Int)+1))(c:h=upd H D (.lst ys))
theorem LI:ee ["thing"] ["thing"] (aw Jw):=Bw
theorem Jx(F:Fun K "is_number" "is_number" Jw f c)(T:Bl m):ao P w K m b aP 1 f c ["thing"] xf:=by
 refine F.okA LI λC A o s H e Q E r h=>?_;obtain⟨v,d,rfl,a,q⟩:=h;have n:=eV a;exists _,gg;exists _,rfl,v,_,"int",_,rfl,lI d v a,wF d n,_,rfl;cases I:kB d with
 |false=>
  rwa[I]at q
 |true=>
  rw[I]at q;exact aq ⟨_,rfl,v,_,"bool",_,rfl,lI d v a,sN d n,_,rfl,q⟩
theorem Jy(F:Fun K "is_set" "is_set" LG f N)(T:Bl M)(W:Fe P w K M B 1 "is_number" xf):ao P w K M B aP 2 f N ["thing","most"] G0:=by
 refine F.okB (N:=["thing","most","behind","literal"]) λX A o s H Y Q E Z hr h=>?_;obtain⟨v,d,m,rfl,p,q⟩:=h;have O:=eV p;refine⟨_,(ae gg
  (ae gg
  (ae (fS 3 (bQ<|pv 0) (ae (aO (PW.pt<|pd gg<|mH<|gD<|sm ph jz (pv 2) gg<|pv 1) (cr fT) ay)
   gg))
  (cr fT)))),?_⟩
 exists _,rfl,v,_,"tuple",_,rfl,lI d v p,kC d O,_,rfl;cases d with
 |tuple D=>
  refine ak ?_;obtain⟨a,x,rfl,u,G⟩:=al p;have P1:=ci G;refine⟨_,rfl,a,rfl,⟨_,SqT.of u⟩,dz (K:=K) (a:=a) (X:=x) (LH H a m D)
   ⟨0,N4,rfl,rfl,rfl⟩ (λi I J V U=>by obtain⟨V,V,V,e,V⟩:=U;rw[e];exact SqT.of u) ?_ ?_⟩
  ·rintro i y I J L ⟨b,l,rfl,rfl,c⟩;have Wy:i<x.length:=(NT.mp L).1;have r:=cL G L;rw[yM Qj<|by lia]at c;exists _,rfl,y,_,rfl,r,_,rfl;obtain⟨z,n⟩|n:=ng (D.getD i .none)
   ·rw[n]at r c ⊢;obtain rfl:=aJ r;refine ak ?_;exists _,rfl,_,rfl,z,rfl,_,_,rfl,rfl,_,rfl;rw[nc]at c;refine fA (λt=>?_) λt=>?_
    ·have C:b<absI z:=Oo t;exists _,rfl,_,_,rfl,rfl,_,rfl;refine fA (λj=>?_) λj=>?_
     ·have k:¬absI z<=m:=λg=>by
       have e:decide (absI z<=m)=true:=Ob g;rw[show decide ((if z<0 then -z else z)<=m)=NU from e]at j;cases j
      rw[Oh<|by simp_all]at c;show Q (.bl NZ) _
      rw[show qE m (.tuple D)=kJ m 0 D from rfl,<-c]at q;exact q
     have k:absI z<=m:=aaR λg=>by
      have e:decide _=false:=N3 g;rw[show decide ((if z<0 then -z else z)<=m)=NZ from e]at j;exact j rfl
     rw[Oi ⟨C,k⟩]at c;exists _,rfl,z,rfl;exact⟨absI z,gV<|.int z,rfl,rfl,c⟩
    have C:=λg=>t<|Ob g;rw[Oh λg=>C g.1]at c;refine⟨_,rfl,aq ?_⟩;show Q _ _
    rw[show qE m _=kJ m 0 D from rfl,<-c]at q;exact q
   rw[ml n];rw[tu n]at c;rwa[show qE m _=kJ m 0 D from rfl,<-c]at q
  ·rintro I J ⟨b,l,rfl,rfl,c⟩;rw[List.drop_eq_nil_of_le<|by lia]at c;rwa[show qE m _=kJ m 0 D from rfl,<-c]at q
 |_=>exact aq q
theorem Fo(F:Fun K "variables_of" "variables_of" GZ f r)(T:Bl m)(Z:Fe P w K m b 1 "hand_of" eN):ao P w K m b aP 2 f r ["sentence","hand"] kN:=by
 refine F.okB (N:=["sentence","hand"]) λC A o s H x Q E B I h=>?_;obtain⟨p,t,w,a,rfl,d,u,q⟩:=h;exists _,(cr<|jR ["variable","hand","sentence"] [N4,gV 1,gV 0] gg);refine⟨_,rfl,(a_ d rfl ⟨.str t,_,rfl,⟨OQ (cg<|by lia),rfl⟩,_,_,rfl,rfl,⟨_,_,rfl,by lia,λD e=>?_⟩⟩)⟩;have n:((t.length:Int)+1-1).toNat=t.length:=by simp
 refine fb (G_ H D p t a)
  ⟨N4,rfl,rfl,rfl⟩ ?_ ?_ ?_
 ·rintro i j y k Y ⟨Y,Y,Y,rfl⟩;exact aa
 ·rintro i j y k l ⟨J,rfl,rfl,rfl⟩;rw[n]at l;have c:=ad e (.lst<|((O1 i).filter λi=>bJ t i == a).map λ(i:Nat)=>V.int<|(i)+1) _ _ d;have v:(1:Int)+(i)=(i)+1:=by lia
  rw[v];refine⟨_,rfl,_,rfl,p,t,w,i,rfl,c,l,u,_,rfl,.inl ⟨rfl,_,rfl,?_⟩⟩;rw[dD];by_cases G:bJ t i=a
  ·have g:(bJ t i == a)=true:=by simp_all
   rw[Ob G];refine aq ⟨_,rfl,aa,?_,_,rfl,?_,gx⟩
   ·have:=Ph (λi=>bJ t i == a)<|O1 i;rw[Pm]at this;rw[J'];exact cg (by lia)
   rw[Q3,Qc,PH (p:=λi=>bJ t i == a) g,Oy];rfl
  rw[N3 G];refine ak ⟨_,rfl,?_,rfl⟩;rw[Q3,Qc,PJ λz=>G<|by simpa using z];simp
 rintro j y k ⟨Y,Y,rfl,rfl⟩;refine q D _ (ad e _) ?_;rw[aa,n];unfold aA;rw[O_];rfl
theorem Fp:ee ["hand"] ["hand"] (aw vj):=Bw
theorem BC(F:Fun K "other_hand" "other_hand" vj f d)(T:Bl m):ao P w K m B aP 1 f d ["hand"] eS:=by
 refine F.okA Fp λC A o s H v Q E r h=>?_;obtain⟨b,rfl,q⟩:=h;exists _,gg;refine⟨_,rfl,.inl ⟨rfl,_,rfl,?_⟩⟩;cases b with
 |true=>exact aq q
 |false=>exact ak q
noncomputable abbrev Ha:Pk:=top 26
noncomputable abbrev xg:Pk:=top 27
noncomputable abbrev tY:Pk:=top 28
def jw(H:Hp)(p:C')(c:ab Int):Prop:=H p=gV (.tup<|c.map V.int)
inductive vk (vs:ab V)(H:Hp)(Q:VK)(E:XK):Prop
 |mk (p q:C')(f s:ab Int)(v:Int)(h0:vs=[.ref p,.ref q,.int v])(a:jw H p f)(b:jw H q s)(c:f.length<=60)(d:s.length<=60)(e:∀h,Same H h->Q (.bl<|di f s v) h)
inductive im (vs:ab V)(H:Hp)(Q:VK)(E:XK):Prop
 |mk (p q:C')(f s:ab Int)(v:Int)(h0:vs=[.ref p,.ref q,.int v])(a:jw H p f)(b:jw H q s)(c:f.length+s.length<=60)(d:Ups f)(e:Ups s)(g:di f s v=NZ)(i:∀(l:C') (r:ab Int) (h:Hp),Same H h->Joins f s v r->jw h l r->Q (.ref l) h)
inductive dR (vs:ab V)(H:Hp)(Q:VK)(E:XK):Prop
 |mk (p q:C')(t:Str)(w:V)(hw:N6)(c:ab Int)(h0:vs=[.ref p,.str<|ax hw,.ref q])(a:H p=gV (.tup [.str t,w]))(b:t.length<=900)(d:jw H q c)(e:c.length<=60)(f:(∀l∈c,1<=absI l/\absI l<=(t.length:Int)))(g:∀(l:C') (h:Hp),Same H h->jw h l (aG t hw c)->Q (.ref l) h)
theorem bC(c:ab Int):(c.map V.int).all iX=true:=by
 rw[R0];exact O0.mpr λz z=>rfl
theorem Fq{a:Type}(l:ab a)(f:a->N6):((l.map λx=>V.bl<|f x).all qC)=NU/\(l.map λx=>V.bl<|f x).any g8=l.any f:=by
 refine⟨by rw[R0];exact O0.mpr λz z=>rfl,?_⟩;rw[S8];rfl
theorem tZ(c:ab Int)(p:Int->N6)(f:Int->V):((c.map V.int).filter<|A2 p).map (GR f)=(c.filter p).map f:=by
 induction c with
 |nil=>rfl
 |cons x r i=>
  rw[OH];by_cases h:p x=NU
  ·rw[PH (a:=V.int x) h,PH h,OH,i];rfl
  rw[PJ (a:=V.int x) h,PJ h,i]
theorem Fs{K:B'}{H:Hp}{p:C'}{n:ab Int}{Q:VK}(h:SqL K H p (n.map V.int))(b:∀a∈n,0<=a)(q:Q (.int<|n.foldl max 0) H):Bd K (.ref p) (.int 0) H Q:=
 ⟨p,n,rfl,h,λe=>by simp_all,λM m c=>by rwa[Ji b (.inl m) c<|b M m]at q⟩
theorem Ft(l:Int):0<=absI l:=by
 obtain⟨z,e⟩|⟨z,e⟩:=aB l<;>lia
theorem Fu(F:Fun K "stands_both_ways" "stands_both_ways" Ha f i)(T:Bl m):ao P w K m B aP 1 f i ["first","second","variable"] vk:=by
 refine F.okB (N:=["first","second","variable"]) λC A o s H t Q E u y h=>?_;obtain⟨p,q,f,s,v,rfl,c,j,G,I,n⟩:=h;exists _,(cr<|aR (ie rfl) rfl T.any RJ<|gY<|jR ["literal","second","variable"] [N4,gV 1,gV 2] (bQ<|pv 0) (e:=λZ Z Z Z=>(iI (ff rfl) gg (pv 1)<|by rfl)));refine⟨_,rfl,p,rfl,⟨_,SqT.of c⟩,λD d=>cz [gV<|.ref q,gV<|.int v] (A2 λl=>!decide (absI l=v)) (GR λl=>.bl<|s.contains (-l)) rfl c d (by rw[J'];lia) ?_ ?_ ?_⟩
 ·intro x a b R k r;obtain⟨z,Z,rfl⟩:=cX a;refine⟨_,rfl,z,rfl,_,rfl,.inl ⟨rfl,_,rfl,?_⟩⟩;have e:decide (V.int (absI z)=V.int v)=decide (absI z=v):=by
   simp
  have g:R (!decide _) b:=r;rwa[<-e]at g
 ·intro x a Z b R k r;obtain⟨z,Z,rfl⟩:=cX a;exists _,rfl,_,rfl,_,rfl,q,_,rfl,.inr<|SqT.of<|k _ _ j,rfl,bC s;show R _ b
  rwa[bq]
 rw[tZ];have e:=Fq (f.filter λl=>!decide (absI l=v)) λl=>s.contains (-l);exists D,_,rfl,SqL.of aa,e.1;rw[e.2];exact n _<|ad d _
theorem CB(k:Same H (upd H a o)):upd H a o a=gV o:=aa
theorem ze(F:Fun K "joined" "joined" xg f fd)(T:Bl mg):ao P w K mg J aP 1 f fd ["first","second","variable"] im:=by
 refine F.okB (N:=["first","second","variable","both"]) λQC A o s H vs Q E sc hr h=>?_;obtain⟨p,q,f,s,v,rfl,M,N,h9,hf,hs,hb,q'⟩:=h;refine⟨_,(ae (sT 3<|cm eK gg<|jR ["literal","first"] [N4,gV 0] (bQ<|pv 1) (t:=λS S S S=>(eR<|eO (i_ (K:=K) rfl) (pv 0) (pv 1)<|by rfl)))
  (cr<|bv bO rfl T.tuple P1<|gY<|jh rfl T.sorted rfl T.abs<|jR ["literal","variable"] [N4,gV 2]<|aT<|pv 3)),?_⟩
 refine⟨_,rfl,p,_,rfl,.inr<|SqT.of M,λL j=>?_⟩;have a:=ad j<|.lst<|f.map V.int;have O:=CB a;generalize upd H L (.lst<|f.map V.int)=U at a O;refine⟨_,rfl,q,rfl,⟨_,SqT.of<|a _ _ N⟩,λD W=>?_⟩;refine cz [gV<|.ref p] (A2 λl=>!f.contains l) (λx=>x) rfl (a _ _ N) W (by rw[J'];lia) ?_ ?_ ?_
 ·intro x b c R k r;obtain⟨z,S,rfl⟩:=cX b;exists _,rfl,_,rfl,p,_,rfl,.inr<|SqT.of<|k _ _<|a _ _ M,rfl,bC f,_,rfl;show R (!jg (.int z) (f.map V.int)) c
  rw[bq];exact r
 ·intro x b S c R k r;exact⟨_,rfl,r⟩
 rw[dh s (λl=>!f.contains l) _ λi=>rfl];have m:=ad W<|.lst<|(s.filter λl=>!f.contains l).map V.int;have X:=CB m;generalize upd U D (.lst<|(s.filter λl=>!f.contains l).map V.int)=Y at m X;have V0:=Ph (λl=>!f.contains l) s;refine⟨L,D,_,_,rfl,rfl,m _ _ O,X,by rw[J',J',P0];lia,λn t=>?_⟩;rw[<-Oy];have Z:=ad t<|.lst<|(f++s.filter λl=>!f.contains l).map V.int;have u:=CB Z;generalize upd Y n (.lst<|(f++s.filter λl=>!f.contains l).map V.int)=y at Z u;have ac:(f++s.filter λl=>!f.contains l).length<=60:=by rw[NX];lia
 refine⟨_,rfl,n,rfl,⟨_,SqL.of u⟩,λg d=>?_⟩;refine cE [gV<|.int v] (A2 λl=>!decide (absI l=v)) (λx=>x) rfl u d (by rw[J'];lia) ?_ ?_ ?_
 ·intro x b c R k r;obtain⟨z,S,rfl⟩:=cX b;refine⟨_,rfl,z,rfl,_,rfl,.inl ⟨rfl,_,rfl,?_⟩⟩;have e:decide (V.int (absI z)=V.int v)=decide (absI z=v):=by
   simp
  have r':R (!decide _) c:=r;rwa[<-e]at r'
 ·intro x b S c R k r;exact⟨_,rfl,r⟩
 rw[dh _ (λl=>!decide _) _ λi=>rfl];have k4:=ad d<|.lst<|(fY f s v).map V.int;have r4:=CB k4;have B:(fY f s v).length<64:=Q_ (Ph _ _) (Q_ ac (by decide));show nu _ _ (upd y g<|.lst<|(fY f s v).map _) _
 generalize upd y g _=H4 at k4 r4;exact⟨g,_,rfl,SqL.of r4,B,λL5 r C G ho=>⟨L5,_,rfl,.inl ⟨SqL.of aa,λL6 I=>q' L6 r _ ((((a.trans m).trans Z).trans k4).trans<|(ad C _).trans<|ad I _) (tF hf hs hb G ho) aa⟩⟩⟩
theorem vm(F:Fun K "dropped" "dropped" tY f I)(T:Bl M)(U:Fe P w K M B 1 "other_hand" eS)(VC:Fe P w K M B 2 "variables_of" kN):
  ao P w K M B aP 3 f I ["sentence","hand","literals"] dR:=by
 refine F.okB (N:=["sentence","hand","literals","others","last"]) λQC A O s H vs Q E sc hr h=>?_;obtain⟨p,q,t,w,b,c,rfl,J,L,m,N,g,W⟩:=h;refine⟨_,(ae gg
  (ae (sT 4<|E3 rfl rfl T.max (jR ["literal","others"] [N4,gV 3] (bQ<|pv 2) (t:=λS S S S=>(eR<|eO (ff (K:=K) rfl) gg (pv 1)<|by rfl))) cZ)
  (cr<|bv bO rfl T.tuple P1<|gY<|jR ["literal","last"] [N4,gV 4]<|bQ<|pv 2))),?_⟩
 refine⟨_,rfl,_,rfl,b,rfl,p,t,w,!b,rfl,J,L,λl v j X=>?_⟩;refine⟨_,rfl,q,rfl,⟨_,SqT.of<|j _ _ m⟩,λD y=>?_⟩;refine cz [gV<|.ref l] (A2 λz=>(aA t (!b)).contains<|absI z) (GR λz=>.int<|absI z) rfl (j _ _ m) y (by rw[J'];lia) ?_ ?_ ?_
 ·intro x d n R k r;obtain⟨z,S,rfl⟩:=cX d;exists _,rfl,z,rfl,_,rfl,l,_,rfl,.inl<|SqL.of<|k _ _ X,rfl,bC _,_,rfl;show R (jg (.int<|absI z)<|(aA t (!b)).map V.int) n
  rw[bq];exact r
 ·intro x d S n R k r;obtain⟨z,S,rfl⟩:=cX d;exact⟨_,rfl,z,rfl,r⟩
 have e:((c.map V.int).filter<|A2 λz=>(aA t (!b)).contains<|absI z).map (GR λz=>.int<|absI z)=((c.filter λl=>!(bJ t (absI l-1).toNat == b)).map absI).map V.int:=by
  rw[tZ,O_];have:(c.filter λz=>(aA t (!b)).contains<|absI z)=c.filter λl=>!(bJ t (absI l-1).toNat == b):=Uq λz C=>E4 (g z C).1 (g z C).2;rw[this];rfl
 rw[e];have o:=ad y<|.lst<|((c.filter λl=>!(bJ t (absI l-1).toNat == b)).map absI).map V.int;have G:=CB o;generalize upd v D (.lst<|((c.filter λl=>!(bJ t _ == b)).map _).map _)=H2 at o G;unfold tC;refine Fs (n:=(c.filter λl=>!(bJ t _ == b)).map _) (SqL.of G) (λa Y=>?_) ?_
 ·obtain⟨z,S,rfl⟩:=OT.mp Y;exact Ft z
 refine⟨_,rfl,q,rfl,⟨_,SqT.of<|o _ _<|j _ _ m⟩,λD2 Z=>cz [gV<|.int<|ik t b c] (A2 λl=>decide (absI l<=ik t b c)) (λx=>x) rfl (o _ _<|j _ _ m) Z (by rw[J'];lia) ?_ ?_ ?_⟩
 ·intro x d n R k r;obtain⟨z,S,rfl⟩:=cX d;exact⟨_,rfl,z,rfl,_,rfl,_,_,rfl,rfl,_,rfl,r⟩
 ·intro x d S n R k r;exact⟨_,rfl,r⟩
 rw[dh c _ _ λi=>rfl];exact⟨D2,_,rfl,.inl ⟨SqL.of aa,λL3 u=>W L3 _ (((j.trans o).trans<|ad Z _).trans<|ad u _) aa⟩⟩
noncomputable abbrev BD:Pk:=top 10
noncomputable abbrev sForm:Pk:=top 11
noncomputable abbrev BE:Pk:=top 52
noncomputable abbrev BF:Pk:=top 57
noncomputable abbrev BG:Pk:=top 56
inductive jS (vs:ab V)(H:Hp)(Q:VK)(E:XK):Prop
 |mk (v:V)(d:Oe)(many:Nat)(h0:vs=[v,.int (many:Int)])(h:RD H d v)(a:Q (.bl (aU many d).isSome) H)
inductive PForm (vs:ab V)(H:Hp)(Q:VK):Prop
 |mk (v:V)(d:Oe)(w:Str)(n:Nat)(h0:vs=[v,.str w,.int (n:Int)])(h:RD H d v)(a:1<=n)(b:Qf (.str w)=NU)(c:(∀ds,d=.tuple ds->Qf (ds.getD 0 .none)=NU))(e:Q (.bl<|formB w n d) H)
def spForm:Sp:=λv H Q _=>PForm v H Q
inductive qP (vs:ab V)(H:Hp)(Q:VK)(E:XK):Prop
 |mk (p q:C')(t:V)(v:V)(d:Oe)(xs:ab V)(c:ab (ab Int))(h0:vs=[.ref p,v])(h:H p=gV (.tup [t,.ref q]))(b:H q=gV (.lst xs))(e:CLs H c xs)(f:c.length<=900)(g:RD H d v)(j:∀a,RV H ((aU c.length d).map λi=>c.getD i []) a->Q a H)
inductive qQ (vs:ab V)(H:Hp)(Q:VK)(E:XK):Prop
 |mk (p a:C')(t:Str)(w:V)(hw:N6)(v:V)(d:Oe)(ys:ab V)(sets:ab (ab Int))(h0:vs=[.ref p,.str<|ax hw,v,.ref a])(e:H p=gV (.tup [.str t,w]))(f:t.length<=30)(g:H a=gV (.lst ys))(i:CLs H sets ys)(j:sets.length<=9000)(k:(∀c∈sets,ar t.length c))(l:RD H d v)(m:∀b h,Same H h->RV h (gb t hw sets d) b->Q b h)
inductive qR (vs:ab V)(H:Hp)(Q:VK)(E:XK):Prop
 |mk (p a b:C')(t:Str)(w:V)(hw:N6)(g x X d:V)(D e f:Oe)(ys:ab V)(sets:ab (ab Int))(h0:vs=[.ref p,.str<|ax hw,.ref b,.ref a])(k:H p=gV (.tup [.str t,w]))(l:t.length<=30)(m:H b=gV (.tup [g,x,X,d]))(n:H a=gV (.lst ys))(o:CLs H sets ys)(q:sets.length<=9000)(r:(∀c∈sets,ar t.length c))(s:RD H D x)(u:RD H e X)(i:RD H f d)(j:∀v h,Same H h->RV h (dF t hw sets D e f) v->Q v h)
theorem BH(F:Fun K "is_place" "is_place" BD f k)(U:Fe P w K M b 1 "is_number" xf):ao P w K M b aP 2 f k ["thing","many"] jS:=by
 refine F.okB (N:=["thing","many"]) λC A o s H l Q E p r h=>?_;obtain⟨v,d,m,rfl,j,q⟩:=h;exists _,(cr<|kh gg<|hO<|mJ jz ph cZ (pv 0)<|pv 1);exists _,rfl,v,d,rfl,j,_,rfl;obtain⟨z,rfl⟩|n:=ng d
 ·obtain rfl:=aJ j;have a:Q (.bl (if 0<=z/\z<(m)then gV _ else N4).isSome) H:=q;exists _,rfl,_,_,rfl,rfl,_,rfl;by_cases g:0<=z
  ·rw[Ob g];refine aq ⟨_,rfl,_,_,rfl,rfl,?_⟩;by_cases i:z<(m)
   ·simp_all
   rw[Oh λc=>i c.2]at a;show Q (.bl _) H
   rwa[N3 i]
  rw[Oh λc=>g c.1]at a;rwa[N3 g]
 rw[ml n];have e:aU m d=none:=by
  cases d with
  |int z=>lia
  |_=>rfl
 rwa[e]at q
theorem scForm:ee ["thing","word","many"] ["thing","word","many"] (aw sForm):=Bw
theorem ok_form(F:Fun K "begins_with" "begins_with" sForm f p)(T:Bl M):ao P w K M B aP 1 f p ["thing","word","many"] spForm:=by
 have u:=scForm;refine F.okA scForm λy A o s H C Q E G h=>?_;obtain⟨v,d,W,n,rfl,i,I,j,k,q⟩:=h;have N:=eV i;exists _,gg;exists _,rfl,v,_,"tuple",_,rfl,lI d v i,kC d N,_,rfl;cases d with
 |tuple D=>
  obtain⟨a,x,rfl,l,m⟩:=al i;have r:=ci m;refine aq ⟨_,rfl,.ref a,_,rfl,.inr ⟨_,SqT.of l,rfl⟩,_,rfl,.inl ⟨rfl,_,rfl,?_⟩⟩;have c:Q (.bl (decide _&&ny W (D.getD 0 _))) H:=q;by_cases g:D.length=n
  ·rw[Ob g]at c;have e:decide (V.int ((x.length):Int)=V.int _)=true:=Ob (by rw[r,g]);rw[e];obtain⟨X,b⟩:∃X,x[0]?=gV X:=⟨_,K' (by lia)⟩;have t:=cL m b;refine aq ⟨_,rfl,(a_ l (aH b) ⟨_,rfl,.inr ⟨_,_,t,cP W,k D rfl,j,?_⟩⟩)⟩;rwa[tG]
  ·rw[N3 g]at c;have e:decide (V.int ((x.length):Int)=V.int (n))=false:=(by lia);rwa[e]
 |_=>exact ak q
theorem BI(F:Fun K "given_set" "given_set" BE f u)(T:Bl m)(U:Fe P w K m b 2 "is_place" jS):ao P w K m b aP 3 f u ["sentence","place"] qP:=by
 refine F.okB (N:=["sentence","place"]) λD A o s H G Q E I J h=>?_;obtain⟨p,q,t,v,d,X,C,rfl,k,l,a,L,n,j⟩:=h;have y:=a.length;exists _,gg;refine⟨_,rfl,_,rfl,(a_ k rfl ⟨.ref q,_,rfl,.inl ⟨_,SqL.of l,rfl⟩,v,d,X.length,rfl,n,_,rfl,?_⟩)⟩;rw[<-y];cases g:aU _ d with
 |none=>
  rw[g]at j;exact aq<|j _ rfl
 |some i=>
  rw[g]at j;obtain⟨M,rfl⟩:=bA g;obtain rfl:=aJ n;obtain⟨x,r⟩:∃x,X[i]?=gV x:=⟨_,K' (Pb M (Ui y))⟩;obtain⟨c,z,B⟩:=a.get r;have e:C.getD i []=c:=by rw[A',z];rfl
  refine ak ⟨_,rfl,(a_ k rfl ⟨_,rfl,(dM l (aH r)<|j _ ?_)⟩)⟩;show CL H (C.getD i []) x
  rwa[e]
theorem BJ(F:Fun K "drop_set" "drop_set" BF f G)(T:Bl m)(W:Fe P w K m B 2 "is_place" jS)(X:Fe P w K m B 3 "dropped" dR):ao P w K m B aP 4 f G ["sentence","hand","place","ahead"] qQ:=by
 refine F.okB (N:=["sentence","hand","place","ahead"]) λY A o s H Z Q E sc hr h=>?_;obtain⟨p,a,t,w,n,v,d,y,b,rfl,I,h9,r,u,h8,j,z,q⟩:=h;have J:=u.length;exists _,gg;exists _,rfl,_,rfl,.ref a,_,rfl,.inl ⟨_,SqL.of r,rfl⟩,v,d,y.length,rfl,z,_,rfl;rw[<-J];unfold gb at q;cases g:aU _ d with
 |none=>
  rw[g]at q;exact aq<|q _ _ (Same.refl _) rfl
 |some i=>
  rw[g]at q;obtain⟨hi,rfl⟩:=bA g;obtain rfl:=aJ z;obtain⟨x,C⟩:∃x,y[i]?=gV x:=⟨_,K' (Pb hi (Ui J))⟩;obtain⟨c,D,l,rfl,L⟩:=u.get C;have e:b.getD i []=c:=by rw[A',D];rfl
  have k:=j c<|N7 D;have TQ:=bw k;refine ak ⟨_,rfl,_,rfl,_,rfl,_,rfl,(dM r (aH C) ⟨p,l,t,w,n,c,rfl,I,by lia,L,by lia,k.2,λM N O U=>q _ _ O ?_⟩)⟩;show CL N (aG t n<|b.getD i []) _
  rw[e];exact⟨M,rfl,U⟩
theorem Fv(h:aU s.length d=N4):dF t H s d D a=none:=by
 unfold dF;rw[h]
theorem Fx(h:aU s.length d=N4):dF t H s D d a=none:=by
 unfold dF;rw[h];cases aU _ D<;>rfl
theorem Fy(h:∀z,d≠.int z):dF t H s D a d=none:=by
 unfold dF
 simp_all
theorem Fz{t:Str}{h:N6}{z:Int}(H:aU s.length d=gV i)(a:aU s.length D=gV j):
  dF t h s d D (.int z)=if eB t h (s.getD i []) (s.getD j []) z=NU then gV (bH (s.getD i []) (s.getD j []) z)else none:=by
 unfold dF;rw[H,a]
theorem BK(F:Fun K "join_set" "join_set" BG f fd)(T:Bl M)(UT:Fe P w K M B 1 "is_number" xf)(UO:Fe P w K M B 2 "is_place" jS)
  (am:Fe P w K M B 1 "other_hand" eS) (VC:Fe P w K M B 2 "variables_of" kN) (an:Fe P w K M B 1 "stands_both_ways" vk) (as:Fe P w K M B 1 "joined" im):
  ao P w K M B aP 3 f fd ["sentence","hand","line","ahead"] qR:=by
 refine F.okB (N:=["sentence","hand","line","ahead","variable","first","second"]) λQC A U s H vs Q E sc hr h=>?_;obtain⟨p,a,b,t,w,n,x0,x1,x2,x3,d1,d2,d3,Y,c,rfl,hp,h9,o,I,W,h8,u,r1,r2,r3,q⟩:=h;have P1:=W.length;exists _,gg;refine⟨_,rfl,(a_ o rfl ?_)⟩;refine⟨_,rfl,(a_ o rfl ⟨_,rfl,.ref a,_,rfl,.inl ⟨_,SqL.of I,rfl⟩,x1,d1,Y.length,rfl,r1,_,rfl,?_⟩)⟩;rw[<-P1];cases X:aU c.length d1 with
 |none=>
  rw[Fv X]at q;exact aq<|aq<|q _ _ (Same.refl _) rfl
 |some i=>
 refine ak ⟨_,rfl,(a_ o rfl ⟨_,rfl,.ref a,_,rfl,.inl ⟨_,SqL.of I,rfl⟩,x2,d2,Y.length,rfl,r2,_,rfl,?_⟩)⟩;rw[<-P1];cases G:aU c.length d2 with
 |none=>
  rw[Fx G]at q;exact aq<|aq<|q _ _ (Same.refl _) rfl
 |some j=>
 refine ak ⟨_,rfl,x3,d3,rfl,r3,_,rfl,?_⟩;obtain⟨z,rfl⟩|hn:=ng d3
 rotate_left
 ·rw[ml hn,Fy hn]at*;exact aq<|q _ _ (Same.refl _) rfl
 obtain rfl:=aJ r3;rw[Fz X G]at q;obtain⟨hi,rfl⟩:=bA X;obtain⟨hj,rfl⟩:=bA G;obtain rfl:=aJ r1;obtain rfl:=aJ r2;obtain⟨y1,v⟩:∃x,Y[i]?=gV x:=⟨_,K' (Pb hi (Nat.le_of_eq P1))⟩;obtain⟨y2,y⟩:∃x,Y[j]?=gV x:=⟨_,K' (Pb hj (Nat.le_of_eq P1))⟩;obtain⟨g,hf,Z,rfl,Yb⟩:=W.get v;obtain⟨m,C,l2,rfl,V0⟩:=W.get y;have ef:c.getD i []=g:=by rw[A',hf];rfl
 have es:c.getD j []=m:=by rw[A',C];rfl
 rw[ef,es]at q;have of:=u g<|N7 hf;have os:=u m<|N7 C;have cf:=bw of;have cs:=bw os;refine ak ?_;refine⟨_,rfl,_,rfl,(a_ o rfl<|(dM I (aH v) ?_))⟩;refine⟨_,rfl,_,rfl,(a_ o rfl<|(dM I (aH y) ?_))⟩;have J:eB t n g m z=NZ->∀H',Same H H'->Q .non H':=λe H' k=>by
  rw[e]at q;exact q _ _ k rfl
 refine⟨_,rfl,_,rfl,_,rfl,n,rfl,p,t,w,!n,rfl,hp,by lia,λl H1 d hl=>?_⟩;exists l,_,rfl,.inl<|SqL.of hl,rfl,bC _,_,rfl;show(if(!jg (.int z) ((aA t (!n)).map V.int))=NU then _ else _)
 rw[bq];cases D:(aA t (!n)).contains z with
 |false=>exact aq<|aq<|J (by unfold eB;rw[D];rfl) _ d
 |true=>
 refine ak ⟨_,rfl,_,rfl,Z,_,rfl,.inr<|SqT.of<|d _ _ Yb,rfl,bC _,_,rfl,?_⟩;show(if(!jg (.int z) (g.map V.int))=NU then _ else _)
 rw[bq];cases L:g.contains z with
 |false=>exact aq<|aq<|J (by unfold eB;rw[D,L];rfl) _ d
 |true=>
 refine ak ⟨_,rfl,_,rfl,_,rfl,l2,_,rfl,.inr<|SqT.of<|d _ _ V0,rfl,bC _,_,rfl,?_⟩;show(if(!jg (.int (-z)) (m.map V.int))=NU then _ else _)
 rw[bq];cases c3:m.contains (-z)with
 |false=>exact aq<|J (by unfold eB;rw[D,L,c3];rfl) _ d
 |true=>
 refine ak ⟨_,rfl,_,rfl,_,rfl,Z,l2,g,m,z,rfl,d _ _ Yb,d _ _ V0,by lia,by lia,λH2 N=>⟨_,rfl,?_⟩⟩;cases O:di g m z with
 |true=>exact aq<|J (by unfold eB;rw[D,L,c3,O];rfl) _<|d.trans N
 |false=>
 have ej:eB t n g m z=true:=by unfold eB;rw[D,L,c3,O];rfl
 rw[ej]at q;refine ak ⟨_,rfl,_,rfl,_,rfl,Z,l2,g,m,z,rfl,N _ _<|d _ _ Yb,N _ _<|d _ _ V0,by lia,of.1,os.1,O,λl3 r H3 k3 ac h3=>q _ _ ((d.trans N).trans k3) ?_⟩;rw[ac.eq of.1 os.1 O]at h3;exact⟨l3,rfl,h3⟩
noncomputable abbrev qS:Pk:=top 53
noncomputable abbrev BL:Pk:=top 54
noncomputable abbrev BN:Pk:=top 55
noncomputable abbrev Hb:Pk:=top 58
inductive qT (vs:ab V)(H:Hp)(Q:VK)(E:XK):Prop
 |mk (l t:C')(c k:ab Int)(h0:vs=[.ref l,.ref t])(h:jw H l c)(a:jw H t k)(b:Q (.bl (c.any λz=>k.contains z)) H)
inductive Hc (H:Hp)(l t:C')(c k:ab Int)(i:Nat)(a:St)(h:Hp):Prop
 |mk (v:NW V)(h0:a=[gV (.ref l),gV (.ref t),v])(b:h=H)(d:((c.take i).any λz=>k.contains z)=NZ)
inductive qU (vs:ab V)(H:Hp)(Q:VK)(E:XK):Prop
 |mk (l q:C')(c:ab Int)(xs:ab V)(C:ab (ab Int))(h0:vs=[.ref l,.ref q])(a:jw H l c)(b:c.length<=60)(d:H q=gV (.lst xs))(e:CLs H C xs)(f:C.length<=900)(g:∀h,Same H h->Q (.bl<|tH c C) h)
inductive qV (vs:ab V)(H:Hp)(Q:VK)(E:XK):Prop
 |mk (p q:C')(t:Str)(v:V)(d:Oe)(xs:ab V)(c:ab (ab Int))(h0:vs=[.ref p,v])(b:H p=gV (.tup [.str t,.ref q]))(e:t.length<=30)(f:H q=gV (.lst xs))(g:CLs H c xs)(i:c.length<=900)(j:RD H d v)(k:∀a h,Same H h->RV h (lK t.length c d) a->Q a h)
def qW(d:Oe):Prop:=∀D,d=.tuple D->Qf (D.getD 0 .none)=NU
inductive vn (vs:ab V)(H:Hp)(Q:VK)(E:XK):Prop
 |mk (p q a:C')(t:Str)(hw:N6)(v:V)(d:Oe)(xs ys:ab V)(C sets:ab (ab Int))(h0:vs=[.ref p,.str<|ax hw,v,.ref a])(i:H p=gV (.tup [.str t,.ref q]))(j:t.length<=30)(k:H q=gV (.lst xs))(l:CLs H C xs)(m:C.length<=900)(n:H a=gV (.lst ys))(o:CLs H sets ys)(r:sets.length<=9000)(s:(∀c∈sets,ar t.length c))(e:RD H d v)(f:qW d)(g:∀b h,Same H h->RV h (aI t C hw sets d) b->Q b h)
theorem io(h:cO H d s)(l:d.length=4):∃D c e f x X a b,d=[D,c,e,f]/\s=[x,X,a,b]/\RD H D x/\RD H c X/\RD H e a/\RD H f b:=by
 match d,l with
 |[D,c,e,f],_=>
  obtain⟨x,r,rfl,g,k⟩:=aj h;obtain⟨X,q,rfl,i,j⟩:=aj k;obtain⟨a,t,rfl,m,n⟩:=aj j;obtain⟨b,u,rfl,o,p⟩:=aj n;obtain rfl:=bP p;exact⟨_,_,_,_,x,X,a,b,rfl,rfl,g,i,m,o⟩
theorem LJ:Qf (.str aY)=true:=Nice.shaped (cV 8<|by decide+kernel)
theorem LK:Qf (.str aE)=true:=Nice.shaped (cV 8<|by decide+kernel)
theorem LL:Qf (.str bD)=true:=Nice.shaped (cV 8<|by decide+kernel)
theorem LM:Qf (.str aM)=true:=Nice.shaped (cV 8<|by decide+kernel)
theorem FA{a:Type}(l:ab a)(f:a->N6):(l.map λx=>V.bl<|f x).all qC=NU/\(l.map λx=>V.bl<|f x).all g8=l.all f:=by
 constructor
 ·rw[R0];exact O0.mpr λz z=>rfl
 rw[R0];rfl
noncomputable def BO(H:Hp)(c:ab Int)(x:V):N6:=match x with
 |.ref p=>match H p with
  |some (.tup z)=>c.any λl=>z.contains<|.int l
  |_=>NZ
 |_=>NZ
theorem BP(z:ab Int)(l:Int):(z.map V.int).contains (.int l)=z.contains l:=by
 simp
theorem xh(h:CL H k x):BO H c x=c.any λl=>k.contains l:=by
 obtain⟨p,rfl,a⟩:=h;unfold BO;simp only[a];exact fg λl z=>BP k l
theorem t4:∀{C:ab (ab Int)} {x:ab V},CLs H C x->x.all (BO H c)=tH c C:=by
 intro C x h;change Paired _ _ _ at h;induction h with
 |nil=>rfl
 |cons h t i=>rw[Ri,xh h,i];rfl
theorem mv:ee ["literals","clause","literal"] ["literals","clause"] (aw qS):=Bw
theorem BQ(F:Fun K "hits" "hits" qS f p):ao P w K M b aP 1 f p ["literals","clause"] qT:=by
 have B:=mv;refine F.okA mv λC A o s H D Q E G h=>?_;obtain⟨l,t,c,k,rfl,d,r,q⟩:=h;refine⟨_,(ae (fS 2 (bQ<|pv 0) gg)
  (cr fT)),⟨_,rfl,l,rfl,⟨_,SqT.of d⟩,dz (K:=K) (X:=c.map V.int) (Hc H l t c k) ⟨N4,rfl,rfl,rfl⟩ ?_ ?_ ?_⟩⟩
 ·rintro i j m Z ⟨Z,Z,rfl,Z⟩;exact SqT.of d
 ·rintro i x j m u ⟨v,rfl,rfl,a⟩;obtain⟨z,rfl,n⟩:=cU u;have e:(if NZ=NU then !jg (.int z) (k.map V.int)else jg (.int z) (k.map V.int))=k.contains z:=by
   rw[Oh Oa,bq]
  exists _,rfl,_,rfl,t,_,rfl,.inr<|SqT.of r,rfl,bC k,_,rfl;rw[e];cases g:k.contains z with
  |true=>
   have y:=OR.mpr ⟨z,N7 n,g⟩;rwa[y]at q
  |false=>
   refine ak ⟨_,rfl,rfl,?_⟩;rw[OM,n,Z6,a];show(k.contains z || NZ)=NZ
   rw[g];rfl
 rintro j m ⟨v,rfl,rfl,a⟩;rw[Od<|by rw[J'];exact N1 _]at a;rwa[a]at q
theorem BR(F:Fun K "hits_each" "hits_each" BL f n)(T:Bl m)(p:Fe P w K m b 1 "hits" qT):ao P w K m b aP 2 f n ["literals","clauses"] qU:=by
 refine F.okB (N:=["literals","clauses"]) λJ A o s H L Q E M N h=>?_;obtain⟨l,q,c,X,O,rfl,u,U,d,a,W,v⟩:=h;have Y:=a.length;exists _,(cr<|aR (mY rfl) rfl T.all Uy<|gY<|jR ["clause","literals"] [N4,gV 0]<|aT<|pv 1);refine⟨_,rfl,q,rfl,⟨_,SqL.of d⟩,λD g=>cE [gV<|.ref l] (λZ=>NU) (λx=>.bl<|BO H c x) rfl d g (by lia) ?_ ?_ ?_⟩
 ·intro x j y R k r;exact r
 ·intro x j Z y R k r;obtain⟨i,z⟩:=Qr.mp j;obtain⟨B,Z,t⟩:=a.get z;rw[xh t]at r;obtain⟨C,rfl,G⟩:=t;exact⟨_,rfl,_,rfl,l,C,c,B,rfl,k _ _ u,k _ _ G,r⟩
 have I:(X.filter _)=X:=Qg.mpr λZ Z=>rfl;rw[I];have e:=FA X<|BO H c;exists D,_,rfl,SqL.of aa,e.1;rw[e.2,t4 a];exact v _<|ad g _
theorem BS(F:Fun K "hits_set" "hits_set" BN f n)(T:Bl m)(r:Fe P w K m b 2 "is_set" G0)(J:Fe P w K m b 2 "hits_each" qU):ao P w K m b aP 3 f n ["sentence","literals"] qV:=by
 refine F.okB (N:=["sentence","literals"]) λD A o s H I Q E L M h=>?_;obtain⟨p,q,t,v,d,x,C,rfl,e,N,u,c,y,i,a⟩:=h;exists _,gg;refine⟨_,rfl,_,rfl,(a_ e rfl ⟨.str t,_,rfl,⟨OQ (cg<|by lia),rfl⟩,v,d,_,rfl,i,_,rfl,?_⟩)⟩;unfold lK at a;cases g:qE _ d with
 |false=>
  rw[g]at a;exact aq<|aq<|a _ _ (Same.refl _) rfl
 |true=>
 obtain⟨z,O⟩:=wM g;have B:=CL.of (by rwa[<-z]);obtain⟨l,rfl,j⟩:=B;have U:=bw O;refine ak ⟨_,rfl,_,rfl,(a_ e rfl ⟨l,q,lJ d,x,C,rfl,j,by lia,u,c,y,λW k=>⟨_,rfl,?_⟩⟩)⟩;rw[g]at a;cases G:tH _ C with
 |false=>
  rw[G]at a;exact aq<|a _ _ k rfl
 |true=>
  rw[G]at a;exact ak ⟨_,rfl,a _ _ k ⟨l,rfl,k _ _ j⟩⟩
theorem FB(F:Fun K "line_set" "line_set" Hb f fd)(T:Bl M)(RQ:Fe P w K M B 1 "begins_with" spForm)(ac:Fe P w K M B 3 "given_set" qP)
  (am:Fe P w K M B 3 "hits_set" qV) (an:Fe P w K M B 3 "join_set" qR) (as:Fe P w K M B 4 "drop_set" qQ):ao P w K M B aP 5 f fd ["sentence","hand","line","ahead"] vn:=by
 refine F.okB (N:=["sentence","hand","line","ahead"]) λQt A O s H vs Q E sc hr h=>?_;obtain⟨p,q,a,t,e,v,d,xs,ys,C,c,rfl,J,U,hq,n,h9,ha,hs,h8,o,j,i,g⟩:=h;exists _,gg;have ew:decide (V.str (ax e)=V.str (NV "wisher"))=e:=by
  have z:=dD e NU;have Z:ax NU=NV "wisher":=rfl;simp_all
 have es:decide (V.str (ax e)=V.str (NV "spoiler"))=!e:=by
  have z:=dD e NZ;have Z:ax NZ=NV "spoiler":=rfl;simp_all
 refine xa λN hN=>?_;have u:(!e&&formB aM 2 d)=NZ->N (L2.start ["sentence","hand","line","ahead"] [.ref p,.str<|ax e,v,.ref a]) H:=λy=>hN _ _ (by
  refine xa λN2 W=>?_;have G:(e&&formB bD 2 d)=NZ->N2 (L2.start ["sentence","hand","line","ahead"] [.ref p,.str<|ax e,v,.ref a]) H:=λI=>W _ _ (by
   have L:aI t C e c d=if formB aY 4 d=NU then dF t e c (iV d 1) (iV d 2) (iV d 3)else if formB aE 2 d=NU then gb t e c (iV d 1)else none:=by
    unfold aI;rw[y,I];rfl
   rw[L]at g;exists _,rfl,v,d,aY,4,rfl,j,by simp,LJ,i,_,rfl;cases Y:formB aY 4 d with
   |true=>
    rw[Y,Oi rfl]at g;obtain⟨ds,rfl,l⟩:=jN Y;obtain⟨b,zs,rfl,k,m⟩:=al j;obtain⟨d0,D,d2,d3,X,x,x2,x3,rfl,rfl,r0,r,r2,r3⟩:=io m l;exact aq ⟨_,rfl,_,rfl,_,rfl,_,rfl,p,a,b,t,_,e,X,x,x2,x3,D,d2,d3,ys,c,rfl,J,U,k,ha,hs,h8,o,r,r2,r3,g⟩
   |false=>
   rw[Y,Oh Oa]at g;refine ak ⟨_,rfl,v,d,aE,2,rfl,j,by simp,LK,i,_,rfl,?_⟩;cases c4:formB aE 2 d with
   |true=>
    rw[c4,Oi rfl]at g;obtain⟨ds,rfl,l⟩:=jN c4;obtain⟨b,zs,rfl,k,m⟩:=al j;obtain⟨d0,D,X,x,rfl,rfl,r0,r⟩:=cj m l;exact aq ⟨_,rfl,_,rfl,_,rfl,(a_ k rfl ⟨_,rfl,p,a,t,_,e,x,D,ys,c,rfl,J,U,ha,hs,h8,o,r,g⟩)⟩
   |false=>
    rw[c4,Oh Oa]at g;exact ak<|g _ _ (Same.refl _) rfl)
  refine⟨_,rfl,.inl ⟨rfl,_,rfl,?_⟩⟩;dsimp only;rw[ew];cases e with
  |false=>exact ak<|ak<|G rfl
  |true=>
  refine aq ⟨_,rfl,v,d,bD,2,rfl,j,by simp,LL,i,_,rfl,?_⟩;cases I:formB bD 2 d with
  |false=>exact ak<|G I
  |true=>
   have L:aI t C NU c d=lK t.length C (iV d 1):=by
    unfold aI;rw[I];rfl
   rw[L]at g;obtain⟨ds,rfl,l⟩:=jN I;obtain⟨b,zs,rfl,k,m⟩:=al j;obtain⟨d0,D,X,x,rfl,rfl,r0,r⟩:=cj m l;exact aq ⟨_,rfl,_,rfl,(a_ k rfl ⟨p,q,t,x,D,xs,C,rfl,J,U,hq,n,h9,r,g⟩)⟩)
 refine⟨_,rfl,.inl ⟨rfl,_,rfl,?_⟩⟩;dsimp only;cases e with
 |true=>exact ak<|ak<|u rfl
 |false=>
 refine aq ⟨_,rfl,v,d,aM,2,rfl,j,by simp,LM,i,_,rfl,?_⟩;cases y:formB aM 2 d with
 |false=>exact ak<|u y
 |true=>
  have L:aI t C NZ c d=ji C (iV d 1):=by
   unfold aI;rw[y];rfl
  rw[L]at g;obtain⟨ds,rfl,l⟩:=jN y;obtain⟨b,zs,rfl,k,m⟩:=al j;obtain⟨d0,D,X,x,rfl,rfl,r0,r⟩:=cj m l;exact aq ⟨_,rfl,_,rfl,(a_ k rfl ⟨p,q,_,x,D,xs,C,rfl,J,hq,n,h9,r,λv' hv=>g _ _ (Same.refl _) hv⟩)⟩
noncomputable abbrev xi:Pk:=top 59
inductive nH (vs:ab V)(H:Hp)(Q:VK)(E:XK):Prop
 |mk (p q pp L:C')(t:Str)(hw:N6)(xs s:ab V)(C:ab (ab Int))(ds:ab Oe)(out:ab (ab Int))(h0:vs=[.ref p,.ref pp])(g:H p=gV (.tup [.str t,.ref q]))(i:t.length<=30)(j:H q=gV (.lst xs))(k:CLs H C xs)(m:C.length<=900)(n:(∀c∈C,ar t.length c))(o:H pp=gV (.tup [.str<|ax hw,.ref L]))(r:H L=gV (.lst s))(u:cO H ds s)(a:ds.length<=9000)(b:(∀d∈ds,qW d))(e:bE t C hw [] ds=(out,NU))(f:∀l ys h,Same H h->H l=N4->h l=gV (.lst ys)->CLs h out ys->Q (.ref l) h)
inductive nI (p:C')(pp:C')(s:C')(t:Str)(c:ab (ab Int))(hw:N6)(ds:ab Oe)(H:Hp)(i:Nat)(a:ab (NW V))(G:Hp):Prop
 |mk (x:NW V)(X:NW V)(b:NW V)(ys:ab V)(sets:ab (ab Int))(I:a=[gV<|.ref p,gV<|.ref pp,gV<|.ref s,x,X,b])(d:G s=gV (.lst ys))(e:CLs G sets ys)(f:bE t c hw [] (ds.take i)=(sets,NU))(g:Same H G)
theorem zf(F:Fun K "sets_of" "sets_of" xi f fd)(T:Bl mg)(an:Fe P w K mg B 5 "line_set" vn):ao P w K mg B aP 6 f fd ["sentence","paper"] nH:=by
 refine F.okB (N:=["sentence","paper","sets","place","line","literals"]) λQC A O s H vs Q E sc hr h=>?_;obtain⟨p,q,pp,la,t,u,xs,ls,C,D,as,rfl,hp,ht,hq,I,h9,VB,m,Zy,Zz,h8,J,L,q'⟩:=h;have P1:=ci Zz;refine⟨_,(ae gg
  (ae (dP Pt rfl gg gg
   (ae gg
   (ae (aO gg (ap d_) ay)
   gg)))
  (cr<|pv 2))),?_⟩
 refine⟨Ou _,λM l=>?_⟩;have N:=ad l<|.lst [];refine⟨_,rfl,(a_ (N _ _ m) rfl ⟨la,rfl,⟨_,SqL.of<|N _ _ Zy⟩,?_⟩)⟩;refine eA (K:=K) (X:=ls) (nI p pp M t C u D H)
  ⟨N4,N4,N4,[],[],rfl,aa,.nil,rfl,N⟩ ?_ ?_ ?_
 ·rintro i σ G V ⟨V,V,V,V,V,V,V,V,V,k⟩;exact SqL.of<|k _ _ Zy
 ·rintro i x σ G t1 hx ⟨x3,x4,x5,Y,a,rfl,v,n,g,U⟩ W;have Wy:=(NT.mp hx).1;have rx:=cL Zz hx;have y:=getD_some (d:=Qj) (show i<D.length by lia);generalize D.getD i _=d at rx y;have X:=N7 y;have r:Same G (upd G t1<|.tup [.int i,x]):=ad W _;have j:=U.trans r;have Z:=cM g;rw[OC,TC]at Z;have ac:∀c∈a,ar t.length c:=by
   have:=fG (w:=u) VB (D:=D.take i) (s:=[]) (by simp);rwa[g]at this
  exists t1,_,rfl,SqT.of aa,rfl,_,_,rfl,_,_,rfl,rfl;refine⟨_,rfl,_,rfl,(a_ (j _ _ m) rfl ⟨_,rfl,_,rfl,p,q,M,t,u,x,d,xs,Y,C,a,rfl,j _ _ hp,ht,j _ _ hq,I.mono j,h9,r _ _ v,n.mono r,by lia,ac,gK j _ _ rx,J d X,λv' H3 k3 hv=>?_⟩)⟩;cases hl:aI t C u a d with
  |none=>
   rw[E7 g y hl]at L;cases L
  |some c=>
   rw[hl]at hv;obtain⟨tc,rfl,Q7⟩:=hv;have am:=j.trans k3;have z:=k3 _ _<|r _ _ v;refine⟨_,rfl,rfl,_,rfl,ak ?_⟩;exists _,rfl,.inl ⟨rfl,_,SqL.of z⟩,_,rfl,M,_,_,rfl,rfl,z,(by rw[<-n.length];exact cg<|by lia);refine⟨_,_,_,Y++[.ref tc],a++[c],rfl,aa,CLs.snoc (CL.upd ⟨tc,rfl,Q7⟩ z)<|(n.mono<|r.trans k3).upd z,tJ g y hl,λb o e=>?_⟩;rw[af<|ah e l];exact am _ _ e
 rintro σ G ⟨x3,x4,x5,Y,a,rfl,v,n,g,U⟩;rw[Od (by simp_all),L]at g;cases g;exact⟨_,rfl,q' _ _ _ U l v n⟩
noncomputable abbrev LN:Pk:=top 60
noncomputable def o7(o:ab (ab Int)):N6:=match o.getLast? with
 |some c=>decide (c=[])
 |none=>NZ
inductive BU (vs:ab V)(H:Hp)(Q:VK)(E:XK):Prop
 |mk (l:C')(ys:ab V)(out:ab (ab Int))(h0:vs=[.ref l])(a:H l=gV (.lst ys))(b:CLs H out ys)(c:out.length<=9000)(d:∀h,Same H h->Q (.bl<|o7 out) h)
theorem zg(y:ab V):eJ y (gV (-1)) N4=y.drop (y.length-1):=by
 unfold eJ;have e:HT.sIx y.length 0 (gV (-1))=y.length-1:=by
  unfold HT.sIx;lia
 have E:HT.sIx y.length _ N4=y.length:=rfl;rw[e,E];exact Od (by simp)
theorem zh(o:ab (ab Int)):o.drop (o.length-1)=match o.getLast? with|some c=>[c]|none=>[]:=by
 obtain rfl|⟨i,c,rfl⟩:=List.eq_nil_or_concat o
 ·rfl
 simp
theorem CLs.drop':∀{c:ab (ab Int)} {x:ab V} (n:Nat),CLs H c x->CLs H (c.drop n) (x.drop n):=by
 intro c x n h;change Paired _ _ _ at h;induction h generalizing n with
 |nil=>cases n<;>exact .nil
 |cons r t i=>
  cases n with
  |zero=>exact .cons r t
  |succ n=>exact i n
theorem FC(o:ab (ab Int)):O7 (.list<|(o.drop<|o.length-1).map ii) (.list [.tuple []])=o7 o:=by
 rw[zh];unfold o7;cases o.getLast? with
 |none=>rfl
 |some c=>
  cases c with
  |nil=>rfl
  |cons x r=>rfl
theorem Jz(F:Fun K "end_empty" "end_empty" LN f x):ao P w K M B aP 1 f x ["sets"] BU:=by
 refine F.okB (N:=["sets"]) λJ A O s H L Q E N z h=>?_;obtain⟨l,y,o,rfl,C,i,T,q⟩:=h;have D:=z.units;exists _,(cr<|Bx (ku D) (cR eP (pv 0) gg dA) gg);refine⟨_,rfl,_,rfl,_,rfl,l,_,rfl,SqL.of C,λp b=>?_⟩;have e:=zg y;have c:=ad b<|.lst<|eJ y (gV (-1)) N4;have r:upd H p (.lst<|eJ y (gV (-1)) N4) p=gV (.lst<|y.drop<|y.length-1):=by rw[aa,e]
 generalize upd H p _=j at c r;refine⟨(by simp),λt d=>?_⟩;have a:=ad d<|.tup [];have m:=CB a;generalize upd j t _=n at a m;refine⟨(by show 1<=sizeLine;decide),λu g=>?_⟩;have k:=ad g<|.lst [.ref t];have v:=CB k;generalize upd n u _=G at k v;have I:CLs G (o.drop<|o.length-1) (y.drop<|y.length-1):=by
  rw[i.length];exact CLs.drop' _<|i.mono<|c.trans<|a.trans k
 refine .inr ⟨.list<|(o.drop<|o.length-1).map ii,.list _,cW ((a.trans k) _ _ r) I.rds,cW v<|ag (aQ (k _ _ m) au) au,(Nice.mono (pJ<|A9 _)<|by simp).shaped,by rfl,?_⟩;rw[FC];exact q _<|c.trans<|a.trans k
noncomputable abbrev LO:Pk:=top 61
inductive xj (vs:ab V)(H:Hp)(Q:VK)(E:XK):Prop
 |mk (p q pp L:C')(t:Str)(hw:N6)(xs s:ab V)(C:ab (ab Int))(ds:ab Oe)(out:ab (ab Int))(h0:vs=[.ref p,.ref pp])(i:H p=gV (.tup [.str t,.ref q]))(j:t.length<=30)(k:H q=gV (.lst xs))(m:CLs H C xs)(n:C.length<=900)(o:(∀c∈C,ar t.length c))(r:H pp=gV (.tup [.str<|ax hw,.ref L]))(u:H L=gV (.lst s))(v:cO H ds s)(a:ds.length<=9000)(b:(∀d∈ds,qW d))(e:bE t C hw [] ds=(out,NU))(f:o7 out=NU)(g:∀l ys h,Same H h->H l=N4->h l=gV (.lst ys)->CLs h out ys->Q (.ref l) h)
theorem JA(F:Fun K "whole_sets" "whole_sets" LO f i)(j:Fe P w K m b 6 "sets_of" nH)(L:Fe P w K m b 1 "end_empty" BU):ao P w K m b aP 7 f i ["sentence","paper"] xj:=by
 refine F.okB (N:=["sentence","paper","sets"]) λQC A O s H vs Q E sc hr h=>?_;obtain⟨p,q,n,u,t,v,x,z,C,D,o,rfl,B,G,I,c,J,M,d,Z,N,T,e,r,g,U⟩:=h;have W:o.length=D.length:=by
  have:=cM r;simpa using this
 refine⟨_,(ae gg
  (ae (aO gg (ap d_) ay)
  (cr<|pv 2))),?_⟩
 refine⟨_,rfl,_,rfl,p,q,n,u,t,v,x,z,C,D,o,rfl,B,G,I,c,J,M,d,Z,N,T,e,r,λl y H1 X hl Y a=>⟨_,rfl,l,y,o,rfl,Y,a,by simp_all,λH2 k=>⟨_,rfl,?_⟩⟩⟩;rw[g];exact ak ⟨_,rfl,U l y H2 (X.trans k) hl (k _ _ Y)<|a.mono k⟩
def JB(d:Oe):Prop:=∀D,d=.tuple D->D.length<=9000/\∀e,D.getD 1 .none=.tuple e->e.length<=18
theorem pS:∀{a b:ab Int},a.Nodup->(∀x∈a,x∈b)->a.length<=b.length
 |[],_,_,_=>Ou _
 |x::a,b,h,g=>by
  obtain⟨d,f⟩:=PU.mp h;have H:=g x Om;have:=pS f λy c=>(List.mem_erase_of_ne (show y≠x from λe=>d<|by rwa[<-e])).mpr<|g y<|Ov _ c;rw[List.length_erase_of_mem H]at this;have:=WU H;rw[Os];lia
def bd(d:Oe):Prop:=(∃k:Int,d=.tuple [.str aM,.int k])\/(∃c:ab Int,c.length<=18/\d=.tuple [.str bD,ii c])\/(∃k:Int,d=.tuple [.str aE,.int k])\/(∃i j z:Int,d=.tuple [.str aY,.int i,.int j,.int z])
theorem xk(h:bd d):qW d/\JB d:=by
 obtain⟨k,rfl⟩|⟨c,H,rfl⟩|⟨k,rfl⟩|⟨i,j,z,rfl⟩:=h
 ·exact⟨λD e=>by cases e;exact LM,λD e=>by cases e;exact⟨by show 2<=9000;decide,λE e=>by cases e⟩⟩
 ·exact⟨λD e=>by cases e;exact LL,λD e=>by
   cases e;refine⟨by show 2<=9000;decide,λE e=>?_⟩;cases e;simp_all⟩
 ·exact⟨λD e=>by cases e;exact LK,λD e=>by cases e;exact⟨by show 2<=9000;decide,λE e=>by cases e⟩⟩
 exact⟨λD e=>by cases e;exact LJ,λD e=>by cases e;exact⟨by show 4<=9000;decide,λE e=>by cases e⟩⟩
theorem iq(h:RD H (.str x) v):RD a (.str x) v:=by assumption
theorem fj(h:RD H (.int x) v):RD a (.int x) v:=by assumption
theorem qX{H:Hp}{a q:C'}{z y:ab V}(h:H a=gV (.tup z))(b:H q=gV (.lst y)):a≠q:=λe=>by
 simp_all
theorem BV(g:bd d)(h:RD H d v)(m:H q=gV (.lst y)):RD (upd H q o) d v:=by
 obtain⟨k,rfl⟩|⟨c,t,rfl⟩|⟨k,rfl⟩|⟨i,j,z,rfl⟩:=g
 ·obtain⟨a,Z,rfl,b,f⟩:=al h;exact aQ (by rwa[af<|qX b m])<|‹_›
 ·obtain⟨a,Z,rfl,b,f⟩:=al h;obtain⟨D,n,x,X,e,rfl,r,l⟩:=cj f rfl;cases e;exact aQ (by rwa[af<|qX b m])<|ag (iq r)<|ag (CL.rd<|(CL.of l).upd m) au
 ·obtain⟨a,Z,rfl,b,f⟩:=al h;exact aQ (by rwa[af<|qX b m])<|‹_›
 obtain⟨a,Z,rfl,b,f⟩:=al h;exact aQ (by rwa[af<|qX b m])<|‹_›
theorem pT(a:H q=gV (.lst s)):∀{D:ab Oe} {v:ab V},(∀d∈D,bd d)->cO H D v->cO (upd H q o) D v
 |[],v,_,h=>by
  assumption
 |d::D,v,g,h=>by
  obtain⟨y,Y,rfl,b,c⟩:=aj h;exact ag (BV (g d Om) b a)<|pT a (λe f=>g e<|Ov _ f) c
theorem nJ:∀{c:ab Oe} {s:ab V} {D:ab Oe} {v:ab V},cO H c s->cO H D v->cO H (c++D) (s++v)
 |[],s,D,v,h,g=>by
  rwa[h]
 |d::c,s,D,v,h,g=>by
  obtain⟨y,Y,rfl,a,b⟩:=aj h;exact ag a<|nJ b g
theorem BW(h:o7 o=NU):1<=o.length/\o[o.length-1]?=gV []:=by
 unfold o7 at h;cases e:o.getLast? with
 |none=>simp_all
 |some c=>
  rw[e]at h;have H:=Oo h;subst H;rw[Ta]at e;exact⟨by have:=(NT.mp e).1;lia,e⟩
noncomputable abbrev Hd:Pk:=top 66
noncomputable def bp:Oe->ab Int
 |.tuple [.str w,.int i,.int j,.int _]=>if w=aY then [i,j]else []
 |.tuple [.str w,.int k]=>if w=aE then [k]else []
 |_=>[]
theorem ir(k:Int):bp (.tuple [.str aM,.int k])=[]:=by
 rfl
theorem c_(k:Int):bp (.tuple [.str aE,.int k])=[k]:=by
 rfl
theorem cG(i j z:Int):bp (.tuple [.str aY,.int i,.int j,.int z])=[i,j]:=by
 rfl
inductive BX (vs:ab V)(H:Hp)(Q:VK)(E:XK):Prop
 |mk (v:V)(d:Oe)(h0:vs=[v])(hd:RD H d v)(g:bd d)(q:∀l h,Same H h->H l=N4->h l=gV (.lst<|(bp d).map V.int)->Q (.ref l) h)
theorem FD(F:Fun K "named_by" "named_by" Hd f t):ao P w K M B aP 1 f t ["line"] BX:=by
 refine F.okB (N:=["line"]) λC A O s H G Q E I J h=>?_;obtain⟨v,d,rfl,o,u,q⟩:=h;exists _,gg;obtain⟨k,rfl⟩|⟨c,L,rfl⟩|⟨k,rfl⟩|⟨i,j,z,rfl⟩:=u
 ·obtain⟨a,Z,rfl,b,g⟩:=al o;obtain⟨D,p,x,X,e,rfl,r,m⟩:=cj g rfl;cases e;obtain rfl:=aS r;refine⟨_,rfl,(a_ b rfl<|.inl ⟨rfl,_,rfl,?_⟩)⟩;refine ak ⟨_,rfl,(a_ b rfl<|.inl ⟨rfl,_,rfl,?_⟩)⟩;exact ak ⟨Ou _,λl n=>q l _ (ad n _) n (aa)⟩
 ·obtain⟨a,Z,rfl,b,g⟩:=al o;obtain⟨D,p,x,X,e,rfl,r,m⟩:=cj g rfl;cases e;obtain rfl:=aS r;refine⟨_,rfl,(a_ b rfl<|.inl ⟨rfl,_,rfl,?_⟩)⟩;refine ak ⟨_,rfl,(a_ b rfl<|.inl ⟨rfl,_,rfl,?_⟩)⟩;exact ak ⟨Ou _,λl n=>q l _ (ad n _) n aa⟩
 ·obtain⟨a,Z,rfl,b,g⟩:=al o;obtain⟨D,p,x,X,e,rfl,r,m⟩:=cj g rfl;cases e;obtain rfl:=aS r;obtain rfl:=aJ m;refine⟨_,rfl,(a_ b rfl<|.inl ⟨rfl,_,rfl,?_⟩)⟩;exact ak ⟨_,rfl,(a_ b rfl<|.inl ⟨rfl,_,rfl,aq ⟨_,rfl,(a_ b rfl ⟨(by show 1<=sizeLine;decide),λl n=>q l _ (ad n _) n (aa)⟩)⟩⟩)⟩
 obtain⟨a,Z,rfl,b,g⟩:=al o;obtain⟨D,p,N,T,x,X,U,W,e,rfl,r,m,y,Y⟩:=io g rfl;cases e;obtain rfl:=aS r;obtain rfl:=aJ m;obtain rfl:=aJ y;exact⟨_,rfl,(a_ b rfl<|.inl ⟨rfl,_,rfl,aq ⟨_,rfl,(a_ b rfl ⟨_,rfl,(a_ b rfl ⟨(by show 2<=sizeLine;decide),λl n=>q l _ (ad n _) n (aa)⟩)⟩)⟩⟩)⟩
noncomputable abbrev JC:Pk:=top 68
noncomputable def gO(a:ab Int)(k:Int):ab Int:=if k∈a then a else a++[k]
noncomputable def bF(n:Nat->ab Int)(l:Nat):Nat->ab Int
 |0=>[(l:Int)]
 |j+1=>if((l-j:Nat):Int)∈bF n l j then(n<|l-j).foldl gO (bF n l j)else bF n l j
theorem BY(a:ab Int)(k:Int):(gO a k).length<=a.length+1:=by
 unfold gO
 split
 ·exact TZ _
 simp
theorem kO:∀(s a:ab Int),(s.foldl gO a).length<=a.length+s.length
 |[],a=>N1 _
 |k::s,a=>by
  have h:=kO s<|gO a k;have H:=BY a k;rw[Q4,Os];lia
theorem iN(h:∀i,(n i).length<=2):∀j,(bF n l j).length<=1+2*j
 |0=>N1 _
 |j+1=>by
  have I:=iN h (l:=l) j;have:=h<|l-j;have H:=kO (n<|l-j)<|bF n l j;show(if _ then _ else _:ab Int).length<=_
  lia
theorem iO(d:Oe):(bp d).length<=2:=by
 unfold bp
 split
 ·split
  ·exact N1 _
  simp
 ·split
  ·simp
  simp
 simp
noncomputable def dB(a:ab Int):ab (aK×V):=a.map λk=>((OW k:aK),V.bl NU)
theorem BZ:∀a k,(bh (dB a) (OW k:aK)).isSome=decide (k∈a):=λa k=>by
 unfold dB bh
 grind
theorem JD(a:ab Int)(k:Int):cn (dB a) (OW k:aK) (V.bl NU)=dB (gO a k):=by
 by_cases h:k∈a
 ·unfold gO;rw[Oi h];unfold cn;have e:((dB a).any λb=>decide (b.1=(OW k)))=true:=by
   unfold dB;simp_all
  rw[Oi e];unfold dB;simp
 unfold gO;rw[Oh h,mP]
 ·unfold dB;rw[Oy];rfl
 have:=BZ a k;simp_all
theorem FE(a:ab Int):(dB a).map (·.1)=a.map (OW:Int->aK):=by
 unfold dB;rw[O_];rfl
inductive B0 (vs:ab V)(H:Hp)(Q:VK)(E:XK):Prop
 |mk (L:C')(s:ab V)(ds:ab Oe)(last:Nat)(h0:vs=[.ref L,.int (last:Int)])(a:H L=gV (.lst s))(b:cO H ds s)(c:∀d∈ds,bd d)(e:last<ds.length)(f:ds.length<=4200)
   (q:∀l Z h,Same H h->H l=N4->h l=gV (.lst<|Z.map V.int)->T4 Z (bF (λi=>bp<|ds.getD i .none) last<|last+1)->Sv (·<=·) Z->Q (.ref l) h):B0 vs H Q E
inductive LP (l d:C')(last:Nat)(nm:Nat->ab Int)(H:Hp)(j:Nat)(a:St)(G:Hp):Prop
 |mk (x X:NW V)(i:a=[gV<|.ref l,gV<|.int (last:Int),gV<|.ref d,x,X])(I:G d=gV (.dK<|dB<|bF nm last j))(b:Same H G)
inductive LQ (L d l:C')(last:Nat)(x:NW V)(acc ks:ab Int)(H:Hp)(j:Nat)(a:St)(G:Hp):Prop
 |mk (X:NW V)(i:a=[gV<|.ref L,gV<|.int (last:Int),gV<|.ref d,x,X])(I:G d=gV (.dK<|dB<|(ks.take j).foldl gO acc))(b:Same H G)(c:G l=gV (.lst<|ks.map V.int))
theorem vo{s a:ab Int}{j:Nat}{k:Int}(h:s[j]?=gV k):(s.take<|j+1).foldl gO a=gO ((s.take j).foldl gO a) k:=by
 rw[OM,h,QX];rfl
theorem JF(F:Fun K "needed_by" "needed_by" JC f fd)(T:Bl J)(ac:Fe P w K J b 1 "named_by" BX):ao P w K J b aP 2 f fd ["lines","last"] B0:=by
 refine F.okB (N:=["lines","last","needed","place","ahead"]) λQC A O s H vs Q E sc hr h=>?_;obtain⟨U,ls,d,L,rfl,h1,W,h3,h4,h5,q⟩:=h;have hu:=hr.units;have Y:(A.deeper<|P5 "needed_by" (aw JC) s.heap.objs.size f QC).units+1<RT:=by lia
 have P1:=ci W;refine⟨_,(ae (sT 2<|jQ (pv 1) fT)
  (ae (fS 3 gg<|ap<|aO (jc<|uS Y (pv 3)<|pv 2) (ap<|fS 4 (aT gg)<|ap<|wy Y (pv 2) (pv 4) fT rfl) ay)
  (cr<|aR (u4 rfl) rfl T.sorted YA<|gY<|pv 2))),?_⟩
 refine λD n=>⟨_,rfl,aa,[(OW (L:Int),.bl NU)],rfl,(by simp),?_⟩;have Z:Same H (upd (upd H D<|.dK []) D<|.dK<|fO [] [(OW (L:Int),.bl NU)]):=by rw[gx];exact ad n _
 have s1:upd (upd H D<|.dK []) D (.dK<|fO [] [(OW _,.bl NU)]) D=gV (.dK<|dB [(L)]):=aa;generalize upd _ D (.dK<|fO [] [(OW _,.bl NU)])=H1 at Z s1 ⊢;refine⟨_,rfl,_,rfl,_,rfl,(L),-1,rfl,by lia,m9 (lo:=(L)) (LP U D L (λi=>bp<|d.getD i .none) H) ⟨N4,N4,rfl,s1,Z⟩ ?_ ?_⟩
 ·rintro j g G hj ⟨x3,X,rfl,I,a⟩;have ej:(L:Int)-(j)=((L-j:Nat)):=by lia
  rw[ej];exists _,rfl,_,rfl,D,_,rfl,DGet.k (k:=OW _) I;rw[BZ];by_cases o:((L-j:Nat):Int)∈bF (λi=>bp<|d.getD i .none) L j
  ·rw[Ob o];have e:bF (λi=>bp<|d.getD i _) L (j+1)=(bp<|d.getD _ _).foldl gO (bF (λi=>bp<|d.getD i _) L j):=Oi o;obtain⟨v,hv⟩:∃v,ls[L-j]?=gV v:=⟨_,K' (by lia)⟩;have rv:=cL (bZ a _ _ W) hv;have gd:bd (d.getD (L-j) .none):=h3 _ (N7 (getD_some (Q_ (hJ _ _) h4)));have r:=iO (d.getD (L-j) .none);generalize t:bp (d.getD _ _)=u at e r;have c:=iN (n:=λi=>bp (d.getD i .none)) (l:=L) (λi=>iO _) j;generalize bF (λi=>bp (d.getD i _)) L j=Ri at I e c;refine⟨_,rfl,aq ⟨_,rfl,_,rfl,(dM (a _ _ h1) (aH hv) ⟨v,d.getD _ _,rfl,rv,gd,λl G1 kg N y=>?_⟩)⟩⟩;rw[t]at y;refine⟨l,rfl,⟨_,SqL.of y⟩,dy (K:=K) (X:=u.map V.int) (LQ U D l L (gV (.int _)) Ri u H) ⟨_,rfl,kg _ _ I,a.trans kg,y⟩ ?_ ?_ ?_⟩
   ·rintro i g G2 S ⟨S,S,S,S,m⟩;exact SqL.of m
   ·rintro i x g G2 hx ⟨X,rfl,M,B,p⟩;obtain⟨k,rfl,hk⟩:=cU hx;have C:=kO (u.take i) Ri;rw[OC]at C;exists _,rfl,_,rfl,D,_,rfl,DPut.k (k:=OW k) M (cg<|by unfold dB;grind);rw[JD,<-vo hk];exists _,rfl,aa,B.upd_new n _;rwa[af λz=>by lia]
   rintro g G2 ⟨X,rfl,M,B,p⟩;rw[J',Od<|N1 _,<-e]at M;exact⟨_,_,rfl,M,B⟩
  rw[N3 o];have e:bF _ L (j+1)=bF _ L j:=Oh o;exact⟨_,rfl,ak ⟨_,_,rfl,by rwa[e],a⟩⟩
 rintro g G ⟨x3,X,rfl,I,a⟩;have e:((L:Int) - -1).toNat=L+1:=by rfl
 rw[e]at I;have c:=iN (n:=λi=>bp<|d.getD i .none) (l:=L) (λi=>iO _)<|L+1;refine⟨_,rfl,D,_,_,rfl,I,FE _,by lia,λl Xw N hp hs=>q l Xw _ (a.trans<|ad N _) (a.free N) aa hp hs⟩
noncomputable def gP(c:ab Int):ab aK:=c.map OW
theorem kP(c:ab Int):(gP c).map kV=c.map V.int:=by
 unfold gP;rw[O_];rfl
theorem hH:gP a=gP b↔a=b:=Yt λz z h=>Qo h
theorem vp{a:Type}{l:ab a}{i:Nat}{x:a}(h:l[i]?=gV x):l.take (i+1)=l.take i++[x]:=by
 rw[OM,h];rfl
theorem JG{a b c:ab Int}(h:T4 a c)(H:Sv (·<=·) a)(d:T4 b c)(e:Sv (·<=·) b):a=b:=
 ZR (by lia) H e (h.trans d.symm)
theorem t5(g:bd d)(h:aI t C w s d=gV c):∀k∈bp d,0<=k/\k<(s.length:Int):=by
 obtain⟨k,rfl⟩|⟨n,o,rfl⟩|⟨k,rfl⟩|⟨i,j,z,rfl⟩:=g
 ·rw[ir];simp
 ·exact λy h=>nomatch h
 ·rw[c_];intro b v;unfold aI at h;have f:formB aM 2 (.tuple [.str aE,.int k])=false:=by
   rfl
  have F:formB bD 2 (.tuple [.str aE,.int k])=false:=by
   rfl
  rw[f,F,Qx,Qx]at h;have H:gb t w s (.int k)=gV c:=h;unfold gb at H;cases e:aU _ _ with
  |none=>rw[e]at H;cases H
  |some i=>
   obtain⟨m,A⟩:=bA e;simp_all
 intro b v;unfold aI at h;have f:formB aM 2 (.tuple [.str aY,.int i,.int j,.int z])=false:=rfl;have F:formB bD 2 (.tuple [.str aY,.int i,.int j,.int z])=false:=rfl;rw[f,F,Qx,Qx]at h;have H:dF t w s (.int i) (.int j) (.int z)=gV c:=h;unfold dF at H;cases e:aU s.length (.int i)with
 |none=>simp_all
 |some I=>
 cases E:aU s.length (.int j)with
 |none=>simp_all
 |some J=>
  obtain⟨m,A⟩:=bA e;obtain⟨p,B⟩:=bA E;cases A;obtain rfl|v:=Oz.mp v
  ·simp_all
  simp_all
noncomputable abbrev zi:Pk:=top 67
noncomputable def bG(f:Int->Int):Oe->Oe
 |.tuple [.str w,.int i,.int j,.int z]=>if w=aY then .tuple [.str aY,.int<|f i,.int<|f j,.int z]else .tuple [.str w,.int i,.int j,.int z]
 |.tuple [.str w,.int k]=>if w=aE then .tuple [.str aE,.int<|f k]else .tuple [.str w,.int k]
 |d=>d
theorem dm(f:Int->Int)(k:Int):bG f (.tuple [.str aM,.int k])=.tuple [.str aM,.int k]:=by
 rfl
theorem eD(f:Int->Int)(k:Int):bG f (.tuple [.str aE,.int k])=.tuple [.str aE,.int<|f k]:=by
 rfl
theorem eE(f:Int->Int)(i j z:Int):bG f (.tuple [.str aY,.int i,.int j,.int z])=.tuple [.str aY,.int<|f i,.int<|f j,.int z]:=by
 rfl
theorem nK(f:Int->Int)(c:ab Int):bG f (.tuple [.str bD,ii c])=.tuple [.str bD,ii c]:=rfl
theorem jT(g:bd d):bd (bG f d):=by
 obtain⟨k,rfl⟩|⟨c,h,rfl⟩|⟨k,rfl⟩|⟨i,j,z,rfl⟩:=g
 ·exact .inl ⟨k,rfl⟩
 ·exact .inr<|.inl ⟨c,h,rfl⟩
 ·exact .inr<|.inr<|.inl ⟨_,rfl⟩
 exact .inr<|.inr<|.inr ⟨_,_,_,rfl⟩
theorem pU(g:bd d):bp (bG f d)=(bp d).map f:=by
 obtain⟨k,rfl⟩|⟨c,h,rfl⟩|⟨k,rfl⟩|⟨i,j,z,rfl⟩:=g
 ·rfl
 ·rfl
 ·rfl
 rfl
inductive vq (vs:ab V)(H:Hp)(Q:VK)(E:XK):Prop
 |mk (v:V)(na:C')(d:Oe)(ns:ab Int)(h0:vs=[v,.ref na])(hd:RD H d v)(g:bd d)(hn:H na=gV (.lst (ns.map V.int)))(r:∀k∈bp d,0<=k/\k<(ns.length:Int))(q:∀a h,Same H h->RD h (bG (λk=>ns.getD k.toNat 0) d) a->Q a h)
inductive vt (vs:ab V)(H:Hp)(Q:VK)(E:XK):Prop
 |mk (v:V)(na:C')(d:Oe)(kvs:ab (aK×V))(f:Int->Int)(h0:vs=[v,.ref na])(hd:RD H d v)(g:bd d)(hn:H na=gV (.dK kvs))(r:∀k∈bp d,bh kvs (OW k:aK)=gV (.int<|f k))(q:∀a h,Same H h->RD h (bG f d) a->Q a h)
theorem qY{N:ab Int}{k:Int}(h:0<=k/\k<(N.length:Int)):iU (N.map V.int) k=gV (.int<|N.getD k.toNat 0):=by
 obtain⟨n,rfl⟩:∃n:Nat,k=(n):=⟨k.toNat,by lia⟩;refine aH ?_;simp_all
theorem nM{H:Hp}{n:C'}{s:ab (aK×V)}{k z:Int}(a:H n=gV (.dK s))(h:bh s (OW k:aK)=gV (.int z)):DGet H n (.int k) (gV<|.int z):=by
 rw[<-h];exact DGet.k (k:=OW k) a
theorem xl:ee ["line","numbers"] ["line","numbers"] (aw zi):=Bw
theorem FF(F:Fun K "renamed" "renamed" zi f u):ao P w K M B aP 1 f u ["line","numbers"] vq:=by
 refine F.okA xl λC A O s H L Q E r h=>?_;obtain⟨v,W,d,Y,rfl,n,y,p,r,q⟩:=h;exists _,gg;obtain⟨k,rfl⟩|⟨c,J,rfl⟩|⟨k,rfl⟩|⟨i,j,z,rfl⟩:=y
 ·obtain⟨a,Z,rfl,b,g⟩:=al n;obtain⟨D,t,x,X,e,rfl,m,o⟩:=cj g rfl;cases e;obtain rfl:=aS m;refine⟨_,rfl,(a_ b rfl<|.inl ⟨rfl,_,rfl,?_⟩)⟩;rw[N3 (show¬V.str aM=V.str _ by decide+kernel)];refine ak ⟨_,rfl,(a_ b rfl<|.inl ⟨rfl,_,rfl,?_⟩)⟩;rw[N3 (show¬V.str aM=V.str _ by decide+kernel)];exact ak ⟨_,rfl,q _ _ (Same.refl _) n⟩
 ·obtain⟨a,Z,rfl,b,g⟩:=al n;obtain⟨D,t,x,X,e,rfl,m,o⟩:=cj g rfl;cases e;obtain rfl:=aS m;refine⟨_,rfl,(a_ b rfl<|.inl ⟨rfl,_,rfl,?_⟩)⟩;rw[N3 (by decide+kernel)];refine ak ⟨_,rfl,(a_ b rfl<|.inl ⟨rfl,_,rfl,?_⟩)⟩;rw[N3 (by decide+kernel)];exact ak ⟨_,rfl,q _ _ (Same.refl _) n⟩
 ·obtain⟨a,Z,rfl,b,g⟩:=al n;obtain⟨D,t,x,X,e,rfl,m,o⟩:=cj g rfl;cases e;obtain rfl:=aS m;obtain rfl:=aJ o;refine⟨_,rfl,(a_ b rfl<|.inl ⟨rfl,_,rfl,?_⟩)⟩;rw[N3 (by decide+kernel)];refine ak ⟨_,rfl,(a_ b rfl<|.inl ⟨rfl,_,rfl,aq ⟨_,rfl,_,rfl,(a_ b rfl<|(dM p (qY<|r k<|N9.mpr rfl) ⟨(by show 2<=sizeLine;decide),λl N=>q _ _ (ad N _)<|aQ aa<|ag (cP _)<|ag (aX _) au⟩))⟩⟩)⟩
 obtain⟨a,Z,rfl,b,g⟩:=al n;obtain⟨D,t,T,U,x,X,x2,x3,e,rfl,m,o,G,I⟩:=io g rfl;cases e;obtain rfl:=aS m;obtain rfl:=aJ o;obtain rfl:=aJ G;obtain rfl:=aJ I;refine⟨_,rfl,(a_ b rfl<|.inl ⟨rfl,_,rfl,aq ⟨_,rfl,_,rfl,(a_ b rfl<|(dM p (qY<|r i Om) ⟨_,rfl,_,rfl,(a_ b rfl<|(dM p (qY<|r j<|Ov _<|N9.mpr rfl) ⟨_,rfl,(a_ b rfl ⟨(by show 4<=sizeLine;decide),λl N=>q _ _ (ad N _)<|aQ aa<|ag (cP _)<|ag (aX _)<|ag (aX _)<|ag (aX _) au⟩)⟩))⟩))⟩⟩)⟩
theorem FG(F:Fun K "renamed" "renamed" zi f C):ao P w K T B aP 1 f C ["line","numbers"] vt:=by
 refine F.okA xl λG A O s H W Q E r h=>?_;have Y:=r.units;have p:(A.deeper<|P5 "renamed" (aw zi) s.heap.objs.size f G).units+1<RT:=by lia
 obtain⟨v,N,d,I,U,rfl,n,J,t,r,q⟩:=h;refine⟨_,(ae (aO gg (cr<|dQ<|aD gz<|aD (bz p (pv 1) gg λS S=>rfl)<|g_ (bz p (pv 1) gg λS S=>rfl) gg) ay)
  (ae (aO gg (cr<|dQ<|g_ gz<|bz p (pv 1) gg λS S=>rfl) ay)
  (cr<|pv 0))),?_⟩
 obtain⟨k,rfl⟩|⟨c,hc,rfl⟩|⟨k,rfl⟩|⟨i,j,z,rfl⟩:=J
 ·obtain⟨a,Z,rfl,b,g⟩:=al n;obtain⟨D,u,x,X,e,rfl,m,o⟩:=cj g rfl;cases e;obtain rfl:=aS m;refine⟨_,rfl,(a_ b rfl<|.inl ⟨rfl,_,rfl,?_⟩)⟩;refine ak ⟨_,rfl,(a_ b rfl<|.inl ⟨rfl,_,rfl,?_⟩)⟩;exact ak ⟨_,rfl,q _ _ (Same.refl _) n⟩
 ·obtain⟨a,Z,rfl,b,g⟩:=al n;obtain⟨D,u,x,X,e,rfl,m,o⟩:=cj g rfl;cases e;obtain rfl:=aS m;refine⟨_,rfl,(a_ b rfl<|.inl ⟨rfl,_,rfl,?_⟩)⟩;refine ak ⟨_,rfl,(a_ b rfl<|.inl ⟨rfl,_,rfl,?_⟩)⟩;exact ak ⟨_,rfl,q _ _ (Same.refl _) n⟩
 ·obtain⟨a,Z,rfl,b,g⟩:=al n;obtain⟨D,u,x,X,e,rfl,m,o⟩:=cj g rfl;cases e;obtain rfl:=aS m;obtain rfl:=aJ o;refine⟨_,rfl,(a_ b rfl<|.inl ⟨rfl,_,rfl,?_⟩)⟩;refine ak ⟨_,rfl,(a_ b rfl<|.inl ⟨rfl,_,rfl,aq ⟨_,rfl,_,rfl,(a_ b rfl ⟨N,_,rfl,nM t<|r k<|N9.mpr rfl,(by show 2<=sizeLine;decide),λl y=>q _ _ (ad y _)<|aQ aa<|ag (cP _)<|ag (aX _) au⟩)⟩⟩)⟩
 obtain⟨a,Z,rfl,b,g⟩:=al n;obtain⟨D,u,d2,d3,x,X,x2,x3,e,rfl,m,o,L,M⟩:=io g rfl;cases e;obtain rfl:=aS m;obtain rfl:=aJ o;obtain rfl:=aJ L;obtain rfl:=aJ M;refine⟨_,rfl,(a_ b rfl<|.inl ⟨rfl,_,rfl,aq ⟨_,rfl,_,rfl,(a_ b rfl ⟨N,_,rfl,nM t<|r i Om,_,rfl,_,rfl,(a_ b rfl ⟨N,_,rfl,nM t<|r j<|Ov _<|N9.mpr rfl,_,rfl,(a_ b rfl ⟨(by show 4<=sizeLine;decide),λl y=>q _ _ (ad y _)<|aQ aa<|ag (cP _)<|ag (aX _)<|ag (aX _)<|ag (aX _) au⟩)⟩)⟩)⟩⟩)⟩
noncomputable abbrev JH:Pk:=top 69
noncomputable def iu(o:ab (ab Int)):ab Int:=o.map λc=>((o.idxOf c:Nat):Int)
theorem pV:∀{o:ab (ab Int)} {i:Nat} {c:ab Int},o[i]?=gV c->c∉o.take i->o.idxOf c=i
 |[],i,c,h,_=>by simp at h
 |x::o,0,c,h,_=>by
  simp_all
 |x::o,i+1,c,h,n=>by
  have a:x≠c:=λz=>n (by rw[z];exact Om);have H:o[i]?=gV c:=by assumption
  have N:c∉o.take i:=λz=>(by simp_all);rw[Z2,pV H N];have:(x == c)=false:=by simpa using a
  rw[this];rfl
inductive B1 (vs:ab V)(H:Hp)(Q:VK)(E:XK):Prop
 |mk (s:C')(ys:ab V)(out:ab (ab Int))(h0:vs=[.ref s])(a:H s=gV (.lst ys))(b:CLs H out ys)(c:out.length<=4200)(q:∀l h,Same H h->H l=N4->h l=gV (.lst<|(iu out).map V.int)->Q (.ref l) h)
inductive LR (s d:C')(out:ab (ab Int))(H:Hp)(i:Nat)(a:ab (NW V))(G:Hp):Prop
 |mk (x X:NW V)(D:ab (ab aK×V))(I:a=[gV<|.ref s,gV<|.ref d,x,X])(b:G d=gV (.dT D))(e:∀c:ab Int,bh D (gP c)=if c∈out.take i then gV (.int ((out.idxOf c:Nat):Int))else N4)(f:D.length<=i)(g:Same H G)
theorem B2(q:St)(f:Nat->V)(E:c=N4::q)(e:H a=gV (.lst X))(g:H D=N4)(P:X.length<=9000)
  (k:∀i x,X[i]?=gV x->∀d R,Same H d->R (f i) d->t (gV x::q) d R) (l:Q (.ref D) (upd H D<|.lst<|(O1 X.length).map f)):i9 (Em K a) D (df 0) Kl t c H Q:=by
 have n:=ah e g;refine cy (xs:=X) (λi b y h=>(∃v,b=v::q)/\y=(O1 i).map f/\h=upd H D (.lst y)) ⟨⟨N4,E⟩,rfl,rfl⟩ ?_ ?_ ?_
 ·rintro i b y h z ⟨z,z,rfl⟩;exact⟨aa,SqL.of<|by rwa[af n]⟩
 ·rintro i x b y h j ⟨⟨v,rfl⟩,rfl,rfl⟩;have W:=(NT.mp j).1;refine cq<|k i x j _ _ (ad g _) ⟨aa,cg (by rw[J',Pm];lia),⟨_,rfl⟩,?_,?_⟩
  ·rw[Q3,Oy];rfl
  rw[gx]
 simp_all
theorem JI(F:Fun K "first_places" "first_places" JH f fd)(T:Bl mg):ao P w K mg Z aP 1 f fd ["sets"] B1:=by
 refine F.okB (N:=["sets","places","place","literals"]) λQC A O s H vs Q E sc hr h=>?_;have hu:=hr.units;have Va:(A.deeper<|P5 "first_places" (aw JH) s.heap.objs.size f QC).units+1<RT:=by lia
 obtain⟨u,ys,o,rfl,v,B,h3,q⟩:=h;have P1:=B.length;refine⟨_,(ae (sT 1 mQ)
  (ae (dP Pt rfl gg gg
   (ap<|cB<|tU Va (pv 1) (pv 3) (pv 2) ⟨rfl,rfl,rfl,rfl⟩))
  (cr<|jR ["literals","places"] [N4,gV 1] (aT<|pv 0) (e:=λS S S S=>(bz Va (pv 1) (pv 0) λS S=>rfl))))),λl N=>?_⟩;have k1:=ad N<|.dT [];have s1:=CB k1;refine⟨_,rfl,u,rfl,⟨_,SqL.of<|k1 _ _ v⟩,eA (K:=K) (X:=ys) (LR u l o H) ⟨N4,N4,[],rfl,s1,λc=>rfl,N1 _,k1⟩ ?_ ?_ ?_⟩
 ·rintro i σ G S ⟨S,S,S,S,S,S,S,k⟩;exact SqL.of<|k _ _ v
 ·rintro i x σ G m L ⟨x2,x3,D,rfl,M,d,i3,I⟩ U;have W:Same G (upd G m<|.tup [.int i,x]):=ad U _;obtain⟨c,g,t,rfl,X⟩:=((B.mono I).mono W).get L;have Wy:=(NT.mp g).1;have a:upd G m (.tup [.int i,.ref t]) t=gV (.tup<|(gP c).map kV):=by rwa[kP]
  have J:=W _ _ M;have Y:=I.trans W;have p:=@aa G m (.tup [.int i,.ref t]);generalize upd G m (.tup _)=G1 at a J Y p ⊢;have et:=vp g;exists m,_,rfl,SqT.of p,rfl,_,_,rfl,_,_,rfl,rfl;exists _,rfl,l,rfl,.inr ⟨_,.inl J⟩,_,rfl,_,rfl;have b:=d c;by_cases y:c∈o.take i
  ·rw[Oi y]at b;refine .inl ⟨.int ((o.idxOf c):Int),by rw[<-b];exact DGet.t J a,?_⟩;refine⟨_,_,D,rfl,J,λC=>?_,Nat.le_succ_of_le i3,Y⟩;grind
  rw[Oh y]at b;have ei:=pV g y;refine .inr ⟨by rw[<-b];exact DGet.t J a,_,DPut.t J a (cg<|by lia),⟨_,_,_,rfl,aa,λC=>?_,?_,Y.upd_new N _⟩⟩
  ·rw[fV];by_cases e:C=c
   ·simp_all
   rw[Oh λz=>e<|hH.mp z];simp_all
  have:=dg D (gP c)<|.int (i);lia
 rintro σ G ⟨x2,x3,D,rfl,M,d,i3,I⟩;rw[Od<|by simp_all]at d;refine⟨_,rfl,u,rfl,⟨_,SqL.of<|I _ _ v⟩,λDl n=>?_⟩;refine B2 [gV<|.ref l] (λi=>.int ((o.idxOf (o.getD i [])))) rfl (I _ _ v) n (by lia) (λi x L H' R k r=>?_) ?_
 ·obtain⟨c,g,t,rfl,X⟩:=(B.mono<|I.trans k).get L;have a:H' t=gV (.tup<|(gP c).map kV):=by rwa[kP]
  have b:=d c;rw[Oi<|N7 g]at b;have eg:o.getD i []=c:=by simp_all
  rw[eg]at r;exact⟨_,rfl,_,rfl,l,_,rfl,by rw[<-b];exact DGet.t (k _ _ M) a,r⟩
 have k5:=ad n<|.lst ((O1 ys.length).map λi:Nat=>V.int ((o.idxOf (o.getD i []))));refine q Dl _ (I.trans k5) (I.free n) ?_;rw[aa]
 congr 2
 unfold iu;rw[O_];refine RZ λj=>?_;grind
theorem B3:x∈gO a k↔x∈a\/x=k:=by
 unfold gO
 split
 ·simp_all
 simp
theorem pW:∀{s a:ab Int} {x:Int},x∈s.foldl gO a↔x∈a\/x∈s
 |[],a,x=>by simp
 |k::s,a,x=>by
  rw[Q4,pW,B3,Oz,or_assoc]
theorem vv(h:A.Nodup):(gO A k).Nodup:=by
 unfold gO
 split
 ·exact h
 rename_i n;rw[Qi];exact⟨h,by simp,λx H y a z=>by rw[N9.mp a]at z;exact n<|z▸H⟩
theorem lP:∀{k a:ab Int},a.Nodup->(k.foldl gO a).Nodup
 |[],_,h=>h
 |_::k,_,h=>lP (k:=k)<|vv h
section
variable {nm:Nat->ab Int}{last:Nat}
theorem fJ:∀j,(bF nm last j).Nodup
 |0=>by show([(last)]:ab Int).Nodup;simp
 |j+1=>by
  show(if _ then _ else _:ab Int).Nodup
  split
  ·exact lP<|fJ j
  exact fJ j
theorem eY:x∈bF nm last (j+1)↔x∈bF nm last j\/(((last-j:Nat):Int)∈bF nm last j/\x∈nm (last-j)):=by
 show x∈(if _ then _ else _)↔_
 split
 ·rw[pW];simp_all
 simp_all
theorem jk(h:x∈bF nm last j):∀m,x∈bF nm last (j+m)
 |0=>h
 |m+1=>eY.mpr<|.inl<|jk h m
theorem fK(H:∀i,i<=last->∀k∈nm i,0<=k/\k<(i:Int)):∀{j:Nat} {x:Int},x∈bF nm last j->0<=x/\x<=(last:Int)
 |0,x,h=>by
  have a:=N9.mp h;simp_all
 |j+1,x,h=>by
  obtain z|⟨y,z⟩:=eY.mp h
  ·exact fK H z
  have:=H _ (hJ _ _) x z;omega
theorem nN(H:∀i,i<=last->∀k∈nm i,0<=k/\k<(i:Int))(a:last-j<=p):∀m,(p:Int)∈bF nm last (j+m)->(p:Int)∈bF nm last j
 |0,h=>h
 |m+1,h=>by
  obtain z|⟨_,z⟩:=eY.mp ‹_›
  ·exact nN H a m z
  have:=H (last-(j+m)) (hJ _ _) _ z;omega
theorem jU(H:∀i,i<=last->∀k∈nm i,0<=k/\k<(i:Int)){p:Nat}(h:(p:Int)∈bF nm last (last+1)):∀k∈nm p,k∈bF nm last (last+1):=λk b=>by
 have X:p<=last:=by
  have:=(fK H h).2;simp_all
 have e:last+1=(last-p)+(p+1):=by lia
 rw[e]at h;have c:=nN H (by simp_all) _ h;have d:=eY.mpr<|.inr ⟨by rwa[show last-(last-p)=p by lia],by rwa[show last-(last-p)=p by lia]⟩;have a:=jk d p;lia
theorem vw(j:Nat):(last:Int)∈bF nm last j:=by
 have:=jk (nm:=nm) (j:=0) (x:=(last)) (N9.mpr rfl) j
 simp_all
end
theorem vx{o:ab (ab Int)}{k:Nat}{c:ab Int}(h:o[k]?=gV c):o.idxOf c<=k:=by
 obtain g|g:=WQ k (o.idxOf c)
 ·exact absurd (NT.mp h).2 (by
   have:=WT g;simpa using this)
 exact g
theorem jl{o:ab (ab Int)}{c:ab Int}(h:c∈o):o.idxOf c<o.length/\o[o.idxOf c]?=gV c:=by
 have H:=Wc.mpr h;exists H;rw[K' H,Yv]
noncomputable abbrev LS:Pk:=top 70
theorem JJ{A B:Hp->Prop}(h:A H):Kl c H λb a=>if b=NU then A a else B a:=by
 assumption
inductive He (Q:St)(h:Hp)(D:C')(e:Nat->Oe)(i:Nat)(a:St)(ys:ab V)(H:Hp):Prop
 |mk (v:NW V)(h0:a=v::Q)(b:H D=gV (.lst ys))(c:Same h H)(d:cO H ((O1 i).map e) ys)
theorem pX(q:St)(e:Nat->Oe)(E:k=N4::q)(p:c a=gV (.lst X))(l:c D=N4)(P:X.length<=9000)(u:∀i,i<X.length->bd (e i))
  (w:∀i x,X[i]?=gV x->∀H R,Same c H->(∀v h,Same H h->RD h (e i) v->R v h)->T (gV x::q) H R)
  (z:∀y H,Same c H->H D=gV (.lst y)->cO H ((O1 X.length).map e) y->Q (.ref D) H):i9 (Em K a) D (df 0) Kl T k c Q:=by
 refine cy (xs:=X) (He q c D e) ⟨N4,E,aa,ad l _,au⟩ ?_ ?_ ?_
 ·rintro i r y m j ⟨j,j,f,b,j⟩;exact⟨f,SqL.of<|b _ _ p⟩
 ·rintro i x r y m s ⟨G,rfl,f,b,g⟩;have W:=(NT.mp s).1;refine cq<|w i x s _ _ b λv I n B=>?_;have o:=ci g;rw[J',Pm]at o;have t:=n _ _ f;have A:∀d∈(O1<|i+1).map e,bd d:=λd C=>by
   grind
  refine⟨t,cg (by lia),_,rfl,aa,(b.trans n).upd_new l _,pT t A ?_⟩;rw[Q3,Oy];exact nJ (bZ n _ _ g)<|ag B au
 rintro r y m ⟨j,j,f,b,g⟩;exact z y m b f g
inductive B4 (Q:St)(h:Hp)(D:C')(ks:ab Int)(i:Nat)(a:St)(ys:ab V)(H:Hp):Prop
 |mk (v b:NW V)(T:ab C')(h0:a=v::b::Q)(c:H D=gV (.lst ys))(d:Same h H)(e:ys=T.map V.ref)(f:T.length=i)(g:∀(j:Nat) (t:C') (k:Int),T[j]?=gV t->ks[j]?=gV k->H t=gV (.tup [.int k,.int (j:Int)]))
theorem kQ{a b:Type}(d:a)(g:a->b)(l:ab a)(h:n=l.length):(O1 n).map (λi=>g<|l.getD i d)=l.map g:=by
 refine RZ λj=>?_;rw[Og,Og];by_cases H:j<l.length
 ·simp_all
 simp_all
noncomputable def nO(n:ab Int):ab (aK×V):=(O1 n.length).map λi=>((OW (n.getD i 0):aK),V.int (i:Int))
theorem zj(n:ab Int):(nO n).map (·.1)=n.map (OW:Int->aK):=by
 unfold nO;rw[O_];exact kQ 0 _ n rfl
theorem B5(a:k∈n):bh (nO n) (OW k:aK)=gV (.int ((n.idxOf k:Nat):Int)):=by
 have g:∀(l:ab Int) (s:Nat),k∈l->bh ((O1 l.length).map λi=>((OW (l.getD i 0):aK),V.int ((s+i:Nat)))) (OW k)=gV (.int ((s+l.idxOf k:Nat))):=by
  intro l
  induction l with
  |nil=>exact λy h=>nomatch h
  |cons x l I=>
   intro s m;rw[Os,List.range_succ_eq_map,OH];unfold bh;rw[Rp];by_cases e:x=k
   ·simp_all
   have E:decide ((OW ((x::l).getD 0 0):aK)=OW k)=false:=N3 λz=>e<|Qo z;have H:=(Oz.mp m).resolve_left λz=>e z.symm;have:=I (s+1) H;simp only[E];unfold bh at this;rw[Z2,show(x == k)=NZ by simpa using e];simp_all
 have:=g n 0 a;simp only[QK]at this;exact this
noncomputable def fk(d:ab Oe)(n:ab Int):ab Oe:=n.map λp=>bG (λk=>((n.idxOf k:Nat):Int))<|d.getD p.toNat .none
noncomputable def bB(o:ab (ab Int))(k:Int):Int:=(iu o).getD k.toNat 0
noncomputable def xm(d:ab Oe)(i:Nat):ab Int:=bp<|d.getD i .none
inductive B6 (vs:ab V)(H:Hp)(Q:VK)(E:XK):Prop
 |mk (p q pp L:C')(t:Str)(hw:N6)(xs s:ab V)(C:ab (ab Int))(ds:ab Oe)(out:ab (ab Int))(h0:vs=[.ref p,.ref pp])(i:H p=gV (.tup [.str t,.ref q]))(j:t.length<=30)(k:H q=gV (.lst xs))(m:CLs H C xs)(n:C.length<=900)(o:(∀c∈C,ar t.length c))(u:H pp=gV (.tup [.str<|ax hw,.ref L]))(v:H L=gV (.lst s))(w:cO H ds s)(a:ds.length<=4200)(b:(∀d∈ds,bd d))(e:bE t C hw [] ds=(out,NU))(f:o7 out=NU)
   (g:∀r l ys nd h,Same H h->H r=N4->H l=N4->h r=gV (.tup [.str<|ax hw,.ref l])->h l=gV (.lst ys)->cO h (fk (ds.map<|bG<|bB out) nd) ys->T4 nd (bF (xm<|ds.map<|bG<|bB out) (out.idxOf [])<|out.idxOf []+1)->Sv (·<=·) nd->Q (.ref r) h):B6 vs H Q E
theorem JK(F:Fun K "shortened_paper" "shortened_paper" LS f fd)(T:Bl mg)(cf:Fe P w K mg B 7 "whole_sets" xj)(ch:Fe P w K mg B 1 "first_places" B1)(a7:Fe P w K mg B 1 "renamed" vq)(a8:Fe P w K mg B 2 "needed_by" B0)(a9:Fe P w K mg B 1 "renamed" vt):ao P w K mg B aP 8 f fd ["sentence","paper"] B6:=by
 refine F.okB (N:=["sentence","paper","sets","firsts","lines","needed","numbers"]) λQC A ba s H vs Q E sc hr h=>?_;obtain⟨p,q,pp,la,t,hw,xs,ls,cs,D,o,rfl,hp,ht,hq,bb,h9,VB,W,Zy,Zz,h8,c,Rz,av,q'⟩:=h;have hu:=hr.units;have bc:o.length=D.length:=by
  have:=cM Rz;simpa using this
 have ck:=ci Zz;obtain⟨he,z9⟩:=BW av;refine⟨_,(ae gg
  (ae gg
  (ae (sT 4<|jR ["line","firsts"] [N4,gV 3] (aT gg) (e:=λS S S S=>(rY a7 hr gg)))
  (ae (sT 5<|rY a8 hr<|g_ (pv 4)<|fC Pe Uv Wm (pR hu) (pv 2) gg)
  (ae (sT 6<|bv (fi rfl) rfl T.dict Rt<|gY<|qB (N:=["number","place"]) (i:=[N4,N4]) rfl cS gg (λS S S S=>(wK (K:=K) (n:=2) rfl rfl<|dw (mq 0<|nD ["number","place"])<|dw (mq 1<|nD ["number","place"]) ma)) (λS S S S=>mh) λS S S S=>gg)
  (cr<|dQ<|g_ gg<|jR ["place","numbers","lines"] [N4,gV 6,gV 4] (aT<|pv 5) (e:=λS S S S=>(rY a9 hr<|g_ (y_ (K:=K) (pv 2)<|pv 0)<|pv 1)))))))),?_⟩
 refine⟨_,rfl,_,rfl,p,q,pp,la,t,hw,xs,ls,cs,D,o,rfl,hp,ht,hq,bb,h9,VB,W,Zy,Zz,by lia,(λd l=>(xk<|c d l).1),Rz,av,λsl ys H1 k1 cl X VL=>?_⟩;have co:=VL.length;refine⟨_,rfl,sl,ys,o,rfl,X,VL,by simp_all,λfl H2 k2 cp bf=>?_⟩;have Xb:=k1.trans k2;have ct:(iu o).length=D.length:=by unfold iu;rw[J',bc]
 have az:∀(i:Nat) (d:Oe),D[i]?=gV d->∀k∈bp d,0<=k/\k<(i:Int):=λi d l k J=>by
  have bg:=nG Rz l;have:=t5 (c _<|N7 l) bg k J;grind
 refine⟨_,rfl,(a_ (Xb _ _ W) rfl ⟨la,rfl,⟨_,SqL.of<|Xb _ _ Zy⟩,λD1 bk=>?_⟩)⟩;refine pX [gV<|.ref fl] (λi=>bG (bB o)<|D.getD i .none) rfl (Xb _ _ Zy) bk (by lia) (λi hi=>jT<|by simp_all) (λi x y H' R k r=>?_) λl1 H3 k3 aC Yb=>?_
 ·have Wy:i<D.length:=by have:=(NT.mp y).1;simp_all
  have l:=getD_some (d:=Qj) Wy;have rx:=cL (bZ (Xb.trans k) _ _ Zz) y;exact⟨_,rfl,_,rfl,x,fl,D.getD i .none,iu o,rfl,rx,c _<|N7 l,k _ _ bf,(λz hz=>by have:=az i _ l z hz;lia),r⟩
 rw[kQ Qj (bG<|bB o) D<|by lia]at Yb;have g1:∀d∈D.map (bG<|bB o),bd d:=λd l=>by
  obtain⟨d',h',rfl⟩:=OT.mp l;exact jT<|c d' h'
 have bl:([]:ab Int)∈o:=N7 z9;obtain⟨aF,bm⟩:=jl bl;have br:=Xb.trans k3;have Y:=k2.trans k3;refine⟨_,rfl,_,rfl,.inl ⟨rfl,_,SqL.of<|Y _ _ X⟩,Ou _,λet bs=>?_⟩;have k4:=ad bs<|.tup [];have s4:=CB k4;generalize upd H3 et (.tup [])=H4 at k4 s4 ⊢;have eG:∀j,j<o.length->(o.map ii).getD j .none=ii (o.getD j []):=λj C=>by
  rw[A',A',Og,K' C];rfl
 refine⟨.tuple [],o.map ii,_,sl,ys,o.idxOf [],rfl,rfl,(Y.trans k4) _ _ X,(VL.mono<|Y.trans k4).rds,aQ s4 au,by rfl,gL o,by decide+kernel,by rw[J'];exact aF,?_,λm hm=>?_,?_⟩
 ·rw[eG _ aF,gM,A',bm];rfl
 ·rw[eG _ (WO hm aF),gM];refine N3 λz=>?_;have bt:o[m]?=gV []:=by rw[A',K'<|by exact WO hm aF]at z;rw[K'<|by exact WO hm aF];exact OY gV z
  have:=vx bt;lia
 refine⟨D1,l1,D.map<|bG<|bB o,o.idxOf [],rfl,k4 _ _ aC,bZ k4 _ _ Yb,g1,by simp_all,by simp_all,λnl N H5 k5 cu L aL b0=>?_⟩;have u:T4 N (bF (xm<|D.map<|bG<|bB o) (o.idxOf [])<|o.idxOf []+1):=aL;clear aL;have a0:∀i,i<=o.idxOf []->∀k∈xm (D.map<|bG<|bB o) i,0<=k/\k<(i:Int):=λi hi k J=>by
  have l:=getD_some (d:=Qj) (show i<D.length by lia);have e1:(D.map<|bG<|bB o).getD i .none=bG (bB o) (D.getD i .none):=by rw[A',Og,l];rfl
  have O:k∈bp ((D.map<|bG<|bB o).getD i .none):=J;rw[e1,pU<|c _<|N7 l]at O;obtain⟨k0,b1,rfl⟩:=OT.mp O;have cv:=az i _ l k0 b1;obtain⟨n0,rfl⟩:∃n:Nat,k0=(n:Int):=⟨k0.toNat,by lia⟩;have Z:n0<o.length:=by lia
  have ef:bB o (n0:Int)=((o.idxOf (o[n0]'Z):Nat):Int):=by
   unfold bB iu;rw[OP,A',Og,K' Z];rfl
  have:=vx<|K' Z;rw[ef];lia
 have ac:∀x∈N,0<=x/\x<=((o.idxOf []:Nat):Int):=λx y=>fK a0<|u.mem_iff.mp y;have b2:N.Nodup:=u.nodup_iff.mpr<|fJ _;have a1:N.length<=9000:=by
  have:=iN (n:=xm<|D.map<|bG<|bB o) (l:=o.idxOf []) (λi=>iO _)<|o.idxOf []+1;rw[u.length_eq];lia
 have b3:∀x∈N,∀k∈bp ((D.map<|bG<|bB o).getD x.toNat .none),k∈N:=λx y k J=>by
  have WA:=u.mem_iff.mp y;have cz:=ac x y;obtain⟨n,rfl⟩:∃n:Nat,x=(n:Int):=⟨x.toNat,by lia⟩;rw[OP]at J;exact u.mem_iff.mpr<|jU a0 WA k J
 have am:=k4.trans k5;have b4:=br.trans am;refine⟨_,rfl,nl,rfl,⟨_,SqL.of L⟩,λD2 a2=>?_⟩;refine pO (K:=K) (a:=nl) (X:=N.map V.int) (B4 [] H5 D2 N) ⟨N4,N4,[],rfl,aa,ad a2 _,rfl,rfl,λj t k h S=>by grind⟩ ?_ ?_ ?_
 ·rintro i σ zs G S ⟨S,S,S,S,i1,i2,S⟩;exact⟨i1,SqL.of<|i2 _ _ L⟩
 ·rintro i x σ zs G t0 y ⟨v0,v1,ts,rfl,i1,i2,rfl,i4,i5⟩ b5;obtain⟨k,rfl,J⟩:=cU y;have Wy:=(NT.mp J).1;have k6:=ad b5<|.tup [.int (i:Nat),.int k];have s6:=CB k6;generalize upd G t0 (.tup [.int (i:Nat),.int k])=G6 at k6 s6 ⊢;refine⟨t0,[.int (i:Nat),.int k],rfl,SqT.of s6,rfl,_,_,rfl,_,_,rfl,rfl,JJ ⟨_,rfl,_,rfl,(by show 2<=sizeLine;decide),λtt b6=>?_⟩⟩;have k7:=ad b6<|.tup [.int k,.int (i:Nat)];have d7:=(k6.trans k7) _ _ i1;refine⟨d7,cg (by rw[J'];lia),_,_,ts++[tt],rfl,?_,(i2.trans<|k6.trans k7).upd_new a2 _,?_,by rw[NX,i4];rfl,λj t' k' C O=>?_⟩
  ·rw[aa]
  ·rw[Oy];rfl
  have U:∀{b:C'} {zs:ab V},upd G6 tt (.tup [.int k,.int (i:Nat)]) b=gV (.tup zs)->upd (upd G6 tt<|.tup [.int k,.int (i:Nat)]) D2 (.lst<|ts.map V.ref++[.ref tt]) b=gV (.tup zs):=λe=>by
   rw[af λz=>by simp_all];exact e
  obtain g|g:=Nat.lt_or_ge j ts.length
  ·rw[OA g]at C;exact U<|(k6.trans k7) _ _<|i5 j t' k' C O
  rw[Ow g]at C;have b7:j=i:=by
   have:=(NT.mp C).1;rw[OG]at this;lia
  subst b7;rw[i4,PY]at C;cases C;rw[J]at O;cases O;exact U aa
 rintro σ zs G ⟨v0,v1,ts,rfl,i1,i2,rfl,i4,i5⟩;rw[J']at i4;refine⟨D2,ts,nO N,rfl,i1,?_,λj t' kv C an=>?_,?_,?_,λdn cc=>?_⟩
 ·unfold nO;rw[J',Pm,i4]
 ·have c0:=(NT.mp C).1;unfold nO at an;rw[Og,Td<|by simp_all]at an;cases an;exact i5 j t' _ C (by simp_all)
 ·rw[zj];exact List.Pairwise.map _ (λa b h z=>h<|Qo z) b2
 ·unfold nO;rw[J',Pm];exact a1
 have k8:=ad cc<|.dK<|nO N;have s8:=CB k8;generalize upd G dn (.dK<|nO N)=G8 at k8 s8 ⊢;have I:=i2.trans k8;have M:=b4.trans I;refine⟨_,rfl,(a_ (M _ _ W) rfl ⟨_,rfl,nl,rfl,⟨_,SqL.of<|I _ _ L⟩,λD3 a3=>?_⟩)⟩;refine pX [gV<|.ref dn,gV<|.ref D1] (λi=>bG (λk=>((N.idxOf k:Nat):Int))<|(D.map<|bG<|bB o).getD (N.getD i 0).toNat .none) rfl (I _ _ L) a3 (by simp_all) (λi hi=>?_) (λi x y H' R k r=>?_) λl3 H9 k9 cd a4=>?_
 ·rw[J']at hi;have y:=ac _<|N7<|getD_some (d:=(0:Int)) hi;exact jT (g1 _<|N7<|getD_some (d:=Qj)<|by grind)
 ·obtain⟨z,rfl,hz⟩:=cU y;have ce:N.getD i 0=z:=by simp_all
  rw[ce]at r;have a5:=N7 hz;have c1:=ac z a5;obtain⟨n,rfl⟩:∃n:Nat,z=(n:Int):=⟨z.toNat,by lia⟩;rw[OP]at r;have hn:n<(D.map<|bG<|bB o).length:=by rw[J'];lia
  have a6:=bZ (am.trans<|I.trans k) _ _ Yb;have c2:=ci a6;obtain⟨v,hv⟩:∃v,l1[n]?=gV v:=⟨_,K' (by lia)⟩;have rv:=cL a6 hv;have TQ:=b3 _ a5;rw[OP]at TQ;exact⟨_,rfl,_,rfl,(dM ((am.trans (I.trans k)) _ _ aC) (aH hv) ⟨_,rfl,v,dn,(D.map (bG (bB o))).getD n .none,nO N,λk=>((N.idxOf k:Nat):Int),rfl,rv,g1 _ (N7 (getD_some (d:=Qj) hn)),k _ _ s8,(λk' O=>B5 (TQ k' O)),r⟩)⟩
 refine⟨(by show 2<=sizeLine;decide),λr nr=>?_⟩;have as:=ad nr<|.tup [.str<|ax hw,.ref D3];rw[J',kQ _ (λp=>bG (λk=>((N.idxOf k):Int))<|(D.map<|bG<|bB o).getD _ _) N rfl]at a4;exact q' r D3 l3 N _ (M.trans<|k9.trans as) ((M.trans k9).free nr) (M.free a3) aa (as _ _ cd) (bZ as _ _ a4) u b0
theorem gQ(t:Str)(c:ab (ab Int))(h:N6)(s:ab (ab Int))(k:Int):aI t c h s (.tuple [.str aM,.int k])=if h=NU then N4 else ji c (.int k):=by
 cases h<;>rfl
theorem kR(t:Str)(C:ab (ab Int))(h:N6)(s:ab (ab Int))(c:ab Int):aI t C h s (.tuple [.str bD,ii c])=if h=NU then lK t.length C (ii c)else none:=by
 cases h<;>rfl
theorem iP(t:Str)(c:ab (ab Int))(h:N6)(s:ab (ab Int))(i j z:Int):aI t c h s (.tuple [.str aY,.int i,.int j,.int z])=dF t h s (.int i) (.int j) (.int z):=by
 cases h<;>rfl
theorem gj{n:Nat}{k:Int}(h:0<=k/\k<(n:Int)):aU n (.int k)=gV k.toNat:=by
 show(if 0<=k/\k<(n)then gV _ else N4)=_
 rw[Oi h]
theorem mw:dF t w s (.int i) (.int j) (.int z)=gV c↔(0<=i/\i<(s.length:Int))/\(0<=j/\j<(s.length:Int))/\eB t w (s.getD i.toNat []) (s.getD j.toNat []) z=NU/\bH (s.getD i.toNat []) (s.getD j.toNat []) z=c:=by
 unfold dF;by_cases H:0<=i/\i<(s.length)
 ·by_cases a:0<=j/\j<(s.length)
  ·rw[gj H,gj a];simp_all
  have:aU _ (.int j)=none:=Oh a;rw[gj H,this];exact⟨λh=>(nomatch h),λh=>absurd h.2.1 a⟩
 have:aU _ (.int i)=none:=Oh H;rw[this];exact⟨λh=>(nomatch h),λh=>absurd h.1 H⟩
theorem nQ:gb t w s (.int k)=gV c↔(0<=k/\k<(s.length:Int))/\aG t w (s.getD k.toNat [])=c:=by
 unfold gb;by_cases H:0<=k/\k<(s.length)
 ·rw[gj H];exact⟨λh=>⟨H,Ot h⟩,λh=>OY gV h.2⟩
 have:aU _ (.int k)=none:=Oh H;rw[this];exact⟨λh=>(nomatch h),λh=>absurd h.1 H⟩
theorem B7{A:ab (ab Int)}{f:Int->Int}(g:bd d)(h:aI t C w s d=gV c)
  (H:∀k∈bp d,(0<=f k/\f k<(A.length:Int))/\A.getD (f k).toNat []=s.getD k.toNat []):aI t C w A (bG f d)=gV c:=by
 obtain⟨k,rfl⟩|⟨n,o,rfl⟩|⟨k,rfl⟩|⟨i,j,z,rfl⟩:=g
 ·assumption
 ·assumption
 ·rw[eD,iM,nQ];rw[iM,nQ]at h;obtain⟨a,b⟩:=H k (N9.mpr rfl);exact⟨a,by rw[b];exact h.2⟩
 rw[eE,iP,mw];rw[iP,mw]at h;obtain⟨e,B⟩:=H i (Om);obtain⟨l,m⟩:=H j (by rw[cG];simp);rw[B,m];exact⟨e,l,h.2.2.1,h.2.2.2⟩
theorem FH(h:bd d):bG f (bG g d)=bG (λk=>f<|g k) d:=by
 obtain⟨k,rfl⟩|⟨c,H,rfl⟩|⟨k,rfl⟩|⟨i,j,z,rfl⟩:=h
 ·rfl
 ·rfl
 ·rfl
 rfl
theorem jm(h:0<=k/\k<(o.length:Int)):bB o k=((o.idxOf (o.getD k.toNat []):Nat):Int)/\o.getD (bB o k).toNat []=o.getD k.toNat []/\0<=bB o k/\bB o k<=k:=by
 obtain⟨n,rfl⟩:∃n:Nat,k=(n):=⟨k.toNat,by lia⟩;have a:n<o.length:=by simp_all
 have H:=getD_some (d:=([])) a;have e:bB o (n)=((o.idxOf (o.getD n []))):=by
  unfold bB iu;rw[OP,A',Og,H];rfl
 have m:=N7 H;obtain⟨c,b⟩:=jl m;have d:=vx H;simp_all
theorem nU(r:bE t c w [] D=(o,NU))(H:∀d∈D,bd d){i:Nat}{d:Oe}(h:D[i]?=gV d):∀k∈bp d,0<=k/\k<(i:Int):=λk a=>by
 have:=t5 (H _<|N7 h) (nG r h) k a;grind
theorem B8{D:ab Oe}{o:ab (ab Int)}(H:∀d∈D,bd d)(h:D[i]?=gV d):xm (D.map<|bG<|bB o) i=(bp d).map (bB o):=by
 unfold xm;rw[A',Og,h];exact pU<|H _<|N7 h
theorem JL(r:bE t C w [] D=(o,NU))(h:∀d∈D,bd d)(j:l<D.length):∀i,i<=l->∀k∈xm (D.map<|bG<|bB o) i,0<=k/\k<(i:Int):=λi m k H=>by
 have c:=getD_some (d:=Qj) (show i<D.length by exact Q_ m j);have f:o.length=D.length:=by
  have:=cM r;simpa using this
 rw[B8 h c]at H;obtain⟨e,g,rfl⟩:=OT.mp H;have n:=nU r h c e g;obtain⟨z,z,a,b⟩:=jm (o:=o) (k:=e) (by lia);lia
structure FI (t:Str)(cs:ab (ab Int))(hw:N6)(ds:ab Oe)(out:ab (ab Int))(nd:ab Int):Prop where
 run:bE t cs hw [] (fk (ds.map<|bG<|bB out) nd)=(nd.map λp=>out.getD p.toNat [],NU)
 good:∀d∈fk (ds.map<|bG<|bB out) nd,bd d
 few:nd.length<=ds.length
 last:nd.getLast?=gV ((out.idxOf []:Nat):Int)
 nodup:(nd.map λp=>out.getD p.toNat []).Nodup
theorem Hf{N:ab Int}(h:N.Pairwise (·<=·))(n:N.Nodup){i j:Nat}{x y:Int}(a:N[i]?=gV x) (H:N[j]?=gV y) (r:x<y):i<j:=by
 obtain g|g|g:=VU i j
 ·exact g
 ·simp_all
 have:=Q6.mp h j i (NT.mp H).1 (NT.mp a).1 g;rw[(NT.mp H).2,(NT.mp a).2]at this;lia
theorem pY:∀{N:ab Int} {b n:Int},N.Pairwise (·<=·)->N.Nodup->(∀x∈N,b<=x/\x<n)->(N.length:Int)<=max 0 (n-b)
 |[],b,n,_,_,_=>by simp;omega
 |x::r,b,n,h,u,a=>by
  rw[RG]at h;rw[PU]at u;have:=pY (b:=x+1) (n:=n) h.2 u.2 λy H=>by
   have c:=h.1 y H;have d:=a y<|Ov _ H;have:x≠y:=λe=>u.1<|e▸H;lia
  have f:=a x Om;grind
theorem FJ(q:bE t C B [] D=(o,NU))(c:∀d∈D,bd d)(hm:[]∈o)(m:T4 N (bF (xm<|D.map<|bG<|bB o) (o.idxOf [])<|o.idxOf []+1))(E:N.Pairwise (·<=·)):FI t C B D o N:=by
 have ac:o.length=D.length:=by
  have:=cM q;simpa using this
 obtain⟨hE,F⟩:=jl hm;have A:=JL q c (show o.idxOf []<D.length by lia);have U:∀x∈N,0<=x/\x<=((o.idxOf []:Nat):Int):=λx H=>fK A<|m.mem_iff.mp H;have b:N.Nodup:=m.nodup_iff.mpr<|fJ _;have I:∀x∈N,∀k∈xm (D.map<|bG<|bB o) x.toNat,k∈N:=λx H k f=>by
  have WA:=m.mem_iff.mp H;have:=U x H;obtain⟨n,rfl⟩:∃n:Nat,x=(n:Int):=⟨x.toNat,by lia⟩;rw[OP]at f;exact m.mem_iff.mpr<|jU A WA k f
 have s:∀x∈N,bB o x=x:=λx H=>by
  have G:∀(j:Nat) (x:Int),x∈bF (xm<|D.map<|bG<|bB o) (o.idxOf []) j->x=(o.idxOf []:Nat)\/∃k,0<=k/\k<(o.length:Int)/\x=bB o k:=by
   intro j
   induction j with
   |zero=>exact λx h=>.inl<|N9.mp h
   |succ j J=>
    intro x h;obtain z|⟨_,z⟩:=eY.mp h
    ·exact J x z
    have a:=getD_some (d:=Qj) (show o.idxOf []-j<D.length by lia);rw[B8 c a]at z;obtain⟨k0,L,rfl⟩:=OT.mp z;have hr:=nU q c a k0 L;exact .inr ⟨k0,by lia,by lia,rfl⟩
  have M:∀k:Int,0<=k/\k<(o.length:Int)->bB o (bB o k)=bB o k:=λk f=>by
   obtain⟨O,e2,e3,e4⟩:=jm f;obtain⟨P,_,_,_⟩:=jm (o:=o) (k:=bB o k) (by lia);rw[P,e2,<-O]
  obtain z|⟨k,L,h1,z⟩:=G _ x (m.mem_iff.mp H)
  ·obtain⟨P,_,_,_⟩:=jm (o:=o) (k:=x) (by simp_all);rw[P,z,OP,A',F];rfl
  rw[z];exact M k ⟨L,h1⟩
 have u:∀(i:Nat) (x:Int),N[i]?=gV x->(fk (D.map<|bG<|bB o) N)[i]?=gV (bG (λk=>((N.idxOf (bB o k):Nat):Int))<|D.getD x.toNat .none):=λi x H=>by
  have r:=U x<|N7 H;have a:=getD_some (d:=Qj) (show x.toNat<D.length by lia);unfold fk;rw[Og,H];show gV (bG _<|(D.map<|bG<|bB o).getD x.toNat .none)=_
  have O:(D.map<|bG<|bB o).getD x.toNat .none=bG (bB o) (D.getD x.toNat .none):=by rw[A',Og,a];rfl
  rw[O,FH<|c _<|N7 a]
 have P1:(fk (D.map<|bG<|bB o) N).length=N.length:=by unfold fk;rw[J']
 refine⟨?_,?_,?_,?_,?_⟩
 ·have G:∀i,i<=N.length->bE t C B [] ((fk (D.map<|bG<|bB o) N).take i)=((N.take i).map λp=>o.getD p.toNat [],NU):=by
   intro i
   induction i with
   |zero=>exact λ_=>rfl
   |succ i J=>
    intro l;have H:=getD_some (d:=(0:Int)) ‹_›;generalize N.getD i 0=x at H;have v:=N7 H;have r:=U x v;have a:=getD_some (d:=Qj) (show x.toNat<D.length by lia);have Q:=c _<|N7 a;have T:=nG q a;have hl:aI t C B ((N.take i).map λp=>o.getD p.toNat []) (bG (λk=>((N.idxOf (bB o k):Nat):Int))<|D.getD x.toNat .none)=gV (o.getD x.toNat []):=by
     refine B7 Q T λk f=>?_;have am:=nU q c a k f;obtain⟨_,f2,f3,f4⟩:=jm (o:=o) (k:=k) (by lia);have W:bB o k∈N:=I x v _ (by rw[B8 c a];exact P4 f);have hj:=Wc.mpr W;have w:N[N.idxOf (bB o k)]?=gV (bB o k):=by rw[K' hj,Yv]
     have X:=Hf E b w H (by lia);rw[OP,J',OC];refine⟨by lia,?_⟩;rw[A',Og,Pn X,w];show o.getD _ []=_
     rw[f2,A',A',Pn<|by lia]
    rw[tJ (J<|Y3 l) (u i x H) hl,OM,H];show _=(((N.take i++[x]).map λp=>o.getD _ []),NU)
    rw[Oy];rfl
  have:=G _<|N1 _;rwa[Od<|Ui P1,Od<|N1 _]at this
 ·intro d a;obtain⟨i,l⟩:=Qr.mp a;have Wy:i<N.length:=by
   have:=(NT.mp l).1;simp_all
  have H:=getD_some (d:=(0)) Wy;have r:=U _<|N7 H;have Y:=getD_some (d:=Qj) (show(N.getD i 0).toNat<D.length by lia);rw[u i _ H]at l;cases l;exact jT<|c _<|N7 Y
 ·have:=pY (b:=0) (n:=(D.length)) E b λx H=>by
   have:=U x H;lia
  simp_all
 ·have Z:((o.idxOf []):Int)∈N:=m.mem_iff.mpr<|vw _;obtain⟨i,l⟩:=Qr.mp Z;have Wy:=(NT.mp l).1;have H:=getD_some (d:=(0)) (show N.length-1<N.length by lia);have r:=U _<|N7 H;rw[Ta,H];by_cases g:N.getD (N.length-1) 0<((o.idxOf []):Int)
  ·have:=Hf E b H l g;lia
  congr 1
  lia
 refine Py.mpr<|b.imp_of_mem λ{x y} H hy Wi e=>Wi ?_;have ex:=s x H;have ey:=s y hy;have r:=U x H;have an:=U y hy;obtain⟨a1,_⟩:=jm (o:=o) (k:=x) (by lia);obtain⟨a2,_⟩:=jm (o:=o) (k:=y) (by lia);rw[ex]at a1;rw[ey]at a2;rw[a1,a2,e]
structure SS where
 lw:N6->ab Oe
 ow:N6->ab (ab Int)
 bs:ab N6
 fs:ab (NW<|ab Int)
 win:NW N6
noncomputable def cH{a:Type}(F:N6->ab a)(b:N6)(x:a):N6->ab a:=λc=>if c=b then F c++[x]else F c
theorem bi{a:Type}(F:N6->ab a)(b:N6)(x:a):cH F b x b=F b++[x]:=Oi rfl
theorem b8{a:Type}(F:N6->ab a)(x:a)(h:c≠b):cH F b x c=F c:=Oh h
noncomputable def dI(h:N6)(d:Oe)(c:ab Int)(S:SS):SS:=if c∈S.ow h then S else{S with lw:=cH S.lw h d,ow:=cH S.ow h c}
noncomputable def nV(k:Nat):Oe:=.tuple [.str aE,.int (k:Int)]
noncomputable def bx(t:Str)(h:N6)(d:Oe)(c:ab Int)(S:SS):SS:=dI h (nV<|((dI h d c S).ow h).idxOf c) (aG t h c)<|dI h d c S
noncomputable def pZ(i j:Nat)(v:Int):Oe:=.tuple [.str aY,.int (i:Int),.int (j:Int),.int v]
noncomputable def b9(O:ab (ab Int))(f s:ab Int)(v:Int):Oe:=if f.contains (-v)=NU then pZ (O.idxOf s) (O.idxOf f) v else pZ (O.idxOf f) (O.idxOf s) v
noncomputable def dN(b:N6)(o:NW (ab Int))(S:SS):SS:={S with bs:=S.bs++[b],fs:=S.fs++[o]}
noncomputable def bT(S:SS):SS:={S with bs:=S.bs.dropLast,fs:=S.fs.dropLast}
noncomputable def fo(t:Str)(h:N6):Nat->ab Int->SS->SS
 |0,_,S=>{S with win:=gV h}
 |k+1,c,S=>if(c.contains ((k:Int)+1) || c.contains (-((k:Int)+1)))=NU then
   match S.fs.getD k N4 with
   |none=>dN (!S.bs.getD k NZ) (gV c)<|bT S
   |some F=>fo t h k (aG t h<|bH F c<|(k:Int)+1) (bx t h (b9 (S.ow h) F c<|(k:Int)+1) (bH F c<|(k:Int)+1)<|bT S)
  else fo t h k c (bT S)
def zk(h:N6)(b:ab N6)(c:ab Int):Prop:=∀l∈c,bW h b l=NU
noncomputable def dJ:Nat->ab N6->Nat
 |_,[]=>0
 |n,b::r=>(if b=NU then 2^n else 1)+dJ (n-1) r
noncomputable def pend(f:ab (NW<|ab Int)):Nat:=(f.filter Option.isSome).length
noncomputable def b_(S:SS):Nat:=(S.lw NU).length+(S.lw NZ).length
def B9(t:Str)(S:SS)(k:Nat):Prop:=match S.fs.getD k N4 with
 |none=>S.bs.getD k NZ=NZ
 |some F=>S.bs.getD k NZ=NU/\F∈S.ow (!bJ t k)/\zk (!bJ t k) (S.bs.take k++[NZ]) F/\((k:Int)+1∈F\/ -((k:Int)+1)∈F)
structure iw (t:Str)(cs:ab (ab Int))(S:SS):Prop where
 run:∀hw,bE t cs hw [] (S.lw hw)=(S.ow hw,NU)
 good:∀hw,∀d∈S.lw hw,bd d
 nd:∀hw,(S.ow hw).Nodup
 flen:S.fs.length=S.bs.length
 blen:S.bs.length<=t.length
 fst:∀k,k<S.bs.length->B9 t S k
def JM(S:SS):Prop:=∀h,([]:ab Int)∉S.ow h
theorem zl(h:bE t C H [] D=(o,NU))(g:aI t C H o d=gV c):bE t C H [] (D++[d])=(o++[c],NU):=by
 rw[kK h,g]
section
variable {S:SS}
theorem jn(h:c∈S.ow H):dI H d c S=S:=Oi h
theorem d6(h:c∉S.ow H):dI H d c S={S with lw:=cH S.lw H d,ow:=cH S.ow H c}:=Oh h
theorem hG:(dI h d c S).bs=S.bs:=by
 unfold dI
 split<;>rfl
theorem hI:(dI h d c S).fs=S.fs:=by
 unfold dI
 split<;>rfl
theorem gF:(dI h d c S).win=S.win:=by
 unfold dI
 split<;>rfl
theorem FK(H:x∈S.ow h):x∈(dI w d c S).ow h:=by
 by_cases g:c∈S.ow w
 ·rwa[jn g]
 rw[d6 g];show x∈cH _ w c h
 by_cases e:h=w
 ·subst e;rw[bi];exact Qw _ H
 rwa[b8 _ _ e]
theorem mx:c∈(dI h d c S).ow h:=by
 by_cases g:c∈S.ow h
 ·rwa[jn g]
 rw[d6 g];show c∈cH _ h c h
 rw[bi];exact O2 _<|N9.mpr rfl
theorem nX(a:x∈(dI w d c S).ow h):x∈S.ow h\/(h=w/\x=c):=by
 by_cases g:c∈S.ow w
 ·rw[jn g]at a;exact .inl a
 rw[d6 g]at a;have H:x∈cH _ w c h:=a;by_cases e:h=w
 ·subst e;rw[bi]at H;simp_all
 rw[b8 _ _ e]at H;exact .inl H
theorem t6(h:c∉S.ow H):((dI H d c S).ow H).getLast?=gV c:=by
 rw[d6 h];show(cH _ H c H).getLast?=_
 rw[bi,List.getLast?_append];rfl
theorem kT:b_ (dI h d c S)<=b_ S+1:=by
 by_cases g:c∈S.ow h
 ·rw[jn g];simp
 rw[d6 g];show(cH _ h d NU).length+(cH _ h d NZ).length<=_
 unfold b_;cases h
 ·rw[bi,b8 _ _ (by decide),NX,OG];exact N1 _
 rw[bi,b8 _ _ (by decide),NX,OG];lia
theorem JN(H:S'.bs=S.bs)(f:S'.fs=S.fs)(s:∀h x,x∈S.ow h->x∈S'.ow h)(h:B9 t S k):B9 t S' k:=by
 unfold B9 at h ⊢;rw[H,f];cases e:S.fs.getD k N4 with
 |none=>rwa[e]at h
 |some F=>rw[e]at h;exact⟨h.1,s _ _ h.2.1,h.2.2⟩
theorem xn(I:iw t C S)(l:aI t C H (S.ow H) d=gV c)(f:bd d):iw t C (dI H d c S):=by
 by_cases g:c∈S.ow H
 ·rwa[jn g]
 have sub:=λh x (b:x∈S.ow h)=>FK (w:=H) (d:=d) (c:=c) b;rw[d6 g]at sub ⊢;refine⟨λh=>?_,λh D i=>?_,λh=>?_,I.flen,I.blen,λk j=>JN (S:=S) rfl rfl sub<|I.fst k j⟩
 ·show bE t C h [] (cH _ H d h)=(cH _ H c h,NU)
  by_cases e:h=H
  ·subst e;rw[bi,bi];exact zl (I.run h) l
  rw[b8 _ _ e,b8 _ _ e];exact I.run h
 ·have a:D∈cH _ H d h:=i;by_cases e:h=H
  ·subst e;rw[bi]at a;obtain z|z:=OB.mp a
   ·exact I.good h D z
   simp_all
  rw[b8 _ _ e]at a;exact I.good h D a
 show(cH _ H c h).Nodup
 by_cases e:h=H
 ·subst e;rw[bi,Qi];exact⟨I.nd h,by simp,λx b y m z=>by simp_all⟩
 rw[b8 _ _ e];exact I.nd h
theorem p_(k:Nat):bd (nV k):=.inr<|.inr<|.inl ⟨_,rfl⟩
theorem iQ(i j:Nat)(v:Int):bd (pZ i j v):=.inr<|.inr<|.inr ⟨_,_,_,rfl⟩
theorem zm(h:c∈O):aI t C H O (nV<|O.idxOf c)=gV (aG t H c):=by
 obtain⟨b,a⟩:=jl h;unfold nV;rw[iM,nQ];simp_all
theorem kU(I:iw t C S)(H:aI t C h (S.ow h) d=gV c)(g:bd d):iw t C (bx t h d c S):=
 xn (xn I H g) (zm mx) (p_ _)
theorem eF:(bx t h d c S).bs=S.bs:=hG.trans hG
theorem iy:(bx t h d c S).fs=S.fs:=hI.trans hI
theorem gs:(bx t h d c S).win=S.win:=gF.trans gF
theorem eI:b_ (bx t h d c S)<=b_ S+2:=by
 have H:=kT (h:=h) (d:=d) (c:=c) (S:=S);have a:=kT (h:=h) (d:=nV<|((dI h d c S).ow h).idxOf c) (c:=aG t h c) (S:=dI h d c S);unfold bx;lia
theorem kW:aG t h c∈(bx t h d c S).ow h:=mx
theorem kZ(E:JM S):(aG t H c≠[]/\JM (bx t H d c S))\/(aG t H c=[]/\((bx t H d c S).ow H).getLast?=gV []/\∀h,h≠H->[]∉(bx t H d c S).ow h):=by
 have f:∀h,[]∈(bx t H d c S).ow h->h=H/\(aG t H c=[]\/c=[]):=λh x=>by
  obtain z|⟨z,e⟩:=nX x
  ·obtain z|⟨z,e⟩:=nX z
   ·exact absurd z<|E h
   exact⟨z,.inr e.symm⟩
  exact⟨z,.inl e.symm⟩
 by_cases g:aG t H c=[]
 ·refine .inr ⟨g,?_,λh n x=>n (f h x).1⟩;by_cases e:c=[]
  ·subst e;have U:aG t H []∈(dI H d [] S).ow H:=mx;unfold bx;rw[jn U];exact t6<|E H
  have n:aG t H c∉(dI H d c S).ow H:=λz=>by
   rw[g]at z;obtain z|⟨y,z⟩:=nX z
   ·exact E H z
   exact e z.symm
  unfold bx;rw[t6 n,g]
 refine .inl ⟨g,λh x=>?_⟩;obtain z|z:=(f h x).2
 ·exact g z
 exact g (by rw[z];rfl)
end
theorem d9(z:Int):absI (-z)=absI z:=by
 obtain⟨y,e⟩|⟨y,e⟩:=aB z<;>obtain⟨y,E⟩|⟨y,E⟩:=aB (-z)<;>lia
theorem B_(H:1<=z)(h:absI l=z):l=z\/l=-z:=by
 obtain⟨y,e⟩|⟨y,e⟩:=aB l<;>lia
def Hg(t:Str)(h:N6)(c:ab Int):Prop:=c=[]\/∃l∈c,bJ t (absI l-1).toNat=!h/\∀m∈c,absI m<=absI l
theorem jo(h:ar n c):Hg t H (aG t H c):=by
 obtain e|e:=(f_ _ 0).2
 ·refine .inl<|QY.mpr λl a=>?_;have f:=(h.2 l a).1;have E:ik t H c=0:=e;lia
 obtain⟨l,a,b⟩:=OT.mp e;obtain⟨w,W⟩:=Oq.mp a;have E:absI l=ik t H c:=b;refine .inr ⟨l,Oq.mpr ⟨w,by lia⟩,?_,λm d=>?_⟩
 ·cases g:bJ t _<;>cases H<;>rw[g]at W<;>first|rfl|cases W
 have:=(Oq.mp d).2;simp_all
theorem Ca(h:zk w b c)(H:l∈c)(a:1<=absI l):absI l<=(b.length:Int):=by
 obtain g|g:=WQ (absI l-1).toNat b.length
 ·omega
 have:=h l H;rw[fh g]at this;simp_all
theorem jV(h:zk w (B++[b]) c)(H:l∈c)(d:1<=absI l)(U:absI l≠(B.length:Int)+1):bW w B l=true:=by
 have e:=Ca h H d;rw[NX,OG]at e;have a:=h l H;rwa[tK<|by omega]at a
theorem xo(f:z=(B.length:Int)+1)(h:zk H (B++[b]) c)(U:z∈c\/ -z∈c):(if(b == H)=NU then z else -z)∈c:=by
 have k:∀l∈c,absI l=z->(b == decide _)=H:=λl d e=>by
  have a:=h l d;rw[tL<|by simp_all]at a;exact eq_of_beq a
 have p:absI z=z:=absI_pos (by lia);have n:absI (-z)=z:=by rw[d9,p]
 obtain g|g:=U
 ·have:=k z g p;simp_all
 have:=k _ g n;rw[N3 (by lia)]at this;simp_all
theorem t7(j:z=(b.length:Int)+1)(k:ar n f)(o:ar n s)(h:zk H (b++[B]) f)(c:zk H (b++[q]) s):di f s z=false:=by
 cases g:di f s z with
 |false=>rfl
 |true=>
  obtain⟨l,d,i⟩:=OR.mp g;obtain⟨W,w⟩:=Oq.mp d;have U:absI l≠(b.length)+1:=by
   simp_all
  have m:=N'.mp i;have r:=(k.2 l W).1;have a:=jV h W r U;have A:=jV c m (by rwa[d9]) (by rwa[d9]);obtain⟨p,e⟩|⟨p,e⟩:=aB l
  ·exact(iK (by simp_all) a A).elim
  exact(iK (by simp_all) A<|by rwa[VZ]).elim
theorem zn(h:Ups f)(H:Ups s)(c:di f s z=NZ)(d:di s f z=NZ):bH f s z=bH s f z:=by
 have a:=dj h H c;have b:=dj H h d;exact jM a.1 b.1 λl=>(a.2 l).trans (by rw[Or.comm];exact(b.2 l).symm)
theorem dS{a:Type}{l:ab a}{k:Nat}{d:a}(h:l.length=k+1):l=l.dropLast++[l.getD k d]:=by
 have U:l≠[]:=λz=>by simp_all
 have e:l.getD k d=l.getLast U:=by
  rw[List.getLast_eq_getElem];simp[h]
 rw[e];exact(U9 U).symm
section
variable {S:SS}
theorem xp(a:∀c∈C,ar t.length c)(I:iw t C S)(H:N6):∀c∈S.ow H,ar t.length c:=λc h=>by
 have:=fG (w:=H) a (D:=S.lw H) (s:=[]) (by simp);rw[I.run H]at this;exact this c h
theorem qZ(I:iw t c S)(h:S.bs.length=k+1):iw t c (bT S):=by
 have l:S.bs.dropLast.length=k:=by rw[PD,h];rfl
 have L:S.fs.dropLast.length=k:=by rw[PD,I.flen,h];rfl
 refine⟨I.run,I.good,I.nd,L.trans l.symm,?_,λj H=>?_⟩
 ·show S.bs.dropLast.length<=_
  have:=I.blen;lia
 have a:j<k:=by
  have:j<S.bs.dropLast.length:=H;lia
 have:=I.fst j (by lia);unfold B9 at this ⊢;have e:(bT S).fs.getD j N4=S.fs.getD j none:=by
  show S.fs.dropLast.getD j N4=_
  rw[A',A',Um,Oi<|by rw[I.flen];lia]
 have E:(bT S).bs.getD j NZ=S.bs.getD j false:=by
  show S.bs.dropLast.getD j NZ=_
  rw[A',A',Um,Oi<|by lia]
 have b:(bT S).bs.take j=S.bs.take j:=by
  show S.bs.dropLast.take j=_
  rw[UD,Uj]
  lia
 rwa[e,E,b]
theorem t9(I:iw t c S)(k:S.bs.length<t.length)(h:B9 t (dN b o S) S.bs.length):iw t c (dN b o S):=by
 refine⟨I.run,I.good,I.nd,?_,?_,λj H=>?_⟩
 ·show(S.fs++[o]).length=(S.bs++[b]).length
  rw[NX,NX,I.flen];rfl
 ·show(S.bs++[b]).length<=_
  rw[NX,OG];exact Nat.le_of_lt_succ (Nat.succ_lt_succ k)
 have a:j<S.bs.length+1:=by
  have:j<(S.bs++[b]).length:=H;simp_all
 by_cases e:j=S.bs.length
 ·simp_all
 have:=I.fst j (by lia);unfold B9 at this ⊢;have E:(dN b o S).fs.getD j N4=S.fs.getD j none:=by
  show(S.fs++[o]).getD j N4=_
  rw[A',A',OA<|by rw[I.flen];lia]
 have d:(dN b o S).bs.getD j NZ=S.bs.getD j false:=by
  show(S.bs++[b]).getD j NZ=_
  rw[A',A',OA<|by lia]
 have f:(dN b o S).bs.take j=S.bs.take j:=QG (Nat.le_of_lt_succ a);rwa[E,d,f]
theorem xq(I:iw t c S):B9 t (dN b o S) S.bs.length↔match o with
  |none=>b=NZ
  |some F=>b=NU/\F∈S.ow (!bJ t S.bs.length)/\zk (!bJ t S.bs.length) (S.bs++[NZ]) F/\((S.bs.length:Int)+1∈F\/ -((S.bs.length:Int)+1)∈F):=by
 unfold B9;have e:(dN b o S).fs.getD S.bs.length N4=o:=by
  show(S.fs++[o]).getD _ N4=_
  rw[A',Ow (by rw[I.flen];exact N1 _),I.flen,PY];rfl
 have E:(dN b o S).bs.getD S.bs.length NZ=b:=by
  show(S.bs++[b]).getD _ NZ=_
  rw[A',Ow<|N1 _,PY];rfl
 have a:(dN b o S).bs.take _=S.bs:=wd;rw[e,E,a];rfl
theorem nY(a b:ab (NW<|ab Int)):pend (a++b)=pend a+pend b:=by
 unfold pend;simp
structure nZ (t:Str)(cs:ab (ab Int))(hw:N6)(c:ab Int)(S:SS):Prop where
 I:iw t cs S
 mem:c∈S.ow hw
 agr:zk hw S.bs c
 dr:Hg t hw c
 win:S.win=N4
 emp:(c≠[]/\JM S)\/(c=[]/\(S.ow hw).getLast?=gV []/\∀h,h≠hw->[]∉S.ow h)
inductive Cb (t:Str)(c:ab (ab Int))(hw:N6)(S S':SS):Prop
 |on (I:iw t c S') (a:S'.win=N4) (emp:JM S') (pre:ab N6) (hb:S'.bs=pre++[NU]) (hp:(pre++[NZ]) <+:S.bs) (hn:b_ S'+2*pend S'.fs<=b_ S+2*pend S.fs+2):Cb t c hw S S'
 |won (I:iw t c S') (a:S'.win=gV hw) (hb:S'.bs=[]) (he:(S'.ow hw).getLast?=gV []) (hn:b_ S'<=b_ S+2*pend S.fs):Cb t c hw S S'
theorem n9(f:∀c∈C,ar t.length c)(T:nZ t C h c S)(g:S.bs.length=k+1)(U:(k:Int)+1∈c\/ -((k:Int)+1)∈c):h=!bJ t k/\c≠[]/\JM S:=by
 have s:=xp f T.I h c T.mem;have a:c≠[]:=λz=>by simp_all
 refine⟨?_,a,T.emp.elim (λz=>z.2) λz=>absurd z.1 a⟩;obtain z|⟨l,H,b,d⟩:=T.dr
 ·exact absurd z a
 have i:=Ca T.agr H (s.2 l H).1;have j:(k)+1<=absI l:=by
  obtain z|z:=U
  ·have:=d _ z;assumption
  have:=d _ z;rwa[d9]at this
 have e:(absI l-1).toNat=k:=by lia
 simp_all
structure LU (t:Str)(cs:ab (ab Int))(hw:N6)(k:Nat)(F c:ab Int)(S:SS):Prop where
 mF:F∈S.ow hw
 okF:ar t.length F
 okC:ar t.length c
 both:di F c ((k:Int)+1)=NZ
 line:aI t cs hw (S.ow hw) (b9 (S.ow hw) F c<|(k:Int)+1)=gV (bH F c<|(k:Int)+1)
 good:bd (b9 (S.ow hw) F c<|(k:Int)+1)
 next:nZ t cs hw (aG t hw<|bH F c<|(k:Int)+1) (bx t hw (b9 (S.ow hw) F c<|(k:Int)+1) (bH F c<|(k:Int)+1)<|bT S)
theorem qc(n:∀c∈C,ar t.length c)(T:nZ t C h c S)(d:S.bs.length=k+1)(M:(k:Int)+1∈c\/ -((k:Int)+1)∈c)(e:S.fs.getD k N4=gV F):LU t C h k F c S:=by
 obtain⟨B,N,O⟩:=n9 n T d M;have o:=dS (d:=NZ) d;have P:(bT S).bs.length=k:=by show S.bs.dropLast.length=k;rw[PD,d];rfl
 have Q:=qZ T.I d;have U:k<t.length:=by have:=T.I.blen;lia
 have s:=xp n T.I h c T.mem;have A:zk h ((bT S).bs++[S.bs.getD k NZ]) c:=by
  have:=T.agr;rw[o]at this;exact this
 have p:=T.I.fst k (by lia);unfold B9 at p;rw[e]at p;obtain⟨r,m,H,u⟩:=p;rw[<-B]at m H;rw[r]at A;have v:S.bs.take k=(bT S).bs:=by
  show _=S.bs.dropLast
  rw[UD,d];rfl
 rw[v]at H;have a:=xp n T.I h F m;have f:(k:Int)+1=((bT S).bs.length)+1:=by rw[P]
 have g:=t7 f a s H A;have D:=t7 f s a A H;have E:=xo f H u;have G:=xo f A M;have X:=dj a.1 s.1 g;have w:=nz a s g;have i:(aA t (!h)).contains ((k)+1)=true:=N'.mpr<|eX.mpr ⟨by lia,by lia,by rw[show((k:Int)+1-1).toNat=k by lia,B,ab8]⟩;obtain⟨iF,Z⟩:=jl m;obtain⟨iC,aC⟩:=jl T.mem;have I:(S.ow h).getD ((S.ow h).idxOf F) []=F:=by rw[A',Z];rfl
 have J:(S.ow h).getD ((S.ow h).idxOf c) []=c:=by rw[A',aC];rfl
 have Y:aI t C h (S.ow h) (b9 (S.ow h) F c<|(k)+1)=gV (bH F c<|(k)+1):=by
  unfold b9;cases h with
  |true=>
   have L:-((k:Int)+1)∈F:=E;have b:(k:Int)+1∈c:=G;rw[Oi<|N'.mpr L];unfold pZ;rw[iP,mw];rw[OP,OP,I,J];refine⟨by lia,by lia,?_,zn s.1 a.1 D g⟩;unfold eB;rw[i,N'.mpr b,N'.mpr L,D];rfl
  |false=>
   have L:(k:Int)+1∈F:=E;have b:-((k:Int)+1)∈c:=G;have WD:¬F.contains (-((k)+1))=true:=λz=>by
    have:=a.1.inj L (N'.mp z) (by rw[d9]);lia
   rw[Oh WD];unfold pZ;rw[iP,mw];rw[OP,OP,I,J];refine⟨by lia,by lia,?_,rfl⟩;unfold eB;rw[i,N'.mpr b,N'.mpr L,g];rfl
 have j:bd (b9 (S.ow h) F c<|(k)+1):=by
  unfold b9
  split
  ·exact iQ _ _ _
  exact iQ _ _ _
 have Ep:JM _:=O;have x:=eF (t:=t) (h:=h) (d:=b9 (S.ow h) F c<|(k)+1) (c:=bH F c<|(k)+1) (S:=bT S);refine⟨m,a,s,g,Y,j,kU Q Y j,kW,?_,jo w,gs.trans T.win,kZ Ep⟩;rw[x];intro l hl;have y:=(Oq.mp hl).1;obtain⟨WX,W⟩:=(X.2 l).mp y;rw[f]at W;obtain q|q:=WX
 ·exact jV H q (a.2 l q).1 W
 exact jV A q (s.2 l q).1 W
theorem qd(d:∀c∈C,ar t.length c)(T:nZ t C w c S)(H:S.bs.length=k+1)(U:¬((k:Int)+1∈c\/ -((k:Int)+1)∈c)):nZ t C w c (bT S):=by
 have b:=dS (d:=NZ) H;have s:=xp d T.I w c T.mem;refine⟨qZ T.I H,T.mem,λl h=>?_,T.dr,T.win,T.emp⟩;have a:=T.agr;rw[b]at a;refine jV a h (s.2 l h).1 ?_;have:S.bs.dropLast.length=k:=by rw[PD,H];rfl
 show absI l≠((S.bs.dropLast.length))+1
 rw[this];intro z;obtain q|q:=B_ (by lia) z
 ·exact U<|.inl<|q▸h
 exact U<|.inr<|q▸h
theorem zo(d:∀c∈C,ar t.length c)(T:nZ t C w c S)(H:S.bs.length=k+1)(U:(k:Int)+1∈c\/ -((k:Int)+1)∈c)(e:S.fs.getD k N4=N4):S.bs.getD k NZ=NZ/\iw t C (dN NU (gV c)<|bT S):=by
 obtain⟨a,g,E⟩:=n9 d T H U;have b:=dS (d:=NZ) H;have l:(bT S).bs.length=k:=by show S.bs.dropLast.length=k;rw[PD,H];rfl
 have I:=qZ T.I H;have i:k<t.length:=by have:=T.I.blen;lia
 have A:zk w ((bT S).bs++[S.bs.getD k NZ]) c:=by
  have:=T.agr;rwa[b]at this
 have f:=T.I.fst k (by lia);unfold B9 at f;rw[e]at f;have h:=f;rw[h]at A;refine⟨h,t9 I (by lia)<|(xq I).mpr ⟨rfl,?_,?_,?_⟩⟩
 ·rw[l,<-a];exact T.mem
 ·rwa[l,<-a]
 rwa[l]
theorem t_(I:iw t c S)(H:S.bs.length=k+1):pend S.fs=pend (bT S).fs+pend [S.fs.getD k N4]:=by
 have h:=dS (d:=N4) (I.flen.trans H)
 conv=>lhs;rw[h]
 exact nY _ _
theorem n_(b:∀c∈C,ar t.length c):∀k c S,S.bs.length=k->nZ t C h c S->Cb t C h S (fo t h k c S)
 |0,c,S,a,T=>by
  have H:=UY a;have d:c=[]:=by
   cases c with
   |nil=>rfl
   |cons l r=>
    have:=T.agr l Om;rw[H,fh<|Ou _]at this;simp_all
  obtain⟨z,_⟩|⟨_,z,_⟩:=T.emp
  ·simp_all
  ·exact .won ⟨T.I.run,T.I.good,T.I.nd,T.I.flen,T.I.blen,T.I.fst⟩ rfl H z (by show b_ S<=_;simp)
 |k+1,c,S,a,T=>by
  have f:=dS (d:=NZ) a;have u:(bT S).bs.length=k:=by show S.bs.dropLast.length=k;rw[PD,a];rfl
  have m:=t_ T.I a;have g:(bT S).bs <+:S.bs:=⟨_,f.symm⟩;have v:b_ (bT S)=b_ S:=rfl;unfold fo;by_cases U:(c.contains ((k)+1) || c.contains (-((k)+1)))=NU
  ·rw[Oi U];have A:(k:Int)+1∈c\/ -((k:Int)+1)∈c:=by
    rw[QL]at U;exact U.imp N'.mp N'.mp
   cases e:S.fs.getD k N4 with
   |none=>
    obtain⟨i,x⟩:=zo b T a A e;show Cb t C h S _
    rw[i];refine .on x T.win (n9 b T a A).2.2 _ rfl ?_ ?_
    ·exists [];rw[Pd]
     conv=>rhs;rw[f]
     rw[i];rfl
    ·show b_ S+2*pend ((bT S).fs++[gV c])<=_
     rw[nY,m];have:pend [gV c]=1:=rfl;lia
   |some F=>
    have J:=qc b T a A e;have o:pend [gV F]=1:=rfl;rw[e,o]at m;have y:=eI (t:=t) (h:=h) (d:=b9 (S.ow h) F c<|(k)+1) (c:=bH F c<|(k)+1) (S:=bT S);have L:=iy (t:=t) (h:=h) (d:=b9 (S.ow h) F c<|(k)+1) (c:=bH F c<|(k)+1) (S:=bT S);have s:=eF (t:=t) (h:=h) (d:=b9 (S.ow h) F c<|(k)+1) (c:=bH F c<|(k)+1) (S:=bT S);have:=n_ b k _ _ (by rwa[s]) J.next;cases this with
    |on I w em p H j n=>
     rw[s]at j;rw[L]at n;exact .on I w em p H (j.trans g) (by lia)
    |won I w H d n=>
     rw[L]at n;exact .won I w H d (by lia)
  rw[Oh U];have q:¬((k:Int)+1∈c\/ -((k:Int)+1)∈c):=λz=>U (by
   rw[QL];exact z.imp N'.mpr N'.mpr)
  have:=n_ b k c _ u<|qd b T a q;cases this with
  |on I w em p H j n=>exact .on I w em p H (j.trans g) (by lia)
  |won I w H d n=>exact .won I w H d (by lia)
end
noncomputable def cw(b:ab N6)(c:ab Int):NW (ab Int):=if c.any (bW NU b)=NU then N4 else gV (c.filter λl=>decide ((b.length:Int)<absI l))
noncomputable def bU(b:ab N6)(c:ab Int):ab Int:=c.filter<|bW NU b
noncomputable def oe(t:Str)(b:ab N6)(c:ab Int):Int:=(((bU b c).filter λl=>bJ t (absI l-1).toNat)++bU b c).headD 0
noncomputable def bX(t:Str)(b:ab N6)(a c:ab Int):ab Int:=if(a.any λl=>c.contains l)=NU then a else a++[oe t b c]
noncomputable def gR(t:Str)(c:ab (ab Int))(b:ab N6):ab Int:=c.foldl (bX t b) []
noncomputable def fB(t:Str)(c:ab (ab Int))(B:ab N6):ab Int:=(gR t c B).mergeSort λa b=>decide (absI a<=absI b)
noncomputable def gS(i:Nat):Oe:=.tuple [.str aM,.int (i:Int)]
noncomputable def lQ(c:ab Int):Oe:=.tuple [.str bD,ii c]
noncomputable def cI(t:Str)(b:ab N6)(c:ab Int):N6:=decide (cw b (aG t NZ c)=gV [])
noncomputable def fL(t:Str)(C:ab (ab Int))(S:SS):SS:=
 if C.any (cI t S.bs)=NU then
  fo t NZ S.bs.length (aG t NZ<|C.getD (C.findIdx<|cI t S.bs) []) (bx t NZ (gS<|C.findIdx<|cI t S.bs) (C.getD (C.findIdx<|cI t S.bs) []) S)
 else if(C.all λc=>decide (cw S.bs (aG t NZ c)=N4))=NU then
  fo t NU S.bs.length (aG t NU<|fB t C S.bs) (bx t NU (lQ<|fB t C S.bs) (fB t C S.bs) S)
 else dN NZ N4 S
theorem jW:∀n a b,dJ n (a++b)=dJ n a+dJ (n-a.length) b
 |n,[],b=>by simp[dJ]
 |n,x::a,b=>by
  show(if x=NU then 2^n else 1)+dJ _ (a++b)=(if x=NU then 2^n else 1)+dJ _ a+dJ (n-(a.length+1)) b
  rw[jW _ a b];lia
theorem og:∀n a,a.length<=n->dJ n a+2<=2^(n+1)
 |n,[],_=>by
  show 0+2<=_
  have:=Yq (n:=n);rw[Y2];lia
 |0,x::a,h=>by simp at h
 |n+1,x::a,h=>by
  have:=og n a (Nat.le_of_succ_le_succ h);show(if x=NU then 2^(n+1)else 1)+dJ n a+2<=2^(n+1)*2
  rw[Nat.add_assoc,Nat.mul_two];exact Nat.add_le_add (by split;exact N1 _;exact Nat.one_le_two_pow) this
theorem Cc(h:(p++[NZ]) <+:b)(H:b.length<=n):dJ n b<dJ n (p++[NU]):=by
 obtain⟨r,rfl⟩:=h;rw[NX,NX,OG]at H;rw[OX,jW n p _,jW n p _];have e:dJ (n-p.length) ([NZ]++r)=1+dJ _ r:=rfl;have E:dJ (n-p.length) [NU]=2^(n-p.length):=by rfl
 have:=og (n-p.length-1) r (by omega);rw[show n-p.length-1+1=n-p.length by lia]at this;lia
section
variable {S:SS}
theorem ua(k:ar t.length c)(h:cI t b c=NU):zk NZ b (aG t NZ c):=by
 have H:=Oo h;have a:=gi (t:=t) (w:=NZ) k;unfold cw at H
 split at H
 ·cases H
 intro l f;have i:bW NU b l=false:=by
  simp_all
 have m:=(a.2 l f).1;have o:absI l<=(b.length):=by
  simp_all
 unfold bW at i ⊢;rw[K' (by lia)]at i ⊢;simp_all
theorem k_(c:1<=absI a)(h:bW NU B a=NU)(H:bW NU B b=NU)(e:absI a=absI b):a=b:=by
 obtain z|z:=fZ e
 ·exact z
 subst z;obtain⟨p,q⟩|⟨p,q⟩:=aB a
 ·exact(iK (Int.le_trans c (Int.le_of_eq q)) h H).elim
 exact(iK (Int.le_trans c (Int.le_of_eq q)) H<|by rwa[VZ]).elim
theorem FL(h:∃l∈c,bW NU b l=NU):oe t b c∈c/\bW NU b (oe t b c)=true:=by
 have H:bU b c≠[]:=by
  obtain⟨l,a,d⟩:=h;exact Ys<|Oq.mpr ⟨a,d⟩
 have m:oe t b c∈bU b c:=by
  unfold oe;cases e:(bU b c).filter _ with
  |nil=>
   cases g:bU b c with
   |nil=>exact absurd g H
   |cons x r=>exact Om
  |cons x r=>
   have:x∈(bU b c).filter λl=>bJ t (absI l-1).toNat:=by rw[e];exact Om
   exact(Oq.mp this).1
 exact Oq.mp m
structure ChOk (bs:ab N6)(cs:ab (ab Int))(acc:ab Int):Prop where
 st:∀l∈acc,bW NU bs l=NU/\∃c∈cs,l∈c
 hit:∀c∈cs,∃l∈acc,l∈c
 nd:acc.Nodup
theorem ChOk.step(h:ChOk B D A)(e:∃l∈c,bW NU B l=NU):ChOk B (D++[c]) (bX t B A c):=by
 unfold bX
 split
 ·rename_i g;obtain⟨l,H,d⟩:=OR.mp g;refine⟨λl H=>⟨(h.st l H).1,let ⟨C,a,b⟩:=(h.st l H).2;⟨C,Qw _ a,b⟩⟩,λC X=>?_,h.nd⟩;obtain z|z:=OB.mp X
  ·exact h.hit C z
  rw[N9.mp z];exact⟨l,H,N'.mp d⟩
 rename_i g;obtain⟨p,P⟩:=FL e;refine⟨λl H=>?_,λC X=>?_,?_⟩
 ·obtain z|z:=OB.mp H
  ·exact⟨(h.st l z).1,let ⟨C,a,b⟩:=(h.st l z).2;⟨C,Qw _ a,b⟩⟩
  rw[N9.mp z];exact⟨P,c,O2 _<|N9.mpr rfl,p⟩
 ·obtain z|z:=OB.mp X
  ·obtain⟨l,a,b⟩:=h.hit C z;exact⟨l,Qw _ a,b⟩
  rw[N9.mp z];exact⟨_,O2 _<|N9.mpr rfl,p⟩
 rw[Qi];refine⟨h.nd,by simp,λx f y i z=>g ?_⟩;rw[N9.mp i]at z;exact OR.mpr ⟨x,f,N'.mpr<|z▸p⟩
theorem lg{t:Str}{C:ab (ab Int)}(h:∀c∈C,∃l∈c,bW NU b l=NU):∀k,k<=C.length->ChOk b (C.take k) ((C.take k).foldl (bX t b) [])
 |0,_=>⟨λ_ z=>(nomatch z),λ_ z=>(nomatch z),Ul⟩
 |k+1,a=>by
  have H:=getD_some (d:=([])) ‹_›;rw[OM,H];rw[QX];exact(lg h k<|Y3 a).step<|h _<|N7 H
theorem dU(h:∀c∈C,∃l∈c,bW NU b l=NU):ChOk b C (gR t C b):=by
 have:=lg (t:=t) h _<|N1 _;rwa[Od<|N1 _]at this
theorem fy:l∈fB t c b↔l∈gR t c b:=List.mem_mergeSort
theorem xr(H:∀c∈s,ar t.length c)(h:∀c∈s,∃l∈c,bW NU B l=NU):Ups (fB t s B):=by
 have C:=dU (t:=t) h;refine qF ?_ ((Tb _ _).nodup_iff.mpr C.nd) λa d b f e=>?_
 ·rw[Py];have:=T3 (le:=λa b:Int=>decide (absI a<=absI b)) (by lia) (by lia)<|gR t s B;exact this.imp λh=>Oo h
 obtain⟨A,j,D,E⟩:=C.st a<|fy.mp d;obtain⟨k,z⟩:=C.st b<|fy.mp f;exact k_ ((H j D).2 a E).1 A k e
theorem q_(H:∀c∈C,ar t.length c)(h:∀c∈C,∃l∈c,bW NU B l=NU):ar t.length (fB t C B):=
 ⟨xr H h,λl d=>let ⟨_,c,a,b⟩:=(dU h).st l<|fy.mp d;(H c a).2 l b⟩
theorem ub(H:∀c∈C,ar t.length c)(h:∀c∈C,∃l∈c,bW NU B l=NU)(O:ab (ab Int)):aI t C NU O (lQ<|fB t C B)=gV (fB t C B):=by
 unfold lQ;rw[kR];unfold lK;rw[E5<|q_ H h,Bg];have:tH (fB t C B) C=true:=O0.mpr λc X=>by
  obtain⟨l,a,b⟩:=(dU h).hit c X;exact OR.mpr ⟨l,fy.mpr a,N'.mpr b⟩
 rw[this];rfl
theorem lR(h:cw b (aG t NZ c)=N4):∃l∈c,bW NU b l=true:=by
 unfold cw at h
 split at h
 ·rename_i g;obtain⟨l,H,a⟩:=OR.mp g;exact⟨l,(Oq.mp H).1,a⟩
 simp_all
structure jX (t:Str)(cs:ab (ab Int))(S:SS):Prop where
 I:iw t cs S
 win:S.win=N4
 emp:JM S
 few:b_ S+2*pend S.fs<=4*dJ t.length S.bs
structure Ef (t:Str)(cs:ab (ab Int))(S:SS):Prop where
 I:iw t cs S
 hb:S.bs=[]
 hw:∃hw,S.win=gV hw/\(S.ow hw).getLast?=gV []
 few:b_ S<=4*2^(t.length+1)
theorem uc(b:∀c∈C,ar t.length c)(e:t.length<=18)(L:jX t C S):(jX t C (fL t C S)/\dJ t.length S.bs<dJ t.length (fL t C S).bs)\/Ef t C (fL t C S):=by
 have v:=L.few;have G:=og t.length S.bs L.I.blen;have X:∀h d c,aI t C h (S.ow h) d=gV c->bd d->ar t.length c->zk h S.bs (aG t h c)->
   (jX t C (fo t h S.bs.length (aG t h c)<|bx t h d c S)/\dJ t.length S.bs<dJ t.length (fo t h S.bs.length (aG t h c)<|bx t h d c S).bs)\/Ef t C (fo t h S.bs.length (aG t h c)<|bx t h d c S):=by
  intro h d c f x H O;have T:nZ t C h (aG t h c) (bx t h d c S):=⟨kU L.I f x,kW,by rw[eF];exact O,jo H,gs.trans L.win,kZ L.emp⟩;have y:=eI (t:=t) (h:=h) (d:=d) (c:=c) (S:=S);have s:=iy (t:=t) (h:=h) (d:=d) (c:=c) (S:=S);have i:=eF (t:=t) (h:=h) (d:=d) (c:=c) (S:=S);cases n_ b S.bs.length _ _ (by rw[i]) T with
  |on I w em P m u n=>
   rw[i]at u;rw[s]at n;have U:=Cc u L.I.blen;rw[<-m]at U;exact .inl ⟨⟨I,w,em,by lia⟩,U⟩
  |won I w m B n=>
   rw[s]at n;exact .inr ⟨I,m,⟨h,w,B⟩,by lia⟩
 unfold fL;by_cases j:C.any (cI t S.bs)=NU
 ·rw[Oi j];have o:C.findIdx (cI t S.bs)<C.length:=Uo<|OR.mp j;have D:=getD_some (d:=([]:ab Int)) o;have p:cI t S.bs (C.getD (C.findIdx<|cI t S.bs) [])=true:=by
   have:=Xy (w:=o) (p:=cI t S.bs) (xs:=C);simp_all
  have H:=b _<|N7 D;refine X NZ _ _ ?_ (.inl ⟨_,rfl⟩) H<|ua H p;unfold gS;rw[gQ,Oh Oa];unfold ji;rw[gj (by simp_all),OP];rfl
 rw[Oh j];by_cases k:(C.all λc=>decide (cw S.bs (aG t NZ c)=N4))=NU
 ·rw[Oi k];have r:∀c∈C,∃l∈c,bW NU _ l=true:=λc Z=>lR<|Oo<|O0.mp k c Z;have H:=q_ b r;refine X NU _ _ (ub b r _) (.inr<|.inl ⟨_,?_,rfl⟩) H λl f=>?_
  ·have:=bw H;lia
  exact((dU r).st l<|fy.mp (Oq.mp f).1).1
 rw[Oh k];have Q:S.bs.length<t.length:=by
  obtain g|g:=WQ _ _
  ·exact g
  refine absurd (O0.mpr λc Z=>?_) k;rw[OZ];have W:cI t S.bs c=false:=by
   simp_all
  have a:¬cw _ _=gV []:=Vp W;have A:=gi (t:=t) (w:=NZ)<|b c Z;unfold cw at a ⊢
  split
  ·rfl
  rename_i q;rw[Oh q]at a;refine absurd (OY gV<|QY.mpr λl f=>?_) a;have:=(A.2 l f).2;lia
 refine .inl ⟨⟨t9 L.I Q<|(xq L.I).mpr rfl,L.win,L.emp,?_⟩,?_⟩
 ·show b_ S+2*pend (S.fs++[N4])<=4*dJ _ (S.bs++[NZ])
  have J:pend [(N4:NW _)]=0:=rfl;rw[nY,jW];lia
 show dJ _ _<dJ _ (S.bs++[NZ])
 have E:dJ (t.length-S.bs.length) [NZ]=1:=rfl;rw[jW];simp_all
noncomputable def oh:SS:=⟨λ_=>[],λ_=>[],[],[],N4⟩
theorem qe:jX t c oh:=⟨⟨λy=>rfl,λy y z=>(nomatch z),λy=>Ul,rfl,Ou _,λk h=>(nomatch h)⟩,rfl,λy z=>(nomatch z),Ou _⟩
noncomputable def rZ(t:Str)(c:ab (ab Int)):Nat->SS->SS
 |0,S=>S
 |k+1,S=>if S.win.isSome=NU then S else rZ t c k (fL t c S)
theorem Cd(H:∀c∈C,ar t.length c)(a:t.length<=18):∀k S,jX t C S->(jX t C (rZ t C k S)/\dJ t.length S.bs+k<=dJ t.length (rZ t C k S).bs)\/Ef t C (rZ t C k S)
 |0,S,L=>.inl ⟨L,N1 _⟩
 |k+1,S,L=>by
  unfold rZ;rw[Oh<|by rw[L.win];exact Oa];obtain⟨l,h⟩|W:=uc H a L
  ·obtain⟨L2,b⟩|W:=Cd H a k _ l
   ·exact .inl ⟨L2,by lia⟩
   exact .inr W
  have:rZ t C k (fL t C S)=fL t C S:=by
   cases k with
   |zero=>rfl
   |succ k=>
    unfold rZ;obtain⟨w,e,z⟩:=W.hw;simp_all
  rw[this];exact .inr W
theorem JO(H:∀c∈C,ar t.length c)(a:t.length<=18){S:SS}(L:jX t C S)(b:2^(t.length+1)<=dJ t.length S.bs+k):Ef t C (rZ t C k S):=by
 obtain⟨l,h⟩|W:=Cd H a k S L
 ·have:=og _ _ l.I.blen;lia
 exact W
end
noncomputable abbrev Hh:Pk:=cC (top 75) 1
noncomputable abbrev xu:Pk:=cC (top 75) 2
noncomputable abbrev Ce:Pk:=cC (top 75) 3
structure o8 (K:B')(mg:Str->NW M')(CS:C'):Prop where
 len:mg "len"=N4
 list:mg "list"=N4
 cl:Cls K CS
 nS:NoAttr K CS "sentence"
 nL:NoAttr K CS "lines"
 nP:NoAttr K CS "places"
 nB:NoAttr K CS "begun"
 nF:NoAttr K CS "firsts"
 nR:NoAttr K CS "rests"
 nW:NoAttr K CS "winner"
 g_WISHER:jI mg "WISHER" (.str<|NV "wisher")
 g_SPOILER:jI mg "SPOILER" (.str<|NV "spoiler")
noncomputable def jp(l:N6->C'):ab (aK×V):=[(Sx<|ax NZ,.ref<|l NZ),(Sx<|ax NU,.ref<|l NU)]
theorem fq(h:H d=gV (.dK<|jp l))(b:N6):DGet H d (.str<|ax b) (gV<|.ref<|l b):=by
 have e:bh (jp l) (Sx<|ax b)=gV (.ref<|l b):=by
  cases b<;>rfl
 rw[<-e];exact DGet.k (k:=Sx<|ax b) h
structure SA where
 x:C'
 dx:C'
 p:C'
 q:C'
 dl:C'
 dp:C'
 b:C'
 f:C'
 r:C'
 ll:N6->C'
 pp:N6->C'
 far:C'->Prop
def SA.own(A:SA)(a:C'):Prop:=a=A.x\/a=A.b\/a=A.f\/a=A.r\/∃h,a=A.ll h\/a=A.pp h
def SA.taken(A:SA)(a:C'):Prop:=A.own a\/A.far a
def Mv(A:SA)(H h:Hp):Prop:=∀a o,¬A.own a->H a=gV o->h a=gV o
theorem Mv.of(k:Same H h):Mv A H h:=λa o z e=>k a o e
theorem Mv.trans(k:Mv A H b)(j:Mv A b h):Mv A H h:=λa o n e=>j a o n<|k a o n e
theorem Mv.upd(k:Mv A H c)(h:A.own a)(o:HO):Mv A H (upd c a o):=λb u n e=>by
 rw[af λz=>n<|by rwa[z]];exact k b u n e
def TupS(H h:Hp):Prop:=∀a x,H a=gV (.tup x)->h a=gV (.tup x)
theorem TupS.of(k:Same H h):TupS H h:=λa z e=>k a _ e
theorem TupS.trans(k:TupS H b)(j:TupS b h):TupS H h:=λa x e=>j a x<|k a x e
theorem TupS.cl(k:TupS H a)(h:CL H c v):CL a c v:=let ⟨t,e,z⟩:=h;⟨t,e,k _ _ z⟩
theorem TupS.cls(k:TupS H a):∀{c:ab (ab Int)} {x:ab V},CLs H c x->CLs a c x
 |_,_,.nil=>.nil
 |_,_,.cons h t=>.cons (k.cl h)<|TupS.cls k t
theorem TupS.good(k:TupS H D)(g:bd d)(h:RD H d v):RD D d v:=by
 obtain⟨n,rfl⟩|⟨c,E,rfl⟩|⟨n,rfl⟩|⟨i,j,z,rfl⟩:=g
 ·obtain⟨a,Z,rfl,f,l⟩:=al h;exact aQ (k _ _ f)<|‹_›
 ·obtain⟨a,Z,rfl,f,l⟩:=al h;obtain⟨Y,q,rfl,m,B⟩:=aj l;obtain⟨t,o,rfl,A,b⟩:=aj B;have e:o=[]:=by assumption
  subst e;obtain⟨p,u,rfl,w,s⟩:=al A;refine aQ (k _ _ f)<|ag (iq m)<|ag (aQ (k _ _ w) ?_) au;clear w A l f h B E b
  induction c generalizing u with
  |nil=>
   assumption
  |cons x c I=>
   obtain⟨y,r,rfl,Q,F⟩:=aj s;exact ag (fj Q)<|I r F
 ·obtain⟨a,Z,rfl,f,l⟩:=al h;exact aQ (k _ _ f)<|‹_›
 obtain⟨a,Z,rfl,f,l⟩:=al h;exact aQ (k _ _ f)<|‹_›
theorem TupS.goods(k:TupS H c):∀{D:ab Oe} {v:ab V},(∀d∈D,bd d)->cO H D v->cO c D v
 |[],v,_,h=>by
  assumption
 |d::D,v,g,h=>by
  obtain⟨y,Y,rfl,a,b⟩:=aj h;exact ag (k.good (g d Om) a)<|TupS.goods k (λf i=>g f<|Ov _ i) b
def lW(H:Hp):NW (ab Int)->V->Prop
 |none,v=>v=.non
 |some c,v=>CL H c v
def iz(H:Hp):ab (NW<|ab Int)->ab V->Prop:=Paired<|lW H
theorem TupS.opt(k:TupS H a)(h:lW H o v):lW a o v:=by
 cases o with
 |none=>exact h
 |some c=>exact k.cl h
theorem TupS.opts(k:TupS H a):∀{os:ab (NW<|ab Int)} {x:ab V},iz H os x->iz a os x:=λh=>Paired.mapP h λz z=>k.opt
noncomputable def bR(t:Str)(C:ab (ab Int))(b:ab N6):ab (NW<|ab Int):=C.map λc=>cw b<|aG t NZ c
structure Rsts (A:SA)(t:Str)(cs:ab (ab Int))(bs:ab N6)(H:Hp)(vs:ab V):Prop where
 len:vs.length=bs.length+1
 at_:∀(k:Nat) (v:V),vs[k]?=gV v->∃a ws,v=.ref a/\H a=gV (.lst ws)/\¬A.taken a/\iz H (bR t cs<|bs.take k) ws
theorem lX{b:Type} [V0 b] {s:ab (b×V)}{k:b}{v:V}(h:bh s k=N4):(cn s k v).length=s.length+1:=by
 unfold cn;have H:s.any (λa=>decide (a.1=k))=false:=by
  cases e:s.any _ with
  |false=>rfl
  |true=>
   obtain⟨a,c,d⟩:=OR.mp e;have:=TU.mp (Option.map_eq_none_iff.mp h) a c;exact absurd d this
 first
  |(rw[H];simp)
  |(simp )
def JP(D:ab (ab aK×V))(O:ab (ab Int)):Prop:=D.length=O.length/\∀c:ab Int,bh D (gP c)=if c∈O then gV (.int ((O.idxOf c:Nat):Int))else N4
noncomputable def rc:NW N6->V
 |none=>.non
 |some h=>.str<|ax h
noncomputable def ue(A:SA)(w:V):ab (Str×V):=[("sentence",.ref A.p),("lines",.ref A.dl),("places",.ref A.dp),("begun",.ref A.b),("firsts",.ref A.f),("rests",.ref A.r),("winner",w)]
structure SrAt (CS:C')(A:SA)(t:Str)(cs:ab (ab Int))(S:SS)(H:Hp):Prop where
 hx:H A.x=gV (.ins CS A.dx<|ue A<|rc S.win)
 hp:H A.p=gV (.tup [.str t,.ref A.q])
 hq:∃xs,H A.q=gV (.lst xs)/\CLs H cs xs
 hl:H A.dl=gV (.dK<|jp A.ll)
 hd:H A.dp=gV (.dK<|jp A.pp)
 l:∀h,∃vs,H (A.ll h)=gV (.lst vs)/\cO H (S.lw h) vs
 d:∀h,∃D,H (A.pp h)=gV (.dT D)/\JP D (S.ow h)
 b:H A.b=gV (.lst<|S.bs.map V.bl)
 f:∃vs,H A.f=gV (.lst vs)/\iz H S.fs vs
 r:∃vs,H A.r=gV (.lst vs)/\Rsts A t cs S.bs H vs
 nq:¬A.taken A.q
 nd:[A.b,A.f,A.r,A.ll NZ,A.ll NU].Nodup
 np:A.pp NZ≠A.pp NU
 good:∀h,∀d∈S.lw h,bd d
 len:∀h,(S.ow h).length=(S.lw h).length
 far:∀a,A.far a->¬A.own a/\∃o,H a=gV o
section
variable {S:SS}
theorem SrAt.own_ty(h:SrAt C A t s S H)(c:A.own a):(∃w,H a=gV (.ins C A.dx<|ue A w))\/(∃v,H a=gV (.lst v))\/∃D,H a=gV (.dT D):=by
 obtain rfl|rfl|rfl|rfl|⟨z,rfl|rfl⟩:=c
 ·exact .inl ⟨_,h.hx⟩
 ·exact .inr<|.inl ⟨_,h.b⟩
 ·obtain⟨v,e,y⟩:=h.f;exact .inr<|.inl ⟨_,e⟩
 ·obtain⟨v,e,y⟩:=h.r;exact .inr<|.inl ⟨_,e⟩
 ·obtain⟨v,e,y⟩:=h.l z;exact .inr<|.inl ⟨_,e⟩
 obtain⟨v,e,y⟩:=h.d z;exact .inr<|.inr ⟨_,e⟩
theorem SrAt.ntup(h:SrAt C A t c S H)(e:H a=gV (.tup x)):¬A.own a:=λz=>by
 obtain⟨y,g⟩|⟨y,g⟩|⟨y,g⟩:=h.own_ty z<;>rw[e]at g<;>cases g
theorem SrAt.ndk(h:SrAt C A t c S H)(e:H a=gV (.dK k)):¬A.own a:=λz=>by
 obtain⟨y,g⟩|⟨y,g⟩|⟨y,g⟩:=h.own_ty z<;>rw[e]at g<;>cases g
theorem SrAt.tups(h:SrAt C A t s S H)(m:Mv A H c):TupS H c:=λa x e=>m a _ (h.ntup e) e
theorem SrAt.make(h:SrAt C A t s S H)(m:Mv A H c)(x:c A.x=gV (.ins C A.dx<|ue A<|rc S'.win))(l:∀z,∃v,c (A.ll z)=gV (.lst v)/\cO c (S'.lw z) v)(d:∀z,∃D,c (A.pp z)=gV (.dT D)/\JP D (S'.ow z))
  (b:c A.b=gV (.lst<|S'.bs.map V.bl)) (f:∃v,c A.f=gV (.lst v)/\iz c S'.fs v) (r:∃v,c A.r=gV (.lst v)/\Rsts A t s S'.bs c v) (g:∀z,∀d∈S'.lw z,bd d) (L:∀z,(S'.ow z).length=(S'.lw z).length):SrAt C A t s S' c:=by
 have k:=h.tups m;obtain⟨X,q,Q⟩:=h.hq;exact⟨x,k _ _ h.hp,⟨X,m _ _ (λz=>h.nq<|.inl z) q,k.cls Q⟩,m _ _ (h.ndk h.hl) h.hl,m _ _ (h.ndk h.hd) h.hd,l,d,b,f,r,h.nq,h.nd,h.np,g,L,λa z=>let ⟨n,o,e⟩:=h.far a z;⟨n,o,m _ _ n e⟩⟩
theorem Rsts.mono(r:Rsts A t c b H s)(m:Mv A H h)(k:TupS H h):Rsts A t c b h s:=
 ⟨r.len,λi v e=>let ⟨a,w,d,f,E,g⟩:=r.at_ i v e;⟨a,w,d,m _ _ (λz=>E<|.inl z) f,E,k.opts g⟩⟩
theorem SrAt.same(h:SrAt C A t c S H)(k:Same H a):SrAt C A t c S a:=
 h.make (.of k) (k _ _ h.hx) (λz=>let ⟨v,e,g⟩:=h.l z;⟨v,k _ _ e,(TupS.of k).goods (h.good z) g⟩) (λz=>let ⟨D,e,g⟩:=h.d z;⟨D,k _ _ e,g⟩) (k _ _ h.b) (let ⟨v,e,g⟩:=h.f;⟨v,k _ _ e,(TupS.of k).opts g⟩) (let ⟨v,e,g⟩:=h.r;⟨v,k _ _ e,g.mono (.of k)<|.of k⟩) h.good h.len
structure ND (A:SA):Prop where
 bf:A.b≠A.f
 br:A.b≠A.r
 fr:A.f≠A.r
 lb:∀z,A.ll z≠A.b
 lf:∀z,A.ll z≠A.f
 lr:∀z,A.ll z≠A.r
 ll:A.ll NZ≠A.ll NU
theorem SrAt.nes(h:SrAt m A t s S H):ND A:=by
 have:=h.nd;simp only[PU,Oz,PQ,R9,not_or]at this;obtain⟨⟨a,c,e,g⟩,⟨B,i,j⟩,⟨C,k⟩,D,y⟩:=this;exact⟨a,c,B,(λz=>by cases z;exact Pw e;exact Pw g),(λz=>by cases z;exact Pw i;exact Pw j),(λz=>by cases z;exact Pw C;exact Pw k),D⟩
theorem Nl(h:ND A)(e:a≠b):A.ll a≠A.ll b:=by
 cases a<;>cases b
 ·exact absurd rfl e
 ·exact h.ll
 ·exact λz=>h.ll z.symm
 simp_all
theorem SrAt.ne_p(h:SrAt C A t c S H){a b:N6}(e:a≠b):A.pp a≠A.pp b:=by
 cases a<;>cases b
 ·exact absurd rfl e
 ·exact h.np
 ·exact λz=>h.np z.symm
 simp_all
end
inductive vy (C:C')(vs:ab V)(H:Hp)(Q:VK)(E:XK):Prop
 |mk (A:SA)(t:Str)(s:ab (ab Int))(S:SS)(hw:N6)(v u:V)(d:Oe)(c:ab Int)(h0:vs=[.ref A.x,.str<|ax hw,v,u])(h:SrAt C A t s S H)(b:RD H d v)(g:bd d)(e:CL H c u)(hn:b_ S<=9000)(q:∀a,SrAt C A t s (dI hw d c S) a->Mv A H a->Q .non a)
theorem uf(S:SS)(h:N6):(S.lw h).length<=b_ S:=by
 unfold b_;cases h<;>lia
theorem FM(F:Fun K "put" "Searcher.put" Hh f fd)(T:o8 K mg I):ao P w K mg aC aP 1 f fd ["self","hand","line","literals"] (vy I):=by
 refine F.okB (N:=["self","hand","line","literals"]) λQC A an s H k Q E sc hr h=>?_;obtain⟨B,t,cs,S,b,v,u,d,c,rfl,h,hv,hg,as,hn,q⟩:=h;have hu:=hr.units;have G:=mT hr;obtain⟨tc,rfl,Q7⟩:=as;obtain⟨D,m,av,r⟩:=h.d b;obtain⟨l,i,J⟩:=h.l b;have aF:=uf S b;have P1:=h.len b;have aL:=ci J;have L:H tc=gV (.tup<|(gP c).map kV):=by rw[kP];exact Q7
 have M:=DGet.t m L;rw[r c]at M;refine⟨_,(ap (aO (jc<|iJ G (pv 3)<|bz G gg (pv 1) λg g=>rfl) (ae (wy G (bz G gg (pv 1) λg g=>rfl) (pv 3) (aR e_ rfl T.len RB<|gY<|bz G gg (pv 1) λg g=>rfl) rfl)
   (ap<|cB<|fC Pe PX Qb cK (bz G gg (pv 1) λg g=>rfl)<|gY<|pv 2)) ay)),?_⟩
 exists _,rfl,_,rfl,B.x,I,B.dx,_,_,rfl,h.hx,T.cl,T.nP,rfl,_,rfl,B.dp,_,rfl,fq h.hd b,B.pp b,_,rfl,M,_,rfl;by_cases p:c∈S.ow b
 ·rw[Oi p];refine ak<|q H ?_<|.of<|Same.refl _;rw[jn p];exact h
 rw[Oh p];refine aq ?_;exists _,rfl,B.x,I,B.dx,_,_,rfl,h.hx,T.cl,T.nL,rfl,_,rfl,B.dl,_,rfl,fq h.hl b,.ref<|B.ll b,_,rfl,.inl ⟨_,SqL.of i,rfl⟩;exists _,rfl,B.x,I,B.dx,_,_,rfl,h.hx,T.cl,T.nP,rfl,_,rfl,B.dp,_,rfl,fq h.hd b,_,rfl,B.pp b,_,rfl,DPut.t m L (cg<|by lia);have oP:B.own (B.pp b):=.inr<|.inr<|.inr<|.inr ⟨b,.inr rfl⟩;have oL:B.own (B.ll b):=.inr<|.inr<|.inr<|.inr ⟨b,.inl rfl⟩;have m1:Mv B H (upd H (B.pp b)<|.dT<|cn D (gP c)<|.int (l.length:Nat)):=(Mv.of<|Same.refl H).upd oP _;have O:B.pp b≠B.ll b:=bj m i (by intro z;cases z);have X:∀a o,H a=gV o->a≠B.pp b->upd H (B.pp b) (.dT<|cn D (gP c)<|.int (l.length:Nat)) a=gV o:=λa o e n=>by rw[af n];exact e
 have s1:=@aa H (B.pp b) (.dT<|cn D (gP c)<|.int (l.length:Nat));generalize upd H (B.pp b) (.dT<|cn D (gP c)<|.int (l.length:Nat))=U at m1 X s1 ⊢;have nx:B.x≠B.pp b:=bj h.hx m (by simp);have az:=X _ _ h.hx nx;have Yb:=X _ _ h.hl (bj h.hl m<|by simp);have W:=X _ _ i<|Pw O;have k1:=h.tups m1;exists _,rfl,B.x,I,B.dx,_,_,rfl,az,T.cl,T.nL,rfl,_,rfl,B.dl,_,rfl,fq Yb b,.inl ⟨rfl,_,SqL.of W⟩,_,rfl,B.ll b,l,v,rfl,rfl,W,cg (by lia);have Y:Mv B H (upd U (B.ll b)<|.lst<|l++[v]):=m1.upd oL _;have x:∀a o,H a=gV o->a≠B.pp b->a≠B.ll b->upd U (B.ll b) (.lst<|l++[v]) a=gV o:=λa o e n n2=>by rw[af n2];exact X a o e n
 have s2:=@aa U (B.ll b) (.lst<|l++[v]);have s3:upd U (B.ll b) (.lst<|l++[v]) (B.pp b)=gV (.dT<|cn D (gP c)<|.int (l.length:Nat)):=by rw[af O];exact s1
 generalize upd U (B.ll b) (.lst<|l++[v])=H2 at Y x s2 s3 ⊢;have Z:=h.tups Y;have N:=h.nes;refine q H2 (h.make (S':=dI b d c S) Y ?_ ?_ ?_ ?_ ?_ ?_ ?_ ?_) Y
 ·rw[gF];exact x _ _ h.hx nx (by lia)
 ·intro z;rw[d6 p];show∃k,H2 (B.ll z)=gV (.lst k)/\cO H2 (cH S.lw b d z) k
  by_cases e:z=b
  ·subst e;rw[bi];exact⟨_,s2,nJ (Z.goods (h.good z) J)<|ag (Z.good hg hv) au⟩
  rw[b8 _ _ e];obtain⟨k,j,C⟩:=h.l z;exact⟨k,x _ _ j (bj j m<|by intro z;cases z)<|Nl N e,Z.goods (h.good z) C⟩
 ·intro z;rw[d6 p];show∃D,H2 _=gV _/\JP D (cH _ b c z)
  by_cases e:z=b
  ·subst e;rw[bi];refine⟨_,s3,?_,λc'=>?_⟩
   ·have Wn:bh D (gP c)=none:=by simp_all
    rw[lX Wn,NX,av];rfl
   rw[fV];by_cases e:c'=c
   ·subst e;rw[Oi<|O2 _<|N9.mpr rfl,Y5];simp_all
   rw[Oh λz=>e<|hH.mp z,r c'];grind
  rw[b8 _ _ e];obtain⟨D',j,C⟩:=h.d z;exact⟨D',x _ _ j (h.ne_p e) (bj j i<|by intro z;cases z),C⟩
 ·rw[hG];exact x _ _ h.b (bj h.b m<|by simp)<|Pw<|N.lb b
 ·rw[hI];obtain⟨k,j,C⟩:=h.f;exact⟨k,x _ _ j (bj j m<|by intro z;cases z)<|Pw<|N.lf b,Z.opts C⟩
 ·rw[hG];obtain⟨k,j,C⟩:=h.r;exact⟨k,x _ _ j (bj j m<|by intro z;cases z)<|Pw<|N.lr b,C.mono Y Z⟩
 ·intro z d' am;rw[d6 p]at am;have X_:d'∈cH _ b d z:=am;by_cases e:z=b
  ·subst e;rw[bi]at X_;obtain y|y:=OB.mp X_
   ·exact h.good z d' y
   simp_all
  rw[b8 _ _ e]at X_;exact h.good z d' X_
 intro z;rw[d6 p];show(cH _ b c z).length=(cH _ b d z).length
 by_cases e:z=b
 ·subst e;rw[bi,bi,NX,NX,h.len z];rfl
 rw[b8 _ _ e,b8 _ _ e];exact h.len z
inductive iA (C:C')(vs:ab V)(H:Hp)(Q:VK)(E:XK):Prop
 |mk (A:SA)(t:Str)(s:ab (ab Int))(S:SS)(hw:N6)(v u:V)(d:Oe)(c:ab Int)(h0:vs=[.ref A.x,.str<|ax hw,v,u])(h:SrAt C A t s S H)(e:RD H d v)(g:bd d)(f:CL H c u)(hok:ar t.length c)(ht:t.length<=18)(hn:b_ S<=8900)(q:∀a b,SrAt C A t s (bx t hw d c S) b->Mv A H b->jw b a (aG t hw c)->Q (.ref a) b)
inductive rf (C:C')(vs:ab V)(H:Hp)(Q:VK)(E:XK):Prop
 |mk (A:SA)(t:Str)(s:ab (ab Int))(S:SS)(hw:N6)(u U:V)(F c:ab Int)(z:Int)(h0:vs=[.ref A.x,.str<|ax hw,u,U,.int z])(h:SrAt C A t s S H)(d:CL H F u)(e:CL H c U)(mF:F∈S.ow hw)(m:c∈S.ow hw)(okF:ar t.length F)(okC:ar t.length c)(hb:di F c z=NZ)(ht:t.length<=18)(hn:b_ S<=8900)(q:∀a b,SrAt C A t s (bx t hw (b9 (S.ow hw) F c z) (bH F c z) S) b->Mv A H b->jw b a (aG t hw<|bH F c z)->Q (.ref a) b)
theorem Cf(h:H a=gV (.tup [.str aE,.int (k:Int)])):RD H (nV k) (.ref a):=aQ h<|ag (cP _)<|ag (aX _) au
theorem ug(h:H a=gV (.tup [.str aY,.int (i:Int),.int (j:Int),.int z])):RD H (pZ i j z) (.ref a):=aQ h<|ag (cP _)<|ag (aX _)<|ag (aX _)<|ag (aX _) au
theorem zp(F:Fun K "learn" "Searcher.learn" xu f Z)(T:o8 K M C)(WG:Fe P w K M e 3 "dropped" dR)(n:rX P w K M e aP 1 C "put" g2 e2 ["self","hand","line","literals"] (vy C)):ao P w K M e aP 4 f Z ["self","hand","line","literals"] (iA C):=by
 refine F.okB (N:=["self","hand","line","literals","left"]) λQC A o s H vs Q E sc r h=>?_;obtain⟨B,t,J,S,b,v,u,d,c,rfl,h,hv,hg,p,k,ht,hn,q⟩:=h;have N:=mT r;obtain⟨l,rfl,x⟩:=p;have TQ:=bw k;refine⟨_,(ae gg
  (ae gg
  (ae (cB<|il n (pv 0) r (by simp)<|aD (pv 1)<|g_ (dQ<|g_ gz<|bz N (bz N gg (pv 1) λV V=>rfl) (pv 3) λV V=>rfl)<|pv 4)
  (cr<|pv 4)))),?_⟩
 refine⟨_,rfl,B.x,C,B.dx,_,_,rfl,h.hx,T.cl,T.nS,rfl,_,rfl,_,rfl,B.p,l,t,_,b,c,rfl,h.hp,(by lia),x,(by lia),k.2,λL H1 g Zy=>?_⟩;have y:=h.same g;refine⟨_,rfl,B.x,B.dx,_,rfl,y.hx,rfl,_,rfl,_,rfl,_,rfl,B,t,J,S,b,v,.ref l,d,c,rfl,y,gK g _ _ hv,hg,⟨l,rfl,g _ _ x⟩,(by lia),λz i U=>?_⟩;have W:=y.tups U;have Xx:=W _ _<|g _ _ x;have O:=W _ _ Zy;have hm:c∈(dI b d c S).ow b:=mx;obtain⟨D,hD,ac,G⟩:=i.d b;have I:z l=gV (.tup<|(gP c).map kV):=by rwa[kP]
 have j:=DGet.t hD I;rw[G c,Oi hm]at j;refine⟨_,rfl,B.x,B.dx,_,rfl,i.hx,rfl,_,rfl,_,rfl,B.x,C,B.dx,_,_,rfl,i.hx,T.cl,T.nP,rfl,_,rfl,B.dp,_,rfl,fq i.hd b,_,rfl,B.pp b,_,rfl,j,(by show 2<=sizeLine;decide),λa na=>?_⟩;have m:=ad na<|.tup [.str aE,.int (((dI b d c S).ow b).idxOf c)];have X:=i.same m;have s3:=CB m;have am:=kT (h:=b) (d:=d) (c:=c) (S:=S);exact⟨_,rfl,B,t,J,dI b d c S,b,_,.ref L,nV<|((dI b d c S).ow b).idxOf c,aG t b c,rfl,X,Cf s3,p_ _,⟨L,rfl,m _ _ O⟩,(by lia),λH4 h4 Y=>⟨_,rfl,q L H4 h4 ((Mv.of g).trans<|U.trans<|(Mv.of m).trans Y)<|(X.tups Y) _ _<|m _ _ O⟩⟩
theorem Cg(F:Fun K "learn_join" "Searcher.learn_join" Ce f fd)(T:o8 K U C)(a0:Fe P w K U g 1 "joined" im)(a3:rX P w K U g aP 4 C "learn" g2 e2 ["self","hand","line","literals"] (iA C)):ao P w K U g aP 5 f fd ["self","hand","first","second","variable"] (rf C):=by
 refine F.okB (N:=["self","hand","first","second","variable","places","line"]) λQC A W s H vs Q E sc hr h=>?_;obtain⟨B,t,cs,S,d,u1,u2,e,c,z,rfl,h,X,Y,mF,mC,o,O,Z,ht,hn,q⟩:=h;have hu:=hr.units;have l:=mT hr;obtain⟨J,rfl,i⟩:=X;obtain⟨t2,rfl,n⟩:=Y;obtain⟨D,hD,a4,v⟩:=h.d d;have l1:=bw o;have l2:=bw O;have p:H J=gV (.tup<|(gP e).map kV):=by rw[kP];exact i
 have u:H t2=gV (.tup<|(gP c).map kV):=by rw[kP];exact n
 have Yc:=DGet.t hD p;rw[v e,Oi mF]at Yc;have G:=DGet.t hD u;rw[v c,Oi mC]at G;have JE:∀r,Joins e c z r->r=bH e c z:=λr ac=>Joins.eq o.1 O.1 Z ac;have am:=nz o O Z;refine⟨_,(ae (sT 5<|bz l gg (pv 1) λR R=>rfl)
  (ae (sT 6<|dQ<|aD gz<|aD (bz l (pv 5) (pv 2) λR R=>rfl)<|g_ (bz l (pv 5) (pv 3) λR R=>rfl)<|pv 4)
  (ae (aO gg (ap<|sT 6<|dQ<|aD gz<|aD (bz l (pv 5) (pv 3) λR R=>rfl)<|g_ (bz l (pv 5) (pv 2) λR R=>rfl)<|pv 4) ay)
  gg))),?_⟩
 exists _,rfl,B.x,C,B.dx,_,_,rfl,h.hx,T.cl,T.nP,rfl,_,rfl,B.dp,_,rfl,fq h.hd d;refine⟨_,rfl,_,rfl,B.pp d,_,rfl,Yc,_,rfl,_,rfl,B.pp d,_,rfl,G,_,rfl,(by show 4<=sizeLine;decide),λa1 n1=>?_⟩;have j:=ad n1<|.tup [.str aY,.int ((S.ow d).idxOf e),.int ((S.ow d).idxOf c),.int z];have s1:=CB j;have m:∀L a,Same H L->RD L (b9 (S.ow d) e c z) (.ref a)->bd (b9 (S.ow d) e c z)->Ek (sA C "learn" (iA C) [] E0 (mG 0)<|iW (mG 1)<|iW (mG 6)<|iW (wu im [] E0<|iW (mG 2)<|iW (mG 3)<|iW (mG 4) uM) uM) {nx:=λR H'=>Q .non H',rt:=Q} [gV<|.ref B.x,gV<|.str<|ax d,gV<|.ref J,gV<|.ref t2,gV<|.int z,gV<|.ref<|B.pp d,gV<|.ref a] L:=by
  intro L a k an as;have h1:=h.same k;refine⟨_,rfl,B.x,B.dx,_,rfl,h1.hx,rfl,_,rfl,_,rfl,_,rfl,_,rfl,_,rfl,J,t2,e,c,z,rfl,k _ _ i,k _ _ n,(by lia),o.1,O.1,Z,λlj r H2 M hj av=>?_⟩;obtain rfl:=JE r hj;have VZ:=k.trans M;exact⟨B,t,cs,S,d,_,.ref lj,b9 _ e c z,bH e c z,rfl,h.same VZ,gK M _ _ an,as,⟨lj,rfl,av⟩,am,ht,hn,λb H3 h3 m3 az=>q b H3 h3 ((Mv.of VZ).trans m3) az⟩
 have aC:(if NZ=NU then !jg (.int (-z)) (e.map V.int)else jg (.int (-z)) (e.map V.int))=e.contains (-z):=by rw[Oh Oa,bq]
 exists _,rfl,_,rfl,_,rfl,J,_,rfl,.inr<|SqT.of<|j _ _ i,rfl,bC _,_,rfl;rw[aC];cases N:e.contains _ with
 |false=>
  refine ak<|m _ a1 j ?_ ?_
  ·unfold b9;rw[N];exact ug s1
  ·unfold b9;rw[N];exact iQ _ _ _
 |true=>
  have x:=j _ _ hD;have aF:=j _ _ p;have aL:=j _ _ u;have y:=DGet.t x aF;rw[v e,Oi mF]at y;have I:=DGet.t x aL;rw[v c,Oi mC]at I;refine aq ⟨_,rfl,_,rfl,B.pp d,_,rfl,I,_,rfl,_,rfl,B.pp d,_,rfl,y,_,rfl,(by show 4<=sizeLine;decide),λa2 n2=>?_⟩;have M:=ad n2<|.tup [.str aY,.int ((S.ow d).idxOf c),.int ((S.ow d).idxOf e),.int z];refine m _ a2 (j.trans M) ?_ ?_
  ·unfold b9;rw[N];exact ug aa
  unfold b9;rw[N];exact iQ _ _ _
noncomputable abbrev Ch:Pk:=top 20
noncomputable abbrev Cj:Pk:=top 73
noncomputable abbrev Ck:Pk:=cC (top 75) 4
def iR:Sp:=λv H Q _=>∃(n:Int) (b:N6),v=[.int n,.bl b]/\Q (.int (if b=NU then n else -n)) H
noncomputable def xv:NW (ab Int)->Int->NW (ab Int)
 |none,_=>N4
 |some r,z=>if r.contains z=NU then N4 else if r.contains (-z)=NU then gV (r.drop 1)else gV r
inductive rg (vs:ab V)(H:Hp)(Q:VK)(E:XK):Prop
 |mk (v:V)(o:NW (ab Int))(z:Int)(h0:vs=[v,.int z])(b:lW H o v)(d:∀c,o=gV c->c.length<=60)(q:∀a h,Same H h->lW h (xv o z) a->Q a h)
theorem li(H:1<=absI l):bW NU (B++[b]) l=(bW NU B l || decide (l=if b=NU then(B.length:Int)+1 else -((B.length:Int)+1))):=by
 obtain g|g|g:=VU _ _
 ·rw[tK g,N3,Rx];intro z;have:absI l=(B.length)+1:=by
   rw[z]
   split
   ·rfl
   rw[d9];rfl
  simp_all
 ·rw[tL g,fh<|Ui g.symm,R6];have h:absI l=(B.length)+1:=by lia
  obtain e|e:=B_ (by simp_all) h
  ·rw[e,Ob (by lia)];cases b
   ·rfl
   simp
  rw[e];cases b
  ·rw[Oh Oa,Ob rfl];rfl
  rfl
 rw[fh (by rw[NX,OG];exact Nat.le_of_lt_succ (Nat.succ_lt_succ g)),fh (OQ g),N3,R6];intro z;have:absI l=(B.length)+1:=by
  rw[z]
  split
  ·rfl
  rw[d9];rfl
 simp_all
theorem zq(k:ar n c):xv (cw B c) (if b=NU then(B.length:Int)+1 else -((B.length:Int)+1))=cw (B++[b]) c:=by
 generalize d:(if b=NU then(B.length:Int)+1 else -((B.length:Int)+1))=z;have A:absI z=(B.length:Int)+1:=by
  rw[<-d]
  split
  ·rfl
  rw[d9];rfl
 have w:c.any (bW NU<|B++[b])=(c.any (bW NU B) || c.contains z):=by
  rw[PV,QL,OR,OR,N'];constructor
  ·rintro⟨l,H,h⟩;rw[li (k.2 l H).1,d,QL]at h;exact h.imp (λq=>⟨l,H,q⟩) λq=>by simp_all
  rintro (⟨l,H,h⟩|h)
  ·exact⟨l,H,by rw[li (k.2 l H).1,h,Y9]⟩
  exact⟨z,h,by rw[li (k.2 z h).1,d,Ob rfl,Bool.or_true]⟩
 unfold cw;rw[w,NX,OG];cases j:c.any (bW NU B)with
 |true=>rfl
 |false=>
  rw[Oh Oa,R6];show(if(c.filter λl=>decide ((B.length:Int)<absI l)).contains z=NU then N4 else if(c.filter λl=>decide ((B.length:Int)<absI l)).contains (-z)=NU then gV ((c.filter λl=>decide ((B.length:Int)<absI l)).drop 1)else gV (c.filter λl=>decide ((B.length:Int)<absI l)))=_
  have U:∀y,absI y=(B.length:Int)+1->((c.filter λl=>decide ((B.length:Int)<absI l)).contains y=NU↔y∈c):=λy o=>by
   rw[N',Oq,OZ];exact⟨λq=>q.1,λq=>⟨q,by lia⟩⟩
  by_cases g:z∈c
  ·rw[Oi<|(U z A).mpr g,Oi<|N'.mpr g]
  rw[Oh λq=>g<|(U z A).mp q,Oh λq=>g<|N'.mp q];have f:c.filter (λl=>decide (((B.length+1:Nat):Int)<absI l))=(c.filter λl=>decide ((B.length:Int)<absI l)).filter λl=>decide (((B.length+1:Nat):Int)<absI l):=by
   rw[List.filter_filter];refine Uq λl v=>?_;lia
  have p:Ups (c.filter λl=>decide ((B.length:Int)<absI l)):=Py.mpr<|SQ _<|Py.mp k.1;have t:∀l∈c.filter λl=>decide ((B.length:Int)<absI l),(B.length:Int)<absI l:=λl H=>Oo (Oq.mp H).2;have a:∀l∈c.filter λl=>decide ((B.length:Int)<absI l),absI l=(B.length:Int)+1->l=-z:=λl H e=>by
   have E:absI l=absI z:=by simp_all
   obtain q|q:=fZ E
   ·exact absurd (q▸(Oq.mp H).1) g
   simp_all
  rw[f];generalize c.filter (λl=>decide ((B.length:Int)<absI l))=r at p t a U;by_cases G:r.contains (-z)=NU
  ·rw[Oi G]
   congr 1
   have m:=N'.mp G;cases r with
   |nil=>rfl
   |cons x r=>
    have s:absI x=(B.length:Int)+1:=by
     have i:=t x Om;obtain e|e:=Oz.mp m
     ·rw[<-e,d9];exact A
     have:=p.head _ e;rw[d9,A]at this;lia
    rw[PJ<|by lia];refine(Qg.mpr λl H=>?_).symm;have:=p.head l H;simp_all
  rw[Oh G]
  congr 1
  refine(Qg.mpr λl H=>?_).symm;have i:=t l H;obtain q|q|q:=Int.lt_trichotomy (absI l) ((B.length)+1)
  ·omega
  ·exact absurd (N'.mpr<|a l H q▸H) G
  lia
theorem Cl(F:Fun K "literal_by" "literal_by" Ch f d):ao P w K m B aP 1 f d ["variable","value"] iR:=by
 refine F.okB (N:=["variable","value"]) λC A o s H v Q E c r h=>?_;obtain⟨n,b,rfl,q⟩:=h;exists _,gg;exists _,rfl,_,rfl;cases b with
 |true=>exact aq ⟨_,rfl,q⟩
 |false=>exact ak ⟨_,rfl,_,rfl,q⟩
theorem Cn(F:Fun K "rest_behind" "rest_behind" Cj f l):ao P w K M B aP 1 f l ["rest","literal"] rg:=by
 refine F.okB (N:=["rest","literal"]) λD A O s H I Q E J L h=>?_;obtain⟨v,o,z,rfl,i,T,q⟩:=h;refine⟨_,(ae gg
  (cr<|jx gg (cR E2 (pv 0) gg dA)<|pv 0)),?_⟩
 cases o with
 |none=>
  have g:=i;subst g;exists _,rfl,rfl,_,rfl;exact aq<|aq<|q _ _ (Same.refl _) rfl
 |some r=>
  obtain⟨t,rfl,a⟩:=i;have e:∀y,(if NZ=NU then !jg (.int y) (r.map V.int)else jg _ _)=r.contains y:=λy=>by rw[Oh Oa,bq]
  exists _,rfl,rfl,_,rfl;refine ak ⟨_,rfl,_,rfl,t,_,rfl,.inr<|SqT.of a,rfl,bC _,_,rfl,?_⟩;rw[e];cases j:r.contains z with
  |true=>exact aq<|q _ _ (Same.refl _) (by show lW H (if r.contains z=NU then N4 else _) _;rw[Oi j];rfl)
  |false=>
   have d:=λc b k m=>q c b k (by
    show lW b (if r.contains z=NU then N4 else if r.contains _=NU then gV _ else gV r) c
    rwa[Oh<|by lia])
   refine ak ⟨_,rfl,_,rfl,_,rfl,t,_,rfl,.inr<|SqT.of a,rfl,bC _,_,rfl,?_⟩;rw[e];cases G:r.contains _ with
   |true=>
    rw[G]at d;have n:=N'.mp G;have U:1<=r.length:=WU n;refine aq ⟨_,rfl,1,rfl,t,_,rfl,SqT.of a,λu=>?_,λZ p N=>?_⟩
    ·have x:HT.sIx (r.map V.int).length 0 (gV 1)=min 1 _:=rfl;simp_all
    ·have C:eJ (r.map V.int) (gV 1) N4=(r.drop 1).map V.int:=by
      rw[show(gV (1))=gV (((1:Nat):Int))from rfl,jJ,Z8]
     rw[C];exact d _ _ (ad N _) ⟨p,rfl,aa⟩
   |false=>
    rw[G]at d;exact ak ⟨_,rfl,d _ _ (Same.refl _) ⟨t,rfl,a⟩⟩
inductive my (a:C')(vs:ab V)(H:Hp)(Q:VK)(E:XK):Prop
 |mk (A:SA)(t:Str)(C:ab (ab Int))(S:SS)(b:N6)(f:V)(o:NW (ab Int))(h0:vs=[.ref A.x,.bl b,f])(h:SrAt a A t C S H)(e:lW H o f)(hc:∀c∈C,ar t.length c)(ht:t.length<=18)(hcs:C.length<=900)(hb:S.bs.length<=18)(g:S.fs.length<=18)(q:∀d,SrAt a A t C (dN b o S) d->Mv A H d->Q .non d)
theorem paired_len{a b:Type}{R:a->b->Prop}{A:ab a}{B:ab b}(h:Paired R A B):A.length=B.length:=by
 induction h with
 |nil=>rfl
 |cons _ _ i=>simp_all
theorem qf{d c:Type}{R:d->c->Prop}{A:ab d}{B:ab c}(h:Paired R A B):∀{i:Nat} {b:c},B[i]?=gV b->∃a,A[i]?=gV a/\R a b:=by
 induction h with
 |nil=>intro i b e;simp at e
 |cons r _ I=>
  intro i b e;cases i with
  |zero=>
   simp_all
  |succ i=>
   simp_all
theorem lS{c d:Type}{R:c->d->Prop}{A:ab c}{B:ab d}{a:c}{b:d}(h:Paired R A B)(r:R a b):Paired R (A++[a]) (B++[b]):=by
 induction h with
 |nil=>exact .cons r .nil
 |cons e _ i=>exact .cons e i
theorem uh{x:ab V}{y:V}(h:x[x.length-1]?=gV y):iU x (-1)=gV y:=by
 have H:0<x.length:=by
  have:=(NT.mp h).1;lia
 unfold iU Ec;rw[Oh (by decide),Oi<|by lia];rwa[show(-1+(x.length:Int)).toNat=x.length-1 by lia]
inductive Hi (h:Hp)(D:C')(z:Int)(os:ab (NW<|ab Int))(i:Nat)(a:St)(ys:ab V)(H:Hp):Prop
 |mk (v:NW V)(h0:a=[v,gV (.int z)])(b:H D=gV (.lst ys))(c:Same h H)(d:iz H ((os.take i).map λo=>xv o z) ys)
theorem Co(F:Fun K "fill_in" "Searcher.fill_in" Ck f fd)(T:o8 K mg CS)(aC:Fe P w K mg M 1 "literal_by" iR)(ba:Fe P w K mg M 1 "rest_behind" rg):ao P w K mg M aP 2 f fd ["self","value","first"] (my CS):=by
 refine F.okB (N:=["self","value","first","literal"]) λQC A aF s H vs Q E sc hr h=>?_;obtain⟨B,t,cs,S,b,fv,o,rfl,h,ho,hc,ht,bb,bc,bf,q⟩:=h;have N:=h.nes;obtain⟨j,hf,am⟩:=h.f;have bg:=paired_len am;refine⟨_,(ae (sT 3<|rY aC hr<|g_ (cm Al (aR e_ rfl T.len RB gg) cZ)<|pv 1)
  (ae gg
  (ae gg
  (ap<|cB<|fC Pe PX Qb cK gg<|gY<|jR ["rest","literal"] [N4,gV 3]<|aT gg)))),?_⟩
 exists _,rfl,B.x,CS,B.dx,_,_,rfl,h.hx,T.cl,T.nB,rfl,.ref B.b,_,rfl,.inl ⟨_,SqL.of h.b,rfl⟩,_,_,rfl,rfl,_,rfl,_,b,rfl;rw[J'];generalize hz:(if b=NU then((S.bs.length:Nat):Int)+1 else -(((S.bs.length:Nat):Int)+1))=z;exists _,rfl,B.x,CS,B.dx,_,_,rfl,h.hx,T.cl,T.nB,rfl,.inl ⟨rfl,_,SqL.of h.b⟩,_,rfl,B.b,_,_,rfl,rfl,h.b,ai (by rw[J'];lia);have oB:B.own B.b:=.inr<|.inl rfl;have oF:B.own B.f:=.inr<|.inr<|.inl rfl;have oR:B.own B.r:=.inr<|.inr<|.inr<|.inl rfl;have U:B.x≠B.b:=bj h.hx h.b (by simp);have an:B.x≠B.f:=bj h.hx hf (by simp);have m1:Mv B H (upd H B.b<|.lst<|S.bs.map V.bl++[.bl b]):=(Mv.of<|Same.refl H).upd oB _;have Xr:∀a u,H a=gV u->a≠B.b->upd H B.b (.lst<|S.bs.map V.bl++[.bl b]) a=gV u:=λa u e n=>by rw[af n];exact e
 have s1:=@aa H B.b (.lst<|S.bs.map V.bl++[.bl b]);generalize upd H B.b (.lst<|S.bs.map V.bl++[.bl b])=H1 at m1 Xr s1 ⊢;have aL:=Xr _ _ h.hx U;have as:=Xr _ _ hf<|Pw N.bf;exists _,rfl,B.x,CS,B.dx,_,_,rfl,aL,T.cl,T.nF,rfl,.inl ⟨rfl,_,SqL.of as⟩,_,rfl,B.f,_,_,rfl,rfl,as,ai (by lia);have m2:Mv B H (upd H1 B.f<|.lst<|j++[fv]):=m1.upd oF _;have Vh:∀a u,H a=gV u->a≠B.b->a≠B.f->upd H1 B.f (.lst<|j++[fv]) a=gV u:=λa u e n n2=>by rw[af n2];exact Xr a u e n
 have s2:=@aa H1 B.f (.lst<|j++[fv]);have W:upd H1 B.f (.lst<|j++[fv]) B.b=gV (.lst<|S.bs.map V.bl++[.bl b]):=by rw[af N.bf];exact s1
 generalize upd H1 B.f (.lst<|j++[fv])=H2 at m2 Vh s2 W ⊢;have k2:=h.tups m2;have WA:=Vh _ _ h.hx U an;obtain⟨r,Zd,X⟩:=h.r;have J:=Vh _ _ Zd (Pw N.br)<|Pw N.fr;have a0:=X.mono m2 k2;have a1:=X.len;have X':r[r.length-1]?=gV (r.getD (r.length-1) .non):=getD_some (by simp_all);obtain⟨a,ws,ev,Y,bk,ac⟩:=a0.at_ _ _ X';rw[ev]at X';rw[show r.length-1=S.bs.length by lia,Od<|N1 _]at ac;have bl:=paired_len ac;have bm:(bR t cs S.bs).length=cs.length:=J' _;refine⟨_,rfl,B.x,CS,B.dx,_,_,rfl,WA,T.cl,T.nR,rfl,.inl ⟨rfl,_,SqL.of J⟩,_,rfl,B.x,CS,B.dx,_,_,rfl,WA,T.cl,T.nR,rfl,_,rfl,(dM J (uh X') ⟨a,rfl,⟨_,SqL.of Y⟩,λD nD=>?_⟩)⟩;have br:a≠D:=ah Y nD;have av:¬B.taken D:=λZ=>by
  obtain(Z|Z|Z|Z|⟨y,Z|Z⟩)|Z:=Z
  ·simp_all
  ·simp_all
  ·simp_all
  ·lia
  ·obtain⟨vs,e,R⟩:=h.l y;rw[Z,Vh _ _ e (N.lb y)<|N.lf y]at nD;cases nD
  ·obtain⟨D',e,R⟩:=h.d y;rw[Z,Vh _ _ e (bj e h.b<|by intro z;cases z)<|bj e hf<|by intro z;cases z]at nD;cases nD
  obtain⟨n,o,e⟩:=h.far _ Z;rw[m2 _ _ n e]at nD;cases nD
 refine cy (K:=K) (a:=a) (xs:=ws) (Hi H2 D z<|bR t cs S.bs) ⟨N4,rfl,aa,ad nD _,.nil⟩ ?_ ?_ ?_
 ·rintro i σ ys p R ⟨R,R,i1,I,R⟩;exact⟨i1,SqL.of<|I _ _ Y⟩
 ·rintro i x σ ys p hx ⟨v0,rfl,i1,I,i3⟩;obtain⟨oi,d,a2⟩:=qf ac hx;have Wy:=(NT.mp d).1;have a3:=paired_len i3;rw[J',OC]at a3;have a4:∀c,oi=gV c->c.length<=60:=λc e=>by
   unfold bR at d;rw[Og]at d;cases g:cs[i]? with
   |none=>simp_all
   |some c0=>
    rw[g]at d;have m:cw S.bs (aG t NZ c0)=gV c:=(Ot d).trans e;unfold cw at m
    split at m
    ·cases m
    rw[<-Ot m];have h1:=Ph (λl=>decide ((S.bs.length:Int)<absI l))<|aG t NZ c0;have h2:=bw<|gi (t:=t) (w:=NZ)<|hc c0<|N7 g;lia
  refine cq ⟨_,rfl,_,rfl,x,oi,z,rfl,(TupS.of I).opt a2,a4,λv' H4 L a5=>?_⟩;have C:=L _ _ i1;have tk:TupS H4 (upd H4 D<|.lst<|ys++[v']):=λb' a6 e=>by rw[af λZ=>by simp_all];exact e
  exists C,ai (by lia),_,rfl,aa,(I.trans L).upd_new nD _;rw[OM,d,Oy];exact lS (((TupS.of L).trans tk).opts i3)<|tk.opt a5
 rintro σ ys p ⟨R,R,i1,I,i3⟩;rw[Od<|by simp_all]at i3;have bs:=I _ _ WA;have az:=I _ _ J;exists B.r,r,_,rfl,rfl,az,ai (by lia);have m4:Mv B H (upd p B.r<|.lst<|r++[.ref D]):=(m2.trans<|.of I).upd oR _;have O:∀a u,H a=gV u->a≠B.b->a≠B.f->a≠B.r->upd p B.r (.lst<|r++[.ref D]) a=gV u:=λa u e n n2 n3=>by rw[af n3];exact I _ _<|Vh a u e n n2
 have L:=h.tups m4;have a7:D≠B.r:=λZ=>(by lia);have C:upd p B.r (.lst<|r++[.ref D]) D=gV (.lst ys):=by rw[af a7];exact i1
 have tk:TupS p (upd p B.r<|.lst<|r++[.ref D]):=λb' a6 e=>by rw[af λZ=>by simp_all];exact e
 have sr:=@aa p B.r (.lst<|r++[.ref D]);have sb:upd p B.r (.lst<|r++[.ref D]) B.b=gV (.lst<|S.bs.map V.bl++[.bl b]):=by rw[af N.br];exact I _ _ W
 have sf:upd p B.r (.lst<|r++[.ref D]) B.f=gV (.lst<|j++[fv]):=by rw[af N.fr];exact I _ _ s2
 generalize upd p B.r (.lst<|r++[.ref D])=H4 at m4 O L C tk sr sb sf ⊢;refine q H4 (h.make (S':=dN b o S) m4 ?_ ?_ ?_ ?_ ?_ ?_ h.good h.len) m4
 ·exact O _ _ h.hx U an (by lia)
 ·intro y;obtain⟨vs,G,m⟩:=h.l y;exact⟨vs,O _ _ G (N.lb y) (N.lf y)<|N.lr y,L.goods (h.good y) m⟩
 ·intro y;obtain⟨D',G,m⟩:=h.d y;exact⟨D',O _ _ G (bj G h.b<|by simp) (by lia) (by lia),m⟩
 ·show H4 B.b=gV (.lst<|(S.bs++[b]).map V.bl)
  rw[Oy];exact sb
 ·exact⟨_,sf,lS (L.opts am)<|L.opt ho⟩
 refine⟨_,sr,?_,λk v hk=>?_⟩
 ·show(r++[V.ref D]).length=(S.bs++[b]).length+1
  simp_all
 by_cases g:k<r.length
 ·rw[OA g]at hk;obtain⟨a',a8,G,m,e3,e4⟩:=(X.mono m4 L).at_ k v hk;exists a',a8,G,m,e3;have:(dN b o S).bs.take k=S.bs.take k:=QG (by lia);simp_all
 rw[Ow<|by simp_all]at hk;have a9:k=r.length:=by
  grind
 subst a9;rw[PY]at hk;cases hk;exists D,ys,rfl,C,av;have G:(dN b o S).bs.take r.length=S.bs++[b]:=Od (by show(S.bs++[b]).length<=_;simp_all);rw[G];have m:(bR t cs S.bs).map (λo=>xv o z)=bR t cs (S.bs++[b]):=by
  unfold bR;rw[O_];refine R8 λc Xy=>?_;rw[<-hz];exact zq<|gi<|hc c Xy
 rw[<-m];exact tk.opts i3
noncomputable abbrev Cp:Pk:=cC (top 75) 5
inductive rh (a:C')(vs:ab V)(H:Hp)(Q:VK)(E:XK):Prop
 |mk (A:SA)(t:Str)(C:ab (ab Int))(S:SS)(hw:N6)(u:V)(c:ab Int)(h0:vs=[.ref A.x,.str<|ax hw,u])(h:SrAt a A t C S H)(d:CL H c u)(T:nZ t C hw c S)(hc:∀c∈C,ar t.length c)(ht:t.length<=18)(hcs:C.length<=900)(hn:b_ S+2*pend S.fs<=8800)(q:∀b,SrAt a A t C (fo t hw S.bs.length c S) b->Mv A H b->Q .non b)
inductive Cq (b:C')(A:SA)(t:Str)(C:ab (ab Int))(hw:N6)(R:SS)(H:Hp)(m:Nat)(d:St)(a:Hp):Prop
 |mk (c:ab Int)(S:SS)(u:V)(v e f:NW V)(h0:d=[gV<|.ref A.x,gV<|.str<|ax hw,gV u,v,e,f])(h:SrAt b A t C S a)(hm:Mv A H a)(g:CL a c u)(T:nZ t C hw c S)(k:S.bs.length=m)(hn:b_ S+2*pend S.fs<=8800)(i:fo t hw m c S=R)
theorem LV(b:∀R,R p H->T a H R)(c:∀R,R q H->d a H R)(h:if(p || q)=NU then t D a H else u D a H):Ig (Nt T d) t u D a H:=by
 refine b _ ?_;cases p with
 |true=>exact aq h
 |false=>exact ak<|c _ h
section
variable {S:SS}
theorem SrAt.pop(h:SrAt M A t C S H)(hk:S.bs.length=k+1)(q:H A.f=gV (.lst F))(Z:iz H S.fs F)(D:H A.r=gV (.lst s))(c:Rsts A t C S.bs H s):
  SrAt M A t C (bT S) (upd (upd (upd H A.b<|.lst (S.bs.map V.bl).dropLast) A.f<|.lst F.dropLast) A.r<|.lst s.dropLast)/\Mv A H (upd (upd (upd H A.b<|.lst (S.bs.map V.bl).dropLast) A.f<|.lst F.dropLast) A.r<|.lst s.dropLast):=by
 have N:=h.nes;have O:A.own A.b:=.inr<|.inl rfl;have P:A.own A.f:=.inr<|.inr<|.inl rfl;have Q:A.own A.r:=.inr<|.inr<|.inr<|.inl rfl;have m:Mv A H (upd (upd (upd H A.b<|.lst (S.bs.map V.bl).dropLast) A.f<|.lst F.dropLast) A.r<|.lst s.dropLast):=(((Mv.of<|Same.refl H).upd O _).upd P _).upd Q _;have p:∀a u,H a=gV u->a≠A.b->a≠A.f->a≠A.r->upd (upd (upd H A.b<|.lst (S.bs.map V.bl).dropLast) A.f<|.lst F.dropLast) A.r (.lst s.dropLast) a=gV u:=λa u e T U X=>by rwa[af X,af U,af T]
 have I:=@aa (upd (upd H A.b<|.lst (S.bs.map V.bl).dropLast) A.f<|.lst F.dropLast) A.r (.lst s.dropLast);have w:upd (upd (upd H A.b<|.lst (S.bs.map V.bl).dropLast) A.f<|.lst F.dropLast) A.r (.lst s.dropLast) A.f=gV (.lst F.dropLast):=by rw[af N.fr];exact aa
 have J:upd (upd (upd H A.b<|.lst (S.bs.map V.bl).dropLast) A.f<|.lst F.dropLast) A.r (.lst s.dropLast) A.b=gV (.lst (S.bs.map V.bl).dropLast):=by rw[af N.br,af N.bf];exact aa
 generalize upd (upd (upd H A.b<|.lst (S.bs.map _).dropLast) A.f<|.lst _) A.r (.lst _)=o at m p I w J ⊢;have x:=h.tups m;refine⟨h.make m ?_ ?_ ?_ ?_ ?_ ?_ h.good h.len,m⟩
 ·exact p _ _ h.hx (bj h.hx h.b<|by simp) (bj h.hx q<|by simp) (bj h.hx D<|by simp)
 ·intro y;obtain⟨g,E,i⟩:=h.l y;exact⟨g,p _ _ E (N.lb y) (N.lf y)<|N.lr y,x.goods (h.good y) i⟩
 ·intro y;obtain⟨D',E,i⟩:=h.d y;exact⟨D',p _ _ E (bj E h.b<|by simp) (bj E q<|by intro z;cases z) (bj E D<|by intro z;cases z),i⟩
 ·show o A.b=gV (.lst<|S.bs.dropLast.map _)
  simp_all
 ·exists _,w;show iz o _ _
  have L:=x.opts Z;have G:∀{os:ab _} {g:ab V},Paired (lW o) os g->Paired _ os.dropLast g.dropLast:=λ{os g} hp=>by
   induction hp with
   |nil=>exact .nil
   |cons r t ih=>
    cases t with
    |nil=>exact .nil
    |cons r' t'=>exact .cons r ih
  exact G L
 have ac:=c.len;have Y:=c.mono m x;refine⟨_,I,?_,λj v B=>?_⟩
 ·show s.dropLast.length=S.bs.dropLast.length+1
  simp_all
 have n:=(NT.mp B).1;rw[PD]at n;rw[Um,Oi n]at B;obtain⟨a',W,E,i,e3,e4⟩:=Y.at_ j v B;exists a',W,E,i,e3;have:(bT S).bs.take j=S.bs.take j:=by
  show S.bs.dropLast.take j=_
  rw[UD]
  grind
 simp_all
end
theorem Cr(F:Fun K "turn_back" "Searcher.turn_back" Cp f fd)(T:o8 K mg C)(bt:rX P w K mg L aP 2 C "fill_in" g1 e1 ["self","value","first"] (my C))(b0:rX P w K mg L aP 5 C "learn_join" g2 e2 ["self","hand","first","second","variable"] (rf C)):ao P w K mg L aP 6 f fd ["self","hand","literals"] (rh C):=by
 refine F.okB (N:=["self","hand","literals","variable","value","first"]) λQC A aF s H vs Q E sc hr h=>?_;obtain⟨B,t,cs,S0,d,u0,c0,rfl,h0,aL,T0,hc,ht,a0,a1,q⟩:=h;obtain⟨R,O⟩:∃R,R=fo t d S0.bs.length c0 S0:=⟨_,rfl⟩;rw[<-O]at q;refine⟨_,(ae (hU Pt (fU gg λ_=>rfl)
   (ae (sT 3<|aR e_ rfl T.len RB gg)
   (ae gg
   (ae gg
   (ae gg
   (ap (aO gg (ae (aO gg (ae gg
     (ap El)) ay)
    gg) ay)))))))
  gg),?_⟩
 exists Cq C B t cs d R H,⟨S0.bs.length,c0,S0,u0,N4,N4,N4,rfl,h0,.of<|Same.refl _,aL,T0,rfl,a1,O.symm⟩;clear O;rintro m σ i ⟨c,S,u,v3,v4,v5,rfl,h,hm,a2,TI,l,hn,D⟩;have N:=h.nes;have b1:=TI.I.blen;exists _,rfl,B.x,C,B.dx,_,_,rfl,h.hx,T.cl,T.nB,rfl,!(S.bs.map V.bl).isEmpty,.inl ⟨_,SqL.of h.b,rfl⟩;cases m with
 |zero=>
  have a3:S.bs=[]:=UY l;rw[a3];refine ak ?_;exists _,rfl,_,rfl,B.x,C,B.dx,_,rfl,h.hx,T.cl,T.nW,(by show 7<1000;simp);have ox:B.own B.x:=.inl rfl;have mm:Mv B H (upd i B.x<|.ins C B.dx<|fz "winner" (.str<|ax d)<|ue B<|rc S.win):=hm.upd ox _;have m1:Mv B i (upd i B.x<|.ins C B.dx<|fz "winner" (.str<|ax d)<|ue B<|rc S.win):=(Mv.of<|Same.refl i).upd ox _;have kk:=h.tups m1;have p:∀a o,i a=gV o->a≠B.x->upd i B.x (.ins C B.dx<|fz "winner" (.str<|ax d)<|ue B<|rc S.win) a=gV o:=λa o e n=>by rw[af n];exact e
  refine q _ ?_ mm;rw[<-D];show SrAt C B t cs {S with win:=gV d} _
  obtain⟨b,hf,v⟩:=h.f;obtain⟨g,Zd,G⟩:=h.r;refine h.make (S':={S with win:=gV d}) m1 ?_ ?_ ?_ ?_ ?_ ?_ h.good h.len
  ·rw[aa];rfl
  ·intro y;obtain⟨vs,e1,e2⟩:=h.l y;exact⟨vs,p _ _ e1 (bj e1 h.hx<|by simp),kk.goods (h.good y) e2⟩
  ·intro y;obtain⟨D',e1,e2⟩:=h.d y;exact⟨D',p _ _ e1 (bj e1 h.hx<|by simp),e2⟩
  ·exact p _ _ h.b (bj h.b h.hx<|by simp)
  ·exact⟨b,p _ _ hf (bj hf h.hx<|by simp),kk.opts v⟩
  ·exact⟨g,p _ _ Zd (bj Zd h.hx<|by simp),G.mono m1 kk⟩
 |succ k=>
  have Wi:(!(S.bs.map V.bl).isEmpty)=true:=by
   cases e:S.bs with
   |nil=>simp_all
   |cons x r=>rfl
  rw[Wi];refine aq ⟨λac H'=>∃m',m'<k+1/\Cq C B t cs d R H m' ac H',λac H' z=>z,?_⟩;have a4:=λb g=>h.pop (F:=b) (s:=g) l;obtain⟨b,hf,v⟩:=h.f;obtain⟨g,Zd,G⟩:=h.r;obtain⟨j,U⟩:=a4 b g hf v Zd G;have b2:=paired_len v;have a5:=TI.I.flen;have b3:=G.len;exists _,rfl,B.x,C,B.dx,_,_,rfl,h.hx,T.cl,T.nB,rfl,.ref B.b,_,rfl,.inl ⟨_,SqL.of h.b,rfl⟩;have a6:(S.bs.map V.bl)[(S.bs.map V.bl).length-1]?=gV (.bl<|S.bs.getD k NZ):=by
   rw[J',l,VA,Og,getD_some (d:=NZ)<|by lia];rfl
  exists _,rfl,B.x,C,B.dx,_,_,rfl,h.hx,T.cl,T.nB,rfl,.inl ⟨rfl,_,SqL.of h.b⟩,B.b,_,_,rfl,rfl,h.b,a6;have a7:B.x≠B.b:=bj h.hx h.b (by simp);have a8:B.x≠B.f:=bj h.hx hf (by simp);have am:upd i B.b (.lst (S.bs.map V.bl).dropLast) B.x=gV (.ins C B.dx<|ue B<|rc S.win):=by rw[af a7];exact h.hx
  have an:upd i B.b (.lst (S.bs.map V.bl).dropLast) B.f=gV (.lst b):=by rw[af<|Pw N.bf];exact hf
  have a9:upd i B.b (.lst (S.bs.map V.bl).dropLast) B.r=gV (.lst g):=by rw[af<|Pw N.br];exact Zd
  have as:=getD_some (d:=V.non) (show k<b.length by lia);have av:b[b.length-1]?=gV (b.getD k .non):=by rw[show b.length-1=k by lia];exact as
  obtain⟨ok,ba,W⟩:=qf v as;have I:S.fs.getD k N4=ok:=by rw[A',ba];rfl
  generalize b.getD k .non=fv at av W;exists _,rfl,B.x,C,B.dx,_,_,rfl,am,T.cl,T.nF,rfl,.inl ⟨rfl,_,SqL.of an⟩,B.f,_,_,rfl,rfl,an,av;have WA:upd (upd i B.b<|.lst (S.bs.map V.bl).dropLast) B.f (.lst b.dropLast) B.x=gV (.ins C B.dx<|ue B<|rc S.win):=by rw[af a8];exact am
  have az:upd (upd i B.b<|.lst (S.bs.map V.bl).dropLast) B.f (.lst b.dropLast) B.r=gV (.lst g):=by rw[af<|Pw N.fr];exact a9
  exists _,rfl,B.x,C,B.dx,_,_,rfl,WA,T.cl,T.nR,rfl,.inl ⟨rfl,_,SqL.of az⟩,B.r,_,_,rfl,rfl,az,getD_some (d:=V.non) (by lia);have tk:=h.tups U;generalize upd (upd (upd i B.b<|.lst (S.bs.map V.bl).dropLast) B.f<|.lst b.dropLast) B.r (.lst g.dropLast)=H2 at j U tk ⊢;have X:=hm.trans U;obtain⟨M,rfl,Q7⟩:=tk.cl a2;have lb:(bT S).bs.length=k:=by show S.bs.dropLast.length=k;rw[PD,l];rfl
  have lf:(bT S).fs.length=k:=by show S.fs.dropLast.length=k;rw[PD,a5,l];rfl
  have hz:(((S.bs.map V.bl).length:Nat):Int)=(k:Int)+1:=by rw[J',l];rfl
  rw[hz];have aC:∀y,(if NZ=NU then !jg (.int y) (c.map V.int)else jg (.int y) (c.map V.int))=c.contains y:=λy=>by rw[Oh Oa,bq]
  have bb:=t_ TI.I l;have b4:b_ (bT S)=b_ S:=rfl;dsimp only;refine LV (p:=c.contains<|(k:Int)+1) (q:=c.contains (-((k:Int)+1))) (λR r=>⟨_,rfl,_,rfl,M,_,rfl,.inr<|SqT.of Q7,rfl,bC _,_,rfl,by rw[aC];exact r⟩) (λR r=>⟨_,rfl,_,rfl,_,rfl,M,_,rfl,.inr<|SqT.of Q7,rfl,bC _,_,rfl,by rw[aC];exact r⟩) ?_;unfold fo at D;by_cases Y:(c.contains ((k:Int)+1) || c.contains (-((k:Int)+1)))=NU
  ·rw[Oi Y]at D;have bc:(k:Int)+1∈c\/ -((k:Int)+1)∈c:=by
    simp_all
   rw[Y];refine aq ?_;cases ok with
   |none=>
    rw[I]at D;have Z:dN (!S.bs.getD k NZ) (gV c) (bT S)=R:=D;have bf:fv=.non:=W;subst bf;exists _,rfl,rfl,_,rfl;rw[Ob rfl];refine aq ?_;refine⟨_,rfl,B.x,B.dx,_,rfl,j.hx,rfl,_,rfl,_,rfl,_,rfl,B,t,cs,bT S,!S.bs.getD k NZ,.ref M,gV c,rfl,j,⟨M,rfl,Q7⟩,hc,ht,a0,(by lia),(by lia),λH3 h3 m3=>?_⟩;rw[Z]at h3;exact q H3 h3<|X.trans m3
   |some F=>
    have J:=qc hc TI l bc I;rw[I]at D;have Z:fo t d k (aG t d<|bH F c<|(k:Int)+1) (bx t d (b9 (S.ow d) F c<|(k:Int)+1) (bH F c<|(k:Int)+1)<|bT S)=R:=D;obtain⟨tf,rfl,bg⟩:=tk.cl ‹_›;exists _,rfl,rfl,_,rfl;rw[N3 λz=>by cases z];refine ak ?_;have bk:pend [gV F]=1:=rfl;rw[I,bk]at bb;have Sv:=eI (t:=t) (h:=d) (d:=b9 (S.ow d) F c<|(k:Int)+1) (c:=bH F c<|(k:Int)+1) (S:=bT S);have bl:=iy (t:=t) (h:=d) (d:=b9 (S.ow d) F c<|(k)+1) (c:=bH F c<|(k)+1) (S:=bT S);have bm:=eF (t:=t) (h:=d) (d:=b9 (S.ow d) F c<|(k)+1) (c:=bH F c<|(k)+1) (S:=bT S);refine⟨_,rfl,B.x,B.dx,_,rfl,j.hx,rfl,_,rfl,_,rfl,_,rfl,_,rfl,B,t,cs,bT S,d,.ref tf,.ref M,F,c,(k)+1,rfl,j,⟨tf,rfl,bg⟩,⟨M,rfl,Q7⟩,J.mF,TI.mem,J.okF,J.okC,J.both,ht,(by lia),λa H3 h3 m3 ha=>?_⟩;refine⟨k,by simp,_,_,.ref a,_,_,_,rfl,h3,X.trans m3,⟨a,rfl,ha⟩,J.next,(OY P3 bm).trans lb,?_,Z⟩;exact(by lia:b_ (bx t d (b9 (S.ow d) F c<|(k)+1) (bH F c<|(k)+1)<|bT S)+2*pend (bx t d (b9 (S.ow d) F c<|(k)+1) (bH F c<|(k)+1)<|bT S).fs<=8800)
  rw[Oh Y]at D;have br:¬((k:Int)+1∈c\/ -((k:Int)+1)∈c):=λz=>by simp_all
  have bs:(c.contains ((k)+1) || c.contains (-((k)+1)))=false:=by
   simp_all
  rw[bs];exact ak<|⟨k,by simp,c,bT S,.ref M,_,_,_,rfl,j,X,⟨M,rfl,Q7⟩,qd hc TI l br,lb,by lia,D⟩
noncomputable abbrev xw:Pk:=top 16
noncomputable abbrev Hj:Pk:=top 74
def jY:Sp:=λv H Q _=>∃(l:Int) (f:C') (b:ab N6),v=[.int l,.ref f]/\H f=gV (.lst<|b.map V.bl)/\b.length<=900/\1<=absI l/\Q (cA b (absI l) (decide (0<l))) H
inductive ri (vs:ab V)(H:Hp)(Q:VK)(E:XK):Prop
 |mk (l t:C')(c k:ab Int)(h0:vs=[.ref l,.ref t])(h:H l=gV (.lst (c.map V.int)))(a:jw H t k)(q:Q (.bl (c.any λz=>k.contains z)) H)
inductive vz (vs:ab V)(H:Hp)(Q:VK)(E:XK):Prop
 |mk (p q b:C')(t:Str)(xs:ab V)(C:ab (ab Int))(bs:ab N6)(h0:vs=[.ref p,.ref b])(d:H p=gV (.tup [.str t,.ref q]))(e:H q=gV (.lst xs))(f:CLs H C xs)(g:H b=gV (.lst<|bs.map V.bl))(hc:∀c∈C,ar t.length c)(ht:t.length<=18)(hb:bs.length<=18)(s:∀c∈C,∃l∈c,bW NU bs l=NU)
  (i:∀a h,Same H h->jw h a (fB t C bs)->Q (.ref a) h):vz vs H Q E
theorem zr(f:1<=absI l):Eu K (cA B (absI l) (decide (0<l))) H (bW NU B l):=by
 by_cases h:((B.length))<absI l
 ·rw[m_ h];exact fh (by omega)
 obtain⟨b,c,e⟩:=kI (B:=B) f (Int.le_of_not_gt h);rw[e];show bW NU B l=(b == decide _)
 unfold bW;have d:B[(absI l-1).toNat]?=gV b:=by
  have r:(absI l-1).toNat<B.length:=by omega
  obtain⟨n,g⟩:∃n:Nat,absI l-1=(n):=⟨(absI l-1).toNat,by lia⟩;have a:n<B.length:=by simp_all
  have i:iU (B.map V.bl) (n)=gV _:=aH (by rw[Og,K' a];rfl);simp_all
 simp_all
inductive Ct (H:Hp)(l t:C')(c k:ab Int)(i:Nat)(a:St)(h:Hp):Prop
 |mk (v:NW V)(h0:a=[gV (.ref l),gV (.ref t),v])(b:h=H)(d:((c.take i).any λz=>k.contains z)=NZ)
inductive Hk (p b ch:C')(t:Str)(c:ab (ab Int))(bs:ab N6)(H:Hp)(i:Nat)(a:St)(h:Hp):Prop
 |mk (v d e:NW V)(h0:a=[gV<|.ref p,gV<|.ref b,gV<|.ref ch,v,d,e])(f:h ch=gV (.lst<|((c.take i).foldl (bX t bs) []).map V.int))(g:Same H h)
theorem zt(F:Fun K "stands_by" "stands_by" xw f i)(T:Bl m):ao P w K m B aP 1 f i ["literal","filling"] jY:=by
 refine F.okB (N:=["literal","filling","variable"]) λp A o s H v Q E r t h=>?_;obtain⟨l,g,a,rfl,d,u,j,q⟩:=h;refine⟨_,(ae gg
  (ae (aO gg (ap d_) ay)
  gg)),?_⟩
 have k:decide (V.int (absI l)=V.int 0)=false:=by lia
 refine⟨_,rfl,l,rfl,_,rfl,.inl ⟨rfl,_,rfl,?_⟩⟩;show if decide (V.int (absI l)=V.int 0)=NU then _ else _
 rw[k];refine ak ⟨_,rfl,_,rfl,.ref g,_,rfl,.inl ⟨_,SqL.of d,rfl⟩,_,_,rfl,rfl,_,rfl,fA (λc=>?_) λc=>?_⟩
 ·have C:((a.length))<absI l:=by
   have z:=Oo c;rwa[J']at z
  rwa[m_ C]at q
 have C:absI l<=((a.length)):=by
  rw[OZ,J']at c;exact rk.mp c
 obtain⟨b,n,e⟩:=kI j C;rw[e]at q;refine⟨_,rfl,_,rfl,_,_,rfl,rfl,(dM d n ⟨_,rfl,_,_,rfl,rfl,.inl ⟨rfl,?_⟩⟩)⟩;rwa[qv]
theorem Cu(F:Fun K "hits" "hits" qS f p):ao P w K M b aP 1 f p ["literals","clause"] ri:=by
 have B:=mv;refine F.okA mv λC A o s H D Q E G h=>?_;obtain⟨l,t,c,k,rfl,d,r,q⟩:=h;refine⟨_,(ae (fS 2 (aT<|pv 0) gg)
  (cr fT)),⟨_,rfl,l,rfl,⟨_,SqL.of d⟩,dy (K:=K) (X:=c.map V.int) (Ct H l t c k) ⟨N4,rfl,rfl,rfl⟩ ?_ ?_ ?_⟩⟩
 ·rintro i j m Z ⟨Z,Z,rfl,Z⟩;exact SqL.of d
 ·rintro i x j m u ⟨v,rfl,rfl,a⟩;obtain⟨z,rfl,n⟩:=cU u;have e:(if NZ=NU then !jg (.int z) (k.map V.int)else jg (.int z) (k.map V.int))=k.contains z:=by
   rw[Oh Oa,bq]
  exists _,rfl,_,rfl,t,_,rfl,.inr<|SqT.of r,rfl,bC k,_,rfl;rw[e];cases g:k.contains z with
  |true=>
   have y:=OR.mpr ⟨z,N7 n,g⟩;rwa[y]at q
  |false=>
   refine ak ⟨_,rfl,rfl,?_⟩;rw[OM,n,Z6,a];show(k.contains z || NZ)=NZ
   rw[g];rfl
 rintro j m ⟨v,rfl,rfl,a⟩;rw[Od<|by rw[J'];exact N1 _]at a;rwa[a]at q
theorem FN(F:Fun K "hitting_set" "hitting_set" Hj f fd)(T:Bl mg)(a6:Fe P w K mg j 1 "hits" ri)(ZI:Fe P w K mg j 1 "stands_by" jY)(z9:Fe P w K mg j 1 "hand_of" eN):ao P w K mg j aP 2 f fd ["sentence","begun"] vz:=by
 refine F.okB (N:=["sentence","begun","chosen","clause","standing","wishers"]) λQC A an s H vs Q E sc hr h=>?_;obtain⟨p,qa,b,t,xs,d,B,rfl,hp,hq,TQ,hb,N,ht,a7,W,q⟩:=h;have C:=dU (t:=t) W;refine⟨_,(ae gg
  (ae (fS 3 (aT gg) (ap (aO gg (ae (GY 4 ["literal","begun"] [N4,gV 1] (bQ<|pv 3) (t:=λS S S S=>(eR<|y8 (K:=K) rfl gg λS=>rfl)))
    (ae (GY 5 ["literal","sentence"] [N4,gV 0]<|aT<|pv 4)
    (ap<|cB<|fC Pe PX PySem.F.type_list_append cK (pv 2)<|gY<|LF (cm eK (pv 5)<|pv 4) cZ))) ay)))
  (cr<|bv bO rfl T.tuple PyProof.Rows.boot_tuple<|gY<|jh rfl T.sorted rfl T.abs<|pv 2))),?_⟩
 refine⟨Ou _,λO X=>?_⟩;have k1:=ad X<|.lst [];have s1:=CB k1;refine⟨_,rfl,(a_ (k1 _ _ hp) rfl ⟨qa,rfl,⟨_,SqL.of<|k1 _ _ hq⟩,dy (K:=K) (a:=qa) (X:=xs) (Hk p b O t d B H) ⟨N4,N4,N4,rfl,s1,k1⟩ ?_ ?_ ?_⟩)⟩
 ·rintro i σ Y S ⟨S,S,S,S,S,k⟩;exact SqL.of<|k _ _ hq
 ·rintro i x σ Y m ⟨v3,v4,v5,rfl,I,G⟩;obtain⟨c,J,tc,rfl,Q7⟩:=(TQ.mono G).get m;have Xy:=N7 J;have v:=N c Xy;have a8:=bw v;have Wy:=(NT.mp J).1;have et:(d.take<|i+1).foldl (bX t B) []=bX t B ((d.take i).foldl (bX t B) []) c:=by
   rw[OM,J,QX];rfl
  have Ci:=lg (t:=t) W i (OQ Wy);have as:((d.take i).foldl (bX t B) []).length<=60:=by
   have M:∀a∈(d.take i).foldl (bX t B) [],∀o∈(d.take i).foldl (bX t B) [],absI a=absI o->a=o:=λa Z o u e=>by
    obtain⟨a1,c1,d1,f1⟩:=Ci.st a Z;obtain⟨a2,S⟩:=Ci.st o u;exact k_ ((N c1<|QQ d1).2 a f1).1 a1 a2 e
   have av:(((d.take i).foldl (bX t B) []).map absI).Nodup:=by
    refine Py.mpr<|Ci.nd.imp_of_mem λ{x y} m hy Wi e=>Wi<|M x m y hy e
   have az:∀x∈((d.take i).foldl (bX t B) []).map absI,x∈(O1 19).map (λn:Nat=>(n:Int)):=λx m=>by
    obtain⟨l,hl,rfl⟩:=OT.mp m;obtain⟨S,c1,d1,f1⟩:=Ci.st l hl;have hr:=(N c1<|QQ d1).2 l f1;exact OT.mpr ⟨(absI l).toNat,by grind,by lia⟩
   have:=pS av az;rw[J',J',Pm]at this;lia
  generalize (d.take i).foldl (bX t B) []=Ri at I et as;refine gN ?_;exists _,rfl,_,rfl,O,tc,Ri,c,rfl,I,Q7,_,rfl;cases g:Ri.any λz=>c.contains z with
  |true=>
   refine ak ⟨_,_,_,rfl,?_,G⟩;rw[et];unfold bX;rw[g,Oi rfl];exact I
  |false=>
   refine aq ?_;refine⟨_,rfl,tc,rfl,⟨_,SqT.of Q7⟩,λD1 n1=>?_⟩;refine cz [gV<|.ref b] (A2 λl=>bW NU B l) (λx=>x) rfl Q7 n1 (by rw[J'];lia) ?_ ?_ ?_
   ·intro x m H' R k r;obtain⟨z,hz,rfl⟩:=cX m;exact⟨_,rfl,_,rfl,z,b,B,rfl,k _ _<|G _ _ hb,(by lia),(v.2 z hz).1,bW NU B z,zr (v.2 z hz).1,r⟩
   ·intro x m S H' R k r;exact⟨_,rfl,r⟩
   rw[dh _ (λl=>bW NU B l) _ λi=>rfl];have j1:=ad n1<|.lst<|(bU B c).map V.int;have r1:=CB j1;refine(show∀U,Same Y U->U D1=gV (.lst<|(bU B c).map V.int)->oY _ _ _ _ U from λU j1 r1=>?_) _ j1 r1;have aC:(bU B c).length<=18:=O6 (Ph _ _) (O6 a8 ht);refine⟨_,rfl,D1,rfl,⟨_,SqL.of r1⟩,λD2 n2=>?_⟩;refine cE [gV<|.ref p] (A2 λl=>bJ t (absI l-1).toNat) (λx=>x) rfl r1 n2 (by rw[J'];lia) ?_ ?_ ?_
   ·intro x m H' R k r;obtain⟨z,hz,rfl⟩:=cX m;have a9:=v.2 z (Oq.mp hz).1;have r':R (bJ t (absI z-1).toNat) H':=r;refine⟨_,rfl,_,rfl,z,rfl,p,t,_,(absI z-1).toNat,(by rw[show(((absI z-1).toNat:Nat):Int)+1=absI z by lia];rfl),k _ _<|j1 _ _<|G _ _ hp,(by omega),(by lia),.inl ⟨rfl,_,rfl,?_⟩⟩;cases gw:bJ t (absI z-1).toNat with
    |true=>
     rw[gw]at r';assumption
    |false=>
     rw[gw]at r';assumption
   ·intro x m S H' R k r;exact⟨_,rfl,r⟩
   rw[dh _ (λl=>bJ t (absI l-1).toNat) _ λi=>rfl];have j2:=ad n2<|.lst<|((bU B c).filter λl=>bJ t (absI l-1).toNat).map V.int;have r2:=CB j2;dsimp only;generalize upd U D2 (.lst<|((bU B c).filter λl=>bJ t (absI l-1).toNat).map V.int)=H4 at j2 r2 ⊢;have ac:=(j1.trans j2) _ _ I;have aF:=j2 _ _ r1;have am:oe t B c=(((bU B c).filter λl=>bJ t (absI l-1).toNat)++bU B c).headD 0:=rfl;have Wi:((bU B c).filter λl=>bJ t (absI l-1).toNat)++bU B c≠[]:=by
    obtain⟨l,hl,hh⟩:=W c Xy;exact List.append_ne_nil_of_right_ne_nil _<|Ys<|Oq.mpr ⟨hl,hh⟩
   have ba:((bU B c).filter λl=>bJ t (absI l-1).toNat).length<=18:=O6 (Ph _ _) aC;refine⟨_,rfl,.inl ⟨rfl,_,SqL.of ac⟩,_,rfl,_,rfl,D2,D1,_,_,rfl,rfl,r2,aF,OQ (ai<|by rw[J',J'];lia),λL n=>?_⟩;rw[<-Oy];generalize ((bU B c).filter λl=>bJ t (absI l-1).toNat)++bU B c=ps at am Wi;have j3:=ad n<|.lst<|ps.map V.int;have r3:=CB j3;have aL:iU (ps.map V.int) (0:Int)=gV (.int<|oe t B c):=by
    cases ps with
    |nil=>simp_all
    |cons y r=>rw[am];exact aH rfl
   refine(dM r3 aL ⟨O,_,_,rfl,rfl,j3 _ _ ac,ai (by rw[J'];lia),?_⟩);refine⟨_,_,_,rfl,?_,(G.trans<|j1.trans<|j2.trans j3).upd_new X _⟩;rw[aa,et];unfold bX;rw[g,Oh Oa,Oy];rfl
 rintro σ Y ⟨v3,v4,v5,rfl,I,G⟩;rw[Od<|by rw[TQ.length];exact N1 _]at I;have a0:Y O=gV (.lst<|(gR t d B).map _):=I;have M:∀a∈gR t d B,∀o∈gR t d B,absI a=absI o->a=o:=λa Z o u e=>by
  obtain⟨a1,c1,d1,f1⟩:=C.st a Z;obtain⟨a2,S⟩:=C.st o u;exact k_ ((N c1 d1).2 a f1).1 a1 a2 e
 have a3:(gR t d B).length<64:=by
  have P1:=bw<|q_ N W;have:(fB t d B).length=(gR t d B).length:=(Tb _ _).length_eq;lia
 refine⟨_,rfl,O,_,rfl,SqL.of a0,a3,λL5 r a4 D ho=>⟨L5,_,rfl,.inl ⟨SqL.of aa,λL6 a5=>?_⟩⟩⟩;have er:r=fB t d B:=by
  refine jM (qF ho (D.nodup_iff.mpr C.nd) λa Z o u e=>M a (D.mem_iff.mp Z) o (D.mem_iff.mp u) e) (xr N W) λl=>?_;rw[fy];exact D.mem_iff
 subst er;exact q L6 _ (G.trans<|(ad a4 _).trans<|ad a5 _) aa
noncomputable abbrev Cv:Pk:=cC (top 75) 6
noncomputable abbrev LW:Pk:=cC (top 75) 7
noncomputable def gT:NW (ab Int)->Oe
 |none=>.none
 |some c=>ii c
theorem JQ(h:lW H o v):RD H (gT o) v:=by
 cases o with
 |none=>
  assumption
 |some c=>exact CL.rd h
theorem mz:∀{os:ab (NW<|ab Int)} {v:ab V},iz H os v->cO H (os.map gT) v
 |_,_,.nil=>au
 |_,_,.cons h t=>ag (JQ h)<|mz t
theorem jZ:∀os:ab (NW<|ab Int),P8 (os.map gT)=NU
 |[]=>rfl
 |o::os=>by
  have h:(gT o).canLay0=true:=by
   cases o with
   |none=>rfl
   |some c=>
    have:=gL [c];rw[OH]at this;unfold P8 at this;rw[Pf]at this;exact this.1
  show P8 (gT o::os.map gT)=NU
  unfold P8;rw[h,jZ os];rfl
theorem xx(o:NW (ab Int)):O7 (gT o) (.tuple [])=decide (o=gV []):=by
 cases o with
 |none=>
  rfl
 |some c=>
  show O7 (ii c) _=_
  rw[gM];simp
theorem Cw(o:NW (ab Int)):O7 (gT o) .none=decide (o=N4):=by
 cases o with
 |none=>
  rfl
 |some c=>
  rfl
theorem vA:(((bR t C b).map gT).any λd=>O7 d<|.tuple [])=C.any (cI t b):=by
 unfold bR;rw[O_,S8]
 congr 1
 funext c
 exact xx _
theorem vB:decide (((bR t C b).map gT).countP (λd=>O7 d .none)=C.length)=C.all λc=>decide (cw b (aG t NZ c)=N4):=by
 unfold bR;rw[O_,Z5];have e:((λd=>O7 d .none)∘gT∘λc=>cw b<|aG t NZ c)=λc=>decide (cw b (aG t NZ c)=N4):=by
  funext c
  exact Cw _
 rw[e,PV,OZ,List.countP_eq_length,O0]
inductive rj (a:C')(vs:ab V)(H:Hp)(Q:VK)(E:XK):Prop
 |mk (A:SA)(t:Str)(C:ab (ab Int))(S:SS)(h0:vs=[.ref A.x])(h:SrAt a A t C S H)(L:jX t C S)(hc:∀c∈C,ar t.length c)(ht:t.length<=9)(hcs:C.length<=900)(q:∀b,SrAt a A t C (fL t C S) b->Mv A H b->Q .non b)
theorem zu{S:SS}(L:jX t c S)(h:t.length<=9):b_ S+2*pend S.fs<=4096:=by
 have H:=L.few;have a:=og _ _ L.I.blen;have b:2^(t.length+1)<=2^10:=RW (by decide) (SZ h);lia
theorem Cy{S:SS}(L:jX t C S)(l:aI t C h (S.ow h) d=gV c)(g:bd d)(H:ar t.length c)(a:zk h S.bs (aG t h c)):nZ t C h (aG t h c) (bx t h d c S):=
 ⟨kU L.I l g,kW,by rwa[eF],jo H,gs.trans L.win,kZ L.emp⟩
theorem Cz(F:Fun K "look" "Searcher.look" Cv f fd)(T:o8 K mg n)(a7:Fe P w K mg b 2 "hitting_set" vz)(ac:rX P w K mg b aP 4 n "learn" W e2 ["self","hand","line","literals"] (iA n))(ZH:rX P w K mg b aP 6 n "turn_back" g3 e3 ["self","hand","literals"] (rh n))(a8:rX P w K mg b aP 2 n "fill_in" g4 e4 ["self","value","first"] (my n)):ao P w K mg b aP 7 f fd ["self"] (rj n):=by
 refine F.okB (N:=["self","rests","place","literals"]) λQC A aF s H vs Q E sc hr h=>?_;obtain⟨B,t,C,S,rfl,h,L,D,ht,G,q⟩:=h;have hu:=hr.units;have a9:=zu L ht;obtain⟨r,Zd,am⟩:=h.r;have ba:=am.len;have bb:=L.I.blen;have bc:=L.I.flen;have X':r[r.length-1]?=gV (r.getD (r.length-1) .non):=getD_some (by simp_all);obtain⟨a,ws,ev,g,bf,o⟩:=am.at_ _ _ X';rw[ev]at X';rw[show r.length-1=S.bs.length by lia,Od<|N1 _]at o;have aL:=paired_len o;have an:(bR t C S.bs).length=C.length:=J' _;obtain⟨xs,as,I⟩:=h.hq;refine⟨_,(ae gg
  (ap (aO (eO ((A3 hu)) gg (pv 1)<|by rfl) (ae (sT 2<|fC Pe Uv Wm (pR hu) (pv 1) gg)
   (ap<|cB<|il ZH (pv 0) hr (by simp)<|g_ (bK rfl T.g_SPOILER)<|il ac (pv 0) hr (by simp)<|aD (bK rfl T.g_SPOILER) gg)) (ap (aO (By (ku hu) (fC Pe Xo PySem.F.type_list_count (y9 hu) (pv 1)<|gY fN)<|aR e_ rfl T.len RB<|gY<|pv 1) (ae gg
    (ap<|cB<|il ZH (pv 0) hr (by simp)<|g_ (bK rfl T.g_WISHER)<|il ac (pv 0) hr (by simp)<|aD (bK rfl T.g_WISHER) gg)) gg))))),?_⟩
 refine⟨_,rfl,B.x,n,B.dx,_,_,rfl,h.hx,T.cl,T.nR,rfl,_,rfl,(dM Zd (uh X') ?_)⟩;refine⟨Ou _,λet a0=>?_⟩;have e:=ad a0<|.tup [];have s1:=CB e;have v:=h.same e;generalize upd H et (.tup [])=H1 at e s1 v ⊢;refine⟨_,rfl,.tuple [],(bR t C S.bs).map gT,aQ s1 au,cW (e _ _ g)<|mz<|(TupS.of e).opts o,by rfl,jZ _,by decide+kernel,_,rfl,?_⟩;rw[vA];unfold fL at q;by_cases g1:C.any (cI t S.bs)=NU
 ·rw[Oi g1]at q;rw[g1];have X:C.findIdx (cI t S.bs)<C.length:=Uo<|OR.mp g1;have hx:=getD_some (d:=([]:ab Int)) X;have av:∀j,j<C.length->O7 (((bR t C S.bs).map gT).getD j .none) (.tuple [])=cI t S.bs (C.getD j []):=λj hj=>by
   have:((bR t C S.bs).map gT).getD j .none=gT (cw S.bs<|aG t NZ<|C.getD j []):=by
    rw[A'];unfold bR;rw[O_,Og,getD_some (d:=([]:ab Int)) hj];rfl
   rw[this];exact xx _
  have J:cI t S.bs (C.getD (C.findIdx<|cI t S.bs) [])=true:=by
   have:=List.findIdx_getElem (w:=X) (p:=cI t S.bs) (xs:=C);rw[A',K' X];exact this
  refine aq ⟨_,rfl,.inl ⟨rfl,_,SqL.of<|e _ _ g⟩,Ou _,λe2 n2=>?_⟩;have Y:=ad n2<|.tup [];have s2:=CB Y;have u:=v.same Y;have Z:=e.trans Y;generalize upd H1 e2 (.tup [])=y at Y s2 u Z ⊢;refine⟨.tuple [],(bR t C S.bs).map gT,_,a,ws,C.findIdx<|cI t S.bs,rfl,rfl,Z _ _ g,mz<|(TupS.of Z).opts o,aQ s2 au,by rfl,jZ _,by decide+kernel,by rw[J',an];exact X,(av _ X).trans J,λm hm=>?_,?_⟩
  ·rw[av m<|by exact Nat.lt_trans hm X];have:=WT hm;grind
  generalize C.findIdx (cI t S.bs)=i at q X hx J;have k:=D _<|N7 hx;obtain⟨tc,a1,Q7⟩:∃tc,xs[i]?=gV (.ref tc)/\jw y tc (C.getD i []):=by
   have a2:=(I.mono Z);have az:i<xs.length:=by have:=I.length;lia
   obtain⟨c',e1,e2,e3,e4⟩:=a2.get<|K' az;rw[hx]at e1;cases e1;exact⟨e2,by rw[K' az,e3],e4⟩
  refine⟨_,rfl,B.x,B.dx,_,rfl,u.hx,rfl,_,rfl,B.x,B.dx,_,rfl,u.hx,rfl,_,rfl,(by show 2<=sizeLine;decide),λga N=>?_⟩;have M:=ad N<|.tup [.str aM,.int (i:Int)];have s3:=CB M;have h3:=u.same M;have x:=Z.trans M;have Xs:aI t C NZ (S.ow NZ) (gS i)=gV (C.getD i []):=by
   unfold gS;rw[gQ,Oh Oa];unfold ji;rw[gj (by lia),OP];rfl
  have p:bd (gS i):=.inl ⟨_,rfl⟩;have Sv:=eI (t:=t) (h:=NZ) (d:=gS i) (c:=C.getD i []) (S:=S);have O:=iy (t:=t) (h:=NZ) (d:=gS i) (c:=C.getD i []) (S:=S);have U:=eF (t:=t) (h:=NZ) (d:=gS i) (c:=C.getD i []) (S:=S);refine⟨_,rfl,B.x,n,B.dx,_,_,rfl,h3.hx,T.cl,T.nS,rfl,(a_ h3.hp rfl ⟨_,rfl,(dM (x _ _ as) (aH a1) ?_)⟩)⟩;refine⟨B,t,C,S,NZ,_,.ref tc,gS i,C.getD i [],rfl,h3,aQ s3<|ag (cP _)<|ag (aX _) au,p,⟨tc,rfl,M _ _ Q7⟩,k,(by lia),(by lia),λla H4 h4 m4 Zy=>?_⟩;refine⟨B,t,C,_,NZ,.ref la,_,rfl,h4,⟨la,rfl,Zy⟩,Cy L Xs p k<|ua k J,D,(by lia),G,(by rw[O];lia),λH5 h5 m5=>?_⟩;rw[U]at h5;exact q H5 h5<|(Mv.of x).trans<|m4.trans m5
 have Yc:C.any (cI t S.bs)=false:=by
  lia
 rw[Oh g1]at q;rw[Yc];refine ak ?_;refine⟨_,rfl,.inl ⟨rfl,_,SqL.of<|e _ _ g⟩,.none,(bR t C S.bs).map gT,_,a,ws,rfl,rfl,e _ _ g,mz<|(TupS.of e).opts o,wE,by rfl,jZ _,by decide+kernel,?_⟩;refine⟨_,rfl,.ref a,_,rfl,.inl ⟨_,SqL.of<|e _ _ g,rfl⟩,.inl ⟨rfl,_,rfl,?_⟩⟩;have a3:decide (V.int ((((bR t C S.bs).map gT).countP λd=>O7 d .none:Nat):Int)=V.int (ws.length:Nat))=C.all λc=>decide (cw S.bs (aG t NZ c)=N4):=by
  rw[<-vB,<-aL,an];lia
 rw[a3];by_cases W:(C.all λc=>decide (cw S.bs (aG t NZ c)=N4))=NU
 ·rw[Oi W]at q;rw[W];have hs:∀c∈C,∃l∈c,bW NU S.bs l=true:=λc Xy=>lR<|Oo<|O0.mp W c Xy;have k:=q_ D hs;refine aq ?_;refine⟨_,rfl,B.x,n,B.dx,_,_,rfl,v.hx,T.cl,T.nS,rfl,_,rfl,B.x,n,B.dx,_,_,rfl,v.hx,T.cl,T.nB,rfl,B.p,B.q,B.b,t,xs,C,S.bs,rfl,v.hp,e _ _ as,I.mono e,v.b,D,(by lia),(by lia),hs,λz y Y a4=>?_⟩;have u:=v.same Y;have Z:=e.trans Y;refine⟨_,rfl,B.x,B.dx,_,rfl,u.hx,rfl,_,rfl,B.x,B.dx,_,rfl,u.hx,rfl,_,rfl,(by show 2<=sizeLine;decide),λga N=>?_⟩;have M:=ad N<|.tup [.str bD,.ref z];have s3:=CB M;have h3:=u.same M;have x:=Z.trans M;have aC:jw _ z (fB t C S.bs):=M _ _ a4;have Xs:=ub D hs<|S.ow NU;have p:bd (lQ<|fB t C S.bs):=.inr<|.inl ⟨_,by have:=bw k;lia,rfl⟩;have Sv:=eI (t:=t) (h:=NU) (d:=lQ<|fB t C S.bs) (c:=fB t C S.bs) (S:=S);have O:=iy (t:=t) (h:=NU) (d:=lQ<|fB t C S.bs) (c:=fB t C S.bs) (S:=S);have U:=eF (t:=t) (h:=NU) (d:=lQ<|fB t C S.bs) (c:=fB t C S.bs) (S:=S);refine⟨_,rfl,?_⟩;refine⟨B,t,C,S,NU,_,.ref z,lQ<|fB t C _,fB t C _,rfl,h3,aQ s3<|ag (cP _)<|ag (CL.rd ⟨z,rfl,aC⟩) au,p,⟨z,rfl,aC⟩,k,(by lia),(by lia),λla H4 h4 m4 Zy=>?_⟩;refine⟨B,t,C,_,NU,.ref la,_,rfl,h4,⟨la,rfl,Zy⟩,Cy L Xs p k λl a5=>((dU hs).st l<|fy.mp (Oq.mp a5).1).1,D,(by lia),G,(by rw[O];lia),λH5 h5 m5=>?_⟩;rw[U]at h5;exact q H5 h5<|(Mv.of x).trans<|m4.trans m5
 have a6:(C.all λc=>decide (cw S.bs (aG t NZ c)=N4))=false:=by
  lia
 rw[Oh W]at q;rw[a6];exact ak<|⟨_,rfl,B.x,B.dx,_,rfl,v.hx,rfl,B,t,C,S,NZ,.non,N4,rfl,v,rfl,D,(by lia),G,(by lia),(by lia),λy u m2=>q y u<|(Mv.of e).trans m2⟩
inductive CA (a:C')(vs:ab V)(H:Hp)(Q:VK)(E:XK):Prop
 |mk (A:SA)(t:Str)(C:ab (ab Int))(S:SS)(n:Nat)(h0:vs=[.ref A.x,.int (n:Int)])(h:SrAt a A t C S H)(L:jX t C S\/Ef t C S)(hc:∀c∈C,ar t.length c)(ht:t.length<=9)(hcs:C.length<=900)(q:∀b,SrAt a A t C (rZ t C n S) b->Mv A H b->Q (.bl (rZ t C n S).win.isSome) b)
inductive Nm (C:C')(A:SA)(t:Str)(c:ab (ab Int))(n:Nat)(R:SS)(H:Hp)(m:Nat)(b:St)(a:Hp):Prop
 |mk (S:SS)(j:Nat)(h0:b=[gV<|.ref A.x,gV<|.int (n:Int),gV<|.int (j:Int)])(d:j+m=n)(h:SrAt C A t c S a)(hm:Mv A H a)(L:jX t c S\/Ef t c S)(e:rZ t c m S=R)
theorem FO{S:SS}(h:S.win.isSome=NU):∀k,rZ t c k S=S
 |0=>rfl
 |k+1=>by unfold rZ;rw[Oi h]
theorem JR(F:Fun K "go" "Searcher.go" LW f O)(T:o8 K M C)(U:rX P w K M d aP 7 C "look" g1 e1 ["self"] (rj C)):ao P w K M d aP 8 f O ["self","many"] (CA C):=by
 refine F.okB (N:=["self","many","looks"]) λQC A o s H vs Q E X hr h=>?_;obtain⟨B,t,c,r,n,rfl,Y,Z,u,ht,k,q⟩:=h;obtain⟨R,a⟩:∃R,R=rZ t c n r:=⟨_,rfl⟩;rw[<-a]at q;refine⟨_,(ae gg
  (ae (hU Pt gg
   (ae gg
   (ap<|Ik (i:=2) X.nd rfl (Zt rfl) cZ Il)))
  gg)),?_⟩
 exists Nm C B t c n R H,⟨n,r,0,rfl,by simp,Y,.of<|Same.refl _,Z,a.symm⟩;rintro m σ v ⟨S,j,rfl,hj,h,D,L,l⟩;have G:S=R->Ek (Eo (λx y H Q=>y=V.non/\Q (V.bl !decide (x=V.non)) H) (IE K (mG 0) _)<|tC _) {nx:=λ_ i=>Q .non i,rt:=Q} [gV<|.ref B.x,gV<|.int (n),gV<|.int (j)] v:=λe=>by
  exists _,rfl,B.x,C,B.dx,_,_,rfl,h.hx,T.cl,T.nW,rfl,rfl;rw[e]at h ⊢;have:=q v h D;cases b:R.win with
  |none=>rwa[b]at this
  |some I=>rwa[b]at this
 exists _,rfl,_,rfl,_,_,rfl,rfl,_,rfl;cases m with
 |zero=>
  rw[N3<|by simp_all];exact ak<|ak<|G l
 |succ m=>
  rw[Ob<|by lia];refine aq ⟨_,rfl,B.x,C,B.dx,_,_,rfl,h.hx,T.cl,T.nW,rfl,rfl,_,rfl,?_⟩;cases b:S.win with
  |some I=>
   exact ak (G<|by rw[<-l,FO<|by rw[b];rfl])
  |none=>
   have J:jX t c S:=by
    obtain L|W:=L
    ·exact L
    obtain⟨I,e,_⟩:=W.hw;lia
   refine aq ⟨λg i=>∃N,N<m+1/\Nm C B t c n R H N g i,λg i z=>z,⟨_,rfl,B.x,B.dx,_,rfl,h.hx,rfl,B,t,c,S,rfl,h,J,u,ht,k,λH2 h2 m2=>?_⟩⟩;have p:rZ t c m (fL t c S)=R:=by
    rw[<-l];show _=if S.win.isSome=NU then S else rZ t c m _
    simp_all
   have Ln:=(uc u (by lia) J).imp (λz=>z.1) id;refine⟨_,rfl,_,_,rfl,rfl,m,by simp,fL t c S,j+1,?_,by lia,h2,D.trans m2,Ln,p⟩;simp
noncomputable abbrev CC:Pk:=cC (top 75) 0
def BtX(x:C')(H h:Hp):Prop:=∀b o,b≠x->H b=gV o->h b=gV o
theorem BtX.of(k:Same H h):BtX x H h:=λb o z e=>k b o e
theorem BtX.put(k:BtX x H a):BtX x H (upd a x o):=λb u h e=>by rw[af h];exact k b u h e
theorem BtX.trans(k:BtX x H c)(j:BtX x c h):BtX x H h:=λb u a e=>j b u a<|k b u a e
theorem BtX.free(k:BtX x H b)(h:b a=N4)(n:a≠x):H a=none:=by
 cases e:H a with
 |none=>rfl
 |some o=>rw[k a o n e]at h;cases h
inductive rl (b:C')(vs:ab V)(H:Hp)(Q:VK)(E:XK):Prop
 |mk (x dx p q:C')(t:Str)(xs:ab V)(C:ab (ab Int))(h0:vs=[.ref x,.ref p])(hx:H x=gV (.ins b dx []))(hp:H p=gV (.tup [.str t,.ref q]))(hq:H q=gV (.lst xs))(U:CLs H C xs)(hc:∀c∈C,ar t.length c)(ht:t.length<=9)(hcs:C.length<=900)(F:C'->Prop)(d:∀a,F a->a≠x/\∃o,H a=gV o)
  (e:∀A h,A.x=x->A.far=F->SrAt b A t C oh h->BtX x H h->(∀a,A.own a->a=x\/H a=N4)->Q .non h):rl b vs H Q E
theorem CD:fO [] [((Sx (NV "spoiler"):aK),V.ref a),(Sx<|NV "wisher",V.ref A)]=jp λb=>if b=NU then A else a:=by
 rfl
theorem CF(k:∀h R,(∀p,h p=N4->R (.ref p) (upd h p o))->T i h R)(m:∀h R,(∀p,h p=N4->R (.ref p) (upd h p o))->t i h R)(q:∀d l h,Same H h->H d=N4->(∀b,H (l b)=N4)->l NZ≠l NU->h d=gV (.dK<|jp l)->(∀b,h (l b)=gV o)->Q (.ref d) h):
  sI [(tC<|.str<|NV "spoiler",T),(tC<|.str<|NV "wisher",t)] i H Q:=by
 refine λdl n=>k _ _ λa c=>m _ _ λA N=>?_;have D:a≠dl:=λz=>by rw[z,aa]at c;cases c
 have f:A≠a:=λz=>by rw[z,aa]at N;cases N
 have g:A≠dl:=λz=>by rw[z,af λz=>D z.symm,aa]at N;cases N
 have F:H a=none:=by rwa[af D]at c
 have j:H A=none:=by rwa[af f,af g]at N
 exists by rw[af λz=>g z.symm,af λz=>D z.symm];exact aa,[(Sx<|NV _,.ref a),(Sx<|NV _,.ref A)],rfl,(by show 2<=15;decide);rw[CD];refine q dl _ _ (λb u e=>?_) n (λb=>?_) (λz=>f z.symm) aa λb=>?_
 ·rwa[af<|ah e n,af<|ah e j,af<|ah e F,af<|ah e n]
 ·cases b
  ·exact F
  exact j
 cases b
 ·show upd _ dl _ a=_
  rw[af D,af λz=>f z.symm];exact aa
 show upd _ dl _ A=_
 rw[af g];exact aa
theorem ui{K:B'}{f:Str}{B:TS}{D:g7}(i:∀h R,(∀p,h p=N4->R (.ref p) (upd h p o))->T c h R)(j:∀h R,(∀p,h p=N4->R (.ref p) (upd h p o))->t c h R)(q:∀d l h,Same H h->H d=N4->(∀b,H (l b)=N4)->l NZ≠l NU->h d=gV (.dK<|jp l)->(∀b,h (l b)=gV o)->
  mG 0 c h λx e=>∃a C g F,x=.ref a/\e a=gV (.ins C g F)/\Cls K C/\NoAttr K C f/\F.length<1000/\B D c (upd e a<|.ins C g<|fz f (.ref d) F)):
  oY (IF K (mG 0) (sI [(tC<|.str<|NV "spoiler",T),(tC<|.str<|NV "wisher",t)]) f) B D c H:=by
 unfold oY IF;exact CF i j q
theorem om:∀{a:ab (ab Int)} {v:ab V},CLs H a v->iz H (a.map gV) v
 |_,_,.nil=>.nil
 |_,_,.cons h t=>.cons h<|om t
inductive Hl (x D:C')(t:Str)(C:ab (ab Int))(h:Hp)(i:Nat)(a:St)(ys:ab V)(H:Hp):Prop
 |mk (v:NW V)(h0:a=[v,gV (.ref x)])(b:H D=gV (.lst ys))(d:Same h H)(e:CLs H ((C.take i).map λc=>aG t NZ c) ys)
theorem vC(h:ar n c):cw [] c=gV c:=by
 unfold cw;rw[Oh (λz=>by obtain⟨l,y,e⟩:=OR.mp z;cases e)]
 congr 1
 refine Qg.mpr λl H=>?_;have:=(h.2 l H).1;rw[OZ];show(0)<absI l
 lia
theorem jq{R:Hp->Prop}(h:H x=gV (.ins c d F))(l:Cls K c)(n:NoAttr K c f)(b:XI F.length 999=NU)(q:∀G,BtX x H G->G x=gV (.ins c d<|fz f v F)->R G):∃a C d' F,V.ref x=.ref a/\H a=gV (.ins C d' F)/\Cls K C/\NoAttr K C f/\F.length<1000/\R (upd H a<|.ins C d'<|fz f v F):=
 ⟨x,c,d,F,rfl,h,l,n,Nat.lt_succ_of_le<|UA b,q _ (BtX.of<|Same.refl _).put aa⟩
theorem oo(n:H a=N4)(o:HO):∃G,upd H a o=G/\Same H G/\G a=gV o:=⟨_,rfl,ad n o,aa⟩
theorem BtX.tup(k:BtX x H h)(a:H x=gV (.ins C d f)):TupS H h:=λz z e=>k _ _ (by lia) e
theorem nw{H:Hp}(e:H b=gV o)(n:H a=N4):a≠b:=Pw<|ah e n
theorem CG(F:Fun K "__init__" "Searcher.__init__" CC f fd)(T:o8 K mg CS)(WG:Fe P w K mg a2 3 "dropped" dR):ao P w K mg a2 aP 4 f fd ["self","sentence"] (rl CS):=by
 refine F.okB (N:=["self","sentence"]) λQC A b0 s H vs Q E sc hr h=>?_;obtain⟨x,dx,p0,q0,t,xs,cs,rfl,U,hp,hq,TQ,hc,ht,c3,Fr,W,q⟩:=h;refine⟨_,(ae (jd (pv 0) (dQ<|g_ gg<|bv jB rfl T.list Tg gg) rfl)
  (ae (jd (pv 0) (tV (bK rfl T.g_SPOILER) gg (bK rfl T.g_WISHER) gg) rfl)
  (ae (jd (pv 0) (tV (bK rfl T.g_SPOILER) mQ (bK rfl T.g_WISHER) mQ) rfl)
  (ae gg
  (ae gg
  (ae (jd (pv 0) (mM<|gY<|jR ["clause","self"] [N4,gV 0] (aT gg) (e:=λV V V V=>(rY WG hr<|aD (Fl (K:=K) rfl (pv 1) rfl)<|g_ (bK rfl T.g_SPOILER)<|pv 0))) rfl)
  gg)))))),?_⟩
 refine⟨_,rfl,(a_ hp rfl ⟨_,rfl,(a_ hp rfl ⟨q0,xs,rfl,.inl<|SqL.of hq,λqa nq=>⟨(by show 2<=sizeLine;decide),λpa np=>?_⟩⟩)⟩)⟩;obtain⟨H0,e,j1,sq⟩:=oo nq<|.lst xs;rw[e]at np ⊢;obtain⟨H1,e,j2,sp⟩:=oo np<|.tup [.str t,.ref qa];rw[e];have N:=nw U nq;have X:=nw (j1 _ _ U) np;refine⟨_,rfl,jq (j2 _ _<|j1 _ _ U) T.cl T.nS rfl λG j x1=>?_⟩;have q1:=j _ _ N<|j2 _ _ sq;have p1:=j _ _ X sp;replace j:=(BtX.of<|j1.trans j2).trans j;refine ui (o:=.lst []) (λH' R r=>⟨Ou _,r⟩) (λH' R r=>⟨Ou _,r⟩) λdl ll G1 k1 b2 Y b3 b4 b5=>?_;refine⟨_,rfl,jq (k1 _ _ x1) T.cl T.nL rfl λG2 l x2=>?_⟩;have d:=λb=>nw x1<|Y b;have a3:=nw x1 b2;have b7:=l _ _ a3 b4;have a4:=λb=>l _ _ (d b)<|b5 b;replace l:=(BtX.of k1).trans l;refine ui (o:=.dT []) (λH' R r=>r) (λH' R r=>r) λdp pp G3 k3 cc ac cd ce cf=>?_;refine⟨_,rfl,jq (k3 _ _ x2) T.cl T.nP rfl λG4 m x4=>?_⟩;have C:=λb=>nw x2<|ac b;have a5:=nw x2 cc;have ch:=m _ _ a5 ce;have a6:=λb=>m _ _ (C b)<|cf b;replace m:=(BtX.of k3).trans m;refine⟨Ou _,λba nb=>?_⟩;obtain⟨G5,e,k5,sb⟩:=oo nb<|.lst [];rw[e];have p:=nw x4 nb;refine⟨_,rfl,jq (k5 _ _ x4) T.cl T.nB rfl λG6 I x6=>?_⟩;have b6:=I _ _ p sb;replace I:=(BtX.of k5).trans I;refine⟨Ou _,λfa nf=>?_⟩;obtain⟨G7,e,k7,sf⟩:=oo nf<|.lst [];rw[e];have am:=nw x6 nf;refine⟨_,rfl,jq (k7 _ _ x6) T.cl T.nF rfl λG8 J x8=>?_⟩;have f8:=J _ _ am sf;replace J:=(BtX.of k7).trans J;have ck:p0≠x:=λz=>by simp_all
 have cl:q0≠x:=λz=>by simp_all
 have co:=m.trans<|I.trans J;have a7:=l.trans co;have B:=j.trans a7;have a8:=B _ _ cl hq;have cp:=a7 _ _ X p1;have ct:=(B.tup U).cls TQ;have c5:=TQ.length;refine⟨_,rfl,(a_ (B _ _ ck hp) rfl ⟨q0,rfl,⟨_,SqL.of a8⟩,λD nD=>?_⟩)⟩;refine cy (K:=K) (a:=q0) (xs:=xs) (Hl x D t cs G8) ⟨N4,rfl,aa,ad nD _,.nil⟩ ?_ ?_ ?_
 ·rintro i σ ys H3 V ⟨V,V,i1,i2,V⟩;exact⟨i1,SqL.of<|i2 _ _ a8⟩
 ·rintro i y σ ys H3 hy ⟨v0,rfl,i1,i2,i3⟩;obtain⟨c,an,tc,rfl,Q7⟩:=(ct.mono i2).get hy;have a9:=hc c<|N7 an;have da:=bw a9;have Wy:=(NT.mp an).1;have cu:=i3.length;rw[J',OC]at cu;refine cq ⟨_,rfl,x,CS,dx,_,_,rfl,i2 _ _ x8,T.cl,T.nS,rfl,_,rfl,pa,tc,t,_,NZ,c,rfl,i2 _ _ cp,(by lia),Q7,(by lia),a9.2,λla H4 k4 Zy=>?_⟩;have as:=k4 _ _ i1;exists as,ai (by lia),_,rfl,aa,(i2.trans k4).upd_new nD _;rw[OM,an,Oy];exact CLs.snoc (CL.upd ⟨la,rfl,Zy⟩ as)<|(i3.mono k4).upd as
 rintro σ ys G9 ⟨V,V,bb,L,VL⟩;rw[Od<|by simp_all]at VL;refine⟨(by show 1<=sizeLine;decide),λra M=>?_⟩;obtain⟨db,e,O,sr⟩:=oo M<|.lst [.ref D];rw[e];have bc:=nw x8 nD;have bf:=nw (L _ _ x8) M;have bg:=O _ _<|L _ _ x8;refine⟨_,rfl,jq bg T.cl T.nR rfl λdc cv cz=>?_⟩;refine⟨_,rfl,jq cz T.cl T.nW rfl λZ c0 c1=>?_⟩;have CZ:=cv.trans c0;have bk:=(BtX.of<|L.trans O).trans CZ;have bl:=J.trans bk;have av:=I.trans bl;have az:=m.trans av;have aC:=l.trans az;have aF:=j.trans aC;have aL:=λb=>m _ _ (d b)<|a4 b;have a0:=λb=>I _ _ (d b)<|aL b;have a1:=λb=>J _ _ (d b)<|a0 b;have bm:=J _ _ p b6;have br:=l _ _ N q1;have bs:=m _ _ N br;have bt:=I _ _ N bs;have Wz:∀a,SA.own ⟨x,dx,pa,qa,dl,dp,ba,fa,ra,ll,pp,Fr⟩ a->a=x\/H a=none:=?_;refine q ⟨x,dx,pa,qa,dl,dp,ba,fa,ra,ll,pp,Fr⟩ Z rfl rfl ?_ aF Wz
 ·refine⟨c1,aC _ _ X p1,⟨xs,aC _ _ N q1,(aF.tup U).cls TQ⟩,az _ _ a3 b7,av _ _ a5 ch,λb=>⟨[],az _ _ (d b)<|a4 b,au⟩,λb=>⟨[],av _ _ (C b)<|a6 b,rfl,λc=>rfl⟩,bl _ _ p b6,⟨[],bk _ _ am f8,.nil⟩,⟨[.ref D],CZ _ _ bf sr,rfl,λk v hk=>?_⟩,?_,?_,cd,λV V z=>(nomatch z),λV=>rfl,λa z=>?_⟩
  ·cases k with
   |succ k=>simp at hk
   |zero=>
    cases hk;refine⟨D,ys,rfl,CZ _ _ bc<|O _ _ bb,?_,?_⟩
    ·rintro ((z|z|z|z|⟨b,z|z⟩)|z)
     ·exact bc z
     ·exact nw bm nD z
     ·exact nw f8 nD z
     ·exact ah bb M z
     ·exact nw (a1 b) nD z
     ·exact nw (J _ _ (C b)<|I _ _ (C b)<|a6 b) nD z
     obtain⟨n,o,e⟩:=W _ z;exact nw (B _ _ n e) nD rfl
    have e:bR t cs ([])=(cs.map λc=>aG t NZ c).map some:=by
     rw[O_];exact R8 λc Xy=>vC<|gi<|hc c Xy
    show iz Z (bR t cs ([])) ys
    rw[e];exact om<|(CZ.tup bg).cls<|VL.mono O
  ·rintro ((z|z|z|z|⟨b,z|z⟩)|z)
   ·exact N z
   ·exact ah bs nb z
   ·exact ah bt nf z
   ·exact ah (L _ _<|J _ _ N bt) M z
   ·exact ah q1 (Y b) z
   ·exact ah br (ac b) z
   obtain⟨V,o,e⟩:=W _ z;simp_all
  ·simp only[PU,Oz,PQ,R9,not_or,not_false_eq_true,Ul,and_true];exact⟨⟨ah b6 nf,ah (L _ _ bm) M,nw (aL _) nb,nw (aL _) nb⟩,⟨ah (L _ _ f8) M,nw (a0 _) nf,nw (a0 _) nf⟩,⟨nw (L _ _<|a1 _) M,nw (L _ _<|a1 _) M⟩,b3⟩
  obtain⟨n,o,e⟩:=W a z;exact⟨λu=>(Wz a u).elim n λg=>(by lia),o,aF _ _ n e⟩
 rintro a (z|z|z|z|⟨b,z|z⟩)
 ·exact .inl z
 ·refine .inr ?_;rw[z];exact(j.trans<|l.trans m).free nb p
 ·refine .inr ?_;rw[z];exact(j.trans<|l.trans<|m.trans I).free nf am
 ·refine .inr ?_;rw[z];exact(B.trans<|BtX.of L).free M bf
 ·refine .inr ?_;rw[z];exact j.free (Y b)<|d b
 refine .inr ?_;rw[z];exact(j.trans l).free (ac b)<|C b
noncomputable abbrev xy:Pk:=cC (top 75) 9
noncomputable abbrev uj:Pk:=top 76
noncomputable def j0(d:ab Oe)(o:ab (ab Int)):ab Int:=(bF (xm<|d.map<|bG<|bB o) (o.idxOf [])<|o.idxOf []+1).mergeSort λa b=>decide (a<=b)
noncomputable def vD(d:ab Oe)(o:ab (ab Int)):ab Oe:=fk (d.map<|bG<|bB o)<|j0 d o
theorem xz(d:ab Oe)(o:ab (ab Int)):T4 (j0 d o) (bF (xm<|d.map<|bG<|bB o) (o.idxOf [])<|o.idxOf []+1):=Tb _ _
theorem qg(d:ab Oe)(o:ab (ab Int)):Sv (·<=·) (j0 d o):=by
 have:=T3 (le:=λa b:Int=>decide (a<=b)) (by lia) (by lia)<|bF (xm<|d.map<|bG<|bB o) (o.idxOf [])<|o.idxOf []+1;exact this.imp λh=>Oo h
theorem FP(h:T4 n (bF (xm<|d.map<|bG<|bB o) (o.idxOf [])<|o.idxOf []+1))(H:Sv (·<=·) n):n=j0 d o:=JG h H (xz d o)<|qg d o
inductive ou (b:C')(vs:ab V)(H:Hp)(Q:VK)(E:XK):Prop
 |mk (A:SA)(t:Str)(C:ab (ab Int))(S:SS)(hw:N6)(h0:vs=[.ref A.x])(h:SrAt b A t C S H)(W:Ef t C S)(e:S.win=gV hw)(he:(S.ow hw).getLast?=gV [])(hc:∀c∈C,ar t.length c)(ht:t.length<=9)(hcs:C.length<=900)
  (q:∀r l ys a,Same H a->H r=N4->H l=N4->a r=gV (.tup [.str<|ax hw,.ref l])->a l=gV (.lst ys)->cO a (vD (S.lw hw)<|S.ow hw) ys->Q (.ref r) a):ou b vs H Q E
noncomputable def j5(t:Str)(c:ab (ab Int)):SS:=rZ t c 10000 oh
noncomputable def eT(t:Str)(c:ab (ab Int)):N6:=(j5 t c).win.getD NZ
noncomputable def uk(t:Str)(c:ab (ab Int)):ab Oe:=vD ((j5 t c).lw<|eT t c)<|(j5 t c).ow<|eT t c
noncomputable def vE(t:Str)(c:ab (ab Int)):ab (ab Int):=(j0 ((j5 t c).lw<|eT t c)<|(j5 t c).ow<|eT t c).map λp=>((j5 t c).ow<|eT t c).getD p.toNat []
theorem xA(H:∀c∈C,ar t.length c)(d:t.length<=9):Ef t C (j5 t C)/\(j5 t C).win=gV (eT t C)/\((j5 t C).ow<|eT t C).getLast?=gV []:=by
 have f:2^(t.length+1)<=2^10:=RW (by decide) (SZ d);have W:=JO H (O6 d (by decide)) (k:=10000) (qe) (O6 f (Z0 _ _));obtain⟨h,a,b⟩:=W.hw;have E:(j5 t C).win=gV h:=a;have e:eT t C=h:=by
  unfold eT;rw[E];rfl
 rw[e];exact⟨W,a,b⟩
theorem xB{S:SS}(W:Ef t c S)(H:t.length<=9)(h:N6):(S.lw h).length<=4096:=by
 have a:=W.few;have b:=uf S h;have d:2^(t.length+1)<=2^10:=RW (by decide) (SZ H);lia
theorem oy{o:ab (ab Int)}(h:o.getLast?=gV []):[]∈o:=List.mem_of_getLast? h
theorem qh(h:o.getLast?=gV []):o7 o=true:=by
 unfold o7;rw[h];rfl
structure LX (t:Str)(cs:ab (ab Int)):Prop where
 run:bE t cs (eT t cs) [] (uk t cs)=(vE t cs,NU)
 good:∀d∈uk t cs,bd d
 few:(uk t cs).length<=4096
 last:(vE t cs).getLast?=gV []
 nodup:(vE t cs).Nodup
theorem oA(H:∀c∈C,ar t.length c)(h:t.length<=9):LX t C:=by
 obtain⟨W,E,e⟩:=xA H h;have s:=FJ (W.I.run _) (W.I.good _) (oy e) (xz _ _)<|qg _ _;refine⟨s.run,s.good,?_,?_,s.nodup⟩
 ·have:=xB W h<|eT t C;have:=s.few;show(fk _ _).length<=_
  unfold fk;rw[J'];lia
 unfold vE;rw[List.getLast?_map,s.last];show gV (((j5 t C).ow<|eT t C).getD (((j5 t C).ow<|eT t C).idxOf []) [])=gV []
 obtain⟨z,a⟩:=jl<|oy e;rw[A',a];rfl
inductive lm (vs:ab V)(H:Hp)(Q:VK)(E:XK):Prop
 |mk (p q:C')(t:Str)(xs:ab V)(C:ab (ab Int))(h0:vs=[.ref p])(hp:H p=gV (.tup [.str t,.ref q]))(hq:H q=gV (.lst xs))(U:CLs H C xs)(hc:∀c∈C,ar t.length c)(ht:t.length<=9)(hcs:C.length<=900)
  (a:∀r l ys h,Same H h->H r=N4->H l=N4->h r=gV (.tup [.str<|ax<|eT t C,.ref l])->h l=gV (.lst ys)->cO h (uk t C) ys->Q (.ref r) h):lm vs H Q E
structure LY (mg:Str->NW M'):Prop where
 g_MOST_LOOKS:jI mg "MOST_LOOKS" (.int 10000)
theorem zw(F:Fun K "paper" "Searcher.paper" xy f v)(T:o8 K M C)(Y:Fe P w K M e 8 "shortened_paper" B6):ao P w K M e aP 9 f v ["self"] (ou C):=by
 refine F.okB (N:=["self"]) λQC A o s H vs Q E sc c h=>?_;obtain⟨B,t,D,S,b,rfl,h,W,y,G,I,J,d,q⟩:=h;have L:=mT c;have x:=h.hx;rw[y]at x;obtain⟨X,g,i⟩:=h.hq;obtain⟨N,j,m⟩:=h.l b;have O:=xB W J b;refine⟨_,(ae (aO gg (ap d_) ay)
  (cr<|rY Y c<|g_ gg<|dQ<|g_ gg<|bz L gg gg λV V=>rfl)),?_⟩
 exists _,rfl,B.x,C,B.dx,_,_,rfl,x,T.cl,T.nW,rfl,rfl,_,rfl;rw[N3 λz=>by cases z];refine ak<|⟨_,rfl,B.x,C,B.dx,_,_,rfl,x,T.cl,T.nS,rfl,_,rfl,B.x,C,B.dx,_,_,rfl,x,T.cl,T.nW,rfl,_,rfl,B.x,C,B.dx,_,_,rfl,x,T.cl,T.nL,rfl,_,rfl,B.x,C,B.dx,_,_,rfl,x,T.cl,T.nW,rfl,B.dl,_,rfl,fq h.hl b,(by show 2<=sizeLine;decide),λa U=>?_⟩;have k:=ad U<|.tup [.str<|ax b,.ref<|B.ll b];have Z:=CB k;exact⟨B.p,B.q,a,B.ll b,t,b,X,N,D,S.lw b,S.ow b,rfl,k _ _ h.hp,(by lia),k _ _ g,i.mono k,d,I,Z,k _ _ j,bZ k _ _ m,(by lia),h.good b,W.I.run b,qh G,λr l ys nd H2 k2 nr nl n V0 VL p u=>q r l ys H2 (k.trans k2) (k.free nr) (k.free nl) n V0<|by unfold vD;rwa[<-FP p u]⟩
theorem vF(F:Fun K "settled_paper" "settled_paper" uj f fd)(T:LY M)(ac:Jj P w K M c 4 "Searcher" g g1 e1 ["self","sentence"] (rl g))(j:rX P w K M c aP 8 g "go" g2 e2 ["self","many"] (CA g))(am:rX P w K M c aP 9 g "paper" g3 L ["self"] (ou g)):ao P w K M c aP 10 f fd ["sentence"] lm:=by
 refine F.okB (N:=["sentence","searcher"]) λQC A O s H vs Q E sc hr h=>?_;obtain⟨p,qa,t,xs,C,rfl,hp,hq,TQ,i,U,d,q⟩:=h;obtain⟨W,X,el⟩:=xA i U;refine⟨_,(ae gg
  (ae (hU Pt (gD<|du<|il j (pv 1) hr (by simp)<|gY<|bK rfl T.g_MOST_LOOKS)
   (ap Ej))
  gg)),?_⟩
 refine⟨_,rfl,λx D n N Wi=>?_⟩;have k:Same H (upd (upd H D<|.own x) x<|.ins g D []):=λb o e=>by
  rwa[af<|ah e n,af<|ah e N]
 refine⟨x,D,p,qa,t,xs,C,rfl,aa,k _ _ hp,k _ _ hq,TQ.mono k,i,U,d,(λV=>False),(λV z=>z.elim),λB Y ex V Z b2 v=>⟨rfl,?_⟩⟩;have k2:Same H Y:=λb o e=>b2 _ _ (ah e n)<|k _ _ e;have u:∀a,B.own a->H a=none:=λa ha=>by
  obtain z|z:=v a ha
  ·rwa[z]
  exact k.free z
 subst ex;exists λm σ G=>m=0/\σ=[gV<|.ref p,gV<|.ref B.x]/\G=Y,⟨0,rfl,rfl,rfl⟩;rintro m σ G ⟨rfl,rfl,rfl⟩;refine⟨_,rfl,B.x,B.dx,_,rfl,Z.hx,rfl,B,t,C,oh,10000,rfl,Z,.inl qe,i,U,d,λH3 h3 m3=>⟨_,rfl,?_⟩⟩;have L:(rZ t C 10000 oh).win.isSome=true:=by
  show(j5 t C).win.isSome=NU
  rw[X];rfl
 rw[L];have y:Same H H3:=λb o e=>m3 _ _ (by grind)<|k2 _ _ e;exact⟨_,rfl,B.x,B.dx,_,rfl,h3.hx,rfl,B,t,C,j5 t C,eT t C,rfl,h3,W,X,el,i,U,d,λr l ys H4 k4 nr nl I J VL=>q r l ys H4 (y.trans k4) (y.free nr) (y.free nl) I J VL⟩
noncomputable abbrev Hm:Pk:=top 25
noncomputable abbrev Hn:Pk:=top 63
inductive vG (vs:ab V)(H:Hp)(Q:VK)(E:XK):Prop
 |mk (q:C')(c:ab Int)(h0:vs=[.ref q])(a:jw H q c)(b:c.length<=9000)(d:∀(l:C') (h:Hp),Same H h->jw h l (c.map λz=>-z)->Q (.ref l) h)
inductive RuAt (H:Hp)(r:ab Int×N6)(v:V):Prop
 |mk (p q:C')(h:v=.ref p)(a:H p=gV (.tup [.ref q,.bl r.2]))(b:jw H q r.1)
theorem RuAt.mono(x:RuAt H r v)(k:Same H h):RuAt h r v:=by
 obtain⟨p,q,a,b,c⟩:=x;exact⟨p,q,a,k _ _ b,k _ _ c⟩
theorem RuAt.upd(x:RuAt H r v)(h:H a=gV (.lst y)):RuAt (upd H a o) r v:=by
 obtain⟨p,q,d,b,c⟩:=x;exact⟨p,q,d,by rw[af<|bj b h<|by simp];exact b,by show L2.upd H a o q=_;rw[af<|bj c h<|by simp];exact c⟩
abbrev RuLs(H:Hp):ab (ab Int×N6)->ab V->Prop:=Paired<|RuAt H
theorem RuLs.mono(x:RuLs H r v)(k:Same H h):RuLs h r v:=Paired.imp' (λy y z=>z.mono k) x
theorem RuLs.upd(x:RuLs H r v)(h:H a=gV (.lst y)):RuLs (upd H a o) r v:=Paired.imp' (λw w z=>z.upd h) x
theorem RuLs.snoc(z:RuAt H r v):∀{s:ab (ab Int×N6)} {a:ab V},RuLs H s a->RuLs H (s++[r]) (a++[v]):=by
 intro s a h;induction h with
 |nil=>exact .cons z .nil
 |cons r t i=>exact .cons r i
inductive vH (vs:ab V)(H:Hp)(Q:VK)(E:XK):Prop
 |mk (q:C')(hw:N6)(l:Int)(left:ab Int)(h0:vs=[.str<|ax hw,.int l,.ref q])(a:jw H q left)(b:left.length<=9000)(c:∀(v:V) (h:Hp),Same H h->RuAt h (lO hw l left) v->Q v h)
theorem FQ(F:Fun K "turned_about" "turned_about" Hm f i)(T:Bl m):ao P w K m b aP 1 f i ["literals"] vG:=by
 refine F.okB (N:=["literals"]) λC A o s H v Q E p t h=>?_;obtain⟨q,c,rfl,d,j,l⟩:=h;exists _,(cr<|bv bO rfl T.tuple P1<|gY<|jR ["literal"] [N4]<|bQ<|pv 0);refine⟨_,rfl,q,rfl,⟨_,SqT.of d⟩,λD e=>cz [] _ (GR λz=>.int (-z)) rfl d e (by simp_all) (λx g n R k r=>r) ?_ ?_⟩
 ·intro x g y n R k r;obtain⟨z,y,rfl⟩:=cX g;exact⟨_,rfl,z,rfl,r⟩
 refine⟨D,_,rfl,.inl ⟨SqL.of aa,λL a=>l L _ ((ad e _).trans<|ad a _) ?_⟩⟩;show upd _ L _ L=_
 rw[aa,Qg.mpr λy y=>rfl,O_,O_];rfl
theorem FR(F:Fun K "rule_of" "rule_of" Hn f e)(T:Bl m)(j:Fe P w K m b 1 "turned_about" vG):ao P w K m b aP 2 f e ["hand","literal","left"] vH:=by
 refine F.okB (N:=["hand","literal","left"]) λC A o s H v Q E r u h=>?_;obtain⟨q,g,l,left,rfl,c,i,d⟩:=h;exists _,gg;refine⟨_,rfl,.inl ⟨rfl,_,rfl,?_⟩⟩;cases g with
 |false=>
  refine aq ⟨_,rfl,q,left,rfl,c,i,λL x n t=>⟨_,rfl,_,_,rfl,rfl,(by show 2<=sizeLine;decide),λp a=>?_⟩⟩;have k:=ad a<|.tup [.ref L,.bl (decide (l<0))];exact d _ _ (n.trans k) ⟨p,L,rfl,aa,k _ _ t⟩
 |true=>
  refine ak ⟨_,rfl,_,rfl,_,_,rfl,rfl,(by show 2<=sizeLine;decide),λp a=>?_⟩;have k:=ad a<|.tup [.ref q,.bl (decide (0<l))];exact d _ _ k ⟨p,q,rfl,aa,k _ _ c⟩
noncomputable abbrev CH:Pk:=top 64
abbrev FS:=Int×ab (ab Int×N6)
inductive PartAt (H h:Hp)(L:C')(e:FS)(x:V):Prop
 |mk (p a:C')(ys:ab V)(hx:x=.ref p)(b:h p=gV (.tup [.int e.1,.ref a,.bl NZ]))(c:h a=gV (.lst ys))(d:RuLs h e.2 ys)(f:H a=N4)(g:a≠L)
noncomputable def ul(t:Str)(h:N6)(d:ab Oe)(o:ab (ab Int)):ab FS:=(aA t h).map λv=>(v,bo h d o v d.length)
inductive mB (vs:ab V)(H:Hp)(Q:VK)(E:XK):Prop
 |mk (p q pp l:C')(t:Str)(hw:N6)(xs s:ab V)(C:ab (ab Int))(ds:ab Oe)(out:ab (ab Int))(h0:vs=[.ref p,.ref pp])(i:H p=gV (.tup [.str t,.ref q]))(j:t.length<=30)(k:H q=gV (.lst xs))(m:CLs H C xs)(n:C.length<=900)(o:(∀c∈C,ar t.length c))(r:H pp=gV (.tup [.str<|ax hw,.ref l]))(u:H l=gV (.lst s))(v:cO H ds s)(a:ds.length<=4200)(b:(∀d∈ds,bd d))(e:bE t C hw [] ds=(out,NU))(f:o7 out=NU)(g:∀L xs h,Same H h->H L=N4->h L=gV (.lst xs)->Paired (PartAt H h L) (ul t hw ds out) xs->Q (.ref L) h)
inductive Ho (D:C')(H:Hp)(b:ab Int)(i:Nat)(c:St)(ys:ab V)(G:Hp):Prop
 |mk (d:NW V)(T A:ab C')(I:c=[d])(e:ys=T.map V.ref)(f:G D=gV (.lst ys))(g:Same H G)(h:T.length=i)(k:A.length=i)(l:∀(j:Nat) (t:C') (v:Int) (a:C'),T[j]?=gV t->b[j]?=gV v->A[j]?=gV a->G t=gV (.tup [.int v,.ref a])) (m:∀a∈A,G a=gV (.lst [])/\H a=N4/\a≠D) (n:A.Nodup)
noncomputable def jr(T:ab Int)(a:ab C'):ab (aK×V):=(T.zip a).map λp=>((OW p.1:aK),V.ref p.2)
theorem FT(h:a.length=T.length):(jr T a).map (·.1)=T.map λv=>(OW v:aK):=by
 unfold jr;rw[O_];have:(T.zip a).map ((λx=>x.1)∘λp=>((OW p.1:aK),V.ref p.2))=((T.zip a).map mr).map λv=>(OW v):=by
  rw[O_];rfl
 rw[this,ZA<|by simp_all]
theorem vI:∀{T:ab Int} {A:ab C'} {m:Nat} {v:Int} {a:C'},T.Nodup->T[m]?=gV v->A[m]?=gV a->bh (jr T A) (.inl v)=gV (.ref a)
 |[],_,_,_,_,_,e,_=>by simp at e
 |x::T,[],_,_,_,_,_,e=>by simp at e
 |x::T,b::A,0,v,a,n,E,c=>by
  cases(E);cases(c);unfold bh jr;simp
 |x::T,b::A,m+1,v,a,n,E,c=>by
  obtain⟨N,d⟩:=PU.mp n;have i:=vI d E c;have h:x≠v:=λz=>N (by rw[z];exact N7 E);unfold bh jr at i ⊢;rwa[Yr,OH,Sq<|by simpa using h]
theorem xC{c d:Type}{f:c->d}(e:∀a b,f a=f b->a=b){l:ab c}(h:l.Nodup):(l.map f).Nodup:=Us f (λa b H z=>H<|e a b z) h
theorem um{c:Type}{l:ab c}(h:l.Nodup){i j:Nat}{x:c}(a:l[i]?=gV x) (b:l[j]?=gV x):i=j:=by
 obtain⟨H,e⟩:=NT.mp a;obtain⟨d,E⟩:=NT.mp b;exact(ZE h).mp<|e.trans E.symm
theorem rm{a b:Type}{f:a->b}{l:ab a}{i:Nat}{y:b}(h:(l.map f)[i]?=gV y):∃x,l[i]?=gV x/\y=f x:=by
 cases e:l[i]? with
 |none=>simp_all
 |some x=>simp_all
theorem JS{a b:Type}{l:ab a}{m:ab b}{i:Nat}{x:a}{y:b}(h:(l.zip m)[i]?=gV (x,y)):l[i]?=gV x/\m[i]?=gV y:=by
 rwa[VJ]at h
theorem jt(t:Str)(h:N6):(aA t h).Nodup:=xC (by lia)<|(List.nodup_range).sublist Te
theorem oC(t:Str)(h:N6):(aA t h).length<=t.length:=by
 unfold aA;have:=Ph (λi=>bJ t i == h)<|O1 t.length;simp_all
structure Boxes (G:Hp)(as:ab C')(TK:ab Int)(R:Int->ab (ab Int×N6)):Prop where
 at_:∀(m:Nat) (a:C') (v:Int),as[m]?=gV a->TK[m]?=gV v->∃ys,G a=gV (.lst ys)/\RuLs G (R v) ys
theorem Boxes.mono{R:Int->ab (ab Int×N6)}(x:Boxes G A T R)(k:Same G g):Boxes g A T R:=⟨λm a v h H=>by
 obtain⟨y,b,c⟩:=x.at_ m a v h H;exact⟨y,k _ _ b,c.mono k⟩⟩
theorem Boxes.same{R:Int->ab (ab Int×N6)}(x:Boxes G A T R)(h:∀v∈T,R v=r v):Boxes G A T r:=⟨λm a v b H=>by
 obtain⟨y,g,c⟩:=x.at_ m a v b H;exact⟨y,g,by rwa[<-h v<|N7 H]⟩⟩
theorem Boxes.put{G:Hp}{A:ab C'}{T:ab Int}{R:Int->ab (ab Int×N6)}(x:Boxes G A T R)(g:A.Nodup)(i:T.Nodup){m:Nat}{a:C'}{v:Int}{Y:ab V}{r:ab Int×N6}{y:V}(b:A[m]?=gV a) (c:T[m]?=gV v) (h:G a=gV (.lst Y)) (j:RuLs G (R v) Y) (k:RuAt G r y):
  Boxes (upd G a<|.lst<|Y++[y]) A T (λu=>if u=v then R v++[r]else R u):=⟨λM d f e E=>by
 by_cases H:M=m
 ·subst H;rw[b]at e;rw[c]at E;cases e;cases E;exact⟨_,aa,by rw[Oi rfl];exact RuLs.snoc (k.upd h)<|j.upd h⟩
 have n:d≠a:=λz=>H (um g e<|by rwa[z]);have N:f≠v:=λz=>H (um i E<|by rwa[z]);obtain⟨Z,l,o⟩:=x.at_ M d f e E;exact⟨Z,by rwa[af n],by rw[Oh N];exact o.upd h⟩⟩
inductive LZ (p pp s l d:C')(H:Hp)(a:ab C')(t:Str)(hw:N6)(ds:ab Oe)(out:ab (ab Int))(i:Nat)(b:St)(G:Hp):Prop
 |mk (x X c:NW V)(I:b=[gV (.ref p),gV (.ref pp),gV (.ref s),gV (.ref l),gV (.ref d),x,X,c])(e:Same H G)(f:G d=gV (.dK (jr (aA t hw) a)))(g:Boxes G a (aA t hw) (λv=>bo hw ds out v i))
inductive L4 (p pp s l d L lf:C')(H:Hp)(a:ab C')(t:Str)(hw:N6)(ds:ab Oe)(out:ab (ab Int))(i:Nat)(c:ab Int)(j:Nat)(b:St)(G:Hp):Prop
 |mk (x:NW V)(I:b=[gV (.ref p),gV (.ref pp),gV (.ref s),gV (.ref l),gV (.ref d),gV (.ref L),gV (.ref lf),x])(e:Same H G)(f:G d=gV (.dK (jr (aA t hw) a)))(g:Boxes G a (aA t hw) (λv=>bo hw ds out v i++cN hw (out.getD i []) v ((c.take j).filter λl=>!(out.getD i []).contains l)))
theorem xD(h:List.Sublist a b)(u:Ups b):Ups a:=V3 (h.map _) u
theorem lT{left:ab Int}(H:1<=v)(h:Ups l):(cN w left v l).length<=2:=by
 unfold cN;rw[J',wW H h];exact Ph _ _
theorem zx(h:∀c∈o,ar n c)(k:Nat):Ups (bS d o k):=by
 unfold bS
 split
 ·rename_i i _;refine xD Te ?_;by_cases H:i<o.length
  ·exact(dZ h H).1
  rw[A',O3<|by simp_all];exact SF
 exact SF
theorem iB(h:∀c∈o,ar N c)(a:1<=v):∀{n:Nat},(bo H d o v n).length<=2*n
 |0=>N1 _
 |n+1=>by
  have:=iB (H:=H) (d:=d) h a (n:=n);have:=lT (w:=H) (left:=o.getD n []) a<|zx (d:=d) h n;show(bo H d o v n++_).length<=_
  rw[NX];lia
theorem PartAt.mono(z:PartAt H h L e x)(k:Same h b):PartAt H b L e x:=by
 obtain⟨p,a,y,c,d,f,g,i,j⟩:=z;exact⟨p,a,y,c,k _ _ d,k _ _ f,g.mono k,i,j⟩
theorem PartAt.upd(z:PartAt H h L e x)(b:h L=gV (.lst Z)):PartAt H (upd h L o) L e x:=by
 obtain⟨p,a,y,f,c,g,i,j,d⟩:=z;exact⟨p,a,y,f,by rwa[af<|bj c b<|by simp],by rwa[af d],i.upd b,j,d⟩
theorem j6{c d:Type}{F G:c->d->Prop}(f:∀a b,F a b->G a b){a:c}{b:d}:∀{l:ab c} {m:ab d},Paired F l m->G a b->Paired G (l++[a]) (m++[b]):=by
 intro l m h z;induction h with
 |nil=>exact .cons z .nil
 |cons r t i=>exact .cons (f _ _ r) i
inductive L7 (L:C')(H g:Hp)(d:C')(A:ab C')(t:Str)(hw:N6)(ds:ab Oe)(out:ab (ab Int))(i:Nat)(a:St)(zs:ab V)(G:Hp):Prop
 |mk (b:NW V)(I:a=[b,gV (.ref d)])(c:G L=gV (.lst zs))(e:Same g G)(f:Paired (PartAt H G L) (((aA t hw).take i).map λv=>(v,bo hw ds out v ds.length)) zs)
theorem CI(F:Fun K "plan_of" "plan_of" CH f fd)(T:Bl mg)(cp:Fe P w K mg N 7 "whole_sets" xj)(VC:Fe P w K mg N 2 "variables_of" kN)(ct:Fe P w K mg N 2 "rule_of" vH):ao P w K mg N aP 8 f fd ["sentence","paper"] mB:=by
 refine F.okB (N:=["sentence","paper","sets","variables","rules","line","left","literal"]) λQC A b2 s H vs Q E sc hr h=>?_;obtain⟨p,q,pp,la,t,g,xs,ls,cs,n,o,rfl,hp,ht,hq,b3,h9,VB,ac,Zy,Zz,h8,a7,Rz,b4,q'⟩:=h;have hu:=hr.units;have Va:=Q_ (XS (show 1<=64 by decide) _) hu;have cu:o.length=n.length:=by
  have:=cM Rz;simpa using this
 have aC:∀c∈o,ar t.length c:=by
  have:=fG (w:=g) VB (D:=n) (s:=[]) (by simp);rw[Rz]at this;exact this
 have cv:=oC t g;have an:=jt t g;refine⟨_,(ae gg
  (ae gg
  (ae (sT 4<|bv (fi rfl) rfl T.dict Rt<|gY<|jR ["variable"] [N4]<|aT<|pv 3)
  (ae (dP Pt rfl (vd rfl T.zip gg<|pv 2) gg
   (ap<|aO gg (ap<|fS 7 (bQ gg)<|ap<|aO gg (ap<|cB<|fC Pe PX Qb cK (bz Va (pv 4) gg λS S=>rfl) gg) ay) ay))
  (cr<|jR ["variable","rules"] [N4,gV 4] (aT<|pv 3) (e:=λS S S S=>(dQ<|aD (pv 0)<|g_ (bz Va (pv 1) (pv 0) λS S=>rfl) fT))))))),?_⟩
 refine⟨_,rfl,_,rfl,p,q,pp,la,t,g,xs,ls,cs,n,o,rfl,hp,ht,hq,b3,h9,VB,ac,Zy,Zz,by lia,λd hd=>(xk<|a7 d hd).1,Rz,b4,λsl ys H1 k1 cz aF a0=>?_⟩;refine⟨_,rfl,_,rfl,(a_ (k1 _ _ ac) rfl ⟨p,t,.ref q,g,rfl,k1 _ _ hp,by lia,λl H2 k2 V0=>?_⟩)⟩;refine⟨_,rfl,l,rfl,⟨_,SqL.of V0⟩,λD hD=>?_⟩;refine cy (K:=K) (a:=l) (xs:=(aA t g).map V.int) (Ho D H2<|aA t g) ⟨N4,[],[],rfl,rfl,aa,ad hD _,rfl,rfl,(by grind),(by simp),SF⟩ ?_ ?_ ?_
 ·rintro i O Z G S ⟨S,ts,r,S,S,i2,i3,S⟩;exact⟨i2,SqL.of<|i3 _ _ V0⟩
 ·rintro i x O Z G hx ⟨v0,ts,r,rfl,rfl,i2,i3,i4,i5,i6,i7,i8⟩;obtain⟨v,hv,rfl⟩:=rm hx;have Wy:i<(aA t g).length:=(NT.mp hv).1;refine cq ⟨_,rfl,Ou _,λu U=>⟨(by show 2<=sizeLine;decide),λpt av=>?_⟩⟩;have k3:=ad U<|.lst [];have s3:=CB k3;have b6:H2 u=none:=i3.free U;have a8:u≠D:=λz=>by lia
  generalize upd G u (.lst [])=G3 at k3 s3 av ⊢;have k4:=ad av<|.tup [.int v,.ref u];have s4:=CB k4;generalize upd G3 pt (.tup [.int v,.ref u])=G4 at k4 s4 ⊢;have az:=k3.trans k4;have d4:=az _ _ i2;exists d4,(by rw[J'];exact cg<|by lia);refine⟨_,ts++[pt],r++[u],rfl,by simp,aa,(i3.trans az).upd_new hD _,by rw[NX,i4];rfl,by rw[NX,i5];rfl,λj t' v' a' e1 e2 e3=>?_,λa ha=>?_,?_⟩
  ·by_cases hj:j<i
   ·rw[OA<|by simp_all]at e1 e3;have z:=az _ _<|i6 j t' v' a' e1 e2 e3;rw[af<|bj z d4<|by simp];exact z
   rw[Ow<|by simp_all]at e1 e3;have b7:j=i:=by
    have:=(NT.mp e1).1;rw[OG]at this;lia
   subst b7;rw[i4,PY]at e1;rw[i5,PY]at e3;rw[hv]at e2;cases e1;cases e2;cases e3;rw[af<|bj s4 d4<|by simp];exact s4
  ·obtain z|z:=OB.mp ha
   ·obtain⟨g1,g2,g3⟩:=i7 a z;exact⟨by rw[af g3];exact az _ _ g1,g2,g3⟩
   rw[N9.mp z];exact⟨by rw[af a8];exact k4 _ _ s3,b6,a8⟩
  refine Qi.mpr ⟨i8,by simp,λa ha b hb z=>?_⟩;simp_all
 rintro O Z G ⟨v0,ts,r,rfl,rfl,i2,i3,i4,i5,i6,i7,i8⟩;rw[J']at i4 i5;refine⟨D,ts,jr (aA t g) r,rfl,i2,?_,λi t' kv e1 e2=>?_,?_,?_,λd hd=>?_⟩
 ·unfold jr;simp_all
 ·unfold jr at e2;obtain⟨⟨v,a⟩,e3,rfl⟩:=rm e2;obtain⟨e4,e5⟩:=JS e3;exact i6 i t' v a e1 e4 e5
 ·rw[FT i5];exact xC (λS S z=>Qo z) an
 ·unfold jr;rw[J',Z1];lia
 have k5:=ad hd<|.dK<|jr (aA t g) r;have s5:=CB k5;have b5:Boxes (upd G d<|.dK<|jr (aA t g) r) r (aA t g) (λv=>bo g n o v 0):=⟨λm a v h1 h2=>⟨[],k5 _ _ (i7 a<|N7 h1).1,.nil⟩⟩;have W:=i3.trans k5;generalize upd G d (.dK<|jr (aA t g) r)=G5 at k5 s5 b5 W ⊢;have a9:∀a∈r,H2 a=none:=λa ha=>(i7 a ha).2.1;clear k5 i7 i6 i3 i2;have VZ:=k1.trans k2;have P1:=ci Zz;have c0:=a0.length;refine⟨_,rfl,(a_ (W _ _<|VZ _ _ ac) rfl ⟨_,rfl,la,sl,rfl,rfl,⟨_,SqL.of<|W _ _<|VZ _ _ Zy⟩,⟨_,SqL.of<|W _ _<|k2 _ _ aF⟩,?_⟩)⟩;refine qL (K:=K) (a:=la) (b:=sl) (X:=ls) (Y:=ys) (n:=n.length) P1 (by simp_all) (LZ p pp sl l d H2 r t g n o) ⟨N4,N4,N4,rfl,W,s5,b5⟩ ?_ ?_ ?_
 ·rintro i O G6 S ⟨S,S,S,S,j1,S⟩;exact⟨SqL.of<|j1 _ _<|VZ _ _ Zy,SqL.of<|j1 _ _<|k2 _ _ aF⟩
 ·rintro i x y O G6 t1 hx hy ⟨x5,x6,x7,rfl,j1,j2,j3⟩ cc;have Wy:i<n.length:=by have:=(NT.mp hx).1;simp_all
  have rx:=cL Zz hx;have a1:=getD_some (d:=Qj) Wy;have ba:=N7 a1;have ed:n.getD i .none=n.getD i .none:=rfl;generalize bb:n.getD i .none=d1 at rx a1 ba;obtain⟨c1,bc,cd⟩:=a0.get hy;have eo:o.getD i []=c1:=by rw[A',bc];rfl
  obtain⟨lf,rfl,bf⟩:=cd;have k7:=ad cc<|.tup [x,.ref lf];exists t1,_,rfl,SqT.of aa,rfl,_,_,rfl,_,_,rfl,rfl;have J:=j1.trans k7;have X:=k7 _ _ j2;have a2:=j3.mono k7;show Ig _ _ _ _ _ (upd G6 t1<|.tup [x,.ref lf])
  generalize upd G6 t1 (.tup [x,.ref lf])=G7 at k7 J X a2 ⊢;clear j1 j2 j3;have Y:=VZ.trans J;have a3:nE d1=N4->Boxes G7 r (aA t g) (λv=>bo g n o v<|i+1):=λe=>a2.same λv S=>by
   show _=bo g n o v i++cN g (o.getD i []) v (bS n o i)
   unfold bS;rw[bb,e];exact(Pd _).symm
  obtain⟨k,rfl⟩|⟨c,S,rfl⟩|⟨z,rfl⟩|⟨z1,z2,z3,rfl⟩:=a7 d1 ba
  ·obtain⟨ln,Z,rfl,B,M⟩:=al rx;obtain⟨y0,Z,rfl,r0,M⟩:=aj M;obtain rfl:=aS r0;refine⟨_,rfl,(a_ (Y _ _ B) (aH (j:=0) rfl)<|.inl ⟨rfl,_,rfl,?_⟩)⟩;rw[N3 (show V.str aM≠V.str (NV "drop") by decide+kernel)];exact ak ⟨_,_,_,rfl,J,X,a3 rfl⟩
  ·obtain⟨ln,Z,rfl,B,M⟩:=al rx;obtain⟨y0,Z,rfl,r0,M⟩:=aj M;obtain rfl:=aS r0;refine⟨_,rfl,(a_ (Y _ _ B) (aH (j:=0) rfl)<|.inl ⟨rfl,_,rfl,?_⟩)⟩;rw[N3 (show V.str bD≠V.str (NV "drop") by decide+kernel)];exact ak ⟨_,_,_,rfl,J,X,a3 rfl⟩
  ·obtain⟨ln,Z,rfl,B,M⟩:=al rx;obtain⟨y0,Z,rfl,r0,M⟩:=aj M;obtain⟨y1,Z,rfl,r1,M⟩:=aj M;obtain rfl:=aS r0;obtain rfl:=aJ r1;obtain⟨i',rfl,c2,S,c3⟩:=qK Rz a1;refine⟨_,rfl,(a_ (Y _ _ B) (aH (j:=0) rfl)<|.inl ⟨rfl,_,rfl,?_⟩)⟩;rw[Ob (show V.str aE=V.str (NV "drop") by rfl)];obtain⟨xc,bg⟩:∃xc,ys[i']?=gV xc:=⟨_,K' (by lia)⟩;obtain⟨c,hc,TQ⟩:=a0.get bg;have ec:o.getD i' []=c:=by simp_all
   obtain⟨tc,rfl,Q7⟩:=TQ;have bk:=aC c<|N7 hc;have c4:=bw bk;have ce:=aC c1<|N7 bc;have c5:=bw ce;have bl:=k2.trans J;refine aq ⟨_,rfl,_,rfl,(a_ (Y _ _ B) (aH (j:=1) rfl)<|(dM (bl _ _ aF) (aH bg) ⟨tc,rfl,⟨_,SqT.of<|bl _ _ Q7⟩,?_⟩))⟩;have bm:bS n o i=c.filter λl=>!c1.contains l:=by
    unfold bS;have ep:nE (.tuple [.str aE,.int (i':Int)])=gV i':=by
     rfl
    rw[bb,ep];show(o.getD i' []).filter (λl=>!(o.getD i []).contains l)=_
    rw[ec,eo]
   refine dz (K:=K) (a:=tc) (X:=c.map V.int) (L4 p pp sl l d ln lf H2 r t g n o i c) ⟨_,rfl,J,X,a2.same λv S=>?_⟩ ?_ ?_ ?_
   ·rw[List.take_zero];exact(Pd _).symm
   ·rintro j O G8 S ⟨S,S,m1,S⟩;exact SqT.of<|m1 _ _<|k2 _ _ Q7
   ·rintro j x O G8 cf ⟨x7,rfl,m1,m2,m3⟩;obtain⟨lz,br,rfl⟩:=rm cf;have bs:c.take (j+1)=c.take j++[lz]:=by rw[OM,br];rfl
    have bt:=k2.trans m1;have e:(if NU=NU then !jg (.int lz) (c1.map V.int)else jg (.int lz) (c1.map V.int))=!c1.contains lz:=by
     rw[Oi rfl,bq]
    exists _,rfl,_,rfl,lf,_,rfl,.inr<|SqT.of<|bt _ _ bf,rfl,bC _,_,rfl;rw[e];cases a4:c1.contains lz with
    |true=>
     refine ak ⟨_,rfl,m1,m2,m3.same λv S=>?_⟩;rw[bs,Qc,eo,Rc,a4];simp
    |false=>
     have b0:absI lz∈aA t g:=yY VB Rz Wy (by rw[bm];exact Oq.mpr ⟨N7 br,by rw[a4];rfl⟩);obtain⟨m,hm⟩:=Xx b0;obtain⟨C,I⟩:∃C,r[m]?=gV C:=⟨_,K' (by have:=(NT.mp hm).1;lia)⟩;obtain⟨us,g1,g2⟩:=m3.at_ m C _ I hm;have b1:1<=absI lz:=(eX.mp b0).1;have YI:Ups ((c.take j).filter λl=>!(o.getD i []).contains l):=xD (Te.trans (SE _ _)) bk.1;have c6:us.length<=2*i+2:=by
      have e1:=iB aC b1 (H:=g) (d:=n) (n:=i);have e2:=lT (w:=g) (left:=o.getD i []) b1 YI;have e3:=Paired.length g2;grind
     refine aq ⟨_,rfl,_,rfl,lz,rfl,d,.ref C,rfl,.inl ⟨_,.inl<|absI lz,Rd.of m2,rfl,(vI an hm I).symm⟩,.inl ⟨rfl,_,SqL.of g1⟩,?_⟩;refine⟨_,rfl,(a_ ((VZ.trans m1) _ _ ac) rfl ⟨_,rfl,_,rfl,lf,g,lz,c1,rfl,bt _ _ bf,by lia,λrv G9 k9 ch=>?_⟩)⟩;have Yc:=k9 _ _ g1;have ck:=m1.trans k9;exists C,us,rv,rfl,rfl,Yc,cg (by lia);have cl:=a9 C<|N7 I;refine⟨_,rfl,ck.upd_new cl _,by rw[af<|bj (k9 _ _ m2) Yc<|by simp];exact k9 _ _ m2,((m3.mono k9).put i8 an I hm Yc (g2.mono k9) ch).same λv S=>?_⟩;rw[bs,Qc,eo,Rc,a4];unfold cN;rw[Oi (show(!NZ)=NU from rfl),Qc,Oy,Rc];by_cases ev:v=absI lz
     ·subst ev;rw[Oi rfl,Oi<|Ob rfl,OX];rfl
     rw[Oh ev,Oh<|by lia];show _=_++(_++[])
     rw[Pd]
   rintro O G8 ⟨x7,rfl,m1,m2,m3⟩;refine⟨_,_,_,rfl,m1,m2,m3.same λv S=>?_⟩;show _=bo g n o v i++cN g (o.getD i []) v (bS n o i)
   rw[J',Od<|N1 _,bm,eo]
  obtain⟨ln,Z,rfl,B,M⟩:=al rx;obtain⟨y0,Z,rfl,r0,M⟩:=aj M;obtain rfl:=aS r0;refine⟨_,rfl,(a_ (Y _ _ B) (aH (j:=0) rfl)<|.inl ⟨rfl,_,rfl,?_⟩)⟩;rw[N3 (show V.str aY≠V.str (NV "drop") by decide+kernel)];exact ak ⟨_,_,_,rfl,J,X,a3 rfl⟩
 rintro O G6 ⟨x5,x6,x7,rfl,j1,j2,j3⟩;refine⟨_,rfl,l,rfl,⟨_,SqL.of<|j1 _ _ V0⟩,λL hL=>?_⟩;have nL:H L=none:=VZ.free<|j1.free hL;have aL:∀a∈r,a≠L:=λa ha z=>by
  obtain⟨m,hm⟩:=Xx ha;obtain⟨v,hv⟩:∃v,(aA t g)[m]?=gV v:=⟨_,K' (by have:=(NT.mp hm).1;lia)⟩;obtain⟨us,g1,S⟩:=j3.at_ m a v hm hv;lia
 refine cy (K:=K) (a:=l) (xs:=(aA t g).map V.int) (L7 L H G6 d r t g n o) ⟨N4,rfl,aa,ad hL _,.nil⟩ ?_ ?_ ?_
 ·rintro i O Z G7 S ⟨S,S,n2,n3,S⟩;exact⟨n2,SqL.of<|n3 _ _<|j1 _ _ V0⟩
 ·rintro i x O Z G7 hx ⟨v0,rfl,n2,n3,n4⟩;obtain⟨v,hv,rfl⟩:=rm hx;have Wy:i<(aA t g).length:=(NT.mp hv).1;obtain⟨C,I⟩:∃C,r[i]?=gV C:=⟨_,K' (by lia)⟩;obtain⟨us,g1,g2⟩:=j3.at_ i C v I hv;have a5:=N7 I;refine cq ⟨_,rfl,_,rfl,_,rfl,d,.ref C,rfl,.inl ⟨_,.inl v,Rd.of (n3 _ _ j2),rfl,(vI an hv I).symm⟩,(by show 3<=sizeLine;decide),λpt av=>?_⟩;have k8:=ad av (.tup [.int v,.ref C,.bl NZ]);have d8:=k8 _ _ n2;have a6:=n3.trans k8;have co:=Paired.length n4;rw[J',OC]at co;exists d8,cg (by lia),_,rfl,aa,a6.upd_new hL _;rw[OM,hv,Oy];refine j6 (G:=PartAt H (upd (upd G7 pt (.tup [.int v,.ref C,.bl NZ])) L (.lst (Z++[.ref pt]))) L) (a:=(v,bo g n o v n.length)) (λe y (z:PartAt H G7 L e y)=>PartAt.upd (z.mono k8) d8) n4 ⟨pt,C,us,rfl,?_,?_,?_,?_,aL C a5⟩
  ·rw[af (bj aa d8<|by simp),aa]
  ·rw[af<|aL C a5];exact a6 _ _ g1
  ·exact(g2.mono a6).upd d8
  exact VZ.free<|a9 C a5
 rintro O Z G7 ⟨S,S,n2,n3,n4⟩;rw[J',Od<|N1 _]at n4;exact q' L Z G7 (VZ.trans<|j1.trans n3) nL n2 n4
noncomputable abbrev Hq:Pk:=top 9
noncomputable abbrev FU:Pk:=top 10
noncomputable abbrev Nn:Pk:=top 11
def NR(d:Oe):Prop:=∀D,d=.tuple D->Qf (D.getD 0 .none)=NU
inductive spNumP (vs:ab V)(H:Hp)(Q:VK)(E:XK):Prop
 |mk (v:V)(d:Oe)(h0:vs=[v])(h:RD H d v)(a:Q (.bl<|kB d&&!mf d) H)
inductive spPlaceP (vs:ab V)(H:Hp)(Q:VK)(E:XK):Prop
 |mk (v:V)(d:Oe)(many:Nat)(h0:vs=[v,.int (many:Int)])(h:RD H d v)(a:Q (.bl (aU many d).isSome) H)
inductive spBeg (vs:ab V)(H:Hp)(Q:VK)(E:XK):Prop
 |mk (v:V)(d:Oe)(w:Str)(n:Nat)(h0:vs=[v,.str w,.int (n:Int)])(h:RD H d v)(a:1<=n)(b:Qf (.str w)=NU)(c:NR d)(e:Q (.bl<|OD.formB w n d) H)
theorem JT:ee ["thing"] ["thing"] (aw Hq):=Bw
theorem FV(F:Fun K "is_number" "is_number" Hq f c)(T:Bl m):ao P w K m b aP 1 f c ["thing"] spNumP:=by
 refine F.okA JT λC A o s H e Q E r h=>?_;obtain⟨v,d,rfl,a,q⟩:=h;have n:=eV a;exists _,gg;exists _,rfl,v,_,"int",_,rfl,lI d v a,wF d n,_,rfl;cases I:kB d with
 |false=>
  rwa[I]at q
 |true=>
  rw[I]at q;exact aq ⟨_,rfl,v,_,"bool",_,rfl,lI d v a,sN d n,_,rfl,q⟩
theorem zy(F:Fun K "is_place" "is_place" FU f k)(U:Fe P w K M b 1 "is_number" spNumP):ao P w K M b aP 2 f k ["thing","many"] spPlaceP:=by
 refine F.okB (N:=["thing","many"]) λC A o s H l Q E p r h=>?_;obtain⟨v,d,m,rfl,j,q⟩:=h;exists _,(cr<|kh gg<|hO<|mJ jz ph cZ (pv 0)<|pv 1);exists _,rfl,v,d,rfl,j,_,rfl;obtain⟨z,rfl⟩|n:=ng d
 ·obtain rfl:=aJ j;have a:Q (.bl (if 0<=z/\z<(m)then gV _ else N4).isSome) H:=q;exists _,rfl,_,_,rfl,rfl,_,rfl;by_cases g:0<=z
  ·rw[Ob g];refine aq ⟨_,rfl,_,_,rfl,rfl,?_⟩;by_cases i:z<(m)
   ·simp_all
   rw[Oh λc=>i c.2]at a;show Q (.bl _) H
   rwa[N3 i]
  rw[Oh λc=>g c.1]at a;rwa[N3 g]
 rw[ml n];have e:aU m d=none:=by
  cases d with
  |int z=>lia
  |_=>rfl
 rwa[e]at q
theorem JU(F:Fun K "begins_with" "begins_with" Nn f p)(T:Bl M):ao P w K M B aP 1 f p ["thing","word","many"] spBeg:=by
 refine F.okB (N:=["thing","word","many"]) λC A o s H u Q E y G h=>?_;obtain⟨v,d,W,n,rfl,i,I,j,k,q⟩:=h;have N:=eV i;exists _,gg;exists _,rfl,v,_,"tuple",_,rfl,lI d v i,kC d N,_,rfl;cases d with
 |tuple D=>
  obtain⟨a,x,rfl,l,m⟩:=al i;have r:=ci m;refine aq ⟨_,rfl,.ref a,_,rfl,.inr ⟨_,SqT.of l,rfl⟩,_,rfl,.inl ⟨rfl,_,rfl,?_⟩⟩;have c:Q (.bl (decide _&&ny W _)) H:=q;by_cases g:D.length=n
  ·rw[Ob g]at c;have e:decide (V.int ((x.length))=V.int (n))=true:=Ob (by rw[r,g]);rw[e];obtain⟨X,b⟩:∃X,x[0]?=gV X:=⟨_,K' (by lia)⟩;have t:=cL m b;refine aq ⟨_,rfl,(a_ l (aH b) ⟨_,rfl,.inr ⟨_,_,t,cP W,k D rfl,j,?_⟩⟩)⟩;rwa[tG]
  ·rw[N3 g]at c;have e:decide (V.int ((x.length))=V.int (n))=false:=N3 λz=>g (by lia);rwa[e]
 |_=>exact ak q
noncomputable abbrev Hr:Pk:=top 78
noncomputable abbrev xE:Pk:=top 79
noncomputable abbrev CJ:Pk:=top 80
noncomputable abbrev xF:Pk:=top 81
noncomputable abbrev Hs:Pk:=top 82
noncomputable def ownW(t:Str)(z:Int):N6:=bJ t (absI z-1).toNat
noncomputable def unitB(t:Str):ab Int->N6
 |[z]=>ownW t z
 |_=>NZ
noncomputable def dW(c:ab Int)(z:Int):ab Int->N6
 |[]=>NZ
 |x::r=>if absI z<=absI x then NZ else if c.contains (-x)=NU then NU else dW c z r
def vJ(n:Nat)(c:ab Int):Prop:=∀l∈c,1<=absI l/\absI l<=(n:Int)
inductive iD (vs:ab V)(H:Hp)(Q:VK)(E:XK):Prop
 |mk (p:C')(t:Str)(w:V)(z:Int)(hw:N6)(h0:vs=[.ref p,.int z,.str<|ax hw])(h:H p=gV (.tup [.str t,w]))(a:t.length<=900)(b:1<=absI z)(c:absI z<=(t.length:Int))(q:Q (.bl<|ownW t z == hw) H)
inductive j7 (vs:ab V)(H:Hp)(Q:VK)(E:XK):Prop
 |mk (p a:C')(t:Str)(w:V)(c:ab Int)(h0:vs=[.ref p,.ref a])(h:H p=gV (.tup [.str t,w]))(b:t.length<=900)(d:jw H a c)(e:vJ t.length c)(q:Q (.bl<|unitB t c) H)
inductive mD (vs:ab V)(H:Hp)(Q:VK)(E:XK):Prop
 |mk (a b:C')(c k:ab Int)(h0:vs=[.ref a,.ref b])(h:jw H a c)(d:jw H b k)(q:Q (.bl (k.all λz=>c.contains z)) H)
inductive oE (vs:ab V)(H:Hp)(Q:VK)(E:XK):Prop
 |mk (a b:C')(c k:ab Int)(z:Int)(h0:vs=[.ref a,.ref b,.int z])(h:jw H a c)(d:jw H b k)(q:Q (.bl<|dW c z k) H)
inductive rn (vs:ab V)(H:Hp)(Q:VK)(E:XK):Prop
 |mk (a l:C')(c:ab Int)(z:Int)(xs:ab V)(C:ab (ab Int))(h0:vs=[.ref a,.int z,.ref l])(h:jw H a c)(b:H l=gV (.lst xs))(d:CLs H C xs)(q:Q (.bl (C.all λk=>dW c z k)) H)
theorem dX(c:ab Int):(c.map V.int).all iX=true:=by
 rw[R0];exact O0.mpr λz z=>rfl
inductive CK (H:Hp)(a b:C')(c k:ab Int)(i:Nat)(d:St)(h:Hp):Prop
 |mk (v:NW V)(h0:d=[gV (.ref a),gV (.ref b),v])(e:h=H)(f:((k.take i).all λz=>c.contains z)=NU)
inductive CM (H:Hp)(a b:C')(z:Int)(c k:ab Int)(i:Nat)(d:St)(h:Hp):Prop
 |mk (v:NW V)(h0:d=[gV<|.ref a,gV<|.ref b,gV<|.int z,v])(e:h=H)(f:dW c z k=dW c z (k.drop i))
inductive Ht (H:Hp)(a l:C')(z:Int)(c:ab Int)(C:ab (ab Int))(i:Nat)(b:St)(h:Hp):Prop
 |mk (v:NW V)(h0:b=[gV (.ref a),gV (.int z),gV (.ref l),v])(d:h=H)(e:((C.take i).all λk=>dW c z k)=NU)
theorem FW(F:Fun K "is_of" "is_of" Hr f d)(T:Bl m)(Z:Fe P w K m b 1 "hand_of" eN):ao P w K m b aP 2 f d ["sentence","literal","hand"] iD:=by
 refine F.okB (N:=["sentence","literal","hand"]) λC A o s H v Q E l r h=>?_;obtain⟨p,t,w,z,a,rfl,c,g,n,u,q⟩:=h;refine⟨_,gg,?_⟩;obtain⟨i,j⟩:∃i:Nat,absI z=(i)+1:=⟨(absI z-1).toNat,by omega⟩;have e:(absI z-1).toNat=i:=by simp_all
 refine⟨_,rfl,_,rfl,z,rfl,p,t,w,i,?_,c,(by lia),g,_,rfl,.inl ⟨rfl,?_⟩⟩
 ·show [V.ref p,V.int<|absI z]=_
  rw[j]
 rw[dD];unfold ownW at q;lia
theorem zA(F:Fun K "is_unit" "is_unit" xE f i)(T:Bl m)(j:Fe P w K m B 2 "is_of" iD):ao P w K m B aP 3 f i ["sentence","clause"] j7:=by
 refine F.okB (N:=["sentence","clause"]) λC A o s H v Q E u D h=>?_;obtain⟨p,a,t,w,c,rfl,l,n,b,k,q⟩:=h;exists _,gg;refine⟨_,rfl,.ref a,_,rfl,.inr ⟨_,SqT.of b,rfl⟩,.inl ⟨rfl,_,rfl,?_⟩⟩
 match c,b,k,q with
 |[],b,k,q=>exact fA (λz=>absurd (V.int.inj<|Oo z)<|by decide) λg=>q
 |[z],b,k,q=>
  have d:=k z Om;refine⟨_,rfl,_,rfl,(a_ b rfl ⟨p,t,w,z,NU,rfl,l,n,d.1,d.2,?_⟩)⟩;have e:Q (.bl<|ownW t z) H:=q;simp_all
 |x::y::r,b,k,q=>exact fA (λz=>absurd (V.int.inj<|Oo z)<|by simp;lia) λg=>q
theorem CO(F:Fun K "holds_all" "holds_all" CJ f n):ao P w K M B aP 1 f n ["clause","literals"] mD:=by
 refine F.okB (N:=["clause","literals","literal"]) λC A o s H y Q E D G h=>?_;obtain⟨a,b,c,k,rfl,p,d,q⟩:=h;refine⟨_,(ae (fS 2 (bQ<|pv 1) gg)
  (cr fT)),⟨_,rfl,b,rfl,⟨_,SqT.of d⟩,dz (K:=K) (X:=k.map V.int) (CK H a b c k) ⟨N4,rfl,rfl,rfl⟩ ?_ ?_ ?_⟩⟩
 ·rintro i j l Z ⟨Z,Z,rfl,Z⟩;exact SqT.of d
 ·rintro i x j l t ⟨v,rfl,rfl,r⟩;obtain⟨z,rfl,m⟩:=cU t;have e:(if NU=NU then !jg (.int z) (c.map V.int)else jg (.int z) (c.map V.int))=!c.contains z:=by
   rw[Oi rfl,bq]
  exists _,rfl,_,rfl,a,_,rfl,.inr<|SqT.of p,rfl,dX c,_,rfl;rw[e];cases g:c.contains z with
  |false=>
   have u:(k.all λz=>c.contains z)=false:=Ur.mpr ⟨z,N7 m,by lia⟩;rwa[u]at q
  |true=>
   refine ak ⟨_,rfl,rfl,?_⟩;rw[OM,m,TF,r];show(c.contains z&&NU)=NU
   rw[g];rfl
 rintro j l ⟨v,rfl,rfl,r⟩;rw[Od<|by rw[J'];exact N1 _]at r;rwa[r]at q
theorem zB(F:Fun K "has_other_way" "has_other_way" xF f r)(T:Bl M):ao P w K M B aP 1 f r ["clause","other","literal"] oE:=by
 refine F.okB (N:=["clause","other","literal","ahead"]) λJ A o s H L Q E N O h=>?_;obtain⟨a,b,c,k,z,rfl,t,j,q⟩:=h;refine⟨_,(ae (fS 3 (bQ<|pv 1) gg)
  (cr fT)),?_⟩
 refine⟨_,rfl,b,rfl,⟨_,SqT.of j⟩,dz (K:=K) (X:=k.map V.int) (CM H a b z c k) ⟨N4,rfl,rfl,rfl⟩ ?_ ?_ ?_⟩
 ·rintro i l m Z ⟨Z,Z,rfl,Z⟩;exact SqT.of j
 ·rintro i x l m u ⟨v,rfl,rfl,d⟩;obtain⟨y,rfl,p⟩:=cU u;have C:k.drop i=y::k.drop (i+1):=by
   have D:=(NT.mp p).1;rw[QB D,(NT.mp p).2]
  have I:dW c z (y::k.drop (i+1))=if absI z<=absI y then NZ else if c.contains _=NU then NU else dW c z _:=rfl
  rw[C,I]at d;refine⟨_,rfl,y,rfl,_,rfl,z,rfl,_,_,rfl,rfl,_,rfl,fA (λg=>?_) λg=>?_⟩
  ·rw[Oi (show absI z<=absI y from Oo g)]at d;rwa[d]at q
  rw[Oh (show¬absI z<=absI y from λn=>g<|Ob n)]at d;have e:(if NZ=NU then !jg (.int (-y)) (c.map V.int)else jg (.int (-y)) (c.map V.int))=c.contains (-y):=by
   rw[Oh Oa,bq]
  exists _,rfl,_,rfl,_,rfl,a,_,rfl,.inr<|SqT.of t,rfl,dX c,_,rfl;rw[e];cases G:c.contains _ with
  |true=>
   rw[G]at d;rwa[d]at q
  |false=>
   rw[G]at d;exact ak ⟨_,rfl,rfl,d⟩
 rintro l m ⟨v,rfl,rfl,d⟩;rw[Rv<|by rw[J'];exact N1 _]at d;rwa[d]at q
theorem FX(F:Fun K "is_blocked" "is_blocked" Hs f p)(t:Fe P w K M b 1 "has_other_way" oE):ao P w K M b aP 2 f p ["clause","literal","opposed"] rn:=by
 refine F.okB (N:=["clause","literal","opposed","other"]) λI A o s H J Q E L N h=>?_;obtain⟨a,l,c,z,X,C,rfl,u,e,d,q⟩:=h;refine⟨_,(ae (fS 3 (aT<|pv 2) gg)
  (cr fT)),⟨_,rfl,l,rfl,⟨_,SqL.of e⟩,dy (K:=K) (X:=X) (Ht H a l z c C) ⟨N4,rfl,rfl,rfl⟩ ?_ ?_ ?_⟩⟩
 ·rintro i j m Z ⟨Z,Z,rfl,Z⟩;exact SqL.of e
 ·rintro i x j m v ⟨y,rfl,rfl,r⟩;obtain⟨k,n,T⟩:=d.get v;obtain⟨B,rfl,D⟩:=T;exists _,rfl,_,rfl,_,rfl,a,B,c,k,z,rfl,u,D,_,rfl;cases g:dW c z k with
  |false=>
   have G:(C.all λk=>dW c z k)=false:=Ur.mpr ⟨k,N7 n,by rw[g];exact Oa⟩;rwa[G]at q
  |true=>
   refine ak ⟨_,rfl,rfl,?_⟩;rw[OM,TF,r];simp_all
 rintro j m ⟨y,rfl,rfl,r⟩;rw[Od<|by rw[d.length];exact N1 _]at r;rwa[r]at q
noncomputable abbrev CQ:Pk:=top 83
noncomputable abbrev CT:Pk:=top 84
noncomputable abbrev CU:Pk:=top 85
noncomputable abbrev CV:Pk:=top 86
noncomputable abbrev L8:Pk:=top 87
noncomputable abbrev CY:Pk:=top 88
noncomputable abbrev C0:Pk:=top 89
noncomputable def qi:Str:=NV "unit"
noncomputable def xG:Str:=NV "pure"
noncomputable def ro:Str:=NV "within"
noncomputable def oG:Str:=NV "blocked"
noncomputable def gU(c:ab (ab Int))(i:Nat):ab (ab Int):=c.take i++c.drop (i+1)
inductive Nx:Type
 |unit (i:Nat)
 |drop (i:Nat)
 |pure (z:Int)
 |within (i j:Nat)
 |blocked (i:Nat) (z:Int)
noncomputable def Nx.d:Nx->Oe
 |.unit i=>.tuple [.str qi,.int (i:Int)]
 |.drop i=>.tuple [.str aE,.int (i:Int)]
 |.pure z=>.tuple [.str xG,.int z]
 |.within i j=>.tuple [.str ro,.int (i:Int),.int (j:Int)]
 |.blocked i z=>.tuple [.str oG,.int (i:Int),.int z]
noncomputable def Nx.zs:Nx->ab V
 |.unit i=>[.str qi,.int (i:Int)]
 |.drop i=>[.str aE,.int (i:Int)]
 |.pure z=>[.str xG,.int z]
 |.within i j=>[.str ro,.int (i:Int),.int (j:Int)]
 |.blocked i z=>[.str oG,.int (i:Int),.int z]
noncomputable def cJ(c:ab (ab Int)):Nat:=c.length+(c.map P3).sum
noncomputable def lastS(t:Str)(c:ab Int):N6:=match c.getLast? with
 |some z=>!ownW t z
 |none=>NZ
inductive Stp (t:Str)(C:ab (ab Int)):Nx->ab (ab Int)->Prop
 |unit (i:Nat) (h:i<C.length) (z:Int) (e:C.getD i []=[z]) (o:ownW t z=NU):Stp t C (.unit i) (behind z C)
 |drop (i:Nat) (h:i<C.length) (l:lastS t (C.getD i [])=NU):Stp t C (.drop i) (C.take i++[aG t NZ<|C.getD i []]++C.drop (i+1))
 |pure (z:Int) (h:(C.any λc=>c.contains z)=NU) (n:(C.any λc=>c.contains (-z))=NZ):Stp t C (.pure z) (behind (if ownW t z=NU then z else -z) C)
 |within (i j:Nat) (h:i<C.length) (g:j<C.length) (n:i≠j) (a:((C.getD j []).all λz=>(C.getD i []).contains z)=NU):Stp t C (.within i j) (gU C i)
 |blocked (i:Nat) (z:Int) (h:i<C.length) (m:z∈C.getD i []) (o:ownW t z=NU) (b:((C.filter λc=>c.contains (-z)).all λk=>dW (C.getD i []) z k)=NU):Stp t C (.blocked i z) (gU C i)
structure SentAt (H:Hp)(p q:C')(t:Str)(xs:ab V)(cs:ab (ab Int)):Prop where
 hp:H p=gV (.tup [.str t,.ref q])
 hq:H q=gV (.lst xs)
 hcs:CLs H cs xs
 ht:t.length<=30
 hn:cs.length<=400
 hok:∀c∈cs,vJ t.length c
 hc:∀c∈cs,c.length<=60
inductive NE {b:Type}(f:b->Nx)(g:b->ab V)(vs:ab V)(H:Hp)(Q:VK):Prop
 |mk (p q:C')(t:Str)(xs:ab V)(c:ab (ab Int))(a:b)(ds:ab (ab Int))(h0:vs=.ref p::g a)(d:SentAt H p q t xs c)(e:Stp t c (f a) ds)(i:∀(l:C') (ys:ab V) (h:Hp),Same H h->H l=N4->h l=gV (.lst ys)->CLs h ds ys->Q (.ref l) h)
def o9{a:Type}(f:a->Nx)(g:a->ab V):Sp:=λv H Q _=>NE f g v H Q
noncomputable def FY(i:Nat):ab V:=[.int (i:Int)]
noncomputable def L9(z:Int):ab V:=[.int z]
noncomputable def L_(x:Nat×Nat):ab V:=[.int (x.1:Int),.int (x.2:Int)]
noncomputable def Ma(x:Nat×Int):ab V:=[.int (x.1:Int),.int x.2]
inductive dq (vs:ab V)(H:Hp)(Q:VK)(E:XK):Prop
 |mk (p:C')(l:Int)(xs:ab V)(C:ab (ab Int))(h0:vs=[.ref p,.int l])(a:H p=gV (.lst xs))(b:CLs H C xs)(d:C.length<=900)(e:∀c∈C,c.length<=900)(f:∀(q:C') (ys:ab V) (h:Hp),Same H h->H q=N4->h q=gV (.lst ys)->CLs h (behind l C) ys->Q (.ref q) h)
theorem gk(h:CLs H C X)(d:i<C.length):∃t,X[i]?=gV (.ref t)/\jw H t (C.getD i [])/\C.getD i []∈C:=by
 have l:=h.length;obtain⟨x,a⟩:∃x,X[i]?=gV x:=⟨_,K' (Pb d (Ui l))⟩;obtain⟨c,b,t,rfl,Q⟩:=h.get a;have e:C.getD i []=c:=by rw[A',b];rfl
 rw[e];exact⟨t,a,Q,N7 b⟩
noncomputable def dO(H:Hp)(z:Int)(x:V):N6:=match x with
 |.ref p=>match H p with
  |some (.tup Z)=>Z.contains<|.int z
  |_=>NZ
 |_=>NZ
theorem zC(z:ab Int)(l:Int):(z.map V.int).contains (.int l)=z.contains l:=by
 simp
theorem gn(h:CL H k x):dO H z x=k.contains z:=by
 obtain⟨p,rfl,a⟩:=h;unfold dO;simp only[a];exact zC k z
theorem rq:∀{C:ab (ab Int)} {X:ab V},CLs H C X->X.any (dO H z)=C.any λc=>c.contains z
 |_,_,.nil=>rfl
 |k::C,x::X,.cons h t=>by
  rw[Qd,Qd,gn h,rq t]
theorem oH:∀{C:ab (ab Int)} {X:ab V},CLs H C X->CLs H (C.filter λc=>c.contains z) (X.filter<|dO H z)
 |_,_,.nil=>.nil
 |k::C,x::X,.cons h t=>by
  cases g:k.contains z with
  |true=>
   rw[PH (by exact g),PH<|by rwa[gn h]];exact .cons h<|oH t
  |false=>
   rw[PJ (by lia),PJ<|by rw[gn h,g];decide];exact oH t
theorem xH{a:Type}(l:ab a)(f:a->N6):((l.map λx=>V.bl<|f x).all qC)=NU/\(l.map λx=>V.bl<|f x).any g8=l.any f:=by
 refine⟨by rw[R0];exact O0.mpr λz z=>rfl,?_⟩;rw[S8];rfl
theorem place_at{H:Hp}{R:VK}{i k:Nat}{z:Int}(h:i<k)(e:z=(k:Int))(q:R (.bl NU) H):spPlaceP [.int (i:Int),.int z] H R E0:=by
 subst e;exists _,.int _,k,rfl,aX _;rwa[show aU k _=gV i from by
  show(if 0<=(i:Int)/\(i:Int)<(k)then gV _ else N4)=gV i
  simp_all]
theorem beg_at{R:VK}(a:RD H (.tuple<|.str y::r) x)(h:WD y=NU)(e:r.length+1=m)(q:R (.bl NU) H):spBeg [x,.str y,.int (m:Int)] H R E0:=
 ⟨x,_,y,m,rfl,a,by lia,Nice.shaped<|cV 8 h,λd z=>by cases z;exact Nice.shaped<|cV 8 h,by rwa[show OD.formB y m _=NU from by show(decide (r.length+1=m)&&decide _)=NU;rw[Ob e,Ob rfl];rfl]⟩
theorem beg_no{H:Hp}{R:VK}{x:V}{y w:Str}{m:Nat}{r:ab Oe}(h:RD H (.tuple<|.str y::r) x)(a:WD y=NU)(b:WD w=NU)(c:1<=m)(e:y≠w)(q:R (.bl NZ) H):spBeg [x,.str w,.int (m:Int)] H R E0:=
 ⟨x,_,w,m,rfl,h,c,Nice.shaped<|cV 8 b,λd z=>by cases z;exact Nice.shaped<|cV 8 a,by rwa[show OD.formB w m _=NZ from by show(decide _&&decide _)=NZ;rw[N3 e,Qx]]⟩
theorem Hu{H:Hp}{s:Nx}{p:C'}(h:H p=gV (.tup s.zs)):RD H s.d (.ref p):=by
 cases s with
 |unit i=>exact aQ h<|ag (cP _)<|ag (aX _) au
 |drop i=>exact aQ h<|ag (cP _)<|ag (aX _) au
 |pure z=>exact aQ h<|ag (cP _)<|ag (aX _) au
 |within i j=>exact aQ h<|ag (cP _)<|ag (aX _)<|ag (aX _) au
 |blocked i z=>exact aQ h<|ag (cP _)<|ag (aX _)<|ag (aX _) au
inductive rA (vs:ab V)(H:Hp)(Q:VK)(E:XK):Prop
 |mk (p q b:C')(t:Str)(xs:ab V)(c ds:ab (ab Int))(s:Nx)(h0:vs=[.ref p,.ref b])(a:SentAt H p q t xs c)(d:H b=gV (.tup s.zs))(e:Stp t c s ds)(f:∀(l:C') (ys:ab V) (h:Hp),Same H h->H l=N4->h l=gV (.lst ys)->CLs h ds ys->Q (.ref l) h)
inductive iE (vs:ab V)(H:Hp)(Q:VK)(E:XK):Prop
 |mk (p q b:C')(t:Str)(xs:ab V)(c ds:ab (ab Int))(s:Nx)(h0:vs=[.ref p,.ref b])(a:SentAt H p q t xs c)(d:H b=gV (.tup s.zs))(e:Stp t c s ds)(f:∀(r l:C') (ys:ab V) (h:Hp),Same H h->H l=N4->h r=gV (.tup [.str t,.ref l])->h l=gV (.lst ys)->CLs h ds ys->Q (.ref r) h)
theorem C1(F:Fun K "behind_drop" "behind_drop" CQ f y)(T:Bl m)(Ss:Fe P w K m b 2 "is_place" spPlaceP)(Xe:Fe P w K m b 3 "dropped" dR):ao P w K m b aP 4 f y ["sentence","place"] (o9 Nx.drop FY):=by
 refine F.okB (N:=["sentence","place","clauses"]) λQt A o s H vs Q E sc hr h=>?_;obtain⟨p,q,t,x,cs,i,ds,rfl,S,st,z⟩:=h;obtain V|⟨V,j,V⟩:=st
 have B:=S.hcs.length;obtain⟨C,D,U,n⟩:=gk S.hcs j;have ht:=S.ht;have hn:=S.hn;refine⟨_,(ae gg
  (ae gg
  (cr<|cm eK (cm eK (cR eP (pv 2) dA gg) gg)<|cR eP (pv 2) gg dA))),?_⟩
 refine⟨_,rfl,(a_ S.hp rfl ?_)⟩;refine⟨_,rfl,_,rfl,.ref q,_,rfl,.inl ⟨_,SqL.of S.hq,rfl⟩,place_at j (by rw[B]) ⟨_,rfl,ak ?_⟩⟩;refine⟨_,rfl,_,rfl,_,rfl,q,x,rfl,SqL.of S.hq,λL G=>?_⟩;rw[vc];have k:=ad G<|.lst<|x.take i;have r:=@aa H L (.lst<|x.take i);generalize upd H L _=H1 at k r;refine⟨_,rfl,_,rfl,_,rfl,(dM (k _ _ S.hq) (aH D) ⟨p,C,t,_,NZ,_,rfl,k _ _ S.hp,(O6 ht (by decide)),k _ _ U,S.hc _ n,S.hok _ n,λl H2 c I=>⟨(by show 1<=sizeLine;decide),λJ M=>?_⟩⟩)⟩;have a:=ad M<|.lst [.ref l];refine⟨L,J,_,_,rfl,rfl,(c.trans a) _ _ r,aa,OQ<|ai (by grind),λN O=>?_⟩;have d:=ad O<|.lst<|x.take i++[.ref l];refine⟨_,rfl,_,rfl,_,_,rfl,rfl,_,rfl,q,x,rfl,SqL.of<|(k.trans<|c.trans<|a.trans d) _ _ S.hq,λW X=>?_⟩;have Y:eJ x (gV<|(i)+1) N4=x.drop _:=jJ x<|i+1;rw[Y];have e:=ad X<|.lst<|x.drop<|i+1;refine⟨N,W,_,_,rfl,rfl,e _ _ aa,aa,OQ<|ai (by grind),λZ u=>?_⟩;have v:=ad u<|.lst<|x.take i++[.ref l]++x.drop (i+1);have g:=k.trans<|c.trans<|a.trans<|d.trans<|e.trans v;exact z Z _ _ g ((k.trans<|c.trans<|a.trans<|d.trans e).free u) aa<|cF (cF (fE i<|S.hcs.mono g)<|Paired.cons ⟨l,rfl,(a.trans<|d.trans<|e.trans v) _ _ I⟩ .nil)<|fF _<|S.hcs.mono g
theorem C2(F:Fun K "behind_unit" "behind_unit" CT f d)(T:Bl m)(u:Fe P w K m b 2 "is_place" spPlaceP)(L:Fe P w K m b 3 "is_unit" j7)(v:Fe P w K m b 1 "clauses_behind" dq):ao P w K m b aP 4 f d ["sentence","place"] (o9 Nx.unit FY):=by
 refine F.okB (N:=["sentence","place","clauses"]) λy A o s H B Q E D G h=>?_;obtain⟨p,q,t,X,C,i,I,rfl,S,st,e⟩:=h;obtain⟨Z,a,z,g,O⟩:=st;have j:=S.hcs.length;obtain⟨l,x,U,n⟩:=gk S.hcs a;have J:=S.ht;have M:=S.hn;have r:=S.hc;have k:=S.hok _ n;rw[g]at U k;exists _,gg;refine⟨_,rfl,(a_ S.hp rfl (⟨_,rfl,_,rfl,.ref q,_,rfl,.inl ⟨_,SqL.of S.hq,rfl⟩,place_at a (by rw[j]) ⟨_,rfl,ak (⟨_,rfl,_,rfl,_,rfl,(dM S.hq (aH x) ⟨p,l,t,_,_,rfl,S.hp,(O6 J (by decide)),U,k,_,rfl,?_⟩)⟩)⟩⟩))⟩;rw[show unitB t [z]=NU from O];exact ak ⟨_,rfl,_,rfl,_,rfl,(dM S.hq (aH x)<|a_ U rfl ⟨q,z,X,C,rfl,S.hq,S.hcs,(O6 M (by decide)),(λc h=>by have:=r c h;lia),e⟩)⟩
theorem C3(F:Fun K "behind_within" "behind_within" CV f v)(T:Bl m)(Z:Fe P w K m b 2 "is_place" spPlaceP)(y:Fe P w K m b 1 "holds_all" mD):ao P w K m b aP 3 f v ["sentence","place","within"] (o9 (λx:Nat×Nat=>Nx.within x.1 x.2) L_):=by
 refine F.okB (N:=["sentence","place","within","clauses"]) λQt A o s H vs Q E sc hr h=>?_;obtain⟨p,q,t,X,cs,⟨i,j⟩,ds,rfl,S,st,z⟩:=h;obtain R|R|R|⟨R,R,e,l,n,B⟩:=st
 have r:=S.hcs.length;have hn:=S.hn;obtain⟨C,D,U,hm⟩:=gk S.hcs e;obtain⟨G,I,d,J⟩:=gk S.hcs l;refine⟨_,(ae gg
  (ae gg
  (ae gg
  (cr<|cm eK (cR eP (pv 3) dA gg)<|cR eP (pv 3) gg dA)))),?_⟩
 refine⟨_,rfl,(a_ S.hp rfl ?_)⟩;refine⟨_,rfl,_,rfl,.ref q,_,rfl,.inl ⟨_,SqL.of S.hq,rfl⟩,place_at e (by rw[r]) ⟨_,rfl,ak ⟨_,rfl,_,rfl,.ref q,_,rfl,.inl ⟨_,SqL.of S.hq,rfl⟩,place_at l (by rw[r]) ⟨_,rfl,ak ⟨_,rfl,_,rfl,.inl ⟨rfl,_,rfl,?_⟩⟩⟩⟩⟩⟩;refine fA (λg=>absurd (Q1<|V.int.inj<|Oo g) n) λR=>⟨_,rfl,_,rfl,(dM S.hq (aH D) ⟨_,rfl,_,rfl,(dM S.hq (aH I) ⟨C,G,_,_,rfl,U,d,_,rfl,?_⟩)⟩)⟩;rw[B];refine ak<|⟨_,rfl,_,rfl,_,rfl,q,X,rfl,SqL.of S.hq,λL M=>?_⟩;rw[vc];have k:=ad M<|.lst<|X.take i;refine⟨_,rfl,_,rfl,_,_,rfl,rfl,_,rfl,q,X,rfl,SqL.of<|k _ _ S.hq,λN O=>?_⟩;have W:eJ X (gV<|(i)+1) N4=X.drop _:=jJ X<|i+1;rw[W];have a:=ad O<|.lst<|X.drop<|i+1;refine⟨L,N,_,_,rfl,rfl,a _ _ aa,aa,OQ (ai<|by grind),λY u=>?_⟩;have c:=k.trans<|a.trans<|ad u<|.lst<|X.take i++X.drop (i+1);exact z Y _ _ c ((k.trans a).free u) aa<|cF (fE i<|S.hcs.mono c)<|fF _<|S.hcs.mono c
theorem C4(F:Fun K "behind_pure" "behind_pure" CU f fd)(T:Bl M)(TM:Fe P w K M b 1 "is_number" spNumP)(X5:Fe P w K M b 2 "is_of" iD)(Q2:Fe P w K M b 1 "clauses_behind" dq):ao P w K M b aP 3 f fd ["sentence","literal"] (o9 Nx.pure L9):=by
 refine F.okB (N:=["sentence","literal","clauses"]) λQt A O s H vs Q E sc hr h=>?_;obtain⟨p,q,t,X,L,z,ds,rfl,S,st,o⟩:=h;obtain _|_|⟨_,W,g2⟩:=st
 have PF:=S.hcs.length;have hn:=S.hn;have Z:=S.hc;have ht:=S.ht;refine⟨_,(ae gg
  (ae (aO (PW.pt<|pd gg<|mH<|gD<|du<|aR (ie rfl) rfl T.any RJ<|gY<|jR ["clause","literal"] [N4,gV 1] (aT<|pv 2) (e:=λ_ _ _ _=>(iI (ff (K:=K) rfl) (pv 1) (pv 0)<|by rfl))) (cr fN) ay)
  (ae (aO (du<|aR (ie rfl) rfl T.any RJ<|gY<|jR ["clause","literal"] [N4,gV 1] (aT<|pv 2) (e:=λ_ _ _ _=>(iI (ff (K:=K) rfl) gg (pv 0)<|by rfl))) (cr fN) ay)
  gg))),?_⟩
 refine⟨_,rfl,(a_ S.hp rfl ?_)⟩;exists _,rfl,_,.int z,rfl,aX z,_,rfl;refine ak ⟨_,rfl,q,rfl,⟨_,SqL.of S.hq⟩,λD hD=>?_⟩;refine cE [gV<|.int z] (λ_=>NU) (λx=>.bl<|dO H z x) rfl S.hq hD (by lia) ?_ ?_ ?_
 ·intro x d e R k r;exact r
 ·intro x d _ e R k r;obtain⟨i,u⟩:=Qr.mp d;obtain⟨g,_,U⟩:=S.hcs.get u;rw[gn U]at r;obtain⟨v,rfl,y⟩:=U;exists _,rfl,_,rfl,v,_,rfl,.inr<|SqT.of<|k _ _ y,rfl,dX g;show R (.bl<|jg (.int z)<|g.map V.int) e
  rw[bq];exact r
 have ef:(X.filter λ_=>NU)=X:=Qg.mpr λ_ _=>rfl;rw[ef];have ea:=xH X<|dO H z;have j:=ad hD<|.lst<|X.map λx=>.bl<|dO H z x;have r1:=@aa H D (.lst<|X.map λx=>.bl<|dO H z x);generalize upd H D (.lst<|X.map λx=>.bl<|dO H z x)=H1 at j r1;exists D,_,rfl,SqL.of r1,ea.1,_,rfl;rw[ea.2,rq S.hcs];rw[W];refine ak ⟨_,rfl,q,rfl,⟨_,SqL.of<|j _ _ S.hq⟩,λB m=>?_⟩;refine cE [gV<|.int z] (λ_=>NU) (λx=>.bl<|dO H (-z) x) rfl (j _ _ S.hq) m (by lia) ?_ ?_ ?_
 ·intro x d e R k r;exact r
 ·intro x d _ e R k r;obtain⟨i,u⟩:=Qr.mp d;obtain⟨g,_,U⟩:=S.hcs.get u;rw[gn U]at r;obtain⟨v,rfl,y⟩:=U;exists _,rfl,_,rfl,_,rfl,v,_,rfl,.inr<|SqT.of<|k _ _<|j _ _ y,rfl,dX g;show R (.bl<|jg (.int (-z))<|g.map V.int) e
  rw[bq];exact r
 rw[ef];have n:=xH X<|dO H (-z);have k2:=ad m<|.lst<|X.map λx=>.bl<|dO H (-z) x;have r2:=@aa H1 B (.lst<|X.map λx=>.bl<|dO H (-z) x);generalize upd H1 B (.lst<|X.map λx=>.bl<|dO H _ x)=H2 at k2 r2;exists B,_,rfl,SqL.of r2,n.1,_,rfl;rw[n.2,rq S.hcs];have a:=j.trans k2;rw[g2];obtain⟨c0,C,G⟩:=OR.mp W;have hz:=S.hok c0 C z<|N'.mp G;refine ak ⟨_,rfl,_,rfl,_,rfl,p,t,_,z,NU,rfl,a _ _ S.hp,(O6 ht (by decide)),hz.1,hz.2,_,rfl,?_⟩;cases g3:ownW t z with
 |true=>
  rw[g3]at o;exact aq ⟨_,rfl,q,z,X,L,rfl,a _ _ S.hq,S.hcs.mono a,(O6 hn (by decide)),(λc h=>by have:=Z c h;lia),λl Y I J N=>o l Y I (a.trans J)<|a.free N⟩
 |false=>
  rw[g3]at o;exact ak ⟨_,rfl,_,rfl,q,-z,X,L,rfl,a _ _ S.hq,S.hcs.mono a,(O6 hn (by decide)),(λc h=>by have:=Z c h;lia),λl Y I J N=>o l Y I (a.trans J)<|a.free N⟩
theorem JV(F:Fun K "behind_blocked" "behind_blocked" L8 f O)(T:Bl m)(Ss:Fe P w K m b 2 "is_place" spPlaceP)(TM:Fe P w K m b 1 "is_number" spNumP)(X5:Fe P w K m b 2 "is_of" iD)(W:Fe P w K m b 2 "is_blocked" rn):ao P w K m b aP 3 f O ["sentence","place","literal"] (o9 (λx:Nat×Int=>Nx.blocked x.1 x.2) Ma):=by
 refine F.okB (N:=["sentence","place","literal","clauses","opposed"]) λQt A o s H vs Q E sc hr h=>?_;obtain⟨p,q,t,X,C,⟨i,z⟩,ds,rfl,S,st,Y⟩:=h;obtain _|_|_|_|⟨_,_,g,c,Z,g3⟩:=st
 have PF:=S.hcs.length;have hn:=S.hn;have ht:=S.ht;obtain⟨y,d,U,hm⟩:=gk S.hcs g;refine⟨_,(ae gg
  (ae gg
  (ae (GY 4 ["clause","literal"] [N4,gV 2] (aT<|pv 3) (t:=λ_ _ _ _=>(eR<|eO (ff (K:=K) rfl) gg (pv 0)<|by rfl)))
  (ae gg
  (cr<|cm eK (cR eP (pv 3) dA gg)<|cR eP (pv 3) gg dA))))),?_⟩
 refine⟨_,rfl,(a_ S.hp rfl ?_)⟩;refine⟨_,rfl,_,rfl,.ref q,_,rfl,.inl ⟨_,SqL.of S.hq,rfl⟩,place_at g (by rw[PF]) ⟨_,rfl,ak ⟨_,rfl,_,.int z,rfl,aX z,_,rfl,?_⟩⟩⟩;have e:(if NU=NU then !jg (.int z) ((C.getD i []).map V.int)else jg (.int z) ((C.getD i []).map V.int))=!(C.getD i []).contains z:=by
  rw[Oi rfl,bq]
 refine ak ⟨_,rfl,_,rfl,_,rfl,(dM S.hq (aH d) ⟨y,_,rfl,.inr<|SqT.of U,rfl,dX _,_,rfl,?_⟩)⟩;rw[e];rw[N'.mpr c];have B:=S.hok _ hm z c;refine ak ⟨_,rfl,q,rfl,⟨_,SqL.of S.hq⟩,λD G=>?_⟩;refine cE [gV<|.int z] (dO H (-z)) (λx=>x) rfl S.hq G (by lia) ?_ ?_ ?_
 ·intro x d I R k r;obtain⟨i,g⟩:=Qr.mp d;obtain⟨J,_,L⟩:=S.hcs.get g;rw[gn L]at r;obtain⟨td,rfl,j⟩:=L;exists _,rfl,_,rfl,_,rfl,td,_,rfl,.inr<|SqT.of<|k _ _ j,rfl,dX J,_,rfl;show R (jg (.int (-z))<|J.map V.int) I
  rw[bq];exact r
 ·intro x d _ I R k r;exact⟨_,rfl,r⟩
 rw[Vm];have a:=ad G<|.lst<|X.filter<|dO H (-z);have M:=@aa H D (.lst<|X.filter<|dO H (-z));generalize upd H D (.lst<|X.filter<|dO H (-z))=H1 at a M;have l:=(oH (z:=-z) S.hcs).mono a;exists _,rfl,_,rfl,p,t,_,z,NU,rfl,a _ _ S.hp,(by lia),B.1,B.2,_,rfl;rw[Z];refine ak ⟨_,rfl,_,rfl,(dM (a _ _ S.hq) (aH d) ⟨_,rfl,_,rfl,y,D,_,z,_,_,rfl,a _ _ U,M,l,_,rfl,?_⟩)⟩;rw[g3];refine ak ?_;refine⟨_,rfl,_,rfl,_,rfl,q,X,rfl,SqL.of<|a _ _ S.hq,λl1 q1=>?_⟩;rw[vc];have n:=ad q1<|.lst<|X.take i;refine⟨_,rfl,_,rfl,_,_,rfl,rfl,_,rfl,q,X,rfl,SqL.of<|(a.trans n) _ _ S.hq,λl5 q5=>?_⟩;have ec:eJ X (gV<|(i)+1) N4=X.drop _:=jJ X<|i+1;rw[ec];have u:=ad q5<|.lst<|X.drop<|i+1;refine⟨l1,l5,_,_,rfl,rfl,u _ _ aa,aa,OQ (ai<|by grind),λl6 N=>?_⟩;have v:=a.trans<|n.trans<|u.trans<|ad N<|.lst<|X.take i++X.drop (i+1);exact Y l6 _ _ v ((a.trans<|n.trans u).free N) aa<|cF (fE i<|S.hcs.mono v)<|fF _<|S.hcs.mono v
theorem C5(F:Fun K "clauses_after" "clauses_after" CY f g)(v:Fe P w K m B 1 "begins_with" spBeg)(k:Fe P w K m B 4 "behind_drop" (o9 Nx.drop FY))(l:Fe P w K m B 4 "behind_unit" (o9 Nx.unit FY))(n:Fe P w K m B 3 "behind_pure" (o9 Nx.pure L9))(r:Fe P w K m B 3 "behind_within" (o9 (λx:Nat×Nat=>Nx.within x.1 x.2) L_))(u:Fe P w K m B 3 "behind_blocked" (o9 (λx:Nat×Int=>Nx.blocked x.1 x.2) Ma)):ao P w K m B aP 5 f g ["sentence","step"] rA:=by
 refine F.okB (N:=["sentence","step"]) λy A o s H C Q E G I h=>?_;obtain⟨p,q,b,t,X,c,D,s,rfl,S,a,st,e⟩:=h;have d:=Hu a;exists _,gg;cases s<;>(try refine⟨_,rfl,beg_no (m:=2) d (by decide+kernel) (by decide+kernel) (by simp) (by decide+kernel) ⟨_,rfl,ak ?_⟩⟩)<;>(try refine⟨_,rfl,beg_no (m:=2) d (by decide+kernel) (by decide+kernel) (by decide) (by decide+kernel) ⟨_,rfl,ak ?_⟩⟩)<;>(try refine⟨_,rfl,beg_no (m:=2) d (by decide+kernel) (by decide+kernel) (by decide) (by decide+kernel) ⟨_,rfl,ak ?_⟩⟩)<;>(try refine⟨_,rfl,beg_no (m:=3) d (by decide+kernel) (by decide+kernel) (by decide) (by decide+kernel) ⟨_,rfl,ak ?_⟩⟩)
 ·exact⟨_,rfl,beg_at (m:=2) d (by decide+kernel) rfl ⟨_,rfl,aq ⟨_,rfl,_,rfl,(a_ a rfl ⟨p,q,t,X,c,_,D,rfl,S,st,e⟩)⟩⟩⟩
 ·exact⟨_,rfl,beg_at (m:=2) d (by decide+kernel) rfl ⟨_,rfl,aq ⟨_,rfl,_,rfl,(a_ a rfl ⟨p,q,t,X,c,_,D,rfl,S,st,e⟩)⟩⟩⟩
 ·exact⟨_,rfl,beg_at (m:=2) d (by decide+kernel) rfl ⟨_,rfl,aq ⟨_,rfl,_,rfl,(a_ a rfl ⟨p,q,t,X,c,_,D,rfl,S,st,e⟩)⟩⟩⟩
 ·rename_i i j;exact⟨_,rfl,beg_at (m:=3) d (by decide+kernel) rfl ⟨_,rfl,aq ⟨_,rfl,_,rfl,(a_ a rfl ⟨_,rfl,(a_ a rfl ⟨p,q,t,X,c,(i,j),D,rfl,S,st,e⟩)⟩)⟩⟩⟩
 rename_i i z;exact⟨_,rfl,beg_at (m:=3) d (by decide+kernel) rfl ⟨_,rfl,aq ⟨_,rfl,_,rfl,(a_ a rfl ⟨_,rfl,(a_ a rfl ⟨p,q,t,X,c,(i,z),D,rfl,S,st,e⟩)⟩)⟩⟩⟩
theorem zE(F:Fun K "smaller_by" "smaller_by" C0 f d)(O:Fe P w K m B 5 "clauses_after" rA):ao P w K m B aP 6 f d ["sentence","step"] iE:=by
 refine F.okB (N:=["sentence","step","clauses"]) λu A o s H v Q E C G h=>?_;obtain⟨p,q,b,t,x,c,D,s,rfl,S,e,st,g⟩:=h;refine⟨_,(ae gg
  (ae (aO gg (ap d_) ay)
  gg)),?_⟩
 refine⟨_,rfl,_,rfl,p,q,b,t,x,c,D,s,rfl,S,e,st,λl y I a n i j=>?_⟩;exists _,rfl,rfl,_,rfl;refine ak ⟨_,rfl,(a_ (a _ _ S.hp) rfl ⟨_,rfl,(by show 2<=sizeLine;decide),λr Y=>?_⟩)⟩;have k:=ad Y<|.tup [.str t,.ref l];exact g r l y _ (a.trans k) n aa (k _ _ i)<|j.mono k
noncomputable abbrev xI:Pk:=top 21
theorem zF(F:Fun K "clauses_behind" "clauses_behind" xI f fd)(T:Bl mg):ao P w K mg ac aP 1 f fd ["clauses","literal"] dq:=by
 refine F.okB (N:=["clauses","literal","left","clause"]) λQC A O s H vs Q E sc hr h=>?_;obtain⟨p,l,xs,C,rfl,hp,n,hn,M,q⟩:=h;refine⟨_,(ae gg
  (ae (fS 3 (aT<|pv 0)<|ap<|aO gg (ap<|cB<|fC Pe PX Qb cK (pv 2)<|gY<|bv bO rfl T.tuple P1<|gY<|jR ["other","literal"] [N4,gV 1]<|bQ<|pv 3) ay)
  (cr<|pv 2))),?_⟩
 refine⟨Ou _,λL a=>?_⟩;have N:upd H L (.lst []) p=gV _:=(ad a _) _ _ hp;refine⟨_,rfl,p,rfl,⟨_,SqL.of N⟩,dy (K:=K) (X:=xs)
  (λi B b=>∃U,B=[gV<|.ref p,gV<|.int l,gV<|.ref L,U]/\∃y,b L=gV (.lst y)/\CLs b (behind l<|C.take i) y/\Same H b)
  ⟨N4,rfl,[],aa,.nil,ad a _⟩ ?_ ?_ ?_⟩
 ·rintro i B b S ⟨S,S,S,S,S,g⟩;exact SqL.of<|g _ _ hp
 ·rintro i x B b I ⟨U,rfl,y,G,m,g⟩;obtain⟨c,hc,t,rfl,ht⟩:=n.get I;have j:=g _ _ ht;have Xy:=N7 hc;have e:C.take (i+1)=C.take i++[c]:=by rw[OM,hc];rfl
  have am:y.length<=900:=by
   rw[<-m.length];refine O6 (R5 _ _) ?_;rw[OC];exact O6 (UN _ _) hn
  exists _,rfl,_,rfl,t,c.map _,rfl,.inr<|SqT.of j,rfl,bC c,_,rfl;rw[bq];cases gc:c.contains l with
  |false=>
   refine aq ⟨_,rfl,.inl ⟨rfl,_,SqL.of G⟩,_,rfl,t,rfl,⟨_,SqT.of j⟩,λD W=>cz [gV<|.int l] (λx=>!decide (x=.int (-l))) (λx=>x) rfl j W (by rw[J'];have:=M c Xy;lia) ?_ ?_ ?_⟩
   ·intro x I H' R k r;obtain⟨z,S,rfl⟩:=cX I;exact⟨_,rfl,_,rfl,_,rfl,.inl ⟨rfl,_,rfl,r⟩⟩
   ·intro x I S H' R k r;exact⟨_,rfl,r⟩
   ·rw[dh c (λo=>!decide (o=-l)) _ λi=>by simp];refine⟨D,_,rfl,.inl ⟨SqL.of aa,λX u=>?_⟩⟩;have Y:=ah G W;have Yc:upd b D (.lst<|(c.filter λo=>!decide (o=-l)).map V.int) L=gV (.lst y):=by rwa[af Y]
    have Z:=ad W<|.lst<|(c.filter λo=>!decide (o=-l)).map V.int;generalize upd b D (.lst<|(c.filter _).map _)=H3 at Yc u Z;have J:=ad u<|.tup<|(c.filter λo=>!decide (o=-l)).map V.int;have d:=J _ _ Yc;have v:=CB J;generalize upd H3 X _=H4 at d v J;refine⟨L,y,_,rfl,rfl,d,ai (by lia),_,rfl,_,aa,?_,(g.trans<|Z.trans J).upd_new a _⟩;rw[e];unfold behind;rw[W'];have eb:vu (dC l) [c]=[c.filter λo=>!decide (o=-l)]:=by
     rw[Q0];unfold dC;rw[gc];rfl
    rw[eb];exact CLs.snoc (CL.upd ⟨X,rfl,v⟩ d)<|(m.mono<|Z.trans J).upd d
  |true=>
   refine ak ⟨_,rfl,y,G,?_,g⟩;rw[e];unfold behind;rw[W'];have eb:vu (dC l) [c]=[]:=by
    rw[Q0];unfold dC;rw[gc];rfl
   rwa[eb,Pd]
 rintro B b ⟨U,rfl,y,G,m,g⟩;rw[Od<|by rw[n.length];exact N1 _]at m;exact⟨_,rfl,q L y b g a G m⟩
theorem qj(l:Int)(C:ab (ab Int)):behind l C=(C.filter λc=>!c.contains l).map λc=>c.filter λx=>!decide (x=-l):=by
 unfold behind
 induction C with
 |nil=>rfl
 |cons c r i=>
  cases g:c.contains l with
  |true=>
   rwa[List.filterMap_cons_none (by unfold dC;rw[Oi g]),PJ<|by lia]
  |false=>
   rw[List.filterMap_cons_some (by unfold dC;rw[Oh<|by lia]),PH (by rw[g];rfl),OH,i]
theorem lq{c:ab (ab Int)}{i:Nat}(h:i<c.length):c.getD i []∈c:=by
 simp_all
theorem Stp.from(h:Stp t C s d):d.length<=C.length/\∀c∈d,∃k∈C,∃p,c=k.filter p:=by
 have same:∀k:ab Int,∃p,k=k.filter p:=λk=>⟨λy=>NU,(Qg.mpr λy y=>rfl).symm⟩;have w:∀{i:Nat},i<C.length->(gU C i).length<=C.length/\∀c∈gU C i,∃k∈C,∃p,c=k.filter p:=λ{i} a=>⟨by
  unfold gU;grind,λc H=>⟨c,Bu H,same c⟩⟩
 have b:∀z,(behind z C).length<=C.length/\∀c∈behind z C,∃k∈C,∃p,c=k.filter p:=λz=>⟨R5 _ _,λc H=>by
  obtain⟨k,f,y,e⟩:=fx.mp H;exact⟨k,f,_,e⟩⟩
 cases h with
 |unit i a z=>exact b z
 |drop i a=>
  refine⟨by rw[NX,NX,OC,P7];show _+1+_<=_;lia,λc H=>?_⟩;obtain H|H:=OB.mp H
  ·obtain H|H:=OB.mp H
   ·exact⟨c,QQ H,same c⟩
   rw[N9.mp H];exact⟨_,lq a,_,rfl⟩
  ·exact⟨c,SO H,same c⟩
 |pure z=>exact b _
 |within i j a=>exact w a
 |blocked i z a=>exact w a
structure Few (t:Str)(cs:ab (ab Int)):Prop where
 ws:WS t
 t8:t.length<=9
 many:cs.length<=16
 ok:∀c∈cs,ar t.length c
 c4:∀c∈cs,c.length<=4
theorem Few.after(F:Few t C)(h:Stp t C s D):Few t D:=by
 obtain⟨a,b⟩:=h.from;refine⟨F.ws,F.t8,O6 a F.many,λc d=>?_,λc d=>?_⟩
 ·obtain⟨k,H,p,rfl⟩:=b c d;exact⟨(F.ok k H).1.sublist<|(Te).map _,λl e=>(F.ok k H).2 l (Oq.mp e).1⟩
 obtain⟨k,H,p,rfl⟩:=b c d;exact O6 (Ph _ _)<|F.c4 k H
theorem Few.lits(F:Few t C):∀c∈C,vJ t.length c:=λc h=>(F.ok c h).2
theorem eZ(c:ab Int)(C:ab (ab Int)):cJ (c::C)=1+c.length+cJ C:=by
 unfold cJ;simp only[Os,OH,abm];lia
theorem j8(a b:ab (ab Int)):cJ (a++b)=cJ a+cJ b:=by
 unfold cJ;simp only[NX,Oy,List.sum_append];lia
theorem oI(h:i<c.length):cJ c=cJ (c.take i)+(1+(c.getD i []).length+cJ (c.drop<|i+1)):=by
 have e:c=c.take i++(c.getD i []::c.drop (i+1)):=by
  simp_all
 have E:=OY cJ e;rwa[j8,eZ]at E
theorem j9(h:i<c.length):cJ (gU c i)<cJ c:=by
 have:=oI h;unfold gU;rw[j8];lia
theorem iG(z:Int):∀C,cJ (behind z C)<=cJ C/\((∃c∈C,z∈c\/ -z∈c)->cJ (behind z C)<cJ C)
 |[]=>⟨N1 _,λ⟨_,h,_⟩=>nomatch h⟩
 |c::r=>by
  obtain⟨f,d⟩:=iG z r;by_cases H:c.contains z=NU
  ·have e:behind z (c::r)=behind z r:=by
    unfold behind;rw[Q0];unfold dC;rw[Oi H]
   rw[e,eZ];exact⟨Nat.le_add_left_of_le f,λy=>by lia⟩
  have e:behind z (c::r)=(c.filter λx=>!decide (x=-z))::behind z r:=by
   have:=qj z<|c::r;rw[this,qj,PH<|by simpa using H];rfl
  rw[e,eZ,eZ];have g:=Ph (λx=>!decide (x=-z)) c;refine⟨by lia,λ⟨k,a,b⟩=>?_⟩;obtain rfl|a:=Oz.mp a
  ·have T:(k.filter λx=>!decide (x=-z)).length<k.length:=(by simp_all);omega
  have:=d ⟨k,a,b⟩;omega
theorem zG(u:Ups c)(H:c.getLast?=gV z)(a:y∈c):absI y<absI z\/y=z:=by
 obtain⟨r,rfl⟩:=List.getLast?_eq_some_iff.mp H;unfold Ups at u;rw[Oy,P_]at u;obtain h|h:=OB.mp a
 ·exact .inl (u.2.2 _ (P4 h) _<|by simp)
 exact .inr<|N9.mp h
theorem zH(h:ar n c)(H:lastS t c=NU):(aG t NZ c).length<c.length:=by
 unfold lastS at H;cases f:c.getLast? with
 |none=>simp_all
 |some z=>
  rw[f]at H;have d:=UX f;refine SG.mpr ⟨z,d,λg=>?_⟩;have g:=Oo g;have m:=(h.2 z d).1;unfold ik at g;obtain e|e:=(f_ ((c.filter λl=>!(bJ t (absI l-1).toNat == NZ)).map absI) 0).2
  ·omega
  obtain⟨y,k,E⟩:=OT.mp e;obtain⟨i,o⟩:=Oq.mp k;obtain q|q:=zG h.1 f i
  ·omega
  have j:(!bJ t _)=true:=H;lia
theorem Stp.size(F:Few t C)(h:Stp t C s d):cJ d<cJ C:=by
 cases h with
 |unit i H z e=>exact(iG _ C).2 ⟨C.getD i [],lq H,.inl<|by rw[e];exact Om⟩
 |drop i H l=>
  have:=zH (F.ok _<|lq H) l;rw[j8,j8,oI H,eZ];show _+(1+_+0)+_<_
  lia
 |pure z h=>
  obtain⟨c,a,m⟩:=OR.mp h;refine(iG _ C).2 ⟨c,a,?_⟩;have m:=N'.mp m
  split
  ·exact .inl m
  ·exact .inr (by simp_all)
 |within i j H=>exact j9 H
 |blocked i z H=>exact j9 H
noncomputable def eU(k:ab Int)(z:Int):ab Int:=if k.contains z=NU then k else k++[z]
noncomputable def fP(c:ab (ab Int)):ab Int:=c.flatten.foldl eU []
theorem j_:∀(Z k:ab Int),x∈Z.foldl eU k↔x∈k\/x∈Z
 |[],k=>by simp
 |z::r,k=>by
  rw[Q4,j_ r];have h:x∈eU k z↔x∈k\/x=z:=by
   unfold eU
   split
   ·simp_all
   simp
  rw[h,Oz,or_assoc]
theorem gh:x∈fP C↔∃c∈C,x∈c:=by
 unfold fP;rw[j_];simp
noncomputable def be(c:ab (ab Int))(z:Int):ab Nat:=(O1 c.length).filter λi=>(c.getD i []).contains z
noncomputable def oJ(C:ab (ab Int))(c:ab Int):ab Nat:=if c=[]then O1 C.length else(c.map<|be C).getD (Fi<|(c.map<|be C).map P3) []
theorem f':i∈be c z↔i<c.length/\z∈c.getD i []:=by
 unfold be;rw[Oq,Qh,N']
theorem JW(h:i∈oJ C c):i<C.length:=by
 unfold oJ at h
 split at h
 ·simp_all
 have n:(c.map<|be C).map P3≠[]:=by simp_all
 have H:=(Fj n).1;rw[J']at H;rw[A',K' H,ZD]at h;exact(f'.mp h).1
noncomputable abbrev xJ:Pk:=top 90
structure zI (mg:Str->NW M'):Prop where
 abs:mg "abs"=N4
 len:mg "len"=N4
 enumerate:mg "enumerate"=N4
 min:mg "min"=N4
 list:mg "list"=N4
 range:mg "range"=N4
 g_WISHER:jI mg "WISHER" (.str<|NV "wisher")
 g_SPOILER:jI mg "SPOILER" (.str<|NV "spoiler")
def No(t:Str)(C:ab (ab Int)):Prop:=∀c∈C,unitB t c=NZ
def Np(H:Hp)(t:Str)(c:ab (ab Int))(s:Nx)(v:V):Prop:=∃(d:ab (ab Int)) (b:C'),v=.ref b/\H b=gV (.tup s.zs)/\Stp t c s d
def RO(H:Hp)(t:Str)(c:ab (ab Int))(v:V):Prop:=v=.non\/∃s,Np H t c s v
def RN(H:Hp)(t:Str)(c:ab (ab Int))(v:V):Prop:=(v=.non/\No t c)\/∃s,Np H t c s v/\(No t c\/(∃i,s=.unit i)\/∃i,s=.drop i)
inductive oK (vs:ab V)(H:Hp)(Q:VK)(E:XK):Prop
 |mk (p q:C')(t:Str)(xs:ab V)(C:ab (ab Int))(h0:vs=[.ref p])(a:SentAt H p q t xs C)(u:∀c∈C,Ups c)(b:∀v h,Same H h->RN h t C v->Q v h)
theorem SentAt.mono(h:SentAt H p q t x c)(k:Same H a):SentAt a p q t x c:=⟨k _ _ h.hp,k _ _ h.hq,h.hcs.mono k,h.ht,h.hn,h.hok,h.hc⟩
inductive xK (p:C')(t:Str)(c:ab (ab Int))(H:Hp)(i:Nat)(a:St)(h:Hp):Prop
 |mk (v b:NW V)(h0:a=[gV<|.ref p,v,b])(d:Same H h)(e:∀j,j<i->unitB t (c.getD j [])=NZ)
theorem FZ{c:ab Int}{z:Int}(h:c.getLast?=gV z):iU (c.map V.int) (-1)=gV (.int z):=by
 have W:c≠[]:=λe=>by simp_all
 have H:=Tc.mpr W;unfold iU Ec;rw[Oh (by decide),Oi (by rw[J'];lia)];rw[Ta]at h;have e:(-1+((c.length):Int)).toNat=c.length-1:=by lia
 simp_all
theorem zJ(F:Fun K "next_short" "next_short" xJ f fd)(T:zI N)(am:Fe P w K N b 3 "is_unit" j7)(X5:Fe P w K N b 2 "is_of" iD):ao P w K N b aP 4 f fd ["sentence"] oK:=by
 refine F.okB (N:=["sentence","place","clause"]) λQt A O s H vs Q E sc hr h=>?_;obtain⟨p,q,t,xs,C,rfl,S,hu,q'⟩:=h;have PF:=S.hcs.length;refine⟨_,(ae (dP Pt rfl (jH rfl T.enumerate gg) gg
   (ae gg
   (ap<|aO (PW.pt<|qu (fU (pv 2) λg=>rfl)<|qt<|du<|rY X5 hr<|aD (pv 0)<|g_ gg<|bK rfl T.g_SPOILER) gg ay)))
  (cr fN)),?_⟩
 refine⟨_,rfl,(a_ S.hp rfl ⟨q,rfl,⟨_,SqL.of S.hq⟩,?_⟩)⟩;refine eA (K:=K) (a:=q) (X:=xs) (xK p t C H) ⟨N4,N4,rfl,Same.refl _,λg h=>by simp_all⟩ ?_ ?_ ?_
 ·rintro i σ m g ⟨v1,v2,rfl,n,g⟩;exact SqL.of<|n _ _ S.hq
 ·rintro i x σ m L hx ⟨v1,v2,rfl,n,U⟩ W;have k3:=ad W<|.tup [.int (i:Int),x];have d:=n.trans k3;have X:i<C.length:=by
   have:=(NT.mp hx).1;simp_all
  obtain⟨o,u,SU,hm⟩:=gk S.hcs X;rw[hx]at u;cases u;have Z:=S.mono d;have a:jw (upd m L<|.tup [.int (i:Int),.ref o]) o (C.getD i []):=d _ _ SU;have v:=@aa m L (.tup [.int (i:Int),.ref o]);generalize upd m L (.tup [.int (i:Int),.ref o])=G1 at d Z a v ⊢;have an:=S.ht;have l:=S.hok _ hm;have ac:=S.hc _ hm;have y:unitB t (C.getD i [])=NZ->∀j,j<i+1->unitB t (C.getD j [])=false:=λe j hj=>by
   grind
  have B:∀s ds r Y,Stp t C s ds->((∃i,s=.unit i)\/∃i,s=.drop i)->Q (.ref r) (upd G1 r<|.tup s.zs):=λs ds r Y st k=>q' _ _ (d.trans<|ad Y _)<|.inr ⟨s,⟨ds,r,rfl,aa,st⟩,.inr k⟩;generalize D:C.getD i []=c at a l ac y;exists L,_,rfl,SqT.of v,rfl,_,_,rfl,_,_,rfl,rfl;exists _,rfl,_,rfl,p,o,t,.ref q,c,rfl,Z.hp,(by lia),a,l,_,rfl;cases G:unitB t c with
  |true=>
   obtain⟨z,ez⟩:∃z,c=[z]:=by
    match c,G with
    |[z],_=>lia
   rw[ez]at G D;exact aq ⟨_,rfl,(by show 2<=sizeLine;decide),λr Y=>B (.unit i) _ r Y (.unit i X z D G)<|.inl ⟨i,rfl⟩⟩
  |false=>
   refine ak ?_;cases M:c.getLast? with
   |none=>
    have e0:=List.getLast?_eq_none_iff.mp M;subst e0;exists _,rfl,NZ,.inr<|.inl ⟨_,SqT.of a,rfl⟩;exact ak<|ak ⟨_,_,rfl,d,y G⟩
   |some z=>
    have I:=UX M;have J:=l z I;refine⟨_,rfl,NU,.inr<|.inl ⟨_,SqT.of a,?_⟩,?_⟩
    ·cases c with
     |nil=>grind
     |cons x r=>rfl
    refine aq ⟨_,rfl,_,rfl,_,rfl,(a_ a (FZ M) ⟨p,t,.ref q,z,NZ,rfl,Z.hp,(by lia),J.1,J.2,_,rfl,?_⟩)⟩;cases eo:ownW t z with
    |false=>
     exact aq ⟨_,rfl,(by show 2<=sizeLine;decide),λr Y=>B _ _ r Y (.drop i X (by unfold lastS;rw[D,M];lia))<|.inr ⟨i,rfl⟩⟩
    |true=>
     exact ak ⟨_,_,rfl,d,y G⟩
 rintro σ m ⟨v1,v2,rfl,n,U⟩;refine q' _ _ n<|.inl ⟨rfl,λc D=>?_⟩;obtain⟨j,hj,rfl⟩:=Rq D;have:=U j (Pb hj (Ui PF))
 rwa [A',K' hj]at this
noncomputable abbrev C6:Pk:=top 91
noncomputable abbrev ft(n:ab Nat):ab V:=n.map λi:Nat=>V.int (i:Int)
structure HoldAt (H:Hp)(a:C')(kvs:ab (aK×V))(ks:ab Int)(pl:Int->ab Nat):Prop where
 ha:H a=gV (.dK kvs)
 keys:kvs.map (·.1)=ks.map OW
 val:∀z,z∈ks->∃l:C',bh kvs (.inl z)=gV (.ref l)/\H l=gV (.lst<|ft<|pl z)
 non:∀z,z∉ks->bh kvs (.inl z)=N4
 inj:∀y z (l:C'),bh kvs (.inl y)=gV (.ref l)->bh kvs (.inl z)=gV (.ref l)->y=z
theorem HoldAt.mono(h:HoldAt H a s b p)(k:Same H c):HoldAt c a s b p:=
 ⟨k _ _ h.ha,h.keys,λz d=>let ⟨l,e,q⟩:=h.val z d;⟨l,e,k _ _ q⟩,h.non,h.inj⟩
structure HoldN (H0 H:Hp)(a:C')(kvs:ab (aK×V))(ks:ab Int)(pl:Int->ab Nat):Prop where
 at_:HoldAt H a kvs ks pl
 sam:Same H0 H
 na:H0 a=N4
 nl:∀z (l:C'),bh kvs (.inl z)=gV (.ref l)->H0 l=N4
theorem HoldN.mono(h:HoldN b H a s c p)(k:Same H d):HoldN b d a s c p:=⟨h.at_.mono k,h.sam.trans k,h.na,h.nl⟩
noncomputable def zK(p:Int->ab Nat)(z:Int)(i:Nat):Int->ab Nat:=λy=>if y=z then p y++[i]else p y
theorem qk{a:Type}{l:ab a}{i:Nat}{x:a}(h:l[i]?=gV x):l.take (i+1)=l.take i++[x]:=by
 rw[OM,h];rfl
theorem vK(n:ab Nat)(i:Nat):ft n++[V.int (i:Int)]=ft (n++[i]):=by
 simp
theorem C7{i:Nat}(h:HoldN d H a k s p)(c:z∈s)(e:bh k (.inl z)=gV (.ref l)):
  HoldN d (upd H l<|.lst<|ft (p z)++[.int (i:Int)]) a k (eU s z) (zK p z i):=by
 have f:H l=gV (.lst<|ft<|p z):=by
  obtain⟨L,E,q⟩:=h.at_.val z c;simp_all
 have n:a≠l:=λq=>by have:=h.at_.ha;simp_all
 have g:eU s z=s:=by
  unfold eU;rw[Oi<|N'.mpr c]
 rw[g];refine⟨⟨by rw[af n];exact h.at_.ha,h.at_.keys,λy j=>?_,h.at_.non,h.at_.inj⟩,h.sam.upd_new (h.nl z l e) _,h.na,h.nl⟩;obtain⟨L,E,q⟩:=h.at_.val y j;exists L,E;unfold zK;by_cases b:y=z
 ·subst b;rw[e]at E;cases E;rw[aa,Oi rfl,vK]
 rwa[Oh b,af λQ=>b<|h.at_.inj y z l (by rwa[<-Q]) e]
theorem C8{i:Nat}(h:HoldN r H a k s P)(j:z∉s)(w:P z=[])(n:H l=N4):
  HoldN r (upd (upd (upd H l<|.lst []) a<|.dK<|cn k (.inl z)<|.ref l) l<|.lst ([]++[.int (i:Int)])) a (cn k (.inl z)<|.ref l) (eU s z) (zK P z i):=by
 have N:a≠l:=λq=>by have:=h.at_.ha;lia
 have B:eU s z=s++[z]:=by
  unfold eU;rw[Oh λq=>j<|N'.mp q]
 have m:(k.any λv=>decide (v.1=(OW z)))=false:=by
  rw[Y_];intro q;obtain⟨v,C,e⟩:=OR.mp q;have:v.1∈k.map _:=P4 C;rw[h.at_.keys]at this;simp_all
 have o:=h.sam.free n;have A:∀y (L:C'),bh k (.inl y)=gV (.ref L)->L≠l:=λy L e q=>by
  by_cases b:y∈s
  ·obtain⟨G,E,Q⟩:=h.at_.val y b;simp_all
  rw[h.at_.non y b]at e;lia
 rw[B];refine⟨⟨by rw[af N,aa],?_,λy b=>?_,λy b=>?_,λy x L d E=>?_⟩,((h.sam.upd_new o _).upd_new h.na _).upd_new o _,h.na,λy L e=>?_⟩
 ·unfold cn;rw[m,Oh Oa,Oy,h.at_.keys,Oy];rfl
 ·rw[fV];unfold zK;by_cases c:y=z
  ·subst c;rw[Oi rfl,Oi rfl,w];exact⟨l,rfl,aa⟩
  rw[Oh λq=>c<|Qo q,Oh c];have p:y∈s:=(by simp_all);obtain⟨L,t,q⟩:=h.at_.val y p;have u:=A y L t;have D:L≠a:=λQ=>by have:=h.at_.ha;simp_all
  exact⟨L,t,by rwa[af u,af D,af u]⟩
 ·rw[fV,Oh λq=>b<|O2 _<|by rw[Qo q];exact N9.mpr rfl];exact h.at_.non y λq=>b<|Qw _ q
 ·rw[fV]at d E;by_cases f:y=z
  ·grind
  rw[Oh λq=>f<|Qo q]at d;by_cases g:x=z
  ·grind
  rw[Oh λq=>g<|Qo q]at E;exact h.at_.inj y x L d E
 rw[fV]at e;by_cases f:(OW y:aK)=.inl z
 ·simp_all
 rw[Oh f]at e;exact h.nl y L e
noncomputable def xL(C:ab (ab Int))(i:Nat)(c:ab Int)(z:Int):ab Nat:=((O1 i).filter λk=>(C.getD k []).contains z)++if c.contains z=NU then [i]else []
theorem xM(c:ab (ab Int))(i:Nat):xL c i []=λz=>(O1 i).filter λk=>(c.getD k []).contains z:=by
 unfold xL;simp
theorem C9:xL c i (c.getD i [])=xL c (i+1) []:=by
 rw[xM]
 funext z
 unfold xL;rw[Q3]
 grind
theorem uo(H:y∉c):zK (xL C i c) y i=xL C i (c++[y]):=by
 funext z
 unfold zK xL;grind
theorem F0(d:i<=C.length)(h:y∉c.foldl eU ((C.take i).flatten.foldl eU [])):xL C i c y=[]:=by
 rw[j_,j_]at h;unfold xL;have b:=λq=>h<|.inr<|N'.mp q;rw[Oh b,Pd,QY];intro k a q;have a:=Qh.mp a;have H:k<C.length:=Pb a d
 refine h<|.inl<|.inr<|Zy.mpr ⟨C.getD k [],?_,N'.mp q⟩;rw[A',K' H];exact List.mem_take_iff_getElem.mpr ⟨k,by simp_all,rfl⟩
theorem oM:∀(Z k:ab Int),(Z.foldl eU k).length<=k.length+Z.length
 |[],k=>N1 _
 |z::r,k=>by
  rw[Q4];have h:=oM r<|eU k z;have H:(eU k z).length<=k.length+1:=by
   unfold eU
   split
   ·simp
   simp
  grind
theorem F1(u:Ups c)(h:c[j]?=gV y):y∉c.take j:=λH=>by
 have e:c=c.take j++y::c.drop (j+1):=by
  rw[<-(NT.mp h).2,WV,PZ]
 unfold Ups at u;rw[e,Oy,P_]at u;have:=u.2.2 _ (P4 H) (absI y) (by simp);lia
inductive vL (vs:ab V)(H:Hp)(Q:VK)(E:XK):Prop
 |mk (q:C')(xs:ab V)(C:ab (ab Int))(h0:vs=[.ref q])(b:H q=gV (.lst xs))(d:CLs H C xs)(e:C.length<=400)(f:∀c∈C,c.length<=60)(g:∀c∈C,Ups c)
  (i:∀(a:C') (kvs:ab (aK×V)) (h:Hp),Same H h->HoldAt h a kvs (fP C) (be C)->Q (.ref a) h):vL vs H Q E
inductive Hv (q a:C')(c:ab (ab Int))(H:Hp)(i:Nat)(b:St)(h:Hp):Prop
 |mk (v d e:NW V)(kvs:ab (aK×V))(h0:b=[gV<|.ref q,gV<|.ref a,v,d,e])(f:HoldN H h a kvs ((c.take i).flatten.foldl eU []) (xL c i []))(g:((c.take i).flatten.foldl eU []).length<=60*i)
inductive Hw (q a t:C')(C:ab (ab Int))(c:ab Int)(H:Hp)(i j:Nat)(b:St)(h:Hp):Prop
 |mk (v:NW V)(kvs:ab (aK×V))(h0:b=[gV<|.ref q,gV<|.ref a,gV<|.int (i:Int),gV<|.ref t,v])(d:HoldN H h a kvs ((c.take j).foldl eU<|(C.take i).flatten.foldl eU []) (xL C i<|c.take j))
theorem F2(F:Fun K "holders_of" "holders_of" C6 f fd)(T:zI mg):ao P w K mg aC aP 1 f fd ["clauses"] vL:=by
 refine F.okB (N:=["clauses","holders","place","clause","literal"]) λQt A ac s H vs Q E sc hr h=>?_;obtain⟨q,xs,C,rfl,hq,v,hn,am,an,q'⟩:=h;have PF:=v.length;have hu:=hr.units;have U1:(A.deeper<|P5 "holders_of" (aw C6) s.heap.objs.size f Qt).units+1<RT:=by lia
 refine⟨_,(ae (sT 1 sG)
  (ae (dP Pt rfl (jH rfl T.enumerate<|pv 0) gg
   (ap<|fS 4 (bQ<|pv 3)<|ap<|cB<|fC Pe PX Qb cK (tU U1 (pv 1) (pv 4) gg ⟨rfl,rfl,rfl,rfl⟩)<|gY<|pv 2))
  (cr<|pv 1))),?_⟩
 refine λa na=>⟨_,rfl,q,rfl,⟨_,SqL.of<|ad na _ _ _ hq⟩,?_⟩;refine eA (K:=K) (a:=q) (X:=xs) (Hv q a C H) ⟨N4,N4,N4,[],rfl,⟨⟨aa,rfl,λz hz=>(by simp_all),λz S=>rfl,λy z l e=>(nomatch e)⟩,ad na _,na,λz l e=>(nomatch e)⟩,N1 _⟩ ?_ ?_ ?_
 ·rintro i B D S ⟨S,S,S,S,S,t,S⟩;exact SqL.of<|t.sam _ _ hq
 ·rintro i x B D tt hx ⟨v2,v3,v4,m,rfl,t,aF⟩ as;have k3:=ad as<|.tup [.int (i:Int),x];have Y:i<C.length:=by
   have:=(NT.mp hx).1;simp_all
  obtain⟨G,I,SU,hm⟩:=gk v Y;rw[hx]at I;cases I;have o:=t.mono k3;have J:=@aa D tt (.tup [.int (i:Int),.ref G]);generalize upd D tt (.tup [.int (i:Int),.ref G])=G1 at o J ⊢;have u:=an _ hm;have hc:=am _ hm;have M:=@C9 C i;have p:(C.take<|i+1).flatten=(C.take i).flatten++C.getD i []:=by
   rw[qk<|K' Y,List.flatten_append,List.flatten_singleton,A',K' Y];rfl
  exists tt,_,rfl,SqT.of J,rfl,_,_,rfl,_,_,rfl,rfl;generalize C.getD i []=c at SU hm u hc M p;exists _,rfl,G,rfl,⟨_,SqT.of<|o.sam _ _ SU⟩;refine dz (K:=K) (a:=G) (X:=c.map V.int) (Hw q a G C c H i) ⟨_,m,rfl,o⟩ ?_ ?_ ?_
  ·rintro j B H4 S ⟨S,S,S,b⟩;exact SqT.of<|b.sam _ _ SU
  ·rintro j x B H4 av ⟨w4,N,rfl,b⟩;obtain⟨y,rfl,hy⟩:=cU av;have hj:=(NT.mp hy).1;refine gN ?_;refine⟨_,rfl,a,rfl,.inl ⟨_,.inl b.at_.ha⟩,_,rfl,(by simp),λL r=>?_⟩;have O:=F1 u hy;have n:=qk hy;have Z:=ad r<|.lst [];have Vd:∀z,(xL C i (c.take j) z).length<=401:=λz=>by
    unfold xL;grind
   have aL:sizeLine=16777216:=P0;by_cases d:y∈(c.take j).foldl eU ((C.take i).flatten.foldl eU [])
   ·obtain⟨l,el,hl⟩:=b.at_.val y d;have U:=b.mono Z;refine .inl ⟨.ref l,by rw[<-el];exact DGet.k (k:=.inl y) U.at_.ha,?_⟩;have W:=Z _ _ hl;exists .inl ⟨rfl,_,SqL.of W⟩,_,rfl,l,_,_,rfl,rfl,W,(by rw[J'];have:=Vd y;lia);have g:=C7 (i:=i) U d el;rw[uo O,<-n]at g;exists _,N,rfl;simp_all
   have ev:=b.at_.non y d;have a0:N.length<=60*i+j:=by
    have e1:=OY P3 b.at_.keys;rw[J',J']at e1;have e2:=oM (c.take j)<|(C.take i).flatten.foldl eU [];rw[OC]at e2;lia
   refine .inr ⟨by rw[<-ev];exact DGet.k (k:=.inl y)<|Z _ _ b.at_.ha,_,DPut.k (k:=.inl y) (Z _ _ b.at_.ha) (by lia),?_⟩;have g:=C8 (i:=i) b d (F0 (OQ Y) d) r;rw[uo O,<-n]at g;have az:L≠a:=λz=>by have:=b.at_.ha;simp_all
   have X:upd (upd H4 L<|.lst []) a (.dK<|cn N (.inl y)<|.ref L) L=gV (.lst []):=by rw[af az];exact aa
   exists .inl ⟨rfl,_,SqL.of X⟩,_,rfl,L,_,_,rfl,rfl,X,(by decide);exists _,cn N (.inl y)<|.ref L,rfl;simp_all
  rintro B H4 ⟨w4,N,rfl,b⟩;have et:c.take (c.map V.int).length=c:=(by simp);rw[et]at b;rw[M,<-QX,<-p]at b;exists _,_,_,N,rfl,b;have:=oM c<|(C.take i).flatten.foldl eU [];rw[p,QX];lia
 rintro B D ⟨v2,v3,v4,m,rfl,t,S⟩;refine⟨_,rfl,q' a m D t.sam ?_⟩;have e:C.take xs.length=C:=Od (Ui PF);have h1:=t.at_;rwa[e,xM,<-PF]at h1
noncomputable abbrev vM:Pk:=top 92
inductive vN (vs:ab V)(H:Hp)(Q:VK)(E:XK):Prop
 |mk (a:C')(kvs:ab (aK×V))(t:Str)(c:ab (ab Int))(h0:vs=[.ref a])(b:HoldAt H a kvs (fP c) (be c))(d:∀v h,Same H h->RO h t c v->Q v h)
inductive Hx (a:C')(o:Obj)(kvs:ab (aK×V))(H:Hp)(i:Nat)(b:St)(h:Hp):Prop
 |mk (v:NW V)(h0:b=[gV<|.ref a,v])(c:h=upd H a (.frz o<|.dK kvs))
theorem HoldAt.key{H:Hp}{a:C'}{s:ab (aK×V)}{b:ab Int}{p:Int->ab Nat}{i:Nat}{k:aK}{v:V}(h:HoldAt H a s b p)(e:s[i]?=gV (k,v)):∃z,k=.inl z/\b[i]?=gV z:=by
 have E:(s.map (·.1))[i]?=gV k:=by simp_all
 rw[h.keys,Og]at E;obtain⟨z,c,d⟩:=P9.mp E;exact⟨z,d.symm,c⟩
theorem HoldAt.has(h:HoldAt H a k s p)(z:Int):(bh k<|.inl z).isSome=s.contains z:=by
 by_cases b:z∈s
 ·obtain⟨l,e,y⟩:=h.val z b;simp_all
 rw[h.non z b,Y_.mpr λq=>b<|N'.mp q];rfl
theorem C_(h:a≠r):upd (upd H a x) r y=upd (upd H r y) a x:=by
 funext b
 by_cases e:b=r
 ·subst e;rw[aa,af<|Pw h,aa]
 rw[af e];by_cases E:b=a
 ·subst E;rw[aa,aa]
 rw[af E,af E,af e]
theorem Da(F:Fun K "next_pure" "next_pure" vM f C):ao P w K N B aP 1 f C ["holders"] vN:=by
 refine F.okB (N:=["holders","literal"]) λD A O s H T Q E W G h=>?_;obtain⟨a,b,t,I,rfl,d,p⟩:=h;have X:=G.units;have U:(A.deeper<|P5 "next_pure" (aw vM) s.heap.objs.size f D).units+1<RT:=by lia
 refine⟨_,(ae (Fh<|fS 1 (Fg<|pv 0)<|ap<|aO (jc<|iJ U gg<|pv 0) gg ay)
  (cr fN)),⟨a,b,d.ha,_,rfl,a,b,rfl,d.ha,λo=>Bv (Hx a o b H) ⟨N4,rfl,rfl⟩ ?_ ?_ ?_⟩⟩
 ·rintro i u x Z ⟨Z,Z,rfl⟩;exact aa
 ·rintro i k v u x J ⟨L,rfl,rfl⟩;obtain⟨z,rfl,M⟩:=d.key J;refine⟨_,rfl,_,rfl,_,rfl,a,_,rfl,.inl ⟨b,.inl _,.inr ⟨o,aa⟩,rfl,rfl⟩,_,rfl,?_⟩;have e:=d.has (-z);cases g:(fP I).contains _ with
  |false=>
   rw[g]at e;rw[e];refine aq ⟨_,rfl,(by show 2<=sizeLine;decide),λr Y=>?_⟩;have n:a≠r:=λq=>by rw[<-q,aa]at Y;cases Y
   have j:H r=none:=by rwa[af<|Pw n]at Y
   have y:=ad j<|.tup [.str xG,.int z];refine⟨o,b,upd H r<|.tup _,y _ _ d.ha,C_ n,p _ _ y<|.inr ⟨.pure z,_,r,rfl,aa,.pure z ?_ ?_⟩⟩
   ·obtain⟨c,l,m⟩:=gh.mp<|N7 M;exact OR.mpr ⟨c,l,N'.mpr m⟩
   ·refine Y6.mpr λc l m=>?_;rw[N'.mpr<|gh.mpr ⟨c,l,N'.mp m⟩]at g;cases g
  |true=>
   rw[g]at e;rw[e];exact ak ⟨_,rfl,rfl⟩
 rintro u x ⟨L,rfl,rfl⟩;exact⟨o,b,H,d.ha,rfl,p _ _ (Same.refl _)<|.inl rfl⟩
noncomputable abbrev JX:Pk:=top 93
noncomputable def adr(k:ab (aK×V))(z:Int):C':=match bh k (.inl z)with
 |some (.ref l)=>l
 |_=>0
noncomputable def Mb(k:ab (aK×V)):V->V
 |.int z=>.ref<|adr k z
 |_=>.non
inductive Db (vs:ab V)(H:Hp)(Q:VK)(E:XK):Prop
 |mk (a b:C')(kvs:ab (aK×V))(C:ab (ab Int))(c:ab Int)(h0:vs=[.ref a,.ref b,.int (C.length:Int)])(d:HoldAt H a kvs (fP C) (be C))(e:jw H b c)(f:c.length<=60)(g:C.length<=400)(i:∀z∈c,z∈fP C)
  (j:∀(l:C') (h:Hp),Same H h->h l=gV (.lst<|ft<|oJ C c)->Q (.ref l) h):Db vs H Q E
theorem HoldAt.adr(h:HoldAt H a k s p)(b:z∈s):bh k (.inl z)=gV (.ref<|adr k z)/\H (adr k z)=gV (.lst<|ft<|p z):=by
 obtain⟨l,e,q⟩:=h.val z b;have:K75.adr k z=l:=by unfold K75.adr;rw[e]
 rw[this];exact⟨e,q⟩
theorem JY(F:Fun K "fewest_holders" "fewest_holders" JX f I)(T:zI M):ao P w K M B aP 1 f I ["holders","literals","many"] Db:=by
 refine F.okB (N:=["holders","literals","many"]) λJ A o s H vs Q E sc N h=>?_;obtain⟨a,b,d,C,c,rfl,l,m,O,U,n,u⟩:=h;have hu:=N.units;have W:(A.deeper<|P5 "fewest_holders" (aw JX) s.heap.objs.size f J).units+1<RT:=by lia
 refine⟨_,(ae (aO (gD<|fU (pv 1) λS=>rfl) (cr<|yW rfl rfl T.list rfl T.range<|pv 2) ay)
  (cr<|Fk rfl rfl T.min rfl T.len<|jR ["literal","holders"] [N4,gV 0] (bQ<|pv 1) (e:=λS S S S=>(bz W (pv 1) (pv 0) λS S=>rfl)))),?_⟩
 exists _,rfl,!(c.map _).isEmpty,.inr<|.inl ⟨_,SqT.of m,rfl⟩;cases c with
 |nil=>
  exact aq ⟨_,rfl,C.length,rfl,O6 U (by decide),λL X=>u L _ (ad X _) aa⟩
 |cons y r=>
  refine ak<|⟨_,rfl,b,rfl,⟨_,SqT.of m⟩,λD nD=>cz [gV<|.ref a] _ (Mb d) rfl m nD (by rw[J'];lia) (λx v Y R k q=>q) (λx v S Y R k q=>?_) ?_⟩
  ·obtain⟨z,e,rfl⟩:=OT.mp v;obtain⟨Z,S⟩:=l.adr<|n z e;exact⟨_,rfl,_,rfl,a,.ref<|adr d z,rfl,by rw[<-Z];exact DGet.k (k:=.inl z)<|k _ _ l.ha,q⟩
  have ef:(((y::r).map V.int).filter λS=>NU).map (Mb d)=((y::r).map<|adr d).map V.ref:=by
   rw[Qg.mpr λS S=>rfl,O_,O_];rfl
  rw[ef];have p:=ad nD<|.lst<|((y::r).map<|adr d).map V.ref;have G:=CB p;have g:=l.mono p;refine⟨D,(y::r).map<|adr d,((y::r).map<|be C).map P3,rfl,SqL.of G,(by simp),⟨by simp,λi a' j=>?_⟩,λa' j=>?_⟩
  ·rw[Og]at j;obtain⟨z,e,rfl⟩:=P9.mp j;obtain⟨S,t⟩:=g.adr<|n z<|N7 e;exists _,SqL.of t;rw[Og,Og,e,J'];rfl
  rw[Og]at j;obtain⟨z,e,rfl⟩:=P9.mp j;obtain⟨S,t⟩:=g.adr<|n z<|N7 e;refine u _ _ p ?_;rw[t];unfold oJ;rw[A',Og,e];rfl
noncomputable abbrev Dc:Pk:=top 94
inductive rB (vs:ab V)(H:Hp)(Q:VK)(E:XK):Prop
 |mk (q a:C')(t:Str)(xs:ab V)(C:ab (ab Int))(kvs:ab (aK×V))(h0:vs=[.ref q,.ref a])(b:H q=gV (.lst xs))(d:CLs H C xs)(e:C.length<=400)(f:∀c∈C,c.length<=60)(g:HoldAt H a kvs (fP C) (be C))
  (i:∀v h,Same H h->RO h t C v->Q v h):rB vs H Q E
inductive Dd (q a:C')(H:Hp)(j:Nat)(b:St)(h:Hp):Prop
 |mk (v c d:NW V)(h0:b=[gV<|.ref q,gV<|.ref a,v,c,d])(e:Same H h)
inductive vO (q a t:C')(H:Hp)(j i:Nat)(b:St)(h:Hp):Prop
 |mk (v:NW V)(h0:b=[gV<|.ref q,gV<|.ref a,gV<|.int (j:Int),gV<|.ref t,v])(c:Same H h)
theorem De{N:ab Nat}{i:Nat}{x:V}(h:(ft N)[i]?=gV x):∃n:Nat,x=.int (n:Int)/\N[i]?=gV n:=by
 rw[Og]at h;obtain⟨n,e,rfl⟩:=P9.mp h;exact⟨n,rfl,e⟩
theorem Df(F:Fun K "next_within" "next_within" Dc f fd)(T:zI M)(ZS:Fe P w K M B 1 "fewest_holders" Db)(as:Fe P w K M B 1 "holds_all" mD):ao P w K M B aP 2 f fd ["clauses","holders"] rB:=by
 refine F.okB (N:=["clauses","holders","within","literals","place"]) λQt A O s H vs Q E sc hr h=>?_;obtain⟨q,a,t,xs,c,L,rfl,G,d,N,U,hA,q'⟩:=h;have PF:=d.length;refine⟨_,(ae (dP Pt rfl (jH rfl T.enumerate<|pv 0) gg
   (ap<|fS 4 (aT<|rY ZS hr<|aD (pv 1)<|g_ (pv 3)<|aR e_ rfl T.len RB<|gY<|pv 0) gg))
  (cr fN)),?_⟩
 exists _,rfl,q,rfl,⟨_,SqL.of G⟩;refine eA (K:=K) (a:=q) (X:=xs) (Dd q a H) ⟨N4,N4,N4,rfl,Same.refl _⟩ ?_ ?_ ?_
 ·rintro j m I S ⟨S,S,S,S,k⟩;exact SqL.of<|k _ _ G
 ·rintro j x m I W hx ⟨v2,v3,v4,rfl,X⟩ Y;have k3:=ad Y<|.tup [.int (j:Int),x];have o:=X.trans k3;have hj:j<c.length:=by
   have:=(NT.mp hx).1;simp_all
  obtain⟨e,p,SU,hm⟩:=gk d hj;rw[hx]at p;cases p;have u:=@aa I W (.tup [.int (j:Int),.ref e]);generalize upd I W (.tup [.int (j:Int),.ref e])=G1 at o u ⊢;exists W,_,rfl,SqT.of u,rfl,_,_,rfl,_,_,rfl,rfl;have Z:=U _ hm;exists _,rfl,_,rfl,_,rfl,.ref q,_,rfl,.inl ⟨_,SqL.of<|o _ _ G,rfl⟩;rw[<-PF];refine⟨a,e,L,c,c.getD j [],rfl,hA.mono o,o _ _ SU,Z,N,λz hz=>gh.mpr ⟨_,hm,hz⟩,λl H4 k4 v=>⟨l,rfl,⟨_,SqL.of v⟩,?_⟩⟩;have C:=o.trans k4;refine dy (K:=K) (a:=l) (X:=ft<|oJ c<|c.getD j []) (vO q a e H4 j) ⟨_,rfl,Same.refl _⟩ ?_ ?_ ?_
  ·rintro i m H5 S ⟨S,S,k⟩;exact SqL.of<|k _ _ v
  ·rintro i x m H5 ac ⟨w4,rfl,J⟩;obtain⟨n,rfl,hn⟩:=De ac;have D:=JW<|N7 hn;obtain⟨tn,am,an,av⟩:=gk d D;have b:=C.trans J;have y:vO q a e H4 j (i+1) [gV<|.ref q,gV<|.ref a,gV<|.int (j),gV<|.ref e,gV<|.int (n)] H5:=⟨_,rfl,J⟩;refine⟨_,rfl,_,rfl,.inl ⟨rfl,_,rfl,?_⟩⟩;by_cases g:n=j
   ·exact Ee (by rw[g])<|ak y
   rw[N3 λz:V.int _=V.int _=>g (by lia)];refine aq<|⟨_,rfl,_,rfl,(dM (b _ _ G) (aH am) ⟨_,rfl,tn,e,_,_,rfl,b _ _ an,b _ _ SU,_,rfl,?_⟩)⟩;cases ew:((c.getD j []).all _)with
   |false=>
    exact ak y
   |true=>
    refine aq ⟨_,rfl,_,rfl,(by show 3<=sizeLine;decide),λr YD=>?_⟩;have k6:=ad YD<|.tup [.str ro,.int (n),.int (j)];exact q' _ _ (b.trans k6)<|.inr ⟨.within n j,_,r,rfl,aa,.within n j D hj g ew⟩
  rintro m H5 ⟨w4,rfl,J⟩;exact⟨_,_,_,rfl,C.trans J⟩
 rintro m I ⟨v2,v3,v4,rfl,X⟩;exact q' _ _ X<|.inl rfl
noncomputable abbrev Dg:Pk:=top 95
inductive vP (vs:ab V)(H:Hp)(Q:VK)(E:XK):Prop
 |mk (p q a:C')(t:Str)(xs:ab V)(c:ab (ab Int))(kvs:ab (aK×V))(h0:vs=[.ref p,.ref a])(b:SentAt H p q t xs c)(d:HoldAt H a kvs (fP c) (be c))
  (e:∀v h,Same H h->RO h t c v->Q v h):vP vs H Q E
theorem vR(C:ab (ab Int))(z:Int):(be C z).map (λi=>C.getD i [])=C.filter λc=>c.contains z:=by
 have e:C=(O1 C.length).map λi=>C.getD i []:=by
  refine List.ext_getElem (by simp) λi h H=>?_;simp_all
 conv=>rhs;rw[e]
 rw[Z3];rfl
theorem Dh(h:CLs H c X):∀{N:ab Nat},(∀n∈N,n<c.length)->CLs H (N.map λi=>c.getD i []) (N.map λi=>X.getD i .non)
 |[],_=>.nil
 |n::r,a=>by
  obtain⟨t,x,T,z⟩:=gk h<|a n Om;refine Paired.cons ⟨t,?_,T⟩<|Dh h λm b=>a m<|Ov _ b;simp_all
theorem F4(h:CLs H C x)(z:Int):CLs H (C.filter λc=>c.contains z) ((be C z).map λi=>x.getD i .non):=by
 rw[<-vR];exact Dh h λn a=>(f'.mp a).1
noncomputable def Di(t:Str):V->N6
 |.int z=>ownW t z
 |_=>NZ
theorem uq(t:Str):∀c:ab Int,((c.map V.int).filter<|Di t).map id=(c.filter<|ownW t).map V.int
 |[]=>rfl
 |z::r=>by
  have i:=uq t r;rw[XZ]at i ⊢;rw[OH];by_cases h:ownW t z=NU
  ·rw[PH (a:=V.int z) h,PH h,OH,i]
  rw[PJ (a:=V.int z) h,PJ h,i]
noncomputable def Nq(x:ab V):V->V
 |.int n=>x.getD n.toNat .non
 |_=>.non
theorem F6(x:ab V)(n:ab Nat):((ft n).filter λz=>NU).map (Nq x)=n.map λi=>x.getD i .non:=by
 rw[Qg.mpr λz z=>rfl];rw[O_];rfl
inductive Hy (p q a:C')(H:Hp)(i:Nat)(b:St)(h:Hp):Prop
 |mk (v c d e:NW V)(h0:b=[gV<|.ref p,gV<|.ref a,gV<|.ref q,v,c,d,e])(f:Same H h)
inductive Hz (p q a t:C')(H:Hp)(i j:Nat)(b:St)(h:Hp):Prop
 |mk (v c:NW V)(h0:b=[gV<|.ref p,gV<|.ref a,gV<|.ref q,gV<|.int (i:Int),gV<|.ref t,v,c])(d:Same H h)
theorem F7(F:Fun K "next_blocked" "next_blocked" Dg f fd)(T:zI mg)(X5:Fe P w K mg B 2 "is_of" iD)(a1:Fe P w K mg B 2 "is_blocked" rn):ao P w K mg B aP 3 f fd ["sentence","holders"] vP:=by
 refine F.okB (N:=["sentence","holders","clauses","place","clause","literal","opposed"]) λQt A ac s H vs Q E sc hr h=>?_;obtain⟨p,q,a,t,X,C,am,rfl,S,hA,q'⟩:=h;have hu:=hr.units;have U1:(A.deeper<|P5 "next_blocked" (aw Dg) s.heap.objs.size f Qt).units+1<RT:=by lia
 have PF:=S.hcs.length;have ht:=S.ht;have a2:=S.hn;refine⟨_,(ae gg
  (ae (dP Pt rfl (jH rfl T.enumerate<|pv 2) gg
   (ap (fS 5 (aT<|jR ["literal","sentence"] [N4,gV 0] (bQ<|pv 4) (t:=λ_ _ _ _=>(eR<|du<|rY X5 hr<|aD (pv 1)<|g_ (pv 0)<|bK rfl T.g_WISHER))) (ae (GY 6 ["other","clauses"] [N4,gV 2] (aT<|AE U1 (pv 1) gg gg ⟨rfl,rfl,rfl,rfl⟩) (e:=λ_ _ _ _=>(y_ (K:=K) (pv 1)<|pv 0)))
    gg))))
  (cr fN))),?_⟩
 refine⟨_,rfl,(a_ S.hp rfl ?_)⟩;exists _,rfl,q,rfl,⟨_,SqL.of S.hq⟩;refine eA (K:=K) (a:=q) (X:=X) (Hy p q a H) ⟨N4,N4,N4,N4,rfl,Same.refl _⟩ ?_ ?_ ?_
 ·rintro i v W _ ⟨_,_,_,_,_,k⟩;exact SqL.of<|k _ _ S.hq
 ·rintro i x v W tt m ⟨v3,v4,v5,v6,rfl,k2⟩ an;have k3:=ad an<|.tup [.int (i:Int),x];have Y:=k2.trans k3;have hi:i<C.length:=by
   have:=(NT.mp m).1;lia
  obtain⟨y,G,SU,hm⟩:=gk S.hcs hi;rw[m]at G;cases G;have I:=@aa W tt (.tup [.int (i:Int),.ref y]);generalize upd W tt (.tup [.int (i:Int),.ref y])=G1 at Y I ⊢;exists tt,_,rfl,SqT.of I,rfl,_,_,rfl,_,_,rfl,rfl;have a3:=S.hc _ hm;have as:=S.hok _ hm;have J:=Y _ _ SU;have S1:=S.mono Y;refine⟨_,rfl,y,rfl,⟨_,SqT.of J⟩,λD nD=>?_⟩;refine cz [gV<|.ref p] (Di t) id rfl J nD (by rw[J'];lia) (λx m H' R k r=>?_) (λx m _ H' R k r=>⟨_,rfl,r⟩) ?_
  ·obtain⟨z,hz,rfl⟩:=OT.mp m;have o:=as z hz;exists _,rfl,_,rfl,p,t,.ref q,z,NU,rfl,k _ _ S1.hp,(by lia),o.1,o.2,_,rfl;have e:(ownW t z == NU)=Di t (.int z):=by
    show _=ownW t z
    simp
   rw[e];exact r
  rw[uq];have kD:=ad nD<|.lst<|((C.getD i []).filter<|ownW t).map V.int;have sD:=@aa G1 D (.lst<|((C.getD i []).filter<|ownW t).map V.int);have u:=Y.trans kD;generalize upd G1 D (.lst<|((C.getD i []).filter<|ownW t).map V.int)=G2 at kD sD u ⊢;exists D,rfl,⟨_,SqL.of sD⟩;refine dy (K:=K) (a:=D) (X:=((C.getD i []).filter<|ownW t).map V.int) (Hz p q a y G2 i) ⟨_,_,rfl,Same.refl _⟩ ?_ ?_ ?_
  ·rintro j v Z _ ⟨_,_,_,k⟩;exact SqL.of<|k _ _ sD
  ·rintro j x v Z av ⟨w5,w6,rfl,k5⟩;obtain⟨z,rfl,hz⟩:=cU av;obtain⟨az,aC⟩:=Oq.mp<|N7 hz;have L:=u.trans k5;refine gN ?_;refine⟨_,rfl,a,rfl,.inl ⟨_,.inl<|L _ _ hA.ha⟩,_,rfl,_,rfl,(by simp),λl0 aF=>?_⟩;have k6:=ad aF<|.lst [];have M:=@aa Z l0 (.lst []);have b:=L.trans k6;have d:=hA.mono b;generalize upd Z l0 (.lst [])=H6 at k6 M b d ⊢;have o:∃l,(bh am<|.inl (-z)).getD (.ref l0)=.ref l/\H6 l=gV (.lst<|ft<|be C (-z)):=by
    by_cases hk:-z∈fP C
    ·obtain⟨e1,e2⟩:=d.adr hk;exact⟨_,by rw[e1];rfl,e2⟩
    exists l0,(by rw[d.non _ hk];rfl);have:be C (-z)=[]:=QY.mpr λn hn q=>hk<|gh.mpr ⟨_,lq<|Qh.mp hn,N'.mp q⟩;rw[this];exact M
   obtain⟨l,el,o⟩:=o;exists _,DGet.k (k:=.inl (-z)) d.ha;rw[el];refine⟨l,rfl,⟨_,SqL.of o⟩,λD2 N=>?_⟩;have aL:(ft<|be C (-z)).length<=900:=by
    rw[J'];have:=Ph (λi=>(C.getD i []).contains (-z))<|O1 C.length;rw[Pm]at this;unfold be;lia
   refine cE [gV<|.ref q] (λ_=>NU) (Nq X) rfl o N (O6 aL<|by simp) (λx m H' R k r=>r) (λx m _ H' R k r=>?_) ?_
   ·obtain⟨n,hn,rfl⟩:=OT.mp m;have a0:=(f'.mp hn).1;obtain⟨tn,O,_,_⟩:=gk S.hcs a0;refine⟨_,rfl,_,rfl,(dM (k _ _<|b _ _ S.hq) (aH O) ?_)⟩;have e:Nq X (.int (n:Int))=.ref tn:=by
     show X.getD (n:Int).toNat .non=_
     rw[OP,A',O];rfl
    simp_all
   rw[F6];have k7:=ad N<|.lst<|(be C (-z)).map λi=>X.getD i .non;have s7:=@aa H6 D2 (.lst<|(be C (-z)).map λi=>X.getD i .non);have g:=b.trans k7;have U:=k5.trans<|k6.trans k7;generalize upd H6 D2 (.lst<|(be C (-z)).map λi=>X.getD i .non)=H7 at k7 s7 g U ⊢;exists _,rfl,_,rfl,_,rfl,y,D2,C.getD i [],z,_,_,rfl,g _ _ SU,s7,F4 (S.hcs.mono g) (-z),_,rfl;cases ew:((C.filter λc=>c.contains (-z)).all λk=>dW (C.getD i []) z k)with
   |false=>exact ak ⟨_,_,rfl,U⟩
   |true=>
    refine aq ⟨_,rfl,_,rfl,(by show 3<=sizeLine;decide),λr YD=>?_⟩;have k8:=ad YD<|.tup [.str oG,.int (i),.int z];exact q' _ _ (g.trans k8)<|.inr ⟨.blocked i z,_,r,rfl,aa,.blocked i z hi az aC ew⟩
  rintro v Z ⟨w5,w6,rfl,k5⟩;exact⟨_,_,_,_,rfl,u.trans k5⟩
 rintro v W ⟨v3,v4,v5,v6,rfl,k2⟩;exact q' _ _ k2<|.inl rfl
noncomputable abbrev Dj:Pk:=top 96
noncomputable abbrev Mc:Pk:=top 97
theorem Few.at(F:Few t C)(a:H p=gV (.tup [.str t,.ref q]))(b:H q=gV (.lst x))(h:CLs H C x):SentAt H p q t x C:=
 ⟨a,b,h,by have:=F.t8;lia,by have:=F.many;lia,F.lits,λc d=>by have:=F.c4 c d;lia⟩
def StpsAt(H:Hp)(a:ab Nx)(Y:ab V):Prop:=Paired (λs y=>∃p:C',y=.ref p/\H p=gV (.tup s.zs)) a Y
theorem SentAt.but(h:SentAt H p q t X c)(a:H l=gV (.lst y))(d:q≠l):SentAt (upd H l o) p q t X c:=
 have n:∀b Z,H b=gV (.tup Z)->b≠l:=λb Z e z=>by simp_all
 ⟨by rw[af<|n p _ h.hp];exact h.hp,by rw[af d];exact h.hq,Paired.mapP h.hcs λx x ⟨T,e,q⟩=>⟨T,e,by rwa[af<|n T _ q]⟩,h.ht,h.hn,h.hok,h.hc⟩
theorem StpsAt.but(h:StpsAt H s Z)(a:H l=gV (.lst y)):StpsAt (upd H l o) s Z:=
 Paired.mapP h λx x ⟨t,e,q⟩=>⟨t,e,by rwa[af λz=>by lia]⟩
theorem StpsAt.mono(h:StpsAt H s y)(k:Same H a):StpsAt a s y:=by
 induction h with
 |nil=>exact .nil
 |cons h _ i=>
  obtain⟨p,e,q⟩:=h;exact .cons ⟨p,e,k _ _ q⟩ i
theorem xN:∀{C:ab (ab Int)},(∀c∈C,c.length<=4)->cJ C<=5*C.length
 |[],_=>N1 _
 |c::r,h=>by
  have a:=h c Om;have b:=xN λk H=>h k<|Ov _ H;rw[eZ,Os];lia
theorem Few.size(F:Few t c):cJ c<=80:=by
 have h:=xN F.c4;have H:=F.many;lia
def JZ(t:Str)(c:ab (ab Int))(a:ab Nx):Prop:=∀s r,a=s::r->∃d,Stp t c s d/\(No t c\/(∃i,s=.unit i)\/∃i,s=.drop i)
inductive Dk (vs:ab V)(H:Hp)(Q:VK)(E:XK):Prop
 |mk (p q:C')(t:Str)(xs:ab V)(c:ab (ab Int))(h0:vs=[.ref p])(a:SentAt H p q t xs c)(b:Few t c)(d:∀(l:C') (ys:ab V) (s:ab Nx) (h:Hp),Same H h->h l=gV (.lst ys)->StpsAt h s ys->JZ t c s->Q (.ref l) h)
inductive J0 (p l:C')(t:Str)(c:ab (ab Int))(H:Hp)(m:Nat)(a:St)(h:Hp):Prop
 |mk (r q:C')(xs ys:ab V)(C:ab (ab Int))(s:ab Nx)(v:V)(h0:a=[gV<|.ref p,gV<|.ref l,gV<|.ref r,gV v])(e:Same H h)(f:h l=gV (.lst ys))(g:StpsAt h s ys)(i:SentAt h r q t xs C)(j:Few t C)(k:JZ t c s)(b:s=[]->C=c)(n:RN h t C v)(o:m=cJ C)(u:q≠l)(d:ys.length+m<=80)
theorem Dm(F:Fun K "next_step" "next_step" Dj f M)(O:Fe P w K m B 4 "next_short" oK)(T:Fe P w K m B 1 "holders_of" vL)(W:Fe P w K m B 1 "next_pure" vN)
  (X:Fe P w K m B 2 "next_within" rB) (Y:Fe P w K m B 3 "next_blocked" vP):ao P w K m B aP 5 f M ["sentence"] oK:=by
 refine F.okB (N:=["sentence","step","holders"]) λQt A o s H vs Q E sc hr h=>?_;obtain⟨p,q,t,x,C,rfl,S,D,j⟩:=h;exists _,gg;refine⟨_,rfl,p,q,t,x,C,rfl,S,D,λv H1 l Z=>?_⟩;obtain⟨rfl,N⟩|⟨s,r,hk⟩:=Z
 rotate_left
 ·obtain⟨G,b,rfl,I,st⟩:=id r;exists _,rfl,rfl,_,rfl;rw[N3 (λz=>nomatch z)];exact aq ⟨_,rfl,j _ _ l<|.inr ⟨s,r,hk⟩⟩
 have U:∀{n:Hp} {s:Nx} {v:V},Same H n->Np n t C s v->Q v n:=λk r=>j _ _ k<|.inr ⟨_,r,.inl N⟩;refine⟨_,rfl,rfl,_,rfl,Ee rfl ?_⟩;have g:=S.mono l;refine⟨_,rfl,(a_ g.hp rfl ⟨q,x,C,rfl,g.hq,g.hcs,g.hn,g.hc,D,λa d H2 k2 u=>?_⟩)⟩;have XD:=l.trans k2;refine⟨_,rfl,a,d,t,C,rfl,u,λv H3 y r3=>?_⟩;have e:=XD.trans y;obtain rfl|⟨s,r⟩:=r3
 rotate_left
 ·obtain⟨G,b,rfl,I,st⟩:=id r;exists _,rfl,rfl,_,rfl;exact aq ⟨_,rfl,U e r⟩
 refine⟨_,rfl,rfl,_,rfl,Ee rfl ?_⟩;have i:=S.mono e;refine⟨_,rfl,(a_ i.hp rfl ⟨_,rfl,q,a,t,x,C,d,rfl,i.hq,i.hcs,i.hn,i.hc,u.mono y,λv H4 J r4=>?_⟩)⟩;have c:=e.trans J;obtain rfl|⟨s,r⟩:=r4
 rotate_left
 ·obtain⟨G,b,rfl,I,st⟩:=id r;exists _,rfl,rfl,_,rfl;exact aq ⟨_,rfl,U c r⟩
 refine⟨_,rfl,rfl,_,rfl,Ee rfl (⟨_,rfl,_,rfl,p,q,a,t,x,C,d,rfl,S.mono c,u.mono<|y.trans J,λv H5 L r5=>?_⟩)⟩;obtain rfl|⟨s,r⟩:=r5
 ·exact j _ _ (c.trans L)<|.inl ⟨rfl,N⟩
 exact U (c.trans L) r
theorem J1(F:Fun K "all_smaller" "all_smaller" Mc f fd)(an:Fe P w K mg B 5 "next_step" oK)(ZI:Fe P w K mg B 6 "smaller_by" iE):ao P w K mg B aP 7 f fd ["sentence"] Dk:=by
 refine F.okB (N:=["sentence","steps","left","step"]) λQt A O s H vs Q E sc hr h=>?_;obtain⟨p,q,t,xs,C,rfl,S,D,q'⟩:=h;refine⟨_,(ae gg
  (ae gg
  (ae gg
  (ae (hU Pt gg
   gg)
  (cr<|pv 1))))),?_⟩
 refine⟨(by simp),λl N=>?_⟩;have G:=ad N<|.lst [];have s1:=@aa H l (.lst []);generalize upd H l (.lst [])=H1 at G s1 ⊢;have S1:=S.mono G;refine⟨_,rfl,_,rfl,p,q,t,xs,C,rfl,S1,λc I=>(D.ok c I).1,λv H2 J r2=>?_⟩;exists J0 p l t C H,⟨_,p,q,xs,[],C,[],v,rfl,G.trans J,J _ _ s1,.nil,S1.mono J,D,(λV V z=>nomatch z),(λV=>rfl),r2,rfl,(λz=>by rw[<-z,S.hq]at N;cases N),by have:=D.size;simp_all⟩;rintro m σ o ⟨r,q3,X,Y,ds,L,v3,rfl,k3,a,i,S3,F3,hf,he,r3,rfl,M,as⟩;obtain⟨rfl,V⟩|⟨s,⟨T,b,rfl,U,st⟩,hk⟩:=r3
 ·exact⟨_,rfl,rfl,_,rfl,Ee rfl ⟨_,rfl,q' l Y L o k3 a i hf⟩⟩
 have Si:=st.size F3;exists _,rfl,rfl,_,rfl;rw[N3 (λz=>nomatch z)];refine aq ⟨λW H'=>∃m',m'<cJ ds/\J0 p l t C H m' W H',λV V z=>z,?_⟩;exists _,rfl,.inl ⟨rfl,_,SqL.of a⟩,_,rfl,l,_,_,rfl,rfl,a,ai (by lia);have k4:=k3.upd_new N<|.lst<|Y++[.ref b];have S4:=S3.but (o:=.lst<|Y++[.ref b]) a M;have j:=i.but (o:=.lst<|Y++[.ref b]) a;have d:upd o l (.lst<|Y++[.ref b]) b=gV (.tup s.zs):=by rw[af λz=>by simp_all];exact U
 have g:=@aa o l (.lst<|Y++[.ref b]);generalize upd o l _=H4 at k4 S4 j d g ⊢;refine⟨_,rfl,_,rfl,r,q3,b,t,X,ds,T,s,rfl,S4,d,st,λr5 l5 us H5 u n Z ac am=>?_⟩;have F5:=F3.after st;have S5:=F5.at Z ac am;refine⟨_,rfl,r5,l5,t,us,T,rfl,S5,λc I=>(F5.ok c I).1,λv6 H6 k r6=>⟨_,Si,r5,l5,us,Y++[.ref b],T,L++[s],v6,rfl,k4.trans<|u.trans k,k _ _<|u _ _ g,cF (j.mono<|u.trans k)<|Paired.cons ⟨b,rfl,k _ _<|u _ _ d⟩ .nil,S5.mono k,F5,λs' r' e=>?_,(λz=>by simp at z),r6,rfl,(by lia),by rw[NX];show _+1+_<=_;lia⟩⟩;cases L with
 |nil=>
  cases e;rw[he rfl]at st hk;exact⟨_,st,hk⟩
 |cons x y=>
  cases e;exact hf _ _ rfl
noncomputable abbrev HA:Pk:=top 98
inductive Md (H:Hp)(v:V)(c:ab Int)(b:N6):Prop
 |mk (t lf:C')(e:v=.ref t)(h:H t=gV (.tup [.ref lf,.bl b]))(a:H lf=gV (.tup<|c.map V.int))(d:c.length<=900)(f:∀l∈c,1<=absI l)
def OV(H:Hp)(o:Int×ab Int×N6)(k:aK×V):Prop:=k.1=.inl o.1/\Md H k.2 o.2.1 o.2.2
noncomputable def Me(t:Str)(c:ab (ab Int))(h:N6):Nx->ab (Int×ab Int×N6)
 |.unit i=>if h=NU then [(absI<|(c.getD i []).getD 0 0,[],decide (0<(c.getD i []).getD 0 0))]else []
 |_=>[]
theorem NS(c:ab Int)(d:H D=gV (.dK []))(h:H p=gV (.tup [.ref e,.bl b]))(a:H e=gV (.tup<|c.map V.int))(f:c.length<=900)(g:∀l∈c,1<=absI l):Paired (OV<|upd H D<|.dK [((.inl (absI z):aK),.ref p)]) [(absI z,c,b)] [((.inl (absI z):aK),.ref p)]:=
 .cons ⟨rfl,p,e,rfl,by rwa[af λz=>by simp_all],by rwa[af λz=>by simp_all],f,g⟩ .nil
theorem F8(P:St->Hp->Prop)(c:∀R,(∀a h,P a h->R a h)->s {D with nx:=R} b H)(n:∀a h,P a h->d D a h):oY s d D b H:=c _ n
inductive vS (vs:ab V)(H:Hp)(Q:VK)(E:XK):Prop
 |mk (p q:C')(t:Str)(xs:ab V)(c ds:ab (ab Int))(b:C')(i:Nat)(hw:N6)(h0:vs=[.ref p,.ref b,.str<|ax hw])(d:SentAt H p q t xs c)(e:H b=gV (.tup (Nx.unit i).zs))(f:Stp t c (.unit i) ds)
  (g:∀(a:C') (kvs:ab (aK×V)) (h:Hp),Same H h->H a=N4->h a=gV (.dK kvs)->Paired (OV h) (Me t c hw<|.unit i) kvs->Q (.ref a) h):vS vs H Q E
structure PrsAt (H:Hp)(ts:ab C')(kvs:ab (aK×V)):Prop where
 len:ts.length=kvs.length
 at_:∀(j:Nat) (t:C') (k:aK) (v:V),ts[j]?=gV t->kvs[j]?=gV (k,v)->H t=gV (.tup [kV k,v])
theorem PrsAt.but(h:PrsAt H T s)(a:H D=gV (.lst y)):PrsAt (upd H D<|.lst Z) T s:=
 ⟨h.len,λj t k v e E=>by
  have:=h.at_ j t k v e E;rwa[af λz=>by simp_all]⟩
theorem PrsAt.mono(h:PrsAt H T s)(k:Same H a):PrsAt a T s:=⟨h.len,λj t b v e E=>k _ _<|h.at_ j t b v e E⟩
theorem PrsAt.snoc(h:PrsAt H T s)(b:H t=gV (.tup [kV k,v])):PrsAt H (T++[t]) (s++[(k,v)]):=
 ⟨by rw[NX,NX,h.len];rfl,λj c d f e E=>by
  by_cases a:j<T.length
  ·rw[OA a]at e;rw[OA<|by rwa[<-h.len]]at E;exact h.at_ j c d f e E
  rw[Ow<|by simp_all]at e;rw[Ow (by have:=h.len;simp_all),<-h.len]at E;have g:j-T.length=0:=by
   have:=(NT.mp e).1;simp_all
  simp_all⟩
theorem F9(F:Fun K "own_values" "own_values" HA f r)(T:Bl m)(X:Fe P w K m B 3 "dropped" dR)(J:Fe P w K m B 2 "is_of" iD):ao P w K m B aP 4 f r ["sentence","step","hand"] vS:=by
 refine F.okB (N:=["sentence","step","hand","clauses","clause","left","literal","lesser"]) λL A o s H M Q E O Y h=>?_;obtain⟨p,q,t,Z,C,ds,b,i,u,rfl,S,c,k,g⟩:=h;have W:∀x y,x≠y->decide (V.str x=V.str y)=false:=λx y h=>N3 λz=>h<|V.str.inj z;refine⟨_,(ae gg
  (ae (aO gg (ae gg
   (ae gg
   (cr<|bv (fi rfl) rfl T.dict Rt<|gY<|jR ["literal","left"] [N4,gV 5] (bQ<|pv 4) (t:=λR R R R=>(eR<|eO (i_ (K:=K) rfl) (pv 0) (pv 1)<|by rfl))))) ay)
  (ae (aO gg (ae gg
   (cr<|jQ gg gg)) ay)
  (ae (aO gg (cr<|jQ gg gg) ay)
  (ae (aO gg (ae (GY 7 ["literal","step"] [N4,gV 1] (bQ gg) (t:=λR R R R=>(eR<|By ph gg<|aR su rfl T.abs Uz<|gY<|y_ (K:=K) (pv 1) cZ)))
   (cr<|jQ gg gg)) ay)
  (cr sG)))))),?_⟩
 refine⟨_,rfl,(a_ S.hp rfl ?_)⟩;refine gN ?_;refine⟨_,rfl,(a_ c rfl<|.inl ⟨rfl,_,rfl,?_⟩)⟩;rw[W qi (NV "drop")<|by decide+kernel];refine ak ⟨_,rfl,(a_ c rfl<|.inl ⟨rfl,_,rfl,?_⟩)⟩;rw[Ob (show V.str qi=V.str (NV "unit")from rfl)];refine aq ⟨_,rfl,.inl ⟨rfl,_,rfl,?_⟩⟩;cases u with
 |true=>
  rw[Ob (show V.str (ax NU)=V.str (NV "wisher")from rfl)];obtain⟨R,v,z,j,R⟩:=k;obtain⟨tc,D,U,hm⟩:=gk S.hcs v;rw[j]at U;refine aq ⟨_,rfl,_,rfl,(a_ c rfl<|(dM S.hq (aH D)<|a_ U rfl ?_))⟩;refine gN λG N=>⟨_,rfl,z,rfl,Ou _,λe d=>⟨_,rfl,_,_,rfl,rfl,(by show 2<=sizeLine;decide),λI n=>⟨?_,[(.inl<|absI z,.ref I)],rfl,(by simp),?_⟩⟩⟩
  ·exact ad n _ _ _<|ad d _ _ _ aa
  ·exact g G _ _ (((ad N _).trans<|(ad d _).trans<|ad n _).upd_new N _) N aa (by show Paired _ [(absI<|(C.getD i []).getD 0 0,_,_)] _;rw[j];exact NS [] (ad n _ _ _<|ad d _ _ _ aa) aa (ad n _ _ _ aa) (by simp) λR z=>nomatch z)
 |false=>
  rw[W (ax NZ) (NV "wisher")<|by decide+kernel];refine ak ⟨_,rfl,(a_ c rfl<|.inl ⟨rfl,_,rfl,?_⟩)⟩;rw[W qi (NV "pure")<|by decide+kernel];refine ak ⟨_,rfl,(a_ c rfl<|.inl ⟨rfl,_,rfl,?_⟩)⟩;rw[W qi (NV "blocked")<|by decide+kernel];exact ak λa l=>g a [] _ (ad l _) l aa .nil
noncomputable abbrev HB:Pk:=top 30
noncomputable abbrev HC:Pk:=cC (top 32) 0
noncomputable abbrev xO:Pk:=cC (top 32) 1
structure J2 (K:B')(mg:Str->NW M')(CP:C'):Prop where
 tuple:mg "tuple"=N4
 dict:mg "dict"=N4
 cl:Cls K CP
 ne:NoAttr K CP "entries"
abbrev gr:=Int×ab (ab Int×N6)×N6
inductive RuleAt (H:Hp)(r:ab Int×N6)(x:V):Prop
 |mk (q s:C')(hx:x=.ref q)(h:H q=gV (.tup [.ref s,.bl r.2]))(a:H s=gV (.tup<|r.1.map V.int))
structure RulesAt (H:Hp)(YB:ab (ab Int×N6))(xs:ab V):Prop where
 len:xs.length=YB.length
 at_:∀(i:Nat) (x:V),xs[i]?=gV x->∃r,YB[i]?=gV r/\RuleAt H r x
inductive EntAt (H:Hp)(F:C'->Prop)(e:gr)(x:V):Prop
 |mk (p lr:C')(rs:ab V)(hx:x=.ref p)(h:H p=gV (.tup [.int e.1,.ref lr,.bl e.2.2]))(a:H lr=gV (.lst rs))(b:RulesAt H e.2.1 rs)(c:F lr)
structure EntsAt (H:Hp)(F:C'->Prop)(es:ab gr)(xs:ab V):Prop where
 len:xs.length=es.length
 at_:∀(i:Nat) (x:V),xs[i]?=gV x->∃e,es[i]?=gV e/\EntAt H F e x
inductive OwnE (H:Hp)(e:gr)(t:C'):Prop
 |mk (tr:C')(rs:ab V)(h:H t=gV (.tup [.ref tr,.bl e.2.2]))(a:H tr=gV (.tup rs))(b:RulesAt H e.2.1 rs)
inductive PlayerAt (H:Hp)(C x:C')(E:ab gr):Prop
 |mk (dx d:C')(kvs:ab (aK×V))(h:H x=gV (.ins C dx [("entries",.ref d)]))(a:H d=gV (.dK kvs))(hn:∀v:Int,(∀e∈E,e.1≠v)->bh kvs (.inl v)=N4)(s:∀e∈E,∃t,bh kvs (.inl e.1)=gV (.ref t)/\OwnE H e t)
def NF:HO->Prop
 |.lst _=>False
 |_=>True
def Kept(H h:Hp):Prop:=∀b o,NF o->H b=gV o->h b=gV o
theorem Same.kept(k:Same H h):Kept H h:=λb o z e=>k b o e
theorem RuleAt.mono(h:RuleAt H r x)(k:Kept H a):RuleAt a r x:=by
 obtain⟨q,s,b,c,d⟩:=h;exact⟨q,s,b,k _ _ trivial c,k _ _ trivial d⟩
theorem RulesAt.mono(h:RulesAt H X s)(k:Kept H c):RulesAt c X s:=
 ⟨h.len,λi x e=>let ⟨r,a,b⟩:=h.at_ i x e;⟨r,a,b.mono k⟩⟩
theorem PlayerAt.mono(h:PlayerAt H C x E)(k:Kept H b):PlayerAt b C x E:=by
 obtain⟨d,D,s,c,f,n,g⟩:=h;refine⟨d,D,s,k _ _ trivial c,k _ _ trivial f,n,λe i=>?_⟩;obtain⟨t,a,T,r,B,j,l⟩:=g e i;exact⟨t,a,T,r,k _ _ trivial B,k _ _ trivial j,l.mono k⟩
noncomputable def rC(Y:ab (ab Int×N6))(b:ab N6)(o:N6):N6:=match Y.find? λr=>r.1.all (hit b)with
 |some r=>r.2
 |none=>o
def J3(n:Nat)(Y:ab (ab Int×N6)):Prop:=∀r∈Y,r.1.length<=900/\∀l∈r.1,1<=absI l/\absI l<=(n:Int)
theorem zL(h:1<=absI l)(H:absI l<=(B.length:Int)):cA B (absI l) (decide (0<l))=.bl (hit B l):=by
 obtain⟨e,z⟩|e:=pI (B:=B) h
 ·obtain⟨b,z,E⟩:=kI (p:=decide (0<l)) h H;simp_all
 exact e
inductive vT (vs:ab V)(H:Hp)(Q:VK)(E:XK):Prop
 |mk (p f:C')(c:ab Int)(bs:ab N6)(h0:vs=[.ref p,.ref f])(h:H p=gV (.tup<|c.map V.int))(a:H f=gV (.lst<|bs.map V.bl))(b:bs.length<=900)(d:∀l∈c,1<=absI l/\absI l<=(bs.length:Int))(q:Q (.bl<|c.all<|hit bs) H)
inductive ur (C:C')(vs:ab V)(H:Hp)(Q:VK)(E:XK):Prop
 |mk (x b:C')(s:ab gr)(e:gr)(bs:ab N6)(h0:vs=[.ref x,.int e.1,.ref b])(h:PlayerAt H C x s)(a:H b=gV (.lst<|bs.map V.bl))(c:bs.length<=900)(d:e∈s)(f:J3 bs.length e.2.1)(q:Q (.bl<|rC e.2.1 bs e.2.2) H)
inductive rD (C:C')(vs:ab V)(H:Hp)(Q:VK)(E:XK):Prop
 |mk (x dx l:C')(s:ab gr)(xs:ab V)(F:C'->Prop)(h0:vs=[.ref x,.ref l])(a:H x=gV (.ins C dx []))(c:H l=gV (.lst xs))(d:EntsAt H F s xs)(f:(s.map (·.1)).Nodup)(g:s.length<=900)(i:∀e∈s,e.2.1.length<=9000)
  (q:∀h,PlayerAt h C x s->(∀b o,b≠x->H b=gV o->h b=gV o)->Q .non h):rD C vs H Q E
theorem Dn{a:Type}{p:a->N6}{l:ab a}{i:Nat}{x:a}(h:l[i]?=gV x) (W:(l.take i).find? p=N4) (H:p x=NU):l.find? p=gV x:=by
 have e:l.take (i+1)=l.take i++[x]:=by rw[OM,h];rfl
 rw[<-PZ _ l,e,OX,Up,W,Up,Ru H];rfl
theorem zN{a:Type}{p:a->N6}{l:ab a}{i:Nat}{x:a}(h:l[i]?=gV x) (W:(l.take i).find? p=N4) (H:p x=NZ):(l.take<|i+1).find? p=none:=by
 have e:l.take (i+1)=l.take i++[x]:=by rw[OM,h];rfl
 rw[e,Up,W,Sq<|by rw[H];exact Oa];rfl
theorem zO{b:ab N6}{c:ab Int}{l:Int}(H:l∈c)(h:hit b l=NZ):c.all (hit b)=false:=by
 grind
inductive xP (p:C')(g:C')(H:Hp)(c:ab Int)(bs:ab N6)(i:Nat)(a:ab (NW V))(h:Hp):Prop
 |mk (v:NW V)(I:a=[gV<|.ref p,gV<|.ref g,v])(b:h=H)(d:(c.take i).all (hit bs)=NU)
theorem Do(F:Fun K "all_stand" "all_stand" HB f t)(Z:Fe P w K M b 1 "stands_by" jY):ao P w K M b aP 2 f t ["literals","begun"] vT:=by
 refine F.okB (N:=["literals","begun","literal"]) λC A o s H D Q E I J h=>?_;obtain⟨p,g,c,B,rfl,d,u,y,v,q⟩:=h;refine⟨_,(ae (fS 2 (bQ<|pv 0) gg)
  (cr fT)),⟨_,rfl,p,rfl,⟨_,SqT.of d⟩,dz (K:=K) (X:=c.map V.int) (xP p g H c B) ⟨N4,rfl,rfl,rfl⟩ ?_ ?_ ?_⟩⟩
 ·rintro i j k Y ⟨Y,Y,e,Y⟩;rw[e];exact SqT.of d
 ·rintro i x j k a ⟨z,rfl,rfl,r⟩;obtain⟨l,n,rfl⟩:∃l,c[i]?=gV l/\x=.int l:=by
   cases e:c[i]? with
   |none=>simp_all
   |some l=>simp_all
  have m:=N7 n;have e:c.take (i+1)=c.take i++[l]:=by rw[OM,n];rfl
  exists _,rfl,_,rfl,l,g,B,rfl,u,y,(v l m).1;rw[zL (v l m).1 (v l m).2];exists _,rfl;cases G:hit B l with
  |true=>
   refine ak ⟨_,rfl,rfl,?_⟩;simp_all
  |false=>
   rwa[zO m G]at q
 rintro j k ⟨z,rfl,rfl,r⟩;rw[Od<|by rw[J'];exact N1 _]at r;rwa[r]at q
inductive xQ (x:C')(e:gr)(b:C')(t:C')(H:Hp)(bs:ab N6)(i:Nat)(a:ab (NW V))(h:Hp):Prop
 |mk (v:NW V)(I:a=[gV (.ref x),gV (.int e.1),gV (.ref b),gV (.ref t),v])(c:h=H)(d:(e.2.1.take i).find? (λr=>r.1.all<|hit bs)=N4)
theorem zP(F:Fun K "answer" "Planned.answer" xO f I)(T:J2 K M C)(J:Fe P w K M B 2 "all_stand" vT):ao P w K M B aP 3 f I ["self","variable","begun"] (ur C):=by
 refine F.okB (N:=["self","variable","begun","entry","rule"]) λQC A o s H vs Q E sc c h=>?_;obtain⟨x,b,es,e,a,rfl,L,O,U,X,N,q⟩:=h;have v:=mT c;obtain⟨d,D,Y,j,h2,hn,hs⟩:=L;obtain⟨te,a1,t,rs,k,l,n⟩:=hs e X;have g:=DGet.k (k:=OW e.1) h2;rw[a1]at g;refine⟨_,(ae (aO (jc<|iJ v (pv 1) gg) (ap d_) ay)
  (ae (sT 3<|bz v gg (pv 1) λV V=>rfl)
  (ae (fS 4 (bQ gg) gg)
  gg))),?_⟩
 refine⟨_,rfl,_,rfl,x,C,d,_,_,rfl,j,T.cl,T.ne,rfl,D,_,rfl,g,_,rfl,ak ?_⟩;exists _,rfl,x,C,d,_,_,rfl,j,T.cl,T.ne,rfl,_,rfl,D,_,rfl,g;refine⟨_,rfl,(a_ k rfl ⟨t,rfl,⟨_,SqT.of l⟩,dz (X:=rs)
  (xQ x e b te H a) ⟨N4,rfl,rfl,rfl⟩ ?_ ?_ ?_⟩)⟩
 ·rintro i p u V ⟨V,V,e2,V⟩;rw[e2];exact SqT.of l
 ·rintro i y p u hy ⟨v4,rfl,rfl,W⟩;obtain⟨r,Z,qa,sv,rfl,z,c2⟩:=n.at_ i y hy;have m:=N7 Z;refine⟨_,rfl,(a_ z rfl ⟨_,rfl,sv,b,r.1,a,rfl,c2,O,U,(N r m).2,_,rfl,?_⟩)⟩;cases G:r.1.all _ with
  |true=>
   refine aq ⟨_,rfl,(a_ z rfl ?_)⟩;have ea:rC e.2.1 a e.2.2=r.2:=by
    unfold rC;have ef:=Dn Z W G;rw[ef]
   rwa[ea]at q
  |false=>
   exact ak ⟨_,rfl,rfl,zN Z W G⟩
 rintro p u ⟨v4,rfl,rfl,W⟩;rw[Od<|by rw[n.len];exact N1 _]at W;refine⟨_,rfl,(a_ k rfl ?_)⟩;unfold rC at q;rwa[W]at q
theorem Dp{c d:Type}{f:c->d}(e:∀a b,f a=f b->a=b){l:ab c}(h:l.Nodup):(l.map f).Nodup:=Us f (λa b H z=>H<|e a b z) h
theorem Dq(h:H D=gV (.lst y)):Kept H (upd H D<|.lst Z):=λb o n e=>by
 have a:b≠D:=λz=>by
  rw[z,h]at e;rwa[<-Ot e]at n
 rwa[af a]
theorem Kept.trans(a:Kept H d)(b:Kept d e):Kept H e:=λc o n h=>b c o n<|a c o n h
theorem OwnE.mono(h:OwnE H e t)(k:Kept H a):OwnE a e t:=by
 obtain⟨T,r,b,c,d⟩:=h;exact⟨T,r,k _ _ trivial b,k _ _ trivial c,d.mono k⟩
theorem xR:∀{s:ab (aK×V)} {j:Nat} {k:aK×V},(s.map (·.1)).Nodup->s[j]?=gV k->bh s k.1=gV k.2
 |[],_,_,_,h=>by simp at h
 |p::r,0,k,_,h=>by
  have e:p=k:=by simpa using h
  subst e;exact bY rfl
 |p::r,j+1,k,n,h=>by
  rw[OH,PU]at n;have H:r[j]?=gV k:=by assumption
  have U:¬p.1=k.1:=λe=>n.1<|e▸P4 (N7 H);rw[bV U];exact xR n.2 H
theorem ut:∀{s:ab (aK×V)} {k:aK},k∉s.map (·.1)->bh s k=N4
 |[],_,_=>rfl
 |p::r,k,h=>by
  rw[OH,Oz,not_or]at h;rw[bV λe=>h.1 e.symm];exact ut h.2
structure Pairs (H:Hp)(es:ab gr)(ts:ab C')(kvs:ab (aK×V)):Prop where
 tl:ts.length=es.length
 ks:kvs.map (·.1)=es.map λe=>(OW e.1:aK)
 tup:∀(j:Nat) (t:C') (kv:aK×V),ts[j]?=gV t->kvs[j]?=gV kv->H t=gV (.tup [kV kv.1,kv.2])
 own:∀(j:Nat) (e:gr),es[j]?=gV e->∃te,kvs[j]?=gV (OW e.1,.ref te)/\OwnE H e te
theorem Pairs.kl(h:Pairs H e t k):k.length=e.length:=by
 have:=OY P3 h.ks;simpa using this
theorem Pairs.snoc(h:Pairs H E T s)(k:Kept H g)(p:g t=gV (.tup [.int e.1,.ref i]))(q:OwnE g e i):Pairs g (E++[e]) (T++[t]) (s++[(OW e.1,.ref i)]):=by
 have l:=h.kl;refine⟨by simp[h.tl],by simp[h.ks],λj r v c f=>?_,λj u c=>?_⟩
 ·by_cases d:j<T.length
  ·rw[OA d]at c;rw[OA<|by rwa[l,<-h.tl]]at f;exact k _ _ trivial<|h.tup j r v c f
  have m:=(NT.mp c).1;rw[NX,OG]at m;have n:j=T.length:=by lia
  subst n;rw[Ow<|N1 _,PY]at c;rw[Ow (by rw[l,h.tl];exact N1 _),l,h.tl,PY]at f;cases c;cases f;exact p
 by_cases d:j<E.length
 ·rw[OA d]at c;obtain⟨o,a,b⟩:=h.own j u c;exact⟨o,by rwa[OA<|by simp_all],b.mono k⟩
 have m:=(NT.mp c).1;simp_all
theorem Pairs.player(h:Pairs H E T k)(N:(E.map (·.1)).Nodup)(f:H x=gV (.ins C D [("entries",.ref d)]))(g:H d=gV (.dK k)):PlayerAt H C x E/\(k.map (·.1)).Nodup:=by
 have n:(k.map (·.1)).Nodup:=by
  rw[h.ks];have e:(E.map λe=>(OW e.1:aK))=(E.map (·.1)).map OW:=by rw[O_];rfl
  rw[e];exact Dp (λy y z=>Qo z) N
 refine⟨⟨D,d,k,f,g,λv i=>ut ?_,λe c=>?_⟩,n⟩
 ·rw[h.ks];intro m;obtain⟨e,c,l⟩:=OT.mp m;exact i e c<|Qo l
 obtain⟨j,o⟩:=Qr.mp c;obtain⟨t,a,b⟩:=h.own j e o;exact⟨t,xR n a,b⟩
inductive xS (D:C')(H:Hp)(e:ab gr)(i:Nat)(a:ab (NW V))(ys:ab V)(h:Hp):Prop
 |mk (I:(∃v,a=[v]))(b:h D=gV (.lst ys))(c:Same H h)(t:ab C')(kvs:ab (aK×V))(d:ys=t.map V.ref)(f:Pairs h (e.take i) t kvs)
theorem F_(F:Fun K "__init__" "Planned.__init__" HC f fd)(T:J2 K mg X):ao P w K mg aC aP 1 f fd ["self","plan"] (rD X):=by
 refine F.okB (N:=["self","plan"]) λQC A an s H vs Q E sc hr h=>?_;obtain⟨x,dx,l,u,xs,G,rfl,h1,h2,h3,nd,e9,r9,q⟩:=h;exists _,(ap<|jd (pv 0) (bv (fi rfl) rfl T.dict Rt<|gY<|jR ["entry"] [N4] (aT<|pv 1) (e:=λS S S S=>(dQ<|g_ (y_ (pv 0) cZ)<|dQ<|g_ (bv (nj rfl) rfl T.tuple P1<|gY<|y_ (pv 0) cZ)<|y_ (pv 0) cZ))) rfl);refine⟨_,rfl,l,rfl,⟨_,SqL.of h2⟩,λD hD=>?_⟩;refine cy (K:=K) (xs:=xs) (xS D H u)
  ⟨⟨N4,rfl⟩,aa,ad hD _,[],[],rfl,⟨rfl,rfl,λj t kv e=>by grind,λj e e1=>by simp_all⟩⟩ ?_ ?_ ?_
 ·rintro i σ ys v S ⟨S,Y,k,S⟩;exact⟨Y,SqL.of<|k _ _ h2⟩
 ·rintro i y σ ys v hy ⟨⟨v0,rfl⟩,Y,k,B,a,rfl,c⟩;obtain⟨e,he,p,lr,O,rfl,p1,p2,p3,S⟩:=h3.at_ i y hy;have I:=k _ _ p1;have as:=k _ _ p2;have Sv:=(NT.mp he).1;have et:u.take (i+1)=u.take i++[e]:=by rw[OM,he];rfl
  refine cq ⟨_,rfl,(a_ I rfl ⟨_,rfl,(a_ I rfl ⟨lr,_,rfl,.inl ⟨SqL.of as,λm Z=>⟨_,rfl,(a_ (ad Z _ _ _ I) rfl ⟨(by show 2<=sizeLine;decide),λn ac=>⟨(by show 2<=sizeLine;decide),λU J=>?_⟩⟩)⟩⟩⟩)⟩)⟩;have L:=ad Z<|.tup O;have M:=CB L;generalize upd v m _=N at L M ac J ⊢;have k4:=ad ac<|.tup [.ref m,.bl e.2.2];have s4:=CB k4;generalize upd N n (.tup [.ref m,.bl _])=H4 at k4 s4 J ⊢;have k5:=ad J<|.tup [.int e.1,.ref n];have s5:=CB k5;generalize upd H4 U (.tup _)=H5 at k5 s5 ⊢;have g:=L.trans<|k4.trans k5;have am:=g _ _ Y;have kd:=Dq (Z:=(B++[U]).map V.ref) am;refine⟨am,?_,⟨_,rfl⟩,aa,?_,B++[U],a++[(OW e.1,.ref n)],by simp,?_⟩
  ·rw[J',c.tl];exact ai (by grind)
  ·exact(k.trans g).upd_new hD _
  rw[et];have e1:B.map V.ref++[V.ref U]=(B++[U]).map V.ref:=by simp
  rw[e1];exact c.snoc ((Same.kept g).trans kd) (kd _ _ trivial s5) ⟨m,O,kd _ _ trivial<|k5 _ _ s4,kd _ _ trivial<|k5 _ _<|k4 _ _ M,(p3.mono<|Same.kept<|k.trans g).mono kd⟩
 rintro σ ys v ⟨S,Y,k,B,a,rfl,c⟩;rw[Od<|by rw[h3.len];exact N1 _]at c;have x2:=k _ _ h1;refine⟨D,B,a,rfl,Y,by rw[c.kl,c.tl],c.tup,?_,by rw[c.kl];exact O6 e9 (by simp),λW av=>?_⟩
 ·have e:(u.map λe=>(OW e.1:aK))=(u.map (·.1)).map OW:=by rw[O_];rfl
  rw[c.ks,e];exact Dp (λS S z=>Qo z) nd
 have L:=ad av<|.dK a;have M:=CB L;generalize upd v W _=N at L M ⊢;have x3:=L _ _ x2;have Wi:W≠x:=λz=>by lia
 exists _,rfl,x,X,dx,[],rfl,x3,T.cl,T.ne,(by simp);have kx:∀b o,b≠x->N b=gV o->upd N x (.ins X dx [("entries",.ref W)]) b=gV o:=λb o hb e=>by rwa[af hb]
 refine q _ ?_ λb o hb e=>kx b o hb<|L _ _<|k _ _ e;have az:Pairs (upd N x<|.ins X dx [("entries",.ref W)]) u B a:=by
  have kk:∀b o,(∀C d fs,o≠.ins C d fs)->v b=gV o->upd N x _ b=gV o:=λb o ho e=>kx b o (by grind) (L _ _ e)
  refine⟨c.tl,c.ks,λj t kv a1 a2=>kk _ _ (by lia)<|c.tup j t kv a1 a2,λj e a1=>?_⟩;obtain⟨n,b1,m,O,c1,c2,c3⟩:=c.own j e a1;refine⟨n,b1,m,O,kk _ _ (by lia) c1,kk _ _ (by lia) c2,c3.len,λi y hy=>?_⟩;obtain⟨r,d1,qa,sv,rfl,d2,d3⟩:=c3.at_ i y hy;exact⟨r,d1,qa,sv,rfl,kk _ _ (by lia) d2,kk _ _ (by lia) d3⟩
 exact(az.player nd aa<|kx _ _ Wi M).1
noncomputable abbrev HE:Pk:=top 17
def Dr:Sp:=λv H Q _=>∃(p f:C') (c:ab Int) (b:ab N6),v=[.ref p,.ref f]/\H p=gV (.tup<|c.map V.int)/\H f=gV (.lst<|b.map V.bl)/\b.length<=900/\c.length<=900/\(∀l∈c,1<=absI l)/\∀h:Hp,Same H h->Q (.bl<|c.any<|hit b) h
theorem Ga(F:Fun K "some_stands" "some_stands" HE f e)(T:Bl m)(Z:Fe P w K m b 1 "stands_by" jY):ao P w K m b aP 2 f e ["clause","filling"] Dr:=by
 refine F.okB (N:=["clause","filling"]) λC A o s H y Q E G I h=>?_;obtain⟨p,g,c,B,rfl,a,i,j,n,v,q⟩:=h;exists _,(cr<|aR (ie rfl) rfl T.any RJ<|gY<|jR ["literal","filling"] [N4,gV 1]<|bQ<|pv 0);refine⟨_,rfl,p,rfl,⟨_,SqT.of a⟩,λD d=>cz [gV<|.ref g] _ (GR λl=>cA B (absI l) (decide (0<l))) rfl a d (by rw[J'];lia) (λY Y Y Y Y r=>r) ?_ ?_⟩
 ·intro x t Y J R k r;obtain⟨z,u,rfl⟩:=cX t;exact⟨_,rfl,_,rfl,z,g,B,rfl,k _ _ i,j,v z u,r⟩
 rw[u9,O_];refine⟨D,_,rfl,SqL.of aa,?_,?_⟩
 ·exact tj c B
 rw[u_ c B v];exact q _<|ad d _
abbrev Ans:=Nat->ab N6->N6
noncomputable def fM(E:ab gr)(i:Nat)(b:ab N6):N6:=match E.find? λe=>decide (e.1=1+(i:Int))with
 |some e=>rC e.2.1 b e.2.2
 |none=>NZ
noncomputable def ownB(t:Str)(h:N6)(i:Nat):N6:=bJ t i == h
structure PlanOk (es:ab gr)(t:Str)(hw:N6):Prop where
 has:∀i,i<t.length->ownB t hw i=NU->∃e,es.find? (λe=>decide (e.1=1+(i:Int)))=gV e/\e∈es/\e.1=1+(i:Int)
 near:∀e∈es,∃i:Nat,i<t.length/\e.1=1+(i:Int)/\J3 i e.2.1
theorem PlanOk.nearAt{E:ab gr}{t:Str}{H:N6}(h:PlanOk E t H){e:gr}{i:Nat}(a:e∈E)(b:e.1=1+(i:Int)):J3 i e.2.1:=by
 obtain⟨j,z,c,n⟩:=h.near e a;have:j=i:=by lia
 rwa[<-this]
theorem Gb(t:Str)(h:N6)(i:Nat):decide (bJ t i=h)=ownB t h i:=by
 rfl
theorem dec_wish(b:N6):decide (V.str (ax b)=V.str (NV "wisher"))=b:=by
 have z:=dD b NU;have Z:ax NU=NV _:=rfl;simp_all
theorem rE(b:N6)(B:ab N6):B.map V.bl++[V.bl b]=(B++[b]).map V.bl:=by simp
def Fol(A:Ans)(t:Str)(h:N6)(b:ab N6):Prop:=∀i,i<b.length->ownB t h i=NU->b[i]?=gV (A i<|b.take i)
theorem Fol.snoc(h:Fol A t H B)(g:ownB t H B.length=NU->b=A B.length B):Fol A t H (B++[b]):=λi a o=>by
 rw[NX,OG]at a;by_cases e:i<B.length
 ·rw[OA e,QG (OQ e),h i e o]
 have:i=B.length:=by lia
 subst this;rw[Ow<|N1 _,PY,wd,<-g o];rfl
noncomputable abbrev HF:Pk:=cC (top 100) 0
noncomputable abbrev Ds:Pk:=top 101
structure Mf (K:B')(mg:Str->NW M')(CP CL:C'):Prop where
 dict:mg "dict"=N4
 isinstance:mg "isinstance"=N4
 tuple:mg "tuple"=N4
 clP:Cls K CP
 clL:Cls K CL
 nv:NoAttr K CL "variables"
 ni:NoAttr K CL "innermost"
 nl:NoAttr K CL "layers"
 g_LedBack:jI mg "LedBack" (.ref CL)
 ha:O4 K (.ref CP) "__class__"=gV (gV<|.builtin "object.__class__")
 hn:VQ K (.builtin "object.__class__") "__get__"=gV (gV<|.builtin "getset_descriptor.__get__")
 htk:WZ K (.builtin "object.__class__")=gV NU
 hm:X2 K CP (.type "object")=gV NU
 kit:QV K (.ref CP) (.ref CL)=gV NZ
def LvF(H:Hp)(k:ab (aK×V))(g:Int->ab N6->N6->N6):Prop:=∀v:Int,(bh k (.inl v)=N4/\∀B i,g v B i=i)\/∃(t L:C') (c:ab Int) (b:N6),bh k (.inl v)=gV (.ref t)/\H t=gV (.tup [.ref L,.bl b])/\H L=gV (.tup<|c.map V.int)/\c.length<=900/\(∀l∈c,1<=absI l)/\∀B i,g v B i=if c.any (hit B)=NU then i else b
noncomputable def lY(os:ab (Int×ab Int×N6))(v:Int)(b:ab N6)(i:N6):N6:=match os.find? λo=>decide (o.1=v)with
 |some o=>if o.2.1.any (hit b)=NU then i else o.2.2
 |none=>i
theorem J4{H:Hp}{os:ab (Int×ab Int×N6)}{s:ab (aK×V)}(h:Paired (OV H) os s):LvF H s (lY os):=λv=>by
 induction h with
 |nil=>exact .inl ⟨rfl,λx x=>rfl⟩
 |@cons o a os s r _ I=>
  obtain⟨k,y⟩:=a;obtain⟨rfl,t,l,rfl,c,d,g,j⟩:=r;by_cases e:o.1=v
  ·refine .inr ⟨t,l,o.2.1,o.2.2,?_,c,d,g,j,λb i=>?_⟩
   ·have f:((OW o.1,V.ref t)::s).find? (λa=>decide (a.1=(OW v)))=gV _:=Ru (Ob<|by rw[e]);unfold bh;rw[f];rfl
   have f:(o::os).find? (λo=>decide (o.1=v))=gV o:=Ru (Ob e);unfold lY;rw[f]
  have E:bh ((OW o.1,V.ref t)::s) (.inl v)=bh s (.inl v):=by
   have f:((OW o.1,V.ref t)::s).find? (λa=>decide (a.1=(OW v)))=s.find? _:=Sq (λz=>e<|Qo<|Oo z);unfold bh;rw[f]
  have m:∀b i,lY _ v b i=lY os v b i:=λb i=>by
   have f:(o::os).find? (λo=>decide (o.1=v))=os.find? _:=Sq (λz=>e<|Oo z);unfold lY;rw[f]
  rw[E];simp only[m];exact I
noncomputable def lu(e:ab gr)(t:Str)(h:N6)(b:ab N6):Nat->ab N6
 |0=>[]
 |k+1=>lu e t h b k++[if ownB t h k=NU then fM e k (lu e t h b k)else b.getD k NZ]
theorem cY(e:ab gr)(t:Str)(h:N6)(b:ab N6):∀k,(lu e t h b k).length=k
 |0=>rfl
 |k+1=>by rw[lu,NX,cY e t h b k];rfl
noncomputable def Gc(e:ab gr)(g:Int->ab N6->N6->N6)(t:Str)(h:N6):Ans:=λi b=>g ((i:Int)+1) b<|fM e i<|lu e t h b i
inductive LedX (H:Hp)(C CL x:C')(e:ab gr)(g:Int->ab N6->N6->N6)(t:Str)(hw:N6):Prop
 |mk (dx d p l a:C')(kvs:ab (aK×V))(h:H x=gV (.ins CL dx [("variables",.ref d),("innermost",.ref p),("layers",.ref l)]))(b:H d=gV (.dK ((aA t hw).map λk=>((OW k:aK),V.bl NU))))(c:H l=gV (.lst [.ref a]))(f:H a=gV (.dK kvs))(i:LvF H kvs g)(j:PlayerAt H C p e)
inductive vU (C CL:C')(vs:ab V)(H:Hp)(Q:VK)(E:XK):Prop
 |mk (x dx p q P:C')(e:ab gr)(t:Str)(xs:ab V)(c ds:ab (ab Int))(b:C')(i:Nat)(hw:N6)(h0:vs=[.ref x,.ref p,.ref b,.str<|ax hw,.ref P])(hx:H x=gV (.ins CL dx []))(a:SentAt H p q t xs c)(d:H b=gV (.tup (Nx.unit i).zs))(f:Stp t c (.unit i) ds)(g:PlayerAt H C P e)
  (q:∀h,BtX x H h->LedX h C CL x e (lY<|Me t c hw<|.unit i) t hw->Q .non h):vU C CL vs H Q E
inductive Mh (h:Hp)(D:C')(ks:ab Int)(i:Nat)(a:St)(ys:ab V)(H:Hp):Prop
 |mk (v:NW V)(t:ab C')(h0:a=[v])(b:H D=gV (.lst ys))(c:Same h H)(d:ys=t.map V.ref)(e:PrsAt H t ((ks.take i).map λk=>((OW k:aK),V.bl NU)))
theorem BtX.cls(a:H x=gV (.ins C d f))(k:BtX x H b):∀{c:ab (ab Int)} {X:ab V},CLs H c X->CLs b c X
 |_,_,.nil=>.nil
 |_,_,.cons ⟨t,e,h⟩ r=>.cons ⟨t,e,k _ _ (by lia) h⟩<|BtX.cls a k r
theorem BtX.sent(h:H x=gV (.ins C d f))(k:BtX x H a)(S:SentAt H p q t X c):SentAt a p q t X c:=
 ⟨k _ _ (λz=>by have:=S.hp;simp_all) S.hp,k _ _ (λz=>by have:=S.hq;simp_all) S.hq,k.cls h S.hcs,S.ht,S.hn,S.hok,S.hc⟩
theorem PlayerAt.monoX{CL:C'}(h:PlayerAt H C p E)(d:H x=gV (.ins CL D M))(n:p≠x)(k:∀b o,b≠x->NF o->H b=gV o->f b=gV o):PlayerAt f C p E:=by
 have t:∀b X,H b=gV _->f b=gV (.tup X):=λb X e=>k b _ (by lia) trivial e;obtain⟨D,g,s,j,c,l,m⟩:=h;refine⟨D,g,s,k _ _ n trivial j,k _ _ (by lia) trivial c,l,λe u=>?_⟩;obtain⟨T,a,v,w,A,F,B⟩:=m e u;refine⟨T,a,v,w,t _ _ A,t _ _ F,B.len,λi y z=>?_⟩;obtain⟨r,Z,q,G,I,J,L⟩:=B.at_ i y z;exact⟨r,Z,q,G,I,t _ _ J,t _ _ L⟩
section
variable {CL:C'}
theorem Gd(F:Fun K "__init__" "LedBack.__init__" HF f fd)(T:Mf K mg CP CL)(V4:Fe P w K mg B 2 "variables_of" kN)(a2:Fe P w K mg B 4 "own_values" vS):ao P w K mg B aP 5 f fd ["self","sentence","step","hand","player"] (vU CP CL):=by
 refine F.okB (N:=["self","sentence","step","hand","player"]) λQt A am s H vs Q E sc hr h=>?_;obtain⟨x,g,p,qa,m,es,t,xs,cs,ds,b,i,r,rfl,W,S,hb,an,X,q⟩:=h;obtain⟨dp,de,a3,Vd,R,R,R⟩:=id X;have ht:=S.ht;refine⟨_,(ae (jd (pv 0) (bv (fi rfl) rfl T.dict Rt<|gY<|jR ["variable"] [N4]<|aT gg) rfl)
  (ae gg
  (ae gg
  (ae (aO (du<|aR qG rfl T.isinstance U7<|g_ (pv 4)<|bK rfl T.g_LedBack) (ae gg
   (ap<|cB<|fC Pe Ud V_ pA gg gg)) ay)
  gg)))),?_⟩
 refine⟨_,rfl,_,rfl,p,t,_,r,rfl,S.hp,(O6 ht (by decide)),λl H1 k1 hl=>?_⟩;refine⟨l,rfl,⟨_,SqL.of hl⟩,λD nD=>?_⟩;have a4:=oC t r;refine cy (K:=K) (a:=l) (xs:=(aA t r).map V.int) (Mh H1 D<|aA t r) ⟨N4,[],rfl,aa,ad nD _,rfl,⟨rfl,λj t k v e=>by simp at e⟩⟩ ?_ ?_ ?_
 ·rintro i σ Y I R ⟨R,R,R,J,M,R⟩;exact⟨J,SqL.of<|M _ _ hl⟩
 ·rintro i y σ Y I hy ⟨v0,ts,rfl,J,M,rfl,u⟩;obtain⟨z,rfl,hz⟩:=cU hy;have W4:=(NT.mp hz).1;have et:=OM (l:=aA t r) (i:=i);rw[hz]at et;refine cq ⟨_,rfl,(by show 2<=sizeLine;decide),λpt as=>?_⟩;have k3:=ad as<|.tup [.int z,.bl NU];have s3:=@aa I pt (.tup [.int z,.bl NU]);generalize upd I pt (.tup [.int z,.bl NU])=Z at k3 s3 ⊢;have d3:=k3 _ _ J;have tl:=u.len;rw[J',OC]at tl;have av:pt≠D:=λe=>by lia
  exists d3,by rw[J'];exact ai (by lia),_,ts++[pt],rfl,aa,(M.trans k3).upd_new nD _,(by rw[Oy];rfl);rw[et,Oy];refine((u.mono k3).but d3).snoc ?_;rw[af av];exact s3
 rintro σ Y I ⟨R,ts,R,J,M,rfl,u⟩;rw[Od<|by rw[J'];exact N1 _]at u;refine⟨D,ts,_,rfl,J,u.len,(λi t kv e1 e2=>u.at_ i t kv.1 kv.2 e1 e2),?_,(by rw[J'];lia),λd nd=>?_⟩
 ·rw[O_];exact Us _ (λa b h z=>h<|Qo z)<|jt t r
 have kd:=ad nd<|.dK<|(aA t r).map λk=>((OW k:aK),V.bl NU);have ZH:=k1.trans<|M.trans kd;have sx:=ZH _ _ W;have sd:=@aa I d (.dK<|(aA t r).map λk=>((OW k:aK),V.bl NU));generalize upd I d _=Z at ZH sx sd ⊢;clear k1 M kd J u nd;exists _,rfl,x,CL,g,_,rfl,sx,T.clL,T.nv,(by simp);have b1:BtX x H (upd Z x<|.ins CL g [("variables",.ref d)]):=(BtX.of ZH).put;have s1:=@aa Z x (.ins CL g [("variables",.ref d)]);show oY _ _ _ _ (upd Z x<|.ins CL g [("variables",.ref d)])
 generalize e4:upd Z x (.ins CL g [("variables",.ref d)])=H4 at b1 s1 ⊢;have e4:=e4.symm;exists _,rfl,_,rfl,x,CL,g,_,rfl,s1,T.clL,T.ni,(by simp);have b2:BtX x H (upd H4 x<|.ins CL g [("variables",.ref d),("innermost",.ref m)]):=b1.put;have s2:=@aa H4 x (.ins CL g [("variables",.ref d),("innermost",.ref m)]);show oY _ _ _ _ (upd H4 x<|.ins CL g [("variables",.ref d),("innermost",.ref m)])
 generalize e5:upd H4 x (.ins CL g [("variables",.ref d),("innermost",.ref m)])=H5 at b2 s2 ⊢;have e5:=e5.symm;refine⟨Ou _,λL N=>?_⟩;have k6:=ad N<|.lst [];have s6:=@aa H5 L (.lst []);have C:=k6 _ _ s2;have b6:=b2.trans<|BtX.of k6;generalize e6:upd H5 L (.lst [])=H6 at k6 s6 C b6 ⊢;have e6:=e6.symm;exists _,rfl,x,CL,g,_,rfl,C,T.clL,T.nl,(by simp);have az:L≠x:=λe=>by lia
 have O:BtX x H (upd H6 x<|.ins CL g [("variables",.ref d),("innermost",.ref m),("layers",.ref L)]):=b6.put;have s7:=@aa H6 x (.ins CL g [("variables",.ref d),("innermost",.ref m),("layers",.ref L)]);have l7:upd H6 x (.ins CL g [("variables",.ref d),("innermost",.ref m),("layers",.ref L)]) L=gV (.lst []):=by rw[af az];exact s6
 show oY _ _ _ _ (upd H6 x<|.ins CL g [("variables",.ref d),("innermost",.ref m),("layers",.ref L)])
 generalize e7:upd H6 x (.ins CL g [("variables",.ref d),("innermost",.ref m),("layers",.ref L)])=H7 at O s7 l7 ⊢;have e7:=e7.symm;have G:d≠x:=λe=>by simp_all
 have d5:H5 d=gV (.dK<|(aA t r).map λk=>((OW k:aK),V.bl NU)):=by rw[e5,af G,e4,af G];exact sd
 have d7:H7 d=gV (.dK<|(aA t r).map λk=>((OW k:aK),V.bl NU)):=by rw[e7,af G,e6];exact ad N _ _ _ d5
 have ac:m≠x:=λe=>by
  lia
 have p7:=O _ _ ac Vd;refine⟨_,rfl,.ref m,.ref CP,CL,NZ,rfl,.ins p7 T.clP T.ha T.hn T.htk T.hm,T.kit,NZ,rfl,ak ?_⟩;have aC:=O _ _ (by lia) hb;refine⟨_,rfl,x,CL,g,_,_,rfl,s7,T.clL,T.nl,rfl,.inl ⟨rfl,_,SqL.of l7⟩,_,rfl,_,rfl,_,rfl,p,qa,t,xs,cs,ds,b,i,r,rfl,O.sent W S,aC,an,λa aF H8 U na ha aL=>?_⟩;exists L,_,_,rfl,rfl,U _ _ l7,ai (by simp);have a0:=U _ _ l7;have nn:∀{b:C'} {o:HO},H8 b=gV o->(∀Y,o≠.lst Y)->upd H8 L (.lst ([]++[.ref a])) b=gV o:=λ{b o} e h=>by
  rw[af λz=>by grind];exact e
 have hg:=J4 aL;refine q _ (λc o hc e=>?_) ⟨g,d,m,L,a,aF,nn (U _ _ s7) (by simp),nn (U _ _ d7) (by simp),aa,nn ha (by lia),λv=>?_,X.monoX W ac λb o a1 n e=>?_⟩
 ·by_cases z:c=L
  ·have:=b2 _ _ hc e;lia
  rw[af z];exact U _ _<|O _ _ hc e
 ·obtain h|⟨te,lf,c,b,e1,e2,e3,e4⟩:=hg v
  ·exact .inl h
  exact .inr ⟨te,lf,c,b,e1,nn e2 (λR z=>nomatch z),nn e3 (by lia),e4⟩
 refine nn (U _ _<|O _ _ a1 e) λY z=>?_;rwa[z]at n
inductive rF (C CL:C')(vs:ab V)(H:Hp)(Q:VK)(E:XK):Prop
 |mk (p q P:C')(e:ab gr)(t:Str)(xs:ab V)(c ds:ab (ab Int))(b:C')(i:Nat)(hw:N6)(h0:vs=[.ref p,.ref b,.str<|ax hw,.ref P])(a:SentAt H p q t xs c)(d:H b=gV (.tup (Nx.unit i).zs))(f:Stp t c (.unit i) ds)(g:PlayerAt H C P e)
  (j:∀x h,Same H h->LedX h C CL x e (lY<|Me t c hw<|.unit i) t hw->Q (.ref x) h):rF C CL vs H Q E
theorem Dt(F:Fun K "player_back" "player_back" Ds f u)(W:Fe P w K m B 6 "smaller_by" iE)(G:Jj P w K m B 5 "LedBack" CL Y e2 ["self","sentence","step","hand","player"] (vU C CL)):ao P w K m B aP 7 f u ["sentence","step","hand","player"] (rF C CL):=by
 refine F.okB (N:=["sentence","step","hand","player"]) λQt A O s H vs Q E sc hr h=>?_;obtain⟨p,q,v,y,t,X,c,D,b,i,z,rfl,S,a,k,I,J⟩:=h;exists _,gg;refine⟨_,rfl,_,rfl,p,q,b,t,X,c,D,_,rfl,S,a,k,λr l ys g j V V V V=>⟨_,rfl,_,rfl,_,rfl,_,rfl,λx d N n U_=>?_⟩⟩;have L:Same g (upd (upd g d<|.own x) x<|.ins CL d []):=λb o e=>by
  rwa[af<|ah e N,af<|ah e n]
 have Z:=j.trans L;refine⟨x,d,p,q,v,y,t,X,c,D,b,i,z,rfl,aa,⟨Z _ _ S.hp,Z _ _ S.hq,S.hcs.mono Z,S.ht,S.hn,S.hok,S.hc⟩,Z _ _ a,k,I.mono<|Same.kept Z,λM T U=>⟨rfl,J x M (λb o e=>T b o (ah e<|j.free N)<|Z _ _ e) U⟩⟩
end
noncomputable abbrev HG:Pk:=top 99
noncomputable abbrev Du:Pk:=cC (top 100) 1
noncomputable abbrev Dv:Pk:=cC (top 100) 2
structure J5 (K:B')(mg:Str->NW M')(CL:C'):Prop where
 zip:mg "zip"=N4
 range:mg "range"=N4
 cl:Cls K CL
 nv:NoAttr K CL "variables"
 ni:NoAttr K CL "innermost"
 nl:NoAttr K CL "layers"
inductive vV (vs:ab V)(H:Hp)(Q:VK)(E:XK):Prop
 |mk (a b:C')(kvs:ab (aK×V))(g:Int->ab N6->N6->N6)(v:Int)(bs:ab N6)(i:N6)(h0:vs=[.ref a,.int v,.ref b,.bl i])(c:H a=gV (.dK kvs))(d:LvF H kvs g)(e:H b=gV (.lst<|bs.map V.bl))(f:bs.length<=900)(q:∀h,Same H h->Q (.bl<|g v bs i) h)
inductive vW (C CL:C')(vs:ab V)(H:Hp)(Q:VK)(E:XK):Prop
 |mk (x fs f b:C')(e:ab gr)(g:Int->ab N6->N6->N6)(t:Str)(hw:N6)(n:Nat)(v bs:ab N6)(hn:v.length=n)(z:Int)(a:z=(n:Int)+1)(h0:vs=[.ref x,.int z,.ref fs])(c:LedX H C CL x e g t hw)(ok:PlanOk e t hw)(d:H fs=gV (.lst [.ref f,.ref b]))(i:H f=gV (.lst<|v.map V.bl))(j:H b=gV (.lst<|bs.map V.bl))(k:n<t.length)(t8:t.length<=9)(m:bs.length<=900)(o:ownB t hw n=NU)
  (q:∀(l:C') (h:Hp),Same H h->H l=N4->h l=gV (.lst [.bl<|fM e n v,.bl<|g ((n:Int)+1) bs<|fM e n v])->Q (.ref l) h):vW C CL vs H Q E
def PAl(C CL:C')(H:Hp)(x:C')(A:Ans)(t:Str)(h:N6):Prop:=∃e g,LedX H C CL x e g t h/\PlanOk e t h/\A=Gc e g t h
theorem LvF.to(h:LvF H s g)(k:∀b x,H b=gV (.tup x)->a b=gV (.tup x)):LvF a s g:=λv=>by
 obtain h|⟨t,l,c,b,e,d,f,r⟩:=h v
 ·exact .inl h
 exact .inr ⟨t,l,c,b,e,k _ _ d,k _ _ f,r⟩
theorem LedX.mono{CL:C'}(h:LedX H C CL x E g t w)(k:Same H c):LedX c C CL x E g t w:=by
 obtain⟨D,d,p,l,a,s,f,i,j,m,n,o⟩:=h;exact⟨D,d,p,l,a,s,k _ _ f,k _ _ i,k _ _ j,k _ _ m,n.to λb X e=>k _ _ e,o.mono<|Same.kept k⟩
theorem PlayerAt.off(h:PlayerAt H C x E)(k:Off T H d)(t:TabAt H T p Q):PlayerAt d C x E:=by
 have c:∀b X,H b=gV (.tup X)->d b=gV _:=λb X e=>k.at_ t e λY z=>nomatch z
 obtain⟨D,f,s,g,j,n,l⟩:=h;refine⟨D,f,s,k.at_ t g (by simp),k.at_ t j (by lia),n,λe m=>?_⟩;obtain⟨o,a,u,v,w,A,B⟩:=l e m;refine⟨o,a,u,v,c _ _ w,c _ _ A,B.len,λi y z=>?_⟩;obtain⟨r,Z,q,F,G,I,J⟩:=B.at_ i y z;exact⟨r,Z,q,F,G,c _ _ I,c _ _ J⟩
theorem PAl.mono{CL:C'}(h:PAl C CL H x A t w)(k:Same H a):PAl C CL a x A t w:=by
 obtain⟨E,g,h,o,e⟩:=h;exact⟨E,g,h.mono k,o,e⟩
theorem PAl.off{CL:C'}(h:PAl C CL H x A t w)(k:Off T H f)(c:TabAt H T p q):PAl C CL f x A t w:=by
 obtain⟨E,g,⟨D,d,P,l,a,s,i,j,m,n,r,u⟩,o,e⟩:=h;exact⟨E,g,⟨D,d,P,l,a,s,k.at_ c i (by simp),k.at_ c j (by simp),k.at_ c m (by lia),k.at_ c n (by lia),r.to (λb X e=>k.at_ c e λy z=>nomatch z),u.off k c⟩,o,e⟩
inductive vX (C CL:C')(vs:ab V)(H:Hp)(Q:VK)(E:XK):Prop
 |mk (x b:C')(A:Ans)(t:Str)(hw:N6)(bs:ab N6)(m:Nat)(h0:vs=[.ref x,.int<|(m:Int)+1,.ref b])(a:PAl C CL H x A t hw)(c:H b=gV (.lst<|bs.map V.bl))(d:m<t.length)(e:m<=bs.length)(f:bs.length<=8)(t8:t.length<=9)(o:ownB t hw m=NU)(q:∀h:Hp,Same H h->Q (.bl<|A m bs) h)
theorem xT(t:Str)(H:N6){i:Nat}{z:Int}(a:z=(i:Int)+1)(b:i<t.length):bh ((aA t H).map λk=>((OW k:aK),V.bl NU)) (.inl z)=if ownB t H i=NU then gV (.bl NU)else none:=by
 have c:∀(s:ab Int) (z:Int),bh (s.map λk=>((OW k:aK),V.bl NU)) (.inl z)=if z∈s then gV _ else none:=λs z=>by
  induction s with
  |nil=>rfl
  |cons k r I=>
   rw[OH];by_cases e:k=z
   ·rw[bY (by rw[e]),Oi<|by rw[e];exact Om]
   rw[bV (λh=>e<|Qo h)];grind
 have E:((i:Int)+1∈aA t H)↔ownB t H i=true:=by
  unfold aA ownB;rw[OT];constructor
  ·rintro⟨j,d,e⟩;have:j=i:=by lia
   subst this;exact(Oq.mp d).2
  intro h;exact⟨i,Oq.mpr ⟨Qh.mpr b,h⟩,by rfl⟩
 simp_all
inductive NG (H:Hp)(D:C')(i:Nat)(a:St)(ys:ab V)(h:Hp):Prop
 |mk (v:NW V)(h0:a=[v])(b:h D=gV (.lst ys))(c:Same H h)(d:i=0->ys=[])(e:i=1->∃f:C',ys=[.ref f]/\f≠D/\H f=N4/\h f=gV (.lst []))
inductive HH (x b F f:C')(e:ab gr)(t:Str)(hw:N6)(bs:ab N6)(m:Nat)(H:Hp)(i:Nat)(a:St)(h:Hp):Prop
 |mk (v c d g:NW V)(I:a=[gV<|.ref x,gV<|.int<|(m:Int)+1,gV<|.ref b,gV<|.ref F,v,c,d,g])(j:h f=gV (.lst<|(lu e t hw bs i).map V.bl))(k:h F=gV (.lst [.ref f]))(l:Same H h)
inductive HI (x b F f tl:C')(z:Int)(n:Nat)(r:N6)(v:ab N6)(u:ab V)(H:Hp)(i:Nat)(a:St)(h:Hp):Prop
 |mk (c d:NW V)(I:a=[gV<|.ref x,gV<|.int<|(n:Int)+1,gV<|.ref b,gV<|.ref F,gV<|.int z,gV<|.ref tl,c,d])(e:h f=gV (.lst<|(v++if i=0 then []else [r]).map V.bl))(g:h F=gV (.lst [.ref f]))(j:Same H h)(k:h tl=gV (.lst u))
section
variable {CL:C'}
theorem Ge(F:Fun K "led_value" "led_value" HG f u)(Y:Fe P w K M B 2 "some_stands" Dr):ao P w K M B aP 3 f u ["values","variable","begun","inner"] vV:=by
 refine F.okB (N:=["values","variable","begun","inner"]) λT A o s H U Q E W r h=>?_;obtain⟨a,b,x,g,v,m,i,rfl,n,y,C,D,q⟩:=h;have j:=mT r;have G:=DGet.k (k:=OW v) n;refine⟨_,(ae (aO (PW.pt<|qu (jc<|uS j (pv 1)<|pv 0)<|qt<|gD<|du<|rY Y r<|g_ (LF (bz j (pv 0) (pv 1) λX X=>rfl) cZ)<|pv 2) (cr<|LF (bz j (pv 0) (pv 1) λX X=>rfl) cZ) ay)
  (cr<|pv 3)),?_⟩
 obtain⟨e,k⟩|⟨Z,L,c,bb,e,p,I,J,N,k⟩:=y v
 ·rw[e]at G;refine⟨_,rfl,_,rfl,a,_,rfl,G,_,rfl,ak<|ak ⟨_,rfl,?_⟩⟩;have z:=q H<|Same.refl _;rwa[k]at z
 rw[e]at G;refine⟨_,rfl,_,rfl,a,_,rfl,G,_,rfl,aq ⟨_,rfl,_,rfl,a,_,rfl,G,(a_ p rfl ⟨_,rfl,L,b,c,m,rfl,I,C,D,J,N,λO l=>⟨_,rfl,?_⟩⟩)⟩⟩;have z:=q O l;rw[k]at z;cases t:c.any _ with
 |true=>
  rw[t]at z;exact ak ⟨_,rfl,z⟩
 |false=>
  rw[t]at z;have d:=DGet.k (k:=OW v)<|l _ _ n;rw[e]at d;exact aq ⟨_,rfl,_,rfl,a,_,rfl,d,(a_ (l _ _ p) rfl z)⟩
inductive HJ (x fs l s L a b:C')(z:Int)(r:N6)(v:N6)(H:Hp)(i:Nat)(c:St)(h:Hp):Prop
 |mk (d e:NW V)(I:c=[gV<|.ref x,gV<|.int z,gV<|.ref fs,gV<|.ref l,d,e])(f:h l=gV (.lst (if i=0 then [.bl r]else [.bl r,.bl v])))(g:Same H h)(j:h L=gV (.lst [.ref a]))(k:h s=gV (.lst [.ref b]))
theorem Dw(F:Fun K "answers" "LedBack.answers" Du f fd)(T:J5 K U CL)(an:rX P w K U B aP 3 CP "answer" f1 d1 ["self","variable","begun"] (ur CP))(as:Fe P w K U B 3 "led_value" vV):ao P w K U B aP 4 f fd ["self","variable","fillings"] (vW CP CL):=by
 refine F.okB (N:=["self","variable","fillings","told","values","begun"]) λQt A W s H vs Q E sc hr h=>?_;obtain⟨x,fs,C,b,Y,g,t,hw,n,D,bs,hn,z,rfl,rfl,hL,m,o,Z,hb,Ut,t8,h9,ho,q⟩:=h;obtain⟨dx,d,pl,la,a,ac,h1,h2,h3,h4,h5,h6⟩:=id hL;obtain⟨dp,de,av,p1,V⟩:=id h6;obtain⟨e,hf,p,u⟩:=m.has _ Ut ho;have ea:fM Y n D=rC e.2.1 D e.2.2:=by
  unfold fM;rw[hf]
 refine⟨_,(ae gg
  (ae (dP Pt rfl (vd rfl T.zip gg<|cR eP (pv 2) gg dA) gg
   gg)
  (cr<|pv 3))),?_⟩
 refine⟨_,rfl,x,CL,dx,_,_,rfl,h1,T.cl,T.ni,rfl,pl,dp,_,rfl,p1,rfl,_,rfl,_,rfl,(dM o rfl ⟨pl,C,Y,e,D,(by rw[u,WY];rfl),h6,Z,by lia,p,hn▸m.nearAt p u,(by show 1<=sizeLine;decide),λl I=>?_⟩)⟩;rw[<-ea];generalize fM Y n D=r at q;have J:=ad I<|.lst [.bl r];have s1:=@aa H l (.lst [.bl r]);generalize upd H l (.lst [.bl r])=H1 at J s1 ⊢;refine⟨_,rfl,x,CL,dx,_,_,rfl,J _ _ h1,T.cl,T.nl,rfl,_,rfl,1,rfl,fs,_,rfl,SqL.of<|J _ _ o,λc N=>?_⟩;have k2:=ad N<|.lst<|eJ [.ref C,.ref b] (gV 1) N4;have s2:upd H1 c (.lst<|eJ [.ref C,.ref b] (gV 1) N4) c=gV (.lst [.ref b]):=aa;generalize upd H1 c (.lst<|eJ [.ref C,.ref b] (gV 1) N4)=H2 at k2 s2 ⊢;have ZH:=J.trans k2;refine⟨la,c,rfl,rfl,⟨_,SqL.of<|ZH _ _ h3⟩,⟨_,SqL.of s2⟩,qL (K:=K) (a:=la) (b:=c) (X:=[.ref a]) (Y:=[.ref b]) (n:=1) rfl (N1 _) (HJ x fs l c la a b ((n:Int)+1) r (g ((n:Int)+1) bs r) H) ⟨N4,N4,rfl,k2 _ _ s1,ZH,ZH _ _ h3,s2⟩ ?_ ?_ ?_⟩
 ·rintro i σ j V ⟨V,V,V,V,V,g3,g4⟩;exact⟨SqL.of g3,SqL.of g4⟩
 ·rintro i y z σ j L hy hz ⟨v4,v5,rfl,g1,k3,g3,g4⟩ am;obtain rfl:i=0:=by grind
  cases hy;cases hz;have M:=ad am<|.tup [.ref a,.ref b];exists L,_,rfl,SqT.of aa,rfl,_,_,rfl,_,_,rfl,rfl;have X:upd j L (.tup _) l=gV (.lst [.bl r]):=M _ _ g1;have G:=M _ _ g3;have v:=M _ _ g4;have k:=k3.trans M;show Gx _ _ _ (upd j L<|.tup _)
  generalize upd j L (.tup _)=H4 at k X G v ⊢;exact⟨_,rfl,.inl ⟨rfl,_,SqL.of X⟩,_,rfl,_,rfl,_,rfl,_,rfl,1,rfl,(dM X rfl ⟨a,b,ac,g,_,bs,r,rfl,k _ _ h4,h5.to λb xs e=>k _ _ e,k _ _ hb,h9,λH5 O=>⟨l,_,_,rfl,rfl,O _ _ X,ai (by simp),⟨_,_,rfl,aa,(k.trans O).upd_new I _,(by rw[af<|ah h3 I];exact O _ _ G),(by rw[af<|Pw<|ah s1 N];exact O _ _ v)⟩⟩⟩)⟩
 rintro σ j ⟨v4,v5,rfl,g1,k3,V,V⟩;exact⟨_,rfl,q l j k3 I g1⟩
theorem Dx(F:Fun K "answer" "LedBack.answer" Dv f fd)(T:J5 K mg CL)(a4:rX P w K mg J aP 3 CP "answer" f1 d1 ["self","variable","begun"] (ur CP))(ac:rX P w K mg J aP 4 CL "answers" f2 d2 ["self","variable","fillings"] (vW CP CL)):ao P w K mg J aP 5 f fd ["self","variable","begun"] (vX CP CL):=by
 refine F.okB (N:=["self","variable","begun","fillings","lesser","told","filling","value"]) λQt A aC s H vs Q E sc hr h=>?_;obtain⟨x,b,A0,t,j,B,m,rfl,aF,hb,am,a5,a6,t8,ho,q⟩:=h;obtain⟨u,g,hL,an,rfl⟩:=aF;have hu:=hr.units;have U1:=mT hr;obtain⟨dx,d,pl,la,a,a7,h1,h2,h3,h4,h5,h6⟩:=id hL;have gt:=DGet.k (k:=OW<|(m:Int)+1) h2;rw[xT t j rfl am,Oi ho]at gt;refine⟨_,(ae (aO (jc<|iJ U1 (pv 1) gg) gg ay)
  (ae (GY 3 ["values"] [N4]<|aT gg)
  (ae (dP Pt rfl (pf rfl T.range gg) (jy (i:=4) sc.nd rfl<|Wa rfl)
   (ae (aO (jc<|uS U1 (pv 4) gg) (ap<|sT 5<|il ac (pv 0) hr (by simp)<|g_ (pv 4)<|cm eK (pv 3) gg)<|ap<|GY 5 ["filling","begun","lesser"] [N4,gV 2,gV 4] (aT<|pv 3) (e:=λS S S S=>(y_ (K:=K) (pv 1) gg)))
   (ap (dP Pt rfl (vd rfl T.zip (pv 3)<|pv 5) gg
    gg))))
  (cr<|LF (il ac (pv 0) hr (by simp)<|g_ (pv 1)<|cm eK (pv 3) gg) gg)))),?_⟩
 refine⟨_,rfl,_,rfl,x,CL,dx,_,_,rfl,h1,T.cl,T.nv,rfl,d,_,rfl,gt,_,rfl,ak ?_⟩;refine⟨_,rfl,x,CL,dx,_,_,rfl,h1,T.cl,T.nl,rfl,la,rfl,⟨_,SqL.of h3⟩,λD nD=>?_⟩;refine cy (K:=K) (a:=la) (xs:=[.ref a]) (NG H D) ⟨N4,rfl,aa,ad nD _,λS=>rfl,λz=>nomatch z⟩ ?_ ?_ ?_
 ·rintro i M ys H2 S ⟨S,S,Y,Z,S,S⟩;exact⟨Y,SqL.of<|Z _ _ h3⟩
 ·rintro i y M ys H2 hy ⟨v0,rfl,Y,Z,e0,S⟩;obtain rfl:i=0:=by have:=(NT.mp hy).1;simp_all
  obtain rfl:=e0 rfl;refine cq ⟨Ou _,λc o=>?_⟩;have k3:=ad o<|.lst [];have C:c≠D:=λz=>by lia
  exact⟨k3 _ _ Y,ai (by simp),_,rfl,aa,(Z.trans k3).upd_new nD _,(by simp),λS=>⟨c,rfl,C,Z.free o,by rw[af C];exact aa⟩⟩
 rintro M ys H2 ⟨S,S,Y,Z,S,e1⟩;obtain⟨c,rfl,C,o,aL⟩:=e1 rfl;have en:((m:Int)+1-1).toNat=m:=by simp
 refine⟨_,rfl,_,_,rfl,by lia,ki (lo:=1) (n:=((m:Int)+1-1).toNat)
  (HH x b D c u t j B m H) ⟨N4,N4,N4,N4,rfl,aL,Y,Z⟩ ?_ ?_⟩
 ·rintro i M H4 hi ⟨v4,v5,v6,v7,rfl,O,U,G⟩;rw[en]at hi;have hit:i<t.length:=WO hi am
  have as:=DGet.k (k:=OW (1+(i:Int)))<|G _ _ h2;rw[xT t j (WY _ _) hit]at as;refine F8 (λa0 H'=>∃r p us,a0=[gV<|.ref x,gV<|.int<|(m:Int)+1,gV<|.ref b,gV<|.ref D,gV<|.int (1+(i:Int)),gV<|.ref p,v6,v7]/\Same H H'/\H' c=gV (.lst<|(lu u t j B i).map V.bl)/\H' D=gV (.lst [.ref c])/\H' p=gV (.lst<|.bl r::us)/\p≠c/\lu u t j B (i+1)=lu u t j B i++[r]) (λR hR=>?_) ?_
  ·exists _,rfl,_,rfl,x,CL,dx,_,_,rfl,G _ _ h1,T.cl,T.nv,rfl,d,_,rfl,as,_,rfl;cases go:ownB t j i with
   |true=>
    rw[Oi rfl];refine aq ⟨_,rfl,x,dx,_,rfl,G _ _ h1,rfl,_,rfl,_,rfl,_,rfl,(by show 1<=sizeLine;decide),λW n1=>?_⟩;have I:=ad n1<|.lst [.ref b];refine⟨D,W,_,_,rfl,rfl,I _ _ U,aa,(by show 2<=sizeLine;decide),λL n2=>?_⟩;have l:=I.trans<|ad n2<|.lst ([.ref c]++[.ref b]);have s6:upd (upd H4 W<|.lst [.ref b]) L (.lst ([.ref c]++[.ref b])) L=gV (.lst [.ref c,.ref b]):=aa;generalize upd (upd H4 W<|.lst [.ref b]) L (.lst ([.ref c]++[.ref b]))=H6 at l s6 ⊢;have e:=G.trans l;refine⟨x,L,c,b,u,g,t,j,i,lu u t j B i,B,cY _ _ _ _ _,_,WY _ _,rfl,hL.mono e,an,s6,l _ _ O,e _ _ hb,hit,t8,O6 a6 (by decide),go,λp H7 v N X=>hR _ _ ⟨_,p,_,rfl,e.trans v,v _ _<|l _ _ O,v _ _<|l _ _ U,X,(λz=>by rw[z,l _ _ O]at N;cases N),by rw[lu,go,Oi rfl]⟩⟩
   |false=>
    rw[Oh Oa];refine ak ⟨_,rfl,D,rfl,⟨_,SqL.of U⟩,λp N=>?_⟩;have av:B[i]?=gV (B.getD i NZ):=by rw[A',K'<|by exact Pb hi a5];rfl
    have ef:lu u t j B (i+1)=lu u t j B i++[B.getD i NZ]:=by rw[lu,go,Oh Oa]
    generalize B.getD i NZ=r at av ef;refine cE [gV<|.ref b,gV<|.int (1+(i:Int))] (λS=>NU) (λS=>.bl r) rfl U N (by simp) (λS S S S S r=>r) (λy hy S H' R k rr=>⟨_,rfl,_,rfl,_,_,rfl,rfl,(dM (k _ _<|G _ _ hb) (by rw[show(1:Int)+(i:Int)-1=(i:Int) by lia];exact aH<|by simp_all) rr)⟩) ?_;have I:=ad N<|.lst<|(([V.ref c].filter λS=>NU).map λS=>.bl r);exact hR _ _ ⟨r,p,[],rfl,G.trans I,I _ _ O,I _ _ U,aa,(by lia),ef⟩
  rintro M H7 ⟨r,p,us,rfl,a1,f5,d5,az,a2,ef⟩;refine⟨_,rfl,_,rfl,D,p,rfl,rfl,⟨_,SqL.of d5⟩,⟨_,SqL.of az⟩,qL (K:=K) (a:=D) (b:=p) (X:=[.ref c]) (Y:=.bl r::us) (n:=1) rfl (SZ<|Ou _) (HI x b D c p (1+(i:Int)) m r (lu u t j B i) (.bl r::us) H) ⟨_,_,rfl,(by simp_all),d5,a1,az⟩ ?_ ?_ ?_⟩
  ·rintro n M H6 S ⟨S,S,S,S,z2,S,z4⟩;exact⟨SqL.of z2,SqL.of z4⟩
  ·rintro n y z M H6 t1 hy hz ⟨w6,w7,rfl,z1,z2,l,z4⟩ a3;obtain rfl:n=0:=by grind
   cases hy;cases hz;have v:=ad a3<|.tup [.ref c,.bl r];exists t1,_,rfl,SqT.of aa,rfl,_,_,rfl,_,_,rfl,rfl;rw[Oi rfl,Pd]at z1;exists _,rfl,.inl ⟨rfl,_,SqL.of<|v _ _ z1⟩,_,rfl,c,_,_,rfl,rfl,v _ _ z1,(by rw[J',cY];exact ai<|by lia);exact⟨_,_,rfl,(by rw[aa,Oh (by decide),<-rE]),(by rw[af<|Pw C];exact v _ _ z2),(l.trans v).upd_new o _,(by rw[af a2];exact v _ _ z4)⟩
  rintro M H6 ⟨w6,w7,rfl,z1,z2,l,S⟩;rw[Oh (by decide),<-ef]at z1;exact⟨_,_,_,_,rfl,z1,z2,l⟩
 rintro M H4 ⟨v4,v5,v6,v7,rfl,O,U,G⟩;rw[en]at O;refine⟨_,rfl,x,dx,_,rfl,G _ _ h1,rfl,_,rfl,_,rfl,_,rfl,(by show 1<=sizeLine;decide),λW n1=>?_⟩;have I:=ad n1<|.lst [.ref b];refine⟨D,W,_,_,rfl,rfl,I _ _ U,aa,(by show 2<=sizeLine;decide),λL n2=>?_⟩;have l:=I.trans<|ad n2<|.lst ([.ref c]++[.ref b]);have s6:upd (upd H4 W<|.lst [.ref b]) L (.lst ([.ref c]++[.ref b])) L=gV (.lst _):=aa;generalize upd (upd H4 W<|.lst _) L (.lst _)=H6 at l s6 ⊢;have e:=G.trans l;refine⟨x,L,c,b,u,g,t,j,m,lu u t j B m,B,cY _ _ _ _ _,_,rfl,rfl,hL.mono e,an,s6,l _ _ O,e _ _ hb,am,t8,O6 a6 (by decide),ho,λp H7 v N X=>⟨1,rfl,(dM X rfl<|q H7<|e.trans v)⟩⟩
end
noncomputable abbrev NH:Pk:=top 33
def PAp(C CL:C')(H:Hp)(x:C')(A:Ans)(t:Str)(h:N6):Prop:=PAl C CL H x A t h\/∃e,PlayerAt H C x e/\PlanOk e t h/\A=fM e
theorem PAp.mono{CL:C'}(h:PAp C CL H x A t w)(k:Same H a):PAp C CL a x A t w:=by
 obtain h|⟨e,h,o⟩:=h
 ·exact .inl<|h.mono k
 exact .inr ⟨e,h.mono<|Same.kept k,o⟩
theorem PAp.off{CL:C'}(h:PAp C CL H x A t w)(k:Off T H a)(b:TabAt H T p q):PAp C CL a x A t w:=by
 obtain h|⟨e,h,o⟩:=h
 ·exact .inl<|h.off k b
 exact .inr ⟨e,h.off k b,o⟩
def PAe(C CL:C')(H:Hp)(x:C')(e:Ans)(t:Str)(h:N6):Prop:=∃T:Str,t.length<=T.length/\T.length<=9/\(∀i,i<t.length->ownB T h i=ownB t h i)/\PAp C CL H x e T h
theorem PAe.mono{CL:C'}(h:PAe C CL H x e t w)(k:Same H f):PAe C CL f x e t w:=by
 obtain⟨T,a,b,c,d⟩:=h;exact⟨T,a,b,c,d.mono k⟩
theorem PAe.off{CL:C'}(h:PAe C CL H x e t w)(k:Off f H g)(i:TabAt H f p q):PAe C CL g x e t w:=by
 obtain⟨T,a,b,c,d⟩:=h;exact⟨T,a,b,c,d.off k i⟩
inductive Dy (C CL:C')(vs:ab V)(H:Hp)(Q:VK)(E:XK):Prop
 |mk (p x b:C')(t:Str)(w:V)(hw:N6)(e:Ans)(B:ab N6)(h0:vs=[.ref p,.str<|ax hw,.ref x,.ref b])(a:H p=gV (.tup [.str t,w]))(c:t.length<=9)(d:PAe C CL H x e t hw)(f:H b=gV (.lst<|B.map V.bl))(g:B.length<=t.length)(i:Fol e t hw B)
  (q:∀(l:C') (h:Hp) (bs:ab N6),Same H h->H l=N4->h l=gV (.lst<|bs.map V.bl)->Fol e t hw bs->B.length<=bs.length->bs.length<=t.length->(bs.length<t.length->ownB t hw bs.length=NZ)->Q (.ref l) h):Dy C CL vs H Q E
section
variable {CL:C'}
inductive xU (p x b l:C')(t:Str)(hw:N6)(e:Ans)(B:ab N6)(H:Hp)(m:Nat)(a:St)(h:Hp):Prop
 |mk (v:ab N6)(i:a=[gV<|.ref p,gV<|.str<|ax hw,gV<|.ref x,gV<|.ref b,gV<|.ref l])(I:h l=gV (.lst<|v.map V.bl))(c:v.length+m=t.length)(d:Fol e t hw v)(f:B.length<=v.length)(g:Same H h)
theorem Mi{f4 f5:C'}{d4 d5:Oc}(F:Fun K "played_on" "played_on" NH f fd)(T:Bl M)(RA:Fe P w K M B 1 "hand_of" eN)
  (L:rX P w K M B aP 3 U "answer" f5 d5 ["self","variable","begun"] (ur U)) (W:rX P w K M B aP 5 CL "answer" f4 d4 ["self","variable","begun"] (vX U CL)):ao P w K M B aP 6 f fd ["sentence","hand","player","begun"] (Dy U CL):=by
 refine F.okB (N:=["sentence","hand","player","begun","filling"]) λQt A X s H vs Q E sc hr h=>?_;obtain⟨p,x,b,t,w,i,j,c,rfl,h1,t8,⟨Y,tl,T8,to,Vd⟩,hb,an,hF,q⟩:=h;refine⟨_,(ae gg
  (ae (hU Pt gg
   (ap<|cB<|fC Pe PX Qb cK (pv 4)<|gY<|Ju (il L gg hr (by simp) gg)<|il W gg hr (by simp) gg))
  (cr<|pv 4))),?_⟩
 refine⟨_,rfl,b,_,rfl,.inl<|SqL.of hb,λl N=>?_⟩;have k1:=ad N<|.lst<|c.map V.bl;have s1:=@aa H l (.lst<|c.map V.bl);generalize upd H l (.lst<|c.map V.bl)=H1 at k1 s1 ⊢;exists xU p x b l t i j c H,⟨t.length-c.length,c,rfl,s1,by simp_all,hF,N1 _,k1⟩;rintro m σ I ⟨v,rfl,G,g2,Z,g5,n⟩;have g0:=n _ _ h1;have as:p≠l:=(by lia);refine⟨_,rfl,.ref l,_,rfl,.inl ⟨_,SqL.of G,rfl⟩,_,rfl,(a_ g0 rfl ⟨.str t,_,rfl,⟨OQ (ai<|O6 t8 (by decide)),rfl⟩,_,_,rfl,rfl,_,rfl,?_⟩)⟩;rw[J'];cases m with
 |zero=>
  rw[N3 (by lia:¬(v.length:Int)<(t.length:Int))];exact ak<|ak ⟨_,rfl,q l I v n N G Z g5 (Ui g2) λz=>by simp_all⟩
 |succ m=>
  rw[Ob (by lia:(v.length:Int)<(t.length:Int))];refine aq ?_;have hi:v.length<t.length:=by lia
  refine⟨_,rfl,_,rfl,.ref l,_,rfl,.inl ⟨_,SqL.of G,rfl⟩,_,_,rfl,rfl,p,t,w,v.length,?_,g0,hi,O6 t8 (by decide),_,rfl,.inl ⟨rfl,_,rfl,?_⟩⟩
  ·rw[J'];rfl
  rw[dD,Gb];cases go:ownB t i v.length with
  |true=>
   have ac:=Vd.mono n;have o:v.length<Y.length:=Pb hi tl
   have r:ownB Y i v.length=true:=by simp_all
   have UG:∀u,Same I u->xU p x b l t i j c H m [gV<|.ref p,gV<|.str<|ax i,gV<|.ref x,gV<|.ref b,gV<|.ref l] (upd u l<|.lst<|v.map V.bl++[.bl<|j v.length v]):=λu J=>by
    refine⟨v++[j v.length v],rfl,by rw[aa,<-rE],?_,Z.snoc λS=>rfl,?_,(n.trans J).upd_new N _⟩
    ·rw[NX];show v.length+1+m=t.length
     lia
    rw[NX];exact q7 g5
   have y:(v.map V.bl).length<sizeLine:=by
    rw[J'];exact ai (by lia)
   have en:V.int (((v.map V.bl).length:Nat)+1)=.int ((v.length:Int)+1):=by rw[J']
   refine aq ⟨xU p x b l t i j c H m,λav H' z=>⟨m,Sg _,z⟩,?_⟩;obtain⟨k,g,hL,O,e⟩|⟨k,hP,O,e⟩:=id ac
   ·obtain⟨dx,d,pl,la,a,am,x1,S⟩:=id hL;refine⟨_,rfl,.inl ⟨rfl,_,SqL.of G⟩,.inr ⟨_,rfl,x,dx,_,rfl,x1,rfl,_,rfl,.ref l,_,rfl,.inl ⟨_,SqL.of G,rfl⟩,_,_,rfl,rfl,_,rfl,x,l,j,Y,i,v,v.length,(by rw[J'];rfl),⟨k,g,hL,O,e⟩,G,o,N1 _,E9 (Pb o T8),T8,r,λu J=>⟨l,_,_,rfl,rfl,J _ _ G,y,UG u J⟩⟩⟩
   ·obtain⟨dx,de,am,x1,S⟩:=id hP;obtain⟨e',hf,C,D⟩:=O.has _ o r;have ea:j v.length v=rC e'.2.1 v e'.2.2:=by
     rw[e];unfold fM;rw[hf]
    have z:=UG I<|Same.refl _;rw[ea]at z;exact⟨_,rfl,.inl ⟨rfl,_,SqL.of G⟩,.inl ⟨_,rfl,x,dx,_,rfl,x1,rfl,_,rfl,.ref l,_,rfl,.inl ⟨_,SqL.of G,rfl⟩,_,_,rfl,rfl,_,rfl,x,l,k,e',v,(by rw[D,WY,J'];rfl),hP,G,by lia,C,O.nearAt C D,l,_,_,rfl,rfl,G,y,z⟩⟩
  |false=>exact ak ⟨_,rfl,q l I v n N G Z g5 (OQ hi) λS=>go⟩
end
noncomputable abbrev xV:Pk:=top 34
structure LossFn (P:Of)(w:OE)(K:B')(mg:Str->NW M')(base:O5)(lf:C')(bad:ab N6->N6)(n:Nat)(C:Hp->Prop):Prop where
 mono:∀H H',Same H H'->C H->C H'
 obj:∀H,C H->∃o fd,H lf=gV (cQ lf o)/\o.data=.func fd
 fn:Jk P w K mg base 4 lf (λvs H Q _=>∃(l:C') (bs:ab N6),vs=[.ref l]/\C H/\H l=gV (.lst<|bs.map V.bl)/\bs.length=n/\∀H',Same H H'->Q (.bl<|bad bs) H')
inductive vY (P:Of)(w:OE)(K:B')(mg:Str->NW M')(base:O5)(c CL:C')(fu:Nat)(vs:ab V)(H:Hp)(Q:VK)(E:XK):Prop
 |mk (p x lf b o:C')(t:Str)(W:V)(hw:N6)(e:Ans)(B:ab N6->N6)(C:Hp->Prop)(g:ab N6)(O:ab V)(h0:vs=[.ref p,.str<|ax hw,.ref x,.ref lf,.ref b,.ref o])(a:H p=gV (.tup [.str t,W]))(t8:t.length<=9)(l:PAe c CL H x e t hw)
  (L:LossFn P w K mg base lf B t.length C) (d:C H) (f:H b=gV (.lst<|g.map V.bl)) (i:H o=gV (.lst O)) (j:g.length+fu=t.length) (k:O.length<=g.length) (m:Fol e t hw g) (n:∀bs,bs.length=t.length->Fol e t hw bs->B bs=NZ)
  (q:∀h:Hp,Same H h->Q .non h):vY P w K mg base c CL fu vs H Q E
def spFstLt(P:Of)(w:OE)(K:B')(m:Str->NW M')(b:O5)(C CL:C')(n:Nat):Sp:=λv H Q E=>∃g,g<n/\vY P w K m b C CL g v H Q E
section
variable {CL:C'}
inductive HK (p x lf b o l:C')(hw:N6)(H:Hp)(j:Nat)(a:St)(h:Hp):Prop
 |mk (v:NW V)(c:NW V)(i:a=[gV<|.ref p,gV<|.str<|ax hw,gV<|.ref x,gV<|.ref lf,gV<|.ref b,gV<|.ref o,gV<|.ref l,v,c])(I:Same H h)
theorem vZ{u:Nat}(F:Fun K "first_loss" "first_loss" xV f fd)(T:Bl m)(Vo:Fe P w K m e 6 "played_on" (Dy CP CL))
  (Xd:Fe P w K m e (u+6) "first_loss" (spFstLt P w K m e CP CL u)):ao P w K m e aP (u+7) f fd ["sentence","hand","player","loses","begun","others"] (vY P w K m e CP CL u):=by
 refine F.okB (N:=["sentence","hand","player","loses","begun","others","filling","value","found"]) λQt A U s H vs Q E sc hr h=>?_;obtain⟨p,x,W,b,o,t,wv,X,es,Y,C,G,O,rfl,Z,t8,Vd,L,hC,hb,ho,PF,am,hF,hW,q⟩:=h;refine⟨_,(ae gg
  (ae (aO gg (cr<|jx (du<|tR (k:=4) (i:=3) (hr.mono<|by simp)<|gY<|pv 6) (pv 5) fN) ay)
  (ae (fS 7 (bQ gg) (ae (sT 8<|rY Xd hr<|aD (pv 0)<|aD (pv 1)<|aD (pv 2)<|aD (pv 3)<|g_ (cm eK (pv 6) gg)<|cm eK (pv 5) gg)
   gg))
  (cr fN)))),?_⟩
 refine⟨_,rfl,_,rfl,_,rfl,_,rfl,p,x,b,t,wv,X,es,G,rfl,Z,t8,Vd,hb,by lia,hF,λl H1 c i nl hl n Xb Xa U2=>?_⟩;have g1:=i _ _ Z;refine⟨_,rfl,.ref l,_,rfl,.inl ⟨_,SqL.of hl,rfl⟩,_,rfl,(a_ g1 rfl ⟨.str t,_,rfl,⟨OQ (ai<|O6 t8 (by decide)),rfl⟩,.inl ⟨rfl,_,rfl,?_⟩⟩)⟩;rw[J'];by_cases I:c.length=t.length
 ·rw[Ob (show V.int (c.length:Nat)=V.int (t.length:Nat) by rw[I])];obtain⟨ob,ac,e1,e2⟩:=L.obj H1<|L.mono _ _ i hC;refine aq ⟨W,rfl,_,rfl,_,ob,ac,L.fn,e1,e2,l,c,rfl,L.mono _ _ i hC,hl,I,λH2 r=>⟨_,rfl,?_⟩⟩;rw[hW c I n];exact ak<|q H2<|i.trans r
 rw[N3 (show¬V.int (c.length:Nat)=V.int (t.length:Nat)from λz=>I (by have:=V.int.inj z;lia))];have eg:c.length+1+(G.length+u-c.length-1)=t.length:=by lia
 have ge:G.length+u-c.length-1<u:=by lia
 generalize G.length+u-c.length-1=g at eg ge;refine ak ⟨(by show 2<=sizeLine;decide),λa na=>?_⟩;have r:=ad na<|.tup [.bl NZ,.bl NU];have s2:=@aa H1 a (.tup [.bl NZ,.bl NU]);generalize upd H1 a (.tup [.bl NZ,.bl NU])=H2 at r s2 ⊢;have ZH:=i.trans r;refine⟨a,rfl,⟨_,SqT.of s2⟩,dz (K:=K) (a:=a) (X:=[.bl NZ,.bl NU]) (HK p x W b o l X H2) ⟨N4,N4,rfl,Same.refl _⟩ ?_ ?_ ?_⟩
 ·rintro j σ v S ⟨S,S,S,k⟩;exact SqT.of<|k _ _ s2
 ·rintro j y σ v hy ⟨v7,v8,rfl,k⟩;have D:=ZH.trans k;obtain⟨B,S,rfl⟩:=OT.mp (show y∈[NZ,NU].map V.bl from N7 hy);refine⟨_,rfl,_,rfl,_,rfl,_,rfl,_,rfl,_,rfl,(by show 1<=sizeLine;decide),λl1 n1=>?_⟩;have k4:=ad n1<|.lst [.bl B];refine⟨l,l1,_,_,rfl,rfl,k4 _ _<|k _ _<|r _ _ hl,aa,?_,λJ n2=>?_⟩
  ·rw[J'];exact OQ<|ai (by show c.length+1<=1000;lia)
  have M:=k4.trans<|ad n2<|.lst<|c.map V.bl++[.bl B];have s5:upd (upd v l1<|.lst [.bl B]) J (.lst<|c.map V.bl++[.bl B]) J=gV (.lst<|(c++[B]).map V.bl):=by rw[aa,rE]
  generalize upd (upd v l1<|.lst [.bl B]) J (.lst<|c.map V.bl++[.bl B])=H5 at M s5 ⊢;refine⟨_,rfl,_,rfl,(by show 1<=sizeLine;decide),λl3 n3=>?_⟩;have k6:=ad n3<|.lst [.bl B];refine⟨o,l3,_,_,rfl,rfl,k6 _ _<|M _ _<|D _ _ ho,aa,OQ<|ai (by show O.length+1<=1000;lia),λl4 n4=>?_⟩;have N:=k6.trans<|ad n4<|.lst<|O++[.bl B];have s7:=@aa (upd H5 l3<|.lst [.bl B]) l4 (.lst<|O++[.bl B]);generalize upd (upd H5 l3<|.lst _) l4 _=H7 at N s7 ⊢;have d:=D.trans<|M.trans N;exact⟨g,ge,p,x,W,J,l4,t,wv,X,es,Y,C,c++[B],O++[.bl B],rfl,d _ _ Z,t8,Vd.mono d,L,L.mono _ _ d hC,N _ _ s5,s7,(by rwa[NX]),(by rw[NX,NX];show O.length+1<=c.length+1;grind),n.snoc (by lia),hW,λH' k'=>⟨_,rfl,rfl,_,rfl,Ee rfl ⟨_,_,rfl,k.trans<|M.trans<|N.trans k'⟩⟩⟩
 rintro σ v ⟨v7,v8,rfl,k⟩;exact q v<|ZH.trans k
theorem xW(F:Fun K "first_loss" "first_loss" xV f d)(T:Bl m)(i:Fe P w K m B 6 "played_on" (Dy q CL))
  (b:Binds K d ["sentence","hand","player","loses","begun","others"] []) (k:Px K (.ref f)=NU) (c:m "first_loss"=gV (.ref f)):∀u,ao P w K m B aP (u+6) f d ["sentence","hand","player","loses","begun","others"]<|spFstLt P w K m B q CL u
 |0=>⟨λZ Z Z Z h=>by obtain⟨Z,z,Z⟩:=h;simp_all,λZ Z Z Z Z Z Z Z Z Z Z Z Z h=>by obtain⟨Z,z,Z⟩:=h;lia⟩
 |u+1=>by
  have I:=xW F T i b k c u;have st:=vZ F T i ⟨_,_,_,I,b,k,c⟩;refine⟨λv H Q E h=>?_,λA O s H a U v Q E r j l n h=>?_⟩
  ·obtain⟨g,Z,p,x,L,b,o,t,W,D,G,y,C,J,M,rfl,Z⟩:=h;rfl
  obtain⟨g,N,h⟩:=h;by_cases e:g=u
  ·subst e;exact st.run A O s H a U v Q E r j l n h
  exact I.run A O s H a U v Q E (r.mono<|by simp) j l n ⟨g,by lia,h⟩
theorem Gf(F:Fun K "first_loss" "first_loss" xV f d)(T:Bl m)(v:Fe P w K m B 6 "played_on" (Dy C CL))
  (b:Binds K d ["sentence","hand","player","loses","begun","others"] []) (k:Px K (.ref f)=NU) (a:m "first_loss"=gV (.ref f)):ao P w K m B aP 15 f d ["sentence","hand","player","loses","begun","others"] (spFstLt P w K m B C CL 9):=xW F T v b k a 9
end
end K75
namespace K75F
open PySem L2 OD
noncomputable def top(i:Nat):Pk:=PySem.Challenge.pw_oathduel_k75_whole_forms_as_sentences.main.body.getD i<|.Pass ⟨0,0,0,0⟩
noncomputable abbrev sCell:Pk:=top 103
noncomputable abbrev sMixed:Pk:=top 104
noncomputable abbrev sFirst:Pk:=top 107
def v_(K:B'):Sp:=λv H Q _=>∃(a:C') (n:ab Int) (k:Int),v=[.ref a,.int k]/\SqL K H a (n.map V.int)/\0<=k/\∀c:Int,Q (.int c) H
def rG:Sp:=λv H Q _=>∃c k:Int,v=[.int c,.int k]/\∀m:Int,0<=m->m<2147483587->Q (.int m) H
def xX(K:B'):Sp:=λv H Q _=>∃(a b:C') (n Z:ab Int),v=[.ref a,.ref b]/\SqL K H a (n.map V.int)/\H b=gV (.lst<|Z.map V.int)/\Z.length<=10/\(∀z∈Z,0<z/\z<1073741824)/\
 ∀(p:C') (s:ab Int) (h:Hp),Same H h->h p=gV (.lst<|s.map V.int)->s.length=Z.length->(∀(i:Nat) (r z:Int),s[i]?=gV r->Z[i]?=gV z->0<=r/\r<z)->Q (.ref p) h
theorem J6:ee ["_law_script","_law_k"] ["_law_script","_law_k"] (aw sCell):=Bw
theorem ok_cell(F:Fun K "_law_cell_at" "_law_cell_at" sCell f e)(T:Bl m):ao P w K m b aP 1 f e ["_law_script","_law_k"] (v_ K):=by
 refine F.okA J6 λt A o s H j Q E r h=>?_;obtain⟨a,n,k,rfl,d,g,q⟩:=h;exists _,gg;exists _,rfl,_,rfl,.ref a,_,rfl,.inl ⟨_,d,rfl⟩,_,_,rfl,rfl,_,rfl;refine fA (λc=>?_) λc=>?_
 ·have C:k<(((n.map _).length:Nat):Int):=Oo c;rw[J']at C;obtain⟨v,z,i⟩:=jG g C;exact⟨_,rfl,_,rfl,.inl ⟨a,_,k,.int v,rfl,rfl,d,i,q v⟩⟩
 exact q 0
theorem ok_mixed(F:Fun K "_law_mixed" "_law_mixed" sMixed f d):ao P w K m b aP 1 f d ["_law_cell","_law_k"] rG:=by
 refine F.okB (N:=["_law_cell","_law_k","_law_number"]) λt A O s H v Q E g r h=>?_;obtain⟨c,k,rfl,q⟩:=h;exists _,gg;exists _,rfl,_,_,rfl,rfl,(by show(0:Int)<2147483647;decide),_,_,rfl,rfl,.inr ⟨by decide,by decide⟩,_,rfl,_,_,rfl,rfl,.inr ⟨by decide,by decide⟩,_,_,rfl,rfl,_,_,rfl,rfl,_,_,rfl,rfl,(by show(0:Int)<2147483647;decide);have B:=PK (c%2147483647*48271+k*69621+11) (show(2147483647:Int)≠0 by decide);have a:=Po (c%2147483647*48271+k*69621+11) (show(0:Int)<2147483647 by decide);generalize (c%2147483647*48271+k*69621+11)%2147483647=n at B a;exists _,rfl,_,rfl,_,_,rfl,rfl,.inl ⟨by lia,Fw a (by decide)⟩,_,_,rfl,rfl,(by show(0:Int)<2147483629;decide);have D:=PK (n*n) (show(2147483629:Int)≠0 by decide);have e:=Po (n*n) (show(0:Int)<2147483629 by decide);generalize n*n%2147483629=o at D e;exists _,rfl,_,rfl,_,_,rfl,rfl,.inl ⟨by lia,Fw e (by decide)⟩,_,_,rfl,rfl,(by show(0:Int)<2147483587;decide);exact q _ (PK _<|by decide) (Po _<|by decide)
theorem ok_first(F:Fun K "_law_first" "_law_first" sFirst f fd)(T:Bl M)(ac:Fe P w K M B 1 "_law_cell_at" (v_ K))(am:Fe P w K M B 1 "_law_mixed" rG):
  ao P w K M B aP 2 f fd ["_law_script","_law_sizes"] (xX K):=by
 refine F.okB (N:=["_law_script","_law_sizes","_law_rest","_law_found","_law_k"]) λQt A O s H vs Q E sc hr h=>?_;obtain⟨a,b,ns,Z,rfl,hS,G,an,hz,q⟩:=h;have hL:(Z.map V.int).length=Z.length:=J' _;refine⟨_,(ae gg
  (ae gg
  (ae (fS 4 gg gg)
  (cr<|pv 3)))),?_⟩
 refine⟨_,rfl,a,ns,0,rfl,hS,T5 0,λc=>?_⟩;refine⟨_,_,rfl,rfl,⟨by simp,by simp⟩,Ou _,λp o=>?_⟩;have J:upd H p (.lst []) b=gV (.lst<|Z.map V.int):=by rw[af<|ah G o];exact G
 refine⟨_,rfl,.ref b,_,rfl,.inl ⟨_,SqL.of J,rfl⟩,_,rfl,(by simp),(by lia),ki (lo:=0)
  (λi L t=>∃(d:ab Int) (I:Int) (N:_),L=[gV<|.ref a,gV<|.ref b,gV<|.int I,gV<|.ref p,N]/\t p=gV (.lst<|d.map V.int)/\Same H t/\d.length=i/\∀(j:Nat) (r z:Int),d[j]?=gV r->Z[j]?=gV z->0<=r/\r<z)
  ⟨[],_,N4,rfl,aa,ad o _,rfl,λj r z h=>by cases h⟩ ?_ ?_⟩
 ·rintro i L t hi ⟨d,I,N,rfl,k,l,u,Y⟩;have as:i<Z.length:=by
   simp_all
  obtain⟨z,U,e⟩:=jG (n:=Z) (i:=0+(i:Int)) (by simp) (by simp_all);have v:Z[i]?=gV z:=by simpa using U
  obtain⟨y,z1⟩:=hz z<|N7 v;have g:=l _ _ G;have C:(d.map V.int).length<sizeLine:=by rw[J'];exact ai (by lia)
  have step:∀x:Int,0<=x->x<z->∀(j:Nat) (r D:Int),(d++[x])[j]?=gV r->Z[j]?=gV D->0<=r/\r<D:=λx x0 x1 j r D n W=>by
   obtain h|h|h:=VU j d.length
   ·rw[OA h]at n;exact Y j r D n W
   ·simp_all
   rw[O3<|by rw[NX,OG];exact E9 (Nat.succ_lt_succ h)]at n;lia
  refine⟨_,rfl,a,ns,0,rfl,l.seq hS,T5 0,λc2=>?_⟩;refine⟨_,_,rfl,rfl,(by simp),.inl ⟨rfl,_,rfl,fA (λS=>?_) λS=>?_⟩⟩
  ·refine⟨_,rfl,.inl ⟨rfl,_,SqL.of k⟩,_,rfl,_,rfl,_,rfl,(dM g e ?_)⟩;exists _,_,rfl,rfl,y,p,_,_,rfl,rfl,k,C;have X:b≠p:=ah G o;refine⟨_,rfl,_,rfl,_,rfl,(dM (by rw[af X];exact g) e ⟨_,_,rfl,rfl,⟨y,z1⟩,?_⟩)⟩;exact⟨d++[I%z],_,_,rfl,by rw[aa,Oy];rfl,l.upd_new o _,by rw[NX,u];rfl,step _ (PK _<|by lia)<|Po _ y⟩
  refine⟨_,rfl,.inl ⟨rfl,_,SqL.of k⟩,_,rfl,_,rfl,_,_,rfl,rfl,_,_,rfl,λm av az=>?_⟩;refine⟨_,rfl,_,rfl,(dM g e ?_)⟩;exists _,_,rfl,rfl,y,p,_,_,rfl,rfl,k,C;exact⟨d++[m%z],_,_,rfl,by rw[aa,Oy];rfl,l.upd_new o _,by rw[NX,u];rfl,step _ (PK _<|by lia)<|Po _ y⟩
 rintro L t ⟨d,I,N,rfl,k,l,u,Y⟩;refine⟨_,rfl,q p d t l k ?_ Y⟩;simp_all
noncomputable abbrev sFreeN:Pk:=top 105
noncomputable abbrev sNodes:Pk:=top 106
noncomputable abbrev sForm:Pk:=top 108
inductive Nd
 |yes|no|inn (v:Int)|nt (i:Nat)|an (i j:Nat)|orr (i j:Nat)
noncomputable def lZ:Nd->Oe
 |.yes=>.tuple [.str<|NV "yes"]
 |.no=>.tuple [.str<|NV "no"]
 |.inn v=>.tuple [.str<|NV "in",.int v]
 |.nt i=>.tuple [.str<|NV "not",.int (i:Int)]
 |.an i j=>.tuple [.str<|NV "and",.int (i:Int),.int (j:Int)]
 |.orr i j=>.tuple [.str<|NV "or",.int (i:Int),.int (j:Int)]
def l8(n:Int)(k:Nat):Nd->Prop
 |.inn v=>1<=v/\v<=n
 |.nt i=>i<k
 |.an i j=>i<k/\j<k
 |.orr i j=>i<k/\j<k
 |_=>True
def dH(n:Int)(Pi:ab Nd):Prop:=∀(k:Nat) (N:Nd),Pi[k]?=gV N->l8 n k N
theorem oN(h:dH n Pi)(a:l8 n Pi.length N):dH n (Pi++[N]):=λk x H=>by
 by_cases s:k<Pi.length
 ·rw[OA s]at H;exact h k x H
 have b:=(NT.mp H).1;rw[NX,OG]at b;have e:k=Pi.length:=by lia
 simp_all
theorem iS(x:Str):RD H (.str x) (.str x):=by rfl
theorem uu:∀{d e:ab Oe} {X y:ab V},cO H d X->cO H e y->cO H (d++e) (X++y)
 |[],_,_,_,h,g=>by
  rwa[bP h]
 |_::_,_,_,_,h,g=>by
  obtain⟨x,r,rfl,a,b⟩:=aj h;exact ag a<|uu b g
theorem Dz(h:H p=gV (.tup [.str<|NV "in",.int v])):RD H (lZ<|.inn v) (.ref p):=aQ h<|ag (iS _)<|ag (aX _) au
theorem HL(h:H p=gV (.tup [.str<|NV "not",.int (i:Int)])):RD H (lZ<|.nt i) (.ref p):=aQ h<|ag (iS _)<|ag (aX _) au
theorem HM(h:H p=gV (.tup [.str<|NV "and",.int (i:Int),.int (j:Int)])):RD H (lZ<|.an i j) (.ref p):=aQ h<|ag (iS _)<|ag (aX _)<|ag (aX _) au
theorem DB(h:H p=gV (.tup [.str<|NV "or",.int (i:Int),.int (j:Int)])):RD H (lZ<|.orr i j) (.ref p):=aQ h<|ag (iS _)<|ag (aX _)<|ag (aX _) au
def NdAt(H:Hp)(n:Nd)(x:V):Prop:=∃(p:C') (v:ab V),x=.ref p/\H p=gV (.tup v)/\∀h:Hp,h p=gV (.tup v)->RD h (lZ n) x
theorem HN(h:r=0\/r=1):∃s N,iU [V.str<|NV "yes",V.str<|NV "no"] r=gV (.str s)/\(∀H p,H p=gV (.tup [.str s])->RD H (lZ N) (.ref p))/\∀n k,l8 n k N:=by
 obtain rfl|rfl:=h
 ·exact⟨NV _,.yes,rfl,λH p h=>aQ h<|ag (iS _) au,λz z=>trivial⟩
 exact⟨NV _,.no,rfl,λH p h=>aQ h<|ag (iS _) au,λz z=>trivial⟩
inductive rH (vs:ab V)(H:Hp)(Q:VK)(E:XK):Prop
 |mk (c:Int)(k:Nat)(n:Int)(h0:vs=[.int c,.int (k:Int),.int n])(a:0<=n)(b:n<1000)(d:k<=1000)(q:∀(x:V) (nd:Nd) (h:Hp),Same H h->NdAt h nd x->l8 n k nd->Q x h)
inductive rJ (vs:ab V)(H:Hp)(Q:VK)(E:XK):Prop
 |mk (cl:C')(ns:ab Int)(a n:Int)(many:Nat)(h0:vs=[.ref cl,.int a,.int n,.int (many:Int)])(b:H cl=gV (.lst<|ns.map V.int))(c:1<=ns.length)(d:ns.length<=100)(e:0<=n)(f:n<1000)(g:1<=many)(i:many<=100)(q:∀(l:C') (Pi:ab Nd) (h:Hp),Same H h->RD h (.list<|Pi.map lZ) (.ref l)->dH n Pi->1<=Pi.length->Pi.length<=many->Q (.ref l) h)
theorem NdAt.keep(h:NdAt H n x)(k:∀b v,H b=gV (.tup v)->a b=gV (.tup v)):NdAt a n x:=by
 obtain⟨p,v,e,c,d⟩:=h;exact⟨p,v,e,k _ _ c,d⟩
inductive NdsAt (H:Hp):ab Nd->ab V->Prop
 |nil:NdsAt H [] []
 |snoc {Pi:ab Nd} {xs:ab V} {nd:Nd} {x:V} (h:NdsAt H Pi xs) (a:NdAt H nd x):NdsAt H (Pi++[nd]) (xs++[x])
theorem NdsAt.keep(h:NdsAt H Pi x)(k:∀b v,H b=gV (.tup v)->c b=gV (.tup v)):NdsAt c Pi x:=by
 induction h with
 |nil=>exact .nil
 |snoc h a i=>exact .snoc i<|a.keep k
theorem NdsAt.len(h:NdsAt H Pi x):x.length=Pi.length:=by
 induction h with
 |nil=>rfl
 |snoc h a i=>simp_all
theorem NdsAt.rds(h:NdsAt H Pi x):cO H (Pi.map lZ) x:=by
 induction h with
 |nil=>rfl
 |snoc h a i=>
  rw[Oy];obtain⟨p,v,e,b,c⟩:=a;exact uu i<|ag (c _ b) au
theorem ke(h:H l=gV (.lst y)):∀b v,H b=gV (.tup v)->upd H l (.lst Z) b=gV (.tup v):=λb v e=>by
 have a:b≠l:=λz=>by
  simp_all
 rwa[af a]
theorem oO(h:∀N,(∀a c,B D a c->N a c)->A {D with nx:=N} b H):oY A B D b H:=h _ λy y z=>z
theorem ok_freen(F:Fun K "_law_free_node" "_law_free_node" sFreeN f Y):ao P w K mg G aP 1 f Y ["_law_cell","_law_k","_law_count"] rH:=by
 refine F.okB (N:=["_law_cell","_law_k","_law_count","_law_kind","_law_rest","_law_one"]) λQt A O s H vs Q E sc hr h=>?_;obtain⟨c,k,n,rfl,n0,n1,hk,q⟩:=h;exists _,gg;exists _,rfl,_,_,rfl,rfl,(by show(0:Int)<6;decide);exists _,rfl,_,_,rfl,rfl,⟨by decide,by decide⟩;have Z:=PK c (show(6:Int)≠0 by decide);have d1:=Po c (show(0:Int)<6 by decide);generalize c%6=d at Z d1 ⊢;generalize c/6=a;unfold df;dsimp only;refine oO λN I=>?_;have y:N [gV<|.int c,gV<|.int (k:Int),gV<|.int n,gV<|.int d,gV<|.int a,N4] H:=by
  refine I _ _ ?_;clear I;have m0:=PK d (show(2:Int)≠0 by decide);have m1:=Po d (show(0:Int)<2 by decide);obtain⟨s,nd,t,u,v⟩:=HN (r:=d%2) (by lia);refine⟨_,rfl,_,_,rfl,rfl,_,rfl,fA (λo=>?_) λo=>⟨_,rfl,.inl ⟨rfl,_,rfl,fA (λC=>?_) λC=>?_⟩⟩⟩
  rotate_left 2
  ·have ac:¬d<3:=λz=>o<|Ob z;have am:(k:Int)≠0:=λz=>C<|Ob<|OY V.int z;have b:(0:Int)<(k:Int):=by lia
   have r0:=PK a (show(k:Int)≠0 by exact am);have r1:=Po a b;have s0:=PK (a/(k:Int)) (show(k:Int)≠0 by exact am);have s1:=Po (a/(k:Int)) b;exists _,rfl,_,rfl,_,_,rfl,rfl,b;obtain⟨i,hi⟩:∃i:Nat,a%(k:Int)=(i:Int):=⟨(a%(k:Int)).toNat,by lia⟩;obtain⟨j,hj⟩:∃j:Nat,a/(k:Int)%(k:Int)=(j:Int):=⟨(a/(k:Int)%(k:Int)).toNat,by lia⟩;have e:i<k:=by lia
   have g:j<k:=by lia
   rw[hi];refine⟨_,rfl,(by show 2<=sizeLine;decide),λJ g1=>⟨_,rfl,_,rfl,_,rfl,_,_,rfl,rfl,⟨b,by lia⟩,_,rfl,_,_,rfl,rfl,b,(by show 3<=sizeLine;decide),λL g2=>⟨_,rfl,_,rfl,_,rfl,_,_,rfl,rfl,⟨b,by lia⟩,_,rfl,_,_,rfl,rfl,b,(by show 3<=sizeLine;decide),λM T=>⟨(by show 3<=sizeLine;decide),λl U=>?_⟩⟩⟩⟩;rw[hj]at T U ⊢;have k1:=ad g1<|.tup [.str<|NV "not",.int (i:Int)];have W:=ad g2<|.tup [.str<|NV "and",.int (i:Int),.int (j:Int)];have x:=ad T<|.tup [.str<|NV "or",.int (i:Int),.int (j:Int)];have r:=ad U<|.lst [.ref J,.ref L,.ref M];have B:=k1.trans<|W.trans<|x.trans r;obtain rfl|rfl|rfl:=(show d=3\/d=4\/d=5 by lia)
   ·refine⟨_,rfl,_,_,rfl,rfl,(dM aa rfl ?_)⟩;exact q _ (.nt i) _ B ⟨J,_,rfl,r _ _<|x _ _<|W _ _ aa,λm h=>HL h⟩ e
   ·refine⟨_,rfl,_,_,rfl,rfl,(dM aa rfl ?_)⟩;exact q _ (.an i j) _ B ⟨L,_,rfl,r _ _<|x _ _ aa,λm h=>HM h⟩ ⟨e,g⟩
   refine⟨_,rfl,_,_,rfl,rfl,(dM aa rfl ?_)⟩;exact q _ (.orr i j) _ B ⟨M,_,rfl,r _ _ aa,λm h=>DB h⟩ ⟨e,g⟩
  all_goals
   refine⟨(by show 2<=sizeLine;decide),λl hl=>⟨_,rfl,_,_,rfl,rfl,(by show(0:Int)<2;decide),(dM aa t ⟨(by show 1<=sizeLine;decide),λp D=>?_⟩)⟩⟩;exact q _ nd _ ((ad hl _).trans<|ad D _) ⟨p,_,rfl,aa,λm h=>u m p h⟩<|v n k
 refine⟨_,rfl,.inl ⟨rfl,_,rfl,fA (λo=>⟨_,rfl,_,_,rfl,rfl,_,rfl,fA (λC=>?_) λC=>y⟩) λo=>y⟩⟩;have X:(0:Int)<n:=Oo C;have r0:=PK a (show n≠0 by lia);have r1:=Po a X;refine⟨_,rfl,_,rfl,_,_,rfl,rfl,X,_,_,rfl,rfl,(by show 2<=sizeLine;decide),λp D=>?_⟩;exact q _ (.inn (1+a%n)) _ (ad D _) ⟨p,_,rfl,aa,λm h=>Dz h⟩ ⟨by lia,by lia⟩
inductive Mj (H:Hp)(D cl:C')(n:Int)(i:Nat)(a:ab (NW V))(ys:ab V)(h:Hp):Prop
 |mk (v:NW V)(Pi:ab Nd)(h0:a=[v,gV<|.int n,gV<|.ref cl])(b:h D=gV (.lst ys))(c:Same H h)(d:Pi.length=i)(e:NdsAt h Pi ys)(f:dH n Pi)
inductive Ml (H:Hp)(cl l:C')(a n:Int)(many:Nat)(i:Nat)(b:ab (NW V))(h:Hp):Prop
 |mk (c d e f g v:NW V)(xs:ab V)(Pi:ab Nd)(h0:b=[gV<|.ref cl,gV<|.int a,gV<|.int n,gV<|.int (many:Int),gV<|.ref l,c,d,e,f,g,v])(j:h l=gV (.lst xs))(k:Same H h)(m:Pi.length=i)(o:NdsAt h Pi xs)(p:dH n Pi)
theorem ok_nodes(F:Fun K "_law_nodes" "_law_nodes" sNodes f fd)(T:Bl mg)(Ts:mg "sum"=N4)(ZT:Fe P w K mg B 1 "_law_free_node" rH)(bc:Fe P w K mg B 1 "_law_mixed" rG):ao P w K mg B aP 2 f fd ["_law_cells","_law_salt","_law_count","_law_many"] rJ:=by
 refine F.okB (N:=["_law_cells","_law_salt","_law_count","_law_many","_law_nodes_here","_law_k","_law_cell","_law_number","_law_node","_law_one","_law_other"]) λQt A aL s H vs Q E sc hr h=>?_;obtain⟨C,d,I,n,M,rfl,Ut,l1,bf,n0,n1,m1,a2,q⟩:=h;obtain⟨z0,S,a3⟩:=jG (n:=d) (i:=0) (by decide) (by lia);refine⟨_,(ae (aO gg (cr<|jR ["_law_k","_law_count","_law_cells"] [N4,gV 2,gV 0] (pe rfl T.range<|gY<|aR (yn rfl) rfl T.min W8 gg) (e:=λS S S S=>(rY ZT hr<|aD (y_ (K:=K) (pv 2) gg) gg))) ay)
  (ae gg
  (ae (fS 5 gg (ae (sT 6<|aR (AY rfl) rfl Ts Wd<|gY<|yC (pv 0) gg dA gg)
   (ae gg
   (ae (aO gg gg (ae (sT 9<|aR (ym rfl) rfl T.max W9 gg)
    gg))
   gg))))
  (cr<|pv 4)))),?_⟩
 refine oO λN hN=>?_;have ac:N [gV<|.ref C,gV<|.int I,gV<|.int n,gV<|.int (M:Int),N4,N4,N4,N4,N4,N4,N4] H:=by
  refine hN _ _ ?_;clear hN;refine⟨Ou _,λl hl=>?_⟩;have nl:H l=none:=hl;have en:((M:Int)).toNat=M:=by lia
  refine⟨_,rfl,(M:Int),rfl,(by lia),(by lia),ki (lo:=0) (n:=((M:Int)).toNat) (Ml H C l I n M) ⟨N4,N4,N4,N4,N4,N4,[],[],rfl,aa,ad hl _,rfl,.nil,λk u e=>by simp at e⟩ ?_ ?_⟩
  ·rintro i σ J hi ⟨v5,v6,v7,v8,v9,a4,xs,Pi,rfl,G,j,r,t,L⟩;rw[en]at hi;refine⟨_,rfl,_,rfl,_,_,rfl,rfl,_,rfl,_,rfl,_,rfl,C,d,(M:Int),rfl,SqL.of<|j _ _ Ut,rfl,(by lia),(O6 bf (by decide)),λp1 ms a5 bg=>⟨p1,ms,rfl,SqL.of aa,?_⟩⟩;have v:=ad a5<|.lst<|ms.map V.int;have am:=v _ _ G;have an:=t.keep λb vs e=>v b _ e;generalize upd J p1 (.lst<|ms.map V.int)=H3 at v am an ⊢;refine⟨_,rfl,_,rfl,_,rfl,_,_,rfl,rfl,_,_,rfl,λa bk bl=>?_⟩;unfold df;dsimp only;refine oO λN2 as=>?_;have O:∀w9 av x u c,Same H3 c->NdAt c u x->l8 n i u->N2 [gV<|.ref C,gV<|.int I,gV<|.int n,gV<|.int (M:Int),gV<|.ref l,gV<|.int<|(0:Int)+(i:Int),gV<|.int ms.sum,gV<|.int a,gV x,w9,av] c:=by
    intro w9 av x u c k' U ho;refine as _ _ ?_;clear as;have y:=k' _ _ am;refine⟨_,rfl,.inl ⟨rfl,_,SqL.of y⟩,_,rfl,l,xs,x,rfl,rfl,y,?_,?_⟩
    ·rw[t.len];exact ai (by lia)
    refine⟨_,_,_,_,_,_,xs++[x],Pi++[u],rfl,aa,(j.trans<|v.trans k').upd_new nl _,by rw[NX,r];rfl,.snoc ((an.keep λb vs e=>k' b _ e).keep<|ke y)<|U.keep<|ke y,oN L<|by rw[r];exact ho⟩
   have a0:=PK (a/9) (show(2:Int)≠0 by decide);have a1:=Po (a/9) (show(0:Int)<2 by decide);obtain⟨sw,W,a6,a7,az⟩:=HN (r:=a/9%2) (by lia);refine⟨_,rfl,.inl ⟨rfl,_,rfl,fA (λc1=>?_) λc1=>⟨_,rfl,_,_,rfl,rfl,(by show(0:Int)<9;decide),_,_,rfl,rfl,_,rfl,fA (λc2=>?_) λc2=>?_⟩⟩⟩
   rotate_left 2
   ·have ip:i≠0:=λz=>c1 (Ob<|OY V.int<|by lia);have kp:(0:Int)<(0:Int)+(i:Int):=by lia
    have b0:=PK (a/9) (show(3:Int)≠0 by decide);have b1:=Po (a/9) (show(0:Int)<3 by decide);have d0:=PK (a/27) (show(3:Int)≠0 by decide);have d1:=Po (a/27) (show(0:Int)<3 by decide);have e0:=PK (a/1000) (show(0:Int)+(i:Int)≠0 by lia);have e1:=Po (a/1000) kp;exists _,rfl,_,_,rfl,rfl,_,rfl,_,_,rfl,rfl,⟨by decide,by decide⟩,_,_,rfl,rfl,(by show(0:Int)<3;decide),_,_,rfl,rfl,_,_,rfl;obtain⟨o,aC⟩:∃o:Nat,(if(0:Int)+(i:Int)-1-a/9%3>0 then(0:Int)+(i:Int)-1-a/9%3 else 0)=(o:Int):=⟨(if(0:Int)+(i:Int)-1-a/9%3>0 then(0:Int)+(i:Int)-1-a/9%3 else 0).toNat,by split<;>lia⟩;have X:o<i:=by
     have:(o:Int)<(i:Int):=by rw[<-aC];split<;>lia
     lia
    rw[aC];exists _,rfl,_,_,rfl,rfl,⟨by decide,by decide⟩,_,rfl,_,_,rfl,rfl,kp;obtain⟨Y,a8⟩:∃Y:Nat,a/1000%((0:Int)+(i:Int))=(Y:Int):=⟨(a/1000%((0:Int)+(i:Int))).toNat,by lia⟩;have aF:Y<i:=by lia
    rw[a8];refine⟨_,rfl,(by show 2<=sizeLine;decide),λp1 q1=>⟨_,rfl,_,rfl,(by show 3<=sizeLine;decide),λp2 q2=>⟨_,rfl,_,rfl,(by show 3<=sizeLine;decide),λp3 q3=>⟨(by show 3<=sizeLine;decide),λll q4=>?_⟩⟩⟩⟩;have j1:=ad q1<|.tup [.str<|NV "not",.int (o:Int)];have Z:=ad q2<|.tup [.str<|NV "and",.int (o:Int),.int (Y:Int)];have j3:=ad q3<|.tup [.str<|NV "or",.int (Y:Int),.int (o:Int)];have j4:=ad q4<|.lst [.ref p1,.ref p2,.ref p3];have jj:=j1.trans<|Z.trans<|j3.trans j4;exists _,rfl,_,_,rfl,rfl,⟨by decide,by decide⟩,_,_,rfl,rfl,(by show(0:Int)<3;decide);generalize a/27%3=kd at d0 d1 ⊢;obtain rfl|rfl|rfl:=(show kd=0\/kd=1\/kd=2 by lia)
    ·exact(dM aa rfl<|O _ _ _ (.nt o) _ jj ⟨p1,_,rfl,j4 _ _<|j3 _ _<|Z _ _ aa,λc h=>HL h⟩ X)
    ·exact(dM aa rfl<|O _ _ _ (.an o Y) _ jj ⟨p2,_,rfl,j4 _ _<|j3 _ _ aa,λc h=>HM h⟩ ⟨X,aF⟩)
    exact(dM aa rfl<|O _ _ _ (.orr Y o) _ jj ⟨p3,_,rfl,j4 _ _ aa,λc h=>DB h⟩ ⟨aF,X⟩)
   all_goals
    refine⟨(by show 2<=sizeLine;decide),λla Z9=>⟨_,rfl,_,_,rfl,rfl,⟨by decide,by decide⟩,_,_,rfl,rfl,(by show(0:Int)<2;decide),(dM aa a6 ⟨(by show 1<=sizeLine;decide),λp hp=>?_⟩)⟩⟩;have j1:=ad Z9<|.lst [.str<|NV "yes",.str<|NV "no"];have Z:=j1.trans<|ad hp<|.tup [.str sw];have U:NdAt (upd (upd H3 la<|.lst [.str<|NV "yes",.str<|NV "no"]) p<|.tup [.str sw]) W (.ref p):=⟨p,_,rfl,aa,λc h=>a7 c p h⟩;show df 8 (.ref p) _ (upd (upd H3 la<|.lst [.str<|NV "yes",.str<|NV "no"]) p<|.tup [.str sw]) _
    generalize upd (upd H3 la<|.lst [.str<|NV "yes",.str<|NV "no"]) p (.tup [.str sw])=H5 at Z U;refine⟨_,rfl,_,_,rfl,rfl,_,rfl,fA (λc3=>⟨_,rfl,_,_,rfl,rfl,⟨by decide,by decide⟩,_,_,rfl,rfl,(by show(0:Int)<5;decide),_,_,rfl,rfl,_,rfl,fA (λc4=>?_) λc4=>O _ _ _ W H5 Z U<|az _ _⟩) λc3=>O _ _ _ W H5 Z U<|az _ _⟩;have np:(0:Int)<n:=Oo c3;have r0:=PK (a/100) (show n≠0 by lia);have r1:=Po (a/100) np;refine⟨_,rfl,_,_,rfl,rfl,⟨by decide,by decide⟩,_,rfl,_,_,rfl,rfl,np,_,_,rfl,rfl,(by show 2<=sizeLine;decide),λp9 a9=>?_⟩;exact O _ _ _ (.inn (1+a/100%n)) _ (Z.trans<|ad a9 _) ⟨p9,_,rfl,aa,λc h=>Dz h⟩ ⟨by lia,by lia⟩
  rintro σ J ⟨v5,v6,v7,v8,v9,a4,xs,Pi,rfl,G,j,r,t,L⟩;rw[en]at r;exact⟨_,rfl,q l Pi J j (cW G t.rds) L (by lia)<|Ui r⟩
 refine⟨_,rfl,(dM Ut a3 ⟨_,_,rfl,rfl,(by show(0:Int)<2;decide),.inl ⟨rfl,_,rfl,fA (λc1=>⟨_,rfl,.ref C,_,rfl,.inl ⟨_,SqL.of Ut,rfl⟩,_,_,rfl,rfl,_,rfl,fA (λc2=>?_) λc2=>ac⟩) λc1=>ac⟩⟩)⟩;have ba:(1:Int)<(((d.map V.int).length:Nat):Int):=Oo c2;rw[J']at ba;obtain⟨m,hm,bm,br,bs⟩:∃m:Nat,(if(((d.map V.int).length:Nat):Int)-1<(M:Int)then(((d.map V.int).length:Nat):Int)-1 else(M:Int))=(m:Int)/\1<=m/\m<=100/\m<d.length:=by
  rw[J'];by_cases g:((d.length:Nat):Int)-1<(M:Int)
  ·rw[Oi g];exact⟨d.length-1,by lia,by lia,O6 (hJ _ _) bf,by lia⟩
  rw[Oh g];exact⟨M,rfl,m1,a2,by lia⟩
 exists _,rfl,_,rfl,.ref C,_,rfl,.inl ⟨_,SqL.of Ut,rfl⟩,_,_,rfl,rfl,_,_,rfl;rw[hm];refine⟨(m:Int),rfl,(by lia),(by lia),λD hD=>?_⟩;have nD:H D=none:=hD;have en:((m:Int)).toNat=m:=by lia
 refine fb (lo:=0) (n:=((m:Int)).toNat) (Mj H D C n) ⟨N4,[],rfl,aa,ad hD _,rfl,.nil,λk u e=>by simp at e⟩ ?_ ?_ ?_
 ·rintro i σ ys J S ⟨S,S,S,G,S⟩;exact G
 ·rintro i σ ys J hi ⟨v0,Pi,rfl,G,j,r,t,L⟩;rw[en]at hi;obtain⟨z,S,bb⟩:=jG (n:=d) (i:=1+((0:Int)+(i:Int))) (by lia) (by lia);refine cq ⟨_,rfl,_,rfl,_,_,rfl,rfl,(dM (j _ _ Ut) bb ⟨_,rfl,_,rfl,z,i,n,(by show [V.int z,V.int<|(0:Int)+(i:Int),V.int n]=_;rw[WX]),n0,n1,by lia,λx u H3 v U ho=>?_⟩)⟩;have y:=v _ _ G;refine⟨y,?_,_,Pi++[u],rfl,aa,(j.trans v).upd_new nD _,by rw[NX,r];rfl,.snoc ((t.keep λb vs e=>v b _ e).keep<|ke y)<|U.keep<|ke y,oN L<|by rw[r];exact ho⟩;rw[t.len];exact ai (by lia)
 rintro σ ys J ⟨v0,Pi,rfl,G,j,r,t,L⟩;rw[en]at r;exact q D Pi J j (cW G t.rds) L (by lia) (by lia)
inductive PForm (K:B')(vs:ab V)(H:Hp)(Q:VK):Prop
 |mk (a:C')(ns:ab Int)(mt m:Int)(h0:vs=[.ref a,.int mt,.int m])(b:SqL K H a (ns.map V.int))(c:ns.length<=63)(d:0<=mt)(e:mt<20)(f:1<=m)(g:m<=90)
  (q:∀(l nl:C') (t:Str) (Pi:ab Nd) (h:Hp),Same H h->h l=gV (.lst [.str t,.ref nl])->RD h (.list<|Pi.map lZ) (.ref nl)->(t.length:Int)<=mt->WS t->dH t.length Pi->1<=Pi.length->(Pi.length:Int)<=m->Q (.ref l) h):PForm K vs H Q
def spForm(K:B'):Sp:=λv H Q _=>PForm K v H Q
theorem oQ(h:n<=5000):n<sizeLine:=by
 rw[P0];exact Q_ h (by decide)
theorem J7{s:ab Int}(h:s.length=3):∃x y z,s=[x,y,z]:=by
 obtain⟨x,r,rfl⟩:=QA h;obtain⟨y,a,rfl⟩:=QA<|S2 h;obtain⟨z,b,rfl⟩:=QA<|S2<|S2 h;obtain rfl:=P2.mp<|S2<|S2<|S2 h;exact⟨x,y,z,rfl⟩
theorem scForm:ee ["_law_script","_law_most_turns","_law_most_nodes","_law_count","_law_bits","_law_many","_law_turns"] ["_law_script","_law_most_turns","_law_most_nodes"] (aw sForm):=Bw
theorem ok_form(F:Fun K "_law_form" "_law_form" sForm f fd)(T:Bl M)(az:Fe P w K M B 1 "_law_cell_at" (v_ K))(aC:Fe P w K M B 2 "_law_first" (xX K))(G:Fe P w K M B 2 "_law_nodes" rJ):ao P w K M B aP 3 f fd ["_law_script","_law_most_turns","_law_most_nodes"] (spForm K):=by
 have sc:=scForm;refine F.okA scForm λQt A O s H vs Q E hr h=>?_;obtain⟨a,N,mt,mn,rfl,I,hl,aF,aL,a0,a1,q⟩:=h;refine⟨_,(ae (Ak gg<|AX rfl<|dw (mq 3 sc.nd)<|dw (jy (i:=4) sc.nd rfl<|Wa rfl) gg)
  (ae (sT 6<|fC PySem.F.plainAttrs_str PySem.F.slot_str_join PySem.F.type_str_join EU gz<|gY<|jR ["_law_k","_law_bits"] [N4,gV 4] gg (e:=λS S S S=>(y_ (K:=K) gz gg)))
  (cr<|mM<|g_ (pv 6)<|rY G hr<|aD (cm eK gg<|cR eP (pv 0) gg gg) gg))),?_⟩
 refine⟨_,rfl,_,rfl,_,_,rfl,rfl,_,rfl,(by show 3<=sizeLine;decide),λb hb=>?_⟩;refine⟨a,b,N,[mt+1,64,mn],rfl,(ad hb _).seq I,aa,(by show 3<=10;simp),λz e=>?_,λp rs u k1 hp PF j=>?_⟩
 ·obtain rfl|e:=Oz.mp e
  ·lia
  grind
 obtain⟨r,k,J,rfl⟩:=J7 (s:=rs) PF;obtain⟨x0,x1⟩:=j 0 r (mt+1) rfl rfl;obtain⟨y0,y1⟩:=j 1 k 64 rfl rfl;obtain⟨z0,z1⟩:=j 2 J mn rfl rfl;have l:Same H u:=(ad hb _).trans k1;clear k1;exists p,_,rfl,SqL.of hp,rfl,_,_,rfl,_,_,rfl,_,_,rfl,rfl;refine⟨rfl,_,rfl,r,rfl,(by lia),(by lia),λD hD=>?_⟩;refine fb (lo:=0) (n:=r.toNat) (λi v y m=>(∃v0,v=[v0,gV<|.int k])/\(∃d,y=d.map V.str/\d.length=i/\∀s∈d,mZ s)/\m=upd u D (.lst y)) ⟨⟨N4,rfl⟩,⟨[],rfl,rfl,λS h=>nomatch h⟩,rfl⟩ ?_ ?_ ?_
 ·rintro i v y m S ⟨S,S,rfl⟩;exact aa
 ·rintro i v y m hi ⟨⟨v0,rfl⟩,⟨d,rfl,n,g⟩,rfl⟩;have e0:RF (k/2^((0:Int)+(i:Int)).toNat) 1=k/2^((0:Int)+(i:Int)).toNat%2:=WM _;obtain⟨ch,L,hs⟩:=Ld (j:=RF (k/2^((0:Int)+(i:Int)).toNat) 1) (by rw[e0];exact PK _<|by decide) (by rw[e0];exact Po _<|by simp);refine cq ⟨_,rfl,_,rfl,_,_,rfl,rfl,(by simp),_,_,rfl,rfl,.inr<|.inr ⟨_,_,ch,rfl,rfl,(by decide+kernel),L,aa,(by rw[J'];exact ai<|by lia),⟨_,rfl⟩,⟨d++[⟨#[ch]⟩],by rw[Oy];rfl,by rw[NX,n];rfl,λz e=>?_⟩,gx⟩⟩;grind
 rintro v y m ⟨S,⟨d,rfl,n,g⟩,rfl⟩;obtain⟨tl,tw⟩:=A1 g;refine⟨_,D,d,rfl,rfl,SqL.of aa,?_,?_⟩
 ·rw[pH g,show(NV "").length=0 from by decide+kernel];lia
 generalize YU (NV "") d=t at tl tw;have x:Same H (upd u D<|.lst<|d.map V.str):=l.upd_new (l.free hD) _;generalize upd u D (.lst<|d.map V.str)=m at x;have U:(t.length:Int)=r:=by lia
 refine⟨_,rfl,_,rfl,a,N,0,rfl,x.seq I,T5 0,λc=>⟨(by show 1<=sizeLine;decide),λc1 W=>?_⟩⟩;have j1:=ad W<|.lst [.int c];refine⟨_,rfl,1,rfl,63,rfl,a,_,rfl,j1.seq<|x.seq I,λc2 X=>?_⟩;obtain⟨C,Y,a2⟩:=AZ N (gV 1)<|gV 63;rw[Y]at*;have j2:=ad X<|.lst<|C.map V.int;refine⟨c1,c2,_,_,rfl,rfl,j2 _ _ aa,aa,?_,λc3 Z=>?_⟩
 ·rw[J'];exact OQ<|ai (by show 1+C.length<=1000;lia)
 have j3:=ad Z<|.lst ([V.int c]++C.map V.int);have ac:=j1.trans<|j2.trans j3;obtain⟨mN,am⟩:∃mN:Nat,1+J=(mN:Int):=⟨(1+J).toNat,by grind⟩;refine⟨_,rfl,_,rfl,_,_,rfl,rfl,c3,c::C,300,r,mN,(by rw[<-am];rfl),aa,(by simp),(by rw[Os];lia),x0,by lia,by lia,by lia,λnl Pi H4 k4 an o as a3=>⟨(by show 2<=sizeLine;decide),λlo av=>?_⟩⟩;have k5:=ad av<|.lst [.str t,.ref nl];exact q lo nl t Pi _ (x.trans<|ac.trans<|k4.trans k5) aa (gK k5 _ _ an) (by grind) tw (by rw[U];exact o) as (by lia)
noncomputable def Nr:Nd->ab V
 |.yes=>[.str<|NV "yes"]
 |.no=>[.str<|NV "no"]
 |.inn v=>[.str<|NV "in",.int v]
 |.nt i=>[.str<|NV "not",.int (i:Int)]
 |.an i j=>[.str<|NV "and",.int (i:Int),.int (j:Int)]
 |.orr i j=>[.str<|NV "or",.int (i:Int),.int (j:Int)]
theorem rK(h:RD H (lZ n) x):∃p,x=.ref p/\H p=gV (.tup<|Nr n):=by
 cases n
 all_goals
  obtain⟨p,y,rfl,b,W⟩:=al h
  repeat
   obtain⟨x,r,rfl,a,k⟩:=aj W;clear W;have W:=k;clear k;subst a
  obtain rfl:=bP W;exact⟨p,rfl,b⟩
theorem Mm{x y:V}{A B:Prop}(h:decide (x=y)=NZ)(b:B):if decide (x=y)=NU then A else B:=by
 rwa[h]
theorem J8{x y:V}{A B:Prop}(h:decide (x=y)=NU)(a:A):if decide (x=y)=NU then A else B:=by
 rwa[h]
noncomputable abbrev sValue:Pk:=top 109
noncomputable def uv(b a:ab N6):Nd->N6
 |.yes=>NU
 |.no=>NZ
 |.inn v=>b.getD (v-1).toNat NZ
 |.nt i=>!a.getD i NZ
 |.an i j=>a.getD i NZ&&a.getD j NZ
 |.orr i j=>a.getD i NZ || a.getD j NZ
noncomputable def ca(b:ab N6)(Pi:ab Nd):ab N6:=Pi.foldl (λa n=>a++[uv b a n]) []
theorem gW(b:ab N6)(Pi:ab Nd)(n:Nd):ca b (Pi++[n])=ca b Pi++[uv b (ca b Pi) n]:=by
 unfold ca;simp
theorem wa(b:ab N6)(Pi:ab Nd):∀a,(Pi.foldl (λa n=>a++[uv b a n]) a).length=a.length+Pi.length:=by
 induction Pi with
 |nil=>simp
 |cons n r i=>
  intro a;rw[Q4,i,NX,OG,Os];lia
theorem gv(b:ab N6)(Pi:ab Nd):(ca b Pi).length=Pi.length:=by
 unfold ca;rw[wa];exact QK _
noncomputable def formB(Pi:ab Nd)(b:ab N6):N6:=(ca b Pi).getD (Pi.length-1) NZ
theorem uw(h:1<=Pi.length):iU ((ca b Pi).map V.bl) (-1)=gV (.bl<|formB Pi b):=by
 obtain rfl|⟨i,c,rfl⟩:=UC Pi
 ·simp at h
 rw[UE];unfold formB;rw[gW,Oy];have e:[uv b (ca b i) c].map _=[V.bl<|uv b _ c]:=rfl;have E:(ca b i++[uv b (ca b i) c]).getD ((i++[c]).length-1) NZ=uv b (ca b i) c:=by
  rw[NX,OG,VA,A',Ow (by rw[gv];exact N1 _),gv,PY];rfl
 rw[e,Ax,E]
inductive spValue (vs:ab V)(H:Hp)(Q:VK)(E:XK):Prop
 |mk (l f:C')(Pi:ab Nd)(bs:ab N6)(h0:vs=[.ref l,.ref f])(a:RD H (.list<|Pi.map lZ) (.ref l))(b:H f=gV (.lst<|bs.map V.bl))(c:dH bs.length Pi)(d:1<=Pi.length)(e:Pi.length<=2000)(q:∀h:Hp,Same H h->Q (.bl<|formB Pi bs) h)
theorem rL{B:ab N6}{i:Int}(H:0<=i)(a:i<B.length):iU (B.map V.bl) i=gV (.bl<|B.getD i.toNat NZ):=by
 obtain⟨v,h,c⟩:=u6 (x:=B.map V.bl) H (by simp_all);simp_all
inductive DC (H:Hp)(l f v:C')(Pi:ab Nd)(bs:ab N6)(i:Nat)(a:ab (NW V))(h:Hp):Prop
 |mk (b:NW V)(h0:a=[gV<|.ref l,gV<|.ref f,gV<|.ref v,b])(c:h v=gV (.lst<|(ca bs<|Pi.take i).map V.bl))(d:Same H h)
theorem ok_value(F:Fun K "_law_value" "_law_value" sValue f fd):ao P w K mg M aP 1 f fd ["_law_nodes_here","_law_filling"] spValue:=by
 refine F.okB (N:=["_law_nodes_here","_law_filling","_law_values","_law_node"]) λQt A O s H vs Q E sc hr h=>?_;obtain⟨l,g,Pi,B,rfl,hd,hg,C,l1,l2,q⟩:=h;obtain⟨l',X,el,T,W⟩:=cb hd;cases el;have ac:X.length=Pi.length:=by simpa using ci W
 refine⟨_,(ae gg
  (ae (fS 3 (aT<|pv 0) gg)
  gg)),?_⟩
 refine⟨Ou _,λv o=>?_⟩;have N:H v=none:=o;have Y:=@aa H v (.lst []);have D:=ad o<|.lst [];generalize upd H v (.lst [])=H1 at D Y ⊢;refine⟨_,rfl,l,rfl,⟨_,SqL.of<|D _ _ T⟩,dy (K:=K) (a:=l) (X:=X) (DC H l g v Pi B) ⟨N4,rfl,Y,D⟩ ?_ ?_ ?_⟩
 ·rintro i Z m _ ⟨_,_,_,k⟩;exact SqL.of<|k _ _ T
 ·rintro i x Z m hi ⟨v3,rfl,G,k⟩;have W4:i<Pi.length:=by
   have:=(NT.mp hi).1;simp_all
  have hy:=cL (bZ k _ _ W) hi;obtain⟨n,e⟩:∃n,Pi[i]?=gV n:=⟨_,K' W4⟩;have ed:(Pi.map lZ).getD i .none=lZ n:=by
   rw[A',Og,e];rfl
  rw[ed]at hy;have et:Pi.take (i+1)=Pi.take i++[n]:=by rw[OM,e];rfl
  have t:(ca B<|Pi.take i).length=i:=by
   rw[gv,OC];exact W1 (OQ W4)
  have u:=C i n e;have J:=k _ _ hg;have U:∀b,b=uv B (ca B<|Pi.take i) n->DC H l g v Pi B (i+1) [gV<|.ref l,gV<|.ref g,gV<|.ref v,gV x] (upd m v<|.lst<|(ca B<|Pi.take i).map V.bl++[.bl b]):=λb hb=>by
   refine⟨_,rfl,?_,k.upd_new N _⟩;rw[aa,et,gW,Oy,hb];rfl
  have z:((ca B<|Pi.take i).map V.bl).length<sizeLine:=by
   rw[J',t];exact oQ (by lia)
  generalize ca B (Pi.take i)=d at G t U z;obtain⟨p,rfl,j⟩:=rK hy;have I:∀{a:Nat} {R:VK},a<i->R (.bl<|d.getD a NZ) m->GE K (.ref v) (.int (a:Int)) m R:=λ{a R} h r=>(dM G (rL (i:=(a:Int)) (by simp)<|by simp_all) r);cases n<;>(repeat refine⟨_,rfl,(a_ j rfl<|.inl ⟨rfl,_,rfl,Mm (by rfl) ?_⟩)⟩)
  ·exact⟨_,rfl,.inl ⟨rfl,_,SqL.of G⟩,_,rfl,(a_ j rfl<|.inl ⟨rfl,v,_,_,rfl,rfl,G,z,U _ rfl⟩)⟩
  ·exact⟨_,rfl,.inl ⟨rfl,_,SqL.of G⟩,_,rfl,(a_ j rfl<|.inl ⟨rfl,v,_,_,rfl,rfl,G,z,U _ rfl⟩)⟩
  all_goals refine⟨_,rfl,(a_ j rfl<|.inl ⟨rfl,_,rfl,J8 (by rfl) ⟨_,rfl,.inl ⟨rfl,_,SqL.of G⟩,_,rfl,_,rfl,(a_ j rfl ?_)⟩⟩)⟩
  ·obtain⟨v1,v2⟩:=u;exact⟨_,_,rfl,rfl,(dM J (rL (by simp_all)<|by lia) ⟨v,_,_,rfl,rfl,G,z,U _ rfl⟩)⟩
  ·exact I u ⟨_,rfl,v,_,_,rfl,rfl,G,z,U _ rfl⟩
  ·rename_i a c;refine I u.1 ⟨_,rfl,?_⟩;cases y:d.getD a NZ with
   |true=>exact aq ⟨_,rfl,_,rfl,(a_ j rfl<|I u.2 ⟨v,_,_,rfl,rfl,G,z,U _ (by show _=(d.getD a NZ&&_);rw[y];rfl)⟩)⟩
   |false=>exact ak ⟨v,_,_,rfl,rfl,G,z,U _ (by show _=(d.getD a NZ&&_);rw[y];rfl)⟩
  rename_i a c;refine I u.1 ⟨_,rfl,?_⟩;cases y:d.getD a NZ with
  |true=>exact aq ⟨v,_,_,rfl,rfl,G,z,U _ (by show _=(d.getD a NZ || _);rw[y];rfl)⟩
  |false=>exact ak ⟨_,rfl,_,rfl,(a_ j rfl<|I u.2 ⟨v,_,_,rfl,rfl,G,z,U _ (by show _=(d.getD a NZ || _);rw[y];rfl)⟩)⟩
 rintro Z m ⟨v3,rfl,G,k⟩;rw[Od<|by simp_all]at G;have L:=uw (b:=B) l1;exact⟨_,rfl,_,rfl,(dM G L<|q m k)⟩
noncomputable abbrev sNodeV:Pk:=top 44
noncomputable abbrev sFormV:Pk:=top 45
inductive rM (vs:ab V)(H:Hp)(Q:VK)(E:XK):Prop
 |mk (x:V)(v f:C')(nd:Nd)(bs acc:ab N6)(h0:vs=[x,.ref v,.ref f])(h:RD H (lZ nd) x)(a:H v=gV (.lst<|acc.map V.bl))(b:H f=gV (.lst<|bs.map V.bl))(c:l8 bs.length acc.length nd)(q:Q (.bl<|uv bs acc nd) H)
theorem ok_nodev(F:Fun K "node_value" "node_value" sNodeV f j):ao P w K m B aP 1 f j ["node","ahead","filling"] rM:=by
 refine F.okB (N:=["node","ahead","filling","word"]) λt A o s H u Q E z C h=>?_;obtain⟨x,v,g,n,D,b,rfl,y,k,l,U,q⟩:=h;exists _,gg;obtain⟨p,rfl,e⟩:=rK y;have i:∀{a:Nat} {R:VK},a<b.length->R (.bl<|b.getD a NZ) H->GE K (.ref v) (.int (a:Int)) H R:=λ{a R} h r=>(dM k (rL (i:=(a:Int)) (by simp)<|by simp_all) r);cases n<;>refine⟨_,rfl,(a_ e rfl ?_)⟩<;>(repeat refine⟨_,rfl,.inl ⟨rfl,_,rfl,Mm (by rfl) ?_⟩⟩)
 ·exact⟨_,rfl,.inl ⟨rfl,q⟩⟩
 ·exact⟨_,rfl,.inl ⟨rfl,‹_›⟩⟩
 all_goals refine⟨_,rfl,.inl ⟨rfl,_,rfl,J8 (by rfl) ⟨_,rfl,_,rfl,(a_ e rfl ?_)⟩⟩⟩
 ·obtain⟨I,J⟩:=U;exact⟨_,_,rfl,rfl,(dM l (rL (by simp_all)<|by lia) q)⟩
 ·exact i U ⟨_,rfl,q⟩
 ·rename_i a c;refine i U.1 ⟨_,rfl,?_⟩;have d:Q (.bl<|b.getD a NZ&&b.getD c NZ) H:=q;cases G:b.getD a NZ<;>rw[G]at d
  ·exact ak d
  exact aq ⟨_,rfl,_,rfl,(a_ e rfl<|i U.2 d)⟩
 rename_i a c;refine i U.1 ⟨_,rfl,?_⟩;have d:Q (.bl<|b.getD a NZ || b.getD c NZ) H:=q;cases G:b.getD a NZ<;>rw[G]at d
 ·exact ak ⟨_,rfl,_,rfl,(a_ e rfl<|i U.2 d)⟩
 exact aq d
theorem ok_formv(F:Fun K "form_value" "form_value" sFormV f L)(M:Fe P w K O B 1 "node_value" rM):ao P w K O B aP 2 f L ["nodes","filling"] spValue:=by
 refine F.okB (N:=["nodes","filling","values","node"]) λQt A o s H vs Q E sc hr h=>?_;obtain⟨l,g,Pi,b,rfl,T,W,j,Y,l2,q⟩:=h;obtain⟨l',X,Z,u,y⟩:=cb T;cases Z;have ac:X.length=Pi.length:=by simpa using ci y
 refine⟨_,(ae gg
  (ae (fS 3 (aT<|pv 0) gg)
  gg)),?_⟩
 refine⟨Ou _,λv c=>?_⟩;have N:H v=none:=c;have C:=@aa H v (.lst []);have m:=ad c<|.lst [];generalize upd H v (.lst [])=H1 at m C ⊢;refine⟨_,rfl,l,rfl,⟨_,SqL.of<|m _ _ u⟩,dy (K:=K) (a:=l) (X:=X) (DC H l g v Pi b) ⟨N4,rfl,C,m⟩ ?_ ?_ ?_⟩
 ·rintro i D e S ⟨S,S,S,k⟩;exact SqL.of<|k _ _ u
 ·rintro i x D e I ⟨v3,rfl,G,k⟩;have W4:i<Pi.length:=by
   have:=(NT.mp I).1;simp_all
  have J:=cL (bZ k _ _ y) I;obtain⟨n,d⟩:∃n,Pi[i]?=gV n:=⟨_,K' W4⟩;have ed:(Pi.map lZ).getD i .none=lZ n:=by
   rw[A',Og,d];rfl
  rw[ed]at J;have et:Pi.take (i+1)=Pi.take i++[n]:=by rw[OM,d];rfl
  have a:(ca b<|Pi.take i).length=i:=by
   rw[gv,OC];exact W1 (OQ W4)
  have U2:=j i n d;have p:=k _ _ W;have U:DC H l g v Pi b (i+1) [gV<|.ref l,gV<|.ref g,gV<|.ref v,gV x] (upd e v<|.lst<|(ca b<|Pi.take i).map V.bl++[.bl<|uv b (ca b<|Pi.take i) n]):=by
   refine⟨_,rfl,?_,k.upd_new N _⟩;rw[aa,et,gW,Oy];rfl
  have z:((ca b<|Pi.take i).map V.bl).length<sizeLine:=by
   rw[J',a];exact oQ (by lia)
  generalize ca b (Pi.take i)=r at G a U z;refine⟨_,rfl,.inl ⟨rfl,_,SqL.of G⟩,_,rfl,_,rfl,_,rfl,x,v,g,n,b,r,rfl,J,G,p,by simp_all,v,_,_,rfl,rfl,G,z,U⟩
 rintro D e ⟨v3,rfl,G,k⟩;rw[Od<|by simp_all]at G;have t:=uw (b:=b) Y;exact⟨_,rfl,_,rfl,(dM G t<|q e k)⟩
noncomputable def ja(a b m:Int)(i j:Nat):ab Int:=if i=j then [a,m]else if i<j then [a,b,m]else [b,a,m]
noncomputable def lU(n m:Int):Nd->ab (ab Int)
 |.yes=>[[m]]
 |.no=>[[0-m]]
 |.inn v=>[[v,0-m],[0-v,m]]
 |.nt i=>[[n+1+i,m],[0-(n+1+i),0-m]]
 |.an i j=>[[n+1+i,0-m],[n+1+j,0-m],ja (0-(n+1+i)) (0-(n+1+j)) m i j]
 |.orr i j=>[[0-(n+1+i),m],[0-(n+1+j),m],ja (n+1+i) (n+1+j) (0-m) i j]
theorem absI_pos(h:0<=z):absI z=z:=by
 obtain⟨y,e⟩|⟨y,e⟩:=aB z<;>lia
theorem ux(h:0<=z):absI (0-z)=z:=by
 obtain⟨y,e⟩|⟨y,e⟩:=aB (0-z)<;>lia
noncomputable def fw(n:Nat):Nat->ab Nd->ab (ab Int)
 |_,[]=>[]
 |k,N::r=>lU n ((n:Int)+1+k) N++fw n (k+1) r
theorem ju(n:Nat)(N:Nd):∀k r,fw n k (r++[N])=fw n k r++lU n ((n:Int)+1+(k+r.length:Nat)) N
 |k,[]=>by
  show lU n _ N++[]=[]++_
  simp
 |k,x::r=>by
  show lU n _ x++fw n _ (r++[N])=lU n _ x++fw n _ r++_
  rw[ju n N _ r,OX,Os,show k+1+r.length=k+(r.length+1) by lia]
theorem xY(n m:Int)(N:Nd):(lU n m N).length<=3:=by
 cases N<;>simp[lU]
theorem iT(n:Nat):∀k r,(fw n k r).length<=3*r.length
 |_,[]=>N1 _
 |k,x::r=>by
  have h:=xY n ((n)+1+k) x;have H:=iT n (k+1) r;show(lU n _ x++fw n _ r).length<=_
  rw[NX,Os];lia
theorem ql(a b m:Int)(i j:Nat):(ja a b m i j).length<=3:=by
 unfold ja
 split
 ·simp
 split<;>simp
theorem J9(h:c∈lU n m N):c.length<=3:=by
 cases N<;>simp only[lU,Oz,PQ,R9]at h
 ·simp_all
 ·simp_all
 ·obtain rfl|rfl:=h<;>simp
 ·obtain rfl|rfl:=h<;>simp
 ·obtain rfl|rfl|rfl:=h
  ·simp
  ·simp
  exact ql _ _ _ _ _
 obtain rfl|rfl|rfl:=h
 ·simp
 ·simp
 exact ql _ _ _ _ _
theorem uy(n:Nat):∀k r,∀c∈fw n k r,c.length<=3
 |_,[],_,h=>nomatch h
 |k,x::r,c,h=>by
  obtain h|h:=OB.mp h
  ·exact J9 h
  exact uy n _ r c h
noncomputable def clsF(n:Nat)(Pi:ab Nd):ab (ab Int):=fw n 0 Pi++[[(n:Int)+Pi.length]]
noncomputable def turnsF(t:Str)(m:Nat):Str:=t++o6 (NV "w") m
theorem DD(x:Nat):∀n a,(QH n #[x]).foldl (·++·) a=a++(QH n x).toArray
 |0,a=>by simp
 |n+1,a=>by
  rw[XU,Q4,DD x n]
  grind
theorem DE(n:Nat):o6 (NV "w") n=⟨(QH n 119).toArray⟩:=by
 unfold o6;rw[show(NV "w").cps=#[119] by decide+kernel,DD,VG];rfl
theorem qm(n:Nat):(o6 (NV "w") n).length=n:=by
 rw[DE];show(QH n 119).toArray.size=n
 simp
theorem turnsF_len(t:Str)(m:Nat):(turnsF t m).length=t.length+m:=by
 show(t.cps++(o6 _ m).cps).size=_
 rw[Array.size_append];show t.length+(o6 _ m).length=_
 rw[qm]
theorem zQ(h:WS t)(m:Nat):WS (turnsF t m):=by
 intro c H;unfold turnsF at H;rw[DE]at H;have e:((t++(⟨(QH m 119).toArray⟩)).cps).toList=t.cps.toList++QH m 119:=by
  show(t.cps++(QH m 119).toArray).toList=_
  simp
 rw[e]at H;obtain g|g:=OB.mp H
 ·exact h c g
 simp_all
theorem Gg(h:1<=n)(H:n<1000):¬(((NV "w").length:Int)>(2^63-1)/n):=by
 rw[show(NV "w").length=1 by decide+kernel];have:=Int.le_ediv_of_mul_le (a:=1) (b:=2^63-1) (c:=n) (by lia) (by lia);simp_all
theorem DF(h:n<1000):Vc ((NV "w").length*n)=false:=by
 rw[show(NV "w").length=1 by decide+kernel];unfold Vc;simp;exact OQ (ai<|OQ h)
inductive spClF (vs:ab V)(H:Hp)(Q:VK)(E:XK):Prop
 |mk (t:Str)(l:C')(Pi:ab Nd)(h0:vs=[.str t,.ref l])(a:RD H (.list<|Pi.map lZ) (.ref l))(b:WS t)(c:dH t.length Pi)(d:1<=Pi.length)(e:Pi.length<=100)(f:t.length<=20)(q:∀(p L:C') (xs:ab V) (h:Hp),Same H h->H L=N4->h p=gV (.tup [.str<|turnsF t Pi.length,.ref L])->h L=gV (.lst xs)->CLs h (clsF t.length Pi) xs->Q (.ref p) h)
noncomputable abbrev sNodeP:Pk:=top 41
noncomputable abbrev sIsForm:Pk:=top 42
noncomputable abbrev sCheckF:Pk:=top 43
inductive rN (vs:ab V)(H:Hp)(Q:VK)(E:XK):Prop
 |mk (x:V)(nd:Nd)(k:Nat)(n:Int)(h0:vs=[x,.int (k:Int),.int n])(h:RD H (lZ nd) x)(a:l8 n k nd)(q:Q (.bl NU) H)
inductive iH (vs:ab V)(H:Hp)(Q:VK)(E:XK):Prop
 |mk (l:C')(Pi:ab Nd)(n:Int)(h0:vs=[.ref l,.int n])(a:RD H (.list<|Pi.map lZ) (.ref l))(b:dH n Pi)(c:1<=Pi.length)(d:Pi.length<=2000)(q:∀h:Hp,Same H h->Q .non h)
inductive oS (vs:ab V)(H:Hp)(Q:VK)(E:XK):Prop
 |mk (l:C')(Pi:ab Nd)(n:Int)(h0:vs=[.ref l,.int n])(a:RD H (.list<|Pi.map lZ) (.ref l))(b:dH n Pi)(c:1<=Pi.length)(d:Pi.length<=2000)(q:∀h:Hp,Same H h->Q (.bl NU) h)
theorem J_{A B:Hp->Prop}(h:A H):Kl c H λb a=>if b=NU then A a else B a:=by
 assumption
inductive Mn (h:Hp)(D:C')(m:Int)(i:Nat)(a:St)(zs:ab V)(H:Hp):Prop
 |mk (v b:NW V)(h0:a=[v,b,gV (.int m)])(c:zs=(O1 i).map λ_=>V.bl NU)(d:H D=gV (.lst zs))(e:Same h H)
theorem ok_nodep(F:Fun K "is_node" "is_node" sNodeP f i)(e:Fn P w K m B 1 "begins_with" G p ["thing","word","many"] K75.spBeg)(T:Fn P w K m B 1 "is_number" t u ["thing"] K75.spNumP)(g:Fn P w K m B 2 "is_place" y z ["thing","many"] K75.spPlaceP):ao P w K m B aP 3 f i ["thing","place","most"] rN:=by
 refine F.okB (N:=["thing","place","most"]) λC A o s H D Q E I r h=>?_;obtain⟨x,N,k,n,rfl,d,a,q⟩:=h;obtain⟨b,rfl,c⟩:=rK d;refine⟨_,(ae (aO (du<|fW e r (by simp) rfl gg) (cr<|kh (fW T r (by simp) rfl gg)<|hO<|mJ jz jz cZ gg<|pv 2) ay)
  (ae (aO (du<|fW e r (by simp) rfl gg) (cr<|fW g r (by simp) rfl gg) ay)
  (ae (aO (PW.pt<|pd (du<|fW e r (by simp) rfl gg)<|mH<|du<|fW e r (by simp) rfl gg) (cr<|kh (fW g r (by simp) rfl gg)<|hO<|fW g r (by simp) rfl gg) ay)
  (cr<|Ai (fW e r (by simp) rfl gg)<|hO<|fW e r (by simp) rfl gg)))),?_⟩
 cases N<;>(try refine⟨_,rfl,K75.beg_no (m:=2) d (by decide+kernel) (by decide+kernel) (by simp) (by decide+kernel) ⟨_,rfl,ak ?_⟩⟩)<;>(try refine⟨_,rfl,K75.beg_no (m:=2) d (by decide+kernel) (by decide+kernel) (by simp) (by decide+kernel) ⟨_,rfl,ak ?_⟩⟩)<;>(try refine⟨_,rfl,K75.beg_no (m:=3) d (by decide+kernel) (by decide+kernel) (by simp) (by decide+kernel) ⟨_,rfl,ak ?_⟩⟩)<;>(try refine⟨_,rfl,K75.beg_no (m:=3) d (by decide+kernel) (by decide+kernel) (by simp) (by decide+kernel) ⟨_,rfl,ak ?_⟩⟩)
 ·exact⟨_,rfl,K75.beg_at (m:=1) d (by decide+kernel) rfl ⟨_,rfl,aq q⟩⟩
 ·exact⟨_,rfl,K75.beg_no (m:=1) d (by decide+kernel) (by decide+kernel) (by simp) (by decide+kernel) ⟨_,rfl,ak ⟨_,rfl,K75.beg_at (m:=1) d (by decide+kernel) rfl q⟩⟩⟩
 ·rename_i v;obtain⟨j,l⟩:=a;refine⟨_,rfl,K75.beg_at (m:=2) d (by decide+kernel) rfl ⟨_,rfl,aq ⟨_,rfl,(a_ c rfl ⟨.int v,.int v,rfl,aX v,_,rfl,aq ⟨_,rfl,(a_ c rfl ⟨_,_,rfl,rfl,_,rfl,?_⟩)⟩⟩)⟩⟩⟩;rw[Ob j];exact aq ⟨_,rfl,_,_,rfl,rfl,by rw[Ob l];exact q⟩
 ·exact⟨_,rfl,K75.beg_at (m:=2) d (by decide+kernel) rfl ⟨_,rfl,aq ⟨_,rfl,(a_ c rfl ⟨_,rfl,K75.place_at a rfl q⟩)⟩⟩⟩
 ·exact⟨_,rfl,K75.beg_at (m:=3) d (by decide+kernel) rfl ⟨_,rfl,aq<|aq ⟨_,rfl,(a_ c rfl ⟨_,rfl,K75.place_at a.1 rfl ⟨_,rfl,aq ⟨_,rfl,(a_ c rfl ⟨_,rfl,K75.place_at a.2 rfl q⟩)⟩⟩⟩)⟩⟩⟩
 exact⟨_,rfl,K75.beg_at (m:=3) d (by decide+kernel) rfl ⟨_,rfl,aq ⟨_,rfl,(a_ c rfl ⟨_,rfl,K75.place_at a.1 rfl ⟨_,rfl,aq ⟨_,rfl,(a_ c rfl ⟨_,rfl,K75.place_at a.2 rfl q⟩)⟩⟩⟩)⟩⟩⟩
theorem ok_isform(F:Fun K "is_form" "is_form" sIsForm f C)(T:Bl M)(G:Fe P w K M b 3 "is_node" rN):ao P w K M b aP 4 f C ["thing","most"] oS:=by
 refine F.okB (N:=["thing","most"]) λJ A o s H L Q E N O h=>?_;obtain⟨a,Pi,n,rfl,j,l,U,W,q⟩:=h;refine⟨_,(ae (aO (PW.pt<|pd gg<|mH<|gD<|fU (pv 0) λV=>rfl) (cr fT) ay)
  (cr<|aR (mY rfl) rfl T.all Uy<|gY<|qB (N:=["place","node","most"]) (i:=[N4,N4,gV 1]) rfl cS gg (λV V V V=>(wK (K:=K) (n:=2) rfl rfl<|dw (mq 0<|nD ["place","node","most"])<|dw (mq 1<|nD ["place","node","most"]) ma)) (λV V V V=>mh) λV V V V=>gg)),?_⟩
 refine⟨_,rfl,.ref a,_,"list",_,rfl,lI _ _ j,A7 _<|eV j,_,rfl,ak ?_⟩;obtain⟨a,X,e,m,u⟩:=cb j;cases e;have v:=ci u;rw[J']at v;exists _,rfl,!X.isEmpty,.inl ⟨X,SqL.of m,rfl⟩;rw[show X.isEmpty=NZ by cases X with|nil=>simp at v;lia|cons _ _=>rfl];refine ak ⟨_,rfl,a,rfl,⟨_,SqL.of m⟩,λD y=>?_⟩;refine pO (K:=K) (a:=a) (X:=X) (Mn H D n) ⟨N4,N4,rfl,rfl,aa,ad y _⟩ ?_ ?_ ?_
 ·rintro i z Z B V ⟨V,V,V,V,g,k⟩;exact⟨g,SqL.of<|k _ _ m⟩
 ·rintro i x z Z B I c ⟨Y,v1,rfl,rfl,g,k⟩ p;have W4:i<X.length:=(NT.mp c).1;have r:=ad p<|.tup [.int (i:Nat),x];have d:=K' (l:=Pi) (i:=i) (Pb W4 (Ui v));have t:RD H (lZ Pi[i]) x:=by
   have:=cL u c
   rwa [A',Og,d]at this
  refine⟨I,[.int (i:Nat),x],rfl,SqT.of aa,rfl,_,_,rfl,_,_,rfl,rfl,J_ ⟨_,rfl,_,rfl,_,rfl,x,_,i,n,rfl,gK (k.trans r) _ _ t,l i _ d,r _ _ g,?_,⟨_,_,rfl,?_,aa,(k.trans r).upd_new y _⟩⟩⟩
  ·rw[J',Pm];exact oQ (by lia)
  rw[Q3,Oy];rfl
 rintro z Z B ⟨V,V,V,rfl,g,k⟩;exists D,_,rfl,SqL.of g,(A8 _ _).1;rw[(A8 _ _).2,show((O1 _).all _)=NU from O0.mpr λV V=>rfl];exact q _ k
theorem ok_checkf(F:Fun K "check_form" "check_form" sCheckF f d)(D:Fe P w K m b 4 "is_form" oS):ao P w K m b aP 5 f d ["nodes","most"] iH:=by
 refine F.okB (N:=["nodes","most"]) λt A o s H v Q E j r h=>?_;obtain⟨l,Pi,n,rfl,c,a,e,g,q⟩:=h;exists _,(ap<|aO gg (ap d_) ay);exact⟨_,rfl,_,rfl,l,Pi,n,rfl,c,a,e,g,λi k=>⟨_,rfl,ak<|q i k⟩⟩
noncomputable abbrev sBothP:Pk:=top 46
noncomputable abbrev sNodeC:Pk:=top 47
noncomputable abbrev sClOf:Pk:=top 48
noncomputable def jb(a b:Int):ab Int:=if a=b then [a]else if absI a<absI b then [a,b]else [b,a]
theorem zR(h:r.Perm [a,b])(H:(r.map absI).Pairwise (·<=·))(U:a≠b)(c:absI a≠absI b):r=jb a b:=by
 have l:=h.length_eq
 match r,l with
 |[x,y],_=>
  have d:absI x<=absI y:=by simp_all
  have f:x=a\/x=b:=by simpa using(h.mem_iff).mp Om
  unfold jb;rw[Oh U];obtain rfl|rfl:=f
  ·have e:y=b:=by simpa using Yw h
   subst e;rw[Oi<|by lia]
  have g:=h.trans (PN ..);have e:y=a:=by simpa using Yw g
  subst e;rw[Oh<|by exact CW d]
theorem DG(a b:Int):(jb a b).map V.int≠[]:=by
 unfold jb
 split
 ·simp
 split<;>simp
theorem DH(a b:Int):((jb a b).map V.int).length+1<=sizeLine:=by
 unfold jb
 split
 ·show 2<=_
  decide
 split<;>(show 3<=_;decide)
theorem zT{a b m N:Int}{i j:Nat}(H:absI a=N+i)(c:absI b=N+j)(e:i=j->a=b):jb a b++[m]=ja a b m i j:=by
 unfold jb ja;grind
theorem qo(h:0<=z):absI (-z)=z:=by
 obtain⟨y,e⟩|⟨y,e⟩:=aB (-z)<;>lia
inductive rO (vs:ab V)(H:Hp)(Q:VK)(E:XK):Prop
 |mk (a b:Int)(h0:vs=[.int a,.int b])(c:a≠b->absI a≠absI b)(q:∀(p:C') (h:Hp),Same H h->h p=gV (.tup<|(jb a b).map V.int)->Q (.ref p) h)
inductive rP (vs:ab V)(H:Hp)(Q:VK)(E:XK):Prop
 |mk (x:V)(nd:Nd)(n k:Nat)(h0:vs=[x,.int<|(n:Int)+1,.int<|(n:Int)+1+k])(a:RD H (lZ nd) x)(b:l8 n k nd)(q:∀(l:C') (xs:ab V) (h:Hp),Same H h->h l=gV (.lst xs)->CLs h (lU n ((n:Int)+1+k) nd) xs->Q (.ref l) h)
inductive NI (H:Hp)(t:Str)(l L:C')(Pi:ab Nd)(i:Nat)(a:St)(h:Hp):Prop
 |mk (v b:NW V)(ys:ab V)(h0:a=[gV<|.str t,gV<|.ref l,gV<|.int<|(t.length:Int)+1,gV<|.ref L,v,b])(c:h L=gV (.lst ys))(d:CLs h (fw t.length 0<|Pi.take i) ys)(e:Same H h)
theorem ok_bothp(F:Fun K "both" "both" sBothP f i)(T:Bl m):ao P w K m B aP 1 f i ["first","second"] rO:=by
 refine F.okB (N:=["first","second"]) λu A o s H v Q E x y h=>?_;obtain⟨a,b,rfl,d,q⟩:=h;refine⟨_,(ae gg
  (cr<|bv bO rfl T.tuple P1<|gY<|jh rfl T.sorted rfl T.abs gg)),?_⟩
 refine⟨_,rfl,_,rfl,.inl ⟨rfl,_,rfl,fA (λc=>?_) λc=>?_⟩⟩
 ·have e:a=b:=V.int.inj<|Oo c;refine⟨_,rfl,(by show 1<=sizeLine;decide),λp g=>q p _ (ad g _) ?_⟩;unfold jb;rw[Oi e];exact aa
 have U:=λz=>c<|Ob<|OY _ z;refine⟨_,rfl,_,rfl,(by show 2<=sizeLine;decide),λL j=>⟨L,[a,b],rfl,SqL.of aa,(by simp),λl r k g n=>?_⟩⟩;have t:=zR g n U<|d U;subst t;exact⟨l,_,rfl,.inl ⟨SqL.of aa,λp Z=>q p _ ((ad j _).trans<|(ad k _).trans<|ad Z _) aa⟩⟩
theorem ok_nodec(F:Fun K "node_clauses" "node_clauses" sNodeC f D)(Y:Fe P w K M B 1 "both" rO):ao P w K M B aP 2 f D ["node","begin","variable"] rP:=by
 refine F.okB (N:=["node","begin","variable","word","first","second"]) λL A O s H T Q E U W h=>?_;obtain⟨x,N,n,k,rfl,G,X,q⟩:=h;obtain⟨p,rfl,g⟩:=rK G;refine⟨_,(ae gg
  (ae gg
  (ae gg
  (ae gg
  (ae gg
  (ae gg
  (ae gg
  (ae (aO gg (cr<|mM<|aD gg<|g_ gg<|cm wJ gg gg) ay)
  (cr<|mM<|aD gg<|g_ gg<|cm wJ gg gg))))))))),?_⟩
 cases N<;>simp only[lU,Int.zero_sub]at q<;>refine⟨_,rfl,(a_ g rfl ?_)⟩<;>(repeat refine⟨_,rfl,.inl ⟨rfl,_,rfl,Mm (by decide+kernel) ?_⟩⟩)
 ·exact⟨_,rfl,.inl ⟨rfl,_,rfl,J8 (by rfl) ⟨_,rfl,(by show 1<=sizeLine;decide),λc b=>⟨(by show 1<=sizeLine;decide),λl a=>q l _ _ ((ad b _).trans<|ad a _) aa<|.cons ⟨c,rfl,ad a _ _ _ aa⟩ .nil⟩⟩⟩⟩
 ·exact⟨_,rfl,.inl ⟨rfl,_,rfl,J8 (by rfl) ⟨_,rfl,_,rfl,(by show 1<=sizeLine;decide),λc b=>⟨(by show 1<=sizeLine;decide),λl a=>q l _ _ ((ad b _).trans<|ad a _) aa<|.cons ⟨c,rfl,ad a _ _ _ aa⟩ .nil⟩⟩⟩⟩
 ·exact⟨_,rfl,.inl ⟨rfl,_,rfl,J8 (by rfl) ⟨_,rfl,(a_ g rfl ⟨_,rfl,_,rfl,(by show 2<=sizeLine;decide),λc b=>⟨_,rfl,(a_ (ad b _ _ _ g) rfl ⟨_,rfl,_,rfl,(by show 2<=sizeLine;decide),λm d=>⟨(by show 2<=sizeLine;decide),λl a=>q l _ _ ((ad b _).trans<|(ad d _).trans<|ad a _) aa<|.cons ⟨c,rfl,((ad d _).trans<|ad a _) _ _ aa⟩<|.cons ⟨m,rfl,ad a _ _ _ aa⟩ .nil⟩⟩)⟩⟩)⟩⟩⟩
 all_goals refine⟨_,rfl,_,rfl,(a_ g rfl ⟨_,_,rfl,rfl,?_⟩)⟩
 ·exact⟨_,rfl,.inl ⟨rfl,_,rfl,J8 (by rfl) ⟨_,rfl,_,rfl,(by show 2<=sizeLine;decide),λc b=>⟨_,rfl,_,rfl,_,rfl,_,rfl,(by show 2<=sizeLine;decide),λm d=>⟨(by show 2<=sizeLine;decide),λl a=>q l _ _ ((ad b _).trans<|(ad d _).trans<|ad a _) aa<|.cons ⟨c,rfl,((ad d _).trans<|ad a _) _ _ aa⟩<|.cons ⟨m,rfl,ad a _ _ _ aa⟩ .nil⟩⟩⟩⟩⟩
 all_goals
  rename_i i j;refine⟨_,rfl,.inl ⟨rfl,_,rfl,Mm (by rfl) ⟨_,rfl,_,rfl,(a_ g rfl ⟨_,_,rfl,rfl,_,rfl,.inl ⟨rfl,_,rfl,?_⟩⟩)⟩⟩⟩
  first|refine J8 (by rfl) ?_|refine Mm (by rfl) ?_
  refine⟨_,rfl,_,rfl,_,rfl,(by show 2<=sizeLine;decide),λc b=>⟨_,rfl,_,rfl,_,rfl,(by show 2<=sizeLine;decide),λm d=>?_⟩⟩;have Z:=qo (z:=(n:Int)+1+i) (by lia);have a2:=qo (z:=(n:Int)+1+j) (by lia);have b1:=absI_pos (z:=(n:Int)+1+i) (by lia);have b2:=absI_pos (z:=(n:Int)+1+j) (by lia)
  first|refine⟨_,rfl,_,rfl,_,rfl,_,rfl,_,_,rfl,λz y=>z (by simp_all),λu I r v=>?_⟩|refine⟨_,rfl,_,rfl,_,_,rfl,λz y=>z (by lia),λu I r v=>?_⟩
  first|refine⟨_,rfl,(by show 1<=sizeLine;decide),λC o=>?_⟩|refine⟨_,rfl,_,rfl,(by show 1<=sizeLine;decide),λC o=>?_⟩
  refine⟨u,C,_,_,rfl,rfl,SqT.of<|ad o _ _ _ v,SqT.of aa,(by simp),DH _ _,(λz=>absurd z<|DG _ _),λ_ J t=>⟨(by show 3<=sizeLine;decide),λl a=>?_⟩⟩;refine q l _ _ ((ad b _).trans<|(ad d _).trans<|r.trans<|(ad o _).trans<|(ad t _).trans<|ad a _) aa<|.cons ⟨c,rfl,((ad d _).trans<|r.trans<|(ad o _).trans<|(ad t _).trans<|ad a _) _ _ aa⟩<|.cons ⟨m,rfl,(r.trans<|(ad o _).trans<|(ad t _).trans<|ad a _) _ _ aa⟩<|.cons ⟨J,rfl,?_⟩ .nil;rw[<-zT (N:=(n:Int)+1) (by assumption) (by assumption) (λe=>by rw[e]),Oy];exact ad a _ _ _ aa
theorem ok_clof(F:Fun K "clauses_of" "clauses_of" sClOf f fd)(T:Bl M)(ZJ:Fe P w K M b 5 "check_form" iH)(ac:Fe P w K M b 2 "node_clauses" rP):ao P w K M b aP 6 f fd ["turns","nodes"] spClF:=by
 refine F.okB (N:=["turns","nodes","begin","clauses","place","node"]) λQt A O s H vs Q E sc hr h=>?_;obtain⟨t,l,Pi,rfl,hd,am,j,l1,l2,ht,q⟩:=h;obtain⟨l',X,el,B,hx⟩:=cb hd;cases el;have m:X.length=Pi.length:=by simpa using ci hx
 refine⟨_,(ae gg
  (ae gg
  (ae gg
  (ae (dP Pt rfl gg gg
   (ap<|cB<|fC Pe Ud V_ pA (pv 3) gg))
  (ae gg
  (cr<|dQ<|g_ (cm uH (pv 0)<|cm Fa gz gg)<|pv 3)))))),?_⟩
 refine⟨_,rfl,_,rfl,.str t,_,rfl,⟨OQ (ai<|O6 ht (by decide)),rfl⟩,l,Pi,_,rfl,hd,j,l1,(O6 l2 (by decide)),λH1 k1=>?_⟩;exists _,rfl,.str t,_,rfl,⟨OQ (ai<|O6 ht (by decide)),rfl⟩,_,_,rfl,rfl;refine⟨Ou _,λL o=>?_⟩;have n:H L=none:=k1.free o;have k2:=k1.trans<|ad o<|.lst [];refine⟨_,rfl,l,rfl,⟨_,SqL.of<|k2 _ _ B⟩,eA (K:=K) (a:=l) (X:=X) (NI H t l L Pi) ⟨N4,N4,[],rfl,aa,.nil,k2⟩ ?_ ?_ ?_⟩
 ·rintro i σ e V ⟨V,V,V,V,V,V,c⟩;exact SqL.of<|c _ _ B
 ·rintro i x σ e t0 r ⟨v4,v5,y,rfl,G,g,c⟩ D;have W4:i<Pi.length:=by
   have:=(NT.mp r).1;simp_all
  obtain⟨N,d⟩:∃N,Pi[i]?=gV N:=⟨_,K' W4⟩;have C:=ad D (.tup [.int (i:Nat),x]);have hy:=cL (bZ (c.trans C) _ _ hx) r;have ed:(Pi.map lZ).getD i .none=lZ N:=by
   rw[A',Og,d];rfl
  rw[ed]at hy;have et:Pi.take (i+1)=Pi.take i++[N]:=by rw[OM,d];rfl
  have I:(Pi.take i).length=i:=by
   grind
  have U2:=j i N d;have Z:=C _ _ G;exists t0,[.int (i:Nat),x],rfl,SqT.of aa,rfl,_,_,rfl,_,_,rfl,rfl;refine⟨_,rfl,.inl ⟨rfl,_,SqL.of Z⟩,_,rfl,_,rfl,_,rfl,_,rfl,_,_,rfl,rfl,x,N,t.length,i,rfl,hy,U2,λln zs H4 k J u=>?_⟩;have an:=g.length;have as:=u.length;have av:=iT t.length 0<|Pi.take i;have az:=xY t.length ((t.length:Int)+1+i) N;exists L,ln,y,zs,rfl,rfl,k _ _ Z,J,OQ (ai<|by lia);refine⟨_,_,y++zs,rfl,aa,?_,(c.trans<|C.trans k).upd_new n _⟩;rw[et,ju,I,QK];exact cF ((g.mono<|C.trans k).upd<|k _ _ Z)<|u.upd<|k _ _ Z
 rintro σ e ⟨v4,v5,y,rfl,G,g,c⟩;rw[Od<|by simp_all]at g;have aC:=iT t.length 0 Pi;have aF:=g.length;refine⟨_,rfl,.inl ⟨rfl,_,SqL.of G⟩,_,rfl,.str t,_,rfl,⟨OQ (ai<|O6 ht (by decide)),rfl⟩,_,rfl,.ref l,_,rfl,.inl ⟨_,SqL.of<|c _ _ B,rfl⟩,_,_,rfl,rfl,(by show 1<=sizeLine;decide),λa U=>?_⟩;have W:=ad U<|.tup [.int<|(t.length:Int)+(X.length:Int)];have Z:=W _ _ G;exists L,y,.ref a,rfl,rfl,Z,ai (by lia);have k:Same H (upd (upd e a<|.tup [.int<|(t.length:Int)+(X.length:Int)]) L<|.lst<|y++[.ref a]):=(c.trans W).upd_new n _;have Y:a≠L:=λz=>by
  lia
 have c5:CLs (upd (upd e a<|.tup [.int<|(t.length:Int)+(X.length:Int)]) L<|.lst<|y++[.ref a]) (clsF t.length Pi) (y++[.ref a]):=by
  refine cF ((g.mono W).upd Z)<|Paired.cons ⟨a,rfl,?_⟩ .nil;rw[af Y,aa,m];rfl
 have r5:=@aa (upd e a<|.tup [.int<|(t.length:Int)+(X.length:Int)]) L (.lst<|y++[.ref a]);generalize upd (upd e a<|.tup [.int<|(t.length:Int)+(X.length:Int)]) L (.lst<|y++[.ref a])=H5 at k c5 r5;exists _,rfl,_,rfl,.ref l,_,rfl,.inl ⟨_,SqL.of<|k _ _ B,rfl⟩;rw[m];have v:=qm Pi.length;exists _,_,rfl,rfl,(by lia),(by lia),(by decide+kernel),Gg (by lia) (by lia),(by rw[OP];exact DF<|Q_ l2 (by decide)),(by rw[v];exact OQ<|ai<|O6 l2 (by decide)),_,_,rfl,rfl,(by rw[v];exact OQ<|ai<|by lia);refine⟨_,rfl,(by show 2<=sizeLine;decide),λp hp=>?_⟩;have k6:=ad hp<|.tup [.str<|turnsF t Pi.length,.ref L];exact q p L _ _ (k.trans k6) n aa (k6 _ _ r5)<|c5.mono k6
end K75F
namespace K75
open PySem L2 OD
theorem DI:∀k,k<=i->lu e t H (b.take i) k=lu e t H b k
 |0,_=>rfl
 |k+1,h=>by
  rw[lu,lu,DI k (Y3 h),A',Pn (Pb (Sg _) h),<-A']
theorem uz:∀n,k<n->(lu E t H b n)[k]?=gV (if ownB t H k=NU then fM E k (lu E t H b k)else b.getD k NZ)
 |n+1,h=>by
  rw[lu];by_cases e:k<n
  ·rw[OA<|by rwa[cY]];exact uz n e
  have:k=n:=by lia
  subst this;rw[Ow (by rw[cY];exact N1 _),cY,PY];rfl
theorem Gh:∀{n i:Nat},i<=n->(lu e t H b n).take i=lu e t H b i
 |n,i,h=>by
  refine RZ λj=>?_;by_cases g:j<i
  ·rw[Pn g,uz _ (Pb g h),uz _ g]
  rw[O3 (by rw[OC,cY];simp_all),O3<|by rw[cY];simp_all]
def LedRel(t:Str)(h:N6)(os:ab (Int×ab Int×N6))(b c:ab N6):Prop:=b.length=t.length/\c.length=t.length/\∀i,i<t.length->(ownB t h i=NZ/\b[i]?=c[i]?)\/(ownB t h i=NU/\∃y,c[i]?=gV y/\b[i]?=gV (lY os ((i:Int)+1) (b.take i) y))
theorem Gi{os:ab (Int×ab Int×N6)}(l:b.length=t.length)(h:∀i,i<t.length->ownB t H i=NU->b[i]?=gV (Gc e (lY os) t H i<|b.take i)):LedRel t H os b (lu e t H b t.length):=
 ⟨l,cY _ _ _ _ _,λi a=>by
  rw[uz _ a];cases o:ownB t H i with
  |false=>simp_all
  |true=>
   refine .inr ⟨rfl,_,by rw[Oi rfl],?_⟩;rw[h i a o];unfold Gc;rw[DI i<|N1 _]⟩
theorem LedRel.plain{os:ab (Int×ab Int×N6)}(h:LedRel t w os b c){i:Nat}(H:i<t.length)(n:os.find? (λo=>decide (o.1=(i:Int)+1))=N4):b[i]?=c[i]?:=by
 obtain⟨z,e⟩|⟨z,y,a,E⟩:=h.2.2 i H
 ·exact e
 unfold lY at E;rw[n]at E;rw[a,E]
theorem LedRel.same{os:ab (Int×ab Int×N6)}(h:LedRel t w os b c)(n:∀i,i<t.length->b[i]?=c[i]?):b=c:=RZ λi=>by
 by_cases H:i<t.length
 ·exact n i H
 rw[O3 (by have:=h.1;simp_all),O3 (by have:=h.2.1;simp_all)]
theorem LedRel.none(h:LedRel t w [] b c):b=c:=h.same λz H=>h.plain H rfl
theorem LedRel.one{v:Nat}{c:ab Int}{b:N6}{z:Int}(a:z=(v:Int)+1)(h:LedRel t w [(z,c,b)] B C):∀j,j≠v->B[j]?=C[j]?:=λj n=>by
 by_cases H:j<t.length
 ·exact h.plain H (TU.mpr λo m=>by
   rw[N9.mp m];simp;lia)
 rw[O3 (by have:=h.1;simp_all),O3 (by have:=h.2.1;simp_all)]
theorem LedRel.own{v:Nat}{c:ab Int}{b:N6}{z:Int}(H:z=(v:Int)+1)(d:v<t.length)(i:ownB t w v=NU)(h:LedRel t w [(z,c,b)] B C):(c.any (hit<|B.take v)=NU/\B[v]?=C[v]?)\/(c.any (hit<|B.take v)=NZ/\B[v]?=gV b):=by
 obtain⟨e,x⟩|⟨x,y,j,a⟩:=h.2.2 v d
 ·simp_all
 have f:[(z,c,b)].find? (λo=>decide (o.1=(v:Int)+1))=gV _:=Ru (Ob H);unfold lY at a;rw[f]at a;lia
theorem DJ(h:bI c b=NU->bI d C=NU)(e:bI d C=NZ):bI c b=false:=by
 lia
theorem DK(h:1<=absI z):absI z=(((absI z-1).toNat:Nat):Int)+1:=by lia
theorem Ka(h:B[(absI z-1).toNat]?=gV b):hit B z=(b == decide (0<z)):=by unfold hit;rw[h]
theorem zV(f:∀c∈C,ar t.length c)(j:Stp t C (.unit i) D)(R:LedRel t H (Me t C H<|.unit i) b u)(e:bI D u=H):bI C b=H:=by
 obtain⟨y,k,z,E,g⟩:=j;have a:=lq k;have d:LedRel t H (if H=NU then [(absI<|(C.getD i []).getD 0 0,[],decide _)]else []) b u:=R;rw[E]at a d;have r:=(f _ a).2 z Om;have v:(absI z-1).toNat<t.length:=by omega
 cases H with
 |true=>
  have R2:LedRel t NU [(absI z,[],decide (0<z))] b u:=d;obtain⟨q,y⟩|⟨y,q⟩:=LedRel.own (DK r.1) v (by unfold ownB;unfold ownW at g;rw[g];rfl) R2
  ·cases q
  ·exact wZ (λc h l m=>((f c h).2 l m).1) r.1 (LedRel.one (DK r.1) R2) (by rw[Ka q];simp) e
 |false=>
  obtain rfl:=LedRel.none d;exact DJ (BB r.1 (by rw[R.1];simp_all) a) e
def Wn(A:Ans)(t:Str)(h:N6)(c:ab (ab Int)):Prop:=∀b,b.length=t.length->Fol A t h b->bI c b=h
theorem zX(b:∀c∈C,ar t.length c)(d:Stp t C (.unit i) D)(h:Wn (fM e) t H D):Wn (Gc e (lY<|Me t C H<|.unit i) t H) t H C:=λB l F=>
 zV b d (Gi l λi a o=>F i (by simp_all) o) (h _ (cY _ _ _ _ _) λi a o=>by
  rw[cY]at a;rw[uz _ a,Oi o,Gh<|OQ a])
theorem DL{t:Str}(h:∀c∈C,ar t.length c):Rng 0 t.length C:=λc X l H=>by
 have:=(h c X).2 l H;assumption
theorem Fol.ext(h:Fol A t H b):∀k,∃y,y.length=k/\Fol A t H (b++y)
 |0=>by simp_all
 |k+1=>by
  obtain⟨y,e,f⟩:=Fol.ext h k;exact⟨y++[A _<|b++y],by rw[NX,e];rfl,by rw[<-OX];exact f.snoc λz=>rfl⟩
theorem xZ(h:B[i]?=gV b):hit B (lit i b)=true:=by
 unfold hit;rw[sU,show((i:Int)+1-1).toNat=i by lia,h];cases b
 ·rfl
 show(NU == decide (0<(i:Int)+1))=NU
 simp
theorem DN:∀f i C B,t.length=i+f->B.length=i->Rng i t.length C->Fol A t H B->(∀F,F.length=t.length->F.take i=B->Fol A t H F->bI C F=H)->dE t f i C=H
 |f,i,C,B,e,a,r,n,h=>by
  obtain⟨y,D,g⟩:=n.ext f;have x:=h _ (by rw[NX];lia) (W2 a) g;cases G:C.contains []with
  |true=>
   rw[sW G,<-x];exact(Ur.mpr ⟨[],N'.mp G,Oa⟩).symm
  |false=>
  cases d:C.isEmpty with
  |true=>
   rw[ZC.mp d]at x ⊢;rwa[sX]
  |false=>
  have E:=r.fuel G d;obtain⟨k,rfl⟩:∃k,f=k+1:=⟨f-1,by lia⟩;rw[kF G d];have s:∀b,(ownB t H i=NU->b=A i B)->dE t k _ (behind _ C)=H:=λb o=>
   DN k _ _ _ (Eq.trans e (Eq.symm (rb _ _ _))) (by rw[NX,a];rfl) (r.behind b) (n.snoc<|by rwa[a]) λF j p u=>by
    have v:F[i]?=gV b:=by
     rw[<-Pn<|Sg i,p,Ow (Ui a),a,PY];rfl
    have I:=sU i b;rw[<-h F j (by have:=OY (UF i) p;rwa [Uj,W1<|TZ i,W2 a]at this) u];exact PV.mpr ⟨wZ (λc w l j=>by have:=(r c w l j).1;lia) (by lia) (λz z=>rfl)<|xZ v,w_ (by lia) (by lia)<|xZ v⟩
  unfold ownB at s;generalize A i B=c at s;cases q:bJ t i<;>cases H<;>rw[q]at s
  ·have m:=s c λz=>rfl;cases c<;>rw[m]<;>simp
  ·simp_all
  ·simp_all
  have m:=s c λz=>rfl;cases c<;>rw[m]<;>simp
noncomputable def gZ(t:Str)(h:N6)(d:ab Oe)(o:ab (ab Int)):ab gr:=(ul t h d o).map λe=>(e.1,e.2,NZ)
theorem DO(h:nE d=gV i):∃z,d=.tuple [.str aE,.int z]/\z.toNat=i:=by
 unfold nE at h;split at h
 ·split at h
  ·rename_i e;subst e;exact⟨_,rfl,Ot h⟩
  cases h
 cases h
theorem zY(u:∀c∈C,ar t.length c)(m:bE t C w [] d=(o,NU))(h:r∈bo w d o v d.length):r.1.length<=t.length/\∀l∈r.1,1<=absI l/\absI l<v:=by
 have H:∀c∈o,ar t.length c:=by
  have:=fG (w:=w) u (D:=d) (s:=[]) (by simp);rwa[m]at this
 obtain⟨k,x,y⟩:=vi h;obtain⟨l,A,rfl⟩:=OT.mp y;obtain⟨b,n⟩:=Oq.mp A;unfold bS at b
 split at b
 ·rename_i i e;obtain⟨z,B,D⟩:=DO e;obtain⟨j,rfl,Q,F,p⟩:=qK m (by rw[<-B];exact getD_some x);have E:j=i:=by rw[<-D,OP]
  subst E;obtain⟨G,f⟩:=Oq.mp b;have f:l∉o.getD k []:=by grind
  have I:ik t w (o.getD j [])<absI l:=by
   refine Ww λg=>f ?_;rw[p];exact Oq.mpr ⟨G,Ob g⟩
  have O:=dZ H F;have q:∀L∈o.getD k [],1<=absI L/\absI L<v:=λL g=>by
   have J:=(O.2 L g).1;rw[p]at g;have U:=Oo (Oq.mp g).2;exact⟨J,by lia⟩
  have s:=bw O;unfold lO
  split
  ·exact⟨s,q⟩
  refine⟨by rwa[J'],λL g=>?_⟩;obtain⟨a,M,rfl⟩:=OT.mp g;have N:absI (-a)=absI a:=by
   obtain⟨_,e⟩|⟨_,e⟩:=aB a<;>obtain⟨_,P⟩|⟨_,P⟩:=aB (-a)<;>lia
  rw[N];exact q a M
 simp_all
theorem lx(h:e∈gZ t H d o):∃i,i<t.length/\bJ t i=H/\e=(1+(i:Int),bo H d o (1+(i:Int)) d.length,NZ):=by
 obtain⟨E,f,rfl⟩:=OT.mp h;obtain⟨v,g,rfl⟩:=OT.mp f;obtain⟨a,b,c⟩:=eX.mp g;refine⟨(v-1).toNat,by lia,c,?_⟩;rw[lF a]
theorem oT(b:i<t.length)(a:bJ t i=h):(gZ t h d o).find? (λe=>decide (e.1=1+(i:Int)))=gV (1+(i:Int),bo h d o (1+(i:Int)) d.length,NZ):=by
 cases H:(gZ t h d o).find? _ with
 |none=>
  refine absurd (Ob rfl)<|TU.mp H (1+(i),bo h d o (1+(i)) d.length,NZ) ?_;refine OT.mpr ⟨(1+(i),bo h d o _ _),OT.mpr ⟨1+(i),eX.mpr ⟨by lia,by lia,?_⟩,rfl⟩,rfl⟩;grind
 |some e=>
  obtain⟨j,z,z,rfl⟩:=lx<|RL H;have E:=Oo<|W3 (p:=λe:gr=>decide (e.1=1+(i))) H;simp_all
theorem DQ(l:t.length<=900)(f:∀c∈C,ar t.length c)(z:bE t C H [] d=(o,NU)):PlanOk (gZ t H d o) t H:=by
 refine⟨λi h g=>?_,λe j=>?_⟩
 ·have e:=oT (d:=d) (o:=o) h<|eq_of_beq g;exact⟨_,e,RL e,rfl⟩
 obtain⟨i,h,y,rfl⟩:=lx j;refine⟨i,h,rfl,λr k=>?_⟩;obtain⟨a,b⟩:=zY f z k;lia
theorem Gj(a:∀c∈C,ar t.length c)(T:bE t C h [] d=(o,NU))(e:[]∈o):Wn (fM<|gZ t h d o) t h C:=λB l F=>
 zc a T e l λi r b H f=>by
  rw[F i (by simp_all) (by unfold ownB;simp_all)];unfold fM;rw[oT b H];show gV (rC _ _ _)=_
  unfold rC;rw[f]
theorem DR(f:t.length<=9)(j:d.length<=4200)(b:∀c∈C,ar t.length c)(r:bE t C h [] d=(o,NU))(H:e∈gZ t h d o):e.2.1.length<=9000:=by
 obtain⟨i,k,z,rfl⟩:=lx H;have a:∀c∈o,ar t.length c:=by
  have:=fG (w:=h) b (D:=d) (s:=[]) (by simp);rwa[r]at this
 have l:=iB (H:=h) (d:=d) (v:=1+(i)) a (by lia) (n:=d.length);lia
theorem jv{b a:Type}{R:b->a->Prop}:∀{l:ab b} {m:ab a} {j:Nat} {y:a},Paired R l m->m[j]?=gV y->∃x,l[j]?=gV x/\R x y
 |_,_,_,_,.nil,h=>by simp at h
 |x::_,_,0,_,.cons r _,h=>by simp_all
 |_,_,j+1,_,.cons _ t,h=>jv (j:=j) t h
theorem oU(t:Str)(h:N6)(d:ab Oe)(o:ab (ab Int)):(gZ t h d o).map (·.1)=aA t h:=by
 unfold gZ ul;rw[O_,O_];exact Vm _
theorem z_(t:Str)(h:N6)(d:ab Oe)(o:ab (ab Int)):(gZ t h d o).length<=t.length:=by
 have:=OY P3<|oU t h d o;rw[J']at this;rw[this];exact oC t h
theorem wb(h:Paired (PartAt H c L) (ul t w d o) X):EntsAt c (λz=>True) (gZ t w d o) X:=by
 unfold gZ;refine⟨by rw[J'];exact h.length.symm,λi x f=>?_⟩;obtain⟨e,g,p,a,Y,rfl,k,l,b,z,z⟩:=jv h f;refine⟨(e.1,e.2,NZ),by simp_all,p,a,Y,rfl,k,l,⟨b.length.symm,λj y m=>?_⟩,trivial⟩;obtain⟨r,n,q,s,rfl,G,u⟩:=jv b m;exact⟨r,n,q,s,rfl,G,u⟩
noncomputable abbrev rQ:Pk:=top 39
noncomputable def gB(t:Str)(g:ab N6->N6):Nat->ab N6->N6
 |0,b=>g b
 |f+1,b=>if bJ t b.length=NU then gB t g f (b++[NZ]) || gB t g f (b++[NU])else gB t g f (b++[NZ])&&gB t g f (b++[NU])
inductive rR (P:Of)(w:OE)(K:B')(mg:Str->NW M')(base:O5)(fu:Nat)(vs:ab V)(H:Hp)(Q:VK)(E:XK):Prop
 |mk (lf b:C')(t:Str)(good:ab N6->N6)(C:Hp->Prop)(B:ab N6)(h0:vs=[.str t,.ref b,.ref lf])(t8:t.length<=12)(L:LossFn P w K mg base lf good t.length C)(a:C H)(c:H b=gV (.lst<|B.map V.bl))(d:B.length+fu=t.length)
  (q:∀h:Hp,Same H h->Q (.str<|ax<|gB t good fu B) h):rR P w K mg base fu vs H Q E
def spWinByLt(P:Of)(w:OE)(K:B')(m:Str->NW M')(b:O5)(n:Nat):Sp:=λv H Q E=>∃g,g<n/\rR P w K m b g v H Q E
inductive HP (t:Str)(b lf:C')(good:ab N6->N6)(B:ab N6)(fu:Nat)(H:Hp)(j:Nat)(a:St)(h:Hp):Prop
 |mk (v:NW V)(i:a=[gV<|.str t,gV<|.ref b,gV<|.ref lf,gV<|.str<|ax<|bJ t B.length,v])(I:Same H h)(c:1<=j->gB t good fu (B++[NZ])=!bJ t B.length)(d:2<=j->gB t good fu (B++[NU])=!bJ t B.length)
theorem Aa{u:Nat}(F:Fun K "winner_by" "winner_by" rQ f fd)(T:Bl m)(RA:Fe P w K m c 1 "hand_of" eN)(QO:Fe P w K m c 1 "other_hand" eS)
  (X4:Fe P w K m c (u+5) "winner_by" (spWinByLt P w K m c u)):ao P w K m c aP (u+6) f fd ["turns","begun","comes_out"] (rR P w K m c u):=by
 refine F.okB (N:=["turns","begun","comes_out","hand","value"]) λQt A O s H vs Q E sc N h=>?_;obtain⟨U,b,t,G,C,B,rfl,t8,L,X,x,PF,q⟩:=h;have hu:=N.units;refine⟨_,(ae (aO gg (cr<|jx (du<|tR (k:=4) (i:=2) (N.mono<|by simp)<|gY<|pv 1) gg gg) ay)
  (ae gg
  (ae (fS 4 (bQ gg)<|ap<|aO (By (ku hu) (rY X4 N<|aD (pv 0)<|g_ (cm eK (pv 1) gg)<|pv 2)<|pv 3) (cr<|pv 3) ay)
  gg))),?_⟩
 refine⟨_,rfl,.ref b,_,rfl,.inl ⟨_,SqL.of x,rfl⟩,_,rfl,.str t,_,rfl,⟨OQ (ai<|O6 t8 (by decide)),rfl⟩,.inl ⟨rfl,_,rfl,?_⟩⟩;rw[J'];cases u with
 |zero=>
  rw[Ob (show V.int (B.length:Nat)=V.int (t.length:Nat) by rw[<-PF];rfl)];obtain⟨ob,Y,e1,e2⟩:=L.obj H X;refine aq ⟨U,rfl,_,rfl,_,ob,Y,L.fn,e1,e2,b,B,rfl,X,x,PF,λD i=>⟨_,rfl,?_⟩⟩;have I:gB t G 0 B=G B:=rfl;rw[I]at q;cases g:G B with
  |true=>
   rw[g]at q;exact aq<|q D i
  |false=>
   rw[g]at q;exact ak<|q D i
 |succ u=>
  rw[N3 (show¬V.int (B.length:Nat)=V.int (t.length:Nat)from λz=>by have:=V.int.inj z;lia)];refine ak ?_;have hi:B.length<t.length:=by lia
  refine⟨_,rfl,Ou _,λl n0=>⟨(by show 2<=sizeLine;decide),λZ ac=>?_⟩⟩;have k1:=(ad n0<|.lst []).trans<|ad ac<|.tup [.str t,.ref l];have s1:=@aa (upd H l<|.lst []) Z (.tup [.str t,.ref l]);generalize upd (upd H l<|.lst []) Z (.tup [.str t,.ref l])=H1 at k1 s1 ⊢;refine⟨_,rfl,.ref b,_,rfl,.inl ⟨_,SqL.of<|k1 _ _ x,rfl⟩,_,_,rfl,rfl,Z,t,.ref l,B.length,?_,s1,hi,O6 t8 (by decide),?_⟩
  ·rw[J'];rfl
  refine⟨(by show 2<=sizeLine;decide),λa na=>?_⟩;have i:=ad na<|.tup [.bl NZ,.bl NU];have s2:=@aa H1 a (.tup [.bl NZ,.bl NU]);generalize upd H1 a (.tup [.bl NZ,.bl NU])=D at i s2 ⊢;have ZH:=k1.trans i;have I:gB t G (u+1) B=if bJ t B.length=NU then gB t G u (B++[NZ]) || gB t G u (B++[NU])else gB t G u (B++[NZ])&&gB t G u (B++[NU]):=rfl
  refine⟨a,rfl,⟨_,SqT.of s2⟩,dz (K:=K) (a:=a) (X:=[.bl NZ,.bl NU]) (HP t b U G B u D)
   ⟨N4,rfl,Same.refl _,λz=>by simp_all,λz=>by simp_all⟩ ?_ ?_ ?_⟩
  ·rintro j σ n e ⟨e,e,k,e⟩;exact SqT.of<|k _ _ s2
  ·rintro j y σ n hy ⟨v4,rfl,k,W,w2⟩;have o:=ZH.trans k;obtain⟨d,rfl,hj⟩:∃d,y=.bl d/\((j=0/\d=NZ)\/(j=1/\d=NU)):=by
    obtain rfl|rfl:=(by have:=(NT.mp hy).1;simp at this;lia:j=0\/j=1)
    ·simp_all
    simp_all
   refine⟨_,rfl,_,rfl,_,rfl,(by show 1<=sizeLine;decide),λl1 n1=>?_⟩;have k4:=ad n1<|.lst [.bl d];refine⟨b,l1,_,_,rfl,rfl,k4 _ _<|o _ _ x,aa,?_,λJ n2=>?_⟩
   ·rw[J'];exact OQ<|ai (by show B.length+1<=1000;lia)
   have M:=k4.trans<|ad n2<|.lst<|B.map V.bl++[.bl d];have s5:upd (upd n l1<|.lst [.bl d]) J (.lst<|B.map V.bl++[.bl d]) J=gV (.lst<|(B++[d]).map V.bl):=by rw[aa,rE]
   generalize upd (upd n l1<|.lst [.bl d]) J (.lst<|B.map V.bl++[.bl d])=H5 at M s5 ⊢;have p:=o.trans M;refine⟨_,rfl,u,Sg _,U,J,t,G,C,B++[d],rfl,t8,L,L.mono _ _ p X,s5,(by rw[NX];show B.length+1+u=t.length;lia),λH6 k6=>⟨_,rfl,.inl ⟨rfl,_,rfl,?_⟩⟩⟩;rw[dD];by_cases r:gB t G u (B++[d])=bJ t B.length
   ·rw[Ob r];refine aq ⟨_,rfl,?_⟩;have v:=q H6<|p.trans k6;lia
   rw[N3 r];have hn:gB t G u (B++[d])=!bJ t B.length:=by
    lia
   refine ak ?_;obtain⟨rfl,rfl⟩|⟨rfl,rfl⟩:=hj
   ·exact⟨_,rfl,k.trans<|M.trans k6,λe=>hn,λz=>by lia⟩
   exact⟨_,rfl,k.trans<|M.trans k6,λe=>W<|N1 _,λe=>hn⟩
  rintro σ n ⟨v4,rfl,k,W,w2⟩;exists _,rfl,bJ t _,rfl;have v:=q n<|ZH.trans k;simp_all
theorem x9(F:Fun K "winner_by" "winner_by" rQ f d)(T:Bl m)(r:Fe P w K m B 1 "hand_of" eN)(q:Fe P w K m B 1 "other_hand" eS)
  (b:Binds K d ["turns","begun","comes_out"] []) (k:Px K (.ref f)=NU) (c:m "winner_by"=gV (.ref f)):∀u,ao P w K m B aP (u+5) f d ["turns","begun","comes_out"]<|spWinByLt P w K m B u
 |0=>⟨λZ Z Z Z h=>by obtain⟨Z,z,Z⟩:=h;simp_all,λZ Z Z Z Z Z Z Z Z Z Z Z Z h=>by obtain⟨Z,z,Z⟩:=h;lia⟩
 |u+1=>by
  have i:=x9 F T r q b k c u;have st:=Aa F T r q ⟨_,_,_,i,b,k,c⟩;refine⟨λv H Q E h=>?_,λA o s H a U v Q E j l n p h=>?_⟩
  ·obtain⟨g,Z,L,b,t,G,C,x,rfl,Z⟩:=h;rfl
  obtain⟨g,y,h⟩:=h;by_cases e:g=u
  ·subst e;exact st.run A o s H a U v Q E j l n p h
  exact i.run A o s H a U v Q E (j.mono<|by simp) l n p ⟨g,by lia,h⟩
theorem DS(F:Fun K "winner_by" "winner_by" rQ f d)(T:Bl m)(r:Fe P w K m B 1 "hand_of" eN)(Q:Fe P w K m B 1 "other_hand" eS)
  (b:Binds K d ["turns","begun","comes_out"] []) (k:Px K (.ref f)=NU) (a:m "winner_by"=gV (.ref f)):ao P w K m B aP 18 f d ["turns","begun","comes_out"] (spWinByLt P w K m B 13):=x9 F T r Q b k a 13
noncomputable def dY(m x:Nat):ab N6:=(O1 m).map λk=>decide (x/2^(m-1-k)%2=1)
noncomputable abbrev x_:Pk:=top 111
noncomputable abbrev Mo:Pk:=top 110
inductive oV (vs:ab V)(H:Hp)(Q:VK)(E:XK):Prop
 |mk (i m:Nat)(h0:vs=[.int (i:Int),.int (m:Int)])(a:m<=12)(q:∀(l:C') (h:Hp),Same H h->H l=N4->h l=gV (.lst<|(dY m i).map V.bl)->Q (.ref l) h)
theorem qp(k m:Nat)(b:N6):dY (k+1) (2*m+(if b=NU then 1 else 0))=dY k m++[b]:=by
 unfold dY;rw[Q3,Oy]
 congr 1
 ·refine R8 λj h=>?_;have H:=Qh.mp h;have e:2^(k+1-1-j)=2*2^(k-1-j):=by
   rw[<-u3]
   congr 1
   lia
  rw[e,<-Nat.div_div_eq_div_mul];have E:(2*m+(if b=NU then 1 else 0))/2=m:=by
   cases b<;>simp<;>lia
  rw[E]
 simp only[OH,S6];cases b<;>simp<;>lia
noncomputable def Eg(t:Str)(g:ab N6->N6)(k:Nat):ab V:=(O1 (2^k)).map λm=>V.bl<|gB t g (t.length-k)<|dY k m
theorem wc{t:Str}{g:ab N6->N6}{k m:Nat}(h:m<2^k):iU (Eg t g k) (m:Int)=gV (.bl<|gB t g (t.length-k)<|dY k m):=by
 refine aH ?_;unfold Eg;rw[Og,Td h];rfl
theorem uA(k m:Nat):(dY k m).length=k:=by
 unfold dY;simp
theorem Gk(h:k<t.length)(m:Nat):gB t g (t.length-k) (dY k m)=
  if bJ t k=NU then gB t g (t.length-(k+1)) (dY (k+1) (2*m)) || gB t g (t.length-(k+1)) (dY (k+1) (2*m+1))else gB t g (t.length-(k+1)) (dY (k+1) (2*m))&&gB t g (t.length-(k+1)) (dY (k+1) (2*m+1)):=by
 have e:dY _ (2*m)=dY k m++[NZ]:=qp k m NZ;have E:dY _ (2*m+1)=dY k m++[NU]:=qp k m NU;rw[e,E,show t.length-k=t.length-(k+1)+1 by lia];show(if bJ t _=NU then _ else _)=_
 rw[uA]
inductive DT (vs:ab V)(H:Hp)(Q:VK)(E:XK):Prop
 |mk (t:Str)(l:C')(good:ab N6->N6)(h0:vs=[.str t,.ref l])(a:WS t)(t8:t.length<=9)(b:H l=gV (.lst<|Eg t good t.length))(q:∀h:Hp,Same H h->Q (.str<|ax<|gB t good t.length []) h)
inductive we (t:Str)(good:ab N6->N6)(H:Hp)(j:Nat)(a:St)(h:Hp):Prop
 |mk (l:C')(v:NW V)(i:a=[gV<|.str t,gV<|.ref l,v])(I:h l=gV (.lst<|Eg t good<|t.length-j))(b:Same H h)
theorem Ab(b:N6):iU [V.str<|NV "spoiler",V.str<|NV "wisher"] (if b then 1 else 0)=gV (.str<|ax b):=by
 cases b<;>rfl
theorem Ac(F:Fun K "_law_filled" "_law_filled" x_ f d)(T:Bl M):ao P w K M b aP 1 f d ["_law_number","_law_count"] oV:=by
 refine F.okB (N:=["_law_number","_law_count"]) λt A o s H v Q E g j h=>?_;obtain⟨i,m,rfl,l,q⟩:=h;exists _,(cr<|jR ["_law_k","_law_number","_law_count"] [N4,gV 0,gV 1] gg);refine⟨_,rfl,(m:Int),rfl,(by simp),(by lia),λD a=>?_⟩;refine ij (n:=m) [gV<|.int (i:Int),gV<|.int (m:Int)] (λk=>.bl (decide (V.int (RF ((i:Int)/2^((m:Int)-1-((0:Int)+(k:Int))).toNat) 1)=V.int 1))) rfl a (O6 l (by decide)) (λz z z r=>r) ?_ ?_
 ·intro k c p R u r;exact⟨_,rfl,_,rfl,_,_,rfl,rfl,_,rfl,_,_,rfl,rfl,_,_,rfl,rfl,(by lia),_,_,rfl,rfl,.inl ⟨rfl,r⟩⟩
 have n:(O1 m).map (λk:Nat=>V.bl (decide (V.int (RF ((i:Int)/2^((m:Int)-1-((0:Int)+(k:Int))).toNat) 1)=V.int 1)))=(dY m i).map V.bl:=by
  unfold dY;rw[O_];refine R8 λk c=>?_;have U:k<m:=Qh.mp c;have e:((m:Int)-1-((0:Int)+(k:Int))).toNat=m-1-k:=by simp
  rw[e];exact OY V.bl<|A6 i<|m-1-k
 rw[n];exact q D _ (ad a _) a aa
theorem Kb(F:Fun K "_law_won" "_law_won" Mo f N)(T:Bl O):ao P w K O B aP 1 f N ["_law_turns","_law_level"] DT:=by
 refine F.okB (N:=["_law_turns","_law_level","_law_k"]) λQt A o s H vs Q E sc hr h=>?_;obtain⟨t,l,g,rfl,W,t8,X,q⟩:=h;have Z:∀k,k<=8->2^k<=256:=λk C=>RW (by decide) C;refine⟨_,(ae (fS 2 gg<|ap<|aO gg (ap<|sT 1<|jR ["_law_number","_law_level"] [N4,gV 1] gg (e:=λz z z z=>(Ai (y_ (K:=K) (pv 1) gg)<|hO<|y_ (K:=K) (pv 1) gg)))<|ap<|sT 1<|jR ["_law_number","_law_level"] [N4,gV 1] gg (e:=λz z z z=>(kh (y_ (K:=K) (pv 1) gg)<|hO<|y_ (K:=K) (pv 1) gg)))
  gg),?_⟩
 refine⟨_,rfl,.str t,_,rfl,⟨OQ (ai<|by lia),rfl⟩,_,_,rfl,rfl,_,rfl,_,rfl,(t.length:Int)-1,-1,rfl,by lia,m9 (lo:=(t.length:Int)-1) (we t g H) ⟨l,N4,rfl,X,Same.refl _⟩ ?_ ?_⟩
 ·rintro j σ p hj ⟨L,v2,rfl,G,u⟩;have ac:j<t.length:=by simp_all
  obtain⟨k,C⟩:∃k,t.length=k+j+1:=⟨t.length-j-1,by omega⟩;have ek:(t.length:Int)-1-(j:Int)=(k:Int):=by simp_all
  have eL:t.length-j=k+1:=by lia
  rw[eL]at G;have am:=Z k (by lia);have e:=wI k;rw[ek];have v:k<t.cps.toList.length:=by
   rw[OL];show k<t.length
   lia
  have c:=K' v;have x:iU t.cps.toList (k:Int)=gV t.cps.toList[k]:=aH c;have Y:=λm=>Gk (t:=t) (g:=g) (k:=k) (by lia) m;have pw:2^(k+1)=2*2^k:=u3;have n:∀m:Nat,m<2^k->iU (Eg t g<|k+1) (2*((0:Int)+(m:Int)))=gV (.bl<|gB t g (t.length-(k+1))<|dY (k+1) (2*m)):=λm a=>by
   rw[WX];exact wc (m:=2*m) (by simp_all)
  have I:∀m:Nat,m<2^k->iU (Eg t g<|k+1) (2*((0:Int)+(m:Int))+1)=gV (.bl<|gB t g (t.length-(k+1))<|dY (k+1) (2*m+1)):=λm a=>by
   rw[WX];exact wc (m:=2*m+1) (by lia)
  refine⟨_,rfl,_,rfl,.inr<|.inr ⟨t,_,_,rfl,rfl,OQ (ai<|by lia),x,.inl ⟨rfl,_,rfl,?_⟩⟩⟩;rw[GS,<-A5 c];have U:∀D,p D=N4->we t g H (j+1) [gV<|.str t,gV<|.ref D,gV<|.int (k:Int)] (upd p D<|.lst<|Eg t g k):=λD b=>⟨D,_,rfl,by rw[aa,show t.length-(j+1)=k by lia],u.trans<|ad b _⟩;cases J:bJ t k with
  |true=>
   refine aq ⟨_,rfl,_,_,rfl,rfl,⟨by simp,by lia,by simp⟩,((2^k:Nat):Int),by simp,(Y8 (by simp)<|TV _),(by lia),λD b=>?_⟩;refine ij (n:=2^k) [gV<|.ref L] (λm=>.bl<|gB t g (t.length-k)<|dY k m) rfl b (O6 am (by decide)) (λz z z r=>r) ?_<|U D b;intro m a H' R d r;rw[Y m,J,Oi rfl]at r;refine⟨_,rfl,_,rfl,_,_,rfl,rfl,.inl (by simp),(dM (d _ _ G) (n m a) ⟨_,rfl,?_⟩)⟩;cases i:gB t g (t.length-(k+1)) (dY (k+1) (2*m))with
   |true=>
    rw[i,Y9]at r;exact aq r
   |false=>
    rw[i,R6]at r;exact ak ⟨_,rfl,_,rfl,_,_,rfl,rfl,.inl (by simp),_,_,rfl,rfl,(dM (d _ _ G) (I m a) r)⟩
  |false=>
   refine ak ⟨_,rfl,_,_,rfl,rfl,⟨by simp,by lia,by simp⟩,((2^k:Nat):Int),by simp,(Y8 (by simp)<|TV _),(by lia),λD b=>?_⟩;refine ij (n:=2^k) [gV<|.ref L] (λm=>.bl<|gB t g (t.length-k)<|dY k m) rfl b (O6 am (by decide)) (λz z z r=>r) ?_<|U D b;intro m a H' R d r;rw[Y m,J,Oh Oa]at r;refine⟨_,rfl,_,rfl,_,_,rfl,rfl,.inl (by simp),(dM (d _ _ G) (n m a) ⟨_,rfl,?_⟩)⟩;cases i:gB t g (t.length-(k+1)) (dY (k+1) (2*m))with
   |true=>
    rw[i,ZQ]at r;exact aq ⟨_,rfl,_,rfl,_,_,rfl,rfl,.inl (by simp),_,_,rfl,rfl,(dM (d _ _ G) (I m a) r)⟩
   |false=>
    rw[i,aaC]at r;exact ak r
 rintro σ p ⟨L,v2,rfl,G,u⟩;have e0:t.length-((t.length:Int)-1 - -1).toNat=0:=by simp
 rw[e0]at G;refine⟨(by show 2<=sizeLine;decide),λlh y=>?_⟩;have M:=ad y<|.lst [.str<|NV "spoiler",.str<|NV "wisher"];have n:iU (Eg t g 0) 0=gV (.bl<|gB t g t.length []):=rfl;refine⟨_,rfl,(dM (M _ _ G) n<|.inr ⟨_,rfl,(dM aa (Ab _)<|q _<|u.trans M)⟩)⟩
end K75
namespace K75F
open PySem L2 OD
theorem uB(e:i=j->a=b):(ja a b m i j).any p=(p a || p b || p m):=by
 unfold ja
 split
 ·simp_all
 split
 ·simp[Bool.or_assoc]
 simp only[Qd,S7,Rx];cases p a<;>cases p b<;>rfl
theorem Gm{f B a:ab N6}{n k:Nat}{N:Nd}(H:l8 n k N)(l:∀v:Int,1<=v->v<=n->hit f v=B.getD (v-1).toNat NZ)(b:∀i:Nat,i<k->hit f ((n:Int)+1+i)=a.getD i NZ)
  (m:∀z:Int,1<=z->z<=(n:Int)+1+k->hit f (0-z)=!hit f z):bI (lU n ((n:Int)+1+k) N) f=(hit f ((n:Int)+1+k) == uv B a N):=by
 have c:=m ((n)+1+k) (by lia)<|T5 _;have d:∀i:Nat,i<k->hit f (0-((n)+1+i))=!a.getD i _:=λi h=>by rw[m _ (by lia) (by lia),b i h]
 cases N with
 |yes=>
  simp only[lU,uv,bI,Rx];simp
 |no=>
  simp only[lU,uv,bI,Ri,Qd,S7,Rx,c];simp
 |inn v=>
  obtain⟨g,o⟩:=H;simp only[lU,uv,bI,Ri,S9,Qd,S7,Tt,c,m v g (by lia),l v g o];cases hit f _<;>cases B.getD _ NZ<;>rfl
 |nt i=>
  simp only[lU,uv,bI,Ri,S9,Qd,S7,Tt,c,d i H,b i H];cases hit f _<;>cases a.getD i NZ<;>rfl
 |an i j=>
  simp only[lU,uv,bI,Ri,S9,Qd,S7,Tt,c,uB (λe:i=j=>by rw[e]:i=j->(0-((n:Int)+1+i))=0-((n)+1+j)),d i H.1,d j H.2,b i H.1,b j H.2];cases hit f _<;>cases a.getD i NZ<;>cases a.getD j NZ<;>rfl
 |orr i j=>
  simp only[lU,uv,bI,Ri,S9,Qd,S7,Tt,c,uB (λe:i=j=>by rw[e]:i=j->((n:Int)+1+i)=(n)+1+j),d i H.1,d j H.2,b i H.1,b j H.2];cases hit f _<;>cases a.getD i NZ<;>cases a.getD j NZ<;>rfl
theorem rS(h:1<=z):hit f z=f.getD (z-1).toNat false:=by
 unfold hit;rw[absI_pos (by lia),A'];cases f[(z-1).toNat]? with
 |none=>rfl
 |some b=>
  rw[Ob<|by lia];cases b<;>rfl
theorem Kc(h:1<=z)(l:z<=f.length):hit f (0-z)=!hit f z:=by
 rw[rS h];unfold hit;rw[ux (by lia),A',K' (by lia)];rw[N3<|by lia];simp
theorem oW{n:Nat}{B:ab N6}(l:B.length=n):∀m Pi Y,Pi.length=m->dH n Pi->m<=Y.length->(bI (fw n 0 Pi) (B++Y)=NU↔Y.take m=ca B Pi)
 |0,Pi,Y,h,_,_=>by
  obtain rfl:=P2.mp h;exact⟨λw=>VB ..,λw=>rfl⟩
 |m+1,Pi,Y,h,H,p=>by
  obtain rfl|⟨r,N,rfl⟩:=UC Pi
  ·cases h
  rw[UE]at h H ⊢;have c:r.length=m:=by simpa using h
  have I:=oW l m r Y c (λk x e=>H k x<|by rwa[OA (NT.mp e).1]) (Y3 p);have o:=H m N (by simp_all);have g:∀i,i<m+1->hit (B++Y) ((n)+1+i)=Y.getD i _:=λi h=>by
   rw[rS (by lia),A',A',show((n:Int)+1+i-1).toNat=n+i by lia,Ow (by simp_all),show n+i-B.length=i by lia]
  have d:=Gm (f:=B++Y) (B:=B) (a:=Y.take m) o (λv f j=>by
   rw[rS f,A',A',OA<|by lia]) (λi h=>by
   rw[g i (QF h),A',A',Pn h]) λz f j=>Kc f (by grind)
  have t:Y.take (m+1)=Y.take m++[Y.getD m NZ]:=by
   rw[OM,A',K'<|by exact Pb (Sg _) p];rfl
  rw[ju,gW,t];have e:bI (fw n 0 r++lU n ((n)+1+(0+r.length:Nat)) N) (B++Y)=(bI (fw n 0 r) (B++Y)&&bI (lU n ((n)+1+(m)) N) (B++Y)):=by
   rw[QK,c];exact TF ..
  rw[e,d,g m (by simp),Pf,I,UI];constructor
  ·rintro⟨a,b⟩;rw[<-a,b]
  intro a;obtain⟨x,y⟩:=ZG a rfl;exists x;rw[x];exact(ud y).1
theorem qq{n:Nat}{b Y:ab N6}{Pi:ab Nd}(h:b.length=n)(H:dH n Pi)(c:1<=Pi.length)(d:Y.length=Pi.length):bI (clsF n Pi) (b++Y)=NU↔Y=ca b Pi/\formB Pi b=true:=by
 have a:=oW h _ Pi Y rfl H (by simp_all);rw[Od<|by exact Ui d]at a;have e:bI (clsF n Pi) (b++Y)=(bI (fw n 0 Pi) (b++Y)&&hit (b++Y) ((n)+Pi.length)):=by
  unfold clsF;simp[bI]
 have g:hit (b++Y) ((n)+Pi.length)=Y.getD (Pi.length-1) false:=by
  rw[rS (by lia),A',Ow<|by lia]
  congr 2
  lia
 rw[e,Pf,a,g];constructor
 ·rintro⟨x,y⟩;rw[x]at y;exact⟨x,y⟩
 rintro⟨x,y⟩;exists x;rwa[x]
theorem qr(t:Str)(m:Nat):(turnsF t m).cps.toList=t.cps.toList++QH m 119:=by
 unfold turnsF;rw[DE];show(t.cps++(QH m 119).toArray).toList=_
 simp
theorem isW_lt(h:i<t.length):bJ (turnsF t m) i=bJ t i:=by
 unfold bJ;rw[qr,OA<|by assumption]
theorem wf(h:t.length<=i)(H:i<t.length+m):bJ (turnsF t m) i=true:=by
 unfold bJ;have e:t.cps.toList.length=t.length:=OL;rw[qr,Ow (by lia),e,Wv,Oi<|by lia];rfl
theorem Ad(h:K75.Fol A t w b)(l:b.length<=t.length):K75.Fol A (turnsF t m) w b:=λj a H=>h j a (by
 unfold K75.ownB at H ⊢
 rwa [isW_lt<|by exact Pb a l]at H)
theorem form_wins(n:dH t.length Pi)(c:1<=Pi.length)(h:K75.Wn A (turnsF t Pi.length) w (clsF t.length Pi))(b:ab N6)(l:b.length=t.length)(F:K75.Fol A t w b):formB Pi b=w:=by
 have H:=Ad (m:=Pi.length) F (Ui l);cases w with
 |true=>
  obtain⟨y,d,f⟩:=H.ext _;exact((qq l n c d).mp<|h _ (by rw[turnsF_len];simp_all) f).2
 |false=>
  cases g:formB Pi b with
  |false=>rfl
  |true=>
   have v:=gv b Pi;have a:=h (b++ca b Pi) (by rw[turnsF_len];simp_all) λj e o=>by
    by_cases q:j<b.length
    ·rw[OA q,QG<|by exact OQ q];exact H j q o
    unfold K75.ownB at o;rw[wf (by simp_all)<|by simp_all]at o;cases o
   rw[(qq l n c v).mpr ⟨rfl,g⟩]at a;cases a
theorem DU(h:∀B,B.length=t.length->K75.Fol A t H B->g B=H):∀f B,B.length+f=t.length->K75.Fol A t H B->K75.gB t g f B=H
 |0,B,e,F=>h B e F
 |f+1,B,e,F=>by
  have s:∀b,(K75.ownB t H _=NU->b=A _ B)->K75.gB t g f _=H:=λb o=>DU h f _ (by rw[NX,OG];exact Eq.trans (rb _ _ _) e)<|F.snoc o;unfold K75.gB;unfold K75.ownB at s;generalize A _ B=c at s;cases q:bJ t _<;>cases H<;>rw[q]at s
  ·have a:=s c λz=>rfl;cases c<;>rw[a]<;>simp
  ·simp_all
  ·simp_all
  grind
def DV(m:Int)(c:ab Int):Prop:=∃r z,c=r++[z]/\absI z=m/\Ups r/\∀l∈r,1<=absI l/\absI l<m
theorem r8{x z m:Int}(h:absI z=m)(g:1<=absI x/\absI x<m):DV m [x,z]:=⟨[x],z,rfl,h,by simp[Ups],by simpa using g⟩
theorem NJ{a b z m:Int}{i j:Nat}(h:absI z=m)(x:1<=absI a/\absI a<m)(y:1<=absI b/\absI b<m)(e:i<j->absI a<absI b)(g:j<i->absI b<absI a):DV m (ja a b z i j):=by
 unfold ja
 split
 ·exact r8 h x
 split
 ·exact⟨[a,b],z,rfl,h,by simp[Ups,e ‹_›],by simp[x,y]⟩
 exact⟨[b,a],z,rfl,h,by simp[Ups,g<|by lia],by simp[x,y]⟩
theorem Kd{n k:Nat}{N:Nd}(H:l8 n k N){c:ab Int}(a:c∈lU n ((n:Int)+1+k) N):DV ((n:Int)+1+k) c:=by
 have p:∀z,1<=z->absI z=z:=λz h=>absI_pos (by lia);have q:∀z,1<=z->absI (0-z)=z:=λz h=>ux (by lia);have b:=p ((n:Int)+1+k) (by lia);have Q:=q ((n:Int)+1+k) (by lia);have P:∀i,i<k->(1<=absI ((n:Int)+1+i)/\absI ((n:Int)+1+i)<(n:Int)+1+k)/\1<=absI (0-((n:Int)+1+i))/\absI (0-((n:Int)+1+i))<(n:Int)+1+k:=λi h=>by
  rw[p _ (by lia),q _<|by lia];lia
 cases N with
 |yes=>rw[N9.mp a];exact⟨[],_,rfl,b,.nil,λy h=>nomatch h⟩
 |no=>rw[N9.mp a];exact⟨[],_,rfl,Q,.nil,λy h=>nomatch h⟩
 |inn v=>
  obtain⟨d,e⟩:=H;simp only[lU,Oz,PQ,R9]at a;obtain rfl|rfl:=a
  ·exact r8 Q (by rw[p v d];lia)
  ·exact r8 b (by rw[q v d];lia)
 |nt i=>
  simp only[lU,Oz,PQ,R9]at a;obtain rfl|rfl:=a
  ·exact r8 b (P i H).1
  ·exact r8 Q (P i H).2
 |an i j=>
  simp only[lU,Oz,PQ,R9]at a;obtain rfl|rfl|rfl:=a
  ·exact r8 Q (P i H.1).1
  ·exact r8 Q (P j H.2).1
  ·exact NJ b (P i H.1).2 (P j H.2).2 (λy=>by rw[q _ (by lia),q _<|by lia];simp_all) λy=>by rw[q _ (by lia),q _<|by lia];simp_all
 |orr i j=>
  simp only[lU,Oz,PQ,R9]at a;obtain rfl|rfl|rfl:=a
  ·exact r8 b (P i H.1).2
  ·exact r8 b (P j H.2).2
  exact NJ Q (P i H.1).1 (P j H.2).1 (λy=>by rw[p _ (by lia),p _<|by lia];simp_all) λy=>by rw[p _ (by lia),p _<|by lia];simp_all
theorem uC{n:Nat}:∀r k,(∀j x,r[j]?=gV x->l8 n (k+j) x)->∀c∈fw n k r,∃i,i<k+r.length/\DV ((n:Int)+1+i) c
 |x::r,k,H,c,a=>by
  rw[Os];obtain h|h:=OB.mp a
  ·exact⟨k,by simp,Kd (H 0 x rfl) h⟩
  obtain⟨i,b,o⟩:=uC r _ (λj y e=>by rw[show k+1+j=k+(j+1) by lia];exact H _ y e) c h;exact⟨i,Pb b (Ui (rb _ _ _)),o⟩
theorem ya{n:Nat}(H:dH n Pi)(b:1<=Pi.length){c:ab Int}(a:c∈clsF n Pi):∃i,i<Pi.length/\DV ((n:Int)+1+i) c:=by
 obtain h|h:=OB.mp a
 ·obtain⟨i,d,o⟩:=uC Pi 0 (λj x e=>by rw[QK];exact H j x e) c h;exact⟨i,by simp_all,o⟩
 rw[N9.mp h];exact⟨Pi.length-1,by omega,[],_,rfl,by rw[absI_pos<|by lia];lia,.nil,λz h=>nomatch h⟩
theorem Gn{n:Nat}(H:dH n Pi)(d:1<=Pi.length):∀c∈clsF n Pi,ar (n+Pi.length) c:=λc f=>by
 obtain⟨i,p,r,z,rfl,e,u,h⟩:=ya H d f;refine⟨?_,λl j=>?_⟩
 ·unfold Ups at u ⊢;rw[Oy,P_];exact⟨u,by simp,λa k b m=>by
   obtain⟨x,o,rfl⟩:=OT.mp k;simp_all⟩
 obtain g|g:=OB.mp j
 ·have:=h l g;lia
 rw[N9.mp g];lia
theorem clsF_last(h:dH t.length Pi)(H:1<=Pi.length)(a:c∈clsF t.length Pi):K75.lastS (turnsF t Pi.length) c=false:=by
 obtain⟨i,b,r,z,rfl,e,y,y⟩:=ya h H a;unfold K75.lastS K75.ownW;rw[List.getLast?_concat];show(!bJ _ _)=NZ
 rw[wf (by omega)<|by omega];rfl
theorem clsF_unit(h:1<=Pi.length):∃c∈clsF t.length Pi,K75.unitB (turnsF t Pi.length) c=true:=by
 exists _,O2 _<|N9.mpr rfl;show K75.ownW _ _=NU
 unfold K75.ownW;rw[absI_pos<|by lia];exact wf (by lia) (by omega)
theorem clsF_few(w:WS t)(H:dH t.length Pi)(a:1<=Pi.length)(d:t.length<=4)(f:Pi.length<=5):K75.Few (turnsF t Pi.length) (clsF t.length Pi):=by
 have e:=turnsF_len t Pi.length;refine⟨zQ w _,by lia,?_,by rw[e];exact Gn H a,λc b=>?_⟩
 ·have:=iT t.length 0 Pi;unfold clsF;rw[NX,OG];lia
 obtain h|h:=OB.mp b
 ·have:=uy _ 0 Pi c h;lia
 simp_all
theorem form_lev(H:dH t.length Pi)(a:1<=Pi.length)(h:K75.Wn A (turnsF t Pi.length) w (clsF t.length Pi)):K75.gB t (formB Pi) t.length []=w:=
 DU (form_wins H a h) _ [] (QK _) λi b=>by simp_all
noncomputable abbrev sFormW:Pk:=top 49
noncomputable abbrev sFormL:Pk:=top 50
noncomputable abbrev fQ:Pl:=Ls (Lr<|(cc sFormW).drop 1) 2
noncomputable abbrev rT:Str:=("form_winner":Str)++".<locals>."++"<lambda>"
noncomputable abbrev fR:Pl:=Ls (Lr<|(cc sFormL).drop 1) 3
noncomputable abbrev rV:Str:=("form_losing_play":Str)++".<locals>."++"<lambda>"
abbrev TabW(H:Hp)(T:C'):Prop:=TabAt H T (Lu fQ) rT
abbrev TabL(H:Hp)(T:C'):Prop:=TabAt H T (Lu fR) rV
theorem TabAt.off(h:TabAt H T p q)(k:Off t H a)(n:T≠t)(d:TabAt H t A f):TabAt a T p q:=by
 obtain⟨P,e,r,c⟩:=h;exact⟨P,k _ _ n e,r,λC z=>(c C z).mono λb o y=>k.at_ d y λx z=>nomatch z⟩
structure FormIn (H:Hp)(l:C')(Pi:ab Nd)(n:Nat):Prop where
 rd:RD H (.list<|Pi.map lZ) (.ref l)
 ok:dH n Pi
 l1:1<=Pi.length
 l2:Pi.length<=2000
theorem FormIn.mono(h:FormIn H l Pi n)(k:Same H a):FormIn a l Pi n:=⟨gK k _ _ h.rd,h.ok,h.l1,h.l2⟩
theorem FormIn.off(h:FormIn H l Pi n)(k:Off T H a)(t:TabAt H T p q):FormIn a l Pi n:=⟨Jm h.rd k t,h.ok,h.l1,h.l2⟩
inductive spFormW (T:C')(vs:ab V)(H:Hp)(Q:VK)(E:XK):Prop
 |mk (l:C')(t:Str)(Pi:ab Nd)(h0:vs=[.str t,.ref l])(a:FormIn H l Pi t.length)(t8:t.length<=12)(b:TabW H T)(q:∀h:Hp,Off T H h->TabW h T->Q (.str<|ax<|K75.gB t (formB Pi) t.length []) h)
noncomputable def Ke(Pi:ab Nd)(h:N6)(b:ab N6):N6:=formB Pi b != h
inductive spFormL (C CL T:C')(vs:ab V)(H:Hp)(Q:VK)(E:XK):Prop
 |mk (l x:C')(t:Str)(Pi:ab Nd)(hw:N6)(e:K75.Ans)(h0:vs=[.str t,.ref l,.str<|ax hw,.ref x])(a:FormIn H l Pi t.length)(t8:8>=t.length)(p:K75.PAe C CL H x e t hw)(b:TabL H T)
  (c:∀bs,bs.length=t.length->K75.Fol e t hw bs->formB Pi bs=hw) (q:∀h:Hp,Off T H h->TabL h T->Q .non h):spFormL C CL T vs H Q E
section
variable {CL:C'}
theorem yb:ee ["turns","nodes"] ["turns","nodes"] (aw sFormW):=Bw
theorem Gp:nA "filling" ["nodes"] (yV fQ):=⟨rfl,rfl,rfl,rfl,PP.mpr ⟨rfl,QZ _⟩,by decide+kernel,by decide+kernel,by grind⟩
theorem Gq:nA "filling" ["nodes","hand"] (yV fR):=⟨rfl,rfl,rfl,rfl,PP.mpr ⟨rfl,PP.mpr ⟨rfl,QZ _⟩⟩,by decide+kernel,by decide+kernel,by decide+kernel⟩
theorem Ae{L l d:C'}{i:Obj}{n:Nat}{Pi:ab Nd}(j:Fe P w K m B 2 "form_value" spValue):
  K75.LossFn P w K m B L (formB Pi) n (λH=>LamAt H L rT (yT fQ) (yU fQ) (yV fQ) [("nodes",d)]/\CapAt H [(d,i)] [.ref l]/\FormIn H l Pi n):=by
 refine⟨λH x k h=>⟨h.1.mono λb o z=>k _ _ z,h.2.1.mono λb o z=>k _ _ z,h.2.2.mono k⟩,λH h=>?_,?_⟩
 ·obtain⟨y,C,c,e,Z⟩:=h.1;exact⟨_,_,e,rfl⟩
 refine wS (G:=rT) (M:=yT fQ) (U:=yU fQ) Gp (λZ Z Z Z Z=>rfl) λD H Q E h=>?_;obtain⟨g,p,rfl,⟨M,a,f⟩,q,r,t⟩:=h;refine⟨.ref g,[(d,i)],[.ref l],rfl,M,a,rfl,by simp,λc A O s u=>?_⟩;exists _,(rY j u<|g_ (pv 1)<|pv 0);exact⟨_,rfl,_,rfl,l,g,Pi,p,rfl,wT f.rd a,a.less q (λZ z=>nomatch z),by rw[r];exact f.ok,f.l1,f.l2,λF v=>t _<|pM a.look v⟩
theorem DW{L l:C'}{m p:Obj}{n:Nat}{Pi:ab Nd}{d:N6}(t:Bl q)(v:Fe P w K q B 2 "form_value" spValue)(N:i≠j):
  K75.LossFn P w K q B L (Ke Pi d) n (λH=>LamAt H L rV (yT fR) (yU fR) (yV fR) [("nodes",i),("hand",j)]/\CapAt H [(i,m),(j,p)] [.ref l,.str<|ax d]/\FormIn H l Pi n):=by
 refine⟨λH I k h=>⟨h.1.mono λb o z=>k _ _ z,h.2.1.mono λb o z=>k _ _ z,h.2.2.mono k⟩,λH h=>?_,?_⟩
 ·obtain⟨J,C,c,e,Z⟩:=h.1;exact⟨_,_,e,rfl⟩
 refine wS (G:=rV) (M:=yT fR) (U:=yU fR) Gq (λZ Z Z Z Z=>rfl) λU H Q E h=>?_;obtain⟨g,x,rfl,⟨M,a,f⟩,y,D,F⟩:=h;refine⟨.ref g,[(i,m),(j,p)],[.ref l,.str<|ax d],rfl,M,a,rfl,by simp[N],λc A O s r=>?_⟩;have u:=r.units;have T:=t;exists _,(Bx (u5 u) (rY v r<|g_ (pv 1)<|pv 0)<|Bx (ku u) (pv 2)<|bK rfl T.g_WISHER);refine⟨_,rfl,_,rfl,l,g,Pi,x,rfl,wT f.rd a,a.less y (λZ z=>nomatch z),by rw[D];exact f.ok,f.l1,f.l2,λW G=>⟨_,rfl,.inl ⟨rfl,.inl ⟨rfl,?_⟩⟩⟩⟩;rw[K75.dec_wish,qv];exact F _<|pM a.look G
theorem ok_formw{Z:C'}{d3:Oc}(F:FunL K "form_winner" "form_winner" sFormW f fd c)(L:kL m B c T')(T:Bl m)(ZJ:Fe P w K m B 5 "check_form" iH)(SH:Fn P w K m B 2 "form_value" f2 d2 ["nodes","filling"] spValue)
  (X4:Fn P w K m B 18 "winner_by" Z d3 ["turns","begun","comes_out"] (K75.spWinByLt P w K m B 13)):ao P w K m B aP 19 f fd ["turns","nodes"] (spFormW T'):=by
 have sc:=yb;refine F.ok yb (λvs H Q E h=>?_) λA v s H vs Q E hr h=>?_
 ·obtain⟨l,t,Pi,rfl,_⟩:=h;rfl
 obtain⟨l,t,Pi,rfl,g,t8,a,q⟩:=h;refine⟨_,(ae gg
  (cr<|Br ["nodes"] X4 hr (by simp) rfl (λ_=>rfl) (PP.mpr ⟨rfl,QZ _⟩)<|aD (pv 0)<|g_ gg<|Bk L rfl)),?_⟩
 refine⟨_,rfl,_,rfl,.str t,_,rfl,⟨OQ (ai<|by lia),rfl⟩,l,Pi,_,rfl,g.rd,g.ok,g.l1,g.l2,λJ k0=>?_⟩;refine⟨_,rfl,Ou _,λb nb=>?_⟩;have k:=k0.trans<|ad nb<|.lst [];have M:=@aa J b (.lst []);generalize upd J b (.lst [])=H1 at k M ⊢;refine⟨a.mono k,λN u ac O i j=>?_⟩;refine⟨PP.mpr ⟨⟨1,_,rfl,rfl⟩,QZ _⟩,λce x U=>?_⟩;cases x with
 |cons c1 r1=>
 cases r1;rename_i q1;obtain⟨d,p⟩:=q1;obtain⟨W,u1,d1,X⟩:=c1;have z1:=X 1 (.ref l) rfl rfl;have r:gV _=gV d:=W;have y:LamAt u N rT (yT fQ) (yU fQ) (yV fQ) [("nodes",d)]:=by
  rw[<-Ot r];exact j
 clear W r j X;have I:RY d [(d,p)]=gV p:=by simp
 have C:Same u (g9 u _):=pK U;have D:CapAt (g9 u _) _ _:=.cons ⟨fI I,u1,d1,z1⟩ .nil;have G:=((g.mono k).off O<|a.mono k).mono C;refine⟨t.length,EX t8,N,b,t,formB Pi,_,[],rfl,t8,Ae ⟨_,_,_,SH⟩,⟨y.mono λb o z=>C _ _ z,D,G⟩,C _ _<|O.at_ (a.mono k) M (by lia),(by simp),λH3 k3=>?_⟩;have Y:=tP U k3;exact q _ (λb o n e=>Y _ _<|O b o n<|k _ _ e)<|i.mono Y
theorem yc:ee ["turns","nodes","hand","player"] ["turns","nodes","hand","player"] (aw sFormL):=Bw
theorem ok_forml{f3:C'}{d3:Oc}(F:FunL K "form_losing_play" "form_losing_play" sFormL f fd c)(L:kL m B c T')(T:Bl m)(TH:Bl m)(ZJ:Fe P w K m B 5 "check_form" iH)(SH:Fn P w K m B 2 "form_value" f2 d2 ["nodes","filling"] spValue)
  (Xd:Fn P w K m B 15 "first_loss" f3 d3 ["sentence","hand","player","loses","begun","others"] (K75.spFstLt P w K m B CP CL 9)):ao P w K m B aP 16 f fd ["turns","nodes","hand","player"] (spFormL CP CL T'):=by
 have sc:=yc;refine F.ok yc (λvs H Q E h=>?_) λA X s H vs Q E hr h=>?_
 ·obtain⟨l,x,t,Pi,p,es,rfl,_⟩:=h;rfl
 obtain⟨l,x,t,Pi,p,es,rfl,C,t8,Vd,D,hW,q⟩:=h;refine⟨_,(ae gg
  (cr<|Br ["nodes","hand"] Xd hr (by simp) rfl (λ_=>rfl) (PP.mpr ⟨rfl,PP.mpr ⟨rfl,QZ _⟩⟩)<|aD gg<|aD (pv 2)<|aD (pv 3)<|aD (Bk L rfl) gg)),?_⟩
 refine⟨_,rfl,_,rfl,.str t,_,rfl,⟨OQ (ai<|O6 t8 (by decide)),rfl⟩,l,Pi,_,rfl,C.rd,C.ok,C.l1,C.l2,λH0 k0=>?_⟩;refine⟨_,rfl,Ou _,λG n0=>⟨(by show 2<=sizeLine;decide),λY Z=>?_⟩⟩;have r:=k0.trans<|(ad n0<|.lst []).trans<|ad Z<|.tup [.str t,.ref G];have s1:=@aa (upd H0 G<|.lst []) Y (.tup [.str t,.ref G]);generalize upd (upd H0 G<|.lst []) Y (.tup [.str t,.ref G])=H1 at r s1 ⊢;refine⟨_,rfl,_,rfl,D.mono r,λlf u aL O I J=>⟨Ou _,λb nb=>⟨Ou _,λo no=>?_⟩⟩⟩;have k2:=ad nb<|.lst [];have N:upd u b (.lst []) o=none:=no;have sb:upd (upd u b<|.lst []) o (.lst []) b=gV (.lst []):=ad N _ _ _ aa;have M:=k2.trans<|ad N<|.lst [];have so:=@aa (upd u b<|.lst []) o (.lst []);have a0:u o=none:=k2.free N;refine⟨PP.mpr ⟨⟨1,_,rfl,rfl⟩,PP.mpr ⟨⟨2,_,rfl,rfl⟩,QZ _⟩⟩,λce ac U2=>?_⟩;cases ac with
 |cons c1 r1=>
 cases r1 with
 |cons c2 r2=>
 cases r2;rename_i q1 q2;obtain⟨a,v⟩:=q1;obtain⟨d,y⟩:=q2;obtain⟨e1,u1,d1,v1⟩:=c1;obtain⟨e2,u2,d2,v2⟩:=c2;have z1:=v1 1 (.ref l) rfl rfl;have z2:=v2 2 (.str<|ax p) rfl rfl;have g:gV _=gV a:=e1;have j:gV _=gV d:=e2;have ne:a≠d:=λz=>by
  simp_all
 have am:LamAt u lf rV (yT fR) (yU fR) (yV fR) [("nodes",a),("hand",d)]:=by
  rw[<-Ot g,<-Ot j];exact J
 clear e1 e2 g j J v1 v2;generalize upd (upd u b<|.lst []) o (.lst [])=U at sb M so U2;have an:RY a [(a,v),(d,y)]=gV v:=by simp
 have as:RY d [(a,v),(d,y)]=gV y:=by
  have hb:(d == a)=false:=by simpa using Pw ne
  rw[Ra,hb];simp
 have kp:Same U (g9 U [(a,v),(d,y)]):=pK U2;have W:=M.trans kp;have av:CapAt (g9 U [(a,v),(d,y)]) [(a,v),(d,y)] [.ref l,.str<|ax p]:=.cons ⟨fI an,u1,d1,z1⟩<|.cons ⟨fI as,u2,d2,z2⟩ .nil;have k:=D.mono r;have az:=((C.mono r).off O k).mono W;have aC:=((Vd.mono r).off O k).mono W;refine⟨t.length,EX t8,Y,x,lf,b,o,t,_,p,es,Ke Pi p,_,[],[],rfl,W _ _<|O.at_ k s1 (by simp),(q7 t8),aC,DW TH ⟨_,_,_,SH⟩ ne,⟨am.mono λb o z=>W _ _ z,av,az⟩,kp _ _ sb,kp _ _ so,(by simp),N1 _,(λi z=>by simp_all),λbs hl hF=>?_,λH' k'=>?_⟩
 ·unfold Ke;simp_all
 have ko:=tP U2 k';have aF:Off T' H U:=λb o n e=>M _ _<|O b o n<|r _ _ e;exact q _ (aF.same ko)<|I.mono<|M.trans ko
end
end K75F
namespace K75
open PySem L2 OD
noncomputable abbrev HQ:Pk:=top 22
noncomputable abbrev HR:Pk:=top 37
noncomputable abbrev yd:Pk:=top 36
noncomputable abbrev HS:Pk:=top 38
def DX(f:Nat):Sp:=λv H Q _=>∃(t:Str) (q:C') (i:Nat) (x:ab V) (c:ab (ab Int)),v=[.str t,.ref q,.int<|(i:Int)+1]/\H q=gV (.lst x)/\CLs H c x/\Small c/\Rng i t.length c/\t.length=i+f/\t.length<=900/\
 ∀h:Hp,Same H h->Q (.str<|ax<|dE t f i c) h
def HU:Nat->Sp
 |0=>λ_ _ _ _=>False
 |f+1=>DX f
def ye(n:Nat):Sp:=λv H Q E=>∃f,f<=n/\DX f v H Q E
inductive wg (vs:ab V)(H:Hp)(Q:VK)(E:XK):Prop
 |mk (p b:C')(t:Str)(q:C')(xs:ab V)(c:ab (ab Int))(h0:vs=[.ref p,.ref b])(a:H p=gV (.tup [.str t,.ref q]))(d:H q=gV (.lst xs))(e:CLs H c xs)(f:H b=gV (.lst []))
  (g:∀(p q:C') (ys:ab V) (h:Hp),Same H h->h p=gV (.tup [.str t,.ref q])->h q=gV (.lst ys)->CLs h c ys->Q (.ref p) h):wg vs H Q E
inductive wj (vs:ab V)(H:Hp)(Q:VK)(E:XK):Prop
 |mk (p b:C')(t:Str)(q:C')(xs:ab V)(c:ab (ab Int))(h0:vs=[.ref p,.ref b])(a:H p=gV (.tup [.str t,.ref q]))(d:H q=gV (.lst xs))(e:CLs H c xs)(f:H b=gV (.lst []))(g:Small c)(i:Rng 0 t.length c)(j:t.length<=9)
  (k:∀h:Hp,Same H h->Q (.str<|ax<|dE t t.length 0 c) h):wj vs H Q E
inductive Kf (vs:ab V)(H:Hp)(Q:VK)(E:XK):Prop
 |mk (p:C')(t:Str)(q:C')(xs:ab V)(c:ab (ab Int))(h0:vs=[.ref p])(a:H p=gV (.tup [.str t,.ref q]))(b:H q=gV (.lst xs))(d:CLs H c xs)(e:Small c)(f:Rng 0 t.length c)(g:t.length<=9)
  (i:∀h:Hp,Same H h->Q (.str<|ax<|dE t t.length 0 c) h):Kf vs H Q E
theorem wk{u:Nat}(F:Fun K "winner_left" "winner_left" yd f fd)(T:Bl M)(RA:Fe P w K M b 1 "hand_of" eN)(QO:Fe P w K M b 1 "other_hand" eS)
  (Sk:Fe P w K M b 1 "literal_by" iR) (Q2:Fe P w K M b 1 "clauses_behind" dq) (ac:Fe P w K M b (u+1) "winner_left" (HU u)):
  ao P w K M b aP (u+2) f fd ["turns","clauses","variable"] (DX u):=by
 refine F.okB (N:=["turns","clauses","variable","hand","value","left"]) λQt A O s H vs Q E sc hr h=>?_;obtain⟨t,o,i,X,c,rfl,D,d,m,r,PF,h9,q⟩:=h;have hu:=hr.units;refine⟨_,(ae (aO (eO (A3 hu) gg (pv 1)<|by rfl) gg ay)
  (ae (aO (gD<|fU (pv 1) λV=>rfl) gg ay)
  (ae gg
  (ae (fS 4 (bQ gg) gg)
  gg)))),?_⟩
 refine⟨Ou _,λe U=>⟨_,rfl,.tuple [],c.map ii,aQ aa au,cW (by rw[af<|ah D U];exact D) (d.mono<|ad U _).rds,(by rfl),gL c,(by decide+kernel),_,rfl,?_⟩⟩;rw[any_nil];have v:Same H (upd H e<|.tup []):=ad U _;generalize upd H e (.tup [])=n at v;cases I:c.contains []with
 |true=>
  rw[sW I]at q;exact aq<|q n v
 |false=>
 refine ak ?_;have W:=v _ _ D;exists _,rfl,!X.isEmpty,.inl ⟨X,SqL.of W,rfl⟩;have Y:X.isEmpty=c.isEmpty:=by
  have:=d.length;cases c<;>cases X
  ·rfl
  ·cases this
  ·cases this
  rfl
 rw[Y];cases J:c.isEmpty with
 |true=>
  have e0:c=[]:=ZC.mp J;rw[e0,sX]at q;exact aq<|q n v
 |false=>
 refine ak ?_;have Z:=r.fuel I J;obtain⟨G,rfl⟩:∃G,u=G+1:=⟨u-1,by lia⟩;refine⟨_,rfl,_,rfl,(by show 2<=sizeLine;decide),λp hp=>?_⟩;have k2:Same n (upd n p<|.tup [.str t,.ref o]):=ad hp _;have rp:=@aa n p (.tup [.str t,.ref o]);generalize upd n p (.tup [.str t,.ref o])=L at k2 rp;exists _,rfl,p,t,_,i,rfl,rp,Z,h9;refine⟨(by show 2<=sizeLine;decide),λa ha=>?_⟩;have k3:Same L (upd L a<|.tup [.bl NZ,.bl NU]):=ad ha _;have ra:=@aa L a (.tup [.bl NZ,.bl NU]);generalize upd L a (.tup [.bl NZ,.bl NU])=H3 at k3 ra;have y:=v.trans<|k2.trans k3;refine⟨a,rfl,⟨_,SqT.of ra⟩,dz (K:=K) (a:=a) (X:=[.bl NZ,.bl NU])
  (λj N C=>∃v4 v5,N=[gV<|.str t,gV<|.ref o,gV<|.int<|(i:Int)+1,gV<|.str<|ax<|bJ t i,v4,v5]/\Same H3 C/\(1<=j->dE t G (i+1) (behind (lit i NZ) c)≠bJ t i)/\(2<=j->dE t G (i+1) (behind (lit i NU) c)≠bJ t i))
  ⟨N4,N4,rfl,Same.refl _,λz=>by simp_all,λz=>by simp_all⟩ ?_ ?_ ?_⟩
 ·rintro j N C V ⟨V,V,V,k,V⟩;exact SqT.of<|k _ _ ra
 ·rintro j x N C hx ⟨v4,v5,rfl,k,w1,w2⟩;have l:=y.trans k;obtain⟨B,rfl,hj⟩:∃B,x=.bl B/\((j=0/\B=NZ)\/(j=1/\B=NU)):=by
   obtain rfl|rfl:=(by have:=(NT.mp hx).1;simp at this;lia:j=0\/j=1)
   ·simp_all
   simp_all
  exists _,rfl,_,rfl,_,rfl,(i:Int)+1,B,rfl;have el:(if B=NU then(i:Int)+1 else -((i:Int)+1))=lit i B:=rfl;rw[el];refine⟨o,_,X,c,rfl,l _ _ D,d.mono l,m.1,m.2,λq2 ys H5 k5 am r5 c5=>?_⟩;exists _,rfl,_,rfl,_,rfl,_,_,rfl,rfl;refine⟨t,q2,i+1,ys,behind (lit i B) c,?_,r5,c5,m.behind _,r.behind B,by lia,h9,λH6 k6=>?_⟩
  ·rfl
  refine⟨_,rfl,.inl ⟨rfl,_,rfl,?_⟩⟩;rw[dD];refine fA (λg=>?_) λg=>?_
  ·have z:=EY I J B<|Oo g;rw[z]at q;exact⟨_,rfl,q H6<|l.trans<|k5.trans k6⟩
  have z:dE t G (i+1) (behind (lit i B) c)≠bJ t i:=λz=>g<|Ob z;obtain⟨rfl,rfl⟩|⟨rfl,rfl⟩:=hj
  ·exact⟨_,_,rfl,k.trans<|k5.trans k6,λV=>z,λz=>by lia⟩
  exact⟨_,_,rfl,k.trans<|k5.trans k6,λV=>w1<|N1 _,λV=>z⟩
 rintro N C ⟨v4,v5,rfl,k,w1,w2⟩;have z:=A4 I J (w1<|by decide) (w2<|by decide);rw[z]at q;exact⟨_,rfl,_,rfl,q C<|y.trans k⟩
theorem DY(F:Fun K "winner_left" "winner_left" yd f d)(T:Bl m)(r:Fe P w K m B 1 "hand_of" eN)(Q:Fe P w K m B 1 "other_hand" eS)
  (s:Fe P w K m B 1 "literal_by" iR) (q:Fe P w K m B 1 "clauses_behind" dq) (b:Binds K d ["turns","clauses","variable"] []) (k:Px K (.ref f)=NU) (a:m "winner_left"=gV (.ref f)):
  ∀u,ao P w K m B aP (u+1) f d ["turns","clauses","variable"]<|HU u
 |0=>⟨λz z z z h=>h.elim,λz z z z z z z z z z z z z h=>h.elim⟩
 |u+1=>wk F T r Q s q ⟨_,_,_,DY F T r Q s q b k a u,b,k,a⟩
theorem Kg(F:Fun K "winner_left" "winner_left" yd f d)(T:Bl m)(r:Fe P w K m B 1 "hand_of" eN)(O:Fe P w K m B 1 "other_hand" eS)
  (k:Fe P w K m B 1 "literal_by" iR) (e:Fe P w K m B 1 "clauses_behind" dq) (b:Binds K d ["turns","clauses","variable"] []) (p:Px K (.ref f)=NU) (c:m "winner_left"=gV (.ref f)):
  ao P w K m B aP 11 f d ["turns","clauses","variable"] (ye 9):=by
 have R:=DY F T r O k e b p c;refine⟨λv H Q E h=>?_,λA o s H a U v Q E g j l n h=>?_⟩
 ·obtain⟨u,z,t,q,i,x,C,rfl,z⟩:=h;rfl
 obtain⟨u,y,h⟩:=h;exact(R<|u+1).run A o s H a U v Q E (g.mono<|SZ (SZ y)) j l n h
theorem Gr(F:Fun K "left_of" "left_of" HQ f r)(T:Bl m)(G:Fe P w K m B 1 "literal_by" iR)(I:Fe P w K m B 1 "clauses_behind" dq):
  ao P w K m B aP 2 f r ["sentence","begun"] wg:=by
 refine F.okB (N:=["sentence","begun","clauses","place","value"]) λJ A o s H L Q E M N h=>?_;obtain⟨p,b,t,u,X,O,rfl,g,y,z,j,q⟩:=h;refine⟨_,(ae gg
  (ae (dP Pt rfl gg gg
   gg)
  gg)),?_⟩
 refine⟨_,rfl,(a_ g rfl ⟨u,X,rfl,.inl<|SqL.of y,λl d=>?_⟩)⟩;have k:Same H (upd H l<|.lst X):=ad d _;refine⟨_,rfl,b,rfl,⟨_,SqL.of<|k _ _ j⟩,eA (K:=K) (a:=b) (X:=[]) (λi a c=>(∃v n,a=[gV<|.ref p,gV<|.ref b,gV<|.ref l,v,n])/\c=upd H l (.lst X)) ⟨⟨N4,N4,rfl⟩,rfl⟩ ?_ ?_ ?_⟩
 ·rintro i a c Y ⟨Y,rfl⟩;exact SqL.of<|k _ _ j
 ·rintro i x a c U C;cases C
 rintro a c ⟨⟨v,n,rfl⟩,rfl⟩;refine⟨_,rfl,(a_ (k _ _ g) rfl ⟨_,rfl,(by show 2<=sizeLine;decide),λD Z=>?_⟩)⟩;have e:=ad Z<|.tup [.str t,.ref l];exact q D l X _ (k.trans e) aa (e _ _ aa)<|z.mono<|k.trans e
theorem Gs(F:Fun K "winner_from" "winner_from" HS f e)(T:Bl m)(i:Fe P w K m B 2 "left_of" wg)(j:Fe P w K m B 11 "winner_left" (ye 9)):
  ao P w K m B aP 12 f e ["sentence","begun"] wj:=by
 refine F.okB (N:=["sentence","begun","left"]) λJ A o s H L Q E M N h=>?_;obtain⟨p,b,t,a,x,C,rfl,l,n,r,d,c,g,u,q⟩:=h;exists _,gg;refine⟨_,rfl,_,rfl,p,b,t,a,x,C,rfl,l,n,r,d,λp a y O k G v z=>?_⟩;exact⟨_,rfl,(a_ G rfl ⟨_,rfl,(a_ G rfl ⟨_,rfl,.ref b,_,rfl,.inl ⟨_,SqL.of<|k _ _ d,rfl⟩,_,_,rfl,rfl,⟨t.length,u,t,a,0,y,C,rfl,v,z,c,g,by simp,O6 u (by decide),λD I=>q D<|k.trans I⟩⟩)⟩)⟩
theorem Mp(F:Fun K "winner_of" "winner_of" HR f d)(a:Fe P w K M b 12 "winner_from" wj):ao P w K M b aP 13 f d ["sentence"] Kf:=by
 refine F.okB (N:=["sentence"]) λy A o s H z Q E B D h=>?_;obtain⟨p,t,c,x,C,rfl,e,i,j,m,g,n,q⟩:=h;exists _,gg;refine⟨_,rfl,Ou _,λl r=>?_⟩;have k:=ad r<|.lst [];exact⟨p,l,t,c,x,C,rfl,k _ _ e,k _ _ i,j.mono k,aa,m,g,n,λu v=>q u<|k.trans v⟩
noncomputable abbrev DZ:Pk:=top 112
def yf(K:B')(T t:C'):Sp:=λv H Q _=>∃(a:C') (n:ab Int),v=[.ref a]/\SqL K H a (n.map V.int)/\n.length<=63/\K75F.TabL H T/\K75F.TabW H t/\∀h,Q (.bl NU) h
theorem D0(s:Nx):Nice 1 s.d:=by
 cases s<;>first|exact nh (fX (cV 0<|by decide+kernel)<|fX (jL 0 _) tz)|exact nh<|fX (cV 0<|by decide+kernel)<|fX (jL 0 _)<|fX (jL 0 _) tz
theorem Af(a:ab Nx):Nice 2 (.list<|a.map Nx.d):=pJ λd h=>by
 obtain⟨s,z,rfl⟩:=OT.mp h;exact D0 s
theorem Gu(h:StpsAt H s y):cO H (s.map Nx.d) y:=by
 induction h with
 |nil=>rfl
 |cons h _ i=>
  obtain⟨p,rfl,h⟩:=h;exact ag (Hu h) i
inductive NK (h:Hp)(D nl:C')(t:Str)(Pi:ab K75F.Nd)(i:Nat)(a:St)(ys:ab V)(H:Hp):Prop
 |mk (v:NW V)(I:a=[v,gV (.ref nl),gV (.str t)])(b:ys=(O1 i).map λm=>V.bl<|K75F.formB Pi<|dY t.length m)(c:H D=gV (.lst ys))(d:Same h H)
structure Stay (T1 T2:C')(H:Hp)(nl p q:C')(xs:ab V)(t:Str)(Pi:ab K75F.Nd):Prop where
 f:K75F.FormIn H nl Pi t.length
 t1:K75F.TabL H T1
 t2:K75F.TabW H T2
 s:SentAt H p q (K75F.turnsF t Pi.length) xs (K75F.clsF t.length Pi)
theorem Stay.mono(h:Stay T a H n p q x t Pi)(k:Same H b):Stay T a b n p q x t Pi:=⟨h.f.mono k,h.t1.mono k,h.t2.mono k,h.s.mono k⟩
theorem Stay.off(h:Stay b c H n p q x t Pi)(k:Off T H a)(g:TabAt H T P Q)(d:K75F.TabL a b)(i:K75F.TabW a c):Stay b c a n p q x t Pi:=
 ⟨h.f.off k g,d,i,⟨k.at_ g h.s.hp (by simp),k.at_ g h.s.hq (by lia),Paired.mapP h.s.hcs λy y ⟨j,e,w⟩=>⟨j,e,k.at_ g w λy z=>nomatch z⟩,h.s.ht,h.s.hn,h.s.hok,h.s.hc⟩⟩
theorem EntAt.mono(h:EntAt H G e x)(k:Same H a):EntAt a G e x:=by
 obtain⟨p,l,r,b,c,d,f,g⟩:=h;exact⟨p,l,r,b,k _ _ c,k _ _ d,f.mono<|Same.kept k,g⟩
theorem EntsAt.mono(h:EntsAt H G E X)(k:Same H b):EntsAt b G E X:=⟨h.len,λi x e=>by
 obtain⟨r,z,a⟩:=h.at_ i x e;exact⟨r,z,a.mono k⟩⟩
noncomputable abbrev Kn(t:Str)(c:ab (ab Int)):ab gr:=gZ t (eT t c) (uk t c)<|vE t c
theorem yg(F:Few t c):Wn (fM<|Kn t c) t (eT t c) c:=
 Gj F.ok (oA F.ok F.t8).run (oy (oA F.ok F.t8).last)
theorem HV(F:Few t c):PlanOk (Kn t c) t (eT t c):=
 DQ (by have:=F.t8;lia) F.ok (oA F.ok F.t8).run
theorem HW{Q:VK}(S:SentAt H p q t x c)(F:Few t c)(b:H r=gV (.tup [.str<|ax<|eT t c,.ref l]))(d:H l=gV (.lst s))(e:cO H (uk t c) s)
  (h:∀L y a,Same H a->a L=gV (.lst y)->EntsAt a (λz=>True) (Kn t c) y->Q (.ref L) a):mB [.ref p,.ref r] H Q E0:=by
 have E:=oA F.ok F.t8;have T:=F.t8;have m:=F.many;have f:=E.few;exact⟨p,q,r,l,t,eT t c,x,s,c,uk t c,vE t c,rfl,S.hp,O6 T (by decide),S.hq,S.hcs,O6 m (by decide),F.ok,b,d,e,O6 f (by decide),E.good,E.run,qh E.last,λL y a k z g P=>h L y a k g<|wb P⟩
theorem D_{C:C'}{Q:VK}(F:Few t c)(N:H x=N4)(n:H d=N4)(f:H L=gV (.lst y))(g:EntsAt H (λz=>True) (Kn t c) y)
  (h:∀a,Same H a->PlayerAt a C x (Kn t c)->Q .non a):rD C [.ref x,.ref L] (upd (upd H d<|.own x) x<|.ins C d []) Q E0:=by
 have k:Same H (upd (upd H d<|.own x) x<|.ins C d []):=λb o e=>by
  rwa[af<|ah e N,af<|ah e n]
 have E:=oA F.ok F.t8;have T:=F.t8;have w:=E.few;have l:=z_ t (eT t c) (uk t c)<|vE t c;exact⟨x,d,L,Kn t c,y,λz=>True,rfl,aa,k _ _ f,g.mono k,(by rw[oU];exact jt _ _),O6 l (O6 T (by decide)),λe i=>DR T (O6 w (by decide)) F.ok E.run i,λa v j=>h a (λb o e=>j b o (ah e N)<|k _ _ e) v⟩
theorem Ea(H:JZ t C (s::r))(a:∀c∈C,lastS t c=NZ)(b:∃c∈C,unitB t c=NU):∃i d,s=.unit i/\Stp t C (.unit i) d:=by
 obtain⟨d,st,h⟩:=H s r rfl;obtain n|⟨i,rfl⟩|⟨i,rfl⟩:=h
 ·obtain⟨c,e,u⟩:=b;rw[n c e]at u;cases u
 ·exact⟨i,d,rfl,st⟩
 obtain z|⟨z,f,l⟩:=st
 rw[a _<|lq f]at l;cases l
section
variable {CL:C'}
theorem Kh{f5 g1:C'}{d5 e1:Oc}(F:Fun K "law" "law" DZ f fd)(T:Bl m)(ne:T1≠T2)(c3:Fe P w K m B 3 "_law_form" (K75F.spForm K))(ce:Fn P w K m B 1 "_law_value" f2 d2 ["_law_nodes_here","_law_filling"] K75F.spValue)(cf:Fe P w K m B 1 "_law_filled" oV)
  (c4:Fe P w K m B 1 "_law_won" DT) (ch:Fn P w K m B 6 "clauses_of" f5 d5 ["turns","nodes"] K75F.spClF) (c5:Fe P w K m B 19 "form_winner" (K75F.spFormW T2)) (c6:Fe P w K m B 13 "winner_of" Kf) (c8:Fe P w K m B 10 "settled_paper" lm)
  (da:Fe P w K m B 16 "form_losing_play" (K75F.spFormL CP CL T1)) (db:Jj P w K m B 1 "Planned" CP g1 e1 ["self","plan"] (rD CP)) (dc:Fe P w K m B 8 "plan_of" mB) (dd:Fe P w K m B 7 "all_smaller" Dk)
  (ZI:Fe P w K m B 6 "smaller_by" iE) (de:Fe P w K m B 7 "player_back" (rF CP CL)):ao P w K m B aP 20 f fd ["_law_script"] (yf K T1 T2):=by
 refine F.okB (N:=["_law_script","_law_turns","_law_nodes_here","_law_level","_law_hand","_law_sentence","_law_paper","_law_told","_law_less","_law_inner"]) λQt A ck s H vs Q E sc hr h=>?_;obtain⟨a,ns,rfl,hS,hl,aL,a0,q⟩:=h;refine⟨_,(ae (Ak gg<|AX rfl<|dw (jy (i:=1) sc.nd rfl<|Wa rfl)<|dw (jy (i:=2) sc.nd rfl<|Wa rfl) ma)
  (ae (GY 3 ["_law_number","_law_nodes_here","_law_turns"] [N4,gV 2,gV 1] gg (e:=λV V V V=>(fW ce hr (by simp) rfl<|g_ (pv 1)<|rY cf hr<|g_ (pv 0)<|aR (yF (K:=K) rfl) rfl T.len RB<|gY<|pv 2)))
  (ae gg
  (ae (sT 5<|fW ch hr (by simp) rfl gg)
  gg)))),?_⟩
 refine⟨_,rfl,a,ns,4,5,rfl,hS,hl,by simp,by simp,by simp,by simp,λl U t Pi H1 k1 Xb cl dk Y k d dn=>?_⟩;exists l,_,rfl,SqL.of Xb,rfl,_,_,rfl,_,_,rfl,rfl;have h4:t.length<=4:=by lia
 have h5:Pi.length<=5:=by lia
 have fm:K75F.FormIn H1 U Pi t.length:=⟨cl,k,d,O6 h5 (by decide)⟩;have a1:=aL.mono k1;have a2:=a0.mono k1;clear aL a0 k1 Xb;have p8:2^t.length<=16:=RW (n:=2) (i:=t.length) (j:=4) (by decide) h4;have co:=wI t.length;refine⟨_,rfl,.str t,_,rfl,⟨OQ (ai<|O6 h4 (by decide)),rfl⟩,_,_,rfl,rfl,⟨by simp,Y8 dk (by decide),by simp⟩,((2^t.length:Nat):Int),by simp,(Y8 (by simp)<|TV _),(by lia),λD hD=>?_⟩;refine fb (lo:=0) (n:=((2^t.length:Nat):Int).toNat) (NK H1 D U t Pi) ⟨N4,rfl,rfl,aa,ad hD _⟩ ?_ ?_ ?_
 ·rintro i σ Z H3 V ⟨V,V,V,h,V⟩;exact h
 ·rintro i σ Z H3 hi ⟨v0,rfl,We,h3,k3⟩;rw[OP]at hi;refine cq ⟨_,rfl,_,rfl,_,rfl,.str t,_,rfl,⟨OQ (ai<|O6 h4 (by decide)),rfl⟩,i,t.length,(by rw[WX];rfl),O6 h4 (by decide),λlo H4 k4 V s4=>?_⟩;refine⟨U,lo,Pi,_,rfl,(fm.mono<|k3.trans k4).rd,s4,by rw[uA];exact k,d,O6 h5 (by decide),λH5 k5=>?_⟩;have a3:=k4.trans k5;refine⟨a3 _ _ h3,?_,_,rfl,?_,aa,(k3.trans a3).upd_new hD _⟩
  ·rw[We,J',Pm];exact ai (by lia)
  rw[We,Q3,Oy];rfl
 rintro σ Z H3 ⟨v0,rfl,We,h3,k3⟩;rw[OP]at We;have a4:Z=Eg t (K75F.formB Pi) t.length:=by
  rw[We];unfold Eg;rw[PY];rfl
 rw[a4]at h3;refine⟨_,rfl,_,rfl,t,D,K75F.formB Pi,rfl,Y,O6 h4 (by decide),h3,λH4 k4=>?_⟩;have ac:=fm.mono<|k3.trans k4;have a5:=a1.mono<|k3.trans k4;have a6:=a2.mono<|k3.trans k4;clear a4 h3 We k3 k4 fm a1 a2 hD;refine⟨_,rfl,_,rfl,t,U,Pi,rfl,ac.rd,Y,k,d,O6 h5 (by decide),O6 h4 (by decide),λp qa xs H5 k5 V hp hq Ut=>?_⟩;have g:=K75F.clsF_few Y k d h4 h5;have st:Stay T1 T2 H5 U p qa xs t Pi:=⟨ac.mono k5,a5.mono k5,a6.mono k5,g.at hp hq Ut⟩;have tl:=K75F.turnsF_len t Pi.length;have am:=K75F.form_lev k d<|yg g;have ew:dE (K75F.turnsF t Pi.length) (K75F.turnsF t Pi.length).length 0 (K75F.clsF t.length Pi)=eT (K75F.turnsF t Pi.length) (K75F.clsF t.length Pi):=DN _ 0 _ [] (QK _).symm rfl (DL g.ok) (λj hj=>by simp_all) λfl hl V hF=>yg g fl hl hF;clear ac a5 a6 k5 hp hq Ut;rw[am];refine⟨_,rfl,_,rfl,U,t,Pi,rfl,st.f,O6 h4 (by decide),st.t2,λH6 k6 a7=>?_⟩;rw[am];have o:=st.off k6 st.t2 (K75F.TabAt.off st.t1 k6 ne st.t2) a7;refine⟨_,rfl,.inl ⟨rfl,_,rfl,Ee rfl ?_⟩⟩;refine⟨_,rfl,p,_,qa,xs,_,rfl,o.s.hp,o.s.hq,o.s.hcs,⟨by have:=g.many;lia,λc hc=>by have:=g.c4 c hc;lia⟩,DL g.ok,g.t8,λH7 k7=>?_⟩;rw[ew];refine⟨_,rfl,.inl ⟨rfl,_,rfl,Ee rfl ?_⟩⟩;have u:=o.mono k7;clear st o k6 a7 k7;refine⟨_,rfl,p,qa,_,xs,_,rfl,u.s.hp,u.s.hq,u.s.hcs,g.ok,g.t8,by have:=g.many;lia,λr lp ls H8 k8 V V an a8 a9=>?_⟩;have as:=u.mono k8;refine⟨_,rfl,(a_ an rfl ⟨_,rfl,.inl ⟨rfl,_,rfl,Ee rfl ?_⟩⟩)⟩;clear u k8;have ba:∀{H:Hp} {x:C'} {es:Ans} {hw:N6},PAp CP CL H x es (K75F.turnsF t Pi.length) hw->PAe CP CL H x es t hw:=λh=>⟨_,by simp_all,g.t8,λi hi=>by unfold ownB;rw[K75F.isW_lt hi],h⟩;refine⟨_,rfl,_,rfl,_,rfl,_,rfl,_,rfl,HW as.s g an a8 a9 λL Z H9 k9 hL hE=>?_⟩;have bb:=as.mono k9;refine λx dx nx av U_=>D_ g nx av hL hE λdp bc Vd=>⟨rfl,?_⟩;have n:=bb.mono bc;clear as bb an a8 a9 hL hE k9 bc;refine⟨U,x,t,Pi,_,_,rfl,n.f,O6 h4 (by decide),ba<|.inr ⟨_,Vd,HV g,rfl⟩,n.t1,λbs hb hF=>K75F.form_wins k d (yg g) bs hb hF,λdr az bf=>?_⟩;have aC:=n.off az n.t1 bf<|K75F.TabAt.off n.t2 az ne.symm n.t1;refine⟨rfl,_,rfl,Ee rfl ?_⟩;clear n az bf Vd;refine⟨_,rfl,p,qa,_,xs,_,rfl,aC.s,g,λl Z ss bg XD W bk hf=>?_⟩;have bl:=aC.mono XD;refine⟨_,rfl,Ou _,λe he=>?_⟩;have v:=ad he<|.lst [];have J:=bl.mono v;have C:=v _ _ W;have aF:=bk.mono v;have re:RD (upd bg e<|.lst []) (.list []) (.ref e):=cW aa au;generalize upd bg e (.lst [])=dt at v J C aF re ⊢;clear W bk XD aC bl v;refine .inr ⟨.list<|ss.map Nx.d,.list [],cW C<|Gu aF,re,Nice.shaped (Nice.mono (Af ss)<|by simp),sS,?_⟩;cases aF with
 |nil=>exact⟨_,rfl,aq<|q _⟩
 |@cons s y ss Z h1 cp=>
 obtain⟨b,rfl,hb⟩:=h1;refine⟨_,rfl,ak ?_⟩;obtain⟨i,ds,rfl,ha⟩:=Ea hf (λc hc=>K75F.clsF_last k d hc)<|K75F.clsF_unit d;have X:=g.after ha;refine⟨_,rfl,_,rfl,(dM C (aH (j:=0) rfl) ⟨p,qa,b,_,xs,_,ds,_,rfl,J.s,hb,ha,λr5 l5 us dv M V cs ct cu=>?_⟩)⟩;have bm:=J.mono M;have G:=X.at cs ct cu;have br:=M _ _ C;have bt:=M _ _ hb;clear J C hb M re cp;refine⟨_,rfl,_,rfl,r5,l5,_,us,ds,rfl,G.hp,G.hq,G.hcs,X.ok,X.t8,by have:=X.many;lia,λr6 l6 ls dK I V V b0 b1 b2=>?_⟩;refine HW (G.mono I) X b0 b1 b2 λL Z dT N hL hE=>?_;have b3:=bm.mono<|I.trans N;have b4:=(I.trans N) _ _ br;have b5:=(I.trans N) _ _ bt;refine λx dx nx av U_=>D_ X nx av hL hE λdV O Vd=>⟨rfl,?_⟩;have b6:=b3.mono O;have cv:=O _ _ b4;have c0:=O _ _ b5;have wn:=zX g.ok ha<|yg X;have b7:=HV X;have eh:eT (K75F.turnsF t Pi.length) ds=eT (K75F.turnsF t Pi.length) (K75F.clsF t.length Pi):=(K75F.form_lev k d wn).symm.trans am;rw[eh]at wn b7;clear bm G br bt I b0 b1 b2 N hL hE b3 b4 b5 O;refine⟨_,rfl,_,rfl,_,rfl,_,rfl,_,rfl,(dM cv (aH (j:=0) rfl) ⟨_,rfl,_,rfl,p,qa,x,_,_,xs,_,ds,b,i,_,rfl,b6.s,c0,ha,Vd,λz d0 c1 hL=>?_⟩)⟩;have cd:=b6.mono c1;exact⟨U,z,t,Pi,_,_,rfl,cd.f,O6 h4 (by decide),ba<|.inl ⟨_,_,hL,b7,rfl⟩,cd.t1,λbs hb hF=>K75F.form_wins k d wn bs hb hF,λc2 V V=>⟨rfl,q c2⟩⟩
end
abbrev fqq(K n s f e):=Fun K n n s f e
theorem all_mk {P:Of}{w:OE}{K:B'}{h:O5}{mg:Str->NW M'}{fa amM:C'}{e1 e3 e4 e5 e6 e7 e8 e9 e10 e11 e12 e13 e15 e17 e18 e20 e21 e22 e23 e24 e25 e26 e27 e28 e29 e31 e32 e33 e34 e35 e36 e37 e38 e39 e40 e41 e42 e43 e44 e45 e46 e47 e48 e49 e50 e51 e52 e53 e54 e55 e56 e57 e58 e59 e60 e61 e62 e63 e64 e65 e66 e67 e68 e69 e70 e71 e72 e73 e74 e75 e76 e77 e78 e79 e80 e81 e82 e83 e84 e85 e86 e87 e88 e89 e90 e91 e92 e93 e94 e95 e96 e97 e98 e99 e100 e101 e102 e103 e104 amS:Oc}(X:K.In h)(G:h.Ns OS mg)(hfa:mg "law"=gV (.ref fa)){CS CP CL:C'}{tM:Tok}(D1:DA mg K "is_number" Jw f1 e1)(D3:DA mg K "is_set" LG f3 e3)(D4:DA mg K "stands_by" xw f4 e4)(D5:DA mg K "some_stands" HE f5 e5)(D6:DA mg K "hand_of" xb f6 e6)(D7:DA mg K "other_hand" vj f7 e7)(D8:DA mg K "literal_by" Ch f8 e8)(D9:DA mg K "variables_of" GZ f9 e9)(D10:DA mg K "stands_both_ways" Ha f10 e10)(D11:DA mg K "joined" xg f11 e11)(D12:DA mg K "dropped" tY f12 e12)(D13:DA mg K "is_place" BD f13 e13)(D15:DA mg K "begins_with" sForm f15 e15)(D17:DA mg K "given_set" BE f17 e17)(D18:DA mg K "hits" qS f18 e18)(D20:DA mg K "hits_each" BL f20 e20)(D21:DA mg K "hits_set" BN f21 e21)(D22:DA mg K "join_set" BG f22 e22)(D23:DA mg K "drop_set" BF f23 e23)(D24:DA mg K "line_set" Hb f24 e24)(D25:DA mg K "sets_of" xi f25 e25)(D26:DA mg K "end_empty" LN f26 e26)(D27:DA mg K "whole_sets" LO f27 e27)(D28:DA mg K "named_by" Hd f28 e28)(D29:DA mg K "renamed" zi f29 e29)(D31:DA mg K "needed_by" JC f31 e31)(D32:DA mg K "first_places" JH f32 e32)(D33:DA mg K "shortened_paper" LS f33 e33)(D34:DA mg K "rest_behind" Cj f34 e34)(D35:DA mg K "hitting_set" Hj f35 e35)(D36:DM K CS "__init__" "Searcher.__init__" CC f36 e36)(D37:DM K CS "put" "Searcher.put" Hh f37 e37)(D38:DM K CS "learn" "Searcher.learn" xu f38 e38)(D39:DM K CS "learn_join" "Searcher.learn_join" Ce f39 e39)(D40:DM K CS "fill_in" "Searcher.fill_in" Ck f40 e40)(D41:DM K CS "turn_back" "Searcher.turn_back" Cp f41 e41)(D42:DM K CS "look" "Searcher.look" Cv f42 e42)(D43:DM K CS "go" "Searcher.go" LW f43 e43)(D44:DM K CS "paper" "Searcher.paper" xy f44 e44)(D45:DA mg K "settled_paper" uj f45 e45)(D46:DA mg K "turned_about" Hm f46 e46)(D47:DA mg K "rule_of" Hn f47 e47)(D48:DA mg K "plan_of" CH f48 e48)(D49:DA mg K "all_stand" HB f49 e49)(D50:DM K CP "__init__" "Planned.__init__" HC f50 e50)(D51:DM K CP "answer" "Planned.answer" xO f51 e51)(D52:DA mg K "clauses_behind" xI f52 e52)(D53:DA mg K "is_of" Hr f53 e53)(D54:DA mg K "is_unit" xE f54 e54)(D55:DA mg K "holds_all" CJ f55 e55)(D56:DA mg K "has_other_way" xF f56 e56)(D57:DA mg K "is_blocked" Hs f57 e57)(D58:DA mg K "behind_drop" CQ f58 e58)(D59:DA mg K "behind_unit" CT f59 e59)(D60:DA mg K "behind_within" CV f60 e60)(D61:DA mg K "behind_pure" CU f61 e61)(D62:DA mg K "behind_blocked" L8 f62 e62)(D63:DA mg K "clauses_after" CY f63 e63)(D64:DA mg K "smaller_by" C0 f64 e64)(D65:DA mg K "next_short" xJ f65 e65)(D66:DA mg K "holders_of" C6 f66 e66)(D67:DA mg K "next_pure" vM f67 e67)(D68:DA mg K "fewest_holders" JX f68 e68)(D69:DA mg K "next_within" Dc f69 e69)(D70:DA mg K "next_blocked" Dg f70 e70)(D71:DA mg K "next_step" Dj f71 e71)(D72:DA mg K "all_smaller" Mc f72 e72)(D73:DA mg K "own_values" HA f73 e73)(D74:DA mg K "led_value" HG f74 e74)(D75:DM K CL "__init__" "LedBack.__init__" HF f75 e75)(D76:DM K CL "answers" "LedBack.answers" Du f76 e76)(D77:DM K CL "answer" "LedBack.answer" Dv f77 e77)(D78:DA mg K "player_back" Ds f78 e78)(D79:DA mg K "played_on" NH f79 e79)(D80:DA mg K "first_loss" xV f80 e80)(D81:DA mg K "left_of" HQ f81 e81)(D82:DA mg K "winner_left" yd f82 e82)(D83:DA mg K "winner_from" HS f83 e83)(D84:DA mg K "winner_of" HR f84 e84)(D85:DA mg K "winner_by" rQ f85 e85)(D86:DA mg K "is_node" K75F.sNodeP f86 e86)(D87:DA mg K "is_form" K75F.sIsForm f87 e87)(D88:DA mg K "check_form" K75F.sCheckF f88 e88)(D89:DA mg K "node_value" K75F.sNodeV f89 e89)(D90:DA mg K "form_value" K75F.sFormV f90 e90)(D91:DA mg K "both" K75F.sBothP f91 e91)(D92:DA mg K "node_clauses" K75F.sNodeC f92 e92)(D93:DA mg K "clauses_of" K75F.sClOf f93 e93){aeI:C'} {ajq:Obj} (a94:Pj K OS "form_losing_play"=gV (gV (.ref f94)))(FL94:FunL K "form_losing_play" "form_losing_play" K75F.sFormL f94 e94 aeI)(k94:Px K (.ref f94)=NU)(lc94:K.lookup aeI=gV ajq)(pc94:Bt ajq 349)(nc94:aeI≠349){aeH:C'} {ajp:Obj} (a95:Pj K OS "form_winner"=gV (gV (.ref f95)))(FL95:FunL K "form_winner" "form_winner" K75F.sFormW f95 e95 aeH)(k95:Px K (.ref f95)=NU)(lc95:K.lookup aeH=gV ajp)(pc95:Bt ajp 342)(nc95:aeH≠342)(D96:DA mg K "_law_cell_at" K75F.sCell f96 e96)(D97:DA mg K "_law_mixed" K75F.sMixed f97 e97)(D98:DA mg K "_law_first" K75F.sFirst f98 e98)(D99:DA mg K "_law_free_node" K75F.sFreeN f99 e99)(ajQ:DA mg K "_law_nodes" K75F.sNodes f100 e100)(ajP:DA mg K "_law_form" K75F.sForm f101 e101)(ajO:DA mg K "_law_value" K75F.sValue f102 e102)(ajN:DA mg K "_law_filled" x_ f103 e103)(ajM:DA mg K "_law_won" Mo f104 e104)(ahk:DA mg K "law" DZ amM amS)(z0:Pj K OS "len"=gV N4)(z1:Pj K OS "range"=gV N4)(z2:Pj K OS "tuple"=gV N4)(z3:Pj K OS "sorted"=gV N4)(z4:Pj K OS "isinstance"=gV N4)(z5:Pj K OS "int"=gV N4)(z6:Pj K OS "bool"=gV N4)(z7:Pj K OS "list"=gV N4)(z8:Pj K OS "abs"=gV N4)(z9:Pj K OS "all"=gV N4)(z10:Pj K OS "zip"=gV N4)(z11:Pj K OS "set"=gV N4)(z12:Pj K OS "any"=gV N4)(z13:Pj K OS "max"=gV N4)(z14:Pj K OS "enumerate"=gV N4)(z15:Pj K OS "dict"=gV N4)(z16:Pj K OS "min"=gV N4){tW tS:Tok} (zW:Pj K OS "WISHER"=gV (gV (.str (NV "wisher") tW)))(zS:Pj K OS "SPOILER"=gV (gV (.str (NV "spoiler") tS)))(CSy:Pj K OS "Searcher"=gV (gV (.ref CS)))(zM:Pj K OS "MOST_LOOKS"=gV (gV (.int 10000 tM)))(c1:Ry K CS Zl=NU)(c2:RU K CS=NU)(c3:SB K CS=NU)(c4:O4 K (.ref CS) "__setattr__"=gV (gV (.builtin "object.__setattr__")))(n1:O4 K (.ref CS) "sentence"=gV N4)(n2:O4 K (.ref CS) "lines"=gV N4)(n3:O4 K (.ref CS) "places"=gV N4)(n4:O4 K (.ref CS) "begun"=gV N4)(n5:O4 K (.ref CS) "firsts"=gV N4)(n6:O4 K (.ref CS) "rests"=gV N4)(n7:O4 K (.ref CS) "winner"=gV N4)(ana:Tu K CS=NU)(anb:Px K (.ref CS)=NU)(zU:Pj K OS "sum"=gV N4)(CPy:Pj K OS "Planned"=gV (gV (.ref CP)))(p1:Ry K CP Zl=NU)(p2:RU K CP=NU)(p3:SB K CP=NU)(p4:O4 K (.ref CP) "__setattr__"=gV (gV (.builtin "object.__setattr__")))(p5:O4 K (.ref CP) "entries"=gV N4)(anc:Tu K CP=NU)(ane:Px K (.ref CP)=NU)(zZ:Pj K OS "zip"=gV N4)(CLy:Pj K OS "LedBack"=gV (gV (.ref CL)))(p6:O4 K (.ref CP) "__class__"=gV (gV (.builtin "object.__class__")))(p7:VQ K (.builtin "object.__class__") "__get__"=gV (gV (.builtin "getset_descriptor.__get__")))(p8:WZ K (.builtin "object.__class__")=gV NU)(p9:X2 K CP (.type "object")=gV NU)(pk:QV K (.ref CP) (.ref CL)=gV NZ)(e1:Ry K CL Zl=NU)(e2:RU K CL=NU)(e3:SB K CL=NU)(e4:O4 K (.ref CL) "__setattr__"=gV (gV (.builtin "object.__setattr__")))(e5:O4 K (.ref CL) "variables"=gV N4)(e6:O4 K (.ref CL) "innermost"=gV N4)(e7:O4 K (.ref CL) "layers"=gV N4)(ang:Tu K CL=NU)(anh:Px K (.ref CL)=NU):∃ fd:Oc,(∀ (s:N8) (v:M'),YY s fd ⟨[v],[]⟩ [("_law_script",v)])/\(∀ T∈([349,342]:ab C'),∃ c,Sb h c T)/\∀ base:O5,K.In base->base.Ns OS mg->BM mg base->ao P w K mg base aP 20 fa fd ["_law_script"] (yf K 349 342):=by
 have e:=hfa.symm.trans ahk.a;cases e;have TB:Bl mg:=⟨Pa X G z0,Pa X G z1,Pa X G z2,Pa X G z3,Pa X G z4,Pa X G z5,Pa X G z6,Pa X G z7,Pa X G z8,Pa X G z9,Pa X G z10,Pa X G z11,Pa X G z12,Pa X G z13,Pa X G z14,Pa X G z15,Pa X G z16,⟨_,Rg X G zW,⟨_,rfl⟩⟩,⟨_,Rg X G zS,⟨_,rfl⟩⟩⟩;have TNn:zI mg:=⟨TB.abs,TB.len,TB.enumerate,TB.min,TB.list,TB.range,TB.g_WISHER,TB.g_SPOILER⟩;have Ts:mg "sum"=none:=Pa X G zU;have ne:(349:C')≠342:=by show (349:Nat)≠342;decide
 have abU:Cls K CS:=⟨c1,c2,c3,c4⟩;have TSr:o8 K mg CS:=⟨TB.len,TB.list,abU,n1,n2,n3,n4,n5,n6,n7,TB.g_WISHER,TB.g_SPOILER⟩;have TSe:LY mg:=⟨⟨_,Rg X G zM,⟨_,rfl⟩⟩⟩;have ahl:Cls K CP:=⟨p1,p2,p3,p4⟩;have TPy:J2 K mg CP:=⟨TB.tuple,TB.dict,ahl,p5⟩;have afH:Cls K CL:=⟨e1,e2,e3,e4⟩;have TLd:Mf K mg CP CL:=⟨TB.dict,TB.isinstance,TB.tuple,ahl,afH,e5,e6,e7,⟨_,Rg X G CLy,rfl⟩,p6,p7,p8,p9,pk⟩;have TLA:J5 K mg CL:=⟨Pa X G zZ,TB.range,afH,e5,e6,e7⟩;obtain⟨_,_,kV,dc,pm,an,cd,ct,_,rfl,_,_⟩:=ahk.F.ex;refine⟨Rh "law" "law" (eQ DZ) (cc DZ) (aw DZ) .none kV dc pm an cd ct,λs v=>.of_eq rfl,PP.mpr ⟨⟨aeI,iL X lc94 pc94 nc94⟩,PP.mpr ⟨⟨aeH,iL X lc95 pc95 nc95⟩,QZ _⟩⟩,λbase hKb _ hBM=>?_⟩;have L94:kL mg base aeI 349:=⟨iL hKb lc94 pc94 nc94,hBM⟩;have F94:=FL94.toFun k94;have L95:kL mg base aeH 342:=⟨iL hKb lc95 pc95 nc95,hBM⟩;have F95:=FL95.toFun k95;have ge:=@L2.DA.fe P w base;have gf:=@L2.DA.fn P w base;have gm:=@L2.DM.mt P w base;have G1:=ge D1 (Jx D1.F TB);have G2:=gf D1 (FV D1.F TB);have G3:=ge D3 (Jy D3.F TB G1);have G4:=ge D4 (zt D4.F TB);have G5:=ge D5 (Ga D5.F TB G4);have G6:=ge D6 (zd D6.F TB);have G7:=ge D7 (BC D7.F TB);have G8:=ge D8 (Cl D8.F);have G9:=ge D9 (Fo D9.F TB G6);have G10:=ge D10 (Fu D10.F TB);have G11:=ge D11 (ze D11.F TB);have G12:=ge D12 (vm D12.F TB G7 G9);have G13:=ge D13 (BH D13.F G1);have G14:=gf D13 (zy D13.F ⟨_,_,_,G2⟩);have G15:=ge D15 (ok_form D15.F TB);have G16:=gf D15 (JU D15.F TB);have G17:=ge D17 (BI D17.F TB G13);have G18:=ge D18 (BQ D18.F);have G19:=ge D18 (Cu D18.F);have G20:=ge D20 (BR D20.F TB G18);have G21:=ge D21 (BS D21.F TB G3 G20);have G22:=ge D22 (BK D22.F TB G1 G13 G7 G9 G10 G11);have G23:=ge D23 (BJ D23.F TB G13 G12);have G24:=ge D24 (FB D24.F TB G15 G17 G21 G22 G23);have G25:=ge D25 (zf D25.F TB G24);have G26:=ge D26 (Jz D26.F);have G27:=ge D27 (JA D27.F G25 G26);have G28:=ge D28 (FD D28.F);have G29:=ge D29 (FF D29.F);have G30:=ge D29 (FG D29.F);have G31:=ge D31 (JF D31.F TB G28);have G32:=ge D32 (JI D32.F TB);have G33:=ge D33 (JK D33.F TB G27 G32 G29 G31 G30);have G34:=ge D34 (Cn D34.F);have G35:=ge D35 (FN D35.F TB G19 G4 G6);have G36:Jj P w K mg base _ "Searcher" CS _ _ _ _:=⟨CG D36.F TSr G12,D36.F.bs,⟨ana,D36.a,D36.i,anb⟩,Rg X G CSy⟩;have G37:=gm D37 abU (FM D37.F TSr);have G38:=gm D38 abU (zp D38.F TSr G12 G37);have G39:=gm D39 abU (Cg D39.F TSr G11 G38);have G40:=gm D40 abU (Co D40.F TSr G8 G34);have G41:=gm D41 abU (Cr D41.F TSr G40 G39);have G42:=gm D42 abU (Cz D42.F TSr G35 G38 G41 G40);have G43:=gm D43 abU (JR D43.F TSr G42);have G44:=gm D44 abU (zw D44.F TSr G33);have G45:=ge D45 (vF D45.F TSe G36 G43 G44);have G46:=ge D46 (FQ D46.F TB);have G47:=ge D47 (FR D47.F TB G46);have G48:=ge D48 (CI D48.F TB G27 G9 G47);have G49:=ge D49 (Do D49.F G4);have G50:Jj P w K mg base _ "Planned" CP _ _ _ _:=⟨F_ D50.F TPy,D50.F.bs,⟨anc,D50.a,D50.i,ane⟩,Rg X G CPy⟩;have G51:=gm D51 ahl (zP D51.F TPy G49);have G52:=ge D52 (zF D52.F TB);have G53:=ge D53 (FW D53.F TB G6);have G54:=ge D54 (zA D54.F TB G53);have G55:=ge D55 (CO D55.F);have G56:=ge D56 (zB D56.F TB);have G57:=ge D57 (FX D57.F G56);have G58:=ge D58 (C1 D58.F TB ⟨_,_,_,G14⟩ G12);have G59:=ge D59 (C2 D59.F TB ⟨_,_,_,G14⟩ G54 G52);have G60:=ge D60 (C3 D60.F TB ⟨_,_,_,G14⟩ G55);have G61:=ge D61 (C4 D61.F TB ⟨_,_,_,G2⟩ G53 G52);have G62:=ge D62 (JV D62.F TB ⟨_,_,_,G14⟩ ⟨_,_,_,G2⟩ G53 G57);have G63:=ge D63 (C5 D63.F ⟨_,_,_,G16⟩ G58 G59 G61 G60 G62);have G64:=ge D64 (zE D64.F G63);have G65:=ge D65 (zJ D65.F TNn G54 G53);have G66:=ge D66 (F2 D66.F TNn);have G67:=ge D67 (Da D67.F);have G68:=ge D68 (JY D68.F TNn);have G69:=ge D69 (Df D69.F TNn G68 G55);have G70:=ge D70 (F7 D70.F TNn G53 G57);have G71:=ge D71 (Dm D71.F G65 G66 G67 G69 G70);have G72:=ge D72 (J1 D72.F G71 G64);have G73:=ge D73 (F9 D73.F TB G12 G53);have G74:=ge D74 (Ge D74.F G5);have G75:Jj P w K mg base _ "LedBack" CL _ _ _ _:=⟨Gd D75.F TLd G9 G73,D75.F.bs,⟨ang,D75.a,D75.i,anh⟩,Rg X G CLy⟩;have G76:=gm D76 afH (Dw D76.F TLA G51 G74);have G77:=gm D77 afH (Dx D77.F TLA G51 G76);have G78:=ge D78 (Dt D78.F G64 G75);have G79:=ge D79 (Mi D79.F TB G6 G51 G77);have G80:=gf D80 (Gf D80.F TB G79 D80.F.bs D80.F.kp D80.a);have G81:=ge D81 (Gr D81.F TB G8 G52);have G82:=ge D82 (Kg D82.F TB G6 G7 G8 G52 D82.F.bs D82.F.kp D82.a);have G83:=ge D83 (Gs D83.F TB G81 G82);have G84:=ge D84 (Mp D84.F G83);have G85:=gf D85 (DS D85.F TB G6 G7 D85.F.bs D85.F.kp D85.a);have G86:=ge D86 (K75F.ok_nodep D86.F G16 G2 G14);have G87:=ge D87 (K75F.ok_isform D87.F TB G86);have G88:=ge D88 (K75F.ok_checkf D88.F G87);have G89:=ge D89 (K75F.ok_nodev D89.F);have G90:=gf D90 (K75F.ok_formv D90.F G89);have G91:=ge D91 (K75F.ok_bothp D91.F TB);have G92:=ge D92 (K75F.ok_nodec D92.F G91);have G93:=gf D93 (K75F.ok_clof D93.F TB G88 G92);have G94:Fe P w K mg base _ "form_losing_play" _:=⟨_,_,_,K75F.ok_forml FL94 L94 TB TB G88 G90 G80,F94.bs,k94,Rg X G a94⟩;have G95:Fe P w K mg base _ "form_winner" _:=⟨_,_,_,K75F.ok_formw FL95 L95 TB G88 G90 G85,F95.bs,k95,Rg X G a95⟩;have G96:=ge D96 (K75F.ok_cell D96.F TB);have G97:=ge D97 (K75F.ok_mixed D97.F);have G98:=ge D98 (K75F.ok_first D98.F TB G96 G97);have G99:=ge D99 (K75F.ok_freen D99.F);have am':=ge ajQ (K75F.ok_nodes ajQ.F TB Ts G99 G97);have am_:=ge ajP (K75F.ok_form ajP.F TB G96 G98 am');have am9:=gf ajO (K75F.ok_value ajO.F);have am8:=ge ajN (Ac ajN.F TB);have am7:=ge ajM (Kb ajM.F TB);exact Kh ahk.F TB ne am_ am9 am8 am7 G93 G95 G84 G45 G94 G50 G48 G72 G64 G78
theorem walk {l:Wx}{q:Of}{loose:ab Str}{XP:(Str->NW M')->O5->Prop}{Y:OE->O5->Prop}{d:DefRec}{K:Zo->B'}(n:l.most=gV 63)(H:d.params.defaults=[])
  (k:∀ (w:OE) (h:O5),Y w h->(K w.params).In h/\∀ T∈([349,342]:ab C'),h.get? T=gV (SI #[])) (e:∀ P:Zo,(([349,342]:ab C').all λT=>((K P).lookup T).isNone)=NU)
  (F:∀ (w:OE) (m:Str->NW M') (g:C') (h:O5),(K w.params).In h->h.Ns OS m->m d.name=gV (.ref g)->
   ∃ i:Oc,(∀ (s:N8) (u:M'),YY s i ⟨[u],[]⟩ [("_law_script",u)])/\(∀ T∈([349,342]:ab C'),∃ c,Sb h c T)/\∀ b:O5,(K w.params).In b->b.Ns OS m->BM m b->ao l.prog w (K w.params) m b aP 20 g i ["_law_script"] (yf (K w.params) 349 342)):
  Zk q loose XP Y l.row.toRowW d [] (λf v=>X' f v):=
 L2.walk_ofT (n:=63) (k:=20) (x:="_law_script") (C:=λw=>yf (K w.params) 349 342) [349,342] n (by decide) H ⟨rfl,by decide,by decide⟩ k e F λz z a N o j p=>⟨a,N,rfl,p,o,TabAt.start (j 349 Om),TabAt.start (j 342 (Ov _ Om)),λz=>rfl⟩
end K75
open PySem PySem.W PySem.Calls PyProof.Rows
set_option maxRecDepth 100000
set_option maxHeartbeats 0
local macro_rules|`(tactic|o_head $H)=>`(tactic|refine HD.head (q:=K75.vQ) (loose:=[]) (lv:=[]) $H (N:=10774) (HD.left (by kernel_rfl) (fun s=>by kernel_rfl) (by kernel_rfl) (by kernel_rfl) (fun w=>by kernel_rfl) K75.seenA K75.seenB K75.seenE K75.seenC K75.seenG K75.seenD K75.seenY) (by rfl) (by rfl) (by rfl) (by rfl) (by assumption) (by decide+kernel) ⟨rfl,rfl,rfl,rfl,rfl,by decide+kernel⟩ ?hw ?hc)
theorem PySem.Challenge.cw_oathduel_k75_whole_forms_as_sentences_holds : PySem.Challenge.rw_oathduel_k75_whole_forms_as_sentences.Holds := by
 w_on
 refine holds_law K75.said λsaid=>?_
 o_head (kmHook K75.zpre.heap_1 K75.zad (λ_=>by kernel_rfl) [349, 342])
 (case hw=>w_witness2)
 k_fill
 refine K75.walk (l:=Qk) rfl rfl (λw h Y=>⟨PySem.W.km_in_of Y,PySem.W.km_tabs_of Y⟩) (λP=>by kernel_rfl) ?F
 case F=>
  intro w mg fa h KX G hmg;apply K75.all_mk KX G hmg
  (case CSy|zM|zU|CPy|zZ|CLy=>k_is)
  (case pk=>kit_is)
  (case a94=>k_is);(case FL94=>refine' L2.funL_mk ?l ?c;case l|c=>k_is);(case lc94=>k_is);(case pc94=>exact⟨_,_,_,_,_,_,_,_,rfl,rfl,rfl,rfl,rfl,rfl,rfl,rfl⟩);(case nc94=>show (_:Nat)≠_;decide)
  (case a95=>k_is);(case FL95=>refine' L2.funL_mk ?l ?c;case l|c=>k_is);(case lc95=>k_is);(case pc95=>exact⟨_,_,_,_,_,_,_,_,rfl,rfl,rfl,rfl,rfl,rfl,rfl,rfl⟩);(case nc95=>show (_:Nat)≠_;decide)
  all_goals first|k_is|(refine' L2.DA.of KX G ?a (L2.fun_mk ?l ?c ?k);case a|l|c|k=>k_is)|(refine' L2.DM.of ?a ?i (L2.fun_mk ?l ?c ?k);case a|i|l|c|k=>k_is)
