import PyProof.Rows.All
import Wide.All
import OpenK.KSplit
import OpenK.KNot
import OpenK.KApp
import KE.KEqSeq
import KE.KDictSum
import KE.KSortTup
import KE.KDictOf
import KE.KSortKey
import KE.BitLaws
import KE.KLam
import KE.KMinKey
import KE.KNestM
import KE.KStateDown
import KE.KIsAll
import KE.RegKIsAll
import KE.KDictList
import KE.KDictLaws
import KE.KNest
import Wide.FinOn
import Lean
import PyProof.EqAt
import PyProof.EqKinds
import PyProof.TupleCall
import PySem.Challenge.RW_oathduel_k65_whole_players_back
set_option compiler.extract_closed false
set_option genSizeOf false
set_option genInjectivity false
set_option bootstrap.genMatcherCode false
set_option Elab.async false
set_option linter.all false
set_option maxRecDepth 100000
set_option maxHeartbeats 4000000
open Array renaming length_toList->OR,getElem?_toList->PR,perm_iff_toList_perm->Rv,toList_append->SG,mk->Uq,toList_setIfInBounds->U',toList_push->Vz,toList_reverse->W',getElem_toList->Xa,forIn_toList->X9,toList->YG,size_zip->Xz,size_map->q7
open Array.Perm renaming refl->Zx
open Bool renaming true->NW,false_ne_true->N6,false->N8,and_eq_true->OO,eq_iff_iff->P9,or_eq_true->QJ,and_false->QV,false_eq_true->Q6,false_or->RN,rec->Up,and_eq_true_iff->W_,not_not->YF,false_and->Z',true_and->aa0,or_false->aa1,true_or->oj
open Decidable renaming byContradiction->T1
open False renaming elim->P2
open ForInStep renaming yield->S3,done->Z_
open Int renaming toNat_natCast->O4,emod_lt_of_pos->QL,emod_nonneg->QW,lt_trans->Ro,add_comm->R6,neg_neg->Tg,le_refl->Th,fdiv_eq_ediv_of_nonneg->U_,lt_of_not_ge->VY,zero_sub->Wh,lt_or_eq_of_le->X6,lt_of_le_of_lt->X7,lt_add_one_iff->X8,lt_trichotomy->YE,mul_one->Zc,not_lt->Z9,le_of_lt->hI,not_le->mi,not_lt_of_ge->aae,le_of_not_gt->aag
open List renaming length_map->B',getD_eq_getElem?_getD->K',length_append->N0,getElem?_eq_getElem->N1,getElem?_eq_some_iff->N4,mem_of_getElem?->N5,mem_singleton->Ob,contains_iff_mem->Of,take_of_length_le->Oi,mem_filter->Oj,mem_append->Os,size_toArray->Ot,mem_cons_self->Ou,mem_cons_of_mem->Ow,getElem?_map->Ox,mem_cons->Oz,length_take->OB,any_eq_true->OC,map_append->OF,length_cons->OG,mem_map->OH,take_add_one->OJ,length_singleton->OM,getElem?_append_left->ON,getElem?_append_right->OP,map_cons->OT,map_map->OZ,length_filter_le->O0,all_eq_true->O2,append_assoc->O6,range->O7,mem_append_right->O9,getElem?_eq_none->O_,getElem?_take_of_lt->Pj,mem_iff_getElem?->Pm,filter_append->Po,pairwise_map->Pq,filter_cons_of_pos->Pu,filter_cons_of_neg->Pw,append_nil->Py,length_range->PB,nodup_cons->PJ,length_dropLast->PN,length_drop->PQ,mem_of_find?_eq_some->PV,length->P7,nodup_append->Qa,mem_append_left->Qc,pairwise_cons->Qe,find?_cons->Qf,take_append_drop->Ql,length_eq_zero_iff->Qn,mem_of_mem_take->Qr,any_cons->Qu,getElem_mem->Qv,drop_eq_getElem_cons->Qw,mem_map_of_mem->Qy,filter_eq_self->Qz,pairwise_append->QO,not_mem_nil->QP,mem_range->QU,pairwise_iff_getElem->QZ,lookup_cons->Q2,find?_eq_none->Q3,filter_cons->Q4,contains_cons->Q5,take_append_of_le_length->Ra,range_succ->Rg,filter_sublist->Rh,find?_cons_of_pos->Rk,filter_eq_nil_iff->Rl,drop_of_length_le->Rm,all_cons->Rp,mem_of_mem_drop->RG,forall_mem_cons->RH,ext_getElem?->RI,all_map->RJ,Pairwise->RM,getElem_of_mem->RS,filterMap_cons->RT,lookup->RZ,length_pos_of_mem->R3,find?_cons_of_neg->R4,any_map->R5,find?_some->R8,take_sublist->Sj,nodup_nil->Sr,Perm->SB,mergeSort_perm->SD,map_congr_left->SE,getElem?_range->SF,length_filterMap_le->SQ,of_mem_zip->SY,length_nil->SZ,foldl_cons->S1,all_append->S2,pairwise_mergeSort->Tf,take_succ_eq_append_getElem->Tx,map_nil->Tz,map_id'->TC,getElem?_dropLast->TF,findIdx_lt_length_of_exists->TJ,find?_append->TK,filter_congr->TL,all_eq_false->TM,eraseIdxIfInBounds_toArray->TR,pairwise_reverse->TZ,dropLast_eq_take->T3,mem_reverse->Uc,reverse_reverse->Ul,eq_nil_of_length_eq_zero->Um,nil_append->Uy,dropLast_concat_getLast->Uz,forall_mem_nil->UC,take_take->U6,nodup_iff_pairwise_ne->U7,mem_filterMap->U8,drop_drop->U9,rel_of_pairwise_cons->Vd,getLast?_eq_getElem?->Ve,getElem?_zip_eq_some->Vf,getElem?_eq_none_iff->Vg,reverse_perm->Vu,getElem_take->Vv,foldl_append->Vw,drop_sublist->Vx,any_eq_false->Vy,idxOf_lt_length_iff->VJ,not_of_lt_findIdx->Wf,getElem?_set_self->Wg,filter_nil->Wm,filterMap_append->Wx,take_zero->W3,getElem_toArray->W4,getElem?_set_ne->W5,getElem?_of_mem->W6,findIdx_getElem->W7,filter->W8,drop_left->W9,take_succ_cons->Xo,length_pos_iff->Xp,zip_cons_cons->X0,ne_nil_of_mem->X1,map_inj_right->X2,lookup_append->X3,getElem_idxOf->X4,getElem?_drop->X5,reverse_cons->YC,idxOf_append->YD,nodup_range->Y3,map_snd_zip->Y4,map_fst_zip->Y5,getElem_inj->Y6,cons_ne_nil->Y7,length_zip->Zr,idxOf_cons->Zs,filter_map->Zt,drop_left'->Zu,countP_map->Zv,any_append->Zw,take_left->Z6,map->Z7,filterMap->Z8,map_drop->Yf,reverse->mu,all_nil->abz,map_id->O'
open List.Nodup renaming sublist->Fw
open List.Pairwise renaming nil->RK,filter->Ss,map->TN,sublist->Qo
open List.Perm renaming eq_of_pairwise->Ya
open List.cons renaming inj->tA
open Nat renaming le_refl->N9,zero_le->Oy,ne_of_lt->OL,le_of_lt->OW,le_trans->O8,lt_of_lt_of_le->Pf,sub_self->QI,succ_le_succ->QN,lt_irrefl->QR,lt_succ_of_lt->Rb,lt_of_le_of_lt->Ru,pow_le_pow_right->RF,ne_of_gt->R1,add_sub_assoc->Si,zero_add->Sz,le_succ->Te,lt_trichotomy->Tv,le_of_eq->Tw,min_le_right->T_,lt_succ_self->Ua,le_add_right->Ub,lt_or_ge->UN,eq_or_lt_of_le->U5,add_assoc->VI,add_sub_cancel_left->VX,lt_trans->Wd,eq_zero_of_not_pos->We,le_of_ble_eq_true->Ww,ble->Xh,add_le_add_left->Xn,one_le_two_pow->XY,add_sub_cancel->XZ,lt_succ_of_le->YA,le_of_succ_le->YB,min_eq_right->Y1,le_of_not_lt->Y2,not_lt_zero->Zn,min_eq_left->Zo,le_add_left->Zq,pow_succ->L',min_self->L0,add_zero->m8,sub_le->hH,le_succ_of_le->aaa,le_antisymm->aab,sub_lt_sub_left->aac
open Ne renaming symm->P0
open Option renaming some->gV,none->NZ,bind_eq_some_iff->Pt,map_eq_some_iff->PZ,isSome_iff_exists->QF,map_some->SX,bind_some->T9,isSome_map->Vt,rec->Wc,isSome_some->XX,getD_none->Y0,isSome->rb
open Option.some renaming inj->OA
open Or renaming inr->Ux,inl->XW
open Prod renaming ext->Tu,snd->W2,fst->Z5,rec->ot
open PyProof renaming noPylong_small->V9
open PyProof.Rows renaming wpS_bind->OQ,wpS_pure->Pb,arrOf->Pc,pendingOf->Pg,boot_tuple->Pr,Keyed->PH,SortSt->PM,callWith_type1->PY,seqObj->P',wpS_forRange->QT,slot_tuple_getitem->QX,envOfC->QY,failedOf->Q0,boot_dict->Rj,boot_any->Rw,boot_list->RO,IntsAre->RQ,wpS_mono->RW,boot_isinstance->R7,listUpdate_at->SO,boot_all->TX,boot_abs->TY,boot_sorted->Ur,get?_update_seq->Uw,wpS_get->Vr,AllBare->Vs,callWith_kw->VH,elem'->VW,wpS_modify->V_,subscriptTail_builtinR->V',setPending->Wa,mem_zip_self->Wb,entry_list_sort->Wl,kws_cons->Wt,boot_max->Wu,boot_int->Wv,wpS_lift->WW,slot_list_sort->WX,seqEpoch_at->WY,pairsOf_toList->WZ,kws_nil->W0,getElem?_mirror_all->Xl,entry_tuple_getitem->Xm,subscriptTail->Xu,call_abs_int->Xv,size_push'->XS,boot_range->XT,args_tuple_getitem->XU,plain_sorted->Yw,mergeAt'->Yx,listItems_at->Yy,entry_sorted->Yz,join_plain_closes->YY,callWith_builtin1->YZ,kind_sorted->Zb,getElem?_bubble->Zm,pairsOf->ZA,minRun'->ZC,sortedHeap_old->ZZ,sortedHeap->Z0,slicePart_none->Z1,args_list_sort->Z2,Subscript_->Z3,SortKind->Z4,tupleItemsOf_->ry,sortedHeap_at->rk,numOf->j',setArr->hY,mirror->hX,boot_bool->M7,bitAnd_m1->M6,KskOut->hQ
open PyProof.Rows.IntsAre renaming length->W1
open PyProof.Rows.IsTup renaming new->l0
open PyProof.Rows.SortSt renaming mk'->U4
open PySem renaming Addr->J',Value->NX,wpAny_bind->Oa,Shared->Od,PyData->Og,FuncData->Ol,Program->Om,wpAny_pure->Oq,World->OI,starEach->OS,model->OU,mainGlobals->OY,Heap->Pd,Stmt->Pn,Expr->Px,mem_of_lookup->PD,cellsFrom->PK,Around->PL,compareOp->PX,wpAny_truthy_bool->P4,boot_len->P5,wpAny_Call_Name_kw->Qd,sizeLine_eq->Qj,wpAny_mono->Qk,eval->Qm,wpAny_newObj_type->QA,wpAny_holding->QD,sysModules->QK,backTo->Rc,tupleKind_room_in1->Rt,wpAny_passesOwn->Ry,foldedSetIterable->RA,wpAny_rule->RL,Scope->RY,behindInMarks->R9,relabel->Se,OsState->Sg,wpAny_tryCatch->Sk,intItems->Sl,cLine->Sm,Arguments->Sy,plainId_quiet->SH,binaryOp->SI,attributeBase->SJ,codeAny_builtin->SU,call_meets->S6,assignEach->S7,sliceBounds->Tc,wpAny_pyIter_list->Tj,codeAny_mono->Tn,bootBuiltins->To,wpAny_call_entry->T5,builtinsNs->T6,Thread->T8,wpAny_newList->Ue,keywordEach->Uj,wpAny_execs_nil->Ut,letOwnedTupleGo->Uu,wpAny_typeOf->UG,getItem->UH,argBest->UI,tupleKind->UP,swapsWith->UQ,wpAny_seqItems->UW,NameKind->U1,wpAny_letGo->Vj,valueAt->Vk,holding->Vl,atKey->Vm,wpAny_comprehension_free->VF,rawInt->VG,wpAny_callSpecial?_slot->VP,getMethod->VQ,wpAny_pyNext_range_end->V3,wpAny_pyIter_rangeiter->V4,call_meetsIn->V5,wpAny_updateSeq->Wj,wpAny_notOrdered_dict->Wo,wpAny_isTrue_Compare1->Wp,wpAny_loadName_local->WJ,subscripted->WK,newFunctionEnv->WL,dictSetDefault->WM,backToKw->WN,IsRangeIter->WQ,standAt->Xc,seqIndex?->Xd,callerA->Xe,wpAny_loadName_cell->Xi,kt_meets_setdefault->Xj,wpAny_pyIter_range->XA,wpAny_call->XB,pyNext->XC,merged->XD,getattributeRaised->XE,denote->XF,call->XG,IsPart->XR,wpAny_sequenceKey->Yi,wpAny_pyIter_enum->Yj,wpAny_assign_Name->Yk,name_of_addr->Yl,bindArgs->Ym,Within->Yn,ReadsAll->Yr,BindsTo->Yu,wpAny_pyIter_zip->YL,wpAny_execs_cons->YM,wpAny_Dict_empty->YN,assign->YO,Params->YV,wpAny_field->Y8,CmpOp->Za,pushCells_keeps->Zj,wpAny_newTuple->ZK,wpAny_Name->ZL,typeLookup->ZM,recursionLimit->ZN,pyIter->ZO,closureFor->ZP,checkCount->ZQ,callWith->ZR,bindL->ZS,bindC->ZT,Result->ZW,wpAny_standAt->pz,wpAny_attempt->pw,rangeSize_one->aaA,intBits_le_64->ti,evalPart_none->aaC,call_list_seq->th,bltViewBooted->sy,treeTable->lA,storeName->kS,seqItems?->kL,PassesOwn->kH,storedH->kz,Keyword->ky,numAt->ip,compEnvC->kG,Operator->Q',Model->i0,GenState->ov,Fin->vb
open PySem.Around renaming under_plainId->RE,frames_deeper->WV,under->Yv
open PySem.Builtin renaming bitAnd->Tt
open PySem.Builtin.Builtins renaming bindParams->UM
open PySem.Builtin.Dict renaming updateFrom->VU,pairItems->V8,keyAndDefault->ZY,selfAndRest->aaT,addKeywords->YJ
open PySem.Builtin.List renaming listTooLong->SN,listUpdate->XP
open PySem.Builtin.Range renaming rangeSize->VT
open PySem.Builtin.Slice renaming slicePlaces->Rx,sliceApplied->Sq,sliceAdjust->SC,slicePartIndex->Zl,sliceFields->aao
open PySem.Builtin.Tuple renaming tupleExact->Qi,tupleItemsOf->U3
open PySem.Calls renaming spliced_cons->Ta,callWith_builtin->Tr,evalArgs_plain->Uk,Name_function_global->U2,call_function_entry->Vc,spliced_nil->Vq
open PySem.Challenge renaming pw_oathduel_k65_whole_players_back->OE,rw_oathduel_k65_whole_players_back->Qq
open PySem.Code renaming isFrame->Yt,frames->ab8
open PySem.Data renaming fields->Y',cell->aa9
open PySem.DictEntry renaming refKey->va
open PySem.EqMixed renaming ne_str_bool->Us,ne_bool_str->Ud,eq_str_bool->T4,eq_bool_str->T2,ne_str_int->Zg,ne_int_str->Zf,eq_str_int->Ze,eq_int_str->YP
open PySem.EqNone renaming ne_none_none->Xt,ne_none_bool->Xq,ne_bool_none->VO,eq_none_none->VN,eq_none_bool->VA,eq_bool_none->UD,ne_str_none->aaH,ne_none_str->aaI,ne_none_int->aaJ,ne_int_none->aaK,eq_str_none->aaL,eq_none_str->aaM,eq_none_int->ZF,eq_int_none->ZD
open PySem.F renaming plainAttrs_list->Ph,slot_list_append->P8,type_list_append->Qh,slot_dict_setdefault->QH,args_dict_setdefault_3->Q1,entry_dict_setdefault->Q_,plain_max_loop->Rr,slot_list_pop->S_,slot_list_index->TV,type_list_index->VR,entry_max_loop->VS,type_list_pop->Wr,slot_list_extend->Ws,slot_list_count->WT,slot_list_clear->WU,entry_list_pop->YX
open PySem.Heap renaming get?_push_of_some->Oe,lt_size->Ov,get?_push_size->OX,get?_update_other->Pz,size_push->So,SameBut->Sx,get?_update_self->TU,get?_none_of_le->WR,get?_push_ne->Ys,size_update->YW,mk->mr
open PySem.Heap.DictOf renaming new->Zk
open PySem.Heap.IsSliceOf renaming new->F'
open PySem.Heap.SameBut renaming update->UB
open PySem.IsL renaming update->vl
open PySem.IsRange renaming new->Y_
open PySem.NameKind renaming cell->SM,free->aaG
open PySem.Obj renaming mapSeq->Qx,data_mapDictKeys->WO
open PySem.PassesOwn renaming never->PU
open PySem.PyData renaming eqv->Pe,canLayAll0->P6,none->Qb,tuple->Sw,depthAll->SW,eqvAll->Uh,int->U0
open PySem.PyData.int renaming inj->ZX
open PySem.SeqAt renaming shaped->PP,readOf->UL,readsAll_map->XN,items_eqAt->YU,EqAt->mj
open PySem.SeqAt.EqAt renaming str_int->XO,int_str->XQ,none_bool->Sh,bool_none->R',bool_bool->RP,str_none->E9,str_bool->CW,none_str->CN,none_int->CB,int_none->zz,int_bool->y3,bool_str->w1,bool_int->wh,str_str->Ip,int_int->G',same->ud
open PySem.Str renaming ofString->N_,empty->YT,join->ZV
open PySem.Txt renaming join->Yq
open PySem.Value renaming ref->PF,int->Td,type->UZ,isInt_shape->Vp,str->Xg,none->XJ,bool->XM,float->Y9,isStrOf->rz,isInt->oD,bytes->Ts
open PySem.W renaming Frag->C',findIn->O3,mg_none_of->Pi,nsIn->Pk,keepIn->P_,boot_heap->Qg,kia_one->Qt,emptyDict->QB,kitOne->QE,SharedT->QG,mg_of->Q8,fnOf->Q9,kla_obj->Re,instObj->Rf,plainGet->Rq,hasDictIn->RB,CodeHd->RU,plainOver->Sf,tabObj->Sn,makesIn->SV,callWith_K->S8,boot_drawn->S9,specialIn->Tp,codeIn->Tq,boot_toks->T7,mroIn->Ug,takesIn->Uv,plainGet_of->UA,isFn->UJ,envX->UK,lookIn->UX,through->Vn,methodObj->Vo,OpenLaw->V1,cellsFrom_some->V6,absHeap->V7,takerIn->Wk,methodCall_KW->Wq,topStub->Xf,kdu_collect->Xk,stepOk->XI,kitx_list->Yo,kitx_dict->Yp,kdl_dict->YQ,handedIn->YR,WalkO->YS,stepT->ZU,topRun->h7
open PySem.W.Fast renaming tw5923862056798008813->UY
open PySem.W.Looks renaming here->I0,ld->vu
open PySem.W.WData renaming int->l'
open PySem.W.WShape renaming has->acB
open PySem.Walks renaming list->XH,range->nk
open PySem.Within renaming cons->I'
open StateT renaming run_pure->Zi
open Sum renaming inl->OK,inr->Sb
open Sum.inl renaming inj->Qp
open True renaming intro->QS
open _root_ renaming List->ab,Option->M',decide_eq_true->N3,decide_eq_false->N7,Bool->N',of_decide_eq_true->Oh,if_pos->On,if_neg->Oo,congrArg->O1,decide_eq_true_iff->O5,beq_eq_false_iff_ne->Pp,Array->Qs,decide_eq_decide->QM,ForInStep->R_,String->Sa,if_false->Ti,or_false->Ui,DecidableEq->Uo,getElem?_pos->UF,of_decide_eq_false->UU,beq_iff_eq->UV,if_true->Vi,StateT->VE,Unit->WI,bne_self_eq_false->Yh,beq_self_eq_true->YK,modify->ic
namespace HD
open PySem PySem.W PySem.Calls PyProof.Rows
noncomputable def zL (p:QG->T8->M' (QG×T8))(o T:T8->N')(n:Nat):QG->T8->M' QG:=
 @Nat.rec (λ_=>QG->T8->M' QG) (λ_ _=>NZ)
  (λ_ i s t=>@Up (λ_=>M' QG)
   (@Up (λ_=>M' QG) NZ
    (@Wc (QG×T8) (λ_=>M' QG) NZ
     (λr=>@ot QG T8 (λ_=>M' QG) (λa b=>@Up (λ_=>M' QG) NZ (i a b) (Xh a.toks 1000000000)) r) (p s t)) (o t))
   (gV s) (T t)) n
theorem xM{T:Sa->M' Builtin}{p:Om}{w:OI}{N:Nat}{a:M' NX}:∀n s b t,
  zL (ZU (XF T) p w) (XI N a) Vn n s t=gV b->h7 T p w N a n s.abs t=gV b.abs
 |0,s,b,t,h=>by cases h
 |n+1,s,b,t,h=>by
  have h:@Up (λz=>M' QG)
   _
   _ _=gV b:=h
  unfold h7;cases e:Vn t with
  |true=>rw[e]at h;cases h;rfl
  |false=>
   rw[e]at h;cases k:XI N a t with
   |false=>rw[k]at h;cases h
   |true=>
    rw[k]at h;cases H:ZU _ p w s t with
    |none=>rw[H]at h;cases h
    |some r=>
     rw[H]at h;replace h:@Up (λz=>M' QG) NZ _ _=gV b:=h;rw[stepT_spec H];cases f:Xh _ _ with
     |false=>rw[f]at h;cases h
     |true=>rw[f]at h;exact xM n _ _ _ h
noncomputable def rH (l:ab Obj):BT->Nat->M' (BT×Nat):=
 @List.rec Obj (λ_=>BT->Nat->M' (BT×Nat)) (λT n=>gV (T,n))
  (λo _ i T n=>@Up (λ_=>M'<|BT×Nat) NZ (i (T.ins n o)<|n+1) (((T.ins n o).get n).isSome)) l
theorem qu:∀l T t n N,rH l T n=gV (t,N)->V7 t N L=⟨(V7 T n L).objs++l.toArray,L⟩
 |[],T,t,n,N,h=>by
  cases h;rfl
 |o::l,T,t,n,N,h=>by
  replace h:@Up (λz=>M'<|BT×Nat) NZ (rH l _<|n+1) _=gV _:=h;cases H:((T.ins n o).get n).isSome with
  |false=>simp_all
  |true=>
   rw[H]at h;rw[qu l _ _ _ _ h,absHeap_ins H];show mr ((V7 T n L).objs.push o++l.toArray) L=_
   simp
noncomputable def look {a:Type}(p:QG->T8->M' (QG×T8))(o t:T8->N')(M:Nat)(os:Sg)(P:YV)(st:T8)(F:Od->a):M' a:=
 @Wc (BT×Nat) (λ_=>M' a) NZ
  (λr=>@ot BT Nat (λ_=>M' a) (λT n=>@Wc QG (λ_=>M' a) NZ (λs=>gV<|F s.abs) (zL p o t M ⟨T,n,(Qg P).life,Uq [],S9,T7,os⟩ st)) r)
  (rH (Qg P).objs.toList .nil 0)
theorem FR{c:Type}{t:Sa->M' Builtin}{p:Om}{w:OI}{N:Nat}{a:M' NX}{M:Nat}{os:Sg}{F:Od->c}{b:c}
  (h:look (ZU (XF t) p w) (XI N a) Vn M os w.params (Xf p) F=gV b):
  ∃s,h7 t p w N a M ⟨Qg w.params,Uq [],S9,T7,os⟩ (Xf p)=gV s/\F s=b:=by
 unfold look at h;cases H:rH _ _ 0 with
 |none=>rw[H]at h;cases h
 |some r=>
  obtain⟨T,n⟩:=r;rw[H]at h;replace h:@Wc QG (λz=>M' c) NZ _ (zL _ _ Vn M _<|Xf p)=gV b:=h;cases d:zL _ _ Vn M _ _ with
  |none=>rw[d]at h;cases h
  |some s=>
   rw[d]at h;have e:=qu (L:=(Qg w.params).life) _ _ _ _ _ H;have g:V7 T n (Qg w.params).life=Qg w.params:=by
    rw[e];show mr (#[]++(Qg _).objs.toList.toArray) _=_
    rw[Array.empty_append]
   have f:=xM _ _ _ _ d;refine⟨s.abs,?_,OA h⟩;rw[<-f];show _=h7 t p w N a M ⟨V7 T n _,Uq [],S9,T7,os⟩ _
   rw[g]
noncomputable def xt (q:Om)(s:Od):N':=xlAt q [] s&&recOk [] s
noncomputable def sn (p q:Om)(loose:ab Str)(X:Od->N')(g:N')(s:Od):=Fast.tw4187177175401517315 q loose (UY p.main.body) X g s
noncomputable def seenA (p q:Om)(loose:ab Str)(X:Od->N')(g:N')(w:OI)(s:Od):=((staticsOk (UY p.main.body) (Qg w.params) s.heap&&namesBound p s.heap&&gensDone s&&laidKept (Qg w.params) s.heap),(sn p q loose X g s).1)
noncomputable def seenB (p q:Om)(loose:ab Str)(X:Od->N')(g:N')(s:Od):=((sn p q loose X g s).2.1,(sn p q loose X g s).2.2.1)
noncomputable def seenE (p q:Om)(loose:ab Str)(X:Od->N')(g:N')(s:Od):=((sn p q loose X g s).2.2.2.1,(sn p q loose X g s).2.2.2.2.1)
noncomputable def seenC (p q:Om)(loose:ab Str)(X:Od->N')(g:N')(s:Od):=(sn p q loose X g s).2.2.2.2.2.1
noncomputable def seenD (p q:Om)(loose:ab Str)(X:Od->N')(g:N')(s:Od):=((sn p q loose X g s).2.2.2.2.2.2.1,(sn p q loose X g s).2.2.2.2.2.2.2.1,(sn p q loose X g s).2.2.2.2.2.2.2.2)
noncomputable def lookAt {a:Type}(p:Om)(m:Nat)(Z:M' NX)(M:Nat)(w:OI)(os:Sg)(F:Od->a):M' a:=
 look (Fast.tw10156331382660048174 (Fast.tw11892475500146522536 Fast.tw14364793385576792824) p w) (Fast.tw6613529449190102663 m Z) Vn M os w.params (Xf p) F
theorem fB{c:Type}{p:Om}{m:Nat}{a:M' NX}{M:Nat}{w:OI}{os:Sg}{F:Od->c}{b:c}(h:lookAt p m a M w os F=gV b):
  ∃s,h7 lA p w m a M ⟨Qg w.params,Uq [],S9,T7,os⟩ (Xf p)=gV s/\F s=b:=by
 unfold lookAt at h;rw[<-Fast.te10156331382660048174,<-Fast.te11892475500146522536,<-Fast.te14364793385576792824,<-Fast.te6613529449190102663]at h;exact FR h
theorem left{p q:Om}{loose:ab Str}{X:Od->N'}{j:Type}{Y:Od->j}{y:OI->j}{N:Nat}{g:N'}{m:Nat}{Z:M' NX}{M:Nat}
  (e:opening p=plainProg p.main.scope.names) (f:∀s,fenceModules? p s=gV s) (H:Xh 600 N=NW) (n:Xh M N=NW)
  (h:∀w:OI,((Qg w.params).isNs OY&&(Uq []:Qs ov).size == 0,(Qg w.params).objs.size,(Qg w.params).nsMap OY "__annotations__")=(NW,m,Z))
  (o:∀(w:OI) (os:Sg),lookAt p m Z M w os (seenA p q loose X g w)=gV (NW,expectedOf q)) (u:∀(w:OI) (os:Sg),lookAt p m Z M w os (seenB p q loose X g)=gV (sy,NW)) (v:∀(w:OI) (os:Sg),lookAt p m Z M w os (seenE p q loose X g)=gV (NW,pinGoodD<|drecsOf q))
  (C:∀(w:OI) (os:Sg),lookAt p m Z M w os (seenC p q loose X g)=gV (plainGoodE q<|looseW q loose)) (x:∀(w:OI) (os:Sg),lookAt p m Z M w os (seenD p q loose X g)=gV (plainGoodD q loose,wideGood q,clsGoodW q loose)) (z:∀(w:OI) (os:Sg),lookAt p m Z M w os Y=gV (y w)):
  LeftO p q loose X Y y N g:=λw=>by
 obtain⟨⟨F,G,d,k,os⟩,a,b⟩:=PZ.mp<|boot_open e H f w;obtain⟨rfl,rfl,rfl,rfl⟩:F=Qg _/\G=Uq []/\d=S9/\k=T7:=by simpa using b
 obtain⟨I,J,O⟩:_/\_/\_:=by simpa only [Prod.mk.injEq]using h w
 obtain⟨s,r,A⟩:=fB<|o w os;obtain⟨i,c,P⟩:=fB<|z w os;rw[r]at c;cases c;obtain⟨i,c,B⟩:=fB<|u w os;rw[r]at c;cases c;obtain⟨i,c,E⟩:=fB<|v w os;rw[r]at c;cases c;obtain⟨i,c,Q⟩:=fB<|C w os;rw[r]at c;cases c;obtain⟨i,c,D⟩:=fB<|x w os;rw[r]at c;cases c;have l:=O1 Z5 A;have L:sn p q _ X g s=openGood q _:=Tu (O1 W2 A) (Tu (O1 (·.1) B) (Tu (O1 (·.2) B) (Tu (O1 (·.1) E) (Tu (O1 (·.2) E) (Tu Q (Tu (O1 _ D) (Tu (O1 (·.2.1) D) (O1 (·.2.2) D))))))));unfold seenA at l;unfold sn at L;dsimp only at l;rw[<-Fast.te5923862056798008813]at l L;rw[<-Fast.te4187177175401517315]at L;have r:=topRun_mono (N-M) _ _ _ _ r;rw[show M+(N-M)=N by have:=Ww n;lia]at r;have t:topFrom lA p w N ⟨Qg w.params,Uq [],S9,T7,os⟩=gV s:=by
  unfold topFrom;rw[I,J,O,r];show(match staticsOk _ _ _&&namesBound p _&&gensDone s&&laidKept _ _ with|true=>_|false=>_)=_
  rw[l]
 unfold openEnds;rw[a];show(topFrom lA p w N _).map _=_
 rw[t];exact O1 gV<|Tu L P
theorem head{r:OpenRow}{q:Om}{loose:ab Str}{lv:ab (Str×WData)}(H:Hook){d:DefRec}{k:ab (Str×Px)}{N:Nat}
  (l:LeftO r.prog q loose (λs=>xlAt q lv s&&recOk r.records s) H.obs H.val N) (a:defOf q r.name=gV (d,k)) (p:r.prog.theDef r.name=gV (d.params,d.body,d.scope)) (b:kwWritten? d.params.kwonlyargs d.params.kw_defaults=gV k)
  (h:(!r.writes || r.records.isEmpty)=NW) (c:r.wellSaid=NW) (o:(chainsOk q&&opensWell r.prog&&(frees r.toRowW&&r.within.isEmpty))=NW) (g:r.prog.bare) (w:r.toRowW.promised)
  (i:YS q loose (XL q lv) H.says r.toRowW d k λf v=>XG f v):r.Holds:=
 holds_open l H.of H.keeps (λs e=>xl_of s (W_.mp e).1) XL.keeps a p b (λs e=>recFacts_of (W_.mp e).2) h c o g w i
end HD
section
open PySem PySem.W PySem.Calls PyProof.Rows
set_option maxRecDepth 100000
set_option maxHeartbeats 0
noncomputable def K65.vQ:Om:=view OE [0,2,3,4,5,6,8,9,10,12,13,14,15,16,17,18,19,20,21,23,24,25,26,27,29,30,31,32,33,34,36,37,38,39,40,41,42,43,44,45,46,47,48,49,50,51,53,54,55,56,57,58,59,60,61,62,64,65,67,68,69,70,71,73,74,75,76,77,79,80,81,82,83,84,85,86,87,88,89,90,91,92,93,94,95,96,97,98,99,100,101,102,103]
theorem K65.said:OpenLaw.wellSaid Qq=true:=(congrFun Fast.te9446332074065402090 Qq).trans (by kernel_rfl)
theorem K65.seenA (w:OI)(os:Sg):HD.lookAt OE 11 (gV (.ref 6)) 4945 w os (HD.seenA OE K65.vQ [] (HD.xt K65.vQ) NW w)=gV (NW,expectedOf K65.vQ):=by kernel_rfl
theorem K65.seenB (w:OI)(os:Sg):HD.lookAt OE 11 (gV (.ref 6)) 4945 w os (HD.seenB OE K65.vQ [] (HD.xt K65.vQ) NW)=gV (sy,NW):=by kernel_rfl
theorem K65.seenE (w:OI)(os:Sg):HD.lookAt OE 11 (gV (.ref 6)) 4945 w os (HD.seenE OE K65.vQ [] (HD.xt K65.vQ) NW)=gV (NW,pinGoodD (drecsOf K65.vQ)):=by kernel_rfl
theorem K65.seenC (w:OI)(os:Sg):HD.lookAt OE 11 (gV (.ref 6)) 4945 w os (HD.seenC OE K65.vQ [] (HD.xt K65.vQ) NW)=gV (plainGoodE K65.vQ (looseW K65.vQ [])):=by kernel_rfl
theorem K65.seenD (w:OI)(os:Sg):HD.lookAt OE 11 (gV (.ref 6)) 4945 w os (HD.seenD OE K65.vQ [] (HD.xt K65.vQ) NW)=gV (plainGoodD K65.vQ [],wideGood K65.vQ,clsGoodW K65.vQ []):=by kernel_rfl
section
local macro_rules | `(tactic| o_head $H) => `(tactic| assumption)
theorem K65.zpre (h : PySem.Challenge.rw_oathduel_k65_whole_players_back.row.Holds) : PySem.Challenge.rw_oathduel_k65_whole_players_back.row.Holds:= by k_head
end
def K65.zad : List Addr:= [2,3,15,17,18,20,21,22,29,30,31,32,35,42,43,44,47,54,56,57,59,60,61,62,63,66,73,74,75,78,85,86,87,90,92,93,95,96,97,99,100,102,103,104,106,107,109,110,111,113,114,116,117,118,120,121,123,124,125,128,129,130,133,134,135,137,138,140,141,142,144,145,147,148,149,151,152,154,155,156,159,160,161,164,165,166,169,170,171,174,175,176,179,180,181,184,185,186,188,189,191,192,200,201,202,203,204,207,214,217,218,219,221,222,224,225,226,227,228,231,233,234,236,237,238,240,241,243,244,245,247,248,250,251,252,254,255,257,258,259,261,262,264,265,266,268,269,271,272,273,275,276,278,279,280,282,283,285,286,287,289,290,292,293,294,296,297,299,300,301,304,305,306,308,309,311,312,313,316,317,318,320,321,323,324,325,327,328,330,331,332,335,336,337,339,340,342,343,344,351,354,355,356,358,359,361,362,363,366,367,368,369,370,373,375,376,378,379,380,382,383,385,386,387,389,390,392,393,394,397,398,399,401,402,404,405,406,408,409,411,412,413,415,416,418,419,420,422,423,425,426,427,429,430,432,433,434,436,437,439,440,441,443,444,446,447,448,450,451,453,454,455,458,459,460,462,463,465,466,467,469,470,472,473,474,476,477,479,480,481,484,485,486,489,490,491,493,494,496,497,498,501,502,510,513,514,515,517,518,520,521,522,524,525,527,528,529,531,532,534,535,536,539,540,541,543,544,546,547,548,550,551,553,554,555,557,558,560,561,562,564,565,567,568,569,571,572,574,575,576,577,578,579,580,583,585,586,588,589,590,592,593,595,596,597,599,600,602,603,604,607,608,609,612,613,614,616,617,619,620,626,629,630,631,633,634,636,637,638,640,641,643,644,645,648,649,650,653,654,655,658,659,660,663,664,665,668,669,670,672,673,675,676,677,680,681,689,692,693,694,697,698,699,702,703,704,707,708,709,711,712,714,715,716,718,719,721,722,723,725,726,728,729,730,733,734]
theorem K65.seenY (w : World) (os : OsState) : HD.lookAt PySem.Challenge.pw_oathduel_k65_whole_players_back 11 (some (.ref 6)) 4945 w os (kmHook K65.zpre.heap_1 K65.zad (fun _ => by kernel_rfl) [246]).obs = some ((kmHook K65.zpre.heap_1 K65.zad (fun _ => by kernel_rfl) [246]).val w):= by kernel_rfl
end
namespace L2
open PySem PySem.Spec PyProof.Rows
abbrev aR:=Sum Int Str
noncomputable def pU:aR->NX->N'
 |.inl k,v=>oD k v
 |.inr x,v=>rz x v
noncomputable def ME(w:OI):aR->Int
 |.inl k=>hashInt k
 |.inr x=>hashStr w x
theorem cx:∀{k:aR} {v:NX},pU k v=NW->(∃i t,k=OK i/\v=Td i t)\/(∃x t,k=Sb x/\v=Xg x t)
 |.inl i,v,h=>by
  obtain⟨t,e⟩:=Vp h;exact .inl ⟨i,t,rfl,e⟩
 |.inr x,v,h=>by
  obtain⟨t,e⟩:=Value.isStrOf_shape h;exact .inr ⟨x,t,rfl,e⟩
theorem yW(i:Int)(t:Tok):pU (.inl i) (.int i t)=true:=by simp[pU,oD]
theorem yX(x:Str)(t:Tok):pU (.inr x) (.str x t)=true:=by simp[pU,rz]
theorem Ix(a b:Int):decide ((OK a:aR)=OK b)=(a == b):=by
 lia
theorem Iy(a b:Str):decide ((Sb a:aR)=Sb b)=decide (a=b):=by
 simp
theorem Iz(a:Int)(b:Str):decide ((OK a:aR)=Sb b)=false:=rfl
theorem IA(a:Str)(b:Int):decide ((Sb a:aR)=OK b)=false:=rfl
noncomputable def be(p:Om)(w:OI):PySem.KeyKind p w aR where
 is:=pU
 hash:=ME w
 inj:=λv a b d c=>by
  rcases cx d with⟨i,t,rfl,rfl⟩|⟨x,t,rfl,rfl⟩
  ·rcases cx c with⟨j,u,rfl,e⟩|⟨y,u,rfl,e⟩
   ·simp_all
   simp_all
  rcases cx c with⟨j,u,rfl,e⟩|⟨y,u,rfl,e⟩
  ·simp_all
  simp_all
 byValue:=λk v h=>by
  rcases cx h with⟨i,t,rfl,rfl⟩|⟨x,t,rfl,rfl⟩<;>rfl
 pyHash:=λH h=>by
  rcases cx H with⟨i,t,rfl,rfl⟩|⟨x,t,rfl,rfl⟩
  ·exact wpAny_pyHash_int h
  exact wpAny_pyHash_str h
 eqBool:=λf H h=>by
  rcases cx f with⟨i,t,rfl,rfl⟩|⟨x,t,rfl,rfl⟩
  ·rcases cx H with⟨j,u,rfl,rfl⟩|⟨y,u,rfl,rfl⟩
   ·rw[Ix]at h;exact wpAny_eqBool_int h
   rw[Iz]at h;exact XQ i t y u _ _ _ _ h
  rcases cx H with⟨j,u,rfl,rfl⟩|⟨y,u,rfl,rfl⟩
  ·rw[IA]at h;exact XO x t j u _ _ _ _ h
  rw[Iy]at h;exact wpAny_eqBool_str h
 «strs»:=λk x t v h=>by
  rcases cx h with⟨i,u,rfl,e⟩|⟨y,u,rfl,e⟩
  ·simp_all
  injection e with E _;subst E;cases v<;>rfl
theorem tz(p:Om)(w:OI)(i:Int)(t:Tok):(be p w).is (.inl i) (.int i t)=true:=yW i t
theorem tD(p:Om)(w:OI)(x:Str)(t:Tok):(be p w).is (.inr x) (.str x t)=true:=yX x t
set_option genInjectivity true in
inductive V where
 |non|bl (b:N')|int (i:Int)|str (x:Str)|byt (b:Qs UInt8)|flt (b:UInt64)|ref (a:J')|ty (n:Sa)
 deriving Uo
def RelV:V->NX->Prop
 |.non,u=>u=XJ
 |.bl b,u=>u=XM b
 |.int i,u=>∃t,u=Td i t
 |.str x,u=>∃t,u=Xg x t
 |.byt b,u=>∃t,u=Ts b t
 |.flt b,u=>∃t,u=Y9 b t
 |.ref a,u=>u=PF a
 |.ty n,u=>u=UZ n
abbrev Vals:ab V->ab NX->Prop:=Paired RelV
theorem Vals.length(r:Vals x u):x.length=u.length:=Paired.length r
theorem Vals.get:∀{X:ab V} {U:ab NX} {i:Nat} {x:V},Vals X U->X[i]?=gV x->∃u,U[i]?=gV u/\RelV x u:=by
 intro X U i x h e;induction h generalizing i with
 |nil=>cases e
 |cons r t j=>
  cases i with
  |zero=>cases e;exact⟨_,rfl,r⟩
  |succ i=>exact j e
theorem Vals.set(r:RelV x u):∀{X:ab V} {U:ab NX} (i:Nat),Vals X U->Vals (X.set i x) (U.set i u)
 |_,_,_,.nil=>.nil
 |_,_,0,.cons _ t=>.cons r t
 |_,_,i+1,.cons q t=>.cons q<|Vals.set r i t
theorem Vals.append:∀{x y:ab V} {u w:ab NX},Vals x u->Vals y w->Vals (x++y) (u++w):=by
 intro x y u w h s;induction h with
 |nil=>exact s
 |cons r t i=>exact .cons r i
theorem Vals.take:∀{x:ab V} {u:ab NX} (n:Nat),Vals x u->Vals (x.take n) (u.take n):=by
 intro x u n h;induction h generalizing n with
 |nil=>cases n<;>exact .nil
 |cons r t i=>
  cases n with
  |zero=>exact .nil
  |succ n=>exact .cons r<|i n
theorem Vals.drop:∀{x:ab V} {u:ab NX} (n:Nat),Vals x u->Vals (x.drop n) (u.drop n)
 |_,_,0,r=>r
 |_,_,_+1,.nil=>.nil
 |_,_,n+1,.cons _ t=>Vals.drop n t
theorem Vals.none_of:∀{x:ab V} {u:ab NX} {i:Nat},Vals x u->x[i]?=NZ->u[i]?=none:=λ{x u i} r e=>by
 have h:=r.length;simp_all
def RelO:M' V->M' NX->Prop
 |some v,gV u=>RelV v u
 |none,NZ=>True
 |_,_=>False
def KV{a:Type}:ab (a×V)->ab (a×NX)->Prop:=Paired λ(p:a×V) (q:a×NX)=>p.1=q.1/\RelV p.2 q.2
noncomputable def kV:aR->V
 |.inl i=>.int i
 |.inr x=>.str x
set_option genInjectivity true in
inductive HO where
 |lst (xs:ab V)
 |tup (xs:ab V)
 |dK (k:ab (aR×V))|dT (k:ab (ab aR×V))
 |set (S:Int->N') (n:Nat)
 |ins (C dx:J') (fs:ab (Str×V))
 |own (x:J')
 |xd (fs:ab (Str×V))
 |met (f x:J')
 |rng (lo h:Int)
 |frz (o:Obj) (u:HO)
 |tbl (p:Qs NX)
 |ext (a:Pd->Prop)
abbrev Hp:=J'->M' HO
noncomputable def upd(H:Hp)(a:J')(o:HO):Hp:=λb=>if b=a then gV o else H b
theorem aa:upd H a o a=gV o:=by unfold upd;simp
theorem af(h:b≠a):upd H a o b=H b:=by unfold upd;rw[Oo h]
theorem gQ:upd (upd H a o) a u=upd H a u:=by
 unfold upd;simp_all
theorem bq{H:Hp}(h:H a=gV o)(h':H b=gV u)(d:o≠u):a≠b:=by
 lia
theorem ag{H:Hp}(h:H a=gV o)(h':H b=NZ):a≠b:=by
 lia
section
variable (P:Om)(w:OI)
def ObjOk(H:Hp)(h:Pd)(a:J'):HO->Prop
 |.lst X=>X.length<=sizeLine/\∃(P3:ab NX) (n:Nat),Vals X P3/\h.get? a=gV {cls:=.type "list",data:=.seq P3.toArray n}
 |.tup X=>X.length<=sizeLine/\∃P3:ab NX,Vals X P3/\IsTup h a P3.toArray
 |.dK k=>k.length<=sizeLine/\(a == QK)=N8/\∃s,KV k s/\h.DictOf (be P w) a s
 |.dT k=>k.length<=sizeLine/\(a == QK)=N8/\∃X:ab (ab aR×J'×NX),
   Paired (λ(p:ab aR×V) (q:ab aR×J'×NX)=>p.1=q.1/\H q.2.1=gV (.tup<|p.1.map kV)/\RelV p.2 q.2.2) k X/\
   ∃o e E,h.get? a=gV o/\o.ExactDict/\o.data=.dict e E/\e.toList=X.map (entryOfKey<|UP<|be P w)/\(X.map (·.1)).Nodup
 |.set S n=>h.SetOf (intKind P w) a S n
 |.ins C d F=>H d=gV (.own a)/\F.length<=1000/\d≠a/\h.get? a=gV (Rf C d)/\
   ∃m,h.Ns1 d m/\(∀f,RelO (F.lookup f)<|m f)/\Yn m (F.map (·.1))
 |.own _=>∃o,h.get? a=gV o
 |.xd F=>∃m,h.Ns1 a m/\∀f,RelO (F.lookup f)<|m f
 |.rng lo i=>∃t u v,h.get? a=gV {cls:=.type "range",data:=.fields #[.int lo t,.int i u,.int 1 v]}
 |.frz o u=>h.get? a=gV o/\ObjOk H h a u
 |.tbl j=>h.get? a=gV {cls:=.none,data:=.fields j}
 |.met f x=>h.get? a=gV (Vo (.ref f)<|.ref x)
 |.ext b=>b h/\(∃o,h.get? a=gV o)/\∀c g:Pd,b c->(∀o,c.get? a=gV o->g.get? a=gV o)->b g
def HOk(H:Hp)(h:Pd):Prop:=∀a o,H a=gV o->ObjOk P w H h a o
end
section
variable {P:Om}{w:OI}{H:Hp}{h:Pd}{a:J'}
theorem ObjOk.lt(x:ObjOk P w H h a o):a<h.objs.size:=by
 cases o with
 |lst X=>obtain⟨z,z,z,z,e⟩:=x;exact Ov e
 |tup X=>obtain⟨z,z,z,p⟩:=x;exact p.lt
 |dK k=>obtain⟨z,z,z,z,o,z,z,e,z⟩:=x;exact Ov e
 |dT k=>obtain⟨z,z,z,z,o,z,z,e,z⟩:=x;exact Ov e
 |set S n=>obtain⟨o,z,z,z,e,z⟩:=x;exact Ov e
 |ins C d F=>obtain⟨z,z,z,e,z⟩:=x;exact Ov e
 |own y=>obtain⟨z,e⟩:=x;exact Ov e
 |xd F=>obtain⟨z,⟨z,z,z,e,z⟩,z⟩:=x;exact Ov e
 |rng lo i=>obtain⟨z,z,z,e⟩:=x;exact Ov e
 |frz O u=>obtain⟨e,z⟩:=x;exact Ov e
 |tbl s=>exact Ov (x)
 |met f y=>exact Ov (x)
 |ext b=>obtain⟨z,⟨z,e⟩,z⟩:=x;exact Ov e
theorem Paired.mapP{c d:Type}{F G:c->d->Prop}:∀{l:ab c} {L:ab d},Paired F l L->(∀a b,F a b->G a b)->Paired G l L:=by
 intro l L h f;induction h with
 |nil=>exact .nil
 |cons r t i=>exact .cons (f _ _ r) i
theorem Paired.imp'{c d:Type}{F G:c->d->Prop}(f:∀a b,F a b->G a b){l:ab c}{L:ab d}(r:Paired F l L):Paired G l L:=Paired.mapP r f
theorem ObjOk.stay(x:ObjOk P w H h a o)(k:∀b u,(b=a\/H b=gV (.own a))->h.get? b=gV u->h'.get? b=gV u)
  (B:∀b,H b=gV (.own a)->l b=gV (.own a)) (D:∀b X,H b=gV (.tup X)->l b=gV (.tup X)):ObjOk P w l h' a o:=by
 induction o with
 |lst X=>obtain⟨z,i,n,r,e⟩:=x;exact⟨z,i,n,r,k _ _ (.inl rfl) e⟩
 |tup X=>obtain⟨z,i,r,O,e,c⟩:=x;exact⟨z,i,r,O,k _ _ (.inl rfl) e,c⟩
 |dK s=>obtain⟨z,y,F,r,O,E,g,e,c⟩:=x;exact⟨z,y,F,r,O,E,g,k _ _ (.inl rfl) e,c⟩
 |dT s=>
  obtain⟨z,y,X,r,O,E,g,e,c⟩:=x;exact⟨z,y,X,Paired.mapP r λp q z=>⟨z.1,D _ _ z.2.1,z.2.2⟩,O,E,g,k _ _ (.inl rfl) e,c⟩
 |set S n=>obtain⟨O,E,g,t,e,c⟩:=x;exact⟨O,E,g,t,k _ _ (.inl rfl) e,c⟩
 |ins C L G=>
  obtain⟨d,z,N,e,m,⟨j,E,g,I,c⟩,r⟩:=x;exact⟨B _ d,z,N,k _ _ (.inl rfl) e,m,⟨j,E,g,k _ _ (.inr d) I,c⟩,r⟩
 |own y=>obtain⟨O,e⟩:=x;exact⟨O,k _ _ (.inl rfl) e⟩
 |xd G=>obtain⟨m,⟨j,E,g,e,c⟩,r⟩:=x;exact⟨m,⟨j,E,g,k _ _ (.inl rfl) e,c⟩,r⟩
 |rng lo M=>obtain⟨t,u,v,e⟩:=x;exact⟨t,u,v,k _ _ (.inl rfl) e⟩
 |frz O u J=>obtain⟨e,q⟩:=x;exact⟨k _ _ (.inl rfl) e,J q⟩
 |tbl A=>
  have e:=x;exact k a _ (.inl rfl) e
 |met f y=>
  have e:h.get? a=gV _:=x;show h'.get? a=gV _
  exact k a _ (.inl rfl) e
 |ext Q=>obtain⟨p,⟨o,e⟩,st⟩:=x;exact⟨st _ _ p λo q=>k _ _ (.inl rfl) q,⟨o,k _ _ (.inl rfl) e⟩,st⟩
theorem HOk.lt(x:HOk P w H h)(e:H a=gV o):a<h.objs.size:=(x a o e).lt
theorem HOk.fresh(x:HOk P w H h)(e:h.objs.size<=a):H a=none:=by
 cases q:H a with
 |none=>rfl
 |some u=>exact absurd (Pf (x.lt q) e)<|QR _
theorem HOk.kept(x:HOk P w H h)(k:∀b u,h.get? b=gV u->h'.get? b=gV u):HOk P w H h':=λa o e=>
 (x a o e).stay (λb u z q=>k b u q) (λz q=>q) λz z q=>q
theorem HOk.laid{h':Pd}{o:HO}(x:HOk P w H h)(k:∀b u,h.get? b=gV u->h'.get? b=gV u)(p:h.objs.size<=a)(n:ObjOk P w (upd H a o) h' a o):HOk P w (upd H a o) h':=λb u e=>by
 have d:=x.fresh p;by_cases f:b=a
 ·subst f;rw[aa]at e;cases e;exact n
 rw[af f]at e;exact(x b u e).stay (λc v z q=>k c v q) (λc q=>by rwa[af<|ag q d]) λc X q=>by rwa[af<|ag q d]
end
def Rd(H:Hp)(a:J')(u:HO):Prop:=H a=gV u\/∃o,H a=gV (.frz o u)
theorem Rd.of(h:H a=gV u):Rd H a u:=.inl h
theorem Rd.ok(r:Rd H a u)(x:HOk P w H h):ObjOk P w H h a u:=by
 obtain r|⟨o,r⟩:=r
 ·exact x a u r
 obtain⟨z,q⟩:=x a _ r;exact q
def KG:M' HO->Prop
 |some (.lst _)=>True
 |some (.dK _)=>True
 |some (.dT _)=>True
 |some (.set _ _)=>True
 |some (.ins _ _ _)=>True
 |some (.ext _)=>True
 |_=>False
theorem HOk.write(g:HOk P w H h)(m:KG (H x))(j:e=x\/H e=gV (.own x))(k:∀b u,b≠e->h.get? b=gV u->h'.get? b=gV u)(o:∃u,h'.get? e=gV u)
  (N:ObjOk P w (upd H x O) h' x O):HOk P w (upd H x O) h':=λb u q=>by
 have A:∀c y,H c=gV (.own y)->c≠x:=λc y r z=>by subst z;rwa[r]at m
 have n:∀c X,H c=gV (.tup X)->c≠x:=λc X r z=>by subst z;rwa[r]at m
 by_cases d:b=x
 ·subst d;rw[aa]at q;cases q;exact N
 rw[af d]at q;by_cases a:b=e
 ·have Q:H b=gV (.own x):=by
   lia
  rw[q]at Q;cases Q;obtain⟨v,i⟩:=o;exact⟨v,by rwa[a]⟩
 refine(g b u q).stay (λc v f r=>k c v ?_ r) (λc r=>by rwa[af<|A c b r]) λc X r=>by rwa[af<|n c X r]
 grind
structure Un (fs ex:ab J')(H H':Hp)(h h':Pd):Prop where
 keep:∀b o,h.get? b=gV o->H b=NZ->b∉fs->b∉ex->h'.get? b=gV o
 slot:∀b o,h.get? b=gV o->H b=NZ->b∈fs->b∉ex->∃sl,h'.get? b=gV {o with slots:=sl}
 free:∀b o,h.get? b=gV o->H b=NZ->b∉ex->H' b=NZ
 there:∀b o,h.get? b=gV o->b∉ex->∃o',h'.get? b=gV o'
 tups:∀b xs,H b=gV (.tup xs)->H' b=gV (.tup xs)
 frzs:∀b o u,H b=gV (.frz o u)->H' b=gV (.frz o u)
 tbls:∀b ps,H b=gV (.tbl ps)->∃more,H' b=gV (.tbl<|ps++more)
theorem Un.any(u:Un f e H d h c)(q:h.get? b=gV o)(n:H b=NZ)(x:b∉e):∃s,c.get? b=gV {o with slots:=s}:=by
 by_cases a:b∈f
 ·exact u.slot b o q n a x
 exact⟨o.slots,u.keep b o q n a x⟩
theorem Un.kept(k:∀b u,h.get? b=gV u->h'.get? b=gV u):Un f e H H h h':=
 ⟨λb o q z z z=>k b o q,λb o q z z z=>⟨o.slots,k b o q⟩,λz z z n z=>n,λb o q z=>⟨o,k b o q⟩,λz z q=>q,λz z z q=>q,λz p q=>by simp_all⟩
theorem Un.refl:Un f e H H h h:=Un.kept λz z q=>q
theorem Un.laid(k:∀b u,h.get? b=gV u->h'.get? b=gV u)(p:h.objs.size<=a)(c:H a=NZ):Un f e H (upd H a o) h h' where
 keep:=λb u q z z z=>k b u q
 slot:=λb u q z z z=>⟨u.slots,k b u q⟩
 free:=λb u q n z=>by rwa[af<|OL<|Pf (Ov q) p]
 there:=λb u q z=>⟨u,k b u q⟩
 tups:=λb x q=>by rwa[af<|ag q c]
 frzs:=λb u x q=>by rwa[af<|ag q c]
 tbls:=λb P q=>⟨#[],by rw[af<|ag q c,q];simp⟩
theorem Un.write(m:KG (H x))(i:e=x\/H e=gV (.own x))(k:∀b u,b≠e->h.get? b=gV u->h'.get? b=gV u)(c:∃u,h'.get? e=gV u):Un F E H (upd H x o) h h':=by
 have f:∀b,H b=NZ->b≠x:=λb n z=>by subst z;rwa[n]at m
 have g:∀b,H b=NZ->b≠e:=λb n z=>by
  simp_all
 have d:∀b u,H b=gV u->¬KG (gV u)->b≠x:=λb u q N z=>by simp_all
 refine⟨λb u q n y y=>k b u (g b n) q,λb u q n y y=>⟨u.slots,k b u (g b n) q⟩,λb u q n y=>by rwa[af<|f b n],λb u q y=>?_,
  λb X q=>by rwa[af<|d b _ q λz=>z],λb u X q=>by rwa[af<|d b _ q λz=>z],λb p q=>⟨#[],by rw[af<|d b _ q λz=>z,q];simp⟩⟩
 by_cases a:b=e
 ·subst a;exact c
 exact⟨u,k b u a q⟩
noncomputable def Ms(h:Pd)(H:Hp):ab J':=(O7 h.objs.size).filter λa=>(H a).isSome
noncomputable def pL(h:Pd)(H:Hp):Pd:=PySem.W.hideAll h<|Ms h H
theorem yY(h:Pd)(H:Hp):(pL h H).objs.size=h.objs.size:=PySem.W.hideAll_size _ _
theorem AO(e:h.get? b=gV o)(n:H b=NZ):(pL h H).get? b=gV o:=
 PySem.W.hideAll_get _ e λm=>by
  have q:=(Oj.mp m).2;simp_all
theorem EV(e:(pL h H).get? b=gV o):h.get? b=gV o/\H b=none:=by
 have E:=PySem.W.of_hideAll _ e;exists E;cases q:H b with
 |none=>rfl
 |some x=>
  have m:b∈Ms h H:=Oj.mpr ⟨QU.mpr<|Ov E,by simp[q]⟩;have z:(pL h H).get? b=none:=PySem.W.hideAll_none _ m;lia
structure Mod (K:C')(mg:Str->M' NX)(base:Pd):Prop where
 kin:K.In base
 glob:base.Ns OY mg
 blt:∃mb,base.Ns T6 mb/\∀x:Str,x≠"__name__"->mb x=To x
 nolimit:base.NoLimit
structure Cx where
 prog:Om
 w:OI
 K:C'
 mg:Str->M' NX
 base:Pd
 A:PL
 N:ab Str
 s₀:Od
 H₀:Hp
 env:Env
 outer:ab Env
 stack:ab Env
 ex:ab J'
 fn:Str->N'
 calm:N'
 pn:ab (J'×Obj)
 xe:NX->Od->Prop
noncomputable def vj(l:ab Env):ab J':=l.filterMap (·.frame)
noncomputable abbrev Cx.fs(X:Cx):ab J':=vj X.outer
def Kz(s:RY)(x:Str):Prop:=s.names.lookup x=gV .local\/s.names.lookup x=gV .cell\/s.names.lookup x=gV .free
def IB(s:RY)(x:Str):Prop:=s.names.lookup x=gV .local\/s.names.lookup x=gV .cell
def MF(e:Env)(h:Pd)(m:Str->M' NX)(x:Str)(u:NX):Prop:=
 (e.kindOf x=gV .local/\m x=gV u)\/((e.kindOf x=gV .cell\/e.kindOf x=gV .free)/\∃c,e.cells.lookup x=gV c/\h.IsCell c (gV u))
structure Cx.Ok (X:Cx):Prop where
 mod:Mod X.K X.mg X.base
 kind:X.env.scope.kind=.function
 glob:X.env.globals=OY
 blt:X.env.builtins=T6
 above:X.s₀.heap.objs.size<=X.env.locals
 inj:∀x y c,X.env.cells.lookup x=gV c->X.env.cells.lookup y=gV c->x=y
 has:∀x,(X.env.kindOf x=gV .cell\/X.env.kindOf x=gV .free)->∃c,X.env.cells.lookup x=gV c
 cab:∀x c,X.fn x=NW->X.env.cells.lookup x=gV c->X.s₀.heap.objs.size<=c
 hd:X.calm=NW->X.A.handled=NZ
 frames:X.A.frames=gV X.stack
 stk:X.stack=X.outer\/(X.stack=X.env::X.outer/\X.env.frame=gV X.env.locals)
 exf:∀b∈X.ex,b≠X.env.locals/\∀x c,X.env.cells.lookup x=gV c->c≠b
 bs:∀b o,X.base.get? b=gV o->X.s₀.heap.get? b=gV o/\X.H₀ b=NZ
 bsz:X.base.objs.size<=X.s₀.heap.objs.size
 noex:∀b o,X.base.get? b=gV o->b∉X.ex
 exfs:∀b∈X.ex,b∉X.fs
 funs:X.s₀.heap.FunFrames X.base X.outer
 frf:∀b∈X.fs,X.H₀ b=NZ
structure Inv (X:Cx)(Oc:ab (J'×Obj))(σ:ab (M' V))(H:Hp)(s:Od):Prop where
 ok:X.Ok
 os:s.os=X.s₀.os
 bare:Vs s.gens
 base:Un X.fs X.ex X.H₀ H X.s₀.heap s.heap
 loc:∃m,s.heap.Ns X.env.locals m/\∀(i:Nat) (x:Str) (v:V),X.N[i]?=gV x->σ[i]?=gV (gV v)->Kz X.env.scope x->∃u,RelV v u/\MF X.env s.heap m x u
 cell:∀x c,X.env.cells.lookup x=gV c->∃v,s.heap.IsCell c v
 free:H X.env.locals=NZ
 freeC:∀x c,X.env.cells.lookup x=gV c->H c=NZ
 pin:∀p∈X.pn++Oc,s.heap.get? p.1=gV p.2/\H p.1=NZ/\p.1≠X.env.locals/\p.1∉X.fs/\∀v,p.2.data≠.cell v
 hok:HOk X.prog X.w H s.heap
 len:σ.length=X.N.length
theorem Cx.Ok.nofr{X:Cx}(O:X.Ok)(e:X.base.get? b=gV o):b∉X.fs:=λh=>by
 have:=(O.funs.mem h).1;lia
theorem Inv.bs(I:Inv X O a H s):∀b o,X.base.get? b=gV o->s.heap.get? b=gV o/\H b=none:=λb o e=>
 ⟨I.base.keep b o (I.ok.bs b o e).1 (I.ok.bs b o e).2 (I.ok.nofr e)<|I.ok.noex b o e,I.base.free b o (I.ok.bs b o e).1 (I.ok.bs b o e).2<|I.ok.noex b o e⟩
theorem Inv.bk(I:Inv X O a H s):∀b o,X.base.get? b=gV o->s.heap.get? b=gV o:=λb o e=>(I.bs b o e).1
theorem Inv.mod(I:Inv X O a H s):Mod X.K X.mg X.base:=I.ok.mod
theorem Inv.kIn(I:Inv X O a H s):X.K.In s.heap:=I.ok.mod.kin.keeps I.bk
theorem Inv.lt(I:Inv X O a H s):X.env.locals<s.heap.objs.size:=let ⟨_,h,_⟩:=I.loc;h.lt
theorem Inv.sz(I:Inv X O a H s):X.s₀.heap.objs.size<=s.heap.objs.size:=O8 I.ok.above<|OW I.lt
theorem Inv.nofs(I:Inv X O d H s){a:J'}(h:s.heap.objs.size<=a):a∉X.fs:=λb=>by
 obtain⟨z,o,c,z⟩:=I.ok.funs.mem b;exact absurd (Pf (Ov c)<|O8 I.sz h)<|QR _
theorem Inv.cne(I:Inv X O f H s):∀x c,X.env.cells.lookup x=gV c->c≠X.env.locals:=λx c e z=>by
 obtain⟨v,o,b,d⟩:=I.cell x c e;obtain⟨m,⟨g,E,p,h,a,y⟩,y⟩:=I.loc;simp_all
theorem Inv.funs(I:Inv X O q H s):s.heap.FunFrames X.base X.outer:=by
 have a:∀l,(∀b∈vj l,b∈X.fs)->X.s₀.heap.FunFrames X.base l->s.heap.FunFrames X.base l:=by
  intro l
  induction l with
  |nil=>intro y y;trivial
  |cons E r i=>
   intro f g;obtain⟨k,⟨L,o,h,n,j,m⟩,p⟩:=g;have c:=f L (by unfold vj;rw[RT,h];exact Ou);obtain⟨t,e⟩:=I.base.slot L o j (I.ok.frf L c) c λz=>I.ok.exfs L z c;exact⟨k,⟨L,_,h,n,e,m⟩,i (λb d=>f b<|by unfold vj;rw[RT,h];exact Ow _ d) p⟩
 exact a _ (λy d=>d) I.ok.funs
theorem Inv.stack(I:Inv X O a H s):s.heap.FunFrames X.base X.stack:=by
 obtain e|⟨e,h⟩:=I.ok.stk
 ·rw[e];exact I.funs
 rw[e];obtain⟨m,n,z⟩:=I.loc;exact .cons (by rw[I.ok.kind];decide) h n (WR<|O8 I.ok.bsz I.ok.above) I.funs
theorem Inv.stkSub(I:Inv X O a H s):∀b∈vj X.stack,b∈X.env.locals::X.fs:=λb h=>by
 obtain e|⟨e,f⟩:=I.ok.stk
 ·rw[e]at h;exact Ow _ h
 rw[e]at h;unfold vj at h;rwa[RT,f]at h
theorem Inv.stkFree(I:Inv X O c H s):∀b∈vj X.stack,H b=none:=λb h=>by
 obtain e|h:=Oz.mp (I.stkSub b h)
 ·rw[e];exact I.free
 obtain⟨y,o,a,y⟩:=I.ok.funs.mem h;exact I.base.free b o a (I.ok.frf b h) λz=>I.ok.exfs b z h
theorem Inv.step{g':Qs ov}{t':Nat}{d':Drawn}{ch:ab J'}(I:Inv X Y σ H s)
  (a:∀b∈ch,(b∈X.ex\/X.s₀.heap.objs.size<=b)/\b≠X.env.locals/\(∀x c,X.env.cells.lookup x=gV c->c≠b)/\∀p∈X.pn++Y,p.1≠b)
  (g:∀b o,b≠X.env.locals->b∉X.fs->b∉ch->s.heap.get? b=gV o->H b=NZ->h'.get? b=gV o)
  (ac:∀b o,b≠X.env.locals->b∈X.fs->b∉ch->s.heap.get? b=gV o->H b=NZ->∃J,h'.get? b=gV {o with slots:=J}) (f:∀b o,b∉ch->s.heap.get? b=gV o->H b=NZ->A b=NZ)
  (t:∀b o,b∉ch->s.heap.get? b=gV o->∃O,h'.get? b=gV O)
  (T:∀b j,H b=gV (.tup j)->A b=gV (.tup j)) (F:∀b o u,H b=gV (.frz o u)->A b=gV (.frz o u)) (B:∀b P,H b=gV (.tbl P)->∃M,A b=gV (.tbl<|P++M))
  (ns:∀m,s.heap.Ns X.env.locals m->h'.Ns X.env.locals m) (Q:HOk X.prog X.w A h') (hg:Vs g'):
  Inv X Y σ A {s with heap:=h',gens:=g',drawn:=d',toks:=t'}:=by
 have L:∀b o,X.s₀.heap.get? b=gV o->b≠X.env.locals:=λb o e=>OL<|Pf (Ov e) I.ok.above;have C:∀b o,X.s₀.heap.get? b=gV o->b∉X.ex->b∉ch:=λb o e h w=>by
  obtain z|z:=(a b w).1
  ·exact h z
  exact absurd (Pf (Ov e) z)<|QR _
 have D:∀x c,X.env.cells.lookup x=gV c->∀v,s.heap.IsCell c v->h'.IsCell c v:=λx c e v ⟨o,y,U⟩=>by
  have N:=λz=>(a c z).2.2.1 x c e rfl;by_cases Z:c∈X.fs
  ·obtain⟨J,q⟩:=ac c o (I.cne x c e) Z N y<|I.freeC x c e;exact⟨_,q,U⟩
  exact⟨o,g c o (I.cne x c e) Z N y<|I.freeC x c e,U⟩
 refine⟨I.ok,I.os,hg,⟨λb o e n w h=>?_,λb o e n w h=>?_,λb o e n h=>?_,λb o e h=>?_,λb j e=>T b j<|I.base.tups b j e,λb o j e=>F b o j<|I.base.frzs b o j e,λb P e=>?_⟩,?_,λx c e=>?_,?_,λx c e=>?_,λp hp=>?_,Q,I.len⟩
 ·exact g b o (L b o e) w (C b o e h) (I.base.keep b o e n w h)<|I.base.free b o e n h
 ·obtain⟨J,E⟩:=I.base.slot b o e n w h;obtain⟨W,G⟩:=ac b _ (L b o e) w (C b o e h) E<|I.base.free b o e n h;exact⟨W,G⟩
 ·obtain⟨O,E⟩:=I.base.there b o e h;exact f b O (C b o e h) E<|I.base.free b o e n h
 ·obtain⟨O,E⟩:=I.base.there b o e h;exact t b O (C b o e h) E
 ·obtain⟨m1,E⟩:=I.base.tbls b P e;grind
 ·obtain⟨m,hn,hl⟩:=I.loc;refine⟨m,ns m hn,λi x v E G e3=>?_⟩;obtain⟨u,r,l⟩:=hl i x v E G e3;exists u,r;obtain l|⟨k,c,e,z⟩:=l
  ·exact .inl l
  exact .inr ⟨k,c,e,D x c e _ z⟩
 ·obtain⟨v,z⟩:=I.cell x c e;exact⟨v,D x c e v z⟩
 ·obtain⟨m,⟨o,V,V,y,V⟩,V⟩:=I.loc;exact f _ o (λz=>(a _ z).2.1 rfl) y I.free
 ·obtain⟨v,o,y,U⟩:=I.cell x c e;exact f c o (λz=>(a c z).2.2.1 x c e rfl) y<|I.freeC x c e
 obtain⟨e,n,ne,nf,d⟩:=I.pin p hp;have N:=λz=>(a p.1 z).2.2.2 p hp rfl;exact⟨g p.1 p.2 ne nf N e n,f p.1 p.2 N e n,ne,nf,d⟩
theorem Inv.un(I:Inv X O g H s)(u:Un X.fs [] H d s.heap h')(k:HOk X.prog X.w d h'):Inv X O g d {s with heap:=h',toks:=t'}:=by
 obtain⟨m,⟨o,l,p,f,r⟩,y⟩:=id I.loc;obtain⟨q,L⟩:=u.any f I.free (by simp);exact I.step (ch:=[]) (λy z=>nomatch z) (λb o y a y e n=>u.keep b o e n a<|by simp) (λb o y a y e n=>u.slot b o e n a<|by simp) (λb o y e n=>u.free b o e n<|by simp) (λb o y e=>u.there b o e<|by simp) u.tups u.frzs u.tbls (λM i=>by
  obtain⟨t,E,c,h,j⟩:=i;rw[f]at h;cases h;exact⟨_,E,c,L,j⟩) k I.bare
theorem Inv.call{t':Nat}{d':Drawn}(I:Inv X O j H s)(u:Un (vj X.stack) ch H g s.heap h')(k:HOk X.prog X.w g h')(l:Vs g')
  (a:∀b∈ch,(b∈X.ex\/X.s₀.heap.objs.size<=b)/\b≠X.env.locals/\(∀x c,X.env.cells.lookup x=gV c->c≠b)/\∀p∈X.pn++O,p.1≠b):
  Inv X O j g {s with heap:=h',gens:=g',drawn:=d',toks:=t'}:=by
 obtain⟨m,⟨o,w,y,i,r⟩,Z⟩:=id I.loc;obtain⟨A,L⟩:=u.any i I.free λz=>(a _ z).2.1 rfl;exact I.step a (λb o L q h e n=>u.keep b o e n (λz=>(Oz.mp<|I.stkSub b z).elim L q) h) (λb o Z Z h e n=>u.any e n h) (λb o h e n=>u.free b o e n h) (λb o h e=>u.there b o e h) u.tups u.frzs u.tbls (λM t=>by
  obtain⟨B,E,f,d,v⟩:=t;rw[i]at d;cases d;exact⟨_,E,f,L,v⟩) k l
theorem Inv.turned{t':Nat}(I:Inv X O a H s)(k:∀b o,b≠i->s.heap.get? b=gV o->h'.get? b=gV o)(d:H i=NZ)(L:i≠X.env.locals)
  (f:i∈X.ex\/X.s₀.heap.objs.size<=i) (g:∀x c,X.env.cells.lookup x=gV c->c≠i) (j:∀p∈X.pn++O,p.1≠i):Inv X O a H {s with heap:=h',toks:=t'}:=by
 refine I.step (ch:=[i]) (λb l=>?_) (λb o z z h e z=>k b o (by simp_all) e) (λb o z z h e z=>⟨o.slots,k b o (by simp_all) e⟩) (λz z z z n=>n)
  (λb o h e=>⟨o,k b o (by simp_all) e⟩) (λz z e=>e) (λz z z e=>e) (λb P e=>⟨#[],by rw[e];simp⟩) (λm t=>?_) (λb u e=>?_) I.bare
 ·have e:b=i:=by simpa using l
  subst e;exact⟨f,L,g,j⟩
 ·obtain⟨o,E,w,y,r⟩:=t;exact⟨o,E,w,k _ o (P0 L) y,r⟩
 refine(I.hok b u e).stay (λc v h q=>k c v ?_ q) (λz q=>q) λz z q=>q;lia
theorem Inv.tok(I:Inv X O a H s)(t:Nat):Inv X O a H {s with toks:=t}:=I.un Un.refl I.hok
theorem Inv.kept(I:Inv X O a H s)(k:∀b u,s.heap.get? b=gV u->h'.get? b=gV u):Inv X O a H {s with heap:=h',toks:=t'}:=I.un (Un.kept k)<|I.hok.kept k
theorem Inv.laid{a:J'}{o:HO}{t':Nat}(I:Inv X O c H s)(k:∀b u,s.heap.get? b=gV u->h'.get? b=gV u)(h:s.heap.objs.size<=a)(n:ObjOk X.prog X.w (upd H a o) h' a o):
  Inv X O c (upd H a o) {s with heap:=h',toks:=t'}:=I.un (Un.laid k h<|I.hok.fresh h)<|I.hok.laid k h n
theorem Inv.write{o:HO}{t':Nat}(I:Inv X O c H s)(m:KG (H x))(a:e=x\/H e=gV (.own x))(k:∀b u,b≠e->s.heap.get? b=gV u->h'.get? b=gV u)(h:∃u,h'.get? e=gV u)
  (n:ObjOk X.prog X.w (upd H x o) h' x o):Inv X O c (upd H x o) {s with heap:=h',toks:=t'}:=I.un (Un.write m a k h)<|I.hok.write m a k h n
theorem Inv.pins_of(I:Inv X O b H s)(h:∀p∈a,s.heap.get? p.1=gV p.2/\H p.1=NZ/\p.1≠X.env.locals/\p.1∉X.fs/\∀v,p.2.data≠.cell v):Inv X a b H s:=
 ⟨I.ok,I.os,I.bare,I.base,I.loc,I.cell,I.free,I.freeC,λp c=>(Os.mp c).elim (λz=>I.pin p<|Qc _ z)<|h p,I.hok,I.len⟩
theorem tE{N:ab Str}(h:N.Nodup){i j:Nat}{x:Str}(a:N[i]?=gV x) (b:N[j]?=gV x):i=j:=by
 obtain⟨H,e⟩:=N4.mp a;obtain⟨c,E⟩:=N4.mp b;exact(Y6 h).mp<|e.trans E.symm
theorem pV{M:i0}{A:PL}{E:NX->Od->Prop}{Q:WI->Od->Prop}(I:Inv X Oc σ H s)(hN:X.N.Nodup)(N:X.N[i]?=gV x)(t:IB X.env.scope x)(r:RelV v u)
  (h:∀s',Inv X Oc (σ.set i<|gV v) H s'->(∃a,Sx a s.heap s'.heap/\(a=X.env.locals\/X.env.cells.lookup x=gV a))->Q () s') (hf:X.fn x=NW\/X.env.scope.names.lookup x=gV .local:=by first|exact .inl rfl|exact .inr rfl|assumption):wpAny M A (kS X.env x u) Q E s:=by
 obtain⟨m,hn,hl⟩:=id I.loc;have ac:(X.env.scope.kind == .class || (X.env.scope.kind == .module&&X.env.locals != X.env.globals))=false:=by rw[I.ok.kind];rfl
 have B:i<σ.length:=by rw[I.len];exact(N4.mp N).1
 have D:=I.cne;have O:∀{a:J'} {L:Pd},(∃o,s.heap.get? a=gV o/\H a=NZ)->Sx a _ L->HOk _ X.w H L:=λ{a L} ha f b ob e=>by
  refine(I.hok b ob e).stay (λc W l q=>(f.2 c ?_).trans q) (λV q=>q) λV V q=>q;lia
 obtain C|C:=t
 ·refine wpAny_storeName_local C hn (λL am f=>?_) ac;obtain⟨oL,V,V,an,V⟩:=id hn;refine h _ ⟨I.ok,I.os,I.bare,⟨λb o e n F t=>?_,λb o e n F t=>?_,I.base.free,λb o e t=>?_,I.base.tups,I.base.frzs,I.base.tbls⟩,⟨_,am,λj y v' g w e3=>?_⟩,λy c e=>?_,I.free,I.freeC,λp hp=>?_,O ⟨oL,an,I.free⟩ f,by simpa using I.len⟩ ⟨_,f,.inl rfl⟩
  ·exact(f.2 b<|OL<|Pf (Ov e) I.ok.above).trans<|I.base.keep b o e n F t
  ·obtain⟨sl,g⟩:=I.base.slot b o e n F t;exact⟨sl,(f.2 b<|OL<|Pf (Ov e) I.ok.above).trans g⟩
  ·obtain⟨o',g⟩:=I.base.there b o e t;exact⟨o',(f.2 b<|OL<|Pf (Ov e) I.ok.above).trans g⟩
  ·by_cases G:j=i
   ·subst G;rw[N]at g;cases g;rw[Wg B]at w;cases w;exact⟨u,r,.inl ⟨C,by simp⟩⟩
   rw[W5<|P0 G]at w;obtain⟨u',r',q⟩:=hl j y v' g w e3;exists u',r';obtain⟨k,e⟩|⟨k,c,e,z⟩:=q
   ·refine .inl ⟨k,?_⟩;have:y≠x:=λe=>G<|tE hN g<|e▸N;simp_all
   exact .inr ⟨k,c,e,z.sameBut f<|D y c e⟩
  ·obtain⟨W,z⟩:=I.cell y c e;exact⟨W,z.sameBut f<|D y c e⟩
  obtain⟨e,n,Y,nf,d⟩:=I.pin p hp;exact⟨(f.2 p.1 Y).trans e,n,Y,nf,d⟩
 have J:X.fn x=true:=by
  simp_all
 obtain⟨c,l⟩:=I.ok.has x<|.inl C;obtain⟨W,z⟩:=I.cell x c l;refine wpAny_storeName_cell I.ok.kind C l z λL WB f=>?_;obtain⟨oc,T,as⟩:=id z;refine h _ ⟨I.ok,I.os,I.bare,⟨λb o e n F t=>?_,λb o e n F t=>?_,I.base.free,λb o e t=>?_,I.base.tups,I.base.frzs,I.base.tbls⟩,⟨m,hn.sameBut f<|P0<|D x c l,λj y v' g w e3=>?_⟩,λy Z e=>?_,I.free,I.freeC,λp hp=>?_,O ⟨oc,T,I.freeC x c l⟩ f,by simpa using I.len⟩ ⟨c,f,.inr l⟩
 ·exact(f.2 b<|OL<|Pf (Ov e)<|I.ok.cab x c J l).trans<|I.base.keep b o e n F t
 ·obtain⟨sl,g⟩:=I.base.slot b o e n F t;exact⟨sl,(f.2 b<|OL<|Pf (Ov e)<|I.ok.cab x c J l).trans g⟩
 ·obtain⟨o',g⟩:=I.base.there b o e t;exact⟨o',(f.2 b<|OL<|Pf (Ov e)<|I.ok.cab x c J l).trans g⟩
 ·by_cases G:j=i
  ·subst G;rw[N]at g;cases g;rw[Wg B]at w;cases w;exact⟨u,r,.inr ⟨.inl C,c,l,WB⟩⟩
  rw[W5<|P0 G]at w;obtain⟨u',r',q⟩:=hl j y v' g w e3;exists u',r';obtain q|⟨k,Z,e,z'⟩:=q
  ·exact .inl q
  refine .inr ⟨k,Z,e,z'.sameBut f ?_⟩;rintro rfl;exact G<|tE hN g<|I.ok.inj _ _ _ e l▸N
 ·by_cases U:Z=c
  ·subst U;exact⟨_,WB⟩
  obtain⟨w2,z2⟩:=I.cell y Z e;exact⟨w2,z2.sameBut f U⟩
 obtain⟨e,n,Y,nf,d⟩:=I.pin p hp;refine⟨(f.2 p.1 ?_).trans e,n,Y,nf,d⟩;grind
theorem ny{M:i0}{A:PL}{E:NX->Od->Prop}{Q:WI->Od->Prop}(I:Inv X O b H s)(N:X.N.Nodup)(c:X.N[i]?=gV x)(d:IB X.env.scope x)(r:RelV v u)
  (h:∀a,Inv X O (b.set i<|gV v) H a->Q () a) (f:X.fn x=NW\/X.env.scope.names.lookup x=gV .local:=by first|exact .inl rfl|exact .inr rfl|assumption):wpAny M A (kS X.env x u) Q E s:=
 pV I N c d r (λa e z=>h a e) f
theorem Inv.call'(I:Inv X O g H s)(o:a.os=s.os)(u:Un (vj X.stack) ch H f s.heap a.heap)(h:HOk X.prog X.w f a.heap)(i:Vs a.gens)
  (d:∀b∈ch,(b∈X.ex\/X.s₀.heap.objs.size<=b)/\b≠X.env.locals/\(∀x c,X.env.cells.lookup x=gV c->c≠b)/\∀p∈X.pn++O,p.1≠b):Inv X O g f a:=by
 obtain⟨k,G,D,t,j⟩:=a;have e:=o;subst e;exact I.call u h i d
abbrev XK:=NX->M' J'->Hp->Prop
abbrev St:=ab<|M' V
abbrev VK:=V->Hp->Prop
abbrev TE:=St->Hp->VK->Prop
abbrev TT:=St->Hp->(N'->Hp->Prop)->Prop
abbrev TA:=St->Hp->(ab V->Hp->Prop)->Prop
structure jk where
 nx:St->Hp->Prop
 rt:VK
 bk:St->Hp->Prop:=λ_ _=>False
 ct:St->Hp->Prop:=λ_ _=>False
abbrev TS:=jk->St->Hp->Prop
def EP(X:Cx)(O:ab (J'×Obj))(a:St)(Q:VK)(u:NX)(s:Od):Prop:=∃v H,Inv X O a H s/\RelV v u/\Q v H
def TP(X:Cx)(O:ab (J'×Obj))(a:St)(Q:N'->Hp->Prop)(b:N')(s:Od):Prop:=∃H,Inv X O a H s/\Q b H
def AP(X:Cx)(O:ab (J'×Obj))(a:St)(Q:ab V->Hp->Prop)(u:ab NX)(s:Od):Prop:=∃v H,Inv X O a H s/\Vals v u/\Q v H
def SP(X:Cx)(O:ab (J'×Obj))(D:jk)(f:Flow)(s:Od):Prop:=
 match f with
 |.next=>∃a H,Inv X O a H s/\D.nx a H
 |.brk=>∃a H,Inv X O a H s/\D.bk a H
 |.cont=>∃a H,Inv X O a H s/\D.ct a H
 |.ret u=>∃v a H,Inv X O a H s/\RelV v u/\D.rt v H
def PE(X:Cx)(e:Px)(t:TE):Prop:=
 ∀(O:ab (J'×Obj)) (s:Od) (a:St) (H:Hp) (Q:VK),Inv X O a H s->t a H Q->wpAny (OU X.prog X.w) X.A (Qm e X.env) (EP X O a Q) X.xe s
def PT(X:Cx)(e:Px)(t:TT):Prop:=
 ∀(O:ab (J'×Obj)) (s:Od) (a:St) (H:Hp) (Q:N'->Hp->Prop),Inv X O a H s->t a H Q->wpAny (OU X.prog X.w) X.A (isTrue e X.env<|Qm e X.env) (TP X O a Q) X.xe s
def PW(X:Cx)(e:Px)(t:TT):Prop:=
 ∀(x:Sem NX) (O:ab (J'×Obj)) (s:Od) (a:St) (H:Hp) (Q:N'->Hp->Prop),Inv X O a H s->t a H Q->wpAny (OU X.prog X.w) X.A (isTrue e X.env x) (TP X O a Q) X.xe s
theorem PW.pt(h:PW X e t):PT X e t:=h _
def PA(X:Cx)(e:ab Px)(t:TA):Prop:=
 ∀(p:Pos) (O:ab (J'×Obj)) (s:Od) (a:St) (H:Hp) (Q:ab V->Hp->Prop),Inv X O a H s->t a H Q->wpAny (OU X.prog X.w) X.A (spliced<|Rc p<|OS e X.env) (AP X O a Q) X.xe s
def PS(X:Cx)(st:Pn)(t:TS):Prop:=
 ∀(O:ab (J'×Obj)) (s:Od) (a:St) (H:Hp) (D:jk),Inv X O a H s->t D a H->wpAny (OU X.prog X.w) X.A (exec st X.env) (SP X O D) X.xe s
def PSs(X:Cx)(st:ab Pn)(t:TS):Prop:=
 ∀(O:ab (J'×Obj)) (s:Od) (a:St) (H:Hp) (D:jk),Inv X O a H s->t D a H->wpAny (OU X.prog X.w) X.A (execs st X.env) (SP X O D) X.xe s
theorem bN{b:Type}{t:Sem b}{Q q:b->Od->Prop}{M:i0}{A:PL}{E:NX->Od->Prop}{s:Od}(h:wpAny M A t Q E s)(H:∀a s,Q a s->q a s):wpAny M A t q E s:=Qk h H λz z x=>x
inductive GT (i:Nat)(a:St)(H:Hp)(Q:VK):Prop
 |mk (v:V)(h:a[i]?=gV (gV v)) (q:Q v H)
def mN(i:Nat):TE:=λa H Q=>GT i a H Q
def tC(v:V):TE:=λ_ H Q=>Q v H
theorem AQ{X:Cx}{i:Nat}{x:Str}{p:Pos}(N:X.N[i]?=gV x) (j:Kz X.env.scope x) (d:(x == ("__debug__":Str))=false:=by decide) (b:(x == ("__classdict__":Str))=false:=by decide):PE X (.Name x p) (mN i):=by
 intro O s n H Q I h;obtain⟨v,e,h⟩:=h;obtain⟨m,o,q⟩:=I.loc;obtain⟨u,r,l⟩:=q i x v N e j;have f:EP X O n Q u s:=⟨v,H,I,r,h⟩;obtain⟨k,t⟩|⟨k,c,g,a⟩:=l
 ·exact ZL (WJ I.ok.kind k o t f) d
 obtain k|k:=k
 ·exact ZL (Xi I.ok.kind k g a f) d
 exact ZL (wpAny_loadName_free I.ok.kind k g a f b) d
theorem bX{i j p}:PE X (.Constant (.int i) j p) (tC<|.int i):=λz z z H z I h=>wpAny_Constant_int ⟨.int i,H,I.tok _,⟨_,rfl⟩,h⟩
theorem fm{b j p}:PE X (.Constant (.bool b) j p) (tC<|.bl b):=λz z z H z I h=>Constant_bool ⟨.bl b,H,I,rfl,h⟩
theorem fE{j p}:PE X (.Constant .none j p) (tC .non):=λz z z H z I h=>Constant_none ⟨.non,H,I,rfl,h⟩
theorem ii{x j p}:PE X (.Constant (.str x) j p) (tC<|.str x):=λz z z H z I h=>Calls.Constant_str ⟨.str x,H,I.tok _,⟨_,rfl⟩,h⟩
def Gl(X:Cx)(x:Str):Prop:=X.env.kindOf x=gV .globalImplicit
theorem mR{E:NX->Od->Prop}{p:Pos}(I:Inv X O a H s)(g:Gl X x)(m:X.mg x=gV u)(h:Q u s)
  (d:(x == ("__debug__":Str))=false:=by decide):wpAny (OU X.prog X.w) X.A (Qm (.Name x p) X.env) Q E s:=
 U2 I.ok.kind g (Calls.loadGlobal_global (by rw[I.ok.glob];exact I.mod.glob.keeps I.bk) m h) d
theorem eF{E:NX->Od->Prop}{p:Pos}(I:Inv X O c H s)(g:Gl X x)(m:X.mg x=NZ)(v:To x=gV u)(h:Q u s)
  (n:x≠"__name__":=by decide) (d:(x == ("__debug__":Str))=false:=by decide):wpAny (OU X.prog X.w) X.A (Qm (.Name x p) X.env) Q E s:=by
 obtain⟨M,a,b⟩:=I.mod.blt;exact U2 I.ok.kind g (Calls.loadGlobal_builtin (by rw[I.ok.glob];exact I.mod.glob.keeps I.bk) m (by rw[I.ok.blt];exact a.keeps I.bk) ((b x n).trans v) h) d
theorem EW(g:Gl X x)(m:X.mg x=gV u)(r:RelV v u)(d:(x == ("__debug__":Str))=false:=by decide):PE X (.Name x p) (tC v):=
 λz z z H z I h=>mR I g m ⟨v,H,I,r,h⟩ d
theorem mS{x:Str}{v:V}{u:NX}{p:Pos}(g:Gl X x)(m:X.mg x=NZ)(a:To x=gV u)(r:RelV v u)(n:x≠"__name__":=by decide)(d:(x == ("__debug__":Str))=false:=by decide):PE X (.Name x p) (tC v):=
 λz z z H z I h=>eF I g m a ⟨v,H,I,r,h⟩ n d
def PC(X:Cx)(o:Za)(a b:Px)(t:TE):Prop:=
 ∀(O:ab (J'×Obj)) (s:Od) (e:St) (H:Hp) (Q:VK),Inv X O e H s->t e H Q->
  wpAny (OU X.prog X.w) X.A (Qm a X.env) (λv c=>wpAny (OU X.prog X.w) X.A (Qm b X.env) (λu d=>wpAny (OU X.prog X.w) X.A (PX o v u) (EP X O e Q) X.xe d) X.xe c) X.xe s
inductive IC (x:V)(Q:N'->Hp->Prop)(H:Hp):Prop
 |mk (c:N')(h:x=.bl c)(q:Q c H)
def tB(t:TE):TT:=λa H Q=>t a H λx h=>IC x Q h
theorem kU(h:PC X o a b t)(e:R9 o b=false:=by first|exact nobehind _ (by decide) (by decide)|rfl):PT X (.Compare a [o] [b] p) (tB t):=by
 intro O s f H Q I w;refine Wp (bN (h O s f H _ I w) λv l e=>bN e λu m g=>bN g λc n ⟨x,i,j,r,k⟩=>?_) e;obtain⟨d,rfl,q⟩:=k;cases r;exact P4 ⟨i,j,q⟩
theorem gR(h:PE X e t)(a:∀Y,isTrue e X.env Y=(do let v <-Y;Xc e.pos;Vl [v] (truthy v)):=by intro z;rfl):PT X e (tB t):=by
 intro O s b H Q I w;refine isTrue_plain (bN (h O s b H _ I w) λv g ⟨x,c,i,r,f⟩=>?_)<|a _;obtain⟨d,rfl,q⟩:=f;cases r;exact P4 ⟨c,i,q⟩
def MG(t u:TT):TT:=λa H Q=>t a H λc h=>if c=NW then u a h Q else Q N8 h
def Nw(t u:TT):TT:=λa H Q=>t a H λc h=>if c=NW then Q NW h else u a h Q
def MH(t:TT):TT:=λa H Q=>t a H λc h=>Q (!c) h
theorem q_(b:PT X a t):PW X (.BoolOp .And [a] p) t:=by
 intro w O s d H Q I h;refine isTrue_and<|bN (b O s d H Q I h) λc f e=>?_;cases c with
 |true=>exact isTrue_and_nil e
 |false=>exact e
theorem rc(b:PT X a t):PW X (.BoolOp .Or [a] p) t:=by
 intro w O s d H Q I h;refine isTrue_or<|bN (b O s d H Q I h) λc f e=>?_;cases c with
 |false=>exact isTrue_or_nil e
 |true=>exact e
theorem re(f:PT X a T)(g:PW X (.BoolOp .And (b::r) p) t):PW X (.BoolOp .And (a::b::r) p) (MG T t):=by
 intro w O s d H Q I h;refine isTrue_and<|bN (f O s d H _ I h) λc j ⟨e,i,q⟩=>?_;cases c with
 |true=>exact g w O j d e Q i q
 |false=>assumption
theorem pW(f:PT X a T)(g:PW X (.BoolOp .Or (b::r) p) t):PW X (.BoolOp .Or (a::b::r) p) (Nw T t):=by
 intro w O s d H Q I h;refine isTrue_or<|bN (f O s d H _ I h) λc j ⟨e,i,q⟩=>?_;cases c with
 |true=>assumption
 |false=>exact g w O j d e Q i q
theorem ij(b:PT X a t):PT X (.UnaryOp .Not a p) (MH t):=by
 intro O s d H Q I h;exact isTrue_not<|b O s d H _ I h
def KH(t T:TE):TE:=λa H Q=>t a H λx h=>∃c,x=.bl c/\if c=NW then T a h Q else Q (.bl N8) h
def MJ(t T:TE):TE:=λa H Q=>t a H λx h=>∃c,x=.bl c/\if c=NW then Q (.bl NW) h else T a h Q
def KI(t:TE):TE:=λa H Q=>t a H λx h=>∃c,x=.bl c/\Q (.bl (!c)) h
theorem vk{o}(h:PE X a t):PE X (.BoolOp o [a] p) t:=λO s b H Q I w=>BoolOp_one<|h O s b H Q I w
theorem vm(f:PE X a t)(g:PE X (.BoolOp .And (b::r) p) T):PE X (.BoolOp .And (a::b::r) p) (KH t T):=by
 intro O s d H Q I h;refine BoolOp_and<|bN (f O s d H _ I h) λv j z=>?_;obtain⟨x,e,i,k,q⟩:=z;obtain⟨c,rfl,q⟩:=q;cases k;refine P4 ?_;cases c with
 |true=>exact g O j d e Q i q
 |false=>exact⟨.bl N8,e,i,rfl,q⟩
theorem KJ(f:PE X a t)(g:PE X (.BoolOp .Or (b::r) p) T):PE X (.BoolOp .Or (a::b::r) p) (MJ t T):=by
 intro O s d H Q I h;refine BoolOp_or<|bN (f O s d H _ I h) λv j z=>?_;obtain⟨x,e,i,k,q⟩:=z;obtain⟨c,rfl,q⟩:=q;cases k;refine P4 ?_;cases c with
 |false=>exact g O j d e Q i q
 |true=>exact⟨.bl NW,e,i,rfl,q⟩
theorem ID(b:PE X a t):PE X (.UnaryOp .Not a p) (KI t):=by
 intro O s d H Q I h;refine UnaryOp_<|bN (b O s d H _ I h) λv f z=>?_;obtain⟨x,e,i,r,q⟩:=z;obtain⟨c,rfl,q⟩:=q;cases r;exact not_of<|P4 ⟨.bl _,e,i,rfl,q⟩
def NN(t:TT)(T b:TE):TE:=λa H Q=>t a H λc h=>if c=NW then T a h Q else b a h Q
theorem nz(j:PT X c t)(k:PE X a T)(l:PE X b m):PE X (.IfExp c a b p) (NN t T m):=by
 intro O s e H Q I h;refine wpAny_IfExp<|bN (j O s e H _ I h) λd f z=>?_;obtain⟨g,i,q⟩:=z;cases d with
 |true=>exact k O f e g Q i q
 |false=>exact l O f e g Q i q
def SqL(K:C')(H:Hp)(a:J')(x:ab V):Prop:=
 Rd H a (.lst x)\/
  ∃(o:Obj) (P3:Qs NX) (n:Nat),K.lookup a=gV o/\o.cls=.type "list"/\o.dict=NZ/\o.data=.seq P3 n/\P3.size<=sizeLine/\Vals x P3.toList
def SqT(K:C')(H:Hp)(a:J')(x:ab V):Prop:=
 Rd H a (.tup x)\/
  ∃(o:Obj) (P3:Qs NX) (n:Nat),K.lookup a=gV o/\o.cls=.type "tuple"/\o.data=.seq P3 n/\P3.size<=sizeLine/\Vals x P3.toList
noncomputable def MK:NX->M' V
 |.none=>gV .non
 |.bool b=>gV<|.bl b
 |.int i _=>gV<|.int i
 |.str x _=>gV<|.str x
 |.bytes b _=>gV<|.byt b
 |.float b _=>gV<|.flt b
 |.ref a=>gV<|.ref a
 |.type n=>gV<|.ty n
 |_=>NZ
theorem RelV.abs(r:RelV x u):MK u=gV x:=by
 cases x with
 |non=>cases r;rfl
 |bl _=>cases r;rfl
 |int _=>obtain⟨t,rfl⟩:=r;rfl
 |str _=>obtain⟨t,rfl⟩:=r;rfl
 |byt _=>obtain⟨t,rfl⟩:=r;rfl
 |flt _=>obtain⟨t,rfl⟩:=r;rfl
 |ref _=>cases r;rfl
 |ty _=>cases r;rfl
theorem RelV.inj(r:RelV x u)(q:RelV y u):x=y:=OA<|r.abs.symm.trans q.abs
theorem Vals.inj:∀{x y:ab V} {u:ab NX},Vals x u->Vals y u->x=y:=by
 intro x y u h H;induction h generalizing y with
 |nil=>cases H;rfl
 |cons r t i=>
  cases H with
  |cons a T=>rw[r.inj a,i T]
theorem SqL.of{K:C'}(h:H a=gV (.lst x)):SqL K H a x:=.inl<|.inl h
theorem SqT.of{K:C'}(h:H a=gV (.tup x)):SqT K H a x:=.inl<|.inl h
theorem Inv.list(I:Inv X O f H s)(h:SqL X.K H a x):∃P,Vals x P/\PlainL s.heap a P.toArray/\x.length<=sizeLine:=by
 obtain h|⟨o,P,n,k,c,d,b,g,r⟩:=h
 ·obtain⟨z,P,n,r,e⟩:=h.ok I.hok;exact⟨P,r,⟨_,n,e,rfl,rfl,rfl⟩,z⟩
 exists P.toList,r,⟨o,n,I.kIn a o k,c,d,by assumption⟩;have e:=r.length;simp_all
theorem Inv.tuple(I:Inv X O d H s)(h:SqT X.K H a x):∃P,Vals x P/\PyProof.Rows.IsTup s.heap a P.toArray/\x.length<=sizeLine:=by
 obtain h|⟨o,P,n,k,c,b,f,r⟩:=h
 ·obtain⟨z,P,r,p⟩:=h.ok I.hok;exact⟨P,r,p,z⟩
 exists P.toList,r,⟨o,I.kIn a o k,c,n,by assumption⟩;have e:=r.length;simp_all
theorem Inv.list_inj(I:Inv X O f H s)(h:SqL X.K H a x)(h':SqL X.K H a y):x=y:=by
 obtain⟨P,r,⟨o,n,e,z,z,d⟩,z⟩:=I.list h;obtain⟨i,b,⟨g,N,E,z,z,D⟩,z⟩:=I.list h';rw[e]at E;cases E;rw[d]at D;injection D with c _;have:P=i:=by simpa using O1 YG c
 subst this;exact r.inj b
theorem Inv.tuple_inj(I:Inv X O f H s)(h:SqT X.K H a x)(h':SqT X.K H a y):x=y:=by
 obtain⟨P,r,⟨o,e,z,n,d⟩,z⟩:=I.tuple h;obtain⟨i,b,⟨g,E,z,N,D⟩,z⟩:=I.tuple h';rw[e]at E;cases E;rw[d]at D;injection D with c _;have:P=i:=by simpa using O1 YG c
 subst this;exact r.inj b
noncomputable abbrev Cx.wish(X:Cx)(E:NX->Od->Prop):Cx:={X with xe:=E}
noncomputable abbrev Cx.nox(X:Cx):Cx:=X.wish λ_ _=>False
theorem Cx.Ok.wish{X:Cx}(o:X.Ok)(E:NX->Od->Prop):(X.wish E).Ok:=
 ⟨o.mod,o.kind,o.glob,o.blt,o.above,o.inj,o.has,o.cab,o.hd,o.frames,o.stk,o.exf,o.bs,o.bsz,o.noex,o.exfs,o.funs,o.frf⟩
theorem Cx.Ok.unwish{X:Cx}{E:NX->Od->Prop}(o:(X.wish E).Ok):X.Ok:=
 ⟨o.mod,o.kind,o.glob,o.blt,o.above,o.inj,o.has,o.cab,o.hd,o.frames,o.stk,o.exf,o.bs,o.bsz,o.noex,o.exfs,o.funs,o.frf⟩
theorem Inv.wish(I:Inv X O a H s)(E:NX->Od->Prop):Inv (X.wish E) O a H s:=⟨I.ok.wish E,I.os,I.bare,I.base,I.loc,I.cell,I.free,I.freeC,I.pin,I.hok,I.len⟩
theorem Inv.unwish(I:Inv (X.wish E) O a H s):Inv X O a H s:=⟨I.ok.unwish,I.os,I.bare,I.base,I.loc,I.cell,I.free,I.freeC,I.pin,I.hok,I.len⟩
theorem SP.unwish(h:SP (X.wish E) O D f s):SP X O D f s:=by
 cases f with
 |next=>obtain⟨a,H,I,q⟩:=h;exact⟨a,H,I.unwish,q⟩
 |brk=>obtain⟨a,H,I,q⟩:=h;exact⟨a,H,I.unwish,q⟩
 |cont=>obtain⟨a,H,I,q⟩:=h;exact⟨a,H,I.unwish,q⟩
 |ret u=>obtain⟨v,a,H,I,r,q⟩:=h;exact⟨v,a,H,I.unwish,r,q⟩
theorem PSs.nox{st:ab Pn}{t:TS}(h:PSs X.nox st t):PSs X st t:=λO s a H D I w=>
 Qk (h O s a H D (I.wish _) w) (λy y q=>q.unwish) λy y z=>P2 z
section
variable {X:Cx}{st:Pn}{t:TS}
def AR:TS:=λD a H=>D.nx a H
def rf(t u:TS):TS:=λD a H=>t {D with nx:=u D} a H
theorem ax:PSs X [] AR:=λz z a H z I h=>Ut ⟨a,H,I,h⟩
theorem ae{r:ab Pn}{u:TS}(b:PS X st t)(c:PSs X r u):PSs X (st::r) (rf t u):=by
 intro O s d H D I h;refine YM<|bN (b O s d H _ I h) λf e q=>?_;cases f with
 |next=>
  obtain⟨a,g,i,q⟩:=q;exact c O e a g D i q
 |ret v=>exact q
 |brk=>exact q
 |cont=>exact q
theorem ar(a:PS X st t):PSs X [st] t:=by
 intro O s b H D I h;refine YM<|bN (a O s b H D I h) λf c q=>?_;cases f with
 |next=>exact Ut q
 |ret v=>exact q
 |brk=>exact q
 |cont=>exact q
theorem EX:PS X (.Pass p) AR:=λz z a H z I h=>wpAny_Pass ⟨a,H,I,h⟩
theorem Inv.quiet(I:Inv X O a H s):interactive X.env=false:=by simp[interactive,I.ok.kind]
def GU(T:TE):TS:=λD a H=>T a H λ_ h=>D.nx a h
theorem dm(b:PE X e T)(c:UQ e NZ p.line X.env=pure false:=by rfl):PS X (.Expr e p) (GU T):=by
 intro O s a H D I h;exact wpAny_Expr_any (bN (b O s a H _ I h) (by rintro v f ⟨x,d,i,r,q⟩;exact ⟨a,d,i,q⟩)) I.quiet c
def EY(T:TE):TS:=λD a H=>T a H D.rt
theorem IE(b:PE X e T):PS X (.Return (gV e) p) (EY T):=by
 intro O s a H D I h;exact wpAny_Return_some<|bN (b O s a H _ I h) (by rintro v d ⟨x,c,i,r,q⟩;exact ⟨x,a,c,i,r,q⟩)
def KK:TS:=λD _ H=>D.rt .non H
theorem EZ:PS X (.Return NZ p) KK:=λz z a H z I h=>wpAny_Return_none ⟨.non,a,H,I,rfl,h⟩
def IF(c:TT)(t u:TS):TS:=λD a H=>c a H λb h=>if b=NW then t D a h else u D a h
theorem aQ(j:PT X c T)(k:PSs X a t)(l:PSs X b u):PS X (.If c a b p) (IF T t u):=by
 intro O s e H D I h;refine wpAny_If<|bN (j O s e H _ I h) λd f z=>?_;obtain⟨g,i,q⟩:=z;cases d with
 |true=>exact k O f e g D i q
 |false=>exact l O f e g D i q
def IG:TS:=λ_ _ _=>False
theorem fF:PS X st IG:=λz z z z z z h=>h.elim
end
abbrev TG:=V->St->Hp->(St->Hp->Prop)->Prop
abbrev GV:=ab V->St->Hp->(St->Hp->Prop)->Prop
def PG(X:Cx)(r:Px)(t:TG):Prop:=
 ∀(O:ab (J'×Obj)) (s:Od) (b:St) (H:Hp) (v:V) (u:NX) (Q:St->Hp->Prop),Inv X O b H s->RelV v u->t v b H Q->
  wpAny (OU X.prog X.w) X.A (YO r X.env u) (λ_ c=>∃a h,Inv X O a h c/\Q a h) X.xe s
def IH(X:Cx)(T:ab Px)(t:GV):Prop:=
 ∀(O:ab (J'×Obj)) (s:Od) (b:St) (H:Hp) (v:ab V) (u:ab NX) (Q:St->Hp->Prop),Inv X O b H s->Vals v u->t v b H Q->
  wpAny (OU X.prog X.w) X.A (assignInOrder ((S7 T X.env).map (·.2)) u) (λ_ c=>∃a h,Inv X O a h c/\Q a h) X.xe s
abbrev Mt:=V->V->Hp->VK->Prop
def Ny(X:Cx)(o:Q')(t:Mt):Prop:=
 ∀(O:ab (J'×Obj)) (s:Od) (a:St) (H:Hp) (x y:V) (v u:NX) (Q:VK),Inv X O a H s->RelV x v->RelV y u->t x y H Q->
  wpAny (OU X.prog X.w) X.A (inplaceOp o v u) (EP X O a Q) X.xe s
section
variable {X:Cx}{pos:Pos}
def dF(i:Nat):TG:=λv a H Q=>Q (a.set i<|gV v) H
theorem iP(N:X.N.Nodup)(a:X.N[i]?=gV x)(b:IB X.env.scope x)(f:X.fn x=NW\/X.env.scope.names.lookup x=gV .local:=by first|exact .inl rfl|exact .inr rfl|assumption):PG X (.Name x pos) (dF i):=by
 intro O s d H v u Q I r h;exact Yk<|ny I N a b r (λe c=>⟨_,H,c,h⟩) f
def ML:GV:=λv a H Q=>v=[]/\Q a H
def KL(t:TG)(u:GV):GV:=λs b H Q=>∃v r,s=v::r/\t v b H λa h=>u r a h Q
theorem xh:IH X [] ML:=by
 intro O s a H v u Q I r h;obtain⟨e,h⟩:=h;exact assignInOrder_nil ⟨a,H,I,h⟩
theorem nA(b:PG X e t)(c:IH X E u)
  (d:(S7 (e::E) X.env).map (·.2)=YO e X.env::(S7 E X.env).map (·.2):=by rfl):IH X (e::E) (KL t u):=by
 intro O s f H m U Q I r h;obtain⟨v,n,g,h⟩:=h;subst g;cases r with
 |cons r i=>
  rw[d];exact assignInOrder_cons<|bN (b O s f H _ _ _ I r h) (by rintro z j ⟨a,k,l,q⟩;exact c O j a k _ _ Q l i q)
def KM(K:C')(n:Nat)(t:GV):TG:=λv b H Q=>∃a x,v=.ref a/\SqT K H a x/\x.length=n/\t x b H Q
theorem AS{k:Nat}{n:Nat}(g:X.calm=NW)(h:IH X E t)
  (i:(S7 E X.env).length=n:=by rfl) (c:(S7 E X.env).findIdx? (·.1)=none:=by rfl):PG X (.Tuple E k pos) (KM X.K n t):=by
 intro O s d H v u Q I r w;obtain⟨a,x,j,q,l,w⟩:=w;subst j;cases r;obtain⟨P,f,m,A⟩:=I.tuple q;refine assign_Tuple_tuple (I.ok.hd g) m (by simp[i,<-l,f.length]) c λp y=>?_;have z:Inv X O d H {s with heap:=p}:=I.kept λb o e=>y b o (OL<|Ov e) e;exact h O _ d H x _ Q z (by assumption) w
def II(t:TE)(g:TG):TS:=λD a H=>t a H λx h=>g x a h D.nx
theorem AT(b:PE X e T)(c:PG X t g)(d:swapsWithSole [t] e pos.line X.env=pure false:=by rfl)(w:swappedStores [t] e X.env=pure none:=by rfl)
  (f:(S7 [t] X.env).map (·.2)=[YO t X.env]:=by rfl):PS X (.Assign [t] e pos) (II T g):=by
 intro O s a H D I h;refine wpAny_Assign_stores (bN (b O s a H _ I h) λv i z=>?_) d w;obtain⟨x,j,k,r,Q⟩:=z;rw[f];exact bN (c O i a j x v _ k r Q) λy l q=>q
theorem IJ(N:X.N.Nodup)(a:X.N[i]?=gV x)(b:IB X.env.scope x)(c:PE X e t)(d:UQ e (gV<|.Name x T) pos.line X.env=pure false:=by rfl)(f:X.fn x=NW\/X.env.scope.names.lookup x=gV .local:=by first|exact .inl rfl|exact .inr rfl|assumption):
  PS X (.Assign [.Name x T] e pos) (II t<|dF i):=by
 intro O s g H D I h;exact wpAny_Assign_Name (bN (c O s g H _ I h) (by rintro v m ⟨y,j,k,r,q⟩;exact ny k N a b r (λn l=>⟨_,j,l,q⟩) f)) d
def MM(i:Nat)(t:TE)(T:Mt):TS:=λD a H=>∃x,a[i]?=gV (gV x)/\t a H λy h=>T x y h λz b=>D.nx (a.set i<|gV z) b
theorem IK{T:Pos}(N:X.N.Nodup)(j:X.N[i]?=gV x)(f:IB X.env.scope x)(p:PE X e t)(q:Ny X o B)(C:X.fn x=NW\/X.env.scope.names.lookup x=gV .local:=by first|exact .inl rfl|exact .inr rfl|assumption):
  PS X (.AugAssign (.Name x T) o e pos) (MM i t B):=by
 intro O s n H D I h;obtain⟨v,E,h⟩:=h;obtain⟨m,F,G⟩:=I.loc;have g:Kz X.env.scope x:=by obtain k|k:=f;exact .inl k;exact .inr<|.inl k
 obtain⟨u,r,l⟩:=G i x v j E g;refine wpAny_AugAssign_Name ?_;have go:wpAny (OU _ X.w) X.A (Qm e _) (λw b=>wpAny (OU _ X.w) X.A _ (λr d=>wpAny (OU X.prog X.w) X.A (kS _ x r) (λ_=>SP X O D .next) X.xe d) _ b) _ s:=bN (p O s n H _ I h) (by rintro w J ⟨y,L,M,P,Q⟩;exact bN (q O J n L v y u w _ M r P Q) (by rintro z s2 ⟨zv,U,W,Y,Z⟩;exact ny W N j f Y (λs3 I3=>⟨_,U,I3,Z⟩) C))
 obtain⟨a,hm⟩|⟨a,c,hc,A⟩:=l
 ·exact WJ I.ok.kind a F hm go
 obtain a|a:=a
 ·exact Xi I.ok.kind a hc A go
 obtain k|k:=f
 ·have:X.env.scope.names.lookup x=gV _:=a;rw[k]at this;cases this
 have:X.env.scope.names.lookup x=gV _:=a;rw[k]at this;cases this
def NO(f:Int->Int->Int):Mt:=λx y H Q=>∃i j,x=.int i/\y=.int j/\Q (.int<|f i j) H
theorem IL:Ny X .Add (NO λi j=>i+j):=by
 intro O s b H x y v u Q I r a h;obtain⟨i,j,e,E,q⟩:=h;subst e;subst E;obtain⟨t,rfl⟩:=r;obtain⟨T,rfl⟩:=a;exact iadd_int ⟨.int _,H,I.tok _,⟨_,rfl⟩,q⟩
end
def IM(c:TT)(t:TS):TS:=λD a H=>∃W:Nat->St->Hp->Prop,(∃m,W m a H)/\∀m a H,W m a H->
 c a H λb h=>if b=NW then∃N:St->Hp->Prop,(∀d e,N d e->∃M,M<m/\W M d e)/\t {D with nx:=N,ct:=N,bk:=D.nx} a h else D.nx a h
theorem jM(p:kH (OU X.prog X.w) X.A X.env X.xe)(x:PT X c T)(y:PSs X B z):PS X (.While c B [] P) (IM T z):=by
 intro O s C H D I h;obtain⟨W,⟨M,E⟩,A⟩:=h;refine wpAny_While<|codeAny_whileLoop (λn F=>∃e l,Inv X O e l F/\W n e l) ?_ M ⟨C,H,I,E⟩;rintro n G ⟨d,o,J,L⟩;refine Ry p<|bN (x O G d o _ J<|A n d o L) λb U Z=>?_;obtain⟨r,t,q⟩:=Z;cases b with
 |true=>
  obtain⟨N,u,q⟩:=q;refine Ry p<|bN (y O U d r _ t q) λf Y Q=>?_;cases f with
  |next=>
   obtain⟨a,g,i,j⟩:=Q;obtain⟨m,k,w⟩:=u a g j;exact⟨m,k,a,g,i,w⟩
  |cont=>
   obtain⟨a,g,i,j⟩:=Q;obtain⟨m,k,w⟩:=u a g j;exact⟨m,k,a,g,i,w⟩
  |brk=>exact Q
  |ret v=>exact Q
 |false=>
  exact Ut ⟨d,r,t,q⟩
structure It where
 go:Nat->Hp->Prop
 yld:Nat->Hp->V->Hp->Prop
 stop:Nat->Hp->Prop
def pM(X:Cx)(O:ab (J'×Obj))(H:Hp)(b:J'):Prop:=
 H b=NZ/\b≠X.env.locals/\b∉X.fs/\(b∈X.ex\/X.s₀.heap.objs.size<=b)/\(∀x c,X.env.cells.lookup x=gV c->c≠b)/\∀p∈X.pn++O,p.1≠b
theorem Inv.fpOk{X:Cx}{O:ab (J'×Obj)}{d:St}{H a:Hp}{s:Od}{b:J'}(I:Inv X O d H s)(h:s.heap.objs.size<=b)(n:a b=NZ):pM X O a b:=by
 refine⟨n,R1<|Pf I.lt h,I.nofs h,.inr<|O8 I.sz h,λx c e z=>?_,λp f z=>?_⟩
 ·obtain⟨v,q⟩:=I.cell x c e;exact absurd (Pf q.lt<|by rwa[z])<|QR _
 exact absurd (Pf (Ov (I.pin p f).1)<|by rwa[z])<|QR _
structure vn (P:Om)(w:OI)(K:C')(tg:Px)(J:It)(fp:ab J')(it:J')(tn:Nat->Pd->Prop):Prop where
 mem:it∈fp
 obj:∀i h,tn i h->∀b∈fp,∃o,h.get? b=gV o/\∀v,o.data≠.cell v
 keep:∀i h h',tn i h->(∀b∈fp,∀o,h.get? b=gV o->h'.get? b=gV o)->tn i h'
 item:∀(X:Cx),X.prog=P->X.w=w->X.K=K->X.calm=NW->∀(i:Nat) (Oc:ab (J'×Obj)) (s:Od) (σ:St) (H:Hp) (E:NX->Od->Prop),Inv X Oc σ H s->(∀b∈fp,pM X Oc H b)->tn i s.heap->J.go i H->
  wpAny (OU P w) X.A (XC<|.ref it) (λr s1=>∃u,r=gV u/\
   wpAny (OU P w) X.A (Uu tg (.ref it) u) (λ_ s2=>∃x H',Inv X Oc σ H' s2/\RelV x u/\J.yld i H x H'/\tn (i+1) s2.heap/\∀b∈fp,H' b=NZ) E s1) E s
 done:∀(X:Cx),X.prog=P->X.w=w->X.K=K->X.calm=NW->∀(i:Nat) (Oc:ab (J'×Obj)) (s:Od) (σ:St) (H:Hp) (E:NX->Od->Prop),Inv X Oc σ H s->(∀b∈fp,pM X Oc H b)->tn i s.heap->J.stop i H->
  wpAny (OU P w) X.A (XC<|.ref it) (λr s1=>r=NZ/\Inv X Oc σ H s1) E s
 self:∀(A:PL) (i:Nat) (s:Od) (Q:NX->Od->Prop) (E:NX->Od->Prop),tn i s.heap->Q (.ref it) s->wpAny (OU P w) A (ZO<|.ref it) Q E s
abbrev TI:=St->Hp->(It->Hp->Prop)->Prop
def MN(X:Cx)(O:ab (J'×Obj))(a:St)(T:Px)(R:It->Hp->Prop)(i:NX)(s:Od):Prop:=
 ∃(I:J') (f:ab J') (t:Nat->Pd->Prop) (J:It) (H:Hp),i=.ref I/\Inv X O a H s/\vn X.prog X.w X.K T J f I t/\t 0 s.heap/\(∀b∈f,pM X O H b)/\R J H
def PI(X:Cx)(t u:Px)(w:TI):Prop:=
 ∀(O:ab (J'×Obj)) (s:Od) (a:St) (H:Hp) (R:It->Hp->Prop),Inv X O a H s->w a H R->
  wpAny (OU X.prog X.w) X.A (Qm u X.env) (λv b=>wpAny (OU X.prog X.w) X.A (ZO v) (MN X O a t R) X.xe b) X.xe s
theorem xi{M:i0}{A:PL}{E:NX->Od->Prop}{t:Px}{u:NX}{Q:WI->Od->Prop}(a:s.heap.get? i=gV o)(c:o.cls=.type n)(d:o.data=.fields v)
  (b:["enumerate","zip","dict_itemiterator","dict_reverseitemiterator","odict_iterator","itertools.zip_longest","itertools.pairwise"].contains n=N8) (H:Q () s):wpAny M A (Uu t (.ref i) u) Q E s:=by
 cases t<;>first
  |exact Oq H
  |(cases u<;>first
    |exact Oq H
    |(refine Oa<|wpAny_load a ?_
      rw[c,d];show wpAny M A (if(["enumerate","zip","dict_itemiterator","dict_reverseitemiterator","odict_iterator","itertools.zip_longest","itertools.pairwise"].contains n&&v[0]? == gV _)=NW then _ else _) Q E s
      rw[Oo<|by intro h;rw[b]at h;cases h];exact Oq H))
noncomputable def AM(K:C')(a:J'):It:=
 ⟨λi H=>∃X x,SqL K H a X/\X[i]?=gV x,λi H x h=>h=H/\∀X,SqL K H a X->X[i]?=gV x,λi H=>∃X,SqL K H a X/\X.length<=i⟩
noncomputable def GW(K:C')(a:J'):It:=
 ⟨λi H=>∃X x,SqT K H a X/\X[i]?=gV x,λi H x h=>h=H/\∀X,SqT K H a X->X[i]?=gV x,λi H=>∃X,SqT K H a X/\X.length<=i⟩
noncomputable def E1(lo:Int)(n:Nat):It:=⟨λi _=>i<n,λi H x h=>h=H/\x=.int (lo+i),λi _=>n<=i⟩
theorem yZ{P:Om}{w:OI}{K:C'}{T:Px}(a t:J'):vn P w K T (AM K a) [t] t (λi h=>h.IsListIter t a i) where
 mem:=by simp
 obj:=λi h st b f=>by
  have e:b=t:=by simpa using f
  subst e;obtain⟨o,e,c,d⟩:=st;exact⟨o,e,λv z=>by lia⟩
 keep:=λi h g st k=>st.at λo e=>k t (by simp) o e
 item:=by
  intro X l m n J i O s L H E I j st r;subst l m n;obtain⟨M,x,q,y⟩:=r;obtain⟨N,A,p,U⟩:=I.list q;obtain⟨u,W,Y⟩:=A.get y;obtain⟨F,B,Z,C,D,G⟩:=j t (by simp);refine wpAny_pyNext_list_item st p.isList (x:=u) (by simp_all) λg Q sb=>?_;have I1:Inv X O L H {s with heap:=g}:=I.turned (λb o f e=>(sb.2 b f).trans e) F B C D G;obtain⟨o,e,c,d⟩:=id Q;exact⟨u,rfl,xi e c d (by rfl) ⟨x,H,I1,Y,⟨rfl,λys hy=>by rwa[I.list_inj hy q]⟩,Q,λb f=>(j b f).1⟩⟩
 done:=by
  intro X l m n J i O s L H E I j st r;subst l m n;obtain⟨M,q,y⟩:=r;obtain⟨N,A,p,U⟩:=I.list q;obtain⟨F,B,Z,C,D,G⟩:=j t (by simp);have hl:=A.length;exact wpAny_pyNext_list_end (I.ok.hd J) st p.isList (by simp;simp_all) λg eb=>⟨rfl,I.turned (λb o f e=>eb b o f e) F B C D G⟩
 self:=λV V V V V st h=>wpAny_pyIter_listiter st h
theorem vo{P:Om}{w:OI}{K:C'}{T:Px}(a t:J'):vn P w K T (GW K a) [t] t (λi h=>h.IsTupleIter t a i) where
 mem:=by simp
 obj:=λi h st b f=>by
  have e:b=t:=by simpa using f
  subst e;obtain⟨o,e,c,d⟩:=st;exact⟨o,e,λv z=>by lia⟩
 keep:=λi h g st k=>st.at λo e=>k t (by simp) o e
 item:=by
  intro X l m n L i O s M H E I j st r;subst l m n;obtain⟨N,x,q,y⟩:=r;obtain⟨A,B,p,U⟩:=I.tuple q;obtain⟨u,W,Y⟩:=B.get y;obtain⟨F,C,Z,D,G,J⟩:=j t (by simp);refine wpAny_pyNext_tuple_item st (p) (x:=u) (by simp_all) λg Q sb=>?_;have I1:Inv X O M H {s with heap:=g}:=I.turned (λb o f e=>(sb.2 b f).trans e) F C D G J;obtain⟨o,e,c,d⟩:=id Q;exact⟨u,rfl,xi e c d (by rfl) ⟨x,H,I1,Y,⟨rfl,λys hy=>by rwa[I.tuple_inj hy q]⟩,Q,λb f=>(j b f).1⟩⟩
 done:=by
  intro X l m n L i O s M H E I j st r;subst l m n;obtain⟨N,q,y⟩:=r;obtain⟨A,B,p,U⟩:=I.tuple q;obtain⟨F,C,Z,D,G,J⟩:=j t (by simp);have hl:=B.length;exact wpAny_pyNext_tuple_end (I.ok.hd L) st (p) (by simp;simp_all) λg eb=>⟨rfl,I.turned (λb o f e=>eb b o f e) F C D G J⟩
 self:=λV V V V V st h=>wpAny_pyIter_tupleiter st h
theorem vp{P:Om}{w:OI}{K:C'}{A:Px}(a:J')(lo:Int)(n:Nat):vn P w K A (E1 lo n) [a] a (λi h=>WQ h a (lo+(i:Nat)*1) ((n:Int)-(i:Nat)) 1) where
 mem:=by simp
 obj:=λi h st b c=>by
  have e:b=a:=by simpa using c
  subst e;exact⟨_,st,λv z=>by
   have Z:=z;cases Z⟩
 keep:=λi h d st k=>k a (by simp) _ st
 item:=by
  intro X g j l m i O s y H E I f st p;subst g j l;obtain⟨F,q,B,r,u,x⟩:=f a (by simp);have W:=nk (prog:=X.prog) (w:=X.w) (I.ok.hd m) a lo 1 n;refine W.item i s _ _ p st λv d T C Q D=>?_;obtain⟨t,rfl⟩:=C;have G:Inv X O y H {s with heap:=d,toks:=T}:=I.turned (λb o c e=>D b o (by simpa using c) e) F q r u x;refine⟨_,rfl,xi Q rfl rfl (by rfl) ⟨.int<|lo+i,H,G,⟨t,?_⟩,⟨rfl,rfl⟩,Q,λb c=>(f b c).1⟩⟩;rw[Zc]
 done:=by
  intro X g j l m i O s y H E I f st p;obtain⟨F,q,B,r,u,x⟩:=f a (by simp);exact V3 (I.ok.hd m) st (by have:n<=i:=p;lia) λd J=>⟨rfl,I.turned (λb o c e=>J b o c e) F q r u x⟩
 self:=λY Y Y Y Y st h=>V4 st h
inductive KN (K:C')(x:V)(H:Hp)(R:It->Hp->Prop):Prop
 |mk (a:J')(h:x=.ref a)(e:∃xs,SqL K H a xs)(r:R (AM K a) H)
inductive KO (K:C')(x:V)(H:Hp)(R:It->Hp->Prop):Prop
 |mk (a:J')(h:x=.ref a)(e:∃xs,SqT K H a xs)(r:R (GW K a) H)
def KP(K:C')(t:TE):TI:=λa H R=>t a H λx h=>KN K x h R
def KQ(K:C')(t:TE):TI:=λa H R=>t a H λx h=>KO K x h R
theorem aD(d:PE X l t):PI X T l (KP X.K t):=by
 intro O s f H R I h;refine bN (d O s f H _ I h) λv c y=>?_;obtain⟨x,g,i,r,Q⟩:=y;obtain⟨a,e,⟨m,j⟩,q⟩:=Q;subst e;cases r;obtain⟨P,n,p,z⟩:=i.list j;refine Tj p.isList<|⟨c.heap.objs.size,[c.heap.objs.size],_,_,g,rfl,i.kept λb o e=>Oe _ e,yZ a _,⟨_,OX _ rfl,rfl,rfl⟩,λb k=>?_,q⟩;have e:b=c.heap.objs.size:=by simpa using k
 subst e;exact i.fpOk (N9 _)<|i.hok.fresh<|N9 _
theorem bA(d:PE X l t):PI X T l (KQ X.K t):=by
 intro O s f H R I h;refine bN (d O s f H _ I h) λv c y=>?_;obtain⟨x,g,i,r,Q⟩:=y;obtain⟨a,e,⟨m,j⟩,q⟩:=Q;subst e;cases r;obtain⟨P,n,p,z⟩:=i.tuple j;refine wpAny_pyIter_tuple ‹_›<|⟨c.heap.objs.size,[c.heap.objs.size],_,_,g,rfl,i.kept λb o e=>Oe _ e,vo a _,⟨_,OX _ rfl,rfl,rfl⟩,λb k=>?_,q⟩;have e:b=c.heap.objs.size:=by simpa using k
 subst e;exact i.fpOk (N9 _)<|i.hok.fresh<|N9 _
theorem tF{O:ab (J'×Obj)}{a:St}{H:Hp}{s:Od}{R:It->Hp->Prop}{E:NX->Od->Prop}{lo h:Int}{t u v:Tok}{T:Nat}(I:Inv X O a H s)(c:-(2^62)<=lo)(d:lo<2^62)(f:-(2^62)<=h)(g:h<2^62)
  (q:R (E1 lo (h-lo).toNat) H):wpAny (OU X.prog X.w) X.A (ZO<|.ref s.heap.objs.size) (MN X O a m R) E {s with heap:=s.heap.push {cls:=.type "range",data:=.fields #[.int lo t,.int h u,.int 1 v]},toks:=T}:=by
 refine XA (Y_ ..) (small_one c d f g) ?_;have i:Inv X O a H {s with heap:=s.heap.push {cls:=.type "range",data:=.fields #[.int lo t,.int h u,.int 1 v]},toks:=T}:=I.kept λb o e=>Oe _ e;refine⟨(s.heap.push _).objs.size,[(s.heap.push _).objs.size],_,_,H,rfl,
  i.kept λb o e=>Oe _ e,vp _ lo _,?_,λb j=>?_,q⟩
 ·have k:lo+((0:Nat))*1=lo:=by simp
  have l:(((h-lo).toNat))-((0:Nat))=VT lo h 1:=by rw[rangeSize_one];grind
  show WQ _ _ _ ((((h-lo).toNat))-((0:Nat))) 1
  rw[k,l];exact OX _ rfl
 have e:b=(s.heap.push {cls:=.type "range",data:=.fields #[.int lo t,.int h u,.int 1 v]}).objs.size:=by simpa using j
 subst e;exact i.fpOk (N9 _)<|i.hok.fresh<|N9 _
def KR(t:TA):TI:=λa H R=>t a H λv h=>∃j:Int,v=[.int j]/\ -(2^62)<=j/\j<2^62/\R (E1 0 j.toNat) h
def KS(t:TA):TI:=λa H R=>t a H λv h=>∃i j:Int,v=[.int i,.int j]/\(-(2^62)<=i/\i<2^62/\ -(2^62)<=j/\j<2^62)/\R (E1 i (j-i).toNat) h
theorem y6(g:Gl X "range")(m:X.mg "range"=NZ)(b:PA X [a] T)(c:OS [a] X.env=[(N8,Qm a X.env)]:=by rfl):PI X n (.Call (.Name "range" p) [a] [] P) (KR T):=by
 intro O s d H R I h;refine Call_<|eF I g m XT<|PY (bN (b P O s d H _ I h) λu o z=>?_) c rfl;obtain⟨v,w,i,f,Q⟩:=z;obtain⟨j,e,Q,k,q⟩:=Q;subst e;cases f with
 |cons r l=>
  cases l;obtain⟨t,rfl⟩:=r;exact call_range_1 (tF i (by simp) (by simp) Q k<|by simp_all)
theorem pX{X:Cx}{T:Px}{p P:Pos}(g:Gl X "range")(m:X.mg "range"=NZ)(d:PA X [a,b] f)(k:OS [a,b] X.env=[(N8,Qm a X.env),(N8,Qm b X.env)]:=by rfl)(Z:OS [b] X.env=[(N8,Qm b X.env)]:=by rfl):
  PI X T (.Call (.Name "range" p) [a,b] [] P) (KS f):=by
 intro O s l H R I h;refine Call_ (eF I g m XT<|PY (bN (d P O s l H _ I h) λU y Y=>?_) (by rw[k,Z])<|by rw[Z];rfl);obtain⟨z,A,n,o,Q⟩:=Y;obtain⟨i,j,e,⟨Q,u,v,w⟩,q⟩:=Q;subst e;cases o with
 |cons r c=>
  cases c with
  |cons x c=>
   cases c;obtain⟨t,rfl⟩:=r;obtain⟨B,rfl⟩:=x;exact call_range_2<|tF n Q u v w q
def KU(w:TI)(g:TG)(t:TS):TS:=λD a H=>w a H λJ d=>∃W:Nat->Nat->St->Hp->Prop,(∃m,W 0 m a d)/\∀i m a H,W i m a H->
 (J.stop i H/\D.nx a H)\/(J.go i H/\∃N:St->Hp->Prop,(∀b h,N b h->∃M,M<m/\W (i+1) M b h)/\∀x h,J.yld i H x h->g x a h λc e=>t {D with nx:=N,ct:=N,bk:=D.nx} c e)
noncomputable def nC(f:ab J')(h:Pd):ab (J'×Obj):=f.filterMap λb=>(h.get? b).map λo=>(b,o)
theorem gS(H:b∈f)(e:h.get? b=gV o):(b,o)∈nC f h:=U8.mpr ⟨b,H,by rw[e];rfl⟩
theorem y8(H:p∈nC f h):p.1∈f/\h.get? p.1=gV p.2:=by
 obtain⟨b,a,e⟩:=U8.mp H;cases q:h.get? b with
 |none=>rw[q]at e;cases e
 |some o=>
  rw[q]at e;have E:=OA e;subst E;exact⟨a,q⟩
theorem Inv.pinned(I:Inv X O a H s)(c:∀b∈f,pM X O H b)(g:∀b∈f,∃o,s.heap.get? b=gV o/\∀v,o.data≠.cell v):Inv X (O++nC f s.heap) a H s:=
 I.pins_of λp i=>(Os.mp i).elim (λz=>I.pin p<|O9 _ z) λz=>by
  obtain⟨h,e⟩:=y8 z;obtain⟨F,j,k,y⟩:=c p.1 h;obtain⟨o,E,d⟩:=g p.1 h;rw[e]at E;cases E;exact⟨e,F,j,k,d⟩
theorem Inv.unpinned(I:Inv X (O++P) a H s):Inv X O a H s:=I.pins_of λp h=>I.pin p<|O9 _<|Qc _ h
theorem fk{P:Pos}(y:kH (OU X.prog X.w) X.A X.env X.xe)(hc:X.calm=NW)(hi:PI X tg t wi)(hg:PG X tg g)(c:PSs X B tb)
  (hs:∀x,RA t X.env x=pure x:=by intro _;rfl):PS X (.For tg t B [] P) (KU wi g tb):=by
 intro O s σ H D I h;refine wpAny_For (bN (hi O s σ H _ I h) λv s1 h1=>bN h1 λac s2 h2=>?_) hs;obtain⟨it,F,tn,J,H2,e,I2,T,Sj,f2,W,⟨m0,w0⟩,L⟩:=h2;subst e;have A:∀{q:Hp},(∀b∈F,q b=NZ)->∀b∈F,pM X O q b:=λhn b c=>⟨hn b c,(f2 b c).2⟩;refine codeAny_forLoop_any (λn s'=>∃i j q,Inv X O j q s'/\tn i s'.heap/\(∀b∈F,q b=NZ)/\W i n j q) ?_ m0 ⟨0,σ,H2,I2,Sj,λb c=>(f2 b c).1,w0⟩;rintro n s3 ⟨i,k,G,I3,Z9,z,w3⟩;obtain⟨C,qn⟩|⟨go,N,hN,step⟩:=L i n k G w3
 ·refine Ry y<|bN (T.done X rfl rfl rfl hc i O s3 k G _ I3 (A z) Z9 C) λr s4 V=>?_;obtain⟨M,I4⟩:=V;subst M;exact Ut ⟨k,G,I4,qn⟩
 refine Ry y<|bN (T.item X rfl rfl rfl hc i O s3 k G _ I3 (A z) Z9 go) λr s4 S=>?_;obtain⟨u,M,h4⟩:=S;subst M;refine Ry y<|bN h4 λ_ s5 R=>?_;obtain⟨x,H5,I5,r5,y5,w,U⟩:=R;have Y:=I5.pinned (A U)<|T.obj _ _ w;refine Ry y<|bN (hg _ s5 k H5 x u _ Y r5<|step x H5 y5) λ_ s6 K=>?_;obtain⟨Z,H6,I6,q6⟩:=K;refine Ry y<|bN (c _ s6 Z H6 _ I6 q6) λf s7 Q=>?_;have again:∀{a:St} {l:Hp},Inv X _ a l s7->N a l->∃m,m<n/\∃i j q,Inv X O j q s7/\tn i _/\(∀b∈F,q b=NZ)/\W i m j q:=λ{a l} p E=>by
  obtain⟨m',hm,w7⟩:=hN a l E;refine⟨m',hm,i+1,a,l,p.unpinned,T.keep _ _ _ w λb c o e=>(p.pin _<|O9 _<|O9 _<|gS c e).1,λb c=>?_,w7⟩;obtain⟨o,e,d⟩:=T.obj _ _ w b c;exact(p.pin _<|O9 _<|O9 _<|gS c e).2.1
 cases f with
 |next=>obtain⟨a,l,p,E⟩:=Q;exact again p E
 |cont=>obtain⟨a,l,p,E⟩:=Q;exact again p E
 |brk=>obtain⟨a,l,p,Q⟩:=Q;exact⟨a,l,p.unpinned,Q⟩
 |ret v=>obtain⟨x7,a,l,p,r7,Q⟩:=Q;exact⟨x7,a,l,p.unpinned,r7,Q⟩
theorem cy{K:C'}{a:J'}{X:ab V}{g:TG}{t:TS}{D:jk}{b:St}{H:Hp}(Pv:Nat->St->Hp->Prop)(j:Pv 0 b H)(l:∀i b H,i<=X.length->Pv i b H->SqL K H a X)
  (s:∀i x b H,X[i]?=gV x->Pv i b H->g x b H λc f=>t {D with nx:=Pv<|i+1,ct:=Pv<|i+1,bk:=D.nx} c f) (k:∀b H,Pv X.length b H->D.nx b H):
  ∃W:Nat->Nat->St->Hp->Prop,(∃m,W 0 m b H)/\∀i m b H,W i m b H->
   ((AM K a).stop i H/\D.nx b H)\/((AM K a).go i H/\∃N:St->Hp->Prop,(∀d h,N d h->∃M,M<m/\W (i+1) M d h)/\∀x h,(AM K a).yld i H x h->g x b h λc f=>t {D with nx:=N,ct:=N,bk:=D.nx} c f):=by
 exists λi m b H=>m=X.length-i/\i<=X.length/\Pv i b H,⟨X.length,by simp,Oy _,j⟩;rintro i m b H ⟨rfl,n,p⟩;have q:=l i b H n p;by_cases r:i<X.length
 ·refine .inr ⟨⟨X,X[i],q,by simp⟩,Pv<|i+1,λd h P=>⟨X.length-(i+1),Nat.sub_lt_sub_left r (Ua _),rfl,r,P⟩,λx h y=>?_⟩;obtain⟨e,y⟩:=y;subst e;exact s i x b _ (y X q) p
 have e:i=X.length:=Nat.le_antisymm n (Y2 r)
 subst e;exact .inl ⟨⟨X,q,N9 _⟩,k b H p⟩
theorem fq{K:C'}{a:J'}{X:ab V}{g:TG}{t:TS}{D:jk}{b:St}{H:Hp}(Pv:Nat->St->Hp->Prop)(j:Pv 0 b H)(l:∀i b H,i<=X.length->Pv i b H->SqT K H a X)
  (s:∀i x b H,X[i]?=gV x->Pv i b H->g x b H λc f=>t {D with nx:=Pv<|i+1,ct:=Pv<|i+1,bk:=D.nx} c f) (k:∀b H,Pv X.length b H->D.nx b H):
  ∃W:Nat->Nat->St->Hp->Prop,(∃m,W 0 m b H)/\∀i m b H,W i m b H->
   ((GW K a).stop i H/\D.nx b H)\/((GW K a).go i H/\∃N:St->Hp->Prop,(∀d h,N d h->∃M,M<m/\W (i+1) M d h)/\∀x h,(GW K a).yld i H x h->g x b h λc f=>t {D with nx:=N,ct:=N,bk:=D.nx} c f):=by
 exists λi m b H=>m=X.length-i/\i<=X.length/\Pv i b H,⟨X.length,by simp,Oy _,j⟩;rintro i m b H ⟨rfl,n,p⟩;have q:=l i b H n p;by_cases r:i<X.length
 ·refine .inr ⟨⟨X,X[i],q,by simp⟩,Pv<|i+1,λd h P=>⟨X.length-(i+1),Nat.sub_lt_sub_left r (Ua _),rfl,r,P⟩,λx h y=>?_⟩;obtain⟨e,y⟩:=y;subst e;exact s i x b _ (y X q) p
 have e:i=X.length:=Nat.le_antisymm n (Y2 r)
 subst e;exact .inl ⟨⟨X,q,N9 _⟩,k b H p⟩
theorem dq{lo:Int}{n:Nat}{g:TG}{t:TS}{D:jk}(Pv:Nat->St->Hp->Prop)(f:Pv 0 a H)
  (s:∀i a H,i<n->Pv i a H->g (.int<|lo+i) a H λb d=>t {D with nx:=Pv<|i+1,ct:=Pv<|i+1,bk:=D.nx} b d) (j:∀a H,Pv n a H->D.nx a H):
  ∃W:Nat->Nat->St->Hp->Prop,(∃m,W 0 m a H)/\∀i m a H,W i m a H->
   ((E1 lo n).stop i H/\D.nx a H)\/((E1 lo n).go i H/\∃N:St->Hp->Prop,(∀c h,N c h->∃M,M<m/\W (i+1) M c h)/\∀x h,(E1 lo n).yld i H x h->g x a h λb d=>t {D with nx:=N,ct:=N,bk:=D.nx} b d):=by
 exists λi m a H=>m=n-i/\i<=n/\Pv i a H,⟨n,by simp,Oy _,f⟩;rintro i m a H ⟨rfl,k,p⟩;by_cases r:i<n
 ·refine .inr ⟨r,Pv<|i+1,λc h P=>⟨n-(i+1),Nat.sub_lt_sub_left r (Ua _),rfl,r,P⟩,λx h y=>?_⟩;obtain⟨e,y⟩:=y;subst e y;exact s i a _ r p
 have e:i=n:=Nat.le_antisymm k (Y2 r)
 subst e;exact .inl ⟨N9 _,j a H p⟩
abbrev R2:=V->V->Hp->VK->Prop
def OpR(X:Cx)(f:NX->NX->Sem NX)(r:R2):Prop:=
 ∀(O:ab (J'×Obj)) (s:Od) (a:St) (H:Hp) (x y:V) (v u:NX) (Q:VK),Inv X O a H s->RelV x v->RelV y u->r x y H Q->
  wpAny (OU X.prog X.w) X.A (f v u) (EP X O a Q) X.xe s
def MO(X:Cx)(f:NX->Sem NX)(r:V->Hp->VK->Prop):Prop:=
 ∀(O:ab (J'×Obj)) (s:Od) (a:St) (H:Hp) (x:V) (v:NX) (Q:VK),Inv X O a H s->RelV x v->r x H Q->
  wpAny (OU X.prog X.w) X.A (f v) (EP X O a Q) X.xe s
def eS(X:Cx)(f:NX)(r:ab V->Hp->VK->Prop):Prop:=
 ∀(O:ab (J'×Obj)) (s:Od) (a:St) (H:Hp) (x:ab V) (u:ab NX) (Q:VK),Inv X O a H s->Vals x u->r x H Q->
  wpAny (OU X.prog X.w) X.A (call f u) (EP X O a Q) X.xe s
def MP(X:Cx)(r:V->Hp->(N'->Hp->Prop)->Prop):Prop:=
 ∀(O:ab (J'×Obj)) (s:Od) (a:St) (H:Hp) (x:V) (v:NX) (Q:N'->Hp->Prop),Inv X O a H s->RelV x v->r x H Q->
  wpAny (OU X.prog X.w) X.A (truthy v) (TP X O a Q) X.xe s
def E2(r:R2)(t T:TE):TE:=λa H Q=>t a H λx h=>T a h λy b=>r x y b Q
def NP(r:V->Hp->VK->Prop)(t:TE):TE:=λa H Q=>t a H λx h=>r x h Q
inductive Nz (C:Int->Int->Prop)(g:Int->Int->V)(x y:V)(H:Hp)(Q:VK):Prop
 |mk (i j:Int)(hx:x=.int i)(h:y=.int j)(c:C i j)(q:Q (g i j) H)
inductive NA (g:Int->Int->V)(x y:V)(H:Hp)(Q:VK):Prop
 |mk (i j:Int)(hx:x=.int i)(h:y=.int j)(q:Q (g i j) H)
inductive NB (g:Int->V)(x:V)(H:Hp)(Q:VK):Prop
 |mk (i:Int)(hx:x=.int i)(q:Q (g i) H)
def rI(C:Int->Int->Prop)(g:Int->Int->V):R2:=λx y H Q=>Nz C g x y H Q
def E3(g:Int->Int->V):R2:=λx y H Q=>NA g x y H Q
def rU(g:Int->V):V->Hp->VK->Prop:=λx H Q=>NB g x H Q
theorem IN(k:PE X a t)(l:PE X b T){R:V->V->Hp->Prop}(I:Inv X O d H s)
  (h:t d H λx j=>T d j λy c=>R x y c) {Q:NX->Od->Prop} {f:NX->NX->Sem NX}
  (m:∀v u i x y c,Inv X O d c i->RelV x v->RelV y u->R x y c->wpAny (OU X.prog X.w) X.A (f v u) Q X.xe i):
  wpAny (OU X.prog X.w) X.A (Qm a X.env) (λv e=>wpAny (OU X.prog X.w) X.A (Qm b X.env) (λu g=>wpAny (OU X.prog X.w) X.A (f v u) Q X.xe g) X.xe e) X.xe s:=bN (k O s d H _ I h) (by rintro v n ⟨x,j,o,r,q⟩;exact bN (l O n d j _ o q) (by rintro u i ⟨y,c,p,w,z⟩;exact m v u i x y c p r w z))
theorem b_(o:OpR X (SI O) r)(c:PE X a t)(d:PE X b T):PE X (.BinOp a O b p) (E2 r t T):=by
 intro g s e H Q I h;exact wpAny_BinOp<|IN c d I h λv u f x y i j k l q=>o g f e i x y v u Q j k l q
theorem KW(o:MO X (unaryOp p) r)(c:PE X a t):PE X (.UnaryOp p a P) (NP r t):=by
 intro O s b H Q I h;exact UnaryOp_<|bN (c O s b H _ I h) (by rintro v d ⟨x,e,i,f,q⟩;exact o O d b e x v Q i f q)
theorem KY{f:NX->NX->Sem NX}{C:Int->Int->Prop}{g:Int->Int->Int}
  (rule:∀i j t u s Q E,C i j->Q (.int (g i j) s.toks) {s with toks:=s.toks+1}->wpAny (OU X.prog X.w) X.A (f (.int i t)<|.int j u) Q E s):
  OpR X f (rI C λi j=>.int<|g i j):=by
 intro O s b H x y v u Q I r a h;obtain⟨i,j,rfl,rfl,c,q⟩:=h;obtain⟨t,rfl⟩:=r;obtain⟨T,rfl⟩:=a;exact rule i j t T s _ _ c ⟨.int<|g i j,H,I.tok _,⟨_,rfl⟩,q⟩
theorem IP{f:NX->NX->Sem NX}{g:Int->Int->Int}
  (rule:∀i j t u s Q E,Q (.int (g i j) s.toks) {s with toks:=s.toks+1}->wpAny (OU X.prog X.w) X.A (f (.int i t)<|.int j u) Q E s):
  OpR X f (E3 λi j=>.int<|g i j):=by
 intro O s b H x y v u Q I r a h;obtain⟨i,j,rfl,rfl,q⟩:=h;obtain⟨t,rfl⟩:=r;obtain⟨T,rfl⟩:=a;exact rule i j t T s _ _ ⟨.int<|g i j,H,I.tok _,⟨_,rfl⟩,q⟩
theorem E4{f:NX->NX->Sem NX}{g:Int->Int->N'}
  (rule:∀i j t u s Q E,Q (.bool<|g i j) s->wpAny (OU X.prog X.w) X.A (f (.int i t)<|.int j u) Q E s):
  OpR X f (E3 λi j=>.bl<|g i j):=by
 intro O s b H x y v u Q I r a h;obtain⟨i,j,rfl,rfl,q⟩:=h;obtain⟨t,rfl⟩:=r;obtain⟨T,rfl⟩:=a;exact rule i j t T s _ _ ⟨.bl<|g i j,H,I,rfl,q⟩
def MQ(i j:Int):Prop:=0<j/\j<1073741824
def MR(i j:Int):Prop:=0<=j/\j<=1000000/\i.natAbs<2^64
def CMul(i j:Int):Prop:=(-(2^64)<i/\i<2^64)\/(-(2^64)<j/\j<2^64)
theorem CMul.ok(h:CMul i j):IntMulOk i j:=by
 obtain⟨H,a⟩|⟨H,a⟩:=h
 ·exact .of_left<|ti H a
 exact .of_right<|ti H a
theorem vq(k:Nat):(0:Int)<=2^k:=Int.natCast_nonneg _
theorem AU:OpR X (SI .Add) (E3 λi j=>.int<|i+j):=IP λz z z z z z z q=>add_int q
theorem IQ:OpR X (SI .Sub) (E3 λi j=>.int<|i-j):=IP λz z z z z z z q=>sub_int q
theorem AV:OpR X (SI .Mult) (rI CMul λi j=>.int<|i*j):=KY λz z z z z z z h q=>mul_int q h.ok
theorem E5:OpR X (SI .FloorDiv) (rI MQ λi j=>.int<|i/j):=KY λi j z z z z z h q=>by
 have H:=h.1;have a:=h.2;exact floordiv_int (by lia) (by rwa[U_ i<|by exact hI H]) (.inl<|V9<|by omega)
theorem AW:OpR X (SI .Mod) (rI (λz j=>0<j) λi j=>.int<|i%j):=KY λi j z z z z z h q=>by
 have H:=h;exact mod_int' (by lia) (by rwa[Int.fmod_eq_emod_of_nonneg i<|by exact hI H])
theorem IR:OpR X (SI .LShift) (rI MR λi j=>.int<|i*2^j.toNat):=KY λz z z z z z z h q=>lshift_int_small h.1 h.2.1 h.2.2 q
theorem IS:OpR X (SI .RShift) (rI (λz j=>0<=j) λi j=>.int<|i/2^j.toNat):=KY λi j z z z z z h q=>
 rshift_int h (by rwa[U_ i<|vq _])
theorem IT:OpR X (SI .BitAnd) (E3 λi j=>.int<|Tt i j):=IP λz z z z z z z q=>and_int q
theorem NQ{f:NX->Sem NX}{g:Int->Int}
  (rule:∀i t s Q E,Q (.int (g i) s.toks) {s with toks:=s.toks+1}->wpAny (OU X.prog X.w) X.A (f<|.int i t) Q E s):
  MO X f (rU λi=>.int<|g i):=by
 intro O s a H x v Q I r h;obtain⟨i,rfl,q⟩:=h;obtain⟨t,rfl⟩:=r;exact rule i t s _ _ ⟨.int<|g i,H,I.tok _,⟨_,rfl⟩,q⟩
theorem IU:MO X (unaryOp .USub) (rU λi=>.int (-i)):=NQ λz z z z z q=>neg_int q
noncomputable def KZ:V->V->N'
 |.non,.non=>NW|.non,.int _=>NW|.int _,.non=>NW|.non,.bl _=>NW|.bl _,.non=>NW|.non,.str _=>NW|.str _,.non=>NW
 |.int _,.int _=>NW|.bl _,.bl _=>NW|.str _,.str _=>NW|.byt _,.byt _=>NW
 |.int _,.str _=>NW|.str _,.int _=>NW|.bl _,.str _=>NW|.str _,.bl _=>NW
 |_,_=>N8
def NC:R2:=λx y H Q=>KZ x y=NW/\Q (.bl (decide (x=y))) H
def ND:R2:=λx y H Q=>KZ x y=NW/\Q (.bl (!decide (x=y))) H
theorem xj:decide (V.int i=V.int j)=(i == j):=by
 rw[P9];simp
theorem jl:decide (V.bl i=V.bl j)=(i == j):=by
 rw[P9];simp
theorem xk:decide (V.str i=V.str j)=(i == j):=by
 rw[P9];simp
theorem xm:decide (V.byt i=V.byt j)=(i.toList == j.toList):=by
 rw[P9];simp
theorem bh(I:Inv X O a H s)(q:Q (.bl k) H)(e:k=b):EP X O a Q (.bool b) s:=by
 subst e;exact⟨.bl k,H,I,rfl,q⟩
theorem K0:OpR X (PX .Eq) NC:=by
 intro O s c H x y v u Q I b r h;obtain⟨a,q⟩:=h;cases x with
 |non=>
  cases b;cases y with
  |non=>cases r;exact VN (bh I q<|by simp)
  |bl j=>cases r;exact VA (bh I q<|by simp)
  |int j=>obtain⟨T,rfl⟩:=r;exact ZF (bh I q<|by simp)
  |str j=>obtain⟨T,rfl⟩:=r;exact aaM (bh I q<|by simp)
  |_=>exact absurd ‹_› N6
 |bl i=>
  cases b;cases y with
  |non=>cases r;exact UD (bh I q<|by simp)
  |bl j=>cases r;exact eq_bool<|bh I q jl
  |str j=>obtain⟨T,rfl⟩:=r;exact T2 (bh I q<|by simp)
  |_=>exact absurd ‹_› N6
 |int i=>
  obtain⟨t,rfl⟩:=b;cases y with
  |non=>cases r;exact ZD (bh I q<|by simp)
  |int j=>obtain⟨T,rfl⟩:=r;exact eq_int<|bh I q xj
  |str j=>obtain⟨T,rfl⟩:=r;exact YP (bh I q<|by simp)
  |_=>exact absurd ‹_› N6
 |str i=>
  obtain⟨t,rfl⟩:=b;cases y with
  |non=>cases r;exact aaL (bh I q<|by simp)
  |bl j=>cases r;exact T4 (bh I q<|by simp)
  |int j=>obtain⟨T,rfl⟩:=r;exact Ze (bh I q<|by simp)
  |str j=>obtain⟨T,rfl⟩:=r;exact eq_str<|bh I q xk
  |_=>exact absurd ‹_› N6
 |byt i=>
  obtain⟨t,rfl⟩:=b;cases y with
  |byt j=>obtain⟨T,rfl⟩:=r;exact PySem.W.eq_bytes<|bh I q xm
  |_=>exact absurd ‹_› N6
 |_=>cases y<;>exact absurd ‹_› N6
theorem K1:OpR X (PX .NotEq) ND:=by
 intro O s c H x y v u Q I b r h;obtain⟨a,q⟩:=h;cases x with
 |non=>
  cases b;cases y with
  |non=>cases r;exact Xt (bh I q<|by simp)
  |bl j=>cases r;exact Xq (bh I q<|by simp)
  |int j=>obtain⟨T,rfl⟩:=r;exact aaJ (bh I q<|by simp)
  |str j=>obtain⟨T,rfl⟩:=r;exact aaI (bh I q<|by simp)
  |_=>exact absurd ‹_› N6
 |bl i=>
  cases b;cases y with
  |non=>cases r;exact VO (bh I q<|by simp)
  |bl j=>cases r;exact ne_bool<|bh I q<|O1 not jl
  |str j=>obtain⟨T,rfl⟩:=r;exact Ud (bh I q<|by simp)
  |_=>exact absurd ‹_› N6
 |int i=>
  obtain⟨t,rfl⟩:=b;cases y with
  |non=>cases r;exact aaK (bh I q<|by simp)
  |int j=>obtain⟨T,rfl⟩:=r;exact ne_int<|bh I q<|O1 not xj
  |str j=>obtain⟨T,rfl⟩:=r;exact Zf (bh I q<|by simp)
  |_=>exact absurd ‹_› N6
 |str i=>
  obtain⟨t,rfl⟩:=b;cases y with
  |non=>cases r;exact aaH (bh I q<|by simp)
  |bl j=>cases r;exact Us (bh I q<|by simp)
  |int j=>obtain⟨T,rfl⟩:=r;exact Zg (bh I q<|by simp)
  |str j=>obtain⟨T,rfl⟩:=r;exact ne_str<|bh I q<|O1 not xk
  |_=>exact absurd ‹_› N6
 |byt i=>
  obtain⟨t,rfl⟩:=b;cases y with
  |byt j=>obtain⟨T,rfl⟩:=r;exact PySem.W.ne_bytes<|bh I q<|O1 not xm
  |_=>exact absurd ‹_› N6
 |_=>cases y<;>exact absurd ‹_› N6
theorem pY:OpR X (PX .Lt) (E3 λi j=>.bl (decide (i<j))):=E4 λz z z z z z z q=>lt_int q
theorem nE:OpR X (PX .LtE) (E3 λi j=>.bl (decide (i<=j))):=E4 λz z z z z z z q=>le_int q
theorem xn:OpR X (PX .Gt) (E3 λi j=>.bl (decide (j<i))):=E4 λz z z z z z z q=>gt_int q
theorem GX:OpR X (PX .GtE) (E3 λi j=>.bl (decide (j<=i))):=E4 λz z z z z z z q=>ge_int q
theorem AX:OpR X (PX .Is) (λx y H Q=>y=.non/\Q (.bl (decide (x=.non))) H):=by
 intro O s b H x y v u Q I r a h;obtain⟨rfl,q⟩:=h;cases a;refine is_none_gen<|bh I q ?_;cases x<;>first
  |(rfl)
  |(obtain⟨t,rfl⟩:=r;rfl)
theorem xo:OpR X (PX .IsNot) (λx y H Q=>y=.non/\Q (.bl (!decide (x=.non))) H):=by
 intro O s b H x y v u Q I r a h;obtain⟨rfl,q⟩:=h;cases a;refine isnot_none_gen<|bh I q ?_;cases x<;>first
  |(rfl)
  |(obtain⟨t,rfl⟩:=r;rfl)
theorem OpR.or(h:OpR X f r)(h':OpR X f d):OpR X f (λx y H Q=>r x y H Q\/d x y H Q):=by
 intro O s a H x y v u Q I b c q;obtain q|q:=q
 ·exact h O s a H x y v u Q I b c q
 exact h' O s a H x y v u Q I b c q
theorem AY(b:Px)(h:o≠.In:=by decide)(H:o≠.NotIn:=by decide):R9 o b=false:=by
 have e:(o == CmpOp.In)=false:=by simp_all
 have E:(o == CmpOp.NotIn)=false:=by simp_all
 cases b<;>simp[R9,e,E]
theorem iQ(c:OpR X (PX o) r)(d:PE X a t)(e:PE X b T)(m:R9 o b=N8):PE X (.Compare a [o] [b] p) (E2 r t T):=by
 intro O s f H Q I h;exact wpAny_Compare1 (IN d e I h λv u g x y i j k l q=>c O g f i x y v u Q j k l q) m
def AZ(t:TE):TT:=λa H Q=>t a H λx h=>IC x Q h
theorem cV(f:OpR X (PX o) r)(g:PE X a t)(i:PE X b T)(m:R9 o b=N8):PT X (.Compare a [o] [b] p) (AZ<|E2 r t T):=by
 intro O s d H Q I h;refine Wp (bN (g O s d H _ I h) λv j Z=>?_) m;obtain⟨x,l,n,q,w⟩:=Z;refine bN (i O j d l _ n w) λu A Y=>?_;obtain⟨y,B,C,D,E⟩:=Y;refine bN (f O A d B x y v u _ C q D E) λc M W=>?_;obtain⟨z,F,G,J,k,e,L⟩:=W
 subst e;cases J;exact P4 ⟨F,G,L⟩
def A1(r b:R2)(t T c:TE):TE:=λa H Q=>t a H λx d=>T a d λy e=>r x y e λz h=>∃k,z=.bl k/\
 (if k=NW then c a h λw f=>b y w f Q else Q (.bl N8) h)
theorem tG(m:OpR X (PX p) r)(g:OpR X (PX o) n)(t:PE X a T)(w:PE X b A)(B:PE X c C)
  (D:lastMarks [p,o] [b,c]=false:=by with_unfolding_all rfl):PE X (.Compare a [p,o] [b,c] P) (A1 r n T A C):=by
 intro O s f H Q I h;refine Compare_chain (bN (t O s f H _ I h) λv E V=>?_) D;obtain⟨x,F,G,J,L⟩:=V;refine chain_link (bN (w O E f F _ G L) λu M S=>?_);obtain⟨y,N,U,i,W⟩:=S;refine bN (m O M f N x y v u _ U J i W) λd Y R=>?_;obtain⟨z,j,l,Z,k,e,q⟩:=R
 subst e;cases Z;refine P4 ?_;cases k with
 |false=>exact ite_ff ⟨.bl N8,j,l,rfl,q⟩
 |true=>exact ite_tt<|chain_last<|bN (B O Y f j _ l q) (by rintro w' s4 ⟨z',H4,I4,r4,q4⟩;exact g O s4 f H4 y z' u w' Q I4 i r4 q4)
theorem tH(m:OpR X (PX p) r)(g:OpR X (PX o) n)(t:PE X a T)(w:PE X b A)(B:PE X c C)
  (D:lastMarks [p,o] [b,c]=false:=by with_unfolding_all rfl):PT X (.Compare a [p,o] [b,c] P) (AZ<|A1 r n T A C):=by
 intro O s f H Q I h;refine isTrue_chain (bN (t O s f H _ I h) λv E V=>?_) D;obtain⟨x,F,G,J,L⟩:=V;refine test_link (bN (w O E f F _ G L) λu M S=>?_);obtain⟨y,N,U,i,W⟩:=S;refine bN (m O M f N x y v u _ U J i W) λd Y R=>?_;obtain⟨z,j,l,Z,k,e,q⟩:=R
 subst e;cases Z;refine P4 ?_;cases k with
 |false=>
  obtain⟨k',e',q'⟩:=q;cases e';exact ite_ff ⟨j,l,q'⟩
 |true=>
  refine ite_tt<|test_last<|bN (B O Y f j _ l q) λw' s4 K=>?_;obtain⟨z',H4,I4,r4,q4⟩:=K;refine bN (g O s4 f H4 y z' u w' _ I4 i r4 q4) λd' s5 hz=>?_;obtain⟨z2,H5,I5,r5,k2,e2,q5⟩:=hz;subst e2;cases r5;exact P4 ⟨H5,I5,q5⟩
def E6(K:C')(x:V)(H:Hp)(k:N'):Prop:=
 match x with
 |.non=>k=N8
 |.bl b=>k=b
 |.int i=>k=(i != 0)
 |.str y=>y.length<=sizeLine/\k=((y.length:Int) != 0)
 |.byt y=>y.size<=sizeLine/\k=((y.size:Int) != 0)
 |.ref p=>(∃X,SqL K H p X/\k=!X.isEmpty)\/(∃X,SqT K H p X/\k=!X.isEmpty)\/∃s,H p=gV (.dK s)/\k=!s.isEmpty
 |_=>False
theorem vt{a:Type}{k:ab (a×V)}{v:ab (a×NX)}(r:KV k v):(!v.isEmpty)=!k.isEmpty:=by
 cases r<;>rfl
theorem nG(r:Vals x P):(!P.toArray.isEmpty)=!x.isEmpty:=by
 cases r<;>simp
theorem nI:(sizeLine:Nat)<2^63:=by rw[Qj];simp
theorem IV:MP X (λx H Q=>∃k,E6 X.K x H k/\Q k H):=by
 intro O s u H x v Q I d h;obtain⟨k,e,q⟩:=h;have w:=nI;have A:sizeLine=16777216:=Qj;cases x with
 |non=>
  cases d;have E:k=false:=e;subst E;exact truthy_none ⟨H,I,q⟩
 |bl b=>
  cases d;have E:k=b:=e;subst E;exact P4 ⟨H,I,q⟩
 |int i=>
  obtain⟨t,rfl⟩:=d;have E:k=(i != 0):=e;subst E;exact PySem.P.truthy_int ⟨H,I,q⟩
 |str y=>
  obtain⟨t,rfl⟩:=d;obtain⟨j,E⟩:y.length<=sizeLine/\k=((y.length:Int) != 0):=e;subst E;exact PySem.P.truthy_str (by lia) ⟨H,I.tok _,q⟩
 |byt y=>
  obtain⟨t,rfl⟩:=d;obtain⟨j,E⟩:y.size<=sizeLine/\k=((y.size:Int) != 0):=e;subst E;exact PySem.W.truthy_bytes (O8 j (by decide)) ⟨H,I.tok _,q⟩
 |ref p=>
  cases d;have E:(∃c,SqL X.K H p c/\k=!c.isEmpty)\/(∃c,SqT X.K H p c/\k=!c.isEmpty)\/∃a,H p=gV (.dK a)/\k=!a.isEmpty:=e;obtain⟨c,f,E⟩|⟨c,f,E⟩|⟨a,f,E⟩:=E
  ·subst E;obtain⟨n,r,P,z⟩:=I.list f;have l:=r.length;exact wpAny_truthy_list P.isList (by simp only[Ot];lia) ⟨H,I.tok _,by rw[nG r];exact q⟩
  ·subst E;obtain⟨n,r,P,z⟩:=I.tuple f;have l:=r.length;exact truthy_tuple P (by simp only[Ot];lia) ⟨H,I.tok _,by rwa[nG r]⟩
  ·subst E;obtain⟨z,o,g,r,m⟩:a.length<=sizeLine/\(p == QK)=N8/\∃g,KV a g/\s.heap.DictOf (be _ X.w) p g:=I.hok p _ f;have l:=Paired.length r;exact wpAny_truthy_dict o m (by lia) ⟨H,I.tok _,by rwa[vt r]⟩
 |_=>exact(e).elim
theorem tI(d:PE X a t)(e:∀Y,isTrue a X.env Y=(do let v <-Y;Xc a.pos;Vl [v] (truthy v))):
  PT X a (λb H Q=>t b H λx c=>∃k,E6 X.K x c k/\Q k c):=by
 intro O s b H Q I h;exact isTrue_plain (bN (d O s b H _ I h) (by rintro v f ⟨x,g,i,r,q⟩;exact IV O f b g x v Q i r q))<|e _
theorem eT(r:Vals [x] U):∃u,U=[u]/\RelV x u:=by
 cases r with
 |cons a b=>cases b;exact⟨_,rfl,a⟩
theorem GY(r:Vals [x,y] U):∃u w,U=[u,w]/\RelV x u/\RelV y w:=by
 cases r with
 |cons a b=>
  cases b with
  |cons c d=>cases d;exact⟨_,_,rfl,a,c⟩
theorem tJ:eS X (.builtin "abs") (λx H Q=>∃i,x=[.int i]/\Q (.int (if i<0 then -i else i)) H):=by
 intro O s a H x U Q I r h;obtain⟨i,rfl,q⟩:=h;obtain⟨u,rfl,t,rfl⟩:=eT r;exact Xv λu T=>⟨.int _,H,I.tok _,⟨_,rfl⟩,q⟩
theorem y_:eS X (.type "int") (λx H Q=>(∃i,x=[.int i]/\Q (.int i) H)\/∃k,x=[.bl k]/\Q (.int (if k then 1 else 0)) H):=by
 intro O s b H x U Q I r h;obtain⟨i,rfl,q⟩|⟨k,rfl,q⟩:=h
 ·obtain⟨u,rfl,t,rfl⟩:=eT r;exact call_int_int ⟨.int i,H,I,⟨_,rfl⟩,q⟩
 obtain⟨u,rfl,a⟩:=eT r;cases a;exact call_int_bool ⟨.int _,H,I.tok _,⟨_,rfl⟩,q⟩
def MT(K:C')(x:V)(H:Hp)(n:Nat):Prop:=
 match x with
 |.str y=>y.length<=sizeLine/\n=y.length
 |.byt y=>y.size<=sizeLine/\n=y.size
 |.ref p=>(∃X,SqL K H p X/\n=X.length)\/∃X,SqT K H p X/\n=X.length
 |_=>False
inductive IW (K:C')(xs:ab V)(H:Hp)(Q:VK):Prop
 |mk (x:V)(n:Nat)(h:xs=[x])(l:MT K x H n)(q:Q (.int n) H)
theorem ca:eS X (.builtin "len") (IW X.K):=by
 intro O s i H a U Q I r h;obtain⟨x,n,rfl,e,q⟩:=h;obtain⟨u,rfl,b⟩:=eT r;have k:=Qj;cases x with
 |str y=>
  obtain⟨t,rfl⟩:=b;obtain⟨f,E⟩:y.length<=sizeLine/\n=y.length:=e;subst E;exact len_str (by lia) ⟨.int _,H,I.tok _,⟨_,rfl⟩,q⟩
 |byt y=>
  obtain⟨t,rfl⟩:=b;obtain⟨f,E⟩:y.size<=sizeLine/\n=y.size:=e;subst E;exact PySem.W.len_bytes (O8 f (by decide)) ⟨.int _,H,I.tok _,⟨_,rfl⟩,q⟩
 |ref p=>
  cases b;have E:=e;obtain⟨a,c,E⟩|⟨a,c,E⟩:=E
  ·subst E;obtain⟨g,d,P,z⟩:=I.list c;have l:=d.length;exact Calls.call_len_list P.isList (by simp only[Ot];lia) ⟨.int _,H,I.tok _,⟨_,by simp only[Ot];rw[l]⟩,q⟩
  ·subst E;obtain⟨g,d,P,z⟩:=I.tuple c;have l:=d.length;exact len_tuple P (by simp only[Ot];lia) ⟨.int _,H,I.tok _,⟨_,by simp only[Ot];rw[l]⟩,q⟩
 |_=>exact(e).elim
structure ObjM (h:Pd)(x dx C:J')(mA:Str->M' NX):Prop where
 obj:h.get? x=gV (Rf C dx)
 ns:h.Ns1 dx mA
 ne:dx≠x
theorem za{h:Pd}{d:J'}{m:Str->M' NX}(n:h.Ns1 d m):∃O,h.get? d=gV O/\∀N,UX N O=gV (m N):=by
 obtain⟨o,E,p,H,b,k,x,c⟩:=n;refine⟨o,H,λN=>?_⟩;have e:=c N;unfold nsFind findBy at e;unfold UX;rw[b];dsimp only
 split
 ·simp_all
 have a:E.toList.any (·.refKey)=false:=by
  rw[List.any_eq_false];intro y f;obtain⟨z,t,A⟩:=k y<|Array.mem_toList_iff.mp f;simp[va,A]
 grind
theorem ObjM.look(I:ObjM h x d C m):∃o,PySem.W.InstAt h x (Rf C d) C (gV o)/\∀n,UX n o=gV (m n):=
 let ⟨o,H,l⟩:=za I.ns
 ⟨o,⟨I.obj,rfl,rfl,H⟩,l⟩
section
variable {prog:Om}{w:OI}{A:PL}{E:NX->Od->Prop}{s:Od}{K:C'}{x dx C f:J'}{mA:Str->M' NX}{name:Str}{v:NX}
theorem E7{e:N'}{Q:NX->Od->Prop}(X:K.In s.heap)(I:ObjM s.heap x dx C mA)(H:Rq K C name=NW)(a:RB K C=NW)
  (b:O3 K (.ref C) name=gV NZ) (c:mA name=gV v) (Z:YR v=NW) (h:Q v {s with toks:=s.toks+1}):
  wpAny (OU prog w) A (getAttr (.ref x) name e) Q E s:=by
 obtain⟨o,J,l⟩:=I.look;exact PySem.W.get_value X J (UA H).1 (PySem.W.findObj_own a b rfl<|by rw[l,c]) Z h
theorem A2{p:Sem N'}{Q:NX×ab NX->Od->Prop}(X:K.In s.heap)(I:ObjM s.heap x dx C mA)(H:Rq K C name=NW)
  (a:O3 K (.ref C) name=gV (gV<|.ref f)) (t:UJ K (.ref f)=NW) (b:mA name=NZ) (h:Q (.ref f,[.ref x]) s):
  wpAny (OU prog w) A (VQ (.ref x) name p) Q E s:=by
 obtain⟨o,J,l⟩:=I.look;exact PySem.W.method_fn X J (UA H).1 (UA H).2 a (UV.mp t) (by show(UX _ o).map _=gV N8;simp_all) h
theorem E8{n:ab Str}{Q:WI->Od->Prop}(X:K.In s.heap)(I:ObjM s.heap x dx C mA)
  (e:O3 K (.ref C) "__setattr__"=gV (gV<|.builtin "object.__setattr__")) (p:Sf K C=NW) (t:Wk K C name=gV NZ) (g:RB K C=NW)
  (i:Yn mA n) (z:n.length<=sizeLine)
  (h:∀h',ObjM h' x dx C (λy=>if y=name then gV v else mA y)->Sx dx s.heap h'->Q () {s with heap:=h',toks:=s.toks+2}):
  wpAny (OU prog w) A (setAttr (.ref x) name v) Q E s:=by
 obtain⟨o,J,q⟩:=I.look;refine PySem.W.set_plain X J e<|PySem.W.osa_open X J p t λb=>?_;obtain⟨r,j,a⟩:=PySem.W.any_some g;have k:=I.obj;refine Oa<|Oq<|Oa<|Oa<|wpAny_loadPart k<|Oa<|I0 (PySem.W.looks_clsIn X j) ?_;rw[a];refine Oq<|Oa<|Oq<|Oa<|wpAny_nsSet1 I.ns λh' H Z=>?_;obtain⟨O,l,m,D,c,d⟩:=H.count<|I' _ v i;exact Oa<|wpAny_lookBehind D (by rw[c];exact pastItsLine_dict<|O8 d<|QN z)<|Oq<|h _ ⟨(Z.2 _<|P0 I.ne).trans I.obj,H,I.ne⟩ Z
theorem A3{R:ZW->Od->Prop}{b:ab NX}{k:ab (Str×NX)}(X:K.In s.heap)(H:SV K C=NW)
  (i:O3 K (.ref C) "__init__"=gV (gV<|.ref f)) (c:PySem.W.typeIn K (.ref f)=gV (.type "function"))
  (h:codeAny (OU prog w) (A.under<|.builtin "type.__call__" ⟨.ref C::b,k⟩) (.call (.ref f) ⟨.ref (s.heap.objs.size+1)::b,k⟩) (PySem.W.InitBack (s.heap.objs.size+1) R)
   {s with heap:=(s.heap.push QB).push<|Rf C s.heap.objs.size}):
  codeAny (OU prog w) A (.call (.ref C) ⟨b,k⟩) R s:=PySem.W.make_core (PySem.W.makes_of X H) (PySem.W.looks_findIn X i) (λa=>PySem.W.bind_fn X a c) (.inl rfl) h
end
noncomputable def fX(f:Str)(v:V):ab (Str×V)->ab (Str×V)
 |[]=>[(f,v)]
 |(g,x)::r=>if g=f then(g,v)::r else(g,x)::fX f v r
theorem mf(f g:Str)(v:V):∀F,(fX f v F).lookup g=if g=f then gV v else F.lookup g
 |[]=>by
  show RZ g [(f,v)]=_
  grind
 |(k,x)::r=>by
  have i:=mf f g v r;rw[show fX f v _=(if k=f then(k,v)::r else(k,x)::fX f v r)from rfl];grind
theorem kW(f:Str)(v:V):∀F,f∈(fX f v F).map (·.1)/\∀g,g∈F.map (·.1)->g∈(fX f v F).map (·.1)
 |[]=>⟨by simp[fX],λg h=>by simp at h⟩
 |(k,x)::r=>by
  obtain⟨i,I⟩:=kW f v r;rw[show fX f v _=(if k=f then(k,v)::r else(k,x)::fX f v r)from rfl];grind
theorem mh(f:Str)(v:V):∀F,(fX f v F).length<=F.length+1
 |[]=>by simp[fX]
 |(k,x)::r=>by
  have i:=mh f v r;rw[show fX f v _=(if k=f then(k,v)::r else(k,x)::fX f v r)from rfl];by_cases h:k=f
  ·simp_all
  simp_all
theorem RelO.some_of(r:RelO (gV v) o):∃u,o=gV u/\RelV v u:=by
 cases o with
 |none=>exact(r).elim
 |some u=>exact⟨u,rfl,r⟩
theorem RelO.none_of(r:RelO NZ o):o=none:=by
 cases o with
 |none=>rfl
 |some u=>exact(r).elim
theorem zb(r:RelV v u):YR u=true:=by
 cases v with
 |non=>cases(r);rfl
 |bl b=>cases(r);rfl
 |int i=>obtain⟨t,e⟩:=(r);cases e;rfl
 |str x=>obtain⟨t,e⟩:=(r);cases e;rfl
 |byt b=>obtain⟨t,e⟩:=(r);cases e;rfl
 |flt b=>obtain⟨t,e⟩:=(r);cases e;rfl
 |ref a=>cases(r);rfl
 |ty n=>cases(r);rfl
theorem mT(k:HOk P w H h)(e:H a=gV (.ins C D F)):∃m,ObjM h a D C m/\(∀f,RelO (F.lookup f)<|m f)/\Yn m (F.map (·.1))/\F.length<=1000/\H D=gV (.own a):=by
 obtain⟨d,z,N,o,m,n,r,q⟩:=(k a _ e);exact⟨m,⟨o,n,N⟩,r,q,z,d⟩
structure Cls (K:C')(C:J'):Prop where
 pg:Rq K C YT=NW
 hd:RB K C=NW
 po:Sf K C=NW
 sa:O3 K (.ref C) "__setattr__"=gV (gV<|.builtin "object.__setattr__")
theorem Cls.get{K:C'}{C:J'}(c:Cls K C)(f:Str):Rq K C f=true:=c.pg
def NoAttr(K:C')(C:J')(f:Str):Prop:=O3 K (.ref C) f=gV NZ
theorem NoAttr.taker{K:C'}{C:J'}{f:Str}(n:NoAttr K C f):Wk K C f=gV none:=by
 unfold Wk;rw[n];rfl
structure E_ (K:C')(C:J')(m:Str)(f:J'):Prop where
 at_:O3 K (.ref C) m=gV (gV<|.ref f)
 fn:UJ K (.ref f)=NW
 kp:P_ K (.ref f)=NW
theorem vv{b:N'}{Q:NX->Od->Prop}(I:Inv X o i H s)(e:H a=gV (.ins C D F))(c:Cls X.K C)(n:NoAttr X.K C f)(l:F.lookup f=gV v)
  (h:∀u d,Inv X o i H d->RelV v u->Q u d):wpAny (OU X.prog X.w) A (getAttr (.ref a) f b) Q E s:=by
 obtain⟨m,O,r,z,z,z⟩:=mT I.hok e;obtain⟨u,j,g⟩:=RelO.some_of (by rw[<-l];exact r f);exact E7 I.kIn O (c.get f) c.hd n j (zb g)<|h u _ (I.tok _) g
theorem nJ{p:Sem N'}{Q:NX×ab NX->Od->Prop}(I:Inv X o b H s)(e:H a=gV (.ins C d f))(c:Cls X.K C)(k:E_ X.K C m g)(l:f.lookup m=NZ)
  (h:Q (.ref g,[.ref a]) s):wpAny (OU X.prog X.w) A (VQ (.ref a) m p) Q E s:=by
 obtain⟨M,O,r,z,z,z⟩:=mT I.hok e;have n:=RelO.none_of (by rw[<-l];exact r m);exact A2 I.kIn O (c.get m) k.at_ k.fn n h
theorem vw{Q:WI->Od->Prop}(I:Inv X l p H s)(e:H a=gV (.ins C d F))(c:Cls X.K C)(n:NoAttr X.K C f)(M:F.length<1000)(t:RelV y u)
  (h:∀j,Inv X l p (upd H a<|.ins C d<|fX f y F) j->Q () j):wpAny (OU X.prog X.w) A (setAttr (.ref a) f u) Q E s:=by
 obtain⟨m,O,r,w,Z,k⟩:=mT I.hok e;have v:(F.map (·.1)).length<=sizeLine:=by rw[B',Qj];exact OW (Pf M (by decide))
 refine E8 I.kIn O c.sa c.po n.taker c.hd w v λx i B=>h _ ?_;have D:∃o,x.get? d=gV o:=let ⟨o,_,_,G,_⟩:=i.ns;⟨o,G⟩
 refine I.write (by rw[e];exact QS) (.inr k) (λb q J z=>(B.2 b J).trans z) D<|⟨by rwa[af O.ne],?_,O.ne,i.obj,_,i.ns,λg=>?_,λg L=>?_⟩
 ·have:=mh f y F;lia
 ·rw[mf];by_cases q:g=f
  ·rwa[On q,On q]
  simp_all
 by_cases q:g=f
 ·rw[q];exact(kW f y F).1
 refine(kW f y F).2 g<|w g λz=>L ?_;simp_all
theorem Inv.made(I:Inv X O a H s):Inv X O a (upd (upd H s.heap.objs.size<|.own<|s.heap.objs.size+1) (s.heap.objs.size+1)<|.ins C s.heap.objs.size [])
  {s with heap:=(s.heap.push QB).push<|Rf C s.heap.objs.size}:=by
 have E:(s.heap.push QB).get? _=gV QB:=OX _ rfl;have c:((s.heap.push QB).push<|Rf C s.heap.objs.size).get? (s.heap.objs.size+1)=gV (Rf C s.heap.objs.size):=by
  have:=OX (s.heap.push QB) (o:=Rf C s.heap.objs.size) rfl
  rwa [So]at this
 have d:(s.heap.push QB).Ns _ _:=⟨QB,#[],_,E,rfl,(λe h=>by simp_all),λz=>rfl⟩;have i:=I.laid (o:=.own<|s.heap.objs.size+1) (t':=s.toks) (λb u q=>Oe _ q) (N9 _) ⟨_,E⟩;refine i.laid (λb u q=>Oe _ q) (Tw<|So _ _) ?_;have n:s.heap.objs.size≠s.heap.objs.size+1:=OL<|Ua _;refine⟨by rw[af n,aa],Oy _,n,c,λz=>NZ,(Heap.Ns1.of_empty d).at λo q=>Oe _ q,λz=>QS,λy f=>absurd rfl f⟩
theorem Fa{p:Om}{w:OI}{P:Pos}{s:Od}{Q:NX->Od->Prop}(H:SJ e f v (Qm e v)=Qm e v)
  (h:wpAny (OU p w) A (Qm e v) (λo a=>wpAny (OU p w) A (getAttr o f NW) Q E a) E s):wpAny (OU p w) A (Qm (.Attribute e f P) v) Q E s:=
 Attribute_any_ h (by rw[arm_eval_Attribute,H])
def IX(K:C')(t:TE)(f:Str):TE:=λb H Q=>t b H λx h=>∃a C d F v,x=.ref a/\h a=gV (.ins C d F)/\Cls K C/\NoAttr K C f/\F.lookup f=gV v/\Q v h
def IY(K:C')(t T:TE)(f:Str):TS:=λD b H=>T b H λy c=>t b c λx h=>∃a C d F,x=.ref a/\h a=gV (.ins C d F)/\Cls K C/\NoAttr K C f/\F.length<1000/\
 D.nx b (upd h a<|.ins C d<|fX f y F)
theorem A4(b:PE X e t)(d:SJ e f X.env (Qm e X.env)=Qm e X.env):PE X (.Attribute e f p) (IX X.K t f):=by
 intro O s g H Q I h;refine Fa d<|bN (b O s g H _ I h) λu w z=>?_;obtain⟨x,i,j,r,a,C,D,F,v,E,k,c,n,l,q⟩:=z;subst E;obtain rfl:u=PF a:=r;exact vv j k c n l λU y m o=>⟨v,i,m,o,q⟩
theorem jm(d:PE X o t)(e:PE X v T)(g:UQ v (gV<|.Attribute o f i) p.line X.env=pure N8):PS X (.Assign [.Attribute o f i] v p) (IY X.K t T f):=by
 intro O s b H D I h;refine plainObj_wpAny_Assign_Attribute (bN (e O s b H _ I h) λu j Y=>?_) g;obtain⟨y,k,m,r,q⟩:=Y;refine bN (d O j b k _ m q) λw G Z=>?_;obtain⟨x,J,z,A,a,C,L,M,E,B,c,n,l,Q⟩:=Z;subst E;obtain rfl:w=PF a:=A;exact vw z B c n l r λN F=>⟨b,_,F,Q⟩
inductive jn (K:C')(H:Hp):V->NX->Prop where
 |non:jn K H .non (.type "NoneType")
 |bl (x:N'):jn K H (.bl x) (.type "bool")
 |int (i:Int):jn K H (.int i) (.type "int")
 |str (x:Str):jn K H (.str x) (.type "str")
 |flt (x:UInt64):jn K H (.flt x) (.type "float")
 |lst {a:J'} {xs:ab V} (e:H a=gV (.lst xs)):jn K H (.ref a) (.type "list")
 |frz {a:J'} {o:Obj} {xs:ab V} (e:H a=gV (.frz o<|.lst xs)):jn K H (.ref a) (.type "list")
 |tup {a:J'} {xs:ab V} (e:H a=gV (.tup xs)):jn K H (.ref a) (.type "tuple")
 |dK {a:J'} {k:ab (aR×V)} (e:H a=gV (.dK k)):jn K H (.ref a) (.type "dict")
 |dT {a:J'} {k:ab (ab aR×V)} (e:H a=gV (.dT k)):jn K H (.ref a) (.type "dict")
 |ins {a C dx:J'} {fs:ab (Str×V)} (e:H a=gV (.ins C dx fs)) (cl:Cls K C) (ha:O3 K (.ref C) "__class__"=gV (gV<|.builtin "object.__class__"))
   (hn:Tp K (.builtin "object.__class__") "__get__"=gV (gV<|.builtin "getset_descriptor.__get__")) (htk:Uv K (.builtin "object.__class__")=gV NW)
   (hm:Ug K C (.type "object")=gV NW):jn K H (.ref a) (.ref C)
theorem pZ(I:Inv X M N H s)(r:RelV x u)(T:jn X.K H x t)(e:QE X.K t c=gV b)(h:∀v,Q (.bool b) {s with toks:=v}):
  wpAny (OU X.prog X.w) A (call (.builtin "isinstance") [u,c]) Q E s:=by
 cases T with
 |non=>cases(r);exact Qt PySem.W.kitx_none I.kIn QS e (by simp) h
 |bl y=>cases(r);exact Qt PySem.W.kitx_bool I.kIn QS e (by simp) h
 |int i=>obtain⟨t,q⟩:=(r);cases q;exact Qt PySem.W.kitx_int I.kIn QS e (by simp) h
 |str y=>obtain⟨t,q⟩:=(r);cases q;exact Qt PySem.W.kitx_str I.kIn QS e (by simp) h
 |flt y=>obtain⟨t,q⟩:=(r);cases q;exact Qt PySem.W.kitx_float I.kIn QS e (by simp) h
 |@lst a g d=>
  cases(r);obtain⟨z,z,n,z,f⟩:=(I.hok a _ d);exact Qt Yo I.kIn ⟨_,f,rfl⟩ e (by simp) h
 |@frz a w g d=>
  cases(r);obtain⟨z,z,z,n,z,f⟩:=(I.hok a _ d);exact Qt Yo I.kIn ⟨_,f,rfl⟩ e (by simp) h
 |@tup a g d=>
  cases(r);obtain⟨z,z,z,p⟩:=(I.hok a _ d);obtain⟨o,f,j,z⟩:=p;exact Qt PySem.W.kitx_tuple I.kIn ⟨o,f,j⟩ e (by simp) h
 |@dK a k d=>
  cases(show u=PF a from r);obtain⟨z,z,P,z,p⟩:=(I.hok a _ d);obtain⟨o,B,D,f,j,z⟩:=p;exact Qt Yp I.kIn ⟨o,f,j.1⟩ e (by simp) h
 |@dT a k d=>
  cases(show u=PF a from r);obtain⟨z,z,g,z,o,B,D,f,j,z⟩:=(I.hok a _ d);exact Qt Yp I.kIn ⟨o,f,j.1⟩ e (by simp) h
 |@ins a C U W d m F G l L=>
  cases(r);obtain⟨Y,O,z⟩:=mT I.hok d;obtain⟨Z,J,z⟩:=O.look;exact Qt (PySem.W.kitx_own (m.get _) m.hd F G l L) I.kIn J e (by simp) h
structure Room (k:Nat)(A:PL):Prop where
 hd:A.handled=NZ
 dp:A.depth+3*k+5<ZN
 un:A.units+16*k+200<Sm
theorem Room.mono(r:Room k A)(h:j<=k):Room j A:=⟨r.hd,by have:=r.dp;lia,by have:=r.un;lia⟩
theorem Room.deeper(r:Room (k+1) A)(e:Env):Room k (A.deeper e):=
 ⟨r.hd,by have:=r.dp;show A.depth+1+3*k+5<_;lia,by have:=r.un;show A.units+3+16*k+200<_;lia⟩
theorem vx{A:PL}{C:J'}{u:ab NX}{k:ab (Str×NX)}:(A.under<|.builtin "type.__call__" ⟨.ref C::u,k⟩).depth=A.depth+1:=by
 first|rfl|simp 
theorem vy{A:PL}{C:J'}{u:ab NX}{k:ab (Str×NX)}:(A.under<|.builtin "type.__call__" ⟨.ref C::u,k⟩).units=A.units+1:=by
 first|rfl|simp 
theorem Room.make(r:Room (k+1) A)(C:J')(u:ab NX)(w:ab (Str×NX)):Room k (A.under<|.builtin "type.__call__" ⟨.ref C::u,w⟩):=
 ⟨r.hd,by have:=r.dp;rw[vx];lia,by have:=r.un;rw[vy];lia⟩
theorem Room.depth(r:Room k A):A.depth<ZN:=by have:=r.dp;lia
theorem Room.units(r:Room k A):A.units+64<Sm:=by have:=r.un;lia
def vz:TA:=λ_ H Q=>Q [] H
def jc(t:TE)(T:TA):TA:=λa H Q=>t a H λx h=>T a h λX b=>Q (x::X) b
theorem ik:PA X [] vz:=λz z z z H Q I h=>Vq ⟨[],H,I,.nil,h⟩
theorem aV(b:PE X e T)(r:PA X E t)(c:OS (e::E) X.env=(N8,Qm e X.env)::OS E X.env:=by rfl):PA X (e::E) (jc T t):=by
 intro p O s a H Q I h;rw[c];exact Ta<|bN (b O s a H _ I h) (by rintro u d ⟨x,f,i,g,q⟩;exact bN (r p O d a f _ i q) (by rintro U o ⟨j,k,l,m,n⟩;exact ⟨x::j,k,l,.cons g m,n⟩))
def MU(t:TA):TE:=λa H Q=>t a H λx h=>x.length<=sizeLine/\∀p,h p=NZ->Q (.ref p) (upd h p<|.tup x)
def MV(t:TA):TE:=λa H Q=>t a H λx h=>x.length<=sizeLine/\∀p,h p=NZ->Q (.ref p) (upd h p<|.lst x)
theorem dZ{x}(h:PA X E t):PE X (.Tuple E x p) (MU t):=by
 intro O s d H Q I f;refine wpAny_Tuple_spliced<|bN (h p O s d H _ I f) λU a y=>?_;obtain⟨g,c,i,r,z,q⟩:=y;refine ⟨by rwa[<-r.length],?_⟩;have j:=i.hok.fresh<|N9 _;exact⟨.ref _,upd c _<|.tup g,i.laid (λb u e=>Oe _ e) (N9 _) (⟨z,U,r,⟨_,OX _ rfl,rfl,_,rfl⟩⟩),rfl,q _ j⟩
theorem A5(h:PA X E t):PE X (.List E p) (MV t):=by
 intro O s d H Q I f;refine wpAny_List_spliced<|bN (h p O s d H _ I f) λU a y=>?_;obtain⟨x,c,i,r,z,q⟩:=y;refine ⟨by rwa[<-r.length],?_⟩;have g:=i.hok.fresh<|N9 _;exact⟨.ref _,upd c _<|.lst x,i.laid (λb u e=>Oe _ e) (N9 _) (⟨z,U,0,r,OX _ rfl⟩),rfl,q _ g⟩
abbrev Sp:=ab V->Hp->VK->XK->Prop
abbrev A6:=ab Env->Hp->Od->XK->NX->Od->Prop
structure Env0 (P:Om)(w:OI)(K:C')(mg:Str->M' NX)(base:Pd)(A:PL)(outer:ab Env)(s:Od)(H:Hp):Prop where
 frames:A.frames=gV outer
 mod:Mod K mg base
 bs:∀b o,base.get? b=gV o->s.heap.get? b=gV o/\H b=NZ
 bsz:base.objs.size<=s.heap.objs.size
 funs:s.heap.FunFrames base outer
 frf:∀b∈vj outer,H b=NZ
 hok:HOk P w H s.heap
 bare:Vs s.gens
def CE(o:ab Env)(P:Om)(w:OI)(H:Hp)(s:Od)(Q:VK)(u:NX)(a:Od):Prop:=
 ∃v h,a.os=s.os/\Vs a.gens/\Un (vj o) [] H h s.heap a.heap/\HOk P w h a.heap/\RelV v u/\Q v h
def CR(C:A6)(o:ab Env)(P:Om)(w:OI)(H:Hp)(s:Od)(Q:VK)(E:XK)(r:ZW)(a:Od):Prop:=
 match r with
 |.ok (.ret u)=>CE o P w H s Q u a
 |.ok _=>False
 |.error e=>C o H s E e a
structure ay (P:Om)(w:OI)(K:C')(mg:Str->M' NX)(base:Pd)(CX:A6)(k:Nat)(f:J')(fd:Ol)(ps:ab Str)(sp:Sp):Prop where
 len:∀vs H Q E,sp vs H Q E->vs.length=ps.length
 run:∀(A:PL) (outer:ab Env) (s:Od) (H:Hp) (args:Args) (us:ab NX) (vs:ab V) (Q:VK) (E:XK),Room k A->Env0 P w K mg base A outer s H->Yu s fd args (ps.zip us)->Vals vs us->sp vs H Q E->
  codeAny (OU P w) A (.call (.ref f) args) (CR CX outer P w H s Q E) s
theorem Env0.make{P:Om}{w:OI}{K:C'}{m:Str->M' NX}{b:Pd}{A:PL}{o:ab Env}{s:Od}{H:Hp}(e:Env0 P w K m b A o s H)(C:J')(u:ab NX)(k:ab (Str×NX)):
  Env0 P w K m b (A.under<|.builtin "type.__call__" ⟨.ref C::u,k⟩) o s H:=⟨by first|exact e.frames|(simpa using e.frames),e.mod,e.bs,e.bsz,e.funs,e.frf,e.hok,e.bare⟩
theorem Inv.env0(I:Inv X O a H s):Env0 X.prog X.w X.K X.mg X.base X.A X.stack s H:=
 ⟨I.ok.frames,I.ok.mod,I.bs,O8 I.ok.bsz I.sz,I.stack,I.stkFree,I.hok,I.bare⟩
theorem Inv.after(I:Inv X O c H s)(h:CE X.stack X.prog X.w H s Q u a):EP X O c Q u a:=by
 obtain⟨v,e,os,B,U,k,r,q⟩:=h;obtain⟨f,g,d,t,o⟩:=a;obtain rfl:o=s.os:=os;exact⟨v,e,I.call U k B (λb z=>by simp_all),r,q⟩
def xp(s:Sp)(d:ab V)(E:XK)(t:TA):TE:=λa H Q=>t a H λv h=>s (v++d) h Q E
def tK(C:J')(m:Str)(s:Sp)(d:ab V)(E:XK)(T:TE)(t:TA):TE:=λb H Q=>T b H λx h=>∃a D f,x=.ref a/\h a=gV (.ins C D f)/\f.lookup m=NZ/\
 t b h λv c=>s (x::(v++d)) c Q E
def GZ(C:J')(s:Sp)(D:ab V)(E:XK)(t:TA):TE:=λa H Q=>t a H λb h=>∀x d,h x=NZ->h d=NZ->d≠x->
 s (.ref x::(b++D)) (upd (upd h d<|.own x) x<|.ins C d []) (λv c=>v=.non/\Q (.ref x) c) E
def Binds(K:C')(f:Ol)(p:ab Str)(d:ab NX):Prop:=
 ∀(s:Od) (u:ab NX),K.In s.heap->(u++d).length=p.length->Yu s f ⟨u,[]⟩ (p.zip<|u++d)
theorem Binds.all{K:C'}{f:Ol}{p:ab Str}(h:∀u,u.length=p.length->Ym f ⟨u,[]⟩=pure (p.zip u)):Binds K f p []:=λs u z H=>by
 rw[Py]at H ⊢;exact .of_eq<|h u H
def jo(C:A6)(X:Cx)(E:XK):Prop:=∀(O:ab (J'×Obj)) (b:St) (H:Hp) (s:Od) (e:NX) (a:Od),Inv X O b H s->C X.stack H s E e a->X.xe e a
section
variable {X:Cx}{CX:A6}{k:Nat}{f C:J'}{fd:Ol}{ps:ab Str}{sp:Sp}{dvs:ab V}{ds:ab NX}{E:XK}{x:Str}{p pos:Pos}{e:Px}{es:ab Px}{t:TA}
theorem vA{O:ab (J'×Obj)}{a:St}{H:Hp}{s:Od}{Q:VK}{U:ab NX}{v:ab V}(F:ay X.prog X.w X.K X.mg X.base CX k f fd ps sp)(c:Room k X.A)(d:Binds X.K fd ps ds)(g:Vals dvs ds)(i:jo CX X E)
  (I:Inv X O a H s) (r:Vals v U) (h:sp (v++dvs) H Q E):wpAny (OU X.prog X.w) X.A (call (.ref f) U) (EP X O a Q) X.xe s:=by
 have b:=r.append g;have l:(U++ds).length=ps.length:=by rw[<-b.length];exact F.len _ _ _ _ h
 refine XB<|Tn (F.run X.A _ s H _ _ _ Q E c I.env0 (d s U I.kIn l) b h) λr j q=>?_;cases r with
 |error e=>exact i O a H s e j I q
 |ok m=>
  cases m with
  |ret u=>exact I.after q
  |next=>exact P2 q
  |brk=>exact P2 q
  |cont=>exact P2 q
theorem Fb(F:ay X.prog X.w X.K X.mg X.base CX k f fd ps sp)(a:Room k X.A)(g:Gl X x)(m:X.mg x=gV (.ref f))(c:P_ X.K (.ref f)=NW)(d:Binds X.K fd ps ds)(j:Vals dvs ds)(l:jo CX X E)
  (n:PA X (e::es) t) (b:(x == ("__debug__":Str))=false:=by decide) (o:OS (e::es) X.env=(N8,Qm e X.env)::OS es X.env:=by rfl) (u:(Rc pos<|OS es X.env).any (·.1)=false:=by rfl):
  PE X (.Call (.Name x p) (e::es) [] pos) (xp sp dvs E t):=by
 intro O s v H Q I h;exact Qd<|mR I g m (S8 I.ok.mod.kin c (bN (n pos O s v H _ I h) (by rintro U w ⟨y,z,i,r,q⟩;exact ⟨i.kIn,vA F a d j l i r q⟩)) o u) b
theorem Fc{m:Str}{v:Pos}{o:Px}{T:TE}{P:Sem N'}(w:PE X o T)(c:Cls X.K C)(d:E_ X.K C m f)(F:ay X.prog X.w X.K X.mg X.base CX k f fd ps sp)(y:Room k X.A)(z:Binds X.K fd ps ds)(A:Vals dvs ds)(B:jo CX X E)(D:PA X (e::es) t)
  (b:OS (e::es) X.env=(N8,Qm e X.env)::OS es X.env:=by rfl) (G:(Rc pos<|OS es X.env).any (·.1)=false:=by rfl)
  (J:Qm (.Call (.Attribute o m v) (e::es) [] pos) X.env=(do
   let O <-Qm o X.env
   Xc v.atName
   let (f,first) <-Vl [O] (VQ O m P)
   ZR pos f first (Rc pos<|OS (e::es) X.env) (WN pos<|Uj [] X.env)):=by rfl):
  PE X (.Call (.Attribute o m v) (e::es) [] pos) (tK C m sp dvs E T t):=by
 intro g s i H Q I h;refine Wq (bN (w g s i H _ I h) λu L p=>?_) J;obtain⟨x,M,j,N,a,dx,fs,U,W,l,q⟩:=p;subst U;obtain rfl:u=PF a:=N;exact nJ j W c d l<|S8 I.ok.mod.kin d.kp (bN (D pos g L i M _ j q) (by rintro Y s2 ⟨Z,H2,n,r,q2⟩;exact ⟨n.kIn,vA (v:=.ref a::Z) F y z A B n (.cons rfl r) q2⟩)) b G
theorem A7{P:Sem N'}(d:PE X o T)(c:Cls X.K C)(b:E_ X.K C m f)(F:ay X.prog X.w X.K X.mg X.base CX k f fd ps sp)(r:Room k X.A)(g:Binds X.K fd ps ds)(j:Vals dvs ds)(n:jo CX X E)
  (w:Qm (.Call (.Attribute o m v) [] [] pos) X.env=(do
   let O <-Qm o X.env
   Xc v.atName
   let (f,first) <-Vl [O] (VQ O m P)
   ZR pos f first (Rc pos<|OS [] X.env) (WN pos<|Uj [] X.env)):=by rfl):
  PE X (.Call (.Attribute o m v) [] [] pos) (tK C m sp dvs E T vz):=by
 intro y s z H Q I h;refine Wq (bN (d y s z H _ I h) λu G t=>?_) w;obtain⟨x,J,i,A,a,L,M,B,D,l,q⟩:=t;subst B;obtain rfl:u=PF a:=A;exact nJ i D c b l<|PySem.W.callWith_K0 i.kIn b.kp<|vA (v:=[.ref a]) F r g j n i (.cons rfl .nil) q
structure Mk (K:C')(C f:J'):Prop where
 makes:SV K C=NW
 init:O3 K (.ref C) "__init__"=gV (gV<|.ref f)
 fn:UJ K (.ref f)=NW
 kp:P_ K (.ref C)=NW
theorem A8{O:ab (J'×Obj)}{b:St}{H:Hp}{s:Od}{Q:VK}{U:ab NX}{c:ab V}(M:Mk X.K C f)(F:ay X.prog X.w X.K X.mg X.base CX k f fd ps sp)(j:Room (k+1) X.A)(l:Binds X.K fd ps ds)(m:Vals dvs ds)
  (n:jo CX X E) (I:Inv X O b H s) (r:Vals c U)
  (h:∀x d,H x=NZ->H d=NZ->d≠x->sp (.ref x::(c++dvs)) (upd (upd H d<|.own x) x<|.ins C d []) (λv o=>v=.non/\Q (.ref x) o) E):
  wpAny (OU X.prog X.w) X.A (call (.ref C) U) (EP X O b Q) X.xe s:=by
 have q:=h _ _ (I.hok.fresh<|Te _) (I.hok.fresh<|N9 _)<|OL<|Ua _;have i:=Inv.made (C:=C) I;have g:Vals (V.ref (s.heap.objs.size+1)::(c++dvs)) _:=.cons rfl<|r.append m;have w:(PF (s.heap.objs.size+1)::U++ds).length=ps.length:=by
  have e:=g.length;rw[F.len _ _ _ _ q]at e;exact e.symm
 refine XB (A3 I.kIn M.makes M.init (UV.mp M.fn) (Tn (F.run _ _ _ _ _ _ _ _ E (j.make C U [])
  (i.env0.make C U []) (l _ _ i.kIn w) g q) λr y a=>?_))
 cases r with
 |error e=>exact n O b _ _ e y i a
 |ok z=>
  cases z with
  |ret u=>
   obtain⟨v,A,B,D,G,J⟩:=i.after a;subst G;exact⟨D,⟨V.ref<|s.heap.objs.size+1,A,B,rfl,J⟩⟩
  |next=>exact P2 a
  |brk=>exact P2 a
  |cont=>exact P2 a
theorem Ff(M:Mk X.K C f)(F:ay X.prog X.w X.K X.mg X.base CX k f fd ps sp)(a:Room (k+1) X.A)(g:Gl X x)(m:X.mg x=gV (.ref C))(c:Binds X.K fd ps ds)(d:Vals dvs ds)(j:jo CX X E)
  (l:PA X (e::es) t) (b:(x == ("__debug__":Str))=false:=by decide) (n:OS (e::es) X.env=(N8,Qm e X.env)::OS es X.env:=by rfl) (u:(Rc pos<|OS es X.env).any (·.1)=false:=by rfl):
  PE X (.Call (.Name x p) (e::es) [] pos) (GZ C sp dvs E t):=by
 intro O s o H Q I h;exact Qd<|mR I g m (S8 I.ok.mod.kin M.kp (bN (l pos O s o H _ I h) (by rintro U v ⟨w,y,i,r,q⟩;exact ⟨i.kIn,A8 M F a c d j i r q⟩)) n u) b
end
structure dk (N P:ab Str)(sc:RY):Prop where
 kind:sc.kind=.function
 co:sc.isCoroutine=N8
 gen:sc.isGenerator=N8
 nd:N.Nodup
 pre:N.take P.length=P
 par:∀x∈P,sc.names.lookup x=gV .local\/sc.names.lookup x=gV .cell
 nofree:∀y∈sc.names,y.2≠.free
theorem p_{kindOf:Str->M' U1}{x:Str}:∀{b:ab (Str×NX)} {m:Str->M' NX},(∀v,(x,v)∉b)->ZS kindOf b m x=m x
 |[],_,_=>rfl
 |(n,v)::r,m,h=>by
  unfold ZS;rw[p_ λw H=>h w<|Ow _ H]
  split
  ·grind
  rfl
theorem qc{kindOf:Str->M' U1}{x:Str}:∀{b:ab (Str×NX)} {m:Str->M' NX},(∀v,(x,v)∉b)->ZT kindOf b m x=m x
 |[],_,_=>rfl
 |(n,v)::r,m,h=>by
  unfold ZT;rw[qc λw H=>h w<|Ow _ H]
  split
  ·rfl
  grind
theorem qd{kindOf:Str->M' U1}{x:Str}{v:NX}:∀{P:ab Str} {s:ab NX} {i:Nat} {m:Str->M' NX},P.Nodup->P[i]?=gV x->s[i]?=gV v->kindOf x=gV .local->
  ZS kindOf (P.zip s) m x=gV v
 |[],_,_,_,_,h,_,_=>by simp at h
 |_::_,[],_,_,_,_,h,_=>by simp at h
 |p::P,w::s,0,m,n,H,a,k=>by
  simp at H a;subst H;subst a;show ZS _ ((p,w)::P.zip s) m p=_
  unfold ZS;rw[p_ λv b=>(PJ.mp n).1 (SY b).1,On k];simp
 |p::P,w::s,i+1,m,n,H,a,k=>by
  show ZS _ ((p,w)::P.zip s) m x=_
  exact qd (PJ.mp n).2 (by assumption) (by assumption) k
theorem qe{kindOf:Str->M' U1}{x:Str}{v:NX}:∀{P:ab Str} {s:ab NX} {i:Nat} {m:Str->M' NX},P.Nodup->P[i]?=gV x->s[i]?=gV v->kindOf x≠gV .local->
  ZT kindOf (P.zip s) m x=gV v
 |[],_,_,_,_,h,_,_=>by simp at h
 |_::_,[],_,_,_,_,h,_=>by simp at h
 |p::P,w::s,0,m,n,H,a,k=>by
  simp at H a;subst H;subst a;show ZT _ ((p,w)::P.zip s) m p=_
  unfold ZT;rw[qc λv b=>(PJ.mp n).1 (SY b).1,Oo k];simp
 |p::P,w::s,i+1,m,n,H,a,k=>by
  show ZT _ ((p,w)::P.zip s) m x=_
  exact qe (PJ.mp n).2 (by assumption) (by assumption) k
noncomputable def start(N:ab Str)(v:ab V):St:=v.map gV++List.replicate (N.length-v.length) NZ
noncomputable def rg(C:A6)(P:Om)(w:OI)(K:C')(mg:Str->M' NX)(base:Pd)(N:ab Str)(q:Str)(a:RY)(f:J')(c:NX)(A:PL)(outer:ab Env)(s:Od)(H:Hp)(E:XK):Cx where
 prog:=P
 w:=w
 K:=K
 mg:=mg
 base:=base
 A:=A.deeper (QY q a s.heap.objs.size f c)
 N:=N
 s₀:=s
 H₀:=H
 env:=QY q a s.heap.objs.size f c
 outer:=outer
 stack:=QY q a s.heap.objs.size f c::outer
 ex:=[]
 calm:=NW
 fn:=λ_=>NW
 pn:=[]
 xe:=λe d=>wpAny (OU P w) (A.deeper<|QY q a s.heap.objs.size f c) (leaving (QY q a s.heap.objs.size f c) e) (λ_ b=>C outer H s E e b) (λg b=>C outer H s E g b) d
theorem tL{s:RY}{n:Nat}{x:Str}(h:s.names.lookup x=gV .cell):∃c,(PK n s.names []).lookup x=gV c:=by
 have q:=V6 _ n []<|.inl h;exact QF.mp q
theorem zc{X:A6}{P:Om}{w:OI}{K:C'}{M:Str->M' NX}{B:Pd}{N l:ab Str}{Q:Str}{d:RY}{f:J'}{F:NX}{A:PL}{o:ab Env}{s J:Od}{H:Hp}{E:XK}{U:ab NX}{m:ab V}
  (S:dk N l d) (T:A.handled=NZ) (j:Env0 P w K M B A o s H) (Z:m.length=l.length) (r:Vals m U)
  (x:InCallC s s.heap.objs.size (ZS (QY Q d s.heap.objs.size f F).kindOf (l.zip U) λR=>NZ) (PK (s.heap.objs.size+1) d.names []) (ZT (QY Q d s.heap.objs.size f F).kindOf (l.zip U) λR=>NZ) J):
  Inv (rg X P w K M B N Q d f F A o s H E) [] (start N m) H J:=by
 have Xu:l.length<=N.length:=by have:=O1 P7 S.pre;rw[OB]at this;lia
 obtain⟨G,tk,rfl,L⟩:=x.done;have n:∀b,b∉(rg X P w K M B N Q d f F A o s H E).ex:=λb z=>absurd (show b∈([])from z) (by simp);refine⟨⟨j.mod,S.kind,rfl,rfl,N9 _,λy z c G g=>?_,λy t=>?_,λy c R h=>?_,λR=>T,WV j.frames,.inr ⟨rfl,rfl⟩,λb z=>absurd z<|n b,j.bs,j.bsz,λb R R=>n b,λb z=>absurd z<|n b,j.funs,j.frf⟩,
  rfl,j.bare,Un.kept L,⟨_,x.toInCall.ns,λi y v G g h3=>?_⟩,λy c h=>⟨_,x.cell y c h⟩,j.hok.fresh<|N9 _,λy c h=>?_,λp C=>absurd (show p∈([])from C) (by simp),j.hok.kept L,?_⟩
 ·exact Yl x.apart (PD G)<|PD g
 ·have t:=t;obtain t|t:=t
  ·exact tL t
  exact absurd rfl<|S.nofree _<|PD t
 ·exact OW<|x.above y c<|PD h
 ·have I:i<m.length:=by
   unfold start at g;by_cases I:i<m.length
   ·exact I
   rw[OP<|by simpa using I]at g;rw[List.getElem?_replicate]at g
   split at g<;>cases g
  have W:m[i]?=gV v:=by
   unfold start at g;rw[ON (by simpa using I),Ox]at g;cases e:m[i]? with
   |none=>rw[e]at g;cases g
   |some a=>rw[e]at g;cases g;rfl
  obtain⟨u,O,Y⟩:=r.get W;have C:l[i]?=gV y:=by
   rwa[<-S.pre,Pj<|by exact Pf I (Tw Z)]
  have D:l.Nodup:=by rw[<-S.pre];exact S.nd.sublist<|Sj _ _
  exists u,Y;obtain k|k:=S.par y (N5 C)
  ·exact .inl ⟨k,qd D C O k⟩
  obtain⟨c,e⟩:=tL k;refine .inr ⟨.inl k,c,e,?_⟩;have q:=x.cell y c e;rwa[qe D C O (by show d.names.lookup y≠_;rw[k];decide)]at q
 ·exact j.hok.fresh<|OW<|x.above y c<|PD h
 unfold start;show _=N.length
 rw[N0,B',List.length_replicate];lia
theorem G0{X:A6}{P:Om}{w:OI}{K:C'}{M:Str->M' NX}{B:Pd}{k:Nat}{f:J'}{h l:Str}{p:Sy}{c:ab Pn}{a:RY}{dV kV ZA pm j ct oc:NX}{an od:M' J'}
  {F:Qs (M' NX)} {N D:ab Str} {sp:Sp} (lk:K.lookup f=gV ⟨oc,od,.func<|Q9 h l p c a dV kV ZA pm an j ct,F⟩) (L:Tq K j l=NW) (S:dk N D a)
  (G:∀d H Q E,sp d H Q E->d.length=D.length)
  (T:∀A O s H d Q E,Room k (A.deeper<|QY l a s.heap.objs.size f j)->sp d H Q E->
   ∃t,PSs (rg X P w K M B N l a f j A O s H E) c t/\t {nx:=λ_ i=>Q .non i,rt:=Q} (start N d) H):
  ay P w K M B X (k+1) f (Q9 h l p c a dV kV ZA pm an j ct) D sp:=by
 refine⟨G,λA O s H ac us d Q E U z hb r C=>?_⟩;have hl:=G _ _ _ _ C;have KX:=z.mod.kin.keeps λb o e=>(z.bs b o e).1;have W:=z.mod.nolimit.keeps λb o e=>(z.bs b o e).1;have Y:∀y∈D.zip us,a.names.lookup y.1=gV _\/(a.names.lookup y.1=gV _/\((PK (s.heap.objs.size+1) _ []).lookup y.1).isSome=NW):=λ⟨n,v⟩ hy=>by
  obtain q|q:=S.par n (SY hy).1
  ·exact .inl q
  exact .inr ⟨q,V6 _ _ _<|.inl q⟩
 refine codeAny_call_function U.depth (KX _ _ lk) rfl S.co S.gen rfl (PySem.W.codeRec_of KX L)<|hb _ _ _ _<|wpAny_newFunctionEnv_cells S.kind Y λam he s1 x=>?_;subst he;refine⟨W.keeps x.toInCall.keep,codeAny_func ?_⟩;obtain⟨t,ht,hq⟩:=T A O s H d Q E (U.deeper _) C;have I:Inv (rg X P w K M B N l a f j A O s H E) [] _ H s1:=zc S U.hd z hl r x;refine Qk (ht [] s1 _ H _ I hq) (λfl Z m=>?_) λe Z m=>m;have XX:∀{g:St} {i:Hp} {v:V} {u:NX},Inv (rg X P w K M B N l a f j A O s H E) [] g i Z->RelV v u->Q v i->CE O P w H s Q u Z:=
  λ{g i v u} J rv q=>⟨v,i,J.os,J.bare,J.base,J.hok,rv,q⟩
 cases fl with
 |ret u=>
  obtain⟨v,g,i,J,rv,q⟩:=m;exact XX J rv q
 |next=>
  obtain⟨g,i,J,q⟩:=m;exact XX (v:=V.non) J rfl q
 |brk=>
  obtain⟨_,_,_,q⟩:=m;exact P2 q
 |cont=>
  obtain⟨_,_,_,q⟩:=m;exact P2 q
section
variable {X:Cx}{x:Str}{p pos:Pos}{e:Px}{es:ab Px}{t:TA}{id:Sa}{r:ab V->Hp->VK->Prop}
def NE(r:ab V->Hp->VK->Prop)(t:TA):TE:=λa H Q=>t a H λv h=>r v h Q
theorem aN(c:eS X (.builtin id) r)(g:Gl X x)(m:X.mg x=NZ)(v:To x=gV (.builtin id))(d:PA X (e::es) t)(n:x≠"__name__":=by decide)(b:(x == ("__debug__":Str))=false:=by decide)
  (f:OS (e::es) X.env=(N8,Qm e X.env)::OS es X.env:=by rfl) (u:(Rc pos<|OS es X.env).any (·.1)=false:=by rfl):PE X (.Call (.Name x p) (e::es) [] pos) (NE r t):=by
 intro O s a H Q I h;exact Qd<|eF I g m v (YZ (bN (d pos O s a H _ I h) (by rintro U i ⟨j,k,l,o,q⟩;exact c O i a k j U Q l o q)) f u) n b
theorem aW{T:Sa}(c:eS X (.type T) r)(g:Gl X x)(m:X.mg x=NZ)(v:To x=gV (.type T))(d:PA X (e::es) t)(n:x≠"__name__":=by decide)(b:(x == ("__debug__":Str))=false:=by decide)
  (f:OS (e::es) X.env=(N8,Qm e X.env)::OS es X.env:=by rfl) (u:(Rc pos<|OS es X.env).any (·.1)=false:=by rfl):PE X (.Call (.Name x p) (e::es) [] pos) (NE r t):=by
 intro O s a H Q I h;exact Qd<|eF I g m v (PY (bN (d pos O s a H _ I h) (by rintro U i ⟨j,k,l,o,q⟩;exact c O i a k j U Q l o q)) f u) n b
end
end L2
namespace HT
open PySem PyProof.Rows
noncomputable def sIx(n d:Nat):M' Int->Nat
 |none=>d
 |some v=>if v<0 then(v+(n:Int)).toNat else min v.toNat n
theorem kf(n d k:Nat):sIx n d (gV (k:Int))=min k n:=by
 rfl
theorem IZ(n d:Nat)(H:d<=n)(o:M' Int):sIx n d o<=n:=by
 cases o with
 |none=>exact H
 |some v=>
  show(if v<0 then(v+(n)).toNat else min _ n)<=n
  by_cases h:v<0
  ·rw[On h];lia
  rw[Oo h];exact T_ _ _
theorem xq(v:Int)(n d:Nat):(if v<0 then max (v+(n:Int)) 0 else min v (n:Int))=((sIx n d (gV v):Nat):Int):=by
 show(if v<0 then max _ 0 else min v _)=(((if v<0 then(v+(n)).toNat else min _ n):Nat))
 grind
theorem vB(lo h:M' Int)(n:Nat):SC lo h 1 (n:Int)=(((sIx n 0 lo:Nat):Int),((sIx n n h:Nat):Int)):=by
 unfold SC;simp only ;refine Tu ?_ ?_
 ·cases lo with
  |none=>rfl
  |some v=>exact xq v n 0
 cases h with
 |none=>rfl
 |some v=>exact xq v n n
theorem vC(i j:Nat):Rx (i:Int) (j:Int) 1=j-i:=by
 unfold Rx;have h:(1:Int)>0:=by simp
 simp only[h,Vi,Int.ediv_one]
 split<;>lia
theorem nK(p:XR v o)(h:Q o s):wpAny (OU P w) A (Zl v) Q E s:=by
 cases p with
 |none=>exact Z1 h
 |int i t=>exact slicePart_int h
theorem sliceApplied_gen{l:J'}{v u:NX}{lo H:M' Int}{n:Nat}{Q:Int×Int×Nat->Od->Prop}(b:s.heap.IsSliceOf l v u .none)(P:XR v lo)(c:XR u H)
  (h:Q (((sIx n 0 lo:Nat):Int),1,sIx n n H-sIx n 0 lo) s):wpAny (OU p w) A (Sq (.ref l)<|pure (n:Int)) Q E s:=by
 obtain⟨os,a,d,Z⟩:=id b;refine Oa<|Oa<|Y8 a Z (x:=v) rfl<|Oa<|Y8 a Z (x:=u) rfl<|Oa<|Y8 a Z rfl<|Oq<|Oa<|Z1<|Oa<|nK P<|Oa<|nK c<|Oa<|Oq ?_;show wpAny _ _ (match SC lo H 1 (n)with|(lo,H)=>pure (lo,(1:Int),Rx lo H 1)) _ _ s
 rw[vB lo H n];show wpAny _ _ (pure _) _ _ s
 rw[vC];exact Oq h
theorem A9(X:Qs NX)(i k:Nat):((O7 k).filterMap λ(m:Nat)=>X[((i:Int)+(m:Int)*1).toNat]?).toArray=((X.toList.drop i).take k).toArray:=by
 have e:(λ(m:Nat)=>X[((i:Int)+(m)*1).toNat]?)=λm=>X[i+m]?:=by
  grind
 rw[e];have:=pick_run X i k;have E:((λx=>X[x]?)∘λx=>i+x)=λm=>X[i+m]?:=rfl;simp_all
theorem getItem_tuple_cut{t l:J'}{i:Qs NX}{v u:NX}{lo H:M' Int}{Q:NX->Od->Prop}(b:PyProof.Rows.IsTup s.heap t i)(e:s.heap.IsSliceOf l v u .none)(P:XR v lo)(f:XR u H)
  (g:¬(sIx i.size 0 lo=0/\sIx i.size i.size H=i.size))
  (h:Q (.ref s.heap.objs.size) {s with heap:=s.heap.push {cls:=.type "tuple",data:=.seq ((i.toList.drop<|sIx i.size 0 lo).take<|sIx i.size i.size H-sIx i.size 0 lo).toArray}})
  (z:i.size<=sizeLine):wpAny (OU p w) A (UH (.ref t)<|.ref l) Q E s:=by
 have a:sizeOk (.seq ((i.toList.drop<|sIx i.size 0 lo).take<|sIx i.size i.size H-sIx i.size 0 lo).toArray):=by
  show((i.toList.drop<|sIx _ 0 lo).take<|sIx _ _ H-sIx _ 0 lo).toArray.size<=sizeLine
  rw[Ot,OB,PQ,OR];exact O8 (T_ _ _) (O8 (hH _ _) z)
 obtain⟨os,c,j,Z⟩:=id e;have d:s.TypeIs (.ref l) _:=⟨os,c,j⟩;unfold UH
 try with_reducible refine QD ?_
 refine Oa<|Yi b.typeIs (by rfl) ?_;refine Oa (VP b.typeIs QX
  (T5 QX b.typeIs Xm ?_<|XU _ _))
 show wpAny _ _ (U3 _ >>=_) _ _ s
 refine Oa<|ry b<|Oa<|UG d<|Oa<|sliceApplied_gen e P f ?_;have W:¬((((sIx i.size 0 lo):Int) == 0&&(1:Int) == 1&&(sIx i.size i.size H-sIx i.size 0 lo) == i.size)=NW):=by
  simp_all
 show wpAny _ _ (if(((sIx _ 0 lo):Int) == 0&&(1) == 1&&(sIx _ _ H-sIx _ 0 lo) == i.size)=NW then _ else _) _ _ s
 rw[Oo W,A9]
 first
  |exact Oa<|QA (Oq ⟨_,rfl,Oq h⟩) a
  |exact Oa<|QA _ a
  |exact Oa<|Oa<|QA _ a
  |exact Oa<|Oa<|QA _ a
end HT
namespace L2
open PySem PySem.Spec PyProof.Rows
abbrev TO:=St->Hp->(M' Int->Hp->Prop)->Prop
def PO(X:Cx)(e:M' Px)(t:TO):Prop:=
 ∀(O:ab (J'×Obj)) (s:Od) (a:St) (H:Hp) (Q:M' Int->Hp->Prop),Inv X O a H s->t a H Q->
  wpAny (OU X.prog X.w) X.A (evalPart e X.env) (λu b=>∃o h,Inv X O a h b/\XR u o/\Q o h) X.xe s
def Fg:TO:=λ_ H Q=>Q NZ H
def K2(t:TE):TO:=λa H Q=>t a H λx h=>∃i,x=.int i/\Q (gV i) h
theorem jp:∀{u:ab NX},Vals (N.map V.int) u->RQ u N:=by
 induction N with
 |nil=>intro u r;cases r;exact .nil
 |cons n N i=>
  intro u r;cases r with
  |cons a b=>
   obtain⟨t,e⟩:=a;subst e;exact .cons n t<|i b
theorem bU:PO X NZ Fg:=by
 intro O s a H Q I h;exact Oq ⟨NZ,H,I,.none,h⟩
theorem Fh(h:PE X e T):PO X (gV e) (K2 T):=by
 intro O s a H Q I w;refine bN (h O s a H _ I w) λu f z=>?_;obtain⟨x,b,c,r,d⟩:=z;obtain⟨i,rfl,q⟩:=d;obtain⟨t,rfl⟩:=r;exact⟨gV i,b,c,.int i t,q⟩
def Mu(X:Cx)(r:V->M' Int->M' Int->Hp->VK->Prop):Prop:=
 ∀(O:ab (J'×Obj)) (s:Od) (a:St) (H:Hp) (x:V) (v l u:NX) (lo h:M' Int) (b:J') (Q:VK),Inv X O a H s->RelV x v->s.heap.IsSliceOf b l u .none->XR l lo->XR u h->r x lo h H Q->
  ∃T id,ZM (.type T) "__getitem__"=pure (gV<|.builtin id)/\s.TypeIs v T/\wpAny (OU X.prog X.w) X.A (UH v<|.ref b) (EP X O a Q) X.xe s
def NR(r:V->M' Int->M' Int->Hp->VK->Prop)(t:TE)(T h:TO):TE:=λa H Q=>t a H λx b=>T a b λl c=>h a c λu d=>r x l u d Q
theorem bu{X:Cx}{e:Px}{t:TE}{lo:M' Px}{i:M' Px}{g:TO}{j:TO}{p:Pos}{P:Pos}(m:Mu X r)(n:PE X e t)(o:PO X lo g)(w:PO X i j):PE X (.Subscript e (.Slice lo i NZ P) p) (NR r t g j):=by
 intro O s c H Q I h;refine Z3<|bN (n O s c H _ I h) λv y V=>?_;obtain⟨x,z,A,B,C⟩:=V;refine wpAny_Slice<|bN (o O y c z _ A C) λd D S=>?_;obtain⟨l,E,F,G,J⟩:=S;refine bN (w O D c E _ F J) λf a R=>?_;obtain⟨u,k,L,M,N⟩:=R;refine Oq ?_;have U:Inv X O c k {a with heap:=a.heap.push {cls:=.type "slice",data:=.fields #[d,f,.none]}}:=L.kept λb Z q=>Oe _ q;obtain⟨T,id,hT,W,Y⟩:=m O _ c k x v d f l u _ Q U B (F' ..) G M N;exact tail_any W hT Y (by with_unfolding_all rfl)
noncomputable def bC(x:ab V)(lo h:M' Int):ab V:=(x.drop<|HT.sIx x.length 0 lo).take<|HT.sIx x.length x.length h-HT.sIx x.length 0 lo
theorem mn(x:ab V)(lo h:M' Int):(bC x lo h).length<=x.length:=by
 unfold bC;rw[OB,PQ];exact O8 (T_ _ _) (hH _ _)
def MW(K:C'):V->M' Int->M' Int->Hp->VK->Prop:=λx lo h H Q=>∃a X,x=.ref a/\SqT K H a X/\
 ¬(HT.sIx X.length 0 lo=0/\HT.sIx X.length X.length h=X.length)/\∀p,H p=NZ->Q (.ref p) (upd H p<|.tup<|bC X lo h)
theorem I_:Mu X (MW X.K):=by
 intro O s j H x v k u lo i m Q I d e p P h;obtain⟨a,c,rfl,f,w,q⟩:=h;cases d;obtain⟨g,r,t,z⟩:=I.tuple f;have l:g.toArray.size=c.length:=r.length.symm
 exists "tuple",_,PyProof.Rows.slot_tuple_getitem.lookup,t.typeIs;refine HT.getItem_tuple_cut t e p P (by rwa[l]) ?_ (by rwa[l]);rw[l];refine⟨.ref _,_,I.laid (λb o q=>Oe _ q) (N9 _) ?_,rfl,q _<|I.hok.fresh<|N9 _⟩;exact⟨O8 (mn c lo i) z,_,(r.drop<|HT.sIx _ 0 lo).take<|HT.sIx _ _ i-HT.sIx _ 0 lo,l0 _ _⟩
noncomputable def Ja(n:Nat)(i:Int):M' Nat:=if 0<=i then(if i<n then gV i.toNat else NZ)else if -(n:Int)<=i then gV (i+n).toNat else NZ
noncomputable def kZ{a:Type}(x:ab a)(i:Int):M' a:=(Ja x.length i).bind λj=>x[j]?
theorem Fi(h:Ja n i=gV j):Xd i n=gV j/\j<n/\ -(n:Int)<=i/\i<n:=by
 unfold Ja at h;by_cases a:0<=i
 ·rw[On a]at h;by_cases H:i<n
  ·rw[On H]at h;have e:=OA h;exact⟨by rw[seqIndex_of a H,e],by lia,by lia,H⟩
  simp_all
 rw[Oo a]at h;by_cases H:-(n)<=i
 ·rw[On H]at h;have e:=OA h;exact⟨by rw[seqIndex_neg (VY a) H,e],by lia,H,by lia⟩
 simp_all
theorem rh{a:Type}{x:ab a}{i:Int}{v:a}(h:kZ x i=gV v):∃j,Xd i x.length=gV j/\x[j]?=gV v/\j<x.length/\ -(x.length:Int)<=i/\i<x.length:=by
 unfold kZ at h;cases e:Ja x.length i with
 |none=>simp_all
 |some j=>
  rw[e]at h;obtain⟨H,b,c,d⟩:=Fi e;exact⟨j,H,h,b,c,d⟩
theorem aG{a:Type}{x:ab a}{j:Nat}{v:a}(h:x[j]?=gV v):kZ x (j:Int)=gV v:=by
 have H:=(N4.mp h).1;have e:Ja x.length (j)=gV j:=by
  unfold Ja;simp_all
 unfold kZ;rwa[e]
def ri(b:Px):Prop:=∀o i,WK b N8 o i=operate [o,i] (UH o i)
def IxR(X:Cx)(r:R2):Prop:=
 ∀(e N:Px) (O:ab (J'×Obj)) (s:Od) (a:St) (H:Hp) (x y:V) (v u:NX) (Q:VK),Inv X O a H s->RelV x v->RelV y u->r x y H Q->
  WK N N8 v u=operate [v,u] (UH v u)->wpAny (OU X.prog X.w) X.A (Xu e N v u) (EP X O a Q) X.xe s
def MX(X:Cx)(id:Sa)(r:V->ab V->Hp->VK->Prop):Prop:=
 ∀(O:ab (J'×Obj)) (s:Od) (a:St) (H:Hp) (x:V) (b:ab V) (v:NX) (u:ab NX) (Q:VK),Inv X O a H s->RelV x v->Vals b u->r x b H Q->
  wpAny (OU X.prog X.w) X.A (call (.builtin id)<|v::u) (EP X O a Q) X.xe s
section
variable {X:Cx}
theorem IxR.or(h:IxR X r)(h':IxR X f):IxR X (λx y H Q=>r x y H Q\/f x y H Q):=by
 intro e W O s a H x y v u Q I b c q d;obtain q|q:=q
 ·exact h e W O s a H x y v u Q I b c q d
 exact h' e W O s a H x y v u Q I b c q d
theorem G_(c:IxR X r)(d:PE X a t)(e:PE X b T)(f:ri b):PE X (.Subscript a b p) (E2 r t T):=by
 intro O s g H Q I h;exact Z3<|IN d e I h λv u i x y j k l m q=>c a b O i g j x y v u Q k l m q<|f _ _
inductive K3 (K:C')(x y:V)(H:Hp)(Q:VK):Prop
 |mk (p:J')(xs:ab V)(i:Int)(v:V)(hx:x=.ref p)(a:y=.int i)(h:SqL K H p xs)(e:kZ xs i=gV v)(q:Q v H)
inductive K4 (K:C')(x y:V)(H:Hp)(Q:VK):Prop
 |mk (p:J')(xs:ab V)(i:Int)(v:V)(hx:x=.ref p)(a:y=.int i)(h:SqT K H p xs)(e:kZ xs i=gV v)(q:Q v H)
inductive K5 (x y:V)(H:Hp)(Q:VK):Prop
 |mk (z:Str)(i:Int)(c:Nat)(hx:x=.str z)(a:y=.int i)(h:z.length<=sizeLine)(e:kZ z.cps.toList i=gV c)(q:Q (.str ⟨#[c]⟩) H)
def K6(K:C'):R2:=λx y H Q=>K3 K x y H Q
def K7(K:C'):R2:=λx y H Q=>K4 K x y H Q
def K8:R2:=λx y H Q=>K5 x y H Q
theorem gF:IxR X (K6 X.K):=by
 intro e W O s d H x y v u Q I l m h f;obtain⟨p,J,i,z,rfl,rfl,n,o,q⟩:=h;cases l;obtain⟨t,rfl⟩:=m;obtain⟨A,r,P,L⟩:=I.list n;obtain⟨j,a,B,M,C,D⟩:=rh o;obtain⟨w,E,b⟩:=r.get B;have F:=r.length;have N:=nI;have g:EP X O d Q w s:=⟨z,H,I,b,q⟩;by_cases k:0<=i
 ·have c:i.toNat=j:=by
   rw[seqIndex_of k D]at a;exact OA a
  exact item_listR P.isList k (by lia) (by rw[c];simpa using E) g f
 have c:(i+(A.toArray.size)).toNat=j:=by
  rw[seqIndex_neg (VY k) C]at a;rw[Ot,<-F];exact OA a
 exact V' P.isList.typeIs slot_list_getitem.lookup
  (wpAny_getItem_list_neg P.isList (VY k) (by simp_all) (by lia) (by rw[c];simpa using E) ⟨rfl,g⟩) f
theorem hJ:IxR X (K7 X.K):=by
 intro e W O s b H x y v u Q I c d h f;obtain⟨p,B,i,z,rfl,rfl,g,k,q⟩:=h;cases c;obtain⟨t,rfl⟩:=d;obtain⟨C,r,P,D⟩:=I.tuple g;obtain⟨j,l,m,F,G,J⟩:=rh k;obtain⟨w,E,a⟩:=r.get m;have n:=r.length;have L:=nI;have o:EP X O b Q w s:=⟨z,H,I,a,q⟩;exact V' P.typeIs slot_tuple_getitem.lookup
  (getItem_tuple (j:=j) P (by lia) (by lia) (by simp_all) (by simpa using E) ⟨rfl,o⟩) f
theorem Jb:IxR X K8:=by
 intro e W O s o H x y v u Q I r b h d;obtain⟨z,i,c,rfl,rfl,p,f,q⟩:=h;obtain⟨t,rfl⟩:=r;obtain⟨T,rfl⟩:=b;obtain⟨j,a,g,w,k,l⟩:=rh f;have m:z.cps.toList.length=z.length:=by rfl
 rw[m]at a k l;have A:=nI;exact tail_any (typeIs_str s z t) slot_str_getitem.lookup (getItem_str (by
  lia) (by rw[a];simpa using g) ⟨.str _,H,I.tok _,⟨_,rfl⟩,q⟩) d
def KB(K:C'):R2:=λx y H Q=>K6 K x y H Q\/K7 K x y H Q\/K8 x y H Q
theorem A_:IxR X (KB X.K):=gF.or<|hJ.or Jb
theorem lB{i:Int}{n:Nat}(h:¬i<0):max 0 (min i n)=((min i.toNat n:Nat):Int):=by
 rw[Lean.Omega.Int.ofNat_min,Int.ofNat_toNat,Int.max_eq_left (Int.not_lt.1 h),Int.max_eq_right (Int.le_min.2 ⟨Int.not_lt.1 h,Int.natCast_nonneg n⟩)]
theorem lC{i:Int}{n:Nat}(h:i<0):max 0 (min (i+n) n)=((i+n).toNat:Int):=by
 rw[Int.min_eq_left (by lia),Int.ofNat_toNat,Int.max_comm]
theorem rj(lo H:M' Int)(n:Nat):(Tc lo H NZ n).1=((HT.sIx n 0 lo:Nat):Int)/\(Tc lo H NZ n).2.1=((HT.sIx n n H:Nat):Int)/\(Tc lo H NZ n).2.2=1:=by
 refine⟨?_,?_,rfl⟩
 ·cases lo with
  |none=>rfl
  |some i=>
   simp only[Tc,HT.sIx,Y0,show(1:Int)>0 by decide,Vi];by_cases h:i<0
   ·simp only[h,Vi];exact lC h
   simp only[h,Ti];exact lB h
 cases H with
 |none=>rfl
 |some i=>
  simp only[Tc,HT.sIx,Y0,show(1:Int)>0 by decide,Vi];by_cases h:i<0
  ·simp only[h,Vi];exact lC h
  simp only[h,Ti];exact lB h
theorem pN(P:ab NX)(lo h:M' Int):slicePick P.toArray lo h NZ=((P.drop<|HT.sIx P.length 0 lo).take<|HT.sIx P.length P.length h-HT.sIx P.length 0 lo).toArray:=by
 obtain⟨H,a,b⟩:=rj lo h _;unfold slicePick;rw[H,a,b];simp only[sliceRange_one,pick_run]<;>rfl
def MY(K:C'):V->M' Int->M' Int->Hp->VK->Prop:=λx lo h H Q=>∃a s,x=.ref a/\SqL K H a s/\∀p,H p=NZ->Q (.ref p) (upd H p<|.lst<|bC s lo h)
theorem bZ:Mu X (MY X.K):=by
 intro O s g H x v j u lo i k Q I d e p P h;obtain⟨a,c,rfl,f,q⟩:=h;cases d;obtain⟨m,r,t,z⟩:=I.list f;have l:=r.length;exists "list",_,slot_list_getitem.lookup,t.isList.typeIs;refine wpAny_getItem_list_slice t.isList e p P .none (by simp) ?_ (by simp_all);rw[pN,<-l];refine⟨.ref _,_,I.laid (λb o q=>Oe _ q) (N9 _) ?_,rfl,q _<|I.hok.fresh<|N9 _⟩;exact⟨O8 (mn c lo i) z,_,0,(r.drop<|HT.sIx _ 0 lo).take<|HT.sIx _ _ i-HT.sIx _ 0 lo,OX _ rfl⟩
noncomputable def jd:V->N'
 |.non=>NW
 |.bl _=>NW
 |.int _=>NW
 |.str _=>NW
 |_=>N8
noncomputable def Ha:V->V->N'
 |.non,.non=>NW
 |.bl a,.bl b=>a == b
 |.bl a,.int b=>(if a then 1 else 0) == b
 |.int a,.bl b=>a == (if b then 1 else 0)
 |.int a,.int b=>a == b
 |.str a,.str b=>a == b
 |_,_=>N8
theorem Jc(c:RelV y u)(r:RelV x v)(F:jd y=NW)(f:jd x=NW):mj A s u v (Ha y x):=by
 cases y with
 |non=>
  cases c;cases x with
  |non=>cases r;exact ud _
  |bl b=>cases r;exact Sh b
  |int b=>obtain⟨t,rfl⟩:=r;exact CB b t
  |str b=>obtain⟨t,rfl⟩:=r;exact CN b t
  |_=>exact absurd ‹_› N6
 |bl a=>
  cases c;cases x with
  |non=>cases r;exact R' a
  |bl b=>cases r;exact RP a b
  |int b=>obtain⟨t,rfl⟩:=r;exact wh a b t
  |str b=>obtain⟨t,rfl⟩:=r;exact w1 a b t
  |_=>exact absurd ‹_› N6
 |int a=>
  obtain⟨T,rfl⟩:=c;cases x with
  |non=>cases r;exact zz a T
  |bl b=>cases r;exact y3 a T b
  |int b=>obtain⟨t,rfl⟩:=r;exact G' a T b t
  |str b=>obtain⟨t,rfl⟩:=r;exact XQ a T b t
  |_=>exact absurd ‹_› N6
 |str a=>
  obtain⟨T,rfl⟩:=c;cases x with
  |non=>cases r;exact E9 a T
  |bl b=>cases r;exact CW a T b
  |int b=>obtain⟨t,rfl⟩:=r;exact XO a T b t
  |str b=>obtain⟨t,rfl⟩:=r;exact Ip a T b t
  |_=>exact absurd ‹_› N6
 |_=>exact absurd ‹_› N6
noncomputable def vD(x:V)(u:NX):N':=match u with
 |.none=>Ha .non x
 |.bool b=>Ha (.bl b) x
 |.int i _=>Ha (.int i) x
 |.str z _=>Ha (.str z) x
 |_=>N8
theorem Ba(r:RelV y u)(f:jd y=NW):vD x u=Ha y x:=by
 cases y with
 |non=>cases r;rfl
 |bl b=>cases r;rfl
 |int i=>obtain⟨t,rfl⟩:=r;rfl
 |str z=>obtain⟨t,rfl⟩:=r;rfl
 |_=>exact absurd ‹_› N6
theorem jN:∀{s:ab V} {u:ab NX},Vals s u->s.all jd=NW->u.any (vD x)=s.any λy=>Ha y x:=by
 intro s u h f;induction h with
 |nil=>rfl
 |cons r t i=>rw[Rp,OO]at f;rw[Qu,Qu,Ba r f.1,i f.2]
theorem il(b:RelV x v)(F:jd x=NW):∀{a:ab V} {U:ab NX},Vals a U->a.all jd=NW->∀u∈U,mj A s u v<|vD x u:=by
 intro a U h f;induction h with
 |nil=>intro u h;cases h
 |cons r t i=>
  intro c h;rw[Rp,OO]at f;obtain rfl|h:=Oz.mp h
  ·rw[Ba r f.1];exact Jc r b f.1 F
  exact i f.2 c h
noncomputable def gP(x:V)(s:ab V):N':=s.any λy=>Ha y x
inductive NF (K:C')(n:N')(x y:V)(H:Hp)(Q:VK):Prop
 |mk (p:J')(xs:ab V)(a:y=.ref p)(h:SqL K H p xs\/SqT K H p xs)(f:jd x=NW)(fs:xs.all jd=NW)(q:Q (.bl (if n then !gP x xs else gP x xs)) H)
def Mw(K:C')(n:N'):R2:=λx y H Q=>NF K n x y H Q
theorem k_:OpR X (PX .In) (Mw X.K N8):=by
 intro O s e H x y v u Q I c d h;obtain⟨p,g,rfl,a,F,f,q⟩:=h;cases d;obtain a|a:=a
 ·obtain⟨P,r,l,z⟩:=I.list a;refine SeqAt.in_listAt _ l.isList (λw b=>il c F r f w<|by simp_all) ⟨.bl _,H,I,rfl,?_⟩;rwa[show P.toArray.any _=P.any (vD x) by simp,jN r f]
 obtain⟨P,r,l,z⟩:=I.tuple a;refine SeqAt.in_tupleAt _ l (λw b=>il c F r f w<|by simp_all) ⟨.bl _,H,I,rfl,?_⟩;rwa[show P.toArray.any _=P.any (vD x) by simp,jN r f]
theorem gT:OpR X (PX .NotIn) (Mw X.K NW):=by
 intro O s e H x y v u Q I c d h;obtain⟨p,g,rfl,a,F,f,q⟩:=h;cases d;obtain a|a:=a
 ·obtain⟨P,r,l,z⟩:=I.list a;refine SeqAt.notIn_listAt _ l.isList (λw b=>il c F r f w<|by simp_all) ⟨.bl _,H,I,rfl,?_⟩;rwa[show P.toArray.any _=P.any (vD x) by simp,jN r f]
 obtain⟨P,r,l,z⟩:=I.tuple a;refine SeqAt.notIn_tupleAt _ l (λw b=>il c F r f w<|by simp_all) ⟨.bl _,H,I,rfl,?_⟩;rwa[show P.toArray.any _=P.any (vD x) by simp,jN r f]
theorem gU:eS X (.type "list") (λx H Q=>∃p y,x=[.ref p]/\(SqL X.K H p y\/SqT X.K H p y)/\∀l,H l=NZ->Q (.ref l) (upd H l<|.lst y)):=by
 intro v s w H x U Q I r h;obtain⟨p,y,rfl,f,q⟩:=h;obtain⟨u,rfl,A⟩:=eT r;cases A;have t:∀P,Vals y P->y.length<=sizeLine->∀a c,(∀b O,s.heap.get? b=gV O->a.get? b=gV O)->
   a.get? s.heap.objs.size=gV _->EP X v w Q _ {s with heap:=a}:=λP d z a c k e=>
  ⟨.ref _,_,I.laid k (N9 _) (show ObjOk _ X.w _ a _ (.lst y)from⟨z,P,c,d,e⟩),rfl,q _<|I.hok.fresh<|N9 _⟩
 obtain f|f:=f
 ·obtain⟨P,d,g,z⟩:=I.list f;have B:=d.length;obtain⟨o,i,j,n,m⟩:=g.isList;exact th p (.inl rfl) i j m (λa c k e=>t P d z a c k e) (by simp_all)
 obtain⟨P,d,g,z⟩:=I.tuple f;have B:=d.length;obtain⟨o,i,j,n,m⟩:=g;exact th p (.inr rfl) i j m (λa c k e=>t P d z a c k e) (by simp_all)
theorem bK:eS X (.type "tuple") (λx H Q=>∃p y,x=[.ref p]/\((SqL X.K H p y/\∀l,H l=NZ->Q (.ref l) (upd H l<|.tup y))\/(SqT X.K H p y/\Q (.ref p) H))):=by
 intro O s g H x U Q I r h;obtain⟨p,y,rfl,h⟩:=h;obtain⟨u,rfl,j⟩:=eT r;cases j;obtain⟨c,q⟩|⟨c,q⟩:=h
 ·obtain⟨P,d,f,z⟩:=I.list c;have n:=d.length;refine call_tuple_list f.isList (λa k=>?_) (by simp_all);have i:Inv X O g H {s with heap:=a}:=I.kept k;have m:Inv X O g (upd H _<|.tup y) {s with heap:=a.push _}:=
   i.laid (λb o e=>Oe _ e) (N9 _) (⟨z,P,d,l0 _ _⟩)
  exact⟨.ref _,_,m,rfl,q _<|i.hok.fresh<|N9 _⟩
 obtain⟨P,d,f,z⟩:=I.tuple c;exact call_tuple_same f ⟨.ref p,H,I,rfl,q⟩
def MZ(K:C')(T:Sa)(x:V)(H:Hp):Prop:=match x with
 |.str _=>T="str"
 |.int _=>T="int"
 |.ref p=>(T="list"/\∃s,SqL K H p s)\/(T="tuple"/\∃o,K.lookup p=gV o/\o.cls=.type "tuple"/\o.dict=NZ)\/
   (T="dict"/\((∃k,H p=gV (.dK k))\/∃k,H p=gV (.dT k)))\/(T="set"/\∃S n,H p=gV (.set S n))
 |_=>False
theorem Bb(I:Inv X g j H s)(r:RelV x v)(y:MZ X.K T x H):
  s.TypeIs v T/\∀a,v=.ref a->∃O,s.heap.get? a=gV O/\O.dict=none:=by
 cases x with
 |str z=>
  obtain⟨t,rfl⟩:=r;cases(y);exact⟨typeIs_str s z t,λw e=>nomatch e⟩
 |int i=>
  obtain⟨t,rfl⟩:=r;cases(y);exact⟨typeIs_int s i t,λw e=>nomatch e⟩
 |ref p=>
  cases r;obtain⟨rfl,l,q⟩|⟨rfl,o,h,f,d⟩|⟨rfl,h⟩|⟨rfl,S,n,h⟩:=y
  ·obtain⟨m,w,P,w⟩:=I.list q;refine⟨P.isList.typeIs,λa e=>?_⟩;cases e;obtain⟨o,n,e,c,d,w⟩:=P;exact⟨o,e,d⟩
  ·refine⟨⟨o,I.kIn p o h,f⟩,λa e=>?_⟩;cases e;exact⟨o,I.kIn _ o h,d⟩
  ·have z:∃o,s.heap.get? p=gV o/\o.ExactDict:=by
    obtain⟨k,h⟩|⟨k,h⟩:=h
    ·obtain⟨w,w,w,w,o,w,w,e,E,w⟩:=I.hok p _ h;exact⟨o,e,E⟩
    obtain⟨w,w,w,w,o,w,w,e,E,w⟩:=I.hok p _ h;exact⟨o,e,E⟩
   obtain⟨o,e,E⟩:=z;refine⟨⟨o,e,E.1⟩,λa b=>?_⟩;cases b;exact⟨o,e,E.2.1⟩
  ·obtain⟨o,w,w,w,e,E,w⟩:=I.hok p _ h;refine⟨⟨o,e,E.1⟩,λa b=>?_⟩;cases b;exact⟨o,e,E.2.1⟩
 |_=>exact P2 y
def M0(K:C')(T:Sa)(r:V->ab V->Hp->VK->Prop)(t:TE):TE:=λa H Q=>t a H λx h=>MZ K T x h/\r x [] h Q
def NS(K:C')(T:Sa)(r:V->ab V->Hp->VK->Prop)(o:TE)(t:TA):TE:=λa H Q=>o a H λx h=>MZ K T x h/\t a h λs b=>r x s b Q
variable {o:Px}{to:TE}{name:Str}{UE WD:Pos}{T id:Sa}{r:V->ab V->Hp->VK->Prop}
theorem Bc(p:PlainAttrs T)(t:Slot T name id)(y:typeOf (.builtin id)=pure (.type "method_descriptor"))(m:MX X id r)(d:PE X o to)
  (a:SJ o name X.env (Qm o X.env)=Qm o X.env:=by rfl) (e:(UE.endLine == WD.line)=true:=by rfl):PE X (.Call (.Attribute o name UE) [] [] WD) (M0 X.K T r to):=by
 intro O s b H Q I h;refine wpAny_Call_method0_late a e<|bN (d O s b H _ I h) λv f ⟨x,g,i,c,j,q⟩=>?_;obtain⟨k,l⟩:=Bb i c j;exact⟨T,id,p,t,y,k,l,Tr rfl<|PySem.evalArgs_none<|m O f b g x [] v [] Q i c .nil q⟩
theorem gG{e:Px}{E:ab Px}{t:TA}(p:PlainAttrs T)(a:Slot T name id)(y:typeOf (.builtin id)=pure (.type "method_descriptor"))(m:MX X id r)(g:PE X o to)(j:PA X (e::E) t)
  (A:SJ o name X.env (Qm o X.env)=Qm o X.env:=by rfl)
  (L:((Rc WD<|OS (e::E) X.env).all (λx=>!x.1)&&(WN WD<|Uj [] X.env).all (λx=>x.1.isSome)
   &&decide ((e::E).length+([]:ab ky).length+(if([]:ab ky).isEmpty then 0 else 1)<30))=true:=by rfl)
  (k:(UE.endLine == WD.line)=true:=by rfl) (l:OS (e::E) X.env=(N8,Qm e X.env)::OS E X.env:=by rfl) (b:(Rc WD<|OS E X.env).any (·.1)=false:=by rfl):
  PE X (.Call (.Attribute o name UE) (e::E) [] WD) (NS X.K T r to t):=by
 intro O s c H Q I h;refine wpAny_Call_method_late A L k rfl<|bN (g O s c H _ I h) λv n ⟨x,q,i,d,u,w⟩=>?_;obtain⟨z,B⟩:=Bb i d u;exists T,id,p,a,y,z,B;have f:=j WD O n c q _ i w;rw[l]at f ⊢;exact Tr (by assumption)<|Uk<|bN f (by rintro U C ⟨D,F,G,J,M⟩;exact m O C c F x D v U Q G d J M)
end
def Jd(X:Cx)(id:Sa)(r:V->ab V->Hp->VK->Prop):Prop:=
 ∀(O:ab (J'×Obj)) (s:Od) (a:St) (H:Hp) (x:V) (b:ab V) (v:NX) (u:ab NX) (Q:VK),Inv X O a H s->RelV x v->Vals b u->r x b H Q->
  wpAny (OU X.prog X.w) X.A (call (.builtin id)<|v::u) (EP X O a Q) X.xe s
theorem Vals.one:∀{x:V} {U:ab NX},Vals [x] U->∃u,U=[u]/\RelV x u:=by
 rintro x U(z|⟨r,z|z⟩);exact⟨_,rfl,r⟩
theorem Vals.two:∀{x y:V} {U:ab NX},Vals [x,y] U->∃u v,U=[u,v]/\RelV x u/\RelV y v:=by
 rintro x y U(z|⟨r,z|⟨q,z|z⟩⟩);exact⟨_,_,rfl,r,q⟩
theorem Vals.zero:∀{u:ab NX},Vals [] u->u=[]
 |_,.nil=>rfl
theorem Vals.dropLast(h:Vals x u):Vals x.dropLast u.dropLast:=by
 induction h with
 |nil=>exact .nil
 |cons r t i=>
  cases t with
  |nil=>exact .nil
  |cons q T=>exact .cons r i
theorem Vals.eraseIdx:∀{x:ab V} {u:ab NX} (i:Nat),Vals x u->Vals (x.eraseIdx i) (u.eraseIdx i)
 |_,_,_,.nil=>.nil
 |_,_,0,.cons _ t=>t
 |_,_,i+1,.cons r t=>.cons r<|Vals.eraseIdx i t
theorem vE{c:Type}(l:ab c):l.eraseIdx (l.length-1)=l.dropLast:=by
 simp
theorem qf{a:Type}:∀(l:ab a) (i:Nat),(l.eraseIdx i).length<=l.length
 |[],_=>N9 _
 |_::_,0=>Te _
 |_::r,i+1=>QN<|qf r i
theorem Inv.lset{P i:ab NX}{n:Nat}{f:Qs NX->Qs NX}{t':Nat}(I:Inv X O a H s)(h:H l=gV (.lst x))
  (e:s.heap.get? l=gV {cls:=.type "list",data:=.seq P.toArray n}) (b:f P.toArray=i.toArray) (v:Vals y i) (z:y.length<=sizeLine):
  Inv X O a (upd H l<|.lst y) {s with heap:=s.heap.update l<|Qx f,toks:=t'}:=by
 have q:=vl e f;rw[b]at q;exact I.write (by rw[h];exact trivial) (.inl rfl) (λB u c d=>(Pz _ _<|P0 c).trans d) ⟨_,q⟩<|⟨z,i,_,v,q⟩
theorem Inv.lnew{t':Nat}(I:Inv X O a H s)(h:Vals y P)(z:y.length<=sizeLine):
  Inv X O a (upd H s.heap.objs.size<|.lst y) {s with heap:=s.heap.push {cls:=.type "list",data:=.seq P.toArray},toks:=t'}:=
 I.laid (λx x q=>Oe _ q) (N9 _) ⟨z,P,0,h,OX _ rfl⟩
theorem Inv.fresh(I:Inv X O a H s):H s.heap.objs.size=none:=I.hok.fresh<|N9 _
theorem Inv.lstM(I:Inv X O a H s)(h:H l=gV (.lst x)):x.length<=sizeLine/\∃P n,Vals x P/\x.length=P.length/\s.heap.get? l=gV {cls:=.type "list",data:=.seq P.toArray n}:=by
 obtain⟨z,P,n,r,e⟩:=I.hok l _ h;exact⟨z,P,n,r,r.length,e⟩
theorem Bd(h:n<=sizeLine):SN n=false:=by
 unfold SN;simp_all
inductive K9 (x:V)(vs:ab V)(H:Hp)(Q:VK):Prop
 |mk (l:J')(xs:ab V)(y:V)(hx:x=.ref l)(v:vs=[y])(h:H l=gV (.lst xs))(z:xs.length<sizeLine)(q:Q .non (upd H l<|.lst<|xs++[y]))
def Fj:V->ab V->Hp->VK->Prop:=λx v H Q=>K9 x v H Q
theorem dS:Jd X "list.append" Fj:=by
 intro O s f H x g v U Q I b c h;obtain⟨l,i,y,rfl,rfl,a,j,q⟩:=h;cases b;obtain⟨u,rfl,d⟩:=c.one;obtain⟨z,P3,n,r,k,e⟩:=I.lstM a;refine S6 P8 ⟨_,e,rfl⟩ F.entry_list_append (F.args_list_append_2 _ _) (PySem.list_append l _ n u<|by simp_all) ⟨e,⟨.non,_,I.lset (i:=P3++[u]) a e (by simp) (r.append<|‹_›) ?_,rfl,q⟩⟩;rw[N0,OM];lia
def Fk:V->ab V->Hp->VK->Prop:=λx v H Q=>∃l b X z,x=.ref l/\v=[.ref b]/\H l=gV (.lst X)/\H b=gV (.lst z)/\X.length+z.length<=sizeLine/\Q .non (upd H l<|.lst<|X++z)
theorem zd:Jd X "list.extend" Fk:=by
 intro O s k H x m v U Q I f g h;obtain⟨l,b,o,Z,rfl,rfl,d,B,p,q⟩:=h;cases f;obtain⟨u,rfl,i⟩:=g.one;cases i;obtain⟨z,P3,n,r,t,e⟩:=I.lstM d;obtain⟨w,a,N,j,y,E⟩:=I.lstM B;have c:P3.toArray.size+a.toArray.size<=sizeLine:=by simp_all
 have A:¬(!P3.toArray.isEmpty&&SN (P3.toArray.size+a.toArray.size))=true:=by
  rw[Bd c,QV];exact N6
 refine S6 Ws ⟨_,e,rfl⟩ F.entry_list_extend (F.args_list_extend_2 _ _)
  (AutoSeq1.list_extend_list_list_0 l _ n b _ N A (by simp_all)<|aaa c) ⟨e,E,⟨.non,_,I.lset d e (by simp) (r.append j) ?_,rfl,q⟩⟩;simp_all
def M1:V->ab V->Hp->VK->Prop:=λx v H Q=>∃l X y,x=.ref l/\v=[]/\H l=gV (.lst X)/\X[X.length-1]?=gV y/\Q y (upd H l<|.lst X.dropLast)
theorem Je:Jd X "list.pop" M1:=by
 intro O s m H x o v U Q I d f h;obtain⟨l,p,y,rfl,rfl,c,g,q⟩:=h;cases d;have a:=f.zero;subst a;obtain⟨z,P,n,r,i,e⟩:=I.lstM c;obtain⟨u,j,k⟩:=r.get g;have b:P.toArray[P.toArray.size-1]?=gV u:=by
  simp_all
 refine S6 S_ ⟨_,e,rfl⟩ YX (F.args_list_pop_1 _) (MeetsSeq.list_pop_last l _ n u b<|by simp_all) ⟨e,⟨y,_,I.lset c e ?_ r.dropLast ?_,k,q⟩⟩
 ·simp
 grind
def Jf:V->ab V->Hp->VK->Prop:=λx v H Q=>∃l X i k y,x=.ref l/\v=[.int i]/\H l=gV (.lst X)/\ -(2^63)<=i/\i<2^63/\Xd i X.length=gV k/\X[k]?=gV y/\Q y (upd H l<|.lst<|X.eraseIdx k)
theorem Be:Jd X "list.pop" Jf:=by
 intro O s C H x D v U Q I c d h;obtain⟨l,f,i,k,y,rfl,rfl,b,g,j,m,o,q⟩:=h;cases c;obtain⟨u,rfl,p⟩:=d.one;obtain⟨t,rfl⟩:=p;obtain⟨z,P,n,r,A,e⟩:=I.lstM b;obtain⟨w,B,a⟩:=r.get o;refine S6 S_ ⟨_,e,rfl⟩ YX (F.args_list_pop_2 _ _)
  (MeetsSeq.list_pop_at l _ n i t k w (PySem.fitsIndex_both g j) (by simp_all) (by simp_all)<|by simp_all) ⟨e,⟨y,_,I.lset b e ?_ (r.eraseIdx k) ?_,a,q⟩⟩
 ·simp
 have:=qf f k;lia
def Jg:V->ab V->Hp->VK->Prop:=λx v H Q=>∃l X,x=.ref l/\v=[]/\H l=gV (.lst X)/\Q .non (upd H l<|.lst [])
theorem Bf:Jd X "list.clear" Jg:=by
 intro O s f H x g v u Q I c d h;obtain⟨l,i,rfl,rfl,b,q⟩:=h;cases c;have a:=d.zero;subst a;obtain⟨z,P3,n,r,j,e⟩:=I.lstM b;exact S6 WU ⟨_,e,rfl⟩ F.entry_list_clear (F.args_list_clear_1 _) (AutoSeq1.list_clear_list_0 l _ n<|by simp_all) ⟨e,⟨.non,_,I.lset b e rfl .nil<|Oy _,rfl,q⟩⟩
def M3:R2:=λx y H Q=>∃l b X z,x=.ref l/\y=.ref b/\H l=gV (.lst X)/\H b=gV (.lst z)/\X.length+z.length<=sizeLine/\∀p,H p=NZ->Q (.ref p) (upd H p<|.lst<|X++z)
theorem cF:OpR X (SI .Add) M3:=by
 intro O s j H x y v u Q I c d h;obtain⟨l,b,k,Z,rfl,rfl,f,B,m,q⟩:=h;cases c;cases d;obtain⟨z,P,n,r,o,e⟩:=I.lstM f;obtain⟨p,a,N,g,W,E⟩:=I.lstM B;refine PySem.P.add_list e E ?_ (by simp_all);have i:P.toArray++a.toArray=(P++a).toArray:=by simp
 rw[i];exact⟨.ref _,_,I.lnew (r.append g) (by simp_all),rfl,q _ I.fresh⟩
section
variable {κ:Type}[Uo κ]
noncomputable def bL(s:ab (κ×V))(k:κ):M' V:=(s.find? λv=>decide (v.1=k)).map (·.2)
noncomputable def c9(s:ab (κ×V))(k:κ)(v:V):ab (κ×V):=
 if(s.any λa=>decide (a.1=k))=NW then s.map (λa=>if a.1=k then(a.1,v)else a)else s++[(k,v)]
theorem cA{p:κ×V}{r:ab (κ×V)}{k:κ}(e:p.1=k):bL (p::r) k=gV p.2:=by simp[bL,e]
theorem cb{p:κ×V}{r:ab (κ×V)}{k:κ}(e:¬p.1=k):bL (p::r) k=bL r k:=by simp[bL,e]
theorem im(k:κ):∀s,(s.any λv=>decide (v.1=k))=(bL s k).isSome
 |[]=>rfl
 |p::r=>by
  rw[Qu];by_cases e:p.1=k
  ·simp only[cA e,N3 e,oj,XX]
  rw[cb e,N7 e];exact im k r
theorem tN(k j:κ)(y:V):∀s,bL (s.map λv=>if v.1=k then(v.1,y)else v) j=(bL s j).map λx=>if j=k then y else x
 |[]=>rfl
 |p::r=>by
  have i:=tN k j y r;rw[OT];by_cases h:p.1=k
  ·rw[On h];by_cases e:p.1=j
   ·rw[cA (p:=(p.1,y)) e,cA e,SX,On<|e.symm.trans h]
   rw[cb (p:=(p.1,y)) e,cb e,i]
  rw[Oo h];by_cases e:p.1=j
  ·rw[cA e,cA e,SX,Oo λz=>h<|e.trans z]
  rw[cb e,cb e,i]
theorem qg(k j:κ)(y:V):∀s,bL s k=NZ->bL (s++[(k,y)]) j=if j=k then gV y else bL s j
 |[],_=>by
  by_cases e:k=j
  ·rw[On e.symm];exact cA e
  ·rw[Oo λz=>e z.symm];exact cb e
 |p::r,h=>by
  rw[List.cons_append];have H:¬p.1=k:=λz=>by rw[cA z]at h;cases h
  rw[cb H]at h;have i:=qg k j y r h;by_cases e:p.1=j
  ·rw[cA e,cA e,Oo λz=>H<|e.trans z]
  rw[cb e,cb e,i]
theorem tO(s:ab (κ×V))(k j:κ)(y:V):bL (c9 s k y) j=if j=k then gV y else bL s j:=by
 unfold c9;by_cases a:(s.any λv=>decide (v.1=k))=NW
 ·rw[On a,tN];rw[im]at a;by_cases e:j=k
  ·obtain⟨x,h⟩:=QF.mp a;rw[On e,e,h,SX,On rfl]
  simp_all
 rw[Oo a];refine qg k j y s ?_;rw[im]at a;simp_all
theorem dU(s:ab (κ×V))(k:κ)(v:V):(c9 s k v).length<=s.length+1:=by
 unfold c9
 split
 ·simp
 simp
theorem nM{s:ab (κ×V)}{k:κ}(v:V)(h:bL s k=NZ):c9 s k v=s++[(k,v)]:=by
 unfold c9;rw[im,h];rfl
theorem RelO.isSome_eq(r:RelO o u):o.isSome=u.isSome:=by
 cases o with
 |none=>cases u with
  |none=>rfl
  |some _=>exact(r).elim
 |some _=>cases u with
  |none=>exact(r).elim
  |some _=>rfl
theorem KV.val(r:KV s v)(k:κ):RelO (bL s k) (Vk v k):=by
 induction r with
 |nil=>exact QS
 |@cons p q P Q h t i=>
  obtain⟨H,a⟩:=h;by_cases e:p.1=k
  ·have E:=H.symm.trans e;have b:Vk (q::Q) k=gV q.2:=by simp[Vk,E]
   rwa[cA e,b]
  have E:¬q.1=k:=λz=>e<|H.trans z;have b:Vk (q::Q) k=Vk Q k:=by simp[Vk,E]
  rwa[cb e,b]
theorem KV.any(r:KV s a)(k:κ):(s.any λv=>decide (v.1=k))=a.any λv=>decide (v.1=k):=by
 induction r with
 |nil=>rfl
 |cons h t i=>simp_all
theorem KV.repl(r:KV s a)(k:κ)(b:RelV y u):
  KV (s.map λv=>if v.1=k then(v.1,y)else v) (a.map λv=>if v.1=k then(v.1,u)else v):=by
 induction r with
 |nil=>exact .nil
 |@cons p q P Q h t i=>
  rw[OT,OT];refine .cons ?_ i;obtain⟨H,c⟩:=h;by_cases e:p.1=k
  ·rw[On e,On<|H.symm.trans e];exact⟨H,b⟩
  rw[Oo e,Oo λz=>e<|H.trans z];exact⟨H,c⟩
theorem KV.put(r:KV s v)(k:κ)(a:RelV y u):KV (c9 s k y) (stored v k u):=by
 unfold c9 stored;rw[r.any k];by_cases e:(v.any λb=>decide (b.1=k))=NW
 ·rw[On e,On e];exact r.repl k a
 rw[Oo e,Oo e];exact Paired.snoc r ⟨rfl,a⟩
theorem KV.length{k:ab (κ×V)}{v:ab (κ×NX)}(r:KV k v):k.length=v.length:=Paired.length r
end
theorem jO(r:RelV (kV k) u):(be P w).is k u=true:=by
 cases k with
 |inl i=>obtain⟨t,e⟩:=(r);subst e;exact tz P w i t
 |inr x=>obtain⟨t,e⟩:=(r);subst e;exact tD P w x t
theorem qh:∀{s:ab aR} {u:ab NX},Vals (s.map kV) u->ItemsAre (be P w) s u
 |[],_,r=>by cases r;exact .nil
 |k::s,_,r=>by
  cases r with
  |cons h t=>exact .cons (jO h)<|qh t
abbrev KT(H:Hp):ab (ab aR×V)->ab (ab aR×J'×NX)->Prop:=Paired λp q=>p.1=q.1/\H q.2.1=gV (.tup<|p.1.map kV)/\RelV p.2 q.2.2
theorem KT.val(r:KT H s x)(k:ab aR):RelO (bL s k) ((Vm x k).map (·.2)):=by
 induction r with
 |nil=>exact QS
 |@cons p q P Q h t i=>
  obtain⟨a,y,c⟩:=h;by_cases e:p.1=k
  ·have E:=a.symm.trans e;have b:Vm (q::Q) k=gV q.2:=by simp[Vm,E]
   rwa[cA e,b]
  have E:¬q.1=k:=λz=>e<|a.trans z;have b:Vm (q::Q) k=Vm Q k:=by simp[Vm,E]
  rwa[cb e,b]
theorem KT.repl(r:KT H s x)(k:ab aR)(c:RelV y u):
  KT H (s.map λv=>if v.1=k then(v.1,y)else v) (x.map<|putAt k u):=by
 induction r with
 |nil=>exact .nil
 |@cons p q P Q h t i=>
  rw[OT];refine .cons ?_ i;obtain⟨a,b,d⟩:=h;unfold putAt;by_cases e:p.1=k
  ·rw[On e,On<|a.symm.trans e];exact⟨a,b,c⟩
  rw[Oo e,Oo λz=>e<|a.trans z];exact⟨a,b,d⟩
theorem KT.put(r:KT H s x)(k:ab aR)(h:H b=gV (.tup<|k.map kV))(a:RelV y u):
  KT H (c9 s k y) (kz x k b u):=by
 have e:(s.any λv=>decide (v.1=k))=(Vm x k).isSome:=by
  rw[im,(r.val k).isSome_eq,Vt]
 unfold c9 kz;rw[e];by_cases q:(Vm x k).isSome=NW
 ·rw[On q,On q];exact r.repl k a
 rw[Oo q,Oo q];exact Paired.snoc r ⟨rfl,h,a⟩
theorem KT.keeps(r:KT H k x)(h:∀b y,H b=gV (.tup y)->a b=gV (.tup y)):KT a k x:=
 Paired.mapP r λw w z=>⟨z.1,h _ _ z.2.1,z.2.2⟩
theorem Hb(o:HOk P w H h)(e:Rd H a u):ObjOk P w H h a u:=e.ok o
theorem mo(o:HOk P w H h)(e:Rd H a (.dK k)):k.length<=sizeLine/\(a == QK)=N8/\∃v,KV k v/\h.DictOf (be P w) a v:=
 Hb o e
theorem Hc(o:HOk P w H h)(e:H a=gV (.dK k)):k.length<=sizeLine/\(a == QK)=N8/\∃v,KV k v/\h.DictOf (be P w) a v:=mo o<|.inl e
theorem jq(O:HOk P w H h)(e:H a=gV (.tup<|k.map kV)):(UP<|be P w).is h k a:=by
 obtain⟨z,p,r,o,b,c,n,d⟩:=(O a _ e);exact⟨o,p.toArray,n,b,c,d,by simpa using qh r⟩
theorem mq(O:HOk P w H h)(e:Rd H a (.dT k)):k.length<=sizeLine/\(a == QK)=N8/\
  ∃X,KT H k X/\h.DictOfH (UP<|be P w) a X:=by
 obtain⟨z,y,X,r,o,E,d,f,g,i,j,n⟩:=(Hb O e);refine⟨z,y,X,r,o,E,d,f,g,i,j,λx b=>?_,n⟩;have A:∀{l:ab _} {m:ab _},KT H l m->∀x∈m,(UP<|be P w).is h x.1 x.2.1:=by
  intro l m q
  induction q with
  |nil=>intro x b;exact nomatch b
  |@cons p q s Q c t I=>
   intro x b;obtain e|b:=Oz.mp b
   ·exact jq O (by simp_all)
   exact I x b
 exact A r x b
theorem K_(o:HOk P w H h)(e:H a=gV (.dT k)):k.length<=sizeLine/\(a == QK)=N8/\
  ∃x,KT H k x/\h.DictOfH (UP<|be P w) a x:=mq o<|.inl e
def DGet(H:Hp)(a:J')(y:V)(r:M' V):Prop:=
 (∃s k,Rd H a (.dK s)/\y=kV k/\r=bL s k)\/∃s k b,Rd H a (.dT s)/\y=.ref b/\H b=gV (.tup<|k.map kV)/\r=bL s k
def DPut(H:Hp)(a:J')(y v:V)(h:Hp):Prop:=
 (∃s k,H a=gV (.dK s)/\y=kV k/\s.length<sizeLine/\h=upd H a (.dK<|c9 s k v))\/
 ∃s k b,H a=gV (.dT s)/\y=.ref b/\H b=gV (.tup<|k.map kV)/\s.length<sizeLine/\h=upd H a (.dT<|c9 s k v)
theorem DGet.k{H:Hp}{a:J'}{s:ab (aR×V)}{k:aR}(e:H a=gV (.dK s)):DGet H a (kV k) (bL s k):=.inl ⟨s,k,.inl e,rfl,rfl⟩
theorem DGet.t{H:Hp}{a b:J'}{s:ab (ab aR×V)}{k:ab aR}(e:H a=gV (.dT s))(E:H b=gV (.tup<|k.map kV)):DGet H a (.ref b) (bL s k):=.inr ⟨s,k,b,.inl e,rfl,E,rfl⟩
theorem DPut.k{H:Hp}{a:J'}{s:ab (aR×V)}{k:aR}{v:V}(e:H a=gV (.dK s))(h:s.length<sizeLine):DPut H a (kV k) v (upd H a<|.dK<|c9 s k v):=.inl ⟨s,k,e,rfl,h,rfl⟩
theorem DPut.t{H:Hp}{a b:J'}{s:ab (ab aR×V)}{k:ab aR}{v:V}(e:H a=gV (.dT s))(E:H b=gV (.tup<|k.map kV))(h:s.length<sizeLine):
  DPut H a (.ref b) v (upd H a<|.dT<|c9 s k v):=.inr ⟨s,k,b,e,rfl,E,h,rfl⟩
theorem Inv.big(I:Inv X O a H s):QK<s.heap.objs.size:=by
 have h:=(I.mod.glob.keeps I.bk).lt;exact Wd (by decide) h
theorem ze(n:A.units+1<Sm)(I:Inv X O o H s)(g:DGet H a y (gV v))(j:RelV y u)(h:∀w m,Inv X O o H m->RelV v w->Q w m):
  wpAny (OU X.prog X.w) A (UH (.ref a) u) Q E s:=by
 obtain⟨c,k,e,d,l⟩|⟨c,k,b,e,d,q,l⟩:=g
 ·subst d;obtain⟨z,t,x,W,D⟩:=mo I.hok e;obtain⟨w,f,r⟩:=RelO.some_of (by rw[l];exact W.val k);exact wpAny_getItem_of (jO j) D.mapOf f<|h w _ (I.tok _) r
 subst d;cases(j);obtain⟨z,t,B,W,D⟩:=mq I.hok e;obtain⟨w,f,r⟩:=RelO.some_of (by rw[l];exact W.val k);obtain⟨p,C,i⟩:=PZ.mp f;refine wpAny_getItem_heap (Rt n) (jq I.hok q) D C ?_;rw[i];exact h w _ (I.tok _) r
theorem M4(j:A.units+1<Sm)(I:Inv X O m H s)(g:DGet H a y o)(r:RelV y u)(h:∀i,Inv X O m H i->Q (.bool o.isSome) i):
  wpAny (OU X.prog X.w) A (PX .In u<|.ref a) Q E s:=by
 obtain⟨c,k,e,d,l⟩|⟨c,k,b,e,d,n,l⟩:=g
 ·subst d;obtain⟨z,f,v,W,D⟩:=mo I.hok e;refine wpAny_in_of (jO r) f D.mapOf ?_;rw[<-(W.val k).isSome_eq,<-l];exact h _<|I.tok _
 subst d;cases(r);obtain⟨z,f,x,W,D⟩:=mq I.hok e;refine wpAny_in_heap (Rt j) (jq I.hok n) f D ?_;have q:=(W.val k).isSome_eq;rw[Vt]at q;rw[<-q,<-l];exact h _<|I.tok _
theorem Fl(j:A.units+1<Sm)(I:Inv X O m H s)(g:DGet H a y o)(r:RelV y u)(h:∀i,Inv X O m H i->Q (.bool (!o.isSome)) i):
  wpAny (OU X.prog X.w) A (PX .NotIn u<|.ref a) Q E s:=by
 obtain⟨c,k,e,d,l⟩|⟨c,k,b,e,d,n,l⟩:=g
 ·subst d;obtain⟨z,f,v,W,D⟩:=mo I.hok e;refine wpAny_notIn_of (jO r) f D.mapOf ?_;rw[<-(W.val k).isSome_eq,<-l];exact h _<|I.tok _
 subst d;cases(r);obtain⟨z,f,x,W,D⟩:=mq I.hok e;refine wpAny_notIn_heap (Rt j) (jq I.hok n) f D ?_;have q:=(W.val k).isSome_eq;rw[Vt]at q;rw[<-q,<-l];exact h _<|I.tok _
theorem jP{t':Nat}(I:Inv X O c H s)(m:KG (H a))(h:Sx a s.heap h')(e:∃q,h'.get? a=gV q)(n:ObjOk X.prog X.w (upd H a o) h' a o):
  Inv X O c (upd H a o) {s with heap:=h',toks:=t'}:=
 I.write m (.inl rfl) (λb q d z=>(h.2 b d).trans z) e n
theorem rm{H:Hp}(z:k.length<=sizeLine)(h:(a == QK)=N8)(W:KV k v)(d:h'.DictOf (be P w) a v):
  ObjOk P w H h' a (.dK k):=⟨z,h,v,W,d⟩
theorem zf(J:A.units+1<Sm)(I:Inv X O L H s)(g:DPut H a y v M)(w:RelV y u)(x:RelV v r)(h:∀B,Inv X O L M B->Q () B):
  wpAny (OU X.prog X.w) A (setItem (.ref a) u r) Q E s:=by
 obtain⟨d,k,e,i,l,j⟩|⟨d,k,b,e,i,C,l,j⟩:=g
 ·subst i j;obtain⟨z,m,N,W,n⟩:=Hc I.hok e;have o:N.length<=sizeLine:=by rwa[<-W.length]
  have p:(c9 d k v).length<=sizeLine:=by have:=dU d k v;lia
  refine wpAny_setItem_pairs (jO w) n λF D t=>h _ ?_;have P:∃q,F.get? a=gV q:=let ⟨q,_,_,f,_⟩:=D;⟨q,f⟩
  exact jP I (by rw[e];exact QS) t P<|rm p m (W.put k x) D
 subst i j;cases(w);obtain⟨z,m,T,W,n⟩:=K_ I.hok e;have o:T.length<=sizeLine:=by rwa[<-Paired.length W]
 have p:(c9 d k v).length<=sizeLine:=by have:=dU d k v;lia
 refine wpAny_setItem_heap (Rt J) (jq I.hok C) n λF D t=>h _ ?_;obtain⟨q,U,Y,f,Z,h3,h4,V,h5⟩:=D;refine jP I (by rw[e];exact QS) t ⟨q,f⟩ ⟨p,m,_,(W.put k C x).keeps λc ys G=>?_,q,U,Y,f,Z,h3,h4,h5⟩;rwa[af<|bq G e (λz=>nomatch z)]
def La(i:Px):Prop:=∀o I,WK i N8 o I=operate [o,I] (UH o I)
theorem Fm{p:Om}{w:OI}{A:PL}{E:NX->Od->Prop}{s:Od}{e:Env}{v W:Px}{P:Pos}{T id:Sa}{Q:NX->Od->Prop}
  (l:ZM (.type T) "__getitem__"=pure (gV<|.builtin id)) (g:La W)
  (h:wpAny (OU p w) A (Qm v e) (λo b=>wpAny (OU p w) A (Qm W e) (λi a=>a.TypeIs o T/\wpAny (OU p w) A (UH o i) Q E a) E b) E s):
  wpAny (OU p w) A (Qm (.Subscript v W P) e) Q E s:=by
 refine Z3<|Qk h (λo b d=>Qk d (λi a H=>?_) λz z x=>x) λz z x=>x;obtain⟨j,H⟩:=H;refine Oa<|Oa<|PySem.wpAny_specialOf j l ?_;have X:wpAny (OU p w) A (WK W N8 o i) (λr c=>wpAny (OU p w) A (letTemporaryGo v o r >>=λz=>pure r) Q E c) E a:=by
  rw[g o i];exact wpAny_operating<|Qk H (λr c f=>Oa<|wpAny_letTemporaryGo<|Oq f) λz z x=>x
 first
  |exact Oq<|Oa X
  |exact Oa<|Oq<|Oa X
  |exact Oa X
theorem tP(I:Inv X O f H s)(g:DGet H a y o):s.TypeIs (.ref a) "dict":=by
 obtain⟨c,k,e,z,z⟩|⟨c,k,b,e,z,z,z⟩:=g
 ·obtain⟨z,z,v,z,d⟩:=mo I.hok e;exact d.typeIs
 obtain⟨z,z,x,z,d⟩:=mq I.hok e;exact d.typeIs
def Lb(t T:TE):TE:=λb H Q=>t b H λx c=>T b c λy h=>∃a v,x=.ref a/\DGet h a y (gV v)/\Q v h
def M9(t T:TE):TE:=λb H Q=>t b H λy c=>T b c λx h=>∃a o,x=.ref a/\DGet h a y o/\Q (.bl o.isSome) h
def Fo(t T:TE):TE:=λb H Q=>t b H λy c=>T b c λx h=>∃a o,x=.ref a/\DGet h a y o/\Q (.bl (!o.isSome)) h
def Lc(t T c:TE):TS:=λD b H=>c b H λv d=>t b d λx e=>T b e λy f=>∃a h,x=.ref a/\DPut f a y v h/\D.nx b h
theorem bH(d:X.A.units+1<Sm)(e:PE X o t)(f:PE X i T)(j:La i):PE X (.Subscript o i p) (Lb t T):=by
 intro O s b H Q I h;refine Fm PySem.F.slot_dict_getitem.lookup j<|bN (e O s b H _ I h) λu k Y=>?_;obtain⟨x,l,m,n,q⟩:=Y;refine bN (f O k b l _ m q) λC D Z=>?_;obtain⟨y,w,c,z,a,v,E,g,A⟩:=Z;subst E;obtain rfl:u=PF a:=n;exact⟨tP c g,ze d c g z λW F B r=>⟨v,w,B,r,A⟩⟩
theorem vF(c:X.A.units+1<Sm)(d:PE X i t)(e:PE X o T):PC X .In i o (M9 t T):=by
 intro O s b H Q I h;refine bN (d O s b H _ I h) λz f Y=>?_;obtain⟨y,j,k,r,q⟩:=Y;refine bN (e O f b j _ k q) λu A Z=>?_;obtain⟨x,l,m,n,a,v,E,g,p⟩:=Z;subst E;obtain rfl:u=PF a:=n;exact M4 c m g r λB w=>⟨.bl _,l,w,rfl,p⟩
theorem lc(c:X.A.units+1<Sm)(d:PE X i t)(e:PE X o T):PC X .NotIn i o (Fo t T):=by
 intro O s b H Q I h;refine bN (d O s b H _ I h) λz f Y=>?_;obtain⟨y,j,k,r,q⟩:=Y;refine bN (e O f b j _ k q) λu A Z=>?_;obtain⟨x,l,m,n,a,v,E,g,p⟩:=Z;subst E;obtain rfl:u=PF a:=n;exact Fl c m g r λB w=>⟨.bl _,l,w,rfl,p⟩
theorem rn(c:X.A.units+1<Sm)(d:PE X o t)(f:PE X i T)(j:PE X e k)(l:UQ e (gV<|.Subscript o i m) p.line X.env=pure N8):
  PS X (.Assign [.Subscript o i m] e p) (Lc t T k):=by
 intro O s b H D I h;refine wpAny_Assign_Subscript (bN (j O s b H _ I h) λr n S=>?_) l;obtain⟨v,q,w,z,Q⟩:=S;refine bN (d O n b q _ w Q) λu A R=>?_;obtain⟨x,B,C,E,F⟩:=R;refine bN (f O A b B _ C F) λU W V=>?_;obtain⟨y,Y,G,J,a,L,M,g,N⟩:=V;subst M;obtain rfl:u=PF a:=E;exact zf c G g J z λZ P=>⟨b,L,P,N⟩
theorem tQ(h:Pd)(b:QK<h.objs.size):ObjOk P w H (h.push {cls:=.type "dict",data:=.dict #[]}) h.objs.size (.dK []):=
 ⟨Oy _,Pp.mpr<|P0<|OL b,[],.nil,Zk h⟩
theorem Bg(h:Pd)(b:QK<h.objs.size):ObjOk P w H (h.push {cls:=.type "dict",data:=.dict #[]}) h.objs.size (.dT []):=
 ⟨Oy _,Pp.mpr<|P0<|OL b,[],.nil,_,#[],0,OX _ rfl,⟨rfl,rfl,rfl⟩,rfl,rfl,Sr⟩
def Jh:TE:=λ_ H Q=>∀p,H p=NZ->Q (.ref p) (upd H p<|.dK [])
def Ji:TE:=λ_ H Q=>∀p,H p=NZ->Q (.ref p) (upd H p<|.dT [])
theorem tR:PE X (.Dict [] [] p) Jh:=λO s a H Q I h=>
 YN ⟨.ref _,_,I.laid (λz z q=>Oe _ q) (N9 _)<|tQ _ I.big,rfl,h _<|I.hok.fresh<|N9 _⟩
theorem nN:PE X (.Dict [] [] p) Ji:=λO s a H Q I h=>
 YN ⟨.ref _,_,I.laid (λz z q=>Oe _ q) (N9 _)<|Bg _ I.big,rfl,h _<|I.hok.fresh<|N9 _⟩
def vG:ab (TE×TE)->St->Hp->(ab (V×V)->Hp->Prop)->Prop
 |[],_,H,Q=>Q [] H
 |(t,T)::r,a,H,Q=>t a H λx h=>T a h λy b=>vG r a b λp c=>Q ((x,y)::p) c
abbrev VV:ab (V×V)->ab (NX×NX)->Prop:=Paired λp q=>RelV p.1 q.1/\RelV p.2 q.2
def Mx(X:Cx)(p:Pos)(U:ab (M' Px))(Z:ab Px)(t:ab (TE×TE)):Prop:=
 ∀(O:ab (J'×Obj)) (s:Od) (a:St) (H:Hp) (Q:ab (V×V)->Hp->Prop),Inv X O a H s->vG t a H Q->
  wpAny (OU X.prog X.w) X.A (evalPairs<|pairTrees U Z X.env p) (λv b=>∃P h,Inv X O a h b/\VV P v/\Q P h) X.xe s
theorem xr:Mx X p [] [] []:=λO s a H Q I h=>pairTrees_nil_walk ⟨[],H,I,.nil,h⟩
theorem nO(b:PE X k T)(c:PE X v d)(r:Mx X p e f t):
  Mx X p (gV k::e) (v::f) ((T,d)::t):=λO s a H Q I h=>
 pairTrees_cons_walk (bN (b O s a H _ I h) (by rintro u g ⟨x,i,j,l,q⟩;exact bN (c O g a i _ j q) (by rintro D m ⟨y,n,o,w,z⟩;exact bN (r O m a n _ o z) (by rintro E F ⟨P,A,B,W,C⟩;exact ⟨(x,y)::P,A,B,.cons ⟨l,w⟩ W,C⟩))))
noncomputable def gz(k m:ab (aR×V)):ab (aR×V):=m.foldl (λr v=>c9 r v.1 v.2) k
theorem KV.merge:∀{m:ab (aR×V)} {s:ab (aR×NX)} {k:ab (aR×V)} {v:ab (aR×NX)},KV m s->KV k v->KV (gz k m) (XD v s):=by
 intro m s k v r;induction r generalizing k v with
 |nil=>intro q;exact q
 |@cons p q P Q h t i=>
  intro a;have e:KV (c9 k p.1 p.2) (stored v q.1 q.2):=by
   have:=a.put p.1 h.2;rwa[<-h.1]
  exact i e
theorem je:∀m k,(gz k m).length<=k.length+m.length
 |[],k=>by show k.length<=k.length+0;simp
 |p::r,k=>by
  have h:=je r<|c9 k p.1 p.2;have H:=dU k p.1 p.2;show(gz _ r).length<=_
  grind
theorem nQ:∀{k:ab (aR×V)} {W:ab (NX×NX)},VV (k.map λv=>(kV v.1,v.2)) W->∃s,Carries (be P w) W s/\KV k s
 |[],_,r=>by cases r;exact⟨[],QS,.nil⟩
 |p::k,_,r=>by
  cases r with
  |@cons a b A d h t=>
   obtain⟨s,c,q⟩:=nQ (P:=P) (w:=w) t;obtain⟨e,B⟩:=b;exact⟨(p.1,B)::s,⟨jO h.1,rfl,c⟩,.cons ⟨rfl,h.2⟩ q⟩
def tT(t:ab (TE×TE)):TE:=λa H Q=>∀p,H p=NZ->vG t a (upd H p<|.dK []) λP h=>h p=gV (.dK [])/\∃k:ab (aR×V),P=k.map (λv=>(kV v.1,v.2))/\k.length<=15/\Q (.ref p) (upd h p<|.dK<|gz [] k)
theorem xu(h:Mx X p v a t)(r:v.all (·.isSome)=NW)(l:v.length=a.length)(f:v≠[])
  (b:v.length<=15):PE X (.Dict v a p) (tT t):=by
 intro O s g H Q I q;have n:=I.hok.fresh<|N9 _;have j:=I.laid (t':=s.toks) (λZ Z q=>Oe _ q) (N9 _)<|tQ _ I.big;refine wpAny_Dict_walk (knd:=be _ X.w) r l f b<|bN (h O _ g _ _ j<|q _ n) λL M ⟨P,N,i,W,e,k,E,T,m⟩=>?_;subst E;obtain⟨o,c,u⟩:=nQ W;obtain⟨z,w,x,y,D⟩:=Hc i.hok e;cases y;refine⟨o,c,D,λA d B=>⟨.ref _,_,?_,rfl,m⟩⟩;have C:(gz [] k).length<=sizeLine:=by
  have F:=je k [];rw[SZ]at F;rw[Qj];lia
 have G:∃q,A.get? _=gV q:=let ⟨q,_,_,J,_⟩:=d;⟨q,J⟩
 exact jP i (by rw[e];exact QS) B G<|rm C w (u.merge .nil) d
structure M2 (X:Cx)(o:Px)(m:Str)(UE:Pos)(e f:Px)(WD:Pos):Prop where
 base:SJ o m X.env (Qm o X.env)=Qm o X.env
 few:((Rc WD<|OS [e,f] X.env).all (λx=>!x.1)&&(WN WD<|Uj [] X.env).all (λx=>x.1.isSome)
  &&decide (([e,f]:ab Px).length+([]:ab ky).length+(if([]:ab ky).isEmpty then 0 else 1)<30))=NW
 line:(UE.endLine == WD.line)=NW
 trees:Rc WD (OS [e,f] X.env)=[(N8,Qm e X.env),(N8,Qm f X.env)]
def NG(H:Hp)(a:J'):Prop:=(∃k,Rd H a<|.dK k)\/∃k,Rd H a<|.dT k
theorem Jj(I:Inv X O g H s)(d:NG H a):
  s.TypeIs (.ref a) "dict"/\(∀b,PF a=.ref b->∃o,s.heap.get? b=gV o/\o.dict=NZ)/\(a == QK)=false:=by
 obtain⟨k,e⟩|⟨k,e⟩:=d
 ·obtain⟨z,h,v,z,D⟩:=mo I.hok e;refine⟨D.typeIs,λb q=>?_,h⟩;cases q;obtain⟨o,z,z,c,f,z⟩:=D;exact⟨o,c,f.2.1⟩
 obtain⟨z,h,x,z,D⟩:=mq I.hok e;refine⟨D.typeIs,λb q=>?_,h⟩;cases q;obtain⟨o,z,z,c,f,z⟩:=D;exact⟨o,c,f.2.1⟩
end L2
namespace Att
open PySem PySem.W PySem.Calls PyProof.Rows
theorem mO:∀N v,WellAll P h v (N.map l')->RQ v N:=by
 intro N
 induction N with
 |nil=>
  intro v w;cases w;exact .nil
 |cons n N i=>
  intro v w;cases w with
  |cons a b=>
   cases a;exact .cons _ _<|i _ b
theorem zg{l:V1}{n:Nat}(i:l.most=gV n){P:YV}{h:Pd}{A:ab WData}{M:ab NX}
  (b:l.row.toRowW.claim.pre A=NW) (e:WellAll P h M A):
  ∃a v N,M=[PF a]/\A=[WData.list<|N.map l']/\h.get? a=gV {cls:=.type "list",data:=.seq v.toArray}/\RQ v N/\N.length<=n:=by
 have f:WShape.hasAll [] A _=true:=(pre_splitW b).1;have g:=(pre_splitW b).2;obtain⟨d,r,rfl,j,k⟩:=hasAllW_cons f;obtain rfl:=hasAllW_nil k;obtain⟨x,rfl,m⟩:=hasW_list j;obtain⟨N,rfl⟩:=items_int m;have Q:N.length<=n:=by
  have H:(WTm.not<|.lt (.lit<|.int (n))<|.len<|.arg 0).holds [] {args:=[.list<|N.map .int]}=true:=by
   have H:=(holds_andW g).1;rwa[i]at H
  have c:=condW_of H<|rfl;simp_all
 cases e with
 |cons w W=>
  cases W;cases w with
  |list p s=>exact⟨_,_,N,rfl,rfl,p,mO N _ s,Q⟩
theorem zh(l:V1)(a:ab WData):l.row.toRowW.claim.post a (.bool NW) a=true:=
 postW_of
  rfl
  (w_eq_bool (w_res rfl) w_lit) rfl
theorem attach_call{l:V1}{n:Nat}{q:Om}{loose:ab Str}{X:(Str->M' NX)->Pd->Prop}{y:OI->Pd->Prop}{d:DefRec}
  (u:l.most=gV n) (h:d.params.defaults=[])
  (call:∀w b s m M F o p c Z a v N,
   Ground q loose [] X w b m M s.heap->y w s.heap->
   s.heap.get? F=gV o->o.data=.func (docDef d.name d.params d.body d.scope p c Z)->s.heap.CodeRec c d.name->m d.name=gV (.ref F)->
   s.heap.get? a=gV {cls:=.type "list",data:=.seq v.toArray}->RQ v N->N.length<=n->s.gens=#[]->
   codeAny (OU l.prog w) Xe (.call (.ref F) ⟨[.ref a],[]⟩) (λr e=>r=.ok (.ret<|.bool NW)/\OldK s.heap e.heap/\e.os=s.os/\Vs e.gens) s):
  YS q loose X y l.row.toRowW d [] (λf v=>XG f v):=by
 intro w b s m M G Y F o p c Z x kV z B H D g C k E as A t I i J;obtain rfl:x=.none:=Dflts.none D h;obtain rfl:kV=.none:=Dflts.noKw D;obtain⟨a,v,N,rfl,rfl,j,L,Q⟩:=zg u A i;refine enter_call<|Tn (call w b s m M F o p c Z a v N G Y z ‹_› H g j L Q C) λr e O=>?_;obtain⟨rfl,P,T,U⟩:=O;exact⟨.inl ⟨.bool NW,.bool NW,[],rfl,λ_=>rfl,.bool NW,zh l _,λ_=>⟨RK,λ_ W=>(nomatch W)⟩⟩,P,T,U⟩
end Att
namespace L2
open PySem PySem.Spec PyProof.Rows
theorem iR:∀{v:ab NX} {N:ab Int},RQ v N->Vals (N.map V.int) v:=by
 intro v N h;induction h with
 |nil=>exact .nil
 |cons n t h i=>exact .cons ⟨t,rfl⟩ i
noncomputable def cW(s:Pn)(j:Nat):Pn:=match s with
 |.ClassDef _ _ _ b _ _ _ _ _ _ _=>b.getD j<|.Pass ⟨0,0,0,0⟩
 |_=>.Pass ⟨0,0,0,0⟩
noncomputable def ft(s:Pn):Sy:=match s with
 |.FunctionDef _ a _ _ _ _ _ _ _ _=>a
 |_=>{posonlyargs:=[],args:=[],vararg:=NZ,kwonlyargs:=[],kw_defaults:=[],kwarg:=NZ,defaults:=[]}
noncomputable def cX(s:Pn):ab Pn:=match s with
 |.FunctionDef _ _ b _ _ _ _ _ _ _=>b
 |_=>[]
noncomputable def aJ(s:Pn):RY:=match s with
 |.FunctionDef _ _ _ _ _ _ c _ _ _=>c
 |_=>{kind:=.function,names:=[],isGenerator:=N8,isCoroutine:=N8}
abbrev a_:A6:=λ_ _ _ _ _ _=>False
abbrev E0:XK:=λ_ _ _=>False
theorem xv:jo a_ X E0:=λz z z z z z z h=>h.elim
structure Fun (K:C')(x qual:Str)(st:Pn)(f:J')(fd:Ol):Prop where
 ex:∃(oc:NX) (od:M' J') (kV Yd pm:NX) (an:M' J') (QC ct:NX) (osl:Qs (M' NX)),
  fd=Q9 x qual (ft st) (cX st) (aJ st) .none kV Yd pm an QC ct/\K.lookup f=gV ⟨oc,od,.func fd,osl⟩/\Tq K QC qual=NW
 kp:P_ K (.ref f)=NW
section
variable {K:C'}
theorem Fun.ok{P:Om}{w:OI}{M:Str->M' NX}{b:Pd}{x l:Str}{st:Pn}{f:J'}{i:Ol}{N p:ab Str}{k:Nat}{c:Sp}(F:Fun K x l st f i)(S:dk N p (aJ st))(m:∀v H Q E,c v H Q E->v.length=p.length)
  (d:∀a A o s H v Q E,Room k (A.deeper<|QY l (aJ st) s.heap.objs.size f a)->c v H Q E->
   ∃t,PSs (rg a_ P w K M b N l (aJ st) f a A o s H E).nox (cX st) t/\t {nx:=λY j=>Q .non j,rt:=Q} (start N v) H):ay P w K M b a_ (k+1) f i p c:=by
 obtain⟨n,u,kV,Z,y,z,a,C,O,rfl,L,e⟩:=F.ex;refine G0 L e S m λA o s H v Q E r g=>?_;obtain⟨t,h,q⟩:=d a A o s H v Q E r g;exact⟨t,h.nox,q⟩
theorem Fun.binds{x q:Str}{st:Pn}{f:J'}{d:Ol}{p:ab Str}(F:Fun K x q st f d)
  (h:∀kV Z P a Q c u,u.length=p.length->Ym (Q9 x q (ft st) (cX st) (aJ st) .none kV Z P a Q c) ⟨u,[]⟩=pure (p.zip u)):Binds K d p []:=by
 obtain⟨O,b,kV,Z,P,a,Q,c,o,rfl,l,H⟩:=F.ex;exact .all<|h kV Z P a Q c
theorem fun_mk{x q:Str}{st:Pn}{f:J'}{O:NX}{d a:M' J'}{o:Qs (M' NX)}{kV Z p Q C:NX}(l:K.lookup f=gV ⟨O,d,.func<|Q9 x q (ft st) (cX st) (aJ st) .none kV Z p a Q C,o⟩)
  (c:Tq K Q q=NW) (k:P_ K (.ref f)=NW):Fun K x q st f (Q9 x q (ft st) (cX st) (aJ st) .none kV Z p a Q C):=⟨⟨O,d,kV,Z,p,a,Q,C,o,rfl,l,c⟩,k⟩
end
theorem mv(h:Room k A):A.units+1<Sm:=Ru (Xn (by simp) _) h.units
theorem ah(h:n<=1000):n<sizeLine:=Ru h (by decide)
theorem gq{l:List a}(i:Nat)(h:l[i]?=x):l[i]?=x:=h
theorem nn{p:Prop}(h:p:=by first|exact gq 0 rfl|exact gq 1 rfl|exact gq 2 rfl|exact gq 3 rfl|exact gq 4 rfl|exact gq 5 rfl|exact gq 6 rfl|exact gq 7 rfl|exact gq 8 rfl|exact gq 9 rfl|exact gq 10 rfl|exact gq 11 rfl|exact gq 12 rfl|exact gq 13 rfl|exact gq 14 rfl|exact gq 15 rfl):p:=h
theorem pv{X:Cx}(i:Nat){p:Pos}(H:X.N[i]?=gV x:=by exact nn)(v:Kz X.env.scope x:=by first|exact XW rfl|exact Ux (XW rfl)|exact Ux<|Ux rfl)(d:(x == ("__debug__":Str))=false:=by decide)
  (h:(x == ("__classdict__":Str))=false:=by decide):PE X (.Name x p) (mN i):=AQ H v d h
theorem ak{A B:Prop}(h:B):if N8=NW then A else B:=by
 assumption
theorem ap{A B:Prop}(h:A):if NW=NW then A else B:=by
 assumption
theorem cn{c A B:Prop} [Decidable c] (H:c->A)(a:¬c->B):if c then A else B:=by
 simp_all
def Same(H h:Hp):Prop:=∀b o,H b=gV o->h b=gV o
theorem Same.refl(H:Hp):Same H H:=λz z h=>h
theorem Same.trans(a:Same H d)(b:Same d e):Same H e:=λc o h=>b c o<|a c o h
theorem Same.free(e:Same H a)(h:a l=NZ):H l=NZ:=by
 cases q:H l with
 |none=>rfl
 |some o=>
  rw[e l o q]at h;cases h
theorem Same.seq{K:C'}{H b:Hp}{a:J'}{x:ab V}(e:Same H b)(h:SqL K H a x):SqL K b a x:=by
 obtain(h|⟨o,h⟩)|h:=h
 ·exact .inl<|.inl<|e _ _ h
 ·exact .inl<|.inr ⟨o,e _ _ h⟩
 exact .inr h
section
variable {κ:Type}[Uo κ]
theorem xw:∀{l:ab κ} {k:κ},l.Nodup->¬k∈l->(l++[k]).Nodup
 |[],k,_,_=>by simp
 |a::r,k,h,H=>by
  obtain⟨b,c⟩:=PJ.mp h;refine PJ.mpr ⟨λm=>?_,xw c λm=>H<|Oz.mpr<|Ux m⟩;simp_all
end
end L2
namespace L2
open PySem
theorem cK(h:n<=10000):n<sizeLine:=Ru h (by decide)
end L2
namespace TS
open PySem PyProof.Rows
structure Cm (prog:Om)(w:OI)(A:PL)(E:NX->Od->Prop)(s:Od) where
 num:PH->Int
 ok:PH->Prop
 kd:Z4
 lt:∀{x y:PH} {Q:M' N'->PM->Prop} {st:PM},kindOf st=kd->ok x->ok y->Q (gV (decide (num x<num y))) st->wpS (OU prog w) A E s (lt' x y) Q st
section
variable {prog:Om}{w:OI}{A:PL}{E:NX->Od->Prop}{s:Od}{C:Cm prog w A E s}{st:PM}{α:Type}
abbrev Cm.W(C:Cm prog w A E s)(m:VE PM Sem α)(Q:α->PM->Prop)(st:PM):Prop:=wpS (OU prog w) A E s m Q st
noncomputable def Cm.K(C:Cm prog w A E s)(x:Qs PH)(i:Nat):Int:=(x[i]?.map C.num).getD 0
def Cm.Oks(C:Cm prog w A E s)(x:Qs PH):Prop:=∀p∈x.toList,C.ok p
theorem Jk(h:C.Oks x)(H:i<x.size):∃p,x[i]?=gV p/\C.ok p/\C.K x i=C.num p:=
 ⟨x[i],UF x i H,h _ (by simp),by unfold Cm.K;rw[UF x i H];rfl⟩
theorem dM(H:a[i]?=gV p)(h:Q p st):wpS (OU prog w) A E s (VW a i) Q st:=by
 rw[elem'_eq,H];exact Pb h
theorem dG{c:Prop} [Decidable c] {x y:VE PM Sem α}{Q:α->PM->Prop}(h:c->wpS (OU prog w) A E s x Q st)(H:¬c->wpS (OU prog w) A E s y Q st):wpS (OU prog w) A E s (if c then x else y) Q st:=by
 split
 ·exact h ‹_›
 exact H ‹_›
noncomputable def gW:N'->PH->Qs PH->Nat->Nat->Nat->VE PM Sem (M' Nat):=sortPriv% PySem.Builtin.gallop
noncomputable def Fp(left:N')(k:PH)(a:Qs PH)(b i:Nat):VE PM Sem (M' N'):=do
 let x <-VW a (b+i)
 if left then lt' x k else
  let r <-lt' k x
  return r.map (!·)
section
variable (left:N')(key:PH)(arr:Qs PH)(base n Vb:Nat)
noncomputable def Bh(lo h:Nat):VE PM Sem (M' Nat):=do
 let mut lo:=lo
 let mut h:=h
 for _ in [0:n] do
  if lo>=h then break
  let m:=lo+(h-lo)/2
  let gV M <-Fp left key arr base m|return NZ
  if M then lo:=m+1 else h:=m
 return gV h
noncomputable def Fq(m:Nat)(f:Nat->Nat)(t:N'->N')(k:Nat->Nat->VE PM Sem (M' Nat)):VE PM Sem (M' Nat):=do
 let mut l:=0
 let mut o:=1
 for _ in [0:n] do
  if o>=m then break
  let gV M <-Fp left key arr base (f o)|return NZ
  if t M then break
  l:=o
  o:=2*o+1
 k l o
theorem vH:gW left key arr base n Vb=(do
 let gV right <-Fp left key arr base Vb|return NZ
 if right then Fq left key arr base n (n-Vb) (Vb+·) not λl o=>Bh left key arr base n (Vb+l+1) (Vb+min o (n-Vb))
 else Fq left key arr base n (Vb+1) (Vb - ·) id λl o=>Bh left key arr base n (Vb+1-min o (Vb+1)) (Vb-l)):=rfl
end
section
variable {left:N'}{key:PH}{arr:Qs PH}{base n:Nat}{Q:M' Nat->PM->Prop}
def M_(C:Cm prog w A E s)(left:N')(key:PH)(arr:Qs PH)(base n:Nat)(st:PM)(P:Nat->N'):Prop:=∀(m:Nat) (q:M' N'->PM->Prop),m<n->q (gV<|P m) st->C.W (Fp left key arr base m) q st
theorem lkx{lo m u:Nat}(h:u<m):lo+(lo+m)-1-(lo+u)=lo+(m-1-u):=by
 rw[Nat.sub_sub,Nat.add_left_comm 1,Nat.add_sub_add_left,Nat.add_comm 1,Nat.add_sub_assoc h,Nat.sub_sub,Nat.add_comm 1]
theorem mdx{l r:Nat}(g:l<r):l<=(l+r)/2/\(l+r)/2<r:=⟨by lia,by lia⟩
theorem tx{l r k x m:Nat}(H:r-l<=k-x)(a:l<=m)(b:m<r):r-(m+1)<=k-(x+1)/\m-l<=k-(x+1):=⟨O8 (Nat.sub_le_sub_left (Nat.succ_le_succ a) r) (Nat.sub_le_sub_right H 1),Nat.le_sub_one_of_lt (Pf (Nat.sub_lt_sub_right a b) H)⟩
theorem Jl{lo H:Nat}{P:Nat->N'}(B:M_ C left key arr base n st P)(f:∀i j,i<=j->j<n->P j=NW->P i=NW)(m:lo<=H)(o:H<=n)(p:∀i,i<lo->P i=NW)(t:∀i,H<=i->i<n->P i=N8)
  (h:∀k,k<=n->(∀i,i<k->P i=NW)->(∀i,k<=i->i<n->P i=N8)->Q (gV k) st):C.W (Bh left key arr base n lo H) Q st:=by
 unfold Bh;refine OQ (RW (QT (I:=λx c q=>q=st/\∃l r,c=(NZ,l,r)/\l<=r/\r<=n/\r-l<=n-x/\(∀i,i<l->P i=NW)/\(∀i,r<=i->i<n->P i=N8))
  (Q:=λc q=>q=st/\∃l,c=(NZ,l,l)/\l<=n/\(∀i,i<l->P i=NW)/\(∀i,l<=i->i<n->P i=N8)) ?_ ?_ ⟨rfl,lo,H,rfl,m,o,O8 (hH _ _) o,p,t⟩) ?_)
 ·rintro x c q w F ⟨rfl,l,r,rfl,u,a,v,b,d⟩;dsimp only;refine dG (λg=>Pb ?_) λg=>OQ<|B _ _ (by grind) ?_
  ·obtain rfl:l=r:=Nat.le_antisymm u g
   exact⟨rfl,l,rfl,a,b,d⟩
  have q:l+(r-l)/2<r:=by lia
  have p:=tx v (Ub l _) q;cases e:P (l+(r-l)/2)with
  |true=>exact Pb ⟨rfl,_,_,rfl,q,a,p.1,λi H=>by grind,d⟩
  |false=>exact Pb ⟨rfl,_,_,rfl,by simp,OW (Pf q a),p.2,b,λi y z=>by
    cases D:P i with
    |false=>rfl
    |true=>rw[f _ i y z D]at e;cases e⟩
 ·rintro c q ⟨rfl,l,r,rfl,u,a,v,b,d⟩;obtain rfl:l=r:=by grind
  exact⟨rfl,l,rfl,a,b,d⟩
 rintro c q ⟨rfl,l,rfl,a,b,d⟩;exact Pb<|h l a b d
theorem Bi{k:Nat->Nat->VE PM Sem (M' Nat)}(B:M_ C left key arr base n st P)(r:m<=n)(H:∀o,o<m->f o<n)(e:t (P<|f 0)=N8)(i:1<=m)
  (h:∀l O,l<O->l<m->t (P<|f l)=N8->(O<m->t (P<|f O)=NW)->C.W (k l O) Q st):C.W (Fq left key arr base n m f t k) Q st:=by
 refine OQ (RW (QT (I:=λx c q=>q=st/\∃l O,c=(NZ,l,O)/\l<O/\x<O/\l<m/\t (P<|f l)=N8)
  (Q:=λc q=>q=st/\∃l O,c=(NZ,l,O)/\l<O/\l<m/\t (P<|f l)=N8/\(O<m->t (P<|f O)=NW)) ?_ ?_ ⟨rfl,0,1,rfl,by simp,by simp,i,e⟩) ?_)
 ·rintro x c q _ u ⟨rfl,l,O,rfl,a,j,b,d⟩;exact dG (λg=>Pb ⟨rfl,l,O,rfl,a,b,d,λ_=>absurd g (Nat.not_le_of_lt ‹_›)⟩) λg=>OQ<|B _ _ (by simp_all)<|dG (λG=>Pb ⟨rfl,l,O,rfl,a,b,d,λ_=>G⟩) λG=>Pb ⟨rfl,_,_,rfl,by lia,by lia,Nat.lt_of_not_le g,by simpa using G⟩
 ·rintro c q ⟨rfl,l,O,rfl,a,j,b,d⟩;exact⟨rfl,l,O,rfl,a,b,d,λ_=>by lia⟩
 rintro c q ⟨rfl,l,O,rfl,a,b,d,p⟩;exact h l O a b d p
theorem lE{H O n i:Nat}(G:H<=n)(y:H+min O (n-H)<=i)(c:i<n):H+O<=i/\O<n-H:=by
 obtain h|h:=UN O (n-H)
 ·rw[Nat.min_eq_left (OW h)]at y;exact⟨y,h⟩
 rw[Nat.min_eq_right h,Nat.add_sub_of_le G]at y;exact absurd c (Nat.not_lt.2 y)
theorem lD{H O i:Nat}(a:i<H+1-min O (H+1)):i<=H-O/\O<H+1:=by
 obtain h|h:=UN O (H+1)
 ·rw[Nat.min_eq_left (OW h),Nat.succ_sub (Nat.le_of_lt_succ h)]at a;exact⟨Nat.le_of_lt_succ a,h⟩
 rw[Nat.min_eq_right h,Nat.sub_self]at a;cases a
theorem Bj(z:kindOf st=C.kd)(N:C.ok key)(r:C.Oks arr)(Z:base+n<=arr.size)(G:H<n)(B:∀i j,i<=j->j<n->C.K arr (base+i)<=C.K arr (base+j))(U:∀i,i<n->C.K arr (base+i)≠C.num key)
  (h:∀k,k<=n->(∀i,i<k->C.K arr (base+i)<C.num key)->(∀i,k<=i->i<n->C.num key<C.K arr (base+i))->Q (gV k) st):C.W (gW left key arr base n H) Q st:=by
 have b:M_ C left key arr base n st λi=>decide (C.K arr (base+i)<C.num key):=λm o J q=>by
  obtain⟨p,L,I,e⟩:=Jk r (i:=base+m) (by lia);have M:=U m J;simp only[e]at q M;refine OQ<|dM L ?_;cases left
  ·refine OQ<|C.lt z N I<|Pb ?_;rw[show decide (C.num p<C.num key)=!decide (C.num key<C.num p) by rw[<-decide_not];exact QM.mpr ⟨λ_=>Int.not_lt_of_ge (hI ‹_›),λ_=>by lia⟩]at q;exact q
  exact C.lt z I N q
 have D:∀i j,i<=j->j<n->decide (C.K arr (base+j)<C.num key)=NW->decide (C.K arr (base+i)<C.num key)=true:=λi j t u g=>N3<|Int.lt_of_le_of_lt (B i j t u)<|Oh g;have F:∀i j,i<=j->j<n->decide (C.K arr (base+i)<C.num key)=N8->decide (C.K arr (base+j)<C.num key)=false:=λi j t u g=>by
  have:=UU g;have:=B i j t u;exact N7 (by lia)
 have X:∀{lo a},lo<=a->a<=n->(∀i,i<lo->decide (C.K arr (base+i)<C.num key)=NW)->(∀i,a<=i->i<n->decide (C.K arr (base+i)<C.num key)=N8)->C.W (Bh left key arr base n lo a) Q st:=λv x d f=>
  Jl b D v x d f λk P T W=>h k P (λi a=>Oh<|T i a) λi y c=>by
   have:=UU<|W i y c;have:=U i c;lia
 rw[vH];refine OQ<|b _ _ G ?_;dsimp only;refine dG (λe=>Bi b (by simp) (by lia) (by rw[m8,e];rfl) (by grind) λl O v x d f=>?_) λe=>Bi b (Nat.le_of_lt_succ (Nat.succ_lt_succ G)) (by grind) (by simpa using e) (by simp) λl O v x d f=>?_
 ·exact X (Xn (Nat.le_min.2 ⟨v,x⟩) H) (O8 (Xn (Nat.min_le_right _ _) H) (Nat.le_of_eq (Nat.add_sub_of_le (OW G)))) (λi a=>D i (H+l) (Nat.le_of_lt_succ a) (Nat.add_lt_of_lt_sub' x)<|by simpa using d) λi y c=>F (H+O) i (lE (OW G) y c).1 c (by simpa using f (lE (OW G) y c).2)
 exact X (O8 (Nat.sub_le_sub_left (Nat.le_min.2 ⟨v,x⟩) (H+1)) (Nat.le_of_eq (Nat.succ_sub_succ H l))) (OW (Ru (hH _ _) G)) (λi a=>D i _ (lD a).1 (Ru (hH _ _) G)<|f (lD a).2) λi y c=>F _ i y c d
end
end
abbrev R:=Qs PH
abbrev S:=VE PM Sem
noncomputable def Bk(g:Nat):S WI:=ic λst=>U4 (kindOf st) (Pc st) (Pg st) g<|Q0 st
structure Sd where
 arr:R
 ia:Nat->Nat
 na:Nat->Nat
 gal:N'->PH->Nat->S (M' Nat)
 kk:Nat->Nat->Nat
 ex:Nat->Nat->R
 nx:Nat->Nat->Nat
 v:Nat->ab PH
structure Mg where
 T:Type->Type
 m:{X:Type}->M' R->R->Nat->Nat->X->T X
 r:{X:Type}->T X->M' R
 o:{X:Type}->T X->R
 i:{X:Type}->T X->Nat
 j:{X:Type}->T X->Nat
 x:{X:Type}->T X->X
 a:Sd
 b:Sd
 sel:{β:Type}->N'->S β->S β->S β
 don:R->Nat->Nat->R
 pa:{β:Type}->R->Nat->Nat->(R->S β)->S β->S β
 pb:{β:Type}->R->Nat->Nat->(R->S β)->S β->S β
 ta:{β:Type}->R->Nat->Nat->(R->S β)->S β->S β
 tb:{β:Type}->R->Nat->Nat->(R->S β)->S β->S β
 n:Nat
noncomputable def Mg.in1(M:Mg)(g:Nat)(c:M.T (Nat×Nat)):S (R_<|M.T<|Nat×Nat):=do
 let q <-VW M.b.arr (M.b.ia<|M.j c)
 let p <-VW M.a.arr (M.a.ia<|M.i c)
 let gV w <-lt' q p|return .done (M.m (gV<|M.don (M.o c) (M.i c)<|M.j c) (M.o c) (M.i c) (M.j c)<|M.x c)
 M.sel w (do
   let p <-VW M.a.arr (M.a.ia<|M.i c)
   M.pa ((M.o c).push p) (M.a.na<|M.i c) (M.j c) (λx=>return .done<|M.m (gV x) ((M.o c).push p) (M.a.na<|M.i c) (M.j c) ((M.x c).1+1,0))
    (if(M.x c).1+1>=g then return .done (M.m NZ ((M.o c).push p) (M.a.na<|M.i c) (M.j c) ((M.x c).1+1,0))else return .yield (M.m NZ ((M.o c).push p) (M.a.na<|M.i c) (M.j c) ((M.x c).1+1,0))))
  (do
   let q <-VW M.b.arr (M.b.ia<|M.j c)
   M.pb ((M.o c).push q) (M.i c) (M.b.na<|M.j c) (λx=>return .done<|M.m (gV x) ((M.o c).push q) (M.i c) (M.b.na<|M.j c) (0,(M.x c).2+1))
    (if(M.x c).2+1>=g then return .done (M.m NZ ((M.o c).push q) (M.i c) (M.b.na<|M.j c) (0,(M.x c).2+1))else return .yield (M.m NZ ((M.o c).push q) (M.i c) (M.b.na<|M.j c) (0,(M.x c).2+1))))
section
variable (M:Mg)(mg ac bc:Nat)(o:R)(i j:Nat)
noncomputable def Mg.gC:S (R_<|M.T<|Nat×Nat×Nat):=do
 let p <-VW M.a.arr (M.a.ia i)
 M.pa (o.push p) (M.a.na i) j (λx=>return .done<|M.m (gV x) (o.push p) (M.a.na i) j (mg,ac,bc))
  (if(decide (ac<7)&&decide (bc<7))=NW then return .done (M.m NZ (o.push p) (M.a.na i) j (mg,ac,bc))else return .yield (M.m NZ (o.push p) (M.a.na i) j (mg,ac,bc)))
noncomputable def Mg.gB:S (R_<|M.T<|Nat×Nat×Nat):=do
 let q <-VW M.b.arr (M.b.ia j)
 M.pb (o.push q) i (M.b.na j) (λx=>return .done<|M.m (gV x) (o.push q) i (M.b.na j) (mg,ac,bc)) (do
  let gV u <-M.b.gal NW (<-VW M.a.arr<|M.a.ia i) (M.b.na j)|return .done (M.m (gV<|M.don (o.push q) i<|M.b.na j) (o.push q) i (M.b.na j) (mg,ac,bc))
  if M.b.kk (M.b.na j) u>0 then
   M.tb (o.push q++M.b.ex (M.b.na j) u) i (M.b.nx (M.b.na j) u) (λx=>return .done<|M.m (gV x) (o.push q++M.b.ex (M.b.na j) u) i (M.b.nx (M.b.na j) u) (mg,ac,M.b.kk (M.b.na j) u))
    (M.gC mg ac (M.b.kk (M.b.na j) u) (o.push q++M.b.ex (M.b.na j) u) i<|M.b.nx (M.b.na j) u)
  else M.gC mg ac (M.b.kk (M.b.na j) u) (o.push q) i (M.b.na j))
noncomputable def Mg.gA:S (R_<|M.T<|Nat×Nat×Nat):=do
 Bk mg
 let gV u <-M.a.gal N8 (<-VW M.b.arr<|M.b.ia j) i|return .done (M.m (gV<|M.don o i j) o i j (mg,ac,bc))
 if M.a.kk i u>0 then
  M.ta (o++M.a.ex i u) (M.a.nx i u) j (λx=>return .done<|M.m (gV x) (o++M.a.ex i u) (M.a.nx i u) j (mg,M.a.kk i u,bc))
   (M.gB mg (M.a.kk i u) bc (o++M.a.ex i u) (M.a.nx i u) j)
 else M.gB mg (M.a.kk i u) bc o i j
noncomputable def Mg.out(c:M.T Nat):S (R_<|M.T Nat):=do
 let d <-forIn [0:M.n] (M.m NZ (M.o c) (M.i c) (M.j c) (0,0)) λ_=>M.in1 (M.x c)
 match M.r d with
 |some r=>return .done<|M.m (gV r) (M.o d) (M.i d) (M.j d)<|M.x c
 |none=>
  rule "list.sort.gallop"
  let C <-forIn [0:M.n] (M.m NZ (M.o d) (M.i d) (M.j d) (M.x c+1,M.x d)) λ_ c=>
   if(M.x c).1>1 then M.gA ((M.x c).1-1) (M.x c).2.1 (M.x c).2.2 (M.o c) (M.i c) (M.j c)else M.gA (M.x c).1 (M.x c).2.1 (M.x c).2.2 (M.o c) (M.i c) (M.j c)
  match M.r C with
  |some r=>return .done<|M.m (gV r) (M.o C) (M.i C) (M.j C) (M.x C).1
  |none=>
   Bk ((M.x C).1+1)
   return .yield (M.m NZ (M.o C) (M.i C) (M.j C)<|(M.x C).1+1)
noncomputable def Mg.run:S R:=do
 let c <-forIn [0:M.n] (M.m NZ o i j<|gallopOf (<-get)) λ_=>M.out
 match M.r c with
 |some r=>return r
 |none=>unsupported "internal:list.sort.merge-bound"
end
noncomputable def Na(a:R):Sd where
 arr:=a
 ia:=λi=>i
 na:=λi=>i+1
 gal:=λl q i=>gW l q a i (a.size-i) 0
 kk:=λ_ u=>u
 ex:=λi u=>a.extract i (i+u)
 nx:=λi u=>i+u
 v:=λi=>a.toList.drop i
noncomputable def My(a:R):Sd where
 arr:=a
 ia:=λi=>i-1
 na:=λi=>i-1
 gal:=λl q i=>gW l q a 0 i (i-1)
 kk:=λi u=>i-u
 ex:=λi u=>(a.extract u i).reverse
 nx:=λ_ u=>u
 v:=λi=>(a.toList.take i).reverse
noncomputable def Hd(a b o:R)(i j:Nat):R:=o++a.extract i a.size++b.extract j b.size
noncomputable def KC(a b o:R)(i j:Nat):R:=o++b.extract j b.size++a.extract i a.size
noncomputable def ER(a b:R):Mg where
 T:=λX=>M' R×R×Nat×Nat×X
 m:=λr o i j x=>(r,o,i,j,x)
 r:=λc=>c.1
 o:=λc=>c.2.1
 i:=λc=>c.2.2.1
 j:=λc=>c.2.2.2.1
 x:=λc=>c.2.2.2.2
 a:=Na a
 b:=Na b
 sel:=λw x y=>if w=NW then y else x
 don:=Hd a b
 pa:=λo i j f k=>if(i+1 == a.size)=NW then f (KC a b o i j)else k
 pb:=λo i j f k=>if(j == b.size)=NW then f (Hd a b o i j)else k
 ta:=λo i j f k=>if(i+1 == a.size)=NW then f (KC a b o i j)else if(i == a.size)=NW then f (Hd a b o i j)else k
 tb:=λo i j f k=>if(j == b.size)=NW then f (Hd a b o i j)else k
 n:=a.size+b.size
noncomputable def He(a b o:R)(i j:Nat):R:=a.extract 0 i++b.extract 0 j++o.reverse
noncomputable def KD(a b o:R)(i j:Nat):R:=b.extract 0 j++a.extract 0 i++o.reverse
noncomputable def Bm(a b:R):Mg where
 T:=λX=>M' R×Nat×Nat×R×X
 m:=λr o i j x=>(r,i,j,o,x)
 r:=λc=>c.1
 o:=λc=>c.2.2.2.1
 i:=λc=>c.2.1
 j:=λc=>c.2.2.1
 x:=λc=>c.2.2.2.2
 a:=My a
 b:=My b
 sel:=λw x y=>if w=NW then x else y
 don:=He a b
 pa:=λo i j f k=>if(i == 0)=NW then f (He a b o i j)else k
 pb:=λo i j f k=>if(j == 1)=NW then f (KD a b o i j)else k
 ta:=λo i j f k=>if(i == 0)=NW then f (He a b o i j)else k
 tb:=λo i j f k=>if(j == 1)=NW then f (KD a b o i j)else if(j == 0)=NW then f (He a b o i j)else k
 n:=a.size+b.size
noncomputable def Nb:R->R->S R:=sortPriv% PySem.Builtin.mergeLo
noncomputable def Nc:R->R->S R:=sortPriv% PySem.Builtin.mergeHi
theorem Jm(a b:R):Nb a b=(do
 rule "list.sort.merge-lo"
 let q <-VW b 0
 if(1 == b.size)=NW then return Hd a b #[q] 0 1
 else if(0+1 == a.size)=NW then return KC a b #[q] 0 1
 else(ER a b).run #[q] 0 1):=by kernel_rfl
theorem Jn(a b:R):Nc a b=(do
 rule "list.sort.merge-hi"
 let p <-VW a (a.size-1)
 if(a.size-1 == 0)=NW then return He a b #[p] (a.size-1) b.size
 else if(b.size == 1)=NW then return KD a b #[p] (a.size-1) b.size
 else(Bm a b).run #[p] (a.size-1) b.size):=by kernel_rfl
structure MI (r:PH->PH->Prop)(z o x y:ab PH):Prop where
 p:(o++(x++y)).Perm z
 u:(o++x).Pairwise r
 v:(o++y).Pairwise r
theorem MI.sw(h:MI r z o x y):MI r z o y x:=⟨(List.perm_append_comm.append_left o).trans h.p,h.v,h.u⟩
theorem MI.ta(T:∀a b c,r a b->r b c->r a c)(h:MI r z o (t++x) (q::y))(g:∀c∈t,r c q):MI r z (o++t) x (q::y):=by
 have u:=h.u;rw[<-O6]at u;have v:=QO.mp h.v;refine⟨by simpa using h.p,u,QO.mpr ⟨(QO.mp u).1,v.2.1,λc H d e=>?_⟩⟩;obtain H|H:=Os.mp H
 ·exact v.2.2 c H d e
 obtain rfl|e:=Oz.mp e
 ·exact g c H
 exact T _ _ _ (g c H)<|Vd v.2.1 e
section
variable {C:Cm prog w A E s}{r:PH->PH->Prop}{z:ab PH}{st:PM}{M:Mg}{la lb:Nat}{α:Type}
theorem Bn{prog:Om}{w:OI}{A:PL}{E:NX->Od->Prop}{s:Od}(h:Q () (U4 (kindOf st) (Pc st) (Pg st) g<|Q0 st)):wpS (OU prog w) A E s (Bk g) Q st:=V_ h
structure Fs (C:Cm prog w A E s)(r:PH->PH->Prop)(D:Sd):Prop where
 at_:∀{i p t},i<=D.arr.size->D.v i=p::t->D.arr[D.ia i]?=gV p/\D.v (D.na i)=t/\D.na i<=D.arr.size
 gal:∀{l q i Q st},i<=D.arr.size->kindOf st=C.kd->C.ok q->D.v i≠[]->(∀c∈D.v i,C.num c≠C.num q)->
  (∀u,D.nx i u<=D.arr.size->D.v i=(D.ex i u).toList++D.v (D.nx i u)->(∀c∈(D.ex i u).toList,r c q)->(∀c∈D.v (D.nx i u),r q c)->(¬D.kk i u>0->(D.ex i u).toList=[])->Q (gV u) st)->C.W (D.gal l q i) Q st
def tU(C:Cm prog w A E s)(z:ab PH)(x:R):Prop:=x.toList.Perm z/\x.toList.Pairwise λa b=>C.num a<C.num b
structure MS (M:Mg)(r:PH->PH->Prop)(z:ab PH)(o:R)(i j:Nat):Prop where
 m:MI r z o.toList (M.a.v i) (M.b.v j)
 i:i<=M.a.arr.size
 j:j<=M.b.arr.size
structure Jo (C:Cm prog w A E s)(M:Mg)(r:PH->PH->Prop)(z:ab PH)(la lb:Nat):Prop where
 er:∀{X e o i j} {x:X},M.r (M.m e o i j x)=e
 eo:∀{X e o i j} {x:X},M.o (M.m e o i j x)=o
 ei:∀{X e o i j} {x:X},M.i (M.m e o i j x)=i
 ej:∀{X e o i j} {x:X},M.j (M.m e o i j x)=j
 ex:∀{X e o i j} {x:X},M.x (M.m e o i j x)=x
 n:M.n=z.length
 tr:∀a b c,r a b->r b c->r a c
 nd:(z.map C.num).Nodup
 ok:∀c∈z,C.ok c
 a:Fs C r M.a
 b:Fs C r M.b
 l1:1<=la
 l2:1<=lb
 sel:∀{α p q} {x y:S α} {Q st},C.num p≠C.num q->(r p q->C.W x Q st)->(r q p->C.W y Q st)->C.W (M.sel (decide (C.num q<C.num p)) x y) Q st
 pa:∀{α o i j} {f:R->S α} {k Q st},MS M r z o i j->la<=(M.a.v i).length+1->(∀x,tU C z x->C.W (f x) Q st)->(la<=(M.a.v i).length->C.W k Q st)->C.W (M.pa o i j f k) Q st
 pb:∀{α o i j} {f:R->S α} {k Q st},MS M r z o i j->lb<=(M.b.v j).length+1->(∀x,tU C z x->C.W (f x) Q st)->(lb<=(M.b.v j).length->C.W k Q st)->C.W (M.pb o i j f k) Q st
 ta:∀{α o i j} {f:R->S α} {k Q st},MS M r z o i j->(∀x,tU C z x->C.W (f x) Q st)->(la<=(M.a.v i).length->C.W k Q st)->C.W (M.ta o i j f k) Q st
 tb:∀{α o i j} {f:R->S α} {k Q st},MS M r z o i j->(∀x,tU C z x->C.W (f x) Q st)->(lb<=(M.b.v j).length->C.W k Q st)->C.W (M.tb o i j f k) Q st
structure Iv (M:Mg)(r:PH->PH->Prop)(z:ab PH)(la lb:Nat)(n:Nat)(o:R)(i j:Nat):Prop where
 m:MS M r z o i j
 a:la<=(M.a.v i).length
 b:lb<=(M.b.v j).length
 n:(M.a.v i).length+(M.b.v j).length+n<=z.length
theorem MI.ne(h:MI r z o x y)(n:(z.map C.num).Nodup)(H:c∈x)(a:q∈y):C.num c≠C.num q:=by
 have:=(h.p.map _).nodup_iff.mpr n;rw[OF,OF]at this;exact(Qa.mp (Qa.mp this).2.1).2.2 _ (Qy H) _<|Qy a
theorem qi{l:ab PH}{n:Nat}(H:1<=n)(h:n<=l.length):∃p t,l=p::t:=by
 cases l with
 |nil=>simp_all
 |cons p t=>exact⟨p,t,rfl⟩
def Go(C:Cm prog w A E s)(M:Mg)(r:PH->PH->Prop)(z:ab PH)(la lb n:Nat){X:Type}(c:M.T X):Prop:=(∃x,M.r c=gV x/\tU C z x)\/∃o i j e,c=M.m NZ o i j e/\Iv M r z la lb n o i j
variable (K:Jo C M r z la lb)
include K
theorem Bo(m:MS M r z o i j)(e:M.a.v i=p::t)(a:M.b.v j=q::u)(g:r p q):MS M r z (o.push p) (M.a.na i) j:=by
 obtain⟨y,c,d⟩:=K.a.at_ m.i e;have b:=m.m;refine⟨?_,d,m.j⟩;rw[c,Vz,a];rw[e,a]at b;exact MI.ta K.tr b (by simpa using g)
theorem Bp(m:MS M r z o i j)(e:M.a.v i=p::t)(a:M.b.v j=q::u)(g:r q p):MS M r z (o.push q) i (M.b.na j):=by
 obtain⟨y,c,d⟩:=K.b.at_ m.j a;have b:=m.m;refine⟨?_,m.i,d⟩;rw[c,Vz,e];rw[e,a]at b;exact(MI.ta K.tr b.sw<|by simpa using g).sw
theorem Mz(I:Iv M r z la lb n o i j):∃p t q u,M.a.v i=p::t/\M.b.v j=q::u/\C.ok p/\C.ok q/\C.num p≠C.num q/\M.a.arr[M.a.ia i]?=gV p/\M.b.arr[M.b.ia j]?=gV q/\M.a.v (M.a.na i)=t/\M.b.v (M.b.na j)=u:=by
 obtain⟨p,t,e⟩:=qi K.l1 I.a;obtain⟨q,u,a⟩:=qi K.l2 I.b;exact⟨p,t,q,u,e,a,K.ok p (I.m.m.p.mem_iff.mp<|by simp[e]),K.ok q (I.m.m.p.mem_iff.mp<|by simp[a]),I.m.m.ne K.nd (by simp[e]) (by simp[a]),(K.a.at_ I.m.i e).1,(K.b.at_ I.m.j a).1,(K.a.at_ I.m.i e).2.1,(K.b.at_ I.m.j a).2.1⟩
theorem Ld(B:kindOf st=C.kd)(I:Iv M r z la lb n o i j):C.W (M.in1 J<|M.m NZ o i j e) (λx Q=>Q=st/\match x with|.done c=>Go C M r z la lb (n+1) c|.yield c=>∃o i j e,c=M.m NZ o i j e/\Iv M r z la lb (n+1) o i j) st:=by
 obtain⟨p,t,q,u,b,d,O,D,F,G,k,N,l⟩:=Mz K I;have H:=I.n;have v:=I.a;have y:=I.b;rw[b]at H v;rw[d]at H y;rw[OG]at H v y;rw[OG]at H;unfold Mg.in1;rw[K.eo,K.ei,K.ej];refine OQ<|dM k<|OQ<|dM G<|OQ<|C.lt B D O<|K.sel F (λg=>?_) λg=>?_
 ·refine OQ<|dM G ?_;have m:=Bo K I.m b d g;refine K.pa m (by simp_all) (λx f=>Pb ⟨rfl,.inl ⟨x,K.er,f⟩⟩) λh=>?_;have a:Iv M r z la lb (n+1) _ _ j:=⟨m,h,I.b,by rw[N,d,OG];lia⟩;exact dG (λw=>Pb ⟨rfl,.inr ⟨_,_,_,_,rfl,a⟩⟩) λw=>Pb ⟨rfl,_,_,_,_,rfl,a⟩
 refine OQ<|dM k ?_;have m:=Bp K I.m b d g;refine K.pb m (by simp_all) (λx f=>Pb ⟨rfl,.inl ⟨x,K.er,f⟩⟩) λh=>?_;have a:Iv M r z la lb (n+1) _ i _:=⟨m,I.a,h,by rw[l,b,OG];lia⟩;exact dG (λw=>Pb ⟨rfl,.inr ⟨_,_,_,_,rfl,a⟩⟩) λw=>Pb ⟨rfl,_,_,_,_,rfl,a⟩
def fZ(st Q:PM):Prop:=kindOf Q=kindOf st/\Pc Q=Pc st/\Pg Q=Pg st/\Q0 Q=Q0 st
abbrev Jp(C:Cm prog w A E s)(M:Mg)(r:PH->PH->Prop)(z:ab PH)(la lb n:Nat)(st:PM){X:Type}(x:R_ (M.T X))(Q:PM):Prop:=fZ st Q/\match x with|.done c=>Go C M r z la lb n c|.yield c=>∃o i j e,c=M.m NZ o i j e/\Iv M r z la lb n o i j
theorem Le(H:fZ a st)(I:Iv M r z la lb n o i j)(g:∀p q t u,M.a.v i=p::t->M.b.v j=q::u->r p q):C.W (M.gC v y B o i j) (Jp C M r z la lb n a) st:=by
 obtain⟨p,t,q,u,e,b,w,w,w,G,D,c,w⟩:=Mz K I;have f:=I.a;have k:=I.n;rw[e,OG]at f k;have m:=Bo K I.m e b<|g p q t u e b;refine OQ<|dM G<|K.pa m (by simp_all) (λx l=>Pb ⟨H,.inl ⟨x,K.er,l⟩⟩) λh=>?_;have d:Iv M r z la lb n _ _ j:=⟨m,h,I.b,by rw[c];lia⟩;exact dG (λw=>Pb ⟨H,.inr ⟨_,_,_,_,rfl,d⟩⟩) λw=>Pb ⟨H,_,_,_,_,rfl,d⟩
theorem Lf(F:kindOf a=C.kd)(H:fZ a st)(I:Iv M r z la lb n o i j)(g:∀p q t u,M.a.v i=p::t->M.b.v j=q::u->r q p):C.W (M.gB mg ac bc o i j) (Jp C M r z la lb n a) st:=by
 obtain⟨p,t,q,u,e,d,O,w,w,J,L,w,f⟩:=Mz K I;have N:=I.b;have P:=I.n;rw[d,OG]at N P;have m:=Bp K I.m e d<|g p q t u e d;refine OQ<|dM L<|K.pb m (by simp_all) (λx k=>Pb ⟨H,.inl ⟨x,K.er,k⟩⟩) λh=>?_;have T:∀c∈M.b.v _,C.num c≠C.num p:=λc U=>(m.m.ne K.nd (by simp[e]) U).symm;refine OQ<|dM J<|OQ<|K.b.gal m.j (H.1.trans F) O (λz=>by rw[z]at h;exact absurd (O8 K.l2 h)<|by decide) T λu W G X v Y=>?_;have y:=O1 P7 G;rw[N0]at y;refine dG (λw=>?_) λZ=>?_
 ·have B:MS M r z (o.push q++M.b.ex (M.b.na j) u) i (M.b.nx (M.b.na j) u):=by
   have D:=m.m;refine⟨?_,m.i,W⟩;rw[SG];rw[e,G]at D;rw[e];exact(MI.ta K.tr D.sw X).sw
  refine K.tb B (λx k=>Pb ⟨H,.inl ⟨x,K.er,k⟩⟩) λh2=>Le K H ⟨B,I.a,h2,by lia⟩ λp' Q t' u' b l=>?_;simp_all
 rw[Y Z,Uy]at G;refine Le K H ⟨m,I.a,h,by rw[f];lia⟩ λp' Q t' u' b l=>?_;rw[e]at b;cases b;exact v Q (by simp[<-G,l])
theorem Lg(H:kindOf a=C.kd)(d:fZ a st)(I:Iv M r z la lb n o i j):C.W (M.gA l Z bc o i j) (Jp C M r z la lb n a) st:=by
 obtain⟨p,t,q,u,v,e,op,O,w,gp,y,w⟩:=Mz K I;have hn:=I.n;have N:∀c∈M.a.v i,C.num c≠C.num q:=λc B=>I.m.m.ne K.nd B (by simp[e]);refine OQ<|Bn<|OQ<|dM y<|OQ<|K.a.gal I.m.i (d.1.trans H) O (by simp[v]) N λu D g F G J=>?_;have h:=d;have L:=O1 P7 g;rw[N0]at L;refine dG (λw=>?_) λQ=>?_
 ·have k:MS M r z (o++M.a.ex i u) (M.a.nx i u) j:=by
   have m:=I.m.m;refine⟨?_,D,I.m.j⟩;rw[SG];rw[e,g]at m;rw[e];exact MI.ta K.tr m F
  refine K.ta k (λx T=>Pb ⟨d,.inl ⟨x,K.er,T⟩⟩) λU=>Lf K H h ⟨k,U,I.b,by lia⟩ λP W X Y f b=>?_;simp_all
 rw[J Q]at g;refine Lf K H h I λP W X Y f b=>?_;simp_all
theorem Hf(k:kindOf st=C.kd)(I:Iv M r z la lb 1 o i j)(q:∀x a,fZ st a->tU C z x->Q x a):C.W (M.run o i j) Q st:=by
 have B:∀{n o i j},Iv M r z la lb n o i j->n<z.length:=λI=>by
  have:=I.a;have:=I.n;have:=K.l1;lia
 refine OQ<|Vr<|OQ<|RW (QT (I:=λx c a=>fZ st a/\∃o i j e,c=M.m NZ o i j e/\Iv M r z la lb (x+1) o i j) (Q:=λc a=>fZ st a/\∃x,M.r c=gV x/\tU C z x) ?_ ?_ ⟨⟨rfl,rfl,rfl,rfl⟩,_,_,_,_,rfl,I⟩) ?_
 ·rintro n c a y p ⟨g,o,i,j,e,rfl,I⟩;unfold Mg.out;rw[K.eo,K.ei,K.ej];refine OQ<|RW (QT (I:=λx c b=>b=a/\∃o i j e,c=M.m NZ o i j e/\Iv M r z la lb (n+1+x) o i j) (Q:=λc b=>b=a/\Go C M r z la lb (n+2) c) ?_ ?_ ⟨rfl,_,_,_,_,rfl,I⟩) ?_
  ·rintro x c b y d ⟨rfl,o,i,j,e,rfl,I⟩;refine RW (Ld K (g.1.trans k) I) ?_;rintro (c|c) Z ⟨rfl,h⟩
   ·refine⟨rfl,h.imp id (by rintro ⟨o,i,j,e,l,f⟩;exact ⟨o,i,j,e,l,f.m,f.a,f.b,by have:=f.n;lia⟩)⟩
   exact⟨rfl,h⟩
  ·rintro c b ⟨y,o,i,j,e,rfl,I⟩;have:=B I;have:=K.n;lia
  rintro c b ⟨rfl,⟨x,e,d⟩|⟨o,i,j,e,rfl,I⟩⟩
  ·rw[e];exact Pb ⟨g,x,K.er,d⟩
  rw[K.er];refine OQ<|WW<|RL ⟨rfl,?_⟩;rw[K.eo,K.ei,K.ej];refine OQ<|RW (QT (I:=λy c Z=>fZ st Z/\∃o i j e,c=M.m NZ o i j e/\Iv M r z la lb _ o i j) (Q:=λc Z=>fZ st Z/\Go C M r z la lb _ c) ?_ (by rintro y y ⟨l,f⟩;exact ⟨l,.inr f⟩) ⟨g,_,_,_,_,rfl,I⟩) ?_
  ·rintro x c Z y y ⟨H,o,i,j,e,rfl,I⟩;rw[K.eo,K.ei,K.ej];refine dG (λy=>RW (Lg K k H I) ?_) λy=>RW (Lg K k H I) ?_<;>(rintro (c|c) m h<;>exact h)
  rintro c Z ⟨H,⟨x,e,d⟩|⟨o,i,j,e,rfl,I⟩⟩
  ·rw[e];exact Pb ⟨H,x,K.er,d⟩
  rw[K.er];refine OQ<|Bn<|Pb ⟨H,_,_,_,_,rfl,?_⟩;rwa[K.eo,K.ei,K.ej]
 ·rintro c a ⟨y,o,i,j,e,rfl,I⟩;have:=B I;have:=K.n;lia
 rintro c a ⟨g,x,e,d⟩;rw[e];exact Pb<|q x a g d
end
section
variable {C:Cm prog w A E s}{z o x y:ab PH}{st:PM}{a b:R}
theorem MI.end1(h:MI r z o x y)(e:x=[]\/y=[]):(o++(x++y)).Pairwise r:=by
 obtain rfl|rfl:=e
 ·exact h.v
 simpa using h.u
theorem MI.end2{p:PH}(t:∀a b c,r a b->r b c->r a c)(h:MI r z o [p] y)(g:∀c∈y,r c p):(o++(y++[p])).Pairwise r:=by
 have H:=h.sw;rw[<-Py y]at H;simpa using(MI.ta t H g).v
abbrev Cm.lo(C:Cm prog w A E s)(x y:PH):Prop:=C.num x<C.num y
theorem vI(e:a.toList=P++(x++T))(h:i<x.length):C.K a (P.length+i)=C.num x[i]:=by
 unfold Cm.K;rw[<-PR,e,OP (Ub ..),VX,ON h,N1 h];rfl
theorem xx{l:N'}{Q:M' Nat->PM->Prop}(e:a.toList=P++(x++T))(B:u=P.length)(D:n=x.length)(F:C.Oks a)(G:x.Pairwise C.lo)(I:kindOf st=C.kd)(J:C.ok q)(L:H<n)(U:∀c∈x,C.num c≠C.num q)
  (h:∀k,k<=n->(∀c∈x.take k,C.lo c q)->(∀c∈x.drop k,C.lo q c)->Q (gV k) st):C.W (gW l q a u n H) Q st:=by
 subst B D;have M:=O1 P7 e;simp only[OR]at M;refine Bj I J F (by simp_all) L (λi j f d=>?_) (λi v=>?_) λk f d N=>h k f (λc p=>?_) λc p=>?_
 ·rw[vI e d,vI e<|Ru f d];obtain e|g:=U5 f
  ·subst e;exact Th _
  exact hI<|QZ.mp G i j _ d g
 ·rw[vI e v];exact U _<|Qv v
 ·obtain⟨m,r,t⟩:=RS p;rw[OB]at r;have:=d m (by simp_all);rw[vI e<|by exact Pf r (T_ _ _)]at this;rwa[<-t,Vv]
 obtain⟨m,r,t⟩:=RS p;rw[PQ]at r;have:=N (k+m) (by simp) (by lia);rw[vI e<|by lia]at this;rwa[<-t,List.getElem_drop]
theorem ie{prog:Om}{w:OI}{A:PL}{E:NX->Od->Prop}{s:Od}{c:Type}{i n:Nat}{x y:S c}{Q:c->PM->Prop}(h:i=n->wpS (OU prog w) A E s x Q st)(H:¬i=n->wpS (OU prog w) A E s y Q st):wpS (OU prog w) A E s (if(i == n)=NW then x else y) Q st:=
 dG (λe=>h<|by simpa using e) λe=>H (by simpa using e)
theorem qj(i k:Nat):(a.extract i<|i+k).toList=(a.toList.drop i).take k:=by
 simp
theorem Bq(f:C.Oks a)(g:a.toList.Pairwise C.lo):Fs C C.lo (Na a) where
 at_:=λ{i p t} y e=>by
  have d:a.toList.drop i=p::t:=e;have h:=O1 (·[0]?) d;simp at h;exact⟨h,by show a.toList.drop (i+1)=t;rw[<-List.tail_drop,d];rfl,(Array.getElem?_eq_some_iff.mp h).1⟩
 gal:=λ{l q i Q st} H j m v U h=>by
  have H:i<=a.size:=H;have D:i≠a.size:=λz=>v (Rm<|by simp_all);refine xx (P:=a.toList.take i) (T:=[]) (by simp) (by simp_all) (by simp) f (g.sublist (Vx ..)) j m (Nat.sub_pos_of_lt (Nat.lt_of_le_of_ne H D)) U λk F n r=>h k (by show i+k<=a.size;grind) ?_ (qj i k▸n) (λc u=>r c<|by rwa[U9]) λB=>?_
  ·show a.toList.drop i=(a.extract i<|i+k).toList++a.toList.drop (i+k)
   rw[qj,<-U9,Ql]
  obtain rfl:k=0:=We B;exact qj i 0
theorem Br(n:C.Oks a)(r:a.toList.Pairwise C.lo):Fs C (λx y=>C.lo y x) (My a) where
 at_:=λ{i p t} H e=>by
  have H:i<=a.size:=H;have h:=O1 mu (show(a.toList.take i).reverse=p::t from e);rw[Ul,YC]at h;cases i with
  |zero=>simp at h
  |succ i=>
   rw[Tx<|by simpa using by exact Pf (Ua _) H]at h;obtain⟨j,f⟩:=List.append_inj' h rfl;refine⟨?_,?_,YB H⟩
   ·show a[i]?=gV p
    rw[UF a i<|by exact Pf (Ua _) H];simpa using f
   show(a.toList.take i).reverse=t
   rw[j,Ul]
 gal:=λ{l q i Q st} H u v B U h=>by
  have H:i<=a.size:=H;have F:i≠0:=λz=>B (by subst z;rfl);refine xx (P:=[]) (T:=a.toList.drop i) (by simp) rfl (by simpa using by exact Eq.symm (Zo H)) n (r.sublist (Sj ..)) u v (by lia) (λc d=>U c<|Uc.mpr d) λk j f m=>?_;have g:=qj (a:=a) k<|i-k;rw[show k+(i-k)=i by exact Nat.add_sub_of_le j]at g;rw[List.drop_take]at m;rw[U6,show min k i=k by exact Zo j]at f;refine h k (O8 j H) ?_ (λc d=>m c<|by simpa[My]using d) (λc d=>f c<|Uc.mp d) λD=>?_
  ·show(a.toList.take i).reverse=(a.extract k i).reverse.toList++(a.toList.take k).reverse
   rw[W',<-List.reverse_append,g,<-List.take_add,show k+(i-k)=i by exact Nat.add_sub_of_le j]
  show(a.extract k i).reverse.toList=[]
  rw[W',g,show i-k=0 from We D];rfl
theorem Lh(p:R)(i j:Nat):(Hd a b p i j).toList=p.toList++(a.toList.drop i++b.toList.drop j):=by
 simp[Hd,Oi]
theorem Li(p:R)(i j:Nat):(KC a b p i j).toList=p.toList++(b.toList.drop j++a.toList.drop i):=by
 simp[KC,Oi]
theorem Lj(p:R):(He a b p i j).toList=(p.toList++((b.toList.take j).reverse++(a.toList.take i).reverse)).reverse:=by
 simp[He]
theorem Lk(p:R):(KD a b p i j).toList=(p.toList++((a.toList.take i).reverse++(b.toList.take j).reverse)).reverse:=by
 simp[KD]
section
variable (ka:C.Oks a)(kb:C.Oks b)(sa:a.toList.Pairwise C.lo)(sb:b.toList.Pairwise C.lo)(nd:((a.toList++b.toList).map C.num).Nodup)
include ka kb sa sb nd
theorem Jq(g:∀c∈b.toList,∀p∈a.toList.drop (a.size-1),C.lo c p):Jo C (ER a b) C.lo (a.toList++b.toList) 2 1:=by
 have l:∀i,((ER a b).a.v i).length=a.size-i:=λi=>by show(a.toList.drop i).length=_;simp
 have f:∀j,((ER a b).b.v j).length=b.size-j:=λj=>by show(b.toList.drop j).length=_;simp
 have D:∀{o i j},MS (ER a b) C.lo (a.toList++b.toList) o i j->(i=a.size\/j=b.size)->tU C (a.toList++b.toList) (Hd a b o i j):=λ{o i j} m e=>by
  unfold tU;rw[Lh];exact⟨m.m.p,m.m.end1<|e.imp (λe=>Qn.mp<|by simp_all) λe=>Qn.mp<|by simp_all⟩
 have L:∀{o i j},MS (ER a b) C.lo (a.toList++b.toList) o i j->i+1=a.size->tU C (a.toList++b.toList) (KC a b o i j):=λ{o i j} m e=>by
  have d:=Qw (l:=a.toList) (i:=i) (Pf (Ua _) (Tw e));rw[Rm (l:=a.toList) (i:=i+1)<|by simpa using by exact Tw (Eq.symm e)]at d;have M:MI C.lo (a.toList++b.toList) o.toList (a.toList.drop i) (b.toList.drop j):=m.m;unfold tU;rw[Li,d];rw[d]at M;exact⟨M.sw.p,M.end2 (λw w w=>Ro) λc k=>g c (RG k) _<|by rw[show a.size-1=i by lia,d];exact Ob.mpr rfl⟩
 refine⟨rfl,rfl,rfl,rfl,rfl,by simp[ER],λw w w=>Ro,nd,λc k=>(Os.mp k).elim (ka c)<|kb c,Bq ka sa,Bq kb sb,by simp,by simp,λ{u p q x y Q st} N r t=>?_,λm n H h=>?_,λm n H h=>?_,λm H h=>?_,λm H h=>?_⟩
 ·exact dG (λe=>t<|Oh e) λe=>r<|(X6<|Z9.mp λz=>e<|N3 z).resolve_right N
 ·rw[l]at n h;exact ie (λe=>H _<|L m e) λe=>h (by lia)
 ·rw[f]at h;have:_<=b.size:=m.j;exact ie (λe=>H _<|D m<|.inr e) λe=>h (by lia)
 ·rw[l]at h;have:_<=a.size:=m.i;exact ie (λe=>H _<|L m e) λe=>ie (λe=>H _<|D m<|.inl e) λe=>h (by lia)
 rw[f]at h;have:_<=b.size:=m.j;exact ie (λe=>H _<|D m<|.inr e) λe=>h (by lia)
theorem Jr(g:∀c∈a.toList,∀q∈b.toList.take 1,C.lo q c):Jo C (Bm a b) (λx y=>C.lo y x) (a.toList++b.toList) 1 2:=by
 have n:∀i,((Bm a b).a.v i).length=min i a.size:=λi=>by show(a.toList.take i).reverse.length=_;simp
 have r:∀j,((Bm a b).b.v j).length=min j b.size:=λj=>by show(b.toList.take j).reverse.length=_;simp
 have v:∀{l:ab PH},l.Perm (a.toList++b.toList)->l.Pairwise (λx y=>C.lo y x)->l.reverse.Perm _/\l.reverse.Pairwise _:=λd f=>⟨(Vu _).trans d,TZ.mpr f⟩;have D:∀{o i j},MS (Bm a b) _ _ o i j->(i=0\/j=0)->tU C _ _:=λ{o i j} m e=>by
  unfold tU;rw[Lj];exact v m.m.sw.p (m.m.sw.end1<|e.symm.imp (λe=>by subst e;rfl) λe=>by subst e;rfl)
 have L:∀{o i j},MS (Bm a b) _ _ o i j->j=1->tU C _ (KD a b o i j):=λ{o i j} m e=>by
  subst e;have B:1<=b.size:=m.j;have t:=Tx (by assumption);have M:MI _ _ _ _ (b.toList.take 1).reverse:=m.m;unfold tU;rw[Lk,t];rw[t]at M g;exact v M.p<|M.sw.end2 (λw w w d f=>Ro f d) λc k=>g c (Qr<|Uc.mp k) _<|Ob.mpr rfl
 refine⟨rfl,rfl,rfl,rfl,rfl,by simp[Bm],λw w w d f=>Ro f d,nd,λc k=>(Os.mp k).elim (ka c)<|kb c,Br ka sa,Br kb sb,by simp,by simp,λ{F p q x y Q st} N d f=>?_,λm u H h=>?_,λm u H h=>?_,λm H h=>?_,λm H h=>?_⟩
 ·exact dG (λe=>d<|Oh e) λe=>f<|(X6<|Z9.mp λz=>e<|N3 z).resolve_right N
 ·rw[n]at h;have:_<=a.size:=m.i;exact ie (λe=>H _<|D m<|.inl e) λe=>h (by lia)
 ·rw[r]at u h;have:_<=b.size:=m.j;exact ie (λe=>H _<|L m e) λe=>h (by lia)
 ·rw[n]at h;have:_<=a.size:=m.i;exact ie (λe=>H _<|D m<|.inl e) λe=>h (by lia)
 rw[r]at h;have:_<=b.size:=m.j;exact ie (λe=>H _<|L m e) λe=>ie (λe=>H _<|D m<|.inr e) λe=>h (by lia)
variable (hk:kindOf st=C.kd)(na:1<=a.size)(nb:1<=b.size)(g0:∀ c∈a.toList,∀ q∈b.toList.take 1,C.lo q c)(g1:∀ c∈b.toList,∀ p∈a.toList.drop (a.size-1),C.lo c p){Q:R->PM->Prop}(h:∀ x QQ,fZ st QQ->tU C (a.toList++b.toList) x->Q x QQ)
include hk na nb g0 g1 h
theorem Nd:C.W (Nb a b) Q st:=by
 have K:=Jq ka kb sa sb nd g1;obtain⟨p,t,e⟩:=qi (l:=(ER a b).a.v 0) (N9 1) (by assumption);obtain⟨q,u,d⟩:=qi (N9 1) (by assumption);have m:MS _ _ _ _ 0 1:=Bp K (o:=#[]) ⟨⟨.refl _,sa,sb⟩,Oy _,Oy _⟩ e d (g0 p (by rw[show a.toList=p::t from e];simp) q<|by rw[d];simp);rw[Jm];refine OQ<|WW<|RL ⟨rfl,OQ<|dM (K.b.at_ (Oy _) d).1 ?_⟩;have g:fZ st st:=⟨rfl,rfl,rfl,rfl⟩;refine K.pb m (Zq ..) (λx H=>Pb<|h x _ g H) λf=>K.pa m ?_ (λx H=>Pb<|h x _ g H) λi=>Hf K hk ⟨m,i,f,?_⟩ h
 ·rw[e];simp
 show(a.toList.drop 0).length+(b.toList.drop 1).length+1<=_
 simp;grind
theorem Nf:C.W (Nc a b) Q st:=by
 have K:=Jr ka kb sa sb nd g0;obtain⟨p,t,d⟩:=qi (l:=(Bm a b).a.v a.size) (N9 1) (by show 1<=(a.toList.take _).reverse.length;simpa using na);obtain⟨q,u,f⟩:=qi (l:=(Bm a b).b.v b.size) (N9 1) (by show 1<=(b.toList.take _).reverse.length;simpa using nb);obtain⟨F,k,n⟩:=K.a.at_ (N9 _) d;have v:∀{x:R},(x.toList.take x.size).reverse=x.toList.reverse:=λ{x}=>by rw[Oi<|by simp]
 have m:MS (Bm a b) (λx y=>C.lo y x) (a.toList++b.toList) #[p] (a.size-1) b.size:=by
  refine Bo K (o:=#[]) ⟨⟨?_,?_,?_⟩,N9 _,N9 _⟩ d f<|g1 q ?_ p ?_
  ·show((a.toList.take _).reverse++(b.toList.take _).reverse).Perm _
   rw[v,v];exact(Vu _).append<|Vu _
  ·show(a.toList.take _).reverse.Pairwise _
   rw[v];exact TZ.mpr sa
  ·show(b.toList.take _).reverse.Pairwise _
   rw[v];exact TZ.mpr sb
  ·exact Uc.mp<|v▸(show q∈(Bm a b).b.v _ by rw[f];simp)
  have:a.toList.drop (a.size-1)=[p]:=by
   have e:=O1 mu (show(a.toList.take _).reverse=p::t from d);rw[v,Ul,YC]at e;have l:=O1 P7 e;simp at l;rw[e,Zu<|by simp;lia]
  rw[this];exact Ob.mpr rfl
 rw[Jn];refine OQ<|WW<|RL ⟨rfl,OQ<|dM F ?_⟩;have g:fZ st st:=⟨rfl,rfl,rfl,rfl⟩;refine K.pa m (Zq ..) (λx H=>Pb<|h x _ g H) λi=>K.pb m ?_ (λx H=>Pb<|h x _ g H) λj=>Hf K hk ⟨m,i,j,?_⟩ h
 ·rw[f];simp
 show(a.toList.take<|a.size-1).reverse.length+(b.toList.take _).reverse.length+1<=_
 simp;lia
end
end
section
variable {C:Cm prog w A E s}{a₀:R}{lo n:Nat}{st QQ:PM}{xs:R}
structure Bs (C:Cm prog w A E s)(a₀:R):Prop where
 ok:C.Oks a₀
 nd:(a₀.toList.map C.num).Nodup
structure SL (C:Cm prog w A E s)(a₀:R)(lo:Nat)(st QQ:PM):Prop where
 perm:(Pc QQ).Perm a₀
 kind:kindOf QQ=C.kd
 failed:Q0 QQ=NZ
 pend:Pg QQ=Pg st
 low:∀k,k<lo->(Pc QQ)[k]?=(Pc st)[k]?
def Srt(C:Cm prog w A E s)(xs:R)(lo n:Nat):Prop:=∀i j,i<j->j<n->C.K xs (lo+i)<C.K xs (lo+j)
theorem Bs.of(b:Bs C a₀)(h:xs.Perm a₀):Bs C xs:=⟨λp H=>b.ok p<|(Rv.mp h).mem_iff.mp H,((Rv.mp h).map _).nodup_iff.mpr b.nd⟩
theorem Bs.ne(b:Bs C xs)(H:i<xs.size)(a:j<xs.size)(h:i≠j):C.K xs i≠C.K xs j:=by
 have:=(U7.mp b.nd);unfold Cm.K;rw[UF xs i H,UF xs j a];intro e;obtain g|g:=Nat.lt_or_gt_of_ne h
 ·exact QZ.mp this i j (by simpa using H) (by simpa using a) g (by simpa using e)
 exact QZ.mp this j i (by simpa using a) (by simpa using H) g (by simpa using e.symm)
theorem Hg(h:j<=xs.size)(k:Nat):C.K (hX xs i j<|(j-i)/2) k=if i<=k/\k<j then C.K xs (i+j-1-k)else C.K xs k:=by
 unfold Cm.K;rw[Xl h]
 split<;>rfl
theorem Hh(h:c<xs.size)(H:d<=c)(k:Nat):C.K (bubble xs c d) k=if k=c-d then C.K xs c else if c-d<k/\k<=c then C.K xs (k-1)else C.K xs k:=by
 unfold Cm.K;rw[Zm h d H]
 split
 ·rfl
 split<;>rfl
theorem Bt(b:Bs C (Pc st))(k:kindOf st=C.kd)(H:i<(Pc st).size)(a:j<(Pc st).size)(U:i≠j)(c:C.K (Pc st) i<C.K (Pc st) j->Q (gV NW) st)(d:C.K (Pc st) j<C.K (Pc st) i->Q (gV N8) st):C.W (ltAt' i j) Q st:=by
 obtain⟨p,f,l,m⟩:=Jk b.ok H;obtain⟨P,h,I,e⟩:=Jk b.ok a;have N:=b.ne H a U;rw[m,e]at c d N;refine OQ<|Vr<|OQ<|dM f<|OQ<|dM h<|C.lt k l I ?_;by_cases g:C.num p<C.num P
 ·rw[N3 g];exact c g
 rw[N7 g];lia
theorem Srt.next(b:1<=x)(h:Srt C xs lo x)(g:C.K xs (lo+x-1)<C.K xs (lo+x)):Srt C xs lo (x+1):=λi j H c=>by
 by_cases a:j<x
 ·exact h i j H a
 obtain rfl:j=x:=by lia
 by_cases e:i=j-1
 ·rwa[e,<-Si b]
 have:=h i (j-1) (by lia) (by omega);rw[<-Si b]at this;exact Ro this g
section
variable (b:Bs C a₀)(h:SL C a₀ lo st QQ)(hn:lo+n<=a₀.size)
include b h hn
theorem Hi{f:Nat->M' (M' Nat)×Nat->VE PM Sem (R_<|M' (M' Nat)×Nat)}{Q:M' (M' Nat)×Nat->PM->Prop}(o:1<=k)(a:k<=n)(e:Srt C (Pc QQ) lo k)
  (i:∀x n,f x (NZ,n)=(do
   let r <-ltAt' (lo+n) (lo+n-1)
   match r with
   |some y=>if y=NW then pure (Z_ (NZ,n))else pure (S3 (NZ,n+1))
   |_=>pure<|Z_ (gV NZ,n)))
  (q:∀m,k<=m->m<=n->Srt C (Pc QQ) lo m->(m=n\/C.K (Pc QQ) (lo+m)<C.K (Pc QQ) (lo+m-1))->Q (NZ,m) QQ):C.W (forIn [k:n] ((NZ,k):M' (M' Nat)×Nat) f) Q QQ:=by
 refine QT (I:=λx c j=>j=QQ/\c=(NZ,x)/\Srt C _ lo x) ?_ ?_ ⟨rfl,rfl,e⟩
 ·rintro x c j d l ⟨rfl,rfl,H⟩;have:=h.perm.size_eq;rw[i];exact OQ<|Bt (b.of h.perm) h.kind (by lia) (by lia) (by lia) (λg=>Pb<|q x d (OW l) H<|.inr g) λg=>Pb ⟨rfl,rfl,H.next (O8 o d) g⟩
 simp_all
theorem Ll(t:1<=n)(q:∀m a,SL C a₀ lo st a->1<=m->m<=n->Srt C (Pc a) lo m->Q (gV m) a):C.W (countRun' lo n) Q QQ:=by
 have z:=h.perm.size_eq;rw[countRun'_eq];refine OQ<|Hi b h hn (N9 1) t (λi j w w=>by lia) (λw w=>rfl) λm M d f r=>?_;dsimp only;refine dG (λe=>Pb<|q m _ h M d f) λe=>?_;have y:=r.resolve_left (by simp_all);have B:m<n:=Nat.lt_of_le_of_ne d (by simp_all);refine dG (λg=>OQ<|Bt (b.of h.perm) h.kind (by lia) (by lia) (by lia) (λw=>Pb<|q m _ h M d f) λG=>?_) λg=>?_
 ·have:=f 0 (m-1) (Nat.sub_pos_of_lt g) (by lia);rw[m8,<-Si M]at this;exact absurd G (Int.not_lt_of_ge (hI this))
 obtain rfl:m=1:=by lia
 refine OQ<|WW<|RL ⟨rfl,?_⟩;refine OQ<|RW (QT (I:=λx c a=>a=QQ/\c=(NZ,x,0)/\∀i j,i<j->j<x->C.K (Pc QQ) (lo+j)<C.K (Pc QQ) (lo+i)) (Q:=λc a=>a=QQ/\∃m,c=(NZ,m,0)/\2<=m/\m<=n/\∀i j,i<j->j<m->C.K (Pc QQ) (lo+j)<C.K (Pc QQ) (lo+i)) ?_ ?_ ⟨rfl,rfl,λi j I D=>?_⟩) ?_
 ·rintro x c a l F ⟨rfl,rfl,H⟩;dsimp only;refine OQ<|Bt (b.of h.perm) h.kind (by lia) (by lia) (by lia) (λg=>Pb ⟨rfl,rfl,λi j I D=>?_⟩) λg=>?_
  ·by_cases J:j<x
   ·exact H i j I J
   obtain rfl:j=x:=by lia
   by_cases e:i=j-1
   ·rw[e,<-Si<|by exact YB l];exact g
   have:=H i (j-1) (by lia) (by lia);rw[<-Si<|by exact YB l]at this;exact Ro g this
  exact OQ (Bt (b.of h.perm) h.kind (by lia) (by lia) (by lia) (λw=>Pb ⟨rfl,x,rfl,l,OW F,H⟩) λG=>absurd G<|Int.not_lt_of_ge (hI g))
 ·rintro c a ⟨rfl,rfl,H⟩;rw[show max (1+1) n=n by lia]at H ⊢;exact⟨rfl,n,rfl,Nat.le_of_lt_succ (Nat.succ_lt_succ B),N9 _,H⟩
 ·obtain rfl:i=0:=by lia
  obtain rfl:j=1:=by lia
  exact y
 rintro c a ⟨rfl,m,rfl,U,L,H⟩;dsimp only;have p:SL C _ lo st (hY a<|hX _ lo _<|(lo+m-lo)/2):=⟨(mirror_perm _ _ _ _).trans h.perm,h.kind,h.failed,h.pend,λk N=>by
  show(hX _ lo _<|(lo+m-lo)/2)[k]?=_
  rw[Xl (by lia),Oo<|by lia];exact h.low k N⟩
 refine OQ<|wpS_reverse<|OQ<|Hi b p hn (YB U) L (λu v O W=>?_) (λw w=>rfl) λP X T o w=>Pb<|q P _ p (YB (O8 U X)) T o;show C.K (hX _ lo _<|(lo+m-lo)/2) _<C.K (hX _ lo _<|(lo+m-lo)/2) _
 rw[Hg (by lia),Hg (by lia),On (by lia),On<|by simp_all];have:=H (m-1-v) (m-1-u) (Nat.sub_lt_sub_left (Pf O (Nat.le_sub_one_of_lt W)) O) (by grind)
 rwa[lkx (Wd O W),lkx W]
theorem Lm{Q:N'->PM->Prop}(z:ok<=n)(D:1<=n)(F:Srt C (Pc QQ) lo ok)
  (q:∀a,SL C a₀ lo st a->Srt C (Pc a) lo n->Q NW a):C.W (binarySort' lo n ok) Q QQ:=by
 rw[binarySort'_eq];refine OQ (RW (QT (I:=λk c a=>c=(NZ,())/\SL C a₀ lo st a/\Srt C (Pc a) lo (min k n))
  (Q:=λc a=>c=(NZ,())/\SL C a₀ lo st a/\Srt C (Pc a) lo n) ?_ ?_ ⟨rfl,h,λi j o I=>F i j o<|by lia⟩) ?_)
 ·rintro k c a J L ⟨rfl,H,d⟩;rw[show min k n=k by exact Zo (OW L)]at d;have M:=H.perm.size_eq;have N:=b.of H.perm;refine OQ (RW (QT (I:=λx c Z=>Z=a/\∃l r,c=(NZ,l,r)/\l<=r/\r<=k/\r-l<=k-x/\(∀i,i<l->C.K (Pc a) (lo+i)<C.K (Pc a) (lo+k))/\(∀i,r<=i->i<k->C.K (Pc a) (lo+k)<C.K (Pc a) (lo+i)))
   (Q:=λc Z=>Z=a/\∃l,c=(NZ,l,l)/\l<=k/\(∀i,i<l->C.K (Pc a) (lo+i)<C.K (Pc a) (lo+k))/\(∀i,l<=i->i<k->C.K (Pc a) (lo+k)<C.K (Pc a) (lo+i))) ?_ ?_ ⟨rfl,0,k,rfl,by simp,by simp,by simp,λi X=>absurd X (Nat.not_lt_of_le (Oy _)),λi D H=>absurd H (Nat.not_lt_of_le D)⟩) ?_)
  ·rintro x c Z w Y ⟨rfl,l,r,rfl,O,t,P,B,f⟩;dsimp only;refine dG (λg=>?_) λg=>have q:=mdx (Nat.not_le.1 g);OQ<|Bt N H.kind (by lia) (by lia) (by lia) (λG=>Pb ⟨rfl,l,(l+r)/2,rfl,q.1,OW (Pf q.2 t),(tx P q.1 q.2).2,B,λi p y=>?_⟩) λG=>Pb ⟨rfl,(l+r)/2+1,r,rfl,q.2,t,(tx P q.1 q.2).1,λi p=>?_,f⟩
   ·obtain rfl:l=r:=Nat.le_antisymm O g
    exact Pb ⟨rfl,l,rfl,t,B,f⟩
   ·obtain e|e:=U5 p
    ·exact e▸G
    exact Ro G<|d _ _ e y
   obtain e|e:=U5 (Nat.le_of_lt_succ p)
   ·exact e▸G
   exact Ro (d _ _ e<|by lia) G
  ·rintro c Z ⟨rfl,l,r,rfl,O,t,P,B,f⟩;obtain rfl:l=r:=by lia
   exact⟨rfl,l,rfl,t,B,f⟩
  rintro c Z ⟨rfl,l,rfl,t,B,f⟩;dsimp only;rw[moveDown'_eq];refine OQ<|V_<|Pb ⟨rfl,⟨(bubble_perm _ _ _).trans H.perm,H.kind,H.failed,H.pend,λm T=>?_⟩,λi j o I=>?_⟩
  ·show(bubble (Pc Z) (lo+k)<|lo+k-(lo+l))[m]?=_
   rw[Zm (by lia) _ (by simp),Oo (by omega),Oo<|by omega];exact H.low m T
  show C.K (bubble (Pc Z) (lo+k)<|lo+k-(lo+l)) (lo+i)<C.K (bubble (Pc Z) (lo+k)<|lo+k-(lo+l)) (lo+j)
  rw[Hh (by lia) (by simp),Hh (by lia) (by simp),Nat.sub_sub_self (Xn t lo)];have sub:∀u v,lo<=u->u<v->v<lo+k->C.K (Pc Z) u<C.K (Pc Z) v:=λu v p y c3=>by
   have:=d (u-lo) (v-lo) (Nat.sub_lt_sub_right p y) (Nat.sub_lt_left_of_lt_add (O8 p (OW y)) c3)
   rwa [Nat.add_sub_of_le p,Nat.add_sub_of_le (O8 p (OW y))]at this
  have U:∀u,lo+l<=u->u<lo+k->C.K (Pc Z) (lo+k)<C.K (Pc Z) u:=λu p y=>by
   have z:=O8 (Ub lo l) p;have:=f (u-lo) (Nat.le_sub_of_add_le' p) (Nat.sub_lt_left_of_lt_add z y)
   rwa [Nat.add_sub_of_le z]at this
  repeat' split
  all_goals first
   |lia
   |exact B _ (by lia)
   |exact U _ (by lia) (by omega)
   |exact sub _ _ (by omega) (by omega) (by omega)
 ·rintro c a ⟨W,H,d⟩;exact⟨W,H,by rwa [show min (max _ n) n=n by exact Y1 (Nat.le_max_right _ _)]at d⟩
 rintro c a ⟨rfl,H,d⟩;exact Pb<|q a H d
end
end
theorem vJ(i:Nat):Yx i=(do
 let t <-get
 let (gV (s,n,A),gV (b,N,_)):=((Pg t)[i]?,(Pg t)[i+1]?)|unsupported "internal:list.sort.pending"
 set (Wa t<|((Pg t).setIfInBounds i (s,n+N,A)).eraseIdxIfInBounds<|i+1)
 let gV k <-gW N8 (<-VW (Pc t) b) (Pc t) s n 0|return N8
 let (s,n):=(s+k,n-k)
 if n == 0 then return NW
 let gV N <-gW NW (<-VW (Pc t)<|s+n-1) (Pc t) b N (N-1)|return N8
 if N == 0 then return NW
 let x:=(Pc t).extract s b
 let y:=(Pc t).extract b (b+N)
 let m <-if n<=N then Nb x y else Nc x y
 ic λt=>hY t (m.toList.zipIdx.foldl (λa (p,j)=>a.setIfInBounds (s+j) p)<|Pc t)
 return (Q0 (<-get)).isNone):=rfl
theorem Hj(b:Nat):∀(m x P T:ab PH) (k:Nat) (a:R),b+k=P.length->m.length=x.length->a.toList=P++(x++T)->((m.zipIdx k).foldl (λa (q:PH×Nat)=>a.setIfInBounds (b+q.2) q.1) a).toList=P++(m++T)
 |[],x,P,T,k,a,_,h,e=>by
  obtain rfl:x=[]:=Qn.mp h.symm;exact e
 |p::m,[],P,T,k,a,_,h,e=>by cases h
 |p::m,y::x,P,T,k,a,H,h,e=>by
  have:=Hj b m x (P++[p]) T (k+1) (a.setIfInBounds (b+k) p) (by simpa using by lia) (by simpa using h) (by simp_all);simpa using this
section
variable {C:Cm prog w A E s}{st:PM}
theorem Ng{x X y Y z:ab PH}(h:(x++X).Pairwise C.lo)(H:(y++Y).Pairwise C.lo)(a:∀c∈x,∀d∈y++Y,C.lo c d)(b:∀d∈Y,∀c∈x++X,C.lo c d)(r:z.Perm (X++y))(s:z.Pairwise C.lo):(x++(z++Y)).Pairwise C.lo:=by
 obtain⟨p,q,t⟩:=List.pairwise_append.1 h;obtain⟨u,v,w⟩:=List.pairwise_append.1 H;refine List.pairwise_append.2 ⟨p,List.pairwise_append.2 ⟨s,v,λc m d n=>?_⟩,λc m d n=>?_⟩
 ·obtain k|k:=Os.1 (r.mem_iff.1 m)
  ·exact b d n c (O9 _ k)
  exact w c k d n
 obtain n|n:=Os.1 n
 ·obtain k|k:=Os.1 (r.mem_iff.1 n)
  ·exact t c m d k
  exact a c m d (Qc _ k)
 exact a c m d (O9 _ n)
theorem Lo{prog:Om}{w:OI}{A:PL}{E:NX->Od->Prop}{s:Od}{Q:WI->PM->Prop}{x:PM}(h:Q () x):wpS (OU prog w) A E s (set x:VE PM Sem WI) Q st:=Oq ⟨rfl,h⟩
theorem Ft{T:ab PH}{Q:N'->PM->Prop}(b:Bs C (Pc st))(u:kindOf st=C.kd)(U:Q0 st=NZ)(e:(Pg st).toList=l1++(P.length,x.length,J)::(P.length+x.length,y.length,pb)::l2)(hi:l1.length=i)
  (g:(Pc st).toList=P++(x++(y++T))) (n1:x≠[]) (n2:y≠[]) (v:x.Pairwise C.lo) (I:y.Pairwise C.lo)
  (q:∀z L,kindOf L=C.kd->Q0 L=NZ->(Pg L).toList=l1++(P.length,x.length+y.length,J)::l2->(Pc L).toList=P++(z++T)->z.Perm (x++y)->z.Pairwise C.lo->Q NW L):C.W (Yx i) Q st:=by
 obtain⟨e1,e2,e3⟩:(Pg st)[i]?=gV (P.length,x.length,J)/\(Pg st)[i+1]?=gV (P.length+x.length,y.length,pb)/\(((Pg st).setIfInBounds i (P.length,x.length+y.length,J)).eraseIdxIfInBounds (i+1)).toList=l1++(P.length,x.length+y.length,J)::l2:=by
  rw[<-PR,<-PR,Array.toList_eraseIdxIfInBounds,U',e];subst hi;simp[List.eraseIdx_append];lia
 have hl:=O1 P7 g;simp only[N0,OR]at hl;have W:=b.nd;rw[g,OF,OF]at W;have ne:∀c∈x,∀d∈y,C.num c≠C.num d:=λc h d H=>(Qa.mp (Qa.mp W).2.1).2.2 _ (Qy h) _<|Qy<|Qc _ H;have ac:((x++y).map C.num).Nodup:=(OF▸(Qa.mp W).2.1).sublist (by simp);clear W;obtain⟨f,Y,rfl⟩:=List.exists_cons_of_ne_nil n2;obtain⟨B,l,rfl⟩:∃B l,x=B++[l]:=⟨_,_,(Uz n1).symm⟩;have am:(Pc st)[P.length+(B++[l]).length]?=gV f:=by
  rw[<-PR,g,<-O6,OP<|by simp];simp
 have an:(Pc st)[P.length+B.length]?=gV l:=by
  rw[<-PR,g];simp
 have oq:C.ok f:=b.ok f (by simp_all);have op:C.ok l:=b.ok l (by simp_all);rw[vJ];refine OQ<|Vr ?_;rw[e1,e2];dsimp only;refine OQ<|Lo<|OQ<|dM am<|OQ<|xx g rfl rfl b.ok v u oq (by simp) (λc h=>ne c h f<|by simp) λk k1 k2 k3=>?_;dsimp only;generalize Z:B++[l]=X at*;have a1:∀c∈X.take k,∀d∈f::Y,C.lo c d:=λc h d H=>by
  obtain rfl|H:=Oz.mp H
  ·exact k2 c h
  exact Ro (k2 c h)<|Vd I H
 refine ie (λe=>Pb<|q (X++f::Y) _ u U e3 (by rw[O6];exact g) (.refl _)<|QO.mpr ⟨v,I,λc h=>a1 c ?_⟩) λen=>?_
 ·rwa [Oi<|by grind]
 have as:=O1 P7 Z;simp only[N0,OM]at as;rw[show P.length+k+(X.length-k)-1=P.length+B.length by lia];refine OQ<|dM an<|OQ<|xx (P:=P++X) (x:=f::Y) (T:=T) (by simpa using g) (by simp) rfl b.ok I u op (by simp) (λd H=>(ne l (by simp[<-Z]) d H).symm) λn m1 m2 m3=>?_;dsimp only;have a2:∀d∈(f::Y).drop n,∀c∈X,C.lo c d:=λd H c h=>by
  rw[<-Z]at h v;obtain h|h:=Os.mp h
  ·exact Ro ((QO.mp v).2.2 c h l<|Ob.mpr rfl)<|m3 d H
  exact Ob.mp h▸m3 d H
 refine ie (λe=>Pb<|q (X++f::Y) _ u U e3 (by rw[O6];exact g) (.refl _)<|QO.mpr ⟨v,I,λc h d H=>a2 d ?_ c h⟩) λaC=>?_
 ·simp_all
 have D:((Pc st).extract (P.length+k)<|P.length+X.length).toList=X.drop k:=by
  have:=qj (a:=Pc st) (P.length+k)<|X.length-k;rw[show P.length+k+(X.length-k)=P.length+X.length by lia]at this;rw[this,g,<-U9,W9,List.drop_append_of_le_length k1,List.take_left'<|by simp]
 have F:((Pc st).extract (P.length+X.length)<|P.length+X.length+n).toList=(f::Y).take n:=by
  rw[qj,g,<-O6,Zu (by simp),Ra m1]
 have o:=Ql n<|f::Y;have r:=Ql k X;have kX:C.Oks ((Pc st).extract (P.length+k)<|P.length+X.length):=λc h=>b.ok c (by rw[D]at h;rw[g];simp[RG h]);have kY:C.Oks ((Pc st).extract (P.length+X.length)<|P.length+X.length+n):=λc h=>b.ok c (by rw[F]at h;rw[g];simp only[Os];exact .inr<|.inr<|.inl<|Qr h);have av:((X.drop k++(f::Y).take n).map C.num).Nodup:=ac.sublist<|((Vx ..).append (Sj ..)).map _;have sz:((Pc st).extract (P.length+k)<|P.length+X.length).size=X.length-k:=by rw[<-OR,D,PQ]
 have az:((Pc st).extract (P.length+X.length)<|P.length+X.length+n).size=n:=by rw[<-OR,F,OB];exact Zo m1
 have M:∀m G,fZ (Wa st<|((Pg st).setIfInBounds i (P.length,X.length+(f::Y).length,J)).eraseIdxIfInBounds<|i+1) G->tU C (((Pc st).extract (P.length+k)<|P.length+X.length).toList++((Pc st).extract (P.length+X.length)<|P.length+X.length+n).toList) m->C.W (do
   ic λt=>hY t (m.toList.zipIdx.foldl (λa (p,j)=>a.setIfInBounds (P.length+k+j) p)<|Pc t)
   return (Q0 (<-get)).isNone) Q G:=λm G N O=>by
  rw[D,F]at O;refine OQ<|V_<|OQ<|Vr ?_;rw[show(Q0<|hY G _).isNone=NW by rw[show Q0 (hY G _)=NZ from N.2.2.2.trans U];rfl];refine Pb<|q (X.take k++(m.toList++(f::Y).drop n)) _ (N.1.trans u) (N.2.2.2.trans U) (N.2.2.1▸e3) ?_ ?_<|Ng (r.symm▸v) (o.symm▸I) (o.symm▸a1) (r.symm▸a2) O.1 O.2
  ·have:=Hj (P.length+k) m.toList (X.drop k++(f::Y).take n) (P++X.take k) ((f::Y).drop n++T) 0 (Pc G) (by simp_all) O.1.length_eq (by
    rw[show Pc G=Pc st from N.2.1,g];simp only[O6];rw[<-O6<|List.take n _,o,<-O6<|X.take k,r])
   simpa using this
  refine(O.1.append_right _|>.append_left _).trans ?_;rw[O6,o,<-O6,r]
 refine dG (λw=>OQ<|Nd kX kY ?_ ?_ ?_ (by exact u) ?_ ?_ ?_ ?_ M) λw=>OQ<|Nf kX kY ?_ ?_ ?_ (by exact u) ?_ ?_ ?_ ?_ M
 all_goals first
  |(rw[D,F];exact av)
  |(rw[D];exact v.sublist (Vx ..))
  |(rw[F];exact I.sublist (Sj ..))
  |(rw[sz];lia)
  |(rw[az];lia)
  |(rw[D,F,U6]
    intro c h d H;rw[show min 1 n=1 by lia]at H;exact Ob.mp H▸k3 c h)
  |(rw[F,D,sz,U9,show k+(X.length-k-1)=B.length by lia,<-Z]
    intro c h d H;rw[W9]at H;exact Ob.mp H▸m2 c h)
end
noncomputable def Nh(lo n:Nat):S (R_<|M' WI×Nat):=do
 ic λs=>Wa s ((Pg s).push (lo,n,0))
 return .yield (NZ,lo+n)
noncomputable def MA(e lo n:Nat):S (R_<|M' WI×Nat):=do
 match (Pg (<-get)).back? with
 |some (b,N,_)=>
  let P:=power' e (2*b+N) (2*b+N+N+n) e
  let c <-forIn [0:e] ((NZ,()):M' WI×WI) λ_ _=>do
   let p:=Pg (<-get)
   match (if p.size>1 then p[p.size-2]? else NZ)with
   |some (_,_,a)=>
    if a<=P then return .done (NZ,())
    else if(!(<-Yx<|p.size-2))=NW then return .done (gV (),())
    else return .yield (NZ,())
   |_=>return .done (NZ,())
  match c.1 with
  |some r=>return .done (gV r,lo)
  |none=>
   ic λs=>Wa s ((Pg s).modify ((Pg s).size-1) λ(st,l,_)=>(st,l,P))
   Nh lo n
 |_=>Nh lo n
theorem Fu:sortRuns'=(do
 let s:=(Pc (<-get)).size
 let c <-forIn [0:s] ((NZ,0):M' WI×Nat) λz c=>do
  if c.2>=s then return .done (NZ,c.2)
  else
   let gV n <-countRun' c.2 (s-c.2)|return .done (gV (),c.2)
   if n<ZC s s 0 then
    rule "list.sort.binary-insertion"
    if(!(<-binarySort' c.2 (min (s-c.2)<|ZC s s 0) n))=NW then return .done (gV (),c.2)
    else MA s c.2 (min (s-c.2)<|ZC s s 0)
   else MA s c.2 n
 match c.1 with
 |some r=>return r
 |none=>
  for _ in [0:s] do
   let p:=Pg (<-get)
   if p.size<=1 then break
   let i:=p.size-2
   let b:=if i>0 then p[i-1]?.map (·.2.1)else NZ
   let i:=if b.any (· < (p[i+1]?.elim 0 (·.2.1)))then i-1 else i
   if !(<-Yx i)then return):=by kernel_rfl
section
variable {C:Cm prog w A E s}{a₀:R}{hi:Nat}{st:PM}
inductive Rn (C:Cm prog w A E s):Nat->ab (Nat×Nat×Nat)->ab PH->Prop
 |nil (lo:Nat):Rn C lo [] []
 |cons {lo p:Nat} {r:ab (Nat×Nat×Nat)} {x t:ab PH} (h:x≠[]) (H:x.Pairwise C.lo) (a:Rn C (lo+x.length) r t):Rn C lo ((lo,x.length,p)::r) (x++t)
theorem Rn.app{lo:Nat}{l L:ab (Nat×Nat×Nat)}{t T:ab PH}(h:Rn C lo l t)(h':Rn C (lo+t.length) L T):Rn C lo (l++L) (t++T):=by
 induction h with
 |nil=>exact h'
 |cons a b _ i=>
  rw[O6];exact .cons a b (i<|by rwa [N0,<-VI]at h')
theorem Rn.split:∀{l:ab (Nat×Nat×Nat)} {lo:Nat} {t:ab PH},Rn C lo (l++L) t->∃T c,t=T++c/\Rn C lo l T/\Rn C (lo+T.length) L c
 |[],lo,t,h=>⟨[],t,rfl,.nil _,h⟩
 |_::l,_,_,.cons (x:=x) a b h=>by
  obtain⟨T,c,rfl,H,d⟩:=Rn.split h;exact⟨x++T,c,by simp,.cons a b H,by rwa [N0,<-VI]⟩
theorem Rn.pow:∀{lo:Nat} {l L:ab (Nat×Nat×Nat)} {t:ab PH},Rn C lo l t->L.map (λq=>(q.1,q.2.1))=l.map (λq=>(q.1,q.2.1))->Rn C lo L t:=by
 intro lo l L t h e;induction h generalizing L with
 |nil lo=>
  cases L with
  |nil=>exact .nil lo
  |cons=>cases e
 |cons a b t i=>
  cases L with
  |nil=>cases e
  |cons x L=>obtain⟨u,v,p⟩:=x;obtain⟨c,d⟩:=tA e;cases c;exact .cons a b<|i d
theorem Rn.len{lo:Nat}{l:ab (Nat×Nat×Nat)}{t:ab PH}(h:Rn C lo l t):l.length<=t.length:=by
 induction h with
 |nil=>exact N9 _
 |cons a _ _ i=>
  have:=Xp.mpr a;rw[OG,N0];lia
structure SR (C:Cm prog w A E s)(a₀:R)(hi:Nat)(u:ab PH)(st:PM):Prop where
 perm:(Pc st).Perm a₀
 kind:kindOf st=C.kd
 failed:Q0 st=NZ
 runs:∃t,(Pc st).toList=t++u/\t.length=hi/\Rn C 0 (Pg st).toList t
variable {u:ab PH}
theorem Bu(b:Bs C a₀)(h:SR C a₀ hi u st)(I:i+1<(Pg st).size)(q:∀a,SR C a₀ hi u a->(Pg a).size+1=(Pg st).size->Q NW a):C.W (Yx i) Q st:=by
 obtain⟨t,d,g,H⟩:=h.runs;have c:(Pg st).toList=(Pg st).toList.take i++((Pg st)[i]::(Pg st)[i+1]::(Pg st).toList.drop (i+2)):=by
  rw[<-Xa,<-Xa,<-Qw,<-Qw,Ql]
 rw[c]at H;obtain⟨P,J,rfl,j,r⟩:=H.split;rw[Sz]at r;generalize (Pg st)[i]=L,(Pg st)[i+1]=M,(Pg st).toList.drop _=O at c r;cases r with
 |cons n m o=>
  cases o with
  |@cons _ _ _ y T N v U=>
   rw[O6,O6,O6]at d;refine Ft (b.of h.perm) h.kind h.failed c (by simp;lia) d n N m v λz a x B k f p D=>?_;have l:=p.length_eq;rw[N0]at l;refine q a ⟨?_,x,B,P++(z++T),by rw[f];simp,?_,?_⟩ ?_
   ·refine .trans (Rv.mpr ?_) h.perm;have:=(p.append_right<|T++u).append_left P;rw[O6]at this
    rwa [f,d]
   ·rw[<-g];simp[l,VI]
   ·rw[k,<-l];exact j.app (by rw[Sz];exact .cons (λe=>n<|by rw[e]at l;exact Qn.mp<|by simp at l;lia) D<|by rwa [l,<-VI])
   have F:=O1 P7 k;have G:=O1 P7 c;simp only[N0,OG,OR]at F G;lia
theorem SR.push(h:SR C a₀ hi u st)(d:1<=n)(f:n<=u.length)(a:(u.take n).Pairwise C.lo):SR C a₀ (hi+n) (u.drop n) (Wa st<|(Pg st).push (hi,n,0)):=by
 obtain⟨t,b,c,r⟩:=h.runs;subst c;have H:(u.take n).length=n:=by simp_all
 refine⟨h.perm,h.kind,h.failed,t++u.take n,by rwa[O6,Ql],by rw[N0,H],?_⟩;show Rn C 0 _ _
 rw[Vz];refine r.app ?_;have:=Rn.cons (lo:=t.length) (p:=0) (by grind) a<|.nil _;rw[Sz]
 rwa [H,Py]at this
theorem Hk{n lo:Nat}{Q:R_ (M' WI×Nat)->PM->Prop}(h:SR C a₀ lo u st)(H:1<=n)(b:n<=u.length)(c:(u.take n).Pairwise C.lo)(q:∀a,SR C a₀ (lo+n) (u.drop n) a->Q (.yield (NZ,lo+n)) a):C.W (Nh lo n) Q st:=
 OQ (V_<|Pb<|q _<|h.push H b c)
theorem Fv{b c:Type}(g:b->c)(f:b->b)(h:∀x,g (f x)=g x)(l:ab b)(i:Nat):(l.modify i f).map g=l.map g:=by
 refine RI λj=>?_;rw[Ox,Ox,List.getElem?_modify];cases l[j]? with
 |none=>rfl
 |some a=>
  show gV _=gV _
  split
  ·rw[h]
  rfl
theorem Hl{d n lo:Nat}{Q:R_ (M' WI×Nat)->PM->Prop}(b:Bs C a₀)(h:SR C a₀ lo u st)(H:1<=n)(f:n<=u.length)(g:(u.take n).Pairwise C.lo)(q:∀i,SR C a₀ (lo+n) (u.drop n) i->Q (.yield (NZ,lo+n)) i):C.W (MA d lo n) Q st:=by
 refine OQ<|Vr ?_
 split
 ·refine OQ<|RW (QT (I:=λx c a=>c=(NZ,())/\SR C _ lo u a) ?_ (λx x z=>z) ⟨rfl,h⟩) ?_
  ·rintro y c a x x ⟨rfl,r⟩;refine OQ<|Vr ?_;dsimp only
   split
   ·have j:(Pg a).size>1:=by
     simp_all
    exact dG (λx=>Pb ⟨rfl,r⟩) λx=>OQ<|Bu b r (by omega) λk l x=>Pb ⟨rfl,l⟩
   exact Pb ⟨rfl,r⟩
  rintro c a ⟨rfl,r⟩;obtain⟨t,m,o,p⟩:=r.runs;refine OQ<|V_<|Hk ⟨r.perm,r.kind,r.failed,t,m,o,p.pow ?_⟩ H f g q;rw[Array.toList_modify];exact Fv _ _ (by simp) _ _
 exact Hk h H f g q
theorem nU:∀f n r,1<=n->1<=ZC f n r
 |0,n,r,h=>O8 h<|Ub _ _
 |f+1,n,r,h=>by
  rw[minRun'_succ]
  split
  ·exact Nat.le_add_right_of_le h
  exact nU f _ _ (by lia)
theorem SL.sr{lo n:Nat}{Q:PM}(h:SL C a₀ lo st Q)(r:SR C a₀ lo u st)(l:lo+n<=a₀.size)(c:Srt C (Pc Q) lo n):∃U,SR C a₀ lo U Q/\n<=U.length/\(U.take n).Pairwise C.lo:=by
 obtain⟨t,d,H,f⟩:=r.runs;have z:=h.perm.size_eq;have e:(Pc Q).toList=t++(Pc Q).toList.drop lo:=by
  rw[<-Ql lo (Pc Q).toList]
  congr 1
  ·refine RI λk=>?_;by_cases b:k<lo
   ·have:=h.low k b;rw[Pj b,PR,this,<-PR,d,ON<|by simp_all]
   rw[O_ (by simp;exact O8 (Nat.min_le_left _ _) (Y2 b)),O_<|by simp_all]
  simp
 refine⟨(Pc Q).toList.drop lo,⟨h.perm,h.kind,h.failed,t,e,H,h.pend▸f⟩,by simp;lia,?_⟩;rw[QZ];intro i j hi g a;simp only[OB,PQ,OR]at hi g;have:=c i j a (Pf g (Nat.min_le_left _ _));rw[<-Py<|List.drop lo _]at e;rw[<-H,vI e (by simp;exact Pf hi (T_ _ _)),vI e<|by simp;exact Pf g (T_ _ _)]at this;rwa[Vv,Vv]
theorem Js(b:Bs C a₀)(h:SR C a₀ 0 u st)(k:1<=a₀.size)(q:∀a,(Pc a).Perm a₀->Q0 a=NZ->(Pc a).toList.Pairwise C.lo->Q () a):C.W sortRuns' Q st:=by
 rw[Fu];refine OQ<|Vr ?_;dsimp only;rw[h.perm.size_eq];have o:=nU a₀.size a₀.size 0 k;generalize ZC a₀.size a₀.size 0=M at o;refine OQ (RW (QT (I:=λx c a=>∃lo u,c=(NZ,lo)/\SR C a₀ lo u a/\(x<=lo\/lo=a₀.size))
  (Q:=λc a=>c=(NZ,a₀.size)/\∃u,SR C a₀ a₀.size u a) ?_ ?_ ⟨0,u,rfl,h,.inl<|N9 _⟩) ?_)
 ·rintro x c a w D ⟨lo,u,rfl,r,F⟩;obtain⟨t,e,f,w⟩:=r.runs;have cD:=O1 P7 e;rw[N0,OR,r.perm.size_eq]at cD;dsimp only;refine dG (λg=>?_) λg=>?_
  ·obtain rfl:lo=a₀.size:=by lia
   exact Pb ⟨rfl,u,r⟩
  refine OQ<|Ll b (st:=a) ⟨r.perm,r.kind,r.failed,rfl,λw w=>rfl⟩ (by simp_all) (by grind) λm j k p G Z=>?_;dsimp only;refine dG (λI=>OQ<|WW<|RL ⟨rfl,OQ<|Lm b k (n:=min (a₀.size-lo) M) (by grind) (by grind) (by grind) Z λJ L N=>?_⟩) λI=>?_
  ·obtain⟨U,i,v,y⟩:=L.sr r (by grind) N;exact Hl b i (by grind) v y λz B=>⟨_,_,rfl,B,by grind⟩
  obtain⟨U,i,v,y⟩:=k.sr r (by simp_all) Z;exact Hl b i p v y λz B=>⟨_,_,rfl,B,by lia⟩
 ·rintro c a ⟨lo,u,rfl,r,D⟩;obtain⟨t,e,f,w⟩:=r.runs;have cD:=O1 P7 e;rw[N0,OR,r.perm.size_eq]at cD;obtain rfl:lo=a₀.size:=by lia
  exact⟨rfl,u,r⟩
 rintro c a ⟨rfl,u,r⟩;have T:∀{st},SR C a₀ a₀.size u st->(Pg st).size<=a₀.size:=λr=>by
  obtain⟨t,w,f,n⟩:=r.runs;have:=n.len
  simp_all
 refine OQ<|RW (QT (I:=λx c j=>c=(NZ,())/\SR C _ _ u j/\((Pg j).size+x<=a₀.size\/(Pg j).size<=1)) (Q:=λc j=>c=(NZ,())/\SR C a₀ a₀.size u j/\(Pg j).size<=1) ?_ ?_ ⟨rfl,r,by simp_all⟩) ?_
 ·rintro x c j w D ⟨rfl,d,H⟩;refine OQ (Vr<|dG (λg=>Pb ⟨rfl,d,g⟩) λg=>OQ<|Bu b d ?_ λJ i P=>Pb ⟨rfl,i,by lia⟩)
  repeat' split
  all_goals omega
 ·rintro c j ⟨rfl,d,H⟩;exact⟨rfl,d,by lia⟩
 rintro c j ⟨rfl,d,H⟩;obtain⟨t,e,f,n⟩:=d.runs;refine Pb<|q j d.perm d.failed ?_;have O:=O1 P7 e;rw[N0,OR,d.perm.size_eq,f]at O;rw[e,Qn.mp (show u.length=0 by lia),Py];rw[<-OR]at H;generalize (Pg j).toList=l at n H;cases n with
 |nil=>exact .nil
 |cons _ s r=>
  cases r with
  |nil=>simpa using s
  |cons=>simp only[OG]at H;lia
end
noncomputable def sH(h:Pd)(b:J')(u:ab NX):Pd:=((h.update b<|Qx λ_=>#[]).push<|P' "tuple" u.toArray 0).push<|P' "list" #[] 0
theorem tV{d e:Type}{F:d->e->Prop}{B b:ab e}(p:b.Perm B):∀{A:ab d},Paired F A B->∃a,Paired F a b/\a.Perm A:=by
 induction p with
 |nil=>exact λh=>⟨_,h,.refl _⟩
 |cons x _ f=>
  rintro z (z|⟨r,t⟩);obtain⟨a,H,c⟩:=f t;exact⟨_,.cons r H,c.cons _⟩
 |swap x y l=>
  rintro z (z|⟨r,z|⟨g,t⟩⟩);exact⟨_,.cons g<|.cons r t,.swap ..⟩
 |trans _ _ i I=>
  intro A h;obtain⟨m,H,P⟩:=I h;obtain⟨j,c,k⟩:=i H;exact⟨j,c,k.trans P⟩
theorem vK{d c:Type}{F:d->c->Prop}{A:ab d}{B:ab c}(h:Paired F A B):∀{i:Nat} {b:c},B[i]?=gV b->∃a,A[i]?=gV a/\F a b:=by
 induction h with
 |nil=>intro i b e;simp at e
 |cons r _ I=>
  intro i b e;cases i with
  |zero=>exact⟨_,rfl,OA e▸r⟩
  |succ i=>exact I e
section
variable {κ:Type}{is:κ->NX->Prop}{key:κ->Int}
open Classical in
noncomputable def Jt (is:κ->NX->Prop)(key:κ->Int)(v:NX):Int:=if h:∃k,is k v then key h.choose else 0
theorem vL(i:∀k a v,is k v->is a v->k=a)(h:is k v):Jt is key v=key k:=by
 unfold Jt;rw[dif_pos ⟨k,h⟩,i _ k v (Exists.choose_spec (p:=λk=>is k v) _) h]
theorem xy(i:∀k a v,is k v->is a v->k=a)(h:Paired is s u):u.map (Jt is key)=s.map key:=by
 induction h with
 |nil=>rfl
 |cons r _ I=>rw[OT,OT,I,vL i r]
theorem sort_gen{P:Om}{w:OI}{A:PL}{E:NX->Od->Prop}{s:Od}{R:vb->Od->Prop}{F:Z4}(B:s.heap.get? b=gV (P' "list" u.toArray ep))(G:u.length<=10000)(I:∀k c v,is k v->is c v->k=c)(J:Paired is U u)(X:(U.map key).Nodup)
  (Y:2<=u.length->∀{Q:Z4->Od->Prop},Q F {s with heap:=sH s.heap b u}->wpAny (OU P w) A (keyKind' u.toArray) Q E {s with heap:=sH s.heap b u})
  (lt:∀{E':NX->Od->Prop} {k c:κ} {x y:NX} {Q:N'->Od->Prop},is k x->is c y->Q (decide (key k<key c)) {s with heap:=sH s.heap b u}->wpAny (OU P w) A (keyLt' F x y) Q E' {s with heap:=sH s.heap b u})
  (q:∀W a,Paired is a W->a.Perm U->(a.map key).Pairwise (· < ·)->R (.done<|.ret .none) {s with heap:=Z0 s.heap b u W.toArray}):wpAny (OU P w) A (Builtin.«list.sort» ⟨[.ref b],[]⟩) R E s:=by
 let C:Cm P w A E {s with heap:=sH s.heap b u}:=⟨λp=>Jt is key p.1,λp=>∃k,is k p.1,F,λ{x y Q st} e ⟨k,H⟩ ⟨c,d⟩ h=>by
  rw[vL I H,vL I d]at h;rw[lt'_eq];refine OQ<|Vr ?_;rw[e];exact OQ<|WW<|pw<|lt H d ⟨rfl,Pb h⟩⟩
 have L:∀{n:Nat},n<=10000->n<=sizeLine:=λz=>by rw[Qj];exact O8 z (by decide)
 have XX:∀t,(Pc t).Perm (ZA u)->(Pc t).toList.Pairwise C.lo->R (.done<|.ret .none) {s with heap:=Z0 s.heap b u ((Pc t).map (·.2))}/\((Pc t).map (·.2)).size<=sizeLine:=λt j hs=>by
  have f:(Pc t).toList.Perm (u.zip u):=by rw[<-WZ];exact Rv.mp j
  have e:((Pc t).map (·.2)).toList=(Pc t).toList.map (·.2):=Array.toList_map;have M:((Pc t).toList.map (·.2)).Perm u:=by
   have:=f.map (·.2)
   rwa [Y4<|N9 _]at this
  obtain⟨a,H,d⟩:=tV M J;refine⟨?_,by rw[q7,j.size_eq,pairsOf_size];exact L G⟩;have:=q _ a H d (by
   rw[<-xy I H,OZ,Pq];refine hs.imp_of_mem λ{x y} hx hy h=>?_;have D:=(Wb<|f.mem_iff.mp hx).1;have e2:=(Wb<|f.mem_iff.mp hy).1;show Jt is key x.2<Jt is key y.2
   rw[<-D,<-e2];exact h)
  rwa [<-e]at this
 rw[list_sort_plain];have RH:b<s.heap.objs.size:=Ov B;obtain⟨D,m⟩:∃x,(s.heap.update b (Qx λV=>#[])).get? b=gV (P' "list" #[] x):=⟨_,Uw B _⟩;have o:(sH s.heap b u).get? b=gV (P' "list" #[] D):=Oe _ (Oe _ m);refine Oa (Yy B rfl (Oa (SO B rfl ?_ (by rw[Ot];exact L G))));refine Oa (WY m rfl (Oa (ZK (Oa (Ue (QD ?_))) (by simp_all))));show wpAny (OU P w) A _ R E {s with heap:=sH s.heap b u}
 have go:∀t,Q0 t=NZ->(Pc t).Perm (ZA u)->(Pc t).toList.Pairwise C.lo->wpAny (OU P w) A (do
   let T:=(<-seqEpoch b) != D
   XP (.ref b) λV=>(Pc t).map (·.2)
   if let gV e:=Q0 t then rule "list.sort.comparison-raised";throw e
   if T then rule "list.sort.modified";raiseError "ValueError" "list modified during sort"
   ret .none) R E {s with heap:=sH s.heap b u}:=λt h0 H d=>by
  obtain⟨f1,f2⟩:=XX t H d;refine Oa<|WY o rfl<|Oa<|SO o rfl ?_ (Oy _)<|Nat.le_succ_of_le f2;rw[h0];simp only[Yh,Q6,Ti];exact Oq f1
 by_cases g:u.toArray.size<2
 ·rw[On g,On g];refine Oa<|Oq ?_;dsimp only;rw[Zi];refine Oa<|Oq<|go (U4 general' (u.toArray.zip u.toArray) #[] 7 NZ) rfl (.refl _) ?_;have f:(u.toArray.zip u.toArray).toList.length<2:=by simp_all
  show(u.toArray.zip u.toArray).toList.Pairwise C.lo
  generalize (u.toArray.zip u.toArray).toList=l at f;cases l with
  |nil=>exact .nil
  |cons x r=>
   cases r with
   |nil=>exact List.pairwise_singleton _ _
   |cons y r=>exact absurd f<|by simp
 rw[Oo g,Oo g];rw[Ot]at g;refine Oa<|Y (Y2 g) ?_;have hB:Bs C (ZA u):=⟨λp j=>?_,?_⟩
 ·refine Oa<|Qk (Js (C:=C) (u:=(ZA u).toList) (Q:=λV t=>(Pc t).Perm (ZA u)/\Q0 t=NZ/\(Pc t).toList.Pairwise C.lo) hB ⟨.refl _,rfl,rfl,[],rfl,rfl,.nil _⟩ (by rw[pairsOf_size];exact YB (Y2 g)) λt Z N O=>⟨Z,N,O⟩) ?_ λV V z=>z;rintro⟨⟨⟩,t⟩ s2 ⟨rfl,Z,N,O⟩;exact go t N Z O
 ·rw[WZ]at j;have M:=(Wb j).2;obtain⟨i,hi⟩:=Pm.mp M;obtain⟨k,V,h⟩:=vK J hi;exact⟨k,h⟩
 rw[WZ];show((u.zip u).map<|Jt is key∘Z5).Nodup
 rwa[<-OZ,Y5<|N9 _,xy I J]
end
end TS
namespace L2
open PySem PySem.Spec PyProof.Rows
theorem qk{c d:Type}{F:c->d->Prop}:∀{A:ab c} {B:ab d},A.length=B.length->(∀(i:Nat) a b,A[i]?=gV a->B[i]?=gV b->F a b)->Paired F A B
 |[],[],_,_=>.nil
 |[],_::_,h,_=>by cases h
 |_::_,[],h,_=>by cases h
 |a::A,b::B,h,f=>.cons (f 0 a b rfl rfl)<|qk (by simpa using h) λi a b H e=>f (i+1) a b H e
structure SK (X:Cx)(H:Hp)(κ:Type) where
 vr:κ->V->Prop
 key:κ->Int
 kd:Z4
 hp:Pd->Prop
 mono:∀{h h'},hp h->(∀b o,h.get? b=gV o->h'.get? b=gV o)->hp h'
 inj:∀{k k' x x' v},vr k x->RelV x v->vr k' x'->RelV x' v->k=k'
 kk:∀{A E s Q us} {ks:ab κ},hp s.heap->2<=us.length->Paired (λk v=>∃x,vr k x/\RelV x v) ks us->Q kd s->wpAny (OU X.prog X.w) A (keyKind' us.toArray) Q E s
 lt:∀{A E s Q k k' x x' v v'},hp s.heap->vr k x->RelV x v->vr k' x'->RelV x' v'->Q (decide (key k<key k')) s->wpAny (OU X.prog X.w) A (keyLt' kd v v') Q E s
section
variable {κ:Type}(S:SK X H κ)
theorem Fx(h:Paired (λk v=>∃x,S.vr k x/\RelV x v) s z):∃t,Vals t z/\Paired S.vr s t:=by
 induction h with
 |nil=>exact⟨[],.nil,.nil⟩
 |cons r _ i=>
  obtain⟨x,a,b⟩:=r;obtain⟨t,c,d⟩:=i;exact⟨x::t,.cons b c,.cons a d⟩
theorem vM(I:Inv X O y H s)(A:S.hp s.heap)(p:c.length<=9000)(g:Paired (λk v=>∃x,S.vr k x/\RelV x v) P c)(N:(P.map S.key).Nodup)
  (q:∀l t a,H l=NZ->a.Perm P->(a.map S.key).Pairwise (· < ·)->Paired S.vr a t->Q (.ref l) (upd H l<|.lst t)):
  wpAny (OU X.prog X.w) X.A.in1 (do
   let l <-newList c
   let _ <-Vl [l] (call (.builtin "list.sort") [l] [])
   ret l) (λr B=>∃v,r=.done (.ret v)/\EP X O y Q v B) X.xe s:=by
 refine Oa (Ue ?_<|by rw[Qj];exact O8 p (by decide));have h:(s.heap.push<|P' "list" c.toArray 0).get? _=gV _:=OX _ rfl;have d:S.hp (TS.sH (s.heap.push<|P' "list" c.toArray 0) _ c):=S.mono A λb o e=>Oe _<|Oe _<|(Pz _ _<|R1<|Ov e).trans<|Oe _ e;refine Oa<|QD<|T5 WX ⟨_,h,rfl⟩ Wl (TS.sort_gen h (O8 p (by decide)) (λk T v ⟨x,i,j⟩ ⟨C,m,n⟩=>S.inj i j m n) g N (λf=>S.kk d f g) (λ⟨x,i,j⟩ ⟨C,m,n⟩=>S.lt d i j m n) λz a D f F=>⟨_,rfl,?_⟩)<|Z2 _;obtain⟨t,G,u⟩:=Fx S D;obtain⟨e,J⟩:=rk h;refine Oq ⟨_,rfl,.ref _,_,I.laid (o:=.lst t) (λb o E=>?_) (N9 _) ⟨?_,z,e,G,J⟩,rfl,q _ t a (I.hok.fresh<|N9 _) f F u⟩
 ·have w:=Ov E;rw[ZZ (OL w)<|by rw[XS];exact Rb w];exact Oe _ E
 have L:=Paired.length u;have M:=Paired.length g;rw[<-L,f.length_eq,M];exact OW (cK<|O8 p (by decide))
noncomputable def Hm(X:Cx)(H:Hp):SK X H Int where
 vr:=λk x=>x=.int k
 key:=λk=>k
 kd:=oneType'
 hp:=λ_=>True
 mono:=λh _=>h
 inj:=by
  rintro k b _ _ v rfl ⟨t,rfl⟩ rfl ⟨T,e⟩;simp_all
 kk:=λ{A E s Q u c} _ a h q=>by
  have i:RQ u c:=by
   clear a
   induction h with
   |nil=>exact .nil
   |cons r _ I=>
    obtain⟨_,rfl,t,rfl⟩:=r;exact .cons _ t I
  match u,a with
  |v1::d::vr,_=>
   rw[keyKind_ints i];exact Oq q
 lt:=by
  rintro A E s Q k b _ _ _ _ _ rfl ⟨t,rfl⟩ rfl ⟨T,rfl⟩ q;exact oneLt_int q
theorem zi{k:ab Int}{t:ab V}(h:Paired (Hm X H).vr k t):t=k.map V.int:=by
 induction h with
 |nil=>rfl
 |cons r _ i=>rw[OT,i,r]
theorem vN(B:X.calm=NW):eS X (.builtin "sorted") (λn H Q=>∃p a b,n=[.ref p]/\H p=gV (.dK a)/\a.map (·.1)=b.map OK/\b.length<=9000/\
  ∀l E,H l=NZ->SB E b->RM (·<=·) E->Q (.ref l) (upd H l<|.lst<|Z7 V.int E)):=by
 intro Og s σ H n us Q I r h;obtain⟨p,a,b,rfl,o,w,C,q⟩:=h;obtain⟨u,rfl,F⟩:=eT r;cases F;obtain⟨z,G,c,W,D⟩:a.length<=sizeLine/\(p == QK)=N8/\∃c,KV a c/\s.heap.DictOf _ p c:=I.hok p _ o;obtain⟨J,d⟩:=D.dictAt;have L:=Paired.length W;have f:c.map (·.1)=b.map OK:=by
  rw[<-w];clear w o d D L z
  induction W with
  |nil=>rfl
  |cons r _ M=>simp_all
 have g:=O1 P7 f;simp only[B']at g;refine Vc Zb Yw Yz (PyProof.Rows.args_sorted1 _) ?_;refine Oa<|Oq ?_;refine Oa<|Xk (YQ G) (I.ok.hd B) d (by simp_all) λO T P j A=>?_;have hl:P.toList.length=c.length:=A.1
 refine vM (Hm X H) (P:=b) (I.kept j) trivial (by simp_all) ?_ ?_ λl ts e U Y Z h4=>?_
 ·refine qk (by simp_all) λi k v UR hv=>?_;obtain⟨k2,x,hx,m⟩:=A.2 i v (by rwa[<-PR]);have y:=O1 (·[i]?) f;simp only[Ox,hx,UR,SX]at y;cases OA y;obtain⟨t,et⟩:=Vp m;exact⟨.int k,rfl,t,et⟩
 ·obtain⟨S,S,S,S,S,S,S,S,N⟩:=D;rw[f,U7,Pq]at N;exact(TC b).symm▸N.imp λh z=>h<|O1 _ z
 rw[zi h4];exact q l e U Y<|((TC e)▸Z).imp hI
end
mutual
def RD(H:Hp):Og->V->Prop
 |.none,v=>v=.non
 |.bool b,v=>v=.bl b
 |.int i,v=>v=.int i
 |.str x,v=>v=.str x
 |.list d,v=>∃a X,v=.ref a/\H a=gV (.lst X)/\dH H d X
 |.tuple d,v=>∃a X,v=.ref a/\H a=gV (.tup X)/\dH H d X
 |.dict _,_=>False
def dH(H:Hp):ab Og->ab V->Prop
 |[],x=>x=[]
 |d::D,x=>∃y Y,x=y::Y/\RD H d y/\dH H D Y
end
theorem f_(h:H a=gV (.lst x))(r:dH H d x):RD H (.list d) (.ref a):=⟨a,x,rfl,h,r⟩
theorem bx(h:H a=gV (.tup x))(r:dH H d x):RD H (.tuple d) (.ref a):=⟨a,x,rfl,h,r⟩
theorem eU(h:RD H (.list d) v):∃a x,v=.ref a/\H a=gV (.lst x)/\dH H d x:=by
 assumption
theorem al(h:RD H (.tuple d) v):∃a x,v=.ref a/\H a=gV (.tup x)/\dH H d x:=by
 assumption
theorem xz:RD H .none .non:=by rfl
theorem bO(i:Int):RD H (.int i) (.int i):=by rfl
theorem c_(x:Str):RD H (.str x) (.str x):=by rfl
theorem aM:dH H [] []:=by rfl
theorem ai(h:RD H d y)(t:dH H D Y):dH H (d::D) (y::Y):=⟨y,Y,rfl,h,t⟩
theorem bD(h:dH H [] x):x=[]:=by
 assumption
theorem aj(h:dH H (d::D) x):∃y Y,x=y::Y/\RD H d y/\dH H D Y:=by
 assumption
theorem tX:∀N:ab Int,dH H (N.map U0)<|N.map V.int
 |[]=>aM
 |n::r=>ai (bO n)<|tX r
theorem du:∀{D:ab Og} {x:ab V},dH H D x->x.length=D.length
 |[],_,h=>by
  rw[bD h];rfl
 |d::D,_,h=>by
  obtain⟨y,Y,rfl,z,t⟩:=aj h;rw[OG,OG,du t]
theorem cY:∀{D:ab Og} {x:ab V} {j:Nat} {v:V},dH H D x->x[j]?=gV v->RD H (D.getD j .none) v
 |[],_,_,_,h,e=>by rw[bD h]at e;cases e
 |d::D,_,j,v,h,e=>by
  obtain⟨y,Y,rfl,a,t⟩:=aj h;cases j with
  |zero=>
   simp_all
  |succ j=>exact cY (D:=D) t (by assumption)
mutual
theorem dw(k:Same H g):∀d v,RD H d v->RD g d v
 |.none,v,h=>by unfold RD at h ⊢;exact h
 |.bool b,v,h=>by unfold RD at h ⊢;exact h
 |.int i,v,h=>by unfold RD at h ⊢;exact h
 |.str x,v,h=>by unfold RD at h ⊢;exact h
 |.list D,v,h=>by
  obtain⟨a,X,e,c,f⟩:=eU h;subst e;exact f_ (k _ _ c)<|dI k D X f
 |.tuple D,v,h=>by
  obtain⟨a,X,e,c,f⟩:=al h;subst e;exact bx (k _ _ c)<|dI k D X f
 |.dict _,v,h=>by
  unfold RD at h;exact h.elim
theorem dI(k:Same H a):∀D x,dH H D x->dH a D x
 |[],x,h=>by
  rw[bD h];exact aM
 |d::D,x,h=>by
  obtain⟨y,Y,e,b,c⟩:=aj h;subst e;exact ai (dw k d y b)<|dI k D Y c
end
mutual
theorem df(I:Inv X O m H s):∀d x v,RD H d x->RelV x v->∃A,Reads s.heap v d A
 |.none,x,v,h,r=>by
  unfold RD at h;subst h;cases r;exact⟨[],.none⟩
 |.bool b,x,v,h,r=>by
  unfold RD at h;subst h;cases r;exact⟨[],.bool b⟩
 |.int i,x,v,h,r=>by
  unfold RD at h;subst h;obtain⟨t,rfl⟩:=r;exact⟨[],.int i t⟩
 |.str y,x,v,h,r=>by
  unfold RD at h;subst h;obtain⟨t,rfl⟩:=r;exact⟨[],.str y t⟩
 |.list D,x,v,h,r=>by
  obtain⟨a,c,e,f,g⟩:=eU h;subst e;cases r;obtain⟨P3,j,⟨o,n,E,k,z,l⟩,z⟩:=I.list<|SqL.of f;obtain⟨A,q⟩:=lg I D c P3 g j;exact⟨a::A,.list E k l<|by simpa using q⟩
 |.tuple D,x,v,h,r=>by
  obtain⟨a,c,e,f,g⟩:=al h;subst e;cases r;obtain⟨P3,j,⟨o,E,k,n,l⟩,z⟩:=I.tuple<|SqT.of f;obtain⟨A,q⟩:=lg I D c P3 g j;exact⟨A,.tuple E k l<|by simpa using q⟩
 |.dict _,x,v,h,_=>by
  unfold RD at h;exact h.elim
theorem lg(I:Inv X O i H s):∀D x v,dH H D x->Vals x v->∃a,Yr s.heap v D a
 |[],x,v,h,r=>by
  rw[bD h]at r;cases r;exact⟨[],.nil⟩
 |d::D,x,v,h,r=>by
  obtain⟨y,Y,e,b,c⟩:=aj h;subst e;cases r with
  |cons f g=>
   obtain⟨a,q⟩:=df I d y _ b f;obtain⟨B,Q⟩:=lg I D Y _ c g;exact⟨a++B,.cons q Q⟩
end
inductive Lp (x y:V)(H:Hp)(Q:VK):Prop
 |mk (d D:Og)(r:RD H d x)(b:RD H D y)(sa:PP d=NW)(s:PP D=NW)(q:Q (.bl<|Pe d D) H)
inductive Lq (x y:V)(H:Hp)(Q:VK):Prop
 |mk (d D:Og)(r:RD H d x)(b:RD H D y)(sa:PP d=NW)(s:PP D=NW)(q:Q (.bl (!Pe d D)) H)
def Lr:R2:=λx y H Q=>Lp x y H Q
def Ls:R2:=λx y H Q=>Lq x y H Q
theorem Ju(a:X.A.units+64<Sm):OpR X (PX .Eq) Lr:=by
 intro O s k H x y v u Q I r b h;obtain⟨d,D,c,e,f,g,q⟩:=h;obtain⟨A,i⟩:=df I d x v c r;obtain⟨B,j⟩:=df I D y u e b;exact eq_dataH i j f g a ⟨.bl _,H,I,rfl,q⟩
theorem Jv(a:X.A.units+64<Sm):OpR X (PX .NotEq) Ls:=by
 intro O s k H x y v u Q I r b h;obtain⟨d,D,c,e,f,g,q⟩:=h;obtain⟨A,i⟩:=df I d x v c r;obtain⟨B,j⟩:=df I D y u e b;exact ne_dataH i j f g a ⟨.bl _,H,I,rfl,q⟩
theorem dN(h:X.A.units+64<Sm):OpR X (PX .Eq) (λx y H Q=>NC x y H Q\/Lr x y H Q):=OpR.or K0<|Ju h
theorem ro(h:X.A.units+64<Sm):OpR X (PX .NotEq) (λx y H Q=>ND x y H Q\/Ls x y H Q):=OpR.or K1<|Jv h
theorem tY:eS X (.builtin "isinstance") (λa H Q=>∃x t c b,a=[x,.ty c]/\jn X.K H x t/\QE X.K t (.type c)=gV b/\Q (.bl b) H):=by
 intro O s f H a U Q I r h;obtain⟨x,t,c,b,rfl,T,e,q⟩:=h;obtain⟨u,w,rfl,d,y⟩:=GY r;obtain rfl:w=UZ c:=y;exact pZ I d T e λk=>⟨.bl b,H,I.tok _,rfl,q⟩
noncomputable def gD(T c:Sa):M' N':=if(UZ T == UZ c)=NW then gV NW else if PySem.W.kitMeta c=NW then(fastBuiltinMro T).map (·.contains (UZ c))else NZ
theorem bV{K:C'}{T c:Sa}{b:N'}(h:gD T c=gV b):QE K (.type T) (.type c)=gV b:=h
noncomputable def rp:Og->Sa
 |.none=>"NoneType"
 |.bool _=>"bool"
 |.int _=>"int"
 |.str _=>"str"
 |.list _=>"list"
 |.tuple _=>"tuple"
 |.dict _=>"dict"
theorem jQ{K:C'}{H:Hp}:∀d v,RD H d v->jn K H v (.type<|rp d)
 |.none,v,h=>by
  subst h;exact .non
 |.bool b,v,h=>by
  subst h;exact .bl b
 |.int i,v,h=>by
  subst h;exact .int i
 |.str x,v,h=>by
  subst h;exact .str x
 |.list D,v,h=>by
  obtain⟨a,X,e,c,z⟩:=eU h;subst e;exact .lst c
 |.tuple D,v,h=>by
  obtain⟨a,X,e,c,z⟩:=al h;subst e;exact .tup c
 |.dict _,v,h=>by
  unfold RD at h;simp_all
noncomputable def Jw:Og->N'
 |.tuple _=>NW
 |_=>N8
noncomputable def jr:Og->N'
 |.int _=>NW
 |.bool _=>NW
 |_=>N8
noncomputable def mU:Og->N'
 |.bool _=>NW
 |_=>N8
noncomputable def mV:Og->N'
 |.dict _=>NW
 |_=>N8
theorem Bv:gD "NoneType" "tuple"=gV N8/\gD "bool" "tuple"=gV N8/\gD "int" "tuple"=gV N8/\gD "str" "tuple"=gV N8/\gD "list" "tuple"=gV N8/\gD "tuple" "tuple"=gV true:=by
 refine⟨?_,?_,?_,?_,?_,?_⟩<;>decide+kernel
theorem Jx:gD "NoneType" "int"=gV N8/\gD "bool" "int"=gV NW/\gD "int" "int"=gV NW/\gD "str" "int"=gV N8/\gD "list" "int"=gV N8/\gD "tuple" "int"=gV false:=by
 refine⟨?_,?_,?_,?_,?_,?_⟩<;>decide+kernel
theorem Fy:gD "NoneType" "bool"=gV N8/\gD "bool" "bool"=gV NW/\gD "int" "bool"=gV N8/\gD "str" "bool"=gV N8/\gD "list" "bool"=gV N8/\gD "tuple" "bool"=gV false:=by
 refine⟨?_,?_,?_,?_,?_,?_⟩<;>decide+kernel
theorem li{K:C'}(d:Og)(h:mV d=N8):QE K (.type<|rp d) (.type "tuple")=gV (Jw d):=by
 cases d with
 |none=>rfl
 |bool _=>rfl
 |int _=>rfl
 |str _=>rfl
 |list _=>rfl
 |tuple _=>rfl
 |dict _=>rfl
theorem rq{K:C'}(d:Og)(h:mV d=N8):QE K (.type<|rp d) (.type "int")=gV (jr d):=by
 cases d with
 |none=>rfl
 |bool _=>rfl
 |int _=>rfl
 |str _=>rfl
 |list _=>rfl
 |tuple _=>rfl
 |dict _=>rfl
theorem nV{K:C'}(d:Og)(h:mV d=N8):QE K (.type<|rp d) (.type "bool")=gV (mU d):=by
 cases d with
 |none=>rfl
 |bool _=>rfl
 |int _=>rfl
 |str _=>rfl
 |list _=>rfl
 |tuple _=>rfl
 |dict _=>rfl
theorem fA(h:RD H d v):mV d=false:=by
 cases d with
 |dict _=>
  unfold RD at h;simp_all
 |_=>rfl
structure Fn (P:Om)(w:OI)(K:C')(mg:Str->M' NX)(base:Pd)(k:Nat)(x:Str)(f:J')(fd:Ol)(ps:ab Str)(sp:Sp):Prop where
 ok:ay P w K mg base a_ k f fd ps sp
 b:Binds K fd ps []
 kp:P_ K (.ref f)=NW
 at_:mg x=gV (.ref f)
theorem Lu{X:Cx}{j:Nat}{k:Nat}{f:J'}{F:Ol}{a:ab Str}{s:Sp}{x:Str}{p:Pos}{P:Pos}{e:Px}{E:ab Px}{t:TA}(G:Fn X.prog X.w X.K X.mg X.base j x f F a s)(r:Room k X.A)(h:j<=k)(g:Gl X x)(b:PA X (e::E) t)(H:(x == ("__debug__":Str))=false:=by decide)
  (c:OS (e::E) X.env=(N8,Qm e X.env)::OS E X.env:=by rfl) (v:(Rc P<|OS E X.env).any (·.1)=false:=by rfl):PE X (.Call (.Name x p) (e::E) [] P) (xp s [] E0 t):=
 Fb G.ok (r.mono h) g G.at_ G.kp G.b .nil xv b H c v
theorem ad(h:H p=NZ)(o:HO):Same H (upd H p o):=λb u q=>by rwa[af<|ag q h]
theorem Same.upd_new(k:Same a H)(h:a p=NZ)(o:HO):Same a (upd H p o):=λb u q=>by rw[af<|ag q h];exact k b u q
theorem vO{a:Type}{x:ab a}{i:Int}(H:0<=i)(b:i<x.length):∃v,x[i.toNat]?=gV v/\kZ x i=gV v:=by
 have h:i.toNat<x.length:=by simp_all
 have e:i=((i.toNat)):=by lia
 have q:kZ x _=gV _:=aG<|N1 h;rw[<-e]at q;exact⟨_,N1 h,q⟩
theorem Bw{n:ab Int}{i:Int}(a:0<=i)(b:i<n.length):∃v,n[i.toNat]?=gV v/\kZ (n.map V.int) i=gV (.int v):=by
 obtain⟨v,h,c⟩:=vO (x:=n.map V.int) a (by simp_all);simp_all
def AllIn(f:Str->M' J'):ab (Str×J')->Prop
 |[]=>True
 |p::r=>f p.1=gV p.2/\AllIn f r
theorem AllIn.look:∀{C:ab (Str×J')},AllIn f C->∀{y:Str} {c:J'},C.lookup y=gV c->f y=gV c
 |[],_,y,c,e=>by cases e
 |(n,a)::r,h,y,c,e=>by
  rw[Q2]at e;cases q:(y == n)with
  |true=>
   rw[q]at e;have E:=eq_of_beq q;have b:=OA e;rw[E,<-b];exact h.1
  |false=>
   rw[q]at e;exact AllIn.look h.2 e
noncomputable def b8(X:Cx)(s:RY)(c:ab (Str×J'))(n:ab Str)(C:J')(f:ab J')(s₀:Od)(H₀:Hp):Cx where
 prog:=X.prog
 w:=X.w
 K:=X.K
 mg:=X.mg
 base:=X.base
 A:=X.A
 N:=n
 s₀:=s₀
 H₀:=H₀
 env:=kG s (PK (C+1) s.names c) C X.env
 outer:=X.stack
 stack:=X.stack
 ex:=f
 fn:=λx=>(c.lookup x).isNone
 calm:=X.calm
 pn:=[]
 xe:=λ_ _=>False
structure CompSc (X:Cx)(scope:RY)(cl:ab (Str×J'))(NY:ab Str)(idx:ab (M' Nat)):Prop where
 clos:ZP scope X.env=pure cl
 all:AllIn (λy=>X.env.cells.lookup y) cl
 c2:∀n,((Se scope X.env).names.all λq=>!(decide (q.2=.cell) || decide (q.2=.free)) || ((PK n scope.names cl).lookup q.1).isSome)=NW
 ix:((NY.zip idx).all λp=>match p.2 with
  |none=>NW
  |some i=>decide (X.N[i]?=gV p.1)&&(decide (X.env.kindOf p.1=gV .cell) || decide (X.env.kindOf p.1=gV .free))&&(decide ((Se scope X.env).names.lookup p.1=gV .cell) || decide ((Se scope X.env).names.lookup p.1=gV .free))&&(scope.names.all λq=>!decide (q.2=.cell) || !decide (q.1=p.1)))=NW
 len:idx.length=NY.length
 kind:scope.kind=.function
 names:∀y∈scope.names,y.2=.local->scope.names.lookup y.1=gV .local
theorem cT:∀N n i,PK n N i=PK n N []++i
 |[],_,_=>rfl
 |(x,k)::r,n,i=>by
  unfold PK
  split
  ·rw[cT r _<|(x,n)::i,cT r _ [(x,n)],O6];rfl
  exact cT r n i
theorem lm:∀{N:ab (Str×U1)} {n:Nat} {y:Str} {c:J'},(y,c)∈PK n N []->(y,SM)∈N
 |(x,k)::r,n,y,c,h=>by
  unfold PK at h
  split at h
  ·rw[cT]at h;obtain h|h:=Os.mp h
   ·exact Ow _<|lm h
   simp_all
  exact Ow _<|lm h
theorem nX(h:(PK n N C).lookup y=gV c):(y,c)∈PK n N []\/C.lookup y=gV c:=by
 rw[cT,X3]at h;cases e:(PK n N []).lookup y with
 |some d=>
  rw[e]at h;cases h;exact .inl<|PD e
 |none=>
  rw[e]at h;exact .inr h
theorem Bx(h:∀q∈N,q.2=SM->q.1≠y):(PK n N c).lookup y=c.lookup y:=by
 rw[cT,X3];cases e:(PK n N []).lookup y with
 |some d=>exact absurd rfl<|h _ (lm<|PD e) rfl
 |none=>rfl
theorem pO{M:i0}{A:PL}{E:NX->Od->Prop}{s:Od}{a:RY}{g:J'}{Y:ab (Str×J')}{q:Str}{O:Env}{Q:Env->Od->Prop}
  (H:∀h',h'.Ns s.heap.objs.size (λz=>NZ)->(∀b o,s.heap.get? b=gV o->h'.get? b=gV o)->CellsOk h' (s.heap.objs.size+1) (PK (s.heap.objs.size+1) a.names [])->
   Q (newEnv a s.heap.objs.size g (PK (s.heap.objs.size+1) a.names Y) q NZ .none (gV O) O.builtins) {s with heap:=h'}):
  wpAny M A (WL a g Y [] q NZ .none<|gV O) Q E s:=by
 refine Oa<|wpAny_alloc<|Oa<|wpAny_layCells _ (by simp) _ _ _ _ ?_;have d:=cellsFrom_ok a.names (s.heap.push {cls:=.type "dict",data:=.dict #[]}) _ [] ⟨λz z m=>(nomatch m),RK⟩ (N9 _);rw[So]at d;rw[So ..];exact Oa<|Oq<|Oq<|H _ ((Heap.Ns.new _<|.type _).keeps<|Zj _ _) (λb o e=>Zj _ _ b o<|Oe _ e) d
noncomputable def By(I:ab (M' Nat))(a:St):St:=I.map λo=>match o with
 |none=>NZ
 |some i=>(a[i]?).getD NZ
theorem CompSc.look(S:CompSc X s C N i)(n:Nat)(h:(Se s X.env).names.lookup y=gV .cell\/(Se s X.env).names.lookup y=gV .free):∃c,(PK n s.names C).lookup y=gV c:=by
 have m:∃k,(y,k)∈(Se s X.env).names/\(k=.cell\/k=.free):=by
  obtain h|h:=h
  ·exact⟨_,PD h,.inl rfl⟩
  exact⟨_,PD h,.inr rfl⟩
 obtain⟨k,a,H⟩:=m;have q:=O2.mp (S.c2 n) _ a;have e:(decide (k=SM) || decide (k=aaG))=true:=by
  simp_all
 have Q:=q;rw[e]at Q;exact QF.mp Q
theorem Bz{F:ab J'}{f:Pd}{m:Str->M' NX}{tk:Nat}(S:CompSc X d C NY l)(I:Inv X Oc r H s)
  (D:∀b∈F,pM X Oc H b) (w:∀b∈F,b<s.heap.objs.size) (G:f.Ns s.heap.objs.size m) (O:∀b o,s.heap.get? b=gV o->f.get? b=gV o) (n:CellsOk f (s.heap.objs.size+1) (PK (s.heap.objs.size+1) d.names [])):
  Inv (b8 X d C NY s.heap.objs.size F s H) [] (By l r) H {s with heap:=f,toks:=tk}:=by
 have hC:=I.hok.fresh<|N9 _;have T:∀{x:Str} {c:J'},C.lookup x=gV c->X.env.cells.lookup x=gV c:=λe=>S.all.look e;have J:∀{x:Str} {c:J'},X.env.cells.lookup x=gV c->c<s.heap.objs.size:=λ{x c} e=>by
  obtain⟨v,z⟩:=I.cell x c e;exact z.lt
 have t:∀{x:Str} {c:J'},(PK _ _ C).lookup x=gV c->((x,c)∈PK _ _ []/\s.heap.objs.size<c/\f.IsCell c NZ)\/(X.env.cells.lookup x=gV c/\c<s.heap.objs.size):=λ{x c} e=>by
  obtain h|h:=nX e
  ·exact .inl ⟨h,(n.empty x c h).2,(n.empty x c h).1⟩
  exact .inr ⟨T h,J<|T h⟩
 have L:∀x y c,(PK _ _ C).lookup x=gV c->(PK _ _ C).lookup y=gV c->x=y:=λx y c M N=>by
  obtain a|a:=t M<;>obtain b|b:=t N
  ·exact Yl n.apart a.1 b.1
  ·exact absurd (Wd a.2.1 b.2)<|QR _
  ·exact absurd (Wd b.2.1 a.2)<|QR _
  exact I.ok.inj x y c a.1 b.1
 have ne:∀b∈F,∀x c,(PK _ _ C).lookup x=gV c->c≠b:=λb k x c e=>by
  obtain a|a:=t e
  ·exact R1<|Wd (w b k) a.2.1
  exact(D b k).2.2.2.2.1 x c a.1
 have fr:∀x c,(PK _ _ C).lookup x=gV c->H c=none:=λx c e=>by
  obtain a|a:=t e
  ·exact I.hok.fresh<|OW a.2.1
  exact I.freeC x c a.1
 have P:∀x c,(C.lookup x).isNone=NW->(PK _ _ C).lookup x=gV c->s.heap.objs.size<=c:=λx c hf e=>by
  obtain h|h:=nX e
  ·exact YB (n.empty x c h).2
  rw[h]at hf;cases hf
 refine⟨⟨I.ok.mod,?_,I.ok.glob,I.ok.blt,N9 _,L,λx hx=>S.look _ hx,P,I.ok.hd,I.ok.frames,.inl rfl,λb k=>⟨OL<|w b k,ne b k⟩,
  I.bs,O8 I.ok.bsz I.sz,λb o e k=>?_,λb k U=>?_,I.stack,I.stkFree⟩,rfl,I.bare,Un.kept O,⟨m,G,λj y v M N h3=>?_⟩,λx c e=>?_,hC,fr,λp hp=>absurd (show p∈([])from hp) (by simp),I.hok.kept O,?_⟩
 ·exact S.kind
 ·obtain z|z:=(D b k).2.2.2.1
  ·exact I.ok.noex b o e z
  exact absurd (Pf (Ov e)<|O8 I.ok.bsz z)<|QR _
 ·obtain e|e:=Oz.mp (I.stkSub b U)
  ·exact(D b k).2.1 e
  exact(D b k).2.2.1 e
 ·
  have g:=N;unfold By at g;rw[Ox]at g;cases W:l[j]? with
  |none=>rw[W]at g;cases g
  |some o=>
   rw[W]at g;cases o with
   |none=>cases g
   |some i=>
    have E:(r[i]?).getD NZ=gV v:=by simpa using g
    have e4:r[i]?=gV (gV v):=by
     cases q:r[i]? with
     |none=>rw[q]at E;cases E
     |some z=>
      rw[q]at E;exact O1 gV E
    have U:(NY.zip l)[j]?=gV (y,gV i):=by
     rw[Vf];exact⟨M,W⟩
    have q:=O2.mp S.ix _<|N5 U;have q':=q;rw[OO,OO,OO,QJ,QJ]at q';obtain⟨⟨⟨q1,q2⟩,q3⟩,q4⟩:=q';have q5:∀q∈d.names,q.2=SM->q.1≠y:=λq hq e1 e2=>by
     have:=O2.mp q4 q hq;rw[N3 e1,N3 e2]at this;cases this
    have Y:=Oh q1;have Q:X.env.kindOf y=gV _\/X.env.kindOf y=gV _:=q2.elim (λz=>.inl<|Oh z) λz=>.inr<|Oh z;have A:(Se d _).names.lookup y=gV _\/(Se d _).names.lookup y=gV _:=q3.elim (λz=>.inl<|Oh z) λz=>.inr<|Oh z;obtain⟨mX,V,hl⟩:=I.loc;obtain⟨u,ru,lk⟩:=hl i y v Y e4<|.inr Q;refine⟨u,ru,.inr ⟨A,?_⟩⟩;obtain⟨c,B⟩:=S.look (s.heap.objs.size+1) A;have hc:=B;rw[Bx q5]at hc;obtain⟨hk,V⟩|⟨V,c',WB,Z⟩:=lk
    ·obtain z|z:=Q
     ·rw[hk]at z;cases z
     rw[hk]at z;cases z
    have e5:=T hc;rw[WB]at e5;cases e5;obtain⟨oc,ho,hd⟩:=Z;exact⟨_,B,oc,O _ _ ho,hd⟩
 ·obtain a|a:=t e
  ·exact⟨NZ,a.2.2⟩
  obtain⟨v,oc,ho,hd⟩:=I.cell x c a.1;exact⟨v,oc,O _ _ ho,hd⟩
 unfold By;rw[B'];exact S.len
def Jy(Y:Cx)(i:ab Px)(t:TT):Prop:=
 ∀(O:ab (J'×Obj)) (s:Od) (a:St) (H:Hp) (Q:N'->Hp->Prop),Inv Y O a H s->t a H Q->
  wpAny (OU Y.prog Y.w) Y.A (forIn i NW λc r=>if r=NW then do let o <-isTrue c Y.env<|Qm c Y.env;pure (S3 o)else pure (S3 r)) (TP Y O a Q) Y.xe s
def Jz:TT:=λ_ H Q=>Q NW H
theorem cg{A B:St->Hp->Prop}(h:A (c.set i<|gV x) H):dF i x c H (λa e=>Jz a e λb d=>if b=NW then A a d else B a d):=by
 assumption
theorem mW:Jy Y [] Jz:=λO s a H Q I h=>wpAny_tests_nil ⟨H,I,h⟩
theorem bM(h:PT Y c t):Jy Y [c] t:=λO s a H Q I w=>wpAny_tests_one<|h O s a H Q I w
def gb(J:It)(D:J')(g:TG)(t:TT)(T:TE)(e:St)(n:Hp)(Q:VK):Prop:=
 ∃W:Nat->Nat->St->ab V->Hp->Prop,(∃m,W 0 m e []<|upd n D<|.lst [])/\∀i m f Y H,W i m f Y H->H D=gV (.lst Y)/\
  ((J.stop i H/\Q (.ref D) H)\/(J.go i H/\∃N:St->ab V->Hp->Prop,(∀c d h,N c d h->∃M,M<m/\W (i+1) M c d h)/\
   ∀x j,J.yld i H x j->g x f j λa o=>t a o λb k=>if b=NW then T a k λy l=>l D=gV (.lst Y)/\Y.length<sizeLine/\N a (Y++[y]) (upd l D<|.lst<|Y++[y])else N a Y k))
def tZ(i:ab (M' Nat))(w:TI)(g:TG)(t:TT)(T:TE):TE:=λa H Q=>w a H λJ h=>∀D,h D=NZ->gb J D g t T (By i a) h Q
section
variable {R:ZW->Od->Prop}
theorem io{o D J:Px}{q:ab Px}{a:RY}{P:Pos}{F G:NX}{e:Env}(I:Nat->Od->Prop)
  (Z:∀n s,I n s->wpAny (OU p w) A (XC F) (λr b=>match r with
   |none=>R (.ok .next) b
   |some v=>wpAny (OU p w) A (Uu D F v) (λ_ f=>wpAny (OU p w) A (YO D e v) (λ_ g=>
     wpAny (OU p w) A (forIn q NW λc r=>if r=NW then do let O <-isTrue c e<|Qm c e;pure (S3 O)else pure (S3 r)) (λO d=>
      if O=NW then wpAny (OU p w) A (Qm o e) (λx i=>
       wpAny (OU p w) A (call (.builtin "list.append") [G,x]) (λ_ j=>∃m,m<n/\I m j) (λ_ _=>False) i) (λ_ _=>False) d
      else∃m,m<n/\I m d) (λ_ _=>False) g) (λ_ _=>False) f) (λ_ _=>False) b) (λ_ _=>False) s)
  (n:Nat) (h:I n s):
  codeAny (OU p w) A (.compLoop (.ListComp o [⟨D,J,q,0⟩] a P) 0 F G e) R s:=by
 refine codeAny_loop rfl I (λn s M=>?_) n h;show wpAny _ A _ _ _ s
 refine wpAny_noted ?_;rw[compTurn_list];refine Oa<|pz<|Oa<|Qk (Z n s M) (λr b k=>?_) λ_ _ H=>H.elim;cases r with
 |none=>exact Oq k
 |some v=>
  refine Oa<|Qk k (λ_ f u=>Oa<|Qk u (λ_ g y=>Oa<|Qk y (λO d l=>?_) λ_ _ H=>H.elim) λ_ _ H=>H.elim) λ_ _ H=>H.elim;cases O with
  |false=>exact Oq ⟨rfl,l⟩
  |true=>
   exact Oa<|Oa<|Qk l (λx i B=>Oa<|Qk B (λ_ j C=>Oq<|Oq ⟨rfl,C⟩) λ_ _ H=>H.elim) λ_ _ H=>H.elim
end
structure CompEnd (X:Cx)(Oc:ab (J'×Obj))(σ:St)(H:Hp)(C:J')(s:Od):Prop where
 inv:Inv X Oc σ H s
 ns:∃m,s.heap.Ns C m
 free:H C=NZ
 loc:C≠X.env.locals
 young:X.s₀.heap.objs.size<=C
 cells:∀x c,X.env.cells.lookup x=gV c->c≠C
 pin:∀p∈X.pn++Oc,p.1≠C
theorem CompEnd.gone(e:CompEnd X O a H C s)(h:Sx C s.heap h'):Inv X O a H {s with heap:=h'}:=
 e.inv.turned (λb o c q=>(h.2 b c).trans q) e.free e.loc (.inr e.young) e.cells e.pin
theorem t4{Oc:ab (J'×Obj)}{σ:St}{H:Hp}{s:Od}{Q:VK}{RR:NX->J'->ZW->Od->Prop}(an:X.calm=NW)(S:CompSc X a G Y bf)(hi:PI X R0 Su wi)
  (hg:∀C F w A,PG (b8 X a G Y C F w A) R0 g) (ht:∀C F w A,Jy (b8 X a G Y C F w A) as tt) (he:∀C F w A,PE (b8 X a G Y C F w A) av te)
  (I:Inv X Oc σ H s) (h:tZ bf wi g tt te σ H Q)
  (bg:∀D C B s',CompEnd X Oc σ B C s'->Q (.ref D) B->RR (.ref D) C (.ok .next) s'):
  wpAny (OU X.prog X.w) X.A (Qm Su X.env) (λx az=>wpAny (OU X.prog X.w) X.A (ZO x) (λit aC=>wpAny (OU X.prog X.w) X.A (newList []) (λRi aF=>
   wpAny (OU X.prog X.w) X.A (WL a X.env.globals G [] X.env.qual NZ .none<|gV X.env) (λaL a0=>
    codeAny (OU X.prog X.w) X.A (.compStart (.ListComp av [⟨R0,Su,as,0⟩] a bk) 0 it Ri {aL with scope:=Se a X.env}) (RR Ri aL.locals) a0) X.xe aF) X.xe aC) X.xe az) X.xe s:=by
 refine bN (hi Oc s σ H _ I h) λv s1 h1=>bN h1 λcf f h2=>?_;obtain⟨it,F,tn,J,M,e,I2,T,RX,f2,r2⟩:=h2;subst e;have hD:M _=none:=I2.hok.fresh<|N9 _;have r3:=r2 _ hD;have Z:Inv X Oc σ (upd M _<|.lst []) {f with heap:=f.heap.push {cls:=.type _,data:=.seq _}}:=
  I2.laid (λb u q=>Oe _ q) (N9 _) ⟨Oy _,[],0,.nil,OX _ rfl⟩
 refine QA<|pO λl a1 a2 a3=>?_;dsimp only at a1 a2 a3 ⊢;have a4:∀b∈F,b<f.heap.objs.size:=λb j=>by
  obtain⟨o,q,_⟩:=T.obj 0 _ RX b j;exact Ov q
 have bl:=λb j=>OL<|a4 b j;have f3:∀b∈F,pM X Oc (upd M _<|.lst []) b:=λb j=>⟨by rw[af<|bl b j];exact(f2 b j).1,(f2 b j).2⟩;generalize a5:({f with heap:=f.heap.push {cls:=.type _,data:=.seq _}}:Od)=k at Z;have E:k.heap=f.heap.push {cls:=.type "list",data:=.seq ([]).toArray}:=by rw[<-a5]
 have a6:∀b∈F,b<k.heap.objs.size:=λb j=>by
  rw[E,So];exact Rb<|a4 b j
 have bm:l.Ns k.heap.objs.size (λ_=>NZ):=by rwa[E]
 have a7:∀b o,k.heap.get? b=gV o->l.get? b=gV o:=λb o q=>by
  rw[E]at q;exact a2 b o q
 have br:CellsOk l (k.heap.objs.size+1) (PK (k.heap.objs.size+1) a.names []):=by rwa[E]
 have YH:=T.keep _ _ _ RX λb j o q=>a7 b o (by rw[E];exact Oe _ q);have O:=Bz (tk:=f.toks) S Z f3 a6 bm a7 br;have e4:({k with heap:=l,toks:=f.toks})={f with heap:=l,toks:=f.toks}:=by rw[<-a5]
 rw[e4]at O;have eC:k.heap.objs.size=(f.heap.push {cls:=.type "list",data:=.seq ([]).toArray}).objs.size:=by rw[E]
 have bs:k.heap.get? _=none:=WR<|N9 _;obtain⟨W,⟨m0,w0⟩,ZE⟩:=r3;have bt:∀s4,s4={f with heap:=l,toks:=f.toks}->
   codeAny (OU X.prog X.w) X.A (.compLoop (.ListComp av [⟨R0,Su,as,0⟩] a bk) 0 (.ref it) (.ref f.heap.objs.size)<|kG a (PK (k.heap.objs.size+1) a.names G) k.heap.objs.size X.env) (RR (.ref f.heap.objs.size) k.heap.objs.size) s4:=by
  rintro s4 rfl;have ac:∀{B:Hp},(∀b∈F,B b=NZ)->∀b∈F,pM (b8 X a G Y _ F k<|upd M _<|.lst []) [] B b:=λ{B} hn b j=>
   ⟨hn b j,OL<|a6 b j,(λz=>(O.ok.exfs b j) z),.inl j,λx c e=>(O.ok.exf b j).2 x c e,λp hp=>absurd (show p∈([]:ab _)from hp)<|by simp⟩
  refine io (λn s'=>∃i L ys B,Inv (b8 X a G Y _ F k<|upd M _<|.lst []) [] L B s'/\tn i s'.heap/\(∀b∈F,B b=NZ)/\W i n L ys B) ?_ m0
   ⟨0,_,[],_,O,YH,λb j=>(f3 b j).1,w0⟩
  rintro n s5 ⟨i,P,ys,H5,I5,a8,a9,w5⟩;obtain⟨ch,b0⟩:=ZE i n P ys H5 w5;obtain⟨ba,qn⟩|⟨go,N,hN,step⟩:=b0
  ·refine bN (T.done (b8 X a G Y _ F k<|upd M _<|.lst []) rfl rfl rfl an i [] s5 P H5 _ I5 (ac a9) a8 ba) λr s6 ⟨hr,I6⟩=>?_;subst hr;have I7:=Z.call' I6.os I6.base I6.hok I6.bare λb j=>⟨(f3 b j).2.2.2.1,(f3 b j).2.1,(f3 b j).2.2.2.2.1,(f3 b j).2.2.2.2.2⟩;refine bg _ _ H5 s6 ⟨I7,?_,I6.free,R1 Z.lt,Z.sz,λx c e=>?_,λp hp z=>?_⟩ qn
   ·obtain⟨m,hn,_⟩:=I6.loc;exact⟨m,hn⟩
   ·obtain⟨v,q⟩:=Z.cell x c e;exact OL q.lt
   have q:=(Z.pin p hp).1;rw[z,bs]at q;cases q
  refine bN (T.item (b8 X a G Y _ F k<|upd M _<|.lst []) rfl rfl rfl an i [] s5 P H5 _ I5 (ac a9) a8 go) λr s6 ⟨u,hr,h6⟩=>?_;subst hr;refine bN h6 λ_ s7 ⟨x,H7,I7,r7,y7,am,b1⟩=>?_;have b2:=I7.pinned (ac b1)<|T.obj _ _ am;have bb:∀{t:St} {U:ab V} {H8:Hp} {s8:Od},Inv (b8 X a G Y k.heap.objs.size F k<|upd M f.heap.objs.size<|.lst []) _ t H8 s8->N t U H8->
    ∃m,m<n/\∃i L ys B,Inv _ [] L B s8/\tn i _/\(∀b∈F,B b=NZ)/\W i m L ys B:=λ{t U H8 s8} I8 n8=>by
   obtain⟨m',hm,w8⟩:=hN t U H8 n8;refine⟨m',hm,i+1,t,U,H8,I8.unpinned,T.keep _ _ _ am λb j o e=>(I8.pin _<|O9 _<|O9 _<|gS j e).1,λb j=>?_,w8⟩;obtain⟨o,e,d⟩:=T.obj _ _ am b j;exact(I8.pin _<|O9 _<|O9 _<|gS j e).2.1
  refine bN (hg _ _ _ _ _ s7 P H7 x u _ b2 r7<|step x H7 y7) λ_ s8 ⟨t,H8,I8,q8⟩=>bN (ht _ _ _ _ _ s8 t H8 _ I8 q8) λok s9 ⟨H9,I9,q9⟩=>?_;cases ok with
  |false=>exact ak<|bb I9 q9
  |true=>
   refine ap<|bN (he _ _ _ _ _ s9 t H9 _ I9 q9) λy b3 ⟨yv,bc,b4,b5,b6,b7,cc⟩=>bN (dS _ b3 t bc (.ref _) _ _ [y] (λv B=>v=.non/\B=upd bc _ _) b4 rfl (.cons b5 .nil) ⟨_,ys,yv,rfl,rfl,b6,b7,rfl,rfl⟩) λ_ ck ⟨_,co,cd,_,_,ce⟩=>?_;subst ce;exact bb cd cc
 have L1:=bt _ rfl;rw[eC]at L1;exact codeAny_compStart_list L1<|T.self _ 0 _ _ _ YH L1
theorem rA(A:X.calm=NW)(S:CompSc X a l N i)(k:PI X r u w)(n:∀C f b c,PG (b8 X a l N C f b c) r g)(t:∀C f b c,Jy (b8 X a l N C f b c) d T)
  (o:∀C f b c,PE (b8 X a l N C f b c) E p) (v:∀x,RA u X.env x=pure x:=by intro z;rfl):PE X (.ListComp E [⟨r,u,d,0⟩] a P) (tZ i w g T p):=by
 intro O s y H Q I h;refine VF rfl v S.clos S.kind S.names ?_;refine t4 A S k n t o I h ?_;intro D C B G e q;obtain⟨m,F⟩:=e.ns;exact⟨m,F,λJ j=>⟨.ref D,B,e.gone j,rfl,q⟩⟩
def t5(i:Nat)(t:TE):TS:=λD a H=>t a H λv h=>D.nx (a.set i<|gV v) h
theorem vP{l A:Pos}(T:X.N.Nodup)(U:X.N[i]?=gV x)(P:X.env.scope.names.lookup x=gV .local)(t:X.calm=NW)(S:CompSc X b v Y w)(W:PI X r u Z)
  (hg:∀C F c d,PG (b8 X b v Y C F c d) r g) (ht:∀C F c d,Jy (b8 X b v Y C F c d) k tt) (he:∀C F c d,PE (b8 X b v Y C F c d) E te)
  (y:UQ (.ListComp E [⟨r,u,k,0⟩] b p) (gV<|.Name x l) A.line X.env=pure NW) (hs:∀x,RA u X.env x=pure x:=by intro f;rfl):
  PS X (.Assign [.Name x l] (.ListComp E [⟨r,u,k,0⟩] b p) A) (t5 i<|tZ w Z g tt te):=by
 intro O s σ H D I h;rw[exec_Assign_Name_used _ _ _ _ y];refine Oa<|pz<|Oa ?_;show wpAny _ X.A _ _ _ s
 refine Oa<|Qk (VF rfl hs S.clos S.kind S.names ?_) (λf n hq=>Oq<|Oq hq) λf f e=>e;refine t4 t S W hg ht he I h ?_;intro B C j n e q;refine Yk<|pV e.inv T U (.inl P) (v:=.ref B) rfl (λG J sb=>?_)<|.inr P;obtain⟨a,o,L⟩:=sb;have N:C≠a:=by
  obtain rfl|L:=L
  ·exact e.loc
  exact λz=>e.cells _ _ L z.symm
 obtain⟨m,Q⟩:=e.ns;have e2:CompEnd X O _ j C G:=⟨J,⟨m,Q.sameBut o N⟩,e.free,e.loc,e.young,e.cells,e.pin⟩;exact⟨m,Q.sameBut o N,λh' M=>⟨_,j,e2.gone M,q⟩⟩
section
variable {K:C'}{a D:J'}{xs:ab V}{g:TG}{tt:TT}{te:TE}{σ0:St}{H1:Hp}{Q:VK}
theorem bB(Pv:Nat->St->ab V->Hp->Prop)(j:Pv 0 σ0 [] (upd H1 D<|.lst []))(k:∀i c Y H,i<=xs.length->Pv i c Y H->H D=gV (.lst Y)/\SqL K H a xs)
  (l:∀i x c Y H,xs[i]?=gV x->Pv i c Y H->g x c H λd n=>tt d n λb h=>if b=NW then te d h λy f=>f D=gV (.lst Y)/\Y.length<sizeLine/\Pv (i+1) d (Y++[y]) (upd f D<|.lst<|Y++[y])else Pv (i+1) d Y h)
  (o:∀c Y H,Pv xs.length c Y H->Q (.ref D) H):gb (AM K a) D g tt te σ0 H1 Q:=by
 exists λi m c Y H=>m=xs.length-i/\i<=xs.length/\Pv i c Y H,(by simp_all);rintro i m c Y H ⟨rfl,r,p⟩;obtain⟨t,q⟩:=k i c Y H r p;exists t;by_cases s:i<xs.length
 ·refine .inr ⟨⟨xs,xs[i],q,by simp⟩,Pv<|i+1,λu v w P=>⟨xs.length-(i+1),aac s (Ua _),rfl,s,P⟩,λx w y=>?_⟩;obtain⟨e,y⟩:=y;subst e;exact l i x c Y _ (y xs q) p
 have e:i=xs.length:=aab r (Y2 s)
 subst e;exact .inl ⟨⟨xs,q,N9 _⟩,o c Y H p⟩
theorem nY(Pv:Nat->St->ab V->Hp->Prop)(j:Pv 0 σ0 [] (upd H1 D<|.lst []))(k:∀i c Y H,i<=xs.length->Pv i c Y H->H D=gV (.lst Y)/\SqT K H a xs)
  (l:∀i x c Y H,xs[i]?=gV x->Pv i c Y H->g x c H λd n=>tt d n λb h=>if b=NW then te d h λy f=>f D=gV (.lst Y)/\Y.length<sizeLine/\Pv (i+1) d (Y++[y]) (upd f D<|.lst<|Y++[y])else Pv (i+1) d Y h)
  (o:∀c Y H,Pv xs.length c Y H->Q (.ref D) H):gb (GW K a) D g tt te σ0 H1 Q:=by
 exists λi m c Y H=>m=xs.length-i/\i<=xs.length/\Pv i c Y H,(by simp_all);rintro i m c Y H ⟨rfl,r,p⟩;obtain⟨t,q⟩:=k i c Y H r p;exists t;by_cases s:i<xs.length
 ·refine .inr ⟨⟨xs,xs[i],q,by simp⟩,Pv<|i+1,λu v w P=>⟨xs.length-(i+1),aac s (Ua _),rfl,s,P⟩,λx w y=>?_⟩;obtain⟨e,y⟩:=y;subst e;exact l i x c Y _ (y xs q) p
 have e:i=xs.length:=aab r (Y2 s)
 subst e;exact .inl ⟨⟨xs,q,N9 _⟩,o c Y H p⟩
theorem fG{lo:Int}(Pv:Nat->St->ab V->Hp->Prop)(j:Pv 0 σ0 [] (upd H1 D<|.lst []))(k:∀i c Y H,i<=n->Pv i c Y H->H D=gV (.lst Y))
  (l:∀i c Y H,i<n->Pv i c Y H->g (.int<|lo+i) c H λd o=>tt d o λb h=>if b=NW then te d h λy f=>f D=gV (.lst Y)/\Y.length<sizeLine/\Pv (i+1) d (Y++[y]) (upd f D<|.lst<|Y++[y])else Pv (i+1) d Y h)
  (q:∀c Y H,Pv n c Y H->Q (.ref D) H):gb (E1 lo n) D g tt te σ0 H1 Q:=by
 exists λi m c Y H=>m=n-i/\i<=n/\Pv i c Y H,⟨n,by simp,Oy _,j⟩;rintro i m c Y H ⟨rfl,r,p⟩;exists k i c Y H r p;by_cases s:i<n
 ·refine .inr ⟨s,Pv<|i+1,λt u v P=>⟨n-(i+1),aac s (Ua _),rfl,s,P⟩,λx v y=>?_⟩;obtain⟨e,y⟩:=y;subst e y;exact l i c Y _ s p
 have e:i=n:=aab r (Y2 s)
 subst e;exact .inl ⟨N9 _,q c Y H p⟩
end
theorem vR:∀{us:ab NX},Vals (ss.map V.str) us->StrsAre us ss:=by
 induction ss with
 |nil=>intro us r;cases r;exact .nil
 |cons n ns ih=>
  intro us r;cases r with
  |cons r1 r2=>
   obtain⟨t,e⟩:=r1;subst e;exact .cons n t<|ih r2
theorem Fz:MX X "str.join" (λx b H Q=>∃a p y,x=.str a/\b=[.ref p]/\SqL X.K H p (y.map V.str)/\(y.map (·.length)).sum+y.length*a.length<=16777216/\Q (.str<|Yq a y) H):=by
 intro O s g H x b v U Q I c d h;obtain⟨a,p,y,rfl,rfl,e,z,q⟩:=h;obtain⟨t,rfl⟩:=c;obtain⟨u,rfl,f⟩:=eT d;cases f;obtain⟨P3,r,P,w⟩:=I.list e;exact join_list P.isList (by simpa using vR r) z λT k=>⟨.str _,H,I.tok _,⟨_,rfl⟩,q⟩
noncomputable def t6:V->N'
 |.bl _=>NW
 |.non=>NW
 |_=>N8
noncomputable def ig:V->N'
 |.bl b=>b
 |_=>N8
theorem xA(r:Vals Y P3)(c:Y.all t6=NW):TruthOf p w A (λi v=>P3.toArray[i]?=gV v) (λi=>(Y[i]?).elim N8 ig):=by
 intro i v s Q E d q;have h:P3[i]?=gV v:=by simpa using d
 cases e:Y[i]? with
 |none=>
  rw[r.none_of e]at h;cases h
 |some y=>
  obtain⟨u,f,a⟩:=r.get e;rw[f]at h;cases h;have H:Q ((Y[i]?).elim N8 ig) s:=q;rw[e]at H;have g:=O2.mp c y<|N5 e;cases y with
  |bl b=>
   cases a;exact P4 H
  |non=>
   cases a;exact truthy_none H
  |_=>cases g
theorem zj(Y:ab V):(O7 Y.length).any (λi=>(Y[i]?).elim N8 ig)=Y.any ig:=by
 rw[P9];simp only[OC,QU];constructor
 ·rintro⟨i,H,h⟩;exists Y[i],Qv H;simpa[H]using h
 rintro⟨y,a,h⟩;obtain⟨i,H,rfl⟩:=RS a;exact⟨i,H,by simp_all⟩
theorem zk(Y:ab V):(O7 Y.length).all (λi=>(Y[i]?).elim N8 ig)=Y.all ig:=by
 rw[P9];simp only[O2,QU];constructor
 ·intro h y a;obtain⟨i,H,rfl⟩:=RS a;simpa[H]using h i H
 simp_all
theorem iq(c:X.calm=NW):eS X (.builtin "any") (λx H Q=>∃p y,x=[.ref p]/\SqL X.K H p y/\y.all t6=NW/\Q (.bl<|y.any ig) H):=by
 intro O s n H x U Q I r h;obtain⟨p,y,rfl,a,d,q⟩:=h;obtain⟨u,rfl,f⟩:=eT r;cases f;obtain⟨P3,v,P,z⟩:=I.list a;have l:=P.isList;obtain⟨o,g,w⟩:=id l;have j:=Ov g;refine call_any_walk<|Tj l<|⟨s.heap.objs.size,_,_,_,_,_,_,rfl,XH (A:=X.A.in1) (I.ok.hd c) _ p (OL j) _,⟨⟨_,OX _ rfl,rfl,rfl⟩,l.push _⟩,xA v d,λt T k=>?_⟩;have e:(O7 P3.toArray.size).any (λi=>(y[i]?).elim N8 ig)=y.any ig:=by
  rw[Ot,<-v.length];exact zj y
 rw[e];refine⟨.bl _,H,I.kept λb o e=>k b o ?_<|Oe _ e,rfl,q⟩;intro m;exact absurd (Ob.mp m)<|OL<|Ov e
theorem nZ(c:X.calm=NW):eS X (.builtin "all") (λx H Q=>∃p y,x=[.ref p]/\SqL X.K H p y/\y.all t6=NW/\Q (.bl<|y.all ig) H):=by
 intro O s n H x U Q I r h;obtain⟨p,y,rfl,a,d,q⟩:=h;obtain⟨u,rfl,f⟩:=eT r;cases f;obtain⟨P3,v,P,z⟩:=I.list a;have l:=P.isList;obtain⟨o,g,w⟩:=id l;have j:=Ov g;refine call_all_walk<|Tj l<|⟨s.heap.objs.size,_,_,_,_,_,_,rfl,XH (A:=X.A.in1) (I.ok.hd c) _ p (OL j) _,⟨⟨_,OX _ rfl,rfl,rfl⟩,l.push _⟩,xA v d,λt T k=>?_⟩;have e:(O7 P3.toArray.size).all (λi=>(y[i]?).elim N8 ig)=y.all ig:=by
  rw[Ot,<-v.length];exact zk y
 rw[e];refine⟨.bl _,H,I.kept λb o e=>k b o ?_<|Oe _ e,rfl,q⟩;intro m;exact absurd (Ob.mp m)<|OL<|Ov e
theorem n9:∀(l:ab NX) (s:ab Int),l.length=s.length->(∀(i:Nat) (v:NX),l[i]?=gV v->∃(k:Int) (t:Tok),s[i]?=gV k/\v=.int k t)->RQ l s
 |[],[],_,_=>.nil
 |[],_::_,h,_=>by cases h
 |_::_,[],h,_=>by cases h
 |v::l,k::s,h,f=>by
  obtain⟨a,t,E,b⟩:=f 0 v rfl;have e:=OA E;subst e b;exact .cons k t (n9 l s (by simpa using h) λi u H=>f (i+1) u<|by assumption)
theorem t7{a:Type}:∀{k:ab (a×V)} {v:ab (a×NX)} {i:Nat} {q:a×NX},KV k v->v[i]?=gV q->∃p,k[i]?=gV p/\p.1=q.1/\RelV p.2 q.2
 |_,_,_,_,.nil,e=>by cases e
 |_,_,0,_,.cons r _,e=>by
  have E:=OA e;subst E;exact⟨_,rfl,r.1,r.2⟩
 |_,_,i+1,q,.cons _ t,e=>by
  obtain⟨p,h,H⟩:=t7 t (by assumption);exact⟨p,by assumption,H⟩
theorem t9(hc:X.calm=NW):eS X (.builtin "sorted") (λF H Q=>∃p a d,F=[.ref p]/\H p=gV (.dK a)/\a.map (·.1)=d.map OK/\d.length<64/\
  ∀l w,H l=NZ->SB w d->RM (·<=·) w->Q (.ref l) (upd H l<|.lst<|Z7 V.int w)):=by
 intro G s J H F us Q I r h;obtain⟨p,a,d,rfl,hp,M,ac,q⟩:=h;obtain⟨u,rfl,ru⟩:=eT r;cases ru;obtain⟨z,hd,f,N,dd⟩:a.length<=sizeLine/\(p == QK)=N8/\∃f,KV a f/\s.heap.DictOf _ p f:=I.hok p _ hp;obtain⟨ep,j⟩:=dd.dictAt;have P1:=Paired.length N;have am:d.length=a.length:=by
  have e:=O1 P7 M;rw[B',B']at e;exact e.symm
 refine Vc Zb Yw Yz (args_sorted1 _)<|Oa<|Oq<|Oa<|Xk (YQ hd) (I.ok.hd hc) j (by simp_all) λc T g m A=>?_;have P:=A.1
 have y:RQ g.toList d:=by
  refine n9 _ _ (by simp_all) λi v hv=>?_;obtain⟨k,x,hx,B⟩:=A.2 i v (by simp_all);obtain⟨q1,C,D,S⟩:=t7 N hx;have E:(a.map (·.1))[i]?=gV k:=by rw[Ox,C];exact O1 gV D
  rw[M,Ox]at E;cases U:d[i]? with
  |none=>simp_all
  |some n=>
   rw[U]at E;have e3:=OA E;subst e3;obtain⟨t,et⟩:=Vp B;exact⟨n,t,rfl,et⟩
 refine Oa (Ue ?_<|by simp_all);have W:Inv X G J H {s with heap:=c,toks:=T}:=I.kept m;have L:(c.push<|P' "list" g.toList.toArray 0).get? _=gV _:=OX _ rfl;refine Oa<|QD<|T5 WX ⟨_,L,rfl⟩ Wl (list_sort_tree L y (by simp_all) λO w a1 Y a3=>⟨_,rfl,Oq ⟨_,rfl,?_⟩⟩)<|Z2 _;have hn:=W.hok.fresh<|N9 _;obtain⟨e,he⟩:=rk L;have I2:Inv X G J (upd H c.objs.size<|.lst<|w.map V.int) {s with heap:=Z0 (c.push<|P' "list" g.toList.toArray 0) c.objs.size g.toList O,toks:=T}:=by
  refine W.laid (λb o Z=>?_) (N9 _) ?_
  ·have hb:=Ov Z;rw[ZZ (OL hb)<|by rw[XS];exact Rb hb];exact Oe _ Z
  refine⟨?_,O.toList,e,?_,?_⟩
  ·rw[B',Y.length_eq];simp_all
  ·exact iR a1
  assumption
 exact⟨.ref _,_,I2,rfl,q _ w hn Y a3⟩
noncomputable def JA(K:C')(a:J'):It:=
 ⟨λi H=>∃X x,SqL K H a X/\X[i]?=gV x,λi H x h=>∃t v,H t=NZ/\x=.ref t/\h=upd H t (.tup [.int i,v])/\∀X,SqL K H a X->X[i]?=gV v,λi H=>∃X,SqL K H a X/\X.length<=i⟩
theorem zm{P:Om}{w:OI}{K:C'}{L:ab Px}{k1:Nat}{M:Pos}(a e t:J')(Wi:e≠t):vn P w K (.Tuple L k1 M) (JA K a) [e,t] e (λi h=>(∃O,IsEnum h e t i O)/\h.IsListIter t a i) where
 mem:=by simp
 obj:=λi h st b f=>by
  obtain⟨⟨O,g⟩,o,j,V,Q⟩:=st;obtain rfl|f:=Oz.mp f
  ·exact⟨_,g,λv z=>by
    simp_all⟩
  have e:b=t:=Ob.mp f;subst e;exact⟨o,j,λv z=>by lia⟩
 keep:=λi h h' st k=>by
  obtain⟨⟨O,g⟩,j⟩:=st;exact⟨⟨O,k e (by simp) _ g⟩,j.at λo e=>k t (by simp) o e⟩
 item:=by
  intro X T U W d i Oc s σ H E I B st Y;subst T U W;obtain⟨xs,x,G,Z⟩:=Y;obtain⟨P3,rv,p,hz⟩:=I.list G;obtain⟨u,hu,ru⟩:=rv.get Z;obtain⟨⟨O,g⟩,j⟩:=st;obtain⟨f0,f1,f2,f3,f4,f5⟩:=B e (by simp);obtain⟨g0,J,g2,g3,g4,g5⟩:=B t (by simp);refine wpAny_pyNext_enum_item g j p.isList (x:=u) (by simp_all) Wi λh' ho C ht an hk=>?_;refine⟨_,rfl,wpAny_letOwnedTupleGo_enum ho λl ac A=>?_⟩;have D:e<s.heap.objs.size:=Ov g;have Wy:t<s.heap.objs.size:=by
   obtain⟨o,q,V⟩:=j;exact Ov q
  have y:∀b o,b≠e->b≠t->s.heap.get? b=gV o->l.get? b=gV o:=λb o h3 Q q=>A.extBut b o h3<|hk b o h3 Q q;have I1:Inv X Oc σ (upd H s.heap.objs.size<|.tup [.int i,x]) {s with heap:=l,toks:=s.toks+1}:=by
   have F:H s.heap.objs.size=none:=I.hok.fresh<|N9 _;have am:l.get? _=gV {cls:=.type _,data:=.seq #[.int i _,u]}:=A.extBut _ _ (R1 D) ht;have N:∀b o,H b=gV o->b≠e/\b≠t:=λb o q=>(by lia);refine I.step (ch:=[e,t]) (λb f=>?_) (λb o V V d q V=>?_) (λb o V V d q V=>⟨o.slots,?_⟩) (λb o V q n=>?_) (λb o d q=>⟨o,?_⟩) (λb ys q=>?_) (λb ob ys q=>?_) (λb ps q=>⟨#[],?_⟩) (λm hm=>?_) (λb ob q=>?_) I.bare
   ·obtain rfl|f:=Oz.mp f
    ·exact⟨f3,f1,f4,f5⟩
    have z:=Ob.mp f;subst z;exact⟨g3,J,g4,g5⟩
   ·simp_all
   ·simp_all
   ·rwa[af<|OL<|Ov q]
   ·simp_all
   ·rwa[af<|ag q F]
   ·rwa[af<|ag q F]
   ·rw[af<|ag q F,q];simp
   ·obtain⟨o,L,ep,ho,r⟩:=hm;exact⟨o,L,ep,y _ o (P0 f1) (P0 J) ho,r⟩
   by_cases f:b=s.heap.objs.size
   ·subst f;rw[aa]at q;cases q;exact⟨by show 2<=sizeLine;decide,[.int i _,u],.cons ⟨_,rfl⟩<|.cons ru .nil,⟨_,am,rfl,_,rfl⟩⟩
   rw[af f]at q;refine(I.hok b ob q).stay (λc v d z=>?_) (λc z=>by rwa[af<|ag z F]) λc ys z=>by rwa[af<|ag z F]
   obtain d|d:=d
   ·subst d;exact y _ v (N _ _ q).1 (N _ _ q).2 z
   exact y _ v (N _ _ d).1 (N _ _ d).2 z
  refine⟨.ref _,_,I1,rfl,⟨s.heap.objs.size,x,I.hok.fresh<|N9 _,rfl,rfl,λys hy=>by rwa[I.list_inj hy G]⟩,⟨⟨u,by simpa using ac⟩,C.at λo q=>A.extBut t o (P0 Wi) q⟩,λb f=>?_⟩;have Sv:b<s.heap.objs.size:=by
   obtain rfl|f:=Oz.mp f
   ·exact D
   rwa[Ob.mp f]
  rw[af<|OL Sv];exact(B b f).1
 done:=by
  intro X T U W d i Oc s σ H E I B st Y;subst T U W;obtain⟨xs,G,Z⟩:=Y;obtain⟨P3,rv,p,hz⟩:=I.list G;obtain⟨⟨O,g⟩,j⟩:=st;obtain⟨g0,J,g2,g3,g4,g5⟩:=B t (by simp);have hl:=rv.length;exact wpAny_pyNext_enum_end (I.ok.hd d) g j p.isList (by simp;simp_all) λh' eb=>⟨rfl,I.turned (λb o f e=>eb b o f e) g0 J g3 g4 g5⟩
 self:=λV V V V V st h=>by
  obtain⟨⟨O,g⟩,V⟩:=st;exact Yj g h
def BA(f:V->Hp->Prop):ab V->Hp->Prop
 |[x],H=>f x H
 |_,_=>False
theorem jR:∀{v:ab V} {H:Hp},BA f v H->∃x,v=[x]/\f x H
 |[x],_,h=>⟨x,rfl,h⟩
def Lv(K:C')(t:TE):TI:=λb H R=>t b H λx h=>∃a,x=.ref a/\(∃X,SqL K h a X)/\R (JA K a) h
theorem FA{E:ab Px}{n:Nat}{A:Pos}{p P:Pos}(o:Gl X "enumerate")(r:X.mg "enumerate"=NZ)(t:PE X l T)(g:OS [l] X.env=[(N8,Qm l X.env)]:=by rfl):
  PI X (.Tuple E n A) (.Call (.Name "enumerate" p) [l] [] P) (Lv X.K T):=by
 intro O s j H R I h;have v:=aV t (ik) (by rw[g];rfl);refine Call_<|eF I o r boot_enumerate<|PY (bN (v P O s j H (BA _) I h) λU d ⟨L,c,i,w,Q⟩=>?_) g rfl
 obtain⟨x,e,a,y,⟨k,z⟩,q⟩:=jR Q;subst e y;obtain⟨u,rfl,B⟩:=eT w;cases B;obtain⟨P3,M,C,N⟩:=i.list z;refine call_enumerate_list C.isList λD m hit F G=>Yj m ?_;have J:Inv X O j c {d with heap:=D}:=i.kept G;refine⟨d.heap.objs.size+1,[d.heap.objs.size+1,d.heap.objs.size],_,_,c,rfl,J,zm a _ _<|Nat.succ_ne_self _,⟨⟨_,m⟩,hit⟩,λb f=>?_,q⟩;obtain rfl|f:=Oz.mp f
 ·exact i.fpOk (Te _)<|i.hok.fresh<|Te _
 rw[Ob.mp f];exact i.fpOk (N9 _)<|i.hok.fresh<|N9 _
theorem t_{K:C'}{a:J'}{X:ab V}{g:TG}{T:TS}{D:jk}{b:St}{H:Hp}(Pv:Nat->St->Hp->Prop)(j:Pv 0 b H)(l:∀i b H,i<=X.length->Pv i b H->SqL K H a X)
  (k:∀i x b H t,X[i]?=gV x->Pv i b H->H t=NZ->g (.ref t) b (upd H t<|.tup [.int i,x]) λc f=>T {D with nx:=Pv<|i+1,ct:=Pv<|i+1,bk:=D.nx} c f) (n:∀b H,Pv X.length b H->D.nx b H):
  ∃W:Nat->Nat->St->Hp->Prop,(∃m,W 0 m b H)/\∀i m b H,W i m b H->
   ((JA K a).stop i H/\D.nx b H)\/((JA K a).go i H/\∃N:St->Hp->Prop,(∀d h,N d h->∃M,M<m/\W (i+1) M d h)/\∀x h,(JA K a).yld i H x h->g x b h λc f=>T {D with nx:=N,ct:=N,bk:=D.nx} c f):=by
 exists λi m b H=>m=X.length-i/\i<=X.length/\Pv i b H,⟨X.length,by simp,Oy _,j⟩;rintro i m b H ⟨rfl,o,p⟩;have q:=l i b H o p;by_cases s:i<X.length
 ·refine .inr ⟨⟨X,X[i],q,by simp⟩,Pv<|i+1,λd h P=>⟨X.length-(i+1),aac s (Ua _),rfl,s,P⟩,λx h y=>?_⟩;obtain⟨t,v,r,rfl,rfl,y⟩:=y;exact k i v b H t (y X q) p r
 have e:i=X.length:=aab o (Y2 s)
 subst e;exact .inl ⟨⟨X,q,N9 _⟩,n b H p⟩
end L2
namespace L2
section
open PySem
theorem xB(e:X.K=K)(h:PE X l t):PI X T l (KQ K t):=by subst e;exact bA h
theorem FB(e:X.K=K):IxR X (KB K):=by subst e;exact A_
theorem dg(e:X.K=K):OpR X (PX .In) (Mw K N8):=by subst e;exact k_
theorem dJ(e:X.K=K):OpR X (PX .NotIn) (Mw K NW):=by subst e;exact gT
theorem zn(e:X.K=K):eS X (.builtin "len") (IW K):=by subst e;exact ca
end
end L2
namespace OD
open PySem L2
noncomputable def absI(i:Int):Int:=if i<0 then -i else i
theorem aX(h:0<=i):absI i=i:=by unfold absI;rw[Oo<|by simp_all]
def KE:Int->ab Int->Prop
 |_,[]=>True
 |b,l::r=>b<absI l/\KE (absI l) r
def ClOk(n:Int)(L:ab Int):Prop:=KE 0 L/\∀l∈L,absI l<=n
noncomputable def i_(c:ab Int):Og:=.tuple<|c.map .int
noncomputable def jS(t:Str)(c:ab (ab Int)):Og:=.tuple [.str t,.list<|c.map i_]
def WS(t:Str):Prop:=∀c∈t.cps.toList,c=119\/c=115
structure NT (most:Int)(t:Str)(cs:ab (ab Int)):Prop where
 len:(t.length:Int)<=most
 ws:WS t
 many:cs.length<=16
 cl:∀c∈cs,ClOk t.length c
noncomputable def dP(p:ab (Int×Int)):ab (aR×V):=p.map λq=>(OK q.1,V.int q.2)
noncomputable def pP(p:ab (Int×Int))(k s:Int):ab (Int×Int):=if(p.any λq=>decide (q.1=k))=NW then p.map (λq=>if q.1=k then(q.1,s)else q)else p++[(k,s)]
theorem JB(p:ab (Int×Int))(k:Int):((dP p).any λv=>decide (v.1=(OK k:aR)))=p.any λq=>decide (q.1=k):=by
 unfold dP;rw[R5]
 congr 1
 grind
theorem JC(p:ab (Int×Int))(k s:Int):c9 (dP p) (OK k) (V.int s)=dP (pP p k s):=by
 unfold c9 pP;rw[JB];by_cases h:(p.any λq=>decide (q.1=k))=NW
 ·rw[On h,On h];unfold dP;rw[OZ,OZ]
  congr 1
  funext q
  show(if(OK q.1)=OK k then((OK q.1),V.int s)else(OK q.1,V.int q.2))=(OK (if q.1=k then(q.1,s)else q).1,V.int (if q.1=k then(q.1,s)else q).2)
  by_cases e:q.1=k
  ·rw[On (by rw[e]),On e]
  rw[Oo λz=>e<|Qp z,Oo e]
 rw[Oo h,Oo h];unfold dP;rw[OF];rfl
theorem FC(p:ab (Int×Int)):(dP p).map (·.1)=(p.map (·.1)).map OK:=by
 unfold dP;rw[OZ,OZ];rfl
noncomputable def jf(p:ab (Int×Int))(k:Int):M' Int:=(p.find? λq=>decide (q.1=k)).map (·.2)
theorem JD(p:ab (Int×Int))(k:Int):bL (dP p) (OK k:aR)=(jf p k).map V.int:=by
 induction p with
 |nil=>rfl
 |cons q r i=>
  show bL (((OK q.1),V.int q.2)::dP r) _=_
  by_cases e:q.1=k
  ·rw[cA<|by rw[e]];simp[jf,e]
  rw[cb λz=>e<|Qp z,i];simp[jf,e]
structure DOk (n:Int)(ps:ab (Int×Int)):Prop where
 nd:(ps.map (·.1)).Nodup
 rng:∀q∈ps,1<=q.1/\q.1<=n
 sg:∀q∈ps,q.2=1\/q.2=-1
theorem DOk.nil(n:Int):DOk n []:=⟨Sr,(by simp),(by simp)⟩
theorem DOk.put(h:DOk n p)(d:1<=k/\k<=n)(c:s=1\/s=-1):DOk n (pP p k s)/\(pP p k s).length<=p.length+1:=by
 unfold pP;by_cases a:(p.any λq=>decide (q.1=k))=NW
 ·rw[On a];have e:(p.map λq=>if q.1=k then(q.1,s)else q).map (·.1)=p.map (·.1):=by
   rw[OZ]
   congr 1
   funext q
   lia
  refine⟨⟨by rw[e];exact h.nd,λq H=>?_,λq H=>?_⟩,by simp⟩
  ·obtain⟨Q,b,rfl⟩:=OH.mp H
   split
   ·exact h.rng Q b
   exact h.rng Q b
  obtain⟨Q,b,rfl⟩:=OH.mp H
  split
  ·exact c
  exact h.sg Q b
 rw[Oo a];refine⟨⟨?_,λq H=>?_,λq H=>?_⟩,by simp⟩
 ·rw[OF];refine xw h.nd λm=>a ?_;simp_all
 ·obtain z|z:=Os.mp H
  ·exact h.rng q z
  rwa[Ob.mp z]
 obtain z|z:=Os.mp H
 ·exact h.sg q z
 rwa[Ob.mp z]
noncomputable def JF(p:ab (Int×Int))(k:Int):Int:=(jf p k).getD 1
theorem DOk.look(h:DOk n p)(H:k∈p.map (·.1)):jf p k=gV (JF p k)/\(JF p k=1\/JF p k=-1):=by
 obtain⟨q,a,e⟩:=OH.mp H;unfold JF jf;cases f:p.find? _ with
 |none=>
  have:=Q3.mp f q a;exact absurd (N3 e) this
 |some z=>exact⟨rfl,h.sg z<|PV f⟩
theorem ua(H:1<=k)(h:s=1\/s=-1):absI (k*s)=k:=by
 unfold absI;obtain rfl|rfl:=h
 ·rw[Zc,Oo<|by lia]
 lia
theorem BB{f:Int->Int}:∀(s:ab Int) (b:Int),0<=b->(∀k∈s,b<k)->s.Pairwise (· < ·)->(∀k∈s,f k=1\/f k=-1)->KE b (s.map λk=>k*f k)
 |[],_,_,_,_,_=>trivial
 |k::r,b,g,H,p,h=>by
  have a:=H k Ou;have e:=ua (show 1<=k by lia)<|h k Ou;obtain⟨P,c⟩:=Qe.mp p;show b<absI _/\KE _ _
  rw[e];exact⟨a,BB r k (hI (X7 g a)) P c λz d=>h z<|Ow _ d⟩
theorem ir:∀{s:ab Int},s.Pairwise (·<=·)->s.Nodup->s.Pairwise (· < ·)
 |[],_,_=>RK
 |k::r,H,n=>by
  obtain⟨p,P⟩:=Qe.mp H;obtain⟨N,a⟩:=PJ.mp n;refine Qe.mpr ⟨λz h=>?_,ir P a⟩;have:=p z h;have:k≠z:=λe=>N<|e▸h;lia
theorem DOk.clause{n:Int}{p:ab (Int×Int)}{s:ab Int}(h:DOk n p)(a:s.Perm (p.map (·.1)))(b:s.Pairwise (·<=·)):ClOk n (s.map λk=>k*JF p k):=by
 have m:∀k∈s,k∈p.map _:=λk H=>a.mem_iff.mp H;have r:∀k∈s,1<=k/\k<=n:=λk H=>by
  obtain⟨q,c,e⟩:=OH.mp<|m k H;rw[<-e];exact h.rng q c
 refine⟨BB s 0 (Th 0) (λk H=>by have:=(r k H).1;lia) (ir b<|a.nodup_iff.mpr h.nd) λk H=>(h.look<|m k H).2,λl d=>?_⟩;obtain⟨k,H,rfl⟩:=OH.mp d;rw[ua (r k H).1 (h.look<|m k H).2];simp_all
theorem cO{n:ab Int}{i:Nat}{x:V}(h:(n.map V.int)[i]?=gV x):∃z,x=.int z/\n[i]?=gV z:=by
 cases e:n[i]? with
 |none=>simp_all
 |some z=>
  simp_all
theorem BC(n:ab Int)(lo h:M' Int):∃m:ab Int,bC (n.map V.int) lo h=m.map V.int/\m.length<=n.length:=by
 unfold bC;rw[B'];refine⟨(n.drop<|HT.sIx n.length 0 lo).take<|HT.sIx n.length n.length h-HT.sIx n.length 0 lo,?_,?_⟩
 ·simp
 rw[OB,PQ];exact O8 (T_ _ _) (hH _ _)
theorem xC(a b:Str):(a++b).cps.toList=a.cps.toList++b.cps.toList:=by
 show(a.cps++b.cps).toList=_
 simp
theorem ub(h:e.cps.toList=[]):∀a,(ZV e a).cps.toList=(a.map λs=>s.cps.toList).flatten
 |[]=>rfl
 |[x]=>by
  show x.cps.toList=_
  simp
 |x::y::r=>by
  show((x++e)++ZV e _).cps.toList=_
  rw[xC,xC,h,ub h<|y::r];simp
def n_(s:Str):Prop:=s=⟨#[119]⟩\/s=⟨#[115]⟩
theorem oe:∀{a:ab Str},(∀s∈a,n_ s)->(a.map λs=>s.cps.toList).flatten.length=a.length/\∀ch∈(a.map λs=>s.cps.toList).flatten,ch=119\/ch=115
 |[],_=>by simp
 |s::r,h=>by
  obtain⟨b,c⟩:=oe λz d=>h z<|Ow _ d;rw[OT,List.flatten_cons];obtain rfl|rfl:=h s Ou
  ·refine⟨by rw[N0,b];show 1+r.length=r.length+1;exact Nat.add_comm _ _,λch H=>?_⟩;obtain z|z:=Os.mp H
   ·exact .inl (by simpa using z)
   exact c ch z
  refine⟨by rw[N0,b];show 1+r.length=r.length+1;exact Nat.add_comm _ _,λch H=>?_⟩;obtain z|z:=Os.mp H
  ·exact .inr (by simpa using z)
  exact c ch z
theorem Lw:(N_ "").cps.toList=[]:=by rfl
theorem BD(h:∀s∈a,n_ s):(Yq "" a).length=a.length/\WS (Yq "" a):=by
 have e:Yq (N_ "") a=ZV _ a:=eq_of_beq<|YY _ a;obtain⟨b,c⟩:=oe h;have E:=ub Lw a;refine⟨?_,?_⟩
 ·rw[e];show(ZV _ a).cps.size=_
  rwa[<-OR,E]
 intro C H;rw[e,E]at H;exact c C H
theorem ql:∀{a:ab Str},(∀s∈a,n_ s)->(a.map λs=>s.length).sum=a.length
 |[],_=>rfl
 |s::r,h=>by
  rw[OT,List.sum_cons,ql λz H=>h z<|Ow _ H,OG];obtain rfl|rfl:=h s Ou
  ·show 1+_=_;exact Nat.add_comm _ _
  show 1+_=_;exact Nat.add_comm _ _
theorem Lx(h:0<=j)(H:j<2):∃c,kZ (N_ "ws").cps.toList j=gV c/\n_ ⟨#[c]⟩:=by
 obtain rfl|rfl:=(by lia:j=0\/j=1)
 ·exact⟨119,by rfl,.inl rfl⟩
 exact⟨115,by rfl,.inr rfl⟩
def CL(H:Hp)(c:ab Int)(v:V):Prop:=∃t,v=.ref t/\H t=gV (.tup<|c.map V.int)
def CLs(H:Hp):ab (ab Int)->ab V->Prop:=Paired<|CL H
theorem CL.mono(h:CL H c v)(k:Same H a):CL a c v:=let ⟨t,e,z⟩:=h;⟨t,e,k _ _ z⟩
theorem CL.upd(h:CL H c v)(a:H q=gV (.lst x)):CL (upd H q o) c v:=by
 obtain⟨t,e,z⟩:=h;exact⟨t,e,by rwa[af<|bq z a<|by intro w;cases w]⟩
theorem CLs.mono(k:Same H a):∀{c:ab (ab Int)} {x:ab V},CLs H c x->CLs a c x:=λh=>Paired.mapP h λz z h=>h.mono k
theorem CLs.upd(a:H q=gV (.lst y)):∀{c:ab (ab Int)} {x:ab V},CLs H c x->CLs (upd H q o) c x
 |_,_,.nil=>.nil
 |_,_,.cons h t=>.cons (h.upd a)<|CLs.upd a t
theorem CLs.snoc(h:CL H c v)(t:CLs H C x):CLs H (C++[c]) (x++[v]):=Paired.snoc t h
theorem CLs.length(h:CLs H c x):c.length=x.length:=Paired.length h
theorem CLs.get:∀{C:ab (ab Int)} {x:ab V} {j:Nat} {v:V},CLs H C x->x[j]?=gV v->∃c,C[j]?=gV c/\CL H c v:=by
 intro C x j v h e;change Paired _ _ _ at h;induction h generalizing j with
 |nil=>cases e
 |cons h t i=>
  cases j with
  |zero=>exact⟨_,rfl,by simp_all⟩
  |succ j=>exact i e
theorem CL.rd(h:CL H c v):RD H (i_ c) v:=by
 obtain⟨t,rfl,z⟩:=h;exact bx z<|tX c
theorem CLs.rds:∀{c:ab (ab Int)} {x:ab V},CLs H c x->dH H (c.map i_) x
 |_,_,.nil=>aM
 |_,_,.cons h t=>ai h.rd<|CLs.rds t
theorem CL.of(h:RD H (i_ c) v):CL H c v:=by
 obtain⟨a,x,rfl,b,d⟩:=al h;refine⟨a,rfl,?_⟩;rw[b];have:∀(N:ab Int) (x:ab V),dH H (N.map U0) x->x=N.map V.int:=by
  intro N
  induction N with
  |nil=>intro x r;exact bD r
  |cons n r i=>
   intro x z;obtain⟨y,Y,rfl,e,t⟩:=aj z;have E:y=.int n:=by
    assumption
   rw[E,i Y t];rfl
 rw[this c x d]
theorem CLs.of:∀{C:ab (ab Int)} {x:ab V},dH H (C.map i_) x->CLs H C x
 |[],x,h=>by
  rw[bD h];exact .nil
 |c::C,x,h=>by
  obtain⟨y,Y,rfl,a,b⟩:=aj h;exact .cons (CL.of a)<|CLs.of b
theorem FD(a:H p=gV (.tup [.str t,.ref q]))(b:H q=gV (.lst x))(h:CLs H c x):RD H (jS t c) (.ref p):=
 bx a (ai (c_ t)<|ai (f_ b h.rds) aM)
theorem fH(h:RD H (jS t c) v):∃p q x,v=.ref p/\H p=gV (.tup [.str t,.ref q])/\H q=gV (.lst x)/\CLs H c x:=by
 obtain⟨p,Y,rfl,b,d⟩:=al h;obtain⟨y,Z,rfl,a,f⟩:=aj d;obtain⟨z,w,rfl,g,i⟩:=aj f;have j:=bD i;subst j;obtain⟨q,x,rfl,k,l⟩:=eU g;have e:y=.str t:=by
  assumption
 subst e;exact⟨p,q,x,rfl,b,k,CLs.of l⟩
theorem js:∀C:ab (ab Int),P6 (C.map i_)=NW
 |[]=>rfl
 |c::r=>by
  show(P6 _&&P6 _)=NW
  rw[PySem.W.ke_canLayAll0,js r];rfl
theorem zo(h:d.canLay0=NW)(H:d.depth<=64):PP d=true:=by
 unfold PP;rw[h,N3 H];rfl
theorem jt(c:ab Int):Pe (i_ c) (.tuple [])=decide (c=[]):=by
 cases c with
 |nil=>rfl
 |cons n r=>rfl
theorem xD:∀{c:ab Int} {b:Int},0<=b->KE b c->∀l∈c,1<=absI l
 |[],_,_,_,_,h=>nomatch h
 |x::r,b,a,h,l,H=>by
  have d:=h.1;obtain rfl|H:=Oz.mp H
  ·lia
  exact xD (hI (X7 a d)) h.2 l H
theorem ClOk.pos(h:ClOk n c):∀l∈c,1<=absI l:=xD (Th 0) h.1
noncomputable def gX(l:Int)(c:ab Int):M' (ab Int):=if c.contains l=NW then NZ else gV (c.filter λo=>!decide (o=-l))
noncomputable def cL(l:Int)(c:ab (ab Int)):ab (ab Int):=c.filterMap<|gX l
noncomputable def hit(B:ab N')(l:Int):N':=match B[(absI l-1).toNat]? with
 |some b=>b == decide (0<l)
 |none=>N8
theorem eI{a:Type}{f g:a->N'}:∀{X:ab a},(∀x∈X,f x=g x)->X.any f=X.any g
 |[],_=>rfl
 |x::r,h=>by
  rw[Qu,Qu,h x Ou,eI λz H=>h z<|Ow _ H]
theorem rB(c:ab Int)(l:Int):c.any (λx=>decide (x=l))=c.contains l:=by
 rw[P9];simp
theorem aP(c:ab Int)(l:Int):gP (.int l) (c.map V.int)=c.contains l:=by
 unfold gP;rw[R5,<-rB];rfl
theorem aY(q:St)(p:V->N')(f:V->V)(E:d=NZ::q)(k:h a=gV (.tup X))(g:h D=NZ)(P:X.length<=9000)
  (t:∀x∈X,∀H R,Same h H->R (p x) H->T (gV x::q) H R)
  (o:∀x∈X,p x=NW->∀H R,Same h H->R (f x) H->r (gV x::q) H R)
  (s:Q (.ref D) (upd h D<|.lst<|(X.filter p).map f)):gb (GW K a) D (dF 0) T r d h Q:=by
 have N:=ag k g;refine nY (xs:=X) (λi b y c=>(∃l,b=l::q)/\y=((X.take i).filter p).map f/\c=upd h D (.lst y)) ⟨⟨NZ,E⟩,rfl,rfl⟩ ?_ ?_ ?_
 ·rintro i b y c z ⟨z,z,rfl⟩;exact⟨aa,SqT.of<|by rwa[af N]⟩
 ·rintro i x b y c m ⟨⟨l,rfl⟩,v,rfl⟩;have n:=N5 m;have e:X.take (i+1)=X.take i++[x]:=by rw[OJ,m];rfl
  refine t x n _ _ (ad g _) ?_;cases j:p x with
  |true=>
   refine ap<|o x n j _ _ (ad g _) ⟨aa,?_,⟨_,rfl⟩,?_,gQ⟩
   ·have:y.length<=X.length:=by
     rw[v,B'];exact O8 (O0 _ _) (by rw[OB];exact T_ _ _)
    exact cK (by lia)
   simp_all
  |false=>
   simp_all
 simp_all
theorem cM(q:St)(p:V->N')(f:V->V)(E:d=NZ::q)(k:h a=gV (.lst X))(g:h D=NZ)(P:X.length<=9000)
  (t:∀x∈X,∀H R,Same h H->R (p x) H->T (gV x::q) H R)
  (o:∀x∈X,p x=NW->∀H R,Same h H->R (f x) H->r (gV x::q) H R)
  (s:Q (.ref D) (upd h D<|.lst<|(X.filter p).map f)):gb (AM K a) D (dF 0) T r d h Q:=by
 have N:=ag k g;refine bB (xs:=X) (λi b y c=>(∃l,b=l::q)/\y=((X.take i).filter p).map f/\c=upd h D (.lst y)) ⟨⟨NZ,E⟩,rfl,rfl⟩ ?_ ?_ ?_
 ·rintro i b y c z ⟨z,z,rfl⟩;exact⟨aa,SqL.of<|by rwa[af N]⟩
 ·rintro i x b y c m ⟨⟨l,rfl⟩,v,rfl⟩;have n:=N5 m;have e:X.take (i+1)=X.take i++[x]:=by rw[OJ,m];rfl
  refine t x n _ _ (ad g _) ?_;cases j:p x with
  |true=>
   refine ap<|o x n j _ _ (ad g _) ⟨aa,?_,⟨_,rfl⟩,?_,gQ⟩
   ·have:y.length<=X.length:=by
     rw[v,B'];exact O8 (O0 _ _) (by rw[OB];exact T_ _ _)
    exact cK (by lia)
   simp_all
  |false=>
   simp_all
 simp_all
theorem uc(r:St)(f:Nat->V)(e:c=NZ::r)(g:h D=NZ)(m:n<=9000)
  (t:∀x H R,R NW H->T (gV x::r) H R)
  (j:∀i,i<n->∀H R,Same h H->R (f i) H->k (gV (.int (0+(i:Int)))::r) H R)
  (q:Q (.ref D) (upd h D<|.lst<|(O7 n).map f)):gb (E1 0 n) D (dF 0) T k c h Q:=by
 refine fG (λi a y b=>(∃d,a=d::r)/\y=(O7 i).map f/\b=upd h D (.lst y)) ⟨⟨NZ,e⟩,rfl,rfl⟩ ?_ ?_ ?_
 ·rintro i a y b z ⟨z,z,rfl⟩;exact aa
 ·rintro i a y b l ⟨⟨d,rfl⟩,v,rfl⟩;refine t _ _ _<|ap<|j i l _ _ (ad g _) ⟨aa,?_,⟨_,rfl⟩,?_,gQ⟩
  ·rw[v,B',PB];exact cK (by lia)
  rw[Rg,OF,<-v];rfl
 simp_all
theorem cB(c:ab Int)(p:Int->N')(q:V->N')(h:∀i,q (.int i)=p i):((c.map V.int).filter q).map (λx=>x)=(c.filter p).map V.int:=by
 rw[TC];rw[List.filter_map];refine O1 _<|TL λx z=>h x
theorem bo{c:ab Int}{x:V}(h:x∈c.map V.int):∃z∈c,x=.int z:=by
 obtain⟨z,H,e⟩:=OH.mp h;exact⟨z,H,e.symm⟩
theorem MB{x y:V}{A B:Prop}(h:x=y)(b:B):if(!decide (x=y))=NW then A else B:=by
 rwa[N3 h]
theorem NU:gD "tuple" "tuple"=gV true:=by rfl
theorem FE{B:ab N'}{i:Nat}{x:V}(h:(B.map V.bl)[i]?=gV x):∃b,x=.bl b/\B[i]?=gV b:=by
 cases e:B[i]? with
 |none=>simp_all
 |some z=>
  simp_all
noncomputable def ue(p:Int->N'):V->N'
 |.int z=>p z
 |_=>N8
noncomputable def ES(f:Int->V):V->V
 |.int z=>f z
 |x=>x
theorem vS{x:ab V}{f:V->V}:(x.filter λz=>NW).map f=x.map f:=by
 rw[Qz.mpr λz z=>rfl]
end OD
namespace L2
open PySem PySem.Spec PyProof.Rows
def Ni:R2:=λx y H Q=>∃(D:Og) (s:ab Og),RD H D x/\RD H (.list s) y/\D.canLay0=NW/\P6 s=NW/\D.depth<=60/\Q (.bl<|s.any λd=>Pe d D) H
theorem JG(j:X.A.units+64<Sm):OpR X (PX .In) Ni:=by
 intro O s k H x y v u Q I r a h;obtain⟨d,D,b,c,e,f,l,q⟩:=h;obtain⟨A,g⟩:=df I d x v b r;obtain⟨B,i⟩:=df I _ y u c a;refine SeqAt.in_list_reads i g f e ?_ ⟨.bl _,H,I,rfl,q⟩;have:min (SW D) _<=d.depth:=T_ _ _;lia
def mw(m:Str->M' NX)(x:Str)(v:V):Prop:=∃u,m x=gV u/\RelV v u
theorem ci(h:Gl X x)(H:mw X.mg x v)(d:(x == ("__debug__":Str))=false:=by decide):PE X (.Name x p) (tC v):=by
 obtain⟨u,a,b⟩:=H;exact EW h a b d
end L2
namespace OD
open PySem L2
noncomputable def cP(t:Str)(i:Nat):N':=decide (t.cps.toList[i]?=gV 119)
noncomputable def ao(b:N'):Str:=if b=NW then N_ "wisher" else N_ "spoiler"
theorem uf:N_ "wisher"≠N_ "spoiler":=by decide+kernel
theorem zp(h:ao a=ao b):a=b:=by
 cases a<;>cases b
 ·rfl
 ·exact absurd h.symm uf
 ·exact absurd h uf
 rfl
theorem eV(a b:N'):decide (V.str (ao a)=V.str (ao b))=decide (a=b):=by
 refine QM.mpr ⟨λh=>zp<|V.str.inj h,λh=>by rw[h]⟩
def ug(C:ab (ab Int)):Prop:=C.length<=900/\∀c∈C,c.length<=900
theorem aI(l:Int):(0<=l/\absI l=l)\/(l<0/\absI l=-l):=by
 by_cases h:l<0
 ·exact .inr ⟨h,On h⟩
 exact .inl ⟨Int.le_of_not_gt h,Oo h⟩
theorem Hn:decide (V.str ⟨#[ch]⟩=V.str (N_ "w"))=decide (ch=119):=by
 have e:N_ "w"=⟨#[119]⟩:=by rfl
 simp_all
theorem BE(h:t.cps.toList[i]?=gV ch):cP t i=decide (ch=119):=by
 unfold cP;simp_all
end OD
namespace L2
open PySem PySem.Spec PyProof.Rows
noncomputable def zq(lo:Int)(n:Nat):It:=⟨λi _=>i<n,λi H x h=>h=H/\x=.int (lo-i),λi _=>n<=i⟩
theorem uh{P:Om}{w:OI}{K:C'}{A:Px}(a:J')(lo:Int)(n:Nat):vn P w K A (zq lo n) [a] a (λi h=>WQ h a (lo+(i:Nat)*(-1)) ((n:Int)-(i:Nat)) (-1)) where
 mem:=by simp
 obj:=λi h st b c=>by
  have e:b=a:=by simpa using c
  subst e;exact⟨_,st,λv z=>by
   have Z:=z;cases Z⟩
 keep:=λi h d st k=>k a (by simp) _ st
 item:=by
  intro X g j l m i O s y H E I f st p;subst g j l;obtain⟨F,q,B,r,u,x⟩:=f a (by simp);have W:=nk (prog:=X.prog) (w:=X.w) (I.ok.hd m) a lo (-1) n;refine W.item i s _ _ p st λv d T C Q D=>?_;obtain⟨t,rfl⟩:=C;have G:Inv X O y H {s with heap:=d,toks:=T}:=I.turned (λb o c e=>D b o (by simpa using c) e) F q r u x;refine⟨_,rfl,xi Q rfl rfl (by rfl) ⟨.int<|lo-i,H,G,⟨t,?_⟩,⟨rfl,rfl⟩,Q,λb c=>(f b c).1⟩⟩;lia
 done:=by
  intro X g j l m i O s y H E I f st p;obtain⟨F,q,B,r,u,x⟩:=f a (by simp);exact V3 (I.ok.hd m) st (by have:n<=i:=p;lia) λd J=>⟨rfl,I.turned (λb o c e=>J b o c e) F q r u x⟩
 self:=λY Y Y Y Y st h=>V4 st h
theorem zr{O:ab (J'×Obj)}{a:St}{H:Hp}{s:Od}{R:It->Hp->Prop}{E:NX->Od->Prop}{lo h:Int}{t u v:Tok}{T:Nat}(I:Inv X O a H s)(c:-(2^62)<=lo)(d:lo<2^62)(f:-(2^62)<=h)(g:h<2^62)
  (q:R (zq lo (lo-h).toNat) H):wpAny (OU X.prog X.w) X.A (ZO<|.ref s.heap.objs.size) (MN X O a m R) E {s with heap:=s.heap.push {cls:=.type "range",data:=.fields #[.int lo t,.int h u,.int (-1) v]},toks:=T}:=by
 refine XA (Y_ ..) (PySem.W.small_down c d f g) ?_;have i:Inv X O a H {s with heap:=s.heap.push {cls:=.type "range",data:=.fields #[.int lo t,.int h u,.int (-1) v]},toks:=T}:=I.kept λb o e=>Oe _ e;refine⟨(s.heap.push {cls:=.type _,data:=.fields _}).objs.size,[(s.heap.push {cls:=.type _,data:=.fields _}).objs.size],_,_,H,rfl,
  i.kept λb o e=>Oe _ e,uh _ lo _,?_,λb j=>?_,q⟩
 ·have k:lo+((0:Nat))*(-1)=lo:=by simp
  have l:(((lo-h).toNat))-((0:Nat))=VT lo h (-1):=by rw[PySem.W.rangeSize_down];grind
  show WQ _ _ _ ((((lo-h).toNat))-((0:Nat))) _
  rw[k,l];exact OX _ rfl
 have e:b=(s.heap.push {cls:=.type "range",data:=.fields #[.int lo t,.int h u,.int (-1) v]}).objs.size:=by simpa using j
 subst e;exact i.fpOk (N9 _)<|i.hok.fresh<|N9 _
def Ly(t:TA):TI:=λa H R=>t a H λv h=>∃i j:Int,v=[.int i,.int j,.int (-1)]/\(-(2^62)<=i/\i<2^62/\ -(2^62)<=j/\j<2^62)/\R (zq i (i-j).toNat) h
theorem zt{X:Cx}{g:Px}{a b c:Px}{T:TA}{p P:Pos}(k:Gl X "range")(m:X.mg "range"=NZ)(l:PA X [a,b,c] T)(n:OS [a,b,c] X.env=(N8,Qm a X.env)::OS [b,c] X.env:=by rfl)(Z:(Rc P<|OS [b,c] X.env).any (·.1)=false:=by rfl):
  PI X g (.Call (.Name "range" p) [a,b,c] [] P) (Ly T):=by
 intro O s o H R I h;refine Call_<|eF I k m XT<|PY (bN (l P O s o H _ I h) λU B Y=>?_) n Z;obtain⟨C,D,u,v,Q⟩:=Y;obtain⟨i,j,e,⟨Q,w,x,y⟩,q⟩:=Q;subst e;cases v with
 |cons r d=>
  cases d with
  |cons z d=>
   cases d with
   |cons f d=>
    cases d;obtain⟨t,rfl⟩:=r;obtain⟨E,rfl⟩:=z;obtain⟨A,rfl⟩:=f;exact call_range_3 (by decide) (zr u Q w x y q) (.inl<|rfl)
theorem vT{lo:Int}{n:Nat}{g:TG}{t:TS}{D:jk}(Pv:Nat->St->Hp->Prop)(f:Pv 0 a H)
  (s:∀i a H,i<n->Pv i a H->g (.int<|lo-i) a H λb d=>t {D with nx:=Pv<|i+1,ct:=Pv<|i+1,bk:=D.nx} b d) (j:∀a H,Pv n a H->D.nx a H):
  ∃W:Nat->Nat->St->Hp->Prop,(∃m,W 0 m a H)/\∀i m a H,W i m a H->
   ((zq lo n).stop i H/\D.nx a H)\/((zq lo n).go i H/\∃N:St->Hp->Prop,(∀c h,N c h->∃M,M<m/\W (i+1) M c h)/\∀x h,(zq lo n).yld i H x h->g x a h λb d=>t {D with nx:=N,ct:=N,bk:=D.nx} b d):=by
 exists λi m a H=>m=n-i/\i<=n/\Pv i a H,⟨n,by simp,Oy _,f⟩;rintro i m a H ⟨rfl,k,p⟩;by_cases r:i<n
 ·refine .inr ⟨r,Pv<|i+1,λc h P=>⟨n-(i+1),Nat.sub_lt_sub_left r (Ua _),rfl,r,P⟩,λx h y=>?_⟩;obtain⟨e,y⟩:=y;subst e y;exact s i a _ r p
 have e:i=n:=Nat.le_antisymm k (Y2 r)
 subst e;exact .inl ⟨N9 _,j a H p⟩
end L2
namespace OD
open PySem L2
theorem fw(h:Q (a.set i<|gV v) H):dF i v a H Q:=h
noncomputable def cU(B:ab N')(v:Int)(p:N'):V:=if((B.length:Nat):Int)<v then .non else match B[(v-1).toNat]? with
 |some b=>.bl<|b == p
 |none=>.non
theorem og(h:((b.length:Nat):Int)<v):cU b v p=.non:=by
 unfold cU;rw[On h]
theorem gH(c:1<=v)(d:v<=((B.length:Nat):Int)):∃b,kZ (B.map V.bl) (v-1)=gV (.bl b)/\cU B v p=.bl (b == p):=by
 obtain⟨w,h,H⟩:=vO (x:=B.map V.bl) (i:=v-1) (by simp_all) (by rw[B'];lia);obtain⟨b,rfl,a⟩:=FE h;exists b,H;unfold cU;simp_all
theorem ui(B:ab N')(v:Int)(p:N'):cU B v p=.non\/∃b,cU B v p=.bl b:=by
 unfold cU
 split
 ·exact .inl rfl
 split
 ·exact .inr ⟨_,rfl⟩
 exact .inl rfl
theorem qm(h:1<=absI l):(cU B (absI l) (decide (0<l))=.non/\hit B l=N8)\/cU B (absI l) (decide (0<l))=.bl (hit B l):=by
 unfold cU hit;by_cases g:((B.length))<absI l
 ·rw[On g,O_<|by omega];exact .inl ⟨rfl,rfl⟩
 rw[Oo g];cases e:B[(absI l-1).toNat]? with
 |none=>exact .inl ⟨rfl,rfl⟩
 |some b=>exact .inr rfl
theorem uj(c:ab Int)(B:ab N'):((c.map<|(ES λl=>cU B (absI l) (decide (0<l)))∘V.int).all t6)=true:=by
 rw[RJ];refine O2.mpr λl z=>?_;show t6 (cU B _ _)=NW
 obtain e|⟨b,e⟩:=ui B _ _
 ·rw[e];rfl
 rw[e];rfl
theorem vU(c:ab Int)(b:ab N')(h:∀l∈c,1<=absI l):(c.map<|(ES λl=>cU b (absI l) (decide (0<l)))∘V.int).any ig=c.any (hit b):=by
 rw[R5];refine eI λl H=>?_;show ig (cU b _ _)=hit b l
 obtain⟨e,E⟩|e:=qm (h l H)
 ·rw[e,E];rfl
 rw[e];rfl
theorem zu(H:1<=v)(h:s=1\/s=-1):absI (v*s)=v/\decide (0<v*s)=decide (0<s):=by
 obtain rfl|rfl:=h
 ·rw[Zc];exact⟨aX (by lia),by lia⟩
 have e:v*-1=-v:=by simp
 rw[e];refine⟨?_,by rw[N7 (by lia)];rfl⟩;have:=aI (-v);omega
theorem gi{a b:Type}{F:a->b->Prop}:∀{x:ab a} {u:ab b} (n:Nat),Paired F x u->Paired F (x.take n) (u.take n)
 |_,_,0,_=>.nil
 |_,_,_+1,.nil=>.nil
 |_,_,n+1,.cons h t=>.cons h<|gi n t
theorem gk{a b:Type}{F:a->b->Prop}:∀{x:ab a} {u:ab b} (n:Nat),Paired F x u->Paired F (x.drop n) (u.drop n)
 |_,_,0,h=>h
 |_,_,_+1,.nil=>.nil
 |_,_,n+1,.cons _ t=>gk n t
theorem fI{a b:Type}{F:a->b->Prop}:∀{x y:ab a} {u w:ab b},Paired F x u->Paired F y w->Paired F (x++y) (u++w)
 |_,_,_,_,.nil,h=>h
 |_,_,_,_,.cons h t,g=>.cons h<|fI t g
theorem vV(x:ab V)(k:Nat):bC x NZ (gV (k:Int))=x.take k:=by
 show(x.drop 0).take (min k _-0)=_
 simp
theorem jT(x:ab V)(k:Nat):bC x (gV (k:Int)) NZ=x.drop k:=by
 show(x.drop<|min k _).take (x.length-min k _)=_
 by_cases h:k<=x.length
 ·rw[Zo h,Oi<|by simp]
 rw[Y1 (OW (Nat.lt_of_not_le h)),Rm<|N9 _,Rm (OW (Nat.lt_of_not_le h)),List.take_nil]
theorem Lz(b:N'):decide (V.str (ao b)=V.str (N_ "wisher"))=b:=by
 have z:=eV b NW;have Z:ao NW=N_ _:=rfl;simp_all
noncomputable def lp(m:Int):Int->ab Og->N'
 |_,[]=>NW
 |b,.int i::r=>if b<absI i/\absI i<=m then lp m (absI i) r else N8
 |_,_::_=>N8
noncomputable def rC(m:Int):Og->N'
 |.tuple d=>lp m 0 d
 |_=>N8
theorem zw{a:Type}{l:ab a}{i:Nat}(d:a)(h:i<l.length):l.drop i=l.getD i d::l.drop (i+1):=by
 simp_all
theorem gY(h:∀z,d≠.int z):(jr d&&!mU d)=false:=by
 cases d with
 |int z=>exact absurd rfl<|h z
 |_=>rfl
theorem uk(h:∀z,d≠.int z):lp m b (d::r)=false:=by
 cases d with
 |int z=>exact absurd rfl<|h z
 |_=>rfl
theorem oh:lp m b (.int z::r)=if b<absI z/\absI z<=m then lp m (absI z) r else false:=rfl
theorem iu(d:Og):(∃z,d=.int z)\/∀z,d≠.int z:=by
 lia
theorem aw(h:RD H (.int z) v):v=.int z:=by
 assumption
theorem aT(h:RD H (.str z) v):v=.str z:=by
 assumption
def Nice(n:Nat)(d:Og):Prop:=d.canLay0=NW/\d.depth<=n
theorem Nice.mono(h:Nice m d)(k:m<=n):Nice n d:=⟨h.1,O8 h.2 k⟩
theorem jU:∀{D:ab Og} {n:Nat},(∀d∈D,Nice n d)->P6 D=NW/\SW D<=n
 |[],_,_=>⟨rfl,Oy _⟩
 |d::D,n,h=>by
  have H:=h d Ou;have a:=jU λx b=>h x<|Ow _ b;refine⟨?_,?_⟩
  ·show(d.canLay0&&P6 D)=NW
   rw[H.1,a.1];rfl
  exact Nat.max_le.mpr ⟨H.2,a.2⟩
theorem zx(h:∀d∈D,Nice n d):Nice (n+1) (.list D):=⟨(jU h).1,QN (jU h).2⟩
theorem BF(h:∀d∈D,Nice n d):Nice (n+1) (.tuple D):=⟨(jU h).1,QN (jU h).2⟩
theorem BG(n:Nat)(i:Int):Nice n (.int i):=⟨rfl,Oy _⟩
theorem d6(n:Nat)(h:PyData.strOk x=NW):Nice n (.str x):=⟨h,Oy _⟩
theorem zy(n:Nat)(N:ab Int):∀d∈N.map U0,Nice n d:=λd h=>by
 obtain⟨i,z,rfl⟩:=OH.mp h;exact BG n i
theorem Nice.shaped(h:Nice 8 d):PP d=true:=zo h.1 (O8 h.2<|by simp)
theorem BH(C:ab (ab Int)):∀d∈C.map i_,Nice 2 d:=λd h=>by
 obtain⟨c,z,rfl⟩:=OH.mp h;exact BF<|zy 1 c
end OD
namespace L2
open PySem PySem.Spec PyProof.Rows
structure Zp (z TI TO i1 i2:J'):Prop where
 a1:TI≠z
 a2:TO≠z
 a3:i1≠z
 a4:i2≠z
 a5:TI≠TO
 a6:TI≠i1
 a7:TI≠i2
 a8:TO≠i1
 a9:TO≠i2
 b1:i1≠i2
noncomputable def KF(K:C')(a b:J'):It:=
 ⟨λi H=>∃X Y x y,SqL K H a X/\SqL K H b Y/\X[i]?=gV x/\Y[i]?=gV y,
  λi H x h=>∃t u v,H t=NZ/\x=.ref t/\h=upd H t (.tup [u,v])/\(∀X,SqL K H a X->X[i]?=gV u)/\(∀Y,SqL K H b Y->Y[i]?=gV v),
  λi H=>∃X Y,SqL K H a X/\SqL K H b Y/\(X.length<=i\/Y.length<=i)⟩
theorem ul{TI TO:J'}(D:Zp z TI TO i I)(a:IsZip h z TI TO F)(H:IsPair h TO t T)(j:h.IsListIter i L q)(k:h.IsListIter I b r)(W:h.IsList L x)(w:h.IsList b y):ZipApart z TI TO i I L b:=by
 have n:∀{c l:J'} {o:Obj} {s:Qs NX},h.get? c=gV o->o.cls≠.type "list"->h.IsList l s->l≠c:=λm p ⟨O,e,E,Z⟩ z=>by
  simp_all
 obtain⟨u,C,d,Z⟩:=j;obtain⟨v,f,g,Z⟩:=k;exact⟨D.a1,D.a2,D.a3,D.a4,D.a5,D.a6,D.a7,D.a8,D.a9,D.b1,n a (by simp) W,n H (by simp) W,n C (by rw[d];decide) W,n f (by rw[g];decide) W,n a (by simp) w,n H (by simp) w,n C (by rw[d];decide) w,n f (by rw[g];decide) w⟩
theorem BI{P:Om}{w:OI}{K:C'}{es:ab Px}{k1:Nat}{an:Pos}(a b z TI TO f g:J')(D:Zp z TI TO f g):
  vn P w K (.Tuple es k1 an) (KF K a b) [z,TI,TO,f,g] z (λi h=>IsZip h z TI TO .none/\IsPair h TI (.ref f) (.ref g)/\(∃c d,IsPair h TO c d)/\h.IsListIter f a i/\h.IsListIter g b i) where
 mem:=by simp
 obj:=λi h st c hc=>by
  obtain⟨B,J,⟨p,q,C⟩,⟨o4,F,V,e4⟩,⟨o5,G,V,e5⟩⟩:=st;simp only[Oz,QP,Ui]at hc;obtain rfl|rfl|rfl|rfl|rfl:=hc
  ·exact⟨_,B,λv y=>by cases y⟩
  ·exact⟨_,J,λv y=>by cases y⟩
  ·exact⟨_,C,λv y=>by cases y⟩
  ·exact⟨o4,F,λv y=>by lia⟩
  exact⟨o5,G,λv y=>by lia⟩
 keep:=λi h h' st k=>by
  obtain⟨B,J,⟨p,q,C⟩,F,G⟩:=st;exact⟨k z (by simp) _ B,k TI (by simp) _ J,⟨p,q,k TO (by simp) _ C⟩,F.at λo e=>k f (by simp) o e,G.at λo e=>k g (by simp) o e⟩
 item:=by
  intro X hP U hK hc i Og s σ H E I T st hg;subst hP U hK;obtain⟨xs,ys,x,y,L,M,hx,hy⟩:=hg;obtain⟨as,Y,p1,V⟩:=I.list L;obtain⟨av,Z,p2,V⟩:=I.list M;obtain⟨u1,WZ,az⟩:=Y.get hx;obtain⟨u2,aC,aF⟩:=Z.get hy;obtain⟨B,J,⟨p,q,C⟩,F,G⟩:=st;have DA:=ul D B C F G p1.isList p2.isList;refine wpAny_pyNext_zip_item DA B J C F G p1.isList p2.isList (x:=u1) (y:=u2) (by simp_all) (by simp_all) λh' g1 g2 g3 g4 g5 g6 hk=>?_;refine⟨_,rfl,wpAny_letOwnedTupleGo_zip g1 λN aL A=>?_⟩;have am:z<s.heap.objs.size:=Ov B;have a0:TO<s.heap.objs.size:=Ov C;have a1:TI<s.heap.objs.size:=Ov J;have a2:f<s.heap.objs.size:=by
   obtain⟨o,e,V⟩:=F;exact Ov e
  have a3:g<s.heap.objs.size:=by
   obtain⟨o,e,V⟩:=G;exact Ov e
  have kk:∀c o,c≠z->c≠TO->c≠f->c≠g->s.heap.get? c=gV o->N.get? c=gV o:=λc o n1 n2 n3 n4 e=>A.extBut c o n1<|hk c o n1 n2 n3 n4 e;have t:∀c o,c∉[z,TO,f,g]->s.heap.get? c=gV o->N.get? c=gV o:=λc o j e=>(by simp_all);have j:H s.heap.objs.size=none:=I.hok.fresh<|N9 _;have a4:IsPair N s.heap.objs.size u1 u2:=A.extBut _ _ (R1 am) g5;have nt:∀c o,H c=gV o->c∉[z,TO,f,g]:=λc o e O=>by
   have:c∈[z,TI,TO,f,g]:=by
    grind
   rw[(T c this).1]at e;cases e
  have I1:Inv X Og σ (upd H s.heap.objs.size<|.tup [x,y]) {s with heap:=N,toks:=s.toks}:=by
   refine I.step (g':=s.gens) (d':=s.drawn) (t':=s.toks) (ch:=[z,TO,f,g]) (λc W=>?_) (λc o V V W e V=>t c o W e) (λc o V V W e V=>⟨o.slots,t c o W e⟩) (λc o V e n=>?_) (λc o W e=>⟨o,t c o W e⟩) (λc ws e=>?_) (λc ob ws e=>?_) (λc ps e=>⟨#[],?_⟩) (λm O=>?_) (λc ob e=>?_) I.bare
   ·have l:c∈[z,TI,TO,f,g]:=by
     grind
    obtain⟨f0,f1,f2,f3,f4,f5⟩:=T c l;exact⟨f3,f1,f4,f5⟩
   ·rw[af<|OL<|Ov e];exact n
   ·rw[af<|ag e j];exact e
   ·rw[af<|ag e j];exact e
   ·rw[af<|ag e j,e];simp
   ·obtain⟨o,ac,ep,ho,r⟩:=O;have Q:∀c,c∈[z,TI,TO,f,g]->c≠X.env.locals:=λc l=>(T c l).2.1;exact⟨o,ac,ep,by grind,r⟩
   by_cases hb:c=s.heap.objs.size
   ·subst hb;rw[aa]at e;cases e;exact⟨by show 2<=sizeLine;decide,[u1,u2],.cons az<|.cons aF .nil,⟨_,a4,rfl,_,rfl⟩⟩
   rw[af hb]at e;refine(I.hok c ob e).stay (λd v u y=>?_) (λd y=>by rw[af<|ag y j];exact y) λd ws y=>by rw[af<|ag y j];exact y
   obtain u|u:=u
   ·subst u;exact t _ v (nt _ _ e) y
   exact t _ v (nt _ _ u) y
  refine⟨.ref s.heap.objs.size,_,I1,rfl,⟨s.heap.objs.size,x,y,j,rfl,rfl,λws U=>by rw[I.list_inj U L];exact hx,λws U=>by rw[I.list_inj U M];exact hy⟩,⟨aL,A.extBut _ _ D.a1<|hk _ _ D.a1 D.a5 D.a6 D.a7 J,⟨_,_,A.extBut _ _ D.a2 g2⟩,g3.at λo e=>A.extBut f o D.a3 e,g4.at λo e=>A.extBut g o D.a4 e⟩,λc W=>?_⟩;have RH:c<s.heap.objs.size:=by
   simp only[Oz,QP,Ui]at W;obtain rfl|rfl|rfl|rfl|rfl:=W
   ·exact am
   ·exact a1
   ·exact a0
   ·exact a2
   exact a3
  rw[af<|OL RH];exact(T c W).1
 done:=by
  intro X hP U hK hc i Og s σ H E I T st hg;subst hP U hK;obtain⟨xs,ys,L,M,hx⟩:=hg;obtain⟨as,Y,p1,V⟩:=I.list L;obtain⟨av,Z,p2,V⟩:=I.list M;obtain⟨B,J,⟨p,q,C⟩,F,G⟩:=st;have DA:=ul D B C F G p1.isList p2.isList;have l1:=Y.length;have l2:=Z.length;refine wpAny_pyNext_zip_end (I.ok.hd hc) DA B J C F G p1.isList p2.isList ?_ λh' hk=>⟨rfl,?_⟩
  ·simp_all
  have t:∀c o,c∉[z,TO,f,g]->s.heap.get? c=gV o->h'.get? c=gV o:=λc o j e=>(by simp_all);have nt:∀c o,H c=gV o->c∉[z,TO,f,g]:=λc o e O=>by
   have:c∈[z,TI,TO,f,g]:=by
    grind
   rw[(T c this).1]at e;cases e
  refine I.step (g':=s.gens) (d':=s.drawn) (t':=s.toks) (ch:=[z,TO,f,g]) (λc W=>?_) (λc o V V W e V=>t c o W e) (λc o V V W e V=>⟨o.slots,t c o W e⟩) (λc o V e n=>n) (λc o W e=>⟨o,t c o W e⟩) (λc ws e=>e) (λc ob ws e=>e) (λc ps e=>⟨#[],by rw[e];simp⟩) (λm O=>?_) (λc ob e=>?_) I.bare
  ·have l:c∈[z,TI,TO,f,g]:=by
    grind
   obtain⟨f0,f1,f2,f3,f4,f5⟩:=T c l;exact⟨f3,f1,f4,f5⟩
  ·obtain⟨o,ac,ep,ho,r⟩:=O;have Q:=λc l=>(T c l).2.1;exact⟨o,ac,ep,by grind,r⟩
  refine(I.hok c ob e).stay (λd v u y=>?_) (λd y=>y) λd ws y=>y;obtain u|u:=u
  ·subst u;exact t _ v (nt _ _ e) y
  exact t _ v (nt _ _ u) y
 self:=λV V V V V st h=>YL st.1 h
def LA(f:V->V->Hp->Prop):ab V->Hp->Prop
 |[x,y],H=>f x y H
 |_,_=>False
theorem BJ:∀{v:ab V} {H:Hp},LA f v H->∃x y,v=[x,y]/\f x y H:=by
 intro v H h;cases v with
 |nil=>cases h
 |cons x v=>
  cases v with
  |nil=>cases h
  |cons y v=>
   cases v with
   |nil=>exact⟨x,y,rfl,h⟩
   |cons=>cases h
def Nj(K:C')(t T:TE):TI:=λc H R=>t c H λx d=>T c d λy h=>∃a b,x=.ref a/\y=.ref b/\(∃X,SqL K h a X)/\(∃Y,SqL K h b Y)/\R (KF K a b) h
theorem vW{E:ab Px}{J:Nat}{A:Pos}{p P:Pos}(L:Gl X "zip")(M:X.mg "zip"=NZ)(Q:PE X l T)(U:PE X m tm)(z:OS [l,m] X.env=[(N8,Qm l X.env),(N8,Qm m X.env)]:=by rfl)(Z:OS [m] X.env=[(N8,Qm m X.env)]:=by rfl):
  PI X (.Tuple E J A) (.Call (.Name "zip" p) [l,m] [] P) (Nj X.K T tm):=by
 intro O s B H R I h;have ha:=aV Q (aV U (ik)<|by rw[Z];rfl) (by rw[z,Z]);refine Call_ (eF I L M boot_zip<|PY (bN (ha P O s B H (LA _) I h) λus d V=>?_) (by rw[z,Z])<|by rw[Z];rfl);obtain⟨vs,f,g,r1,q1⟩:=V;obtain⟨x,y,e,a,b,ex,ey,⟨C,k⟩,⟨Y,o⟩,q⟩:=BJ q1;subst e ex ey;obtain⟨u1,u2,rfl,r,t⟩:=GY r1;cases r;cases t;obtain⟨ac,am,u,S⟩:=g.list k;obtain⟨an,as,v,S⟩:=g.list o;refine call_zip_2 u.isList v.isList λh' G g2 g3 g4 g5 g6 hk=>YL G ?_;have I2:Inv X O B f {d with heap:=h'}:=g.kept hk;have F:∀n,pM X O f (d.heap.objs.size+n):=λn=>g.fpOk (Ub _ _)<|g.hok.fresh<|Ub _ _;have N:∀i j,i≠j->d.heap.objs.size+i≠d.heap.objs.size+j:=λi j w e=>w<|Nat.add_left_cancel e;have D:Zp (d.heap.objs.size+4) (d.heap.objs.size+2) (d.heap.objs.size+3) (d.heap.objs.size+0) (d.heap.objs.size+1):=⟨N _ _ (by decide),N _ _ (by decide),N _ _ (by decide),N _ _ (by decide),N _ _ (by decide),N _ _ (by decide),N _ _ (by decide),N _ _ (by decide),N _ _ (by decide),N _ _<|by decide⟩;refine⟨d.heap.objs.size+4,_,_,_,f,rfl,I2,BI a b _ _ _ _ _ D,⟨G,g2,⟨_,_,g3⟩,g4,g5⟩,λc W=>?_,q⟩;simp only[Oz,QP,Ui]at W;obtain rfl|rfl|rfl|rfl|rfl:=W
 ·exact F 4
 ·exact F 2
 ·exact F 3
 ·exact F 0
 exact F 1
end L2
namespace OD
open PySem L2
noncomputable def aK(t:Str)(h:N'):ab Int:=((O7 t.length).filter λi=>cP t i == h).map λ(i:Nat)=>(i:Int)+1
end OD
namespace L2
open PySem
theorem FF{X:Cx}(e:X.K=K){E:ab Px}{k n:Nat}{p:Pos}{t:GV}(c:X.calm=NW)(h:IH X E t)(a:(S7 E X.env).length=n:=by rfl)(H:(S7 E X.env).findIdx? (·.1)=none:=by rfl):PG X (.Tuple E k p) (KM K n t):=by
 subst e;exact AS c h a H
end L2
namespace HT
open PySem PyProof.Rows
theorem getItem_tuple_by{Q:NX->Od->Prop}{lo st:Int}{n:Nat}(H:PyProof.Rows.IsTup s.heap t i)(a:s.TypeIs (.ref b) "slice")
  (l:∀{A:PL} {E:NX->Od->Prop} (d:Int×Int×Nat->Od->Prop),d (lo,st,n) s->wpAny (OU p w) A (Sq (.ref b)<|pure (i.size:Int)) d E s)
  (e:(lo == 0&&st == 1&&n == i.size)=NW->Q (.ref t) s)
  (f:(lo == 0&&st == 1&&n == i.size)=N8->n<=sizeLine/\Q (.ref s.heap.objs.size) {s with heap:=s.heap.push {cls:=.type "tuple",data:=.seq ((O7 n).filterMap λ(k:Nat)=>i[(lo+(k:Int)*st).toNat]?).toArray}}):
  wpAny (OU p w) A (UH (.ref t)<|.ref b) Q E s:=by
 unfold UH
 try with_reducible refine QD ?_
 refine Oa<|Yi H.typeIs (by rfl) ?_;refine Oa<|VP H.typeIs QX<|T5 QX H.typeIs Xm ?_<|XU _ _;refine Oa (m:=U3<|.ref t)<|ry H<|Oa<|UG a<|Oa<|l _ ?_;show wpAny _ _ (if(lo == 0&&st == 1&&n == i.size)=NW then _ else _) _ _ s
 cases c:(lo == 0&&st == 1&&n == i.size)with
 |true=>
  exact Oa<|Oa<|UG H.typeIs<|Oq<|Oa<|RL<|Oq ⟨_,rfl,Oq<|e c⟩
 |false=>
  obtain⟨z,q⟩:=f c;have h:sizeOk (.seq ((O7 n).filterMap λ(k:Nat)=>i[(lo+(k)*st).toNat]?).toArray):=by
   show((O7 n).filterMap _).toArray.size<=sizeLine
   exact O8 (List.length_filterMap_le _ _) (by simp_all)
  first
   |exact Oa<|QA (Oq ⟨_,rfl,Oq q⟩) h
   |exact Oa<|QA _ h
   |exact Oa<|Oa<|QA _ h
end HT
namespace L2
open PySem PySem.Spec PyProof.Rows
def LB(K:C'):V->M' Int->M' Int->Hp->VK->Prop:=λx lo h H Q=>∃a X,x=.ref a/\SqT K H a X/\
 ((HT.sIx X.length 0 lo=0/\HT.sIx X.length X.length h=X.length)->Q (.ref a) H)/\(¬(HT.sIx X.length 0 lo=0/\HT.sIx X.length X.length h=X.length)->∀p,H p=NZ->Q (.ref p) (upd H p<|.tup<|bC X lo h))
theorem FG:Mu X (LB X.K):=by
 intro O s k H x v l m lo i n Q I g d p u h;obtain⟨a,b,rfl,j,q,o⟩:=h;by_cases w:HT.sIx b.length 0 lo=0/\HT.sIx b.length b.length i=b.length
 ·cases g;obtain⟨P,r,t,B⟩:=I.tuple j;have y:P.toArray.size=b.length:=r.length.symm
  exists "tuple",_,PyProof.Rows.slot_tuple_getitem.lookup,t.typeIs;obtain⟨os,f,z,Z⟩:=id d;have e:(((HT.sIx P.toArray.size 0 lo):Int) == 0&&(1:Int) == 1&&(HT.sIx P.toArray.size P.toArray.size i-HT.sIx P.toArray.size 0 lo) == P.toArray.size)=true:=by
   simp_all
  refine HT.getItem_tuple_by t ⟨os,f,z⟩ (λC A=>HT.sliceApplied_gen d p u A) (λZ=>⟨.ref a,H,I,rfl,q w⟩) λc=>?_;rw[e]at c;cases c
 exact I_ O s k H _ v l m lo i n Q I g d p u ⟨a,b,rfl,j,w,o w⟩
theorem fJ{K:C'}(e:X.K=K):eS X (.type "tuple") (λx H Q=>∃p y,x=[.ref p]/\((SqL K H p y/\∀l,H l=NZ->Q (.ref l) (upd H l<|.tup y))\/(SqT K H p y/\Q (.ref p) H))):=by
 subst e;exact bK
end L2
namespace L2
open PySem
@[irreducible] def PEi (X:Cx) (e:Px) (t:TE):Prop:=PE X e t
@[irreducible] def PAi (X:Cx) (es:ab Px) (t:TA):Prop:=PA X es t
end L2
namespace KA
open PySem PyProof.Rows
def But(H h:Pd)(a k:J'):Prop:=∀b o,b≠a->b≠k->H.get? b=gV o->h.get? b=gV o
theorem But.upA(k:But c h a d)(f:Obj->Obj):But c (h.update a f) a d:=λb o H e q=>(Pz _ _<|P0 H).trans<|k b o H e q
theorem But.upK(k:But d h a c)(f:Obj->Obj):But d (h.update c f) a c:=λb o e H q=>(Pz _ _<|P0 H).trans<|k b o e H q
theorem Ho{st:PM}(m:But q s.heap a k)(N:s.heap.get? k=gV (P' "list" r e))(t:s.heap.get? a=gV (P' "list" #[] f))(b:k≠a)
  (g:RQ r.toList z) (Q:z.length=v.length) (u:v.length<64) (p:(Pc st).Perm (r.zip v.toArray)) (x:SortedTo (Pc st) (Pc st).size) (l:Q0 st=NZ)
  (h:∀h' T o c,But q h' a k->h'.get? a=gV (P' "list" o c)->hQ N8 z v o.toList->P (.done<|.ret .none) {s with heap:=h',toks:=T}):
  wpAny (OU i w) A (ksk_tail a N8 f (.ref k) st) P E s:=by
 have H:r.size=v.length:=by
  have y:=g.length;simp_all
 have F:(Pc st).size=v.length:=by rw[p.size_eq,Xz,H,Ot,L0]
 have n:(s.heap.update k<|Qx λZ=>(#[]:Qs NX)).get? a=gV (P' "list" #[] f):=(Pz _ _ b).trans t;obtain⟨C,d⟩:∃C,((s.heap.update k (Qx λZ=>(#[]:Qs NX))).update a (Qx λZ=>(Pc st).map (·.2))).get? a=gV (P' "list" ((Pc st).map (·.2)) C):=
  ⟨_,Uw n λZ=>(Pc st).map (·.2)⟩
 unfold ksk_tail
 try dsimp only
 refine Oa<|SO N rfl ?_ (by rw[H,Qj];exact OW (Pf u (by decide)))<|Oy _;refine Oa<|Vj ?_;refine Oa<|WY n rfl ?_;refine Oa (SO n rfl ?_ (Oy _)<|by simp only[Q6,Ti,q7];rw[F,Qj];exact OW (Pf u (by decide)));rw[l];simp only[Yh,Q6,Ti];have j:=ksk_out (b:=N8) g p x;simp only[Q6,Ti]at j;exact Oq<|h _ _ _ C ((m.upK _).upA _) d j
theorem Nk(p:But x s.heap a g)(n:s.heap.get? g=gV (P' "list" r e))(N:s.heap.get? a=gV (P' "list" #[] y))(f:g≠a)
  (k:RQ r.toList m) (q:m.length=v.length) (H:v.length<64)
  (h:∀h' T o c,But x h' a g->h'.get? a=gV (P' "list" o c)->hQ N8 m v o.toList->P (.done<|.ret .none) {s with heap:=h',toks:=T}):
  wpAny (OU t w) A (ksk_end a N8 v.toArray y (.ref g) r) P E s:=by
 have z:r.size=v.length:=by
  have B:=k.length;simp_all
 have b:(r.zip v.toArray).size=v.length:=by simp_all
 unfold ksk_end
 try dsimp only
 by_cases d:v.toArray.size<2
 ·rw[On d,On d];refine Ho (st:=U4 _ (r.zip _) #[] 7 NZ) p n N f k q H (Zx _) ?_ rfl h;intro i j C D;grind
 rw[Oo d,Oo d];rw[ksk_kind k<|by simp_all];refine Oa<|Oq ?_;refine Oa (Qk (wpS_sortRuns (st:=U4 _ _ #[] 7 NZ)
  (Q:=λl Q=>(Pc Q).Perm _/\Q0 Q=NZ/\SortedTo (Pc Q) _)
  (ksk_intKeys k) ⟨Zx _,rfl,rfl,rfl⟩ (by simp_all) (by rwa[b]) λQ F G I=>⟨F,G,I⟩) ?_ λl l e=>e)
 rintro⟨⟨⟩,Q⟩ M ⟨rfl,u,J,L⟩
 exact Ho p n N f k q H u (by rwa[u.size_eq]) J h
theorem LC{f:NX}(L:But G s.heap a g)(M:s.heap.get? g=gV (P' "list" #[] 0))(O:s.heap.get? a=gV (P' "list" #[] I))(m:g≠a)
  (Q:z.length=l.length) (u:l.length<64)
  (y:∀(i:Nat) (v:NX) (k:Int),l[i]?=gV v->z[i]?=gV k->∀(h:Pd) (d:Nat) (R:NX->Od->Prop),(∀t T,R (.int k T) {s with heap:=h,toks:=t})->
   wpAny (OU p w) A (call f [v]) R (λ_ _=>False) {s with heap:=h,toks:=d})
  (h:∀h' d o c,But G h' a g->h'.get? a=gV (P' "list" o c)->hQ N8 z l o.toList->P (.done<|.ret .none) {s with heap:=h',toks:=d}):
  wpAny (OU p w) A (ksk_rest a f N8 l.toArray I<|.ref g) P E s:=by
 refine Oa<|RL ?_
 first
  |rw[List.forIn_toArray]
  |(simp only )
  |rw[<-X9]
 refine Oa (ksk_fold (λi B=>∃h' d b e,B={s with heap:=h',toks:=d}/\But G h' a g/\h'.get? g=gV (P' _ b e)/\h'.get? a=gV _/\RQ b.toList (z.take i)) l 0 s
  ⟨s.heap,s.toks,#[],0,rfl,L,M,O,by simpa using IntsAre.nil⟩ ?step ?done)
 case step=>
  rintro j x B J ⟨h',d,b,e,rfl,F,n,N,H⟩;simp only[Sz]at H ⊢;have hj:=(N4.mp J).1;obtain⟨k,q⟩:∃k,z[j]?=gV k:=⟨_,N1 (by lia)⟩;have hz:b.size<=l.length:=by
   have U:=H.length;grind
  refine Oa<|pw<|Qk (y j x k J q h' d (λv r=>∃t T,v=.int k T/\r={s with heap:=h',toks:=t}) λt T=>⟨t,T,rfl,rfl⟩) (λv r W=>?_) λ_ _ X=>X.elim;obtain⟨t,T,rfl,rfl⟩:=W
  obtain⟨C,D⟩:∃C,(h'.update g (Qx _)).get? g=gV _:=⟨_,Uw n (·.push _)⟩;have Y:z.take (j+1)=z.take j++[k]:=by rw[OJ,q];simp
  have Z:(b.push<|Td k T).toList=b.toList++[Td k T]:=by simp
  refine Oa (SO n rfl (Oq ⟨rfl,_,_,b.push<|.int k T,C,rfl,F.upK _,D,(Pz _ _ m).trans N,by rw[Z,Y];exact ksk_snoc H⟩) (by rw[Qj];lia)<|O8 (Tw (Array.size_push ..))<|by rw[Qj];lia)
 case done=>
  rintro B ⟨h',d,b,e,rfl,F,n,N,H⟩;have UR:RQ b.toList z:=by
   grind
  exact Oa<|Yy n rfl<|Nk F n N m UR Q u h
theorem tree_{f:NX}(g:s.heap.get? a=gV (P' "list" d.toArray n))(Q:z.length=d.length)(j:d.length<64)
  (l:∀(i:Nat) (v:NX) (k:Int),d[i]?=gV v->z[i]?=gV k->∀(h:Pd) (t:Nat) (R:NX->Od->Prop),(∀T r,R (.int k r) {s with heap:=h,toks:=T})->
   wpAny (OU p w) A (call f [v]) R (λZ Z=>False) {s with heap:=h,toks:=t})
  (h:∀h' t O c,(∀b o,b≠a->s.heap.get? b=gV o->h'.get? b=gV o)->h'.get? a=gV (P' "list" O c)->hQ N8 z d O.toList->P (.done<|.ret .none) {s with heap:=h',toks:=t}):
  wpAny (OU p w) A (ksk_tree a f N8) P E s:=by
 have u:=Ov g;obtain⟨m,H⟩:∃m,(s.heap.update a (Qx λZ=>(#[]))).get? a=gV _:=⟨_,Uw g _ ⟩;have e:((s.heap.update a (Qx λZ=>(#[]))).push (P' "tuple" d.toArray 0)).objs.size=s.heap.objs.size+1:=by rw[XS,YW]
 refine Oa<|Yy g rfl<|Oa<|SO g rfl ?_ (by rw[Ot,Qj];exact OW (Pf j (by decide)))<|Oy _;refine Oa<|WY H rfl<|Oa<|ZK (Oa<|Ue (QD ?_)<|Oy _) (by show d.length<=_;rw[Qj];exact OW (Pf j (by decide)));refine LC (s:={s with heap:=((s.heap.update a<|Qx _).push<|P' _ _ 0).push<|P' _ #[] 0}) (g:=((s.heap.update a<|Qx _).push<|P' _ _ 0).objs.size)
  (λb o x F q=>Oe _<|Oe _<|(Pz _ _<|P0 x).trans q) (OX _ rfl) (Oe _<|Oe _ H) (by rw[e];exact R1<|Rb u) Q j l
  λh' t O c y B C=>h h' t O c (λb o D q=>y b o D (by rw[e];exact OL<|Rb<|Ov q) q) B C
end KA
namespace L2
open PySem PySem.Spec PyProof.Rows
theorem BK(i:RQ s n)(k:hQ N8 (n.map g) s o):∃E,RQ o E/\E.Perm n/\(E.map g).Pairwise (·<=·):=by
 obtain⟨P,H,e,f⟩:=k;have Q:=i.length;have a:∀p,p∈(n.map g).zip s->p.1=g (j' p.2)/\p.2∈s:=by
  rw[<-i.nums,OZ,List.zip_map_left];intro p H;obtain⟨⟨u,v⟩,j,rfl⟩:=OH.mp H;have b:u=v/\u∈s:=Wb j;refine⟨?_,?_⟩
  ·show g _=g (j' v)
   rw[b.1]
  rw[<-b.1];exact b.2
 have I:=intsAre_map _ λv l=>by
  obtain⟨p,h,rfl⟩:=OH.mp l;exact i.all _ (a p<|H.mem_iff.mp h).2
 have m:((P.map W2).map j').Perm n:=by
  have b:=(H.map W2).map j';rwa[Y4 (by simp_all),i.nums]at b
 exists (P.map W2).map j',by rwa[e],m;rw[Pq,Pq,Pq];refine f.imp_of_mem λ{p q} h d r=>?_;have c:p.1<=q.1:=by assumption
 rwa[(a p<|H.mem_iff.mp h).1,(a q<|H.mem_iff.mp d).1]at c
theorem zA{Q:VK}(I:Inv X m w H s)(A:SqL X.K H p (N.map V.int))(B:N.length<64)
  (q:∀(l:J') (E:ab Int),H l=NZ->E.Perm N->(E.map OD.absI).Pairwise (·<=·)->Q (.ref l) (upd H l<|.lst<|E.map V.int)):
  wpAny (OU X.prog X.w) X.A (call (.builtin "sorted") [.ref p] [(N_ "key",.builtin "abs")]) (EP X m w Q) X.xe s:=by
 obtain⟨a,C,P,hz⟩:=I.list A;have g:=jp C;have D:a.length=N.length:=W1 g;refine call_function_entry_kw Zb Yw Yz (ksk_s1 _ _) ?_;unfold Builtin.«sorted»;refine Oa (m:=ZQ "sorted" 1 1 _)<|Oq ?_;refine Oa (collect_list P.isList ?_<|by simp_all);refine Oa (Ue ?_<|by simp_all);have z:((s.heap.push<|P' "list" #[] 0).update s.heap.objs.size (Qx (·++a.toArray))).objs.size=s.heap.objs.size+1:=by
  rw[YW,XS]
 have L:(((s.heap.push<|P' "list" #[] 0).update s.heap.objs.size (Qx (·++a.toArray))).push<|P' "list" a.toArray 0).get? (s.heap.objs.size+1)=gV (P' "list" a.toArray 0):=by
  rw[<-z];exact OX _ rfl
 have d:∀b o,s.heap.get? b=gV o->(((s.heap.push<|P' "list" #[] 0).update s.heap.objs.size (Qx (·++a.toArray))).push<|P' "list" a.toArray 0).get? b=gV o:=λb o q=>by
  have r:b<s.heap.objs.size:=Ov q;rw[Ys _ _ _ (by rw[z];exact OL<|Rb r),Heap.get?_update_ne _ _ _ _<|OL r,Ys _ _ _<|OL r];exact q
 show wpAny _ _ _ _ _ {s with heap:=((s.heap.push<|P' "list" #[] 0).update s.heap.objs.size (Qx (·++a.toArray))).push<|P' "list" a.toArray 0}
 rw[z];refine Oa<|QD<|wpAny_call_entry_kw WX ⟨_,L,rfl⟩ Wl ?body (ksk_l1 _ _)
 case body=>
  show wpAny (OU X.prog X.w) X.A.in1.in1 (Builtin.«list.sort» ⟨[.ref<|s.heap.objs.size+1],_⟩) _ _ _
  rw[ksk_t4];refine KA.tree_ (z:=N.map OD.absI) (s:={s with heap:=((s.heap.push<|P' "list" #[] 0).update s.heap.objs.size (Qx (·++a.toArray))).push<|P' "list" a.toArray 0}) L (by rw[B',D]) (by simp_all) (λi v k F f h T R G=>?_) λJ T O c M U W=>⟨_,rfl,?_⟩
  ·obtain⟨t,rfl⟩:=IntsAre.int_at g i v F;rw[Ox]at f;cases e:N[i]? with
   |none=>rw[e]at f;simp at f
   |some n=>
    rw[e]at f;have Y:gV _=gV k:=f;cases Y;have Z:N.getD i 0=n:=by simp_all
    rw[Z];exact Xv λu j=>G j u
  refine Oq ⟨_,rfl,?_⟩;obtain⟨E,i1,x,i3⟩:=BK g W;have I2:Inv X m w (upd H (s.heap.objs.size+1)<|.lst<|E.map V.int) {s with heap:=J,toks:=T}:=by
   refine I.laid (λb o y=>?_) (Te _) ?_
   ·have hb:=Ov y;exact M b o (OL<|Rb hb)<|d b o y
   refine⟨?_,O.toList,c,iR i1,by simpa using U⟩;rw[B',x.length_eq];simp_all
  exact⟨.ref<|s.heap.objs.size+1,_,I2,rfl,q _ E (I.hok.fresh<|Te _) x i3⟩
end L2
namespace KX
open PySem PyProof.Rows
theorem zB(a v:NX):PySem.argsOk "max" ⟨[a],[(N_ "default",v)]⟩:=by rfl
section
variable {R:ZW->Od->Prop}{St:Nat->Pd->Prop}
theorem LD(W:Walks p w A.in1 I O G n P St)(B:Nat->Nat->N')(C:CmpOf p w A.in1 .Gt P B)(S:J')(r:S∉O):
  ∀k j s f c,n-(j+1)=k->j+1<=n->St (j+1) s.heap->P (UI B j) f->
  s.heap.get? S=gV {cls:=.type "list",dict:=NZ,data:=.seq #[f,f] c,slots:=#[]}->
  (∀v h' y,P (UI B<|n-1) v->(∀b o,b∉G->b≠S->s.heap.get? b=gV o->h'.get? b=gV o)->R (.ok<|.ret v) {s with heap:=h',toks:=y})->
  codeAny (OU p w) A (.builtin "max.loop" ⟨[.ref I,.none,.ref S],Z⟩) R s:=by
 have u:S∉G:=λh=>r<|W.sub _ h;have Q:(toString "max"++toString ".loop":Sa)="max.loop":=by rfl
 intro k
 induction k with
 |zero=>
  intro j s f c X Y l g x z;have J:j+1=n:=by lia
  refine SU VS ?_;rw[RE Rr _];show wpAny _ A.in1 (kL (.ref S) >>=_) _ _ s
  refine Oa<|UW x rfl ?_;show wpAny _ A.in1 (tryCatch (XC<|.ref I) _ >>=_) _ _ s
  refine Oa<|Sk<|W.done s _ _ (J▸l) λh' y U=>?_;have d:=U S _ u x;show wpAny _ A.in1 (updateSeq S (λV=>#[]) >>=_) _ _ _
  refine Oa ?_;refine Wj d rfl<|Oa<|Vj<|Oq ?_;refine z f _ y (by rw[<-J];exact g) λb o H a e=>(Pz _ _<|P0 a).trans<|U b o H e
 |succ k L=>
  intro j s f c X Y l g x z;have D:j+1<n:=by omega
  refine SU VS ?_;rw[RE Rr _];show wpAny _ A.in1 (kL (.ref S) >>=_) _ _ s
  refine Oa<|UW x rfl ?_;show wpAny _ A.in1 (tryCatch (XC<|.ref I) _ >>=_) _ _ s
  refine Oa<|Sk<|W.item (j+1) s _ _ D l λv h' y M i U=>?_;have d:=U S _ u x;show wpAny _ A.in1 (tryCatch (Vl [v,v]<|richCompare .Gt v f >>=_) _ >>=_) _ _ _
  refine Oa<|Sk<|QD<|Oa<|C (j+1) (UI B j) v f _ _ _ M g ?_;refine Oa<|QD<|P4 ?_;refine Oa<|Vj<|Oq ?_;cases N:B _ _ with
  |true=>
   simp only ;refine Oa<|Wj d rfl<|Oa<|Vj ?_;refine Oq ⟨SH Rr _,L _ _ v _ (by omega) D (W.frame _ _ _ i λb E o e=>?_) (by simp only[UI,N];exact M) (TU _ d rfl)
    λF m t q T=>?_⟩
   ·exact(Pz _ _ λh:S=b=>by simp_all).trans e
   ·exact z F m t q λb o H a e=>T b o H a<|(Pz _ _<|P0 a).trans<|U b o H e
  |false=>
   simp only[Q6];refine Oa<|Vj ?_;refine Oq ⟨SH Rr _,L _ _ f c (by omega) D i (by simp only[UI,N,Q6];exact g) d λF m t q T=>?_⟩;exact z F m t q λb o H a e=>T b o H a<|U b o H e
theorem JH(W:Walks p w A.in1 I F r n P St)(B:Nat->Nat->N')(l:CmpOf p w A.in1 .Gt P B)(S:J')(f:S∉F){d:NX}{D:Str}{c:Nat}(g:St 0 s.heap)
  (C:s.heap.get? S=gV {cls:=.type "list",dict:=NZ,data:=.seq #[] c,slots:=#[]})
  (E:0<n->∀v h' t,P (UI B<|n-1) v->(∀b o,b∉r->b≠S->s.heap.get? b=gV o->h'.get? b=gV o)->R (.ok<|.ret v) {s with heap:=h',toks:=t})
  (G:n=0->∀h' t,(∀b o,b∉r->b≠S->s.heap.get? b=gV o->h'.get? b=gV o)->R (.ok<|.ret d) {s with heap:=h',toks:=t}):
  codeAny (OU p w) A (.builtin "max.loop" ⟨[.ref I,.none,.ref S],[(D,d)]⟩) R s:=by
 have m:S∉r:=λh=>f<|W.sub _ h;have Q:(toString "max"++toString ".loop":Sa)="max.loop":=by rfl
 refine SU VS ?_;rw[RE Rr _];show wpAny _ A.in1 (kL (.ref S) >>=_) _ _ s
 refine Oa<|UW C rfl ?_;show wpAny _ _ (tryCatch _ _ >>=_) _ _ s
 by_cases q:0<n
 ·refine Oa<|Sk<|W.item 0 s _ _ q g λv h' t J i U=>?_;have j:=U S _ m C;show wpAny _ _ (updateSeq S _ >>=_) _ _ _
  refine Oa<|Wj j rfl ?_;refine Oq ⟨SH Rr _,LD W B l S f _ 0 _ v _ rfl q (W.frame _ _ _ i λb u o e=>?_) J (TU _ j rfl) λL x T y z=>?_⟩
  ·exact(Pz _ _ λh:S=b=>by simp_all).trans e
  exact E q L x T y λb o H a e=>z b o H a<|(Pz _ _<|P0 a).trans<|U b o H e
 have k:0=n:=by simp_all
 refine Oa<|Sk<|W.done s _ _ (k▸g) λh' t U=>?_;exact Oa<|RL<|Oq<|G k.symm h' t λb o H a e=>U b o H e
end
theorem LF{x d:NX}{Q:NX->Od->Prop}
  (h:wpAny (OU p w) A.in1 (ZO x) (λy a=>∃I f r n P St B,y=.ref I/\Walks p w A.in1 I f r n P St/\St 0 a.heap/\(∀b∈f,b<a.heap.objs.size)/\CmpOf p w A.in1 .Gt P B/\
   (0<n->∀v h' t,P (UI B<|n-1) v->(∀b o,b∉r->a.heap.get? b=gV o->h'.get? b=gV o)->Q v {a with heap:=h',toks:=t})/\
   (n=0->∀h' t,(∀b o,b∉r->a.heap.get? b=gV o->h'.get? b=gV o)->Q d {a with heap:=h',toks:=t})) E s):
  wpAny (OU p w) A (call (.builtin "max") [x] [(N_ "default",d)]) Q E s:=by
 refine kmk_tree F.kind_max F.plain_max F.entry_max (zB _ _) ?_;refine Oa<|PySem.wpAny_of_eq rfl<|Oa<|Oq<|Oa<|Qk h (λy a c=>?_) λg g e=>e;obtain⟨I,f,r,n,P,St,B,rfl,W,i,j,k,z,l⟩:=c;refine Oa<|QA ?_;have m:=λC=>QR _<|j _ C;refine Oq ⟨SH Rr _,JH W B k _ m (W.frame _ _ _ i λb g o e=>Oe _ e) (OX _ rfl) (λq v h' t D u=>?_) λq h' t u=>?_⟩
 ·exact z q v h' t D λb o H e=>u b o H (OL<|Ov e)<|Oe _ e
 exact l q h' t λb o H e=>u b o H (OL<|Ov e)<|Oe _ e
theorem max_listD{d:NX}{Q:NX->Od->Prop}(c:A.handled=NZ)(f:s.heap.IsList l (Sl x))
  (h:0<x.size->∀v h' t,(Sl x)[UI (λi j=>decide (ip x i>ip x j)) (x.size-1)]?=gV v->(∀b o,s.heap.get? b=gV o->h'.get? b=gV o)->Q v {s with heap:=h',toks:=t})
  (g:x.size=0->∀h' t,(∀b o,s.heap.get? b=gV o->h'.get? b=gV o)->Q d {s with heap:=h',toks:=t}):
  wpAny (OU p w) A (call (.builtin "max") [.ref l] [(N_ "default",d)]) Q E s:=by
 refine LF<|iter_intList f λa e st H I=>?_;subst e;refine⟨_,_,_,_,_,_,_,rfl,XH (A:=A.in1) c _ l I<|Sl x,st,H,CmpOf.ints_gt _ λz z=>intItems_at,λn v h' t P k=>?_,λn h' t k=>?_⟩
 ·exact h (by simpa[Sl]using n) v h' t (by simpa[Sl]using P)<|old_kept k
 exact g (by simpa[Sl]using n) h' t<|old_kept k
end KX
namespace L2
open PySem PySem.Spec PyProof.Rows
theorem um(H:RQ s n)(e:s.toArray=Sl x)(g:0<x.size)(b:(Sl x)[UI (λi j=>decide (ip x i>ip x j)) (x.size-1)]?=gV v):∃M t,v=.int M t/\M∈n/\∀a∈n,a<=M:=by
 have h:x.toList.map (·.1)=n:=by
  rw[<-nums_intItems,<-e];exact H.numsOf
 obtain⟨t,rfl⟩:=intItems_at b;obtain⟨k,c⟩:=argBest_gt (ip x)<|x.size-1;refine⟨_,t,rfl,?_,λa d=>?_⟩
 ·rw[numAt_eq,h];exact getD_mem (by grind)
 obtain⟨j,f,rfl⟩:=mem_getD d;rw[<-h,B',OR]at f;have:=c j (by lia);rwa[numAt_eq,h]at this
def Nl(K:C'):ab V->Hp->VK->Prop:=λx H Q=>∃(p:J') (n:ab Int),x=[.ref p]/\SqL K H p (n.map V.int)/\n≠[]/\∀M,M∈n->(∀a∈n,a<=M)->Q (.int M) H
theorem zC(c:X.calm=NW):eS X (.builtin "max") (Nl X.K):=by
 intro O s o H x w Q I r h;obtain⟨p,N,rfl,a,U,q⟩:=h;obtain⟨u,rfl,b⟩:=eT r;cases b;obtain⟨z,d,P,A⟩:=I.list a;have i:=jp d;obtain⟨y,e⟩:=i.allInts.items;have l:=P.isList;rw[e]at l;have n:0<y.size:=by
  have f:(Sl y).size=y.size:=by simp[Sl]
  rw[<-f,<-e,Ot,W1 i];exact Xp.mpr U
 refine max_intList (I.ok.hd c) l n λv B T g k=>?_;obtain⟨M,t,rfl,m,j⟩:=um i e n g;exact⟨.int M,H,I.kept k,⟨t,rfl⟩,q M m j⟩
def BL(K:C'):V->V->Hp->VK->Prop:=λx d H Q=>∃(p:J') (n:ab Int),x=.ref p/\SqL K H p (n.map V.int)/\(n=[]->Q d H)/\∀M,M∈n->(∀a∈n,a<=M)->Q (.int M) H
def LG(K:C')(t T:TE):TE:=λa H Q=>t a H λx h=>T a h λd b=>BL K x d b Q
theorem FH{P z o:Pos}(A:X.calm=NW)(b:Gl X "max")(c:X.mg "max"=NZ)(B:PE X e C)(D:PE X E T)
  (f:OS [e] X.env=[(N8,Qm e X.env)]:=by rfl):
  PE X (.Call (.Name "max" P) [e] [⟨gV "default",E,z⟩] o) (LG X.K C T):=by
 intro O s g H Q I h;refine Qd<|eF I b c Wu<|VH (bN (aV B (ik) (by rw[f];rfl) o O s g H (BA _) I h) λus F ⟨G,j,J,L,k⟩=>?_) (by rw[f];rfl) (by rw[f];rfl) rfl rfl;obtain⟨x,N,l⟩:=jR k;subst N;obtain⟨u,rfl,U⟩:=eT L;refine Wt<|bN (D O F g j _ J l) λW s2 ⟨d,a,i,Y,Z⟩=>W0 ?_;obtain⟨p,ns,rfl,hq,q0,q⟩:=Z;cases U;obtain⟨G,rv,pl,hz⟩:=i.list hq;have m:=jp rv;obtain⟨y,e⟩:=m.allInts.items;have r:=pl.isList;rw[e]at r;have ac:y.size=ns.length:=by
  have l:(Sl y).size=y.size:=by simp[Sl]
  rw[<-l,<-e,Ot,W1 m]
 show wpAny _ _ _ _ _ _
 refine KX.max_listD (i.ok.hd A) r (λw v h' tk hv n=>?_) λw h' tk n=>?_
 ·obtain⟨M,t,rfl,m1,m2⟩:=um m e w hv;exact⟨.int M,a,i.kept n,⟨t,rfl⟩,q M m1 m2⟩
 exact⟨d,a,i.kept n,Y,q0<|Qn.mp<|by lia⟩
def om(K:C'):V->Hp->VK->Prop:=λx H Q=>∃(p:J') (n:ab Int),x=.ref p/\SqL K H p (n.map V.int)/\n.length<64/\
 ∀(l:J') (X:ab Int),H l=NZ->X.Perm n->(X.map OD.absI).Pairwise (·<=·)->Q (.ref l) (upd H l<|.lst<|X.map V.int)
def BN(K:C')(t:TE):TE:=λa H Q=>t a H λx h=>om K x h Q
theorem oo{P m n j:Pos}(a:Gl X "sorted")(b:X.mg "sorted"=NZ)(c:Gl X "abs")(d:X.mg "abs"=NZ)(o:PE X e t)
  (f:OS [e] X.env=[(N8,Qm e X.env)]:=by rfl):
  PE X (.Call (.Name "sorted" P) [e] [⟨gV "key",.Name "abs" m,n⟩] j) (BN X.K t):=by
 intro O s r H Q I h;refine Qd<|eF I a b Ur<|VH (bN (aV o (ik) (by rw[f];rfl) j O s r H (BA λx k=>om X.K x k Q) I h) λU z Z=>?_) (by rw[f];rfl) (by rw[f];rfl) rfl rfl;obtain⟨A,k,l,v,g⟩:=Z;obtain⟨x,E,p,N,rfl,w,i,q⟩:=jR g;subst E;obtain⟨u,rfl,y⟩:=eT v;cases y;exact Wt<|eF l c d TY<|W0<|zA l w i q
end L2
namespace OD
open PySem L2
noncomputable def dW(f s:ab Int)(v:Int):N':=(f.filter λl=>!decide (absI l=v)).any λl=>s.contains (-l)
noncomputable def gI(f s:ab Int)(v:Int):ab Int:=(f++s.filter λl=>!f.contains l).filter λl=>!decide (absI l=v)
def Ups(c:ab Int):Prop:=(c.map absI).Pairwise (· < ·)
def Joins(f s:ab Int)(v:Int)(r:ab Int):Prop:=Ups r/\∀l,l∈r↔(l∈f\/l∈s)/\absI l≠v
theorem gJ(h:absI a=absI b):a=b\/b=-a:=by
 obtain⟨z,e⟩|⟨z,e⟩:=aI a<;>obtain⟨z,E⟩|⟨z,E⟩:=aI b<;>lia
theorem Ups.tail(h:Ups (x::c)):Ups c:=(Qe.mp h).2
theorem Ups.head(h:Ups (x::c)):∀l∈c,absI x<absI l:=λl H=>(Qe.mp h).1 _<|Qy H
theorem Ups.inj(h:Ups c)(f:a∈c)(g:b∈c)(e:absI a=absI b):a=b:=by
 induction c with
 |nil=>cases f
 |cons x c I=>
  obtain i|d:=Oz.mp f
  ·obtain E|H:=Oz.mp g
   ·rw[i,E]
   have:=h.head b H;simp_all
  obtain E|H:=Oz.mp g
  ·have:=h.head a d;simp_all
  exact I h.tail d H
theorem Ups.nodup(h:Ups c):c.Nodup:=(Pq.mp h).imp λ{a b} H e=>by simp_all
theorem jV:∀{a b:ab Int},Ups a->Ups b->(∀l,l∈a↔l∈b)->a=b
 |[],[],_,_,_=>rfl
 |[],y::b,_,_,h=>absurd ((h y).mpr Ou) (by simp)
 |x::a,[],_,_,h=>absurd ((h x).mp Ou) (by simp)
 |x::a,y::b,c,d,h=>by
  have e:x=y:=by
   obtain z|z:=Oz.mp ((h x).mp Ou)
   ·exact z
   obtain w|w:=Oz.mp ((h y).mpr Ou)
   ·exact w.symm
   have:=d.head x z;have:=c.head y w;lia
  subst e;rw[jV c.tail d.tail λz=>?_];constructor
  ·intro H;obtain w|w:=Oz.mp ((h z).mp<|Ow _ H)
   ·have:=c.head z H;simp_all
   exact w
  intro H;obtain w|w:=Oz.mp ((h z).mpr<|Ow _ H)
  ·have:=d.head z H;simp_all
  exact w
theorem Joins.uniq(h:Joins f s v a)(h':Joins f s v b):a=b:=jV h.1 h'.1 λl=>(h.2 l).trans (h'.2 l).symm
theorem eX:l∈gI f s v↔(l∈f\/l∈s)/\absI l≠v:=by
 unfold gI;grind
theorem uo(h:dW f s v=N8)(H:l∈f)(a:absI l≠v):-l∉s:=λb=>by
 have:dW f s v=true:=OC.mpr ⟨l,Oj.mpr ⟨H,by rw[N7 a];rfl⟩,by simpa using b⟩;simp_all
theorem BO(H:Ups f)(c:Ups s)(h:dW f s v=N8)(d:a∈gI f s v)(g:b∈gI f s v)(e:absI a=absI b):a=b:=by
 obtain⟨A,i⟩:=eX.mp d;obtain⟨B,j⟩:=eX.mp g;obtain A|A:=A<;>obtain B|B:=B
 ·exact H.inj A B e
 ·obtain z|z:=gJ e
  ·exact z
  exact absurd (z▸B)<|uo h A i
 ·obtain z|z:=gJ e.symm
  ·exact z.symm
  exact absurd (z▸A)<|uo h B j
 exact c.inj A B e
theorem vX(H:Ups f)(c:Ups s):(gI f s v).Nodup:=by
 refine Ss _<|Qa.mpr ⟨H.nodup,Ss _ c.nodup,?_⟩;grind
theorem rD:∀{r:ab Int},(r.map absI).Pairwise (·<=·)->r.Nodup->(∀a∈r,∀b∈r,absI a=absI b->a=b)->Ups r
 |[],_,_,_=>.nil
 |x::r,h,n,i=>by
  obtain⟨d,f⟩:=Qe.mp h;obtain⟨N,g⟩:=PJ.mp n;refine Qe.mpr ⟨λz H=>?_,rD f g λa j b k=>i a (Ow _ j) b<|Ow _ k⟩;obtain⟨y,c,rfl⟩:=OH.mp H;have:=d _ H;have l:=λe=>N<|i x Ou y (Ow _ c) e▸c;lia
theorem uq(H:Ups f)(c:Ups s)(d:dW f s v=N8)(h:r.Perm (gI f s v))(o:(r.map absI).Pairwise (·<=·)):Joins f s v r:=
 ⟨rD o (h.nodup_iff.mpr<|vX H c) λa g b i e=>BO H c d (h.mem_iff.mp g) (h.mem_iff.mp i) e,λl=>h.mem_iff.trans eX⟩
noncomputable def eZ(t:Str)(h:N')(c:ab Int):Int:=((c.filter λl=>!(cP t (absI l-1).toNat == h)).map absI).foldl max 0
noncomputable def aq(t:Str)(h:N')(c:ab Int):ab Int:=c.filter λl=>decide (absI l<=eZ t h c)
theorem iS:∀(n:ab Int) (b:Int),(b<=n.foldl max b/\∀a∈n,a<=n.foldl max b)/\(n.foldl max b=b\/n.foldl max b∈n)
 |[],b=>by simp
 |x::r,b=>by
  obtain⟨⟨e,d⟩,H⟩:=iS r<|max b x;rw[S1];refine⟨⟨by lia,λa c=>?_⟩,?_⟩
  ·obtain rfl|c:=Oz.mp c
   ·lia
   exact d a c
  grind
theorem BP{n:ab Int}{M:Int}(f:∀a∈n,0<=a)(h:M∈n\/M=0)(H:∀a∈n,a<=M)(b:0<=M):n.foldl max 0=M:=by
 obtain⟨⟨A,c⟩,d⟩:=iS n 0;have:n.foldl max 0<=M:=by
  obtain e|e:=d
  ·simp_all
  exact H _ e
 have:M<=n.foldl max 0:=by
  obtain h|h:=h
  ·exact c _ h
  rwa[h]
 lia
theorem dv:z∈aK t w↔1<=z/\z<=(t.length:Int)/\cP t (z-1).toNat=w:=by
 unfold aK;rw[OH];constructor
 ·rintro⟨i,a,rfl⟩;obtain⟨h,H⟩:=Oj.mp a;have:=QU.mp h;exact⟨by lia,by lia,by simpa using H⟩
 rintro⟨h,H,b⟩;refine⟨(z-1).toNat,Oj.mpr ⟨QU.mpr (by omega),?_⟩,by lia⟩;rw[b];exact YK _
theorem FI(H:1<=absI l)(b:absI l<=(t.length:Int)):(aK t (!h)).contains (absI l)=!(cP t (absI l-1).toNat == h):=by
 cases g:cP t _ == h with
 |true=>
  cases z:(aK t _).contains _ with
  |false=>rfl
  |true=>
   have Z:=(dv.mp<|by simpa using z).2.2;simp_all
 |false=>
  have G:cP t (absI l-1).toNat=!h:=by
   cases a:cP t _<;>cases h<;>simp_all
  have:=dv.mpr ⟨H,b,G⟩;simp_all
noncomputable def bW(f s:ab Int)(v:Int):ab Int:=(gI f s v).mergeSort λa b=>decide (absI a<=absI b)
theorem dX(H:Ups f)(d:Ups s)(g:dW f s v=N8):Joins f s v (bW f s v):=by
 refine uq H d g (SD _ _) ?_;have h:=Tf (le:=λa b:Int=>decide (absI a<=absI b)) (by lia) (by lia)<|gI f s v;rw[Pq];exact h.imp λ{a b} e=>by simp_all
theorem Joins.eq(H:Ups f)(a:Ups s)(b:dW f s v=N8)(h:Joins f s v r):r=bW f s v:=h.uniq<|dX H a b
noncomputable def aH(m:Nat):Og->M' Nat
 |.int z=>if 0<=z/\z<(m:Int)then gV z.toNat else NZ
 |_=>NZ
theorem aA(h:aH m d=gV i):i<m/\d=.int (i:Int):=by
 cases d with
 |int z=>
  have H:(if 0<=z/\z<(m)then gV _ else NZ)=gV i:=h
  grind
 |_=>cases h
noncomputable def my(w:Str):Og->N'
 |.str x=>decide (x=w)
 |_=>N8
theorem ur(d:Og)(w:Str):Pe d (.str w)=my w d:=by
 cases d with
 |str x=>
  rfl
 |_=>rfl
noncomputable def formB(w:Str)(n:Nat):Og->N'
 |.tuple d=>decide (d.length=n)&&my w (d.getD 0 .none)
 |_=>N8
def au(n:Nat)(c:ab Int):Prop:=Ups c/\∀l∈c,1<=absI l/\absI l<=(n:Int)
noncomputable def gK(t:Str)(h:N')(s:ab (ab Int))(d:Og):M' (ab Int):=(aH s.length d).map λi=>aq t h<|s.getD i []
noncomputable def e_(t:Str)(h:N')(f s:ab Int)(z:Int):N':=(aK t (!h)).contains z&&(f.contains z&&(s.contains (-z)&&!dW f s z))
noncomputable def d9(t:Str)(h:N')(s:ab (ab Int))(d D a:Og):M' (ab Int):=
 match aH s.length d,aH s.length D,a with
 |some i,gV j,.int z=>if e_ t h (s.getD i []) (s.getD j []) z=NW then gV (bW (s.getD i []) (s.getD j []) z)else NZ
 |_,_,_=>NZ
def RV(H:Hp)(o:M' (ab Int))(v:V):Prop:=
 match o with
 |none=>v=.non
 |some c=>CL H c v
theorem xE:∀{c:ab Int} {n b:Int},Ups c->(∀l∈c,b<absI l/\absI l<=n)->(c.length:Int)<=max 0 (n-b)
 |[],n,b,_,_=>by simp;omega
 |x::c,n,b,h,g=>by
  have G:=g x Ou;have i:=xE h.tail λl H=>⟨h.head l H,(g l<|Ow _ H).2⟩;grind
theorem bv(h:au n c):c.length<=n:=by
 have:=xE (b:=0) h.1 λl H=>⟨by have:=(h.2 l H).1;lia,(h.2 l H).2⟩;simp_all
noncomputable def ut(c:ab Int)(C:ab (ab Int)):N':=C.all λk=>c.any λl=>k.contains l
noncomputable def zD:Og->Int
 |.int z=>z
 |_=>0
noncomputable def mz:Og->ab Int
 |.tuple d=>d.map zD
 |_=>[]
noncomputable def mB(n:Nat)(c:ab (ab Int))(d:Og):M' (ab Int):=if(rC (n:Int) d&&ut (mz d) c)=NW then gV (mz d)else NZ
noncomputable def fK:Og->Nat->Og
 |.tuple d,i=>d.getD i .none
 |_,_=>.none
noncomputable def aU:Str:=N_ "given"
noncomputable def bP:Str:=N_ "hits"
noncomputable def bi:Str:=N_ "join"
noncomputable def aB:Str:=N_ "drop"
noncomputable def ju(c:ab (ab Int))(d:Og):M' (ab Int):=(aH c.length d).map λi=>c.getD i []
noncomputable def aO(t:Str)(c:ab (ab Int))(h:N')(s:ab (ab Int))(d:Og):M' (ab Int):=
 if(!h&&formB aU 2 d)=NW then ju c (fK d 1)
 else if(h&&formB bP 2 d)=NW then mB t.length c (fK d 1)
 else if formB bi 4 d=NW then d9 t h s (fK d 1) (fK d 2) (fK d 3)
 else if formB aB 2 d=NW then gK t h s (fK d 1)
 else NZ
noncomputable def bQ(t:Str)(C:ab (ab Int))(h:N')(s:ab (ab Int)):ab Og->ab (ab Int)×N'
 |[]=>(s,NW)
 |d::r=>match aO t C h s d with
  |none=>(s,N8)
  |some c=>bQ t C h (s++[c]) r
theorem uu:∀{d:ab Og} {n b:Int},lp n b d=NW->d=(d.map zD).map U0/\Ups (d.map zD)/\∀l∈d.map zD,b<absI l/\absI l<=n
 |[],_,_,_=>⟨rfl,.nil,λ_ h=>nomatch h⟩
 |e::d,n,b,h=>by
  obtain⟨z,rfl⟩|c:=iu e
  ·rw[oh]at h
   split at h
   ·rename_i f;obtain⟨g,i,a⟩:=uu h;refine⟨?_,Qe.mpr ⟨λy j=>?_,i⟩,λl H=>?_⟩
    ·rw[OT,OT,<-g];rfl
    ·obtain⟨l,H,rfl⟩:=OH.mp j;exact(a l H).1
    obtain rfl|H:=Oz.mp H
    ·exact f
    have:=a l H;lia
   simp_all
  rw[uk c]at h;cases h
theorem xF{n:Nat}{d:Og}(h:rC (n:Int) d=NW):d=i_ (mz d)/\au n (mz d):=by
 cases d with
 |tuple D=>
  obtain⟨H,a,b⟩:=uu h;refine⟨?_,a,λl c=>?_⟩
  ·show Sw D=.tuple ((D.map zD).map _)
   rw[<-H]
  ·have:=b l c;assumption
 |_=>cases h
theorem xG:∀{c:ab Int} {n b:Int},Ups c->(∀l∈c,b<absI l/\absI l<=n)->lp n b (c.map .int)=NW
 |[],_,_,_,_=>rfl
 |x::c,n,b,h,g=>by
  rw[OT,oh,On<|g x Ou];exact xG h.tail λl H=>⟨h.head l H,(g l<|Ow _ H).2⟩
theorem FJ(h:au n c):rC (n:Int) (i_ c)=true:=xG h.1 λl H=>⟨by have:=(h.2 l H).1;lia,(h.2 l H).2⟩
theorem FK(c:ab Int):(c.map U0).map zD=c:=by
 rw[OZ];exact List.map_id c
theorem BQ(c:ab Int):mz (i_ c)=c:=FK c
theorem eO{n:Nat}{C:ab (ab Int)}(h:∀c∈C,au n c){i:Nat}(H:i<C.length):au n (C.getD i []):=by
 simp_all
theorem gL(h:au n c):au n (aq t w c):=
 ⟨Pq.mpr<|Ss _<|Pq.mp h.1,λl H=>h.2 l (Oj.mp H).1⟩
theorem ou(h:au n f)(H:au n s)(a:dW f s v=N8):au n (bW f s v):=by
 obtain⟨b,c⟩:=dX h.1 H.1 a;exact⟨b,λl d=>((c l).mp d).1.elim (h.2 l)<|H.2 l⟩
theorem BR(H:∀c∈s,au n c)(h:gK t w s d=gV c):au n c:=by
 unfold gK at h;cases e:aH _ d with
 |none=>rw[e]at h;cases h
 |some i=>
  rw[e]at h;cases h;exact gL<|eO H (aA e).1
theorem BS(a:∀c∈s,au n c)(h:d9 t w s d D b=gV c):au n c:=by
 unfold d9 at h;cases e:aH s.length d with
 |none=>simp_all
 |some i=>
 cases E:aH s.length D with
 |none=>simp_all
 |some j=>
 rw[e,E]at h;cases b with
 |int z=>
  have H:(if e_ t w _ _ z=NW then gV _ else NZ)=gV c:=h
  split at H
  ·rename_i g;cases H;unfold e_ at g;refine ou (eO a (aA e).1) (eO a (aA E).1) ?_;lia
  simp_all
 |_=>cases h
theorem BU(a:∀c∈C,au t.length c)(H:∀c∈s,au t.length c)(h:aO t C w s d=gV c):au t.length c:=by
 unfold aO at h
 split at h
 ·unfold ju at h;cases e:aH _ _ with
  |none=>rw[e]at h;cases h
  |some i=>
   rw[e]at h;cases h;exact eO a (aA e).1
 split at h
 ·unfold mB at h
  split at h
  ·rename_i g;cases h;rw[OO]at g;exact(xF g.1).2
  simp_all
 split at h
 ·exact BS H h
 split at h
 ·exact BR H h
 simp_all
theorem gn(a:∀c∈C,au t.length c):∀{D:ab Og} {s:ab (ab Int)},(∀c∈s,au t.length c)->∀c∈(bQ t C w s D).1,au t.length c
 |[],s,h=>h
 |d::r,s,h=>by
  show∀c∈(match aO t C w s d with|none=>(s,N8)|some c=>bQ t C w (s++[c]) r).1,au _ c
  cases e:aO t C w s d with
  |none=>exact h
  |some c=>
   refine gn a λz H=>?_;obtain H|H:=Os.mp H
   ·exact h z H
   rw[Ob.mp H];exact BU a h e
theorem lq{d:Og}:∀{D:ab Og} {s o:ab (ab Int)},bQ t C H s D=(o,NW)->
  bQ t C H s (D++[d])=match aO t C H o d with|none=>(o,N8)|some c=>(o++[c],NW)
 |[],s,o,h=>by
  cases h;rfl
 |e::r,s,o,h=>by
  have a:(match aO t C H s e with|none=>(s,N8)|some c=>bQ t C H _ r)=(o,NW):=h;show(match aO t C H s e with|none=>(s,N8)|some c=>bQ t C H _<|r++[d])=_
  cases g:aO t C H s e with
  |none=>simp_all
  |some c=>
   rw[g]at a;exact lq a
theorem d_(h:formB w n d=NW):∃D,d=.tuple D/\D.length=n:=by
 cases d with
 |tuple D=>
  have H:(decide _&&my w _)=true:=h;rw[OO]at H;exact⟨D,rfl,Oh H.1⟩
 |_=>cases h
theorem uv{n:Nat}:∀{c:ab Int} {b:Int},KE b c->Ups c/\∀l∈c,b<absI l
 |[],_,_=>⟨.nil,λz h=>nomatch h⟩
 |x::c,b,h=>by
  obtain⟨d,a⟩:=uv (n:=n) h.2;refine⟨Qe.mpr ⟨λy e=>?_,d⟩,λl H=>?_⟩
  ·obtain⟨l,H,rfl⟩:=OH.mp e;exact a l H
  obtain rfl|H:=Oz.mp H
  ·exact h.1
  have:=a l H;have:=h.1;lia
theorem mD:∀{a:ab Og} {s:ab (ab Int)},bQ t C h s (a++b)=if(bQ t C h s a).2=NW then bQ t C h (bQ t C h s a).1 b else bQ t C h s a
 |[],s=>rfl
 |d::a,s=>by
  show(match aO t C h s d with|none=>(s,N8)|some c=>bQ t C h _<|a++b)=if(match aO t C h s d with|none=>(s,N8)|some c=>bQ t C h _ a).2=NW then bQ t C h (match aO t C h s d with|none=>(s,N8)|some c=>bQ t C h _ a).1 b else(match aO t C h s d with|none=>(s,N8)|some c=>bQ t C h _ a)
  cases e:aO t C h s d with
  |none=>rfl
  |some c=>exact mD
theorem FL(h:bQ t C H [] (D.take i)=(s,NW))(a:D[i]?=gV d)(l:aO t C H s d=NZ):bQ t C H [] D=(s,N8):=by
 have e:D=D.take i++d::D.drop (i+1):=by
  obtain⟨b,rfl⟩:=N4.mp a;simp
 rw[e,mD,h];show(match aO t C H s d with|none=>(s,N8)|some c=>bQ t C H _<|D.drop<|i+1)=_
 rw[l]
theorem uw{t:Str}{C:ab (ab Int)}{H:N'}{D:ab Og}{s:ab (ab Int)}{i:Nat}{d:Og}{c:ab Int}(h:bQ t C H [] (D.take i)=(s,NW))(a:D[i]?=gV d) (l:aO t C H s d=gV c):bQ t C H [] (D.take<|i+1)=(s++[c],NW):=by
 rw[OJ,a];show bQ t C H [] (D.take i++[d])=_
 rw[lq h,l]
theorem dz:∀{D:ab Og} {s o:ab (ab Int)},bQ t C w s D=(o,NW)->o.length=s.length+D.length
 |[],s,o,h=>by
  cases h;rfl
 |d::r,s,o,h=>by
  have H:(match aO t C w s d with|none=>(s,N8)|some c=>bQ t C w _ r)=(o,NW):=h;cases g:aO t C w s d with
  |none=>simp_all
  |some c=>
   rw[g]at H;have:=dz H;rw[N0,OM]at this;rw[OG];lia
theorem aE{a:Type}{l:ab a}{i:Nat}{d:a}(h:i<l.length):l[i]?=gV (l.getD i d):=by
 rw[K',N1 h];rfl
noncomputable def cC(o:N')(B:ab N')(l:Int):N':=match B[(absI l-1).toNat]? with
 |some b=>(b == decide (0<l)) == o
 |none=>N8
noncomputable def bE(C:ab (ab Int))(b:ab N'):N':=C.all λc=>c.any<|hit b
theorem ux(h:(absI l-1).toNat<B.length):cC o (B++[b]) l=cC o B l:=by
 unfold cC;rw[ON h]
theorem uy(h:(absI l-1).toNat=B.length):cC o (B++[b]) l=((b == decide (0<l)) == o):=by
 unfold cC;simp_all
theorem fL(h:b.length<=(absI l-1).toNat):cC o b l=false:=by
 unfold cC;rw[O_ h]
theorem oy(a:l∈c)(h:eZ t H c<absI l):cP t (absI l-1).toNat=H:=by
 cases g:cP t _ == H with
 |true=>exact eq_of_beq g
 |false=>
  have m:absI l∈(c.filter λl=>!(cP t (absI l-1).toNat == H)).map _:=Qy<|Oj.mpr ⟨a,by rw[g];rfl⟩;have:=(iS ((c.filter _).map _) 0).1.2 _ m;unfold eZ at h;omega
theorem iT(d:1<=z)(h:cC o B z=NW)(c:cC o B (-z)=NW):False:=by
 have e:absI (-z)=absI z:=by
  obtain⟨y,e⟩|⟨y,e⟩:=aI z<;>obtain⟨y,E⟩|⟨y,E⟩:=aI (-z)<;>lia
 unfold cC at h c;rw[e]at c;cases g:B[(absI z-1).toNat]? with
 |none=>rw[g]at h;cases h
 |some b=>
  rw[g]at h c;have H:=h;have a:=c;rw[N3 (by lia)]at H;rw[N7 (by lia)]at a;simp_all
end OD
namespace DP
open PySem
theorem FM:ZM (.type "list") "keys"=pure none:=by rfl
theorem xH:PySem.entryFor table "dict.update.loop"=gV Builtin.«dict.update.loop»:=PySem.entryFor_of_tree (by rfl)
theorem mY:plainId "dict.update.loop"=true:=by decide+kernel
theorem zE{Q:M' NX->Od->Prop}(x:s.heap.get? l=gV o)(f:o.cls=.type "list")(a:o.data=.seq X k)(i:o.dict=NZ)(j:A.handled=NZ)
  (h:∀h' T,(∀b o,s.heap.get? b=gV o->h'.get? b=gV o)->Q NZ {s with heap:=h',toks:=T}):wpAny (OU p w) A (getAttr? (.ref l) "keys") Q E s:=by
 obtain⟨c,D,m,n⟩:=o;simp only at f a i;subst f a i;obtain⟨q,g,d,T,os⟩:=s;have C:∀t,(⟨q,g,d,t,os⟩:Od).TypeIs (.ref l) "list":=λZ=>⟨_,x,rfl⟩;have r:=sub_AttributeError;have u:=F.slot_list_getattribute.lookup;have v:=F.slot_list_getattribute.bind<|.ref l;have y:=am_list_getattr_none;unfold getAttr? getAttrBy? getAttrBy
 repeat (any_goals (first|assumption|exact C _|((with_reducible show wpAny _ _ (call (Value.builtin "list.__getattribute__") _ _) _ _ _);refine S6 F.slot_list_getattribute (C _) am_entry_list_getattribute (F.args_list_getattribute_2 _ _) (meets_getattribute_miss_list l X k n "keys" _ FM (by rfl)<|by decide+kernel) ⟨x,j,λh' t e H=>?_⟩)|wp_step))
 obtain⟨z,U,B⟩:=H.there;show wpAny _ _ (XE _ _ _ _ _ _ _) _ _ _
 unfold XE
 repeat (any_goals (first|assumption|wp_step))
 exact h _ _ H.keeps
section
variable {prog:Om}{w:OI}{K:Type}[Uo K]{knd:KeyKind prog w K}{A:PL}{s:Od}
theorem vY(a:s.heap.IsTuple t x)(h:Q x.toList s):wpAny (OU prog w) A (V8<|.ref t) Q E s:=by
 obtain⟨o,H,c,n,d⟩:=a;have T:s.TypeIs (.ref t) _:=⟨o,H,c⟩;exact Oa<|UG T<|Oa<|UW H d<|Oq h
theorem zF(hh:A.in1.handled=NZ){x:Pd}(y:l≠I)(h:d≠I)(B:d≠l)(hn:a.size<=sizeLine)(hm:M.length=a.size)
  (C:∀(i:Nat) (v:NX),a[i]?=gV v->∃f k t,M[i]?=gV f/\knd.is f.1 k=NW/\v=.ref t/\t≠d/\t≠I/\x.IsTuple t #[k,f.2]) {R:ZW->Od->Prop}:
  ∀(m i:Nat) (s:Od) (T:Tok),a.size-i=m->i<=a.size->s.heap.IsListIter I l i->s.heap.IsList l a->s.heap.DictOf knd d (XD []<|M.take i)->
   (∀b o,b≠d->b≠I->x.get? b=gV o->s.heap.get? b=gV o)->
   (∀h' g,h'.DictOf knd d (XD [] M)->(∀b o,b≠d->b≠I->x.get? b=gV o->h'.get? b=gV o)->R (.ok<|.ret .none) {s with heap:=h',toks:=g})->
   codeAny (OU prog w) A (.builtin "dict.update.loop" ⟨[.ref d,.ref I,.int (i:Int) T,.none],[]⟩) R s:=by
 have W:=XH (prog:=prog) (w:=w) (A:=A.in1) hh I l y a;intro m
 induction m with
 |zero=>
  intro i s T D hi j E c Z F;have e:i=a.size:=by lia
  subst e;refine SU xH ?_;rw[RE mY _];refine Oa (m:=XC<|.ref I)<|W.done s _ _ ⟨j,E⟩ λh' g G=>?_;have U:∀b o,b≠I->s.heap.get? b=gV o->h'.get? b=gV o:=λb o J e=>G b o (by simpa using J) e;refine Oa (m:=YJ d [])<|Oq<|Oq ?_;refine F h' g ?_ λb o q u e=>U b o u<|Z b o q u e;rw[Oi<|by exact Tw hm]at c;obtain⟨o,L,N,H,r⟩:=c;exact⟨o,L,N,U d o h H,r⟩
 |succ m ih=>
  intro i s T D hi j E c Z F;have RH:i<a.size:=by lia
  refine SU xH ?_;rw[RE mY _];refine Oa (m:=XC<|.ref I)<|W.item i s _ _ RH ⟨j,E⟩ λv h' g hv QV G=>?_;have U:=λb o J e=>G b o (by simpa using J) e;obtain⟨f,k,t,O,P,rfl,Q,n,ht⟩:=C i v hv;have X:h'.IsTuple t _:=let ⟨o,H,r⟩:=ht;⟨o,U t o n<|Z t o Q n H,r⟩
  have Y:h'.DictOf knd d _:=let ⟨o,L,N,H,r⟩:=c;⟨o,L,N,U d o h H,r⟩
  have hz:(XD []<|M.take i).length<=sizeLine:=by
   have:=merged_length_le []<|M.take i;rw[OB]at this;simp only[SZ]at this;lia
  refine Oa<|QD<|Oa<|Sk<|vY X<|QD<|wpAny_dictSet_pairs P Y λu Y4 sb=>?_;have e2:XD [] _=stored _ f.1 f.2:=merged_take_succ _ _ _ _ O;refine Oq ⟨SH mY _,ih (i+1) _ 0 (by grind) RH ?_ ?_ (by rwa[e2]) (λb o q p e=>(sb.2 b q).trans<|U b o p<|Z b o q p e) λh3 ac b1 b2=>F h3 ac b1 b2⟩
  ·exact QV.1.at λo e=>(sb.2 I λz=>h z.symm).trans e
  exact QV.2.at λo e=>(sb.2 l λz=>B z.symm).trans e
theorem call_pairs{E:NX->Od->Prop}(L:A.handled=NZ){Q:NX->Od->Prop}(M:s.heap.get? l=gV p)(q:p.cls=.type "list")(Z:p.data=.seq I U)(u:p.dict=NZ)(X:I.size<=sizeLine)(Y:m.length=I.size)
  (z:∀(i:Nat) (v:NX),I[i]?=gV v->∃d k t,m[i]?=gV d/\knd.is d.1 k=NW/\v=.ref t/\s.heap.IsTuple t #[k,d.2])
  (h:∀(h':Pd) (T:Nat),h'.DictOf knd s.heap.objs.size (XD [] m)->(∀b o,s.heap.get? b=gV o->h'.get? b=gV o)->Q (.ref s.heap.objs.size) {s with heap:=h',toks:=T}):
  wpAny (OU prog w) A (call (.type "dict") [.ref l]) Q E s:=by
 refine callType_codes (Q₁:=λO a=>O=.ref s.heap.objs.size/\a={s with heap:=s.heap.push {cls:=.type "dict",data:=.dict #[]}}) F.kt_called_dict (F.kt_typeCall_dict_1 _) F.entry_dict_init (kt_code_dict_new _ ⟨rfl,rfl⟩) ?_;rintro O a ⟨rfl,rfl⟩;have c:(s.heap.push {cls:=.type "dict",data:=.dict #[]}).DictOf knd s.heap.objs.size []:=Zk s.heap;have W:=Oe {cls:=.type "dict",data:=.dict #[]} M;have RH:l<s.heap.objs.size:=Ov M;have x:PySem.Shared.TypeIs {s with heap:=s.heap.push {cls:=.type "dict",data:=.dict #[]}} (.ref l) "list":=⟨_,W,q⟩;exists c.typeIs,F.args_dict_init_2 _ _;unfold Builtin.«dict.__init__»;refine Oa ?_;refine Oa<|Wo c.typeIs ?_;show wpAny _ _ (pure _) _ _ _
 refine Oq ?_;show wpAny _ _ _ _ _ _
 refine Oa<|UG x<|Oa<|zE W q Z u (by simpa using L) λH y f=>?_;have N:=f _ _ W;have g:H.IsList l I:=⟨_,N,q,U,Z⟩;simp only ;refine Oa<|RL<|Oa<|Tj g<|Oq ?_;exists SH mY _;have B:=OX s.heap (o:={cls:=.type "dict",data:=.dict #[]}) rfl;have C:=f _ _ B;have D:=Ov N;have G:=Ov C;have J:H.DictOf knd _ []:=let ⟨o,es,ep,n,r⟩:=c;⟨o,es,ep,f _ _ n,r⟩
 have hit:(H.push {cls:=.type "list_iterator",data:=.fields #[.ref l,.int 0 0]}).get? _=gV _:=OX _ rfl;refine zF (by simpa using L) (x:=H.push _) (OL D) (OL G) (R1 RH) X Y (λi v hv=>?_) _ 0 _ 0 rfl (Oy _) ⟨_,hit,rfl,rfl⟩ (g.push _) (J.push _) (λb o V V e=>e) λh' T b1 b2=>?_
 ·obtain⟨d,k,t,a1,a2,a3,a4⟩:=z i v hv;obtain⟨o,n,r⟩:=a4;have j:=f _ _<|Oe _ n;exact⟨d,k,t,a1,a2,a3,OL<|Ov n,OL<|Ov j,o,Oe _ j,r⟩
 refine⟨rfl,h h' T b1 λb o e=>?_⟩;have P:=f _ _<|Oe _ e;exact b2 b o (OL<|Ov e) (OL<|Ov P)<|Oe _ P
end
end DP
namespace L2
open PySem PySem.Spec PyProof.Rows
structure tp (P:Om)(w:OI)(K:C')(mg:Str->M' NX)(base:Pd)(CX:A6)(k:Nat)(C:J')(m:Str)(f:J')(fd:Ol)(ps:ab Str)(sp:Sp):Prop where
 ok:ay P w K mg base CX k f fd ps sp
 b:Binds K fd ps []
 cl:Cls K C
 me:E_ K C m f
structure JI (P:Om)(w:OI)(K:C')(mg:Str->M' NX)(base:Pd)(k:Nat)(x:Str)(C f:J')(fd:Ol)(ps:ab Str)(sp:Sp):Prop where
 ok:ay P w K mg base a_ k f fd ps sp
 b:Binds K fd ps []
 mks:Mk K C f
 at_:mg x=gV (.ref C)
section
variable {X:Cx}{j k:Nat}{C f:J'}{fd:Ol}{ps:ab Str}{sp:Sp}{pos:Pos}{e:Px}{es:ab Px}{t:TA}
theorem jW{m:Str}{v:Pos}{o:Px}{T:TE}{p:Sem N'}(G:tp X.prog X.w X.K X.mg X.base a_ j C m f fd ps sp)(a:PE X o T)(r:Room k X.A)(h:j<=k)(b:PA X (e::es) t)
  (H:OS (e::es) X.env=(N8,Qm e X.env)::OS es X.env:=by rfl) (x:(Rc pos<|OS es X.env).any (·.1)=false:=by rfl)
  (c:Qm (.Call (.Attribute o m v) (e::es) [] pos) X.env=(do
   let O <-Qm o X.env
   Xc v.atName
   let (f,first) <-Vl [O] (VQ O m p)
   ZR pos f first (Rc pos<|OS (e::es) X.env) (WN pos<|Uj [] X.env)):=by rfl):
  PE X (.Call (.Attribute o m v) (e::es) [] pos) (tK C m sp [] E0 T t):=Fc a G.cl G.me G.ok (r.mono h) G.b .nil xv b H x c
theorem LH{x:Str}{p:Pos}(G:JI X.prog X.w X.K X.mg X.base j x C f fd ps sp)(r:Room k X.A)(h:j+1<=k)(g:Gl X x)(a:PA X (e::es) t)(H:(x == ("__debug__":Str))=false:=by decide)
  (b:OS (e::es) X.env=(N8,Qm e X.env)::OS es X.env:=by rfl) (u:(Rc pos<|OS es X.env).any (·.1)=false:=by rfl):
  PE X (.Call (.Name x p) (e::es) [] pos) (GZ C sp [] E0 t):=Ff G.mks G.ok (r.mono h) g G.at_ G.b .nil xv a H b u
theorem jX:eS X (.builtin "isinstance") (λx H Q=>∃y T C b,x=[y,.ref C]/\jn X.K H y T/\QE X.K T (.ref C)=gV b/\Q (.bl b) H):=by
 rintro O s g H x U Q I r ⟨y,T,C,b,rfl,h,a,q⟩;obtain⟨u,v,rfl,c,d⟩:=r.two;cases d;exact pZ I c h a λi=>⟨.bl b,H,I.tok _,rfl,q⟩
end
theorem uz(O:HOk P w H h):∀(T:ab J') (k:ab (aR×V)),T.length=k.length->(∀(i:Nat) (t:J') (a:aR×V),T[i]?=gV t->k[i]?=gV a->H t=gV (.tup [kV a.1,a.2]))->
  ∃m:ab (aR×NX),KV k m/\m.length=T.length/\m.map (·.1)=k.map (·.1)/\∀(i:Nat) (t:J'),T[i]?=gV t->∃a y,m[i]?=gV a/\(be P w).is a.1 y=NW/\h.IsTuple t #[y,a.2]
 |[],[],_,_=>⟨[],.nil,rfl,rfl,λi t e=>by simp at e⟩
 |[],_::_,e,_=>by simp at e
 |_::_,[],e,_=>by simp at e
 |t::T,a::k,e,p=>by
  obtain⟨m,A,d,f,g⟩:=uz O T k (by simpa using e) λi c b E j=>p (i+1) c b (by assumption) (by assumption);obtain⟨Z,G,r,o,l,q,n,s⟩:=(O t _<|p 0 t a rfl rfl);obtain⟨u,v,rfl,x,z⟩:=r.two;refine⟨(a.1,v)::m,.cons ⟨rfl,z⟩ A,by simp[d],by simp[f],λi c E=>?_⟩;cases i with
  |zero=>
   have B:t=c:=by simpa using E
   subst B;exact⟨(a.1,v),u,rfl,jO x,o,l,q,n,s⟩
  |succ i=>
   obtain⟨b,y,C,D,F⟩:=g i c (by assumption);exact⟨b,y,by assumption,D,F⟩
inductive Hq (xs:ab V)(H:Hp)(Q:VK):Prop
 |mk (l:J')(T:ab J')(k:ab (aR×V))(hx:xs=[.ref l])(h:H l=gV (.lst<|T.map V.ref))(hl:T.length=k.length)(hp:∀(i:Nat) (t:J') (v:aR×V),T[i]?=gV t->k[i]?=gV v->H t=gV (.tup [kV v.1,v.2])) (nd:(k.map (·.1)).Nodup) (z:k.length<=9000)
  (q:∀d,H d=NZ->Q (.ref d) (upd H d<|.dK k)):Hq xs H Q
theorem fM(g:X.calm=NW):eS X (.type "dict") Hq:=by
 intro Og s J H xs us Q I r h;obtain⟨l,t,k,rfl,j,o,p,N,z,q⟩:=h;obtain⟨u,rfl,w⟩:=r.one;cases w;obtain⟨z1,P,n,x,A,e⟩:=I.lstM j;obtain⟨m,B,a2,C,D⟩:=uz I.hok t k o p;refine DP.call_pairs (knd:=be _ X.w) (m:=m) (I.ok.hd g) e rfl rfl rfl (by simp_all) (by simp_all) (λi v E=>?_) λh' T d F=>?_
 ·have Z:P[i]?=gV v:=by simpa using E
  have G:i<t.length:=by
   have:=(N4.mp Z).1;simp_all
  have f:t[i]?=gV _:=N1 G;obtain⟨L,y,M,O,U⟩:=D i _ f;have W:(t.map V.ref)[i]?=gV (.ref t[i]):=by rw[Ox,f];rfl
  obtain⟨v',a,c⟩:=x.get W;rw[Z]at a;cases a;cases c;exact⟨L,y,_,M,O,rfl,U⟩
 rw[merged_nil_of_nodup m<|by simp_all]at d;refine⟨.ref _,_,I.laid (λb q Y=>F b q Y) (N9 _)<|rm (O8 z (by decide)) (Pp.mpr<|P0<|OL I.big) B d,rfl,q _<|I.hok.fresh<|N9 _⟩
noncomputable def LI(a:J'):HO:=.ext λh=>∃o,h.get? a=gV o
noncomputable def dE(a:J')(o:Obj):HO:=.frz o<|LI a
theorem jY(e:h.get? a=gV o):ObjOk P w H h a (dE a o):=
 ⟨e,⟨o,e⟩,⟨o,e⟩,λz z ⟨o,q⟩ k=>⟨o,k o q⟩⟩
theorem gr(x:HOk P w H h)(e:H a=gV (dE a o)):h.get? a=gV o:=(x a _ e).1
inductive CodeK (H:Hp)(qual:Str)(C:NX):Prop
 |mk (c:J')(o:Obj)(vs:Qs NX)(t:Tok)(e:C=.ref c)(h:H c=gV (dE c o))(d:o.data=.fields vs)(q:vs[1]?=gV (.str qual t))
inductive TabAt (H:Hp)(T:J')(pos:Pos)(qual:Str):Prop
 |mk (p:Qs NX)(h:H T=gV (.tbl p))(t:TriplesOk p.toList)(c:∀C,codeAmong pos p.toList=gV C->CodeK H qual C)
inductive LamAt (H:Hp)(f:J')(qual:Str)(params:Sy)(body:Px)(s:RY)(clos:ab (Str×J')):Prop
 |mk (p C:NX)(c:J')(h:H f=gV (dE f<|Re "<lambda>" qual params body s clos p c C))(k:CodeK H qual (.ref c))
def Off(T:J')(H h:Hp):Prop:=∀b o,b≠T->H b=gV o->h b=gV o
theorem CodeK.mono(x:CodeK H Q C)(k:∀b o,H b=gV (dE b o)->a b=gV (dE b o)):CodeK a Q C:=by
 obtain⟨c,O,v,t,e,h,d,q⟩:=x;exact⟨c,O,v,t,e,k _ _ h,d,q⟩
theorem LamAt.mono(x:LamAt H f Q p B s C)(k:∀b o,H b=gV (dE b o)->a b=gV (dE b o)):LamAt a f Q p B s C:=by
 obtain⟨P,v,c,h,q⟩:=x;exact⟨P,v,c,k _ _ h,q.mono k⟩
theorem TabAt.mono(x:TabAt H T p Q)(k:Same H a):TabAt a T p Q:=by
 obtain⟨P,h,t,c⟩:=x;exact⟨P,k _ _ h,t,λC e=>(c C e).mono λb o q=>k _ _ q⟩
inductive LJ (T:J')(pos:Pos)(qual:Str)(params:Sy)(body:Px)(s:RY)(clos:ab (Str×J'))(H:Hp)(Q:VK):Prop
 |mk (t:TabAt H T pos qual)(q:∀(f:J') (h:Hp),H f=NZ->Off T H h->TabAt h T pos qual->LamAt h f qual params body s clos->Q (.ref f) h)
def Nm(T:J')(P:Pos)(q:Str)(p:Sy)(b:Px)(s:RY)(c:ab (Str×J')):TE:=λ_ H Q=>LJ T P q p b s c H Q
structure rE (mg:Str->M' NX)(base:Pd)(c T:J'):Prop where
 code:RU base c T
 bm:∃bm ob,mg "__builtins__"=gV (.ref bm)/\bm≠T6/\base.get? bm=gV ob/\ob.cls=.type "module"/\ob.dict=gV T6/\ob.data=.plain
theorem rF(L:rE X.mg X.base c T)(I:Inv X i j H s)(l:H T=gV (.tbl p)):s.heap.BuiltinsAt X.mg T:=by
 obtain⟨m,O,a,d,b,f,g,B⟩:=L.bm;refine⟨m,O,a,d,λq=>?_,λq=>?_,I.bk _ _ b,f,g,B⟩
 ·obtain⟨o,E,k,e,h,y⟩:=I.ok.mod.glob;simp_all
 have z:=(I.bs _ _ b).2;lia
theorem JJ{X:Cx}{p:Sy}{B:Px}{a:RY}{P:Pos}{c:J'}{T:J'}{f:ab (Str×J')}(L:rE X.mg X.base c T)(hc:X.env.code=.ref c)(ac:defaultsOf p X.env=([],[]):=by rfl)(Vl:ZP a X.env=pure f:=by rfl):
  PE X (.Lambda p B a P) (Nm T P (X.env.qual++"<lambda>") p B a f):=by
 intro Og s σ H Q I ⟨am,hq⟩;refine PySem.W.kla_eval ac ?_;obtain⟨j,hT,y,D⟩:=am;have hP:s.heap.get? T=gV (Sn j):=I.hok T _ hT;have Cs:RU s.heap c T:=L.code.keeps I.bk;have hg:s.heap.Ns OY X.mg:=I.ok.mod.glob.keeps I.bk;have an:OY≠T:=λq=>by
  obtain⟨o,es,ep,e,E,V⟩:=hg;lia
 have U:=rF L I hT;cases W:codeAmong P j.toList with
 |none=>
  refine PySem.W.kla_makeFunction (mg:=X.mg) Vl I.ok.glob hg hc Cs hP y W an U λC g h m Y r RH F G=>?_;obtain⟨c2,k,vs,t,e2,as,E,hv⟩:=F;cases e2;have fc:H C=none:=I.hok.fresh r;have nT:C≠T:=λz=>by lia
  have atT:upd (upd H T<|.tbl<|j++#[VG P.line,VG P.col,.ref C]) C (dE C k) T=gV (.tbl<|j++#[VG P.line,VG P.col,.ref C]):=by rw[af<|P0 nT,aa]
  have A:upd (upd H T<|.tbl<|j++#[VG P.line,VG P.col,.ref C]) C (dE C k) C=gV (dE C k):=aa;have O:∀b,b≠T->b≠C->upd (upd H T<|.tbl<|j++#[VG P.line,VG P.col,.ref C]) C (dE C k) b=H b:=λb h1 h2=>by rw[af h2,af h1]
  generalize upd (upd H T<|.tbl<|j++#[VG P.line,VG P.col,.ref C]) C (dE C k)=w at atT A O;have neT:∀b u,H b=gV u->(∀j,u≠.tbl j)->b≠T:=λb u e n z=>by
   grind
  have neN:∀b,H b=NZ->b≠T:=λb e z=>by lia
  have N:∀b u,H b=gV u->b≠C:=λb u e z=>by lia
  have av:∀b o,s.heap.get? b=gV o->b≠C:=λb o e=>OL<|Pf (Ov e) r;have un:Un X.fs [] H w s.heap h:=by
   refine⟨λb o e n V V=>Y b o (neN b n) e,λb o e n V V=>⟨o.slots,Y b o (neN b n) e⟩,λb o e n V=>?_,λb o e V=>?_,λb xs e=>?_,λb o u e=>?_,λb qs e=>?_⟩
   ·rw[O b (neN b n)<|av b o e];exact n
   ·by_cases i:b=T
    ·exact⟨_,i▸G⟩
    exact⟨o,Y b o i e⟩
   ·simp_all
   ·simp_all
   by_cases i:b=T
   ·grind
   exact⟨#[],by rw[O b i<|N b _ e,e];simp⟩
  have az:HOk X.prog X.w w h:=λb u e=>by
   by_cases i:b=T
   ·subst i;rw[atT]at e;cases e;exact G
   by_cases J:b=C
   ·subst J;rw[A]at e;cases e;exact jY as
   rw[O b i J]at e;refine(I.hok b u e).stay (λd v x q=>Y d v ?_ q) (λd q=>?_) λd xs q=>?_
   ·lia
   ·simp_all
   simp_all
  have M:Inv X Og σ w {s with heap:=h,toks:=m}:=I.un (t':=m) un az;have Z:w h.objs.size=none:=M.hok.fresh<|N9 _;have aC:H h.objs.size=none:=I.hok.fresh<|O8 r<|OW RH;have I3:=M.laid (a:=h.objs.size) (o:=dE h.objs.size<|Re "<lambda>" (X.env.qual++"<lambda>") p B a f ((X.mg "__name__").getD .none) C g) (h':=h.push<|Re "<lambda>" (X.env.qual++"<lambda>") p B a f ((X.mg "__name__").getD .none) C g) (t':=m)
   (λb u e=>Oe _ e) (N9 _) (jY<|OX _ rfl)
  have l:∀b u,w b=gV u->upd w h.objs.size (dE h.objs.size<|Re "<lambda>" (X.env.qual++"<lambda>") p B a f ((X.mg "__name__").getD .none) C g) b=gV u:=λb u e=>by
   rw[af<|ag e Z];exact e
  have ck:CodeK (upd w h.objs.size<|dE h.objs.size<|Re "<lambda>" (X.env.qual++"<lambda>") p B a f ((X.mg "__name__").getD .none) C g) (X.env.qual++"<lambda>") (.ref C):=⟨C,k,vs,t,rfl,l _ _ A,E,hv⟩;refine⟨.ref h.objs.size,_,I3,rfl,hq _ _ aC (λb u U e=>l _ _<|by rw[O b U<|N b _ e];exact e) ⟨_,l _ _ atT,?_,λcv e=>?_⟩ ⟨_,g,C,aa,ck⟩⟩
  ·rw[SG];exact TriplesOk_snoc _ _ _ _ y
  ·rw[SG]at e;have z:=codeAmong_snoc (c:=PF C) j.toList y W;simp_all
 |some cv=>
  obtain⟨C,k,vs,t,rfl,hC,E,hv⟩:=D cv W;refine PySem.W.kla_makeFunctionHit (mg:=X.mg) Vl I.ok.glob hg hc Cs hP y W U λg h m hk aF=>?_;have M:Inv X Og σ H {s with heap:=h,toks:=m}:=I.kept (t':=m) hk;have Z:H h.objs.size=none:=M.hok.fresh<|N9 _;have I3:=M.laid (a:=h.objs.size) (o:=dE h.objs.size<|Re "<lambda>" (X.env.qual++"<lambda>") p B a f ((X.mg "__name__").getD .none) C g) (h':=h.push<|Re "<lambda>" (X.env.qual++"<lambda>") p B a f ((X.mg _).getD _) C g) (t':=m)
   (λb u e=>Oe _ e) (N9 _) (jY<|OX _ rfl)
  have l:∀b u,H b=gV u->upd H _ (dE h.objs.size<|Re "<lambda>" (X.env.qual++"<lambda>") p B a f ((X.mg "__name__").getD .none) C g) b=gV u:=λb u e=>by
   rwa[af<|ag e Z]
  refine⟨.ref _,_,I3,rfl,hq _ _ Z (λb u V e=>l _ _ e) ⟨j,l _ _ hT,y,λcv e=>(D cv e).mono λb o q=>l _ _ q⟩ ⟨_,g,C,aa,⟨C,k,vs,t,rfl,l _ _ hC,E,hv⟩⟩⟩
abbrev eA:=ab<|J'×Obj
noncomputable def ja(H:Hp)(c:eA):Hp:=λb=>match c.lookup b with
 |some o=>gV<|dE b o
 |none=>H b
noncomputable def less(H:Hp)(c:eA):Hp:=λb=>match c.lookup b with
 |some _=>NZ
 |none=>H b
theorem gZ(e:c.lookup b=gV o):ja H c b=gV (dE b o):=by unfold ja;rw[e]
theorem bj(e:c.lookup b=NZ):ja H c b=H b:=by unfold ja;rw[e]
theorem jZ(e:c.lookup b=gV o):less H c b=none:=by unfold less;rw[e]
theorem bY(e:c.lookup b=NZ):less H c b=H b:=by unfold less;rw[e]
theorem aZ(c:eA)(b:J'):c.lookup b=NZ\/∃o,c.lookup b=gV o:=by
 cases e:c.lookup b with
 |none=>exact .inl rfl
 |some o=>exact .inr ⟨o,rfl⟩
theorem zG(h:∀b o,c.lookup b=gV o->H b=NZ):Same H (ja H c):=λb u e=>by
 obtain q|⟨o,q⟩:=aZ c b
 ·rwa[bj q]
 rw[h b o q]at e;cases e
theorem qo:Same (less H c) H:=λb u e=>by
 obtain q|⟨o,q⟩:=aZ c b
 ·rwa[bY q]at e
 rw[jZ q]at e;cases e
theorem zH(h:∀b o,c.lookup b=gV o->H b=gV (dE b o))(k:Same (less H c) a):Same H (ja a c):=λb u e=>by
 obtain q|⟨o,q⟩:=aZ c b
 ·rw[bj q];exact k _ _ (by rwa[bY q])
 rwa[gZ q,<-h b o q]
theorem BV(h:∀b o,c.lookup b=gV o->H b=NZ)(k:Same (ja H c) a):Same H (less a c):=λb u e=>by
 obtain q|⟨o,q⟩:=aZ c b
 ·rw[bY q];exact k _ _ (by rwa[bj q])
 rw[h b o q]at e;cases e
def JK(P:Om)(w:OI)(K:C')(m:Str->M' NX)(b:Pd)(k:Nat)(f:J')(p:Sp):Prop:=
 ∀(A:PL) (o:ab Env) (s:Od) (H:Hp) (u:ab NX) (v:ab V) (Q:VK) (E:XK),Room k A->Env0 P w K m b A o s H->Vals v u->p v H Q E->
  codeAny (OU P w) A (.call (.ref f) ⟨u,[]⟩) (CR a_ o P w H s Q E) s
section
variable {X:Cx}{k:Nat}{f:J'}{fd:Ol}{sp:Sp}{x:Str}{p pos:Pos}{e:Px}{es:ab Px}{t:TA}
theorem FN{Og:ab (J'×Obj)}{σ:St}{H:Hp}{s:Od}{Q:VK}{m:ab NX}{M:ab V}(F:ay X.prog X.w X.K X.mg X.base a_ k f fd ps sp)(hr:Room k X.A)(hb:Binds X.K fd ps [])
  (I:Inv X Og σ H s) (r:Vals M m) (c:eA) (P:∀x,X.fn x=NW) (w:∀b o,c.lookup b=gV o->(∃x,X.env.cells.lookup x=gV b)/\s.heap.get? b=gV o)
  (h:sp M (ja H c) (λv H2=>Q v<|less H2 c) E0):wpAny (OU X.prog X.w) X.A (call (.ref f) m) (EP X Og σ Q) X.xe s:=by
 have N:∀b o,c.lookup b=gV o->H b=none:=λb o q=>by
  obtain⟨⟨x,a⟩,_⟩:=w b o q;exact I.freeC x b a
 have B:∀b o,c.lookup b=gV o->X.s₀.heap.objs.size<=b:=λb o q=>by
  obtain⟨⟨x,a⟩,_⟩:=w b o q;exact I.ok.cab x b (P x) a
 have T:∀b o,X.base.get? b=gV o->c.lookup b=none:=λb o q=>by
  obtain z|⟨O,z⟩:=aZ c b
  ·exact z
  exact absurd (Pf (Pf (Ov q) I.ok.bsz)<|B b O z)<|QR _
 have C:∀b∈vj X.stack,c.lookup b=none:=λb q=>by
  obtain z|⟨O,z⟩:=aZ c b
  ·exact z
  obtain⟨⟨x,a⟩,_⟩:=w b O z;obtain e|i:=Oz.mp (I.stkSub b q)
  ·exact absurd e<|I.cne x b a
  obtain⟨_,o,ho,_⟩:=I.ok.funs.mem i;exact absurd (Pf (Ov ho)<|B b O z)<|QR _
 have U:∀b u,H b=gV u->c.lookup b=none:=λb u q=>by
  obtain z|⟨O,z⟩:=aZ c b
  ·exact z
  simp_all
 have W:HOk X.prog X.w (ja H c) s.heap:=λb u q=>by
  obtain z|⟨o,z⟩:=aZ c b
  ·rw[bj z]at q;refine(I.hok b u q).stay (λ_ _ _ y=>y) (λd y=>?_) λd Y y=>?_
   ·rw[bj<|U d _ y];exact y
   rw[bj<|U d _ y];exact y
  rw[gZ z]at q;cases q;exact jY (w b o z).2
 have E:=I.env0;have e1:Env0 X.prog X.w X.K X.mg X.base X.A X.stack s (ja H c):=
  ⟨E.frames,E.mod,λb o q=>⟨(E.bs b o q).1,by rw[bj<|T b o q];exact(E.bs b o q).2⟩,E.bsz,E.funs,λb q=>by rw[bj<|C b q];exact E.frf b q,W,E.bare⟩
 have hl:m.length=ps.length:=by rw[<-r.length];exact F.len _ _ _ _ h
 have i:=hb s m I.kIn (by rwa[Py]);rw[Py]at i;refine XB<|Tn (F.run X.A _ s _ _ m M _ E0 hr e1 i r h) λr s' D=>?_;cases r with
 |error e=>exact P2 D
 |ok fl=>
  cases fl with
  |next=>exact P2 D
  |brk=>exact P2 D
  |cont=>exact P2 D
  |ret u=>
   obtain⟨v,L,os,G,l,J,rv,q⟩:=D;obtain⟨Z,g,d,tk,ac⟩:=s';obtain rfl:ac=s.os:=os;have A:=λb o z=>l.frzs b o _ (by rw[gZ z];rfl);have am:Un (vj X.stack) [] H (less L c) s.heap Z:=by
    refine⟨λb o e n j a=>?_,λb o e n j a=>?_,λb o e n a=>?_,λb o e a=>l.there b o e a,λb Y e=>?_,λb o u e=>?_,λb qs e=>?_⟩
    ·obtain z|⟨O,z⟩:=aZ c b
     ·exact l.keep b o e (by rwa[bj z]) j a
     have e2:=(w b O z).2;rw[e]at e2;cases e2;exact gr J<|A b o z
    ·exact l.slot b o e (by rwa[bj<|C b j]) j a
    ·obtain z|⟨O,z⟩:=aZ c b
     ·rw[bY z];exact l.free b o e (by rwa[bj z]) a
     exact jZ z
    ·rw[bY<|U b _ e];exact l.tups b Y (by rwa[bj<|U b _ e])
    ·rw[bY<|U b _ e];exact l.frzs b o u (by rwa[bj<|U b _ e])
    rw[bY<|U b _ e];exact l.tbls b qs (by rwa[bj<|U b _ e])
   have an:HOk _ X.w (less L c) Z:=λb u e=>by
    have e':=qo _ _ e;refine(J b u e').stay (λ_ _ _ y=>y) (λd y=>?_) λd Y y=>?_
    ·obtain z|⟨O,z⟩:=aZ c d
     ·rwa[bY z]
     rw[A d O z]at y;cases y
    obtain z|⟨O,z⟩:=aZ c d
    ·rwa[bY z]
    rw[A d O z]at y;cases y
   exact⟨v,_,I.call am an G (λb z=>by simp_all),rv,q⟩
def xI(X:Cx)(a:St)(n:ab Str)(c:eA):Prop:=
 Paired (λ(y:Str) (q:J'×Obj)=>X.env.cells.lookup y=gV q.1/\∃u,q.2.data=.cell (gV u)/\∀(i:Nat) (v:V),X.N[i]?=gV y->a[i]?=gV (gV v)->RelV v u) n c
theorem uA(I:Inv X Z w H s):∀n:ab Str,(∀y∈n,X.env.kindOf y=gV .cell/\∃(i:Nat) (v:V),X.N[i]?=gV y/\w[i]?=gV (gV v))->
  ∃C:eA,xI X w n C/\∀q∈C,(∃y,X.env.cells.lookup y=gV q.1)/\s.heap.get? q.1=gV q.2
 |[],_=>⟨[],.nil,λq a=>absurd a<|by simp⟩
 |y::n,h=>by
  obtain⟨C,M,N⟩:=uA I n λz O=>h z<|Ow _ O;obtain⟨F,i,v,A,B⟩:=h y Ou;obtain⟨m,hn,P⟩:=I.loc;have D:Kz _ y:=.inr<|.inl F;have look:∀(i:Nat) (v:V),X.N[i]?=gV y->w[i]?=gV _->∃u,RelV v u/\∃c,X.env.cells.lookup y=gV c/\s.heap.IsCell c _:=λi v A B=>by
   obtain⟨u,r,l⟩:=P i y v A B D;obtain⟨G,x⟩|⟨x,c,E,Q⟩:=l
   ·rw[F]at G;cases G
   exact⟨u,r,c,E,Q⟩
  obtain⟨u,r,c,E,o,J,L⟩:=look i v A B;refine⟨(c,o)::C,.cons ⟨E,u,L,λj T U W=>?_⟩ M,λq a=>?_⟩
  ·obtain⟨u',Y,c',b,o',d,g⟩:=look j T U W;simp_all
  obtain rfl|a:=Oz.mp a
  ·exact⟨⟨y,E⟩,J⟩
  exact N q a
theorem mE:∀{c:eA} {b:J'} {o:Obj},c.lookup b=gV o->(b,o)∈c
 |[],_,_,e=>by simp at e
 |(a,O)::c,b,o,e=>by
  rw[Q2]at e;cases h:(b == a)with
  |true=>
   simp_all
  |false=>
   rw[h]at e;exact Ow _<|mE e
inductive BW (X:Cx)(names:ab Str)(sp:Sp)(a:St)(vs:ab V)(H:Hp)(Q:VK):Prop
 |mk (has:∀y∈names,∃(i:Nat) (v:V),X.N[i]?=gV y/\a[i]?=gV (gV v)) (q:∀c:eA,xI X a names c->(∀b o,c.lookup b=gV o->H b=NZ)->sp vs (ja H c) (λv h=>Q v<|less h c) E0)
def BX(X:Cx)(n:ab Str)(sp:Sp)(t:TA):TE:=λa H Q=>t a H λv h=>BW X n sp a v h Q
theorem BY{P:ab Str}{n:ab Str}(F:ay X.prog X.w X.K X.mg X.base a_ k f fd P sp)(j:Room k X.A)(l:Gl X x)(m:X.mg x=gV (.ref f))(u:P_ X.K (.ref f)=NW)(v:Binds X.K fd P [])
  (w:PA X (e::es) t) (c:∀x,X.fn x=NW) (A:∀y∈n,X.env.kindOf y=gV .cell) (d:(x == ("__debug__":Str))=false:=by decide) (T:OS (e::es) X.env=(N8,Qm e X.env)::OS es X.env:=by rfl) (D:(Rc pos<|OS es X.env).any (·.1)=false:=by rfl):
  PE X (.Call (.Name x p) (e::es) [] pos) (BX X n sp t):=by
 intro O s E H Q I h;refine Qd<|mR I l m (S8 I.ok.mod.kin u (bN (w pos O s E H _ I h) λU G Z=>?_) T D) d;obtain⟨M,N,i,r,B,q⟩:=Z;refine ⟨i.kIn,?_⟩;obtain⟨C,J,L⟩:=uA i n λy a=>⟨A y a,B y a⟩;have g:∀b o,C.lookup b=gV o->(∃x,X.env.cells.lookup x=gV b)/\G.heap.get? b=gV o:=λb o z=>L _<|mE z;exact FN F j v i r C c g (q C J λb o z=>by
  obtain⟨⟨y,a⟩,Y⟩:=g b o z;exact i.freeC y b a)
inductive vZ (X:Cx)(k:Nat)(f:J')(vs:ab V)(H:Hp)(Q:VK):Prop
 |mk (sp:Sp)(o:Obj)(fd:Ol)(F:JK X.prog X.w X.K X.mg X.base k f sp)(h:H f=gV (dE f o))(d:o.data=.func fd)(q:sp vs H Q E0)
def JL(X:Cx)(k i:Nat)(t:TA):TE:=λa H Q=>∃f,a[i]?=gV (gV<|.ref f)/\t a H λv h=>vZ X k f v h Q
theorem BZ(h:Pd)(x:∃o fd,h.get? f=gV o/\o.data=.func fd):∃k,(k=Keeper.frame\/k=Keeper.machine\/k=Keeper.boundFrame)/\PySem.W.Looks M h (PySem.keeperOf<|.ref f) k:=by
 obtain⟨o,fd,e,d⟩:=x;obtain⟨c,D,a,s⟩:=o;cases d;exact⟨.frame,.inl rfl,(vu e).andThen .now⟩
theorem B0(n:Room k X.A)(w:PA X (e::es) t)(N:X.N[i]?=gV x:=by rfl)(y:Kz X.env.scope x:=by first|exact XW rfl|exact Ux (XW rfl)|exact Ux<|Ux rfl)(A:(x == ("__debug__":Str))=false:=by decide)
  (d:(x == ("__classdict__":Str))=false:=by decide) (m:OS (e::es) X.env=(N8,Qm e X.env)::OS es X.env:=by rfl) (B:(Rc pos<|OS es X.env).any (·.1)=false:=by rfl):
  PE X (.Call (.Name x p) (e::es) [] pos) (JL X k i t):=by
 intro O s c H Q I ⟨f,E,h⟩;refine Qd<|bN (AQ N y A d O s c H (λv a=>v=.ref f/\t c a _) I ⟨.ref f,E,rfl,h⟩) λu C Z=>?_;obtain⟨v,D,G,J,L,M⟩:=Z;subst L;obtain rfl:u=PF f:=J;rw[m];refine PySem.W.callWith_of (by show((N8 || (Rc pos<|OS es _).any _) || N8)=N8;rw[B];rfl) BZ<|Uk ?_;have z:=w pos O C c D _ G M;rw[m]at z;refine bN z λU P V=>?_;obtain⟨g,a,j,r,sp,o,fd,F,T,l,q⟩:=V;refine ⟨⟨o,fd,gr j.hok T,l⟩,XB<|Tn (F X.A _ P a U g Q E0 n j.env0 r q) λr Y b=>?_⟩;cases r with
 |error e=>exact P2 b
 |ok W=>
  cases W with
  |ret u=>exact j.after b
  |next=>exact P2 b
  |brk=>exact P2 b
  |cont=>exact P2 b
end
noncomputable def Hr(P:Om)(w:OI)(K:C')(mg:Str->M' NX)(base:Pd)(N:ab Str)(q:Str)(e:RY)(f c:J')(C:ab (Str×J'))(A:PL)(outer:ab Env)(s:Od)(H:Hp):Cx where
 prog:=P
 w:=w
 K:=K
 mg:=mg
 base:=base
 A:=A.deeper (UK q e s.heap.objs.size f (.ref c) C)
 N:=N
 s₀:=s
 H₀:=H
 env:=UK q e s.heap.objs.size f (.ref c) C
 outer:=outer
 stack:=UK q e s.heap.objs.size f (.ref c) C::outer
 ex:=[]
 calm:=NW
 fn:=λ_=>N8
 pn:=[]
 xe:=λ_ _=>False
structure uB (x:Str)(xs:ab Str)(sc:RY):Prop where
 kind:sc.kind=.function
 co:sc.isCoroutine=N8
 gen:sc.isGenerator=N8
 par:sc.names.lookup x=gV .local
 fr:∀y∈xs,sc.names.lookup y=gV .free
 all:∀y∈sc.names,y.2=.free->y.1∈xs
 nocell:∀y∈sc.names,y.2≠.cell
 nd:xs.Nodup
def CapAt(H:Hp)(c:eA)(U:ab V):Prop:=Paired (λ(p:J'×Obj) (v:V)=>H p.1=gV (dE p.1 p.2)/\∃u,p.2.data=.cell (gV u)/\RelV v u) c U
theorem CapAt.mono(x:CapAt H c v)(k:∀b o,H b=gV (dE b o)->h b=gV (dE b o)):CapAt h c v:=Paired.mapP x λy y z=>⟨k _ _ z.1,z.2⟩
theorem CapAt.look:∀{c:eA} {v:ab V},CapAt H c v->∀b o,c.lookup b=gV o->H b=gV (dE b o):=by
 intro c v h b o e;change Paired _ _ _ at h;induction h with
 |nil=>simp at e
 |@cons a _ c _ r t i=>
  obtain⟨a,O⟩:=a;rw[Q2]at e;cases h:(b == a)with
  |true=>simp_all
  |false=>rw[h]at e;exact i e
theorem uC:∀{X:ab Str} {c:eA} {f:ab V} {H:Hp} {j:Nat} {y:Str} {v:V},X.Nodup->CapAt H c f->X[j]?=gV y->f[j]?=gV v->∃b o u,(X.zip (c.map (·.1))).lookup y=gV b/\H b=gV (dE b o)/\o.data=.cell (gV u)/\RelV v u
 |[],_,_,_,_,_,_,_,_,e,_=>by simp at e
 |_::_,_,_,_,_,_,_,_,.nil,_,e=>by simp at e
 |x::X,(a,O)::c,w::f,H,0,y,v,_,.cons r _,g,i=>by
  simp at g i;subst g i;obtain⟨h,u,d,k⟩:=r;exact⟨a,O,u,by simp,h,d,k⟩
 |x::X,(a,O)::c,w::f,H,j+1,y,v,n,.cons _ t,g,i=>by
  obtain⟨N,l⟩:=PJ.mp n;have E:X[j]?=gV y:=by assumption
  obtain⟨b,o,u,z,r⟩:=uC l t E (by simpa using i);refine⟨b,o,u,?_,r⟩;have m:y≠x:=λq=>N<|q▸N5 E;show((x,a)::X.zip _).lookup y=gV b
  rw[Q2];have p:(y == x)=false:=by simpa using m
  rwa[p]
theorem xJ:∀{X:ab Str} {A:ab J'} {y:Str},X.length<=A.length->y∈X->∃c,(X.zip A).lookup y=gV c
 |[],_,_,_,h=>by simp at h
 |_::_,[],_,h,_=>by simp at h
 |x::X,a::A,y,H,h=>by
  show∃c,((x,a)::X.zip A).lookup y=gV c
  rw[Q2];cases b:(y == x)with
  |true=>exact⟨a,rfl⟩
  |false=>
   exact xJ (Nat.le_of_succ_le_succ H)<|by simp_all
theorem xK{x:ab Str}{C:eA}{y:Str}{c:J'}(e:(x.zip (C.map (·.1))).lookup y=gV c):∃o,(c,o)∈C:=by
 have m:=(SY<|PD e).2;simp_all
theorem qp:∀(X:ab Str) (A:ab J'),A.Nodup->((X.zip A).map (·.2)).Nodup
 |[],_,_=>by simp
 |_::_,[],_=>by simp
 |x::X,a::A,h=>by
  obtain⟨H,c⟩:=PJ.mp h;refine PJ.mpr ⟨λm=>H ?_,qp X A c⟩;obtain⟨⟨y,b⟩,d,rfl⟩:=OH.mp m;exact(SY d).2
theorem mG:∀{c:eA} {b:J'} {o:Obj},(b,o)∈c->∃O,c.lookup b=gV O
 |[],_,_,h=>by simp at h
 |(a,d)::c,b,o,h=>by
  rw[Q2];cases H:(b == a)with
  |true=>exact⟨d,rfl⟩
  |false=>
   have n:b≠a:=by simpa using H
   exact mG<|(Oz.mp h).resolve_left λz=>n<|O1 Z5 z
inductive B1 (P:Om)(w:OI)(K:C')(mg:Str->M' NX)(base:Pd)(k:Nat)(f:J')(qual:Str)(params:Sy)(body:Px)(e:RY)(x:Str)(xs:ab Str)(vs:ab V)(H:Hp)(Q:VK):Prop
 |mk (v:V)(C:eA)(U:ab V)(h0:vs=[v])(a:LamAt H f qual params body e (xs.zip (C.map (·.1))))(b:CapAt H C U)(d:xs.length=U.length)(g:(C.map (·.1)).Nodup)
  (i:∀(c:J') (A:PL) (outer:ab Env) (s:Od),Room k (A.deeper (UK qual e s.heap.objs.size f (.ref c) (xs.zip (C.map (·.1)))))->
   ∃t,PE (Hr P w K mg base (x::xs) qual e f c (xs.zip (C.map (·.1))) A outer s<|less H C) body t/\t (gV v::U.map gV) (less H C) (λu h=>Q u<|ja h C)):B1 P w K mg base k f qual params body e x xs vs H Q
theorem paired_len{a b:Type}{F:a->b->Prop}:∀{l:ab a} {L:ab b},Paired F l L->l.length=L.length:=by
 intro l L h;induction h with
 |nil=>rfl
 |cons r t i=>rw[OG,OG,i]
theorem FO{P:Om}{w:OI}{K:C'}{mg:Str->M' NX}{T:Pd}{k:Nat}{f:J'}{G:Str}{M:Sy}{U:Px}{g:RY}{x:Str}{X:ab Str}{sp:Sp}(S:uB x X g)(a3:∀an pm am u c,Ym (PySem.W.kla_fn "<lambda>" G M U g an pm (.ref c) am) ⟨[u],[]⟩=pure [(x,u)])
  (h:∀vs H Q E,sp vs H Q E->B1 P w K mg T k f G M U g x X vs H Q):JK P w K mg T (k+1) f sp:=by
 intro A O s H us vs Q E hr D r a4;obtain⟨v,C,Vc,rfl,⟨pm,am,c,hf,c',oc,a5,tq,ec,hc,a6,hq⟩,Y,as,a7,R3⟩:=h vs H Q E a4;cases ec;obtain⟨u,rfl,ru⟩:=eT r;have a8:C.length=Vc.length:=paired_len Y;have of:=gr D.hok hf;have a9:s.heap.CodeRec (.ref c) G:=⟨c,oc,a5,tq,rfl,gr D.hok hc,a6,hq⟩;have ba:s.heap.NoLimit:=D.mod.nolimit.keeps λb o e=>(D.bs b o e).1;refine PySem.W.kla_callFunE hr.depth of rfl S.co S.gen rfl a9 ?_;rw[show Ym _ _=_ from a3 _ pm am u c];refine Oq<|wpAny_newFunctionEnv S.nocell (λy Z=>?_) (λac bb av=>⟨ba.keeps λb o e=>?_,?_⟩) S.kind
 ·obtain rfl:y=(x,u):=Ob.mp Z;exact S.par
 ·exact av.extBut b o (OL<|Ov e)<|Oe _ e
 show codeAny _ _ (.expr U (UK G g s.heap.objs.size f (.ref c) (X.zip (C.map (·.1))))) _ _
 have B:∀b o,s.heap.get? b=gV o->ac.get? b=gV o:=λb o e=>av.extBut b o (OL<|Ov e)<|Oe _ e;obtain⟨t,ht,bc⟩:=R3 c A O s<|hr.deeper _;have L:∀b o,C.lookup b=gV o->H b=gV (dE b o):=Y.look;have az:∀b o,(b,o)∈C->∃F,C.lookup b=gV F/\H b=gV (dE b F):=λb o m=>by
  obtain⟨F,e⟩:=mG m;exact⟨F,e,L b F e⟩
 have UP:∀b u,H b=gV u->(∀o,u≠dE b o)->C.lookup b=none:=λb u e n=>by
  obtain z|⟨o,z⟩:=aZ C b
  ·exact z
  rw[L b o z]at e;cases e;exact absurd rfl<|n o
 have aC:∀b,H b=NZ->C.lookup b=none:=λb e=>by
  obtain z|⟨o,z⟩:=aZ C b
  ·exact z
  rw[L b o z]at e;cases e
 have aF:HOk P w (less H C) s.heap:=λb u' e=>by
  have e':H b=gV u':=qo _ _ e;refine(D.hok b u' e').stay (λR R R y=>y) (λd y=>?_) λd zs y=>?_
  ·rw[bY<|UP d _ y λo z=>nomatch z];exact y
  rw[bY<|UP d _ y λo z=>nomatch z];exact y
 have bd:∀b,s.heap.objs.size<=b->less H C b=none:=λb N=>aF.fresh N;have W:∀b,H b=NZ->less H C b=none:=λb e=>by
  rw[bY<|aC b e];exact e
 have I:Inv (Hr P w K mg T (x::X) G g f c (X.zip (C.map (·.1))) A O s<|less H C) [] (gV v::Vc.map gV) (less H C) {s with heap:=ac,toks:=s.toks+[(x,u)].length}:=by
  refine⟨⟨D.mod,S.kind,rfl,rfl,N9 _,λy z c h1 h2=>?_,λy Z=>?_,λy c hz=>absurd (show N8=NW from hz) N6,λR=>hr.hd,WV D.frames,.inr ⟨rfl,rfl⟩,λb z=>absurd (show b∈([]:ab J')from z) (by simp),λb o e=>⟨(D.bs b o e).1,W b (D.bs b o e).2⟩,D.bsz,λb R R z=>absurd (show b∈([]:ab J')from z) (by simp),λb z=>absurd (show b∈([]:ab J')from z) (by simp),D.funs,λb N=>W b<|D.frf b N⟩,
   rfl,D.bare,Un.kept B,⟨_,bb,λi y v' h1 h2 h3=>?_⟩,λy c h=>?_,bd _<|N9 _,λy c h=>?_,λp hp=>absurd (show p∈([]:ab (J'×Obj))from hp) (by simp),aF.kept B,?_⟩
  ·exact Yl (Pq.mp<|qp X _ a7) (PD h1)<|PD h2
  ·have Z:g.names.lookup y=gV .cell\/g.names.lookup y=gV .free:=Z;obtain Z|Z:=Z
   ·exact absurd rfl<|S.nocell _<|PD Z
   exact xJ (by rw[B',a8,as];exact N9 _)<|S.all _ (PD Z) rfl
  ·replace h1:(x::X)[i]?=gV y:=h1;cases i with
   |zero=>
    simp at h1 h2;subst h1 h2;exact⟨u,ru,.inl ⟨S.par,by simp⟩⟩
   |succ j=>
    have aL:X[j]?=gV y:=by simpa using h1
    have bf:Vc[j]?=gV v':=by
     have q:(Vc.map gV)[j]?=gV (gV v'):=by simpa using h2
     rw[Ox]at q;obtain⟨a,ha,e⟩:=PZ.mp q;cases e;exact ha
    obtain⟨b,o,u',z1,z2,z3,z4⟩:=uC S.nd Y aL bf;exact⟨u',z4,.inr ⟨.inr<|S.fr y<|N5 aL,b,z1,o,B _ _<|gr D.hok z2,z3⟩⟩
  ·obtain⟨o,m⟩:=xK h;obtain⟨F,e,z⟩:=az c o m;have cd:∃u,F.data=.cell (gV u):=by
    have bg:∀{l:eA} {cp:ab V},CapAt H l cp->∀b o,l.lookup b=gV o->∃u,o.data=.cell (gV u):=by
     intro l
     induction l with
     |nil=>intro cp R b o e;simp at e
     |cons a l ih=>
      intro cp hc b o e;cases hc with
      |cons r t=>
       obtain⟨a1,a2⟩:=a;rw[Q2]at e;cases N:(b == a1)with
       |true=>
        rw[N]at e;cases e;obtain⟨R,u,d,R⟩:=r;exact⟨u,d⟩
       |false=>
        rw[N]at e;exact ih t b o e
    exact bg Y c F e
   obtain⟨u',d'⟩:=cd;exact⟨gV u',F,B _ _<|gr D.hok z,d'⟩
  ·obtain⟨o,m⟩:=xK h;obtain⟨F,e,z⟩:=az c o m;exact jZ e
  show(gV v::Vc.map gV).length=(x::X).length
  rw[OG,OG,B',as]
 refine PySem.W.kla_codeExpr<|Qk (ht [] _ _ _ _ I bc) (λu2 s' hs=>?_) λe s' hs=>P2 hs;obtain⟨v2,H',J,rv,q⟩:=hs;have un:Un (vj O) [] (less H C) H' s.heap _:=J.base;have bk:=λb o e n N=>un.keep b o e (W b n) N (by show b∉([]);simp);have bl:=λb o z=>by
  refine un.keep b o (gr D.hok<|L b o z) (jZ z) (λN=>?_) (by show b∉([]);simp);have y:=D.frf b N;rw[L b o z]at y;cases y
 have a0:=λb o z=>un.free b o (gr D.hok<|L b o z) (jZ z) (by simp);refine⟨v2,ja H' C,J.os,J.bare,⟨λb o e n N hx=>bk b o e n N,λb o e n N hx=>un.slot b o e (W b n) N hx,λb o e n hx=>?_,λb o e hx=>un.there b o e hx,λb zs e=>?_,λb o z e=>?_,λb qs e=>?_⟩,λb u' e=>?_,rv,q⟩
 ·rw[bj<|aC b n];exact un.free b o e (W b n) hx
 ·have z:=UP b _ e λo z=>nomatch z
  rw[bj z];exact un.tups b zs (by rwa[bY z])
 ·obtain y|⟨F,y⟩:=aZ C b
  ·rw[bj y];exact un.frzs b o z (by rwa[bY y])
  rwa[gZ y,<-L b F y]
 ·have z:=UP b _ e λo z=>nomatch z
  rw[bj z];exact un.tbls b qs (by rwa[bY z])
 obtain y|⟨F,y⟩:=aZ C b
 ·rw[bj y]at e;refine(J.hok b u' e).stay (λR R R y=>y) (λd y'=>?_) λd zs y'=>?_
  ·obtain z|⟨F,z⟩:=aZ C d
   ·rwa[bj z]
   rw[a0 d F z]at y';cases y'
  obtain z|⟨F,z⟩:=aZ C d
  ·rwa[bj z]
  rw[a0 d F z]at y';cases y'
 rw[gZ y]at e;cases e;exact jY<|bl b F y
theorem JM{X:Cx}{j:Nat}{k:Nat}{f:J'}{F:Ol}{a:ab Str}{s:Sp}{x:Str}{p:Pos}{P:Pos}{e:Px}{E:ab Px}{t:TA}(n:ab Str)(G:Fn X.prog X.w X.K X.mg X.base j x f F a s)(r:Room k X.A)(h:j<=k)(g:Gl X x)(H:∀x,X.fn x=NW)(v:∀y∈n,X.env.kindOf y=gV .cell)(c:PA X (e::E) t)(b:(x == ("__debug__":Str))=false:=by decide)
  (d:OS (e::E) X.env=(N8,Qm e X.env)::OS E X.env:=by rfl) (u:(Rc P<|OS E X.env).any (·.1)=false:=by rfl):
  PE X (.Call (.Name x p) (e::E) [] P) (BX X n s t):=BY G.ok (r.mono h) g G.at_ G.kp G.b c H v b d u
structure FunL (K:C')(x qual:Str)(st:Pn)(f:J')(fd:Ol)(c:J'):Prop where
 ex:∃(oc:NX) (od:M' J') (kV Yd pm:NX) (an:M' J') (ct:NX) (osl:Qs (M' NX)),
  fd=Q9 x qual (ft st) (cX st) (aJ st) .none kV Yd pm an (.ref c) ct/\K.lookup f=gV ⟨oc,od,.func fd,osl⟩/\Tq K (.ref c) qual=NW
section
variable {K:C'}
theorem FunL.ok{P:Om}{w:OI}{M:Str->M' NX}{b:Pd}{x l:Str}{st:Pn}{f c:J'}{i:Ol}{N p:ab Str}{k:Nat}{a:Sp}(F:FunL K x l st f i c)(S:dk N p (aJ st))(m:∀v H Q E,a v H Q E->v.length=p.length)
  (d:∀A o s H v Q E,Room k (A.deeper<|QY l (aJ st) s.heap.objs.size f<|.ref c)->a v H Q E->
   ∃t,PSs (rg a_ P w K M b N l (aJ st) f (.ref c) A o s H E).nox (cX st) t/\t {nx:=λY j=>Q .non j,rt:=Q} (start N v) H):ay P w K M b a_ (k+1) f i p a:=by
 obtain⟨n,u,kV,Z,y,z,C,O,rfl,L,e⟩:=F.ex;refine G0 L e S m λA o s H v Q E r g=>?_;obtain⟨t,h,q⟩:=d A o s H v Q E r g;exact⟨t,h.nox,q⟩
theorem FunL.toFun{x q:Str}{st:Pn}{f c:J'}{d:Ol}(F:FunL K x q st f d c)(k:P_ K (.ref f)=NW):Fun K x q st f d:=by
 obtain⟨O,a,kV,Z,p,A,C,o,e,l,h⟩:=F.ex;exact⟨⟨O,a,kV,Z,p,A,.ref c,C,o,e,l,h⟩,k⟩
end
def Hs(o:Obj)(T:J'):Prop:=∃(v:Qs NX) (a:Str) (t:Tok) (A:Int) (g:Tok) (i:N') (O:Int) (b:Tok),o.cls=.type "code"/\o.data=.fields v/\v[11]?=gV (.ref T)/\v.getD 11 .none=.ref T/\v.getD 18 .none=.str a t/\
  v.getD 7 .none=.int A g/\v.getD 9 .none=.bool i/\v.getD 10 .none=.int O b
theorem qq{K:C'}{h:Pd}{c T:J'}{o:Obj}(X:K.In h)(l:K.lookup c=gV o)(p:Hs o T)(n:c≠T):RU h c T:=by
 obtain⟨v,a,t,A,g,i,N,b,H,d,e,f,j,k,m,q⟩:=p;exact⟨o,v,a,t,A,g,i,N,b,X _ _ l,H,d,e,f,j,k,m,q,n⟩
def BM(m:Str->M' NX)(h:Pd):Prop:=∃b o,m "__builtins__"=gV (.ref b)/\b≠T6/\h.get? b=gV o/\o.cls=.type "module"/\o.dict=gV T6/\o.data=.plain
theorem zI{P:Om}{w:OI}{K:C'}{y mb:Str->M' NX}{k:Nat}{fa a:J'}{fd:Ol}{x:Str}{sp:Sp}{f:Od}{i:ab NX}{E:ab Int}(t:ab J')
  (KX:K.In f.heap) (G:f.heap.Ns OY y) (g:f.heap.Ns T6 mb) (ac:∀x:Str,x≠"__name__"->mb x=To x) (am:BM y f.heap) (an:f.heap.NoLimit) (hg:f.gens=#[])
  (I:f.heap.get? a=gV {cls:=.type "list",data:=.seq i.toArray}) (hi:RQ i E) (hl:E.length<=sizeLine) (hr:Room k Xe)
  (hT:∀T∈t,f.heap.get? T=gV (Sn #[])) (as:∀T∈t,K.lookup T=NZ) (av:∀T∈t,∃c,RU f.heap c T)
  (F:∀B:Pd,K.In B->B.Ns OY y->BM y B->ay P w K y B a_ k fa fd [x] sp) (az:∀(s:Od) (u:NX),Yu s fd ⟨[u],[]⟩ [(x,u)])
  (aC:∀H:Hp,(∀T∈t,H T=gV (.tbl #[]))->SqL K H a (E.map V.int)->sp [.ref a] H (λv _=>v=.bl NW) λ_ _ _=>False):
  codeAny (OU P w) Xe (.call (.ref fa) ⟨[.ref a],[]⟩) (λr l=>r=.ok (.ret<|.bool NW)/\OldK f.heap l.heap/\l.os=f.os/\Vs l.gens) f:=by
 have rv:=iR hi;have aF:=hi.length;have N:∀T∈t,T≠a:=λT h z=>by
  have e:=hT T h;rw[z,I]at e;cases e
 have J:∀H:Hp,(∀b,H b≠NZ->b∈t\/b=a)->(∀T∈t,H T=gV (.tbl #[]))->(∀u,H a=gV u->∃o,u=.frz o (.lst<|E.map V.int))->SqL K H a (E.map V.int)->HOk P w H f.heap->(H a≠NZ->K.lookup a=NZ)->
   codeAny (OU P w) Xe (.call (.ref fa) ⟨[.ref a],[]⟩) (λr l=>r=.ok (.ret<|.bool NW)/\OldK f.heap l.heap/\l.os=f.os/\Vs l.gens) f:=by
  intro H hA L aL hS O hK;have A:∀{b:J'} {o:Obj},f.heap.get? b=gV o->H b=NZ->(pL f.heap H).get? b=gV o:=λe n=>AO e n;have Q:∀{b:J'} {o:Obj},f.heap.get? b=gV o->(∀i n,o.data≠.seq i n)->(∀i,o.data≠.fields i)->H b=none:=λ{b o} e d1 d2=>by
   cases q:H b with
   |none=>rfl
   |some u=>
    obtain h|h:=hA b (by rw[q];simp)
    ·rw[hT b h]at e;cases e;exact absurd rfl<|d2 _
    subst h;rw[I]at e;cases e;exact absurd rfl<|d1 _ _
  have p:∀{b:J'} {m:Str->M' NX},f.heap.Ns b m->(pL f.heap H).Ns b m:=λ{b m} ⟨o,es,ep,e,d,r⟩=>⟨o,es,ep,A e (Q e (λi n z=>by rw[d]at z;cases z) λi z=>by rw[d]at z;cases z),d,r⟩;have U:K.In (pL f.heap H):=λb o e=>A (KX b o e) (by
   cases q:H b with
   |none=>rfl
   |some u=>
    obtain h|h:=hA b (by rw[q];simp)
    ·rw[as b h]at e;cases e
    subst h;rw[hK<|by rw[q];simp]at e;cases e)
  have a0:BM y (pL f.heap H):=by
   obtain⟨bm,ob,b1,b2,b3,b4,b5,b6⟩:=am;exact⟨bm,ob,b1,b2,A b3 (Q b3 (λi n z=>by rw[b6]at z;cases z) λi z=>by rw[b6]at z;cases z),b4,b5,b6⟩
  have hM:Mod K y (pL _ H):=⟨U,p G,⟨mb,p g,ac⟩,let ⟨mc,h1,h2⟩:=an;⟨mc,p h1,h2⟩⟩;have e0:Env0 P w K y (pL _ H) Xe [] f H:=⟨rfl,hM,λb o e=>EV e,Tw<|yY _ _,trivial,λb g=>absurd (show b∈([])from g) (by simp),O,.of_eq hg⟩;refine Tn ((F _ U (p G) a0).run Xe [] f H _ [.ref a] [.ref a] _ _ hr e0 (az f<|.ref a) (.cons rfl .nil)<|aC H L hS) λr l h=>?_;cases r with
  |error e=>exact P2 h
  |ok fl=>
   cases fl with
   |next=>exact P2 h
   |brk=>exact P2 h
   |cont=>exact P2 h
   |ret u=>
    obtain⟨v,H',os,W,un,X,r',q⟩:=h;have q':v=.bl _:=q;subst q';obtain rfl:u=XM _:=r';have Y:∀b o,f.heap.get? b=gV o->l.heap.get? b=gV o\/(b∈t/\o=Sn #[]/\∃M,l.heap.get? b=gV (Sn M)):=λb o e=>by
     cases q:H b with
     |none=>exact .inl (un.keep b o e q (by intro z;exact absurd (show b∈([])from z)<|by simp)<|by simp)
     |some u=>
      obtain z|z:=hA b (by rw[q];simp)
      ·obtain⟨M,D⟩:=un.tbls b #[]<|L b z;rw[hT b z]at e;cases e;exact .inr ⟨z,rfl,_,X b _ D⟩
      subst z;obtain⟨ob,rfl⟩:=aL u q;have D:=un.frzs b ob _ q;obtain⟨e1,_⟩:=O b _ q;obtain⟨e2,_⟩:=X b _ D;rw[e]at e1;cases e1;exact .inl e2
    refine⟨rfl,⟨λb o e=>?_,λb o e=>?_⟩,os,W⟩
    ·obtain z|⟨g,rfl,M,z⟩:=Y b o e
     ·exact .inl z
     obtain⟨c,C⟩:=av b g;exact .inr<|.inl ⟨(C.tab<|hT b g).isCodeTable,rfl,#[],M,rfl,by rw[z];simp⟩
    obtain z|⟨_,_,M,z⟩:=Y b o e
    ·exact⟨o,z⟩
    exact⟨_,z⟩
 cases hk:K.lookup a with
 |some o=>
  have e:=KX a o hk;rw[I]at e;cases e;refine J (λb=>if b∈t then gV _ else NZ) (λb z=>?_) (λT h=>On h) (λu z=>?_) (.inr ⟨_,i.toArray,_,hk,rfl,rfl,rfl,by rwa[Ot,aF],by simpa using rv⟩) (λb u z=>?_) λz=>?_
  ·by_cases g:b∈t
   ·exact .inl g
   exact absurd (Oo g) z
  ·have Z:=(Oo λh=>N a h rfl).symm.trans z;cases Z
  ·by_cases g:b∈t
   ·have Z:=(On g).symm.trans z;cases Z;exact hT b g
   have Z:=(Oo g).symm.trans z;cases Z
  ·exact absurd (Oo λh=>N a h rfl) z
 |none=>
  refine J (λb=>if b∈t then gV _ else if b=a then gV (.frz {cls:=.type "list",data:=.seq i.toArray}<|.lst<|E.map _)else NZ) (λb z=>?_) (λT h=>On h) (λu z=>?_)
   (.inl<|.inr ⟨{cls:=.type _,data:=.seq _},(Oo λh=>N a h rfl).trans<|On rfl⟩) (λb u z=>?_) λ_=>hk
  ·by_cases g:b∈t
   ·exact .inl g
   by_cases j:b=a
   ·exact .inr j
   exact absurd ((Oo g).trans<|Oo j) z
  ·have Z:=((Oo λh=>N a h rfl).trans<|On rfl).symm.trans z;cases Z;exact⟨_,rfl⟩
  by_cases g:b∈t
  ·have Z:=(On g).symm.trans z;cases Z;exact hT b g
  have Z:=(Oo g).symm.trans z;by_cases j:b=a
  ·have D:=(On j).symm.trans Z;cases D;subst j;exact⟨I,by rwa[B'],i,_,rv,I⟩
  have D:=(Oo j).symm.trans Z;cases D
theorem walk_ofT{l:V1}{n k:Nat}{q:Om}{loose:ab Str}{X:(Str->M' NX)->Pd->Prop}{z:OI->Pd->Prop}{d:DefRec}{K:YV->C'}{B:OI->Sp}{x:Str}(t:ab J')
  (I:l.most=gV n) (g:n<=sizeLine) (i:d.params.defaults=[]) (J:Room k Xe)
  (M:∀(w:OI) (h:Pd),z w h->(K w.params).In h/\∀T∈t,h.get? T=gV (Sn #[])) (j:∀P:YV,(t.all λT=>((K P).lookup T).isNone)=NW)
  (F:∀(w:OI) (m:Str->M' NX) (e:J') (h:Pd),(K w.params).In h->h.Ns OY m->m d.name=gV (.ref e)->
   ∃p:Ol,(∀(s:Od) (u:NX),Yu s p ⟨[u],[]⟩ [(x,u)])/\(∀T∈t,∃c,RU h c T)/\
    ∀b:Pd,(K w.params).In b->b.Ns OY m->BM m b->ay l.prog w (K w.params) m b a_ k e p [x] (B w))
  (r:∀(w:OI) (H:Hp) (a:J') (N:ab Int),N.length<=n->(∀T∈t,H T=gV (.tbl #[]))->SqL (K w.params) H a (N.map V.int)->B w [.ref a] H (λv S=>v=.bl NW) λS S S=>False):
  YS q loose X z l.row.toRowW d [] (λf C=>XG f C):=by
 refine Att.attach_call I i λw D E m mb e o pm cd ZA a C N G Y ho hd O y A L Q U=>?_;obtain⟨KX,hT⟩:=M w _ Y;obtain⟨p,W,Z,hF⟩:=F w m e _ KX G.T.g y;exact zI t KX G.T.g G.T.b G.T.builtins G.T.bmain G.T.nolimit U A L (O8 Q g) J hT (λT h=>Option.isNone_iff_eq_none.mp<|O2.mp (j _) T h) Z hF W λH h1 h2=>r w H a N Q h1 h2
noncomputable def Nn:Px:=.Constant .none 0 ⟨0,0,0,0⟩
noncomputable def No:ab Pn->Px
 |.Return (gV e) _::_=>e
 |_=>Nn
noncomputable def Np:Px->Nat->Px
 |.Call _ e _ _,i=>e.getD i Nn
 |_,_=>Nn
noncomputable def JN:Px->Sy
 |.Lambda a _ _ _=>a
 |_=>{posonlyargs:=[],args:=[],vararg:=NZ,kwonlyargs:=[],kw_defaults:=[],kwarg:=NZ,defaults:=[]}
noncomputable def JO:Px->Px
 |.Lambda _ b _ _=>b
 |e=>e
noncomputable def JP:Px->RY
 |.Lambda _ _ s _=>s
 |_=>{kind:=.function,names:=[],isGenerator:=N8,isCoroutine:=N8}
noncomputable def Nq:Px->Pos
 |.Lambda _ _ _ p=>p
 |_=>⟨0,0,0,0⟩
theorem Off.same(k:Off T H h)(a:Same h c):Off T H c:=λb o n e=>a _ _<|k b o n e
theorem Off.trans(k:Off T H h)(a:Off T h c):Off T H c:=λb o n e=>a b o n<|k b o n e
theorem Off.of(k:Same H h):Off T H h:=λb o z e=>k b o e
theorem Off.at_(k:Off T H h)(t:TabAt H T P q)(e:H b=gV o)(n:∀p,o≠.tbl p):h b=gV o:=by
 refine k b o (λz=>?_) e;obtain⟨p,E,y⟩:=t;grind
theorem CapAt.less(c:CapAt H C v)(e:H b=gV u)(n:∀o,u≠dE b o):less H C b=gV u:=by
 obtain z|⟨o,z⟩:=aZ C b
 ·rwa[bY z]
 rw[c.look b o z]at e;grind
mutual
theorem rG(k:∀b X,H b=gV (.lst X)->g b=gV (.lst X))(t:∀b X,H b=gV (.tup X)->g b=gV (.tup X)):∀d v,RD H d v->RD g d v
 |.none,v,h=>by unfold RD at h ⊢;exact h
 |.bool b,v,h=>by unfold RD at h ⊢;exact h
 |.int i,v,h=>by unfold RD at h ⊢;exact h
 |.str x,v,h=>by unfold RD at h ⊢;exact h
 |.list D,v,h=>by
  obtain⟨a,X,e,c,f⟩:=eU h;subst e;exact f_ (k _ _ c)<|oz k t D X f
 |.tuple D,v,h=>by
  obtain⟨a,X,e,c,f⟩:=al h;subst e;exact bx (t _ _ c)<|oz k t D X f
 |.dict _,v,h=>by
  unfold RD at h;exact h.elim
theorem oz(k:∀b x,H b=gV (.lst x)->a b=gV (.lst x))(t:∀b x,H b=gV (.tup x)->a b=gV (.tup x)):∀D x,dH H D x->dH a D x
 |[],x,h=>by unfold dH at h ⊢;exact h
 |d::D,x,h=>by
  unfold dH at h ⊢;obtain⟨y,Y,e,c,f⟩:=h;exact⟨y,Y,e,rG k t d y c,oz k t D Y f⟩
end
theorem B2(r:RD H d v)(k:Off T H h)(t:TabAt H T p q):RD h d v:=
 rG (λy y e=>k.at_ t e λy z=>nomatch z) (λy y e=>k.at_ t e λy z=>nomatch z) d v r
theorem FP(r:RD H d v)(c:CapAt H C U):RD (less H C) d v:=
 rG (λy y e=>c.less e λy z=>nomatch z) (λy y e=>c.less e λy z=>nomatch z) d v r
end L2
namespace L2
theorem TabAt.start(h:H T=gV (.tbl #[])):TabAt H T p q:=⟨#[],h,trivial,λc e=>nomatch e⟩
end L2
namespace L2
open PySem
theorem zJ(Pv:Nat->St->ab V->Hp->Prop)(k:Pv 0 f [] (upd l D<|.lst []))(n:∀i b Y H,i<=X.length->Pv i b Y H->H D=gV (.lst Y)/\SqL K H a X)
  (s:∀i x b Y H t,X[i]?=gV x->Pv i b Y H->H t=NZ->g (.ref t) b (upd H t<|.tup [.int (i:Nat),x]) λd o=>T d o λc h=>if c=NW then u d h λy j=>j D=gV (.lst Y)/\Y.length<sizeLine/\Pv (i+1) d (Y++[y]) (upd j D<|.lst<|Y++[y])else Pv (i+1) d Y h)
  (w:∀b Y H,Pv X.length b Y H->Q (.ref D) H):gb (JA K a) D g T u f l Q:=by
 exists λi m b Y H=>m=X.length-i/\i<=X.length/\Pv i b Y H,⟨X.length,by simp,Oy _,k⟩;rintro i m b Y H ⟨rfl,z,p⟩;obtain⟨A,q⟩:=n i b Y H z p;exists A;by_cases r:i<X.length
 ·refine .inr ⟨⟨X,X[i],q,by simp⟩,Pv<|i+1,λB C E P=>⟨X.length-(i+1),by lia,rfl,r,P⟩,λx E y=>?_⟩;obtain⟨t,v,F,rfl,rfl,y⟩:=y;exact s i v b Y H t (y X q) p F
 have e:i=X.length:=by lia
 subst e;exact .inl ⟨⟨X,q,N9 _⟩,w b Y H p⟩
end L2
namespace L2
open PySem PySem.Spec PyProof.Rows
def LK:V->Hp->VK->Prop:=λx H Q=>∃n:Nat,x=.int (n:Int)/\n<=1000/\∀l:J',H l=NZ->Q (.ref l) (upd H l<|.lst ((O7 n).map λi:Nat=>V.int (i:Int)))
theorem qr(k:Nat):∀U,(∀j v,U[j]?=gV v->∃t,v=Td ((k+j:Nat):Int) t)->Vals ((List.range' k U.length).map λi:Nat=>V.int (i:Int)) U
 |[],_=>.nil
 |u::U,h=>by
  refine .cons (h 0 u rfl) ?_;have H:=qr (k+1) U λj v a=>by
   obtain⟨t,e⟩:=h (j+1) v a;grind
  exact H
theorem v_(H:u.length=n)(h:∀(j:Nat) (v:NX),u[j]?=gV v->∃t,v=Td (0+(j:Int)*1) t):Vals ((O7 n).map λi:Nat=>V.int (i:Int)) u:=by
 subst H;rw[List.range_eq_range'];exact qr 0 u λj v a=>by
  simp_all
theorem zK{P p B a:Pos}(F:X.calm=NW)(l:Gl X "list")(m:X.mg "list"=NZ)(r:Gl X "range")(w:X.mg "range"=NZ)(G:PE X e T)
  (C:OS [e] X.env=[(N8,Qm e X.env)]:=by rfl) (d:OS [.Call (.Name "range" p) [e] [] a] X.env=[(N8,Qm (.Call (.Name "range" p) [e] [] a) X.env)]:=by rfl):
  PE X (.Call (.Name "list" P) [.Call (.Name "range" p) [e] [] a] [] B) (λk H Q=>T k H λx f=>LK x f Q):=by
 intro O s k H Q I h;refine Qd<|eF I l m RO<|PY ?_ d rfl;show wpAny _ _ (spliced<|(N8,Qm _ _)::Rc B _) _ _ s
 refine Ta<|Qd<|eF I r w XT<|PY (bN (aV G (ik) (by rw[C];rfl) a O s k H (BA λx f=>LK x f Q) I h) λus g ⟨vs,f,D,J,y⟩=>?_) C rfl;obtain⟨x,L,n,rfl,M,q⟩:=jR y;subst L;obtain⟨u,rfl,N⟩:=eT J;obtain⟨t,rfl⟩:=N;refine call_range_1<|Vq ?_;have E:Inv X O k f {g with heap:=g.heap.push {cls:=.type "range",data:=.fields #[.int 0 g.toks,.int (n) t,.int 1<|g.toks+1]},toks:=g.toks+1+1}:=D.kept λb o e=>Oe _ e;refine call_list_range (n:=n) (D.ok.hd F) (Y_ ..) (small_one (by simp) (by simp) (by simp)<|by lia) (by rw[aaA];simp_all) (by lia) λU W z c Y Z A=>?_;have hl:=A.1
 have rv:Vals _ _:=v_ hl λj v hv=>A.2 j v (by simpa using hv);have hz:((O7 n).map λi:Nat=>V.int (i)).length<=sizeLine:=by
  rw[B',PB];exact OW<|ah M
 refine⟨.ref _,_,E.laid Y (N9 _) (show ObjOk _ X.w _ U _ (.lst _)from⟨hz,z.toList,c,rv,by simpa using Z⟩),rfl,q _<|E.hok.fresh<|N9 _⟩
end L2
namespace L2
open PySem
def TupAt(H:Hp)(z:ab V)(y:V):Prop:=∃p,y=.ref p/\H p=gV (.tup z)
theorem TupAt.mono(h:TupAt H z y)(k:Same H a):TupAt a z y:=let ⟨p,e,g⟩:=h;⟨p,e,k _ _ g⟩
theorem TupAt.upd(h:TupAt H Z y)(a:H D=gV (.lst Y)):TupAt (upd H D o) Z y:=by
 obtain⟨p,e,g⟩:=h;exact⟨p,e,by rwa[af λz=>by simp_all]⟩
inductive uD (Q:St)(h:Hp)(D:J')(P:ab V->Prop)(i:Nat)(a:St)(ys:ab V)(H:Hp):Prop
 |mk (v:M' V)(h0:a=v::Q)(b:ys.length=i)(c:H D=gV (.lst ys))(d:Same h H)(e:∀y∈ys,∃zs,P zs/\TupAt H zs y)
theorem qt(c:b D=NZ)(d:P Z)(J:uD Q b D P i (v::Q) Y H)(e:H p=NZ)(o:i<=900):
  upd H p (.tup Z) D=gV (.lst Y)/\Y.length<sizeLine/\uD Q b D P (i+1) (v::Q) (Y++[.ref p]) (upd (upd H p<|.tup Z) D<|.lst<|Y++[.ref p]):=by
 obtain⟨x,x,f,g,j,l⟩:=J;have k:=ad e<|.tup Z;have h:=k _ _ g;refine⟨h,ah (by lia),_,rfl,by rw[N0,f];rfl,aa,(j.trans k).upd_new c _,λy m=>?_⟩;obtain z|z:=Os.mp m
 ·obtain⟨a,G,n⟩:=l y z;exact⟨a,G,(n.mono k).upd h⟩
 rw[Ob.mp z];exact⟨Z,d,TupAt.upd ⟨p,rfl,aa⟩ h⟩
theorem jw(q:St)(P:ab V->Prop)(f:V->ab V)(E:d=NZ::q)(l:b a=gV (.lst X))(e:b D=NZ)(w:X.length<=900)(r:∀x∈X,P<|f x)
  (s:∀x∈X,∀H R,Same b H->(∀p,H p=NZ->R (.ref p) (upd H p<|.tup<|f x))->t (gV x::q) H R)
  (u:∀Y H,Same b H->H D=gV (.lst Y)->Y.length=X.length->(∀y∈Y,∃Z,P Z/\TupAt H Z y)->Q (.ref D) H):gb (AM K a) D (dF 0) Jz t d b Q:=by
 refine bB (xs:=X) (uD q b D P) ⟨NZ,E,rfl,aa,ad e _,λU z=>nomatch z⟩ ?_ ?_ ?_
 ·rintro i m Y g U ⟨U,U,U,c,h,U⟩;exact⟨c,SqL.of<|h _ _ l⟩
 ·rintro i x m Y g n ⟨A,rfl,j,c,h,k⟩;have o:=N5 n;have W:=(N4.mp n).1;exact cg (s x o _ _ h λp v=>qt e (r x o) ⟨_,rfl,j,c,h,k⟩ v<|OW (Pf W w))
 rintro m Y g ⟨U,U,j,c,h,k⟩;exact u Y g h c j k
theorem wa(q:St)(P:ab V->Prop)(f:V->ab V)(E:d=NZ::q)(l:b a=gV (.tup X))(e:b D=NZ)(w:X.length<=900)(r:∀x∈X,P<|f x)
  (s:∀x∈X,∀H R,Same b H->(∀p,H p=NZ->R (.ref p) (upd H p<|.tup<|f x))->t (gV x::q) H R)
  (u:∀Y H,Same b H->H D=gV (.lst Y)->Y.length=X.length->(∀y∈Y,∃Z,P Z/\TupAt H Z y)->Q (.ref D) H):gb (GW K a) D (dF 0) Jz t d b Q:=by
 refine nY (xs:=X) (uD q b D P) ⟨NZ,E,rfl,aa,ad e _,λU z=>nomatch z⟩ ?_ ?_ ?_
 ·rintro i m Y g U ⟨U,U,U,c,h,U⟩;exact⟨c,SqT.of<|h _ _ l⟩
 ·rintro i x m Y g n ⟨A,rfl,j,c,h,k⟩;have o:=N5 n;have W:=(N4.mp n).1;exact cg (s x o _ _ h λp v=>qt e (r x o) ⟨_,rfl,j,c,h,k⟩ v<|OW (Pf W w))
 rintro m Y g ⟨U,U,j,c,h,k⟩;exact u Y g h c j k
inductive Ht (Q:St)(h:Hp)(D:J')(xs:ab V)(P:V->Prop)(i:Nat)(a:St)(ys:ab V)(H:Hp):Prop
 |mk (v:M' V)(h0:a=v::Q)(b:ys.length<=i)(c:H D=gV (.lst ys))(d:Same h H)(e:∀y∈ys,y∈xs/\P y)
theorem fN(q:St)(P:V->Prop)(E:j=NZ::q)(r:d a=gV (.lst X))(l:d D=NZ)(w:X.length<=900)
  (t:∀x∈X,∀H R,Same d H->(∀b e,Same H e->(b=NW->P x)->R b e)->T (gV x::q) H R)
  (s:∀Y H,Same d H->H D=gV (.lst Y)->Y.length<=X.length->(∀y∈Y,y∈X/\P y)->Q (.ref D) H):gb (AM K a) D (dF 0) T (mN 0) j d Q:=by
 refine bB (xs:=X) (Ht q d D X P) ⟨NZ,E,N9 _,aa,ad l _,λZ z=>nomatch z⟩ ?_ ?_ ?_
 ·rintro i m Y f Z ⟨Z,Z,Z,c,h,Z⟩;exact⟨c,SqL.of<|h _ _ r⟩
 ·rintro i x m Y f n ⟨A,rfl,o,c,h,g⟩;have p:=N5 n;have W:=(N4.mp n).1;refine t x p f _ h λb B k u=>?_;cases b with
  |true=>
   refine ap ⟨_,rfl,k _ _ c,ah (by lia),_,rfl,by simp_all,aa,(h.trans k).upd_new l _,λy v=>?_⟩;obtain z|z:=Os.mp v
   ·exact g y z
   ·rw[Ob.mp z];exact⟨p,u rfl⟩
  |false=>exact ak ⟨_,rfl,aaa o,k _ _ c,h.trans k,g⟩
 rintro m Y f ⟨Z,Z,o,c,h,g⟩;exact s Y f h c o g
theorem JQ{Y:ab V}{k:Int}(H:0<=k)(a:k<(Y.length:Int)):∃y∈Y,kZ Y k=gV y:=by
 have h:k.toNat<Y.length:=by simp_all
 exists Y[k.toNat],Qv h;have:=aG (N1 h)
 rwa [Int.toNat_of_nonneg H]at this
end L2
namespace OD
open PySem L2
theorem c8:bE C b=NW↔∀c∈C,∃l∈c,hit b l=true:=by
 unfold bE;simp
theorem xL(h:1<=absI l)(H:absI l<=(b.length:Int)):hit b (-l)=!hit b l:=by
 have e:absI (-l)=absI l:=by
  obtain⟨z,e⟩|⟨z,e⟩:=aI l<;>obtain⟨z,E⟩|⟨z,E⟩:=aI (-l)<;>lia
 have d:decide (0 < -l)=!decide (0<l):=by
  by_cases g:0<l
  ·rw[N3 g,N7<|by lia];rfl
  rw[N7 g,N3 (by obtain⟨z,e⟩|⟨z,e⟩:=aI l<;>lia)];rfl
 unfold hit;rw[e,d,N1 (by lia)];lia
theorem dt:k∈cL z C↔∃c∈C,z∉c/\k=c.filter λo=>!decide (o=-z):=by
 unfold cL;rw[U8];constructor
 ·rintro⟨c,H,e⟩;unfold gX at e
  split at e
  ·cases e
  rename_i g;exact⟨c,H,λm=>g<|Of.mpr m,(OA e).symm⟩
 rintro⟨c,H,h,rfl⟩;exists c,H;unfold gX;rw[Oo λg=>h<|Of.mp g]
theorem eL{c:ab Int}{z l:Int}:(l∈c.filter λo=>!decide (o=z))↔l∈c/\l≠z:=by
 simp
theorem wb(h:1<=absI l)(H:1<=absI z)(a:l≠z)(b:l≠-z):(absI l-1).toNat≠(absI z-1).toNat:=λe=>by
 obtain g|g:=gJ (a:=z) (b:=l) (by omega)
 ·exact a g.symm
 exact b g
section
variable {cs:ab (ab Int)}
theorem oA(h:c∈cs):c=cs.getD i []\/c∈cs.take i++cs.drop (i+1):=by
 obtain⟨j,H,rfl⟩:=List.mem_iff_getElem.mp h;obtain g|g|g:=Tv j i
 ·exact .inr<|Qc _<|Pm.mpr ⟨j,by rw[Pj g,N1 H]⟩
 ·subst g;simp_all
 exact .inr<|O9 _<|Pm.mpr ⟨j-(i+1),by rw[X5,show i+1+(j-(i+1))=j by lia,N1 H]⟩
theorem FQ(H:j<cs.length)(h:i≠j):cs.getD j []∈cs.take i++cs.drop (i+1):=by
 rw[K'];obtain g|g|g:=Tv j i
 ·exact Qc _<|Pm.mpr ⟨j,by simp_all⟩
 ·lia
 exact O9 _<|Pm.mpr ⟨j-(i+1),by rw[X5,show i+1+(j-(i+1))=j by lia,N1 H];rfl⟩
theorem j0(h:c∈cs.take i++cs.drop (i+1)):c∈cs:=(Os.mp h).elim Qr RG
end
end OD
namespace OD
open PySem L2
noncomputable def mH(h:N')(l:Int)(left:ab Int):ab Int×N':=if h=NW then(left,decide (0<l))else(left.map λz=>-z,decide (l<0))
noncomputable def oC:Og->M' Nat
 |.tuple [.str w,.int z]=>if w=aB then gV z.toNat else NZ
 |_=>NZ
noncomputable def cm(d:ab Og)(o:ab (ab Int))(k:Nat):ab Int:=match oC (d.getD k .none)with
 |some i=>(o.getD i []).filter λl=>!(o.getD k []).contains l
 |none=>[]
noncomputable def dA(h:N')(left:ab Int)(v:Int)(L:ab Int):ab (ab Int×N'):=(L.filter λl=>decide (absI l=v)).map λl=>mH h l left
noncomputable def bw(h:N')(d:ab Og)(o:ab (ab Int))(v:Int):Nat->ab (ab Int×N')
 |0=>[]
 |n+1=>bw h d o v n++dA h (o.getD n []) v (cm d o n)
theorem xN:∀{D:ab Og} {s o:ab (ab Int)},bQ t C H s D=(o,NW)->∃T,o=s++T/\T.length=D.length/\∀k d,D[k]?=gV d->aO t C H (s++T.take k) d=gV (T.getD k [])
 |[],s,o,h=>by
  cases h;simp
 |e::r,s,o,h=>by
  have a:(match aO t C H s e with|none=>(s,N8)|some c=>bQ t C H _ r)=(o,NW):=h;cases g:aO t C H s e with
  |none=>simp_all
  |some c=>
   rw[g]at a;obtain⟨T,b,f,i⟩:=xN a;refine⟨c::T,by simp_all,by simp_all,λk d E=>?_⟩;cases k with
   |zero=>
    simp_all
   |succ k=>
    have:=i k d E;rwa[O6]at this
theorem oE(h:bQ t c w [] D=(o,NW))(a:D[k]?=gV d):aO t c w (o.take k) d=gV (o.getD k []):=by
 obtain⟨T,H,z,b⟩:=xN h;subst H;exact b k d a
theorem lu(h:aB≠w)(n:Nat)(z:Int):formB w n (.tuple [.str aB,.int z])=false:=by
 show(decide _&&decide _)=N8
 rw[N7 h,QV]
theorem iU:aO t c h s (.tuple [.str aB,.int z])=gK t h s (.int z):=by
 unfold aO;rw[lu (by decide+kernel),lu (by decide+kernel),QV,QV,On (show formB aB 2 _=NW by show(decide (2=2)&&decide (aB=aB))=NW;simp)];rfl
theorem rJ(h:bQ t C w [] d=(o,NW))(a:d[k]?=gV (.tuple [.str aB,.int z])):
  ∃i:Nat,z=(i:Int)/\i<k/\k<o.length/\o.getD k []=aq t w (o.getD i []):=by
 have H:=oE h a;have b:=dz h;have f:=(N4.mp a).1;rw[iU]at H;unfold gK at H;rw[OB]at H;cases g:aH _ _ with
 |none=>rw[g]at H;cases H
 |some i=>
  rw[g]at H;obtain⟨j,e⟩:=aA g;cases e;have c:aq t w _=o.getD k []:=OA H;rw[SZ,Sz]at b;refine⟨i,rfl,Pf j (Nat.min_le_left _ _),by omega,?_⟩;rw[<-c]
  rw[K',K',Pj<|by exact Pf j (Nat.min_le_left _ _)]
theorem zN(m:∀c∈C,au t.length c)(h:bQ t C b [] D=(o,NW))(n:k<D.length)(H:l∈cm D o k):absI l∈aK t b:=by
 unfold cm at H;have j:=aE (d:=Qb) n;generalize D.getD k _=d at H j;unfold oC at H
 split at H
 ·rename_i i e
  split at e
  ·split at e
   ·rename_i w z f;subst f;cases e;obtain⟨i,rfl,r,s,e⟩:=rJ h j;obtain⟨a,p⟩:=Oj.mp H;have O:au t.length (o.getD i []):=by
     have:=gn (w:=b) m (D:=D) (s:=[]) (by simp);rw[h]at this;exact eO this (Wd r s)
    have q:l∉aq t b (o.getD i []):=by grind
    refine dv.mpr ⟨(O.2 l a).1,(O.2 l a).2,oy a (VY λg=>q<|Oj.mpr ⟨a,N3 g⟩)⟩
   simp_all
  simp_all
 simp_all
theorem xO(d:1<=v):∀{c:ab Int},Ups c->c.filter (λl=>decide (absI l=v))=[v,-v].filter λl=>c.contains l
 |[],_=>rfl
 |x::c,h=>by
  have i:=xO d h.tail;rw[Q4];by_cases H:absI x=v
  ·have n:∀l∈c,absI l≠v:=λl a z=>by have:=h.head l a;simp_all
   have E:c.filter (λl=>decide _)=[]:=Rl.mpr λl a=>by simpa using n l a
   have A:absI v=v:=by unfold absI;lia
   have f:absI (-v)=v:=by unfold absI;lia
   have N:v∉c:=λz=>n v z A;have g:=λz=>n _ z f;rw[On<|N3 H,E];obtain e|e:=gJ (H.trans A.symm)
   ·subst e;have C:(x::c).contains x=true:=by simp
    have b:(x::c).contains (-x)=false:=by
     grind
    rw[Q4,On C,Q4,Oo<|by rw[b];decide];rfl
   subst e;have C:(x::c).contains (-x)=false:=by
    have:(-x == x)=false:=Pp.mpr (by lia);simp_all
   grind
  rw[Oo (by simpa using H),i];refine TL λl a=>?_;have:l≠x:=λz=>by
   subst z;obtain e|e:=Oz.mp a
   ·exact H (by rw[e];unfold absI;lia)
   rw[Ob.mp e]at H;exact H (by unfold absI;lia)
  simp_all
end OD
namespace L2
open PySem
theorem rK{g:TG}{T:TS}{D:jk}(B:X.length=n)(C:n<=Y.length)(Pv:Nat->St->Hp->Prop)(k:Pv 0 c H)(l:∀i c H,i<=n->Pv i c H->SqL K H a X/\SqL K H b Y)
  (s:∀i x y c H t,X[i]?=gV x->Y[i]?=gV y->Pv i c H->H t=NZ->g (.ref t) c (upd H t<|.tup [x,y]) λd j=>T {D with nx:=Pv<|i+1,ct:=Pv<|i+1,bk:=D.nx} d j) (o:∀c H,Pv n c H->D.nx c H):
  ∃W:Nat->Nat->St->Hp->Prop,(∃m,W 0 m c H)/\∀i m c H,W i m c H->
   ((KF K a b).stop i H/\D.nx c H)\/((KF K a b).go i H/\∃N:St->Hp->Prop,(∀f h,N f h->∃M,M<m/\W (i+1) M f h)/\∀x h,(KF K a b).yld i H x h->g x c h λd j=>T {D with nx:=N,ct:=N,bk:=D.nx} d j):=by
 exists λi m c H=>m=n-i/\i<=n/\Pv i c H,⟨n,by simp,Oy _,k⟩;rintro i m c H ⟨rfl,r,p⟩;obtain⟨q,Q⟩:=l i c H r p;by_cases w:i<n
 ·refine .inr ⟨⟨X,Y,X[i],Y[i],q,Q,N1 _,N1 _⟩,Pv<|i+1,λf h P=>⟨n-(i+1),Nat.sub_lt_sub_left w (Ua _),rfl,w,P⟩,λx h y=>?_⟩;obtain⟨t,u,v,z,rfl,rfl,E,A⟩:=y;exact s i u v c H t (E X q) (A Y Q) p z
 have e:i=n:=Nat.le_antisymm r (Y2 w)
 subst e;exact .inl ⟨⟨X,Y,q,Q,by simp_all⟩,o c H p⟩
end L2
namespace L2
open PySem PySem.Spec PyProof.Rows
def FS:V->ab V->Hp->VK->Prop:=λx v H Q=>∃(d:Og) (D:ab Og) (y:V) (l:J') (X:ab V) (j:Nat),x=.ref l/\v=[y]/\H l=gV (.lst X)/\dH H D X/\RD H d y/\d.canLay0=NW/\P6 D=NW/\d.depth<=60/\j<D.length/\Pe (D.getD j .none) d=NW/\(∀m,m<j->Pe (D.getD m .none) d=N8)/\Q (.int j) H
theorem qw(O:X.A.units+64<Sm):Jd X "list.index" FS:=by
 intro T s U H x Y v M Q I p w h;obtain⟨D,d,y,l,xs,j,rfl,rfl,k,Z,g,A,C,c3,hj,hit,W,q⟩:=h;cases p;obtain⟨u,rfl,B⟩:=w.one;obtain⟨z,P,n,r,hl,e⟩:=I.lstM k;obtain⟨as,E⟩:=df I D y u g B;obtain⟨bs,G⟩:=df I _ _ _ (f_ k Z) rfl;have b:∃c,Yr s.heap P d c:=by
  cases G with
  |list o h2 J L=>
   rw[e]at o;cases o;cases J;exact⟨_,by simpa using L⟩
 obtain⟨c,b⟩:=b;have i:Yr s.heap P.toArray.toList d c:=by simpa using b
 have a:=XN d P c C b;have Ql:P.length=d.length:=by rw[<-a,B']
 have t:∀m f,Pe _ D=Pe (d.getD m _) D:=λm f=>by
  have:d.getD m .none=UL s.heap P[m]:=by
   rw[<-a,K',Ox,N1 f];rfl
  rw[this]
 refine S6 TV ⟨_,e,rfl⟩ F.entry_list_index (F.args_list_index_2 _ _) (SeqAt.list_indexAt l _ n NZ #[] u (λy=>Pe _ D) j (by simp_all) ?_ ?_ ?_) ⟨e,YU i E C A (by lia),?_⟩
 ·have:=Qj;lia
 ·exact(t j<|by simp_all).trans hit
 ·intro m f N;exact(t m<|by assumption).trans<|W m N
 exact⟨.int j,H,I.tok _,⟨_,rfl⟩,q⟩
end L2
namespace DP
open PySem
section
variable {prog:Om}{w:OI}{K:Type}[Uo K]{knd:HeapKind prog w K}{A:PL}{s:Od}
theorem zO{E:NX->Od->Prop}{v:NX}{Q:NX->Od->Prop}(u:knd.room A)(N:knd.is s.heap k a)(o:s.heap.DictOfH knd d X)(H:X.length<=sizeLine)
  (q:∀p,Vm X k=gV p->Q p.2 {s with toks:=s.toks+knd.draws k})
  (r:Vm X k=NZ->∀h',h'.DictOfH knd d (kz X k a v)->Sx d s.heap h'->Q v {s with heap:=h',toks:=s.toks+knd.draws k}):wpAny (OU prog w) A (WM d (.ref a) v) Q E s:=by
 obtain⟨O,D,t,G,B,g,b,i,c⟩:=o;refine QD<|Oa<|knd.pyHash u N<|Oa<|wpAny_dictFind_heap u N G g b i c (λn=>?_) λj p l=>?_
 ·have m:=atKey_none_of_get n;have e:=not_mem_keys_of_get n;have st:=storedH_new m a v;refine Oa<|RL<|Oa<|wpAny_updateDictKeys (hz:=by rwa[size_of_entries b]) G g<|Oq<|r m _ (⟨_,_,t+1,TU _ G<|Obj.isFreed_of_dict<|WO g _,B.mapDictKeys _,WO g _,?_,λx h=>?_,?_⟩) (UB ..)
  ·rw[st];simp[b,entryOfKey]
  ·rw[st]at h;obtain z|z:=Os.mp h
   ·exact knd.keeps (i x z) G g (UB ..)
   rw[Ob.mp z];exact knd.keeps N G g (UB ..)
  rw[st,OF,Qa];exact⟨c,by simp,λx h y C z=>by
   have f:y=k:=by simpa using C
   subst z f;exact e h⟩
 refine Oa<|wpAny_dictEntries G g ?_;rw[entry_at b j,l];exact Oa<|RL<|Oq<|q p<|atKey_of_get c l
theorem meetsH_setd(b:(d == QK)=N8)(v:NX):MeetsIn prog w (Builtin.«dict.setdefault» ⟨[.ref d,.ref a,v],[]⟩) (λA R s=>knd.room A.in1/\∃k x,knd.is s.heap k a/\s.heap.DictOfH knd d x/\x.length<=sizeLine/\
  (∀p,Vm x k=gV p->R (.ok<|.ret p.2) {s with toks:=s.toks+knd.draws k})/\
  (Vm x k=NZ->∀h',h'.DictOfH knd d (kz x k a v)->Sx d s.heap h'->R (.ok<|.ret v) {s with heap:=h',toks:=s.toks+knd.draws k})):=by
 refine .of_wp λA R s h=>?_;obtain⟨u,k,x,N,m,z,c,e⟩:=h;refine Oa<|Oa<|Wo m.typeIs<|Oq ?_;show wpAny _ _ (if(d == QK)=NW then _ else(WM d _ v >>=_)) _ _ s
 rw[b];exact Oa<|zO u N m z (λp f=>Oq ⟨_,rfl,c p f⟩) λn h' h H=>Oq ⟨v,rfl,e n h' h H⟩
end
end DP
namespace L2
open PySem PySem.Spec PyProof.Rows
def Hu(H:Hp)(a:J')(y z:V)(Q:VK):Prop:=(∃v,DGet H a y (gV v)/\Q v H)\/(DGet H a y NZ/\∃h,DPut H a y z h/\Q z h)
theorem LL(e:H a=gV (.dK k))(g:Rd H a (.dK A)):A=k:=by
 obtain g|⟨z,g⟩:=g
 ·simp_all
 simp_all
theorem LM(e:H a=gV (.dT k))(g:Rd H a (.dT A)):A=k:=by
 obtain g|⟨z,g⟩:=g
 ·simp_all
 simp_all
theorem JR{R:NX->Od->Prop}(hu:A.units+1<Sm)(I:Inv X Oc σ H s)(g:Hu H a y z Q)(N:RelV y u)(O:RelV z r)(h:∀v U W s',Inv X Oc σ U s'->RelV v W->Q v U->R W s'):
  wpAny (OU X.prog X.w) A (call (.builtin "dict.setdefault") [.ref a,u,r]) R E s:=by
 obtain⟨v,⟨d,k,e,B,l⟩|⟨d,k,b,e,B,G,l⟩,q⟩|⟨⟨d,k,e,B,l⟩|⟨d,k,b,e,B,G,l⟩,U,p,q⟩:=g
 ·subst B;obtain⟨Z,n,J,j,D⟩:=mo I.hok e;obtain⟨W,C,F⟩:=RelO.some_of (by rw[l];exact j.val k);refine V5 QH D.typeIs Q_ (Q1 _ _ _) (Xj _ a (jO N) n r) ⟨J,D,by rwa[<-j.length],λv2 m=>?_,λo=>?_⟩
  ·rw[C]at m;cases m;exact h v H W _ (I.tok _) F q
  rw[C]at o;cases o
 ·subst B;cases(N);obtain⟨Z,n,L,j,D⟩:=mq I.hok e;obtain⟨W,C,F⟩:=RelO.some_of (by rw[l];exact j.val k);refine V5 QH D.typeIs Q_ (Q1 _ _ _) (DP.meetsH_setd n r) ⟨Rt hu,k,L,jq I.hok G,D,by rwa[<-Paired.length j],λp hp=>?_,λo=>?_⟩
  ·rw[hp]at C;cases C;exact h v H _ _ (I.tok _) F q
  rw[o]at C;cases C
 ·subst B;obtain⟨Z,n,J,j,D⟩:=mo I.hok e;have o:=RelO.none_of (by rw[l];exact j.val k);obtain⟨Y,i,w,f,l2,P⟩|⟨Y,i,b2,w,f,V⟩:=p
  ·obtain rfl:=LL w e;obtain rfl:k=i:=by cases k<;>cases i<;>cases f<;>rfl
   subst P;have hl:(c9 d k z).length<=sizeLine:=by have:=dU d k z;lia
   refine V5 QH D.typeIs Q_ (Q1 _ _ _) (Xj _ a (jO N) n r) ⟨J,D,by rwa[<-j.length],λv2 m=>(by rw[o]at m;cases m),λV h' t hs=>?_⟩;have he:∃q,h'.get? a=gV q:=let ⟨q,_,_,T,_⟩:=t;⟨q,T⟩
   exact h z _ r _ (jP I (by rw[w];exact QS) hs he<|rm hl n (j.put k O) t) O q
  cases k<;>cases f
 subst B;cases(N);obtain⟨Z,n,L,j,D⟩:=mq I.hok e;have o:=RelO.none_of (by rw[l];exact j.val k);obtain⟨Y,i,w,f,l2,P⟩|⟨Y,i,b2,w,f,M,l2,P⟩:=p
 ·cases i<;>cases f
 obtain rfl:=LM w e;cases f;have ek:i=k:=by
  rw[G]at M;have e3:=HO.tup.inj<|OA M;exact(X2 (λx y ac=>by cases x<;>cases y<;>cases ac<;>rfl)|>.mp e3).symm
 subst ek;subst P;have hl:(c9 d i z).length<=sizeLine:=by have:=dU d i z;lia
 refine V5 QH D.typeIs Q_ (Q1 _ _ _) (DP.meetsH_setd n r) ⟨Rt hu,i,L,jq I.hok G,D,by rwa[<-Paired.length j],λp hp=>(by rw[hp]at o;cases o),λV h' t hs=>?_⟩;obtain⟨q2,es,ep,T,g2,g3,g4,V,g5⟩:=t;have am:ObjOk X.prog X.w (upd H a<|.dT<|c9 d i z) h' a (.dT<|c9 d i z):=by
  refine⟨hl,n,_,(j.put i G O).keeps λc ys ec=>?_,q2,es,ep,T,g2,g3,g4,g5⟩;rwa[af<|bq ec w (λz=>nomatch z)]
 exact h z _ r _ (jP I (by rw[w];exact QS) hs ⟨q2,T⟩ am) O q
def JS(t T c:TE):TE:=λb H Q=>t b H λx h=>∃a,x=.ref a/\NG h a/\T b h λy d=>c b d λz e=>Hu e a y z Q
theorem B3(c:X.A.units+1<Sm)(j:PE X o t)(k:PE X e T)(l:PE X f n)(m:M2 X o "setdefault" p e f Y):PE X (.Call (.Attribute o "setdefault" p) [e,f] [] Y) (JS t T n):=by
 intro O s b H Q I h;refine wpAny_Call_method m.base m.few m.line PySem.F.plainAttrs_dict QH PySem.F.type_dict_setdefault<|bN (j O s b H _ I h) λu w V=>?_;obtain⟨x,A,i,B,a,E,d,C⟩:=V;subst E;obtain rfl:u=PF a:=B;obtain⟨D,F,S⟩:=Jj i d;exists D,F;rw[m.trees];exact Tr rfl<|Uk<|Ta<|bN (k O w b A _ i C) (by rintro iv G ⟨y,J,L,M,N⟩;exact Ta<|bN (l O G b J _ L N) (by rintro fv s3 ⟨z,H3,P,U,g⟩;exact Vq<|JR c P g M U λv W w' s4 Z r q=>⟨v,W,Z,r,q⟩))
theorem j8(h:PE X k t)(H:PE X v T):PE X (.Dict [gV k] [v] p) (tT [(t,T)]):=xu (nO h H xr) rfl rfl (Y7 _ _) (by simp)
theorem uE(h:PE X k a)(H:PE X v b)(U:PE X c t)(Z:PE X d T):PE X (.Dict [gV k,gV c] [v,d] p) (tT [(a,b),(t,T)]):=xu (nO h H<|nO U Z xr) rfl rfl (Y7 _ _) (by show 2<=15;decide)
theorem zP{K:C'}{a:Px}{t:TE}(e:X.K=K)(b:PE X a t)(c:∀Y,isTrue a X.env Y=(do let v <-Y;Xc a.pos;Vl [v] (truthy v))):
  PT X a (λd H Q=>t d H λx h=>∃k,E6 K x h k/\Q k h):=by
 subst e;exact tI b c
theorem FT{K:C'}{e:Px}{f:Str}{p:Pos}{t:TE}(E:X.K=K)(h:PE X e t)(H:SJ e f X.env (Qm e X.env)=Qm e X.env):PE X (.Attribute e f p) (IX K t f):=by
 subst E;exact A4 h H
def FU:V->ab V->Hp->VK->Prop:=λx v H Q=>∃(D:Og) (s:ab Og) (y:V) (l:J') (X:ab V),x=.ref l/\v=[y]/\H l=gV (.lst X)/\dH H s X/\RD H D y/\D.canLay0=NW/\P6 s=NW/\D.depth<=60/\Q (.int ((s.countP λd=>Pe d D:Nat):Int)) H
theorem zQ(J:X.A.units+64<Sm):Jd X "list.count" FU:=by
 intro O s L H x M v U Q I k m h;obtain⟨D,a,y,l,N,rfl,rfl,i,Z,f,o,C,T,q⟩:=h;cases k;obtain⟨u,rfl,p⟩:=m.one;obtain⟨z,P,n,r,W,e⟩:=I.lstM i;obtain⟨Y,t⟩:=df I D y u f p;obtain⟨G,w⟩:=df I _ _ _ (f_ i Z) rfl;have b:∃c,Yr s.heap P a c:=by
  cases w with
  |list j h2 B E=>
   rw[e]at j;cases j;cases B;exact⟨_,by simpa using E⟩
 obtain⟨c,b⟩:=b;have g:Yr s.heap P.toArray.toList a c:=by simpa using b
 have A:=XN a P c C b;refine S6 WT ⟨_,e,rfl⟩ F.entry_list_count (F.args_list_count_2 _ _) (SeqAt.list_countAt l _ n NZ #[] u λy=>Pe _ D) ⟨e,YU g t C o (by lia),?_⟩;exists .int _,H,I.tok _,⟨_,rfl⟩;have:P.toArray.toList.countP (λy=>Pe (UL s.heap y) D)=a.countP λd=>Pe d D:=by
  rw[<-A,Zv];rfl
 rwa[this]
theorem JT{P:Sem N'}(G:tp X.prog X.w X.K X.mg X.base a_ j C m f F b s)(H:PE X o t)(r:Room k X.A)(h:j<=k)
  (a:Qm (.Call (.Attribute o m v) [] [] p) X.env=(do
   let O <-Qm o X.env
   Xc v.atName
   let (f,first) <-Vl [O] (VQ O m P)
   ZR p f first (Rc p<|OS [] X.env) (WN p<|Uj [] X.env)):=by rfl):
  PE X (.Call (.Attribute o m v) [] [] p) (tK C m s [] E0 t vz):=A7 H G.cl G.me G.ok (r.mono h) G.b .nil xv a
theorem ET{N Q:ab Str}{s:RY}(a:s.kind=.function:=by rfl)(b:s.isCoroutine=false:=by rfl)(c:s.isGenerator=false:=by rfl)(d:N.Nodup:=by decide+kernel)(e:N.take Q.length=Q:=by rfl)
  (f:∀x∈Q,s.names.lookup x=gV .local\/s.names.lookup x=gV .cell:=by decide+kernel) (g:∀y∈s.names,y.2≠.free:=by decide+kernel):dk N Q s:=⟨a,b,c,d,e,f,g⟩
theorem nD(l:ab Str)(h:l.Nodup:=by decide+kernel):l.Nodup:=h
theorem cS{X:Cx}{s:RY}{C:ab (Str×J')}{N:ab Str}{I:ab (M' Nat)}(a:ZP s X.env=pure C:=by with_unfolding_all rfl)
  (b:AllIn (λy=>X.env.cells.lookup y) C:=by with_unfolding_all first|exact trivial|exact⟨rfl,trivial⟩|exact⟨rfl,rfl,trivial⟩|exact⟨rfl,rfl,rfl,trivial⟩|exact⟨rfl,rfl,rfl,rfl,trivial⟩)
  (c:∀n,((Se s X.env).names.all λq=>!(decide (q.2=.cell) || decide (q.2=.free)) || ((PK n s.names C).lookup q.1).isSome)=true:=by exact λz=>by rfl)
  (d:((N.zip I).all λp=>match p.2 with
  |none=>NW
  |some i=>decide (X.N[i]?=gV p.1)&&(decide (X.env.kindOf p.1=gV .cell) || decide (X.env.kindOf p.1=gV .free))&&(decide ((Se s X.env).names.lookup p.1=gV .cell) || decide ((Se s X.env).names.lookup p.1=gV .free))&&(s.names.all λq=>!decide (q.2=.cell) || !decide (q.1=p.1)))=true:=by rfl)
  (e:I.length=N.length:=by rfl) (f:s.kind=.function:=by rfl) (g:∀y∈s.names,y.2=.local->s.names.lookup y.1=gV .local:=by decide):CompSc X s C N I:=⟨a,b,c,d,e,f,g⟩
theorem Fun.okA{P:Om}{w:OI}{K:C'}{m:Str->M' NX}{b:Pd}{x:Str}{q:Str}{st:Pn}{f:J'}{d:Ol}{N:ab Str}{p:ab Str}{k:Nat}{a:Sp}(F:Fun K x q st f d)(S:dk N p (aJ st))
  (h:∀c A o s H v Q E,Room k (A.deeper<|QY q (aJ st) s.heap.objs.size f c)->a v H Q E->
   ∃t,PSs (rg a_ P w K m b N q (aJ st) f c A o s H E).nox (cX st) t/\t {nx:=λz e=>Q .non e,rt:=Q} (start N v) H)
  (l:∀v H Q E,a v H Q E->v.length=p.length:=by intro z z z z h;repeat (first|(cases h<;>subst_vars<;>rfl)|obtain⟨z,h⟩:=h)):ay P w K m b a_ (k+1) f d p a:=F.ok S l h
def Fe(P:Om)(w:OI)(K:C')(m:Str->M' NX)(b:Pd)(k:Nat)(x:Str)(s:Sp):Prop:=∃f F p,Fn P w K m b k x f F p s
theorem B4{X:Cx}{j:Nat}{k:Nat}{s:Sp}{x:Str}{p:Pos}{P:Pos}{e:Px}{E:ab Px}{t:TA}(G:Fe X.prog X.w X.K X.mg X.base j x s)(r:Room k X.A)(a:PA X (e::E) t)(h:j<=k:=by lia)(g:Gl X x:=by rfl)(H:(x == ("__debug__":Str))=false:=by decide)
  (b:OS (e::E) X.env=(N8,Qm e X.env)::OS E X.env:=by rfl) (u:(Rc P<|OS E X.env).any (·.1)=false:=by rfl):PE X (.Call (.Name x p) (e::E) [] P) (xp s [] E0 t):=by
 obtain⟨z,z,z,G⟩:=G;exact Lu G r h g a H b u
section
variable {X:Cx}{pos:Pos}
theorem LN(h:PE X a t)(H:PE X b T)(s:ri b:=by exact λz z=>rfl):PE X (.Subscript a b pos) (E2 (KB X.K) t T):=G_ A_ h H s
theorem xP{a:Px}{b:Px}{t:TE}{T:TE}{K:C'}(h:PE X a t)(H:PE X b T)(s:ri b:=by exact λz z=>rfl)(e:X.K=K:=by rfl):PE X (.Subscript a b pos) (E2 (KB K) t T):=G_ (FB e) h H s
theorem pQ{x:Str}(i:Nat)(h:X.N.Nodup)(H:X.N[i]?=gV x:=by exact nn) (a:IB X.env.scope x:=by exact XW rfl) (f:X.fn x=NW\/X.env.scope.names.lookup x=gV .local:=by first|exact .inl rfl|exact .inr rfl|assumption):PG X (.Name x pos) (dF i):=iP h H a f
theorem B5(h:OpR X (PX o) r)(H:PE X a t)(c:PE X b T)(m:R9 o b=false:=by exact AY _):PE X (.Compare a [o] [b] pos) (E2 r t T):=iQ h H c m
theorem oG(h:OpR X (PX o) r)(H:PE X a t)(c:PE X b T)(m:R9 o b=false:=by exact AY _):PT X (.Compare a [o] [b] pos) (AZ<|E2 r t T):=cV h H c m
theorem fC(h:PE X e t)(H:OS [e] X.env=[(N8,Qm e X.env)]:=by rfl):PA X [e] (jc t vz):=aV h ik H
theorem kT(h:PE X E t)(H:PE X e T)(a:OS [E,e] X.env=(N8,Qm E X.env)::OS [e] X.env:=by rfl)(b:OS [e] X.env=[(N8,Qm e X.env)]:=by rfl):PA X [E,e] (jc t<|jc T vz):=aV h (aV H ik b) a
theorem aS{K:C'}{H:Hp}{q:J'}{s:ab V}{i:Int}{v:V}{Q:VK}(h:H q=gV (.tup s))(e:kZ s i=gV v)(g:Q v H):KB K (.ref q) (.int i) H Q:=.inr<|.inl ⟨q,s,i,v,rfl,rfl,SqT.of h,e,g⟩
theorem fz{K:C'}{H:Hp}{q:J'}{s:ab V}{i:Int}{v:V}{Q:VK}(h:H q=gV (.lst s))(e:kZ s i=gV v)(g:Q v H):KB K (.ref q) (.int i) H Q:=.inl ⟨q,s,i,v,rfl,rfl,SqL.of h,e,g⟩
theorem cQ(h:PE X e t):PSs X [.Return (gV e) pos] (EY t):=ar<|IE h
end
end L2
namespace OD
open PySem L2
def JU(h:N')(s:ab Int)(b:ab N'):Prop:=∀l∈s,hit b l=h
theorem wc:∀{n:Nat},r∈bw H d o v n->∃k,k<n/\r∈dA H (o.getD k []) v (cm d o k)
 |0,h=>nomatch h
 |n+1,h=>by
  obtain h|h:=Os.mp h
  ·obtain⟨k,a,z⟩:=wc h;exact⟨k,Rb a,z⟩
  exact⟨n,by simp,h⟩
theorem xQ:∀{n k:Nat},k<n->(∃r∈dA H (o.getD k []) v (cm d o k),p r=NW)->∃a r,a<=k/\r∈dA H (o.getD a []) v (cm d o a)/\p r=NW/\(bw H d o v n).find? p=gV r
 |0,k,h,_=>by simp_all
 |n+1,k,h,⟨r,c,f⟩=>by
  show∃a r,a<=k/\_/\_/\(bw H d o v n++dA H _ v _).find? p=gV r
  rw[TK];by_cases i:k<n
  ·obtain⟨a,b,Z,z,j,l⟩:=xQ i ⟨r,c,f⟩;exact⟨a,b,Z,z,j,by rw[l];rfl⟩
  have e:k=n:=by lia
  subst e;cases g:(bw H d o v k).find? p with
  |some b=>
   obtain⟨a,Z,z⟩:=wc<|PV g;exact⟨a,b,OW Z,z,R8 g,rfl⟩
  |none=>
   cases G:(dA H _ v<|cm d o k).find? p with
   |none=>exact absurd f<|Q3.mp G r c
   |some b=>exact⟨k,b,N9 _,PV G,R8 G,rfl⟩
theorem rL(h:1<=absI l)(H:absI l<=(b.length:Int)):hit b (-l)=!hit b l:=by
 have e:absI (-l)=absI l:=by
  obtain⟨z,e⟩|⟨z,e⟩:=aI l<;>obtain⟨z,E⟩|⟨z,E⟩:=aI (-l)<;>lia
 have d:decide (0 < -l)=!decide (0<l):=by
  by_cases g:0<l
  ·rw[N3 g,N7<|by lia];rfl
  rw[N7 g,N3 (by obtain⟨z,e⟩|⟨z,e⟩:=aI l<;>lia)];rfl
 unfold hit;rw[e,d,N1 (by lia)];lia
theorem uF(h:hit (b.take n) l=NW):hit b l=true:=by
 by_cases g:(absI l-1).toNat<n
 ·unfold hit at h ⊢;rwa[Pj g]at h
 unfold hit at h;rw[O_<|by rw[OB];exact O8 (Nat.min_le_left _ _) (Y2 g)]at h;cases h
theorem xR(h:(absI l-1).toNat<n):hit (b.take n) l=hit b l:=by
 unfold hit;rw[Pj h]
theorem zR(h:formB w n d=NW):∃r,d=.tuple (.str w::r)/\r.length+1=n:=by
 cases d with
 |tuple D=>
  unfold formB at h;rw[OO]at h;cases D with
  |nil=>cases h.2
  |cons x r=>
   have H:my w x=true:=h.2;cases x with
   |str y=>
    have:=Oh H;subst this;exact⟨r,rfl,Oh h.1⟩
   |_=>cases H
 |_=>cases h
theorem B6(n:∀c∈s,au t.length c)(h:aO t C w s d=gV c):
  (w=N8/\c∈C)\/(w=NW/\∀k∈C,∃l∈c,l∈k)\/(∃i j z,i<s.length/\j<s.length/\1<=z/\z<=(t.length:Int)/\(∀l∈s.getD i [],l=z\/l∈c)/\∀l∈s.getD j [],l=-z\/l∈c)\/∃i,i<s.length/\oC d=gV i/\c=aq t w (s.getD i []):=by
 unfold aO at h
 split at h
 ·rename_i o;rw[OO]at o;unfold ju at h;obtain⟨i,e,rfl⟩:=PZ.mp h;refine .inl ⟨by simpa using o.1,?_⟩;rw[K',N1 (aA e).1];exact Qv _
 split at h
 ·rename_i p;rw[OO]at p;unfold mB at h
  split at h
  ·rename_i g;cases h;rw[OO]at g;refine .inr<|.inl ⟨p.1,λk A=>?_⟩;obtain⟨l,H,b⟩:=OC.mp<|O2.mp g.2 k A;exact⟨l,H,Of.mp b⟩
  simp_all
 split at h
 ·unfold d9 at h;cases E:aH s.length (fK d 1)with
  |none=>simp_all
  |some i=>
  cases a:aH s.length (fK d 2)with
  |none=>simp_all
  |some j=>
  rw[E,a]at h;cases u:fK d 3 with
  |int z=>
   rw[u]at h;have f:(if e_ t w (s.getD i []) (s.getD j []) z=NW then gV (bW (s.getD i []) (s.getD j []) z)else NZ)=gV c:=h
   split at f
   ·rename_i g;cases f;have M:=n _ (show s.getD i []∈s by rw[K',N1 (aA E).1];exact Qv _);have v:=n _ (show s.getD j []∈s by rw[K',N1 (aA a).1];exact Qv _);unfold e_ at g;simp only[OO,Of,dv]at g;obtain⟨⟨B,G,_⟩,D,F,I⟩:=g;have J:dW (s.getD i []) (s.getD j []) z=false:=by
     lia
    have y:=(dX M.1 v.1 J).2;have Q:absI z=z:=aX (by lia);have e:absI (-z)=z:=by
     obtain⟨_,L⟩|⟨_,L⟩:=aI (-z)<;>lia
    refine .inr<|.inr<|.inl ⟨i,j,z,(aA E).1,(aA a).1,B,G,λl H=>?_,λl H=>?_⟩
    ·by_cases q:absI l=z
     ·exact .inl (M.1.inj H D<|by simp_all)
     exact .inr<|(y l).mpr ⟨.inl H,q⟩
    by_cases q:absI l=z
    ·exact .inl (v.1.inj H F<|by simp_all)
    exact .inr<|(y l).mpr ⟨.inr H,q⟩
   simp_all
  |_=>simp_all
 split at h
 ·rename_i N;obtain⟨r,rfl,H⟩:=zR N
  match r,H with
  |[x],_=>
   obtain⟨i,e,rfl⟩:=PZ.mp h;obtain⟨O,P⟩:=aA e;have m:x=.int (i):=P;subst m;refine .inr<|.inr<|.inr ⟨i,O,?_,rfl⟩;rfl
 simp_all
theorem lF{z:Int}(h:1<=z):1+(((z-1).toNat:Nat):Int)=z:=by
 rw[Int.toNat_of_nonneg (Int.sub_nonneg_of_le h),Int.add_comm,Int.sub_add_cancel]
theorem zT(hc:∀c∈cs,au t.length c)(y:bQ t cs w [] D=(o,NW))(hl:B.length=t.length)
  (hp:∀i r,i<t.length->cP t i=w->(bw w D o (1+(i:Int)) D.length).find? (λr=>r.1.all<|hit<|B.take i)=gV r->B[i]?=gV r.2):∀k,k<o.length->JU w (o.getD k []) B->bE cs B=w:=by
 have ac:o.length=D.length:=by
  have:=dz y;simpa using this
 have u:∀c∈o,au t.length c:=by
  have:=gn (w:=w) hc (D:=D) (s:=[]) (by simp);rw[y]at this;exact this
 intro k
 induction k using Nat.strongRecOn with
 |ind k ih=>
 intro Q v;by_cases W:∃f,f<k/\JU w (o.getD f []) B
 ·obtain⟨f,A,H⟩:=W;exact ih f A (Wd A Q) H
 have A:=oE y<|aE (d:=Qb) (show k<D.length by exact Pf Q (Tw ac));have C:∀{i:Nat},i<k->(o.take k).getD i []=o.getD i []:=λ{i} q=>by simp_all
 have X:(o.take k).length=k:=by grind
 have N:∀{f:Nat},f<k->¬JU w (o.getD f []) B:=λh z=>W ⟨_,h,z⟩;obtain⟨rfl,h⟩|⟨rfl,h⟩|⟨i,j,z,q,E,hz,am,a,b⟩|⟨i,q,hd,e⟩:=B6 (λc h=>u c<|Qr h) A
 ·refine TM.mpr ⟨_,h,λz=>?_⟩;obtain⟨l,H,p⟩:=OC.mp z;rw[v l H]at p;cases p
 ·refine O2.mpr λc Zz=>?_;obtain⟨l,H,p⟩:=h c Zz;exact OC.mpr ⟨l,p,v l H⟩
 ·rw[X]at q E;rw[C q]at a;rw[C E]at b;have az:absI z=z:=aX (by lia);have n:=xL (b:=B) (l:=z) (by simp_all) (by simp_all);exfalso;by_cases g:hit B z=w
  ·refine N q λl h=>?_;obtain rfl|h:=a l h
   ·exact g
   exact v l h
  refine N E λl h=>?_;obtain rfl|h:=b l h
  ·rw[n];revert g;cases hit B z<;>cases w<;>simp
  exact v l h
 rw[X]at q;rw[C q]at e;have ok:=eO u (show i<o.length by exact Wd q Q);exfalso;refine N q λl m=>?_;by_cases U:l∈o.getD k []
 ·exact v l U
 have F:eZ t w (o.getD i [])<absI l:=by
  refine VY λg=>U ?_;rw[e];exact Oj.mpr ⟨m,N3 g⟩
 have O:=oy m F;have r1:=ok.2 l m;have ei:=lF r1.1
 have T:cm D o k=(o.getD i []).filter λl=>!(o.getD k []).contains l:=by
  unfold cm;rw[hd]
 have Y:∀L∈o.getD k [],(absI L-1).toNat<(absI l-1).toNat:=λL H=>by
  rw[e]at H;have p:=Oh (Oj.mp H).2;have h4:=(ok.2 L (Oj.mp H).1).1;lia
 have G:(mH w l<|o.getD k []).1.all (hit<|B.take (absI l-1).toNat)=true:=by
  refine O2.mpr λL H=>?_;unfold mH at H
  split at H
  ·rename_i d;rw[xR<|Y L H,v L H,d]
  rename_i I;obtain⟨s,p,rfl⟩:=OH.mp H;have e3:absI (-s)=absI s:=by
   obtain⟨_,e⟩|⟨_,e⟩:=aI s<;>obtain⟨_,e'⟩|⟨_,e'⟩:=aI (-s)<;>lia
  have m3:s∈o.getD i []:=by
   rw[e]at p;exact(Oj.mp p).1
  have r3:=ok.2 s m3;rw[xR (by rw[e3];exact Y s p),xL r3.1 (by simp_all),v s p];lia
 obtain⟨f,r,z1,z2,z3,z4⟩:=xQ (H:=w) (d:=D) (o:=o) (v:=absI l) (p:=λr=>r.1.all<|hit<|B.take (absI l-1).toNat) (n:=D.length) (k:=k) (by simp_all)
  ⟨mH w l<|o.getD k [],OH.mpr ⟨l,by grind,rfl⟩,G⟩
 obtain⟨x,h5,rfl⟩:=OH.mp z2;obtain⟨h6,J⟩:=Oj.mp h5;have J:=Oh J;have ek:f=k:=by
  refine Nat.le_antisymm z1<|Y2 λRH=>N RH λL H=>?_;have Z:=O2.mp z3;unfold mH at Z;by_cases d:w=NW
  ·rw[On d]at Z;rw[uF<|Z L H,d]
  rw[Oo d]at Z;have h8:=uF<|Z (-L)<|OH.mpr ⟨L,H,rfl⟩;have M:=(eO u (show f<o.length by exact Ru z1 Q)).2 L H;rw[xL M.1<|by simp_all]at h8;lia
 subst ek;rw[T]at h6;have el:x=l:=ok.1.inj (Oj.mp h6).1 m J;subst el;have P:=hp (absI x-1).toNat _ (by lia) O (by rw[ei];exact z4);unfold hit;rw[P];show(_ == decide (0<x))=w
 unfold mH;cases w with
 |true=>simp
 |false=>
  show(decide (x<0) == decide (0<x))=N8
  obtain⟨_,e⟩|⟨_,e⟩:=aI x
  ·rw[N7 (Int.not_lt_of_ge ‹_›),N3<|by lia];rfl
  rw[N3 ‹_›,N7<|by exact Int.not_lt_of_ge (hI ‹_›)];rfl
theorem zU(a:∀c∈C,au t.length c)(f:bQ t C h [] d=(o,NW))(g:[]∈o)(l:b.length=t.length)
  (p:∀i r,i<t.length->cP t i=h->(bw h d o (1+(i:Int)) d.length).find? (λr=>r.1.all<|hit<|b.take i)=gV r->b[i]?=gV r.2):bE C b=h:=by
 obtain⟨k,H,e⟩:=RS g;refine zT a f l p k H ?_;rw[K',N1 H,e];exact λy z=>nomatch z
end OD
namespace L2
open PySem PySem.Spec PyProof.Rows
theorem rM{P:ab NX->Prop}(h:∀x u,u.length=n->P (x::u))(u:ab NX)(e:u.length=n+1):P u:=by
 obtain⟨x,r,rfl⟩:=List.exists_cons_of_length_eq_add_one e;exact h x r<|Nat.succ.inj e
theorem rN{P:ab NX->Prop}(h:P [])(u:ab NX)(e:u.length=0):P u:=by
 simp_all
structure DA (mg:Str->M' NX)(K:C')(x:Str)(st:Pn)(f:J')(fd:Ol):Prop where
 F:Fun K x x st f fd
 a:mg x=gV (.ref f)
structure DM (K:C')(C:J')(m q:Str)(st:Pn)(f:J')(fd:Ol):Prop where
 F:Fun K m q st f fd
 a:O3 K (.ref C) m=gV (gV<|.ref f)
 i:UJ K (.ref f)=NW
section
variable (P:Om)(w:OI)(base:Pd){K:C'}{mg:Str->M' NX}{x m q:Str}{st:Pn}{f C:J'}{fd:Ol}{k:Nat}{ps:ab Str}{sp:Sp}
abbrev MC(x q:Str)(st:Pn)(ps:ab Str):Prop:=∀(kV Y p:NX) (a:M' J') (Q c:NX) (u:ab NX),u.length=ps.length->Ym (Q9 x q (ft st) (cX st) (aJ st) .none kV Y p a Q c) ⟨u,[]⟩=pure (ps.zip u)
theorem DA.of{h:Pd}(X:K.In h)(G:h.Ns OY mg)(a:Pk K OY x=gV (gV<|.ref f))(F:Fun K x x st f fd):DA mg K x st f fd:=⟨F,Q8 X G a⟩
theorem DM.of(a:O3 K (.ref C) m=gV (gV<|.ref f))(i:UJ K (.ref f)=NW)(F:Fun K m q st f fd):DM K C m q st f fd:=⟨F,a,i⟩
theorem Fun.bs(F:Fun K x q st f fd)(b:MC x q st ps:=by intro z z z z z z;(repeat' refine rM λz=>?_);exact rN rfl):Binds K fd ps []:=F.binds b
theorem DA.fn(D:DA mg K x st f fd)(o:ay P w K mg base a_ k f fd ps sp)(b:MC x x st ps:=by intro z z z z z z;(repeat' refine rM λz=>?_);exact rN rfl):Fn P w K mg base k x f fd ps sp:=⟨o,D.F.binds b,D.F.kp,D.a⟩
theorem DM.mt{c:A6}(D:DM K C m q st f fd)(l:Cls K C)(o:ay P w K mg base c k f fd ps sp)(b:MC m q st ps:=by intro z z z z z z;(repeat' refine rM λz=>?_);exact rN rfl):tp P w K mg base c k C m f fd ps sp:=⟨o,D.F.binds b,l,⟨D.a,D.i,D.F.kp⟩⟩
end
section
variable (P:Om)(w:OI)(base:Pd)
theorem DA.fe{K:C'}{m:Str->M' NX}{x:Str}{st:Pn}{f:J'}{d:Ol}{k:Nat}{p:ab Str}{s:Sp}(D:DA m K x st f d)(o:ay P w K m base a_ k f d p s)(b:MC x x st p:=by intro z z z z z z;(repeat' refine rM λz=>?_);exact rN rfl):Fe P w K m base k x s:=⟨_,_,_,o,D.F.binds b,D.F.kp,D.a⟩
end
theorem funL_mk{K:C'}{x q:Str}{st:Pn}{f c:J'}{O:NX}{b a:M' J'}{o:Qs (M' NX)}{kV Z p C:NX}(l:K.lookup f=gV ⟨O,b,.func<|Q9 x q (ft st) (cX st) (aJ st) .none kV Z p a (.ref c) C,o⟩)
  (d:Tq K (.ref c) q=NW):FunL K x q st f (Q9 x q (ft st) (cX st) (aJ st) .none kV Z p a (.ref c) C) c:=⟨O,b,kV,Z,p,a,C,o,rfl,l,d⟩
end L2
namespace OD
open PySem L2
theorem oH(h:b[(absI l-1).toNat]?=c[(absI l-1).toNat]?):hit b l=hit c l:=by unfold hit;rw[h]
theorem fD(h:∀c∈C,∃k∈d,∀l∈k,l∈c)(e:bE d u=NW):bE C u=true:=
 c8.mpr λc H=>by
  obtain⟨k,a,s⟩:=h c H;obtain⟨l,b,g⟩:=c8.mp e k a;exact⟨l,s l b,g⟩
theorem xS(d:∀c∈C,∀l∈c,1<=absI l)(f:1<=absI z)(i:∀j,j≠(absI z-1).toNat->b[j]?=u[j]?) (v:hit b z=NW) (h:bE (cL z C) u=NW):bE C b=true:=
 c8.mpr λc a=>by
  by_cases m:z∈c
  ·exact⟨z,m,v⟩
  obtain⟨l,k,g⟩:=c8.mp h _<|dt.mpr ⟨c,a,m,rfl⟩;obtain⟨H,n⟩:=eL.mp k;exact⟨l,H,by rwa[oH<|i _<|wb (d c a l H) f (λe=>m<|e▸H) n]⟩
theorem B7(a:1<=absI z)(d:absI z<=(b.length:Int))(f:[z]∈C)(h:bE C b=NW):bE (cL z C) b=true:=by
 have e:hit b z=true:=by
  obtain⟨l,m,g⟩:=c8.mp h _ f;rwa[Ob.mp m]at g
 refine c8.mpr λk i=>?_;obtain⟨c,m,y,rfl⟩:=dt.mp i;obtain⟨l,H,g⟩:=c8.mp h c m;refine⟨l,eL.mpr ⟨H,λq=>?_⟩,g⟩;rw[q,xL a d,e]at g;cases g
theorem B8(d:∀c∈C,∀l∈c,1<=absI l)(e:1<=absI z)(f:∀j,j≠(absI z-1).toNat->b[j]?=u[j]?) (v:hit b z=N8) (h:bE C b=NW):bE (cL (-z) C) u=true:=by
 refine c8.mpr λk i=>?_;obtain⟨c,m,n,rfl⟩:=dt.mp i;obtain⟨l,H,g⟩:=c8.mp h c m;have a:l≠z:=λq=>by simp_all
 exists l,eL.mpr ⟨H,by rwa[Tg]⟩;rwa[<-oH<|f _<|wb (d c m l H) e a λq=>n<|q▸H]
theorem zV(H:∀c∈C,∀l∈c,1<=absI l/\absI l<=(B.length:Int))(r:k∈C)(o:z∈k)(p:∀c∈C,c=k\/c∈D)(t:∀c∈C,-z∈c->∃a∈c,absI a<absI z/\ -a∈k)
  (v:∀j,j≠(absI z-1).toNat->B[j]?=u[j]?) (x:((∃l∈k,hit B l=NW)/\B=u)\/((∀l∈k,absI l<absI z->hit B l=N8)/\hit B z=NW)) (h:bE D u=NW):bE C B=true:=
 c8.mpr λc m=>by
  obtain⟨s,rfl⟩|⟨n,e⟩:=x
  ·obtain rfl|g:=p c m
   ·exact s
   exact c8.mp h c g
  obtain rfl|g:=p c m
  ·exact⟨z,o,e⟩
  obtain⟨l,d,q⟩:=c8.mp h c g;by_cases w:-z∈c
  ·obtain⟨a,i,s,b⟩:=t c m w;have E:absI (-a)=absI a:=by obtain⟨Z,e⟩|⟨Z,e⟩:=aI a<;>obtain⟨Z,A⟩|⟨Z,A⟩:=aI (-a)<;>lia
   have f:=n _ b (by rwa[E]);rw[xL (H c m a i).1 (H c m a i).2]at f;grind
  by_cases y:l=z
  ·exact⟨z,y▸d,e⟩
  exact⟨l,d,by rwa[oH<|v _<|wb (H c m l d).1 (H k r z o).1 y λq=>w<|q▸d]⟩
theorem B9{left:ab Int}(H:k∈C)(d:∀c∈D,c=left\/c∈C)(f:((∃l∈left,hit b l=NW)/\b=u)\/((∀l∈left,hit b l=N8)/\∀l∈k,l∉left->hit b l=N8))(h:bE C b=NW):bE D u=true:=
 c8.mpr λc m=>by
  obtain⟨s,rfl⟩|⟨n,e⟩:=f
  ·obtain rfl|g:=d c m
   ·exact s
   exact c8.mp h c g
  obtain⟨l,a,q⟩:=c8.mp h k H;grind
end OD
namespace L2
open PySem PySem.Spec PyProof.Rows
structure Bl (mg:Str->M' NX):Prop where
 len:mg "len"=NZ
 range:mg "range"=NZ
 tuple:mg "tuple"=NZ
 sorted:mg "sorted"=NZ
 isinstance:mg "isinstance"=NZ
 int:mg "int"=NZ
 bool:mg "bool"=NZ
 list:mg "list"=NZ
 abs:mg "abs"=NZ
 all:mg "all"=NZ
 zip:mg "zip"=NZ
 set:mg "set"=NZ
 any:mg "any"=NZ
 max:mg "max"=NZ
 enumerate:mg "enumerate"=NZ
 dict:mg "dict"=NZ
 min:mg "min"=NZ
 g_WISHER:mw mg "WISHER" (.str<|N_ "wisher")
 g_SPOILER:mw mg "SPOILER" (.str<|N_ "spoiler")
section
variable {X:Cx}{x:Str}{pos S5:Pos}
theorem sT{e:Px}{t:TE}(i:Nat)(h:PE X e t)(H:X.N.Nodup:=by exact dk.nd<|by assumption)(a:X.N[i]?=gV x:=by exact nn) (b:IB X.env.scope x:=by first|exact XW rfl|exact Ux rfl) (s:UQ e (gV<|.Name x S5) pos.line X.env=pure false:=by rfl) (f:X.fn x=NW\/X.env.scope.names.lookup x=gV .local:=by first|exact .inl rfl|exact .inr rfl|assumption):
  PS X (.Assign [.Name x S5] e pos) (II t<|dF i):=IJ H a b h s f
theorem fS{s:Px}{w:TI}{t:TS}{b:ab Pn}(i:Nat)(h:PI X (.Name x S5) s w)(H:PSs X b t)(p:kH (OU X.prog X.w) X.A X.env X.xe:=by exact PU)(c:X.calm=true:=by rfl)(g:PG X (.Name x S5) (dF i):=by exact pQ _<|dk.nd<|by assumption)(a:∀x,RA s X.env x=pure x:=by intro z;rfl):
  PS X (.For (.Name x S5) s b [] pos) (KU w (dF i) t):=fk p c h g H a
end
theorem kA{p:Prop}(h:p:=by first|exact dN (Room.units ‹_›)|exact ro (Room.units ‹_›)|exact AX|exact xo|exact pY|exact nE|exact xn|exact GX|exact AU|exact IQ|exact AV|exact E5|exact AW|exact IR|exact IS|exact IT):p:=h
theorem gg{p:Prop}(h:p:=by
 repeat' (show(_:Prop);first
  |(show PSs _ _ _;first|refine' cQ ?_|refine' ar ?_|refine' ae ?_ ?_|exact ax)
  |(show PS _ _ _;first|refine' aQ ?_ ?_ ?_|refine' dm ?_|refine' jm ?_ ?_ rfl|refine' sT _ ?_)
  |(show PA _ _ _;first|refine' aV ?_ ?_|exact ik)
  |(show PT _ _ _;first|refine' oG kA ?_ ?_|refine' cV k_ ?_ ?_ (by with_unfolding_all rfl)|refine' cV gT ?_ ?_ (by with_unfolding_all rfl)|refine' PW.pt (pW ?_ ?_)|refine' PW.pt (re ?_ ?_)|refine' ij ?_|refine' gR ?_)
  |(show PW _ _ _;first|refine' pW ?_ ?_|refine' re ?_ ?_|refine' rc ?_|refine' q_ ?_)
  |(show PG _ _ _;first|exact pQ _ (dk.nd ‹_›)|refine' AS rfl ?_)
  |(show IH _ _ _;first|refine' nA ?_ ?_|exact xh)
  |(show PI _ _ _ _;first|refine' y6 rfl (Bl.range ‹_›) ?_|refine' pX rfl (Bl.range ‹_›) ?_|refine' zt rfl (Bl.range ‹_›) ?_|refine' FA rfl (Bl.enumerate ‹_›) ?_)
  |(show PO _ _ _;first|refine' Fh ?_|exact bU)
  |(show PE _ (.Name _ _) _;first|exact pv _|exact ci rfl (Bl.g_WISHER ‹_›)|exact ci rfl (Bl.g_SPOILER ‹_›)|exact mS (v:=.ty "bool") rfl (Bl.bool ‹_›) M7 rfl|exact mS (v:=.ty "int") rfl (Bl.int ‹_›) Wv rfl|exact mS (v:=.ty "tuple") rfl (Bl.tuple ‹_›) Pr rfl|exact mS (v:=.ty "list") rfl (Bl.list ‹_›) RO rfl)
  |(show PE _ (.Call (.Name _ _) _ _ _) _;first|refine' B4 ‹_› ‹_› ?_|refine' aN ca rfl (Bl.len ‹_›) P5 ?_|refine' aN tY rfl (Bl.isinstance ‹_›) R7 ?_|refine' aN tJ rfl (Bl.abs ‹_›) TY ?_|refine' aN (iq rfl) rfl (Bl.any ‹_›) Rw ?_|refine' aN (nZ rfl) rfl (Bl.all ‹_›) TX ?_|refine' aW bK rfl (Bl.tuple ‹_›) Pr ?_|refine' aW gU rfl (Bl.list ‹_›) RO ?_|refine' aW y_ rfl (Bl.int ‹_›) Wv ?_|refine' LH ‹_› ‹_› (by lia) rfl ?_)
  |(show PE _ (.Call _ _ _ _) _;first|refine' gG Ph P8 Qh dS ?_ ?_|refine' Bc Ph S_ Wr Je ?_|refine' jW ‹_› ?_ ‹_› (by lia) ?_|refine' JT ‹_› ?_ ‹_› (by lia))
  |(show PE _ (.BinOp _ _ _ _) _;first|refine' b_ kA ?_ ?_)
  |(show PE _ (.Compare _ _ _ _) _;first|refine' B5 kA ?_ ?_|refine' iQ k_ ?_ ?_ (by with_unfolding_all rfl)|refine' iQ gT ?_ ?_ (by with_unfolding_all rfl))
  |(show PE _ _ _;first|exact bX|refine' LN ?_ ?_|exact ii|exact fm|exact fE|refine' dZ ?_|refine' A5 ?_|refine' A4 ?_ rfl|refine' vm ?_ ?_|refine' KJ ?_ ?_|refine' vk ?_|refine' ID ?_|refine' KW IU ?_|refine' nz ?_ ?_ ?_)
  )):p:=h
theorem Fun.okB{P:Om}{w:OI}{K:C'}{m:Str->M' NX}{b:Pd}{x q:Str}{st:Pn}{f:J'}{d:Ol}{N p:ab Str}{k:Nat}{a:Sp}(F:Fun K x q st f d)
  (h:∀c A o s H v Q E,dk N p (aJ st)->Room k (A.deeper<|QY q (aJ st) s.heap.objs.size f c)->a v H Q E->
   ∃t,PSs (rg a_ P w K m b N q (aJ st) f c A o s H E).nox (cX st) t/\t {nx:=λy e=>Q .non e,rt:=Q} (start N v) H)
  (S:dk N p (aJ st):=by exact ET) (l:∀v H Q E,a v H Q E->v.length=p.length:=by intro y y y y h;repeat (first|(cases h<;>subst_vars<;>rfl)|obtain⟨y,h⟩:=h)):ay P w K m b a_ (k+1) f d p a:=F.okA S (λy y y y y y y y r z=>h _ _ _ _ _ _ _ _ S r z) l
section
variable {X:Cx}{x:Str}{elt Su:Px}{te:TE}{tt:TT}{wi:TI}{pos S5:Pos}{ifs:ab Px}{scope:RY}{cl:ab (Str×J')}
theorem fW(N:ab Str)(i:ab (M' Nat))(a:PI X (.Name x S5) Su wi)(S:CompSc X scope cl N i:=by exact cS)(t:∀C f s H,Jy (b8 X scope cl N C f s H) ifs tt:=by intro z z z z;first|exact mW|exact bM gg)(e:∀C f s H,PE (b8 X scope cl N C f s H) elt te:=by intro z z z z;exact gg)(c:X.calm=true:=by rfl)
  (n:N.Nodup:=by decide+kernel) (g:∀C f s H,(b8 X scope cl N C f s H).N.Nodup->PG (b8 X scope cl N C f s H) (.Name x S5) (dF 0):=by exact λz z z z h=>pQ 0 h) (b:∀x,RA Su X.env x=pure x:=by intro z;rfl):PE X (.ListComp elt [⟨.Name x S5,Su,ifs,0⟩] scope pos) (tZ i wi (dF 0) tt te):=rA c S a (λz z z z=>g _ _ _ _ n) t e b
theorem B_{q:Pos}{a:Pos}{y:Str}(i:Nat)(N:ab Str)(I:ab (M' Nat))(b:PI X (.Name x S5) Su wi)(S:CompSc X scope cl N I:=by exact cS)(t:∀C f s H,Jy (b8 X scope cl N C f s H) ifs tt:=by intro z z z z;first|exact mW|exact bM gg)(e:∀C f s H,PE (b8 X scope cl N C f s H) elt te:=by intro z z z z;exact gg)(c:X.N.Nodup:=by exact dk.nd<|by assumption)(d:X.N[i]?=gV y:=by rfl) (l:X.env.scope.names.lookup y=gV .local:=by rfl) (g:X.calm=true:=by rfl)
  (n:N.Nodup:=by decide+kernel) (j:∀C f s H,(b8 X scope cl N C f s H).N.Nodup->PG (b8 X scope cl N C f s H) (.Name x S5) (dF 0):=by exact λz z z z h=>pQ 0 h) (w:UQ (.ListComp elt [⟨.Name x S5,Su,ifs,0⟩] scope pos) (gV<|.Name y q) a.line X.env=pure true:=by with_unfolding_all rfl) (k:∀x,RA Su X.env x=pure x:=by intro z;rfl):
  PS X (.Assign [.Name y q] (.ListComp elt [⟨.Name x S5,Su,ifs,0⟩] scope pos) a) (t5 i<|tZ I wi (dF 0) tt te):=vP c d l g S b (λz z z z=>j _ _ _ _ n) t e w k
end
end L2
namespace K65
open PySem L2 OD
seal PE PS PSs PA PT PG IH PI PO PW OpR PX SI
noncomputable def b9(i:Nat):Pn:=PySem.Challenge.pw_oathduel_k65_whole_players_back.main.body.getD i<|.Pass ⟨0,0,0,0⟩
noncomputable abbrev Ca:Pn:=b9 79
noncomputable abbrev LO:Pn:=b9 80
noncomputable abbrev Cb:Pn:=b9 81
noncomputable abbrev Hv:Pn:=b9 82
noncomputable def cZ(n:ab Int)(k:Int):Int:=n.getD k.toNat 0
noncomputable def Cc(c k:Int)(b:N'):Int:=if b=NW then((c*48271+k*69621+11)%2147483629*((c*48271+k*69621+11)%2147483629)%2147483587)*((c*48271+k*69621+11)%2147483629*((c*48271+k*69621+11)%2147483629)%2147483587)%2147483563 else c
inductive lx (K:C')(vs:ab V)(H:Hp)(Q:VK)(E:XK):Prop
 |mk (a:J')(ns:ab Int)(k:Int)(h0:vs=[.ref a,.int k])(h:SqL K H a (ns.map V.int))(b:0<=k)(c:Q (.int<|cZ ns k) H)
inductive xT (vs:ab V)(H:Hp)(Q:VK)(E:XK):Prop
 |mk (c k:Int)(b:N')(h0:vs=[.int c,.int k,.bl b])(h:Q (.int<|Cc c k b) H)
def Cd(n:Int)(H:Hp)(Q:VK):Prop:=∀(p:J') (l:ab Int) (h:Hp),Same H h->h p=gV (.tup<|l.map V.int)->ClOk n l->l.length<=4->Q (.ref p) h
def xU:Sp:=λv H Q _=>∃c n:Int,v=[.int c,.int n]/\0<=n/\n<1000/\Cd n H Q
inductive we (K:C')(vs:ab V)(H:Hp)(Q:VK)(E:XK):Prop
 |mk (a:J')(ns:ab Int)(m:Int)(h0:vs=[.ref a,.int m])(b:SqL K H a (ns.map V.int))(d:ns.length<=63)(e:0<=m)(f:m<20)(g:∀(p:J') (t:Str) (C:ab (ab Int)) (h:Hp),Same H h->RD h (jS t C) (.ref p)->NT m t C->(∀c∈C,c.length<=4)->Q (.ref p) h)
noncomputable def AN(s:Int):Int:=if s=0 then 1 else -1
noncomputable def j9(p:ab (Int×Int)):ab (Int×Int):=p.map λq=>(q.1,AN q.2)
theorem Ce(p:ab (Int×Int))(k s:Int):j9 (pP p k s)=pP (j9 p) k (AN s):=by
 have e:((j9 p).any λq=>decide (q.1=k))=(p.any λq=>decide (q.1=k)):=by
  unfold j9;rw[R5];rfl
 unfold pP;rw[e]
 split
 ·unfold j9;rw[OZ,OZ];refine SE λq z=>?_;lia
 unfold j9;rw[OF];rfl
theorem zX(p:ab (Int×Int))(k:Int):jf (j9 p) k=(jf p k).map AN:=by
 induction p with
 |nil=>rfl
 |cons q r i=>
  unfold j9 at i ⊢;unfold jf at i ⊢;rw[OT,Qf,Qf];by_cases h:q.1=k
  ·simp[h]
  simp only[h];exact i
theorem qx(p:ab (Int×Int)):(j9 p).map (·.1)=p.map (·.1):=by
 unfold j9;rw[OZ];rfl
theorem ly(s:Int):AN s=1\/AN s=-1:=by
 unfold AN
 lia
theorem Cf(h:r=0\/r=1):kZ [V.int 1,V.int (-1)] r=gV (.int<|AN r):=by
 obtain rfl|rfl:=h<;>rfl
theorem JV:dk ["_law_script","_law_k"] ["_law_script","_law_k"] (aJ Ca):=ET
theorem FV(F:Fun K "_law_cell_at" "_law_cell_at" Ca f g)(T:Bl m):ay P w K m B a_ 1 f g ["_law_script","_law_k"] (lx K):=by
 refine F.okA JV λl A o s H p Q E r h=>?_;obtain⟨a,n,k,rfl,d,i,q⟩:=h;exists _,gg;exists _,rfl,_,rfl,.ref a,_,rfl,.inl ⟨_,d,rfl⟩,_,_,rfl,rfl,_,rfl;refine cn (λc=>?_) λc=>?_
 ·have C:k<(((n.map _).length)):=Oh c;rw[B']at C;obtain⟨v,b,j⟩:=Bw i C;have e:cZ n k=v:=by
   unfold cZ;rw[K',b];rfl
  rw[e]at q;exact⟨_,rfl,_,rfl,.inl ⟨a,_,k,.int v,rfl,rfl,d,j,q⟩⟩
 have C:¬k<(((n.map _).length)):=λz=>c<|N3 z;rw[B']at C;have e:cZ n k=0:=by
  unfold cZ;simp_all
 rwa[e]at q
theorem JW(F:Fun K "_law_mix" "_law_mix" LO f d):ay P w K m B a_ 1 f d ["_law_cell","_law_k","_law_mixed"] xT:=by
 refine F.okB (N:=["_law_cell","_law_k","_law_mixed","_law_number_here"]) λC A o s H v Q E a r h=>?_;obtain⟨c,k,b,rfl,q⟩:=h;exists _,gg;exists _,rfl,_,rfl;cases b with
 |false=>exact ap ⟨_,rfl,q⟩
 |true=>
  exists _,rfl,_,_,rfl,rfl,.inr (by simp),_,rfl,_,_,rfl,rfl,.inr (by simp),_,_,rfl,rfl,_,_,rfl,rfl,_,_,rfl,rfl,(by simp);exists _,rfl,_,rfl,_,_,rfl,rfl,.inl (by grind),_,_,rfl,rfl,(by simp);exact⟨_,rfl,_,rfl,_,_,rfl,rfl,.inl (by lia),_,_,rfl,rfl,(by simp),q⟩
inductive uG (n:Int)(d:J')(c:Int)(H:Hp)(i:Nat)(a:ab (M' V))(h:Hp):Prop
 |mk (C:Int)(p:ab (Int×Int))(j:M' V)(I:a=[gV<|.int C,gV<|.int n,gV<|.ref d,gV<|.int<|c%5,j])(b:h d=gV (.dK<|dP p))(e:Same H h)(f:DOk n (j9 p))(g:(∀z∈p,z.2=0\/z.2=1))(k:p.length<=i)
inductive uH (d:J')(ks:ab Int)(p:ab (Int×Int))(D:J')(h:Hp)(i:Nat)(a:ab (M' V))(ys:ab V)(H:Hp):Prop
 |mk (I:(∃v,a=[v,gV (.ref d)]))(c:ys=((ks.take i).map λk=>V.int<|k*JF (j9 p) k))(e:H D=gV (.lst ys))(f:(∀b o,b≠D->h b=gV o->H b=gV o))
theorem Cg(F:Fun K "_law_drawn" "_law_drawn" Cb f fd)(T:Bl mg):ay P w K mg aL a_ 1 f fd ["_law_number_here","_law_count"] xU:=by
 refine F.okB (N:=["_law_number_here","_law_count","_law_signs","_law_size","_law_k"]) λQC A ac s H vs Q E sc hr h=>?_;obtain⟨c,n,rfl,n0,n1,q⟩:=h;have hu:=hr.units;have Va:=mv hr;refine⟨_,(ae (sT 2 tR)
  (ae gg
  (ae gg
  (ae (fS 4 gg (ar (aQ gg (ae (rn Va (pv 2) gg gg rfl)
    gg) ax)))
  (cQ<|aW bK rfl T.tuple Pr<|fC<|fW ["_law_variable","_law_signs"] [NZ,gV 2] (aD<|aN (t9 rfl) rfl T.sorted Ur<|fC<|pv 2) (e:=λS S S S=>(b_ AV (pv 0)<|xP (K:=K) gg<|bH Va (pv 1) (pv 0) λS S=>rfl))))))),?_⟩
 intro d hd;have c5:=QW c (show(5:Int)≠0 by decide);have a0:=QL c (show(0:Int)<5 by decide);exists _,rfl,_,_,rfl,rfl,(by simp),_,rfl,_,_,rfl,rfl,⟨by simp,by simp⟩;refine⟨_,rfl,c%5,rfl,(by lia),(by lia),dq (lo:=0) (n:=(c%5).toNat)
  (uG n d c H)
  ⟨_,[],NZ,rfl,aa,ad hd _,DOk.nil n,(by simp),N9 _⟩ ?_ ?_⟩
 ·rintro i W Z hi ⟨C,p,jv,rfl,X,J,a,j,hl⟩;refine⟨_,rfl,_,_,rfl,rfl,_,rfl,cn (λg=>?_) λg=>?_⟩
  ·have g':0<n:=Oh g;have m1:=QW C (show n≠0 by lia);have m2:=QL C g';have s1:=QW (C/n) (show(2:Int)≠0 by decide);have s2:=QL (C/n) (show(0:Int)<2 by decide);exists _,rfl,_,rfl,_,_,rfl,rfl,⟨g',by lia⟩,_,_,rfl,rfl,(by simp);exists _,rfl,_,rfl,_,rfl,_,_,rfl,rfl,g',_,_,rfl,rfl,d,_,rfl,DPut.k (k:=OK (1+C%n)) X (by unfold dP;rw[B'];exact ah<|by lia);exists _,rfl,_,rfl,_,_,rfl,rfl,.inl (by simp),_,_,rfl,rfl,⟨by lia,by lia⟩;obtain⟨o1,o2⟩:=a.put (k:=1+C%n) (s:=AN<|C/n%2) (by lia)<|ly _;rw[<-Ce]at o1 o2;have ml:∀l,(j9 l).length=l.length:=λl=>B' _;rw[ml,ml]at o2;refine⟨_,pP p (1+C%n)<|C/n%2,_,rfl,?_,J.upd_new hd _,o1,λz hz=>?_,by lia⟩
   ·rw[aa];exact O1 (λz=>gV<|HO.dK z)<|JC _ _ _
   unfold pP at hz
   split at hz
   ·obtain⟨y,hy,e⟩:=OH.mp hz
    split at e
    ·lia
    rw[<-e];exact j y hy
   grind
  exact⟨C,p,_,rfl,X,J,a,j,aaa hl⟩
 rintro W Z ⟨C,p,jv,rfl,X,J,a,j,hl⟩;refine⟨_,rfl,d,dP p,p.map (·.1),rfl,X,FC p,by rw[B'];lia,λl u L m am=>⟨l,rfl,⟨_,SqL.of aa⟩,λD hD=>?_⟩⟩;have a1:u.length=p.length:=by rw[m.length_eq,B']
 have k3:=J.upd_new (J.free L)<|.lst<|u.map V.int;have v:upd Z l (.lst<|u.map V.int) d=gV (.dK<|dP p):=by rw[af<|ag X L];exact X
 have B:=@aa Z l (.lst<|u.map V.int);generalize upd Z l (.lst<|u.map V.int)=H3 at k3 v B hD;refine bB (K:=K) (a:=l) (xs:=u.map V.int) (uH d u p D H3)
  ⟨⟨NZ,rfl⟩,rfl,aa,λb o hb e=>by rw[af hb];exact e⟩ ?_ ?_ ?_
 ·rintro i W Y M S ⟨S,S,I,G⟩;exact⟨I,SqL.of<|G _ _ (ag B hD) B⟩
 ·rintro i x W Y M hx ⟨⟨v0,rfl⟩,N,I,G⟩;obtain⟨k,rfl,hk⟩:=cO hx;have km:k∈p.map (·.1):=m.mem_iff.mp<|N5 hk;obtain⟨O,a2⟩:=a.look (k:=k) (by rw[qx];exact km);rw[zX]at O;obtain⟨r,Zd,an⟩:=PZ.mp O;have as:r=0\/r=1:=by
   unfold jf at Zd;obtain⟨y,av,az⟩:=PZ.mp Zd;rw[<-az];exact j y<|PV av
  have Wy:i<u.length:=(N4.mp hk).1;have a3:Y.length<=60:=by
   grind
  have nd:d≠D:=ag v hD;refine cg ⟨_,rfl,_,rfl,(by show 2<=sizeLine;decide),λe he=>?_⟩;have aC:upd M e (.lst [.int 1,.int (-1)]) d=gV (.dK<|dP p):=by rw[af<|ag (G _ _ nd v) he];exact G _ _ nd v
  have hv:DGet (upd M e<|.lst [.int 1,.int (-1)]) d (.int k) (gV<|.int r):=by
   have z:=DGet.k (k:=OK k) aC;rwa[JD,Zd]at z
  refine⟨_,rfl,_,rfl,d,_,rfl,hv,(fz aa (Cf as) ⟨_,_,rfl,rfl,.inr ⟨?_,?_⟩,?_,ah (by lia),⟨_,rfl⟩,?_,aa,λb o hb eb=>?_⟩)⟩
  ·obtain z|z:=ly r<;>rw[z]<;>decide
  ·obtain z|z:=ly r<;>rw[z]<;>decide
  ·rwa[af<|ag I he]
  ·rw[N,OJ,hk,OF,an];rfl
  have U:=G b o hb eb;rwa[af hb,af<|ag U he]
 rintro W Y M ⟨S,N,I,G⟩;rw[B',Oi<|N9 _]at N;have aF:Y=(u.map λk=>k*JF (j9 p) k).map V.int:=by rw[N,OZ];rfl
 refine⟨D,Y,rfl,.inl ⟨SqL.of I,λt ht=>?_⟩⟩;have nH:=k3.free hD;have k4:Same H M:=λb o e=>G b o (ag e nH)<|k3 b o e;refine q t _ _ (k4.upd_new (k4.free ht) _) (by rw[aa,aF]) (a.clause (by rwa[qx]) am) ?_;rw[B'];lia
theorem tv(a n:Nat):min (a+12) n-min a n<=12:=Nat.sub_le_of_le_add (by rw[Nat.add_comm 12,<-Nat.add_min_add_right];exact Nat.le_min.2 ⟨Nat.min_le_left _ _,O8 (Nat.min_le_right _ _) (Ub _ _)⟩)
theorem FW{n:ab Int}:(bC (n.map V.int) (gV 3)<|gV 15).length<=12:=by
 unfold bC;have e:HT.sIx (n.map V.int).length 0 (gV 3)=min 3 _:=rfl;rw[e,OB];exact O8 (Nat.min_le_left _ _) (tv 3 _)
theorem rO(h:∀N,(∀a c,B D a c->N a c)->A {D with nx:=N} b H):rf A B D b H:=h _ λy y z=>z
inductive qy (a:J')(m:Int)(first:Int)(ns:ab Int)(q:J')(p:J')(H:Hp)(r:Int)(i:Nat)(b:ab (M' V))(h:Hp):Prop
 |mk (xs:ab V)(C:ab (ab Int))(v:M' V)(I:b=[gV<|.ref a,gV<|.int m,gV<|.int first,gV<|.int (first/2%(m+1)),gV<|.int<|Cc (cZ ns 1) 1 (decide (V.int (first%2)=V.int 1)),gV<|.int<|cZ ns 2/7,gV<|.ref q,v,NZ])(d:h q=gV (.lst xs))(e:h p=gV (.lst<|bC (ns.map V.int) (gV 3)<|gV 15))(f:CLs h C xs)(g:Same H h)(j:C.length=i)(k:∀c∈C,ClOk r c/\c.length<=4)
inductive qz (r:Int)(H:Hp)(D:J')(i:Nat)(b:ab (M' V))(ys:ab V)(h:Hp):Prop
 |mk (I:(∃v,b=[v,gV<|.int r]))(c:(∃a:ab Str,ys=a.map V.str/\a.length=i/\∀s∈a,n_ s))(d:h=upd H D (.lst ys))
inductive lG (ns:ab Int)(D:J')(H:Hp)(q:J')(xs:ab V)(s:ab (ab Int))(r:Int)(i:Nat)(a:ab (M' V))(ys:ab V)(h:Hp):Prop
 |mk (I:(∃v,a=[v,gV<|.int<|cZ ns 2/7]))(b:h D=gV (.lst ys))(d:Same H h)(e:h q=gV (.lst xs))(f:CLs h s xs)(C:ab (ab Int))(g:C.length<=i)(j:CLs h C ys)(k:∀c∈C,ClOk r c/\c.length<=4)
theorem FX(F:Fun K "_law_sentence" "_law_sentence" Hv f fd)(T:Bl mg)(VD:Fe P w K mg B 1 "_law_cell_at" (lx K))(bb:Fe P w K mg B 1 "_law_mix" xT)
  (bc:Fe P w K mg B 1 "_law_drawn" xU):ay P w K mg B a_ 2 f fd ["_law_script","_law_most"] (we K):=by
 refine F.okB (N:=["_law_script","_law_most","_law_first","_law_count","_law_turn","_law_odd","_law_clauses","_law_cell","_law_turns"]) λQC A a1 s H vs Q E sc hr h=>?_;obtain⟨a,n,m,rfl,hS,bf,o0,o1,q⟩:=h;refine⟨_,(ae gg
  (ae gg
  (ae gg
  (ae gg
  (ae gg
  (ae (fS 7 (aD<|bu bZ (pv 0) gg gg) gg)
  (ae gg
  (ae (sT 8<|gG PySem.F.plainAttrs_str PySem.F.slot_str_join PySem.F.type_str_join Fz ii<|fC<|fW ["_law_k","_law_turn"] [NZ,gV 4] gg (e:=λS S S S=>(xP (K:=K) ii gg)))
  (cQ<|dZ<|kT (pv 8)<|fW ["_law_clause","_law_odd"] [NZ,gV 5] (aD<|pv 6) (t:=λS S S S=>(bM<|PW.pt<|pW (oG xn (aN (zn (K:=K) rfl) rfl T.len P5<|fC<|pv 0) bX) gg))))))))))),?_⟩
 exists _,rfl,a,n,0,rfl,hS,Th 0;generalize cZ n 0=first
 exists _,rfl,_,_,rfl,rfl,⟨by simp,by simp⟩,_,rfl,_,_,rfl,rfl,_,_,rfl,rfl,(by lia);have x0:=QW (first/2) (show m+1≠0 by lia);have x1:=QL (first/2) (show 0<m+1 by lia);refine⟨_,rfl,a,n,1,rfl,hS,(by simp),_,rfl,_,_,rfl,rfl,(by simp),.inl ⟨rfl,_,_,_,rfl,?_⟩⟩;exists _,rfl,a,n,2,rfl,hS,(by simp),_,_,rfl,rfl,⟨by simp,by simp⟩;refine⟨Oy _,λd p=>?_⟩;have ac:H d=none:=p;have l:∃U,first/2%(m+1)=U:=⟨_,rfl⟩
 obtain⟨U,l⟩:=l;rw[l]at x0 x1;refine⟨_,rfl,3,rfl,15,rfl,a,_,rfl,(ad p _).seq hS,λW am=>⟨W,rfl,⟨_,SqL.of aa⟩,?_⟩⟩;obtain⟨ms,a2,S⟩:=BC n (gV 3)<|gV 15;have bg:=FW (n:=n);have k3:Same H (upd (upd H d<|.lst []) W<|.lst<|bC (n.map V.int) (gV 3)<|gV 15):=(ad p _).upd_new ((ad p _).free am) _;have an:=@aa (upd H d<|.lst []) W (.lst<|bC (n.map V.int) (gV 3)<|gV 15);have as:d≠W:=ag aa am;have av:upd (upd H d<|.lst []) W (.lst<|bC (n.map V.int) (gV 3)<|gV 15) d=gV (.lst []):=by rw[af as];exact aa
 refine cy (K:=K) (a:=W) (X:=bC (n.map V.int) (gV 3)<|gV 15) (qy a m first n d W H U)
  ⟨[],[],NZ,rfl,av,an,.nil,k3,rfl,λS z=>nomatch z⟩ ?_ ?_ ?_
 ·rintro i J j S ⟨S,S,S,S,S,g,S⟩;exact SqL.of g
 ·rintro i x J j L ⟨X,C,v7,rfl,G,g2,k,M,g5,r⟩;have Wy:i<(bC (n.map V.int) (gV 3)<|gV 15).length:=(N4.mp L).1;rw[a2]at L;obtain⟨cz,rfl,S⟩:=cO L;refine⟨_,rfl,.inl ⟨rfl,_,SqL.of G⟩,_,rfl,_,rfl,.ref d,_,rfl,.inl ⟨_,SqL.of G,rfl⟩,_,_,rfl,rfl,_,rfl,_,_,rfl,rfl,(by simp),.inl ⟨rfl,_,_,_,rfl,_,rfl,_,_,rfl,?_⟩⟩;rw[l];refine⟨x0,by lia,λp4 ls H4 k4 a3 a4 a5=>?_⟩;have h4:=k4 _ _ G;exists d,_,_,rfl,rfl,h4,(by rw[<-k.length,g5];exact ah<|by lia);refine⟨X++[.ref p4],C++[ls],_,by rw[l];rfl,aa,by rw[af as.symm];exact k4 _ _ g2,CLs.snoc (CL.upd ⟨p4,rfl,a3⟩ h4)<|(k.mono k4).upd h4,λb o e=>?_,by rw[N0,g5];rfl,λc u=>?_⟩
  ·rw[af<|ag e ac];exact k4 _ _<|M _ _ e
  obtain z|z:=Os.mp u
  ·exact r c z
  simp_all
 rintro J j ⟨X,C,v7,rfl,G,g2,k,M,g5,r⟩;have az:C.length<=12:=by simp_all
 clear g2 an av k3;dsimp only;refine rO λN hN=>?_;have Z:∀X C j,j d=gV (.lst X)->CLs j C X->Same H j->C.length<=13->(∀c∈C,ClOk U c/\c.length<=4)->
   N [gV<|.ref a,gV<|.int m,gV<|.int first,gV<|.int (first/2%(m+1)),gV<|.int<|Cc (cZ n 1) 1 (decide (V.int (first%2)=V.int 1)),gV<|.int<|cZ n 2/7,gV<|.ref d,v7,NZ] j:=by
  clear G k M g5 r az;intro X C j G k M g5 r;refine hN _ _ ?_;generalize Cc (cZ n 1) 1 (decide (V.int (first%2)=V.int 1))=r1;refine⟨rfl,_,rfl,first/2%(m+1),rfl,(by lia),(by lia),λD hD=>?_⟩;refine fG (lo:=0) (n:=(first/2%(m+1)).toNat) (qz r1 j D) ⟨⟨NZ,rfl⟩,by simp,rfl⟩ ?_ ?_ ?_
  ·rintro i J Y H2 S ⟨S,S,rfl⟩;exact aa
  ·rintro i J Y H2 hi ⟨⟨v0,rfl⟩,⟨ss,rfl,aC,v⟩,rfl⟩;have e0:Tt (r1/2^((0:Int)+(i:Int)).toNat) 1=r1/2^((0:Int)+(i:Int)).toNat%2:=M6 _;obtain⟨ch,a6,hs⟩:=Lx (j:=Tt (r1/2^((0:Int)+(i:Int)).toNat) 1) (by rw[e0];exact QW _<|by decide) (by rw[e0];exact QL _<|by simp);refine cg ⟨_,rfl,_,rfl,_,_,rfl,rfl,(by simp),_,_,rfl,rfl,.inr<|.inr ⟨_,_,ch,rfl,rfl,(by decide+kernel),a6,aa,(by rw[B'];exact ah<|by lia),⟨_,rfl⟩,⟨ss++[⟨#[ch]⟩],by rw[OF];rfl,by rw[N0,aC];rfl,λz hz=>?_⟩,gQ⟩⟩;grind
  rintro J Y H2 ⟨S,⟨ss,rfl,aC,v⟩,rfl⟩;obtain⟨tl,tw⟩:=BD v;refine⟨_,D,ss,rfl,rfl,SqL.of aa,?_,?_⟩
  ·rw[ql v,show(N_ "").length=0 from by decide+kernel];lia
  generalize Yq (N_ "") ss=t at tl tw;have kD:Same j (upd j D<|.lst<|ss.map V.str):=ad hD _;have Yc:=kD _ _ G;have aF:=k.mono kD;have k2:=M.trans kD;clear hD;generalize upd j D (.lst<|ss.map V.str)=H2 at k2 Yc aF;have a7:(t.length:Int)=U:=by lia
  refine⟨_,rfl,_,rfl,d,rfl,⟨_,SqL.of Yc⟩,λD2 ZG=>?_⟩;have aL:H D2=none:=k2.free ZG;have nq:d≠D2:=ag Yc ZG;refine bB (K:=K) (a:=d) (xs:=X) (lG n D2 H d X C U)
   ⟨⟨NZ,rfl⟩,aa,k2.upd_new aL _,by rw[af nq];exact Yc,aF.mono<|ad ZG _,[],Oy _,.nil,λS h=>nomatch h⟩ ?_ ?_ ?_
  ·rintro i J Y H4 S ⟨S,h1,S,h2,S⟩;exact⟨h1,SqL.of h2⟩
  ·rintro i x J Y H4 L ⟨⟨v0,rfl⟩,O,j2,j3,j4,I,j5,j6,j7⟩;have Wy:i<X.length:=(N4.mp L).1;have TQ:=k.length;obtain⟨c,u,tc,rfl,Q7⟩:=j4.get L;have Xy:c∈C:=N5 u;have sz:Y.length<sizeLine:=by rw[<-j6.length];exact ah (by lia)
   have a8:d≠D2:=nq;have kp:∀v0,lG n D2 H d X C U (i+1) [gV v0,gV<|.int<|cZ n 2/7] (Y++[.ref tc]) (upd H4 D2<|.lst<|Y++[.ref tc]):=by
    intro v0;refine⟨⟨_,rfl⟩,aa,j2.upd_new aL _,by rw[af a8];exact j3,j4.upd O,I++[c],by simp_all,CLs.snoc (CL.upd ⟨tc,rfl,Q7⟩ O)<|j6.upd O,λz hz=>?_⟩;obtain y|y:=Os.mp hz
    ·exact j7 z y
    rw[Ob.mp y];exact r c Xy
   refine⟨_,rfl,.ref tc,_,rfl,.inr ⟨_,SqT.of Q7,rfl⟩,_,_,rfl,rfl,_,rfl,cn (λS=>ap ⟨_,rfl,O,sz,kp _⟩) λS=>?_⟩;refine⟨_,rfl,_,_,rfl,rfl,⟨by simp,by simp⟩,_,_,rfl,rfl,(by simp),.inl ⟨rfl,_,rfl,cn (λS=>⟨_,rfl,O,sz,kp _⟩) λS=>?_⟩⟩;exact⟨⟨_,rfl⟩,O,j2,j3,j4,I,aaa j5,j6,j7⟩
  rintro J Y H4 ⟨S,O,j2,j3,j4,I,j5,j6,j7⟩;refine⟨(by show 2<=sizeLine;decide),λp5 a9=>?_⟩;have k5:Same H4 (upd H4 p5<|.tup [.str t,.ref D2]):=ad a9 _;have TQ:=k.length;refine q p5 t I _ (j2.trans k5) (FD aa (k5 _ _ O)<|j6.mono k5) ⟨by grind,tw,by lia,λc u=>?_⟩ λc u=>(j7 c u).2;rw[a7];simp_all
 refine⟨_,rfl,.ref d,_,rfl,.inl ⟨_,SqL.of G,rfl⟩,_,_,rfl,rfl,_,rfl,cn (λc1=>?_) λc1=>?_⟩
 ·have a0:(0:Int)<((X.length:Nat):Int):=Oh c1;refine⟨_,rfl,_,_,rfl,rfl,(by simp),.inl ⟨rfl,_,rfl,cn (λc2=>?_) λc2=>?_⟩⟩
  ·have z0:=QW (cZ n 2/7/6) (show((X.length:Nat):Int)≠0 by lia);have z1:=QL (cZ n 2/7/6) a0;obtain⟨x,L,ba⟩:=vO (x:=X) z0 z1;obtain⟨c,u,tc,rfl,Q7⟩:=k.get L;refine⟨_,rfl,.inl ⟨rfl,_,SqL.of G⟩,_,rfl,_,rfl,_,_,rfl,rfl,⟨by simp,by simp⟩,_,rfl,.ref d,_,rfl,.inl ⟨_,SqL.of G,rfl⟩,_,_,rfl,rfl,a0,(fz G ba ?_)⟩;exists d,_,_,rfl,rfl,G,(by rw[<-k.length];exact ah<|by lia);refine Z (X++[.ref tc]) (C++[c]) _ aa (CLs.snoc (CL.upd ⟨tc,rfl,Q7⟩ G)<|k.upd G) (λb o e=>?_) (by rw[N0];exact QN az) λz hz=>?_
   ·rw[af<|ag e ac];exact M _ _ e
   obtain y|y:=Os.mp hz
   ·exact r z y
   rw[Ob.mp y];exact r c<|N5 u
  exact Z X C j G k M (aaa az) r
 exact ak<|Z X C j G k M (aaa az) r
noncomputable abbrev xV:Pn:=b9 18
inductive lH (vs:ab V)(H:Hp)(Q:VK)(E:XK):Prop
 |mk (p:J')(t:Str)(w:V)(i:Nat)(h0:vs=[.ref p,.int<|(i:Int)+1])(h:H p=gV (.tup [.str t,w]))(a:i<t.length)(b:t.length<=900)(c:Q (.str<|ao<|cP t i) H)
theorem zY(F:Fun K "hand_of" "hand_of" xV f d)(T:Bl m):ay P w K m B a_ 1 f d ["sentence","variable"] lH:=by
 refine F.okB (N:=["sentence","variable","turns"]) λC A o s H v Q E n r h=>?_;obtain⟨p,t,w,i,rfl,c,j,u,q⟩:=h;refine⟨_,(ae gg
  (ae (aQ (ij<|tH nE nE bX (pv 1) gg) (ar fF) ax)
  gg)),?_⟩
 refine⟨_,rfl,(aS c rfl ?_)⟩;have k:decide ((1:Int)<=(i)+1)=true:=N3 (by lia);have l:decide ((i)+1<=((t.length):Int))=true:=N3 (by lia);have W:i<t.cps.toList.length:=by
  assumption
 have a:=N1 W;have b:kZ t.cps.toList ((i)+1-1)=gV t.cps.toList[i]:=by
  have e:(i:Int)+1-1=(i):=by simp
  rw[e];exact aG a
 exists _,rfl,_,_,rfl,rfl,_,rfl;rw[k];refine ap ⟨_,rfl,.str t,_,rfl,⟨OW (ah<|by lia),rfl⟩,_,_,rfl,rfl,_,rfl,?_⟩;rw[l];refine ak<|⟨_,rfl,_,rfl,_,_,rfl,rfl,.inr<|.inr ⟨t,_,_,rfl,rfl,OW (ah<|by lia),b,.inl ⟨rfl,_,rfl,?_⟩⟩⟩;rw[Hn,<-BE a];cases g:cP t i with
 |true=>
  rwa[g]at q
 |false=>
  rwa[g]at q
noncomputable abbrev JX:Pn:=b9 8
noncomputable abbrev LP:Pn:=b9 14
noncomputable abbrev Hw:Pn:=b9 23
noncomputable abbrev wf:Pn:=b9 19
def xW:Sp:=λs H Q _=>∃v d,s=[v]/\RD H d v/\Q (.bl<|jr d&&!mU d) H
def Hx:Sp:=λs H Q _=>∃v d m,s=[v,.int m]/\RD H d v/\Q (.bl<|rC m d) H
inductive lI (vs:ab V)(H:Hp)(Q:VK)(E:XK):Prop
 |mk (p:J')(t:Str)(w:V)(hw:N')(h0:vs=[.ref p,.str<|ao hw])(a:H p=gV (.tup [.str t,w]))(b:t.length<=900)(c:∀(l:J') (h:Hp),Same H h->h l=gV (.lst<|(aK t hw).map V.int)->Q (.ref l) h)
def rP:Sp:=λv H Q _=>∃b:N',v=[.str<|ao b]/\Q (.str<|ao (!b)) H
theorem cN(h:dH H d s)(l:d.length=2):∃D a x X,d=[D,a]/\s=[x,X]/\RD H D x/\RD H a X:=by
 match d,l with
 |[D,a],_=>
  obtain⟨x,r,rfl,b,k⟩:=aj h;obtain⟨X,f,rfl,c,e⟩:=aj k;obtain rfl:=bD e;exact⟨_,_,x,X,rfl,rfl,b,c⟩
inductive LQ (H:Hp)(a:J')(m:Int)(ds:ab Og)(i:Nat)(c:St)(h:Hp):Prop
 |mk (b:Int)(l:M' V)(h0:c=[gV<|.ref a,gV<|.int m,gV<|.int b,l])(d:h=H)(e:lp m b (ds.drop i)=lp m 0 ds)
inductive Hy (H:Hp)(D p:J')(t:Str)(hw:N')(i:Nat)(a:St)(ys:ab V)(h:Hp):Prop
 |mk (v:M' V)(h0:a=[v,gV (.str (ao hw)),gV (.ref p)])(b:ys=(((O7 i).filter λi=>cP t i == hw).map λ(i:Nat)=>V.int<|(i:Int)+1))(c:h=upd H D (.lst ys))
theorem LR:dk ["thing"] ["thing"] (aJ JX):=ET
theorem JY(F:Fun K "is_number" "is_number" JX f c)(T:Bl m):ay P w K m b a_ 1 f c ["thing"] xW:=by
 refine F.okA LR λC A o s H e Q E r h=>?_;obtain⟨v,d,rfl,a,q⟩:=h;have n:=fA a;exists _,gg;exists _,rfl,v,_,"int",_,rfl,jQ d v a,rq d n,_,rfl;cases I:jr d with
 |false=>
  rwa[I]at q
 |true=>
  rw[I]at q;exact ap ⟨_,rfl,v,_,"bool",_,rfl,jQ d v a,nV d n,_,rfl,q⟩
theorem JZ(F:Fun K "is_set" "is_set" LP f N)(T:Bl M)(W:Fe P w K M B 1 "is_number" xW):ay P w K M B a_ 2 f N ["thing","most"] Hx:=by
 refine F.okB (N:=["thing","most","behind","literal"]) λX A o s H Y Q E Z hr h=>?_;obtain⟨v,d,m,rfl,p,q⟩:=h;have O:=fA p;refine⟨_,(ae gg
  (ae gg
  (ae (fS 3 (bA<|pv 0) (ae (aQ (PW.pt<|pW gg<|rc<|ij<|tH pY nE (pv 2) gg<|pv 1) (cQ fm) ax)
   gg))
  (cQ fm)))),?_⟩
 exists _,rfl,v,_,"tuple",_,rfl,jQ d v p,li d O,_,rfl;cases d with
 |tuple D=>
  refine ak ?_;obtain⟨a,x,rfl,u,G⟩:=al p;have P1:=du G;refine⟨_,rfl,a,rfl,⟨_,SqT.of u⟩,fq (K:=K) (a:=a) (X:=x) (LQ H a m D)
   ⟨0,NZ,rfl,rfl,rfl⟩ (λi I J V U=>by obtain⟨V,V,V,e,V⟩:=U;rw[e];exact SqT.of u) ?_ ?_⟩
  ·rintro i y I J L ⟨b,l,rfl,rfl,c⟩;have Wy:i<x.length:=(N4.mp L).1;have r:=cY G L;rw[zw Qb<|by lia]at c;exists _,rfl,y,_,rfl,r,_,rfl;obtain⟨z,n⟩|n:=iu (D.getD i .none)
   ·rw[n]at r c ⊢;obtain rfl:=aw r;refine ak ?_;exists _,rfl,_,rfl,z,rfl,_,_,rfl,rfl,_,rfl;rw[oh]at c;refine cn (λt=>?_) λt=>?_
    ·have C:b<absI z:=Oh t;exists _,rfl,_,_,rfl,rfl,_,rfl;refine cn (λj=>?_) λj=>?_
     ·have k:¬absI z<=m:=λg=>by
       have e:decide (absI z<=m)=true:=N3 g;rw[show decide ((if z<0 then -z else z)<=m)=NW from e]at j;cases j
      rw[Oo<|by simp_all]at c;show Q (.bl N8) _
      rw[show rC m (.tuple D)=lp m 0 D from rfl,<-c]at q;exact q
     have k:absI z<=m:=T1 λg=>by
      have e:decide _=false:=N7 g;rw[show decide ((if z<0 then -z else z)<=m)=N8 from e]at j;exact j rfl
     rw[On ⟨C,k⟩]at c;exists _,rfl,z,rfl;exact⟨absI z,gV<|.int z,rfl,rfl,c⟩
    have C:=λg=>t<|N3 g;rw[Oo λg=>C g.1]at c;refine⟨_,rfl,ap ?_⟩;show Q _ _
    rw[show rC m _=lp m 0 D from rfl,<-c]at q;exact q
   rw[gY n];rw[uk n]at c;rwa[show rC m _=lp m 0 D from rfl,<-c]at q
  ·rintro I J ⟨b,l,rfl,rfl,c⟩;rw[List.drop_eq_nil_of_le<|by lia]at c;rwa[show rC m _=lp m 0 D from rfl,<-c]at q
 |_=>exact ap q
theorem FY(F:Fun K "variables_of" "variables_of" Hw f r)(T:Bl m)(Z:Fe P w K m b 1 "hand_of" lH):ay P w K m b a_ 2 f r ["sentence","hand"] lI:=by
 refine F.okB (N:=["sentence","hand"]) λC A o s H x Q E B I h=>?_;obtain⟨p,t,w,a,rfl,d,u,q⟩:=h;exists _,(cQ<|fW ["variable","hand","sentence"] [NZ,gV 1,gV 0] gg);refine⟨_,rfl,(aS d rfl ⟨.str t,_,rfl,⟨OW (cK<|by lia),rfl⟩,_,_,rfl,rfl,⟨_,_,rfl,by lia,λD e=>?_⟩⟩)⟩;have n:((t.length:Int)+1-1).toNat=t.length:=by simp
 refine fG (Hy H D p t a)
  ⟨NZ,rfl,rfl,rfl⟩ ?_ ?_ ?_
 ·rintro i j y k Y ⟨Y,Y,Y,rfl⟩;exact aa
 ·rintro i j y k l ⟨J,rfl,rfl,rfl⟩;rw[n]at l;have c:=ad e (.lst<|((O7 i).filter λi=>cP t i == a).map λ(i:Nat)=>V.int<|(i)+1) _ _ d;have v:(1:Int)+(i)=(i)+1:=by lia
  rw[v];refine⟨_,rfl,_,rfl,p,t,w,i,rfl,c,l,u,_,rfl,.inl ⟨rfl,_,rfl,?_⟩⟩;rw[eV];by_cases G:cP t i=a
  ·have g:(cP t i == a)=true:=by simp_all
   rw[N3 G];refine ap ⟨_,rfl,aa,?_,_,rfl,?_,gQ⟩
   ·have:=O0 (λi=>cP t i == a)<|O7 i;rw[PB]at this;rw[B'];exact cK (by lia)
   rw[Rg,Po,Pu (p:=λi=>cP t i == a) g,OF];rfl
  rw[N7 G];refine ak ⟨_,rfl,?_,rfl⟩;rw[Rg,Po,Pw λz=>G<|by simpa using z];simp
 rintro j y k ⟨Y,Y,rfl,rfl⟩;refine q D _ (ad e _) ?_;rw[aa,n];unfold aK;rw[OZ];rfl
theorem FZ:dk ["hand"] ["hand"] (aJ wf):=ET
theorem Ch(F:Fun K "other_hand" "other_hand" wf f d)(T:Bl m):ay P w K m B a_ 1 f d ["hand"] rP:=by
 refine F.okA FZ λC A o s H v Q E r h=>?_;obtain⟨b,rfl,q⟩:=h;exists _,gg;refine⟨_,rfl,.inl ⟨rfl,_,rfl,?_⟩⟩;cases b with
 |true=>exact ap q
 |false=>exact ak q
noncomputable abbrev Hz:Pn:=b9 25
noncomputable abbrev xX:Pn:=b9 26
noncomputable abbrev uI:Pn:=b9 27
def jg(H:Hp)(p:J')(c:ab Int):Prop:=H p=gV (.tup<|c.map V.int)
inductive wg (vs:ab V)(H:Hp)(Q:VK)(E:XK):Prop
 |mk (p q:J')(f s:ab Int)(v:Int)(h0:vs=[.ref p,.ref q,.int v])(a:jg H p f)(b:jg H q s)(c:f.length<=60)(d:s.length<=60)(e:∀h,Same H h->Q (.bl<|dW f s v) h)
inductive iw (vs:ab V)(H:Hp)(Q:VK)(E:XK):Prop
 |mk (p q:J')(f s:ab Int)(v:Int)(h0:vs=[.ref p,.ref q,.int v])(a:jg H p f)(b:jg H q s)(c:f.length+s.length<=60)(d:Ups f)(e:Ups s)(g:dW f s v=N8)(i:∀(l:J') (r:ab Int) (h:Hp),Same H h->Joins f s v r->jg h l r->Q (.ref l) h)
inductive eJ (vs:ab V)(H:Hp)(Q:VK)(E:XK):Prop
 |mk (p q:J')(t:Str)(w:V)(hw:N')(c:ab Int)(h0:vs=[.ref p,.str<|ao hw,.ref q])(a:H p=gV (.tup [.str t,w]))(b:t.length<=900)(d:jg H q c)(e:c.length<=60)(f:(∀l∈c,1<=absI l/\absI l<=(t.length:Int)))(g:∀(l:J') (h:Hp),Same H h->jg h l (aq t hw c)->Q (.ref l) h)
theorem bJ(c:ab Int):(c.map V.int).all jd=true:=by
 rw[RJ];exact O2.mpr λz z=>rfl
theorem F0{a:Type}(l:ab a)(f:a->N'):((l.map λx=>V.bl<|f x).all t6)=NW/\(l.map λx=>V.bl<|f x).any ig=l.any f:=by
 refine⟨by rw[RJ];exact O2.mpr λz z=>rfl,?_⟩;rw[R5];rfl
theorem oI(c:ab Int)(p:Int->N')(f:Int->V):((c.map V.int).filter<|ue p).map (ES f)=(c.filter p).map f:=by
 induction c with
 |nil=>rfl
 |cons x r i=>
  rw[OT];by_cases h:p x=NW
  ·rw[Pu (a:=V.int x) h,Pu h,OT,i];rfl
  rw[Pw (a:=V.int x) h,Pw h,i]
theorem F1{K:C'}{H:Hp}{p:J'}{n:ab Int}{Q:VK}(h:SqL K H p (n.map V.int))(b:∀a∈n,0<=a)(q:Q (.int<|n.foldl max 0) H):BL K (.ref p) (.int 0) H Q:=
 ⟨p,n,rfl,h,λe=>by simp_all,λM m c=>by rwa[BP b (.inl m) c<|b M m]at q⟩
theorem xY(l:Int):0<=absI l:=by
 obtain⟨z,e⟩|⟨z,e⟩:=aI l<;>lia
theorem F2(F:Fun K "stands_both_ways" "stands_both_ways" Hz f i)(T:Bl m):ay P w K m B a_ 1 f i ["first","second","variable"] wg:=by
 refine F.okB (N:=["first","second","variable"]) λC A o s H t Q E u y h=>?_;obtain⟨p,q,f,s,v,rfl,c,j,G,I,n⟩:=h;exists _,(cQ<|aN (iq rfl) rfl T.any Rw<|fC<|fW ["literal","second","variable"] [NZ,gV 1,gV 2] (bA<|pv 0) (e:=λZ Z Z Z=>(iQ (dg rfl) gg (pv 1)<|by rfl)));refine⟨_,rfl,p,rfl,⟨_,SqT.of c⟩,λD d=>aY [gV<|.ref q,gV<|.int v] (ue λl=>!decide (absI l=v)) (ES λl=>.bl<|s.contains (-l)) rfl c d (by rw[B'];lia) ?_ ?_ ?_⟩
 ·intro x a b R k r;obtain⟨z,Z,rfl⟩:=bo a;refine⟨_,rfl,z,rfl,_,rfl,.inl ⟨rfl,_,rfl,?_⟩⟩;have e:decide (V.int (absI z)=V.int v)=decide (absI z=v):=by
   simp
  have g:R (!decide _) b:=r;rwa[<-e]at g
 ·intro x a Z b R k r;obtain⟨z,Z,rfl⟩:=bo a;exists _,rfl,_,rfl,_,rfl,q,_,rfl,.inr<|SqT.of<|k _ _ j,rfl,bJ s;show R _ b
  rwa[aP]
 rw[oI];have e:=F0 (f.filter λl=>!decide (absI l=v)) λl=>s.contains (-l);exists D,_,rfl,SqL.of aa,e.1;rw[e.2];exact n _<|ad d _
theorem z_(F:Fun K "joined" "joined" xX f fd)(T:Bl mg):ay P w K mg J a_ 1 f fd ["first","second","variable"] iw:=by
 refine F.okB (N:=["first","second","variable","both"]) λQC A o s H vs Q E sc hr h=>?_;obtain⟨p,q,f,s,v,rfl,M,N,h9,hf,hs,hb,q'⟩:=h;refine⟨_,(ae (sT 3<|b_ cF gg<|fW ["literal","first"] [NZ,gV 0] (bA<|pv 1) (t:=λS S S S=>(bM<|cV (dJ (K:=K) rfl) (pv 0) (pv 1)<|by rfl)))
  (cQ<|aW bK rfl T.tuple Pr<|fC<|oo rfl T.sorted rfl T.abs<|fW ["literal","variable"] [NZ,gV 2]<|aD<|pv 3)),?_⟩
 refine⟨_,rfl,p,_,rfl,.inr<|SqT.of M,λL j=>?_⟩;have a:=ad j<|.lst<|f.map V.int;have O:=@aa H L (.lst<|f.map V.int);generalize upd H L (.lst<|f.map V.int)=U at a O;refine⟨_,rfl,q,rfl,⟨_,SqT.of<|a _ _ N⟩,λD W=>?_⟩;refine aY [gV<|.ref p] (ue λl=>!f.contains l) (λx=>x) rfl (a _ _ N) W (by rw[B'];lia) ?_ ?_ ?_
 ·intro x b c R k r;obtain⟨z,S,rfl⟩:=bo b;exists _,rfl,_,rfl,p,_,rfl,.inr<|SqT.of<|k _ _<|a _ _ M,rfl,bJ f,_,rfl;show R (!gP (.int z) (f.map V.int)) c
  rw[aP];exact r
 ·intro x b S c R k r;exact⟨_,rfl,r⟩
 rw[cB s (λl=>!f.contains l) _ λi=>rfl];have m:=ad W<|.lst<|(s.filter λl=>!f.contains l).map V.int;have X:=@aa U D (.lst<|(s.filter λl=>!f.contains l).map V.int);generalize upd U D (.lst<|(s.filter λl=>!f.contains l).map V.int)=Y at m X;have V0:=O0 (λl=>!f.contains l) s;refine⟨L,D,_,_,rfl,rfl,m _ _ O,X,by rw[B',B',Qj];lia,λn t=>?_⟩;rw[<-OF];have Z:=ad t<|.lst<|(f++s.filter λl=>!f.contains l).map V.int;have u:=@aa Y n (.lst<|(f++s.filter λl=>!f.contains l).map V.int);generalize upd Y n (.lst<|(f++s.filter λl=>!f.contains l).map V.int)=y at Z u;have ac:(f++s.filter λl=>!f.contains l).length<=60:=by rw[N0];lia
 refine⟨_,rfl,n,rfl,⟨_,SqL.of u⟩,λg d=>?_⟩;refine cM [gV<|.int v] (ue λl=>!decide (absI l=v)) (λx=>x) rfl u d (by rw[B'];lia) ?_ ?_ ?_
 ·intro x b c R k r;obtain⟨z,S,rfl⟩:=bo b;refine⟨_,rfl,z,rfl,_,rfl,.inl ⟨rfl,_,rfl,?_⟩⟩;have e:decide (V.int (absI z)=V.int v)=decide (absI z=v):=by
   simp
  have r':R (!decide _) c:=r;rwa[<-e]at r'
 ·intro x b S c R k r;exact⟨_,rfl,r⟩
 rw[cB _ (λl=>!decide _) _ λi=>rfl];have k4:=ad d<|.lst<|(gI f s v).map V.int;have r4:=@aa y g (.lst<|(gI f s v).map V.int);have B:(gI f s v).length<64:=Ru (O0 _ _) (Ru ac (by decide));show om _ _ (upd y g<|.lst<|(gI f s v).map _) _
 generalize upd y g _=H4 at k4 r4;exact⟨g,_,rfl,SqL.of r4,B,λL5 r C G ho=>⟨L5,_,rfl,.inl ⟨SqL.of aa,λL6 I=>q' L6 r _ ((((a.trans m).trans Z).trans k4).trans<|(ad C _).trans<|ad I _) (uq hf hs hb G ho) aa⟩⟩⟩
theorem wj(F:Fun K "dropped" "dropped" uI f I)(T:Bl M)(U:Fe P w K M B 1 "other_hand" rP)(VC:Fe P w K M B 2 "variables_of" lI):
  ay P w K M B a_ 3 f I ["sentence","hand","literals"] eJ:=by
 refine F.okB (N:=["sentence","hand","literals","others","last"]) λQC A O s H vs Q E sc hr h=>?_;obtain⟨p,q,t,w,b,c,rfl,J,L,m,N,g,W⟩:=h;refine⟨_,(ae gg
  (ae (sT 4<|FH rfl rfl T.max (fW ["literal","others"] [NZ,gV 3] (bA<|pv 2) (t:=λS S S S=>(bM<|cV (dg (K:=K) rfl) gg (pv 1)<|by rfl))) bX)
  (cQ<|aW bK rfl T.tuple Pr<|fC<|fW ["literal","last"] [NZ,gV 4]<|bA<|pv 2))),?_⟩
 refine⟨_,rfl,_,rfl,b,rfl,p,t,w,!b,rfl,J,L,λl v j X=>?_⟩;refine⟨_,rfl,q,rfl,⟨_,SqT.of<|j _ _ m⟩,λD y=>?_⟩;refine aY [gV<|.ref l] (ue λz=>(aK t (!b)).contains<|absI z) (ES λz=>.int<|absI z) rfl (j _ _ m) y (by rw[B'];lia) ?_ ?_ ?_
 ·intro x d n R k r;obtain⟨z,S,rfl⟩:=bo d;exists _,rfl,z,rfl,_,rfl,l,_,rfl,.inl<|SqL.of<|k _ _ X,rfl,bJ _,_,rfl;show R (gP (.int<|absI z)<|(aK t (!b)).map V.int) n
  rw[aP];exact r
 ·intro x d S n R k r;obtain⟨z,S,rfl⟩:=bo d;exact⟨_,rfl,z,rfl,r⟩
 have e:((c.map V.int).filter<|ue λz=>(aK t (!b)).contains<|absI z).map (ES λz=>.int<|absI z)=((c.filter λl=>!(cP t (absI l-1).toNat == b)).map absI).map V.int:=by
  rw[oI,OZ];have:(c.filter λz=>(aK t (!b)).contains<|absI z)=c.filter λl=>!(cP t (absI l-1).toNat == b):=TL λz C=>FI (g z C).1 (g z C).2;rw[this];rfl
 rw[e];have o:=ad y<|.lst<|((c.filter λl=>!(cP t (absI l-1).toNat == b)).map absI).map V.int;have G:=@aa v D (.lst<|((c.filter λl=>!(cP t (absI l-1).toNat == b)).map absI).map V.int);generalize upd v D (.lst<|((c.filter λl=>!(cP t _ == b)).map _).map _)=H2 at o G;unfold tC;refine F1 (n:=(c.filter λl=>!(cP t _ == b)).map _) (SqL.of G) (λa Y=>?_) ?_
 ·obtain⟨z,S,rfl⟩:=OH.mp Y;exact xY z
 refine⟨_,rfl,q,rfl,⟨_,SqT.of<|o _ _<|j _ _ m⟩,λD2 Z=>aY [gV<|.int<|eZ t b c] (ue λl=>decide (absI l<=eZ t b c)) (λx=>x) rfl (o _ _<|j _ _ m) Z (by rw[B'];lia) ?_ ?_ ?_⟩
 ·intro x d n R k r;obtain⟨z,S,rfl⟩:=bo d;exact⟨_,rfl,z,rfl,_,rfl,_,_,rfl,rfl,_,rfl,r⟩
 ·intro x d S n R k r;exact⟨_,rfl,r⟩
 rw[cB c _ _ λi=>rfl];exact⟨D2,_,rfl,.inl ⟨SqL.of aa,λL3 u=>W L3 _ (((j.trans o).trans<|ad Z _).trans<|ad u _) aa⟩⟩
noncomputable abbrev Cj:Pn:=b9 9
noncomputable abbrev HA:Pn:=b9 10
noncomputable abbrev Ck:Pn:=b9 53
noncomputable abbrev Cl:Pn:=b9 58
noncomputable abbrev Cn:Pn:=b9 57
inductive j_ (vs:ab V)(H:Hp)(Q:VK)(E:XK):Prop
 |mk (v:V)(d:Og)(many:Nat)(h0:vs=[v,.int (many:Int)])(h:RD H d v)(a:Q (.bl (aH many d).isSome) H)
inductive wk (vs:ab V)(H:Hp)(Q:VK)(E:XK):Prop
 |mk (v:V)(d:Og)(w:Str)(n:Nat)(h0:vs=[v,.str w,.int (n:Int)])(h:RD H d v)(a:1<=n)(b:PP (.str w)=NW)(c:(∀ds,d=.tuple ds->PP (ds.getD 0 .none)=NW))(e:Q (.bl<|formB w n d) H)
inductive rQ (vs:ab V)(H:Hp)(Q:VK)(E:XK):Prop
 |mk (p q:J')(t:V)(v:V)(d:Og)(xs:ab V)(c:ab (ab Int))(h0:vs=[.ref p,v])(h:H p=gV (.tup [t,.ref q]))(b:H q=gV (.lst xs))(e:CLs H c xs)(f:c.length<=900)(g:RD H d v)(j:∀a,RV H ((aH c.length d).map λi=>c.getD i []) a->Q a H)
inductive rR (vs:ab V)(H:Hp)(Q:VK)(E:XK):Prop
 |mk (p a:J')(t:Str)(w:V)(hw:N')(v:V)(d:Og)(ys:ab V)(sets:ab (ab Int))(h0:vs=[.ref p,.str<|ao hw,v,.ref a])(e:H p=gV (.tup [.str t,w]))(f:t.length<=30)(g:H a=gV (.lst ys))(i:CLs H sets ys)(j:sets.length<=9000)(k:(∀c∈sets,au t.length c))(l:RD H d v)(m:∀b h,Same H h->RV h (gK t hw sets d) b->Q b h)
inductive rS (vs:ab V)(H:Hp)(Q:VK)(E:XK):Prop
 |mk (p a b:J')(t:Str)(w:V)(hw:N')(g x X d:V)(D e f:Og)(ys:ab V)(sets:ab (ab Int))(h0:vs=[.ref p,.str<|ao hw,.ref b,.ref a])(k:H p=gV (.tup [.str t,w]))(l:t.length<=30)(m:H b=gV (.tup [g,x,X,d]))(n:H a=gV (.lst ys))(o:CLs H sets ys)(q:sets.length<=9000)(r:(∀c∈sets,au t.length c))(s:RD H D x)(u:RD H e X)(i:RD H f d)(j:∀v h,Same H h->RV h (d9 t hw sets D e f) v->Q v h)
theorem Co(F:Fun K "is_place" "is_place" Cj f k)(U:Fe P w K M b 1 "is_number" xW):ay P w K M b a_ 2 f k ["thing","many"] j_:=by
 refine F.okB (N:=["thing","many"]) λC A o s H l Q E p r h=>?_;obtain⟨v,d,m,rfl,j,q⟩:=h;exists _,(cQ<|vm gg<|vk<|tG nE pY bX (pv 0)<|pv 1);exists _,rfl,v,d,rfl,j,_,rfl;obtain⟨z,rfl⟩|n:=iu d
 ·obtain rfl:=aw j;have a:Q (.bl (if 0<=z/\z<(m)then gV _ else NZ).isSome) H:=q;exists _,rfl,_,_,rfl,rfl,_,rfl;by_cases g:0<=z
  ·rw[N3 g];refine ap ⟨_,rfl,_,_,rfl,rfl,?_⟩;by_cases i:z<(m)
   ·simp_all
   rw[Oo λc=>i c.2]at a;show Q (.bl _) H
   rwa[N7 i]
  rw[Oo λc=>g c.1]at a;rwa[N7 g]
 rw[gY n];have e:aH m d=none:=by
  cases d with
  |int z=>lia
  |_=>rfl
 rwa[e]at q
theorem F3(F:Fun K "begins_with" "begins_with" HA f p)(T:Bl M):ay P w K M B a_ 1 f p ["thing","word","many"] wk:=by
 refine F.okB (N:=["thing","word","many"]) λC A o s H u Q E y G h=>?_;obtain⟨v,d,W,n,rfl,i,I,j,k,q⟩:=h;have N:=fA i;exists _,gg;exists _,rfl,v,_,"tuple",_,rfl,jQ d v i,li d N,_,rfl;cases d with
 |tuple D=>
  obtain⟨a,x,rfl,l,m⟩:=al i;have r:=du m;refine ap ⟨_,rfl,.ref a,_,rfl,.inr ⟨_,SqT.of l,rfl⟩,_,rfl,.inl ⟨rfl,_,rfl,?_⟩⟩;have c:Q (.bl (decide _&&my W _)) H:=q;by_cases g:D.length=n
  ·rw[N3 g]at c;have e:decide (V.int ((x.length))=V.int _)=true:=N3 (by rw[r,g]);rw[e];obtain⟨X,b⟩:∃X,x[0]?=gV X:=⟨_,N1 (by lia)⟩;have t:=cY m b;refine ap ⟨_,rfl,(aS l (aG b) ⟨_,rfl,.inr ⟨_,_,t,c_ W,k D rfl,j,?_⟩⟩)⟩;rwa[ur]
  ·rw[N7 g]at c;have e:decide (V.int ((x.length))=V.int (n))=false:=(by lia);rwa[e]
 |_=>exact ak q
theorem Cp(F:Fun K "given_set" "given_set" Ck f u)(T:Bl m)(U:Fe P w K m b 2 "is_place" j_):ay P w K m b a_ 3 f u ["sentence","place"] rQ:=by
 refine F.okB (N:=["sentence","place"]) λD A o s H G Q E I J h=>?_;obtain⟨p,q,t,v,d,X,C,rfl,k,l,a,L,n,j⟩:=h;have y:=a.length;exists _,gg;refine⟨_,rfl,_,rfl,(aS k rfl ⟨.ref q,_,rfl,.inl ⟨_,SqL.of l,rfl⟩,v,d,X.length,rfl,n,_,rfl,?_⟩)⟩;rw[<-y];cases g:aH _ d with
 |none=>
  rw[g]at j;exact ap<|j _ rfl
 |some i=>
  rw[g]at j;obtain⟨M,rfl⟩:=aA g;obtain rfl:=aw n;obtain⟨x,r⟩:∃x,X[i]?=gV x:=⟨_,N1 (Pf M (Tw y))⟩;obtain⟨c,z,B⟩:=a.get r;have e:C.getD i []=c:=by rw[K',z];rfl
  refine ak ⟨_,rfl,(aS k rfl ⟨_,rfl,(fz l (aG r)<|j _ ?_)⟩)⟩;show CL H (C.getD i []) x
  rwa[e]
theorem Cq(F:Fun K "drop_set" "drop_set" Cl f G)(T:Bl m)(W:Fe P w K m B 2 "is_place" j_)(X:Fe P w K m B 3 "dropped" eJ):ay P w K m B a_ 4 f G ["sentence","hand","place","ahead"] rR:=by
 refine F.okB (N:=["sentence","hand","place","ahead"]) λY A o s H Z Q E sc hr h=>?_;obtain⟨p,a,t,w,n,v,d,y,b,rfl,I,h9,r,u,h8,j,z,q⟩:=h;have J:=u.length;exists _,gg;exists _,rfl,_,rfl,.ref a,_,rfl,.inl ⟨_,SqL.of r,rfl⟩,v,d,y.length,rfl,z,_,rfl;rw[<-J];unfold gK at q;cases g:aH _ d with
 |none=>
  rw[g]at q;exact ap<|q _ _ (Same.refl _) rfl
 |some i=>
  rw[g]at q;obtain⟨hi,rfl⟩:=aA g;obtain rfl:=aw z;obtain⟨x,C⟩:∃x,y[i]?=gV x:=⟨_,N1 (Pf hi (Tw J))⟩;obtain⟨c,D,l,rfl,L⟩:=u.get C;have e:b.getD i []=c:=by rw[K',D];rfl
  have k:=j c<|N5 D;have TQ:=bv k;refine ak ⟨_,rfl,_,rfl,_,rfl,_,rfl,(fz r (aG C) ⟨p,l,t,w,n,c,rfl,I,by lia,L,by lia,k.2,λM N O U=>q _ _ O ?_⟩)⟩;show CL N (aq t n<|b.getD i []) _
  rw[e];exact⟨M,rfl,U⟩
theorem F4(h:aH s.length d=NZ):d9 t H s d D a=none:=by
 unfold d9;rw[h]
theorem F5(h:aH s.length d=NZ):d9 t H s D d a=none:=by
 unfold d9;rw[h];cases aH _ D<;>rfl
theorem F6(h:∀z,d≠.int z):d9 t H s D a d=none:=by
 unfold d9
 simp_all
theorem F7{t:Str}{h:N'}{z:Int}(H:aH s.length d=gV i)(a:aH s.length D=gV j):
  d9 t h s d D (.int z)=if e_ t h (s.getD i []) (s.getD j []) z=NW then gV (bW (s.getD i []) (s.getD j []) z)else none:=by
 unfold d9;rw[H,a]
theorem Cr(F:Fun K "join_set" "join_set" Cn f fd)(T:Bl M)(UT:Fe P w K M B 1 "is_number" xW)(UO:Fe P w K M B 2 "is_place" j_)
  (am:Fe P w K M B 1 "other_hand" rP) (VC:Fe P w K M B 2 "variables_of" lI) (an:Fe P w K M B 1 "stands_both_ways" wg) (as:Fe P w K M B 1 "joined" iw):
  ay P w K M B a_ 3 f fd ["sentence","hand","line","ahead"] rS:=by
 refine F.okB (N:=["sentence","hand","line","ahead","variable","first","second"]) λQC A U s H vs Q E sc hr h=>?_;obtain⟨p,a,b,t,w,n,x0,x1,x2,x3,d1,d2,d3,Y,c,rfl,hp,h9,o,I,W,h8,u,r1,r2,r3,q⟩:=h;have P1:=W.length;exists _,gg;refine⟨_,rfl,(aS o rfl ?_)⟩;refine⟨_,rfl,(aS o rfl ⟨_,rfl,.ref a,_,rfl,.inl ⟨_,SqL.of I,rfl⟩,x1,d1,Y.length,rfl,r1,_,rfl,?_⟩)⟩;rw[<-P1];cases X:aH c.length d1 with
 |none=>
  rw[F4 X]at q;exact ap<|ap<|q _ _ (Same.refl _) rfl
 |some i=>
 refine ak ⟨_,rfl,(aS o rfl ⟨_,rfl,.ref a,_,rfl,.inl ⟨_,SqL.of I,rfl⟩,x2,d2,Y.length,rfl,r2,_,rfl,?_⟩)⟩;rw[<-P1];cases G:aH c.length d2 with
 |none=>
  rw[F5 G]at q;exact ap<|ap<|q _ _ (Same.refl _) rfl
 |some j=>
 refine ak ⟨_,rfl,x3,d3,rfl,r3,_,rfl,?_⟩;obtain⟨z,rfl⟩|hn:=iu d3
 rotate_left
 ·rw[gY hn,F6 hn]at*;exact ap<|q _ _ (Same.refl _) rfl
 obtain rfl:=aw r3;rw[F7 X G]at q;obtain⟨hi,rfl⟩:=aA X;obtain⟨hj,rfl⟩:=aA G;obtain rfl:=aw r1;obtain rfl:=aw r2;obtain⟨y1,v⟩:∃x,Y[i]?=gV x:=⟨_,N1 (Pf hi (Tw P1))⟩;obtain⟨y2,y⟩:∃x,Y[j]?=gV x:=⟨_,N1 (Pf hj (Tw P1))⟩;obtain⟨g,hf,Z,rfl,Yb⟩:=W.get v;obtain⟨m,C,l2,rfl,V0⟩:=W.get y;have ef:c.getD i []=g:=by rw[K',hf];rfl
 have es:c.getD j []=m:=by rw[K',C];rfl
 rw[ef,es]at q;have of:=u g<|N5 hf;have os:=u m<|N5 C;have cf:=bv of;have cs:=bv os;refine ak ?_;refine⟨_,rfl,_,rfl,(aS o rfl<|(fz I (aG v) ?_))⟩;refine⟨_,rfl,_,rfl,(aS o rfl<|(fz I (aG y) ?_))⟩;have J:e_ t n g m z=N8->∀H',Same H H'->Q .non H':=λe H' k=>by
  rw[e]at q;exact q _ _ k rfl
 refine⟨_,rfl,_,rfl,_,rfl,n,rfl,p,t,w,!n,rfl,hp,by lia,λl H1 d hl=>?_⟩;exists l,_,rfl,.inl<|SqL.of hl,rfl,bJ _,_,rfl;show(if(!gP (.int z) ((aK t (!n)).map V.int))=NW then _ else _)
 rw[aP];cases D:(aK t (!n)).contains z with
 |false=>exact ap<|ap<|J (by unfold e_;rw[D];rfl) _ d
 |true=>
 refine ak ⟨_,rfl,_,rfl,Z,_,rfl,.inr<|SqT.of<|d _ _ Yb,rfl,bJ _,_,rfl,?_⟩;show(if(!gP (.int z) (g.map V.int))=NW then _ else _)
 rw[aP];cases L:g.contains z with
 |false=>exact ap<|ap<|J (by unfold e_;rw[D,L];rfl) _ d
 |true=>
 refine ak ⟨_,rfl,_,rfl,_,rfl,l2,_,rfl,.inr<|SqT.of<|d _ _ V0,rfl,bJ _,_,rfl,?_⟩;show(if(!gP (.int (-z)) (m.map V.int))=NW then _ else _)
 rw[aP];cases c3:m.contains (-z)with
 |false=>exact ap<|J (by unfold e_;rw[D,L,c3];rfl) _ d
 |true=>
 refine ak ⟨_,rfl,_,rfl,_,rfl,Z,l2,g,m,z,rfl,d _ _ Yb,d _ _ V0,by lia,by lia,λH2 N=>⟨_,rfl,?_⟩⟩;cases O:dW g m z with
 |true=>exact ap<|J (by unfold e_;rw[D,L,c3,O];rfl) _<|d.trans N
 |false=>
 have ej:e_ t n g m z=true:=by unfold e_;rw[D,L,c3,O];rfl
 rw[ej]at q;refine ak ⟨_,rfl,_,rfl,_,rfl,Z,l2,g,m,z,rfl,N _ _<|d _ _ Yb,N _ _<|d _ _ V0,by lia,of.1,os.1,O,λl3 r H3 k3 ac h3=>q _ _ ((d.trans N).trans k3) ?_⟩;rw[ac.eq of.1 os.1 O]at h3;exact⟨l3,rfl,h3⟩
noncomputable abbrev rT:Pn:=b9 54
noncomputable abbrev Ct:Pn:=b9 55
noncomputable abbrev Cu:Pn:=b9 56
noncomputable abbrev HB:Pn:=b9 59
inductive rV (vs:ab V)(H:Hp)(Q:VK)(E:XK):Prop
 |mk (l t:J')(c k:ab Int)(h0:vs=[.ref l,.ref t])(h:jg H l c)(a:jg H t k)(b:Q (.bl (c.any λz=>k.contains z)) H)
inductive HC (H:Hp)(l t:J')(c k:ab Int)(i:Nat)(a:St)(h:Hp):Prop
 |mk (v:M' V)(h0:a=[gV (.ref l),gV (.ref t),v])(b:h=H)(d:((c.take i).any λz=>k.contains z)=N8)
inductive rW (vs:ab V)(H:Hp)(Q:VK)(E:XK):Prop
 |mk (l q:J')(c:ab Int)(xs:ab V)(C:ab (ab Int))(h0:vs=[.ref l,.ref q])(a:jg H l c)(b:c.length<=60)(d:H q=gV (.lst xs))(e:CLs H C xs)(f:C.length<=900)(g:∀h,Same H h->Q (.bl<|ut c C) h)
inductive rX (vs:ab V)(H:Hp)(Q:VK)(E:XK):Prop
 |mk (p q:J')(t:Str)(v:V)(d:Og)(xs:ab V)(c:ab (ab Int))(h0:vs=[.ref p,v])(b:H p=gV (.tup [.str t,.ref q]))(e:t.length<=30)(f:H q=gV (.lst xs))(g:CLs H c xs)(i:c.length<=900)(j:RD H d v)(k:∀a h,Same H h->RV h (mB t.length c d) a->Q a h)
def rY(d:Og):Prop:=∀D,d=.tuple D->PP (D.getD 0 .none)=NW
inductive wm (vs:ab V)(H:Hp)(Q:VK)(E:XK):Prop
 |mk (p q a:J')(t:Str)(hw:N')(v:V)(d:Og)(xs ys:ab V)(C sets:ab (ab Int))(h0:vs=[.ref p,.str<|ao hw,v,.ref a])(i:H p=gV (.tup [.str t,.ref q]))(j:t.length<=30)(k:H q=gV (.lst xs))(l:CLs H C xs)(m:C.length<=900)(n:H a=gV (.lst ys))(o:CLs H sets ys)(r:sets.length<=9000)(s:(∀c∈sets,au t.length c))(e:RD H d v)(f:rY d)(g:∀b h,Same H h->RV h (aO t C hw sets d) b->Q b h)
theorem iy(h:dH H d s)(l:d.length=4):∃D c e f x X a b,d=[D,c,e,f]/\s=[x,X,a,b]/\RD H D x/\RD H c X/\RD H e a/\RD H f b:=by
 match d,l with
 |[D,c,e,f],_=>
  obtain⟨x,r,rfl,g,k⟩:=aj h;obtain⟨X,q,rfl,i,j⟩:=aj k;obtain⟨a,t,rfl,m,n⟩:=aj j;obtain⟨b,u,rfl,o,p⟩:=aj n;obtain rfl:=bD p;exact⟨_,_,_,_,x,X,a,b,rfl,rfl,g,i,m,o⟩
theorem LS:PP (.str bi)=true:=Nice.shaped (d6 8<|by decide+kernel)
theorem LU:PP (.str aB)=true:=Nice.shaped (d6 8<|by decide+kernel)
theorem LV:PP (.str bP)=true:=Nice.shaped (d6 8<|by decide+kernel)
theorem LW:PP (.str aU)=true:=Nice.shaped (d6 8<|by decide+kernel)
theorem F8{a:Type}(l:ab a)(f:a->N'):(l.map λx=>V.bl<|f x).all t6=NW/\(l.map λx=>V.bl<|f x).all ig=l.all f:=by
 constructor
 ·rw[RJ];exact O2.mpr λz z=>rfl
 rw[RJ];rfl
noncomputable def Cv(H:Hp)(c:ab Int)(x:V):N':=match x with
 |.ref p=>match H p with
  |some (.tup z)=>c.any λl=>z.contains<|.int l
  |_=>N8
 |_=>N8
theorem Cw(z:ab Int)(l:Int):(z.map V.int).contains (.int l)=z.contains l:=by
 simp
theorem xZ(h:CL H k x):Cv H c x=c.any λl=>k.contains l:=by
 obtain⟨p,rfl,a⟩:=h;unfold Cv;simp only[a];exact eI λl z=>Cw k l
theorem uJ:∀{C:ab (ab Int)} {x:ab V},CLs H C x->x.all (Cv H c)=ut c C:=by
 intro C x h;change Paired _ _ _ at h;induction h with
 |nil=>rfl
 |cons h t i=>rw[Rp,xZ h,i];rfl
theorem mZ:dk ["literals","clause","literal"] ["literals","clause"] (aJ rT):=ET
theorem Cy(F:Fun K "hits" "hits" rT f p):ay P w K M b a_ 1 f p ["literals","clause"] rV:=by
 have B:=mZ;refine F.okA mZ λC A o s H D Q E G h=>?_;obtain⟨l,t,c,k,rfl,d,r,q⟩:=h;refine⟨_,(ae (fS 2 (bA<|pv 0) gg)
  (cQ fm)),⟨_,rfl,l,rfl,⟨_,SqT.of d⟩,fq (K:=K) (X:=c.map V.int) (HC H l t c k) ⟨NZ,rfl,rfl,rfl⟩ ?_ ?_ ?_⟩⟩
 ·rintro i j m Z ⟨Z,Z,rfl,Z⟩;exact SqT.of d
 ·rintro i x j m u ⟨v,rfl,rfl,a⟩;obtain⟨z,rfl,n⟩:=cO u;have e:(if N8=NW then !gP (.int z) (k.map V.int)else gP (.int z) (k.map V.int))=k.contains z:=by
   rw[Oo N6,aP]
  exists _,rfl,_,rfl,t,_,rfl,.inr<|SqT.of r,rfl,bJ k,_,rfl;rw[e];cases g:k.contains z with
  |true=>
   have y:=OC.mpr ⟨z,N5 n,g⟩;rwa[y]at q
  |false=>
   refine ak ⟨_,rfl,rfl,?_⟩;rw[OJ,n,Zw,a];show(k.contains z || N8)=N8
   rw[g];rfl
 rintro j m ⟨v,rfl,rfl,a⟩;rw[Oi<|by rw[B'];exact N9 _]at a;rwa[a]at q
theorem Cz(F:Fun K "hits_each" "hits_each" Ct f n)(T:Bl m)(p:Fe P w K m b 1 "hits" rV):ay P w K m b a_ 2 f n ["literals","clauses"] rW:=by
 refine F.okB (N:=["literals","clauses"]) λJ A o s H L Q E M N h=>?_;obtain⟨l,q,c,X,O,rfl,u,U,d,a,W,v⟩:=h;have Y:=a.length;exists _,(cQ<|aN (nZ rfl) rfl T.all TX<|fC<|fW ["clause","literals"] [NZ,gV 0]<|aD<|pv 1);refine⟨_,rfl,q,rfl,⟨_,SqL.of d⟩,λD g=>cM [gV<|.ref l] (λZ=>NW) (λx=>.bl<|Cv H c x) rfl d g (by lia) ?_ ?_ ?_⟩
 ·intro x j y R k r;exact r
 ·intro x j Z y R k r;obtain⟨i,z⟩:=Pm.mp j;obtain⟨B,Z,t⟩:=a.get z;rw[xZ t]at r;obtain⟨C,rfl,G⟩:=t;exact⟨_,rfl,_,rfl,l,C,c,B,rfl,k _ _ u,k _ _ G,r⟩
 have I:(X.filter _)=X:=Qz.mpr λZ Z=>rfl;rw[I];have e:=F8 X<|Cv H c;exists D,_,rfl,SqL.of aa,e.1;rw[e.2,uJ a];exact v _<|ad g _
theorem CA(F:Fun K "hits_set" "hits_set" Cu f n)(T:Bl m)(r:Fe P w K m b 2 "is_set" Hx)(J:Fe P w K m b 2 "hits_each" rW):ay P w K m b a_ 3 f n ["sentence","literals"] rX:=by
 refine F.okB (N:=["sentence","literals"]) λD A o s H I Q E L M h=>?_;obtain⟨p,q,t,v,d,x,C,rfl,e,N,u,c,y,i,a⟩:=h;exists _,gg;refine⟨_,rfl,_,rfl,(aS e rfl ⟨.str t,_,rfl,⟨OW (cK<|by lia),rfl⟩,v,d,_,rfl,i,_,rfl,?_⟩)⟩;unfold mB at a;cases g:rC _ d with
 |false=>
  rw[g]at a;exact ap<|ap<|a _ _ (Same.refl _) rfl
 |true=>
 obtain⟨z,O⟩:=xF g;have B:=CL.of (by rwa[<-z]);obtain⟨l,rfl,j⟩:=B;have U:=bv O;refine ak ⟨_,rfl,_,rfl,(aS e rfl ⟨l,q,mz d,x,C,rfl,j,by lia,u,c,y,λW k=>⟨_,rfl,?_⟩⟩)⟩;rw[g]at a;cases G:ut _ C with
 |false=>
  rw[G]at a;exact ap<|a _ _ k rfl
 |true=>
  rw[G]at a;exact ak ⟨_,rfl,a _ _ k ⟨l,rfl,k _ _ j⟩⟩
theorem F9(F:Fun K "line_set" "line_set" HB f fd)(T:Bl M)(ac:Fe P w K M B 1 "begins_with" wk)(am:Fe P w K M B 3 "given_set" rQ)
  (an:Fe P w K M B 3 "hits_set" rX) (as:Fe P w K M B 3 "join_set" rS) (av:Fe P w K M B 4 "drop_set" rR):ay P w K M B a_ 5 f fd ["sentence","hand","line","ahead"] wm:=by
 refine F.okB (N:=["sentence","hand","line","ahead"]) λQC A O s H vs Q E sc hr h=>?_;obtain⟨p,q,a,t,e,v,d,xs,ys,C,c,rfl,J,U,hq,n,h9,ha,hs,h8,o,j,i,g⟩:=h;exists _,gg;have ew:decide (V.str (ao e)=V.str (N_ "wisher"))=e:=by
  have z:=eV e NW;have Z:ao NW=N_ "wisher":=rfl;simp_all
 have es:decide (V.str (ao e)=V.str (N_ "spoiler"))=!e:=by
  have z:=eV e N8;have Z:ao N8=N_ "spoiler":=rfl;simp_all
 refine rO λN hN=>?_;have u:(!e&&formB aU 2 d)=N8->N (L2.start ["sentence","hand","line","ahead"] [.ref p,.str<|ao e,v,.ref a]) H:=λy=>hN _ _ (by
  refine rO λN2 W=>?_;have G:(e&&formB bP 2 d)=N8->N2 (L2.start ["sentence","hand","line","ahead"] [.ref p,.str<|ao e,v,.ref a]) H:=λI=>W _ _ (by
   have L:aO t C e c d=if formB bi 4 d=NW then d9 t e c (fK d 1) (fK d 2) (fK d 3)else if formB aB 2 d=NW then gK t e c (fK d 1)else none:=by
    unfold aO;rw[y,I];rfl
   rw[L]at g;exists _,rfl,v,d,bi,4,rfl,j,by simp,LS,i,_,rfl;cases Y:formB bi 4 d with
   |true=>
    rw[Y,On rfl]at g;obtain⟨ds,rfl,l⟩:=d_ Y;obtain⟨b,zs,rfl,k,m⟩:=al j;obtain⟨d0,D,d2,d3,X,x,x2,x3,rfl,rfl,r0,r,r2,r3⟩:=iy m l;exact ap ⟨_,rfl,_,rfl,_,rfl,_,rfl,p,a,b,t,_,e,X,x,x2,x3,D,d2,d3,ys,c,rfl,J,U,k,ha,hs,h8,o,r,r2,r3,g⟩
   |false=>
   rw[Y,Oo N6]at g;refine ak ⟨_,rfl,v,d,aB,2,rfl,j,by simp,LU,i,_,rfl,?_⟩;cases c4:formB aB 2 d with
   |true=>
    rw[c4]at g;obtain⟨ds,rfl,l⟩:=d_ c4;obtain⟨b,zs,rfl,k,m⟩:=al j;obtain⟨d0,D,X,x,rfl,rfl,r0,r⟩:=cN m l;exact ap ⟨_,rfl,_,rfl,_,rfl,(aS k rfl ⟨_,rfl,p,a,t,_,e,x,D,ys,c,rfl,J,U,ha,hs,h8,o,r,g⟩)⟩
   |false=>
    rw[c4]at g;exact ak<|g _ _ (Same.refl _) rfl)
  refine⟨_,rfl,.inl ⟨rfl,_,rfl,?_⟩⟩;cases e with
  |false=>exact ak<|ak<|G rfl
  |true=>
  refine ap ⟨_,rfl,v,d,bP,2,rfl,j,by simp,LV,i,_,rfl,?_⟩;cases I:formB bP 2 d with
  |false=>exact ak<|G I
  |true=>
   have L:aO t C NW c d=mB t.length C (fK d 1):=by
    unfold aO;rw[I];rfl
   rw[L]at g;obtain⟨ds,rfl,l⟩:=d_ I;obtain⟨b,zs,rfl,k,m⟩:=al j;obtain⟨d0,D,X,x,rfl,rfl,r0,r⟩:=cN m l;exact ap ⟨_,rfl,_,rfl,(aS k rfl ⟨p,q,t,x,D,xs,C,rfl,J,U,hq,n,h9,r,g⟩)⟩)
 refine⟨_,rfl,.inl ⟨rfl,_,rfl,?_⟩⟩;cases e with
 |true=>exact ak<|ak<|u rfl
 |false=>
 refine ap ⟨_,rfl,v,d,aU,2,rfl,j,by simp,LW,i,_,rfl,?_⟩;cases y:formB aU 2 d with
 |false=>exact ak<|u y
 |true=>
  have L:aO t C N8 c d=ju C (fK d 1):=by
   unfold aO;rw[y];rfl
  rw[L]at g;obtain⟨ds,rfl,l⟩:=d_ y;obtain⟨b,zs,rfl,k,m⟩:=al j;obtain⟨d0,D,X,x,rfl,rfl,r0,r⟩:=cN m l;exact ap ⟨_,rfl,_,rfl,(aS k rfl ⟨p,q,_,x,D,xs,C,rfl,J,hq,n,h9,r,λv' hv=>g _ _ (Same.refl _) hv⟩)⟩
noncomputable abbrev x_:Pn:=b9 60
inductive oJ (vs:ab V)(H:Hp)(Q:VK)(E:XK):Prop
 |mk (p q pp L:J')(t:Str)(hw:N')(xs s:ab V)(C:ab (ab Int))(ds:ab Og)(out:ab (ab Int))(h0:vs=[.ref p,.ref pp])(g:H p=gV (.tup [.str t,.ref q]))(i:t.length<=30)(j:H q=gV (.lst xs))(k:CLs H C xs)(m:C.length<=900)(n:(∀c∈C,au t.length c))(o:H pp=gV (.tup [.str<|ao hw,.ref L]))(r:H L=gV (.lst s))(u:dH H ds s)(a:ds.length<=9000)(b:(∀d∈ds,rY d))(e:bQ t C hw [] ds=(out,NW))(f:∀l ys h,Same H h->H l=NZ->h l=gV (.lst ys)->CLs h out ys->Q (.ref l) h)
inductive oK (p:J')(pp:J')(s:J')(t:Str)(c:ab (ab Int))(hw:N')(ds:ab Og)(H:Hp)(i:Nat)(a:ab (M' V))(G:Hp):Prop
 |mk (x:M' V)(X:M' V)(b:M' V)(ys:ab V)(sets:ab (ab Int))(I:a=[gV<|.ref p,gV<|.ref pp,gV<|.ref s,x,X,b])(d:G s=gV (.lst ys))(e:CLs G sets ys)(f:bQ t c hw [] (ds.take i)=(sets,NW))(g:Same H G)
theorem Aa(F:Fun K "sets_of" "sets_of" x_ f fd)(T:Bl mg)(an:Fe P w K mg B 5 "line_set" wm):ay P w K mg B a_ 6 f fd ["sentence","paper"] oJ:=by
 refine F.okB (N:=["sentence","paper","sets","place","line","literals"]) λQC A O s H vs Q E sc hr h=>?_;obtain⟨p,q,pp,la,t,u,xs,ls,C,D,as,rfl,hp,ht,hq,I,h9,VB,m,Zy,Zz,h8,J,L,q'⟩:=h;have P1:=du Zz;refine⟨_,(ae gg
  (ae (fk PU rfl gg gg
   (ae gg
   (ae (aQ gg (ar fF) ax)
   gg)))
  (cQ<|pv 2))),?_⟩
 refine⟨Oy _,λM l=>?_⟩;have N:=ad l<|.lst [];refine⟨_,rfl,(aS (N _ _ m) rfl ⟨la,rfl,⟨_,SqL.of<|N _ _ Zy⟩,?_⟩)⟩;refine t_ (K:=K) (X:=ls) (oK p pp M t C u D H)
  ⟨NZ,NZ,NZ,[],[],rfl,aa,.nil,rfl,N⟩ ?_ ?_ ?_
 ·rintro i σ G V ⟨V,V,V,V,V,V,V,V,V,k⟩;exact SqL.of<|k _ _ Zy
 ·rintro i x σ G t1 hx ⟨x3,x4,x5,Y,a,rfl,v,n,g,U⟩ W;have Wy:=(N4.mp hx).1;have rx:=cY Zz hx;have y:=aE (d:=Qb) (show i<D.length by lia);generalize D.getD i _=d at rx y;have X:=N5 y;have r:Same G (upd G t1<|.tup [.int i,x]):=ad W _;have j:=U.trans r;have Z:=dz g;rw[OB,SZ]at Z;have ac:∀c∈a,au t.length c:=by
   have:=gn (w:=u) VB (D:=D.take i) (s:=[]) (by simp);rwa[g]at this
  exists t1,_,rfl,SqT.of aa,rfl,_,_,rfl,_,_,rfl,rfl;refine⟨_,rfl,_,rfl,(aS (j _ _ m) rfl ⟨_,rfl,_,rfl,p,q,M,t,u,x,d,xs,Y,C,a,rfl,j _ _ hp,ht,j _ _ hq,I.mono j,h9,r _ _ v,n.mono r,by lia,ac,dw j _ _ rx,J d X,λv' H3 k3 hv=>?_⟩)⟩;cases hl:aO t C u a d with
  |none=>
   rw[FL g y hl]at L;cases L
  |some c=>
   rw[hl]at hv;obtain⟨tc,rfl,Q7⟩:=hv;have am:=j.trans k3;have z:=k3 _ _<|r _ _ v;refine⟨_,rfl,rfl,_,rfl,ak ?_⟩;exists _,rfl,.inl ⟨rfl,_,SqL.of z⟩,_,rfl,M,_,_,rfl,rfl,z,(by rw[<-n.length];exact cK<|by lia);refine⟨_,_,_,Y++[.ref tc],a++[c],rfl,aa,CLs.snoc (CL.upd ⟨tc,rfl,Q7⟩ z)<|(n.mono<|r.trans k3).upd z,uw g y hl,λb o e=>?_⟩;rw[af<|ag e l];exact am _ _ e
 rintro σ G ⟨x3,x4,x5,Y,a,rfl,v,n,g,U⟩;rw[Oi (by simp_all),L]at g;cases g;exact⟨_,rfl,q' _ _ _ U l v n⟩
noncomputable abbrev LX:Pn:=b9 61
noncomputable def pR(o:ab (ab Int)):N':=match o.getLast? with
 |some c=>decide (c=[])
 |none=>N8
inductive CC (vs:ab V)(H:Hp)(Q:VK)(E:XK):Prop
 |mk (l:J')(ys:ab V)(out:ab (ab Int))(h0:vs=[.ref l])(a:H l=gV (.lst ys))(b:CLs H out ys)(c:out.length<=9000)(d:∀h,Same H h->Q (.bl<|pR out) h)
theorem Ab(y:ab V):bC y (gV (-1)) NZ=y.drop (y.length-1):=by
 unfold bC;have e:HT.sIx y.length 0 (gV (-1))=y.length-1:=by
  unfold HT.sIx;lia
 have E:HT.sIx y.length _ NZ=y.length:=rfl;rw[e,E];exact Oi (by simp)
theorem Ac(o:ab (ab Int)):o.drop (o.length-1)=match o.getLast? with|some c=>[c]|none=>[]:=by
 obtain rfl|⟨i,c,rfl⟩:=List.eq_nil_or_concat o
 ·rfl
 simp
theorem CLs.drop':∀{c:ab (ab Int)} {x:ab V} (n:Nat),CLs H c x->CLs H (c.drop n) (x.drop n):=by
 intro c x n h;change Paired _ _ _ at h;induction h generalizing n with
 |nil=>cases n<;>exact .nil
 |cons r t i=>
  cases n with
  |zero=>exact .cons r t
  |succ n=>exact i n
theorem F_(o:ab (ab Int)):Pe (.list<|(o.drop<|o.length-1).map i_) (.list [.tuple []])=pR o:=by
 rw[Ac];unfold pR;cases o.getLast? with
 |none=>rfl
 |some c=>
  cases c with
  |nil=>rfl
  |cons x r=>rfl
theorem J0(F:Fun K "end_empty" "end_empty" LX f x):ay P w K M B a_ 1 f x ["sets"] CC:=by
 refine F.okB (N:=["sets"]) λJ A O s H L Q E N z h=>?_;obtain⟨l,y,o,rfl,C,i,T,q⟩:=h;have D:=z.units;exists _,(cQ<|B5 (dN D) (bu bZ (pv 0) gg bU) gg);refine⟨_,rfl,_,rfl,_,rfl,l,_,rfl,SqL.of C,λp b=>?_⟩;have e:=Ab y;have c:=ad b<|.lst<|bC y (gV (-1)) NZ;have r:upd H p (.lst<|bC y (gV (-1)) NZ) p=gV (.lst<|y.drop<|y.length-1):=by rw[aa,e]
 generalize upd H p _=j at c r;refine⟨(by simp),λt d=>?_⟩;have a:=ad d<|.tup [];have m:=@aa j t (.tup []);generalize upd j t _=n at a m;refine⟨(by show 1<=sizeLine;decide),λu g=>?_⟩;have k:=ad g<|.lst [.ref t];have v:=@aa n u (.lst [.ref t]);generalize upd n u _=G at k v;have I:CLs G (o.drop<|o.length-1) (y.drop<|y.length-1):=by
  rw[i.length];exact CLs.drop' _<|i.mono<|c.trans<|a.trans k
 refine .inr ⟨.list<|(o.drop<|o.length-1).map i_,.list _,f_ ((a.trans k) _ _ r) I.rds,f_ v<|ai (bx (k _ _ m) aM) aM,(Nice.mono (zx<|BH _)<|by simp).shaped,by rfl,?_⟩;rw[F_];exact q _<|c.trans<|a.trans k
noncomputable abbrev LY:Pn:=b9 62
inductive ya (vs:ab V)(H:Hp)(Q:VK)(E:XK):Prop
 |mk (p q pp L:J')(t:Str)(hw:N')(xs s:ab V)(C:ab (ab Int))(ds:ab Og)(out:ab (ab Int))(h0:vs=[.ref p,.ref pp])(i:H p=gV (.tup [.str t,.ref q]))(j:t.length<=30)(k:H q=gV (.lst xs))(m:CLs H C xs)(n:C.length<=900)(o:(∀c∈C,au t.length c))(r:H pp=gV (.tup [.str<|ao hw,.ref L]))(u:H L=gV (.lst s))(v:dH H ds s)(a:ds.length<=9000)(b:(∀d∈ds,rY d))(e:bQ t C hw [] ds=(out,NW))(f:pR out=NW)(g:∀l ys h,Same H h->H l=NZ->h l=gV (.lst ys)->CLs h out ys->Q (.ref l) h)
theorem J1(F:Fun K "whole_sets" "whole_sets" LY f i)(j:Fe P w K m b 6 "sets_of" oJ)(L:Fe P w K m b 1 "end_empty" CC):ay P w K m b a_ 7 f i ["sentence","paper"] ya:=by
 refine F.okB (N:=["sentence","paper","sets"]) λQC A O s H vs Q E sc hr h=>?_;obtain⟨p,q,n,u,t,v,x,z,C,D,o,rfl,B,G,I,c,J,M,d,Z,N,T,e,r,g,U⟩:=h;have W:o.length=D.length:=by
  have:=dz r;simpa using this
 refine⟨_,(ae gg
  (ae (aQ gg (ar fF) ax)
  (cQ<|pv 2))),?_⟩
 refine⟨_,rfl,_,rfl,p,q,n,u,t,v,x,z,C,D,o,rfl,B,G,I,c,J,M,d,Z,N,T,e,r,λl y H1 X hl Y a=>⟨_,rfl,l,y,o,rfl,Y,a,by simp_all,λH2 k=>⟨_,rfl,?_⟩⟩⟩;rw[g];exact ak ⟨_,rfl,U l y H2 (X.trans k) hl (k _ _ Y)<|a.mono k⟩
def J2(d:Og):Prop:=∀D,d=.tuple D->D.length<=9000/\∀e,D.getD 1 .none=.tuple e->e.length<=18
theorem qA:∀{a b:ab Int},a.Nodup->(∀x∈a,x∈b)->a.length<=b.length
 |[],_,_,_=>Oy _
 |x::a,b,h,g=>by
  obtain⟨d,f⟩:=PJ.mp h;have H:=g x Ou;have:=qA f λy c=>(List.mem_erase_of_ne (show y≠x from λe=>d<|by rwa[<-e])).mpr<|g y<|Ow _ c;rw[List.length_erase_of_mem H]at this;have:=R3 H;rw[OG];lia
def bn(d:Og):Prop:=(∃k:Int,d=.tuple [.str aU,.int k])\/(∃c:ab Int,c.length<=18/\d=.tuple [.str bP,i_ c])\/(∃k:Int,d=.tuple [.str aB,.int k])\/(∃i j z:Int,d=.tuple [.str bi,.int i,.int j,.int z])
theorem yb(h:bn d):rY d/\J2 d:=by
 obtain⟨k,rfl⟩|⟨c,H,rfl⟩|⟨k,rfl⟩|⟨i,j,z,rfl⟩:=h
 ·exact⟨λD e=>by cases e;exact LW,λD e=>by cases e;exact⟨by show 2<=9000;decide,λE e=>by cases e⟩⟩
 ·exact⟨λD e=>by cases e;exact LV,λD e=>by
   cases e;refine⟨by show 2<=9000;decide,λE e=>?_⟩;cases e;simp_all⟩
 ·exact⟨λD e=>by cases e;exact LU,λD e=>by cases e;exact⟨by show 2<=9000;decide,λE e=>by cases e⟩⟩
 exact⟨λD e=>by cases e;exact LS,λD e=>by cases e;exact⟨by show 4<=9000;decide,λE e=>by cases e⟩⟩
theorem iz(h:RD H (.str x) v):RD a (.str x) v:=by assumption
theorem fO(h:RD H (.int x) v):RD a (.int x) v:=by assumption
theorem rZ{H:Hp}{a q:J'}{z y:ab V}(h:H a=gV (.tup z))(b:H q=gV (.lst y)):a≠q:=λe=>by
 simp_all
theorem CD(g:bn d)(h:RD H d v)(m:H q=gV (.lst y)):RD (upd H q o) d v:=by
 obtain⟨k,rfl⟩|⟨c,t,rfl⟩|⟨k,rfl⟩|⟨i,j,z,rfl⟩:=g
 ·obtain⟨a,Z,rfl,b,f⟩:=al h;exact bx (by rwa[af<|rZ b m])<|‹_›
 ·obtain⟨a,Z,rfl,b,f⟩:=al h;obtain⟨D,n,x,X,e,rfl,r,l⟩:=cN f rfl;cases e;exact bx (by rwa[af<|rZ b m])<|ai (iz r)<|ai (CL.rd<|(CL.of l).upd m) aM
 ·obtain⟨a,Z,rfl,b,f⟩:=al h;exact bx (by rwa[af<|rZ b m])<|‹_›
 obtain⟨a,Z,rfl,b,f⟩:=al h;exact bx (by rwa[af<|rZ b m])<|‹_›
theorem qB(a:H q=gV (.lst s)):∀{D:ab Og} {v:ab V},(∀d∈D,bn d)->dH H D v->dH (upd H q o) D v
 |[],v,_,h=>by
  assumption
 |d::D,v,g,h=>by
  obtain⟨y,Y,rfl,b,c⟩:=aj h;exact ai (CD (g d Ou) b a)<|qB a (λe f=>g e<|Ow _ f) c
theorem oM:∀{c:ab Og} {s:ab V} {D:ab Og} {v:ab V},dH H c s->dH H D v->dH H (c++D) (s++v)
 |[],s,D,v,h,g=>by
  rwa[h]
 |d::c,s,D,v,h,g=>by
  obtain⟨y,Y,rfl,a,b⟩:=aj h;exact ai a<|oM b g
theorem CF(h:pR o=NW):1<=o.length/\o[o.length-1]?=gV []:=by
 unfold pR at h;cases e:o.getLast? with
 |none=>simp_all
 |some c=>
  rw[e]at h;have H:=Oh h;subst H;rw[Ve]at e;exact⟨by have:=(N4.mp e).1;lia,e⟩
noncomputable abbrev HE:Pn:=b9 67
noncomputable def bz:Og->ab Int
 |.tuple [.str w,.int i,.int j,.int _]=>if w=bi then [i,j]else []
 |.tuple [.str w,.int k]=>if w=aB then [k]else []
 |_=>[]
theorem iA(k:Int):bz (.tuple [.str aU,.int k])=[]:=by
 rfl
theorem dO(k:Int):bz (.tuple [.str aB,.int k])=[k]:=by
 rfl
theorem dh(i j z:Int):bz (.tuple [.str bi,.int i,.int j,.int z])=[i,j]:=by
 rfl
inductive CG (vs:ab V)(H:Hp)(Q:VK)(E:XK):Prop
 |mk (v:V)(d:Og)(h0:vs=[v])(hd:RD H d v)(g:bn d)(q:∀l h,Same H h->H l=NZ->h l=gV (.lst<|(bz d).map V.int)->Q (.ref l) h)
theorem Ga(F:Fun K "named_by" "named_by" HE f t):ay P w K M B a_ 1 f t ["line"] CG:=by
 refine F.okB (N:=["line"]) λC A O s H G Q E I J h=>?_;obtain⟨v,d,rfl,o,u,q⟩:=h;exists _,gg;obtain⟨k,rfl⟩|⟨c,L,rfl⟩|⟨k,rfl⟩|⟨i,j,z,rfl⟩:=u
 ·obtain⟨a,Z,rfl,b,g⟩:=al o;obtain⟨D,p,x,X,e,rfl,r,m⟩:=cN g rfl;cases e;obtain rfl:=aT r;refine⟨_,rfl,(aS b rfl<|.inl ⟨rfl,_,rfl,?_⟩)⟩;refine ak ⟨_,rfl,(aS b rfl<|.inl ⟨rfl,_,rfl,?_⟩)⟩;exact ak ⟨Oy _,λl n=>q l _ (ad n _) n (aa)⟩
 ·obtain⟨a,Z,rfl,b,g⟩:=al o;obtain⟨D,p,x,X,e,rfl,r,m⟩:=cN g rfl;cases e;obtain rfl:=aT r;refine⟨_,rfl,(aS b rfl<|.inl ⟨rfl,_,rfl,?_⟩)⟩;refine ak ⟨_,rfl,(aS b rfl<|.inl ⟨rfl,_,rfl,?_⟩)⟩;exact ak ⟨Oy _,λl n=>q l _ (ad n _) n aa⟩
 ·obtain⟨a,Z,rfl,b,g⟩:=al o;obtain⟨D,p,x,X,e,rfl,r,m⟩:=cN g rfl;cases e;obtain rfl:=aT r;obtain rfl:=aw m;refine⟨_,rfl,(aS b rfl<|.inl ⟨rfl,_,rfl,?_⟩)⟩;exact ak ⟨_,rfl,(aS b rfl<|.inl ⟨rfl,_,rfl,ap ⟨_,rfl,(aS b rfl ⟨(by show 1<=sizeLine;decide),λl n=>q l _ (ad n _) n (aa)⟩)⟩⟩)⟩
 obtain⟨a,Z,rfl,b,g⟩:=al o;obtain⟨D,p,N,T,x,X,U,W,e,rfl,r,m,y,Y⟩:=iy g rfl;cases e;obtain rfl:=aT r;obtain rfl:=aw m;obtain rfl:=aw y;exact⟨_,rfl,(aS b rfl<|.inl ⟨rfl,_,rfl,ap ⟨_,rfl,(aS b rfl ⟨_,rfl,(aS b rfl ⟨(by show 2<=sizeLine;decide),λl n=>q l _ (ad n _) n (aa)⟩)⟩)⟩⟩)⟩
noncomputable abbrev J3:Pn:=b9 69
noncomputable def g_(r:ab Int)(k:Int):ab Int:=if k∈r then r else r++[k]
noncomputable def bR(n:Nat->ab Int)(l:Nat):Nat->ab Int
 |0=>[(l:Int)]
 |j+1=>if((l-j:Nat):Int)∈bR n l j then(n<|l-j).foldl g_ (bR n l j)else bR n l j
theorem CH(r:ab Int)(k:Int):(g_ r k).length<=r.length+1:=by
 unfold g_
 split
 ·exact Te _
 simp
theorem lJ:∀(s r:ab Int),(s.foldl g_ r).length<=r.length+s.length
 |[],r=>N9 _
 |k::s,r=>by
  have h:=lJ s<|g_ r k;have H:=CH r k;rw[S1,OG];lia
theorem iV(h:∀i,(n i).length<=2):∀j,(bR n l j).length<=1+2*j
 |0=>N9 _
 |j+1=>by
  have I:=iV h (l:=l) j;have:=h<|l-j;have H:=lJ (n<|l-j)<|bR n l j;show(if _ then _ else _:ab Int).length<=_
  lia
theorem iW(d:Og):(bz d).length<=2:=by
 unfold bz
 split
 ·split
  ·exact N9 _
  simp
 ·split
  ·simp
  simp
 simp
noncomputable def dB(r:ab Int):ab (aR×V):=r.map λk=>((OK k:aR),V.bl NW)
theorem CI:∀r k,(bL (dB r) (OK k:aR)).isSome=decide (k∈r):=λr k=>by
 unfold dB bL
 grind
theorem J4(r:ab Int)(k:Int):c9 (dB r) (OK k:aR) (V.bl NW)=dB (g_ r k):=by
 by_cases h:k∈r
 ·unfold g_;rw[On h];unfold c9;have e:((dB r).any λb=>decide (b.1=(OK k)))=true:=by
   unfold dB;simp_all
  rw[On e];unfold dB;simp
 unfold g_;rw[Oo h,nM]
 ·unfold dB;rw[OF];rfl
 have:=CI r k;simp_all
theorem Gb(r:ab Int):(dB r).map (·.1)=r.map (OK:Int->aR):=by
 unfold dB;rw[OZ];rfl
inductive CJ (vs:ab V)(H:Hp)(Q:VK)(E:XK):Prop
 |mk (L:J')(s:ab V)(ds:ab Og)(last:Nat)(h0:vs=[.ref L,.int (last:Int)])(a:H L=gV (.lst s))(b:dH H ds s)(c:∀d∈ds,bn d)(e:last<ds.length)(f:ds.length<=3000)
   (q:∀l X h,Same H h->H l=NZ->h l=gV (.lst<|X.map V.int)->SB X (bR (λi=>bz<|ds.getD i .none) last<|last+1)->RM (·<=·) X->Q (.ref l) h):CJ vs H Q E
inductive LZ (l d:J')(last:Nat)(nm:Nat->ab Int)(H:Hp)(j:Nat)(a:St)(G:Hp):Prop
 |mk (x X:M' V)(i:a=[gV<|.ref l,gV<|.int (last:Int),gV<|.ref d,x,X])(I:G d=gV (.dK<|dB<|bR nm last j))(b:Same H G)
inductive L4 (L d l:J')(last:Nat)(x:M' V)(r ks:ab Int)(H:Hp)(j:Nat)(a:St)(G:Hp):Prop
 |mk (X:M' V)(i:a=[gV<|.ref L,gV<|.int (last:Int),gV<|.ref d,x,X])(I:G d=gV (.dK<|dB<|(ks.take j).foldl g_ r))(b:Same H G)(c:G l=gV (.lst<|ks.map V.int))
theorem wo{s r:ab Int}{j:Nat}{k:Int}(h:s[j]?=gV k):(s.take<|j+1).foldl g_ r=g_ ((s.take j).foldl g_ r) k:=by
 rw[OJ,h,Vw];rfl
theorem J5(F:Fun K "needed_by" "needed_by" J3 f fd)(T:Bl J)(ac:Fe P w K J b 1 "named_by" CG):ay P w K J b a_ 2 f fd ["lines","last"] CJ:=by
 refine F.okB (N:=["lines","last","needed","place","ahead"]) λQC A O s H vs Q E sc hr h=>?_;obtain⟨U,ls,d,L,rfl,h1,W,h3,h4,h5,q⟩:=h;have hu:=hr.units;have Y:(A.deeper<|QY "needed_by" (aJ J3) s.heap.objs.size f QC).units+1<Sm:=by lia
 have P1:=du W;refine⟨_,(ae (sT 2<|j8 (pv 1) fm)
  (ae (fS 3 gg<|ar<|aQ (kU<|vF Y (pv 3)<|pv 2) (ar<|fS 4 (aD gg)<|ar<|rn Y (pv 2) (pv 4) fm rfl) ax)
  (cQ<|aN (vN rfl) rfl T.sorted Ur<|fC<|pv 2))),?_⟩
 refine λD n=>⟨_,rfl,aa,[(OK (L:Int),.bl NW)],rfl,(by simp),?_⟩;have Z:Same H (upd (upd H D<|.dK []) D<|.dK<|gz [] [(OK (L:Int),.bl NW)]):=by rw[gQ];exact ad n _
 have s1:upd (upd H D<|.dK []) D (.dK<|gz [] [(OK _,.bl NW)]) D=gV (.dK<|dB [(L)]):=aa;generalize upd _ D (.dK<|gz [] [(OK _,.bl NW)])=H1 at Z s1 ⊢;refine⟨_,rfl,_,rfl,_,rfl,(L),-1,rfl,by lia,vT (lo:=(L)) (LZ U D L (λi=>bz<|d.getD i .none) H) ⟨NZ,NZ,rfl,s1,Z⟩ ?_ ?_⟩
 ·rintro j g G hj ⟨x3,X,rfl,I,a⟩;have ej:(L:Int)-(j)=((L-j:Nat)):=by lia
  rw[ej];exists _,rfl,_,rfl,D,_,rfl,DGet.k (k:=OK _) I;rw[CI];by_cases o:((L-j:Nat):Int)∈bR (λi=>bz<|d.getD i .none) L j
  ·rw[N3 o];have e:bR (λi=>bz<|d.getD i _) L (j+1)=(bz<|d.getD _ _).foldl g_ (bR (λi=>bz<|d.getD i _) L j):=On o;obtain⟨v,hv⟩:∃v,ls[L-j]?=gV v:=⟨_,N1 (by lia)⟩;have rv:=cY (dI a _ _ W) hv;have gd:bn (d.getD (L-j) .none):=h3 _ (N5 (aE (Ru (hH _ _) h4)));have r:=iW (d.getD (L-j) .none);generalize t:bz (d.getD _ _)=u at e r;have c:=iV (n:=λi=>bz (d.getD i .none)) (l:=L) (λi=>iW _) j;generalize bR (λi=>bz (d.getD i _)) L j=Ri at I e c;refine⟨_,rfl,ap ⟨_,rfl,_,rfl,(fz (a _ _ h1) (aG hv) ⟨v,d.getD _ _,rfl,rv,gd,λl G1 kg N y=>?_⟩)⟩⟩;rw[t]at y;refine⟨l,rfl,⟨_,SqL.of y⟩,cy (K:=K) (X:=u.map V.int) (L4 U D l L (gV (.int _)) Ri u H) ⟨_,rfl,kg _ _ I,a.trans kg,y⟩ ?_ ?_ ?_⟩
   ·rintro i g G2 S ⟨S,S,S,S,m⟩;exact SqL.of m
   ·rintro i x g G2 hx ⟨X,rfl,M,B,p⟩;obtain⟨k,rfl,hk⟩:=cO hx;have C:=lJ (u.take i) Ri;rw[OB]at C;exists _,rfl,_,rfl,D,_,rfl,DPut.k (k:=OK k) M (cK<|by unfold dB;grind);rw[J4,<-wo hk];exists _,rfl,aa,B.upd_new n _;rwa[af λz=>by lia]
   rintro g G2 ⟨X,rfl,M,B,p⟩;rw[B',Oi<|N9 _,<-e]at M;exact⟨_,_,rfl,M,B⟩
  rw[N7 o];have e:bR _ L (j+1)=bR _ L j:=Oo o;exact⟨_,rfl,ak ⟨_,_,rfl,by rwa[e],a⟩⟩
 rintro g G ⟨x3,X,rfl,I,a⟩;have e:((L:Int) - -1).toNat=L+1:=by rfl
 rw[e]at I;have c:=iV (n:=λi=>bz<|d.getD i .none) (l:=L) (λi=>iW _)<|L+1;refine⟨_,rfl,D,_,_,rfl,I,Gb _,by lia,λl Xw N hp hs=>q l Xw _ (a.trans<|ad N _) (a.free N) aa hp hs⟩
noncomputable def hG(c:ab Int):ab aR:=c.map OK
theorem lK(c:ab Int):(hG c).map kV=c.map V.int:=by
 unfold hG;rw[OZ];rfl
theorem fy:hG a=hG b↔a=b:=X2 λz z h=>Qp h
theorem wp{a:Type}{l:ab a}{i:Nat}{x:a}(h:l[i]?=gV x):l.take (i+1)=l.take i++[x]:=by
 rw[OJ,h];rfl
theorem J6{a b c:ab Int}(h:SB a c)(H:RM (·<=·) a)(d:SB b c)(e:RM (·<=·) b):a=b:=
 Ya (by lia) H e (h.trans d.symm)
theorem uK(g:bn d)(h:aO t C w s d=gV c):∀k∈bz d,0<=k/\k<(s.length:Int):=by
 obtain⟨k,rfl⟩|⟨n,o,rfl⟩|⟨k,rfl⟩|⟨i,j,z,rfl⟩:=g
 ·rw[iA];simp
 ·exact λy h=>nomatch h
 ·rw[dO];intro b v;unfold aO at h;have f:formB aU 2 (.tuple [.str aB,.int k])=false:=by
   rfl
  have F:formB bP 2 (.tuple [.str aB,.int k])=false:=by
   rfl
  rw[f,F,QV,QV]at h;have H:gK t w s (.int k)=gV c:=h;unfold gK at H;cases e:aH _ _ with
  |none=>rw[e]at H;cases H
  |some i=>
   obtain⟨m,A⟩:=aA e;simp_all
 intro b v;unfold aO at h;have f:formB aU 2 (.tuple [.str bi,.int i,.int j,.int z])=false:=rfl;have F:formB bP 2 (.tuple [.str bi,.int i,.int j,.int z])=false:=rfl;rw[f,F,QV,QV]at h;have H:d9 t w s (.int i) (.int j) (.int z)=gV c:=h;unfold d9 at H;cases e:aH s.length (.int i)with
 |none=>simp_all
 |some I=>
 cases E:aH s.length (.int j)with
 |none=>simp_all
 |some J=>
  obtain⟨m,A⟩:=aA e;obtain⟨p,B⟩:=aA E;cases A;obtain rfl|v:=Oz.mp v
  ·simp_all
  simp_all
noncomputable abbrev Ad:Pn:=b9 68
noncomputable def bS(f:Int->Int):Og->Og
 |.tuple [.str w,.int i,.int j,.int z]=>if w=bi then .tuple [.str bi,.int<|f i,.int<|f j,.int z]else .tuple [.str w,.int i,.int j,.int z]
 |.tuple [.str w,.int k]=>if w=aB then .tuple [.str aB,.int<|f k]else .tuple [.str w,.int k]
 |d=>d
theorem dY(f:Int->Int)(k:Int):bS f (.tuple [.str aU,.int k])=.tuple [.str aU,.int k]:=by
 rfl
theorem fb(f:Int->Int)(k:Int):bS f (.tuple [.str aB,.int k])=.tuple [.str aB,.int<|f k]:=by
 rfl
theorem ff(f:Int->Int)(i j z:Int):bS f (.tuple [.str bi,.int i,.int j,.int z])=.tuple [.str bi,.int<|f i,.int<|f j,.int z]:=by
 rfl
theorem oN(f:Int->Int)(c:ab Int):bS f (.tuple [.str bP,i_ c])=.tuple [.str bP,i_ c]:=rfl
theorem ke(g:bn d):bn (bS f d):=by
 obtain⟨k,rfl⟩|⟨c,h,rfl⟩|⟨k,rfl⟩|⟨i,j,z,rfl⟩:=g
 ·exact .inl ⟨k,rfl⟩
 ·exact .inr<|.inl ⟨c,h,rfl⟩
 ·exact .inr<|.inr<|.inl ⟨_,rfl⟩
 exact .inr<|.inr<|.inr ⟨_,_,_,rfl⟩
theorem qC(g:bn d):bz (bS f d)=(bz d).map f:=by
 obtain⟨k,rfl⟩|⟨c,h,rfl⟩|⟨k,rfl⟩|⟨i,j,z,rfl⟩:=g
 ·rfl
 ·rfl
 ·rfl
 rfl
inductive wq (vs:ab V)(H:Hp)(Q:VK)(E:XK):Prop
 |mk (v:V)(na:J')(d:Og)(ns:ab Int)(h0:vs=[v,.ref na])(hd:RD H d v)(g:bn d)(hn:H na=gV (.lst (ns.map V.int)))(r:∀k∈bz d,0<=k/\k<(ns.length:Int))(q:∀a h,Same H h->RD h (bS (λk=>ns.getD k.toNat 0) d) a->Q a h)
inductive wt (vs:ab V)(H:Hp)(Q:VK)(E:XK):Prop
 |mk (v:V)(na:J')(d:Og)(s:ab (aR×V))(f:Int->Int)(h0:vs=[v,.ref na])(hd:RD H d v)(g:bn d)(hn:H na=gV (.dK s))(r:∀k∈bz d,bL s (OK k:aR)=gV (.int<|f k))(q:∀a h,Same H h->RD h (bS f d) a->Q a h)
theorem r8{N:ab Int}{k:Int}(h:0<=k/\k<(N.length:Int)):kZ (N.map V.int) k=gV (.int<|N.getD k.toNat 0):=by
 obtain⟨n,rfl⟩:∃n:Nat,k=(n):=⟨k.toNat,by lia⟩;refine aG ?_;simp_all
theorem oO{H:Hp}{n:J'}{s:ab (aR×V)}{k z:Int}(a:H n=gV (.dK s))(h:bL s (OK k:aR)=gV (.int z)):DGet H n (.int k) (gV<|.int z):=by
 rw[<-h];exact DGet.k (k:=OK k) a
theorem yc:dk ["line","numbers"] ["line","numbers"] (aJ Ad):=ET
theorem Gc(F:Fun K "renamed" "renamed" Ad f u):ay P w K M B a_ 1 f u ["line","numbers"] wq:=by
 refine F.okA yc λC A O s H L Q E r h=>?_;obtain⟨v,W,d,Y,rfl,n,y,p,r,q⟩:=h;exists _,gg;obtain⟨k,rfl⟩|⟨c,hc,rfl⟩|⟨k,rfl⟩|⟨i,j,z,rfl⟩:=y
 ·obtain⟨a,Z,rfl,b,g⟩:=al n;obtain⟨D,t,x,X,e,rfl,m,o⟩:=cN g rfl;cases e;obtain rfl:=aT m;refine⟨_,rfl,(aS b rfl<|.inl ⟨rfl,_,rfl,?_⟩)⟩;rw[N7 (show¬V.str aU=V.str _ by decide+kernel)];refine ak ⟨_,rfl,(aS b rfl<|.inl ⟨rfl,_,rfl,?_⟩)⟩;rw[N7 (show¬V.str aU=V.str _ by decide+kernel)];exact ak ⟨_,rfl,q _ _ (Same.refl _) n⟩
 ·obtain⟨a,Z,rfl,b,g⟩:=al n;obtain⟨D,t,x,X,e,rfl,m,o⟩:=cN g rfl;cases e;obtain rfl:=aT m;refine⟨_,rfl,(aS b rfl<|.inl ⟨rfl,_,rfl,?_⟩)⟩;rw[N7 (by decide+kernel)];refine ak ⟨_,rfl,(aS b rfl<|.inl ⟨rfl,_,rfl,?_⟩)⟩;rw[N7 (by decide+kernel)];exact ak ⟨_,rfl,q _ _ (Same.refl _) n⟩
 ·obtain⟨a,Z,rfl,b,g⟩:=al n;obtain⟨D,t,x,X,e,rfl,m,o⟩:=cN g rfl;cases e;obtain rfl:=aT m;obtain rfl:=aw o;refine⟨_,rfl,(aS b rfl<|.inl ⟨rfl,_,rfl,?_⟩)⟩;rw[N7 (by decide+kernel)];refine ak ⟨_,rfl,(aS b rfl<|.inl ⟨rfl,_,rfl,ap ⟨_,rfl,_,rfl,(aS b rfl<|(fz p (r8<|r k<|Ob.mpr rfl) ⟨(by show 2<=sizeLine;decide),λl N=>q _ _ (ad N _)<|bx aa<|ai (c_ _)<|ai (bO _) aM⟩))⟩⟩)⟩
 obtain⟨a,Z,rfl,b,g⟩:=al n;obtain⟨D,t,d2,d3,x,X,x2,x3,e,rfl,m,o,G,I⟩:=iy g rfl;cases e;obtain rfl:=aT m;obtain rfl:=aw o;obtain rfl:=aw G;obtain rfl:=aw I;refine⟨_,rfl,(aS b rfl<|.inl ⟨rfl,_,rfl,ap ⟨_,rfl,_,rfl,(aS b rfl<|(fz p (r8<|r i Ou) ⟨_,rfl,_,rfl,(aS b rfl<|(fz p (r8<|r j<|Ow _<|Ob.mpr rfl) ⟨_,rfl,(aS b rfl ⟨(by show 4<=sizeLine;decide),λl N=>q _ _ (ad N _)<|bx aa<|ai (c_ _)<|ai (bO _)<|ai (bO _)<|ai (bO _) aM⟩)⟩))⟩))⟩⟩)⟩
theorem Gd(F:Fun K "renamed" "renamed" Ad f C):ay P w K T B a_ 1 f C ["line","numbers"] wt:=by
 refine F.okA yc λG A O s H W Q E r h=>?_;have Y:=r.units;have p:(A.deeper<|QY "renamed" (aJ Ad) s.heap.objs.size f G).units+1<Sm:=by lia
 obtain⟨v,N,d,I,f',rfl,n,J,t,r,q⟩:=h;refine⟨_,(ae (aQ gg (cQ<|dZ<|aV ii<|aV (bH p (pv 1) gg λS S=>rfl)<|kT (bH p (pv 1) gg λS S=>rfl) gg) ax)
  (ae (aQ gg (cQ<|dZ<|kT ii<|bH p (pv 1) gg λS S=>rfl) ax)
  (cQ<|pv 0))),?_⟩
 obtain⟨k,rfl⟩|⟨c,hc,rfl⟩|⟨k,rfl⟩|⟨i,j,z,rfl⟩:=J
 ·obtain⟨a,Z,rfl,b,g⟩:=al n;obtain⟨D,u,x,X,e,rfl,m,o⟩:=cN g rfl;cases e;obtain rfl:=aT m;refine⟨_,rfl,(aS b rfl<|.inl ⟨rfl,_,rfl,?_⟩)⟩;refine ak ⟨_,rfl,(aS b rfl<|.inl ⟨rfl,_,rfl,?_⟩)⟩;exact ak ⟨_,rfl,q _ _ (Same.refl _) n⟩
 ·obtain⟨a,Z,rfl,b,g⟩:=al n;obtain⟨D,u,x,X,e,rfl,m,o⟩:=cN g rfl;cases e;obtain rfl:=aT m;refine⟨_,rfl,(aS b rfl<|.inl ⟨rfl,_,rfl,?_⟩)⟩;refine ak ⟨_,rfl,(aS b rfl<|.inl ⟨rfl,_,rfl,?_⟩)⟩;exact ak ⟨_,rfl,q _ _ (Same.refl _) n⟩
 ·obtain⟨a,Z,rfl,b,g⟩:=al n;obtain⟨D,u,x,X,e,rfl,m,o⟩:=cN g rfl;cases e;obtain rfl:=aT m;obtain rfl:=aw o;refine⟨_,rfl,(aS b rfl<|.inl ⟨rfl,_,rfl,?_⟩)⟩;refine ak ⟨_,rfl,(aS b rfl<|.inl ⟨rfl,_,rfl,ap ⟨_,rfl,_,rfl,(aS b rfl ⟨N,_,rfl,oO t<|r k<|Ob.mpr rfl,(by show 2<=sizeLine;decide),λl y=>q _ _ (ad y _)<|bx aa<|ai (c_ _)<|ai (bO _) aM⟩)⟩⟩)⟩
 obtain⟨a,Z,rfl,b,g⟩:=al n;obtain⟨D,u,d2,d3,x,X,x2,x3,e,rfl,m,o,L,M⟩:=iy g rfl;cases e;obtain rfl:=aT m;obtain rfl:=aw o;obtain rfl:=aw L;obtain rfl:=aw M;refine⟨_,rfl,(aS b rfl<|.inl ⟨rfl,_,rfl,ap ⟨_,rfl,_,rfl,(aS b rfl ⟨N,_,rfl,oO t<|r i Ou,_,rfl,_,rfl,(aS b rfl ⟨N,_,rfl,oO t<|r j<|Ow _<|Ob.mpr rfl,_,rfl,(aS b rfl ⟨(by show 4<=sizeLine;decide),λl y=>q _ _ (ad y _)<|bx aa<|ai (c_ _)<|ai (bO _)<|ai (bO _)<|ai (bO _) aM⟩)⟩)⟩)⟩⟩)⟩
noncomputable abbrev J7:Pn:=b9 70
noncomputable def iB(o:ab (ab Int)):ab Int:=o.map λc=>((o.idxOf c:Nat):Int)
theorem qD:∀{o:ab (ab Int)} {i:Nat} {c:ab Int},o[i]?=gV c->c∉o.take i->o.idxOf c=i
 |[],i,c,h,_=>by simp at h
 |x::o,0,c,h,_=>by
  simp_all
 |x::o,i+1,c,h,n=>by
  have a:x≠c:=λz=>n (by rw[z];exact Ou);have H:o[i]?=gV c:=by assumption
  have N:c∉o.take i:=λz=>(by simp_all);rw[Zs,qD H N];have:(x == c)=false:=by simpa using a
  rw[this];rfl
inductive CK (vs:ab V)(H:Hp)(Q:VK)(E:XK):Prop
 |mk (s:J')(ys:ab V)(out:ab (ab Int))(h0:vs=[.ref s])(a:H s=gV (.lst ys))(b:CLs H out ys)(c:out.length<=3000)(q:∀l h,Same H h->H l=NZ->h l=gV (.lst<|(iB out).map V.int)->Q (.ref l) h)
inductive L7 (s d:J')(out:ab (ab Int))(H:Hp)(i:Nat)(a:ab (M' V))(G:Hp):Prop
 |mk (x X:M' V)(D:ab (ab aR×V))(I:a=[gV<|.ref s,gV<|.ref d,x,X])(b:G d=gV (.dT D))(e:∀c:ab Int,bL D (hG c)=if c∈out.take i then gV (.int ((out.idxOf c:Nat):Int))else NZ)(f:D.length<=i)(g:Same H G)
theorem CM(q:St)(f:Nat->V)(E:c=NZ::q)(e:H a=gV (.lst X))(g:H D=NZ)(P:X.length<=9000)
  (k:∀i x,X[i]?=gV x->∀d R,Same H d->R (f i) d->t (gV x::q) d R) (l:Q (.ref D) (upd H D<|.lst<|(O7 X.length).map f)):gb (AM K a) D (dF 0) Jz t c H Q:=by
 have n:=ag e g;refine bB (xs:=X) (λi b y h=>(∃v,b=v::q)/\y=(O7 i).map f/\h=upd H D (.lst y)) ⟨⟨NZ,E⟩,rfl,rfl⟩ ?_ ?_ ?_
 ·rintro i b y h z ⟨z,z,rfl⟩;exact⟨aa,SqL.of<|by rwa[af n]⟩
 ·rintro i x b y h j ⟨⟨v,rfl⟩,rfl,rfl⟩;have W:=(N4.mp j).1;refine cg<|k i x j _ _ (ad g _) ⟨aa,cK (by rw[B',PB];lia),⟨_,rfl⟩,?_,?_⟩
  ·rw[Rg,OF];rfl
  rw[gQ]
 simp_all
theorem J8(F:Fun K "first_places" "first_places" J7 f fd)(T:Bl mg):ay P w K mg Z a_ 1 f fd ["sets"] CK:=by
 refine F.okB (N:=["sets","places","place","literals"]) λQC A O s H vs Q E sc hr h=>?_;have hu:=hr.units;have Va:(A.deeper<|QY "first_places" (aJ J7) s.heap.objs.size f QC).units+1<Sm:=by lia
 obtain⟨u,ys,o,rfl,v,B,h3,q⟩:=h;have P1:=B.length;refine⟨_,(ae (sT 1 nN)
  (ae (fk PU rfl gg gg
   (ar<|dm<|B3 Va (pv 1) (pv 3) (pv 2) ⟨rfl,rfl,rfl,rfl⟩))
  (cQ<|fW ["literals","places"] [NZ,gV 1] (aD<|pv 0) (e:=λS S S S=>(bH Va (pv 1) (pv 0) λS S=>rfl))))),λl N=>?_⟩;have k1:=ad N<|.dT [];have s1:=@aa H l (.dT []);refine⟨_,rfl,u,rfl,⟨_,SqL.of<|k1 _ _ v⟩,t_ (K:=K) (X:=ys) (L7 u l o H) ⟨NZ,NZ,[],rfl,s1,λc=>rfl,N9 _,k1⟩ ?_ ?_ ?_⟩
 ·rintro i σ G S ⟨S,S,S,S,S,S,S,k⟩;exact SqL.of<|k _ _ v
 ·rintro i x σ G m L ⟨x2,x3,D,rfl,M,d,i3,I⟩ U;have W:Same G (upd G m<|.tup [.int i,x]):=ad U _;obtain⟨c,g,t,rfl,X⟩:=((B.mono I).mono W).get L;have Wy:=(N4.mp g).1;have a:upd G m (.tup [.int i,.ref t]) t=gV (.tup<|(hG c).map kV):=by rwa[lK]
  have J:=W _ _ M;have Y:=I.trans W;have p:=@aa G m (.tup [.int i,.ref t]);generalize upd G m (.tup _)=G1 at a J Y p ⊢;have et:=wp g;exists m,_,rfl,SqT.of p,rfl,_,_,rfl,_,_,rfl,rfl;exists _,rfl,l,rfl,.inr ⟨_,.inl J⟩,_,rfl,_,rfl;have b:=d c;by_cases y:c∈o.take i
  ·rw[On y]at b;refine .inl ⟨.int ((o.idxOf c):Int),by rw[<-b];exact DGet.t J a,?_⟩;refine⟨_,_,D,rfl,J,λC=>?_,aaa i3,Y⟩;grind
  rw[Oo y]at b;have ei:=qD g y;refine .inr ⟨by rw[<-b];exact DGet.t J a,_,DPut.t J a (cK<|by lia),⟨_,_,_,rfl,aa,λC=>?_,?_,Y.upd_new N _⟩⟩
  ·rw[tO];by_cases e:C=c
   ·simp_all
   rw[Oo λz=>e<|fy.mp z];simp_all
  have:=dU D (hG c)<|.int (i);lia
 rintro σ G ⟨x2,x3,D,rfl,M,d,i3,I⟩;rw[Oi<|by simp_all]at d;refine⟨_,rfl,u,rfl,⟨_,SqL.of<|I _ _ v⟩,λDl n=>?_⟩;refine CM [gV<|.ref l] (λi=>.int ((o.idxOf (o.getD i [])))) rfl (I _ _ v) n (by lia) (λi x L H' R k r=>?_) ?_
 ·obtain⟨c,g,t,rfl,X⟩:=(B.mono<|I.trans k).get L;have a:H' t=gV (.tup<|(hG c).map kV):=by rwa[lK]
  have b:=d c;rw[On<|N5 g]at b;have eg:o.getD i []=c:=by simp_all
  rw[eg]at r;exact⟨_,rfl,_,rfl,l,_,rfl,by rw[<-b];exact DGet.t (k _ _ M) a,r⟩
 have k5:=ad n<|.lst ((O7 ys.length).map λi:Nat=>V.int ((o.idxOf (o.getD i []))));refine q Dl _ (I.trans k5) (I.free n) ?_;rw[aa]
 congr 2
 unfold iB;rw[OZ];refine RI λj=>?_;grind
theorem CO:x∈g_ r k↔x∈r\/x=k:=by
 unfold g_
 split
 ·simp_all
 simp
theorem qE:∀{s r:ab Int} {x:Int},x∈s.foldl g_ r↔x∈r\/x∈s
 |[],r,x=>by simp
 |k::s,r,x=>by
  rw[S1,qE,CO,Oz,or_assoc]
theorem wu(h:r.Nodup):(g_ r k).Nodup:=by
 unfold g_
 split
 ·exact h
 rename_i n;rw[Qa];exact⟨h,by simp,λx H y a z=>by rw[Ob.mp a]at z;exact n<|z▸H⟩
theorem mI:∀{k r:ab Int},r.Nodup->(k.foldl g_ r).Nodup
 |[],_,h=>h
 |_::k,_,h=>mI (k:=k)<|wu h
section
variable {nm:Nat->ab Int}{last:Nat}
theorem gu:∀j,(bR nm last j).Nodup
 |0=>by show([(last)]:ab Int).Nodup;simp
 |j+1=>by
  show(if _ then _ else _:ab Int).Nodup
  split
  ·exact mI<|gu j
  exact gu j
theorem ee:x∈bR nm last (j+1)↔x∈bR nm last j\/(((last-j:Nat):Int)∈bR nm last j/\x∈nm (last-j)):=by
 show x∈(if _ then _ else _)↔_
 split
 ·rw[qE];simp_all
 simp_all
theorem jx(h:x∈bR nm last j):∀m,x∈bR nm last (j+m)
 |0=>h
 |m+1=>ee.mpr<|.inl<|jx h m
theorem gv(H:∀i,i<=last->∀k∈nm i,0<=k/\k<(i:Int)):∀{j:Nat} {x:Int},x∈bR nm last j->0<=x/\x<=(last:Int)
 |0,x,h=>by
  have a:=Ob.mp h;simp_all
 |j+1,x,h=>by
  obtain z|⟨y,z⟩:=ee.mp h
  ·exact gv H z
  have:=H _ (hH _ _) x z;omega
theorem oQ(H:∀i,i<=last->∀k∈nm i,0<=k/\k<(i:Int))(a:last-j<=p):∀m,(p:Int)∈bR nm last (j+m)->(p:Int)∈bR nm last j
 |0,h=>h
 |m+1,h=>by
  obtain z|⟨_,z⟩:=ee.mp ‹_›
  ·exact oQ H a m z
  have:=H (last-(j+m)) (hH _ _) _ z;omega
theorem kh(H:∀i,i<=last->∀k∈nm i,0<=k/\k<(i:Int)){p:Nat}(h:(p:Int)∈bR nm last (last+1)):∀k∈nm p,k∈bR nm last (last+1):=λk b=>by
 have X:p<=last:=by
  have:=(gv H h).2;simp_all
 have e:last+1=(last-p)+(p+1):=by lia
 rw[e]at h;have c:=oQ H (by simp_all) _ h;have d:=ee.mpr<|.inr ⟨by rwa[show last-(last-p)=p by lia],by rwa[show last-(last-p)=p by lia]⟩;have a:=jx d p;lia
theorem ww(j:Nat):(last:Int)∈bR nm last j:=by
 have:=jx (nm:=nm) (j:=0) (x:=(last)) (Ob.mpr rfl) j
 simp_all
end
theorem wx{o:ab (ab Int)}{k:Nat}{c:ab Int}(h:o[k]?=gV c):o.idxOf c<=k:=by
 obtain g|g:=UN k (o.idxOf c)
 ·exact absurd (N4.mp h).2 (by
   have:=Wf g;simpa using this)
 exact g
theorem jy{o:ab (ab Int)}{c:ab Int}(h:c∈o):o.idxOf c<o.length/\o[o.idxOf c]?=gV c:=by
 have H:=VJ.mpr h;exists H;rw[N1 H,X4]
noncomputable abbrev L8:Pn:=b9 71
theorem J9{A B:Hp->Prop}(h:A H):Jz c H λb a=>if b=NW then A a else B a:=by
 assumption
inductive HF (Q:St)(h:Hp)(D:J')(e:Nat->Og)(i:Nat)(a:St)(ys:ab V)(H:Hp):Prop
 |mk (v:M' V)(h0:a=v::Q)(b:H D=gV (.lst ys))(c:Same h H)(d:dH H ((O7 i).map e) ys)
theorem qF(q:St)(e:Nat->Og)(E:k=NZ::q)(p:c a=gV (.lst X))(l:c D=NZ)(P:X.length<=9000)(u:∀i,i<X.length->bn (e i))
  (w:∀i x,X[i]?=gV x->∀H R,Same c H->(∀v h,Same H h->RD h (e i) v->R v h)->T (gV x::q) H R)
  (z:∀y H,Same c H->H D=gV (.lst y)->dH H ((O7 X.length).map e) y->Q (.ref D) H):gb (AM K a) D (dF 0) Jz T k c Q:=by
 refine bB (xs:=X) (HF q c D e) ⟨NZ,E,aa,ad l _,aM⟩ ?_ ?_ ?_
 ·rintro i r y m j ⟨j,j,f,b,j⟩;exact⟨f,SqL.of<|b _ _ p⟩
 ·rintro i x r y m s ⟨G,rfl,f,b,g⟩;have W:=(N4.mp s).1;refine cg<|w i x s _ _ b λv I n B=>?_;have o:=du g;rw[B',PB]at o;have t:=n _ _ f;have A:∀d∈(O7<|i+1).map e,bn d:=λd C=>by
   grind
  refine⟨t,cK (by lia),_,rfl,aa,(b.trans n).upd_new l _,qB t A ?_⟩;rw[Rg,OF];exact oM (dI n _ _ g)<|ai B aM
 rintro r y m ⟨j,j,f,b,g⟩;exact z y m b f g
inductive CQ (Q:St)(h:Hp)(D:J')(ks:ab Int)(i:Nat)(a:St)(ys:ab V)(H:Hp):Prop
 |mk (v b:M' V)(T:ab J')(h0:a=v::b::Q)(c:H D=gV (.lst ys))(d:Same h H)(e:ys=T.map V.ref)(f:T.length=i)(g:∀(j:Nat) (t:J') (k:Int),T[j]?=gV t->ks[j]?=gV k->H t=gV (.tup [.int k,.int (j:Int)]))
theorem lL{a b:Type}(d:a)(g:a->b)(l:ab a)(h:n=l.length):(O7 n).map (λi=>g<|l.getD i d)=l.map g:=by
 refine RI λj=>?_;rw[Ox,Ox];by_cases H:j<l.length
 ·simp_all
 simp_all
noncomputable def oS(n:ab Int):ab (aR×V):=(O7 n.length).map λi=>((OK (n.getD i 0):aR),V.int (i:Int))
theorem Ae(n:ab Int):(oS n).map (·.1)=n.map (OK:Int->aR):=by
 unfold oS;rw[OZ];exact lL 0 _ n rfl
theorem CT(a:k∈n):bL (oS n) (OK k:aR)=gV (.int ((n.idxOf k:Nat):Int)):=by
 have g:∀(l:ab Int) (s:Nat),k∈l->bL ((O7 l.length).map λi=>((OK (l.getD i 0):aR),V.int ((s+i:Nat)))) (OK k)=gV (.int ((s+l.idxOf k:Nat))):=by
  intro l
  induction l with
  |nil=>exact λy h=>nomatch h
  |cons x l I=>
   intro s m;rw[OG,List.range_succ_eq_map,OT];unfold bL;rw[Qf];by_cases e:x=k
   ·simp_all
   have E:decide ((OK ((x::l).getD 0 0):aR)=OK k)=false:=N7 λz=>e<|Qp z;have H:=(Oz.mp m).resolve_left λz=>e z.symm;have:=I (s+1) H;simp only[E];unfold bL at this;rw[Zs,show(x == k)=N8 by simpa using e];simp_all
 have:=g n 0 a;simp only[Sz]at this;exact this
noncomputable def fP(d:ab Og)(n:ab Int):ab Og:=n.map λp=>bS (λk=>((n.idxOf k:Nat):Int))<|d.getD p.toNat .none
noncomputable def bI(o:ab (ab Int))(k:Int):Int:=(iB o).getD k.toNat 0
noncomputable def yd(d:ab Og)(i:Nat):ab Int:=bz<|d.getD i .none
inductive CU (vs:ab V)(H:Hp)(Q:VK)(E:XK):Prop
 |mk (p q pp L:J')(t:Str)(hw:N')(xs s:ab V)(C:ab (ab Int))(ds:ab Og)(out:ab (ab Int))(h0:vs=[.ref p,.ref pp])(i:H p=gV (.tup [.str t,.ref q]))(j:t.length<=30)(k:H q=gV (.lst xs))(m:CLs H C xs)(n:C.length<=900)(o:(∀c∈C,au t.length c))(u:H pp=gV (.tup [.str<|ao hw,.ref L]))(v:H L=gV (.lst s))(w:dH H ds s)(a:ds.length<=3000)(b:(∀d∈ds,bn d))(e:bQ t C hw [] ds=(out,NW))(f:pR out=NW)
   (g:∀r l ys nd h,Same H h->H r=NZ->H l=NZ->h r=gV (.tup [.str<|ao hw,.ref l])->h l=gV (.lst ys)->dH h (fP (ds.map<|bS<|bI out) nd) ys->SB nd (bR (yd<|ds.map<|bS<|bI out) (out.idxOf [])<|out.idxOf []+1)->RM (·<=·) nd->Q (.ref r) h):CU vs H Q E
theorem J_(F:Fun K "shortened_paper" "shortened_paper" L8 f fd)(T:Bl mg)(cf:Fe P w K mg B 7 "whole_sets" ya)(ch:Fe P w K mg B 1 "first_places" CK)(a7:Fe P w K mg B 1 "renamed" wq)(a8:Fe P w K mg B 2 "needed_by" CJ)(a9:Fe P w K mg B 1 "renamed" wt):ay P w K mg B a_ 8 f fd ["sentence","paper"] CU:=by
 refine F.okB (N:=["sentence","paper","sets","firsts","lines","needed","numbers"]) λQC A ba s H vs Q E sc hr h=>?_;obtain⟨p,q,pp,la,t,hw,xs,ls,cs,D,o,rfl,hp,ht,hq,bb,h9,VB,W,Zy,Zz,h8,c,Rz,av,q'⟩:=h;have hu:=hr.units;have bc:o.length=D.length:=by
  have:=dz Rz;simpa using this
 have ck:=du Zz;obtain⟨he,X'⟩:=CF av;refine⟨_,(ae gg
  (ae gg
  (ae (sT 4<|fW ["line","firsts"] [NZ,gV 3] (aD gg) (e:=λS S S S=>(B4 a7 hr gg)))
  (ae (sT 5<|B4 a8 hr<|kT (pv 4)<|gG Ph TV VR (qw hu) (pv 2) gg)
  (ae (sT 6<|aW (fM rfl) rfl T.dict Rj<|fC<|rA (N:=["number","place"]) (i:=[NZ,NZ]) rfl cS gg (λS S S S=>(FF (K:=K) (n:=2) rfl rfl<|nA (pQ 0<|nD ["number","place"])<|nA (pQ 1<|nD ["number","place"]) xh)) (λS S S S=>mW) λS S S S=>gg)
  (cQ<|dZ<|kT gg<|fW ["place","numbers","lines"] [NZ,gV 6,gV 4] (aD<|pv 5) (e:=λS S S S=>(B4 a9 hr<|kT (xP (K:=K) (pv 2)<|pv 0)<|pv 1)))))))),?_⟩
 refine⟨_,rfl,_,rfl,p,q,pp,la,t,hw,xs,ls,cs,D,o,rfl,hp,ht,hq,bb,h9,VB,W,Zy,Zz,by lia,(λd l=>(yb<|c d l).1),Rz,av,λsl ys H1 k1 cl X VL=>?_⟩;have co:=VL.length;refine⟨_,rfl,sl,ys,o,rfl,X,VL,by simp_all,λfl H2 k2 cp bf=>?_⟩;have Xb:=k1.trans k2;have ct:(iB o).length=D.length:=by unfold iB;rw[B',bc]
 have az:∀(i:Nat) (d:Og),D[i]?=gV d->∀k∈bz d,0<=k/\k<(i:Int):=λi d l k J=>by
  have bg:=oE Rz l;have:=uK (c _<|N5 l) bg k J;grind
 refine⟨_,rfl,(aS (Xb _ _ W) rfl ⟨la,rfl,⟨_,SqL.of<|Xb _ _ Zy⟩,λD1 bk=>?_⟩)⟩;refine qF [gV<|.ref fl] (λi=>bS (bI o)<|D.getD i .none) rfl (Xb _ _ Zy) bk (by lia) (λi hi=>ke<|by simp_all) (λi x y H' R k r=>?_) λl1 H3 k3 aC Yb=>?_
 ·have Wy:i<D.length:=by have:=(N4.mp y).1;simp_all
  have l:=aE (d:=Qb) Wy;have rx:=cY (dI (Xb.trans k) _ _ Zz) y;exact⟨_,rfl,_,rfl,x,fl,D.getD i .none,iB o,rfl,rx,c _<|N5 l,k _ _ bf,(λz hz=>by have:=az i _ l z hz;lia),r⟩
 rw[lL Qb (bS<|bI o) D<|by lia]at Yb;have g1:∀d∈D.map (bS<|bI o),bn d:=λd l=>by
  obtain⟨d',h',rfl⟩:=OH.mp l;exact ke<|c d' h'
 have bl:([]:ab Int)∈o:=N5 X';obtain⟨aF,bm⟩:=jy bl;have br:=Xb.trans k3;have Y:=k2.trans k3;refine⟨_,rfl,_,rfl,.inl ⟨rfl,_,SqL.of<|Y _ _ X⟩,Oy _,λet bs=>?_⟩;have k4:=ad bs<|.tup [];have s4:=@aa H3 et (.tup []);generalize upd H3 et (.tup [])=H4 at k4 s4 ⊢;have eG:∀j,j<o.length->(o.map i_).getD j .none=i_ (o.getD j []):=λj C=>by
  rw[K',K',Ox,N1 C];rfl
 refine⟨.tuple [],o.map i_,_,sl,ys,o.idxOf [],rfl,rfl,(Y.trans k4) _ _ X,(VL.mono<|Y.trans k4).rds,bx s4 aM,by rfl,js o,by decide+kernel,by rw[B'];exact aF,?_,λm hm=>?_,?_⟩
 ·rw[eG _ aF,jt,K',bm];rfl
 ·rw[eG _ (Wd hm aF),jt];refine N7 λz=>?_;have bt:o[m]?=gV []:=by rw[K',N1<|by exact Wd hm aF]at z;rw[N1<|by exact Wd hm aF];exact O1 gV z
  have:=wx bt;lia
 refine⟨D1,l1,D.map<|bS<|bI o,o.idxOf [],rfl,k4 _ _ aC,dI k4 _ _ Yb,g1,by simp_all,by simp_all,λnl N H5 k5 cu L aL b0=>?_⟩;have u:SB N (bR (yd<|D.map<|bS<|bI o) (o.idxOf [])<|o.idxOf []+1):=aL;clear aL;have a0:∀i,i<=o.idxOf []->∀k∈yd (D.map<|bS<|bI o) i,0<=k/\k<(i:Int):=λi hi k J=>by
  have l:=aE (d:=Qb) (show i<D.length by lia);have e1:(D.map<|bS<|bI o).getD i .none=bS (bI o) (D.getD i .none):=by rw[K',Ox,l];rfl
  have O:k∈bz ((D.map<|bS<|bI o).getD i .none):=J;rw[e1,qC<|c _<|N5 l]at O;obtain⟨k0,b1,rfl⟩:=OH.mp O;have cv:=az i _ l k0 b1;obtain⟨n0,rfl⟩:∃n:Nat,k0=(n:Int):=⟨k0.toNat,by lia⟩;have Z:n0<o.length:=by lia
  have ef:bI o (n0:Int)=((o.idxOf (o[n0]'Z):Nat):Int):=by
   unfold bI iB;rw[O4,K',Ox,N1 Z];rfl
  have:=wx<|N1 Z;rw[ef];lia
 have ac:∀x∈N,0<=x/\x<=((o.idxOf []:Nat):Int):=λx y=>gv a0<|u.mem_iff.mp y;have b2:N.Nodup:=u.nodup_iff.mpr<|gu _;have a1:N.length<=9000:=by
  have:=iV (n:=yd<|D.map<|bS<|bI o) (l:=o.idxOf []) (λi=>iW _)<|o.idxOf []+1;rw[u.length_eq];lia
 have b3:∀x∈N,∀k∈bz ((D.map<|bS<|bI o).getD x.toNat .none),k∈N:=λx y k J=>by
  have WA:=u.mem_iff.mp y;have cz:=ac x y;obtain⟨n,rfl⟩:∃n:Nat,x=(n:Int):=⟨x.toNat,by lia⟩;rw[O4]at J;exact u.mem_iff.mpr<|kh a0 WA k J
 have am:=k4.trans k5;have b4:=br.trans am;refine⟨_,rfl,nl,rfl,⟨_,SqL.of L⟩,λD2 a2=>?_⟩;refine zJ (K:=K) (a:=nl) (X:=N.map V.int) (CQ [] H5 D2 N) ⟨NZ,NZ,[],rfl,aa,ad a2 _,rfl,rfl,λj t k h S=>by grind⟩ ?_ ?_ ?_
 ·rintro i σ zs G S ⟨S,S,S,S,i1,i2,S⟩;exact⟨i1,SqL.of<|i2 _ _ L⟩
 ·rintro i x σ zs G t0 y ⟨v0,v1,ts,rfl,i1,i2,rfl,i4,i5⟩ b5;obtain⟨k,rfl,J⟩:=cO y;have Wy:=(N4.mp J).1;have k6:=ad b5<|.tup [.int (i:Nat),.int k];have s6:=@aa G t0 (.tup [.int (i:Nat),.int k]);generalize upd G t0 (.tup [.int (i:Nat),.int k])=G6 at k6 s6 ⊢;refine⟨t0,[.int (i:Nat),.int k],rfl,SqT.of s6,rfl,_,_,rfl,_,_,rfl,rfl,J9 ⟨_,rfl,_,rfl,(by show 2<=sizeLine;decide),λtt b6=>?_⟩⟩;have k7:=ad b6<|.tup [.int k,.int (i:Nat)];have d7:=(k6.trans k7) _ _ i1;refine⟨d7,cK (by rw[B'];lia),_,_,ts++[tt],rfl,?_,(i2.trans<|k6.trans k7).upd_new a2 _,?_,by rw[N0,i4];rfl,λj t' k' C O=>?_⟩
  ·rw[aa]
  ·rw[OF];rfl
  have U:∀{b:J'} {zs:ab V},upd G6 tt (.tup [.int k,.int (i:Nat)]) b=gV (.tup zs)->upd (upd G6 tt<|.tup [.int k,.int (i:Nat)]) D2 (.lst<|ts.map V.ref++[.ref tt]) b=gV (.tup zs):=λe=>by
   rw[af λz=>by simp_all];exact e
  obtain g|g:=UN j ts.length
  ·rw[ON g]at C;exact U<|(k6.trans k7) _ _<|i5 j t' k' C O
  rw[OP g]at C;have b7:j=i:=by
   have:=(N4.mp C).1;rw[OM]at this;lia
  subst b7;rw[i4,QI]at C;cases C;rw[J]at O;cases O;exact U aa
 rintro σ zs G ⟨v0,v1,ts,rfl,i1,i2,rfl,i4,i5⟩;rw[B']at i4;refine⟨D2,ts,oS N,rfl,i1,?_,λj t' kv C an=>?_,?_,?_,λdn cc=>?_⟩
 ·unfold oS;rw[B',PB,i4]
 ·have c0:=(N4.mp C).1;unfold oS at an;rw[Ox,SF<|by simp_all]at an;cases an;exact i5 j t' _ C (by simp_all)
 ·rw[Ae];exact TN _ (λa b h z=>h<|Qp z) b2
 ·unfold oS;rw[B',PB];exact a1
 have k8:=ad cc<|.dK<|oS N;have s8:=@aa G dn (.dK<|oS N);generalize upd G dn (.dK<|oS N)=G8 at k8 s8 ⊢;have I:=i2.trans k8;have M:=b4.trans I;refine⟨_,rfl,(aS (M _ _ W) rfl ⟨_,rfl,nl,rfl,⟨_,SqL.of<|I _ _ L⟩,λD3 a3=>?_⟩)⟩;refine qF [gV<|.ref dn,gV<|.ref D1] (λi=>bS (λk=>((N.idxOf k:Nat):Int))<|(D.map<|bS<|bI o).getD (N.getD i 0).toNat .none) rfl (I _ _ L) a3 (by simp_all) (λi hi=>?_) (λi x y H' R k r=>?_) λl3 H9 k9 cd a4=>?_
 ·rw[B']at hi;have y:=ac _<|N5<|aE (d:=(0:Int)) hi;exact ke (g1 _<|N5<|aE (d:=Qb)<|by grind)
 ·obtain⟨z,rfl,hz⟩:=cO y;have ce:N.getD i 0=z:=by simp_all
  rw[ce]at r;have a5:=N5 hz;have c1:=ac z a5;obtain⟨n,rfl⟩:∃n:Nat,z=(n:Int):=⟨z.toNat,by lia⟩;rw[O4]at r;have hn:n<(D.map<|bS<|bI o).length:=by rw[B'];lia
  have a6:=dI (am.trans<|I.trans k) _ _ Yb;have c2:=du a6;obtain⟨v,hv⟩:∃v,l1[n]?=gV v:=⟨_,N1 (by lia)⟩;have rv:=cY a6 hv;have TQ:=b3 _ a5;rw[O4]at TQ;exact⟨_,rfl,_,rfl,(fz ((am.trans (I.trans k)) _ _ aC) (aG hv) ⟨_,rfl,v,dn,(D.map (bS (bI o))).getD n .none,oS N,λk=>((N.idxOf k:Nat):Int),rfl,rv,g1 _ (N5 (aE (d:=Qb) hn)),k _ _ s8,(λk' O=>CT (TQ k' O)),r⟩)⟩
 refine⟨(by show 2<=sizeLine;decide),λr nr=>?_⟩;have as:=ad nr<|.tup [.str<|ao hw,.ref D3];rw[B',lL _ (λp=>bS (λk=>((N.idxOf k):Int))<|(D.map<|bS<|bI o).getD _ _) N rfl]at a4;exact q' r D3 l3 N _ (M.trans<|k9.trans as) ((M.trans k9).free nr) (M.free a3) aa (as _ _ cd) (dI as _ _ a4) u b0
theorem hO(t:Str)(c:ab (ab Int))(h:N')(s:ab (ab Int))(k:Int):aO t c h s (.tuple [.str aU,.int k])=if h=NW then NZ else ju c (.int k):=by
 cases h<;>rfl
theorem lM(t:Str)(C:ab (ab Int))(h:N')(s:ab (ab Int))(c:ab Int):aO t C h s (.tuple [.str bP,i_ c])=if h=NW then mB t.length C (i_ c)else none:=by
 cases h<;>rfl
theorem iX(t:Str)(c:ab (ab Int))(h:N')(s:ab (ab Int))(i j z:Int):aO t c h s (.tuple [.str bi,.int i,.int j,.int z])=d9 t h s (.int i) (.int j) (.int z):=by
 cases h<;>rfl
theorem gM{n:Nat}{k:Int}(h:0<=k/\k<(n:Int)):aH n (.int k)=gV k.toNat:=by
 show(if 0<=k/\k<(n)then gV _ else NZ)=_
 rw[On h]
theorem m6:d9 t w s (.int i) (.int j) (.int z)=gV c↔(0<=i/\i<(s.length:Int))/\(0<=j/\j<(s.length:Int))/\e_ t w (s.getD i.toNat []) (s.getD j.toNat []) z=NW/\bW (s.getD i.toNat []) (s.getD j.toNat []) z=c:=by
 unfold d9;by_cases H:0<=i/\i<(s.length)
 ·by_cases a:0<=j/\j<(s.length)
  ·rw[gM H,gM a];simp_all
  have:aH _ (.int j)=none:=Oo a;rw[gM H,this];exact⟨λh=>(nomatch h),λh=>absurd h.2.1 a⟩
 have:aH _ (.int i)=none:=Oo H;rw[this];exact⟨λh=>(nomatch h),λh=>absurd h.1 H⟩
theorem oT:gK t w s (.int k)=gV c↔(0<=k/\k<(s.length:Int))/\aq t w (s.getD k.toNat [])=c:=by
 unfold gK;by_cases H:0<=k/\k<(s.length)
 ·rw[gM H];exact⟨λh=>⟨H,OA h⟩,λh=>O1 gV h.2⟩
 have:aH _ (.int k)=none:=Oo H;rw[this];exact⟨λh=>(nomatch h),λh=>absurd h.1 H⟩
theorem CV{A:ab (ab Int)}{f:Int->Int}(g:bn d)(h:aO t C w s d=gV c)
  (H:∀k∈bz d,(0<=f k/\f k<(A.length:Int))/\A.getD (f k).toNat []=s.getD k.toNat []):aO t C w A (bS f d)=gV c:=by
 obtain⟨k,rfl⟩|⟨n,o,rfl⟩|⟨k,rfl⟩|⟨i,j,z,rfl⟩:=g
 ·assumption
 ·assumption
 ·rw[fb,iU,oT];rw[iU,oT]at h;obtain⟨a,b⟩:=H k (Ob.mpr rfl);exact⟨a,by rw[b];exact h.2⟩
 rw[ff,iX,m6];rw[iX,m6]at h;obtain⟨e,B⟩:=H i (Ou);obtain⟨l,m⟩:=H j (by rw[dh];simp);rw[B,m];exact⟨e,l,h.2.2.1,h.2.2.2⟩
theorem Ge(h:bn d):bS f (bS g d)=bS (λk=>f<|g k) d:=by
 obtain⟨k,rfl⟩|⟨c,H,rfl⟩|⟨k,rfl⟩|⟨i,j,z,rfl⟩:=h
 ·rfl
 ·rfl
 ·rfl
 rfl
theorem jz(h:0<=k/\k<(o.length:Int)):bI o k=((o.idxOf (o.getD k.toNat []):Nat):Int)/\o.getD (bI o k).toNat []=o.getD k.toNat []/\0<=bI o k/\bI o k<=k:=by
 obtain⟨n,rfl⟩:∃n:Nat,k=(n):=⟨k.toNat,by lia⟩;have a:n<o.length:=by simp_all
 have H:=aE (d:=([])) a;have e:bI o (n)=((o.idxOf (o.getD n []))):=by
  unfold bI iB;rw[O4,K',Ox,H];rfl
 have m:=N5 H;obtain⟨c,b⟩:=jy m;have d:=wx H;simp_all
theorem oU(r:bQ t c w [] D=(o,NW))(H:∀d∈D,bn d){i:Nat}{d:Og}(h:D[i]?=gV d):∀k∈bz d,0<=k/\k<(i:Int):=λk a=>by
 have:=uK (H _<|N5 h) (oE r h) k a;grind
theorem C0{D:ab Og}{o:ab (ab Int)}(H:∀d∈D,bn d)(h:D[i]?=gV d):yd (D.map<|bS<|bI o) i=(bz d).map (bI o):=by
 unfold yd;rw[K',Ox,h];exact qC<|H _<|N5 h
theorem Ka(r:bQ t C w [] D=(o,NW))(h:∀d∈D,bn d)(j:l<D.length):∀i,i<=l->∀k∈yd (D.map<|bS<|bI o) i,0<=k/\k<(i:Int):=λi m k H=>by
 have c:=aE (d:=Qb) (show i<D.length by exact Ru m j);have f:o.length=D.length:=by
  have:=dz r;simpa using this
 rw[C0 h c]at H;obtain⟨e,g,rfl⟩:=OH.mp H;have n:=oU r h c e g;obtain⟨z,z,a,b⟩:=jz (o:=o) (k:=e) (by lia);lia
structure Gf (t:Str)(cs:ab (ab Int))(hw:N')(ds:ab Og)(out:ab (ab Int))(nd:ab Int):Prop where
 run:bQ t cs hw [] (fP (ds.map<|bS<|bI out) nd)=(nd.map λp=>out.getD p.toNat [],NW)
 good:∀d∈fP (ds.map<|bS<|bI out) nd,bn d
 few:nd.length<=ds.length
 last:nd.getLast?=gV ((out.idxOf []:Nat):Int)
 nodup:(nd.map λp=>out.getD p.toNat []).Nodup
theorem HG{N:ab Int}(h:N.Pairwise (·<=·))(n:N.Nodup){i j:Nat}{x y:Int}(a:N[i]?=gV x) (H:N[j]?=gV y) (r:x<y):i<j:=by
 obtain g|g|g:=Tv i j
 ·exact g
 ·simp_all
 have:=QZ.mp h j i (N4.mp H).1 (N4.mp a).1 g;rw[(N4.mp H).2,(N4.mp a).2]at this;lia
theorem qG:∀{N:ab Int} {b n:Int},N.Pairwise (·<=·)->N.Nodup->(∀x∈N,b<=x/\x<n)->(N.length:Int)<=max 0 (n-b)
 |[],b,n,_,_,_=>by simp;omega
 |x::r,b,n,h,u,a=>by
  rw[Qe]at h;rw[PJ]at u;have:=qG (b:=x+1) (n:=n) h.2 u.2 λy H=>by
   have c:=h.1 y H;have d:=a y<|Ow _ H;have:x≠y:=λe=>u.1<|e▸H;lia
  have f:=a x Ou;grind
theorem Gg(q:bQ t C B [] D=(o,NW))(c:∀d∈D,bn d)(hm:[]∈o)(m:SB N (bR (yd<|D.map<|bS<|bI o) (o.idxOf [])<|o.idxOf []+1))(E:N.Pairwise (·<=·)):Gf t C B D o N:=by
 have ac:o.length=D.length:=by
  have:=dz q;simpa using this
 obtain⟨hE,F⟩:=jy hm;have A:=Ka q c (show o.idxOf []<D.length by lia);have U:∀x∈N,0<=x/\x<=((o.idxOf []:Nat):Int):=λx H=>gv A<|m.mem_iff.mp H;have b:N.Nodup:=m.nodup_iff.mpr<|gu _;have I:∀x∈N,∀k∈yd (D.map<|bS<|bI o) x.toNat,k∈N:=λx H k f=>by
  have WA:=m.mem_iff.mp H;have:=U x H;obtain⟨n,rfl⟩:∃n:Nat,x=(n:Int):=⟨x.toNat,by lia⟩;rw[O4]at f;exact m.mem_iff.mpr<|kh A WA k f
 have s:∀x∈N,bI o x=x:=λx H=>by
  have G:∀(j:Nat) (x:Int),x∈bR (yd<|D.map<|bS<|bI o) (o.idxOf []) j->x=(o.idxOf []:Nat)\/∃k,0<=k/\k<(o.length:Int)/\x=bI o k:=by
   intro j
   induction j with
   |zero=>exact λx h=>.inl<|Ob.mp h
   |succ j J=>
    intro x h;obtain z|⟨_,z⟩:=ee.mp h
    ·exact J x z
    have a:=aE (d:=Qb) (show o.idxOf []-j<D.length by lia);rw[C0 c a]at z;obtain⟨k0,L,rfl⟩:=OH.mp z;have hr:=oU q c a k0 L;exact .inr ⟨k0,by lia,by lia,rfl⟩
  have M:∀k:Int,0<=k/\k<(o.length:Int)->bI o (bI o k)=bI o k:=λk f=>by
   obtain⟨O,e2,e3,e4⟩:=jz f;obtain⟨P,_,_,_⟩:=jz (o:=o) (k:=bI o k) (by lia);rw[P,e2,<-O]
  obtain z|⟨k,L,h1,z⟩:=G _ x (m.mem_iff.mp H)
  ·obtain⟨P,_,_,_⟩:=jz (o:=o) (k:=x) (by simp_all);rw[P,z,O4,K',F];rfl
  rw[z];exact M k ⟨L,h1⟩
 have u:∀(i:Nat) (x:Int),N[i]?=gV x->(fP (D.map<|bS<|bI o) N)[i]?=gV (bS (λk=>((N.idxOf (bI o k):Nat):Int))<|D.getD x.toNat .none):=λi x H=>by
  have r:=U x<|N5 H;have a:=aE (d:=Qb) (show x.toNat<D.length by lia);unfold fP;rw[Ox,H];show gV (bS _<|(D.map<|bS<|bI o).getD x.toNat .none)=_
  have O:(D.map<|bS<|bI o).getD x.toNat .none=bS (bI o) (D.getD x.toNat .none):=by rw[K',Ox,a];rfl
  rw[O,Ge<|c _<|N5 a]
 have P1:(fP (D.map<|bS<|bI o) N).length=N.length:=by unfold fP;rw[B']
 refine⟨?_,?_,?_,?_,?_⟩
 ·have G:∀i,i<=N.length->bQ t C B [] ((fP (D.map<|bS<|bI o) N).take i)=((N.take i).map λp=>o.getD p.toNat [],NW):=by
   intro i
   induction i with
   |zero=>exact λ_=>rfl
   |succ i J=>
    intro l;have H:=aE (d:=(0:Int)) ‹_›;generalize N.getD i 0=x at H;have v:=N5 H;have r:=U x v;have a:=aE (d:=Qb) (show x.toNat<D.length by lia);have Q:=c _<|N5 a;have T:=oE q a;have hl:aO t C B ((N.take i).map λp=>o.getD p.toNat []) (bS (λk=>((N.idxOf (bI o k):Nat):Int))<|D.getD x.toNat .none)=gV (o.getD x.toNat []):=by
     refine CV Q T λk f=>?_;have am:=oU q c a k f;obtain⟨_,f2,f3,f4⟩:=jz (o:=o) (k:=k) (by lia);have W:bI o k∈N:=I x v _ (by rw[C0 c a];exact Qy f);have hj:=VJ.mpr W;have w:N[N.idxOf (bI o k)]?=gV (bI o k):=by rw[N1 hj,X4]
     have X:=HG E b w H (by lia);rw[O4,B',OB];refine⟨by lia,?_⟩;rw[K',Ox,Pj X,w];show o.getD _ []=_
     rw[f2,K',K',Pj<|by lia]
    rw[uw (J<|YB l) (u i x H) hl,OJ,H];show _=(((N.take i++[x]).map λp=>o.getD _ []),NW)
    rw[OF];rfl
  have:=G _<|N9 _;rwa[Oi<|Tw P1,Oi<|N9 _]at this
 ·intro d a;obtain⟨i,l⟩:=Pm.mp a;have Wy:i<N.length:=by
   have:=(N4.mp l).1;simp_all
  have H:=aE (d:=(0)) Wy;have r:=U _<|N5 H;have Y:=aE (d:=Qb) (show(N.getD i 0).toNat<D.length by lia);rw[u i _ H]at l;cases l;exact ke<|c _<|N5 Y
 ·have:=qG (b:=0) (n:=(D.length)) E b λx H=>by
   have:=U x H;lia
  simp_all
 ·have Z:((o.idxOf []):Int)∈N:=m.mem_iff.mpr<|ww _;obtain⟨i,l⟩:=Pm.mp Z;have Wy:=(N4.mp l).1;have H:=aE (d:=(0)) (show N.length-1<N.length by lia);have r:=U _<|N5 H;rw[Ve,H];by_cases g:N.getD (N.length-1) 0<((o.idxOf []):Int)
  ·have:=HG E b H l g;lia
  congr 1
  lia
 refine Pq.mpr<|b.imp_of_mem λ{x y} H hy Wi e=>Wi ?_;have ex:=s x H;have ey:=s y hy;have r:=U x H;have an:=U y hy;obtain⟨a1,_⟩:=jz (o:=o) (k:=x) (by lia);obtain⟨a2,_⟩:=jz (o:=o) (k:=y) (by lia);rw[ex]at a1;rw[ey]at a2;rw[a1,a2,e]
structure SS where
 lw:N'->ab Og
 ow:N'->ab (ab Int)
 bs:ab N'
 fs:ab (M'<|ab Int)
 win:M' N'
noncomputable def di{a:Type}(F:N'->ab a)(b:N')(x:a):N'->ab a:=λc=>if c=b then F c++[x]else F c
theorem bp{a:Type}(F:N'->ab a)(b:N')(x:a):di F b x b=F b++[x]:=On rfl
theorem cG{a:Type}(F:N'->ab a)(x:a)(h:c≠b):di F b x c=F c:=Oo h
noncomputable def eB(h:N')(d:Og)(c:ab Int)(S:SS):SS:=if c∈S.ow h then S else{S with lw:=di S.lw h d,ow:=di S.ow h c}
noncomputable def oV(k:Nat):Og:=.tuple [.str aB,.int (k:Int)]
noncomputable def bF(t:Str)(h:N')(d:Og)(c:ab Int)(S:SS):SS:=eB h (oV<|((eB h d c S).ow h).idxOf c) (aq t h c)<|eB h d c S
noncomputable def qH(i j:Nat)(v:Int):Og:=.tuple [.str bi,.int (i:Int),.int (j:Int),.int v]
noncomputable def cH(O:ab (ab Int))(f s:ab Int)(v:Int):Og:=if f.contains (-v)=NW then qH (O.idxOf s) (O.idxOf f) v else qH (O.idxOf f) (O.idxOf s) v
noncomputable def eE(b:N')(o:M' (ab Int))(S:SS):SS:={S with bs:=S.bs++[b],fs:=S.fs++[o]}
noncomputable def cq(S:SS):SS:={S with bs:=S.bs.dropLast,fs:=S.fs.dropLast}
noncomputable def fQ(t:Str)(h:N'):Nat->ab Int->SS->SS
 |0,_,S=>{S with win:=gV h}
 |k+1,c,S=>if(c.contains ((k:Int)+1) || c.contains (-((k:Int)+1)))=NW then
   match S.fs.getD k NZ with
   |none=>eE (!S.bs.getD k N8) (gV c)<|cq S
   |some F=>fQ t h k (aq t h<|bW F c<|(k:Int)+1) (bF t h (cH (S.ow h) F c<|(k:Int)+1) (bW F c<|(k:Int)+1)<|cq S)
  else fQ t h k c (cq S)
def Af(h:N')(b:ab N')(c:ab Int):Prop:=∀l∈c,cC h b l=NW
noncomputable def eD:Nat->ab N'->Nat
 |_,[]=>0
 |n,b::r=>(if b=NW then 2^n else 1)+eD (n-1) r
noncomputable def pend(f:ab (M'<|ab Int)):Nat:=(f.filter rb).length
noncomputable def cI(S:SS):Nat:=(S.lw NW).length+(S.lw N8).length
def C1(t:Str)(S:SS)(k:Nat):Prop:=match S.fs.getD k NZ with
 |none=>S.bs.getD k N8=N8
 |some F=>S.bs.getD k N8=NW/\F∈S.ow (!cP t k)/\Af (!cP t k) (S.bs.take k++[N8]) F/\((k:Int)+1∈F\/ -((k:Int)+1)∈F)
structure iD (t:Str)(cs:ab (ab Int))(S:SS):Prop where
 run:∀hw,bQ t cs hw [] (S.lw hw)=(S.ow hw,NW)
 good:∀hw,∀d∈S.lw hw,bn d
 nd:∀hw,(S.ow hw).Nodup
 flen:S.fs.length=S.bs.length
 blen:S.bs.length<=t.length
 fst:∀k,k<S.bs.length->C1 t S k
def Kb(S:SS):Prop:=∀h,([]:ab Int)∉S.ow h
theorem Ag(h:bQ t C H [] D=(o,NW))(g:aO t C H o d=gV c):bQ t C H [] (D++[d])=(o++[c],NW):=by
 rw[lq h,g]
section
variable {S:SS}
theorem jA(h:c∈S.ow H):eB H d c S=S:=On h
theorem eP(h:c∉S.ow H):eB H d c S={S with lw:=di S.lw H d,ow:=di S.ow H c}:=Oo h
theorem fx:(eB h d c S).bs=S.bs:=by
 unfold eB
 split<;>rfl
theorem gs:(eB h d c S).fs=S.fs:=by
 unfold eB
 split<;>rfl
theorem eY:(eB h d c S).win=S.win:=by
 unfold eB
 split<;>rfl
theorem Gh(H:x∈S.ow h):x∈(eB w d c S).ow h:=by
 by_cases g:c∈S.ow w
 ·rwa[jA g]
 rw[eP g];show x∈di _ w c h
 by_cases e:h=w
 ·subst e;rw[bp];exact Qc _ H
 rwa[cG _ _ e]
theorem m7:c∈(eB h d c S).ow h:=by
 by_cases g:c∈S.ow h
 ·rwa[jA g]
 rw[eP g];show c∈di _ h c h
 rw[bp];exact O9 _<|Ob.mpr rfl
theorem oW(a:x∈(eB w d c S).ow h):x∈S.ow h\/(h=w/\x=c):=by
 by_cases g:c∈S.ow w
 ·rw[jA g]at a;exact .inl a
 rw[eP g]at a;have H:x∈di _ w c h:=a;by_cases e:h=w
 ·subst e;rw[bp]at H;simp_all
 rw[cG _ _ e]at H;exact .inl H
theorem uL(h:c∉S.ow H):((eB H d c S).ow H).getLast?=gV c:=by
 rw[eP h];show(di _ H c H).getLast?=_
 rw[bp,List.getLast?_append];rfl
theorem lN:cI (eB h d c S)<=cI S+1:=by
 by_cases g:c∈S.ow h
 ·rw[jA g];simp
 rw[eP g];show(di _ h d NW).length+(di _ h d N8).length<=_
 unfold cI;cases h
 ·rw[bp,cG _ _ (by decide),N0,OM];exact N9 _
 rw[bp,cG _ _ (by decide),N0,OM];lia
theorem Kc(H:S'.bs=S.bs)(f:S'.fs=S.fs)(s:∀h x,x∈S.ow h->x∈S'.ow h)(h:C1 t S k):C1 t S' k:=by
 unfold C1 at h ⊢;rw[H,f];cases e:S.fs.getD k NZ with
 |none=>rwa[e]at h
 |some F=>rw[e]at h;exact⟨h.1,s _ _ h.2.1,h.2.2⟩
theorem ye(I:iD t C S)(l:aO t C H (S.ow H) d=gV c)(f:bn d):iD t C (eB H d c S):=by
 by_cases g:c∈S.ow H
 ·rwa[jA g]
 have sub:=λh x (b:x∈S.ow h)=>Gh (w:=H) (d:=d) (c:=c) b;rw[eP g]at sub ⊢;refine⟨λh=>?_,λh D i=>?_,λh=>?_,I.flen,I.blen,λk j=>Kc (S:=S) rfl rfl sub<|I.fst k j⟩
 ·show bQ t C h [] (di _ H d h)=(di _ H c h,NW)
  by_cases e:h=H
  ·subst e;rw[bp,bp];exact Ag (I.run h) l
  rw[cG _ _ e,cG _ _ e];exact I.run h
 ·have a:D∈di _ H d h:=i;by_cases e:h=H
  ·subst e;rw[bp]at a;obtain z|z:=Os.mp a
   ·exact I.good h D z
   simp_all
  rw[cG _ _ e]at a;exact I.good h D a
 show(di _ H c h).Nodup
 by_cases e:h=H
 ·subst e;rw[bp,Qa];exact⟨I.nd h,by simp,λx b y m z=>by simp_all⟩
 rw[cG _ _ e];exact I.nd h
theorem qI(k:Nat):bn (oV k):=.inr<|.inr<|.inl ⟨_,rfl⟩
theorem iY(i j:Nat)(v:Int):bn (qH i j v):=.inr<|.inr<|.inr ⟨_,_,_,rfl⟩
theorem Ah(h:c∈O):aO t C H O (oV<|O.idxOf c)=gV (aq t H c):=by
 obtain⟨b,a⟩:=jy h;unfold oV;rw[iU,oT];simp_all
theorem lO(I:iD t C S)(H:aO t C h (S.ow h) d=gV c)(g:bn d):iD t C (bF t h d c S):=
 ye (ye I H g) (Ah m7) (qI _)
theorem fg:(bF t h d c S).bs=S.bs:=fx.trans fx
theorem iE:(bF t h d c S).fs=S.fs:=gs.trans gs
theorem eW:(bF t h d c S).win=S.win:=eY.trans eY
theorem fh:cI (bF t h d c S)<=cI S+2:=by
 have H:=lN (h:=h) (d:=d) (c:=c) (S:=S);have a:=lN (h:=h) (d:=oV<|((eB h d c S).ow h).idxOf c) (c:=aq t h c) (S:=eB h d c S);unfold bF;lia
theorem lP:aq t h c∈(bF t h d c S).ow h:=m7
theorem lQ(E:Kb S):(aq t H c≠[]/\Kb (bF t H d c S))\/(aq t H c=[]/\((bF t H d c S).ow H).getLast?=gV []/\∀h,h≠H->[]∉(bF t H d c S).ow h):=by
 have f:∀h,[]∈(bF t H d c S).ow h->h=H/\(aq t H c=[]\/c=[]):=λh x=>by
  obtain z|⟨z,e⟩:=oW x
  ·obtain z|⟨z,e⟩:=oW z
   ·exact absurd z<|E h
   exact⟨z,.inr e.symm⟩
  exact⟨z,.inl e.symm⟩
 by_cases g:aq t H c=[]
 ·refine .inr ⟨g,?_,λh n x=>n (f h x).1⟩;by_cases e:c=[]
  ·subst e;have U:aq t H []∈(eB H d [] S).ow H:=m7;unfold bF;rw[jA U];exact uL<|E H
  have n:aq t H c∉(eB H d c S).ow H:=λz=>by
   rw[g]at z;obtain z|⟨y,z⟩:=oW z
   ·exact E H z
   exact e z.symm
  unfold bF;rw[uL n,g]
 refine .inl ⟨g,λh x=>?_⟩;obtain z|z:=(f h x).2
 ·exact g z
 exact g (by rw[z];rfl)
end
theorem eQ(z:Int):absI (-z)=absI z:=by
 obtain⟨y,e⟩|⟨y,e⟩:=aI z<;>obtain⟨y,E⟩|⟨y,E⟩:=aI (-z)<;>lia
theorem C2(H:1<=z)(h:absI l=z):l=z\/l=-z:=by
 obtain⟨y,e⟩|⟨y,e⟩:=aI l<;>lia
def HH(t:Str)(h:N')(c:ab Int):Prop:=c=[]\/∃l∈c,cP t (absI l-1).toNat=!h/\∀m∈c,absI m<=absI l
theorem jB(h:au n c):HH t H (aq t H c):=by
 obtain e|e:=(iS _ 0).2
 ·refine .inl<|Rl.mpr λl a=>?_;have f:=(h.2 l a).1;have E:eZ t H c=0:=e;lia
 obtain⟨l,a,b⟩:=OH.mp e;obtain⟨w,W⟩:=Oj.mp a;have E:absI l=eZ t H c:=b;refine .inr ⟨l,Oj.mpr ⟨w,by lia⟩,?_,λm d=>?_⟩
 ·cases g:cP t _<;>cases H<;>rw[g]at W<;>first|rfl|cases W
 have:=(Oj.mp d).2;simp_all
theorem C3(h:Af w b c)(H:l∈c)(a:1<=absI l):absI l<=(b.length:Int):=by
 obtain g|g:=UN (absI l-1).toNat b.length
 ·omega
 have:=h l H;rw[fL g]at this;simp_all
theorem ki(h:Af w (B++[b]) c)(H:l∈c)(d:1<=absI l)(U:absI l≠(B.length:Int)+1):cC w B l=true:=by
 have e:=C3 h H d;rw[N0,OM]at e;have a:=h l H;rwa[ux<|by omega]at a
theorem yf(f:z=(B.length:Int)+1)(h:Af H (B++[b]) c)(U:z∈c\/ -z∈c):(if(b == H)=NW then z else -z)∈c:=by
 have k:∀l∈c,absI l=z->(b == decide _)=H:=λl d e=>by
  have a:=h l d;rw[uy<|by simp_all]at a;exact eq_of_beq a
 have p:absI z=z:=aX (by lia);have n:absI (-z)=z:=by rw[eQ,p]
 obtain g|g:=U
 ·have:=k z g p;simp_all
 have:=k _ g n;rw[N7 (by lia)]at this;simp_all
theorem uM(j:z=(b.length:Int)+1)(k:au n f)(o:au n s)(h:Af H (b++[B]) f)(c:Af H (b++[q]) s):dW f s z=false:=by
 cases g:dW f s z with
 |false=>rfl
 |true=>
  obtain⟨l,d,i⟩:=OC.mp g;obtain⟨W,w⟩:=Oj.mp d;have U:absI l≠(b.length)+1:=by
   simp_all
  have m:=Of.mp i;have r:=(k.2 l W).1;have a:=ki h W r U;have A:=ki c m (by rwa[eQ]) (by rwa[eQ]);obtain⟨p,e⟩|⟨p,e⟩:=aI l
  ·exact(iT (by simp_all) a A).elim
  exact(iT (by simp_all) A<|by rwa[Tg]).elim
theorem Ai(h:Ups f)(H:Ups s)(c:dW f s z=N8)(d:dW s f z=N8):bW f s z=bW s f z:=by
 have a:=dX h H c;have b:=dX H h d;exact jV a.1 b.1 λl=>(a.2 l).trans (by rw[Or.comm];exact(b.2 l).symm)
theorem eK{a:Type}{l:ab a}{k:Nat}{d:a}(h:l.length=k+1):l=l.dropLast++[l.getD k d]:=by
 have U:l≠[]:=λz=>by simp_all
 have e:l.getD k d=l.getLast U:=by
  rw[List.getLast_eq_getElem];simp[h]
 rw[e];exact(Uz U).symm
section
variable {S:SS}
theorem yg(a:∀c∈C,au t.length c)(I:iD t C S)(H:N'):∀c∈S.ow H,au t.length c:=λc h=>by
 have:=gn (w:=H) a (D:=S.lw H) (s:=[]) (by simp);rw[I.run H]at this;exact this c h
theorem r_(I:iD t c S)(h:S.bs.length=k+1):iD t c (cq S):=by
 have l:S.bs.dropLast.length=k:=by rw[PN,h];rfl
 have L:S.fs.dropLast.length=k:=by rw[PN,I.flen,h];rfl
 refine⟨I.run,I.good,I.nd,L.trans l.symm,?_,λj H=>?_⟩
 ·show S.bs.dropLast.length<=_
  have:=I.blen;lia
 have a:j<k:=by
  have:j<S.bs.dropLast.length:=H;lia
 have:=I.fst j (by lia);unfold C1 at this ⊢;have e:(cq S).fs.getD j NZ=S.fs.getD j none:=by
  show S.fs.dropLast.getD j NZ=_
  rw[K',K',TF,On<|by rw[I.flen];lia]
 have E:(cq S).bs.getD j N8=S.bs.getD j false:=by
  show S.bs.dropLast.getD j N8=_
  rw[K',K',TF,On<|by lia]
 have b:(cq S).bs.take j=S.bs.take j:=by
  show S.bs.dropLast.take j=_
  rw[T3,U6]
  lia
 rwa[e,E,b]
theorem uN(I:iD t c S)(k:S.bs.length<t.length)(h:C1 t (eE b o S) S.bs.length):iD t c (eE b o S):=by
 refine⟨I.run,I.good,I.nd,?_,?_,λj H=>?_⟩
 ·show(S.fs++[o]).length=(S.bs++[b]).length
  rw[N0,N0,I.flen];rfl
 ·show(S.bs++[b]).length<=_
  rw[N0,OM];exact Nat.le_of_lt_succ (Nat.succ_lt_succ k)
 have a:j<S.bs.length+1:=by
  have:j<(S.bs++[b]).length:=H;simp_all
 by_cases e:j=S.bs.length
 ·simp_all
 have:=I.fst j (by lia);unfold C1 at this ⊢;have E:(eE b o S).fs.getD j NZ=S.fs.getD j none:=by
  show(S.fs++[o]).getD j NZ=_
  rw[K',K',ON<|by rw[I.flen];lia]
 have d:(eE b o S).bs.getD j N8=S.bs.getD j false:=by
  show(S.bs++[b]).getD j N8=_
  rw[K',K',ON<|by lia]
 have f:(eE b o S).bs.take j=S.bs.take j:=Ra (Nat.le_of_lt_succ a);rwa[E,d,f]
theorem yh(I:iD t c S):C1 t (eE b o S) S.bs.length↔match o with
  |none=>b=N8
  |some F=>b=NW/\F∈S.ow (!cP t S.bs.length)/\Af (!cP t S.bs.length) (S.bs++[N8]) F/\((S.bs.length:Int)+1∈F\/ -((S.bs.length:Int)+1)∈F):=by
 unfold C1;have e:(eE b o S).fs.getD S.bs.length NZ=o:=by
  show(S.fs++[o]).getD _ NZ=_
  rw[K',OP (by rw[I.flen];exact N9 _),I.flen,QI];rfl
 have E:(eE b o S).bs.getD S.bs.length N8=b:=by
  show(S.bs++[b]).getD _ N8=_
  rw[K',OP<|N9 _,QI];rfl
 have a:(eE b o S).bs.take _=S.bs:=Z6;rw[e,E,a];rfl
theorem oX(a b:ab (M'<|ab Int)):pend (a++b)=pend a+pend b:=by
 unfold pend;simp
structure oY (t:Str)(cs:ab (ab Int))(hw:N')(c:ab Int)(S:SS):Prop where
 I:iD t cs S
 mem:c∈S.ow hw
 agr:Af hw S.bs c
 dr:HH t hw c
 win:S.win=NZ
 emp:(c≠[]/\Kb S)\/(c=[]/\(S.ow hw).getLast?=gV []/\∀h,h≠hw->[]∉S.ow h)
inductive C4 (t:Str)(c:ab (ab Int))(hw:N')(S S':SS):Prop
 |on (I:iD t c S') (a:S'.win=NZ) (emp:Kb S') (pre:ab N') (hb:S'.bs=pre++[NW]) (hp:(pre++[N8]) <+:S.bs) (hn:cI S'+2*pend S'.fs<=cI S+2*pend S.fs+2):C4 t c hw S S'
 |won (I:iD t c S') (a:S'.win=gV hw) (hb:S'.bs=[]) (he:(S'.ow hw).getLast?=gV []) (hn:cI S'<=cI S+2*pend S.fs):C4 t c hw S S'
theorem oZ(f:∀c∈C,au t.length c)(T:oY t C h c S)(g:S.bs.length=k+1)(U:(k:Int)+1∈c\/ -((k:Int)+1)∈c):h=!cP t k/\c≠[]/\Kb S:=by
 have s:=yg f T.I h c T.mem;have a:c≠[]:=λz=>by simp_all
 refine⟨?_,a,T.emp.elim (λz=>z.2) λz=>absurd z.1 a⟩;obtain z|⟨l,H,b,d⟩:=T.dr
 ·exact absurd z a
 have i:=C3 T.agr H (s.2 l H).1;have j:(k)+1<=absI l:=by
  obtain z|z:=U
  ·have:=d _ z;assumption
  have:=d _ z;rwa[eQ]at this
 have e:(absI l-1).toNat=k:=by lia
 simp_all
structure L9 (t:Str)(cs:ab (ab Int))(hw:N')(k:Nat)(F c:ab Int)(S:SS):Prop where
 mF:F∈S.ow hw
 okF:au t.length F
 okC:au t.length c
 both:dW F c ((k:Int)+1)=N8
 line:aO t cs hw (S.ow hw) (cH (S.ow hw) F c<|(k:Int)+1)=gV (bW F c<|(k:Int)+1)
 good:bn (cH (S.ow hw) F c<|(k:Int)+1)
 next:oY t cs hw (aq t hw<|bW F c<|(k:Int)+1) (bF t hw (cH (S.ow hw) F c<|(k:Int)+1) (bW F c<|(k:Int)+1)<|cq S)
theorem qJ(n:∀c∈C,au t.length c)(T:oY t C h c S)(d:S.bs.length=k+1)(M:(k:Int)+1∈c\/ -((k:Int)+1)∈c)(e:S.fs.getD k NZ=gV F):L9 t C h k F c S:=by
 obtain⟨B,N,O⟩:=oZ n T d M;have o:=eK (d:=N8) d;have P:(cq S).bs.length=k:=by show S.bs.dropLast.length=k;rw[PN,d];rfl
 have Q:=r_ T.I d;have U:k<t.length:=by have:=T.I.blen;lia
 have s:=yg n T.I h c T.mem;have A:Af h ((cq S).bs++[S.bs.getD k N8]) c:=by
  have:=T.agr;rw[o]at this;exact this
 have p:=T.I.fst k (by lia);unfold C1 at p;rw[e]at p;obtain⟨r,m,H,u⟩:=p;rw[<-B]at m H;rw[r]at A;have v:S.bs.take k=(cq S).bs:=by
  show _=S.bs.dropLast
  rw[T3,d];rfl
 rw[v]at H;have a:=yg n T.I h F m;have f:(k:Int)+1=((cq S).bs.length)+1:=by rw[P]
 have g:=uM f a s H A;have D:=uM f s a A H;have E:=yf f H u;have G:=yf f A M;have X:=dX a.1 s.1 g;have w:=ou a s g;have i:(aK t (!h)).contains ((k)+1)=true:=Of.mpr<|dv.mpr ⟨by lia,by lia,by rw[show((k:Int)+1-1).toNat=k by lia,B,YF]⟩;obtain⟨iF,Z⟩:=jy m;obtain⟨iC,aC⟩:=jy T.mem;have I:(S.ow h).getD ((S.ow h).idxOf F) []=F:=by rw[K',Z];rfl
 have J:(S.ow h).getD ((S.ow h).idxOf c) []=c:=by rw[K',aC];rfl
 have Y:aO t C h (S.ow h) (cH (S.ow h) F c<|(k)+1)=gV (bW F c<|(k)+1):=by
  unfold cH;cases h with
  |true=>
   have L:-((k:Int)+1)∈F:=E;have b:(k:Int)+1∈c:=G;rw[On<|Of.mpr L];unfold qH;rw[iX,m6];rw[O4,O4,I,J];refine⟨by lia,by lia,?_,Ai s.1 a.1 D g⟩;unfold e_;rw[i,Of.mpr b,Of.mpr L,D];rfl
  |false=>
   have L:(k:Int)+1∈F:=E;have b:-((k:Int)+1)∈c:=G;have WD:¬F.contains (-((k)+1))=true:=λz=>by
    have:=a.1.inj L (Of.mp z) (by rw[eQ]);lia
   rw[Oo WD];unfold qH;rw[iX,m6];rw[O4,O4,I,J];refine⟨by lia,by lia,?_,rfl⟩;unfold e_;rw[i,Of.mpr b,Of.mpr L,g];rfl
 have j:bn (cH (S.ow h) F c<|(k)+1):=by
  unfold cH
  split
  ·exact iY _ _ _
  exact iY _ _ _
 have Ep:Kb _:=O;have x:=fg (t:=t) (h:=h) (d:=cH (S.ow h) F c<|(k)+1) (c:=bW F c<|(k)+1) (S:=cq S);refine⟨m,a,s,g,Y,j,lO Q Y j,lP,?_,jB w,eW.trans T.win,lQ Ep⟩;rw[x];intro l hl;have y:=(Oj.mp hl).1;obtain⟨WX,W⟩:=(X.2 l).mp y;rw[f]at W;obtain q|q:=WX
 ·exact ki H q (a.2 l q).1 W
 exact ki A q (s.2 l q).1 W
theorem qK(d:∀c∈C,au t.length c)(T:oY t C w c S)(H:S.bs.length=k+1)(U:¬((k:Int)+1∈c\/ -((k:Int)+1)∈c)):oY t C w c (cq S):=by
 have b:=eK (d:=N8) H;have s:=yg d T.I w c T.mem;refine⟨r_ T.I H,T.mem,λl h=>?_,T.dr,T.win,T.emp⟩;have a:=T.agr;rw[b]at a;refine ki a h (s.2 l h).1 ?_;have:S.bs.dropLast.length=k:=by rw[PN,H];rfl
 show absI l≠((S.bs.dropLast.length))+1
 rw[this];intro z;obtain q|q:=C2 (by lia) z
 ·exact U<|.inl<|q▸h
 exact U<|.inr<|q▸h
theorem Aj(d:∀c∈C,au t.length c)(T:oY t C w c S)(H:S.bs.length=k+1)(U:(k:Int)+1∈c\/ -((k:Int)+1)∈c)(e:S.fs.getD k NZ=NZ):S.bs.getD k N8=N8/\iD t C (eE NW (gV c)<|cq S):=by
 obtain⟨a,g,E⟩:=oZ d T H U;have b:=eK (d:=N8) H;have l:(cq S).bs.length=k:=by show S.bs.dropLast.length=k;rw[PN,H];rfl
 have I:=r_ T.I H;have i:k<t.length:=by have:=T.I.blen;lia
 have A:Af w ((cq S).bs++[S.bs.getD k N8]) c:=by
  have:=T.agr;rwa[b]at this
 have f:=T.I.fst k (by lia);unfold C1 at f;rw[e]at f;have h:=f;rw[h]at A;refine⟨h,uN I (by lia)<|(yh I).mpr ⟨rfl,?_,?_,?_⟩⟩
 ·rw[l,<-a];exact T.mem
 ·rwa[l,<-a]
 rwa[l]
theorem uO(I:iD t c S)(H:S.bs.length=k+1):pend S.fs=pend (cq S).fs+pend [S.fs.getD k NZ]:=by
 have h:=eK (d:=NZ) (I.flen.trans H)
 conv=>lhs;rw[h]
 exact oX _ _
theorem o3(b:∀c∈C,au t.length c):∀k c S,S.bs.length=k->oY t C h c S->C4 t C h S (fQ t h k c S)
 |0,c,S,a,T=>by
  have H:=Um a;have d:c=[]:=by
   cases c with
   |nil=>rfl
   |cons l r=>
    have:=T.agr l Ou;rw[H,fL<|Oy _]at this;simp_all
  obtain⟨z,_⟩|⟨_,z,_⟩:=T.emp
  ·simp_all
  ·exact .won ⟨T.I.run,T.I.good,T.I.nd,T.I.flen,T.I.blen,T.I.fst⟩ rfl H z (by show cI S<=_;simp)
 |k+1,c,S,a,T=>by
  have f:=eK (d:=N8) a;have u:(cq S).bs.length=k:=by show S.bs.dropLast.length=k;rw[PN,a];rfl
  have m:=uO T.I a;have g:(cq S).bs <+:S.bs:=⟨_,f.symm⟩;have v:cI (cq S)=cI S:=rfl;unfold fQ;by_cases U:(c.contains ((k)+1) || c.contains (-((k)+1)))=NW
  ·rw[On U];have A:(k:Int)+1∈c\/ -((k:Int)+1)∈c:=by
    rw[QJ]at U;exact U.imp Of.mp Of.mp
   cases e:S.fs.getD k NZ with
   |none=>
    obtain⟨i,x⟩:=Aj b T a A e;show C4 t C h S _
    rw[i];refine .on x T.win (oZ b T a A).2.2 _ rfl ?_ ?_
    ·exists [];rw[Py]
     conv=>rhs;rw[f]
     rw[i];rfl
    ·show cI S+2*pend ((cq S).fs++[gV c])<=_
     rw[oX,m];have:pend [gV c]=1:=rfl;lia
   |some F=>
    have J:=qJ b T a A e;have o:pend [gV F]=1:=rfl;rw[e,o]at m;have y:=fh (t:=t) (h:=h) (d:=cH (S.ow h) F c<|(k)+1) (c:=bW F c<|(k)+1) (S:=cq S);have L:=iE (t:=t) (h:=h) (d:=cH (S.ow h) F c<|(k)+1) (c:=bW F c<|(k)+1) (S:=cq S);have s:=fg (t:=t) (h:=h) (d:=cH (S.ow h) F c<|(k)+1) (c:=bW F c<|(k)+1) (S:=cq S);have:=o3 b k _ _ (by rwa[s]) J.next;cases this with
    |on I w em p H j n=>
     rw[s]at j;rw[L]at n;exact .on I w em p H (j.trans g) (by lia)
    |won I w H d n=>
     rw[L]at n;exact .won I w H d (by lia)
  rw[Oo U];have q:¬((k:Int)+1∈c\/ -((k:Int)+1)∈c):=λz=>U (by
   rw[QJ];exact z.imp Of.mpr Of.mpr)
  have:=o3 b k c _ u<|qK b T a q;cases this with
  |on I w em p H j n=>exact .on I w em p H (j.trans g) (by lia)
  |won I w H d n=>exact .won I w H d (by lia)
end
noncomputable def cR(b:ab N')(c:ab Int):M' (ab Int):=if c.any (cC NW b)=NW then NZ else gV (c.filter λl=>decide ((b.length:Int)<absI l))
noncomputable def cw(b:ab N')(c:ab Int):ab Int:=c.filter<|cC NW b
noncomputable def o6(t:Str)(b:ab N')(c:ab Int):Int:=(((cw b c).filter λl=>cP t (absI l-1).toNat)++cw b c).headD 0
noncomputable def cD(t:Str)(b:ab N')(r c:ab Int):ab Int:=if(r.any λl=>c.contains l)=NW then r else r++[o6 t b c]
noncomputable def hU(t:Str)(c:ab (ab Int))(b:ab N'):ab Int:=c.foldl (cD t b) []
noncomputable def fY(t:Str)(c:ab (ab Int))(B:ab N'):ab Int:=(hU t c B).mergeSort λa b=>decide (absI a<=absI b)
noncomputable def hV(i:Nat):Og:=.tuple [.str aU,.int (i:Int)]
noncomputable def mJ(c:ab Int):Og:=.tuple [.str bP,i_ c]
noncomputable def dj(t:Str)(b:ab N')(c:ab Int):N':=decide (cR b (aq t N8 c)=gV [])
noncomputable def gx(t:Str)(C:ab (ab Int))(S:SS):SS:=
 if C.any (dj t S.bs)=NW then
  fQ t N8 S.bs.length (aq t N8<|C.getD (C.findIdx<|dj t S.bs) []) (bF t N8 (hV<|C.findIdx<|dj t S.bs) (C.getD (C.findIdx<|dj t S.bs) []) S)
 else if(C.all λc=>decide (cR S.bs (aq t N8 c)=NZ))=NW then
  fQ t NW S.bs.length (aq t NW<|fY t C S.bs) (bF t NW (mJ<|fY t C S.bs) (fY t C S.bs) S)
 else eE N8 NZ S
theorem kj:∀n a b,eD n (a++b)=eD n a+eD (n-a.length) b
 |n,[],b=>by simp[eD]
 |n,x::a,b=>by
  show(if x=NW then 2^n else 1)+eD _ (a++b)=(if x=NW then 2^n else 1)+eD _ a+eD (n-(a.length+1)) b
  rw[kj _ a b];lia
theorem o7:∀n a,a.length<=n->eD n a+2<=2^(n+1)
 |n,[],_=>by
  show 0+2<=_
  have:=XY (n:=n);rw[L'];lia
 |0,x::a,h=>by simp at h
 |n+1,x::a,h=>by
  have:=o7 n a (Nat.le_of_succ_le_succ h);show(if x=NW then 2^(n+1)else 1)+eD n a+2<=2^(n+1)*2
  rw[Nat.add_assoc,Nat.mul_two];exact Nat.add_le_add (by split;exact N9 _;exact Nat.one_le_two_pow) this
theorem C5(h:(p++[N8]) <+:b)(H:b.length<=n):eD n b<eD n (p++[NW]):=by
 obtain⟨r,rfl⟩:=h;rw[N0,N0,OM]at H;rw[O6,kj n p _,kj n p _];have e:eD (n-p.length) ([N8]++r)=1+eD _ r:=rfl;have E:eD (n-p.length) [NW]=2^(n-p.length):=by rfl
 have:=o7 (n-p.length-1) r (by omega);rw[show n-p.length-1+1=n-p.length by lia]at this;lia
section
variable {S:SS}
theorem uP(k:au t.length c)(h:dj t b c=NW):Af N8 b (aq t N8 c):=by
 have H:=Oh h;have a:=gL (t:=t) (w:=N8) k;unfold cR at H
 split at H
 ·cases H
 intro l f;have i:cC NW b l=false:=by
  simp_all
 have m:=(a.2 l f).1;have o:absI l<=(b.length):=by
  simp_all
 unfold cC at i ⊢;rw[N1 (by lia)]at i ⊢;simp_all
theorem lR(c:1<=absI a)(h:cC NW B a=NW)(H:cC NW B b=NW)(e:absI a=absI b):a=b:=by
 obtain z|z:=gJ e
 ·exact z
 subst z;obtain⟨p,q⟩|⟨p,q⟩:=aI a
 ·exact(iT (Int.le_trans c (Int.le_of_eq q)) h H).elim
 exact(iT (Int.le_trans c (Int.le_of_eq q)) H<|by rwa[Tg]).elim
theorem Gi(h:∃l∈c,cC NW b l=NW):o6 t b c∈c/\cC NW b (o6 t b c)=true:=by
 have H:cw b c≠[]:=by
  obtain⟨l,a,d⟩:=h;exact X1<|Oj.mpr ⟨a,d⟩
 have m:o6 t b c∈cw b c:=by
  unfold o6;cases e:(cw b c).filter _ with
  |nil=>
   cases g:cw b c with
   |nil=>exact absurd g H
   |cons x r=>exact Ou
  |cons x r=>
   have:x∈(cw b c).filter λl=>cP t (absI l-1).toNat:=by rw[e];exact Ou
   exact(Oj.mp this).1
 exact Oj.mp m
structure ChOk (bs:ab N')(cs:ab (ab Int))(Ri:ab Int):Prop where
 st:∀l∈Ri,cC NW bs l=NW/\∃c∈cs,l∈c
 hit:∀c∈cs,∃l∈Ri,l∈c
 nd:Ri.Nodup
theorem ChOk.step(h:ChOk B D r)(e:∃l∈c,cC NW B l=NW):ChOk B (D++[c]) (cD t B r c):=by
 unfold cD
 split
 ·rename_i g;obtain⟨l,H,d⟩:=OC.mp g;refine⟨λl H=>⟨(h.st l H).1,let ⟨C,a,b⟩:=(h.st l H).2;⟨C,Qc _ a,b⟩⟩,λC X=>?_,h.nd⟩;obtain z|z:=Os.mp X
  ·exact h.hit C z
  rw[Ob.mp z];exact⟨l,H,Of.mp d⟩
 rename_i g;obtain⟨p,P⟩:=Gi e;refine⟨λl H=>?_,λC X=>?_,?_⟩
 ·obtain z|z:=Os.mp H
  ·exact⟨(h.st l z).1,let ⟨C,a,b⟩:=(h.st l z).2;⟨C,Qc _ a,b⟩⟩
  rw[Ob.mp z];exact⟨P,c,O9 _<|Ob.mpr rfl,p⟩
 ·obtain z|z:=Os.mp X
  ·obtain⟨l,a,b⟩:=h.hit C z;exact⟨l,Qc _ a,b⟩
  rw[Ob.mp z];exact⟨_,O9 _<|Ob.mpr rfl,p⟩
 rw[Qa];refine⟨h.nd,by simp,λx f y i z=>g ?_⟩;rw[Ob.mp i]at z;exact OC.mpr ⟨x,f,Of.mpr<|z▸p⟩
theorem lS{t:Str}{C:ab (ab Int)}(h:∀c∈C,∃l∈c,cC NW b l=NW):∀k,k<=C.length->ChOk b (C.take k) ((C.take k).foldl (cD t b) [])
 |0,_=>⟨λ_ z=>(nomatch z),λ_ z=>(nomatch z),Sr⟩
 |k+1,a=>by
  have H:=aE (d:=([])) ‹_›;rw[OJ,H];rw[Vw];exact(lS h k<|YB a).step<|h _<|N5 H
theorem eN(h:∀c∈C,∃l∈c,cC NW b l=NW):ChOk b C (hU t C b):=by
 have:=lS (t:=t) h _<|N9 _;rwa[Oi<|N9 _]at this
theorem eH:l∈fY t c b↔l∈hU t c b:=List.mem_mergeSort
theorem yi(H:∀c∈s,au t.length c)(h:∀c∈s,∃l∈c,cC NW B l=NW):Ups (fY t s B):=by
 have C:=eN (t:=t) h;refine rD ?_ ((SD _ _).nodup_iff.mpr C.nd) λa d b f e=>?_
 ·rw[Pq];have:=Tf (le:=λa b:Int=>decide (absI a<=absI b)) (by lia) (by lia)<|hU t s B;exact this.imp λh=>Oh h
 obtain⟨A,j,D,E⟩:=C.st a<|eH.mp d;obtain⟨k,z⟩:=C.st b<|eH.mp f;exact lR ((H j D).2 a E).1 A k e
theorem se(H:∀c∈C,au t.length c)(h:∀c∈C,∃l∈c,cC NW B l=NW):au t.length (fY t C B):=
 ⟨yi H h,λl d=>let ⟨_,c,a,b⟩:=(eN h).st l<|eH.mp d;(H c a).2 l b⟩
theorem uQ(H:∀c∈C,au t.length c)(h:∀c∈C,∃l∈c,cC NW B l=NW)(O:ab (ab Int)):aO t C NW O (mJ<|fY t C B)=gV (fY t C B):=by
 unfold mJ;rw[lM];unfold mB;rw[FJ<|se H h,BQ];have:ut (fY t C B) C=true:=O2.mpr λc X=>by
  obtain⟨l,a,b⟩:=(eN h).hit c X;exact OC.mpr ⟨l,eH.mpr a,Of.mpr b⟩
 rw[this];rfl
theorem mK(h:cR b (aq t N8 c)=NZ):∃l∈c,cC NW b l=true:=by
 unfold cR at h
 split at h
 ·rename_i g;obtain⟨l,H,a⟩:=OC.mp g;exact⟨l,(Oj.mp H).1,a⟩
 simp_all
structure kn (t:Str)(cs:ab (ab Int))(S:SS):Prop where
 I:iD t cs S
 win:S.win=NZ
 emp:Kb S
 few:cI S+2*pend S.fs<=4*eD t.length S.bs
structure EU (t:Str)(cs:ab (ab Int))(S:SS):Prop where
 I:iD t cs S
 hb:S.bs=[]
 hw:∃hw,S.win=gV hw/\(S.ow hw).getLast?=gV []
 few:cI S<=4*2^(t.length+1)
theorem uR(b:∀c∈C,au t.length c)(e:t.length<=18)(L:kn t C S):(kn t C (gx t C S)/\eD t.length S.bs<eD t.length (gx t C S).bs)\/EU t C (gx t C S):=by
 have v:=L.few;have G:=o7 t.length S.bs L.I.blen;have X:∀h d c,aO t C h (S.ow h) d=gV c->bn d->au t.length c->Af h S.bs (aq t h c)->
   (kn t C (fQ t h S.bs.length (aq t h c)<|bF t h d c S)/\eD t.length S.bs<eD t.length (fQ t h S.bs.length (aq t h c)<|bF t h d c S).bs)\/EU t C (fQ t h S.bs.length (aq t h c)<|bF t h d c S):=by
  intro h d c f x H O;have T:oY t C h (aq t h c) (bF t h d c S):=⟨lO L.I f x,lP,by rw[fg];exact O,jB H,eW.trans L.win,lQ L.emp⟩;have y:=fh (t:=t) (h:=h) (d:=d) (c:=c) (S:=S);have s:=iE (t:=t) (h:=h) (d:=d) (c:=c) (S:=S);have i:=fg (t:=t) (h:=h) (d:=d) (c:=c) (S:=S);cases o3 b S.bs.length _ _ (by rw[i]) T with
  |on I w em P m u n=>
   rw[i]at u;rw[s]at n;have U:=C5 u L.I.blen;rw[<-m]at U;exact .inl ⟨⟨I,w,em,by lia⟩,U⟩
  |won I w m B n=>
   rw[s]at n;exact .inr ⟨I,m,⟨h,w,B⟩,by lia⟩
 unfold gx;by_cases j:C.any (dj t S.bs)=NW
 ·rw[On j];have o:C.findIdx (dj t S.bs)<C.length:=TJ<|OC.mp j;have D:=aE (d:=([]:ab Int)) o;have p:dj t S.bs (C.getD (C.findIdx<|dj t S.bs) [])=true:=by
   have:=W7 (w:=o) (p:=dj t S.bs) (xs:=C);simp_all
  have H:=b _<|N5 D;refine X N8 _ _ ?_ (.inl ⟨_,rfl⟩) H<|uP H p;unfold hV;rw[hO,Oo N6];unfold ju;rw[gM (by simp_all),O4];rfl
 rw[Oo j];by_cases k:(C.all λc=>decide (cR S.bs (aq t N8 c)=NZ))=NW
 ·rw[On k];have r:∀c∈C,∃l∈c,cC NW _ l=true:=λc Z=>mK<|Oh<|O2.mp k c Z;have H:=se b r;refine X NW _ _ (uQ b r _) (.inr<|.inl ⟨_,?_,rfl⟩) H λl f=>?_
  ·have:=bv H;lia
  exact((eN r).st l<|eH.mp (Oj.mp f).1).1
 rw[Oo k];have Q:S.bs.length<t.length:=by
  obtain g|g:=UN _ _
  ·exact g
  refine absurd (O2.mpr λc Z=>?_) k;rw[O5];have W:dj t S.bs c=false:=by
   simp_all
  have a:¬cR _ _=gV []:=UU W;have A:=gL (t:=t) (w:=N8)<|b c Z;unfold cR at a ⊢
  split
  ·rfl
  rename_i q;rw[Oo q]at a;refine absurd (O1 gV<|Rl.mpr λl f=>?_) a;have:=(A.2 l f).2;lia
 refine .inl ⟨⟨uN L.I Q<|(yh L.I).mpr rfl,L.win,L.emp,?_⟩,?_⟩
 ·show cI S+2*pend (S.fs++[NZ])<=4*eD _ (S.bs++[N8])
  have J:pend [(NZ:M' _)]=0:=rfl;rw[oX,kj];lia
 show eD _ _<eD _ (S.bs++[N8])
 have E:eD (t.length-S.bs.length) [N8]=1:=rfl;rw[kj];simp_all
noncomputable def o8:SS:=⟨λ_=>[],λ_=>[],[],[],NZ⟩
theorem qL:kn t c o8:=⟨⟨λy=>rfl,λy y z=>(nomatch z),λy=>Sr,rfl,Oy _,λk h=>(nomatch h)⟩,rfl,λy z=>(nomatch z),Oy _⟩
noncomputable def tu(t:Str)(c:ab (ab Int)):Nat->SS->SS
 |0,S=>S
 |k+1,S=>if S.win.isSome=NW then S else tu t c k (gx t c S)
theorem C6(H:∀c∈C,au t.length c)(a:t.length<=18):∀k S,kn t C S->(kn t C (tu t C k S)/\eD t.length S.bs+k<=eD t.length (tu t C k S).bs)\/EU t C (tu t C k S)
 |0,S,L=>.inl ⟨L,N9 _⟩
 |k+1,S,L=>by
  unfold tu;rw[Oo<|by rw[L.win];exact N6];obtain⟨l,h⟩|W:=uR H a L
  ·obtain⟨L2,b⟩|W:=C6 H a k _ l
   ·exact .inl ⟨L2,by lia⟩
   exact .inr W
  have:tu t C k (gx t C S)=gx t C S:=by
   cases k with
   |zero=>rfl
   |succ k=>
    unfold tu;obtain⟨w,e,z⟩:=W.hw;simp_all
  rw[this];exact .inr W
theorem Kd(H:∀c∈C,au t.length c)(a:t.length<=18){S:SS}(L:kn t C S)(b:2^(t.length+1)<=eD t.length S.bs+k):EU t C (tu t C k S):=by
 obtain⟨l,h⟩|W:=C6 H a k S L
 ·have:=o7 _ _ l.I.blen;lia
 exact W
end
noncomputable abbrev HI:Pn:=cW (b9 76) 1
noncomputable abbrev yj:Pn:=cW (b9 76) 2
noncomputable abbrev C7:Pn:=cW (b9 76) 3
structure pS (K:C')(mg:Str->M' NX)(CS:J'):Prop where
 len:mg "len"=NZ
 list:mg "list"=NZ
 cl:Cls K CS
 nS:NoAttr K CS "sentence"
 nL:NoAttr K CS "lines"
 nP:NoAttr K CS "places"
 nB:NoAttr K CS "begun"
 nF:NoAttr K CS "firsts"
 nR:NoAttr K CS "rests"
 nW:NoAttr K CS "winner"
 g_WISHER:mw mg "WISHER" (.str<|N_ "wisher")
 g_SPOILER:mw mg "SPOILER" (.str<|N_ "spoiler")
noncomputable def jC(l:N'->J'):ab (aR×V):=[(Sb<|ao N8,.ref<|l N8),(Sb<|ao NW,.ref<|l NW)]
theorem fR(h:H d=gV (.dK<|jC l))(b:N'):DGet H d (.str<|ao b) (gV<|.ref<|l b):=by
 have e:bL (jC l) (Sb<|ao b)=gV (.ref<|l b):=by
  cases b<;>rfl
 rw[<-e];exact DGet.k (k:=Sb<|ao b) h
structure SA where
 x:J'
 dx:J'
 p:J'
 q:J'
 dl:J'
 dp:J'
 b:J'
 f:J'
 r:J'
 ll:N'->J'
 pp:N'->J'
 far:J'->Prop
def SA.own(A:SA)(a:J'):Prop:=a=A.x\/a=A.b\/a=A.f\/a=A.r\/∃h,a=A.ll h\/a=A.pp h
def SA.taken(A:SA)(a:J'):Prop:=A.own a\/A.far a
def Mv(A:SA)(H h:Hp):Prop:=∀a o,¬A.own a->H a=gV o->h a=gV o
theorem Mv.of(k:Same H h):Mv A H h:=λa o z e=>k a o e
theorem Mv.trans(k:Mv A H b)(j:Mv A b h):Mv A H h:=λa o n e=>j a o n<|k a o n e
theorem Mv.upd(k:Mv A H c)(h:A.own a)(o:HO):Mv A H (upd c a o):=λb u n e=>by
 rw[af λz=>n<|by rwa[z]];exact k b u n e
def TupS(H h:Hp):Prop:=∀a x,H a=gV (.tup x)->h a=gV (.tup x)
theorem TupS.of(k:Same H h):TupS H h:=λa z e=>k a _ e
theorem TupS.trans(k:TupS H b)(j:TupS b h):TupS H h:=λa x e=>j a x<|k a x e
theorem TupS.cl(k:TupS H a)(h:CL H c v):CL a c v:=let ⟨t,e,z⟩:=h;⟨t,e,k _ _ z⟩
theorem TupS.cls(k:TupS H a):∀{c:ab (ab Int)} {x:ab V},CLs H c x->CLs a c x
 |_,_,.nil=>.nil
 |_,_,.cons h t=>.cons (k.cl h)<|TupS.cls k t
theorem TupS.good(k:TupS H D)(g:bn d)(h:RD H d v):RD D d v:=by
 obtain⟨n,rfl⟩|⟨c,E,rfl⟩|⟨n,rfl⟩|⟨i,j,z,rfl⟩:=g
 ·obtain⟨a,Z,rfl,f,l⟩:=al h;exact bx (k _ _ f)<|‹_›
 ·obtain⟨a,Z,rfl,f,l⟩:=al h;obtain⟨Y,q,rfl,m,B⟩:=aj l;obtain⟨t,o,rfl,A,b⟩:=aj B;have e:o=[]:=by assumption
  subst e;obtain⟨p,u,rfl,w,s⟩:=al A;refine bx (k _ _ f)<|ai (iz m)<|ai (bx (k _ _ w) ?_) aM;clear w A l f h B E b
  induction c generalizing u with
  |nil=>
   assumption
  |cons x c I=>
   obtain⟨y,r,rfl,Q,F⟩:=aj s;exact ai (fO Q)<|I r F
 ·obtain⟨a,Z,rfl,f,l⟩:=al h;exact bx (k _ _ f)<|‹_›
 obtain⟨a,Z,rfl,f,l⟩:=al h;exact bx (k _ _ f)<|‹_›
theorem TupS.goods(k:TupS H c):∀{D:ab Og} {v:ab V},(∀d∈D,bn d)->dH H D v->dH c D v
 |[],v,_,h=>by
  assumption
 |d::D,v,g,h=>by
  obtain⟨y,Y,rfl,a,b⟩:=aj h;exact ai (k.good (g d Ou) a)<|TupS.goods k (λf i=>g f<|Ow _ i) b
def mP(H:Hp):M' (ab Int)->V->Prop
 |none,v=>v=.non
 |some c,v=>CL H c v
def iG(H:Hp):ab (M'<|ab Int)->ab V->Prop:=Paired<|mP H
theorem TupS.opt(k:TupS H a)(h:mP H o v):mP a o v:=by
 cases o with
 |none=>exact h
 |some c=>exact k.cl h
theorem TupS.opts(k:TupS H a):∀{os:ab (M'<|ab Int)} {x:ab V},iG H os x->iG a os x:=λh=>Paired.mapP h λz z=>k.opt
noncomputable def cj(t:Str)(C:ab (ab Int))(b:ab N'):ab (M'<|ab Int):=C.map λc=>cR b<|aq t N8 c
structure Rsts (A:SA)(t:Str)(cs:ab (ab Int))(bs:ab N')(H:Hp)(vs:ab V):Prop where
 len:vs.length=bs.length+1
 at_:∀(k:Nat) (v:V),vs[k]?=gV v->∃a ws,v=.ref a/\H a=gV (.lst ws)/\¬A.taken a/\iG H (cj t cs<|bs.take k) ws
theorem mQ{b:Type} [Uo b] {s:ab (b×V)}{k:b}{v:V}(h:bL s k=NZ):(c9 s k v).length=s.length+1:=by
 unfold c9;have H:s.any (λa=>decide (a.1=k))=false:=by
  cases e:s.any _ with
  |false=>rfl
  |true=>
   obtain⟨a,c,d⟩:=OC.mp e;have:=Q3.mp (Option.map_eq_none_iff.mp h) a c;exact absurd d this
 first
  |(rw[H];simp)
  |(simp )
def Ke(D:ab (ab aR×V))(O:ab (ab Int)):Prop:=D.length=O.length/\∀c:ab Int,bL D (hG c)=if c∈O then gV (.int ((O.idxOf c:Nat):Int))else NZ
noncomputable def sh:M' N'->V
 |none=>.non
 |some h=>.str<|ao h
noncomputable def uS(A:SA)(w:V):ab (Str×V):=[("sentence",.ref A.p),("lines",.ref A.dl),("places",.ref A.dp),("begun",.ref A.b),("firsts",.ref A.f),("rests",.ref A.r),("winner",w)]
structure SrAt (CS:J')(A:SA)(t:Str)(cs:ab (ab Int))(S:SS)(H:Hp):Prop where
 hx:H A.x=gV (.ins CS A.dx<|uS A<|sh S.win)
 hp:H A.p=gV (.tup [.str t,.ref A.q])
 hq:∃xs,H A.q=gV (.lst xs)/\CLs H cs xs
 hl:H A.dl=gV (.dK<|jC A.ll)
 hd:H A.dp=gV (.dK<|jC A.pp)
 l:∀h,∃vs,H (A.ll h)=gV (.lst vs)/\dH H (S.lw h) vs
 d:∀h,∃D,H (A.pp h)=gV (.dT D)/\Ke D (S.ow h)
 b:H A.b=gV (.lst<|S.bs.map V.bl)
 f:∃vs,H A.f=gV (.lst vs)/\iG H S.fs vs
 r:∃vs,H A.r=gV (.lst vs)/\Rsts A t cs S.bs H vs
 nq:¬A.taken A.q
 nd:[A.b,A.f,A.r,A.ll N8,A.ll NW].Nodup
 np:A.pp N8≠A.pp NW
 good:∀h,∀d∈S.lw h,bn d
 len:∀h,(S.ow h).length=(S.lw h).length
 far:∀a,A.far a->¬A.own a/\∃o,H a=gV o
section
variable {S:SS}
theorem SrAt.own_ty(h:SrAt C A t s S H)(c:A.own a):(∃w,H a=gV (.ins C A.dx<|uS A w))\/(∃v,H a=gV (.lst v))\/∃D,H a=gV (.dT D):=by
 obtain rfl|rfl|rfl|rfl|⟨z,rfl|rfl⟩:=c
 ·exact .inl ⟨_,h.hx⟩
 ·exact .inr<|.inl ⟨_,h.b⟩
 ·obtain⟨v,e,y⟩:=h.f;exact .inr<|.inl ⟨_,e⟩
 ·obtain⟨v,e,y⟩:=h.r;exact .inr<|.inl ⟨_,e⟩
 ·obtain⟨v,e,y⟩:=h.l z;exact .inr<|.inl ⟨_,e⟩
 obtain⟨v,e,y⟩:=h.d z;exact .inr<|.inr ⟨_,e⟩
theorem SrAt.ntup(h:SrAt C A t c S H)(e:H a=gV (.tup x)):¬A.own a:=λz=>by
 obtain⟨y,g⟩|⟨y,g⟩|⟨y,g⟩:=h.own_ty z<;>rw[e]at g<;>cases g
theorem SrAt.ndk(h:SrAt C A t c S H)(e:H a=gV (.dK k)):¬A.own a:=λz=>by
 obtain⟨y,g⟩|⟨y,g⟩|⟨y,g⟩:=h.own_ty z<;>rw[e]at g<;>cases g
theorem SrAt.tups(h:SrAt C A t s S H)(m:Mv A H c):TupS H c:=λa x e=>m a _ (h.ntup e) e
theorem SrAt.make(h:SrAt C A t s S H)(m:Mv A H c)(x:c A.x=gV (.ins C A.dx<|uS A<|sh S'.win))(l:∀z,∃v,c (A.ll z)=gV (.lst v)/\dH c (S'.lw z) v)(d:∀z,∃D,c (A.pp z)=gV (.dT D)/\Ke D (S'.ow z))
  (b:c A.b=gV (.lst<|S'.bs.map V.bl)) (f:∃v,c A.f=gV (.lst v)/\iG c S'.fs v) (r:∃v,c A.r=gV (.lst v)/\Rsts A t s S'.bs c v) (g:∀z,∀d∈S'.lw z,bn d) (L:∀z,(S'.ow z).length=(S'.lw z).length):SrAt C A t s S' c:=by
 have k:=h.tups m;obtain⟨X,q,Q⟩:=h.hq;exact⟨x,k _ _ h.hp,⟨X,m _ _ (λz=>h.nq<|.inl z) q,k.cls Q⟩,m _ _ (h.ndk h.hl) h.hl,m _ _ (h.ndk h.hd) h.hd,l,d,b,f,r,h.nq,h.nd,h.np,g,L,λa z=>let ⟨n,o,e⟩:=h.far a z;⟨n,o,m _ _ n e⟩⟩
theorem Rsts.mono(r:Rsts A t c b H s)(m:Mv A H h)(k:TupS H h):Rsts A t c b h s:=
 ⟨r.len,λi v e=>let ⟨a,w,d,f,E,g⟩:=r.at_ i v e;⟨a,w,d,m _ _ (λz=>E<|.inl z) f,E,k.opts g⟩⟩
theorem SrAt.same(h:SrAt C A t c S H)(k:Same H a):SrAt C A t c S a:=
 h.make (.of k) (k _ _ h.hx) (λz=>let ⟨v,e,g⟩:=h.l z;⟨v,k _ _ e,(TupS.of k).goods (h.good z) g⟩) (λz=>let ⟨D,e,g⟩:=h.d z;⟨D,k _ _ e,g⟩) (k _ _ h.b) (let ⟨v,e,g⟩:=h.f;⟨v,k _ _ e,(TupS.of k).opts g⟩) (let ⟨v,e,g⟩:=h.r;⟨v,k _ _ e,g.mono (.of k)<|.of k⟩) h.good h.len
structure NH (A:SA):Prop where
 bf:A.b≠A.f
 br:A.b≠A.r
 fr:A.f≠A.r
 lb:∀z,A.ll z≠A.b
 lf:∀z,A.ll z≠A.f
 lr:∀z,A.ll z≠A.r
 ll:A.ll N8≠A.ll NW
theorem SrAt.nes(h:SrAt m A t s S H):NH A:=by
 have:=h.nd;simp only[PJ,Oz,QP,Ui,not_or]at this;obtain⟨⟨a,c,e,g⟩,⟨B,i,j⟩,⟨C,k⟩,D,y⟩:=this;exact⟨a,c,B,(λz=>by cases z;exact P0 e;exact P0 g),(λz=>by cases z;exact P0 i;exact P0 j),(λz=>by cases z;exact P0 C;exact P0 k),D⟩
theorem Nr(h:NH A)(e:a≠b):A.ll a≠A.ll b:=by
 cases a<;>cases b
 ·exact absurd rfl e
 ·exact h.ll
 ·exact λz=>h.ll z.symm
 simp_all
theorem SrAt.ne_p(h:SrAt C A t c S H){a b:N'}(e:a≠b):A.pp a≠A.pp b:=by
 cases a<;>cases b
 ·exact absurd rfl e
 ·exact h.np
 ·exact λz=>h.np z.symm
 simp_all
end
inductive wy (C:J')(vs:ab V)(H:Hp)(Q:VK)(E:XK):Prop
 |mk (A:SA)(t:Str)(s:ab (ab Int))(S:SS)(hw:N')(v u:V)(d:Og)(c:ab Int)(h0:vs=[.ref A.x,.str<|ao hw,v,u])(h:SrAt C A t s S H)(b:RD H d v)(g:bn d)(e:CL H c u)(hn:cI S<=9000)(q:∀a,SrAt C A t s (eB hw d c S) a->Mv A H a->Q .non a)
theorem uT(S:SS)(h:N'):(S.lw h).length<=cI S:=by
 unfold cI;cases h<;>lia
theorem Gj(F:Fun K "put" "Searcher.put" HI f fd)(T:pS K mg I):ay P w K mg aC a_ 1 f fd ["self","hand","line","literals"] (wy I):=by
 refine F.okB (N:=["self","hand","line","literals"]) λQC A an s H k Q E sc hr h=>?_;obtain⟨B,t,cs,S,b,v,u,d,c,rfl,h,hv,hg,as,hn,q⟩:=h;have hu:=hr.units;have G:=mv hr;obtain⟨tc,rfl,Q7⟩:=as;obtain⟨D,m,av,r⟩:=h.d b;obtain⟨l,i,J⟩:=h.l b;have aF:=uT S b;have P1:=h.len b;have aL:=du J;have L:H tc=gV (.tup<|(hG c).map kV):=by rw[lK];exact Q7
 have M:=DGet.t m L;rw[r c]at M;refine⟨_,(ar (aQ (kU<|lc G (pv 3)<|bH G gg (pv 1) λg g=>rfl) (ae (rn G (bH G gg (pv 1) λg g=>rfl) (pv 3) (aN ca rfl T.len P5<|fC<|bH G gg (pv 1) λg g=>rfl) rfl)
   (ar<|dm<|gG Ph P8 Qh dS (bH G gg (pv 1) λg g=>rfl)<|fC<|pv 2)) ax)),?_⟩
 exists _,rfl,_,rfl,B.x,I,B.dx,_,_,rfl,h.hx,T.cl,T.nP,rfl,_,rfl,B.dp,_,rfl,fR h.hd b,B.pp b,_,rfl,M,_,rfl;by_cases p:c∈S.ow b
 ·rw[On p];refine ak<|q H ?_<|.of<|Same.refl _;rw[jA p];exact h
 rw[Oo p];refine ap ?_;exists _,rfl,B.x,I,B.dx,_,_,rfl,h.hx,T.cl,T.nL,rfl,_,rfl,B.dl,_,rfl,fR h.hl b,.ref<|B.ll b,_,rfl,.inl ⟨_,SqL.of i,rfl⟩;exists _,rfl,B.x,I,B.dx,_,_,rfl,h.hx,T.cl,T.nP,rfl,_,rfl,B.dp,_,rfl,fR h.hd b,_,rfl,B.pp b,_,rfl,DPut.t m L (cK<|by lia);have oP:B.own (B.pp b):=.inr<|.inr<|.inr<|.inr ⟨b,.inr rfl⟩;have oL:B.own (B.ll b):=.inr<|.inr<|.inr<|.inr ⟨b,.inl rfl⟩;have m1:Mv B H (upd H (B.pp b)<|.dT<|c9 D (hG c)<|.int (l.length:Nat)):=(Mv.of<|Same.refl H).upd oP _;have O:B.pp b≠B.ll b:=bq m i (by intro z;cases z);have X:∀a o,H a=gV o->a≠B.pp b->upd H (B.pp b) (.dT<|c9 D (hG c)<|.int (l.length:Nat)) a=gV o:=λa o e n=>by rw[af n];exact e
 have s1:=@aa H (B.pp b) (.dT<|c9 D (hG c)<|.int (l.length:Nat));generalize upd H (B.pp b) (.dT<|c9 D (hG c)<|.int (l.length:Nat))=U at m1 X s1 ⊢;have nx:B.x≠B.pp b:=bq h.hx m (by simp);have az:=X _ _ h.hx nx;have Yb:=X _ _ h.hl (bq h.hl m<|by simp);have W:=X _ _ i<|P0 O;have k1:=h.tups m1;exists _,rfl,B.x,I,B.dx,_,_,rfl,az,T.cl,T.nL,rfl,_,rfl,B.dl,_,rfl,fR Yb b,.inl ⟨rfl,_,SqL.of W⟩,_,rfl,B.ll b,l,v,rfl,rfl,W,cK (by lia);have Y:Mv B H (upd U (B.ll b)<|.lst<|l++[v]):=m1.upd oL _;have x:∀a o,H a=gV o->a≠B.pp b->a≠B.ll b->upd U (B.ll b) (.lst<|l++[v]) a=gV o:=λa o e n n2=>by rw[af n2];exact X a o e n
 have s2:=@aa U (B.ll b) (.lst<|l++[v]);have s3:upd U (B.ll b) (.lst<|l++[v]) (B.pp b)=gV (.dT<|c9 D (hG c)<|.int (l.length:Nat)):=by rw[af O];exact s1
 generalize upd U (B.ll b) (.lst<|l++[v])=H2 at Y x s2 s3 ⊢;have Z:=h.tups Y;have N:=h.nes;refine q H2 (h.make (S':=eB b d c S) Y ?_ ?_ ?_ ?_ ?_ ?_ ?_ ?_) Y
 ·rw[eY];exact x _ _ h.hx nx (by lia)
 ·intro z;rw[eP p];show∃k,H2 (B.ll z)=gV (.lst k)/\dH H2 (di S.lw b d z) k
  by_cases e:z=b
  ·subst e;rw[bp];exact⟨_,s2,oM (Z.goods (h.good z) J)<|ai (Z.good hg hv) aM⟩
  rw[cG _ _ e];obtain⟨k,j,C⟩:=h.l z;exact⟨k,x _ _ j (bq j m<|by intro z;cases z)<|Nr N e,Z.goods (h.good z) C⟩
 ·intro z;rw[eP p];show∃D,H2 _=gV _/\Ke D (di _ b c z)
  by_cases e:z=b
  ·subst e;rw[bp];refine⟨_,s3,?_,λc'=>?_⟩
   ·have Wn:bL D (hG c)=none:=by simp_all
    rw[mQ Wn,N0,av];rfl
   rw[tO];by_cases e:c'=c
   ·subst e;rw[On<|O9 _<|Ob.mpr rfl,YD];simp_all
   rw[Oo λz=>e<|fy.mp z,r c'];grind
  rw[cG _ _ e];obtain⟨D',j,C⟩:=h.d z;exact⟨D',x _ _ j (h.ne_p e) (bq j i<|by intro z;cases z),C⟩
 ·rw[fx];exact x _ _ h.b (bq h.b m<|by simp)<|P0<|N.lb b
 ·rw[gs];obtain⟨k,j,C⟩:=h.f;exact⟨k,x _ _ j (bq j m<|by intro z;cases z)<|P0<|N.lf b,Z.opts C⟩
 ·rw[fx];obtain⟨k,j,C⟩:=h.r;exact⟨k,x _ _ j (bq j m<|by intro z;cases z)<|P0<|N.lr b,C.mono Y Z⟩
 ·intro z d' am;rw[eP p]at am;have X_:d'∈di _ b d z:=am;by_cases e:z=b
  ·subst e;rw[bp]at X_;obtain y|y:=Os.mp X_
   ·exact h.good z d' y
   simp_all
  rw[cG _ _ e]at X_;exact h.good z d' X_
 intro z;rw[eP p];show(di _ b c z).length=(di _ b d z).length
 by_cases e:z=b
 ·subst e;rw[bp,bp,N0,N0,h.len z];rfl
 rw[cG _ _ e,cG _ _ e];exact h.len z
inductive iH (C:J')(vs:ab V)(H:Hp)(Q:VK)(E:XK):Prop
 |mk (A:SA)(t:Str)(s:ab (ab Int))(S:SS)(hw:N')(v u:V)(d:Og)(c:ab Int)(h0:vs=[.ref A.x,.str<|ao hw,v,u])(h:SrAt C A t s S H)(e:RD H d v)(g:bn d)(f:CL H c u)(hok:au t.length c)(ht:t.length<=18)(hn:cI S<=8900)(q:∀a b,SrAt C A t s (bF t hw d c S) b->Mv A H b->jg b a (aq t hw c)->Q (.ref a) b)
inductive si (C:J')(vs:ab V)(H:Hp)(Q:VK)(E:XK):Prop
 |mk (A:SA)(t:Str)(s:ab (ab Int))(S:SS)(hw:N')(u U:V)(F c:ab Int)(z:Int)(h0:vs=[.ref A.x,.str<|ao hw,u,U,.int z])(h:SrAt C A t s S H)(d:CL H F u)(e:CL H c U)(mF:F∈S.ow hw)(m:c∈S.ow hw)(okF:au t.length F)(okC:au t.length c)(hb:dW F c z=N8)(ht:t.length<=18)(hn:cI S<=8900)(q:∀a b,SrAt C A t s (bF t hw (cH (S.ow hw) F c z) (bW F c z) S) b->Mv A H b->jg b a (aq t hw<|bW F c z)->Q (.ref a) b)
theorem C8(h:H a=gV (.tup [.str aB,.int (k:Int)])):RD H (oV k) (.ref a):=bx h<|ai (c_ _)<|ai (bO _) aM
theorem uU(h:H a=gV (.tup [.str bi,.int (i:Int),.int (j:Int),.int z])):RD H (qH i j z) (.ref a):=bx h<|ai (c_ _)<|ai (bO _)<|ai (bO _)<|ai (bO _) aM
theorem Ak(F:Fun K "learn" "Searcher.learn" yj f Z)(T:pS K M C)(WG:Fe P w K M e 3 "dropped" eJ)(n:tp P w K M e a_ 1 C "put" g2 e2 ["self","hand","line","literals"] (wy C)):ay P w K M e a_ 4 f Z ["self","hand","line","literals"] (iH C):=by
 refine F.okB (N:=["self","hand","line","literals","left"]) λQC A o s H vs Q E sc r h=>?_;obtain⟨B,t,J,S,b,v,u,d,c,rfl,h,hv,hg,p,k,ht,hn,q⟩:=h;have N:=mv r;obtain⟨l,rfl,x⟩:=p;have TQ:=bv k;refine⟨_,(ae gg
  (ae gg
  (ae (dm<|jW n (pv 0) r (by simp)<|aV (pv 1)<|kT (dZ<|kT ii<|bH N (bH N gg (pv 1) λV V=>rfl) (pv 3) λV V=>rfl)<|pv 4)
  (cQ<|pv 4)))),?_⟩
 refine⟨_,rfl,B.x,C,B.dx,_,_,rfl,h.hx,T.cl,T.nS,rfl,_,rfl,_,rfl,B.p,l,t,_,b,c,rfl,h.hp,(by lia),x,(by lia),k.2,λL H1 g Zy=>?_⟩;have y:=h.same g;refine⟨_,rfl,B.x,B.dx,_,rfl,y.hx,rfl,_,rfl,_,rfl,_,rfl,B,t,J,S,b,v,.ref l,d,c,rfl,y,dw g _ _ hv,hg,⟨l,rfl,g _ _ x⟩,(by lia),λz i U=>?_⟩;have W:=y.tups U;have Xx:=W _ _<|g _ _ x;have O:=W _ _ Zy;have hm:c∈(eB b d c S).ow b:=m7;obtain⟨D,hD,ac,G⟩:=i.d b;have I:z l=gV (.tup<|(hG c).map kV):=by rwa[lK]
 have j:=DGet.t hD I;rw[G c,On hm]at j;refine⟨_,rfl,B.x,B.dx,_,rfl,i.hx,rfl,_,rfl,_,rfl,B.x,C,B.dx,_,_,rfl,i.hx,T.cl,T.nP,rfl,_,rfl,B.dp,_,rfl,fR i.hd b,_,rfl,B.pp b,_,rfl,j,(by show 2<=sizeLine;decide),λa na=>?_⟩;have m:=ad na<|.tup [.str aB,.int (((eB b d c S).ow b).idxOf c)];have X:=i.same m;have s3:=@aa z a (.tup [.str aB,.int (((eB b d c S).ow b).idxOf c)]);have am:=lN (h:=b) (d:=d) (c:=c) (S:=S);exact⟨_,rfl,B,t,J,eB b d c S,b,_,.ref L,oV<|((eB b d c S).ow b).idxOf c,aq t b c,rfl,X,C8 s3,qI _,⟨L,rfl,m _ _ O⟩,(by lia),λH4 h4 Y=>⟨_,rfl,q L H4 h4 ((Mv.of g).trans<|U.trans<|(Mv.of m).trans Y)<|(X.tups Y) _ _<|m _ _ O⟩⟩
theorem C9(F:Fun K "learn_join" "Searcher.learn_join" C7 f fd)(T:pS K U C)(a0:Fe P w K U g 1 "joined" iw)(a3:tp P w K U g a_ 4 C "learn" g2 e2 ["self","hand","line","literals"] (iH C)):ay P w K U g a_ 5 f fd ["self","hand","first","second","variable"] (si C):=by
 refine F.okB (N:=["self","hand","first","second","variable","places","line"]) λQC A W s H vs Q E sc hr h=>?_;obtain⟨B,t,cs,S,d,u1,u2,e,c,z,rfl,h,X,Y,mF,mC,o,O,Z,ht,hn,q⟩:=h;have hu:=hr.units;have l:=mv hr;obtain⟨J,rfl,i⟩:=X;obtain⟨t2,rfl,n⟩:=Y;obtain⟨D,hD,a4,v⟩:=h.d d;have l1:=bv o;have l2:=bv O;have p:H J=gV (.tup<|(hG e).map kV):=by rw[lK];exact i
 have u:H t2=gV (.tup<|(hG c).map kV):=by rw[lK];exact n
 have Yc:=DGet.t hD p;rw[v e,On mF]at Yc;have G:=DGet.t hD u;rw[v c,On mC]at G;have JE:∀r,Joins e c z r->r=bW e c z:=λr ac=>Joins.eq o.1 O.1 Z ac;have am:=ou o O Z;refine⟨_,(ae (sT 5<|bH l gg (pv 1) λR R=>rfl)
  (ae (sT 6<|dZ<|aV ii<|aV (bH l (pv 5) (pv 2) λR R=>rfl)<|kT (bH l (pv 5) (pv 3) λR R=>rfl)<|pv 4)
  (ae (aQ gg (ar<|sT 6<|dZ<|aV ii<|aV (bH l (pv 5) (pv 3) λR R=>rfl)<|kT (bH l (pv 5) (pv 2) λR R=>rfl)<|pv 4) ax)
  gg))),?_⟩
 exists _,rfl,B.x,C,B.dx,_,_,rfl,h.hx,T.cl,T.nP,rfl,_,rfl,B.dp,_,rfl,fR h.hd d;refine⟨_,rfl,_,rfl,B.pp d,_,rfl,Yc,_,rfl,_,rfl,B.pp d,_,rfl,G,_,rfl,(by show 4<=sizeLine;decide),λa1 n1=>?_⟩;have j:=ad n1<|.tup [.str bi,.int ((S.ow d).idxOf e),.int ((S.ow d).idxOf c),.int z];have s1:=@aa H a1 (.tup [.str bi,.int ((S.ow d).idxOf e),.int ((S.ow d).idxOf c),.int z]);have m:∀L a,Same H L->RD L (cH (S.ow d) e c z) (.ref a)->bn (cH (S.ow d) e c z)->EY (tK C "learn" (iH C) [] E0 (mN 0)<|jc (mN 1)<|jc (mN 6)<|jc (xp iw [] E0<|jc (mN 2)<|jc (mN 3)<|jc (mN 4) vz) vz) {nx:=λR H'=>Q .non H',rt:=Q} [gV<|.ref B.x,gV<|.str<|ao d,gV<|.ref J,gV<|.ref t2,gV<|.int z,gV<|.ref<|B.pp d,gV<|.ref a] L:=by
  intro L a k an as;have h1:=h.same k;refine⟨_,rfl,B.x,B.dx,_,rfl,h1.hx,rfl,_,rfl,_,rfl,_,rfl,_,rfl,_,rfl,J,t2,e,c,z,rfl,k _ _ i,k _ _ n,(by lia),o.1,O.1,Z,λlj r H2 M hj av=>?_⟩;obtain rfl:=JE r hj;have VZ:=k.trans M;exact⟨B,t,cs,S,d,_,.ref lj,cH _ e c z,bW e c z,rfl,h.same VZ,dw M _ _ an,as,⟨lj,rfl,av⟩,am,ht,hn,λb H3 h3 m3 az=>q b H3 h3 ((Mv.of VZ).trans m3) az⟩
 have aC:(if N8=NW then !gP (.int (-z)) (e.map V.int)else gP (.int (-z)) (e.map V.int))=e.contains (-z):=by rw[Oo N6,aP]
 exists _,rfl,_,rfl,_,rfl,J,_,rfl,.inr<|SqT.of<|j _ _ i,rfl,bJ _,_,rfl;rw[aC];cases N:e.contains _ with
 |false=>
  refine ak<|m _ a1 j ?_ ?_
  ·unfold cH;rw[N];exact uU s1
  ·unfold cH;rw[N];exact iY _ _ _
 |true=>
  have x:=j _ _ hD;have aF:=j _ _ p;have aL:=j _ _ u;have y:=DGet.t x aF;rw[v e,On mF]at y;have I:=DGet.t x aL;rw[v c,On mC]at I;refine ap ⟨_,rfl,_,rfl,B.pp d,_,rfl,I,_,rfl,_,rfl,B.pp d,_,rfl,y,_,rfl,(by show 4<=sizeLine;decide),λa2 n2=>?_⟩;have M:=ad n2<|.tup [.str bi,.int ((S.ow d).idxOf c),.int ((S.ow d).idxOf e),.int z];refine m _ a2 (j.trans M) ?_ ?_
  ·unfold cH;rw[N];exact uU aa
  unfold cH;rw[N];exact iY _ _ _
noncomputable abbrev C_:Pn:=b9 20
noncomputable abbrev Da:Pn:=b9 74
noncomputable abbrev Db:Pn:=cW (b9 76) 4
def yk:Sp:=λv H Q _=>∃(n:Int) (b:N'),v=[.int n,.bl b]/\Q (.int (if b=NW then n else -n)) H
noncomputable def ym:M' (ab Int)->Int->M' (ab Int)
 |none,_=>NZ
 |some r,z=>if r.contains z=NW then NZ else if r.contains (-z)=NW then gV (r.drop 1)else gV r
inductive sj (vs:ab V)(H:Hp)(Q:VK)(E:XK):Prop
 |mk (v:V)(o:M' (ab Int))(z:Int)(h0:vs=[v,.int z])(b:mP H o v)(d:∀c,o=gV c->c.length<=60)(q:∀a h,Same H h->mP h (ym o z) a->Q a h)
theorem lT(H:1<=absI l):cC NW (B++[b]) l=(cC NW B l || decide (l=if b=NW then(B.length:Int)+1 else -((B.length:Int)+1))):=by
 obtain g|g|g:=Tv _ _
 ·rw[ux g,N7,aa1];intro z;have:absI l=(B.length)+1:=by
   rw[z]
   split
   ·rfl
   rw[eQ];rfl
  simp_all
 ·rw[uy g,fL<|Tw g.symm,RN];have h:absI l=(B.length)+1:=by lia
  obtain e|e:=C2 (by simp_all) h
  ·rw[e,N3 (by lia)];cases b
   ·rfl
   simp
  rw[e];cases b
  ·rw[Oo N6,N3 rfl];rfl
  rfl
 rw[fL (by rw[N0,OM];exact Nat.le_of_lt_succ (Nat.succ_lt_succ g)),fL (OW g),N7,RN];intro z;have:absI l=(B.length)+1:=by
  rw[z]
  split
  ·rfl
  rw[eQ];rfl
 simp_all
theorem Al(k:au n c):ym (cR B c) (if b=NW then(B.length:Int)+1 else -((B.length:Int)+1))=cR (B++[b]) c:=by
 generalize d:(if b=NW then(B.length:Int)+1 else -((B.length:Int)+1))=z;have A:absI z=(B.length:Int)+1:=by
  rw[<-d]
  split
  ·rfl
  rw[eQ];rfl
 have w:c.any (cC NW<|B++[b])=(c.any (cC NW B) || c.contains z):=by
  rw[P9,QJ,OC,OC,Of];constructor
  ·rintro⟨l,H,h⟩;rw[lT (k.2 l H).1,d,QJ]at h;exact h.imp (λq=>⟨l,H,q⟩) λq=>by simp_all
  rintro (⟨l,H,h⟩|h)
  ·exact⟨l,H,by rw[lT (k.2 l H).1,h,oj]⟩
  exact⟨z,h,by rw[lT (k.2 z h).1,d,N3 rfl,Bool.or_true]⟩
 unfold cR;rw[w,N0,OM];cases j:c.any (cC NW B)with
 |true=>rfl
 |false=>
  rw[Oo N6,RN];show(if(c.filter λl=>decide ((B.length:Int)<absI l)).contains z=NW then NZ else if(c.filter λl=>decide ((B.length:Int)<absI l)).contains (-z)=NW then gV ((c.filter λl=>decide ((B.length:Int)<absI l)).drop 1)else gV (c.filter λl=>decide ((B.length:Int)<absI l)))=_
  have U:∀y,absI y=(B.length:Int)+1->((c.filter λl=>decide ((B.length:Int)<absI l)).contains y=NW↔y∈c):=λy o=>by
   rw[Of,Oj,O5];exact⟨λq=>q.1,λq=>⟨q,by lia⟩⟩
  by_cases g:z∈c
  ·rw[On<|(U z A).mpr g,On<|Of.mpr g]
  rw[Oo λq=>g<|(U z A).mp q,Oo λq=>g<|Of.mp q];have f:c.filter (λl=>decide (((B.length+1:Nat):Int)<absI l))=(c.filter λl=>decide ((B.length:Int)<absI l)).filter λl=>decide (((B.length+1:Nat):Int)<absI l):=by
   rw[List.filter_filter];refine TL λl v=>?_;lia
  have p:Ups (c.filter λl=>decide ((B.length:Int)<absI l)):=Pq.mpr<|Ss _<|Pq.mp k.1;have t:∀l∈c.filter λl=>decide ((B.length:Int)<absI l),(B.length:Int)<absI l:=λl H=>Oh (Oj.mp H).2;have a:∀l∈c.filter λl=>decide ((B.length:Int)<absI l),absI l=(B.length:Int)+1->l=-z:=λl H e=>by
   have E:absI l=absI z:=by simp_all
   obtain q|q:=gJ E
   ·exact absurd (q▸(Oj.mp H).1) g
   simp_all
  rw[f];generalize c.filter (λl=>decide ((B.length:Int)<absI l))=r at p t a U;by_cases G:r.contains (-z)=NW
  ·rw[On G]
   congr 1
   have m:=Of.mp G;cases r with
   |nil=>rfl
   |cons x r=>
    have s:absI x=(B.length:Int)+1:=by
     have i:=t x Ou;obtain e|e:=Oz.mp m
     ·rw[<-e,eQ];exact A
     have:=p.head _ e;rw[eQ,A]at this;lia
    rw[Pw<|by lia];refine(Qz.mpr λl H=>?_).symm;have:=p.head l H;simp_all
  rw[Oo G]
  congr 1
  refine(Qz.mpr λl H=>?_).symm;have i:=t l H;obtain q|q|q:=Int.lt_trichotomy (absI l) ((B.length)+1)
  ·omega
  ·exact absurd (Of.mpr<|a l H q▸H) G
  lia
theorem Dc(F:Fun K "literal_by" "literal_by" C_ f d):ay P w K m B a_ 1 f d ["variable","value"] yk:=by
 refine F.okB (N:=["variable","value"]) λC A o s H v Q E c r h=>?_;obtain⟨n,b,rfl,q⟩:=h;exists _,gg;exists _,rfl,_,rfl;cases b with
 |true=>exact ap ⟨_,rfl,q⟩
 |false=>exact ak ⟨_,rfl,_,rfl,q⟩
theorem Dd(F:Fun K "rest_behind" "rest_behind" Da f l):ay P w K M B a_ 1 f l ["rest","literal"] sj:=by
 refine F.okB (N:=["rest","literal"]) λD A O s H I Q E J L h=>?_;obtain⟨v,o,z,rfl,i,T,q⟩:=h;refine⟨_,(ae gg
  (cQ<|nz gg (bu FG (pv 0) gg bU)<|pv 0)),?_⟩
 cases o with
 |none=>
  have g:=i;subst g;exists _,rfl,rfl,_,rfl;exact ap<|ap<|q _ _ (Same.refl _) rfl
 |some r=>
  obtain⟨t,rfl,a⟩:=i;have e:∀y,(if N8=NW then !gP (.int y) (r.map V.int)else gP _ _)=r.contains y:=λy=>by rw[Oo N6,aP]
  exists _,rfl,rfl,_,rfl;refine ak ⟨_,rfl,_,rfl,t,_,rfl,.inr<|SqT.of a,rfl,bJ _,_,rfl,?_⟩;rw[e];cases j:r.contains z with
  |true=>exact ap<|q _ _ (Same.refl _) (by show mP H (if r.contains z=NW then NZ else _) _;rw[On j];rfl)
  |false=>
   have d:=λc b k m=>q c b k (by
    show mP b (if r.contains z=NW then NZ else if r.contains _=NW then gV _ else gV r) c
    rwa[Oo<|by lia])
   refine ak ⟨_,rfl,_,rfl,_,rfl,t,_,rfl,.inr<|SqT.of a,rfl,bJ _,_,rfl,?_⟩;rw[e];cases G:r.contains _ with
   |true=>
    rw[G]at d;have n:=Of.mp G;have U:1<=r.length:=R3 n;refine ap ⟨_,rfl,1,rfl,t,_,rfl,SqT.of a,λu=>?_,λZ p N=>?_⟩
    ·have x:HT.sIx (r.map V.int).length 0 (gV 1)=min 1 _:=rfl;simp_all
    ·have C:bC (r.map V.int) (gV 1) NZ=(r.drop 1).map V.int:=by
      rw[show(gV (1))=gV (((1:Nat):Int))from rfl,jT,Yf]
     rw[C];exact d _ _ (ad N _) ⟨p,rfl,aa⟩
   |false=>
    rw[G]at d;exact ak ⟨_,rfl,d _ _ (Same.refl _) ⟨t,rfl,a⟩⟩
inductive m9 (a:J')(vs:ab V)(H:Hp)(Q:VK)(E:XK):Prop
 |mk (A:SA)(t:Str)(C:ab (ab Int))(S:SS)(b:N')(f:V)(o:M' (ab Int))(h0:vs=[.ref A.x,.bl b,f])(h:SrAt a A t C S H)(e:mP H o f)(hc:∀c∈C,au t.length c)(ht:t.length<=18)(hcs:C.length<=900)(hb:S.bs.length<=18)(g:S.fs.length<=18)(q:∀d,SrAt a A t C (eE b o S) d->Mv A H d->Q .non d)
theorem paired_len{a b:Type}{R:a->b->Prop}{A:ab a}{B:ab b}(h:Paired R A B):A.length=B.length:=by
 induction h with
 |nil=>rfl
 |cons _ _ i=>simp_all
theorem qM{d c:Type}{R:d->c->Prop}{A:ab d}{B:ab c}(h:Paired R A B):∀{i:Nat} {b:c},B[i]?=gV b->∃a,A[i]?=gV a/\R a b:=by
 induction h with
 |nil=>intro i b e;simp at e
 |cons r _ I=>
  intro i b e;cases i with
  |zero=>
   simp_all
  |succ i=>
   simp_all
theorem mL{c d:Type}{R:c->d->Prop}{A:ab c}{B:ab d}{a:c}{b:d}(h:Paired R A B)(r:R a b):Paired R (A++[a]) (B++[b]):=by
 induction h with
 |nil=>exact .cons r .nil
 |cons e _ i=>exact .cons e i
theorem uV{x:ab V}{y:V}(h:x[x.length-1]?=gV y):kZ x (-1)=gV y:=by
 have H:0<x.length:=by
  have:=(N4.mp h).1;lia
 unfold kZ Ja;rw[Oo (by decide),On<|by lia];rwa[show(-1+(x.length:Int)).toNat=x.length-1 by lia]
inductive HJ (h:Hp)(D:J')(z:Int)(os:ab (M'<|ab Int))(i:Nat)(a:St)(ys:ab V)(H:Hp):Prop
 |mk (v:M' V)(h0:a=[v,gV (.int z)])(b:H D=gV (.lst ys))(c:Same h H)(d:iG H ((os.take i).map λo=>ym o z) ys)
theorem De(F:Fun K "fill_in" "Searcher.fill_in" Db f fd)(T:pS K mg CS)(aC:Fe P w K mg M 1 "literal_by" yk)(ba:Fe P w K mg M 1 "rest_behind" sj):ay P w K mg M a_ 2 f fd ["self","value","first"] (m9 CS):=by
 refine F.okB (N:=["self","value","first","literal"]) λQC A aF s H vs Q E sc hr h=>?_;obtain⟨B,t,cs,S,b,fv,o,rfl,h,ho,hc,ht,bb,bc,bf,q⟩:=h;have N:=h.nes;obtain⟨j,hf,am⟩:=h.f;have bg:=paired_len am;refine⟨_,(ae (sT 3<|B4 aC hr<|kT (b_ AU (aN ca rfl T.len P5 gg) bX)<|pv 1)
  (ae gg
  (ae gg
  (ar<|dm<|gG Ph P8 Qh dS gg<|fC<|fW ["rest","literal"] [NZ,gV 3]<|aD gg)))),?_⟩
 exists _,rfl,B.x,CS,B.dx,_,_,rfl,h.hx,T.cl,T.nB,rfl,.ref B.b,_,rfl,.inl ⟨_,SqL.of h.b,rfl⟩,_,_,rfl,rfl,_,rfl,_,b,rfl;rw[B'];generalize hz:(if b=NW then((S.bs.length:Nat):Int)+1 else -(((S.bs.length:Nat):Int)+1))=z;exists _,rfl,B.x,CS,B.dx,_,_,rfl,h.hx,T.cl,T.nB,rfl,.inl ⟨rfl,_,SqL.of h.b⟩,_,rfl,B.b,_,_,rfl,rfl,h.b,ah (by rw[B'];lia);have oB:B.own B.b:=.inr<|.inl rfl;have oF:B.own B.f:=.inr<|.inr<|.inl rfl;have oR:B.own B.r:=.inr<|.inr<|.inr<|.inl rfl;have U:B.x≠B.b:=bq h.hx h.b (by simp);have an:B.x≠B.f:=bq h.hx hf (by simp);have m1:Mv B H (upd H B.b<|.lst<|S.bs.map V.bl++[.bl b]):=(Mv.of<|Same.refl H).upd oB _;have Xr:∀a u,H a=gV u->a≠B.b->upd H B.b (.lst<|S.bs.map V.bl++[.bl b]) a=gV u:=λa u e n=>by rw[af n];exact e
 have s1:=@aa H B.b (.lst<|S.bs.map V.bl++[.bl b]);generalize upd H B.b (.lst<|S.bs.map V.bl++[.bl b])=H1 at m1 Xr s1 ⊢;have aL:=Xr _ _ h.hx U;have as:=Xr _ _ hf<|P0 N.bf;exists _,rfl,B.x,CS,B.dx,_,_,rfl,aL,T.cl,T.nF,rfl,.inl ⟨rfl,_,SqL.of as⟩,_,rfl,B.f,_,_,rfl,rfl,as,ah (by lia);have m2:Mv B H (upd H1 B.f<|.lst<|j++[fv]):=m1.upd oF _;have Vh:∀a u,H a=gV u->a≠B.b->a≠B.f->upd H1 B.f (.lst<|j++[fv]) a=gV u:=λa u e n n2=>by rw[af n2];exact Xr a u e n
 have s2:=@aa H1 B.f (.lst<|j++[fv]);have W:upd H1 B.f (.lst<|j++[fv]) B.b=gV (.lst<|S.bs.map V.bl++[.bl b]):=by rw[af N.bf];exact s1
 generalize upd H1 B.f (.lst<|j++[fv])=H2 at m2 Vh s2 W ⊢;have k2:=h.tups m2;have WA:=Vh _ _ h.hx U an;obtain⟨r,Zd,X⟩:=h.r;have J:=Vh _ _ Zd (P0 N.br)<|P0 N.fr;have a0:=X.mono m2 k2;have a1:=X.len;have X':r[r.length-1]?=gV (r.getD (r.length-1) .non):=aE (by simp_all);obtain⟨a,ws,ev,Y,bk,ac⟩:=a0.at_ _ _ X';rw[ev]at X';rw[show r.length-1=S.bs.length by lia,Oi<|N9 _]at ac;have bl:=paired_len ac;have bm:(cj t cs S.bs).length=cs.length:=B' _;refine⟨_,rfl,B.x,CS,B.dx,_,_,rfl,WA,T.cl,T.nR,rfl,.inl ⟨rfl,_,SqL.of J⟩,_,rfl,B.x,CS,B.dx,_,_,rfl,WA,T.cl,T.nR,rfl,_,rfl,(fz J (uV X') ⟨a,rfl,⟨_,SqL.of Y⟩,λD nD=>?_⟩)⟩;have br:a≠D:=ag Y nD;have av:¬B.taken D:=λZ=>by
  obtain(Z|Z|Z|Z|⟨y,Z|Z⟩)|Z:=Z
  ·simp_all
  ·simp_all
  ·simp_all
  ·lia
  ·obtain⟨vs,e,R⟩:=h.l y;rw[Z,Vh _ _ e (N.lb y)<|N.lf y]at nD;cases nD
  ·obtain⟨D',e,R⟩:=h.d y;rw[Z,Vh _ _ e (bq e h.b<|by intro z;cases z)<|bq e hf<|by intro z;cases z]at nD;cases nD
  obtain⟨n,o,e⟩:=h.far _ Z;rw[m2 _ _ n e]at nD;cases nD
 refine bB (K:=K) (a:=a) (xs:=ws) (HJ H2 D z<|cj t cs S.bs) ⟨NZ,rfl,aa,ad nD _,.nil⟩ ?_ ?_ ?_
 ·rintro i σ ys p R ⟨R,R,i1,I,R⟩;exact⟨i1,SqL.of<|I _ _ Y⟩
 ·rintro i x σ ys p hx ⟨v0,rfl,i1,I,i3⟩;obtain⟨oi,d,a2⟩:=qM ac hx;have Wy:=(N4.mp d).1;have a3:=paired_len i3;rw[B',OB]at a3;have a4:∀c,oi=gV c->c.length<=60:=λc e=>by
   unfold cj at d;rw[Ox]at d;cases g:cs[i]? with
   |none=>simp_all
   |some c0=>
    rw[g]at d;have m:cR S.bs (aq t N8 c0)=gV c:=(OA d).trans e;unfold cR at m
    split at m
    ·cases m
    rw[<-OA m];have h1:=O0 (λl=>decide ((S.bs.length:Int)<absI l))<|aq t N8 c0;have h2:=bv<|gL (t:=t) (w:=N8)<|hc c0<|N5 g;lia
  refine cg ⟨_,rfl,_,rfl,x,oi,z,rfl,(TupS.of I).opt a2,a4,λv' H4 L a5=>?_⟩;have C:=L _ _ i1;have tk:TupS H4 (upd H4 D<|.lst<|ys++[v']):=λb' a6 e=>by rw[af λZ=>by simp_all];exact e
  exists C,ah (by lia),_,rfl,aa,(I.trans L).upd_new nD _;rw[OJ,d,OF];exact mL (((TupS.of L).trans tk).opts i3)<|tk.opt a5
 rintro σ ys p ⟨R,R,i1,I,i3⟩;rw[Oi<|by simp_all]at i3;have bs:=I _ _ WA;have az:=I _ _ J;exists B.r,r,_,rfl,rfl,az,ah (by lia);have m4:Mv B H (upd p B.r<|.lst<|r++[.ref D]):=(m2.trans<|.of I).upd oR _;have O:∀a u,H a=gV u->a≠B.b->a≠B.f->a≠B.r->upd p B.r (.lst<|r++[.ref D]) a=gV u:=λa u e n n2 n3=>by rw[af n3];exact I _ _<|Vh a u e n n2
 have L:=h.tups m4;have a7:D≠B.r:=λZ=>(by lia);have C:upd p B.r (.lst<|r++[.ref D]) D=gV (.lst ys):=by rw[af a7];exact i1
 have tk:TupS p (upd p B.r<|.lst<|r++[.ref D]):=λb' a6 e=>by rw[af λZ=>by simp_all];exact e
 have sr:=@aa p B.r (.lst<|r++[.ref D]);have sb:upd p B.r (.lst<|r++[.ref D]) B.b=gV (.lst<|S.bs.map V.bl++[.bl b]):=by rw[af N.br];exact I _ _ W
 have sf:upd p B.r (.lst<|r++[.ref D]) B.f=gV (.lst<|j++[fv]):=by rw[af N.fr];exact I _ _ s2
 generalize upd p B.r (.lst<|r++[.ref D])=H4 at m4 O L C tk sr sb sf ⊢;refine q H4 (h.make (S':=eE b o S) m4 ?_ ?_ ?_ ?_ ?_ ?_ h.good h.len) m4
 ·exact O _ _ h.hx U an (by lia)
 ·intro y;obtain⟨vs,G,m⟩:=h.l y;exact⟨vs,O _ _ G (N.lb y) (N.lf y)<|N.lr y,L.goods (h.good y) m⟩
 ·intro y;obtain⟨D',G,m⟩:=h.d y;exact⟨D',O _ _ G (bq G h.b<|by simp) (by lia) (by lia),m⟩
 ·show H4 B.b=gV (.lst<|(S.bs++[b]).map V.bl)
  rw[OF];exact sb
 ·exact⟨_,sf,mL (L.opts am)<|L.opt ho⟩
 refine⟨_,sr,?_,λk v hk=>?_⟩
 ·show(r++[V.ref D]).length=(S.bs++[b]).length+1
  simp_all
 by_cases g:k<r.length
 ·rw[ON g]at hk;obtain⟨a',a8,G,m,e3,e4⟩:=(X.mono m4 L).at_ k v hk;exists a',a8,G,m,e3;have:(eE b o S).bs.take k=S.bs.take k:=Ra (by lia);simp_all
 rw[OP<|by simp_all]at hk;have a9:k=r.length:=by
  grind
 subst a9;rw[QI]at hk;cases hk;exists D,ys,rfl,C,av;have G:(eE b o S).bs.take r.length=S.bs++[b]:=Oi (by show(S.bs++[b]).length<=_;simp_all);rw[G];have m:(cj t cs S.bs).map (λo=>ym o z)=cj t cs (S.bs++[b]):=by
  unfold cj;rw[OZ];refine SE λc Xy=>?_;rw[<-hz];exact Al<|gL<|hc c Xy
 rw[<-m];exact tk.opts i3
noncomputable abbrev Df:Pn:=cW (b9 76) 5
inductive sk (a:J')(vs:ab V)(H:Hp)(Q:VK)(E:XK):Prop
 |mk (A:SA)(t:Str)(C:ab (ab Int))(S:SS)(hw:N')(u:V)(c:ab Int)(h0:vs=[.ref A.x,.str<|ao hw,u])(h:SrAt a A t C S H)(d:CL H c u)(T:oY t C hw c S)(hc:∀c∈C,au t.length c)(ht:t.length<=18)(hcs:C.length<=900)(hn:cI S+2*pend S.fs<=8800)(q:∀b,SrAt a A t C (fQ t hw S.bs.length c S) b->Mv A H b->Q .non b)
inductive Dg (b:J')(A:SA)(t:Str)(C:ab (ab Int))(hw:N')(R:SS)(H:Hp)(m:Nat)(d:St)(a:Hp):Prop
 |mk (c:ab Int)(S:SS)(u:V)(v e f:M' V)(h0:d=[gV<|.ref A.x,gV<|.str<|ao hw,gV u,v,e,f])(h:SrAt b A t C S a)(hm:Mv A H a)(g:CL a c u)(T:oY t C hw c S)(k:S.bs.length=m)(hn:cI S+2*pend S.fs<=8800)(i:fQ t hw m c S=R)
theorem L_(b:∀R,R p H->T a H R)(c:∀R,R q H->d a H R)(h:if(p || q)=NW then t D a H else u D a H):IF (Nw T d) t u D a H:=by
 refine b _ ?_;cases p with
 |true=>exact ap h
 |false=>exact ak<|c _ h
section
variable {S:SS}
theorem SrAt.pop(h:SrAt M A t C S H)(hk:S.bs.length=k+1)(q:H A.f=gV (.lst F))(Z:iG H S.fs F)(D:H A.r=gV (.lst s))(c:Rsts A t C S.bs H s):
  SrAt M A t C (cq S) (upd (upd (upd H A.b<|.lst (S.bs.map V.bl).dropLast) A.f<|.lst F.dropLast) A.r<|.lst s.dropLast)/\Mv A H (upd (upd (upd H A.b<|.lst (S.bs.map V.bl).dropLast) A.f<|.lst F.dropLast) A.r<|.lst s.dropLast):=by
 have N:=h.nes;have O:A.own A.b:=.inr<|.inl rfl;have P:A.own A.f:=.inr<|.inr<|.inl rfl;have Q:A.own A.r:=.inr<|.inr<|.inr<|.inl rfl;have m:Mv A H (upd (upd (upd H A.b<|.lst (S.bs.map V.bl).dropLast) A.f<|.lst F.dropLast) A.r<|.lst s.dropLast):=(((Mv.of<|Same.refl H).upd O _).upd P _).upd Q _;have p:∀a u,H a=gV u->a≠A.b->a≠A.f->a≠A.r->upd (upd (upd H A.b<|.lst (S.bs.map V.bl).dropLast) A.f<|.lst F.dropLast) A.r (.lst s.dropLast) a=gV u:=λa u e T U X=>by rwa[af X,af U,af T]
 have I:=@aa (upd (upd H A.b<|.lst (S.bs.map V.bl).dropLast) A.f<|.lst F.dropLast) A.r (.lst s.dropLast);have w:upd (upd (upd H A.b<|.lst (S.bs.map V.bl).dropLast) A.f<|.lst F.dropLast) A.r (.lst s.dropLast) A.f=gV (.lst F.dropLast):=by rw[af N.fr];exact aa
 have J:upd (upd (upd H A.b<|.lst (S.bs.map V.bl).dropLast) A.f<|.lst F.dropLast) A.r (.lst s.dropLast) A.b=gV (.lst (S.bs.map V.bl).dropLast):=by rw[af N.br,af N.bf];exact aa
 generalize upd (upd (upd H A.b<|.lst (S.bs.map _).dropLast) A.f<|.lst _) A.r (.lst _)=o at m p I w J ⊢;have x:=h.tups m;refine⟨h.make m ?_ ?_ ?_ ?_ ?_ ?_ h.good h.len,m⟩
 ·exact p _ _ h.hx (bq h.hx h.b<|by simp) (bq h.hx q<|by simp) (bq h.hx D<|by simp)
 ·intro y;obtain⟨g,E,i⟩:=h.l y;exact⟨g,p _ _ E (N.lb y) (N.lf y)<|N.lr y,x.goods (h.good y) i⟩
 ·intro y;obtain⟨D',E,i⟩:=h.d y;exact⟨D',p _ _ E (bq E h.b<|by simp) (bq E q<|by intro z;cases z) (bq E D<|by intro z;cases z),i⟩
 ·show o A.b=gV (.lst<|S.bs.dropLast.map _)
  simp_all
 ·exists _,w;show iG o _ _
  have L:=x.opts Z;have G:∀{os:ab _} {g:ab V},Paired (mP o) os g->Paired _ os.dropLast g.dropLast:=λ{os g} hp=>by
   induction hp with
   |nil=>exact .nil
   |cons r t ih=>
    cases t with
    |nil=>exact .nil
    |cons r' t'=>exact .cons r ih
  exact G L
 have ac:=c.len;have Y:=c.mono m x;refine⟨_,I,?_,λj v B=>?_⟩
 ·show s.dropLast.length=S.bs.dropLast.length+1
  simp_all
 have n:=(N4.mp B).1;rw[PN]at n;rw[TF,On n]at B;obtain⟨a',W,E,i,e3,e4⟩:=Y.at_ j v B;exists a',W,E,i,e3;have:(cq S).bs.take j=S.bs.take j:=by
  show S.bs.dropLast.take j=_
  rw[T3]
  grind
 simp_all
end
theorem Dh(F:Fun K "turn_back" "Searcher.turn_back" Df f fd)(T:pS K mg C)(bt:tp P w K mg L a_ 2 C "fill_in" g1 e1 ["self","value","first"] (m9 C))(b0:tp P w K mg L a_ 5 C "learn_join" g2 e2 ["self","hand","first","second","variable"] (si C)):ay P w K mg L a_ 6 f fd ["self","hand","literals"] (sk C):=by
 refine F.okB (N:=["self","hand","literals","variable","value","first"]) λQC A aF s H vs Q E sc hr h=>?_;obtain⟨B,t,cs,S0,d,u0,c0,rfl,h0,aL,T0,hc,ht,a0,a1,q⟩:=h;obtain⟨R,O⟩:∃R,R=fQ t d S0.bs.length c0 S0:=⟨_,rfl⟩;rw[<-O]at q;refine⟨_,(ae (jM PU (tI gg λ_=>rfl)
   (ae (sT 3<|aN ca rfl T.len P5 gg)
   (ae gg
   (ae gg
   (ae gg
   (ar (aQ gg (ae (aQ gg (ae gg
     (ar EZ)) ax)
    gg) ax)))))))
  gg),?_⟩
 exists Dg C B t cs d R H,⟨S0.bs.length,c0,S0,u0,NZ,NZ,NZ,rfl,h0,.of<|Same.refl _,aL,T0,rfl,a1,O.symm⟩;clear O;rintro m σ i ⟨c,S,u,v3,v4,v5,rfl,h,hm,a2,TI,l,hn,D⟩;have N:=h.nes;have b1:=TI.I.blen;exists _,rfl,B.x,C,B.dx,_,_,rfl,h.hx,T.cl,T.nB,rfl,!(S.bs.map V.bl).isEmpty,.inl ⟨_,SqL.of h.b,rfl⟩;cases m with
 |zero=>
  have a3:S.bs=[]:=Um l;rw[a3];refine ak ?_;exists _,rfl,_,rfl,B.x,C,B.dx,_,rfl,h.hx,T.cl,T.nW,(by show 7<1000;simp);have ox:B.own B.x:=.inl rfl;have mm:Mv B H (upd i B.x<|.ins C B.dx<|fX "winner" (.str<|ao d)<|uS B<|sh S.win):=hm.upd ox _;have m1:Mv B i (upd i B.x<|.ins C B.dx<|fX "winner" (.str<|ao d)<|uS B<|sh S.win):=(Mv.of<|Same.refl i).upd ox _;have kk:=h.tups m1;have p:∀a o,i a=gV o->a≠B.x->upd i B.x (.ins C B.dx<|fX "winner" (.str<|ao d)<|uS B<|sh S.win) a=gV o:=λa o e n=>by rw[af n];exact e
  refine q _ ?_ mm;rw[<-D];show SrAt C B t cs {S with win:=gV d} _
  obtain⟨b,hf,v⟩:=h.f;obtain⟨g,Zd,G⟩:=h.r;refine h.make (S':={S with win:=gV d}) m1 ?_ ?_ ?_ ?_ ?_ ?_ h.good h.len
  ·rw[aa];rfl
  ·intro y;obtain⟨vs,e1,e2⟩:=h.l y;exact⟨vs,p _ _ e1 (bq e1 h.hx<|by simp),kk.goods (h.good y) e2⟩
  ·intro y;obtain⟨D',e1,e2⟩:=h.d y;exact⟨D',p _ _ e1 (bq e1 h.hx<|by simp),e2⟩
  ·exact p _ _ h.b (bq h.b h.hx<|by simp)
  ·exact⟨b,p _ _ hf (bq hf h.hx<|by simp),kk.opts v⟩
  ·exact⟨g,p _ _ Zd (bq Zd h.hx<|by simp),G.mono m1 kk⟩
 |succ k=>
  have Wi:(!(S.bs.map V.bl).isEmpty)=true:=by
   cases e:S.bs with
   |nil=>simp_all
   |cons x r=>rfl
  rw[Wi];refine ap ⟨λac H'=>∃m',m'<k+1/\Dg C B t cs d R H m' ac H',λac H' z=>z,?_⟩;have a4:=λb g=>h.pop (F:=b) (s:=g) l;obtain⟨b,hf,v⟩:=h.f;obtain⟨g,Zd,G⟩:=h.r;obtain⟨j,U⟩:=a4 b g hf v Zd G;have b2:=paired_len v;have a5:=TI.I.flen;have b3:=G.len;exists _,rfl,B.x,C,B.dx,_,_,rfl,h.hx,T.cl,T.nB,rfl,.ref B.b,_,rfl,.inl ⟨_,SqL.of h.b,rfl⟩;have a6:(S.bs.map V.bl)[(S.bs.map V.bl).length-1]?=gV (.bl<|S.bs.getD k N8):=by
   rw[B',l,XZ,Ox,aE (d:=N8)<|by lia];rfl
  exists _,rfl,B.x,C,B.dx,_,_,rfl,h.hx,T.cl,T.nB,rfl,.inl ⟨rfl,_,SqL.of h.b⟩,B.b,_,_,rfl,rfl,h.b,a6;have a7:B.x≠B.b:=bq h.hx h.b (by simp);have a8:B.x≠B.f:=bq h.hx hf (by simp);have am:upd i B.b (.lst (S.bs.map V.bl).dropLast) B.x=gV (.ins C B.dx<|uS B<|sh S.win):=by rw[af a7];exact h.hx
  have an:upd i B.b (.lst (S.bs.map V.bl).dropLast) B.f=gV (.lst b):=by rw[af<|P0 N.bf];exact hf
  have a9:upd i B.b (.lst (S.bs.map V.bl).dropLast) B.r=gV (.lst g):=by rw[af<|P0 N.br];exact Zd
  have as:=aE (d:=V.non) (show k<b.length by lia);have av:b[b.length-1]?=gV (b.getD k .non):=by rw[show b.length-1=k by lia];exact as
  obtain⟨ok,ba,W⟩:=qM v as;have I:S.fs.getD k NZ=ok:=by rw[K',ba];rfl
  generalize b.getD k .non=fv at av W;exists _,rfl,B.x,C,B.dx,_,_,rfl,am,T.cl,T.nF,rfl,.inl ⟨rfl,_,SqL.of an⟩,B.f,_,_,rfl,rfl,an,av;have WA:upd (upd i B.b<|.lst (S.bs.map V.bl).dropLast) B.f (.lst b.dropLast) B.x=gV (.ins C B.dx<|uS B<|sh S.win):=by rw[af a8];exact am
  have az:upd (upd i B.b<|.lst (S.bs.map V.bl).dropLast) B.f (.lst b.dropLast) B.r=gV (.lst g):=by rw[af<|P0 N.fr];exact a9
  exists _,rfl,B.x,C,B.dx,_,_,rfl,WA,T.cl,T.nR,rfl,.inl ⟨rfl,_,SqL.of az⟩,B.r,_,_,rfl,rfl,az,aE (d:=V.non) (by lia);have tk:=h.tups U;generalize upd (upd (upd i B.b<|.lst (S.bs.map V.bl).dropLast) B.f<|.lst b.dropLast) B.r (.lst g.dropLast)=H2 at j U tk ⊢;have X:=hm.trans U;obtain⟨M,rfl,Q7⟩:=tk.cl a2;have lb:(cq S).bs.length=k:=by show S.bs.dropLast.length=k;rw[PN,l];rfl
  have lf:(cq S).fs.length=k:=by show S.fs.dropLast.length=k;rw[PN,a5,l];rfl
  have hz:(((S.bs.map V.bl).length:Nat):Int)=(k:Int)+1:=by rw[B',l];rfl
  rw[hz];have aC:∀y,(if N8=NW then !gP (.int y) (c.map V.int)else gP (.int y) (c.map V.int))=c.contains y:=λy=>by rw[Oo N6,aP]
  have bb:=uO TI.I l;have b4:cI (cq S)=cI S:=rfl;dsimp only;refine L_ (p:=c.contains<|(k:Int)+1) (q:=c.contains (-((k:Int)+1))) (λR r=>⟨_,rfl,_,rfl,M,_,rfl,.inr<|SqT.of Q7,rfl,bJ _,_,rfl,by rw[aC];exact r⟩) (λR r=>⟨_,rfl,_,rfl,_,rfl,M,_,rfl,.inr<|SqT.of Q7,rfl,bJ _,_,rfl,by rw[aC];exact r⟩) ?_;unfold fQ at D;by_cases Y:(c.contains ((k:Int)+1) || c.contains (-((k:Int)+1)))=NW
  ·rw[On Y]at D;have bc:(k:Int)+1∈c\/ -((k:Int)+1)∈c:=by
    simp_all
   rw[Y];refine ap ?_;cases ok with
   |none=>
    rw[I]at D;have Z:eE (!S.bs.getD k N8) (gV c) (cq S)=R:=D;have bf:fv=.non:=W;subst bf;exists _,rfl,rfl,_,rfl;rw[N3 rfl];refine ap ?_;refine⟨_,rfl,B.x,B.dx,_,rfl,j.hx,rfl,_,rfl,_,rfl,_,rfl,B,t,cs,cq S,!S.bs.getD k N8,.ref M,gV c,rfl,j,⟨M,rfl,Q7⟩,hc,ht,a0,(by lia),(by lia),λH3 h3 m3=>?_⟩;rw[Z]at h3;exact q H3 h3<|X.trans m3
   |some F=>
    have J:=qJ hc TI l bc I;rw[I]at D;have Z:fQ t d k (aq t d<|bW F c<|(k:Int)+1) (bF t d (cH (S.ow d) F c<|(k:Int)+1) (bW F c<|(k:Int)+1)<|cq S)=R:=D;obtain⟨tf,rfl,bg⟩:=tk.cl ‹_›;exists _,rfl,rfl,_,rfl;rw[N7 λz=>by cases z];refine ak ?_;have bk:pend [gV F]=1:=rfl;rw[I,bk]at bb;have Sv:=fh (t:=t) (h:=d) (d:=cH (S.ow d) F c<|(k:Int)+1) (c:=bW F c<|(k:Int)+1) (S:=cq S);have bl:=iE (t:=t) (h:=d) (d:=cH (S.ow d) F c<|(k)+1) (c:=bW F c<|(k)+1) (S:=cq S);have bm:=fg (t:=t) (h:=d) (d:=cH (S.ow d) F c<|(k)+1) (c:=bW F c<|(k)+1) (S:=cq S);refine⟨_,rfl,B.x,B.dx,_,rfl,j.hx,rfl,_,rfl,_,rfl,_,rfl,_,rfl,B,t,cs,cq S,d,.ref tf,.ref M,F,c,(k)+1,rfl,j,⟨tf,rfl,bg⟩,⟨M,rfl,Q7⟩,J.mF,TI.mem,J.okF,J.okC,J.both,ht,(by lia),λa H3 h3 m3 ha=>?_⟩;refine⟨k,by simp,_,_,.ref a,_,_,_,rfl,h3,X.trans m3,⟨a,rfl,ha⟩,J.next,(O1 P7 bm).trans lb,?_,Z⟩;exact(by lia:cI (bF t d (cH (S.ow d) F c<|(k)+1) (bW F c<|(k)+1)<|cq S)+2*pend (bF t d (cH (S.ow d) F c<|(k)+1) (bW F c<|(k)+1)<|cq S).fs<=8800)
  rw[Oo Y]at D;have br:¬((k:Int)+1∈c\/ -((k:Int)+1)∈c):=λz=>by simp_all
  have bs:(c.contains ((k)+1) || c.contains (-((k)+1)))=false:=by
   simp_all
  rw[bs];exact ak<|⟨k,by simp,c,cq S,.ref M,_,_,_,rfl,j,X,⟨M,rfl,Q7⟩,qK hc TI l br,lb,by lia,D⟩
noncomputable abbrev yn:Pn:=b9 15
noncomputable abbrev HK:Pn:=b9 75
def kq:Sp:=λv H Q _=>∃(l:Int) (f:J') (b:ab N'),v=[.int l,.ref f]/\H f=gV (.lst<|b.map V.bl)/\b.length<=900/\1<=absI l/\Q (cU b (absI l) (decide (0<l))) H
inductive su (vs:ab V)(H:Hp)(Q:VK)(E:XK):Prop
 |mk (l t:J')(c k:ab Int)(h0:vs=[.ref l,.ref t])(h:H l=gV (.lst (c.map V.int)))(a:jg H t k)(q:Q (.bl (c.any λz=>k.contains z)) H)
inductive wz (vs:ab V)(H:Hp)(Q:VK)(E:XK):Prop
 |mk (p q b:J')(t:Str)(xs:ab V)(C:ab (ab Int))(bs:ab N')(h0:vs=[.ref p,.ref b])(d:H p=gV (.tup [.str t,.ref q]))(e:H q=gV (.lst xs))(f:CLs H C xs)(g:H b=gV (.lst<|bs.map V.bl))(hc:∀c∈C,au t.length c)(ht:t.length<=18)(hb:bs.length<=18)(s:∀c∈C,∃l∈c,cC NW bs l=NW)
  (i:∀a h,Same H h->jg h a (fY t C bs)->Q (.ref a) h):wz vs H Q E
theorem Am(f:1<=absI l):E6 K (cU B (absI l) (decide (0<l))) H (cC NW B l):=by
 by_cases h:((B.length))<absI l
 ·rw[og h];exact fL (by omega)
 obtain⟨b,c,e⟩:=gH (B:=B) f (Int.le_of_not_gt h);rw[e];show cC NW B l=(b == decide _)
 unfold cC;have d:B[(absI l-1).toNat]?=gV b:=by
  have r:(absI l-1).toNat<B.length:=by omega
  obtain⟨n,g⟩:∃n:Nat,absI l-1=(n):=⟨(absI l-1).toNat,by lia⟩;have a:n<B.length:=by simp_all
  have i:kZ (B.map V.bl) (n)=gV _:=aG (by rw[Ox,N1 a];rfl);simp_all
 simp_all
inductive Di (H:Hp)(l t:J')(c k:ab Int)(i:Nat)(a:St)(h:Hp):Prop
 |mk (v:M' V)(h0:a=[gV (.ref l),gV (.ref t),v])(b:h=H)(d:((c.take i).any λz=>k.contains z)=N8)
inductive HL (p b ch:J')(t:Str)(c:ab (ab Int))(bs:ab N')(H:Hp)(i:Nat)(a:St)(h:Hp):Prop
 |mk (v d e:M' V)(h0:a=[gV<|.ref p,gV<|.ref b,gV<|.ref ch,v,d,e])(f:h ch=gV (.lst<|((c.take i).foldl (cD t bs) []).map V.int))(g:Same H h)
theorem An(F:Fun K "stands_by" "stands_by" yn f i)(T:Bl m):ay P w K m B a_ 1 f i ["literal","filling"] kq:=by
 refine F.okB (N:=["literal","filling","variable"]) λp A o s H v Q E r t h=>?_;obtain⟨l,g,a,rfl,d,u,j,q⟩:=h;refine⟨_,(ae gg
  (ae (aQ gg (ar fF) ax)
  gg)),?_⟩
 have k:decide (V.int (absI l)=V.int 0)=false:=by lia
 refine⟨_,rfl,l,rfl,_,rfl,.inl ⟨rfl,_,rfl,?_⟩⟩;show if decide (V.int (absI l)=V.int 0)=NW then _ else _
 rw[k];refine ak ⟨_,rfl,_,rfl,.ref g,_,rfl,.inl ⟨_,SqL.of d,rfl⟩,_,_,rfl,rfl,_,rfl,cn (λc=>?_) λc=>?_⟩
 ·have C:((a.length))<absI l:=by
   have z:=Oh c;rwa[B']at z
  rwa[og C]at q
 have C:absI l<=((a.length)):=by
  rw[O5,B']at c;exact Z9.mp c
 obtain⟨b,n,e⟩:=gH j C;rw[e]at q;refine⟨_,rfl,_,rfl,_,_,rfl,rfl,(fz d n ⟨_,rfl,_,_,rfl,rfl,.inl ⟨rfl,?_⟩⟩)⟩;rwa[jl]
theorem Dj(F:Fun K "hits" "hits" rT f p):ay P w K M b a_ 1 f p ["literals","clause"] su:=by
 have B:=mZ;refine F.okA mZ λC A o s H D Q E G h=>?_;obtain⟨l,t,c,k,rfl,d,r,q⟩:=h;refine⟨_,(ae (fS 2 (aD<|pv 0) gg)
  (cQ fm)),⟨_,rfl,l,rfl,⟨_,SqL.of d⟩,cy (K:=K) (X:=c.map V.int) (Di H l t c k) ⟨NZ,rfl,rfl,rfl⟩ ?_ ?_ ?_⟩⟩
 ·rintro i j m Z ⟨Z,Z,rfl,Z⟩;exact SqL.of d
 ·rintro i x j m u ⟨v,rfl,rfl,a⟩;obtain⟨z,rfl,n⟩:=cO u;have e:(if N8=NW then !gP (.int z) (k.map V.int)else gP (.int z) (k.map V.int))=k.contains z:=by
   rw[Oo N6,aP]
  exists _,rfl,_,rfl,t,_,rfl,.inr<|SqT.of r,rfl,bJ k,_,rfl;rw[e];cases g:k.contains z with
  |true=>
   have y:=OC.mpr ⟨z,N5 n,g⟩;rwa[y]at q
  |false=>
   refine ak ⟨_,rfl,rfl,?_⟩;rw[OJ,n,Zw,a];show(k.contains z || N8)=N8
   rw[g];rfl
 rintro j m ⟨v,rfl,rfl,a⟩;rw[Oi<|by rw[B'];exact N9 _]at a;rwa[a]at q
theorem Gk(F:Fun K "hitting_set" "hitting_set" HK f fd)(T:Bl mg)(a6:Fe P w K mg j 1 "hits" su)(ZI:Fe P w K mg j 1 "stands_by" kq)(ZJ:Fe P w K mg j 1 "hand_of" lH):ay P w K mg j a_ 2 f fd ["sentence","begun"] wz:=by
 refine F.okB (N:=["sentence","begun","chosen","clause","standing","wishers"]) λQC A an s H vs Q E sc hr h=>?_;obtain⟨p,qa,b,t,xs,d,B,rfl,hp,hq,TQ,hb,N,ht,a7,W,q⟩:=h;have C:=eN (t:=t) W;refine⟨_,(ae gg
  (ae (fS 3 (aD gg) (ar (aQ gg (ae (B_ 4 ["literal","begun"] [NZ,gV 1] (bA<|pv 3) (t:=λS S S S=>(bM<|zP (K:=K) rfl gg λS=>rfl)))
    (ae (B_ 5 ["literal","sentence"] [NZ,gV 0]<|aD<|pv 4)
    (ar<|dm<|gG Ph P8 Qh dS (pv 2)<|fC<|LN (b_ cF (pv 5)<|pv 4) bX))) ax)))
  (cQ<|aW bK rfl T.tuple Pr<|fC<|oo rfl T.sorted rfl T.abs<|pv 2))),?_⟩
 refine⟨Oy _,λO X=>?_⟩;have k1:=ad X<|.lst [];have s1:=@aa H O (.lst []);refine⟨_,rfl,(aS (k1 _ _ hp) rfl ⟨qa,rfl,⟨_,SqL.of<|k1 _ _ hq⟩,cy (K:=K) (a:=qa) (X:=xs) (HL p b O t d B H) ⟨NZ,NZ,NZ,rfl,s1,k1⟩ ?_ ?_ ?_⟩)⟩
 ·rintro i σ Y S ⟨S,S,S,S,S,k⟩;exact SqL.of<|k _ _ hq
 ·rintro i x σ Y m ⟨v3,v4,v5,rfl,I,G⟩;obtain⟨c,J,tc,rfl,Q7⟩:=(TQ.mono G).get m;have Xy:=N5 J;have v:=N c Xy;have a8:=bv v;have Wy:=(N4.mp J).1;have et:(d.take<|i+1).foldl (cD t B) []=cD t B ((d.take i).foldl (cD t B) []) c:=by
   rw[OJ,J,Vw];rfl
  have Ci:=lS (t:=t) W i (OW Wy);have as:((d.take i).foldl (cD t B) []).length<=60:=by
   have M:∀a∈(d.take i).foldl (cD t B) [],∀o∈(d.take i).foldl (cD t B) [],absI a=absI o->a=o:=λa Z o u e=>by
    obtain⟨a1,c1,d1,f1⟩:=Ci.st a Z;obtain⟨a2,S⟩:=Ci.st o u;exact lR ((N c1<|Qr d1).2 a f1).1 a1 a2 e
   have av:(((d.take i).foldl (cD t B) []).map absI).Nodup:=by
    refine Pq.mpr<|Ci.nd.imp_of_mem λ{x y} m hy Wi e=>Wi<|M x m y hy e
   have az:∀x∈((d.take i).foldl (cD t B) []).map absI,x∈(O7 19).map (λn:Nat=>(n:Int)):=λx m=>by
    obtain⟨l,hl,rfl⟩:=OH.mp m;obtain⟨S,c1,d1,f1⟩:=Ci.st l hl;have hr:=(N c1<|Qr d1).2 l f1;exact OH.mpr ⟨(absI l).toNat,by grind,by lia⟩
   have:=qA av az;rw[B',B',PB]at this;lia
  generalize (d.take i).foldl (cD t B) []=Ri at I et as;refine fw ?_;exists _,rfl,_,rfl,O,tc,Ri,c,rfl,I,Q7,_,rfl;cases g:Ri.any λz=>c.contains z with
  |true=>
   refine ak ⟨_,_,_,rfl,?_,G⟩;rw[et];unfold cD;rw[g,On rfl];exact I
  |false=>
   refine ap ?_;refine⟨_,rfl,tc,rfl,⟨_,SqT.of Q7⟩,λD1 n1=>?_⟩;refine aY [gV<|.ref b] (ue λl=>cC NW B l) (λx=>x) rfl Q7 n1 (by rw[B'];lia) ?_ ?_ ?_
   ·intro x m H' R k r;obtain⟨z,hz,rfl⟩:=bo m;exact⟨_,rfl,_,rfl,z,b,B,rfl,k _ _<|G _ _ hb,(by lia),(v.2 z hz).1,cC NW B z,Am (v.2 z hz).1,r⟩
   ·intro x m S H' R k r;exact⟨_,rfl,r⟩
   rw[cB _ (λl=>cC NW B l) _ λi=>rfl];have j1:=ad n1<|.lst<|(cw B c).map V.int;have r1:=@aa Y D1 (.lst<|(cw B c).map V.int);refine(show∀U,Same Y U->U D1=gV (.lst<|(cw B c).map V.int)->rf _ _ _ _ U from λU j1 r1=>?_) _ j1 r1;have aC:(cw B c).length<=18:=O8 (O0 _ _) (O8 a8 ht);refine⟨_,rfl,D1,rfl,⟨_,SqL.of r1⟩,λD2 n2=>?_⟩;refine cM [gV<|.ref p] (ue λl=>cP t (absI l-1).toNat) (λx=>x) rfl r1 n2 (by rw[B'];lia) ?_ ?_ ?_
   ·intro x m H' R k r;obtain⟨z,hz,rfl⟩:=bo m;have a9:=v.2 z (Oj.mp hz).1;have r':R (cP t (absI z-1).toNat) H':=r;refine⟨_,rfl,_,rfl,z,rfl,p,t,_,(absI z-1).toNat,(by rw[show(((absI z-1).toNat:Nat):Int)+1=absI z by lia];rfl),k _ _<|j1 _ _<|G _ _ hp,(by omega),(by lia),.inl ⟨rfl,_,rfl,?_⟩⟩;cases gw:cP t (absI z-1).toNat with
    |true=>
     rw[gw]at r';assumption
    |false=>
     rw[gw]at r';assumption
   ·intro x m S H' R k r;exact⟨_,rfl,r⟩
   rw[cB _ (λl=>cP t (absI l-1).toNat) _ λi=>rfl];have j2:=ad n2<|.lst<|((cw B c).filter λl=>cP t (absI l-1).toNat).map V.int;have r2:=@aa U D2 (.lst<|((cw B c).filter λl=>cP t (absI l-1).toNat).map V.int);dsimp only;generalize upd U D2 (.lst<|((cw B c).filter λl=>cP t (absI l-1).toNat).map V.int)=H4 at j2 r2 ⊢;have ac:=(j1.trans j2) _ _ I;have aF:=j2 _ _ r1;have am:o6 t B c=(((cw B c).filter λl=>cP t (absI l-1).toNat)++cw B c).headD 0:=rfl;have Wi:((cw B c).filter λl=>cP t (absI l-1).toNat)++cw B c≠[]:=by
    obtain⟨l,hl,hh⟩:=W c Xy;exact List.append_ne_nil_of_right_ne_nil _<|X1<|Oj.mpr ⟨hl,hh⟩
   have ba:((cw B c).filter λl=>cP t (absI l-1).toNat).length<=18:=O8 (O0 _ _) aC;refine⟨_,rfl,.inl ⟨rfl,_,SqL.of ac⟩,_,rfl,_,rfl,D2,D1,_,_,rfl,rfl,r2,aF,OW (ah<|by rw[B',B'];lia),λL n=>?_⟩;rw[<-OF];generalize ((cw B c).filter λl=>cP t (absI l-1).toNat)++cw B c=ps at am Wi;have j3:=ad n<|.lst<|ps.map V.int;have r3:=@aa H4 L (.lst<|ps.map V.int);have aL:kZ (ps.map V.int) (0:Int)=gV (.int<|o6 t B c):=by
    cases ps with
    |nil=>simp_all
    |cons y r=>rw[am];exact aG rfl
   refine(fz r3 aL ⟨O,_,_,rfl,rfl,j3 _ _ ac,ah (by rw[B'];lia),?_⟩);refine⟨_,_,_,rfl,?_,(G.trans<|j1.trans<|j2.trans j3).upd_new X _⟩;rw[aa,et];unfold cD;rw[g,Oo N6,OF];rfl
 rintro σ Y ⟨v3,v4,v5,rfl,I,G⟩;rw[Oi<|by rw[TQ.length];exact N9 _]at I;have a0:Y O=gV (.lst<|(hU t d B).map _):=I;have M:∀a∈hU t d B,∀o∈hU t d B,absI a=absI o->a=o:=λa Z o u e=>by
  obtain⟨a1,c1,d1,f1⟩:=C.st a Z;obtain⟨a2,S⟩:=C.st o u;exact lR ((N c1 d1).2 a f1).1 a1 a2 e
 have a3:(hU t d B).length<64:=by
  have P1:=bv<|se N W;have:(fY t d B).length=(hU t d B).length:=(SD _ _).length_eq;lia
 refine⟨_,rfl,O,_,rfl,SqL.of a0,a3,λL5 r a4 D ho=>⟨L5,_,rfl,.inl ⟨SqL.of aa,λL6 a5=>?_⟩⟩⟩;have er:r=fY t d B:=by
  refine jV (rD ho (D.nodup_iff.mpr C.nd) λa Z o u e=>M a (D.mem_iff.mp Z) o (D.mem_iff.mp u) e) (yi N W) λl=>?_;rw[eH];exact D.mem_iff
 subst er;exact q L6 _ (G.trans<|(ad a4 _).trans<|ad a5 _) aa
noncomputable abbrev Dk:Pn:=cW (b9 76) 6
noncomputable abbrev Ma:Pn:=cW (b9 76) 7
noncomputable def hZ:M' (ab Int)->Og
 |none=>.none
 |some c=>i_ c
theorem Kf(h:mP H o v):RD H (hZ o) v:=by
 cases o with
 |none=>
  assumption
 |some c=>exact CL.rd h
theorem m_:∀{os:ab (M'<|ab Int)} {v:ab V},iG H os v->dH H (os.map hZ) v
 |_,_,.nil=>aM
 |_,_,.cons h t=>ai (Kf h)<|m_ t
theorem kr:∀os:ab (M'<|ab Int),P6 (os.map hZ)=NW
 |[]=>rfl
 |o::os=>by
  have h:(hZ o).canLay0=true:=by
   cases o with
   |none=>rfl
   |some c=>
    have:=js [c];rw[OT]at this;unfold P6 at this;rw[OO]at this;exact this.1
  show P6 (hZ o::os.map hZ)=NW
  unfold P6;rw[h,kr os];rfl
theorem yo(o:M' (ab Int)):Pe (hZ o) (.tuple [])=decide (o=gV []):=by
 cases o with
 |none=>
  rfl
 |some c=>
  show Pe (i_ c) _=_
  rw[jt];simp
theorem Dm(o:M' (ab Int)):Pe (hZ o) .none=decide (o=NZ):=by
 cases o with
 |none=>
  rfl
 |some c=>
  rfl
theorem wA:(((cj t C b).map hZ).any λd=>Pe d<|.tuple [])=C.any (dj t b):=by
 unfold cj;rw[OZ,R5]
 congr 1
 funext c
 exact yo _
theorem wB:decide (((cj t C b).map hZ).countP (λd=>Pe d .none)=C.length)=C.all λc=>decide (cR b (aq t N8 c)=NZ):=by
 unfold cj;rw[OZ,Zv];have e:((λd=>Pe d .none)∘hZ∘λc=>cR b<|aq t N8 c)=λc=>decide (cR b (aq t N8 c)=NZ):=by
  funext c
  exact Dm _
 rw[e,P9,O5,List.countP_eq_length,O2]
inductive sA (a:J')(vs:ab V)(H:Hp)(Q:VK)(E:XK):Prop
 |mk (A:SA)(t:Str)(C:ab (ab Int))(S:SS)(h0:vs=[.ref A.x])(h:SrAt a A t C S H)(L:kn t C S)(hc:∀c∈C,au t.length c)(ht:t.length<=9)(hcs:C.length<=900)(q:∀b,SrAt a A t C (gx t C S) b->Mv A H b->Q .non b)
theorem Ao{S:SS}(L:kn t c S)(h:t.length<=9):cI S+2*pend S.fs<=4096:=by
 have H:=L.few;have a:=o7 _ _ L.I.blen;have b:2^(t.length+1)<=2^10:=RF (by decide) (QN h);lia
theorem Dn{S:SS}(L:kn t C S)(l:aO t C h (S.ow h) d=gV c)(g:bn d)(H:au t.length c)(a:Af h S.bs (aq t h c)):oY t C h (aq t h c) (bF t h d c S):=
 ⟨lO L.I l g,lP,by rwa[fg],jB H,eW.trans L.win,lQ L.emp⟩
theorem Do(F:Fun K "look" "Searcher.look" Dk f fd)(T:pS K mg n)(a7:Fe P w K mg b 2 "hitting_set" wz)(ac:tp P w K mg b a_ 4 n "learn" W e2 ["self","hand","line","literals"] (iH n))(ZH:tp P w K mg b a_ 6 n "turn_back" g3 e3 ["self","hand","literals"] (sk n))(a8:tp P w K mg b a_ 2 n "fill_in" g4 e4 ["self","value","first"] (m9 n)):ay P w K mg b a_ 7 f fd ["self"] (sA n):=by
 refine F.okB (N:=["self","rests","place","literals"]) λQC A aF s H vs Q E sc hr h=>?_;obtain⟨B,t,C,S,rfl,h,L,D,ht,G,q⟩:=h;have hu:=hr.units;have a9:=Ao L ht;obtain⟨r,Zd,am⟩:=h.r;have ba:=am.len;have bb:=L.I.blen;have bc:=L.I.flen;have X':r[r.length-1]?=gV (r.getD (r.length-1) .non):=aE (by simp_all);obtain⟨a,ws,ev,g,bf,o⟩:=am.at_ _ _ X';rw[ev]at X';rw[show r.length-1=S.bs.length by lia,Oi<|N9 _]at o;have aL:=paired_len o;have an:(cj t C S.bs).length=C.length:=B' _;obtain⟨xs,as,I⟩:=h.hq;refine⟨_,(ae gg
  (ar (aQ (cV ((JG hu)) gg (pv 1)<|by rfl) (ae (sT 2<|gG Ph TV VR (qw hu) (pv 1) gg)
   (ar<|dm<|jW ZH (pv 0) hr (by simp)<|kT (ci rfl T.g_SPOILER)<|jW ac (pv 0) hr (by simp)<|aV (ci rfl T.g_SPOILER) gg)) (ar (aQ (oG (dN hu) (gG Ph WT PySem.F.type_list_count (zQ hu) (pv 1)<|fC fE)<|aN ca rfl T.len P5<|fC<|pv 1) (ae gg
    (ar<|dm<|jW ZH (pv 0) hr (by simp)<|kT (ci rfl T.g_WISHER)<|jW ac (pv 0) hr (by simp)<|aV (ci rfl T.g_WISHER) gg)) gg))))),?_⟩
 refine⟨_,rfl,B.x,n,B.dx,_,_,rfl,h.hx,T.cl,T.nR,rfl,_,rfl,(fz Zd (uV X') ?_)⟩;refine⟨Oy _,λet a0=>?_⟩;have e:=ad a0<|.tup [];have s1:=@aa H et (.tup []);have v:=h.same e;generalize upd H et (.tup [])=H1 at e s1 v ⊢;refine⟨_,rfl,.tuple [],(cj t C S.bs).map hZ,bx s1 aM,f_ (e _ _ g)<|m_<|(TupS.of e).opts o,by rfl,kr _,by decide+kernel,_,rfl,?_⟩;rw[wA];unfold gx at q;by_cases g1:C.any (dj t S.bs)=NW
 ·rw[On g1]at q;rw[g1];have X:C.findIdx (dj t S.bs)<C.length:=TJ<|OC.mp g1;have hx:=aE (d:=([]:ab Int)) X;have av:∀j,j<C.length->Pe (((cj t C S.bs).map hZ).getD j .none) (.tuple [])=dj t S.bs (C.getD j []):=λj hj=>by
   have:((cj t C S.bs).map hZ).getD j .none=hZ (cR S.bs<|aq t N8<|C.getD j []):=by
    rw[K'];unfold cj;rw[OZ,Ox,aE (d:=([]:ab Int)) hj];rfl
   rw[this];exact yo _
  have J:dj t S.bs (C.getD (C.findIdx<|dj t S.bs) [])=true:=by
   have:=W7 (w:=X) (p:=dj t S.bs) (xs:=C);rw[K',N1 X];exact this
  refine ap ⟨_,rfl,.inl ⟨rfl,_,SqL.of<|e _ _ g⟩,Oy _,λe2 n2=>?_⟩;have Y:=ad n2<|.tup [];have s2:=@aa H1 e2 (.tup []);have u:=v.same Y;have Z:=e.trans Y;generalize upd H1 e2 (.tup [])=H2 at Y s2 u Z ⊢;refine⟨.tuple [],(cj t C S.bs).map hZ,_,a,ws,C.findIdx<|dj t S.bs,rfl,rfl,Z _ _ g,m_<|(TupS.of Z).opts o,bx s2 aM,by rfl,kr _,by decide+kernel,by rw[B',an];exact X,(av _ X).trans J,λm hm=>?_,?_⟩
  ·rw[av m<|by exact Wd hm X];have:=Wf hm;grind
  generalize C.findIdx (dj t S.bs)=i at q X hx J;have k:=D _<|N5 hx;obtain⟨tc,a1,Q7⟩:∃tc,xs[i]?=gV (.ref tc)/\jg H2 tc (C.getD i []):=by
   have a2:=(I.mono Z);have az:i<xs.length:=by have:=I.length;lia
   obtain⟨c',e1,e2,e3,e4⟩:=a2.get<|N1 az;rw[hx]at e1;cases e1;exact⟨e2,by rw[N1 az,e3],e4⟩
  refine⟨_,rfl,B.x,B.dx,_,rfl,u.hx,rfl,_,rfl,B.x,B.dx,_,rfl,u.hx,rfl,_,rfl,(by show 2<=sizeLine;decide),λga N=>?_⟩;have M:=ad N<|.tup [.str aU,.int (i:Int)];have s3:=@aa H2 ga (.tup [.str aU,.int (i:Int)]);have h3:=u.same M;have x:=Z.trans M;have Xs:aO t C N8 (S.ow N8) (hV i)=gV (C.getD i []):=by
   unfold hV;rw[hO,Oo N6];unfold ju;rw[gM (by lia),O4];rfl
  have p:bn (hV i):=.inl ⟨_,rfl⟩;have Sv:=fh (t:=t) (h:=N8) (d:=hV i) (c:=C.getD i []) (S:=S);have O:=iE (t:=t) (h:=N8) (d:=hV i) (c:=C.getD i []) (S:=S);have U:=fg (t:=t) (h:=N8) (d:=hV i) (c:=C.getD i []) (S:=S);refine⟨_,rfl,B.x,n,B.dx,_,_,rfl,h3.hx,T.cl,T.nS,rfl,(aS h3.hp rfl ⟨_,rfl,(fz (x _ _ as) (aG a1) ?_)⟩)⟩;refine⟨B,t,C,S,N8,_,.ref tc,hV i,C.getD i [],rfl,h3,bx s3<|ai (c_ _)<|ai (bO _) aM,p,⟨tc,rfl,M _ _ Q7⟩,k,(by lia),(by lia),λla H4 h4 m4 Zy=>?_⟩;refine⟨B,t,C,_,N8,.ref la,_,rfl,h4,⟨la,rfl,Zy⟩,Dn L Xs p k<|uP k J,D,(by lia),G,(by rw[O];lia),λH5 h5 m5=>?_⟩;rw[U]at h5;exact q H5 h5<|(Mv.of x).trans<|m4.trans m5
 have Yc:C.any (dj t S.bs)=false:=by
  lia
 rw[Oo g1]at q;rw[Yc];refine ak ?_;refine⟨_,rfl,.inl ⟨rfl,_,SqL.of<|e _ _ g⟩,.none,(cj t C S.bs).map hZ,_,a,ws,rfl,rfl,e _ _ g,m_<|(TupS.of e).opts o,xz,by rfl,kr _,by decide+kernel,?_⟩;refine⟨_,rfl,.ref a,_,rfl,.inl ⟨_,SqL.of<|e _ _ g,rfl⟩,.inl ⟨rfl,_,rfl,?_⟩⟩;have a3:decide (V.int ((((cj t C S.bs).map hZ).countP λd=>Pe d .none:Nat):Int)=V.int (ws.length:Nat))=C.all λc=>decide (cR S.bs (aq t N8 c)=NZ):=by
  rw[<-wB,<-aL,an];lia
 rw[a3];by_cases W:(C.all λc=>decide (cR S.bs (aq t N8 c)=NZ))=NW
 ·rw[On W]at q;rw[W];have hs:∀c∈C,∃l∈c,cC NW S.bs l=true:=λc Xy=>mK<|Oh<|O2.mp W c Xy;have k:=se D hs;refine ap ?_;refine⟨_,rfl,B.x,n,B.dx,_,_,rfl,v.hx,T.cl,T.nS,rfl,_,rfl,B.x,n,B.dx,_,_,rfl,v.hx,T.cl,T.nB,rfl,B.p,B.q,B.b,t,xs,C,S.bs,rfl,v.hp,e _ _ as,I.mono e,v.b,D,(by lia),(by lia),hs,λhl H2 Y a4=>?_⟩;have u:=v.same Y;have Z:=e.trans Y;refine⟨_,rfl,B.x,B.dx,_,rfl,u.hx,rfl,_,rfl,B.x,B.dx,_,rfl,u.hx,rfl,_,rfl,(by show 2<=sizeLine;decide),λga N=>?_⟩;have M:=ad N<|.tup [.str bP,.ref hl];have s3:=@aa H2 ga (.tup [.str bP,.ref hl]);have h3:=u.same M;have x:=Z.trans M;have aC:jg _ hl (fY t C S.bs):=M _ _ a4;have Xs:=uQ D hs<|S.ow NW;have p:bn (mJ<|fY t C S.bs):=.inr<|.inl ⟨_,by have:=bv k;lia,rfl⟩;have Sv:=fh (t:=t) (h:=NW) (d:=mJ<|fY t C S.bs) (c:=fY t C S.bs) (S:=S);have O:=iE (t:=t) (h:=NW) (d:=mJ<|fY t C S.bs) (c:=fY t C S.bs) (S:=S);have U:=fg (t:=t) (h:=NW) (d:=mJ<|fY t C S.bs) (c:=fY t C S.bs) (S:=S);refine⟨_,rfl,?_⟩;refine⟨B,t,C,S,NW,_,.ref hl,mJ<|fY t C _,fY t C _,rfl,h3,bx s3<|ai (c_ _)<|ai (CL.rd ⟨hl,rfl,aC⟩) aM,p,⟨hl,rfl,aC⟩,k,(by lia),(by lia),λla H4 h4 m4 Zy=>?_⟩;refine⟨B,t,C,_,NW,.ref la,_,rfl,h4,⟨la,rfl,Zy⟩,Dn L Xs p k λl a5=>((eN hs).st l<|eH.mp (Oj.mp a5).1).1,D,(by lia),G,(by rw[O];lia),λH5 h5 m5=>?_⟩;rw[U]at h5;exact q H5 h5<|(Mv.of x).trans<|m4.trans m5
 have a6:(C.all λc=>decide (cR S.bs (aq t N8 c)=NZ))=false:=by
  lia
 rw[Oo W]at q;rw[a6];exact ak<|⟨_,rfl,B.x,B.dx,_,rfl,v.hx,rfl,B,t,C,S,N8,.non,NZ,rfl,v,rfl,D,(by lia),G,(by lia),(by lia),λH2 u m2=>q H2 u<|(Mv.of e).trans m2⟩
inductive Dp (a:J')(vs:ab V)(H:Hp)(Q:VK)(E:XK):Prop
 |mk (A:SA)(t:Str)(C:ab (ab Int))(S:SS)(n:Nat)(h0:vs=[.ref A.x,.int (n:Int)])(h:SrAt a A t C S H)(L:kn t C S\/EU t C S)(hc:∀c∈C,au t.length c)(ht:t.length<=9)(hcs:C.length<=900)(q:∀b,SrAt a A t C (tu t C n S) b->Mv A H b->Q (.bl (tu t C n S).win.isSome) b)
inductive Nt (C:J')(A:SA)(t:Str)(c:ab (ab Int))(n:Nat)(R:SS)(H:Hp)(m:Nat)(b:St)(a:Hp):Prop
 |mk (S:SS)(j:Nat)(h0:b=[gV<|.ref A.x,gV<|.int (n:Int),gV<|.int (j:Int)])(d:j+m=n)(h:SrAt C A t c S a)(hm:Mv A H a)(L:kn t c S\/EU t c S)(e:tu t c m S=R)
theorem Gm{S:SS}(h:S.win.isSome=NW):∀k,tu t c k S=S
 |0=>rfl
 |k+1=>by unfold tu;rw[On h]
theorem Kg(F:Fun K "go" "Searcher.go" Ma f O)(T:pS K M C)(U:tp P w K M d a_ 7 C "look" g1 e1 ["self"] (sA C)):ay P w K M d a_ 8 f O ["self","many"] (Dp C):=by
 refine F.okB (N:=["self","many","looks"]) λQC A o s H vs Q E X hr h=>?_;obtain⟨B,t,c,r,n,rfl,Y,Z,u,ht,k,q⟩:=h;obtain⟨R,a⟩:∃R,R=tu t c n r:=⟨_,rfl⟩;rw[<-a]at q;refine⟨_,(ae gg
  (ae (jM PU gg
   (ae gg
   (ar<|IK (i:=2) X.nd rfl (XW rfl) bX IL)))
  gg)),?_⟩
 exists Nt C B t c n R H,⟨n,r,0,rfl,by simp,Y,.of<|Same.refl _,Z,a.symm⟩;rintro m σ v ⟨S,j,rfl,hj,h,D,L,l⟩;have G:S=R->EY (E2 (λx y H Q=>y=V.non/\Q (V.bl !decide (x=V.non)) H) (IX K (mN 0) _)<|tC _) {nx:=λ_ i=>Q .non i,rt:=Q} [gV<|.ref B.x,gV<|.int (n),gV<|.int (j)] v:=λe=>by
  exists _,rfl,B.x,C,B.dx,_,_,rfl,h.hx,T.cl,T.nW,rfl,rfl;rw[e]at h ⊢;have:=q v h D;cases b:R.win with
  |none=>rwa[b]at this
  |some I=>rwa[b]at this
 exists _,rfl,_,rfl,_,_,rfl,rfl,_,rfl;cases m with
 |zero=>
  rw[N7<|by simp_all];exact ak<|ak<|G l
 |succ m=>
  rw[N3<|by lia];refine ap ⟨_,rfl,B.x,C,B.dx,_,_,rfl,h.hx,T.cl,T.nW,rfl,rfl,_,rfl,?_⟩;cases b:S.win with
  |some I=>
   exact ak (G<|by rw[<-l,Gm<|by rw[b];rfl])
  |none=>
   have J:kn t c S:=by
    obtain L|W:=L
    ·exact L
    obtain⟨I,e,_⟩:=W.hw;lia
   refine ap ⟨λg i=>∃N,N<m+1/\Nt C B t c n R H N g i,λg i z=>z,⟨_,rfl,B.x,B.dx,_,rfl,h.hx,rfl,B,t,c,S,rfl,h,J,u,ht,k,λH2 h2 m2=>?_⟩⟩;have p:tu t c m (gx t c S)=R:=by
    rw[<-l];show _=if S.win.isSome=NW then S else tu t c m _
    simp_all
   have Ln:=(uR u (by lia) J).imp (λz=>z.1) id;refine⟨_,rfl,_,_,rfl,rfl,m,by simp,gx t c S,j+1,?_,by lia,h2,D.trans m2,Ln,p⟩;simp
noncomputable abbrev Dq:Pn:=cW (b9 76) 0
def BtX(x:J')(H h:Hp):Prop:=∀b o,b≠x->H b=gV o->h b=gV o
theorem BtX.of(k:Same H h):BtX x H h:=λb o z e=>k b o e
theorem BtX.put(k:BtX x H a):BtX x H (upd a x o):=λb u h e=>by rw[af h];exact k b u h e
theorem BtX.trans(k:BtX x H c)(j:BtX x c h):BtX x H h:=λb u a e=>j b u a<|k b u a e
theorem BtX.free(k:BtX x H b)(h:b a=NZ)(n:a≠x):H a=none:=by
 cases e:H a with
 |none=>rfl
 |some o=>rw[k a o n e]at h;cases h
inductive sB (b:J')(vs:ab V)(H:Hp)(Q:VK)(E:XK):Prop
 |mk (x dx p q:J')(t:Str)(xs:ab V)(C:ab (ab Int))(h0:vs=[.ref x,.ref p])(hx:H x=gV (.ins b dx []))(hp:H p=gV (.tup [.str t,.ref q]))(hq:H q=gV (.lst xs))(T:CLs H C xs)(hc:∀c∈C,au t.length c)(ht:t.length<=9)(hcs:C.length<=900)(F:J'->Prop)(d:∀a,F a->a≠x/\∃o,H a=gV o)
  (e:∀A h,A.x=x->A.far=F->SrAt b A t C o8 h->BtX x H h->(∀a,A.own a->a=x\/H a=NZ)->Q .non h):sB b vs H Q E
theorem Dr:gz [] [((Sb (N_ "spoiler"):aR),V.ref a),(Sb<|N_ "wisher",V.ref A)]=jC λb=>if b=NW then A else a:=by
 rfl
theorem Ds(k:∀h R,(∀p,h p=NZ->R (.ref p) (upd h p o))->T i h R)(m:∀h R,(∀p,h p=NZ->R (.ref p) (upd h p o))->t i h R)(q:∀d l h,Same H h->H d=NZ->(∀b,H (l b)=NZ)->l N8≠l NW->h d=gV (.dK<|jC l)->(∀b,h (l b)=gV o)->Q (.ref d) h):
  tT [(tC<|.str<|N_ "spoiler",T),(tC<|.str<|N_ "wisher",t)] i H Q:=by
 refine λdl n=>k _ _ λa c=>m _ _ λA N=>?_;have D:a≠dl:=λz=>by rw[z,aa]at c;cases c
 have f:A≠a:=λz=>by rw[z,aa]at N;cases N
 have g:A≠dl:=λz=>by rw[z,af λz=>D z.symm,aa]at N;cases N
 have F:H a=none:=by rwa[af D]at c
 have j:H A=none:=by rwa[af f,af g]at N
 exists by rw[af λz=>g z.symm,af λz=>D z.symm];exact aa,[(Sb<|N_ _,.ref a),(Sb<|N_ _,.ref A)],rfl,(by show 2<=15;decide);rw[Dr];refine q dl _ _ (λb u e=>?_) n (λb=>?_) (λz=>f z.symm) aa λb=>?_
 ·rwa[af<|ag e n,af<|ag e j,af<|ag e F,af<|ag e n]
 ·cases b
  ·exact F
  exact j
 cases b
 ·show upd _ dl _ a=_
  rw[af D,af λz=>f z.symm];exact aa
 show upd _ dl _ A=_
 rw[af g];exact aa
theorem uW{K:C'}{f:Str}{B:TS}{D:jk}(i:∀h R,(∀p,h p=NZ->R (.ref p) (upd h p o))->T c h R)(j:∀h R,(∀p,h p=NZ->R (.ref p) (upd h p o))->t c h R)(q:∀d l h,Same H h->H d=NZ->(∀b,H (l b)=NZ)->l N8≠l NW->h d=gV (.dK<|jC l)->(∀b,h (l b)=gV o)->
  mN 0 c h λx e=>∃a C g F,x=.ref a/\e a=gV (.ins C g F)/\Cls K C/\NoAttr K C f/\F.length<1000/\B D c (upd e a<|.ins C g<|fX f (.ref d) F)):
  rf (IY K (mN 0) (tT [(tC<|.str<|N_ "spoiler",T),(tC<|.str<|N_ "wisher",t)]) f) B D c H:=by
 unfold rf IY;exact Ds i j q
theorem o9:∀{a:ab (ab Int)} {v:ab V},CLs H a v->iG H (a.map gV) v
 |_,_,.nil=>.nil
 |_,_,.cons h t=>.cons h<|o9 t
inductive HM (x D:J')(t:Str)(C:ab (ab Int))(h:Hp)(i:Nat)(a:St)(ys:ab V)(H:Hp):Prop
 |mk (v:M' V)(h0:a=[v,gV (.ref x)])(b:H D=gV (.lst ys))(d:Same h H)(e:CLs H ((C.take i).map λc=>aq t N8 c) ys)
theorem wC(h:au n c):cR [] c=gV c:=by
 unfold cR;rw[Oo (λz=>by obtain⟨l,y,e⟩:=OC.mp z;cases e)]
 congr 1
 refine Qz.mpr λl H=>?_;have:=(h.2 l H).1;rw[O5];show(0)<absI l
 lia
theorem jD{R:Hp->Prop}(h:H x=gV (.ins c d F))(l:Cls K c)(n:NoAttr K c f)(b:Xh F.length 999=NW)(q:∀G,BtX x H G->G x=gV (.ins c d<|fX f v F)->R G):∃a C d' F,V.ref x=.ref a/\H a=gV (.ins C d' F)/\Cls K C/\NoAttr K C f/\F.length<1000/\R (upd H a<|.ins C d'<|fX f v F):=
 ⟨x,c,d,F,rfl,h,l,n,YA<|Ww b,q _ (BtX.of<|Same.refl _).put aa⟩
theorem o_(n:H a=NZ)(o:HO):∃G,upd H a o=G/\Same H G/\G a=gV o:=⟨_,rfl,ad n o,aa⟩
theorem BtX.tup(k:BtX x H h)(a:H x=gV (.ins C d f)):TupS H h:=λz z e=>k _ _ (by lia) e
theorem nw{H:Hp}(e:H b=gV o)(n:H a=NZ):a≠b:=P0<|ag e n
theorem Dt(F:Fun K "__init__" "Searcher.__init__" Dq f fd)(T:pS K mg CS)(WG:Fe P w K mg a2 3 "dropped" eJ):ay P w K mg a2 a_ 4 f fd ["self","sentence"] (sB CS):=by
 refine F.okB (N:=["self","sentence"]) λQC A b0 s H vs Q E sc hr h=>?_;obtain⟨x,dx,p0,q0,t,xs,cs,rfl,U,hp,hq,TQ,hc,ht,c3,Fr,W,q⟩:=h;refine⟨_,(ae (jm (pv 0) (dZ<|kT gg<|aW gU rfl T.list RO gg) rfl)
  (ae (jm (pv 0) (uE (ci rfl T.g_SPOILER) gg (ci rfl T.g_WISHER) gg) rfl)
  (ae (jm (pv 0) (uE (ci rfl T.g_SPOILER) nN (ci rfl T.g_WISHER) nN) rfl)
  (ae gg
  (ae gg
  (ae (jm (pv 0) (A5<|fC<|fW ["clause","self"] [NZ,gV 0] (aD gg) (e:=λV V V V=>(B4 WG hr<|aV (FT (K:=K) rfl (pv 1) rfl)<|kT (ci rfl T.g_SPOILER)<|pv 0))) rfl)
  gg)))))),?_⟩
 refine⟨_,rfl,(aS hp rfl ⟨_,rfl,(aS hp rfl ⟨q0,xs,rfl,.inl<|SqL.of hq,λqa nq=>⟨(by show 2<=sizeLine;decide),λpa np=>?_⟩⟩)⟩)⟩;obtain⟨H0,e,j1,sq⟩:=o_ nq<|.lst xs;rw[e]at np ⊢;obtain⟨H1,e,j2,sp⟩:=o_ np<|.tup [.str t,.ref qa];rw[e];have N:=nw U nq;have X:=nw (j1 _ _ U) np;refine⟨_,rfl,jD (j2 _ _<|j1 _ _ U) T.cl T.nS rfl λG j x1=>?_⟩;have q1:=j _ _ N<|j2 _ _ sq;have p1:=j _ _ X sp;replace j:=(BtX.of<|j1.trans j2).trans j;refine uW (o:=.lst []) (λH' R r=>⟨Oy _,r⟩) (λH' R r=>⟨Oy _,r⟩) λdl ll G1 k1 b2 Y b3 b4 b5=>?_;refine⟨_,rfl,jD (k1 _ _ x1) T.cl T.nL rfl λG2 l x2=>?_⟩;have d:=λb=>nw x1<|Y b;have a3:=nw x1 b2;have b7:=l _ _ a3 b4;have a4:=λb=>l _ _ (d b)<|b5 b;replace l:=(BtX.of k1).trans l;refine uW (o:=.dT []) (λH' R r=>r) (λH' R r=>r) λdp pp G3 k3 cc ac cd ce cf=>?_;refine⟨_,rfl,jD (k3 _ _ x2) T.cl T.nP rfl λG4 m x4=>?_⟩;have C:=λb=>nw x2<|ac b;have a5:=nw x2 cc;have ch:=m _ _ a5 ce;have a6:=λb=>m _ _ (C b)<|cf b;replace m:=(BtX.of k3).trans m;refine⟨Oy _,λba nb=>?_⟩;obtain⟨G5,e,k5,sb⟩:=o_ nb<|.lst [];rw[e];have p:=nw x4 nb;refine⟨_,rfl,jD (k5 _ _ x4) T.cl T.nB rfl λG6 I x6=>?_⟩;have b6:=I _ _ p sb;replace I:=(BtX.of k5).trans I;refine⟨Oy _,λfa nf=>?_⟩;obtain⟨G7,e,k7,sf⟩:=o_ nf<|.lst [];rw[e];have am:=nw x6 nf;refine⟨_,rfl,jD (k7 _ _ x6) T.cl T.nF rfl λG8 J x8=>?_⟩;have f8:=J _ _ am sf;replace J:=(BtX.of k7).trans J;have ck:p0≠x:=λz=>by simp_all
 have cl:q0≠x:=λz=>by simp_all
 have co:=m.trans<|I.trans J;have a7:=l.trans co;have B:=j.trans a7;have a8:=B _ _ cl hq;have cp:=a7 _ _ X p1;have ct:=(B.tup U).cls TQ;have c5:=TQ.length;refine⟨_,rfl,(aS (B _ _ ck hp) rfl ⟨q0,rfl,⟨_,SqL.of a8⟩,λD nD=>?_⟩)⟩;refine bB (K:=K) (a:=q0) (xs:=xs) (HM x D t cs G8) ⟨NZ,rfl,aa,ad nD _,.nil⟩ ?_ ?_ ?_
 ·rintro i σ ys H3 V ⟨V,V,i1,i2,V⟩;exact⟨i1,SqL.of<|i2 _ _ a8⟩
 ·rintro i y σ ys H3 hy ⟨v0,rfl,i1,i2,i3⟩;obtain⟨c,an,tc,rfl,Q7⟩:=(ct.mono i2).get hy;have a9:=hc c<|N5 an;have da:=bv a9;have Wy:=(N4.mp an).1;have cu:=i3.length;rw[B',OB]at cu;refine cg ⟨_,rfl,x,CS,dx,_,_,rfl,i2 _ _ x8,T.cl,T.nS,rfl,_,rfl,pa,tc,t,_,N8,c,rfl,i2 _ _ cp,(by lia),Q7,(by lia),a9.2,λla H4 k4 Zy=>?_⟩;have as:=k4 _ _ i1;exists as,ah (by lia),_,rfl,aa,(i2.trans k4).upd_new nD _;rw[OJ,an,OF];exact CLs.snoc (CL.upd ⟨la,rfl,Zy⟩ as)<|(i3.mono k4).upd as
 rintro σ ys G9 ⟨V,V,bb,L,VL⟩;rw[Oi<|by simp_all]at VL;refine⟨(by show 1<=sizeLine;decide),λra M=>?_⟩;obtain⟨db,e,O,sr⟩:=o_ M<|.lst [.ref D];rw[e];have bc:=nw x8 nD;have bf:=nw (L _ _ x8) M;have bg:=O _ _<|L _ _ x8;refine⟨_,rfl,jD bg T.cl T.nR rfl λdc cv cz=>?_⟩;refine⟨_,rfl,jD cz T.cl T.nW rfl λZ c0 c1=>?_⟩;have CZ:=cv.trans c0;have bk:=(BtX.of<|L.trans O).trans CZ;have bl:=J.trans bk;have av:=I.trans bl;have az:=m.trans av;have aC:=l.trans az;have aF:=j.trans aC;have aL:=λb=>m _ _ (d b)<|a4 b;have a0:=λb=>I _ _ (d b)<|aL b;have a1:=λb=>J _ _ (d b)<|a0 b;have bm:=J _ _ p b6;have br:=l _ _ N q1;have bs:=m _ _ N br;have bt:=I _ _ N bs;have Wz:∀a,SA.own ⟨x,dx,pa,qa,dl,dp,ba,fa,ra,ll,pp,Fr⟩ a->a=x\/H a=none:=?_;refine q ⟨x,dx,pa,qa,dl,dp,ba,fa,ra,ll,pp,Fr⟩ Z rfl rfl ?_ aF Wz
 ·refine⟨c1,aC _ _ X p1,⟨xs,aC _ _ N q1,(aF.tup U).cls TQ⟩,az _ _ a3 b7,av _ _ a5 ch,λb=>⟨[],az _ _ (d b)<|a4 b,aM⟩,λb=>⟨[],av _ _ (C b)<|a6 b,rfl,λc=>rfl⟩,bl _ _ p b6,⟨[],bk _ _ am f8,.nil⟩,⟨[.ref D],CZ _ _ bf sr,rfl,λk v hk=>?_⟩,?_,?_,cd,λV V z=>(nomatch z),λV=>rfl,λa z=>?_⟩
  ·cases k with
   |succ k=>simp at hk
   |zero=>
    cases hk;refine⟨D,ys,rfl,CZ _ _ bc<|O _ _ bb,?_,?_⟩
    ·rintro ((z|z|z|z|⟨b,z|z⟩)|z)
     ·exact bc z
     ·exact nw bm nD z
     ·exact nw f8 nD z
     ·exact ag bb M z
     ·exact nw (a1 b) nD z
     ·exact nw (J _ _ (C b)<|I _ _ (C b)<|a6 b) nD z
     obtain⟨n,o,e⟩:=W _ z;exact nw (B _ _ n e) nD rfl
    have e:cj t cs ([])=(cs.map λc=>aq t N8 c).map some:=by
     rw[OZ];exact SE λc Xy=>wC<|gL<|hc c Xy
    show iG Z (cj t cs ([])) ys
    rw[e];exact o9<|(CZ.tup bg).cls<|VL.mono O
  ·rintro ((z|z|z|z|⟨b,z|z⟩)|z)
   ·exact N z
   ·exact ag bs nb z
   ·exact ag bt nf z
   ·exact ag (L _ _<|J _ _ N bt) M z
   ·exact ag q1 (Y b) z
   ·exact ag br (ac b) z
   obtain⟨V,o,e⟩:=W _ z;simp_all
  ·simp only[PJ,Oz,QP,Ui,not_or,not_false_eq_true,Sr,and_true];exact⟨⟨ag b6 nf,ag (L _ _ bm) M,nw (aL _) nb,nw (aL _) nb⟩,⟨ag (L _ _ f8) M,nw (a0 _) nf,nw (a0 _) nf⟩,⟨nw (L _ _<|a1 _) M,nw (L _ _<|a1 _) M⟩,b3⟩
  obtain⟨n,o,e⟩:=W a z;exact⟨λu=>(Wz a u).elim n λg=>(by lia),o,aF _ _ n e⟩
 rintro a (z|z|z|z|⟨b,z|z⟩)
 ·exact .inl z
 ·refine .inr ?_;rw[z];exact(j.trans<|l.trans m).free nb p
 ·refine .inr ?_;rw[z];exact(j.trans<|l.trans<|m.trans I).free nf am
 ·refine .inr ?_;rw[z];exact(B.trans<|BtX.of L).free M bf
 ·refine .inr ?_;rw[z];exact j.free (Y b)<|d b
 refine .inr ?_;rw[z];exact(j.trans l).free (ac b)<|C b
noncomputable abbrev yp:Pn:=cW (b9 76) 9
noncomputable abbrev uX:Pn:=b9 77
noncomputable def ku(d:ab Og)(o:ab (ab Int)):ab Int:=(bR (yd<|d.map<|bS<|bI o) (o.idxOf [])<|o.idxOf []+1).mergeSort λa b=>decide (a<=b)
noncomputable def wD(d:ab Og)(o:ab (ab Int)):ab Og:=fP (d.map<|bS<|bI o)<|ku d o
theorem yq(d:ab Og)(o:ab (ab Int)):SB (ku d o) (bR (yd<|d.map<|bS<|bI o) (o.idxOf [])<|o.idxOf []+1):=SD _ _
theorem qN(d:ab Og)(o:ab (ab Int)):RM (·<=·) (ku d o):=by
 have:=Tf (le:=λa b:Int=>decide (a<=b)) (by lia) (by lia)<|bR (yd<|d.map<|bS<|bI o) (o.idxOf [])<|o.idxOf []+1;exact this.imp λh=>Oh h
theorem Gn(h:SB n (bR (yd<|d.map<|bS<|bI o) (o.idxOf [])<|o.idxOf []+1))(H:RM (·<=·) n):n=ku d o:=J6 h H (yq d o)<|qN d o
inductive pc (b:J')(vs:ab V)(H:Hp)(Q:VK)(E:XK):Prop
 |mk (A:SA)(t:Str)(C:ab (ab Int))(S:SS)(hw:N')(h0:vs=[.ref A.x])(h:SrAt b A t C S H)(W:EU t C S)(y:S.win=gV hw)(he:(S.ow hw).getLast?=gV [])(hc:∀c∈C,au t.length c)(ht:t.length<=8)(hcs:C.length<=900)
  (q:∀r l ys a,Same H a->H r=NZ->H l=NZ->a r=gV (.tup [.str<|ao hw,.ref l])->a l=gV (.lst ys)->dH a (wD (S.lw hw)<|S.ow hw) ys->Q (.ref r) a):pc b vs H Q E
noncomputable def kB(t:Str)(c:ab (ab Int)):SS:=tu t c 10000 o8
noncomputable def iI(t:Str)(c:ab (ab Int)):N':=(kB t c).win.getD N8
noncomputable def Du(t:Str)(c:ab (ab Int)):ab Og:=wD ((kB t c).lw<|iI t c)<|(kB t c).ow<|iI t c
noncomputable def Dv(t:Str)(c:ab (ab Int)):ab (ab Int):=(ku ((kB t c).lw<|iI t c)<|(kB t c).ow<|iI t c).map λp=>((kB t c).ow<|iI t c).getD p.toNat []
theorem yr(H:∀c∈C,au t.length c)(d:t.length<=8):EU t C (kB t C)/\(kB t C).win=gV (iI t C)/\((kB t C).ow<|iI t C).getLast?=gV []:=by
 have f:2^(t.length+1)<=2^9:=RF (by decide) (QN d);have W:=Kd H (O8 d (by decide)) (k:=10000) (qL) (O8 f (Zq _ _));obtain⟨h,a,b⟩:=W.hw;have E:(kB t C).win=gV h:=a;have e:iI t C=h:=by
  unfold iI;rw[E];rfl
 rw[e];exact⟨W,a,b⟩
theorem yt{S:SS}(W:EU t c S)(H:t.length<=8)(h:N'):(S.lw h).length<=2048:=by
 have a:=W.few;have b:=uT S h;have d:2^(t.length+1)<=2^9:=RF (by decide) (QN H);lia
theorem pd{o:ab (ab Int)}(h:o.getLast?=gV []):[]∈o:=List.mem_of_getLast? h
theorem qO(h:o.getLast?=gV []):pR o=true:=by
 unfold pR;rw[h];rfl
structure Mb (t:Str)(cs:ab (ab Int)):Prop where
 run:bQ t cs (iI t cs) [] (Du t cs)=(Dv t cs,NW)
 good:∀d∈Du t cs,bn d
 few:(Du t cs).length<=2048
 last:(Dv t cs).getLast?=gV []
 nodup:(Dv t cs).Nodup
theorem Kh(H:∀c∈C,au t.length c)(h:t.length<=8):Mb t C:=by
 obtain⟨W,E,e⟩:=yr H h;have s:=Gg (W.I.run _) (W.I.good _) (pd e) (yq _ _)<|qN _ _;refine⟨s.run,s.good,?_,?_,s.nodup⟩
 ·have:=yt W h<|iI t C;have:=s.few;show(fP _ _).length<=_
  unfold fP;rw[B'];lia
 unfold Dv;rw[List.getLast?_map,s.last];show gV (((kB t C).ow<|iI t C).getD (((kB t C).ow<|iI t C).idxOf []) [])=gV []
 obtain⟨z,a⟩:=jy<|pd e;rw[K',a];rfl
inductive lU (vs:ab V)(H:Hp)(Q:VK)(E:XK):Prop
 |mk (p q:J')(t:Str)(xs:ab V)(C:ab (ab Int))(h0:vs=[.ref p])(hp:H p=gV (.tup [.str t,.ref q]))(hq:H q=gV (.lst xs))(T:CLs H C xs)(hc:∀c∈C,au t.length c)(ht:t.length<=8)(hcs:C.length<=900)
  (a:∀r l ys h,Same H h->H r=NZ->H l=NZ->h r=gV (.tup [.str<|ao<|iI t C,.ref l])->h l=gV (.lst ys)->dH h (Du t C) ys->Q (.ref r) h):lU vs H Q E
structure Mc (mg:Str->M' NX):Prop where
 g_MOST_LOOKS:mw mg "MOST_LOOKS" (.int 10000)
theorem Ap(F:Fun K "paper" "Searcher.paper" yp f v)(T:pS K M C)(Y:Fe P w K M e 8 "shortened_paper" CU):ay P w K M e a_ 9 f v ["self"] (pc C):=by
 refine F.okB (N:=["self"]) λQC A o s H vs Q E sc c h=>?_;obtain⟨B,t,D,S,b,rfl,h,W,y,G,I,J,d,q⟩:=h;have L:=mv c;have x:=h.hx;rw[y]at x;obtain⟨X,g,i⟩:=h.hq;obtain⟨N,j,m⟩:=h.l b;have O:=yt W J b;refine⟨_,(ae (aQ gg (ar fF) ax)
  (cQ<|B4 Y c<|kT gg<|dZ<|kT gg<|bH L gg gg λV V=>rfl)),?_⟩
 exists _,rfl,B.x,C,B.dx,_,_,rfl,x,T.cl,T.nW,rfl,rfl,_,rfl;rw[N7 λz=>by cases z];refine ak<|⟨_,rfl,B.x,C,B.dx,_,_,rfl,x,T.cl,T.nS,rfl,_,rfl,B.x,C,B.dx,_,_,rfl,x,T.cl,T.nW,rfl,_,rfl,B.x,C,B.dx,_,_,rfl,x,T.cl,T.nL,rfl,_,rfl,B.x,C,B.dx,_,_,rfl,x,T.cl,T.nW,rfl,B.dl,_,rfl,fR h.hl b,(by show 2<=sizeLine;decide),λa U=>?_⟩;have k:=ad U<|.tup [.str<|ao b,.ref<|B.ll b];have Z:=@aa H a (.tup [.str<|ao b,.ref<|B.ll b]);exact⟨B.p,B.q,a,B.ll b,t,b,X,N,D,S.lw b,S.ow b,rfl,k _ _ h.hp,(by lia),k _ _ g,i.mono k,d,I,Z,k _ _ j,dI k _ _ m,(by lia),h.good b,W.I.run b,qO G,λr l ys nd H2 k2 nr nl n V0 VL p u=>q r l ys H2 (k.trans k2) (k.free nr) (k.free nl) n V0<|by unfold wD;rwa[<-Gn p u]⟩
theorem wE(F:Fun K "settled_paper" "settled_paper" uX f fd)(T:Mc M)(ac:JI P w K M c 4 "Searcher" g g1 e1 ["self","sentence"] (sB g))(j:tp P w K M c a_ 8 g "go" g2 e2 ["self","many"] (Dp g))(am:tp P w K M c a_ 9 g "paper" g3 L ["self"] (pc g)):ay P w K M c a_ 10 f fd ["sentence"] lU:=by
 refine F.okB (N:=["sentence","searcher"]) λQC A O s H vs Q E sc hr h=>?_;obtain⟨p,qa,t,xs,C,rfl,hp,hq,TQ,i,U,d,q⟩:=h;obtain⟨W,X,el⟩:=yr i U;refine⟨_,(ae gg
  (ae (jM PU (ij<|gR<|jW j (pv 1) hr (by simp)<|fC<|ci rfl T.g_MOST_LOOKS)
   (ar EX))
  gg)),?_⟩
 refine⟨_,rfl,λx D n N Wi=>?_⟩;have k:Same H (upd (upd H D<|.own x) x<|.ins g D []):=λb o e=>by
  rwa[af<|ag e n,af<|ag e N]
 refine⟨x,D,p,qa,t,xs,C,rfl,aa,k _ _ hp,k _ _ hq,TQ.mono k,i,(aaa U),d,(λV=>False),(λV z=>z.elim),λB Y ex V Z b2 v=>⟨rfl,?_⟩⟩;have k2:Same H Y:=λb o e=>b2 _ _ (ag e n)<|k _ _ e;have u:∀a,B.own a->H a=none:=λa ha=>by
  obtain z|z:=v a ha
  ·rwa[z]
  exact k.free z
 subst ex;exists λm σ G=>m=0/\σ=[gV<|.ref p,gV<|.ref B.x]/\G=Y,⟨0,rfl,rfl,rfl⟩;rintro m σ G ⟨rfl,rfl,rfl⟩;refine⟨_,rfl,B.x,B.dx,_,rfl,Z.hx,rfl,B,t,C,o8,10000,rfl,Z,.inl qL,i,(aaa U),d,λH3 h3 m3=>⟨_,rfl,?_⟩⟩;have L:(tu t C 10000 o8).win.isSome=true:=by
  show(kB t C).win.isSome=NW
  rw[X];rfl
 rw[L];have y:Same H H3:=λb o e=>m3 _ _ (by grind)<|k2 _ _ e;exact⟨_,rfl,B.x,B.dx,_,rfl,h3.hx,rfl,B,t,C,kB t C,iI t C,rfl,h3,W,X,el,i,U,d,λr l ys H4 k4 nr nl I J VL=>q r l ys H4 (y.trans k4) (y.free nr) (y.free nl) I J VL⟩
noncomputable abbrev HN:Pn:=b9 24
noncomputable abbrev HP:Pn:=b9 64
inductive wF (vs:ab V)(H:Hp)(Q:VK)(E:XK):Prop
 |mk (q:J')(c:ab Int)(h0:vs=[.ref q])(a:jg H q c)(b:c.length<=9000)(d:∀(l:J') (h:Hp),Same H h->jg h l (c.map λz=>-z)->Q (.ref l) h)
inductive RuAt (H:Hp)(r:ab Int×N')(v:V):Prop
 |mk (p q:J')(h:v=.ref p)(a:H p=gV (.tup [.ref q,.bl r.2]))(b:jg H q r.1)
theorem RuAt.mono(x:RuAt H r v)(k:Same H h):RuAt h r v:=by
 obtain⟨p,q,a,b,c⟩:=x;exact⟨p,q,a,k _ _ b,k _ _ c⟩
theorem RuAt.upd(x:RuAt H r v)(h:H a=gV (.lst y)):RuAt (upd H a o) r v:=by
 obtain⟨p,q,d,b,c⟩:=x;exact⟨p,q,d,by rwa[af<|bq b h<|by simp],by show L2.upd H a o q=_;rwa[af<|bq c h<|by simp]⟩
abbrev RuLs(H:Hp):ab (ab Int×N')->ab V->Prop:=Paired<|RuAt H
theorem RuLs.mono(x:RuLs H r v)(k:Same H h):RuLs h r v:=Paired.imp' (λy y z=>z.mono k) x
theorem RuLs.upd(x:RuLs H r v)(h:H a=gV (.lst y)):RuLs (upd H a o) r v:=Paired.imp' (λw w z=>z.upd h) x
theorem RuLs.snoc(z:RuAt H r v):∀{s:ab (ab Int×N')} {a:ab V},RuLs H s a->RuLs H (s++[r]) (a++[v]):=by
 intro s a h;induction h with
 |nil=>exact .cons z .nil
 |cons r t i=>exact .cons r i
inductive wG (vs:ab V)(H:Hp)(Q:VK)(E:XK):Prop
 |mk (q:J')(hw:N')(l:Int)(left:ab Int)(h0:vs=[.str<|ao hw,.int l,.ref q])(a:jg H q left)(b:left.length<=9000)(c:∀(v:V) (h:Hp),Same H h->RuAt h (mH hw l left) v->Q v h)
theorem Gp(F:Fun K "turned_about" "turned_about" HN f i)(T:Bl m):ay P w K m b a_ 1 f i ["literals"] wF:=by
 refine F.okB (N:=["literals"]) λC A o s H v Q E p t h=>?_;obtain⟨q,c,rfl,d,j,l⟩:=h;exists _,(cQ<|aW bK rfl T.tuple Pr<|fC<|fW ["literal"] [NZ]<|bA<|pv 0);refine⟨_,rfl,q,rfl,⟨_,SqT.of d⟩,λD e=>aY [] _ (ES λz=>.int (-z)) rfl d e (by simp_all) (λx g n R k r=>r) ?_ ?_⟩
 ·intro x g y n R k r;obtain⟨z,y,rfl⟩:=bo g;exact⟨_,rfl,z,rfl,r⟩
 refine⟨D,_,rfl,.inl ⟨SqL.of aa,λL a=>l L _ ((ad e _).trans<|ad a _) ?_⟩⟩;show upd _ L _ L=_
 rw[aa,Qz.mpr λy y=>rfl,OZ,OZ];rfl
theorem Gq(F:Fun K "rule_of" "rule_of" HP f e)(T:Bl m)(j:Fe P w K m b 1 "turned_about" wF):ay P w K m b a_ 2 f e ["hand","literal","left"] wG:=by
 refine F.okB (N:=["hand","literal","left"]) λC A o s H v Q E r u h=>?_;obtain⟨q,g,l,left,rfl,c,i,d⟩:=h;exists _,gg;refine⟨_,rfl,.inl ⟨rfl,_,rfl,?_⟩⟩;cases g with
 |false=>
  refine ap ⟨_,rfl,q,left,rfl,c,i,λL x n t=>⟨_,rfl,_,_,rfl,rfl,(by show 2<=sizeLine;decide),λp a=>?_⟩⟩;have k:=ad a<|.tup [.ref L,.bl (decide (l<0))];exact d _ _ (n.trans k) ⟨p,L,rfl,aa,k _ _ t⟩
 |true=>
  refine ak ⟨_,rfl,_,rfl,_,_,rfl,rfl,(by show 2<=sizeLine;decide),λp a=>?_⟩;have k:=ad a<|.tup [.ref q,.bl (decide (0<l))];exact d _ _ k ⟨p,q,rfl,aa,k _ _ c⟩
noncomputable abbrev Dw:Pn:=b9 65
abbrev Gr:=Int×ab (ab Int×N')
inductive PartAt (H h:Hp)(L:J')(e:Gr)(x:V):Prop
 |mk (p a:J')(ys:ab V)(hx:x=.ref p)(b:h p=gV (.tup [.int e.1,.ref a,.bl N8]))(c:h a=gV (.lst ys))(d:RuLs h e.2 ys)(f:H a=NZ)(g:a≠L)
noncomputable def uY(t:Str)(h:N')(d:ab Og)(o:ab (ab Int)):ab Gr:=(aK t h).map λv=>(v,bw h d o v d.length)
inductive sC (vs:ab V)(H:Hp)(Q:VK)(E:XK):Prop
 |mk (p q pp l:J')(t:Str)(hw:N')(xs s:ab V)(C:ab (ab Int))(ds:ab Og)(out:ab (ab Int))(h0:vs=[.ref p,.ref pp])(i:H p=gV (.tup [.str t,.ref q]))(j:t.length<=30)(k:H q=gV (.lst xs))(m:CLs H C xs)(n:C.length<=900)(o:(∀c∈C,au t.length c))(r:H pp=gV (.tup [.str<|ao hw,.ref l]))(u:H l=gV (.lst s))(v:dH H ds s)(a:ds.length<=4000)(b:(∀d∈ds,bn d))(e:bQ t C hw [] ds=(out,NW))(f:pR out=NW)(g:∀L xs h,Same H h->H L=NZ->h L=gV (.lst xs)->Paired (PartAt H h L) (uY t hw ds out) xs->Q (.ref L) h)
inductive HQ (D:J')(H:Hp)(s:ab Int)(i:Nat)(b:St)(ys:ab V)(G:Hp):Prop
 |mk (c:M' V)(T A:ab J')(I:b=[c])(d:ys=T.map V.ref)(e:G D=gV (.lst ys))(f:Same H G)(g:T.length=i)(h:A.length=i)(k:∀(j:Nat) (t:J') (v:Int) (a:J'),T[j]?=gV t->s[j]?=gV v->A[j]?=gV a->G t=gV (.tup [.int v,.ref a])) (l:∀a∈A,G a=gV (.lst [])/\H a=NZ/\a≠D) (m:A.Nodup)
noncomputable def jE(s:ab Int)(a:ab J'):ab (aR×V):=(s.zip a).map λp=>((OK p.1:aR),V.ref p.2)
theorem Gs(h:a.length=T.length):(jE T a).map (·.1)=T.map λv=>(OK v:aR):=by
 unfold jE;rw[OZ];have:(T.zip a).map ((λx=>x.1)∘λp=>((OK p.1:aR),V.ref p.2))=((T.zip a).map Z5).map λv=>(OK v):=by
  rw[OZ];rfl
 rw[this,Y5<|by simp_all]
theorem wH:∀{T:ab Int} {A:ab J'} {m:Nat} {v:Int} {a:J'},T.Nodup->T[m]?=gV v->A[m]?=gV a->bL (jE T A) (.inl v)=gV (.ref a)
 |[],_,_,_,_,_,e,_=>by simp at e
 |x::T,[],_,_,_,_,_,e=>by simp at e
 |x::T,b::A,0,v,a,n,E,c=>by
  cases(E);cases(c);unfold bL jE;simp
 |x::T,b::A,m+1,v,a,n,E,c=>by
  obtain⟨N,d⟩:=PJ.mp n;have i:=wH d E c;have h:x≠v:=λz=>N (by rw[z];exact N5 E);unfold bL jE at i ⊢;rwa[X0,OT,R4<|by simpa using h]
theorem yu{c d:Type}{f:c->d}(e:∀a b,f a=f b->a=b){l:ab c}(h:l.Nodup):(l.map f).Nodup:=TN f (λa b H z=>H<|e a b z) h
theorem uZ{c:Type}{l:ab c}(h:l.Nodup){i j:Nat}{x:c}(a:l[i]?=gV x) (b:l[j]?=gV x):i=j:=by
 obtain⟨H,e⟩:=N4.mp a;obtain⟨d,E⟩:=N4.mp b;exact(Y6 h).mp<|e.trans E.symm
theorem sE{a b:Type}{f:a->b}{l:ab a}{i:Nat}{y:b}(h:(l.map f)[i]?=gV y):∃x,l[i]?=gV x/\y=f x:=by
 cases e:l[i]? with
 |none=>simp_all
 |some x=>simp_all
theorem Ki{a b:Type}{l:ab a}{m:ab b}{i:Nat}{x:a}{y:b}(h:(l.zip m)[i]?=gV (x,y)):l[i]?=gV x/\m[i]?=gV y:=by
 rwa[Vf]at h
theorem jF(t:Str)(h:N'):(aK t h).Nodup:=yu (by lia)<|(Y3).sublist Rh
theorem pe(t:Str)(h:N'):(aK t h).length<=t.length:=by
 unfold aK;have:=O0 (λi=>cP t i == h)<|O7 t.length;simp_all
structure Boxes (G:Hp)(as:ab J')(S4:ab Int)(R:Int->ab (ab Int×N')):Prop where
 at_:∀(m:Nat) (a:J') (v:Int),as[m]?=gV a->S4[m]?=gV v->∃ys,G a=gV (.lst ys)/\RuLs G (R v) ys
theorem Boxes.mono{R:Int->ab (ab Int×N')}(x:Boxes G A T R)(k:Same G g):Boxes g A T R:=⟨λm a v h H=>by
 obtain⟨y,b,c⟩:=x.at_ m a v h H;exact⟨y,k _ _ b,c.mono k⟩⟩
theorem Boxes.same{R:Int->ab (ab Int×N')}(x:Boxes G A T R)(h:∀v∈T,R v=r v):Boxes G A T r:=⟨λm a v b H=>by
 obtain⟨y,g,c⟩:=x.at_ m a v b H;exact⟨y,g,by rwa[<-h v<|N5 H]⟩⟩
theorem Boxes.put{G:Hp}{A:ab J'}{T:ab Int}{R:Int->ab (ab Int×N')}(x:Boxes G A T R)(g:A.Nodup)(i:T.Nodup){m:Nat}{a:J'}{v:Int}{Y:ab V}{r:ab Int×N'}{y:V}(b:A[m]?=gV a) (c:T[m]?=gV v) (h:G a=gV (.lst Y)) (j:RuLs G (R v) Y) (k:RuAt G r y):
  Boxes (upd G a<|.lst<|Y++[y]) A T (λu=>if u=v then R v++[r]else R u):=⟨λM d f e E=>by
 by_cases H:M=m
 ·subst H;rw[b]at e;rw[c]at E;cases e;cases E;exact⟨_,aa,by rw[On rfl];exact RuLs.snoc (k.upd h)<|j.upd h⟩
 have n:d≠a:=λz=>H (uZ g e<|by rwa[z]);have N:f≠v:=λz=>H (uZ i E<|by rwa[z]);obtain⟨Z,l,o⟩:=x.at_ M d f e E;exact⟨Z,by rwa[af n],by rw[Oo N];exact o.upd h⟩⟩
inductive Md (p pp s l d:J')(H:Hp)(a:ab J')(t:Str)(hw:N')(ds:ab Og)(out:ab (ab Int))(i:Nat)(b:St)(G:Hp):Prop
 |mk (x X c:M' V)(I:b=[gV (.ref p),gV (.ref pp),gV (.ref s),gV (.ref l),gV (.ref d),x,X,c])(e:Same H G)(f:G d=gV (.dK (jE (aK t hw) a)))(g:Boxes G a (aK t hw) (λv=>bw hw ds out v i))
inductive Me (p pp s l d L lf:J')(H:Hp)(a:ab J')(t:Str)(hw:N')(ds:ab Og)(out:ab (ab Int))(i:Nat)(c:ab Int)(j:Nat)(b:St)(G:Hp):Prop
 |mk (x:M' V)(I:b=[gV (.ref p),gV (.ref pp),gV (.ref s),gV (.ref l),gV (.ref d),gV (.ref L),gV (.ref lf),x])(e:Same H G)(f:G d=gV (.dK (jE (aK t hw) a)))(g:Boxes G a (aK t hw) (λv=>bw hw ds out v i++dA hw (out.getD i []) v ((c.take j).filter λl=>!(out.getD i []).contains l)))
theorem yw(h:List.Sublist a b)(u:Ups b):Ups a:=Qo (h.map _) u
theorem mM{left:ab Int}(H:1<=v)(h:Ups l):(dA w left v l).length<=2:=by
 unfold dA;rw[B',xO H h];exact O0 _ _
theorem Aq(h:∀c∈o,au n c)(k:Nat):Ups (cm d o k):=by
 unfold cm
 split
 ·rename_i i _;refine yw Rh ?_;by_cases H:i<o.length
  ·exact(eO h H).1
  rw[K',O_<|by simp_all];exact RK
 exact RK
theorem iJ(h:∀c∈o,au N c)(a:1<=v):∀{n:Nat},(bw H d o v n).length<=2*n
 |0=>N9 _
 |n+1=>by
  have:=iJ (H:=H) (d:=d) h a (n:=n);have:=mM (w:=H) (left:=o.getD n []) a<|Aq (d:=d) h n;show(bw H d o v n++_).length<=_
  rw[N0];lia
theorem PartAt.mono(z:PartAt H h L e x)(k:Same h b):PartAt H b L e x:=by
 obtain⟨p,a,y,c,d,f,g,i,j⟩:=z;exact⟨p,a,y,c,k _ _ d,k _ _ f,g.mono k,i,j⟩
theorem PartAt.upd(z:PartAt H h L e x)(b:h L=gV (.lst Z)):PartAt H (upd h L o) L e x:=by
 obtain⟨p,a,y,f,c,g,i,j,d⟩:=z;exact⟨p,a,y,f,by rwa[af<|bq c b<|by simp],by rwa[af d],i.upd b,j,d⟩
theorem kC{c d:Type}{F G:c->d->Prop}(f:∀a b,F a b->G a b){a:c}{b:d}:∀{l:ab c} {m:ab d},Paired F l m->G a b->Paired G (l++[a]) (m++[b]):=by
 intro l m h z;induction h with
 |nil=>exact .cons z .nil
 |cons r t i=>exact .cons (f _ _ r) i
inductive Mf (L:J')(H g:Hp)(d:J')(A:ab J')(t:Str)(hw:N')(ds:ab Og)(out:ab (ab Int))(i:Nat)(a:St)(zs:ab V)(G:Hp):Prop
 |mk (b:M' V)(I:a=[b,gV (.ref d)])(c:G L=gV (.lst zs))(e:Same g G)(f:Paired (PartAt H G L) (((aK t hw).take i).map λv=>(v,bw hw ds out v ds.length)) zs)
theorem Dx(F:Fun K "plan_of" "plan_of" Dw f fd)(T:Bl mg)(cp:Fe P w K mg N 7 "whole_sets" ya)(VC:Fe P w K mg N 2 "variables_of" lI)(ct:Fe P w K mg N 2 "rule_of" wG):ay P w K mg N a_ 8 f fd ["sentence","paper"] sC:=by
 refine F.okB (N:=["sentence","paper","sets","variables","rules","line","left","literal"]) λQC A b2 s H vs Q E sc hr h=>?_;obtain⟨p,q,pp,la,t,g,xs,ls,cs,n,o,rfl,hp,ht,hq,b3,h9,VB,ac,Zy,Zz,h8,a7,Rz,b4,q'⟩:=h;have hu:=hr.units;have Va:=Ru (Xn (show 1<=64 by decide) _) hu;have cu:o.length=n.length:=by
  have:=dz Rz;simpa using this
 have aC:∀c∈o,au t.length c:=by
  have:=gn (w:=g) VB (D:=n) (s:=[]) (by simp);rw[Rz]at this;exact this
 have cv:=pe t g;have an:=jF t g;refine⟨_,(ae gg
  (ae gg
  (ae (sT 4<|aW (fM rfl) rfl T.dict Rj<|fC<|fW ["variable"] [NZ]<|aD<|pv 3)
  (ae (fk PU rfl (vW rfl T.zip gg<|pv 2) gg
   (ar<|aQ gg (ar<|fS 7 (bA gg)<|ar<|aQ gg (ar<|dm<|gG Ph P8 Qh dS (bH Va (pv 4) gg λS S=>rfl) gg) ax) ax))
  (cQ<|fW ["variable","rules"] [NZ,gV 4] (aD<|pv 3) (e:=λS S S S=>(dZ<|aV (pv 0)<|kT (bH Va (pv 1) (pv 0) λS S=>rfl) fm))))))),?_⟩
 refine⟨_,rfl,_,rfl,p,q,pp,la,t,g,xs,ls,cs,n,o,rfl,hp,ht,hq,b3,h9,VB,ac,Zy,Zz,by lia,λd hd=>(yb<|a7 d hd).1,Rz,b4,λsl ys H1 k1 cz aF a0=>?_⟩;refine⟨_,rfl,_,rfl,(aS (k1 _ _ ac) rfl ⟨p,t,.ref q,g,rfl,k1 _ _ hp,by lia,λl H2 k2 V0=>?_⟩)⟩;refine⟨_,rfl,l,rfl,⟨_,SqL.of V0⟩,λD hD=>?_⟩;refine bB (K:=K) (a:=l) (xs:=(aK t g).map V.int) (HQ D H2<|aK t g) ⟨NZ,[],[],rfl,rfl,aa,ad hD _,rfl,rfl,(by grind),(by simp),RK⟩ ?_ ?_ ?_
 ·rintro i O Z G S ⟨S,ts,r,S,S,i2,i3,S⟩;exact⟨i2,SqL.of<|i3 _ _ V0⟩
 ·rintro i x O Z G hx ⟨v0,ts,r,rfl,rfl,i2,i3,i4,i5,i6,i7,i8⟩;obtain⟨v,hv,rfl⟩:=sE hx;have Wy:i<(aK t g).length:=(N4.mp hv).1;refine cg ⟨_,rfl,Oy _,λu U=>⟨(by show 2<=sizeLine;decide),λpt av=>?_⟩⟩;have k3:=ad U<|.lst [];have s3:=@aa G u (.lst []);have b6:H2 u=none:=i3.free U;have a8:u≠D:=λz=>by lia
  generalize upd G u (.lst [])=G3 at k3 s3 av ⊢;have k4:=ad av<|.tup [.int v,.ref u];have s4:=@aa G3 pt (.tup [.int v,.ref u]);generalize upd G3 pt (.tup [.int v,.ref u])=G4 at k4 s4 ⊢;have az:=k3.trans k4;have d4:=az _ _ i2;exists d4,(by rw[B'];exact cK<|by lia);refine⟨_,ts++[pt],r++[u],rfl,by simp,aa,(i3.trans az).upd_new hD _,by rw[N0,i4];rfl,by rw[N0,i5];rfl,λj t' v' a' e1 e2 e3=>?_,λa ha=>?_,?_⟩
  ·by_cases hj:j<i
   ·rw[ON<|by simp_all]at e1 e3;have z:=az _ _<|i6 j t' v' a' e1 e2 e3;rw[af<|bq z d4<|by simp];exact z
   rw[OP<|by simp_all]at e1 e3;have b7:j=i:=by
    have:=(N4.mp e1).1;rw[OM]at this;lia
   subst b7;rw[i4,QI]at e1;rw[i5,QI]at e3;rw[hv]at e2;cases e1;cases e2;cases e3;rw[af<|bq s4 d4<|by simp];exact s4
  ·obtain z|z:=Os.mp ha
   ·obtain⟨g1,g2,g3⟩:=i7 a z;exact⟨by rw[af g3];exact az _ _ g1,g2,g3⟩
   rw[Ob.mp z];exact⟨by rw[af a8];exact k4 _ _ s3,b6,a8⟩
  refine Qa.mpr ⟨i8,by simp,λa ha b hb z=>?_⟩;simp_all
 rintro O Z G ⟨v0,ts,r,rfl,rfl,i2,i3,i4,i5,i6,i7,i8⟩;rw[B']at i4 i5;refine⟨D,ts,jE (aK t g) r,rfl,i2,?_,λi t' kv e1 e2=>?_,?_,?_,λd hd=>?_⟩
 ·unfold jE;simp_all
 ·unfold jE at e2;obtain⟨⟨v,a⟩,e3,rfl⟩:=sE e2;obtain⟨e4,e5⟩:=Ki e3;exact i6 i t' v a e1 e4 e5
 ·rw[Gs i5];exact yu (λS S z=>Qp z) an
 ·unfold jE;rw[B',Zr];lia
 have k5:=ad hd<|.dK<|jE (aK t g) r;have s5:=@aa G d (.dK<|jE (aK t g) r);have b5:Boxes (upd G d<|.dK<|jE (aK t g) r) r (aK t g) (λv=>bw g n o v 0):=⟨λm a v h1 h2=>⟨[],k5 _ _ (i7 a<|N5 h1).1,.nil⟩⟩;have W:=i3.trans k5;generalize upd G d (.dK<|jE (aK t g) r)=G5 at k5 s5 b5 W ⊢;have a9:∀a∈r,H2 a=none:=λa ha=>(i7 a ha).2.1;clear k5 i7 i6 i3 i2;have VZ:=k1.trans k2;have P1:=du Zz;have c0:=a0.length;refine⟨_,rfl,(aS (W _ _<|VZ _ _ ac) rfl ⟨_,rfl,la,sl,rfl,rfl,⟨_,SqL.of<|W _ _<|VZ _ _ Zy⟩,⟨_,SqL.of<|W _ _<|k2 _ _ aF⟩,?_⟩)⟩;refine rK (K:=K) (a:=la) (b:=sl) (X:=ls) (Y:=ys) (n:=n.length) P1 (by simp_all) (Md p pp sl l d H2 r t g n o) ⟨NZ,NZ,NZ,rfl,W,s5,b5⟩ ?_ ?_ ?_
 ·rintro i O G6 S ⟨S,S,S,S,j1,S⟩;exact⟨SqL.of<|j1 _ _<|VZ _ _ Zy,SqL.of<|j1 _ _<|k2 _ _ aF⟩
 ·rintro i x y O G6 t1 hx hy ⟨x5,x6,x7,rfl,j1,j2,j3⟩ cc;have Wy:i<n.length:=by have:=(N4.mp hx).1;simp_all
  have rx:=cY Zz hx;have a1:=aE (d:=Qb) Wy;have ba:=N5 a1;have ed:n.getD i .none=n.getD i .none:=rfl;generalize bb:n.getD i .none=d1 at rx a1 ba;obtain⟨c1,bc,cd⟩:=a0.get hy;have eo:o.getD i []=c1:=by rw[K',bc];rfl
  obtain⟨lf,rfl,bf⟩:=cd;have k7:=ad cc<|.tup [x,.ref lf];exists t1,_,rfl,SqT.of aa,rfl,_,_,rfl,_,_,rfl,rfl;have J:=j1.trans k7;have X:=k7 _ _ j2;have a2:=j3.mono k7;show IF _ _ _ _ _ (upd G6 t1<|.tup [x,.ref lf])
  generalize upd G6 t1 (.tup [x,.ref lf])=G7 at k7 J X a2 ⊢;clear j1 j2 j3;have Y:=VZ.trans J;have a3:oC d1=NZ->Boxes G7 r (aK t g) (λv=>bw g n o v<|i+1):=λe=>a2.same λv S=>by
   show _=bw g n o v i++dA g (o.getD i []) v (cm n o i)
   unfold cm;rw[bb,e];exact(Py _).symm
  obtain⟨k,rfl⟩|⟨c,S,rfl⟩|⟨z,rfl⟩|⟨z1,z2,z3,rfl⟩:=a7 d1 ba
  ·obtain⟨ln,Z,rfl,B,M⟩:=al rx;obtain⟨y0,Z,rfl,r0,M⟩:=aj M;obtain rfl:=aT r0;refine⟨_,rfl,(aS (Y _ _ B) (aG (j:=0) rfl)<|.inl ⟨rfl,_,rfl,?_⟩)⟩;rw[N7 (show V.str aU≠V.str (N_ "drop") by decide+kernel)];exact ak ⟨_,_,_,rfl,J,X,a3 rfl⟩
  ·obtain⟨ln,Z,rfl,B,M⟩:=al rx;obtain⟨y0,Z,rfl,r0,M⟩:=aj M;obtain rfl:=aT r0;refine⟨_,rfl,(aS (Y _ _ B) (aG (j:=0) rfl)<|.inl ⟨rfl,_,rfl,?_⟩)⟩;rw[N7 (show V.str bP≠V.str (N_ "drop") by decide+kernel)];exact ak ⟨_,_,_,rfl,J,X,a3 rfl⟩
  ·obtain⟨ln,Z,rfl,B,M⟩:=al rx;obtain⟨y0,Z,rfl,r0,M⟩:=aj M;obtain⟨y1,Z,rfl,r1,M⟩:=aj M;obtain rfl:=aT r0;obtain rfl:=aw r1;obtain⟨i',rfl,c2,S,c3⟩:=rJ Rz a1;refine⟨_,rfl,(aS (Y _ _ B) (aG (j:=0) rfl)<|.inl ⟨rfl,_,rfl,?_⟩)⟩;rw[N3 (show V.str aB=V.str (N_ "drop") by rfl)];obtain⟨xc,bg⟩:∃xc,ys[i']?=gV xc:=⟨_,N1 (by lia)⟩;obtain⟨c,hc,TQ⟩:=a0.get bg;have ec:o.getD i' []=c:=by simp_all
   obtain⟨tc,rfl,Q7⟩:=TQ;have bk:=aC c<|N5 hc;have c4:=bv bk;have ce:=aC c1<|N5 bc;have c5:=bv ce;have bl:=k2.trans J;refine ap ⟨_,rfl,_,rfl,(aS (Y _ _ B) (aG (j:=1) rfl)<|(fz (bl _ _ aF) (aG bg) ⟨tc,rfl,⟨_,SqT.of<|bl _ _ Q7⟩,?_⟩))⟩;have bm:cm n o i=c.filter λl=>!c1.contains l:=by
    unfold cm;have ep:oC (.tuple [.str aB,.int (i':Int)])=gV i':=by
     rfl
    rw[bb,ep];show(o.getD i' []).filter (λl=>!(o.getD i []).contains l)=_
    rw[ec,eo]
   refine fq (K:=K) (a:=tc) (X:=c.map V.int) (Me p pp sl l d ln lf H2 r t g n o i c) ⟨_,rfl,J,X,a2.same λv S=>?_⟩ ?_ ?_ ?_
   ·rw[W3];exact(Py _).symm
   ·rintro j O G8 S ⟨S,S,m1,S⟩;exact SqT.of<|m1 _ _<|k2 _ _ Q7
   ·rintro j x O G8 cf ⟨x7,rfl,m1,m2,m3⟩;obtain⟨lz,br,rfl⟩:=sE cf;have bs:c.take (j+1)=c.take j++[lz]:=by rw[OJ,br];rfl
    have bt:=k2.trans m1;have e:(if NW=NW then !gP (.int lz) (c1.map V.int)else gP (.int lz) (c1.map V.int))=!c1.contains lz:=by
     rw[On rfl,aP]
    exists _,rfl,_,rfl,lf,_,rfl,.inr<|SqT.of<|bt _ _ bf,rfl,bJ _,_,rfl;rw[e];cases a4:c1.contains lz with
    |true=>
     refine ak ⟨_,rfl,m1,m2,m3.same λv S=>?_⟩;rw[bs,Po,eo,Q4,a4];simp
    |false=>
     have b0:absI lz∈aK t g:=zN VB Rz Wy (by rw[bm];exact Oj.mpr ⟨N5 br,by rw[a4];rfl⟩);obtain⟨m,hm⟩:=W6 b0;obtain⟨C,I⟩:∃C,r[m]?=gV C:=⟨_,N1 (by have:=(N4.mp hm).1;lia)⟩;obtain⟨us,g1,g2⟩:=m3.at_ m C _ I hm;have b1:1<=absI lz:=(dv.mp b0).1;have YI:Ups ((c.take j).filter λl=>!(o.getD i []).contains l):=yw (Rh.trans (Sj _ _)) bk.1;have c6:us.length<=2*i+2:=by
      have e1:=iJ aC b1 (H:=g) (d:=n) (n:=i);have e2:=mM (w:=g) (left:=o.getD i []) b1 YI;have e3:=Paired.length g2;grind
     refine ap ⟨_,rfl,_,rfl,lz,rfl,d,.ref C,rfl,.inl ⟨_,.inl<|absI lz,Rd.of m2,rfl,(wH an hm I).symm⟩,.inl ⟨rfl,_,SqL.of g1⟩,?_⟩;refine⟨_,rfl,(aS ((VZ.trans m1) _ _ ac) rfl ⟨_,rfl,_,rfl,lf,g,lz,c1,rfl,bt _ _ bf,by lia,λrv G9 k9 ch=>?_⟩)⟩;have Yc:=k9 _ _ g1;have ck:=m1.trans k9;exists C,us,rv,rfl,rfl,Yc,cK (by lia);have cl:=a9 C<|N5 I;refine⟨_,rfl,ck.upd_new cl _,by rw[af<|bq (k9 _ _ m2) Yc<|by simp];exact k9 _ _ m2,((m3.mono k9).put i8 an I hm Yc (g2.mono k9) ch).same λv S=>?_⟩;rw[bs,Po,eo,Q4,a4];unfold dA;rw[On (show(!N8)=NW from rfl),Po,OF,Q4];by_cases ev:v=absI lz
     ·subst ev;rw[On rfl,On<|N3 rfl,O6];rfl
     rw[Oo ev,Oo<|by lia];show _=_++(_++[])
     rw[Py]
   rintro O G8 ⟨x7,rfl,m1,m2,m3⟩;refine⟨_,_,_,rfl,m1,m2,m3.same λv S=>?_⟩;show _=bw g n o v i++dA g (o.getD i []) v (cm n o i)
   rw[B',Oi<|N9 _,bm,eo]
  obtain⟨ln,Z,rfl,B,M⟩:=al rx;obtain⟨y0,Z,rfl,r0,M⟩:=aj M;obtain rfl:=aT r0;refine⟨_,rfl,(aS (Y _ _ B) (aG (j:=0) rfl)<|.inl ⟨rfl,_,rfl,?_⟩)⟩;rw[N7 (show V.str bi≠V.str (N_ "drop") by decide+kernel)];exact ak ⟨_,_,_,rfl,J,X,a3 rfl⟩
 rintro O G6 ⟨x5,x6,x7,rfl,j1,j2,j3⟩;refine⟨_,rfl,l,rfl,⟨_,SqL.of<|j1 _ _ V0⟩,λL hL=>?_⟩;have nL:H L=none:=VZ.free<|j1.free hL;have aL:∀a∈r,a≠L:=λa ha z=>by
  obtain⟨m,hm⟩:=W6 ha;obtain⟨v,hv⟩:∃v,(aK t g)[m]?=gV v:=⟨_,N1 (by have:=(N4.mp hm).1;lia)⟩;obtain⟨us,g1,S⟩:=j3.at_ m a v hm hv;lia
 refine bB (K:=K) (a:=l) (xs:=(aK t g).map V.int) (Mf L H G6 d r t g n o) ⟨NZ,rfl,aa,ad hL _,.nil⟩ ?_ ?_ ?_
 ·rintro i O Z G7 S ⟨S,S,n2,n3,S⟩;exact⟨n2,SqL.of<|n3 _ _<|j1 _ _ V0⟩
 ·rintro i x O Z G7 hx ⟨v0,rfl,n2,n3,n4⟩;obtain⟨v,hv,rfl⟩:=sE hx;have Wy:i<(aK t g).length:=(N4.mp hv).1;obtain⟨C,I⟩:∃C,r[i]?=gV C:=⟨_,N1 (by lia)⟩;obtain⟨us,g1,g2⟩:=j3.at_ i C v I hv;have a5:=N5 I;refine cg ⟨_,rfl,_,rfl,_,rfl,d,.ref C,rfl,.inl ⟨_,.inl v,Rd.of (n3 _ _ j2),rfl,(wH an hv I).symm⟩,(by show 3<=sizeLine;decide),λpt av=>?_⟩;have k8:=ad av (.tup [.int v,.ref C,.bl N8]);have d8:=k8 _ _ n2;have a6:=n3.trans k8;have co:=Paired.length n4;rw[B',OB]at co;exists d8,cK (by lia),_,rfl,aa,a6.upd_new hL _;rw[OJ,hv,OF];refine kC (G:=PartAt H (upd (upd G7 pt (.tup [.int v,.ref C,.bl N8])) L (.lst (Z++[.ref pt]))) L) (a:=(v,bw g n o v n.length)) (λe y (z:PartAt H G7 L e y)=>PartAt.upd (z.mono k8) d8) n4 ⟨pt,C,us,rfl,?_,?_,?_,?_,aL C a5⟩
  ·rw[af (bq aa d8<|by simp),aa]
  ·rw[af<|aL C a5];exact a6 _ _ g1
  ·exact(g2.mono a6).upd d8
  exact VZ.free<|a9 C a5
 rintro O Z G7 ⟨S,S,n2,n3,n4⟩;rw[B',Oi<|N9 _]at n4;exact q' L Z G7 (VZ.trans<|j1.trans n3) nL n2 n4
noncomputable abbrev HR:Pn:=b9 8
noncomputable abbrev Gu:Pn:=b9 9
noncomputable abbrev Nu:Pn:=b9 10
def MD(d:Og):Prop:=∀D,d=.tuple D->PP (D.getD 0 .none)=NW
inductive h_ (vs:ab V)(H:Hp)(Q:VK)(E:XK):Prop
 |mk (v:V)(d:Og)(h0:vs=[v])(h:RD H d v)(a:Q (.bl<|jr d&&!mU d) H)
inductive gN (vs:ab V)(H:Hp)(Q:VK)(E:XK):Prop
 |mk (v:V)(d:Og)(many:Nat)(h0:vs=[v,.int (many:Int)])(h:RD H d v)(a:Q (.bl (aH many d).isSome) H)
inductive Dy (vs:ab V)(H:Hp)(Q:VK)(E:XK):Prop
 |mk (v:V)(d:Og)(w:Str)(n:Nat)(h0:vs=[v,.str w,.int (n:Int)])(h:RD H d v)(a:1<=n)(b:PP (.str w)=NW)(c:MD d)(e:Q (.bl<|OD.formB w n d) H)
theorem pf(h:dH H s a)(l:s.length=2):∃d D x X,s=[d,D]/\a=[x,X]/\RD H d x/\RD H D X:=by
 have v:=du h
 match s,a,l,v with
 |[d,D],[x,X],_,_=>exact⟨d,D,x,X,rfl,rfl,cY (j:=0) h rfl,cY (j:=1) h rfl⟩
theorem ph(h:dH H s c)(l:s.length=3):∃d D a x X b,s=[d,D,a]/\c=[x,X,b]/\RD H d x/\RD H D X/\RD H a b:=by
 have v:=du h
 match s,c,l,v with
 |[d,D,a],[x,X,b],_,_=>exact⟨d,D,a,x,X,b,rfl,rfl,cY (j:=0) h rfl,cY (j:=1) h rfl,cY (j:=2) h rfl⟩
theorem Kj:dk ["thing"] ["thing"] (aJ HR):=ET
theorem Gv(F:Fun K "is_number" "is_number" HR f c)(T:Bl m):ay P w K m b a_ 1 f c ["thing"] h_:=by
 refine F.okA Kj λC A o s H e Q E r h=>?_;obtain⟨v,d,rfl,a,q⟩:=h;have n:=fA a;exists _,gg;exists _,rfl,v,_,"int",_,rfl,jQ d v a,rq d n,_,rfl;cases I:jr d with
 |false=>
  rwa[I]at q
 |true=>
  rw[I]at q;exact ap ⟨_,rfl,v,_,"bool",_,rfl,jQ d v a,nV d n,_,rfl,q⟩
theorem Ar(F:Fun K "is_place" "is_place" Gu f k)(U:Fe P w K M b 1 "is_number" h_):ay P w K M b a_ 2 f k ["thing","many"] gN:=by
 refine F.okB (N:=["thing","many"]) λC A o s H l Q E p r h=>?_;obtain⟨v,d,m,rfl,j,q⟩:=h;exists _,(cQ<|vm gg<|vk<|tG nE pY bX (pv 0)<|pv 1);exists _,rfl,v,d,rfl,j,_,rfl;obtain⟨z,rfl⟩|n:=iu d
 ·obtain rfl:=aw j;have a:Q (.bl (if 0<=z/\z<(m)then gV _ else NZ).isSome) H:=q;exists _,rfl,_,_,rfl,rfl,_,rfl;by_cases g:0<=z
  ·rw[N3 g];refine ap ⟨_,rfl,_,_,rfl,rfl,?_⟩;by_cases i:z<(m)
   ·simp_all
   rw[Oo λc=>i c.2]at a;show Q (.bl _) H
   rwa[N7 i]
  rw[Oo λc=>g c.1]at a;rwa[N7 g]
 rw[gY n];have e:aH m d=none:=by
  cases d with
  |int z=>lia
  |_=>rfl
 rwa[e]at q
theorem Kk(F:Fun K "begins_with" "begins_with" Nu f p)(T:Bl M):ay P w K M B a_ 1 f p ["thing","word","many"] Dy:=by
 refine F.okB (N:=["thing","word","many"]) λC A o s H u Q E y G h=>?_;obtain⟨v,d,W,n,rfl,i,I,j,k,q⟩:=h;have N:=fA i;exists _,gg;exists _,rfl,v,_,"tuple",_,rfl,jQ d v i,li d N,_,rfl;cases d with
 |tuple D=>
  obtain⟨a,x,rfl,l,m⟩:=al i;have r:=du m;refine ap ⟨_,rfl,.ref a,_,rfl,.inr ⟨_,SqT.of l,rfl⟩,_,rfl,.inl ⟨rfl,_,rfl,?_⟩⟩;have c:Q (.bl (decide _&&my W _)) H:=q;by_cases g:D.length=n
  ·rw[N3 g]at c;have e:decide (V.int ((x.length))=V.int (n))=true:=N3 (by rw[r,g]);rw[e];obtain⟨X,b⟩:∃X,x[0]?=gV X:=⟨_,N1 (by lia)⟩;have t:=cY m b;refine ap ⟨_,rfl,(aS l (aG b) ⟨_,rfl,.inr ⟨_,_,t,c_ W,k D rfl,j,?_⟩⟩)⟩;rwa[ur]
  ·rw[N7 g]at c;have e:decide (V.int ((x.length))=V.int (n))=false:=N7 λz=>g (by lia);rwa[e]
 |_=>exact ak q
noncomputable abbrev HS:Pn:=b9 36
noncomputable abbrev yx:Pn:=b9 37
noncomputable abbrev Dz:Pn:=b9 38
noncomputable abbrev yy:Pn:=b9 39
noncomputable abbrev HU:Pn:=b9 40
noncomputable def dQ(t:Str)(z:Int):N':=cP t (absI z-1).toNat
noncomputable def kF(t:Str):ab Int->N'
 |[z]=>dQ t z
 |_=>N8
noncomputable def cJ(c:ab Int)(z:Int):ab Int->N'
 |[]=>N8
 |x::r=>if absI z<=absI x then N8 else if c.contains (-x)=NW then NW else cJ c z r
def jG(n:Nat)(c:ab Int):Prop:=∀l∈c,1<=absI l/\absI l<=(n:Int)
inductive lV (vs:ab V)(H:Hp)(Q:VK)(E:XK):Prop
 |mk (p:J')(t:Str)(w:V)(z:Int)(hw:N')(h0:vs=[.ref p,.int z,.str<|ao hw])(h:H p=gV (.tup [.str t,w]))(a:t.length<=900)(b:1<=absI z)(c:absI z<=(t.length:Int))(q:Q (.bl<|dQ t z == hw) H)
inductive pi (vs:ab V)(H:Hp)(Q:VK)(E:XK):Prop
 |mk (p a:J')(t:Str)(w:V)(c:ab Int)(h0:vs=[.ref p,.ref a])(h:H p=gV (.tup [.str t,w]))(b:t.length<=900)(d:jg H a c)(e:jG t.length c)(q:Q (.bl<|kF t c) H)
inductive sF (vs:ab V)(H:Hp)(Q:VK)(E:XK):Prop
 |mk (a b:J')(c k:ab Int)(h0:vs=[.ref a,.ref b])(h:jg H a c)(d:jg H b k)(q:Q (.bl (k.all λz=>c.contains z)) H)
inductive pj (vs:ab V)(H:Hp)(Q:VK)(E:XK):Prop
 |mk (a b:J')(c k:ab Int)(z:Int)(h0:vs=[.ref a,.ref b,.int z])(h:jg H a c)(d:jg H b k)(q:Q (.bl<|cJ c z k) H)
inductive wI (vs:ab V)(H:Hp)(Q:VK)(E:XK):Prop
 |mk (a l:J')(c:ab Int)(z:Int)(xs:ab V)(C:ab (ab Int))(h0:vs=[.ref a,.int z,.ref l])(h:jg H a c)(b:H l=gV (.lst xs))(d:CLs H C xs)(q:Q (.bl (C.all λk=>cJ c z k)) H)
theorem bd(c:ab Int):(c.map V.int).all jd=true:=by
 rw[RJ];exact O2.mpr λz z=>rfl
inductive DB (H:Hp)(a b:J')(c k:ab Int)(i:Nat)(d:St)(h:Hp):Prop
 |mk (v:M' V)(h0:d=[gV (.ref a),gV (.ref b),v])(e:h=H)(f:((k.take i).all λz=>c.contains z)=NW)
inductive DC (H:Hp)(a b:J')(z:Int)(c k:ab Int)(i:Nat)(d:St)(h:Hp):Prop
 |mk (v:M' V)(h0:d=[gV<|.ref a,gV<|.ref b,gV<|.int z,v])(e:h=H)(f:cJ c z k=cJ c z (k.drop i))
inductive HV (H:Hp)(a l:J')(z:Int)(c:ab Int)(C:ab (ab Int))(i:Nat)(b:St)(h:Hp):Prop
 |mk (v:M' V)(h0:b=[gV (.ref a),gV (.int z),gV (.ref l),v])(d:h=H)(e:((C.take i).all λk=>cJ c z k)=NW)
theorem Gw(F:Fun K "is_of" "is_of" HS f d)(T:Bl m)(Z:Fe P w K m b 1 "hand_of" lH):ay P w K m b a_ 2 f d ["sentence","literal","hand"] lV:=by
 refine F.okB (N:=["sentence","literal","hand"]) λC A o s H v Q E l r h=>?_;obtain⟨p,t,w,z,a,rfl,c,g,n,u,q⟩:=h;refine⟨_,gg,?_⟩;obtain⟨i,j⟩:∃i:Nat,absI z=(i)+1:=⟨(absI z-1).toNat,by omega⟩;have e:(absI z-1).toNat=i:=by simp_all
 refine⟨_,rfl,_,rfl,z,rfl,p,t,w,i,?_,c,(by lia),g,_,rfl,.inl ⟨rfl,?_⟩⟩
 ·show [V.ref p,V.int<|absI z]=_
  rw[j]
 rw[eV];unfold dQ at q;lia
theorem As(F:Fun K "is_unit" "is_unit" yx f i)(T:Bl m)(j:Fe P w K m B 2 "is_of" lV):ay P w K m B a_ 3 f i ["sentence","clause"] pi:=by
 refine F.okB (N:=["sentence","clause"]) λC A o s H v Q E u D h=>?_;obtain⟨p,a,t,w,c,rfl,l,n,b,k,q⟩:=h;exists _,gg;refine⟨_,rfl,.ref a,_,rfl,.inr ⟨_,SqT.of b,rfl⟩,.inl ⟨rfl,_,rfl,?_⟩⟩
 match c,b,k,q with
 |[],b,k,q=>exact cn (λz=>absurd (V.int.inj<|Oh z)<|by decide) λg=>q
 |[z],b,k,q=>
  have d:=k z Ou;refine⟨_,rfl,_,rfl,(aS b rfl ⟨p,t,w,z,NW,rfl,l,n,d.1,d.2,?_⟩)⟩;have e:Q (.bl<|dQ t z) H:=q;simp_all
 |x::y::r,b,k,q=>exact cn (λz=>absurd (V.int.inj<|Oh z)<|by simp;lia) λg=>q
theorem DD(F:Fun K "holds_all" "holds_all" Dz f n):ay P w K M B a_ 1 f n ["clause","literals"] sF:=by
 refine F.okB (N:=["clause","literals","literal"]) λC A o s H y Q E D G h=>?_;obtain⟨a,b,c,k,rfl,p,d,q⟩:=h;refine⟨_,(ae (fS 2 (bA<|pv 1) gg)
  (cQ fm)),⟨_,rfl,b,rfl,⟨_,SqT.of d⟩,fq (K:=K) (X:=k.map V.int) (DB H a b c k) ⟨NZ,rfl,rfl,rfl⟩ ?_ ?_ ?_⟩⟩
 ·rintro i j l Z ⟨Z,Z,rfl,Z⟩;exact SqT.of d
 ·rintro i x j l t ⟨v,rfl,rfl,r⟩;obtain⟨z,rfl,m⟩:=cO t;have e:(if NW=NW then !gP (.int z) (c.map V.int)else gP (.int z) (c.map V.int))=!c.contains z:=by
   rw[On rfl,aP]
  exists _,rfl,_,rfl,a,_,rfl,.inr<|SqT.of p,rfl,bd c,_,rfl;rw[e];cases g:c.contains z with
  |false=>
   have u:(k.all λz=>c.contains z)=false:=TM.mpr ⟨z,N5 m,by lia⟩;rwa[u]at q
  |true=>
   refine ak ⟨_,rfl,rfl,?_⟩;rw[OJ,m,S2,r];show(c.contains z&&NW)=NW
   rw[g];rfl
 rintro j l ⟨v,rfl,rfl,r⟩;rw[Oi<|by rw[B'];exact N9 _]at r;rwa[r]at q
theorem At(F:Fun K "has_other_way" "has_other_way" yy f r)(T:Bl M):ay P w K M B a_ 1 f r ["clause","other","literal"] pj:=by
 refine F.okB (N:=["clause","other","literal","ahead"]) λJ A o s H L Q E N O h=>?_;obtain⟨a,b,c,k,z,rfl,t,j,q⟩:=h;refine⟨_,(ae (fS 3 (bA<|pv 1) gg)
  (cQ fm)),?_⟩
 refine⟨_,rfl,b,rfl,⟨_,SqT.of j⟩,fq (K:=K) (X:=k.map V.int) (DC H a b z c k) ⟨NZ,rfl,rfl,rfl⟩ ?_ ?_ ?_⟩
 ·rintro i l m Z ⟨Z,Z,rfl,Z⟩;exact SqT.of j
 ·rintro i x l m u ⟨v,rfl,rfl,d⟩;obtain⟨y,rfl,p⟩:=cO u;have C:k.drop i=y::k.drop (i+1):=by
   have D:=(N4.mp p).1;rw[Qw D,(N4.mp p).2]
  have I:cJ c z (y::k.drop (i+1))=if absI z<=absI y then N8 else if c.contains _=NW then NW else cJ c z _:=rfl
  rw[C,I]at d;refine⟨_,rfl,y,rfl,_,rfl,z,rfl,_,_,rfl,rfl,_,rfl,cn (λg=>?_) λg=>?_⟩
  ·rw[On (show absI z<=absI y from Oh g)]at d;rwa[d]at q
  rw[Oo (show¬absI z<=absI y from λn=>g<|N3 n)]at d;have e:(if N8=NW then !gP (.int (-y)) (c.map V.int)else gP (.int (-y)) (c.map V.int))=c.contains (-y):=by
   rw[Oo N6,aP]
  exists _,rfl,_,rfl,_,rfl,a,_,rfl,.inr<|SqT.of t,rfl,bd c,_,rfl;rw[e];cases G:c.contains _ with
  |true=>
   rw[G]at d;rwa[d]at q
  |false=>
   rw[G]at d;exact ak ⟨_,rfl,rfl,d⟩
 rintro l m ⟨v,rfl,rfl,d⟩;rw[Rm<|by rw[B'];exact N9 _]at d;rwa[d]at q
theorem Gx(F:Fun K "is_blocked" "is_blocked" HU f p)(t:Fe P w K M b 1 "has_other_way" pj):ay P w K M b a_ 2 f p ["clause","literal","opposed"] wI:=by
 refine F.okB (N:=["clause","literal","opposed","other"]) λI A o s H J Q E L N h=>?_;obtain⟨a,l,c,z,X,C,rfl,u,e,d,q⟩:=h;refine⟨_,(ae (fS 3 (aD<|pv 2) gg)
  (cQ fm)),⟨_,rfl,l,rfl,⟨_,SqL.of e⟩,cy (K:=K) (X:=X) (HV H a l z c C) ⟨NZ,rfl,rfl,rfl⟩ ?_ ?_ ?_⟩⟩
 ·rintro i j m Z ⟨Z,Z,rfl,Z⟩;exact SqL.of e
 ·rintro i x j m v ⟨y,rfl,rfl,r⟩;obtain⟨k,n,T⟩:=d.get v;obtain⟨B,rfl,D⟩:=T;exists _,rfl,_,rfl,_,rfl,a,B,c,k,z,rfl,u,D,_,rfl;cases g:cJ c z k with
  |false=>
   have G:(C.all λk=>cJ c z k)=false:=TM.mpr ⟨k,N5 n,by rw[g];exact N6⟩;rwa[G]at q
  |true=>
   refine ak ⟨_,rfl,rfl,?_⟩;rw[OJ,S2,r];simp_all
 rintro j m ⟨y,rfl,rfl,r⟩;rw[Oi<|by rw[d.length];exact N9 _]at r;rwa[r]at q
noncomputable abbrev DE:Pn:=b9 41
noncomputable abbrev DF:Pn:=b9 42
noncomputable abbrev DG:Pn:=b9 43
noncomputable abbrev DH:Pn:=b9 44
noncomputable abbrev Mh:Pn:=b9 45
def RC(H h:Hp)(o:M' (ab<|ab Int))(v:V):Prop:=
 match o with
 |none=>v=.non
 |some c=>∃(l:J') (x:ab V),v=.ref l/\H l=NZ/\h l=gV (.lst x)/\CLs h c x
noncomputable def gy(c:ab (ab Int))(i:Nat):ab (ab Int):=c.take i++c.drop (i+1)
noncomputable def qP(t:Str)(c:ab (ab Int))(d:Og):M' (ab<|ab Int):=(aH c.length d).map λi=>c.take i++[aq t N8<|c.getD i []]++c.drop (i+1)
noncomputable def qQ(t:Str)(c:ab (ab Int))(d:Og):M' (ab<|ab Int):=(aH c.length d).bind λi=>if kF t (c.getD i [])=NW then gV (cL ((c.getD i []).getD 0 0) c)else NZ
noncomputable def kI(t:Str)(C:ab (ab Int)):Og->M' (ab<|ab Int)
 |.int z=>if((C.any λc=>c.contains z)&&!(C.any λc=>c.contains (-z)))=NW then gV (cL (if dQ t z=NW then z else -z) C)else NZ
 |_=>NZ
noncomputable def qR(c:ab (ab Int))(d e:Og):M' (ab<|ab Int):=(aH c.length d).bind λi=>(aH c.length e).bind λj=>if(!decide (i=j)&&((c.getD j []).all λz=>(c.getD i []).contains z))=NW then gV (gy c i)else NZ
noncomputable def iK(t:Str)(C:ab (ab Int))(i:Nat)(z:Int):N':=(C.getD i []).contains z&&(dQ t z&&((C.filter λc=>c.contains (-z)).all λk=>cJ (C.getD i []) z k))
noncomputable def iL(t:Str)(c:ab (ab Int))(d:Og):Og->M' (ab<|ab Int)
 |.int z=>(aH c.length d).bind λi=>if iK t c i z=NW then gV (gy c i)else NZ
 |_=>NZ
structure dR (H:Hp)(p q:J')(t:Str)(xs:ab V)(cs:ab (ab Int)):Prop where
 hp:H p=gV (.tup [.str t,.ref q])
 hq:H q=gV (.lst xs)
 hcs:CLs H cs xs
 ht:t.length<=30
 hn:cs.length<=400
 hok:∀c∈cs,jG t.length c
 hc:∀c∈cs,c.length<=60
inductive NI (b:Str->ab (ab Int)->Og->M' (ab<|ab Int))(vs:ab V)(H:Hp)(Q:VK):Prop
 |mk (p q:J')(t:Str)(xs:ab V)(c:ab (ab Int))(v:V)(d:Og)(h0:vs=[.ref p,v])(e:dR H p q t xs c)(f:RD H d v)(g:∀a h,Same H h->RC H h (b t c d) a->Q a h)
def Au(b:Str->ab (ab Int)->Og->M' (ab<|ab Int)):Sp:=λv H Q _=>NI b v H Q
inductive NJ (b:Str->ab (ab Int)->Og->Og->M' (ab<|ab Int))(vs:ab V)(H:Hp)(Q:VK):Prop
 |mk (p q:J')(t:Str)(xs:ab V)(c:ab (ab Int))(v w:V)(d e:Og)(h0:vs=[.ref p,v,w])(f:dR H p q t xs c)(g:RD H d v)(i:RD H e w)(j:∀a h,Same H h->RC H h (b t c d e) a->Q a h)
def Gy(b:Str->ab (ab Int)->Og->Og->M' (ab<|ab Int)):Sp:=λv H Q _=>NJ b v H Q
inductive iZ (vs:ab V)(H:Hp)(Q:VK)(E:XK):Prop
 |mk (p:J')(l:Int)(xs:ab V)(C:ab (ab Int))(h0:vs=[.ref p,.int l])(a:H p=gV (.lst xs))(b:CLs H C xs)(d:C.length<=900)(e:∀c∈C,c.length<=900)(f:∀(q:J') (ys:ab V) (h:Hp),Same H h->H q=NZ->h q=gV (.lst ys)->CLs h (cL l C) ys->Q (.ref q) h)
theorem pq(h:kF t c=NW):∃z,c=[z]:=by
 match c,h with
 |[z],_=>lia
theorem fT(h:CLs H C X)(d:i<C.length):∃t,X[i]?=gV (.ref t)/\jg H t (C.getD i [])/\C.getD i []∈C:=by
 have l:=h.length;obtain⟨x,a⟩:∃x,X[i]?=gV x:=⟨_,N1 (Pf d (Tw l))⟩;obtain⟨c,b,t,rfl,Q⟩:=h.get a;have e:C.getD i []=c:=by rw[K',b];rfl
 rw[e];exact⟨t,a,Q,N5 b⟩
theorem DI(F:Fun K "behind_drop" "behind_drop" DE f D)(T:Bl M)(UO:Fe P w K M b 2 "is_place" gN)(WG:Fe P w K M b 3 "dropped" eJ):ay P w K M b a_ 4 f D ["sentence","place"] (Au qP):=by
 refine F.okB (N:=["sentence","place","clauses"]) λQC A o s H vs Q E sc hr h=>?_;obtain⟨p,q,t,x,C,v,d,rfl,S,r,a⟩:=h;have G:=S.hcs.length;refine⟨_,(ae gg
  (ae gg
  (cQ<|b_ cF (b_ cF (bu bZ (pv 2) bU gg) gg)<|bu bZ (pv 2) gg bU))),?_⟩
 refine⟨_,rfl,(aS S.hp rfl ?_)⟩;exists _,rfl,_,rfl,.ref q,_,rfl,.inl ⟨_,SqL.of S.hq,rfl⟩,v,d,C.length,(by rw[G];rfl),r,_,rfl;unfold qP at a;cases e:aH _ d with
 |none=>
  rw[e]at a;exact ap<|a _ _ (Same.refl _) rfl
 |some i=>
  rw[e]at a;obtain⟨I,rfl⟩:=aA e;obtain rfl:=aw r;obtain⟨J,N,O,u⟩:=fT S.hcs I;have ht:=S.ht;have hn:=S.hn;refine ak<|⟨_,rfl,_,rfl,_,rfl,q,x,rfl,SqL.of S.hq,λL U=>?_⟩;rw[vV];have k:=ad U<|.lst<|x.take i;have y:=@aa H L (.lst<|x.take i);refine⟨_,rfl,_,rfl,_,rfl,(fz (k _ _ S.hq) (aG N) ⟨p,J,t,_,N8,_,rfl,k _ _ S.hp,(by lia),k _ _ O,S.hc _ u,S.hok _ u,λl H2 g W=>⟨(by show 1<=sizeLine;decide),λX Y=>?_⟩⟩)⟩;have c:=ad Y<|.lst [.ref l];refine⟨L,X,_,_,rfl,rfl,(g.trans c) _ _ y,aa,OW<|ah (by grind),λZ q4=>?_⟩;have j:=ad q4<|.lst<|x.take i++[.ref l];refine⟨_,rfl,_,rfl,_,_,rfl,rfl,_,rfl,q,x,rfl,SqL.of<|(k.trans<|g.trans<|c.trans j) _ _ S.hq,λl5 q5=>?_⟩;have ec:bC x (gV<|(i)+1) NZ=x.drop _:=jT x<|i+1;rw[ec];have m:=ad q5<|.lst<|x.drop<|i+1;refine⟨Z,l5,_,_,rfl,rfl,m _ _ aa,aa,OW<|ah (by grind),λl6 z=>?_⟩;have B:=ad z<|.lst<|x.take i++[.ref l]++x.drop (i+1);have n:=k.trans<|g.trans<|c.trans<|j.trans<|m.trans B;exact a _ _ n ⟨l6,_,rfl,(k.trans<|g.trans<|c.trans<|j.trans m).free z,aa,fI (fI (gi i<|S.hcs.mono n)<|Paired.cons ⟨l,rfl,(c.trans<|j.trans<|m.trans B) _ _ W⟩ .nil)<|gk _<|S.hcs.mono n⟩
theorem DJ(F:Fun K "behind_unit" "behind_unit" DF f y)(T:Bl m)(Z:Fe P w K m b 2 "is_place" gN)(B:Fe P w K m b 3 "is_unit" pi)(Zh:Fe P w K m b 1 "clauses_behind" iZ):ay P w K m b a_ 4 f y ["sentence","place"] (Au qQ):=by
 refine F.okB (N:=["sentence","place","clauses"]) λQC A o s H vs Q E sc hr h=>?_;obtain⟨p,q,t,X,C,v,d,rfl,S,r,a⟩:=h;have D:=S.hcs.length;exists _,gg;refine⟨_,rfl,(aS S.hp rfl ?_)⟩;exists _,rfl,_,rfl,.ref q,_,rfl,.inl ⟨_,SqL.of S.hq,rfl⟩,v,d,C.length,(by rw[D];rfl),r,_,rfl;unfold qQ at a;cases e:aH _ d with
 |none=>
  rw[e]at a;exact ap<|ap<|a _ _ (Same.refl _) rfl
 |some i=>
  rw[e]at a;obtain⟨G,rfl⟩:=aA e;obtain rfl:=aw r;obtain⟨I,x,k,J⟩:=fT S.hcs G;have ht:=S.ht;have hn:=S.hn;have L:=S.hc;have j:∀u n,Same H n->RC H n (if kF t _=NW then gV _ else NZ) u->Q u n:=a;refine ak ⟨_,rfl,_,rfl,_,rfl,(fz S.hq (aG x) ⟨p,I,t,_,_,rfl,S.hp,(by lia),k,S.hok _ J,_,rfl,?_⟩)⟩;cases g:kF t _ with
  |false=>
   rw[g]at j;exact ap<|j _ _ (Same.refl _) rfl
  |true=>
   rw[g]at j;obtain⟨z,M⟩:=pq g;rw[M]at k j;exact ak ⟨_,rfl,_,rfl,_,rfl,(fz S.hq (aG x)<|aS k rfl ⟨q,z,X,C,rfl,S.hq,S.hcs,(by lia),(λc h=>by have:=L c h;lia),λl Y H1 N O U W=>j _ _ N ⟨l,Y,rfl,O,U,W⟩⟩)⟩
theorem DK(F:Fun K "behind_within" "behind_within" DH f U)(T:Bl m)(UO:Fe P w K m b 2 "is_place" gN)(W:Fe P w K m b 1 "holds_all" sF):ay P w K m b a_ 3 f U ["sentence","place","within"] (Gy λV=>qR):=by
 refine F.okB (N:=["sentence","place","within","clauses"]) λQC A o s H vs Q E sc hr h=>?_;obtain⟨p,q,t,x,c,v,w,d,e,rfl,S,G,I,a⟩:=h;have J:=S.hcs.length;refine⟨_,(ae gg
  (ae gg
  (ae gg
  (cQ<|b_ cF (bu bZ (pv 3) bU gg)<|bu bZ (pv 3) gg bU)))),?_⟩
 refine⟨_,rfl,(aS S.hp rfl ?_)⟩;exists _,rfl,_,rfl,.ref q,_,rfl,.inl ⟨_,SqL.of S.hq,rfl⟩,v,d,c.length,(by rw[J];rfl),G,_,rfl;unfold qR at a;cases l:aH _ d with
 |none=>
  rw[l]at a;exact ap<|ap<|a _ _ (Same.refl _) rfl
 |some i=>
  rw[l]at a;obtain⟨X,rfl⟩:=aA l;obtain rfl:=aw G;refine ak ⟨_,rfl,_,rfl,.ref q,_,rfl,.inl ⟨_,SqL.of S.hq,rfl⟩,w,e,c.length,(by rw[J];rfl),I,_,rfl,?_⟩;cases n:aH _ e with
  |none=>
   rw[n]at a;exact ap<|ap<|a _ _ (Same.refl _) rfl
  |some j=>
   rw[n]at a;obtain⟨Y,rfl⟩:=aA n;obtain rfl:=aw I;have hn:=S.hn;have k:∀L r,Same H r->RC H r (if(!decide _&&((c.getD j []).all _))=NW then gV _ else NZ) L->Q L r:=a;refine ak ⟨_,rfl,_,rfl,.inl ⟨rfl,_,rfl,cn (λg=>?_) λg=>?_⟩⟩
   ·have u:i=j:=by
     lia
    rw[N3 u]at k;exact k _ _ (Same.refl _) rfl
   have N:i≠j:=λz=>g (N3<|by rw[z]);rw[N7 N]at k;obtain⟨Z,hx,Q7,hm⟩:=fT S.hcs X;obtain⟨td,hy,y,ac⟩:=fT S.hcs Y;refine⟨_,rfl,_,rfl,(fz S.hq (aG hx) ⟨_,rfl,_,rfl,(fz S.hq (aG hy) ⟨Z,td,_,_,rfl,Q7,y,_,rfl,?_⟩)⟩)⟩;cases M:((c.getD j []).all _)with
   |false=>
    rw[M]at k;exact ap<|k _ _ (Same.refl _) rfl
   |true=>
    rw[M]at k;refine ak<|⟨_,rfl,_,rfl,_,rfl,q,x,rfl,SqL.of S.hq,λl1 q1=>?_⟩;rw[vV];have B:=ad q1<|.lst<|x.take i;refine⟨_,rfl,_,rfl,_,_,rfl,rfl,_,rfl,q,x,rfl,SqL.of<|B _ _ S.hq,λl5 q5=>?_⟩;have ec:bC x (gV<|(i)+1) NZ=x.drop _:=jT x<|i+1;rw[ec];have C:=ad q5<|.lst<|x.drop<|i+1;refine⟨l1,l5,_,_,rfl,rfl,C _ _ aa,aa,OW (ah<|by grind),λl6 O=>?_⟩;have D:=B.trans<|C.trans<|ad O<|.lst<|x.take i++x.drop (i+1);exact k _ _ D ⟨l6,_,rfl,(B.trans C).free O,aa,fI (gi i<|S.hcs.mono D)<|gk _<|S.hcs.mono D⟩
noncomputable def dD(H:Hp)(z:Int)(x:V):N':=match x with
 |.ref p=>match H p with
  |some (.tup Z)=>Z.contains<|.int z
  |_=>N8
 |_=>N8
theorem Av(Z:ab Int)(l:Int):(Z.map V.int).contains (.int l)=Z.contains l:=by
 simp
theorem fU(h:CL H k x):dD H z x=k.contains z:=by
 obtain⟨p,rfl,a⟩:=h;unfold dD;simp only[a];exact Av k z
theorem sG:∀{C:ab (ab Int)} {X:ab V},CLs H C X->X.any (dD H z)=C.any λc=>c.contains z
 |_,_,.nil=>rfl
 |k::C,x::X,.cons h t=>by
  rw[Qu,Qu,fU h,sG t]
theorem kJ:∀{C:ab (ab Int)} {X:ab V},CLs H C X->CLs H (C.filter λc=>c.contains z) (X.filter<|dD H z)
 |_,_,.nil=>.nil
 |k::C,x::X,.cons h t=>by
  cases g:k.contains z with
  |true=>
   rw[Pu (by exact g),Pu<|by rwa[fU h]];exact .cons h<|kJ t
  |false=>
   rw[Pw (by lia),Pw<|by rw[fU h,g];decide];exact kJ t
theorem yz{a:Type}(l:ab a)(f:a->N'):((l.map λx=>V.bl<|f x).all t6)=NW/\(l.map λx=>V.bl<|f x).any ig=l.any f:=by
 refine⟨by rw[RJ];exact O2.mpr λz z=>rfl,?_⟩;rw[R5];rfl
theorem DL(F:Fun K "behind_pure" "behind_pure" DG f fd)(T:Bl M)(UT:Fe P w K M b 1 "is_number" h_)(am:Fe P w K M b 2 "is_of" lV)(Zh:Fe P w K M b 1 "clauses_behind" iZ):ay P w K M b a_ 3 f fd ["sentence","literal"] (Au kI):=by
 refine F.okB (N:=["sentence","literal","clauses"]) λQC A O s H vs Q E sc hr h=>?_;obtain⟨p,q,t,X,C,v,d,rfl,S,hd,I⟩:=h;have P1:=S.hcs.length;have hn:=S.hn;have hc:=S.hc;have ht:=S.ht;refine⟨_,(ae gg
  (ae (aQ (PW.pt<|pW gg<|rc<|ij<|gR<|aN (iq rfl) rfl T.any Rw<|fC<|fW ["clause","literal"] [NZ,gV 1] (aD<|pv 2) (e:=λ_ _ _ _=>(iQ (dg (K:=K) rfl) (pv 1) (pv 0)<|by rfl))) (cQ fE) ax)
  (ae (aQ (gR<|aN (iq rfl) rfl T.any Rw<|fC<|fW ["clause","literal"] [NZ,gV 1] (aD<|pv 2) (e:=λ_ _ _ _=>(iQ (dg (K:=K) rfl) gg (pv 0)<|by rfl))) (cQ fE) ax)
  gg))),?_⟩
 refine⟨_,rfl,(aS S.hp rfl ?_)⟩;exists _,rfl,v,d,rfl,hd,_,rfl;obtain⟨z,rfl⟩|m:=iu d
 rotate_left
 ·rw[gY m];have e:kI t C d=none:=by
   cases d with
   |int z=>lia
   |_=>rfl
  rw[e]at I;exact ap<|ap<|I _ _ (Same.refl _) rfl
 obtain rfl:=aw hd;have g:∀n a,Same H a->RC H a (if((C.any λc=>c.contains z)&&!(C.any λc=>c.contains (-z)))=NW then gV (cL (if dQ t z=NW then z else -z) C)else NZ) n->Q n a:=I;refine ak ⟨_,rfl,q,rfl,⟨_,SqL.of S.hq⟩,λD hD=>?_⟩;refine cM [gV<|.int z] (λ_=>NW) (λx=>.bl<|dD H z x) rfl S.hq hD (by lia) ?_ ?_ ?_
 ·intro x o a R k r;exact r
 ·intro x o _ a R k r;obtain⟨i,J⟩:=Pm.mp o;obtain⟨u,_,y⟩:=S.hcs.get J;rw[fU y]at r;obtain⟨L,rfl,N⟩:=y;exists _,rfl,_,rfl,L,_,rfl,.inr<|SqT.of<|k _ _ N,rfl,bd u;show R (.bl<|gP (.int z)<|u.map V.int) a
  rw[aP];exact r
 have ef:(X.filter λ_=>NW)=X:=Qz.mpr λ_ _=>rfl;rw[ef];have ea:=yz X<|dD H z;have j:=ad hD<|.lst<|X.map λx=>.bl<|dD H z x;have r1:=@aa H D (.lst<|X.map λx=>.bl<|dD H z x);generalize upd H D (.lst<|X.map λx=>.bl<|dD H z x)=H1 at j r1;exists D,_,rfl,SqL.of r1,ea.1,_,rfl;rw[ea.2,sG S.hcs];cases U:(C.any _)with
 |false=>
  rw[U]at g;exact ap<|g _ _ j rfl
 |true=>
 rw[U]at g;refine ak ⟨_,rfl,q,rfl,⟨_,SqL.of<|j _ _ S.hq⟩,λW ZG=>cM [gV<|.int z] (λ_=>NW) (λx=>.bl<|dD H (-z) x) rfl (j _ _ S.hq) ZG (by lia) ?_ ?_ ?_⟩
 ·intro x o a R k r;exact r
 ·intro x o _ a R k r;obtain⟨i,J⟩:=Pm.mp o;obtain⟨u,_,y⟩:=S.hcs.get J;rw[fU y]at r;obtain⟨L,rfl,N⟩:=y;exists _,rfl,_,rfl,_,rfl,L,_,rfl,.inr<|SqT.of<|k _ _<|j _ _ N,rfl,bd u;show R (.bl<|gP (.int _)<|u.map _) a
  rwa[aP]
 rw[ef];have B:=yz X<|dD H (-z);have k2:=ad ZG<|.lst<|X.map λx=>.bl<|dD H (-z) x;have r2:=@aa H1 W (.lst<|X.map λx=>.bl<|dD H (-z) x);generalize upd H1 W (.lst<|X.map λx=>.bl<|dD H _ x)=H2 at k2 r2;exists W,_,rfl,SqL.of r2,B.1,_,rfl;rw[B.2,sG S.hcs];have Z:=j.trans k2;cases g2:(C.any λc=>c.contains _)with
 |true=>
  rw[g2]at g;exact ap<|g _ _ Z rfl
 |false=>
 rw[g2]at g;obtain⟨c0,Y,ac⟩:=OC.mp U;have hz:=S.hok c0 Y z<|Of.mp ac;have G:∀n a,Same H a->RC H a _ n->Q n a:=g;refine ak ⟨_,rfl,_,rfl,_,rfl,p,t,_,z,NW,rfl,Z _ _ S.hp,(by lia),hz.1,hz.2,_,rfl,?_⟩;cases g3:dQ t z with
 |true=>
  rw[g3]at G;exact ap ⟨_,rfl,q,z,X,C,rfl,Z _ _ S.hq,S.hcs.mono Z,(by lia),(λc h=>by have:=hc c h;lia),λl ys H3 k3 n3 r3 c3=>G _ _ (Z.trans k3) ⟨l,ys,rfl,Z.free n3,r3,c3⟩⟩
 |false=>
  rw[g3]at G;exact ak ⟨_,rfl,_,rfl,q,-z,X,C,rfl,Z _ _ S.hq,S.hcs.mono Z,(by lia),(λc h=>by have:=hc c h;lia),λl ys H3 k3 n3 r3 c3=>G _ _ (Z.trans k3) ⟨l,ys,rfl,Z.free n3,r3,c3⟩⟩
theorem Kl(F:Fun K "behind_blocked" "behind_blocked" Mh f fd)(T:Bl m)(UO:Fe P w K m b 2 "is_place" gN)(UT:Fe P w K m b 1 "is_number" h_)(ac:Fe P w K m b 2 "is_of" lV)(am:Fe P w K m b 2 "is_blocked" wI):ay P w K m b a_ 3 f fd ["sentence","place","literal"] (Gy iL):=by
 refine F.okB (N:=["sentence","place","literal","clauses","opposed"]) λQC A O s H vs Q E sc hr h=>?_;obtain⟨p,q,t,X,C,v,w,d,e,rfl,S,W,Y,l⟩:=h;have P1:=S.hcs.length;have hn:=S.hn;have ht:=S.ht;refine⟨_,(ae gg
  (ae gg
  (ae (B_ 4 ["clause","literal"] [NZ,gV 2] (aD<|pv 3) (t:=λ_ _ _ _=>(bM<|cV (dg (K:=K) rfl) gg (pv 0)<|by rfl)))
  (ae gg
  (cQ<|b_ cF (bu bZ (pv 3) bU gg)<|bu bZ (pv 3) gg bU))))),?_⟩
 refine⟨_,rfl,(aS S.hp rfl ?_)⟩;exists _,rfl,_,rfl,.ref q,_,rfl,.inl ⟨_,SqL.of S.hq,rfl⟩,v,d,C.length,(by rw[P1];rfl),W,_,rfl;cases y:aH C.length d with
 |none=>
  have B:iL t C d e=none:=by
   cases e with
   |int z=>
    show(aH C.length d).bind _=NZ
    rw[y];rfl
   |_=>rfl
  rw[B]at l;exact ap<|ap<|l _ _ (Same.refl _) rfl
 |some i=>
 obtain⟨G,rfl⟩:=aA y;obtain rfl:=aw W;refine ak ⟨_,rfl,w,e,rfl,Y,_,rfl,?_⟩;obtain⟨z,rfl⟩|n:=iu e
 rotate_left
 ·rw[gY n];have B:iL t C (.int (i:Int)) e=none:=by
   cases e with
   |int z=>lia
   |_=>rfl
  rw[B]at l;exact ap<|ap<|l _ _ (Same.refl _) rfl
 obtain rfl:=aw Y;obtain⟨Z,o,Q7,hm⟩:=fT S.hcs G;have a:∀u j,Same H j->RC H j (if iK t C i z=NW then gV (gy C i)else NZ) u->Q u j:=λu j k r=>l u j k (by
  show RC H j ((aH C.length<|.int (i:Int)).bind _) u
  rw[y];exact r)
 unfold iK at a;have e:(if NW=NW then !gP (.int z) ((C.getD i []).map V.int)else gP (.int z) ((C.getD i []).map V.int))=!(C.getD i []).contains z:=by
  rw[On rfl,aP]
 refine ak ⟨_,rfl,_,rfl,_,rfl,(fz S.hq (aG o) ⟨Z,_,rfl,.inr<|SqT.of Q7,rfl,bd _,_,rfl,?_⟩)⟩;rw[e];cases I:(C.getD i []).contains z with
 |false=>
  rw[I]at a;exact ap<|a _ _ (Same.refl _) rfl
 |true=>
 rw[I]at a;have hz:=S.hok _ hm z<|Of.mp I;refine ak ⟨_,rfl,q,rfl,⟨_,SqL.of S.hq⟩,λD hD=>?_⟩;refine cM [gV<|.int z] (dD H (-z)) (λx=>x) rfl S.hq hD (by lia) ?_ ?_ ?_
 ·intro x o j R k r;obtain⟨i,G⟩:=Pm.mp o;obtain⟨kc,_,TQ⟩:=S.hcs.get G;rw[fU TQ]at r;obtain⟨td,rfl,J⟩:=TQ;exists _,rfl,_,rfl,_,rfl,td,_,rfl,.inr<|SqT.of<|k _ _ J,rfl,bd kc,_,rfl;show R (gP (.int (-z))<|kc.map V.int) j
  rw[aP];exact r
 ·intro x o _ j R k r;exact⟨_,rfl,r⟩
 rw[TC];have g:=ad hD<|.lst<|X.filter<|dD H (-z);have r1:=@aa H D (.lst<|X.filter<|dD H (-z));generalize upd H D (.lst<|X.filter<|dD H _)=H1 at g r1;have L:=(kJ (z:=-z) S.hcs).mono g;exists _,rfl,_,rfl,p,t,_,z,NW,rfl,g _ _ S.hp,(by lia),hz.1,hz.2,_,rfl;cases g2:dQ t z with
 |false=>
  rw[g2]at a;exact ap<|ap<|a _ _ g rfl
 |true=>
 rw[g2]at a;refine ak ⟨_,rfl,_,rfl,(fz (g _ _ S.hq) (aG o) ⟨_,rfl,_,rfl,Z,D,_,z,_,_,rfl,g _ _ Q7,r1,L,_,rfl,?_⟩)⟩;cases g3:((C.filter _).all λk=>cJ _ z k)with
 |false=>
  rw[g3]at a;exact ap<|a _ _ g rfl
 |true=>
  rw[g3]at a;refine ak<|⟨_,rfl,_,rfl,_,rfl,q,X,rfl,SqL.of<|g _ _ S.hq,λl1 q1=>?_⟩;rw[vV];have M:=ad q1<|.lst<|X.take i;refine⟨_,rfl,_,rfl,_,_,rfl,rfl,_,rfl,q,X,rfl,SqL.of<|(g.trans M) _ _ S.hq,λl5 q5=>?_⟩;have ec:bC X (gV<|(i)+1) NZ=X.drop _:=jT X<|i+1;rw[ec];have N:=ad q5<|.lst<|X.drop<|i+1;refine⟨l1,l5,_,_,rfl,rfl,N _ _ aa,aa,OW (ah<|by grind),λl6 q6=>?_⟩;have U:=g.trans<|M.trans<|N.trans<|ad q6<|.lst<|X.take i++X.drop (i+1);exact a _ _ U ⟨l6,_,rfl,(g.trans<|M.trans N).free q6,aa,fI (gi i<|S.hcs.mono U)<|gk _<|S.hcs.mono U⟩
noncomputable abbrev DN:Pn:=b9 46
noncomputable abbrev wJ:Pn:=b9 47
noncomputable def fi:Str:=N_ "unit"
noncomputable def fj:Str:=N_ "pure"
noncomputable def cE:Str:=N_ "within"
noncomputable def bT:Str:=N_ "blocked"
theorem yA:PP (.str aB)=true:=Nice.shaped (d6 8<|by decide+kernel)
theorem yB:PP (.str fi)=true:=Nice.shaped (d6 8<|by decide+kernel)
theorem yC:PP (.str fj)=true:=Nice.shaped (d6 8<|by decide+kernel)
theorem qS:PP (.str cE)=true:=Nice.shaped (d6 8<|by decide+kernel)
theorem px:PP (.str bT)=true:=Nice.shaped (d6 8<|by decide+kernel)
noncomputable def bG(t:Str)(c:ab (ab Int))(d:Og):M' (ab<|ab Int):=
 if formB aB 2 d=NW then qP t c (fK d 1)
 else if formB fi 2 d=NW then qQ t c (fK d 1)
 else if formB fj 2 d=NW then kI t c (fK d 1)
 else if formB cE 3 d=NW then qR c (fK d 1) (fK d 2)
 else if formB bT 3 d=NW then iL t c (fK d 1) (fK d 2)
 else NZ
inductive sI (vs:ab V)(H:Hp)(Q:VK)(E:XK):Prop
 |mk (p q:J')(t:Str)(xs:ab V)(c:ab (ab Int))(v:V)(d:Og)(h0:vs=[.ref p,v])(b:dR H p q t xs c)(e:RD H d v)(f:MD d)(g:∀a h,Same H h->RC H h (bG t c d) a->Q a h)
theorem DO(F:Fun K "clauses_after" "clauses_after" DN f O)(T:Fe P w K m B 1 "begins_with" Dy)(U:Fe P w K m B 4 "behind_drop" (Au qP))(W:Fe P w K m B 4 "behind_unit" (Au qQ))(Y:Fe P w K m B 3 "behind_pure" (Au kI))(ac:Fe P w K m B 3 "behind_within" (Gy λV=>qR))(am:Fe P w K m B 3 "behind_blocked" (Gy iL)):ay P w K m B a_ 5 f O ["sentence","step"] sI:=by
 refine F.okB (N:=["sentence","step"]) λQC A o s H vs Q E sc hr h=>?_;obtain⟨p,q,t,X,C,v,d,rfl,S,g,c,a⟩:=h;exists _,gg;unfold bG at a;exists _,rfl,v,d,aB,2,rfl,g,by simp,yA,c,_,rfl;cases u:formB aB 2 d with
 |true=>
  rw[u,On rfl]at a;obtain⟨i,rfl,l⟩:=d_ u;obtain⟨b,Z,rfl,e,z⟩:=al g;obtain⟨j,D,k,x,rfl,rfl,n,r⟩:=pf z l;exact ap ⟨_,rfl,_,rfl,(aS e rfl ⟨p,q,t,X,C,x,D,rfl,S,r,a⟩)⟩
 |false=>
 rw[u,Oo N6]at a;refine ak ⟨_,rfl,v,d,fi,2,rfl,g,by simp,yB,c,_,rfl,?_⟩;cases y:formB fi 2 d with
 |true=>
  rw[y,On rfl]at a;obtain⟨i,rfl,l⟩:=d_ y;obtain⟨b,Z,rfl,e,z⟩:=al g;obtain⟨j,D,k,x,rfl,rfl,n,r⟩:=pf z l;exact ap ⟨_,rfl,_,rfl,(aS e rfl ⟨p,q,t,X,C,x,D,rfl,S,r,a⟩)⟩
 |false=>
 rw[y,Oo N6]at a;refine ak ⟨_,rfl,v,d,fj,2,rfl,g,by simp,yC,c,_,rfl,?_⟩;cases G:formB fj 2 d with
 |true=>
  rw[G,On rfl]at a;obtain⟨i,rfl,l⟩:=d_ G;obtain⟨b,Z,rfl,e,z⟩:=al g;obtain⟨j,D,k,x,rfl,rfl,n,r⟩:=pf z l;exact ap ⟨_,rfl,_,rfl,(aS e rfl ⟨p,q,t,X,C,x,D,rfl,S,r,a⟩)⟩
 |false=>
 rw[G]at a;refine ak ⟨_,rfl,v,d,cE,3,rfl,g,by simp,qS,c,_,rfl,?_⟩;cases I:formB cE 3 d with
 |true=>
  rw[I,On rfl]at a;obtain⟨i,rfl,l⟩:=d_ I;obtain⟨b,Z,rfl,e,z⟩:=al g;obtain⟨j,D,J,k,x,L,rfl,rfl,n,r,M⟩:=ph z l;exact ap ⟨_,rfl,_,rfl,(aS e rfl ⟨_,rfl,(aS e rfl ⟨p,q,t,X,C,x,L,D,J,rfl,S,r,M,a⟩)⟩)⟩
 |false=>
 rw[I]at a;refine ak ⟨_,rfl,v,d,bT,3,rfl,g,by simp,px,c,_,rfl,?_⟩;cases N:formB bT 3 d with
 |true=>
  rw[N]at a;obtain⟨i,rfl,l⟩:=d_ N;obtain⟨b,Z,rfl,e,z⟩:=al g;obtain⟨j,D,J,k,x,L,rfl,rfl,n,r,M⟩:=ph z l;exact ap ⟨_,rfl,_,rfl,(aS e rfl ⟨_,rfl,(aS e rfl ⟨p,q,t,X,C,x,L,D,J,rfl,S,r,M,a⟩)⟩)⟩
 |false=>
  rw[N]at a;exact ak<|a _ _ (Same.refl _) rfl
theorem yD:dk ["sentence","step","clauses"] ["sentence","step"] (aJ wJ):=ET
noncomputable abbrev yE:Pn:=b9 21
theorem Aw(F:Fun K "clauses_behind" "clauses_behind" yE f fd)(T:Bl mg):ay P w K mg ac a_ 1 f fd ["clauses","literal"] iZ:=by
 refine F.okB (N:=["clauses","literal","left","clause"]) λQC A O s H vs Q E sc hr h=>?_;obtain⟨p,l,xs,C,rfl,hp,n,hn,M,q⟩:=h;refine⟨_,(ae gg
  (ae (fS 3 (aD<|pv 0)<|ar<|aQ gg (ar<|dm<|gG Ph P8 Qh dS (pv 2)<|fC<|aW bK rfl T.tuple Pr<|fC<|fW ["other","literal"] [NZ,gV 1]<|bA<|pv 3) ax)
  (cQ<|pv 2))),?_⟩
 refine⟨Oy _,λL a=>?_⟩;have N:upd H L (.lst []) p=gV _:=(ad a _) _ _ hp;refine⟨_,rfl,p,rfl,⟨_,SqL.of N⟩,cy (K:=K) (X:=xs)
  (λi B b=>∃U,B=[gV<|.ref p,gV<|.int l,gV<|.ref L,U]/\∃y,b L=gV (.lst y)/\CLs b (cL l<|C.take i) y/\Same H b)
  ⟨NZ,rfl,[],aa,.nil,ad a _⟩ ?_ ?_ ?_⟩
 ·rintro i B b S ⟨S,S,S,S,S,g⟩;exact SqL.of<|g _ _ hp
 ·rintro i x B b I ⟨U,rfl,y,G,m,g⟩;obtain⟨c,hc,t,rfl,ht⟩:=n.get I;have j:=g _ _ ht;have Xy:=N5 hc;have e:C.take (i+1)=C.take i++[c]:=by rw[OJ,hc];rfl
  have am:y.length<=900:=by
   rw[<-m.length];refine O8 (SQ _ _) ?_;rw[OB];exact O8 (T_ _ _) hn
  exists _,rfl,_,rfl,t,c.map _,rfl,.inr<|SqT.of j,rfl,bJ c,_,rfl;rw[aP];cases gc:c.contains l with
  |false=>
   refine ap ⟨_,rfl,.inl ⟨rfl,_,SqL.of G⟩,_,rfl,t,rfl,⟨_,SqT.of j⟩,λD W=>aY [gV<|.int l] (λx=>!decide (x=.int (-l))) (λx=>x) rfl j W (by rw[B'];have:=M c Xy;lia) ?_ ?_ ?_⟩
   ·intro x I H' R k r;obtain⟨z,S,rfl⟩:=bo I;exact⟨_,rfl,_,rfl,_,rfl,.inl ⟨rfl,_,rfl,r⟩⟩
   ·intro x I S H' R k r;exact⟨_,rfl,r⟩
   ·rw[cB c (λo=>!decide (o=-l)) _ λi=>by simp];refine⟨D,_,rfl,.inl ⟨SqL.of aa,λX u=>?_⟩⟩;have Y:=ag G W;have Yc:upd b D (.lst<|(c.filter λo=>!decide (o=-l)).map V.int) L=gV (.lst y):=by rwa[af Y]
    have Z:=ad W<|.lst<|(c.filter λo=>!decide (o=-l)).map V.int;generalize upd b D (.lst<|(c.filter _).map _)=H3 at Yc u Z;have J:=ad u<|.tup<|(c.filter λo=>!decide (o=-l)).map V.int;have d:=J _ _ Yc;have v:=@aa H3 X (.tup<|(c.filter λo=>!decide (o=-l)).map V.int);generalize upd H3 X _=H4 at d v J;refine⟨L,y,_,rfl,rfl,d,ah (by lia),_,rfl,_,aa,?_,(g.trans<|Z.trans J).upd_new a _⟩;rw[e];unfold cL;rw[Wx];have eb:Z8 (gX l) [c]=[c.filter λo=>!decide (o=-l)]:=by
     rw[RT];unfold gX;rw[gc];rfl
    rw[eb];exact CLs.snoc (CL.upd ⟨X,rfl,v⟩ d)<|(m.mono<|Z.trans J).upd d
  |true=>
   refine ak ⟨_,rfl,y,G,?_,g⟩;rw[e];unfold cL;rw[Wx];have eb:Z8 (gX l) [c]=[]:=by
    rw[RT];unfold gX;rw[gc];rfl
   rwa[eb,Py]
 rintro B b ⟨U,rfl,y,G,m,g⟩;rw[Oi<|by rw[n.length];exact N9 _]at m;exact⟨_,rfl,q L y b g a G m⟩
theorem u5(z:Int):absI (-z)=absI z:=by
 obtain⟨y,e⟩|⟨y,e⟩:=aI z<;>obtain⟨y,E⟩|⟨y,E⟩:=aI (-z)<;>lia
theorem lW:∀{k:ab Int},Ups k->cJ c z k=k.any λx=>decide (absI x<absI z)&&c.contains (-x)
 |[],_=>rfl
 |x::r,h=>by
  have e:cJ c z (x::r)=if absI z<=absI x then N8 else if c.contains _=NW then NW else cJ c z r:=rfl
  rw[e,Qu];by_cases g:absI z<=absI x
  ·rw[On g,N7 (aae g)];refine(Vy.mpr λy H=>?_).symm;have:=h.head y H;rw[N7<|by lia];exact N6
  rw[Oo g,N3 (VY g)];cases G:c.contains _ with
  |true=>rfl
  |false=>
   rw[lW h.tail];rfl
theorem DQ{c k:ab Int}{z:Int}:(k.any λx=>decide (absI x<absI z)&&c.contains (-x))=(c.any λo=>decide (absI o<absI z)&&k.contains (0-o)):=by
 rw[P9,OC,OC];constructor
 ·rintro⟨x,H,h⟩;rw[OO]at h;exists -x,Of.mp h.2;rw[OO,u5];refine⟨h.1,Of.mpr ?_⟩;simp_all
 rintro⟨o,a,h⟩;rw[OO]at h;exists 0-o,Of.mp h.2;rw[OO,Wh,u5,Tg];exact⟨h.1,Of.mpr a⟩
theorem u6{b:Type}(l:ab b)(p:b->N'):decide ((l.filter p).length=0)=!l.any p:=by
 cases h:l.any p with
 |true=>
  simp_all
 |false=>
  simp_all
theorem DR(h:kF t c=NW):∃z,c=[z]/\dQ t z=true:=by
 unfold kF at h
 split at h
 ·exact⟨_,rfl,h⟩
 simp_all
theorem sJ{c:ab (ab Int)}{i:Nat}(h:i<c.length):c.getD i []∈c:=by
 simp_all
theorem wK(h:bG t C d=gV D):D.length<=C.length/\∀c∈D,∃k∈C,∃p:Int->N',c=k.filter p:=by
 have same:∀k:ab Int,∃p:Int->N',k=k.filter p:=λk=>⟨λy=>NW,(Qz.mpr λy y=>rfl).symm⟩;have w:∀{i:Nat},i<C.length->(gy C i).length<=C.length/\∀c∈gy C i,∃k∈C,∃p:Int->N',c=k.filter p:=λ{i} a=>⟨by
  unfold gy;grind,λc H=>⟨c,j0 H,same c⟩⟩
 have b:∀z:Int,(cL z C).length<=C.length/\∀c∈cL z C,∃k∈C,∃p:Int->N',c=k.filter p:=λz=>⟨SQ _ _,λc H=>by
  obtain⟨k,f,y,e⟩:=dt.mp H;exact⟨k,f,_,e⟩⟩
 unfold bG at h
 split at h
 ·obtain⟨i,e,rfl⟩:=PZ.mp h;have a:=(aA e).1;refine⟨by rw[N0,N0,OB,PQ];show _+1+_<=_;lia,λc H=>?_⟩;obtain H|H:=Os.mp H
  ·obtain H|H:=Os.mp H
   ·exact⟨c,Qr H,same c⟩
   rw[Ob.mp H];exact⟨_,sJ a,_,rfl⟩
  exact⟨c,RG H,same c⟩
 split at h
 ·obtain⟨i,e,h⟩:=Pt.mp h
  split at h
  ·cases h;exact b _
  simp_all
 split at h
 ·unfold kI at h
  split at h
  ·split at h
   ·cases h;exact b _
   simp_all
  simp_all
 split at h
 ·obtain⟨i,E,h⟩:=Pt.mp h;obtain⟨j,g,h⟩:=Pt.mp h
  split at h
  ·cases h;exact w (aA E).1
  simp_all
 split at h
 ·unfold iL at h
  split at h
  ·obtain⟨i,E,h⟩:=Pt.mp h
   split at h
   ·cases h;exact w (aA E).1
   simp_all
  simp_all
 simp_all
structure Few (t:Str)(cs:ab (ab Int)):Prop where
 ws:WS t
 t8:t.length<=8
 many:cs.length<=16
 ok:∀c∈cs,au t.length c
 c4:∀c∈cs,c.length<=4
theorem Few.after(F:Few t C)(h:bG t C d=gV D):Few t D:=by
 obtain⟨a,b⟩:=wK h;refine⟨F.ws,F.t8,O8 a F.many,λc e=>?_,λc e=>?_⟩
 ·obtain⟨k,H,p,rfl⟩:=b c e;exact⟨(F.ok k H).1.sublist<|(Rh).map _,λl f=>(F.ok k H).2 l (Oj.mp f).1⟩
 obtain⟨k,H,p,rfl⟩:=b c e;exact O8 (O0 _ _)<|F.c4 k H
theorem Few.lits(F:Few t C):∀c∈C,jG t.length c:=λc h=>(F.ok c h).2
theorem qT(w x:Str)(n:Nat)(a:Og):formB w n (.tuple [.str x,a])=(decide (2=n)&&decide (x=w)):=rfl
theorem kM(w x:Str)(n:Nat)(a b:Og):formB w n (.tuple [.str x,a,b])=(decide (3=n)&&decide (x=w)):=rfl
theorem py(t:Str)(c:ab (ab Int))(a:Og):bG t c (.tuple [.str aB,a])=qP t c a:=by
 rfl
theorem pA(t:Str)(c:ab (ab Int))(a:Og):bG t c (.tuple [.str fi,a])=qQ t c a:=by
 rfl
theorem pB(t:Str)(c:ab (ab Int))(a:Og):bG t c (.tuple [.str fj,a])=kI t c a:=by
 rfl
theorem kO(t:Str)(c:ab (ab Int))(a b:Og):bG t c (.tuple [.str cE,a,b])=qR c a b:=by
 rfl
theorem jh(t:Str)(c:ab (ab Int))(a b:Og):bG t c (.tuple [.str bT,a,b])=iL t c a b:=by
 rfl
theorem qU(h:i<n):aH n (.int (i:Int))=gV i:=by
 show(if 0<=(i:Int)/\(i:Int)<(n)then gV _ else NZ)=gV i
 simp_all
structure ClsAt (H:Hp)(q:J')(t:Str)(xs:ab V)(cs:ab (ab Int)):Prop where
 hq:H q=gV (.lst xs)
 hcs:CLs H cs xs
 ht:t.length<=30
 hn:cs.length<=400
 hok:∀c∈cs,jG t.length c
 hc:∀c∈cs,c.length<=60
theorem DS(h:CLs H C x):((x.filter<|dD H z).length=0)=((C.any λc=>c.contains z)=N8):=by
 have e:=(kJ (z:=z) h).length;have f:=u6 C λc=>c.contains z;lia
inductive Nx:Type
 |unit (i:Nat)
 |drop (i:Nat)
 |pure (z:Int)
 |within (i j:Nat)
 |blocked (i:Nat) (z:Int)
noncomputable def Nx.d:Nx->Og
 |.unit i=>.tuple [.str fi,.int (i:Int)]
 |.drop i=>.tuple [.str aB,.int (i:Int)]
 |.pure z=>.tuple [.str fj,.int z]
 |.within i j=>.tuple [.str cE,.int (i:Int),.int (j:Int)]
 |.blocked i z=>.tuple [.str bT,.int (i:Int),.int z]
noncomputable def Nx.zs:Nx->ab V
 |.unit i=>[.str fi,.int (i:Int)]
 |.drop i=>[.str aB,.int (i:Int)]
 |.pure z=>[.str fj,.int z]
 |.within i j=>[.str cE,.int (i:Int),.int (j:Int)]
 |.blocked i z=>[.str bT,.int (i:Int),.int z]
inductive jb (t:Str)(C:ab (ab Int)):Nx->Prop
 |unit (i:Nat) (h:i<C.length) (u:kF t (C.getD i [])=NW):jb t C (.unit i)
 |drop (i:Nat) (h:i<C.length):jb t C (.drop i)
 |pure (z:Int) (c:ab Int) (h:c∈C) (u:z∈c):jb t C (.pure z)
 |within (i j:Nat):jb t C (.within i j)
 |blocked (i:Nat) (z:Int) (h:i<C.length) (u:z∈C.getD i []):jb t C (.blocked i z)
theorem iM(h:formB w n d=NW):∃r,d=.tuple (.str w::r)/\r.length+1=n:=by
 cases d with
 |tuple D=>
  unfold formB at h;rw[OO]at h;cases D with
  |nil=>cases h.2
  |cons x r=>
   have H:my w x=true:=h.2;cases x with
   |str y=>
    have:=Oh H;subst this;exact⟨r,rfl,Oh h.1⟩
   |_=>cases H
 |_=>cases h
theorem DT(h:bG t C d=gV D):∃s,d=s.d/\jb t C s:=by
 unfold bG at h
 split at h
 ·rename_i H;obtain⟨r,rfl,l⟩:=iM H
  match r,l with
  |[x],_=>
   obtain⟨i,e,_⟩:=PZ.mp h;obtain⟨f,a⟩:=aA e;have E:=a;subst E;exact⟨.drop i,rfl,.drop i f⟩
 split at h
 ·rename_i H;obtain⟨r,rfl,l⟩:=iM H
  match r,l with
  |[x],_=>
   obtain⟨i,e,b⟩:=Pt.mp h;obtain⟨f,a⟩:=aA e;have E:=a;subst E
   split at b
   ·rename_i u;exact⟨.unit i,rfl,.unit i f u⟩
   simp_all
 split at h
 ·rename_i H;obtain⟨r,rfl,l⟩:=iM H
  match r,l with
  |[x],_=>
   have g:kI t C x=gV D:=h;cases x with
   |int z=>
    have b:(if((C.any _)&&!(C.any _))=NW then gV _ else NZ)=gV D:=g
    split at b
    ·rename_i q;rw[OO]at q;obtain⟨c,o,p⟩:=OC.mp q.1;exact⟨.pure z,rfl,.pure z c o<|Of.mp p⟩
    simp_all
   |_=>cases g
 split at h
 ·rename_i H;obtain⟨r,rfl,l⟩:=iM H
  match r,l with
  |[x,y],_=>
   obtain⟨i,k,h⟩:=Pt.mp h;obtain⟨j,v,h⟩:=Pt.mp h;obtain⟨f,a⟩:=aA k;obtain⟨A,w⟩:=aA v;have E:=a;have m:y=.int _:=w;subst E m;exact⟨.within i j,rfl,.within i j⟩
 split at h
 ·rename_i H;obtain⟨r,rfl,l⟩:=iM H
  match r,l with
  |[x,y],_=>
   have g:iL t C x y=gV D:=h;cases y with
   |int z=>
    have b:=g;obtain⟨i,k,n⟩:=Pt.mp b;obtain⟨f,a⟩:=aA k;have E:=a;subst E
    split at n
    ·rename_i q;unfold iK at q;rw[OO]at q;exact⟨.blocked i z,rfl,.blocked i z f<|Of.mp q.1⟩
    simp_all
   |_=>cases g
 simp_all
theorem pC{H:Hp}{s:Nx}{v:V}(h:RD H s.d v):∃b,v=.ref b/\H b=gV (.tup s.zs):=by
 have t:∀{w:Str} {i:Int} {v:V},RD H (.tuple [.str w,.int i]) v->∃b,v=.ref b/\H b=gV _:=λ{w i v} h=>by
  obtain⟨b,X,e,a,r⟩:=al h;obtain⟨x,X,rfl,c,r⟩:=aj r;obtain⟨y,X,rfl,d,r⟩:=aj r;obtain rfl:=bD r;rw[aT c,aw d]at a;exact⟨b,e,a⟩
 have A:∀{w:Str} {i j:Int} {v:V},RD H (.tuple [.str w,.int i,.int j]) v->∃b,v=.ref b/\H b=gV _:=λ{w i j v} h=>by
  obtain⟨b,X,e,a,r⟩:=al h;obtain⟨x,X,rfl,c,r⟩:=aj r;obtain⟨y,X,rfl,d,r⟩:=aj r;obtain⟨z,X,rfl,f,r⟩:=aj r;obtain rfl:=bD r;rw[aT c,aw d,aw f]at a;exact⟨b,e,a⟩
 cases s with
 |unit i=>exact t h
 |drop i=>exact t h
 |pure z=>exact t h
 |within i j=>exact A h
 |blocked i z=>exact A h
noncomputable abbrev HW:Pn:=b9 48
inductive LvAt (H:Hp)(v:V)(c:ab Int)(b:N'):Prop
 |mk (t lf:J')(e:v=.ref t)(h:H t=gV (.tup [.ref lf,.bl b]))(a:H lf=gV (.tup<|c.map V.int))(d:c.length<=900)(f:∀l∈c,1<=absI l)
theorem LvAt.mono(h:LvAt H v c b)(k:Same H a):LvAt a v c b:=by
 obtain⟨t,l,e,d,f,g,i⟩:=h;exact⟨t,l,e,k _ _ d,k _ _ f,g,i⟩
theorem LvAt.but(h:LvAt H v c b)(f:H D=gV (.lst y)):LvAt (upd H D<|.lst Z) v c b:=by
 obtain⟨t,l,e,a,d,g,i⟩:=h;exact⟨t,l,e,by rwa[af λz=>by simp_all],by rwa[af λz=>by simp_all],g,i⟩
def OV(H:Hp)(o:Int×ab Int×N')(k:aR×V):Prop:=k.1=.inl o.1/\LvAt H k.2 o.2.1 o.2.2
theorem OV.all{H a:Hp}{os:ab (Int×ab Int×N')}{s:ab (aR×V)}(h:Paired (OV H) os s)(k:∀v c b,LvAt H v c b->LvAt a v c b):Paired (OV a) os s:=by
 induction h with
 |nil=>exact .nil
 |cons r _ i=>exact .cons ⟨r.1,k _ _ _ r.2⟩ i
noncomputable def jL(t:Str)(c:ab (ab Int))(h:N'):Nx->ab (Int×ab Int×N')
 |.drop i=>if h=NW then []else((c.getD i []).filter λl=>!(aq t N8<|c.getD i []).contains l).map λl=>(absI l,aq t N8<|c.getD i [],decide (l<0))
 |.unit i=>if h=NW then [(absI<|(c.getD i []).getD 0 0,[],decide (0<(c.getD i []).getD 0 0))]else []
 |.pure z=>if(dQ t z == h)=NW then [(absI z,[],decide (0<z) == h)]else []
 |.within _ _=>[]
 |.blocked i z=>if h=NW then [(absI z,(c.getD i []).filter λl=>decide (absI l<absI z),decide (0<z))]else []
theorem Nv(c:ab Int)(d:H D=gV (.dK []))(h:H p=gV (.tup [.ref e,.bl b]))(a:H e=gV (.tup<|c.map V.int))(f:c.length<=900)(g:∀l∈c,1<=absI l):Paired (OV<|upd H D<|.dK [((.inl (absI z):aR),.ref p)]) [(absI z,c,b)] [((.inl (absI z):aR),.ref p)]:=
 .cons ⟨rfl,p,e,rfl,by rwa[af λz=>by simp_all],by rwa[af λz=>by simp_all],f,g⟩ .nil
theorem qV(p:V->N')(c:ab Int):((c.map V.int).filter p).map id=(c.filter λl=>p<|.int l).map V.int:=by
 rw[O',Zt];rfl
noncomputable def Nx.w:Nx->Str
 |.unit _=>fi
 |.drop _=>aB
 |.pure _=>fj
 |.within _ _=>cE
 |.blocked _ _=>bT
theorem fo(s:Nx):kZ s.zs 0=gV (.str s.w):=by cases s<;>rfl
theorem wL{s:Nx}(h:decide (V.str s.w=V.str (N_ "unit"))=NW):∃i,s=.unit i:=by
 cases s<;>first|exact⟨_,rfl⟩|exact absurd (V.str.inj<|Oh h) (by dsimp only[Nx.w];decide+kernel)
theorem wM{s:Nx}(h:decide (V.str s.w=V.str (N_ "drop"))=NW):∃i,s=.drop i:=by
 cases s<;>first|exact⟨_,rfl⟩|exact absurd (V.str.inj<|Oh h) (by dsimp only[Nx.w];decide+kernel)
theorem wN{s:Nx}(h:decide (V.str s.w=V.str (N_ "pure"))=NW):∃i,s=.pure i:=by
 cases s<;>first|exact⟨_,rfl⟩|exact absurd (V.str.inj<|Oh h) (by dsimp only[Nx.w];decide+kernel)
theorem lX{s:Nx}(h:decide (V.str s.w=V.str (N_ "blocked"))=NW):∃i z,s=.blocked i z:=by
 cases s<;>first|exact⟨_,_,rfl⟩|exact absurd (V.str.inj<|Oh h) (by dsimp only[Nx.w];decide+kernel)
theorem c7(P:St->Hp->Prop)(c:∀R,(∀a h,P a h->R a h)->s {D with nx:=R} b H)(n:∀a h,P a h->d D a h):rf s d D b H:=c _ n
inductive wO (vs:ab V)(H:Hp)(Q:VK)(E:XK):Prop
 |mk (p q:J')(t:Str)(xs:ab V)(C:ab (ab Int))(v:V)(s:Nx)(hw:N')(h0:vs=[.ref p,v,.str<|ao hw])(b:dR H p q t xs C)(u:∀c∈C,Ups c)(d:RD H s.d v)(e:jb t C s)
  (f:∀(a:J') (k:ab (aR×V)) (h:Hp),Same H h->H a=NZ->h a=gV (.dK k)->Paired (OV h) (jL t C hw s) k->Q (.ref a) h):wO vs H Q E
structure PrsAt (H:Hp)(ts:ab J')(kvs:ab (aR×V)):Prop where
 len:ts.length=kvs.length
 at_:∀(j:Nat) (t:J') (k:aR) (v:V),ts[j]?=gV t->kvs[j]?=gV (k,v)->H t=gV (.tup [kV k,v])
inductive Mi (h:Hp)(D lf:J')(c left:ab Int)(i:Nat)(a:St)(ys:ab V)(H:Hp):Prop
 |mk (v:M' V)(t:ab J')(k:ab (aR×V))(h0:a=[v,gV (.ref lf)])(b:H D=gV (.lst ys))(d:Same h H)(e:ys=t.map V.ref)(f:PrsAt H t k)(g:k.map (·.1)=((c.take i).filter λl=>!left.contains l).map λl=>(OK (absI l):aR))(j:Paired (OV H) (((c.take i).filter λl=>!left.contains l).map λl=>(absI l,left,decide (l<0))) k)
theorem PrsAt.but(h:PrsAt H T s)(a:H D=gV (.lst y)):PrsAt (upd H D<|.lst Z) T s:=
 ⟨h.len,λj t k v e E=>by
  have:=h.at_ j t k v e E;rwa[af λz=>by simp_all]⟩
theorem PrsAt.mono(h:PrsAt H T s)(k:Same H a):PrsAt a T s:=⟨h.len,λj t b v e E=>k _ _<|h.at_ j t b v e E⟩
theorem PrsAt.snoc(h:PrsAt H T s)(b:H t=gV (.tup [kV k,v])):PrsAt H (T++[t]) (s++[(k,v)]):=
 ⟨by rw[N0,N0,h.len];rfl,λj c d f e E=>by
  by_cases a:j<T.length
  ·rw[ON a]at e;rw[ON<|by rwa[<-h.len]]at E;exact h.at_ j c d f e E
  rw[OP<|by simp_all]at e;rw[OP (by have:=h.len;simp_all),<-h.len]at E;have g:j-T.length=0:=by
   have:=(N4.mp e).1;simp_all
  simp_all⟩
theorem Ax(u:Ups c)(f:Int->N'):((c.filter f).map λl=>(OK (absI l):aR)).Nodup:=by
 have h:(c.filter f).Pairwise λa b=>absI a<absI b:=by
  have H:=Pq.mp u;exact H.sublist Rh
 refine Pq.mpr<|h.imp λ{a b} d z=>?_;simp_all
theorem Gz(F:Fun K "own_values" "own_values" HW f fd)(T:Bl mg)(WG:Fe P w K mg am 3 "dropped" eJ)(a6:Fe P w K mg am 2 "is_of" lV):ay P w K mg am a_ 4 f fd ["sentence","step","hand"] wO:=by
 refine F.okB (N:=["sentence","step","hand","clauses","clause","left","literal","lesser"]) λQC A aL s H vs Q E sc hr h=>?_;obtain⟨p,q,t,xs,M,v,s,o,rfl,S,YI,hd,ac,q'⟩:=h;obtain⟨b,rfl,O⟩:=pC hd;have ht:=S.ht;refine⟨_,(ae gg
  (ae (aQ gg (ae gg
   (ae gg
   (cQ<|aW (fM rfl) rfl T.dict Rj<|fC<|fW ["literal","left"] [NZ,gV 5] (bA<|pv 4) (t:=λ_ _ _ _=>(bM<|cV (dJ (K:=K) rfl) (pv 0) (pv 1)<|by rfl))))) ax)
  (ae (aQ gg (ae gg
   (cQ<|j8 gg gg)) ax)
  (ae (aQ gg (cQ<|j8 gg gg) ax)
  (ae (aQ gg (ae (B_ 7 ["literal","step"] [NZ,gV 1] (bA gg) (t:=λ_ _ _ _=>(bM<|oG pY gg<|aN tJ rfl T.abs TY<|fC<|xP (K:=K) (pv 1) bX)))
   (cQ<|j8 gg gg)) ax)
  (cQ tR)))))),?_⟩
 refine c7 (λB U=>B=[gV<|.ref p,gV<|.ref b,gV<|.str<|ao o,gV<|.ref q,NZ,NZ,NZ,NZ]/\H=U) (λR I=>⟨_,rfl,(aS S.hp rfl<|I _ _ ⟨rfl,rfl⟩)⟩) ?_;have an:jL t M o s=[]->∀C,Same H C->∀a,C a=NZ->Q (.ref a) (upd C a<|.dK []):=λho C k a W=>q' a [] _ (k.trans<|ad W _) (k.free W) aa (by rw[ho];exact .nil);have wd:∀x y,x≠y->decide (V.str x=V.str y)=false:=λx y h=>N7 λz=>h<|V.str.inj z;have Wz:∀{d:ab (aR×V)} {C:Hp} {a:J'},Same H C->H a=NZ->Paired (OV<|upd C a<|.dK d) (jL t M o s) d->Q (.ref a) (upd C a<|.dK d):=λ{d C a} kk W hl=>q' a _ _ (kk.upd_new W _) W aa hl;rintro _ _ ⟨rfl,rfl⟩;refine c7 (λB U=>B=[gV<|.ref p,gV<|.ref b,gV<|.str<|ao o,gV<|.ref q,NZ,NZ,NZ,NZ]/\H=U/\∀i,s=.drop i->jL t M o s=[]) (λR I=>?_) ?_
 ·refine⟨_,rfl,(aS O (fo s)<|.inl ⟨rfl,_,rfl,cn (λg=>?_) λg=>ak<|I _ _ ⟨rfl,rfl,λi e=>by subst e;exact absurd (N3 rfl) g⟩⟩)⟩;obtain⟨i,rfl⟩:=wM g;obtain _|⟨_,hi⟩:=ac
  obtain⟨tc,hx,Q7,hm⟩:=fT S.hcs hi;have as:=S.hc _ hm;have L:=S.hok _ hm;have u:=YI _ hm;obtain⟨c,ec⟩:∃c,M.getD i []=c:=⟨_,rfl⟩;rw[ec]at Q7 hm as L u;refine⟨_,rfl,.inl ⟨rfl,_,rfl,?_⟩⟩;cases o with
  |true=>
   rw[wd (ao NW) (N_ "spoiler")<|by decide+kernel];exact ak<|I _ _ ⟨rfl,rfl,λ_ _=>rfl⟩
  |false=>
   rw[N3 (show V.str (ao N8)=V.str (N_ "spoiler")from rfl)];refine ap ?_;refine⟨_,rfl,_,rfl,(aS O rfl<|(fz S.hq (aG hx) ?_))⟩;refine⟨_,rfl,_,rfl,p,tc,t,_,N8,c,rfl,S.hp,(by lia),Q7,as,L,λlf C J a0=>?_⟩;have az:=J _ _ Q7;refine⟨_,rfl,tc,rfl,⟨_,SqT.of az⟩,λD nD=>?_⟩;refine nY (K:=K) (a:=tc) (xs:=c.map V.int) (Mi C D lf c<|aq t N8 c) ⟨NZ,[],[],rfl,aa,ad nD _,rfl,⟨rfl,λj t k v e=>by grind⟩,rfl,.nil⟩ ?_ ?_ ?_
   ·rintro n σ ys H2 _ ⟨_,_,_,_,X_,m,_⟩;exact⟨X_,SqT.of<|m _ _ az⟩
   ·rintro n x σ ys H2 WA ⟨v0,ts,d,rfl,X_,m,rfl,hp,hk,X⟩;obtain⟨z,rfl,hz⟩:=cO WA;have V0:=m _ _ a0;have et:=OJ (l:=c) (i:=n);rw[hz]at et;refine fw ?_;have a1:(if NW=NW then !gP (.int z) ((aq t N8 c).map V.int)else gP (.int z) ((aq t N8 c).map V.int))=!(aq t N8 c).contains z:=by
     rw[On rfl,aP]
    exists _,rfl,_,rfl,lf,_,rfl,.inr<|SqT.of V0,rfl,bd _,_,rfl;rw[a1];cases WC:(aq t N8 c).contains z with
    |true=>
     have ef:(c.take<|n+1).filter (λl=>!(aq t N8 c).contains l)=(c.take n).filter λl=>!(aq t N8 c).contains l:=by
      simp_all
     exact ak ⟨_,ts,d,rfl,X_,m,rfl,hp,by rw[ef];exact hk,by rw[ef];exact X⟩
    |false=>
     refine ap ⟨_,rfl,z,rfl,_,rfl,_,rfl,_,_,rfl,rfl,(by show 2<=sizeLine;decide),λte a2=>⟨(by show 2<=sizeLine;decide),λpt aC=>?_⟩⟩;have k3:=ad a2<|.tup [.ref lf,.bl (decide (z<0))];have s3:=@aa H2 te (.tup [.ref lf,.bl (decide (z<0))]);generalize upd H2 te (.tup [.ref lf,.bl (decide (z<0))])=H3 at k3 s3 aC ⊢;have k4:=ad aC<|.tup [.int (if z<0 then -z else z),.ref te];have s4:=@aa H3 pt (.tup [.int (if z<0 then -z else z),.ref te]);generalize upd H3 pt (.tup [.int (if z<0 then -z else z),.ref te])=H4 at k4 s4 ⊢;have Y:=k3.trans k4;have Z:=Y _ _ X_;have a3:pt≠D:=λe=>by simp_all
     have tl:ts.length<=60:=by
      have e1:=O1 P7 hk;rw[B',B']at e1;have e2:=O0 (λl=>!(aq t N8 c).contains l)<|c.take n;rw[OB]at e2;have:=hp.len;lia
     refine⟨Z,by rw[B'];exact ah (by lia),_,ts++[pt],d++[(.inl<|absI z,.ref te)],rfl,aa,(m.trans Y).upd_new nD _,by rw[OF];rfl,?_,?_,?_⟩
     ·refine((hp.mono Y).but Z).snoc ?_;rw[af a3];exact s4
     ·simp_all
     rw[et,Po];show Paired _ ((_++W8 _ [z]).map _) _
     rw[Pu (by rw[WC];rfl),Wm,OF];exact(OV.all X λv c b h=>(h.mono Y).but Z).snoc ⟨rfl,(LvAt.mk te lf rfl (k4 _ _ s3) (Y _ _ V0) (O8 (O0 _ _)<|by lia) λl hl=>(L l<|(Oj.mp hl).1).1).but Z⟩
   rintro σ ys H2 ⟨v0,ts,d,rfl,X_,m,rfl,hp,hk,X⟩;rw[Oi<|by rw[B'];exact N9 _]at hk X;have P1:d.length<=60:=by
    have e1:=O1 P7 hk;grind
   refine⟨D,ts,d,rfl,X_,hp.len,λj t' kv e1 e2=>hp.at_ j t' kv.1 kv.2 e1 e2,by rw[hk];exact Ax u _,by lia,λa W=>?_⟩;exact q' a d _ (J.trans<|m.trans<|ad W _) ((J.trans m).free W) aa (by show Paired _ (((M.getD i []).filter _).map _) _;rw[ec];exact OV.all X λv c b h=>h.mono<|ad W _)
 rintro _ _ ⟨rfl,rfl,n1⟩;refine c7 (λB U=>B=[gV<|.ref p,gV<|.ref b,gV<|.str<|ao o,gV<|.ref q,NZ,NZ,NZ,NZ]/\H=U/\∀i,s=.unit i->jL t M o s=[]) (λR I=>?_) ?_
 ·refine⟨_,rfl,(aS O (fo s)<|.inl ⟨rfl,_,rfl,cn (λg=>?_) λg=>ak<|I _ _ ⟨rfl,rfl,λi e=>by subst e;exact absurd (N3 rfl) g⟩⟩)⟩;obtain⟨i,rfl⟩:=wL g;obtain⟨_,hi,a4⟩|_:=ac
  obtain⟨tc,hx,Q7,hm⟩:=fT S.hcs hi;obtain⟨z,ez⟩:=pq a4;rw[ez]at Q7;refine⟨_,rfl,.inl ⟨rfl,_,rfl,?_⟩⟩;cases o with
  |true=>
   rw[N3 (show V.str (ao NW)=V.str (N_ "wisher")from rfl)];refine ap ?_;refine⟨_,rfl,_,rfl,(aS O rfl<|(fz S.hq (aG hx)<|aS Q7 rfl ?_))⟩;refine fw λdp G=>⟨_,rfl,z,rfl,Oy _,λe ne=>⟨_,rfl,_,_,rfl,rfl,(by show 2<=sizeLine;decide),λpr N=>⟨?_,[(.inl<|absI z,.ref pr)],rfl,(by simp),?_⟩⟩⟩
   ·exact ad N _ _ _<|ad ne _ _ _ aa
   ·exact Wz ((ad G _).trans<|(ad ne _).trans<|ad N _) G (by show Paired _ [(absI<|(M.getD i []).getD 0 0,_,_)] _;rw[ez];exact Nv [] (ad N _ _ _<|ad ne _ _ _ aa) aa (ad N _ _ _ aa) (by simp) λ_ z=>nomatch z)
  |false=>
   rw[wd (ao N8) (N_ "wisher")<|by decide+kernel];exact ak<|I _ _ ⟨rfl,rfl,λ_ _=>rfl⟩
 rintro _ _ ⟨rfl,rfl,n2⟩;refine c7 (λB U=>B=[gV<|.ref p,gV<|.ref b,gV<|.str<|ao o,gV<|.ref q,NZ,NZ,NZ,NZ]/\H=U/\∀z,s=.pure z->jL t M o s=[]) (λR I=>?_) ?_
 ·refine⟨_,rfl,(aS O (fo s)<|.inl ⟨rfl,_,rfl,cn (λg=>?_) λg=>ak<|I _ _ ⟨rfl,rfl,λi e=>by subst e;exact absurd (N3 rfl) g⟩⟩)⟩;obtain⟨z,rfl⟩:=wN g;obtain _|_|⟨_,c,hc,hz⟩:=ac
  have L:=S.hok _ hc z hz;refine⟨_,rfl,_,rfl,(aS O rfl ⟨_,rfl,p,t,_,z,o,rfl,S.hp,(by lia),L.1,L.2,_,rfl,?_⟩)⟩;cases go:dQ t z == o with
  |true=>
   refine ap λdp G=>?_;have J:=ad G<|.dK [];have s1:=@aa H dp (.dK []);generalize upd H dp (.dK [])=C at J s1 ⊢;refine⟨_,rfl,(aS (J _ _ O) rfl ⟨z,rfl,Oy _,λe ne=>?_⟩)⟩;have m:=ad ne<|.tup [];have s2:=@aa C e (.tup []);generalize upd C e (.tup [])=H2 at m s2 ⊢;refine⟨_,rfl,(aS ((J.trans m) _ _ O) rfl ⟨_,_,rfl,rfl,_,rfl,.inl ⟨rfl,.inl ⟨rfl,(by show 2<=sizeLine;decide),λpr N=>⟨?_,[(.inl<|absI z,.ref pr)],rfl,(by simp),?_⟩⟩⟩⟩)⟩
   ·exact ad N _ _ _<|m _ _ s1
   ·exact Wz (J.trans<|m.trans<|ad N _) G (by show Paired _ (if(dQ t z == o)=NW then _ else []) _;rw[go,On rfl];exact Nv [] (ad N _ _ _<|m _ _ s1) (by rw[aa];cases o<;>cases decide (0<z)<;>rfl) (ad N _ _ _ s2) (by simp) λ_ z=>nomatch z)
  |false=>exact ak<|I _ _ ⟨rfl,rfl,λ_ _=>by show(if(dQ t z == o)=NW then _ else [])=[];rw[go];rfl⟩
 rintro _ _ ⟨rfl,rfl,n3⟩;refine c7 (λB U=>B=[gV<|.ref p,gV<|.ref b,gV<|.str<|ao o,gV<|.ref q,NZ,NZ,NZ,NZ]/\H=U/\∀i z,s=.blocked i z->jL t M o s=[]) (λR I=>?_) ?_
 ·refine⟨_,rfl,(aS O (fo s)<|.inl ⟨rfl,_,rfl,cn (λg=>?_) λg=>ak<|I _ _ ⟨rfl,rfl,λi z e=>by subst e;exact absurd (N3 rfl) g⟩⟩)⟩;obtain⟨i,z,rfl⟩:=lX g;obtain _|_|_|_|⟨_,_,hi,hz⟩:=ac
  obtain⟨tc,hx,Q7,hm⟩:=fT S.hcs hi;have as:=S.hc _ hm;refine⟨_,rfl,.inl ⟨rfl,_,rfl,?_⟩⟩;cases o with
  |false=>
   rw[wd (ao N8) (N_ "wisher")<|by decide+kernel];exact ak<|I _ _ ⟨rfl,rfl,λ_ _ _=>rfl⟩
  |true=>
   rw[N3 (show V.str (ao NW)=V.str (N_ "wisher")from rfl)];refine ap ?_;refine⟨_,rfl,_,rfl,(aS O rfl<|(fz S.hq (aG hx) ⟨tc,rfl,⟨_,SqT.of Q7⟩,λD nD=>?_⟩))⟩;refine aY [gV<|.ref b] (λx=>match x with
    |.int l=>decide (absI l<absI z)
    |_=>N8) id rfl Q7 nD (by rw[B'];lia) (λx WA U R k r=>?_) (λx WA _ U R k r=>⟨_,rfl,r⟩) ?_
   ·obtain⟨l,hl,rfl⟩:=OH.mp WA;exact⟨_,rfl,l,rfl,_,rfl,(aS (k _ _ O) rfl ⟨z,rfl,_,_,rfl,rfl,_,rfl,r⟩)⟩
   have L:=S.hok _ hm;obtain⟨us,c',eu,ec,a5,av⟩:∃us c',us=c'.map V.int/\c'=((M.getD i []).filter λl=>decide (absI l<absI z))/\c'.length<=900/\(∀l∈c',1<=absI l)/\Z7 id (W8 (λx=>match x with
    |.int l=>decide (absI l<absI z)
    |_=>N8) ((M.getD i []).map V.int))=us:=⟨_,_,qV _ _,rfl,O8 (O0 _ _) (by lia),λl hl=>(L l<|(Oj.mp hl).1).1,rfl⟩
   obtain⟨av,e5⟩:=av;rw[e5];have kD:=ad nD<|.lst us;have sD:=@aa H D (.lst us);generalize upd H D (.lst us)=H0 at kD sD ⊢;refine λdp G=>?_;have J:=ad G<|.dK [];have s1:=@aa H0 dp (.dK []);generalize upd H0 dp (.dK [])=C at J s1 ⊢;have aF:=J _ _<|kD _ _ O;refine⟨_,rfl,(aS aF rfl ⟨z,rfl,_,rfl,D,us,rfl,.inl ⟨SqL.of<|J _ _ sD,λe ne=>?_⟩⟩)⟩;have m:=ad ne<|.tup us;have s2:=@aa C e (.tup us);generalize upd C e (.tup us)=H2 at m s2 ⊢;refine⟨_,rfl,(aS (m _ _ aF) rfl ⟨_,_,rfl,rfl,(by show 2<=sizeLine;decide),λpr N=>⟨?_,[(.inl<|absI z,.ref pr)],rfl,(by simp),?_⟩⟩)⟩
   ·exact ad N _ _ _<|m _ _ s1
   exact Wz (kD.trans<|J.trans<|m.trans<|ad N _) (kD.free G) (by show Paired _ [(absI z,(M.getD i []).filter _,_)] _;rw[<-ec];exact Nv c' (ad N _ _ _<|m _ _ s1) aa (ad N _ _ _<|by rwa[<-eu]) a5 av)
 rintro _ _ ⟨rfl,rfl,n4⟩;refine λa W=>an ?_ H (Same.refl _) a W;cases s with
 |drop i=>exact n1 i rfl
 |unit i=>exact n2 i rfl
 |pure z=>exact n3 z rfl
 |within=>rfl
 |blocked i z=>exact n4 i z rfl
noncomputable abbrev HX:Pn:=b9 29
noncomputable abbrev HY:Pn:=cW (b9 31) 0
noncomputable abbrev yF:Pn:=cW (b9 31) 1
structure Km (K:C')(mg:Str->M' NX)(CP:J'):Prop where
 tuple:mg "tuple"=NZ
 dict:mg "dict"=NZ
 cl:Cls K CP
 ne:NoAttr K CP "entries"
abbrev dL:=Int×ab (ab Int×N')×N'
inductive RuleAt (H:Hp)(r:ab Int×N')(x:V):Prop
 |mk (q s:J')(hx:x=.ref q)(h:H q=gV (.tup [.ref s,.bl r.2]))(a:H s=gV (.tup<|r.1.map V.int))
structure RulesAt (H:Hp)(UR:ab (ab Int×N'))(xs:ab V):Prop where
 len:xs.length=UR.length
 at_:∀(i:Nat) (x:V),xs[i]?=gV x->∃r,UR[i]?=gV r/\RuleAt H r x
inductive EntAt (H:Hp)(F:J'->Prop)(e:dL)(x:V):Prop
 |mk (p lr:J')(r:ab V)(hx:x=.ref p)(h:H p=gV (.tup [.int e.1,.ref lr,.bl e.2.2]))(a:H lr=gV (.lst r))(b:RulesAt H e.2.1 r)(c:F lr)
structure EntsAt (H:Hp)(F:J'->Prop)(es:ab dL)(xs:ab V):Prop where
 len:xs.length=es.length
 at_:∀(i:Nat) (x:V),xs[i]?=gV x->∃e,es[i]?=gV e/\EntAt H F e x
inductive OwnE (H:Hp)(e:dL)(t:J'):Prop
 |mk (tr:J')(r:ab V)(h:H t=gV (.tup [.ref tr,.bl e.2.2]))(a:H tr=gV (.tup r))(b:RulesAt H e.2.1 r)
inductive PlayerAt (H:Hp)(C x:J')(E:ab dL):Prop
 |mk (dx d:J')(k:ab (aR×V))(h:H x=gV (.ins C dx [("entries",.ref d)]))(a:H d=gV (.dK k))(hn:∀v:Int,(∀e∈E,e.1≠v)->bL k (.inl v)=NZ)(s:∀e∈E,∃t,bL k (.inl e.1)=gV (.ref t)/\OwnE H e t)
def NK:HO->Prop
 |.lst _=>False
 |_=>True
def Kept(H h:Hp):Prop:=∀b o,NK o->H b=gV o->h b=gV o
theorem Same.kept(k:Same H h):Kept H h:=λb o z e=>k b o e
theorem RuleAt.mono(h:RuleAt H r x)(k:Kept H a):RuleAt a r x:=by
 obtain⟨q,s,b,c,d⟩:=h;exact⟨q,s,b,k _ _ trivial c,k _ _ trivial d⟩
theorem RulesAt.mono(h:RulesAt H X s)(k:Kept H c):RulesAt c X s:=
 ⟨h.len,λi x e=>let ⟨r,a,b⟩:=h.at_ i x e;⟨r,a,b.mono k⟩⟩
theorem PlayerAt.mono(h:PlayerAt H C x E)(k:Kept H b):PlayerAt b C x E:=by
 obtain⟨d,D,s,c,f,n,g⟩:=h;refine⟨d,D,s,k _ _ trivial c,k _ _ trivial f,n,λe i=>?_⟩;obtain⟨t,a,T,r,B,j,l⟩:=g e i;exact⟨t,a,T,r,k _ _ trivial B,k _ _ trivial j,l.mono k⟩
noncomputable def lY(U:ab (ab Int×N'))(b:ab N')(o:N'):N':=match U.find? λr=>r.1.all (hit b)with
 |some r=>r.2
 |none=>o
def Near(n:Nat)(U:ab (ab Int×N')):Prop:=∀r∈U,r.1.length<=900/\∀l∈r.1,1<=absI l/\absI l<=(n:Int)
theorem Near.mono(h:Near m X)(a:m<=n):Near n X:=λr H=>⟨(h r H).1,λl b=>by
 have:=(h r H).2 l b;lia⟩
theorem lZ(h:1<=absI l)(H:absI l<=(B.length:Int)):cU B (absI l) (decide (0<l))=.bl (hit B l):=by
 obtain⟨e,z⟩|e:=qm (B:=B) h
 ·obtain⟨b,z,E⟩:=gH (p:=decide (0<l)) h H;simp_all
 exact e
inductive wP (vs:ab V)(H:Hp)(Q:VK)(E:XK):Prop
 |mk (p f:J')(c:ab Int)(bs:ab N')(h0:vs=[.ref p,.ref f])(h:H p=gV (.tup<|c.map V.int))(a:H f=gV (.lst<|bs.map V.bl))(b:bs.length<=900)(d:∀l∈c,1<=absI l/\absI l<=(bs.length:Int))(q:Q (.bl<|c.all<|hit bs) H)
inductive yG (C:J')(vs:ab V)(H:Hp)(Q:VK)(E:XK):Prop
 |mk (x b:J')(s:ab dL)(e:dL)(bs:ab N')(h0:vs=[.ref x,.int e.1,.ref b])(h:PlayerAt H C x s)(a:H b=gV (.lst<|bs.map V.bl))(c:bs.length<=900)(d:e∈s)(f:Near bs.length e.2.1)(q:Q (.bl<|lY e.2.1 bs e.2.2) H)
inductive wQ (C:J')(vs:ab V)(H:Hp)(Q:VK)(E:XK):Prop
 |mk (x dx l:J')(s:ab dL)(xs:ab V)(F:J'->Prop)(h0:vs=[.ref x,.ref l])(a:H x=gV (.ins C dx []))(c:H l=gV (.lst xs))(d:EntsAt H F s xs)(f:(s.map (·.1)).Nodup)(g:s.length<=900)(i:∀e∈s,e.2.1.length<=9000)
  (q:∀h,PlayerAt h C x s->(∀b o,b≠x->H b=gV o->h b=gV o)->Q .non h):wQ C vs H Q E
theorem kP{a:Type}{p:a->N'}{l:ab a}{i:Nat}{x:a}(h:l[i]?=gV x) (W:(l.take i).find? p=NZ) (H:p x=NW):l.find? p=gV x:=by
 have e:l.take (i+1)=l.take i++[x]:=by rw[OJ,h];rfl
 rw[<-Ql _ l,e,O6,TK,W,TK,Rk H];rfl
theorem i9{a:Type}{p:a->N'}{l:ab a}{i:Nat}{x:a}(h:l[i]?=gV x) (W:(l.take i).find? p=NZ) (H:p x=N8):(l.take<|i+1).find? p=none:=by
 have e:l.take (i+1)=l.take i++[x]:=by rw[OJ,h];rfl
 rw[e,TK,W,R4<|by rw[H];exact N6];rfl
theorem Ay{b:ab N'}{c:ab Int}{l:Int}(H:l∈c)(h:hit b l=N8):c.all (hit b)=false:=by
 grind
inductive yH (p:J')(g:J')(H:Hp)(c:ab Int)(bs:ab N')(i:Nat)(a:ab (M' V))(h:Hp):Prop
 |mk (v:M' V)(I:a=[gV<|.ref p,gV<|.ref g,v])(b:h=H)(d:(c.take i).all (hit bs)=NW)
theorem DU(F:Fun K "all_stand" "all_stand" HX f t)(Z:Fe P w K M b 1 "stands_by" kq):ay P w K M b a_ 2 f t ["literals","begun"] wP:=by
 refine F.okB (N:=["literals","begun","literal"]) λC A o s H D Q E I J h=>?_;obtain⟨p,g,c,B,rfl,d,u,y,v,q⟩:=h;refine⟨_,(ae (fS 2 (bA<|pv 0) gg)
  (cQ fm)),⟨_,rfl,p,rfl,⟨_,SqT.of d⟩,fq (K:=K) (X:=c.map V.int) (yH p g H c B) ⟨NZ,rfl,rfl,rfl⟩ ?_ ?_ ?_⟩⟩
 ·rintro i j k Y ⟨Y,Y,e,Y⟩;rw[e];exact SqT.of d
 ·rintro i x j k a ⟨z,rfl,rfl,r⟩;obtain⟨l,n,rfl⟩:∃l,c[i]?=gV l/\x=.int l:=by
   cases e:c[i]? with
   |none=>simp_all
   |some l=>simp_all
  have m:=N5 n;have e:c.take (i+1)=c.take i++[l]:=by rw[OJ,n];rfl
  exists _,rfl,_,rfl,l,g,B,rfl,u,y,(v l m).1;rw[lZ (v l m).1 (v l m).2];exists _,rfl;cases G:hit B l with
  |true=>
   refine ak ⟨_,rfl,rfl,?_⟩;simp_all
  |false=>
   rwa[Ay m G]at q
 rintro j k ⟨z,rfl,rfl,r⟩;rw[Oi<|by rw[B'];exact N9 _]at r;rwa[r]at q
inductive yI (x:J')(e:dL)(b:J')(t:J')(H:Hp)(bs:ab N')(i:Nat)(a:ab (M' V))(h:Hp):Prop
 |mk (v:M' V)(I:a=[gV (.ref x),gV (.int e.1),gV (.ref b),gV (.ref t),v])(c:h=H)(d:(e.2.1.take i).find? (λr=>r.1.all<|hit bs)=NZ)
theorem Az(F:Fun K "answer" "Planned.answer" yF f I)(T:Km K M C)(J:Fe P w K M B 2 "all_stand" wP):ay P w K M B a_ 3 f I ["self","variable","begun"] (yG C):=by
 refine F.okB (N:=["self","variable","begun","entry","rule"]) λQC A o s H vs Q E sc c h=>?_;obtain⟨x,b,es,e,a,rfl,L,O,U,X,N,q⟩:=h;have v:=mv c;obtain⟨d,D,Y,j,h2,hn,hs⟩:=L;obtain⟨te,a1,t,rs,k,l,n⟩:=hs e X;have g:=DGet.k (k:=OK e.1) h2;rw[a1]at g;refine⟨_,(ae (aQ (kU<|lc v (pv 1) gg) (ar fF) ax)
  (ae (sT 3<|bH v gg (pv 1) λV V=>rfl)
  (ae (fS 4 (bA gg) gg)
  gg))),?_⟩
 refine⟨_,rfl,_,rfl,x,C,d,_,_,rfl,j,T.cl,T.ne,rfl,D,_,rfl,g,_,rfl,ak ?_⟩;exists _,rfl,x,C,d,_,_,rfl,j,T.cl,T.ne,rfl,_,rfl,D,_,rfl,g;refine⟨_,rfl,(aS k rfl ⟨t,rfl,⟨_,SqT.of l⟩,fq (X:=rs)
  (yI x e b te H a) ⟨NZ,rfl,rfl,rfl⟩ ?_ ?_ ?_⟩)⟩
 ·rintro i p u V ⟨V,V,e2,V⟩;rw[e2];exact SqT.of l
 ·rintro i y p u hy ⟨v4,rfl,rfl,W⟩;obtain⟨r,Z,qa,sv,rfl,z,c2⟩:=n.at_ i y hy;have m:=N5 Z;refine⟨_,rfl,(aS z rfl ⟨_,rfl,sv,b,r.1,a,rfl,c2,O,U,(N r m).2,_,rfl,?_⟩)⟩;cases G:r.1.all _ with
  |true=>
   refine ap ⟨_,rfl,(aS z rfl ?_)⟩;have ea:lY e.2.1 a e.2.2=r.2:=by
    unfold lY;have ef:=kP Z W G;rw[ef]
   rwa[ea]at q
  |false=>
   exact ak ⟨_,rfl,rfl,i9 Z W G⟩
 rintro p u ⟨v4,rfl,rfl,W⟩;rw[Oi<|by rw[n.len];exact N9 _]at W;refine⟨_,rfl,(aS k rfl ?_)⟩;unfold lY at q;rwa[W]at q
theorem wR{c d:Type}{f:c->d}(e:∀a b,f a=f b->a=b){l:ab c}(h:l.Nodup):(l.map f).Nodup:=TN f (λa b H z=>H<|e a b z) h
theorem DV(h:H D=gV (.lst y)):Kept H (upd H D<|.lst Z):=λb o n e=>by
 have a:b≠D:=λz=>by
  rw[z,h]at e;rwa[<-OA e]at n
 rwa[af a]
theorem Kept.trans(a:Kept H d)(b:Kept d e):Kept H e:=λc o n h=>b c o n<|a c o n h
theorem OwnE.mono(h:OwnE H e t)(k:Kept H a):OwnE a e t:=by
 obtain⟨T,r,b,c,d⟩:=h;exact⟨T,r,k _ _ trivial b,k _ _ trivial c,d.mono k⟩
theorem yJ:∀{s:ab (aR×V)} {j:Nat} {k:aR×V},(s.map (·.1)).Nodup->s[j]?=gV k->bL s k.1=gV k.2
 |[],_,_,_,h=>by simp at h
 |p::r,0,k,_,h=>by
  have e:p=k:=by simpa using h
  subst e;exact cA rfl
 |p::r,j+1,k,n,h=>by
  rw[OT,PJ]at n;have H:r[j]?=gV k:=by assumption
  have U:¬p.1=k.1:=λe=>n.1<|e▸Qy (N5 H);rw[cb U];exact yJ n.2 H
theorem u7:∀{s:ab (aR×V)} {k:aR},k∉s.map (·.1)->bL s k=NZ
 |[],_,_=>rfl
 |p::r,k,h=>by
  rw[OT,Oz,not_or]at h;rw[cb λe=>h.1 e.symm];exact u7 h.2
structure Pairs (H:Hp)(es:ab dL)(ts:ab J')(kvs:ab (aR×V)):Prop where
 tl:ts.length=es.length
 ks:kvs.map (·.1)=es.map λe=>(OK e.1:aR)
 tup:∀(j:Nat) (t:J') (kv:aR×V),ts[j]?=gV t->kvs[j]?=gV kv->H t=gV (.tup [kV kv.1,kv.2])
 own:∀(j:Nat) (e:dL),es[j]?=gV e->∃te,kvs[j]?=gV (OK e.1,.ref te)/\OwnE H e te
theorem Pairs.kl(h:Pairs H e t k):k.length=e.length:=by
 have:=O1 P7 h.ks;simpa using this
theorem Pairs.snoc(h:Pairs H E T s)(k:Kept H g)(p:g t=gV (.tup [.int e.1,.ref i]))(q:OwnE g e i):Pairs g (E++[e]) (T++[t]) (s++[(OK e.1,.ref i)]):=by
 have l:=h.kl;refine⟨by simp[h.tl],by simp[h.ks],λj r v c f=>?_,λj u c=>?_⟩
 ·by_cases d:j<T.length
  ·rw[ON d]at c;rw[ON<|by rwa[l,<-h.tl]]at f;exact k _ _ trivial<|h.tup j r v c f
  have m:=(N4.mp c).1;rw[N0,OM]at m;have n:j=T.length:=by lia
  subst n;rw[OP<|N9 _,QI]at c;rw[OP (by rw[l,h.tl];exact N9 _),l,h.tl,QI]at f;cases c;cases f;exact p
 by_cases d:j<E.length
 ·rw[ON d]at c;obtain⟨o,a,b⟩:=h.own j u c;exact⟨o,by rwa[ON<|by simp_all],b.mono k⟩
 have m:=(N4.mp c).1;simp_all
theorem Pairs.player(h:Pairs H E T k)(N:(E.map (·.1)).Nodup)(f:H x=gV (.ins C D [("entries",.ref d)]))(g:H d=gV (.dK k)):PlayerAt H C x E/\(k.map (·.1)).Nodup:=by
 have n:(k.map (·.1)).Nodup:=by
  rw[h.ks];have e:(E.map λe=>(OK e.1:aR))=(E.map (·.1)).map OK:=by rw[OZ];rfl
  rw[e];exact wR (λy y z=>Qp z) N
 refine⟨⟨D,d,k,f,g,λv i=>u7 ?_,λe c=>?_⟩,n⟩
 ·rw[h.ks];intro m;obtain⟨e,c,l⟩:=OH.mp m;exact i e c<|Qp l
 obtain⟨j,o⟩:=Pm.mp c;obtain⟨t,a,b⟩:=h.own j e o;exact⟨t,yJ n a,b⟩
inductive yK (D:J')(H:Hp)(e:ab dL)(i:Nat)(a:ab (M' V))(ys:ab V)(h:Hp):Prop
 |mk (I:(∃v,a=[v]))(b:h D=gV (.lst ys))(c:Same H h)(t:ab J')(k:ab (aR×V))(d:ys=t.map V.ref)(f:Pairs h (e.take i) t k)
theorem GA(F:Fun K "__init__" "Planned.__init__" HY f fd)(T:Km K mg X):ay P w K mg aC a_ 1 f fd ["self","plan"] (wQ X):=by
 refine F.okB (N:=["self","plan"]) λQC A an s H vs Q E sc hr h=>?_;obtain⟨x,dx,l,u,xs,G,rfl,h1,h2,h3,nd,e9,r9,q⟩:=h;exists _,(ar<|jm (pv 0) (aW (fM rfl) rfl T.dict Rj<|fC<|fW ["entry"] [NZ] (aD<|pv 1) (e:=λS S S S=>(dZ<|kT (xP (pv 0) bX)<|dZ<|kT (aW (fJ rfl) rfl T.tuple Pr<|fC<|xP (pv 0) bX)<|xP (pv 0) bX))) rfl);refine⟨_,rfl,l,rfl,⟨_,SqL.of h2⟩,λD hD=>?_⟩;refine bB (K:=K) (xs:=xs) (yK D H u)
  ⟨⟨NZ,rfl⟩,aa,ad hD _,[],[],rfl,⟨rfl,rfl,λj t kv e=>by grind,λj e e1=>by simp_all⟩⟩ ?_ ?_ ?_
 ·rintro i σ ys v S ⟨S,Y,k,S⟩;exact⟨Y,SqL.of<|k _ _ h2⟩
 ·rintro i y σ ys v hy ⟨⟨v0,rfl⟩,Y,k,B,a,rfl,c⟩;obtain⟨e,he,p,lr,O,rfl,p1,p2,p3,S⟩:=h3.at_ i y hy;have I:=k _ _ p1;have as:=k _ _ p2;have Sv:=(N4.mp he).1;have et:u.take (i+1)=u.take i++[e]:=by rw[OJ,he];rfl
  refine cg ⟨_,rfl,(aS I rfl ⟨_,rfl,(aS I rfl ⟨lr,_,rfl,.inl ⟨SqL.of as,λm Z=>⟨_,rfl,(aS (ad Z _ _ _ I) rfl ⟨(by show 2<=sizeLine;decide),λn ac=>⟨(by show 2<=sizeLine;decide),λU J=>?_⟩⟩)⟩⟩⟩)⟩)⟩;have L:=ad Z<|.tup O;have M:=@aa v m (.tup O);generalize upd v m _=N at L M ac J ⊢;have k4:=ad ac<|.tup [.ref m,.bl e.2.2];have s4:=@aa N n (.tup [.ref m,.bl e.2.2]);generalize upd N n (.tup [.ref m,.bl _])=H4 at k4 s4 J ⊢;have k5:=ad J<|.tup [.int e.1,.ref n];have s5:=@aa H4 U (.tup [.int e.1,.ref n]);generalize upd H4 U (.tup _)=H5 at k5 s5 ⊢;have g:=L.trans<|k4.trans k5;have am:=g _ _ Y;have kd:=DV (Z:=(B++[U]).map V.ref) am;refine⟨am,?_,⟨_,rfl⟩,aa,?_,B++[U],a++[(OK e.1,.ref n)],by simp,?_⟩
  ·rw[B',c.tl];exact ah (by grind)
  ·exact(k.trans g).upd_new hD _
  rw[et];have e1:B.map V.ref++[V.ref U]=(B++[U]).map V.ref:=by simp
  rw[e1];exact c.snoc ((Same.kept g).trans kd) (kd _ _ trivial s5) ⟨m,O,kd _ _ trivial<|k5 _ _ s4,kd _ _ trivial<|k5 _ _<|k4 _ _ M,(p3.mono<|Same.kept<|k.trans g).mono kd⟩
 rintro σ ys v ⟨S,Y,k,B,a,rfl,c⟩;rw[Oi<|by rw[h3.len];exact N9 _]at c;have x2:=k _ _ h1;refine⟨D,B,a,rfl,Y,by rw[c.kl,c.tl],c.tup,?_,by rw[c.kl];exact O8 e9 (by simp),λW av=>?_⟩
 ·have e:(u.map λe=>(OK e.1:aR))=(u.map (·.1)).map OK:=by rw[OZ];rfl
  rw[c.ks,e];exact wR (λS S z=>Qp z) nd
 have L:=ad av<|.dK a;have M:=@aa v W (.dK a);generalize upd v W _=N at L M ⊢;have x3:=L _ _ x2;have Wi:W≠x:=λz=>by lia
 exists _,rfl,x,X,dx,[],rfl,x3,T.cl,T.ne,(by simp);have kx:∀b o,b≠x->N b=gV o->upd N x (.ins X dx [("entries",.ref W)]) b=gV o:=λb o hb e=>by rwa[af hb]
 refine q _ ?_ λb o hb e=>kx b o hb<|L _ _<|k _ _ e;have az:Pairs (upd N x<|.ins X dx [("entries",.ref W)]) u B a:=by
  have kk:∀b o,(∀C d fs,o≠.ins C d fs)->v b=gV o->upd N x _ b=gV o:=λb o ho e=>kx b o (by grind) (L _ _ e)
  refine⟨c.tl,c.ks,λj t kv a1 a2=>kk _ _ (by lia)<|c.tup j t kv a1 a2,λj e a1=>?_⟩;obtain⟨n,b1,m,O,c1,c2,c3⟩:=c.own j e a1;refine⟨n,b1,m,O,kk _ _ (by lia) c1,kk _ _ (by lia) c2,c3.len,λi y hy=>?_⟩;obtain⟨r,d1,qa,sv,rfl,d2,d3⟩:=c3.at_ i y hy;exact⟨r,d1,qa,sv,rfl,kk _ _ (by lia) d2,kk _ _ (by lia) d3⟩
 exact(az.player nd aa<|kx _ _ Wi M).1
noncomputable abbrev HZ:Pn:=b9 16
noncomputable abbrev DW:Pn:=b9 17
def wS:Sp:=λv H Q _=>∃(p f:J') (c:ab Int) (b:ab N'),v=[.ref p,.ref f]/\H p=gV (.tup<|c.map V.int)/\H f=gV (.lst<|b.map V.bl)/\b.length<=900/\c.length<=900/\(∀l∈c,1<=absI l)/\∀h:Hp,Same H h->Q (.bl<|c.any<|hit b) h
def sK:Sp:=λs H Q _=>∃(v:V) (f:J') (t:Str) (C:ab (ab Int)) (b:ab N'),s=[v,.ref f]/\RD H (jS t C) v/\H f=gV (.lst<|b.map V.bl)/\b.length<=900/\ug C/\(∀c∈C,∀l∈c,1<=absI l)/\∀h:Hp,Same H h->Q (.bl<|C.all λc=>c.any<|hit b) h
theorem GB(F:Fun K "some_stands" "some_stands" HZ f e)(T:Bl m)(Z:Fe P w K m b 1 "stands_by" kq):ay P w K m b a_ 2 f e ["clause","filling"] wS:=by
 refine F.okB (N:=["clause","filling"]) λC A o s H y Q E G I h=>?_;obtain⟨p,g,c,B,rfl,a,i,j,n,v,q⟩:=h;exists _,(cQ<|aN (iq rfl) rfl T.any Rw<|fC<|fW ["literal","filling"] [NZ,gV 1]<|bA<|pv 0);refine⟨_,rfl,p,rfl,⟨_,SqT.of a⟩,λD d=>aY [gV<|.ref g] _ (ES λl=>cU B (absI l) (decide (0<l))) rfl a d (by rw[B'];lia) (λY Y Y Y Y r=>r) ?_ ?_⟩
 ·intro x t Y J R k r;obtain⟨z,u,rfl⟩:=bo t;exact⟨_,rfl,_,rfl,z,g,B,rfl,k _ _ i,j,v z u,r⟩
 rw[vS,OZ];refine⟨D,_,rfl,SqL.of aa,?_,?_⟩
 ·exact uj c B
 rw[vU c B v];exact q _<|ad d _
theorem DX(F:Fun K "comes_true" "comes_true" DW f J)(T:Bl M)(Ye:Fe P w K M b 2 "some_stands" wS):ay P w K M b a_ 3 f J ["sentence","filling"] sK:=by
 refine F.okB (N:=["sentence","filling"]) λQC A o s H vs Q E sc hr h=>?_;obtain⟨v,g,t,C,B,rfl,N,O,U,m,W,q⟩:=h;obtain⟨p,j,Y,rfl,Z,l,n⟩:=fH N;exists _,(cQ<|aN (nZ rfl) rfl T.all TX<|fC<|fW ["clause","filling"] [NZ,gV 1]<|aD gg);refine⟨_,rfl,(aS Z rfl ⟨j,rfl,⟨_,SqL.of l⟩,λD r=>bB (K:=K) (xs:=Y) (λi d y a=>(∃u,d=[u,gV<|.ref g])/\y=(C.take i).map (λc=>V.bl<|c.any<|hit B)/\a D=gV (.lst y)/\Same H a) ⟨⟨NZ,rfl⟩,rfl,aa,ad r _⟩ ?_ ?_ ?_⟩)⟩
 ·rintro i d y a S ⟨S,S,h,k⟩;exact⟨h,SqL.of<|k _ _ l⟩
 ·rintro i x d y a hx ⟨⟨u,rfl⟩,L,X,k⟩;obtain⟨c,z,tc,rfl,Q7⟩:=n.get hx;have G:=N5 z;have e:C.take (i+1)=C.take i++[c]:=by rw[OJ,z];rfl
  refine cg ⟨_,rfl,_,rfl,tc,g,c,B,rfl,k _ _ Q7,k _ _ O,U,m.2 c G,W c G,λH3 I=>⟨I _ _ X,?_,⟨_,rfl⟩,?_,aa,(k.trans I).upd_new r _⟩⟩
  ·have:y.length<=C.length:=by
    rw[L,B',OB];exact T_ _ _
   exact ah (by have:=m.1;lia)
  rw[e,OF,<-L];rfl
 rintro d y a ⟨S,L,X,k⟩;rw[Oi<|by rw[n.length];exact N9 _]at L;refine⟨D,y,rfl,SqL.of X,?_,?_⟩
 ·rw[L,RJ];exact O2.mpr λS S=>rfl
 have e:y.all ig=C.all λc=>c.any (hit B):=by
  rw[L,RJ];rfl
 rw[e];exact q a k
abbrev u8:=Nat->ab N'->N'
noncomputable def iN(E:ab dL)(i:Nat)(b:ab N'):N':=match E.find? λe=>decide (e.1=1+(i:Int))with
 |some e=>lY e.2.1 b e.2.2
 |none=>N8
noncomputable def cr(t:Str)(h:N')(i:Nat):N':=cP t i == h
noncomputable def jH(t:Str)(h:N')(i:Nat):Nat:=((O7 i).filter λi=>!cr t h i).length
theorem l8(t:Str)(h:N')(i:Nat):jH t h (i+1)=jH t h i+(if cr t h i=NW then 0 else 1):=by
 unfold jH;rw[Rg,Po,N0];cases g:cr t h i with
 |true=>simp_all
 |false=>rw[Pu<|by rw[g];rfl];rfl
theorem AA(t:Str)(H:N')(h:i<=j):jH t H i<=jH t H j:=by
 induction j with
 |zero=>simp_all
 |succ j I=>
  obtain g|g:=UN i (j+1)
  ·rw[l8];lia
  rw[show i=j+1 by exact Nat.le_antisymm h g];exact N9 _
theorem sM(t:Str)(h:N')(i:Nat):jH t h i<=i:=by
 unfold jH;have:=O0 (λi=>!cr t h i)<|O7 i;simp_all
structure PlanOk (es:ab dL)(t:Str)(hw:N'):Prop where
 has:∀i,i<t.length->cr t hw i=NW->∃e,es.find? (λe=>decide (e.1=1+(i:Int)))=gV e/\e∈es/\e.1=1+(i:Int)
 near:∀e∈es,∃i:Nat,i<t.length/\e.1=1+(i:Int)/\Near i e.2.1
theorem PlanOk.nearAt{E:ab dL}{t:Str}{H:N'}(h:PlanOk E t H){e:dL}{i:Nat}(a:e∈E)(b:e.1=1+(i:Int)):Near i e.2.1:=by
 obtain⟨j,z,c,n⟩:=h.near e a;have:j=i:=by lia
 rwa[<-this]
theorem GC(t:Str)(h:N')(i:Nat):decide (cP t i=h)=cr t h i:=by
 rfl
theorem DY(b:N'):decide (V.str (ao b)=V.str (N_ "wisher"))=b:=by
 have z:=eV b NW;have Z:ao NW=N_ _:=rfl;simp_all
theorem jI(b:N')(B:ab N'):B.map V.bl++[V.bl b]=(B++[b]).map V.bl:=by simp
theorem DZ(h:0<n):Xd 0 n=gV 0:=by
 unfold Xd;simp_all
def Fol(A:u8)(t:Str)(h:N')(b:ab N'):Prop:=∀i,i<b.length->cr t h i=NW->b[i]?=gV (A i<|b.take i)
theorem Fol.snoc(h:Fol A t H B)(g:cr t H B.length=NW->b=A B.length B):Fol A t H (B++[b]):=λi a o=>by
 rw[N0,OM]at a;by_cases e:i<B.length
 ·rw[ON e,Ra (OW e),h i e o]
 have:i=B.length:=by lia
 subst this;rw[OP<|N9 _,QI,Z6,<-g o];rfl
inductive kQ (vs:ab V)(H:Hp)(Q:VK)(E:XK):Prop
 |mk (p q:J')(t:Str)(xs:ab V)(c ds:ab (ab Int))(v:V)(d:Og)(h0:vs=[.ref p,v])(a:dR H p q t xs c)(b:RD H d v)(e:MD d)(f:bG t c d=gV ds)
  (g:∀(r l:J') (ys:ab V) (h:Hp),Same H h->H l=NZ->h r=gV (.tup [.str t,.ref l])->h l=gV (.lst ys)->CLs h ds ys->Q (.ref r) h):kQ vs H Q E
theorem u9{H:Hp}{s:Nx}{p:J'}(h:H p=gV (.tup s.zs)):RD H s.d (.ref p):=by
 cases s with
 |unit i=>exact bx h<|ai (c_ _)<|ai (bO _) aM
 |drop i=>exact bx h<|ai (c_ _)<|ai (bO _) aM
 |pure z=>exact bx h<|ai (c_ _)<|ai (bO _) aM
 |within i j=>exact bx h<|ai (c_ _)<|ai (bO _)<|ai (bO _) aM
 |blocked i z=>exact bx h<|ai (c_ _)<|ai (bO _)<|ai (bO _) aM
theorem H_(s:Nx):MD s.d:=by
 cases s with
 |unit i=>exact λd e=>by cases e;exact yB
 |drop i=>exact λd e=>by cases e;exact yA
 |pure z=>exact λd e=>by cases e;exact yC
 |within i j=>exact λd e=>by cases e;exact qS
 |blocked i z=>exact λd e=>by cases e;exact px
theorem AB(F:Fun K "smaller_by" "smaller_by" wJ f j)(m:Fe P w K M b 5 "clauses_after" sI):ay P w K M b a_ 6 f j ["sentence","step"] kQ:=by
 have G:=yD;refine F.okA yD λI A o s H J Q E L h=>?_;obtain⟨p,q,t,x,C,O,v,d,rfl,S,n,a,e,u⟩:=h;refine⟨_,(ae gg
  (ae (aQ gg (ar fF) ax)
  gg)),?_⟩
 refine⟨_,rfl,_,rfl,p,q,t,x,C,v,d,rfl,S,n,a,λT U g i=>?_⟩;rw[e]at i;obtain⟨l,y,rfl,N,B,D⟩:=i;exists _,rfl,rfl,_,rfl;refine ak ⟨_,rfl,(aS (g _ _ S.hp) rfl ⟨_,rfl,(by show 2<=sizeLine;decide),λr c=>?_⟩)⟩;have k:=ad c<|.tup [.str t,.ref l];exact u r l y _ (g.trans k) N aa (k _ _ B)<|D.mono k
noncomputable abbrev Ia:Pn:=cW (b9 50) 0
noncomputable abbrev D0:Pn:=b9 51
structure Mj (K:C')(mg:Str->M' NX)(CP CL:J'):Prop where
 dict:mg "dict"=NZ
 isinstance:mg "isinstance"=NZ
 tuple:mg "tuple"=NZ
 clP:Cls K CP
 clL:Cls K CL
 nv:NoAttr K CL "variables"
 ni:NoAttr K CL "innermost"
 nl:NoAttr K CL "layers"
 g_LedBack:mw mg "LedBack" (.ref CL)
 ha:O3 K (.ref CP) "__class__"=gV (gV<|.builtin "object.__class__")
 hn:Tp K (.builtin "object.__class__") "__get__"=gV (gV<|.builtin "getset_descriptor.__get__")
 htk:Uv K (.builtin "object.__class__")=gV NW
 hm:Ug K CP (.type "object")=gV NW
 kit:QE K (.ref CP) (.ref CL)=gV N8
def LvF(H:Hp)(k:ab (aR×V))(g:Int->ab N'->N'->N'):Prop:=∀v:Int,(bL k (.inl v)=NZ/\∀B i,g v B i=i)\/∃(t L:J') (c:ab Int) (b:N'),bL k (.inl v)=gV (.ref t)/\H t=gV (.tup [.ref L,.bl b])/\H L=gV (.tup<|c.map V.int)/\c.length<=900/\(∀l∈c,1<=absI l)/\∀B i,g v B i=if c.any (hit B)=NW then i else b
noncomputable def fV(os:ab (Int×ab Int×N'))(v:Int)(b:ab N')(i:N'):N':=match os.find? λo=>decide (o.1=v)with
 |some o=>if o.2.1.any (hit b)=NW then i else o.2.2
 |none=>i
theorem Kn{H:Hp}{os:ab (Int×ab Int×N')}{s:ab (aR×V)}(h:Paired (OV H) os s):LvF H s (fV os):=λv=>by
 induction h with
 |nil=>exact .inl ⟨rfl,λx x=>rfl⟩
 |@cons o a os s r _ I=>
  obtain⟨k,y⟩:=a;obtain⟨rfl,t,l,rfl,c,d,g,j⟩:=r;by_cases e:o.1=v
  ·refine .inr ⟨t,l,o.2.1,o.2.2,?_,c,d,g,j,λb i=>?_⟩
   ·have f:((OK o.1,V.ref t)::s).find? (λa=>decide (a.1=(OK v)))=gV _:=Rk (N3<|by rw[e]);unfold bL;rw[f];rfl
   have f:(o::os).find? (λo=>decide (o.1=v))=gV o:=Rk (N3 e);unfold fV;rw[f]
  have E:bL ((OK o.1,V.ref t)::s) (.inl v)=bL s (.inl v):=by
   have f:((OK o.1,V.ref t)::s).find? (λa=>decide (a.1=(OK v)))=s.find? _:=R4 (λz=>e<|Qp<|Oh z);unfold bL;rw[f]
  have m:∀b i,fV _ v b i=fV os v b i:=λb i=>by
   have f:(o::os).find? (λo=>decide (o.1=v))=os.find? _:=R4 (λz=>e<|Oh z);unfold fV;rw[f]
  rw[E];simp only[m];exact I
noncomputable def jJ(e:ab dL)(t:Str)(h:N')(b:ab N'):Nat->ab N'
 |0=>[]
 |k+1=>jJ e t h b k++[if cr t h k=NW then iN e k (jJ e t h b k)else b.getD k N8]
theorem dC(e:ab dL)(t:Str)(h:N')(b:ab N'):∀k,(jJ e t h b k).length=k
 |0=>rfl
 |k+1=>by rw[jJ,N0,dC e t h b k];rfl
noncomputable def pT(e:ab dL)(g:Int->ab N'->N'->N')(t:Str)(h:N'):u8:=λi b=>g ((i:Int)+1) b<|iN e i<|jJ e t h b i
inductive LedX (H:Hp)(C CL x:J')(e:ab dL)(g:Int->ab N'->N'->N')(t:Str)(hw:N'):Prop
 |mk (dx d pl l a:J')(s:ab (aR×V))(h:H x=gV (.ins CL dx [("variables",.ref d),("innermost",.ref pl),("layers",.ref l)]))(b:H d=gV (.dK ((aK t hw).map λk=>((OK k:aR),V.bl NW))))(c:H l=gV (.lst [.ref a]))(f:H a=gV (.dK s))(i:LvF H s g)(j:PlayerAt H C pl e)
inductive wT (P CL:J')(vs:ab V)(H:Hp)(Q:VK)(E:XK):Prop
 |mk (x dx p q pl:J')(e:ab dL)(t:Str)(xs:ab V)(C:ab (ab Int))(v:V)(s:Nx)(hw:N')(h0:vs=[.ref x,.ref p,v,.str<|ao hw,.ref pl])(hx:H x=gV (.ins CL dx []))(a:dR H p q t xs C)(u:∀c∈C,Ups c)(b:RD H s.d v)(d:jb t C s)(f:PlayerAt H P pl e)
  (q:∀h,BtX x H h->LedX h P CL x e (fV<|jL t C hw s) t hw->Q .non h):wT P CL vs H Q E
inductive Ml (h:Hp)(D:J')(ks:ab Int)(i:Nat)(a:St)(ys:ab V)(H:Hp):Prop
 |mk (v:M' V)(t:ab J')(h0:a=[v])(b:H D=gV (.lst ys))(c:Same h H)(d:ys=t.map V.ref)(e:PrsAt H t ((ks.take i).map λk=>((OK k:aR),V.bl NW)))
theorem BtX.cls(a:H x=gV (.ins C d f))(k:BtX x H b):∀{c:ab (ab Int)} {X:ab V},CLs H c X->CLs b c X
 |_,_,.nil=>.nil
 |_,_,.cons ⟨t,e,h⟩ r=>.cons ⟨t,e,k _ _ (by lia) h⟩<|BtX.cls a k r
theorem BtX.sent(h:H x=gV (.ins C d f))(k:BtX x H a)(S:dR H p q t X c):dR a p q t X c:=
 ⟨k _ _ (λz=>by have:=S.hp;simp_all) S.hp,k _ _ (λz=>by have:=S.hq;simp_all) S.hq,k.cls h S.hcs,S.ht,S.hn,S.hok,S.hc⟩
theorem PlayerAt.monoX{CL:J'}(h:PlayerAt H C p E)(d:H x=gV (.ins CL D M))(n:p≠x)(k:∀b o,b≠x->NK o->H b=gV o->f b=gV o):PlayerAt f C p E:=by
 have t:∀b X,H b=gV _->f b=gV (.tup X):=λb X e=>k b _ (by lia) trivial e;obtain⟨D,g,s,j,c,l,m⟩:=h;refine⟨D,g,s,k _ _ n trivial j,k _ _ (by lia) trivial c,l,λe u=>?_⟩;obtain⟨T,a,v,w,A,F,B⟩:=m e u;refine⟨T,a,v,w,t _ _ A,t _ _ F,B.len,λi y z=>?_⟩;obtain⟨r,Z,q,G,I,J,L⟩:=B.at_ i y z;exact⟨r,Z,q,G,I,t _ _ J,t _ _ L⟩
section
variable {CL:J'}
theorem GD(F:Fun K "__init__" "LedBack.__init__" Ia f fd)(T:Mj K mg CP CL)(VC:Fe P w K mg B 2 "variables_of" lI)(a2:Fe P w K mg B 4 "own_values" wO):ay P w K mg B a_ 5 f fd ["self","sentence","step","hand","player"] (wT CP CL):=by
 refine F.okB (N:=["self","sentence","step","hand","player"]) λQC A am s H vs Q E sc hr h=>?_;obtain⟨x,g,p,qa,m,es,t,xs,cs,v,s,r,rfl,W,S,YI,hd,an,X,q⟩:=h;obtain⟨dp,de,a3,VM,R,R,R⟩:=id X;have ht:=S.ht;refine⟨_,(ae (jm (pv 0) (aW (fM rfl) rfl T.dict Rj<|fC<|fW ["variable"] [NZ]<|aD gg) rfl)
  (ae gg
  (ae gg
  (ae (aQ (gR<|aN jX rfl T.isinstance R7<|kT (pv 4)<|ci rfl T.g_LedBack) (ae gg
   (ar<|dm<|gG Ph Ws PySem.F.type_list_extend zd gg gg)) ax)
  gg)))),?_⟩
 refine⟨_,rfl,_,rfl,p,t,_,r,rfl,S.hp,(by lia),λl H1 k1 hl=>?_⟩;refine⟨l,rfl,⟨_,SqL.of hl⟩,λD nD=>?_⟩;have a4:=pe t r;refine bB (K:=K) (a:=l) (xs:=(aK t r).map V.int) (Ml H1 D<|aK t r) ⟨NZ,[],rfl,aa,ad nD _,rfl,⟨rfl,λj t k v e=>by simp at e⟩⟩ ?_ ?_ ?_
 ·rintro i σ Y I R ⟨R,R,R,J,M,R⟩;exact⟨J,SqL.of<|M _ _ hl⟩
 ·rintro i y σ Y I hy ⟨v0,ts,rfl,J,M,rfl,u⟩;obtain⟨z,rfl,hz⟩:=cO hy;have Wy:=(N4.mp hz).1;have et:=OJ (l:=aK t r) (i:=i);rw[hz]at et;refine cg ⟨_,rfl,(by show 2<=sizeLine;decide),λpt as=>?_⟩;have k3:=ad as<|.tup [.int z,.bl NW];have s3:=@aa I pt (.tup [.int z,.bl NW]);generalize upd I pt (.tup [.int z,.bl NW])=Z at k3 s3 ⊢;have d3:=k3 _ _ J;have tl:=u.len;rw[B',OB]at tl;have av:pt≠D:=λe=>by lia
  refine⟨d3,by rw[B'];exact ah (by lia),_,ts++[pt],rfl,aa,(M.trans k3).upd_new nD _,by rw[OF];rfl,?_⟩;rw[et,OF];refine((u.mono k3).but d3).snoc ?_;rw[af av];exact s3
 rintro σ Y I ⟨R,ts,R,J,M,rfl,u⟩;rw[Oi<|by rw[B'];exact N9 _]at u;refine⟨D,ts,_,rfl,J,u.len,(λi t kv e1 e2=>u.at_ i t kv.1 kv.2 e1 e2),?_,(by rw[B'];lia),λd nd=>?_⟩
 ·rw[OZ];exact TN _ (λa b h z=>h<|Qp z)<|jF t r
 have kd:=ad nd<|.dK<|(aK t r).map λk=>((OK k:aR),V.bl NW);have Xb:=k1.trans<|M.trans kd;have sx:=Xb _ _ W;have sd:=@aa I d (.dK<|(aK t r).map λk=>((OK k:aR),V.bl NW));generalize upd I d _=Z at Xb sx sd ⊢;clear k1 M kd J u nd;refine⟨_,rfl,x,CL,g,_,rfl,sx,T.clL,T.nv,(by simp),?_⟩;have b1:BtX x H (upd Z x<|.ins CL g [("variables",.ref d)]):=(BtX.of Xb).put;have s1:=@aa Z x (.ins CL g [("variables",.ref d)]);show rf _ _ _ _ (upd Z x<|.ins CL g [("variables",.ref d)])
 generalize e4:upd Z x (.ins CL g [("variables",.ref d)])=H4 at b1 s1 ⊢;have e4:=e4.symm;refine⟨_,rfl,_,rfl,x,CL,g,_,rfl,s1,T.clL,T.ni,(by simp),?_⟩;have b2:BtX x H (upd H4 x<|.ins CL g [("variables",.ref d),("innermost",.ref m)]):=b1.put;have s2:=@aa H4 x (.ins CL g [("variables",.ref d),("innermost",.ref m)]);show rf _ _ _ _ (upd H4 x<|.ins CL g [("variables",.ref d),("innermost",.ref m)])
 generalize e5:upd H4 x (.ins CL g [("variables",.ref d),("innermost",.ref m)])=H5 at b2 s2 ⊢;have e5:=e5.symm;refine⟨Oy _,λL N=>?_⟩;have k6:=ad N<|.lst [];have s6:=@aa H5 L (.lst []);have C:=k6 _ _ s2;have b6:=b2.trans<|BtX.of k6;generalize e6:upd H5 L (.lst [])=H6 at k6 s6 C b6 ⊢;have e6:=e6.symm;refine⟨_,rfl,x,CL,g,_,rfl,C,T.clL,T.nl,(by simp),?_⟩;have az:L≠x:=λe=>by lia
 have O:BtX x H (upd H6 x<|.ins CL g [("variables",.ref d),("innermost",.ref m),("layers",.ref L)]):=b6.put;have s7:=@aa H6 x (.ins CL g [("variables",.ref d),("innermost",.ref m),("layers",.ref L)]);have l7:upd H6 x (.ins CL g [("variables",.ref d),("innermost",.ref m),("layers",.ref L)]) L=gV (.lst []):=by rw[af az];exact s6
 show rf _ _ _ _ (upd H6 x<|.ins CL g [("variables",.ref d),("innermost",.ref m),("layers",.ref L)])
 generalize e7:upd H6 x (.ins CL g [("variables",.ref d),("innermost",.ref m),("layers",.ref L)])=H7 at O s7 l7 ⊢;have e7:=e7.symm;have G:d≠x:=λe=>by simp_all
 have d5:H5 d=gV (.dK<|(aK t r).map λk=>((OK k:aR),V.bl NW)):=by rw[e5,af G,e4,af G];exact sd
 have d7:H7 d=gV (.dK<|(aK t r).map λk=>((OK k),V.bl NW)):=by rw[e7,af G,e6];exact ad N _ _ _ d5
 have ac:m≠x:=λe=>by
  lia
 have p7:=O _ _ ac VM;refine⟨_,rfl,.ref m,.ref CP,CL,N8,rfl,.ins p7 T.clP T.ha T.hn T.htk T.hm,T.kit,N8,rfl,ak ?_⟩;obtain⟨b,rfl,hb⟩:=pC hd;have aC:=O _ _ (by lia) hb;refine⟨_,rfl,x,CL,g,_,_,rfl,s7,T.clL,T.nl,rfl,.inl ⟨rfl,_,SqL.of l7⟩,_,rfl,_,rfl,_,rfl,p,qa,t,xs,cs,_,s,r,rfl,O.sent W S,YI,u9 aC,an,λa aF H8 U na ha aL=>⟨L,_,_,rfl,rfl,U _ _ l7,ah (by simp),?_⟩⟩;have a0:=U _ _ l7;have nn:∀{b:J'} {o:HO},H8 b=gV o->(∀Y,o≠.lst Y)->upd H8 L (.lst ([]++[.ref a])) b=gV o:=λ{b o} e h=>by
  rwa[af λz=>by grind]
 have hg:=Kn aL;refine q _ (λc o hc e=>?_) ⟨g,d,m,L,a,aF,nn (U _ _ s7) (by simp),nn (U _ _ d7) (by simp),aa,nn ha (by lia),λv=>?_,X.monoX W ac λb o a1 n e=>?_⟩
 ·by_cases z:c=L
  ·have:=b2 _ _ hc e;lia
  rw[af z];exact U _ _<|O _ _ hc e
 ·obtain h|⟨te,lf,c,b,e1,e2,e3,e4⟩:=hg v
  ·exact .inl h
  exact .inr ⟨te,lf,c,b,e1,nn e2 (λR z=>nomatch z),nn e3 (by lia),e4⟩
 refine nn (U _ _<|O _ _ a1 e) λY z=>?_;rwa[z]at n
inductive sN (P CL:J')(vs:ab V)(H:Hp)(Q:VK)(E:XK):Prop
 |mk (p q pl:J')(e:ab dL)(t:Str)(xs:ab V)(C ds:ab (ab Int))(v:V)(s:Nx)(hw:N')(h0:vs=[.ref p,v,.str<|ao hw,.ref pl])(b:dR H p q t xs C)(u:∀c∈C,Ups c)(d:RD H s.d v)(f:jb t C s)(a:bG t C s.d=gV ds)(g:PlayerAt H P pl e)
  (i:∀x h,Same H h->LedX h P CL x e (fV<|jL t C hw s) t hw->Q (.ref x) h):sN P CL vs H Q E
theorem D_(F:Fun K "player_back" "player_back" D0 f u)(T:Fe P w K m B 6 "smaller_by" kQ)(y:JI P w K m B 5 "LedBack" CL g2 e2 ["self","sentence","step","hand","player"] (wT z CL)):ay P w K m B a_ 7 f u ["sentence","step","hand","player"] (sN z CL):=by
 refine F.okB (N:=["sentence","step","hand","player"]) λQC A O s H vs Q E sc hr h=>?_;obtain⟨p,q,D,G,t,c,C,I,v,s,J,rfl,S,Y,g,k,a,M,L⟩:=h;exists _,gg;refine⟨_,rfl,_,rfl,p,q,t,c,C,I,v,s.d,rfl,S,g,H_ s,a,λr l ys i j V V V V=>⟨_,rfl,_,rfl,_,rfl,_,rfl,λx d N n Wi=>?_⟩⟩;have U:Same i (upd (upd i d<|.own x) x<|.ins CL d []):=λb o e=>by
  rwa[af<|ag e N,af<|ag e n]
 have X:=j.trans U;refine⟨x,d,p,q,D,G,t,c,C,v,s,J,rfl,aa,⟨X _ _ S.hp,X _ _ S.hq,S.hcs.mono X,S.ht,S.hn,S.hok,S.hc⟩,Y,dw X _ _ g,k,M.mono<|Same.kept X,λW Z hL=>⟨rfl,L x W (λb o e=>Z b o (ag e<|j.free N)<|X _ _ e) hL⟩⟩
end
noncomputable abbrev Ib:Pn:=b9 49
noncomputable abbrev Ea:Pn:=cW (b9 50) 1
noncomputable abbrev Eb:Pn:=cW (b9 50) 2
structure Ko (K:C')(mg:Str->M' NX)(CL:J'):Prop where
 zip:mg "zip"=NZ
 range:mg "range"=NZ
 cl:Cls K CL
 nv:NoAttr K CL "variables"
 ni:NoAttr K CL "innermost"
 nl:NoAttr K CL "layers"
inductive wU (vs:ab V)(H:Hp)(Q:VK)(E:XK):Prop
 |mk (a b:J')(k:ab (aR×V))(g:Int->ab N'->N'->N')(v:Int)(bs:ab N')(i:N')(h0:vs=[.ref a,.int v,.ref b,.bl i])(c:H a=gV (.dK k))(d:LvF H k g)(e:H b=gV (.lst<|bs.map V.bl))(f:bs.length<=900)(q:∀h,Same H h->Q (.bl<|g v bs i) h)
inductive wV (C CL:J')(vs:ab V)(H:Hp)(Q:VK)(E:XK):Prop
 |mk (x fs f b:J')(e:ab dL)(g:Int->ab N'->N'->N')(t:Str)(hw:N')(n:Nat)(X bs:ab N')(hn:X.length=n)(z:Int)(a:z=(n:Int)+1)(h0:vs=[.ref x,.int z,.ref fs])(c:LedX H C CL x e g t hw)(ok:PlanOk e t hw)(d:H fs=gV (.lst [.ref f,.ref b]))(i:H f=gV (.lst<|X.map V.bl))(j:H b=gV (.lst<|bs.map V.bl))(k:n<t.length)(t8:t.length<=8)(m:bs.length<=900)(o:cr t hw n=NW)
  (q:∀(l:J') (h:Hp),Same H h->H l=NZ->h l=gV (.lst [.bl<|iN e n X,.bl<|g ((n:Int)+1) bs<|iN e n X])->Q (.ref l) h):wV C CL vs H Q E
def PAl(C CL:J')(H:Hp)(x:J')(A:u8)(t:Str)(h:N'):Prop:=∃e g,LedX H C CL x e g t h/\PlanOk e t h/\A=pT e g t h
theorem LvF.to(h:LvF H s g)(k:∀b x,H b=gV (.tup x)->a b=gV (.tup x)):LvF a s g:=λv=>by
 obtain h|⟨t,l,c,b,e,d,f,r⟩:=h v
 ·exact .inl h
 exact .inr ⟨t,l,c,b,e,k _ _ d,k _ _ f,r⟩
theorem LedX.mono{CL:J'}(h:LedX H C CL x E g t w)(k:Same H c):LedX c C CL x E g t w:=by
 obtain⟨D,d,p,l,a,s,f,i,j,m,n,o⟩:=h;exact⟨D,d,p,l,a,s,k _ _ f,k _ _ i,k _ _ j,k _ _ m,n.to λb X e=>k _ _ e,o.mono<|Same.kept k⟩
theorem PlayerAt.off(h:PlayerAt H C x E)(k:Off T H d)(t:TabAt H T p Q):PlayerAt d C x E:=by
 have c:∀b X,H b=gV (.tup X)->d b=gV _:=λb X e=>k.at_ t e λY z=>nomatch z
 obtain⟨D,f,s,g,j,n,l⟩:=h;refine⟨D,f,s,k.at_ t g (by simp),k.at_ t j (by lia),n,λe m=>?_⟩;obtain⟨o,a,u,v,w,A,B⟩:=l e m;refine⟨o,a,u,v,c _ _ w,c _ _ A,B.len,λi y z=>?_⟩;obtain⟨r,Z,q,F,G,I,J⟩:=B.at_ i y z;exact⟨r,Z,q,F,G,c _ _ I,c _ _ J⟩
theorem PAl.mono{CL:J'}(h:PAl C CL H x A t w)(k:Same H a):PAl C CL a x A t w:=by
 obtain⟨E,g,h,o,e⟩:=h;exact⟨E,g,h.mono k,o,e⟩
theorem PAl.ins{CL:J'}(h:PAl C CL H x A t w):∃D f,H x=gV (.ins CL D f)/\f.lookup ("answer":Str)=none:=by
 obtain⟨e,g,⟨D,d,p,l,a,k,b,z,z,z,z,z⟩,z⟩:=h;exact⟨D,_,b,rfl⟩
theorem PAl.off{CL:J'}(h:PAl C CL H x A t w)(k:Off T H f)(c:TabAt H T p q):PAl C CL f x A t w:=by
 obtain⟨E,g,⟨D,d,P,l,a,s,i,j,m,n,r,u⟩,o,e⟩:=h;exact⟨E,g,⟨D,d,P,l,a,s,k.at_ c i (by simp),k.at_ c j (by simp),k.at_ c m (by lia),k.at_ c n (by lia),r.to (λb X e=>k.at_ c e λy z=>nomatch z),u.off k c⟩,o,e⟩
inductive sO (C CL:J')(vs:ab V)(H:Hp)(Q:VK)(E:XK):Prop
 |mk (x b:J')(A:u8)(t:Str)(hw:N')(bs:ab N')(m:Nat)(h0:vs=[.ref x,.int<|(m:Int)+1,.ref b])(a:PAl C CL H x A t hw)(c:H b=gV (.lst<|bs.map V.bl))(d:m<t.length)(e:m<=bs.length)(f:bs.length<=8)(t8:t.length<=8)(o:cr t hw m=NW)(q:∀h:Hp,Same H h->Q (.bl<|A m bs) h)
theorem yL(t:Str)(H:N'){i:Nat}{z:Int}(a:z=(i:Int)+1)(b:i<t.length):bL ((aK t H).map λk=>((OK k:aR),V.bl NW)) (.inl z)=if cr t H i=NW then gV (.bl NW)else none:=by
 have c:∀(s:ab Int) (z:Int),bL (s.map λk=>((OK k:aR),V.bl NW)) (.inl z)=if z∈s then gV _ else none:=λs z=>by
  induction s with
  |nil=>rfl
  |cons k r I=>
   rw[OT];by_cases e:k=z
   ·rw[cA (by rw[e]),On<|by rw[e];exact Ou]
   rw[cb (λh=>e<|Qp h)];grind
 have E:((i:Int)+1∈aK t H)↔cr t H i=true:=by
  unfold aK cr;rw[OH];constructor
  ·rintro⟨j,d,e⟩;have:j=i:=by lia
   subst this;exact(Oj.mp d).2
  intro h;exact⟨i,Oj.mpr ⟨QU.mpr b,h⟩,by rfl⟩
 simp_all
inductive NL (H:Hp)(D:J')(i:Nat)(a:St)(ys:ab V)(h:Hp):Prop
 |mk (v:M' V)(h0:a=[v])(b:h D=gV (.lst ys))(c:Same H h)(d:i=0->ys=[])(e:i=1->∃f:J',ys=[.ref f]/\f≠D/\H f=NZ/\h f=gV (.lst []))
inductive Ic (x b F f:J')(e:ab dL)(t:Str)(hw:N')(bs:ab N')(m:Nat)(H:Hp)(i:Nat)(a:St)(h:Hp):Prop
 |mk (v c d g:M' V)(I:a=[gV<|.ref x,gV<|.int<|(m:Int)+1,gV<|.ref b,gV<|.ref F,v,c,d,g])(j:h f=gV (.lst<|(jJ e t hw bs i).map V.bl))(k:h F=gV (.lst [.ref f]))(l:Same H h)
inductive Ie (x b F f tl:J')(z:Int)(n:Nat)(r:N')(X:ab N')(u:ab V)(H:Hp)(i:Nat)(a:St)(h:Hp):Prop
 |mk (v c:M' V)(I:a=[gV<|.ref x,gV<|.int<|(n:Int)+1,gV<|.ref b,gV<|.ref F,gV<|.int z,gV<|.ref tl,v,c])(d:h f=gV (.lst<|(X++if i=0 then []else [r]).map V.bl))(e:h F=gV (.lst [.ref f]))(g:Same H h)(j:h tl=gV (.lst u))
section
variable {CL:J'}
theorem GE(F:Fun K "led_value" "led_value" Ib f u)(Y:Fe P w K M B 2 "some_stands" wS):ay P w K M B a_ 3 f u ["values","variable","begun","inner"] wU:=by
 refine F.okB (N:=["values","variable","begun","inner"]) λT A o s H U Q E W r h=>?_;obtain⟨a,b,x,g,v,m,i,rfl,n,y,C,D,q⟩:=h;have j:=mv r;have G:=DGet.k (k:=OK v) n;refine⟨_,(ae (aQ (PW.pt<|re (kU<|vF j (pv 1)<|pv 0)<|q_<|ij<|gR<|B4 Y r<|kT (LN (bH j (pv 0) (pv 1) λX X=>rfl) bX)<|pv 2) (cQ<|LN (bH j (pv 0) (pv 1) λX X=>rfl) bX) ax)
  (cQ<|pv 3)),?_⟩
 obtain⟨e,k⟩|⟨Z,L,c,bb,e,p,I,J,N,k⟩:=y v
 ·rw[e]at G;refine⟨_,rfl,_,rfl,a,_,rfl,G,_,rfl,ak<|ak ⟨_,rfl,?_⟩⟩;have z:=q H<|Same.refl _;rwa[k]at z
 rw[e]at G;refine⟨_,rfl,_,rfl,a,_,rfl,G,_,rfl,ap ⟨_,rfl,_,rfl,a,_,rfl,G,(aS p rfl ⟨_,rfl,L,b,c,m,rfl,I,C,D,J,N,λO l=>⟨_,rfl,?_⟩⟩)⟩⟩;have z:=q O l;rw[k]at z;cases t:c.any _ with
 |true=>
  rw[t]at z;exact ak ⟨_,rfl,z⟩
 |false=>
  rw[t]at z;have d:=DGet.k (k:=OK v)<|l _ _ n;rw[e]at d;exact ap ⟨_,rfl,_,rfl,a,_,rfl,d,(aS (l _ _ p) rfl z)⟩
inductive Ig (x fs l s L a b:J')(z:Int)(r:N')(v:N')(H:Hp)(i:Nat)(c:St)(h:Hp):Prop
 |mk (d e:M' V)(I:c=[gV<|.ref x,gV<|.int z,gV<|.ref fs,gV<|.ref l,d,e])(f:h l=gV (.lst (if i=0 then [.bl r]else [.bl r,.bl v])))(g:Same H h)(j:h L=gV (.lst [.ref a]))(k:h s=gV (.lst [.ref b]))
theorem Ec(F:Fun K "answers" "LedBack.answers" Ea f fd)(T:Ko K O CL)(an:tp P w K O B a_ 3 CP "answer" f1 d1 ["self","variable","begun"] (yG CP))(as:Fe P w K O B 3 "led_value" wU):ay P w K O B a_ 4 f fd ["self","variable","fillings"] (wV CP CL):=by
 refine F.okB (N:=["self","variable","fillings","told","values","begun"]) λQC A U s H vs Q E sc hr h=>?_;obtain⟨x,fs,C,b,W,g,t,hw,n,X,bs,hn,z,rfl,rfl,hL,m,o,Z,hb,TQ,t8,h9,ho,q⟩:=h;obtain⟨dx,d,pl,la,a,ac,h1,h2,h3,h4,h5,h6⟩:=id hL;obtain⟨dp,de,av,p1,V⟩:=id h6;obtain⟨e,hf,p,u⟩:=m.has _ TQ ho;have ea:iN W n X=lY e.2.1 X e.2.2:=by
  unfold iN;rw[hf]
 refine⟨_,(ae gg
  (ae (fk PU rfl (vW rfl T.zip gg<|bu bZ (pv 2) gg bU) gg
   gg)
  (cQ<|pv 3))),?_⟩
 refine⟨_,rfl,x,CL,dx,_,_,rfl,h1,T.cl,T.ni,rfl,pl,dp,_,rfl,p1,rfl,_,rfl,_,rfl,(fz o rfl ⟨pl,C,W,e,X,(by rw[u,R6];rfl),h6,Z,by lia,p,hn▸m.nearAt p u,(by show 1<=sizeLine;decide),λl D=>?_⟩)⟩;rw[<-ea];generalize iN W n X=r at q;have I:=ad D<|.lst [.bl r];have s1:=@aa H l (.lst [.bl r]);generalize upd H l (.lst _)=H1 at I s1 ⊢;refine⟨_,rfl,x,CL,dx,_,_,rfl,I _ _ h1,T.cl,T.nl,rfl,_,rfl,1,rfl,fs,_,rfl,SqL.of<|I _ _ o,λc N=>?_⟩;have k2:=ad N<|.lst<|bC [.ref C,.ref b] (gV 1) NZ;have s2:upd H1 c (.lst<|bC [.ref C,.ref b] (gV 1) NZ) c=gV (.lst _):=aa;generalize upd H1 c (.lst<|bC _ _ NZ)=H2 at k2 s2 ⊢;have Xb:=I.trans k2;refine⟨la,c,rfl,rfl,⟨_,SqL.of<|Xb _ _ h3⟩,⟨_,SqL.of s2⟩,rK (X:=[.ref a]) (Y:=[.ref b]) rfl (N9 _) (Ig x fs l c la a b ((n)+1) r (g ((n)+1) bs r) H) ⟨NZ,NZ,rfl,k2 _ _ s1,Xb,Xb _ _ h3,s2⟩ ?_ ?_ ?_⟩
 ·rintro i σ j V ⟨V,V,V,V,V,g3,g4⟩;exact⟨SqL.of g3,SqL.of g4⟩
 ·rintro i y z σ j J hy hz ⟨v4,v5,rfl,g1,k3,g3,g4⟩ am;obtain rfl:i=0:=by grind
  cases hy;cases hz;have L:=ad am<|.tup [.ref a,.ref b];exists J,_,rfl,SqT.of aa,rfl,_,_,rfl,_,_,rfl,rfl;have Y:upd j J _ l=gV (.lst [.bl r]):=L _ _ g1;have G:=L _ _ g3;have v:=L _ _ g4;have k:=k3.trans L;show GU _ _ _ _
  generalize upd j J _=H4 at k Y G v ⊢;exact⟨_,rfl,.inl ⟨rfl,_,SqL.of Y⟩,_,rfl,_,rfl,_,rfl,_,rfl,1,rfl,(fz Y rfl ⟨a,b,ac,g,_,bs,r,rfl,k _ _ h4,h5.to λb xs e=>k _ _ e,k _ _ hb,h9,λH5 M=>⟨l,_,_,rfl,rfl,M _ _ Y,ah (by simp),⟨_,_,rfl,aa,(k.trans M).upd_new D _,(by rw[af<|ag h3 D];exact M _ _ G),(by rw[af<|P0<|ag s1 N];exact M _ _ v)⟩⟩⟩)⟩
 rintro σ j ⟨v4,v5,rfl,g1,k3,V,V⟩;exact⟨_,rfl,q l j k3 D g1⟩
theorem Ed(F:Fun K "answer" "LedBack.answer" Eb f fd)(T:Ko K mg CL)(a4:tp P w K mg J a_ 3 CP "answer" f1 d1 ["self","variable","begun"] (yG CP))(ac:tp P w K mg J a_ 4 CL "answers" f2 d2 ["self","variable","fillings"] (wV CP CL)):ay P w K mg J a_ 5 f fd ["self","variable","begun"] (sO CP CL):=by
 refine F.okB (N:=["self","variable","begun","fillings","lesser","told","filling","value"]) λQC A aC s H vs Q E sc hr h=>?_;obtain⟨x,b,A0,t,j,B,m,rfl,aF,hb,am,a5,a6,t8,ho,q⟩:=h;obtain⟨u,g,hL,an,rfl⟩:=aF;have hu:=hr.units;have Va:=mv hr;obtain⟨dx,d,pl,la,a,a7,h1,h2,h3,h4,h5,h6⟩:=id hL;have gt:=DGet.k (k:=OK<|(m:Int)+1) h2;rw[yL t j rfl am,On ho]at gt;refine⟨_,(ae (aQ (kU<|lc Va (pv 1) gg) gg ax)
  (ae (B_ 3 ["values"] [NZ]<|aD gg)
  (ae (fk PU rfl (pX rfl T.range gg) (iP (i:=4) sc.nd rfl<|Ux rfl)
   (ae (aQ (kU<|vF Va (pv 4) gg) (ar<|sT 5<|jW ac (pv 0) hr (by lia)<|kT (pv 4)<|b_ cF (pv 3) gg)<|ar<|B_ 5 ["filling","begun","lesser"] [NZ,gV 2,gV 4] (aD<|pv 3) (e:=λS S S S=>(xP (K:=K) (pv 1) gg)))
   (ar (fk PU rfl (vW rfl T.zip (pv 3)<|pv 5) gg
    gg))))
  (cQ<|LN (jW ac (pv 0) hr (by lia)<|kT (pv 1)<|b_ cF (pv 3) gg) gg)))),?_⟩
 refine⟨_,rfl,_,rfl,x,CL,dx,_,_,rfl,h1,T.cl,T.nv,rfl,d,_,rfl,gt,_,rfl,ak ?_⟩;refine⟨_,rfl,x,CL,dx,_,_,rfl,h1,T.cl,T.nl,rfl,la,rfl,⟨_,SqL.of h3⟩,λD nD=>?_⟩;refine bB (K:=K) (a:=la) (xs:=[.ref a]) (NL H D) ⟨NZ,rfl,aa,ad nD _,λS=>rfl,λz=>nomatch z⟩ ?_ ?_ ?_
 ·rintro i M ys H2 S ⟨S,S,Y,Z,S,S⟩;exact⟨Y,SqL.of<|Z _ _ h3⟩
 ·rintro i y M ys H2 hy ⟨v0,rfl,Y,Z,e0,S⟩;obtain rfl:i=0:=by have:=(N4.mp hy).1;simp_all
  obtain rfl:=e0 rfl;refine cg ⟨Oy _,λc o=>?_⟩;have k3:=ad o<|.lst [];have C:c≠D:=λz=>by lia
  exact⟨k3 _ _ Y,ah (by simp),_,rfl,aa,(Z.trans k3).upd_new nD _,(by simp),λS=>⟨c,rfl,C,Z.free o,by rw[af C];exact aa⟩⟩
 rintro M ys H2 ⟨S,S,Y,Z,S,e1⟩;obtain⟨c,rfl,C,o,aL⟩:=e1 rfl;have en:((m:Int)+1-1).toNat=m:=by simp
 refine⟨_,rfl,_,_,rfl,by lia,dq (lo:=1) (n:=((m:Int)+1-1).toNat)
  (Ic x b D c u t j B m H) ⟨NZ,NZ,NZ,NZ,rfl,aL,Y,Z⟩ ?_ ?_⟩
 ·rintro i M H4 hi ⟨v4,v5,v6,v7,rfl,O,U,G⟩;rw[en]at hi;have hit:i<t.length:=Wd hi am
  have as:=DGet.k (k:=OK (1+(i:Int)))<|G _ _ h2;rw[yL t j (R6 _ _) hit]at as;refine c7 (λa0 H'=>∃r p us,a0=[gV<|.ref x,gV<|.int<|(m:Int)+1,gV<|.ref b,gV<|.ref D,gV<|.int (1+(i:Int)),gV<|.ref p,v6,v7]/\Same H H'/\H' c=gV (.lst<|(jJ u t j B i).map V.bl)/\H' D=gV (.lst [.ref c])/\H' p=gV (.lst<|.bl r::us)/\p≠c/\jJ u t j B (i+1)=jJ u t j B i++[r]) (λR hR=>?_) ?_
  ·exists _,rfl,_,rfl,x,CL,dx,_,_,rfl,G _ _ h1,T.cl,T.nv,rfl,d,_,rfl,as,_,rfl;cases go:cr t j i with
   |true=>
    rw[On rfl];refine ap ⟨_,rfl,x,dx,_,rfl,G _ _ h1,rfl,_,rfl,_,rfl,_,rfl,(by show 1<=sizeLine;decide),λW n1=>?_⟩;have I:=ad n1<|.lst [.ref b];refine⟨D,W,_,_,rfl,rfl,I _ _ U,aa,(by show 2<=sizeLine;decide),λL n2=>?_⟩;have l:=I.trans<|ad n2<|.lst ([.ref c]++[.ref b]);have s6:upd (upd H4 W<|.lst [.ref b]) L (.lst ([.ref c]++[.ref b])) L=gV (.lst [.ref c,.ref b]):=aa;generalize upd (upd H4 W<|.lst [.ref b]) L (.lst ([.ref c]++[.ref b]))=H6 at l s6 ⊢;have e:=G.trans l;refine⟨x,L,c,b,u,g,t,j,i,jJ u t j B i,B,dC _ _ _ _ _,_,R6 _ _,rfl,hL.mono e,an,s6,l _ _ O,e _ _ hb,hit,t8,by lia,go,λp H7 v N X=>hR _ _ ⟨_,p,_,rfl,e.trans v,v _ _<|l _ _ O,v _ _<|l _ _ U,X,(λz=>by rw[z,l _ _ O]at N;cases N),by rw[jJ,go,On rfl]⟩⟩
   |false=>
    rw[Oo N6];refine ak ⟨_,rfl,D,rfl,⟨_,SqL.of U⟩,λp N=>?_⟩;have av:B[i]?=gV (B.getD i N8):=by rw[K',N1<|by exact Pf hi a5];rfl
    have ef:jJ u t j B (i+1)=jJ u t j B i++[B.getD i N8]:=by rw[jJ,go,Oo N6]
    generalize B.getD i N8=r at av ef;refine cM [gV<|.ref b,gV<|.int (1+(i:Int))] (λS=>NW) (λS=>.bl r) rfl U N (by simp) (λS S S S S r=>r) (λy hy S H' R k rr=>⟨_,rfl,_,rfl,_,_,rfl,rfl,(fz (k _ _<|G _ _ hb) (by rw[show(1:Int)+(i:Int)-1=(i:Int) by lia];exact aG<|by simp_all) rr)⟩) ?_;have I:=ad N<|.lst<|(([V.ref c].filter λS=>NW).map λS=>.bl r);exact hR _ _ ⟨r,p,[],rfl,G.trans I,I _ _ O,I _ _ U,aa,(by lia),ef⟩
  rintro M H7 ⟨r,p,us,rfl,a1,f5,d5,az,a2,ef⟩;refine⟨_,rfl,_,rfl,D,p,rfl,rfl,⟨_,SqL.of d5⟩,⟨_,SqL.of az⟩,rK (K:=K) (a:=D) (b:=p) (X:=[.ref c]) (Y:=.bl r::us) (n:=1) rfl (QN<|Oy _) (Ie x b D c p (1+(i:Int)) m r (jJ u t j B i) (.bl r::us) H) ⟨_,_,rfl,(by simp_all),d5,a1,az⟩ ?_ ?_ ?_⟩
  ·rintro n M H6 S ⟨S,S,S,S,z2,S,z4⟩;exact⟨SqL.of z2,SqL.of z4⟩
  ·rintro n y z M H6 t1 hy hz ⟨w6,w7,rfl,z1,z2,l,z4⟩ a3;obtain rfl:n=0:=by grind
   cases hy;cases hz;have v:=ad a3<|.tup [.ref c,.bl r];exists t1,_,rfl,SqT.of aa,rfl,_,_,rfl,_,_,rfl,rfl;rw[On rfl,Py]at z1;exists _,rfl,.inl ⟨rfl,_,SqL.of<|v _ _ z1⟩,_,rfl,c,_,_,rfl,rfl,v _ _ z1,(by rw[B',dC];exact ah<|by lia);exact⟨_,_,rfl,(by rw[aa,Oo (by decide),<-jI]),(by rw[af<|P0 C];exact v _ _ z2),(l.trans v).upd_new o _,(by rw[af a2];exact v _ _ z4)⟩
  rintro M H6 ⟨w6,w7,rfl,z1,z2,l,S⟩;rw[Oo (by decide),<-ef]at z1;exact⟨_,_,_,_,rfl,z1,z2,l⟩
 rintro M H4 ⟨v4,v5,v6,v7,rfl,O,U,G⟩;rw[en]at O;refine⟨_,rfl,x,dx,_,rfl,G _ _ h1,rfl,_,rfl,_,rfl,_,rfl,(by show 1<=sizeLine;decide),λW n1=>?_⟩;have I:=ad n1<|.lst [.ref b];refine⟨D,W,_,_,rfl,rfl,I _ _ U,aa,(by show 2<=sizeLine;decide),λL n2=>?_⟩;have l:=I.trans<|ad n2<|.lst ([.ref c]++[.ref b]);have s6:upd (upd H4 W<|.lst [.ref b]) L (.lst ([.ref c]++[.ref b])) L=gV _:=aa;generalize upd _ L _=H6 at l s6 ⊢;have e:=G.trans l;refine⟨x,L,c,b,u,g,t,j,m,jJ u t j B m,B,dC _ _ _ _ _,_,rfl,rfl,hL.mono e,an,s6,l _ _ O,e _ _ hb,am,t8,by lia,ho,λp H7 v N X=>⟨1,rfl,(fz X rfl<|q H7<|e.trans v)⟩⟩
end
noncomputable abbrev NM:Pn:=b9 32
inductive Ee (C CL:J')(vs:ab V)(H:Hp)(Q:VK)(E:XK):Prop
 |mk (p x b:J')(t:Str)(w:V)(hw:N')(e:u8)(B:ab N')(h0:vs=[.ref p,.str<|ao hw,.ref x,.ref b])(a:H p=gV (.tup [.str t,w]))(c:t.length<=8)(d:PAl C CL H x e t hw)(f:H b=gV (.lst<|B.map V.bl))(g:B.length<=t.length)(i:Fol e t hw B)
  (q:∀(l:J') (h:Hp) (bs:ab N'),Same H h->H l=NZ->h l=gV (.lst<|bs.map V.bl)->Fol e t hw bs->B.length<=bs.length->bs.length<=t.length->(bs.length<t.length->cr t hw bs.length=N8)->Q (.ref l) h):Ee C CL vs H Q E
section
variable {CL:J'}
inductive Ef (p x b l:J')(t:Str)(hw:N')(e:u8)(B:ab N')(H:Hp)(m:Nat)(a:St)(h:Hp):Prop
 |mk (X:ab N')(i:a=[gV<|.ref p,gV<|.str<|ao hw,gV<|.ref x,gV<|.ref b,gV<|.ref l])(I:h l=gV (.lst<|X.map V.bl))(c:X.length+m=t.length)(d:Fol e t hw X)(f:B.length<=X.length)(g:Same H h)
theorem Mm{D:J'}{I:Ol}(F:Fun K "played_on" "played_on" NM f J)(T:Bl M)(ZJ:Fe P w K M B 1 "hand_of" lH)
  (L:tp P w K M B a_ 5 CL "answer" D I ["self","variable","begun"] (sO N CL)):ay P w K M B a_ 6 f J ["sentence","hand","player","begun"] (Ee N CL):=by
 refine F.okB (N:=["sentence","hand","player","begun","filling"]) λQC A o s H vs Q E sc hr h=>?_;obtain⟨p,x,b,t,w,d,e,a,rfl,O,U,W,Y,Z,hF,q⟩:=h;refine⟨_,(ae gg
  (ae (jM PU gg
   gg)
  (cQ<|pv 4))),?_⟩
 refine⟨_,rfl,b,_,rfl,.inl<|SqL.of Y,λl n=>?_⟩;have j:=ad n<|.lst<|a.map V.bl;have r:=@aa H l (.lst<|a.map V.bl);generalize upd H l (.lst<|a.map V.bl)=H1 at j r ⊢;exists Ef p x b l t d e a H,⟨t.length-a.length,a,rfl,r,by simp_all,hF,N9 _,j⟩;rintro m σ u ⟨X,rfl,g,g2,G,v,k⟩;have i:=k _ _ O;have ac:p≠l:=(by lia);refine⟨_,rfl,.ref l,_,rfl,.inl ⟨_,SqL.of g,rfl⟩,_,rfl,(aS i rfl ⟨.str t,_,rfl,⟨OW (ah<|by lia),rfl⟩,_,_,rfl,rfl,_,rfl,?_⟩)⟩;rw[B'];cases m with
 |zero=>
  rw[N7 (by lia:¬(X.length:Int)<(t.length:Int))];exact ak<|ak ⟨_,rfl,q l u X k n g G v (Tw g2) λz=>by simp_all⟩
 |succ m=>
  rw[N3 (by lia:(X.length:Int)<(t.length))];have y:X.length<t.length:=by lia
  refine⟨_,rfl,_,rfl,.ref l,_,rfl,.inl ⟨_,SqL.of g,rfl⟩,_,_,rfl,rfl,p,t,w,X.length,?_,i,y,by lia,_,rfl,.inl ⟨rfl,_,rfl,?_⟩⟩
  ·rw[B'];rfl
  rw[eV,GC];cases go:cr t d _ with
  |true=>
   have c:=W.mono k;obtain⟨dx,fs,x1,xl⟩:=c.ins;refine ap ⟨Ef p x b l t d e a H m,λam H' z=>⟨m,Ua _,z⟩,⟨_,rfl,.inl ⟨rfl,_,SqL.of g⟩,_,rfl,x,dx,_,rfl,x1,xl,_,rfl,.ref l,_,rfl,.inl ⟨_,SqL.of g,rfl⟩,_,_,rfl,rfl,_,rfl,x,l,e,t,d,X,X.length,(by rw[B'];rfl),c,g,y,N9 _,OW (Pf y U),U,go,λH5 C=>⟨l,_,_,rfl,rfl,C _ _ g,?_,?_⟩⟩⟩
   ·rw[B'];exact ah (by lia)
   refine⟨X++[e _ X],rfl,?_,?_,G.snoc λS=>rfl,?_,(k.trans C).upd_new n _⟩
   ·rw[aa,<-jI]
   ·rw[N0];show X.length+1+m=t.length
    lia
   ·rw[N0];exact aaa v
  |false=>exact ak ⟨_,rfl,q l u X k n g G v (OW y) λS=>go⟩
end
noncomputable abbrev yM:Pn:=b9 33
structure Eg (P:Om)(w:OI)(K:C')(mg:Str->M' NX)(base:Pd)(lf:J')(bad:ab N'->N')(n:Nat)(C:Hp->Prop):Prop where
 mono:∀H H',Same H H'->C H->C H'
 obj:∀H,C H->∃o fd,H lf=gV (dE lf o)/\o.data=.func fd
 fn:JK P w K mg base 4 lf (λvs H Q _=>∃(l:J') (bs:ab N'),vs=[.ref l]/\C H/\H l=gV (.lst<|bs.map V.bl)/\bs.length=n/\∀H',Same H H'->Q (.bl<|bad bs) H')
inductive wW (P:Om)(w:OI)(K:C')(mg:Str->M' NX)(base:Pd)(c CL:J')(fu:Nat)(vs:ab V)(H:Hp)(Q:VK)(E:XK):Prop
 |mk (p x lf b o:J')(t:Str)(W:V)(hw:N')(e:u8)(B:ab N'->N')(C:Hp->Prop)(g:ab N')(O:ab V)(h0:vs=[.ref p,.str<|ao hw,.ref x,.ref lf,.ref b,.ref o])(a:H p=gV (.tup [.str t,W]))(t8:t.length<=8)(pl:PAl c CL H x e t hw)
  (L:Eg P w K mg base lf B t.length C) (d:C H) (f:H b=gV (.lst<|g.map V.bl)) (i:H o=gV (.lst O)) (j:g.length+fu=t.length) (k:O.length<=g.length) (l:Fol e t hw g) (m:∀bs,bs.length=t.length->Fol e t hw bs->B bs=N8)
  (q:∀h:Hp,Same H h->Q .non h):wW P w K mg base c CL fu vs H Q E
def nc(P:Om)(w:OI)(K:C')(m:Str->M' NX)(b:Pd)(C CL:J')(n:Nat):Sp:=λv H Q E=>∃g,g<n/\wW P w K m b C CL g v H Q E
section
variable {CL:J'}
inductive Ih (p x lf b o l:J')(hw:N')(H:Hp)(j:Nat)(a:St)(h:Hp):Prop
 |mk (v:M' V)(c:M' V)(i:a=[gV<|.ref p,gV<|.str<|ao hw,gV<|.ref x,gV<|.ref lf,gV<|.ref b,gV<|.ref o,gV<|.ref l,v,c])(I:Same H h)
theorem wX{u:Nat}(F:Fun K "first_loss" "first_loss" yM f fd)(T:Bl m)(US:Fe P w K m e 6 "played_on" (Ee CP CL))
  (WE:Fe P w K m e (u+6) "first_loss" (nc P w K m e CP CL u)):ay P w K m e a_ (u+7) f fd ["sentence","hand","player","loses","begun","others"] (wW P w K m e CP CL u):=by
 refine F.okB (N:=["sentence","hand","player","loses","begun","others","filling","value","found"]) λQC A U s H vs Q E sc hr h=>?_;obtain⟨p,x,W,b,o,t,wv,X,es,Y,C,G,O,rfl,Z,t8,VM,L,hC,hb,ho,P1,am,hF,hW,q⟩:=h;refine⟨_,(ae gg
  (ae (aQ gg (cQ<|nz (gR<|B0 (k:=4) (i:=3) (hr.mono<|by simp)<|fC<|pv 6) (pv 5) fE) ax)
  (ae (fS 7 (bA gg) (ae (sT 8<|B4 WE hr<|aV (pv 0)<|aV (pv 1)<|aV (pv 2)<|aV (pv 3)<|kT (b_ cF (pv 6) gg)<|b_ cF (pv 5) gg)
   gg))
  (cQ fE)))),?_⟩
 refine⟨_,rfl,_,rfl,_,rfl,_,rfl,p,x,b,t,wv,X,es,G,rfl,Z,t8,VM,hb,by lia,hF,λl H1 c i nl hl n Yb V0 Wn=>?_⟩;have g1:=i _ _ Z;refine⟨_,rfl,.ref l,_,rfl,.inl ⟨_,SqL.of hl,rfl⟩,_,rfl,(aS g1 rfl ⟨.str t,_,rfl,⟨OW (ah<|by lia),rfl⟩,.inl ⟨rfl,_,rfl,?_⟩⟩)⟩;rw[B'];by_cases I:c.length=t.length
 ·rw[N3 (show V.int (c.length:Nat)=V.int (t.length:Nat) by rw[I])];obtain⟨ob,ac,e1,e2⟩:=L.obj H1<|L.mono _ _ i hC;refine ap ⟨W,rfl,_,rfl,_,ob,ac,L.fn,e1,e2,l,c,rfl,L.mono _ _ i hC,hl,I,λH2 r=>⟨_,rfl,?_⟩⟩;rw[hW c I n];exact ak<|q H2<|i.trans r
 rw[N7 (show¬V.int (c.length:Nat)=V.int (t.length:Nat)from λz=>I (by have:=V.int.inj z;lia))];have eg:c.length+1+(G.length+u-c.length-1)=t.length:=by lia
 have ge:G.length+u-c.length-1<u:=by lia
 generalize G.length+u-c.length-1=g at eg ge;refine ak ⟨(by show 2<=sizeLine;decide),λa na=>?_⟩;have r:=ad na<|.tup [.bl N8,.bl NW];have s2:=@aa H1 a (.tup [.bl N8,.bl NW]);generalize upd H1 a (.tup [.bl N8,.bl NW])=H2 at r s2 ⊢;have Xb:=i.trans r;refine⟨a,rfl,⟨_,SqT.of s2⟩,fq (K:=K) (a:=a) (X:=[.bl N8,.bl NW]) (Ih p x W b o l X H2) ⟨NZ,NZ,rfl,Same.refl _⟩ ?_ ?_ ?_⟩
 ·rintro j σ v S ⟨S,S,S,k⟩;exact SqT.of<|k _ _ s2
 ·rintro j y σ v hy ⟨v7,v8,rfl,k⟩;have D:=Xb.trans k;obtain⟨B,S,rfl⟩:=OH.mp (show y∈[N8,NW].map _ from N5 hy);refine⟨_,rfl,_,rfl,_,rfl,_,rfl,_,rfl,_,rfl,(by show 1<=sizeLine;decide),λl1 n1=>?_⟩;have k4:=ad n1<|.lst [.bl B];refine⟨l,l1,_,_,rfl,rfl,k4 _ _<|k _ _<|r _ _ hl,aa,?_,λJ n2=>?_⟩
  ·rw[B'];exact OW<|ah (by show c.length+1<=1000;lia)
  have M:=k4.trans<|ad n2<|.lst<|c.map V.bl++[.bl B];have s5:upd (upd v l1<|.lst [.bl B]) J (.lst<|c.map V.bl++[.bl B]) J=gV (.lst<|(c++[B]).map V.bl):=by rw[aa,jI]
  generalize upd (upd v l1<|.lst _) J (.lst<|c.map _++[.bl B])=H5 at M s5 ⊢;refine⟨_,rfl,_,rfl,(by show 1<=sizeLine;decide),λl3 n3=>?_⟩;have k6:=ad n3<|.lst [.bl B];refine⟨o,l3,_,_,rfl,rfl,k6 _ _<|M _ _<|D _ _ ho,aa,OW<|ah (by show O.length+1<=1000;lia),λl4 n4=>?_⟩;have N:=k6.trans<|ad n4<|.lst<|O++[.bl B];have s7:=@aa (upd H5 l3<|.lst [.bl B]) l4 (.lst<|O++[.bl B]);generalize upd _ l4 _=H7 at N s7 ⊢;have d:=D.trans<|M.trans N;exact⟨g,ge,p,x,W,J,l4,t,wv,X,es,Y,C,c++[B],O++[.bl B],rfl,d _ _ Z,t8,VM.mono d,L,L.mono _ _ d hC,N _ _ s5,s7,(by rwa[N0]),(by rw[N0,N0];show O.length+1<=c.length+1;grind),n.snoc (by lia),hW,λH' k'=>⟨_,rfl,rfl,_,rfl,MB rfl ⟨_,_,rfl,k.trans<|M.trans<|N.trans k'⟩⟩⟩
 rintro σ v ⟨v7,v8,rfl,k⟩;exact q v<|Xb.trans k
theorem yN(F:Fun K "first_loss" "first_loss" yM f d)(T:Bl m)(U:Fe P w K m B 6 "played_on" (Ee y CL))
  (b:Binds K d ["sentence","hand","player","loses","begun","others"] []) (k:P_ K (.ref f)=NW) (c:m "first_loss"=gV (.ref f)):∀u,ay P w K m B a_ (u+6) f d ["sentence","hand","player","loses","begun","others"]<|nc P w K m B y CL u
 |0=>⟨λZ Z Z Z h=>by obtain⟨Z,z,Z⟩:=h;simp_all,λZ Z Z Z Z Z Z Z Z Z Z Z Z h=>by obtain⟨Z,z,Z⟩:=h;lia⟩
 |u+1=>by
  have i:=yN F T U b k c u;have st:=wX F T U ⟨_,_,_,i,b,k,c⟩;refine⟨λv H Q E h=>?_,λA O s H a j v Q E r l n q h=>?_⟩
  ·obtain⟨g,Z,p,x,L,b,o,t,W,G,I,D,C,J,M,rfl,Z⟩:=h;rfl
  obtain⟨g,N,h⟩:=h;by_cases e:g=u
  ·subst e;exact st.run A O s H a j v Q E r l n q h
  exact i.run A O s H a j v Q E (r.mono<|by simp) l n q ⟨g,by lia,h⟩
theorem GF(F:Fun K "first_loss" "first_loss" yM f d)(T:Bl m)(U:Fe P w K m B 6 "played_on" (Ee C CL))
  (b:Binds K d ["sentence","hand","player","loses","begun","others"] []) (k:P_ K (.ref f)=NW) (a:m "first_loss"=gV (.ref f)):ay P w K m B a_ 15 f d ["sentence","hand","player","loses","begun","others"] (nc P w K m B C CL 9):=yN F T U b k a 9
end
noncomputable abbrev sP:Pn:=b9 34
noncomputable abbrev gE:Px:=Np (No<|cX sP) 3
noncomputable abbrev sQ:Str:=("losing_play":Str)++".<locals>."++"<lambda>"
noncomputable def Kp(C:ab (ab Int))(h:N')(b:ab N'):N':=(C.all λc=>c.any<|hit b) != h
structure LoseIn (CP CL:J')(H:Hp)(p x:J')(t:Str)(cs:ab (ab Int))(hw:N')(es:u8):Prop where
 rd:RD H (jS t cs) (.ref p)
 t8:t.length<=8
 pl:PAl CP CL H x es t hw
 sm:ug cs
 pos:∀c∈cs,∀l∈c,1<=absI l
theorem LoseIn.mono{CL:J'}(h:LoseIn C CL H p x t c w e)(k:Same H a):LoseIn C CL a p x t c w e:=⟨dw k _ _ h.rd,h.t8,h.pl.mono k,h.sm,h.pos⟩
abbrev wY(H:Hp)(T:J'):Prop:=TabAt H T (Nq gE) sQ
theorem LoseIn.off{C CL p x T:J'}{H a:Hp}{t:Str}{c:ab (ab Int)}{w:N'}{e:u8}{P:Pos}{q:Str}(h:LoseIn C CL H p x t c w e)(k:Off T H a)(b:TabAt H T P q):LoseIn C CL a p x t c w e:=⟨B2 h.rd k b,h.t8,h.pl.off k b,h.sm,h.pos⟩
inductive sR (C CL:J')(T:J')(vs:ab V)(H:Hp)(Q:VK)(E:XK):Prop
 |mk (p x:J')(t:Str)(c:ab (ab Int))(hw:N')(e:u8)(h0:vs=[.ref p,.str<|ao hw,.ref x])(a:LoseIn C CL H p x t c hw e)(b:wY H T)(d:∀bs,bs.length=t.length->Fol e t hw bs->bE c bs=hw)(q:∀h:Hp,Off T H h->wY h T->Q .non h)
section
variable {CL:J'}
theorem yO:dk ["sentence","hand","player"] ["sentence","hand","player"] (aJ sP):=ET
theorem GG:uB "filling" ["sentence","hand"] (JP gE):=⟨rfl,rfl,rfl,rfl,RH.mpr ⟨rfl,RH.mpr ⟨rfl,UC _⟩⟩,by decide+kernel,by decide+kernel,by decide+kernel⟩
theorem AC{L p:J'}{n q:Obj}{g:N'}(v:Bl M)(W:Fe P w K M B 3 "comes_true" sK)(J:t.length<=8)(m:ug C)(x:∀c∈C,∀l∈c,1<=absI l)(N:d≠f):
  Eg P w K M B L (Kp C g) t.length (λH=>LamAt H L sQ (JN gE) (JO gE) (JP gE) [("sentence",d),("hand",f)]/\CapAt H [(d,n),(f,q)] [.ref p,.str<|ao g]/\RD H (jS t C) (.ref p)):=by
 refine⟨λH U k h=>⟨h.1.mono λb o z=>k _ _ z,h.2.1.mono λb o z=>k _ _ z,dw k _ _ h.2.2⟩,λH h=>?_,?_⟩
 ·obtain⟨X,y,c,e,V⟩:=h.1;exact⟨_,_,e,rfl⟩
 refine FO (G:=sQ) (M:=JN gE) (U:=JO gE) GG (λV V V V V=>rfl) λY H Q E h=>?_;obtain⟨l,D,rfl,⟨i,a,j⟩,F,Z,G⟩:=h;refine⟨.ref l,[(d,n),(f,q)],[.ref p,.str<|ao g],rfl,i,a,rfl,?_,λc A O s r=>?_⟩
 ·simp_all
 have u:=r.units;have T:=v;exists _,(B5 (ro u) (B4 W r<|kT (pv 1)<|pv 0)<|B5 (dN u) (pv 2)<|ci rfl T.g_WISHER);refine⟨_,rfl,_,rfl,.ref p,l,t,C,D,rfl,FP j a,a.less F (λV z=>nomatch z),by lia,m,x,λH1 I=>⟨_,rfl,.inl ⟨rfl,.inl ⟨rfl,?_⟩⟩⟩⟩;rw[DY,jl];exact G _<|zH a.look I
theorem Eh{f2:J'}{I:Ol}(F:FunL K "losing_play" "losing_play" sP f fd c)(L:rE m B c T)(TH:Bl m)(WH:Fn P w K m B 3 "comes_true" f1 d1 ["sentence","filling"] sK)
  (WE:Fn P w K m B 15 "first_loss" f2 I ["sentence","hand","player","loses","begun","others"] (nc P w K m B CP CL 9)):ay P w K m B a_ 16 f fd ["sentence","hand","player"] (sR CP CL T):=by
 refine F.ok yO (λvs H Q E h=>?_) λA J s H vs Q E hr h=>?_
 ·obtain⟨p,x,t,M,e,es,rfl,_⟩:=h;rfl
 obtain⟨p,x,t,M,e,es,rfl,U,n,hW,q⟩:=h;refine⟨_,(cQ<|JM ["sentence","hand"] WE hr (by lia) rfl (λ_=>rfl) (RH.mpr ⟨rfl,RH.mpr ⟨rfl,UC _⟩⟩)<|aV (pv 0)<|aV (pv 1)<|aV (pv 2)<|aV (JJ L rfl) gg),?_⟩;refine⟨_,rfl,_,rfl,_,rfl,n,λlf r as u v C=>⟨Oy _,λb nb=>⟨Oy _,λo no=>?_⟩⟩⟩;have k2:=ad nb<|.lst [];have N:=no;have sb:upd _ o (.lst []) b=gV _:=ad N _ _ _ aa;have G:=k2.trans<|ad N<|.lst [];have so:=@aa (upd r b<|.lst []) o (.lst []);refine⟨?_,λce W X=>?_⟩
 ·intro y D;obtain rfl|D:=Oz.mp D
  ·exact⟨0,_,rfl,rfl⟩
  obtain rfl|D:=Oz.mp D
  ·exact⟨1,_,rfl,rfl⟩
  exact absurd D (by simp)
 cases W with
 |cons c1 r1=>
 cases r1 with
 |cons c2 r2=>
 cases r2;rename_i q1 q2;obtain⟨a,O⟩:=q1;obtain⟨d,l⟩:=q2;obtain⟨e1,u1,d1,v1⟩:=c1;obtain⟨e2,u2,I,v2⟩:=c2;have z1:=v1 0 _ rfl rfl;have z2:=v2 1 _ rfl rfl;have g:gV _=gV a:=e1;have j:gV _=gV d:=e2;have ne:a≠d:=λz=>by
  have i:=(OA g).trans<|z.trans (OA j).symm;exact absurd i<|OL<|Ua _
 have Y:LamAt r lf sQ (JN gE) (JO gE) (JP gE) [("sentence",a),("hand",d)]:=by
  rwa[<-OA g,<-OA j]
 clear e1 e2 g j C v1 v2;generalize upd _ o _=Z at sb G so X;have ac:RZ a [(a,O),(d,l)]=gV O:=by simp
 have am:RZ d [(a,O),(d,l)]=gV l:=by
  have hb:(d == a)=false:=by simpa using P0 ne
  rw[Q2,hb];simp
 have kp:=zG X;have k4:=G.trans kp;have an:CapAt (ja Z _) _ _:=.cons ⟨gZ ac,u1,d1,z1⟩<|.cons ⟨gZ am,u2,I,z2⟩ .nil;have k:=LoseIn.mono (LoseIn.off U u n) k4;obtain⟨pp,qa,zs,ep,p1,p2,p3⟩:=fH k.rd;cases ep;refine⟨t.length,YA U.t8,p,x,lf,b,o,t,_,e,es,Kp M e,_,[],[],rfl,p1,U.t8,k.pl,AC TH ⟨_,_,_,WH⟩ U.t8 U.sm U.pos ne,⟨Y.mono λb o z=>k4 _ _ z,an,k.rd⟩,kp _ _ sb,kp _ _ so,(by show 0+t.length=t.length;lia),N9 _,(λi z=>absurd z<|Zn _),λbs hl hF=>?_,λH' k'=>?_⟩
 ·unfold Kp;rw[show(M.all _)=e from hW bs hl hF];cases e<;>rfl
 have ko:=BV X k';exact q _ (u.same<|G.trans ko)<|v.mono<|G.trans ko
end
noncomputable abbrev Mn:Pn:=b9 83
noncomputable abbrev Ei:Pn:=b9 85
noncomputable abbrev Ej:Pn:=b9 86
noncomputable abbrev Ek:Pn:=b9 87
inductive ji (vs:ab V)(H:Hp)(Q:VK)(E:XK):Prop
 |mk (t:Str)(hw:N')(l:Int)(h0:vs=[.str t,.str<|ao hw,.int l])(h:1<=absI l)(a:absI l<=t.length)(b:t.length<=900)(c:Q (.bl<|cP t (absI l-1).toNat == hw) H)
inductive ng (vs:ab V)(H:Hp)(Q:VK)(E:XK):Prop
 |mk (q:J')(t:Str)(hw:N')(c:ab Int)(h0:vs=[.str t,.str<|ao hw,.ref q])(a:t.length<=30)(b:jg H q c)(d:au t.length c)(e:∀(l:J') (h:Hp),Same H h->jg h l (aq t hw c)->Q (.ref l) h)
inductive sS (vs:ab V)(H:Hp)(Q:VK)(E:XK):Prop
 |mk (a:J')(v:V)(d:Og)(ys:ab V)(h0:vs=[.ref a,v])(h:H a=gV (.lst ys))(b:ys.length<=900)(c:RD H d v)(e:Q (.bl (aH ys.length d).isSome) H)
theorem Kq(F:Fun K "_law_own" "_law_own" Mn f g)(T:Bl m):ay P w K m B a_ 1 f g ["_law_turns","_law_hand","_law_literal"] ji:=by
 refine F.okB (N:=["_law_turns","_law_hand","_law_literal"]) λC A o s H v Q E i r h=>?_;obtain⟨t,b,l,rfl,L,j,k,q⟩:=h;exists _,gg;have W:(absI l-1).toNat<t.cps.toList.length:=by
  show _<t.length
  omega
 obtain⟨c,a⟩:∃c,t.cps.toList[(absI l-1).toNat]?=gV c:=⟨_,N1 W⟩;have d:kZ t.cps.toList (absI l-1)=gV c:=by
  have e:absI l-1=(((absI l-1).toNat)):=by lia
  rw[e];exact aG a
 refine⟨_,rfl,_,rfl,l,rfl,_,_,rfl,rfl,.inr<|.inr ⟨t,_,_,rfl,rfl,OW (ah<|by lia),d,.inl ⟨rfl,_,rfl,.inl ⟨rfl,.inl ⟨rfl,?_⟩⟩⟩⟩⟩;rw[Hn,<-BE a,Lz];have e:decide (V.bl (cP t (absI l-1).toNat)=V.bl b)=(cP t (absI l-1).toNat == b):=by
  cases cP t _<;>cases b<;>rfl
 rwa[e]
theorem Kr:dk ["_law_thing"] ["_law_thing"] (aJ Ej):=ET
theorem GH(F:Fun K "_law_number" "_law_number" Ej f c)(T:Bl m):ay P w K m b a_ 1 f c ["_law_thing"] h_:=by
 refine F.okA Kr λC A o s H e Q E r h=>?_;obtain⟨v,d,rfl,a,q⟩:=h;have n:=fA a;exists _,gg;exists _,rfl,v,_,"int",_,rfl,jQ d v a,rq d n,_,rfl;cases I:jr d with
 |false=>
  rwa[I]at q
 |true=>
  rw[I]at q;exact ap ⟨_,rfl,v,_,"bool",_,rfl,jQ d v a,nV d n,_,rfl,q⟩
theorem El(F:Fun K "_law_dropped" "_law_dropped" Ei f fd)(T:Bl U)(Tb:Fe P w K U B 1 "_law_own" ji):ay P w K U B a_ 2 f fd ["_law_turns","_law_hand","_law_literals"] ng:=by
 refine F.okB (N:=["_law_turns","_law_hand","_law_literals","_law_last"]) λQC A O s H vs Q E sc hr h=>?_;obtain⟨q,t,b,c,rfl,h9,j,g,q'⟩:=h;have TQ:=bv g;refine⟨_,(ae (sT 3<|aN (zC rfl) rfl T.max Wu<|fC<|b_ cF gg<|fW ["_law_literal","_law_turns","_law_hand"] [NZ,gV 0,gV 1]<|bA<|pv 2)
  (cQ<|aW bK rfl T.tuple Pr<|fC<|fW ["_law_literal","_law_last"] [NZ,gV 3]<|bA<|pv 2)),?_⟩
 refine⟨(by show 1<=sizeLine;decide),λL u=>?_⟩;have o:=ad u<|.lst [.int 0];have W:=@aa H L (.lst [.int 0]);generalize upd H L (.lst [.int 0])=X at o W;refine⟨_,rfl,q,rfl,⟨_,SqT.of<|o _ _ j⟩,λD Y=>?_⟩;refine aY [gV<|.str t,gV<|.str<|ao b] (ue λl=>!(cP t (absI l-1).toNat == b)) (ES λz=>.int<|absI z) rfl (o _ _ j) Y (by rw[B'];lia) ?_ ?_ ?_
 ·intro x d v R k r;obtain⟨z,hz,rfl⟩:=bo d;have:=g.2 z hz;exact⟨_,rfl,_,rfl,_,rfl,t,b,z,rfl,this.1,this.2,by lia,_,rfl,r⟩
 ·intro x d S v R k r;obtain⟨z,S,rfl⟩:=bo d;exact⟨_,rfl,z,rfl,r⟩
 have e:((c.map V.int).filter<|ue λl=>!(cP t (absI l-1).toNat == b)).map (ES λz=>.int<|absI z)=((c.filter λl=>!(cP t (absI l-1).toNat == b)).map absI).map V.int:=by
  rw[oI,OZ];rfl
 rw[e];have ac:=O0 (λl=>!(cP t (absI l-1).toNat == b)) c;have n:∀a∈(c.filter λl=>!(cP t (absI l-1).toNat == b)).map absI,0<=a:=λa y=>by
  obtain⟨z,S,rfl⟩:=OH.mp y;exact xY z
 have Z:eZ t b c=((c.filter λl=>!(cP t (absI l-1).toNat == b)).map absI).foldl max 0:=rfl;have C:((c.filter λl=>!(cP t (absI l-1).toNat == b)).map absI).length<=30:=by
  rw[B'];exact O8 ac (O8 TQ h9)
 generalize (c.filter λl=>!(cP t (absI l-1).toNat == b)).map absI=m at n Z C;have G:=ad Y<|.lst<|m.map V.int;have r2:=@aa X D (.lst<|m.map V.int);generalize upd X D (.lst<|m.map V.int)=H2 at G r2;refine⟨L,D,_,_,rfl,rfl,G _ _ W,r2,(by rw[B',OM];exact OW<|ah<|by lia),λp I=>?_⟩;have k3:=ad I<|.lst ([V.int 0]++m.map V.int);have r3:upd H2 p (.lst ([V.int 0]++m.map V.int)) p=gV (.lst<|(0::m).map V.int):=aa;generalize upd H2 p (.lst ([V.int 0]++m.map V.int))=H3 at k3 r3;refine⟨p,0::m,rfl,SqL.of r3,(by simp),λM m1 m2=>?_⟩;have eM:eZ t b c=M:=by
  rw[Z];refine BP n ?_ (λa y=>m2 a<|Ow _ y)<|m2 0 Ou;grind
 rw[<-eM];have J:=o.trans<|G.trans k3;refine⟨_,rfl,q,rfl,⟨_,SqT.of<|J _ _ j⟩,λD2 ZG=>aY [gV<|.int<|eZ t b c] (ue λl=>decide (absI l<=eZ t b c)) (λx=>x) rfl (J _ _ j) ZG (by rw[B'];lia) ?_ ?_ ?_⟩
 ·intro x d v R k r;obtain⟨z,S,rfl⟩:=bo d;exact⟨_,rfl,z,rfl,_,rfl,_,_,rfl,rfl,_,rfl,r⟩
 ·intro x d S v R k r;exact⟨_,rfl,r⟩
 rw[cB c _ _ λi=>rfl];exact⟨D2,_,rfl,.inl ⟨SqL.of aa,λL3 N=>q' L3 _ ((J.trans<|ad ZG _).trans<|ad N _) aa⟩⟩
theorem Em(F:Fun K "_law_ahead" "_law_ahead" Ek f k)(T:Bl m)(Y:Fe P w K m B 1 "_law_number" h_):ay P w K m B a_ 2 f k ["_law_sets","_law_thing"] sS:=by
 refine F.okB (N:=["_law_sets","_law_thing"]) λC A o s H p Q E r t h=>?_;obtain⟨a,v,d,y,rfl,l,u,j,q⟩:=h;exists _,gg;exists _,rfl,v,d,rfl,j,_,rfl;obtain⟨z,rfl⟩|n:=iu d
 ·obtain rfl:=aw j;have b:Q (.bl (if 0<=z/\z<(y.length)then gV _ else NZ).isSome) H:=q;exists _,rfl,_,_,rfl,rfl,_,rfl;by_cases g:0<=z
  ·rw[N3 g];refine ap ⟨_,rfl,_,rfl,.ref a,_,rfl,.inl ⟨_,SqL.of l,rfl⟩,_,_,rfl,rfl,?_⟩;by_cases i:z<(y.length)
   ·simp_all
   rw[Oo λc=>i c.2]at b;show Q (.bl _) H
   rwa[N7 i]
  rw[Oo λc=>g c.1]at b;rwa[N7 g]
 rw[gY n];have e:aH y.length d=none:=by
  cases d with
  |int z=>lia
  |_=>rfl
 rwa[e]at q
noncomputable abbrev En:Pn:=b9 88
inductive Ii (Q:St)(h:Hp)(D:J')(i:Nat)(a:St)(ys:ab V)(H:Hp):Prop
 |mk (v:M' V)(h0:a=v::Q)(b:ys.length<=i)(c:H D=gV (.lst ys))(d:Same h H)
theorem qW{K:C'}{t:TT}{T:TE}{Q:VK}(q:St)(E:g=NZ::q)(r:d a=gV (.lst X))(j:d D=NZ)(P:X.length<=900)
  (s:∀x∈X,∀H R,Same d H->(∀b h,Same H h->R b h)->t (gV x::q) H R)
  (u:∀x∈X,∀H R,Same d H->(∀v h,Same H h->R v h)->T (gV x::q) H R)
  (w:∀y H,Same d H->H D=gV (.lst y)->y.length<=X.length->Q (.ref D) H):gb (AM K a) D (dF 0) t T g d Q:=by
 refine bB (xs:=X) (Ii q d D) ⟨NZ,E,N9 _,aa,ad j _⟩ ?_ ?_ ?_
 ·rintro i l y f Z ⟨Z,Z,Z,e,c⟩;exact⟨e,SqL.of<|c _ _ r⟩
 ·rintro i x l y f m ⟨A,rfl,n,e,c⟩;have o:=N5 m;have W:=(N4.mp m).1;refine s x o f _ c λb z k=>?_;cases b with
  |true=>exact ap<|u x o z _ (c.trans k) λv B p=>⟨p _ _<|k _ _ e,ah (by lia),_,rfl,by simp_all,aa,(c.trans<|k.trans p).upd_new j _⟩
  |false=>exact ak ⟨_,rfl,by lia,k _ _ e,c.trans k⟩
 rintro l y f ⟨Z,Z,n,e,c⟩;exact w y f c e n
inductive sU (vs:ab V)(H:Hp)(Q:VK)(E:XK):Prop
 |mk (q:J')(z:Int)(xs:ab V)(C:ab (ab Int))(h0:vs=[.ref q,.int z])(a:H q=gV (.lst xs))(b:CLs H C xs)(d:C.length<=400)(e:∀c∈C,c.length<=60)(f:∀(l:J') (h:Hp),Same H h->Q (.ref l) h)
theorem Eo(F:Fun K "_law_stand" "_law_stand" En f u)(T:Bl M):ay P w K M B a_ 1 f u ["_law_clauses","_law_literal"] sU:=by
 refine F.okB (N:=["_law_clauses","_law_literal","_law_rest"]) λQC A o s H vs Q E sc hr h=>?_;obtain⟨q,z,v,cs,rfl,l,b,hn,G,I⟩:=h;have P1:=b.length;have C:∀x∈v,∃t c,x=.ref t/\jg H t c/\c.length<=60:=λx a=>by
  obtain⟨i,J⟩:=Pm.mp a;obtain⟨c,Z,t,e,h⟩:=b.get J;exact⟨t,c,e,h,G c<|N5 Z⟩
 refine⟨_,(ae (B_ 2 ["_law_clause","_law_literal"] [NZ,gV 1] (aD<|pv 0) (t:=λV V V V=>(bM<|cV (dJ rfl) (pv 1) (pv 0)<|by rfl)))
  (cQ<|fW ["_law_clause","_law_literal"] [NZ,gV 1] (aD<|pv 2) (e:=λV V V V=>(aW (fJ rfl) rfl T.tuple Pr<|fC<|fW ["_law_one","_law_literal"] [NZ,gV 1]<|xB rfl<|pv 0)))),?_⟩
 refine⟨_,rfl,q,rfl,⟨_,SqL.of l⟩,λD L=>fN [gV<|.int z] (λV=>True) rfl l L (by lia) (λx a d R k r=>?_) λys H1 m n l1 N=>?_⟩
 ·obtain⟨t,c,rfl,j,V⟩:=C x a;exact⟨_,rfl,_,rfl,t,_,rfl,.inr<|SqT.of<|k _ _ j,rfl,bd c,_,rfl,r _ _ (Same.refl _) λV=>trivial⟩
 refine⟨_,rfl,D,rfl,⟨_,SqL.of n⟩,λO U=>qW [gV<|.int z] rfl n U (by lia) (λx a d R k r=>r NW d<|Same.refl _) (λx a d R k r=>?_) λY W k2 V V=>I O W<|m.trans k2⟩;obtain⟨t,c,rfl,j,TQ⟩:=C x (N x a).1;have X:=k _ _<|m _ _ j;refine⟨_,rfl,t,rfl,⟨_,SqT.of X⟩,λD3 g=>aY [gV<|.int z] (λx=>!decide (x=.int (0-z))) id rfl X g (by rw[B'];lia) (λx a d R k r=>?_) (λx a V d R k r=>⟨_,rfl,r⟩) ?_⟩
 ·obtain⟨y,V,rfl⟩:=bo a;exact⟨_,rfl,_,rfl,_,_,rfl,rfl,.inl ⟨rfl,_,rfl,r⟩⟩
 exact⟨D3,_,rfl,.inl ⟨SqL.of aa,λp hp=>r _ _<|(ad g _).trans<|ad hp _⟩⟩
noncomputable abbrev Er:Pn:=b9 89
inductive sV (vs:ab V)(H:Hp)(Q:VK)(E:XK):Prop
 |mk (q:J')(t:Str)(z:Int)(xs:ab V)(c:ab (ab Int))(h0:vs=[.str t,.ref q,.int z])(a:ClsAt H q t xs c)(b:∀v h,Same H h->(v=.non\/(kI t c<|.int z).isSome=NW)->Q v h)
theorem ClsAt.cl(S:ClsAt H q t X C):∀x∈X,∃T,∃c∈C,x=.ref T/\jg H T c/\c.length<=60:=λx a=>by
 obtain⟨i,b⟩:=Pm.mp a;obtain⟨c,Z,T,e,h⟩:=S.hcs.get b;have m:=N5 Z;exact⟨T,c,m,e,h,S.hc c m⟩
theorem Es(F:Fun K "_law_pure" "_law_pure" Er f fd)(T:Bl M)(Yg:Fe P w K M B 1 "_law_number" h_)(Tb:Fe P w K M B 1 "_law_own" ji):ay P w K M B a_ 2 f fd ["_law_turns","_law_clauses","_law_literal"] sV:=by
 refine F.okB (N:=["_law_turns","_law_clauses","_law_literal","_law_some"]) λQC A O s H vs Q E sc hr h=>?_;obtain⟨q,t,z,X,u,rfl,S,U⟩:=h;have P1:=S.hcs.length;have hn:=S.hn;have ht:=S.ht;refine⟨_,(ae gg
  (ae (B_ 3 ["_law_clause","_law_literal"] [NZ,gV 2] (aD<|pv 1) (t:=λ_ _ _ _=>(bM<|cV (dg (K:=K) rfl) (pv 1) (pv 0)<|by rfl)))
  (ae (aQ (PW.pt<|pW gg<|rc<|oG xn (aN ca rfl T.len P5<|fC<|fW ["_law_clause","_law_literal"] [NZ,gV 2] (aD<|pv 1) (t:=λ_ _ _ _=>(bM<|cV (dg (K:=K) rfl) gg (pv 0)<|by rfl))) bX) (cQ fE) ax)
  (ae (aQ gg (cQ<|fW ["_law_clause","_law_literal"] [NZ,gV 2] (aD<|pv 1) (t:=λ_ _ _ _=>(bM<|cV (dJ (K:=K) rfl) (pv 1) (pv 0)<|by rfl))) ax)
  (cQ<|fW ["_law_clause","_law_literal"] [NZ,gV 2] (aD<|pv 1) (e:=λ_ _ _ _=>(aW (fJ (K:=K) rfl) rfl T.tuple Pr<|fC<|fW ["_law_one","_law_literal"] [NZ,gV 1]<|xB (K:=K) rfl<|pv 0))))))),?_⟩
 have C:=S.cl;have o:∀a,Same H a->Q .non a:=λa k=>U _ _ k<|.inl rfl;refine⟨_,rfl,.int z,.int z,rfl,bO z,_,rfl,ak ⟨_,rfl,z,rfl,_,_,rfl,rfl,_,rfl,cn (λ_=>ap<|o _<|Same.refl _) λg=>?_⟩⟩;refine⟨_,rfl,z,rfl,_,rfl,.str t,_,rfl,⟨OW (ah<|by lia),rfl⟩,_,_,rfl,rfl,_,rfl,cn (λ_=>o _<|Same.refl _) λg2=>?_⟩;have g':¬absI z<1:=λn=>g<|N3 n;have ac:¬(t.length:Int)<absI z:=λn=>g2<|N3 n;refine⟨_,rfl,q,rfl,⟨_,SqL.of S.hq⟩,λD hD=>?_⟩;refine fN [gV<|.int z] (λ_=>(u.any λc=>c.contains z)=NW) rfl S.hq hD (by lia) (λx b a R k r=>?_) λY H1 l r1 l1 g1=>?_
 ·obtain⟨d,c,hc,rfl,i,_⟩:=C x b;exact⟨_,rfl,_,rfl,d,_,rfl,.inr<|SqT.of<|k _ _ i,rfl,bd c,_,rfl,r _ _ (Same.refl _) λe=>OC.mpr ⟨c,hc,by rw[<-aP];exact e⟩⟩
 refine⟨_,rfl,.ref D,_,rfl,.inl ⟨_,SqL.of r1,rfl⟩,.inl ⟨rfl,_,rfl,cn (λ_=>ap<|o _ l) λg3=>?_⟩⟩;have G:(u.any λc=>c.contains z)=true:=by
  cases Y with
  |nil=>exact absurd (N3 rfl) g3
  |cons y r=>exact(g1 y Ou).2
 refine⟨_,rfl,q,rfl,⟨_,SqL.of<|l _ _ S.hq⟩,λD2 Z=>?_⟩;refine cM [gV<|.int z] (dD H (-z)) (λx=>x) rfl (l _ _ S.hq) Z (by lia) (λx b a R k r=>?_) (λx b _ a R k r=>⟨_,rfl,r⟩) ?_
 ·obtain⟨d,c,_,rfl,i,_⟩:=C x b;rw[fU ⟨d,rfl,i⟩]at r;exists _,rfl,_,_,rfl,rfl,_,rfl,d,_,rfl,.inr<|SqT.of<|k _ _<|l _ _ i,rfl,bd c,_,rfl;show R (gP (.int (0-z))<|c.map V.int) a
  rw[aP,Wh];exact r
 rw[TC];have I:=DS (z:=-z) S.hcs;have v:=l.trans<|ad Z<|.lst<|X.filter<|dD H (-z);refine⟨.ref D2,_,rfl,.inl ⟨_,SqL.of aa,rfl⟩,_,_,rfl,rfl,_,rfl,cn (λ_=>o _ v) λg5=>?_⟩;have J:(u.any λc=>c.contains (-z))=false:=by
  simp_all
 have W:∀L a,Same H a->Q L a:=λL a k=>U L a k (.inr (by
  show rb (if _ then _ else _)=NW
  rw[G,J];rfl))
 refine⟨_,rfl,_,rfl,t,NW,z,rfl,(aag g'),(aag ac),(by lia),_,rfl,cn (λ_=>?_) λ_=>?_⟩
 ·refine⟨_,rfl,q,rfl,⟨_,SqL.of<|v _ _ S.hq⟩,λD3 j=>?_⟩;refine fN [gV<|.int z] (λ_=>True) rfl (v _ _ S.hq) j (by lia) (λx b a R k r=>?_) λY H3 N _ _ _=>W _ _<|v.trans N;obtain⟨d,c,_,rfl,i,_⟩:=C x b;exact⟨_,rfl,_,rfl,d,_,rfl,.inr<|SqT.of<|k _ _<|v _ _ i,rfl,bd c,_,rfl,r _ _ (Same.refl _) λ_=>trivial⟩
 refine⟨_,rfl,q,rfl,⟨_,SqL.of<|v _ _ S.hq⟩,λD3 j=>qW [gV<|.int z] rfl (v _ _ S.hq) j (by lia) (λx b a R k r=>r NW a<|Same.refl _) (λx b a R k r=>?_) λY H3 N _ _=>W _ _<|v.trans N⟩;obtain⟨d,c,_,rfl,i,TQ⟩:=C x b;have Xx:=k _ _<|v _ _ i;refine⟨_,rfl,d,rfl,⟨_,SqT.of Xx⟩,λD5 m=>aY [gV<|.int z] (λx=>!decide (x=.int z)) id rfl Xx m (by rw[B'];lia) (λx b a R k r=>?_) (λx b _ a R k r=>⟨_,rfl,r⟩) ?_⟩
 ·obtain⟨y,_,rfl⟩:=bo b;exact⟨_,rfl,_,rfl,.inl ⟨rfl,_,rfl,r⟩⟩
 exact⟨D5,_,rfl,.inl ⟨SqL.of aa,λp hp=>r _ _<|(ad m _).trans<|ad hp _⟩⟩
noncomputable abbrev yP:Pn:=b9 90
theorem eR(x:ab V)(lo h:M' Int):(bC x lo h).length<=x.length:=by
 unfold bC;rw[OB,PQ];exact O8 (T_ _ _) (hH _ _)
inductive pD (vs:ab V)(H:Hp)(Q:VK)(E:XK):Prop
 |mk (q:J')(t:Str)(i:Nat)(z:Int)(xs:ab V)(C:ab (ab Int))(h0:vs=[.str t,.ref q,.int (i:Int),.int z])(a:ClsAt H q t xs C)(b:i<C.length)(d:∀c∈C,Ups c)(e:∀v h,Same H h->(v=.non\/iK t C i z=NW)->Q v h)
inductive Ks (H:Hp)(q:J')(t:Str)(i:Nat)(z:Int)(c:ab (ab Int))(j:Nat)(a:St)(h:Hp):Prop
 |mk (v:M' V)(h0:a=[gV (.str t),gV (.ref q),gV (.int (i:Int)),gV (.int z),v])(b:Same H h)(d:((c.take j).all λk=>!k.contains (-z) || cJ (c.getD i []) z k)=NW)
theorem pE:∀c:ab (ab Int),((c.filter p).all o)=c.all λk=>!p k || o k
 |[]=>rfl
 |k::r=>by
  simp
theorem AD(F:Fun K "_law_blocked" "_law_blocked" yP f fd)(T:Bl M)(Yg:Fe P w K M b 1 "_law_number" h_)(Tb:Fe P w K M b 1 "_law_own" ji):ay P w K M b a_ 2 f fd ["_law_turns","_law_clauses","_law_k","_law_literal"] pD:=by
 refine F.okB (N:=["_law_turns","_law_clauses","_law_k","_law_literal","_law_other"]) λQC A O s H vs Q E sc hr h=>?_;obtain⟨q,t,i,z,X,C,rfl,S,hi,G,d⟩:=h;have hu:=hr.units;have P1:=S.hcs.length;have hn:=S.hn;have ht:=S.ht;refine⟨_,(ae gg
  (ae (fk PU rfl (aD<|pv 1) (iP (i:=4) sc.nd rfl<|Ux rfl)
   (ar<|aQ gg (ar<|aQ (oG (dN hu) (aN ca rfl T.len P5<|fC<|fW ["_law_one","_law_other","_law_literal"] [NZ,gV 4,gV 3] (bA gg) (t:=λ_ _ _ _=>(bM<|PW.pt<|re gg<|q_<|cV (dg (K:=K) rfl) gg (pv 1)<|by rfl))) bX) (cQ fE) ax) ax))
  (cQ<|b_ cF (bu bZ (pv 1) bU gg)<|bu bZ (pv 1) gg bU))),?_⟩
 obtain⟨Z,m,Q7,hm⟩:=fT S.hcs hi;have TQ:=S.hc _ hm;unfold iK at d;have I:∀g,Same H g->Q .non g:=λg k=>d _ _ k<|.inl rfl;exists _,rfl,.int z,.int z,rfl,bO z,_,rfl;have e:(if NW=NW then !gP (.int z) ((C.getD i []).map V.int)else gP (.int z) ((C.getD i []).map V.int))=!(C.getD i []).contains z:=by
  rw[On rfl,aP]
 refine ak ⟨_,rfl,_,rfl,_,rfl,(fz S.hq (aG m) ⟨Z,_,rfl,.inr<|SqT.of Q7,rfl,bd _,_,rfl,?_⟩)⟩;rw[e];cases g1:(C.getD i []).contains z with
 |false=>exact ap<|ap<|I _<|Same.refl _
 |true=>
 rw[g1]at d;have hz:=S.hok _ hm z<|Of.mp g1;refine ak ⟨_,rfl,_,rfl,t,NW,z,rfl,hz.1,hz.2,(by lia),_,rfl,?_⟩;have eo:(cP t (absI z-1).toNat == NW)=dQ t z:=by
  unfold dQ;simp
 rw[eo];cases g2:dQ t z with
 |false=>exact ap<|I _<|Same.refl _
 |true=>
 rw[g2]at d;refine ak ?_;rw[pE]at d;refine⟨_,rfl,q,rfl,⟨_,SqL.of S.hq⟩,cy (K:=K) (a:=q) (X:=X) (Ks H q t i z C) ⟨NZ,rfl,Same.refl _,rfl⟩ ?_ ?_ ?_⟩
 ·rintro j σ J _ ⟨_,_,a,_⟩;exact SqL.of<|a _ _ S.hq
 ·rintro j x σ J L ⟨v4,rfl,a,u⟩;obtain⟨c,hk,v,rfl,N⟩:=S.hcs.get L;have U:=N5 hk;have p:=a _ _ N;have Xx:=a _ _ Q7;have e2:(if N8=NW then !gP (.int (0-z)) (c.map V.int)else gP (.int (0-z)) (c.map V.int))=c.contains (-z):=by
   rw[Oo N6,aP,Wh]
  have next:∀W,Same H W->(!c.contains (-z) || cJ (C.getD i []) z c)=NW->Ks H q t i z C (j+1) [gV<|.str t,gV<|.ref q,gV<|.int (i:Int),gV<|.int z,gV<|.ref v] W:=λW l hb=>by
   exists _,rfl,l;rw[OJ,hk,S2,u];show((!c.contains (-z) || cJ (C.getD i []) z c)&&NW)=NW
   rw[hb];rfl
  exists _,rfl,_,_,rfl,rfl,_,rfl,v,_,rfl,.inr<|SqT.of p,rfl,bd c,_,rfl;rw[e2];cases g3:c.contains (-z)with
  |false=>exact ak (next J a (by rw[g3];rfl))
  |true=>
  refine ap ?_;refine⟨_,rfl,_,rfl,(fz (a _ _ S.hq) (aG m) ⟨Z,rfl,⟨_,SqT.of Xx⟩,λD hD=>?_⟩)⟩;refine aY [gV<|.ref v,gV<|.int z] (ue λo=>decide (absI o<absI z)&&c.contains (0-o)) (λx=>x) rfl Xx hD (by rw[B'];lia) ?_ ?_ ?_
  ·intro x m g R k r;obtain⟨y,_,rfl⟩:=bo m;have B:R (decide (absI y<absI z)&&c.contains (0-y)) g:=r;refine⟨_,rfl,y,rfl,_,rfl,z,rfl,_,_,rfl,rfl,_,rfl,cn (λY=>?_) λY=>?_⟩
   ·rw[N3 (show absI y<absI z from Oh Y)]at B;exists _,rfl,_,_,rfl,rfl,_,rfl,v,_,rfl,.inr<|SqT.of<|k _ _ p,rfl,bd c,_,rfl;show R (gP (.int (0-y))<|c.map V.int) g
    rw[aP];exact B
   rw[N7 (show¬absI y<absI z from λn=>Y<|N3 n)]at B;exact B
  ·intro x m _ g R k r;exact⟨_,rfl,r⟩
  rw[cB (C.getD i []) (λo=>decide (absI o<absI z)&&c.contains (0-o)) _ λi=>rfl];have l:=a.trans<|ad hD<|.lst<|((C.getD i []).filter λo=>decide (absI o<absI z)&&c.contains (0-o)).map V.int;have eb:cJ (C.getD i []) z c=!decide (((C.getD i []).filter λo=>decide (absI o<absI z)&&c.contains (0-o)).length=0):=by
   rw[u6,lW<|G c U,DQ,YF]
  refine⟨.ref D,_,rfl,.inl ⟨_,SqL.of aa,rfl⟩,.inl ⟨rfl,_,rfl,?_⟩⟩;rw[B'];refine cn (λg5=>I _ l) λg5=>?_
  have g':¬((C.getD i []).filter λo=>decide _&&c.contains _).length=0:=λn=>g5 (N3<|by rw[n];rfl);rw[N7 g']at eb;exact next _ l (by rw[g3,eb];rfl)
 rintro σ J ⟨v4,rfl,a,u⟩;rw[Oi<|by simp_all]at u;rw[u]at d;refine⟨_,rfl,_,rfl,_,rfl,q,X,rfl,SqL.of<|a _ _ S.hq,λl1 q1=>?_⟩;have l:=a.trans<|ad q1<|.lst<|bC X NZ<|gV (i);refine⟨_,rfl,_,rfl,_,_,rfl,rfl,_,rfl,q,X,rfl,SqL.of<|l _ _ S.hq,λl5 q5=>?_⟩;have k5:=ad q5<|.lst<|bC X (gV<|(i)+1) NZ;have f1:=eR X NZ<|gV (i);have f2:=eR X (gV<|(i)+1) NZ;exact⟨l1,l5,_,_,rfl,rfl,k5 _ _ aa,aa,OW (ah<|by lia),λl6 q6=>d _ _ (l.trans<|k5.trans<|ad q6 _)<|.inr rfl⟩
noncomputable abbrev Ij:Pn:=b9 91
theorem Et{s:Nx}(h:decide (V.str s.w=V.str (N_ "within"))=NW):∃i z,s=.within i z:=by
 cases s<;>first|exact⟨_,_,rfl⟩|exact absurd (V.str.inj<|Oh h) (by dsimp only[Nx.w];decide+kernel)
noncomputable def Nx.at:Nx->Nat
 |.unit i|.drop i|.within i _|.blocked i _=>i
 |.pure _=>0
theorem Kt{s:Nx}(h:∀z,s≠.pure z):kZ s.zs 1=gV (.int s.at):=by
 cases s<;>first|rfl|lia
inductive wZ (vs:ab V)(H:Hp)(Q:VK)(E:XK):Prop
 |mk (p q b:J')(t:Str)(xs:ab V)(C:ab (ab Int))(s:Nx)(h0:vs=[.ref p,.ref b])(hp:H p=gV (.tup [.str t,.ref q]))(a:ClsAt H q t xs C)(d:∀c∈C,Ups c)(e:H b=gV (.tup s.zs))(f:∀v h,Same H h->(v=.non\/(bG t C s.d).isSome=NW)->Q v h)
theorem ClsAt.mono(h:ClsAt H q t x c)(k:Same H a):ClsAt a q t x c:=⟨k _ _ h.hq,h.hcs.mono k,h.ht,h.hn,h.hok,h.hc⟩
theorem GI(F:Fun K "_law_behind" "_law_behind" Ij f fd)(T:Bl M)(az:Fe P w K M B 2 "_law_ahead" sS)(aC:Fe P w K M B 2 "_law_blocked" pD)(aF:Fe P w K M B 2 "_law_dropped" ng)(Tb:Fe P w K M B 1 "_law_own" ji)(aL:Fe P w K M B 2 "_law_pure" sV)(a0:Fe P w K M B 1 "_law_stand" sU):ay P w K M B a_ 3 f fd ["_law_sentence_here","_law_step"] wZ:=by
 refine F.okB (N:=["_law_sentence_here","_law_step","_law_turns","_law_clauses","_law_clause"]) λQC A ac s H vs Q E sc hr h=>?_;obtain⟨p,q,b,t,X,c,s,rfl,hp,S,L,u,G⟩:=h;have hu:=hr.units;have P1:=S.hcs.length;have hn:=S.hn;have ht:=S.ht;have v:∀{n},Same H n->Q .non n:=λk=>G _ _ k<|.inl rfl;refine⟨_,(ae (AT (pv 0) gg)
  (ae gg
  (ae gg
  (ae gg
  (ae gg
  (ae (aQ gg (cQ<|b_ cF (b_ cF (bu bZ (pv 3) bU gg) gg)<|bu bZ (pv 3) gg bU) ax)
  (ae gg
  (ae gg
  (ae (aQ gg (ar<|aQ (oG (dN hu) (aN ca rfl T.len P5<|fC<|fW ["_law_one","_law_clause"] [NZ,gV 4] (bA gg) (t:=λ_ _ _ _=>(bM<|cV (dJ (K:=K) rfl) (pv 0) (pv 1)<|by with_unfolding_all rfl))) bX) (cQ<|b_ cF (bu bZ (pv 3) bU gg)<|bu bZ (pv 3) gg bU) ax) ax)
  (cQ fE)))))))))),?_⟩
 exists _,rfl,p,_,rfl,SqT.of hp,rfl,_,_,rfl,_,_,rfl,rfl;refine⟨_,rfl,.ref b,_,"tuple",NW,rfl,.tup u,bV NU,NW,rfl,ak ⟨_,rfl,.ref b,_,rfl,.inr ⟨_,SqT.of u,rfl⟩,_,_,rfl,rfl,_,rfl,cn (λ_=>ap<|v<|Same.refl _) λ_=>?_⟩⟩;refine⟨_,rfl,.ref b,_,rfl,.inr ⟨_,SqT.of u,rfl⟩,_,rfl,(aS u (fo s) ⟨(by show 2<=sizeLine;decide),λL1 N=>?_⟩)⟩;have C:=ad N<|.lst [.str<|N_ "within",.str<|N_ "blocked"];refine⟨L1,_,rfl,.inl<|SqL.of aa,rfl,rfl,.inr ⟨_,rfl,_,_,rfl,rfl,.inl ⟨rfl,_,rfl,cn (λ_=>v C) λ_=>?_⟩⟩⟩;generalize upd H L1 (.lst [.str<|N_ "within",.str<|N_ "blocked"])=H1 at C ⊢;refine⟨_,rfl,(aS (C _ _ u) (fo s)<|.inl ⟨rfl,_,rfl,cn (λg=>?_) λg=>?_⟩)⟩
 ·obtain⟨z,rfl⟩:=wN g;exact⟨_,rfl,_,rfl,_,rfl,(aS (C _ _ u) rfl ⟨q,t,z,X,c,rfl,S.mono C,λv' n k r=>G v' n (C.trans k)<|r.imp id λr=>by rw[<-r];exact O1 _<|pB _ _ _⟩)⟩
 have np:∀z,s≠.pure z:=λz e=>g (by rw[e];exact N3 rfl);have z1:=Kt np;refine⟨_,rfl,(aS (C _ _ u) (fo s) ⟨(by show 4<=sizeLine;decide),λL2 q2=>?_⟩)⟩;have a:=C.trans<|ad q2<|.lst [.str<|N_ "drop",.str<|N_ "unit",.str<|N_ "within",.str<|N_ "blocked"];refine⟨L2,_,rfl,.inl<|SqL.of aa,rfl,rfl,_,rfl,cn (λ_=>ap<|v a) λ_=>?_⟩;generalize upd H1 L2 (.lst [.str<|N_ "drop",.str<|N_ "unit",.str<|N_ "within",.str<|N_ "blocked"])=H2 at a ⊢;have d:=a _ _ S.hq;have W:=a _ _ u;refine⟨_,rfl,_,rfl,(aS W z1 ⟨q,.int s.at,.int s.at,X,rfl,d,(by lia),bO _,_,rfl,?_⟩)⟩;cases gp:(aH X.length<|.int s.at).isSome with
 |false=>exact ap<|v a
 |true=>
 have hi:s.at<c.length:=by
  obtain⟨j,e⟩:=QF.mp gp;have:=aA e;have e2:=ZX this.2;lia
 have ep:=qU hi;obtain⟨I,hx,Q7,hm⟩:=fT S.hcs hi;have Xx:=a _ _ Q7;have a1:=S.hc _ hm;have O:=S.hok _ hm;refine ak ⟨_,rfl,_,rfl,(aS W z1<|(fz d (aG hx) ?_))⟩;refine⟨_,rfl,(aS W (fo s)<|.inl ⟨rfl,_,rfl,cn (λg=>?_) λg=>?_⟩)⟩
 ·obtain⟨i,rfl⟩:=wM g;refine⟨_,rfl,_,rfl,(aS W rfl ⟨_,rfl,q,X,rfl,SqL.of d,λl1 N=>?_⟩)⟩;have f1:=eR X NZ<|gV (i:Int);have J:=ad N<|.lst<|bC X NZ<|gV (i:Int);refine⟨_,rfl,_,rfl,I,t,N8,_,rfl,ht,J _ _ Xx,⟨L _ hm,O⟩,λl2 H5 j2 _=>⟨(by show 1<=sizeLine;decide),λl3 q3=>?_⟩⟩;have j3:=ad q3<|.lst [.ref l2];refine⟨l1,l3,_,_,rfl,rfl,(j2.trans j3) _ _ aa,aa,OW<|ah (by show _+1<=1000;lia),λl4 q4=>?_⟩;have j4:=J.trans<|j2.trans<|j3.trans<|ad q4<|.lst<|bC X NZ (gV (i:Int))++[.ref l2];have f2:=eR X (gV<|(i:Int)+1) NZ;refine⟨_,rfl,_,rfl,(aS (j4 _ _ W) rfl ⟨_,_,rfl,rfl,_,rfl,q,X,rfl,SqL.of<|j4 _ _ d,λl5 U=>⟨l4,l5,_,_,rfl,rfl,ad U _ _ _ aa,aa,OW<|ah (by rw[N0];show _+1+_<=1000;lia),λl6 q6=>G _ _ (a.trans<|j4.trans<|(ad U _).trans<|ad q6 _)<|.inr ?_⟩⟩)⟩;rw[show(Nx.drop i).d=.tuple [.str aB,.int (i:Int)]from rfl,py];unfold qP;rw[show aH c.length (.int (i:Int))=gV i from ep];rfl
 unfold AR;dsimp only;refine c7 (λam n=>am=[gV<|.ref p,gV<|.ref b,gV<|.str t,gV<|.ref q,gV<|.ref I]/\H2=n) (λR hR=>?_) ?_
 ·refine⟨_,rfl,(aS W (fo s)<|.inl ⟨rfl,_,rfl,cn (λg=>?_) λ_=>ak<|hR _ _ ⟨rfl,rfl⟩⟩)⟩;obtain⟨i,rfl⟩:=wL g;refine⟨_,rfl,.ref I,_,rfl,.inr ⟨_,SqT.of Xx,rfl⟩,.inl ⟨rfl,_,rfl,cn (λg1=>?_) λ_=>ak<|hR _ _ ⟨rfl,rfl⟩⟩⟩;obtain⟨z,ez⟩:∃z,c.getD i []=[z]:=by
   have e:=V.int.inj<|Oh g1;rw[B']at e;exact List.length_eq_one_iff.mp (by have e:((c.getD i []).length:Int)=1:=e;lia)
  have Y:H2 I=gV (.tup ([z].map V.int)):=by rw[<-ez];exact Xx
  have hz:=O z (by show z∈c.getD i [];rw[ez];exact Ou);refine⟨_,rfl,_,rfl,(aS Y rfl ⟨t,NW,z,rfl,hz.1,hz.2,(by lia),_,rfl,cn (λg2=>?_) λ_=>hR _ _ ⟨rfl,rfl⟩⟩)⟩;refine⟨_,rfl,_,rfl,(aS Y rfl ⟨q,z,X,c,rfl,d,S.hcs.mono a,hn,S.hc,λl n k=>G _ _ (a.trans k)<|.inr ?_⟩)⟩;rw[show(Nx.unit i).d=.tuple [.str fi,.int (i:Int)]from rfl,pA];unfold qQ;rw[show aH c.length (.int (i:Int))=gV i from ep,T9,ez,On (show kF t [z]=NW from eq_of_beq g2)];rfl
 rintro _ _ ⟨rfl,rfl⟩;refine⟨_,rfl,(aS W (fo s)<|.inl ⟨rfl,_,rfl,cn (λg=>?_) λg=>?_⟩)⟩
 ·obtain⟨i,z,rfl⟩:=lX g;refine⟨_,rfl,_,rfl,_,rfl,(aS W rfl ⟨_,rfl,(aS W rfl ⟨q,t,i,z,X,c,rfl,S.mono a,hi,L,λv' n k r=>G v' n (a.trans k)<|r.imp id λr=>?_⟩)⟩)⟩;rw[show(Nx.blocked i z).d=.tuple [.str bT,.int (i:Int),.int z]from rfl,jh];show((aH c.length<|.int (i:Int)).bind _).isSome=NW
  rw[show aH c.length (.int (i:Int))=gV i from ep,T9,On r];rfl
 refine⟨_,rfl,(aS W (fo s)<|.inl ⟨rfl,_,rfl,cn (λg=>?_) λg=>ak<|v a⟩)⟩;obtain⟨i,j,rfl⟩:=Et g;refine⟨_,rfl,_,rfl,(aS W rfl ⟨q,.int (j:Int),.int (j:Int),X,rfl,d,(by lia),bO _,_,rfl,?_⟩)⟩;cases gj:(aH X.length<|.int (j:Int)).isSome with
 |false=>exact ak<|ak<|v a
 |true=>
 have hj:j<c.length:=by
  obtain⟨m,e⟩:=QF.mp gj;have:=aA e;have e2:=ZX this.2;lia
 obtain⟨td,hy,an,as⟩:=fT S.hcs hj;have a2:=S.hc _ as;have Z:=a _ _ an;refine ap ⟨_,rfl,(aS W rfl ⟨_,rfl,(aS W rfl<|.inl ⟨rfl,_,rfl,cn (λg3=>?_) λ_=>v a⟩)⟩)⟩;refine⟨_,rfl,_,rfl,(aS W rfl<|(fz d (aG hy) ⟨td,rfl,⟨_,SqT.of Z⟩,λD hD=>?_⟩))⟩;refine aY [gV<|.ref I] (ue λo=>!(c.getD i []).contains o) (λx=>x) rfl Z hD (by rw[B'];lia) (λx hx n R k r=>?_) (λx hx _ n R k r=>⟨_,rfl,r⟩) ?_
 ·obtain⟨y,_,rfl⟩:=bo hx;exists _,rfl,_,rfl,I,_,rfl,.inr<|SqT.of<|k _ _ Xx,rfl,bd _,_,rfl;show R (!gP (.int y) ((c.getD i []).map V.int)) n
  rw[aP];exact r
 have k3:=a.trans<|ad hD<|.lst<|(((c.getD j []).map V.int).filter<|ue λo=>!(c.getD i []).contains o).map λx=>x;refine⟨.ref D,_,rfl,.inl ⟨_,SqL.of aa,rfl⟩,.inl ⟨rfl,_,rfl,cn (λg4=>?_) λ_=>v k3⟩⟩;have av:((c.getD j []).all λz=>(c.getD i []).contains z)=true:=O2.mpr λz hz=>by
  have e:=V.int.inj<|Oh g4;rw[cB (c.getD j []) (λo=>!(c.getD i []).contains o) _ λi=>rfl,B']at e;cases h:(c.getD i []).contains z with
  |true=>rfl
  |false=>
   have:0<((c.getD j []).filter λo=>!(c.getD i []).contains o).length:=R3<|Oj.mpr ⟨hz,by rw[h];rfl⟩;lia
 generalize upd H2 D _=H3 at k3 ⊢;refine⟨_,rfl,_,rfl,(aS (k3 _ _ u) rfl ⟨_,rfl,q,X,rfl,SqL.of<|k3 _ _ S.hq,λl1 N=>?_⟩)⟩;have f1:=eR X NZ<|gV (i:Int);have J:=k3.trans<|ad N<|.lst<|bC X NZ<|gV (i:Int);have f2:=eR X (gV<|(i:Int)+1) NZ;refine⟨_,rfl,_,rfl,(aS (J _ _ u) rfl ⟨_,_,rfl,rfl,_,rfl,q,X,rfl,SqL.of<|J _ _ S.hq,λl5 U=>⟨l1,l5,_,_,rfl,rfl,ad U _ _ _ aa,aa,OW (ah<|by lia),λl6 q6=>G _ _ (J.trans<|(ad U _).trans<|ad q6 _)<|.inr ?_⟩⟩)⟩;rw[show(Nx.within i j).d=.tuple [.str cE,.int (i:Int),.int (j:Int)]from rfl,kO];unfold qR;rw[show aH c.length (.int (i:Int))=gV i from ep,T9,qU hj,T9,av,On ?_]
 ·rfl
 rw[N7 λe=>by rw[e]at g3;exact absurd g3<|by rw[N3 rfl];decide];rfl
noncomputable abbrev Eu:Pn:=b9 92
def Steps(H:Hp)(Y:ab V):Prop:=∀y∈Y,∃s:Nx,TupAt H s.zs y
def Ev(z:ab V):Prop:=∃s:Nx,z=s.zs
theorem Steps.of(h:∀y∈Y,∃z,Ev z/\TupAt H z y):Steps H Y:=λy a=>by
 obtain⟨x,⟨s,rfl⟩,b⟩:=h y a;exact⟨s,b⟩
theorem Steps.mono(h:Steps H Y)(k:Same H a):Steps a Y:=λy c=>let ⟨s,b⟩:=h y c;⟨s,b.mono k⟩
theorem Steps.app(h:Steps H Y)(g:Steps H z):Steps H (Y++z):=λy a=>(Os.mp a).elim (h y)<|g y
inductive sW (vs:ab V)(H:Hp)(Q:VK)(E:XK):Prop
 |mk (p q:J')(t:Str)(xs:ab V)(C:ab (ab Int))(h0:vs=[.ref p])(hp:H p=gV (.tup [.str t,.ref q]))(a:ClsAt H q t xs C)(b:t.length<=8)(d:C.length<=16)(e:∀c∈C,c.length<=4)
  (f:∀(l:J') (ys:ab V) (h:Hp),Same H h->h l=gV (.lst ys)->ys.length<=900->Steps h ys->Q (.ref l) h):sW vs H Q E
theorem l_(h:x∈(O7 n).map λi:Nat=>V.int (i:Int)):∃i,i<n/\x=.int (i:Int):=by
 obtain⟨i,H,e⟩:=OH.mp h;exact⟨i,QU.mp H,e.symm⟩
inductive Ik (H:Hp)(p q L:J')(t:Str)(c:ab (ab Int))(i:Nat)(a:St)(h:Hp):Prop
 |mk (M:J')(ys:ab V)(v:M' V)(h0:a=[gV<|.ref p,gV<|.str t,gV<|.ref q,gV<|.ref L,gV<|.ref M,v,NZ])(b:h M=gV (.lst ys))(d:Same H h)(e:ys.length<=32+2*i)(f:Steps h ys)
inductive Il (H:Hp)(p q L:J')(t:Str)(c:ab (ab Int))(i:Nat)(a:St)(h:Hp):Prop
 |mk (M:J')(ys:ab V)(v b:M' V)(h0:a=[gV<|.ref p,gV<|.str t,gV<|.ref q,gV<|.ref L,gV<|.ref M,v,b])(d:h M=gV (.lst ys))(e:Same H h)(f:ys.length<=48+20*i)(g:Steps h ys)
theorem Ew(F:Fun K "_law_tried" "_law_tried" Eu f fd)(T:Bl mg):ay P w K mg am a_ 1 f fd ["_law_sentence_here"] sW:=by
 refine F.okB (N:=["_law_sentence_here","_law_turns","_law_clauses","_law_places","_law_some","_law_variable","_law_k"]) λQC A O s H vs Q E sc hr h=>?_;obtain⟨p,q,t,xs,c,rfl,hp,S,t8,an,c4,q'⟩:=h;have P1:=S.hcs.length;refine⟨_,(ae (AT (pv 0) gg)
  (ae (sT 3<|zK rfl rfl T.list rfl T.range gg)
  (ae (sT 4<|b_ cF (fW ["_law_k"] [NZ]<|aD<|pv 3)<|fW ["_law_k"] [NZ]<|aD<|pv 3)
  (ae (fS 5 gg<|ar<|sT 4<|b_ cF (pv 4) gg)
  (ae (fk PU rfl (aD<|pv 3) (iP (i:=6) sc.nd rfl<|Ux rfl)
   (ar<|sT 4<|b_ cF (b_ cF (pv 4)<|fW ["_law_j","_law_k"] [NZ,gV 6]<|aD<|pv 3)<|fW ["_law_literal","_law_k"] [NZ,gV 6]<|bA gg))
  (cQ<|pv 4)))))),?_⟩
 exists _,rfl,p,_,rfl,SqT.of hp,rfl,_,_,rfl,_,_,rfl,rfl;refine⟨_,rfl,.ref q,_,rfl,.inl ⟨_,SqL.of S.hq,rfl⟩,xs.length,rfl,by lia,λL hL=>?_⟩;rw[<-P1];have C:=ad hL<|.lst ((O7 c.length).map λi:Nat=>V.int (i:Int));have b:=@aa H L (.lst ((O7 c.length).map λi:Nat=>V.int (i:Int)));have ll:((O7 c.length).map λi:Nat=>V.int (i:Int)).length=c.length:=by simp
 generalize upd H L (.lst ((O7 c.length).map λi:Nat=>V.int (i:Int)))=D at C b ⊢;refine⟨_,rfl,L,rfl,⟨_,SqL.of b⟩,λD1 G=>?_⟩;refine jw [] Ev (λx=>[.str aB,x]) rfl b G (by lia) (λx a=>by obtain⟨i,hi,rfl⟩:=l_ a;exact⟨.drop i,rfl⟩) (λx a I R k r=>⟨_,rfl,(by show 2<=sizeLine;decide),r⟩) λy1 H2 N s2 l2 g2=>?_;refine⟨_,rfl,L,rfl,⟨_,SqL.of<|N _ _ b⟩,λD2 ZG=>?_⟩;refine jw [] Ev (λx=>[.str fi,x]) rfl (N _ _ b) ZG (by lia) (λx a=>by obtain⟨i,hi,rfl⟩:=l_ a;exact⟨.unit i,rfl⟩) (λx a I R k r=>⟨_,rfl,(by show 2<=sizeLine;decide),r⟩) λy2 H3 U s3 l3 g3=>?_;refine⟨D1,D2,_,_,rfl,rfl,U _ _ s2,s3,OW (ah<|by lia),λM hM=>?_⟩;have W:=ad hM<|.lst<|y1++y2;have X:Same D (upd H3 M<|.lst<|y1++y2):=N.trans<|U.trans W;exists _,rfl,.str t,_,rfl,⟨OW (ah<|by lia),rfl⟩,_,_,rfl,rfl,1,_,rfl,(by lia);have hn:((t.length:Int)+1-1).toNat=t.length:=by simp
 refine dq (lo:=1) (n:=((t.length:Int)+1-1).toNat) (Ik D p q L t c) ⟨M,_,NZ,rfl,aa,X,by rw[N0];lia,Steps.app (Steps.mono (Steps.of g2)<|U.trans W)<|Steps.mono (Steps.of g3) W⟩ ?_ ?_
 ·rintro i o H5 hi ⟨M5,ys,v5,rfl,s5,u,l5,g5⟩;refine⟨_,rfl,_,rfl,(by show 2<=sizeLine;decide),λp1 n1=>⟨_,rfl,_,_,rfl,rfl,(by show 2<=sizeLine;decide),λp2 n2=>⟨(by show 2<=sizeLine;decide),λl hl=>?_⟩⟩⟩;have j1:=ad n1<|.tup [.str fj,.int (1+(i:Int))];have j2:=ad n2<|.tup [.str fj,.int (0-(1+(i:Int)))];have J:=ad hl<|.lst [.ref p1,.ref p2];refine⟨M5,l,_,_,rfl,rfl,J _ _<|j2 _ _<|j1 _ _ s5,aa,OW<|ah (by show _+2<=1000;lia),λm n6=>?_⟩;have j4:=ad n6<|.lst<|ys++[.ref p1,.ref p2];have jj:=j1.trans<|j2.trans<|J.trans j4;refine⟨m,_,_,rfl,aa,u.trans jj,by rw[N0];show _+2<=_;lia,Steps.app (Steps.mono g5 jj) λy hy=>?_⟩;obtain rfl|hy:=Oz.mp hy
  ·exact⟨.pure _,TupAt.mono ⟨p1,rfl,aa⟩<|j2.trans<|J.trans j4⟩
  rw[Ob.mp hy];exact⟨.pure _,TupAt.mono ⟨p2,rfl,aa⟩<|J.trans j4⟩
 rintro o H5 ⟨M5,ys,v5,rfl,s5,u,l5,g5⟩;exists _,rfl,L,rfl,⟨_,SqL.of<|u _ _ b⟩;refine cy (K:=K) (a:=L) (X:=(O7 c.length).map λi:Nat=>V.int (i:Int)) (Il D p q L t c) ⟨M5,ys,v5,NZ,rfl,s5,u,by lia,g5⟩ ?_ ?_ ?_
 ·rintro i o H6 _ ⟨_,_,_,_,_,_,k,_⟩;exact SqL.of<|k _ _ b
 ·rintro i x o H6 a ⟨m,Z,w5,v6,rfl,s6,n,l6,g6⟩;have Wy:i<((O7 c.length).map λi:Nat=>V.int (i:Int)).length:=(N4.mp a).1;rw[ll]at Wy;have ex:x=.int (i:Int):=by
   rw[Ox,SF Wy]at a;exact(OA a).symm
  subst ex;refine⟨_,rfl,_,rfl,L,rfl,⟨_,SqL.of<|n _ _ b⟩,λD3 n3=>?_⟩;refine jw [gV<|.int (i:Int)] Ev (λx=>[.str cE,.int (i:Int),x]) rfl (n _ _ b) n3 (by lia) (λx a=>by obtain⟨j,hj,rfl⟩:=l_ a;exact⟨.within i j,rfl⟩) (λx a I R k r=>⟨_,rfl,_,rfl,(by show 3<=sizeLine;decide),r⟩) λY H7 k7 s7 l7 g7=>?_;refine⟨m,D3,_,_,rfl,rfl,k7 _ _ s6,s7,OW (ah<|by lia),λv n7=>?_⟩;have B:=ad n7<|.lst<|Z++Y;have s8:=@aa H7 v (.lst<|Z++Y);have g8:Steps (upd H7 v<|.lst<|Z++Y) (Z++Y):=Steps.app (Steps.mono g6<|k7.trans B)<|Steps.mono (Steps.of g7) B;have d:=n.trans<|k7.trans B;generalize upd H7 v (.lst<|Z++Y)=H8 at B s8 g8 d;have e:=C.trans d;obtain⟨tc,ac,Q7,hm⟩:=fT S.hcs Wy;have as:=c4 _ hm;refine⟨_,rfl,_,rfl,(fz (e _ _ S.hq) (aG ac) ⟨tc,rfl,⟨_,SqT.of<|e _ _ Q7⟩,λD4 n4=>?_⟩)⟩;refine wa [gV<|.int _] Ev (λx=>[.str bT,.int _,x]) rfl (e _ _ Q7) n4 (by rw[B'];lia) (λx a=>by obtain⟨z,_,rfl⟩:=bo a;exact⟨.blocked i z,rfl⟩) (λx a I R k r=>⟨_,rfl,_,rfl,(by show 3<=sizeLine;decide),r⟩) λy4 H9 k9 s9 l9 g9=>?_;rw[B']at l9;refine⟨v,D4,_,_,rfl,rfl,k9 _ _ s8,s9,OW (ah<|by rw[N0];lia),λM8 n8=>?_⟩;have g:=ad n8<|.lst<|Z++Y++y4;exact⟨M8,_,_,_,rfl,aa,d.trans<|k9.trans g,by rw[N0,N0];lia,Steps.app (Steps.mono g8<|k9.trans g)<|Steps.mono (Steps.of g9) g⟩
 rintro o H6 ⟨m,Z,w5,v6,rfl,s6,n,l6,g6⟩;exact⟨_,rfl,q' m Z H6 (C.trans n) s6 (by lia) g6⟩
noncomputable abbrev Ex:Pn:=b9 93
theorem yQ{a:Type}{X:ab a}{x y:a}{j:Nat}(h:(X++[x])[j]?=gV y):X[j]?=gV y\/j=X.length/\x=y:=by
 by_cases e:j<X.length
 ·rw[ON e]at h;exact .inl h
 rw[OP<|by simp_all]at h;have E:j-X.length=0:=by
  have:=(N4.mp h).1;simp_all
 rw[E]at h;exact .inr ⟨by lia,OA h⟩
theorem u_{a:Type}{X:ab a}{x:a}:(X++[x])[X.length]?=gV x:=by simp
theorem yR{a:Type}{X:ab a}{x y:a}{j:Nat}(h:X[j]?=gV y):(X++[x])[j]?=gV y:=by
 rwa[ON (N4.mp h).1]
theorem RulesAt.snoc(h:RulesAt H U X)(d:RuleAt H r x):RulesAt H (U++[r]) (X++[x]):=by
 refine⟨by simp[h.len],λj y c=>?_⟩;obtain c|⟨rfl,rfl⟩:=yQ c
 ·obtain⟨e,a,b⟩:=h.at_ j y c;exact⟨e,yR a,b⟩
 exact⟨r,by rw[h.len];exact u_,d⟩
theorem EntsAt.snoc(h:EntsAt H G E X)(d:EntAt H G e x):EntsAt H G (E++[e]) (X++[x]):=by
 refine⟨by simp[h.len],λj y c=>?_⟩;obtain c|⟨rfl,rfl⟩:=yQ c
 ·obtain⟨e,a,b⟩:=h.at_ j y c;exact⟨e,yR a,b⟩
 exact⟨e,by rw[h.len];exact u_,d⟩
theorem EntAt.to(h:EntAt H G e x)(k:Kept H b)(l:∀a y,G a->H a=gV (.lst y)->b a=gV (.lst y))(g:∀a,G a->d a):EntAt b d e x:=by
 obtain⟨p,L,r,f,i,j,m,c⟩:=h;exact⟨p,L,r,f,k _ _ trivial i,l _ _ c j,m.mono k,g _ c⟩
theorem EntsAt.to(h:EntsAt H G E x)(k:Kept H c)(l:∀a Y,G a->H a=gV (.lst Y)->c a=gV (.lst Y))(g:∀a,G a->d a):EntsAt c d E x:=⟨h.len,λi y f=>by
 obtain⟨e,a,b⟩:=h.at_ i y f;exact⟨e,a,b.to k l g⟩⟩
structure Pl (t:Str)(hw:N')(es:ab dL)(i:Nat):Prop where
 ks:es.map (·.1)=((O7 i).filter<|cr t hw).map λk:Nat=>1+(k:Int)
 at_:∀e∈es,∃k:Nat,k<i/\e.1=1+(k:Int)/\Near k e.2.1/\e.2.1.length<=3
theorem Pl.skip(h:Pl t H E i)(g:cr t H i=N8):Pl t H E (i+1):=by
 refine⟨?_,λe a=>?_⟩
 ·rw[h.ks,Rg,Po,Pw<|by rw[g];exact N6];simp
 obtain⟨k,c,b⟩:=h.at_ e a;exact⟨k,Rb c,b⟩
theorem Pl.more(h:Pl t w s i)(g:cr t w i=NW)(E:e.1=1+(i:Int))(n:Near i e.2.1)(l:e.2.1.length<=3):Pl t w (s++[e]) (i+1):=by
 refine⟨?_,λa H=>?_⟩
 ·rw[OF,h.ks,Rg,Po,Pu g];simp[E]
 obtain H|H:=Os.mp H
 ·obtain⟨k,c,b⟩:=h.at_ a H;exact⟨k,Rb c,b⟩
 rw[Ob.mp H];exact⟨i,by simp,E,n,l⟩
theorem Pl.nodup(h:Pl t H e i):(e.map (·.1)).Nodup:=by
 rw[h.ks];exact wR (by lia)<|Fw Rh Y3
theorem Pl.ok(h:Pl t w E t.length):PlanOk E t w:=by
 refine⟨λi a go=>?_,λe H=>?_⟩
 ·have m:1+(i:Int)∈E.map (·.1):=by
   rw[h.ks];exact OH.mpr ⟨i,Oj.mpr ⟨QU.mpr a,go⟩,rfl⟩
  obtain⟨e,H,b⟩:=OH.mp m;cases f:E.find? _ with
  |none=>exact absurd (N3 b)<|Q3.mp f e H
  |some c=>exact⟨c,rfl,PV f,by have z:=R8 f;simpa using z⟩
 obtain⟨k,d,g,j,y⟩:=h.at_ e H;exact⟨k,d,g,j⟩
theorem Pl.len(h:Pl t H E i):E.length<=i:=by
 have e:=O1 P7 h.ks;grind
theorem pF{t:Str}{H:N'}{i:Nat}{z:Int}(h:z=(i:Int)+1):(cP t (absI z-1).toNat == H)=cr t H i:=by
 subst h;have e:(absI ((i)+1)-1).toNat=i:=by
  rw[aX<|by lia];lia
 rw[e];rfl
inductive sX (K:C')(vs:ab V)(H:Hp)(Q:VK)(E:XK):Prop
 |mk (a p:J')(ns:ab Int)(t:Str)(w:V)(hw:N')(h0:vs=[.ref a,.ref p,.str (ao hw)])(b:SqL K H a (ns.map V.int))(c:H p=gV (.tup [.str t,w]))(d:t.length<=20)(q:∀(l:J') (xs:ab V) (e:ab dL) (h:Hp),Same H h->h l=gV (.lst xs)->EntsAt h (λ_=>True) e xs->Pl t hw e t.length->Q (.ref l) h)
inductive qX (c:St)(l:J')(H:Hp)(t:Str)(hw:N')(i:Nat)(e:St)(h:Hp):Prop
 |mk (E:ab dL)(xs:ab V)(f g j k m x X b d:M' V)(I:e=c++[f,g,j,k,m,x,X,b,d])(n:h l=gV (.lst xs))(o:Same H h)(p:EntsAt h (λa=>a≠l) E xs)(q:Pl t hw E i)
inductive qY (c:St)(lr:J')(ow:N')(many:Int)(h:Hp)(i k:Nat)(e:St)(H:Hp):Prop
 |mk (r:ab (ab Int×N'))(zs:ab V)(num:Int)(x X a d:M' V)(I:e=c++[gV<|.int num,gV<|.ref lr,gV<|.bl ow,gV<|.int many,x,X,a,d])(f:H lr=gV (.lst zs))(g:∀b o,b≠lr->h b=gV o->H b=gV o)(j:RulesAt H r zs)(l:r.length=k)(m:Near i r)
inductive qZ (c d:St)(L:J')(h:Hp)(j:Nat)(a:St)(H:Hp):Prop
 |mk (s:ab Int)(num:Int)(x:M' V)(i:a=c++gV (.int num)::d++[x])(I:H L=gV (.lst<|s.map V.int))(e:∀b o,b≠L->h b=gV o->H b=gV o)(f:s.length<=j)(g:∀l∈s,1<=absI l/\absI l<=(j:Int))
theorem Ey(F:Fun K "_law_plan" "_law_plan" Ex f fd)(T:Bl mg)(VD:Fe P w K mg B 1 "_law_cell_at" (lx K))(ba:Fe P w K mg B 1 "_law_mix" xT)(Tb:Fe P w K mg B 1 "_law_own" ji):
  ay P w K mg B a_ 2 f fd ["_law_script","_law_sentence_here","_law_hand"] (sX K):=by
 refine F.okB (N:=["_law_script","_law_sentence_here","_law_hand","_law_plan_here","_law_mixed","_law_variable","_law_number_here","_law_rules","_law_otherwise","_law_many_here","_law_k","_law_literals","_law_value","_law_lesser"]) λQC A a1 s H vs Q E sc W h=>?_;obtain⟨a,p,ns,t,w,D,rfl,hS,hp,bb,q⟩:=h;refine⟨_,(ae gg
  (ae gg
  (ae (fS 5 gg (ar (aQ gg (ae gg
    (ae gg
    (ae gg
    (ae gg
    (ae gg
    (ae gg
    (ae (fS 10 gg (ae gg
     (ae gg
     (ae gg
     (ae (fS 13 gg gg)
     gg)))))
    gg))))))) ax)))
  (cQ<|pv 3)))),?_⟩
 refine⟨Oy _,λl d=>?_⟩;have nl:H l=none:=d;refine⟨_,rfl,a,ns,0,rfl,(ad d _).seq hS,Th 0,_,_,rfl,rfl,(by simp),.inl ⟨rfl,?_⟩⟩;generalize decide (V.int (cZ ns 0%2)=V.int 1)=mx;have en:((t.length:Int)+1-1).toNat=t.length:=by simp
 refine⟨_,rfl,(aS (ad d _ _ _ hp) rfl ⟨.str t,_,rfl,⟨OW (ah<|by lia),rfl⟩,_,_,rfl,rfl,_,_,rfl,by lia,dq (lo:=1) (n:=((t.length:Int)+1-1).toNat)
  (qX [gV<|.ref a,gV<|.ref p,gV<|.str<|ao D,gV<|.ref l,gV<|.bl mx] l H t D)
  ⟨[],[],NZ,NZ,NZ,NZ,NZ,NZ,NZ,NZ,NZ,rfl,aa,ad d _,⟨rfl,λS S z=>by simp at z⟩,rfl,λS z=>nomatch z⟩ ?_ ?_⟩)⟩
 ·rintro i σ H2 hi ⟨es,X,x5,x6,x7,x8,x9,ac,am,an,as,rfl,G,Y,g3,Z⟩;rw[en]at hi;have hx:=g3.len;have he:=Z.len;refine⟨_,rfl,(aS (Y _ _ hp) rfl ⟨_,rfl,_,rfl,t,D,_,rfl,(by rw[aX<|by lia];lia),(by rw[aX<|by lia];lia),(by lia),_,rfl,?_⟩)⟩;rw[pF (t:=t) (H:=D) (i:=i) (z:=1+(i:Int))<|by lia];cases g:cr t D i with
  |false=>exact ak ⟨es,X,_,_,_,_,_,_,_,_,_,rfl,G,Y,g3,Z.skip g⟩
  |true=>
   refine ap ⟨_,rfl,_,rfl,_,_,rfl,rfl,a,ns,_,rfl,Y.seq hS,(by lia),?_⟩;refine fw ?_;dsimp only;refine c7 (λa2 H'=>∃N,a2=[gV<|.ref a,gV<|.ref p,gV<|.str<|ao D,gV<|.ref l,gV<|.bl mx,gV<|.int (1+(i:Int)),gV<|.int N,x7,x8,x9,ac,am,an,as]/\H2=H') (λR hR=>?_) ?_
   ·exists _,rfl,_,rfl;cases mx with
    |false=>exact ak<|hR _ _ ⟨_,rfl,rfl⟩
    |true=>exact ap ⟨_,rfl,_,rfl,_,_,_,rfl,_,_,rfl,rfl,.inr (by simp),_,rfl,_,rfl,_,_,rfl,rfl,_,_,_,rfl,_,_,rfl,rfl,hR _ _ ⟨_,rfl,rfl⟩⟩
   rintro S S ⟨N,rfl,rfl⟩;refine⟨Oy _,λL v=>?_⟩;have x:l≠L:=ag G v;refine⟨_,rfl,_,_,rfl,rfl,⟨by simp,by simp⟩,_,_,rfl,rfl,(by simp),.inl ⟨rfl,?_⟩⟩;exists _,rfl,_,_,rfl,rfl,(by simp);exists _,rfl,_,_,rfl,rfl,⟨by simp,by simp⟩;have m0:=QW N (show(4:Int)≠0 by decide);have m1:=QL N (show(0:Int)<4 by decide);generalize decide (V.int (N/4%2)=V.int 1)=ow;generalize N%4=m at m0 m1;refine⟨_,rfl,m,rfl,(by lia),(by lia),dq (lo:=0) (n:=m.toNat)
    (qY [gV<|.ref a,gV<|.ref p,gV<|.str<|ao D,gV<|.ref l,gV<|.bl mx,gV<|.int (1+(i:Int))] L ow m H2 i)
    ⟨[],[],_,_,_,_,_,rfl,aa,(λb o y e=>by rw[af y];exact e),⟨rfl,λS S z=>by simp at z⟩,rfl,λS z=>nomatch z⟩ ?_ ?_⟩
   ·rintro k σ H3 hk ⟨rs,zs,u,a3,a4,a5,a6,rfl,j1,j2,j3,j4,j5⟩;have I:H3 l=gV (.lst X):=j2 _ _ x G;refine⟨Oy _,λla Zy=>?_⟩;have a7:L≠la:=ag j1 Zy;refine⟨_,rfl,_,_,rfl,rfl,(by simp),.inl ⟨rfl,?_⟩⟩;generalize decide (V.int (u%2)=V.int 1)=J;exists _,rfl,_,_,rfl,rfl,⟨by simp,by simp⟩;have av:((1+(i:Int))-1).toNat=i:=by lia
    refine⟨_,rfl,_,_,rfl,by lia,dq (lo:=1) (n:=((1+(i:Int))-1).toNat)
     (qZ [gV<|.ref a,gV<|.ref p,gV<|.str<|ao D,gV<|.ref l,gV<|.bl mx,gV<|.int (1+(i:Int))] [gV<|.ref L,gV<|.bl ow,gV<|.int m,gV<|.int (0+(k:Int)),gV<|.ref la,gV<|.bl J] la H3)
     ⟨[],_,_,rfl,aa,(λb o y e=>by rw[af y];exact e),N9 _,λS z=>nomatch z⟩ ?_ ?_⟩
    ·rintro j σ M hj ⟨C,u,az,rfl,u1,u2,u3,u4⟩;rw[av]at hj;refine⟨_,rfl,_,_,rfl,rfl,(by simp),_,_,rfl,rfl,_,rfl,cn (λc=>?_) λc=>?_⟩
     ·have c':u%4<2:=Oh c;have c0:=QW u (show(4:Int)≠0 by decide);refine⟨_,rfl,.inl ⟨rfl,_,SqL.of u1⟩,_,rfl,_,rfl,(by show 2<=sizeLine;decide),λe he=>?_⟩;refine⟨_,rfl,_,_,rfl,rfl,(by simp),(fz aa (Cf (r:=u%4)<|by lia) ⟨_,_,rfl,rfl,.inr ⟨?_,?_⟩,la,C.map V.int,_,rfl,rfl,?_,?_,?_⟩)⟩
      ·obtain z|z:=ly (u%4)<;>rw[z]<;>decide
      ·obtain z|z:=ly (u%4)<;>rw[z]<;>decide
      ·rw[af<|ag u1 he];exact u1
      ·rw[B'];exact ah (by lia)
      refine⟨_,rfl,_,_,rfl,rfl,⟨by simp,by simp⟩,C++[(1+(j:Int))*AN (u%4)],_,_,rfl,?_,λb o y eb=>?_,by simp_all,λl d=>?_⟩
      ·rw[aa,OF];rfl
      ·have e4:=u2 b o y eb;rw[af y,af<|ag e4 he];exact e4
      obtain d|d:=Os.mp d
      ·have:=u4 l d;lia
      rw[Ob.mp d,(zu (v:=1+(j:Int)) (by lia)<|ly _).1];lia
     exact⟨_,rfl,_,_,rfl,rfl,⟨by simp,by simp⟩,C,_,_,rfl,u1,u2,aaa u3,λl d=>by have:=u4 l d;lia⟩
    rintro σ M ⟨C,u,az,rfl,u1,u2,u3,u4⟩;rw[av]at u3 u4;have aC:=u2 _ _ a7 j1;refine⟨_,rfl,.inl ⟨rfl,_,SqL.of aC⟩,_,rfl,la,_,rfl,.inl ⟨SqL.of u1,λO a8=>⟨_,rfl,(by show 2<=sizeLine;decide),λqv U=>?_⟩⟩⟩;have k5:=ad a8<|.tup<|C.map V.int;have s5:=@aa M O (.tup<|C.map V.int);generalize upd M O (.tup<|C.map V.int)=H5 at k5 s5 U;have k6:=k5.trans<|ad U<|.tup [.ref O,.bl J];have s6:=@aa H5 qv (.tup [.ref O,.bl J]);have aF:=ad U (.tup [.ref O,.bl J]) _ _ s5;generalize upd H5 qv (.tup [.ref O,.bl J])=H6 at k6 s6 aF;have aL:=k6 _ _ aC;have kN:∀{o'},Kept H6 (upd H6 L<|.lst o'):=λ{o'} b o n e=>by
     rw[af λz=>by rw[z,aL]at e;cases e;exact n];exact e
    have zl:=j3.len;refine⟨L,_,_,rfl,rfl,aL,ah (by lia),rs++[(C,J)],zs++[.ref qv],u,gV<|.int (0+(k:Int)),gV<|.ref la,gV<|.bl J,az,rfl,aa,λb o y eb=>?_,?_,by rw[N0,j4];rfl,λr W=>?_⟩
    ·rw[af y];have e3:=j2 b o y eb;exact k6 _ _<|u2 _ _ (ag e3 Zy) e3
    ·exact((j3.mono λb o n e=>k6 _ _<|u2 _ _ (ag e Zy) e).mono kN).snoc ⟨qv,O,rfl,kN _ _ trivial s6,kN _ _ trivial aF⟩
    obtain W|W:=Os.mp W
    ·exact j5 r W
    rw[Ob.mp W];exact⟨by lia,u4⟩
   rintro σ H3 ⟨rs,zs,u,a3,a4,a5,a6,rfl,j1,j2,j3,j4,j5⟩;have I:H3 l=gV (.lst X):=j2 _ _ x G;refine⟨_,rfl,.inl ⟨rfl,_,SqL.of I⟩,_,rfl,_,rfl,_,rfl,(by show 3<=sizeLine;decide),λpt a9=>?_⟩;have k4:=ad a9<|.tup [.int (1+(i:Int)),.ref L,.bl ow];have s4:=@aa H3 pt (.tup [.int (1+(i:Int)),.ref L,.bl ow]);generalize upd H3 pt (.tup [.int (1+(i:Int)),.ref L,.bl ow])=M at k4 s4;have a0:=k4 _ _ I;have kK:∀b o,b≠L->b≠l->H2 b=gV o->upd M l (.lst<|X++[.ref pt]) b=gV o:=λb o n1 n2 e=>by
    rw[af n2];exact k4 _ _<|j2 b o n1 e
   have kN:Kept M (upd M l<|.lst<|X++[.ref pt]):=λb o n e=>by
    rw[af λz=>by rw[z,a0]at e;cases e;exact n];exact e
   refine⟨l,_,_,rfl,rfl,a0,ah (by lia),es++[(1+(i:Int),rs,ow)],X++[.ref pt],_,_,_,_,_,_,_,_,_,rfl,aa,λb o eb=>?_,?_,Z.more g rfl j5 (by lia)⟩
   ·rw[af<|ag eb nl];have e2:=Y b o eb;exact k4 _ _<|j2 b o (ag e2 v) e2
   refine(g3.to (λb o n e=>kK b o (ag e v) (λz=>by rw[z,G]at e;cases e;exact n) e) (λb ys n e=>kK b _ (ag e v) n e) λS n=>n).snoc ?_;exact⟨pt,L,zs,rfl,kN _ _ trivial s4,by rw[af x.symm];exact k4 _ _ j1,(j3.mono<|Same.kept k4).mono kN,x.symm⟩
 rintro σ H2 ⟨es,X,x5,x6,x7,x8,x9,ac,am,an,as,rfl,G,Y,g3,Z⟩;rw[en]at Z;exact⟨_,rfl,q l X es H2 Y G (g3.to (λS S S e=>e) (λS S S e=>e) λS S=>trivial) Z⟩
noncomputable abbrev Im:Pn:=b9 94
noncomputable def AE(E:ab dL)(v:Int)(b:ab N'):V:=match E.find? λe=>decide (e.1=v)with
 |some e=>.bl<|lY e.2.1 b e.2.2
 |none=>.non
inductive w4 (vs:ab V)(H:Hp)(Q:VK)(E:XK):Prop
 |mk (l b:J')(v:Int)(s:ab dL)(xs:ab V)(G:J'->Prop)(bs:ab N')(h0:vs=[.ref l,.int v,.ref b])(a:H l=gV (.lst xs))(c:EntsAt H G s xs)(d:H b=gV (.lst<|bs.map V.bl))(f:bs.length<=900)(g:∀e∈s,e.1=v->Near bs.length e.2.1)(q:∀h:Hp,Same H h->Q (AE s v bs) h)
theorem EntAt.mono(h:EntAt H G e x)(k:Same H a):EntAt a G e x:=by
 obtain⟨p,l,r,b,c,d,f,g⟩:=h;exact⟨p,l,r,b,k _ _ c,k _ _ d,f.mono<|Same.kept k,g⟩
noncomputable def vc(b:ab N'):V->N'
 |.int l=>!hit b l
 |_=>N8
theorem GJ(b:ab N')(c:ab Int):decide (V.int (((((c.map V.int).filter<|vc b).map id).length:Nat):Int)=V.int 0)=c.all (hit b):=by
 rw[B']
 induction c with
 |nil=>rfl
 |cons l r i=>
  rw[OT,Rp];cases g:hit b l with
  |true=>
   rw[Pw (p:=vc b) (a:=V.int l) (by show¬(!hit b l)=NW;rw[g];exact N6),i];rfl
  |false=>
   rw[Pu (p:=vc b) (a:=V.int l) (by show(!hit b l)=NW;rw[g];rfl),OG];rfl
theorem Ku(h:1<=absI l)(H:absI l<=(B.length:Int)):∃b,kZ (B.map V.bl) (absI l-1)=gV (.bl b)/\(!decide (V.bl b=V.bl (decide (0<l))))=!hit B l:=by
 obtain⟨b,a,e⟩:=gH h H;exists b,a;rw[lZ h H]at e;rw[jl,V.bl.inj e]
inductive vd (l:J')(v:Int)(b:J')(H:Hp)(E:ab dL)(i:Nat)(a:ab (M' V))(h:Hp):Prop
 |mk (c:M' V)(d:M' V)(f:M' V)(g:M' V)(j:M' V)(I:a=[gV (.ref l),gV (.int v),gV (.ref b),c,d,f,g,j])(k:Same H h)(m:(E.take i).find? (λe=>decide (e.1=v))=NZ)
inductive ve (l:J')(v:Int)(b:J')(e:dL)(lr:J')(H:Hp)(bs:ab N')(j:Nat)(a:ab (M' V))(h:Hp):Prop
 |mk (c:M' V)(d:M' V)(i:a=[gV (.ref l),gV (.int v),gV (.ref b),gV (.int e.1),gV (.ref lr),gV (.bl e.2.2),c,d])(I:Same H h)(f:(e.2.1.take j).find? (λr=>r.1.all<|hit bs)=NZ)
theorem GK(F:Fun K "_law_answer" "_law_answer" Im f fd)(T:Bl mg):ay P w K mg an a_ 1 f fd ["_law_plan_here","_law_variable","_law_begun"] w4:=by
 refine F.okB (N:=["_law_plan_here","_law_variable","_law_begun","_law_mine","_law_rules","_law_otherwise","_law_literals","_law_value"]) λQC A O s H vs Q E sc hr h=>?_;obtain⟨l,b,v,g,xs,G,B,rfl,h1,h2,h3,h9,N,q⟩:=h;have hu:=hr.units;refine⟨_,(ae (fk PU rfl (aD<|pv 0) gg
   (ar (aQ gg (ae (fk PU rfl (aD<|pv 4) gg
     (ar<|aQ (oG (dN hu) (aN ca rfl T.len P5<|fC<|fW ["_law_one","_law_begun"] [NZ,gV 2] (bA<|pv 6) (t:=λS S S S=>(bM<|oG (ro hu) (xP (K:=K) (pv 1) gg) gg))) bX) (cQ<|pv 7) ax))
    (cQ<|pv 5)) ax)))
  (cQ fE)),?_⟩
 refine⟨_,rfl,l,rfl,⟨_,SqL.of h1⟩,cy (K:=K) (a:=l) (X:=xs) (vd l v b H g) ⟨NZ,NZ,NZ,NZ,NZ,rfl,Same.refl _,rfl⟩ ?_ ?_ ?_⟩
 ·rintro i m C S ⟨S,S,S,S,S,S,c,S⟩;exact SqL.of<|c _ _ h1
 ·rintro i x m C t ⟨v3,v4,v5,I,J,rfl,c,W⟩;obtain⟨e,u,L⟩:=h2.at_ i x t;obtain⟨p,M,rs,rfl,p1,p2,p3,S⟩:=L.mono c;have U:=N5 u;have et:g.take (i+1)=g.take i++[e]:=by rw[OJ,u];rfl
  exists p,_,rfl,SqT.of p1,rfl,_,_,rfl,_,_,rfl,_,_,rfl,rfl;refine⟨_,rfl,_,rfl,.inl ⟨rfl,_,rfl,?_⟩⟩;by_cases n:e.1=v
  ·have X:g.find? (λe=>decide (e.1=v))=gV e:=kP u W<|N3 n;have ed:AE g v B=.bl (lY e.2.1 B e.2.2):=by
    unfold AE;rw[X]
   rw[ed]at q;rw[N3<|O1 V.int n];refine ap ?_;refine⟨_,rfl,M,rfl,⟨_,SqL.of p2⟩,cy (K:=K) (a:=M) (X:=rs) (ve l v b e M C B) ⟨_,_,rfl,Same.refl _,rfl⟩ ?_ ?_ ?_⟩
   ·rintro j m H3 S ⟨S,S,S,d,S⟩;exact SqL.of<|d _ _ p2
   ·rintro j y m H3 hy ⟨I,J,rfl,d,a⟩;obtain⟨r,Z,Y⟩:=p3.at_ j y hy;obtain⟨qa,sv,rfl,c1,c2⟩:=Y.mono<|Same.kept d;have ac:=N5 Z;obtain⟨as,o⟩:=N e U n r ac;have av:e.2.1.take (j+1)=e.2.1.take j++[r]:=by rw[OJ,Z];rfl
    exists qa,_,rfl,SqT.of c1,rfl,_,_,rfl,_,_,rfl,rfl;refine⟨_,rfl,sv,rfl,⟨_,SqT.of c2⟩,λD hD=>?_⟩;refine aY [gV<|.ref b] (vc B) id rfl c2 hD (by rw[B'];lia) ?_ ?_ ?_
    ·intro x t H' R k r';obtain⟨z,hz,rfl⟩:=bo t;obtain⟨bb,am,WC⟩:=Ku (o z hz).1 (o z hz).2;refine⟨_,rfl,_,rfl,z,rfl,_,_,rfl,rfl,(fz (k _ _<|d _ _<|c _ _ h3) am ⟨_,rfl,_,_,rfl,rfl,.inl ⟨rfl,_,rfl,?_⟩⟩)⟩;rw[WC];exact r'
    ·intro x t S H' R k r';exact⟨_,rfl,r'⟩
    have kD:=ad hD<|.lst<|((r.1.map V.int).filter<|vc B).map id;refine⟨.ref D,_,rfl,.inl ⟨_,SqL.of aa,rfl⟩,.inl ⟨rfl,_,rfl,?_⟩⟩;rw[GJ];cases gh:r.1.all _ with
    |true=>
     have ea:lY e.2.1 B e.2.2=r.2:=by
      unfold lY;have X:e.2.1.find? _=gV r:=kP Z a gh;rw[X]
     rw[ea]at q;exact ap ⟨_,rfl,q _<|c.trans<|d.trans kD⟩
    |false=>
     exact ak ⟨_,_,rfl,d.trans kD,i9 Z a gh⟩
   rintro m H3 ⟨I,J,rfl,d,a⟩;rw[Oi<|by rw[p3.len];exact N9 _]at a;exists _,rfl;unfold lY at q;rw[a]at q;exact q _<|c.trans d
  rw[N7 λz=>n<|V.int.inj z];exact ak ⟨_,_,_,_,_,rfl,c,i9 u W<|N7 n⟩
 rintro m C ⟨v3,v4,v5,I,J,rfl,c,W⟩;rw[Oi<|by rw[h2.len];exact N9 _]at W;unfold AE at q;rw[W]at q;exact q _ c
noncomputable abbrev yS:Pn:=b9 96
noncomputable abbrev yT:Pn:=b9 97
noncomputable abbrev Ez:Pn:=b9 98
inductive pG (vs:ab V)(H:Hp)(Q:VK)(E:XK):Prop
 |mk (v:V)(f:J')(t:Str)(C:ab (ab Int))(bs:ab N')(h0:vs=[v,.ref f])(a:RD H (jS t C) v)(b:H f=gV (.lst (bs.map V.bl)))(d:ug C)(e:∀c∈C,∀l∈c,1<=absI l/\absI l<=(bs.length:Int))(q:∀h:Hp,Same H h->Q (.bl (C.all λc=>c.any<|hit bs)) h)
def GL(H:Hp)(m:Nat)(X:ab V):Prop:=∀x∈X,∃(r:ab N') (a:J'),x=.ref a/\H a=gV (.lst<|r.map V.bl)/\r.length=m
inductive pH (vs:ab V)(H:Hp)(Q:VK)(E:XK):Prop
 |mk (m:Nat)(h0:vs=[.int (m:Int)])(a:m<=8)(q:∀(l:J') (xs:ab V) (h:Hp),Same H h->h l=gV (.lst xs)->xs.length=2^m->GL h m xs->Q (.ref l) h)
inductive sY (vs:ab V)(H:Hp)(Q:VK)(E:XK):Prop
 |mk (p:J')(t:Str)(w:V)(hw:N')(h0:vs=[.ref p,.str<|ao hw])(a:H p=gV (.tup [.str t,w]))(b:t.length<=8)(q:∀h:Hp,Same H h->Q (.int (jH t hw t.length:Nat)) h)
noncomputable def kR(b:ab N'):V->N'
 |.int l=>hit b l
 |_=>N8
theorem sZ(b:ab N')(c:ab Int):decide (V.int (((((c.map V.int).filter<|kR b).map id).length:Nat):Int)=V.int 0)=!c.any (hit b):=by
 induction c with
 |nil=>rfl
 |cons l r i=>
  rw[OT,Qu];cases g:hit b l with
  |false=>
   rw[Pw (by show¬hit b l=NW;rw[g];exact N6),i];rfl
  |true=>
   rw[Pu (a:=V.int l) g];rfl
theorem s_(h:1<=absI l)(H:absI l<=(B.length:Int)):∃b,kZ (B.map V.bl) (absI l-1)=gV (.bl b)/\decide (V.bl b=V.bl (decide (0<l)))=hit B l:=by
 obtain⟨b,a,e⟩:=gH h H;exists b,a;rw[lZ h H]at e;rw[jl,V.bl.inj e]
theorem EA(h:PlanOk E t H)(a:i<t.length)(o:cr t H i=NW):AE E (1+(i:Int)) b=.bl (iN E i b):=by
 obtain⟨e,f,z,z⟩:=h.has i a o;unfold AE iN;rw[f]
inductive Io (H:Hp)(D p:J')(t:Str)(hw:N')(i:Nat)(a:St)(ys:ab V)(h:Hp):Prop
 |mk (v:M' V)(h0:a=[v,gV<|.str<|ao hw,gV<|.ref p])(b:ys.length=jH t hw i)(c:h D=gV (.lst ys))(d:Same H h)
inductive vf (p:J')(g:J')(H:Hp)(C:ab (ab Int))(bs:ab N')(i:Nat)(a:ab (M' V))(h:Hp):Prop
 |mk (v:M' V)(I:a=[gV (.ref p),gV (.ref g),v])(b:Same H h)(d:((C.take i).all λc=>c.any<|hit bs)=NW)
theorem AF(F:Fun K "_law_comes" "_law_comes" yS f Z)(T:Bl mg):ay P w K mg B a_ 1 f Z ["_law_sentence_here","_law_filling"] pG:=by
 refine F.okB (N:=["_law_sentence_here","_law_filling","_law_clause"]) λQC A o s H vs Q E sc hr h=>?_;obtain⟨v,g,t,C,b,rfl,hd,hg,m,n,q⟩:=h;obtain⟨p,u,xs,rfl,h1,y,G⟩:=fH hd;have I:=hr.units;refine⟨_,(ae (fS 2 (aD gg)<|ar<|aQ (oG (dN I) (aN ca rfl T.len P5<|fC<|fW ["_law_one","_law_filling"] [NZ,gV 1] (bA<|pv 2) (t:=λS S S S=>(bM<|oG (dN I) (xP (K:=K) (pv 1) gg) gg))) bX) (cQ fm) ax)
  (cQ fm)),?_⟩
 refine⟨_,rfl,(aS h1 rfl ⟨u,rfl,⟨_,SqL.of y⟩,cy (X:=xs)
  (vf p g H C b) ⟨NZ,rfl,Same.refl _,rfl⟩ ?_ ?_ ?_⟩)⟩
 ·rintro i J L S ⟨S,S,a,S⟩;exact SqL.of<|a _ _ y
 ·rintro i x J L d ⟨v2,rfl,a,r⟩;obtain⟨c,M,tc,rfl,N⟩:=G.get d;have X:=N5 M;have e:C.take (i+1)=C.take i++[c]:=by rw[OJ,M];rfl
  refine⟨_,rfl,tc,rfl,⟨_,SqT.of<|a _ _ N⟩,λD O=>aY [gV<|.ref g] (kR b) id rfl (a _ _ N) O (by rw[B'];have:=m.2 c X;lia) ?_ ?_ ?_⟩
  ·intro x d H' R k j;obtain⟨z,U,rfl⟩:=bo d;obtain⟨bb,l,WC⟩:=s_ (n c X z U).1 (n c X z U).2;refine⟨_,rfl,_,rfl,z,rfl,_,_,rfl,rfl,(fz (k _ _<|a _ _ hg) l ⟨_,rfl,_,_,rfl,rfl,.inl ⟨rfl,_,rfl,?_⟩⟩)⟩;rwa[WC]
  ·intro x d S H' R k j;exact⟨_,rfl,j⟩
  have W:=ad O<|.lst<|((c.map V.int).filter<|kR b).map id;refine⟨.ref D,_,rfl,.inl ⟨_,SqL.of aa,rfl⟩,.inl ⟨rfl,_,rfl,?_⟩⟩;rw[sZ];cases Y:c.any _ with
  |true=>
   refine ak ⟨_,rfl,a.trans W,?_⟩;rw[e,S2,r,Rp,Y];rfl
  |false=>
   have ef:(C.all λc=>c.any<|hit b)=false:=TM.mpr ⟨c,X,by lia⟩;rw[ef]at q;exact ap<|q _<|a.trans W
 rintro J L ⟨v2,rfl,a,r⟩;rw[Oi<|by rw[G.length];exact N9 _]at r;rw[r]at q;exact q _ a
theorem EB(F:Fun K "_law_many" "_law_many" Ez f r)(T:Bl m)(u:Fe P w K m B 1 "_law_own" ji):ay P w K m B a_ 2 f r ["_law_sentence_here","_law_hand"] sY:=by
 refine F.okB (N:=["_law_sentence_here","_law_hand"]) λG A o s H I Q E J v h=>?_;obtain⟨p,t,w,a,rfl,e,L,q⟩:=h;exists _,(cQ<|aN ca rfl T.len P5<|fC<|fW ["_law_k","_law_hand","_law_sentence_here"] [NZ,gV 1,gV 0] gg (t:=λZ Z Z Z=>(bM<|ij<|gR<|B4 u v<|aV (xP (pv 2) bX) gg)));refine⟨_,rfl,(aS e rfl ⟨.str t,_,rfl,⟨OW (ah<|by lia),rfl⟩,(t.length),rfl,(by simp),(by lia),λD g=>?_⟩)⟩;have n:((t.length:Int)).toNat=t.length:=by rfl
 refine fG (Io H D p t a) ⟨NZ,rfl,rfl,aa,ad g _⟩ ?_ ?_ ?_
 ·rintro i j y d Z ⟨Z,Z,Z,b,Z⟩;exact b
 ·rintro i j y d x ⟨z,rfl,l,b,k⟩;rw[n]at x;have c:=l8 t a i;have C:=sM t a i;refine⟨_,rfl,(aS (k _ _ e) rfl ⟨_,rfl,_,rfl,_,_,rfl,rfl,t,a,(0)+(i)+1,rfl,(by rw[aX<|by lia];lia),(by rw[aX<|by lia];lia),by lia,_,rfl,?_⟩)⟩;rw[pF (i:=i)<|by simp];cases go:cr t a i with
  |true=>
   exact ak ⟨_,rfl,by simp_all,b,k⟩
  |false=>
   rw[go]at c;refine ap ⟨_,rfl,b,ah (by lia),_,rfl,by rw[N0,l,c];rfl,aa,k.upd_new g _⟩
 rintro j y d ⟨z,rfl,l,b,k⟩;exists .ref D,_,rfl,.inl ⟨_,SqL.of b,rfl⟩;simp_all
inductive vg (m:Nat)(D:J')(H:Hp)(i:Nat)(b:ab (M' V))(ys:ab V)(h:Hp):Prop
 |mk (I:(∃v,b=[v,gV<|.int (m:Int)]))(c:h D=gV (.lst ys))(d:Same H h)(e:ys.length=i)(f:∀y∈ys,∃(r:ab N') (a:J'),y=.ref a/\a≠D/\h a=gV (.lst<|r.map V.bl)/\r.length=m)
theorem AG(F:Fun K "_law_lists" "_law_lists" yT f L)(T:Bl M):ay P w K M B a_ 1 f L ["_law_many_here"] pH:=by
 refine F.okB (N:=["_law_many_here"]) λQC A o s H vs Q E sc hr h=>?_;obtain⟨m,rfl,O,q⟩:=h;have U:2^m<=256:=RF (by decide) O;have v:(1:Int)*2^((m:Int)).toNat=((2^m:Nat)):=by
  simp
 generalize 2^m=N at U v q;exists _,(cQ<|rA (i:=[NZ,gV 0]) rfl cS gg (λS S S S=>(iP (i:=0) (nD ["_law_number_here","_law_many_here"]) rfl<|Ux rfl)) (λS S S S=>mW) λS S S S=>(fW ["_law_k","_law_number_here","_law_many_here"] [NZ,gV 0,gV 1] gg));exists _,rfl,_,_,rfl,rfl,⟨by simp,by lia,by simp⟩;rw[v];refine⟨(N),rfl,(by simp),(by lia),λD x=>?_⟩;have C:((N:Int)).toNat=N:=by rfl
 refine fG (vg m D H) ⟨⟨NZ,rfl⟩,aa,ad x _,rfl,λS z=>nomatch z⟩ ?_ ?_ ?_
 ·rintro i G Y d S ⟨S,c,S⟩;exact c
 ·rintro i G Y d W ⟨⟨v0,rfl⟩,c,j,l,n⟩;rw[C]at W;refine cg ⟨_,rfl,(m),rfl,(by simp),(by lia),λe Z=>?_⟩;refine uc (n:=m) [gV<|.int<|(0)+(i),gV<|.int _] (λk=>.bl (decide (V.int (Tt (((0)+(i))/2^((m:Int)-1-((0)+(k))).toNat) 1)=V.int 1))) rfl Z (by lia) (λS S S r=>r) ?_ ?_
  ·intro k hk H' R k' r;exact⟨_,rfl,_,rfl,_,_,rfl,rfl,_,rfl,_,_,rfl,rfl,_,_,rfl,rfl,(by lia),_,_,rfl,rfl,.inl ⟨rfl,r⟩⟩
  obtain⟨r,X,rl⟩:∃r,(O7 m).map (λk:Nat=>V.bl (decide (V.int (Tt (((0)+(i))/2^((m:Int)-1-((0)+(k))).toNat) 1)=V.int 1)))=r.map V.bl/\r.length=m:=⟨(O7 m).map _,by rw[OZ];rfl,by rw[B',PB]⟩;rw[X];have nD:=(ag c Z).symm;have g:=ad Z<|.lst<|r.map V.bl;have I:=@aa d e (.lst<|r.map V.bl);generalize upd d e _=H3 at g I ⊢;refine⟨g _ _ c,ah (by lia),⟨_,rfl⟩,aa,(j.trans g).upd_new x _,by rw[N0,l];rfl,λy b=>?_⟩;obtain b|b:=Os.mp b
  ·obtain⟨r,a,p,J,t,u⟩:=n y b;exact⟨r,a,p,J,by rw[af J];exact g _ _ t,u⟩
  rw[Ob.mp b];exact⟨r,e,rfl,nD,by rwa[af nD],rl⟩
 rintro G Y d ⟨S,c,j,l,n⟩;refine q D Y d j c l λy b=>?_;obtain⟨r,a,p,S,t,u⟩:=n y b;exact⟨r,a,p,t,u⟩
theorem w9:∀k,k<=i->jJ e t H (b.take i) k=jJ e t H b k
 |0,_=>rfl
 |k+1,h=>by
  rw[jJ,jJ,w9 k (YB h),K',Pj (Pf (Ua _) h),<-K']
theorem vh:∀n,k<n->(jJ E t H b n)[k]?=gV (if cr t H k=NW then iN E k (jJ E t H b k)else b.getD k N8)
 |n+1,h=>by
  rw[jJ];by_cases e:k<n
  ·rw[ON<|by rwa[dC]];exact vh n e
  have:k=n:=by lia
  subst this;rw[OP (by rw[dC];exact N9 _),dC,QI];rfl
def LedRel(t:Str)(h:N')(os:ab (Int×ab Int×N'))(b c:ab N'):Prop:=b.length=t.length/\c.length=t.length/\∀i,i<t.length->(cr t h i=N8/\b[i]?=c[i]?)\/(cr t h i=NW/\∃y,c[i]?=gV y/\b[i]?=gV (fV os ((i:Int)+1) (b.take i) y))
theorem GM{os:ab (Int×ab Int×N')}(l:b.length=t.length)(h:∀i,i<t.length->cr t H i=NW->b[i]?=gV (pT e (fV os) t H i<|b.take i)):LedRel t H os b (jJ e t H b t.length):=
 ⟨l,dC _ _ _ _ _,λi a=>by
  rw[vh _ a];cases o:cr t H i with
  |false=>simp_all
  |true=>
   refine .inr ⟨rfl,_,by rw[On rfl],?_⟩;rw[h i a o];unfold pT;rw[w9 i<|N9 _]⟩
theorem LedRel.plain{os:ab (Int×ab Int×N')}(h:LedRel t w os b c){i:Nat}(H:i<t.length)(n:os.find? (λo=>decide (o.1=(i:Int)+1))=NZ):b[i]?=c[i]?:=by
 obtain⟨z,e⟩|⟨z,y,a,E⟩:=h.2.2 i H
 ·exact e
 unfold fV at E;rw[n]at E;rw[a,E]
theorem LedRel.same{os:ab (Int×ab Int×N')}(h:LedRel t w os b c)(n:∀i,i<t.length->b[i]?=c[i]?):b=c:=RI λi=>by
 by_cases H:i<t.length
 ·exact n i H
 rw[O_ (by have:=h.1;simp_all),O_ (by have:=h.2.1;simp_all)]
theorem LedRel.none(h:LedRel t w [] b c):b=c:=h.same λz H=>h.plain H rfl
theorem LedRel.one{v:Nat}{c:ab Int}{b:N'}{z:Int}(a:z=(v:Int)+1)(h:LedRel t w [(z,c,b)] B C):∀j,j≠v->B[j]?=C[j]?:=λj n=>by
 by_cases H:j<t.length
 ·exact h.plain H (Q3.mpr λo m=>by
   rw[Ob.mp m];simp;lia)
 rw[O_ (by have:=h.1;simp_all),O_ (by have:=h.2.1;simp_all)]
theorem LedRel.own{v:Nat}{c:ab Int}{b:N'}{z:Int}(H:z=(v:Int)+1)(d:v<t.length)(i:cr t w v=NW)(h:LedRel t w [(z,c,b)] B C):(c.any (hit<|B.take v)=NW/\B[v]?=C[v]?)\/(c.any (hit<|B.take v)=N8/\B[v]?=gV b):=by
 obtain⟨e,x⟩|⟨x,y,j,a⟩:=h.2.2 v d
 ·simp_all
 have f:[(z,c,b)].find? (λo=>decide (o.1=(v:Int)+1))=gV _:=Rk (N3 H);unfold fV at a;rw[f]at a;lia
theorem gO(h:bE c b=NW->bE d C=NW)(e:bE d C=N8):bE c b=false:=by
 lia
theorem ib(h:1<=absI z):absI z=(((absI z-1).toNat:Nat):Int)+1:=by lia
theorem pI(h:B[(absI z-1).toNat]?=gV b):hit B z=(b == decide (0<z)):=by unfold hit;rw[h]
theorem w_(H:bG t C (Nx.within i j).d=gV d)(R:LedRel t w (jL t C w<|.within i j) b u)(e:bE d u=w):bE C b=w:=by
 obtain rfl:=LedRel.none R;obtain⟨I,k,H⟩:=Pt.mp H;obtain⟨J,E,H⟩:=Pt.mp H
 split at H
 ·rename_i g;cases H;rw[OO]at g;cases w with
  |true=>
   refine fD (λc a=>?_) e;obtain rfl|m:=oA (i:=I) a
   ·exact⟨_,FQ (aA E).1 (by lia),λl f=>Of.mp<|O2.mp g.2 l f⟩
   ·exact⟨c,m,λ_ h=>h⟩
  |false=>exact gO (fD λc a=>⟨c,j0 a,λ_ h=>h⟩) e
 simp_all
theorem AH(j:∀c∈C,au t.length c)(k:bG t C (Nx.unit i).d=gV D)(R:LedRel t H (jL t C H<|.unit i) b u)(e:bE D u=H):bE C b=H:=by
 rw[show(Nx.unit i).d=.tuple _ from rfl,pA]at k;obtain⟨I,E,a⟩:=Pt.mp k;have p:I=i:=by have:=(aA E).2;lia
 subst p;have d:=sJ (aA E).1
 split at a
 ·rename_i g;cases a;obtain⟨z,s,n⟩:=DR g;have f:LedRel t H (if H=NW then [(absI<|(C.getD I []).getD 0 0,[],decide _)]else []) b u:=R;rw[s]at d e f;have o:=e;have r:=(j _ d).2 z Ou;have v:(absI z-1).toNat<t.length:=by omega
  cases H with
  |true=>
   have R2:LedRel t NW [(absI z,[],decide (0<z))] b u:=f;obtain⟨q,_⟩|⟨_,q⟩:=LedRel.own (ib r.1) v (by unfold cr;unfold dQ at n;rw[n];rfl) R2
   ·cases q
   ·exact xS (λc h l m=>((j c h).2 l m).1) r.1 (LedRel.one (ib r.1) R2) (by rw[pI q];simp) o
  |false=>
   obtain rfl:=LedRel.none f;exact gO (B7 r.1 (by rw[R.1];simp_all) d) o
 simp_all
theorem AI(f:∀c∈C,au t.length c)(b:bG t C (Nx.pure z).d=gV D)(R:LedRel t H (jL t C H<|.pure z) B u)(e:bE D u=H):bE C B=H:=by
 rw[show(Nx.pure z).d=.tuple _ from rfl,pB]at b;rw[show kI t C _=if((C.any _)&&!(C.any _))=NW then gV _ else NZ from rfl]at b
 split at b
 ·rename_i g;cases b;rw[OO]at g;obtain⟨i,X,j⟩:=OC.mp g.1;have r:=(f i X).2 z<|Of.mp j;have p:∀c∈C,-z∉c:=λc X n=>by
   simp_all
  have v:(absI z-1).toNat<t.length:=by omega
  have a:LedRel t H (if(dQ t z == H)=NW then [(absI z,[],decide _ == H)]else []) B u:=R;cases q:dQ t z with
  |true=>
   rw[q]at e;rw[q]at a;cases H with
   |true=>
    have R2:=a;obtain⟨y,_⟩|⟨_,y⟩:=LedRel.own (ib r.1) v (by unfold cr;unfold dQ at q;rw[q];rfl) R2
    ·cases y
    ·exact xS (λc h l m=>((f c h).2 l m).1) r.1 (LedRel.one (ib r.1) R2) (by rw[pI y];simp) e
   |false=>
    obtain rfl:=LedRel.none a;refine gO (fD λk o=>?_) e;obtain⟨c,m,_,rfl⟩:=dt.mp o;exact⟨c,m,λl d=>eL.mpr ⟨d,λy=>p c m<|y▸d⟩⟩
  |false=>
   rw[q]at e;rw[q]at a;cases H with
   |false=>
    have R2:=a;obtain⟨y,_⟩|⟨_,y⟩:=LedRel.own (ib r.1) v (by unfold cr;unfold dQ at q;rw[q];rfl) R2
    ·cases y
    ·exact gO (B8 (λc h l m=>((f c h).2 l m).1) r.1 (LedRel.one (ib r.1) R2) (by rw[pI y];simp)) e
   |true=>
    obtain rfl:=LedRel.none a;refine fD (λc m=>⟨_,dt.mpr ⟨c,m,p c m,rfl⟩,λl d=>(eL.mp d).1⟩) e
 simp_all
theorem tj(h:(absI l-1).toNat<v):hit (b.take v) l=hit b l:=by unfold hit;rw[Pj h]
theorem xa(d:∀c∈C,au t.length c)(r:bG t C (Nx.blocked i z).d=gV D)(R:LedRel t H (jL t C H<|.blocked i z) B u)(e:bE D u=H):bE C B=H:=by
 rw[show(Nx.blocked i z).d=.tuple _ from rfl,jh]at r;obtain⟨I,E,n⟩:=Pt.mp r;have F:I=i:=by have:=(aA E).2;lia
 subst F;have o:=sJ (aA E).1
 split at n
 ·rename_i g;cases n;unfold iK at g;rw[OO,OO]at g;have s:=R;have f:=Of.mp g.1;have v:=(d _ o).2 z f;have G:(absI z-1).toNat<t.length:=by omega
  have J:∀c∈C,-z∈c->∃a∈c,absI a<absI z/\ -a∈C.getD I []:=λk w f=>by
   have:=O2.mp g.2.2 k<|Oj.mpr ⟨w,Of.mpr f⟩;rw[lW (d k w).1]at this;simp_all
  cases H with
  |true=>
   have R2:=s;have A:=LedRel.one (ib v.1) R2;refine zV (λc h l m=>by rw[R.1];exact(d c h).2 l m) o f (λc h=>oA h) J A ?_ e;have T:∀l∈C.getD I [],absI l<absI z->hit (B.take (absI z-1).toNat) l=hit B l:=λl m h=>tj (by have:=((d _ o).2 l m).1;omega);obtain⟨a,b⟩|⟨a,b⟩:=LedRel.own (ib v.1) G (by unfold cr;have:=g.2.1;unfold dQ at this;rw[this];rfl) R2
   ·obtain⟨l,m,h⟩:=OC.mp a;obtain⟨M,N⟩:=Oj.mp m;refine .inl ⟨⟨l,M,by rwa[<-T l M<|Oh N]⟩,R2.same λj _=>?_⟩;by_cases q:j=(absI z-1).toNat
    ·rwa[q]
    exact A j q
   ·refine .inr ⟨λl m h=>?_,by rw[pI b];simp⟩;simp_all
  |false=>
   obtain rfl:=LedRel.none s;exact gO (fD λc h=>⟨c,j0 h,λ_ h=>h⟩) e
 simp_all
theorem EC{c:ab Int}{p q:Int->N'}(h:∀a∈c,p a=q a):c.any p=c.any q:=by
 induction c with
 |nil=>rfl
 |cons a c i=>rw[Qu,Qu,h a Ou,i λb m=>h b<|Ow _ m]
theorem AJ(J:∀c∈C,au t.length c)(v:bG t C (Nx.drop i).d=gV L)(R:LedRel t H (jL t C H<|.drop i) b w)(e:bE L w=H):bE C b=H:=by
 rw[show(Nx.drop i).d=.tuple [.str aB,.int (i)]from rfl,py]at v;obtain⟨I,E,rfl⟩:=PZ.mp v;have N:I=i:=by have:=(aA E).2;cases this;rfl
 subst N;have u:=sJ (aA E).1;have M:∀c,c∈C.take I++[aq t N8<|C.getD I []]++C.drop (I+1)↔c=aq t N8 _\/c∈C.take I++C.drop _:=λc=>by
  rw[Os,Os,Os,Ob];exact⟨λh=>h.elim (λh=>h.elim (λh=>.inr<|.inl h) .inl) λh=>.inr<|.inr h,λh=>h.elim (λh=>.inl<|.inr h) λh=>h.elim (λh=>.inl<|.inl h) .inr⟩
 cases H with
 |true=>
  obtain rfl:=LedRel.none R;refine fD (λc h=>?_) e;obtain rfl|m:=oA (i:=I) h
  ·exact⟨_,(M _).mpr<|.inl rfl,λl P=>(Oj.mp P).1⟩
  ·exact⟨c,(M c).mpr<|.inr m,λV h=>h⟩
 |false=>
  have R2:LedRel t N8 (((C.getD I []).filter _).map λl=>(absI l,aq t N8<|C.getD I [],decide _)) b w:=R;have O:=J _ u;have x:∀c∈C.take I++[aq t N8<|C.getD I []]++C.drop _,c=aq t N8 _\/c∈C:=λc h=>((M c).mp h).imp_right j0;generalize C.getD I []=k at u R2 O x e;refine gO (B9 u x ?_) e;have F:∀l∈k,l∉aq t N8 k->eZ t N8 k<absI l:=λl m n=>mi.mp λh=>n<|Oj.mpr ⟨m,N3 h⟩;have T:∀l∈k,l∉aq t N8 k->(aq t N8 k).any (hit<|b.take (absI l-1).toNat)=(aq t N8 k).any _:=λl m n=>EC λa h=>tj (by
   have r:=F l m n;have A:=Oh (Oj.mp h).2;have h3:=(O.2 a (Oj.mp h).1).1;lia)
  have d:∀j o,(((k.filter λl=>!(aq t N8 k).contains l).map λl=>(absI l,aq t N8 k,decide (l<0))).find? λo=>decide (o.1=((j:Nat):Int)+1))=gV o->∃l∈k,l∉aq t N8 k/\o=(absI l,aq t N8 k,decide (l<0))/\j=(absI l-1).toNat:=λj o h=>by
   have r:o.1=((j):Int)+1:=by have:=R8 h;exact Oh this
   obtain⟨l,m,rfl⟩:=OH.mp<|PV h;obtain⟨U,B⟩:=Oj.mp m;refine⟨l,U,λz=>?_,rfl,?_⟩
   ·rw[Of.mpr z]at B;cases B
   have W:absI l=(j)+1:=r;lia
  cases g:(aq t N8 k).any _ with
  |true=>
   obtain⟨l,r,A⟩:=OC.mp g;refine .inl ⟨⟨l,r,A⟩,R2.same λj s=>?_⟩;cases f:(((k.filter _).map λl=>(absI l,aq t N8 k,decide (l<0))).find? λo=>decide (o.1=((j):Int)+1))with
   |none=>exact R2.plain s f
   |some o=>
    obtain⟨a,m,n,rfl,rfl⟩:=d j o f;obtain⟨V,q⟩|⟨V,y,D,Q⟩:=R2.2.2 _ s
    ·exact q
    ·unfold fV at Q;rw[f]at Q;have p:b[(absI a-1).toNat]?=gV (if(aq t N8 k).any (hit<|b.take _)=NW then y else decide _):=Q;rw[T a m n,g,On rfl]at p;rw[D,p]
  |false=>
   refine .inr ⟨λl h=>?_,λl m n=>?_⟩
   ·cases y:hit b l with
    |false=>rfl
    |true=>
     rw[OC.mpr ⟨l,h,y⟩]at g;cases g
   have X:=O.2 l m;have s:(absI l-1).toNat<t.length:=by lia
   have Y:cr t N8 (absI l-1).toNat=true:=by unfold cr;rw[oy m<|F l m n];rfl
   have Z:=ib X.1;obtain⟨q,V⟩|⟨V,y,D,Q⟩:=R2.2.2 _ s
   ·rw[Y]at q;cases q
   cases f:(((k.filter λl=>!(aq t N8 k).contains l).map λl=>(absI l,aq t N8 k,decide (l<0))).find? λo=>decide (o.1=(((absI l-1).toNat):Int)+1))with
   |none=>exact absurd (N3 Z)<|Q3.mp f _<|OH.mpr ⟨l,Oj.mpr ⟨m,by rw[Bool.not_eq_true',<-Bool.not_eq_true];exact λz=>n<|Of.mp z⟩,rfl⟩
   |some o=>
    obtain⟨a,G,n',rfl,ea⟩:=d _ o f;have ac:=O.2 a G;obtain rfl:a=l:=O.1.inj G m (by lia);unfold fV at Q;rw[f]at Q;have p:b[(absI a-1).toNat]?=gV (if(aq t N8 k).any _=NW then y else decide _):=Q;rw[T a m n,g]at p;rw[pI p];obtain⟨h,e⟩|⟨h,e⟩:=aI a
    ·rw[N7 (aae h),N3 (by lia)];rfl
    rw[N3 h,N7 (aae (hI h))];rfl
theorem ED(H:∀c∈C,au t.length c)(h:bG t C s.d=gV d)(R:LedRel t w (jL t C w s) b u)(e:bE d u=w):bE C b=w:=by
 cases s with
 |unit i=>exact AH H h R e
 |drop i=>exact AJ H h R e
 |pure z=>exact AI H h R e
 |within i j=>exact w_ h R e
 |blocked i z=>exact xa H h R e
noncomputable abbrev Iq:Pn:=b9 99
noncomputable def ma(os:ab (Int×ab Int×N'))(v:Int)(b:ab N'):V:=match os.find? λo=>decide (o.1=v)with
 |some o=>if o.2.1.any (hit b)=NW then .non else .bl o.2.2
 |none=>.non
theorem nj(a v:Int)(c:ab Int)(b:N')(B:ab N'):ma [(a,c,b)] v B=if a=v then if c.any (hit B)=NW then .non else .bl b else .non:=by
 unfold ma;by_cases h:a=v<;>simp[h]
theorem EE(c e:ab Int)(v:Int)(b:ab N'):ma ((c.filter λl=>!e.contains l).map λl=>(absI l,e,decide (l<0))) v b=match c.find? λl=>decide (absI l=v)&&!e.contains l with
 |some l=>if e.any (hit b)=NW then .non else .bl (decide (l<0))
 |none=>.non:=by
 unfold ma;rw[List.find?_map,List.find?_filter];have:(λa=>decide ((!e.contains a)=NW/\((λo:Int×ab Int×N'=>decide (o.1=v))∘λl=>(absI l,e,decide (l<0))) a=NW))=λl=>decide (absI l=v)&&!e.contains l:=funext λa=>by
  simp[Bool.and_comm]
 rw[this];cases c.find? _<;>rfl
theorem vi(h:jG n c)(b:z∈c)(H:(aq t N8 c).contains z=N8):∀l∈aq t N8 c,1<=absI l/\absI l<absI z:=λl d=>by
 have a:=Oj.mp d;refine⟨(h l a.1).1,X7 (Oh a.2)<|mi.mp λh=>?_⟩;rw[show(aq t N8 c).contains z=NW from Of.mpr<|Oj.mpr ⟨b,N3 h⟩]at H;cases H
noncomputable def Ir(v:Int):V->N'
 |.int l=>decide (absI l<v)
 |_=>N8
inductive xb (vs:ab V)(H:Hp)(Q:VK)(E:XK):Prop
 |mk (p q g:J')(t:Str)(xs:ab V)(C:ab (ab Int))(v:V)(s:Nx)(hw:N')(bs:ab N')(h0:vs=[.ref p,v,.str<|ao hw,.int<|(bs.length:Int)+1,.ref g])(a:dR H p q t xs C)(u:∀c∈C,Ups c)(b:RD H s.d v)(d:jb t C s)(e:H g=gV (.lst<|bs.map V.bl))(f:bs.length<=8)(i:cr t hw bs.length=NW)(q:∀h,Same H h->Q (ma (jL t C hw s) ((bs.length:Int)+1) bs) h)
inductive yU (p b g q lf:J')(bs:ab N')(H:Hp)(c e:ab Int)(v:M' V)(i:Nat)(a:St)(h:Hp):Prop
 |mk (d:M' V)(I:a=[gV (.ref p),gV (.ref b),gV (.str (ao N8)),gV (.int ((bs.length:Int)+1)),gV (.ref g),gV (.ref q),v,gV (.ref lf),d])(f:Same H h)(j:e.any (hit bs)=NW\/(c.take i).find? (λl=>decide (absI l=(bs.length:Int)+1)&&!e.contains l)=NZ)
theorem GN(F:Fun K "_law_forced" "_law_forced" Iq f fd)(T:Bl mg)(a2:Fe P w K mg as 2 "_law_dropped" ng):ay P w K mg as a_ 3 f fd ["_law_sentence_here","_law_step","_law_hand","_law_variable","_law_begun"] xb:=by
 refine F.okB (N:=["_law_sentence_here","_law_step","_law_hand","_law_variable","_law_begun","_law_clauses","_law_lesser","_law_left","_law_literal"]) λQC A aC s H vs Q E sc hr h=>?_;obtain⟨p,qa,Y,t,xs,C,v,s,d,B,rfl,S,YI,hd,I,hg,a3,ho,q⟩:=h;have hu:=hr.units;obtain⟨b,rfl,y⟩:=pC hd;have ht:=S.ht;have eh:decide (V.str (ao d)=V.str (N_ "wisher"))=d:=by cases d<;>decide+kernel
 have es:decide (V.str (ao d)=V.str (N_ "spoiler"))=!d:=by cases d<;>decide+kernel
 obtain⟨W,j⟩:∃W,ma (jL t C d s) ((B.length:Int)+1) B=W:=⟨_,rfl⟩;rw[j]at q;refine⟨_,(ae gg
  (ae gg
  (ae gg
  (ae (aQ gg (ae (B_ 6 ["_law_one","_law_variable"] [NZ,gV 3]<|bA gg)
   (ar<|aQ (oG (dN hu) (aN ca rfl T.len P5<|fC<|fW ["_law_one","_law_begun"] [NZ,gV 4] (aD<|pv 6) (t:=λ_ _ _ _=>(bM<|oG (dN hu) (xP (K:=K) (pv 1) gg) gg))) bX) gg ax)) ax)
  (ae (aQ gg (ae gg
   (ar<|fS 8 (bA gg)<|ar<|aQ gg (ar<|aQ (oG (dN hu) (aN ca rfl T.len P5<|fC<|fW ["_law_one","_law_begun"] [NZ,gV 4] (bA<|pv 7) (t:=λ_ _ _ _=>(bM<|oG (dN hu) (xP (K:=K) (pv 1) gg) gg))) bX) gg ax) ax)) ax)
  (cQ fE)))))),?_⟩
 refine c7 (λa o=>a=[gV<|.ref p,gV<|.ref b,gV<|.str<|ao d,gV<|.int<|(B.length:Int)+1,gV<|.ref Y,gV<|.ref qa,NZ,NZ,NZ]/\H=o) (λR m=>⟨_,rfl,(aS S.hp rfl<|m _ _ ⟨rfl,rfl⟩)⟩) ?_;rintro _ _ ⟨rfl,rfl⟩;refine c7 (λa o=>a=[gV<|.ref p,gV<|.ref b,gV<|.str<|ao d,gV<|.int<|(B.length:Int)+1,gV<|.ref Y,gV<|.ref qa,NZ,NZ,NZ]/\H=o/\∀i,s=.unit i->W=.non) (λR m=>?_) ?_
 ·refine⟨_,rfl,(aS y (fo s)<|.inl ⟨rfl,_,rfl,cn (λg=>?_) λg=>?_⟩)⟩
  ·obtain⟨i,rfl⟩:=wL g;obtain⟨_,hi,aF⟩|_:=I
   obtain⟨tc,Z,G,N⟩:=fT S.hcs hi;obtain⟨z,ez⟩:=pq aF;rw[ez]at G;refine⟨_,rfl,.inl ⟨rfl,_,rfl,?_⟩⟩;rw[eh];cases d with
   |false=>exact ak<|ak<|m _ _ ⟨rfl,rfl,λ_ _=>j.symm⟩
   |true=>
    have J:W=if absI z=(B.length:Int)+1 then .bl (decide (0<z))else .non:=by
     rw[<-j];show ma [(absI<|(C.getD i []).getD 0 0,[],_)] _ _=_
     rw[ez,nj];rfl
    refine ap ⟨_,rfl,_,rfl,(aS y rfl<|(fz S.hq (aG Z)<|aS G rfl ⟨z,rfl,_,rfl,.inl ⟨rfl,_,rfl,?_⟩⟩))⟩;have e3:decide (V.int (if z<0 then -z else z)=V.int ((B.length:Int)+1))=decide (absI z=(B.length:Int)+1):=QM.mpr ⟨V.int.inj,λe=>O1 V.int e⟩;rw[e3];refine cn (λg=>?_) λg=>?_
    ·rw[J,On<|Oh g]at q;exact⟨_,rfl,_,rfl,(aS y rfl<|(fz S.hq (aG Z)<|aS G rfl ⟨_,_,rfl,rfl,q _<|Same.refl _⟩))⟩
    exact m _ _ ⟨rfl,rfl,λ_ _=>by simp_all⟩
  exact ak<|m _ _ ⟨rfl,rfl,λi e=>by subst e;exact absurd (N3 rfl) g⟩
 rintro _ _ ⟨rfl,rfl,n1⟩;refine c7 (λa o=>a=[gV<|.ref p,gV<|.ref b,gV<|.str<|ao d,gV<|.int<|(B.length:Int)+1,gV<|.ref Y,gV<|.ref qa,NZ,NZ,NZ]/\H=o/\∀i,s=.pure i->W=.non) (λR m=>?_) ?_
 ·refine⟨_,rfl,(aS y (fo s)<|.inl ⟨rfl,_,rfl,cn (λg=>?_) λg=>?_⟩)⟩
  ·obtain⟨z,rfl⟩:=wN g;obtain _|_|⟨_,c,hc,u⟩:=I
   have L:=S.hok _ hc z u;have e3:decide (V.int (if z<0 then -z else z)=V.int ((B.length:Int)+1))=decide (absI z=(B.length:Int)+1):=QM.mpr ⟨V.int.inj,λe=>O1 V.int e⟩;refine⟨_,rfl,(aS y rfl ⟨z,rfl,_,rfl,.inl ⟨rfl,_,rfl,?_⟩⟩)⟩;rw[e3];refine cn (λg=>?_) λg=>?_
   ·have g':=Oh g;have eo:(dQ t z == d)=true:=by
     unfold dQ;rw[g',show((B.length:Int)+1-1).toNat=B.length by lia];exact ho
    have J:W=.bl (decide (0<z) == d):=by
     rw[<-j];show ma (if(dQ t z == d)=NW then [(absI z,[],_)]else []) _ _=_
     rw[On eo,nj,On g'];rfl
    rw[J]at q;refine⟨_,rfl,(aS y rfl ⟨_,_,rfl,rfl,_,rfl,.inl ⟨rfl,.inl ⟨rfl,?_⟩⟩⟩)⟩;rw[eh,jl];exact q _<|Same.refl _
   exact m _ _ ⟨rfl,rfl,λ_ _=>by
    rw[<-j];show ma (if(dQ t z == d)=NW then [(absI z,[],_)]else []) _ _=_
    split
    ·rw[nj,Oo λe=>g<|N3 e]
    rfl⟩
  exact ak<|m _ _ ⟨rfl,rfl,λi e=>by subst e;exact absurd (N3 rfl) g⟩
 rintro _ _ ⟨rfl,rfl,n2⟩;refine c7 (λa o=>∃v6,a=[gV<|.ref p,gV<|.ref b,gV<|.str<|ao d,gV<|.int<|(B.length:Int)+1,gV<|.ref Y,gV<|.ref qa,v6,NZ,NZ]/\Same H o/\∀i z,s=.blocked i z->W=.non) (λR m=>?_) ?_
 ·refine⟨_,rfl,(aS y (fo s)<|.inl ⟨rfl,_,rfl,cn (λg=>?_) λg=>?_⟩)⟩
  ·obtain⟨i,z,rfl⟩:=lX g;obtain _|_|_|_|⟨_,_,hi,u⟩:=I
   obtain⟨tc,Z,G,N⟩:=fT S.hcs hi;have ac:=S.hc _ N;have L:=S.hok _ N;refine⟨_,rfl,.inl ⟨rfl,_,rfl,?_⟩⟩;rw[eh];cases d with
   |false=>exact ak<|ak<|m _ _ ⟨_,rfl,Same.refl _,λ_ _ _=>j.symm⟩
   |true=>
    have e3:decide (V.int (if z<0 then -z else z)=V.int ((B.length:Int)+1))=decide (absI z=(B.length:Int)+1):=QM.mpr ⟨V.int.inj,λe=>O1 V.int e⟩;have J:W=if absI z=(B.length:Int)+1 then if((C.getD i []).filter λl=>decide (absI l<absI z)).any (hit B)=NW then .non else .bl (decide (0<z))else .non:=by
     rw[<-j];exact nj _ _ _ _ _
    refine ap ⟨_,rfl,(aS y rfl ⟨z,rfl,_,rfl,.inl ⟨rfl,_,rfl,?_⟩⟩)⟩;rw[e3];refine cn (λg=>?_) λg=>m _ _ ⟨_,rfl,Same.refl _,λ_ _ _=>by rw[J,Oo λe=>g<|N3 e]⟩;have g':=Oh g;rw[On g',g']at J;refine⟨_,rfl,_,rfl,(aS y rfl<|(fz S.hq (aG Z) ⟨tc,rfl,⟨_,SqT.of G⟩,λD nD=>?_⟩))⟩;generalize C.getD i []=c at G N ac L J;refine aY [gV<|.int<|(B.length:Int)+1] (Ir<|(B.length:Int)+1) id rfl G nD (by rw[B'];lia) (λx U o R k r=>?_) (λx U _ o R k r=>⟨_,rfl,r⟩) ?_
    ·obtain⟨l,hl,rfl⟩:=bo U;exact⟨_,rfl,l,rfl,_,rfl,_,_,rfl,rfl,_,rfl,r⟩
    rw[show((c.map V.int).filter<|Ir<|(B.length:Int)+1).map id=(c.filter λl=>decide (absI l<(B.length:Int)+1)).map V.int from qV _ _];have aL:=O0 (λl=>decide (absI l<(B.length:Int)+1)) c;have am:∀l∈c.filter (λl=>decide (absI l<(B.length:Int)+1)),1<=absI l/\absI l<=(B.length:Int):=λl hl=>⟨(L l (Oj.mp hl).1).1,X8.mp<|Oh (Oj.mp hl).2⟩;generalize c.filter (λl=>decide (absI l<(B.length:Int)+1))=c' at aL am J ⊢;have kD:=ad nD<|.lst<|c'.map V.int;have sD:=@aa H D (.lst<|c'.map V.int);generalize upd H D (.lst<|c'.map V.int)=H1 at kD sD ⊢;refine⟨_,rfl,D,rfl,⟨_,SqL.of sD⟩,λD2 av=>?_⟩;refine cM [gV<|.ref Y] (kR B) id rfl sD av (by rw[B'];lia) (λx U o R k r=>?_) (λx U _ o R k r=>⟨_,rfl,r⟩) ?_
    ·obtain⟨z,u,rfl⟩:=bo U;obtain⟨bb,an,WC⟩:=s_ (am z u).1 (am z u).2;refine⟨_,rfl,_,rfl,z,rfl,_,_,rfl,rfl,(fz (k _ _<|kD _ _ hg) an ⟨_,rfl,_,_,rfl,rfl,.inl ⟨rfl,_,rfl,?_⟩⟩)⟩;rw[WC];exact r
    have kE:=kD.trans<|ad av<|.lst<|((c'.map V.int).filter<|kR B).map id;refine⟨.ref D2,_,rfl,.inl ⟨_,SqL.of aa,rfl⟩,.inl ⟨rfl,_,rfl,?_⟩⟩;rw[sZ];cases gc:c'.any (hit B)with
    |true=>exact ak<|m _ _ ⟨_,rfl,kE,λ_ _ _=>by rw[J,gc];rfl⟩
    |false=>
     rw[J,gc]at q;exact ap ⟨_,rfl,(aS (kE _ _ y) rfl ⟨_,_,rfl,rfl,q _ kE⟩)⟩
  exact ak<|m _ _ ⟨_,rfl,Same.refl _,λi z e=>by subst e;exact absurd (N3 rfl) g⟩
 rintro _ H1 ⟨v6,rfl,X,n3⟩;refine c7 (λa o=>Same H o/\W=.non) (λR m=>?_) λa o h=>?_
 ·refine⟨_,rfl,(aS (X _ _ y) (fo s)<|.inl ⟨rfl,_,rfl,cn (λg=>?_) λg=>?_⟩)⟩
  ·obtain⟨i,rfl⟩:=wM g;obtain _|⟨_,hi⟩:=I
   obtain⟨tc,Z,G,N⟩:=fT S.hcs hi;have ac:=S.hc _ N;have L:=S.hok _ N;have az:=YI _ N;refine⟨_,rfl,.inl ⟨rfl,_,rfl,?_⟩⟩;rw[es];cases d with
   |true=>exact ak<|m _ _ ⟨X,j.symm⟩
   |false=>
    have j:ma (((C.getD i []).filter λl=>!(aq t N8<|C.getD i []).contains l).map λl=>(absI l,aq t N8<|C.getD i [],decide (l<0))) ((B.length:Int)+1) B=W:=j;rw[EE]at j;refine ap ⟨_,rfl,(aS (X _ _ S.hp) rfl ⟨_,rfl,_,rfl,(aS (X _ _ y) rfl<|(fz (X _ _ S.hq) (aG Z) ⟨tc,t,N8,_,rfl,ht,X _ _ G,⟨az,L⟩,λlf H2 k2 O=>?_⟩))⟩)⟩;have Xb:=X.trans k2;refine⟨_,rfl,_,rfl,(aS (Xb _ _ y) rfl<|(fz (Xb _ _ S.hq) (aG Z) ⟨tc,rfl,⟨_,SqT.of<|Xb _ _ G⟩,?_⟩))⟩;have e8:=λz u hn=>vi (t:=t) (c:=C.getD i []) (z:=z) L u hn;have e9:=O0 (λl=>decide (absI l<=eZ t N8 (C.getD i [])))<|C.getD i [];change(aq t N8<|C.getD i []).length<=_ at e9;generalize aq t N8 (C.getD i [])=e at j O e8 e9;generalize C.getD i []=c at G N ac L az j e8 e9;refine fq (K:=K) (a:=tc) (X:=c.map V.int) (yU p b Y qa lf B H2 c e v6) ⟨NZ,rfl,Same.refl _,.inr rfl⟩ ?_ ?_ ?_
    ·rintro n σ H3 _ ⟨_,_,M,_⟩;exact SqT.of<|M _ _<|Xb _ _ G
    ·rintro n x σ H3 a0 ⟨v8,rfl,M,Wn⟩;obtain⟨z,rfl,u⟩:=cO a0;have a1:=N5 u;have e3:decide (V.int (if z<0 then -z else z)=V.int ((B.length:Int)+1))=decide (absI z=(B.length:Int)+1):=QM.mpr ⟨V.int.inj,λe=>O1 V.int e⟩;have skip:(decide (absI z=(B.length:Int)+1)&&!e.contains z)=N8->e.any (hit B)=NW\/(c.take<|n+1).find? (λl=>decide (absI l=(B.length:Int)+1)&&!e.contains l)=none:=λh=>Wn.imp id λh2=>i9 u h2 h;refine fw ⟨_,rfl,z,rfl,_,rfl,.inl ⟨rfl,_,rfl,?_⟩⟩;rw[e3];cases g1:decide (absI z=(B.length:Int)+1)with
     |false=>
      rw[g1]at skip;exact ak<|ak ⟨_,rfl,M,skip rfl⟩
     |true=>
      refine ap ⟨_,rfl,_,rfl,lf,_,rfl,.inr<|SqT.of<|M _ _ O,rfl,bd _,_,rfl,?_⟩;rw[On rfl,aP];cases g2:e.contains z with
      |true=>
       rw[g1,g2]at skip;exact ak ⟨_,rfl,M,skip rfl⟩
      |false=>
       have h8:=e8 z a1 g2;rw[Oh g1]at h8;refine ap ⟨_,rfl,lf,rfl,⟨_,SqT.of<|M _ _ O⟩,λD nD=>?_⟩;refine aY [gV<|.ref Y] (kR B) id rfl (M _ _ O) nD (by rw[B'];lia) (λx U o R k r=>?_) (λx U _ o R k r=>⟨_,rfl,r⟩) ?_
       ·obtain⟨z,u,rfl⟩:=bo U;obtain⟨bb,an,WC⟩:=s_ (h8 z u).1<|X8.mp (h8 z u).2;refine⟨_,rfl,_,rfl,z,rfl,_,_,rfl,rfl,(fz (k _ _<|M _ _<|Xb _ _ hg) an ⟨_,rfl,_,_,rfl,rfl,.inl ⟨rfl,_,rfl,?_⟩⟩)⟩;rw[WC];exact r
       have kE:=M.trans<|ad nD<|.lst<|((e.map V.int).filter<|kR B).map id;refine⟨.ref D,_,rfl,.inl ⟨_,SqL.of aa,rfl⟩,.inl ⟨rfl,_,rfl,?_⟩⟩;rw[sZ];cases gc:e.any (hit B)with
       |true=>exact ak ⟨_,rfl,kE,.inl gc⟩
       |false=>
        have ef:c.find? (λl=>decide (absI l=(B.length:Int)+1)&&!e.contains l)=gV z:=kP u (Wn.resolve_left λh=>by simp_all) (by rw[g1,g2];rfl);rw[ef,gc]at j;rw[<-j]at q;exact ap ⟨_,rfl,_,_,rfl,rfl,q _<|Xb.trans kE⟩
    rintro σ H3 ⟨v8,rfl,M,Wn⟩;rw[Oi<|by rw[B'];exact N9 _]at Wn;refine m _ _ ⟨Xb.trans M,?_⟩;rw[<-j];obtain h|h:=Wn
    ·rw[h]
     split<;>rfl
    rw[h]
  exact ak (m _ _ ⟨X,by
   cases I with
   |unit i=>exact n1 i rfl
   |pure z=>exact n2 z rfl
   |within=>exact j.symm
   |blocked i z=>exact n3 i z rfl
   |drop i=>exact absurd (N3 rfl) g⟩)
 rw[h.2]at q;exact q _ h.1
noncomputable abbrev Mo:Pn:=b9 100
theorem GO(os:ab (Int×ab Int×N'))(v:Int)(B:ab N'):(ma os v B=.non/\∀i,fV os v B i=i)\/∃b,ma os v B=.bl b/\∀i,fV os v B i=b:=by
 unfold ma fV;cases os.find? _ with
 |none=>exact .inl ⟨rfl,λz=>rfl⟩
 |some o=>
  cases h:o.2.1.any (hit B)with
  |true=>exact .inl (by simp_all)
  |false=>exact .inr ⟨_,by simp[h];rfl,λi=>by simp[h]⟩
theorem EntsAt.mono(h:EntsAt H G E X)(k:Same H b):EntsAt b G E X:=⟨h.len,λi x e=>by
 obtain⟨r,z,a⟩:=h.at_ i x e;exact⟨r,z,a.mono k⟩⟩
inductive EF (vs:ab V)(H:Hp)(Q:VK)(E:XK):Prop
 |mk (p q g l:J')(t:Str)(xs ys:ab V)(C:ab (ab Int))(v:V)(s:Nx)(hw:N')(e:ab dL)(bs:ab N')(h0:vs=[.ref p,v,.str (ao hw),.ref l,.int ((bs.length:Int)+1),.ref g])(a:dR H p q t xs C)(u:∀c∈C,Ups c)(b:RD H s.d v)(d:jb t C s)(hl:H l=gV (.lst ys))(he:EntsAt H (λ_=>True) e ys)(hok:PlanOk e t hw)(f:H g=gV (.lst<|bs.map V.bl))(i:bs.length<t.length)(t8:t.length<=8)(j:cr t hw bs.length=NW)(q:∀h,Same H h->Q (.bl<|pT e (fV<|jL t C hw s) t hw bs.length bs) h)
inductive EG (p b g l a:J')(e:ab dL)(t:Str)(hw:N')(bs:ab N')(H:Hp)(i:Nat)(c:St)(h:Hp):Prop
 |mk (v:M' V)(I:c=[gV<|.ref p,gV<|.ref b,gV<|.str<|ao hw,gV<|.ref l,gV<|.int<|(bs.length:Int)+1,gV<|.ref g,gV .non,gV<|.ref a,v])(d:h a=gV (.lst<|(jJ e t hw bs i).map V.bl))(f:Same H h)
theorem Kv(F:Fun K "_law_back" "_law_back" Mo f fd)(T:Bl M)(ac:Fe P w K M c 1 "_law_answer" w4)(am:Fe P w K M c 3 "_law_forced" xb)(Tb:Fe P w K M c 1 "_law_own" ji):ay P w K M c a_ 4 f fd ["_law_sentence_here","_law_step","_law_hand","_law_plan_here","_law_variable","_law_begun"] EF:=by
 refine F.okB (N:=["_law_sentence_here","_law_step","_law_hand","_law_plan_here","_law_variable","_law_begun","_law_value","_law_inner","_law_lesser"]) λQC A O s H vs Q E sc hr h=>?_;obtain⟨p,qa,D,l,t,xs,Y,I,v,s,g,m,B,rfl,S,YI,J,x,L,n,d,U,y,t8,W,q⟩:=h;obtain⟨b,rfl,hb⟩:=pC J;refine⟨_,(ae gg
  (ae gg
  (ae gg
  (ae (fS 8 gg gg)
  gg)))),?_⟩
 refine⟨_,rfl,_,rfl,_,rfl,_,rfl,_,rfl,p,qa,D,t,xs,I,_,s,g,B,rfl,S,YI,J,x,U,OW (Pf y t8),W,λH1 o=>?_⟩;unfold pT at q;obtain⟨e,h⟩|⟨r,e,h⟩:=GO (jL t I g s) ((B.length:Int)+1) B
 ·rw[h]at q;rw[e];refine⟨_,rfl,rfl,_,rfl,ak ⟨Oy _,λa N=>?_⟩⟩;have X:((B.length:Int)+1-1).toNat=B.length:=by lia
  refine⟨_,rfl,_,_,rfl,⟨by decide,by decide,by lia,by lia⟩,dq (lo:=1) (n:=((B.length:Int)+1-1).toNat) (EG p b D l a m t g B H) ⟨NZ,rfl,aa,o.trans<|ad N _⟩ ?_ ?_⟩
  ·rintro i σ H4 Z ⟨v8,rfl,G,k⟩;rw[X]at Z;refine⟨_,rfl,(aS (k _ _ S.hp) rfl ⟨_,rfl,_,rfl,t,g,1+(i:Int),rfl,(by rw[aX<|by lia];lia),(by rw[aX<|by lia];lia),by lia,_,rfl,?_⟩)⟩;rw[pF (t:=t) (H:=g) (i:=i) (z:=1+(i:Int))<|by lia];have fl:=dC m t g B i;cases go:cr t g i with
   |true=>
    refine ap ⟨_,rfl,.inl ⟨rfl,_,SqL.of G⟩,_,rfl,_,rfl,_,rfl,l,a,1+(i:Int),m,Y,λV=>True,_,rfl,k _ _ L,n.mono k,G,by lia,λe z j=>(d.nearAt z j).mono (by lia),λH5 u=>?_⟩;rw[EA d (Wd Z y) go];refine⟨a,_,_,rfl,rfl,u _ _ G,by rw[B'];exact ah (by lia),_,rfl,?_,(k.trans u).upd_new (o.free N) _⟩;rw[aa,jJ,go,On rfl,<-jI]
   |false=>
    have C:B[i]?=gV (B.getD i N8):=by rw[K',N1 Z];rfl
    refine ak ⟨_,rfl,.inl ⟨rfl,_,SqL.of G⟩,_,rfl,_,rfl,_,_,rfl,rfl,(fz (k _ _ U) (by rw[show(1:Int)+(i:Int)-1=(i:Int) by lia];exact aG<|by rw[Ox,C];rfl) ?_)⟩;refine⟨a,_,_,rfl,rfl,G,by rw[B'];exact ah (by lia),_,rfl,?_,k.upd_new (o.free N) _⟩;rw[aa,jJ,go,Oo N6,<-jI]
  rintro σ H4 ⟨v8,rfl,G,k⟩;rw[X]at G;have fl:=dC m t g B B.length;refine⟨_,rfl,_,rfl,_,rfl,l,a,_,m,Y,λV=>True,_,rfl,k _ _ L,n.mono k,G,by lia,λe z j=>(d.nearAt z<|by rw[j,R6]).mono (by lia),λH5 u=>?_⟩;rw[R6,EA d y W];exact q _<|k.trans u
 rw[h]at q;rw[e];exact⟨_,rfl,rfl,_,rfl,ap ⟨_,rfl,q _ o⟩⟩
noncomputable abbrev Iu:Pn:=b9 101
theorem EH(h:jb t C s)(k:∀c∈C,jG t.length c):∀o∈jL t C w s,∀l∈o.2.1,1<=absI l/\absI l<o.1:=λo H l a=>by
 have A:∀i,i<C.length->C.getD i []∈C:=λi b=>by
  simp_all
 cases h with
 |unit i b=>
  dsimp only[jL]at H
  simp_all
 |drop i b=>
  dsimp only[jL]at H
  split at H
  ·cases H
  ·obtain⟨z,d,rfl⟩:=OH.mp H;have:=Oj.mp d;exact vi (k _<|A i b) this.1 (by lia) l a
 |pure z=>
  dsimp only[jL]at H
  simp_all
 |within=>cases H
 |blocked i z b=>
  dsimp only[jL]at H
  split at H
  ·rw[Ob.mp H]at a ⊢;have:=Oj.mp a;exact⟨(k _ (A i b) l this.1).1,Oh this.2⟩
  simp_all
theorem GP(h:jb t C s)(k:∀c∈C,jG t.length c)(i:Nat):pT E (fV<|jL t C H s) t H i b=pT E (fV<|jL t C H s) t H i (b.take i):=by
 unfold pT;rw[w9 i<|N9 _];unfold fV;cases f:(jL t C H s).find? _ with
 |none=>rfl
 |some o=>
  have e:o.1=(i)+1:=by simpa using R8 f
  have:o.2.1.any _=o.2.1.any (hit<|b.take i):=eI λl a=>by
   have:=EH h k o (PV f) l a;exact(tj<|by omega).symm
  simp_all
inductive xf (P CL:J')(vs:ab V)(H:Hp)(Q:VK)(E:XK):Prop
 |mk (p q l x o:J')(t:Str)(xs ys:ab V)(C:ab (ab Int))(v:V)(s:Nx)(hw:N')(e:ab dL)(os:ab N')(A:u8)(h0:vs=[.ref p,v,.str (ao hw),.ref l,.ref x,.ref o])(b:dR H p q t xs C)(u:∀c∈C,Ups c)(d:RD H s.d v)(f:jb t C s)(hl:H l=gV (.lst ys))(he:EntsAt H (λ_=>True) e ys)(hok:PlanOk e t hw)(t8:t.length<=8)(hx:LedX H P CL x e (fV<|jL t C hw s) t hw)(g:A=pT e (fV<|jL t C hw s) t hw)(i:H o=gV (.lst<|os.map V.bl))(j:os.length=jH t hw t.length)
  (q:∀(a:J') (h:Hp) (bs:ab N'),Same H h->h a=gV (.lst<|bs.map V.bl)->bs.length=t.length->Fol A t hw bs->Q (.ref a) h):xf P CL vs H Q E
inductive EI (c:ab (M' V))(f b:J')(A:u8)(t:Str)(hw:N')(n:Nat)(H:Hp)(i:Nat)(a:St)(h:Hp):Prop
 |mk (fs lf:ab N')(d e v:M' V)(I:a=c++[d,e,v])(g:h f=gV (.lst<|fs.map V.bl))(j:h b=gV (.lst<|lf.map V.bl))(k:Same H h)(l:fs.length=i)(m:lf.length+jH t hw i=n)(o:Fol A t hw fs)
inductive EJ (c:ab (M' V))(f:J')(bs:ab N')(H:Hp)(i:Nat)(a:St)(h:Hp):Prop
 |mk (b d v:M' V)(I:a=c++[b,d,v])(e:h f=gV (.lst<|bs.map V.bl))(g:Same H h)
theorem NV:gD "bool" "bool"=gV true:=by rfl
section
variable {CL:J'}
theorem GQ(F:Fun K "_law_play" "_law_play" Iu f fd)(T:Bl mg)(aF:Fe P w K mg B 4 "_law_back" EF)(Tb:Fe P w K mg B 1 "_law_own" ji)(aL:tp P w K mg B a_ 5 CL "answer" g3 e3 ["self","variable","begun"] (sO CP CL)):ay P w K mg B a_ 6 f fd ["_law_sentence_here","_law_step","_law_hand","_law_plan_here","_law_player","_law_others"] (xf CP CL):=by
 refine F.okB (N:=["_law_sentence_here","_law_step","_law_hand","_law_plan_here","_law_player","_law_others","_law_filling","_law_left","_law_variable","_law_found","_law_due"]) λQC A as s H vs Q E sc hr h=>?_;obtain⟨p,qa,l,x,oa,t,xs,ys,cs,v,s,a,es,os,C,rfl,S,YI,hd,J,hl,av,M,t8,hx,hA,ho,a0,q⟩:=h;obtain⟨dx,_,_,_,_,_,O,_⟩:=id hx;refine⟨_,(ae gg
  (ae gg
  (ae (fS 8 gg<|ar<|aQ gg gg<|ar<|dm<|gG Ph P8 Qh dS (pv 6)<|fC<|gG Ph S_ Wr Be (pv 7)<|fC bX)
  (ae (fS 8 gg gg)
  (cQ<|pv 6))))),?_⟩
 refine⟨Oy _,λd U=>?_⟩;have W:H d=none:=U;have k1:=ad U<|.lst [];have s1:=@aa H d (.lst []);generalize upd H d (.lst [])=H1 at k1 s1 ⊢;refine⟨_,rfl,oa,_,rfl,.inl<|SqL.of<|k1 _ _ ho,λb hb=>?_⟩;have N:b≠d:=(ag s1 hb).symm;have nb:H b=none:=k1.free hb;have k2:=ad hb<|.lst<|os.map V.bl;have s2:=@aa H1 b (.lst<|os.map V.bl);have X:=k2 _ _ s1;generalize upd H1 b (.lst<|os.map V.bl)=H2 at k2 s2 X ⊢;have Y:=k1.trans k2;have en:((t.length:Int)+1-1).toNat=t.length:=by simp
 have S':∀{Z:Hp},Same H Z->dR Z p qa t xs cs:=λk=>⟨k _ _ S.hp,k _ _ S.hq,S.hcs.mono k,S.ht,S.hn,S.hok,S.hc⟩;have Pa:∀{Z:Hp},Same H Z->PAl CP CL Z x C t a:=λk=>⟨es,_,hx.mono k,M,hA⟩;refine⟨_,rfl,(aS (Y _ _ S.hp) rfl ⟨.str t,_,rfl,⟨OW (ah<|by lia),rfl⟩,_,_,rfl,rfl,_,_,rfl,by lia,dq (lo:=1) (n:=((t.length:Int)+1-1).toNat)
  (EI [gV<|.ref p,gV v,gV<|.str<|ao a,gV<|.ref l,gV<|.ref x,gV<|.ref oa,gV<|.ref d,gV<|.ref b] d b C t a os.length H)
  ⟨[],os,NZ,NZ,NZ,rfl,X,s2,Y,rfl,rfl,λ_ z=>by simp_all⟩ ?_ ?_⟩)⟩
 ·rintro i σ D r ⟨o,lf,v8,v9,u,rfl,G,g2,e,L,ac,hF⟩;rw[en]at r;refine⟨_,rfl,(aS (e _ _ S.hp) rfl ⟨_,rfl,_,rfl,t,a,1+(i:Int),rfl,(by rw[aX<|by lia];lia),(by rw[aX<|by lia];lia),by lia,_,rfl,?_⟩)⟩;rw[pF (t:=t) (H:=a) (i:=i) (z:=1+(i:Int))<|by lia];have am:=l8 t a i;have a1:=AA t a ‹_›;cases go:cr t a i with
  |true=>
   refine ap ⟨_,rfl,x,dx,_,rfl,e _ _ O,rfl,_,rfl,_,rfl,d,_,rfl,.inl<|SqL.of G,λc hc=>?_⟩;have j:=ad hc<|.lst<|o.map V.bl;have s5:=@aa D c (.lst<|o.map V.bl);generalize upd D c (.lst<|o.map V.bl)=H5 at j s5 ⊢;have an:=e.trans j;refine⟨x,c,C,t,a,o,i,by rw[R6];rfl,Pa an,s5,r,by simp_all,by lia,t8,go,λH6 y=>?_⟩;have m:=an.trans y;refine⟨_,rfl,_,rfl,_,rfl,_,rfl,_,rfl,_,rfl,p,qa,d,l,t,xs,ys,cs,v,s,a,es,o,by rw[L,R6];rfl,S' m,YI,dw m _ _ hd,J,m _ _ hl,av.mono m,M,y _ _<|j _ _ G,by simp_all,t8,by rw[L];exact go,λH7 k7=>?_⟩;have az:=m.trans k7;have g7:=k7 _ _<|y _ _<|j _ _ G;refine⟨_,rfl,.bl _,_,"bool",NW,rfl,.bl _,bV NV,NW,rfl,ak ⟨_,rfl,_,rfl,.inl ⟨rfl,_,rfl,MB (by rw[hA,L]) ?_⟩⟩⟩;refine⟨_,rfl,.inl ⟨rfl,_,SqL.of g7⟩,_,rfl,d,_,_,rfl,rfl,g7,by rw[B'];exact ah (by lia),o++[C i o],lf,_,_,_,rfl,by rw[aa,<-jI],?_,az.upd_new W _,by rw[N0,L];rfl,?_,hF.snoc λ_=>by rw[L]⟩
   ·rw[af N];exact k7 _ _<|y _ _<|j _ _ g2
   simp_all
  |false=>
   refine ak ?_;rw[go,Oo N6]at am;obtain⟨I,lr,rfl⟩:∃I lr,lf=I::lr:=by
    cases lf with
    |nil=>
     simp at ac;lia
    |cons I lr=>exact⟨I,lr,rfl⟩
   exists _,rfl,.inl ⟨rfl,_,SqL.of G⟩,_,rfl,.inl ⟨rfl,_,SqL.of g2⟩,b,_,0,0,.bl I,rfl,rfl,g2,by simp,by simp,DZ (by simp),rfl;refine⟨d,_,_,rfl,rfl,(by rw[af<|P0 N];exact G),?_,?_⟩
   ·rw[B'];exact ah (by lia)
   refine⟨o++[I],lr,_,_,_,rfl,by rw[aa,<-jI],by rw[af N,aa];rfl,(e.upd_new nb _).upd_new W _,by rw[N0,L];rfl,?_,hF.snoc λz=>by simp_all⟩;grind
 rintro σ D ⟨n,_,v8,v9,u,rfl,G,_,e,bl,_,hF⟩;rw[en]at bl;have aC:∀i,i<t.length->cr t a i=NW->n[i]?=gV (C i n):=λi r g=>by
  rw[hF i (by simp_all) g,hA,GP J S.hok i (b:=n)]
 have eb:(n.map V.bl).length=t.length:=by simp_all
 refine⟨_,rfl,.ref d,_,rfl,.inl ⟨_,SqL.of G,rfl⟩,_,_,rfl,rfl,_,_,rfl,by lia,dq (lo:=1) (n:=((((n.map V.bl).length:Nat):Int)+1-1).toNat)
  (EJ [gV<|.ref p,gV v,gV<|.str<|ao a,gV<|.ref l,gV<|.ref x,gV<|.ref oa,gV<|.ref d,gV<|.ref b] d n H) ⟨_,_,_,rfl,G,e⟩ ?_ ?_⟩
 ·rintro i σ D r ⟨v8,v9,u,rfl,G,e⟩;have r:i<t.length:=by simp_all
  refine⟨_,rfl,(aS (e _ _ S.hp) rfl ⟨_,rfl,_,rfl,t,a,1+(i:Int),rfl,(by rw[aX<|by lia];lia),(by rw[aX<|by lia];lia),by lia,_,rfl,?_⟩)⟩;rw[pF (t:=t) (H:=a) (i:=i) (z:=1+(i:Int))<|by lia];cases go:cr t a i with
  |false=>exact ak ⟨_,_,_,rfl,G,e⟩
  |true=>
   refine ap ⟨_,rfl,x,dx,_,rfl,e _ _ O,rfl,_,rfl,_,rfl,d,_,rfl,.inl<|SqL.of G,λc hc=>?_⟩;have j:=ad hc<|.lst<|n.map V.bl;have s5:=@aa D c (.lst<|n.map V.bl);generalize upd D c (.lst<|n.map V.bl)=H5 at j s5 ⊢;refine⟨x,c,C,t,a,n,i,by rw[R6];rfl,Pa<|e.trans j,s5,r,by lia,by simp_all,t8,go,λH6 y=>?_⟩;have g6:=y _ _<|j _ _ G;exact⟨_,rfl,_,rfl,_,_,rfl,rfl,(fz g6 (by rw[show(1:Int)+(i:Int)-1=(i:Int) by lia];exact aG<|by rw[Ox,aC i r go];rfl)<|.inl ⟨rfl,_,rfl,MB rfl ⟨_,_,_,rfl,g6,e.trans<|j.trans y⟩⟩)⟩
 rintro σ H5 ⟨v8,v9,u,rfl,G,j⟩;exact⟨_,rfl,q _ _ n j G bl hF⟩
end
noncomputable abbrev Mp:Pn:=b9 102
structure Mq (K:C')(mg:Str->M' NX)(CL CY:J'):Prop where
 isinstance:mg "isinstance"=NZ
 len:mg "len"=NZ
 list:mg "list"=NZ
 clL:Cls K CL
 g_Player:mw mg "Player" (.ref CY)
 ha:O3 K (.ref CL) "__class__"=gV (gV<|.builtin "object.__class__")
 hn:Tp K (.builtin "object.__class__") "__get__"=gV (gV<|.builtin "getset_descriptor.__get__")
 htk:Uv K (.builtin "object.__class__")=gV NW
 hm:Ug K CL (.type "object")=gV NW
 kit:QE K (.ref CL) (.ref CY)=gV NW
theorem Few.at(F:Few t C)(a:H p=gV (.tup [.str t,.ref q]))(b:H q=gV (.lst x))(h:CLs H C x):dR H p q t x C:=
 ⟨a,b,h,by have:=F.t8;lia,by have:=F.many;lia,F.lits,λc d=>by have:=F.c4 c d;lia⟩
theorem LedX.clear{CL:J'}(h:LedX H C CL x E g t w)(i:H q=gV (.lst X))(m:CLs H F X):LedX (upd H q<|.lst y) C CL x E g t w:=by
 obtain⟨D,d,p,l,a,s,r,v,f,j,A,B⟩:=h;have k:∀b o,(∀u,o≠.lst u)->H b=gV o->upd H q (.lst y) b=gV o:=λb o n e=>by
  rwa[af λz=>n _<|by rw[z,i]at e;exact(OA e).symm]
 have N:l≠q:=λz=>by
  rw[z,i]at f;cases f;obtain⟨c,Z,T,e,Q⟩:=m.get (j:=0) rfl;simp_all
 exact⟨D,d,p,l,a,s,k _ _ (by simp) r,k _ _ (by simp) v,by rwa[af N],k _ _ (by lia) j,A.to λb X e=>k _ _ (by lia) e,B.mono λb o n e=>k b o (λu z=>by rwa[z]at n) e⟩
theorem nu(h:x∈bC X lo H):x∈X:=RG<|Qr h
inductive EK (K:C')(C CL T:J')(vs:ab V)(H:Hp)(Q:VK)(E:XK):Prop
 |mk (a p l:J')(ns:ab Int)(t:Str)(ys:ab V)(c ds:ab (ab Int))(v:V)(s:Nx)(hw w:N')(b:ab dL)(h0:vs=[.ref a,.ref p,v,.str (ao hw),.ref l,.bl w])(f:SqL K H a (ns.map V.int))(g:RD H (jS t c) (.ref p))(F:Few t c)(i:RD H s.d v)(j:jb t c s)(ha:bG t c s.d=gV ds)(hl:H l=gV (.lst ys))(he:EntsAt H (λ_=>True) b ys)(hok:PlanOk b t hw)(nd:(b.map (·.1)).Nodup)(k:b.length<=8)(m:∀e∈b,e.2.1.length<=9000)(d:wY H T)(win:w=NW->∀bs,bs.length=t.length->bE ds (jJ b t hw bs t.length)=hw)(q:∀h,Off T H h->wY h T->Q (.bl NW) h)
inductive EL (c:ab (M' V))(H:Hp)(i:Nat)(b:St)(h:Hp):Prop
 |mk (v a:M' V)(I:b=c++[v,a])(d:Same H h)
section
variable {CL:J'}
theorem Kw{g8:J'}{e8:Ol}(F:Fun K "_law_good" "_law_good" Mp f fd)(T:Mq K M CL CY)(VD:Fe P w K M B 1 "_law_cell_at" (lx K))(b4:Fe P w K M B 1 "_law_comes" pG)(b5:Fe P w K M B 1 "_law_lists" pH)(b6:Fe P w K M B 2 "_law_many" sY)(b7:Fe P w K M B 6 "_law_play" (xf O CL))
  (cc:Fe P w K M B 16 "losing_play" (sR O CL T')) (cd:Fe P w K M B 7 "player_back" (sN O CL)) (ce:JI P w K M B 1 "Planned" O g8 e8 ["self","plan"] (wQ O)):ay P w K M B a_ 17 f fd ["_law_script","_law_sentence_here","_law_step","_law_hand","_law_plan_here","_law_wins"] (EK K O CL T'):=by
 refine F.okB (N:=["_law_script","_law_sentence_here","_law_step","_law_hand","_law_plan_here","_law_wins","_law_handed","_law_player","_law_lists_here","_law_turn","_law_some","_law_others","_law_filling"]) λQC A a9 s H vs Q E sc hr h=>?_;obtain⟨a,p,l,W,t,ys,X,ds,v,s,d,Z,es,rfl,hS,hd,D,as,av,Zz,hl,az,aC,nd,e8,e9,aF,ba,q⟩:=h;have hu:=hr.units;have t8:=D.t8;obtain⟨pp,qa,xs,ep,h1,h2,h3⟩:=fH hd;cases ep;refine⟨_,(ae (sT 6<|dZ<|kT gg<|aW gU rfl T.list RO gg)
  (ae gg
  (ae (dm<|Bc Ph WU PySem.F.type_list_clear Bf gg)
  (ae (aQ (ij<|gR<|aN jX rfl T.isinstance R7<|kT (pv 7)<|ci rfl T.g_Player) (cQ fm) ax)
  (ae gg
  (ae (sT 9<|b_ AW gg<|aN ca rfl T.len P5<|fC<|pv 8)
  (ae (aQ gg (ae (sT 10<|bu bZ (pv 8) gg bU)
   (ar<|sT 8<|b_ cF (b_ cF (bu bZ (pv 10) bU gg)<|bu bZ (pv 8) bU gg)<|bu bZ (pv 10) bU gg)) ax)
  (ae (fS 11 (aD<|pv 8) gg)
  gg)))))))),?_⟩
 refine⟨_,rfl,(aS h1 rfl ⟨_,rfl,(aS h1 rfl ⟨qa,xs,rfl,.inl<|SqL.of h2,λI nq=>⟨(by show 2<=sizeLine;decide),λhp nh=>?_⟩⟩)⟩)⟩;have k1:=ad nq<|.lst xs;have s1:=@aa H I (.lst xs);generalize upd H I (.lst xs)=H1 at k1 s1 nh ⊢;have k2:=ad nh<|.tup [.str t,.ref I];have s2:=@aa H1 hp (.tup [.str t,.ref I]);generalize upd H1 hp (.tup [.str t,.ref I])=H2 at k2 s2 ⊢;have Xb:=k1.trans k2;have aL:=k2 _ _ s1;refine⟨_,rfl,_,rfl,_,rfl,_,rfl,λx dx nx bb Wi=>?_⟩;have k3:Same H2 (upd (upd H2 dx<|.own x) x<|.ins O dx []):=λb o e=>by
  rw[af<|ag e nx,af<|ag e bb];exact e
 have s3:=@aa (upd H2 dx<|.own x) x (.ins O dx []);have bc:H2 x=none:=nx;generalize upd (upd H2 dx<|.own x) x (.ins O dx [])=H3 at k3 s3 ⊢;have a0:=Xb.trans k3;refine⟨x,dx,l,es,ys,λS=>True,rfl,s3,a0 _ _ hl,az.mono a0,nd,by lia,e9,λH4 VM kx=>⟨rfl,?_⟩⟩;have j:Same H2 H4:=λb o e=>kx b o (ag e bc)<|k3 _ _ e;have ac:=Xb.trans j;refine⟨hp,I,x,es,t,xs,X,ds,v,s,d,rfl,D.at (j _ _ s2) (j _ _ aL)<|h3.mono ac,λc m=>(D.ok c m).1,dw ac _ _ as,av,Zz,VM,λy H5 k5 hL=>?_⟩;have a1:=ac.trans k5;have am:=k5 _ _<|j _ _ aL;refine⟨_,rfl,(aS (k5 _ _<|j _ _ s2) rfl ⟨.inl ⟨rfl,_,SqL.of am⟩,I,xs,rfl,rfl,am,?_⟩)⟩;have J:=hL.clear (y:=[]) am<|h3.mono a1;have k6:Same H (upd H5 I<|.lst []):=a1.upd_new nq _;generalize upd H5 I (.lst [])=H6 at J k6 ⊢;obtain⟨dy,S,S,S,S,S,bf,S⟩:=id J;refine⟨_,rfl,.ref y,.ref CL,CY,NW,rfl,.ins bf T.clL T.ha T.hn T.htk T.hm,T.kit,NW,rfl,ak ?_⟩;refine⟨_,rfl,_,rfl,p,t,_,d,rfl,k6 _ _ h1,t8,λH7 k7=>⟨jH t d t.length,rfl,O8 (sM _ _ _) t8,λll U H8 k8 N eb bg=>?_⟩⟩;have a2:=k6.trans<|k7.trans k8;have bk:jH t d t.length<=8:=O8 (sM _ _ _) t8;have pm:2^jH t d t.length<=2^8:=RF (by decide) bk;have pp:0<2^jH t d t.length:=Nat.two_pow_pos _;rw[<-eb]at pm pp;exists _,rfl,a,W,58,rfl,a2.seq hS,(by decide),_,_,rfl,rfl,⟨by decide,by decide⟩,_,rfl,.ref ll,_,rfl,.inl ⟨_,SqL.of N,rfl⟩,_,_,rfl,rfl,Int.ofNat_lt.mpr pp;refine fw ?_;dsimp only;refine c7 (λbl H'=>∃L n an,bl=[gV<|.ref a,gV<|.ref p,gV v,gV<|.str<|ao d,gV<|.ref l,gV<|.bl Z,gV<|.ref hp,gV<|.ref y,gV<|.ref L,gV<|.int<|cZ W 58/3%(U.length:Nat),an,NZ,NZ]/\Same H8 H'/\H' L=gV (.lst n)/\n.length<=900/\∀u∈n,u∈U) (λR hR=>?_) ?_
 ·cases Z with
  |true=>exact⟨_,rfl,NW,rfl,ak<|hR _ _ ⟨ll,U,_,rfl,Same.refl _,N,by lia,λS h=>h⟩⟩
  |false=>
   refine⟨_,rfl,N8,rfl,ap ⟨_,rfl,_,rfl,_,rfl,ll,U,rfl,SqL.of N,λl1 n1=>?_⟩⟩;have j1:=ad n1<|.lst<|bC U (gV<|cZ W 58/3%(U.length:Nat)) NZ;have c1:=@aa H8 l1 (.lst<|bC U (gV<|cZ W 58/3%(U.length:Nat)) NZ);have d1:=λx (h:x∈bC U (gV (cZ W 58/3%(U.length:Nat))) NZ)=>nu h;have f1:=eR U (gV<|cZ W 58/3%(U.length:Nat)) NZ;generalize bC U (gV<|cZ W 58/3%(U.length:Nat)) NZ=g at j1 c1 d1 f1 ⊢;generalize upd H8 l1 (.lst g)=G1 at j1 c1 ⊢;refine⟨_,rfl,_,rfl,l1,g,rfl,SqL.of c1,λl2 n2=>?_⟩;have j2:=ad n2<|.lst<|bC g NZ<|gV 3;have c2:=@aa G1 l2 (.lst<|bC g NZ<|gV 3);generalize upd G1 l2 (.lst<|bC g NZ<|gV 3)=G2 at j2 c2 ⊢;refine⟨_,rfl,_,rfl,ll,U,rfl,SqL.of<|j2 _ _<|j1 _ _ N,λl3 n3=>?_⟩;have j3:=ad n3<|.lst<|bC U NZ<|gV 2;have c3:=@aa G2 l3 (.lst<|bC U NZ<|gV 2);generalize upd G2 l3 (.lst<|bC U NZ<|gV 2)=G3 at j3 c3 ⊢;have f2:=eR g NZ<|gV 3;have f3:=eR U NZ<|gV 2;have f5:=eR g NZ<|gV 1;refine⟨l2,l3,_,_,rfl,rfl,j3 _ _ c2,c3,OW (ah<|by lia),λl4 n4=>?_⟩;have j4:=ad n4<|.lst<|bC g NZ (gV 3)++bC U NZ (gV 2);have c4:=@aa G3 l4 (.lst<|bC g NZ (gV 3)++bC U NZ (gV 2));generalize upd G3 l4 (.lst<|bC g NZ (gV 3)++bC U NZ (gV 2))=G4 at j4 c4 ⊢;have a3:=j2.trans<|j3.trans j4;refine⟨_,rfl,_,rfl,l1,g,rfl,SqL.of<|a3 _ _ c1,λl5 n5=>?_⟩;have j5:=ad n5<|.lst<|bC g NZ<|gV 1;refine⟨l4,l5,_,_,rfl,rfl,j5 _ _ c4,aa,OW (ah<|by rw[N0];lia),λl6 n6=>?_⟩;refine hR _ _ ⟨l6,_,_,rfl,j1.trans<|a3.trans<|j5.trans<|ad n6 _,aa,(by rw[N0,N0];lia),λu hu=>?_⟩;obtain h|h:=Os.mp hu
   ·obtain h|h:=Os.mp h
    ·exact d1 _<|nu h
    exact nu h
   exact d1 _<|nu h
 rintro S H9 ⟨L,n,an,rfl,k9,a4,cf,bm⟩;have a5:=a2.trans k9;have a6:=k7.trans<|k8.trans k9;obtain⟨A',hA⟩:∃A',A'=pT es (fV (jL t X d s)) t d:=⟨_,rfl⟩;have Y:Z=NW->∀bs,bs.length=t.length->Fol A' t d bs->bE X bs=d:=λe bs hl hF=>ED (λc m=>D.ok c m) Zz (GM hl λi hi ho=>by rw[hF i (by lia) ho,hA])<|ba e _ hl;have eh:decide (V.str (ao d)=V.str (N_ "wisher"))=d:=by cases d<;>decide+kernel
 have V2:∀c∈X,∀l∈c,1<=absI l/\absI l<=(t.length:Int):=λc m=>(D.ok c m).2;have a7:ug X:=⟨by have:=D.many;lia,λc m=>by have:=D.c4 c m;lia⟩;refine⟨_,rfl,L,rfl,⟨_,SqL.of a4⟩,cy (K:=K) (a:=L) (X:=n) (EL [gV<|.ref a,gV<|.ref p,gV v,gV<|.str<|ao d,gV<|.ref l,gV<|.bl Z,gV<|.ref hp,gV<|.ref y,gV<|.ref L,gV<|.int<|cZ W 58/3%(U.length:Nat),an] H9) ⟨NZ,NZ,rfl,Same.refl _⟩ ?_ ?_ ?_⟩
 ·rintro i σ G S ⟨S,S,S,C⟩;exact SqL.of<|C _ _ a4
 ·rintro i u σ G br ⟨bt,b0,rfl,C⟩;have k:=a5.trans C;obtain⟨r,o,rfl,ho,rl⟩:=bg u<|bm u<|N5 br;refine fw ⟨_,rfl,_,rfl,_,rfl,_,rfl,_,rfl,_,rfl,p,qa,l,y,o,t,xs,ys,X,v,s,d,es,r,A',rfl,D.at (k _ _ h1) (k _ _ h2)<|h3.mono k,λc m=>(D.ok c m).1,dw k _ _ as,av,k _ _ hl,az.mono k,aC,t8,J.mono<|a6.trans C,hA,C _ _<|k9 _ _ ho,rl,λfa G2 bs z b1 a8 hF=>?_⟩;refine⟨_,rfl,rfl,_,rfl,ak ⟨_,rfl,Z,rfl,?_⟩⟩;cases Z with
  |false=>exact ak<|ak ⟨_,_,rfl,C.trans z⟩
  |true=>
   refine ap ⟨_,rfl,_,rfl,_,fa,t,X,_,rfl,dw (k.trans z) _ _ hd,b1,a7,(by rw[a8];exact V2),λG3 b2=>⟨_,rfl,.inl ⟨rfl,.inl ⟨rfl,_,rfl,MB (by rw[eh];exact O1 _<|Y rfl bs a8 hF) ⟨_,_,rfl,C.trans<|z.trans b2⟩⟩⟩⟩⟩
 rintro σ G ⟨bt,b0,rfl,C⟩;have k:=a5.trans C;cases Z with
 |false=>exact⟨_,rfl,N8,rfl,NW,rfl,ap<|q G (Off.of k)<|aF.mono k⟩
 |true=>
  refine⟨_,rfl,NW,rfl,N8,rfl,ak ⟨_,rfl,_,rfl,_,rfl,p,y,t,X,d,A',rfl,⟨dw k _ _ hd,t8,⟨es,_,J.mono<|a6.trans C,aC,hA⟩,a7,λc m l hl=>(V2 c m l hl).1⟩,aF.mono k,Y rfl,λG2 z b3=>⟨rfl,q G2 ((Off.of k).trans z) b3⟩⟩⟩
end
noncomputable def iO(t:Str)(h:N')(d:ab Og)(o:ab (ab Int)):ab dL:=(uY t h d o).map λe=>(e.1,e.2,N8)
theorem EM(h:oC d=gV i):∃z,d=.tuple [.str aB,.int z]/\z.toNat=i:=by
 unfold oC at h;split at h
 ·split at h
  ·rename_i e;subst e;exact⟨_,rfl,OA h⟩
  cases h
 cases h
theorem AK(u:∀c∈C,au t.length c)(m:bQ t C w [] d=(o,NW))(h:r∈bw w d o v d.length):r.1.length<=t.length/\∀l∈r.1,1<=absI l/\absI l<v:=by
 have H:∀c∈o,au t.length c:=by
  have:=gn (w:=w) u (D:=d) (s:=[]) (by simp);rwa[m]at this
 obtain⟨k,x,y⟩:=wc h;obtain⟨l,A,rfl⟩:=OH.mp y;obtain⟨b,n⟩:=Oj.mp A;unfold cm at b
 split at b
 ·rename_i i e;obtain⟨z,B,D⟩:=EM e;obtain⟨j,rfl,Q,F,p⟩:=rJ m (by rw[<-B];exact aE x);have E:j=i:=by rw[<-D,O4]
  subst E;obtain⟨G,f⟩:=Oj.mp b;have f:l∉o.getD k []:=by grind
  have I:eZ t w (o.getD j [])<absI l:=by
   refine VY λg=>f ?_;rw[p];exact Oj.mpr ⟨G,N3 g⟩
  have O:=eO H F;have q:∀L∈o.getD k [],1<=absI L/\absI L<v:=λL g=>by
   have J:=(O.2 L g).1;rw[p]at g;have U:=Oh (Oj.mp g).2;exact⟨J,by lia⟩
  have s:=bv O;unfold mH
  split
  ·exact⟨s,q⟩
  refine⟨by rwa[B'],λL g=>?_⟩;obtain⟨a,M,rfl⟩:=OH.mp g;have N:absI (-a)=absI a:=by
   obtain⟨_,e⟩|⟨_,e⟩:=aI a<;>obtain⟨_,P⟩|⟨_,P⟩:=aI (-a)<;>lia
  rw[N];exact q a M
 simp_all
theorem md(h:e∈iO t H d o):∃i,i<t.length/\cP t i=H/\e=(1+(i:Int),bw H d o (1+(i:Int)) d.length,N8):=by
 obtain⟨E,f,rfl⟩:=OH.mp h;obtain⟨v,g,rfl⟩:=OH.mp f;obtain⟨a,b,c⟩:=dv.mp g;refine⟨(v-1).toNat,by lia,c,?_⟩;rw[lF a]
theorem pJ(b:i<t.length)(a:cP t i=h):(iO t h d o).find? (λe=>decide (e.1=1+(i:Int)))=gV (1+(i:Int),bw h d o (1+(i:Int)) d.length,N8):=by
 cases H:(iO t h d o).find? _ with
 |none=>
  refine absurd (N3 rfl)<|Q3.mp H (1+(i),bw h d o (1+(i)) d.length,N8) ?_;refine OH.mpr ⟨(1+(i),bw h d o _ _),OH.mpr ⟨1+(i),dv.mpr ⟨by lia,by lia,?_⟩,rfl⟩,rfl⟩;grind
 |some e=>
  obtain⟨j,z,z,rfl⟩:=md<|PV H;have E:=Oh<|R8 (p:=λe:dL=>decide (e.1=1+(i))) H;simp_all
theorem EN(n:t.length<=900)(f:∀c∈C,au t.length c)(z:bQ t C H [] d=(o,NW)):PlanOk (iO t H d o) t H:=by
 refine⟨λi h g=>?_,λe j=>?_⟩
 ·have e:=pJ (d:=d) (o:=o) h<|eq_of_beq g;exact⟨_,e,PV e,rfl⟩
 obtain⟨i,h,y,rfl⟩:=md j;refine⟨i,h,rfl,λr k=>?_⟩;obtain⟨a,b⟩:=AK f z k;lia
theorem GR:∀{n i:Nat},i<=n->(jJ e t H b n).take i=jJ e t H b i
 |n,i,h=>by
  refine RI λj=>?_;by_cases g:j<i
  ·rw[Pj g,vh _ (Pf g h),vh _ g]
  rw[O_ (by rw[OB,dC];simp_all),O_<|by rw[dC];simp_all]
theorem GS(b:∀c∈C,au t.length c)(z:bQ t C h [] d=(o,NW))(e:[]∈o)(B:ab N'):bE C (jJ (iO t h d o) t h B t.length)=h:=by
 refine zU b z e (dC _ _ _ _ _) λi r H a f=>?_;rw[GR<|OW H]at f;rw[vh _ H,On (by unfold cr;simp_all)];unfold iN;rw[pJ H a];show gV (lY _ _ _)=_
 unfold lY;rw[f]
theorem EO(g:t.length<=8)(j:d.length<=2100)(b:∀c∈C,au t.length c)(r:bQ t C H [] d=(o,NW))(f:e∈iO t H d o):e.2.1.length<=9000:=by
 obtain⟨i,k,z,rfl⟩:=md f;have a:∀c∈o,au t.length c:=by
  have:=gn (w:=H) b (D:=d) (s:=[]) (by simp);rwa[r]at this
 have l:=iJ (H:=H) (d:=d) (v:=1+(i)) a (by lia) (n:=d.length);lia
theorem jK{b a:Type}{R:b->a->Prop}:∀{l:ab b} {m:ab a} {j:Nat} {y:a},Paired R l m->m[j]?=gV y->∃x,l[j]?=gV x/\R x y
 |_,_,_,_,.nil,h=>by simp at h
 |x::_,_,0,_,.cons r _,h=>by simp_all
 |_,_,j+1,_,.cons _ t,h=>jK (j:=j) t h
theorem pK(t:Str)(h:N')(d:ab Og)(o:ab (ab Int)):(iO t h d o).map (·.1)=aK t h:=by
 unfold iO uY;rw[OZ,OZ];exact TC _
theorem AL(t:Str)(h:N')(d:ab Og)(o:ab (ab Int)):(iO t h d o).length<=t.length:=by
 have:=O1 P7<|pK t h d o;rw[B']at this;rw[this];exact pe t h
theorem xg(h:Paired (PartAt H c L) (uY t w d o) X):EntsAt c (λz=>True) (iO t w d o) X:=by
 unfold iO;refine⟨by rw[B'];exact h.length.symm,λi x f=>?_⟩;obtain⟨e,g,p,a,Y,rfl,k,l,b,z,z⟩:=jK h f;refine⟨(e.1,e.2,N8),by simp_all,p,a,Y,rfl,k,l,⟨b.length.symm,λj y m=>?_⟩,trivial⟩;obtain⟨r,n,q,s,rfl,G,u⟩:=jK b m;exact⟨r,n,q,s,rfl,G,u⟩
noncomputable abbrev EQ:Pn:=b9 103
def yV(K:C')(T:J'):Sp:=λv H Q _=>∃(a:J') (n:ab Int),v=[.ref a]/\SqL K H a (n.map V.int)/\n.length<=63/\wY H T/\∀h,Q (.bl NW) h
inductive Kx (H:Hp)(t:Str)(c:ab (ab Int))(y:V):Prop
 |mk (s:Nx)(ds:ab (ab Int))(b:J')(e:y=.ref b)(h:H b=gV (.tup s.zs))(a:jb t c s)(d:bG t c s.d=gV ds)
structure Sty (K:C')(T:J')(H:Hp)(a p D:J')(ns:ab Int)(t:Str)(cs:ab (ab Int))(ys:ab V):Prop where
 rd:RD H (jS t cs) (.ref p)
 sq:SqL K H a (ns.map V.int)
 st:H D=gV (.lst ys)
 go:∀y∈ys,Kx H t cs y
 tb:wY H T
theorem Sty.off(h:Sty K T H a p D n t C Y)(k:Off T H c)(d:wY c T):Sty K T c a p D n t C Y:=by
 refine⟨B2 h.rd k h.tb,?_,k.at_ h.tb h.st (by lia),λy f=>?_,d⟩
 ·obtain(z|⟨o,z⟩)|z:=h.sq
  ·exact .inl<|.inl<|k.at_ h.tb z λx z=>nomatch z
  ·exact .inl<|.inr ⟨o,k.at_ h.tb z λx z=>nomatch z⟩
  exact .inr z
 obtain⟨s,g,b,e,i,j,l⟩:=h.go y f;exact⟨s,g,b,e,k.at_ h.tb i (by lia),j,l⟩
theorem Sty.mono(h:Sty K T H a p D n t c y)(k:Same H b):Sty K T b a p D n t c y:=h.off (Off.of k)<|h.tb.mono k
inductive Mr (K:C')(T a p D lw:J')(ns:ab Int)(c:Int)(t:Str)(C:ab (ab Int))(ys ws:ab V)(i:Nat)(b:St)(H:Hp):Prop
 |mk (v d e f g h:M' V)(h0:b=[gV<|.ref a,gV<|.ref p,gV<|.ref D,gV<|.int c,v,d,e,f,g,h])(j:Sty K T H a p D ns t C ys)(k:H lw=gV (.lst ws))
inductive Iw (K:C')(T a p D lw l b:J')(ns:ab Int)(c:Int)(t:Str)(C:ab (ab Int))(ys ws h zs:ab V)(v d e f:M' V)(i:Nat)(g:St)(H:Hp):Prop
 |mk (j:M' V)(h0:g=[gV<|.ref a,gV<|.ref p,gV<|.ref D,gV<|.int c,v,d,gV<|.ref b,e,f,j])(k:Sty K T H a p D ns t C ys)(m:H lw=gV (.lst ws))(n:H l=gV (.lst h))(o:H b=gV (.tup zs))
section
variable {CL:J'}
theorem Ky(F:Fun K "law" "law" EQ f fd)(T:Bl u)(bm:Fe P w K u B 2 "_law_sentence" (we K))(br:Fe P w K u B 1 "_law_tried" sW)
  (bt:Fe P w K u B 3 "_law_behind" wZ) (VD:Fe P w K u B 1 "_law_cell_at" (lx K)) (b0:Fe P w K u B 6 "smaller_by" kQ) (b1:Fe P w K u B 10 "settled_paper" lU) (b2:Fe P w K u B 8 "plan_of" sC)
  (b3:Fe P w K u B 2 "_law_plan" (sX K)) (b4:Fe P w K u B 17 "_law_good" (EK K CP CL T')):ay P w K u B a_ 18 f fd ["_law_script"] (yV K T'):=by
 refine F.okB (N:=["_law_script","_law_sentence_here","_law_steps","_law_cell","_law_word","_law_some","_law_step","_law_told","_law_paper","_law_hand"]) λQC A a2 s H vs Q E sc hr h=>?_;obtain⟨a,N,rfl,hS,hl,az,q⟩:=h;have hu:=hr.units;refine⟨_,(ae gg
  (ae (B_ 2 ["_law_step","_law_sentence_here"] [NZ,gV 1]<|aD gg)
  (ae gg
  (ae (fk PU rfl (aD gg) (iP (i:=4) sc.nd rfl<|Ux rfl)
   (ae (B_ 5 ["_law_step","_law_word"] [NZ,gV 4] (aD<|pv 2) (t:=λ_ _ _ _=>(bM<|oG (dN hu) (xP (K:=K) (pv 0) bX)<|pv 1)))
   (ar (aQ gg (ae gg
    (ae gg
    (ae gg
    (ae gg
    (ar<|fS 9 (aD gg) gg))))) ax))))
  (cQ fm))))),?_⟩
 refine⟨_,rfl,a,N,7,rfl,hS,hl,(by simp),(by simp),λp t C H1 k1 hd ok c4=>?_⟩;have b5:=ok.len;have v:Few t C:=⟨ok.ws,by lia,ok.many,λc hc=>⟨(uv (n:=0) (ok.cl c hc).1).1,λl hl=>⟨(ok.cl c hc).pos l hl,(ok.cl c hc).2 l hl⟩⟩,c4⟩;have t8:=v.t8;obtain⟨pp,qa,zs,ep,G,h2,h3⟩:=fH hd;cases ep;have S:∀{H':Hp},Same H1 H'->dR H' p qa t zs C:=λk=>v.at (k _ _ G) (k _ _ h2)<|h3.mono k;have Sc:∀{H':Hp},Same H1 H'->ClsAt H' qa t zs C:=λk=>⟨(S k).hq,(S k).hcs,(S k).ht,(S k).hn,(S k).hok,(S k).hc⟩;refine⟨_,rfl,p,qa,t,zs,C,rfl,G,Sc<|Same.refl _,t8,v.many,v.c4,λL ys H2 k2 sL yl g2=>⟨L,rfl,⟨_,SqL.of sL⟩,λD nD=>?_⟩⟩;refine fN [gV<|.ref p] (Kx H2 t C) rfl sL nD yl (λx hx H' R k r=>?_) λY H3 k3 s3 l3 g3=>?_
 ·obtain⟨s,b,rfl,X⟩:=g2 x hx;have k':=k2.trans k;refine⟨_,rfl,_,rfl,p,qa,b,t,zs,C,s,rfl,k' _ _ G,Sc k',λc hc=>(v.ok c hc).1,k _ _ X,λv' H6 I r6=>⟨rfl,_,rfl,r _ _ I λhn=>?_⟩⟩;obtain rfl|r6:=r6
  ·cases hn
  obtain⟨n,e⟩:=QF.mp r6;obtain⟨s',es,J⟩:=DT e;have rd:=u9 X;rw[es]at rd e;obtain⟨b',eb,a3⟩:=pC rd;cases eb;exact⟨s',n,b,rfl,a3,J,e⟩
 have O:=k2.trans k3;have st:Sty K T' H3 a p D N t C Y:=⟨dw O _ _ hd,(k1.trans O).seq hS,s3,λy hy=>by
  obtain⟨s,n,b,e,g1,g2,g3⟩:=(g3 y hy).2;exact⟨s,n,b,e,k3 _ _ g1,g2,g3⟩,az.mono<|k1.trans O⟩
 have y9:Y.length<=900:=O8 l3 yl;clear g2 sL nD g3 s3 O k3 k2 k1 S Sc G h2 h3 hd hS az yl l3;exists _,rfl,a,N,57,rfl,st.sq,(by simp),_,_,rfl,rfl,⟨by simp,by simp⟩;generalize cZ N 57/2=c;refine⟨(by show 5<=sizeLine;decide),λlw nw=>⟨lw,rfl,⟨_,SqL.of aa⟩,cy (K:=K) (a:=lw) (X:=[N_ "drop",N_ "unit",N_ "pure",N_ "within",N_ "blocked"].map V.str) (Mr K T' a p D lw N c t C Y ([N_ "drop",N_ "unit",N_ "pure",N_ "within",N_ "blocked"].map V.str)) ⟨NZ,NZ,NZ,NZ,NZ,NZ,rfl,st.mono<|ad nw _,aa⟩ ?_ ?_ ?_⟩⟩
 ·rintro i σ H4 _ ⟨_,_,_,_,_,_,_,_,h⟩;exact SqL.of h
 ·rintro i x σ H4 hx ⟨v4,v5,v6,v7,v8,v9,rfl,st,aC⟩;obtain⟨wd,_,rfl⟩:=OH.mp<|N5 hx;refine fw ⟨_,rfl,D,rfl,⟨_,SqL.of st.st⟩,λD2 a4=>?_⟩;refine fN [gV<|.str wd] (λ_=>True) rfl st.st a4 y9 (λx hx H' R k r=>?_) λa5 H5 U s5 l5 g5=>?_
  ·obtain⟨s,n,b,rfl,X,_,_⟩:=st.go x hx;exact⟨_,rfl,(aS (k _ _ X) (fo s) ⟨_,rfl,.inl ⟨rfl,_,rfl,r _ _ (Same.refl _) λ_=>trivial⟩⟩)⟩
  have d:=st.mono U;have ac:=U _ _ aC;clear st aC U;refine⟨_,rfl,.ref D2,_,rfl,.inl ⟨_,SqL.of s5,rfl⟩,_,_,rfl,rfl,_,rfl,cn (λg=>?_) λg=>⟨_,_,_,_,_,_,rfl,d,ac⟩⟩;have aF:(0:Int)<(a5.length:Nat):=Oh g;obtain⟨y,hy,a6⟩:=JQ (QW c<|by lia)<|QL c aF;obtain⟨s,n,b,rfl,X,J,e⟩:=d.go y (g5 y hy).1;refine⟨_,rfl,_,rfl,_,rfl,.ref D2,_,rfl,.inl ⟨_,SqL.of s5,rfl⟩,_,_,rfl,rfl,aF,(fz s5 a6 ?_)⟩;obtain⟨pp,qa,zs,ep,G,h2,h3⟩:=fH d.rd;cases ep;refine⟨_,rfl,_,rfl,p,qa,t,zs,C,n,.ref b,s.d,rfl,v.at G h2 h3,u9 X,H_ s,e,λr l us H6 I _ am an TQ=>?_⟩;have Fd:=v.after e;have Z:=Kh Fd.ok t8;have b6:=Fd.many;have b7:=Z.few;refine⟨_,rfl,r,l,t,us,n,rfl,am,an,TQ,Fd.ok,t8,by lia,λpr pl ls H7 k7 _ _ aL VM a7=>?_⟩;refine⟨_,rfl,_,rfl,_,rfl,_,rfl,(aS aL rfl ⟨_,rfl,_,rfl,r,l,pr,pl,t,iI t n,us,ls,n,Du t n,Dv t n,rfl,k7 _ _ am,by lia,k7 _ _ an,TQ.mono k7,by lia,Fd.ok,aL,VM,a7,by lia,Z.good,Z.run,qO Z.last,λM xs H8 k8 _ hM hP=>?_⟩)⟩;have W:=I.trans<|k7.trans k8;have m:=d.mono W;have as:=W _ _ X;have a0:=W _ _ ac;clear d X ac G h2 h3 am an TQ;refine⟨a,p,M,N,t,xs,C,n,.ref b,s,iI t n,NW,_,rfl,m.sq,m.rd,v,u9 as,J,e,hM,xg hP,EN (by lia) Fd.ok Z.run,by rw[pK];exact jF _ _,O8 (AL _ _ _ _) t8,λe he=>EO t8 (by lia) Fd.ok Z.run he,m.tb,λ_ bs _=>GS Fd.ok Z.run (pd Z.last) bs,λH9 k9 a8=>⟨NW,rfl,ak ?_⟩⟩;have a9:=m.off k9 a8;have ba:=k9.at_ m.tb as λ_ z=>nomatch z
  have bb:=k9.at_ m.tb a0 λ_ z=>nomatch z
  clear m as a0 k9 W hM hP k8 k7 I;refine⟨(by show 2<=sizeLine;decide),λlh nh=>⟨lh,rfl,⟨_,SqL.of aa⟩,cy (K:=K) (a:=lh) (X:=[ao NW,ao N8].map V.str) (Iw K T' a p D lw lh b N c t C Y ([N_ "drop",N_ "unit",N_ "pure",N_ "within",N_ "blocked"].map V.str) ([ao NW,ao N8].map V.str) s.zs _ _ _ _) ⟨_,rfl,a9.mono<|ad nh _,ad nh _ _ _ bb,aa,ad nh _ _ _ ba⟩ ?_ ?_ ?_⟩⟩
  ·rintro i σ H4 _ ⟨_,_,_,_,h,_⟩;exact SqL.of h
  ·rintro j x σ H4 hx ⟨v9,rfl,o,av,bc,a1⟩;obtain⟨hs,bf,rfl⟩:=OH.mp<|N5 hx;obtain⟨hw,rfl⟩:∃hw,hs=ao hw:=by
    grind
   obtain⟨pp,qb,cc,ep,G,h2,h3⟩:=fH o.rd;cases ep;refine fw ⟨_,rfl,_,rfl,_,rfl,_,rfl,_,rfl,_,rfl,_,rfl,a,p,N,t,_,hw,rfl,o.sq,G,by lia,λM xs es H5 U bg bk hP=>?_⟩;have d:=o.mono U;refine⟨a,p,M,N,t,xs,C,n,.ref b,s,hw,N8,es,rfl,d.sq,d.rd,v,u9<|U _ _ a1,J,e,bg,bk,hP.ok,hP.nodup,O8 hP.len t8,(λe he=>by obtain⟨_,_,_,_,z⟩:=hP.at_ e he;lia),d.tb,(by simp),λH6 I bl=>⟨NW,rfl,ak ⟨_,rfl,d.off I bl,I.at_ d.tb (U _ _ av) (by lia),I.at_ d.tb (U _ _ bc) (by lia),I.at_ d.tb (U _ _ a1) λ_ z=>nomatch z⟩⟩⟩
  rintro σ H4 ⟨v9,rfl,o,av,_,_⟩;exact⟨_,_,_,_,_,_,rfl,o,av⟩
 rintro σ H4 ⟨_,_,_,_,_,_,_,_,_⟩;exact q _
end
abbrev fqq(K n s f e):=Fun K n n s f e
theorem all_mk {P:Om}{w:OI}{K:C'}{h:Pd}{mg:Str->M' NX}{fa:J'}(X:K.In h)(G:h.Ns OY mg)(hfa:mg "law"=gV (.ref fa)){CS CP CL CY:J'}{tM:Tok}(D1:DA mg K "is_number" JX f1 e1)(D3:DA mg K "is_set" LP f3 e3)(D4:DA mg K "stands_by" yn f4 e4)(D5:DA mg K "some_stands" HZ f5 e5)(D6:DA mg K "comes_true" DW f6 e6)(D7:DA mg K "hand_of" xV f7 e7)(D8:DA mg K "other_hand" wf f8 e8)(D9:DA mg K "literal_by" C_ f9 e9)(D10:DA mg K "variables_of" Hw f10 e10)(D11:DA mg K "stands_both_ways" Hz f11 e11)(D12:DA mg K "joined" xX f12 e12)(D13:DA mg K "dropped" uI f13 e13)(D14:DA mg K "is_place" Cj f14 e14)(D16:DA mg K "begins_with" HA f16 e16)(D18:DA mg K "given_set" Ck f18 e18)(D19:DA mg K "hits" rT f19 e19)(D21:DA mg K "hits_each" Ct f21 e21)(D22:DA mg K "hits_set" Cu f22 e22)(D23:DA mg K "join_set" Cn f23 e23)(D24:DA mg K "drop_set" Cl f24 e24)(D25:DA mg K "line_set" HB f25 e25)(D26:DA mg K "sets_of" x_ f26 e26)(D27:DA mg K "end_empty" LX f27 e27)(D28:DA mg K "whole_sets" LY f28 e28)(D29:DA mg K "named_by" HE f29 e29)(D30:DA mg K "renamed" Ad f30 e30)(D32:DA mg K "needed_by" J3 f32 e32)(D33:DA mg K "first_places" J7 f33 e33)(D34:DA mg K "shortened_paper" L8 f34 e34)(D35:DA mg K "rest_behind" Da f35 e35)(D36:DA mg K "hitting_set" HK f36 e36)(D37:DM K CS "__init__" "Searcher.__init__" Dq f37 e37)(D38:DM K CS "put" "Searcher.put" HI f38 e38)(D39:DM K CS "learn" "Searcher.learn" yj f39 e39)(D40:DM K CS "learn_join" "Searcher.learn_join" C7 f40 e40)(D41:DM K CS "fill_in" "Searcher.fill_in" Db f41 e41)(D42:DM K CS "turn_back" "Searcher.turn_back" Df f42 e42)(D43:DM K CS "look" "Searcher.look" Dk f43 e43)(D44:DM K CS "go" "Searcher.go" Ma f44 e44)(D45:DM K CS "paper" "Searcher.paper" yp f45 e45)(D46:DA mg K "settled_paper" uX f46 e46)(D47:DA mg K "turned_about" HN f47 e47)(D48:DA mg K "rule_of" HP f48 e48)(D49:DA mg K "plan_of" Dw f49 e49)(D50:DA mg K "all_stand" HX f50 e50)(D51:DM K CP "__init__" "Planned.__init__" HY f51 e51)(D52:DM K CP "answer" "Planned.answer" yF f52 e52)(D53:DA mg K "clauses_behind" yE f53 e53)(D54:DA mg K "is_of" HS f54 e54)(D55:DA mg K "is_unit" yx f55 e55)(D56:DA mg K "holds_all" Dz f56 e56)(D57:DA mg K "has_other_way" yy f57 e57)(D58:DA mg K "is_blocked" HU f58 e58)(D59:DA mg K "behind_drop" DE f59 e59)(D60:DA mg K "behind_unit" DF f60 e60)(D61:DA mg K "behind_within" DH f61 e61)(D62:DA mg K "behind_pure" DG f62 e62)(D63:DA mg K "behind_blocked" Mh f63 e63)(D64:DA mg K "clauses_after" DN f64 e64)(D65:DA mg K "smaller_by" wJ f65 e65)(D66:DA mg K "own_values" HW f66 e66)(D67:DA mg K "led_value" Ib f67 e67)(D68:DM K CL "__init__" "LedBack.__init__" Ia f68 e68)(D69:DM K CL "answers" "LedBack.answers" Ea f69 e69)(D70:DM K CL "answer" "LedBack.answer" Eb f70 e70)(D71:DA mg K "player_back" D0 f71 e71)(D72:DA mg K "played_on" NM f72 e72)(D73:DA mg K "first_loss" yM f73 e73){ad2:J'} {aik:Obj} (a74:Pk K OY "losing_play"=gV (gV (.ref f74)))(FL74:FunL K "losing_play" "losing_play" sP f74 e74 ad2)(k74:P_ K (.ref f74)=NW)(lc74:K.lookup ad2=gV aik)(pc74:Hs aik 246)(nc74:ad2≠246)(D75:DA mg K "_law_cell_at" Ca f75 e75)(D76:DA mg K "_law_mix" LO f76 e76)(D77:DA mg K "_law_drawn" Cb f77 e77)(D78:DA mg K "_law_sentence" Hv f78 e78)(D79:DA mg K "_law_own" Mn f79 e79)(D80:DA mg K "_law_dropped" Ei f80 e80)(D81:DA mg K "_law_number" Ej f81 e81)(D82:DA mg K "_law_ahead" Ek f82 e82)(D83:DA mg K "_law_stand" En f83 e83)(D84:DA mg K "_law_pure" Er f84 e84)(D85:DA mg K "_law_blocked" yP f85 e85)(D86:DA mg K "_law_behind" Ij f86 e86)(D87:DA mg K "_law_tried" Eu f87 e87)(D88:DA mg K "_law_plan" Ex f88 e88)(D89:DA mg K "_law_answer" Im f89 e89)(D90:DA mg K "_law_comes" yS f90 e90)(D91:DA mg K "_law_lists" yT f91 e91)(D92:DA mg K "_law_many" Ez f92 e92)(D93:DA mg K "_law_forced" Iq f93 e93)(D94:DA mg K "_law_back" Mo f94 e94)(D95:DA mg K "_law_play" Iu f95 e95)(D96:DA mg K "_law_good" Mp f96 e96)(D97:DA mg K "law" EQ f97 e97)(z0:Pk K OY "len"=gV NZ)(z1:Pk K OY "range"=gV NZ)(z2:Pk K OY "tuple"=gV NZ)(z3:Pk K OY "sorted"=gV NZ)(z4:Pk K OY "isinstance"=gV NZ)(z5:Pk K OY "int"=gV NZ)(z6:Pk K OY "bool"=gV NZ)(z7:Pk K OY "list"=gV NZ)(z8:Pk K OY "abs"=gV NZ)(z9:Pk K OY "all"=gV NZ)(z10:Pk K OY "zip"=gV NZ)(z11:Pk K OY "set"=gV NZ)(z12:Pk K OY "any"=gV NZ)(z13:Pk K OY "max"=gV NZ)(z14:Pk K OY "enumerate"=gV NZ)(z15:Pk K OY "dict"=gV NZ)(z16:Pk K OY "min"=gV NZ){tW tS:Tok} (zW:Pk K OY "WISHER"=gV (gV (.str (N_ "wisher") tW)))(zS:Pk K OY "SPOILER"=gV (gV (.str (N_ "spoiler") tS)))(CSy:Pk K OY "Searcher"=gV (gV (.ref CS)))(zM:Pk K OY "MOST_LOOKS"=gV (gV (.int 10000 tM)))(c1:Rq K CS YT=NW)(c2:RB K CS=NW)(c3:Sf K CS=NW)(c4:O3 K (.ref CS) "__setattr__"=gV (gV (.builtin "object.__setattr__")))(n1:O3 K (.ref CS) "sentence"=gV NZ)(n2:O3 K (.ref CS) "lines"=gV NZ)(n3:O3 K (.ref CS) "places"=gV NZ)(n4:O3 K (.ref CS) "begun"=gV NZ)(n5:O3 K (.ref CS) "firsts"=gV NZ)(n6:O3 K (.ref CS) "rests"=gV NZ)(n7:O3 K (.ref CS) "winner"=gV NZ)(alA:SV K CS=NW)(alB:P_ K (.ref CS)=NW)(CPy:Pk K OY "Planned"=gV (gV (.ref CP)))(p1:Rq K CP YT=NW)(p2:RB K CP=NW)(p3:Sf K CP=NW)(p4:O3 K (.ref CP) "__setattr__"=gV (gV (.builtin "object.__setattr__")))(p5:O3 K (.ref CP) "entries"=gV NZ)(alC:SV K CP=NW)(alD:P_ K (.ref CP)=NW)(zZ:Pk K OY "zip"=gV NZ)(CLy:Pk K OY "LedBack"=gV (gV (.ref CL)))(p6:O3 K (.ref CP) "__class__"=gV (gV (.builtin "object.__class__")))(p7:Tp K (.builtin "object.__class__") "__get__"=gV (gV (.builtin "getset_descriptor.__get__")))(p8:Uv K (.builtin "object.__class__")=gV NW)(p9:Ug K CP (.type "object")=gV NW)(pk:QE K (.ref CP) (.ref CL)=gV N8)(e1:Rq K CL YT=NW)(e2:RB K CL=NW)(e3:Sf K CL=NW)(e4:O3 K (.ref CL) "__setattr__"=gV (gV (.builtin "object.__setattr__")))(e5:O3 K (.ref CL) "variables"=gV NZ)(e6:O3 K (.ref CL) "innermost"=gV NZ)(e7:O3 K (.ref CL) "layers"=gV NZ)(alF:SV K CL=NW)(alG:P_ K (.ref CL)=NW)(CYy:Pk K OY "Player"=gV (gV (.ref CY)))(e8:O3 K (.ref CL) "__class__"=gV (gV (.builtin "object.__class__")))(e9:Ug K CL (.type "object")=gV NW)(pl:QE K (.ref CL) (.ref CY)=gV NW):∃ fd:Ol,(∀ (s:Od) (v:NX),Yu s fd ⟨[v],[]⟩ [("_law_script",v)])/\(∀ T∈([246]:ab J'),∃ c,RU h c T)/\∀ base:Pd,K.In base->base.Ns OY mg->BM mg base->ay P w K mg base a_ 18 fa fd ["_law_script"] (yV K 246):=by
 have e:=hfa.symm.trans D97.a;cases e;have TB:Bl mg:=⟨Pi X G z0,Pi X G z1,Pi X G z2,Pi X G z3,Pi X G z4,Pi X G z5,Pi X G z6,Pi X G z7,Pi X G z8,Pi X G z9,Pi X G z10,Pi X G z11,Pi X G z12,Pi X G z13,Pi X G z14,Pi X G z15,Pi X G z16,⟨_,Q8 X G zW,⟨_,rfl⟩⟩,⟨_,Q8 X G zS,⟨_,rfl⟩⟩⟩;have abk:Cls K CS:=⟨c1,c2,c3,c4⟩;have TSr:pS K mg CS:=⟨TB.len,TB.list,abk,n1,n2,n3,n4,n5,n6,n7,TB.g_WISHER,TB.g_SPOILER⟩;have TSe:Mc mg:=⟨⟨_,Q8 X G zM,⟨_,rfl⟩⟩⟩;have agT:Cls K CP:=⟨p1,p2,p3,p4⟩;have TPy:Km K mg CP:=⟨TB.tuple,TB.dict,agT,p5⟩;have ad_:Cls K CL:=⟨e1,e2,e3,e4⟩;have TLd:Mj K mg CP CL:=⟨TB.dict,TB.isinstance,TB.tuple,agT,ad_,e5,e6,e7,⟨_,Q8 X G CLy,rfl⟩,p6,p7,p8,p9,pk⟩;have TLA:Ko K mg CL:=⟨Pi X G zZ,TB.range,ad_,e5,e6,e7⟩;have TGd:Mq K mg CL CY:=⟨TB.isinstance,TB.len,TB.list,ad_,⟨_,Q8 X G CYy,rfl⟩,e8,p7,p8,e9,pl⟩;obtain⟨_,_,kV,dc,pm,an,cd,ct,_,rfl,_,_⟩:=D97.F.ex;refine⟨Q9 "law" "law" (ft EQ) (cX EQ) (aJ EQ) .none kV dc pm an cd ct,λs v=>.of_eq rfl,RH.mpr ⟨⟨ad2,qq X lc74 pc74 nc74⟩,UC _⟩,λbase hKb _ hBM=>?_⟩;have L74:rE mg base ad2 246:=⟨qq hKb lc74 pc74 nc74,hBM⟩;have F74:=FL74.toFun k74;have ge:=@L2.DA.fe P w base;have gf:=@L2.DA.fn P w base;have gm:=@L2.DM.mt P w base;have G1:=ge D1 (JY D1.F TB);have G2:=ge D1 (Gv D1.F TB);have G3:=ge D3 (JZ D3.F TB G1);have G4:=ge D4 (An D4.F TB);have G5:=ge D5 (GB D5.F TB G4);have G6:=gf D6 (DX D6.F TB G5);have G7:=ge D7 (zY D7.F TB);have G8:=ge D8 (Ch D8.F TB);have G9:=ge D9 (Dc D9.F);have G10:=ge D10 (FY D10.F TB G7);have G11:=ge D11 (F2 D11.F TB);have G12:=ge D12 (z_ D12.F TB);have G13:=ge D13 (wj D13.F TB G8 G10);have G14:=ge D14 (Co D14.F G1);have G15:=ge D14 (Ar D14.F G2);have G16:=ge D16 (F3 D16.F TB);have G17:=ge D16 (Kk D16.F TB);have G18:=ge D18 (Cp D18.F TB G14);have G19:=ge D19 (Cy D19.F);have G20:=ge D19 (Dj D19.F);have G21:=ge D21 (Cz D21.F TB G19);have G22:=ge D22 (CA D22.F TB G3 G21);have G23:=ge D23 (Cr D23.F TB G1 G14 G8 G10 G11 G12);have G24:=ge D24 (Cq D24.F TB G14 G13);have G25:=ge D25 (F9 D25.F TB G16 G18 G22 G23 G24);have G26:=ge D26 (Aa D26.F TB G25);have G27:=ge D27 (J0 D27.F);have G28:=ge D28 (J1 D28.F G26 G27);have G29:=ge D29 (Ga D29.F);have G30:=ge D30 (Gc D30.F);have G31:=ge D30 (Gd D30.F);have G32:=ge D32 (J5 D32.F TB G29);have G33:=ge D33 (J8 D33.F TB);have G34:=ge D34 (J_ D34.F TB G28 G33 G30 G32 G31);have G35:=ge D35 (Dd D35.F);have G36:=ge D36 (Gk D36.F TB G20 G4 G7);have G37:JI P w K mg base _ "Searcher" CS _ _ _ _:=⟨Dt D37.F TSr G13,D37.F.bs,⟨alA,D37.a,D37.i,alB⟩,Q8 X G CSy⟩;have G38:=gm D38 abk (Gj D38.F TSr);have G39:=gm D39 abk (Ak D39.F TSr G13 G38);have G40:=gm D40 abk (C9 D40.F TSr G12 G39);have G41:=gm D41 abk (De D41.F TSr G9 G35);have G42:=gm D42 abk (Dh D42.F TSr G41 G40);have G43:=gm D43 abk (Do D43.F TSr G36 G39 G42 G41);have G44:=gm D44 abk (Kg D44.F TSr G43);have G45:=gm D45 abk (Ap D45.F TSr G34);have G46:=ge D46 (wE D46.F TSe G37 G44 G45);have G47:=ge D47 (Gp D47.F TB);have G48:=ge D48 (Gq D48.F TB G47);have G49:=ge D49 (Dx D49.F TB G28 G10 G48);have G50:=ge D50 (DU D50.F G4);have G51:JI P w K mg base _ "Planned" CP _ _ _ _:=⟨GA D51.F TPy,D51.F.bs,⟨alC,D51.a,D51.i,alD⟩,Q8 X G CPy⟩;have G52:=gm D52 agT (Az D52.F TPy G50);have G53:=ge D53 (Aw D53.F TB);have G54:=ge D54 (Gw D54.F TB G7);have G55:=ge D55 (As D55.F TB G54);have G56:=ge D56 (DD D56.F);have G57:=ge D57 (At D57.F TB);have G58:=ge D58 (Gx D58.F G57);have G59:=ge D59 (DI D59.F TB G15 G13);have G60:=ge D60 (DJ D60.F TB G15 G55 G53);have G61:=ge D61 (DK D61.F TB G15 G56);have G62:=ge D62 (DL D62.F TB G2 G54 G53);have G63:=ge D63 (Kl D63.F TB G15 G2 G54 G58);have G64:=ge D64 (DO D64.F G17 G59 G60 G62 G61 G63);have G65:=ge D65 (AB D65.F G64);have G66:=ge D66 (Gz D66.F TB G13 G54);have G67:=ge D67 (GE D67.F G5);have G68:JI P w K mg base _ "LedBack" CL _ _ _ _:=⟨GD D68.F TLd G10 G66,D68.F.bs,⟨alF,D68.a,D68.i,alG⟩,Q8 X G CLy⟩;have G69:=gm D69 ad_ (Ec D69.F TLA G52 G67);have G70:=gm D70 ad_ (Ed D70.F TLA G52 G69);have G71:=ge D71 (D_ D71.F G65 G68);have G72:=ge D72 (Mm D72.F TB G7 G70);have G73:=gf D73 (GF D73.F TB G72 D73.F.bs D73.F.kp D73.a);have G74:Fe P w K mg base _ "losing_play" _:=⟨_,_,_,Eh FL74 L74 TB G6 G73,F74.bs,k74,Q8 X G a74⟩;have G75:=ge D75 (FV D75.F TB);have G76:=ge D76 (JW D76.F);have G77:=ge D77 (Cg D77.F TB);have G78:=ge D78 (FX D78.F TB G75 G76 G77);have G79:=ge D79 (Kq D79.F TB);have G80:=ge D80 (El D80.F TB G79);have G81:=ge D81 (GH D81.F TB);have G82:=ge D82 (Em D82.F TB G81);have G83:=ge D83 (Eo D83.F TB);have G84:=ge D84 (Es D84.F TB G81 G79);have G85:=ge D85 (AD D85.F TB G81 G79);have G86:=ge D86 (GI D86.F TB G82 G85 G80 G79 G84 G83);have G87:=ge D87 (Ew D87.F TB);have G88:=ge D88 (Ey D88.F TB G75 G76 G79);have G89:=ge D89 (GK D89.F TB);have G90:=ge D90 (AF D90.F TB);have G91:=ge D91 (AG D91.F TB);have G92:=ge D92 (EB D92.F TB G79);have G93:=ge D93 (GN D93.F TB G80);have G94:=ge D94 (Kv D94.F TB G89 G93 G79);have G95:=ge D95 (GQ D95.F TB G94 G79 G70);have G96:=ge D96 (Kw D96.F TGd G75 G90 G91 G92 G95 G74 G71 G51);exact Ky D97.F TB G78 G87 G86 G75 G65 G46 G49 G88 G96
theorem walk {l:V1}{q:Om}{loose:ab Str}{X:(Str->M' NX)->Pd->Prop}{Y:OI->Pd->Prop}{d:DefRec}{K:YV->C'}(n:l.most=gV 63)(H:d.params.defaults=[])
  (j:∀ (w:OI) (h:Pd),Y w h->(K w.params).In h/\∀ T∈([246]:ab J'),h.get? T=gV (Sn #[])) (e:∀ P:YV,(([246]:ab J').all λT=>((K P).lookup T).isNone)=NW)
  (F:∀ (w:OI) (m:Str->M' NX) (g:J') (h:Pd),(K w.params).In h->h.Ns OY m->m d.name=gV (.ref g)->
   ∃ i:Ol,(∀ (s:Od) (u:NX),Yu s i ⟨[u],[]⟩ [("_law_script",u)])/\(∀ T∈([246]:ab J'),∃ c,RU h c T)/\∀ b:Pd,(K w.params).In b->b.Ns OY m->BM m b->ay l.prog w (K w.params) m b a_ 18 g i ["_law_script"] (yV (K w.params) 246)):
  YS q loose X Y l.row.toRowW d [] (λf v=>XG f v):=
 L2.walk_ofT (n:=63) (k:=18) (x:="_law_script") (B:=λw=>yV (K w.params) 246) [246] n (by decide) H ⟨rfl,by decide,by decide⟩ j e F λz z a N k o p=>⟨a,N,rfl,p,k,TabAt.start (o 246 Ou),λz=>rfl⟩
end K65
open PySem PySem.W PySem.Calls PyProof.Rows
set_option maxRecDepth 100000
set_option maxHeartbeats 0
local macro_rules|`(tactic|o_head $H)=>`(tactic|refine HD.head (q:=K65.vQ) (loose:=[]) (lv:=[]) $H (N:=9890) (HD.left (by kernel_rfl) (fun s=>by kernel_rfl) (by kernel_rfl) (by kernel_rfl) (fun w=>by kernel_rfl) K65.seenA K65.seenB K65.seenE K65.seenC K65.seenD K65.seenY) (by rfl) (by rfl) (by rfl) (by rfl) (by assumption) (by decide+kernel) ⟨rfl,rfl,rfl,rfl,rfl,by decide+kernel⟩ ?hw ?hc)
theorem PySem.Challenge.cw_oathduel_k65_whole_players_back_holds : PySem.Challenge.rw_oathduel_k65_whole_players_back.Holds := by
 w_on
 refine holds_law K65.said λsaid=>?_
 o_head (kmHook K65.zpre.heap_1 K65.zad (λ_=>by kernel_rfl) [246])
 (case hw=>w_witness2)
 k_fill
 refine K65.walk (l:=Qq) rfl rfl (λw h Y=>⟨PySem.W.km_in_of Y,PySem.W.km_tabs_of Y⟩) (λP=>by kernel_rfl) ?F
 case F=>
  intro w mg fa h KX G hmg;apply K65.all_mk KX G hmg
  (case CSy|zM|CPy|zZ|CLy|CYy=>k_is)
  (case pk|pl=>kit_is)
  (case a74=>k_is);(case FL74=>refine' L2.funL_mk ?l ?c;case l|c=>k_is);(case lc74=>k_is);(case pc74=>exact⟨_,_,_,_,_,_,_,_,rfl,rfl,rfl,rfl,rfl,rfl,rfl,rfl⟩);(case nc74=>show (_:Nat)≠_;decide)
  all_goals first|k_is|(refine' L2.DA.of KX G ?a (L2.fun_mk ?l ?c ?k);case a|l|c|k=>k_is)|(refine' L2.DM.of ?a ?i (L2.fun_mk ?l ?c ?k);case a|i|l|c|k=>k_is)
