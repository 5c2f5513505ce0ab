import PyProof.Rows.All
import Wide.All
import OpenK.AllK
import Wide.FinOn
import Lean
import PyProof.EqAt
import PyProof.EqKinds
import PyProof.TupleCall
import PySem.Challenge.RW_oathduel_k54_refused_papers
set_option Elab.async false
set_option linter.all false
set_option maxRecDepth 100000
set_option maxHeartbeats 4000000
open Array renaming length_toList->JB,toList_append->JU,getElem?_toList->J0,getElem?_eq_getElem->Km,getElem?_eq_some_iff->Kv,toList_push->Kx,getD_eq_getD_getElem?->Lu,getElem?_eq_none->Nn,contains_iff_mem->Np,perm_iff_toList_perm->NF,toList_reverse->NW,toList_extract->NX,mem_toList_iff->NZ,forIn_toList->Px,getElem?_setIfInBounds_ne->P5,getD->Qi,mk->Qu,getElem_toList->Qv,size_map->Re,append_assoc->Rf,size_setIfInBounds->RO,toList_inj->Sg,toList_filterMap->SG,mem_iff_getElem?->SH,find?_toList->UV,toList->VB,replicate->WH,size_zip->Xr
open Array.Perm renaming refl->QF
open Bool renaming true->Je,false->Jg,false_eq_true->JA,false_ne_true->JR,and_eq_true->J_,and_false->Kp,eq_iff_iff->Mc,not_true->M8,false_and->OU,rec->Qt,not_false->TR,and_eq_true_iff->TU,eq_false_iff->VA,or_eq_true->WG,true_and->Yg,false_or->Yh,and_self->Yi,true_or->Y1
open Decidable renaming byContradiction->XH
open False renaming elim->LJ
open ForInStep renaming yield->My,done->OT
open Int renaming emod_lt_of_pos->KE,emod_nonneg->KY,le_refl->Lg,toNat_natCast->MQ,le_trans->M7,le_of_lt->Nm,mul_le_mul_of_nonneg_right->Oe,fdiv_eq_ediv_of_nonneg->Rc,add_mul->TQ,lt_or_gt_of_ne->UU,zero_add->Vz,one_mul->Wm,mul_one->ZA,not_lt->Z_
open List renaming length_map->Jc,getElem?_eq_some_iff->Jk,getElem?_eq_getElem->Jm,mem_singleton->Jp,getD_eq_getElem?_getD->Jr,mem_of_getElem?->Jx,mem_cons_of_mem->Jy,length_append->JC,mem_cons_self->JG,size_toArray->JH,mem_append->JI,getElem?_map->JW,take_of_length_le->JY,append_assoc->J1,mem_cons->J2,length_cons->J4,length_take->J9,mem_append_right->Kc,contains_iff_mem->Kd,mem_map->Ke,mem_filterMap->Kh,length_singleton->Kk,getElem?_append_left->Kl,map_append->Ko,pairwise_append->Kr,getElem?_append_right->Ku,range->Ky,map_cons->Kz,append_nil->KL,take_add_one->KQ,mem_filter->KR,length_nil->Lk,pairwise_map->Ln,mem_append_left->Lp,map_map->Lq,getElem?_eq_none->Lv,mem_reverse->LA,pairwise_cons->LI,mem_range->LM,length_filter_le->LS,all_eq_true->Md,reverse_append->Mj,length_range->Mk,take_append_drop->Ml,nodup_cons->Mv,find?_cons->Mw,length_eq_zero_iff->ME,getElem?_cons_zero->MF,extract_eq_take_drop->MS,any_eq_true->MY,getElem_of_mem->Nl,length_drop->Nz,take_zero->NC,filter_append->ND,singleton_append->NH,mem_iff_getElem?->NI,pairwise_iff_getElem->NK,foldl_cons->NL,mem_of_mem_take->NT,getElem?_append->NU,any_cons->N5,mem_map_of_mem->N6,filterMap_cons->N7,reverse_singleton->Oo,getElem?_set_self->Oq,perm_append_comm->Oy,ext_getElem?->OB,reverse_reverse->OS,exists_mem_of_ne_nil->O5,drop_eq_getElem_cons->O6,getElem?_range->O',getElem?_cons_succ->PH,filter_cons_of_pos->PJ,filter_cons_of_neg->PK,nodup_append->P1,drop_of_length_le->P4,getElem?_toArray->P_,not_mem_nil->Qh,Pairwise->Qo,getElem?_set_ne->Qr,range_succ->QD,nil_append->QE,map_nil->QQ,any_map->QR,nodup_iff_pairwise_ne->Q9,find?_eq_none->Q_,drop_drop->Ra,contains_cons->Rb,mem_or_eq_of_mem_set->Ri,getElem?_eq_none_iff->Rj,length_erase_of_mem->RN,pairwise_singleton->Sa,getElem_mem->Sb,eraseIdx_cons_succ->Sd,cons_ne_nil->Se,Perm->Sf,toArray->SC,length_pos_of_mem->SD,all_map->SE,of_mem_zip->SS,replicate->TC,nodup_nil->TF,mem_erase_of_ne->TL,idxOf_le_length->TM,getElem_toArray->TN,toList_toArray->Ub,take_succ_cons->Uc,all_cons->Ul,map_inj_right->UR,lookup_append->US,getElem?_take->UT,take_sublist->Vv,getElem_drop->Vw,foldl_append->Vx,filter_congr->Vy,perm_middle->V4,mem_toArray->V5,map_snd_zip->V6,ext_getElem->V7,lookup->Wk,length->Wl,length_set->WD,idxOf_cons->WE,take_left->Xn,map->Xo,drop_zero->Xp,take_add->Ye,map_id'->Y0
open List.Pairwise renaming nil->OC,imp_of_mem->Pj,filter->Qs,map->aav,imp->aaw
open List.Perm renaming append_left->Mm,trans->Mx,append_right->Os,refl->Xq,swap->abH
open List.cons renaming inj->abV
open List.forIn' renaming loop->aa4
open Nat renaming le_refl->Jh,ne_of_lt->JO,zero_le->JQ,lt_of_lt_of_le->KD,le_of_lt->K_,le_trans->Lb,zero_add->Le,lt_or_ge->Lx,lt_succ_of_lt->LC,lt_irrefl->LO,sub_self->M1,lt_trichotomy->Nf,add_assoc->Nu,ne_of_gt->NS,lt_of_le_of_lt->Om,add_sub_cancel->On,le_succ->OR,add_zero->OZ,lt_trans->QP,succ_le_succ->R_,pow_le_pow_right->Tz,one_le_two_pow->UO,eq_zero_or_pos->UP,add_right_comm->UQ,succ_pos->Vq,le_succ_of_le->Vr,le_of_lt_succ->Vs,le_of_eq->Vt,ble->Vu,le_of_not_lt->V3,mod_lt->Xm,sub_zero->YX,pow_succ->YY,min_self->YZ,sub_le->Z9
open Ne renaming symm->Ma
open Option renaming some->B',none->Ji,map_eq_some_iff->Lm,isSome_iff_exists->Pi,map_some->QC,isNone_none->Q8,isSome_map->Rx,getD_some->R9,rec->SB,isSome_some->UN,getD_none->V2
open Option.some renaming inj->JN,injEq->NR
open Or renaming inl->JD,inr->O_
open Prod renaming snd->Vo,ext->Vp,rec->Zz
open Prod.mk renaming injEq->RM
open PyProof renaming noPylong_small->Ss
open PyProof.Rows renaming wpS_bind->Jt,wpS_pure->JE,boot_isinstance->JT,arrOf->JZ,envOfC->J',Keyed->Ka,boot_abs->Kj,pendingOf->Kn,boot_tuple->KO,seqObj->KP,boot_list->KZ,SortSt->Li,wpS_forRange->Lw,SortedTo->Lz,callWith_type1->LZ,wpS_mono->Mf,failedOf->MD,IntsAre->Nd,listUpdate_at->Nt,boot_sorted->Od,wpS_modify->Ol,wpS_reverse->OQ,oneType'->Pg,elem'->Ph,wpS_get->Pm,get?_update_seq->Pn,seqEpoch_at->PF,callWith_builtin1->Qf,AllBare->Qn,mirror->QA,entry_list_sort->QB,wpS_lift->Q5,slot_list_sort->Q6,size_push'->Q7,subscriptTail->RK,callWith_kw->RL,subscriptTail_builtinR->Su,setPending->Sv,plain_sorted->Sw,listItems_at->Sx,entry_sorted->Sy,boot_dict->Sz,boot_bool->SA,kws_cons->SZ,boot_max->S3,boot_int->S4,sortedHeap_old->Tq,kws_nil->Tr,kind_sorted->Ts,joinParts_cons->Tt,args_list_sort->Tu,K_mirror_equal->Tv,getElem?_mirror_all->Ua,sortedHeap_at->Uj,call_abs_int->Uk,sortedHeap->UK,setArr->UL,Subscript_->UM,args_sorted1->Vn,join_plain_closes->V0,bubble->V1,bubble_perm->Wj,list_sort_plain->WB,getElem?_bubble->WC,K_congr->WM,numOf->Xi,list_sort_tree->Xj,boot_range->Xk,K_mirror->Xl,pairsOf->YU,bitAnd_m1->YV,KskOut->YW,boot_sum->Y6,boot_any->Y7,boot_all->Y8,tail_any->Zx,mergeAt'->Zy
open PyProof.Rows.F renaming plain_set_update_loop->Mi,entry_set_update_loop->O9
open PyProof.Rows.IntsAre renaming length->Tw
open PyProof.Rows.IsTup renaming new->aa3
open PyProof.Rows.SortSt renaming mk'->Qg
open PySem renaming Value->IX,wpAny_bind->IY,Addr->I_,Shared->Ja,wpAny_pure->Jl,mainGlobals->Jo,Program->Js,PyData->Jw,FuncData->JP,model->JS,World->JV,starEach->J3,Heap->J6,Around->J8,wpAny_mono->Kf,wpAny_loadPart_at->Ks,boot_len->Kt,Expr->KJ,wpAny_holding->KN,cellsFrom->KS,sizeLine_eq->Lf,Stmt->Lh,compareOp->Ls,wpAny_execs_nil->Ly,wpAny_Call_Name_kw->LG,codeAny_builtin->LK,mem_of_lookup->LR,wpAny_truthy_bool->LV,wpAny_setState_of->LX,tupleKind->L0,sliceBounds->MB,eval->MC,plainId_quiet->MK,sysModules->MN,codeAny_handlers_test->MT,wpAny_rule->MV,cLine->MZ,codeAny_call_builtin->Na,backTo->Nh,wpAny_handleBy_cons->Ni,wpAny_call_entry->Nx,tupleKind_room_in1->NA,wpAny_pyIter_list->NN,wpAny_newObj_type->NO,assignEach->N4,wpAny_tryCatch->N_,wpAny_execs_cons->Oa,codeAny_mono->Oi,binaryOp->Ot,wpAny_newList->Ou,relabel->OA,wpAny_setField->OJ,wpAny_seqItems->OK,rawInt->OL,intItems->OM,checkBuiltinCall->OW,codeAny_handlers_suite_as->O0,Scope->O3,wpAny_standAt->Pb,wpAny_passesOwn->Pl,pyNext->Pp,wpAny_typeOf->PN,storedH->PP,bootBuiltins->PQ,wpAny_notOrdered_dict->P6,builtinLookup_eq_fast->P7,wpAny_call->Qa,wpAny_Try_except->Qb,Thread->Qd,behindInMarks->Qj,OsState->Ql,ExceptHandler->Qm,wpAny_ite_split->Qw,letOwnedTupleGo->Qx,wpAny_setEntries_of->QG,atKey->QH,argBest->QL,swapsWith->QT,NameKind->Q1,wpAny_excMatches_sub_self->Rh,wpAny_letGo->Rk,wpAny_Assign_Name->Rl,valueAt->Rm,ofAClassStatement->Rn,leaving->Ro,foldedSetIterable->Rp,excClassObj->Rq,wpAny_getItem_list_slice->RE,wpAny_comprehension_free->RF,wpAny_attempt->RG,attributeBase->RH,wpAny_forIn_list->RS,wpAny_eqBool_int->RU,wpAny_callSpecial?_slot->RW,wpAny_askSetting->RX,noFill_tuple_add->RY,bindArgs->RZ,Model->R4,GenState->R5,wpAny_pyNext_range_end->Sj,wpAny_pyIter_rangeiter->Sk,call_meetsIn->Sl,wpAny_updateSeq->SK,wpAny_specialOf->SM,typeLookup_type->SN,codeAny_of_tree->SO,wpAny_isTrue_Compare1->SV,wpAny_eqIsQuiet_tuple->SX,wpAny_newTuple->S7,wpAny_field->S8,subscripted->S9,pyIter->S_,newFunctionEnv->Ta,isSubtype_type->Tb,dictSetDefault->Tc,IsRangeIter->Tj,pickOrder->TX,callerA->TY,wpAny_isSubtype_exc->T7,kt_meets_setdefault->T8,strLen_append->Ug,seq_tuple_add->Uh,wpAny_pyIter_range->Us,typeLookup->Ut,merged->Uu,isInstance->Uv,getattributeRaised->Uw,denote->Ux,checkCount->Uy,call->Uz,assign->UA,Result->UG,AnswersAll->UJ,wpAny_storeSet_of->U4,wpAny_pyIter_slot->U5,wpAny_pyIter_enum->U6,wpAny_assign_Name->U7,setNext->U8,setAddHashed->U9,searchCouldBeSeen->U_,holding->Va,getItem->Vb,concat_meets->Vc,ExcBaseFacts->Vj,BindsTo->Vl,wpAny_isInstance->VL,wpAny_Dict_empty->VM,seqItems?->VN,noteFrame->VO,kt_code_dict_new->VP,entryFor_of_tree->VQ,wpAny_of_eq->Wb,unsupported->Wc,storedH_new->Wd,seqIndex_of->We,keywordEach->Wf,hashByValue->Wg,wpAny_looks_onW->Wr,pushCells_keeps->Ws,call_isinstance->Wt,Keyword->WL,wpAny_fieldsOf->WY,wpAny_Name->WZ,sliceRange->W0,setField->W1,recursionLimit->W2,getAttr?->W3,firstArgMember->W4,entryFor_alias->W5,entryFor->W6,call_meets->W7,callType_codes->W8,builtinsNs->W9,bindL->W_,bindC->W',argsOk->Xa,signature?_of->XO,setSearchFrom->XR,nums_intItems->XS,intBits_le_64->XT,evalPart_none->XU,call_list_seq->XW,treeTable->Yp,onTheHeap->Yq,numAt->Yr,getAttrBy->Ys,CmpOp->Yv,spliced->YM,intKind->YN,Within->YO,Params->YS,OwnTail->YT,wpAny_If->Zk,compEnvC->Zl,backToKw->Zm,ReadsAll->Zt,Drawn->Zv,Fin->aa0
open PySem.Around renaming under_plainId->Ll,under->Vm
open PySem.Builtin renaming bitAnd->Tp
open PySem.Builtin.Builtins renaming bindParams->QO
open PySem.Builtin.Dict renaming updateFrom->Oc,selfAndRest->RI,addKeywords->RJ,pairItems->Sr,keyAndDefault->Xh
open PySem.Builtin.Frozenset renaming newClass->Q4,updateFrom->WA,sizeOf->Yd,slot0->Yw
open PySem.Builtin.List renaming listLengthHint->QN
open PySem.Builtin.Range renaming rangeSize->R8
open PySem.Calls renaming evalArgs_plain->OP,call_function_entry->O4,spliced_cons->Pw,callWith_builtin->P0,Name_function_global->Q2,Constant_str->Q3,spliced_nil->Rw
open PySem.Challenge renaming rw_oathduel_k54_refused_papers->Mp,pw_oathduel_k54_refused_papers->Mq
open PySem.Code renaming quiet_builtin->Pu,isFrame->Vk,frames->Zw
open PySem.Data renaming fields->Wi,cell->Yu,dict->aa2
open PySem.DictEntry renaming refKey->aa1
open PySem.EntryCells renaming newEntry->T_
open PySem.EqMixed renaming ne_str_bool->XD,ne_bool_str->XE,eq_str_bool->XF,eq_bool_str->XG,ne_str_int->X_,ne_int_str->X',eq_str_int->Yb,eq_int_str->Yc
open PySem.EqNone renaming ne_none_none->Xx,ne_none_bool->Xy,ne_bool_none->Xz,eq_none_none->XA,eq_none_bool->XB,eq_bool_none->XC,ne_str_none->XZ,ne_none_str->X0,ne_none_int->X4,ne_int_none->X5,eq_str_none->X6,eq_none_str->X7,eq_none_int->X8,eq_int_none->X9
open PySem.F renaming plainAttrs_list->Kg,slot_list_append->Ki,type_list_append->Kq,slot_dict_setdefault->Mu,excBase_ValueError->MP,args_dict_setdefault_3->MX,entry_dict_setdefault->Nc,plain_max_loop->Ny,args_tuple_add_2->Pf,entry_tuple_add->PD,slot_tuple_add->PZ,typeOf_object_class->P8,slot_list_index->P9,type_list_index->R6,entry_max_loop->R7,kt_typeCall_dict_1->To,args_dict_init_2->UI,entry_dict_init->Vi,kt_called_dict->VZ,slot_set_iter->Wx,plain_set_new->Wy,entry_bexc_ga->Wz
open PySem.Heap renaming get?_push_of_some->Jb,lt_size->Jv,get?_push_size->JX,get?_update_other->J7,get?_update_self->Ld,SameBut->NQ,get?_none_of_le->OO,FlyingW->OY,get?_update_ne->O8,size_push->PX,get?_push_ne->PY,size_update->Qe,MadeExcOf->Tn,get?_push_at->Vh,mk->aau
open PySem.Heap.DictOf renaming new->Ww
open PySem.Heap.DictOfH renaming new->aaZ
open PySem.Heap.IsSliceOf renaming new->UH
open PySem.Heap.SameBut renaming update->Mh
open PySem.IsL renaming update->aaY
open PySem.IsRange renaming new->Zu
open PySem.NameKind renaming cell->Pe,free->XY
open PySem.Obj renaming mapSeq->K',mapFields->MM,data_mapFields->MW,isFreed_of_fields->Ox,cls_mapFields->Rv,data_mapDictKeys->Ti,putSet->Xg
open PySem.PassesOwn renaming never->KU,leaving->aat
open PySem.PyData renaming eqv->KC,eqvAll->Lr,canLayAll0->LY,depthAll->MR,none->Nr,tuple->Oj,int->Pt,strOk->QM
open PySem.SeqAt renaming shaped->KI,readOf->Vg,EqAt->Z8
open PySem.SeqAt.EqAt renaming str_int->UE,int_str->UF,none_bool->Zq,bool_none->Zr,bool_bool->Zs,str_none->ZG,str_bool->ZH,none_str->ZI,none_int->ZJ,int_none->ZK,int_bool->ZL,bool_str->ZM,bool_int->ZN,str_str->Z6,int_int->Z7,same->abc
open PySem.SetTable renaming below->MJ,insertAt->Nb,Probe->Pd,insertAt_perm->PV,runEnd->Qz,leap->R3,fresh->Tg,turns->Xf
open PySem.SetTable.below renaming go->Th
open PySem.SetTable.layClean renaming free->Ow
open PySem.SetTable.probe renaming go->R1
open PySem.Shared renaming TypeIs->Ui
open PySem.Shared.TypeIs renaming not_mainsLoader->Wh
open PySem.Str renaming ofString->I0,join->Xe,empty->Yt
open PySem.Txt renaming join->Vf
open PySem.Value renaming ref->Kb,builtin->M0,none->NB,int->Ob,type->ON,isInt_shape->PU,str->VY,bool->Xd,isStrOf->XX,isInt->Zo,float->Zp
open PySem.Value.ref renaming inj->abU
open PySem.Value.type renaming inj->abG
open PySem.W renaming Frag->IZ,nsIn->Jq,mg_none_of->Ju,kitOne->JM,mroIn->J5,mg_of->KF,findIn->KG,kia_one->LL,boot_heap->LN,looks_findIn->Mb,keepIn->Mn,excIn->Mo,SharedT->Mt,clsIn->ML,fnOf->MO,looks_mroIn->Nj,hideAll_get->Nk,hasDictIn->NP,kas_place->Ov,kas_rev->OX,looks_clsIn->O7,Looks->Pc,callWith_K->Pq,boot_drawn->Pr,boot_toks->Qc,kas_asc->Qk,OpenLaw->Qq,hideAll->Qy,kdu_collect->QI,of_hideAll->QY,kas_desc->QZ,through->Rr,specialIn->Rt,methodObj->Ru,kas_sort->R0,kas_descPart->Sm,funFrames_hide->Sn,cellsFrom_some->So,absHeap->Sq,instObj->SQ,ke_canLayAll0->SY,lookIn->Td,hideAll_none->Te,codeIn->Tf,topStub->TZ,ke_depthAll->T9,tail_of_in->UB,stepOk->UC,isNs_of_in->UD,kitx_list->Vd,kitx_dict->Ve,plainGet->VR,kdl_dict->VS,kas_tail3->VT,kas_count->VU,WalkO->VW,readsIn->Wu,findCls->Wv,kas_bin->WK,stepT->Xb,topRun->YQ,isFn->YR
open PySem.W.Fast renaming tw5923862056798008813->Q0
open PySem.W.KasT renaming ret->Xc
open PySem.W.Looks renaming ld->VX
open PySem.W.WData renaming int->aaX
open PySem.W.WShape renaming has->Z5
open PySem.Walks renaming list->QX,range->Zn
open PySem.pickOrder renaming go->U'
open StateT renaming run_pure->Wq
open Sum renaming inl->Kw,inr->Oz
open Sum.inl renaming inj->OI
open True renaming intro->MA
open _root_ renaming List->IW,Option->Jd,decide_eq_false->Jj,decide_eq_true->Jz,Array->JF,Bool->JJ,if_neg->JK,if_pos->JL,of_decide_eq_true->KM,if_false->La,reduceIte->LF,beq_eq_false_iff_ne->LQ,congrArg->LU,String->Mg,if_true->Ms,decide_eq_decide->Nw,getElem?_pos->NM,DecidableEq->NV,beq_self_eq_true->N9,decide_eq_true_iff->Og,beq_iff_eq->Oh,decide_false->OV,decide_true->PB,bne_self_eq_false->PM,StateT->Si,Unit->SU,getElem?_neg->U3,ForInStep->V8
namespace L2
open PySem PySem.Spec PyProof.Rows
abbrev bz:=Sum Int Str
def mF:bz->IX->JJ
 |.inl k,v=>Zo k v
 |.inr x,v=>XX x v
def HG(w:JV):bz->Int
 |.inl k=>hashInt k
 |.inr x=>hashStr w x
theorem cn:∀{k:bz} {v:IX},mF k v=Je->(∃i t,k=Kw i/\v=Ob i t)\/(∃x t,k=Oz x/\v=VY x t)
 |.inl i,v,h=>by
  obtain⟨t,e⟩:=PU (k:=i) (v:=v) h;exact .inl ⟨i,t,rfl,e⟩
 |.inr x,v,h=>by
  obtain⟨t,e⟩:=Value.isStrOf_shape (x:=x) (v:=v) h;exact .inr ⟨x,t,rfl,e⟩
def u7(i:Int)(t:Tok):mF (.inl i) (.int i t)=true:=by simp [mF,Zo]
def u8(x:Str)(t:Tok):mF (.inr x) (.str x t)=true:=by simp [mF,XX]
def DE(a b:Int):decide ((Kw a:bz)=Kw b)=(a == b):=by grind
def DF(a b:Str):decide ((Oz a:bz)=Oz b)=decide (a=b):=by grind
def DG(a:Int)(b:Str):decide ((Kw a:bz)=Oz b)=false:=Jj λq=>nomatch q
def DH(a:Str)(b:Int):decide ((Oz a:bz)=Kw b)=false:=Jj λq=>nomatch q
def bn(prog:Js)(w:JV):PySem.KeyKind prog w bz where
 is:=mF
 hash:=HG w
 inj:=λv a b ha hb=>by
  rcases cn ha with⟨i,t,rfl,rfl⟩|⟨x,t,rfl,rfl⟩
  ·rcases cn hb with⟨j,u,rfl,e⟩|⟨y,u,rfl,e⟩
   ·injection e with e1 _;rw[e1]
   ·exact nomatch e
  ·rcases cn hb with⟨j,u,rfl,e⟩|⟨y,u,rfl,e⟩
   ·exact nomatch e
   ·injection e with e1 _;rw[e1]
 byValue:=λk v h=>by
  rcases cn h with⟨i,t,rfl,rfl⟩|⟨x,t,rfl,rfl⟩<;>rfl
 pyHash:=λhv h=>by
  rcases cn hv with⟨i,t,rfl,rfl⟩|⟨x,t,rfl,rfl⟩
  ·exact wpAny_pyHash_int h
  ·exact wpAny_pyHash_str h
 eqBool:=λhu hv h=>by
  rcases cn hu with⟨i,t,rfl,rfl⟩|⟨x,t,rfl,rfl⟩
  ·rcases cn hv with⟨j,u,rfl,rfl⟩|⟨y,u,rfl,rfl⟩
   ·rw[DE]at h;exact RU h
   ·rw[DG]at h;exact UF i t y u _ _ _ _ h
  ·rcases cn hv with⟨j,u,rfl,rfl⟩|⟨y,u,rfl,rfl⟩
   ·rw[DH]at h;exact UE x t j u _ _ _ _ h
   ·rw[DF]at h;exact wpAny_eqBool_str h
 «strs»:=λk x t v h=>by
  rcases cn h with⟨i,u,rfl,e⟩|⟨y,u,rfl,e⟩
  ·exact nomatch e
  ·injection e with e1 _;subst e1;cases v<;>rfl
def pJ(prog:Js)(w:JV)(i:Int)(t:Tok):(bn prog w).is (.inl i) (.int i t)=true:=u7 i t
def pK(prog:Js)(w:JV)(x:Str)(t:Tok):(bn prog w).is (.inr x) (.str x t)=true:=u8 x t
inductive V where
 |non|bl (b:JJ)|int (i:Int)|str (x:Str)|byt (b:JF UInt8)|flt (b:UInt64)|ref (a:I_)|ty (n:Mg)
 deriving NV
def RelV:V->IX->Prop
 |.non,u=>u=NB
 |.bl b,u=>u=Xd b
 |.int i,u=>∃t,u=Ob i t
 |.str x,u=>∃t,u=VY x t
 |.byt b,u=>∃t,u=Value.bytes b t
 |.flt b,u=>∃t,u=Zp b t
 |.ref a,u=>u=Kb a
 |.ty n,u=>u=ON n
abbrev Vals:IW V->IW IX->Prop:=Paired RelV
def Vals.length(r:Vals xs us):xs.length=us.length:=Paired.length r
theorem Vals.get:∀{xs:IW V} {us:IW IX} {i:Nat} {x:V},Vals xs us->xs[i]? =B' x->∃u,us[i]? =B' u/\RelV x u
 |_,_,_,_,.nil,e=>by simp at e
 |_,_,0,_,.cons r _,e=>by simp at e;subst e;exact⟨_,rfl,r⟩
 |_,_,i+1,x,.cons _ t,e=>by
  obtain⟨u,h1,h2⟩:=Vals.get (i:=i) (x:=x) t (by simpa using e);exact⟨u,by simpa using h1,h2⟩
theorem Vals.set(r:RelV x u):∀{xs:IW V} {us:IW IX} (i:Nat),Vals xs us->Vals (xs.set i x) (us.set i u)
 |_,_,_,.nil=>.nil
 |_,_,0,.cons _ t=>.cons r t
 |_,_,i+1,.cons q t=>.cons q<|Vals.set r i t
theorem Vals.append:∀{xs ys:IW V} {us ws:IW IX},Vals xs us->Vals ys ws->Vals (xs++ys) (us++ws)
 |_,_,_,_,.nil,s=>s
 |_,_,_,_,.cons r t,s=>.cons r<|Vals.append t s
theorem Vals.take:∀{xs:IW V} {us:IW IX} (n:Nat),Vals xs us->Vals (xs.take n) (us.take n)
 |_,_,0,_=>.nil
 |_,_,_+1,.nil=>.nil
 |_,_,n+1,.cons r t=>.cons r<|Vals.take n t
theorem Vals.drop:∀{xs:IW V} {us:IW IX} (n:Nat),Vals xs us->Vals (xs.drop n) (us.drop n)
 |_,_,0,r=>r
 |_,_,_+1,.nil=>.nil
 |_,_,n+1,.cons _ t=>Vals.drop n t
def Vals.none_of:∀{xs:IW V} {us:IW IX} {i:Nat},Vals xs us->xs[i]? =Ji->us[i]? =none:=λ{xs us i} r e=>by
 have h1:=r.length;have h2:xs.length<=i:=Rj.mp e;exact Rj.mpr (by lia)
def RelO:Jd V->Jd IX->Prop
 |some v,B' u=>RelV v u
 |none,Ji=>True
 |_,_=>False
def KV{κ:Type}:IW (κ×V)->IW (κ×IX)->Prop:=Paired λ(p:κ×V) (q:κ×IX)=>p.1=q.1/\RelV p.2 q.2
def kV:bz->V
 |.inl i=>.int i
 |.inr x=>.str x
inductive HO where
 |lst (xs:IW V)
 |tup (xs:IW V)
 |dK (kvs:IW (bz×V))|dT (kvs:IW (IW bz×V))
 |set (S:Int->JJ) (n:Nat)
 |ins (C dx:I_) (fs:IW (Str×V))
 |own (x:I_)
 |xd (fs:IW (Str×V))
 |met (f x:I_)
 |rng (lo hi:Int)
 |frz (o:Obj) (u:HO)
 |tbl (ps:JF IX)
 |ext (φ:J6->Prop)
abbrev Hp:=I_->Jd HO
def upd(H:Hp)(a:I_)(o:HO):Hp:=λb=>if b=a then B' o else H b
def ad:upd H a o a=B' o:=by unfold upd;rw[JL rfl]
def ao(h:b≠a):upd H a o b=H b:=by unfold upd;rw[JK h]
def fE:upd (upd H a o) a u=upd H a u:=by
 funext b;unfold upd;split<;>rfl
def wI{H:Hp}(h:H a=B' o)(h':H b=B' u)(d:o≠u):a≠b:=by
 intro e;subst e;rw[h]at h';exact d<|JN h'
def aj{H:Hp}(h:H a=B' o)(h':H b=Ji):a≠b:=by
 intro e;subst e;rw[h]at h';cases h'
section
variable (P:Js)(w:JV)
def ObjOk(H:Hp)(h:J6)(a:I_):HO->Prop
 |.lst xs=>xs.length<=sizeLine/\∃(Lj:IW IX) (n:Nat),Vals xs Lj/\h.get? a=B' {cls:=.type "list",data:=.seq Lj.toArray n}
 |.tup xs=>xs.length<=sizeLine/\∃Lj:IW IX,Vals xs Lj/\IsTup h a Lj.toArray
 |.dK kvs=>kvs.length<=sizeLine/\(a == MN)=Jg/\∃vs,KV kvs vs/\h.DictOf (bn P w) a vs
 |.dT kvs=>kvs.length<=sizeLine/\(a == MN)=Jg/\∃xs:IW (IW bz×I_×IX),
   Paired (λ(p:IW bz×V) (q:IW bz×I_×IX)=>p.1=q.1/\H q.2.1=B' (.tup<|p.1.map kV)/\RelV p.2 q.2.2) kvs xs/\
   ∃o es ep,h.get? a=B' o/\o.ExactDict/\o.data=.dict es ep/\es.toList=xs.map (entryOfKey<|L0<|bn P w)/\(xs.map (·.1)).Nodup
 |.set S n=>h.SetOf (YN P w) a S n
 |.ins C dx fs=>H dx=B' (.own a)/\fs.length<=1000/\dx≠a/\h.get? a=B' (SQ C dx)/\
   ∃mA,h.Ns1 dx mA/\(∀f,RelO (fs.lookup f)<|mA f)/\YO mA (fs.map (·.1))
 |.own _=>∃o,h.get? a=B' o
 |.xd fs=>∃mA,h.Ns1 a mA/\∀f,RelO (fs.lookup f)<|mA f
 |.rng lo hi=>∃t u v,h.get? a=B' {cls:=.type "range",data:=.fields #[.int lo t,.int hi u,.int 1 v]}
 |.frz o u=>h.get? a=B' o/\ObjOk H h a u
 |.tbl ps=>h.get? a=B' {cls:=.none,data:=.fields ps}
 |.met f x=>h.get? a=B' (Ru (.ref f)<|.ref x)
 |.ext φ=>φ h/\(∃o,h.get? a=B' o)/\∀h1 h2:J6,φ h1->(∀o,h1.get? a=B' o->h2.get? a=B' o)->φ h2
def HOk(H:Hp)(h:J6):Prop:=∀a o,H a=B' o->ObjOk P w H h a o
end
def ObjOk.lt(x:ObjOk P w H h a o):a < h.objs.size:=by
 cases o with
 |lst xs=>obtain⟨_,_,_,_,e⟩:=x;exact Jv e
 |tup xs=>obtain⟨_,_,_,p⟩:=x;exact p.lt
 |dK kvs=>obtain⟨_,_,_,_,o,_,_,e,_⟩:=x;exact Jv e
 |dT kvs=>obtain⟨_,_,_,_,o,_,_,e,_⟩:=x;exact Jv e
 |set S n=>obtain⟨o,_,_,_,e,_⟩:=x;exact Jv e
 |ins C dx fs=>obtain⟨_,_,_,e,_⟩:=x;exact Jv e
 |own y=>obtain⟨_,e⟩:=x;exact Jv e
 |xd fs=>obtain⟨_,⟨_,_,_,e,_⟩,_⟩:=x;exact Jv e
 |rng lo hi=>obtain⟨_,_,_,e⟩:=x;exact Jv e
 |frz ob u=>obtain⟨e,_⟩:=x;exact Jv e
 |tbl ps=>exact Jv (show h.get? a=B' _ from x)
 |met f y=>exact Jv (show h.get? a=B' _ from x)
 |ext φ=>obtain⟨_,⟨_,e⟩,_⟩:=x;exact Jv e
theorem Paired.mapP{α β:Type}{F G:α->β->Prop}:∀{l₁:IW α} {l₂:IW β},Paired F l₁ l₂->(∀a b,F a b->G a b)->Paired G l₁ l₂
 |_,_,.nil,_=>.nil
 |_,_,.cons r t,f=>.cons (f _ _ r)<|Paired.mapP t f
def ObjOk.stay(x:ObjOk P w H h a o)(k:∀b u,(b=a\/H b=B' (.own a))->h.get? b=B' u->h'.get? b=B' u)
  (ho:∀b,H b=B' (.own a)->H' b=B' (.own a)) (ht:∀b xs,H b=B' (.tup xs)->H' b=B' (.tup xs)):ObjOk P w H' h' a o:=by
 induction o with
 |lst xs=>obtain⟨z,Lj,n,r,e⟩:=x;exact⟨z,Lj,n,r,k _ _ (.inl rfl) e⟩
 |tup xs=>obtain⟨z,Lj,r,ob,e,c⟩:=x;exact⟨z,Lj,r,ob,k _ _ (.inl rfl) e,c⟩
 |dK kvs=>obtain⟨z,y,vs,r,ob,es,ep,e,c⟩:=x;exact⟨z,y,vs,r,ob,es,ep,k _ _ (.inl rfl) e,c⟩
 |dT kvs=>
  obtain⟨z,y,xs,r,ob,es,ep,e,c⟩:=x;exact⟨z,y,xs,Paired.mapP r λp q z=>⟨z.1,ht _ _ z.2.1,z.2.2⟩,ob,es,ep,k _ _ (.inl rfl) e,c⟩
 |set S n=>obtain⟨ob,es,ep,t,e,c⟩:=x;exact⟨ob,es,ep,t,k _ _ (.inl rfl) e,c⟩
 |ins C dx fs=>
  obtain⟨d,z,ne,e,mA,⟨od,es,ep,e2,c⟩,r⟩:=x;exact⟨ho _ d,z,ne,k _ _ (.inl rfl) e,mA,⟨od,es,ep,k _ _ (.inr d) e2,c⟩,r⟩
 |own y=>obtain⟨ob,e⟩:=x;exact⟨ob,k _ _ (.inl rfl) e⟩
 |xd fs=>obtain⟨mA,⟨od,es,ep,e,c⟩,r⟩:=x;exact⟨mA,⟨od,es,ep,k _ _ (.inl rfl) e,c⟩,r⟩
 |rng lo hi=>obtain⟨t,u,v,e⟩:=x;exact⟨t,u,v,k _ _ (.inl rfl) e⟩
 |frz ob u ih=>obtain⟨e,q⟩:=x;exact⟨k _ _ (.inl rfl) e,ih q⟩
 |tbl ps=>
  have e:h.get? a=B' {cls:=.none,data:=.fields ps}:=x;show h'.get? a=B' {cls:=.none,data:=.fields ps}
  exact k a _ (.inl rfl) e
 |met f y=>
  have e:h.get? a=B' (Ru (.ref f)<|.ref y):=x;show h'.get? a=B' (Ru (.ref f)<|.ref y)
  exact k a _ (.inl rfl) e
 |ext φ=>obtain⟨p,⟨o,e⟩,st⟩:=x;exact⟨st _ _ p λo q=>k _ _ (.inl rfl) q,⟨o,k _ _ (.inl rfl) e⟩,st⟩
def HOk.lt(x:HOk P w H h)(e:H a=B' o):a < h.objs.size:=(x a o e).lt
def HOk.fresh(x:HOk P w H h)(e:h.objs.size<=a):H a=none:=by
 cases q:H a with
 |none=>rfl
 |some u=>exact absurd (KD (x.lt q) e)<|LO _
def HOk.kept(x:HOk P w H h)(k:∀b u,h.get? b=B' u->h'.get? b=B' u):HOk P w H h':=λa o e=>
 (x a o e).stay (λb u _ q=>k b u q) (λ_ q=>q) λ_ _ q=>q
def HOk.laid(x:HOk P w H h)(k:∀b u,h.get? b=B' u->h'.get? b=B' u)(hp:h.objs.size<=a)(new:ObjOk P w (upd H a o) h' a o):HOk P w (upd H a o) h':=λb u e=>by
 have hn:=x.fresh hp;by_cases hb:b=a
 ·subst hb;rw[ad]at e;cases e;exact new
 ·rw[ao hb]at e;exact(x b u e).stay (λc v _ q=>k c v q) (λc q=>by rw[ao<|aj q hn];exact q) λc xs q=>by rw[ao<|aj q hn];exact q
def Rd(H:Hp)(a:I_)(u:HO):Prop:=H a=B' u\/∃o,H a=B' (.frz o u)
def Rd.ok(r:Rd H a u)(x:HOk P w H h):ObjOk P w H h a u:=by
 obtain r|⟨o,r⟩:=r
 ·exact x a u r
 ·obtain⟨_,q⟩:=x a _ r;exact q
def Fl:Jd HO->Prop
 |some (.lst _)=>True
 |some (.dK _)=>True
 |some (.dT _)=>True
 |some (.set _ _)=>True
 |some (.ins _ _ _)=>True
 |some (.ext _)=>True
 |_=>False
def HOk.write(ok:HOk P w H h)(mu:Fl (H x))(he:e=x\/H e=B' (.own x))(k:∀b u,b≠e->h.get? b=B' u->h'.get? b=B' u)(heo:∃u,h'.get? e=B' u)
  (new:ObjOk P w (upd H x o') h' x o'):HOk P w (upd H x o') h':=λb u q=>by
 have aeg:∀c y,H c=B' (.own y)->c≠x:=λc y r z=>by subst z;rw[r]at mu;exact mu
 have af_:∀c xs,H c=B' (.tup xs)->c≠x:=λc xs r z=>by subst z;rw[r]at mu;exact mu
 by_cases hb:b=x
 ·subst hb;rw[ad]at q;cases q;exact new
 ·rw[ao hb]at q;by_cases hbe:b=e
  ·have q':H b=B' (.own x):=by
    obtain z|z:=he
    ·exact absurd (hbe.trans z) hb
    ·rw[hbe];exact z
   rw[q]at q';cases q';obtain⟨v,hv⟩:=heo;exact⟨v,by rw[hbe];exact hv⟩
  ·refine(ok b u q).stay (λc v hc r=>k c v ?_ r) (λc r=>by rw[ao<|aeg c b r];exact r) λc xs r=>by rw[ao<|af_ c xs r];exact r
   obtain rfl|hc:=hc
   ·exact hbe
   ·rintro rfl;obtain z|z:=he
    ·exact aeg c b hc z
    ·rw[hc]at z;cases z;exact hb rfl
structure Un (fs ex:IW I_)(H H':Hp)(h h':J6):Prop where
 keep:∀b o,h.get? b=B' o->H b=Ji->b∉fs->b∉ex->h'.get? b=B' o
 slot:∀b o,h.get? b=B' o->H b=Ji->b∈fs->b∉ex->∃sl,h'.get? b=B' {o with slots:=sl}
 free:∀b o,h.get? b=B' o->H b=Ji->b∉ex->H' b=Ji
 there:∀b o,h.get? b=B' o->b∉ex->∃o',h'.get? b=B' o'
 tups:∀b xs,H b=B' (.tup xs)->H' b=B' (.tup xs)
 frzs:∀b o u,H b=B' (.frz o u)->H' b=B' (.frz o u)
 tbls:∀b ps,H b=B' (.tbl ps)->∃more,H' b=B' (.tbl<|ps++more)
def Un.any(u:Un fs ex H H1 h h1)(q:h.get? b=B' ob)(n:H b=Ji)(hx:b∉ex):∃sl,h1.get? b=B' {ob with slots:=sl}:=by
 by_cases hb:b∈fs
 ·exact u.slot b ob q n hb hx
 ·exact⟨ob.slots,u.keep b ob q n hb hx⟩
def Un.kept(k:∀b u,h.get? b=B' u->h'.get? b=B' u):Un fs ex H H h h':=
 ⟨λb ob q _ _ _=>k b ob q,λb ob q _ _ _=>⟨ob.slots,k b ob q⟩,λ_ _ _ n _=>n,λb ob q _=>⟨ob,k b ob q⟩,λ_ _ q=>q,λ_ _ _ q=>q,λ_ ps q=>⟨#[],by rw[q];simp⟩⟩
def Un.refl:Un fs ex H H h h:=Un.kept λ_ _ q=>q
theorem Un.laid(k:∀b u,h.get? b=B' u->h'.get? b=B' u)(hp:h.objs.size<=a)(hn:H a=Ji):Un fs ex H (upd H a o) h h' where
 keep:=λb u q _ _ _=>k b u q
 slot:=λb u q _ _ _=>⟨u.slots,k b u q⟩
 free:=λb u q n _=>by rw[ao<|JO<|KD (Jv q) hp];exact n
 there:=λb u q _=>⟨u,k b u q⟩
 tups:=λb xs q=>by rw[ao<|aj q hn];exact q
 frzs:=λb u xs q=>by rw[ao<|aj q hn];exact q
 tbls:=λb ps q=>⟨#[],by rw[ao<|aj q hn,q];simp⟩
def Un.write(mu:Fl (H x))(he:e=x\/H e=B' (.own x))(k:∀b u,b≠e->h.get? b=B' u->h'.get? b=B' u)(heo:∃u,h'.get? e=B' u):Un fs ex H (upd H x o) h h':=by
 have hx:∀b,H b=Ji->b≠x:=λb n z=>by subst z;rw[n]at mu;exact mu
 have hb:∀b,H b=Ji->b≠e:=λb n z=>by
  subst z;obtain r|r:=he
  ·exact hx b n r
  ·rw[n]at r;cases r
 have hm:∀b u,H b=B' u->¬Fl (B' u)->b≠x:=λb u q nm z=>by subst z;rw[q]at mu;exact nm mu
 refine⟨λb u q n _ _=>k b u (hb b n) q,λb u q n _ _=>⟨u.slots,k b u (hb b n) q⟩,λb u q n _=>by rw[ao<|hx b n];exact n,λb u q _=>?_,
  λb xs q=>by rw[ao<|hm b _ q λz=>z];exact q,λb u xs q=>by rw[ao<|hm b _ q λz=>z];exact q,λb ps q=>⟨#[],by rw[ao<|hm b _ q λz=>z,q];simp⟩⟩
 by_cases hbe:b=e
 ·subst hbe;exact heo
 ·exact⟨u,k b u hbe q⟩
def Hu(h:J6)(H:Hp):IW I_:=(Ky h.objs.size).filter λa=>(H a).isSome
def oq(h:J6)(H:Hp):J6:=Qy h<|Hu h H
def u9(h:J6)(H:Hp):(oq h H).objs.size=h.objs.size:=PySem.W.hideAll_size _ _
def wJ(e:h.get? b=B' o)(n:H b=Ji):(oq h H).get? b=B' o:=
 Nk _ e λhm=>by
  have q:(H b).isSome=true:=(KR.mp hm).2;rw[n]at q;simp at q
def AA(e:(oq h H).get? b=B' o):h.get? b=B' o/\H b=none:=by
 have e':h.get? b=B' o:=QY (Hu h H) e;exists e';cases q:H b with
 |none=>rfl
 |some x=>
  have hm:b∈Hu h H:=KR.mpr ⟨LM.mpr<|Jv e',by simp [q]⟩;have z:(oq h H).get? b=none:=Te (Hu h H) hm;rw[z]at e;cases e
structure Mod (K:IZ)(mg:Str->Jd IX)(base:J6):Prop where
 kin:K.In base
 glob:base.Ns Jo mg
 blt:∃mb,base.Ns W9 mb/\∀x:Str,x≠"__name__"->mb x=PQ x
 nolimit:base.NoLimit
structure Cx where
 prog:Js
 w:JV
 K:IZ
 mg:Str->Jd IX
 base:J6
 A:J8
 N:IW Str
 s₀:Ja
 H₀:Hp
 env:Env
 outer:IW Env
 stack:IW Env
 ex:IW I_
 fn:Str->JJ
 calm:JJ
 pn:IW (I_×Obj)
 xe:IX->Ja->Prop
def d9(l:IW Env):IW I_:=l.filterMap (·.frame)
abbrev Cx.fs(X:Cx):IW I_:=d9 X.outer
def HH(sc:O3)(x:Str):Prop:=sc.names.lookup x=B' .local\/sc.names.lookup x=B' .cell\/sc.names.lookup x=B' .free
def Fm(sc:O3)(x:Str):Prop:=sc.names.lookup x=B' .local\/sc.names.lookup x=B' .cell
def HI(env:Env)(h:J6)(m:Str->Jd IX)(x:Str)(u:IX):Prop:=
 (env.kindOf x=B' .local/\m x=B' u)\/((env.kindOf x=B' .cell\/env.kindOf x=B' .free)/\∃c,env.cells.lookup x=B' c/\h.IsCell c (B' u))
structure Cx.Ok (X:Cx):Prop where
 mod:Mod X.K X.mg X.base
 kind:X.env.scope.kind=.function
 glob:X.env.globals=Jo
 blt:X.env.builtins=W9
 above:X.s₀.heap.objs.size<=X.env.locals
 inj:∀x y c,X.env.cells.lookup x=B' c->X.env.cells.lookup y=B' c->x=y
 has:∀x,(X.env.kindOf x=B' .cell\/X.env.kindOf x=B' .free)->∃c,X.env.cells.lookup x=B' c
 cab:∀x c,X.fn x=Je->X.env.cells.lookup x=B' c->X.s₀.heap.objs.size<=c
 hd:X.calm=Je->X.A.handled=Ji
 frames:X.A.frames=B' X.stack
 stk:X.stack=X.outer\/(X.stack=X.env::X.outer/\X.env.frame=B' X.env.locals)
 exf:∀b∈X.ex,b≠X.env.locals/\∀x c,X.env.cells.lookup x=B' c->c≠b
 bs:∀b o,X.base.get? b=B' o->X.s₀.heap.get? b=B' o/\X.H₀ b=Ji
 bsz:X.base.objs.size<=X.s₀.heap.objs.size
 noex:∀b o,X.base.get? b=B' o->b∉X.ex
 exfs:∀b∈X.ex,b∉X.fs
 funs:X.s₀.heap.FunFrames X.base X.outer
 frf:∀b∈X.fs,X.H₀ b=Ji
structure Inv (X:Cx)(Jf:IW (I_×Obj))(σ:IW (Jd V))(H:Hp)(s:Ja):Prop where
 ok:X.Ok
 os:s.os=X.s₀.os
 bare:Qn s.gens
 base:Un X.fs X.ex X.H₀ H X.s₀.heap s.heap
 loc:∃m,s.heap.Ns X.env.locals m/\∀(i:Nat) (x:Str) (v:V),X.N[i]? =B' x->σ[i]? =B' (B' v)->HH X.env.scope x->∃u,RelV v u/\HI X.env s.heap m x u
 cell:∀x c,X.env.cells.lookup x=B' c->∃v,s.heap.IsCell c v
 free:H X.env.locals=Ji
 freeC:∀x c,X.env.cells.lookup x=B' c->H c=Ji
 pin:∀p∈X.pn++Jf,s.heap.get? p.1=B' p.2/\H p.1=Ji/\p.1≠X.env.locals/\p.1∉X.fs/\∀v,p.2.data≠.cell v
 hok:HOk X.prog X.w H s.heap
 len:σ.length=X.N.length
def Cx.Ok.nofr{X:Cx}(ok:X.Ok)(e:X.base.get? b=B' o):b∉X.fs:=λhb=>by
 have:=(ok.funs.mem hb).1;rw[e]at this;cases this
def Inv.bs(I:Inv X Jf σ H s):∀b o,X.base.get? b=B' o->s.heap.get? b=B' o/\H b=none:=λb o e=>
 ⟨I.base.keep b o (I.ok.bs b o e).1 (I.ok.bs b o e).2 (I.ok.nofr e)<|I.ok.noex b o e,I.base.free b o (I.ok.bs b o e).1 (I.ok.bs b o e).2<|I.ok.noex b o e⟩
def Inv.bk(I:Inv X Jf σ H s):∀b o,X.base.get? b=B' o->s.heap.get? b=B' o:=λb o e=>(I.bs b o e).1
def Inv.mod(I:Inv X Jf σ H s):Mod X.K X.mg X.base:=I.ok.mod
def Inv.kIn(I:Inv X Jf σ H s):X.K.In s.heap:=I.ok.mod.kin.keeps I.bk
def Inv.lt(I:Inv X Jf σ H s):X.env.locals < s.heap.objs.size:=let ⟨_,hn,_⟩:=I.loc;hn.lt
def Inv.sz(I:Inv X Jf σ H s):X.s₀.heap.objs.size<=s.heap.objs.size:=Lb I.ok.above<|K_ I.lt
def Inv.nofs(I:Inv X Jf σ H s)(h:s.heap.objs.size<=a):a∉X.fs:=λhb=>by
 obtain⟨_,o,ho,_⟩:=I.ok.funs.mem hb;exact absurd (KD (Jv ho)<|Lb I.sz h)<|LO _
def Inv.cne(I:Inv X Jf σ H s):∀x c,X.env.cells.lookup x=B' c->c≠X.env.locals:=λx c e z=>by
 obtain⟨v,o,ho,hd⟩:=I.cell x c e;obtain⟨m,⟨o',es,ep,ho',hd',_⟩,_⟩:=I.loc;rw[z,ho']at ho;cases ho;rw[hd']at hd;cases hd
def Inv.funs(I:Inv X Jf σ H s):s.heap.FunFrames X.base X.outer:=by
 have all:∀l,(∀b∈d9 l,b∈X.fs)->X.s₀.heap.FunFrames X.base l->s.heap.FunFrames X.base l:=by
  intro l
  induction l with
  |nil=>intro _ _;trivial
  |cons env r ih=>
   intro hs hl;obtain⟨hk,⟨L,o,hf,hn,ho,hd⟩,hr⟩:=hl;have hL:L∈X.fs:=hs L (by unfold d9;rw[N7,hf];exact JG);obtain⟨sl,e⟩:=I.base.slot L o ho (I.ok.frf L hL) hL λz=>I.ok.exfs L z hL;exact⟨hk,⟨L,_,hf,hn,e,hd⟩,ih (λb hb=>hs b<|by unfold d9;rw[N7,hf];exact Jy _ hb) hr⟩
 exact all X.outer (λ_ hb=>hb) I.ok.funs
def Inv.stack(I:Inv X Jf σ H s):s.heap.FunFrames X.base X.stack:=by
 obtain e|⟨e,hf⟩:=I.ok.stk
 ·rw[e];exact I.funs
 ·rw[e];obtain⟨m,hn,_⟩:=I.loc;refine .cons (by rw[I.ok.kind];decide) hf hn ?_ I.funs;exact OO<|Lb I.ok.bsz I.ok.above
def Inv.stkSub(I:Inv X Jf σ H s):∀b∈d9 X.stack,b∈X.env.locals::X.fs:=λb hb=>by
 obtain e|⟨e,hf⟩:=I.ok.stk
 ·rw[e]at hb;exact Jy _ hb
 ·rw[e]at hb;unfold d9 at hb;rw[N7,hf]at hb;exact hb
def Inv.stkFree(I:Inv X Jf σ H s):∀b∈d9 X.stack,H b=none:=λb hb=>by
 obtain e|hb:=J2.mp (I.stkSub b hb)
 ·rw[e];exact I.free
 ·obtain⟨_,o,ho,_⟩:=I.ok.funs.mem hb;exact I.base.free b o ho (I.ok.frf b hb) λz=>I.ok.exfs b z hb
def Inv.step{g':JF R5}{t':Nat}{d':Zv}{ch:IW I_}(I:Inv X Jf σ H s)
  (XI:∀b∈ch,(b∈X.ex\/X.s₀.heap.objs.size<=b)/\b≠X.env.locals/\(∀x c,X.env.cells.lookup x=B' c->c≠b)/\∀p∈X.pn++Jf,p.1≠b)
  (keep:∀b o,b≠X.env.locals->b∉X.fs->b∉ch->s.heap.get? b=B' o->H b=Ji->h'.get? b=B' o)
  (slot:∀b o,b≠X.env.locals->b∈X.fs->b∉ch->s.heap.get? b=B' o->H b=Ji->∃sl,h'.get? b=B' {o with slots:=sl}) (free:∀b o,b∉ch->s.heap.get? b=B' o->H b=Ji->H' b=Ji)
  (there:∀b o,b∉ch->s.heap.get? b=B' o->∃o',h'.get? b=B' o')
  (tups:∀b xs,H b=B' (.tup xs)->H' b=B' (.tup xs)) (frzs:∀b o u,H b=B' (.frz o u)->H' b=B' (.frz o u)) (tbls:∀b ps,H b=B' (.tbl ps)->∃more,H' b=B' (.tbl<|ps++more))
  (ns:∀m,s.heap.Ns X.env.locals m->h'.Ns X.env.locals m) (hok:HOk X.prog X.w H' h') (hg:Qn g'):
  Inv X Jf σ H' {s with heap:=h',gens:=g',drawn:=d',toks:=t'}:=by
 have neL:∀b o,X.s₀.heap.get? b=B' o->b≠X.env.locals:=λb o e=>JO<|KD (Jv e) I.ok.above;have neC:∀b o,X.s₀.heap.get? b=B' o->b∉X.ex->b∉ch:=λb o e hx hb=>by
  obtain z|z:=(XI b hb).1
  ·exact hx z
  ·exact absurd (KD (Jv e) z)<|LO _
 have acF:∀x c,X.env.cells.lookup x=B' c->∀v,s.heap.IsCell c v->h'.IsCell c v:=λx c e v ⟨o,ho,hd⟩=>by
  have nch:c∉ch:=λz=>(XI c z).2.2.1 x c e rfl;by_cases hc:c∈X.fs
  ·obtain⟨sl,q⟩:=slot c o (I.cne x c e) hc nch ho<|I.freeC x c e;exact⟨_,q,hd⟩
  ·exact⟨o,keep c o (I.cne x c e) hc nch ho<|I.freeC x c e,hd⟩
 refine⟨I.ok,I.os,hg,⟨λb o e n hb hx=>?_,λb o e n hb hx=>?_,λb o e n hx=>?_,λb o e hx=>?_,λb xs e=>tups b xs<|I.base.tups b xs e,λb o xs e=>frzs b o xs<|I.base.frzs b o xs e,λb ps e=>?_⟩,?_,λx c e=>?_,?_,λx c e=>?_,λp hp=>?_,hok,I.len⟩
 ·exact keep b o (neL b o e) hb (neC b o e hx) (I.base.keep b o e n hb hx)<|I.base.free b o e n hx
 ·obtain⟨sl,e1⟩:=I.base.slot b o e n hb hx;obtain⟨sl',e2⟩:=slot b _ (neL b o e) hb (neC b o e hx) e1<|I.base.free b o e n hx;exact⟨sl',e2⟩
 ·obtain⟨o',e1⟩:=I.base.there b o e hx;exact free b o' (neC b o e hx) e1<|I.base.free b o e n hx
 ·obtain⟨o',e1⟩:=I.base.there b o e hx;exact there b o' (neC b o e hx) e1
 ·obtain⟨m1,e1⟩:=I.base.tbls b ps e;obtain⟨m2,e2⟩:=tbls b _ e1;exact⟨m1++m2,by rw[e2,Rf]⟩
 ·obtain⟨m,hn,hl⟩:=I.loc;refine⟨m,ns m hn,λi x v e1 e2 e3=>?_⟩;obtain⟨u,r,l⟩:=hl i x v e1 e2 e3;exists u,r;obtain l|⟨k,c,e,z⟩:=l
  ·exact .inl l
  ·exact .inr ⟨k,c,e,acF x c e _ z⟩
 ·obtain⟨v,z⟩:=I.cell x c e;exact⟨v,acF x c e v z⟩
 ·obtain⟨m,⟨o,_,_,ho,_⟩,_⟩:=I.loc;exact free _ o (λz=>(XI _ z).2.1 rfl) ho I.free
 ·obtain⟨v,o,ho,hd⟩:=I.cell x c e;exact free c o (λz=>(XI c z).2.2.1 x c e rfl) ho<|I.freeC x c e
 ·obtain⟨e,n,ne,nf,d⟩:=I.pin p hp;have nch:p.1∉ch:=λz=>(XI p.1 z).2.2.2 p hp rfl;exact⟨keep p.1 p.2 ne nf nch e n,free p.1 p.2 nch e n,ne,nf,d⟩
def Inv.un(I:Inv X Jf σ H s)(u:Un X.fs [] H H' s.heap h')(hok:HOk X.prog X.w H' h'):Inv X Jf σ H' {s with heap:=h',toks:=t'}:=by
 obtain⟨m,⟨o,es,ep,ho,r⟩,_⟩:=id I.loc;obtain⟨sl,hL⟩:=u.any ho I.free (by simp);exact I.step (g':=s.gens) (d':=s.drawn) (ch:=[]) (λ_ z=>nomatch z) (λb o _ hb _ e n=>u.keep b o e n hb<|by simp) (λb o _ hb _ e n=>u.slot b o e n hb<|by simp) (λb o _ e n=>u.free b o e n<|by simp) (λb o _ e=>u.there b o e<|by simp) u.tups u.frzs u.tbls (λm' hm=>by
  obtain⟨o',es',ep',ho',r'⟩:=hm;rw[ho]at ho';cases ho';exact⟨_,es',ep',hL,r'⟩) hok I.bare
def Inv.call{t':Nat}{d':Zv}(I:Inv X Jf σ H s)(u:Un (d9 X.stack) ch H H' s.heap h')(hok:HOk X.prog X.w H' h')(hg:Qn g')
  (XI:∀b∈ch,(b∈X.ex\/X.s₀.heap.objs.size<=b)/\b≠X.env.locals/\(∀x c,X.env.cells.lookup x=B' c->c≠b)/\∀p∈X.pn++Jf,p.1≠b):
  Inv X Jf σ H' {s with heap:=h',gens:=g',drawn:=d',toks:=t'}:=by
 obtain⟨m,⟨o,es,ep,ho,r⟩,_⟩:=id I.loc;obtain⟨sl,hL⟩:=u.any ho I.free λz=>(XI _ z).2.1 rfl;exact I.step (ch:=ch) XI (λb o hL hb hc e n=>u.keep b o e n (λz=>(J2.mp<|I.stkSub b z).elim hL hb) hc) (λb o _ _ hc e n=>u.any e n hc) (λb o hc e n=>u.free b o e n hc) (λb o hc e=>u.there b o e hc) u.tups u.frzs u.tbls (λm' hm=>by
  obtain⟨o',es',ep',ho',r'⟩:=hm;rw[ho]at ho';cases ho';exact⟨_,es',ep',hL,r'⟩) hok hg
def Inv.turned{t':Nat}(I:Inv X Jf σ H s)(k:∀b o,b≠it->s.heap.get? b=B' o->h'.get? b=B' o)(hn:H it=Ji)(hL:it≠X.env.locals)
  (h1:it∈X.ex\/X.s₀.heap.objs.size<=it) (h2:∀x c,X.env.cells.lookup x=B' c->c≠it) (h3:∀p∈X.pn++Jf,p.1≠it):Inv X Jf σ H {s with heap:=h',toks:=t'}:=by
 have nit:∀b u,H b=B' u->b≠it:=λb u e z=>by rw[z,hn]at e;cases e
 refine I.step (g':=s.gens) (d':=s.drawn) (ch:=[it]) (λb hb=>?_) (λb o _ _ hc e _=>k b o (λz=>hc<|by simp [z]) e) (λb o _ _ hc e _=>⟨o.slots,k b o (λz=>hc<|by simp [z]) e⟩) (λ_ _ _ _ n=>n)
  (λb o hc e=>⟨o,k b o (λz=>hc<|by simp [z]) e⟩) (λ_ _ e=>e) (λ_ _ _ e=>e) (λb ps e=>⟨#[],by rw[e];simp⟩) (λm hm=>?_) (λb u e=>?_) I.bare
 ·have e:b=it:=by simpa using hb
  subst e;exact⟨h1,hL,h2,h3⟩
 ·obtain⟨o,es,ep,ho,r⟩:=hm;exact⟨o,es,ep,k _ o (Ma hL) ho,r⟩
 ·refine(I.hok b u e).stay (λc v hc q=>k c v ?_ q) (λ_ q=>q) λ_ _ q=>q;obtain z|z:=hc
  ·rw[z];exact nit b u e
  ·exact nit c _ z
def Inv.tok(I:Inv X Jf σ H s)(t:Nat):Inv X Jf σ H {s with toks:=t}:=I.un (h':=s.heap) (t':=t) Un.refl I.hok
def Inv.kept(I:Inv X Jf σ H s)(k:∀b u,s.heap.get? b=B' u->h'.get? b=B' u):Inv X Jf σ H {s with heap:=h',toks:=t'}:=I.un (Un.kept k)<|I.hok.kept k
def Inv.laid{t':Nat}(I:Inv X Jf σ H s)(k:∀b u,s.heap.get? b=B' u->h'.get? b=B' u)(hp:s.heap.objs.size<=a)(new:ObjOk X.prog X.w (upd H a o) h' a o):
  Inv X Jf σ (upd H a o) {s with heap:=h',toks:=t'}:=I.un (Un.laid k hp<|I.hok.fresh hp)<|I.hok.laid k hp new
def Inv.write{o:HO}{t':Nat}(I:Inv X Jf σ H s)(mu:Fl (H x))(he:e=x\/H e=B' (.own x))(k:∀b u,b≠e->s.heap.get? b=B' u->h'.get? b=B' u)(heo:∃u,h'.get? e=B' u)
  (new:ObjOk X.prog X.w (upd H x o) h' x o):Inv X Jf σ (upd H x o) {s with heap:=h',toks:=t'}:=I.un (Un.write mu he k heo)<|I.hok.write mu he k heo new
def Inv.pins_of(I:Inv X Jf σ H s)(h:∀p∈acn,s.heap.get? p.1=B' p.2/\H p.1=Ji/\p.1≠X.env.locals/\p.1∉X.fs/\∀v,p.2.data≠.cell v):Inv X acn σ H s:=
 ⟨I.ok,I.os,I.bare,I.base,I.loc,I.cell,I.free,I.freeC,λp hp=>(JI.mp hp).elim (λz=>I.pin p<|Lp _ z)<|h p,I.hok,I.len⟩
def kR{N:IW Str}(hN:N.Nodup){i j:Nat}{x:Str}(a:N[i]? =B' x) (b:N[j]? =B' x):i=j:=by
 obtain⟨h1,e1⟩:=Jk.mp a;obtain⟨h2,e2⟩:=Jk.mp b;exact(List.getElem_inj hN).mp<|e1.trans e2.symm
def mG{M:R4}{A:J8}{E:IX->Ja->Prop}{Q:SU->Ja->Prop}(I:Inv X Jf σ H s)(hN:X.N.Nodup)(hi:X.N[i]? =B' x)(hx:Fm X.env.scope x)(r:RelV v u)
  (h:∀s',Inv X Jf (σ.set i<|B' v) H s'->(∃a,NQ a s.heap s'.heap/\(a=X.env.locals\/X.env.cells.lookup x=B' a))->Q () s') (hf:X.fn x=Je\/X.env.scope.names.lookup x=B' .local:=by first|exact .inl rfl|exact .inr rfl|assumption):wpAny M A (storeName X.env x u) Q E s:=by
 obtain⟨m,hn,hl⟩:=id I.loc;have adq:(X.env.scope.kind == .class || (X.env.scope.kind == .module&&X.env.locals != X.env.globals))=false:=by rw[I.ok.kind];rfl
 have hiσ:i < σ.length:=by rw[I.len];exact(Jk.mp hi).1
 have cne:=I.cne;have aab:∀{a:I_} {h':J6},(∃o,s.heap.get? a=B' o/\H a=Ji)->NQ a s.heap h'->HOk X.prog X.w H h':=λ{a h'} ha hs b ob e=>by
  obtain⟨_,_,Zd⟩:=ha;refine(I.hok b ob e).stay (λc w' hc q=>(hs.2 c ?_).trans q) (λ_ q=>q) λ_ _ q=>q;rintro rfl;obtain rfl|hc:=hc
  ·rw[Zd]at e;cases e
  ·rw[Zd]at hc;cases hc
 obtain hk|hk:=hx
 ·refine wpAny_storeName_local hk hn (λh' ZW hs=>?_) adq;obtain⟨oL,_,_,hoL,_⟩:=id hn;refine h _ ⟨I.ok,I.os,I.bare,⟨λb o e n hb hx=>?_,λb o e n hb hx=>?_,I.base.free,λb o e hx=>?_,I.base.tups,I.base.frzs,I.base.tbls⟩,⟨_,ZW,λj y v' e1 e2 e3=>?_⟩,λy c e=>?_,I.free,I.freeC,λp hp=>?_,aab ⟨oL,hoL,I.free⟩ hs,by simpa using I.len⟩ ⟨_,hs,.inl rfl⟩
  ·exact(hs.2 b<|JO<|KD (Jv e) I.ok.above).trans<|I.base.keep b o e n hb hx
  ·obtain⟨sl,e1⟩:=I.base.slot b o e n hb hx;exact⟨sl,(hs.2 b<|JO<|KD (Jv e) I.ok.above).trans e1⟩
  ·obtain⟨o',e1⟩:=I.base.there b o e hx;exact⟨o',(hs.2 b<|JO<|KD (Jv e) I.ok.above).trans e1⟩
  ·by_cases hj:j=i
   ·subst hj;rw[hi]at e1;cases e1;rw[Oq hiσ]at e2;cases e2;exact⟨u,r,.inl ⟨hk,by simp⟩⟩
   ·rw[Qr<|Ma hj]at e2;obtain⟨u',r',q⟩:=hl j y v' e1 e2 e3;exists u',r';obtain⟨k,e⟩|⟨k,c,e,z⟩:=q
    ·refine .inl ⟨k,?_⟩;have:y≠x:=λe=>hj<|kR hN e1<|e▸hi;simp [this,e]
    ·exact .inr ⟨k,c,e,z.sameBut hs<|cne y c e⟩
  ·obtain⟨w',z⟩:=I.cell y c e;exact⟨w',z.sameBut hs<|cne y c e⟩
  ·obtain⟨e,n,ne,nf,d⟩:=I.pin p hp;exact⟨(hs.2 p.1 ne).trans e,n,ne,nf,d⟩
 ·have hfn:X.fn x=true:=by
   obtain z|z:=hf
   ·exact z
   ·rw[z]at hk;cases hk
  obtain⟨c,hc⟩:=I.ok.has x<|.inl hk;obtain⟨w',z⟩:=I.cell x c hc;refine wpAny_storeName_cell I.ok.kind hk hc z λh' hc' hs=>?_;obtain⟨oc,hoc,agQ⟩:=id z;refine h {s with heap:=h'} ⟨I.ok,I.os,I.bare,⟨λb o e n hb hx=>?_,λb o e n hb hx=>?_,I.base.free,λb o e hx=>?_,I.base.tups,I.base.frzs,I.base.tbls⟩,⟨m,hn.sameBut hs<|Ma<|cne x c hc,λj y v' e1 e2 e3=>?_⟩,λy c' e=>?_,I.free,I.freeC,λp hp=>?_,aab ⟨oc,hoc,I.freeC x c hc⟩ hs,by simpa using I.len⟩ ⟨c,hs,.inr hc⟩
  ·exact(hs.2 b<|JO<|KD (Jv e)<|I.ok.cab x c hfn hc).trans<|I.base.keep b o e n hb hx
  ·obtain⟨sl,e1⟩:=I.base.slot b o e n hb hx;exact⟨sl,(hs.2 b<|JO<|KD (Jv e)<|I.ok.cab x c hfn hc).trans e1⟩
  ·obtain⟨o',e1⟩:=I.base.there b o e hx;exact⟨o',(hs.2 b<|JO<|KD (Jv e)<|I.ok.cab x c hfn hc).trans e1⟩
  ·by_cases hj:j=i
   ·subst hj;rw[hi]at e1;cases e1;rw[Oq hiσ]at e2;cases e2;exact⟨u,r,.inr ⟨.inl hk,c,hc,hc'⟩⟩
   ·rw[Qr<|Ma hj]at e2;obtain⟨u',r',q⟩:=hl j y v' e1 e2 e3;exists u',r';obtain q|⟨k,c',e,z'⟩:=q
    ·exact .inl q
    ·refine .inr ⟨k,c',e,z'.sameBut hs ?_⟩;rintro rfl;exact hj<|kR hN e1<|I.ok.inj _ _ _ e hc▸hi
  ·by_cases hcc:c'=c
   ·subst hcc;exact⟨_,hc'⟩
   ·obtain⟨w2,z2⟩:=I.cell y c' e;exact⟨w2,z2.sameBut hs hcc⟩
  ·obtain⟨e,n,ne,nf,d⟩:=I.pin p hp;refine⟨(hs.2 p.1 ?_).trans e,n,ne,nf,d⟩;intro q;rw[q,hoc]at e;have q':oc=p.2:=JN e;exact d w' (by rw[<-q'];exact agQ)
def fh{M:R4}{A:J8}{E:IX->Ja->Prop}{Q:SU->Ja->Prop}(I:Inv X Jf σ H s)(hN:X.N.Nodup)(hi:X.N[i]? =B' x)(hx:Fm X.env.scope x)(r:RelV v u)
  (h:∀s',Inv X Jf (σ.set i<|B' v) H s'->Q () s') (hf:X.fn x=Je\/X.env.scope.names.lookup x=B' .local:=by first|exact .inl rfl|exact .inr rfl|assumption):wpAny M A (storeName X.env x u) Q E s:=
 mG I hN hi hx r (λs' I' _=>h s' I') hf
def Inv.call'(I:Inv X Jf σ H s)(ho:s'.os=s.os)(u:Un (d9 X.stack) ch H H' s.heap s'.heap)(hok:HOk X.prog X.w H' s'.heap)(hg:Qn s'.gens)
  (XI:∀b∈ch,(b∈X.ex\/X.s₀.heap.objs.size<=b)/\b≠X.env.locals/\(∀x c,X.env.cells.lookup x=B' c->c≠b)/\∀p∈X.pn++Jf,p.1≠b):Inv X Jf σ H' s':=by
 obtain⟨h',g',d',t',o'⟩:=s';have e:o'=s.os:=ho;subst e;exact I.call (g':=g') (t':=t') (d':=d') u hok hg XI
abbrev XK:=IX->Jd I_->Hp->Prop
abbrev St:=IW<|Jd V
abbrev VK:=V->Hp->Prop
abbrev TE:=St->Hp->VK->Prop
abbrev TT:=St->Hp->(JJ->Hp->Prop)->Prop
abbrev TA:=St->Hp->(IW V->Hp->Prop)->Prop
structure gj where
 nx:St->Hp->Prop
 rt:VK
 bk:St->Hp->Prop:=λ_ _=>False
 ct:St->Hp->Prop:=λ_ _=>False
abbrev TS:=gj->St->Hp->Prop
def EP(X:Cx)(Jf:IW (I_×Obj))(σ:St)(Q:VK)(u:IX)(s':Ja):Prop:=∃v H',Inv X Jf σ H' s'/\RelV v u/\Q v H'
def TP(X:Cx)(Jf:IW (I_×Obj))(σ:St)(Q:JJ->Hp->Prop)(b:JJ)(s':Ja):Prop:=∃H',Inv X Jf σ H' s'/\Q b H'
def AP(X:Cx)(Jf:IW (I_×Obj))(σ:St)(Q:IW V->Hp->Prop)(us:IW IX)(s':Ja):Prop:=∃vs H',Inv X Jf σ H' s'/\Vals vs us/\Q vs H'
def SP(X:Cx)(Jf:IW (I_×Obj))(D:gj)(f:Flow)(s':Ja):Prop:=
 match f with
 |.next=>∃σ' H',Inv X Jf σ' H' s'/\D.nx σ' H'
 |.brk=>∃σ' H',Inv X Jf σ' H' s'/\D.bk σ' H'
 |.cont=>∃σ' H',Inv X Jf σ' H' s'/\D.ct σ' H'
 |.ret u=>∃v σ' H',Inv X Jf σ' H' s'/\RelV v u/\D.rt v H'
def PE(X:Cx)(e:KJ)(t:TE):Prop:=
 ∀(Jf:IW (I_×Obj)) (s:Ja) (σ:St) (H:Hp) (Q:VK),Inv X Jf σ H s->t σ H Q->wpAny (JS X.prog X.w) X.A (MC e X.env) (EP X Jf σ Q) X.xe s
def PT(X:Cx)(e:KJ)(t:TT):Prop:=
 ∀(Jf:IW (I_×Obj)) (s:Ja) (σ:St) (H:Hp) (Q:JJ->Hp->Prop),Inv X Jf σ H s->t σ H Q->wpAny (JS X.prog X.w) X.A (isTrue e X.env<|MC e X.env) (TP X Jf σ Q) X.xe s
def PW(X:Cx)(e:KJ)(t:TT):Prop:=
 ∀(Z':Sem IX) (Jf:IW (I_×Obj)) (s:Ja) (σ:St) (H:Hp) (Q:JJ->Hp->Prop),Inv X Jf σ H s->t σ H Q->wpAny (JS X.prog X.w) X.A (isTrue e X.env Z') (TP X Jf σ Q) X.xe s
def PW.pt(h:PW X e t):PT X e t:=h _
def PA(X:Cx)(es:IW KJ)(t:TA):Prop:=
 ∀(pos:Pos) (Jf:IW (I_×Obj)) (s:Ja) (σ:St) (H:Hp) (Q:IW V->Hp->Prop),Inv X Jf σ H s->t σ H Q->wpAny (JS X.prog X.w) X.A (YM<|Nh pos<|J3 es X.env) (AP X Jf σ Q) X.xe s
def PS(X:Cx)(st:Lh)(t:TS):Prop:=
 ∀(Jf:IW (I_×Obj)) (s:Ja) (σ:St) (H:Hp) (D:gj),Inv X Jf σ H s->t D σ H->wpAny (JS X.prog X.w) X.A (exec st X.env) (SP X Jf D) X.xe s
def PSs(X:Cx)(st:IW Lh)(t:TS):Prop:=
 ∀(Jf:IW (I_×Obj)) (s:Ja) (σ:St) (H:Hp) (D:gj),Inv X Jf σ H s->t D σ H->wpAny (JS X.prog X.w) X.A (execs st X.env) (SP X Jf D) X.xe s
def bV{α:Type}{t:Sem α}{Q Q':α->Ja->Prop}{M:R4}{A:J8}{E:IX->Ja->Prop}{s:Ja}(h:wpAny M A t Q E s)(hQ:∀a s,Q a s->Q' a s):wpAny M A t Q' E s:=Kf h hQ λ_ _ x=>x
inductive Cp (i:Nat)(σ:St)(H:Hp)(Q:VK):Prop
 |mk (v:V)(h:σ[i]? =B' (B' v)) (q:Q v H):Cp i σ H Q
def gn(i:Nat):TE:=λσ H Q=>Cp i σ H Q
def tC(v:V):TE:=λ_ H Q=>Q v H
def DI(hN:X.N[i]? =B' x)(hv:HH X.env.scope x)(hd:(x == ("__debug__":Str))=false:=by decide)(Yo:(x == ("__classdict__":Str))=false:=by decide):PE X (.Name x pos) (gn i):=by
 intro Jf s σ H Q I h;obtain⟨v,e,h⟩:=h;obtain⟨m,hn,hl⟩:=I.loc;obtain⟨u,r,l⟩:=hl i x v hN e hv;have fin:EP X Jf σ Q u s:=⟨v,H,I,r,h⟩;obtain⟨hk,hm⟩|⟨hk,c,hc,aan⟩:=l
 ·exact WZ (wpAny_loadName_local I.ok.kind hk hn hm fin) hd
 ·obtain hk|hk:=hk
  ·exact WZ (wpAny_loadName_cell I.ok.kind hk hc aan fin) hd
  ·exact WZ (wpAny_loadName_free I.ok.kind hk hc aan fin Yo) hd
def ah{i j pos}:PE X (.Constant (.int i) j pos) (tC<|.int i):=λ_ _ _ H _ I h=>wpAny_Constant_int ⟨.int i,H,I.tok _,⟨_,rfl⟩,h⟩
def fi{b j pos}:PE X (.Constant (.bool b) j pos) (tC<|.bl b):=λ_ _ _ H _ I h=>Constant_bool ⟨.bl b,H,I,rfl,h⟩
def bR{j pos}:PE X (.Constant .none j pos) (tC .non):=λ_ _ _ H _ I h=>Constant_none ⟨.non,H,I,rfl,h⟩
def aC{x j pos}:PE X (.Constant (.str x) j pos) (tC<|.str x):=λ_ _ _ H _ I h=>Q3 ⟨.str x,H,I.tok _,⟨_,rfl⟩,h⟩
def Gl(X:Cx)(x:Str):Prop:=X.env.kindOf x=B' .globalImplicit
def dj{E:IX->Ja->Prop}{pos:Pos}(I:Inv X Jf σ H s)(hg:Gl X x)(hm:X.mg x=B' u)(h:Q u s)
  (hd:(x == ("__debug__":Str))=false:=by decide):wpAny (JS X.prog X.w) X.A (MC (.Name x pos) X.env) Q E s:=
 Q2 I.ok.kind hg (Calls.loadGlobal_global (by rw[I.ok.glob];exact I.mod.glob.keeps I.bk) hm h) hd
def eS{E:IX->Ja->Prop}{pos:Pos}(I:Inv X Jf σ H s)(hg:Gl X x)(hm:X.mg x=Ji)(hv:PQ x=B' u)(h:Q u s)
  (hn:x≠"__name__":=by decide) (hd:(x == ("__debug__":Str))=false:=by decide):wpAny (JS X.prog X.w) X.A (MC (.Name x pos) X.env) Q E s:=by
 obtain⟨mb,h1,h2⟩:=I.mod.blt;exact Q2 I.ok.kind hg (Calls.loadGlobal_builtin (by rw[I.ok.glob];exact I.mod.glob.keeps I.bk) hm (by rw[I.ok.blt];exact h1.keeps I.bk) ((h2 x hn).trans hv) h) hd
def AC(hg:Gl X x)(hm:X.mg x=B' u)(r:RelV v u)(hd:(x == ("__debug__":Str))=false:=by decide):PE X (.Name x pos) (tC v):=
 λ_ _ _ H _ I h=>dj I hg hm ⟨v,H,I,r,h⟩ hd
def cH(hg:Gl X x)(hm:X.mg x=Ji)(hv:PQ x=B' u)(r:RelV v u)(hn:x≠"__name__":=by decide)(hd:(x == ("__debug__":Str))=false:=by decide):PE X (.Name x pos) (tC v):=
 λ_ _ _ H _ I h=>eS I hg hm hv ⟨v,H,I,r,h⟩ hn hd
def PC(X:Cx)(op:Yv)(a b:KJ)(t:TE):Prop:=
 ∀(Jf:IW (I_×Obj)) (s:Ja) (σ:St) (H:Hp) (Q:VK),Inv X Jf σ H s->t σ H Q->
  wpAny (JS X.prog X.w) X.A (MC a X.env) (λv s₁=>wpAny (JS X.prog X.w) X.A (MC b X.env) (λu s₂=>wpAny (JS X.prog X.w) X.A (Ls op v u) (EP X Jf σ Q) X.xe s₂) X.xe s₁) X.xe s
inductive DJ (x:V)(Q:JJ->Hp->Prop)(H:Hp):Prop
 |mk (c:JJ)(h:x=.bl c)(q:Q c H):DJ x Q H
def tB(t:TE):TT:=λσ H Q=>t σ H λx H1=>DJ x Q H1
def wK(h:PC X op a b t)(h1:Qj op b=false:=by first|exact nobehind _ (by decide) (by decide)|rfl):PT X (.Compare a [op] [b] pos) (tB t):=by
 intro Jf s σ H Q I hw;refine SV (bV (h Jf s σ H _ I hw) λv s1 h1=>bV h1 λu s2 h2=>bV h2 λc s3 ⟨x,H1,I1,r1,q1⟩=>?_) h1;obtain⟨d,rfl,q⟩:=q1;cases r1;exact LV ⟨H1,I1,q⟩
def bq(h:PE X e t)(he:∀Z',isTrue e X.env Z'=(do let v <-Z';standAt e.pos;Va [v] (truthy v)):=by intro _;rfl):PT X e (tB t):=by
 intro Jf s σ H Q I hw;refine isTrue_plain (bV (h Jf s σ H _ I hw) λv s1 ⟨x,H1,I1,r1,q1⟩=>?_)<|he _;obtain⟨d,rfl,q⟩:=q1;cases r1;exact LV ⟨H1,I1,q⟩
def Fu(t u:TT):TT:=λσ H Q=>t σ H λc H1=>if c=Je then u σ H1 Q else Q Jg H1
def Fo(t u:TT):TT:=λσ H Q=>t σ H λc H1=>if c=Je then Q Je H1 else u σ H1 Q
def HJ(t:TT):TT:=λσ H Q=>t σ H λc H1=>Q (!c) H1
def c6(ha:PT X a tA):PW X (.BoolOp .And [a] pos) tA:=by
 intro wh Jf s σ H Q I h;refine isTrue_and<|bV (ha Jf s σ H Q I h) λc s1 e=>?_;cases c with
 |true=>exact isTrue_and_nil e
 |false=>exact e
def gO(ha:PT X a tA):PW X (.BoolOp .Or [a] pos) tA:=by
 intro wh Jf s σ H Q I h;refine isTrue_or<|bV (ha Jf s σ H Q I h) λc s1 e=>?_;cases c with
 |false=>exact isTrue_or_nil e
 |true=>exact e
def dI(ha:PT X a tA)(hb:PW X (.BoolOp .And (b::Me) pos) tB'):PW X (.BoolOp .And (a::b::Me) pos) (Fu tA tB'):=by
 intro wh Jf s σ H Q I h;refine isTrue_and<|bV (ha Jf s σ H _ I h) λc s1 ⟨H1,I1,q1⟩=>?_;cases c with
 |true=>exact hb wh Jf s1 σ H1 Q I1 q1
 |false=>exact⟨H1,I1,q1⟩
def gL(ha:PT X a tA)(hb:PW X (.BoolOp .Or (b::Me) pos) tB'):PW X (.BoolOp .Or (a::b::Me) pos) (Fo tA tB'):=by
 intro wh Jf s σ H Q I h;refine isTrue_or<|bV (ha Jf s σ H _ I h) λc s1 ⟨H1,I1,q1⟩=>?_;cases c with
 |true=>exact⟨H1,I1,q1⟩
 |false=>exact hb wh Jf s1 σ H1 Q I1 q1
def bG(ha:PT X a tA):PT X (.UnaryOp .Not a pos) (HJ tA):=by
 intro Jf s σ H Q I h;exact isTrue_not<|ha Jf s σ H (λc H1=>Q (!c) H1) I h
def Fv(ta tb:TE):TE:=λσ H Q=>ta σ H λx H1=>∃c,x=.bl c/\if c=Je then tb σ H1 Q else Q (.bl Jg) H1
def Fw(ta:TE):TE:=λσ H Q=>ta σ H λx H1=>∃c,x=.bl c/\Q (.bl (!c)) H1
def ou{op}(h:PE X a t):PE X (.BoolOp op [a] pos) t:=λJf s σ H Q I hw=>BoolOp_one<|h Jf s σ H Q I hw
def kT(ha:PE X a ta)(hb:PE X (.BoolOp .And (b::Me) pos) tb):PE X (.BoolOp .And (a::b::Me) pos) (Fv ta tb):=by
 intro Jf s σ H Q I h;refine BoolOp_and<|bV (ha Jf s σ H _ I h) λv s1 ⟨x,H1,I1,r1,q1⟩=>?_;obtain⟨c,rfl,q1⟩:=q1;cases r1;refine LV ?_;cases c with
 |true=>exact hb Jf s1 σ H1 Q I1 q1
 |false=>exact⟨.bl Jg,H1,I1,rfl,q1⟩
def wL(ha:PE X a ta):PE X (.UnaryOp .Not a pos) (Fw ta):=by
 intro Jf s σ H Q I h;refine UnaryOp_<|bV (ha Jf s σ H _ I h) λv s1 ⟨x,H1,I1,r1,q1⟩=>?_;obtain⟨c,rfl,q1⟩:=q1;cases r1;exact not_of<|LV ⟨.bl (!c),H1,I1,rfl,q1⟩
def IM(t:TT)(ta tb:TE):TE:=λσ H Q=>t σ H λc H1=>if c=Je then ta σ H1 Q else tb σ H1 Q
def pL(hc:PT X c tA)(ha:PE X a ta)(hb:PE X b tb):PE X (.IfExp c a b pos) (IM tA ta tb):=by
 intro Jf s σ H Q I h;refine wpAny_IfExp<|bV (hc Jf s σ H _ I h) λd s1 ⟨H1,I1,q1⟩=>?_;cases d with
 |true=>exact ha Jf s1 σ H1 Q I1 q1
 |false=>exact hb Jf s1 σ H1 Q I1 q1
def SqL(K:IZ)(H:Hp)(a:I_)(xs:IW V):Prop:=
 Rd H a (.lst xs)\/
  ∃(o:Obj) (Lj:JF IX) (n:Nat),K.lookup a=B' o/\o.cls=.type "list"/\o.dict=Ji/\o.data=.seq Lj n/\Lj.size<=sizeLine/\Vals xs Lj.toList
def SqT(K:IZ)(H:Hp)(a:I_)(xs:IW V):Prop:=
 Rd H a (.tup xs)\/
  ∃(o:Obj) (Lj:JF IX) (n:Nat),K.lookup a=B' o/\o.cls=.type "tuple"/\o.data=.seq Lj n/\Lj.size<=sizeLine/\Vals xs Lj.toList
def HK:IX->Jd V
 |.none=>B' .non
 |.bool b=>B'<|.bl b
 |.int i _=>B'<|.int i
 |.str x _=>B'<|.str x
 |.bytes b _=>B'<|.byt b
 |.float b _=>B'<|.flt b
 |.ref a=>B'<|.ref a
 |.type n=>B'<|.ty n
 |_=>Ji
def RelV.abs(r:RelV x u):HK u=B' x:=by grind[V,RelV,HK]
def RelV.inj(r:RelV x u)(q:RelV y u):x=y:=JN<|r.abs.symm.trans q.abs
theorem Vals.inj:∀{xs ys:IW V} {us:IW IX},Vals xs us->Vals ys us->xs=ys
 |_,_,_,.nil,.nil=>rfl
 |_,_,_,.cons r t,.cons r' t'=>by rw[r.inj r',Vals.inj t t']
def SqL.of{K:IZ}(h:H a=B' (.lst xs)):SqL K H a xs:=.inl<|.inl h
def SqT.of{K:IZ}(h:H a=B' (.tup xs)):SqT K H a xs:=.inl<|.inl h
def Inv.list(I:Inv X Jf σ H s)(h:SqL X.K H a xs):∃Lj,Vals xs Lj/\PlainL s.heap a Lj.toArray/\xs.length<=sizeLine:=by
 obtain h|⟨o,Lj,n,hk,hc,hd,hs,hz,r⟩:=h
 ·obtain⟨z,Lj,n,r,e⟩:=h.ok I.hok;exact⟨Lj,r,⟨_,n,e,rfl,rfl,rfl⟩,z⟩
 ·exists Lj.toList,r,⟨o,n,I.kIn a o hk,hc,hd,by simpa using hs⟩;have e:=r.length;simp only [JB]at e;lia
def Inv.tuple(I:Inv X Jf σ H s)(h:SqT X.K H a xs):∃Lj,Vals xs Lj/\IsTup s.heap a Lj.toArray/\xs.length<=sizeLine:=by
 obtain h|⟨o,Lj,n,hk,hc,hs,hz,r⟩:=h
 ·obtain⟨z,Lj,r,p⟩:=h.ok I.hok;exact⟨Lj,r,p,z⟩
 ·exists Lj.toList,r,⟨o,I.kIn a o hk,hc,n,by simpa using hs⟩;have e:=r.length;simp only [JB]at e;lia
def Inv.list_inj(I:Inv X Jf σ H s)(h:SqL X.K H a xs)(h':SqL X.K H a ys):xs=ys:=by
 obtain⟨Lj,r,⟨o,n,e,_,_,d⟩,_⟩:=I.list h;obtain⟨its',r',⟨o',n',e',_,_,d'⟩,_⟩:=I.list h';rw[e]at e';cases e';rw[d]at d';injection d' with d1 _;have:Lj=its':=by simpa using LU VB d1
 subst this;exact r.inj r'
def Inv.tuple_inj(I:Inv X Jf σ H s)(h:SqT X.K H a xs)(h':SqT X.K H a ys):xs=ys:=by
 obtain⟨Lj,r,⟨o,e,_,n,d⟩,_⟩:=I.tuple h;obtain⟨its',r',⟨o',e',_,n',d'⟩,_⟩:=I.tuple h';rw[e]at e';cases e';rw[d]at d';injection d' with d1 _;have:Lj=its':=by simpa using LU VB d1
 subst this;exact r.inj r'
abbrev Cx.wish(X:Cx)(E:IX->Ja->Prop):Cx:={X with xe:=E}
abbrev Cx.nox(X:Cx):Cx:=X.wish λ_ _=>False
def Cx.Ok.wish{X:Cx}(ok:X.Ok)(E:IX->Ja->Prop):(X.wish E).Ok:=
 ⟨ok.mod,ok.kind,ok.glob,ok.blt,ok.above,ok.inj,ok.has,ok.cab,ok.hd,ok.frames,ok.stk,ok.exf,ok.bs,ok.bsz,ok.noex,ok.exfs,ok.funs,ok.frf⟩
def Cx.Ok.unwish{X:Cx}{E:IX->Ja->Prop}(ok:(X.wish E).Ok):X.Ok:=
 ⟨ok.mod,ok.kind,ok.glob,ok.blt,ok.above,ok.inj,ok.has,ok.cab,ok.hd,ok.frames,ok.stk,ok.exf,ok.bs,ok.bsz,ok.noex,ok.exfs,ok.funs,ok.frf⟩
def Inv.wish(I:Inv X Jf σ H s)(E:IX->Ja->Prop):Inv (X.wish E) Jf σ H s:=⟨I.ok.wish E,I.os,I.bare,I.base,I.loc,I.cell,I.free,I.freeC,I.pin,I.hok,I.len⟩
def Inv.unwish(I:Inv (X.wish E) Jf σ H s):Inv X Jf σ H s:=⟨I.ok.unwish,I.os,I.bare,I.base,I.loc,I.cell,I.free,I.freeC,I.pin,I.hok,I.len⟩
def SP.unwish(h:SP (X.wish E) Jf D f s'):SP X Jf D f s':=by
 cases f with
 |next=>obtain⟨σ',H',I,q⟩:=h;exact⟨σ',H',I.unwish,q⟩
 |brk=>obtain⟨σ',H',I,q⟩:=h;exact⟨σ',H',I.unwish,q⟩
 |cont=>obtain⟨σ',H',I,q⟩:=h;exact⟨σ',H',I.unwish,q⟩
 |ret u=>obtain⟨v,σ',H',I,r,q⟩:=h;exact⟨v,σ',H',I.unwish,r,q⟩
def PSs.nox{st:IW Lh}(h:PSs X.nox st t):PSs X st t:=λJf s σ H D I hw=>
 Kf (h Jf s σ H D (I.wish _) hw) (λ_ _ q=>q.unwish) λ_ _ z=>LJ z
section
variable {st:Lh}
def pM:TS:=λD σ H=>D.nx σ H
def wM(t u:TS):TS:=λD σ H=>t {D with nx:=u D} σ H
def az:PSs X [] pM:=λ_ _ σ H _ I h=>Ly ⟨σ,H,I,h⟩
def af(h1:PS X st t)(h2:PSs X Me u):PSs X (st::Me) (wM t u):=by
 intro Jf s σ H D I h;refine Oa<|bV (h1 Jf s σ H {D with nx:=u D} I h) λf s1 q=>?_;cases f with
 |next=>
  obtain⟨σ',H',I',q⟩:=q;exact h2 Jf s1 σ' H' D I' q
 |ret v=>exact q
 |brk=>exact q
 |cont=>exact q
def ai(h1:PS X st t):PSs X [st] t:=by
 intro Jf s σ H D I h;refine Oa<|bV (h1 Jf s σ H D I h) λf s1 q=>?_;cases f with
 |next=>exact Ly q
 |ret v=>exact q
 |brk=>exact q
 |cont=>exact q
def Inv.quiet(I:Inv X Jf σ H s):interactive X.env=false:=by simp [interactive,I.ok.kind]
def wN(te:TE):TS:=λD σ H=>te σ H λ_ H1=>D.nx σ H1
def cy(he:PE X e te)(hs:QT e Ji pos.line X.env=pure false:=by rfl):PS X (.Expr e pos) (wN te):=by
 intro Jf s σ H D I h;exact wpAny_Expr_any (bV (he Jf s σ H _ I h) λv s1 ⟨x,H1,I1,r1,q1⟩=>⟨σ,H1,I1,q1⟩) I.quiet hs
def HL(te:TE):TS:=λD σ H=>te σ H D.rt
def ax(he:PE X e te):PS X (.Return (B' e) pos) (HL te):=by
 intro Jf s σ H D I h;exact wpAny_Return_some<|bV (he Jf s σ H _ I h) λv s1 ⟨x,H1,I1,r1,q1⟩=>⟨x,σ,H1,I1,r1,q1⟩
def rg(c:TT)(t u:TS):TS:=λD σ H=>c σ H λb H1=>if b=Je then t D σ H1 else u D σ H1
def aR(hc:PT X c tc)(ha:PSs X a t)(hb:PSs X b u):PS X (.If c a b pos) (rg tc t u):=by
 intro Jf s σ H D I h;refine Zk<|bV (hc Jf s σ H _ I h) λd s1 ⟨H1,I1,q1⟩=>?_;cases d with
 |true=>exact ha Jf s1 σ H1 D I1 q1
 |false=>exact hb Jf s1 σ H1 D I1 q1
def DK:TS:=λ_ _ _=>False
def aX:PS X st DK:=λ_ _ _ _ _ _ h=>h.elim
end
abbrev TG:=V->St->Hp->(St->Hp->Prop)->Prop
abbrev Av:=IW V->St->Hp->(St->Hp->Prop)->Prop
def PG(X:Cx)(Of:KJ)(t:TG):Prop:=
 ∀(Jf:IW (I_×Obj)) (s:Ja) (σ:St) (H:Hp) (v:V) (u:IX) (Q:St->Hp->Prop),Inv X Jf σ H s->RelV v u->t v σ H Q->
  wpAny (JS X.prog X.w) X.A (UA Of X.env u) (λ_ s'=>∃σ' H',Inv X Jf σ' H' s'/\Q σ' H') X.xe s
def Fp(X:Cx)(ts:IW KJ)(t:Av):Prop:=
 ∀(Jf:IW (I_×Obj)) (s:Ja) (σ:St) (H:Hp) (vs:IW V) (us:IW IX) (Q:St->Hp->Prop),Inv X Jf σ H s->Vals vs us->t vs σ H Q->
  wpAny (JS X.prog X.w) X.A (assignInOrder ((N4 ts X.env).map (·.2)) us) (λ_ s'=>∃σ' H',Inv X Jf σ' H' s'/\Q σ' H') X.xe s
abbrev DL:=V->V->V->Hp->(Hp->Prop)->Prop
def Fx(X:Cx)(t:DL):Prop:=
 ∀(Jf:IW (I_×Obj)) (s:Ja) (σ:St) (H:Hp) (o i v:V) (ov iv u:IX) (Q:Hp->Prop),Inv X Jf σ H s->RelV o ov->RelV i iv->RelV v u->t o i v H Q->
  wpAny (JS X.prog X.w) X.A (setItem ov iv u) (λ_ s'=>∃H',Inv X Jf σ H' s'/\Q H') X.xe s
def eU(i:Nat):TG:=λv σ H Q=>Q (σ.set i<|B' v) H
def aB(hN:X.N.Nodup)(hi:X.N[i]? =B' x)(hx:Fm X.env.scope x)(hf:X.fn x=Je\/X.env.scope.names.lookup x=B' .local:=by first|exact .inl rfl|exact .inr rfl|assumption):PG X (.Name x pos) (eU i):=by
 intro Jf s σ H v u Q I r h;exact U7<|fh I hN hi hx r (λs' I'=>⟨_,H,I',h⟩) hf
def HM:Av:=λvs σ H Q=>vs=[]/\Q σ H
def Fy(t:TG)(u:Av):Av:=λvs σ H Q=>∃v r,vs=v::r/\t v σ H λσ' H'=>u r σ' H' Q
def eE:Fp X [] HM:=by
 intro Jf s σ H vs us Q I r h;obtain⟨e,h⟩:=h;subst e;cases r;exact assignInOrder_nil ⟨σ,H,I,h⟩
def bd(h1:PG X e t)(h2:Fp X es u)
  (hs:(N4 (e::es) X.env).map (·.2)=UA e X.env::(N4 es X.env).map (·.2):=by rfl):Fp X (e::es) (Fy t u):=by
 intro Jf s σ H vs us Q I r h;obtain⟨v,vr,e1,h⟩:=h;subst e1;cases r with
 |cons r rr=>
  rw[hs];refine assignInOrder_cons<|bV (h1 Jf s σ H _ _ _ I r h) λ_ s1 ⟨σ1,H1,I1,q1⟩=>?_;exact h2 Jf s1 σ1 H1 _ _ Q I1 rr q1
def Fz(K:IZ)(n:Nat)(t:Av):TG:=λv σ H Q=>∃a xs,v=.ref a/\SqT K H a xs/\xs.length=n/\t xs σ H Q
def jy{k:Nat}{n:Nat}(hc:X.calm=Je)(h:Fp X es t)
  (hn:(N4 es X.env).length=n:=by rfl) (S5:(N4 es X.env).findIdx? (·.1)=none:=by rfl):PG X (.Tuple es k pos) (Fz X.K n t):=by
 intro Jf s σ H v u Q I r hw;obtain⟨a,xs,e1,hq,hl,hw⟩:=hw;subst e1;cases r;obtain⟨Lj,rv,ht,hz⟩:=I.tuple hq;refine assign_Tuple_tuple (I.ok.hd hc) ht (by simp [hn,<-hl,rv.length]) S5 λh' hx=>?_;have I1:Inv X Jf σ H {s with heap:=h'}:=I.kept (t':=s.toks) λb o e=>hx b o (JO<|Jv e) e;exact h Jf _ σ H xs _ Q I1 (by simpa using rv) hw
def HN(to ti:TE)(t:DL):TG:=λv σ H Q=>to σ H λo H1=>ti σ H1 λi H2=>t o i v H2 λH3=>Q σ H3
def DM(ho:PE X o to)(hi:PE X i ti)(hs:Fx X t)
  (ha:∀v,UA (.Subscript o i pos) X.env v=(do
   let ov <-Va [v] (MC o X.env)
   let iv <-Va [v,ov] (MC i X.env)
   standAt pos
   Va [v,ov,iv] (setItem ov iv v)
   release [v,ov,iv] []):=by intro _;rfl):PG X (.Subscript o i pos) (HN to ti t):=by
 intro Jf s σ H v u Q I r h;rw[ha];refine IY<|KN<|bV (ho Jf s σ H _ I h) λov s1 ⟨x,H1,I1,r1,q1⟩=>?_;refine IY<|KN<|bV (hi Jf s1 σ H1 _ I1 q1) λiv s2 ⟨y,H2,I2,r2,q2⟩=>?_;refine IY<|Pb<|IY<|KN<|bV (hs Jf s2 σ H2 x y v ov iv u _ I2 r1 r2 r q2) λ_ s3 ⟨H3,I3,q3⟩=>?_;exact wpAny_release ⟨σ,H3,I3,q3⟩
def rh(te:TE)(g:TG):TS:=λD σ H=>te σ H λx H1=>g x σ H1 D.nx
def iD(he:PE X e te)(hg:PG X tg g)(hs:swapsWithSole [tg] e pos.line X.env=pure false:=by rfl)(hw:swappedStores [tg] e X.env=pure none:=by rfl)
  (h1:(N4 [tg] X.env).map (·.2)=[UA tg X.env]:=by rfl):PS X (.Assign [tg] e pos) (rh te g):=by
 intro Jf s σ H D I h;refine wpAny_Assign_stores (bV (he Jf s σ H _ I h) λv s1 ⟨x,H1,I1,r1,q1⟩=>?_) hs hw;rw[h1];exact bV (hg Jf s1 σ H1 x v _ I1 r1 q1) λ_ s2 q=>q
def ar(hN:X.N.Nodup)(hi:X.N[i]? =B' x)(hx:Fm X.env.scope x)(he:PE X e te)(hs:QT e (B'<|.Name x RA) pos.line X.env=pure false:=by rfl)(hf:X.fn x=Je\/X.env.scope.names.lookup x=B' .local:=by first|exact .inl rfl|exact .inr rfl|assumption):
  PS X (.Assign [.Name x RA] e pos) (rh te<|eU i):=by
 intro Jf s σ H D I h;refine Rl (bV (he Jf s σ H _ I h) λv s1 ⟨y,H1,I1,r1,q1⟩=>?_) hs;exact fh I1 hN hi hx r1 (λs2 I2=>⟨_,H1,I2,q1⟩) hf
structure It where
 go:Nat->Hp->Prop
 yld:Nat->Hp->V->Hp->Prop
 stop:Nat->Hp->Prop
def ow(X:Cx)(Jf:IW (I_×Obj))(H:Hp)(b:I_):Prop:=
 H b=Ji/\b≠X.env.locals/\b∉X.fs/\(b∈X.ex\/X.s₀.heap.objs.size<=b)/\(∀x c,X.env.cells.lookup x=B' c->c≠b)/\∀p∈X.pn++Jf,p.1≠b
def Inv.fpOk(I:Inv X Jf σ H s)(hb:s.heap.objs.size<=b)(hn:H' b=Ji):ow X Jf H' b:=by
 refine⟨hn,NS<|KD I.lt hb,I.nofs hb,.inr<|Lb I.sz hb,λx c e z=>?_,λp hp z=>?_⟩
 ·obtain⟨v,q⟩:=I.cell x c e;exact absurd (KD q.lt<|by rw[z];exact hb)<|LO _
 ·exact absurd (KD (Jv (I.pin p hp).1)<|by rw[z];exact hb)<|LO _
structure u_ (P:Js)(w:JV)(K:IZ)(tg:KJ)(J:It)(fp:IW I_)(it:I_)(tn:Nat->J6->Prop):Prop where
 mem:it∈fp
 obj:∀i h,tn i h->∀b∈fp,∃o,h.get? b=B' o/\∀v,o.data≠.cell v
 keep:∀i h h',tn i h->(∀b∈fp,∀o,h.get? b=B' o->h'.get? b=B' o)->tn i h'
 item:∀(X:Cx),X.prog=P->X.w=w->X.K=K->X.calm=Je->∀(i:Nat) (Jf:IW (I_×Obj)) (s:Ja) (σ:St) (H:Hp) (E:IX->Ja->Prop),Inv X Jf σ H s->(∀b∈fp,ow X Jf H b)->tn i s.heap->J.go i H->
  wpAny (JS P w) X.A (Pp<|.ref it) (λr s1=>∃u,r=B' u/\
   wpAny (JS P w) X.A (Qx tg (.ref it) u) (λ_ s2=>∃x H',Inv X Jf σ H' s2/\RelV x u/\J.yld i H x H'/\tn (i+1) s2.heap/\∀b∈fp,H' b=Ji) E s1) E s
 done:∀(X:Cx),X.prog=P->X.w=w->X.K=K->X.calm=Je->∀(i:Nat) (Jf:IW (I_×Obj)) (s:Ja) (σ:St) (H:Hp) (E:IX->Ja->Prop),Inv X Jf σ H s->(∀b∈fp,ow X Jf H b)->tn i s.heap->J.stop i H->
  wpAny (JS P w) X.A (Pp<|.ref it) (λr s1=>r=Ji/\Inv X Jf σ H s1) E s
 self:∀(A:J8) (i:Nat) (s:Ja) (Q:IX->Ja->Prop) (E:IX->Ja->Prop),tn i s.heap->Q (.ref it) s->wpAny (JS P w) A (S_<|.ref it) Q E s
abbrev TI:=St->Hp->(It->Hp->Prop)->Prop
def HP(X:Cx)(Jf:IW (I_×Obj))(σ:St)(tg:KJ)(R:It->Hp->Prop)(itv:IX)(s2:Ja):Prop:=
 ∃(it:I_) (fp:IW I_) (tn:Nat->J6->Prop) (J:It) (H':Hp),itv=.ref it/\Inv X Jf σ H' s2/\u_ X.prog X.w X.K tg J fp it tn/\tn 0 s2.heap/\(∀b∈fp,ow X Jf H' b)/\R J H'
def PI(X:Cx)(tg iter:KJ)(wi:TI):Prop:=
 ∀(Jf:IW (I_×Obj)) (s:Ja) (σ:St) (H:Hp) (R:It->Hp->Prop),Inv X Jf σ H s->wi σ H R->
  wpAny (JS X.prog X.w) X.A (MC iter X.env) (λv s1=>wpAny (JS X.prog X.w) X.A (S_ v) (HP X Jf σ tg R) X.xe s1) X.xe s
def sZ{M:R4}{A:J8}{E:IX->Ja->Prop}{tg:KJ}{u:IX}{Q:SU->Ja->Prop}(ho:s.heap.get? it=B' o)(hc:o.cls=.type n)(hd:o.data=.fields vs)
  (hn:["enumerate","zip","dict_itemiterator","dict_reverseitemiterator","odict_iterator","itertools.zip_longest","itertools.pairwise"].contains n=Jg) (hQ:Q () s):wpAny M A (Qx tg (.ref it) u) Q E s:=by
 unfold Qx;cases tg<;>first
  |exact Jl hQ
  |(cases u<;>first
    |exact Jl hQ
    |(refine IY<|wpAny_load ho ?_
      rw[hc,hd];show wpAny M A (if(["enumerate","zip","dict_itemiterator","dict_reverseitemiterator","odict_iterator","itertools.zip_longest","itertools.pairwise"].contains n&&vs[0]? == B' (OL _))=Je then _ else _) Q E s
      rw[JK<|by intro h;rw[hn,OU]at h;cases h];exact Jl hQ))
def wO(K:IZ)(a:I_):It:=
 ⟨λi H=>∃xs x,SqL K H a xs/\xs[i]? =B' x,λi H x H'=>H'=H/\∀xs,SqL K H a xs->xs[i]? =B' x,λi H=>∃xs,SqL K H a xs/\xs.length<=i⟩
def DN(K:IZ)(a:I_):It:=
 ⟨λi H=>∃xs x,SqT K H a xs/\xs[i]? =B' x,λi H x H'=>H'=H/\∀xs,SqT K H a xs->xs[i]? =B' x,λi H=>∃xs,SqT K H a xs/\xs.length<=i⟩
def Cq(lo:Int)(n:Nat):It:=⟨λi _=>i < n,λi H x H'=>H'=H/\x=.int (lo+i),λi _=>n<=i⟩
theorem va{K:IZ}(a it:I_):u_ P w K tg (wO K a) [it] it (λi h=>h.IsListIter it a i) where
 mem:=by simp
 obj:=λi h st b hb=>by
  have e:b=it:=by simpa using hb
  subst e;obtain⟨o,e,c,d⟩:=st;exact⟨o,e,λv z=>by rw[d]at z;cases z⟩
 keep:=λi h h' st k=>st.at λo e=>k it (by simp) o e
 item:=by
  intro X hP hw hK hc i Jf s σ H E I hf st hg;subst hP hw hK;obtain⟨xs,x,hq,hx⟩:=hg;obtain⟨Lj,rv,p,hz⟩:=I.list hq;obtain⟨u,hu,ru⟩:=rv.get hx;obtain⟨f0,f1,f2,f3,f4,f5⟩:=hf it (by simp);refine wpAny_pyNext_list_item st p.isList (x:=u) (by simpa using hu) λh' LD sb=>?_;have I1:Inv X Jf σ H {s with heap:=h'}:=I.turned (t':=s.toks) (λb o hb e=>(sb.2 b hb).trans e) f0 f1 f3 f4 f5;obtain⟨o,e,c,d⟩:=id LD;exact⟨u,rfl,sZ (s:={s with heap:=h'}) e c d (by decide) ⟨x,H,I1,ru,⟨rfl,λys hy=>by rw[I.list_inj hy hq];exact hx⟩,LD,λb hb=>(hf b hb).1⟩⟩
 done:=by
  intro X hP hw hK hc i Jf s σ H E I hf st hg;subst hP hw hK;obtain⟨xs,hq,hx⟩:=hg;obtain⟨Lj,rv,p,hz⟩:=I.list hq;obtain⟨f0,f1,f2,f3,f4,f5⟩:=hf it (by simp);have hl:=rv.length;exact wpAny_pyNext_list_end (I.ok.hd hc) st p.isList (by simp;lia) λh' eb=>⟨rfl,I.turned (t':=s.toks) (λb o hb e=>eb b o hb e) f0 f1 f3 f4 f5⟩
 self:=λ_ _ _ _ _ st h=>wpAny_pyIter_listiter st h
theorem rj{K:IZ}(a it:I_):u_ P w K tg (DN K a) [it] it (λi h=>h.IsTupleIter it a i) where
 mem:=by simp
 obj:=λi h st b hb=>by
  have e:b=it:=by simpa using hb
  subst e;obtain⟨o,e,c,d⟩:=st;exact⟨o,e,λv z=>by rw[d]at z;cases z⟩
 keep:=λi h h' st k=>st.at λo e=>k it (by simp) o e
 item:=by
  intro X hP hw hK hc i Jf s σ H E I hf st hg;subst hP hw hK;obtain⟨xs,x,hq,hx⟩:=hg;obtain⟨Lj,rv,p,hz⟩:=I.tuple hq;obtain⟨u,hu,ru⟩:=rv.get hx;obtain⟨f0,f1,f2,f3,f4,f5⟩:=hf it (by simp);refine wpAny_pyNext_tuple_item st (show s.heap.IsTuple a Lj.toArray from p) (x:=u) (by simpa using hu) λh' LD sb=>?_;have I1:Inv X Jf σ H {s with heap:=h'}:=I.turned (t':=s.toks) (λb o hb e=>(sb.2 b hb).trans e) f0 f1 f3 f4 f5;obtain⟨o,e,c,d⟩:=id LD;exact⟨u,rfl,sZ (s:={s with heap:=h'}) e c d (by decide) ⟨x,H,I1,ru,⟨rfl,λys hy=>by rw[I.tuple_inj hy hq];exact hx⟩,LD,λb hb=>(hf b hb).1⟩⟩
 done:=by
  intro X hP hw hK hc i Jf s σ H E I hf st hg;subst hP hw hK;obtain⟨xs,hq,hx⟩:=hg;obtain⟨Lj,rv,p,hz⟩:=I.tuple hq;obtain⟨f0,f1,f2,f3,f4,f5⟩:=hf it (by simp);have hl:=rv.length;exact wpAny_pyNext_tuple_end (I.ok.hd hc) st (show s.heap.IsTuple a Lj.toArray from p) (by simp;lia) λh' eb=>⟨rfl,I.turned (t':=s.toks) (λb o hb e=>eb b o hb e) f0 f1 f3 f4 f5⟩
 self:=λ_ _ _ _ _ st h=>wpAny_pyIter_tupleiter st h
theorem rm{K:IZ}(it:I_)(lo:Int)(n:Nat):u_ P w K tg (Cq lo n) [it] it (λi h=>Tj h it (lo+(i:Nat)*1) ((n:Int) - (i:Nat)) 1) where
 mem:=by simp
 obj:=λi h st b hb=>by
  have e:b=it:=by simpa using hb
  subst e;exact⟨_,st,λv z=>by
   have z':Wi _=Yu v:=z;cases z'⟩
 keep:=λi h h' st k=>k it (by simp) _ st
 item:=by
  intro X hP hw hK hc i Jf s σ H E I hf st hg;subst hP hw hK;obtain⟨f0,f1,f2,f3,f4,f5⟩:=hf it (by simp);have W:=Zn (prog:=X.prog) (w:=X.w) (I.ok.hd hc) it lo 1 n;refine W.item i s _ _ hg st λv h' tk hv LD kk=>?_;obtain⟨t,rfl⟩:=hv;have I1:Inv X Jf σ H {s with heap:=h',toks:=tk}:=I.turned (λb o hb e=>kk b o (by simpa using hb) e) f0 f1 f3 f4 f5;refine⟨_,rfl,sZ (s:={s with heap:=h',toks:=tk}) (n:="range_iterator") LD rfl rfl (by decide) ⟨.int<|lo+i,H,I1,⟨t,?_⟩,⟨rfl,rfl⟩,LD,λb hb=>(hf b hb).1⟩⟩;rw[ZA]
 done:=by
  intro X hP hw hK hc i Jf s σ H E I hf st hg;subst hP hw hK;obtain⟨f0,f1,f2,f3,f4,f5⟩:=hf it (by simp);exact Sj (I.ok.hd hc) st (by have:n<=i:=hg;lia) λh' eb=>⟨rfl,I.turned (t':=s.toks) (λb o hb e=>eb b o hb e) f0 f1 f3 f4 f5⟩
 self:=λ_ _ _ _ _ st h=>Sk st h
inductive FA (K:IZ)(x:V)(H:Hp)(R:It->Hp->Prop):Prop
 |mk (a:I_)(h:x=.ref a)(e:∃xs,SqL K H a xs)(r:R (wO K a) H):FA K x H R
inductive FC (K:IZ)(x:V)(H:Hp)(R:It->Hp->Prop):Prop
 |mk (a:I_)(h:x=.ref a)(e:∃xs,SqT K H a xs)(r:R (DN K a) H):FC K x H R
def FD(K:IZ)(tl:TE):TI:=λσ H R=>tl σ H λx H1=>FA K x H1 R
def HQ(K:IZ)(tl:TE):TI:=λσ H R=>tl σ H λx H1=>FC K x H1 R
def cg(hl:PE X l tl):PI X tg l (FD X.K tl):=by
 intro Jf s σ H R I h;refine bV (hl Jf s σ H _ I h) λv s1 ⟨x,H1,I1,r1,q1⟩=>?_;obtain⟨a,e,⟨xs,hq⟩,q⟩:=q1;subst e;cases r1;obtain⟨Lj,rv,p,hz⟩:=I1.list hq;refine NN p.isList ?_;refine⟨s1.heap.objs.size,[s1.heap.objs.size],_,_,H1,rfl,I1.kept (t':=s1.toks) λb o e=>Jb _ e,va a _,⟨_,JX _ rfl,rfl,rfl⟩,λb hb=>?_,q⟩;have e:b=s1.heap.objs.size:=by simpa using hb
 subst e;exact I1.fpOk (Jh _)<|I1.hok.fresh<|Jh _
def d_(hl:PE X l tl):PI X tg l (HQ X.K tl):=by
 intro Jf s σ H R I h;refine bV (hl Jf s σ H _ I h) λv s1 ⟨x,H1,I1,r1,q1⟩=>?_;obtain⟨a,e,⟨xs,hq⟩,q⟩:=q1;subst e;cases r1;obtain⟨Lj,rv,p,hz⟩:=I1.tuple hq;refine wpAny_pyIter_tuple (show s1.heap.IsTuple a Lj.toArray from p) ?_;refine⟨s1.heap.objs.size,[s1.heap.objs.size],_,_,H1,rfl,I1.kept (t':=s1.toks) λb o e=>Jb _ e,rj a _,⟨_,JX _ rfl,rfl,rfl⟩,λb hb=>?_,q⟩;have e:b=s1.heap.objs.size:=by simpa using hb
 subst e;exact I1.fpOk (Jh _)<|I1.hok.fresh<|Jh _
def pN{R:It->Hp->Prop}{E:IX->Ja->Prop}{lo:Int}{t u v:Tok}{tk:Nat}(I:Inv X Jf σ H s)(h1:-(2 ^ 62)<=lo)(h2:lo < 2 ^ 62)(h3:-(2 ^ 62)<=hi)(h4:hi < 2 ^ 62)
  (q:R (Cq lo (hi - lo).toNat) H):wpAny (JS X.prog X.w) X.A (S_<|.ref s.heap.objs.size) (HP X Jf σ tg R) E {s with heap:=s.heap.push {cls:=.type "range",data:=.fields #[.int lo t,.int hi u,.int 1 v]},toks:=tk}:=by
 refine Us (Zu ..) (small_one h1 h2 h3 h4) ?_;have I1:Inv X Jf σ H {s with heap:=s.heap.push {cls:=.type "range",data:=.fields #[.int lo t,.int hi u,.int 1 v]},toks:=tk}:=I.kept λb o e=>Jb _ e;refine⟨(s.heap.push {cls:=.type "range",data:=.fields #[.int lo t,.int hi u,.int 1 v]}).objs.size,[(s.heap.push {cls:=.type "range",data:=.fields #[.int lo t,.int hi u,.int 1 v]}).objs.size],_,_,H,rfl,
  I1.kept (t':=tk) λb o e=>Jb _ e,rm _ lo (hi - lo).toNat,?_,λb hb=>?_,q⟩
 ·have e1:lo+((0:Nat):Int)*1=lo:=by simp
  have e2:(((hi - lo).toNat:Nat):Int) - ((0:Nat):Int)=R8 lo hi 1:=by rw[rangeSize_one];split<;>lia
  show Tj _ _ (lo+((0:Nat):Int)*1) ((((hi - lo).toNat:Nat):Int) - ((0:Nat):Int)) 1
  rw[e1,e2];exact JX _ rfl
 ·have e:b=(s.heap.push {cls:=.type "range",data:=.fields #[.int lo t,.int hi u,.int 1 v]}).objs.size:=by simpa using hb
  subst e;exact I1.fpOk (Jh _)<|I1.hok.fresh<|Jh _
def FE(ta:TA):TI:=λσ H R=>ta σ H λvs H1=>∃j:Int,vs=[.int j]/\ -(2 ^ 62)<=j/\j < 2 ^ 62/\R (Cq 0 j.toNat) H1
def FF(ta:TA):TI:=λσ H R=>ta σ H λvs H1=>∃i j:Int,vs=[.int i,.int j]/\(-(2 ^ 62)<=i/\i < 2 ^ 62/\ -(2 ^ 62)<=j/\j < 2 ^ 62)/\R (Cq i (j - i).toNat) H1
def dA(hg:Gl X "range")(hm:X.mg "range"=Ji)(ha:PA X [a] ta)(hs:J3 [a] X.env=[(Jg,MC a X.env)]:=by rfl):PI X tg (.Call (.Name "range" p) [a] [] pos) (FE ta):=by
 intro Jf s σ H R I h;refine Call_<|eS I hg hm Xk<|LZ (bV (ha pos Jf s σ H _ I h) λus s1 ⟨vs,H1,I1,r1,q1⟩=>?_) hs rfl;obtain⟨j,e,q1,q2,q⟩:=q1;subst e;cases r1 with
 |cons r rr=>
  cases rr;obtain⟨t,rfl⟩:=r;exact call_range_1 (pN I1 (by lia) (by lia) q1 q2<|by simpa using q)
def vc{p pos:Pos}(hg:Gl X "range")(hm:X.mg "range"=Ji)(ha:PA X [a,b] ta)(hs:J3 [a,b] X.env=[(Jg,MC a X.env),(Jg,MC b X.env)]:=by rfl)(WR:J3 [b] X.env=[(Jg,MC b X.env)]:=by rfl):
  PI X tg (.Call (.Name "range" p) [a,b] [] pos) (FF ta):=by
 intro Jf s σ H R I h;refine Call_ (eS I hg hm Xk<|LZ (bV (ha pos Jf s σ H _ I h) λus s1 ⟨vs,H1,I1,r1,q1⟩=>?_) (by rw[hs,WR])<|by rw[WR];rfl);obtain⟨i,j,e,⟨q1,q2,q3,q4⟩,q⟩:=q1;subst e;cases r1 with
 |cons r rr=>
  cases rr with
  |cons r' rr=>
   cases rr;obtain⟨t,rfl⟩:=r;obtain⟨t',rfl⟩:=r';exact call_range_2<|pN I1 q1 q2 q3 q4 q
def HR(wi:TI)(g:TG)(tb:TS):TS:=λD σ H=>wi σ H λJ H1=>∃W:Nat->Nat->St->Hp->Prop,(∃m,W 0 m σ H1)/\∀i m σ H,W i m σ H->
 (J.stop i H/\D.nx σ H)\/(J.go i H/\∃N:St->Hp->Prop,(∀σ' H',N σ' H'->∃m',m' < m/\W (i+1) m' σ' H')/\∀x H',J.yld i H x H'->g x σ H' λσ2 H2=>tb {D with nx:=N,ct:=N,bk:=D.nx} σ2 H2)
def kU(fp:IW I_)(h:J6):IW (I_×Obj):=fp.filterMap λb=>(h.get? b).map λo=>(b,o)
def gp(hb:b∈fp)(e:h.get? b=B' o):(b,o)∈kU fp h:=Kh.mpr ⟨b,hb,by rw[e];rfl⟩
def vd(hp:p∈kU fp h):p.1∈fp/\h.get? p.1=B' p.2:=by
 obtain⟨b,hb,e⟩:=Kh.mp hp;cases q:h.get? b with
 |none=>rw[q]at e;cases e
 |some o=>
  rw[q]at e;have e':(b,o)=p:=JN e;subst e';exact⟨hb,q⟩
def Inv.pinned(I:Inv X Jf σ H s)(hf:∀b∈fp,ow X Jf H b)(ho:∀b∈fp,∃o,s.heap.get? b=B' o/\∀v,o.data≠.cell v):Inv X (Jf++kU fp s.heap) σ H s:=
 I.pins_of λp hp=>(JI.mp hp).elim (λz=>I.pin p<|Kc _ z) λz=>by
  obtain⟨hb,e⟩:=vd z;obtain⟨f0,f1,f2,_⟩:=hf p.1 hb;obtain⟨o,e',d⟩:=ho p.1 hb;rw[e]at e';cases e';exact⟨e,f0,f1,f2,d⟩
def Inv.unpinned(I:Inv X (Jf++pl) σ H s):Inv X Jf σ H s:=I.pins_of λp hp=>I.pin p<|Kc _<|Lp _ hp
def cZ{pos:Pos}(hp:PassesOwn (JS X.prog X.w) X.A X.env X.xe)(hc:X.calm=Je)(hi:PI X tg iter wi)(hg:PG X tg g)(hb:PSs X body tb)
  (hs:∀x,Rp iter X.env x=pure x:=by intro _;rfl):PS X (.For tg iter body [] pos) (HR wi g tb):=by
 intro Jf s σ H D I h;refine wpAny_For (bV (hi Jf s σ H _ I h) λv s1 h1=>bV h1 λitv s2 h2=>?_) hs;obtain⟨it,fp,tn,J,H2,e,I2,T,Mz,f2,W,⟨m0,w0⟩,Yx⟩:=h2;subst e;have ZO:∀{H':Hp},(∀b∈fp,H' b=Ji)->∀b∈fp,ow X Jf H' b:=λhn b hb=>⟨hn b hb,(f2 b hb).2⟩;refine codeAny_forLoop_any (λn s'=>∃i σ' H',Inv X Jf σ' H' s'/\tn i s'.heap/\(∀b∈fp,H' b=Ji)/\W i n σ' H') ?_ m0 ⟨0,σ,H2,I2,Mz,λb hb=>(f2 b hb).1,w0⟩;rintro n s3 ⟨i,σ3,H3,I3,RP,fr3,w3⟩;obtain⟨stop,qn⟩|⟨go,N,hN,step⟩:=Yx i n σ3 H3 w3
 ·refine Pl hp<|bV (T.done X rfl rfl rfl hc i Jf s3 σ3 H3 X.xe I3 (ZO fr3) RP stop) λr s4 ⟨hr,I4⟩=>?_;subst hr;exact Ly ⟨σ3,H3,I4,qn⟩
 ·refine Pl hp<|bV (T.item X rfl rfl rfl hc i Jf s3 σ3 H3 X.xe I3 (ZO fr3) RP go) λr s4 ⟨u,hr,h4⟩=>?_;subst hr;refine Pl hp<|bV h4 λ_ s5 ⟨x,H5,I5,r5,y5,st5,fr5⟩=>?_;have I5':=I5.pinned (ZO fr5)<|T.obj _ _ st5;refine Pl hp<|bV (hg _ s5 σ3 H5 x u _ I5' r5<|step x H5 y5) λ_ s6 ⟨σ6,H6,I6,q6⟩=>?_;refine Pl hp<|bV (hb _ s6 σ6 H6 _ I6 q6) λf s7 q7=>?_;have again:∀{σ7:St} {H7:Hp},Inv X (Jf++kU fp s5.heap) σ7 H7 s7->N σ7 H7->∃m,m < n/\∃i σ' H',Inv X Jf σ' H' s7/\tn i s7.heap/\(∀b∈fp,H' b=Ji)/\W i m σ' H':=λ{σ7 H7} I7 n7=>by
   obtain⟨m',hm,w7⟩:=hN σ7 H7 n7;refine⟨m',hm,i+1,σ7,H7,I7.unpinned,T.keep _ _ _ st5 λb hb o e=>(I7.pin (b,o)<|Kc _<|Kc _<|gp hb e).1,λb hb=>?_,w7⟩;obtain⟨o,e,d⟩:=T.obj _ _ st5 b hb;exact(I7.pin (b,o)<|Kc _<|Kc _<|gp hb e).2.1
  cases f with
  |next=>obtain⟨σ7,H7,I7,n7⟩:=q7;exact again I7 n7
  |cont=>obtain⟨σ7,H7,I7,n7⟩:=q7;exact again I7 n7
  |brk=>obtain⟨σ7,H7,I7,q7⟩:=q7;exact⟨σ7,H7,I7.unpinned,q7⟩
  |ret v=>obtain⟨x7,σ7,H7,I7,r7,q7⟩:=q7;exact⟨x7,σ7,H7,I7.unpinned,r7,q7⟩
def gP{K:IZ}{g:TG}{tb:TS}{D:gj}(Pv:Nat->St->Hp->Prop)(h0:Pv 0 σ H)(hl:∀i σ H,i<=xs.length->Pv i σ H->SqL K H a xs)
  (hs:∀i x σ H,xs[i]? =B' x->Pv i σ H->g x σ H λσ2 H2=>tb {D with nx:=Pv<|i+1,ct:=Pv<|i+1,bk:=D.nx} σ2 H2) (hd:∀σ H,Pv xs.length σ H->D.nx σ H):
  ∃W:Nat->Nat->St->Hp->Prop,(∃m,W 0 m σ H)/\∀i m σ H,W i m σ H->
   ((wO K a).stop i H/\D.nx σ H)\/((wO K a).go i H/\∃N:St->Hp->Prop,(∀σ' H',N σ' H'->∃m',m' < m/\W (i+1) m' σ' H')/\∀x H',(wO K a).yld i H x H'->g x σ H' λσ2 H2=>tb {D with nx:=N,ct:=N,bk:=D.nx} σ2 H2):=by
 exists λi m σ H=>m=xs.length - i/\i<=xs.length/\Pv i σ H,⟨xs.length,by simp,JQ _,h0⟩;rintro i m σ H ⟨rfl,hi,p⟩;have q:=hl i σ H hi p;by_cases NJ:i < xs.length
 ·refine .inr ⟨⟨xs,xs[i],q,by simp [NJ]⟩,Pv<|i+1,λσ' H' p'=>⟨xs.length - (i+1),by lia,rfl,NJ,p'⟩,λx H' y=>?_⟩;obtain⟨e,y⟩:=y;subst e;exact hs i x σ _ (y xs q) p
 ·have e:i=xs.length:=by lia
  subst e;exact .inl ⟨⟨xs,q,Jh _⟩,hd σ H p⟩
def s_{K:IZ}{g:TG}{tb:TS}{D:gj}(Pv:Nat->St->Hp->Prop)(h0:Pv 0 σ H)(hl:∀i σ H,i<=xs.length->Pv i σ H->SqT K H a xs)
  (hs:∀i x σ H,xs[i]? =B' x->Pv i σ H->g x σ H λσ2 H2=>tb {D with nx:=Pv<|i+1,ct:=Pv<|i+1,bk:=D.nx} σ2 H2) (hd:∀σ H,Pv xs.length σ H->D.nx σ H):
  ∃W:Nat->Nat->St->Hp->Prop,(∃m,W 0 m σ H)/\∀i m σ H,W i m σ H->
   ((DN K a).stop i H/\D.nx σ H)\/((DN K a).go i H/\∃N:St->Hp->Prop,(∀σ' H',N σ' H'->∃m',m' < m/\W (i+1) m' σ' H')/\∀x H',(DN K a).yld i H x H'->g x σ H' λσ2 H2=>tb {D with nx:=N,ct:=N,bk:=D.nx} σ2 H2):=by
 exists λi m σ H=>m=xs.length - i/\i<=xs.length/\Pv i σ H,⟨xs.length,by simp,JQ _,h0⟩;rintro i m σ H ⟨rfl,hi,p⟩;have q:=hl i σ H hi p;by_cases NJ:i < xs.length
 ·refine .inr ⟨⟨xs,xs[i],q,by simp [NJ]⟩,Pv<|i+1,λσ' H' p'=>⟨xs.length - (i+1),by lia,rfl,NJ,p'⟩,λx H' y=>?_⟩;obtain⟨e,y⟩:=y;subst e;exact hs i x σ _ (y xs q) p
 ·have e:i=xs.length:=by lia
  subst e;exact .inl ⟨⟨xs,q,Jh _⟩,hd σ H p⟩
def eh{lo:Int}{n:Nat}{g:TG}{tb:TS}{D:gj}(Pv:Nat->St->Hp->Prop)(h0:Pv 0 σ H)
  (hs:∀i σ H,i < n->Pv i σ H->g (.int<|lo+i) σ H λσ2 H2=>tb {D with nx:=Pv<|i+1,ct:=Pv<|i+1,bk:=D.nx} σ2 H2) (hd:∀σ H,Pv n σ H->D.nx σ H):
  ∃W:Nat->Nat->St->Hp->Prop,(∃m,W 0 m σ H)/\∀i m σ H,W i m σ H->
   ((Cq lo n).stop i H/\D.nx σ H)\/((Cq lo n).go i H/\∃N:St->Hp->Prop,(∀σ' H',N σ' H'->∃m',m' < m/\W (i+1) m' σ' H')/\∀x H',(Cq lo n).yld i H x H'->g x σ H' λσ2 H2=>tb {D with nx:=N,ct:=N,bk:=D.nx} σ2 H2):=by
 exists λi m σ H=>m=n - i/\i<=n/\Pv i σ H,⟨n,by simp,JQ _,h0⟩;rintro i m σ H ⟨rfl,hi,p⟩;by_cases NJ:i < n
 ·refine .inr ⟨NJ,Pv<|i+1,λσ' H' p'=>⟨n - (i+1),by lia,rfl,NJ,p'⟩,λx H' y=>?_⟩;obtain⟨e,y⟩:=y;subst e y;exact hs i σ _ NJ p
 ·have e:i=n:=by lia
  subst e;exact .inl ⟨Jh _,hd σ H p⟩
abbrev R2:=V->V->Hp->VK->Prop
def OpR(X:Cx)(f:IX->IX->Sem IX)(r:R2):Prop:=
 ∀(Jf:IW (I_×Obj)) (s:Ja) (σ:St) (H:Hp) (x y:V) (v u:IX) (Q:VK),Inv X Jf σ H s->RelV x v->RelV y u->r x y H Q->
  wpAny (JS X.prog X.w) X.A (f v u) (EP X Jf σ Q) X.xe s
def HS(X:Cx)(f:IX->Sem IX)(r:V->Hp->VK->Prop):Prop:=
 ∀(Jf:IW (I_×Obj)) (s:Ja) (σ:St) (H:Hp) (x:V) (v:IX) (Q:VK),Inv X Jf σ H s->RelV x v->r x H Q->
  wpAny (JS X.prog X.w) X.A (f v) (EP X Jf σ Q) X.xe s
def dY(X:Cx)(f:IX)(r:IW V->Hp->VK->Prop):Prop:=
 ∀(Jf:IW (I_×Obj)) (s:Ja) (σ:St) (H:Hp) (xs:IW V) (us:IW IX) (Q:VK),Inv X Jf σ H s->Vals xs us->r xs H Q->
  wpAny (JS X.prog X.w) X.A (call f us) (EP X Jf σ Q) X.xe s
def mw(r:R2)(ta tb:TE):TE:=λσ H Q=>ta σ H λx H1=>tb σ H1 λy H2=>r x y H2 Q
def IN(r:V->Hp->VK->Prop)(ta:TE):TE:=λσ H Q=>ta σ H λx H1=>r x H1 Q
inductive Ix (C:Int->Int->Prop)(g:Int->Int->V)(x y:V)(H:Hp)(Q:VK):Prop
 |mk (i j:Int)(hx:x=.int i)(hy:y=.int j)(c:C i j)(q:Q (g i j) H):Ix C g x y H Q
inductive Iy (g:Int->Int->V)(x y:V)(H:Hp)(Q:VK):Prop
 |mk (i j:Int)(hx:x=.int i)(hy:y=.int j)(q:Q (g i j) H):Iy g x y H Q
inductive Iz (g:Int->V)(x:V)(H:Hp)(Q:VK):Prop
 |mk (i:Int)(hx:x=.int i)(q:Q (g i) H):Iz g x H Q
def rI(C:Int->Int->Prop)(g:Int->Int->V):R2:=λx y H Q=>Ix C g x y H Q
def Aw(g:Int->Int->V):R2:=λx y H Q=>Iy g x y H Q
def rU(g:Int->V):V->Hp->VK->Prop:=λx H Q=>Iz g x H Q
def DO(ha:PE X a ta)(hb:PE X b tb){R:V->V->Hp->Prop}(I:Inv X Jf σ H s)
  (h:ta σ H λx H1=>tb σ H1 λy H2=>R x y H2) {Q:IX->Ja->Prop} {f:IX->IX->Sem IX}
  (hf:∀v u s2 x y H2,Inv X Jf σ H2 s2->RelV x v->RelV y u->R x y H2->wpAny (JS X.prog X.w) X.A (f v u) Q X.xe s2):
  wpAny (JS X.prog X.w) X.A (MC a X.env) (λv s₁=>wpAny (JS X.prog X.w) X.A (MC b X.env) (λu s₂=>wpAny (JS X.prog X.w) X.A (f v u) Q X.xe s₂) X.xe s₁) X.xe s:=by
 refine bV (ha Jf s σ H _ I h) λv s1 ⟨x,H1,I1,r1,q1⟩=>?_;refine bV (hb Jf s1 σ H1 _ I1 q1) λu s2 ⟨y,H2,I2,r2,q2⟩=>?_;exact hf v u s2 x y H2 I2 r1 r2 q2
def aI(ho:OpR X (Ot op) r)(ha:PE X a ta)(hb:PE X b tb):PE X (.BinOp a op b pos) (mw r ta tb):=by
 intro Jf s σ H Q I h;exact wpAny_BinOp<|DO ha hb I h λv u s2 x y H2 I2 rx ry q=>ho Jf s2 σ H2 x y v u Q I2 rx ry q
def cp(ho:HS X (unaryOp op) r)(ha:PE X a ta):PE X (.UnaryOp op a pos) (IN r ta):=by
 intro Jf s σ H Q I h;exact UnaryOp_<|bV (ha Jf s σ H _ I h) λv s1 ⟨x,H1,I1,r1,q1⟩=>ho Jf s1 σ H1 x v Q I1 r1 q1
def Hv{f:IX->IX->Sem IX}{C:Int->Int->Prop}{g:Int->Int->Int}
  (rule:∀i j t u s Q E,C i j->Q (.int (g i j) s.toks) {s with toks:=s.toks+1}->wpAny (JS X.prog X.w) X.A (f (.int i t)<|.int j u) Q E s):
  OpR X f (rI C λi j=>.int<|g i j):=by
 intro Jf s σ H x y v u Q I rx ry h;obtain⟨i,j,rfl,rfl,hc,q⟩:=h;obtain⟨t,rfl⟩:=rx;obtain⟨t',rfl⟩:=ry;exact rule i j t t' s _ _ hc ⟨.int<|g i j,H,I.tok _,⟨_,rfl⟩,q⟩
def DQ{f:IX->IX->Sem IX}{g:Int->Int->Int}
  (rule:∀i j t u s Q E,Q (.int (g i j) s.toks) {s with toks:=s.toks+1}->wpAny (JS X.prog X.w) X.A (f (.int i t)<|.int j u) Q E s):
  OpR X f (Aw λi j=>.int<|g i j):=by
 intro Jf s σ H x y v u Q I rx ry h;obtain⟨i,j,rfl,rfl,q⟩:=h;obtain⟨t,rfl⟩:=rx;obtain⟨t',rfl⟩:=ry;exact rule i j t t' s _ _ ⟨.int<|g i j,H,I.tok _,⟨_,rfl⟩,q⟩
def AD{f:IX->IX->Sem IX}{g:Int->Int->JJ}
  (rule:∀i j t u s Q E,Q (.bool<|g i j) s->wpAny (JS X.prog X.w) X.A (f (.int i t)<|.int j u) Q E s):
  OpR X f (Aw λi j=>.bl<|g i j):=by
 intro Jf s σ H x y v u Q I rx ry h;obtain⟨i,j,rfl,rfl,q⟩:=h;obtain⟨t,rfl⟩:=rx;obtain⟨t',rfl⟩:=ry;exact rule i j t t' s _ _ ⟨.bl<|g i j,H,I,rfl,q⟩
def FG(i j:Int):Prop:=0 < j/\j < 1073741824
def CMul(i j:Int):Prop:=(-(2 ^ 64) < i/\i < 2 ^ 64)\/(-(2 ^ 64) < j/\j < 2 ^ 64)
def CMul.ok(h:CMul i j):IntMulOk i j:=by
 obtain⟨h1,h2⟩|⟨h1,h2⟩:=h
 ·exact .of_left<|XT h1 h2
 ·exact .of_right<|XT h1 h2
def rn(k:Nat):(0:Int)<=2 ^ k:=by
 rw[two_pow_cast];exact Int.natCast_nonneg _
def cJ:OpR X (Ot .Add) (Aw λi j=>.int<|i+j):=DQ λ_ _ _ _ _ _ _ q=>add_int q
def fj:OpR X (Ot .Sub) (Aw λi j=>.int<|i - j):=DQ λ_ _ _ _ _ _ _ q=>sub_int q
def fS:OpR X (Ot .Mult) (rI CMul λi j=>.int<|i*j):=Hv λ_ _ _ _ _ _ _ hc q=>mul_int q hc.ok
def c7:OpR X (Ot .FloorDiv) (rI FG λi j=>.int<|i / j):=Hv λi j _ _ _ _ _ hc q=>by
 have h1:(0:Int) < j:=hc.1;have h2:j < 1073741824:=hc.2;exact floordiv_int (by lia) (by rw[Rc i<|by lia];exact q) (.inl<|Ss<|by lia)
def bC:OpR X (Ot .Mod) (rI (λ_ j=>0 < j) λi j=>.int<|i % j):=Hv λi j _ _ _ _ _ hc q=>by
 have h1:(0:Int) < j:=hc;exact mod_int' (by lia) (by rw[Int.fmod_eq_emod_of_nonneg i<|by lia];exact q)
def DR:OpR X (Ot .RShift) (rI (λ_ j=>0<=j) λi j=>.int<|i / 2 ^ j.toNat):=Hv λi j _ _ _ _ _ hc q=>
 rshift_int hc (by rw[Rc i<|rn _];exact q)
def DS:OpR X (Ot .BitAnd) (Aw λi j=>.int<|Tp i j):=DQ λ_ _ _ _ _ _ _ q=>and_int q
def IO{f:IX->Sem IX}{g:Int->Int}
  (rule:∀i t s Q E,Q (.int (g i) s.toks) {s with toks:=s.toks+1}->wpAny (JS X.prog X.w) X.A (f<|.int i t) Q E s):
  HS X f (rU λi=>.int<|g i):=by
 intro Jf s σ H x v Q I rx h;obtain⟨i,rfl,q⟩:=h;obtain⟨t,rfl⟩:=rx;exact rule i t s _ _ ⟨.int<|g i,H,I.tok _,⟨_,rfl⟩,q⟩
def bD:HS X (unaryOp .USub) (rU λi=>.int (-i)):=IO λ_ _ _ _ _ q=>neg_int q
def FH:V->V->JJ
 |.non,.non=>Je|.non,.int _=>Je|.int _,.non=>Je|.non,.bl _=>Je|.bl _,.non=>Je|.non,.str _=>Je|.str _,.non=>Je
 |.int _,.int _=>Je|.bl _,.bl _=>Je|.str _,.str _=>Je|.byt _,.byt _=>Je
 |.int _,.str _=>Je|.str _,.int _=>Je|.bl _,.str _=>Je|.str _,.bl _=>Je
 |_,_=>Jg
def HU:R2:=λx y H Q=>FH x y=Je/\Q (.bl (decide (x=y))) H
def HV:R2:=λx y H Q=>FH x y=Je/\Q (.bl (!decide (x=y))) H
def tf:decide (V.int i=V.int j)=(i == j):=by
 rw[Mc];simp
def dec_bl:decide (V.bl i=V.bl j)=(i == j):=by
 rw[Mc];simp
def tm:decide (V.str i=V.str j)=(i == j):=by
 rw[Mc];simp
def tu:decide (V.byt i=V.byt j)=(i.toList == j.toList):=by
 rw[Mc];cases i;cases j;simp
def bv(I:Inv X Jf σ H s)(q:Q (.bl k) H)(e:k=k'):EP X Jf σ Q (.bool k') s:=by
 subst e;exact⟨.bl k,H,I,rfl,q⟩
def FI:OpR X (Ls .Eq) HU:=by
 intro Jf s σ H x y v u Q I rx ry h;obtain⟨hs,q⟩:=h;cases x with
 |non=>
  cases rx;cases y with
  |non=>cases ry;exact XA (bv I q<|by simp)
  |bl j=>cases ry;exact XB (bv I q<|by simp)
  |int j=>obtain⟨t',rfl⟩:=ry;exact X8 (bv I q<|by simp)
  |str j=>obtain⟨t',rfl⟩:=ry;exact X7 (bv I q<|by simp)
  |_=>exact absurd (show Jg=Je from hs) JR
 |bl i=>
  cases rx;cases y with
  |non=>cases ry;exact XC (bv I q<|by simp)
  |bl j=>cases ry;exact eq_bool<|bv I q dec_bl
  |str j=>obtain⟨t',rfl⟩:=ry;exact XG (bv I q<|by simp)
  |_=>exact absurd (show Jg=Je from hs) JR
 |int i=>
  obtain⟨t,rfl⟩:=rx;cases y with
  |non=>cases ry;exact X9 (bv I q<|by simp)
  |int j=>obtain⟨t',rfl⟩:=ry;exact eq_int<|bv I q tf
  |str j=>obtain⟨t',rfl⟩:=ry;exact Yc (bv I q<|by simp)
  |_=>exact absurd (show Jg=Je from hs) JR
 |str i=>
  obtain⟨t,rfl⟩:=rx;cases y with
  |non=>cases ry;exact X6 (bv I q<|by simp)
  |bl j=>cases ry;exact XF (bv I q<|by simp)
  |int j=>obtain⟨t',rfl⟩:=ry;exact Yb (bv I q<|by simp)
  |str j=>obtain⟨t',rfl⟩:=ry;exact eq_str<|bv I q tm
  |_=>exact absurd (show Jg=Je from hs) JR
 |byt i=>
  obtain⟨t,rfl⟩:=rx;cases y with
  |byt j=>obtain⟨t',rfl⟩:=ry;exact PySem.W.eq_bytes<|bv I q tu
  |_=>exact absurd (show Jg=Je from hs) JR
 |_=>cases y<;>exact absurd (show Jg=Je from hs) JR
def FJ:OpR X (Ls .NotEq) HV:=by
 intro Jf s σ H x y v u Q I rx ry h;obtain⟨hs,q⟩:=h;cases x with
 |non=>
  cases rx;cases y with
  |non=>cases ry;exact Xx (bv I q<|by simp)
  |bl j=>cases ry;exact Xy (bv I q<|by simp)
  |int j=>obtain⟨t',rfl⟩:=ry;exact X4 (bv I q<|by simp)
  |str j=>obtain⟨t',rfl⟩:=ry;exact X0 (bv I q<|by simp)
  |_=>exact absurd (show Jg=Je from hs) JR
 |bl i=>
  cases rx;cases y with
  |non=>cases ry;exact Xz (bv I q<|by simp)
  |bl j=>cases ry;exact ne_bool<|bv I q<|LU not dec_bl
  |str j=>obtain⟨t',rfl⟩:=ry;exact XE (bv I q<|by simp)
  |_=>exact absurd (show Jg=Je from hs) JR
 |int i=>
  obtain⟨t,rfl⟩:=rx;cases y with
  |non=>cases ry;exact X5 (bv I q<|by simp)
  |int j=>obtain⟨t',rfl⟩:=ry;exact ne_int<|bv I q<|LU not tf
  |str j=>obtain⟨t',rfl⟩:=ry;exact X' (bv I q<|by simp)
  |_=>exact absurd (show Jg=Je from hs) JR
 |str i=>
  obtain⟨t,rfl⟩:=rx;cases y with
  |non=>cases ry;exact XZ (bv I q<|by simp)
  |bl j=>cases ry;exact XD (bv I q<|by simp)
  |int j=>obtain⟨t',rfl⟩:=ry;exact X_ (bv I q<|by simp)
  |str j=>obtain⟨t',rfl⟩:=ry;exact ne_str<|bv I q<|LU not tm
  |_=>exact absurd (show Jg=Je from hs) JR
 |byt i=>
  obtain⟨t,rfl⟩:=rx;cases y with
  |byt j=>obtain⟨t',rfl⟩:=ry;exact PySem.W.ne_bytes<|bv I q<|LU not tu
  |_=>exact absurd (show Jg=Je from hs) JR
 |_=>cases y<;>exact absurd (show Jg=Je from hs) JR
def mH:OpR X (Ls .Lt) (Aw λi j=>.bl (decide (i < j))):=AD λ_ _ _ _ _ _ _ q=>lt_int q
def kW:OpR X (Ls .LtE) (Aw λi j=>.bl (decide (i<=j))):=AD λ_ _ _ _ _ _ _ q=>le_int q
def mI:OpR X (Ls .Gt) (Aw λi j=>.bl (decide (j < i))):=AD λ_ _ _ _ _ _ _ q=>gt_int q
def FK:OpR X (Ls .GtE) (Aw λi j=>.bl (decide (j<=i))):=AD λ_ _ _ _ _ _ _ q=>ge_int q
def rp:OpR X (Ls .Is) (λx y H Q=>y=.non/\Q (.bl (decide (x=.non))) H):=by
 intro Jf s σ H x y v u Q I rx ry h;obtain⟨rfl,q⟩:=h;cases ry;refine is_none_gen<|bv I q ?_;cases x<;>first
  |(cases rx;rfl)
  |(obtain⟨t,rfl⟩:=rx;rfl)
def iN:OpR X (Ls .IsNot) (λx y H Q=>y=.non/\Q (.bl (!decide (x=.non))) H):=by
 intro Jf s σ H x y v u Q I rx ry h;obtain⟨rfl,q⟩:=h;cases ry;refine isnot_none_gen<|bv I q ?_;cases x<;>first
  |(cases rx;rfl)
  |(obtain⟨t,rfl⟩:=rx;rfl)
def OpR.or(h:OpR X f r)(h':OpR X f r'):OpR X f (λx y H Q=>r x y H Q\/r' x y H Q):=by
 intro Jf s σ H x y v u Q I rx ry q;obtain q|q:=q
 ·exact h Jf s σ H x y v u Q I rx ry q
 ·exact h' Jf s σ H x y v u Q I rx ry q
def aA(b:KJ)(h:op≠.In:=by decide)(h2:op≠.NotIn:=by decide):Qj op b=false:=by
 have e1:(op == CmpOp.In)=false:=by cases op<;>first|rfl|exact absurd rfl h
 have e2:(op == CmpOp.NotIn)=false:=by cases op<;>first|rfl|exact absurd rfl h2
 cases b<;>simp [Qj,e1,e2]
def eF(ho:OpR X (Ls op) r)(ha:PE X a ta)(hb:PE X b tb)(hm:Qj op b=Jg):PE X (.Compare a [op] [b] pos) (mw r ta tb):=by
 intro Jf s σ H Q I h;exact wpAny_Compare1 (DO ha hb I h λv u s2 x y H2 I2 rx ry q=>ho Jf s2 σ H2 x y v u Q I2 rx ry q) hm
def jQ(t:TE):TT:=λσ H Q=>t σ H λx H'=>DJ x Q H'
def aq(ho:OpR X (Ls op) r)(ha:PE X a ta)(hb:PE X b tb)(hm:Qj op b=Jg):PT X (.Compare a [op] [b] pos) (jQ<|mw r ta tb):=by
 intro Jf s σ H Q I h;refine SV (bV (ha Jf s σ H _ I h) λv s1 ⟨x,H1,I1,r1,q1⟩=>bV (hb Jf s1 σ H1 _ I1 q1) λu s2 ⟨y,H2,I2,r2,q2⟩=>
  bV (ho Jf s2 σ H2 x y v u _ I2 r1 r2 q2) λc s3 ⟨z,H3,I3,r3,k,e,q3⟩=>?_) hm
 subst e;cases r3;exact LV ⟨H3,I3,q3⟩
def wP(r r':R2)(ta tb tc:TE):TE:=λσ H Q=>ta σ H λx H1=>tb σ H1 λy H2=>r x y H2 λz H3=>∃k,z=.bl k/\
 (if k=Je then tc σ H3 λw' H4=>r' y w' H4 Q else Q (.bl Jg) H3)
def wQ(ho:OpR X (Ls op) r)(ho':OpR X (Ls op') r')(ha:PE X a ta)(hb:PE X b tb)(hc:PE X c tc)
  (hm:lastMarks [op,op'] [b,c]=false:=by with_unfolding_all rfl):PE X (.Compare a [op,op'] [b,c] pos) (wP r r' ta tb tc):=by
 intro Jf s σ H Q I h;refine Compare_chain (bV (ha Jf s σ H _ I h) λv s1 ⟨x,H1,I1,r1,q1⟩=>chain_link (bV (hb Jf s1 σ H1 _ I1 q1) λu s2 ⟨y,H2,I2,r2,q2⟩=>
  bV (ho Jf s2 σ H2 x y v u _ I2 r1 r2 q2) λd s3 ⟨z,H3,I3,r3,k,e,q3⟩=>?_)) hm
 subst e;cases r3;refine LV ?_;cases k with
 |false=>exact ite_ff ⟨.bl Jg,H3,I3,rfl,q3⟩
 |true=>exact ite_tt<|chain_last<|bV (hc Jf s3 σ H3 _ I3 q3) λw' s4 ⟨z',H4,I4,r4,q4⟩=>ho' Jf s4 σ H4 y z' u w' Q I4 r2 r4 q4
def pO(ho:OpR X (Ls op) r)(ho':OpR X (Ls op') r')(ha:PE X a ta)(hb:PE X b tb)(hc:PE X c tc)
  (hm:lastMarks [op,op'] [b,c]=false:=by with_unfolding_all rfl):PT X (.Compare a [op,op'] [b,c] pos) (jQ<|wP r r' ta tb tc):=by
 intro Jf s σ H Q I h;refine isTrue_chain (bV (ha Jf s σ H _ I h) λv s1 ⟨x,H1,I1,r1,q1⟩=>test_link (bV (hb Jf s1 σ H1 _ I1 q1) λu s2 ⟨y,H2,I2,r2,q2⟩=>
  bV (ho Jf s2 σ H2 x y v u _ I2 r1 r2 q2) λd s3 ⟨z,H3,I3,r3,k,e,q3⟩=>?_)) hm
 subst e;cases r3;refine LV ?_;cases k with
 |false=>
  obtain⟨k',e',q'⟩:=q3;cases e';exact ite_ff ⟨H3,I3,q'⟩
 |true=>
  refine ite_tt<|test_last<|bV (hc Jf s3 σ H3 _ I3 q3) λw' s4 ⟨z',H4,I4,r4,q4⟩=>bV (ho' Jf s4 σ H4 y z' u w' _ I4 r2 r4 q4) λd' s5 ⟨z2,H5,I5,r5,k2,e2,q5⟩=>?_;subst e2;cases r5;exact LV ⟨H5,I5,q5⟩
def kX:(sizeLine:Nat) < 2 ^ 63:=by rw[Lf];decide
def fk(r:Vals [x] us):∃u,us=[u]/\RelV x u:=by
 cases r with
 |cons r1 r2=>cases r2;exact⟨_,rfl,r1⟩
def tz(r:Vals [x,y] us):∃u w',us=[u,w']/\RelV x u/\RelV y w':=by
 cases r with
 |cons r1 r2=>
  cases r2 with
  |cons r3 r4=>cases r4;exact⟨_,_,rfl,r1,r3⟩
def bW:dY X (.builtin "abs") (λxs H Q=>∃i,xs=[.int i]/\Q (.int (if i < 0 then -i else i)) H):=by
 intro Jf s σ H xs us Q I r h;obtain⟨i,rfl,q⟩:=h;obtain⟨u,rfl,t,rfl⟩:=fk r;exact Uk λu tk=>⟨.int (if i < 0 then -i else i),H,I.tok _,⟨_,rfl⟩,q⟩
def HW(K:IZ)(x:V)(H:Hp)(n:Nat):Prop:=
 match x with
 |.str y=>y.length<=sizeLine/\n=y.length
 |.byt y=>y.size<=sizeLine/\n=y.size
 |.ref p=>(∃xs,SqL K H p xs/\n=xs.length)\/∃xs,SqT K H p xs/\n=xs.length
 |_=>False
inductive AE (K:IZ)(xs:IW V)(H:Hp)(Q:VK):Prop
 |mk (x:V)(n:Nat)(h:xs=[x])(l:HW K x H n)(q:Q (.int n) H):AE K xs H Q
def bh:dY X (.builtin "len") (AE X.K):=by
 intro Jf s σ H xs us Q I r h;obtain⟨x,n,rfl,e,q⟩:=h;obtain⟨u,rfl,rx⟩:=fk r;have hl:=kX;have hs:sizeLine=16777216:=Lf;cases x with
 |str y=>
  obtain⟨t,rfl⟩:=rx;obtain⟨hy,e'⟩:y.length<=sizeLine/\n=y.length:=e;subst e';exact len_str (by lia) ⟨.int _,H,I.tok _,⟨_,rfl⟩,q⟩
 |byt y=>
  obtain⟨t,rfl⟩:=rx;obtain⟨hy,e'⟩:y.size<=sizeLine/\n=y.size:=e;subst e';exact PySem.W.len_bytes (by lia) ⟨.int _,H,I.tok _,⟨_,rfl⟩,q⟩
 |ref p=>
  cases rx;have e':(∃xs,SqL X.K H p xs/\n=xs.length)\/∃xs,SqT X.K H p xs/\n=xs.length:=e;obtain⟨xs,hx,e'⟩|⟨xs,hx,e'⟩:=e'
  ·subst e';obtain⟨Lj,r',pl,hz⟩:=I.list hx;have L_:=r'.length;exact Calls.call_len_list pl.isList (by simp only [JH];lia) ⟨.int xs.length,H,I.tok _,⟨_,by simp only [JH];rw[L_]⟩,q⟩
  ·subst e';obtain⟨Lj,r',pl,hz⟩:=I.tuple hx;have L_:=r'.length;exact len_tuple pl (by simp only [JH];lia) ⟨.int xs.length,H,I.tok _,⟨_,by simp only [JH];rw[L_]⟩,q⟩
 |_=>exact(show False from e).elim
structure ObjM (h:J6)(x dx C:I_)(mA:Str->Jd IX):Prop where
 obj:h.get? x=B' (SQ C dx)
 ns:h.Ns1 dx mA
 ne:dx≠x
def ve{h:J6}{dx:I_}{mA:Str->Jd IX}(n:h.Ns1 dx mA):∃od,h.get? dx=B' od/\∀name,Td name od=B' (mA name):=by
 obtain⟨o,es,ep,ho,hd,hk,_,hm⟩:=n;refine⟨o,ho,λname=>?_⟩;have e:=hm name;unfold nsFind findBy at e;rw[<-UV]at e;unfold Td;rw[hd];dsimp only
 split
 ·rename_i y q;rw[q]at e;exact LU B' e
 ·rename_i q;rw[q]at e;have a:es.toList.any (·.refKey)=false:=by
   rw[List.any_eq_false];intro y hy;obtain⟨z,t,QV⟩:=hk y<|NZ.mp hy;simp [aa1,QV]
  have a':¬es.toList.any (·.refKey)=true:=by rw[a];exact JR
  rw[JK a'];exact LU B' e
def ObjM.look(I:ObjM h x dx C mA):∃od,PySem.W.InstAt h x (SQ C dx) C (B' od)/\∀name,Td name od=B' (mA name):=
 let ⟨od,ho,hl⟩:=ve I.ns
 ⟨od,⟨I.obj,rfl,rfl,ho⟩,hl⟩
def RelO.some_of(r:RelO (B' v) o):∃u,o=B' u/\RelV v u:=by
 cases o with
 |none=>exact(show False from r).elim
 |some u=>exact⟨u,rfl,r⟩
def RelO.none_of(r:RelO Ji o):o=none:=by grind[RelO]
def ins_get(hok:HOk P w H h)(e:H a=B' (.ins C dx fs)):∃mA,ObjM h a dx C mA/\(∀f,RelO (fs.lookup f)<|mA f)/\YO mA (fs.map (·.1))/\fs.length<=1000/\H dx=B' (.own a):=by
 obtain⟨d,z,ne,ob,mA,n,r,q⟩:=(show ObjOk P w H h a (.ins C dx fs)from hok a _ e);exact⟨mA,⟨ob,n,ne⟩,r,q,z,d⟩
structure Cls (K:IZ)(C:I_):Prop where
 pg:VR K C Yt=Je
 hd:NP K C=Je
 po:PySem.W.plainOver K C=Je
 sa:KG K (.ref C) "__setattr__"=B' (B'<|.builtin "object.__setattr__")
def Cls.get{K:IZ}(c:Cls K C)(f:Str):VR K C f=true:=c.pg
def AF{prog:Js}{w:JV}{pos:Pos}{s:Ja}{Q:IX->Ja->Prop}(hb:RH e f env (MC e env)=MC e env)
  (h:wpAny (JS prog w) A (MC e env) (λo s₁=>wpAny (JS prog w) A (getAttr o f Je) Q E s₁) E s):wpAny (JS prog w) A (MC (.Attribute e f pos) env) Q E s:=
 Attribute_any_ h (by rw[arm_eval_Attribute,hb])
inductive iO (K:IZ)(H:Hp):V->IX->Prop where
 |non:iO K H .non (.type "NoneType")
 |bl (x:JJ):iO K H (.bl x) (.type "bool")
 |int (i:Int):iO K H (.int i) (.type "int")
 |str (x:Str):iO K H (.str x) (.type "str")
 |flt (x:UInt64):iO K H (.flt x) (.type "float")
 |lst {a:I_} {xs:IW V} (e:H a=B' (.lst xs)):iO K H (.ref a) (.type "list")
 |frz {a:I_} {o:Obj} {xs:IW V} (e:H a=B' (.frz o<|.lst xs)):iO K H (.ref a) (.type "list")
 |tup {a:I_} {xs:IW V} (e:H a=B' (.tup xs)):iO K H (.ref a) (.type "tuple")
 |dK {a:I_} {kvs:IW (bz×V)} (e:H a=B' (.dK kvs)):iO K H (.ref a) (.type "dict")
 |dT {a:I_} {kvs:IW (IW bz×V)} (e:H a=B' (.dT kvs)):iO K H (.ref a) (.type "dict")
 |ins {a C dx:I_} {fs:IW (Str×V)} (e:H a=B' (.ins C dx fs)) (cl:Cls K C) (ha:KG K (.ref C) "__class__"=B' (B'<|.builtin "object.__class__"))
   (hn:Rt K (.builtin "object.__class__") "__get__"=B' (B'<|.builtin "getset_descriptor.__get__")) (Xu:PySem.W.takesIn K (.builtin "object.__class__")=B' Je)
   (hm:J5 K C (.type "object")=B' Je):iO K H (.ref a) (.ref C)
def vf(I:Inv X Jf σ H s)(rx:RelV x u)(ty:iO X.K H x t)(e:JM X.K t c=B' b)(h:∀tk,Q (.bool b) {s with toks:=tk}):
  wpAny (JS X.prog X.w) A (call (.builtin "isinstance") [u,c]) Q E s:=by
 cases ty with
 |non=>cases(show u=NB from rx);exact LL PySem.W.kitx_none I.kIn MA e (λz=>nomatch z) h
 |bl y=>cases(show u=Xd y from rx);exact LL PySem.W.kitx_bool I.kIn MA e (λz=>nomatch z) h
 |int i=>obtain⟨t,q⟩:=(show∃t,u=Ob i t from rx);cases q;exact LL PySem.W.kitx_int I.kIn MA e (λz=>nomatch z) h
 |str y=>obtain⟨t,q⟩:=(show∃t,u=VY y t from rx);cases q;exact LL PySem.W.kitx_str I.kIn MA e (λz=>nomatch z) h
 |flt y=>obtain⟨t,q⟩:=(show∃t,u=Zp y t from rx);cases q;exact LL PySem.W.kitx_float I.kIn MA e (λz=>nomatch z) h
 |@lst a xs ea=>
  cases(show u=Kb a from rx);obtain⟨_,_,n,_,h1⟩:=(show ObjOk X.prog X.w H s.heap a (.lst xs)from I.hok a _ ea);exact LL Vd I.kIn ⟨_,h1,rfl⟩ e (λz=>nomatch z) h
 |@frz a ob xs ea=>
  cases(show u=Kb a from rx);obtain⟨_,_,_,n,_,h1⟩:=(show ObjOk X.prog X.w H s.heap a (.frz ob<|.lst xs)from I.hok a _ ea);exact LL Vd I.kIn ⟨_,h1,rfl⟩ e (λz=>nomatch z) h
 |@tup a xs ea=>
  cases(show u=Kb a from rx);obtain⟨_,_,_,p⟩:=(show ObjOk X.prog X.w H s.heap a (.tup xs)from I.hok a _ ea);obtain⟨o,h1,h2,_⟩:=p;exact LL PySem.W.kitx_tuple I.kIn ⟨o,h1,h2⟩ e (λz=>nomatch z) h
 |@dK a kvs ea=>
  cases(show u=Kb a from rx);obtain⟨_,_,vs,_,p⟩:=(show ObjOk X.prog X.w H s.heap a (.dK kvs)from I.hok a _ ea);obtain⟨o,es,ep,h1,h2,_⟩:=p;exact LL Ve I.kIn ⟨o,h1,h2.1⟩ e (λz=>nomatch z) h
 |@dT a kvs ea=>
  cases(show u=Kb a from rx);obtain⟨_,_,xs,_,o,es,ep,h1,h2,_⟩:=(show ObjOk X.prog X.w H s.heap a (.dT kvs)from I.hok a _ ea);exact LL Ve I.kIn ⟨o,h1,h2.1⟩ e (λz=>nomatch z) h
 |@ins a C dx fs ea cl ha hn Xu hm=>
  cases(show u=Kb a from rx);obtain⟨mA,O,_⟩:=ins_get I.hok ea;obtain⟨od,J,_⟩:=O.look;exact LL (PySem.W.kitx_own (cl.get _) cl.hd ha hn Xu hm) I.kIn J e (λz=>nomatch z) h
structure Room (k:Nat)(A:J8):Prop where
 hd:A.handled=Ji
 dp:A.depth+3*k+5 < W2
 un:A.units+16*k+200 < MZ
def Room.mono(r:Room k A)(h:j<=k):Room j A:=⟨r.hd,by have:=r.dp;lia,by have:=r.un;lia⟩
def Room.deeper(r:Room (k+1) A)(env:Env):Room k (A.deeper env):=
 ⟨r.hd,by have:=r.dp;show A.depth+1+3*k+5 < _;lia,by have:=r.un;show A.units+3+16*k+200 < _;lia⟩
def rq{A:J8}{C:I_}{us:IW IX}{kw:IW (Str×IX)}:(A.under<|.builtin "type.__call__" ⟨.ref C::us,kw⟩).depth=A.depth+1:=by
 first|rfl|simp [Vm,Code.weight,Code.isCreation,Code.isGuard,Code.isCaller,Zw,Vk,guardIds]
def rA{A:J8}{C:I_}{us:IW IX}{kw:IW (Str×IX)}:(A.under<|.builtin "type.__call__" ⟨.ref C::us,kw⟩).units=A.units+1:=by
 first|rfl|simp [Vm,Code.cUnits,Zw,Vk]
def Room.make(r:Room (k+1) A)(C:I_)(us:IW IX)(kw:IW (Str×IX)):Room k (A.under<|.builtin "type.__call__" ⟨.ref C::us,kw⟩):=
 ⟨r.hd,by have:=r.dp;rw[rq];lia,by have:=r.un;rw[rA];lia⟩
def Room.depth(r:Room k A):A.depth < W2:=by have:=r.dp;lia
def Room.units(r:Room k A):A.units+64 < MZ:=by have:=r.un;lia
def ke:TA:=λ_ H Q=>Q [] H
def pP(ta:TE)(tr:TA):TA:=λσ H Q=>ta σ H λx H1=>tr σ H1 λxs H2=>Q (x::xs) H2
def ae:PA X [] ke:=λ_ _ _ _ H Q I h=>Rw ⟨[],H,I,.nil,h⟩
def aa(ha:PE X e te)(hr:PA X es t)(hs:J3 (e::es) X.env=(Jg,MC e X.env)::J3 es X.env:=by rfl):PA X (e::es) (pP te t):=by
 intro pos Jf s σ H Q I h;rw[hs];show wpAny _ _ (YM<|(Jg,MC e X.env)::Nh pos (J3 es X.env)) _ _ s
 refine Pw<|bV (ha Jf s σ H _ I h) λu s1 ⟨x,H1,I1,r1,q1⟩=>?_;exact bV (hr pos Jf s1 σ H1 _ I1 q1) λus s2 ⟨xs,H2,I2,r2,q2⟩=>⟨x::xs,H2,I2,.cons r1 r2,q2⟩
def AG(t:TA):TE:=λσ H Q=>t σ H λxs H1=>xs.length<=sizeLine/\∀p,H1 p=Ji->Q (.ref p) (upd H1 p<|.tup xs)
def rB(t:TA):TE:=λσ H Q=>t σ H λxs H1=>xs.length<=sizeLine/\∀p,H1 p=Ji->Q (.ref p) (upd H1 p<|.lst xs)
def bf{x1}(h:PA X es t):PE X (.Tuple es x1 pos) (AG t):=by
 intro Jf s σ H Q I hq;refine wpAny_Tuple_spliced<|bV (h pos Jf s σ H _ I hq) λus s1 ⟨xs,H1,I1,r,z,q⟩=>⟨by rw[<-r.length];exact z,?_⟩;have hf:H1 s1.heap.objs.size=none:=I1.hok.fresh<|Jh _;refine⟨.ref s1.heap.objs.size,upd H1 s1.heap.objs.size<|.tup xs,I1.laid (t':=s1.toks) (λb u e=>Jb _ e) (Jh _) ?_,rfl,q _ hf⟩;exact⟨z,us,r,⟨_,JX _ rfl,rfl,_,rfl⟩⟩
def aP(h:PA X es t):PE X (.List es pos) (rB t):=by
 intro Jf s σ H Q I hq;refine wpAny_List_spliced<|bV (h pos Jf s σ H _ I hq) λus s1 ⟨xs,H1,I1,r,z,q⟩=>⟨by rw[<-r.length];exact z,?_⟩;have hf:H1 s1.heap.objs.size=none:=I1.hok.fresh<|Jh _;refine⟨.ref s1.heap.objs.size,upd H1 s1.heap.objs.size<|.lst xs,I1.laid (t':=s1.toks) (λb u e=>Jb _ e) (Jh _) ?_,rfl,q _ hf⟩;exact⟨z,us,0,r,JX _ rfl⟩
abbrev Sp:=IW V->Hp->VK->XK->Prop
abbrev tD:=IW Env->Hp->Ja->XK->IX->Ja->Prop
structure Env0 (P:Js)(w:JV)(K:IZ)(mg:Str->Jd IX)(base:J6)(A:J8)(outer:IW Env)(s:Ja)(H:Hp):Prop where
 frames:A.frames=B' outer
 mod:Mod K mg base
 bs:∀b o,base.get? b=B' o->s.heap.get? b=B' o/\H b=Ji
 bsz:base.objs.size<=s.heap.objs.size
 funs:s.heap.FunFrames base outer
 frf:∀b∈d9 outer,H b=Ji
 hok:HOk P w H s.heap
 bare:Qn s.gens
def CE(outer:IW Env)(P:Js)(w:JV)(H:Hp)(s:Ja)(Q:VK)(u:IX)(s':Ja):Prop:=
 ∃v H',s'.os=s.os/\Qn s'.gens/\Un (d9 outer) [] H H' s.heap s'.heap/\HOk P w H' s'.heap/\RelV v u/\Q v H'
def CR(CX:tD)(outer:IW Env)(P:Js)(w:JV)(H:Hp)(s:Ja)(Q:VK)(E:XK)(r:UG)(s':Ja):Prop:=
 match r with
 |.ok (.ret u)=>CE outer P w H s Q u s'
 |.ok _=>False
 |.error e=>CX outer H s E e s'
structure FnOk (P:Js)(w:JV)(K:IZ)(mg:Str->Jd IX)(base:J6)(CX:tD)(k:Nat)(f:I_)(fd:JP)(ps:IW Str)(sp:Sp):Prop where
 len:∀vs H Q E,sp vs H Q E->vs.length=ps.length
 run:∀(A:J8) (outer:IW Env) (s:Ja) (H:Hp) (args:Args) (us:IW IX) (vs:IW V) (Q:VK) (E:XK),Room k A->Env0 P w K mg base A outer s H->Vl s fd args (ps.zip us)->Vals vs us->sp vs H Q E->
  codeAny (JS P w) A (.call (.ref f) args) (CR CX outer P w H s Q E) s
def Env0.make{K:IZ}(e:Env0 P w K mg base A outer s H)(C:I_)(us:IW IX)(kw:IW (Str×IX)):
  Env0 P w K mg base (A.under<|.builtin "type.__call__" ⟨.ref C::us,kw⟩) outer s H:=⟨by first|exact e.frames|(simpa [Vm,Code.envs,Vk,pushEnvs]using e.frames),e.mod,e.bs,e.bsz,e.funs,e.frf,e.hok,e.bare⟩
def Inv.env0(I:Inv X Jf σ H s):Env0 X.prog X.w X.K X.mg X.base X.A X.stack s H:=
 ⟨I.ok.frames,I.ok.mod,I.bs,Lb I.ok.bsz I.sz,I.stack,I.stkFree,I.hok,I.bare⟩
def Inv.after(I:Inv X Jf σ H s)(h:CE X.stack X.prog X.w H s Q u s'):EP X Jf σ Q u s':=by
 obtain⟨v,H',os,bare,un,hok,r,q⟩:=h;obtain⟨hh,g,d,t,os'⟩:=s';obtain rfl:os'=s.os:=os;exact⟨v,H',I.call (h':=hh) (g':=g) (d':=d) (t':=t) (ch:=[]) un hok bare (λb z=>absurd z<|by simp),r,q⟩
def pQ(sp:Sp)(dvs:IW V)(E:XK)(t:TA):TE:=λσ H Q=>t σ H λvs H1=>sp (vs++dvs) H1 Q E
def Binds(K:IZ)(fd:JP)(ps:IW Str)(ds:IW IX):Prop:=
 ∀(s:Ja) (us:IW IX),K.In s.heap->(us++ds).length=ps.length->Vl s fd ⟨us,[]⟩ (ps.zip<|us++ds)
def Binds.all{K:IZ}(h:∀us,us.length=ps.length->RZ fd ⟨us,[]⟩=pure (ps.zip us)):Binds K fd ps []:=λs us _ hl=>by
 rw[KL]at hl ⊢;exact .of_eq<|h us hl
def kY(CX:tD)(X:Cx)(E:XK):Prop:=∀(Jf:IW (I_×Obj)) (σ:St) (H:Hp) (s:Ja) (e:IX) (s':Ja),Inv X Jf σ H s->CX X.stack H s E e s'->X.xe e s'
def DT{Jf:IW (I_×Obj)}{σ:St}{H:Hp}{s:Ja}{Q:VK}{us:IW IX}{vs:IW V}(F:FnOk X.prog X.w X.K X.mg X.base CX k f fd ps sp)(hr:Room k X.A)(hb:Binds X.K fd ps ds)(hd:Vals dvs ds)(hx:kY CX X E)
  (I:Inv X Jf σ H s) (r:Vals vs us) (h:sp (vs++dvs) H Q E):wpAny (JS X.prog X.w) X.A (call (.ref f) us) (EP X Jf σ Q) X.xe s:=by
 have r2:Vals (vs++dvs) (us++ds):=r.append hd;have hl:(us++ds).length=ps.length:=by rw[<-r2.length];exact F.len _ _ _ _ h
 refine Qa<|Oi (F.run X.A X.stack s H ⟨us,[]⟩ (us++ds) (vs++dvs) Q E hr I.env0 (hb s us I.kIn hl) r2 h) λr s' hq=>?_;cases r with
 |error e=>exact hx Jf σ H s e s' I hq
 |ok fl=>
  cases fl with
  |ret u=>exact I.after hq
  |next=>exact LJ hq
  |brk=>exact LJ hq
  |cont=>exact LJ hq
def oz(F:FnOk X.prog X.w X.K X.mg X.base CX k f fd ps sp)(hr:Room k X.A)(hg:Gl X x)(hm:X.mg x=B' (.ref f))(hk:Mn X.K (.ref f)=Je)(hb:Binds X.K fd ps ds)(hd:Vals dvs ds)(hx:kY CX X E)
  (ha:PA X (e::es) t) (YH:(x == ("__debug__":Str))=false:=by decide) (he:J3 (e::es) X.env=(Jg,MC e X.env)::J3 es X.env:=by rfl) (T4:(Nh pos<|J3 es X.env).any (·.1)=false:=by rfl):
  PE X (.Call (.Name x p) (e::es) [] pos) (pQ sp dvs E t):=by
 intro Jf s σ H Q I h;refine LG<|dj I hg hm ?_ YH;refine Pq (h₀:=X.base) I.ok.mod.kin hk (bV (ha pos Jf s σ H _ I h) λus s1 ⟨vs,H1,I1,r,q⟩=>⟨I1.kIn,?_⟩) he T4;exact DT F hr hb hd hx I1 r q
structure aH (N P:IW Str)(sc:O3):Prop where
 kind:sc.kind=.function
 co:sc.isCoroutine=Jg
 gen:sc.isGenerator=Jg
 nd:N.Nodup
 pre:N.take P.length=P
 par:∀x∈P,sc.names.lookup x=B' .local\/sc.names.lookup x=B' .cell
 nofree:∀y∈sc.names,y.2≠.free
theorem mJ{kindOf:Str->Jd Q1}:∀{binds:IW (Str×IX)} {m:Str->Jd IX},(∀v,(x,v)∉binds)->W_ kindOf binds m x=m x
 |[],_,_=>rfl
 |(n,v)::r,m,h=>by
  unfold W_;rw[mJ λw hw=>h w<|Jy _ hw]
  split
  ·have:x≠n:=by rintro rfl;exact h v JG
   simp [this]
  ·rfl
theorem mK{kindOf:Str->Jd Q1}:∀{binds:IW (Str×IX)} {m:Str->Jd IX},(∀v,(x,v)∉binds)->W' kindOf binds m x=m x
 |[],_,_=>rfl
 |(n,v)::r,m,h=>by
  unfold W';rw[mK λw hw=>h w<|Jy _ hw]
  split
  ·rfl
  ·have:x≠n:=by rintro rfl;exact h v JG
   simp [this]
theorem mL{kindOf:Str->Jd Q1}:∀{P:IW Str} {vs:IW IX} {i:Nat} {m:Str->Jd IX},P.Nodup->P[i]? =B' x->vs[i]? =B' v->kindOf x=B' .local->
  W_ kindOf (P.zip vs) m x=B' v
 |[],_,_,_,_,h,_,_=>by simp at h
 |_::_,[],_,_,_,_,h,_=>by simp at h
 |p::P,w::vs,0,m,nd,h1,h2,hk=>by
  simp at h1 h2;subst h1;subst h2;show W_ kindOf ((p,w)::P.zip vs) m p=_
  unfold W_;rw[mJ λv hv=>(Mv.mp nd).1 (SS hv).1,JL hk];simp
 |p::P,w::vs,i+1,m,nd,h1,h2,hk=>by
  show W_ kindOf ((p,w)::P.zip vs) m x=_
  unfold W_;exact mL (i:=i) (Mv.mp nd).2 (by simpa using h1) (by simpa using h2) hk
theorem mM{kindOf:Str->Jd Q1}:∀{P:IW Str} {vs:IW IX} {i:Nat} {m:Str->Jd IX},P.Nodup->P[i]? =B' x->vs[i]? =B' v->kindOf x≠B' .local->
  W' kindOf (P.zip vs) m x=B' v
 |[],_,_,_,_,h,_,_=>by simp at h
 |_::_,[],_,_,_,_,h,_=>by simp at h
 |p::P,w::vs,0,m,nd,h1,h2,hk=>by
  simp at h1 h2;subst h1;subst h2;show W' kindOf ((p,w)::P.zip vs) m p=_
  unfold W';rw[mK λv hv=>(Mv.mp nd).1 (SS hv).1,JK hk];simp
 |p::P,w::vs,i+1,m,nd,h1,h2,hk=>by
  show W' kindOf ((p,w)::P.zip vs) m x=_
  unfold W';exact mM (i:=i) (Mv.mp nd).2 (by simpa using h1) (by simpa using h2) hk
def start(N:IW Str)(vs:IW V):St:=vs.map B'++TC (N.length - vs.length) Ji
def cq(CX:tD)(P:Js)(w:JV)(K:IZ)(mg:Str->Jd IX)(base:J6)(N:IW Str)(qual:Str)(scope:O3)(f:I_)(cd:IX)(A:J8)(outer:IW Env)(s:Ja)(H:Hp)(E:XK):Cx where
 prog:=P
 w:=w
 K:=K
 mg:=mg
 base:=base
 A:=A.deeper (J' qual scope s.heap.objs.size f cd)
 N:=N
 s₀:=s
 H₀:=H
 env:=J' qual scope s.heap.objs.size f cd
 outer:=outer
 stack:=J' qual scope s.heap.objs.size f cd::outer
 ex:=[]
 calm:=Je
 fn:=λ_=>Je
 pn:=[]
 xe:=λe s'=>wpAny (JS P w) (A.deeper<|J' qual scope s.heap.objs.size f cd) (Ro (J' qual scope s.heap.objs.size f cd) e) (λ_ s''=>CX outer H s E e s'') (λe' s''=>CX outer H s E e' s'') s'
def pR{sc:O3}{n:Nat}{x:Str}(h:sc.names.lookup x=B' .cell):∃c,(KS n sc.names []).lookup x=B' c:=by
 have q:=So sc.names n []<|.inl h;exact Pi.mp q
def vg{CX:tD}{P:Js}{w:JV}{K:IZ}{mg:Str->Jd IX}{base:J6}{N ps:IW Str}{qual:Str}{scope:O3}{f:I_}{cd:IX}{A:J8}{outer:IW Env}{s s1:Ja}{H:Hp}{E:XK}{us:IW IX}{vs:IW V}
  (S:aH N ps scope) (hd:A.handled=Ji) (e0:Env0 P w K mg base A outer s H) (hl:vs.length=ps.length) (r:Vals vs us)
  (x:InCallC s s.heap.objs.size (W_ (J' qual scope s.heap.objs.size f cd).kindOf (ps.zip us) λ_=>Ji) (KS (s.heap.objs.size+1) scope.names []) (W' (J' qual scope s.heap.objs.size f cd).kindOf (ps.zip us) λ_=>Ji) s1):
  Inv (cq CX P w K mg base N qual scope f cd A outer s H E) [] (start N vs) H s1:=by
 have T4:ps.length<=N.length:=by have:=LU Wl S.pre;rw[J9]at this;lia
 obtain⟨h1,tk,rfl,hk⟩:=x.done;have noA:∀b,b∉(cq CX P w K mg base N qual scope f cd A outer s H E).ex:=λb z=>absurd (show b∈([]:IW I_)from z) (by simp);refine⟨⟨e0.mod,S.kind,rfl,rfl,Jh _,λy z c h1 h2=>?_,λy hy=>?_,λy c _ h=>?_,λ_=>hd,Around.frames_deeper e0.frames,.inr ⟨rfl,rfl⟩,λb z=>absurd z<|noA b,e0.bs,e0.bsz,λb _ _=>noA b,λb z=>absurd z<|noA b,e0.funs,e0.frf⟩,
  rfl,e0.bare,Un.kept hk,⟨_,x.toInCall.ns,λi y v h1 h2 h3=>?_⟩,λy c h=>⟨_,x.cell y c h⟩,e0.hok.fresh<|Jh _,λy c h=>?_,λp hp=>absurd (show p∈([]:IW (I_×Obj))from hp) (by simp),e0.hok.kept hk,?_⟩
 ·exact name_of_addr x.apart (LR h1)<|LR h2
 ·have hy:scope.names.lookup y=B' .cell\/scope.names.lookup y=B' .free:=hy;obtain hy|hy:=hy
  ·exact pR hy
  ·exact absurd rfl<|S.nofree _<|LR hy
 ·exact K_<|x.above y c<|LR h
 ·have hi:i < vs.length:=by
   unfold start at h2;by_cases hi:i < vs.length
   ·exact hi
   ·rw[Ku<|by simpa using hi]at h2;rw[List.getElem?_replicate]at h2
    split at h2<;>cases h2
  have ha:vs[i]? =B' v:=by
   unfold start at h2;rw[Kl (by simpa using hi),JW]at h2;cases e:vs[i]? with
   |none=>rw[e]at h2;cases h2
   |some a=>rw[e]at h2;cases h2;rfl
  obtain⟨u,hu,rv⟩:=r.get ha;have hp:ps[i]? =B' y:=by
   rw[<-S.pre,List.getElem?_take_of_lt<|by lia];exact h1
  have ndP:ps.Nodup:=by rw[<-S.pre];exact S.nd.sublist<|Vv _ _
  exists u,rv;obtain k|k:=S.par y (Jx hp)
  ·exact .inl ⟨k,mL ndP hp hu k⟩
  ·obtain⟨c,e⟩:=pR (n:=s.heap.objs.size+1) k;refine .inr ⟨.inl k,c,e,?_⟩;have q:=x.cell y c e;rw[mM ndP hp hu (by show scope.names.lookup y≠_;rw[k];decide)]at q;exact q
 ·exact e0.hok.fresh<|K_<|x.above y c<|LR h
 ·unfold start;show _=N.length
  rw[JC,Jc,List.length_replicate];lia
def wR{CX:tD}{P:Js}{w:JV}{K:IZ}{mg:Str->Jd IX}{base:J6}{k:Nat}{f:I_}{name qual:Str}{params:Arguments}{body:IW Lh}{scope:O3}{dV kV UY pm MG ct oc:IX}{an od:Jd I_}
  {osl:JF (Jd IX)} {N ps:IW Str} {sp:Sp} (lk:K.lookup f=B' ⟨oc,od,.func<|MO name qual params body scope dV kV UY pm an MG ct,osl⟩) (Yo:Tf K MG qual=Je) (S:aH N ps scope)
  (len:∀vs H Q E,sp vs H Q E->vs.length=ps.length)
  (WW:∀A outer s H vs Q E,Room k (A.deeper<|J' qual scope s.heap.objs.size f MG)->sp vs H Q E->
   ∃t,PSs (cq CX P w K mg base N qual scope f MG A outer s H E) body t/\t {nx:=λ_ H'=>Q .non H',rt:=Q} (start N vs) H):
  FnOk P w K mg base CX (k+1) f (MO name qual params body scope dV kV UY pm an MG ct) ps sp:=by
 refine⟨len,λA outer s H args us vs Q E hr e0 hb r hsp=>?_⟩;have hl:=len _ _ _ _ hsp;have KX:K.In s.heap:=e0.mod.kin.keeps λb o e=>(e0.bs b o e).1;have lim:s.heap.NoLimit:=e0.mod.nolimit.keeps λb o e=>(e0.bs b o e).1;have aeS:∀y∈ps.zip us,scope.names.lookup y.1=B' .local\/(scope.names.lookup y.1=B' .cell/\((KS (s.heap.objs.size+1) scope.names []).lookup y.1).isSome=Je):=λ⟨n,v⟩ hy=>by
  obtain q|q:=S.par n (SS hy).1
  ·exact .inl q
  ·exact .inr ⟨q,So _ _ _<|.inl q⟩
 refine codeAny_call_function hr.depth (KX _ _ lk) rfl S.co S.gen rfl (PySem.W.codeRec_of KX Yo)<|hb _ _ _ _ ?_;refine wpAny_newFunctionEnv_cells S.kind aeS λenv he s1 x=>?_;subst he;refine⟨lim.keeps x.toInCall.keep,codeAny_func ?_⟩;obtain⟨t,ht,hq⟩:=WW A outer s H vs Q E (hr.deeper _) hsp;have I:Inv (cq CX P w K mg base N qual scope f MG A outer s H E) [] (start N vs) H s1:=vg S hr.hd e0 hl r x;refine Kf (ht [] s1 (start N vs) H _ I hq) (λfl s' hs=>?_) λe s' hs=>hs;have fin:∀{σ':St} {H':Hp} {v:V} {u:IX},Inv (cq CX P w K mg base N qual scope f MG A outer s H E) [] σ' H' s'->RelV v u->Q v H'->CE outer P w H s Q u s':=
  λ{σ' H' v u} J rv q=>⟨v,H',J.os,J.bare,J.base,J.hok,rv,q⟩
 cases fl with
 |ret u=>
  obtain⟨v,σ',H',J,rv,q⟩:=hs;exact fin J rv q
 |next=>
  obtain⟨σ',H',J,q⟩:=hs;exact fin (v:=V.non) (u:=NB) J rfl q
 |brk=>
  obtain⟨_,_,_,q⟩:=hs;exact LJ q
 |cont=>
  obtain⟨_,_,_,q⟩:=hs;exact LJ q
section
variable {id:Mg}
def HX(r:IW V->Hp->VK->Prop)(t:TA):TE:=λσ H Q=>t σ H λvs H1=>r vs H1 Q
def au(hc:dY X (.builtin id) r)(hg:Gl X x)(hm:X.mg x=Ji)(hv:PQ x=B' (.builtin id))(ha:PA X (e::es) t)(hn:x≠"__name__":=by decide)(YH:(x == ("__debug__":Str))=false:=by decide)
  (he:J3 (e::es) X.env=(Jg,MC e X.env)::J3 es X.env:=by rfl) (T4:(Nh pos<|J3 es X.env).any (·.1)=false:=by rfl):PE X (.Call (.Name x p) (e::es) [] pos) (HX r t):=by
 intro Jf s σ H Q I h;refine LG<|eS I hg hm hv ?_ hn YH;exact Qf (bV (ha pos Jf s σ H _ I h) λus s1 ⟨vs,H1,I1,r1,q1⟩=>hc Jf s1 σ H1 vs us Q I1 r1 q1) he T4
def bN(hc:dY X (.type T) r)(hg:Gl X x)(hm:X.mg x=Ji)(hv:PQ x=B' (.type T))(ha:PA X (e::es) t)(hn:x≠"__name__":=by decide)(YH:(x == ("__debug__":Str))=false:=by decide)
  (he:J3 (e::es) X.env=(Jg,MC e X.env)::J3 es X.env:=by rfl) (T4:(Nh pos<|J3 es X.env).any (·.1)=false:=by rfl):PE X (.Call (.Name x p) (e::es) [] pos) (HX r t):=by
 intro Jf s σ H Q I h;refine LG<|eS I hg hm hv ?_ hn YH;exact LZ (bV (ha pos Jf s σ H _ I h) λus s1 ⟨vs,H1,I1,r1,q1⟩=>hc Jf s1 σ H1 vs us Q I1 r1 q1) he T4
end
end L2
namespace HT
open PySem PyProof.Rows
def cat_tup{Q:IX->Ja->Prop}(ht:IsTup s.heap t vs.toArray)(hb:IsTup s.heap b ws.toArray)(hv:vs≠[])
  (h1:ws=[]->Q (.ref t) s) (h2:ws≠[]->Q (.ref s.heap.objs.size) {s with heap:=s.heap.push {cls:=.type "tuple",data:=.seq (vs++ws).toArray}})
  (hsz:vs.length+ws.length<=sizeLine):wpAny (JS prog w) A (Ot .Add (.ref t)<|.ref b) Q E s:=by
 obtain⟨⟨cls,dd,data,sl⟩,ho,hc,n,hd⟩:=id ht;obtain⟨⟨ahP,dd2,data2,sl2⟩,ho2,hc2,n2,Wp⟩:=id hb;simp only at hc hd hc2 Wp;subst hc hd hc2 Wp;have e:vs.toArray++ws.toArray=(vs++ws).toArray:=by simp
 by_cases hw:ws=[]
 ·exact Vc ⟨_,ho,rfl⟩ ⟨_,ho2,rfl⟩ RY Uh PZ PD (Pf _ _)
   (tuple_addW1 t b vs.toArray ws.toArray n n2 dd dd2 sl sl2 (by simpa using hv)<|by simp [hw]) ⟨ho,ho2,h1 hw⟩
 ·refine Vc ⟨_,ho,rfl⟩ ⟨_,ho2,rfl⟩ RY Uh PZ PD (Pf _ _)
   (tuple_addW2 t b vs.toArray ws.toArray n n2 dd dd2 sl sl2 (by simpa using hv) (by simpa using hw)<|by rw[JH,JH];exact hsz) ⟨ho,ho2,?_⟩
  rw[e];exact h2 hw
def sIx(n d:Nat):Jd Int->Nat
 |none=>d
 |some v=>if v < 0 then(v+(n:Int)).toNat else min v.toNat n
def sIx_nat(n d k:Nat):sIx n d (B' (k:Int))=min k n:=by grind[sIx]
end HT
namespace L2
open PySem PySem.Spec PyProof.Rows
abbrev TO:=St->Hp->(Jd Int->Hp->Prop)->Prop
def PO(X:Cx)(e:Jd KJ)(t:TO):Prop:=
 ∀(Jf:IW (I_×Obj)) (s:Ja) (σ:St) (H:Hp) (Q:Jd Int->Hp->Prop),Inv X Jf σ H s->t σ H Q->
  wpAny (JS X.prog X.w) X.A (evalPart e X.env) (λu s'=>∃o H',Inv X Jf σ H' s'/\IsPart u o/\Q o H') X.xe s
def AI:TO:=λ_ H Q=>Q Ji H
def FL(t:TE):TO:=λσ H Q=>t σ H λx H1=>∃i,x=.int i/\Q (B' i) H1
def fm:∀{us:IW IX},Vals (ns.map V.int) us->Nd us ns:=by
 induction ns with
 |nil=>intro us r;rw[QQ]at r;cases r;exact .nil
 |cons n ns ih=>
  intro us r;rw[Kz]at r;cases r with
  |cons r1 r2=>
   obtain⟨t,e⟩:=r1;subst e;exact .cons n t<|ih r2
section
variable {lo:Jd KJ}
def kl:PO X Ji AI:=by
 intro Jf s σ H Q I h;rw[XU];exact Jl ⟨Ji,H,I,.none,h⟩
def eZ(h:PE X e te):PO X (B' e) (FL te):=by
 intro Jf s σ H Q I hw;rw[evalPart_some];refine bV (h Jf s σ H _ I hw) λu s1 ⟨x,H1,I1,r1,q1⟩=>?_;obtain⟨i,rfl,q⟩:=q1;obtain⟨t,rfl⟩:=r1;exact⟨B' i,H1,I1,.int i t,q⟩
def IA(X:Cx)(r:V->Jd Int->Jd Int->Hp->VK->Prop):Prop:=
 ∀(Jf:IW (I_×Obj)) (s:Ja) (σ:St) (H:Hp) (x:V) (v vl vu:IX) (lo hi:Jd Int) (sl:I_) (Q:VK),Inv X Jf σ H s->RelV x v->s.heap.IsSliceOf sl vl vu .none->IsPart vl lo->IsPart vu hi->r x lo hi H Q->
  ∃T id,Ut (.type T) "__getitem__"=pure (B'<|.builtin id)/\s.TypeIs v T/\wpAny (JS X.prog X.w) X.A (Vb v<|.ref sl) (EP X Jf σ Q) X.xe s
def IP(r:V->Jd Int->Jd Int->Hp->VK->Prop)(te:TE)(tl th:TO):TE:=λσ H Q=>te σ H λx H1=>tl σ H1 λl H2=>th σ H2 λu H3=>r x l u H3 Q
def gQ(hr:IA X r)(he:PE X e te)(hl:PO X lo tl)(hu:PO X hi th):PE X (.Subscript e (.Slice lo hi Ji p2) pos) (IP r te tl th):=by
 intro Jf s σ H Q I h;refine UM<|bV (he Jf s σ H _ I h) λv s1 ⟨x,H1,I1,r1,q1⟩=>?_;refine wpAny_Slice<|bV (hl Jf s1 σ H1 _ I1 q1) λvl s2 ⟨l,H2,I2,pl,q2⟩=>bV (hu Jf s2 σ H2 _ I2 q2) λvu s3 ⟨u,H3,I3,pu,q3⟩=>?_;rw[XU];refine Jl ?_;have I4:Inv X Jf σ H3 {s3 with heap:=s3.heap.push {cls:=.type "slice",data:=.fields #[vl,vu,.none]}}:=I3.kept (t':=s3.toks) λb ob q=>Jb _ q;obtain⟨T,id,hT,ht,hg⟩:=hr Jf {s3 with heap:=s3.heap.push {cls:=.type "slice",data:=.fields #[vl,vu,.none]}} σ H3 x v vl vu l u s3.heap.objs.size Q I4 r1 (UH ..) pl pu q3;show wpAny (JS X.prog X.w) X.A (RK e (.Slice lo hi Ji p2) v<|.ref s3.heap.objs.size) (EP X Jf σ Q) X.xe {s3 with heap:=s3.heap.push {cls:=.type "slice",data:=.fields #[vl,vu,.none]}}
 exact Zx (ops:=[.ref s3.heap.objs.size,v]) ht hT hg (by with_unfolding_all rfl)
def dH(xs:IW V)(lo hi:Jd Int):IW V:=(xs.drop<|HT.sIx xs.length 0 lo).take<|HT.sIx xs.length xs.length hi - HT.sIx xs.length 0 lo
def pS(xs:IW V)(lo hi:Jd Int):(dH xs lo hi).length<=xs.length:=by
 unfold dH;rw[J9,Nz];lia
def FM(K:IZ):R2:=λx y H Q=>∃a b xs ys,x=.ref a/\y=.ref b/\SqT K H a xs/\SqT K H b ys/\xs≠[]/\xs.length+ys.length<=sizeLine/\
 (ys=[]->Q (.ref a) H)/\(ys≠[]->∀p,H p=Ji->Q (.ref p) (upd H p<|.tup<|xs++ys))
def Vals.nil_iff(r:Vals xs us):us=[]↔xs=[]:=by
 cases r with
 |nil=>simp
 |cons _ _=>simp
def AJ:OpR X (Ot .Add) (FM X.K):=by
 intro Jf s σ H x y v u Q I rx ry h;obtain⟨a,b,xs,ys,rfl,rfl,ha,hb,hx,hz,q1,q2⟩:=h;cases rx;cases ry;obtain⟨Lj,r1,p1,_⟩:=I.tuple ha;obtain⟨aaB,r2,p2,_⟩:=I.tuple hb;refine HT.cat_tup p1 p2 (λz=>hx<|r1.nil_iff.mp z) (λz=>⟨.ref a,H,I,rfl,q1<|r2.nil_iff.mp z⟩) (λz=>?_) (by rw[<-r1.length,<-r2.length];exact hz);refine⟨.ref s.heap.objs.size,_,I.laid (t':=s.toks) (o:=.tup<|xs++ys) (λb ob q=>Jb _ q) (Jh _) ?_,rfl,q2 (λw=>z<|r2.nil_iff.mpr w) _<|I.hok.fresh<|Jh _⟩;exact⟨by rw[JC];exact hz,_,r1.append r2,aa3 _ _⟩
end
def Ax(n:Nat)(i:Int):Jd Nat:=if 0<=i then(if i < n then B' i.toNat else Ji)else if -(n:Int)<=i then B' (i+n).toNat else Ji
def rc{α:Type}(xs:IW α)(i:Int):Jd α:=(Ax xs.length i).bind λj=>xs[j]?
def tE(h:Ax n i=B' j):seqIndex? i n=B' j/\j < n/\ -(n:Int)<=i/\i < n:=by
 unfold Ax at h;by_cases h0:0<=i
 ·rw[JL h0]at h;by_cases h1:i < n
  ·rw[JL h1]at h;have e:i.toNat=j:=JN h;exact⟨by rw[We h0 h1,e],by lia,by lia,h1⟩
  ·rw[JK h1]at h;cases h
 ·rw[JK h0]at h;by_cases h1:-(n:Int)<=i
  ·rw[JL h1]at h;have e:(i+n).toNat=j:=JN h;exact⟨by rw[seqIndex_neg (by lia) h1,e],by lia,h1,by lia⟩
  ·rw[JK h1]at h;cases h
def oA{α:Type}{xs:IW α}{i:Int}{v:α}(h:rc xs i=B' v):∃j,seqIndex? i xs.length=B' j/\xs[j]? =B' v/\j < xs.length/\ -(xs.length:Int)<=i/\i < xs.length:=by
 unfold rc at h;cases e:Ax xs.length i with
 |none=>rw[e]at h;cases h
 |some j=>
  rw[e]at h;obtain⟨h1,h2,h3,h4⟩:=tE e;exact⟨j,h1,h,h2,h3,h4⟩
def aZ{α:Type}{xs:IW α}{j:Nat}{v:α}(h:xs[j]? =B' v):rc xs (j:Int)=B' v:=by
 have hj:j < xs.length:=(Jk.mp h).1;have e:Ax xs.length (j:Int)=B' j:=by
  unfold Ax;rw[JL (by lia),JL<|by lia];simp
 unfold rc;rw[e];exact h
def AK(b:KJ):Prop:=∀o i,S9 b Jg o i=operate [o,i] (Vb o i)
def IxR(X:Cx)(r:R2):Prop:=
 ∀(value RQ:KJ) (Jf:IW (I_×Obj)) (s:Ja) (σ:St) (H:Hp) (x y:V) (v u:IX) (Q:VK),Inv X Jf σ H s->RelV x v->RelV y u->r x y H Q->
  S9 RQ Jg v u=operate [v,u] (Vb v u)->wpAny (JS X.prog X.w) X.A (RK value RQ v u) (EP X Jf σ Q) X.xe s
def IB(X:Cx)(id:Mg)(r:V->IW V->Hp->VK->Prop):Prop:=
 ∀(Jf:IW (I_×Obj)) (s:Ja) (σ:St) (H:Hp) (x:V) (xs:IW V) (v:IX) (us:IW IX) (Q:VK),Inv X Jf σ H s->RelV x v->Vals xs us->r x xs H Q->
  wpAny (JS X.prog X.w) X.A (call (.builtin id)<|v::us) (EP X Jf σ Q) X.xe s
section
def IxR.or(h:IxR X r)(h':IxR X r'):IxR X (λx y H Q=>r x y H Q\/r' x y H Q):=by
 intro value RQ Jf s σ H x y v u Q I rx ry q hs;obtain q|q:=q
 ·exact h value RQ Jf s σ H x y v u Q I rx ry q hs
 ·exact h' value RQ Jf s σ H x y v u Q I rx ry q hs
def aG(hr:IxR X r)(ha:PE X a ta)(hb:PE X b tb)(hs:AK b):PE X (.Subscript a b pos) (mw r ta tb):=by
 intro Jf s σ H Q I h;exact UM<|DO ha hb I h λv u s2 x y H2 I2 rx ry q=>hr a b Jf s2 σ H2 x y v u Q I2 rx ry q<|hs _ _
inductive FN (K:IZ)(x y:V)(H:Hp)(Q:VK):Prop
 |mk (p:I_)(xs:IW V)(i:Int)(v:V)(hx:x=.ref p)(hy:y=.int i)(h:SqL K H p xs)(e:rc xs i=B' v)(q:Q v H):FN K x y H Q
inductive FO (K:IZ)(x y:V)(H:Hp)(Q:VK):Prop
 |mk (p:I_)(xs:IW V)(i:Int)(v:V)(hx:x=.ref p)(hy:y=.int i)(h:SqT K H p xs)(e:rc xs i=B' v)(q:Q v H):FO K x y H Q
inductive FP (x y:V)(H:Hp)(Q:VK):Prop
 |mk (z:Str)(i:Int)(c:Nat)(hx:x=.str z)(hy:y=.int i)(h:z.length<=sizeLine)(e:rc z.cps.toList i=B' c)(q:Q (.str ⟨#[c]⟩) H):FP x y H Q
def FQ(K:IZ):R2:=λx y H Q=>FN K x y H Q
def FR(K:IZ):R2:=λx y H Q=>FO K x y H Q
def FS:R2:=λx y H Q=>FP x y H Q
def ix_list:IxR X (FQ X.K):=by
 intro value RQ Jf s σ H x y v u Q I rx ry h hs;obtain⟨p,xs,i,z,rfl,rfl,hq,he,q⟩:=h;cases rx;obtain⟨t,rfl⟩:=ry;obtain⟨Lj,r,pl,hz⟩:=I.list hq;obtain⟨j,h1,h2,h3,h4,h5⟩:=oA he;obtain⟨w,ew,ZP⟩:=r.get h2;have hl:=r.length;have hn:=kX;have fin:EP X Jf σ Q w s:=⟨z,H,I,ZP,q⟩;by_cases h0:0<=i
 ·have hj:i.toNat=j:=by
   rw[We h0 h5]at h1;exact JN h1
  exact item_listR pl.isList h0 (by lia) (by rw[hj];simpa using ew) fin hs
 ·have hj:(i+(Lj.toArray.size:Int)).toNat=j:=by
   rw[seqIndex_neg (by lia) h4]at h1;rw[JH,<-hl];exact JN h1
  exact Su (x:=w) pl.isList.typeIs slot_list_getitem.lookup
   (wpAny_getItem_list_neg (Q:=λr s'=>r=w/\EP X Jf σ Q r s') pl.isList (by lia) (by rw[JH]<;>lia) (by lia) (by rw[hj];simpa using ew) ⟨rfl,fin⟩) hs
def ix_tup:IxR X (FR X.K):=by
 intro value RQ Jf s σ H x y v u Q I rx ry h hs;obtain⟨p,xs,i,z,rfl,rfl,hq,he,q⟩:=h;cases rx;obtain⟨t,rfl⟩:=ry;obtain⟨Lj,r,pl,hz⟩:=I.tuple hq;obtain⟨j,h1,h2,h3,h4,h5⟩:=oA he;obtain⟨w,ew,ZP⟩:=r.get h2;have hl:=r.length;have hn:=kX;have fin:EP X Jf σ Q w s:=⟨z,H,I,ZP,q⟩;exact Su (x:=w) pl.typeIs slot_tuple_getitem.lookup
  (getItem_tuple (j:=j) (Q:=λr s'=>r=w/\EP X Jf σ Q r s') pl (by lia) (by lia) (by rw[JH,<-hl];exact h1) (by simpa using ew) ⟨rfl,fin⟩) hs
def DU:IxR X FS:=by
 intro value RQ Jf s σ H x y v u Q I rx ry h hs;obtain⟨z,i,c,rfl,rfl,hz,he,q⟩:=h;obtain⟨t,rfl⟩:=rx;obtain⟨t',rfl⟩:=ry;obtain⟨j,h1,h2,h3,h4,h5⟩:=oA he;have hl:z.cps.toList.length=z.length:=by simp [Str.length]
 rw[hl]at h1 h4 h5;have hn:=kX;exact Zx (typeIs_str s z t) slot_str_getitem.lookup (getItem_str (c:=c) (by
  have e1:decide (i < -(2 ^ 63:Int))=false:=Jj (by lia);have e2:decide (i>=2 ^ 63)=false:=Jj (by lia);rw[e1,e2,Bool.or_false]) (by rw[h1];simpa using h2) ⟨.str ⟨#[c]⟩,H,I.tok _,⟨_,rfl⟩,q⟩) hs
def HY(K:IZ):R2:=λx y H Q=>FQ K x y H Q\/FR K x y H Q\/FS x y H Q
def ay:IxR X (HY X.K):=ix_list.or<|ix_tup.or DU
def rC(Lj:IW IX)(n j:Nat)(u:IX):K' (·.setIfInBounds j u) {cls:=.type "list",data:=.seq Lj.toArray n}={cls:=.type "list",data:=.seq (Lj.set j u).toArray n}:=by
 simp [K']
def Inv.lst(I:Inv X Jf σ H s)(h:H p=B' (.lst xs)):
  ∃Lj n,Vals xs Lj/\s.heap.get? p=B' {cls:=.type "list",data:=.seq Lj.toArray n}/\xs.length<=sizeLine:=by
 obtain⟨z,Lj,n,r,e⟩:=I.hok p _ h;exact⟨Lj,n,r,e,z⟩
def Inv.lstUpd{ys:IW V}{Lj its':IW IX}{n n':Nat}{f:Obj->Obj}(I:Inv X Jf σ H s)(h:H p=B' (.lst xs))
  (ho:s.heap.get? p=B' {cls:=.type "list",data:=.seq Lj.toArray n}) (hf:f {cls:=.type "list",data:=.seq Lj.toArray n}={cls:=.type "list",data:=.seq its'.toArray n'}) (r:Vals ys its') (hz:ys.length<=sizeLine) (t:Nat):
  Inv X Jf σ (upd H p<|.lst ys) {s with heap:=s.heap.update p f,toks:=t}:=by
 have e:(s.heap.update p f).get? p=B' {cls:=.type "list",data:=.seq its'.toArray n'}:=by
  rw[Ld f ho (by rw[hf]<;>rfl),hf]
 refine I.write (x:=p) (e:=p) (by rw[h];trivial) (.inl rfl) (λb u hb q=>(J7 _ _<|Ma hb).trans q) ⟨_,e⟩ ?_;exact⟨hz,its',n',r,e⟩
def FT:V->V->V->Hp->(Hp->Prop)->Prop:=λo i v H Q=>∃p xs k j,o=.ref p/\i=.int k/\H p=B' (.lst xs)/\Ax xs.length k=B' j/\Q (upd H p<|.lst<|xs.set j v)
def wS:Fx X FT:=by
 intro Jf s σ H o i v ov iv u Q I ro ri rv h;obtain⟨p,xs,k,j,rfl,rfl,hp,hj,q⟩:=h;cases ro;obtain⟨t,rfl⟩:=ri;obtain⟨Lj,n,r,ho,hz⟩:=I.lst hp;obtain⟨h1,h2,h3,h4⟩:=tE hj;have hl:=r.length;have hn:=kX;have I':Inv X Jf σ (upd H p<|.lst<|xs.set j v) {s with heap:=s.heap.update p (K' (·.setIfInBounds j u))}:=
  I.lstUpd hp ho (rC Lj n j u) (r.set rv j) (by rw[WD];exact hz) s.toks
 by_cases h0:0<=k
 ·have hk:k.toNat=j:=by
   rw[We h0 h4]at h1;exact JN h1
  exact PySem.W.ki_setAt ho h0 (by lia) (by rw[JH,<-hl];exact h4) (by rw[hk];exact⟨_,I',q⟩)
 ·have hk:(k+(Lj.toArray.size:Int)).toNat=j:=by
   rw[seqIndex_neg (by lia) h3]at h1;rw[JH,<-hl];exact JN h1
  exact PySem.W.ki_setBack ho (by lia) (by rw[JH,<-hl];exact h3) (by lia) (by rw[hk];exact⟨_,I',q⟩)
def oB(lo hi:Jd Int)(n:Nat):(MB lo hi Ji n).1=((HT.sIx n 0 lo:Nat):Int)/\(MB lo hi Ji n).2.1=((HT.sIx n n hi:Nat):Int)/\(MB lo hi Ji n).2.2=1:=by
 refine⟨?_,?_,rfl⟩
 ·cases lo with
  |none=>simp [MB,HT.sIx]
  |some i=>
   simp only [MB,HT.sIx,V2,show(1:Int) > 0 by decide,Ms];by_cases h:i < 0
   ·simp only [h,Ms]<;>lia
   ·simp only [h,La]<;>lia
 ·cases hi with
  |none=>simp [MB,HT.sIx]
  |some i=>
   simp only [MB,HT.sIx,V2,show(1:Int) > 0 by decide,Ms];by_cases h:i < 0
   ·simp only [h,Ms]<;>lia
   ·simp only [h,La]<;>lia
def mx(Lj:IW IX)(lo hi:Jd Int):slicePick Lj.toArray lo hi Ji=((Lj.drop<|HT.sIx Lj.length 0 lo).take<|HT.sIx Lj.length Lj.length hi - HT.sIx Lj.length 0 lo).toArray:=by
 obtain⟨h1,h2,h3⟩:=oB lo hi Lj.toArray.size;unfold slicePick;rw[h1,h2,h3];simp only [sliceRange_one,pick_run,JH]<;>rfl
def HZ(K:IZ):V->Jd Int->Jd Int->Hp->VK->Prop:=λx lo hi H Q=>∃a xs,x=.ref a/\SqL K H a xs/\∀p,H p=Ji->Q (.ref p) (upd H p<|.lst<|dH xs lo hi)
def iP:IA X (HZ X.K):=by
 intro Jf s σ H x v vl vu lo hi sl Q I rx hs pl pu h;obtain⟨a,xs,rfl,hx,q⟩:=h;cases rx;obtain⟨Lj,r,ht,hz⟩:=I.list hx;have L_:=r.length;exists "list",_,slot_list_getitem.lookup,ht.isList.typeIs;refine RE ht.isList hs pl pu .none (by simp) ?_ (by rw[JH]<;>lia);rw[mx,<-L_];refine⟨.ref s.heap.objs.size,_,I.laid (t':=s.toks) (o:=.lst<|dH xs lo hi) (λb ob q=>Jb _ q) (Jh _) ?_,rfl,q _<|I.hok.fresh<|Jh _⟩;exact⟨Lb (pS xs lo hi) hz,_,0,(r.drop<|HT.sIx xs.length 0 lo).take<|HT.sIx xs.length xs.length hi - HT.sIx xs.length 0 lo,JX _ rfl⟩
def iQ:V->JJ
 |.non=>Je
 |.bl _=>Je
 |.int _=>Je
 |.str _=>Je
 |_=>Jg
def Cr:V->V->JJ
 |.non,.non=>Je
 |.bl a,.bl b=>a == b
 |.bl a,.int b=>(if a then 1 else 0) == b
 |.int a,.bl b=>a == (if b then 1 else 0)
 |.int a,.int b=>a == b
 |.str a,.str b=>a == b
 |_,_=>Jg
def DV(ry:RelV y u)(rx:RelV x v)(fy:iQ y=Je)(fx:iQ x=Je):Z8 A s u v (Cr y x):=by
 cases y with
 |non=>
  cases ry;cases x with
  |non=>cases rx;exact abc _
  |bl b=>cases rx;exact Zq b
  |int b=>obtain⟨t,rfl⟩:=rx;exact ZJ b t
  |str b=>obtain⟨t,rfl⟩:=rx;exact ZI b t
  |_=>exact absurd (show Jg=Je from fx) JR
 |bl a=>
  cases ry;cases x with
  |non=>cases rx;exact Zr a
  |bl b=>cases rx;exact Zs a b
  |int b=>obtain⟨t,rfl⟩:=rx;exact ZN a b t
  |str b=>obtain⟨t,rfl⟩:=rx;exact ZM a b t
  |_=>exact absurd (show Jg=Je from fx) JR
 |int a=>
  obtain⟨t',rfl⟩:=ry;cases x with
  |non=>cases rx;exact ZK a t'
  |bl b=>cases rx;exact ZL a t' b
  |int b=>obtain⟨t,rfl⟩:=rx;exact Z7 a t' b t
  |str b=>obtain⟨t,rfl⟩:=rx;exact UF a t' b t
  |_=>exact absurd (show Jg=Je from fx) JR
 |str a=>
  obtain⟨t',rfl⟩:=ry;cases x with
  |non=>cases rx;exact ZG a t'
  |bl b=>cases rx;exact ZH a t' b
  |int b=>obtain⟨t,rfl⟩:=rx;exact UE a t' b t
  |str b=>obtain⟨t,rfl⟩:=rx;exact Z6 a t' b t
  |_=>exact absurd (show Jg=Je from fx) JR
 |_=>exact absurd (show Jg=Je from fy) JR
def rD(x:V)(u:IX):JJ:=match u with
 |.none=>Cr .non x
 |.bool b=>Cr (.bl b) x
 |.int i _=>Cr (.int i) x
 |.str z _=>Cr (.str z) x
 |_=>Jg
def wT(r:RelV y u)(f:iQ y=Je):rD x u=Cr y x:=by grind[V,RelV,iQ,rD,Cr]
theorem iR:∀{xs:IW V} {us:IW IX},Vals xs us->xs.all iQ=Je->us.any (rD x)=xs.any λy=>Cr y x
 |_,_,.nil,_=>rfl
 |y::xs,u::us,.cons r t,f=>by
  rw[Ul,J_]at f;rw[N5,N5,wT r f.1,iR t f.2]
theorem gR(rx:RelV x v)(fx:iQ x=Je):∀{xs:IW V} {us:IW IX},Vals xs us->xs.all iQ=Je->∀u∈us,Z8 A s u v<|rD x u
 |_,_,.nil,_=>λu hu=>by cases hu
 |y::xs,u::us,.cons r t,f=>λu' hu=>by
  rw[Ul,J_]at f;obtain rfl|hu:=J2.mp hu
  ·rw[wT r f.1];exact DV r rx f.1 fx
  ·exact gR rx fx t f.2 u' hu
def re(x:V)(xs:IW V):JJ:=xs.any λy=>Cr y x
inductive IC (K:IZ)(neg:JJ)(x y:V)(H:Hp)(Q:VK):Prop
 |mk (p:I_)(xs:IW V)(hy:y=.ref p)(h:SqL K H p xs\/SqT K H p xs)(fx:iQ x=Je)(fs:xs.all iQ=Je)(q:Q (.bl (if neg then !re x xs else re x xs)) H):IC K neg x y H Q
def Hw(K:IZ)(neg:JJ):R2:=λx y H Q=>IC K neg x y H Q
def mO:OpR X (Ls .In) (Hw X.K Jg):=by
 intro Jf s σ H x y v u Q I rx ry h;obtain⟨p,xs,rfl,hq,fx,fs,q⟩:=h;cases ry;obtain hq|hq:=hq
 ·obtain⟨Lj,r,pl,hz⟩:=I.list hq;refine SeqAt.in_listAt (rD x) pl.isList (λw hw=>gR rx fx r fs w<|by simpa using hw) ⟨.bl _,H,I,rfl,?_⟩;rw[show Lj.toArray.any (rD x)=Lj.any (rD x) by simp,iR r fs];exact q
 ·obtain⟨Lj,r,pl,hz⟩:=I.tuple hq;refine SeqAt.in_tupleAt (rD x) pl (λw hw=>gR rx fx r fs w<|by simpa using hw) ⟨.bl _,H,I,rfl,?_⟩;rw[show Lj.toArray.any (rD x)=Lj.any (rD x) by simp,iR r fs];exact q
def cK:OpR X (Ls .NotIn) (Hw X.K Je):=by
 intro Jf s σ H x y v u Q I rx ry h;obtain⟨p,xs,rfl,hq,fx,fs,q⟩:=h;cases ry;obtain hq|hq:=hq
 ·obtain⟨Lj,r,pl,hz⟩:=I.list hq;refine SeqAt.notIn_listAt (rD x) pl.isList (λw hw=>gR rx fx r fs w<|by simpa using hw) ⟨.bl _,H,I,rfl,?_⟩;rw[show Lj.toArray.any (rD x)=Lj.any (rD x) by simp,iR r fs];exact q
 ·obtain⟨Lj,r,pl,hz⟩:=I.tuple hq;refine SeqAt.notIn_tupleAt (rD x) pl (λw hw=>gR rx fx r fs w<|by simpa using hw) ⟨.bl _,H,I,rfl,?_⟩;rw[show Lj.toArray.any (rD x)=Lj.any (rD x) by simp,iR r fs];exact q
def cL:dY X (.type "list") (λxs H Q=>∃p ys,xs=[.ref p]/\(SqL X.K H p ys\/SqT X.K H p ys)/\∀l,H l=Ji->Q (.ref l) (upd H l<|.lst ys)):=by
 intro Jf s σ H xs us Q I r h;obtain⟨p,ys,rfl,hq,q⟩:=h;obtain⟨u,rfl,rx⟩:=fk r;cases rx;have fin:∀Lj,Vals ys Lj->ys.length<=sizeLine->∀h' c',(∀b o',s.heap.get? b=B' o'->h'.get? b=B' o')->
   h'.get? s.heap.objs.size=B' {cls:=.type "list",dict:=Ji,data:=.seq Lj.toArray c',slots:=#[]}->EP X Jf σ Q (.ref s.heap.objs.size) {s with heap:=h'}:=λLj r' hz h' c' kp e=>
  ⟨.ref s.heap.objs.size,_,I.laid (t':=s.toks) kp (Jh _) (show ObjOk X.prog X.w _ h' _ (.lst ys)from⟨hz,Lj,c',r',e⟩),rfl,q _<|I.hok.fresh<|Jh _⟩
 obtain hq|hq:=hq
 ·obtain⟨Lj,r',pl,hz⟩:=I.list hq;have L_:=r'.length;obtain⟨o,ho,hc,n,hd⟩:=pl.isList;exact XW p (.inl rfl) ho hc hd (λh' c' kp e=>fin Lj r' hz h' c' kp e) (by simp only [JH]<;>lia)
 ·obtain⟨Lj,r',pl,hz⟩:=I.tuple hq;have L_:=r'.length;obtain⟨o,ho,hc,n,hd⟩:=pl;exact XW p (.inr rfl) ho hc hd (λh' c' kp e=>fin Lj r' hz h' c' kp e) (by simp only [JH]<;>lia)
def cW:dY X (.type "tuple") (λxs H Q=>∃p ys,xs=[.ref p]/\((SqL X.K H p ys/\∀l,H l=Ji->Q (.ref l) (upd H l<|.tup ys))\/(SqT X.K H p ys/\Q (.ref p) H))):=by
 intro Jf s σ H xs us Q I r h;obtain⟨p,ys,rfl,h⟩:=h;obtain⟨u,rfl,rx⟩:=fk r;cases rx;obtain⟨hq,q⟩|⟨hq,q⟩:=h
 ·obtain⟨Lj,r',pl,hz⟩:=I.list hq;have L_:=r'.length;refine call_tuple_list pl.isList (λh' kp=>?_) (by simp only [JH]<;>lia);have I1:Inv X Jf σ H {s with heap:=h'}:=I.kept (t':=s.toks) kp;have I2:Inv X Jf σ (upd H h'.objs.size<|.tup ys) {s with heap:=h'.push {cls:=.type "tuple",data:=.seq Lj.toArray}}:=
   I1.laid (t':=s.toks) (λb o e=>Jb _ e) (Jh _) (show ObjOk X.prog X.w _ _ _ (.tup ys)from⟨hz,Lj,r',aa3 _ _⟩)
  exact⟨.ref h'.objs.size,_,I2,rfl,q _<|I1.hok.fresh<|Jh _⟩
 ·obtain⟨Lj,r',pl,hz⟩:=I.tuple hq;exact call_tuple_same pl ⟨.ref p,H,I,rfl,q⟩
def ID(K:IZ)(T:Mg)(x:V)(H:Hp):Prop:=match x with
 |.str _=>T="str"
 |.int _=>T="int"
 |.ref p=>(T="list"/\∃xs,SqL K H p xs)\/(T="tuple"/\∃o,K.lookup p=B' o/\o.cls=.type "tuple"/\o.dict=Ji)\/
   (T="dict"/\((∃kvs,H p=B' (.dK kvs))\/∃kvs,H p=B' (.dT kvs)))\/(T="set"/\∃S n,H p=B' (.set S n))
 |_=>False
def DW(I:Inv X Jf σ H s)(r:RelV x v)(ty:ID X.K T x H):
  s.TypeIs v T/\∀a,v=.ref a->∃ob,s.heap.get? a=B' ob/\ob.dict=none:=by
 cases x with
 |str z=>
  obtain⟨t,rfl⟩:=r;cases(show T="str" from ty);exact⟨typeIs_str s z t,λ_ e=>nomatch e⟩
 |int i=>
  obtain⟨t,rfl⟩:=r;cases(show T="int" from ty);exact⟨typeIs_int s i t,λ_ e=>nomatch e⟩
 |ref p=>
  cases r;obtain⟨rfl,xs,hq⟩|⟨rfl,o,hk,hc,hd⟩|⟨rfl,hk⟩|⟨rfl,S,n,hk⟩:=ty
  ·obtain⟨Lj,_,pl,_⟩:=I.list hq;refine⟨pl.isList.typeIs,λa e=>?_⟩;cases e;obtain⟨o,n,e,c,hd,_⟩:=pl;exact⟨o,e,hd⟩
  ·refine⟨⟨o,I.kIn p o hk,hc⟩,λa e=>?_⟩;cases e;exact⟨o,I.kIn _ o hk,hd⟩
  ·have z:∃o,s.heap.get? p=B' o/\o.ExactDict:=by
    obtain⟨kvs,hk⟩|⟨kvs,hk⟩:=hk
    ·obtain⟨_,_,_,_,o,_,_,e,ex,_⟩:=I.hok p _ hk;exact⟨o,e,ex⟩
    ·obtain⟨_,_,_,_,o,_,_,e,ex,_⟩:=I.hok p _ hk;exact⟨o,e,ex⟩
   obtain⟨o,e,ex⟩:=z;refine⟨⟨o,e,ex.1⟩,λa e2=>?_⟩;cases e2;exact⟨o,e,ex.2.1⟩
  ·obtain⟨o,_,_,_,e,ex,_⟩:=I.hok p _ hk;refine⟨⟨o,e,ex.1⟩,λa e2=>?_⟩;cases e2;exact⟨o,e,ex.2.1⟩
 |_=>exact LJ ty
def H_(K:IZ)(T:Mg)(r:V->IW V->Hp->VK->Prop)(to:TE)(t:TA):TE:=λσ H Q=>to σ H λx H1=>ID K T x H1/\t σ H1 λxs H2=>r x xs H2 Q
variable {id:Mg}
def eN(pa:PlainAttrs T)(slot:Slot T name id)(hty:typeOf (.builtin id)=pure (.type "method_descriptor"))(hm:IB X id r)(ho:PE X o to)(ha:PA X (e::es) t)
  (Zf:RH o name X.env (MC o X.env)=MC o X.env:=by rfl)
  (ahb:((Nh Qp<|J3 (e::es) X.env).all (λx=>!x.1)&&(Zm Qp<|Wf [] X.env).all (λx=>x.1.isSome)
   &&decide ((e::es).length+([]:IW WL).length+(if([]:IW WL).isEmpty then 0 else 1) < 30))=true:=by rfl)
  (aeN:(Uo.endLine == Qp.line)=true:=by rfl) (hs:J3 (e::es) X.env=(Jg,MC e X.env)::J3 es X.env:=by rfl) (ac7:(Nh Qp<|J3 es X.env).any (·.1)=false:=by rfl):
  PE X (.Call (.Attribute o name Uo) (e::es) [] Qp) (H_ X.K T r to t):=by
 intro Jf s σ H Q I h;refine wpAny_Call_method_late Zf ahb aeN rfl<|bV (ho Jf s σ H _ I h) λv s1 ⟨x,H1,I1,r1,ty,q1⟩=>?_;obtain⟨h1,h2⟩:=DW I1 r1 ty;exists T,id,pa,slot,hty,h1,h2;have hA:=ha Qp Jf s1 σ H1 _ I1 q1;rw[hs]at hA ⊢;refine P0 (by show(Jg || (Nh Qp<|J3 es X.env).any (·.1))=Jg;rw[ac7]<;>rfl)<|OP ?_;exact bV hA λus s2 ⟨vs,H2,I2,r2,q2⟩=>hm Jf s2 σ H2 x vs v us Q I2 r1 r2 q2
end
def IE(X:Cx)(id:Mg)(r:V->IW V->Hp->VK->Prop):Prop:=
 ∀(Jf:IW (I_×Obj)) (s:Ja) (σ:St) (H:Hp) (x:V) (xs:IW V) (v:IX) (us:IW IX) (Q:VK),Inv X Jf σ H s->RelV x v->Vals xs us->r x xs H Q->
  wpAny (JS X.prog X.w) X.A (call (.builtin id)<|v::us) (EP X Jf σ Q) X.xe s
theorem Vals.one:∀{x:V} {us:IW IX},Vals [x] us->∃u,us=[u]/\RelV x u
 |_,_,.cons r .nil=>⟨_,rfl,r⟩
theorem Vals.two:∀{x y:V} {us:IW IX},Vals [x,y] us->∃u v,us=[u,v]/\RelV x u/\RelV y v
 |_,_,_,.cons r (.cons q .nil)=>⟨_,_,rfl,r,q⟩
def Inv.lset{Lj its':IW IX}{n:Nat}{f:JF IX->JF IX}{t':Nat}(I:Inv X Jf σ H s)(hH:H l=B' (.lst xs))
  (e:s.heap.get? l=B' {cls:=.type "list",data:=.seq Lj.toArray n}) (hf:f Lj.toArray=its'.toArray) (hv:Vals ys its') (hz:ys.length<=sizeLine):
  Inv X Jf σ (upd H l<|.lst ys) {s with heap:=s.heap.update l<|K' f,toks:=t'}:=by
 have q:=aaY e f;rw[hf]at q;refine I.write (x:=l) (e:=l) (by rw[hH];exact trivial) (.inl rfl) (λb' u hb hu=>(J7 s.heap (K' f)<|Ma hb).trans hu) ⟨_,q⟩ ?_;exact⟨hz,its',_,hv,q⟩
def Inv.lnew{t':Nat}(I:Inv X Jf σ H s)(hv:Vals ys Lj)(hz:ys.length<=sizeLine):
  Inv X Jf σ (upd H s.heap.objs.size<|.lst ys) {s with heap:=s.heap.push {cls:=.type "list",data:=.seq Lj.toArray},toks:=t'}:=
 I.laid (λ_ _ q=>Jb _ q) (Jh _) ⟨hz,Lj,0,hv,JX _ rfl⟩
def Inv.fresh(I:Inv X Jf σ H s):H s.heap.objs.size=none:=I.hok.fresh<|Jh _
def Inv.lstM(I:Inv X Jf σ H s)(hH:H l=B' (.lst xs)):xs.length<=sizeLine/\∃Lj n,Vals xs Lj/\xs.length=Lj.length/\s.heap.get? l=B' {cls:=.type "list",data:=.seq Lj.toArray n}:=by
 obtain⟨z,Lj,n,r,e⟩:=I.hok l _ hH;exact⟨z,Lj,n,r,r.length,e⟩
inductive FU (x:V)(vs:IW V)(H:Hp)(Q:VK):Prop
 |mk (l:I_)(xs:IW V)(y:V)(hx:x=.ref l)(hv:vs=[y])(h:H l=B' (.lst xs))(z:xs.length < sizeLine)(q:Q .non (upd H l<|.lst<|xs++[y])):FU x vs H Q
def oC:V->IW V->Hp->VK->Prop:=λx vs H Q=>FU x vs H Q
def bO:IE X "list.append" oC:=by
 intro Jf s σ H x vs v us Q I rx rv h;obtain⟨l,xs,y,rfl,rfl,hH,hz,q⟩:=h;cases rx;obtain⟨u,rfl,ru⟩:=rv.one;obtain⟨z,Lj,n,r,hl,e⟩:=I.lstM hH;refine W7 Ki ⟨_,e,rfl⟩ F.entry_list_append (F.args_list_append_2 _ _) (PySem.list_append l Lj.toArray n u<|by rw[JH];lia) ⟨e,?_⟩;refine⟨.non,_,I.lset (its':=Lj++[u]) hH e (by simp) (r.append<|.cons ru .nil) ?_,rfl,q⟩;rw[JC,Kk];lia
def Ia:R2:=λx y H Q=>∃l b xs zs,x=.ref l/\y=.ref b/\H l=B' (.lst xs)/\H b=B' (.lst zs)/\xs.length+zs.length<=sizeLine/\∀p,H p=Ji->Q (.ref p) (upd H p<|.lst<|xs++zs)
def jz:OpR X (Ot .Add) Ia:=by
 intro Jf s σ H x y v u Q I rx ry h;obtain⟨l,b,xs,zs,rfl,rfl,hH,hB,hz,q⟩:=h;cases rx;cases ry;obtain⟨z,Lj,n,r,hl,e⟩:=I.lstM hH;obtain⟨z2,aaB,n2,r2,YD,e2⟩:=I.lstM hB;refine PySem.P.add_list e e2 ?_ (by rw[JH,JH];lia);have ea:Lj.toArray++aaB.toArray=(Lj++aaB).toArray:=by simp
 rw[ea];exact⟨.ref _,_,I.lnew (t':=s.toks) (r.append r2) (by rw[JC];lia),rfl,q _ I.fresh⟩
section
variable {κ:Type}[NV κ]
def cx(kvs:IW (κ×V))(k:κ):Jd V:=(kvs.find? λkv=>decide (kv.1=k)).map (·.2)
def b_(kvs:IW (κ×V))(k:κ)(v:V):IW (κ×V):=
 if(kvs.any λkv=>decide (kv.1=k))=Je then kvs.map (λkv=>if kv.1=k then(kv.1,v)else kv)else kvs++[(k,v)]
def cT{p:κ×V}{r:IW (κ×V)}{k:κ}(e:p.1=k):cx (p::r) k=B' p.2:=by simp [cx,Mw,e]
def cU{p:κ×V}{r:IW (κ×V)}{k:κ}(e:¬p.1=k):cx (p::r) k=cx r k:=by simp [cx,Mw,e]
def gS(k:κ):∀kvs,(kvs.any λkv=>decide (kv.1=k))=(cx kvs k).isSome:=by grind[V,cx]
theorem pU(k j:κ)(y:V):∀kvs,cx (kvs.map λkv=>if kv.1=k then(kv.1,y)else kv) j=(cx kvs j).map λx=>if j=k then y else x
 |[]=>rfl
 |p::r=>by
  have ih:=pU k j y r;rw[Kz];by_cases h:p.1=k
  ·rw[JL h];by_cases e:p.1=j
   ·rw[cT (p:=(p.1,y)) e,cT e,QC,JL<|e.symm.trans h]
   ·rw[cU (p:=(p.1,y)) e,cU e,ih]
  ·rw[JK h];by_cases e:p.1=j
   ·rw[cT (p:=p) e,cT e,QC,JK λz=>h<|e.trans z]
   ·rw[cU (p:=p) e,cU e,ih]
def mP(k j:κ)(y:V):∀kvs,cx kvs k=Ji->cx (kvs++[(k,y)]) j=if j=k then B' y else cx kvs j:=by grind[V,cx]
def kZ(kvs:IW (κ×V))(k j:κ)(y:V):cx (b_ kvs k y) j=if j=k then B' y else cx kvs j:=by
 unfold b_;by_cases a:(kvs.any λkv=>decide (kv.1=k))=Je
 ·rw[JL a,pU];rw[gS]at a;by_cases e:j=k
  ·obtain⟨x,hx⟩:=Pi.mp a;rw[JL e,e,hx,QC,JL rfl]
  ·rw[JK e];cases cx kvs j with
   |none=>rfl
   |some x=>rw[QC,JK e]
 ·rw[JK a];refine mP k j y kvs ?_;rw[gS]at a;cases q:cx kvs k with
  |none=>rfl
  |some x=>rw[q]at a;exact(a rfl).elim
def cG(kvs:IW (κ×V))(k:κ)(v:V):(b_ kvs k v).length<=kvs.length+1:=by grind[V,b_]
def k_{kvs:IW (κ×V)}{k:κ}(v:V)(h:cx kvs k=Ji):b_ kvs k v=kvs++[(k,v)]:=by
 unfold b_;rw[gS,h];exact JK (by decide)
def RelO.isSome_eq(r:RelO o u):o.isSome=u.isSome:=by
 cases o with
 |none=>cases u with
  |none=>rfl
  |some _=>exact(show False from r).elim
 |some _=>cases u with
  |none=>exact(show False from r).elim
  |some _=>rfl
def KV.val(r:KV kvs vs)(k:κ):RelO (cx kvs k) (Rm vs k):=by
 unfold KV at r
 induction r with
 |nil=>exact MA
 |@cons p q ps qs h t ih=>
  obtain⟨h1,h2⟩:=h;by_cases e:p.1=k
  ·have e':q.1=k:=h1.symm.trans e;have b:Rm (q::qs) k=B' q.2:=by simp [Rm,Mw,e']
   rw[cT e,b];exact h2
  ·have e':¬q.1=k:=λz=>e<|h1.trans z;have b:Rm (q::qs) k=Rm qs k:=by simp [Rm,Mw,e']
   rw[cU e,b];exact ih
def KV.any(r:KV kvs vs)(k:κ):(kvs.any λkv=>decide (kv.1=k))=vs.any λkv=>decide (kv.1=k):=by
 unfold KV at r
 induction r with
 |nil=>rfl
 |cons h t ih=>rw[N5,N5,ih,h.1]
def KV.repl(r:KV kvs vs)(k:κ)(ry:RelV y u):
  KV (kvs.map λkv=>if kv.1=k then(kv.1,y)else kv) (vs.map λkv=>if kv.1=k then(kv.1,u)else kv):=by
 unfold KV at r ⊢
 induction r with
 |nil=>exact .nil
 |@cons p q ps qs h t ih=>
  rw[Kz,Kz];refine .cons ?_ ih;obtain⟨h1,h2⟩:=h;by_cases e:p.1=k
  ·rw[JL e,JL<|h1.symm.trans e];exact⟨h1,ry⟩
  ·rw[JK e,JK λz=>e<|h1.trans z];exact⟨h1,h2⟩
def KV.put(r:KV kvs vs)(k:κ)(ry:RelV y u):KV (b_ kvs k y) (stored vs k u):=by
 unfold b_ stored;rw[r.any k];by_cases e:(vs.any λkv=>decide (kv.1=k))=Je
 ·rw[JL e,JL e];exact r.repl k ry
 ·rw[JK e,JK e];exact Paired.snoc r ⟨rfl,ry⟩
def KV.length{kvs:IW (κ×V)}{vs:IW (κ×IX)}(r:KV kvs vs):kvs.length=vs.length:=Paired.length r
end
def iS(r:RelV (kV k) u):(bn P w).is k u=true:=by
 cases k with
 |inl i=>obtain⟨t,e⟩:=(show∃t,u=Ob i t from r);subst e;exact pJ P w i t
 |inr x=>obtain⟨t,e⟩:=(show∃t,u=VY x t from r);subst e;exact pK P w x t
theorem mQ:∀{ks:IW bz} {us:IW IX},Vals (ks.map kV) us->ItemsAre (bn P w) ks us
 |[],_,r=>by rw[QQ]at r;cases r;exact .nil
 |k::ks,_,r=>by
  rw[Kz]at r;cases r with
  |cons h t=>exact .cons (iS h)<|mQ t
abbrev KT(H:Hp):IW (IW bz×V)->IW (IW bz×I_×IX)->Prop:=Paired λp q=>p.1=q.1/\H q.2.1=B' (.tup<|p.1.map kV)/\RelV p.2 q.2.2
def KT.val(r:KT H kvs xs)(k:IW bz):RelO (cx kvs k) ((QH xs k).map (·.2)):=by
 induction r with
 |nil=>exact MA
 |@cons p q ps qs h t ih=>
  obtain⟨h1,_,h2⟩:=h;by_cases e:p.1=k
  ·have e':q.1=k:=h1.symm.trans e;have b:QH (q::qs) k=B' q.2:=by simp [QH,Mw,e']
   rw[cT e,b];exact h2
  ·have e':¬q.1=k:=λz=>e<|h1.trans z;have b:QH (q::qs) k=QH qs k:=by simp [QH,Mw,e']
   rw[cU e,b];exact ih
def KT.repl(r:KT H kvs xs)(k:IW bz)(ry:RelV y u):
  KT H (kvs.map λkv=>if kv.1=k then(kv.1,y)else kv) (xs.map<|putAt k u):=by
 induction r with
 |nil=>exact .nil
 |@cons p q ps qs h t ih=>
  rw[Kz,Kz];refine .cons ?_ ih;obtain⟨h1,h2,h3⟩:=h;unfold putAt;by_cases e:p.1=k
  ·rw[JL e,JL<|h1.symm.trans e];exact⟨h1,h2,ry⟩
  ·rw[JK e,JK λz=>e<|h1.trans z];exact⟨h1,h2,h3⟩
def KT.put(r:KT H kvs xs)(k:IW bz)(hb:H b=B' (.tup<|k.map kV))(ry:RelV y u):
  KT H (b_ kvs k y) (PP xs k b u):=by
 have e:(kvs.any λkv=>decide (kv.1=k))=(QH xs k).isSome:=by
  rw[gS,(r.val k).isSome_eq,Rx]
 unfold b_ PP;rw[e];by_cases q:(QH xs k).isSome=Je
 ·rw[JL q,JL q];exact r.repl k ry
 ·rw[JK q,JK q];exact Paired.snoc r ⟨rfl,hb,ry⟩
def KT.keeps(r:KT H kvs xs)(ht:∀b ys,H b=B' (.tup ys)->H' b=B' (.tup ys)):KT H' kvs xs:=
 Paired.mapP r λ_ _ z=>⟨z.1,ht _ _ z.2.1,z.2.2⟩
def Cs(ok:HOk P w H h)(e:Rd H a u):ObjOk P w H h a u:=e.ok ok
def jR(ok:HOk P w H h)(e:Rd H a (.dK kvs)):kvs.length<=sizeLine/\(a == MN)=Jg/\∃vs,KV kvs vs/\h.DictOf (bn P w) a vs:=
 show ObjOk P w H h a (.dK kvs)from Cs ok e
def Ct(ok:HOk P w H h)(e:H a=B' (.dK kvs)):kvs.length<=sizeLine/\(a == MN)=Jg/\∃vs,KV kvs vs/\h.DictOf (bn P w) a vs:=jR ok<|.inl e
def gU(ok:HOk P w H h)(e:H a=B' (.tup<|ks.map kV)):(L0<|bn P w).is h ks a:=by
 obtain⟨_,Lj,r,o,h1,h2,n,h3⟩:=(show ObjOk P w H h a (.tup<|ks.map kV)from ok a _ e);exact⟨o,Lj.toArray,n,h1,h2,h3,by simpa using mQ r⟩
def jS(ok:HOk P w H h)(e:Rd H a (.dT kvs)):kvs.length<=sizeLine/\(a == MN)=Jg/\
  ∃xs,KT H kvs xs/\h.DictOfH (L0<|bn P w) a xs:=by
 obtain⟨z,y,xs,r,o,es,ep,h1,h2,h3,h4,h5⟩:=(show ObjOk P w H h a (.dT kvs)from Cs ok e);refine⟨z,y,xs,r,o,es,ep,h1,h2,h3,h4,λx hx=>?_,h5⟩;have all:∀{l:IW (IW bz×V)} {m:IW (IW bz×I_×IX)},KT H l m->∀x∈m,(L0<|bn P w).is h x.1 x.2.1:=by
  intro l m q
  induction q with
  |nil=>intro x hx;exact nomatch hx
  |@cons p q ps qs hq t ih=>
   intro x hx;obtain e|hx:=J2.mp hx
   ·subst e;exact gU ok (by rw[<-hq.1];exact hq.2.1)
   ·exact ih x hx
 exact all r x hx
def FV(ok:HOk P w H h)(e:H a=B' (.dT kvs)):kvs.length<=sizeLine/\(a == MN)=Jg/\
  ∃xs,KT H kvs xs/\h.DictOfH (L0<|bn P w) a xs:=jS ok<|.inl e
def DGet(H:Hp)(a:I_)(y:V)(r:Jd V):Prop:=
 (∃kvs k,Rd H a (.dK kvs)/\y=kV k/\r=cx kvs k)\/∃kvs k b,Rd H a (.dT kvs)/\y=.ref b/\H b=B' (.tup<|k.map kV)/\r=cx kvs k
def DPut(H:Hp)(a:I_)(y v:V)(H':Hp):Prop:=
 (∃kvs k,H a=B' (.dK kvs)/\y=kV k/\kvs.length < sizeLine/\H'=upd H a (.dK<|b_ kvs k v))\/
 ∃kvs k b,H a=B' (.dT kvs)/\y=.ref b/\H b=B' (.tup<|k.map kV)/\kvs.length < sizeLine/\H'=upd H a (.dT<|b_ kvs k v)
def DGet.k{H:Hp}{a:I_}{kvs:IW (bz×V)}{k:bz}(e:H a=B' (.dK kvs)):DGet H a (kV k) (cx kvs k):=.inl ⟨kvs,k,.inl e,rfl,rfl⟩
def DGet.t{H:Hp}{a b:I_}{kvs:IW (IW bz×V)}{k:IW bz}(e:H a=B' (.dT kvs))(eb:H b=B' (.tup<|k.map kV)):DGet H a (.ref b) (cx kvs k):=.inr ⟨kvs,k,b,.inl e,rfl,eb,rfl⟩
def DPut.k{H:Hp}{a:I_}{kvs:IW (bz×V)}{k:bz}{v:V}(e:H a=B' (.dK kvs))(hl:kvs.length < sizeLine):DPut H a (kV k) v (upd H a<|.dK<|b_ kvs k v):=.inl ⟨kvs,k,e,rfl,hl,rfl⟩
def DPut.t{H:Hp}{a b:I_}{kvs:IW (IW bz×V)}{k:IW bz}{v:V}(e:H a=B' (.dT kvs))(eb:H b=B' (.tup<|k.map kV))(hl:kvs.length < sizeLine):
  DPut H a (.ref b) v (upd H a<|.dT<|b_ kvs k v):=.inr ⟨kvs,k,b,e,rfl,eb,hl,rfl⟩
def Inv.big(I:Inv X Jf σ H s):MN < s.heap.objs.size:=by
 have h:Jo < s.heap.objs.size:=(I.mod.glob.keeps I.bk).lt;exact QP (by decide) h
def vh(hu:A.units+1 < MZ)(I:Inv X Jf σ H s)(g:DGet H a y (B' v))(ry:RelV y u)(h:∀w' s',Inv X Jf σ H s'->RelV v w'->Q w' s'):
  wpAny (JS X.prog X.w) A (Vb (.ref a) u) Q E s:=by
 obtain⟨kvs,k,e,ey,l⟩|⟨kvs,k,b,e,ey,eb,l⟩:=g
 ·subst ey;obtain⟨z,hd,vs,Rz,dd⟩:=jR I.hok e;obtain⟨w',hw,ZP⟩:=RelO.some_of (v:=v) (o:=Rm vs k) (by rw[l];exact Rz.val k);exact wpAny_getItem_of (iS ry) dd.mapOf hw<|h w' _ (I.tok _) ZP
 ·subst ey;cases(show u=Kb b from ry);obtain⟨z,hd,xs,Rz,dd⟩:=jS I.hok e;obtain⟨w',hw,ZP⟩:=RelO.some_of (v:=v) (o:=(QH xs k).map (·.2)) (by rw[l];exact Rz.val k);obtain⟨p,hp,Y3⟩:=Lm.mp hw;refine wpAny_getItem_heap (NA hu) (gU I.hok eb) dd hp ?_;rw[Y3];exact h w' _ (I.tok _) ZP
def Ib(hu:A.units+1 < MZ)(I:Inv X Jf σ H s)(g:DGet H a y o)(ry:RelV y u)(h:∀s',Inv X Jf σ H s'->Q (.bool o.isSome) s'):
  wpAny (JS X.prog X.w) A (Ls .In u<|.ref a) Q E s:=by
 obtain⟨kvs,k,e,ey,l⟩|⟨kvs,k,b,e,ey,eb,l⟩:=g
 ·subst ey;obtain⟨z,hd,vs,Rz,dd⟩:=jR I.hok e;refine wpAny_in_of (iS ry) hd dd.mapOf ?_;rw[<-(Rz.val k).isSome_eq,<-l];exact h _<|I.tok _
 ·subst ey;cases(show u=Kb b from ry);obtain⟨z,hd,xs,Rz,dd⟩:=jS I.hok e;refine wpAny_in_heap (NA hu) (gU I.hok eb) hd dd ?_;have q:=(Rz.val k).isSome_eq;rw[Rx]at q;rw[<-q,<-l];exact h _<|I.tok _
def AL(hu:A.units+1 < MZ)(I:Inv X Jf σ H s)(g:DGet H a y o)(ry:RelV y u)(h:∀s',Inv X Jf σ H s'->Q (.bool (!o.isSome)) s'):
  wpAny (JS X.prog X.w) A (Ls .NotIn u<|.ref a) Q E s:=by
 obtain⟨kvs,k,e,ey,l⟩|⟨kvs,k,b,e,ey,eb,l⟩:=g
 ·subst ey;obtain⟨z,hd,vs,Rz,dd⟩:=jR I.hok e;refine wpAny_notIn_of (iS ry) hd dd.mapOf ?_;rw[<-(Rz.val k).isSome_eq,<-l];exact h _<|I.tok _
 ·subst ey;cases(show u=Kb b from ry);obtain⟨z,hd,xs,Rz,dd⟩:=jS I.hok e;refine wpAny_notIn_heap (NA hu) (gU I.hok eb) hd dd ?_;have q:=(Rz.val k).isSome_eq;rw[Rx]at q;rw[<-q,<-l];exact h _<|I.tok _
def iT{t':Nat}(I:Inv X Jf σ H s)(mu:Fl (H a))(hs:NQ a s.heap h')(he:∃q,h'.get? a=B' q)(new:ObjOk X.prog X.w (upd H a ob) h' a ob):
  Inv X Jf σ (upd H a ob) {s with heap:=h',toks:=t'}:=
 I.write (x:=a) (e:=a) mu (.inl rfl) (λb q hb z=>(hs.2 b hb).trans z) he new
def oE{H':Hp}(z:kvs.length<=sizeLine)(hd:(a == MN)=Jg)(Rz:KV kvs vs)(dd:h'.DictOf (bn P w) a vs):
  ObjOk P w H' h' a (.dK kvs):=⟨z,hd,vs,Rz,dd⟩
def vi(hu:A.units+1 < MZ)(I:Inv X Jf σ H s)(g:DPut H a y v H')(ry:RelV y u)(rv:RelV v r)(h:∀s',Inv X Jf σ H' s'->Q () s'):
  wpAny (JS X.prog X.w) A (setItem (.ref a) u r) Q E s:=by
 obtain⟨kvs,k,e,ey,l,eH⟩|⟨kvs,k,b,e,ey,eb,l,eH⟩:=g
 ·subst ey eH;obtain⟨z,hd,vs,Rz,dd⟩:=Ct I.hok e;have hz:vs.length<=sizeLine:=by rw[<-Rz.length];exact z
  have hl:(b_ kvs k v).length<=sizeLine:=by have:=cG kvs k v;lia
  refine wpAny_setItem_pairs (hsz:=hz) (iS ry) dd λh' dd' hs=>h _ ?_;have he:∃q,h'.get? a=B' q:=let ⟨q,_,_,hq,_⟩:=dd';⟨q,hq⟩
  exact iT I (by rw[e];exact MA) hs he<|oE hl hd (Rz.put k rv) dd'
 ·subst ey eH;cases(show u=Kb b from ry);obtain⟨z,hd,xs,Rz,dd⟩:=FV I.hok e;have hz:xs.length<=sizeLine:=by rw[<-Paired.length Rz];exact z
  have hl:(b_ kvs k v).length<=sizeLine:=by have:=cG kvs k v;lia
  refine wpAny_setItem_heap (hsz:=hz) (NA hu) (gU I.hok eb) dd λh' dd' hs=>h _ ?_;obtain⟨q,es,ep,hq,h2,h3,h4,_,h5⟩:=dd';refine iT I (by rw[e];exact MA) hs ⟨q,hq⟩ ⟨hl,hd,_,(Rz.put k eb rv).keeps λc ys ec=>?_,q,es,ep,hq,h2,h3,h4,h5⟩;rw[ao<|wI ec e λz=>nomatch z];exact ec
def FW(i:KJ):Prop:=∀ov iv,S9 i Jg ov iv=operate [ov,iv] (Vb ov iv)
def AM{prog:Js}{w:JV}{A:J8}{E:IX->Ja->Prop}{s:Ja}{env:Env}{value RQ:KJ}{pos:Pos}{T id:Mg}{Q:IX->Ja->Prop}
  (hl:Ut (.type T) "__getitem__"=pure (B'<|.builtin id)) (hs:FW RQ)
  (h:wpAny (JS prog w) A (MC value env) (λo s₁=>wpAny (JS prog w) A (MC RQ env) (λi s₂=>s₂.TypeIs o T/\wpAny (JS prog w) A (Vb o i) Q E s₂) E s₁) E s):
  wpAny (JS prog w) A (MC (.Subscript value RQ pos) env) Q E s:=by
 refine UM<|Kf h (λo s₁ h₁=>Kf h₁ (λi s₂ h₂=>?_) λ_ _ x=>x) λ_ _ x=>x;obtain⟨hT,h₂⟩:=h₂;unfold RK;refine IY ?_;rw[getitemInPython_of_ne hT.not_modules];refine IY<|SM hT hl ?_;have fin:wpAny (JS prog w) A (S9 RQ Jg o i) (λr s₃=>wpAny (JS prog w) A (letTemporaryGo value o r >>=λ_=>pure r) Q E s₃) E s₂:=by
  rw[hs o i];exact wpAny_operating<|Kf h₂ (λr s₃ h₃=>IY<|wpAny_letTemporaryGo<|Jl h₃) λ_ _ x=>x
 first
  |exact Jl<|IY fin
  |exact IY<|Jl<|IY fin
  |exact IY fin
def pV(I:Inv X Jf σ H s)(g:DGet H a y o):s.TypeIs (.ref a) "dict":=by
 obtain⟨kvs,k,e,_,_⟩|⟨kvs,k,b,e,_,_,_⟩:=g
 ·obtain⟨_,_,vs,_,dd⟩:=jR I.hok e;exact dd.typeIs
 ·obtain⟨_,_,xs,_,dd⟩:=jS I.hok e;exact dd.typeIs
def Cu(td ty:TE):TE:=λσ H Q=>td σ H λx H1=>ty σ H1 λy H2=>∃a v,x=.ref a/\DGet H2 a y (B' v)/\Q v H2
def Ic(ty td:TE):TE:=λσ H Q=>ty σ H λy H1=>td σ H1 λx H2=>∃a o,x=.ref a/\DGet H2 a y o/\Q (.bl o.isSome) H2
def AN(ty td:TE):TE:=λσ H Q=>ty σ H λy H1=>td σ H1 λx H2=>∃a o,x=.ref a/\DGet H2 a y o/\Q (.bl (!o.isSome)) H2
def FX(td ty tv:TE):TS:=λD σ H=>tv σ H λv H1=>td σ H1 λx H2=>ty σ H2 λy H3=>∃a H4,x=.ref a/\DPut H3 a y v H4/\D.nx σ H4
def de(hu:X.A.units+1 < MZ)(ho:PE X o td)(hi:PE X i ty)(hs:FW i):PE X (.Subscript o i pos) (Cu td ty):=by
 intro Jf s σ H Q I h;refine AM PySem.F.slot_dict_getitem.lookup hs<|bV (ho Jf s σ H _ I h) λu s1 ⟨x,H1,I1,rx,q1⟩=>bV (hi Jf s1 σ H1 _ I1 q1) λiv s2 ⟨y,H2,I2,ry,a,v,ex,g,q2⟩=>?_;subst ex;obtain rfl:u=Kb a:=rx;exact⟨pV I2 g,vh hu I2 g ry λw' s3 I3 ZP=>⟨v,H2,I3,ZP,q2⟩⟩
def DX(hu:X.A.units+1 < MZ)(hi:PE X i ty)(ho:PE X o td):PC X .In i o (Ic ty td):=by
 intro Jf s σ H Q I h;refine bV (hi Jf s σ H _ I h) λiv s1 ⟨y,H1,I1,ry,q1⟩=>bV (ho Jf s1 σ H1 _ I1 q1) λu s2 ⟨x,H2,I2,rx,a,ov,ex,g,q2⟩=>?_;subst ex;obtain rfl:u=Kb a:=rx;exact Ib hu I2 g ry λs3 I3=>⟨.bl ov.isSome,H2,I3,rfl,q2⟩
def vj(hu:X.A.units+1 < MZ)(hi:PE X i ty)(ho:PE X o td):PC X .NotIn i o (AN ty td):=by
 intro Jf s σ H Q I h;refine bV (hi Jf s σ H _ I h) λiv s1 ⟨y,H1,I1,ry,q1⟩=>bV (ho Jf s1 σ H1 _ I1 q1) λu s2 ⟨x,H2,I2,rx,a,ov,ex,g,q2⟩=>?_;subst ex;obtain rfl:u=Kb a:=rx;exact AL hu I2 g ry λs3 I3=>⟨.bl (!ov.isSome),H2,I3,rfl,q2⟩
def kn(hu:X.A.units+1 < MZ)(ho:PE X o td)(hi:PE X i ty)(hv:PE X value tv)(hs:QT value (B'<|.Subscript o i RA) pos.line X.env=pure Jg):
  PS X (.Assign [.Subscript o i RA] value pos) (FX td ty tv):=by
 intro Jf s σ H D I h;refine wpAny_Assign_Subscript (bV (hv Jf s σ H _ I h) λr s1 ⟨v,H1,I1,rv,q1⟩=>bV (ho Jf s1 σ H1 _ I1 q1) λu s2 ⟨x,H2,I2,rx,q2⟩=>bV (hi Jf s2 σ H2 _ I2 q2) λiv s3 ⟨y,H3,I3,ry,a,H4,ex,g,q3⟩=>?_) hs;subst ex;obtain rfl:u=Kb a:=rx;exact vi hu I3 g ry rv λs4 I4=>⟨σ,H4,I4,q3⟩
def pW(h:J6)(hb:MN < h.objs.size):ObjOk P w H (h.push {cls:=.type "dict",data:=.dict #[]}) h.objs.size (.dK []):=
 ⟨JQ _,LQ.mpr<|Ma<|JO hb,[],.nil,Ww h⟩
def wU(h:J6)(hb:MN < h.objs.size):ObjOk P w H (h.push {cls:=.type "dict",data:=.dict #[]}) h.objs.size (.dT []):=
 ⟨JQ _,LQ.mpr<|Ma<|JO hb,[],.nil,_,#[],0,JX _ rfl,⟨rfl,rfl,rfl⟩,rfl,rfl,TF⟩
def DY:TE:=λ_ H Q=>∀p,H p=Ji->Q (.ref p) (upd H p<|.dK [])
def DZ:TE:=λ_ H Q=>∀p,H p=Ji->Q (.ref p) (upd H p<|.dT [])
def pX:PE X (.Dict [] [] pos) DY:=λJf s σ H Q I h=>
 VM ⟨.ref s.heap.objs.size,_,I.laid (a:=s.heap.objs.size) (o:=.dK []) (t':=s.toks) (λ_ _ q=>Jb _ q) (Jh _)<|pW s.heap I.big,rfl,h _<|I.hok.fresh<|Jh _⟩
def wV:PE X (.Dict [] [] pos) DZ:=λJf s σ H Q I h=>
 VM ⟨.ref s.heap.objs.size,_,I.laid (a:=s.heap.objs.size) (o:=.dT []) (t':=s.toks) (λ_ _ q=>Jb _ q) (Jh _)<|wU s.heap I.big,rfl,h _<|I.hok.fresh<|Jh _⟩
def rE:IW (TE×TE)->St->Hp->(IW (V×V)->Hp->Prop)->Prop
 |[],_,H,Q=>Q [] H
 |(tk,tv)::r,σ,H,Q=>tk σ H λx H1=>tv σ H1 λy H2=>rE r σ H2 λps H3=>Q ((x,y)::ps) H3
abbrev VV:IW (V×V)->IW (IX×IX)->Prop:=Paired λp q=>RelV p.1 q.1/\RelV p.2 q.2
def Hx(X:Cx)(pos:Pos)(QJ:IW (Jd KJ))(WN:IW KJ)(trs:IW (TE×TE)):Prop:=
 ∀(Jf:IW (I_×Obj)) (s:Ja) (σ:St) (H:Hp) (Q:IW (V×V)->Hp->Prop),Inv X Jf σ H s->rE trs σ H Q->
  wpAny (JS X.prog X.w) X.A (evalPairs<|pairTrees QJ WN X.env pos) (λvs s'=>∃ps H',Inv X Jf σ H' s'/\VV ps vs/\Q ps H') X.xe s
def tF:Hx X pos [] [] []:=λJf s σ H Q I h=>pairTrees_nil_walk ⟨[],H,I,.nil,h⟩
def lb(hk:PE X k tk)(hv:PE X v tv)(hr:Hx X pos ks vs trs):
  Hx X pos (B' k::ks) (v::vs) ((tk,tv)::trs):=λJf s σ H Q I h=>
 pairTrees_cons_walk (bV (hk Jf s σ H _ I h) λu s1 ⟨x,H1,I1,rx,q1⟩=>bV (hv Jf s1 σ H1 _ I1 q1) λw2 s2 ⟨y,H2,I2,ry,q2⟩=>
  bV (hr Jf s2 σ H2 _ I2 q2) λws s3 ⟨ps,H3,I3,Rz,q3⟩=>⟨(x,y)::ps,H3,I3,.cons ⟨rx,ry⟩ Rz,q3⟩)
def fT(kvs more:IW (bz×V)):IW (bz×V):=more.foldl (λNG kv=>b_ NG kv.1 kv.2) kvs
def KV.merge:∀{more:IW (bz×V)} {rs:IW (bz×IX)} {kvs:IW (bz×V)} {vs:IW (bz×IX)},KV more rs->KV kvs vs->KV (fT kvs more) (Uu vs rs):=by
 intro more rs kvs vs r;unfold KV at r
 induction r generalizing kvs vs with
 |nil=>intro q;exact q
 |@cons p q ps qs h t ih=>
  intro r0;have e:KV (b_ kvs p.1 p.2) (stored vs q.1 q.2):=by
   have:=r0.put p.1 h.2;rw[<-h.1];exact this
  exact ih e
theorem iC:∀more kvs,(fT kvs more).length<=kvs.length+more.length
 |[],kvs=>by show kvs.length<=kvs.length+0;lia
 |p::r,kvs=>by
  have h1:=iC r<|b_ kvs p.1 p.2;have h2:=cG kvs p.1 p.2;show(fT (b_ kvs p.1 p.2) r).length<=_
  rw[J4];lia
theorem lh:∀{kvs:IW (bz×V)} {ws:IW (IX×IX)},VV (kvs.map λkv=>(kV kv.1,kv.2)) ws->∃rs,Carries (bn P w) ws rs/\KV kvs rs
 |[],_,r=>by rw[QQ]at r;cases r;exact⟨[],MA,.nil⟩
 |p::kvs,_,r=>by
  rw[Kz]at r;cases r with
  |@cons a b as bs h t=>
   obtain⟨rs,c,q⟩:=lh (P:=P) (w:=w) t;obtain⟨b1,b2⟩:=b;exact⟨(p.1,b2)::rs,⟨iS h.1,rfl,c⟩,.cons ⟨rfl,h.2⟩ q⟩
def pY(trs:IW (TE×TE)):TE:=λσ H Q=>∀p,H p=Ji->rE trs σ (upd H p<|.dK []) λps H2=>H2 p=B' (.dK [])/\∃kvs:IW (bz×V),ps=kvs.map (λkv=>(kV kv.1,kv.2))/\kvs.length<=15/\Q (.ref p) (upd H2 p<|.dK<|fT [] kvs)
def tG(h:Hx X pos QJ WN trs)(RB:QJ.all (·.isSome)=Je)(hl:QJ.length=WN.length)(h0:QJ≠[])
  (h15:QJ.length<=15):PE X (.Dict QJ WN pos) (pY trs):=by
 intro Jf s σ H Q I q;have hn:=I.hok.fresh<|Jh s.heap.objs.size;have I1:=I.laid (a:=s.heap.objs.size) (o:=.dK []) (h':=s.heap.push {cls:=.type "dict",data:=.dict #[]}) (t':=s.toks) (λ_ _ q=>Jb _ q) (Jh _)<|pW s.heap I.big;refine wpAny_Dict_walk (knd:=bn X.prog X.w) RB hl h0 h15<|bV (h Jf _ σ _ _ I1<|q _ hn) λws s2 ⟨ps,H2,I2,Rz,e,kvs,ep,lk,q2⟩=>?_;subst ep;obtain⟨rs,c,rk⟩:=lh (P:=X.prog) (w:=X.w) Rz;obtain⟨z,hd,vs0,r0,dd⟩:=Ct I2.hok e;cases r0;refine⟨rs,c,dd,λh' dd' hs=>⟨.ref s.heap.objs.size,_,?_,rfl,q2⟩⟩;have hz:(fT [] kvs).length<=sizeLine:=by
  have h1:=iC kvs [];rw[Lk]at h1;rw[Lf];lia
 have he:∃q,h'.get? s.heap.objs.size=B' q:=let ⟨q,_,_,hq,_⟩:=dd';⟨q,hq⟩
 exact iT I2 (by rw[e];exact MA) hs he<|oE hz hd (rk.merge .nil) dd'
structure M2 (X:Cx)(o:KJ)(m:Str)(Uo:Pos)(e f:KJ)(Qp:Pos):Prop where
 base:RH o m X.env (MC o X.env)=MC o X.env
 few:((Nh Qp<|J3 [e,f] X.env).all (λx=>!x.1)&&(Zm Qp<|Wf [] X.env).all (λx=>x.1.isSome)
  &&decide (([e,f]:IW KJ).length+([]:IW WL).length+(if([]:IW WL).isEmpty then 0 else 1) < 30))=Je
 line:(Uo.endLine == Qp.line)=Je
 trees:Nh Qp (J3 [e,f] X.env)=[(Jg,MC e X.env),(Jg,MC f X.env)]
def IF(H:Hp)(a:I_):Prop:=(∃kvs,Rd H a<|.dK kvs)\/∃kvs,Rd H a<|.dT kvs
def D5(I:Inv X Jf σ H s)(d:IF H a):
  s.TypeIs (.ref a) "dict"/\(∀b,Kb a=.ref b->∃ob,s.heap.get? b=B' ob/\ob.dict=Ji)/\(a == MN)=false:=by
 obtain⟨kvs,e⟩|⟨kvs,e⟩:=d
 ·obtain⟨_,hd,vs,_,dd⟩:=jR I.hok e;refine⟨dd.typeIs,λb q=>?_,hd⟩;cases q;obtain⟨ob,_,_,h1,h2,_⟩:=dd;exact⟨ob,h1,h2.2.1⟩
 ·obtain⟨_,hd,xs,_,dd⟩:=jS I.hok e;refine⟨dd.typeIs,λb q=>?_,hd⟩;cases q;obtain⟨ob,_,_,h1,h2,_⟩:=dd;exact⟨ob,h1,h2.2.1⟩
end L2
namespace Att
open PySem PySem.W PySem.Calls PyProof.Rows
def kh:∀ns vs,WellAll P h vs (ns.map aaX)->Nd vs ns:=by
 intro ns
 induction ns with
 |nil=>
  intro vs w;rw[QQ]at w;cases w;exact .nil
 |cons n ns ih=>
  intro vs w;rw[Kz]at w;cases w with
  |cons a b=>
   cases a;exact .cons _ _<|ih _ b
def vk{l:Qq}{n:Nat}(hn:l.most=B' n){P:YS}{h:J6}{args:IW WData}{acH:IW IX}
  (ZV:l.row.toRowW.claim.pre args=Je) (hwl:WellAll P h acH args):
  ∃a vs ns,acH=[Kb a]/\args=[WData.list<|ns.map aaX]/\h.get? a=B' {cls:=.type "list",data:=.seq vs.toArray}/\Nd vs ns/\ns.length<=n:=by
 have Xv:WShape.hasAll [] args [.list .int]=true:=(pre_splitW ZV).1;have hc:l.pre.holds [] {args:=args}=true:=(pre_splitW ZV).2;obtain⟨d,r,rfl,h1,h2⟩:=hasAllW_cons Xv;obtain rfl:=hasAllW_nil h2;obtain⟨xs,rfl,h3⟩:=hasW_list h1;obtain⟨ns,rfl⟩:=items_int h3;have L_:ns.length<=n:=by
  unfold OpenLaw.pre at hc;have h4:(WTm.not<|.lt (.lit<|.int (n:Int))<|.len<|.arg 0).holds [] {args:=[.list<|ns.map .int]}=true:=by
   have h4:=(holds_andW hc).1;rw[hn]at h4;exact h4
  have h5:=condW_of h4<|w_not<|w_lt w_lit<|w_len_list<|w_arg rfl;rw[Jc]at h5;refine V3 λq=>?_;have q':(n:Int) < ((ns.length:Nat):Int):=by lia
  first
   |(rw[Jz q']at h5;exact absurd h5<|by decide)
   |(simp at h5;lia)
 cases hwl with
 |cons w1 w2=>
  cases w2;cases w1 with
  |list ho RB=>exact⟨_,_,ns,rfl,rfl,ho,kh ns _ RB,L_⟩
def vm(l:Qq)(args:IW WData):l.row.toRowW.claim.post args (.bool Je) args=true:=
 postW_of (r:=l.row.toRowW) (X:=(Je == Je))
  (show Z5 [] (.bool Je) .bool=Je by first|rfl|decide|simp [Z5,WShape.arms,WShape.armsAll])
  (show(WTm.eq .res<|.lit<|.bool Je).value [] {args:=args,res:=B'<|.bool Je,after:=args}=B' (.bool<|Je == Je)from w_eq_bool (w_res rfl) w_lit) rfl
def attach_call{l:Qq}{n:Nat}{q:Js}{loose:IW Str}{XP:(Str->Jd IX)->J6->Prop}{YP:JV->J6->Prop}{d:DefRec}
  (hn:l.most=B' n) (hdf:d.params.defaults=[])
  (call:∀w s₀ s₁ mg mb fa o pm cd UY a vs ns,
   Ground q loose [] XP w s₀ mg mb s₁.heap->YP w s₁.heap->
   s₁.heap.get? fa=B' o->o.data=.func (docDef d.name d.params d.body d.scope pm cd UY)->s₁.heap.CodeRec cd d.name->mg d.name=B' (.ref fa)->
   s₁.heap.get? a=B' {cls:=.type "list",data:=.seq vs.toArray}->Nd vs ns->ns.length<=n->s₁.gens=#[]->
   codeAny (JS l.prog w) TY (.call (.ref fa) ⟨[.ref a],[]⟩) (λr s'=>r=.ok (.ret<|.bool Je)/\OldK s₁.heap s'.heap/\s'.os=s₁.os/\Qn s'.gens) s₁):
  VW q loose XP YP l.row.toRowW d [] (λf vs=>Uz f vs):=by
 intro w s₀ s₁ mg mb G Y fa o pm cd UY dV kV ho hd Yo hD hmg hg args acH as ZV hlay hrd hwl hlo;obtain rfl:dV=.none:=Dflts.none hD hdf;obtain rfl:kV=.none:=Dflts.noKw hD;obtain⟨a,vs,ns,rfl,rfl,ac_,WT,L_⟩:=vk hn ZV hwl;refine enter_call<|Oi (call w s₀ s₁ mg mb fa o pm cd UY a vs ns G Y ho (fd_plain hd) Yo hmg ac_ WT L_ hg) λr s' hq=>?_;obtain⟨rfl,h2,h3,h4⟩:=hq;exact⟨.inl ⟨.bool Je,.bool Je,[],rfl,λ_=>rfl,.bool Je,vm l _,λ_=>⟨OC,λ_ hm=>(nomatch hm)⟩⟩,h2,h3,h4⟩
end Att
namespace L2
open PySem PySem.Spec PyProof.Rows
theorem gb:∀{vs:IW IX} {ns:IW Int},Nd vs ns->Vals (ns.map V.int) vs
 |_,_,.nil=>.nil
 |_,_,.cons n t h=>.cons ⟨t,rfl⟩<|gb h
def D6(H:Hp):Prop:=∀b,H b=Ji\/∃o xs,H b=B' (.frz o<|.lst xs)
def wW{P:Js}{w:JV}{K:IZ}{mg mb:Str->Jd IX}{CX:tD}{k:Nat}{fa a:I_}{fd:JP}{x:Str}{sp:Sp}{s₁:Ja}{vs:IW IX}{ns:IW Int}
  (KX:K.In s₁.heap) (hns:s₁.heap.Ns Jo mg) (hb:s₁.heap.Ns W9 mb) (hbb:∀x:Str,x≠"__name__"->mb x=PQ x) (agW:s₁.heap.NoLimit) (hg:s₁.gens=#[])
  (ha:s₁.heap.get? a=B' {cls:=.type "list",data:=.seq vs.toArray}) (hi:Nd vs ns) (hl:ns.length<=sizeLine) (hr:Room k TY)
  (F:∀base:J6,K.In base->base.Ns Jo mg->FnOk P w K mg base CX k fa fd [x] sp) (ae4:∀(s:Ja) (u:IX),Vl s fd ⟨[u],[]⟩ [(x,u)])
  (hsp:∀H:Hp,D6 H->SqL K H a (ns.map V.int)->sp [.ref a] H (λv _=>v=.bl Je) λ_ _ _=>False)
  (hCX:∀H e s',CX [] H s₁ (λ_ _ _=>False) e s'->False):
  codeAny (JS P w) TY (.call (.ref fa) ⟨[.ref a],[]⟩) (λr s'=>r=.ok (.ret<|.bool Je)/\OldK s₁.heap s'.heap/\s'.os=s₁.os/\Qn s'.gens) s₁:=by
 have rv:=gb hi;have agk:=hi.length;have ae8:∀H:Hp,D6 H->SqL K H a (ns.map V.int)->HOk P w H s₁.heap->(∀b,H b≠Ji->b=a)->(H a≠Ji->K.lookup a=Ji)->
   codeAny (JS P w) TY (.call (.ref fa) ⟨[.ref a],[]⟩) (λr s'=>r=.ok (.ret<|.bool Je)/\OldK s₁.heap s'.heap/\s'.os=s₁.os/\Qn s'.gens) s₁:=by
  intro H hO hS hok hA hK;have aas:∀{b:I_} {o:Obj},s₁.heap.get? b=B' o->H b=Ji->(oq s₁.heap H).get? b=B' o:=λe n=>wJ e n;have noA:∀{b:I_} {o:Obj} {es:JF DictEntry} {ep:Nat},s₁.heap.get? b=B' o->o.data=.dict es ep->H b=none:=λ{b o es ep} e d=>by
   cases q:H b with
   |none=>rfl
   |some u=>
    have e':b=a:=hA b (by rw[q];simp);subst e';rw[ha]at e;cases e;have d':Data.seq vs.toArray _=aa2 es ep:=d;cases d'
  have nsK:∀{b:I_} {m:Str->Jd IX},s₁.heap.Ns b m->(oq s₁.heap H).Ns b m:=λ{b m} ⟨o,es,ep,e,d,r⟩=>⟨o,es,ep,aas e<|noA e d,d,r⟩;have hKb:K.In (oq s₁.heap H):=λb o e=>aas (KX b o e) (by
   cases q:H b with
   |none=>rfl
   |some u=>
    have e':b=a:=hA b (by rw[q];simp);subst e';rw[hK<|by rw[q];simp]at e;cases e)
  have hM:Mod K mg (oq s₁.heap H):=⟨hKb,nsK hns,⟨mb,nsK hb,hbb⟩,let ⟨mc,h1,h2⟩:=agW;⟨mc,nsK h1,h2⟩⟩;have e0:Env0 P w K mg (oq s₁.heap H) TY [] s₁ H:=⟨rfl,hM,λb o e=>AA e,Vt<|u9 _ _,trivial,λb hb=>absurd (show b∈([]:IW I_)from hb) (by simp),hok,.of_eq hg⟩;refine Oi ((F _ hKb<|nsK hns).run TY [] s₁ H ⟨[.ref a],[]⟩ [.ref a] [.ref a] _ _ hr e0 (ae4 s₁<|.ref a) (.cons rfl .nil)<|hsp H hO hS) λr s' h=>?_;cases r with
  |error e=>exact(hCX H e s' h).elim
  |ok fl=>
   cases fl with
   |next=>exact LJ h
   |brk=>exact LJ h
   |cont=>exact LJ h
   |ret u=>
    obtain⟨v,H',os,bare,un,agP,r',q⟩:=h;have q':v=.bl true:=q;subst q';obtain rfl:u=Xd true:=r';refine⟨rfl,OldK.of_keep λb o e=>?_,os,bare⟩;cases q:H b with
    |none=>exact un.keep b o e q (by intro z;exact absurd (show b∈([]:IW I_)from z)<|by simp) (by simp)
    |some u=>
     obtain z|⟨ob,xs,z⟩:=hO b
     ·rw[q]at z;cases z
     ·have z2:=un.frzs b ob _ z;obtain⟨e1,_⟩:=hok b _ z;obtain⟨e2,_⟩:=agP b _ z2;rw[e]at e1;cases e1;exact e2
 cases hk:K.lookup a with
 |some o=>
  have e:=KX a o hk;rw[ha]at e;cases e;refine ae8 (λ_=>Ji) (λ_=>.inl rfl) (.inr ⟨_,vs.toArray,_,hk,rfl,rfl,rfl,by rw[JH,agk];exact hl,by simpa using rv⟩) (λb u z=>by have z':(Ji:Jd HO)=B' u:=z;cases z') (λb z=>absurd rfl z) λz=>absurd rfl z
 |none=>
  refine ae8 (λb=>if b=a then B' (.frz {cls:=.type "list",data:=.seq vs.toArray}<|.lst<|ns.map V.int)else Ji) (λb=>?_) (.inl<|.inr ⟨{cls:=.type "list",data:=.seq vs.toArray},JL rfl⟩) (λb u z=>?_) (λb z=>?_) λ_=>hk
  ·by_cases hb:b=a
   ·exact .inr ⟨_,_,JL hb⟩
   ·exact .inl<|JK hb
  ·by_cases hb:b=a
   ·have z':=(JL hb).symm.trans z;cases z';subst hb;exact⟨ha,by rw[Jc];exact hl,vs,_,rv,ha⟩
   ·have z':=(JK hb).symm.trans z;cases z'
  ·by_cases hb:b=a
   ·exact hb
   ·exact absurd (JK hb) z
def walk_of{l:Qq}{n k:Nat}{q:Js}{loose:IW Str}{XP:(Str->Jd IX)->J6->Prop}{YP:JV->J6->Prop}{d:DefRec}{K:YS->IZ}{CX:JV->tD}{sp:JV->Sp}{x:Str}
  (hn:l.most=B' n) (hn2:n<=sizeLine) (hdf:d.params.defaults=[]) (hr:Room k TY)
  (hY:∀(w:JV) (h:J6),YP w h->(K w.params).In h)
  (F:∀(w:JV) (mg:Str->Jd IX) (fa:I_) (h:J6),(K w.params).In h->h.Ns Jo mg->mg d.name=B' (.ref fa)->
   ∃fd:JP,(∀(s:Ja) (u:IX),Vl s fd ⟨[u],[]⟩ [(x,u)])/\
    ∀base:J6,(K w.params).In base->base.Ns Jo mg->FnOk l.prog w (K w.params) mg base (CX w) k fa fd [x] (sp w))
  (hsp:∀(w:JV) (H:Hp) (a:I_) (ns:IW Int),ns.length<=n->D6 H->SqL (K w.params) H a (ns.map V.int)->sp w [.ref a] H (λv _=>v=.bl Je) λ_ _ _=>False)
  (hCX:∀(w:JV) (H:Hp) (s:Ja) (e:IX) (s':Ja),CX w [] H s (λ_ _ _=>False) e s'->False):
  VW q loose XP YP l.row.toRowW d [] (λf vs=>Uz f vs):=by
 refine Att.attach_call hn hdf λw s₀ s₁ mg mb fa o pm cd UY a vs ns G Y ho hd Yo hmg ac_ WT L_ hg=>?_;have KX:=hY w _ Y;obtain⟨fd,hb,hF⟩:=F w mg fa _ KX G.T.g hmg;exact wW KX G.T.g G.T.b G.T.builtins G.T.nolimit hg ac_ WT (Lb L_ hn2) hr hF hb (λH hO hS=>hsp w H a ns L_ hO hS) λH e s'=>hCX w H s₁ e s'
def AO(s:Lh)(j:Nat):Lh:=match s with
 |.ClassDef _ _ _ body _ _ _ _ _ _ _=>body.getD j<|.Pass ⟨0,0,0,0⟩
 |_=>.Pass ⟨0,0,0,0⟩
def eI(s:Lh):Arguments:=match s with
 |.FunctionDef _ a _ _ _ _ _ _ _ _=>a
 |_=>{posonlyargs:=[],args:=[],vararg:=Ji,kwonlyargs:=[],kw_defaults:=[],kwarg:=Ji,defaults:=[]}
def cM(s:Lh):IW Lh:=match s with
 |.FunctionDef _ _ b _ _ _ _ _ _ _=>b
 |_=>[]
def ap(s:Lh):O3:=match s with
 |.FunctionDef _ _ _ _ _ _ sc _ _ _=>sc
 |_=>{kind:=.function,names:=[],isGenerator:=Jg,isCoroutine:=Jg}
abbrev dh:tD:=λ_ _ _ _ _ _=>False
abbrev E0:XK:=λ_ _ _=>False
def FY:kY dh X E0:=λ_ _ _ _ _ _ _ h=>h.elim
structure Fun (K:IZ)(x qual:Str)(st:Lh)(f:I_)(fd:JP):Prop where
 ex:∃(oc:IX) (od:Jd I_) (kV UY pm:IX) (an:Jd I_) (MG ct:IX) (osl:JF (Jd IX)),
  fd=MO x qual (eI st) (cM st) (ap st) .none kV UY pm an MG ct/\K.lookup f=B' ⟨oc,od,.func fd,osl⟩/\Tf K MG qual=Je
 kp:Mn K (.ref f)=Je
section
variable {K:IZ}
def Fun.ok{st:Lh}{k:Nat}(F:Fun K x qual st f fd)(S:aH N ps (ap st))(len:∀vs H Q E,sp vs H Q E->vs.length=ps.length)
  (WW:∀MG A outer s H vs Q E,Room k (A.deeper<|J' qual (ap st) s.heap.objs.size f MG)->sp vs H Q E->
   ∃t,PSs (cq dh P w K mg base N qual (ap st) f MG A outer s H E).nox (cM st) t/\t {nx:=λ_ H'=>Q .non H',rt:=Q} (start N vs) H):FnOk P w K mg base dh (k+1) f fd ps sp:=by
 obtain⟨oc,od,kV,UY,pm,an,MG,ct,osl,rfl,lk,Yo⟩:=F.ex;refine wR lk Yo S len λA outer s H vs Q E hr hsp=>?_;obtain⟨t,h,q⟩:=WW MG A outer s H vs Q E hr hsp;exact⟨t,h.nox,q⟩
def Fun.binds{st:Lh}{ps:IW Str}(F:Fun K x qual st f fd)
  (h:∀kV UY pm an MG ct us,us.length=ps.length->RZ (MO x qual (eI st) (cM st) (ap st) .none kV UY pm an MG ct) ⟨us,[]⟩=pure (ps.zip us)):Binds K fd ps []:=by
 obtain⟨oc,od,kV,UY,pm,an,MG,ct,osl,rfl,lk,Yo⟩:=F.ex;exact .all<|h kV UY pm an MG ct
def fun_mk{st:Lh}{kV:IX}(l:K.lookup f=B' ⟨oc,od,.func<|MO x qual (eI st) (cM st) (ap st) .none kV UY pm an MG ct,osl⟩)
  (c:Tf K MG qual=Je) (k:Mn K (.ref f)=Je):Fun K x qual st f (MO x qual (eI st) (cM st) (ap st) .none kV UY pm an MG ct):=⟨⟨oc,od,kV,UY,pm,an,MG,ct,osl,rfl,l,c⟩,k⟩
end
def Cv(hr:Room k A):A.units+1 < MZ:=Om (Nat.add_le_add_left (by decide:1<=64) _) hr.units
def aE(h:n<=1000):n < sizeLine:=Om h (by decide)
def pv(i:Nat){pos:Pos}(hN:X.N[i]? =B' x:=by rfl)(hv:HH X.env.scope x:=by first|exact JD rfl|exact O_ (JD rfl)|exact O_<|O_ rfl)(hd:(x == ("__debug__":Str))=false:=by decide)
  (Yo:(x == ("__classdict__":Str))=false:=by decide):PE X (.Name x pos) (gn i):=DI hN hv hd Yo
def aQ{A B:Prop}(h:B):if Jg=Je then A else B:=by
 rw[JK JR];exact h
def aW{A B:Prop}(h:A):if Je=Je then A else B:=by
 rw[JL rfl];exact h
def fU{c A B:Prop} [Decidable c] (h1:c->A)(h2:¬c->B):if c then A else B:=by grind
def Same(H H':Hp):Prop:=∀b o,H b=B' o->H' b=B' o
def Same.refl(H:Hp):Same H H:=λ_ _ h=>h
def Same.trans(a:Same H H1)(b:Same H1 H2):Same H H2:=λc o h=>b c o<|a c o h
def Same.free(e:Same H H')(h:H' l=Ji):H l=Ji:=by
 cases q:H l with
 |none=>rfl
 |some o=>
  rw[e l o q]at h;cases h
def Same.seq{K:IZ}(e:Same H H')(h:SqL K H a xs):SqL K H' a xs:=by
 obtain(h|⟨o,h⟩)|h:=h
 ·exact .inl<|.inl<|e _ _ h
 ·exact .inl<|.inr ⟨o,e _ _ h⟩
 ·exact .inr h
section
variable {κ:Type}[NV κ]
def tH:∀{l:IW κ} {k:κ},l.Nodup->¬k∈l->(l++[k]).Nodup:=by grind
end
end L2
namespace L2
open PySem
def wX(h:n<=10000):n < sizeLine:=Om h (by decide)
end L2
namespace L2
open PySem PySem.Spec PyProof.Rows
mutual
def RD(H:Hp):Jw->V->Prop
 |.none,v=>v=.non
 |.bool b,v=>v=.bl b
 |.int i,v=>v=.int i
 |.str x,v=>v=.str x
 |.list ds,v=>∃a xs,v=.ref a/\H a=B' (.lst xs)/\dJ H ds xs
 |.tuple ds,v=>∃a xs,v=.ref a/\H a=B' (.tup xs)/\dJ H ds xs
 |.dict _,_=>False
def dJ(H:Hp):IW Jw->IW V->Prop
 |[],xs=>xs=[]
 |d::ds,xs=>∃y ys,xs=y::ys/\RD H d y/\dJ H ds ys
end
def bI(h:H a=B' (.lst xs))(r:dJ H ds xs):RD H (.list ds) (.ref a):=by
 unfold RD;exact⟨a,xs,rfl,h,r⟩
def bo(h:H a=B' (.tup xs))(r:dJ H ds xs):RD H (.tuple ds) (.ref a):=by
 unfold RD;exact⟨a,xs,rfl,h,r⟩
def fF(h:RD H (.list ds) v):∃a xs,v=.ref a/\H a=B' (.lst xs)/\dJ H ds xs:=by
 unfold RD at h;exact h
def aM(h:RD H (.tuple ds) v):∃a xs,v=.ref a/\H a=B' (.tup xs)/\dJ H ds xs:=by
 unfold RD at h;exact h
def AQ:RD H .none .non:=by unfold RD;rfl
def AR(b:JJ):RD H (.bool b) (.bl b):=by unfold RD;rfl
def bP(i:Int):RD H (.int i) (.int i):=by unfold RD;rfl
def bS(x:Str):RD H (.str x) (.str x):=by unfold RD;rfl
def aJ:dJ H [] []:=by unfold dJ;rfl
def am(h:RD H d y)(t:dJ H ds ys):dJ H (d::ds) (y::ys):=by
 unfold dJ;exact⟨y,ys,rfl,h,t⟩
def bY(h:dJ H [] xs):xs=[]:=by
 unfold dJ at h;exact h
def aN(h:dJ H (d::ds) xs):∃y ys,xs=y::ys/\RD H d y/\dJ H ds ys:=by
 unfold dJ at h;exact h
theorem eO:∀ns:IW Int,dJ H (ns.map Pt)<|ns.map V.int
 |[]=>aJ
 |n::r=>am (bP n)<|eO r
theorem cB:∀{ds:IW Jw} {xs:IW V},dJ H ds xs->xs.length=ds.length
 |[],_,h=>by
  rw[bY h];rfl
 |d::ds,_,h=>by
  obtain⟨y,ys,rfl,_,t⟩:=aN h;rw[J4,J4,cB t]
theorem eJ:∀{ds:IW Jw} {xs:IW V} {j:Nat} {v:V},dJ H ds xs->xs[j]? =B' v->RD H (ds.getD j .none) v
 |[],_,_,_,h,e=>by rw[bY h]at e;cases e
 |d::ds,_,j,v,h,e=>by
  obtain⟨y,ys,rfl,h1,t⟩:=aN h;cases j with
  |zero=>
   have e':y=v:=by simpa using e
   subst e';exact h1
  |succ j=>exact eJ (ds:=ds) t (by simpa using e)
mutual
theorem oF(k:Same H H'):∀d v,RD H d v->RD H' d v
 |.none,v,h=>by unfold RD at h ⊢;exact h
 |.bool b,v,h=>by unfold RD at h ⊢;exact h
 |.int i,v,h=>by unfold RD at h ⊢;exact h
 |.str x,v,h=>by unfold RD at h ⊢;exact h
 |.list ds,v,h=>by
  obtain⟨a,xs,e,h1,h2⟩:=fF h;subst e;exact bI (k _ _ h1)<|bp k ds xs h2
 |.tuple ds,v,h=>by
  obtain⟨a,xs,e,h1,h2⟩:=aM h;subst e;exact bo (k _ _ h1)<|bp k ds xs h2
 |.dict _,v,h=>by
  unfold RD at h;exact h.elim
theorem bp(k:Same H H'):∀ds xs,dJ H ds xs->dJ H' ds xs
 |[],xs,h=>by
  rw[bY h];exact aJ
 |d::ds,xs,h=>by
  obtain⟨y,ys,e,h1,h2⟩:=aN h;subst e;exact am (oF k d y h1)<|bp k ds ys h2
end
mutual
theorem fo(I:Inv X Jf σ H s):∀d x v,RD H d x->RelV x v->∃as,Reads s.heap v d as
 |.none,x,v,h,r=>by
  unfold RD at h;subst h;cases r;exact⟨[],.none⟩
 |.bool b,x,v,h,r=>by
  unfold RD at h;subst h;cases r;exact⟨[],.bool b⟩
 |.int i,x,v,h,r=>by
  unfold RD at h;subst h;obtain⟨t,rfl⟩:=r;exact⟨[],.int i t⟩
 |.str y,x,v,h,r=>by
  unfold RD at h;subst h;obtain⟨t,rfl⟩:=r;exact⟨[],.str y t⟩
 |.list ds,x,v,h,r=>by
  obtain⟨a,xs,e,h1,h2⟩:=fF h;subst e;cases r;obtain⟨Lj,rv,⟨o,n,e1,e2,_,e4⟩,_⟩:=I.list<|SqL.of h1;obtain⟨as,q⟩:=jA I ds xs Lj h2 rv;exact⟨a::as,.list e1 e2 e4<|by simpa using q⟩
 |.tuple ds,x,v,h,r=>by
  obtain⟨a,xs,e,h1,h2⟩:=aM h;subst e;cases r;obtain⟨Lj,rv,⟨o,e1,e2,n,e4⟩,_⟩:=I.tuple<|SqT.of h1;obtain⟨as,q⟩:=jA I ds xs Lj h2 rv;exact⟨as,.tuple e1 e2 e4<|by simpa using q⟩
 |.dict _,x,v,h,_=>by
  unfold RD at h;exact h.elim
theorem jA(I:Inv X Jf σ H s):∀ds xs vs,dJ H ds xs->Vals xs vs->∃as,Zt s.heap vs ds as
 |[],xs,vs,h,r=>by
  rw[bY h]at r;cases r;exact⟨[],.nil⟩
 |d::ds,xs,vs,h,r=>by
  obtain⟨y,ys,e,h1,h2⟩:=aN h;subst e;cases r with
  |cons r1 r2=>
   obtain⟨as,q1⟩:=fo I d y _ h1 r1;obtain⟨bs,q2⟩:=jA I ds ys _ h2 r2;exact⟨as++bs,.cons q1 q2⟩
end
inductive FZ (x y:V)(H:Hp)(Q:VK):Prop
 |mk (da db:Jw)(ra:RD H da x)(rb:RD H db y)(sa:KI da=Je)(sb:KI db=Je)(q:Q (.bl<|KC da db) H):FZ x y H Q
inductive F0 (x y:V)(H:Hp)(Q:VK):Prop
 |mk (da db:Jw)(ra:RD H da x)(rb:RD H db y)(sa:KI da=Je)(sb:KI db=Je)(q:Q (.bl (!KC da db)) H):F0 x y H Q
def D7:R2:=λx y H Q=>FZ x y H Q
def D8:R2:=λx y H Q=>F0 x y H Q
def D9(hu:X.A.units+64 < MZ):OpR X (Ls .Eq) D7:=by
 intro Jf s σ H x y v u Q I rx ry h;obtain⟨da,db,ra,rb,sa,sb,q⟩:=h;obtain⟨as,qa⟩:=fo I da x v ra rx;obtain⟨bs,qb⟩:=fo I db y u rb ry;exact eq_dataH qa qb sa sb hu ⟨.bl _,H,I,rfl,q⟩
def D_(hu:X.A.units+64 < MZ):OpR X (Ls .NotEq) D8:=by
 intro Jf s σ H x y v u Q I rx ry h;obtain⟨da,db,ra,rb,sa,sb,q⟩:=h;obtain⟨as,qa⟩:=fo I da x v ra rx;obtain⟨bs,qb⟩:=fo I db y u rb ry;exact ne_dataH qa qb sa sb hu ⟨.bl _,H,I,rfl,q⟩
def aS(hu:X.A.units+64 < MZ):OpR X (Ls .Eq) (λx y H Q=>HU x y H Q\/D7 x y H Q):=OpR.or FI<|D9 hu
def fV(hu:X.A.units+64 < MZ):OpR X (Ls .NotEq) (λx y H Q=>HV x y H Q\/D8 x y H Q):=OpR.or FJ<|D_ hu
def dC:dY X (.builtin "isinstance") (λxs H Q=>∃x t c b,xs=[x,.ty c]/\iO X.K H x t/\JM X.K t (.type c)=B' b/\Q (.bl b) H):=by
 intro Jf s σ H xs us Q I r h;obtain⟨x,t,c,b,rfl,ty,e,q⟩:=h;obtain⟨u,w',rfl,rx,ry⟩:=tz r;obtain rfl:w'=ON c:=ry;exact vf I rx ty e λtk=>⟨.bl b,H,I.tok _,rfl,q⟩
def fW(T c:Mg):Jd JJ:=if(ON T == ON c)=Je then B' Je else if PySem.W.kitMeta c=Je then(fastBuiltinMro T).map (·.contains (ON c))else Ji
def bU{K:IZ}(h:fW T c=B' b):JM K (.type T) (.type c)=B' b:=h
def oG:Jw->Mg
 |.none=>"NoneType"
 |.bool _=>"bool"
 |.int _=>"int"
 |.str _=>"str"
 |.list _=>"list"
 |.tuple _=>"tuple"
 |.dict _=>"dict"
theorem tI{K:IZ}:∀d v,RD H d v->iO K H v (.type<|oG d)
 |.none,v,h=>by
  unfold RD at h;subst h;exact .non
 |.bool b,v,h=>by
  unfold RD at h;subst h;exact .bl b
 |.int i,v,h=>by
  unfold RD at h;subst h;exact .int i
 |.str x,v,h=>by
  unfold RD at h;subst h;exact .str x
 |.list ds,v,h=>by
  obtain⟨a,xs,e,h1,_⟩:=fF h;subst e;exact .lst h1
 |.tuple ds,v,h=>by
  obtain⟨a,xs,e,h1,_⟩:=aM h;subst e;exact .tup h1
 |.dict _,v,h=>by
  unfold RD at h;exact h.elim
def Ea:Jw->JJ
 |.tuple _=>Je
 |_=>Jg
def oH:Jw->JJ
 |.int _=>Je
 |.bool _=>Je
 |_=>Jg
def oJ:Jw->JJ
 |.bool _=>Je
 |_=>Jg
def kq:Jw->JJ
 |.dict _=>Je
 |_=>Jg
def wY:fW "NoneType" "tuple"=B' Jg/\fW "bool" "tuple"=B' Jg/\fW "int" "tuple"=B' Jg/\fW "str" "tuple"=B' Jg/\fW "list" "tuple"=B' Jg/\fW "tuple" "tuple"=B' true:=by
 refine⟨?_,?_,?_,?_,?_,?_⟩<;>decide+kernel
def Eb:fW "NoneType" "int"=B' Jg/\fW "bool" "int"=B' Je/\fW "int" "int"=B' Je/\fW "str" "int"=B' Jg/\fW "list" "int"=B' Jg/\fW "tuple" "int"=B' false:=by
 refine⟨?_,?_,?_,?_,?_,?_⟩<;>decide+kernel
def AS:fW "NoneType" "bool"=B' Jg/\fW "bool" "bool"=B' Je/\fW "int" "bool"=B' Jg/\fW "str" "bool"=B' Jg/\fW "list" "bool"=B' Jg/\fW "tuple" "bool"=B' false:=by
 refine⟨?_,?_,?_,?_,?_,?_⟩<;>decide+kernel
def mR{K:IZ}(d:Jw)(h:kq d=Jg):JM K (.type<|oG d) (.type "tuple")=B' (Ea d):=by
 obtain⟨h1,h2,h3,h4,h5,h6⟩:=wY;cases d with
 |none=>exact bU h1
 |bool _=>exact bU h2
 |int _=>exact bU h3
 |str _=>exact bU h4
 |list _=>exact bU h5
 |tuple _=>exact bU h6
 |dict _=>cases h
def AT{K:IZ}(d:Jw)(h:kq d=Jg):JM K (.type<|oG d) (.type "int")=B' (oH d):=by
 obtain⟨h1,h2,h3,h4,h5,h6⟩:=Eb;cases d with
 |none=>exact bU h1
 |bool _=>exact bU h2
 |int _=>exact bU h3
 |str _=>exact bU h4
 |list _=>exact bU h5
 |tuple _=>exact bU h6
 |dict _=>cases h
def wZ{K:IZ}(d:Jw)(h:kq d=Jg):JM K (.type<|oG d) (.type "bool")=B' (oJ d):=by
 obtain⟨h1,h2,h3,h4,h5,h6⟩:=AS;cases d with
 |none=>exact bU h1
 |bool _=>exact bU h2
 |int _=>exact bU h3
 |str _=>exact bU h4
 |list _=>exact bU h5
 |tuple _=>exact bU h6
 |dict _=>cases h
def jB(h:RD H d v):kq d=false:=by
 cases d with
 |dict _=>
  unfold RD at h;exact h.elim
 |_=>rfl
structure Fn (P:Js)(w:JV)(K:IZ)(mg:Str->Jd IX)(base:J6)(k:Nat)(x:Str)(f:I_)(fd:JP)(ps:IW Str)(sp:Sp):Prop where
 ok:FnOk P w K mg base dh k f fd ps sp
 b:Binds K fd ps []
 kp:Mn K (.ref f)=Je
 at_:mg x=B' (.ref f)
def F_(G:Fn X.prog X.w X.K X.mg X.base j x f fd ps sp)(hr:Room k X.A)(hjk:j<=k)(hg:Gl X x)(ha:PA X (e::es) t)(YH:(x == ("__debug__":Str))=false:=by decide)
  (he:J3 (e::es) X.env=(Jg,MC e X.env)::J3 es X.env:=by rfl) (T4:(Nh pos<|J3 es X.env).any (·.1)=false:=by rfl):PE X (.Call (.Name x p) (e::es) [] pos) (pQ sp [] E0 t):=
 oz G.ok (hr.mono hjk) hg G.at_ G.kp G.b .nil FY ha YH he T4
def ag(h:H p=Ji)(o:HO):Same H (upd H p o):=λb u q=>by rw[ao<|aj q h];exact q
def Same.upd_new(k:Same H0 H)(h:H0 p=Ji)(o:HO):Same H0 (upd H p o):=λb u q=>by rw[ao<|aj q h];exact k b u q
def w_{α:Type}{xs:IW α}{i:Int}(h0:0<=i)(h1:i < xs.length):∃v,xs[i.toNat]? =B' v/\rc xs i=B' v:=by
 have hk:i.toNat < xs.length:=by lia
 have ek:i=((i.toNat:Nat):Int):=by lia
 have q:rc xs ((i.toNat:Nat):Int)=B' xs[i.toNat]:=aZ<|Jm hk;rw[<-ek]at q;exact⟨_,Jm hk,q⟩
def pZ{ns:IW Int}{i:Int}(h0:0<=i)(h1:i < ns.length):∃v,ns[i.toNat]? =B' v/\rc (ns.map V.int) i=B' (.int v):=by
 obtain⟨v,h2,h3⟩:=w_ (xs:=ns.map V.int) h0 (by rw[Jc];exact h1);rw[JW]at h2;cases e:ns[i.toNat]? with
 |none=>rw[e]at h2;cases h2
 |some z=>
  rw[e]at h2;have ZZ:V.int z=v:=by simpa using h2
  subst ZZ;exact⟨z,rfl,h3⟩
def AllIn(f:Str->Jd I_):IW (Str×I_)->Prop
 |[]=>True
 |p::r=>f p.1=B' p.2/\AllIn f r
theorem AllIn.look:∀{cl:IW (Str×I_)},AllIn f cl->∀{y:Str} {c:I_},cl.lookup y=B' c->f y=B' c
 |[],_,y,c,e=>by cases e
 |(n,a)::r,h,y,c,e=>by
  rw[List.lookup_cons]at e;cases q:(y == n)with
  |true=>
   rw[q]at e;have e1:y=n:=eq_of_beq q;have e2:a=c:=JN e;rw[e1,<-e2];exact h.1
  |false=>
   rw[q]at e;exact AllIn.look h.2 e
def di(X:Cx)(scope:O3)(cl:IW (Str×I_))(NY:IW Str)(C:I_)(fp:IW I_)(s₀:Ja)(H₀:Hp):Cx where
 prog:=X.prog
 w:=X.w
 K:=X.K
 mg:=X.mg
 base:=X.base
 A:=X.A
 N:=NY
 s₀:=s₀
 H₀:=H₀
 env:=Zl scope (KS (C+1) scope.names cl) C X.env
 outer:=X.stack
 stack:=X.stack
 ex:=fp
 fn:=λx=>(cl.lookup x).isNone
 calm:=X.calm
 pn:=[]
 xe:=λ_ _=>False
structure CompSc (X:Cx)(scope:O3)(cl:IW (Str×I_))(NY:IW Str)(idx:IW (Jd Nat)):Prop where
 clos:closureFor scope X.env=pure cl
 all:AllIn (λy=>X.env.cells.lookup y) cl
 c2:∀n,((OA scope X.env).names.all λq=>!(decide (q.2=.cell) || decide (q.2=.free)) || ((KS n scope.names cl).lookup q.1).isSome)=Je
 ix:((NY.zip idx).all λp=>match p.2 with
  |none=>Je
  |some i=>decide (X.N[i]? =B' p.1)&&(decide (X.env.kindOf p.1=B' .cell) || decide (X.env.kindOf p.1=B' .free))&&(decide ((OA scope X.env).names.lookup p.1=B' .cell) || decide ((OA scope X.env).names.lookup p.1=B' .free))&&(scope.names.all λq=>!decide (q.2=.cell) || !decide (q.1=p.1)))=Je
 len:idx.length=NY.length
 kind:scope.kind=.function
 names:∀y∈scope.names,y.2=.local->scope.names.lookup y.1=B' .local
theorem cX:∀names n NG,KS n names NG=KS n names []++NG
 |[],_,_=>rfl
 |(x,k)::r,n,NG=>by
  unfold KS
  split
  ·rw[cX r (n+1)<|(x,n)::NG,cX r (n+1) [(x,n)],J1];rfl
  ·exact cX r n NG
theorem jC:∀{names:IW (Str×Q1)} {n:Nat} {y:Str} {c:I_},(y,c)∈KS n names []->(y,Pe)∈names
 |(x,k)::r,n,y,c,h=>by
  unfold KS at h
  split at h
  ·rename_i hk;rw[cX]at h;obtain h|h:=JI.mp h
   ·exact Jy _<|jC h
   ·cases Jp.mp h;rw[eq_of_beq hk];exact JG
  ·exact Jy _<|jC h
def lm(h:(KS n names cl).lookup y=B' c):(y,c)∈KS n names []\/cl.lookup y=B' c:=by
 rw[cX,US]at h;cases e:(KS n names []).lookup y with
 |some d=>
  rw[e]at h;cases h;exact .inl<|LR e
 |none=>
  rw[e]at h;exact .inr h
def xa(hn:∀q∈names,q.2=Pe->q.1≠y):(KS n names cl).lookup y=cl.lookup y:=by
 rw[cX,US];cases e:(KS n names []).lookup y with
 |some d=>exact absurd rfl<|hn _ (jC<|LR e) rfl
 |none=>rfl
def my{M:R4}{A:J8}{E:IX->Ja->Prop}{s:Ja}{scope:O3}{globals:I_}{aar:IW (Str×I_)}{qual:Str}{outer:Env}{Q:Env->Ja->Prop}
  (hQ:∀h',h'.Ns s.heap.objs.size (λ_=>Ji)->(∀b o,s.heap.get? b=B' o->h'.get? b=B' o)->CellsOk h' (s.heap.objs.size+1) (KS (s.heap.objs.size+1) scope.names [])->
   Q (newEnv scope s.heap.objs.size globals (KS (s.heap.objs.size+1) scope.names aar) qual Ji .none (B' outer) outer.builtins) {s with heap:=h'}):
  wpAny M A (Ta scope globals aar [] qual Ji .none<|B' outer) Q E s:=by
 simp only [Ta,UN,Ms];refine IY<|wpAny_alloc ?_;refine IY<|wpAny_layCells _ (λname kind cells=>by cases hkc:kind == Pe<;>simp [hkc]) _ _ _ _ ?_;have ok:=cellsFrom_ok scope.names (s.heap.push {cls:=.type "dict",data:=.dict #[]}) (s.heap.objs.size+1) [] ⟨λ_ _ hm=>(nomatch hm),OC⟩ (by rw[PX];exact Jh _);rw[PX]at ok;rw[show({s with heap:=s.heap.push {cls:=.type "dict",data:=.dict #[]}}:Ja).heap.objs.size=s.heap.objs.size+1 from PX ..];refine IY ?_;rw[List.forIn_nil];exact Jl<|Jl<|hQ _ ((Heap.Ns.new s.heap<|.type "dict").keeps<|Ws _ _) (λb o e=>Ws _ _ b o<|Jb _ e) ok
def xb(idx:IW (Jd Nat))(σ:St):St:=idx.map λo=>match o with
 |none=>Ji
 |some i=>(σ[i]?).getD Ji
def CompSc.look(S:CompSc X scope cl NY idx)(n:Nat)(h:(OA scope X.env).names.lookup y=B' .cell\/(OA scope X.env).names.lookup y=B' .free):∃c,(KS n scope.names cl).lookup y=B' c:=by
 have hm:∃k,(y,k)∈(OA scope X.env).names/\(k=.cell\/k=.free):=by
  obtain h|h:=h
  ·exact⟨_,LR h,.inl rfl⟩
  ·exact⟨_,LR h,.inr rfl⟩
 obtain⟨k,hk,hkk⟩:=hm;have q:=Md.mp (S.c2 n) _ hk;have e:(decide (k=Pe) || decide (k=XY))=true:=by
  obtain rfl|rfl:=hkk
  ·rfl
  ·rfl
 have q':(!(decide (k=Pe) || decide (k=XY)) || ((KS n scope.names cl).lookup y).isSome)=true:=q;rw[e]at q';exact Pi.mp q'
def xc{fp:IW I_}{h₁:J6}{m:Str->Jd IX}{tk:Nat}(S:CompSc X scope cl NY idx)(I:Inv X Jf σ H s)
  (f2:∀b∈fp,ow X Jf H b) (hfl:∀b∈fp,b < s.heap.objs.size) (hns:h₁.Ns s.heap.objs.size m) (old:∀b o,s.heap.get? b=B' o->h₁.get? b=B' o) (hcs:CellsOk h₁ (s.heap.objs.size+1) (KS (s.heap.objs.size+1) scope.names [])):
  Inv (di X scope cl NY s.heap.objs.size fp s H) [] (xb idx σ) H {s with heap:=h₁,toks:=tk}:=by
 have hC:H s.heap.objs.size=none:=I.hok.fresh<|Jh _;have T6:∀{x:Str} {c:I_},cl.lookup x=B' c->X.env.cells.lookup x=B' c:=λe=>S.all.look e;have adB:∀{x:Str} {c:I_},X.env.cells.lookup x=B' c->c < s.heap.objs.size:=λ{x c} e=>by
  obtain⟨v,z⟩:=I.cell x c e;exact z.lt
 have two:∀{x:Str} {c:I_},(KS (s.heap.objs.size+1) scope.names cl).lookup x=B' c->((x,c)∈KS (s.heap.objs.size+1) scope.names []/\s.heap.objs.size < c/\h₁.IsCell c Ji)\/(X.env.cells.lookup x=B' c/\c < s.heap.objs.size):=λ{x c} e=>by
  obtain h|h:=lm e
  ·exact .inl ⟨h,(hcs.empty x c h).2,(hcs.empty x c h).1⟩
  ·exact .inr ⟨T6 h,adB<|T6 h⟩
 have inj:∀x y c,(KS (s.heap.objs.size+1) scope.names cl).lookup x=B' c->(KS (s.heap.objs.size+1) scope.names cl).lookup y=B' c->x=y:=λx y c h1 h2=>by
  obtain a|a:=two h1<;>obtain b|b:=two h2
  ·exact name_of_addr hcs.apart a.1 b.1
  ·exact absurd (QP a.2.1 b.2)<|LO _
  ·exact absurd (QP b.2.1 a.2)<|LO _
  ·exact I.ok.inj x y c a.1 b.1
 have ne:∀b∈fp,∀x c,(KS (s.heap.objs.size+1) scope.names cl).lookup x=B' c->c≠b:=λb hb x c e=>by
  obtain a|a:=two e
  ·exact NS<|QP (hfl b hb) a.2.1
  ·exact(f2 b hb).2.2.2.2.1 x c a.1
 have fr:∀x c,(KS (s.heap.objs.size+1) scope.names cl).lookup x=B' c->H c=none:=λx c e=>by
  obtain a|a:=two e
  ·exact I.hok.fresh<|K_ a.2.1
  ·exact I.freeC x c a.1
 have cab:∀x c,(cl.lookup x).isNone=Je->(KS (s.heap.objs.size+1) scope.names cl).lookup x=B' c->s.heap.objs.size<=c:=λx c hf e=>by
  obtain h|h:=lm e
  ·exact Nat.le_of_succ_le (hcs.empty x c h).2
  ·rw[h]at hf;cases hf
 refine⟨⟨I.ok.mod,?_,I.ok.glob,I.ok.blt,Jh _,inj,λx hx=>S.look _ hx,cab,I.ok.hd,I.ok.frames,.inl rfl,λb hb=>⟨JO<|hfl b hb,ne b hb⟩,
  I.bs,Lb I.ok.bsz I.sz,λb o e hb=>?_,λb hb hz=>?_,I.stack,I.stkFree⟩,rfl,I.bare,Un.kept old,⟨m,hns,λj y v h1 h2 h3=>?_⟩,λx c e=>?_,hC,fr,λp hp=>absurd (show p∈([]:IW (I_×Obj))from hp) (by simp),I.hok.kept old,?_⟩
 ·exact S.kind
 ·obtain z|z:=(f2 b hb).2.2.2.1
  ·exact I.ok.noex b o e z
  ·exact absurd (KD (Jv e)<|Lb I.ok.bsz z)<|LO _
 ·obtain e|e:=J2.mp (I.stkSub b hz)
  ·exact(f2 b hb).2.1 e
  ·exact(f2 b hb).2.2.1 e
 ·
  have ZZ:(xb idx σ)[j]? =B' (B' v):=h2;unfold xb at ZZ;rw[JW]at ZZ;cases ej:idx[j]? with
  |none=>rw[ej]at ZZ;cases ZZ
  |some o=>
   rw[ej]at ZZ;cases o with
   |none=>cases ZZ
   |some i=>
    have e3:(σ[i]?).getD Ji=B' v:=by simpa using ZZ
    have e4:σ[i]? =B' (B' v):=by
     cases q:σ[i]? with
     |none=>rw[q]at e3;cases e3
     |some z=>
      rw[q]at e3;exact LU B' e3
    have hz:(NY.zip idx)[j]? =B' (y,B' i):=by
     rw[List.getElem?_zip_eq_some];exact⟨h1,ej⟩
    have q:=Md.mp S.ix _<|Jx hz;have q':(decide (X.N[i]? =B' y)&&(decide (X.env.kindOf y=B' .cell) || decide (X.env.kindOf y=B' .free))&&(decide ((OA scope X.env).names.lookup y=B' .cell) || decide ((OA scope X.env).names.lookup y=B' .free))&&(scope.names.all λq=>!decide (q.2=.cell) || !decide (q.1=y)))=true:=q;rw[J_,J_,J_,WG,WG]at q';obtain⟨⟨⟨q1,q2⟩,q3⟩,q4⟩:=q';have q5:∀q∈scope.names,q.2=Pe->q.1≠y:=λq hq e1 e2=>by
     have:=Md.mp q4 q hq;rw[Jz e1,Jz e2]at this;cases this
    have q1':=KM q1;have q2':X.env.kindOf y=B' .cell\/X.env.kindOf y=B' .free:=q2.elim (λz=>.inl<|KM z) λz=>.inr<|KM z;have q3':(OA scope X.env).names.lookup y=B' .cell\/(OA scope X.env).names.lookup y=B' .free:=q3.elim (λz=>.inl<|KM z) λz=>.inr<|KM z;obtain⟨mX,_,hl⟩:=I.loc;obtain⟨u,ru,lk⟩:=hl i y v q1' e4<|.inr q2';refine⟨u,ru,.inr ⟨q3',?_⟩⟩;obtain⟨c,hc0⟩:=S.look (s.heap.objs.size+1) q3';have hc:=hc0;rw[xa q5]at hc;obtain⟨hk,_⟩|⟨_,c',hc',aan⟩:=lk
    ·obtain z|z:=q2'
     ·rw[hk]at z;cases z
     ·rw[hk]at z;cases z
    ·have e5:=T6 hc;rw[hc']at e5;cases e5;obtain⟨oc,ho,hd⟩:=aan;exact⟨_,hc0,oc,old _ _ ho,hd⟩
 ·obtain a|a:=two e
  ·exact⟨Ji,a.2.2⟩
  ·obtain⟨v,oc,ho,hd⟩:=I.cell x c a.1;exact⟨v,oc,old _ _ ho,hd⟩
 ·unfold xb;rw[Jc];exact S.len
def Ga(Y:Cx)(ZS:IW KJ)(t:TT):Prop:=
 ∀(Jf:IW (I_×Obj)) (s:Ja) (σ:St) (H:Hp) (Q:JJ->Hp->Prop),Inv Y Jf σ H s->t σ H Q->
  wpAny (JS Y.prog Y.w) Y.A (forIn ZS Je λc r=>if r=Je then do let ok <-isTrue c Y.env<|MC c Y.env;pure (My ok)else pure (My r)) (TP Y Jf σ Q) Y.xe s
def Ec:TT:=λ_ H Q=>Q Je H
def eP{A B:St->Hp->Prop}(h:A (σ.set i<|B' x) H):eU i x σ H (λσ3 H3=>Ec σ3 H3 λb H4=>if b=Je then A σ3 H4 else B σ3 H4):=by
 show(if Je=Je then A (σ.set i<|B' x) H else B (σ.set i<|B' x) H)
 exact aW h
def dm:Ga Y [] Ec:=λJf s σ H Q I h=>wpAny_tests_nil ⟨H,I,h⟩
def cN(h:PT Y c t):Ga Y [c] t:=λJf s σ H Q I hw=>wpAny_tests_one<|h Jf s σ H Q I hw
def gW(J:It)(D:I_)(g:TG)(tt:TT)(te:TE)(σ0:St)(H1:Hp)(Q:VK):Prop:=
 ∃W:Nat->Nat->St->IW V->Hp->Prop,(∃m,W 0 m σ0 []<|upd H1 D<|.lst [])/\∀i m σ ys H,W i m σ ys H->H D=B' (.lst ys)/\
  ((J.stop i H/\Q (.ref D) H)\/(J.go i H/\∃N:St->IW V->Hp->Prop,(∀σ' ys' H',N σ' ys' H'->∃m',m' < m/\W (i+1) m' σ' ys' H')/\
   ∀x H2,J.yld i H x H2->g x σ H2 λσ3 H3=>tt σ3 H3 λb H4=>if b=Je then te σ3 H4 λy H5=>H5 D=B' (.lst ys)/\ys.length < sizeLine/\N σ3 (ys++[y]) (upd H5 D<|.lst<|ys++[y])else N σ3 ys H4))
def xf(idx:IW (Jd Nat))(wi:TI)(g:TG)(tt:TT)(te:TE):TE:=λσ H Q=>wi σ H λJ H1=>∀D,H1 D=Ji->gW J D g tt te (xb idx σ) H1 Q
theorem gX{elt Of iter:KJ}{ZS:IW KJ}{scope:O3}{pos:Pos}{it NG:IX}{env:Env}(I:Nat->Ja->Prop)
  (Yx:∀n s,I n s->wpAny (JS prog w) A (Pp it) (λr s₁=>match r with
   |none=>R (.ok .next) s₁
   |some v=>wpAny (JS prog w) A (Qx Of it v) (λ_ s₀=>wpAny (JS prog w) A (UA Of env v) (λ_ s₂=>
     wpAny (JS prog w) A (forIn ZS Je λc r=>if r=Je then do let ok <-isTrue c env<|MC c env;pure (My ok)else pure (My r)) (λok s₃=>
      if ok=Je then wpAny (JS prog w) A (MC elt env) (λx s₄=>
       wpAny (JS prog w) A (call (.builtin "list.append") [NG,x]) (λ_ s₅=>∃m,m < n/\I m s₅) (λ_ _=>False) s₄) (λ_ _=>False) s₃
      else∃m,m < n/\I m s₃) (λ_ _=>False) s₂) (λ_ _=>False) s₀) (λ_ _=>False) s₁) (λ_ _=>False) s)
  (n:Nat) (h:I n s):
  codeAny (JS prog w) A (.compLoop (.ListComp elt [⟨Of,iter,ZS,0⟩] scope pos) 0 it NG env) R s:=by
 refine codeAny_loop rfl I (λn s hI=>?_) n h;show wpAny _ A ((compTurn (.ListComp elt [⟨Of,iter,ZS,0⟩] scope pos) 0 it NG env).onRaise (λx=>do VO x env;theTreesLotGoes x)) _ _ s
 refine wpAny_noted ?_;rw[compTurn_list];have no:∀{α:Type} {t:Sem α} {Q:α->Ja->Prop} {E:IX->Ja->Prop} {s:Ja},wpAny (JS prog w) A t Q (λ_ _=>False) s->wpAny (JS prog w) A t Q E s:=λhq=>Kf hq (λ_ _ z=>z) λ_ _ z=>z.elim;refine IY<|Pb<|IY<|Kf (Yx n s hI) (λr s₁ h₁=>?_) λ_ _ h'=>h'.elim;cases r with
 |none=>exact Jl h₁
 |some v=>
  refine IY<|Kf h₁ (λ_ s₀ h₀=>?_) λ_ _ h'=>h'.elim;refine IY<|Kf h₀ (λ_ s₂ h₂=>IY<|Kf h₂ (λok s₃ h₃=>?_) λ_ _ h'=>h'.elim) λ_ _ h'=>h'.elim;cases ok with
  |false=>exact Jl ⟨rfl,h₃⟩
  |true=>
   exact IY<|IY<|Kf h₃ (λx s₄ h₄=>IY<|Kf h₄ (λ_ s₅ h₅=>Jl<|Jl ⟨rfl,h₅⟩) λ_ _ h'=>h'.elim) λ_ _ h'=>h'.elim
structure CompEnd (X:Cx)(Jf:IW (I_×Obj))(σ:St)(H:Hp)(C:I_)(s:Ja):Prop where
 inv:Inv X Jf σ H s
 ns:∃m,s.heap.Ns C m
 free:H C=Ji
 loc:C≠X.env.locals
 young:X.s₀.heap.objs.size<=C
 cells:∀x c,X.env.cells.lookup x=B' c->c≠C
 pin:∀p∈X.pn++Jf,p.1≠C
def CompEnd.gone(e:CompEnd X Jf σ H C s)(hs:NQ C s.heap h'):Inv X Jf σ H {s with heap:=h'}:=
 e.inv.turned (t':=s.toks) (λb o hb q=>(hs.2 b hb).trans q) e.free e.loc (.inr e.young) e.cells e.pin
def p0{Jf:IW (I_×Obj)}{σ:St}{H:Hp}{s:Ja}{Q:VK}{RR:IX->I_->UG->Ja->Prop}(SJ:X.calm=Je)(S:CompSc X scope cl NY idx)(hi:PI X Of iter wi)
  (hg:∀C fp s₀ H₀,PG (di X scope cl NY C fp s₀ H₀) Of g) (ht:∀C fp s₀ H₀,Ga (di X scope cl NY C fp s₀ H₀) ZS tt) (he:∀C fp s₀ H₀,PE (di X scope cl NY C fp s₀ H₀) elt te)
  (I:Inv X Jf σ H s) (h:xf idx wi g tt te σ H Q)
  (hRR:∀D C H' s',CompEnd X Jf σ H' C s'->Q (.ref D) H'->RR (.ref D) C (.ok .next) s'):
  wpAny (JS X.prog X.w) X.A (MC iter X.env) (λx s₁=>wpAny (JS X.prog X.w) X.A (S_ x) (λit s₂=>wpAny (JS X.prog X.w) X.A (newList []) (λNG s₃=>
   wpAny (JS X.prog X.w) X.A (Ta scope X.env.globals cl [] X.env.qual Ji .none<|B' X.env) (λae9 s₄=>
    codeAny (JS X.prog X.w) X.A (.compStart (.ListComp elt [⟨Of,iter,ZS,0⟩] scope pos) 0 it NG {ae9 with scope:=OA scope X.env}) (RR NG ae9.locals) s₄) X.xe s₃) X.xe s₂) X.xe s₁) X.xe s:=by
 refine bV (hi Jf s σ H _ I h) λv s1 h1=>bV h1 λitv s2 h2=>?_;obtain⟨it,fp,tn,J,H2,e,I2,T,Mz,f2,r2⟩:=h2;subst e;have hD:H2 s2.heap.objs.size=none:=I2.hok.fresh<|Jh _;have r3:=r2 s2.heap.objs.size hD;have I3:Inv X Jf σ (upd H2 s2.heap.objs.size<|.lst []) {s2 with heap:=s2.heap.push {cls:=.type "list",data:=.seq ([]:IW IX).toArray}}:=
  I2.laid (t':=s2.toks) (λb u q=>Jb _ q) (Jh _) ⟨JQ _,[],0,.nil,JX _ rfl⟩
 refine NO<|my λh₁ hns hsb hcs=>?_;dsimp only at hns hsb hcs ⊢;have aeV:∀b∈fp,b < s2.heap.objs.size:=λb hb=>by
  obtain⟨o,q,_⟩:=T.obj 0 _ Mz b hb;exact Jv q
 have neD:∀b∈fp,b≠s2.heap.objs.size:=λb hb=>JO<|aeV b hb;have f3:∀b∈fp,ow X Jf (upd H2 s2.heap.objs.size<|.lst []) b:=λb hb=>⟨by rw[ao<|neD b hb];exact(f2 b hb).1,(f2 b hb).2⟩;generalize hs3:({s2 with heap:=s2.heap.push {cls:=.type "list",data:=.seq ([]:IW IX).toArray}}:Ja)=s3 at I3;have es3:s3.heap=s2.heap.push {cls:=.type "list",data:=.seq ([]:IW IX).toArray}:=by rw[<-hs3]
 have hfl:∀b∈fp,b < s3.heap.objs.size:=λb hb=>by
  rw[es3,PX];exact LC<|aeV b hb
 have agR:h₁.Ns s3.heap.objs.size (λ_=>Ji):=by rw[es3];exact hns
 have old:∀b o,s3.heap.get? b=B' o->h₁.get? b=B' o:=λb o q=>by
  rw[es3]at q;exact hsb b o q
 have ahn:CellsOk h₁ (s3.heap.objs.size+1) (KS (s3.heap.objs.size+1) scope.names []):=by rw[es3];exact hcs
 have RP:tn 0 h₁:=T.keep _ _ _ Mz λb hb o q=>old b o (by rw[es3];exact Jb _ q);have IY0:=xc (tk:=s2.toks) S I3 f3 hfl agR old ahn;have e4:({s3 with heap:=h₁,toks:=s2.toks}:Ja)={s2 with heap:=h₁,toks:=s2.toks}:=by rw[<-hs3]
 rw[e4]at IY0;have eC:s3.heap.objs.size=(s2.heap.push {cls:=.type "list",data:=.seq ([]:IW IX).toArray}).objs.size:=by rw[es3]
 have hC3:s3.heap.get? s3.heap.objs.size=none:=OO<|Jh _;obtain⟨W,⟨m0,w0⟩,Yx⟩:=r3;have loop:∀s4,s4={s2 with heap:=h₁,toks:=s2.toks}->
   codeAny (JS X.prog X.w) X.A (.compLoop (.ListComp elt [⟨Of,iter,ZS,0⟩] scope pos) 0 (.ref it) (.ref s2.heap.objs.size)<|Zl scope (KS (s3.heap.objs.size+1) scope.names cl) s3.heap.objs.size X.env) (RR (.ref s2.heap.objs.size) s3.heap.objs.size) s4:=by
  rintro s4 rfl;have ZO:∀{H':Hp},(∀b∈fp,H' b=Ji)->∀b∈fp,ow (di X scope cl NY s3.heap.objs.size fp s3<|upd H2 s2.heap.objs.size<|.lst []) [] H' b:=λ{H'} hn b hb=>
   ⟨hn b hb,JO<|hfl b hb,(λz=>(IY0.ok.exfs b hb) z),.inl hb,λx c e=>(IY0.ok.exf b hb).2 x c e,λp hp=>absurd (show p∈([]:IW (I_×Obj))from hp)<|by simp⟩
  refine gX (λn s'=>∃i σ' ys H',Inv (di X scope cl NY s3.heap.objs.size fp s3<|upd H2 s2.heap.objs.size<|.lst []) [] σ' H' s'/\tn i s'.heap/\(∀b∈fp,H' b=Ji)/\W i n σ' ys H') ?_ m0
   ⟨0,_,[],_,IY0,RP,λb hb=>(f3 b hb).1,w0⟩
  rintro n s5 ⟨i,σ5,ys,H5,I5,st5,fr5,w5⟩;obtain⟨YI,alt⟩:=Yx i n σ5 ys H5 w5;obtain⟨stop,qn⟩|⟨go,N,hN,step⟩:=alt
  ·refine bV (T.done (di X scope cl NY s3.heap.objs.size fp s3<|upd H2 s2.heap.objs.size<|.lst []) rfl rfl rfl SJ i [] s5 σ5 H5 (λ_ _=>False) I5 (ZO fr5) st5 stop) λr s6 ⟨hr,I6⟩=>?_;subst hr;have I7:Inv X Jf σ H5 s6:=I3.call' (s':=s6) (ch:=fp) I6.os I6.base I6.hok I6.bare λb hb=>⟨(f3 b hb).2.2.2.1,(f3 b hb).2.1,(f3 b hb).2.2.2.2.1,(f3 b hb).2.2.2.2.2⟩;refine hRR _ _ H5 s6 ⟨I7,?_,I6.free,NS I3.lt,I3.sz,λx c e=>?_,λp hp z=>?_⟩ qn
   ·obtain⟨m,hn,_⟩:=I6.loc;exact⟨m,hn⟩
   ·obtain⟨v,q⟩:=I3.cell x c e;exact JO q.lt
   ·have q:=(I3.pin p hp).1;rw[z,hC3]at q;cases q
  ·refine bV (T.item (di X scope cl NY s3.heap.objs.size fp s3<|upd H2 s2.heap.objs.size<|.lst []) rfl rfl rfl SJ i [] s5 σ5 H5 (λ_ _=>False) I5 (ZO fr5) st5 go) λr s6 ⟨u,hr,h6⟩=>?_;subst hr;refine bV h6 λ_ s7 ⟨x,H7,I7,r7,y7,st7,fr7⟩=>?_;have I7':=I7.pinned (ZO fr7)<|T.obj _ _ st7;have aaQ:∀{σ8:St} {ys8:IW V} {H8:Hp} {s8:Ja},Inv (di X scope cl NY s3.heap.objs.size fp s3<|upd H2 s2.heap.objs.size<|.lst []) ([]++kU fp s7.heap) σ8 H8 s8->N σ8 ys8 H8->
     ∃m,m < n/\∃i σ' ys H',Inv (di X scope cl NY s3.heap.objs.size fp s3<|upd H2 s2.heap.objs.size<|.lst []) [] σ' H' s8/\tn i s8.heap/\(∀b∈fp,H' b=Ji)/\W i m σ' ys H':=λ{σ8 ys8 H8 s8} I8 n8=>by
    obtain⟨m',hm,w8⟩:=hN σ8 ys8 H8 n8;refine⟨m',hm,i+1,σ8,ys8,H8,I8.unpinned,T.keep _ _ _ st7 λb hb o e=>(I8.pin (b,o)<|Kc _<|Kc _<|gp hb e).1,λb hb=>?_,w8⟩;obtain⟨o,e,d⟩:=T.obj _ _ st7 b hb;exact(I8.pin (b,o)<|Kc _<|Kc _<|gp hb e).2.1
   refine bV (hg _ _ _ _ _ s7 σ5 H7 x u _ I7' r7<|step x H7 y7) λ_ s8 ⟨σ8,H8,I8,q8⟩=>?_;refine bV (ht _ _ _ _ _ s8 σ8 H8 _ I8 q8) λok s9 ⟨H9,I9,q9⟩=>?_;cases ok with
   |false=>exact aQ<|aaQ I9 q9
   |true=>
    refine aW ?_;refine bV (he _ _ _ _ _ s9 σ8 H9 _ I9 q9) λy s10 ⟨yv,H10,I10,r10,ahx,agw,n10⟩=>?_;refine bV (bO _ s10 σ8 H10 (.ref s2.heap.objs.size) [yv] (.ref s2.heap.objs.size) [y] (λv H'=>v=.non/\H'=upd H10 s2.heap.objs.size (.lst<|ys++[yv])) I10 rfl (.cons r10 .nil) ⟨_,ys,yv,rfl,rfl,ahx,agw,rfl,rfl⟩) λ_ s11 ⟨_,H11,I11,_,_,e11⟩=>?_;subst e11;exact aaQ I11 n10
 have e5:(Zl scope (KS (s3.heap.objs.size+1) scope.names cl) s3.heap.objs.size X.env)={newEnv scope (s2.heap.push {cls:=.type "list",data:=.seq ([]:IW IX).toArray}).objs.size X.env.globals (KS ((s2.heap.push {cls:=.type "list",data:=.seq ([]:IW IX).toArray}).objs.size+1) scope.names cl) X.env.qual Ji .none (B' X.env) X.env.builtins with scope:=OA scope X.env}:=by
  rw[es3];rfl
 have L1:=loop _ rfl;rw[eC]at L1;exact codeAny_compStart_list L1<|T.self _ 0 _ _ _ RP L1
def bJ(SJ:X.calm=Je)(S:CompSc X scope cl NY idx)(hi:PI X Of iter wi)(hg:∀C fp s₀ H₀,PG (di X scope cl NY C fp s₀ H₀) Of g)(ht:∀C fp s₀ H₀,Ga (di X scope cl NY C fp s₀ H₀) ZS tt)
  (he:∀C fp s₀ H₀,PE (di X scope cl NY C fp s₀ H₀) elt te) (hs:∀x,Rp iter X.env x=pure x:=by intro _;rfl):PE X (.ListComp elt [⟨Of,iter,ZS,0⟩] scope pos) (xf idx wi g tt te):=by
 intro Jf s σ H Q I h;rw[eval_ListComp];refine RF (use:=Ji) rfl hs S.clos S.kind S.names ?_;refine p0 (RR:=λNG C=>compPost (JS X.prog X.w) X.A X.xe Ji (EP X Jf σ Q) NG C) SJ S hi hg ht he I h ?_;intro D C H' s' e q;obtain⟨m,hn⟩:=e.ns;exact⟨m,hn,λh' VG=>⟨.ref D,H',e.gone VG,rfl,q⟩⟩
def xg(i:Nat)(te:TE):TS:=λD σ H=>te σ H λv H1=>D.nx (σ.set i<|B' v) H1
def fq{RA ad':Pos}(hN:X.N.Nodup)(hx:X.N[i]? =B' x)(hl:X.env.scope.names.lookup x=B' .local)(SJ:X.calm=Je)(S:CompSc X scope cl NY idx)(hi:PI X Of iter wi)
  (hg:∀C fp s₀ H₀,PG (di X scope cl NY C fp s₀ H₀) Of g) (ht:∀C fp s₀ H₀,Ga (di X scope cl NY C fp s₀ H₀) ZS tt) (he:∀C fp s₀ H₀,PE (di X scope cl NY C fp s₀ H₀) elt te)
  (hsw:QT (.ListComp elt [⟨Of,iter,ZS,0⟩] scope pos) (B'<|.Name x RA) ad'.line X.env=pure Je) (hs:∀x,Rp iter X.env x=pure x:=by intro _;rfl):
  PS X (.Assign [.Name x RA] (.ListComp elt [⟨Of,iter,ZS,0⟩] scope pos) ad') (xg i<|xf idx wi g tt te):=by
 intro Jf s σ H D I h;rw[exec_Assign_Name_used _ _ _ _ hsw];refine IY<|Pb<|IY ?_;show wpAny _ X.A (do let _ <-comprehension (.ListComp elt [⟨Of,iter,ZS,0⟩] scope pos) scope X.env _ (newList []) Jg (MC iter X.env)<|B'<|UA (.Name x RA) X.env) _ _ s
 refine IY<|Kf (RF (use:=B'<|UA (.Name x RA) X.env) (Q:=λ_ s'=>∃σ' H',Inv X Jf σ' H' s'/\D.nx σ' H') rfl hs S.clos S.kind S.names ?_) (λ_ s' hq=>Jl<|Jl hq) λ_ _ e=>e;refine p0 (RR:=λNG C=>compPost (JS X.prog X.w) X.A X.xe (B'<|UA (.Name x RA) X.env) (λ_ s'=>∃σ' H',Inv X Jf σ' H' s'/\D.nx σ' H') NG C) SJ S hi hg ht he I h ?_;intro D' C H' s' e q;refine U7<|mG e.inv hN hx (.inl hl) (v:=.ref D') (u:=.ref D') rfl (λs'' I'' sb=>?_)<|.inr hl;obtain⟨a,hsb,ha⟩:=sb;have neC:C≠a:=by
  obtain rfl|ha:=ha
  ·exact e.loc
  ·exact λz=>e.cells _ _ ha z.symm
 obtain⟨m,hn⟩:=e.ns;have e2:CompEnd X Jf (σ.set i<|B'<|.ref D') H' C s'':=⟨I'',⟨m,hn.sameBut hsb neC⟩,e.free,e.loc,e.young,e.cells,e.pin⟩;exact⟨m,hn.sameBut hsb neC,λh' VG=>⟨_,H',e2.gone VG,q⟩⟩
section
variable {K:IZ}
def dE(Pv:Nat->St->IW V->Hp->Prop)(h0:Pv 0 σ0 [] (upd H1 D<|.lst []))(hd:∀i σ ys H,i<=xs.length->Pv i σ ys H->H D=B' (.lst ys)/\SqL K H a xs)
  (hs:∀i x σ ys H,xs[i]? =B' x->Pv i σ ys H->g x σ H λσ3 H3=>tt σ3 H3 λb H4=>if b=Je then te σ3 H4 λy H5=>H5 D=B' (.lst ys)/\ys.length < sizeLine/\Pv (i+1) σ3 (ys++[y]) (upd H5 D<|.lst<|ys++[y])else Pv (i+1) σ3 ys H4)
  (hq:∀σ ys H,Pv xs.length σ ys H->Q (.ref D) H):gW (wO K a) D g tt te σ0 H1 Q:=by
 exists λi m σ ys H=>m=xs.length - i/\i<=xs.length/\Pv i σ ys H,⟨xs.length,by simp,JQ _,h0⟩;rintro i m σ ys H ⟨rfl,hi,p⟩;obtain⟨hD,q⟩:=hd i σ ys H hi p;exists hD;by_cases NJ:i < xs.length
 ·refine .inr ⟨⟨xs,xs[i],q,by simp [NJ]⟩,Pv<|i+1,λσ' ys' H' p'=>⟨xs.length - (i+1),by lia,rfl,NJ,p'⟩,λx H' y=>?_⟩;obtain⟨e,y⟩:=y;subst e;exact hs i x σ ys _ (y xs q) p
 ·have e:i=xs.length:=by lia
  subst e;exact .inl ⟨⟨xs,q,Jh _⟩,hq σ ys H p⟩
def xh(Pv:Nat->St->IW V->Hp->Prop)(h0:Pv 0 σ0 [] (upd H1 D<|.lst []))(hd:∀i σ ys H,i<=xs.length->Pv i σ ys H->H D=B' (.lst ys)/\SqT K H a xs)
  (hs:∀i x σ ys H,xs[i]? =B' x->Pv i σ ys H->g x σ H λσ3 H3=>tt σ3 H3 λb H4=>if b=Je then te σ3 H4 λy H5=>H5 D=B' (.lst ys)/\ys.length < sizeLine/\Pv (i+1) σ3 (ys++[y]) (upd H5 D<|.lst<|ys++[y])else Pv (i+1) σ3 ys H4)
  (hq:∀σ ys H,Pv xs.length σ ys H->Q (.ref D) H):gW (DN K a) D g tt te σ0 H1 Q:=by
 exists λi m σ ys H=>m=xs.length - i/\i<=xs.length/\Pv i σ ys H,⟨xs.length,by simp,JQ _,h0⟩;rintro i m σ ys H ⟨rfl,hi,p⟩;obtain⟨hD,q⟩:=hd i σ ys H hi p;exists hD;by_cases NJ:i < xs.length
 ·refine .inr ⟨⟨xs,xs[i],q,by simp [NJ]⟩,Pv<|i+1,λσ' ys' H' p'=>⟨xs.length - (i+1),by lia,rfl,NJ,p'⟩,λx H' y=>?_⟩;obtain⟨e,y⟩:=y;subst e;exact hs i x σ ys _ (y xs q) p
 ·have e:i=xs.length:=by lia
  subst e;exact .inl ⟨⟨xs,q,Jh _⟩,hq σ ys H p⟩
def ln{lo:Int}(Pv:Nat->St->IW V->Hp->Prop)(h0:Pv 0 σ0 [] (upd H1 D<|.lst []))(hd:∀i σ ys H,i<=n->Pv i σ ys H->H D=B' (.lst ys))
  (hs:∀i σ ys H,i < n->Pv i σ ys H->g (.int<|lo+i) σ H λσ3 H3=>tt σ3 H3 λb H4=>if b=Je then te σ3 H4 λy H5=>H5 D=B' (.lst ys)/\ys.length < sizeLine/\Pv (i+1) σ3 (ys++[y]) (upd H5 D<|.lst<|ys++[y])else Pv (i+1) σ3 ys H4)
  (hq:∀σ ys H,Pv n σ ys H->Q (.ref D) H):gW (Cq lo n) D g tt te σ0 H1 Q:=by
 exists λi m σ ys H=>m=n - i/\i<=n/\Pv i σ ys H,⟨n,by simp,JQ _,h0⟩;rintro i m σ ys H ⟨rfl,hi,p⟩;exists hd i σ ys H hi p;by_cases NJ:i < n
 ·refine .inr ⟨NJ,Pv<|i+1,λσ' ys' H' p'=>⟨n - (i+1),by lia,rfl,NJ,p'⟩,λx H' y=>?_⟩;obtain⟨e,y⟩:=y;subst e y;exact hs i σ ys _ NJ p
 ·have e:i=n:=by lia
  subst e;exact .inl ⟨Jh _,hq σ ys H p⟩
end
def Id(K:IZ)(n:Nat)(t:Av):TG:=λv σ H Q=>∃a xs,v=.ref a/\SqL K H a xs/\xs.length=n/\t xs σ H Q
def oK{k:Nat}{n:Nat}(hc:X.calm=Je)(h:Fp X es t)
  (hn:(N4 es X.env).length=n:=by rfl) (S5:(N4 es X.env).findIdx? (·.1)=none:=by rfl):PG X (.Tuple es k pos) (Id X.K n t):=by
 intro Jf s σ H v u Q I r hw;obtain⟨a,xs,e1,hq,hl,hw⟩:=hw;subst e1;cases r;obtain⟨Lj,rv,pl,hz⟩:=I.list hq;rw[assign_Tuple];refine IY<|Pb ?_;unfold unpack;have hsz:(N4 es X.env).length=Lj.toArray.size:=by
  rw[hn,JH,<-rv.length];exact hl.symm
 rw[hsz,S5];refine IY<|KN<|PySem.W.kun_itemsOf (I.ok.hd hc) pl.isList λh' hx=>?_;have I1:Inv X Jf σ H {s with heap:=h'}:=I.kept (t':=s.toks) λb o e=>hx b o (JO<|Jv e) e;exact h Jf _ σ H xs _ Q I1 (by simpa using rv) hw
def xk(hc:X.calm=Je):dY X (.builtin "sum") (λxs H Q=>∃(p:I_) (ns:IW Int),xs=[.ref p]/\SqL X.K H p (ns.map V.int)/\Q (.int ns.sum) H):=by
 intro Jf s σ H xs us Q I r h;obtain⟨p,ns,rfl,hq,q⟩:=h;obtain⟨u,rfl,ru⟩:=fk r;cases ru;obtain⟨Lj,rv,pl,hz⟩:=I.list hq;have hi:Nd Lj ns:=fm rv;obtain⟨zs,ez⟩:=hi.allInts.items;have hl:=pl.isList;rw[ez]at hl;refine sum_intListG (I.ok.hd hc) hl λh' tk t' hk=>?_;have e1:numsOf Lj=zs.toList.map (·.1):=by
  rw[<-XS,<-ez]
 have e2:preSum (Yr zs) zs.size=ns.sum:=by
  rw[preSum_eq,JY (by simp),<-e1,hi.numsOf]
 rw[e2];exact⟨.int ns.sum,H,I.kept hk,⟨_,rfl⟩,q⟩
def rF:∀{us:IW IX},Vals (ss.map V.str) us->StrsAre us ss:=by
 induction ss with
 |nil=>intro us r;rw[QQ]at r;cases r;exact .nil
 |cons n ns ih=>
  intro us r;rw[Kz]at r;cases r with
  |cons r1 r2=>
   obtain⟨t,e⟩:=r1;subst e;exact .cons n t<|ih r2
def AU:IB X "str.join" (λx vs H Q=>∃sep p ys,x=.str sep/\vs=[.ref p]/\SqL X.K H p (ys.map V.str)/\(ys.map (·.length)).sum+ys.length*sep.length<=16777216/\Q (.str<|Vf sep ys) H):=by
 intro Jf s σ H x vs v us Q I rx rv h;obtain⟨sep,p,ys,rfl,rfl,hq,hz,q⟩:=h;obtain⟨t,rfl⟩:=rx;obtain⟨u,rfl,ru⟩:=fk rv;cases ru;obtain⟨Lj,r,pl,_⟩:=I.list hq;exact join_list pl.isList (by simpa using rF r) hz λt' k=>⟨.str _,H,I.tok _,⟨_,rfl⟩,q⟩
def xl:V->JJ
 |.bl _=>Je
 |.non=>Je
 |_=>Jg
def iU:V->JJ
 |.bl b=>b
 |_=>Jg
def tJ(r:Vals ys Lj)(hb:ys.all xl=Je):TruthOf prog w A (λi v=>Lj.toArray[i]? =B' v) (λi=>(ys[i]?).elim Jg iU):=by
 intro i v s Q E hv hq;have ZT:Lj[i]? =B' v:=by simpa using hv
 cases e:ys[i]? with
 |none=>
  rw[r.none_of e]at ZT;cases ZT
 |some y=>
  obtain⟨u,hu,ru⟩:=r.get e;rw[hu]at ZT;cases ZT;have ZE:Q ((ys[i]?).elim Jg iU) s:=hq;rw[e]at ZE;have hy:=Md.mp hb y<|Jx e;cases y with
  |bl b=>
   cases ru;exact LV ZE
  |non=>
   cases ru;exact truthy_none ZE
  |_=>cases hy
def vn(ys:IW V):(Ky ys.length).any (λi=>(ys[i]?).elim Jg iU)=ys.any iU:=by
 rw[Mc];simp only [MY,LM];constructor
 ·rintro⟨i,hi,h⟩;exists ys[i],Sb hi;simpa [hi]using h
 ·rintro⟨y,hy,h⟩;obtain⟨i,hi,rfl⟩:=Nl hy;exact⟨i,hi,by simpa [hi]using h⟩
def vo(ys:IW V):(Ky ys.length).all (λi=>(ys[i]?).elim Jg iU)=ys.all iU:=by
 rw[Mc];simp only [Md,LM];constructor
 ·intro h y hy;obtain⟨i,hi,rfl⟩:=Nl hy;simpa [hi]using h i hi
 ·intro h i hi;simpa [hi]using h ys[i] (Sb hi)
def xm(hc:X.calm=Je):dY X (.builtin "any") (λxs H Q=>∃p ys,xs=[.ref p]/\SqL X.K H p ys/\ys.all xl=Je/\Q (.bl<|ys.any iU) H):=by
 intro Jf s σ H xs us Q I r h;obtain⟨p,ys,rfl,hq,hb,q⟩:=h;obtain⟨u,rfl,ru⟩:=fk r;cases ru;obtain⟨Lj,rv,pl,hz⟩:=I.list hq;have hl:=pl.isList;obtain⟨o,ho,_⟩:=id hl;have NJ:p < s.heap.objs.size:=Jv ho;refine call_any_walk<|NN hl ?_;refine⟨s.heap.objs.size,_,_,_,_,_,_,rfl,QX (A:=X.A.in1) (I.ok.hd hc) s.heap.objs.size p (JO NJ) Lj.toArray,⟨⟨_,JX _ rfl,rfl,rfl⟩,hl.push _⟩,tJ rv hb,λh' tk hk=>?_⟩;have e:(Ky Lj.toArray.size).any (λi=>(ys[i]?).elim Jg iU)=ys.any iU:=by
  rw[JH,<-rv.length];exact vn ys
 rw[e];refine⟨.bl _,H,I.kept λb o e=>hk b o ?_<|Jb _ e,rfl,q⟩;intro hm;exact absurd (Jp.mp hm)<|JO<|Jv e
def xn(hc:X.calm=Je):dY X (.builtin "all") (λxs H Q=>∃p ys,xs=[.ref p]/\SqL X.K H p ys/\ys.all xl=Je/\Q (.bl<|ys.all iU) H):=by
 intro Jf s σ H xs us Q I r h;obtain⟨p,ys,rfl,hq,hb,q⟩:=h;obtain⟨u,rfl,ru⟩:=fk r;cases ru;obtain⟨Lj,rv,pl,hz⟩:=I.list hq;have hl:=pl.isList;obtain⟨o,ho,_⟩:=id hl;have NJ:p < s.heap.objs.size:=Jv ho;refine call_all_walk<|NN hl ?_;refine⟨s.heap.objs.size,_,_,_,_,_,_,rfl,QX (A:=X.A.in1) (I.ok.hd hc) s.heap.objs.size p (JO NJ) Lj.toArray,⟨⟨_,JX _ rfl,rfl,rfl⟩,hl.push _⟩,tJ rv hb,λh' tk hk=>?_⟩;have e:(Ky Lj.toArray.size).all (λi=>(ys[i]?).elim Jg iU)=ys.all iU:=by
  rw[JH,<-rv.length];exact vo ys
 rw[e];refine⟨.bl _,H,I.kept λb o e=>hk b o ?_<|Jb _ e,rfl,q⟩;intro hm;exact absurd (Jp.mp hm)<|JO<|Jv e
theorem mS(hi:Nd Lj ns):∀(js:IW Nat),∃ms:IW Int,Vals (ms.map V.int) (js.filterMap (Lj.toArray[·]?))/\ms.length<=js.length
 |[]=>⟨[],.nil,Jh _⟩
 |j::r=>by
  obtain⟨ms,h1,h2⟩:=mS hi r;rw[N7];cases e:Lj.toArray[j]? with
  |none=>exact⟨ms,h1,by rw[J4];lia⟩
  |some v=>
   have ev:Lj[j]? =B' v:=by simpa using e
   obtain⟨a,t,rfl⟩:=hi.allInts v (by simpa using Jx ev);exact⟨a::ms,.cons ⟨t,rfl⟩ h1,by rw[J4,J4];lia⟩
def Ie(K:IZ):V->Jd Int->Jd Int->Jd Int->Hp->VK->Prop:=λx lo hi st H Q=>∃(a:I_) (ns:IW Int) (c:Int),x=.ref a/\SqL K H a (ns.map V.int)/\st=B' c/\0 < c/\ns.length<=1000/\∀(p:I_) (ms:IW Int),H p=Ji->ms.length<=1000->Q (.ref p) (upd H p<|.lst<|Xo V.int ms)
def vp{lo hi c:Int}{n:Nat}(h0:0 < c)(h1:0<=lo)(h2:hi<=n):(W0 lo hi c).length<=n:=by
 unfold W0;rw[Jc,Mk,JL h0];by_cases h:lo < hi
 ·rw[JL h];have h3:(hi - lo)*1<=(hi - lo)*c:=Int.mul_le_mul_of_nonneg_left (by lia) (by lia);have h4:(hi - lo+c - 1) / c < hi - lo+1:=by
   refine Int.ediv_lt_of_lt_mul h0 ?_;rw[TQ];lia
  lia
 ·rw[JK h];exact JQ _
def vq{lo:Jd KJ}{p2:Pos}(he:PE X e te)(hl:PO X lo tl)(hu:PO X hi th)(S5:PO X (B' est) ts):
  PE X (.Subscript e (.Slice lo hi (B' est) p2) pos) (λσ H Q=>te σ H λx H1=>tl σ H1 λl H2=>th σ H2 λu H3=>ts σ H3 λc H4=>Ie X.K x l u c H4 Q):=by
 intro Jf s σ H Q I h;refine UM<|bV (he Jf s σ H _ I h) λv s1 ⟨x,H1,I1,r1,q1⟩=>?_;refine wpAny_Slice<|bV (hl Jf s1 σ H1 _ I1 q1) λvl s2 ⟨l,H2,I2,pl,q2⟩=>bV (hu Jf s2 σ H2 _ I2 q2) λvu s3 ⟨u,H3,I3,pu,q3⟩=>bV (S5 Jf s3 σ H3 _ I3 q3) λvs s4 ⟨c,H4,I4,ps,q4⟩=>?_;obtain⟨a,ns,c',rfl,hS,rfl,hc,L_,q⟩:=q4;cases r1;have I5:Inv X Jf σ H4 {s4 with heap:=s4.heap.push {cls:=.type "slice",data:=.fields #[vl,vu,vs]}}:=I4.kept (t':=s4.toks) λb ob q=>Jb _ q;obtain⟨Lj,r,ht,hz⟩:=I5.list hS;have aeO:=r.length;rw[Jc]at aeO;obtain⟨ms,hv,hm⟩:=mS (fm r)<|W0 (MB l u (B' c') Lj.toArray.size).1 (MB l u (B' c') Lj.toArray.size).2.1 (MB l u (B' c') Lj.toArray.size).2.2;have hms:ms.length<=1000:=by
  refine Lb hm (Lb (vp (n:=Lj.toArray.size) hc ?_ ?_)<|by rw[JH];lia)
  ·cases l with
   |none=>simp [MB,hc]
   |some i=>
    simp only [MB,R9,JL hc]
    split<;>lia
  ·cases u with
   |none=>simp [MB,hc]
   |some i=>
    simp only [MB,R9,JL hc]
    split<;>lia
 show wpAny (JS X.prog X.w) X.A (RK e (.Slice lo hi (B' est) p2) (.ref a)<|.ref s4.heap.objs.size) (EP X Jf σ Q) X.xe {s4 with heap:=s4.heap.push {cls:=.type "slice",data:=.fields #[vl,vu,vs]}}
 refine Zx (ops:=[.ref a,.ref s4.heap.objs.size]) ht.isList.typeIs slot_list_getitem.lookup ?_ (by with_unfolding_all rfl);refine RE ht.isList (UH ..) pl pu ps (by intro z;have:c'=0:=JN z;lia) ?_ (by rw[JH,Lf];lia);refine⟨.ref _,_,I5.laid (t':=s4.toks) (o:=.lst<|ms.map V.int) (λb ob q=>Jb _ q) (Jh _) ?_,rfl,q _ ms (I5.hok.fresh<|Jh _) hms⟩;exists by rw[Jc];exact K_<|aE hms,_,0,hv;exact JX _ rfl
theorem iE:∀(l:IW IX) (ks:IW Int),l.length=ks.length->(∀(i:Nat) (v:IX),l[i]? =B' v->∃(k:Int) (t:Tok),ks[i]? =B' k/\v=.int k t)->Nd l ks
 |[],[],_,_=>.nil
 |[],_::_,h,_=>by cases h
 |_::_,[],h,_=>by cases h
 |v::l,k::ks,h,f=>by
  obtain⟨k',t,e1,e2⟩:=f 0 v rfl;have e1':k=k':=JN e1;subst e1' e2;exact .cons k t (iE l ks (by simpa using h) λi u hu=>f (i+1) u<|by simpa using hu)
theorem lp{κ:Type}:∀{kvs:IW (κ×V)} {vs:IW (κ×IX)} {i:Nat} {q:κ×IX},KV kvs vs->vs[i]? =B' q->∃p,kvs[i]? =B' p/\p.1=q.1/\RelV p.2 q.2
 |_,_,_,_,.nil,e=>by cases e
 |_,_,0,_,.cons r _,e=>by
  have e':=JN e;subst e';exact⟨_,rfl,r.1,r.2⟩
 |_,_,i+1,q,.cons _ t,e=>by
  obtain⟨p,h1,h2⟩:=lp (i:=i) (q:=q) t (by simpa using e);exact⟨p,by simpa using h1,h2⟩
def jT(hc:X.calm=Je):dY X (.builtin "sorted") (λxs H Q=>∃p kvs ks,xs=[.ref p]/\H p=B' (.dK kvs)/\kvs.map (·.1)=ks.map Kw/\ks.length < 64/\
  ∀l Rg,H l=Ji->Sf Rg ks->Qo (·<=·) Rg->Q (.ref l) (upd H l<|.lst<|Xo V.int Rg)):=by
 intro Jf s σ H xs us Q I r h;obtain⟨p,kvs,ks,rfl,hp,hk,Y5,q⟩:=h;obtain⟨u,rfl,ru⟩:=fk r;cases ru;obtain⟨z,hd,vs,Rz,dd⟩:kvs.length<=sizeLine/\(p == MN)=Jg/\∃vs,KV kvs vs/\s.heap.DictOf (bn X.prog X.w) p vs:=I.hok p _ hp;obtain⟨ep,hat⟩:=dd.dictAt;have L_:kvs.length=vs.length:=Paired.length Rz;have hkl:ks.length=kvs.length:=by
  have e:=LU Wl hk;rw[Jc,Jc]at e;exact e.symm
 refine O4 Ts Sw Sy (Vn _) ?_;unfold Builtin.«sorted»;refine IY (m:=Uy "sorted" 1 1 _)<|Jl ?_;refine IY<|QI (A:=X.A.in1) (VS (knd:=bn X.prog X.w) (kvs:=vs) (ep:=ep) hd) (I.ok.hd hc) hat (by lia) λh' tk NG hkp YI=>?_;have hl:NG.toList.length=vs.length:=by rw[JB];exact YI.1
 have WT:Nd NG.toList ks:=by
  refine iE _ _ (by rw[hl];lia) λi v hv=>?_;obtain⟨k,x,hx,hkv⟩:=YI.2 i v (by rw[<-J0];exact hv);obtain⟨q1,ZU,hq2,_⟩:=lp Rz hx;have e1:(kvs.map (·.1))[i]? =B' k:=by rw[JW,ZU];exact LU B' hq2
  rw[hk,JW]at e1;cases e2:ks[i]? with
  |none=>rw[e2]at e1;cases e1
  |some n=>
   rw[e2]at e1;have e3:(Kw n:bz)=k:=JN e1;subst e3;obtain⟨t,et⟩:=PU (k:=n) (v:=v) hkv;exact⟨n,t,rfl,et⟩
 refine IY (Ou ?_<|by rw[hl];lia);have I1:Inv X Jf σ H {s with heap:=h',toks:=tk}:=I.kept hkp;have hoL:(h'.push<|KP "list" NG.toList.toArray 0).get? h'.objs.size=B' (KP "list" NG.toList.toArray 0):=JX _ rfl;refine IY<|KN<|Nx Q6 ⟨_,hoL,rfl⟩ QB (Xj hoL WT (by lia) λout Rg a1 a2 a3=>⟨_,rfl,?_⟩)<|Tu _;refine Jl ⟨_,rfl,?_⟩;have hn:=I1.hok.fresh (a:=h'.objs.size)<|Jh _;obtain⟨e,he⟩:=Uj (out:=out) hoL;have I2:Inv X Jf σ (upd H h'.objs.size<|.lst<|Rg.map V.int) {s with heap:=UK (h'.push<|KP "list" NG.toList.toArray 0) h'.objs.size NG.toList out,toks:=tk}:=by
  refine I1.laid (t':=tk) (λb o eb=>?_) (Jh _) ?_
  ·have hb:b < h'.objs.size:=Jv eb;rw[Tq (JO hb)<|by rw[Q7];exact LC hb];exact Jb _ eb
  ·refine⟨?_,out.toList,e,?_,?_⟩
   ·rw[Jc,a2.length_eq];exact K_ (aE<|by lia)
   ·exact gb a1
   ·simpa using he
 exact⟨.ref h'.objs.size,_,I2,rfl,q _ Rg hn a2 a3⟩
def Ed(K:IZ)(a:I_):It:=
 ⟨λi H=>∃xs x,SqL K H a xs/\xs[i]? =B' x,λi H x H'=>∃t v,H t=Ji/\x=.ref t/\H'=upd H t (.tup [.int i,v])/\∀xs,SqL K H a xs->xs[i]? =B' v,λi H=>∃xs,SqL K H a xs/\xs.length<=i⟩
theorem vt{K:IZ}(a e it:I_)(Xw:e≠it):u_ P w K (.Tuple es k1 pos) (Ed K a) [e,it] e (λi h=>(∃old,IsEnum h e it i old)/\h.IsListIter it a i) where
 mem:=by simp
 obj:=λi h st b hb=>by
  obtain⟨⟨old,h1⟩,o,h2,_,h4⟩:=st;obtain rfl|hb:=J2.mp hb
  ·exact⟨_,h1,λv z=>by
    have z':Wi _=Yu v:=z;cases z'⟩
  ·have e:b=it:=Jp.mp hb;subst e;exact⟨o,h2,λv z=>by rw[h4]at z;cases z⟩
 keep:=λi h h' st k=>by
  obtain⟨⟨old,h1⟩,h2⟩:=st;exact⟨⟨old,k e (by simp) _ h1⟩,h2.at λo e=>k it (by simp) o e⟩
 item:=by
  intro X hP hw hK hc i Jf s σ H E I hf st hg;subst hP hw hK;obtain⟨xs,x,hq,hx⟩:=hg;obtain⟨Lj,rv,p,hz⟩:=I.list hq;obtain⟨u,hu,ru⟩:=rv.get hx;obtain⟨⟨old,h1⟩,h2⟩:=st;obtain⟨f0,f1,f2,f3,f4,f5⟩:=hf e (by simp);obtain⟨g0,g1,g2,g3,g4,g5⟩:=hf it (by simp);refine wpAny_pyNext_enum_item h1 h2 p.isList (x:=u) (by simpa using hu) Xw λh' ho abv ht hsz hk=>?_;refine⟨_,rfl,wpAny_letOwnedTupleGo_enum ho λh'' ahg ac4=>?_⟩;have hel:e < s.heap.objs.size:=Jv h1;have Ue:it < s.heap.objs.size:=by
   obtain⟨o,q,_⟩:=h2;exact Jv q
  have kk:∀b o,b≠e->b≠it->s.heap.get? b=B' o->h''.get? b=B' o:=λb o h3 h4 q=>ac4.extBut b o h3<|hk b o h3 h4 q;have I1:Inv X Jf σ (upd H s.heap.objs.size<|.tup [.int i,x]) {s with heap:=h'',toks:=s.toks+1}:=by
   have hn:H s.heap.objs.size=none:=I.hok.fresh<|Jh _;have agB:h''.get? s.heap.objs.size=B' {cls:=.type "tuple",data:=.seq #[.int i s.toks,u]}:=ac4.extBut _ _ (NS hel) ht;have nt:∀b o,H b=B' o->b≠e/\b≠it:=λb o q=>⟨λz=>(by rw[z,f0]at q;cases q),λz=>(by rw[z,g0]at q;cases q)⟩;refine I.step (g':=s.gens) (d':=s.drawn) (t':=s.toks+1) (ch:=[e,it]) (λb hb=>?_) (λb o _ _ hc q _=>?_) (λb o _ _ hc q _=>⟨o.slots,?_⟩) (λb o _ q n=>?_) (λb o hc q=>⟨o,?_⟩) (λb ys q=>?_) (λb ob ys q=>?_) (λb ps q=>⟨#[],?_⟩) (λm hm=>?_) (λb ob q=>?_) I.bare
   ·obtain rfl|hb:=J2.mp hb
    ·exact⟨f3,f1,f4,f5⟩
    ·have z:b=it:=Jp.mp hb;subst z;exact⟨g3,g1,g4,g5⟩
   ·exact kk b o (λz=>hc<|by simp [z]) (λz=>hc<|by simp [z]) q
   ·exact kk b o (λz=>hc<|by simp [z]) (λz=>hc<|by simp [z]) q
   ·rw[ao<|JO<|Jv q];exact n
   ·exact kk b o (λz=>hc<|by simp [z]) (λz=>hc<|by simp [z]) q
   ·rw[ao<|aj q hn];exact q
   ·rw[ao<|aj q hn];exact q
   ·rw[ao<|aj q hn,q];simp
   ·obtain⟨o,es,ep,ho,r⟩:=hm;exact⟨o,es,ep,kk _ o (Ma f1) (Ma g1) ho,r⟩
   ·by_cases hb:b=s.heap.objs.size
    ·subst hb;rw[ad]at q;cases q;exact⟨by show 2<=sizeLine;decide,[.int i s.toks,u],.cons ⟨_,rfl⟩<|.cons ru .nil,⟨_,agB,rfl,_,rfl⟩⟩
    ·rw[ao hb]at q;refine(I.hok b ob q).stay (λc v hc z=>?_) (λc z=>by rw[ao<|aj z hn];exact z) λc ys z=>by rw[ao<|aj z hn];exact z
     obtain hc|hc:=hc
     ·subst hc;exact kk _ v (nt _ _ q).1 (nt _ _ q).2 z
     ·exact kk _ v (nt _ _ hc).1 (nt _ _ hc).2 z
  refine⟨.ref s.heap.objs.size,_,I1,rfl,⟨s.heap.objs.size,x,I.hok.fresh<|Jh _,rfl,rfl,λys hy=>by rw[I.list_inj hy hq];exact hx⟩,⟨⟨u,by simpa using ahg⟩,abv.at λo q=>ac4.extBut it o (Ma Xw) q⟩,λb hb=>?_⟩;have NJ:b < s.heap.objs.size:=by
   obtain rfl|hb:=J2.mp hb
   ·exact hel
   ·rw[Jp.mp hb];exact Ue
  rw[ao<|JO NJ];exact(hf b hb).1
 done:=by
  intro X hP hw hK hc i Jf s σ H E I hf st hg;subst hP hw hK;obtain⟨xs,hq,hx⟩:=hg;obtain⟨Lj,rv,p,hz⟩:=I.list hq;obtain⟨⟨old,h1⟩,h2⟩:=st;obtain⟨g0,g1,g2,g3,g4,g5⟩:=hf it (by simp);have hl:=rv.length;exact wpAny_pyNext_enum_end (I.ok.hd hc) h1 h2 p.isList (by simp;lia) λh' eb=>⟨rfl,I.turned (t':=s.toks) (λb o hb e=>eb b o hb e) g0 g1 g3 g4 g5⟩
 self:=λ_ _ _ _ _ st h=>by
  obtain⟨⟨old,h1⟩,_⟩:=st;exact U6 h1 h
def xo(f:V->Hp->Prop):IW V->Hp->Prop
 |[x],H=>f x H
 |_,_=>False
theorem iV:∀{vs:IW V} {H:Hp},xo f vs H->∃x,vs=[x]/\f x H
 |[x],_,h=>⟨x,rfl,h⟩
def Gb(K:IZ)(tl:TE):TI:=λσ H R=>tl σ H λx H1=>∃a,x=.ref a/\(∃xs,SqL K H1 a xs)/\R (Ed K a) H1
def kr{es:IW KJ}{k1:Nat}{acK:Pos}{p pos:Pos}(hg:Gl X "enumerate")(hm:X.mg "enumerate"=Ji)(hl:PE X l tl)(hs:J3 [l] X.env=[(Jg,MC l X.env)]:=by rfl):
  PI X (.Tuple es k1 acK) (.Call (.Name "enumerate" p) [l] [] pos) (Gb X.K tl):=by
 intro Jf s σ H R I h;have ha:=aa hl (ae (X:=X)) (by rw[hs];rfl);refine Call_<|eS I hg hm boot_enumerate<|LZ (bV (ha pos Jf s σ H (xo λx H1=>∃a,x=.ref a/\(∃xs,SqL X.K H1 a xs)/\R (Ed X.K a) H1) I h) λus s1 ⟨vs,H1,I1,r1,q1⟩=>?_) hs rfl
 ·obtain⟨x,e,a,ex,⟨xs,hq⟩,q⟩:=iV q1;subst e ex;obtain⟨u,rfl,ru⟩:=fk r1;cases ru;obtain⟨Lj,rv,pl,hz⟩:=I1.list hq;refine call_enumerate_list pl.isList λh' he YE hsz hk=>?_;refine U6 he ?_;have I2:Inv X Jf σ H1 {s1 with heap:=h'}:=I1.kept (t':=s1.toks) hk;refine⟨s1.heap.objs.size+1,[s1.heap.objs.size+1,s1.heap.objs.size],_,_,H1,rfl,I2,vt a _ _<|Nat.succ_ne_self _,⟨⟨_,he⟩,YE⟩,λb hb=>?_,q⟩;obtain rfl|hb:=J2.mp hb
  ·exact I1.fpOk (OR _)<|I1.hok.fresh<|OR _
  ·rw[Jp.mp hb];exact I1.fpOk (Jh _)<|I1.hok.fresh<|Jh _
def lq{K:IZ}{g:TG}{tb:TS}{D:gj}(Pv:Nat->St->Hp->Prop)(h0:Pv 0 σ H)(hl:∀i σ H,i<=xs.length->Pv i σ H->SqL K H a xs)
  (hs:∀i x σ H t,xs[i]? =B' x->Pv i σ H->H t=Ji->g (.ref t) σ (upd H t<|.tup [.int i,x]) λσ2 H2=>tb {D with nx:=Pv<|i+1,ct:=Pv<|i+1,bk:=D.nx} σ2 H2) (hd:∀σ H,Pv xs.length σ H->D.nx σ H):
  ∃W:Nat->Nat->St->Hp->Prop,(∃m,W 0 m σ H)/\∀i m σ H,W i m σ H->
   ((Ed K a).stop i H/\D.nx σ H)\/((Ed K a).go i H/\∃N:St->Hp->Prop,(∀σ' H',N σ' H'->∃m',m' < m/\W (i+1) m' σ' H')/\∀x H',(Ed K a).yld i H x H'->g x σ H' λσ2 H2=>tb {D with nx:=N,ct:=N,bk:=D.nx} σ2 H2):=by
 exists λi m σ H=>m=xs.length - i/\i<=xs.length/\Pv i σ H,⟨xs.length,by simp,JQ _,h0⟩;rintro i m σ H ⟨rfl,hi,p⟩;have q:=hl i σ H hi p;by_cases NJ:i < xs.length
 ·refine .inr ⟨⟨xs,xs[i],q,by simp [NJ]⟩,Pv<|i+1,λσ' H' p'=>⟨xs.length - (i+1),by lia,rfl,NJ,p'⟩,λx H' y=>?_⟩;obtain⟨t,v,ht,rfl,rfl,y⟩:=y;exact hs i v σ H t (y xs q) p ht
 ·have e:i=xs.length:=by lia
  subst e;exact .inl ⟨⟨xs,q,Jh _⟩,hd σ H p⟩
end L2
namespace L2
section
open PySem
variable {K:IZ}
def iW(e:X.K=K):IxR X (HY K):=by subst e;exact ay
def iF(e:X.K=K):OpR X (Ls .In) (Hw K Jg):=by subst e;exact mO
def mz(e:X.K=K):OpR X (Ls .NotIn) (Hw K Je):=by subst e;exact cK
def mT(e:X.K=K):dY X (.builtin "len") (AE K):=by subst e;exact bh
end
end L2
namespace OD
open PySem L2
def absI(i:Int):Int:=if i < 0 then -i else i
def xp(h:0<=i):absI i=i:=by unfold absI;rw[JK<|by lia]
def Gc:Int->IW Int->Prop
 |_,[]=>True
 |b,l::r=>b < absI l/\Gc (absI l) r
def iG(n:Int)(ls:IW Int):Prop:=Gc 0 ls/\∀l∈ls,absI l<=n
def xq(n:Int):iG n []:=⟨trivial,λ_ h=>nomatch h⟩
def gc(c:IW Int):Jw:=.tuple<|c.map .int
def tK(t:Str)(cs:IW (IW Int)):Jw:=.tuple [.str t,.list<|cs.map gc]
def WS(t:Str):Prop:=∀ch∈t.cps.toList,ch=119\/ch=115
structure IQ (most:Int)(t:Str)(cs:IW (IW Int)):Prop where
 len:(t.length:Int)<=most
 ws:WS t
 many:cs.length<=16
 cl:∀c∈cs,iG t.length c
def dP(ps:IW (Int×Int)):IW (bz×V):=ps.map λq=>(Kw q.1,V.int q.2)
def rG(ps:IW (Int×Int))(k s:Int):IW (Int×Int):=if(ps.any λq=>decide (q.1=k))=Je then ps.map (λq=>if q.1=k then(q.1,s)else q)else ps++[(k,s)]
def Ee(ps:IW (Int×Int))(k:Int):((dP ps).any λkv=>decide (kv.1=(Kw k:bz)))=ps.any λq=>decide (q.1=k):=by
 unfold dP;rw[QR]
 congr 1
 funext q
 show decide ((Kw q.1:bz)=Kw k)=decide (q.1=k)
 by_cases e:q.1=k
 ·rw[Jz e,Jz<|by rw[e]]
 ·rw[Jj e,Jj λz=>e<|OI z]
def xr(ps:IW (Int×Int))(k s:Int):b_ (dP ps) (Kw k) (V.int s)=dP (rG ps k s):=by
 unfold b_ rG;rw[Ee];by_cases h:(ps.any λq=>decide (q.1=k))=Je
 ·rw[JL h,JL h];unfold dP;rw[Lq,Lq]
  congr 1
  funext q
  show(if(Kw q.1:bz)=Kw k then((Kw q.1:bz),V.int s)else(Kw q.1,V.int q.2))=(Kw (if q.1=k then(q.1,s)else q).1,V.int (if q.1=k then(q.1,s)else q).2)
  by_cases e:q.1=k
  ·rw[JL (by rw[e]),JL e]
  ·rw[JK λz=>e<|OI z,JK e]
 ·rw[JK h,JK h];unfold dP;rw[Ko];rfl
def tL(ps:IW (Int×Int)):(dP ps).map (·.1)=(ps.map (·.1)).map Kw:=by
 unfold dP;rw[Lq,Lq];rfl
def mU(ps:IW (Int×Int))(k:Int):Jd Int:=(ps.find? λq=>decide (q.1=k)).map (·.2)
def Ef(ps:IW (Int×Int))(k:Int):cx (dP ps) (Kw k:bz)=(mU ps k).map V.int:=by
 induction ps with
 |nil=>rfl
 |cons q r ih=>
  show cx (((Kw q.1:bz),V.int q.2)::dP r) (Kw k)=_
  by_cases e:q.1=k
  ·rw[cT<|by rw[e]];simp [mU,Mw,e]
  ·rw[cU λz=>e<|OI z,ih];simp [mU,Mw,e]
structure DOk (n:Int)(ps:IW (Int×Int)):Prop where
 nd:(ps.map (·.1)).Nodup
 rng:∀q∈ps,1<=q.1/\q.1<=n
 sg:∀q∈ps,q.2=1\/q.2=-1
def DOk.nil(n:Int):DOk n []:=⟨TF,(λ_ h=>nomatch h),(λ_ h=>nomatch h)⟩
def DOk.put(h:DOk n ps)(h1:1<=k/\k<=n)(hs:s=1\/s=-1):DOk n (rG ps k s)/\(rG ps k s).length<=ps.length+1:=by
 unfold rG;by_cases a:(ps.any λq=>decide (q.1=k))=Je
 ·rw[JL a];have e:(ps.map λq=>if q.1=k then(q.1,s)else q).map (·.1)=ps.map (·.1):=by
   rw[Lq]
   congr 1
   funext q
   show(if q.1=k then(q.1,s)else q).1=q.1
   split<;>rfl
  refine⟨⟨by rw[e];exact h.nd,λq hq=>?_,λq hq=>?_⟩,by rw[Jc];lia⟩
  ·obtain⟨q',ZE,rfl⟩:=Ke.mp hq
   split
   ·exact h.rng q' ZE
   ·exact h.rng q' ZE
  ·obtain⟨q',ZE,rfl⟩:=Ke.mp hq
   split
   ·exact hs
   ·exact h.sg q' ZE
 ·rw[JK a];refine⟨⟨?_,λq hq=>?_,λq hq=>?_⟩,by rw[JC];exact Jh _⟩
  ·rw[Ko];refine tH h.nd λm=>a ?_;obtain⟨q,hq,e⟩:=Ke.mp m;exact MY.mpr ⟨q,hq,Jz e⟩
  ·obtain z|z:=JI.mp hq
   ·exact h.rng q z
   ·rw[Jp.mp z];exact h1
  ·obtain z|z:=JI.mp hq
   ·exact h.sg q z
   ·rw[Jp.mp z];exact hs
def Ay(ps:IW (Int×Int))(k:Int):Int:=(mU ps k).getD 1
def DOk.look(h:DOk n ps)(hk:k∈ps.map (·.1)):mU ps k=B' (Ay ps k)/\(Ay ps k=1\/Ay ps k=-1):=by
 obtain⟨q,hq,e⟩:=Ke.mp hk;unfold Ay mU;cases f:ps.find? λq=>decide (q.1=k)with
 |none=>
  have:=Q_.mp f q hq;exact absurd (Jz e) this
 |some z=>exact⟨rfl,h.sg z<|List.mem_of_find?_eq_some f⟩
def p6(hk:1<=k)(hs:s=1\/s=-1):absI (k*s)=k:=by grind[absI]
theorem xt{f:Int->Int}:∀(ks:IW Int) (b:Int),0<=b->(∀k∈ks,b < k)->ks.Pairwise (· < ·)->(∀k∈ks,f k=1\/f k=-1)->Gc b (ks.map λk=>k*f k)
 |[],_,_,_,_,_=>trivial
 |k::r,b,h0,hb,hp,hf=>by
  have hk:=hb k JG;have e:=p6 (s:=f k) (show 1<=k by lia)<|hf k JG;obtain⟨p1,p2⟩:=LI.mp hp;show b < absI (k*f k)/\Gc (absI<|k*f k) (r.map λk=>k*f k)
  rw[e];exact⟨hk,xt r k (by lia) p1 p2 λz hz=>hf z<|Jy _ hz⟩
theorem gY:∀{ks:IW Int},ks.Pairwise (·<=·)->ks.Nodup->ks.Pairwise (· < ·)
 |[],_,_=>OC
 |k::r,hp,hn=>by
  obtain⟨p1,p2⟩:=LI.mp hp;obtain⟨n1,n2⟩:=Mv.mp hn;refine LI.mpr ⟨λz hz=>?_,gY p2 n2⟩;have:=p1 z hz;have:k≠z:=λe=>n1<|e▸hz;lia
def DOk.clause{n:Int}{ps:IW (Int×Int)}{ks:IW Int}(h:DOk n ps)(hp:ks.Perm (ps.map (·.1)))(hs:ks.Pairwise (·<=·)):iG n (ks.map λk=>k*Ay ps k):=by
 have hm:∀k∈ks,k∈ps.map (·.1):=λk hk=>hp.mem_iff.mp hk;have hr:∀k∈ks,1<=k/\k<=n:=λk hk=>by
  obtain⟨q,hq,e⟩:=Ke.mp<|hm k hk;rw[<-e];exact h.rng q hq
 refine⟨xt ks 0 (Lg 0) (λk hk=>by have:=(hr k hk).1;lia) (gY hs<|hp.nodup_iff.mpr h.nd) λk hk=>(h.look<|hm k hk).2,λl hl=>?_⟩;obtain⟨k,hk,rfl⟩:=Ke.mp hl;rw[p6 (hr k hk).1 (h.look<|hm k hk).2];exact(hr k hk).2
def ft{ns:IW Int}{i:Nat}{x:V}(h:(ns.map V.int)[i]? =B' x):∃z,x=.int z/\ns[i]? =B' z:=by grind
def xu(ns:IW Int)(lo hi:Jd Int):∃ms:IW Int,dH (ns.map V.int) lo hi=ms.map V.int/\ms.length<=ns.length:=by
 unfold dH;rw[Jc];refine⟨(ns.drop<|HT.sIx ns.length 0 lo).take<|HT.sIx ns.length ns.length hi - HT.sIx ns.length 0 lo,?_,?_⟩
 ·rw[<-List.map_drop,<-List.map_take]
 ·rw[J9,Nz];lia
def tM(a b:Str):(a++b).cps.toList=a.cps.toList++b.cps.toList:=by
 show(a.cps++b.cps).toList=_
 simp
theorem p7(he:e.cps.toList=[]):∀ss,(Xe e ss).cps.toList=(ss.map λs=>s.cps.toList).flatten
 |[]=>rfl
 |[x]=>by
  show x.cps.toList=_
  simp
 |x::y::r=>by
  show((x++e)++Xe e (y::r)).cps.toList=_
  rw[tM,tM,he,p7 he<|y::r];simp
def lu(s:Str):Prop:=s=⟨#[119]⟩\/s=⟨#[115]⟩
theorem lw:∀{ss:IW Str},(∀s∈ss,lu s)->(ss.map λs=>s.cps.toList).flatten.length=ss.length/\∀ch∈(ss.map λs=>s.cps.toList).flatten,ch=119\/ch=115
 |[],_=>⟨rfl,λ_ h=>nomatch h⟩
 |s::r,h=>by
  obtain⟨h1,h2⟩:=lw (ss:=r) λz hz=>h z<|Jy _ hz;rw[Kz,List.flatten_cons];obtain rfl|rfl:=h s JG
  ·refine⟨by rw[JC,h1];show 1+r.length=r.length+1;lia,λch hc=>?_⟩;obtain z|z:=JI.mp hc
   ·exact .inl (by simpa using z)
   ·exact h2 ch z
  ·refine⟨by rw[JC,h1];show 1+r.length=r.length+1;lia,λch hc=>?_⟩;obtain z|z:=JI.mp hc
   ·exact .inr (by simpa using z)
   ·exact h2 ch z
def Gd:(I0 "").cps.toList=[]:=by decide+kernel
def xv(h:∀s∈ss,lu s):(Vf "" ss).length=ss.length/\WS (Vf "" ss):=by
 have e:Vf (I0 "") ss=Xe (I0 "") ss:=eq_of_beq<|V0 _ ss;obtain⟨h1,h2⟩:=lw h;have e2:=p7 Gd ss;refine⟨?_,?_⟩
 ·rw[e];show(Xe (I0 "") ss).cps.size=_
  rw[<-JB,e2];exact h1
 ·intro ch hc;rw[e,e2]at hc;exact h2 ch hc
theorem mV:∀{ss:IW Str},(∀s∈ss,lu s)->(ss.map λs=>s.length).sum=ss.length
 |[],_=>rfl
 |s::r,h=>by
  rw[Kz,List.sum_cons,mV λz hz=>h z<|Jy _ hz,J4];obtain rfl|rfl:=h s JG
  ·show 1+_=_;lia
  ·show 1+_=_;lia
def Ge(h0:0<=j)(h1:j < 2):∃c,rc (I0 "ws").cps.toList j=B' c/\lu ⟨#[c]⟩:=by
 obtain rfl|rfl:=(by lia:j=0\/j=1)
 ·exact⟨119,by decide+kernel,.inl rfl⟩
 ·exact⟨115,by decide+kernel,.inr rfl⟩
def CL(H:Hp)(c:IW Int)(v:V):Prop:=∃t,v=.ref t/\H t=B' (.tup<|c.map V.int)
def CLs(H:Hp):IW (IW Int)->IW V->Prop:=Paired<|CL H
def CL.mono(h:CL H c v)(k:Same H H'):CL H' c v:=let ⟨t,e,z⟩:=h;⟨t,e,k _ _ z⟩
def CL.upd(h:CL H c v)(hq:H q=B' (.lst xs)):CL (upd H q o) c v:=by
 obtain⟨t,e,z⟩:=h;exact⟨t,e,by rw[ao<|wI z hq<|by intro w;cases w];exact z⟩
theorem CLs.mono(k:Same H H'):∀{cs:IW (IW Int)} {xs:IW V},CLs H cs xs->CLs H' cs xs
 |_,_,.nil=>.nil
 |_,_,.cons h t=>.cons (h.mono k)<|CLs.mono k t
theorem CLs.upd(hq:H q=B' (.lst ys)):∀{cs:IW (IW Int)} {xs:IW V},CLs H cs xs->CLs (upd H q o) cs xs
 |_,_,.nil=>.nil
 |_,_,.cons h t=>.cons (h.upd hq)<|CLs.upd hq t
def CLs.snoc(h:CL H c v)(t:CLs H cs xs):CLs H (cs++[c]) (xs++[v]):=Paired.snoc t h
def CLs.length(h:CLs H cs xs):cs.length=xs.length:=Paired.length h
theorem CLs.get:∀{cs:IW (IW Int)} {xs:IW V} {j:Nat} {v:V},CLs H cs xs->xs[j]? =B' v->∃c,cs[j]? =B' c/\CL H c v
 |_,_,_,_,.nil,e=>by cases e
 |_,_,0,_,.cons h _,e=>⟨_,rfl,by have e':=JN e;subst e';exact h⟩
 |_,_,j+1,v,.cons _ t,e=>by
  obtain⟨c,h1,h2⟩:=CLs.get (j:=j) (v:=v) t (by simpa using e);exact⟨c,by simpa using h1,h2⟩
def CL.rd(h:CL H c v):RD H (gc c) v:=by
 obtain⟨t,rfl,z⟩:=h;exact bo z<|eO c
theorem CLs.rds:∀{cs:IW (IW Int)} {xs:IW V},CLs H cs xs->dJ H (cs.map gc) xs
 |_,_,.nil=>aJ
 |_,_,.cons h t=>am h.rd<|CLs.rds t
def CL.of(h:RD H (gc c) v):CL H c v:=by
 obtain⟨a,xs,rfl,h1,h2⟩:=aM h;refine⟨a,rfl,?_⟩;rw[h1];have:∀(ns:IW Int) (xs:IW V),dJ H (ns.map Pt) xs->xs=ns.map V.int:=by
  intro ns
  induction ns with
  |nil=>intro xs r;exact bY r
  |cons n r ih=>
   intro xs z;obtain⟨y,ys,rfl,e,t⟩:=aN z;have e':y=.int n:=by
    unfold RD at e;exact e
   rw[e',ih ys t];rfl
 rw[this c xs h2]
theorem CLs.of:∀{cs:IW (IW Int)} {xs:IW V},dJ H (cs.map gc) xs->CLs H cs xs
 |[],xs,h=>by
  rw[bY h];exact .nil
 |c::cs,xs,h=>by
  obtain⟨y,ys,rfl,h1,h2⟩:=aN h;exact .cons (CL.of h1)<|CLs.of h2
def ku(hp:H p=B' (.tup [.str t,.ref q]))(hq:H q=B' (.lst xs))(h:CLs H cs xs):RD H (tK t cs) (.ref p):=
 bo hp (am (bS t)<|am (bI hq h.rds) aJ)
def xw(h:RD H (tK t cs) v):∃p q xs,v=.ref p/\H p=B' (.tup [.str t,.ref q])/\H q=B' (.lst xs)/\CLs H cs xs:=by
 obtain⟨p,ys,rfl,h1,h2⟩:=aM h;obtain⟨y,zs,rfl,h3,h4⟩:=aN h2;obtain⟨z,ws,rfl,h5,h6⟩:=aN h4;have h7:=bY h6;subst h7;obtain⟨q,xs,rfl,h8,h9⟩:=fF h5;have e:y=.str t:=by
  unfold RD at h3;exact h3
 subst e;exact⟨p,q,xs,rfl,h1,h8,CLs.of h9⟩
theorem fw:∀cs:IW (IW Int),LY (cs.map gc)=Je
 |[]=>rfl
 |c::r=>by
  show(LY (c.map Pt)&&LY (r.map gc))=Je
  rw[SY,fw r];rfl
theorem jD:∀cs:IW (IW Int),MR (cs.map gc)<=1
 |[]=>JQ _
 |c::r=>by
  have h:=jD r;show max (MR (c.map Pt)+1) (MR<|r.map gc)<=1
  rw[T9];lia
def ik(h1:d.canLay0=Je)(h2:d.depth<=64):KI d=true:=by
 unfold KI;rw[h1,Jz h2];rfl
def rH(cs:IW (IW Int)):KI (.list<|cs.map gc)=true:=by
 refine ik (fw cs) ?_;have:=jD cs;show MR (cs.map gc)+1<=64
 lia
def vv(c:IW Int):KI (gc c)=true:=ik (SY c) (by show MR (c.map Pt)+1<=64;rw[T9];lia)
def p8:KI (.list [])=true:=by decide+kernel
def p9:KI (.tuple [])=true:=by decide+kernel
def p_(cs:IW (IW Int)):KC (.list<|cs.map gc) (.list [])=decide (cs=[]):=by
 cases cs with
 |nil=>simp [KC,Lr]
 |cons n r=>simp [KC,Lr]
def gv(c:IW Int):KC (gc c) (.tuple [])=decide (c=[]):=by
 cases c with
 |nil=>simp [gc,KC,Lr]
 |cons n r=>simp [gc,KC,Lr]
mutual
theorem qd:∀d,d.canLay0=Je->KC d d=Je
 |.none,_=>rfl
 |.bool b,_=>by simp [KC]
 |.int i,_=>by simp [KC]
 |.str x,_=>by simp [KC]
 |.list ds,h=>by
  show Lr ds ds=Je
  exact gZ ds h
 |.tuple ds,h=>by
  show Lr ds ds=Je
  exact gZ ds h
 |.dict _,h=>by cases h
theorem gZ:∀ds,LY ds=Je->Lr ds ds=Je
 |[],_=>rfl
 |d::r,h=>by
  have h':d.canLay0=Je/\LY r=true:=by simpa [LY]using h
  show(KC d d&&Lr r r)=Je
  rw[qd d h'.1,gZ r h'.2];rfl
end
def Gf(h:WS t):QM t=true:=by
 unfold QM;rw[<-Array.all_toList];refine Md.mpr λch hc=>Jz ?_;obtain rfl|rfl:=h ch hc
 ·decide
 ·decide
def qe(h:WS t)(cs:IW (IW Int)):KI (tK t cs)=true:=by
 refine ik ?_ ?_
 ·show(QM t&&(LY (cs.map gc)&&Je))=Je
  rw[Gf h,fw];rfl
 ·have:=jD cs;show max 0 (max (MR (cs.map gc)+1) 0)+1<=64
  lia
abbrev xx:R2:=rI (λ_ j=>0 < j) λi j=>V.int<|i % j
abbrev Eg:R2:=rI FG λi j=>V.int<|i / j
abbrev IR:R2:=Aw λi j=>V.bl (decide (j < i))
abbrev Eh:R2:=λx y H Q=>HU x y H Q\/D7 x y H Q
abbrev Ei:R2:=λx y H Q=>HV x y H Q\/D8 x y H Q
def vw{bits:Int}(h3:σ[3]? =B' (B'<|.int bits))(h4:σ[4]? =B' (B'<|.int mm))(m0:0<=mm)(m1:mm<=16)(h:∀z,0<=z->z<=16->D.nx (σ.set 4<|B'<|.int z) H)(he:σ.set 4 (B'<|.int mm)=σ):
  rg (jQ<|mw IR (mw xx (gn 3)<|tC<|.int 3)<|tC<|.int 0) (rh (mw Eg (gn 4)<|tC<|.int 3)<|eU 4) pM D σ H:=by
 refine⟨_,h3,_,_,rfl,rfl,(by show(0:Int) < 3;decide),_,_,rfl,rfl,_,rfl,fU (λ_=>?_) λ_=>?_⟩
 ·exact⟨_,h4,_,_,rfl,rfl,⟨by decide,by decide⟩,h _ (by lia)<|by lia⟩
 ·have z:=h mm m0 m1;rw[he]at z;exact z
def rJ{D:gj}(h9:σ[9]? =B' (B'<|.int m))(hpc:H pc=B' (.tup<|lc.map V.int))(hlc:iG n lc)(he:σ.set 10 (B'<|.ref pc)=σ)
  (h:∀pc' lc' H',Same H H'->H' pc'=B' (.tup<|lc'.map V.int)->iG n lc'->D.nx (σ.set 10<|B'<|.ref pc') H'):
  rg (jQ<|mw Eh (mw xx (gn 9)<|tC<|.int 40)<|tC<|.int 7) (rh (AG ke)<|eU 10) pM D σ H:=by
 refine⟨_,h9,_,_,rfl,rfl,(by show(0:Int) < 40;decide),.inl ⟨rfl,_,rfl,fU (λ_=>?_) λ_=>?_⟩⟩
 ·exact⟨JQ _,λp hp=>h p [] _ (ag hp _) ad<|xq n⟩
 ·have z:=h pc lc H (Same.refl H) hpc hlc;rw[he]at z;exact z
def rK{K:IZ}{D:gj}{xs:IW V}{cs:IW (IW Int)}(h6:σ[6]? =B' (B'<|.ref q))(h9:σ[9]? =B' (B'<|.int m))(m0:0<=m)(hpc:H pc=B' (.tup<|lc.map V.int))(hlc:iG n lc)(he:σ.set 10 (B'<|.ref pc)=σ)
  (hq:H q=B' (.lst xs)) (hcs:CLs H cs xs) (RB:∀c∈cs,iG n c)
  (h:∀pc' lc' H',Same H H'->H' pc'=B' (.tup<|lc'.map V.int)->iG n lc'->D.nx (σ.set 10<|B'<|.ref pc') H'):
  rg (Fu (jQ<|mw Eh (mw xx (mw Eg (gn 9)<|tC<|.int 40)<|tC<|.int 9)<|tC<|.int 3)<|jQ<|mw Ei (gn 6)<|rB ke)
   (rh (mw (HY K) (gn 6)<|mw xx (mw Eg (gn 9)<|tC<|.int 400)<|HX (AE K)<|pP (gn 6) ke)<|eU 10) pM D σ H:=by
 have stay:∀H',Same H H'->D.nx σ H':=λH' k=>by
  have z:=h pc lc H' k (k _ _ hpc) hlc;rw[he]at z;exact z
 refine⟨_,h9,_,_,rfl,rfl,⟨by decide,by decide⟩,_,_,rfl,rfl,(by show(0:Int) < 9;decide),.inl ⟨rfl,_,rfl,fU (λ_=>?_) λ_=>?_⟩⟩
 ·refine⟨_,h6,JQ _,λe he'=>.inr ⟨.list<|cs.map gc,.list [],bI (by rw[ao<|aj hq he'];exact hq) (hcs.mono<|ag he' _).rds,bI ad aJ,rH cs,p8,_,rfl,?_⟩⟩;rw[p_];have k1:Same H (upd H e<|.lst []):=ag he' _;refine fU (λg=>?_) λg=>?_
  ·have Xw:cs≠[]:=λz=>by
    rw[Jz z]at g;cases g
   have hl:0 < xs.length:=by
    rw[<-hcs.length];cases cs with
    |nil=>exact absurd rfl Xw
    |cons _ _=>exact Vq _
   have j0:=KY (m / 400) (show(xs.length:Int)≠0 by lia);have j1:=KE (m / 400) (show(0:Int) < xs.length by lia);obtain⟨v,hv,hva⟩:=w_ (xs:=xs) j0 j1;obtain⟨c,hc,t,rfl,ht⟩:=hcs.get hv;refine⟨_,h6,_,h9,_,_,rfl,rfl,⟨by decide,by decide⟩,_,h6,.ref q,_,rfl,.inl ⟨_,SqL.of<|k1 _ _ hq,rfl⟩,_,_,rfl,rfl,(by show(0:Int) < (xs.length:Int);lia),.inl ⟨q,xs,_,.ref t,rfl,rfl,SqL.of<|k1 _ _ hq,hva,?_⟩⟩;exact h t c _ k1 (k1 _ _ ht)<|RB c<|Jx hc
  ·exact stay _ k1
 ·exact stay H<|Same.refl H
def qf{K:IZ}{D:gj}{xs:IW V}{cs:IW (IW Int)}(h6:σ[6]? =B' (B'<|.ref q))(h9:σ[9]? =B' (B'<|.int m))(h10:σ[10]? =B' (B'<|.ref pc))(hpc:H pc=B' (.tup<|lc.map V.int))(hlc:iG n lc)
  (hq:H q=B' (.lst xs)) (hcs:CLs H cs xs) (RB:∀c∈cs,iG n c) (L_:cs.length < 900)
  (h:∀xs' cs' H',(∀b o,H b=B' o->b≠q->H' b=B' o)->H' q=B' (.lst xs')->CLs H' cs' xs'->(∀c∈cs',iG n c)->cs'.length<=cs.length+1->D.nx σ H'):
  rg (Fo (jQ<|mw Ei (gn 10)<|AG ke)<|jQ<|mw Eh (mw xx (gn 9)<|tC<|.int 40)<|tC<|.int 7) (wN<|H_ K "list" oC (gn 6)<|pP (gn 10) ke) pM D σ H:=by
 refine⟨_,h10,JQ _,λe he=>.inr ⟨gc lc,.tuple [],bo (by rw[ao<|aj hpc he];exact hpc)<|eO lc,bo ad aJ,vv lc,p9,_,rfl,?_⟩⟩;have k1:Same H (upd H e<|.tup []):=ag he _;generalize upd H e (.tup [])=H1 at k1;have ZU:=k1 _ _ hq;have app:wN (H_ K "list" oC (gn 6)<|pP (gn 10) ke) D σ H1:=by
  exists _,h6,.inl ⟨rfl,_,SqL.of ZU⟩,_,h10,q,xs,_,rfl,rfl,ZU,(by rw[<-hcs.length];exact aE<|by lia);have c1:=(hcs.mono k1).upd (o:=.lst<|xs++[.ref pc]) ZU;have c2:CL (upd H1 q<|.lst<|xs++[.ref pc]) lc (.ref pc):=CL.upd ⟨pc,rfl,k1 _ _ hpc⟩ ZU;refine h _ (cs++[lc]) _ (λb o hb hbq=>by rw[ao hbq];exact k1 b o hb) ad (CLs.snoc c2 c1) (λc hc=>?_) (by rw[JC];exact Jh _);obtain z|z:=JI.mp hc
  ·exact RB c z
  ·rw[Jp.mp z];exact hlc
 refine fU (λ_=>aW app) λ_=>?_;refine⟨_,h9,_,_,rfl,rfl,(by show(0:Int) < 40;decide),.inl ⟨rfl,_,rfl,fU (λ_=>app) λ_=>?_⟩⟩;exact h xs cs H1 (λb o hb _=>k1 b o hb) ZU (hcs.mono k1) RB (by lia)
def gx{α:Type}{f g:α->JJ}:∀{xs:IW α},(∀x∈xs,f x=g x)->xs.any f=xs.any g:=by grind
def oM(c:IW Int)(l:Int):c.any (λx=>decide (x=l))=c.contains l:=by grind
def c8(c:IW Int)(l:Int):re (.int l) (c.map V.int)=c.contains l:=by
 unfold re;rw[QR,<-oM];refine gx λx _=>?_;show(x == l)=decide (x=l)
 rw[Mc,Og];exact Oh
section
variable {K:IZ}
def cE(Me:St)(p:V->JJ)(f:V->V)(e0:σ0=Ji::Me)(ha:H1 a=B' (.tup xs))(hD:H1 D=Ji)(L_:xs.length<=900)
  (ht:∀x∈xs,∀H' R,Same H1 H'->R (p x) H'->tt (B' x::Me) H' R)
  (he:∀x∈xs,p x=Je->∀H' R,Same H1 H'->R (f x) H'->te (B' x::Me) H' R)
  (hq:Q (.ref D) (upd H1 D<|.lst<|(xs.filter p).map f)):gW (DN K a) D (eU 0) tt te σ0 H1 Q:=by
 have na:a≠D:=aj ha hD;refine xh (K:=K) (a:=a) (xs:=xs) (λi σ ys H2=>(∃v0,σ=v0::Me)/\ys=((xs.take i).filter p).map f/\H2=upd H1 D (.lst ys)) ⟨⟨Ji,e0⟩,rfl,rfl⟩ ?_ ?_ ?_
 ·rintro i σ ys H2 _ ⟨_,_,rfl⟩;exact⟨ad,SqT.of<|by rw[ao na];exact ha⟩
 ·rintro i x σ ys H2 hx ⟨⟨v0,rfl⟩,VF,rfl⟩;have hm:=Jx hx;have e:xs.take (i+1)=xs.take i++[x]:=by rw[KQ,hx];rfl
  refine ht x hm _ _ (ag hD _) ?_;cases hp:p x with
  |true=>
   refine aW<|he x hm hp _ _ (ag hD _) ⟨ad,?_,⟨_,rfl⟩,?_,fE⟩
   ·have:ys.length<=xs.length:=by
     rw[VF,Jc];exact Lb (LS _ _) (by rw[J9];lia)
    exact aE (by lia)
   ·rw[e,ND,Ko,<-VF];simp [hp]
  |false=>
   refine aQ ⟨⟨_,rfl⟩,?_,rfl⟩;rw[e,ND,Ko,<-VF];simp [hp]
 ·rintro σ ys H2 ⟨_,VF,rfl⟩;rw[JY<|Jh _]at VF;rw[VF];exact hq
def gy(Me:St)(p:V->JJ)(f:V->V)(e0:σ0=Ji::Me)(ha:H1 a=B' (.lst xs))(hD:H1 D=Ji)(L_:xs.length<=900)
  (ht:∀x∈xs,∀H' R,Same H1 H'->R (p x) H'->tt (B' x::Me) H' R)
  (he:∀x∈xs,p x=Je->∀H' R,Same H1 H'->R (f x) H'->te (B' x::Me) H' R)
  (hq:Q (.ref D) (upd H1 D<|.lst<|(xs.filter p).map f)):gW (wO K a) D (eU 0) tt te σ0 H1 Q:=by
 have na:a≠D:=aj ha hD;refine dE (K:=K) (a:=a) (xs:=xs) (λi σ ys H2=>(∃v0,σ=v0::Me)/\ys=((xs.take i).filter p).map f/\H2=upd H1 D (.lst ys)) ⟨⟨Ji,e0⟩,rfl,rfl⟩ ?_ ?_ ?_
 ·rintro i σ ys H2 _ ⟨_,_,rfl⟩;exact⟨ad,SqL.of<|by rw[ao na];exact ha⟩
 ·rintro i x σ ys H2 hx ⟨⟨v0,rfl⟩,VF,rfl⟩;have hm:=Jx hx;have e:xs.take (i+1)=xs.take i++[x]:=by rw[KQ,hx];rfl
  refine ht x hm _ _ (ag hD _) ?_;cases hp:p x with
  |true=>
   refine aW<|he x hm hp _ _ (ag hD _) ⟨ad,?_,⟨_,rfl⟩,?_,fE⟩
   ·have:ys.length<=xs.length:=by
     rw[VF,Jc];exact Lb (LS _ _) (by rw[J9];lia)
    exact aE (by lia)
   ·rw[e,ND,Ko,<-VF];simp [hp]
  |false=>
   refine aQ ⟨⟨_,rfl⟩,?_,rfl⟩;rw[e,ND,Ko,<-VF];simp [hp]
 ·rintro σ ys H2 ⟨_,VF,rfl⟩;rw[JY<|Jh _]at VF;rw[VF];exact hq
end
def bZ(c:IW Int)(p:Int->JJ)(q:V->JJ)(h:∀i,q (.int i)=p i):((c.map V.int).filter q).map (λx=>x)=(c.filter p).map V.int:=by
 rw[Y0];rw[List.filter_map];refine LU _<|Vy λx _=>h x
def cD{c:IW Int}{x:V}(h:x∈c.map V.int):∃z∈c,x=.int z:=by grind
def Ej(h:KI d=Je):d.canLay0=true:=by
 unfold KI at h;rw[J_]at h;exact h.1
def lx(hx:RD H d x)(hy:RD H d y)(hs:KI d=Je)(q:Q (.bl Jg) H):Ei x y H Q:=
 .inr ⟨d,d,hx,hy,hs,hs,by rw[qd d<|Ej hs];exact q⟩
def Hy{x y:V}{A B:Prop}(h:x=y)(b:B):if(!decide (x=y))=Je then A else B:=by
 rw[Jz h];exact aQ b
def IS:fW "int" "int"=B' true:=by decide+kernel
def IT:fW "int" "bool"=B' false:=by decide+kernel
def isI(p:Int->JJ):V->JJ
 |.int z=>p z
 |_=>Jg
def Fq(f:Int->V):V->V
 |.int z=>f z
 |x=>x
end OD
namespace L2
open PySem PySem.Spec PyProof.Rows
def eV(mg:Str->Jd IX)(x:Str)(v:V):Prop:=∃u,mg x=B' u/\RelV v u
def bB(hg:Gl X x)(hm:eV X.mg x v)(hd:(x == ("__debug__":Str))=false:=by decide):PE X (.Name x pos) (tC v):=by
 obtain⟨u,h1,h2⟩:=hm;exact AC hg h1 h2 hd
end L2
namespace OD
open PySem L2
def fA(t:Str)(i:Nat):JJ:=decide (t.cps.toList[i]? =B' 119)
def aK(b:JJ):Str:=if b=Je then I0 "wisher" else I0 "spoiler"
def qg:I0 "wisher"≠I0 "spoiler":=by decide+kernel
def vx(h:aK a=aK b):a=b:=by
 cases a<;>cases b
 ·rfl
 ·exact absurd h.symm qg
 ·exact absurd h qg
 ·rfl
def g_(a b:JJ):decide (V.str (aK a)=V.str (aK b))=decide (a=b):=by
 refine Nw.mpr ⟨λh=>vx<|V.str.inj h,λh=>by rw[h]⟩
def bE(l:Int):(0<=l/\absI l=l)\/(l < 0/\absI l=-l):=by
 unfold absI;by_cases h:l < 0
 ·exact .inr ⟨h,JL h⟩
 ·exact .inl ⟨by lia,JK h⟩
def Cw:decide (V.str ⟨#[ch]⟩=V.str (I0 "w"))=decide (ch=119):=by
 have e:I0 "w"=⟨#[119]⟩:=by decide+kernel
 rw[e];refine Nw.mpr ⟨λh=>?_,λh=>by rw[h]⟩;have:=V.str.inj h;injection this with h1;have h2:=LU VB h1;simpa using h2
def xy(h:t.cps.toList[i]? =B' ch):fA t i=decide (ch=119):=by grind[fA]
end OD
namespace L2
open PySem PySem.Spec PyProof.Rows
def vy(lo:Int)(n:Nat):It:=⟨λi _=>i < n,λi H x H'=>H'=H/\x=.int (lo - i),λi _=>n<=i⟩
theorem qh{K:IZ}(it:I_)(lo:Int)(n:Nat):u_ P w K tg (vy lo n) [it] it (λi h=>Tj h it (lo+(i:Nat)*(-1)) ((n:Int) - (i:Nat)) (-1)) where
 mem:=by simp
 obj:=λi h st b hb=>by
  have e:b=it:=by simpa using hb
  subst e;exact⟨_,st,λv z=>by
   have z':Wi _=Yu v:=z;cases z'⟩
 keep:=λi h h' st k=>k it (by simp) _ st
 item:=by
  intro X hP hw hK hc i Jf s σ H E I hf st hg;subst hP hw hK;obtain⟨f0,f1,f2,f3,f4,f5⟩:=hf it (by simp);have W:=Zn (prog:=X.prog) (w:=X.w) (I.ok.hd hc) it lo (-1) n;refine W.item i s _ _ hg st λv h' tk hv LD kk=>?_;obtain⟨t,rfl⟩:=hv;have I1:Inv X Jf σ H {s with heap:=h',toks:=tk}:=I.turned (λb o hb e=>kk b o (by simpa using hb) e) f0 f1 f3 f4 f5;refine⟨_,rfl,sZ (s:={s with heap:=h',toks:=tk}) (n:="range_iterator") LD rfl rfl (by decide) ⟨.int<|lo - i,H,I1,⟨t,?_⟩,⟨rfl,rfl⟩,LD,λb hb=>(hf b hb).1⟩⟩;have e:lo+(i:Int)*(-1)=lo - i:=by lia
  rw[e]
 done:=by
  intro X hP hw hK hc i Jf s σ H E I hf st hg;subst hP hw hK;obtain⟨f0,f1,f2,f3,f4,f5⟩:=hf it (by simp);exact Sj (I.ok.hd hc) st (by have:n<=i:=hg;lia) λh' eb=>⟨rfl,I.turned (t':=s.toks) (λb o hb e=>eb b o hb e) f0 f1 f3 f4 f5⟩
 self:=λ_ _ _ _ _ st h=>Sk st h
def vz{R:It->Hp->Prop}{E:IX->Ja->Prop}{lo:Int}{t u v:Tok}{tk:Nat}(I:Inv X Jf σ H s)(h1:-(2 ^ 62)<=lo)(h2:lo < 2 ^ 62)(h3:-(2 ^ 62)<=hi)(h4:hi < 2 ^ 62)
  (q:R (vy lo (lo - hi).toNat) H):wpAny (JS X.prog X.w) X.A (S_<|.ref s.heap.objs.size) (HP X Jf σ tg R) E {s with heap:=s.heap.push {cls:=.type "range",data:=.fields #[.int lo t,.int hi u,.int (-1) v]},toks:=tk}:=by
 refine Us (Zu ..) (PySem.W.small_down h1 h2 h3 h4) ?_;have I1:Inv X Jf σ H {s with heap:=s.heap.push {cls:=.type "range",data:=.fields #[.int lo t,.int hi u,.int (-1) v]},toks:=tk}:=I.kept λb o e=>Jb _ e;refine⟨(s.heap.push {cls:=.type "range",data:=.fields #[.int lo t,.int hi u,.int (-1) v]}).objs.size,[(s.heap.push {cls:=.type "range",data:=.fields #[.int lo t,.int hi u,.int (-1) v]}).objs.size],_,_,H,rfl,
  I1.kept (t':=tk) λb o e=>Jb _ e,qh _ lo (lo - hi).toNat,?_,λb hb=>?_,q⟩
 ·have e1:lo+((0:Nat):Int)*(-1)=lo:=by simp
  have e2:(((lo - hi).toNat:Nat):Int) - ((0:Nat):Int)=R8 lo hi (-1):=by rw[PySem.W.rangeSize_down];split<;>lia
  show Tj _ _ (lo+((0:Nat):Int)*(-1)) ((((lo - hi).toNat:Nat):Int) - ((0:Nat):Int)) (-1)
  rw[e1,e2];exact JX _ rfl
 ·have e:b=(s.heap.push {cls:=.type "range",data:=.fields #[.int lo t,.int hi u,.int (-1) v]}).objs.size:=by simpa using hb
  subst e;exact I1.fpOk (Jh _)<|I1.hok.fresh<|Jh _
def Gg(ta:TA):TI:=λσ H R=>ta σ H λvs H1=>∃i j:Int,vs=[.int i,.int j,.int (-1)]/\(-(2 ^ 62)<=i/\i < 2 ^ 62/\ -(2 ^ 62)<=j/\j < 2 ^ 62)/\R (vy i (i - j).toNat) H1
def vA{p:Pos}(hg:Gl X "range")(hm:X.mg "range"=Ji)(ha:PA X [a,b,c] ta)(hs:J3 [a,b,c] X.env=(Jg,MC a X.env)::J3 [b,c] X.env:=by rfl)(WR:(Nh pos<|J3 [b,c] X.env).any (·.1)=false:=by rfl):
  PI X tg (.Call (.Name "range" p) [a,b,c] [] pos) (Gg ta):=by
 intro Jf s σ H R I h;refine Call_<|eS I hg hm Xk<|LZ (bV (ha pos Jf s σ H _ I h) λus s1 ⟨vs,H1,I1,r1,q1⟩=>?_) hs WR;obtain⟨i,j,e,⟨q1,q2,q3,q4⟩,q⟩:=q1;subst e;cases r1 with
 |cons r rr=>
  cases rr with
  |cons r' rr=>
   cases rr with
   |cons r'' rr=>
    cases rr;obtain⟨t,rfl⟩:=r;obtain⟨t',rfl⟩:=r';obtain⟨t'',rfl⟩:=r'';exact call_range_3 (by decide) (vz I1 q1 q2 q3 q4 q) (.inl<|Ss<|by decide)
def rL{lo:Int}{n:Nat}{g:TG}{tb:TS}{D:gj}(Pv:Nat->St->Hp->Prop)(h0:Pv 0 σ H)
  (hs:∀i σ H,i < n->Pv i σ H->g (.int<|lo - i) σ H λσ2 H2=>tb {D with nx:=Pv<|i+1,ct:=Pv<|i+1,bk:=D.nx} σ2 H2) (hd:∀σ H,Pv n σ H->D.nx σ H):
  ∃W:Nat->Nat->St->Hp->Prop,(∃m,W 0 m σ H)/\∀i m σ H,W i m σ H->
   ((vy lo n).stop i H/\D.nx σ H)\/((vy lo n).go i H/\∃N:St->Hp->Prop,(∀σ' H',N σ' H'->∃m',m' < m/\W (i+1) m' σ' H')/\∀x H',(vy lo n).yld i H x H'->g x σ H' λσ2 H2=>tb {D with nx:=N,ct:=N,bk:=D.nx} σ2 H2):=by
 exists λi m σ H=>m=n - i/\i<=n/\Pv i σ H,⟨n,by simp,JQ _,h0⟩;rintro i m σ H ⟨rfl,hi,p⟩;by_cases NJ:i < n
 ·refine .inr ⟨NJ,Pv<|i+1,λσ' H' p'=>⟨n - (i+1),by lia,rfl,NJ,p'⟩,λx H' y=>?_⟩;obtain⟨e,y⟩:=y;subst e y;exact hs i σ _ NJ p
 ·have e:i=n:=by lia
  subst e;exact .inl ⟨Jh _,hd σ H p⟩
end L2
namespace L2
open PySem PySem.Spec PyProof.Rows
structure Flies (P:Js)(w:JV)(outer:IW Env)(H:Hp)(s:Ja)(H':Hp)(B:J6)(ea:I_)(cls a0:IX)(s':Ja):Prop where
 os:s'.os=s.os
 bare:Qn s'.gens
 fly:OY B outer ea cls a0 s'.heap
 hok:HOk P w H' B
 keep:∀b o,s.heap.get? b=B' o->H b=Ji->b∉d9 outer->B.get? b=B' o
 thr:∀b o,s.heap.get? b=B' o->b∉d9 outer->∃o',B.get? b=B' o'
 slot:∀b o,s.heap.get? b=B' o->H b=Ji->b∈d9 outer->∃sl,s'.heap.get? b=B' {o with slots:=sl}
 free:∀b o,s.heap.get? b=B' o->H b=Ji->H' b=Ji
 tups:∀b xs,H b=B' (.tup xs)->H' b=B' (.tup xs)
 frzs:∀b o u,H b=B' (.frz o u)->H' b=B' (.frz o u)
 tbls:∀b ps,H b=B' (.tbl ps)->∃more,H' b=B' (.tbl<|ps++more)
def jU(P:Js)(w:JV):tD:=λouter H s E e s'=>∃(H':Hp) (B:J6) (ea:I_) (cls a0:IX),e=.ref ea/\Flies P w outer H s H' B ea cls a0 s'/\E cls Ji H'
def Flies.slotted(f:Flies P w outer H s H' B ea cls a0 s')(up:s'.heap.UpToSlots h')(e:s.heap.get? b=B' o)(n:H b=Ji)(hb:b∈d9 outer):∃sl,h'.get? b=B' {o with slots:=sl}:=by
 obtain⟨sl,e1⟩:=f.slot b o e n hb;obtain⟨_,o1,e2,nf⟩:=f.fly.2.2.1.mem (b:=b) hb;rw[e1]at e2;cases e2;obtain⟨sl',e3⟩:=up b _ e1 nf;exact⟨sl',e3⟩
theorem Flies.un(f:Flies P w outer H s H' B ea cls a0 s')(st:B.StaysIn h')(up:s'.heap.UpToSlots h')(frf:∀b∈d9 outer,H b=Ji):Un (d9 outer) [] H H' s.heap h' where
 keep:=λb o e n hb _=>st b o (f.keep b o e n hb)
 slot:=λb o e n hb _=>f.slotted up e n hb
 free:=λb o e n _=>f.free b o e n
 there:=λb o e _=>by
  by_cases hb:b∈d9 outer
  ·obtain⟨sl,q⟩:=f.slotted up e (frf b hb) hb;exact⟨_,q⟩
  ·obtain⟨o',q⟩:=f.thr b o e hb;exact⟨o',st b o' q⟩
 tups:=f.tups
 frzs:=f.frzs
 tbls:=f.tbls
def ObjOk.some(x:ObjOk P w H h a o):∃u,h.get? a=B' u:=by
 cases o with
 |lst xs=>obtain⟨_,_,_,_,e⟩:=x;exact⟨_,e⟩
 |tup xs=>obtain⟨_,_,_,ob,e,_⟩:=x;exact⟨_,e⟩
 |dK kvs=>obtain⟨_,_,_,_,o,_,_,e,_⟩:=x;exact⟨_,e⟩
 |dT kvs=>obtain⟨_,_,_,_,o,_,_,e,_⟩:=x;exact⟨_,e⟩
 |set S n=>obtain⟨o,_,_,_,e,_⟩:=x;exact⟨_,e⟩
 |ins C dx fs=>obtain⟨_,_,_,e,_⟩:=x;exact⟨_,e⟩
 |own y=>obtain⟨_,e⟩:=x;exact⟨_,e⟩
 |xd fs=>obtain⟨_,⟨_,_,_,e,_⟩,_⟩:=x;exact⟨_,e⟩
 |rng lo hi=>obtain⟨_,_,_,e⟩:=x;exact⟨_,e⟩
 |frz ob u=>obtain⟨e,_⟩:=x;exact⟨_,e⟩
 |tbl ps=>exact⟨_,x⟩
 |met f y=>exact⟨_,x⟩
 |ext φ=>obtain⟨_,e,_⟩:=x;exact e
def HOk.hid(x:HOk P w H h)(n:∀b∈l,H b=Ji):HOk P w H (Qy h l):=λa o e=>
 (x a o e).stay (λb u hb q=>Nk _ q λhm=>by
  obtain rfl|hb:=hb
  ·rw[n b hm]at e;cases e
  ·rw[n b hm]at hb;cases hb) (λ_ q=>q) λ_ _ q=>q
section
variable {K:IZ}
def Gh:kY (jU P w) (cq (jU P w) P w K mg base N qual scope f cd A outer s H E) E:=by
 intro Jf σ H1 s1 e s2 I h;obtain⟨H',B,ea,cls,a0,rfl,fl,hE⟩:=h;have NJ:∀b o,s.heap.get? b=B' o->b∉d9 outer->b∉d9 (J' qual scope s.heap.objs.size f cd::outer):=λb o e hb hm=>by
  obtain⟨env,he,hf⟩:=Kh.mp hm;obtain rfl|he:=J2.mp he
  ·have:s.heap.objs.size=b:=JN hf;exact absurd (Jv e) (by rw[this];exact LO b)
  ·exact hb<|Kh.mpr ⟨env,he,hf⟩
 have YB:∀b,b∈d9 outer->b∈d9 (J' qual scope s.heap.objs.size f cd::outer):=λb hb=>by
  obtain⟨env,he,hf⟩:=Kh.mp hb;exact Kh.mpr ⟨env,Jy _ he,hf⟩
 show wpAny (JS P w) _ (Ro (J' qual scope s.heap.objs.size f cd)<|.ref ea) _ _ s2
 refine wpAny_leaves_onW (base:=B) (cls:=cls) (a0:=a0) (outer:=outer) (L:=s.heap.objs.size) I.ok.frames rfl fl.fly λh' adv up=>⟨H',B,ea,cls,a0,rfl,⟨?_,fl.bare,adv,fl.hok,λb o e n hb=>?_,λb o e hb=>?_,λb o e n hb=>?_,λb o e n=>?_,λb xs e=>?_,λb o u e=>?_,λb ps e=>?_⟩,hE⟩
 ·exact fl.os.trans I.os
 ·exact fl.keep b o (I.base.keep b o e n hb<|by intro z;cases z) (I.base.free b o e n<|by intro z;cases z)<|NJ b o e hb
 ·obtain⟨o1,e1⟩:=I.base.there b o e (by intro z;cases z);exact fl.thr b o1 e1<|NJ b o e hb
 ·obtain⟨sl,e1⟩:=I.base.slot b o e n hb (by intro z;cases z);obtain⟨sl2,e2⟩:=fl.slotted up e1 (I.base.free b o e n<|by intro z;cases z)<|YB b hb;exact⟨sl2,e2⟩
 ·obtain⟨o1,e1⟩:=I.base.there b o e (by intro z;cases z);exact fl.free b o1 e1 (I.base.free b o e n<|by intro z;cases z)
 ·exact fl.tups b xs<|I.base.tups b xs e
 ·exact fl.frzs b o u<|I.base.frzs b o u e
 ·obtain⟨m1,e1⟩:=I.base.tbls b ps e;obtain⟨m2,e2⟩:=fl.tbls b _ e1;exact⟨m1++m2,by rw[e2,Rf]⟩
def Gi(I:Inv (cq (jU P w) P w K mg base N qual scope f cd A outer s H E) Jf σ H1 s1)(hx:Tn s1.heap h2 ea cls vs)(hE:E cls Ji H1):
  (cq (jU P w) P w K mg base N qual scope f cd A outer s H E).xe (.ref ea) {s1 with heap:=h2}:=by
 have NJ:∀b o,s.heap.get? b=B' o->b∉d9 outer->b∉d9 (J' qual scope s.heap.objs.size f cd::outer):=λb o e hb hm=>by
  obtain⟨env,he,hf⟩:=Kh.mp hm;obtain rfl|he:=J2.mp he
  ·have:s.heap.objs.size=b:=JN hf;exact absurd (Jv e) (by rw[this];exact LO b)
  ·exact hb<|Kh.mpr ⟨env,he,hf⟩
 have YB:∀b,b∈d9 outer->b∈d9 (J' qual scope s.heap.objs.size f cd::outer):=λb hb=>by
  obtain⟨env,he,hf⟩:=Kh.mp hb;exact Kh.mpr ⟨env,Jy _ he,hf⟩
 have S5:s1.heap.FunFrames base (J' qual scope s.heap.objs.size f cd::outer):=I.stack;have TV:∀b∈d9 (J' qual scope s.heap.objs.size f cd::outer),H1 b=none:=I.stkFree;have YF:∀env∈(J' qual scope s.heap.objs.size f cd::outer),∀b,env.frame=B' b->b∈d9 (J' qual scope s.heap.objs.size f cd::outer):=λenv he b hb=>Kh.mpr ⟨env,he,hb⟩;have hff:=Sn S5 YF;show wpAny (JS P w) _ (Ro (J' qual scope s.heap.objs.size f cd)<|.ref ea) _ _ {s1 with heap:=h2}
 refine wpAny_leaves_madeW (base:=Qy s1.heap<|d9<|J' qual scope s.heap.objs.size f cd::outer) (h:=s1.heap) (outer:=outer) (L:=s.heap.objs.size) I.ok.frames rfl (λb o q=>QY _ q) hff hx λh' t fly tup bt up=>⟨H1,_,ea,cls,_,rfl,⟨?_,I.bare,fly,I.hok.hid TV,λb o e n hb=>?_,λb o e hb=>?_,λb o e n hb=>?_,λb o e n=>?_,λb xs e=>?_,λb o u e=>?_,λb ps e=>?_⟩,hE⟩
 ·exact I.os
 ·exact Nk _ (I.base.keep b o e n hb<|by intro z;cases z)<|NJ b o e hb
 ·obtain⟨o1,e1⟩:=I.base.there b o e (by intro z;cases z);exact⟨o1,Nk _ e1<|NJ b o e hb⟩
 ·obtain⟨sl,e1⟩:=I.base.slot b o e n hb (by intro z;cases z);obtain⟨_,o1,e2,nf⟩:=S5.mem (b:=b)<|YB b hb;rw[e1]at e2;cases e2;obtain⟨sl',e3⟩:=up b _ (hx.keeps b _ e1) nf;exact⟨sl',e3⟩
 ·exact I.base.free b o e n (by intro z;cases z)
 ·exact I.base.tups b xs e
 ·exact I.base.frzs b o u e
 ·exact I.base.tbls b ps e
end
def Fun.okX{P:Js}{w:JV}{K:IZ}{mg:Str->Jd IX}{base:J6}{st:Lh}{k:Nat}(F:Fun K x qual st f fd)(S:aH N ps (ap st))(len:∀vs H Q E,sp vs H Q E->vs.length=ps.length)
  (WW:∀MG A outer s H vs Q E,Room k (A.deeper<|J' qual (ap st) s.heap.objs.size f MG)->sp vs H Q E->
   ∃t,PSs (cq (jU P w) P w K mg base N qual (ap st) f MG A outer s H E) (cM st) t/\t {nx:=λ_ H'=>Q .non H',rt:=Q} (start N vs) H):FnOk P w K mg base (jU P w) (k+1) f fd ps sp:=by
 obtain⟨oc,od,kV,UY,pm,an,MG,ct,osl,rfl,lk,Yo⟩:=F.ex;refine wR lk Yo S len λA outer s H vs Q E hr hsp=>?_;obtain⟨t,h,q⟩:=WW MG A outer s H vs Q E hr hsp;exact⟨t,h,q⟩
def Ek(h:J6)(C:I_)(Wa:IW IX)(newId:Mg):Prop:=
 ∃(bm:IW IX) (N:I_) (nm q:Str) (bs:IW IX) (hdct:JJ) (sn:IW Str) (sub:IW IX) (ab:JJ) (col:Jd JJ) (dd:Jd I_) (k0 k1 k2 k3 k5:Jd IX) (mN:Str->Jd IX),
  h.get? C=B' (Rq nm q C N bs bm hdct sn sub ab col dd k0 k1 k2 k3 k5 newId)/\h.Ns N mN/\mN "__init__"=Ji/\YT h Wa bm
def kx{K:IZ}(X:K.In h)(q:Mo K C Wa newId=Je):Ek h C Wa newId:=by
 unfold Mo at q
 split at q
 case h_2=>cases q
 case h_1 dd cd sl ho=>
  split at q
  case h_2=>cases q
  case h_1 C' bm k0 k1 k2 k3 n k5 hm hs=>
   rw[J_,J_,J_,J_,J_]at q;obtain⟨⟨⟨⟨⟨q1,q2⟩,q3⟩,q4⟩,q5⟩,q6⟩:=q;have e1:C'=C:=Oh.mp q1;have e2:n=newId:=Oh.mp q2;have e6:=Oh.mp q6;subst e1 e2;obtain⟨nm,bs,mro,ns,qn,hd,sn,sub,ab,col,del⟩:=cd;have em:mro=.ref C'::bm:=hm;have ed:del=false:=by simpa using q3
   have es:sl=#[k0,k1,k2,k3,B'<|.builtin n,k5]:=Sg.mp hs;subst em ed es;exact⟨bm,ns,nm,qn,bs,hd,sn,sub,ab,col,dd,k0,k1,k2,k3,k5,_,X _ _ ho,.of_isNs<|UD X q5,PySem.W.nsMap_none_of_in X q5 e6,UB X q4⟩
def El(C:I_)(E:XK)(t:TA):TS:=λ_ σ H=>t σ H λvs H1=>vs.length<=sizeLine/\E (.ref C) Ji H1
section
variable {K:IZ}
def qi{e:KJ}{es:IW KJ}{t:TA}{np Qp pos:Pos}(q:Mo K C Wa newId=Je)(FB:Vj B newId YA Wa)(hm:mg x=B' (.ref C))
  (hg:Gl (cq (jU P w) P w K mg base N qual scope f cd A outer s H E) x) (ha:PA (cq (jU P w) P w K mg base N qual scope f cd A outer s H E) (e::es) t) (hd:(x == ("__debug__":Str))=false:=by decide)
  (he:J3 (e::es) (J' qual scope s.heap.objs.size f cd)=(Jg,MC e<|J' qual scope s.heap.objs.size f cd)::J3 es (J' qual scope s.heap.objs.size f cd):=by rfl)
  (T4:(Nh Qp<|J3 (e::es)<|J' qual scope s.heap.objs.size f cd).any (·.1)=false:=by rfl):
  PS (cq (jU P w) P w K mg base N qual scope f cd A outer s H E) (.Raise (B'<|.Call (.Name x np) (e::es) [] Qp) Ji pos) (El C E t):=by
 intro Jf s1 σ H1 D I h;obtain⟨bm,N',nm,q',bs,hdct,sn,sub,ab,col,dd,k0,k1,k2,k3,k5,mN,h1,h2,h3,h4⟩:=kx I.mod.kin q;refine wpAny_Raise_call_subT (C:=C) (nm:=nm) (q:=q') (N:=N') (bs:=bs) (bm:=bm) (hdct:=hdct) (sn:=sn) (sub:=sub) (ab:=ab) (col:=col) (dd:=dd) (k0:=k0) (k1:=k1) (k2:=k2) (k3:=k3) (k5:=k5) (mN:=mN) FB (h4.hasType FB.hasBase) (I.ok.hd rfl) T4 h3<|dj I hg hm ⟨rfl,?_⟩ hd;show wpAny _ _ (evalArgs (.ref C) Je (Nh Qp<|J3 (e::es)<|J' qual scope s.heap.objs.size f cd) []) _ _ s1
 rw[he];have hsp:=ha Qp Jf s1 σ H1 _ I h;have aez:wpAny (JS P w) _ (YM<|Nh Qp<|J3 (e::es)<|J' qual scope s.heap.objs.size f cd) _ _ s1:=hsp;rw[he]at aez;refine OP<|Kf aez (λus s2 hz=>?_) λ_ _ z=>z;obtain⟨vs,H2,I2,r,z,hE⟩:=hz;refine⟨rfl,?_,I2.bk _ _ h1,h2.keeps I2.bk,h4.keeps I2.bk,λh' ea hx=>Gi I2 hx hE⟩;show us.length<=sizeLine
 rw[<-r.length];exact z
end
def gz(ea C:I_):HO:=.ext λh=>∃(o:Obj) (vs:JF IX),h.get? ea=B' o/\o.cls=.ref C/\o.data=.fields vs
abbrev XQ:=IX->St->Hp->Prop
def XP(X:Cx)(Jf:IW (I_×Obj))(EX:XQ)(e:IX)(s':Ja):Prop:=
 ∃(σ1:St) (H1:Hp) (s1:Ja) (H':Hp) (B:J6) (ea:I_) (cls a0:IX),e=.ref ea/\Inv X Jf σ1 H1 s1/\Flies X.prog X.w X.stack H1 s1 H' B ea cls a0 s'/\EX cls σ1 H'
abbrev Hz:=XQ->TE
abbrev Cy:=XQ->TS
def Ig(X:Cx)(e:KJ)(t:Hz):Prop:=
 ∀(Jf:IW (I_×Obj)) (s:Ja) (σ:St) (H:Hp) (Q:VK) (EX:XQ),Inv X Jf σ H s->t EX σ H Q->wpAny (JS X.prog X.w) X.A (MC e X.env) (EP X Jf σ Q) (XP X Jf EX) s
def Fr(X:Cx)(st:IW Lh)(t:Cy):Prop:=
 ∀(Jf:IW (I_×Obj)) (s:Ja) (σ:St) (H:Hp) (D:gj) (EX:XQ),Inv X Jf σ H s->t EX D σ H->wpAny (JS X.prog X.w) X.A (execs st X.env) (SP X Jf D) (XP X Jf EX) s
def xz(sp:Sp)(t:TA):Hz:=λEX σ H Q=>t σ H λvs H1=>sp vs H1 Q λcls _ H'=>EX cls σ H'
def Gj(i:Nat)(t:Hz):Cy:=λEX D σ H=>t EX σ H λx H1=>D.nx (σ.set i<|B' x) H1
def xA(Yl:∀e s,X.xe e s->False)(F:FnOk X.prog X.w X.K X.mg X.base (jU X.prog X.w) k f fd ps sp)(hr:Room k X.A)(hg:Gl X x)(hm:X.mg x=B' (.ref f))(hk:Mn X.K (.ref f)=Je)(hb:Binds X.K fd ps [])
  (ha:PA X (e::es) t) (YH:(x == ("__debug__":Str))=false:=by decide) (he:J3 (e::es) X.env=(Jg,MC e X.env)::J3 es X.env:=by rfl) (T4:(Nh pos<|J3 es X.env).any (·.1)=false:=by rfl):
  Ig X (.Call (.Name x p) (e::es) [] pos) (xz sp t):=by
 intro Jf s σ H Q EX I h;refine LG<|dj I hg hm ?_ YH;refine Pq (h₀:=X.base) I.ok.mod.kin hk (Kf (ha pos Jf s σ H _ I h) (λus s1 ⟨vs,H1,I1,r,q⟩=>⟨I1.kIn,?_⟩) λe' s' z=>(Yl e' s' z).elim) he T4;have hl:us.length=ps.length:=by rw[<-r.length];exact F.len _ _ _ _ q
 have hbs:=hb s1 us I1.kIn (by rw[KL];exact hl);rw[KL]at hbs;refine Qa<|Oi (F.run X.A X.stack s1 H1 ⟨us,[]⟩ us vs Q (λcls _ H'=>EX cls σ H') hr I1.env0 hbs r q) λres s' hq=>?_;cases res with
 |error e'=>
  obtain⟨H',B,ea,cls,a0,rfl,fl,hE⟩:=hq;exact⟨σ,H1,s1,H',B,ea,cls,a0,rfl,I1,fl,hE⟩
 |ok fl=>
  cases fl with
  |ret u=>exact I1.after hq
  |next=>exact LJ hq
  |brk=>exact LJ hq
  |cont=>exact LJ hq
def il(hN:X.N.Nodup)(hi:X.N[i]? =B' y)(hy:Fm X.env.scope y)(he:Ig X e te)(hs:QT e (B'<|.Name y RA) pos.line X.env=pure false:=by rfl)(hf:X.fn y=Je\/X.env.scope.names.lookup y=B' .local:=by first|exact .inl rfl|exact .inr rfl|assumption):
  Fr X [.Assign [.Name y RA] e pos] (Gj i te):=by
 intro Jf s σ H D EX I h;refine Oa<|Rl (Kf (he Jf s σ H _ EX I h) (λv s1 ⟨z,H1,I1,r1,q1⟩=>?_) λ_ _ z=>z) hs;exact fh I1 hN hi hy r1 (λs2 I2=>Ly ⟨_,H1,I2,q1⟩) hf
abbrev Cx.inExc(X:Cx)(ea:I_)(E:IX->Ja->Prop):Cx:={X with A:=X.A.mark<|B'<|.ref ea,calm:=Jg,xe:=E}
def Inv.inExc(I:Inv X Jf σ H s)(ea:I_)(E:IX->Ja->Prop):Inv (X.inExc ea E) Jf σ H s:=
 ⟨⟨I.ok.mod,I.ok.kind,I.ok.glob,I.ok.blt,I.ok.above,I.ok.inj,I.ok.has,I.ok.cab,(λz=>(JR z).elim),I.ok.frames,I.ok.stk,I.ok.exf,I.ok.bs,I.ok.bsz,I.ok.noex,I.ok.exfs,I.ok.funs,I.ok.frf⟩,I.os,I.bare,I.base,I.loc,I.cell,I.free,I.freeC,I.pin,I.hok,I.len⟩
def Inv.outExc(hd:X.A.handled=Ji)(I:Inv (X.inExc ea E) Jf σ H s):Inv X Jf σ H s:=
 ⟨⟨I.ok.mod,I.ok.kind,I.ok.glob,I.ok.blt,I.ok.above,I.ok.inj,I.ok.has,I.ok.cab,λ_=>hd,I.ok.frames,I.ok.stk,I.ok.exf,I.ok.bs,I.ok.bsz,I.ok.noex,I.ok.exfs,I.ok.funs,I.ok.frf⟩,I.os,I.bare,I.base,I.loc,I.cell,I.free,I.freeC,I.pin,I.hok,I.len⟩
def dq{M:R4}{A:J8}{pos:Pos}{Q:SU->Ja->Prop}(I:Inv X Jf σ H s)(hN:X.N.Nodup)(hi:X.N[i]? =B' n)(hk:X.env.scope.names.lookup n=B' .local)
  (h:∀s',Inv X Jf (σ.set i Ji) H s'->Q () s'):wpAny M A (do bindName X.env n .none;unbindBehindTheSuite X.env n pos) Q E s:=by
 obtain⟨m,hn,hl⟩:=id I.loc;have hiσ:i < σ.length:=by rw[I.len];exact(Jk.mp hi).1
 have adq:(X.env.scope.kind == .class || (X.env.scope.kind == .module&&X.env.locals != X.env.globals))=false:=by rw[I.ok.kind];rfl
 obtain⟨oL,_,_,hoL,_⟩:=id hn;refine wpAny_nameGoes_keeps hk hn adq λh' v ZW hs=>?_;have nL:∀b o,X.s₀.heap.get? b=B' o->b≠X.env.locals:=λb o e=>JO<|KD (Jv e) I.ok.above;refine h _ ⟨I.ok,I.os,I.bare,⟨λb o e n hb hx=>(hs.2 b<|nL b o e).trans<|I.base.keep b o e n hb hx,λb o e n hb hx=>?_,I.base.free,λb o e hx=>?_,I.base.tups,I.base.frzs,I.base.tbls⟩,⟨_,ZW,λj y v' e1 e2 e3=>?_⟩,λy c e=>?_,I.free,I.freeC,λp hp=>?_,λb ob e=>?_,by simpa using I.len⟩
 ·obtain⟨sl,e1⟩:=I.base.slot b o e n hb hx;exact⟨sl,(hs.2 b<|nL b o e).trans e1⟩
 ·obtain⟨o',e1⟩:=I.base.there b o e hx;exact⟨o',(hs.2 b<|nL b o e).trans e1⟩
 ·by_cases hj:j=i
  ·subst hj;rw[Oq hiσ]at e2;cases e2
  ·rw[Qr<|Ma hj]at e2;obtain⟨u',r',q⟩:=hl j y v' e1 e2 e3;exists u',r';obtain⟨kk,e⟩|⟨kk,c,e,z⟩:=q
   ·refine .inl ⟨kk,?_⟩;have:y≠n:=λe=>hj<|kR hN e1<|e▸hi;simp [this,e]
   ·exact .inr ⟨kk,c,e,z.sameBut hs<|I.cne y c e⟩
 ·obtain⟨w',z⟩:=I.cell y c e;exact⟨w',z.sameBut hs<|I.cne y c e⟩
 ·obtain⟨e,n,ne,nf,d⟩:=I.pin p hp;exact⟨(hs.2 p.1 ne).trans e,n,ne,nf,d⟩
 ·refine(I.hok b ob e).stay (λc w' hc q=>(hs.2 c ?_).trans q) (λ_ q=>q) λ_ _ q=>q;rintro rfl;obtain rfl|hc:=hc
  ·rw[I.free]at e;cases e
  ·rw[I.free]at hc;cases hc
def Flies.away(f:Flies P w outer H s H' B ea (.ref C) a0 s')(e:s.heap.get? b=B' o):b≠ea:=by
 rintro rfl;by_cases hb:b∈d9 outer
 ·obtain⟨_,o1,e2,nf⟩:=f.fly.2.2.1.mem (b:=b) hb;obtain⟨oe,vs,e3,_,hd,_⟩:=f.fly.first;rw[e2]at e3;cases e3;exact nf vs hd
 ·obtain⟨o',q⟩:=f.thr b o e hb;rw[f.fly.2.1]at q;cases q
def Flies.fresh(f:Flies P w outer H s H' B ea (.ref C) a0 s'):H' ea=none:=by
 cases q:H' ea with
 |none=>rfl
 |some u=>
  have hx:=f.hok ea u q;have:∃o,B.get? ea=B' o:=ObjOk.some hx;obtain⟨o,e⟩:=this;rw[f.fly.2.1]at e;cases e
def Flies.unX(f:Flies P w outer H s H' B ea (.ref C) a0 s')(st:B.StaysIn h')(up:s'.heap.UpToSlots h')(frf:∀b∈d9 outer,H b=Ji):Un (d9 outer) [] H (upd H' ea<|gz ea C) s.heap h':=by
 have u:=f.un st up frf;have fr:=f.fresh;refine⟨u.keep,u.slot,λb o e n hx=>?_,u.there,λb xs e=>?_,λb o v e=>?_,λb ps e=>?_⟩
 ·rw[ao<|f.away e];exact u.free b o e n hx
 ·have z:=u.tups b xs e;rw[ao<|aj z fr];exact z
 ·have z:=u.frzs b o v e;rw[ao<|aj z fr];exact z
 ·obtain⟨more,z⟩:=u.tbls b ps e;exact⟨more,by rw[ao<|aj z fr];exact z⟩
def Flies.hokX(f:Flies P w outer H s H' B ea (.ref C) a0 s')(fl:OY B outer ea (.ref C) a0 h'):HOk P w (upd H' ea<|gz ea C) h':=λb u q=>by
 have fr:=f.fresh;by_cases hb:b=ea
 ·subst hb;rw[ad]at q;cases q;obtain⟨oe,vs,e1,e2,e3,_⟩:=fl.first;exact⟨⟨oe,vs,e1,e2,e3⟩,⟨oe,e1⟩,λh1 h2 ⟨o,vs,z1,z2,z3⟩ k=>⟨o,vs,k o z1,z2,z3⟩⟩
 ·rw[ao hb]at q;exact(f.hok b u q).stay (λc v _ z=>fl.1 c v z) (λc z=>by rw[ao<|aj z fr];exact z) λc xs z=>by rw[ao<|aj z fr];exact z
def Gk(C:I_)(i:Nat)(tb:Cy)(ts:TS):TS:=λD σ H=>
 tb (λcls σ1 H'=>cls=.ref C/\∀ea,H' ea=Ji->ts {nx:=λσ2 H2=>D.nx (σ2.set i Ji) H2,rt:=D.rt,bk:=λσ2 H2=>D.bk (σ2.set i Ji) H2,ct:=λσ2 H2=>D.ct (σ2.set i Ji) H2} (σ1.set i<|B'<|.ref ea) (upd H' ea<|gz ea C)) D σ H
structure tN (P:Js)(w:JV)(K:IZ)(mg:Str->Jd IX)(base:J6)(k:Nat)(x:Str)(f:I_)(fd:JP)(ps:IW Str)(sp:Sp):Prop where
 ok:FnOk P w K mg base (jU P w) k f fd ps sp
 b:Binds K fd ps []
 kp:Mn K (.ref f)=Je
 at_:mg x=B' (.ref f)
def jE(G:tN X.prog X.w X.K X.mg X.base j x f fd ps sp)(Yl:∀e s,X.xe e s->False)(hr:Room k X.A)(hjk:j<=k)(hg:Gl X x)(ha:PA X (e::es) t)(YH:(x == ("__debug__":Str))=false:=by decide)
  (he:J3 (e::es) X.env=(Jg,MC e X.env)::J3 es X.env:=by rfl) (T4:(Nh pos<|J3 es X.env).any (·.1)=false:=by rfl):Ig X (.Call (.Name x p) (e::es) [] pos) (xz sp t):=
 xA Yl G.ok (hr.mono hjk) hg G.at_ G.kp G.b ha YH he T4
section
variable {K:IZ}
def xB{p pos:Pos}{e:KJ}{es:IW KJ}{t:TA}(G:tN P w K mg base j x f' fd ps sp)(hr:Room k (cq (jU P w) P w K mg base N qual scope f cd A outer s H E).A)(hjk:j<=k)
  (hg:Gl (cq (jU P w) P w K mg base N qual scope f cd A outer s H E) x) (ha:PA (cq (jU P w) P w K mg base N qual scope f cd A outer s H E) (e::es) t) (YH:(x == ("__debug__":Str))=false:=by decide)
  (he:J3 (e::es) (cq (jU P w) P w K mg base N qual scope f cd A outer s H E).env=(Jg,MC e (cq (jU P w) P w K mg base N qual scope f cd A outer s H E).env)::J3 es (cq (jU P w) P w K mg base N qual scope f cd A outer s H E).env:=by rfl)
  (T4:(Nh pos<|J3 es (cq (jU P w) P w K mg base N qual scope f cd A outer s H E).env).any (·.1)=false:=by rfl):
  PE (cq (jU P w) P w K mg base N qual scope f cd A outer s H E) (.Call (.Name x p) (e::es) [] pos) (pQ sp [] E t):=
 oz G.ok (hr.mono hjk) hg G.at_ G.kp G.b .nil Gh ha YH he T4
end
structure dL (K:IZ)(C:I_):Prop where
 cls:∃cd,ML K C=B' cd
 ga:KG K (.ref C) "__getattribute__"=B' (B'<|.builtin "BaseException.__getattribute__")
 gt:KG K (.ref C) "__getattr__"=B' Ji
 at_:KG K (.ref C) "__class__"=B' (B'<|.builtin "object.__class__")
 ob:J5 K C (.type "object")=B' Je
 be:J5 K C (.type "BaseException")=B' Je
section
variable {os:Ql}{K:IZ}
def xC(hx:h.get? a=B' o)(hc:o.cls=.ref C):Pc M h (typeOf<|.ref a) (.ref C):=by
 rw[<-hc];exact(VX hx).andThen .now
def rM(X:K.In h)(T:dL K C)(hx:h.get? a=B' o)(hc:o.cls=.ref C)(hq:R (.ok<|.ret<|.ref C) ⟨h,g,d,t,os⟩):
  codeAny (JS prog w) A (.call (.builtin "getset_descriptor.__get__") ⟨[.builtin "object.__class__",.ref a,.ref C],[]⟩) R ⟨h,g,d,t,os⟩:=by
 have hT5:(⟨h,g,d,t,os⟩:Ja).TypeIs (.builtin "object.__class__") "getset_descriptor":=P8;have L1:=Nj (M:=JS prog w) X T.ob;refine Na F.slot_gs_get.plain F.entry_gs_get (F.slot_gs_get.check _ _ _ _ _ _ _ _ hT5 (F.args_gs_get _ _ _) ?_)
 repeat (any_goals (first|assumption|(with_reducible refine Ks hx ?_;rw[hc])|(rw[F.owner_object_class];with_reducible refine L1.at ?_)|wp_step))
 refine⟨Pu _ (by decide+kernel),LK F.entry_object_class ?_⟩
 repeat (any_goals (first|assumption|(with_reducible refine Ks hx ?_;rw[hc])|wp_step))
def oN{tk:Tok}(X:K.In h)(T:dL K C)(hx:h.get? a=B' o)(hc:o.cls=.ref C)(hq:Q (.done<|.ret<|.ref C) ⟨h,g,d,t,os⟩):
  wpAny (JS prog w) A (Builtin.«object.__getattribute__» ⟨[.ref a,.str "__class__" tk],[]⟩) Q E ⟨h,g,d,t,os⟩:=by
 have hT5:(⟨h,g,d,t,os⟩:Ja).TypeIs (.builtin "object.__class__") "getset_descriptor":=P8;have f5:=P8;have f6:=F.slot_gs_get.lookup;have f7:=F.slot_gs_set.lookup;have L1:=Mb (M:=JS prog w) X T.at_
 repeat (any_goals (first|assumption|(with_reducible refine Ks hx ?_;rw[hc])|with_reducible refine L1.at ?_|wp_step))
 refine rM X T hx hc ?_
 repeat (any_goals (first|assumption|wp_step))
def mW{M:R4}{aco:IX}(X:K.In h)(T:dL K C)(hx:h.get? a=B' o)(hc:o.cls=.ref C)(hq:Q () ⟨h,g,d,t,os⟩):
  wpAny M A (OW "BaseException.__getattribute__" ⟨[.ref a,aco],[]⟩) Q E ⟨h,g,d,t,os⟩:=by
 have f1:builtinKind "BaseException.__getattribute__"=B' .slot:=by decide+kernel
 have f2:splitId "BaseException.__getattribute__"=B' ("BaseException","__getattribute__"):=by decide+kernel
 have f3:=F.args_bexc_ga (.ref a) aco;have L1:=Nj (M:=M) X T.be;simp only [OW,f1,f2];refine IY ?_;unfold Uv
 repeat (first|(with_reducible refine Ks hx ?_;rw[hc])|with_reducible refine L1.at ?_|wp_step)
 exact hq
def vB{tk:Tok}(X:K.In h)(T:dL K C)(hx:h.get? a=B' o)(hc:o.cls=.ref C)(hq:Q (.ref C) ⟨h,g,d,t,os⟩):
  wpAny (JS prog w) A (Ys (.ref a) (.str "__class__" tk) Jg) Q E ⟨h,g,d,t,os⟩:=by
 have f3:=PySem.F.attr_ValueError.ga.bind<|.ref a;have hx2:(M0 "BaseException.__getattribute__" == M0 "object.__getattribute__")=false:=by decide+kernel
 have hx1:(Yq (Kb C)&&M0 "BaseException.__getattribute__" == M0 "object.__getattribute__")=false:=by rw[hx2];rfl
 have L1:=Mb (M:=JS prog w) X T.ga;have L2:=Mb (M:=JS prog w) X T.gt
 repeat (any_goals (first|assumption|(with_reducible refine Ks hx ?_;rw[hc])|with_reducible refine L1.at ?_|with_reducible refine L2.at ?_|wp_step))
 refine Na PySem.F.attr_ValueError.ga.plain Wz (mW X T hx hc<|oN X T hx hc ?_)
 repeat (any_goals (first|assumption|wp_step))
def qj(X:K.In h)(T:dL K C)(hx:h.get? a=B' o)(hc:o.cls=.ref C)(hq:Q (B'<|.ref C) ⟨h,g,d,t+1,os⟩):
  wpAny (JS prog w) A (W3 (.ref a) "__class__") Q E ⟨h,g,d,t,os⟩:=by
 unfold W3 getAttrBy?
 repeat (any_goals (first|assumption|with_reducible apply vB X T hx hc|wp_step))
theorem xD(T:dL K C):PySem.W.KitX K (.ref a) (.ref C) (λh=>∃o,h.get? a=B' o/\o.cls=.ref C) where
 ty:=λM h _ ⟨o,h1,h2⟩=>xC h1 h2
 it:=λ_ _ X _=>by
  obtain⟨_,q⟩:=T.cls;unfold ML at q
  split at q
  ·rename_i ho;intro A' Q' E' s' k z;unfold isType loadHead;exact IY<|wpAny_loadPart (k _ _<|X _ _ ho)<|Jl z
  ·cases q
 ne:=λh tp dd Lj n sl X htp=>by
  refine VA.mpr λz=>?_;have e:C=tp:=abU<|Oh.mp z;subst e;obtain⟨_,q⟩:=T.cls;unfold ML at q
  split at q
  ·rename_i ho;have y:=(X _ _ ho).symm.trans htp;cases y
  ·cases q
 ca:=λ{_ _ _ _ _ s} X ⟨o,h1,h2⟩ k=>by
  obtain⟨hh,g,d,t,os⟩:=s;exact qj X T h1 h2 k
end
def ly(K:IZ)(C:I_):JM K (.ref C) (.ref C)=B' true:=by
 unfold JM;rw[JL<|by simp]
end L2
namespace Srt
open PySem PySem.W PyProof.Rows
def run{α:Type}(lt:Nat->Nat->JJ):KasT α->α
 |.ret a=>a
 |.ask i j k=>run lt<|k<|lt i j
theorem gf{α β:Type}(lt:Nat->Nat->JJ)(f:α->KasT β):∀t,run lt (t.bind f)=run lt (f<|run lt t)
 |.ret _=>rfl
 |.ask i j k=>gf lt f<|k<|lt i j
section
variable (key:Nat->Int)
def gk(p:JF Nat)(i:Nat):Int:=key<|(p[i]?).getD 0
def f_(i j:Nat):JJ:=decide (key i < key j)
variable {key}
def qk:f_ key (p.getD i 0) (p.getD j 0)=decide (gk key p i < gk key p j):=by
 unfold f_ gk;rw[Lu,Lu]
variable (key)in
def Up(p:JF Nat)(n:Nat):Prop:=∀i j,i<=j->j < n->gk key p i<=gk key p j
variable (key)in
def Down(p:JF Nat)(n:Nat):Prop:=∀i j,i<=j->j < n->gk key p j<=gk key p i
def rN(hj:j<=p.size)(k:Nat):gk key (OX p i j) k=if i<=k/\k < j then gk key p (i+j - 1 - k)else gk key p k:=by
 unfold gk OX;rw[Ua hj]
 split<;>rfl
def mY(hs:src < p.size)(hd:d<=src)(k:Nat):gk key (V1 p src d) k=if k=src - d then gk key p src else if src - d < k/\k<=src then gk key p (k - 1)else gk key p k:=by
 unfold gk;rw[WC hs d hd]
 split
 ·rfl
 ·split<;>rfl
def Up.one:Up key p 1:=by grind[Up]
def Up.succ(h:Up key p n)(h1:1<=n)(hl:gk key p (n - 1)<=gk key p n):Up key p (n+1):=λi j h2 h3=>by
 by_cases e:j=n
 ·subst e;by_cases e2:i=j
  ·rw[e2];exact Lg _
  ·have:=h i (j - 1) (by lia) (by lia);lia
 ·exact h i j h2 (by lia)
def Down.succ(h:Down key p n)(h1:1<=n)(hl:gk key p n<=gk key p (n - 1)):Down key p (n+1):=λi j h2 h3=>by
 by_cases e:j=n
 ·subst e;by_cases e2:i=j
  ·rw[e2];exact Lg _
  ·have:=h i (j - 1) (by lia) (by lia);lia
 ·exact h i j h2 (by lia)
theorem rO(p:JF Nat):∀f n,1<=n->Up key p n->n<=run (f_ key) (Qk p f n)/\run (f_ key) (Qk p f n)<=n+f/\Up key p (run (f_ key)<|Qk p f n)/\(run (f_ key) (Qk p f n) < n+f->gk key p (run (f_ key)<|Qk p f n) < gk key p (run (f_ key) (Qk p f n) - 1))
 |0,n,h1,h=>⟨Jh _,Jh _,h,λz=>absurd z<|LO _⟩
 |f+1,n,h1,h=>by
  have e:run (f_ key) (Qk p (f+1) n)=run (f_ key) (if f_ key (p.getD n 0) (p.getD (n - 1) 0)=Je then Xc n else Qk p f (n+1)):=rfl;rw[e,qk];by_cases g:gk key p n < gk key p (n - 1)
  ·rw[JL<|Jz g];exact⟨Jh _,by show n<=_;lia,h,λ_=>g⟩
  ·rw[JK<|by rw[Jj g];exact JR];obtain⟨a1,a2,a3,a4⟩:=rO p f (n+1) (by lia) (h.succ h1<|by lia);exact⟨by lia,by lia,a3,λz=>a4<|by lia⟩
def dM(p:JF Nat)(i j:Nat):(OX p i j).Perm p:=mirror_perm _ _ _ _
def fB(p:JF Nat)(i j:Nat):(OX p i j).size=p.size:=mirror_size _ _ _ _
def gA(hj:j<=p.size)(heq:∀k,i<=k->k < j->gk key p k=gk key p (j - 1))(k:Nat):gk key (OX p i j) k=gk key p k:=by
 rw[rN hj]
 split
 ·next h=>
  rw[heq (i+j - 1 - k) (by lia) (by lia),heq k h.1 h.2]
 ·rfl
def Down.same(h:Down key p n)(e:∀k,gk key p' k=gk key p k):Down key p' n:=λi j h1 h2=>by
 rw[e,e];exact h i j h1 h2
theorem kB:∀f p n q,1<=n->n+f<=p.size->q+1<=n->Down key p n->(∀k,n - (q+1)<=k->k < n->gk key p k=gk key p (n - 1))->
  ∀p' n' q',run (f_ key) (QZ f p n q)=(p',n',q')->n<=n'/\n'<=n+f/\q'+1<=n'/\p'.Perm p/\p'.size=p.size/\Down key p' n'/\(∀k,n' - (q'+1)<=k->k < n'->gk key p' k=gk key p' (n' - 1))
 |0,p,n,q,h1,hz,hq,hd,he,p',n',q',e=>by
  cases e;exact⟨Jh _,Jh _,hq,.refl _,rfl,hd,he⟩
 |f+1,p,n,q,h1,hz,hq,hd,he,p',n',q',e=>by
  have e0:run (f_ key) (QZ (f+1) p n q)=run (f_ key) (if f_ key (p.getD n 0) (p.getD (n - 1) 0)=Je then(if q > 0 then QZ f (OX p (n - (q+1)) n) (n+1) 0 else QZ f p (n+1) 0)
   else .ask (p.getD (n - 1) 0) (p.getD n 0) λd=>if d=Je then .ret (p,n,q)else QZ f p (n+1) (q+1)):=rfl
  rw[e0,qk]at e;by_cases g:gk key p n < gk key p (n - 1)
  ·rw[JL<|Jz g]at e;by_cases gq:q > 0
   ·rw[JL gq]at e;have ek:=gA (key:=key) (p:=p) (i:=n - (q+1)) (j:=n) (by lia) he;have d1:Down key (OX p (n - (q+1)) n) (n+1):=(hd.same ek).succ h1 (by rw[ek,ek];lia);obtain⟨b1,b2,b3,b4,b5,b6,b7⟩:=kB f _ (n+1) 0 (by lia) (by rw[fB];lia) (by lia) d1 (λk k1 k2=>by
     have:k=n:=by lia
     rw[this];rfl) p' n' q' e
    exact⟨by lia,by lia,b3,b4.trans<|dM _ _ _,by rw[b5,fB],b6,b7⟩
   ·rw[JK gq]at e;obtain⟨b1,b2,b3,b4,b5,b6,b7⟩:=kB f p (n+1) 0 (by lia) (by lia) (by lia) (hd.succ h1<|by lia) (λk k1 k2=>by
     have:k=n:=by lia
     rw[this];rfl) p' n' q' e
    exact⟨by lia,by lia,b3,b4,b5,b6,b7⟩
  ·rw[JK<|by rw[Jj g];exact JR]at e;have e1:run (f_ key) (if f_ key (p.getD (n - 1) 0) (p.getD n 0)=Je then Xc (p,n,q)else QZ f p (n+1) (q+1))=(p',n',q'):=e;rw[qk]at e1;by_cases g2:gk key p (n - 1) < gk key p n
   ·rw[JL<|Jz g2]at e1;cases e1;exact⟨Jh _,by lia,hq,.refl _,rfl,hd,he⟩
   ·rw[JK<|by rw[Jj g2];exact JR]at e1;have eq:gk key p n=gk key p (n - 1):=by lia
    obtain⟨b1,b2,b3,b4,b5,b6,b7⟩:=kB f p (n+1) (q+1) (by lia) (by lia) (by lia) (hd.succ h1<|by lia) (λk k1 k2=>by
     by_cases hk:k=n
     ·rw[hk];rfl
     ·rw[he k (by lia) (by lia),<-eq];rfl) p' n' q' e1
    exact⟨by lia,by lia,b3,b4,b5,b6,b7⟩
def Down.turned(h:Down key p n)(hn:n<=p.size):Up key (OX p 0 n) n:=λi j h1 h2=>by
 rw[rN hn,rN hn,JL ⟨JQ _,by lia⟩,JL ⟨JQ _,h2⟩];exact h _ _ (by lia) (by lia)
def tO(h1:1<=n)(hn:n<=M9)(hz:M9<=p.size)(hd:Down key p n)(e:run (f_ key) (VT n M9 p)=(m,p')):1<=m/\m<=M9/\p'.Perm p/\p'.size=p.size/\Up key p' m:=by
 unfold VT at e;rw[gf]at e;obtain⟨a1,a2,a3,_⟩:=rO (key:=key) (OX p 0 n) (M9 - n) n h1 (hd.turned<|by lia);have e':(run (f_ key)<|Qk (OX p 0 n) (M9 - n) n,OX p 0 n)=(m,p'):=e;cases e';exact⟨by lia,by lia,dM _ _ _,fB _ _ _,a3⟩
def jV(h1:1<=n)(hn:n+1<=M9)(hz:M9<=p.size)(hd:Down key p (n+1))(e:run (f_ key) (Sm n M9 p)=(m,p')):1<=m/\m<=M9/\p'.Perm p/\p'.size=p.size/\Up key p' m:=by
 unfold Sm at e;rw[gf]at e;rcases hr:run (f_ key) (QZ (M9 - (n+1)) p (n+1) 0)with⟨p1,n1,q1⟩;obtain⟨b1,b2,b3,b4,b5,b6,b7⟩:=kB (M9 - (n+1)) p (n+1) 0 (by lia) (by lia) (by lia) hd (λk k1 k2=>by
  have:k=n:=by lia
  rw[this];rfl) p1 n1 q1 hr
 rw[hr]at e;dsimp only at e;by_cases g:q1 > 0
 ·rw[JL g]at e;have ek:=gA (key:=key) (p:=p1) (i:=n1 - (q1+1)) (j:=n1) (by lia) b7;obtain⟨c1,c2,c3,c4,c5⟩:=tO (by lia) (by lia) (by rw[fB];lia) (b6.same ek) e;exact⟨c1,c2,(c3.trans<|dM _ _ _).trans b4,by rw[c4,fB,b5],c5⟩
 ·rw[JK g]at e;obtain⟨c1,c2,c3,c4,c5⟩:=tO (by lia) (by lia) (by lia) b6 e;exact⟨c1,c2,c3.trans b4,by rw[c4,b5],c5⟩
def xE(h1:1<=M9)(hz:M9<=p.size)(e:run (f_ key) (VU M9 p)=(m,p')):1<=m/\m<=M9/\p'.Perm p/\p'.size=p.size/\Up key p' m:=by
 unfold VU at e;rw[gf]at e;obtain⟨a1,a2,a3,a4⟩:=rO (key:=key) p (M9 - 1) 1 (Jh _) Up.one;generalize run (f_ key) (Qk p (M9 - 1) 1)=n at a1 a2 a3 a4 e;by_cases g:(n == M9)=Je
 ·rw[JL g]at e;cases e;exact⟨a1,by lia,.refl _,rfl,a3⟩
 ·rw[JK g]at e;have Xw:n≠M9:=λz=>g (by rw[z];exact N9 _);have stop:=a4 (by lia);by_cases g1:n > 1
  ·rw[JL g1]at e;have e1:run (f_ key) (if f_ key (p.getD 0 0) (p.getD (n - 1) 0)=Je then Xc (n,p)else Sm n M9 (OX p 0 n))=(m,p'):=e;rw[qk]at e1;by_cases g2:gk key p 0 < gk key p (n - 1)
   ·rw[JL<|Jz g2]at e1;cases e1;exact⟨a1,by lia,.refl _,rfl,a3⟩
   ·rw[JK<|by rw[Jj g2];exact JR]at e1;have heq:∀k,0<=k->k < n->gk key p k=gk key p (n - 1):=λk _ k2=>by
     have u1:=a3 0 k (JQ _) k2;have u2:=a3 k (n - 1) (by lia) (by lia);lia
    have ek:=gA (key:=key) (p:=p) (i:=0) (j:=n) (by lia) heq;have hd:Down key (OX p 0 n) (n+1):=λi j i1 i2=>by
     rw[ek,ek];by_cases hj:j=n
     ·subst hj;by_cases hi:i=j
      ·rw[hi];exact Lg _
      ·rw[heq i (JQ _)<|by lia];lia
     ·rw[heq i (JQ _) (by lia),heq j (JQ _)<|by lia];exact Lg _
    obtain⟨c1,c2,c3,c4,c5⟩:=jV (by lia) (by lia) (by rw[fB];lia) hd e1;exact⟨c1,c2,c3.trans<|dM _ _ _,by rw[c4,fB],c5⟩
  ·rw[JK g1]at e;have n1:n=1:=by lia
   subst n1;have hd:Down key p 2:=λi j i1 i2=>by
    by_cases hj:j=i
    ·rw[hj];exact Lg _
    ·have:i=0/\j=1:=by lia
     rw[this.1,this.2];exact Nm stop
   exact jV (Jh _) (by lia) hz hd e
theorem lz(hu:Up key p k):∀f l r,r - l<=f->l<=r->r<=k->(∀i,i < l->gk key p i<=gk key p k)->(∀i,r<=i->i < k->gk key p k < gk key p i)->
  run (f_ key) (Ov p k f l r)<=k/\(∀i,i < run (f_ key) (Ov p k f l r)->gk key p i<=gk key p k)/\(∀i,run (f_ key) (Ov p k f l r)<=i->i < k->gk key p k < gk key p i)
 |0,l,r,hf,hl,hr,h1,h2=>by
  have:l=r:=by lia
  subst this;exact⟨hr,h1,h2⟩
 |f+1,l,r,hf,hl,hr,h1,h2=>by
  unfold Ov;by_cases g:l>=r
  ·rw[JL g];have:l=r:=by lia
   subst this;exact⟨hr,h1,h2⟩
  ·rw[JK g];have e:run (f_ key) (KasT.ask (p.getD k 0) (p.getD ((l+r) / 2) 0) λc=>if c=Je then Ov p k f l ((l+r) / 2)else Ov p k f ((l+r) / 2+1) r)=run (f_ key) (if f_ key (p.getD k 0) (p.getD ((l+r) / 2) 0)=Je then Ov p k f l ((l+r) / 2)else Ov p k f ((l+r) / 2+1) r):=rfl;rw[e,qk];by_cases g2:gk key p k < gk key p ((l+r) / 2)
   ·rw[JL<|Jz g2];exact lz hu f l ((l+r) / 2) (by lia) (by lia) (by lia) h1 λi i1 i2=>by
     have:=hu ((l+r) / 2) i i1 i2;lia
   ·rw[JK<|by rw[Jj g2];exact JR];exact lz hu f ((l+r) / 2+1) r (by lia) (by lia) hr (λi i1=>by
     have:=hu i ((l+r) / 2) (by lia) (by lia);lia) h2
theorem xF:∀f p k,k+f=p.size->Up key p k->(run (f_ key)<|WK f p k).Perm p/\(run (f_ key)<|WK f p k).size=p.size/\Up key (run (f_ key)<|WK f p k) (k+f)
 |0,p,k,hz,hu=>⟨.refl _,rfl,hu⟩
 |f+1,p,k,hz,hu=>by
  unfold WK;rw[gf];obtain⟨b1,b2,b3⟩:=lz hu k 0 k (by lia) (JQ _) (Jh _) (λi i1=>by lia) (λi i1 i2=>by lia);generalize run (f_ key) (Ov p k k 0 k)=l at b1 b2 b3;have hu2:Up key (V1 p k<|k - l) (k+1):=λi j i1 i2=>by
   have el:k - (k - l)=l:=by lia
   rw[mY (by lia) (by lia),mY (by lia) (by lia),el];by_cases ci:i=l
   ·rw[JL ci];by_cases cj:j=l
    ·rw[JL cj];exact Lg _
    ·rw[JK cj,JL ⟨by lia,by lia⟩];exact Nm (b3 (j - 1) (by lia)<|by lia)
   ·rw[JK ci];by_cases ci2:l < i/\i<=k
    ·rw[JL ci2,JK (by lia),JL ⟨by lia,by lia⟩];exact hu (i - 1) (j - 1) (by lia) (by lia)
    ·rw[JK ci2];by_cases cj:j=l
     ·rw[JL cj];exact b2 i (by lia)
     ·rw[JK cj];by_cases cj2:l < j/\j<=k
      ·rw[JL cj2];exact hu i (j - 1) (by lia) (by lia)
      ·rw[JK cj2];exact hu i j i1 (by lia)
  obtain⟨c1,c2,c3⟩:=xF f (V1 p k<|k - l) (k+1) (by rw[bubble_size];lia) hu2;refine⟨c1.trans<|Wj _ _ _,by rw[c2,bubble_size],?_⟩;have e:k+(f+1)=k+1+f:=by lia
  rw[e];exact c3
def AV(h1:1<=n):(run (f_ key)<|R0 n).Perm (SC<|Ky n)/\(run (f_ key)<|R0 n).size=n/\Up key (run (f_ key)<|R0 n) n:=by
 unfold R0;rw[gf];have hs:(SC<|Ky n).size=n:=by simp
 rcases hr:run (f_ key) (VU n<|SC<|Ky n)with⟨m,p'⟩;obtain⟨c1,c2,c3,c4,c5⟩:=xE h1 (by lia) hr;dsimp only;by_cases g:m < n
 ·rw[JL g];have em:max m 1=m:=by lia
  rw[em];obtain⟨d1,d2,d3⟩:=xF (n - m) p' m (by lia) c5;refine⟨d1.trans c3,by lia,?_⟩;have e:m+(n - m)=n:=by lia
  rw[e]at d3;exact d3
 ·rw[JK g];have em:m=n:=by lia
  subst em;exact⟨c3,by show p'.size=_;lia,c5⟩
end
def AskP{α:Type}(n:Nat)(P:α->Prop):KasT α->Prop
 |.ret a=>P a
 |.ask i j k=>i < n/\j < n/\∀b,AskP n P<|k b
theorem AskP.bind{α β:Type}{n:Nat}{P:α->Prop}{Q:β->Prop}{f:α->KasT β}(hf:∀a,P a->AskP n Q (f a)):∀t,AskP n P t->AskP n Q (t.bind f)
 |.ret a,h=>hf a h
 |.ask i j k,h=>⟨h.1,h.2.1,λb=>AskP.bind hf (k b)<|h.2.2 b⟩
def Lo(n:Nat)(p:JF Nat):Prop:=∀i,p.getD i 0 < n
def Lo.perm(h:Lo n p)(hp:p'.Perm p):Lo n p':=λi=>by
 rw[Lu];cases e:p'[i]? with
 |none=>
  have z:=h p.size;rw[Lu,Nn<|Jh _]at z;exact z
 |some v=>
  have hm:v∈p:=hp.mem_iff.mp<|Array.mem_of_getElem? e;obtain⟨j,hj⟩:=SH.mp hm;have z:=h j;rw[Lu,hj]at z;exact z
theorem rP(h:Lo n p):∀f m,AskP n (λ_=>True)<|Qk p f m
 |0,m=>trivial
 |f+1,m=>⟨h _,h _,λb=>by
  dsimp only
  split
  ·trivial
  ·exact rP h f<|m+1⟩
theorem kC:∀f p m q,Lo n p->AskP n (λr:JF Nat×Nat×Nat=>Lo n r.1) (QZ f p m q)
 |0,p,m,q,h=>h
 |f+1,p,m,q,h=>⟨h _,h _,λb=>by
  dsimp only
  split
  ·split
   ·exact kC f _ _ _<|h.perm<|dM _ _ _
   ·exact kC f _ _ _ h
  ·refine⟨h _,h _,λd=>?_⟩;dsimp only
   split
   ·exact h
   ·exact kC f _ _ _ h⟩
def tP(h:Lo n p):AskP n (λr:Nat×JF Nat=>Lo n r.2) (VT m M9 p):=by
 unfold VT;exact AskP.bind (n:=n) (P:=λ_=>True) (Q:=λr:Nat×JF Nat=>Lo n r.2) (f:=λm'=>Xc (m',OX p 0 m)) (λ_ _=>h.perm<|dM _ _ _) _<|rP (h.perm<|dM _ _ _) _ _
def jW(h:Lo n p):AskP n (λr:Nat×JF Nat=>Lo n r.2) (Sm m M9 p):=
 AskP.bind (P:=λr:JF Nat×Nat×Nat=>Lo n r.1) (λr hr=>by
  split
  ·exact tP<|Lo.perm hr<|dM _ _ _
  ·exact tP hr) _ (kC _ _ _ _ h)
def xG(h:Lo n p):AskP n (λr:Nat×JF Nat=>Lo n r.2) (VU M9 p):=
 AskP.bind (P:=λ_=>True) (λm _=>by
  split
  ·exact h
  ·split
   ·refine⟨h _,h _,λc=>?_⟩;dsimp only
    split
    ·exact h
    ·exact jW<|h.perm<|dM _ _ _
   ·exact jW h) _ (rP h _ _)
theorem lA(h:Lo n p):∀f l r,AskP n (λ_=>True)<|Ov p k f l r
 |0,l,r=>trivial
 |f+1,l,r=>by
  unfold Ov
  split
  ·trivial
  ·refine⟨h _,h _,λc=>?_⟩;dsimp only
   split
   ·exact lA h f _ _
   ·exact lA h f _ _
theorem xH:∀f p k,Lo n p->AskP n (λ_=>True) (WK f p k)
 |0,p,k,h=>trivial
 |f+1,p,k,h=>AskP.bind (P:=λ_=>True) (λl _=>xH f _ _<|h.perm<|Wj _ _ _) _<|lA h _ _ _
def AX(h1:1<=n):AskP n (λ_=>True) (R0 n):=by
 have h:Lo n (SC<|Ky n):=λi=>by
  rw[Lu];by_cases hi:i < n
  ·rw[P_,O' hi];exact hi
  ·rw[Nn<|by simpa using V3 hi];exact h1
 exact AskP.bind (P:=λr:Nat×JF Nat=>Lo n r.2) (λr hr=>by
  split
  ·exact xH _ _ _ hr
  ·trivial) _ (xG h)
theorem xI{α:Type}{n:Nat}{cmp:Nat->Nat->(JJ->Ja->Prop)->Ja->Prop}{lt:Nat->Nat->JJ}{s:Ja}(hc:∀i j C,i < n->j < n->C (lt i j) s->cmp i j C s){P:α->Prop}{Q:α->Ja->Prop}:∀t,AskP n P t->Q (run lt t) s->t.kasWp cmp Q s
 |.ret _,_,h=>h
 |.ask i j k,a,h=>hc i j _ a.1 a.2.1<|xI hc (k<|lt i j) (a.2.2 _) h
end Srt
namespace Srt
open PySem PySem.W PySem.Spec PyProof.Rows
inductive PairVs (h:J6):IW IX->IW (Int×Int)->Prop
 |nil:PairVs h [] []
 |cons {t:I_} {o:Obj} {x y:Int} {tx ty:Tok} {n:Nat} {vs:IW IX} {ps:IW (Int×Int)} (e:h.get? t=B' o) (c:o.cls=.type "tuple") (d:o.data=.seq #[.int x tx,.int y ty] n) (r:PairVs h vs ps):PairVs h (.ref t::vs) ((x,y)::ps)
def PairVs.length(p:PairVs h vs ps):vs.length=ps.length:=by
 induction p with
 |nil=>rfl
 |cons _ _ _ _ ih=>rw[J4,J4,ih]
def PairVs.get(p:PairVs h vs ps):∀i,i < vs.length->∃t o n tx ty,vs.getD i .none=.ref t/\h.get? t=B' o/\o.cls=.type "tuple"/\o.data=.seq #[.int (ps.getD i (0,0)).1 tx,.int (ps.getD i (0,0)).2 ty] n:=by
 induction p with
 |nil=>intro i hi;cases hi
 |@cons t o x y tx ty n vs ps e c d r ih=>
  intro i hi;cases i with
  |zero=>exact⟨t,o,n,tx,ty,rfl,e,c,d⟩
  |succ i=>exact ih i (by simpa using hi)
def PairVs.stay(p:PairVs h vs ps)(k:∀t o,h.get? t=B' o->o.cls=.type "tuple"->h'.get? t=B' o):PairVs h' vs ps:=by
 induction p with
 |nil=>exact .nil
 |cons e c d r ih=>exact .cons (k _ _ e c) c d ih
def PairVs.tups(p:PairVs h vs ps):∃fs,KatTups h vs fs/\fs.length=vs.length/\∀v∈fs,∃i t,v=Ob i t:=by
 induction p with
 |nil=>exact⟨[],.nil,rfl,λ_ z=>nomatch z⟩
 |@cons t o x y tx ty n vs ps e c d r ih=>
  obtain⟨fs,h1,h2,h3⟩:=ih;refine⟨.int x tx::fs,.cons e c d rfl h1,by rw[J4,J4,h2],λv hv=>?_⟩;obtain rfl|hv:=J2.mp hv
  ·exact⟨x,tx,rfl⟩
  ·exact h3 v hv
def lexKey(B:Int)(q:Int×Int):Int:=q.1*(2*B+1)+q.2
def Em(h1:-B<=b)(h2:b<=B)(h3:-B<=y)(h4:y<=B):decide (lexKey B (a,b) < lexKey B (x,y))=if a == x then decide (b < y)else decide (a < x):=by
 unfold lexKey;dsimp only;by_cases e:a=x
 ·rw[JL (by rw[e];exact N9 _),e];exact Nw.mpr ⟨λz=>by lia,λz=>by lia⟩
 ·rw[JK<|by simpa using e];refine Nw.mpr ⟨λz=>?_,λz=>?_⟩
  ·obtain g|g:=UU e
   ·exact g
   ·exfalso;have:(x+1)*(2*B+1)<=a*(2*B+1):=Oe (by lia) (by lia);rw[TQ,Wm]at this;lia
  ·have:(a+1)*(2*B+1)<=x*(2*B+1):=Oe (by lia) (by lia);rw[TQ,Wm]at this;lia
def AY{Q:JJ->Ja->Prop}(hx:s.heap.get? x=B' ox)(dx:ox.data=.seq #[.int a ta,.int b tb] n)(hy:s.heap.get? y=B' oy)(dy:oy.data=.seq #[.int c tc,.int d td] k)
  (h:Q (if a == c then decide (b < d)else decide (a < c)) s):wpAny (JS prog w) A (keyLt' (tuples' Je) (.ref x)<|.ref y) Q E s:=by
 refine kat_lt hx dx hy dy<|kat_cons<|RU<|kat_go (λg=>?_) λg=>?_
 ·rw[g,JL rfl]at h;refine kat_yes<|kat_cons<|RU<|kat_go (λg2=>?_) λg2=>?_
  ·have e:b=d:=by simpa using g2
   subst e;rw[Jj<|Int.lt_irrefl _]at h;exact kat_yes<|kat_nil h
  ·exact kat_no<|kat_one _ _<|lt_int h
 ·rw[g,JK JR]at h;exact kat_no<|oneLt_int h
def sort_pairs{P:aa0->Ja->Prop}(ho:s.heap.get? a=B' (KP "list" vs.toArray n))(hp:PairVs s.heap vs ps)(Y5:vs.length < 64)(hB:∀q∈ps,-B<=q.2/\q.2<=B)
  (h:∀ix:IW Nat,ix.Perm (Ky vs.length)->((ix.map λi=>ps.getD i (0,0)).map<|lexKey B).Pairwise (·<=·)->P (.done<|.ret .none) {s with heap:=UK s.heap a vs (ix.map λi=>vs.getD i .none).toArray}):
  wpAny (JS prog w) A (Builtin.«list.sort» ⟨[.ref a],[]⟩) P E s:=by
 have ha:a < s.heap.objs.size:=Jv ho;obtain⟨e1,o1⟩:∃e1,(s.heap.update a (K' λ_=>#[])).get? a=B' (KP "list" #[] e1):=⟨_,Pn ho (λ_=>#[])⟩;have o6:(((s.heap.update a (K' λ_=>#[])).push (KP "tuple" vs.toArray 0)).push (KP "list" #[] 0)).get? a=B' (KP "list" #[] e1):=
  Jb _ (Jb _ o1)
 have hp6:PairVs (((s.heap.update a<|K' λ_=>#[]).push<|KP "tuple" vs.toArray 0).push<|KP "list" #[] 0) vs ps:=hp.stay λt o e c=>by
  have ne:t≠a:=λz=>by
   rw[z,ho]at e;cases e;exact absurd (abG c) (by decide)
  exact Jb _<|Jb _<|(J7 _ _<|Ma ne).trans e
 rw[WB];refine IY (E:=E)<|Sx ho rfl ?_;refine IY (E:=E)<|Nt ho rfl ?_ (by rw[JH,Lf];lia)<|JQ _;refine IY (E:=E)<|PF o1 rfl ?_;refine IY (E:=E)<|S7 ?_ (by show vs.length<=_;rw[Lf];lia);refine IY (E:=E)<|Ou (KN ?_)<|JQ _;show wpAny (JS prog w) A _ P E {s with heap:=((s.heap.update a<|K' λ_=>#[]).push<|KP "tuple" vs.toArray 0).push<|KP "list" #[] 0};dsimp only
 have L_:vs.toArray.size=vs.length:=by simp
 have aeC:((Ky vs.length).map λi=>vs.getD i .none)=vs:=by
  refine V7 (by simp) λi h1 h2=>?_;simp at h1;simp [h1]
 by_cases g:vs.toArray.size < 2
 ·rw[JL g,JL g];refine IY (E:=E)<|Jl ?_;rw[Wq];refine IY (E:=E)<|Jl ?_;dsimp only;refine IY (E:=E)<|PF o6 rfl ?_;refine IY (E:=E)<|Nt o6 rfl ?_ (hsz2:=by rw[Re];show(YU vs).size<=_;rw[pairsOf_size,Lf];lia);simp only [PM,JA,La];have z:=h (Ky vs.length) (.refl _) (by
   have hl:((((Ky vs.length).map λi=>ps.getD i (0,0)).map<|lexKey B)).length < 2:=by simp;lia
   generalize (((Ky vs.length).map λi=>ps.getD i (0,0)).map<|lexKey B)=l at hl
   match l,hl with
   |[],_=>exact .nil
   |[x],_=>exact Sa _ _)
  rw[aeC]at z;have e:(JZ<|Qg general' (vs.toArray.zip vs.toArray) #[] 7 Ji).map (·.2)=vs.toArray:=by
   show(vs.toArray.zip vs.toArray).map (·.2)=vs.toArray
   apply Sg.mp;simp;exact V6<|Jh _
  refine Jl ?_;rw[e];exact z
 ·rw[JK g,JK g];have h2:2<=vs.length:=by lia
  obtain⟨fs,f1,f2,f3⟩:=hp6.tups;refine IY (E:=E) (kat_kind (T:=.type "int") (s:={s with heap:=((s.heap.update a<|K' λ_=>#[]).push<|KP "tuple" vs.toArray 0).push<|KP "list" #[] 0}) f1 (by lia) (λv hv=>by
   obtain⟨i,t,rfl⟩:=f3 v hv;exact Looks.of_pure rfl) rfl ?_)
  obtain⟨c1,c2,c3⟩:=AV (key:=λi=>lexKey B<|ps.getD i (0,0)) (n:=vs.length) (by lia);have T4:=hp6.length;have hbd:∀i,-B<=(ps.getD i (0,0)).2/\(ps.getD i (0,0)).2<=B:=λi=>by
   rw[Jr];cases e:ps[i]? with
   |none=>
    obtain⟨q,hq⟩:∃q,q∈ps:=by
     cases ps with
     |nil=>rw[Lk]at T4;lia
     |cons q r=>exact⟨q,JG⟩
    have:=hB q hq;show -B<=0/\0<=B
    lia
   |some q=>exact hB q<|Jx e
  refine IY (E:=E) (Kf (kat_run (ks:=vs) (vs:=vs) (Q:=λLD s'=>s'=_/\MD LD=Ji/\JZ LD=(run (f_ λi=>lexKey B<|ps.getD i (0,0))<|R0 vs.length).map (kas_item<|vs.toArray.zip vs.toArray)) (G:=λp s'=>p=run (f_ λi=>lexKey B<|ps.getD i (0,0)) (R0 vs.length)/\s'={s with heap:=((s.heap.update a<|K' λ_=>#[]).push<|KP "tuple" vs.toArray 0).push<|KP "list" #[] 0}) rfl h2 Y5
   (λp LD s' _ a2 a3 a4=>⟨a4.2,a3,by rw[a2,a4.1]⟩) (xI (n:=vs.length) (λi j C hi hj hC=>?_) _ (AX<|by lia) ⟨rfl,rfl⟩)) ?_ λ_ _ z=>z)
  ·obtain⟨ti,oi,ni,xi,yi,w1,w2,w3,w4⟩:=hp6.get i hi;obtain⟨tj,oj,nj,xj,yj,u1,u2,u3,u4⟩:=hp6.get j hj;unfold kas_ask;rw[w1,u1];refine AY w2 w4 u2 u4 ?_;unfold f_ at hC;rw[<-Em (hbd i).1 (hbd i).2 (hbd j).1 (hbd j).2];exact hC
  ·rintro⟨⟨⟩,LD⟩ s' ⟨rfl,hf,har⟩;have aeG:=kat_snds (ks:=vs) (vs:=vs) rfl har;dsimp only;refine IY (E:=E)<|PF o6 rfl ?_;refine IY (E:=E)<|Nt o6 rfl ?_ (hsz2:=by rw[aeG,JH,Jc,JB,c2,Lf];lia);rw[hf];simp only [PM,JA,La];refine Jl ?_;rw[aeG];refine h _ (by simpa using NF.mp c1) ?_;rw[NK];intro i j hi hj hij;simp only [Jc,JB,c2]at hi hj;have z:=c3 i j (K_ hij) hj;unfold gk at z;rw[Km (by lia),Km<|by lia]at z;simpa using z
end Srt
namespace L2
open PySem PySem.Spec PyProof.Rows
def PR(H:Hp)(q:Int×Int)(v:V):Prop:=∃t,v=.ref t/\H t=B' (.tup [.int q.1,.int q.2])
theorem PR.mono(k:Same H H'):∀{ps:IW (Int×Int)} {ts:IW V},Paired (PR H) ps ts->Paired (PR H') ps ts
 |_,_,.nil=>.nil
 |_,_,.cons ⟨t,e,h⟩ r=>.cons ⟨t,e,k _ _ h⟩<|PR.mono k r
theorem hJ{α β:Type}{F:α->β->Prop}{as:IW α}{bs:IW β}(a0:α)(b0:β)(r:Paired F as bs):∀{ix:IW Nat},(∀i∈ix,i < as.length)->Paired F (ix.map λi=>as.getD i a0) (ix.map λi=>bs.getD i b0)
 |[],_=>.nil
 |i::ix,h=>by
  refine .cons ?_<|hJ a0 b0 r λj hj=>h j<|Jy _ hj;have hi:=h i JG;clear h
  induction r generalizing i with
  |nil=>cases hi
  |cons x t ih=>
   cases i with
   |zero=>exact x
   |succ i=>exact ih i (by simpa using hi)
def vC{α:Type}(l:IW α)(d:α):((Ky l.length).map λi=>l.getD i d)=l:=by
 refine V7 (by simp) λi h1 h2=>?_;simp at h1;simp [h1]
theorem jF(I:Inv X Jf σ H s):∀{ps:IW (Int×Int)} {ts:IW V} {us:IW IX},Paired (PR H) ps ts->Vals ts us->Srt.PairVs s.heap us ps
 |_,_,_,.nil,.nil=>.nil
 |(x,y)::ps,_,_,.cons ⟨t,e,h⟩ r,.cons r1 rr=>by
  subst e;cases(show _=Kb t from r1);obtain⟨Lj,rv,⟨o,e1,e2,n,e3⟩,_⟩:=I.tuple<|SqT.of h;obtain⟨u1,u2,rfl,⟨t1,rfl⟩,⟨t2,rfl⟩⟩:=tz rv;exact .cons e1 e2 e3<|jF I r rr
end L2
namespace OD
open PySem L2
def rQ(xs:IW V)(k:Nat):dH xs Ji (B' (k:Int))=xs.take k:=by
 unfold dH;rw[HT.sIx_nat];show(xs.drop 0).take (min k xs.length - 0)=_
 rw[Xp,YX];by_cases h:k<=xs.length
 ·rw[Nat.min_eq_left h]
 ·rw[Nat.min_eq_right (by lia),JY<|Jh _,JY<|by lia]
theorem paired_get{α β:Type}{F:α->β->Prop}:∀{xs:IW α} {us:IW β} {i:Nat} {u:β},Paired F xs us->us[i]? =B' u->∃x,xs[i]? =B' x/\F x u
 |_,_,0,_,.cons h _,e=>⟨_,rfl,by cases e;exact h⟩
 |_,_,i+1,_,.cons _ r,e=>paired_get (i:=i) r e
def Gm(b:JJ):decide (V.str (aK b)=V.str (I0 "wisher"))=b:=by
 have z:=g_ b Je;have z2:aK Je=I0 "wisher":=rfl;rw[z2]at z;rw[z];cases b<;>rfl
end OD
namespace OD
open PySem L2
def iH(most:Int):Int->IW Jw->JJ
 |_,[]=>Je
 |b,.int i::r=>if b < absI i/\absI i<=most then iH most (absI i) r else Jg
 |_,_::_=>Jg
def mB(most:Int):Jw->JJ
 |.tuple ds=>iH most 0 ds
 |_=>Jg
def vD{α:Type}{l:IW α}{i:Nat}(d:α)(h:i < l.length):l.drop i=l.getD i d::l.drop (i+1):=by
 rw[O6 h]
 congr 1
 simp [List.getD,h]
def oO(h:∀z,d≠.int z):(oH d&&!oJ d)=false:=by
 cases d with
 |int z=>exact absurd rfl<|h z
 |_=>rfl
def ql(h:∀z,d≠.int z):iH most b (d::r)=false:=by
 cases d with
 |int z=>exact absurd rfl<|h z
 |_=>rfl
theorem lB:iH most b (.int z::r)=if b < absI z/\absI z<=most then iH most (absI z) r else false:=rfl
def oP(d:Jw):(∃z,d=.int z)\/∀z,d≠.int z:=by grind
def a_(h:RD H (.int z) v):v=.int z:=by
 unfold RD at h;exact h
def bi(h:RD H (.str z) v):v=.str z:=by
 unfold RD at h;exact h
def eQ(ns:IW Int):KI (.list<|ns.map .int)=true:=PySem.W.ke_shaped_ints ns
def En{n:Nat}{i:Int}(h0:0<=i)(h1:i < n):Ax n i=B' i.toNat:=by
 unfold Ax;rw[JL h0,JL h1]
def Nice(n:Nat)(d:Jw):Prop:=d.canLay0=Je/\d.depth<=n
def Nice.mono(h:Nice m d)(k:m<=n):Nice n d:=⟨h.1,Lb h.2 k⟩
theorem iX:∀{ds:IW Jw} {n:Nat},(∀d∈ds,Nice n d)->LY ds=Je/\MR ds<=n
 |[],_,_=>⟨rfl,JQ _⟩
 |d::ds,n,h=>by
  have h1:=h d JG;have h2:=iX (ds:=ds) λx hx=>h x<|Jy _ hx;refine⟨?_,?_⟩
  ·show(d.canLay0&&LY ds)=Je
   rw[h1.1,h2.1];rfl
  ·show max d.depth (MR ds)<=n
   exact Nat.max_le.mpr ⟨h1.2,h2.2⟩
def im(h:∀d∈ds,Nice n d):Nice (n+1) (.list ds):=⟨(iX h).1,R_ (iX h).2⟩
def bK(h:∀d∈ds,Nice n d):Nice (n+1) (.tuple ds):=⟨(iX h).1,R_ (iX h).2⟩
def vE(n:Nat):Nice n .none:=⟨rfl,JQ _⟩
def vF(n:Nat)(b:JJ):Nice n (.bool b):=⟨rfl,JQ _⟩
def bT(n:Nat)(i:Int):Nice n (.int i):=⟨rfl,JQ _⟩
def bx(n:Nat)(h:QM x=Je):Nice n (.str x):=⟨h,JQ _⟩
def mZ(n:Nat)(ns:IW Int):∀d∈ns.map Pt,Nice n d:=λd hd=>by
 obtain⟨i,_,rfl⟩:=Ke.mp hd;exact bT n i
def aL(h:Nice n d)(t:∀x∈ds,Nice n x):∀x∈d::ds,Nice n x:=by grind
def bL:∀x∈([]:IW Jw),Nice n x:=λ_ h=>nomatch h
def Nice.shaped(h:Nice 8 d):KI d=true:=ik h.1 (Lb h.2<|by decide)
def xJ(cs:IW (IW Int)):∀d∈cs.map gc,Nice 2 d:=λd hd=>by
 obtain⟨c,_,rfl⟩:=Ke.mp hd;exact bK<|mZ 1 c
end OD
namespace TB
open PySem PySem.SetTable
def Up(xs:JF Nat):Prop:=∀i k,i < k->k < xs.size->xs.getD i 0 < xs.getD k 0
def tQ{xs:JF Nat}{i:Nat}(h:i < xs.size)(a b:Nat):xs.getD i a=xs.getD i b:=by
 simp [Qi,h]
theorem oQ(up:Up xs):∀fuel lo hi,hi - lo<=fuel->lo<=hi->hi<=xs.size->(∀i,i < lo->xs.getD i 0 < j)->(∀i,hi<=i->i < xs.size->j<=xs.getD i 0)->
  Th xs j fuel lo hi<=xs.size/\(∀i,i < Th xs j fuel lo hi->xs.getD i 0 < j)/\(∀i,Th xs j fuel lo hi<=i->i < xs.size->j<=xs.getD i 0)
 |0,lo,hi,hf,hl,hs,h1,h2=>by
  have e:lo=hi:=by lia
  subst e;exact⟨hs,h1,h2⟩
 |fuel+1,lo,hi,hf,hl,hs,h1,h2=>by
  unfold Th;by_cases h:lo < hi
  ·rw[JL h];have hm:(lo+hi) / 2 < xs.size:=by lia
   show(if xs.getD ((lo+hi) / 2) j < j then Th xs j fuel ((lo+hi) / 2+1) hi else Th xs j fuel lo ((lo+hi) / 2))<=xs.size/\_
   by_cases c:xs.getD ((lo+hi) / 2) j < j
   ·simp only [JL c];refine oQ up fuel _ _ (by lia) (by lia) hs (λi hi'=>?_) h2;rw[tQ hm j 0]at c;obtain g|g:=Lx i ((lo+hi) / 2)
    ·exact QP (up i _ g hm) c
    ·have e:i=(lo+hi) / 2:=by lia
     rw[e];exact c
   ·simp only [JK c];refine oQ up fuel _ _ (by lia) (by lia) (by lia) h1 λi hi' Yn=>?_;rw[tQ hm j 0]at c;obtain g|g:=Lx ((lo+hi) / 2) i
    ·exact Lb (by lia)<|K_<|up _ i g Yn
    ·have e:i=(lo+hi) / 2:=by lia
     rw[e];lia
  ·rw[JK h];have e:lo=hi:=by lia
   subst e;exact⟨hs,h1,h2⟩
def er(up:Up xs)(j:Nat):MJ xs j<=xs.size/\(∀i,i < MJ xs j->xs.getD i 0 < j)/\(∀i,MJ xs j<=i->i < xs.size->j<=xs.getD i 0):=
 oQ up xs.size 0 xs.size (by lia) (by lia) (by lia) (λi h=>by lia) (λi h h2=>by lia)
def lC(up:Up xs)(h:xs[i]? =B' j):MJ xs j=i:=by
 obtain⟨b1,b2,b3⟩:=er up j;obtain⟨hi,e⟩:=Kv.mp h;have e':xs.getD i 0=j:=by simp [Qi,hi,e]
 obtain g|g|g:=Nf (MJ xs j) i
 ·have:=b3 (MJ xs j) (Jh _) (by lia);have:=up _ _ g hi;lia
 ·exact g
 ·have:=b2 i g;lia
def rR(up:Up xs)(h:xs[i]? =B' j):MJ xs (j+1)=i+1:=by
 obtain⟨b1,b2,b3⟩:=er up<|j+1;obtain⟨hi,e⟩:=Kv.mp h;have e':xs.getD i 0=j:=by simp [Qi,hi,e]
 obtain g|g|g:=Nf (MJ xs<|j+1) (i+1)
 ·have:=b3 i (by lia) hi;lia
 ·exact g
 ·have:=b2 (i+1) g;have:=up i (i+1) (by lia) (by lia);lia
def rS(up:Up xs):MJ xs 0=0:=by
 obtain⟨b1,b2,b3⟩:=er up 0;obtain g|g:=UP (MJ xs 0)
 ·exact g
 ·have:=b2 0 g;lia
structure wG (t:SetTable):Prop where
 mask:t.mask=7\/t.mask=31
 dum:t.dummies=#[]
 up:Up t.place
 le:∀j∈t.place,j<=t.mask
 room:t.place.size<=t.mask
def jX(t:SetTable)(j:Nat):JJ:=t.place.contains j
def occ_iff:jX t j=Je↔∃i:Nat,t.place[i]? =B' j:=by
 unfold jX;rw[Np,SH]
def tR(j:Nat):has #[] j=false:=by
 unfold has;simp
def m6(T:wG t)(h:t.place[i]? =B' j):t.slot j=.live i:=by
 unfold slot;simp only [lC T.up h,h];simp
def lD(T:wG t)(j:Nat):(∃i,t.place[i]? =B' j/\t.slot j=.live i)\/(jX t j=Jg/\t.slot j=.empty):=by
 by_cases h:jX t j=Je
 ·obtain⟨i,hi⟩:=occ_iff.mp h;exact .inl ⟨i,hi,m6 T hi⟩
 ·refine .inr ⟨by simpa using h,?_⟩;unfold slot;have hn:¬(t.place[MJ t.place j]? == B' j)=true:=λz=>h<|occ_iff.mpr ⟨_,by simpa using z⟩;simp only [hn,T.dum,tR,La,JA]
theorem jG:∀(n:Nat) (l:IW Nat),(∀e,e < n->e∈l)->n<=l.length
 |0,_,_=>JQ _
 |n+1,l,h=>by
  have hm:=h n (by lia);have:=jG n (l.erase n) λe he=>(TL<|by lia).mpr (h e<|by lia);rw[RN hm]at this;have:0 < l.length:=SD hm;lia
def m9(T:wG t):∃e,e<=t.mask/\jX t e=false:=by
 by_cases h:∃e,e<=t.mask/\jX t e=Jg
 ·exact h
 ·exfalso;have:=jG (t.mask+1) t.place.toList λe he=>by
   cases c:jX t e with
   |true=>
    unfold jX at c;rw[Np]at c;exact NZ.mpr c
   |false=>exact absurd ⟨e,by lia,c⟩ h
  have:=T.room;simp at*;lia
def m_(m:Nat)(p:Pd):Pd:=
 if p.more > 0 then{p with j:=p.j+1,more:=p.more - 1}else
 {p with j:=(R3 m p.i p.perturb).1,more:=Qz m (R3 m p.i p.perturb).1 - (R3 m p.i p.perturb).1,i:=(R3 m p.i p.perturb).1,perturb:=(R3 m p.i p.perturb).2}
def ck(m:Nat):Nat->Pd->Pd
 |0,p=>p
 |k+1,p=>ck m k<|m_ m p
theorem cV(m:Nat):∀a b p,ck m (a+b) p=ck m b (ck m a p)
 |0,b,p=>by rw[Le];rfl
 |a+1,b,p=>by
  rw[UQ];exact cV m a b<|m_ m p
def start(m:Nat)(h:Int):Pd:={j:=bits h % (m+1),more:=Qz m (bits h % (m+1)) - bits h % (m+1),i:=bits h % (m+1),perturb:=bits h,dummy:=Ji}
theorem xK(t:SetTable)(h:Int):t.probeStart h=start t.mask h:=rfl
structure vG (m:Nat)(p:Pd):Prop where
 i:p.i<=m
 per:p.perturb < 2 ^ 64
 j:p.j+p.more=Qz m p.i
 ij:p.i<=p.j
 dum:p.dummy=Ji
def eA(h:i<=m):Qz m i<=m/\i<=Qz m i/\Qz m i<=i+9:=by
 unfold Qz;split<;>lia
def AZ(h:Int):bits h < 2 ^ 64:=by
 unfold bits;have:=KE h (show(0:Int) < 2 ^ 64 by decide);have:=KY h (show(2 ^ 64:Int)≠0 by decide);lia
def gg(m:Nat)(h:Int):vG m (start m h):=by
 have hi:bits h % (m+1)<=m:=Vs<|Xm _<|Vq _;have:=eA hi;exact⟨hi,AZ h,by show bits h % (m+1)+(Qz m (bits h % (m+1)) - bits h % (m+1))=_;simp only [start];lia,Jh _,rfl⟩
def oR(m i p:Nat):(R3 m i p).1<=m:=Vs<|Xm _<|Vq _
def xL(h:vG m p):vG m (m_ m p):=by
 obtain⟨h1,h2,h3,h4,h5⟩:=h;unfold m_;by_cases c:p.more > 0
 ·rw[JL c];exact⟨h1,h2,by simp only;lia,by simp only;lia,h5⟩
 ·rw[JK c];have hi:=oR m p.i p.perturb;have:=eA hi;refine⟨hi,?_,by simp only;lia,Jh _,h5⟩;exact Om (Nat.div_le_self _ _) h2
theorem iY:∀(k:Nat) {p:Pd},vG m p->vG m (ck m k p)
 |0,_,h=>h
 |k+1,_,h=>iY k<|xL h
def Ih(h:vG m p):p.j<=m:=by
 have:=(eA h.i).1;have:=h.j;lia
theorem kE:∀(n:Nat) {p:Pd},vG m p->p.more=n->∃k,k=n+1/\(ck m k p).i=(R3 m p.i p.perturb).1/\(ck m k p).perturb=(R3 m p.i p.perturb).2/\(ck m k p).j=(R3 m p.i p.perturb).1/\∀l,l<=n->(ck m l p).j=p.j+l
 |0,p,h,hn=>by
  exists 1,rfl;have e:m_ m p={p with j:=(R3 m p.i p.perturb).1,more:=Qz m (R3 m p.i p.perturb).1 - (R3 m p.i p.perturb).1,i:=(R3 m p.i p.perturb).1,perturb:=(R3 m p.i p.perturb).2}:=by
   unfold m_;rw[JK<|by lia]
  show(m_ m p).i=_/\(m_ m p).perturb=_/\(m_ m p).j=_/\_
  rw[e];refine⟨rfl,rfl,rfl,λl hl=>?_⟩;have:l=0:=by lia
  subst this;rfl
 |n+1,p,h,hn=>by
  have e:m_ m p={p with j:=p.j+1,more:=p.more - 1}:=by
   unfold m_;rw[JL<|by lia]
  obtain⟨k,hk,a1,a2,a3,a4⟩:=kE n (p:=m_ m p) (xL h) (by rw[e];simp only;lia);refine⟨k+1,by lia,?_,?_,?_,λl hl=>?_⟩
  ·show(ck m k<|m_ m p).i=_
   rw[a1,e]
  ·show(ck m k<|m_ m p).perturb=_
   rw[a2,e]
  ·show(ck m k<|m_ m p).j=_
   rw[a3,e]
  ·cases l with
   |zero=>rfl
   |succ l=>
    show(ck m l<|m_ m p).j=_
    rw[a4 l (by lia),e];simp only;lia
def dZ(m:Nat):Nat->Nat×Nat->Nat×Nat
 |0,q=>q
 |k+1,q=>dZ m k<|R3 m q.1 q.2
def tT(h:vG m p):p.more<=9:=by
 have:=eA h.i;have:=h.j;have:=h.ij;lia
theorem qm:∀(n:Nat) {p:Pd},vG m p->∃k,k<=10*(n+1)/\(ck m k p).j=(dZ m (n+1) (p.i,p.perturb)).1/\(ck m k p).i=(dZ m (n+1) (p.i,p.perturb)).1/\(ck m k p).perturb=(dZ m (n+1) (p.i,p.perturb)).2
 |0,p,h=>by
  obtain⟨k,hk,a1,a2,a3,_⟩:=kE p.more h rfl;have:=tT h;exact⟨k,by lia,a3,a1,a2⟩
 |n+1,p,h=>by
  obtain⟨k,hk,a1,a2,a3,_⟩:=kE p.more h rfl;have:=tT h;obtain⟨k2,hk2,b1,b2,b3⟩:=qm n (p:=ck m k p)<|iY k h;rw[a1,a2]at b1 b2 b3;refine⟨k+k2,by lia,?_,?_,?_⟩
  ·rw[cV];exact b1
  ·rw[cV];exact b2
  ·rw[cV];exact b3
theorem ng(m:Nat):∀a b q,dZ m (a+b) q=dZ m b (dZ m a q)
 |0,b,q=>by rw[Le];rfl
 |a+1,b,q=>by
  rw[UQ];exact ng m a b _
theorem nh(m:Nat):∀a q,(dZ m a q).2=q.2 / 32 ^ a
 |0,q=>by simp [dZ]
 |a+1,q=>by
  show(dZ m a<|R3 m q.1 q.2).2=_
  rw[nh m a];show q.2 / 32 / 32 ^ a=_
  rw[Nat.div_div_eq_div_mul,YY,Nat.mul_comm]
theorem qo(m:Nat):∀a q,q.1<=m->(dZ m a q).1<=m
 |0,_,h=>h
 |a+1,q,h=>qo m a _<|oR m _ _
def Fs(m:Nat):Nat->Nat->Nat
 |0,i=>i
 |k+1,i=>Fs m k<|(i*5+1) % (m+1)
theorem lE(m:Nat):∀a i,(dZ m a (i,0)).1=Fs m a i
 |0,_=>rfl
 |a+1,i=>by
  show(dZ m a<|R3 m i 0).1=Fs m a ((i*5+1) % (m+1))
  rw[<-lE m a];rfl
def Ii:∀i,i < 8->∀e,e < 8->∃k,k < 8/\Fs 7 k i=e:=by decide+kernel
def Gn:∀i,i < 32->∀e,e < 32->∃k,k < 32/\Fs 31 k i=e:=by decide+kernel
def nq(hm:m=7\/m=31)(h:vG m p)(he:e<=m):(∃n,13<=n+1/\n+1<=m+13/\(dZ m (n+1) (p.i,p.perturb)).1=e):=by
 have e0:dZ m 13 (p.i,p.perturb)=((dZ m 13 (p.i,p.perturb)).1,0):=by
  refine Vp rfl ?_;rw[nh];show p.perturb / 32 ^ 13=0
  have:=h.per;exact Nat.div_eq_of_lt (KD this<|by decide)
 have hl:=qo m 13 (p.i,p.perturb) h.i;have key:∃k,k < m+1/\Fs m k (dZ m 13 (p.i,p.perturb)).1=e:=by
  obtain rfl|rfl:=hm
  ·exact Ii _ (by lia) _ (by lia)
  ·exact Gn _ (by lia) _ (by lia)
 obtain⟨k,hk,ek⟩:=key;refine⟨12+k,by lia,by lia,?_⟩;rw[show 12+k+1=13+k by lia,ng,e0,lE];exact ek
def jY(hm:m=7\/m=31)(h:vG m p)(he:e<=m):∃k,k < 10*Xf m/\(ck m k p).j=e:=by
 obtain⟨n,h1,h2,h3⟩:=nq hm h he;obtain⟨k,hk,a1,_⟩:=qm n h;refine⟨k,?_,by rw[a1,h3]⟩;unfold Xf;lia
theorem tU(T:wG t)(hashAt:Nat->Int)(h:Int):∀k fuel p,k < fuel->jX t (ck t.mask k p).j=Jg->∃r,R1 t hashAt h fuel p=B' r
 |0,0,_,hk,_=>absurd hk (by lia)
 |_+1,0,_,hk,_=>absurd hk (by lia)
 |0,fuel+1,p,_,ho=>by
  obtain⟨i,hi,_⟩|⟨_,hs⟩:=lD T p.j
  ·have:jX t p.j=true:=occ_iff.mpr ⟨i,hi⟩;rw[show(ck t.mask 0 p).j=p.j from rfl,this]at ho;cases ho
  ·exact⟨.empty p.j p.dummy,by unfold R1;rw[hs]⟩
 |k+1,fuel+1,p,hk,ho=>by
  obtain⟨i,hi,hs⟩|⟨_,hs⟩:=lD T p.j
  ·by_cases c:(hashAt i == h)=Je
   ·exact⟨.candidate p.j i<|t.advance p,by unfold R1;rw[hs];simp only [c,Ms]⟩
   ·obtain⟨r,hr⟩:=tU T hashAt h k fuel (m_ t.mask p) (by lia) ho;exists r;unfold R1;rw[hs];simp only [c,La,JA];exact hr
  ·exact⟨.empty p.j p.dummy,by unfold R1;rw[hs]⟩
theorem tV(T:wG t)(hashAt:Nat->Int)(h:Int):∀fuel p r,p.dummy=Ji->R1 t hashAt h fuel p=B' r->
  ∃k,(∀l,l < k->∃i,t.place[i]? =B' (ck t.mask l p).j/\hashAt i≠h)/\
   ((r=.empty (ck t.mask k p).j Ji/\jX t (ck t.mask k p).j=Jg)\/∃i,t.place[i]? =B' (ck t.mask k p).j/\hashAt i=h/\r=.candidate (ck t.mask k p).j i (ck t.mask (k+1) p))
 |0,p,r,_,e=>by cases e
 |fuel+1,p,r,hd,e=>by
  unfold R1 at e;obtain⟨i,hi,hs⟩|⟨ho,hs⟩:=lD T p.j
  ·rw[hs]at e;by_cases c:(hashAt i == h)=Je
   ·simp only [c,Ms]at e;have e':=JN e;exact⟨0,λl hl=>absurd hl (by lia),.inr ⟨i,hi,by simpa using c,e'.symm⟩⟩
   ·simp only [c,La,JA]at e;have hd':(m_ t.mask p).dummy=none:=by
     unfold m_
     split<;>exact hd
    obtain⟨k,h1,h2⟩:=tV T hashAt h fuel (m_ t.mask p) r hd' e;refine⟨k+1,λl hl=>?_,h2⟩;cases l with
    |zero=>exact⟨i,hi,by simpa using c⟩
    |succ l=>exact h1 l (by lia)
  ·rw[hs]at e;have e':=JN e;exact⟨0,λl hl=>absurd hl (by lia),.inl ⟨by rw[<-e',hd];rfl,ho⟩⟩
def rT(T:wG t)(hashAt:Nat->Int)(h:Int)(hp:vG t.mask p):
  ∃r k,t.probe hashAt h p=B' r/\(∀l,l < k->∃i,t.place[i]? =B' (ck t.mask l p).j/\hashAt i≠h)/\
   ((r=.empty (ck t.mask k p).j Ji/\jX t (ck t.mask k p).j=Jg)\/∃i,t.place[i]? =B' (ck t.mask k p).j/\hashAt i=h/\r=.candidate (ck t.mask k p).j i (ck t.mask (k+1) p)):=by
 obtain⟨e,he,ho⟩:=m9 T;obtain⟨k,hk,ek⟩:=jY T.mask hp he;obtain⟨r,hr⟩:=tU T hashAt h k _ p hk (by rw[ek];exact ho);obtain⟨k2,h1,h2⟩:=tV T hashAt h _ p r hp.dum hr;exact⟨r,k2,hr,h1,h2⟩
def Path(oc:Nat->JJ)(m:Nat)(h:Int)(j:Nat):Prop:=∃k,(ck m k<|start m h).j=j/\∀l,l < k->oc (ck m l<|start m h).j=Je
def Path.mono(hp:Path oc m h j)(f:∀e,oc e=Je->oc' e=Je):Path oc' m h j:=by grind[Path]
def ins_get{α:Type}(xs:JF α)(hp:p<=xs.size)(x:α)(i:Nat):(Nb xs p x)[i]? =if i < p then xs[i]? else if i=p then B' x else xs[i - 1]?:=by
 rw[<-J0,SetTable.toList_insertAt];have hl:(xs.toList.take p).length=p:=by rw[J9,JB];lia
 by_cases h:i < p
 ·rw[JL h];simp [h,NU,hl,UT]
  try lia
 ·rw[JK h];by_cases e:i=p
  ·subst e;rw[JL rfl];simp [NU,hl]
   try lia
  ·rw[JK e];have e1:i - p=(i - 1 - p)+1:=by lia
   simp [NU,hl,h,e1]
   try (congr 1;lia)
def iZ{α:Type}(xs:JF α)(hp:p<=xs.size)(x:α):(Nb xs p x).size=xs.size+1:=by
 have:=(PV xs p x).length_eq;simpa using this
def up_iff:Up xs↔∀i k a b:Nat,i < k->xs[i]? =B' a->xs[k]? =B' b->a < b:=by
 constructor
 ·intro u i k a b hik ha hb;obtain⟨hi,ea⟩:=Kv.mp ha;obtain⟨hk,eb⟩:=Kv.mp hb;have:=u i k hik hk;simp [Qi,hi,hk,ea,eb]at this;exact this
 ·intro f i k hik hk;have hi:i < xs.size:=by lia
  have:=f i k xs[i] xs[k] hik (Km hi)<|Km hk;simp [Qi,hi,hk];exact this
def getD_some{xs:JF Nat}{i a:Nat}(h:xs[i]? =B' a):xs.getD i 0=a/\i < xs.size:=by
 obtain⟨hi,ea⟩:=Kv.mp h;exact⟨by simp [Qi,hi,ea],hi⟩
def Eo(T:wG t)(ho:jX t j=Jg):Up (Nb t.place (MJ t.place j) j):=by
 obtain⟨b1,b2,b3⟩:=er T.up j;have NJ:∀i a,t.place[i]? =B' a->(i < MJ t.place j->a < j)/\(MJ t.place j<=i->j < a):=λi a ha=>by
  obtain⟨e,hi⟩:=getD_some ha;refine⟨λc=>by have:=b2 i c;lia,λc=>?_⟩;have:=b3 i c hi;have Xw:a≠j:=λz=>by
   have:=occ_iff.mpr ⟨i,z▸ha⟩;rw[ho]at this;cases this
  lia
 have u:=up_iff.mp T.up;refine up_iff.mpr λi k a b hik ha hb=>?_;rw[ins_get _ b1]at ha hb;by_cases c1:i < MJ t.place j
 ·rw[JL c1]at ha;by_cases c2:k < MJ t.place j
  ·rw[JL c2]at hb;exact u i k a b hik ha hb
  ·rw[JK c2]at hb;by_cases c3:k=MJ t.place j
   ·rw[JL c3]at hb;have:=JN hb;have:=(NJ i a ha).1 c1;lia
   ·rw[JK c3]at hb;exact u i (k - 1) a b (by lia) ha hb
 ·rw[JK c1]at ha;have c2:¬k < MJ t.place j:=by lia
  rw[JK c2]at hb;have c3:¬k=MJ t.place j:=by lia
  rw[JK c3]at hb;by_cases c4:i=MJ t.place j
  ·rw[JL c4]at ha;have:=JN ha;have:=(NJ (k - 1) b hb).2 (by lia);lia
  ·rw[JK c4]at ha;exact u (i - 1) (k - 1) a b (by lia) ha hb
def A0(T:wG t)(ho:jX t j=Jg)(hj:j<=t.mask)(hr:t.place.size+1<=t.mask):
  t.put j=({t with place:=Nb t.place (MJ t.place j) j},MJ t.place j)/\wG {t with place:=Nb t.place (MJ t.place j) j}/\(∀e,jX {t with place:=Nb t.place (MJ t.place j) j} e=Je↔jX t e=Je\/e=j):=by
 obtain⟨b1,b2,b3⟩:=er T.up j;have T5:∀e,e∈Nb t.place (MJ t.place j) j↔e∈t.place\/e=j:=λe=>by
  rw[<-NZ,(PV t.place _ j).mem_iff];simp
 refine⟨?_,⟨T.mask,T.dum,Eo T ho,λe he=>?_,?_⟩,λe=>?_⟩
 ·unfold put;simp only [T.dum,tR,La,JA]
 ·obtain w|rfl:=(T5 e).mp he
  ·exact T.le e w
  ·exact hj
 ·show(Nb t.place (MJ t.place j) j).size<=t.mask
  rw[iZ _ b1];exact hr
 ·unfold jX;rw[Np,Np];exact T5 e
def lG:∀(l1 l2:IW Nat),l1.Nodup->l2.Nodup->(∀x,x∈l1↔x∈l2)->l1.Perm l2:=by grind
structure Own (m:Nat)(owner:JF (Jd Nat))(js:IW Nat)(hs:IW Int):Prop where
 size:owner.size=m+1
 len:js.length=hs.length
 le:∀j∈js,j<=m
 at_:∀j q:Nat,owner[j]? =B' (B' q)↔js[q]? =B' j
 path:∀(q:Nat) (h:Int) (j:Nat),hs[q]? =B' h->js[q]? =B' j->Path (λe=>js.contains e) m h j
def Own.none_iff(O:Own m owner js hs)(he:e<=m):(owner.getD e<|B' 0).isNone=Je↔js.contains e=false:=by
 have NJ:e < owner.size:=by rw[O.size];lia
 have e1:owner.getD e (B' 0)=owner[e]:=by simp [Qi,NJ]
 have e2:owner[e]? =B' owner[e]:=Km NJ;rw[e1];cases c:owner[e]with
 |none=>
  rw[c]at e2;simp only [Q8,true_iff];cases d:js.contains e with
  |false=>rfl
  |true=>
   obtain⟨q,hq⟩:=NI.mp<|Kd.mp d;have:=(O.at_ e q).mpr hq;rw[e2]at this;cases this
 |some q=>
  rw[c]at e2;have:=(O.at_ e q).mp e2;have h9:js.contains e=true:=Kd.mpr<|Jx this;rw[h9];simp
structure HA (m:Nat)(p:Pd):Prop where
 ok:vG m p
 ij:p.j=p.i
def run_next{m:Nat}{p:Pd}(R:HA m p):∃k,k=Qz m p.i+1 - p.i/\HA m (ck m k p)/\(ck m k p).i=(R3 m p.i p.perturb).1/\(ck m k p).perturb=(R3 m p.i p.perturb).2/\∀l,l < k->(ck m l p).j=p.i+l:=by
 obtain⟨k,hk,a1,a2,a3,a4⟩:=kE p.more R.ok rfl;have h3:=R.ok.j;have h4:=R.ij;have:=eA R.ok.i;refine⟨k,by lia,⟨iY k R.ok,by rw[a3,a1]⟩,a1,a2,λl hl=>?_⟩;rw[a4 l (by lia),h4]
theorem ny(O:Own m owner js hs):∀f p j,HA m p->Ow m owner f p.i p.perturb=B' j->
  ∃k,(ck m k p).j=j/\js.contains j=Jg/\j<=m/\∀l,l < k->js.contains (ck m l p).j=Je
 |0,p,j,_,e=>by cases e
 |f+1,p,j,R,e=>by
  unfold Ow at e;have hr:=eA R.ok.i;obtain⟨k0,hk0,R2,a1,a2,a3⟩:=run_next R;cases c:(Ky<|Qz m p.i+1 - p.i).find? (λk=>(owner.getD (p.i+k)<|B' 0).isNone)with
  |some k=>
   rw[c]at e;have e':p.i+k=j:=JN e;obtain⟨c1,c2,c3⟩:=List.find?_range_eq_some.mp c;have c2':k < Qz m p.i+1 - p.i:=LM.mp c2;refine⟨k,by rw[a3 k (by lia),e'],?_,by lia,λl hl=>?_⟩
   ·rw[<-e'];exact(O.none_iff<|by lia).mp c1
   ·rw[a3 l<|by lia];have h8:=c3 l hl;cases d:js.contains (p.i+l)with
    |true=>rfl
    |false=>
     have h9:=(O.none_iff (e:=p.i+l)<|by lia).mpr d;rw[h9]at h8;exact absurd h8 (by decide)
  |none=>
   rw[c]at e;have e':Ow m owner f (R3 m p.i p.perturb).1 (R3 m p.i p.perturb).2=B' j:=e;rw[<-a1,<-a2]at e';obtain⟨k,h1,h2,h3,h4⟩:=ny O f (ck m k0 p) j R2 e';refine⟨k0+k,by rw[cV];exact h1,h2,h3,λl hl=>?_⟩;obtain g|g:=Lx l k0
   ·rw[a3 l g];have:=Q_.mp c l (LM.mpr<|by lia);cases d:js.contains (p.i+l)with
    |true=>rfl
    |false=>exact absurd ((O.none_iff (e:=p.i+l)<|by lia).mpr d) this
   ·have:=h4 (l - k0) (by lia);rw[<-cV,show k0+(l - k0)=l by lia]at this;exact this
theorem tX(O:Own m owner js hs)(hm:e<=m)(he:js.contains e=Jg):∀n f i per,i<=m->n < f->(dZ m n (i,per)).1=e->∃j,Ow m owner f i per=B' j
 |n,0,_,_,_,hn,_=>absurd hn (by lia)
 |n,f+1,i,per,hi,hn,hl=>by
  unfold Ow;have hr:=eA hi;cases c:(Ky<|Qz m i+1 - i).find? (λk=>(owner.getD (i+k)<|B' 0).isNone)with
  |some k=>exact⟨i+k,rfl⟩
  |none=>
   cases n with
   |zero=>
    have e0:i=e:=hl;have:=Q_.mp c 0 (LM.mpr<|by lia);rw[OZ,e0]at this;exact absurd ((O.none_iff hm).mpr he) this
   |succ n=>exact tX O hm he n f _ _ (oR m i per) (by lia) hl
def kF(m:Nat)(NG:Jd (JF (Jd Nat)×Nat))(h:Int):Jd (JF (Jd Nat)×Nat):=do
 let (owner,k) <-NG
 let j <-Ow m owner (Xf m) (bits h % (m+1)) (bits h)
 pure (owner.setIfInBounds j<|B' k,k+1)
def vH(m:Nat)(h:Int):HA m (start m h):=⟨gg m h,rfl⟩
def xM(hm:m=7\/m=31)(O:Own m owner js hs)(h:Int)(hr:js.length<=m):
  ∃WO js',kF m (B' (owner,hs.length)) h=B' (WO,(hs++[h]).length)/\Own m WO js' (hs++[h]):=by
 obtain⟨e,he,ho⟩:∃e,e<=m/\js.contains e=false:=by
  by_cases c:∃e,e<=m/\js.contains e=Jg
  ·exact c
  ·exfalso;have:=jG (m+1) js λe he=>by
    cases d:js.contains e with
    |true=>exact Kd.mp d
    |false=>exact absurd ⟨e,by lia,d⟩ c
   lia
 obtain⟨n,n1,n2,n3⟩:=nq hm (gg m h) he;obtain⟨j,hj⟩:=tX O he ho (n+1) (Xf m) (bits h % (m+1)) (bits h) (gg m h).i (by unfold Xf;lia) n3;obtain⟨k,h1,h2,h3,h4⟩:=ny O (Xf m) (start m h) j (vH m h) hj;have hjl:j < owner.size:=by rw[O.size];lia
 have hnj:∀q,¬owner[j]? =B' (B' q):=λq z=>by
  have:=Kd.mpr<|Jx<|(O.at_ j q).mp z;rw[h2]at this;cases this
 refine⟨owner.setIfInBounds j<|B' hs.length,js++[j],?_,⟨?_,?_,?_,?_,?_⟩⟩
 ·unfold kF;show(do
   let j <-Ow m owner (Xf m) (bits h % (m+1)) (bits h)
   pure (owner.setIfInBounds j<|B' hs.length,hs.length+1))=_
  rw[hj,JC];rfl
 ·rw[RO];exact O.size
 ·rw[JC,JC,O.len];rfl
 ·intro a ha;obtain w|w:=JI.mp ha
  ·exact O.le a w
  ·rw[Jp.mp w];exact h3
 ·intro a q;rw[Array.getElem?_setIfInBounds];by_cases c:j=a
  ·subst c;rw[JL rfl,JL hjl];constructor
   ·intro z;have:hs.length=q:=by simpa using z
    subst this;rw[<-O.len,Ku<|Jh _,M1];rfl
   ·intro z;obtain g|g|g:=Nf q js.length
    ·rw[Kl g]at z;exact absurd ((O.at_ j q).mpr z)<|hnj q
    ·rw[g,O.len]
    ·rw[Lv<|by rw[JC,Kk];lia]at z;cases z
  ·rw[JK c,O.at_];constructor
   ·intro z;have:q < js.length:=(Jk.mp z).1;rw[Kl this];exact z
   ·intro z;obtain g|g|g:=Nf q js.length
    ·rw[Kl g]at z;exact z
    ·rw[g,Ku<|Jh _,M1]at z;have:j=a:=by simpa using z
     exact absurd this c
    ·rw[Lv<|by rw[JC,Kk];lia]at z;cases z
 ·have up:∀e,js.contains e=Je->(js++[j]).contains e=true:=λe he=>by
   rw[Kd]at he ⊢;exact Lp _ he
  intro q h' a hh ha;obtain g|g|g:=Nf q js.length
  ·rw[Kl g]at ha;rw[Kl<|by rw[<-O.len];exact g]at hh;exact(O.path q h' a hh ha).mono up
  ·rw[g,Ku<|Jh _,M1]at ha;rw[g,O.len,Ku<|Jh _,M1]at hh;have e1:j=a:=by simpa using ha
   have e2:h=h':=by simpa using hh
   subst e1 e2;exact⟨k,h1,λl hl=>up _<|h4 l hl⟩
  ·rw[Lv<|by rw[JC,Kk];lia]at ha;cases ha
theorem qp(hm:m=7\/m=31):∀WR hs owner js,Own m owner js hs->hs.length+WR.length<=m+1->
  ∃WO js',WR.foldl (kF m) (B' (owner,hs.length))=B' (WO,(hs++WR).length)/\Own m WO js' (hs++WR)
 |[],hs,owner,js,O,_=>⟨owner,js,by rw[KL];rfl,by rw[KL];exact O⟩
 |h::r,hs,owner,js,O,hl=>by
  obtain⟨o1,j1,e1,O1⟩:=xM hm O h (by rw[O.len];simp at hl;lia);obtain⟨o2,j2,e2,O2⟩:=qp hm r (hs++[h]) o1 j1 O1 (by simp at hl ⊢;lia);refine⟨o2,j2,?_,?_⟩
  ·rw[NL,e1,e2];simp
  ·rw[show hs++h::r=hs++[h]++r by simp];exact O2
theorem A4(m:Nat):Own m (WH (m+1) Ji) [] [] where
 size:=by simp
 len:=rfl
 le:=λ_ h=>nomatch h
 at_:=λj q=>by
  simp [Array.getElem?_replicate]
 path:=λq h j hh=>by simp at hh
def rV(hm:m=7\/m=31)(Po:JF Int)(hl:Po.size<=m+1):∃owner js,layClean m Po=B' owner/\Own m owner js Po.toList:=by
 obtain⟨o,j,e,O⟩:=qp hm Po.toList [] _ [] (A4 m) (by simpa using hl);refine⟨o,j,?_,by simpa using O⟩;unfold layClean;rw[<-Array.foldl_toList];show Option.map _ (Po.toList.foldl (kF m)<|B' (WH (m+1) Ji,([]:IW Int).length))=_
 rw[e];rfl
def vI(hm:m=7\/m=31)(finger moves:Nat)(led plain:JJ)(Po:JF Int)(hl:Po.size<=m):
  ∃t' Pa,laid m finger moves led plain Po=B' (t',Pa)/\t'.mask=m/\t'.led=led/\t'.plain=plain/\wG t'/\t'.place.size=Po.size/\Pa.toList.Perm (Ky Po.size)/\
   ∀(i q j:Nat) (h:Int),Pa[i]? =B' q->t'.place[i]? =B' j->Po[q]? =B' h->Path (jX t') m h j:=by
 obtain⟨owner,js,e,O⟩:=rV hm Po (by lia);have hjl:js.length=Po.size:=by rw[O.len];simp
 let f:Nat->Jd (Nat×Nat):=λj=>(owner.getD j Ji).map (j,·)
 let L:IW (Nat×Nat):=(Ky<|m+1).filterMap f
 have hf:∀j b,f j=B' b↔j=b.1/\owner[j]? =B' (B' b.2):=λj b=>by
  show(owner.getD j Ji).map (j,·)=B' b↔_
  have e1:owner.getD j Ji=(owner[j]?).getD none:=by simp [Lu]
  rw[e1];cases c:owner[j]? with
  |none=>simp
  |some o=>
   cases o with
   |none=>simp
   |some q=>
    simp;constructor
    ·rintro rfl;exact⟨rfl,rfl⟩
    ·rintro⟨a,b'⟩;exact Vp a b'
 have mem:∀b:Nat×Nat,b∈L↔js[b.2]? =B' b.1:=λb=>by
  show b∈(Ky<|m+1).filterMap f↔_
  rw[Kh];constructor
  ·rintro⟨j,_,hj⟩;obtain⟨rfl,h2⟩:=(hf j b).mp hj;exact(O.at_ _ _).mp h2
  ·intro h;have hj:=O.le b.1<|Jx h;exact⟨b.1,LM.mpr (by lia),(hf b.1 b).mpr ⟨rfl,(O.at_ _ _).mpr h⟩⟩
 have pw:L.Pairwise (λa b=>a.1 < b.1):=by
  refine List.pairwise_filterMap.mpr<|aaw (λ{a b} hab x hx y hy=>?_) List.pairwise_lt_range;have e1:=((hf a x).mp hx).1;have e2:=((hf b y).mp hy).1;lia
 have nd:(L.map (·.2)).Nodup:=by
  refine Ln.mpr<|Pj (λ{a b} ha hb hab=>?_) pw;intro z;have h1:=(mem a).mp ha;have h2:=(mem b).mp hb;rw[z,h2]at h1;have:=JN h1;lia
 have pm:(L.map (·.2)).Perm (Ky Po.size):=by
  refine lG _ _ nd List.nodup_range λx=>?_;rw[Ke,LM];constructor
  ·rintro⟨b,hb,rfl⟩;have:=(Jk.mp<|(mem b).mp hb).1;lia
  ·intro hx;exact⟨(js[x],x),(mem _).mpr (Jm<|by lia),rfl⟩
 have len:L.length=Po.size:=by
  have:=pm.length_eq;simpa using this
 have hoc:∀e,js.contains e=Je->(L.map (·.1)).toArray.contains e=true:=λe he=>by
  rw[Kd]at he;obtain⟨q,hq⟩:=NI.mp he;rw[Np,V5,Ke];exact⟨(e,q),(mem _).mpr hq,rfl⟩
 refine⟨{mask:=m,place:=(L.map (·.1)).toArray,dummies:=#[],finger,led,moves,plain},(L.map (·.2)).toArray,?_,rfl,rfl,rfl,⟨hm,rfl,up_iff.mpr λi k a b hik ha hb=>?_,λj hj=>?_,?_⟩,?_,pm,λi q j h hq hj hh=>?_⟩
 ·unfold laid;rw[e];rfl
 ·simp only [P_,JW]at ha hb;obtain⟨x,hx,rfl⟩:=Lm.mp ha;obtain⟨y,hy,rfl⟩:=Lm.mp hb;obtain⟨h1,rfl⟩:=Jk.mp hx;obtain⟨h2,rfl⟩:=Jk.mp hy;exact NK.mp pw i k h1 h2 hik
 ·simp only [V5,Ke]at hj;obtain⟨b,hb,rfl⟩:=hj;exact O.le _<|Jx<|(mem b).mp hb
 ·simp only [JH,Jc];lia
 ·simp only [JH,Jc];exact len
 ·simp only [P_,JW]at hq hj;obtain⟨x,hx,rfl⟩:=Lm.mp hq;obtain⟨y,hy,rfl⟩:=Lm.mp hj;rw[hx]at hy;obtain rfl:=JN hy;exact(O.path x.2 h x.1 (by rw[J0];exact hh)<|(mem x).mp<|Jx hx).mono hoc
structure PT (t:SetTable)(hs:IW Int):Prop where
 tab:wG t
 plain:t.plain=Je
 len:t.place.size=hs.length
 reach:∀(i:Nat) (h:Int) (j:Nat),hs[i]? =B' h->t.place[i]? =B' j->Path (jX t) t.mask h j
structure TT (t:SetTable)(hs:IW Int):Prop extends PT t hs where
 small:t.mask=7->hs.length<=4
 most:hs.length<=18
def A5(T:PT t hs):t.fits hs.length=true:=by
 unfold SetTable.fits;have:=T.tab.room;have e:t.fill<=t.mask:=by
  unfold fill;rw[T.tab.dum];simpa using this
 simp [T.len,e]
theorem xN(led:JJ):TT (.fresh 0 0 led) [] where
 tab:=⟨.inl rfl,rfl,λi k hik hk=>by simp [Tg]at hk,λj hj=>by simp [Tg]at hj,by simp [Tg]⟩
 plain:=rfl
 len:=rfl
 reach:=λi h j hh=>by simp at hh
 small:=λ_=>by simp
 most:=by simp
abbrev e_(es:JF (Int×IX)):IW Int:=es.toList.map (·.1)
def xO(es:JF (Int×IX))(hp:p<=es.size)(x:Int×IX)(i:Nat):(e_<|Nb es p x)[i]? =if i < p then(e_ es)[i]? else if i=p then B' x.1 else(e_ es)[i - 1]?:=by
 unfold e_;rw[JW,J0,ins_get es hp];by_cases c:i < p
 ·simp [c]
 ·by_cases d:i=p
  ·simp [d]
  ·simp [c,d]
def vJ(T:TT t (e_ es))(hn:es.size<=17){x:IX}(ho:jX t j=Jg)(hj:j<=t.mask)(hp:Path (jX t) t.mask h j):
  t.put j=({t with place:=Nb t.place (MJ t.place j) j},MJ t.place j)/\PT {t with place:=Nb t.place (MJ t.place j) j} (e_<|Nb es (MJ t.place j) (h,x))/\(Nb es (MJ t.place j) (h,x)).size=es.size+1/\MJ t.place j<=es.size:=by
 have hes:t.place.size=es.size:=by rw[T.len];simp
 obtain⟨b1,b2,b3⟩:=er T.tab.up j;have hb:MJ t.place j<=es.size:=by lia
 have hr:t.place.size+1<=t.mask:=by
  obtain e|e:=T.tab.mask
  ·have:=T.small e;simp at this;lia
  ·lia
 obtain⟨p1,p2,p3⟩:=A0 T.tab ho hj hr;have up:∀e,jX t e=Je->jX {t with place:=Nb t.place (MJ t.place j) j} e=true:=λe he=>(p3 e).mpr<|.inl he;refine⟨p1,⟨p2,T.plain,?_,λi h' a hh ha=>?_⟩,iZ _ hb _,hb⟩
 ·show(Nb t.place (MJ t.place j) j).size=_
  rw[iZ _ b1,hes];simp [iZ _ hb]
 ·rw[xO _ hb]at hh;have ha':(Nb t.place (MJ t.place j) j)[i]? =B' a:=ha;rw[ins_get _ b1]at ha';by_cases c:i < MJ t.place j
  ·rw[JL c]at hh ha';exact(T.reach i h' a hh ha').mono up
  ·rw[JK c]at hh ha';by_cases d:i=MJ t.place j
   ·rw[JL d]at hh ha';cases hh;cases ha';exact hp.mono up
   ·rw[JK d]at hh ha';exact(T.reach (i - 1) h' a hh ha').mono up
theorem xP{α:Type}(es:JF α):∀(l:IW Nat),(∀q∈l,q < es.size)->∀i:Nat,(l.filterMap λq=>es[q]?)[i]? =(l[i]?).bind λq=>es[q]?
 |[],_,i=>by simp
 |q::l,h,i=>by
  have hq:=h q JG;rw[N7,Km hq];cases i with
  |zero=>simp [hq]
  |succ i=>simpa using xP es l (λa ha=>h a<|Jy _ ha) i
def rW(T:PT t (e_ es))(hn:es.size=5):
  ∃t' Pa,t.relaid (es.map (·.1)) (grown es.size)=B' (t',Pa)/\t'.led=t.led/\Pa.toList.Perm (Ky es.size)/\(Pa.filterMap (es[·]?)).toList.Perm es.toList/\(Pa.filterMap (es[·]?)).size=es.size/\TT t' (e_ (Pa.filterMap (es[·]?))):=by
 have e31:sizeAbove (grown es.size) - 1=31:=by rw[hn];decide
 obtain⟨t',Pa,e,a1,a2,a3,a4,a5,a6,a7⟩:=vI (m:=31) (.inr rfl) t.finger (t.movedTo 31) t.led t.plain (es.map (·.1)) (by simp;lia);rw[Re]at a5 a6;have YF:∀q∈Pa.toList,q < es.size:=λq hq=>LM.mp<|a6.mem_iff.mp hq;have ag8:∀i,(Pa.filterMap (es[·]?))[i]? =(Pa[i]?).bind λq=>es[q]?:=λi=>by
  rw[<-J0,SG,xP es _ YF,J0]
 have V':(Pa.filterMap (es[·]?)).toList.Perm es.toList:=by
  rw[SG];refine(a6.filterMap _).trans ?_;rw[filterMap_getElem?_range]
 have hsz:(Pa.filterMap (es[·]?)).size=es.size:=by
  have:=V'.length_eq
  rwa [JB,JB]at this
 have WJ:(e_ (Pa.filterMap (es[·]?))).length=es.size:=by
  unfold e_;rw[Jc,JB,hsz]
 refine⟨t',Pa,?_,a2,a6,V',hsz,⟨⟨a4,a3.trans T.plain,?_,λi h j hh hj=>?_⟩,λz=>?_,?_⟩⟩
 ·unfold relaid;rw[e31];exact e
 ·rw[a5,WJ]
 ·unfold e_ at hh;rw[JW,J0,ag8]at hh;cases c:Pa[i]? with
  |none=>rw[c]at hh;cases hh
  |some q=>
   rw[c]at hh;obtain⟨v,hv,rfl⟩:=Lm.mp hh;rw[a1];refine a7 i q j v.1 c hj ?_;rw[Array.getElem?_map];have:es[q]? =B' v:=hv;rw[this];rfl
 ·rw[a1]at z;cases z
 ·rw[WJ];lia
def xQ(T:PT t hs)(h:t.tooFull=Jg)(hl:hs.length<=18):TT t hs:=by
 refine⟨T,λe=>?_,hl⟩;unfold tooFull fill at h;rw[T.tab.dum,T.len,e]at h;simp at h;lia
def A6(T:PT t hs)(h:t.tooFull=Je)(hl:hs.length<=18)(h7:t.mask=7->hs.length<=5):hs.length=5:=by
 unfold tooFull fill at h;rw[T.tab.dum,T.len]at h;simp at h;obtain e|e:=T.tab.mask
 ·rw[e]at h;have:=h7 e;lia
 ·rw[e]at h;lia
end TB
namespace SW
open PySem PySem.SetTable TB
def bA(w:JV):JJ:=w.params.followText "set-order"
def SetAt(w:JV)(h:J6)(S:I_)(es:JF (Int×IX))(ep:Nat):Prop:=
 ∃o t,h.get? S=B' o/\o.ExactSet/\o.data=.set es ep t/\TT t (e_ es)/\t.led=!bA w
def SetAt.typeIs{w:JV}{s:Ja}{S:I_}{es:JF (Int×IX)}{ep:Nat}(h:SetAt w s.heap S es ep):s.TypeIs (.ref S) "set":=let ⟨o,_,ho,hc,_⟩:=h;⟨o,ho,hc.1⟩
def SetAt.keep(x:SetAt w h S es ep)(k:∀o,h.get? S=B' o->h'.get? S=B' o):SetAt w h' S es ep:=
 let ⟨o,t,ho,r⟩:=x;⟨o,t,k o ho,r⟩
def SetAt.lt(x:SetAt w h S es ep):S < h.objs.size:=let ⟨_,_,ho,_⟩:=x;Jv ho
def hU(es:JF (Int×IX)):(e_ es).length=es.size:=by simp
def fG(T:PT t (e_ es)):t.fits es.size=true:=by
 have:=A5 T
 rwa [hU]at this
theorem lH{α:Type}:∀(l:IW α) (i:Nat) (h:i < l.length),(l[i]::l.eraseIdx i).Perm l
 |[],_,h=>absurd h (by simp)
 |a::l,0,_=>by simp
 |a::l,i+1,h=>by
  have z:=lH l i (by simpa using h);simp only [List.getElem_cons_succ,Sd];exact(abH a _ _).trans<|z.cons a
theorem nz{α:Type}(next:Nat->Nat):∀(n k:Nat) (left:IW α) (out:JF α),left.length=n->(U' next n k left out).toList.Perm (out.toList++left)
 |0,k,left,out,h=>by
  have:left=[]:=ME.mp h;subst this;unfold U';simp
 |n+1,k,left,out,h=>by
  have NJ:next k % left.length < left.length:=Xm _ (by lia)
  unfold U';rw[Jm NJ];refine(nz next n (k+1) _ _ (by rw[List.length_eraseIdx_of_lt NJ];lia)).trans ?_;rw[Kx,J1];refine Mm _ ?_;exact lH left _ NJ
def dr(w:JV)(S:I_)(es:JF (Int×IX))(ep:Nat):JF (Int×IX):=if bA w=Je then TX (w.params.setOrder S ep) es else es
def lI(w:JV)(S:I_)(es:JF (Int×IX))(ep:Nat):(dr w S es ep).toList.Perm es.toList:=by
 unfold dr
 split
 ·have:=nz (w.params.setOrder S ep) es.toList.length 0 es.toList #[] rfl;simpa [TX]using this
 ·exact .refl _
def iI(w:JV)(S:I_)(es:JF (Int×IX))(ep:Nat):(dr w S es ep).size=es.size:=by
 have:=(lI w S es ep).length_eq;simpa using this
def fe(h:Q (bA w) s):wpAny (JS prog w) A setsByText Q E s:=by
 unfold setsByText;exact IY<|RX<|Jl h
def At(w:JV)(t:SetTable)(slot i:Nat):Prop:=bA w=Je\/MJ t.place slot=i
def vK{S:I_}{es:JF (Int×IX)}{ep slot i:Nat}{o:Obj}{t:SetTable}{x:Int×IX}{Q:Jd (IX×Nat)->Ja->Prop}
  (ho:s.heap.get? S=B' o) (hd:o.data=.set es ep t) (T:TT t (e_ es)) (hl:t.led=!bA w) (ha:At w t slot i) (hx:(dr w S es ep)[i]? =B' x)
  (hQ:∀QU,At w t QU (i+1)->Q (B' (x.2,QU)) s):wpAny (JS prog w) A (U8 S slot i ep) Q E s:=by
 have hf:=fG T.toPT;unfold U8;refine IY<|LX ho hd hf ?_;refine IY<|fe ?_;by_cases b:bA w=Je
 ·unfold dr at hx;rw[JL b]at hx;rw[b]
  try dsimp only
  rw[JL rfl,JK<|by simp];refine IY ?_;unfold setWalk;refine IY<|LX ho hd hf ?_;refine IY<|fe ?_;rw[b]
  try dsimp only
  rw[JL rfl];refine IY<|RX<|Jl<|Jl ?_;show Q (((TX (w.params.setOrder S ep) es)[i]?).map _) s
  rw[hx];exact hQ slot<|.inl b
 ·have b':bA w=false:=by simpa using b
  unfold dr at hx;rw[JK b]at hx;rw[b']
  try dsimp only
  rw[JK<|by simp];have e:MJ t.place slot=i:=by
   obtain z|z:=ha
   ·exact absurd z b
   ·exact z
  have hi:i < es.size:=(Kv.mp hx).1;have hp:i < t.place.size:=by rw[T.len,hU];exact hi
  have hj:t.place[i]? =B' t.place[i]:=Km hp;show wpAny _ _ (if(!t.plain&&decide (es.size > 1))=Je then _ else _) _ _ _
  rw[T.plain];rw[JK<|by simp];show wpAny _ _ ((if(!t.led&&!es.isEmpty)=Je then _ else _) >>=_) _ _ _
  rw[hl,b'];rw[JK<|by simp];refine IY<|Jl<|Jl ?_;rw[e,hx,hj];exact hQ _<|.inr<|rR T.tab.up hj
def xR{S:I_}{es:JF (Int×IX)}{ep slot:Nat}{o:Obj}{t:SetTable}{Q:Jd (IX×Nat)->Ja->Prop}
  (ho:s.heap.get? S=B' o) (hd:o.data=.set es ep t) (T:TT t (e_ es)) (hl:t.led=!bA w) (ha:At w t slot es.size)
  (hQ:Q Ji s):wpAny (JS prog w) A (U8 S slot es.size ep) Q E s:=by
 have hf:=fG T.toPT;unfold U8;refine IY<|LX ho hd hf ?_;refine IY<|fe ?_;by_cases b:bA w=Je
 ·rw[b]
  try dsimp only
  rw[JL rfl,JK<|by simp];refine IY ?_;unfold setWalk;refine IY<|LX ho hd hf ?_;refine IY<|fe ?_;rw[b]
  try dsimp only
  rw[JL rfl];refine IY<|RX<|Jl<|Jl ?_;have e:(TX (w.params.setOrder S ep) es)[es.size]? =none:=by
   have z:=iI w S es ep;unfold dr at z;rw[JL b]at z;exact Nn (by lia)
  show Q (((TX (w.params.setOrder S ep) es)[es.size]?).map _) s
  rw[e];exact hQ
 ·have b':bA w=false:=by simpa using b
  rw[b']
  try dsimp only
  rw[JK<|by simp];have e:MJ t.place slot=es.size:=by
   obtain z|z:=ha
   ·exact absurd z b
   ·exact z
  show wpAny _ _ (if(!t.plain&&decide (es.size > 1))=Je then _ else _) _ _ _
  rw[T.plain];rw[JK<|by simp];show wpAny _ _ ((if(!t.led&&!es.isEmpty)=Je then _ else _) >>=_) _ _ _
  rw[hl,b'];rw[JK<|by simp];refine IY<|Jl<|Jl ?_;rw[e,Nn<|Jh _];exact hQ
def sn_next:Slot "set_iterator" "__next__" "set_iterator.__next__":=.of (owner:="set_iterator") (n:="__next__") (by rw[SN,P7];kernel_rfl) (by decide+kernel) (by decide+kernel) (by decide+kernel) (by first|exact .inl (by decide+kernel)|exact .inr<|by decide+kernel) (by rw[Tb];kernel_rfl)
def tY:Slot "set_iterator" "__iter__" "set_iterator.__iter__":=.of (owner:="set_iterator") (n:="__iter__") (by rw[SN,P7];kernel_rfl) (by decide+kernel) (by decide+kernel) (by decide+kernel) (by first|exact .inl (by decide+kernel)|exact .inr<|by decide+kernel) (by rw[Tb];kernel_rfl)
def tZ:W6 table "set_iterator.__next__"=B' Builtin.«set_iterator.__next__»:=VQ (by kernel_rfl)
def A7:W6 table "set_iterator.__iter__"=B' Builtin.«dict_keyiterator.__iter__»:=W5 (id':="dict_keyiterator.__iter__") (by kernel_rfl) rfl (by decide+kernel) (by kernel_rfl)
def qr:W6 table "set.__iter__"=B' Builtin.«frozenset.__iter__»:=W5 (id':="frozenset.__iter__") (by kernel_rfl) rfl (by decide+kernel) (by kernel_rfl)
def Cz:Manifest.owners.lookup (String.ofList ['r','o','t','a','r','e','t','i','_','t','e','s'].reverse)=B' Manifest.sig_set_iterator:=by kernel_rfl
def t7(a:IX):Xa "set_iterator.__next__" ⟨[a],[]⟩:=by
 unfold Xa;rw[XO (id:="set_iterator.__next__") (n:=['_','_','t','x','e','n','_','_']) (o:=['r','o','t','a','r','e','t','i','_','t','e','s']) (by kernel_rfl) Cz];kernel_rfl
def A8(a:IX):Xa "set_iterator.__iter__" ⟨[a],[]⟩:=by
 unfold Xa;rw[XO (id:="set_iterator.__iter__") (n:=['_','_','r','e','t','i','_','_']) (o:=['r','o','t','a','r','e','t','i','_','t','e','s']) (by kernel_rfl) Cz];kernel_rfl
def IsIt(h:J6)(I S:I_)(slot i n ep:Nat):Prop:=∃o,h.get? I=B' o/\o.cls=.type "set_iterator"/\o.data=.fields #[.int slot 0,.int i 0,.ref S,.int n 0,.int ep 0]
def IsIt.typeIs{s:Ja}{I S:I_}{slot i n ep:Nat}(h:IsIt s.heap I S slot i n ep):s.TypeIs (.ref I) "set_iterator":=let ⟨o,ho,hc,_⟩:=h;⟨o,ho,hc⟩
def IsIt.keep{slot:Nat}(x:IsIt h I S slot i n ep)(k:∀o,h.get? I=B' o->h'.get? I=B' o):IsIt h' I S slot i n ep:=let ⟨o,ho,r⟩:=x;⟨o,k o ho,r⟩
def A9{es:JF (Int×IX)}{ep slot i:Nat}{o:Obj}{t:SetTable}{x:Int×IX}{Q:Jd IX->Ja->Prop}(Xw:S≠I)
  (YE:IsIt s.heap I S slot i es.size ep) (ho:s.heap.get? S=B' o) (hd:o.data=.set es ep t) (T:TT t (e_ es)) (hl:t.led=!bA w) (ha:At w t slot i) (hx:(dr w S es ep)[i]? =B' x)
  (hQ:∀QU h',At w t QU (i+1)->IsIt h' I S QU (i+1) es.size ep->NQ I s.heap h'->Q (B' x.2) {s with heap:=h'}):
  wpAny (JS prog w) A (Pp<|.ref I) Q E s:=by
 obtain⟨oi,hoi,hci,hdi⟩:=id YE;have hf:=fG T.toPT;unfold Pp;refine IY<|RG<|RW (name:=I0 "__next__") YE.typeIs sn_next<|Nx sn_next YE.typeIs tZ ?_<|t7 _;unfold Builtin.«set_iterator.__next__»;refine IY<|Jl ?_;refine IY<|WY hoi hdi ?_;show wpAny _ _ (setEntries S >>=_) _ _ s
 refine IY<|QG ho hd hf ?_;rw[JK<|by simp];show wpAny _ _ (U8 S slot i ep >>=_) _ _ s
 refine IY<|vK ho hd T hl ha hx λQU ha'=>?_;show wpAny _ _ (W1 (.ref I) 0 (OL (QU:Int)) >>=_) _ _ s
 refine IY<|OJ hoi hdi (by simp) ?_;have h1:(s.heap.update I (MM (·.setIfInBounds 0 (OL (QU:Int))))).get? I=B' (MM (·.setIfInBounds 0 (OL (QU:Int))) oi):=Ld _ hoi<|Ox<|MW hdi _;have d1:=MW hdi (·.setIfInBounds 0 (OL (QU:Int)));show wpAny _ _ (W1 (.ref I) 1 (OL<|(i:Int)+1) >>=_) _ _ _
 refine IY<|OJ h1 d1 (by simp) ?_;have abv:IsIt ((s.heap.update I (MM (·.setIfInBounds 0 (OL (QU:Int))))).update I (MM (·.setIfInBounds 1 (OL<|(i:Int)+1)))) I S QU (i+1) es.size ep:=by
  refine⟨_,Ld _ h1<|Ox<|MW d1 _,?_,?_⟩
  ·rw[Rv,Rv];exact hci
  ·rw[MW d1];simp [OL]
 exact Jl ⟨_,rfl,Jl<|hQ QU _ ha' abv<|(Mh ..).trans (Mh ..)⟩
def Ep{I S:I_}{es:JF (Int×IX)}{ep slot:Nat}{o:Obj}{t:SetTable}{Q:Jd IX->Ja->Prop}(hh:A.handled=Ji)
  (YE:IsIt s.heap I S slot es.size es.size ep) (ho:s.heap.get? S=B' o) (hd:o.data=.set es ep t) (T:TT t (e_ es)) (hl:t.led=!bA w) (ha:At w t slot es.size)
  (hQ:∀h',Heap.ExtBut I s.heap h'->Q Ji {s with heap:=h'}):wpAny (JS prog w) A (Pp<|.ref I) Q E s:=by
 obtain⟨oi,hoi,hci,hdi⟩:=id YE;have hf:=fG T.toPT;unfold Pp;refine IY<|RG<|RW (name:=I0 "__next__") YE.typeIs sn_next<|Nx sn_next YE.typeIs tZ ?_<|t7 _;unfold Builtin.«set_iterator.__next__»;refine IY<|Jl ?_;refine IY<|WY hoi hdi ?_;show wpAny _ _ (setEntries S >>=_) _ _ s
 refine IY<|QG ho hd hf ?_;rw[JK<|by simp];show wpAny _ _ (U8 S slot es.size ep >>=_) _ _ s
 refine IY<|xR ho hd T hl ha ?_;show wpAny _ _ (W1 (.ref I) 2 .none >>=_) _ _ s
 refine IY<|OJ hoi hdi (by simp) ?_;show wpAny _ _ (newExc (.type "StopIteration") [] >>=_) _ _ _
 refine IY ?_;simp only [newExc,newTuple];refine IY (NO ?_<|by size_fits);refine IY (m:=W4 _ _)<|Wb (a:=NB) (by first|rfl|(simp only [W4];rfl)) ?_;refine NO ?_ (by size_fits);simp only [raiseNew];refine IY<|wpAny_handled ?_;rw[show A.in1.handled=Ji from hh];refine IY<|Jl<|wpAny_throw ?_;refine IY<|VL (T:="StopIteration") (b:=Je) ⟨_,JX _ rfl,rfl⟩ isSubtype_stop ?_;exact Jl<|hQ _<|((Mh ..).extBut.push _).push _
def A_{slot:Nat}(YE:IsIt s.heap I S slot i n ep)(h:Q (.ref I) s):wpAny (JS prog w) A (S_<|.ref I) Q E s:=by
 refine U5 YE.typeIs tY<|Nx tY YE.typeIs A7 ?_<|A8 _;show wpAny _ _ (ret<|.ref I) _ _ s
 exact Jl ⟨_,rfl,"set_iterator",_,YE.typeIs,sn_next.lookup,h⟩
def vL(hh:A.handled=Ji)(I S:I_)(Xw:S≠I)(es:JF (Int×IX))(ep:Nat):
  Walks prog w A I [I,S] [I] es.size (λi v=>∃x,(dr w S es ep)[i]? =B' x/\v=x.2)
   (λi h=>∃slot o t,IsIt h I S slot i es.size ep/\h.get? S=B' o/\o.ExactSet/\o.data=.set es ep t/\TT t (e_ es)/\t.led=!bA w/\At w t slot i) where
 sub:=λb hb=>by simp at hb;simp [hb]
 frame:=λ_ _ _ st hk=>by
  obtain⟨slot,o,t,h1,h2,h3⟩:=st;exact⟨slot,o,t,h1.keep λo e=>hk I (by simp) o e,hk S (by simp) o h2,h3⟩
 item:=λi s Q E hi st hQ=>by
  obtain⟨slot,o,t,h1,h2,h3,h4,h5,h6,h7⟩:=st;obtain⟨x,hx⟩:∃x,(dr w S es ep)[i]? =B' x:=⟨_,Km (by rw[iI];exact hi)⟩;refine A9 Xw h1 h2 h4 h5 h6 h7 hx λQU h' ha' abv VG=>?_;exact hQ x.2 h' s.toks ⟨x,hx,rfl⟩ ⟨QU,o,t,abv,VG.extBut S o Xw h2,h3,h4,h5,h6,ha'⟩ λb o' hb e=>VG.extBut b o' (λz=>hb (by simp [z])) e
 done:=λs Q E st hQ=>by
  obtain⟨slot,o,t,h1,h2,h3,h4,h5,h6,h7⟩:=st;exact Ep hh h1 h2 h4 h5 h6 h7 λh' he'=>hQ h' s.toks λb o' hb e=>he' b o' (λz=>hb<|by simp [z]) e
 self:=λ_ _ _ _ st hQ=>by
  obtain⟨slot,o,t,h1,_⟩:=st;exact A_ h1 hQ
def xS{Q:IX->Ja->Prop}(hS:SetAt w s.heap S es ep)
  (hQ:Q (.ref s.heap.objs.size) {s with heap:=s.heap.push {cls:=.type "set_iterator",data:=.fields #[.int 0 0,.int 0 0,.ref S,.int es.size 0,.int ep 0]}}):
  wpAny (JS prog w) A (S_<|.ref S) Q E s:=by
 have hT:=hS.typeIs;obtain⟨o,t,ho,hc,hd,T,hl⟩:=hS;have hf:=fG T.toPT;refine U5 hT Wx<|Nx Wx hT qr ?_<|F.args_set_iter_1 _;unfold Builtin.«frozenset.__iter__»;refine IY (m:=Yw "__iter__" _)<|Jl ?_;refine IY ?_;unfold Yd;refine IY<|QG ho hd hf<|Jl ?_;refine IY ?_;unfold setDrawn;refine IY<|LX ho hd hf ?_;refine IY<|fe<|Jl ?_;have e0:(!bA w&&(!t.plain&&decide (es.size > 1)))=false:=by rw[T.plain];simp
 show wpAny _ _ (if(!bA w&&(!t.plain&&decide (es.size > 1)))=Je then _ else _) _ _ _
 rw[e0,JK<|by simp];refine IY<|Jl ?_;refine IY<|wpAny_setEpoch_of ho hd hf ?_;refine IY<|NO<|Jl ⟨_,rfl,"set_iterator",_,⟨_,JX _ rfl,rfl⟩,sn_next.lookup,?_⟩;simpa [OL]using hQ
def Ba(T:wG t):At w t 0 0:=.inr<|rS T.up
inductive Two {α β:Type}(R:α->β->Prop):IW α->IW β->Prop
 |nil:Two R [] []
 |cons {a:α} {b:β} {as:IW α} {bs:IW β}:R a b->Two R as bs->Two R (a::as) (b::bs)
namespace Two
variable {α β:Type}
def len(h:Two R as bs):as.length=bs.length:=by
 induction h with
 |nil=>rfl
 |cons _ _ ih=>simp [ih]
def app(h:Two R as bs)(h':Two R as' bs'):Two R (as++as') (bs++bs'):=by
 induction h with
 |nil=>exact h'
 |cons x _ ih=>exact .cons x ih
def imp(h:Two R as bs)(f:∀a b,R a b->R' a b):Two R' as bs:=by
 induction h with
 |nil=>exact .nil
 |cons x _ ih=>exact .cons (f _ _ x) ih
def perm(p:bs.Perm bs'):∀{as:IW α},Two R as bs->∃as',as.Perm as'/\Two R as' bs':=by
 induction p with
 |nil=>intro as h;exact⟨as,.refl _,h⟩
 |cons x _ ih=>
  intro as h;cases h with
  |cons r t=>
   obtain⟨as',h1,h2⟩:=ih t;exact⟨_,h1.cons _,.cons r h2⟩
 |swap x y l=>
  intro as h;cases h with
  |cons r t=>
   cases t with
   |cons r' t'=>exact⟨_,.swap _ _ _,.cons r'<|.cons r t'⟩
 |trans _ _ ih1 ih2=>
  intro as h;obtain⟨a1,h1,h2⟩:=ih1 h;obtain⟨a2,h3,h4⟩:=ih2 h2;exact⟨a2,h1.trans h3,h4⟩
def at_{R:α->β->Prop}{as:IW α}{bs:IW β}(h:Two R as bs):∀{i:Nat} {b:β},bs[i]? =B' b->∃a,as[i]? =B' a/\R a b:=by
 induction h with
 |nil=>intro i b e;simp at e
 |cons x _ ih=>
  intro i b e;cases i with
  |zero=>simp at e;subst e;exact⟨_,rfl,x⟩
  |succ i=>simpa using ih (by simpa using e)
def mem(h:Two R as bs)(hb:b∈bs):∃a,a∈as/\R a b:=by
 obtain⟨i,hi⟩:=NI.mp hb;obtain⟨a,h1,h2⟩:=h.at_ hi;exact⟨a,Jx h1,h2⟩
end Two
def sz_line(h:n<=1000):n<=sizeLine:=by rw[Lf];lia
def xT(w:JV)(h:J6)(S:I_)(es:JF (Int×IX))(x:Int×IX)(h':J6):Prop:=
 NQ S h h'/\∃es' ep',SetAt w h' S es' ep'/\es'.toList.Perm (es.toList++[x])
def stored{h:J6}{S:I_}{o:Obj}{es es':JF (Int×IX)}{ep:Nat}{t t':SetTable}(ho:h.get? S=B' o)(hd:o.data=.set es ep t):
  (h.update S<|Xg es' t').get? S=B' {o with data:=.set es' (ep+1) t'}:=by
 have z:=Ld (Xg es' t') ho (by rw[putSet_of es' t' hd];rfl)
 rwa [putSet_of es' t' hd]at z
def xU(es:JF (Int×IX))(p:Nat)(x:Int×IX):(Nb es p x).toList.Perm (es.toList++[x]):=by
 have:=PV es p x
 rwa [Kx]at this
end SW
namespace SW
open PySem PySem.SetTable TB
abbrev TK(prog:Js)(w:JV)(h:J6)(ks:IW Int)(a:I_):Prop:=IsTupleKey (YN prog w) h ks a
def i_(h:ItemsAre (YN prog w) ks vs):∀v∈vs,∃n t,v=Ob n t:=by
 induction h with
 |nil=>intro v hv;simp at hv
 |cons h1 _ ih=>
  intro v hv;obtain rfl|hv:=J2.mp hv
  ·obtain⟨t,rfl⟩:=PU h1;exact⟨_,t,rfl⟩
  ·exact ih v hv
def nA(hk:TK prog w s.heap ks a)(h:Q Jg s):wpAny (JS prog w) A (Rn 8<|.ref a) Q E s:=by
 have hT:=hk.typeIs;obtain⟨o,items,n,ho,_,hd,hi⟩:=hk;unfold Rn;refine IY<|PN hT ?_;simp only [N9,↓LF];refine IY<|Jl ?_;simp only [M8,JA,↓LF];refine IY<|OK ho hd ?_;refine IY ?_;show wpAny _ _ (forIn items _ _) _ _ s
 rw[<-Px];refine RS _ (λMe r s'=>r.1=Ji/\s'=s/\∀v∈Me,∃n t,v=Ob n t) _ ?_ ?_ _ _ ⟨rfl,rfl,i_ hi⟩
 ·rintro v Me r s' ⟨hr,rfl,RB⟩;obtain⟨m,t,rfl⟩:=RB v JG;refine IY (m:=Rn 7<|.int m t)<|Jl ?_;exact Jl ⟨rfl,rfl,λu hu'=>RB u<|Jy _ hu'⟩
 ·rintro⟨r1,r2⟩ s' ⟨hr,rfl,_⟩;simp only at hr;subst hr;exact Jl h
def xV(hk:TK prog w s.heap ks a)(h:Q Je s):wpAny (JS prog w) A (Wg 8<|.ref a) Q E s:=by
 have hT:=hk.typeIs;obtain⟨o,items,n,ho,_,hd,hi⟩:=hk;unfold Wg;refine IY<|SM hT F.slot_tuple_hash.lookup ?_;show wpAny _ _ (VN (.ref a) >>=_) _ _ s
 refine IY<|OK ho hd ?_;refine IY ?_;show wpAny _ _ (forIn items _ _) _ _ s
 rw[<-Px];refine RS _ (λMe r s'=>r.1=Ji/\s'=s/\∀v∈Me,∃n t,v=Ob n t) _ ?_ ?_ _ _ ⟨rfl,rfl,i_ hi⟩
 ·rintro v Me r s' ⟨hr,rfl,RB⟩;obtain⟨m,t,rfl⟩:=RB v JG;refine IY (m:=Wg 7<|.int m t)<|Jl ?_;exact Jl ⟨rfl,rfl,λu hu'=>RB u<|Jy _ hu'⟩
 ·rintro⟨r1,r2⟩ s' ⟨hr,rfl,_⟩;simp only at hr;subst hr;exact Jl h
def xW{st:IW IX}(hk:TK prog w s.heap ks a)(hs:∀y∈st,∃b k,y=Kb b/\TK prog w s.heap k b)(h:Q Jg s):
  wpAny (JS prog w) A (U_ (.ref a) st) Q E s:=by
 unfold U_;refine IY ?_;refine RS _ (λMe r s'=>r.1=Ji/\s'=s/\∀y∈Me,∃b k,y=Kb b/\TK prog w s.heap k b) _ ?_ ?_ _ _ ⟨rfl,rfl,hs⟩
 ·rintro v Me r s' ⟨hr,rfl,RB⟩;obtain⟨b,k,rfl,hb⟩:=RB v JG;dsimp only;by_cases e:(a == b)=Je
  ·simp only [e,Y1,↓LF];exact Jl ⟨rfl,rfl,λu hu'=>RB u<|Jy _ hu'⟩
  ·have e':(a == b)=false:=by simpa using e
   simp only [e',carriedByValue,Yi,Bool.or_self,JA,↓LF];refine IY<|SX hk ?_;simp only [M8,JA,↓LF];refine IY<|SX hb ?_;simp only [M8,JA,↓LF];refine IY<|nA hk ?_;simp only [JA,↓LF];refine IY<|nA hb ?_;simp only [JA,↓LF];exact Jl ⟨rfl,rfl,λu hu'=>RB u<|Jy _ hu'⟩
 ·rintro⟨r1,r2⟩ s' ⟨hr,rfl,_⟩;simp only at hr;subst hr;exact Jl h
abbrev hT(prog:Js)(w:JV)(k:IW Int):Int:=tupleKeyHash (YN prog w) k
def RT(prog:Js)(w:JV)(h:J6)(k:IW Int)(e:Int×IX):Prop:=e.1=hT prog w k/\∃a,e.2=.ref a/\TK prog w h k a
theorem jZ{S a:I_}{es:JF (Int×IX)}{ep:Nat}{t:SetTable}{o:Obj}{us:IW (IW Int)}{k:IW Int}{Q:SetFound->Ja->Prop}(hu:A.units < MZ)
  (ho:s.heap.get? S=B' o) (hd:o.data=.set es ep t) (T:TT t (e_ es)) (hes:Two (RT prog w s.heap) us es.toList) (hk:TK prog w s.heap k a)
  (abj:k∈us->Q (.there Ji) s) (Zd:k∉us->∀j,jX t j=Jg->j<=t.mask->Path (jX t) t.mask (hT prog w k) j->Q (.free j Jg) s)
  (K:Nat) (hK:jX t (ck t.mask K<|start t.mask<|hT prog w k).j=Jg):
  ∀(n fuel k0:Nat) (Y':Jd Pd),K - k0=n->n < fuel->Y'.getD (start t.mask<|hT prog w k)=ck t.mask k0 (start t.mask<|hT prog w k)->
   (∀l,l < k0->∃i:Nat,t.place[i]? =B' (ck t.mask l<|start t.mask<|hT prog w k).j/\us[i]?≠B' k)->
   wpAny (JS prog w) A (XR S (.ref a) (hT prog w k) Je fuel Y') Q E s
 |n,0,k0,Y',hn,hf,_,_=>absurd hf (by lia)
 |n,fuel+1,k0,Y',hn,hf,S5,RB=>by
  have aeW:=fG T.toPT;have hk0:k0<=K:=by
   obtain g|g:=Lx K k0
   ·obtain⟨i,hi,_⟩:=RB K g;rw[occ_iff.mpr ⟨i,hi⟩]at hK;cases hK
   ·exact g
  have hsz:t.place.size=es.size:=by rw[T.len,hU]
  have nin:∀(i:Nat) (e:Int×IX),es[i]? =B' e->∃k',us[i]? =B' k'/\RT prog w s.heap k' e:=λi e he=>hes.at_ (by rw[J0];exact he);obtain⟨r,m,h1,h2,h3⟩:=rT T.tab (λi=>(es[i]?.map (·.1)).getD 0) (hT prog w k)<|iY k0<|gg t.mask<|hT prog w k;have aap:∀l,l < k0+m->∃i:Nat,t.place[i]? =B' (ck t.mask l<|start t.mask<|hT prog w k).j/\us[i]?≠B' k:=λl hl=>by
   obtain g|g:=Lx l k0
   ·exact RB l g
   ·obtain⟨i,hi,Xw⟩:=h2 (l - k0) (by lia);rw[<-cV,show k0+(l - k0)=l by lia]at hi;refine⟨i,hi,λz=>Xw ?_⟩;have Ue:i < es.size:=by rw[<-hsz];exact(Kv.mp hi).1
    obtain⟨k',e1,e2⟩:=nin i es[i]<|Km Ue;rw[z]at e1;have:k=k':=JN e1;subst this;rw[Km Ue];exact e2.1
  have gw:t.gaveWay=false:=by
   unfold SetTable.gaveWay;obtain e|e:=T.tab.mask<;>rw[e]<;>rfl
  unfold XR;refine IY<|LX ho hd aeW ?_;dsimp only;rw[gw];simp only [JA,↓LF];have hpr:t.probe (λi=>(es[i]?.map (·.1)).getD 0) (hT prog w k) (Y'.getD<|t.probeStart<|hT prog w k)=B' r:=by
   rw[xK,S5];exact h1
  erw [hpr]
  dsimp only;obtain⟨rfl,TV⟩|⟨i,hi,hh,rfl⟩:=h3
  ·dsimp only;rw[<-cV]at TV;have Yl:k∉us:=λhm=>by
    obtain⟨i,hi⟩:=NI.mp hm;have Ue:i < es.size:=by
     have:=(Jk.mp hi).1;have:=hes.len;simp at this;lia
    obtain⟨k',e1,e2⟩:=nin i es[i]<|Km Ue;rw[hi]at e1;have:k=k':=JN e1;subst this;have hp:t.place[i]? =B' t.place[i]:=Km (by lia);have hhs:(e_ es)[i]? =B' (hT prog w k):=by
     unfold e_;rw[JW,J0,Km Ue];simp [e2.1]
    obtain⟨q,ZU,hq2⟩:=T.reach i (hT prog w k) _ hhs hp;obtain g|g:=Lx q (k0+m)
    ·obtain⟨i2,Yn,Xw⟩:=aap q g;rw[ZU]at Yn;have:=(lC T.tab.up Yn).symm.trans<|lC T.tab.up hp;rw[this]at Xw;exact Xw hi
    ·obtain g|g:=Nat.eq_or_lt_of_le g
     ·rw[<-g]at ZU;rw[ZU,occ_iff.mpr ⟨i,hp⟩]at TV;cases TV
     ·have:=hq2 (k0+m) g;rw[TV]at this;cases this
   have z:=Zd Yl _ TV (Ih<|iY _<|gg _ _) ⟨k0+m,rfl,λl hl=>by
    obtain⟨i,hi,_⟩:=aap l hl;exact occ_iff.mpr ⟨i,hi⟩⟩
   rw[cV]at z;exact Jl z
  ·dsimp only;have Ue:i < es.size:=by rw[<-hsz];exact(Kv.mp hi).1
   have hei:es[i]? =B' es[i]:=Km Ue;obtain⟨k',e1,e2,b,e3,e4⟩:=nin i es[i] hei;have hK2:k0+m < K:=by
    obtain g|g|g:=Nf (k0+m) K
    ·exact g
    ·rw[<-cV,g]at hi;rw[occ_iff.mpr ⟨i,hi⟩]at hK;cases hK
    ·obtain⟨i2,Yn,_⟩:=aap K g;rw[occ_iff.mpr ⟨i2,Yn⟩]at hK;cases hK
   cases hld:t.led
   case' false=>
    simp only [TR,↓LF];refine IY<|xW hk (λy hy=>?_) ?_
    ·simp only [Ke,NZ,Array.mem_filter]at hy;obtain⟨e,⟨he,_⟩,rfl⟩:=hy;obtain⟨k2,_,_,b2,q1,q2⟩:=hes.mem<|NZ.mpr he;exact⟨b2,k2,q1,q2⟩
   all_goals
    simp only [M8,JA,↓LF];rw[hei];dsimp only;refine IY<|KN ?_;rw[e3];refine wpAny_eqBool_tuple hu e4 hk ?_;refine IY<|LX ho hd aeW ?_;dsimp only;by_cases hkk:k'=k
    ·subst hkk;rw[Jz rfl];simp only [Yi,↓LF];exact Jl<|abj<|Jx e1
    ·rw[Jj hkk];simp only [Kp,JA,↓LF];have hsm:t.sameMemory t.moves t.mask=B' true:=by
      unfold SetTable.sameMemory;simp
     rw[hsm];dsimp only;rw[m6 T.tab hi];simp only [↓LF];rw[hei];dsimp only;rw[e3];refine IY ?_;unfold isSame;simp only [N9,↓LF];refine Jl (IY<|Jl ?_)
     try dsimp only
     try simp only [JA,↓LF]
     rw[<-cV];refine jZ hu ho hd T hes hk abj Zd K hK (K - (k0+(m+1))) fuel (k0+(m+1)) _ rfl (by lia) rfl λl hl=>?_;obtain g|g:=Lx l (k0+m)
     ·exact aap l g
     ·have:l=k0+m:=by lia
      subst this;rw[cV];exact⟨i,hi,λz=>by
       rw[e1]at z;exact hkk (JN z).symm.symm⟩
section
def rX{Q:SU->Ja->Prop}(ho:s.heap.get? S=B' o)(hex:o.ExactSet)(hd:o.data=.set es ep t)(T:PT t (e_ es))(hn:es.size=5)(hl:t.led=!bA w)
  (h:∀h' es',NQ S s.heap h'->SetAt w h' S es' (ep+1)->es'.toList.Perm es.toList->Q () {s with heap:=h'}):wpAny (JS prog w) A (setRelay S<|grown es.size) Q E s:=by
 have hf:=fG T;obtain⟨t2,Pa,e,a1,a2,a3,a4,a5⟩:=rW T hn;unfold setRelay;refine IY<|LX ho hd hf ?_;dsimp only;rw[JK<|by rw[hn];decide+kernel];refine IY ?_;rw[e];show wpAny _ _ (if((Pa.filterMap (es[·]?)).size != es.size)=Je then _ else _) _ _ _
 rw[a4,JK<|by simp];refine Jl ?_;show wpAny _ _ (storeSet S (Pa.filterMap (es[·]?)) t2) _ _ _
 refine U4 ho hd ?_ (sz_line<|by lia);exact h _ _ (Mh ..) ⟨_,t2,stored ho hd,hex,rfl,a5,by rw[a1];exact hl⟩ a3
def t8{a:I_}{us:IW (IW Int)}{k:IW Int}{Q:JJ->Ja->Prop}(hu:A.units < MZ)(hS:SetAt w s.heap S es ep)
  (hes:Two (RT prog w s.heap) us es.toList) (hn:es.size<=17) (hk:TK prog w s.heap k a) (Um:k∈us->Q Jg s) (Wo:k∉us->∀h',xT w s.heap S es (hT prog w k,.ref a) h'->Q Je {s with heap:=h'}):
  wpAny (JS prog w) A (U9 S (.ref a)<|hT prog w k) Q E s:=by
 obtain⟨o,t,ho,hex,hd,T,hl⟩:=hS;have hf:=fG T.toPT;obtain⟨e,he,TV⟩:=m9 T.tab;obtain⟨K,hK,eK⟩:=jY T.tab.mask (gg t.mask<|hT prog w k) he;have hK5:K < 100000:=by
  unfold Xf at hK;obtain z|z:=T.tab.mask<;>rw[z]at hK<;>lia
 unfold U9 setAddHashedIn;refine KN<|IY<|LX ho hd hf ?_;dsimp only;have hbs:byScan (.ref a) es=false:=by simp [byScan,Value.scannable]
 rw[hbs];simp only [JA,↓LF];unfold setSearch;refine IY (jZ hu ho hd T hes hk (λYF=>?_) (λYl j f2 f3 f4=>?_) K (by rw[eK];exact TV) K 100000 0 Ji (by lia) hK5 rfl λl hl=>absurd hl<|by lia)
 ·dsimp only;exact Jl<|Um YF
 ·dsimp only;obtain⟨es1,t1,e1,e2,p2,hpm,SI,VD,p3⟩:∃es1 t1,(t.put j).1=t1/\Nb es (t.put j).2 (hT prog w k,.ref a)=es1/\PT t1 (e_ es1)/\es1.toList.Perm (es.toList++[(hT prog w k,.ref a)])/\t1.led=(!bA w)/\t1.mask=t.mask/\es1.size=es.size+1:=by
   obtain⟨p1,p2,p3,p4⟩:=vJ (x:=.ref a) T hn f2 f3 f4;rw[p1];exact⟨_,_,rfl,rfl,p2,xU _ _ _,hl,rfl,p3⟩
  refine IY<|LX ho hd hf ?_;dsimp only;rw[e1,e2,p2.plain];simp only [↓LF];refine IY<|xV hk ?_;simp only [↓LF,TR,Yg];refine IY (U4 ho hd ?_<|sz_line<|by lia);have g1:=stored (es':=es1) (t':=t1) ho hd;have ack:=Mh s.heap S<|Xg es1 t1;cases acA:t1.tooFull with
  |false=>
   simp only [JA,↓LF];exact Jl<|Wo Yl _ ⟨ack,es1,ep+1,⟨_,t1,g1,hex,rfl,xQ p2 acA (by rw[hU];lia),SI⟩,hpm⟩
  |true=>
   simp only [↓LF];have h5:es1.size=5:=by
    have:=A6 p2 acA (by rw[hU];lia) (λz=>by
     have:=T.small (by rw[<-VD];exact z);rw[hU]at this ⊢;lia)
    rwa [hU]at this
   rw[show es.size+1=es1.size by lia];refine IY<|rX g1 hex rfl p2 h5 SI λh' es' q1 q2 q3=>Jl ?_;exact Wo Yl _ ⟨ack.trans q1,es',_,q2,q3.trans hpm⟩
structure mC (prog:Js)(w:JV)(κ:Type) where
 is:J6->κ->IX->Prop
 hash:κ->Int
 room:J8->Prop
 keep:∀{h h':J6} {k:κ} {v:IX},is h k v->(∀b o,h.get? b=B' o->o.cls≠.type "set"->o.cls≠.type "list_iterator"->h'.get? b=B' o)->is h' k v
 pyHash:∀{A:J8} {E:IX->Ja->Prop} {s:Ja} {k:κ} {v:IX} {Q:Int->Ja->Prop},room A->is s.heap k v->(∀tk,Q (hash k) {s with toks:=tk})->wpAny (JS prog w) A (PySem.pyHash v) Q E s
 add:∀{A:J8} {E:IX->Ja->Prop} {s:Ja} {S:I_} {es:JF (Int×IX)} {ep:Nat} {us:IW κ} {k:κ} {v:IX} {Q:JJ->Ja->Prop},room A->SetAt w s.heap S es ep->
  Two (λk (e:Int×IX)=>e.1=hash k/\is s.heap k e.2) us es.toList->es.size<=17->is s.heap k v->(k∈us->Q Jg s)->(k∉us->∀h',xT w s.heap S es (hash k,v) h'->Q Je {s with heap:=h'})->
  wpAny (JS prog w) A (U9 S v<|hash k) Q E s
def Go(prog:Js)(w:JV):mC prog w (IW Int) where
 is:=λh k v=>∃a,v=.ref a/\TK prog w h k a
 hash:=hT prog w
 room:=λA=>A.units < MZ
 keep:=λ⟨a,e,o,items,n,ho,hc,r⟩ f=>⟨a,e,o,items,n,f a o ho (by rw[hc];decide) (by rw[hc];decide),hc,r⟩
 pyHash:=λhu ⟨a,e,h⟩ q=>by subst e;exact wpAny_pyHash_tuple hu h (q _)
 add:=λ{A E s S es ep us k v Q} hu hS hes hn hk ho hw=>by
  obtain⟨a,rfl,hk⟩:=hk;exact t8 hu hS hes hn hk ho hw
variable {κ:Type}
def Holds(C:mC prog w κ)(h:J6)(S:I_)(us:IW κ):Prop:=∃es ep,SetAt w h S es ep/\Two (λk (e:Int×IX)=>e.1=C.hash k/\C.is h k e.2) us es.toList/\us.Nodup
end
section
variable {κ:Type}
def qt{C:mC prog w κ}{h h':J6}{S:I_}{es:JF (Int×IX)}{us:IW κ}{k:κ}{v:IX}{o:Obj}(hS:h.get? S=B' o)(hc:o.cls=.type "set")(hes:Two (λk (e:Int×IX)=>e.1=C.hash k/\C.is h k e.2) us es.toList)(nd:us.Nodup)(hk:C.is h k v)(Yl:k∉us)(ha:xT w h S es (C.hash k,v) h'):
  ∃us',Holds C h' S us'/\(∀z,z∈us'↔z∈us\/z=k)/\us'.length=us.length+1:=by
 obtain⟨sb,es',ep',hat,pm⟩:=ha;have kp:∀{k:κ} {v:IX},C.is h k v->C.is h' k v:=λz=>C.keep z λb o' e1 e2 _=>(sb.2 b λe=>e2<|by rw[e,hS]at e1;rw[<-JN e1];exact hc).trans e1;have z:Two (λk (e:Int×IX)=>e.1=C.hash k/\C.is h' k e.2) (us++[k]) (es.toList++[(C.hash k,v)]):=(hes.imp λ_ _ q=>⟨q.1,kp q.2⟩).app<|.cons ⟨rfl,kp hk⟩ .nil;obtain⟨us',p1,p2⟩:=Two.perm pm.symm z;refine⟨us',⟨es',ep',hat,p2,p1.nodup_iff.mp ?_⟩,λx=>?_,?_⟩
 ·rw[P1];exact⟨nd,by simp,λa ha b hb=>by
   rw[Jp.mp hb];exact λe=>Yl<|e▸ha⟩
 ·rw[<-p1.mem_iff,JI,Jp]
 ·rw[<-p1.length_eq,JC];rfl
def xX(C:mC prog w κ)(hrm:C.room A.in1)(hh:A.in1.handled=Ji){h0:J6}{I S l:I_}{items:JF IX}{ks:IW κ}(hlI:l≠I)(hSI:S≠I)(hSl:S≠l)(hn:items.size<=18)(hks:ks.length=items.size)
  (hS0:∀o,h0.get? S=B' o->o.cls=.type "set") (hI0:∀o,h0.get? I=B' o->o.cls=.type "list_iterator") (WQ:∀(i:Nat) (v:IX),items[i]? =B' v->∃k,ks[i]? =B' k/\C.is h0 k v) {R:UG->Ja->Prop}:
  ∀(m i:Nat) (s:Ja) (us:IW κ),items.size - i=m->i<=items.size->s.heap.IsListIter I l i->s.heap.IsList l items->Holds C s.heap S us->(∀z,z∈us↔z∈ks.take i)->us.length<=i->
   (∀b o,b≠S->b≠I->h0.get? b=B' o->s.heap.get? b=B' o)->
   (∀h' tk us',Holds C h' S us'->(∀z,z∈us'↔z∈ks)->(∀b o,b≠S->b≠I->h0.get? b=B' o->h'.get? b=B' o)->R (.ok<|.ret .none) {s with heap:=h',toks:=tk})->
   codeAny (JS prog w) A (.builtin "set.update.loop" ⟨[.ref S,.ref I],[]⟩) R s:=by
 have W:=QX (prog:=prog) (w:=w) (A:=A.in1) hh I l hlI items;intro m
 induction m with
 |zero=>
  intro i s us hm hi Yy Mz Um T5 L_ TV hR;have e:i=items.size:=by lia
  subst e;refine LK O9 ?_;rw[Ll Mi _];refine IY (m:=Pp<|.ref I)<|W.done s _ _ ⟨Yy,Mz⟩ λh' tk hk=>Jl ?_;have Pk:∀b o,b≠I->s.heap.get? b=B' o->h'.get? b=B' o:=λb o hb e=>hk b o (by simpa using hb) e;refine hR h' tk us ?_ (λz=>by rw[T5,JY<|by lia]) λb o h1 h2 e=>Pk b o h2<|TV b o h1 h2 e;obtain⟨es,ep,a1,a2,a3⟩:=Um;refine⟨es,ep,a1.keep λo e=>Pk S o hSI e,a2.imp λ_ _ q=>⟨q.1,C.keep q.2 λb o e1 _ e3=>Pk b o (λz=>?_) e1⟩,a3⟩;subst z;obtain⟨o',g1,g2,_⟩:=Yy;rw[g1]at e1;exact e3 (by rw[<-JN e1];exact g2)
 |succ m ih=>
  intro i s us hm hi Yy Mz Um T5 L_ TV hR;have NJ:i < items.size:=by lia
  refine LK O9 ?_;rw[Ll Mi _];refine IY (m:=Pp<|.ref I)<|W.item i s _ _ NJ ⟨Yy,Mz⟩ λv h' tk hv LD hk=>?_;have Pk:∀b o,b≠I->s.heap.get? b=B' o->h'.get? b=B' o:=λb o hb e=>hk b o (by simpa using hb) e;obtain⟨k,hki,hkv⟩:=WQ i v hv;have adh:C.is h' k v:=C.keep hkv λb o e1 e2 e3=>Pk b o (λz=>e3<|hI0 o<|z▸e1)<|TV b o (λz=>e2<|hS0 o<|z▸e1) (λz=>e3<|hI0 o<|z▸e1) e1;obtain⟨es,ep,a1,a2,a3⟩:=Um;have a1':SetAt w h' S es ep:=a1.keep λo e=>Pk S o hSI e;have a2':Two (λk (e:Int×IX)=>e.1=C.hash k/\C.is h' k e.2) us es.toList:=a2.imp λ_ _ q=>⟨q.1,C.keep q.2 λb o e1 _ e3=>Pk b o (λz=>by
   subst z;obtain⟨o',g1,g2,_⟩:=Yy;rw[g1]at e1;exact e3<|by rw[<-JN e1];exact g2) e1⟩
  have hul:us.length=es.size:=by
   have:=a2'.len;simpa using this
  have Xu:∀z,z∈ks.take (i+1)↔z∈us\/z=k:=λz=>by
   rw[KQ,hki,JI,T5];simp
  refine IY<|KN ?_;unfold setAdd;refine KN<|IY<|C.pyHash hrm adh λYj=>?_;refine C.add (s:={s with heap:=h',toks:=Yj}) hrm a1' a2' (by lia) adh (λYF=>?_) λYl h2 haf=>?_
  ·refine Jl ⟨MK Mi _,ih (i+1) {s with heap:=h',toks:=Yj} us (by lia) NJ LD.1 LD.2 ⟨es,ep,a1',a2',a3⟩ (λz=>?_) (by lia) (λb o h1 h2 e=>Pk b o h2<|TV b o h1 h2 e) λh3 tk3 us3 b1 b2 b3=>hR h3 tk3 us3 b1 b2 b3⟩;rw[Xu];exact⟨.inl,λq=>q.elim id λe=>e▸YF⟩
  ·obtain⟨o',t',o1,o2,_⟩:=id a1';obtain⟨us2,c1,c2,c3⟩:=qt o1 o2.1 a2' a3 adh Yl haf;have sb:=haf.1;refine Jl ⟨MK Mi _,ih (i+1) {s with heap:=h2,toks:=Yj} us2 (by lia) NJ ?_ ?_ c1 (λz=>by rw[Xu,c2]) (by lia) (λb o h1 hbI e=>(sb.2 b h1).trans<|Pk b o hbI<|TV b o h1 hbI e) λh3 tk3 us3 b1 b2 b3=>hR h3 tk3 us3 b1 b2 b3⟩
   ·exact LD.1.at λo e=>(sb.2 I λz=>hSI z.symm).trans e
   ·exact LD.2.at λo e=>(sb.2 l λz=>hSl z.symm).trans e
end
section
variable {κ:Type}
def Bb(a:IX)(h:Q₁ (.ref s.heap.objs.size) {s with heap:=s.heap.push {cls:=.type "set",dict:=Ji,data:=.set #[] 0<|.fresh 0 0 (!bA w)}}):
  codeAny (JS prog w) A (.call (.builtin "set.__new__") ⟨[.type "set",a],[]⟩) (wants Q₁ E) s:=by
 refine SO<|IY (m:=OW "set.__new__" ⟨[.type "set",a],[]⟩)<|Wb (F.newCall_set_1 a)<|Jl ⟨MK Wy _,LK F.entry_set_new ?_⟩;rw[Ll Wy _];unfold Builtin.«set.__new__»;refine IY ?_;have hc:wpAny (JS prog w) A.in1 (Q4 "set" ⟨[.type "set",a],[]⟩) (λr s'=>r=(.type "set",[a])/\s'=s) E s:=by
  unfold Q4;have YB:=sub_set_self
  wp_walk
  exact⟨rfl,rfl⟩
 refine Kf hc (λr s' z=>?_) λe s' z=>z;obtain⟨rfl,rfl⟩:=z;refine IY ?_;unfold newSet;refine IY<|fe ?_;simp only [newObj];refine IY<|wpAny_alloc<|Jl ?_;exact Jl h
def call_set(C:mC prog w κ)(hrm:C.room A.in1.in1.in1)(hh:A.handled=Ji){l:I_}{items:JF IX}{ks:IW κ}{Q:IX->Ja->Prop}(hl:s.heap.IsList l items)(hn:items.size<=18)(hks:ks.length=items.size)
  (WQ:∀(i:Nat) (v:IX),items[i]? =B' v->∃k,ks[i]? =B' k/\C.is s.heap k v)
  (h:∀(h':J6) (tk:Nat) (us:IW κ),Holds C h' s.heap.objs.size us->(∀z,z∈us↔z∈ks)->(∀b o,s.heap.get? b=B' o->h'.get? b=B' o)->Q (.ref s.heap.objs.size) {s with heap:=h',toks:=tk}):
  wpAny (JS prog w) A (call (.type "set") [.ref l]) Q E s:=by
 obtain⟨c,tl,alm⟩:=F.called_set.mro;have aiW:=F.called_set.made;have YB:=F.called_set.sub;refine Qa<|SO ?_;show wpAny _ _ (callAny (.type "set") _) _ _ _
 refine Jl ⟨Pu _ (by decide+kernel),LK F.entry_type_call ?_⟩;rw[Around.under_plain (weight_type_call_type "set" [.ref l] []) rfl];have h1:=F.called_set.notType;have h2:=F.called_set.canCreate;have hct:=F.typeCall_set_1 (.ref l)
 repeat any_goals first|assumption|wp_step
 refine Oi (Bb (.ref l) (E:=E) (Q₁:=λobj s₁=>obj=.ref s.heap.objs.size/\s₁={s with heap:=s.heap.push ({cls:=.type "set",dict:=Ji,data:=.set #[] 0<|.fresh 0 0 (!bA w)}:Obj)}) ⟨rfl,rfl⟩) λr s₁ hr=>?_;cases r with
 |error e=>exact hr
 |ok fl=>
  cases fl with
  |ret obj=>
   obtain⟨rfl,rfl⟩:=hr;have hS:(s.heap.push ({cls:=.type "set",dict:=Ji,data:=.set #[] 0<|.fresh 0 0 (!bA w)}:Obj)).get? s.heap.objs.size=B' ({cls:=.type "set",dict:=Ji,data:=.set #[] 0<|.fresh 0 0 (!bA w)}:Obj):=JX _ rfl;have hT:Ui {s with heap:=s.heap.push ({cls:=.type "set",dict:=Ji,data:=.set #[] 0<|.fresh 0 0 (!bA w)}:Obj)} (.ref s.heap.objs.size) "set":=⟨_,hS,rfl⟩;have hli:=F.called_set.init.lookup;have hbi:=F.called_set.init.bind (.ref s.heap.objs.size)
   repeat any_goals first|assumption|wp_step
   refine Oi (Na (R:=wants (λr s₂=>r=.none/\∃h' tk us,s₂={s with heap:=h',toks:=tk}/\Holds C h' s.heap.objs.size us/\(∀z,z∈us↔z∈ks)/\(∀b o,s.heap.get? b=B' o->h'.get? b=B' o)) E) F.called_set.init.plain F.entry_set_init<|check_set_init_1 hT ?_) λr₂ s₂ hr₂=>?_
   ·obtain⟨ol,hol,T6,nl,hdl⟩:=hl;obtain⟨aj3,aed,aid,acN⟩:=ol;simp only at T6 hdl;subst T6 hdl;have agO:(s.heap.push ({cls:=.type "set",dict:=Ji,data:=.set #[] 0<|.fresh 0 0 (!bA w)}:Obj)).get? l=B' {cls:=.type "list",dict:=aed,data:=.seq items nl,slots:=acN}:=Jb _ hol;have ak8:=F.sub_list_set;have ak9:=F.sub_list_frozenset;have Xw:(ON "list" == ON "dict")=false:=by decide
    have SI:(s.heap.push ({cls:=.type "set",dict:=Ji,data:=.set #[] 0<|.fresh 0 0 (!bA w)}:Obj)).IsList l items:=⟨_,agO,rfl,nl,rfl⟩;have hlS:l < s.heap.objs.size:=Jv hol;have hz:(s.heap.push ({cls:=.type "set",dict:=Ji,data:=.set #[] 0<|.fresh 0 0 (!bA w)}:Obj)).objs.size=s.heap.objs.size+1:=by rw[PX]
    unfold Builtin.«set.__init__» noKeywords WA;generalize hPI:S_=PI
    wp_walk
    subst hPI;refine NN SI<|IY<|wpAny_runValue ?_;have g1:((s.heap.push ({cls:=.type "set",dict:=Ji,data:=.set #[] 0<|.fresh 0 0 (!bA w)}:Obj)).push {cls:=.type "list_iterator",data:=.fields #[.ref l,.int 0 0]}).get? s.heap.objs.size=B' ({cls:=.type "set",dict:=Ji,data:=.set #[] 0<|.fresh 0 0 (!bA w)}:Obj):=Jb _ hS;have g2:((s.heap.push ({cls:=.type "set",dict:=Ji,data:=.set #[] 0<|.fresh 0 0 (!bA w)}:Obj)).push {cls:=.type "list_iterator",data:=.fields #[.ref l,.int 0 0]}).get? (s.heap.push ({cls:=.type "set",dict:=Ji,data:=.set #[] 0<|.fresh 0 0 (!bA w)}:Obj)).objs.size=B' {cls:=.type "list_iterator",data:=.fields #[.ref l,.int 0 0]}:=JX _ rfl;refine xX C hrm (by simp [hh]) (h0:=(s.heap.push ({cls:=.type "set",dict:=Ji,data:=.set #[] 0<|.fresh 0 0 (!bA w)}:Obj)).push {cls:=.type "list_iterator",data:=.fields #[.ref l,.int 0 0]}) (l:=l) (items:=items) (ks:=ks) (by rw[hz];exact JO<|LC hlS) (by rw[hz];exact JO<|Nat.lt_succ_self _) (NS hlS) hn hks (λo e=>?_) (λo e=>?_) (λi v hv=>?_) (items.size - 0) 0 _ [] rfl (JQ _) ⟨_,g2,rfl,rfl⟩ (SI.push _) ⟨#[],0,⟨({cls:=.type "set",dict:=Ji,data:=.set #[] 0<|.fresh 0 0 (!bA w)}:Obj),_,g1,⟨rfl,rfl,rfl⟩,rfl,xN _,rfl⟩,.nil,TF⟩ (λz=>by simp) (Jh _) (λb o _ _ e=>e) λh' tk us b1 b2 b3=>?_
    ·rw[g1]at e;rw[<-JN e]
    ·rw[g2]at e;rw[<-JN e]
    ·obtain⟨k,q1,q2⟩:=WQ i v hv;exact⟨k,q1,C.keep q2 λb o e _ _=>Jb _<|Jb _ e⟩
    ·show wpAny _ _ _ _ _ _
     refine Jl ?_;show wpAny _ _ (ret NB) _ _ _
     refine Jl ⟨rfl,h',tk,us,rfl,b1,b2,λb o e=>b3 b o ?_ ?_<|Jb _<|Jb _ e⟩
     ·exact JO<|Jv e
     ·rw[hz];exact JO<|LC<|Jv e
   ·cases r₂ with
    |error e=>exact hr₂
    |ok fl₂=>
     cases fl₂ with
     |ret r=>
      obtain⟨rfl,h',tk,us,rfl,hS',hm',Pk⟩:=hr₂
      repeat any_goals first|assumption|wp_step
      exact h _ _ us hS' hm' Pk
     |_=>exact hr₂.elim
  |_=>exact hr.elim
end
section
variable {κ:Type}
def xY(hT:s.TypeIs (.ref r) "set")(h:Q Jg s):wpAny (JS prog w) A (QN<|.ref r) Q E s:=by
 unfold QN;refine IY<|SM hT PySem.F.slot_set_len.lookup ?_;generalize hid:("set.__len__":Mg)=id0
 wp_delta;rw[show splitId id0=B' ("set","__len__")from by subst hid;decide+kernel];subst hid
 refine IY<|VL (T:="set") (b:=Je) hT (by rw[Tb];kernel_rfl) ?_;refine Qw (λz=>absurd z<|by decide) λ_=>Qw (λ_=>?_) λz=>absurd (by decide+kernel) z;exact IY<|PN hT<|Jl h
theorem Bc:PySem.W.KdlSrc prog w "set" S S es.size (λi v=>∃x,(dr w S es ep)[i]? =B' x/\v=x.2) (λh=>SetAt w h S es ep) where
 type:=λ_ hm=>hm.typeIs
 there:=λ_ hm=>⟨hm.lt,hm.lt⟩
 keep:=λ_ _ hm hk=>hm.keep λo e=>hk S (.inl rfl) o e
 notList:=by decide
 notTuple:=by decide
 hint:=λ_ _ _ _ hm hq=>xY hm.typeIs hq
 iter:=λA s hh hm=>by
  obtain⟨o,t,ho,hc,hd,T,hl⟩:=id hm;refine⟨_,_,λ_ _ hq=>xS hm hq,vL hh s.heap.objs.size S (JO hm.lt) es ep,0,o,t,⟨_,JX _ rfl,rfl,rfl⟩,Jb _ ho,hc,hd,T,hl,Ba T.tab⟩
def Bd{C:mC prog w κ}{h:J6}{us:IW κ}{l:IW (Int×IX)}(t:Two (λk (e:Int×IX)=>e.1=C.hash k/\C.is h k e.2) us l):Two (λk v=>C.is h k v) us (l.map (·.2)):=by
 induction t with
 |nil=>exact .nil
 |cons r _ ih=>exact .cons r.2 ih
def collect_set(C:mC prog w κ)(hh:A.handled=Ji){R:IW IX->Ja->Prop}(hS:Holds C s.heap S us)(hn:us.length<=18)
  (h:∀h' tk vs us',(∀b o,s.heap.get? b=B' o->h'.get? b=B' o)->us'.Perm us->Two (λk v=>C.is s.heap k v) us' vs->R vs {s with heap:=h',toks:=tk}):
  wpAny (JS prog w) A (collect<|.ref S) R E s:=by
 obtain⟨es,ep,a1,a2,a3⟩:=hS;have hl:es.size=us.length:=by
  have:=a2.len;simp at this;lia
 refine QI (Bc (prog:=prog) (w:=w) (S:=S) (es:=es) (ep:=ep)) hh a1 (sz_line<|by lia) λh' tk NG hk YI=>?_;obtain⟨us',p1,p2⟩:=Two.perm (lI w S es ep).symm a2;refine h h' tk NG.toList us' hk p1.symm ?_;have e:NG.toList=(dr w S es ep).toList.map (·.2):=by
  refine OB λi=>?_;rw[JW,J0,J0];cases c:NG[i]? with
  |none=>
   have:NG.size<=i:=Array.getElem?_eq_none_iff.mp c;rw[Nn<|by rw[iI,<-YI.1];exact this];rfl
  |some v=>
   obtain⟨x,hx,rfl⟩:=YI.2 i v c;rw[hx];rfl
 rw[e];exact Bd p2
end
end SW
namespace SW
open PySem TB
def Holds.le{prog:Js}{w:JV}{κ:Type}{C:mC prog w κ}{h:J6}{S:I_}{us:IW κ}(x:Holds C h S us):us.length<=18:=by
 obtain⟨es,ep,⟨o,t,_,_,_,T,_⟩,a2,_⟩:=x;have h1:us.length=es.size:=by
  have z:=a2.len;simpa using z
 have h2:=T.most;rw[hU]at h2;rw[h1];exact h2
def Holds.nodup{prog:Js}{w:JV}{κ:Type}{C:mC prog w κ}{h:J6}{S:I_}{us:IW κ}(x:Holds C h S us):us.Nodup:=let ⟨_,_,_,_,n⟩:=x;n
end SW
namespace OD
open PySem L2
def dw(t:Str)(hw:JJ):IW Int:=((Ky t.length).filter λi=>fA t i == hw).map λ(i:Nat)=>(i:Int)+1
end OD
namespace L2
open PySem
section
variable {K:IZ}
def Be(e:X.K=K)(hc:X.calm=Je)(h:Fp X es t)(hn:(N4 es X.env).length=n:=by rfl)(S5:(N4 es X.env).findIdx? (·.1)=none:=by rfl):PG X (.Tuple es k pos) (Fz K n t):=by
 subst e;exact jy hc h hn S5
end
end L2
namespace L2
open PySem PySem.Spec PyProof.Rows
def CA(K:IZ):R2:=λx y H Q=>∃a b xs ys,x=.ref a/\y=.ref b/\SqT K H a xs/\SqT K H b ys/\xs.length+ys.length<=sizeLine/\
 (xs=[]->Q (.ref b) H)/\(xs≠[]->ys=[]->Q (.ref a) H)/\(xs≠[]->ys≠[]->∀p,H p=Ji->Q (.ref p) (upd H p<|.tup<|xs++ys))
def Bf:OpR X (Ot .Add) (CA X.K):=by
 intro Jf s σ H x y v u Q I rx ry h;obtain⟨a,b,xs,ys,rfl,rfl,ha,hb,hz,q1,q2,q3⟩:=h;by_cases hx:xs=[]
 ·cases rx;cases ry;obtain⟨Lj,r1,p1,_⟩:=I.tuple ha;obtain⟨aaB,r2,p2,_⟩:=I.tuple hb;have hw:=r1.nil_iff.mpr hx;obtain⟨⟨cls,dd,data,sl⟩,ho,hc,n,hd⟩:=id p1;obtain⟨⟨ahP,dd2,data2,sl2⟩,ho2,hc2,n2,Wp⟩:=id p2;simp only at hc hd hc2 Wp;subst hc hd hc2 Wp;exact Vc ⟨_,ho,rfl⟩ ⟨_,ho2,rfl⟩ RY Uh PZ PD (Pf _ _) (tuple_addW0 a b Lj.toArray aaB.toArray n n2 dd dd2 sl sl2<|by simp [hw]) ⟨ho,ho2,.ref b,H,I,rfl,q1 hx⟩
 ·exact AJ Jf s σ H _ _ v u Q I rx ry ⟨a,b,xs,ys,rfl,rfl,ha,hb,hx,hz,λz=>q2 hx z,λz=>q3 hx z⟩
end L2
namespace L2
open PySem
def vM(h:∀v p,e≠.Starred v p):J3 (e::es) env=(Jg,MC e env)::J3 es env:=by
 cases e<;>first|rfl|exact absurd rfl<|h _ _
@[irreducible] def PEi (X:Cx) (e:KJ) (t:TE):Prop:=PE X e t
@[irreducible] def PAi (X:Cx) (es:IW KJ) (t:TA):Prop:=PA X es t
def PEi.mk(h:PE X e te):PEi X e te:=by
 unfold PEi;exact h
def PAi.nil:PAi X [] ke:=by
 unfold PAi;exact ae
def PAi.cons(h:PEi X e te)(g:PAi X es t)(s:∀v p,e≠.Starred v p):PAi X (e::es) (pP te t):=by
 unfold PEi at h;unfold PAi at g ⊢;exact aa h g<|vM s
def PEi.lst(h:PAi X es t):PEi X (.List es pos) (rB t):=by
 unfold PAi at h;unfold PEi;exact aP h
def Er(ho:OpR X (Ot op) r)(ha:PE X a ta)(hb:PEi X b tb):PE X (.BinOp a op b pos) (mw r ta tb):=by
 unfold PEi at hb;exact aI ho ha hb
end L2
namespace SW
open PySem TB
def tupL(prog:Js)(w:JV)(L:I_->IW Int->Prop):mC prog w (IW Int) where
 is:=λh k v=>∃a,v=.ref a/\TK prog w h k a/\L a k
 hash:=hT prog w
 room:=λA=>A.units < MZ
 keep:=λ⟨a,e,h,l⟩ f=>by
  obtain⟨a',e',z⟩:=(Go prog w).keep (k:=_) (v:=.ref a) ⟨a,rfl,h⟩ f;cases e';exact⟨a,e,z,l⟩
 pyHash:=λhu ⟨a,e,h,_⟩ q=>(Go prog w).pyHash hu ⟨a,e,h⟩ q
 add:=λ{A E s S es ep us k v Q} hu hS hes hn hk ho hw=>by
  obtain⟨a,rfl,hk,_⟩:=hk;exact t8 hu hS (hes.imp λ_ _ z=>⟨z.1,let ⟨b,e,h,_⟩:=z.2;⟨b,e,h⟩⟩) hn hk ho hw
end SW
namespace L2
open PySem PySem.Spec PyProof.Rows
def ja(q:Int×Int):IW Int:=[q.1,q.2]
def lJ(h:ja a=ja b):a=b:=by
 unfold ja at h;simp at h;exact Vp h.1 h.2
def LP(H:Hp)(a:I_)(k:IW Int):Prop:=∃q:Int×Int,k=ja q/\H a=B' (.tup [.int q.1,.int q.2])
def vN(t:SW.Two (λk v=>(SW.tupL prog w<|LP H).is h k v) us vs):∃ps ts,us=ps.map ja/\Paired (PR H) ps ts/\Vals ts vs:=by
 induction t with
 |nil=>exact⟨[],[],rfl,.nil,.nil⟩
 |cons r _ ih=>
  obtain⟨ps,ts,e1,e2,e3⟩:=ih;obtain⟨a,rfl,_,q,rfl,hq⟩:=r;exact⟨q::ps,.ref a::ts,by rw[e1];rfl,.cons ⟨a,rfl,hq⟩ e2,.cons rfl e3⟩
def vO{ps:IW (Int×Int)}(h:(ps.map ja).Nodup):ps.Nodup:=by
 refine(Ln.mp h).imp λ{a b} hab e=>hab (by rw[e])
def mD(hc:X.calm=Je){B:Int}{Q:VK}(I:Inv X Jf σ H s)(hS:SW.Holds (SW.tupL X.prog X.w<|LP H) s.heap S us)
  (hB:∀k∈us,∀q,k=ja q->-B<=q.2/\q.2<=B)
  (q:∀l ts' ps',H l=Ji->(ps'.map ja).Perm us->(ps'.map<|Srt.lexKey B).Pairwise (·<=·)->Paired (PR H) ps' ts'->Q (.ref l) (upd H l<|.lst ts')):
  wpAny (JS X.prog X.w) X.A (call (.builtin "sorted") [.ref S]) (EP X Jf σ Q) X.xe s:=by
 have h18:=hS.le;refine O4 Ts Sw Sy (Vn _) ?_;unfold Builtin.«sorted»;refine IY (m:=Uy "sorted" 1 1 _)<|Jl ?_;refine IY<|SW.collect_set (A:=X.A.in1) (SW.tupL X.prog X.w<|LP H) (I.ok.hd hc) hS h18 λh' tk vs us' hkp hpm htw=>?_;obtain⟨ps,ts,e1,hps,rv⟩:=vN htw;have I1:Inv X Jf σ H {s with heap:=h',toks:=tk}:=I.kept hkp;have hpv:=jF I1 hps rv;have L_:vs.length=ps.length:=hpv.length;have T4:ps.length=us.length:=by rw[<-hpm.length_eq,e1,Jc]
 have htl:ts.length=ps.length:=(Paired.length hps).symm;refine IY (Ou ?_<|SW.sz_line<|by lia);have oL:(h'.push<|KP "list" vs.toArray 0).get? h'.objs.size=B' (KP "list" vs.toArray 0):=JX _ rfl;have kp:∀b o,h'.get? b=B' o->(h'.push<|KP "list" vs.toArray 0).get? b=B' o:=λb o e=>Jb _ e;have hB':∀q∈ps,-B<=q.2/\q.2<=B:=λq hq=>hB (ja q) (hpm.mem_iff.mp<|by rw[e1];exact N6 hq) q rfl;refine IY<|KN<|Nx Q6 ⟨_,oL,rfl⟩ QB (Srt.sort_pairs (s:={s with heap:=h'.push<|KP "list" vs.toArray 0,toks:=tk}) (B:=B) oL (hpv.stay λt o e _=>kp t o e) (by lia) hB' λix hix aeA=>⟨_,rfl,?_⟩)<|Tu _;refine Jl ⟨_,rfl,?_⟩;have YF:∀i∈ix,i < vs.length:=λi hi=>LM.mp<|hix.mem_iff.mp hi;obtain⟨e2,he2⟩:=Uj (out:=(ix.map λi=>vs.getD i .none).toArray) oL;have ag5:ix.length=vs.length:=by rw[hix.length_eq,Mk]
 refine⟨.ref h'.objs.size,_,I1.laid (o:=.lst<|ix.map λi=>ts.getD i .non) (t':=tk) (λb o eb=>?_) (Jh _) ⟨?_,ix.map λi=>vs.getD i .none,e2,?_,he2⟩,rfl,q _ _ (ix.map λi=>ps.getD i (0,0)) (I1.hok.fresh<|Jh _) ?_ aeA ?_⟩
 ·have hb:b < h'.objs.size:=Jv eb;rw[Tq (JO hb)<|by rw[Q7];exact LC hb];exact kp b o eb
 ·rw[Jc,ag5];exact K_ (aE<|by lia)
 ·exact hJ _ _ rv (λi hi=>by have:=YF i hi;lia)
 ·rw[L_]at hix;have z:=hix.map λi=>ps.getD i (0,0);rw[vC]at z;exact(z.map ja).trans (by rw[<-e1];exact hpm)
 ·exact hJ _ _ hps (λi hi=>by have:=YF i hi;lia)
def xZ:V->Hp->VK->Prop:=λx H Q=>∃(p:I_) (ts:IW V) (ps:IW (Int×Int)) (B:Int),x=.ref p/\H p=B' (.lst ts)/\Paired (PR H) ps ts/\ps.length<=18/\(∀q∈ps,-B<=q.2/\q.2<=B)/\
 ∀(l:I_) (ts':IW V) (ps':IW (Int×Int)),H l=Ji->ps'.Nodup->(∀q,q∈ps'↔q∈ps)->(ps'.map<|Srt.lexKey B).Pairwise (·<=·)->Paired (PR H) ps' ts'->Q (.ref l) (upd H l<|.lst ts')
def x_{p1 p2 q1 q2:Pos}(hu:X.A.units+64 < MZ)(hc:X.calm=Je)(hg1:Gl X "sorted")(VD:X.mg "sorted"=Ji)(hg2:Gl X "set")(UZ:X.mg "set"=Ji)(he:PE X e te)
  (hs:J3 [e] X.env=[(Jg,MC e X.env)]:=by rfl) (WR:J3 [.Call (.Name "set" p2) [e] [] q2] X.env=[(Jg,MC (.Call (.Name "set" p2) [e] [] q2) X.env)]:=by rfl):
  PE X (.Call (.Name "sorted" p1) [.Call (.Name "set" p2) [e] [] q2] [] q1) (λσ H Q=>te σ H λx H1=>xZ x H1 Q):=by
 intro Jf s σ H Q I h;refine LG<|eS I hg1 VD Od ?_;refine Qf ?_ WR rfl;rw[WR];show wpAny _ _ (YM<|(Jg,MC (.Call (.Name "set" p2) [e] [] q2) X.env)::Nh q1 (J3 [] X.env)) _ _ s
 refine Pw<|LG<|eS I hg2 UZ boot_set ?_;refine LZ (bV (aa he (ae (X:=X)) (by rw[hs];rfl) q2 Jf s σ H (xo λx H1=>xZ x H1 Q) I h) λus s1 ⟨vs,H1,I1,r1,q1'⟩=>?_) hs rfl;obtain⟨x,e1,p,ts,ps,B,rfl,hq,hps,h18,hB,q⟩:=iV q1';subst e1;obtain⟨u,rfl,ru⟩:=fk r1;cases ru;obtain⟨Lj,rv,pl,hz⟩:=I1.list<|SqL.of hq;have hpv:=jF I1 hps rv;have Ue:Lj.length=ps.length:=hpv.length;have htl:ts.length=ps.length:=(Paired.length hps).symm;refine SW.call_set (SW.tupL X.prog X.w<|LP H1) (by show X.A.in1.in1.in1.units < MZ;simp;lia) (I1.ok.hd hc) pl.isList (ks:=ps.map ja) (by simp;lia) (by simp [Ue]) (λi v hv=>?_) λh' tk us2 hS hm hk=>?_
 ·have ZT:Lj[i]? =B' v:=by simpa using hv
  have NJ:i < Lj.length:=(Jk.mp ZT).1;obtain⟨q0,e0,a0,r0,g0⟩:∃q0,ps[i]? =B' q0/\∃a,v=.ref a/\H1 a=B' (.tup [.int q0.1,.int q0.2]):=by
   obtain⟨tv,htv⟩:∃tv,ts[i]? =B' tv:=⟨_,Jm (by lia)⟩;obtain⟨v2,hv2,rv2⟩:=rv.get htv;rw[ZT]at hv2;cases hv2;obtain⟨q0,e0,a,ea,ha⟩:=OD.paired_get hps htv;subst ea;exact⟨q0,e0,a,rv2,ha⟩
  refine⟨ja q0,by rw[JW,e0];rfl,a0,r0,?_,q0,rfl,g0⟩;obtain⟨aaB,rv2,⟨o,z1,z2,n,z3⟩,_⟩:=I1.tuple<|SqT.of g0;obtain⟨u1,u2,rfl,⟨t1,rfl⟩,⟨t2,rfl⟩⟩:=tz rv2;exact⟨o,_,n,z1,z2,z3,.cons (intKind_is _ _ _ _)<|.cons (intKind_is _ _ _ _) .nil⟩
 ·have I2:Inv X Jf σ H1 {s1 with heap:=h',toks:=tk}:=I1.kept hk;refine Rw<|mD (B:=B) hc I2 hS (λk hk2 q0 e0=>?_) λl ts' ps' h1 h2 h3 h4=>q l ts' ps' h1 (vO<|h2.nodup_iff.mpr hS.nodup) (λq0=>?_) h3 h4
  ·obtain⟨q2,m1,m2⟩:=Ke.mp<|(hm k).mp hk2;rw[e0]at m2;rw[<-lJ m2];exact hB q2 m1
  ·constructor
   ·intro hq0;obtain⟨q2,m1,m2⟩:=Ke.mp<|(hm _).mp<|h2.mem_iff.mp<|N6 (f:=ja) hq0;rw[<-lJ m2];exact m1
   ·intro hq0;obtain⟨q2,m1,m2⟩:=Ke.mp<|h2.mem_iff.mpr<|(hm _).mpr<|N6 (f:=ja) hq0;rw[<-lJ m2];exact m1
end L2
namespace KA
open PySem PyProof.Rows
def But(h0 h:J6)(a k:I_):Prop:=∀b o,b≠a->b≠k->h0.get? b=B' o->h.get? b=B' o
def But.upA(k:But h0 h a kS)(f:Obj->Obj):But h0 (h.update a f) a kS:=λb o h1 h2 q=>(J7 _ _<|Ma h1).trans<|k b o h1 h2 q
def But.upK(k:But h0 h a kS)(f:Obj->Obj):But h0 (h.update kS f) a kS:=λb o h1 h2 q=>(J7 _ _<|Ma h2).trans<|k b o h1 h2 q
def CF{st:Li}(kp:But h0 s.heap a kS)(nk:s.heap.get? kS=B' (KP "list" QJ e))(na:s.heap.get? a=B' (KP "list" #[] e1))(hka:kS≠a)
  (hk:Nd QJ.toList kz) (L_:kz.length=vs.length) (Y5:vs.length < 64) (hp:(JZ st).Perm (QJ.zip vs.toArray)) (hs:Lz (JZ st) (JZ st).size) (hfl:MD st=Ji)
  (h:∀h' tk out c,But h0 h' a kS->h'.get? a=B' (KP "list" out c)->YW Jg kz vs out.toList->P (.done<|.ret .none) {s with heap:=h',toks:=tk}):
  wpAny (JS prog w) A (ksk_tail a Jg e1 (.ref kS) st) P E s:=by
 have hsz:QJ.size=vs.length:=by
  have h1:=hk.length;rw[JB]at h1;lia
 have hsz2:(JZ st).size=vs.length:=by rw[hp.size_eq,Xr,hsz,JH,YZ]
 have na1:(s.heap.update kS<|K' λ_=>(#[]:JF IX)).get? a=B' (KP "list" #[] e1):=(J7 _ _ hka).trans na;obtain⟨c2,hc2⟩:∃c2,((s.heap.update kS (K' λ_=>(#[]:JF IX))).update a (K' λ_=>(JZ st).map (·.2))).get? a=B' (KP "list" ((JZ st).map (·.2)) c2):=
  ⟨_,Pn na1 λ_=>(JZ st).map (·.2)⟩
 unfold ksk_tail
 try dsimp only
 refine IY<|Nt nk rfl ?_ (by rw[hsz,Lf];lia)<|JQ _;refine IY<|Rk ?_;refine IY<|PF na1 rfl ?_;refine IY (Nt na1 rfl ?_ (JQ _)<|by simp only [JA,La,Re];rw[hsz2,Lf];lia);rw[hfl];simp only [PM,JA,La];have ko:=ksk_out (b:=Jg) hk hp hs;simp only [JA,La]at ko;exact Jl<|h _ _ _ c2 ((kp.upK _).upA _) hc2 ko
def Ij(kp:But h0 s.heap a kS)(nk:s.heap.get? kS=B' (KP "list" QJ e))(na:s.heap.get? a=B' (KP "list" #[] e1))(hka:kS≠a)
  (hk:Nd QJ.toList kz) (L_:kz.length=vs.length) (Y5:vs.length < 64)
  (h:∀h' tk out c,But h0 h' a kS->h'.get? a=B' (KP "list" out c)->YW Jg kz vs out.toList->P (.done<|.ret .none) {s with heap:=h',toks:=tk}):
  wpAny (JS prog w) A (ksk_end a Jg vs.toArray e1 (.ref kS) QJ) P E s:=by
 have hsz:QJ.size=vs.length:=by
  have h1:=hk.length;rw[JB]at h1;lia
 have hzs:(QJ.zip vs.toArray).size=vs.length:=by rw[Xr,hsz,JH,YZ]
 unfold ksk_end
 try dsimp only
 simp only [JA,La];by_cases h2:vs.toArray.size < 2
 ·rw[JL h2,JL h2];refine IY<|Jl ?_;rw[Wq];refine IY (Jl ?_)
  try dsimp only
  refine CF (st:=Qg general' (QJ.zip vs.toArray) #[] 7 Ji) kp nk na hka hk L_ Y5 (QF _) ?_ rfl h;intro i j hij hj;have hj2:j < (QJ.zip vs.toArray).size:=hj;rw[hzs]at hj2;rw[JH]at h2;have:i=j:=by lia
  subst this;exact Lg _
 ·rw[JK h2,JK h2];rw[JH]at h2;rw[ksk_kind hk<|by rw[hsz];lia];refine IY<|Jl ?_;refine IY (Kf (wpS_sortRuns (a₀:=QJ.zip vs.toArray) (st:=Qg Pg (QJ.zip vs.toArray) #[] 7 Ji)
   (Q:=λ_ LD=>(JZ LD).Perm (QJ.zip vs.toArray)/\MD LD=Ji/\Lz (JZ LD) (QJ.zip vs.toArray).size)
   (ksk_intKeys hk) ⟨QF _,rfl,rfl,rfl⟩ (by rw[hzs];lia) (by rw[hzs];exact Y5) λLD a1 a2 a3=>⟨a1,a2,a3⟩) ?_ λ_ _ e=>e)
  rintro⟨⟨⟩,LD⟩ s' ⟨rfl,hp,hf,hs⟩
  try dsimp only
  exact CF kp nk na hka hk L_ Y5 hp (by rw[hp.size_eq];exact hs) hf h
def Gp{f:IX}(kp:But h0 s.heap a kS)(nk:s.heap.get? kS=B' (KP "list" #[] 0))(na:s.heap.get? a=B' (KP "list" #[] e1))(hka:kS≠a)
  (L_:kz.length=vs.length) (Y5:vs.length < 64)
  (Yx:∀(i:Nat) (v:IX) (k:Int),vs[i]? =B' v->kz[i]? =B' k->∀(h:J6) (tk:Nat) (R:IX->Ja->Prop),(∀Yj t2,R (.int k t2) {s with heap:=h,toks:=Yj})->
   wpAny (JS prog w) A (call f [v]) R (λ_ _=>False) {s with heap:=h,toks:=tk})
  (h:∀h' tk out c,But h0 h' a kS->h'.get? a=B' (KP "list" out c)->YW Jg kz vs out.toList->P (.done<|.ret .none) {s with heap:=h',toks:=tk}):
  wpAny (JS prog w) A (ksk_rest a f Jg vs.toArray e1<|.ref kS) P E s:=by
 unfold ksk_rest;refine IY<|MV ?_
 first
  |rw[List.forIn_toArray]
  |(rw[<-Px];simp only [Ub])
  |rw[<-Px]
 refine IY (ksk_fold (λi s'=>∃h' tk kA e,s'={s with heap:=h',toks:=tk}/\But h0 h' a kS/\h'.get? kS=B' (KP "list" kA e)/\h'.get? a=B' (KP "list" #[] e1)/\Nd kA.toList (kz.take i)) vs 0 s
  ⟨s.heap,s.toks,#[],0,rfl,kp,nk,na,by simpa using IntsAre.nil⟩ ?step ?done)
 case step=>
  rintro j x s' hx ⟨h',tk,kA,e,rfl,F',nk',na',hk⟩;simp only [Le]at hk ⊢;have hj:j < vs.length:=(Jk.mp hx).1;obtain⟨k,hkj⟩:∃k,kz[j]? =B' k:=⟨_,Jm (by lia)⟩;have hz:kA.size<=vs.length:=by
   have h1:=hk.length;rw[JB,J9]at h1;lia
  refine IY<|RG<|Kf (Yx j x k hx hkj h' tk (λv s''=>∃Yj t2,v=.int k t2/\s''={s with heap:=h',toks:=Yj}) λYj t2=>⟨Yj,t2,rfl,rfl⟩) (λv s'' he=>?_) λ_ _ hF=>hF.elim;obtain⟨Yj,t2,rfl,rfl⟩:=he
  try dsimp only
  obtain⟨c2,hc2⟩:∃c2,(h'.update kS (K' (·.push (.int k t2)))).get? kS=B' (KP "list" (kA.push (.int k t2)) c2):=⟨_,Pn nk' (·.push (.int k t2))⟩;have ek:kz.take (j+1)=kz.take j++[k]:=by rw[KQ,hkj];simp
  have ea:(kA.push<|Ob k t2).toList=kA.toList++[Ob k t2]:=by simp
  refine IY (Nt nk' rfl ?_ (by rw[Lf];lia)<|Lb (Vt (Array.size_push ..))<|by rw[Lf];lia);refine Jl ⟨rfl,_,_,kA.push<|.int k t2,c2,rfl,F'.upK _,hc2,(J7 _ _ hka).trans na',by rw[ea,ek];exact ksk_snoc hk⟩
 case done=>
  rintro s' ⟨h',tk,kA,e,rfl,F',nk',na',hk⟩;have Pk:Nd kA.toList kz:=by
   have e3:kz.take (0+vs.length)=kz:=JY (by lia);rw[e3]at hk;exact hk
  try dsimp only
  refine IY<|Sx nk' rfl ?_;exact Ij (s:={s with heap:=h',toks:=tk}) F' nk' na' hka Pk L_ Y5 h
def tree_{f:IX}(ho:s.heap.get? a=B' (KP "list" vs.toArray n))(L_:kz.length=vs.length)(Y5:vs.length < 64)
  (Yx:∀(i:Nat) (v:IX) (k:Int),vs[i]? =B' v->kz[i]? =B' k->∀(h:J6) (tk:Nat) (R:IX->Ja->Prop),(∀Yj t2,R (.int k t2) {s with heap:=h,toks:=Yj})->
   wpAny (JS prog w) A (call f [v]) R (λ_ _=>False) {s with heap:=h,toks:=tk})
  (h:∀h' tk out c,(∀b o,b≠a->s.heap.get? b=B' o->h'.get? b=B' o)->h'.get? a=B' (KP "list" out c)->YW Jg kz vs out.toList->P (.done<|.ret .none) {s with heap:=h',toks:=tk}):
  wpAny (JS prog w) A (ksk_tree a f Jg) P E s:=by
 have ha:a < s.heap.objs.size:=Jv ho;obtain⟨e1,ho1⟩:∃e1,(s.heap.update a (K' λ_=>(#[]:JF IX))).get? a=B' (KP "list" #[] e1):=⟨_,Pn ho λ_=>#[]⟩;have hkS:((s.heap.update a (K' λ_=>(#[]:JF IX))).push (KP "tuple" vs.toArray 0)).objs.size=s.heap.objs.size+1:=by rw[Q7,Qe]
 unfold ksk_tree;refine IY<|Sx ho rfl ?_;refine IY<|Nt ho rfl ?_ (by rw[JH,Lf];lia)<|JQ _;refine IY<|PF ho1 rfl ?_;refine IY<|S7 ?_ (by show vs.length<=_;rw[Lf];lia);refine IY<|Ou ?_<|JQ _;refine KN ?_;refine Gp (h0:=s.heap) (s:={s with heap:=((s.heap.update a<|K' λ_=>(#[]:JF IX)).push<|KP "tuple" vs.toArray 0).push<|KP "list" #[] 0}) (kS:=((s.heap.update a<|K' λ_=>(#[]:JF IX)).push<|KP "tuple" vs.toArray 0).objs.size)
  (λb o h1 h2 q=>Jb _<|Jb _<|(J7 _ _<|Ma h1).trans q) (JX _ rfl) (Jb _<|Jb _ ho1) (by rw[hkS];exact NS<|LC ha) L_ Y5 Yx
  λh' tk out c k1 k2 k3=>h h' tk out c (λb o hb q=>k1 b o hb (by rw[hkS];exact JO<|LC<|Jv q) q) k2 k3
end KA
namespace L2
open PySem PySem.Spec PyProof.Rows
def ya(hi:Nd vs ns)(ko:YW Jg (ns.map g) vs out):∃Rg,Nd out Rg/\Rg.Perm ns/\(Rg.map g).Pairwise (·<=·):=by
 obtain⟨ps,hp,ho,hs⟩:=ko;have L_:=hi.length;have ac5:∀p,p∈(ns.map g).zip vs->p.1=g (Xi p.2)/\p.2∈vs:=by
  rw[<-hi.nums,Lq,List.zip_map_left];intro p hp;obtain⟨⟨u,v⟩,hq,rfl⟩:=Ke.mp hp;have h1:u=v/\u∈vs:=mem_zip_self hq;refine⟨?_,?_⟩
  ·show g (Xi u)=g (Xi v)
   rw[h1.1]
  ·show v∈vs
   rw[<-h1.1];exact h1.2
 have hI:Nd (ps.map Vo) ((ps.map Vo).map Xi):=intsAre_map _ λv hv=>by
  obtain⟨p,hp',rfl⟩:=Ke.mp hv;exact hi.all _ (ac5 p<|hp.mem_iff.mp hp').2
 have hP:((ps.map Vo).map Xi).Perm ns:=by
  have h1:=(hp.map Vo).map Xi;rw[V6 (by rw[Jc];lia),hi.nums]at h1;exact h1
 exists (ps.map Vo).map Xi,by rw[ho];exact hI,hP;rw[Ln,Ln,Ln];refine hs.imp_of_mem λ{p q} hp' ZE hr=>?_;have ZD:p.1<=q.1:=by simpa using hr
 rw[(ac5 p<|hp.mem_iff.mp hp').1,(ac5 q<|hp.mem_iff.mp ZE).1]at ZD;exact ZD
def vP{Q:VK}(I:Inv X Jf σ H s)(hq:SqL X.K H p (ns.map V.int))(Y5:ns.length < 64)
  (q:∀(l:I_) (Rg:IW Int),H l=Ji->Rg.Perm ns->(Rg.map OD.absI).Pairwise (·<=·)->Q (.ref l) (upd H l<|.lst<|Rg.map V.int)):
  wpAny (JS X.prog X.w) X.A (call (.builtin "sorted") [.ref p] [(I0 "key",.builtin "abs")]) (EP X Jf σ Q) X.xe s:=by
 obtain⟨vs,rv,pl,hz⟩:=I.list hq;have hi:=fm rv;have L_:vs.length=ns.length:=Tw hi;refine call_function_entry_kw Ts Sw Sy (ksk_s1 _ _) ?_;unfold Builtin.«sorted»;refine IY (m:=Uy "sorted" 1 1 _)<|Jl ?_;refine IY (collect_list pl.isList ?_<|by rw[Lf];lia);refine IY (Ou ?_<|by rw[Lf];lia);have hsz:((s.heap.push<|KP "list" #[] 0).update s.heap.objs.size (K' (·++vs.toArray))).objs.size=s.heap.objs.size+1:=by
  rw[Qe,Q7]
 have hoL:(((s.heap.push<|KP "list" #[] 0).update s.heap.objs.size (K' (·++vs.toArray))).push<|KP "list" vs.toArray 0).get? (s.heap.objs.size+1)=B' (KP "list" vs.toArray 0):=by
  rw[<-hsz];exact JX _ rfl
 have keep:∀b o,s.heap.get? b=B' o->(((s.heap.push<|KP "list" #[] 0).update s.heap.objs.size (K' (·++vs.toArray))).push<|KP "list" vs.toArray 0).get? b=B' o:=λb o q=>by
  have NJ:b < s.heap.objs.size:=Jv q;rw[PY _ _ _ (by rw[hsz];exact JO<|LC NJ),O8 _ _ _ _<|JO NJ,PY _ _ _<|JO NJ];exact q
 show wpAny _ _ _ _ _ {s with heap:=((s.heap.push<|KP "list" #[] 0).update s.heap.objs.size (K' (·++vs.toArray))).push<|KP "list" vs.toArray 0}
 rw[hsz];refine IY<|KN<|wpAny_call_entry_kw Q6 ⟨_,hoL,rfl⟩ QB ?body (ksk_l1 _ _)
 case body=>
  show wpAny (JS X.prog X.w) X.A.in1.in1 (Builtin.«list.sort» ⟨[.ref<|s.heap.objs.size+1],_⟩) _ _ _
  rw[ksk_t4];refine KA.tree_ (kz:=ns.map OD.absI) (s:={s with heap:=((s.heap.push<|KP "list" #[] 0).update s.heap.objs.size (K' (·++vs.toArray))).push<|KP "list" vs.toArray 0}) hoL (by rw[Jc,L_]) (by lia) (λi v k hv hk h tk R hR=>?_) λh' tk out c k1 k2 k3=>⟨_,rfl,?_⟩
  ·obtain⟨t,rfl⟩:=IntsAre.int_at hi i v hv;rw[JW]at hk;cases e:ns[i]? with
   |none=>rw[e]at hk;simp at hk
   |some n=>
    rw[e]at hk;have Pk:B' (OD.absI n)=B' k:=hk;cases Pk;have e2:ns.getD i 0=n:=by rw[Jr,e];rfl
    rw[e2];exact Uk (s:={s with heap:=h,toks:=tk}) λu Yj=>hR Yj u
  ·refine Jl ⟨_,rfl,?_⟩;obtain⟨Rg,i1,i2,i3⟩:=ya hi k3;have I2:Inv X Jf σ (upd H (s.heap.objs.size+1)<|.lst<|Rg.map V.int) {s with heap:=h',toks:=tk}:=by
    refine I.laid (t':=tk) (λb o eb=>?_) (OR _) ?_
    ·have hb:b < s.heap.objs.size:=Jv eb;exact k1 b o (JO<|LC hb)<|keep b o eb
    ·refine⟨?_,out.toList,c,gb i1,by simpa using k2⟩;rw[Jc,i2.length_eq];exact K_ (aE<|by lia)
   exact⟨.ref<|s.heap.objs.size+1,_,I2,rfl,q _ Rg (I.hok.fresh<|OR _) i2 i3⟩
end L2
namespace KX
open PySem PyProof.Rows
def vR(a v:IX):Xa "max" ⟨[a],[(I0 "default",v)]⟩:=by unfold Xa;kernel_rfl
section
variable {St:Nat->J6->Prop}
def Gq(W:Walks prog w A.in1 I fp wr n P St)(bt:Nat->Nat->JJ)(abA:CmpOf prog w A.in1 .Gt P bt)(S:I_)(hSf:S∉fp):
  ∀k j s vb c,n - (j+1)=k->j+1<=n->St (j+1) s.heap->P (QL bt j) vb->
  s.heap.get? S=B' {cls:=.type "list",dict:=Ji,data:=.seq #[vb,vb] c,slots:=#[]}->
  (∀v h' tk,P (QL bt<|n - 1) v->(∀b o,b∉wr->b≠S->s.heap.get? b=B' o->h'.get? b=B' o)->R (.ok<|.ret v) {s with heap:=h',toks:=tk})->
  codeAny (JS prog w) A (.builtin "max.loop" ⟨[.ref I,.none,.ref S],kw⟩) R s:=by
 have hSw:S∉wr:=λh=>hSf<|W.sub _ h;have Ym:(toString "max"++toString ".loop":Mg)="max.loop":=by decide
 intro k
 induction k with
 |zero=>
  intro j s vb c hk hj S5 hPb hS hR;have YF:j+1=n:=by lia
  refine LK R7 ?_;rw[Ll Ny _];show wpAny _ A.in1 (VN (.ref S) >>=_) _ _ s
  refine IY<|OK hS rfl ?_;show wpAny _ A.in1 (tryCatch (Pp<|.ref I) _ >>=_) _ _ s
  refine IY<|N_<|W.done s _ _ (YF▸S5) λh' tk Pk=>?_;have hS':=Pk S _ hSw hS;show wpAny _ A.in1 (updateSeq S (λ_=>#[]) >>=_) _ _ _
  refine IY ?_;refine SK hS' rfl<|IY<|Rk<|Jl ?_;refine hR vb _ tk (by rw[<-YF];exact hPb) λb o hbw hbS e=>(J7 _ _<|Ma hbS).trans<|Pk b o hbw e
 |succ k ih=>
  intro j s vb c hk hj S5 hPb hS hR;have NJ:j+1 < n:=by lia
  refine LK R7 ?_;rw[Ll Ny _];show wpAny _ A.in1 (VN (.ref S) >>=_) _ _ s
  refine IY<|OK hS rfl ?_;show wpAny _ A.in1 (tryCatch (Pp<|.ref I) _ >>=_) _ _ s
  refine IY<|N_<|W.item (j+1) s _ _ NJ S5 λv h' tk hP hst' Pk=>?_;have hS':=Pk S _ hSw hS;show wpAny _ A.in1 (tryCatch (Va [v,v]<|richCompare .Gt v vb >>=_) _ >>=_) _ _ _
  refine IY<|N_<|KN<|IY<|abA (j+1) (QL bt j) v vb _ _ _ hP hPb ?_;refine IY<|KN<|LV ?_;refine IY<|Rk<|Jl ?_;cases hb:bt (j+1) (QL bt j)with
  |true=>
   simp only [Ms];refine IY ?_;refine SK hS' rfl<|IY<|Rk ?_;rw[Ym];refine Jl ⟨MK Ny _,ih (j+1) _ v _ (by lia) NJ (W.frame _ _ _ hst' λb hbf o e=>?_) (by simp only [QL,hb,Ms];exact hP) (Ld _ hS' rfl)
    λv' h'' tk'' hP' abt=>?_⟩
   ·exact(J7 _ _ λh:S=b=>hSf<|by rw[h];exact hbf).trans e
   ·exact hR v' h'' tk'' hP' λb o hbw hbS e=>abt b o hbw hbS<|(J7 _ _<|Ma hbS).trans<|Pk b o hbw e
  |false=>
   simp only [JA,La];refine IY<|Rk ?_;rw[Ym];refine Jl ⟨MK Ny _,ih (j+1) _ vb c (by lia) NJ hst' (by simp only [QL,hb,JA,La];exact hPb) hS' λv' h'' tk'' hP' abt=>?_⟩;exact hR v' h'' tk'' hP' λb o hbw hbS e=>abt b o hbw hbS<|Pk b o hbw e
def Es(W:Walks prog w A.in1 I fp wr n P St)(bt:Nat->Nat->JJ)(abA:CmpOf prog w A.in1 .Gt P bt)(S:I_)(hSf:S∉fp){d:IX}{ky:Str}{c:Nat}(S5:St 0 s.heap)
  (hS:s.heap.get? S=B' {cls:=.type "list",dict:=Ji,data:=.seq #[] c,slots:=#[]})
  (hR:0 < n->∀v h' tk,P (QL bt<|n - 1) v->(∀b o,b∉wr->b≠S->s.heap.get? b=B' o->h'.get? b=B' o)->R (.ok<|.ret v) {s with heap:=h',toks:=tk})
  (h0:n=0->∀h' tk,(∀b o,b∉wr->b≠S->s.heap.get? b=B' o->h'.get? b=B' o)->R (.ok<|.ret d) {s with heap:=h',toks:=tk}):
  codeAny (JS prog w) A (.builtin "max.loop" ⟨[.ref I,.none,.ref S],[(ky,d)]⟩) R s:=by
 have hSw:S∉wr:=λh=>hSf<|W.sub _ h;have Ym:(toString "max"++toString ".loop":Mg)="max.loop":=by decide
 refine LK R7 ?_;rw[Ll Ny _];show wpAny _ A.in1 (VN (.ref S) >>=_) _ _ s
 refine IY<|OK hS rfl ?_;show wpAny _ A.in1 (tryCatch (Pp<|.ref I) _ >>=_) _ _ s
 by_cases hn:0 < n
 ·refine IY<|N_<|W.item 0 s _ _ hn S5 λv h' tk hP hst' Pk=>?_;have hS':=Pk S _ hSw hS;show wpAny _ A.in1 (updateSeq S (λ_=>#[v,v]) >>=_) _ _ _
  refine IY ?_;refine SK hS' rfl ?_;rw[Ym];refine Jl ⟨MK Ny _,Gq W bt abA S hSf _ 0 _ v _ rfl hn (W.frame _ _ _ hst' λb hbf o e=>?_) hP (Ld _ hS' rfl) λv' h'' tk'' hP' abt=>?_⟩
  ·exact(J7 _ _ λh:S=b=>hSf<|by rw[h];exact hbf).trans e
  ·exact hR hn v' h'' tk'' hP' λb o hbw hbS e=>abt b o hbw hbS<|(J7 _ _<|Ma hbS).trans<|Pk b o hbw e
 ·have hn0:0=n:=by lia
  refine IY<|N_<|W.done s _ _ (hn0▸S5) λh' tk Pk=>?_;refine IY<|MV<|Jl ?_;exact h0 hn0.symm h' tk λb o hbw hbS e=>Pk b o hbw e
end
def Gr{x d:IX}{Q:IX->Ja->Prop}
  (h:wpAny (JS prog w) A.in1 (S_ x) (λit s₂=>∃I fp wr n P St bt,it=.ref I/\Walks prog w A.in1 I fp wr n P St/\St 0 s₂.heap/\(∀b∈fp,b < s₂.heap.objs.size)/\CmpOf prog w A.in1 .Gt P bt/\
   (0 < n->∀v h' tk,P (QL bt<|n - 1) v->(∀b o,b∉wr->s₂.heap.get? b=B' o->h'.get? b=B' o)->Q v {s₂ with heap:=h',toks:=tk})/\
   (n=0->∀h' tk,(∀b o,b∉wr->s₂.heap.get? b=B' o->h'.get? b=B' o)->Q d {s₂ with heap:=h',toks:=tk})) E s):
  wpAny (JS prog w) A (call (.builtin "max") [x] [(I0 "default",d)]) Q E s:=by
 have Ym:(toString "max"++toString ".loop":Mg)="max.loop":=by decide
 refine kmk_tree F.kind_max F.plain_max F.entry_max (vR _ _) ?_;show wpAny _ A.in1 (QO "max" ["key","default"] 0 ⟨[],[(I0 "default",d)]⟩ >>=_) _ _ s
 refine IY<|Wb (show QO "max" ["key","default"] 0 ⟨[],[(I0 "default",d)]⟩=pure [Ji,B' d]from rfl) ?_;refine IY<|Jl ?_;refine IY<|Kf h (λit s₂ h₂=>?_) λ_ _ e=>e;obtain⟨I,fp,wr,n,P,St,bt,rfl,W,S5,hfp,abA,hQ,hQ0⟩:=h₂;refine IY<|NO ?_;have hSf:s₂.heap.objs.size∉fp:=λhm=>LO _<|hfp _ hm;rw[Ym];refine Jl ⟨MK Ny _,Es W bt abA s₂.heap.objs.size hSf (W.frame _ _ _ S5 λb _ o e=>Jb _ e) (JX _ rfl) (λhn v h' tk hP hk=>?_) λhn h' tk hk=>?_⟩
 ·exact hQ hn v h' tk hP λb o hbw e=>hk b o hbw (JO<|Jv e)<|Jb _ e
 ·exact hQ0 hn h' tk λb o hbw e=>hk b o hbw (JO<|Jv e)<|Jb _ e
def max_listD{d:IX}{Q:IX->Ja->Prop}(hh:A.handled=Ji)(hl:s.heap.IsList l (OM xs))
  (h:0 < xs.size->∀v h' tk,(OM xs)[QL (λi j=>decide (Yr xs i > Yr xs j)) (xs.size - 1)]? =B' v->(∀b o,s.heap.get? b=B' o->h'.get? b=B' o)->Q v {s with heap:=h',toks:=tk})
  (h0:xs.size=0->∀h' tk,(∀b o,s.heap.get? b=B' o->h'.get? b=B' o)->Q d {s with heap:=h',toks:=tk}):
  wpAny (JS prog w) A (call (.builtin "max") [.ref l] [(I0 "default",d)]) Q E s:=by
 refine Gr<|iter_intList hl λs₂ e st hfp hlI=>?_;subst e;refine⟨_,_,_,_,_,_,_,rfl,QX (A:=A.in1) hh _ l hlI<|OM xs,st,hfp,CmpOf.ints_gt (Yr xs) λ_ _=>intItems_at,λhn v h' tk hP hk=>?_,λhn h' tk hk=>?_⟩
 ·exact h (by simpa [OM]using hn) v h' tk (by simpa [OM]using hP)<|old_kept hk
 ·exact h0 (by simpa [OM]using hn) h' tk<|old_kept hk
end KX
namespace L2
open PySem PySem.Spec PyProof.Rows
def qu(hi:Nd vs ns)(e:vs.toArray=OM xs)(hn:0 < xs.size)(hv:(OM xs)[QL (λi j=>decide (Yr xs i > Yr xs j)) (xs.size - 1)]? =B' v):∃M t,v=.int M t/\M∈ns/\∀a∈ns,a<=M:=by
 have hns:xs.toList.map (·.1)=ns:=by
  rw[<-XS,<-e];exact hi.numsOf
 obtain⟨t,rfl⟩:=intItems_at hv;obtain⟨h1,h2⟩:=argBest_gt (Yr xs)<|xs.size - 1;refine⟨_,t,rfl,?_,λa ha=>?_⟩
 ·rw[numAt_eq,hns];exact getD_mem (by rw[<-hns,Jc,JB];lia)
 ·obtain⟨j,hj,rfl⟩:=mem_getD ha;rw[<-hns,Jc,JB]at hj;have:=h2 j (by lia);rw[numAt_eq,hns]at this;exact this
def Ik(K:IZ):IW V->Hp->VK->Prop:=λxs H Q=>∃(p:I_) (ns:IW Int),xs=[.ref p]/\SqL K H p (ns.map V.int)/\ns≠[]/\∀M,M∈ns->(∀a∈ns,a<=M)->Q (.int M) H
def vS(hc:X.calm=Je):dY X (.builtin "max") (Ik X.K):=by
 intro Jf s σ H xs us Q I r h;obtain⟨p,ns,rfl,hq,Xw,q⟩:=h;obtain⟨u,rfl,ru⟩:=fk r;cases ru;obtain⟨vs,rv,pl,hz⟩:=I.list hq;have hi:=fm rv;obtain⟨ys,e⟩:=hi.allInts.items;have hl:=pl.isList;rw[e]at hl;have hn:0 < ys.size:=by
  have h1:(OM ys).size=ys.size:=by simp [OM]
  rw[<-h1,<-e,JH,Tw hi];exact List.length_pos_iff.mpr Xw
 refine max_intList (I.ok.hd hc) hl hn λv h' tk hv hk=>?_;obtain⟨M,t,rfl,m1,m2⟩:=qu hi e hn hv;exact⟨.int M,H,I.kept hk,⟨t,rfl⟩,q M m1 m2⟩
def yb(K:IZ):V->V->Hp->VK->Prop:=λx d H Q=>∃(p:I_) (ns:IW Int),x=.ref p/\SqL K H p (ns.map V.int)/\(ns=[]->Q d H)/\∀M,M∈ns->(∀a∈ns,a<=M)->Q (.int M) H
def Gs(K:IZ)(te td:TE):TE:=λσ H Q=>te σ H λx H1=>td σ H1 λd H2=>yb K x d H2 Q
def Bg{p1 kp q1:Pos}(hc:X.calm=Je)(hg1:Gl X "max")(VD:X.mg "max"=Ji)(he:PE X e te)(hd:PE X dv td)
  (hs:J3 [e] X.env=[(Jg,MC e X.env)]:=by rfl):
  PE X (.Call (.Name "max" p1) [e] [⟨B' "default",dv,kp⟩] q1) (Gs X.K te td):=by
 intro Jf s σ H Q I h;refine LG<|eS I hg1 VD S3 ?_;refine RL (bV (aa he (ae (X:=X)) (by rw[hs];rfl) q1 Jf s σ H (xo λx H1=>td σ H1 λd H2=>yb X.K x d H2 Q) I h) λus s1 ⟨vs,H1,I1,r1,q1'⟩=>?_) (by rw[hs];rfl) (by rw[hs];rfl) rfl rfl;obtain⟨x,e1,h1⟩:=iV q1';subst e1;obtain⟨u,rfl,ru⟩:=fk r1;refine SZ<|bV (hd Jf s1 σ H1 _ I1 h1) λud s2 ⟨d,H2,I2,r2,h2⟩=>Tr ?_;obtain⟨p,ns,rfl,hq,q0,q⟩:=h2;cases ru;obtain⟨vs,rv,pl,hz⟩:=I2.list hq;have hi:=fm rv;obtain⟨ys,e⟩:=hi.allInts.items;have hl:=pl.isList;rw[e]at hl;have hsz:ys.size=ns.length:=by
  have h1:(OM ys).size=ys.size:=by simp [OM]
  rw[<-h1,<-e,JH,Tw hi]
 show wpAny _ _ (call (.builtin "max") [.ref p] [(I0 "default",ud)]) _ _ _
 refine KX.max_listD (I2.ok.hd hc) hl (λhn v h' tk hv hk=>?_) λhn h' tk hk=>?_
 ·obtain⟨M,t,rfl,m1,m2⟩:=qu hi e hn hv;exact⟨.int M,H2,I2.kept hk,⟨t,rfl⟩,q M m1 m2⟩
 ·exact⟨d,H2,I2.kept hk,r2,q0<|ME.mp<|by lia⟩
def lK(K:IZ):V->Hp->VK->Prop:=λx H Q=>∃(p:I_) (ns:IW Int),x=.ref p/\SqL K H p (ns.map V.int)/\ns.length < 64/\
 ∀(l:I_) (Rg:IW Int),H l=Ji->Rg.Perm ns->(Rg.map OD.absI).Pairwise (·<=·)->Q (.ref l) (upd H l<|.lst<|Rg.map V.int)
def yc(K:IZ)(te:TE):TE:=λσ H Q=>te σ H λx H1=>lK K x H1 Q
def rY{p1 p2 kp q1:Pos}(hg1:Gl X "sorted")(VD:X.mg "sorted"=Ji)(hg2:Gl X "abs")(UZ:X.mg "abs"=Ji)(he:PE X e te)
  (hs:J3 [e] X.env=[(Jg,MC e X.env)]:=by rfl):
  PE X (.Call (.Name "sorted" p1) [e] [⟨B' "key",.Name "abs" p2,kp⟩] q1) (yc X.K te):=by
 intro Jf s σ H Q I h;refine LG<|eS I hg1 VD Od ?_;refine RL (bV (aa he (ae (X:=X)) (by rw[hs];rfl) q1 Jf s σ H (xo λx H1=>lK X.K x H1 Q) I h) λus s1 ⟨vs,H1,I1,r1,q1'⟩=>?_) (by rw[hs];rfl) (by rw[hs];rfl) rfl rfl;obtain⟨x,e1,p,ns,rfl,hq,Y5,q⟩:=iV q1';subst e1;obtain⟨u,rfl,ru⟩:=fk r1;cases ru;refine SZ<|eS I1 hg2 UZ Kj<|Tr ?_;show wpAny _ _ (call (.builtin "sorted") [.ref p] [(I0 "key",.builtin "abs")]) _ _ _
 exact vP I1 hq Y5 q
end L2
namespace OD
open PySem L2
def eW(f s:IW Int)(v:Int):JJ:=(f.filter λl=>!decide (absI l=v)).any λl=>s.contains (-l)
def fH(f s:IW Int)(v:Int):IW Int:=(f++s.filter λl=>!f.contains l).filter λl=>!decide (absI l=v)
def Ups(c:IW Int):Prop:=(c.map absI).Pairwise (· < ·)
def Joins(f s:IW Int)(v:Int)(r:IW Int):Prop:=Ups r/\∀l,l∈r↔(l∈f\/l∈s)/\absI l≠v
def lL(h:absI a=absI b):a=b\/b=-a:=by grind[absI]
def Ups.tail(h:Ups (x::c)):Ups c:=(LI.mp h).2
def Ups.head(h:Ups (x::c)):∀l∈c,absI x < absI l:=λl hl=>(LI.mp h).1 _<|N6 hl
def Ups.inj(h:Ups c)(ha:a∈c)(hb:b∈c)(e:absI a=absI b):a=b:=by
 induction c with
 |nil=>cases ha
 |cons x c ih=>
  obtain ea|ha2:=J2.mp ha
  ·obtain eb|hb2:=J2.mp hb
   ·rw[ea,eb]
   ·have:=h.head b hb2;rw[<-ea]at this;lia
  ·obtain eb|hb2:=J2.mp hb
   ·have:=h.head a ha2;rw[<-eb]at this;lia
   ·exact ih h.tail ha2 hb2
def Ups.nodup(h:Ups c):c.Nodup:=(Ln.mp h).imp λ{a b} hab e=>by subst e;lia
theorem qv:∀{a b:IW Int},Ups a->Ups b->(∀l,l∈a↔l∈b)->a=b
 |[],[],_,_,_=>rfl
 |[],y::b,_,_,h=>absurd ((h y).mpr JG) (by simp)
 |x::a,[],_,_,h=>absurd ((h x).mp JG) (by simp)
 |x::a,y::b,ha,hb,h=>by
  have e:x=y:=by
   obtain z|z:=J2.mp ((h x).mp JG)
   ·exact z
   ·obtain w|w:=J2.mp ((h y).mpr JG)
    ·exact w.symm
    ·have:=hb.head x z;have:=ha.head y w;lia
  subst e;rw[qv ha.tail hb.tail λz=>?_];constructor
  ·intro hz;obtain w|w:=J2.mp ((h z).mp<|Jy _ hz)
   ·have:=ha.head z hz;rw[w]at this;lia
   ·exact w
  ·intro hz;obtain w|w:=J2.mp ((h z).mpr<|Jy _ hz)
   ·have:=hb.head z hz;rw[w]at this;lia
   ·exact w
def Joins.uniq(h:Joins f s v a)(h':Joins f s v b):a=b:=qv h.1 h'.1 λl=>(h.2 l).trans (h'.2 l).symm
def mem_rest:l∈fH f s v↔(l∈f\/l∈s)/\absI l≠v:=by
 unfold fH;rw[KR,JI,KR];constructor
 ·rintro⟨h,h2⟩;refine⟨h.imp id λz=>z.1,λe=>?_⟩;rw[Jz e]at h2;cases h2
 ·rintro⟨h,h2⟩;refine⟨?_,by rw[Jj h2];rfl⟩;by_cases hf:l∈f
  ·exact .inl hf
  ·refine .inr ⟨h.resolve_left hf,?_⟩;simpa using hf
def qw(h:eW f s v=Jg)(hl:l∈f)(hv:absI l≠v):-l∉s:=λhs=>by
 have:eW f s v=true:=MY.mpr ⟨l,KR.mpr ⟨hl,by rw[Jj hv];rfl⟩,by simpa using hs⟩;rw[h]at this;cases this
def yd(hf:Ups f)(hs:Ups s)(hv:eW f s v=Jg)(ha:a∈fH f s v)(hb:b∈fH f s v)(e:absI a=absI b):a=b:=by
 obtain⟨a1,a2⟩:=mem_rest.mp ha;obtain⟨b1,b2⟩:=mem_rest.mp hb;obtain a1|a1:=a1<;>obtain b1|b1:=b1
 ·exact hf.inj a1 b1 e
 ·obtain z|z:=lL e
  ·exact z
  ·exact absurd (z▸b1)<|qw hv a1 a2
 ·obtain z|z:=lL e.symm
  ·exact z.symm
  ·exact absurd (z▸a1)<|qw hv b1 b2
 ·exact hs.inj a1 b1 e
def rZ(hf:Ups f)(hs:Ups s):(fH f s v).Nodup:=by
 refine Qs _<|P1.mpr ⟨hf.nodup,Qs _ hs.nodup,?_⟩;intro a ha b hb e;subst e;obtain⟨_,h⟩:=KR.mp hb;rw[Kd.mpr ha]at h;cases h
theorem r9:∀{r:IW Int},(r.map absI).Pairwise (·<=·)->r.Nodup->(∀a∈r,∀b∈r,absI a=absI b->a=b)->Ups r
 |[],_,_,_=>.nil
 |x::r,h,n,i=>by
  obtain⟨h1,h2⟩:=LI.mp h;obtain⟨n1,n2⟩:=Mv.mp n;refine LI.mpr ⟨λz hz=>?_,r9 h2 n2 λa ha b hb=>i a (Jy _ ha) b<|Jy _ hb⟩;obtain⟨y,hy,rfl⟩:=Ke.mp hz;have:=h1 _ hz;have ne:absI x≠absI y:=λe=>n1<|i x JG y (Jy _ hy) e▸hy;lia
def qx(hf:Ups f)(hs:Ups s)(hv:eW f s v=Jg)(hp:r.Perm (fH f s v))(ho:(r.map absI).Pairwise (·<=·)):Joins f s v r:=
 ⟨r9 ho (hp.nodup_iff.mpr<|rZ hf hs) λa ha b hb e=>yd hf hs hv (hp.mem_iff.mp ha) (hp.mem_iff.mp hb) e,λl=>hp.mem_iff.trans mem_rest⟩
def gM(t:Str)(hw:JJ)(c:IW Int):Int:=((c.filter λl=>!(fA t (absI l - 1).toNat == hw)).map absI).foldl max 0
def dg(t:Str)(hw:JJ)(c:IW Int):IW Int:=c.filter λl=>decide (absI l<=gM t hw c)
theorem io:∀(ns:IW Int) (b:Int),(b<=ns.foldl max b/\∀a∈ns,a<=ns.foldl max b)/\(ns.foldl max b=b\/ns.foldl max b∈ns)
 |[],b=>⟨⟨Lg _,λ_ h=>nomatch h⟩,.inl rfl⟩
 |x::r,b=>by
  obtain⟨⟨h1,h2⟩,h3⟩:=io r<|max b x;rw[NL];refine⟨⟨by lia,λa ha=>?_⟩,?_⟩
  ·obtain rfl|ha:=J2.mp ha
   ·lia
   ·exact h2 a ha
  ·obtain h3|h3:=h3
   ·by_cases g:b<=x
    ·right
     rw[h3,Int.max_eq_right g];exact JG
    ·left
     rw[h3,Int.max_eq_left<|by lia]
   ·exact .inr<|Jy _ h3
def ye{ns:IW Int}{M:Int}(h0:∀a∈ns,0<=a)(h1:M∈ns\/M=0)(h2:∀a∈ns,a<=M)(h3:0<=M):ns.foldl max 0=M:=by
 obtain⟨⟨a1,a2⟩,a3⟩:=io ns 0;have:ns.foldl max 0<=M:=by
  obtain e|e:=a3
  ·rw[e];exact h3
  ·exact h2 _ e
 have:M<=ns.foldl max 0:=by
  obtain h1|h1:=h1
  ·exact a2 _ h1
  ·rw[h1];exact a1
 lia
def mem_vars:z∈dw t hw↔1<=z/\z<=(t.length:Int)/\fA t (z - 1).toNat=hw:=by
 unfold dw;rw[Ke];constructor
 ·rintro⟨i,hi,rfl⟩;obtain⟨h1,h2⟩:=KR.mp hi;have:=LM.mp h1;have e:((i:Int)+1 - 1).toNat=i:=by lia
  rw[e];exact⟨by lia,by lia,by simpa using h2⟩
 ·rintro⟨h1,h2,h3⟩;refine⟨(z - 1).toNat,KR.mpr ⟨LM.mpr (by lia),?_⟩,by lia⟩;rw[h3];exact N9 _
def Bh(h1:1<=absI l)(h2:absI l<=(t.length:Int)):(dw t (!hw)).contains (absI l)=!(fA t (absI l - 1).toNat == hw):=by
 cases g:fA t (absI l - 1).toNat == hw with
 |true=>
  have g':fA t (absI l - 1).toNat=hw:=by simpa using g
  cases z:(dw t (!hw)).contains (absI l)with
  |false=>rfl
  |true=>
   have z2:=(mem_vars.mp<|by simpa using z).2.2;rw[g']at z2;cases hw<;>cases z2
 |false=>
  have g':fA t (absI l - 1).toNat=!hw:=by
   cases a:fA t (absI l - 1).toNat<;>cases hw<;>simp_all
  have:absI l∈dw t (!hw):=mem_vars.mpr ⟨h1,h2,g'⟩;simpa using this
def dF(f s:IW Int)(v:Int):IW Int:=(fH f s v).mergeSort λa b=>decide (absI a<=absI b)
def j5(hf:Ups f)(hs:Ups s)(hv:eW f s v=Jg):Joins f s v (dF f s v):=by
 refine qx hf hs hv (List.mergeSort_perm _ _) ?_;have h:=List.pairwise_mergeSort (le:=λa b:Int=>decide (absI a<=absI b)) (λa b c h1 h2=>by simp at*;lia) (λa b=>by simp;lia)<|fH f s v;rw[Ln];exact h.imp λ{a b} e=>by simpa using e
def Joins.eq(hf:Ups f)(hs:Ups s)(hv:eW f s v=Jg)(h:Joins f s v r):r=dF f s v:=h.uniq<|j5 hf hs hv
def bj(many:Nat):Jw->Jd Nat
 |.int z=>if 0<=z/\z < (many:Int)then B' z.toNat else Ji
 |_=>Ji
def ce(h:bj many d=B' i):i < many/\d=.int (i:Int):=by
 cases d with
 |int z=>
  have h':(if 0<=z/\z < (many:Int)then B' z.toNat else Ji)=B' i:=h
  split at h'
  ·rename_i c;cases h';exact⟨by lia,by congr 1;lia⟩
  ·cases h'
 |_=>cases h
def qy(w:Str):Jw->JJ
 |.str x=>decide (x=w)
 |_=>Jg
def yf(d:Jw)(w:Str):KC d (.str w)=qy w d:=by
 cases d with
 |str x=>
  rw[KC];show(x == w)=decide (x=w)
  by_cases h:x=w
  ·rw[h];simp
  ·rw[Jj h];exact LQ.mpr h
 |_=>first|(unfold KC;rfl)|(simp [KC,qy])
def bM(w:Str)(n:Nat):Jw->JJ
 |.tuple ds=>decide (ds.length=n)&&qy w (ds.getD 0 .none)
 |_=>Jg
def aV(n:Nat)(c:IW Int):Prop:=Ups c/\∀l∈c,1<=absI l/\absI l<=(n:Int)
def hV(t:Str)(hw:JJ)(sets:IW (IW Int))(d:Jw):Jd (IW Int):=(bj sets.length d).map λi=>dg t hw<|sets.getD i []
def d6(t:Str)(hw:JJ)(f s:IW Int)(z:Int):JJ:=(dw t (!hw)).contains z&&(f.contains z&&(s.contains (-z)&&!eW f s z))
def dG(t:Str)(hw:JJ)(sets:IW (IW Int))(d1 d2 d3:Jw):Jd (IW Int):=
 match bj sets.length d1,bj sets.length d2,d3 with
 |some i,B' j,.int z=>if d6 t hw (sets.getD i []) (sets.getD j []) z=Je then B' (dF (sets.getD i []) (sets.getD j []) z)else Ji
 |_,_,_=>Ji
def RV(H:Hp)(o:Jd (IW Int))(v:V):Prop:=
 match o with
 |none=>v=.non
 |some c=>CL H c v
theorem t9:∀{c:IW Int} {n b:Int},Ups c->(∀l∈c,b < absI l/\absI l<=n)->(c.length:Int)<=max 0 (n - b)
 |[],n,b,_,_=>by simp;lia
 |x::c,n,b,h,g=>by
  have g1:=g x JG;have ih:=t9 (n:=n) (b:=absI x) h.tail λl hl=>⟨h.head l hl,(g l<|Jy _ hl).2⟩;rw[J4];lia
def cY(h:aV n c):c.length<=n:=by
 have:=t9 (n:=(n:Int)) (b:=0) h.1 λl hl=>⟨by have:=(h.2 l hl).1;lia,(h.2 l hl).2⟩;lia
def lM(c:IW Int)(cs:IW (IW Int)):JJ:=cs.all λk=>c.any λl=>k.contains l
def zD:Jw->Int
 |.int z=>z
 |_=>0
def j6:Jw->IW Int
 |.tuple ds=>ds.map zD
 |_=>[]
def jc(n:Nat)(cs:IW (IW Int))(d:Jw):Jd (IW Int):=if(mB (n:Int) d&&lM (j6 d) cs)=Je then B' (j6 d)else Ji
def hW:Jw->Nat->Jw
 |.tuple ds,i=>ds.getD i .none
 |_,_=>.none
def aT:Str:=I0 "given"
def br:Str:=I0 "hits"
def aY:Str:=I0 "join"
def aF:Str:=I0 "drop"
def lN(cs:IW (IW Int))(d:Jw):Jd (IW Int):=(bj cs.length d).map λi=>cs.getD i []
def aO(t:Str)(cs:IW (IW Int))(hw:JJ)(sets:IW (IW Int))(d:Jw):Jd (IW Int):=
 if(!hw&&bM aT 2 d)=Je then lN cs (hW d 1)
 else if(hw&&bM br 2 d)=Je then jc t.length cs (hW d 1)
 else if bM aY 4 d=Je then dG t hw sets (hW d 1) (hW d 2) (hW d 3)
 else if bM aF 2 d=Je then hV t hw sets (hW d 1)
 else Ji
def bu(t:Str)(cs:IW (IW Int))(hw:JJ)(sets:IW (IW Int)):IW Jw->IW (IW Int)×JJ
 |[]=>(sets,Je)
 |d::r=>match aO t cs hw sets d with
  |none=>(sets,Jg)
  |some c=>bu t cs hw (sets++[c]) r
theorem qz:∀{ds:IW Jw} {n b:Int},iH n b ds=Je->ds=(ds.map zD).map Pt/\Ups (ds.map zD)/\∀l∈ds.map zD,b < absI l/\absI l<=n
 |[],_,_,_=>⟨rfl,.nil,λ_ h=>nomatch h⟩
 |e::ds,n,b,h=>by
  obtain⟨z,rfl⟩|hn:=oP e
  ·rw[lB]at h
   split at h
   ·rename_i hb;obtain⟨h1,h2,h3⟩:=qz h;refine⟨?_,LI.mpr ⟨λy hy=>?_,h2⟩,λl hl=>?_⟩
    ·rw[Kz,Kz,<-h1];rfl
    ·obtain⟨l,hl,rfl⟩:=Ke.mp hy;exact(h3 l hl).1
    ·obtain rfl|hl:=J2.mp hl
     ·exact hb
     ·have:=h3 l hl;lia
   ·cases h
  ·rw[ql hn]at h;cases h
def t_{n:Nat}{d:Jw}(h:mB (n:Int) d=Je):d=gc (j6 d)/\aV n (j6 d):=by
 cases d with
 |tuple ds=>
  obtain⟨h1,h2,h3⟩:=qz (ds:=ds) (n:=n) (b:=0) h;refine⟨?_,h2,λl hl=>?_⟩
  ·show Oj ds=.tuple ((ds.map zD).map .int)
   rw[<-h1]
  ·have:=h3 l hl;exact⟨by lia,this.2⟩
 |_=>cases h
theorem ua:∀{c:IW Int} {n b:Int},Ups c->(∀l∈c,b < absI l/\absI l<=n)->iH n b (c.map .int)=Je
 |[],_,_,_,_=>rfl
 |x::c,n,b,h,g=>by
  rw[Kz,lB,JL<|g x JG];exact ua h.tail λl hl=>⟨h.head l hl,(g l<|Jy _ hl).2⟩
def Bi(h:aV n c):mB (n:Int) (gc c)=true:=ua h.1 λl hl=>⟨by have:=(h.2 l hl).1;lia,(h.2 l hl).2⟩
def kI{n:Nat}{cs:IW (IW Int)}(h:∀c∈cs,aV n c){i:Nat}(hi:i < cs.length):aV n (cs.getD i []):=by grind
def qA(h:aV n c):aV n (dg t hw c):=
 ⟨Ln.mpr<|Qs _<|Ln.mp h.1,λl hl=>h.2 l (KR.mp hl).1⟩
def qB(hf:aV n f)(hs:aV n s)(hv:eW f s v=Jg):aV n (dF f s v):=by
 obtain⟨h1,h2⟩:=j5 hf.1 hs.1 hv;exact⟨h1,λl hl=>((h2 l).mp hl).1.elim (hf.2 l)<|hs.2 l⟩
def yg(hs:∀c∈sets,aV n c)(h:hV t hw sets d=B' c):aV n c:=by
 unfold hV at h;cases e:bj sets.length d with
 |none=>rw[e]at h;cases h
 |some i=>
  rw[e]at h;cases h;exact qA<|kI hs (ce e).1
def yh(hs:∀c∈sets,aV n c)(h:dG t hw sets d1 d2 d3=B' c):aV n c:=by
 unfold dG at h;cases e1:bj sets.length d1 with
 |none=>rw[e1]at h;cases h
 |some i=>
 cases e2:bj sets.length d2 with
 |none=>rw[e1,e2]at h;cases h
 |some j=>
 rw[e1,e2]at h;cases d3 with
 |int z=>
  have h':(if d6 t hw (sets.getD i []) (sets.getD j []) z=Je then B' (dF (sets.getD i []) (sets.getD j []) z)else Ji)=B' c:=h
  split at h'
  ·rename_i g;cases h';unfold d6 at g;rw[J_,J_,J_]at g;refine qB (kI hs (ce e1).1) (kI hs (ce e2).1) ?_;have:=g.2.2.2;revert this;cases eW (sets.getD i []) (sets.getD j []) z<;>simp
  ·cases h'
 |_=>cases h
def yk(hc:∀c∈cs,aV t.length c)(hs:∀c∈sets,aV t.length c)(h:aO t cs hw sets d=B' c):aV t.length c:=by
 unfold aO at h
 split at h
 ·unfold lN at h;cases e:bj cs.length (hW d 1)with
  |none=>rw[e]at h;cases h
  |some i=>
   rw[e]at h;cases h;exact kI hc (ce e).1
 split at h
 ·unfold jc at h
  split at h
  ·rename_i g;cases h;rw[J_]at g;exact(t_ g.1).2
  ·cases h
 split at h
 ·exact yh hs h
 split at h
 ·exact yg hs h
 ·cases h
theorem oS(hc:∀c∈cs,aV t.length c):∀{ds:IW Jw} {sets:IW (IW Int)},(∀c∈sets,aV t.length c)->∀c∈(bu t cs hw sets ds).1,aV t.length c
 |[],sets,h=>h
 |d::r,sets,h=>by
  show∀c∈(match aO t cs hw sets d with|none=>(sets,Jg)|some c=>bu t cs hw (sets++[c]) r).1,aV t.length c
  cases e:aO t cs hw sets d with
  |none=>exact h
  |some c=>
   refine oS hc λz hz=>?_;obtain hz|hz:=JI.mp hz
   ·exact h z hz
   ·rw[Jp.mp hz];exact yk hc h e
theorem nB{d:Jw}:∀{ds:IW Jw} {sets out:IW (IW Int)},bu t cs hw sets ds=(out,Je)->
  bu t cs hw sets (ds++[d])=match aO t cs hw out d with|none=>(out,Jg)|some c=>(out++[c],Je)
 |[],sets,out,h=>by
  cases h;rfl
 |e::r,sets,out,h=>by
  have h':(match aO t cs hw sets e with|none=>(sets,Jg)|some c=>bu t cs hw (sets++[c]) r)=(out,Je):=h;show(match aO t cs hw sets e with|none=>(sets,Jg)|some c=>bu t cs hw (sets++[c])<|r++[d])=_
  cases g:aO t cs hw sets e with
  |none=>rw[g]at h';cases h'
  |some c=>
   rw[g]at h';exact nB h'
def jd(h:bM w n d=Je):∃ds,d=.tuple ds/\ds.length=n:=by
 cases d with
 |tuple ds=>
  have h':(decide (ds.length=n)&&qy w (ds.getD 0 .none))=true:=h;rw[J_]at h';exact⟨ds,rfl,KM h'.1⟩
 |_=>cases h
theorem qC{n:Nat}:∀{c:IW Int} {b:Int},Gc b c->Ups c/\∀l∈c,b < absI l
 |[],_,_=>⟨.nil,λ_ h=>nomatch h⟩
 |x::c,b,h=>by
  obtain⟨h1,h2⟩:=qC (n:=n) h.2;refine⟨LI.mpr ⟨λy hy=>?_,h1⟩,λl hl=>?_⟩
  ·obtain⟨l,hl,rfl⟩:=Ke.mp hy;exact h2 l hl
  ·obtain rfl|hl:=J2.mp hl
   ·exact h.1
   ·have:=h2 l hl;have:=h.1;lia
def vT{n:Nat}{c:IW Int}(h:iG (n:Int) c):aV n c:=by
 obtain⟨h1,h2⟩:=qC (n:=n) h.1;exact⟨h1,λl hl=>⟨by have:=h2 l hl;lia,h.2 l hl⟩⟩
theorem j7:∀{a:IW Jw} {sets:IW (IW Int)},bu t cs hw sets (a++b)=if(bu t cs hw sets a).2=Je then bu t cs hw (bu t cs hw sets a).1 b else bu t cs hw sets a
 |[],sets=>rfl
 |d::a,sets=>by
  show(match aO t cs hw sets d with|none=>(sets,Jg)|some c=>bu t cs hw (sets++[c])<|a++b)=if(match aO t cs hw sets d with|none=>(sets,Jg)|some c=>bu t cs hw (sets++[c]) a).2=Je then bu t cs hw (match aO t cs hw sets d with|none=>(sets,Jg)|some c=>bu t cs hw (sets++[c]) a).1 b else(match aO t cs hw sets d with|none=>(sets,Jg)|some c=>bu t cs hw (sets++[c]) a)
  cases e:aO t cs hw sets d with
  |none=>rfl
  |some c=>exact j7
def oU(h:bu t cs hw [] (ds.take i)=(sets,Je))(hd:ds[i]? =B' d)(hl:aO t cs hw sets d=Ji):bu t cs hw [] ds=(sets,Jg):=by
 have e:ds=ds.take i++d::ds.drop (i+1):=by
  obtain⟨hi,rfl⟩:=Jk.mp hd;rw[<-O6 hi,Ml]
 rw[e,j7,h,JL rfl];show(match aO t cs hw sets d with|none=>(sets,Jg)|some c=>bu t cs hw (sets++[c])<|ds.drop<|i+1)=_
 rw[hl]
def run_next{t:Str}{cs:IW (IW Int)}{hw:JJ}{ds:IW Jw}{sets:IW (IW Int)}{i:Nat}{d:Jw}{c:IW Int}(h:bu t cs hw [] (ds.take i)=(sets,Je))(hd:ds[i]? =B' d) (hl:aO t cs hw sets d=B' c):bu t cs hw [] (ds.take<|i+1)=(sets++[c],Je):=by
 rw[KQ,hd];show bu t cs hw [] (ds.take i++[d])=_
 rw[nB h,hl]
theorem cb:∀{ds:IW Jw} {sets out:IW (IW Int)},bu t cs hw sets ds=(out,Je)->out.length=sets.length+ds.length
 |[],sets,out,h=>by
  cases h;rfl
 |d::r,sets,out,h=>by
  have h':(match aO t cs hw sets d with|none=>(sets,Jg)|some c=>bu t cs hw (sets++[c]) r)=(out,Je):=h;cases g:aO t cs hw sets d with
  |none=>rw[g]at h';cases h'
  |some c=>
   rw[g]at h';have:=cb h';rw[JC,Kk]at this;rw[J4];lia
def getD_some{α:Type}{l:IW α}{i:Nat}{d:α}(h:i < l.length):l[i]? =B' (l.getD i d):=by grind
end OD
namespace DP
open PySem
def Bj:Ut (.type "list") "keys"=pure none:=by rw[SN,P7];kernel_rfl
def kJ:W6 table "dict.update.loop"=B' Builtin.«dict.update.loop»:=VQ (by kernel_rfl)
def fJ:plainId "dict.update.loop"=true:=by decide+kernel
def nC{Q:Jd IX->Ja->Prop}(hx:s.heap.get? l=B' o)(hc:o.cls=.type "list")(Ze:o.data=.seq xs k)(hd:o.dict=Ji)(hA:A.handled=Ji)
  (h:∀h' tk,(∀b o,s.heap.get? b=B' o->h'.get? b=B' o)->Q Ji {s with heap:=h',toks:=tk}):wpAny (JS prog w) A (W3 (.ref l) "keys") Q E s:=by
 obtain⟨c,dct,dat,sl⟩:=o;simp only at hc Ze hd;subst hc Ze hd;obtain⟨hp,g,d,tk,os⟩:=s;have hT:∀Y_,(⟨hp,g,d,Y_,os⟩:Ja).TypeIs (.ref l) "list":=λ_=>⟨_,hx,rfl⟩;have f1:=sub_AttributeError;have f3:=F.slot_list_getattribute.lookup;have f4:=F.slot_list_getattribute.bind<|.ref l;have f5:=am_list_getattr_none;unfold W3 getAttrBy? Ys
 repeat (any_goals (first|assumption|exact hT _|((with_reducible show wpAny _ _ (call (M0 "list.__getattribute__") _ _) _ _ _);refine W7 F.slot_list_getattribute (hT _) am_entry_list_getattribute (F.args_list_getattribute_2 _ _) (meets_getattribute_miss_list l xs k sl "keys" _ Bj (by decide+kernel)<|by decide+kernel) ⟨hx,hA,λh' Y_ e hx'=>?_⟩)|wp_step))
 obtain⟨t',u',he⟩:=hx'.there;show wpAny _ _ (Uw _ _ _ _ _ _ _) _ _ _
 unfold Uw
 repeat (any_goals (first|assumption|wp_step))
 exact h _ _ hx'.keeps
section
variable {prog:Js}{w:JV}{K:Type}[NV K]{knd:KeyKind prog w K}{A:J8}{s:Ja}
def lO(ht:s.heap.IsTuple t xs)(h:Q xs.toList s):wpAny (JS prog w) A (Sr<|.ref t) Q E s:=by
 obtain⟨o,ho,hc,n,hd⟩:=ht;have hT:s.TypeIs (.ref t) "tuple":=⟨o,ho,hc⟩;unfold Sr;refine IY<|PN hT ?_;rw[JL<|by decide];refine IY<|OK ho hd ?_;exact Jl h
def vU(hh:A.in1.handled=Ji){h0:J6}(hlI:l≠I)(hdI:d≠I)(hdl:d≠l)(hn:items.size<=sizeLine)(hm:more.length=items.size)
  (WQ:∀(i:Nat) (v:IX),items[i]? =B' v->∃kv key t,more[i]? =B' kv/\knd.is kv.1 key=Je/\v=.ref t/\t≠d/\t≠I/\h0.IsTuple t #[key,kv.2]) {R:UG->Ja->Prop}:
  ∀(m i:Nat) (s:Ja) (tk0:Tok),items.size - i=m->i<=items.size->s.heap.IsListIter I l i->s.heap.IsList l items->s.heap.DictOf knd d (Uu []<|more.take i)->
   (∀b o,b≠d->b≠I->h0.get? b=B' o->s.heap.get? b=B' o)->
   (∀h' tk,h'.DictOf knd d (Uu [] more)->(∀b o,b≠d->b≠I->h0.get? b=B' o->h'.get? b=B' o)->R (.ok<|.ret .none) {s with heap:=h',toks:=tk})->
   codeAny (JS prog w) A (.builtin "dict.update.loop" ⟨[.ref d,.ref I,.int (i:Int) tk0,.none],[]⟩) R s:=by
 have W:=QX (prog:=prog) (w:=w) (A:=A.in1) hh I l hlI items;intro m
 induction m with
 |zero=>
  intro i s tk0 hm0 hi Yy Mz Um TV hR;have e:i=items.size:=by lia
  subst e;refine LK kJ ?_;rw[Ll fJ _];refine IY (m:=Pp<|.ref I)<|W.done s _ _ ⟨Yy,Mz⟩ λh' tk hk=>?_;have Pk:∀b o,b≠I->s.heap.get? b=B' o->h'.get? b=B' o:=λb o hb e=>hk b o (by simpa using hb) e;refine IY (m:=RJ d [])<|Jl<|Jl ?_;refine hR h' tk ?_ λb o h1 h2 e=>Pk b o h2<|TV b o h1 h2 e;rw[JY<|by lia]at Um;obtain⟨o,es,ep,ho,r⟩:=Um;exact⟨o,es,ep,Pk d o hdI ho,r⟩
 |succ m ih=>
  intro i s tk0 hm0 hi Yy Mz Um TV hR;have NJ:i < items.size:=by lia
  refine LK kJ ?_;rw[Ll fJ _];refine IY (m:=Pp<|.ref I)<|W.item i s _ _ NJ ⟨Yy,Mz⟩ λv h' tk hv LD hk=>?_;have Pk:∀b o,b≠I->s.heap.get? b=B' o->h'.get? b=B' o:=λb o hb e=>hk b o (by simpa using hb) e;obtain⟨kv,key,t,hki,QV,rfl,htd,htI,ht⟩:=WQ i v hv;have ht':h'.IsTuple t #[key,kv.2]:=let ⟨o,ho,r⟩:=ht;⟨o,Pk t o htI<|TV t o htd htI ho,r⟩
  have abl:h'.DictOf knd d (Uu []<|more.take i):=let ⟨o,es,ep,ho,r⟩:=Um;⟨o,es,ep,Pk d o hdI ho,r⟩
  have hz:(Uu []<|more.take i).length<=sizeLine:=by
   have:=merged_length_le []<|more.take i;rw[J9]at this;simp only [Lk]at this;lia
  refine IY<|KN<|IY<|N_<|lO (s:={s with heap:=h',toks:=tk}) ht' ?_;dsimp only;refine KN<|wpAny_dictSet_pairs (s:={s with heap:=h',toks:=tk}) (hsz:=hz) QV abl λh2 Wp sb=>?_;have e2:Uu [] (more.take<|i+1)=stored (Uu []<|more.take i) kv.1 kv.2:=merged_take_succ _ _ _ _ hki;refine Jl ⟨MK fJ _,?_⟩;refine ih (i+1) {s with heap:=h2,toks:=tk+1} 0 (by lia) NJ ?_ ?_ (by rw[e2];exact Wp) (λb o h1 hbI e=>(sb.2 b h1).trans<|Pk b o hbI<|TV b o h1 hbI e) λh3 tk3 b1 b2=>hR h3 tk3 b1 b2
  ·exact LD.1.at λo e=>(sb.2 I λz=>hdI z.symm).trans e
  ·exact LD.2.at λo e=>(sb.2 l λz=>hdl z.symm).trans e
def call_pairs{E:IX->Ja->Prop}(hh:A.handled=Ji){Q:IX->Ja->Prop}(hl:s.heap.get? l=B' ol)(hc:ol.cls=.type "list")(Ze:ol.data=.seq items nl)(hdd:ol.dict=Ji)(hn:items.size<=sizeLine)(hm:more.length=items.size)
  (WQ:∀(i:Nat) (v:IX),items[i]? =B' v->∃kv key t,more[i]? =B' kv/\knd.is kv.1 key=Je/\v=.ref t/\s.heap.IsTuple t #[key,kv.2])
  (h:∀(h':J6) (tk:Nat),h'.DictOf knd s.heap.objs.size (Uu [] more)->(∀b o,s.heap.get? b=B' o->h'.get? b=B' o)->Q (.ref s.heap.objs.size) {s with heap:=h',toks:=tk}):
  wpAny (JS prog w) A (call (.type "dict") [.ref l]) Q E s:=by
 refine W8 (Q₁:=λobj s₁=>obj=.ref s.heap.objs.size/\s₁={s with heap:=s.heap.push {cls:=.type "dict",data:=.dict #[]}}) VZ (To _) Vi (VP _ ⟨rfl,rfl⟩) ?_;rintro obj s₁ ⟨rfl,rfl⟩;have Wo:(s.heap.push {cls:=.type "dict",data:=.dict #[]}).DictOf knd s.heap.objs.size []:=Ww s.heap;have SI:=Jb {cls:=.type "dict",data:=.dict #[]} hl;have NJ:l < s.heap.objs.size:=Jv hl;have hTl:Ui {s with heap:=s.heap.push {cls:=.type "dict",data:=.dict #[]}} (.ref l) "list":=⟨_,SI,hc⟩;exists Wo.typeIs,UI _ _;unfold Builtin.«dict.__init__»;refine IY ?_;unfold RI;refine IY<|P6 Wo.typeIs ?_;show wpAny _ _ (pure (s.heap.objs.size,[Kb l])) _ _ _
 refine Jl ?_;show wpAny _ _ (Oc "dict.__init__" s.heap.objs.size (.ref l) [] .none) _ _ _
 unfold Oc;refine IY<|PN hTl ?_;rw[JL<|by decide];refine IY<|nC SI hc Ze hdd (by simpa using hh) λh1 tk1 k1=>?_;have YD:=k1 _ _ SI;have abw:h1.IsList l items:=⟨_,YD,hc,nl,Ze⟩;simp only [Q8,Ms];refine IY<|MV<|IY<|NN (s:={s with heap:=h1,toks:=tk1}) abw<|Jl ?_;exists MK fJ _;have Y4:=JX s.heap (o:={cls:=.type "dict",data:=.dict #[]}) rfl;have ZF:=k1 _ _ Y4;have ade:l < h1.objs.size:=Jv YD;have aby:s.heap.objs.size < h1.objs.size:=Jv ZF;have ZY:h1.DictOf knd s.heap.objs.size []:=let ⟨o,es,ep,ho,r⟩:=Wo;⟨o,es,ep,k1 _ _ ho,r⟩
 have YE:(h1.push {cls:=.type "list_iterator",data:=.fields #[.ref l,.int 0 0]}).get? h1.objs.size=B' {cls:=.type "list_iterator",data:=.fields #[.ref l,.int 0 0]}:=JX _ rfl;refine vU (knd:=knd) (by simpa using hh) (h0:=h1.push {cls:=.type "list_iterator",data:=.fields #[.ref l,.int 0 0]}) (I:=h1.objs.size) (l:=l) (items:=items) (more:=more) (JO ade) (JO aby) (NS NJ) hn hm (λi v hv=>?_) (items.size - 0) 0 _ 0 rfl (JQ _) ⟨_,YE,rfl,rfl⟩ (abw.push _) (by rw[NC];exact ZY.push _) (λb o _ _ e=>e) λh' tk b1 b2=>?_
 ·obtain⟨kv,key,t,a1,a2,a3,a4⟩:=WQ i v hv;obtain⟨o,ho,r⟩:=a4;have ho1:=k1 _ _<|Jb {cls:=.type "dict",data:=.dict #[]} ho;exact⟨kv,key,t,a1,a2,a3,JO<|Jv ho,JO<|Jv ho1,o,Jb _ ho1,r⟩
 ·refine⟨rfl,h h' tk b1 λb o e=>?_⟩;have e1:=k1 _ _<|Jb {cls:=.type "dict",data:=.dict #[]} e;exact b2 b o (JO<|Jv e) (JO<|Jv e1)<|Jb _ e1
end
end DP
namespace L2
open PySem PySem.Spec PyProof.Rows
def vV(o:Obj)(f:JF IX->JF IX):(MM f o).dict=o.dict:=by
 unfold MM;cases o with
 |mk c d dt sl=>cases dt<;>rfl
def IU(h B:J6)(e:I_)(dx:Jd I_)(cls a0 fl:IX):Prop:=
 ∃(oe:Obj) (vs:JF IX) (T:I_) (oT:Obj) (ts:JF IX),h.get? e=B' oe/\oe.dict=dx/\oe.cls=cls/\vs[0]? =B' a0/\oe.data=.fields vs/\vs[1]? =B' (.ref T)/\B.get? T=Ji/\T≠e/\h.get? T=B' oT/\oT.data=.fields ts/\ts[3]? =B' fl
structure AtD (B:J6)(l:IW Env)(e:I_)(dx:Jd I_)(cls a0 fl:IX)(h:J6):Prop where
 stay:B.StaysIn h
 new:B.get? e=Ji
 frames:h.FunFrames B l
 tr:IU h B e dx cls a0 fl
abbrev FlyD(B:J6)(l:IW Env)(e:I_)(dx:Jd I_)(cls a0:IX)(h:J6):Prop:=AtD B l e dx cls a0 .none h
def AtD.there(x:AtD B l e dx cls a0 fl h):∃ob,h.get? e=B' ob/\ob.cls=cls/\ob.dict=dx/\∃vs,ob.data=.fields vs:=by
 obtain⟨_,_,_,oe,vs,_,_,_,he,h1,h2,_,h3,_⟩:=x;exact⟨oe,he,h2,h1,vs,h3⟩
def FlyD.old(x:FlyD B l e dx cls a0 h):OY B l e cls a0 h:=by
 obtain⟨a,b,c,oe,vs,T,oT,ts,h1,_,h2,h3,h4⟩:=x;exact⟨a,b,c,oe,vs,T,oT,ts,h1,⟨h2,h3⟩,h4⟩
section
variable {L:I_}
def yl{M:R4}{A:J8}{E:IX->Ja->Prop}{s:Ja}{B:J6}{env:Env}{outer:IW Env}{e:I_}{a0:IX}{vs:JF IX}{hd:IX}{more:JJ}{Q:SU->Ja->Prop}(fr:A.frames=B' (env::outer))(ff:s.heap.FunFrames B (env::outer))(ef:env.frame=B' L)(ge:s.heap.get? e=B' oe)(st:B.StaysIn s.heap)(nw:B.get? e=Ji)
  (od:oe.data=.fields vs) (sz:1 < vs.size) (v0:vs[0]? =B' a0) (k:∀h',AtD B (env::outer) e oe.dict oe.cls a0 (OL L) h'->s.heap.UpToSlots h'->Q () {s with heap:=h'}):
  wpAny M A (do let a <-frameOf env;let pl <-entryPlaceOf L more;let b <-T_ hd a .none (OL L) .none pl;W1 (.ref e) 1 b) Q E s:=by
 have nofr:e∉(env::outer).filterMap (·.frame):=λm=>by
  obtain⟨_,o,go,nf⟩:=ff.mem m;rw[ge]at go;cases go;exact nf vs od
 refine IY<|wpAny_frameOf_fun fr ff ef λg so=>?_;refine IY<|wpAny_entryPlaceOf λpl ip=>?_;unfold T_ newFields;refine IY<|NO ?_<|ip.sizeOk5 _ _ _ _ _;have g1:g.get? e=B' oe:=(so.2.1 e nofr).trans ge;have Yy:B.StaysIn g:=λb o hb=>(so.2.1 b λm=>by rw[(ff.mem m).1]at hb;cases hb).trans<|st b o hb;generalize ht:({cls:=.type "traceback",dict:=Ji,data:=.fields ([hd,.ref L,.none,OL L,.none]++(if pl.isEmpty then TC 6 NB else pl)).toArray}:Obj)=tb;have fz:tb.isFreed=false:=by rw[<-ht];rfl
 have td:tb.data=.fields ([hd,.ref L,.none,OL L,.none]++(if pl.isEmpty then TC 6 NB else pl)).toArray:=by rw[<-ht]
 have g2:=Jb (h:=g) tb g1;refine OJ g2 od sz<|k _ ?_ ?_
 ·have ne:g.objs.size≠e:=NS<|Jv g1;have d3:=MW od (·.setIfInBounds 1 (Kb g.objs.size));have g3:=Ld (MM (·.setIfInBounds 1 (Kb g.objs.size))) g2<|Ox d3;have gT:=(J7 (g.push tb) (MM (·.setIfInBounds 1 (Kb g.objs.size)))<|Ma ne).trans<|JX g fz;have kp:∀b o,b≠e->g.get? b=B' o->((g.push tb).update e (MM (·.setIfInBounds 1 (Kb g.objs.size)))).get? b=B' o:=λb o hb q=>by
   rw[J7 _ _<|Ma hb];exact Jb _ q
  refine⟨λb o hb=>kp b o (λz=>by rw[z,nw]at hb;cases hb)<|Yy b o hb,nw,ff.of_keeps λb o hb nf=>?_,?_⟩
  ·obtain⟨sl,q⟩:=so.2.2 b o hb;exact⟨_,kp b _ (λz=>by rw[z,ge]at hb;cases hb;exact nf vs od) q,rfl⟩
  ·refine⟨_,_,g.objs.size,tb,_,g3,vV _ _,Rv _ _,by rw[P5<|by decide];exact v0,d3,by simp [sz],Yy.fresh,ne,gT,td,?_⟩
   first|(simp;done)|(obtain rfl|⟨_,_,_,_,_,_,_,rfl⟩:=ip<;>simp)
 ·intro b o hb nf;obtain⟨sl,q⟩:=so.2.2 b o hb;refine⟨sl,?_⟩;have hbe:b≠e:=λz=>by rw[z,ge]at hb;cases hb;exact nf vs od
  rw[J7 _ _<|Ma hbe];exact Jb _ q
def ub(x:AtD B l e dx cls a0 fl s.heap)(k:∀h',FlyD B l e dx cls a0 h'->s.heap.UpToSlots h'->Q () {s with heap:=h'}):wpAny M A (setFlight (.ref e) Ji) Q E s:=by
 obtain⟨st,nw,ff,oe,vs,T,oT,ts,ge,hd,hc,h0,od,h1,nT,neT,gT,dT,h3⟩:=x;have sz3:3 < ts.size:=(Kv.mp h3).1;have ot:∀b,b≠T->(s.heap.update T (MM (·.setIfInBounds 3 ((Ji:Jd I_).elim NB λf=>OL f)))).get? b=s.heap.get? b:=λb hb=>J7 _ _<|Ma hb;have nf:∀b o,s.heap.get? b=B' o->(∀vs,o.data≠.fields vs)->b≠T:=λb o hb n z=>by
  rw[z,gT]at hb;cases hb;exact n ts dT
 unfold setFlight;refine IY<|S8 ge od h1 ?_;rw[JL (show(Kb T != NB)=Je by simp)];refine OJ gT dT sz3<|k _ ⟨λb o hb=>(ot b λz=>by rw[z,nT]at hb;cases hb).trans<|st b o hb,nw,ff.of_keeps λb o hb n=>⟨o,(ot b<|nf b o hb n).trans hb,rfl⟩,?_⟩ λb o hb n=>⟨o.slots,(ot b<|nf b o hb n).trans hb⟩;exact⟨oe,vs,T,_,_,(ot e<|Ma neT).trans ge,hd,hc,h0,od,h1,nT,neT,Ld _ gT<|Ox<|MW dT _,MW dT _,by simp [sz3]⟩
def Bk{vs:JF IX}{Q:SU->Ja->Prop}(fr:A.frames=B' (env::outer))(ff:s.heap.FunFrames B (env::outer))(ef:env.frame=B' L)(ge:s.heap.get? e=B' oe)(st:B.StaysIn s.heap)(nw:B.get? e=Ji)
  (od:oe.data=.fields vs) (h1:vs[1]? =B' .none) (h0:vs[0]? =B' a0) (k:∀h',FlyD B outer e oe.dict oe.cls a0 h'->s.heap.UpToSlots h'->Q () {s with heap:=h'}):wpAny M A (Ro env<|.ref e) Q E s:=by
 unfold Ro VO;simp only [ef];refine IY<|IY<|S8 ge od h1 ?_;rw[JK<|by decide];refine yl fr ff ef ge st nw od (Kv.mp h1).1 h0 λh' x up=>ub x λh2 y up2=>k h2 ⟨y.stay,y.new,?_,y.tr⟩<|up.trans up2;obtain⟨_,_,z⟩:=y.frames;exact z
def CG(fr:A.frames=B' (env::outer))(ef:env.frame=B' L)(x:FlyD B (env::outer) e dx cls a0 s.heap)(k:∀h',AtD B (env::outer) e dx cls a0 (OL L) h'->s.heap.UpToSlots h'->Q () {s with heap:=h'}):wpAny M A (VO (.ref e) env) Q E s:=by
 obtain⟨st,nw,ff,oe,vs,T,oT,ts,ge,hd,hc,h0,od,h1,nT,neT,gT,dT,h3⟩:=x;subst hd hc;unfold VO;simp only [ef];refine IY<|S8 ge od h1 ?_;rw[JL (show(Kb T != NB)=Je by simp)];refine IY<|S8 gT dT h3 ?_;rw[JK (show¬((NB == OL L)=Je) by simp [OL])];refine IY<|OJ gT dT (Kv.mp h3).1 ?_;have ot:∀b,b≠T->(s.heap.update T (MM (·.setIfInBounds 3 NB))).get? b=s.heap.get? b:=λb hb=>J7 _ _<|Ma hb;have nf:∀b o,s.heap.get? b=B' o->(∀vs,o.data≠.fields vs)->b≠T:=λb o hb n z=>by
  rw[z,gT]at hb;cases hb;exact n ts dT
 exact yl fr (ff.of_keeps λb o hb n=>⟨o,(ot b<|nf b o hb n).trans hb,rfl⟩) ef ((ot e<|Ma neT).trans ge) (λb o hb=>(ot b λz=>by rw[z,nT]at hb;cases hb).trans<|st b o hb) nw od (Kv.mp h1).1 h0
  λh' x up=>k h' x λb o hb n=>up b o ((ot b<|nf b o hb n).trans hb) n
def Et(fr:A.frames=B' (env::outer))(ef:env.frame=B' L)(x:FlyD B (env::outer) e dx cls a0 s.heap)(k:∀h',FlyD B outer e dx cls a0 h'->s.heap.UpToSlots h'->Q () {s with heap:=h'}):wpAny M A (Ro env<|.ref e) Q E s:=by
 unfold Ro;refine IY<|CG fr ef x λh' y up=>ub y λh2 z up2=>k h2 ⟨z.stay,z.new,?_,z.tr⟩<|up.trans up2;obtain⟨_,_,z'⟩:=z.frames;exact z'
end
structure FliesD (P:Js)(w:JV)(outer:IW Env)(H:Hp)(s:Ja)(H':Hp)(B:J6)(ea:I_)(dx:Jd I_)(cls a0:IX)(s':Ja):Prop where
 os:s'.os=s.os
 bare:Qn s'.gens
 fly:FlyD B outer ea dx cls a0 s'.heap
 hok:HOk P w H' B
 keep:∀b o,s.heap.get? b=B' o->H b=Ji->b∉d9 outer->B.get? b=B' o
 thr:∀b o,s.heap.get? b=B' o->b∉d9 outer->∃o',B.get? b=B' o'
 slot:∀b o,s.heap.get? b=B' o->H b=Ji->b∈d9 outer->∃sl,s'.heap.get? b=B' {o with slots:=sl}
 free:∀b o,s.heap.get? b=B' o->H b=Ji->H' b=Ji
 tups:∀b xs,H b=B' (.tup xs)->H' b=B' (.tup xs)
 frzs:∀b o u,H b=B' (.frz o u)->H' b=B' (.frz o u)
 tbls:∀b ps,H b=B' (.tbl ps)->∃more,H' b=B' (.tbl<|ps++more)
def iM(P:Js)(w:JV):tD:=λouter H s E e s'=>∃(H':Hp) (B:J6) (ea:I_) (dx:Jd I_) (cls a0:IX),e=.ref ea/\FliesD P w outer H s H' B ea dx cls a0 s'/\E cls dx H'
def FliesD.slotted(f:FliesD P w outer H s H' B ea dx cls a0 s')(up:s'.heap.UpToSlots h')(e:s.heap.get? b=B' o)(n:H b=Ji)(hb:b∈d9 outer):∃sl,h'.get? b=B' {o with slots:=sl}:=by
 obtain⟨sl,e1⟩:=f.slot b o e n hb;obtain⟨_,o1,e2,nf⟩:=f.fly.frames.mem (b:=b) hb;rw[e1]at e2;cases e2;obtain⟨sl',e3⟩:=up b _ e1 nf;exact⟨sl',e3⟩
theorem FliesD.un(f:FliesD P w outer H s H' B ea dx cls a0 s')(st:B.StaysIn h')(up:s'.heap.UpToSlots h')(frf:∀b∈d9 outer,H b=Ji):Un (d9 outer) [] H H' s.heap h' where
 keep:=λb o e n hb _=>st b o (f.keep b o e n hb)
 slot:=λb o e n hb _=>f.slotted up e n hb
 free:=λb o e n _=>f.free b o e n
 there:=λb o e _=>by
  by_cases hb:b∈d9 outer
  ·obtain⟨sl,q⟩:=f.slotted up e (frf b hb) hb;exact⟨_,q⟩
  ·obtain⟨o',q⟩:=f.thr b o e hb;exact⟨o',st b o' q⟩
 tups:=f.tups
 frzs:=f.frzs
 tbls:=f.tbls
section
variable {K:IZ}
def Gu:kY (iM P w) (cq (iM P w) P w K mg base N qual scope f cd A outer s H E) E:=by
 intro Jf σ H1 s1 e s2 I h;obtain⟨H',B,ea,dx,cls,a0,rfl,fl,hE⟩:=h;have NJ:∀b o,s.heap.get? b=B' o->b∉d9 outer->b∉d9 (J' qual scope s.heap.objs.size f cd::outer):=λb o e hb hm=>by
  obtain⟨env,he,hf⟩:=Kh.mp hm;obtain rfl|he:=J2.mp he
  ·have:s.heap.objs.size=b:=JN hf;exact absurd (Jv e) (by rw[this];exact LO b)
  ·exact hb<|Kh.mpr ⟨env,he,hf⟩
 have YB:∀b,b∈d9 outer->b∈d9 (J' qual scope s.heap.objs.size f cd::outer):=λb hb=>by
  obtain⟨env,he,hf⟩:=Kh.mp hb;exact Kh.mpr ⟨env,Jy _ he,hf⟩
 show wpAny (JS P w) _ (Ro (J' qual scope s.heap.objs.size f cd)<|.ref ea) _ _ s2
 refine Et (outer:=outer) (L:=s.heap.objs.size) I.ok.frames rfl fl.fly λh' adv up=>⟨H',B,ea,dx,cls,a0,rfl,⟨?_,fl.bare,adv,fl.hok,λb o e n hb=>?_,λb o e hb=>?_,λb o e n hb=>?_,λb o e n=>?_,λb xs e=>?_,λb o u e=>?_,λb ps e=>?_⟩,hE⟩
 ·exact fl.os.trans I.os
 ·exact fl.keep b o (I.base.keep b o e n hb<|by intro z;cases z) (I.base.free b o e n<|by intro z;cases z)<|NJ b o e hb
 ·obtain⟨o1,e1⟩:=I.base.there b o e (by intro z;cases z);exact fl.thr b o1 e1<|NJ b o e hb
 ·obtain⟨sl,e1⟩:=I.base.slot b o e n hb (by intro z;cases z);obtain⟨sl2,e2⟩:=fl.slotted up e1 (I.base.free b o e n<|by intro z;cases z)<|YB b hb;exact⟨sl2,e2⟩
 ·obtain⟨o1,e1⟩:=I.base.there b o e (by intro z;cases z);exact fl.free b o1 e1 (I.base.free b o e n<|by intro z;cases z)
 ·exact fl.tups b xs<|I.base.tups b xs e
 ·exact fl.frzs b o u<|I.base.frzs b o u e
 ·obtain⟨m1,e1⟩:=I.base.tbls b ps e;obtain⟨m2,e2⟩:=fl.tbls b _ e1;exact⟨m1++m2,by rw[e2,Rf]⟩
end
def Fun.okD{P:Js}{w:JV}{K:IZ}{mg:Str->Jd IX}{base:J6}{st:Lh}{k:Nat}(F:Fun K x qual st f fd)(S:aH N ps (ap st))(len:∀vs H Q E,sp vs H Q E->vs.length=ps.length)
  (WW:∀MG A outer s H vs Q E,Room k (A.deeper<|J' qual (ap st) s.heap.objs.size f MG)->sp vs H Q E->
   ∃t,PSs (cq (iM P w) P w K mg base N qual (ap st) f MG A outer s H E) (cM st) t/\t {nx:=λ_ H'=>Q .non H',rt:=Q} (start N vs) H):FnOk P w K mg base (iM P w) (k+1) f fd ps sp:=by
 obtain⟨oc,od,kV,UY,pm,an,MG,ct,osl,rfl,lk,Yo⟩:=F.ex;refine wR lk Yo S len λA outer s H vs Q E hr hsp=>?_;obtain⟨t,h,q⟩:=WW MG A outer s H vs Q E hr hsp;exact⟨t,h,q⟩
section
variable {os:Ql}
variable {sub:IW IX}
def mE(F:Vj B newId YA Wa)(T:YT h Wa bm){mN:Str->Jd IX}{us:IW IX}{fI:I_}{oI:Obj}{Q:Fin->Ja->Prop}(cC:h.get? C=B' (Rq nm q C N bs bm hdct sn sub ab col dd k0 k1 k2 k3 k5 newId))
  (nN:h.Ns N mN) (ni:mN "__init__"=B' (.ref fI)) (gI:h.get? fI=B' oI) (cI:oI.cls=.type "function") (hz:us.length<=sizeLine)
  (k:∀h' e,Tn h h' e (.ref C) us->wpAny (JS prog w) A (call (.ref fI)<|.ref e::us) (λr s'=>r=.none/\Q (.done<|.ret<|.ref e) s') E ⟨h',g,d,t,os⟩):
  wpAny (JS prog w) A (Builtin.«type.__call__» ⟨.ref C::us,[]⟩) Q E ⟨h,g,d,t,os⟩:=by
 repeat (first|with_reducible refine Ks cC ?_|with_reducible refine wpAny_madeBy_exc cC ?_|wp_step)
 refine codeAny_call_builtin_code (Pu _ F.quiet)<|wpAny_check_new_subT F T cC<|codeAny_exc_new_subT F T cC ?_ hz;show wpAny _ _ _ _ _ _
 have kp:∀b o,h.get? b=B' o->((h.push {cls:=.type "tuple",data:=.seq us.toArray}).push {cls:=.ref C,data:=.fields #[.ref h.objs.size,.none,.none,.none,.bool Jg,.none]}).get? b=B' o:=λb o hb=>Jb _<|Jb _ hb;have ge:((h.push {cls:=.type "tuple",data:=.seq us.toArray}).push {cls:=.ref C,data:=.fields #[.ref h.objs.size,.none,.none,.none,.bool Jg,.none]}).get? (h.objs.size+1)=B' {cls:=.ref C,data:=.fields #[.ref h.objs.size,.none,.none,.none,.bool Jg,.none]}:=by heap_get
 have gt:((h.push {cls:=.type "tuple",data:=.seq us.toArray}).push {cls:=.ref C,data:=.fields #[.ref h.objs.size,.none,.none,.none,.bool Jg,.none]}).get? h.objs.size=B' {cls:=.type "tuple",data:=.seq us.toArray}:=Jb _<|Vh rfl rfl;have cc:(Kb C::bm).contains (.ref C)=true:=by simp
 have c1:=kp _ _ cC;unfold Uv
 repeat (first|with_reducible refine Ks ge ?_|(with_reducible refine T7 c1 ?_;rw[cc])|wp_step)
 show wpAny _ _ (Ut (.ref C) _) _ _ _
 refine wpAny_typeLookup_tail c1 (nN.keeps kp) (T.keeps kp) F.mroIs F.init.lookup ?_;rw[ni];refine KN<|IY ?_;unfold bindSpecial;refine IY<|PN (T:="function") ⟨_,kp _ _ gI,cI⟩ ?_;rw[JL<|by decide];refine Jl<|IY<|Kf (k _ (h.objs.size+1) ⟨kp,OO<|OR _,h.objs.size,ge,OO<|Jh _,gt⟩) (λr s' z=>?_) λ_ _ z=>z;obtain⟨rfl,z⟩:=z
 wp_walk
 exact z
def vW(F:Vj B newId YA Wa)(T:YT h Wa bm){mN:Str->Jd IX}{us:IW IX}{fI:I_}{oI:Obj}{Q:IX->Ja->Prop}(cC:h.get? C=B' (Rq nm q C N bs bm hdct sn sub ab col dd k0 k1 k2 k3 k5 newId))
  (nN:h.Ns N mN) (ni:mN "__init__"=B' (.ref fI)) (gI:h.get? fI=B' oI) (cI:oI.cls=.type "function") (hz:us.length<=sizeLine)
  (k:∀h' e,Tn h h' e (.ref C) us->wpAny (JS prog w) (A.under<|.builtin "type.__call__" ⟨.ref C::us,[]⟩) (call (.ref fI)<|.ref e::us) (λr s'=>r=.none/\Q (.ref e) s') E ⟨h',g,d,t,os⟩):
  wpAny (JS prog w) A (call (.ref C) us) Q E ⟨h,g,d,t,os⟩:=by
 have e1:=tc_lookup;have e2:=tc_bind<|.ref C;have ty:(⟨h,g,d,t,os⟩:Ja).TypeIs (.ref C) "type":=⟨_,cC,rfl⟩;refine Qa<|SO ?_;show wpAny _ _ (callAny (.ref C) _) _ _ _
 repeat (any_goals (first|assumption|with_reducible refine Ks cC ?_|wp_step))
 exact⟨rfl,codeAny_call_builtin_at (Pu _<|by decide+kernel) entry_typeCall<|wpAny_check_type_call_sub cC<|mE F T cC nN ni gI cI hz k⟩
end
section
variable {os:Ql}{K:IZ}
def oV{tk:Tok}(X:K.In h)(T:dL K C)(nf:KG K (.ref C) x=B' Ji)(hx:h.get? a=B' o)(hc:o.cls=.ref C)(hdc:NP K C=Je)(hd:o.dict=B' dx)(hf:∃vs,o.data=.fields vs)(hn:h.Ns1 dx mA)(hv:mA x=B' v)(hq:Q (.done<|.ret v) ⟨h,g,d,t,os⟩):
  wpAny (JS prog w) A (Builtin.«object.__getattribute__» ⟨[.ref a,.str x tk],[]⟩) Q E ⟨h,g,d,t,os⟩:=by
 have L1:=Mb (M:=JS prog w) X nf
 repeat (any_goals (first|assumption|(with_reducible refine Ks hx ?_;rw[hc])|(with_reducible refine Ks hx ?_;rw[hd])|with_reducible refine L1.at ?_|wp_step))
 obtain⟨vs,hf⟩:=hf;rw[hf];dsimp only;unfold NP at hdc;obtain⟨cd,qc⟩:=T.cls;rw[qc]at hdc;have Yo:cd.hasDict=true:=hdc;have Lc:=O7 (M:=JS prog w) X qc;unfold instanceDict;refine IY<|Ks hx ?_;rw[hc,hd];dsimp only;refine IY<|Lc.at ?_;rw[Yo];refine Qw (λz=>absurd z<|by decide) λ_=>?_;refine Jl ?_;show wpAny _ _ (nsGet dx x) _ _ _
 refine wpAny_nsGet hn.ns ?_;rw[hv];dsimp only;refine IY<|MV ?_;exact Jl<|Jl hq
def Bl{Q:IX->Ja->Prop}{ahH:JJ}(X:K.In h)(T:dL K C)(nf:KG K (.ref C) x=B' Ji)(hx:h.get? a=B' o)(hc:o.cls=.ref C)(hdc:NP K C=Je)(hd:o.dict=B' dx)(hf:∃vs,o.data=.fields vs)(hn:h.Ns1 dx mA)(hv:mA x=B' v)
  (hh:handedOut v=pure v) (hq:Q v ⟨h,g,d,t+1,os⟩):wpAny (JS prog w) A (getAttr (.ref a) x ahH) Q E ⟨h,g,d,t,os⟩:=by
 have f3:=PySem.F.attr_ValueError.ga.bind<|.ref a;have hx2:(M0 "BaseException.__getattribute__" == M0 "object.__getattribute__")=false:=by decide+kernel
 have hx1:(Yq (Kb C)&&M0 "BaseException.__getattribute__" == M0 "object.__getattribute__")=false:=by rw[hx2];rfl
 have L1:=Mb (M:=JS prog w) X T.ga;have L2:=Mb (M:=JS prog w) X T.gt;unfold getAttr Ys
 repeat (any_goals (first|assumption|(with_reducible refine Ks hx ?_;rw[hc])|with_reducible refine L1.at ?_|with_reducible refine L2.at ?_|wp_step))
 rw[show Yq (M0 "BaseException.__getattribute__")=Jg from rfl,Kp];refine Qw (λz=>absurd z<|by decide) (λ_=>?_)
 repeat (any_goals (first|assumption|wp_step))
 refine Na PySem.F.attr_ValueError.ga.plain Wz<|mW X T hx hc<|oV X T nf hx hc hdc hd hf hn hv ?_;show wpAny (JS prog w) A (handedOut v) Q E _
 rw[hh];exact Jl hq
def ir(X:K.In h)(hx:h.get? a=B' o)(hc:o.cls=.ref C)(gD:h.get? D=B' oD)(dD:oD.data=.cls cd)(be:J5 K D (.type "BaseException")=B' Je)(dt:Pc M h (typeOf<|.ref D) (.type "type"))(hm:J5 K C (.ref D)=B' b)(hq:Q b ⟨h,g,d,t,os⟩):
  wpAny M A (excMatches (.ref a)<|.ref D) Q E ⟨h,g,d,t,os⟩:=by
 have f:=tc_notTuple;have L1:=Nj (M:=M) X be;have L2:=Nj (M:=M) X hm;unfold excMatches
 repeat (any_goals (first|assumption|(with_reducible refine Ks hx ?_;rw[hc])|(with_reducible refine Ks gD ?_;rw[dD])|with_reducible refine dt.at ?_|with_reducible refine L1.at ?_|with_reducible refine L2.at ?_|wp_step))
 cases b
 ·simp only [JA,La,LF]
  repeat (first|exact hq|(with_reducible refine Jl ?_)|(simp only [aa4])|wp_step)
 ·simp only [Ms,LF]
  repeat (first|exact hq|(with_reducible refine Jl ?_)|wp_step)
end
def fg(hx:h.get? a=B' o)(hc:o.cls=v):Pc M h (typeOf<|.ref a) v:=by
 rw[<-hc];exact(VX hx).andThen .now
theorem qD(ok:HOk P w H h):∀(ts:IW I_) (kvs:IW (bz×V)),ts.length=kvs.length->(∀(i:Nat) (t:I_) (kv:bz×V),ts[i]? =B' t->kvs[i]? =B' kv->H t=B' (.tup [kV kv.1,kv.2]))->
  ∃more:IW (bz×IX),KV kvs more/\more.length=ts.length/\more.map (·.1)=kvs.map (·.1)/\∀(i:Nat) (t:I_),ts[i]? =B' t->∃kv key,more[i]? =B' kv/\(bn P w).is kv.1 key=Je/\h.IsTuple t #[key,kv.2]
 |[],[],_,_=>⟨[],.nil,rfl,rfl,λi t e=>by simp at e⟩
 |[],_::_,e,_=>by simp at e
 |_::_,[],e,_=>by simp at e
 |t::ts,kv::kvs,e,hp=>by
  obtain⟨more,a1,a2,a3,a4⟩:=qD ok ts kvs (by simpa using e) λi t' kv' e1 e2=>hp (i+1) t' kv' (by simpa using e1) (by simpa using e2);obtain⟨_,Lj,r,o,h1,h2,n,h3⟩:=(show ObjOk P w H h t (.tup [kV kv.1,kv.2])from ok t _<|hp 0 t kv rfl rfl);obtain⟨u,v,rfl,ru,rv⟩:=r.two;refine⟨(kv.1,v)::more,.cons ⟨rfl,rv⟩ a1,by simp [a2],by simp [a3],λi t' e1=>?_⟩;cases i with
  |zero=>
   have e':t=t':=by simpa using e1
   subst e';exact⟨(kv.1,v),u,rfl,iS ru,o,h1,h2,n,h3⟩
  |succ i=>
   obtain⟨kv',key,b1,b2,b3⟩:=a4 i t' (by simpa using e1);exact⟨kv',key,by simpa using b1,b2,b3⟩
inductive CI (xs:IW V)(H:Hp)(Q:VK):Prop
 |mk (l:I_)(ts:IW I_)(kvs:IW (bz×V))(hx:xs=[.ref l])(h:H l=B' (.lst<|ts.map V.ref))(hl:ts.length=kvs.length)(hp:∀(i:Nat) (t:I_) (kv:bz×V),ts[i]? =B' t->kvs[i]? =B' kv->H t=B' (.tup [kV kv.1,kv.2])) (nd:(kvs.map (·.1)).Nodup) (z:kvs.length<=9000)
  (q:∀d,H d=Ji->Q (.ref d) (upd H d<|.dK kvs)):CI xs H Q
def r_(hc:X.calm=Je):dY X (.type "dict") CI:=by
 intro Jf s σ H xs us Q I r h;obtain⟨l,ts,kvs,rfl,hH,hl,hp,nd,z,q⟩:=h;obtain⟨u,rfl,ru⟩:=r.one;cases ru;obtain⟨z1,Lj,n,rv,L_,e⟩:=I.lstM hH;obtain⟨more,a1,a2,a3,a4⟩:=qD I.hok ts kvs hl hp;have ag6:Lj.length=ts.length:=by
  rw[<-L_,Jc]
 refine DP.call_pairs (knd:=bn X.prog X.w) (more:=more) (I.ok.hd hc) e rfl rfl rfl (by rw[JH];lia) (by rw[JH];lia) (λi v hv=>?_) λh' tk hd hk=>?_
 ·have ZT:Lj[i]? =B' v:=by simpa using hv
  have hi:i < ts.length:=by
   have:=(Jk.mp ZT).1;lia
  have ht:ts[i]? =B' ts[i]:=Jm hi;obtain⟨kv,key,b1,b2,b3⟩:=a4 i _ ht;have hx:(ts.map V.ref)[i]? =B' (.ref ts[i]):=by rw[JW,ht];rfl
  obtain⟨v',hv2,rv'⟩:=rv.get hx;rw[ZT]at hv2;cases hv2;cases rv';exact⟨kv,key,_,b1,b2,rfl,b3⟩
 ·rw[merged_nil_of_nodup more<|by rw[a3];exact nd]at hd;refine⟨.ref s.heap.objs.size,_,I.laid (a:=s.heap.objs.size) (o:=.dK kvs) (t':=tk) (λb q hq=>hk b q hq) (Jh _)<|oE (K_<|wX<|by lia) (LQ.mpr<|Ma<|JO I.big) a1 hd,rfl,q _<|I.hok.fresh<|Jh _⟩
def Il(c:TT)(t u:Cy):Cy:=λEX D σ H=>c σ H λb H1=>if b=Je then t EX D σ H1 else u EX D σ H1
def oW(Yl:∀e s,X.xe e s->False)(hc:PT X c tc)(ha:Fr X a t)(hb:Fr X b u):Fr X [.If c a b pos] (Il tc t u):=by
 intro Jf s σ H D EX I h;refine Oa<|Zk<|Kf (hc Jf s σ H _ I h) (λd s1 ⟨H1,I1,q1⟩=>?_) λe' s' z=>(Yl e' s' z).elim;cases d with
 |true=>
  refine aW<|Kf (ha Jf s1 σ H1 D EX I1 q1) (λfl s2 q2=>?_) λ_ _ z=>z;cases fl with
  |next=>exact Ly q2
  |ret v=>exact q2
  |brk=>exact q2
  |cont=>exact q2
 |false=>
  refine aQ<|Kf (hb Jf s1 σ H1 D EX I1 q1) (λfl s2 q2=>?_) λ_ _ z=>z;cases fl with
  |next=>exact Ly q2
  |ret v=>exact q2
  |brk=>exact q2
  |cont=>exact q2
def Bm(hx:X.xe=λ_ _=>False)(hb:PSs X body tb):PS X (.Try body (h₀::hs) [] [] pos) tb:=by
 intro Jf s σ H D I h;refine Qb<|Kf (hb Jf s σ H D I h) (λfl s1 q1=>?_) λe s1 q1=>?_
 ·cases fl with
  |next=>exact Ly q1
  |ret v=>exact q1
  |brk=>exact q1
  |cont=>exact q1
 ·rw[hx]at q1;exact q1.elim
section
variable {sub:IW IX}
structure Eu (C:I_)(co:Obj)(E:IX->Ja->Prop)(v:IX)(s:Ja)(e t:I_)(dx:Jd I_):Prop where
 ref:v=.ref e
 cls:s.heap.get? C=B' co
 obj:s.heap.get? e=B' {cls:=.ref C,dict:=dx,data:=.fields #[.ref t,.none,.none,.none,.bool Jg,.none]}
 fly:E (.ref e) s
def vX{s:Ja}{x:Sem IX}{Q:Flow->Ja->Prop}(hB:bm.contains (.type "BaseException")=Je)(hN:A.handled=Ji)
  (k:wpAny M A x (λv s₁=>∃e t dx,Eu C (Rq nm q C N bs bm hdct sn sub ab col dd k0 k1 k2 k3 k5 newId) E v s₁ e t dx) E s):
  wpAny M A (raiseStmt env (B' x) Ji) Q E s:=by
 have ahA:(Kb C::bm).contains (.type "BaseException")=true:=by
  rw[Rb,hB];exact Bool.or_true _
 unfold raiseStmt;refine IY<|Kf k (λv s₁ r=>?_) λ_ _ y=>y;obtain⟨e,t,dx,r⟩:=r;obtain⟨rfl,cC,cO,fly⟩:=r;obtain⟨hp,g,d,tk,os⟩:=s₁
 repeat (first|with_reducible refine Ks cO ?_|with_reducible refine Ks cC ?_|(with_reducible refine T7 cC ?_;rw[ahA])|wp_step)
 exact wpAny_raiseNew_none hN fly
end
end L2
namespace L2
open PySem
section
variable {K:IZ}
def vY(Pv:Nat->St->IW V->Hp->Prop)(h0:Pv 0 σ0 [] (upd H1 D<|.lst []))(hd:∀i σ ys H,i<=xs.length->Pv i σ ys H->H D=B' (.lst ys)/\SqL K H a xs)
  (hs:∀i x σ ys H t,xs[i]? =B' x->Pv i σ ys H->H t=Ji->g (.ref t) σ (upd H t<|.tup [.int (i:Nat),x]) λσ3 H3=>tt σ3 H3 λc H4=>if c=Je then te σ3 H4 λy H5=>H5 D=B' (.lst ys)/\ys.length < sizeLine/\Pv (i+1) σ3 (ys++[y]) (upd H5 D<|.lst<|ys++[y])else Pv (i+1) σ3 ys H4)
  (hq:∀σ ys H,Pv xs.length σ ys H->Q (.ref D) H):gW (Ed K a) D g tt te σ0 H1 Q:=by
 exists λi m σ ys H=>m=xs.length - i/\i<=xs.length/\Pv i σ ys H,⟨xs.length,by simp,JQ _,h0⟩;rintro i m σ ys H ⟨rfl,hi,p⟩;obtain⟨hD,q⟩:=hd i σ ys H hi p;exists hD;by_cases NJ:i < xs.length
 ·refine .inr ⟨⟨xs,xs[i],q,by simp [NJ]⟩,Pv<|i+1,λσ' ys' H' p'=>⟨xs.length - (i+1),by lia,rfl,NJ,p'⟩,λx H' y=>?_⟩;obtain⟨t,v,ht,rfl,rfl,y⟩:=y;exact hs i v σ ys H t (y xs q) p ht
 ·have e:i=xs.length:=by lia
  subst e;exact .inl ⟨⟨xs,q,Jh _⟩,hq σ ys H p⟩
end
def PEi.out(h:PEi X e te):PE X e te:=by
 unfold PEi at h;exact h
def PEi.tup(h:PAi X es t):PEi X (.Tuple es k pos) (AG t):=by
 unfold PAi at h;unfold PEi;exact bf h
def oX{st:Lh}{G:TS->Prop}(h:PS X st t)(k:∃u,PSs X Me u/\G (wM t u)):∃v,PSs X (st::Me) v/\G v:=by
 obtain⟨u,hu,g⟩:=k;exact⟨_,af h hu,g⟩
@[irreducible] def PSi (X:Cx) (st:Lh) (t:TS):Prop:=PS X st t
@[irreducible] def PSsi (X:Cx) (sts:IW Lh) (t:TS):Prop:=PSs X sts t
end L2
namespace L2
open PySem
def TupAt(H:Hp)(zs:IW V)(y:V):Prop:=∃p,y=.ref p/\H p=B' (.tup zs)
def TupAt.mono(h:TupAt H zs y)(k:Same H H'):TupAt H' zs y:=let ⟨p,e,g⟩:=h;⟨p,e,k _ _ g⟩
def TupAt.upd(h:TupAt H zs y)(hD:H D=B' (.lst ys)):TupAt (upd H D o) zs y:=by
 obtain⟨p,e,g⟩:=h;exact⟨p,e,by rw[ao λz=>by rw[z,hD]at g;cases g];exact g⟩
end L2
namespace HD
open PySem PySem.W PySem.Calls PyProof.Rows
noncomputable def vZ (sp:Mt->Qd->Jd (Mt×Qd))(ok th:Qd->JJ)(n:Nat):Mt->Qd->Jd Mt:=
 @Nat.rec (λ_=>Mt->Qd->Jd Mt) (λ_ _=>Ji)
  (λ_ ih s t=>@Qt (λ_=>Jd Mt)
   (@Qt (λ_=>Jd Mt) Ji
    (@SB (Mt×Qd) (λ_=>Jd Mt) Ji
     (λr=>@Zz Mt Qd (λ_=>Jd Mt) (λs' t'=>@Qt (λ_=>Jd Mt) Ji (ih s' t') (Vu s'.toks 1000000000)) r) (sp s t)) (ok t))
   (B' s) (th t)) n
theorem uc{tb:Mg->Jd Builtin}{p:Js}{w:JV}{n₀:Nat}{XJ:Jd IX}:∀n s s' t,
  vZ (Xb (Ux tb) p w) (UC n₀ XJ) Rr n s t=B' s'->YQ tb p w n₀ XJ n s.abs t=B' s'.abs
 |0,s,s',t,h=>by cases h
 |n+1,s,s',t,h=>by
  have h:@Qt (λ_=>Jd Mt)
   (@Qt (λ_=>Jd Mt) Ji
    (@SB (Mt×Qd) (λ_=>Jd Mt) Ji
     (λr=>@Zz Mt Qd (λ_=>Jd Mt) (λs' t'=>@Qt (λ_=>Jd Mt) Ji (vZ (Xb (Ux tb) p w) (UC n₀ XJ) Rr n s' t') (Vu s'.toks 1000000000)) r) (Xb (Ux tb) p w s t)) (UC n₀ XJ t))
   (B' s) (Rr t)=B' s':=h
  unfold YQ;cases ht:Rr t with
  |true=>rw[ht]at h;cases h;rfl
  |false=>
   rw[ht]at h;cases hk:UC n₀ XJ t with
   |false=>rw[hk]at h;cases h
   |true=>
    rw[hk]at h;cases hs:Xb (Ux tb) p w s t with
    |none=>rw[hs]at h;cases h
    |some r=>
     obtain⟨s₂,t₂⟩:=r;rw[hs]at h;replace h:@Qt (λ_=>Jd Mt) Ji (vZ (Xb (Ux tb) p w) (UC n₀ XJ) Rr n s₂ t₂) (Vu s₂.toks 1000000000)=B' s':=h;rw[stepT_spec hs];cases hb:Vu s₂.toks 1000000000 with
     |false=>rw[hb]at h;cases h
     |true=>rw[hb]at h;exact uc n _ _ _ h
noncomputable def oY (l:IW Obj):BT->Nat->Jd (BT×Nat):=
 @List.rec Obj (λ_=>BT->Nat->Jd (BT×Nat)) (λT n=>B' (T,n))
  (λo _ ih T n=>@Qt (λ_=>Jd<|BT×Nat) Ji (ih (T.ins n o)<|n+1) (((T.ins n o).get n).isSome)) l
theorem nE:∀l T T' n n',oY l T n=B' (T',n')->Sq T' n' life=⟨(Sq T n life).objs++l.toArray,life⟩
 |[],T,T',n,n',h=>by
  cases h;show Sq T n life=aau ((Sq T n life).objs++#[]) life
  rw[Array.append_empty];rfl
 |o::l,T,T',n,n',h=>by
  replace h:@Qt (λ_=>Jd<|BT×Nat) Ji (oY l (T.ins n o)<|n+1) (((T.ins n o).get n).isSome)=B' (T',n'):=h;cases hb:((T.ins n o).get n).isSome with
  |false=>rw[hb]at h;cases h
  |true=>
   rw[hb]at h;rw[nE l _ _ _ _ h,absHeap_ins hb];show aau ((Sq T n life).objs.push o++l.toArray) life=_
   congr 1
   apply Array.ext';simp
noncomputable def look {β:Type}(sp:Mt->Qd->Jd (Mt×Qd))(ok th:Qd->JJ)(M:Nat)(os:Ql)(P:YS)(st:Qd)(F:Ja->β):Jd β:=
 @SB (BT×Nat) (λ_=>Jd β) Ji
  (λr=>@Zz BT Nat (λ_=>Jd β) (λT n=>@SB Mt (λ_=>Jd β) Ji (λs=>B'<|F s.abs) (vZ sp ok th M ⟨T,n,(LN P).life,Qu [],Pr,Qc,os⟩ st)) r)
  (oY (LN P).objs.toList .nil 0)
def Bn{β:Type}{tb:Mg->Jd Builtin}{p:Js}{w:JV}{n₀:Nat}{XJ:Jd IX}{M:Nat}{os:Ql}{F:Ja->β}{b:β}
  (h:look (Xb (Ux tb) p w) (UC n₀ XJ) Rr M os w.params (TZ p) F=B' b):
  ∃s,YQ tb p w n₀ XJ M ⟨LN w.params,Qu [],Pr,Qc,os⟩ (TZ p)=B' s/\F s=b:=by
 unfold look at h;cases hi:oY (LN w.params).objs.toList .nil 0 with
 |none=>rw[hi]at h;cases h
 |some r=>
  obtain⟨T,n⟩:=r;rw[hi]at h;replace h:@SB Mt (λ_=>Jd β) Ji (λs=>B'<|F s.abs) (vZ (Xb (Ux tb) p w) (UC n₀ XJ) Rr M ⟨T,n,(LN w.params).life,Qu [],Pr,Qc,os⟩<|TZ p)=B' b:=h;cases hr:vZ (Xb (Ux tb) p w) (UC n₀ XJ) Rr M ⟨T,n,(LN w.params).life,Qu [],Pr,Qc,os⟩ (TZ p)with
  |none=>rw[hr]at h;cases h
  |some s=>
   rw[hr]at h;have e:=nE (life:=(LN w.params).life) _ _ _ _ _ hi;have e0:(Sq .nil 0 (LN w.params).life).objs=#[]:=rfl;rw[e0]at e;have e1:Sq T n (LN w.params).life=LN w.params:=by
    rw[e];show aau (#[]++(LN w.params).objs.toList.toArray) _=_
    rw[Array.empty_append]
   have ZD:=uc _ _ _ _ hr;refine⟨s.abs,?_,JN h⟩;rw[<-ZD];show _=YQ tb p w n₀ XJ M ⟨Sq T n (LN w.params).life,Qu [],Pr,Qc,os⟩ (TZ p)
   rw[e1]
noncomputable def seenAt (p q:Js)(loose:IW Str)(Xt:Ja->JJ)(g0:JJ)(w:JV)(s:Ja):=((staticsOk (Q0 p.main.body) (LN w.params) s.heap&&namesBound p s.heap&&gensDone s&&laidKept (LN w.params) s.heap),Fast.tw4187177175401517315 q loose (Q0 p.main.body) Xt g0 s)
noncomputable def lookAt {β:Type}(p:Js)(m₀:Nat)(XJ:Jd IX)(M:Nat)(w:JV)(os:Ql)(F:Ja->β):Jd β:=
 look (Fast.tw10156331382660048174 (Fast.tw11892475500146522536 Fast.tw14364793385576792824) p w) (Fast.tw6613529449190102663 m₀ XJ) Rr M os w.params (TZ p) F
def nF{β:Type}{p:Js}{m₀:Nat}{XJ:Jd IX}{M:Nat}{w:JV}{os:Ql}{F:Ja->β}{b:β}(h:lookAt p m₀ XJ M w os F=B' b):
  ∃s,YQ Yp p w m₀ XJ M ⟨LN w.params,Qu [],Pr,Qc,os⟩ (TZ p)=B' s/\F s=b:=by
 unfold lookAt at h;rw[<-Fast.te10156331382660048174,<-Fast.te11892475500146522536,<-Fast.te14364793385576792824,<-Fast.te6613529449190102663]at h;exact Bn h
def left{p q:Js}{loose:IW Str}{Xt:Ja->JJ}{α:Type}{Yf:Ja->α}{Ya:JV->α}{N:Nat}{g0:JJ}{m₀:Nat}{XJ:Jd IX}{M:Nat}
  (e:opening p=plainProg p.main.scope.names) (f:∀s,fenceModules? p s=B' s) (hN:Vu 600 N=Je) (le:Vu M N=Je)
  (size:∀w:JV,((LN w.params).isNs Jo&&(Qu []:JF R5).size == 0,(LN w.params).objs.size,(LN w.params).nsMap Jo "__annotations__")=(Je,m₀,XJ))
  (h1:∀(w:JV) (os:Ql),lookAt p m₀ XJ M w os (seenAt p q loose Xt g0 w)=B' (Je,openGood q loose)) (h2:∀(w:JV) (os:Ql),lookAt p m₀ XJ M w os Yf=B' (Ya w)):
  LeftO p q loose Xt Yf Ya N g0:=λw=>by
 obtain⟨⟨h0,gs,d,k,os⟩,a,b⟩:=Lm.mp<|boot_open e hN f w;obtain⟨rfl,rfl,rfl,rfl⟩:h0=LN w.params/\gs=Qu []/\d=Pr/\k=Qc:=by simpa using b
 obtain⟨z1,z2,z3⟩:_/\_/\_:=by simpa only [RM]using size w
 obtain⟨s,r,l⟩:=nF<|h1 w os;obtain⟨s',r',l3⟩:=nF<|h2 w os;rw[r]at r';cases r';unfold seenAt at l;rw[<-Fast.te5923862056798008813,<-Fast.te4187177175401517315]at l;obtain⟨l1,l2⟩:_/\_:=by simpa only [RM]using l
 have r:=topRun_mono (N - M) _ _ _ _ r;rw[show M+(N - M)=N by have:=Nat.le_of_ble_eq_true le;lia]at r;have t:topFrom Yp p w N ⟨LN w.params,Qu [],Pr,Qc,os⟩=B' s:=by
  unfold topFrom;dsimp only;rw[z1,z2,z3,r];show(match staticsOk (importedModules p.main.body) (LN w.params) s.heap&&namesBound p s.heap&&gensDone s&&laidKept (LN w.params) s.heap with|true=>_|false=>_)=_
  rw[l1]
 unfold openEnds;rw[a];show(topFrom Yp p w N _).map _=_
 rw[t];exact LU B'<|Vp l2 l3
def head{r:OpenRow}{q:Js}{loose:IW Str}{lv:IW (Str×WData)}(H:Hook){d:DefRec}{kwd:IW (Str×KJ)}{N:Nat}
  (lf:LeftO r.prog q loose (λs=>xlAt q lv s&&recOk r.records s) H.obs H.val N) (ahi:defOf q r.name=B' (d,kwd)) (hp:r.prog.theDef r.name=B' (d.params,d.body,d.scope)) (hk:kwWritten? d.params.kwonlyargs d.params.kw_defaults=B' kwd)
  (hwr:(!r.writes || r.records.isEmpty)=Je) (k1:r.wellSaid=Je) (ok:(chainsOk q&&opensWell r.prog&&(frees r.toRowW&&r.within.isEmpty))=Je) (hb:r.prog.bare) (hw:r.toRowW.promised)
  (hc:VW q loose (XL q lv) H.says r.toRowW d kwd λf vs=>Uz f vs):r.Holds:=
 holds_open lf H.of H.keeps (λs e=>xl_of s (TU.mp e).1) XL.keeps ahi hp hk (λs e=>recFacts_of (TU.mp e).2) hwr k1 ok hb hw hc
end HD
namespace TS
open PySem PyProof.Rows
def fK:JJ->Ka->JF Ka->Nat->Nat->Nat->Si Li Sem (Jd Nat):=sortPriv% PySem.Builtin.gallop
def sd(left:JJ)(key:Ka)(Mr:JF Ka)(base i:Nat):Si Li Sem (Jd JJ):=do
 let x <-Ph Mr (base+i)
 if left then lt' x key else
  let r <-lt' key x
  return r.map (!·)
theorem se(left:JJ)(key:Ka)(Mr:JF Ka)(base n hint:Nat):fK left key Mr base n hint=(do
 let mut last:=0
 let mut ofs:=1
 let mut lo:=0
 let mut hi:=0
 let B' right <-sd left key Mr base hint|return Ji
 if right then
  let most:=n - hint
  for _ in [0:n] do
   if ofs>=most then break
   let B' more <-sd left key Mr base (hint+ofs)|return Ji
   if !more then break
   last:=ofs
   ofs:=2*ofs+1
  lo:=hint+last+1
  hi:=hint+min ofs most
 else
  let most:=hint+1
  for _ in [0:n] do
   if ofs>=most then break
   let B' found <-sd left key Mr base (hint - ofs)|return Ji
   if found then break
   last:=ofs
   ofs:=2*ofs+1
  lo:=hint+1 - min ofs most
  hi:=hint - last
 for _ in [0:n] do
  if lo>=hi then break
  let m:=lo+(hi - lo) / 2
  let B' more <-sd left key Mr base m|return Ji
  if more then lo:=m+1 else hi:=m
 return B' hi):=rfl
def bX(p:Ka):Int:=Xi p.1
def isI(p:Ka):Prop:=∃n t,p.1=.int n t
def pB(left:JJ)(k x:Int):JJ:=if left=Je then decide (x < k)else !decide (k < x)
def ue{left:JJ}(h:pB left k y=Je)(hxy:x<=y):pB left k x=true:=by
 unfold pB at h ⊢;cases left
 ·have h':(!decide (k < y))=true:=h;have h2:¬k < y:=by simpa using h'
  show(!decide (k < x))=Je
  rw[Jj<|by lia];rfl
 ·have h':decide (y < k)=true:=h;have h2:y < k:=KM h';show decide (x < k)=Je
  exact Jz (by lia)
def Gv{left:JJ}(h:pB left k x=Jg)(hxy:x<=y):pB left k y=false:=by
 cases g:pB left k y with
 |false=>rfl
 |true=>rw[ue g hxy]at h;cases h
def je{st:Li}(hk:kindOf st=Pg)(hx:isI x)(hy:isI y)(h:Q (B' (decide (bX x < bX y))) st):wpS (JS prog w) A E s (lt' x y) Q st:=by
 obtain⟨a,t,ha⟩:=hx;obtain⟨b,u,hb⟩:=hy;unfold bX at h;rw[ha,hb]at h;rw[lt'_eq];refine Jt<|Pm ?_;rw[hk,keyLt'_oneType,ha,hb];exact Jt<|Q5<|RG<|oneLt_int ⟨rfl,JE h⟩
def oZ{Mr:JF Ka}(h:IntKeys Mr){i:Nat}(hi:i < Mr.size):∃p,Mr[i]? =B' p/\isI p/\K Mr i=bX p:=by
 exists Mr[i],NM Mr i hi,h _ (by simp);unfold K;rw[NM Mr i hi];rfl
def aU{st:Li}(hp:Mr[i]? =B' p)(h:Q p st):wpS (JS prog w) A E s (Ph Mr i) Q st:=by
 rw[elem'_eq,hp];exact JE h
def kK{left:JJ}{key:Ka}{Mr:JF Ka}{base i:Nat}{Q:Jd JJ->Li->Prop}{st:Li}(hk:kindOf st=Pg)(QV:isI key)(aaN:IntKeys Mr)(hi:base+i < Mr.size)(h:Q (B'<|pB left (bX key) (K Mr<|base+i)) st):wpS (JS prog w) A E s (sd left key Mr base i) Q st:=by
 obtain⟨p,hp,hpi,e⟩:=oZ aaN hi;unfold sd;refine Jt<|aU hp ?_;rw[e]at h;cases left
 ·simp only [JA,La];exact Jt<|je hk QV hpi<|JE h
 ·simp only [Ms];exact je hk hpi QV h
def j8{f:Nat->Jd (Jd Nat)×Nat×Nat->Si Li Sem (V8<|Jd (Jd Nat)×Nat×Nat)}{lo:Nat}{st:Li}(P:Nat->JJ)(hlh:lo<=hi)(hhn:hi<=n)(hlo:∀i,i < lo->P i=Je)(hhi:∀i,hi<=i->i < n->P i=Jg)
  (dn:∀{i j:Nat},i<=j->j < n->P j=Je->P i=Je) (up:∀{i j:Nat},i<=j->j < n->P i=Jg->P j=Jg)
  (f1:∀x l r,l>=r->f x (Ji,l,r)=pure (OT (Ji,l,r)))
  (f2:∀x l r (Q':V8 (Jd (Jd Nat)×Nat×Nat)->Li->Prop),¬l>=r->r<=n->(P (l+(r - l) / 2)=Je->Q' (My (Ji,l+(r - l) / 2+1,r)) st)->(P (l+(r - l) / 2)=Jg->Q' (My (Ji,l,l+(r - l) / 2)) st)->wpS (JS prog w) A E s (f x (Ji,l,r)) Q' st):
  wpS (JS prog w) A E s (forIn [:n] ((Ji,lo,hi):Jd (Jd Nat)×Nat×Nat) f) (λc LD=>LD=st/\∃r,c=(Ji,r,r)/\r<=n/\(∀i,i < r->P i=Je)/\(∀i,r<=i->i < n->P i=Jg)) st:=by
 refine Lw (I:=λx c LD=>LD=st/\∃l r,c=(Ji,l,r)/\l<=r/\r<=n/\r - l<=n - x/\(∀i,i < l->P i=Je)/\(∀i,r<=i->i < n->P i=Jg)) ?step ?fin ⟨rfl,lo,hi,rfl,hlh,hhn,by lia,hlo,hhi⟩
 case fin=>
  rintro c LD ⟨rfl,l,r,rfl,h1,h2,h3,h4,h5⟩;have:l=r:=by lia
  subst this;exact⟨rfl,l,rfl,h2,h4,h5⟩
 case step=>
  rintro x c LD _ hx ⟨rfl,l,r,rfl,h1,h2,h3,h4,h5⟩;by_cases g:l>=r
  ·rw[f1 x l r g];have:l=r:=by lia
   subst this;exact JE ⟨rfl,l,rfl,h2,h4,h5⟩
  ·exact f2 x l r _ g h2 (λe=>⟨rfl,_,r,rfl,by lia,h2,by lia,λi hi=>dn (by lia) (by lia) e,h5⟩) λe=>⟨rfl,l,_,rfl,by lia,by lia,by lia,h4,λi hi Yn=>up hi Yn e⟩
def c9{left:JJ}{key:Ka}{Mr:JF Ka}{base n hint:Nat}{Q:Jd Nat->Li->Prop}{st:Li}(hk:kindOf st=Pg)(QV:isI key)(aaN:IntKeys Mr)(hb:base+n<=Mr.size)(hh:hint < n)(hs:∀i j,i<=j->j < n->K Mr (base+i)<=K Mr (base+j))
  (h:∀k,k<=n->(∀i,i < k->pB left (bX key) (K Mr<|base+i)=Je)->(∀i,k<=i->i < n->pB left (bX key) (K Mr<|base+i)=Jg)->Q (B' k) st):wpS (JS prog w) A E s (fK left key Mr base n hint) Q st:=by
 have dn:∀{i j:Nat},i<=j->j < n->pB left (bX key) (K Mr<|base+j)=Je->pB left (bX key) (K Mr<|base+i)=true:=λh1 h2 g=>ue g<|hs _ _ h1 h2;have up:∀{i j:Nat},i<=j->j < n->pB left (bX key) (K Mr<|base+i)=Jg->pB left (bX key) (K Mr<|base+j)=false:=λh1 h2 g=>Gv g<|hs _ _ h1 h2;have ae':∀m Q',m < n->Q' (B'<|pB left (bX key) (K Mr<|base+m)) st->wpS (JS prog w) A E s (sd left key Mr base m) Q' st:=λm Q' hm q=>kK hk QV aaN (by lia) q;rw[se];refine Jt<|kK hk QV aaN (by lia) ?_;cases e:pB left (bX key) (K Mr<|base+hint)with
 |true=>
  simp only [Ms];refine Jt (Mf (Lw (I:=λx c LD=>LD=st/\∃last ofs,c=(Ji,last,ofs)/\last < ofs/\x+1<=ofs/\hint+last < n/\pB left (bX key) (K Mr<|base+(hint+last))=Je)
   (Q:=λc LD=>LD=st/\∃last ofs,c=(Ji,last,ofs)/\last < ofs/\hint+last < n/\pB left (bX key) (K Mr<|base+(hint+last))=Je/\(ofs>=n - hint\/(hint+ofs < n/\pB left (bX key) (K Mr<|base+(hint+ofs))=Jg))) ?step ?fin ⟨rfl,0,1,rfl,by lia,by lia,by lia,e⟩) ?post)
  case fin=>
   rintro c LD ⟨rfl,last,ofs,rfl,h1,h2,h3,h4⟩;exact⟨rfl,last,ofs,rfl,h1,h3,h4,.inl<|by lia⟩
  case step=>
   rintro x c LD _ hx ⟨rfl,last,ofs,rfl,h1,h2,h3,h4⟩;dsimp only;by_cases g:ofs>=n - hint
   ·rw[JL g];exact JE ⟨rfl,last,ofs,rfl,h1,h3,h4,.inl g⟩
   ·rw[JK g];refine Jt<|kK hk QV aaN (by lia) ?_;cases e2:pB left (bX key) (K Mr<|base+(hint+ofs))with
    |true=>
     simp only [M8,JA,La];exact JE ⟨rfl,ofs,2*ofs+1,rfl,by lia,by lia,by lia,e2⟩
    |false=>
     simp only [TR,Ms];exact JE ⟨rfl,last,ofs,rfl,h1,h3,h4,.inr ⟨by lia,e2⟩⟩
  case post=>
   rintro c LD ⟨rfl,last,ofs,rfl,h1,h3,h4,h5⟩;have hip:∀i,hint+min ofs (n - hint)<=i->i < n->pB left (bX key) (K Mr<|base+i)=false:=λi hi Yn=>by
    obtain h5|⟨h5,h6⟩:=h5
    ·lia
    ·exact up (by lia) Yn h6
   refine Jt<|Mf (j8 (λi=>pB left (bX key) (K Mr<|base+i)) (lo:=hint+last+1) (hi:=hint+min ofs (n - hint)) (by lia) (by lia) (λi hi=>dn (by lia) h3 h4) hip dn up (λx l r g=>JL g) λx l r Q' g hr q1 q2=>?_) ?_
   ·dsimp only;rw[JK g];refine Jt<|ae' _ _ (by lia) ?_;cases e2:pB left (bX key) (K Mr<|base+(l+(r - l) / 2))with
    |true=>simp only [Ms];exact JE<|q1 e2
    |false=>simp only [JA,La];exact JE<|q2 e2
   ·rintro c Mz ⟨rfl,r,rfl,a1,a2,a3⟩;exact JE<|h r a1 a2 a3
 |false=>
  simp only [JA,La];refine Jt (Mf (Lw (I:=λx c LD=>LD=st/\∃last ofs,c=(Ji,last,ofs)/\last < ofs/\x+1<=ofs/\last<=hint/\pB left (bX key) (K Mr<|base+(hint - last))=Jg)
   (Q:=λc LD=>LD=st/\∃last ofs,c=(Ji,last,ofs)/\last < ofs/\last<=hint/\pB left (bX key) (K Mr<|base+(hint - last))=Jg/\(ofs>=hint+1\/(ofs<=hint/\pB left (bX key) (K Mr<|base+(hint - ofs))=Je))) ?step ?fin ⟨rfl,0,1,rfl,by lia,by lia,by lia,e⟩) ?post)
  case fin=>
   rintro c LD ⟨rfl,last,ofs,rfl,h1,h2,h3,h4⟩;exact⟨rfl,last,ofs,rfl,h1,h3,h4,.inl<|by lia⟩
  case step=>
   rintro x c LD _ hx ⟨rfl,last,ofs,rfl,h1,h2,h3,h4⟩;dsimp only;by_cases g:ofs>=hint+1
   ·rw[JL g];exact JE ⟨rfl,last,ofs,rfl,h1,h3,h4,.inl g⟩
   ·rw[JK g];refine Jt<|kK hk QV aaN (by lia) ?_;cases e2:pB left (bX key) (K Mr<|base+(hint - ofs))with
    |true=>
     simp only [Ms];exact JE ⟨rfl,last,ofs,rfl,h1,h3,h4,.inr ⟨by lia,e2⟩⟩
    |false=>
     simp only [JA,La];exact JE ⟨rfl,ofs,2*ofs+1,rfl,by lia,by lia,by lia,e2⟩
  case post=>
   rintro c LD ⟨rfl,last,ofs,rfl,h1,h3,h4,h5⟩;have lop:∀i,i < hint+1 - min ofs (hint+1)->pB left (bX key) (K Mr<|base+i)=true:=λi hi=>by
    obtain h5|⟨h5,h6⟩:=h5
    ·lia
    ·exact dn (by lia) (by lia) h6
   refine Jt<|Mf (j8 (λi=>pB left (bX key) (K Mr<|base+i)) (lo:=hint+1 - min ofs (hint+1)) (hi:=hint - last) (by lia) (by lia) lop (λi hi Yn=>up hi Yn h4) dn up (λx l r g=>JL g) λx l r Q' g hr q1 q2=>?_) ?_
   ·dsimp only;rw[JK g];refine Jt<|ae' _ _ (by lia) ?_;cases e2:pB left (bX key) (K Mr<|base+(l+(r - l) / 2))with
    |true=>simp only [Ms];exact JE<|q1 e2
    |false=>simp only [JA,La];exact JE<|q2 e2
   ·rintro c Mz ⟨rfl,r,rfl,a1,a2,a3⟩;exact JE<|h r a1 a2 a3
def nG(g:Nat):Si Li Sem SU:=modify λst=>Qg (kindOf st) (JZ st) (Kn st) g<|MD st
def Im:JF Ka->JF Ka->Si Li Sem (JF Ka):=sortPriv% PySem.Builtin.mergeLo
theorem Ev(a b:JF Ka):Im a b=(do
 rule "list.sort.merge-lo"
 let total:=a.size+b.size
 let don (out:JF Ka) (i j:Nat):=out++a.extract i a.size++b.extract j b.size
 let las (out:JF Ka) (i j:Nat):=out++b.extract j b.size++a.extract i a.size
 let mut out:JF Ka:=#[<-Ph b 0]
 let mut i:=0
 let mut j:=1
 if j == b.size then return don out i j
 if i+1 == a.size then return las out i j
 let mut mg:=gallopOf (<-get)
 for _ in [0:total] do
  let mut ac:=0
  let mut bc:=0
  for _ in [0:total] do
   let B' bw <-lt' (<-Ph b j) (<-Ph a i)|return don out i j
   if bw then
    out:=out.push (<-Ph b j);j:=j+1;bc:=bc+1;ac:=0
    if j == b.size then return don out i j
    if bc>=mg then break
   else
    out:=out.push (<-Ph a i);i:=i+1;ac:=ac+1;bc:=0
    if i+1 == a.size then return las out i j
    if ac>=mg then break
  rule "list.sort.gallop"
  mg:=mg+1
  for _ in [0:total] do
   if mg > 1 then mg:=mg - 1
   nG mg
   let B' k <-fK Jg (<-Ph b j) a i (a.size - i) 0|return don out i j
   ac:=k
   if k > 0 then
    out:=out++a.extract i (i+k);i:=i+k
    if i+1 == a.size then return las out i j
    if i == a.size then return don out i j
   out:=out.push (<-Ph b j);j:=j+1
   if j == b.size then return don out i j
   let B' k <-fK Je (<-Ph a i) b j (b.size - j) 0|return don out i j
   bc:=k
   if k > 0 then
    out:=out++b.extract j (j+k);j:=j+k
    if j == b.size then return don out i j
   out:=out.push (<-Ph a i);i:=i+1
   if i+1 == a.size then return las out i j
   if ac < 7&&bc < 7 then break
  mg:=mg+1
  nG mg
 Wc "internal:list.sort.merge-bound"):=rfl
def le(x y:Ka):Prop:=bX x<=bX y
structure v_ (a b r:JF Ka):Prop where
 perm:r.toList.Perm (a.toList++b.toList)
 srt:r.toList.Pairwise le
structure MI (a b out:JF Ka)(i j:Nat):Prop where
 perm:(out.toList++a.toList.drop i++b.toList.drop j).Perm (a.toList++b.toList)
 srt:out.toList.Pairwise le
 ra:∀x∈out.toList,∀y∈a.toList.drop i,bX x<=bX y
 rb:∀x∈out.toList,∀y∈b.toList.drop j,bX x<=bX y
def cP(h:a[i]? =B' p):K a i=bX p:=by
 unfold K;rw[h];rfl
def dN(h:z∈a.toList.drop i):∃k,i+k < a.size/\a[i+k]? =B' z/\bX z=K a (i+k):=by
 obtain⟨k,hk,e⟩:=Nl h;rw[Nz,JB]at hk;have e2:a[i+k]? =B' z:=by
  rw[Vw]at e;rw[<-e,Qv,NM a (i+k)<|by lia]
 exact⟨k,by lia,e2,(cP e2).symm⟩
def dO(h:z∈(a.toList.drop i).take k):∃m,m < k/\i+m < a.size/\bX z=K a (i+m):=by
 obtain⟨m,hm,e⟩:=Nl h;rw[J9,Nz,JB]at hm;have e2:a[i+m]? =B' z:=by
  rw[List.getElem_take,Vw]at e;rw[<-e,Qv,NM a (i+m)<|by lia]
 exact⟨m,by lia,by lia,(cP e2).symm⟩
def kL{a:JF Ka}{i:Nat}{p:Ka}(h:a[i]? =B' p):a.toList.drop i=p::a.toList.drop (i+1):=by
 have hi:i < a.size:=by
  obtain g|g:=Lx i a.size
  ·exact g
  ·rw[U3 a i<|by lia]at h;cases h
 rw[NM a i hi]at h;rw[O6 (by rw[JB];exact hi),Qv];cases h;rfl
def o3(h:l.Pairwise le)(g:∀x∈l,bX x<=bX y):(l++[y]).Pairwise le:=
 Kr.mpr ⟨h,Sa _ _,λx hx z hz=>by rw[Jp.mp hz];exact g x hx⟩
def fX(h:Lz a a.size):a.toList.Pairwise le:=by
 rw[NK];intro i j hi hj hij;rw[JB]at hi hj;have:=h i j (K_ hij) hj;rw[K_eq hi,K_eq hj]at this;exact this
def MI.pushB(h:MI a b out i j)(hy:b[j]? =B' y)(sb:Lz b b.size)(g:∀x∈a.toList.drop i,bX y<=bX x):MI a b (out.push y) i (j+1):=by
 have e:=kL hy;have hyb:=h.rb;rw[e]at hyb;refine⟨?_,?_,λx hx z hz=>?_,λx hx z hz=>?_⟩
 ·refine Mx ?_ h.perm;rw[Kx,e,J1,J1,J1];refine Mm _ ?_;rw[NH];exact V4.symm
 ·rw[Kx];exact o3 h.srt λx hx=>hyb x hx y JG
 ·rw[Kx]at hx;obtain hx|hx:=JI.mp hx
  ·exact h.ra x hx z hz
  ·rw[Jp.mp hx];exact g z hz
 ·rw[Kx]at hx;obtain hx|hx:=JI.mp hx
  ·exact hyb x hx z<|Jy _ hz
  ·rw[Jp.mp hx];obtain⟨k,hk,_,ek⟩:=dN hz;rw[ek,<-cP hy];exact sb _ _ (by lia) hk
def MI.pushA(h:MI a b out i j)(hy:a[i]? =B' y)(sa:Lz a a.size)(g:∀x∈b.toList.drop j,bX y<=bX x):MI a b (out.push y) (i+1) j:=by
 have e:=kL hy;have hya:=h.ra;rw[e]at hya;refine⟨?_,?_,λx hx z hz=>?_,λx hx z hz=>?_⟩
 ·refine Mx ?_ h.perm;rw[Kx,e,J1 out.toList [y],NH]
 ·rw[Kx];exact o3 h.srt λx hx=>hya x hx y JG
 ·rw[Kx]at hx;obtain hx|hx:=JI.mp hx
  ·exact hya x hx z<|Jy _ hz
  ·rw[Jp.mp hx];obtain⟨k,hk,_,ek⟩:=dN hz;rw[ek,<-cP hy];exact sa _ _ (by lia) hk
 ·rw[Kx]at hx;obtain hx|hx:=JI.mp hx
  ·exact h.rb x hx z hz
  ·rw[Jp.mp hx];exact g z hz
def dQ(a:JF Ka)(i k:Nat):(a.extract i<|i+k).toList=(a.toList.drop i).take k:=by
 rw[NX,MS,Nat.add_sub_cancel_left]
def fL(a:JF Ka)(i:Nat):(a.extract i a.size).toList=a.toList.drop i:=by
 rw[NX,MS];exact JY (by rw[Nz,JB];exact Jh _)
def gB{l:IW Ka}{k:Nat}(h:l.Pairwise le):(l.take k).Pairwise le:=h.sublist<|Vv _ _
def jf{l:IW Ka}{k:Nat}(h:l.Pairwise le):(l.drop k).Pairwise le:=h.sublist<|List.drop_sublist _ _
def MI.takeA(h:MI a b out i j)(sa:Lz a a.size)(g:∀x∈(a.toList.drop i).take k,∀y∈b.toList.drop j,bX x<=bX y):MI a b (out++a.extract i (i+k)) (i+k) j:=by
 have e:a.toList.drop i=(a.toList.drop i).take k++a.toList.drop (i+k):=by
  conv=>lhs;rw[<-Ml k<|a.toList.drop i]
  rw[Ra]
 have pa:=jf (k:=i)<|fX sa;have pa2:=pa;rw[e]at pa2;have cr:=(Kr.mp pa2).2.2;have ha:=h.ra;rw[e]at ha;refine⟨?_,?_,λx hx z hz=>?_,λx hx z hz=>?_⟩
 ·rw[JU,dQ,J1 out.toList,<-e];exact h.perm
 ·rw[JU,dQ];exact Kr.mpr ⟨h.srt,gB pa,λx hx y hy=>ha x hx y<|Lp _ hy⟩
 ·rw[JU,dQ]at hx;obtain hx|hx:=JI.mp hx
  ·exact ha x hx z<|Kc _ hz
  ·exact cr x hx z hz
 ·rw[JU,dQ]at hx;obtain hx|hx:=JI.mp hx
  ·exact h.rb x hx z hz
  ·exact g x hx z hz
def MI.takeB(h:MI a b out i j)(sb:Lz b b.size)(g:∀x∈(b.toList.drop j).take k,∀y∈a.toList.drop i,bX x<=bX y):MI a b (out++b.extract j (j+k)) i (j+k):=by
 have e:b.toList.drop j=(b.toList.drop j).take k++b.toList.drop (j+k):=by
  conv=>lhs;rw[<-Ml k<|b.toList.drop j]
  rw[Ra]
 have pa:=jf (k:=j)<|fX sb;have pa2:=pa;rw[e]at pa2;have cr:=(Kr.mp pa2).2.2;have hb:=h.rb;rw[e]at hb;refine⟨?_,?_,λx hx z hz=>?_,λx hx z hz=>?_⟩
 ·refine Mx ?_ h.perm
  conv=>rhs;rw[e]
  rw[JU,dQ];simp only [J1];refine Mm _ ?_;rw[<-J1,<-J1];exact Os _ Oy
 ·rw[JU,dQ];exact Kr.mpr ⟨h.srt,gB pa,λx hx y hy=>hb x hx y<|Lp _ hy⟩
 ·rw[JU,dQ]at hx;obtain hx|hx:=JI.mp hx
  ·exact h.ra x hx z hz
  ·exact g x hx z hz
 ·rw[JU,dQ]at hx;obtain hx|hx:=JI.mp hx
  ·exact hb x hx z<|Kc _ hz
  ·exact cr x hx z hz
def MI.don(h:MI a b out i j)(sa:Lz a a.size)(sb:Lz b b.size)(e:j=b.size\/i=a.size):v_ a b (out++a.extract i a.size++b.extract j b.size):=by
 refine⟨?_,?_⟩
 ·rw[JU,JU,fL,fL];exact h.perm
 ·rw[JU,JU,fL,fL];have p1:(out.toList++a.toList.drop i).Pairwise le:=Kr.mpr ⟨h.srt,jf<|fX sa,h.ra⟩;obtain e|e:=e
  ·rw[P4 (show b.toList.length<=j by rw[JB];lia),KL];exact p1
  ·rw[P4 (show a.toList.length<=i by rw[JB];lia),KL];exact Kr.mpr ⟨h.srt,jf<|fX sb,h.rb⟩
def MI.las(h:MI a b out i j)(sb:Lz b b.size)(e:i+1=a.size)(g:∀k,k < b.size->K b k < K a (a.size - 1)):v_ a b (out++b.extract j b.size++a.extract i a.size):=by
 refine⟨?_,?_⟩
 ·rw[JU,JU,fL,fL,J1];refine Mx ?_ h.perm;rw[J1];exact Mm _ Oy
 ·rw[JU,JU,fL,fL];obtain⟨z,hz⟩:∃z,a[i]? =B' z:=⟨a[i],NM a i (by lia)⟩;have ez:=kL hz;rw[P4 (show a.toList.length<=i+1 by rw[JB];lia)]at ez;have p1:(out.toList++b.toList.drop j).Pairwise le:=Kr.mpr ⟨h.srt,jf (fX sb),h.rb⟩;rw[ez];refine o3 p1 λx hx=>?_;obtain hx|hx:=JI.mp hx
  ·exact h.ra x hx z (by rw[ez];exact Jp.mpr rfl)
  ·obtain⟨k,hk,_,ek⟩:=dN hx;have:=g _ hk;rw[show a.size - 1=i by lia,cP hz]at this;lia
def SameG(st LD:Li):Prop:=kindOf LD=kindOf st/\JZ LD=JZ st/\Kn LD=Kn st/\MD LD=MD st
def SameG.refl(st:Li):SameG st st:=⟨rfl,rfl,rfl,rfl⟩
def SameG.set{st:Li}(h:SameG st LD)(g:Nat):SameG st (Qg (kindOf LD) (JZ LD) (Kn LD) g<|MD LD):=h
def aD{M:R4}{A:J8}{E:IX->Ja->Prop}{s:Ja}{α:Type}{c:Prop} [Decidable c] {x y:Si Li Sem α}{Q:α->Li->Prop}{st:Li}(h1:c->wpS M A E s x Q st)(h2:¬c->wpS M A E s y Q st):wpS M A E s (if c then x else y) Q st:=by
 by_cases g:c
 ·rw[JL g];exact h1 g
 ·rw[JK g];exact h2 g
def jg{st:Li}(h:Q () (Qg (kindOf st) (JZ st) (Kn st) g<|MD st)):wpS (JS prog w) A E s (nG g) Q st:=by
 unfold nG;exact Ol h
def wa{a b:JF Ka}{i j:Nat}{x y:Ka}(hx:a[i]? =B' x) (hy:b[j]? =B' y) (sb:Lz b b.size) (g:¬bX y < bX x):∀z∈b.toList.drop j,bX x<=bX z:=λz hz=>by
 obtain⟨k,hk,_,ek⟩:=dN hz;have:=sb j (j+k) (by lia) hk;rw[cP hy]at this;lia
def ym{a b:JF Ka}{i j:Nat}{x y:Ka}(hx:a[i]? =B' x) (hy:b[j]? =B' y) (sa:Lz a a.size) (g:bX y < bX x):∀z∈a.toList.drop i,bX y<=bX z:=λz hz=>by
 obtain⟨k,hk,_,ek⟩:=dN hz;have:=sa i (i+k) (by lia) hk;rw[cP hx]at this;lia
def pT(h:pB Jg u v=Je):v<=u:=by grind[pB]
def pF(h:pB Jg u v=Jg):u < v:=by
 have h':(!decide (u < v))=false:=h;simpa using h'
def lT(h:pB Je u v=Je):v < u:=KM (show decide (v < u)=Je from h)
def lF(h:pB Je u v=Jg):u<=v:=by
 have:=of_decide_eq_false (show decide (v < u)=Jg from h);lia
def o4(hx:a[i]? =B' x)(sa:Lz a a.size):∀z∈a.toList.drop i,bX x<=bX z:=λz hz=>by
 obtain⟨k,hk,_,ek⟩:=dN hz;have:=sa i (i+k) (by lia) hk;rw[cP hx]at this;lia
def Ew{a b:JF Ka}{Q:JF Ka->Li->Prop}{st:Li}(hk:kindOf st=Pg)(ka:IntKeys a)(kb:IntKeys b)(sa:Lz a a.size)(sb:Lz b b.size)(na:1<=a.size)(nb:1<=b.size)
  (g0:K b 0 < K a 0) (g1:∀k,k < b.size->K b k < K a (a.size - 1)) (h:∀r LD,SameG st LD->v_ a b r->Q r LD):wpS (JS prog w) A E s (Im a b) Q st:=by
 have YK:∀{i:Nat},i < a.size->∃p,a[i]? =B' p/\isI p:=λhi=>let ⟨p,h1,h2,_⟩:=oZ ka hi;⟨p,h1,h2⟩
 have aaR:∀{i:Nat},i < b.size->∃p,b[i]? =B' p/\isI p:=λhi=>let ⟨p,h1,h2,_⟩:=oZ kb hi;⟨p,h1,h2⟩
 obtain⟨y0,hy0,iy0⟩:=aaR (i:=0) (by lia);obtain⟨x0,hx0,ix0⟩:=YK (i:=0) (by lia);have m0:MI a b #[y0] 0 1:=by
  have e:=kL hy0;have z:MI a b #[] 0 0:=⟨by simp,OC,(λ_ h=>nomatch h),(λ_ h=>nomatch h)⟩;refine z.pushB hy0 sb<|ym hx0 hy0 sa ?_;rw[<-cP hy0,<-cP hx0];exact g0
 rw[Ev];refine Jt<|Q5<|MV ⟨rfl,?_⟩;refine Jt<|aU hy0 ?_;dsimp only;refine aD (λe=>JE<|h _ _ (SameG.refl _)<|m0.don sa sb<|.inl<|by simpa using e) λe0=>?_;refine aD (λe=>JE<|h _ _ (SameG.refl _)<|m0.las sb (by simpa using e) g1) λe1=>?_;have n0:1 < b.size:=by
  have:¬1=b.size:=by simpa using e0
  lia
 have n1:0+1 < a.size:=by
  have:¬0+1=a.size:=by simpa using e1
  lia
 refine Jt<|Pm ?_;refine Jt (Mf (Lw (I:=λx c LD=>SameG st LD/\∃out i j mg,c=(Ji,out,i,j,mg)/\MI a b out i j/\i+1 < a.size/\j < b.size/\x+1<=i+j)
  (Q:=λc LD=>SameG st LD/\∃r,c.fst=B' r/\v_ a b r) ?step ?fin ⟨SameG.refl _,_,0,1,_,rfl,m0,n1,n0,by lia⟩) ?post)
 case fin=>
  rintro c LD ⟨_,out,i,j,mg,rfl,m,h1,h2,h3⟩;lia
 case post=>
  rintro c LD ⟨k,r,e,hr⟩;rw[e];exact JE<|h r LD k hr
 case step=>
  rintro x c LD _ hx ⟨k,out,i,j,mg,rfl,m,h1,h2,h3⟩;dsimp only;refine Jt (Mf (Lw (I:=λx' c VE=>VE=LD/\∃out i j ac bc,c=(Ji,out,i,j,ac,bc)/\MI a b out i j/\i+1 < a.size/\j < b.size/\x+1+x'<=i+j)
   (Q:=λc VE=>VE=LD/\((∃r,c.fst=B' r/\v_ a b r)\/∃out i j ac bc,c=(Ji,out,i,j,ac,bc)/\MI a b out i j/\i+1 < a.size/\j < b.size/\x+2<=i+j)) ?istep ?ifin ⟨rfl,out,i,j,0,0,rfl,m,h1,h2,by lia⟩) ?ipost)
  case ifin=>
   rintro c VE ⟨rfl,out,i,j,ac,bc,rfl,m,h1,h2,h3⟩;exact⟨rfl,.inr ⟨out,i,j,ac,bc,rfl,m,h1,h2,by lia⟩⟩
  case istep=>
   rintro x' c VE _ hx' ⟨rfl,out,i,j,ac,bc,rfl,m,h1,h2,h3⟩;obtain⟨p,hp,ip⟩:=YK (i:=i) (by lia);obtain⟨q,hq,iq⟩:=aaR h2;dsimp only;refine Jt<|aU hq<|Jt<|aU hp<|Jt<|je (k.1.trans hk) iq ip ?_;by_cases g:bX q < bX p
   ·simp only [g,PB,Ms];have m2:=m.pushB hq sb<|ym hp hq sa g;refine Jt<|aU hq ?_;refine aD (λe=>JE ⟨rfl,.inl ⟨_,rfl,m2.don sa sb<|.inl<|by simpa using e⟩⟩) λe=>?_;have e':¬j+1=b.size:=by simpa using e
    exact aD (λ_=>JE ⟨rfl,.inr ⟨_,_,_,_,_,rfl,m2,h1,by lia,by lia⟩⟩) λ_=>JE ⟨rfl,_,_,_,_,_,rfl,m2,h1,by lia,by lia⟩
   ·simp only [g,OV,JA,La];have m2:=m.pushA hp sa<|wa hp hq sb g;refine Jt<|aU hp ?_;refine aD (λe=>JE ⟨rfl,.inl ⟨_,rfl,m2.las sb (by simpa using e) g1⟩⟩) λe=>?_;have e':¬i+1+1=a.size:=by simpa using e
    exact aD (λ_=>JE ⟨rfl,.inr ⟨_,_,_,_,_,rfl,m2,by lia,h2,by lia⟩⟩) λ_=>JE ⟨rfl,_,_,_,_,_,rfl,m2,by lia,h2,by lia⟩
  case ipost=>
   rintro c VE ⟨rfl,⟨r,e,hr⟩|⟨out,i,j,ac,bc,rfl,m,h1,h2,h3⟩⟩
   ·rw[e];exact JE ⟨k,r,rfl,hr⟩
   dsimp only;refine Jt<|Q5<|MV ⟨rfl,?_⟩;refine Jt (Mf (Lw (I:=λ_ c Mz=>SameG st Mz/\∃out i j mg ac bc,c=(Ji,out,i,j,mg,ac,bc)/\MI a b out i j/\i+1 < a.size/\j < b.size/\x+2<=i+j)
    (Q:=λc Mz=>SameG st Mz/\((∃r,c.fst=B' r/\v_ a b r)\/∃out i j mg ac bc,c=(Ji,out,i,j,mg,ac,bc)/\MI a b out i j/\i+1 < a.size/\j < b.size/\x+2<=i+j)) ?jstep ?jfin ⟨k,out,i,j,_,ac,bc,rfl,m,h1,h2,h3⟩) ?jpost)
   case jfin=>
    rintro c Mz ⟨k2,z⟩;exact⟨k2,.inr z⟩
   case jpost=>
    rintro c Mz ⟨k2,⟨r,e,hr⟩|⟨out,i,j,mg,ac,bc,rfl,m,h1,h2,h3⟩⟩
    ·rw[e];exact JE ⟨k2,r,rfl,hr⟩
    ·exact Jt<|jg<|JE ⟨k2.set _,_,_,_,_,rfl,m,h1,h2,by lia⟩
   case jstep=>
    rintro x2 c Mz _ hx2 ⟨k2,out,i,j,mg,ac,bc,rfl,m,h1,h2,h3⟩;dsimp only;obtain⟨q,hq,iq⟩:=aaR h2;refine aD (λ_=>?_) (λ_=>?_)<;>
    (refine Jt<|jg<|Jt<|aU hq<|Jt<|c9 (k2.1.trans hk) iq ka (by lia) (by lia) (λu v huv hv=>sa _ _ (by lia)<|by lia) λn hn1 hn2 hn3=>?_
     dsimp only;have hle:∀z∈(a.toList.drop i).take n,bX z<=bX q:=λz hz=>by
      obtain⟨u,hu,_,eu⟩:=dO hz;rw[eu];exact pT<|hn2 u hu
     have hgt:∀z∈a.toList.drop (i+n),bX q<=bX z:=λz hz=>by
      obtain⟨u,hu,_,eu⟩:=dN hz;have:=pF (hn3 (n+u) (by lia)<|by lia);rw[eu,Nu];lia
     have M2:MI a b (out++a.extract i (i+n)) (i+n) j:=m.takeA sa λz hz y hy=>M7 (hle z hz)<|o4 hq sb y hy;refine aD (λhn=>aD (λe=>JE ⟨k2.set _,.inl ⟨_,rfl,M2.las sb (by simpa using e) g1⟩⟩) λe=>aD (λe'=>JE ⟨k2.set _,.inl ⟨_,rfl,M2.don sa sb<|.inr<|by simpa using e'⟩⟩) λe'=>?_) λhn=>?_
     ·have c1:¬i+n+1=a.size:=by simpa using e
      have c2:¬i+n=a.size:=by simpa using e'
      obtain⟨p,hp,ip⟩:=YK (i:=i+n) (by lia);have M3:=M2;have hI:i+n+1 < a.size:=by lia
      have hG:=hgt;have M4:=M3.pushB hq sb hG;refine Jt<|aU hq ?_;refine aD (λe=>JE ⟨k2.set _,.inl ⟨_,rfl,M4.don sa sb<|.inl<|by simpa using e⟩⟩) λe=>?_;have e3:¬j+1=b.size:=by simpa using e
      refine Jt<|aU hp<|Jt<|c9 (k2.1.trans hk) ip kb (by lia) (by lia) (λu v huv hv=>sb _ _ (by lia)<|by lia) λn' VD UZ hm3=>?_;dsimp only;have YC:∀z∈(b.toList.drop<|j+1).take n',bX z<=bX p:=λz hz=>by
       obtain⟨u,hu,_,eu⟩:=dO hz;rw[eu];exact Nm<|lT<|UZ u hu
      have YG:∀z∈b.toList.drop (j+1+n'),bX p<=bX z:=λz hz=>by
       obtain⟨u,hu,_,eu⟩:=dN hz;have:=lF (hm3 (n'+u) (by lia)<|by lia);rw[eu,Nu<|j+1];exact this
      have M5:=M4.takeB (k:=n') sb λz hz y hy=>M7 (YC z hz)<|o4 hp sa y hy;refine aD (λZW=>aD (λe=>JE ⟨k2.set _,.inl ⟨_,rfl,M5.don sa sb<|.inl<|by simpa using e⟩⟩) λe=>?_) λZW=>?_
      ·have e4:¬j+1+n'=b.size:=by simpa using e
       have M6:=M5.pushA hp sa YG;refine Jt<|aU hp ?_;refine aD (λe=>JE ⟨k2.set _,.inl ⟨_,rfl,M6.las sb (by simpa using e) g1⟩⟩) λe=>?_;have e5:¬i+n+1+1=a.size:=by simpa using e
       exact aD (λ_=>JE ⟨k2.set _,.inr ⟨_,_,_,_,_,_,rfl,M6,by lia,by lia,by lia⟩⟩) λ_=>JE ⟨k2.set _,_,_,_,_,_,_,rfl,M6,by lia,by lia,by lia⟩
      ·obtain rfl:n'=0:=by lia
       have M6:=M4.pushA hp sa YG;refine Jt<|aU hp ?_;refine aD (λe=>JE ⟨k2.set _,.inl ⟨_,rfl,M6.las sb (by simpa using e) g1⟩⟩) λe=>?_;have e5:¬i+n+1+1=a.size:=by simpa using e
       exact aD (λ_=>JE ⟨k2.set _,.inr ⟨_,_,_,_,_,_,rfl,M6,by lia,by lia,by lia⟩⟩) λ_=>JE ⟨k2.set _,_,_,_,_,_,_,rfl,M6,by lia,by lia,by lia⟩
     ·obtain rfl:n=0:=by lia
      obtain⟨p,hp,ip⟩:=YK (i:=i) (by lia);have M4:=m.pushB hq sb hgt;refine Jt<|aU hq ?_;refine aD (λe=>JE ⟨k2.set _,.inl ⟨_,rfl,M4.don sa sb<|.inl<|by simpa using e⟩⟩) λe=>?_;have e3:¬j+1=b.size:=by simpa using e
      refine Jt<|aU hp<|Jt<|c9 (k2.1.trans hk) ip kb (by lia) (by lia) (λu v huv hv=>sb _ _ (by lia)<|by lia) λn' VD UZ hm3=>?_;dsimp only;have YC:∀z∈(b.toList.drop<|j+1).take n',bX z<=bX p:=λz hz=>by
       obtain⟨u,hu,_,eu⟩:=dO hz;rw[eu];exact Nm<|lT<|UZ u hu
      have YG:∀z∈b.toList.drop (j+1+n'),bX p<=bX z:=λz hz=>by
       obtain⟨u,hu,_,eu⟩:=dN hz;have:=lF (hm3 (n'+u) (by lia)<|by lia);rw[eu,Nu<|j+1];exact this
      have M5:=M4.takeB (k:=n') sb λz hz y hy=>M7 (YC z hz)<|o4 hp sa y hy;refine aD (λZW=>aD (λe=>JE ⟨k2.set _,.inl ⟨_,rfl,M5.don sa sb<|.inl<|by simpa using e⟩⟩) λe=>?_) λZW=>?_
      ·have e4:¬j+1+n'=b.size:=by simpa using e
       have M6:=M5.pushA hp sa YG;refine Jt<|aU hp ?_;refine aD (λe=>JE ⟨k2.set _,.inl ⟨_,rfl,M6.las sb (by simpa using e) g1⟩⟩) λe=>?_;have e5:¬i+1+1=a.size:=by simpa using e
       exact aD (λ_=>JE ⟨k2.set _,.inr ⟨_,_,_,_,_,_,rfl,M6,by lia,by lia,by lia⟩⟩) λ_=>JE ⟨k2.set _,_,_,_,_,_,_,rfl,M6,by lia,by lia,by lia⟩
      ·obtain rfl:n'=0:=by lia
       have M6:=M4.pushA hp sa YG;refine Jt<|aU hp ?_;refine aD (λe=>JE ⟨k2.set _,.inl ⟨_,rfl,M6.las sb (by simpa using e) g1⟩⟩) λe=>?_;have e5:¬i+1+1=a.size:=by simpa using e
       exact aD (λ_=>JE ⟨k2.set _,.inr ⟨_,_,_,_,_,_,rfl,M6,by lia,by lia,by lia⟩⟩) λ_=>JE ⟨k2.set _,_,_,_,_,_,_,rfl,M6,by lia,by lia,by lia⟩)
def Io:JF Ka->JF Ka->Si Li Sem (JF Ka):=sortPriv% PySem.Builtin.mergeHi
theorem Ex(a b:JF Ka):Io a b=(do
 rule "list.sort.merge-hi"
 let total:=a.size+b.size
 let don (out:JF Ka) (i j:Nat):=a.extract 0 i++b.extract 0 j++out.reverse
 let fir (out:JF Ka) (i j:Nat):=b.extract 0 j++a.extract 0 i++out.reverse
 let mut i:=a.size - 1
 let mut j:=b.size
 let mut out:JF Ka:=#[<-Ph a i]
 if i == 0 then return don out i j
 if j == 1 then return fir out i j
 let mut mg:=gallopOf (<-get)
 for _ in [0:total] do
  let mut ac:=0
  let mut bc:=0
  for _ in [0:total] do
   let B' aw <-lt' (<-Ph b<|j - 1) (<-Ph a<|i - 1)|return don out i j
   if aw then
    i:=i - 1;out:=out.push (<-Ph a i);ac:=ac+1;bc:=0
    if i == 0 then return don out i j
    if ac>=mg then break
   else
    j:=j - 1;out:=out.push (<-Ph b j);bc:=bc+1;ac:=0
    if j == 1 then return fir out i j
    if bc>=mg then break
  rule "list.sort.gallop"
  mg:=mg+1
  for _ in [0:total] do
   if mg > 1 then mg:=mg - 1
   nG mg
   let B' u <-fK Jg (<-Ph b<|j - 1) a 0 i (i - 1)|return don out i j
   let k:=i - u
   ac:=k
   if k > 0 then
    out:=out++(a.extract u i).reverse;i:=u
    if i == 0 then return don out i j
   j:=j - 1;out:=out.push (<-Ph b j)
   if j == 1 then return fir out i j
   let B' u <-fK Je (<-Ph a<|i - 1) b 0 j (j - 1)|return don out i j
   let k:=j - u
   bc:=k
   if k > 0 then
    out:=out++(b.extract u j).reverse;j:=u
    if j == 1 then return fir out i j
    if j == 0 then return don out i j
   i:=i - 1;out:=out.push (<-Ph a i)
   if i == 0 then return don out i j
   if ac < 7&&bc < 7 then break
  mg:=mg+1
  nG mg
 Wc "internal:list.sort.merge-bound"):=rfl
structure MH (a b out:JF Ka)(i j:Nat):Prop where
 perm:(a.toList.take i++b.toList.take j++out.toList.reverse).Perm (a.toList++b.toList)
 srt:out.toList.reverse.Pairwise le
 ra:∀x∈out.toList,∀y∈a.toList.take i,bX y<=bX x
 rb:∀x∈out.toList,∀y∈b.toList.take j,bX y<=bX x
def fM(h:z∈a.toList.take i):∃k,k < i/\k < a.size/\bX z=K a k:=by
 have h':z∈(a.toList.drop 0).take i:=h;obtain⟨m,h1,h2,e⟩:=dO h';rw[Le]at h2 e;exact⟨m,h1,h2,e⟩
def o7{a:JF Ka}{i:Nat}{p:Ka}(h:a[i]? =B' p):a.toList.take (i+1)=a.toList.take i++[p]:=by
 have e:a.toList[i]? =B' p:=by rw[J0];exact h
 rw[KQ,e];rfl
def o8(h:l.Pairwise le)(g:∀x∈l,bX y<=bX x):(y::l).Pairwise le:=LI.mpr ⟨g,h⟩
def MH.pushA(h:MH a b out (i+1) j)(hy:a[i]? =B' y)(sa:Lz a a.size)(g:∀x∈b.toList.take j,bX x<=bX y):MH a b (out.push y) i j:=by
 have e:=o7 hy;have hi:i < a.size:=by
  obtain g|g:=Lx i a.size
  ·exact g
  ·rw[U3 a i<|by lia]at hy;cases hy
 have hya:=h.ra;rw[e]at hya;refine⟨?_,?_,λx hx z hz=>?_,λx hx z hz=>?_⟩
 ·refine Mx ?_ h.perm;rw[Kx,e,Mj,Oo];simp only [J1];refine Mm _ ?_;rw[NH,NH];exact V4
 ·rw[Kx,Mj,Oo];exact o8 h.srt λx hx=>hya x (LA.mp hx) y<|Kc _<|Jp.mpr rfl
 ·rw[Kx]at hx;obtain hx|hx:=JI.mp hx
  ·exact hya x hx z<|Lp _ hz
  ·rw[Jp.mp hx];obtain⟨k,hk,_,ek⟩:=fM hz;rw[ek,<-cP hy];exact sa _ _ (by lia) hi
 ·rw[Kx]at hx;obtain hx|hx:=JI.mp hx
  ·exact h.rb x hx z hz
  ·rw[Jp.mp hx];exact g z hz
def MH.pushB(h:MH a b out i (j+1))(hy:b[j]? =B' y)(sb:Lz b b.size)(g:∀x∈a.toList.take i,bX x<=bX y):MH a b (out.push y) i j:=by
 have e:=o7 hy;have hj:j < b.size:=by
  obtain g|g:=Lx j b.size
  ·exact g
  ·rw[U3 b j<|by lia]at hy;cases hy
 have hyb:=h.rb;rw[e]at hyb;refine⟨?_,?_,λx hx z hz=>?_,λx hx z hz=>?_⟩
 ·refine Mx ?_ h.perm;rw[Kx,e,Mj,Oo];simp only [J1];exact Xq _
 ·rw[Kx,Mj,Oo];exact o8 h.srt λx hx=>hyb x (LA.mp hx) y<|Kc _<|Jp.mpr rfl
 ·rw[Kx]at hx;obtain hx|hx:=JI.mp hx
  ·exact h.ra x hx z hz
  ·rw[Jp.mp hx];exact g z hz
 ·rw[Kx]at hx;obtain hx|hx:=JI.mp hx
  ·exact hyb x hx z<|Lp _ hz
  ·rw[Jp.mp hx];obtain⟨k,hk,_,ek⟩:=fM hz;rw[ek,<-cP hy];exact sb _ _ (by lia) hj
def fN(a:JF Ka)(u i:Nat):(a.extract u i).reverse.toList=((a.toList.drop u).take<|i - u).reverse:=by
 rw[NW,NX,MS]
def fO(a:JF Ka)(i:Nat):(a.extract 0 i).toList=a.toList.take i:=by
 rw[NX,MS,Xp,YX]
def lP(l:IW Ka)(h:u<=i):l.take i=l.take u++(l.drop u).take (i - u):=by
 have:i=u+(i - u):=by lia
 conv=>lhs;rw[this,Ye]
def MH.takeA(h:MH a b out i j)(hu:u<=i)(sa:Lz a a.size)(g:∀x∈(a.toList.drop u).take (i - u),∀y∈b.toList.take j,bX y<=bX x):MH a b (out++(a.extract u i).reverse) u j:=by
 have e:=lP a.toList hu;have pa:=gB (k:=i)<|fX sa;have pa2:=pa;rw[e]at pa2;have cr:=(Kr.mp pa2).2.2;have ha:=h.ra;rw[e]at ha;refine⟨?_,?_,λx hx z hz=>?_,λx hx z hz=>?_⟩
 ·refine Mx ?_ h.perm;rw[JU,fN,Mj,OS,e];simp only [J1];refine Mm _ ?_;rw[<-J1,<-J1];exact Os _ Oy
 ·rw[JU,fN,Mj,OS];exact Kr.mpr ⟨(Kr.mp pa2).2.1,h.srt,λx hx y hy=>ha y (LA.mp hy) x<|Kc _ hx⟩
 ·rw[JU,fN]at hx;obtain hx|hx:=JI.mp hx
  ·exact ha x hx z<|Lp _ hz
  ·exact cr z hz x<|LA.mp hx
 ·rw[JU,fN]at hx;obtain hx|hx:=JI.mp hx
  ·exact h.rb x hx z hz
  ·exact g x (LA.mp hx) z hz
def MH.takeB(h:MH a b out i j)(hu:u<=j)(sb:Lz b b.size)(g:∀x∈(b.toList.drop u).take (j - u),∀y∈a.toList.take i,bX y<=bX x):MH a b (out++(b.extract u j).reverse) i u:=by
 have e:=lP b.toList hu;have pa:=gB (k:=j)<|fX sb;have pa2:=pa;rw[e]at pa2;have cr:=(Kr.mp pa2).2.2;have hb:=h.rb;rw[e]at hb;refine⟨?_,?_,λx hx z hz=>?_,λx hx z hz=>?_⟩
 ·refine Mx ?_ h.perm;rw[JU,fN,Mj,OS,e];simp only [J1];exact Xq _
 ·rw[JU,fN,Mj,OS];exact Kr.mpr ⟨(Kr.mp pa2).2.1,h.srt,λx hx y hy=>hb y (LA.mp hy) x<|Kc _ hx⟩
 ·rw[JU,fN]at hx;obtain hx|hx:=JI.mp hx
  ·exact h.ra x hx z hz
  ·exact g x (LA.mp hx) z hz
 ·rw[JU,fN]at hx;obtain hx|hx:=JI.mp hx
  ·exact hb x hx z<|Lp _ hz
  ·exact cr z hz x<|LA.mp hx
def MH.don(h:MH a b out i j)(sa:Lz a a.size)(sb:Lz b b.size)(e:i=0\/j=0):v_ a b (a.extract 0 i++b.extract 0 j++out.reverse):=by
 refine⟨?_,?_⟩
 ·rw[JU,JU,fO,fO,NW];exact h.perm
 ·rw[JU,JU,fO,fO,NW];obtain rfl|rfl:=e
  ·rw[NC,QE];exact Kr.mpr ⟨gB<|fX sb,h.srt,λx hx y hy=>h.rb y (LA.mp hy) x hx⟩
  ·rw[NC,KL];exact Kr.mpr ⟨gB<|fX sa,h.srt,λx hx y hy=>h.ra y (LA.mp hy) x hx⟩
def MH.fir(h:MH a b out i j)(sa:Lz a a.size)(e:j=1)(nb:1<=b.size)(g:∀k,k < a.size->K b 0 < K a k):v_ a b (b.extract 0 j++a.extract 0 i++out.reverse):=by
 refine⟨?_,?_⟩
 ·rw[JU,JU,fO,fO,NW];refine Mx ?_ h.perm;exact Os _ Oy
 ·rw[JU,JU,fO,fO,NW,J1];subst e;have p1:(a.toList.take i++out.toList.reverse).Pairwise le:=Kr.mpr ⟨gB<|fX sa,h.srt,λx hx y hy=>h.ra y (LA.mp hy) x hx⟩;obtain⟨z,hz⟩:∃z,b[0]? =B' z:=⟨b[0],NM b 0 (by lia)⟩;have ez:=o7 hz;rw[NC,QE]at ez;have hb:=h.rb;rw[ez]at hb ⊢;rw[NH];refine o8 p1 λx hx=>?_;obtain hx|hx:=JI.mp hx
  ·obtain⟨k,_,hk,ek⟩:=fM hx;have:=g k hk;rw[cP hz]at this;lia
  ·exact hb x (LA.mp hx) z<|Jp.mpr rfl
def qE(hx:a[i]? =B' x)(sa:Lz a a.size)(hi:i < a.size):∀z∈a.toList.take (i+1),bX z<=bX x:=λz hz=>by
 obtain⟨k,hk,_,ek⟩:=fM hz;have:=sa k i (by lia) hi;rw[cP hx]at this;lia
def Ey{a b:JF Ka}{Q:JF Ka->Li->Prop}{st:Li}(hk:kindOf st=Pg)(ka:IntKeys a)(kb:IntKeys b)(sa:Lz a a.size)(sb:Lz b b.size)(na:1<=a.size)(nb:1<=b.size)
  (g0:∀k,k < a.size->K b 0 < K a k) (g1:∀k,k < b.size->K b k < K a (a.size - 1)) (h:∀r LD,SameG st LD->v_ a b r->Q r LD):wpS (JS prog w) A E s (Io a b) Q st:=by
 have YK:∀{i:Nat},i < a.size->∃p,a[i]? =B' p/\isI p:=λhi=>let ⟨p,h1,h2,_⟩:=oZ ka hi;⟨p,h1,h2⟩
 have aaR:∀{i:Nat},i < b.size->∃p,b[i]? =B' p/\isI p:=λhi=>let ⟨p,h1,h2,_⟩:=oZ kb hi;⟨p,h1,h2⟩
 obtain⟨y0,hy0,iy0⟩:=YK (i:=a.size - 1) (by lia);have m0:MH a b #[y0] (a.size - 1) b.size:=by
  have z:MH a b #[] (a.size - 1+1) b.size:=by
   refine⟨?_,OC,(λ_ h=>nomatch h),(λ_ h=>nomatch h)⟩;rw[JY (by rw[JB];lia),JY<|by rw[JB];lia];simp
  refine z.pushA hy0 sa λx hx=>?_;obtain⟨k,_,hk2,ek⟩:=fM hx;have:=g1 k hk2;rw[cP hy0]at this;lia
 rw[Ex];refine Jt<|Q5<|MV ⟨rfl,?_⟩;refine Jt<|aU hy0 ?_;dsimp only;refine aD (λe=>JE<|h _ _ (SameG.refl _)<|m0.don sa sb<|.inl<|by simpa using e) λe0=>?_;refine aD (λe=>JE<|h _ _ (SameG.refl _)<|m0.fir sa (by simpa using e) nb g0) λe1=>?_;have n0:1<=a.size - 1:=by
  have:¬a.size - 1=0:=by simpa using e0
  lia
 have n1:2<=b.size:=by
  have:¬b.size=1:=by simpa using e1
  lia
 refine Jt<|Pm ?_;refine Jt (Mf (Lw (I:=λx c LD=>SameG st LD/\∃out i j mg,c=(Ji,i,j,out,mg)/\MH a b out i j/\1<=i/\2<=j/\i<=a.size/\j<=b.size/\x+1+i+j<=a.size+b.size)
  (Q:=λc LD=>SameG st LD/\∃r,c.fst=B' r/\v_ a b r) ?step ?fin ⟨SameG.refl _,_,_,_,_,rfl,m0,n0,n1,by lia,by lia,by lia⟩) ?post)
 case fin=>
  rintro c LD ⟨_,out,i,j,mg,rfl,m,h1,h2,h3⟩;lia
 case post=>
  rintro c LD ⟨k,r,e,hr⟩;rw[e];exact JE<|h r LD k hr
 case step=>
  rintro x c LD _ hx ⟨k,out,i,j,mg,rfl,m,h1,h2,hia,hjb,h3⟩;dsimp only;refine Jt (Mf (Lw (I:=λx' c VE=>VE=LD/\∃out i j ac bc,c=(Ji,i,j,out,ac,bc)/\MH a b out i j/\1<=i/\2<=j/\i<=a.size/\j<=b.size/\x+1+x'+i+j<=a.size+b.size)
   (Q:=λc VE=>VE=LD/\((∃r,c.fst=B' r/\v_ a b r)\/∃out i j ac bc,c=(Ji,i,j,out,ac,bc)/\MH a b out i j/\1<=i/\2<=j/\i<=a.size/\j<=b.size/\x+2+i+j<=a.size+b.size)) ?istep ?ifin ⟨rfl,out,i,j,0,0,rfl,m,h1,h2,hia,hjb,by lia⟩) ?ipost)
  case ifin=>
   rintro c VE ⟨rfl,out,i,j,ac,bc,rfl,m,h1,h2,hia,hjb,h3⟩;exact⟨rfl,.inr ⟨out,i,j,ac,bc,rfl,m,h1,h2,hia,hjb,by lia⟩⟩
  case istep=>
   rintro x' c VE _ hx' ⟨rfl,out,i,j,ac,bc,rfl,m,h1,h2,hia,hjb,h3⟩;obtain⟨i',rfl⟩:∃i',i=i'+1:=⟨i - 1,by lia⟩;obtain⟨j',rfl⟩:∃j',j=j'+1:=⟨j - 1,by lia⟩;obtain⟨p,hp,ip⟩:=YK (i:=i') (by lia);obtain⟨q,hq,iq⟩:=aaR (i:=j') (by lia);dsimp only;simp only [On];refine Jt<|aU hq<|Jt<|aU hp<|Jt<|je (k.1.trans hk) iq ip ?_;by_cases g:bX q < bX p
   ·simp only [g,PB,Ms];have m2:=m.pushA hp sa λz hz=>M7 (qE hq sb (by lia) z hz)<|Nm g;refine Jt<|aU hp ?_;refine aD (λe=>JE ⟨rfl,.inl ⟨_,rfl,m2.don sa sb<|.inl<|by simpa using e⟩⟩) λe=>?_;have e':¬i'=0:=by simpa using e
    exact aD (λ_=>JE ⟨rfl,.inr ⟨_,_,_,_,_,rfl,m2,by lia,h2,by lia,hjb,by lia⟩⟩) λ_=>JE ⟨rfl,_,_,_,_,_,rfl,m2,by lia,h2,by lia,hjb,by lia⟩
   ·simp only [g,OV,JA,La];have m2:=m.pushB hq sb λz hz=>M7 (qE hp sa (by lia) z hz)<|Z_.mp g;refine Jt<|aU hq ?_;refine aD (λe=>JE ⟨rfl,.inl ⟨_,rfl,m2.fir sa (by simpa using e) nb g0⟩⟩) λe=>?_;have e':¬j'=1:=by simpa using e
    exact aD (λ_=>JE ⟨rfl,.inr ⟨_,_,_,_,_,rfl,m2,h1,by lia,hia,by lia,by lia⟩⟩) λ_=>JE ⟨rfl,_,_,_,_,_,rfl,m2,h1,by lia,hia,by lia,by lia⟩
  case ipost=>
   rintro c VE ⟨rfl,⟨r,e,hr⟩|⟨out,i,j,ac,bc,rfl,m,h1,h2,hia,hjb,h3⟩⟩
   ·rw[e];exact JE ⟨k,r,rfl,hr⟩
   dsimp only;refine Jt<|Q5<|MV ⟨rfl,?_⟩;refine Jt (Mf (Lw (I:=λ_ c Mz=>SameG st Mz/\∃out i j mg ac bc,c=(Ji,i,j,out,mg,ac,bc)/\MH a b out i j/\1<=i/\2<=j/\i<=a.size/\j<=b.size/\x+2+i+j<=a.size+b.size)
    (Q:=λc Mz=>SameG st Mz/\((∃r,c.fst=B' r/\v_ a b r)\/∃out i j mg ac bc,c=(Ji,i,j,out,mg,ac,bc)/\MH a b out i j/\1<=i/\2<=j/\i<=a.size/\j<=b.size/\x+2+i+j<=a.size+b.size)) ?jstep ?jfin ⟨k,out,i,j,_,ac,bc,rfl,m,h1,h2,hia,hjb,h3⟩) ?jpost)
   case jfin=>
    rintro c Mz ⟨k2,z⟩;exact⟨k2,.inr z⟩
   case jpost=>
    rintro c Mz ⟨k2,⟨r,e,hr⟩|⟨out,i,j,mg,ac,bc,rfl,m,h1,h2,hia,hjb,h3⟩⟩
    ·rw[e];exact JE ⟨k2,r,rfl,hr⟩
    ·exact Jt<|jg<|JE ⟨k2.set _,_,_,_,_,rfl,m,h1,h2,hia,hjb,by lia⟩
   case jstep=>
    rintro x2 c Mz _ hx2 ⟨k2,out,i,j,mg,ac,bc,rfl,m,h1,h2,hia,hjb,h3⟩;obtain⟨j',rfl⟩:∃j',j=j'+1:=⟨j - 1,by lia⟩;dsimp only;simp only [On];obtain⟨q,hq,iq⟩:=aaR (i:=j') (by lia);have tail:∀u,u<=i->1<=u->True:=λ_ _ _=>trivial;refine aD (λ_=>?_) (λ_=>?_)<;>
    (refine Jt<|jg<|Jt<|aU hq<|Jt<|c9 (k2.1.trans hk) iq ka (by lia) (by lia) (λu v huv hv=>by rw[Le,Le];exact sa _ _ huv<|by lia) λn hn1 hn2 hn3=>?_
     dsimp only;simp only [Le]at hn2 hn3;have hgt:∀z∈(a.toList.drop n).take (i - n),bX q<=bX z:=λz hz=>by
      obtain⟨u,hu,_,eu⟩:=dO hz;have:=pF (hn3 (n+u) (by lia)<|by lia);lia
     have hle:∀z∈a.toList.take n,bX z<=bX q:=λz hz=>by
      obtain⟨u,hu,_,eu⟩:=fM hz;rw[eu];exact pT<|hn2 u hu
     have M2:MH a b (out++(a.extract n i).reverse) n (j'+1):=m.takeA hn1 sa λz hz y hy=>M7 (qE hq sb (by lia) y hy)<|hgt z hz;refine aD (λhn=>aD (λe=>JE ⟨k2.set _,.inl ⟨_,rfl,M2.don sa sb<|.inl<|by simpa using e⟩⟩) λe=>?_) λhn=>?_
     ·have c1:¬n=0:=by simpa using e
      obtain⟨i',rfl⟩:∃i',n=i'+1:=⟨n - 1,by lia⟩;obtain⟨p,hp,ip⟩:=YK (i:=i') (by lia);have M4:=M2.pushB hq sb hle;refine Jt<|aU hq ?_;refine aD (λe=>JE ⟨k2.set _,.inl ⟨_,rfl,M4.fir sa (by simpa using e) nb g0⟩⟩) λe=>?_;have e3:¬j'=1:=by simpa using e
      simp only [On];refine Jt<|aU hp<|Jt<|c9 (k2.1.trans hk) ip kb (by lia) (by lia) (λu v huv hv=>by rw[Le,Le];exact sb _ _ huv<|by lia) λn' VD UZ hm3=>?_;dsimp only;simp only [Le]at UZ hm3;have YG:∀z∈(b.toList.drop n').take (j' - n'),bX p<=bX z:=λz hz=>by
       obtain⟨u,hu,_,eu⟩:=dO hz;have:=lF (hm3 (n'+u) (by lia)<|by lia);lia
      have YC:∀z∈b.toList.take n',bX z<=bX p:=λz hz=>by
       obtain⟨u,hu,_,eu⟩:=fM hz;rw[eu];exact Nm<|lT<|UZ u hu
      have M5:=M4.takeB VD sb λz hz y hy=>M7 (qE hp sa (by lia) y hy)<|YG z hz;refine aD (λZW=>aD (λe=>JE ⟨k2.set _,.inl ⟨_,rfl,M5.fir sa (by simpa using e) nb g0⟩⟩) λe=>aD (λe'=>JE ⟨k2.set _,.inl ⟨_,rfl,M5.don sa sb<|.inr<|by simpa using e'⟩⟩) λe'=>?_) λZW=>?_
      ·have e4:¬n'=1:=by simpa using e
       have e5:¬n'=0:=by simpa using e'
       have M6:=M5.pushA hp sa YC;refine Jt<|aU hp ?_;refine aD (λe=>JE ⟨k2.set _,.inl ⟨_,rfl,M6.don sa sb<|.inl<|by simpa using e⟩⟩) λe=>?_;have e6:¬i'=0:=by simpa using e
       exact aD (λ_=>JE ⟨k2.set _,.inr ⟨_,_,_,_,_,_,rfl,M6,by lia,by lia,by lia,by lia,by lia⟩⟩) λ_=>JE ⟨k2.set _,_,_,_,_,_,_,rfl,M6,by lia,by lia,by lia,by lia,by lia⟩
      ·obtain rfl:n'=j':=by lia
       have M6:=M4.pushA hp sa YC;refine Jt<|aU hp ?_;refine aD (λe=>JE ⟨k2.set _,.inl ⟨_,rfl,M6.don sa sb<|.inl<|by simpa using e⟩⟩) λe=>?_;have e6:¬i'=0:=by simpa using e
       exact aD (λ_=>JE ⟨k2.set _,.inr ⟨_,_,_,_,_,_,rfl,M6,by lia,by lia,by lia,by lia,by lia⟩⟩) λ_=>JE ⟨k2.set _,_,_,_,_,_,_,rfl,M6,by lia,by lia,by lia,by lia,by lia⟩
     ·obtain rfl:n=i:=by lia
      obtain⟨i',rfl⟩:∃i',n=i'+1:=⟨n - 1,by lia⟩;obtain⟨p,hp,ip⟩:=YK (i:=i') (by lia);have M4:=m.pushB hq sb hle;refine Jt<|aU hq ?_;refine aD (λe=>JE ⟨k2.set _,.inl ⟨_,rfl,M4.fir sa (by simpa using e) nb g0⟩⟩) λe=>?_;have e3:¬j'=1:=by simpa using e
      simp only [On];refine Jt<|aU hp<|Jt<|c9 (k2.1.trans hk) ip kb (by lia) (by lia) (λu v huv hv=>by rw[Le,Le];exact sb _ _ huv<|by lia) λn' VD UZ hm3=>?_;dsimp only;simp only [Le]at UZ hm3;have YG:∀z∈(b.toList.drop n').take (j' - n'),bX p<=bX z:=λz hz=>by
       obtain⟨u,hu,_,eu⟩:=dO hz;have:=lF (hm3 (n'+u) (by lia)<|by lia);lia
      have YC:∀z∈b.toList.take n',bX z<=bX p:=λz hz=>by
       obtain⟨u,hu,_,eu⟩:=fM hz;rw[eu];exact Nm<|lT<|UZ u hu
      have M5:=M4.takeB VD sb λz hz y hy=>M7 (qE hp sa (by lia) y hy)<|YG z hz;refine aD (λZW=>aD (λe=>JE ⟨k2.set _,.inl ⟨_,rfl,M5.fir sa (by simpa using e) nb g0⟩⟩) λe=>aD (λe'=>JE ⟨k2.set _,.inl ⟨_,rfl,M5.don sa sb<|.inr<|by simpa using e'⟩⟩) λe'=>?_) λZW=>?_
      ·have e4:¬n'=1:=by simpa using e
       have e5:¬n'=0:=by simpa using e'
       have M6:=M5.pushA hp sa YC;refine Jt<|aU hp ?_;refine aD (λe=>JE ⟨k2.set _,.inl ⟨_,rfl,M6.don sa sb<|.inl<|by simpa using e⟩⟩) λe=>?_;have e6:¬i'=0:=by simpa using e
       exact aD (λ_=>JE ⟨k2.set _,.inr ⟨_,_,_,_,_,_,rfl,M6,by lia,by lia,by lia,by lia,by lia⟩⟩) λ_=>JE ⟨k2.set _,_,_,_,_,_,_,rfl,M6,by lia,by lia,by lia,by lia,by lia⟩
      ·obtain rfl:n'=j':=by lia
       have M6:=M4.pushA hp sa YC;refine Jt<|aU hp ?_;refine aD (λe=>JE ⟨k2.set _,.inl ⟨_,rfl,M6.don sa sb<|.inl<|by simpa using e⟩⟩) λe=>?_;have e6:¬i'=0:=by simpa using e
       exact aD (λ_=>JE ⟨k2.set _,.inr ⟨_,_,_,_,_,_,rfl,M6,by lia,by lia,by lia,by lia,by lia⟩⟩) λ_=>JE ⟨k2.set _,_,_,_,_,_,_,rfl,M6,by lia,by lia,by lia,by lia,by lia⟩)
structure SL (a₀:JF Ka)(lo:Nat)(st LD:Li):Prop where
 perm:(JZ LD).Perm a₀
 kind:kindOf LD=Pg
 failed:MD LD=Ji
 pend:Kn LD=Kn st
 low:∀k,k < lo->(JZ LD)[k]? =(JZ st)[k]?
def Srt(xs:JF Ka)(lo n:Nat):Prop:=∀i j,i<=j->j < n->K xs (lo+i)<=K xs (lo+j)
def Ez(xs:JF Ka)(lo n:Nat):Prop:=∀i j,i<=j->j < n->K xs (lo+j)<=K xs (lo+i)
section
variable {lo:Nat}{st:Li}
def SL.size(h:SL a₀ lo st LD):(JZ LD).size=a₀.size:=h.perm.size_eq
def SL.ints(h:SL a₀ lo st LD)(h0:IntKeys a₀):IntKeys (JZ LD):=λp hp=>h0 p<|(NF.mp h.perm).mem_iff.mp hp
def SL.mir(h:SL a₀ lo st LD)(hi:lo<=i)(hj:j<=a₀.size):SL a₀ lo st (UL LD<|QA (JZ LD) i j<|(j - i) / 2):=
 ⟨(mirror_perm _ _ _ _).trans h.perm,h.kind,h.failed,h.pend,λk hk=>by
  show(QA (JZ LD) i j<|(j - i) / 2)[k]? =_
  rw[Ua (by rw[h.size];exact hj),JK<|by lia];exact h.low k hk⟩
def SL.bub(h:SL a₀ lo st LD)(hd:lo<=dst)(hds:dst<=src)(hs:src < a₀.size):SL a₀ lo st (UL LD<|V1 (JZ LD) src<|src - dst):=
 ⟨(Wj _ _ _).trans h.perm,h.kind,h.failed,h.pend,λk hk=>by
  show(V1 (JZ LD) src<|src - dst)[k]? =_
  rw[WC (by rw[h.size];exact hs) _ (by lia),JK (by lia),JK<|by lia];exact h.low k hk⟩
end
section
variable {lo:Nat}{st:Li}
def jh(h:SL a₀ lo st LD)(h0:IntKeys a₀)(hi:i < a₀.size)(hj:j < a₀.size)(q:Q (B' (decide (K (JZ LD) i < K (JZ LD) j))) LD):wpS (JS prog w) A E s (ltAt' i j) Q LD:=by
 obtain⟨p,hp,ip,ep⟩:=oZ (h.ints h0) (i:=i) (by rw[h.size];exact hi);obtain⟨p2,Y3,ip2,ep2⟩:=oZ (h.ints h0) (i:=j) (by rw[h.size];exact hj);rw[ep,ep2]at q;rw[ltAt'_eq];exact Jt<|Pm<|Jt<|aU hp<|Jt<|aU Y3<|je h.kind ip ip2 q
def yn(h1:1<=x)(h:Srt xs lo x)(g:¬K xs (lo+x) < K xs (lo+x - 1)):Srt xs lo (x+1):=λi j hij hj=>by
 by_cases hjx:j < x
 ·exact h i j hij hjx
 ·obtain rfl:j=x:=by lia
  by_cases hi':i=j
  ·subst hi';exact Lg _
  ·have:=h i (j - 1) (by lia) (by lia);rw[show lo+(j - 1)=lo+j - 1 by lia]at this;lia
def qF(h1:1<=x)(h:Ez xs lo x)(g:K xs (lo+x)<=K xs (lo+x - 1)):Ez xs lo (x+1):=λi j hij hj=>by
 by_cases hjx:j < x
 ·exact h i j hij hjx
 ·obtain rfl:j=x:=by lia
  by_cases hi':i=j
  ·subst hi';exact Lg _
  ·have:=h i (j - 1) (by lia) (by lia);rw[show lo+(j - 1)=lo+j - 1 by lia]at this;lia
theorem ji{f:Nat->Jd (Jd Nat)×Nat->Si Li Sem (V8<|Jd (Jd Nat)×Nat)}{start:Nat}(h:SL a₀ lo st LD)(h0:IntKeys a₀)(hn:lo+M9<=a₀.size)(ha:1<=start)(han:start<=M9)(hs:Srt (JZ LD) lo start)
  (hf:∀x n,f x (Ji,n)=(do
   let r <-ltAt' (lo+n) (lo+n - 1)
   match r with
   |some Yz=>if Yz=Je then pure (OT (Ji,n))else pure (My (Ji,n+1))
   |_=>pure<|OT (B' Ji,n))):
  wpS (JS prog w) A E s (forIn [start:M9] ((Ji,start):Jd (Jd Nat)×Nat) f) (λc Mz=>Mz=LD/\∃n,c=(Ji,n)/\start<=n/\n<=M9/\Srt (JZ LD) lo n/\(n=M9\/K (JZ LD) (lo+n) < K (JZ LD) (lo+n - 1))) LD:=by
 refine Lw (I:=λx c Mz=>Mz=LD/\c=(Ji,x)/\Srt (JZ LD) lo x) ?step ?fin ⟨rfl,rfl,hs⟩
 case fin=>
  rintro c Mz ⟨rfl,rfl,VG⟩;rw[show max start M9=M9 by lia]at VG ⊢;exact⟨rfl,M9,rfl,han,Jh _,VG,.inl rfl⟩
 case step=>
  rintro x c Mz hax hxn ⟨rfl,rfl,VG⟩;rw[hf];refine Jt<|jh h h0 (by lia) (by lia) ?_;by_cases g:K (JZ Mz) (lo+x) < K (JZ Mz) (lo+x - 1)
  ·simp only [g,PB,Ms];exact JE ⟨rfl,x,rfl,hax,by lia,VG,.inr g⟩
  ·simp only [g,OV,JA,La];exact JE ⟨rfl,rfl,yn (by lia) VG g⟩
def o9(hj:lo+n<=xs.size)(hq:Ud+1<=n)(he:∀i,n - (Ud+1)<=i->i < n->K xs (lo+i)=K xs (lo+n - 1))(k:Nat):K (QA xs (lo+n - (Ud+1)) (lo+n)<|(lo+n - (lo+n - (Ud+1))) / 2) k=K xs k:=by
 refine Tv hj (λm h1 h2=>?_) k;have:=he (m - lo) (by lia) (by lia);rw[show lo+(m - lo)=m by lia]at this;exact this
theorem uf{f:Nat->Jd (Jd Nat)×Nat×Nat->Si Li Sem (V8<|Jd (Jd Nat)×Nat×Nat)}{start:Nat}(h:SL a₀ lo st LD)(h0:IntKeys a₀)(hn:lo+M9<=a₀.size)(ha:1<=start)(han:start<=M9)(hs:Ez (JZ LD) lo start)
  (hf:∀x n Ud,f x (Ji,n,Ud)=(do
   let r <-ltAt' (lo+n) (lo+n - 1)
   match r with
   |some Yz=>
    if Yz=Je then
     if Ud > 0 then do
      reverseSlice' (lo+n - (Ud+1)) (lo+n)
      pure (My (Ji,n+1,0))
     else pure (My (Ji,n+1,0))
    else do
     let r2 <-ltAt' (lo+n - 1) (lo+n)
     match r2 with
     |some acS=>if acS=Je then pure (OT (Ji,n,Ud))else pure (My (Ji,n+1,Ud+1))
     |_=>pure<|OT (B' Ji,n,Ud)
   |_=>pure<|OT (B' Ji,n,Ud))):
  wpS (JS prog w) A E s (forIn [start:M9] ((Ji,start,0):Jd (Jd Nat)×Nat×Nat) f) (λc Mz=>∃n Ud,c=(Ji,n,Ud)/\SL a₀ lo st Mz/\start<=n/\n<=M9/\Ez (JZ Mz) lo n/\Ud+1<=n/\∀i,n - (Ud+1)<=i->i < n->K (JZ Mz) (lo+i)=K (JZ Mz) (lo+n - 1)) LD:=by
 refine Lw (I:=λx c Mz=>∃Ud,c=(Ji,x,Ud)/\SL a₀ lo st Mz/\Ez (JZ Mz) lo x/\Ud+1<=x/\∀i,x - (Ud+1)<=i->i < x->K (JZ Mz) (lo+i)=K (JZ Mz) (lo+x - 1)) ?step ?fin ⟨0,rfl,h,hs,by lia,λi h1 h2=>by congr 1;lia⟩
 case fin=>
  rintro c Mz ⟨Ud,rfl,h',VG,hq,he⟩;rw[show max start M9=M9 by lia]at VG hq he ⊢;exact⟨M9,Ud,rfl,h',han,Jh _,VG,hq,he⟩
 case step=>
  rintro x c Mz hax hxn ⟨Ud,rfl,h',VG,hq,he⟩;have hsz:=h'.size;rw[hf];refine Jt<|jh h' h0 (by lia) (by lia) ?_;by_cases g:K (JZ Mz) (lo+x) < K (JZ Mz) (lo+x - 1)
  ·simp only [g,PB,Ms];have d1:=qF (by lia) VG<|Nm g;by_cases aeJ:Ud > 0
   ·rw[JL aeJ];refine Jt<|OQ<|JE ⟨0,rfl,h'.mir (by lia) (by lia),?_,by lia,λi h1 h2=>by congr 1;lia⟩;intro i j hij hj;show K (QA (JZ Mz) _ _ _) _<=K (QA (JZ Mz) _ _ _) _
    rw[o9 (by lia) hq he,o9 (by lia) hq he];exact d1 i j hij hj
   ·rw[JK aeJ];exact JE ⟨0,rfl,h',d1,by lia,λi h1 h2=>by congr 1;lia⟩
  ·simp only [g,OV,JA,La];refine Jt<|jh h' h0 (by lia) (by lia) ?_;by_cases g2:K (JZ Mz) (lo+x - 1) < K (JZ Mz) (lo+x)
   ·simp only [g2,PB,Ms];exact JE ⟨x,Ud,rfl,h',hax,by lia,VG,hq,he⟩
   ·simp only [g2,OV,JA,La];have ex:K (JZ Mz) (lo+x)=K (JZ Mz) (lo+x - 1):=by lia
    refine JE ⟨Ud+1,rfl,h',qF (by lia) VG<|Int.le_of_eq ex,by lia,λi h1 h2=>?_⟩;rw[show lo+(x+1) - 1=lo+x by lia];by_cases hix:i=x
    ·subst hix;rfl
    ·rw[ex];exact he i (by lia) (by lia)
def Bo{Q:Jd Nat->Li->Prop}(h:SL a₀ lo st LD)(h0:IntKeys a₀)(hn:lo+M9<=a₀.size)(h1:1<=M9)
  (q:∀m Mz,SL a₀ lo st Mz->1<=m->m<=M9->Srt (JZ Mz) lo m->Q (B' m) Mz):wpS (JS prog w) A E s (countRun' lo M9) Q LD:=by
 rw[countRun'_eq];have s1:Srt (JZ LD) lo 1:=λi j hij hj=>by
  obtain rfl:i=j:=by lia
  exact Lg _
 refine Jt<|Mf (ji h h0 hn (Jh 1) h1 s1 λ_ _=>rfl) ?_;rintro c Mz ⟨rfl,n,rfl,hn1,hn2,hs,hor⟩;dsimp only;refine aD (λe=>JE<|q n _ h hn1 hn2 hs) λe=>?_;have en:¬n=M9:=by simpa using e
 have NJ:K (JZ Mz) (lo+n) < K (JZ Mz) (lo+n - 1):=hor.resolve_left en;have hnn:n+1<=M9:=by lia
 have hsz:=h.size;refine aD (λg=>?_) λg=>?_
 ·refine Jt<|jh h h0 (by lia) (by lia) ?_;by_cases gr:K (JZ Mz) lo < K (JZ Mz) (lo+n - 1)
  ·simp only [gr,PB,Ms];exact JE<|q n _ h hn1 hn2 hs
  ·simp only [gr,OV,JA,La];have all:∀k,lo<=k->k < lo+n->K (JZ Mz) k=K (JZ Mz) (lo+n - 1):=λk hk1 hk2=>by
    have a1:=hs 0 (k - lo) (by lia) (by lia);have a2:=hs (k - lo) (n - 1) (by lia) (by lia);rw[show lo+(k - lo)=k by lia]at a1 a2;rw[show lo+(n - 1)=lo+n - 1 by lia]at a2;rw[OZ]at a1;lia
   have hL:SL a₀ lo st (UL Mz<|QA (JZ Mz) lo (lo+n)<|(lo+n - lo) / 2):=h.mir (Jh _) (by lia);have hD:Ez (QA (JZ Mz) lo (lo+n)<|(lo+n - lo) / 2) lo (n+1):=λu v huv hv=>by
    rw[Tv (by lia) all,Tv (by lia) all];by_cases hvn:v < n
    ·rw[all (lo+u) (by lia) (by lia),all (lo+v) (by lia)<|by lia];exact Lg _
    ·obtain rfl:v=n:=by lia
     by_cases hu:u=v
     ·subst hu;exact Lg _
     ·rw[all (lo+u) (by lia)<|by lia];exact Nm NJ
   refine Jt<|OQ ?_;refine Jt<|Q5<|MV ⟨rfl,?_⟩;refine Jt<|Mf (uf hL h0 hn (by lia) hnn hD λ_ _ _=>rfl) ?_;rintro c RP ⟨m,Ud,rfl,h3,VD,UZ,hd3,hq3,he3⟩;dsimp only;have agE:=h3.size;have fin:∀Sh,SL a₀ lo st Sh->(∀k,K (JZ Sh) k=K (JZ RP) k)->SL a₀ lo st (UL Sh<|QA (JZ Sh) lo (lo+m)<|(lo+m - lo) / 2)/\Srt (QA (JZ Sh) lo (lo+m)<|(lo+m - lo) / 2) lo m:=λSh h4 e4=>by
    refine⟨h4.mir (Jh _) (by lia),λu v huv hv=>?_⟩;have agD:=h4.size;rw[Xl (by lia),Xl (by lia),JL (by lia),JL (by lia),e4,e4];have:=hd3 (m - 1 - v) (m - 1 - u) (by lia) (by lia);rw[show lo+(lo+m) - 1 - (lo+u)=lo+(m - 1 - u) by lia,show lo+(lo+m) - 1 - (lo+v)=lo+(m - 1 - v) by lia];exact this
   refine aD (λg3=>?_) λg3=>?_
   ·have h4:SL a₀ lo st (UL RP<|QA (JZ RP) (lo+m - (Ud+1)) (lo+m)<|(lo+m - (lo+m - (Ud+1))) / 2):=h3.mir (by lia) (by lia);obtain⟨h5,s5⟩:=fin _ h4<|o9 (by lia) hq3 he3;refine Jt<|OQ<|Jt<|OQ<|Jt<|Mf (ji h5 h0 hn (by lia) UZ s5 λ_ _=>rfl) ?_;rintro c st6 ⟨rfl,n6,rfl,b1,b2,b3,_⟩;exact JE<|q n6 _ h5 (by lia) b2 b3
   ·obtain⟨h5,s5⟩:=fin _ h3 λ_=>rfl;refine Jt<|OQ<|Jt<|Mf (ji h5 h0 hn (by lia) UZ s5 λ_ _=>rfl) ?_;rintro c st6 ⟨rfl,n6,rfl,b1,b2,b3,_⟩;exact JE<|q n6 _ h5 (by lia) b2 b3
 ·obtain rfl:n=1:=by lia
  have hL:=h;have hD:Ez (JZ Mz) lo (1+1):=λu v huv hv=>by
   by_cases hu:u=v
   ·subst hu;exact Lg _
   ·obtain rfl:u=0:=by lia
    obtain rfl:v=1:=by lia
    exact Nm NJ
  refine Jt<|Q5<|MV ⟨rfl,?_⟩;refine Jt<|Mf (uf hL h0 hn (by lia) hnn hD λ_ _ _=>rfl) ?_;rintro c RP ⟨m,Ud,rfl,h3,VD,UZ,hd3,hq3,he3⟩;dsimp only;have agE:=h3.size;have fin:∀Sh,SL a₀ lo st Sh->(∀k,K (JZ Sh) k=K (JZ RP) k)->SL a₀ lo st (UL Sh<|QA (JZ Sh) lo (lo+m)<|(lo+m - lo) / 2)/\Srt (QA (JZ Sh) lo (lo+m)<|(lo+m - lo) / 2) lo m:=λSh h4 e4=>by
   refine⟨h4.mir (Jh _) (by lia),λu v huv hv=>?_⟩;have agD:=h4.size;rw[Xl (by lia),Xl (by lia),JL (by lia),JL (by lia),e4,e4];have:=hd3 (m - 1 - v) (m - 1 - u) (by lia) (by lia);rw[show lo+(lo+m) - 1 - (lo+u)=lo+(m - 1 - u) by lia,show lo+(lo+m) - 1 - (lo+v)=lo+(m - 1 - v) by lia];exact this
  refine aD (λg3=>?_) λg3=>?_
  ·have h4:SL a₀ lo st (UL RP<|QA (JZ RP) (lo+m - (Ud+1)) (lo+m)<|(lo+m - (lo+m - (Ud+1))) / 2):=h3.mir (by lia) (by lia);obtain⟨h5,s5⟩:=fin _ h4<|o9 (by lia) hq3 he3;refine Jt<|OQ<|Jt<|OQ<|Jt<|Mf (ji h5 h0 hn (by lia) UZ s5 λ_ _=>rfl) ?_;rintro c st6 ⟨rfl,n6,rfl,b1,b2,b3,_⟩;exact JE<|q n6 _ h5 (by lia) b2 b3
  ·obtain⟨h5,s5⟩:=fin _ h3 λ_=>rfl;refine Jt<|OQ<|Jt<|Mf (ji h5 h0 hn (by lia) UZ s5 λ_ _=>rfl) ?_;rintro c st6 ⟨rfl,n6,rfl,b1,b2,b3,_⟩;exact JE<|q n6 _ h5 (by lia) b2 b3
end
section
variable {lo:Nat}{st:Li}
def Bp{ok:Nat}{Q:JJ->Li->Prop}(h:SL a₀ lo st LD)(h0:IntKeys a₀)(hn:lo+n<=a₀.size)(hok:ok<=n)(h1:1<=n)(hs:Srt (JZ LD) lo ok)
  (q:∀Mz,SL a₀ lo st Mz->Srt (JZ Mz) lo n->Q Je Mz):wpS (JS prog w) A E s (binarySort' lo n ok) Q LD:=by
 rw[binarySort'_eq];refine Jt (Mf (Lw (I:=λk c Mz=>c=(Ji,())/\SL a₀ lo st Mz/\Srt (JZ Mz) lo (min k n))
  (Q:=λc Mz=>c=(Ji,())/\SL a₀ lo st Mz/\Srt (JZ Mz) lo n) ?step ?fin ?init) ?post)
 case post=>
  rintro c Mz ⟨rfl,h2,s2⟩;exact JE<|q Mz h2 s2
 case init=>
  refine⟨rfl,h,λi j hij hj=>?_⟩;by_cases z:ok=0
  ·obtain rfl:i=j:=by lia
   exact Lg _
  ·exact hs i j hij (by lia)
 case fin=>
  rintro c Mz ⟨hc,h2,s2⟩;exists hc,h2
  rwa [show min (max (max ok 1) n) n=n by lia]at s2
 case step=>
  rintro k c Mz hak hkn ⟨rfl,h2,s2⟩;rw[show min k n=k by lia]at s2;have hsz:=h2.size;refine Jt (Mf (Lw (I:=λx c RP=>RP=Mz/\∃l r,c=(Ji,l,r)/\l<=r/\r<=k/\r - l<=k - x/\(∀i,i < l->K (JZ Mz) (lo+i)<=K (JZ Mz) (lo+k))/\(∀i,r<=i->i < k->K (JZ Mz) (lo+k) < K (JZ Mz) (lo+i)))
   (Q:=λc RP=>RP=Mz/\∃l,c=(Ji,l,l)/\l<=k/\(∀i,i < l->K (JZ Mz) (lo+i)<=K (JZ Mz) (lo+k))/\(∀i,l<=i->i < k->K (JZ Mz) (lo+k) < K (JZ Mz) (lo+i))) ?istep ?ifin ⟨rfl,0,k,rfl,by lia,by lia,by lia,λi hi=>by lia,λi h1 h2=>by lia⟩) ?ipost)
  case ifin=>
   rintro c RP ⟨rfl,l,r,rfl,b1,b2,b3,b4,b5⟩;obtain rfl:l=r:=by lia
   exact⟨rfl,l,rfl,b2,b4,b5⟩
  case istep=>
   rintro x c RP _ hx ⟨rfl,l,r,rfl,b1,b2,b3,b4,b5⟩;dsimp only;refine aD (λg=>?_) λg=>?_
   ·obtain rfl:l=r:=by lia
    exact JE ⟨rfl,l,rfl,b2,b4,b5⟩
   ·refine Jt<|jh h2 h0 (by lia) (by lia) ?_;by_cases gl:K (JZ RP) (lo+k) < K (JZ RP) (lo+(l+r) / 2)
    ·simp only [gl,PB,Ms];exact JE ⟨rfl,l,(l+r) / 2,rfl,by lia,by lia,by lia,b4,λi c1 c2=>Int.lt_of_lt_of_le gl<|s2 _ _ c1 c2⟩
    ·simp only [gl,OV,JA,La];exact JE ⟨rfl,(l+r) / 2+1,r,rfl,by lia,by lia,by lia,λi c1=>M7 (s2 i ((l+r) / 2) (by lia)<|by lia)<|Z_.mp gl,b5⟩
  case ipost=>
   rintro c RP ⟨rfl,l,rfl,b2,b4,b5⟩;dsimp only;rw[moveDown'_eq];refine Jt<|Ol<|JE ⟨rfl,h2.bub (by lia) (by lia) (by lia),?_⟩;rw[show min (k+1) n=k+1 by lia];have hks:lo+k < (JZ RP).size:=by lia
   intro i j hij hj;show K (V1 (JZ RP) (lo+k)<|lo+k - (lo+l)) (lo+i)<=K (V1 (JZ RP) (lo+k)<|lo+k - (lo+l)) (lo+j)
   rw[K_bubble hks (by lia),K_bubble hks (by lia),show lo+k - (lo+k - (lo+l))=lo+l by lia];have sub:∀u v,lo<=u->u<=v->v < lo+k->K (JZ RP) u<=K (JZ RP) v:=λu v c1 c2 c3=>by
    have:=s2 (u - lo) (v - lo) (by lia) (by lia)
    rwa [show lo+(u - lo)=u by lia,show lo+(v - lo)=v by lia]at this
   have up:∀u,lo+l<=u->u < lo+k->K (JZ RP) (lo+k)<=K (JZ RP) u:=λu c1 c2=>by
    have:=b5 (u - lo) (by lia) (by lia);rw[show lo+(u - lo)=u by lia]at this;lia
   have dn:∀u,lo<=u->u < lo+l->K (JZ RP) u<=K (JZ RP) (lo+k):=λu c1 c2=>by
    have:=b4 (u - lo) (by lia)
    rwa [show lo+(u - lo)=u by lia]at this
   repeat' split
   all_goals first
    |(exfalso;lia)
    |exact Lg _
    |exact dn _ (by lia) (by lia)
    |exact up _ (by lia) (by lia)
    |exact sub _ _ (by lia) (by lia) (by lia)
end
theorem sf(i:Nat):Zy i=(do
 let t <-get
 let (B' (sa,na,aea),B' (sb,nb,_)):=((Kn t)[i]?,(Kn t)[i+1]?)|Wc "internal:list.sort.pending"
 set (Sv t<|((Kn t).setIfInBounds i (sa,na+nb,aea)).eraseIdxIfInBounds<|i+1)
 let B' k <-fK Jg (<-Ph (JZ t) sb) (JZ t) sa na 0|return Jg
 let (sa,na):=(sa+k,na - k)
 if na == 0 then return Je
 let B' nb <-fK Je (<-Ph (JZ t)<|sa+na - 1) (JZ t) sb nb (nb - 1)|return Jg
 if nb == 0 then return Je
 let x:=(JZ t).extract sa sb
 let y:=(JZ t).extract sb (sb+nb)
 let m <-if na<=nb then Im x y else Io x y
 modify λt=>UL t (m.toList.zipIdx.foldl (λa (p,j)=>a.setIfInBounds (sa+j) p)<|JZ t)
 return (MD (<-get)).isNone):=rfl
theorem ug(base:Nat):∀(l:IW Ka) (k:Nat) (Mr:JF Ka) (p:Nat),base+k+l.length<=Mr.size->
  ((l.zipIdx k).foldl (λa (q:Ka×Nat)=>a.setIfInBounds (base+q.2) q.1) Mr)[p]? =if base+k<=p/\p < base+k+l.length then l[p - (base+k)]? else Mr[p]?
 |[],k,Mr,p,_=>by
  rw[JK<|by rw[Lk];lia];rfl
 |x::l,k,Mr,p,h=>by
  rw[J4]at h;have ih:=ug base l (k+1) (Mr.setIfInBounds (base+k) x) p (by rw[RO];lia);rw[List.zipIdx_cons,NL,ih,J4];by_cases g:base+k=p
  ·subst g;rw[JK (by lia),JL (by lia),M1,Array.getElem?_setIfInBounds_self_of_lt<|by lia];rfl
  ·by_cases g2:base+(k+1)<=p/\p < base+(k+1)+l.length
   ·rw[JL g2,JL<|by lia];obtain⟨d,hd⟩:∃d,p - (base+k)=d+1:=⟨p - (base+k) - 1,by lia⟩;rw[hd,show p - (base+(k+1))=d by lia];rfl
   ·rw[JK g2,JK (by lia),P5<|by lia]
def put(Mr:JF Ka)(base:Nat)(m:JF Ka):JF Ka:=m.toList.zipIdx.foldl (λa (q:Ka×Nat)=>a.setIfInBounds (base+q.2) q.1) Mr
def sh(h:base+m.size<=Mr.size)(p:Nat):(put Mr base m)[p]? =if base<=p/\p < base+m.size then m[p - base]? else Mr[p]?:=by
 have:=ug base m.toList 0 Mr p (by rw[JB];lia);rw[JB]at this;unfold put;rw[this,OZ,J0]
def CJ(h:base+m.size<=Mr.size)(p:Nat):K (put Mr base m) p=if base<=p/\p < base+m.size then K m (p - base)else K Mr p:=by
 have e:=sh h p;by_cases g:base<=p/\p < base+m.size
 ·rw[JL g]at e ⊢;exact WM e
 ·rw[JK g]at e ⊢;exact WM e
def yo(h:base+m.size<=Mr.size):(put Mr base m).toList=Mr.toList.take base++(m.toList++Mr.toList.drop (base+m.size)):=by
 refine OB λp=>?_;rw[J0,sh h,NU,J9,JB,NU,JB];by_cases g:base<=p
 ·by_cases g2:p < base+m.size
  ·rw[JL ⟨g,g2⟩,JK (by lia),show p - min base Mr.size=p - base by lia,JL (by lia),J0]
  ·rw[JK (by lia),JK (by lia),show p - min base Mr.size=p - base by lia,JK (by lia),List.getElem?_drop,J0]
   congr 1
   lia
 ·rw[JK (by lia),JL (by lia),UT,JL (by lia),J0]
def jj(Mr:JF Ka)(u n:Nat):(Mr.extract u<|u+n).toList=(Mr.toList.drop u).take n:=dQ Mr u n
def eR{Mr:JF Ka}{u n:Nat}(h:u+n<=Mr.size):(Mr.extract u<|u+n).size=n:=by
 rw[Array.size_extract];lia
def nH(h:u+n<=Mr.size)(hk:k < n):K (Mr.extract u<|u+n) k=K Mr (u+k):=by
 refine WM ?_;rw[Array.getElem?_extract,JL<|by lia]
def kM(h:u+n<=Mr.size)(g:Srt Mr u n):Lz (Mr.extract u<|u+n) (Mr.extract u<|u+n).size:=λi j hij hj=>by
 rw[eR h]at hj;rw[nH h (by lia),nH h hj];exact g i j hij hj
def jk{Mr:JF Ka}{u v:Nat}(h:IntKeys Mr):IntKeys (Mr.extract u v):=λp hp=>by
 rw[NX,MS]at hp;exact h p<|List.mem_of_mem_drop<|NT hp
def EA(h:m.toList.Pairwise le):∀i j,i<=j->j < m.size->K m i<=K m j:=λi j hij hj=>by
 obtain g|g:=Lx i j
 ·have:=NK.mp h i j (by rw[JB];lia) (by rw[JB];lia) g;rw[K_eq (by lia:i < m.size),K_eq hj];exact this
 ·obtain rfl:i=j:=by lia
  exact Lg _
structure Jn (Mr adD:JF Ka)(sa na nb:Nat):Prop where
 perm:adD.Perm Mr
 out:∀p,(p < sa\/sa+na+nb<=p)->adD[p]? =Mr[p]?
 srt:Srt adD sa (na+nb)
def uh(h1:Srt Mr sa na)(h2:Srt Mr (sa+na) nb)(g:∀i j,i < na->j < nb->K Mr (sa+i)<=K Mr (sa+na+j)):Jn Mr Mr sa na nb:=
 ⟨QF _,λ_ _=>rfl,λi j hij hj=>by
  by_cases c1:j < na
  ·exact h1 i j hij c1
  ·by_cases c2:i < na
   ·have:=g i (j - na) c2 (by lia)
    rwa [show sa+na+(j - na)=sa+j by lia]at this
   ·have:=h2 (i - na) (j - na) (by lia) (by lia)
    rwa [show sa+na+(j - na)=sa+j by lia,show sa+na+(i - na)=sa+i by lia]at this⟩
def yp{m:JF Ka}(hz:sa+na+nb<=Mr.size)(hk:k<=na)(hn:n<=nb)(h1:Srt Mr sa na)(h2:Srt Mr (sa+na) nb)
  (c1:∀i,i < k->∀j,j < nb->K Mr (sa+i)<=K Mr (sa+na+j)) (c2:∀j,n<=j->j < nb->∀i,i < na->K Mr (sa+i)<=K Mr (sa+na+j))
  (r:v_ (Mr.extract (sa+k)<|sa+k+(na - k)) (Mr.extract (sa+na)<|sa+na+n) m):Jn Mr (put Mr (sa+k) m) sa na nb:=by
 have hm:m.size=na - k+n:=by
  have:=r.perm.length_eq;rw[JC,JB,JB,JB,eR (by lia),eR<|by lia]at this;exact this
 have hb:sa+k+m.size<=Mr.size:=by lia
 have T5:∀q,q < m.size->(∃i,k<=i/\i < na/\K m q=K Mr (sa+i))\/∃j,j < n/\K m q=K Mr (sa+na+j):=λq hq=>by
  have hz:m[q]∈m.toList:=by simp
  rw[K_eq hq];obtain z|z:=JI.mp (r.perm.mem_iff.mp hz)
  ·rw[jj]at z;obtain⟨u,hu,_,eu⟩:=dO z;exact .inl ⟨k+u,by lia,by lia,by rw[<-Nu];exact eu⟩
  ·rw[jj]at z;obtain⟨u,hu,_,eu⟩:=dO z;exact .inr ⟨u,hu,eu⟩
 refine⟨?_,λp hp=>?_,λi j hij hj=>?_⟩
 ·rw[NF,yo hb];have e1:Mr.toList=Mr.toList.take (sa+k)++((Mr.toList.drop<|sa+k).take m.size++Mr.toList.drop (sa+k+m.size)):=by
   conv=>lhs;rw[<-Ml (sa+k) Mr.toList,<-Ml m.size<|Mr.toList.drop<|sa+k,Ra]
  have e2:(Mr.toList.drop<|sa+k).take m.size=(Mr.extract (sa+k)<|sa+k+(na - k)).toList++(Mr.extract (sa+na)<|sa+na+n).toList:=by
   rw[jj,jj,hm,Ye,Ra,show sa+k+(na - k)=sa+na by lia]
  conv=>rhs;rw[e1,e2]
  exact Mm _<|Os _ r.perm
 ·rw[sh hb,JK<|by lia]
 ·rw[CJ hb,CJ hb];have sm:=EA r.srt;by_cases a1:sa+k<=sa+i/\sa+i < sa+k+m.size<;>by_cases a2:sa+k<=sa+j/\sa+j < sa+k+m.size
  ·rw[JL a1,JL a2];exact sm _ _ (by lia) (by lia)
  ·rw[JL a1,JK a2];have ej:sa+j=sa+na+(j - na):=by lia
   obtain⟨u,u1,u2,eu⟩|⟨u,u1,eu⟩:=T5 (sa+i - (sa+k)) (by lia)
   ·rw[eu,ej];exact c2 (j - na) (by lia) (by lia) u u2
   ·rw[eu,ej];exact h2 u (j - na) (by lia) (by lia)
  ·rw[JK a1,JL a2];obtain⟨u,u1,u2,eu⟩|⟨u,u1,eu⟩:=T5 (sa+j - (sa+k)) (by lia)
   ·rw[eu];exact h1 i u (by lia) u2
   ·rw[eu];exact c1 i (by lia) u (by lia)
  ·rw[JK a1,JK a2];by_cases b1:i < k
   ·by_cases b2:j < k
    ·exact h1 i j hij (by lia)
    ·rw[show sa+j=sa+na+(j - na) by lia];exact c1 i b1 (j - na) (by lia)
   ·rw[show sa+j=sa+na+(j - na) by lia,show sa+i=sa+na+(i - na) by lia];exact h2 (i - na) (j - na) (by lia) (by lia)
def Bq{st:Li}(h:Q () x):wpS (JS prog w) A E s (set x:Si Li Sem SU) Q st:=by
 unfold wpS;rw[StateT.run_set];exact Jl ⟨rfl,h⟩
def wb{Q:JJ->Li->Prop}{st:Li}(hk:kindOf st=Pg)(hi:IntKeys (JZ st))(hf:MD st=Ji)(e1:(Kn st)[i]? =B' (sa,na,pa))(e2:(Kn st)[i+1]? =B' (sa+na,nb,pb))(n1:1<=na)(n2:1<=nb)(hz:sa+na+nb<=(JZ st).size)(h1:Srt (JZ st) sa na)(h2:Srt (JZ st) (sa+na) nb)
  (q:∀LD,kindOf LD=Pg->MD LD=Ji->Kn LD=((Kn st).setIfInBounds i (sa,na+nb,pa)).eraseIdxIfInBounds (i+1)->Jn (JZ st) (JZ LD) sa na nb->Q Je LD):wpS (JS prog w) A E s (Zy i) Q st:=by
 rw[sf];refine Jt<|Pm ?_;rw[e1,e2];dsimp only;obtain⟨y0,hy0,iy0,ey0⟩:=oZ hi (i:=sa+na) (by lia);obtain⟨x0,hx0,ix0,ex0⟩:=oZ hi (i:=sa+na - 1) (by lia);refine Jt<|Bq<|Jt<|aU hy0<|Jt<|c9 hk iy0 hi (by lia) n1 h1 λk hk1 hk2 hk3=>?_;dsimp only;have kle:∀u,u < k->K (JZ st) (sa+u)<=K (JZ st) (sa+na):=λu hu=>by rw[ey0];exact pT<|hk2 u hu
 have kgt:∀u,k<=u->u < na->K (JZ st) (sa+na) < K (JZ st) (sa+u):=λu c1 c2=>by rw[ey0];exact pF<|hk3 u c1 c2
 have c1:∀u,u < k->∀v,v < nb->K (JZ st) (sa+u)<=K (JZ st) (sa+na+v):=λu hu v hv=>M7 (kle u hu) (by have:=h2 0 v (by lia) hv;rwa [OZ]at this);refine aD (λe=>JE<|q _ hk hf rfl<|uh h1 h2 λu v hu hv=>c1 u ?_ v hv) λe=>?_
 ·have:na - k=0:=by simpa using e
  lia
 have ek:¬na - k=0:=by simpa using e
 rw[show sa+k+(na - k) - 1=sa+na - 1 by lia];refine Jt<|aU hx0<|Jt<|c9 hk ix0 hi (by lia) (by lia) h2 λn VD UZ hm3=>?_;dsimp only;have nlt:∀v,v < n->K (JZ st) (sa+na+v) < K (JZ st) (sa+na - 1):=λv hv=>by rw[ex0];exact lT<|UZ v hv
 have nge:∀v,n<=v->v < nb->K (JZ st) (sa+na - 1)<=K (JZ st) (sa+na+v):=λv c3 c4=>by rw[ex0];exact lF<|hm3 v c3 c4
 have c2:∀v,n<=v->v < nb->∀u,u < na->K (JZ st) (sa+u)<=K (JZ st) (sa+na+v):=λv c3 c4 u hu=>by
  have:=h1 u (na - 1) (by lia) (by lia);rw[show sa+(na - 1)=sa+na - 1 by lia]at this;exact M7 this<|nge v c3 c4
 refine aD (λe=>JE<|q _ hk hf rfl<|uh h1 h2 λu v hu hv=>c2 v ?_ hv u hu) λe=>?_
 ·have:n=0:=by simpa using e
  lia
 have en:¬n=0:=by simpa using e
 have hX:(JZ st).extract (sa+k) (sa+na)=(JZ st).extract (sa+k) (sa+k+(na - k)):=by rw[show sa+k+(na - k)=sa+na by lia]
 have s1:Srt (JZ st) (sa+k) (na - k):=λu v huv hv=>by
  have:=h1 (k+u) (k+v) (by lia) (by lia)
  rwa [<-Nu,<-Nu]at this
 have s2:Srt (JZ st) (sa+na) n:=λu v huv hv=>h2 u v huv (by lia);have z1:sa+k+(na - k)<=(JZ st).size:=by lia
 have z2:sa+na+n<=(JZ st).size:=by lia
 have g0:∀u,u < ((JZ st).extract (sa+k)<|sa+k+(na - k)).size->K ((JZ st).extract (sa+na)<|sa+na+n) 0 < K ((JZ st).extract (sa+k)<|sa+k+(na - k)) u:=λu hu=>by
  rw[eR z1]at hu;rw[nH z2 (by lia),nH z1 hu,OZ];have:=kgt (k+u) (by lia) (by lia)
  rwa [<-Nu]at this
 have g1:∀u,u < ((JZ st).extract (sa+na)<|sa+na+n).size->K ((JZ st).extract (sa+na)<|sa+na+n) u < K ((JZ st).extract (sa+k)<|sa+k+(na - k)) (((JZ st).extract (sa+k)<|sa+k+(na - k)).size - 1):=λu hu=>by
  rw[eR z2]at hu;rw[eR z1,nH z2 hu,nH z1 (by lia),show sa+k+(na - k - 1)=sa+na - 1 by lia];exact nlt u hu
 have zz1:=eR z1;have zz2:=eR z2;rw[hX];refine aD (λ_=>?_) λ_=>?_
 ·refine Jt<|Ew (st:=Sv st<|((Kn st).setIfInBounds i (sa,na+nb,pa)).eraseIdxIfInBounds<|i+1) hk (jk hi) (jk hi) (kM z1 s1) (kM z2 s2) (by lia) (by lia) (g0 0<|by lia) g1 ?_;refine λr Mz sg hr=>?_;have kp:JZ Mz=JZ st:=sg.2.1;have hj:=yp hz hk1 VD h1 h2 c1 c2 hr;refine Jt<|Ol<|Jt<|Pm ?_;have ef:(MD Mz).isNone=true:=by rw[show MD Mz=Ji from sg.2.2.2.trans hf];rfl
  show wpS (JS prog w) A E s (pure (MD Mz).isNone) Q _
  rw[ef];refine JE<|q _ (sg.1.trans hk) (sg.2.2.2.trans hf) sg.2.2.1 ?_;show Jn (JZ st) (put (JZ Mz) (sa+k) r) sa na nb
  rw[kp];exact hj
 ·refine Jt<|Ey (st:=Sv st<|((Kn st).setIfInBounds i (sa,na+nb,pa)).eraseIdxIfInBounds<|i+1) hk (jk hi) (jk hi) (kM z1 s1) (kM z2 s2) (by lia) (by lia) g0 g1 ?_;refine λr Mz sg hr=>?_;have kp:JZ Mz=JZ st:=sg.2.1;have hj:=yp hz hk1 VD h1 h2 c1 c2 hr;refine Jt<|Ol<|Jt<|Pm ?_;have ef:(MD Mz).isNone=true:=by rw[show MD Mz=Ji from sg.2.2.2.trans hf];rfl
  show wpS (JS prog w) A E s (pure (MD Mz).isNone) Q _
  rw[ef];refine JE<|q _ (sg.1.trans hk) (sg.2.2.2.trans hf) sg.2.2.1 ?_;show Jn (JZ st) (put (JZ Mz) (sa+k) r) sa na nb
  rw[kp];exact hj
inductive Runs (xs:JF Ka):Nat->IW (Nat×Nat×Nat)->Nat->Prop
 |nil (lo:Nat):Runs xs lo [] lo
 |cons {lo n p hi:Nat} {r:IW (Nat×Nat×Nat)} (h1:1<=n) (h2:Srt xs lo n) (t:Runs xs (lo+n) r hi):Runs xs lo ((lo,n,p)::r) hi
theorem Runs.le:∀{lo hi:Nat} {l:IW (Nat×Nat×Nat)},Runs xs lo l hi->lo+l.length<=hi
 |_,_,_,.nil _=>Jh _
 |_,_,_,.cons h1 _ t=>by
  have:=t.le;rw[J4];lia
def iu{lo:Nat}(h:Srt xs lo n)(e:∀k,lo<=k->k < lo+n->ys[k]? =xs[k]?):Srt ys lo n:=λi j hij hj=>by
 rw[WM (e (lo+i) (by lia)<|by lia),WM<|e (lo+j) (by lia)<|by lia];exact h i j hij hj
theorem Runs.congr:∀{lo hi:Nat} {l:IW (Nat×Nat×Nat)},Runs xs lo l hi->(∀k,lo<=k->k < hi->ys[k]? =xs[k]?)->Runs ys lo l hi
 |_,_,_,.nil lo,_=>.nil lo
 |lo,hi,_,.cons (n:=n) h1 h2 t,e=>by
  have:=t.le;exact .cons h1 (iu h2 λk a b=>e k a<|by lia)<|t.congr λk a b=>e k (by lia) b
theorem Runs.snoc:∀{lo hi:Nat} {l:IW (Nat×Nat×Nat)},Runs xs lo l hi->1<=n->Srt xs hi n->Runs xs lo (l++[(hi,n,p)]) (hi+n)
 |_,_,_,.nil lo,h1,h2=>.cons h1 h2<|.nil _
 |_,_,_,.cons a b t,h1,h2=>.cons a b<|t.snoc h1 h2
theorem Runs.pow2:∀{lo hi:Nat} {l l':IW (Nat×Nat×Nat)},Runs xs lo l hi->l'.map (λq=>(q.1,q.2.1))=l.map (λq=>(q.1,q.2.1))->Runs xs lo l' hi
 |_,_,_,[],.nil lo,_=>.nil lo
 |_,_,_,_::_,.nil lo,e=>by cases e
 |_,_,_,[],.cons a b t,e=>by cases e
 |_,_,_,(u,v,p)::l',.cons a b t,e=>by
  rw[Kz,Kz]at e;obtain⟨e1,e2⟩:=abV e;have e3:(u,v)=(_,_):=e1;cases e3;exact .cons a b<|t.pow2 e2
theorem Runs.at2:∀{lo hi i:Nat} {l:IW (Nat×Nat×Nat)} {q q2:Nat×Nat×Nat},Runs xs lo l hi->l[i]? =B' q->l[i+1]? =B' q2->∃sa na pa nb pb,q=(sa,na,pa)/\q2=(sa+na,nb,pb)/\1<=na/\1<=nb/\lo<=sa/\sa+na+nb<=hi/\Srt xs sa na/\Srt xs (sa+na) nb
 |_,_,_,_,_,_,.nil _,h,_=>by simp at h
 |lo,hi,0,_,q,q2,.cons (n:=n) (p:=p) h1 h2 t,h,g=>by
  cases t with
  |nil=>simp at g
  |cons h3 h4 t2=>
   have:=t2.le;simp only [MF,NR]at h;simp only [PH,MF,NR]at g;subst h g;exact⟨_,_,_,_,_,rfl,rfl,h1,h3,Jh _,by lia,h2,h4⟩
 |lo,hi,i+1,_,q,q2,.cons (n:=n) (p:=p) h1 h2 t,h,g=>by
  obtain⟨sa,na,pa,nb,pb,a1,a2,a3,a4,a5,a6⟩:=t.at2 (i:=i) (by simpa using h) (by simpa using g);exact⟨sa,na,pa,nb,pb,a1,a2,a3,a4,by lia,a6⟩
def fuse:IW (Nat×Nat×Nat)->Nat->IW (Nat×Nat×Nat)
 |(sa,na,pa)::(_,nb,_)::r,0=>(sa,na+nb,pa)::r
 |x::r,i+1=>x::fuse r i
 |l,_=>l
def jH(x:Nat×Nat×Nat)(r:IW (Nat×Nat×Nat))(i:Nat):fuse (x::r) (i+1)=x::fuse r i:=by
 cases r<;>rfl
theorem Runs.fuse:∀{lo hi i:Nat} {l:IW (Nat×Nat×Nat)},Runs xs lo l hi->l[i]? =B' (sa,na,pa)->l[i+1]? =B' (sa+na,nb,pb)->Jn xs ys sa na nb->Runs ys lo (TS.fuse l i) hi
 |_,_,_,_,.nil _,h,_,_=>by simp at h
 |lo,hi,0,_,.cons (n:=n) (p:=p) h1 h2 t,h,g,j=>by
  cases t with
  |nil=>simp at g
  |cons h3 h4 t2=>
   have:=t2.le;simp only [MF,NR,RM]at h;simp only [PH,MF,NR,RM]at g;obtain⟨rfl,rfl,rfl⟩:=h;obtain⟨_,rfl,_⟩:=g;refine .cons (by lia) j.srt ?_;rw[<-Nu];exact t2.congr λk a b=>j.out k (.inr<|by lia)
 |lo,hi,i+1,_,.cons (n:=n) (p:=p) (r:=r) h1 h2 t,h,g,j=>by
  obtain⟨_,_,_,_,_,a1,a2,a3,a4,a5,a6⟩:=t.at2 (i:=i) (by simpa using h) (by simpa using g);cases a1;rw[jH];refine .cons h1 (iu h2 λk a b=>j.out k<|.inl<|by lia)<|t.fuse (by simpa using h) (by simpa using g) j
theorem nI:∀{l:IW (Nat×Nat×Nat)} {i:Nat},l[i]? =B' (sa,na,pa)->l[i+1]? =B' (sa+na,nb,pb)->(l.set i (sa,na+nb,pa)).eraseIdx (i+1)=fuse l i
 |[],_,h,_=>by simp at h
 |[_],0,_,g=>by simp at g
 |x::y::r,0,h,g=>by
  simp only [MF,NR]at h;simp only [PH,MF,NR]at g;subst h g;rfl
 |x::r,i+1,h,g=>by
  rw[jH,List.set_cons_succ,Sd,nI (by simpa using h)<|by simpa using g]
def yq{p:JF (Nat×Nat×Nat)}{i sa na pa nb pb:Nat}(h:p[i]? =B' (sa,na,pa)) (g:p[i+1]? =B' (sa+na,nb,pb)):((p.setIfInBounds i (sa,na+nb,pa)).eraseIdxIfInBounds<|i+1).toList=fuse p.toList i:=by
 have h':p.toList[i]? =B' (sa,na,pa):=by rw[J0];exact h
 have g':p.toList[i+1]? =B' (sa+na,nb,pb):=by rw[J0];exact g
 rw[Array.toList_eraseIdxIfInBounds,Array.toList_setIfInBounds];exact nI h' g'
theorem qG:∀{l:IW (Nat×Nat×Nat)} {i:Nat},i+1 < l.length->(fuse l i).length+1=l.length
 |[],_,h=>by simp at h
 |[_],_,h=>by simp at h
 |x::y::r,0,_=>rfl
 |x::y::r,i+1,h=>by
  rw[jH,J4,qG<|by simpa using h];rfl
structure SR (a₀:JF Ka)(hi:Nat)(st:Li):Prop where
 perm:(JZ st).Perm a₀
 kind:kindOf st=Pg
 failed:MD st=Ji
 runs:Runs (JZ st) 0 (Kn st).toList hi
 top:hi<=a₀.size
section
variable {st:Li}
def SR.ints(h:SR a₀ hi st)(h0:IntKeys a₀):IntKeys (JZ st):=λp hp=>h0 p<|(NF.mp h.perm).mem_iff.mp hp
def SR.size(h:SR a₀ hi st):(JZ st).size=a₀.size:=h.perm.size_eq
def lQ(h:SR a₀ hi st)(h0:IntKeys a₀)(hl:i+1 < (Kn st).size)(q:∀LD,SR a₀ hi LD->(Kn LD).size+1=(Kn st).size->(∀p,hi<=p->(JZ LD)[p]? =(JZ st)[p]?)->Q Je LD):wpS (JS prog w) A E s (Zy i) Q st:=by
 obtain⟨q1,e1⟩:∃x,(Kn st)[i]? =B' x:=⟨_,NM (Kn st) i (by lia)⟩;obtain⟨q2,e2⟩:∃x,(Kn st)[i+1]? =B' x:=⟨_,NM (Kn st) (i+1) hl⟩;obtain⟨sa,na,pa,nb,pb,rfl,rfl,n1,n2,_,hz,s1,s2⟩:=h.runs.at2 (i:=i) (by rw[J0];exact e1) (by rw[J0];exact e2);have ht:=h.top;refine wb h.kind (h.ints h0) h.failed e1 e2 n1 n2 (by rw[h.size];lia) s1 s2 λLD k1 k2 k3 j=>?_;have ef:=yq e1 e2;rw[<-k3]at ef;refine q LD ⟨j.perm.trans h.perm,k1,k2,?_,h.top⟩ ?_ λp hp=>j.out p (.inr (by lia))
 ·rw[ef];exact h.runs.fuse (by rw[J0];exact e1) (by rw[J0];exact e2) j
 ·have:=qG (l:=(Kn st).toList) (i:=i) (by rw[JB];exact hl);rw[<-ef,JB,JB]at this;exact this
def Br{α β:Type}(g:α->β)(f:α->α)(hf:∀x,g (f x)=g x)(l:IW α)(i:Nat):(l.modify i f).map g=l.map g:=by
 refine OB λj=>?_;rw[JW,JW,List.getElem?_modify];cases l[j]? with
 |none=>rfl
 |some a=>
  show B' (g (if i=j then f a else a))=B' (g a)
  split
  ·rw[hf]
  ·rfl
def SR.pow(h:SR a₀ hi st)(i k:Nat):SR a₀ hi (Sv st<|(Kn st).modify i λq=>(q.1,q.2.1,k)):=
 ⟨h.perm,h.kind,h.failed,h.runs.pow2 (by
  show Xo _ ((Kn st).modify i _).toList=_
  rw[Array.toList_modify];exact Br (λq:Nat×Nat×Nat=>(q.1,q.2.1)) (λq=>(q.1,q.2.1,k)) (λ_=>rfl) _ _),h.top⟩
def SR.push(h:SR a₀ hi st)(h1:1<=n)(h2:hi+n<=a₀.size)(h3:Srt (JZ st) hi n):SR a₀ (hi+n) (Sv st<|(Kn st).push (hi,n,0)):=
 ⟨h.perm,h.kind,h.failed,by
  show Runs (JZ st) 0 ((Kn st).push (hi,n,0)).toList _
  rw[Kx];exact h.runs.snoc h1 h3,h2⟩
theorem lR:∀fuel n r,1<=n->1<=minRun' fuel n r
 |0,n,r,h=>Lb h<|Nat.le_add_right _ _
 |fuel+1,n,r,h=>by
  rw[minRun'_succ]
  split
  ·lia
  ·exact lR fuel (n / 2) _ (by lia)
def yr{prog:Js}{w:JV}{A:J8}{E:IX->Ja->Prop}{s:Ja}{a₀:JF Ka}{Q:SU->Li->Prop}(h0:IntKeys a₀)(h:SR a₀ 0 st)(h2:1<=a₀.size)
  (q:∀LD,(JZ LD).Perm a₀->MD LD=Ji->Lz (JZ LD) a₀.size->Q () LD):wpS (JS prog w) A E s sortRuns' Q st:=by
 rw[sortRuns'_eq];refine Jt<|Pm ?_;dsimp only;rw[h.size];have hmr:=lR a₀.size a₀.size 0 h2;generalize minRun' a₀.size a₀.size 0=mr at hmr;refine Jt (Mf (Lw (I:=λx c LD=>∃lo,c=(Ji,lo)/\SR a₀ lo LD/\(x<=lo\/lo=a₀.size))
  (Q:=λc LD=>c=(Ji,a₀.size)/\SR a₀ a₀.size LD) ?step ?fin ⟨0,rfl,h,.inl<|Jh _⟩) ?post)
 case fin=>
  rintro c LD ⟨lo,rfl,r,hx⟩;have:=r.top;obtain rfl:lo=a₀.size:=by lia
  exact⟨rfl,r⟩
 case step=>
  rintro x c LD _ hx ⟨lo,rfl,r,hxl⟩;have ht:=r.top;dsimp only;refine aD (λg=>?_) λg=>?_
  ·obtain rfl:lo=a₀.size:=by lia
   exact JE ⟨rfl,r⟩
  have sl:SL a₀ lo LD LD:=⟨r.perm,r.kind,r.failed,rfl,λ_ _=>rfl⟩;refine Jt<|Bo sl h0 (by lia) (by lia) λm Mz h2 VD UZ WR=>?_;dsimp only;have low:∀RP,SL a₀ lo LD RP->SR a₀ lo RP:=λRP z=>⟨z.perm,z.kind,z.failed,by
   rw[z.pend];exact r.runs.congr λk _ hk=>z.low k hk,r.top⟩
  refine aD (λgm=>?_) λgm=>?_
  ·refine Jt<|Q5<|MV ⟨rfl,?_⟩;refine Jt<|Bp h2 h0 (by lia) (by lia) (by lia) WR λRP h3 s3=>?_;simp only [M8,JA,La];have r3:=low RP h3;have n1:1<=min (a₀.size - lo) mr:=by lia
   have n2:lo+min (a₀.size - lo) mr<=a₀.size:=by lia
   have hS:Srt (JZ RP) lo (min (a₀.size - lo) mr):=s3;have hR:SR a₀ lo RP:=r3;refine Jt<|Pm ?_;cases eb:(Kn RP).back? with
   |none=>exact Jt<|Ol<|JE ⟨_,rfl,hR.push n1 n2 hS,by lia⟩
   |some q0=>
    obtain⟨b1,b2,b3⟩:=q0;dsimp only;refine Jt<|Mf (Lw (I:=λ_ c Sh=>c=(Ji,())/\SR a₀ lo Sh/\Srt (JZ Sh) lo (min (a₀.size - lo) mr)) (Q:=λc Sh=>c=(Ji,())/\SR a₀ lo Sh/\Srt (JZ Sh) lo (min (a₀.size - lo) mr)) ?_ (λ_ _ z=>z) ⟨rfl,hR,hS⟩) ?_
    ·rintro y c Sh _ _ ⟨rfl,r4,s4⟩;refine Jt<|Pm ?_;cases eo:(if(Kn Sh).size > 1 then(Kn Sh)[(Kn Sh).size - 2]? else Ji)with
     |none=>exact JE ⟨rfl,r4,s4⟩
     |some q1=>
      obtain⟨c1,c2,c3⟩:=q1;have hgt:(Kn Sh).size > 1:=by
       obtain z|z:=Lx 1 (Kn Sh).size
       ·exact z
       ·rw[JK<|by lia]at eo;cases eo
      dsimp only;refine aD (λ_=>JE ⟨rfl,r4,s4⟩) λ_=>?_;refine Jt<|lQ r4 h0 (by lia) λst5 r5 _ o5=>?_;simp only [M8,JA,La];exact JE ⟨rfl,r5,iu s4 λk a _=>o5 k a⟩
    ·rintro c Sh ⟨rfl,r4,s4⟩;dsimp only;exact Jt<|Ol<|Jt<|Ol<|JE ⟨_,rfl,(r4.pow _ _).push n1 n2 s4,by lia⟩
  ·have r3:=low Mz h2;have n1:=VD;have n2:lo+m<=a₀.size:=by lia
   have s3:=WR;have hS:Srt (JZ Mz) lo m:=s3;have hR:SR a₀ lo Mz:=r3;refine Jt<|Pm ?_;cases eb:(Kn Mz).back? with
   |none=>exact Jt<|Ol<|JE ⟨_,rfl,hR.push n1 n2 hS,by lia⟩
   |some q0=>
    obtain⟨b1,b2,b3⟩:=q0;dsimp only;refine Jt<|Mf (Lw (I:=λ_ c Sh=>c=(Ji,())/\SR a₀ lo Sh/\Srt (JZ Sh) lo m) (Q:=λc Sh=>c=(Ji,())/\SR a₀ lo Sh/\Srt (JZ Sh) lo m) ?_ (λ_ _ z=>z) ⟨rfl,hR,hS⟩) ?_
    ·rintro y c Sh _ _ ⟨rfl,r4,s4⟩;refine Jt<|Pm ?_;cases eo:(if(Kn Sh).size > 1 then(Kn Sh)[(Kn Sh).size - 2]? else Ji)with
     |none=>exact JE ⟨rfl,r4,s4⟩
     |some q1=>
      obtain⟨c1,c2,c3⟩:=q1;have hgt:(Kn Sh).size > 1:=by
       obtain z|z:=Lx 1 (Kn Sh).size
       ·exact z
       ·rw[JK<|by lia]at eo;cases eo
      dsimp only;refine aD (λ_=>JE ⟨rfl,r4,s4⟩) λ_=>?_;refine Jt<|lQ r4 h0 (by lia) λst5 r5 _ o5=>?_;simp only [M8,JA,La];exact JE ⟨rfl,r5,iu s4 λk a _=>o5 k a⟩
    ·rintro c Sh ⟨rfl,r4,s4⟩;dsimp only;exact Jt<|Ol<|Jt<|Ol<|JE ⟨_,rfl,(r4.pow _ _).push n1 n2 s4,by lia⟩
 case post=>
  rintro c LD ⟨rfl,r⟩;dsimp only;have hle:=r.runs.le;rw[JB]at hle;refine Jt<|Mf (Lw (I:=λx c Mz=>c=(Ji,())/\SR a₀ a₀.size Mz/\((Kn Mz).size+x<=a₀.size\/(Kn Mz).size<=1)) (Q:=λc Mz=>c=(Ji,())/\SR a₀ a₀.size Mz/\(Kn Mz).size<=1) ?_ ?_ ⟨rfl,r,.inl<|by lia⟩) ?_
  ·rintro x c Mz _ hx ⟨rfl,r2,hx2⟩;refine Jt<|Pm ?_;refine aD (λg=>JE ⟨rfl,r2,g⟩) λg=>?_;refine Jt<|lQ r2 h0 ?_ λRP r3 e3 _=>?_
   ·repeat' split
    all_goals lia
   ·simp only [M8,JA,La];exact JE ⟨rfl,r3,by lia⟩
  ·rintro c Mz ⟨rfl,r2,hx2⟩;exact⟨rfl,r2,by lia⟩
  ·rintro c Mz ⟨rfl,r2,hx2⟩;dsimp only;refine JE<|q Mz r2.perm r2.failed ?_;have hr:=r2.runs;rw[<-JB]at hx2;generalize (Kn Mz).toList=l at hr hx2;generalize a₀.size=N at hr h2 ⊢;cases hr with
   |nil=>lia
   |cons a b t=>
    cases t with
    |nil=>
     intro u v huv hv;have:=b u v huv (by lia)
     rwa [Le,Le]at this
    |cons a2 b2 t2=>
     simp only [J4]at hx2;lia
end
def sort_tree{R:Fin->Ja->Prop}(hb:s.heap.get? b=B' (KP "list" us.toArray ep))(hks:Nd us ks)(hz:us.length<=10000)
  (q:∀zs ks',Nd zs.toList ks'->ks'.Perm ks->ks'.Pairwise (·<=·)->R (.done<|.ret .none) {s with heap:=UK s.heap b us zs}):wpAny (JS prog w) A (Builtin.«list.sort» ⟨[.ref b],[]⟩) R E s:=by
 by_cases Y5:us.length < 64
 ·exact Xj hb hks Y5 q
 rw[WB];have NJ:b < s.heap.objs.size:=Jv hb;have line:∀{n:Nat},n<=10000->n<=sizeLine:=λz=>by rw[Lf];lia
 refine IY (Sx hb rfl<|IY<|Nt hb rfl ?_<|by rw[JH];exact line hz);obtain⟨e1,hb1⟩:∃x,(s.heap.update b (K' λ_=>#[])).get? b=B' (KP "list" #[] x):=⟨_,Pn hb _⟩;refine IY (PF hb1 rfl (IY (S7 (IY (Ou (KN ?_))) (by simpa using line hz))));have hb2:(((s.heap.update b (K' λ_=>#[])).push (KP "tuple" us.toArray 0)).push (KP "list" #[] 0)).get? b=B' (KP "list" #[] e1):=by
  rw[PY _ _ _ (by rw[Q7,Qe];exact JO<|LC NJ),PY _ _ _<|by rw[Qe];exact JO NJ];exact hb1
 show wpAny (JS prog w) A _ R E {s with heap:=((s.heap.update b<|K' λ_=>#[]).push<|KP "tuple" us.toArray 0).push<|KP "list" #[] 0}
 have hsz:us.toArray.size=us.length:=JH;have h2:¬us.toArray.size < 2:=by lia
 rw[JK h2,JK h2];obtain⟨v1,v2,vr,rfl⟩:∃v1 v2 vr,us=v1::v2::vr:=by
  match us,Y5 with
  |[],g=>exact absurd (show 0 < 64 by decide) g
  |[_],g=>exact absurd (show 1 < 64 by decide) g
  |v1::v2::vr,_=>exact⟨v1,v2,vr,rfl⟩
 rw[keyKind_ints hks];have base:SR (YU<|v1::v2::vr) 0 (Qg Pg ((v1::v2::vr).toArray.zip (v1::v2::vr).toArray) #[] 7 Ji):=⟨QF _,rfl,rfl,.nil _,JQ _⟩;have acs:=pairsOf_size<|v1::v2::vr;refine IY<|Jl<|IY<|Kf (yr (Q:=λ_ t=>(JZ t).Perm (YU<|v1::v2::vr)/\MD t=Ji/\Lz (JZ t) (YU<|v1::v2::vr).size) hks.intKeys base (by rw[acs,J4];lia) λt z1 z2 z3=>⟨z1,z2,z3⟩) ?_ λ_ _ z=>z;rintro⟨⟨⟩,t⟩ s2 ⟨rfl,z1,z2,z3⟩;obtain⟨ks',y1,y2,y3⟩:=sorted_out hks z1 z3;refine IY<|PF hb2 rfl<|IY<|Nt hb2 rfl ?_ (JQ _)<|Vr<|Lb (Vt<|(Re ..).trans<|z1.size_eq.trans acs)<|line hz;rw[z2];simp only [PM,JA,La];exact Jl<|q _ ks' y1 y2 y3
end TS
namespace L2
open PySem PySem.Spec PyProof.Rows
def si(hc:X.calm=Je):dY X (.builtin "sorted") (λxs H Q=>∃p kvs ks,xs=[.ref p]/\H p=B' (.dK kvs)/\kvs.map (·.1)=ks.map Kw/\ks.length<=9000/\
  ∀l Rg,H l=Ji->Sf Rg ks->Qo (·<=·) Rg->Q (.ref l) (upd H l<|.lst<|Xo V.int Rg)):=by
 intro Jf s σ H xs us Q I r h;obtain⟨p,kvs,ks,rfl,hp,hk,Y5,q⟩:=h;obtain⟨u,rfl,ru⟩:=fk r;cases ru;obtain⟨z,hd,vs,Rz,dd⟩:kvs.length<=sizeLine/\(p == MN)=Jg/\∃vs,KV kvs vs/\s.heap.DictOf (bn X.prog X.w) p vs:=I.hok p _ hp;obtain⟨ep,hat⟩:=dd.dictAt;have L_:kvs.length=vs.length:=Paired.length Rz;have hkl:ks.length=kvs.length:=by
  have e:=LU Wl hk;rw[Jc,Jc]at e;exact e.symm
 refine O4 Ts Sw Sy (Vn _) ?_;unfold Builtin.«sorted»;refine IY (m:=Uy "sorted" 1 1 _)<|Jl ?_;refine IY<|QI (A:=X.A.in1) (VS (knd:=bn X.prog X.w) (kvs:=vs) (ep:=ep) hd) (I.ok.hd hc) hat (by lia) λh' tk NG hkp YI=>?_;have hl:NG.toList.length=vs.length:=by rw[JB];exact YI.1
 have WT:Nd NG.toList ks:=by
  refine iE _ _ (by rw[hl];lia) λi v hv=>?_;obtain⟨k,x,hx,hkv⟩:=YI.2 i v (by rw[<-J0];exact hv);obtain⟨q1,ZU,hq2,_⟩:=lp Rz hx;have e1:(kvs.map (·.1))[i]? =B' k:=by rw[JW,ZU];exact LU B' hq2
  rw[hk,JW]at e1;cases e2:ks[i]? with
  |none=>rw[e2]at e1;cases e1
  |some n=>
   rw[e2]at e1;have e3:(Kw n:bz)=k:=JN e1;subst e3;obtain⟨t,et⟩:=PU (k:=n) (v:=v) hkv;exact⟨n,t,rfl,et⟩
 refine IY (Ou ?_<|by rw[hl];lia);have I1:Inv X Jf σ H {s with heap:=h',toks:=tk}:=I.kept hkp;have hoL:(h'.push<|KP "list" NG.toList.toArray 0).get? h'.objs.size=B' (KP "list" NG.toList.toArray 0):=JX _ rfl;refine IY<|KN<|Nx Q6 ⟨_,hoL,rfl⟩ QB (TS.sort_tree hoL WT (by rw[hl];lia) λout Rg a1 a2 a3=>⟨_,rfl,?_⟩)<|Tu _;refine Jl ⟨_,rfl,?_⟩;have hn:=I1.hok.fresh (a:=h'.objs.size)<|Jh _;obtain⟨e,he⟩:=Uj (out:=out) hoL;have I2:Inv X Jf σ (upd H h'.objs.size<|.lst<|Rg.map V.int) {s with heap:=UK (h'.push<|KP "list" NG.toList.toArray 0) h'.objs.size NG.toList out,toks:=tk}:=by
  refine I1.laid (t':=tk) (λb o eb=>?_) (Jh _) ?_
  ·have hb:b < h'.objs.size:=Jv eb;rw[Tq (JO hb)<|by rw[Q7];exact LC hb];exact Jb _ eb
  ·refine⟨?_,out.toList,e,?_,?_⟩
   ·rw[Jc,a2.length_eq];exact K_ (wX<|by lia)
   ·exact gb a1
   ·simpa using he
 exact⟨.ref h'.objs.size,_,I2,rfl,q _ Rg hn a2 a3⟩
def ui:IW IX->JJ
 |.ref _::r=>ui r
 |l=>l == [.type "ValueError",.type "Exception",.type "BaseException",.type "object"]
theorem nJ(self:IX):∀{l:IW IX},ui l=Je->refuseLoop self "__setattr__" l=pure ()
 |[],e=>by cases e
 |v::r,e=>by
  cases v with
  |ref c=>exact(refuseLoop_ref self "__setattr__" c r).trans<|nJ self (l:=r) e
  |_=>rw[show _::r=_ from Oh.mp e];exact PySem.F.store_ValueError.passes self
abbrev o_(C t:I_)(dx:Jd I_):Obj:={cls:=.ref C,dict:=dx,data:=.fields #[.ref t,.none,.none,.none,.bool Jg,.none]}
def gN(ea C:I_)(dx:Jd I_):HO:=.ext λh=>∃t:I_,h.get? ea=B' (o_ C t dx)
structure pe (K:IZ)(C:I_)(f:Str):Prop where
 cls:∃cd,ML K C=B' cd/\(cd.hasDict&&ui cd.mro)=Je
 sa:KG K (.ref C) "__setattr__"=B' (B'<|.builtin "object.__setattr__")
 nf:KG K (.ref C) f=B' Ji
 ob:J5 K C (.type "object")=B' Je
section
variable {os:Ql}{K:IZ}
def qH{tk:Tok}{Q:Fin->Ja->Prop}(X:K.In h)(T:pe K C f)(hx:h.get? x=B' {cls:=.ref C,dict:=Ji,data:=.fields vs})
  (hq:∀h' Y_,(∀b o,b≠x->h.get? b=B' o->h'.get? b=B' o)->h'.get? x=B' {cls:=.ref C,dict:=B' h.objs.size,data:=.fields vs}->h'.Ns1 h.objs.size (λy=>if y=f then B' v else Ji)->Q (.done<|.ret .none) ⟨h',g,d,Y_,os⟩):
  wpAny (JS prog w) A (Builtin.«object.__setattr__» ⟨[.ref x,.str f tk,v],[]⟩) Q E ⟨h,g,d,t,os⟩:=by
 obtain⟨cd,hc,Yo⟩:=T.cls;rw[J_]at Yo;have L1:=Mb (M:=JS prog w) X T.nf;have L2:Pc (JS prog w) h (mroOf<|.ref C) cd.mro:=(O7 X hc).andThen .now;have L3:=O7 (M:=JS prog w) X hc;rw[PySem.W.osa_eq,refuse_eq];have xs:x≠h.objs.size:=JO<|Jv hx;have g1:=Jb {cls:=.type "dict",data:=.dict #[]} hx;have gd:((h.push {cls:=.type "dict",data:=.dict #[]}).update x λo=>{cls:=o.cls,dict:=B' h.objs.size,data:=o.data,slots:=o.slots}).get? h.objs.size=B' {cls:=.type "dict",data:=.dict #[]}:=
  (O8 _ _ _ _<|Ma xs).trans (Vh rfl rfl)
 have nd:((h.push {cls:=.type "dict",data:=.dict #[]}).update x λo=>{cls:=o.cls,dict:=B' h.objs.size,data:=o.data,slots:=o.slots}).Ns h.objs.size (λ_=>Ji):=⟨_,#[],_,gd,rfl,λe he=>absurd he (by simp),λ_=>rfl⟩;have n1:=Heap.Ns1.of_empty nd
 repeat (first|(rw[nJ _ Yo.2])|with_reducible refine Ks hx ?_|with_reducible refine L2.at ?_|with_reducible refine L1.at ?_|with_reducible refine L3.at ?_|(with_reducible show wpAny _ _ (nsSet _ _ _) _ _ _;refine wpAny_nsSet1 n1 λh' ZW hs=>?_)|wp_step)
 obtain⟨oD,esD,epD,hoD,hdD,hcD⟩:=ZW.count<|Within.cons f v Within.nil;refine Ks hoD ?_;rw[hdD,show(aa2 esD epD).pastItsLine=Ji from pastItsLine_dict<|Lb hcD<|by rw[Lf,J4,Lk];lia];refine Jl<|Jl<|hq _ _ (λb o hb e=>?_) ?_ ZW
 ·exact(hs.2 b<|JO<|Jv e).trans<|(O8 _ _ _ _ hb).trans<|Jb _ e
 ·exact(hs.2 x xs).trans<|Ld _ g1 rfl
def wc{Q:SU->Ja->Prop}(X:K.In h)(T:pe K C f)(hx:h.get? x=B' {cls:=.ref C,dict:=Ji,data:=.fields vs})
  (hq:∀h' Y_,(∀b o,b≠x->h.get? b=B' o->h'.get? b=B' o)->h'.get? x=B' {cls:=.ref C,dict:=B' h.objs.size,data:=.fields vs}->h'.Ns1 h.objs.size (λy=>if y=f then B' v else Ji)->Q () ⟨h',g,d,Y_,os⟩):
  wpAny (JS prog w) A (setAttr (.ref x) f v) Q E ⟨h,g,d,t,os⟩:=by
 have SF:=PySem.F.store_ValueError;have f3:=SF.slot.bind<|.ref x;have L1:=Mb (M:=JS prog w) X T.sa;unfold setAttr callSpecial? specialOf
 repeat (first|with_reducible refine Ks hx ?_|with_reducible refine L1.at ?_|rw[f3]|wp_step)
 have L2:Pc (JS prog w) h (Uv (.ref x)<|.type "object") true:=(fg hx rfl).andThen<|Nj X T.ob;refine Na SF.slot.plain SF.entry ?_;refine @PySem.W.check_slot (JS prog w) _ _ ⟨h,g,d,t+1,os⟩ "object.__setattr__" "object" "__setattr__" (.ref x) [.str f t,v] [] _ SF.kind SF.split L2 (SF.args (.ref x) (.str f t) v) ?_;refine qH (t:=t+1) X T hx λh' Y_ k1 k2 k3=>?_;exact Jl<|Jl<|hq h' Y_ k1 k2 k3
def qI{M:R4}(X:K.In h)(T6:∃cd,ML K C=B' cd)(hv:J5 K C (.type "ValueError")=B' Je)(hx:h.get? x=B' o)(hc:o.cls=.ref C)(hq:Q () ⟨h,g,d,t,os⟩):
  wpAny M A (OW "ValueError.__init__" ⟨[.ref x,v],[]⟩) Q E ⟨h,g,d,t,os⟩:=by
 have FB:=MP;have ns:=FB.noStar;have L1:Pc M h (Uv (.ref x)<|.type "ValueError") true:=(fg hx hc).andThen<|Nj X hv;simp only [OW,FB.initKind,FB.initSplit,FB.initRow];refine IY<|L1.here ?_;simp only [M8,JA,La];obtain⟨cd,T6⟩:=T6;have L2:=O7 (M:=M) X T6
 wp_walk
 rw[hc]
 repeat (first|with_reducible refine L2.at ?_|wp_step)
 exact hq
def we{Q:IX->Ja->Prop}(X:K.In h)(T6:∃cd,ML K C=B' cd)(hv:J5 K C (.type "ValueError")=B' Je)(hx:h.get? x=B' (o_ C t0 dx))
  (hq:∀h' Y_ t1,(∀b o,b≠x->h.get? b=B' o->h'.get? b=B' o)->h'.get? x=B' (o_ C t1 dx)->Q .none ⟨h',g,d,Y_,os⟩):
  wpAny (JS prog w) A (call (.builtin "ValueError.__init__") [.ref x,v]) Q E ⟨h,g,d,t,os⟩:=by
 have FB:=MP;refine Qa (Na FB.init.plain FB.initEntry<|qI X T6 hv hx rfl ?_)
 repeat (first|with_reducible refine Ks hx ?_|wp_step)
 have g1:=Jb {cls:=.type "tuple",data:=.seq #[v]} hx;exact hq _ _ h.objs.size (λb o hb e=>(O8 _ _ _ _ hb).trans<|Jb _ e)<|Ld _ g1 rfl
end
structure yt (K:IZ)(D:I_):Prop where
 sp:Rt K (.ref D) "__getattribute__"=B' (B'<|.builtin "type.__getattribute__")
 rd:Wu K D (.type "type")=Je
 fc:Wv K (.ref D) (.type "type") "__init__"=B' (.val<|.builtin "ValueError.__init__")
def EB(K:IZ)(D:I_)(ta:TE)(t:TA):TE:=λσ H Q=>ta σ H λx H1=>x=.ref D/\t σ H1 λvs H2=>∃ea C dx y,vs=[.ref ea,y]/\H2 ea=B' (gN ea C dx)/\(∃cd,ML K C=B' cd)/\J5 K C (.type "ValueError")=B' Je/\Q .non H2
def yu(e:H a=B' o):upd H a o=H:=by
 funext b
 by_cases hb:b=a
 ·rw[hb,ad,e]
 ·rw[ao hb]
def pf(e:h.get? ea=B' (o_ C t dx)):ObjOk P w H h ea (gN ea C dx):=
 ⟨⟨t,e⟩,⟨_,e⟩,λ_ _ ⟨t',e'⟩ k=>⟨t',k _ e'⟩⟩
def yw{pl:Sem JJ}(U:yt X.K D)(ho:PE X o ta)(ha:PA X (e::es) t)
  (hs:J3 (e::es) X.env=(Jg,MC e X.env)::J3 es X.env:=by rfl) (T4:(Nh pos<|J3 es X.env).any (·.1)=false:=by rfl)
  (ht:MC (.Call (.Attribute o "__init__" Uo) (e::es) [] pos) X.env=(do
   let ov <-MC o X.env
   standAt Uo.atName
   let (f,first) <-Va [ov] (getMethod ov "__init__" pl)
   callWith pos f first (Nh pos<|J3 (e::es) X.env) (Zm pos<|Wf [] X.env)):=by rfl):
  PE X (.Call (.Attribute o "__init__" Uo) (e::es) [] pos) (EB X.K D ta t):=by
 intro Jf s σ H Q I h;refine PySem.W.methodCall_KW (pl:=pl) (bV (ho Jf s σ H _ I h) λu s1 ⟨x,H1,I1,rx,ex,q⟩=>?_) ht;subst ex;obtain rfl:u=Kb D:=rx;refine PySem.W.method_cls I1.kIn U.sp<|PySem.W.cls_value I1.kIn U.rd U.fc rfl ?_;have I2:=I1.tok<|s1.toks+1;have hA:=ha pos Jf _ σ H1 _ I2 q;rw[hs]at hA ⊢;refine P0 (by show(Jg || (Nh pos<|J3 es X.env).any (·.1))=Jg;rw[T4]<;>rfl)<|OP ?_;refine bV hA λus s2 ⟨vs,H2,I3,r2,ea,C,dx,y,ev,WV,T6,hv,q2⟩=>?_;subst ev;obtain⟨u1,u2,rfl,r3,r4⟩:=r2.two;obtain rfl:u1=Kb ea:=r3;obtain⟨⟨t0,g0⟩,_⟩:=(show ObjOk X.prog X.w H2 s2.heap ea (gN ea C dx)from I3.hok ea _ WV);obtain⟨h2,g2,d2,Yj,os2⟩:=s2;refine we I3.kIn T6 hv g0 λh' Y_ t1 k1 k2=>⟨.non,H2,?_,rfl,q2⟩;have J:=I3.write (x:=ea) (e:=ea) (o:=gN ea C dx) (h':=h') (t':=Y_) (by rw[WV];exact MA) (.inl rfl) (λb u hb z=>k1 b u hb z) ⟨_,k2⟩<|pf k2;rw[yu WV]at J;exact J
def Gw(te:TE):TE:=λσ H Q=>te σ H λx H1=>∃i:Int,x=.int i/\i.natAbs.log2 < 1920/\∀y,Q (.str y) H1
def Bs(he:PE X e te)(ha:a.length<=1000:=by decide)(hb:b.length<=1000:=by decide):PE X (.JoinedStr [.Constant (.str a) j p1,.FormattedValue e (-1) Ji p2,.Constant (.str b) k p3] pos) (Gw te):=by
 intro Jf s σ H Q I h;have e0:(Yt++a).length=a.length:=by rw[Ug];exact Le _
 have hz:=Lf;have I1:=I.tok<|s.toks+1;refine JoinedStr_many<|Tt<|Q3 ⟨by lia,Tt<|FormattedValue_plain<|bV (he Jf _ σ H _ I1 h) λu s1 ⟨x,H1,I2,rx,i,ex,hi,q⟩=>?_⟩;subst ex;obtain⟨tk,rfl⟩:=(show∃tk,u=Ob i tk from rx);refine formatField_int_small hi ?_;have hl:=int_text_length_le (k:=1920) (by decide) hi;have e1:(Yt++a++(toString i:Str)).length<=3000:=by
  rw[Ug,e0,PySem.ofString_length];lia
 refine⟨by lia,Tt<|Q3 ⟨?_,joinParts_nil ⟨.str _,H1,((I2.tok<|s1.toks+1+1).tok _).tok _,⟨_,rfl⟩,q _⟩ ?_⟩⟩<;>
  (rw[Ug];lia)
def Gx(K:IZ)(ta tv:TE)(f:Str):TS:=λD σ H=>tv σ H λy H1=>ta σ H1 λx H2=>∃ea C,x=.ref ea/\H2 ea=B' (gN ea C Ji)/\pe K C f/\
 ∀dx,H2 dx=Ji->D.nx σ (upd (upd H2 ea<|gN ea C<|B' dx) dx<|.xd [(f,y)])
def Bt(ha:PE X o ta)(hv:PE X value tv)(hs:QT value (B'<|.Attribute o f RA) pos.line X.env=pure Jg):PS X (.Assign [.Attribute o f RA] value pos) (Gx X.K ta tv f):=by
 intro Jf s σ H D I h;refine plainObj_wpAny_Assign_Attribute (bV (hv Jf s σ H _ I h) λu s1 ⟨y,H1,I1,ry,q⟩=>bV (ha Jf s1 σ H1 _ I1 q) λov s2 ⟨x,H2,I2,rx,ea,C,ex,WV,T,q2⟩=>?_) hs;subst ex;obtain rfl:ov=Kb ea:=rx;obtain⟨⟨t0,g0⟩,_⟩:=(show ObjOk X.prog X.w H2 s2.heap ea (gN ea C Ji)from I2.hok ea _ WV);obtain⟨h2,g2,d2,Yj,os2⟩:=s2;refine wc I2.kIn T g0 λh' Y_ k1 k2 k3=>⟨σ,_,?_,q2 h2.objs.size<|I2.hok.fresh<|Jh _⟩;have hdn:H2 h2.objs.size=none:=I2.hok.fresh<|Jh _;have mu:Fl (H2 ea):=by rw[WV];exact MA
 have ok1:HOk X.prog X.w (upd H2 ea<|gN ea C<|B' h2.objs.size) h':=I2.hok.write mu (.inl rfl) (λb u hb z=>k1 b u hb z) ⟨_,k2⟩<|pf k2;have un1:Un X.fs [] H2 (upd H2 ea<|gN ea C<|B' h2.objs.size) h2 h':=Un.write mu (.inl rfl) (λb u hb z=>k1 b u hb z) ⟨_,k2⟩;have ned:h2.objs.size≠ea:=λz=>by rw[z,WV]at hdn;cases hdn
 have ZF:upd H2 ea (gN ea C<|B' h2.objs.size) h2.objs.size=none:=by rw[ao ned];exact hdn
 refine I2.un (t':=Y_) ⟨un1.keep,un1.slot,λb ob q n hx=>?_,un1.there,λb xs q=>?_,λb ob v q=>?_,λb ps q=>?_⟩ λb v q=>?_
 ·rw[ao<|JO<|Jv q];exact un1.free b ob q n hx
 ·have z:=un1.tups b xs q;rw[ao<|aj z ZF];exact z
 ·have z:=un1.frzs b ob v q;rw[ao<|aj z ZF];exact z
 ·obtain⟨more,z⟩:=un1.tbls b ps q;exact⟨more,by rw[ao<|aj z ZF];exact z⟩
 ·by_cases hb:b=h2.objs.size
  ·subst hb;rw[ad]at q;cases q;refine⟨_,k3,λy'=>?_⟩;by_cases hy:y'=f
   ·rw[JL hy,hy];show RelO (Wk f [(f,y)]) (B' u)
    rw[List.lookup_cons_self];exact ry
   ·rw[JK hy];have e1:(y' == f)=false:=LQ.mpr hy;show RelO (Wk y' [(f,y)]) Ji
    rw[Wk,e1];exact MA
  ·rw[ao hb]at q;exact(ok1 b v q).stay (λ_ _ _ z=>z) (λc z=>by rw[ao<|aj z ZF];exact z) λc xs z=>by rw[ao<|aj z ZF];exact z
def Az(H:Hp)(a:I_):Hp:=λb=>if b=a then Ji else H b
def qJ:Az H a a=none:=by unfold Az;rw[JL rfl]
def gC(h:b≠a):Az H a b=H b:=by unfold Az;rw[JK h]
section
variable {K:IZ}
def Gy(I:Inv (cq (iM P w) P w K mg base N qual scope f cd A outer s H E) Jf σ H2 s2)(WV:H2 ea=B' (gN ea C dx))(Wo:s.heap.get? ea=Ji)
  (hE:E (.ref C) dx (Az H2 ea)):(cq (iM P w) P w K mg base N qual scope f cd A outer s H E).xe (.ref ea) s2:=by
 have NJ:∀b o,s.heap.get? b=B' o->b∉d9 outer->b∉d9 (J' qual scope s.heap.objs.size f cd::outer):=λb o e hb hm=>by
  obtain⟨env,he,hf⟩:=Kh.mp hm;obtain rfl|he:=J2.mp he
  ·have:s.heap.objs.size=b:=JN hf;exact absurd (Jv e) (by rw[this];exact LO b)
  ·exact hb<|Kh.mpr ⟨env,he,hf⟩
 have YB:∀b,b∈d9 outer->b∈d9 (J' qual scope s.heap.objs.size f cd::outer):=λb hb=>by
  obtain⟨env,he,hf⟩:=Kh.mp hb;exact Kh.mpr ⟨env,Jy _ he,hf⟩
 have S5:s2.heap.FunFrames base (J' qual scope s.heap.objs.size f cd::outer):=I.stack;have TV:∀b∈d9 (J' qual scope s.heap.objs.size f cd::outer),H2 b=none:=I.stkFree;have ag9:∀b∈ea::d9 (J' qual scope s.heap.objs.size f cd::outer),Az H2 ea b=none:=λb hb=>by
  obtain rfl|hb:=J2.mp hb
  ·exact qJ
  ·unfold Az
   split
   ·rfl
   ·exact TV b hb
 have YF:∀env∈(J' qual scope s.heap.objs.size f cd::outer),∀b,env.frame=B' b->b∈ea::d9 (J' qual scope s.heap.objs.size f cd::outer):=λenv he b hb=>Jy _<|Kh.mpr ⟨env,he,hb⟩;have hff:=Sn S5 YF;have ne:∀b o,s.heap.get? b=B' o->b≠ea:=λb o hb z=>by rw[z,Wo]at hb;cases hb
 have out:∀b o,s.heap.get? b=B' o->b∉d9 outer->b∉ea::d9 (J' qual scope s.heap.objs.size f cd::outer):=λb o e hb hm=>by
  obtain z|z:=J2.mp hm
  ·exact ne b o e z
  ·exact NJ b o e hb z
 obtain⟨⟨t0,g0⟩,_⟩:=(show ObjOk P w H2 s2.heap ea (gN ea C dx)from I.hok ea _ WV);have ok2:HOk P w (Az H2 ea) s2.heap:=λb u q=>by
  have hb:b≠ea:=λz=>by rw[z,qJ]at q;cases q
  rw[gC hb]at q;exact(I.hok b u q).stay (λ_ _ _ z=>z) (λc z=>by rw[gC λy=>by rw[y,WV]at z;cases z];exact z) λc xs z=>by rw[gC λy=>by rw[y,WV]at z;cases z];exact z
 show wpAny (JS P w) _ (Ro (J' qual scope s.heap.objs.size f cd)<|.ref ea) _ _ s2
 refine Bk (B:=Qy s2.heap<|ea::d9 (J' qual scope s.heap.objs.size f cd::outer)) (outer:=outer) (L:=s.heap.objs.size) I.ok.frames hff rfl g0 (λb o q=>QY _ q) ?_ rfl rfl rfl
  λh' fly up=>⟨Az H2 ea,_,ea,_,_,_,rfl,⟨?_,I.bare,fly,ok2.hid ag9,λb o e n hb=>?_,λb o e hb=>?_,λb o e n hb=>?_,λb o e n=>?_,λb xs e=>?_,λb o u e=>?_,λb ps e=>?_⟩,hE⟩
 ·exact Te _ JG
 ·exact I.os
 ·exact Nk _ (I.base.keep b o e n hb<|by intro z;cases z)<|out b o e hb
 ·obtain⟨o1,e1⟩:=I.base.there b o e (by intro z;cases z);exact⟨o1,Nk _ e1<|out b o e hb⟩
 ·obtain⟨sl,e1⟩:=I.base.slot b o e n hb (by intro z;cases z);obtain⟨_,o1,e2,nf⟩:=S5.mem (b:=b)<|YB b hb;rw[e1]at e2;cases e2;obtain⟨sl',e3⟩:=up b _ e1 nf;exact⟨sl',e3⟩
 ·rw[gC<|ne b o e];exact I.base.free b o e n (by intro z;cases z)
 ·have z:=I.base.tups b xs e;rw[gC λy=>by rw[y,WV]at z;cases z];exact z
 ·have z:=I.base.frzs b o u e;rw[gC λy=>by rw[y,WV]at z;cases z];exact z
 ·obtain⟨more,z⟩:=I.base.tbls b ps e;exact⟨more,by rw[gC λy=>by rw[y,WV]at z;cases z];exact z⟩
end
def hZ(K:IZ)(C:I_)(above:IW IX)(nw:Mg)(fI:I_):JJ:=match K.lookup C with
 |some ⟨.type "type",_,.cls c,sl⟩=>(match c.mro,sl.toList with
  |.ref C1::up,[_,_,_,_,B' (.builtin n),_]=>C1 == C&&n == nw&&(!c.hasDel)&&PySem.W.tailIn K above up&&PySem.W.nsOkIn K c.ns&&Jq K c.ns "__init__" == B' (B'<|.ref fI)
  |_,_=>Jg)
 |_=>Jg
def sj{K:IZ}(X:K.In h)(G:h.Ns N m)(e:Jq K N x=B' (B' v)):m x=B' v:=by
 obtain⟨o,es,ep,ho,hd,_,hf⟩:=G;unfold Jq at e
 split at e
 case h_2=>cases e
 case h_1 _ _ _ _ _ lk=>
  have z:=(X _ _ lk).symm.trans ho;cases z;cases hd
  split at e
  case h_2=>split at e<;>cases e
  case h_1 en he=>
   cases e;refine(hf x).symm.trans ?_;unfold nsFind findBy;rw[<-UV,he];rfl
def Bu(h:J6)(C:I_)(Wa:IW IX)(newId:Mg)(fI:I_):Prop:=
 ∃(bm:IW IX) (N:I_) (nm q:Str) (bs:IW IX) (hdct:JJ) (sn:IW Str) (sub:IW IX) (ab:JJ) (col:Jd JJ) (dd:Jd I_) (k0 k1 k2 k3 k5:Jd IX) (mN:Str->Jd IX),
  h.get? C=B' (Rq nm q C N bs bm hdct sn sub ab col dd k0 k1 k2 k3 k5 newId)/\h.Ns N mN/\mN "__init__"=B' (.ref fI)/\YT h Wa bm
def jl{K:IZ}(X:K.In h)(q:hZ K C Wa newId fI=Je):Bu h C Wa newId fI:=by
 unfold hZ at q
 split at q
 case h_2=>cases q
 case h_1 dd cd sl ho=>
  split at q
  case h_2=>cases q
  case h_1 C' bm k0 k1 k2 k3 n k5 hm hs=>
   rw[J_,J_,J_,J_,J_]at q;obtain⟨⟨⟨⟨⟨q1,q2⟩,q3⟩,q4⟩,q5⟩,q6⟩:=q;have e1:C'=C:=Oh.mp q1;have e2:n=newId:=Oh.mp q2;have e6:=Oh.mp q6;subst e1 e2;obtain⟨nm,bs,mro,ns,qn,hd,sn,sub,ab,col,del⟩:=cd;have em:mro=.ref C'::bm:=hm;have ed:del=false:=by simpa using q3
   have es:sl=#[k0,k1,k2,k3,B'<|.builtin n,k5]:=Sg.mp hs;subst em ed es;have hN:h.Ns ns (h.nsMap ns):=.of_isNs<|UD X q5;exact⟨bm,ns,nm,qn,bs,hd,sn,sub,ab,col,dd,k0,k1,k2,k3,k5,_,X _ _ ho,hN,sj X hN e6,UB X q4⟩
def Inv.laidN{t':Nat}(I:Inv X Jf σ H s)(k:∀b u,s.heap.get? b=B' u->h'.get? b=B' u)(hn:s.heap.get? a=Ji)(new:ObjOk X.prog X.w (upd H a o) h' a o):
  Inv X Jf σ (upd H a o) {s with heap:=h',toks:=t'}:=by
 have ha:H a=none:=by
  cases q:H a with
  |none=>rfl
  |some u=>
   obtain⟨ob,e⟩:=ObjOk.some<|I.hok a u q;rw[hn]at e;cases e
 refine I.un ⟨λb u q _ _ _=>k b u q,λb u q _ _ _=>⟨u.slots,k b u q⟩,λb u q n _=>?_,λb u q _=>⟨u,k b u q⟩,λb xs q=>?_,λb u xs q=>?_,λb ps q=>?_⟩ λb u e=>?_
 ·rw[ao λz=>by rw[z,hn]at q;cases q];exact n
 ·rw[ao<|aj q ha];exact q
 ·rw[ao<|aj q ha];exact q
 ·exact⟨#[],by rw[ao<|aj q ha,q];simp⟩
 ·by_cases hb:b=a
  ·subst hb;rw[ad]at e;cases e;exact new
  ·rw[ao hb]at e;exact(I.hok b u e).stay (λc v _ q=>k c v q) (λc q=>by rw[ao<|aj q ha];exact q) λc xs q=>by rw[ao<|aj q ha];exact q
structure Ip (P:Js)(w:JV)(K:IZ)(mg:Str->Jd IX)(base:J6)(k:Nat)(x:Str)(C f:I_)(fd:JP)(ps:IW Str)(sp:Sp):Prop where
 ok:FnOk P w K mg base dh k f fd ps sp
 b:Binds K fd ps []
 ex:hZ K C [.type "ValueError",.type "Exception",.type "BaseException",.type "object"] "ValueError.__new__" f=Je
 fn:YR K (.ref f)=Je
 kp:Mn K (.ref C)=Je
 at_:mg x=B' (.ref C)
def Bv(C:I_)(sp:Sp)(E:XK)(t:TA):TS:=λ_ σ H=>t σ H λvs H1=>vs.length<=sizeLine/\∀ea,H1 ea=Ji->sp (.ref ea::vs) (upd H1 ea<|gN ea C Ji) (λv H2=>v=.non/\∃dx,H2 ea=B' (gN ea C dx)/\E (.ref C) dx (Az H2 ea)) E0
section
variable {K:IZ}
def wf{k:Nat}{e:KJ}{es:IW KJ}{t:TA}{np Qp pos:Pos}(G:Ip P w K mg base j x C fI fd ps sp)
  (hr:Room k (cq (iM P w) P w K mg base N qual scope f cd A outer s H E).A) (hjk:j+1<=k) (hg:Gl (cq (iM P w) P w K mg base N qual scope f cd A outer s H E) x) (ha:PA (cq (iM P w) P w K mg base N qual scope f cd A outer s H E) (e::es) t) (hd:(x == ("__debug__":Str))=false:=by decide)
  (he:J3 (e::es) (cq (iM P w) P w K mg base N qual scope f cd A outer s H E).env=(Jg,MC e (cq (iM P w) P w K mg base N qual scope f cd A outer s H E).env)::J3 es (cq (iM P w) P w K mg base N qual scope f cd A outer s H E).env:=by rfl)
  (T4:(Nh Qp<|J3 es (cq (iM P w) P w K mg base N qual scope f cd A outer s H E).env).any (·.1)=false:=by rfl):
  PS (cq (iM P w) P w K mg base N qual scope f cd A outer s H E) (.Raise (B'<|.Call (.Name x np) (e::es) [] Qp) Ji pos) (Bv C sp E t):=by
 intro Jf s1 σ H1 D I h;have FB:=MP;obtain⟨bm,N',nm,q',bs,hdct,sn,sub,ab,col,dd,k0,k1,k2,k3,k5,mN,h1,h2,h3,h4⟩:=jl I.mod.kin G.ex;have hfn:=Oh.mp (show(PySem.W.typeIn K (.ref fI) == B' (.type "function"))=Je from G.fn);obtain⟨oI,lkI,cI⟩:=Lm.mp hfn;rw[arm_exec_Raise];refine IY<|Pb<|vX (C:=C) (nm:=nm) (q:=q') (N:=N') (bs:=bs) (bm:=bm) (hdct:=hdct) (sn:=sn) (sub:=sub) (ab:=ab) (col:=col) (dd:=dd) (k0:=k0) (k1:=k1) (k2:=k2) (k3:=k3) (k5:=k5) (newId:="ValueError.__new__") (h4.hasType FB.hasBase) (I.ok.hd rfl)<|IY<|Kf (LG<|dj I hg G.at_ ?_ hd) (λv s2 z=>IY<|Pb<|Jl z) λ_ _ z=>z;refine Pq (h₀:=base) I.ok.mod.kin G.kp (Kf (ha Qp Jf s1 σ H1 _ I h) (λus s2 ⟨vs,H2,I2,r,hz,q⟩=>⟨I2.kIn,?_⟩) λ_ _ z=>z) he T4;obtain⟨ZZ,g2,d2,Yj,os2⟩:=s2;refine vW FB (h4.keeps I2.bk) (I2.bk _ _ h1) (h2.keeps I2.bk) h3 (I2.kIn _ _ lkI) cI (by rw[QE,<-r.length];exact hz) λh5 ea hx=>?_;obtain⟨t0,g0,_,_⟩:=hx.there;have ahd:H2 ea=none:=by
  cases z:H2 ea with
  |none=>rfl
  |some u=>
   obtain⟨ob,e'⟩:=ObjOk.some<|I2.hok ea u z;rw[hx.new]at e';cases e'
 have I3:=I2.laidN (a:=ea) (o:=gN ea C Ji) (h':=h5) (t':=Yj) hx.keeps hx.new<|pf g0;have hq:=q ea ahd;have r2:Vals (V.ref ea::vs) (Kb ea::us):=.cons rfl r;have hl:(Kb ea::us).length=ps.length:=by rw[<-r2.length];exact G.ok.len _ _ _ _ hq
 have hbs:=G.b ⟨h5,g2,d2,Yj,os2⟩ (Kb ea::us) I3.kIn (by rw[KL];exact hl);rw[KL]at hbs;have ZD:Room (j+1) (cq (iM P w) P w K mg base N qual scope f cd A outer s H E).A:=hr.mono hjk;refine Qa<|Oi (G.ok.run _ (J' qual scope s.heap.objs.size f cd::outer) ⟨h5,g2,d2,Yj,os2⟩ _ ⟨Kb ea::us,[]⟩ (Kb ea::us) (V.ref ea::vs) _ E0 (ZD.make C us []) (I3.env0.make C us []) hbs r2 hq) λres s' ZE=>?_;cases res with
 |error e'=>exact LJ ZE
 |ok fl=>
  cases fl with
  |ret u=>
   obtain⟨v,H',I4,rv,ev,dx,aeZ,hE⟩:=I3.after ZE;subst ev;obtain⟨⟨t1,g1⟩,_⟩:=(show ObjOk P w H' s'.heap ea (gN ea C dx)from I4.hok ea _ aeZ);refine⟨rv,ea,t1,dx,rfl,I4.bk _ _ h1,g1,Gy I4 aeZ ?_ hE⟩;cases z:s.heap.get? ea with
   |none=>rfl
   |some ob=>
    obtain⟨o',e'⟩:=I2.base.there ea ob z (by intro y;cases y);have e2:ZZ.get? ea=B' o':=e';rw[hx.new]at e2;cases e2
  |next=>exact LJ ZE
  |brk=>exact LJ ZE
  |cont=>exact LJ ZE
end
structure wg (P:Js)(w:JV)(K:IZ)(mg:Str->Jd IX)(base:J6)(k:Nat)(x:Str)(f:I_)(fd:JP)(ps:IW Str)(sp:Sp):Prop where
 ok:FnOk P w K mg base (iM P w) k f fd ps sp
 b:Binds K fd ps []
 kp:Mn K (.ref f)=Je
 at_:mg x=B' (.ref f)
section
variable {K:IZ}
def ph{p pos:Pos}{e:KJ}{es:IW KJ}{t:TA}(G:wg P w K mg base j x f' fd ps sp)(hr:Room k (cq (iM P w) P w K mg base N qual scope f cd A outer s H E).A)(hjk:j<=k)
  (hg:Gl (cq (iM P w) P w K mg base N qual scope f cd A outer s H E) x) (ha:PA (cq (iM P w) P w K mg base N qual scope f cd A outer s H E) (e::es) t) (YH:(x == ("__debug__":Str))=false:=by decide)
  (he:J3 (e::es) (cq (iM P w) P w K mg base N qual scope f cd A outer s H E).env=(Jg,MC e (cq (iM P w) P w K mg base N qual scope f cd A outer s H E).env)::J3 es (cq (iM P w) P w K mg base N qual scope f cd A outer s H E).env:=by rfl)
  (T4:(Nh pos<|J3 es (cq (iM P w) P w K mg base N qual scope f cd A outer s H E).env).any (·.1)=false:=by rfl):
  PE (cq (iM P w) P w K mg base N qual scope f cd A outer s H E) (.Call (.Name x p) (e::es) [] pos) (pQ sp [] E t):=
 oz G.ok (hr.mono hjk) hg G.at_ G.kp G.b .nil Gu ha YH he T4
end
def dR(ea C d:I_):HO:=.ext λh=>∃(o:Obj) (vs:JF IX),h.get? ea=B' o/\o.cls=.ref C/\o.dict=B' d/\o.data=.fields vs
abbrev Gz:=IX->Jd I_->St->Hp->Prop
def IG(X:Cx)(Jf:IW (I_×Obj))(EX:Gz)(e:IX)(s':Ja):Prop:=
 ∃(σ1:St) (H1:Hp) (s1:Ja) (H':Hp) (B:J6) (ea:I_) (dx:Jd I_) (cls a0:IX),e=.ref ea/\Inv X Jf σ1 H1 s1/\FliesD X.prog X.w X.stack H1 s1 H' B ea dx cls a0 s'/\EX cls dx σ1 H'
abbrev Bw:=Gz->TE
abbrev sk:=Gz->TS
def GA(X:Cx)(e:KJ)(t:Bw):Prop:=
 ∀(Jf:IW (I_×Obj)) (s:Ja) (σ:St) (H:Hp) (Q:VK) (EX:Gz),Inv X Jf σ H s->t EX σ H Q->wpAny (JS X.prog X.w) X.A (MC e X.env) (EP X Jf σ Q) (IG X Jf EX) s
def yx(X:Cx)(st:IW Lh)(t:sk):Prop:=
 ∀(Jf:IW (I_×Obj)) (s:Ja) (σ:St) (H:Hp) (D:gj) (EX:Gz),Inv X Jf σ H s->t EX D σ H->wpAny (JS X.prog X.w) X.A (execs st X.env) (SP X Jf D) (IG X Jf EX) s
def Bx(sp:Sp)(t:TA):Bw:=λEX σ H Q=>t σ H λvs H1=>sp vs H1 Q λcls dx H'=>EX cls dx σ H'
def EC(i:Nat)(t:Bw):sk:=λEX D σ H=>t EX σ H λx H1=>D.nx (σ.set i<|B' x) H1
def pi(G:wg X.prog X.w X.K X.mg X.base j x f fd ps sp)(Yl:∀e s,X.xe e s->False)(hr:Room k X.A)(hjk:j<=k)(hg:Gl X x)(ha:PA X (e::es) t)(YH:(x == ("__debug__":Str))=false:=by decide)
  (he:J3 (e::es) X.env=(Jg,MC e X.env)::J3 es X.env:=by rfl) (T4:(Nh pos<|J3 es X.env).any (·.1)=false:=by rfl):GA X (.Call (.Name x p) (e::es) [] pos) (Bx sp t):=by
 intro Jf s σ H Q EX I h;refine LG<|dj I hg G.at_ ?_ YH;refine Pq (h₀:=X.base) I.ok.mod.kin G.kp (Kf (ha pos Jf s σ H _ I h) (λus s1 ⟨vs,H1,I1,r,q⟩=>⟨I1.kIn,?_⟩) λe' s' z=>(Yl e' s' z).elim) he T4;have hl:us.length=ps.length:=by rw[<-r.length];exact G.ok.len _ _ _ _ q
 have hbs:=G.b s1 us I1.kIn (by rw[KL];exact hl);rw[KL]at hbs;refine Qa<|Oi (G.ok.run X.A X.stack s1 H1 ⟨us,[]⟩ us vs Q (λcls dx H'=>EX cls dx σ H') (hr.mono hjk) I1.env0 hbs r q) λres s' hq=>?_;cases res with
 |error e'=>
  obtain⟨H',B,ea,dx,cls,a0,rfl,fl,hE⟩:=hq;exact⟨σ,H1,s1,H',B,ea,dx,cls,a0,rfl,I1,fl,hE⟩
 |ok fl=>
  cases fl with
  |ret u=>exact I1.after hq
  |next=>exact LJ hq
  |brk=>exact LJ hq
  |cont=>exact LJ hq
def lS(hN:X.N.Nodup)(hi:X.N[i]? =B' y)(hy:Fm X.env.scope y)(he:GA X e te)(hs:QT e (B'<|.Name y RA) pos.line X.env=pure false:=by rfl)(hf:X.fn y=Je\/X.env.scope.names.lookup y=B' .local:=by first|exact .inl rfl|exact .inr rfl|assumption):
  yx X [.Assign [.Name y RA] e pos] (EC i te):=by
 intro Jf s σ H D EX I h;refine Oa<|Rl (Kf (he Jf s σ H _ EX I h) (λv s1 ⟨z,H1,I1,r1,q1⟩=>?_) λ_ _ z=>z) hs;exact fh I1 hN hi hy r1 (λs2 I2=>Ly ⟨_,H1,I2,q1⟩) hf
def FliesD.old(f:FliesD P w outer H s H' B ea dx cls a0 s'):Flies P w outer H s H' B ea cls a0 s':=⟨f.os,f.bare,FlyD.old f.fly,f.hok,f.keep,f.thr,f.slot,f.free,f.tups,f.frzs,f.tbls⟩
def FliesD.unX(f:FliesD P w outer H s H' B ea dx (.ref C) a0 s')(st:B.StaysIn h')(up:s'.heap.UpToSlots h')(frf:∀b∈d9 outer,H b=Ji):Un (d9 outer) [] H (upd H' ea o) s.heap h':=by
 have u:=f.un st up frf;have fr:=f.old.fresh;refine⟨u.keep,u.slot,λb o e n hx=>?_,u.there,λb xs e=>?_,λb o v e=>?_,λb ps e=>?_⟩
 ·rw[ao<|f.old.away e];exact u.free b o e n hx
 ·have z:=u.tups b xs e;rw[ao<|aj z fr];exact z
 ·have z:=u.frzs b o v e;rw[ao<|aj z fr];exact z
 ·obtain⟨more,z⟩:=u.tbls b ps e;exact⟨more,by rw[ao<|aj z fr];exact z⟩
def FliesD.hokX(f:FliesD P w outer H s H' B ea (B' d) (.ref C) a0 s')(fl:FlyD B outer ea (B' d) (.ref C) a0 h'):HOk P w (upd H' ea<|dR ea C d) h':=λb u q=>by
 have fr:=f.old.fresh;by_cases hb:b=ea
 ·subst hb;rw[ad]at q;cases q;obtain⟨ob,e1,e2,e3,vs,e4⟩:=AtD.there fl;exact⟨⟨ob,vs,e1,e2,e3,e4⟩,⟨ob,e1⟩,λh1 h2 ⟨o,vs,z1,z2⟩ k=>⟨o,vs,k o z1,z2⟩⟩
 ·rw[ao hb]at q;exact(f.hok b u q).stay (λc v _ z=>fl.stay c v z) (λc z=>by rw[ao<|aj z fr];exact z) λc xs z=>by rw[ao<|aj z fr];exact z
def GB(C:I_)(i:Nat)(tb:sk)(ts:TS):TS:=λD σ H=>
 tb (λcls dx σ1 H'=>cls=.ref C/\∃d,dx=B' d/\∀ea,H' ea=Ji->ts {nx:=λσ2 H2=>D.nx (σ2.set i Ji) H2,rt:=D.rt,bk:=λσ2 H2=>D.bk (σ2.set i Ji) H2,ct:=λσ2 H2=>D.ct (σ2.set i Ji) H2} (σ1.set i<|B'<|.ref ea) (upd H' ea<|dR ea C d)) D σ H
def IsExc(H:Hp)(ea C:I_):Prop:=H ea=B' (gz ea C)\/∃d,H ea=B' (dR ea C d)
def IsExc.obj(x:IsExc H ea C)(ok:HOk P w H h):∃o,h.get? ea=B' o/\o.cls=.ref C:=by
 obtain x|⟨d,x⟩:=x
 ·obtain⟨⟨o,vs,h1,h2,_⟩,_⟩:=(show ObjOk P w H h ea (gz ea C)from ok ea _ x);exact⟨o,h1,h2⟩
 ·obtain⟨⟨o,vs,h1,h2,_⟩,_⟩:=(show ObjOk P w H h ea (dR ea C d)from ok ea _ x);exact⟨o,h1,h2⟩
def Iq(K:IZ):IW V->Hp->VK->Prop:=λxs H Q=>∃(ea C:I_) (cv:V) (c:IX) (b:JJ),xs=[.ref ea,cv]/\(match cv with|.ref a=>c=.ref a|.ty n=>c=.type n|_=>False)/\IsExc H ea C/\dL K C/\JM K (.ref C) c=B' b/\Q (.bl b) H
structure yy (K:IZ)(C:I_)(f:Str):Prop where
 ask:dL K C
 nf:KG K (.ref C) f=B' Ji
 hd:NP K C=Je
def GC(K:IZ)(ta:TE)(f:Str):TE:=λσ H Q=>ta σ H λx H1=>∃ea C d fs i,x=.ref ea/\H1 ea=B' (dR ea C d)/\H1 d=B' (.xd fs)/\yy K C f/\fs.lookup f=B' (.int i)/\Q (.int i) H1
def bF:dY X (.builtin "isinstance") (Iq X.K):=by
 intro Jf s σ H xs us Q I r h;obtain⟨ea,C,cv,c,b,rfl,hc,he,T,e,q⟩:=h;obtain⟨u,w',rfl,rx,ry⟩:=tz r;cases(show u=Kb ea from rx);have hw:w'=c:=by
  cases cv with
  |ref a=>exact(show w'=Kb a from ry).trans (show c=Kb a from hc).symm
  |ty n=>exact(show w'=ON n from ry).trans (show c=ON n from hc).symm
  |_=>exact hc.elim
 subst hw;obtain⟨o,h1,h2⟩:=he.obj I.hok;exact LL (xD T) I.kIn ⟨o,h1,h2⟩ e (λz=>nomatch z) λtk=>⟨.bl b,H,I.tok _,rfl,q⟩
def fP(he:PE X e ta)(hb:RH e f X.env (MC e X.env)=MC e X.env):PE X (.Attribute e f pos) (GC X.K ta f):=by
 intro Jf s σ H Q I h;refine AF hb<|bV (he Jf s σ H _ I h) λu s1 ⟨x,H1,I1,rx,ea,C,d,fs,i,ex,ea',hd,T,l,q⟩=>?_;subst ex;obtain rfl:u=Kb ea:=rx;obtain⟨⟨o,vs,h1,h2,h3,h4⟩,_⟩:=(show ObjOk X.prog X.w H1 s1.heap ea (dR ea C d)from I1.hok ea _ ea');obtain⟨mA,n1,n2⟩:=(show ObjOk X.prog X.w H1 s1.heap d (.xd fs)from I1.hok d _ hd);have hv:=n2 f;rw[l]at hv;obtain⟨g0,g1,g2,g3,g4⟩:=s1;cases hm:mA f with
 |none=>rw[hm]at hv;exact hv.elim
 |some v=>
  rw[hm]at hv;obtain⟨t,rfl⟩:=(show∃t,v=Ob i t from hv);exact Bl I1.kIn T.ask T.nf h1 h2 T.hd h3 ⟨vs,h4⟩ n1 hm rfl ⟨.int i,H1,I1.tok _,⟨_,rfl⟩,q⟩
def FnOk.or{K:IZ}(F:FnOk P w K mg base CX k f fd ps sp)(G:FnOk P w K mg base CX k f fd ps sp'):FnOk P w K mg base CX k f fd ps (λvs H Q E=>sp vs H Q E\/sp' vs H Q E):=
 ⟨λvs H Q E h=>h.elim (F.len vs H Q E)<|G.len vs H Q E,λA outer s H args us vs Q E hr e0 hb hv h=>h.elim (F.run A outer s H args us vs Q E hr e0 hb hv)<|G.run A outer s H args us vs Q E hr e0 hb hv⟩
end L2
namespace L2
open PySem PySem.Spec PyProof.Rows
section
variable {K:IZ}{st:Lh}
def dz{P:IW IX->Prop}(h:∀x us,us.length=n->P (x::us))(us:IW IX)(e:us.length=n+1):P us:=by
 obtain⟨x,r,rfl⟩:=List.exists_cons_of_length_eq_add_one e;exact h x r<|Nat.succ.inj e
def lU{P:IW IX->Prop}(h:P [])(us:IW IX)(e:us.length=0):P us:=by
 rw[ME.mp e];exact h
def Fun.b1(F:Fun K x qual st f fd)(h:∀kV UY pm an MG ct u,RZ (MO x qual (eI st) (cM st) (ap st) .none kV UY pm an MG ct) ⟨[u],[]⟩=pure [(p,u)]:=by intros;rfl):Binds K fd [p] []:=
 F.binds λa b c d e f=>dz λu=>lU<|h a b c d e f u
def Fun.b2(F:Fun K x qual st f fd)(h:∀kV UY pm an MG ct u v,RZ (MO x qual (eI st) (cM st) (ap st) .none kV UY pm an MG ct) ⟨[u,v],[]⟩=pure [(p,u),(q,v)]:=by intros;rfl):Binds K fd [p,q] []:=
 F.binds λa b c d e f=>dz λu=>dz λv=>lU<|h a b c d e f u v
def Fun.b3(F:Fun K x qual st f fd)(h:∀kV UY pm an MG ct u v w,RZ (MO x qual (eI st) (cM st) (ap st) .none kV UY pm an MG ct) ⟨[u,v,w],[]⟩=pure [(p,u),(q,v),(r,w)]:=by intros;rfl):Binds K fd [p,q,r] []:=
 F.binds λa b c d e f=>dz λu=>dz λv=>dz λw=>lU<|h a b c d e f u v w
def Fun.b4(F:Fun K x qual st f fd)(h:∀kV UY pm an MG ct u v w y,RZ (MO x qual (eI st) (cM st) (ap st) .none kV UY pm an MG ct) ⟨[u,v,w,y],[]⟩=pure [(p,u),(q,v),(r,w),(s,y)]:=by intros;rfl):Binds K fd [p,q,r,s] []:=
 F.binds λa b c d e f=>dz λu=>dz λv=>dz λw=>dz λy=>lU<|h a b c d e f u v w y
def Fun.b5(F:Fun K x qual st f fd)(h:∀kV UY pm an MG ct u v w y z,RZ (MO x qual (eI st) (cM st) (ap st) .none kV UY pm an MG ct) ⟨[u,v,w,y,z],[]⟩=pure [(p,u),(q,v),(r,w),(s,y),(t,z)]:=by intros;rfl):Binds K fd [p,q,r,s,t] []:=
 F.binds λa b c d e f=>dz λu=>dz λv=>dz λw=>dz λy=>dz λz=>lU<|h a b c d e f u v w y z
def By(P:Js)(w:JV)(base:J6)(X:K.In h)(G:h.Ns Jo mg)(a:Jq K Jo x=B' (B'<|.ref f))(F:Fun K x qual st f fd)(b:Binds K fd ps [])(ok:FnOk P w K mg base (jU P w) k f fd ps sp):tN P w K mg base k x f fd ps sp:=⟨ok,b,F.kp,KF X G a⟩
end
def yz{K:IZ}{st:Lh}(P:Js)(w:JV)(base:J6)(X:K.In h)(G:h.Ns Jo mg)(a:Jq K Jo x=B' (B'<|.ref f))(F:Fun K x qual st f fd)(b:Binds K fd ps [])(ok:FnOk P w K mg base (iM P w) k f fd ps sp):wg P w K mg base k x f fd ps sp:=⟨ok,b,F.kp,KF X G a⟩
def Bz{vs:IW JJ}{tk:Tok}{Q:Fin->Ja->Prop}(hx:s.TypeIs x Tx)(e1:s.heap.get? tp=B' o)(e2:o.cls=.type "tuple")(e3:o.data=.seq cs.toArray n)
  (ha:UJ (λs=>s.TypeIs x Tx) x cs vs) (q:∀t',Q (.done<|.ret<|.bool<|vs.any id) {s with toks:=t'}):wpAny (JS prog w) A (Builtin.«isinstance.nested» ⟨[x,.ref tp,.int 0 tk],[]⟩) Q E s:=by
 have z0:s.TypeIs x Tx:=hx;obtain⟨h,g,d,t,os⟩:=s;obtain⟨cl,dd,dt,sl⟩:=o;cases e2;cases e3;have htp:h.get? tp=B' {cls:=.type "tuple",dict:=dd,data:=.seq cs.toArray n,slots:=sl}:=e1;have hT2:(⟨h,g,d,t,os⟩:Ja).TypeIs (.ref tp) "tuple":=⟨_,htp,rfl⟩;have f1:=F.isi_sub_tuple
 repeat (any_goals (first|assumption|wp_step))
 refine wpAny_arrayLoop ?_;simp only [R9,Ub];refine isinstance_items (dep:=0) (P:=λs=>s.TypeIs x Tx) (λ_ t z=>z.toks t) cs vs _ _ ha z0 λt'=>?_;have q1:=q t';cases hv:vs.any id with
 |true=>
  rw[hv]at q1;simp only [Ms]
  repeat (any_goals (first|assumption|wp_step))
 |false=>
  rw[hv]at q1;simp only [JA,La]
  repeat (any_goals (first|assumption|wp_step))
def nK{tp:I_}(ha:UJ (λs=>s.TypeIs x Tx) x cs vs):
  Meets (Builtin.«isinstance» ⟨[x,.ref tp],[]⟩) (λ_ R s=>s.TypeIs x Tx/\(∃o n,s.heap.get? tp=B' o/\o.cls=.type "tuple"/\o.data=.seq cs.toArray n)/\∀t',R (.ok<|.ret<|.bool<|vs.any id) {s with toks:=t'}):=
 λ_ _ _ _ _ ⟨h1,⟨_,_,a,b,c⟩,h3⟩=>isinstance_outer (Bz h1 a b c ha h3)<|Wh h1
def GD(c:TT)(t u:sk):sk:=λEX D σ H=>c σ H λb H1=>if b=Je then t EX D σ H1 else u EX D σ H1
def uj(Yl:∀e s,X.xe e s->False)(hc:PT X c tc)(ha:yx X a t)(hb:yx X b u):yx X [.If c a b pos] (GD tc t u):=by
 intro Jf s σ H D EX I h;refine Oa<|Zk<|Kf (hc Jf s σ H _ I h) (λd s1 ⟨H1,I1,q1⟩=>?_) λe' s' z=>(Yl e' s' z).elim;cases d with
 |true=>
  refine aW<|Kf (ha Jf s1 σ H1 D EX I1 q1) (λfl s2 q2=>?_) λ_ _ z=>z;cases fl with
  |next=>exact Ly q2
  |ret v=>exact q2
  |brk=>exact q2
  |cont=>exact q2
 |false=>
  refine aQ<|Kf (hb Jf s1 σ H1 D EX I1 q1) (λfl s2 q2=>?_) λ_ _ z=>z;cases fl with
  |next=>exact Ly q2
  |ret v=>exact q2
  |brk=>exact q2
  |cont=>exact q2
def yA{body:IW Lh}{x:Str}{x1:Str}{C D1 fI1:I_}{bm1:IW IX}{id1:Mg}{hsr:IW Qm}{n1:Jd Str}{abB:IW Lh}{np1 abk:Pos}{newId:Mg}{Wa:IW IX}{b₀:Lh}{V9:IW Lh}{np hpos pos:Pos}{tb:Cy}{ts:TS}(hN:X.N.Nodup)(hi:X.N[i]? =B' n)(hk:X.env.scope.names.lookup n=B' .local)
  (S5:X.stack=X.env::X.outer) (TV:X.env.frame=B' X.env.locals) (SJ:X.calm=Je) (q:Mo X.K C Wa newId=Je) (Zf:Wa.contains (.type "BaseException")=Je) (hm:X.mg x=B' (.ref C)) (hg:Gl X x) (q1:hZ X.K D1 bm1 id1 fI1=Je) (be1:J5 X.K D1 (.type "BaseException")=B' Je) (adt:J5 X.K C (.ref D1)=B' Jg) (VD:X.mg x1=B' (.ref D1)) (hg1:Gl X x1)
  (hb:Fr X body tb) (hs:∀ea E,PSs (X.inExc ea E) (b₀::V9) ts) (hd:(x == ("__debug__":Str))=false:=by decide) (ZF:(x1 == ("__debug__":Str))=false:=by decide) (hf:X.fn n=Je\/X.env.scope.names.lookup n=B' .local:=by first|exact .inl rfl|exact .inr rfl|assumption):
  PS X (.Try body (.ExceptHandler (B'<|.Name x1 np1) n1 abB abk::.ExceptHandler (B'<|.Name x np) (B' n) (b₀::V9) hpos::hsr) [] [] pos) (Gk C i tb ts):=by
 intro Jf s σ H Dn I h;refine Qb<|Kf (hb Jf s σ H Dn _ I h) (λfl s1 qq=>?_) λe s1 qq=>?_
 ·cases fl with
  |next=>exact Ly qq
  |ret v=>exact qq
  |brk=>exact qq
  |cont=>exact qq
 obtain⟨σ1,H1,s0,H',B,ea,cls,a0,rfl,I1,fl,rfl,kk⟩:=qq;have hA:X.A.frames=B' (X.env::X.outer):=by rw[<-S5];exact I1.ok.frames
 have fly:OY B (X.env::X.outer) ea (.ref C) a0 s1.heap:=by rw[<-S5];exact fl.fly
 refine Wr hA TV fly λh4 held up4=>?_;refine wpAny_landsW held λh5 fly5 up5=>?_;have Y9:=up4.trans up5;have I5:Inv X Jf σ1 H' {s1 with heap:=h5}:=I1.call' (s':={s1 with heap:=h5}) fl.os (fl.un fly5.1 Y9 I1.stkFree) (fl.hok.kept fly5.1) fl.bare λb z=>nomatch z
 obtain⟨ob,hob,Za⟩:=fly5.there;obtain⟨bm,N',nm,q',bs,hdct,sn,sub,ab,col,dd,k0,k1,k2,k3,k5,mN,c1,c2,c3,c4⟩:=kx I5.kIn q;obtain⟨bm',N1',nm',q1',bs',ae2,sn',af4,ab',ahO,dd',k0',k1',k2',k3',k5',mN',d1,d2,d3,d4⟩:=jl I5.kIn q1;refine Ni (MT<|dj (I5.inExc ea λ_ _=>False) hg1 VD ?_ ZF) (by intro z;cases z);refine ir (K:=X.K) (b:=Jg) I5.kIn hob Za d1 rfl be1 (fg d1 rfl) adt ?_;refine Ni (MT<|dj (I5.inExc ea λ_ _=>False) hg hm ?_ hd) (by intro z;cases z);refine Rh c1 hob Za (c4.hasType Zf)<|O0 ?_;refine lands_againW fly5 λh6 fly6 up6=>?_;have abd:=Y9.trans up6;have Zg:OY B X.stack ea (.ref C) a0 h6:=by rw[S5];exact fly6
 have I6:Inv X Jf σ1 (upd H' ea<|gz ea C) {s1 with heap:=h6}:=I1.call' (s':={s1 with heap:=h6}) fl.os (fl.unX fly6.1 abd I1.stkFree) (fl.hokX Zg) fl.bare λb z=>nomatch z
 refine fh (i:=i) (v:=.ref ea) I6 hN hi (.inl hk) rfl (λs7 I7=>?_) hf;refine Kf (hs ea _ Jf s7 _ _ _ (I7.inExc ea _)<|kk ea fl.fresh) (λf s8 q8=>?_) λ_ _ z=>z;have Y4:X.A.handled=none:=I.ok.hd SJ;cases f with
 |next=>
  obtain⟨σ8,H8,I8,z8⟩:=q8;exact dq (I8.outExc Y4) hN hi hk λs9 I9=>⟨_,H8,I9,z8⟩
 |brk=>
  obtain⟨σ8,H8,I8,z8⟩:=q8;exact dq (I8.outExc Y4) hN hi hk λs9 I9=>⟨_,H8,I9,z8⟩
 |cont=>
  obtain⟨σ8,H8,I8,z8⟩:=q8;exact dq (I8.outExc Y4) hN hi hk λs9 I9=>⟨_,H8,I9,z8⟩
 |ret u=>
  obtain⟨v,σ8,H8,I8,r8,z8⟩:=q8;exact dq (I8.outExc Y4) hN hi hk λs9 I9=>⟨v,_,H8,I9,r8,z8⟩
def yB{body:IW Lh}{x:Str}{x1:Str}{C D1 D2 fI1:I_}{x2:Str}{n2:Jd Str}{ae_:IW Lh}{np2 aeF:Pos}{bm1:IW IX}{id1:Mg}{hsr:IW Qm}{n1:Jd Str}{abB:IW Lh}{np1 abk:Pos}{newId:Mg}{Wa:IW IX}{b₀:Lh}{V9:IW Lh}{np hpos pos:Pos}{tb:Cy}{ts:TS}(hN:X.N.Nodup)(hi:X.N[i]? =B' n)(hk:X.env.scope.names.lookup n=B' .local)
  (S5:X.stack=X.env::X.outer) (TV:X.env.frame=B' X.env.locals) (SJ:X.calm=Je) (q:Mo X.K C Wa newId=Je) (Zf:Wa.contains (.type "BaseException")=Je) (hm:X.mg x=B' (.ref C)) (hg:Gl X x) (q1:hZ X.K D1 bm1 id1 fI1=Je) (be1:J5 X.K D1 (.type "BaseException")=B' Je) (adt:J5 X.K C (.ref D1)=B' Jg) (VD:X.mg x1=B' (.ref D1)) (hg1:Gl X x1) (q2:Mo X.K D2 Wa newId=Je) (be2:J5 X.K D2 (.type "BaseException")=B' Je) (ahz:J5 X.K C (.ref D2)=B' Jg) (UZ:X.mg x2=B' (.ref D2)) (hg2:Gl X x2)
  (hb:Fr X body tb) (hs:∀ea E,PSs (X.inExc ea E) (b₀::V9) ts) (hd:(x == ("__debug__":Str))=false:=by decide) (ZF:(x1 == ("__debug__":Str))=false:=by decide) (Wp:(x2 == ("__debug__":Str))=false:=by decide) (hf:X.fn n=Je\/X.env.scope.names.lookup n=B' .local:=by first|exact .inl rfl|exact .inr rfl|assumption):
  PS X (.Try body (.ExceptHandler (B'<|.Name x1 np1) n1 abB abk::.ExceptHandler (B'<|.Name x2 np2) n2 ae_ aeF::.ExceptHandler (B'<|.Name x np) (B' n) (b₀::V9) hpos::hsr) [] [] pos) (Gk C i tb ts):=by
 intro Jf s σ H Dn I h;refine Qb<|Kf (hb Jf s σ H Dn _ I h) (λfl s1 qq=>?_) λe s1 qq=>?_
 ·cases fl with
  |next=>exact Ly qq
  |ret v=>exact qq
  |brk=>exact qq
  |cont=>exact qq
 obtain⟨σ1,H1,s0,H',B,ea,cls,a0,rfl,I1,fl,rfl,kk⟩:=qq;have hA:X.A.frames=B' (X.env::X.outer):=by rw[<-S5];exact I1.ok.frames
 have fly:OY B (X.env::X.outer) ea (.ref C) a0 s1.heap:=by rw[<-S5];exact fl.fly
 refine Wr hA TV fly λh4 held up4=>?_;refine wpAny_landsW held λh5 fly5 up5=>?_;have Y9:=up4.trans up5;have I5:Inv X Jf σ1 H' {s1 with heap:=h5}:=I1.call' (s':={s1 with heap:=h5}) fl.os (fl.un fly5.1 Y9 I1.stkFree) (fl.hok.kept fly5.1) fl.bare λb z=>nomatch z
 obtain⟨ob,hob,Za⟩:=fly5.there;obtain⟨bm,N',nm,q',bs,hdct,sn,sub,ab,col,dd,k0,k1,k2,k3,k5,mN,c1,c2,c3,c4⟩:=kx I5.kIn q;obtain⟨bm',N1',nm',q1',bs',ae2,sn',af4,ab',ahO,dd',k0',k1',k2',k3',k5',mN',d1,d2,d3,d4⟩:=jl I5.kIn q1;refine Ni (MT<|dj (I5.inExc ea λ_ _=>False) hg1 VD ?_ ZF) (by intro z;cases z);refine ir (K:=X.K) (b:=Jg) I5.kIn hob Za d1 rfl be1 (fg d1 rfl) adt ?_;obtain⟨ami,N2',akb,q2',amh,ahk,ajT,ah1,amn,ajk,amf,akM,akK,akI,akF,akD,aku,f1,f2,f3,f4⟩:=kx I5.kIn q2;refine Ni (MT<|dj (I5.inExc ea λ_ _=>False) hg2 UZ ?_ Wp) (by intro z;cases z);refine ir (K:=X.K) (b:=Jg) I5.kIn hob Za f1 rfl be2 (fg f1 rfl) ahz ?_;refine Ni (MT<|dj (I5.inExc ea λ_ _=>False) hg hm ?_ hd) (by intro z;cases z);refine Rh c1 hob Za (c4.hasType Zf)<|O0 ?_;refine lands_againW fly5 λh6 fly6 up6=>?_;have abd:=Y9.trans up6;have Zg:OY B X.stack ea (.ref C) a0 h6:=by rw[S5];exact fly6
 have I6:Inv X Jf σ1 (upd H' ea<|gz ea C) {s1 with heap:=h6}:=I1.call' (s':={s1 with heap:=h6}) fl.os (fl.unX fly6.1 abd I1.stkFree) (fl.hokX Zg) fl.bare λb z=>nomatch z
 refine fh (i:=i) (v:=.ref ea) I6 hN hi (.inl hk) rfl (λs7 I7=>?_) hf;refine Kf (hs ea _ Jf s7 _ _ _ (I7.inExc ea _)<|kk ea fl.fresh) (λf s8 q8=>?_) λ_ _ z=>z;have Y4:X.A.handled=none:=I.ok.hd SJ;cases f with
 |next=>
  obtain⟨σ8,H8,I8,z8⟩:=q8;exact dq (I8.outExc Y4) hN hi hk λs9 I9=>⟨_,H8,I9,z8⟩
 |brk=>
  obtain⟨σ8,H8,I8,z8⟩:=q8;exact dq (I8.outExc Y4) hN hi hk λs9 I9=>⟨_,H8,I9,z8⟩
 |cont=>
  obtain⟨σ8,H8,I8,z8⟩:=q8;exact dq (I8.outExc Y4) hN hi hk λs9 I9=>⟨_,H8,I9,z8⟩
 |ret u=>
  obtain⟨v,σ8,H8,I8,r8,z8⟩:=q8;exact dq (I8.outExc Y4) hN hi hk λs9 I9=>⟨v,_,H8,I9,r8,z8⟩
def yC{body:IW Lh}{x:Str}{C fI:I_}{hsr:IW Qm}{newId:Mg}{Wa:IW IX}{b₀:Lh}{V9:IW Lh}{np hpos pos:Pos}{tb:sk}{ts:TS}(hN:X.N.Nodup)(hi:X.N[i]? =B' n)(hk:X.env.scope.names.lookup n=B' .local)
  (S5:X.stack=X.env::X.outer) (TV:X.env.frame=B' X.env.locals) (SJ:X.calm=Je) (q:hZ X.K C Wa newId fI=Je) (be:J5 X.K C (.type "BaseException")=B' Je) (hCD:J5 X.K C (.ref C)=B' Je) (hm:X.mg x=B' (.ref C)) (hg:Gl X x)
  (hb:yx X body tb) (hs:∀ea E,PSs (X.inExc ea E) (b₀::V9) ts) (hd:(x == ("__debug__":Str))=false:=by decide) (hf:X.fn n=Je\/X.env.scope.names.lookup n=B' .local:=by first|exact .inl rfl|exact .inr rfl|assumption):
  PS X (.Try body (.ExceptHandler (B'<|.Name x np) (B' n) (b₀::V9) hpos::hsr) [] [] pos) (GB C i tb ts):=by
 intro Jf s σ H Dn I h;refine Qb<|Kf (hb Jf s σ H Dn _ I h) (λfl s1 q1=>?_) λe s1 q1=>?_
 ·cases fl with
  |next=>exact Ly q1
  |ret v=>exact q1
  |brk=>exact q1
  |cont=>exact q1
 obtain⟨σ1,H1,s0,H',B,ea,dx,cls,a0,rfl,I1,fl,rfl,d,rfl,kk⟩:=q1;have hA:X.A.frames=B' (X.env::X.outer):=by rw[<-S5];exact I1.ok.frames
 have fly:FlyD B (X.env::X.outer) ea (B' d) (.ref C) a0 s1.heap:=by rw[<-S5];exact fl.fly
 refine CG hA TV fly λh4 held up4=>?_;refine ub (s:={s1 with heap:=h4}) held λh5 fly5 up5=>?_;have Y9:=up4.trans up5;have I5:Inv X Jf σ1 H' {s1 with heap:=h5}:=I1.call' (s':={s1 with heap:=h5}) fl.os (fl.un fly5.stay Y9 I1.stkFree) (fl.hok.kept fly5.stay) fl.bare λb z=>nomatch z
 obtain⟨ob,hob,Za,_⟩:=fly5.there;obtain⟨bm,N',nm,q',bs,hdct,sn,sub,ab,col,dd,k0,k1,k2,k3,k5,mN,c1,c2,c3,c4⟩:=jl I5.kIn q;refine Ni (MT<|dj (I5.inExc ea λ_ _=>False) hg hm ?_ hd) (by intro z;cases z);refine ir (K:=X.K) I5.kIn hob Za c1 rfl be (fg c1 rfl) hCD<|O0 ?_;refine ub (s:={s1 with heap:=h5}) fly5 λh6 fly6 up6=>?_;have abd:=Y9.trans up6;have Zg:FlyD B X.stack ea (B' d) (.ref C) a0 h6:=by rw[S5];exact fly6
 have I6:Inv X Jf σ1 (upd H' ea<|dR ea C d) {s1 with heap:=h6}:=I1.call' (s':={s1 with heap:=h6}) fl.os (fl.unX fly6.stay abd I1.stkFree) (fl.hokX Zg) fl.bare λb z=>nomatch z
 refine fh (i:=i) (v:=.ref ea) I6 hN hi (.inl hk) rfl (λs7 I7=>?_) hf;refine Kf (hs ea _ Jf s7 _ _ _ (I7.inExc ea _)<|kk ea fl.old.fresh) (λf s8 q8=>?_) λ_ _ z=>z;have Y4:X.A.handled=none:=I.ok.hd SJ;cases f with
 |next=>
  obtain⟨σ8,H8,I8,z8⟩:=q8;exact dq (I8.outExc Y4) hN hi hk λs9 I9=>⟨_,H8,I9,z8⟩
 |brk=>
  obtain⟨σ8,H8,I8,z8⟩:=q8;exact dq (I8.outExc Y4) hN hi hk λs9 I9=>⟨_,H8,I9,z8⟩
 |cont=>
  obtain⟨σ8,H8,I8,z8⟩:=q8;exact dq (I8.outExc Y4) hN hi hk λs9 I9=>⟨_,H8,I9,z8⟩
 |ret u=>
  obtain⟨v,σ8,H8,I8,r8,z8⟩:=q8;exact dq (I8.outExc Y4) hN hi hk λs9 I9=>⟨v,_,H8,I9,r8,z8⟩
def gE:dY X (.builtin "isinstance") (λxs H Q=>∃x p,xs=[x,.ref p]/\H p=B' (.tup [.ty "list",.ty "tuple"])/\((∃a ys,x=.ref a/\H a=B' (.lst ys))\/∃a ys,x=.ref a/\H a=B' (.tup ys))/\Q (.bl Je) H):=by
 rintro Jf s σ H xs us Q I r ⟨x,p,rfl,hp,hx,q⟩;obtain⟨u,v,rfl,ru,rv⟩:=r.two;cases rv;obtain⟨_,Lj,vr,o,e1,e2,n,e3⟩:=(show ObjOk X.prog X.w H s.heap p (.tup [.ty "list",.ty "tuple"])from I.hok p _ hp);have one:Lj=[.type "list",.type "tuple"]:=by
  obtain _|⟨z1,z2⟩:=vr
  obtain _|⟨z3,z4⟩:=z2
  cases z4;cases z1;cases z3;rfl
 subst one;obtain⟨a,ys,rfl,ha⟩|⟨a,ys,rfl,ha⟩:=hx
 ·cases ru;obtain⟨_,_,_,_,a1⟩:=(show ObjOk X.prog X.w H s.heap a (.lst ys)from I.hok a _ ha);have al:UJ (λs=>s.TypeIs (.ref a) "list") (.ref a) [.type "list",.type "tuple"] [Je,Jg]:=by pv_isi_answers
  exact Wt (nK al) ⟨⟨_,a1,rfl⟩,⟨o,n,e1,e2,e3⟩,λt'=>⟨.bl Je,H,I.tok _,rfl,q⟩⟩
 ·cases ru;obtain⟨_,_,_,oa,a1,a2,_⟩:=(show ObjOk X.prog X.w H s.heap a (.tup ys)from I.hok a _ ha);have al:UJ (λs=>s.TypeIs (.ref a) "tuple") (.ref a) [.type "list",.type "tuple"] [Jg,Je]:=by pv_isi_answers
  exact Wt (nK al) ⟨⟨oa,a1,a2⟩,⟨o,n,e1,e2,e3⟩,λt'=>⟨.bl Je,H,I.tok _,rfl,q⟩⟩
end L2
namespace OD
open PySem L2
theorem uk:∀{ds:IW Jw} {sets out:IW (IW Int)},bu t cs hw sets ds=(out,Je)->∃tl,out=sets++tl/\tl.length=ds.length/\∀k d,ds[k]? =B' d->aO t cs hw (sets++tl.take k) d=B' (tl.getD k [])
 |[],sets,out,h=>by
  cases h;exact⟨[],(KL _).symm,rfl,λk d e=>by simp at e⟩
 |e::r,sets,out,h=>by
  have h':(match aO t cs hw sets e with|none=>(sets,Jg)|some c=>bu t cs hw (sets++[c]) r)=(out,Je):=h;cases g:aO t cs hw sets e with
  |none=>rw[g]at h';cases h'
  |some c=>
   rw[g]at h';obtain⟨tl,h1,h2,h3⟩:=uk h';refine⟨c::tl,by rw[h1,J1];rfl,by rw[J4,J4,h2],λk d ek=>?_⟩;cases k with
   |zero=>
    cases(show B' e=B' d from ek);rw[NC,KL];exact g
   |succ k=>
    have:=h3 k d ek;rw[J1]at this;exact this
def ED(h:bu t cs hw [] ds=(out,Je))(hd:ds[k]? =B' d):aO t cs hw (out.take k) d=B' (out.getD k []):=by
 obtain⟨tl,h1,_,h3⟩:=uk h;rw[QE]at h1;subst h1;exact h3 k d hd
end OD
namespace L2
open PySem PySem.Spec PyProof.Rows
def BA:V->IW V->Hp->VK->Prop:=λx vs H Q=>∃(dx:Jw) (ds:IW Jw) (y:V) (l:I_) (xs:IW V) (j:Nat),x=.ref l/\vs=[y]/\H l=B' (.lst xs)/\dJ H ds xs/\RD H dx y/\dx.canLay0=Je/\LY ds=Je/\dx.depth<=60/\j < ds.length/\KC (ds.getD j .none) dx=Je/\(∀m,m < j->KC (ds.getD m .none) dx=Jg)/\Q (.int j) H
def nM(hu:X.A.units+64 < MZ):IE X "list.index" BA:=by
 intro Jf s σ H x vs v us Q I rx rv h;obtain⟨dx,ds,y,l,xs,j,rfl,rfl,hH,hds,hdx,c1,c2,c3,hj,YE,Yl,q⟩:=h;cases rx;obtain⟨u,rfl,ru⟩:=rv.one;obtain⟨z,Lj,n,r,hl,e⟩:=I.lstM hH;obtain⟨as,qa⟩:=fo I dx y u hdx ru;obtain⟨bs,qb⟩:=fo I (.list ds) (.ref l) (.ref l) (bI hH hds) rfl;have qs:∃cs,Zt s.heap Lj ds cs:=by
  cases qb with
  |list h1 h2 h3 h4=>
   rw[e]at h1;cases h1;cases h3;exact⟨_,by simpa using h4⟩
 obtain⟨cs,qs⟩:=qs;have qs':Zt s.heap Lj.toArray.toList ds cs:=by simpa using qs
 have aeM:=SeqAt.readsAll_map ds Lj cs c2 qs;have L_:Lj.length=ds.length:=by rw[<-aeM,Jc]
 have hat:∀m hm,KC (Vg s.heap Lj[m]) dx=KC (ds.getD m .none) dx:=λm hm=>by
  have:ds.getD m .none=Vg s.heap Lj[m]:=by
   rw[<-aeM,Jr,JW,Jm hm];rfl
  rw[this]
 have UZ:min (MR ds) dx.depth<=dx.depth:=Nat.min_le_right _ _;refine W7 P9 ⟨_,e,rfl⟩ F.entry_list_index (F.args_list_index_2 _ _) (SeqAt.list_indexAt l Lj.toArray n Ji #[] u (λy=>KC (Vg s.heap y) dx) j (by simpa using(by lia:j < Lj.length)) ?_ ?_ ?_) ⟨e,SeqAt.items_eqAt qs' qa c2 c1 (by lia),?_⟩
 ·have:=Lf;lia
 ·rw[TN];exact(hat j<|by lia).trans YE
 ·intro m hm NJ;rw[TN];exact(hat m<|by simpa using hm).trans<|Yl m NJ
 ·exact⟨.int j,H,I.tok _,⟨_,rfl⟩,q⟩
end L2
namespace OD
open PySem L2
def eX(cs:IW (IW Int)):IW (IW Int)->IW (IW Int)
 |[]=>cs
 |c::r=>eX (if c∈cs then cs else cs++[c]) r
theorem lV:∀out cs c,eX cs (out++[c])=if c∈eX cs out then eX cs out else eX cs out++[c]
 |[],_,_=>rfl
 |_::out,cs,c=>lV out _ c
theorem nO:∀out cs,(eX cs out).length<=cs.length+out.length
 |[],_=>Jh _
 |d::out,cs=>by
  have:=nO out (if d∈cs then cs else cs++[d]);show(eX (if d∈cs then cs else cs++[d]) out).length<=_
  rw[J4];by_cases h:d∈cs
  ·rw[JL h]at this ⊢;lia
  ·rw[JK h]at this ⊢;rw[JC,Kk]at this;lia
def iJ(h:bj n d=B' i)(hm:n<=m):bj m d=B' i:=by
 obtain⟨h1,rfl⟩:=ce h;show(if 0<=(i:Int)/\(i:Int) < (m:Int)then B' (i:Int).toNat else Ji)=B' i
 rw[JL (by lia),MQ]
def jI{sets more:IW (IW Int)}{i:Nat}(h:i < sets.length):(sets++more).getD i []=sets.getD i []:=by
 rw[Jr,Jr,Kl h]
def wj(more:IW (IW Int))(h:aO t cs hw sets d=B' c):aO t cs hw (sets++more) d=B' c:=by
 have hle:sets.length<=(sets++more).length:=by rw[JC];lia
 unfold aO at h ⊢
 split at h
 ·rename_i c1;rw[JL c1];exact h
 rename_i c1;rw[JK c1]
 split at h
 ·rename_i c2;rw[JL c2];exact h
 rename_i c2;rw[JK c2]
 split at h
 ·rename_i c3;rw[JL c3];unfold dG at h ⊢;cases e1:bj sets.length (hW d 1)with
  |none=>rw[e1]at h;cases h
  |some i=>
  cases e2:bj sets.length (hW d 2)with
  |none=>rw[e1,e2]at h;cases h
  |some j=>
  rw[e1,e2]at h;rw[iJ e1 hle,iJ e2 hle];cases e3:hW d 3 with
  |int z=>
   rw[e3]at h;have h':(if d6 t hw (sets.getD i []) (sets.getD j []) z=Je then B' (dF (sets.getD i []) (sets.getD j []) z)else Ji)=B' c:=h;show(if d6 t hw ((sets++more).getD i []) ((sets++more).getD j []) z=Je then B' (dF ((sets++more).getD i []) ((sets++more).getD j []) z)else Ji)=B' c
   rw[jI (ce e1).1,jI (ce e2).1];exact h'
  |_=>rw[e3]at h;cases h
 rename_i c3;rw[JK c3]
 split at h
 ·rename_i c4;rw[JL c4];unfold hV at h ⊢;cases e:bj sets.length (hW d 1)with
  |none=>rw[e]at h;cases h
  |some i=>
   rw[e]at h;rw[iJ e hle];show B' (dg t hw<|(sets++more).getD i [])=B' c
   rw[jI (ce e).1];exact h
 ·cases h
theorem ul:∀{ds:IW Jw} {sets out:IW (IW Int)} {i:Nat} {d:Jw},bu t cs hw sets ds=(out,Je)->ds[i]? =B' d->∃c,out[sets.length+i]? =B' c/\aO t cs hw (out.take<|sets.length+i) d=B' c/\∃more,out=sets++more
 |[],sets,out,i,d,_,h=>by simp at h
 |e::ds,sets,out,i,d,h,g=>by
  have h':(match aO t cs hw sets e with|none=>(sets,Jg)|some c=>bu t cs hw (sets++[c]) ds)=(out,Je):=h;cases q:aO t cs hw sets e with
  |none=>rw[q]at h';cases h'
  |some c=>
   rw[q]at h';cases i with
   |zero=>
    have g':e=d:=by simpa using g
    subst g';have pre:∃more,out=(sets++[c])++more:=run_more h';obtain⟨more,rfl⟩:=pre;refine⟨c,?_,?_,[c]++more,by rw[J1]⟩
    ·rw[OZ,J1,Ku<|Jh _,M1];rfl
    ·rw[OZ,J1,Xn];exact q
   |succ i=>
    obtain⟨c',a1,a2,more,a3⟩:=ul (i:=i) h' (by simpa using g);rw[JC,Kk,Nu,Nat.add_comm 1 i]at a1 a2;exact⟨c',a1,a2,[c]++more,by rw[a3,J1]⟩
where
 run_more {t:Str} {cs:IW (IW Int)} {hw:JJ}:∀{ds:IW Jw} {sets out:IW (IW Int)},bu t cs hw sets ds=(out,Je)->∃more,out=sets++more
  |[],sets,out,h=>⟨[],by cases h;exact(KL _).symm⟩
  |d::ds,sets,out,h=>by
   have h':(match aO t cs hw sets d with|none=>(sets,Jg)|some c=>bu t cs hw (sets++[c]) ds)=(out,Je):=h;cases q:aO t cs hw sets d with
   |none=>rw[q]at h';cases h'
   |some c=>
    rw[q]at h';obtain⟨more,e⟩:=run_more h';exact⟨c::more,by rw[e,J1];rfl⟩
def wk{t:Str}{cs:IW (IW Int)}{hw:JJ}{ds:IW Jw}{out:IW (IW Int)}{i:Nat}{d:Jw}(h:bu t cs hw [] ds=(out,Je))(g:ds[i]? =B' d):∃c,out[i]? =B' c/\aO t cs hw out d=B' c:=by
 obtain⟨c,a1,a2,_⟩:=ul h g;rw[Lk,Le]at a1 a2;have:=wj (out.drop i) a2;rw[Ml]at this;exact⟨c,a1,this⟩
theorem wl(t:Str)(hw:JJ):dg t hw []=[]:=rfl
end OD
namespace L2
open PySem
inductive pj (Me:St)(H1:Hp)(D:I_)(xs:IW V)(f:V->IW V)(i:Nat)(σ:St)(ys:IW V)(H2:Hp):Prop
 |mk (v0:Jd V)(h0:σ=v0::Me)(h1:ys.length=i)(h2:H2 D=B' (.lst ys))(h3:Same H1 H2)(h4:∀(j:Nat) (y:V),ys[j]? =B' y->∃x,xs[j]? =B' x/\TupAt H2 (f x) y):pj Me H1 D xs f i σ ys H2
section
variable {K:IZ}
def sq(hD:H1 D=Ji)(hx:xs[i]? =B' x)(J:pj Me H1 D xs f i (v0::Me) ys H2)(hp:H2 p=Ji)(hi:i<=900):
  upd H2 p (.tup<|f x) D=B' (.lst ys)/\ys.length < sizeLine/\pj Me H1 D xs f (i+1) (v0::Me) (ys++[.ref p]) (upd (upd H2 p<|.tup<|f x) D<|.lst<|ys++[.ref p]):=by
 obtain⟨_,_,h1,h2,h3,h4⟩:=J;have k:=ag hp<|.tup<|f x;have ZZ:=k _ _ h2;refine⟨ZZ,aE (by lia),_,rfl,by rw[JC,h1];rfl,ad,(h3.trans k).upd_new hD _,λj y hy=>?_⟩;obtain z|z:=Lx j ys.length
 ·rw[Kl z]at hy;obtain⟨x',g1,g2⟩:=h4 j y hy;exact⟨x',g1,(g2.mono k).upd ZZ⟩
 ·rw[Ku z]at hy;have hj:j=i:=by
   have:=(Jk.mp hy).1;rw[Kk]at this;lia
  subst hj;rw[h1,M1]at hy;cases hy;exact⟨x,hx,TupAt.upd ⟨p,rfl,ad⟩ ZZ⟩
def sr(Me:St)(f:V->IW V)(e0:σ0=Ji::Me)(ha:H1 a=B' (.lst xs))(hD:H1 D=Ji)(L_:xs.length<=900)
  (he:∀x∈xs,∀(H':Hp) (R:VK),Same H1 H'->(∀p,H' p=Ji->R (.ref p) (upd H' p<|.tup<|f x))->te (B' x::Me) H' R)
  (hq:∀(ys:IW V) (H':Hp),Same H1 H'->H' D=B' (.lst ys)->ys.length=xs.length->(∀(j:Nat) (y:V),ys[j]? =B' y->∃x,xs[j]? =B' x/\TupAt H' (f x) y)->Q (.ref D) H'):gW (wO K a) D (eU 0) Ec te σ0 H1 Q:=by
 have na:a≠D:=aj ha hD;refine dE (K:=K) (a:=a) (xs:=xs) (pj Me H1 D xs f) ⟨Ji,e0,rfl,ad,ag hD _,λj y z=>by simp at z⟩ ?_ ?_ ?_
 ·rintro i σ ys H2 _ ⟨_,_,_,h2,h3,_⟩;exact⟨h2,SqL.of<|h3 _ _ ha⟩
 ·rintro i x σ ys H2 hx ⟨v0,rfl,h1,h2,h3,h4⟩;have hm:=Jx hx;have Ue:i < xs.length:=(Jk.mp hx).1;exact eP (he x hm _ _ h3 λp hp=>sq hD hx ⟨_,rfl,h1,h2,h3,h4⟩ hp<|by lia)
 ·rintro σ ys H2 ⟨_,_,h1,h2,h3,h4⟩;exact hq ys H2 h3 h2 h1 h4
end
end L2
namespace DP
open PySem
def mergedH{K:Type} [NV K] (xs more:IW (K×I_×IX)):IW (K×I_×IX):=more.foldl (λxs m=>PP xs m.1 m.2.1 m.2.2) xs
def qK{K:Type} [NV K] (xs:IW (K×I_×IX))(k:K)(a:I_)(v:IX):(PP xs k a v).length<=xs.length+1:=by
 cases e:QH xs k with
 |none=>rw[Wd e,JC];exact Jh _
 |some p=>rw[storedH_old e,Jc];exact OR _
theorem j9{K:Type} [NV K]:∀(more xs:IW (K×I_×IX)),(mergedH xs more).length<=xs.length+more.length
 |[],xs=>Jh _
 |m::more,xs=>by
  have h1:=j9 more<|PP xs m.1 m.2.1 m.2.2;have h2:=qK xs m.1 m.2.1 m.2.2;have e:mergedH xs (m::more)=mergedH (PP xs m.1 m.2.1 m.2.2) more:=rfl;rw[e,J4];lia
def pk{K:Type} [NV K] (more:IW (K×I_×IX))(i:Nat)(m:K×I_×IX)(h:more[i]? =B' m):mergedH [] (more.take<|i+1)=PP (mergedH []<|more.take i) m.1 m.2.1 m.2.2:=by
 unfold mergedH;rw[KQ,h,Vx];rfl
section
variable {prog:Js}{w:JV}{K:Type}[NV K]{knd:KeyKind prog w K}{A:J8}{E:IX->Ja->Prop}{s:Ja}
def iw(x:(L0 knd).is h k a)(e:∀o,h.get? a=B' o->h'.get? a=B' o):(L0 knd).is h' k a:=by
 obtain⟨o,items,n,h1,r⟩:=x;exact⟨o,items,n,e _ h1,r⟩
def su(hh:A.in1.handled=Ji)(hu:A.in1.units < MZ){h0:J6}(hlI:l≠I)(hdI:d≠I)(hdl:d≠l)(hn:items.size<=sizeLine)(hm:more.length=items.size)
  (QV:∀m∈more,(L0 knd).is h0 m.1 m.2.1/\m.2.1≠d/\m.2.1≠I)
  (WQ:∀(i:Nat) (v:IX),items[i]? =B' v->∃kv t,more[i]? =B' kv/\v=.ref t/\t≠d/\t≠I/\h0.IsTuple t #[.ref kv.2.1,kv.2.2]) {R:UG->Ja->Prop}:
  ∀(m i:Nat) (s:Ja) (tk0:Tok),items.size - i=m->i<=items.size->s.heap.IsListIter I l i->s.heap.IsList l items->s.heap.DictOfH (L0 knd) d (mergedH []<|more.take i)->
   (∀b o,b≠d->b≠I->h0.get? b=B' o->s.heap.get? b=B' o)->
   (∀h' tk,h'.DictOfH (L0 knd) d (mergedH [] more)->(∀b o,b≠d->b≠I->h0.get? b=B' o->h'.get? b=B' o)->R (.ok<|.ret .none) {s with heap:=h',toks:=tk})->
   codeAny (JS prog w) A (.builtin "dict.update.loop" ⟨[.ref d,.ref I,.int (i:Int) tk0,.none],[]⟩) R s:=by
 have W:=QX (prog:=prog) (w:=w) (A:=A.in1) hh I l hlI items;have mem:∀i:Nat,∀x∈mergedH [] (more.take i),∃m∈more,x.1=m.1/\x.2.1=m.2.1:=by
  have gen:∀(ms xs:IW (IW K×I_×IX)),∀x∈mergedH xs ms,(∃m∈xs,x.1=m.1/\x.2.1=m.2.1)\/∃m∈ms,x.1=m.1/\x.2.1=m.2.1:=by
   intro ms
   induction ms with
   |nil=>exact λxs x hx=>.inl ⟨x,hx,rfl,rfl⟩
   |cons m ms ih=>
    intro xs x hx;obtain⟨y,hy,e1,e2⟩|⟨y,hy,e⟩:=ih (PP xs m.1 m.2.1 m.2.2) x hx
    ·cases q:QH xs m.1 with
     |none=>
      rw[Wd q]at hy;obtain hy|hy:=JI.mp hy
      ·exact .inl ⟨y,hy,e1,e2⟩
      ·rw[Jp]at hy;subst hy;exact .inr ⟨m,JG,e1,e2⟩
     |some p=>
      rw[storedH_old q]at hy;obtain⟨z,hz,rfl⟩:=Ke.mp hy;refine .inl ⟨z,hz,?_,?_⟩
      ·rw[e1];unfold putAt;split<;>rfl
      ·rw[e2];unfold putAt;split<;>rfl
    ·exact .inr ⟨y,Jy _ hy,e⟩
  intro i x hx;obtain⟨_,h,_⟩|⟨m,h,e⟩:=gen _ _ x hx
  ·exact nomatch h
  ·exact⟨m,NT h,e⟩
 intro m
 induction m with
 |zero=>
  intro i s tk0 hm0 hi Yy Mz Um TV hR;have e:i=items.size:=by lia
  subst e;refine LK kJ ?_;rw[Ll fJ _];refine IY (m:=Pp<|.ref I)<|W.done s _ _ ⟨Yy,Mz⟩ λh' tk hk=>?_;have Pk:∀b o,b≠I->s.heap.get? b=B' o->h'.get? b=B' o:=λb o hb e=>hk b o (by simpa using hb) e;refine IY (m:=RJ d [])<|Jl<|Jl ?_;refine hR h' tk ?_ λb o h1 h2 e=>Pk b o h2<|TV b o h1 h2 e;have T5:=mem items.size;rw[JY<|by lia]at Um T5;obtain⟨o,es,ep,ho,a1,a2,a3,a4,a5⟩:=Um;refine⟨o,es,ep,Pk d o hdI ho,a1,a2,a3,λx hx=>?_,a5⟩;obtain⟨m,hm',e1,e2⟩:=T5 x hx;refine iw (a4 x hx) λo ho=>Pk _ o ?_ ho;rw[e2];exact(QV m hm').2.2
 |succ m ih=>
  intro i s tk0 hm0 hi Yy Mz Um TV hR;have NJ:i < items.size:=by lia
  refine LK kJ ?_;rw[Ll fJ _];refine IY (m:=Pp<|.ref I)<|W.item i s _ _ NJ ⟨Yy,Mz⟩ λv h' tk hv LD hk=>?_;have Pk:∀b o,b≠I->s.heap.get? b=B' o->h'.get? b=B' o:=λb o hb e=>hk b o (by simpa using hb) e;obtain⟨kv,t,hki,rfl,htd,htI,ht⟩:=WQ i v hv;have hkm:=QV kv<|Jx hki;have ht':h'.IsTuple t #[.ref kv.2.1,kv.2.2]:=let ⟨o,ho,r⟩:=ht;⟨o,Pk t o htI<|TV t o htd htI ho,r⟩
  have hkk:(L0 knd).is h' kv.1 kv.2.1:=iw hkm.1 λo ho=>Pk _ o hkm.2.2<|TV _ o hkm.2.1 hkm.2.2 ho;have abl:h'.DictOfH (L0 knd) d (mergedH []<|more.take i):=by
   obtain⟨o,es,ep,ho,a1,a2,a3,a4,a5⟩:=Um;refine⟨o,es,ep,Pk d o hdI ho,a1,a2,a3,λx hx=>?_,a5⟩;obtain⟨m',hm',e1,e2⟩:=mem i x hx;refine iw (a4 x hx) λo ho=>Pk _ o ?_ ho;rw[e2];exact(QV m' hm').2.2
  have hz:(mergedH []<|more.take i).length<=sizeLine:=by
   have:=j9 (more.take i) [];rw[J9]at this;simp only [Lk]at this;lia
  refine IY<|KN<|IY<|N_<|lO (s:={s with heap:=h',toks:=tk}) ht' ?_;dsimp only;refine KN<|wpAny_dictSet_heap (knd:=L0 knd) (s:={s with heap:=h',toks:=tk}) (hsz:=hz) hu hkk abl λh2 Wp sb=>?_;have e2:=pk more i kv hki;refine Jl ⟨MK fJ _,?_⟩;refine ih (i+1) {s with heap:=h2,toks:=tk+(L0 knd).draws kv.1} 0 (by lia) NJ ?_ ?_ (by rw[e2];exact Wp) (λb o h1 hbI e=>(sb.2 b h1).trans<|Pk b o hbI<|TV b o h1 hbI e) λh3 tk3 b1 b2=>hR h3 tk3 b1 b2
  ·exact LD.1.at λo e=>(sb.2 I λz=>hdI z.symm).trans e
  ·exact LD.2.at λo e=>(sb.2 l λz=>hdl z.symm).trans e
def call_pairsH(hh:A.handled=Ji)(hu:A.units+2 < MZ){Q:IX->Ja->Prop}(hl:s.heap.get? l=B' ol)(hc:ol.cls=.type "list")(Ze:ol.data=.seq items nl)(hdd:ol.dict=Ji)(hn:items.size<=sizeLine)(hm:more.length=items.size)
  (QV:∀m∈more,(L0 knd).is s.heap m.1 m.2.1)
  (WQ:∀(i:Nat) (v:IX),items[i]? =B' v->∃kv t,more[i]? =B' kv/\v=.ref t/\s.heap.IsTuple t #[.ref kv.2.1,kv.2.2])
  (h:∀(h':J6) (tk:Nat),h'.DictOfH (L0 knd) s.heap.objs.size (mergedH [] more)->(∀b o,s.heap.get? b=B' o->h'.get? b=B' o)->Q (.ref s.heap.objs.size) {s with heap:=h',toks:=tk}):
  wpAny (JS prog w) A (call (.type "dict") [.ref l]) Q E s:=by
 refine W8 (Q₁:=λobj s₁=>obj=.ref s.heap.objs.size/\s₁={s with heap:=s.heap.push {cls:=.type "dict",data:=.dict #[]}}) VZ (To _) Vi (VP _ ⟨rfl,rfl⟩) ?_;rintro obj s₁ ⟨rfl,rfl⟩;have Wo:(s.heap.push {cls:=.type "dict",data:=.dict #[]}).DictOfH (L0 knd) s.heap.objs.size []:=aaZ s.heap;have SI:=Jb {cls:=.type "dict",data:=.dict #[]} hl;have NJ:l < s.heap.objs.size:=Jv hl;have hTl:Ui {s with heap:=s.heap.push {cls:=.type "dict",data:=.dict #[]}} (.ref l) "list":=⟨_,SI,hc⟩;exists Wo.typeIs,UI _ _;unfold Builtin.«dict.__init__»;refine IY ?_;unfold RI;refine IY<|P6 Wo.typeIs ?_;show wpAny _ _ (pure (s.heap.objs.size,[Kb l])) _ _ _
 refine Jl ?_;show wpAny _ _ (Oc "dict.__init__" s.heap.objs.size (.ref l) [] .none) _ _ _
 unfold Oc;refine IY<|PN hTl ?_;rw[JL<|by decide];refine IY<|nC SI hc Ze hdd (by simpa using hh) λh1 tk1 k1=>?_;have YD:=k1 _ _ SI;have abw:h1.IsList l items:=⟨_,YD,hc,nl,Ze⟩;simp only [Q8,Ms];refine IY<|MV<|IY<|NN (s:={s with heap:=h1,toks:=tk1}) abw<|Jl ?_;exists MK fJ _;have Y4:=JX s.heap (o:={cls:=.type "dict",data:=.dict #[]}) rfl;have ZF:=k1 _ _ Y4;have ade:l < h1.objs.size:=Jv YD;have aby:s.heap.objs.size < h1.objs.size:=Jv ZF;have ZY:(h1.push {cls:=.type "list_iterator",data:=.fields #[.ref l,.int 0 0]}).DictOfH (L0 knd) s.heap.objs.size []:=by
  obtain⟨o,es,ep,ho,a1,a2,a3,a4,a5⟩:=Wo;exact⟨o,es,ep,Jb _<|k1 _ _ ho,a1,a2,a3,(λx hx=>nomatch hx),a5⟩
 have YE:(h1.push {cls:=.type "list_iterator",data:=.fields #[.ref l,.int 0 0]}).get? h1.objs.size=B' {cls:=.type "list_iterator",data:=.fields #[.ref l,.int 0 0]}:=JX _ rfl;refine su (knd:=knd) (by simpa using hh) hu (h0:=h1.push {cls:=.type "list_iterator",data:=.fields #[.ref l,.int 0 0]}) (I:=h1.objs.size) (l:=l) (items:=items) (more:=more) (JO ade) (JO aby) (NS NJ) hn hm (λm hmm=>?_) (λi v hv=>?_) (items.size - 0) 0 _ 0 rfl (JQ _) ⟨_,YE,rfl,rfl⟩ (abw.push _) (by rw[NC];exact ZY) (λb o _ _ e=>e) λh' tk b1 b2=>?_
 ·have q:=QV m hmm;obtain⟨o,_,_,ho,_⟩:=(show IsTupleKey knd s.heap m.1 m.2.1 from q);have ho1:=k1 _ _<|Jb {cls:=.type "dict",data:=.dict #[]} ho;exact⟨iw q λo e=>Jb _<|k1 _ _<|Jb _ e,JO<|Jv ho,JO<|Jv ho1⟩
 ·obtain⟨kv,t,a1,a3,a4⟩:=WQ i v hv;obtain⟨o,ho,r⟩:=a4;have ho1:=k1 _ _<|Jb {cls:=.type "dict",data:=.dict #[]} ho;exact⟨kv,t,a1,a3,JO<|Jv ho,JO<|Jv ho1,o,Jb _ ho1,r⟩
 ·refine⟨rfl,h h' tk b1 λb o e=>?_⟩;have e1:=k1 _ _<|Jb {cls:=.type "dict",data:=.dict #[]} e;exact b2 b o (JO<|Jv e) (JO<|Jv e1)<|Jb _ e1
end
end DP
namespace L2
open PySem PySem.Spec PyProof.Rows
def dU(kvs:IW (IW bz×V)):IW (IW bz×V):=kvs.foldl (λd kv=>b_ d kv.1 kv.2) []
theorem nP(ok:HOk P w H h):∀(ts cl:IW I_) (kvs:IW (IW bz×V)),ts.length=kvs.length->cl.length=kvs.length->(∀(i:Nat) (t c:I_) (kv:IW bz×V),ts[i]? =B' t->cl[i]? =B' c->kvs[i]? =B' kv->H t=B' (.tup [.ref c,kv.2])/\H c=B' (.tup<|kv.1.map kV))->
  ∃more:IW (IW bz×I_×IX),KT H kvs more/\more.length=ts.length/\∀(i:Nat) (t:I_),ts[i]? =B' t->∃kv,more[i]? =B' kv/\h.IsTuple t #[.ref kv.2.1,kv.2.2]
 |[],[],[],_,_,_=>⟨[],.nil,rfl,λi t e=>by simp at e⟩
 |[],_,_::_,e,_,_=>by simp at e
 |_::_,_,[],e,_,_=>by simp at e
 |_,[],_::_,_,e,_=>by simp at e
 |[],_::_,[],_,e,_=>by simp at e
 |t::ts,c::cl,kv::kvs,e,e',hp=>by
  obtain⟨more,a1,a2,a4⟩:=nP ok ts cl kvs (by simpa using e) (by simpa using e') λi t' c' kv' e1 e2 e3=>hp (i+1) t' c' kv' (by simpa using e1) (by simpa using e2) (by simpa using e3);obtain⟨g1,g2⟩:=hp 0 t c kv rfl rfl rfl;obtain⟨_,Lj,r,o,h1,h2,n,h3⟩:=(show ObjOk P w H h t (.tup [.ref c,kv.2])from ok t _ g1);obtain⟨u,v,rfl,ru,rv⟩:=r.two;cases(show u=Kb c from ru);refine⟨(kv.1,c,v)::more,.cons ⟨rfl,g2,rv⟩ a1,by simp [a2],λi t' e1=>?_⟩;cases i with
  |zero=>
   have e':t=t':=by simpa using e1
   subst e';exact⟨(kv.1,c,v),rfl,o,h1,h2,n,h3⟩
  |succ i=>
   obtain⟨kv',b1,b3⟩:=a4 i t' (by simpa using e1);exact⟨kv',by simpa using b1,b3⟩
theorem yE:∀kvs more d xs,KT H d xs->KT H kvs more->KT H (kvs.foldl (λd kv=>b_ d kv.1 kv.2) d) (DP.mergedH xs more)
 |_,_,_,_,r,.nil=>r
 |_,_,d,xs,r,@Paired.cons _ _ _ p q ps qs hq t=>by
  have e:=KT.put r p.1 hq.2.1 hq.2.2;rw[show PP xs p.1 q.2.1 q.2.2=PP xs q.1 q.2.1 q.2.2 by rw[hq.1]]at e;exact yE ps qs _ _ e t
theorem um(ok:HOk P w H h):∀{kvs:IW (IW bz×V)} {more:IW (IW bz×I_×IX)},KT H kvs more->∀m∈more,(L0<|bn P w).is h m.1 m.2.1
 |_,_,.nil,m,hm=>nomatch hm
 |_,_,@Paired.cons _ _ _ p q ps qs hq t,m,hm=>by
  obtain e|hm:=J2.mp hm
  ·subst e;exact gU ok (by rw[<-hq.1];exact hq.2.1)
  ·exact um ok t m hm
inductive CK (xs:IW V)(H:Hp)(Q:VK):Prop
 |mk (l:I_)(ts cl:IW I_)(kvs:IW (IW bz×V))(hx:xs=[.ref l])(h:H l=B' (.lst<|ts.map V.ref))(hl:ts.length=kvs.length)(VH:cl.length=kvs.length)(hp:∀(i:Nat) (t c:I_) (kv:IW bz×V),ts[i]? =B' t->cl[i]? =B' c->kvs[i]? =B' kv->H t=B' (.tup [.ref c,kv.2])/\H c=B' (.tup<|kv.1.map kV)) (z:kvs.length<=900)
  (q:∀d,H d=Ji->Q (.ref d) (upd H d<|.dT<|dU kvs)):CK xs H Q
theorem h_:∀(kvs d:IW (IW bz×V)),(kvs.foldl (λd kv=>b_ d kv.1 kv.2) d).length<=d.length+kvs.length
 |[],d=>Jh _
 |kv::kvs,d=>by
  have h1:=h_ kvs<|b_ d kv.1 kv.2;have h2:=cG d kv.1 kv.2;rw[J4];show(kvs.foldl (λd kv=>b_ d kv.1 kv.2)<|b_ d kv.1 kv.2).length<=_
  lia
def sw(hc:X.calm=Je)(hu:X.A.units+2 < MZ):dY X (.type "dict") CK:=by
 intro Jf s σ H xs us Q I r h;obtain⟨l,ts,cl,kvs,rfl,hH,hl,VH,hp,z,q⟩:=h;obtain⟨u,rfl,ru⟩:=r.one;cases ru;obtain⟨z1,Lj,n,rv,L_,e⟩:=I.lstM hH;obtain⟨more,a1,a2,a4⟩:=nP I.hok ts cl kvs hl VH hp;have ag6:Lj.length=ts.length:=by
  rw[<-L_,Jc]
 refine DP.call_pairsH (knd:=bn X.prog X.w) (more:=more) (I.ok.hd hc) hu e rfl rfl rfl (by rw[JH];lia) (by rw[JH];lia) (um I.hok a1) (λi v hv=>?_) λh' tk hd hk=>?_
 ·have ZT:Lj[i]? =B' v:=by simpa using hv
  have hi:i < ts.length:=by
   have:=(Jk.mp ZT).1;lia
  have ht:ts[i]? =B' ts[i]:=Jm hi;obtain⟨kv,b1,b3⟩:=a4 i _ ht;have hx:(ts.map V.ref)[i]? =B' (.ref ts[i]):=by rw[JW,ht];rfl
  obtain⟨v',hv2,rv'⟩:=rv.get hx;rw[ZT]at hv2;cases hv2;cases rv';exact⟨kv,_,b1,rfl,b3⟩
 ·obtain⟨ob,es,ep,ho,c1,c2,c3,c4,c5⟩:=hd;have lim:(dU kvs).length<=sizeLine:=by
   have:=h_ kvs [];rw[Lk]at this;exact K_ (aE<|by unfold dU;lia)
  have fr:H s.heap.objs.size=none:=I.hok.fresh<|Jh _;refine⟨.ref s.heap.objs.size,_,I.laid (a:=s.heap.objs.size) (o:=.dT<|dU kvs) (t':=tk) (λb q hq=>hk b q hq) (Jh _) ?_,rfl,q _ fr⟩;refine⟨lim,LQ.mpr<|Ma<|JO I.big,_,(yE _ _ _ _ .nil a1).keeps λb ys eb=>?_,ob,es,ep,ho,c1,c2,c3,c5⟩;rw[ao<|aj eb fr];exact eb
theorem qL:∀(kvs d:IW (IW bz×V)) (k:IW bz),(cx (kvs.foldl (λd kv=>b_ d kv.1 kv.2) d) k).isSome=((cx d k).isSome || kvs.any λkv=>decide (k=kv.1))
 |[],d,k=>by simp
 |kv::kvs,d,k=>by
  show(cx (kvs.foldl (λd kv=>b_ d kv.1 kv.2)<|b_ d kv.1 kv.2) k).isSome=_
  rw[qL kvs _ k,kZ];by_cases e:k=kv.1
  ·subst e;simp
  ·rw[JK e];simp [e]
end L2
namespace DP
open PySem
section
variable {prog:Js}{w:JV}{K:Type}[NV K]{knd:HeapKind prog w K}{A:J8}{s:Ja}
def wm{E:IX->Ja->Prop}{v:IX}{Q:IX->Ja->Prop}(hu:knd.room A)(QV:knd.is s.heap k a)(hm:s.heap.DictOfH knd d xs)(hsz:xs.length<=sizeLine)
  (h1:∀p,QH xs k=B' p->Q p.2 {s with toks:=s.toks+knd.draws k})
  (h2:QH xs k=Ji->∀h',h'.DictOfH knd d (PP xs k a v)->NQ d s.heap h'->Q v {s with heap:=h',toks:=s.toks+knd.draws k}):wpAny (JS prog w) A (Tc d (.ref a) v) Q E s:=by
 obtain⟨ob,es,ep,g1,g2,g3,g4,g5,g6⟩:=hm;unfold Tc;refine KN<|IY<|knd.pyHash hu QV<|IY<|wpAny_dictFind_heap (s:={s with toks:=s.toks+knd.draws k}) hu QV g1 g3 g4 g5 g6 (λno=>?_) λj p hj=>?_
 ·have e0:=atKey_none_of_get no;have hnk:k∉xs.map (·.1):=not_mem_keys_of_get no;have st:=Wd e0 a v;refine IY<|MV<|IY<|wpAny_updateDictKeys (hz:=by rw[size_of_entries g4];exact hsz) (s:={s with toks:=s.toks+knd.draws k}) g1 g3<|Jl<|h2 e0 _ ?_ (Mh ..);refine⟨_,_,ep+1,Ld _ g1<|Obj.isFreed_of_dict<|Ti g3 _,g2.mapDictKeys _,Ti g3 _,?_,λx hx=>?_,?_⟩
  ·rw[st];simp [g4,entryOfKey]
  ·rw[st]at hx;obtain z|z:=JI.mp hx
   ·exact knd.keeps (g5 x z) g1 g3 (Mh ..)
   ·rw[Jp.mp z];exact knd.keeps QV g1 g3 (Mh ..)
  ·rw[st,Ko,P1];exact⟨g6,by simp,λx hx y hy z=>by
    have hy':y=k:=by simpa using hy
    subst z hy';exact hnk hx⟩
 ·refine IY<|wpAny_dictEntries (s:={s with toks:=s.toks+knd.draws k}) g1 g3 ?_;rw[entry_at g4 j,hj];exact IY<|MV<|Jl<|h1 p<|atKey_of_get g6 hj
def meetsH_setd(hd:(d == MN)=Jg)(v:IX):MeetsIn prog w (Builtin.«dict.setdefault» ⟨[.ref d,.ref a,v],[]⟩) (λA R s=>knd.room A.in1/\∃k xs,knd.is s.heap k a/\s.heap.DictOfH knd d xs/\xs.length<=sizeLine/\
  (∀p,QH xs k=B' p->R (.ok<|.ret p.2) {s with toks:=s.toks+knd.draws k})/\
  (QH xs k=Ji->∀h',h'.DictOfH knd d (PP xs k a v)->NQ d s.heap h'->R (.ok<|.ret v) {s with heap:=h',toks:=s.toks+knd.draws k})):=
 .of_wp λA R s ⟨hu,k,xs,QV,hm,hz,h1,h2⟩=>by
  unfold Builtin.«dict.setdefault» Xh;refine IY<|IY<|P6 hm.typeIs ?_;show wpAny _ _ (pure (d,Kb a,B' v)) _ _ s
  refine Jl ?_;show wpAny _ _ (if(d == MN)=Je then _ else(Tc d (.ref a) v >>=_)) _ _ s
  rw[hd,JK JR];exact IY<|wm hu QV hm hz (λp hp=>Jl ⟨_,rfl,h1 p hp⟩) λhn h' hm' VG=>Jl ⟨v,rfl,h2 hn h' hm' VG⟩
end
end DP
namespace L2
open PySem PySem.Spec PyProof.Rows
def CM(H:Hp)(a:I_)(y z:V)(Q:VK):Prop:=(∃v,DGet H a y (B' v)/\Q v H)\/(DGet H a y Ji/\∃H',DPut H a y z H'/\Q z H')
def GE(e:H a=B' (.dK kvs))(g:Rd H a (.dK abh)):abh=kvs:=by
 obtain g|⟨_,g⟩:=g
 ·rw[e]at g;cases g;rfl
 ·rw[e]at g;cases g
def GF(e:H a=B' (.dT kvs))(g:Rd H a (.dT abh)):abh=kvs:=by
 obtain g|⟨_,g⟩:=g
 ·rw[e]at g;cases g;rfl
 ·rw[e]at g;cases g
def EE(hu:A.units+1 < MZ)(I:Inv X Jf σ H s)(g:CM H a y z Q)(ry:RelV y u)(rz:RelV z r)(h:∀v H' w' s',Inv X Jf σ H' s'->RelV v w'->Q v H'->R w' s'):
  wpAny (JS X.prog X.w) A (call (.builtin "dict.setdefault") [.ref a,u,r]) R E s:=by
 obtain⟨v,⟨kvs,k,e,ey,l⟩|⟨kvs,k,b,e,ey,eb,l⟩,q⟩|⟨⟨kvs,k,e,ey,l⟩|⟨kvs,k,b,e,ey,eb,l⟩,H',p,q⟩:=g
 ·subst ey;obtain⟨zz,hd,vs,Rz,dd⟩:=jR I.hok e;obtain⟨w',hw,ZP⟩:=RelO.some_of (v:=v) (o:=Rm vs k) (by rw[l];exact Rz.val k);refine Sl Mu dd.typeIs Nc (MX _ _ _) (T8 (bn X.prog X.w) a (iS ry) hd r) ⟨vs,dd,by rw[<-Rz.length];exact zz,λv2 hv2=>?_,λhn=>?_⟩
  ·rw[hw]at hv2;cases hv2;exact h v H w' _ (I.tok _) ZP q
  ·rw[hw]at hn;cases hn
 ·subst ey;cases(show u=Kb b from ry);obtain⟨zz,hd,xs,Rz,dd⟩:=jS I.hok e;obtain⟨w',hw,ZP⟩:=RelO.some_of (v:=v) (o:=(QH xs k).map (·.2)) (by rw[l];exact Rz.val k);refine Sl Mu dd.typeIs Nc (MX _ _ _) (DP.meetsH_setd (knd:=L0<|bn X.prog X.w) hd r) ⟨NA hu,k,xs,gU I.hok eb,dd,by rw[<-Paired.length Rz];exact zz,λp hp=>?_,λhn=>?_⟩
  ·rw[hp]at hw;cases hw;exact h v H _ _ (I.tok _) ZP q
  ·rw[hn]at hw;cases hw
 ·subst ey;obtain⟨zz,hd,vs,Rz,dd⟩:=jR I.hok e;have hn:Rm vs k=none:=RelO.none_of (by rw[l];exact Rz.val k);obtain⟨acT,k2,e2,ey2,l2,eH⟩|⟨acT,k2,b2,e2,ey2,_⟩:=p
  ·obtain rfl:=GE e2 e;obtain rfl:k=k2:=by cases k<;>cases k2<;>cases ey2<;>rfl
   subst eH;have hl:(b_ kvs k z).length<=sizeLine:=by have:=cG kvs k z;lia
   refine Sl Mu dd.typeIs Nc (MX _ _ _) (T8 (bn X.prog X.w) a (iS ry) hd r) ⟨vs,dd,by rw[<-Rz.length];exact zz,λv2 hv2=>(by rw[hn]at hv2;cases hv2),λ_ h' dd' hs=>?_⟩;have he:∃q,h'.get? a=B' q:=let ⟨q,_,_,hq,_⟩:=dd';⟨q,hq⟩
   exact h z _ r _ (iT I (by rw[e2];exact MA) hs he<|oE hl hd (Rz.put k rz) dd') rz q
  ·cases k<;>cases ey2
 ·subst ey;cases(show u=Kb b from ry);obtain⟨zz,hd,xs,Rz,dd⟩:=jS I.hok e;have hn:(QH xs k).map (·.2)=none:=RelO.none_of (by rw[l];exact Rz.val k);obtain⟨acT,k2,e2,ey2,l2,eH⟩|⟨acT,k2,b2,e2,ey2,eb2,l2,eH⟩:=p
  ·cases k2<;>cases ey2
  ·obtain rfl:=GF e2 e;cases ey2;have ek:k2=k:=by
    rw[eb]at eb2;have e3:k.map kV=k2.map kV:=HO.tup.inj<|JN eb2;exact(UR (λx y hxy=>by cases x<;>cases y<;>cases hxy<;>rfl)|>.mp e3).symm
   subst ek;subst eH;have hl:(b_ kvs k2 z).length<=sizeLine:=by have:=cG kvs k2 z;lia
   refine Sl Mu dd.typeIs Nc (MX _ _ _) (DP.meetsH_setd (knd:=L0<|bn X.prog X.w) hd r) ⟨NA hu,k2,xs,gU I.hok eb,dd,by rw[<-Paired.length Rz];exact zz,λp hp=>(by rw[hp]at hn;cases hn),λ_ h' dd' hs=>?_⟩;obtain⟨q2,es,ep,hq,g2,g3,g4,_,g5⟩:=dd';have new:ObjOk X.prog X.w (upd H a<|.dT<|b_ kvs k2 z) h' a (.dT<|b_ kvs k2 z):=by
    refine⟨hl,hd,_,(Rz.put k2 eb rz).keeps λc ys ec=>?_,q2,es,ep,hq,g2,g3,g4,g5⟩;rw[ao<|wI ec e2 λz=>nomatch z];exact ec
   exact h z _ r _ (iT I (by rw[e2];exact MA) hs ⟨q2,hq⟩ new) rz q
def EF(td ty tx:TE):TE:=λσ H Q=>td σ H λx H1=>∃a,x=.ref a/\IF H1 a/\ty σ H1 λy H2=>tx σ H2 λz H3=>CM H3 a y z Q
def yF(hu:X.A.units+1 < MZ)(ho:PE X o td)(he:PE X e ty)(hf:PE X f tx)(m:M2 X o "setdefault" Uo e f Qp):PE X (.Call (.Attribute o "setdefault" Uo) [e,f] [] Qp) (EF td ty tx):=by
 intro Jf s σ H Q I h;refine wpAny_Call_method m.base m.few m.line PySem.F.plainAttrs_dict Mu PySem.F.type_dict_setdefault<|bV (ho Jf s σ H _ I h) λu s1 ⟨x,H1,I1,rx,a,ex,d,q1⟩=>?_;subst ex;obtain rfl:u=Kb a:=rx;obtain⟨t1,t2,_⟩:=D5 I1 d;exists t1,t2;rw[m.trees];refine P0 rfl<|OP<|Pw<|bV (he Jf s1 σ H1 _ I1 q1) λiv s2 ⟨y,H2,I2,ry,q2⟩=>Pw<|bV (hf Jf s2 σ H2 _ I2 q2) λfv s3 ⟨z,H3,I3,rz,g⟩=>Rw ?_;exact EE hu I3 g ry rz λv H' w' s4 I4 ZP q=>⟨v,H',I4,ZP,q⟩
def yG(hk:PE X k tk)(hv:PE X v tv):PE X (.Dict [B' k] [v] pos) (pY [(tk,tv)]):=tG (lb hk hv tF) rfl rfl (Se _ _) (by show 1<=15;decide)
def qM(hk:PE X k tk)(hv:PE X v tv)(Pk:PE X k' Y_)(ZT:PE X v' tv'):PE X (.Dict [B' k,B' k'] [v,v'] pos) (pY [(tk,tv),(Y_,tv')]):=tG (lb hk hv<|lb Pk ZT tF) rfl rfl (Se _ _) (by show 2<=15;decide)
def fb(a:sc.kind=.function:=by rfl)(b:sc.isCoroutine=false:=by rfl)(c:sc.isGenerator=false:=by rfl)(d:N.Nodup:=by decide+kernel)(e:N.take Q.length=Q:=by rfl)
  (f:∀x∈Q,sc.names.lookup x=B' .local\/sc.names.lookup x=B' .cell:=by decide+kernel) (g:∀y∈sc.names,y.2≠.free:=by decide+kernel):aH N Q sc:=⟨a,b,c,d,e,f,g⟩
def nD(l:IW Str)(h:l.Nodup:=by decide+kernel):l.Nodup:=h
def cS{NY:IW Str}{idx:IW (Jd Nat)}(a:closureFor scope X.env=pure cl:=by with_unfolding_all rfl)
  (b:AllIn (λy=>X.env.cells.lookup y) cl:=by with_unfolding_all first|exact trivial|exact⟨rfl,trivial⟩|exact⟨rfl,rfl,trivial⟩|exact⟨rfl,rfl,rfl,trivial⟩|exact⟨rfl,rfl,rfl,rfl,trivial⟩)
  (c:∀n,((OA scope X.env).names.all λq=>!(decide (q.2=.cell) || decide (q.2=.free)) || ((KS n scope.names cl).lookup q.1).isSome)=true:=by exact λ_=>by rfl)
  (d:((NY.zip idx).all λp=>match p.2 with
  |none=>Je
  |some i=>decide (X.N[i]? =B' p.1)&&(decide (X.env.kindOf p.1=B' .cell) || decide (X.env.kindOf p.1=B' .free))&&(decide ((OA scope X.env).names.lookup p.1=B' .cell) || decide ((OA scope X.env).names.lookup p.1=B' .free))&&(scope.names.all λq=>!decide (q.2=.cell) || !decide (q.1=p.1)))=true:=by rfl)
  (e:idx.length=NY.length:=by rfl) (f:scope.kind=.function:=by rfl) (g:∀y∈scope.names,y.2=.local->scope.names.lookup y.1=B' .local:=by decide):CompSc X scope cl NY idx:=⟨a,b,c,d,e,f,g⟩
section
variable {K:IZ}{st:Lh}
def Fun.okA(F:Fun K x qual st f fd)(S:aH N ps (ap st))
  (h:∀MG A outer s H vs Q E,Room k (A.deeper<|J' qual (ap st) s.heap.objs.size f MG)->sp vs H Q E->
   ∃t,PSs (cq dh P w K mg base N qual (ap st) f MG A outer s H E).nox (cM st) t/\t {nx:=λ_ H'=>Q .non H',rt:=Q} (start N vs) H)
  (len:∀vs H Q E,sp vs H Q E->vs.length=ps.length:=by intro _ _ _ _ h;repeat (first|(cases h<;>subst_vars<;>rfl)|obtain⟨_,h⟩:=h)):FnOk P w K mg base dh (k+1) f fd ps sp:=F.ok S len h
def Fun.oXA(F:Fun K x qual st f fd)(S:aH N ps (ap st))
  (h:∀MG A outer s H vs Q E,Room k (A.deeper<|J' qual (ap st) s.heap.objs.size f MG)->sp vs H Q E->
   ∃t,PSs (cq (jU P w) P w K mg base N qual (ap st) f MG A outer s H E) (cM st) t/\t {nx:=λ_ H'=>Q .non H',rt:=Q} (start N vs) H)
  (len:∀vs H Q E,sp vs H Q E->vs.length=ps.length:=by intro _ _ _ _ h;repeat (first|(cases h<;>subst_vars<;>rfl)|obtain⟨_,h⟩:=h)):FnOk P w K mg base (jU P w) (k+1) f fd ps sp:=F.okX S len h
end
def Fe(P:Js)(w:JV)(K:IZ)(mg:Str->Jd IX)(base:J6)(k:Nat)(x:Str)(sp:Sp):Prop:=∃f fd ps,Fn P w K mg base k x f fd ps sp
def cu(G:Fe X.prog X.w X.K X.mg X.base j x sp)(hr:Room k X.A)(ha:PA X (e::es) t)(hjk:j<=k:=by lia)(hg:Gl X x:=by rfl)(YH:(x == ("__debug__":Str))=false:=by decide)
  (he:J3 (e::es) X.env=(Jg,MC e X.env)::J3 es X.env:=by rfl) (T4:(Nh pos<|J3 es X.env).any (·.1)=false:=by rfl):PE X (.Call (.Name x p) (e::es) [] pos) (pQ sp [] E0 t):=by
 obtain⟨_,_,_,G⟩:=G;exact F_ G hr hjk hg ha YH he T4
def eY{K:IZ}{st:Lh}(P:Js)(w:JV)(base:J6)(X:K.In h)(G:h.Ns Jo mg)(a:Jq K Jo x=B' (B'<|.ref f))(F:Fun K x qual st f fd)(b:Binds K fd ps [])(ok:FnOk P w K mg base dh k f fd ps sp):Fe P w K mg base k x sp:=⟨_,_,_,ok,b,F.kp,KF X G a⟩
end L2
namespace K54
open PySem L2 OD
def top(i:Nat):Lh:=PySem.Challenge.pw_oathduel_k54_refused_papers.main.body.getD i<|.Pass ⟨0,0,0,0⟩
abbrev yH:Lh:=top 46
abbrev sx:Lh:=top 48
abbrev sy:Lh:=top 49
abbrev yI:Lh:=top 50
abbrev sA:Lh:=top 51
abbrev yJ:Lh:=top 52
structure Ft (mg:Str->Jd IX):Prop where
 len:mg "len"=Ji
 range:mg "range"=Ji
 tuple:mg "tuple"=Ji
 list:mg "list"=Ji
 sorted:mg "sorted"=Ji
 sum:mg "sum"=Ji
def lW(K:IZ):Sp:=λvs H Q _=>∃(a:I_) (ns:IW Int) (k:Int),vs=[.ref a,.int k]/\SqL K H a (ns.map V.int)/\0<=k/\∀c:Int,Q (.int c) H
def iy:Sp:=λvs H Q _=>∃c k:Int,vs=[.int c,.int k]/\∀m:Int,0<=m->m < 2147483587->Q (.int m) H
def uo(K:IZ):Sp:=λvs H Q _=>∃(a b:I_) (ns zs:IW Int),vs=[.ref a,.ref b]/\SqL K H a (ns.map V.int)/\H b=B' (.lst<|zs.map V.int)/\zs.length<=10/\(∀z∈zs,0 < z/\z < 1073741824)/\
 ∀(p:I_) (rs:IW Int) (H':Hp),Same H H'->H' p=B' (.lst<|rs.map V.int)->rs.length=zs.length->(∀(i:Nat) (r z:Int),rs[i]? =B' r->zs[i]? =B' z->0<=r/\r < z)->Q (.ref p) H'
def qN(n:Int)(H:Hp)(Q:VK):Prop:=∀(p:I_) (ls:IW Int) (H':Hp),Same H H'->H' p=B' (.tup<|ls.map V.int)->iG n ls->Q (.ref p) H'
def yK:Sp:=λvs H Q _=>∃c n:Int,vs=[.int c,.int n]/\0<=n/\n < 1000/\qN n H Q
def uq:Sp:=λvs H Q _=>∃c k n:Int,vs=[.int c,.int k,.int n]/\0<=n/\n < 1000/\qN n H Q
def yL(K:IZ):Sp:=λvs H Q _=>∃(a:I_) (ns:IW Int) (most:Int),vs=[.ref a,.int most]/\SqL K H a (ns.map V.int)/\ns.length<=63/\0<=most/\most < 20/\
 ∀(p:I_) (t:Str) (cs:IW (IW Int)) (H':Hp),Same H H'->RD H' (tK t cs) (.ref p)->IQ most t cs->Q (.ref p) H'
section
variable {K:IZ}
def EG:aH ["_law_script","_law_k"] ["_law_script","_law_k"] (ap yH):=fb
def BB(F:Fun K "_law_cell_at" "_law_cell_at" yH f fd)(T:Ft mg):FnOk P w K mg base dh 1 f fd ["_law_script","_law_k"] (lW K):=by
 refine F.okA EG λMG A outer s H vs Q E hr h=>?_;obtain⟨a,ns,k,rfl,hS,h0,q⟩:=h;refine⟨_,(af (aR (aq mH (pv 1) (au bh rfl T.len Kt<|aa (pv 0) ae)<|aA _) (ai<|ax<|aG ay (pv 0) (pv 1) λ_ _=>rfl) az)
  (ai<|ax ah)),?_⟩
 exists _,rfl,_,rfl,.ref a,_,rfl,.inl ⟨_,hS,rfl⟩,_,_,rfl,rfl,_,rfl;refine fU (λc=>?_) λc=>?_
 ·have c':k < (((ns.map V.int).length:Nat):Int):=KM c;rw[Jc]at c';obtain⟨v,_,hv⟩:=pZ (ns:=ns) h0 c';exact⟨_,rfl,_,rfl,.inl ⟨a,_,k,.int v,rfl,rfl,hS,hv,q v⟩⟩
 ·exact q 0
def ur:aH ["_law_cell","_law_k","_law_number"] ["_law_cell","_law_k"] (ap sx):=fb
def yM(F:Fun K "_law_mixed" "_law_mixed" sx f fd):FnOk P w K mg base dh 1 f fd ["_law_cell","_law_k"] iy:=by
 have sc:=ur;refine F.okA ur λMG A outer s H vs Q E hr h=>?_;obtain⟨c,k,rfl,q⟩:=h;refine⟨_,(af (ar (i:=2) sc.nd rfl (JD rfl)<|aI bC (aI cJ (aI cJ (aI fS (aI bC (pv 0) ah) ah)<|aI fS (pv 1) ah) ah) ah)
  (af (ar (i:=2) sc.nd rfl (JD rfl)<|aI bC (aI fS (pv 2)<|pv 2) ah)
  (ai<|ax<|aI bC (aI fS (pv 2)<|pv 2) ah))),?_⟩
 exists _,rfl,_,_,rfl,rfl,(by show(0:Int) < 2147483647;decide),_,_,rfl,rfl,.inr ⟨by decide,by decide⟩,_,rfl,_,_,rfl,rfl,.inr ⟨by decide,by decide⟩,_,_,rfl,rfl,_,_,rfl,rfl,_,_,rfl,rfl,(by show(0:Int) < 2147483647;decide);have b1:=KY (c % 2147483647*48271+k*69621+11) (show(2147483647:Int)≠0 by decide);have b2:=KE (c % 2147483647*48271+k*69621+11) (show(0:Int) < 2147483647 by decide);generalize (c % 2147483647*48271+k*69621+11) % 2147483647=n at b1 b2;exists _,rfl,_,rfl,_,_,rfl,rfl,.inl ⟨by lia,by lia⟩,_,_,rfl,rfl,(by show(0:Int) < 2147483629;decide);have d1:=KY (n*n) (show(2147483629:Int)≠0 by decide);have d2:=KE (n*n) (show(0:Int) < 2147483629 by decide);generalize n*n % 2147483629=o at d1 d2;exists _,rfl,_,rfl,_,_,rfl,rfl,.inl ⟨by lia,by lia⟩,_,_,rfl,rfl,(by show(0:Int) < 2147483587;decide);exact q _ (KY _<|by decide) (KE _<|by decide)
def ut:aH ["_law_script","_law_sizes","_law_rest_here","_law_found","_law_k"] ["_law_script","_law_sizes"] (ap sy):=fb
def yN(F:Fun K "_law_first" "_law_first" sy f fd)(T:Ft mg)(Nq:Fe P w K mg base 1 "_law_cell_at" (lW K))(M':Fe P w K mg base 1 "_law_mixed" iy):
  FnOk P w K mg base dh 2 f fd ["_law_script","_law_sizes"] (uo K):=by
 have sc:=ut;refine F.okA ut λMG A outer s H vs Q E hr h=>?_;obtain⟨a,b,ns,zs,rfl,hS,hb,h10,hz,q⟩:=h;have hu:=hr.units;have hL:(zs.map V.int).length=zs.length:=Jc _;refine⟨_,(af (ar (i:=2) sc.nd rfl (JD rfl)<|aI c7 (cu Nq hr<|aa (pv 0)<|aa ah ae) ah)
  (af (ar (i:=3) sc.nd rfl (JD rfl)<|aP ae)
  (af (cZ KU rfl (dA rfl T.range<|aa (au bh rfl T.len Kt<|aa (pv 1) ae) ae) (aB (i:=4) sc.nd rfl<|JD rfl)
   (ai (aR (aq (aS hu) (aI bC (cu Nq hr<|aa (pv 0)<|aa ah ae) ah) ah<|aA _) (af (cy<|eN Kg Ki Kq bO (pv 3)<|aa (aI bC (pv 2)<|aG ay (pv 1) (pv 4) λ_ _=>rfl) ae)
    (ai<|ar (i:=2) sc.nd rfl (JD rfl)<|aI c7 (pv 2)<|aG ay (pv 1) (pv 4) λ_ _=>rfl)) (ai<|cy<|eN Kg Ki Kq bO (pv 3)<|aa (aI bC (cu M' hr<|aa (pv 2)<|aa (aI cJ (pv 4) ah) ae)<|aG ay (pv 1) (pv 4) λ_ _=>rfl) ae))))
  (ai<|ax<|pv 3)))),?_⟩
 refine⟨_,rfl,a,ns,0,rfl,hS,Lg 0,λc=>?_⟩;refine⟨_,_,rfl,rfl,⟨by decide,by decide⟩,JQ _,λp hp=>?_⟩;have hb1:upd H p (.lst []) b=B' (.lst<|zs.map V.int):=by rw[ao<|aj hb hp];exact hb
 refine⟨_,rfl,.ref b,_,rfl,.inl ⟨_,SqL.of hb1,rfl⟩,_,rfl,(by lia),(by lia),eh (lo:=0)
  (λi σ H2=>∃(rs:IW Int) (Me:Int) (kv:Jd V),σ=[B'<|.ref a,B'<|.ref b,B'<|.int Me,B'<|.ref p,kv]/\H2 p=B' (.lst<|rs.map V.int)/\Same H H2/\rs.length=i/\∀(j:Nat) (r z:Int),rs[j]? =B' r->zs[j]? =B' z->0<=r/\r < z)
  ⟨[],_,Ji,rfl,ad,ag hp _,rfl,λj r z h=>by cases h⟩ ?_ ?_⟩
 ·rintro i σ H2 hi ⟨rs,Me,kv,rfl,Y3,k2,hl,hr2⟩;have hi':i < zs.length:=by
   have:i < (zs.map V.int).length:=by simpa using hi
   lia
  obtain⟨z,hz1,hz2⟩:=pZ (ns:=zs) (i:=0+(i:Int)) (by lia) (by lia);have aeu:zs[i]? =B' z:=by simpa using hz1
  obtain⟨z0,z1⟩:=hz z<|Jx aeu;have hb2:=k2 _ _ hb;have hsz:(rs.map V.int).length < sizeLine:=by rw[Jc];exact aE (by lia)
  have step:∀x:Int,0<=x->x < z->∀(j:Nat) (r z':Int),(rs++[x])[j]? =B' r->zs[j]? =B' z'->0<=r/\r < z':=λx x0 x1 j r z' h1 h2=>by
   obtain h|h|h:=Nf j rs.length
   ·rw[Kl h]at h1;exact hr2 j r z' h1 h2
   ·subst h;rw[Ku<|Jh _,M1]at h1;have e1:x=r:=JN h1;rw[hl,aeu]at h2;have e2:z=z':=JN h2;rw[<-e1,<-e2];exact⟨x0,x1⟩
   ·rw[Lv<|by rw[JC,Kk];lia]at h1;cases h1
  refine⟨_,rfl,a,ns,0,rfl,k2.seq hS,Lg 0,λc2=>?_⟩;refine⟨_,_,rfl,rfl,(by show(0:Int) < 2;decide),.inl ⟨rfl,_,rfl,fU (λ_=>?_) λ_=>?_⟩⟩
  ·refine⟨_,rfl,.inl ⟨rfl,_,SqL.of Y3⟩,_,rfl,_,rfl,_,rfl,.inl ⟨b,_,_,.int z,rfl,rfl,SqL.of hb2,hz2,?_⟩⟩;exists _,_,rfl,rfl,z0,p,_,_,rfl,rfl,Y3,hsz;have npb:b≠p:=aj hb hp;refine⟨_,rfl,_,rfl,_,rfl,.inl ⟨b,_,_,.int z,rfl,rfl,SqL.of (by rw[ao npb];exact hb2),hz2,_,_,rfl,rfl,⟨z0,z1⟩,?_⟩⟩;exact⟨rs++[Me % z],_,_,rfl,by rw[ad,Ko];rfl,k2.upd_new hp _,by rw[JC,hl];rfl,step _ (KY _<|by lia)<|KE _ z0⟩
  ·refine⟨_,rfl,.inl ⟨rfl,_,SqL.of Y3⟩,_,rfl,_,rfl,_,_,rfl,rfl,_,_,rfl,λm hm0 VD=>?_⟩;refine⟨_,rfl,_,rfl,.inl ⟨b,_,_,.int z,rfl,rfl,SqL.of hb2,hz2,?_⟩⟩;exists _,_,rfl,rfl,z0,p,_,_,rfl,rfl,Y3,hsz;exact⟨rs++[m % z],_,_,rfl,by rw[ad,Ko];rfl,k2.upd_new hp _,by rw[JC,hl];rfl,step _ (KY _<|by lia)<|KE _ z0⟩
 ·rintro σ H2 ⟨rs,Me,kv,rfl,Y3,k2,hl,hr2⟩;refine⟨_,rfl,q p rs H2 k2 Y3 ?_ hr2⟩;rw[hl];simpa using hL
def lX{H:Hp}{d l D:I_}{n:Int}{ps:IW (Int×Int)}{ks:IW Int}{Q:VK}(hd:H d=B' (.dK<|dP ps))(hok:DOk n ps)(hn:n < 1000)(L_:ps.length<=60)(hl:H l=Ji)(hp:ks.Perm (ps.map (·.1)))(hD:upd H l (.lst<|ks.map V.int) D=Ji)(σ0:St)(e0:σ0=[Ji,B'<|.ref d])
  (hq:Q (.ref D) (upd (upd H l<|.lst<|ks.map V.int) D<|.lst<|(ks.map λk=>k*Ay ps k).map V.int)):
  gW (wO K l) D (eU 0) Ec (mw (rI CMul λi j=>.int<|i*j) (gn 0)<|Cu (gn 1)<|gn 0) σ0 (upd H l<|.lst<|ks.map V.int) Q:=by
 have nld:d≠l:=aj hd hl;have ZF:upd H l (.lst<|ks.map V.int) d=B' (.dK<|dP ps):=by rw[ao nld];exact hd
 have nD:d≠D:=aj ZF hD;have nl:l≠D:=aj ad hD;have hkl:ks.length=ps.length:=by rw[hp.length_eq,Jc]
 refine dE (K:=K) (a:=l) (xs:=ks.map V.int) (λi σ ys H2=>(∃v0,σ=[v0,B'<|.ref d])/\ys=((ks.take i).map λk=>V.int<|k*Ay ps k)/\H2=upd (upd H l<|.lst<|ks.map V.int) D (.lst ys))
  ⟨⟨Ji,e0⟩,rfl,rfl⟩ ?_ ?_ ?_
 ·rintro i σ ys H2 _ ⟨_,_,rfl⟩;exact⟨ad,SqL.of<|by rw[ao nl];exact ad⟩
 ·rintro i x σ ys H2 hx ⟨⟨v0,rfl⟩,VF,rfl⟩;obtain⟨k,rfl,hk⟩:=ft hx;have km:k∈ps.map (·.1):=hp.mem_iff.mp<|Jx hk;obtain⟨hlk,hsg⟩:=hok.look km;have Wp:upd (upd H l<|.lst<|ks.map V.int) D (.lst ys) d=B' (.dK<|dP ps):=by rw[ao nD];exact ZF
  have hv:DGet (upd (upd H l<|.lst<|ks.map V.int) D<|.lst ys) d (.int k) (B'<|.int<|Ay ps k):=by
   have z:=DGet.k (k:=Kw k) Wp;rw[Ef,hlk]at z;exact z
  have Ue:i < ks.length:=(Jk.mp hk).1;have hyl:ys.length<=60:=by
   rw[VF,Jc,J9];lia
  refine eP ⟨_,rfl,_,rfl,_,rfl,d,_,rfl,hv,_,_,rfl,rfl,.inr ⟨by lia,by lia⟩,ad,aE (by lia),⟨_,rfl⟩,?_,fE⟩;rw[VF,KQ,hk,Ko];rfl
 ·rintro σ ys H2 ⟨_,VF,rfl⟩;rw[Jc,JY<|Jh _]at VF;rw[VF];rw[Lq]at hq;exact hq
def yO:aH ["_law_cell","_law_count","_law_signs","_law_size","_law_j"] ["_law_cell","_law_count"] (ap yI):=fb
def BC(F:Fun K "_law_free_clause" "_law_free_clause" yI f fd)(T:Ft mg):FnOk P w K mg base dh 1 f fd ["_law_cell","_law_count"] yK:=by
 have sc:=yO;refine F.okA yO λMG A outer s H vs Q E hr h=>?_;obtain⟨c,n,rfl,n0,n1,q⟩:=h;have hu:=hr.units;have UX:=Cv hr;refine⟨_,(af (ar (i:=2) sc.nd rfl (O_ rfl) pX)
  (af (ar (i:=3) sc.nd rfl (JD rfl)<|aI bC (pv 0) ah)
  (af (ar (i:=0) sc.nd rfl (JD rfl)<|aI c7 (pv 0) ah)
  (af (cZ KU rfl (dA rfl T.range<|aa (pv 3) ae) (aB (i:=4) sc.nd rfl<|JD rfl)
   (ai (aR (aq mI (pv 1) ah<|aA _) (af (kn UX (pv 2) (aI cJ ah<|aI bC (pv 0)<|pv 1) (aI fj ah<|aI fS ah<|aI bC (aI c7 (pv 0)<|pv 1) ah) rfl)
    (ai<|ar (i:=0) sc.nd rfl (JD rfl)<|aI c7 (pv 0)<|aI fS ah<|pv 1)) az)))
  (ai<|ax<|bN cW rfl T.tuple KO<|aa (bJ (NY:=["_law_variable","_law_signs"]) (idx:=[Ji,B' 2]) rfl cS (cg<|au (jT rfl) rfl T.sorted Od<|aa (pv 2) ae) (λ_ _ _ _=>(aB (i:=0) (nD ["_law_variable","_law_signs"]) rfl<|JD rfl)) (λ_ _ _ _=>dm) λ_ _ _ _=>(aI fS (pv 0)<|de UX (pv 1) (pv 0) λ_ _=>rfl)) ae))))),?_⟩
 intro d hd;have c5:=KY c (show(5:Int)≠0 by decide);have c5':=KE c (show(0:Int) < 5 by decide);exists _,rfl,_,_,rfl,rfl,(by show(0:Int) < 5;decide),_,rfl,_,_,rfl,rfl,⟨by decide,by decide⟩;refine⟨_,rfl,c % 5,rfl,(by lia),(by lia),eh (lo:=0) (n:=(c % 5).toNat)
  (λi σ H2=>∃cc ps jv,σ=[B'<|.int cc,B'<|.int n,B'<|.ref d,B'<|.int<|c % 5,jv]/\H2 d=B' (.dK<|dP ps)/\Same H H2/\DOk n ps/\ps.length<=i)
  ⟨_,[],Ji,rfl,ad,ag hd _,DOk.nil n,Jh _⟩ ?_ ?_⟩
 ·rintro i σ H2 hi ⟨cc,ps,jv,rfl,Wp,k2,hok,hl⟩;refine⟨_,rfl,_,_,rfl,rfl,_,rfl,fU (λg=>?_) λg=>?_⟩
  ·have g':0 < n:=KM g;have m1:=KY cc (show n≠0 by lia);have m2:=KE cc g';have s1:=KY (cc / n) (show(2:Int)≠0 by decide);have s2:=KE (cc / n) (show(0:Int) < 2 by decide);exists _,rfl,_,rfl,_,_,rfl,rfl,⟨g',by lia⟩,_,_,rfl,rfl,(by show(0:Int) < 2;decide),_,_,rfl,rfl,.inl ⟨by decide,by decide⟩,_,_,rfl,rfl;exists _,rfl,_,rfl,_,rfl,_,_,rfl,rfl,g',_,_,rfl,rfl,d,_,rfl,DPut.k (k:=Kw (1+cc % n)) Wp (by unfold dP;rw[Jc];exact aE<|by lia);exists _,rfl,_,rfl,_,_,rfl,rfl,.inl ⟨by decide,by decide⟩,_,_,rfl,rfl,⟨by lia,by lia⟩;obtain⟨o1,o2⟩:=hok.put (k:=1+cc % n) (s:=1 - 2*(cc / n % 2)) (by lia) (by lia);refine⟨_,rG ps (1+cc % n) (1 - 2*(cc / n % 2)),_,rfl,?_,k2.upd_new hd _,o1,by lia⟩;rw[ad];exact LU (λz=>B'<|HO.dK z)<|xr _ _ _
  ·exact⟨cc,ps,_,rfl,Wp,k2,hok,by lia⟩
 ·rintro σ H2 ⟨cc,ps,jv,rfl,Wp,k2,hok,hl⟩;refine⟨_,rfl,d,dP ps,ps.map (·.1),rfl,Wp,tL ps,by rw[Jc];lia,λl ks VH V' hpw=>⟨l,rfl,⟨_,SqL.of ad⟩,λD hD=>?_⟩⟩;refine lX Wp hok n1 (by lia) VH V' hD _ rfl ?_;refine⟨D,_,rfl,.inl ⟨SqL.of ad,λt ht=>?_⟩⟩;have k3:=k2.upd_new (k2.free VH)<|.lst<|ks.map V.int;have k4:=k3.upd_new (k3.free hD)<|.lst<|(ks.map λk=>k*Ay ps k).map V.int;exact q t _ _ (k4.upd_new (k4.free ht) _) ad<|hok.clause V' hpw
def uu:aH ["_law_cell","_law_k","_law_count","_law_signs","_law_j","_law_other"] ["_law_cell","_law_k","_law_count"] (ap sA):=fb
def yP(F:Fun K "_law_drawn" "_law_drawn" sA f fd)(T:Ft mg)(M':Fe P w K mg base 1 "_law_mixed" iy):FnOk P w K mg base dh 2 f fd ["_law_cell","_law_k","_law_count"] uq:=by
 have sc:=uu;refine F.okA uu λMG A outer s H vs Q E hr h=>?_;obtain⟨c,k,n,rfl,n0,n1,q⟩:=h;have hu:=hr.units;have UX:=Cv hr;refine⟨_,(af (ar (i:=3) sc.nd rfl (O_ rfl) pX)
  (af (cZ KU rfl (dA rfl T.range<|aa (aI cJ ah<|aI bC (cu M' hr<|aa (pv 0)<|aa (aI cJ (pv 1) ah) ae) ah) ae) (aB (i:=4) sc.nd rfl<|JD rfl)
   (af (ar (i:=5) sc.nd rfl (JD rfl)<|cu M' hr<|aa (pv 0)<|aa (aI cJ (aI cJ ah<|aI fS ah<|pv 4)<|pv 1) ae)
   (ai<|aR (aq mI (pv 2) ah<|aA _) (ai<|kn UX (pv 3) (aI cJ ah<|aI bC (pv 5)<|pv 2) (aI fj ah<|aI fS ah<|aI bC (aI c7 (pv 5) ah) ah) rfl) az)))
  (ai<|ax<|bN cW rfl T.tuple KO<|aa (bJ (NY:=["_law_variable","_law_signs"]) (idx:=[Ji,B' 3]) rfl cS (cg<|au (jT rfl) rfl T.sorted Od<|aa (pv 3) ae) (λ_ _ _ _=>(aB (i:=0) (nD ["_law_variable","_law_signs"]) rfl<|JD rfl)) (λ_ _ _ _=>dm) λ_ _ _ _=>(aI fS (pv 0)<|de UX (pv 1) (pv 0) λ_ _=>rfl)) ae))),?_⟩
 intro d hd;refine⟨_,rfl,_,rfl,_,_,rfl,rfl,_,_,rfl,λm hm0 VD=>?_⟩;have m4:=KY m (show(4:Int)≠0 by decide);have m4':=KE m (show(0:Int) < 4 by decide);refine⟨_,_,rfl,rfl,(by show(0:Int) < 4;decide),_,_,rfl,rfl,1+m % 4,rfl,(by lia),(by lia),eh (lo:=0) (n:=(1+m % 4).toNat)
  (λi σ H2=>∃ps jv ov,σ=[B'<|.int c,B'<|.int k,B'<|.int n,B'<|.ref d,jv,ov]/\H2 d=B' (.dK<|dP ps)/\Same H H2/\DOk n ps/\ps.length<=i)
  ⟨[],Ji,Ji,rfl,ad,ag hd _,DOk.nil n,Jh _⟩ ?_ ?_⟩
 ·rintro i σ H2 hi ⟨ps,jv,ov,rfl,Wp,k2,hok,hl⟩;refine⟨_,rfl,_,rfl,_,_,rfl,rfl,.inl ⟨by decide,by decide⟩,_,_,rfl,rfl,_,rfl,_,_,rfl,rfl,_,_,rfl,λo ho0 ho1=>?_⟩;refine⟨_,rfl,_,_,rfl,rfl,_,rfl,fU (λg=>?_) λg=>?_⟩
  ·have g':0 < n:=KM g;have m1:=KY o (show n≠0 by lia);have m2:=KE o g';have s1:=KY (o / 1000) (show(2:Int)≠0 by decide);have s2:=KE (o / 1000) (show(0:Int) < 2 by decide);exists _,rfl,_,_,rfl,rfl,⟨by decide,by decide⟩,_,_,rfl,rfl,(by show(0:Int) < 2;decide),_,_,rfl,rfl,.inl ⟨by decide,by decide⟩,_,_,rfl,rfl;exists _,rfl,_,rfl,_,rfl,_,_,rfl,rfl,g',_,_,rfl,rfl,d,_,rfl,DPut.k (k:=Kw (1+o % n)) Wp (by unfold dP;rw[Jc];exact aE<|by lia);obtain⟨o1,o2⟩:=hok.put (k:=1+o % n) (s:=1 - 2*(o / 1000 % 2)) (by lia) (by lia);refine⟨rG ps (1+o % n) (1 - 2*(o / 1000 % 2)),_,_,rfl,?_,k2.upd_new hd _,o1,by lia⟩;rw[ad];exact LU (λz=>B'<|HO.dK z)<|xr _ _ _
  ·exact⟨ps,_,_,rfl,Wp,k2,hok,by lia⟩
 ·rintro σ H2 ⟨ps,jv,ov,rfl,Wp,k2,hok,hl⟩;refine⟨_,rfl,d,dP ps,ps.map (·.1),rfl,Wp,tL ps,by rw[Jc];lia,λl ks VH V' hpw=>⟨l,rfl,⟨_,SqL.of ad⟩,λD hD=>?_⟩⟩;refine lX Wp hok n1 (by lia) VH V' hD _ rfl ?_;refine⟨D,_,rfl,.inl ⟨SqL.of ad,λt ht=>?_⟩⟩;have k3:=k2.upd_new (k2.free VH)<|.lst<|ks.map V.int;have k4:=k3.upd_new (k3.free hD)<|.lst<|(ks.map λk=>k*Ay ps k).map V.int;exact q t _ _ (k4.upd_new (k4.free ht) _) ad<|hok.clause V' hpw
end
section
variable {K:IZ}
def GG{rs:IW Int}(h:rs.length=3):∃x y z,rs=[x,y,z]:=by
 match rs,h with
 |[x,y,z],_=>exact⟨x,y,z,rfl⟩
def yQ{ns:IW Int}{r:Int}(h0:0<=r)(h1:r<=16):(dH (ns.map V.int) (B' 1)<|B' (1+r)).length<=16:=by
 unfold dH;have e1:HT.sIx (ns.map V.int).length 0 (B' 1)=min 1 (ns.map V.int).length:=HT.sIx_nat _ 0 1;have e2:HT.sIx (ns.map V.int).length (ns.map V.int).length (B' (1+r))=min (1+r.toNat) (ns.map V.int).length:=by
  have e:(1+r:Int)=((1+r.toNat:Nat):Int):=by lia
  rw[e];exact HT.sIx_nat _ _ _
 rw[e1,e2,J9,Nz];lia
def yR:aH ["_law_script","_law_most","_law_count","_law_bits","_law_many","_law_turns","_law_clauses","_law_k","_law_cell","_law_number","_law_clause"] ["_law_script","_law_most"] (ap yJ):=fb
def BD(F:Fun K "_law_sentence" "_law_sentence" yJ f fd)(T:Ft mg)(Nq:Fe P w K mg base 1 "_law_cell_at" (lW K))(M':Fe P w K mg base 1 "_law_mixed" iy)
  (Zi:Fe P w K mg base 2 "_law_first" (uo K)) (U2:Fe P w K mg base 1 "_law_free_clause" yK) (Zj:Fe P w K mg base 2 "_law_drawn" uq):
  FnOk P w K mg base dh 3 f fd ["_law_script","_law_most"] (yL K):=by
 have sc:=yR;refine F.okA yR λMG A outer s H vs Q E hr h=>?_;obtain⟨a,ns,most,rfl,hS,h63,o0,o1,q⟩:=h;have hu:=hr.units;refine⟨_,(af (iD (cu Zi hr<|aa (pv 0)<|aa (aP<|aa (aI cJ (pv 1) ah)<|aa ah<|aa ah ae) ae)<|oK rfl<|bd (aB (i:=2) sc.nd rfl<|O_ rfl)<|bd (aB (i:=3) sc.nd rfl<|O_ rfl)<|bd (aB (i:=4) sc.nd rfl<|JD rfl) eE)
  (af (ar (i:=5) sc.nd rfl (JD rfl)<|eN PySem.F.plainAttrs_str PySem.F.slot_str_join PySem.F.type_str_join AU aC<|aa (bJ (NY:=["_law_k","_law_bits"]) (idx:=[Ji,B' 3]) rfl cS (dA rfl T.range<|aa (pv 2) ae) (λ_ _ _ _=>(aB (i:=0) (nD ["_law_k","_law_bits"]) rfl<|JD rfl)) (λ_ _ _ _=>dm) λ_ _ _ _=>(aG (iW (K:=K) rfl) aC (aI DS (aI DR (pv 1)<|pv 0) ah) λ_ _=>rfl)) ae)
  (af (aR (aq (aS hu) (aI bC (cu Nq hr<|aa (pv 0)<|aa ah ae) ah) ah<|aA _) (ai<|ax<|bf<|aa (pv 5)<|aa (bJ (NY:=["_law_cell","_law_count"]) (idx:=[Ji,B' 2]) rfl cS (cg<|gQ iP (pv 0) (eZ ah)<|eZ<|aI cJ ah<|pv 4) (λ_ _ _ _=>(aB (i:=0) (nD ["_law_cell","_law_count"]) rfl<|JD rfl)) (λ_ _ _ _=>dm) λ_ _ _ _=>(cu U2 hr<|aa (pv 0)<|aa (pv 1) ae)) ae) az)
  (af (aR (aq mI (aI bC (pv 3) ah) ah<|aA _) (ai<|ar (i:=4) sc.nd rfl (JD rfl)<|aI c7 (pv 4) ah) az)
  (af (ar (i:=6) sc.nd rfl (JD rfl)<|aP ae)
  (af (cZ KU rfl (dA rfl T.range<|aa (pv 4) ae) (aB (i:=7) sc.nd rfl<|JD rfl)
   (af (ar (i:=8) sc.nd rfl (JD rfl)<|au (xk rfl) rfl T.sum Y6<|aa (vq (pv 0) (eZ<|aI cJ ah<|pv 7) (eZ ah)<|eZ<|pv 4) ae)
   (af (ar (i:=9) sc.nd rfl (JD rfl)<|cu M' hr<|aa (pv 8)<|aa (aI cJ (pv 7) ah) ae)
   (af (ar (i:=10) sc.nd rfl (JD rfl)<|cu Zj hr<|aa (pv 8)<|aa (pv 7)<|aa (pv 2) ae)
   (af (aR (aq (aS hu) (aI bC (pv 9) ah) ah<|aA _) (ai<|ar (i:=10) sc.nd rfl (JD rfl)<|bf ae) az)
   (af (aR (PW.pt<|dI (aq (aS hu) (aI bC (aI c7 (pv 9) ah) ah) ah<|aA _)<|c6<|aq (fV hu) (pv 6) (aP ae)<|aA _) (ai<|ar (i:=10) sc.nd rfl (JD rfl)<|aG ay (pv 6) (aI bC (aI c7 (pv 9) ah)<|au bh rfl T.len Kt<|aa (pv 6) ae) λ_ _=>rfl) az)
   (ai<|aR (PW.pt<|gL (aq (fV hu) (pv 10) (bf ae)<|aA _)<|gO<|aq (aS hu) (aI bC (pv 9) ah) ah<|aA _) (ai<|cy<|eN Kg Ki Kq bO (pv 6)<|aa (pv 10) ae) az)))))))
  (ai<|ax<|bf<|aa (pv 5)<|aa (pv 6) ae))))))),?_⟩
 refine⟨_,rfl,_,rfl,_,_,rfl,rfl,(by show 3<=sizeLine;decide),λb hb=>?_⟩;refine⟨a,b,ns,[most+1,4096,17],rfl,(ag hb _).seq hS,ad,(by show 3<=10;decide),λz hz=>?_,λp rs H1 k1 hp L_ hrs=>?_⟩
 ·obtain rfl|hz:=J2.mp hz
  ·lia
  ·obtain rfl|hz:=J2.mp hz
   ·lia
   ·rw[Jp.mp hz];lia
 obtain⟨r0,r1,r2,rfl⟩:=GG (rs:=rs) L_;obtain⟨x0,x1⟩:=hrs 0 r0 (most+1) rfl rfl;obtain⟨y0,y1⟩:=hrs 1 r1 4096 rfl rfl;obtain⟨z0,z1⟩:=hrs 2 r2 17 rfl rfl;have k1':Same H H1:=(ag hb _).trans k1;clear k1;exists p,_,rfl,SqL.of hp,rfl,_,_,rfl,_,_,rfl,_,_,rfl,rfl;refine⟨rfl,_,rfl,r0,rfl,(by lia),(by lia),λD hD=>?_⟩;refine ln (lo:=0) (n:=r0.toNat) (λi σ ys H2=>(∃v0,σ=[v0,B'<|.int r1])/\(∃ss,ys=ss.map V.str/\ss.length=i/\∀s∈ss,lu s)/\H2=upd H1 D (.lst ys)) ⟨⟨Ji,rfl⟩,⟨[],rfl,rfl,λ_ h=>nomatch h⟩,rfl⟩ ?_ ?_ ?_
 ·rintro i σ ys H2 _ ⟨_,_,rfl⟩;exact ad
 ·rintro i σ ys H2 hi ⟨⟨v0,rfl⟩,⟨ss,rfl,hss,hsg⟩,rfl⟩;have e0:Tp (r1 / 2 ^ ((0:Int)+(i:Int)).toNat) 1=r1 / 2 ^ ((0:Int)+(i:Int)).toNat % 2:=YV _;obtain⟨ch,XI,hs⟩:=Ge (j:=Tp (r1 / 2 ^ ((0:Int)+(i:Int)).toNat) 1) (by rw[e0];exact KY _<|by decide) (by rw[e0];exact KE _<|by decide);refine eP ⟨_,rfl,_,rfl,_,_,rfl,rfl,(by show(0:Int)<=0+(i:Int);lia),_,_,rfl,rfl,.inr<|.inr ⟨_,_,ch,rfl,rfl,(by decide+kernel),XI,ad,(by rw[Jc];exact aE<|by lia),⟨_,rfl⟩,⟨ss++[⟨#[ch]⟩],by rw[Ko];rfl,by rw[JC,hss];rfl,λz hz=>?_⟩,fE⟩⟩;obtain w|w:=JI.mp hz
  ·exact hsg z w
  ·rw[Jp.mp w];exact hs
 rintro σ ys H2 ⟨_,⟨ss,rfl,hss,hsg⟩,rfl⟩;obtain⟨tl,tw⟩:=xv hsg;refine⟨_,D,ss,rfl,rfl,SqL.of ad,?_,?_⟩
 ·rw[mV hsg,show(I0 "").length=0 from by decide+kernel];lia
 generalize Vf (I0 "") ss=t at tl tw;have k2:Same H (upd H1 D<|.lst<|ss.map V.str):=k1'.upd_new (k1'.free hD) _;generalize upd H1 D (.lst<|ss.map V.str)=H2 at k2;have ad_:(t.length:Int)=r0:=by lia
 refine⟨_,rfl,a,ns,0,rfl,k2.seq hS,Lg 0,λc2=>?_⟩;refine⟨_,_,rfl,rfl,(by show(0:Int) < 2;decide),.inl ⟨rfl,_,rfl,fU (λ_=>?_) λ_=>?_⟩⟩
 ·refine⟨_,rfl,_,rfl,1,rfl,_,rfl,_,_,rfl,rfl,_,rfl,a,_,rfl,k2.seq hS,λp2 Y3=>⟨p2,rfl,⟨_,SqL.of ad⟩,λD2 YJ=>?_⟩⟩;obtain⟨ms,hms,_⟩:=xu ns (B' 1)<|B' (1+r2);have alp:=yQ (ns:=ns) z0 (by lia);have k3:Same H (upd H2 p2<|.lst<|dH (ns.map V.int) (B' 1)<|B' (1+r2)):=k2.upd_new (k2.free Y3) _;have hp3:upd H2 p2 (.lst<|dH (ns.map V.int) (B' 1)<|B' (1+r2)) p2=B' (.lst<|dH (ns.map V.int) (B' 1)<|B' (1+r2)):=ad;have nD2:H D2=none:=k3.free YJ;refine dE (K:=K) (a:=p2) (xs:=dH (ns.map V.int) (B' 1)<|B' (1+r2)) (λi σ ys H3=>(∃v0,σ=[v0,B'<|.int r0])/\H3 D2=B' (.lst ys)/\Same H H3/\H3 p2=B' (.lst<|dH (ns.map V.int) (B' 1)<|B' (1+r2))/\∃cs,cs.length=i/\CLs H3 cs ys/\∀c∈cs,iG r0 c)
   ⟨⟨Ji,rfl⟩,ad,k3.upd_new nD2 _,by rw[ao<|aj hp3 YJ];exact hp3,[],rfl,.nil,λ_ h=>nomatch h⟩ ?_ ?_ ?_
  ·rintro i σ ys H3 _ ⟨_,h1,_,h2,_⟩;exact⟨h1,SqL.of h2⟩
  ·rintro i x σ ys H3 hx ⟨⟨v0,rfl⟩,g1,g2,g3,cs,g4,g5,g6⟩;have Ue:i < (dH (ns.map V.int) (B' 1)<|B' (1+r2)).length:=(Jk.mp hx).1;rw[hms]at hx;obtain⟨cz,rfl,_⟩:=ft hx;refine eP ⟨_,rfl,_,rfl,cz,r0,rfl,x0,(by lia),λt1 ls H4 k4 ht1 hls=>?_⟩;have h4:=k4 _ _ g1;have h5:=k4 _ _ g3;have np:p2≠D2:=aj hp3 YJ;refine⟨h4,(by rw[<-g5.length,g4];exact aE<|by lia),⟨_,rfl⟩,ad,(g2.trans k4).upd_new nD2 _,by rw[ao np];exact h5,cs++[ls],by rw[JC,g4];rfl,CLs.snoc (CL.upd ⟨t1,rfl,ht1⟩ h4)<|(g5.mono k4).upd h4,λc hc=>?_⟩;obtain w|w:=JI.mp hc
   ·exact g6 c w
   ·rw[Jp.mp w];exact hls
  ·rintro σ ys H3 ⟨_,g1,g2,g3,cs,g4,g5,g6⟩;refine⟨(by show 2<=sizeLine;decide),λp5 hp5=>?_⟩;have k5:Same H3 (upd H3 p5<|.tup [.str t,.ref D2]):=ag hp5 _;refine q p5 t cs _ (g2.trans k5) (ku ad (k5 _ _ g1)<|g5.mono k5) ⟨by lia,tw,by lia,λc hc=>?_⟩;rw[ad_];exact g6 c hc
 refine vw (bits:=r1) (mm:=r2) rfl rfl z0 (by lia) (λmm mm0 mm1=>?_) rfl;refine⟨JQ _,λqa hqa=>?_⟩;have nqa:H qa=none:=k2.free hqa;refine⟨_,rfl,mm,rfl,(by lia),(by lia),eh (lo:=0) (n:=mm.toNat)
  (λi σ H3=>∃xs cs v7 v8 v9 v10,σ=[B'<|.ref a,B'<|.int most,B'<|.int r0,B'<|.int r1,B'<|.int mm,B'<|.str t,B'<|.ref qa,v7,v8,v9,v10]/\H3 qa=B' (.lst xs)/\CLs H3 cs xs/\Same H H3/\cs.length<=i/\∀c∈cs,iG r0 c)
  ⟨[],[],Ji,Ji,Ji,Ji,rfl,ad,.nil,k2.upd_new nqa _,Jh _,λ_ h=>nomatch h⟩ ?_ ?_⟩
 ·rintro i σ H3 hi ⟨xs,cs,v7,v8,v9,v10,rfl,g1,g2,g3,g4,g5⟩;refine⟨_,rfl,_,rfl,_,_,rfl,rfl,_,rfl,_,rfl,_,rfl,_,rfl,a,ns,mm,rfl,g3.seq hS,rfl,(by lia),(by lia),λp3 ms hp3 hms=>?_⟩;exists p3,ms,rfl,SqL.of ad;refine⟨_,rfl,_,rfl,_,_,rfl,rfl,_,_,rfl,λm hm0 VD=>?_⟩;refine⟨_,rfl,_,rfl,_,rfl,_,_,r0,rfl,x0,(by lia),λp4 ls H4 k4 hp4 hls=>?_⟩;have k5:Same H3 (upd H3 p3<|.lst<|ms.map V.int):=ag hp3 _;have k6:Same H3 H4:=k5.trans k4;refine rJ (m:=m) (pc:=p4) (lc:=ls) (n:=r0) rfl hp4 hls rfl λpc1 lc1 H5 k7 hpc1 agY=>?_;have k8:Same H3 H5:=k6.trans k7;refine rK (m:=m) (pc:=pc1) (q:=qa) (lc:=lc1) (n:=r0) (xs:=xs) (cs:=cs) rfl rfl hm0 hpc1 agY rfl (k8 _ _ g1) (g2.mono k8) g5 λpc2 lc2 H6 k9 hpc2 agX=>?_;have k10:Same H3 H6:=k8.trans k9;refine qf (m:=m) (pc:=pc2) (q:=qa) (lc:=lc2) (n:=r0) (xs:=xs) (cs:=cs) rfl rfl rfl hpc2 agX (k10 _ _ g1) (g2.mono k10) g5 (by lia) λxs' cs' H7 keep e1 e2 e3 e4=>?_;exact⟨xs',cs',_,_,_,_,rfl,e1,e2,λb o hb=>keep b o (k10 b o<|g3 b o hb)<|aj hb nqa,by lia,e3⟩
 ·rintro σ H3 ⟨xs,cs,v7,v8,v9,v10,rfl,g1,g2,g3,g4,g5⟩;refine⟨_,rfl,_,rfl,(by show 2<=sizeLine;decide),λp5 hp5=>?_⟩;have k5:Same H3 (upd H3 p5<|.tup [.str t,.ref qa]):=ag hp5 _;refine q p5 t cs _ (g3.trans k5) (ku ad (k5 _ _ g1)<|g2.mono k5) ⟨by lia,tw,by lia,λc hc=>?_⟩;rw[ad_];exact g5 c hc
end
abbrev pq:Lh:=top 19
structure HB (mg:Str->Jd IX):Prop where
 len:mg "len"=Ji
 g_WISHER:eV mg "WISHER" (.str<|I0 "wisher")
 g_SPOILER:eV mg "SPOILER" (.str<|I0 "spoiler")
inductive CN (vs:IW V)(H:Hp)(Q:VK):Prop
 |mk (p:I_)(t:Str)(w:V)(i:Nat)(h0:vs=[.ref p,.int<|(i:Int)+1])(h1:H p=B' (.tup [.str t,w]))(h2:i < t.length)(h3:t.length<=900)(h4:Q (.str<|aK<|fA t i) H):CN vs H Q
def yS:Sp:=λvs H Q _=>CN vs H Q
section
variable {K:IZ}
def qO:aH ["sentence","variable","turns"] ["sentence","variable"] (ap pq):=fb
def wn(F:Fun K "hand_of" "hand_of" pq f fd)(T:HB mg):FnOk P w K mg base dh 1 f fd ["sentence","variable"] yS:=by
 have sc:=qO;refine F.okA qO λMG A outer s H vs Q E hr h=>?_;obtain⟨p,t,w,i,rfl,hp,hi,h9,q⟩:=h;have hu:=hr.units;refine⟨_,(af (ar (i:=2) sc.nd rfl (JD rfl)<|aG ay (pv 0) ah λ_ _=>rfl)
  (af (aR (bG<|pO kW kW ah (pv 1)<|au bh rfl T.len Kt<|aa (pv 2) ae) (ai aX) az)
  (ai<|ax<|pL (aq (aS hu) (aG ay (pv 2) (aI fj (pv 1) ah) λ_ _=>rfl) aC<|aA _) (bB rfl T.g_WISHER)<|bB rfl T.g_SPOILER))),?_⟩
 refine⟨_,rfl,.inr<|.inl ⟨p,_,0,.str t,rfl,rfl,SqT.of hp,rfl,?_⟩⟩;have e1:decide ((1:Int)<=(i:Int)+1)=true:=Jz (by lia);have e2:decide ((i:Int)+1<=((t.length:Nat):Int))=true:=Jz (by lia);have Ue:i < t.cps.toList.length:=by
  rw[JB];exact hi
 have XI:=Jm Ue;have hat:rc t.cps.toList ((i:Int)+1 - 1)=B' t.cps.toList[i]:=by
  have e:(i:Int)+1 - 1=(i:Int):=by lia
  rw[e];exact aZ XI
 exists _,rfl,_,_,rfl,rfl,_,rfl;rw[e1];refine aW ⟨_,rfl,.str t,_,rfl,⟨K_ (aE<|by lia),rfl⟩,_,_,rfl,rfl,_,rfl,?_⟩;rw[e2];refine aQ ?_;refine⟨_,rfl,_,rfl,_,_,rfl,rfl,.inr<|.inr ⟨t,_,_,rfl,rfl,K_ (aE<|by lia),hat,.inl ⟨rfl,_,rfl,?_⟩⟩⟩;rw[Cw,<-xy XI];cases g:fA t i with
 |true=>
  rw[g]at q;exact aW q
 |false=>
  rw[g]at q;exact aQ q
end
abbrev EH:Lh:=top 12
abbrev EI:Lh:=top 18
abbrev yT:Lh:=top 22
abbrev sB:Lh:=top 20
structure rf (mg:Str->Jd IX):Prop where
 isinstance:mg "isinstance"=Ji
 int:mg "int"=Ji
 bool:mg "bool"=Ji
 tuple:mg "tuple"=Ji
 list:mg "list"=Ji
 abs:mg "abs"=Ji
 len:mg "len"=Ji
 all:mg "all"=Ji
 range:mg "range"=Ji
 zip:mg "zip"=Ji
 sorted:mg "sorted"=Ji
 set:mg "set"=Ji
 any:mg "any"=Ji
 max:mg "max"=Ji
def uv:Sp:=λvs H Q _=>∃v d,vs=[v]/\RD H d v/\Q (.bl<|oH d&&!oJ d) H
def CO:Sp:=λvs H Q _=>∃v d most,vs=[v,.int most]/\RD H d v/\Q (.bl<|mB most d) H
inductive CP (vs:IW V)(H:Hp)(Q:VK):Prop
 |mk (p:I_)(t:Str)(w:V)(hw:JJ)(h0:vs=[.ref p,.str<|aK hw])(h1:H p=B' (.tup [.str t,w]))(h2:t.length<=900)(h3:∀(l:I_) (H':Hp),Same H H'->H' l=B' (.lst<|(dw t hw).map V.int)->Q (.ref l) H'):CP vs H Q
def sC:Sp:=λvs H Q _=>CP vs H Q
def pr:Sp:=λvs H Q _=>∃b:JJ,vs=[.str<|aK b]/\Q (.str<|aK (!b)) H
def cQ(h:dJ H ds xs)(hl:ds.length=2):∃d0 d1 x0 x1,ds=[d0,d1]/\xs=[x0,x1]/\RD H d0 x0/\RD H d1 x1:=by
 match ds,hl with
 |[d0,d1],_=>
  obtain⟨x0,r0,rfl,h0,k0⟩:=aN h;obtain⟨x1,r1,rfl,h1,k1⟩:=aN k0;obtain rfl:=bY k1;exact⟨_,_,x0,x1,rfl,rfl,h0,h1⟩
inductive GH (H:Hp)(a:I_)(most:Int)(ds:IW Jw)(i:Nat)(σ:St)(H2:Hp):Prop
 |mk (b:Int)(l:Jd V)(h0:σ=[B'<|.ref a,B'<|.int most,B'<|.int b,l])(h1:H2=H)(h2:iH most b (ds.drop i)=iH most 0 ds):GH H a most ds i σ H2
inductive CQ (H:Hp)(D p:I_)(t:Str)(hw:JJ)(i:Nat)(σ:St)(ys:IW V)(H2:Hp):Prop
 |mk (v0:Jd V)(h0:σ=[v0,B' (.str (aK hw)),B' (.ref p)])(h1:ys=(((Ky i).filter λi=>fA t i == hw).map λ(i:Nat)=>V.int<|(i:Int)+1))(h2:H2=upd H D (.lst ys)):CQ H D p t hw i σ ys H2
section
variable {K:IZ}
def GI:aH ["thing"] ["thing"] (ap EH):=fb
def EJ(F:Fun K "is_number" "is_number" EH f fd)(T:rf mg):FnOk P w K mg base dh 1 f fd ["thing"] uv:=by
 refine F.okA GI λMG A outer s H vs Q E hr h=>?_;obtain⟨v,d,rfl,hd,q⟩:=h;have nd:=jB hd;exists _,(ai<|ax<|kT (au dC rfl T.isinstance JT<|aa (pv 0)<|aa (cH (v:=.ty "int") rfl T.int S4 rfl) ae)<|ou<|wL<|au dC rfl T.isinstance JT<|aa (pv 0)<|aa (cH (v:=.ty "bool") rfl T.bool SA rfl) ae);exists _,rfl,v,_,"int",_,rfl,tI d v hd,AT d nd,_,rfl;cases hI:oH d with
 |false=>
  rw[hI]at q;exact aQ q
 |true=>
  rw[hI]at q;exact aW ⟨_,rfl,v,_,"bool",_,rfl,tI d v hd,wZ d nd,_,rfl,q⟩
def CS:aH ["thing","most","behind","literal"] ["thing","most"] (ap EI):=fb
def EK(F:Fun K "is_set" "is_set" EI f fd)(T:rf mg)(QW:Fe P w K mg base 1 "is_number" uv):FnOk P w K mg base dh 2 f fd ["thing","most"] CO:=by
 have sc:=CS;refine F.okA CS λMG A outer s H vs Q E hr h=>?_;obtain⟨v,d,most,rfl,hd,q⟩:=h;have nd:=jB hd;refine⟨_,(af (aR (bG<|bq<|au dC rfl T.isinstance JT<|aa (pv 0)<|aa (cH (v:=.ty "tuple") rfl T.tuple KO rfl) ae) (ai<|ax fi) az)
  (af (ar (i:=2) sc.nd rfl (JD rfl) ah)
  (af (cZ KU rfl (d_<|pv 0) (aB (i:=3) sc.nd rfl<|JD rfl)
   (af (aR (PW.pt<|gL (bG<|bq<|cu QW hr<|aa (pv 3) ae)<|gO<|bG<|pO mH kW (pv 2) (au bW rfl T.abs Kj<|aa (pv 3) ae)<|pv 1) (ai<|ax fi) az)
   (ai<|ar (i:=2) sc.nd rfl (JD rfl)<|au bW rfl T.abs Kj<|aa (pv 3) ae)))
  (ai<|ax fi)))),?_⟩
 exists _,rfl,v,_,"tuple",_,rfl,tI d v hd,mR d nd,_,rfl;cases d with
 |tuple ds=>
  refine aQ ?_;obtain⟨a,xs,rfl,ha,hx⟩:=aM hd;have L_:=cB hx;refine⟨_,rfl,a,rfl,⟨_,SqT.of ha⟩,s_ (K:=K) (a:=a) (xs:=xs) (GH H a most ds)
   ⟨0,Ji,rfl,rfl,rfl⟩ (λi σ H2 _ hp=>by obtain⟨_,_,_,e,_⟩:=hp;rw[e];exact SqT.of ha) ?_ ?_⟩
  ·rintro i y σ H2 hi ⟨b,l,rfl,rfl,hb⟩;have Ue:i < xs.length:=(Jk.mp hi).1;have hy:=eJ hx hi;rw[vD Nr<|by lia]at hb;exists _,rfl,y,_,rfl,hy,_,rfl;obtain⟨z,hz⟩|hz:=oP (ds.getD i .none)
   ·rw[hz]at hy hb ⊢;obtain rfl:=a_ hy;refine aQ ?_;exists _,rfl,_,rfl,z,rfl,_,_,rfl,rfl,_,rfl;rw[lB]at hb;refine fU (λc1=>?_) λc1=>?_
    ·have c1':b < absI z:=KM c1;exists _,rfl,_,_,rfl,rfl,_,rfl;refine fU (λc2=>?_) λc2=>?_
     ·have c2':¬absI z<=most:=λhh=>by
       have e:decide (absI z<=most)=true:=Jz hh;rw[show decide ((if z < 0 then -z else z)<=most)=Je from e]at c2;cases c2
      rw[JK<|by lia]at hb;show Q (.bl Jg) _
      rw[show mB most (.tuple ds)=iH most 0 ds from rfl,<-hb]at q;exact q
     ·have c2':absI z<=most:=XH λhh=>by
       have e:decide (absI z<=most)=false:=Jj hh;rw[show decide ((if z < 0 then -z else z)<=most)=Jg from e]at c2;exact c2 rfl
      rw[JL ⟨c1',c2'⟩]at hb;exists _,rfl,z,rfl;exact⟨absI z,B'<|.int z,rfl,rfl,hb⟩
    ·have c1':¬b < absI z:=λhh=>c1<|Jz hh;rw[JK λhh=>c1' hh.1]at hb;refine⟨_,rfl,aW ?_⟩;show Q (.bl Jg) _
     rw[show mB most (.tuple ds)=iH most 0 ds from rfl,<-hb]at q;exact q
   ·rw[oO hz];rw[ql hz]at hb;refine aW<|aW ?_;show Q (.bl Jg) _
    rw[show mB most (.tuple ds)=iH most 0 ds from rfl,<-hb]at q;exact q
  ·rintro σ H2 ⟨b,l,rfl,rfl,hb⟩;show Q (.bl Je) _
   rw[List.drop_eq_nil_of_le<|by lia]at hb;rw[show mB most (.tuple ds)=iH most 0 ds from rfl,<-hb]at q;exact q
 |_=>exact aW q
def yU:aH ["sentence","hand"] ["sentence","hand"] (ap yT):=fb
def BE(F:Fun K "variables_of" "variables_of" yT f fd)(T:rf mg)(abD:Fe P w K mg base 1 "hand_of" yS):FnOk P w K mg base dh 2 f fd ["sentence","hand"] sC:=by
 have sc:=yU;refine F.okA yU λMG A outer s H vs Q E hr h=>?_;obtain⟨p,t,w,hw,rfl,hp,h9,q⟩:=h;have hu:=hr.units;exists _,(ai<|ax<|bJ (NY:=["variable","hand","sentence"]) (idx:=[Ji,B' 1,B' 0]) rfl cS (vc rfl T.range<|aa ah<|aa (aI cJ (au bh rfl T.len Kt<|aa (aG ay (pv 0) ah λ_ _=>rfl) ae) ah) ae) (λ_ _ _ _=>(aB (i:=0) (nD ["variable","hand","sentence"]) rfl<|JD rfl)) (λ_ _ _ _=>(cN<|aq (aS hu) (cu abD hr<|aa (pv 2)<|aa (pv 0) ae) (pv 1)<|aA _)) λ_ _ _ _=>(pv 0));refine⟨_,rfl,.inr<|.inl ⟨p,_,0,.str t,rfl,rfl,SqT.of hp,rfl,.str t,_,rfl,⟨K_ (aE<|by lia),rfl⟩,_,_,rfl,rfl,?_⟩⟩;refine⟨_,_,rfl,⟨by decide,by decide,by lia,by lia⟩,λD hD=>?_⟩;have en:((t.length:Int)+1 - 1).toNat=t.length:=by lia
 refine ln (lo:=1) (n:=((t.length:Int)+1 - 1).toNat) (CQ H D p t hw)
  ⟨Ji,rfl,rfl,rfl⟩ ?_ ?_ ?_
 ·rintro i σ ys H2 _ ⟨_,_,_,rfl⟩;exact ad
 ·rintro i σ ys H2 hi ⟨v0,rfl,rfl,rfl⟩;rw[en]at hi;have Y3:=ag hD (.lst<|((Ky i).filter λi=>fA t i == hw).map λ(i:Nat)=>V.int<|(i:Int)+1) _ _ hp;have ei:(1:Int)+(i:Int)=(i:Int)+1:=by lia
  rw[ei];refine⟨_,rfl,_,rfl,p,t,w,i,rfl,Y3,hi,h9,_,rfl,.inl ⟨rfl,_,rfl,?_⟩⟩;rw[g_];by_cases g0:fA t i=hw
  ·have g:(fA t i == hw)=true:=by rw[g0];exact N9 _
   rw[Jz g0];refine aW ⟨_,rfl,ad,?_,_,rfl,?_,fE⟩
   ·have:=LS (λi=>fA t i == hw)<|Ky i;rw[Mk]at this;rw[Jc];exact aE (by lia)
   ·rw[QD,ND,PJ (p:=λi=>fA t i == hw) g,Ko];rfl
  ·rw[Jj g0];refine aQ ⟨_,rfl,?_,rfl⟩;rw[QD,ND,PK (p:=λi=>fA t i == hw) λz=>g0<|by simpa using z];simp
 ·rintro σ ys H2 ⟨_,_,rfl,rfl⟩;refine q D _ (ag hD _) ?_;rw[ad,en];unfold dw;rw[Lq];rfl
def BF:aH ["hand"] ["hand"] (ap sB):=fb
def yV(F:Fun K "other_hand" "other_hand" sB f fd)(T:HB mg):FnOk P w K mg base dh 1 f fd ["hand"] pr:=by
 refine F.okA BF λMG A outer s H vs Q E hr h=>?_;obtain⟨b,rfl,q⟩:=h;have hu:=hr.units;exists _,(ai<|ax<|pL (aq (aS hu) (pv 0) (bB rfl T.g_WISHER)<|aA _) (bB rfl T.g_SPOILER)<|bB rfl T.g_WISHER);refine⟨_,rfl,.inl ⟨rfl,_,rfl,?_⟩⟩;have e:decide (V.str (aK b)=V.str (I0 "wisher"))=b:=by
  have z:=g_ b Je;have z2:aK Je=I0 "wisher":=rfl;rw[z2]at z;rw[z];cases b<;>rfl
 rw[e];cases b with
 |true=>exact aW q
 |false=>exact aQ q
end
abbrev yW:Lh:=top 23
abbrev px:Lh:=top 24
abbrev lY:Lh:=top 25
def sD(H:Hp)(p:I_)(c:IW Int):Prop:=H p=B' (.tup<|c.map V.int)
inductive CT (vs:IW V)(H:Hp)(Q:VK):Prop
 |mk (p q:I_)(f s:IW Int)(v:Int)(h0:vs=[.ref p,.ref q,.int v])(h1:sD H p f)(h2:sD H q s)(h3:f.length<=60)(h4:s.length<=60)(h5:∀H',Same H H'->Q (.bl<|eW f s v) H'):CT vs H Q
def yX:Sp:=λvs H Q _=>CT vs H Q
inductive uw (vs:IW V)(H:Hp)(Q:VK):Prop
 |mk (p q:I_)(f s:IW Int)(v:Int)(h0:vs=[.ref p,.ref q,.int v])(h1:sD H p f)(h2:sD H q s)(h3:f.length+s.length<=60)(h4:Ups f)(h5:Ups s)(h6:eW f s v=Jg)(h7:∀(l:I_) (r:IW Int) (H':Hp),Same H H'->Joins f s v r->sD H' l r->Q (.ref l) H'):uw vs H Q
def qP:Sp:=λvs H Q _=>uw vs H Q
inductive qQ (vs:IW V)(H:Hp)(Q:VK):Prop
 |mk (p q:I_)(t:Str)(w:V)(hw:JJ)(c:IW Int)(h0:vs=[.ref p,.str<|aK hw,.ref q])(h1:H p=B' (.tup [.str t,w]))(h2:t.length<=900)(h3:sD H q c)(h4:c.length<=60)(h5:(∀l∈c,1<=absI l/\absI l<=(t.length:Int)))(h6:∀(l:I_) (H':Hp),Same H H'->sD H' l (dg t hw c)->Q (.ref l) H'):qQ vs H Q
def nQ:Sp:=λvs H Q _=>qQ vs H Q
def cF(c:IW Int):(c.map V.int).all iQ=true:=by
 rw[SE];exact Md.mpr λ_ _=>rfl
def BG{α:Type}(l:IW α)(f:α->JJ):((l.map λx=>V.bl<|f x).all xl)=Je/\(l.map λx=>V.bl<|f x).any iU=l.any f:=by
 refine⟨by rw[SE];exact Md.mpr λ_ _=>rfl,?_⟩;rw[QR];exact gx λ_ _=>rfl
def lZ(c:IW Int)(p:Int->JJ)(f:Int->V):((c.map V.int).filter<|isI p).map (Fq f)=(c.filter p).map f:=by
 induction c with
 |nil=>rfl
 |cons x r ih=>
  rw[Kz];by_cases h:p x=Je
  ·rw[PJ (p:=isI p) (a:=V.int x) h,PJ (p:=p) h,Kz,Kz,ih];rfl
  ·rw[PK (p:=isI p) (a:=V.int x) h,PK (p:=p) h,ih]
def BH{K:IZ}{H:Hp}{p:I_}{ns:IW Int}{Q:VK}(h:SqL K H p (ns.map V.int))(h0:∀a∈ns,0<=a)(q:Q (.int<|ns.foldl max 0) H):yb K (.ref p) (.int 0) H Q:=
 ⟨p,ns,rfl,h,λe=>by rw[e]at q;exact q,λM m1 m2=>by rw[ye h0 (.inl m1) m2<|h0 M m1]at q;exact q⟩
def ux(l:Int):0<=absI l:=by
 obtain⟨_,e⟩|⟨_,e⟩:=bE l<;>lia
section
variable {K:IZ}
def yY:aH ["first","second","variable"] ["first","second","variable"] (ap yW):=fb
def BI(F:Fun K "stands_both_ways" "stands_both_ways" yW f fd)(T:rf mg):FnOk P w K mg base dh 1 f fd ["first","second","variable"] yX:=by
 have sc:=yY;refine F.okA yY λMG A outer s H vs Q E hr h=>?_;obtain⟨p,q,f,s,v,rfl,hp,hq,h9,h8,q'⟩:=h;have hu:=hr.units;exists _,(ai<|ax<|au (xm rfl) rfl T.any Y7<|aa (bJ (NY:=["literal","second","variable"]) (idx:=[Ji,B' 1,B' 2]) rfl cS (d_<|pv 0) (λ_ _ _ _=>(aB (i:=0) (nD ["literal","second","variable"]) rfl<|JD rfl)) (λ_ _ _ _=>(cN<|aq (fV hu) (au bW rfl T.abs Kj<|aa (pv 0) ae) (pv 2)<|aA _)) λ_ _ _ _=>(eF (iF (K:=K) rfl) (cp bD<|pv 0) (pv 1)<|by with_unfolding_all rfl)) ae);refine⟨_,rfl,p,rfl,⟨_,SqT.of hp⟩,λD hD=>?_⟩;refine cE [B'<|.ref q,B'<|.int v] (isI λl=>!decide (absI l=v)) (Fq λl=>.bl<|s.contains (-l)) rfl hp hD (by rw[Jc];lia) ?_ ?_ ?_
 ·intro x hx H' R k r;obtain⟨z,_,rfl⟩:=cD hx;refine⟨_,rfl,z,rfl,_,rfl,.inl ⟨rfl,_,rfl,?_⟩⟩;have e:decide (V.int (absI z)=V.int v)=decide (absI z=v):=by
   by_cases h:absI z=v
   ·rw[h];simp
   ·rw[Jj h,Jj λe=>h<|V.int.inj e]
  have r':R (!decide (absI z=v)) H':=r;rw[<-e]at r';exact r'
 ·intro x hx _ H' R k r;obtain⟨z,_,rfl⟩:=cD hx;exists _,rfl,_,rfl,_,rfl,q,_,rfl,.inr<|SqT.of<|k _ _ hq,rfl,cF s;show R (.bl<|re (.int (-z))<|s.map V.int) H'
  rw[c8];exact r
 ·rw[lZ];have e:=BG (f.filter λl=>!decide (absI l=v)) λl=>s.contains (-l);exists D,_,rfl,SqL.of ad,e.1;rw[e.2];exact q' _<|ag hD _
def qR:aH ["first","second","variable","both"] ["first","second","variable"] (ap px):=fb
def wo(F:Fun K "joined" "joined" px f fd)(T:rf mg):FnOk P w K mg base dh 1 f fd ["first","second","variable"] qP:=by
 have sc:=qR;refine F.okA qR λMG A outer s H vs Q E hr h=>?_;obtain⟨p,q,f,s,v,rfl,hp,hq,h9,hf,hs,hb,q'⟩:=h;have hu:=hr.units;refine⟨_,(af (ar (i:=3) sc.nd rfl (JD rfl)<|aI jz (bN cL rfl T.list KZ<|aa (pv 0) ae)<|bJ (NY:=["literal","first"]) (idx:=[Ji,B' 0]) rfl cS (d_<|pv 1) (λ_ _ _ _=>(aB (i:=0) (nD ["literal","first"]) rfl<|JD rfl)) (λ_ _ _ _=>(cN<|aq (mz (K:=K) rfl) (pv 0) (pv 1)<|by with_unfolding_all rfl)) λ_ _ _ _=>(pv 0))
  (ai<|ax<|bN cW rfl T.tuple KO<|aa (rY rfl T.sorted rfl T.abs<|bJ (NY:=["literal","variable"]) (idx:=[Ji,B' 2]) rfl cS (cg<|pv 3) (λ_ _ _ _=>(aB (i:=0) (nD ["literal","variable"]) rfl<|JD rfl)) (λ_ _ _ _=>(cN<|aq (fV hu) (au bW rfl T.abs Kj<|aa (pv 0) ae) (pv 1)<|aA _)) λ_ _ _ _=>(pv 0)) ae)),?_⟩
 refine⟨_,rfl,p,_,rfl,.inr<|SqT.of hp,λL1 hL1=>?_⟩;have k1:=ag hL1<|.lst<|f.map V.int;have r1:upd H L1 (.lst<|f.map V.int) L1=B' (.lst<|f.map V.int):=ad;generalize upd H L1 (.lst<|f.map V.int)=H1 at k1 r1;refine⟨_,rfl,q,rfl,⟨_,SqT.of<|k1 _ _ hq⟩,λD hD=>?_⟩;refine cE [B'<|.ref p] (isI λl=>!f.contains l) (λx=>x) rfl (k1 _ _ hq) hD (by rw[Jc];lia) ?_ ?_ ?_
 ·intro x hx H' R k r;obtain⟨z,_,rfl⟩:=cD hx;exists _,rfl,_,rfl,p,_,rfl,.inr<|SqT.of<|k _ _<|k1 _ _ hp,rfl,cF f,_,rfl;show R (!re (.int z) (f.map V.int)) H'
  rw[c8];exact r
 ·intro x hx _ H' R k r;exact⟨_,rfl,r⟩
 rw[bZ s (λl=>!f.contains l) _ λi=>rfl];have k2:=ag hD<|.lst<|(s.filter λl=>!f.contains l).map V.int;have r2:upd H1 D (.lst<|(s.filter λl=>!f.contains l).map V.int) D=B' (.lst<|(s.filter λl=>!f.contains l).map V.int):=ad;generalize upd H1 D (.lst<|(s.filter λl=>!f.contains l).map V.int)=H2 at k2 r2;have YD:=LS (λl=>!f.contains l) s;refine⟨L1,D,_,_,rfl,rfl,k2 _ _ r1,r2,by rw[Jc,Jc,Lf];lia,λL3 hL3=>?_⟩;rw[<-Ko];have k3:=ag hL3<|.lst<|(f++s.filter λl=>!f.contains l).map V.int;have r3:upd H2 L3 (.lst<|(f++s.filter λl=>!f.contains l).map V.int) L3=B' (.lst<|(f++s.filter λl=>!f.contains l).map V.int):=ad;generalize upd H2 L3 (.lst<|(f++s.filter λl=>!f.contains l).map V.int)=H3 at k3 r3;have hl3:(f++s.filter λl=>!f.contains l).length<=60:=by rw[JC];lia
 refine⟨_,rfl,L3,rfl,⟨_,SqL.of r3⟩,λD4 hD4=>?_⟩;refine gy [B'<|.int v] (isI λl=>!decide (absI l=v)) (λx=>x) rfl r3 hD4 (by rw[Jc];lia) ?_ ?_ ?_
 ·intro x hx H' R k r;obtain⟨z,_,rfl⟩:=cD hx;refine⟨_,rfl,z,rfl,_,rfl,.inl ⟨rfl,_,rfl,?_⟩⟩;have e:decide (V.int (absI z)=V.int v)=decide (absI z=v):=by
   by_cases h:absI z=v
   ·rw[h];simp
   ·rw[Jj h,Jj λe=>h<|V.int.inj e]
  have r':R (!decide (absI z=v)) H':=r;rw[<-e]at r';exact r'
 ·intro x hx _ H' R k r;exact⟨_,rfl,r⟩
 rw[bZ _ (λl=>!decide (absI l=v)) _ λi=>rfl];have k4:=ag hD4<|.lst<|(fH f s v).map V.int;have r4:upd H3 D4 (.lst<|(fH f s v).map V.int) D4=B' (.lst<|(fH f s v).map V.int):=ad;have hl4:(fH f s v).length < 64:=Om (LS _ _) (by lia);show lK _ _ (upd H3 D4<|.lst<|(fH f s v).map V.int) _
 generalize upd H3 D4 (.lst<|(fH f s v).map V.int)=H4 at k4 r4;refine⟨D4,_,rfl,SqL.of r4,hl4,λL5 r hL5 hpm ho=>?_⟩;refine⟨L5,_,rfl,.inl ⟨SqL.of ad,λL6 hL6=>?_⟩⟩;exact q' L6 r _ ((((k1.trans k2).trans k3).trans k4).trans<|(ag hL5 _).trans<|ag hL6 _) (qx hf hs hb hpm ho) ad
def nR:aH ["sentence","hand","literals","others","last"] ["sentence","hand","literals"] (ap lY):=fb
def sE(F:Fun K "dropped" "dropped" lY f fd)(T:rf mg)(S6:Fe P w K mg base 1 "other_hand" pr)(RC:Fe P w K mg base 2 "variables_of" sC):
  FnOk P w K mg base dh 3 f fd ["sentence","hand","literals"] nQ:=by
 have sc:=nR;refine F.okA nR λMG A outer s H vs Q E hr h=>?_;obtain⟨p,q,t,w,hw,c,rfl,hp,h9,hq,hc9,hrg,q'⟩:=h;have hu:=hr.units;refine⟨_,(af (ar (i:=3) sc.nd rfl (O_ rfl)<|cu RC hr<|aa (pv 0)<|aa (cu S6 hr<|aa (pv 1) ae) ae)
  (af (ar (i:=4) sc.nd rfl (O_ rfl)<|Bg rfl rfl T.max (bJ (NY:=["literal","others"]) (idx:=[Ji,B' 3]) rfl cS (d_<|pv 2) (λ_ _ _ _=>(aB (i:=0) (nD ["literal","others"]) rfl<|JD rfl)) (λ_ _ _ _=>(cN<|aq (iF (K:=K) rfl) (au bW rfl T.abs Kj<|aa (pv 0) ae) (pv 1)<|by with_unfolding_all rfl)) λ_ _ _ _=>(au bW rfl T.abs Kj<|aa (pv 0) ae)) ah)
  (ai<|ax<|bN cW rfl T.tuple KO<|aa (bJ (NY:=["literal","last"]) (idx:=[Ji,B' 4]) rfl cS (d_<|pv 2) (λ_ _ _ _=>(aB (i:=0) (nD ["literal","last"]) rfl<|JD rfl)) (λ_ _ _ _=>(cN<|aq kW (au bW rfl T.abs Kj<|aa (pv 0) ae) (pv 1)<|aA _)) λ_ _ _ _=>(pv 0)) ae))),?_⟩
 refine⟨_,rfl,_,rfl,hw,rfl,p,t,w,!hw,rfl,hp,h9,λl H1 k1 hl=>?_⟩;refine⟨_,rfl,q,rfl,⟨_,SqT.of<|k1 _ _ hq⟩,λD hD=>?_⟩;refine cE [B'<|.ref l] (isI λz=>(dw t (!hw)).contains<|absI z) (Fq λz=>.int<|absI z) rfl (k1 _ _ hq) hD (by rw[Jc];lia) ?_ ?_ ?_
 ·intro x hx H' R k r;obtain⟨z,_,rfl⟩:=cD hx;exists _,rfl,z,rfl,_,rfl,l,_,rfl,.inl<|SqL.of<|k _ _ hl,rfl,cF _,_,rfl;show R (re (.int<|absI z)<|(dw t (!hw)).map V.int) H'
  rw[c8];exact r
 ·intro x hx _ H' R k r;obtain⟨z,_,rfl⟩:=cD hx;exact⟨_,rfl,z,rfl,r⟩
 have e:((c.map V.int).filter<|isI λz=>(dw t (!hw)).contains<|absI z).map (Fq λz=>.int<|absI z)=((c.filter λl=>!(fA t (absI l - 1).toNat == hw)).map absI).map V.int:=by
  rw[lZ,Lq];have:(c.filter λz=>(dw t (!hw)).contains<|absI z)=c.filter λl=>!(fA t (absI l - 1).toNat == hw):=Vy λz hz=>Bh (hrg z hz).1 (hrg z hz).2;rw[this];rfl
 rw[e];have k2:=ag hD<|.lst<|((c.filter λl=>!(fA t (absI l - 1).toNat == hw)).map absI).map V.int;have r2:upd H1 D (.lst<|((c.filter λl=>!(fA t (absI l - 1).toNat == hw)).map absI).map V.int) D=B' (.lst<|((c.filter λl=>!(fA t (absI l - 1).toNat == hw)).map absI).map V.int):=ad;generalize upd H1 D (.lst<|((c.filter λl=>!(fA t (absI l - 1).toNat == hw)).map absI).map V.int)=H2 at k2 r2;unfold tC;refine BH (ns:=(c.filter λl=>!(fA t (absI l - 1).toNat == hw)).map absI) (SqL.of r2) (λa ha=>?_) ?_
 ·obtain⟨z,_,rfl⟩:=Ke.mp ha;exact ux z
 refine⟨_,rfl,q,rfl,⟨_,SqT.of<|k2 _ _<|k1 _ _ hq⟩,λD2 YJ=>?_⟩;refine cE [B'<|.int<|gM t hw c] (isI λl=>decide (absI l<=gM t hw c)) (λx=>x) rfl (k2 _ _<|k1 _ _ hq) YJ (by rw[Jc];lia) ?_ ?_ ?_
 ·intro x hx H' R k r;obtain⟨z,_,rfl⟩:=cD hx;exact⟨_,rfl,z,rfl,_,rfl,_,_,rfl,rfl,_,rfl,r⟩
 ·intro x hx _ H' R k r;exact⟨_,rfl,r⟩
 rw[bZ c (λl=>decide (absI l<=gM t hw c)) _ λi=>rfl];refine⟨D2,_,rfl,.inl ⟨SqL.of ad,λL3 hL3=>?_⟩⟩;exact q' L3 _ (((k1.trans k2).trans<|ag YJ _).trans<|ag hL3 _) ad
end
abbrev sF:Lh:=top 13
abbrev yZ:Lh:=top 14
abbrev sG:Lh:=top 27
abbrev sH:Lh:=top 32
abbrev sI:Lh:=top 31
inductive y4 (vs:IW V)(H:Hp)(Q:VK):Prop
 |mk (v:V)(d:Jw)(many:Nat)(h0:vs=[v,.int (many:Int)])(h1:RD H d v)(h2:Q (.bl (bj many d).isSome) H):y4 vs H Q
def kN:Sp:=λvs H Q _=>y4 vs H Q
inductive CU (vs:IW V)(H:Hp)(Q:VK):Prop
 |mk (v:V)(d:Jw)(w:Str)(n:Nat)(h0:vs=[v,.str w,.int (n:Int)])(h1:RD H d v)(h2:1<=n)(h3:KI (.str w)=Je)(h4:(∀ds,d=.tuple ds->KI (ds.getD 0 .none)=Je))(h5:Q (.bl<|bM w n d) H):CU vs H Q
def y6:Sp:=λvs H Q _=>CU vs H Q
inductive y8 (vs:IW V)(H:Hp)(Q:VK):Prop
 |mk (p q:I_)(t:V)(v:V)(d:Jw)(xs:IW V)(cs:IW (IW Int))(h0:vs=[.ref p,v])(h1:H p=B' (.tup [t,.ref q]))(h2:H q=B' (.lst xs))(h3:CLs H cs xs)(h4:cs.length<=900)(h5:RD H d v)(h6:∀v',RV H ((bj cs.length d).map λi=>cs.getD i []) v'->Q v' H):y8 vs H Q
def uy:Sp:=λvs H Q _=>y8 vs H Q
inductive y9 (vs:IW V)(H:Hp)(Q:VK):Prop
 |mk (p a:I_)(t:Str)(w:V)(hw:JJ)(v:V)(d:Jw)(ys:IW V)(sets:IW (IW Int))(h0:vs=[.ref p,.str<|aK hw,v,.ref a])(h1:H p=B' (.tup [.str t,w]))(h2:t.length<=30)(h3:H a=B' (.lst ys))(h4:CLs H sets ys)(h5:sets.length<=900)(h6:(∀c∈sets,aV t.length c))(h7:RD H d v)(h8:∀v' H',Same H H'->RV H' (hV t hw sets d) v'->Q v' H'):y9 vs H Q
def uz:Sp:=λvs H Q _=>y9 vs H Q
inductive y_ (vs:IW V)(H:Hp)(Q:VK):Prop
 |mk (p a b:I_)(t:Str)(w:V)(hw:JJ)(x0 x1 x2 x3:V)(d1 d2 d3:Jw)(ys:IW V)(sets:IW (IW Int))(h0:vs=[.ref p,.str<|aK hw,.ref b,.ref a])(h1:H p=B' (.tup [.str t,w]))(h2:t.length<=30)(h3:H b=B' (.tup [x0,x1,x2,x3]))(h4:H a=B' (.lst ys))(h5:CLs H sets ys)(h6:sets.length<=900)(h7:(∀c∈sets,aV t.length c))(h8:RD H d1 x1)(h9:RD H d2 x2)(h10:RD H d3 x3)(h11:∀v' H',Same H H'->RV H' (dG t hw sets d1 d2 d3) v'->Q v' H'):y_ vs H Q
def uA:Sp:=λvs H Q _=>y_ vs H Q
section
variable {K:IZ}
def uB:aH ["thing","many"] ["thing","many"] (ap sF):=fb
def za(F:Fun K "is_place" "is_place" sF f fd)(QW:Fe P w K mg base 1 "is_number" uv):FnOk P w K mg base dh 2 f fd ["thing","many"] kN:=by
 have sc:=uB;refine F.okA uB λMG A outer s H vs Q E hr h=>?_;obtain⟨v,d,many,rfl,hd,q⟩:=h;exists _,(ai<|ax<|kT (cu QW hr<|aa (pv 0) ae)<|ou<|wQ kW mH ah (pv 0)<|pv 1);exists _,rfl,v,d,rfl,hd,_,rfl;obtain⟨z,rfl⟩|hn:=oP d
 ·obtain rfl:=a_ hd;refine aW ?_;have q':Q (.bl (if 0<=z/\z < (many:Int)then B' z.toNat else Ji).isSome) H:=q;exists _,rfl,_,_,rfl,rfl,_,rfl;by_cases h0:0<=z
  ·rw[Jz h0];refine aW ⟨_,rfl,_,_,rfl,rfl,?_⟩;by_cases h1:z < (many:Int)
   ·rw[JL ⟨h0,h1⟩]at q';show Q (.bl (decide (z < (many:Int)))) H
    rw[Jz h1];exact q'
   ·rw[JK λc=>h1 c.2]at q';show Q (.bl (decide (z < (many:Int)))) H
    rw[Jj h1];exact q'
  ·rw[JK λc=>h0 c.1]at q';rw[Jj h0];exact aQ q'
 ·rw[oO hn];have e:bj many d=none:=by
   cases d with
   |int z=>exact absurd rfl<|hn z
   |_=>rfl
  rw[e]at q;exact aQ q
def zb:aH ["thing","word","many"] ["thing","word","many"] (ap yZ):=fb
def BJ(F:Fun K "begins_with" "begins_with" yZ f fd)(T:rf mg):FnOk P w K mg base dh 1 f fd ["thing","word","many"] y6:=by
 have sc:=zb;refine F.okA zb λMG A outer s H vs Q E hr h=>?_;obtain⟨v,d,wd,n,rfl,hd,h1,hws,Xv,q⟩:=h;have hu:=hr.units;have nd:=jB hd;exists _,(ai<|ax<|kT (au dC rfl T.isinstance JT<|aa (pv 0)<|aa (cH (v:=.ty "tuple") rfl T.tuple KO rfl) ae)<|kT (eF (aS hu) (au bh rfl T.len Kt<|aa (pv 0) ae) (pv 2)<|aA _)<|ou<|eF (aS hu) (aG ay (pv 0) ah λ_ _=>rfl) (pv 1)<|aA _);exists _,rfl,v,_,"tuple",_,rfl,tI d v hd,mR d nd,_,rfl;cases d with
 |tuple ds=>
  obtain⟨a,xs,rfl,ha,hx⟩:=aM hd;have L_:=cB hx;refine aW ⟨_,rfl,.ref a,_,rfl,.inr ⟨_,SqT.of ha,rfl⟩,_,rfl,.inl ⟨rfl,_,rfl,?_⟩⟩;have q':Q (.bl (decide (ds.length=n)&&qy wd (ds.getD 0 .none))) H:=q;by_cases h2:ds.length=n
  ·rw[Jz h2]at q';have e:decide (V.int ((xs.length:Nat):Int)=V.int (n:Int))=true:=Jz (by rw[L_,h2]);rw[e];obtain⟨x0,hx0⟩:∃x0,xs[0]? =B' x0:=⟨_,Jm (by lia)⟩;have r0:=eJ hx hx0;refine aW ⟨_,rfl,.inr (.inl ⟨a,xs,0,x0,rfl,rfl,SqT.of ha,aZ hx0,_,rfl,.inr ⟨_,_,r0,bS wd,Xv ds rfl,hws,?_⟩⟩)⟩;rw[yf];exact q'
  ·rw[Jj h2]at q';have e:decide (V.int ((xs.length:Nat):Int)=V.int (n:Int))=false:=Jj λz=>h2 (by have:=V.int.inj z;lia);rw[e];exact aQ q'
 |_=>exact aQ q
def uC:aH ["sentence","place"] ["sentence","place"] (ap sG):=fb
def zc(F:Fun K "given_set" "given_set" sG f fd)(T:rf mg)(QS:Fe P w K mg base 2 "is_place" kN):FnOk P w K mg base dh 3 f fd ["sentence","place"] uy:=by
 have sc:=uC;refine F.okA uC λMG A outer s H vs Q E hr h=>?_;obtain⟨p,q,t,v,d,xs,cs,rfl,hp,hq,hcs,h9,hd,q'⟩:=h;have L_:=hcs.length;refine⟨_,(af (aR (bG<|bq<|cu QS hr<|aa (pv 1)<|aa (au bh rfl T.len Kt<|aa (aG ay (pv 0) ah λ_ _=>rfl) ae) ae) (ai<|ax bR) az)
  (ai<|ax<|aG ay (aG ay (pv 0) ah λ_ _=>rfl) (pv 1) λ_ _=>rfl)),?_⟩
 refine⟨_,rfl,_,rfl,.inr<|.inl ⟨p,_,1,.ref q,rfl,rfl,SqT.of hp,rfl,.ref q,_,rfl,.inl ⟨_,SqL.of hq,rfl⟩,v,d,xs.length,rfl,hd,_,rfl,?_⟩⟩;rw[<-L_];cases g:bj cs.length d with
 |none=>
  rw[g]at q';exact aW<|q' _ rfl
 |some i=>
  rw[g]at q';obtain⟨hi,rfl⟩:=ce g;obtain rfl:=a_ hd;obtain⟨x,hx⟩:∃x,xs[i]? =B' x:=⟨_,Jm (by lia)⟩;obtain⟨c,hc,T6⟩:=hcs.get hx;have e:cs.getD i []=c:=by rw[Jr,hc];rfl
  refine aQ ⟨_,rfl,.inr<|.inl ⟨p,_,1,.ref q,rfl,rfl,SqT.of hp,rfl,_,rfl,.inl ⟨q,_,_,x,rfl,rfl,SqL.of hq,aZ hx,q' _ ?_⟩⟩⟩;show CL H (cs.getD i []) x
  rw[e];exact T6
def uD:aH ["sentence","hand","place","ahead"] ["sentence","hand","place","ahead"] (ap sH):=fb
def zd(F:Fun K "drop_set" "drop_set" sH f fd)(T:rf mg)(QS:Fe P w K mg base 2 "is_place" kN)(abE:Fe P w K mg base 3 "dropped" nQ):FnOk P w K mg base dh 4 f fd ["sentence","hand","place","ahead"] uz:=by
 have sc:=uD;refine F.okA uD λMG A outer s H vs Q E hr h=>?_;obtain⟨p,a,t,w,hw,v,d,ys,sets,rfl,hp,h9,ha,hs,h8,hok,hd,q'⟩:=h;have L_:=hs.length;refine⟨_,(af (aR (bG<|bq<|cu QS hr<|aa (pv 2)<|aa (au bh rfl T.len Kt<|aa (pv 3) ae) ae) (ai<|ax bR) az)
  (ai<|ax<|cu abE hr<|aa (pv 0)<|aa (pv 1)<|aa (aG ay (pv 3) (pv 2) λ_ _=>rfl) ae)),?_⟩
 exists _,rfl,_,rfl,.ref a,_,rfl,.inl ⟨_,SqL.of ha,rfl⟩,v,d,ys.length,rfl,hd,_,rfl;rw[<-L_];unfold hV at q';cases g:bj sets.length d with
 |none=>
  rw[g]at q';exact aW<|q' _ _ (Same.refl _) rfl
 |some i=>
  rw[g]at q';obtain⟨hi,rfl⟩:=ce g;obtain rfl:=a_ hd;obtain⟨x,hx⟩:∃x,ys[i]? =B' x:=⟨_,Jm (by lia)⟩;obtain⟨c,hc,l,rfl,hl⟩:=hs.get hx;have e:sets.getD i []=c:=by rw[Jr,hc];rfl
  have hck:=hok c<|Jx hc;have T6:=cY hck;refine aQ ⟨_,rfl,_,rfl,_,rfl,_,rfl,.inl ⟨a,_,_,.ref l,rfl,rfl,SqL.of ha,aZ hx,p,l,t,w,hw,c,rfl,hp,by lia,hl,by lia,hck.2,λl2 H2 k2 h2=>q' _ _ k2 ?_⟩⟩;show CL H2 (dg t hw<|sets.getD i []) _
  rw[e];exact⟨l2,rfl,h2⟩
end
def BK(h:bj sets.length d1=Ji):dG t hw sets d1 d2 d3=none:=by
 unfold dG;rw[h]
def BL(h:bj sets.length d2=Ji):dG t hw sets d1 d2 d3=none:=by
 unfold dG;rw[h];cases bj sets.length d1<;>rfl
def BM(h:∀z,d3≠.int z):dG t hw sets d1 d2 d3=none:=by
 unfold dG
 split
 ·rename_i z _ _;exact absurd rfl<|h z
 ·rfl
def BN{t:Str}{hw:JJ}{z:Int}(h1:bj sets.length d1=B' i)(h2:bj sets.length d2=B' j):
  dG t hw sets d1 d2 (.int z)=if d6 t hw (sets.getD i []) (sets.getD j []) z=Je then B' (dF (sets.getD i []) (sets.getD j []) z)else none:=by
 unfold dG;rw[h1,h2]
section
variable {K:IZ}
def uE:aH ["sentence","hand","line","ahead","variable","first","second"] ["sentence","hand","line","ahead"] (ap sI):=fb
def ze(F:Fun K "join_set" "join_set" sI f fd)(T:rf mg)(QW:Fe P w K mg base 1 "is_number" uv)(QS:Fe P w K mg base 2 "is_place" kN)
  (S6:Fe P w K mg base 1 "other_hand" pr) (RC:Fe P w K mg base 2 "variables_of" sC) (U1:Fe P w K mg base 1 "stands_both_ways" yX) (acg:Fe P w K mg base 1 "joined" qP):
  FnOk P w K mg base dh 3 f fd ["sentence","hand","line","ahead"] uA:=by
 have sc:=uE;refine F.okA uE λMG A outer s H vs Q E hr h=>?_;obtain⟨p,a,b,t,w,hw,x0,x1,x2,x3,d1,d2,d3,ys,sets,rfl,hp,h9,hb,ha,hs,h8,hok,r1,r2,r3,q'⟩:=h;have hu:=hr.units;have L_:=hs.length;refine⟨_,(af (ar (i:=4) sc.nd rfl (JD rfl)<|aG ay (pv 2) ah λ_ _=>rfl)
  (af (aR (PW.pt<|gL (bG<|bq<|cu QS hr<|aa (aG ay (pv 2) ah λ_ _=>rfl)<|aa (au bh rfl T.len Kt<|aa (pv 3) ae) ae)<|gL (bG<|bq<|cu QS hr<|aa (aG ay (pv 2) ah λ_ _=>rfl)<|aa (au bh rfl T.len Kt<|aa (pv 3) ae) ae)<|gO<|bG<|bq<|cu QW hr<|aa (pv 4) ae) (ai<|ax bR) az)
  (af (ar (i:=5) sc.nd rfl (JD rfl)<|aG ay (pv 3) (aG ay (pv 2) ah λ_ _=>rfl) λ_ _=>rfl)
  (af (ar (i:=6) sc.nd rfl (JD rfl)<|aG ay (pv 3) (aG ay (pv 2) ah λ_ _=>rfl) λ_ _=>rfl)
  (af (aR (PW.pt<|gL (aq cK (pv 4) (cu RC hr<|aa (pv 0)<|aa (cu S6 hr<|aa (pv 1) ae) ae)<|by with_unfolding_all rfl)<|gL (aq cK (pv 4) (pv 5)<|by with_unfolding_all rfl)<|gO<|aq cK (cp bD<|pv 4) (pv 6)<|by with_unfolding_all rfl) (ai<|ax bR) az)
  (af (aR (bq<|cu U1 hr<|aa (pv 5)<|aa (pv 6)<|aa (pv 4) ae) (ai<|ax bR) az)
  (ai<|ax<|cu acg hr<|aa (pv 5)<|aa (pv 6)<|aa (pv 4) ae))))))),?_⟩
 refine⟨_,rfl,.inr<|.inl ⟨b,_,3,x3,rfl,rfl,SqT.of hb,rfl,?_⟩⟩;refine⟨_,rfl,.inr<|.inl ⟨b,_,1,x1,rfl,rfl,SqT.of hb,rfl,_,rfl,.ref a,_,rfl,.inl ⟨_,SqL.of ha,rfl⟩,x1,d1,ys.length,rfl,r1,_,rfl,?_⟩⟩;rw[<-L_];cases g1':bj sets.length d1 with
 |none=>
  rw[BK g1']at q';exact aW<|aW<|q' _ _ (Same.refl _) rfl
 |some i=>
 refine aQ ⟨_,rfl,.inr<|.inl ⟨b,_,2,x2,rfl,rfl,SqT.of hb,rfl,_,rfl,.ref a,_,rfl,.inl ⟨_,SqL.of ha,rfl⟩,x2,d2,ys.length,rfl,r2,_,rfl,?_⟩⟩;rw[<-L_];cases g2':bj sets.length d2 with
 |none=>
  rw[BL g2']at q';exact aW<|aW<|q' _ _ (Same.refl _) rfl
 |some j=>
 refine aQ ⟨_,rfl,x3,d3,rfl,r3,_,rfl,?_⟩;obtain⟨z,rfl⟩|hn:=oP d3
 rotate_left
 ·rw[oO hn,BM hn]at*;exact aW<|q' _ _ (Same.refl _) rfl
 obtain rfl:=a_ r3;rw[BN g1' g2']at q';obtain⟨hi,rfl⟩:=ce g1';obtain⟨hj,rfl⟩:=ce g2';obtain rfl:=a_ r1;obtain rfl:=a_ r2;obtain⟨y1,hy1⟩:∃x,ys[i]? =B' x:=⟨_,Jm (by lia)⟩;obtain⟨y2,hy2⟩:∃x,ys[j]? =B' x:=⟨_,Jm (by lia)⟩;obtain⟨fs,hf,l1,rfl,SI⟩:=hs.get hy1;obtain⟨ss,hss,l2,rfl,YD⟩:=hs.get hy2;have ef:sets.getD i []=fs:=by rw[Jr,hf];rfl
 have es:sets.getD j []=ss:=by rw[Jr,hss];rfl
 rw[ef,es]at q';have of:=hok fs<|Jx hf;have os:=hok ss<|Jx hss;have cf:=cY of;have cs:=cY os;refine aQ ?_;refine⟨_,rfl,_,rfl,.inr<|.inl ⟨b,_,1,.int (i:Int),rfl,rfl,SqT.of hb,rfl,.inl ⟨a,_,_,.ref l1,rfl,rfl,SqL.of ha,aZ hy1,?_⟩⟩⟩;refine⟨_,rfl,_,rfl,.inr<|.inl ⟨b,_,2,.int (j:Int),rfl,rfl,SqT.of hb,rfl,.inl ⟨a,_,_,.ref l2,rfl,rfl,SqL.of ha,aZ hy2,?_⟩⟩⟩;have q0:d6 t hw fs ss z=Jg->∀H',Same H H'->Q .non H':=λe H' k=>by
  rw[e]at q';exact q' _ _ k rfl
 refine⟨_,rfl,_,rfl,_,rfl,hw,rfl,p,t,w,!hw,rfl,hp,by lia,λl H1 k1 hl=>?_⟩;exists l,_,rfl,.inl<|SqL.of hl,rfl,cF _,_,rfl;show(if(!re (.int z) ((dw t (!hw)).map V.int))=Je then _ else _)
 rw[c8];cases c1:(dw t (!hw)).contains z with
 |false=>exact aW<|aW<|q0 (by unfold d6;rw[c1];rfl) _ k1
 |true=>
 refine aQ ⟨_,rfl,_,rfl,l1,_,rfl,.inr<|SqT.of<|k1 _ _ SI,rfl,cF _,_,rfl,?_⟩;show(if(!re (.int z) (fs.map V.int))=Je then _ else _)
 rw[c8];cases c2:fs.contains z with
 |false=>exact aW<|aW<|q0 (by unfold d6;rw[c1,c2];rfl) _ k1
 |true=>
 refine aQ ⟨_,rfl,_,rfl,_,rfl,l2,_,rfl,.inr<|SqT.of<|k1 _ _ YD,rfl,cF _,_,rfl,?_⟩;show(if(!re (.int (-z)) (ss.map V.int))=Je then _ else _)
 rw[c8];cases c3:ss.contains (-z)with
 |false=>exact aW<|q0 (by unfold d6;rw[c1,c2,c3];rfl) _ k1
 |true=>
 refine aQ ⟨_,rfl,_,rfl,_,rfl,l1,l2,fs,ss,z,rfl,k1 _ _ SI,k1 _ _ YD,by lia,by lia,λH2 k2=>⟨_,rfl,?_⟩⟩;cases c4:eW fs ss z with
 |true=>exact aW<|q0 (by unfold d6;rw[c1,c2,c3,c4];rfl) _<|k1.trans k2
 |false=>
 have ej:d6 t hw fs ss z=true:=by unfold d6;rw[c1,c2,c3,c4];rfl
 rw[ej]at q';refine aQ ⟨_,rfl,_,rfl,_,rfl,l1,l2,fs,ss,z,rfl,k2 _ _<|k1 _ _ SI,k2 _ _<|k1 _ _ YD,by lia,of.1,os.1,c4,λl3 r H3 k3 hj3 h3=>q' _ _ ((k1.trans k2).trans k3) ?_⟩;rw[hj3.eq of.1 os.1 c4]at h3;exact⟨l3,rfl,h3⟩
end
def gF(h:∀N,(∀σ' H',B D σ' H'->N σ' H')->A {D with nx:=N} σ H):wM A B D σ H:=h (λσ H=>B D σ H) λ_ _ z=>z
abbrev sJ:Lh:=top 28
abbrev sK:Lh:=top 29
abbrev sL:Lh:=top 30
abbrev zf:Lh:=top 33
inductive zg (vs:IW V)(H:Hp)(Q:VK):Prop
 |mk (l tc:I_)(c kc:IW Int)(h0:vs=[.ref l,.ref tc])(h1:sD H l c)(h2:sD H tc kc)(h3:Q (.bl (c.any λz=>kc.contains z)) H):zg vs H Q
def uF:Sp:=λvs H Q _=>zg vs H Q
inductive CV (H:Hp)(l tc:I_)(c kc:IW Int)(i:Nat)(σ:St)(H2:Hp):Prop
 |mk (v2:Jd V)(h0:σ=[B' (.ref l),B' (.ref tc),v2])(h1:H2=H)(h2:((c.take i).any λz=>kc.contains z)=Jg):CV H l tc c kc i σ H2
inductive zh (vs:IW V)(H:Hp)(Q:VK):Prop
 |mk (l q:I_)(c:IW Int)(xs:IW V)(cs:IW (IW Int))(h0:vs=[.ref l,.ref q])(h1:sD H l c)(h2:c.length<=60)(h3:H q=B' (.lst xs))(h4:CLs H cs xs)(h5:cs.length<=900)(h6:∀H',Same H H'->Q (.bl<|lM c cs) H'):zh vs H Q
def uG:Sp:=λvs H Q _=>zh vs H Q
inductive zi (vs:IW V)(H:Hp)(Q:VK):Prop
 |mk (p q:I_)(t:Str)(v:V)(d:Jw)(xs:IW V)(cs:IW (IW Int))(h0:vs=[.ref p,v])(h1:H p=B' (.tup [.str t,.ref q]))(h2:t.length<=30)(h3:H q=B' (.lst xs))(h4:CLs H cs xs)(h5:cs.length<=900)(h6:RD H d v)(h7:∀v' H',Same H H'->RV H' (jc t.length cs d) v'->Q v' H'):zi vs H Q
def uH:Sp:=λvs H Q _=>zi vs H Q
def eT(d:Jw):Prop:=∀ds,d=.tuple ds->KI (ds.getD 0 .none)=Je
inductive CY (vs:IW V)(H:Hp)(Q:VK):Prop
 |mk (p q a:I_)(t:Str)(hw:JJ)(v:V)(d:Jw)(xs ys:IW V)(cs sets:IW (IW Int))(h0:vs=[.ref p,.str<|aK hw,v,.ref a])(h1:H p=B' (.tup [.str t,.ref q]))(h2:t.length<=30)(h3:H q=B' (.lst xs))(h4:CLs H cs xs)(h5:cs.length<=900)(h6:H a=B' (.lst ys))(h7:CLs H sets ys)(h8:sets.length<=900)(h9:(∀c∈sets,aV t.length c))(h10:RD H d v)(h11:eT d)(h12:∀v' H',Same H H'->RV H' (aO t cs hw sets d) v'->Q v' H'):CY vs H Q
def sM:Sp:=λvs H Q _=>CY vs H Q
def ia(h:dJ H ds xs)(hl:ds.length=4):∃d0 d1 d2 d3 x0 x1 x2 x3,ds=[d0,d1,d2,d3]/\xs=[x0,x1,x2,x3]/\RD H d0 x0/\RD H d1 x1/\RD H d2 x2/\RD H d3 x3:=by
 match ds,hl with
 |[d0,d1,d2,d3],_=>
  obtain⟨x0,r0,rfl,h0,k0⟩:=aN h;obtain⟨x1,r1,rfl,h1,k1⟩:=aN k0;obtain⟨x2,r2,rfl,h2,k2⟩:=aN k1;obtain⟨x3,r3,rfl,h3,k3⟩:=aN k2;obtain rfl:=bY k3;exact⟨_,_,_,_,x0,x1,x2,x3,rfl,rfl,h0,h1,h2,h3⟩
def EL:KI (.str aY)=true:=Nice.shaped (bx 8<|by decide+kernel)
def sN:KI (.str aF)=true:=Nice.shaped (bx 8<|by decide+kernel)
def EM:KI (.str br)=true:=Nice.shaped (bx 8<|by decide+kernel)
def BO:KI (.str aT)=true:=Nice.shaped (bx 8<|by decide+kernel)
def BP{α:Type}(l:IW α)(f:α->JJ):((l.map λx=>V.bl<|f x).all xl)=Je/\(l.map λx=>V.bl<|f x).all iU=l.all f:=by
 refine⟨by rw[SE];exact Md.mpr λ_ _=>rfl,?_⟩;rw[SE];rfl
def zj(H:Hp)(c:IW Int)(x:V):JJ:=match x with
 |.ref p=>match H p with
  |some (.tup zs)=>c.any λl=>zs.contains<|.int l
  |_=>Jg
 |_=>Jg
def zk(zs:IW Int)(l:Int):(zs.map V.int).contains (.int l)=zs.contains l:=by grind
def uI(h:CL H k x):zj H c x=c.any λl=>k.contains l:=by
 obtain⟨p,rfl,hp⟩:=h;unfold zj;simp only [hp];exact gx λl _=>zk k l
theorem qS:∀{cs:IW (IW Int)} {xs:IW V},CLs H cs xs->xs.all (zj H c)=lM c cs
 |_,_,.nil=>rfl
 |k::cs,x::xs,.cons h t=>by
  rw[Ul,uI h,qS t];rfl
section
variable {K:IZ}
def uJ:aH ["literals","clause","literal"] ["literals","clause"] (ap sJ):=fb
def zl(F:Fun K "hits" "hits" sJ f fd):FnOk P w K mg base dh 1 f fd ["literals","clause"] uF:=by
 have sc:=uJ;refine F.okA uJ λMG A outer s H vs Q E hr h=>?_;obtain⟨l,tc,c,kc,rfl,hl,Wn,q⟩:=h;refine⟨_,(af (cZ KU rfl (d_<|pv 0) (aB (i:=2) sc.nd rfl<|JD rfl)
   (ai<|aR (aq mO (pv 2) (pv 1)<|by with_unfolding_all rfl) (ai<|ax fi) az))
  (ai<|ax fi)),?_⟩
 refine⟨_,rfl,l,rfl,⟨_,SqT.of hl⟩,s_ (K:=K) (a:=l) (xs:=c.map V.int) (CV H l tc c kc) ⟨Ji,rfl,rfl,rfl⟩ ?_ ?_ ?_⟩
 ·rintro i σ H2 _ ⟨_,_,rfl,_⟩;exact SqT.of hl
 ·rintro i x σ H2 hx ⟨v2,rfl,rfl,ha⟩;obtain⟨z,rfl,hz⟩:=ft hx;have e:(if Jg=Je then !re (.int z) (kc.map V.int)else re (.int z) (kc.map V.int))=kc.contains z:=by
   rw[JK JR,c8]
  exists _,rfl,_,rfl,tc,_,rfl,.inr<|SqT.of Wn,rfl,cF kc,_,rfl;rw[e];cases g:kc.contains z with
  |true=>
   refine aW ?_;have e2:(c.any λz=>kc.contains z)=true:=MY.mpr ⟨z,Jx hz,g⟩;rw[e2]at q;exact q
  |false=>
   refine aQ ⟨_,rfl,rfl,?_⟩;rw[KQ,hz,List.any_append,ha];show(kc.contains z || Jg)=Jg
   rw[g];rfl
 ·rintro σ H2 ⟨v2,rfl,rfl,ha⟩;rw[JY<|by rw[Jc];exact Jh _]at ha;rw[ha]at q;exact q
def uK:aH ["literals","clauses"] ["literals","clauses"] (ap sK):=fb
def zm(F:Fun K "hits_each" "hits_each" sK f fd)(T:rf mg)(afa:Fe P w K mg base 1 "hits" uF):FnOk P w K mg base dh 2 f fd ["literals","clauses"] uG:=by
 have sc:=uK;refine F.okA uK λMG A outer s H vs Q E hr h=>?_;obtain⟨l,q,c,xs,cs,rfl,hl,hc,hq,hcs,h9,q'⟩:=h;have hu:=hr.units;have L_:=hcs.length;exists _,(ai<|ax<|au (xn rfl) rfl T.all Y8<|aa (bJ (NY:=["clause","literals"]) (idx:=[Ji,B' 0]) rfl cS (cg<|pv 1) (λ_ _ _ _=>(aB (i:=0) (nD ["clause","literals"]) rfl<|JD rfl)) (λ_ _ _ _=>dm) λ_ _ _ _=>(cu afa hr<|aa (pv 1)<|aa (pv 0) ae)) ae);refine⟨_,rfl,q,rfl,⟨_,SqL.of hq⟩,λD hD=>?_⟩;refine gy [B'<|.ref l] (λ_=>Je) (λx=>.bl<|zj H c x) rfl hq hD (by lia) ?_ ?_ ?_
 ·intro x hx H' R k r;exact r
 ·intro x hx _ H' R k r;obtain⟨i,hi⟩:=NI.mp hx;obtain⟨kc,_,T6⟩:=hcs.get hi;rw[uI T6]at r;obtain⟨tc,rfl,Wn⟩:=T6;exact⟨_,rfl,_,rfl,l,tc,c,kc,rfl,k _ _ hl,k _ _ Wn,r⟩
 ·have e1:(xs.filter λ_=>Je)=xs:=List.filter_eq_self.mpr λ_ _=>rfl;rw[e1];have e:=BP xs<|zj H c;exists D,_,rfl,SqL.of ad,e.1;rw[e.2,qS hcs];exact q' _<|ag hD _
def uL:aH ["sentence","literals"] ["sentence","literals"] (ap sL):=fb
def zn(F:Fun K "hits_set" "hits_set" sL f fd)(T:rf mg)(ach:Fe P w K mg base 2 "is_set" CO)(Z0:Fe P w K mg base 2 "hits_each" uG):FnOk P w K mg base dh 3 f fd ["sentence","literals"] uH:=by
 have sc:=uL;refine F.okA uL λMG A outer s H vs Q E hr h=>?_;obtain⟨p,q,t,v,d,xs,cs,rfl,hp,ht,hq,hcs,h9,hd,q'⟩:=h;have hu:=hr.units;refine⟨_,(af (aR (PW.pt<|gL (bG<|bq<|cu ach hr<|aa (pv 1)<|aa (au bh rfl T.len Kt<|aa (aG ay (pv 0) ah λ_ _=>rfl) ae) ae)<|gO<|bG<|bq<|cu Z0 hr<|aa (pv 1)<|aa (aG ay (pv 0) ah λ_ _=>rfl) ae) (ai<|ax bR) az)
  (ai<|ax<|pv 1)),?_⟩
 refine⟨_,rfl,_,rfl,.inr<|.inl ⟨p,_,0,.str t,rfl,rfl,SqT.of hp,rfl,.str t,_,rfl,⟨K_ (aE<|by lia),rfl⟩,v,d,_,rfl,hd,_,rfl,?_⟩⟩;unfold jc at q';cases g:mB (t.length:Int) d with
 |false=>
  rw[g]at q';exact aW<|aW<|q' _ _ (Same.refl _) rfl
 |true=>
 obtain⟨ed,ok⟩:=t_ g;have T6:CL H (j6 d) v:=CL.of (by rw[<-ed];exact hd);obtain⟨l,rfl,hl⟩:=T6;have L_:=cY ok;refine aQ ⟨_,rfl,_,rfl,.inr<|.inl ⟨p,_,1,.ref q,rfl,rfl,SqT.of hp,rfl,l,q,j6 d,xs,cs,rfl,hl,by lia,hq,hcs,h9,λH1 k1=>⟨_,rfl,?_⟩⟩⟩;rw[g,Yg]at q';cases g2:lM (j6 d) cs with
 |false=>
  rw[g2]at q';exact aW<|q' _ _ k1 rfl
 |true=>
  rw[g2]at q';exact aQ ⟨_,rfl,q' _ _ k1 ⟨l,rfl,k1 _ _ hl⟩⟩
def zo:aH ["sentence","hand","line","ahead"] ["sentence","hand","line","ahead"] (ap zf):=fb
def BQ(F:Fun K "line_set" "line_set" zf f fd)(T:HB mg)(QK:Fe P w K mg base 1 "begins_with" y6)(Z1:Fe P w K mg base 3 "given_set" uy)
  (aaV:Fe P w K mg base 3 "hits_set" uH) (aaU:Fe P w K mg base 3 "join_set" uA) (aaW:Fe P w K mg base 4 "drop_set" uz):FnOk P w K mg base dh 5 f fd ["sentence","hand","line","ahead"] sM:=by
 have sc:=zo;refine F.okA zo λMG A outer s H vs Q E hr h=>?_;obtain⟨p,q,a,t,hw,v,d,xs,ys,cs,sets,rfl,hp,ht,hq,hcs,h9,ha,hs,h8,hok,hd,Xv,q'⟩:=h;have hu:=hr.units;refine⟨_,(af (aR (PW.pt<|dI (aq (aS hu) (pv 1) (bB rfl T.g_SPOILER)<|aA _)<|c6<|bq<|cu QK hr<|aa (pv 2)<|aa aC<|aa ah ae) (ai<|ax<|cu Z1 hr<|aa (pv 0)<|aa (aG ay (pv 2) ah λ_ _=>rfl) ae) az)
  (af (aR (PW.pt<|dI (aq (aS hu) (pv 1) (bB rfl T.g_WISHER)<|aA _)<|c6<|bq<|cu QK hr<|aa (pv 2)<|aa aC<|aa ah ae) (ai<|ax<|cu aaV hr<|aa (pv 0)<|aa (aG ay (pv 2) ah λ_ _=>rfl) ae) az)
  (af (aR (bq<|cu QK hr<|aa (pv 2)<|aa aC<|aa ah ae) (ai<|ax<|cu aaU hr<|aa (pv 0)<|aa (pv 1)<|aa (pv 2)<|aa (pv 3) ae) az)
  (af (aR (bq<|cu QK hr<|aa (pv 2)<|aa aC<|aa ah ae) (ai<|ax<|cu aaW hr<|aa (pv 0)<|aa (pv 1)<|aa (aG ay (pv 2) ah λ_ _=>rfl)<|aa (pv 3) ae) az)
  (ai<|ax bR))))),?_⟩
 have ew:decide (V.str (aK hw)=V.str (I0 "wisher"))=hw:=by
  have z:=g_ hw Je;have z2:aK Je=I0 "wisher":=rfl;rw[z2]at z;rw[z];cases hw<;>rfl
 have es:decide (V.str (aK hw)=V.str (I0 "spoiler"))=!hw:=by
  have z:=g_ hw Jg;have z2:aK Jg=I0 "spoiler":=rfl;rw[z2]at z;rw[z];cases hw<;>rfl
 refine gF λN hN=>?_;have hN':(!hw&&bM aT 2 d)=Jg->N (L2.start ["sentence","hand","line","ahead"] [.ref p,.str<|aK hw,v,.ref a]) H:=λc1=>hN _ _ (by
  refine gF λN2 hN2=>?_;have ae5:(hw&&bM br 2 d)=Jg->N2 (L2.start ["sentence","hand","line","ahead"] [.ref p,.str<|aK hw,v,.ref a]) H:=λc2=>hN2 _ _ (by
   have eL:aO t cs hw sets d=if bM aY 4 d=Je then dG t hw sets (hW d 1) (hW d 2) (hW d 3)else if bM aF 2 d=Je then hV t hw sets (hW d 1)else none:=by
    unfold aO;rw[c1,c2];rfl
   rw[eL]at q';exists _,rfl,v,d,aY,4,rfl,hd,by decide,EL,Xv,_,rfl;cases c3:bM aY 4 d with
   |true=>
    rw[c3,JL rfl]at q';obtain⟨ds,rfl,hl⟩:=jd c3;obtain⟨b,zs,rfl,hb,hz⟩:=aM hd;obtain⟨d0,d1,d2,d3,x0,x1,x2,x3,rfl,rfl,r0,r1,r2,r3⟩:=ia hz hl;exact aW ⟨_,rfl,_,rfl,_,rfl,_,rfl,p,a,b,t,_,hw,x0,x1,x2,x3,d1,d2,d3,ys,sets,rfl,hp,ht,hb,ha,hs,h8,hok,r1,r2,r3,q'⟩
   |false=>
   rw[c3,JK JR]at q';refine aQ ⟨_,rfl,v,d,aF,2,rfl,hd,by decide,sN,Xv,_,rfl,?_⟩;cases c4:bM aF 2 d with
   |true=>
    rw[c4,JL rfl]at q';obtain⟨ds,rfl,hl⟩:=jd c4;obtain⟨b,zs,rfl,hb,hz⟩:=aM hd;obtain⟨d0,d1,x0,x1,rfl,rfl,r0,r1⟩:=cQ hz hl;exact aW ⟨_,rfl,_,rfl,_,rfl,.inr<|.inl ⟨b,_,1,x1,rfl,rfl,SqT.of hb,rfl,_,rfl,p,a,t,_,hw,x1,d1,ys,sets,rfl,hp,ht,ha,hs,h8,hok,r1,q'⟩⟩
   |false=>
    rw[c4,JK JR]at q';exact aQ<|q' _ _ (Same.refl _) rfl)
  refine⟨_,rfl,.inl ⟨rfl,_,rfl,?_⟩⟩;dsimp only;rw[ew];cases hw with
  |false=>exact aQ<|aQ<|ae5 rfl
  |true=>
  refine aW ⟨_,rfl,v,d,br,2,rfl,hd,by decide,EM,Xv,_,rfl,?_⟩;cases c2:bM br 2 d with
  |false=>exact aQ<|ae5 c2
  |true=>
   have eL:aO t cs Je sets d=jc t.length cs (hW d 1):=by
    unfold aO;rw[c2];rfl
   rw[eL]at q';obtain⟨ds,rfl,hl⟩:=jd c2;obtain⟨b,zs,rfl,hb,hz⟩:=aM hd;obtain⟨d0,d1,x0,x1,rfl,rfl,r0,r1⟩:=cQ hz hl;exact aW ⟨_,rfl,_,rfl,.inr<|.inl ⟨b,_,1,x1,rfl,rfl,SqT.of hb,rfl,p,q,t,x1,d1,xs,cs,rfl,hp,ht,hq,hcs,h9,r1,q'⟩⟩)
 refine⟨_,rfl,.inl ⟨rfl,_,rfl,?_⟩⟩;dsimp only;rw[es];cases hw with
 |true=>exact aQ<|aQ<|hN' rfl
 |false=>
 refine aW ⟨_,rfl,v,d,aT,2,rfl,hd,by decide,BO,Xv,_,rfl,?_⟩;cases c1:bM aT 2 d with
 |false=>exact aQ<|hN' c1
 |true=>
  have eL:aO t cs Jg sets d=lN cs (hW d 1):=by
   unfold aO;rw[c1];rfl
  rw[eL]at q';obtain⟨ds,rfl,hl⟩:=jd c1;obtain⟨b,zs,rfl,hb,hz⟩:=aM hd;obtain⟨d0,d1,x0,x1,rfl,rfl,r0,r1⟩:=cQ hz hl;exact aW ⟨_,rfl,_,rfl,.inr<|.inl ⟨b,_,1,x1,rfl,rfl,SqT.of hb,rfl,p,q,_,x1,d1,xs,cs,rfl,hp,hq,hcs,h9,r1,λv' hv=>q' _ _ (Same.refl _) hv⟩⟩
end
abbrev kO:Lh:=top 34
structure Ir (mg:Str->Jd IX):Prop where
 enumerate:mg "enumerate"=Ji
inductive uM (vs:IW V)(H:Hp)(Q:VK):Prop
 |mk (p q pp la:I_)(t:Str)(hw:JJ)(xs ls:IW V)(cs:IW (IW Int))(ds:IW Jw)(out:IW (IW Int))(h0:vs=[.ref p,.ref pp])(h1:H p=B' (.tup [.str t,.ref q]))(h2:t.length<=30)(h3:H q=B' (.lst xs))(h4:CLs H cs xs)(h5:cs.length<=900)(h6:(∀c∈cs,aV t.length c))(h7:H pp=B' (.tup [.str<|aK hw,.ref la]))(h8:H la=B' (.lst ls))(h9:dJ H ds ls)(h10:ds.length<=900)(h11:(∀d∈ds,eT d))(h12:bu t cs hw [] ds=(out,Je))(h13:∀l ys H',Same H H'->H l=Ji->H' l=B' (.lst ys)->CLs H' out ys->Q (.ref l) H'):uM vs H Q
def ib:Sp:=λvs H Q _=>uM vs H Q
section
variable {K:IZ}
def jn:aH ["sentence","paper","sets","place","line","literals"] ["sentence","paper"] (ap kO):=fb
inductive iK (p:I_)(pp:I_)(sl:I_)(t:Str)(cs:IW (IW Int))(hw:JJ)(ds:IW Jw)(H:Hp)(i:Nat)(σ:IW (Jd V))(G:Hp):Prop
 |mk (x3:Jd V)(x4:Jd V)(x5:Jd V)(ys:IW V)(sets:IW (IW Int))(i0:σ=[B'<|.ref p,B'<|.ref pp,B'<|.ref sl,x3,x4,x5])(i1:G sl=B' (.lst ys))(i2:CLs G sets ys)(i3:bu t cs hw [] (ds.take i)=(sets,Je))(i4:Same H G):iK p pp sl t cs hw ds H i σ G
def wp(F:Fun K "sets_of" "sets_of" kO f fd)(T:Ir mg)(VI:Fe P w K mg base 5 "line_set" sM):FnOk P w K mg base dh 6 f fd ["sentence","paper"] ib:=by
 have sc:=jn;refine F.okA jn λMG A outer s H vs Q E hr h=>?_;obtain⟨p,q,pp,la,t,hw,xs,ls,cs,ds,out,rfl,hp,ht,hq,hcs,h9,hcok,hpp,hla,hds,h8,Xv,Nv,q'⟩:=h;have hu:=hr.units;have L_:=cB hds;refine⟨_,(af (ar (i:=2) sc.nd rfl (JD rfl)<|aP ae)
  (af (cZ KU rfl (kr rfl T.enumerate<|aG ay (pv 1) ah λ_ _=>rfl) (jy rfl<|bd (aB (i:=3) sc.nd rfl<|JD rfl)<|bd (aB (i:=4) sc.nd rfl<|JD rfl) eE)
   (af (ar (i:=5) sc.nd rfl (JD rfl)<|cu VI hr<|aa (pv 0)<|aa (aG ay (pv 1) ah λ_ _=>rfl)<|aa (pv 4)<|aa (pv 2) ae)
   (af (aR (aq rp (pv 5) bR<|aA _) (ai aX) az)
   (ai<|cy<|eN Kg Ki Kq bO (pv 2)<|aa (pv 5) ae))))
  (ai<|ax<|pv 2))),?_⟩
 refine⟨JQ _,λsl WJ=>?_⟩;have k1:=ag WJ<|.lst [];refine⟨_,rfl,.inr<|.inl ⟨pp,_,1,.ref la,rfl,rfl,SqT.of<|k1 _ _ hpp,rfl,la,rfl,⟨_,SqL.of<|k1 _ _ hla⟩,?_⟩⟩;refine lq (K:=K) (a:=la) (xs:=ls) (iK p pp sl t cs hw ds H)
  ⟨Ji,Ji,Ji,[],[],rfl,ad,.nil,rfl,k1⟩ ?_ ?_ ?_
 ·rintro i σ G _ ⟨_,_,_,_,_,_,_,_,_,k⟩;exact SqL.of<|k _ _ hla
 ·rintro i x σ G t1 hx ⟨x3,x4,x5,ys,sets,rfl,g1,g2,g3,kG⟩ ht1;have Ue:i < ls.length:=(Jk.mp hx).1;have rx:=eJ hds hx;have hd:=getD_some (d:=Nr) (show i < ds.length by lia);generalize ds.getD i .none=d at rx hd;have hdm:d∈ds:=Jx hd;have k2:Same G (upd G t1<|.tup [.int i,x]):=ag ht1 _;have kH:=kG.trans k2;have hct:=cb g3;rw[J9,Lk]at hct;have hso:∀c∈sets,aV t.length c:=by
   have:=oS (hw:=hw) hcok (ds:=ds.take i) (sets:=[]) λ_ h=>nomatch h;rw[g3]at this;exact this
  exists t1,_,rfl,SqT.of ad,rfl,_,_,rfl,_,_,rfl,rfl;refine⟨_,rfl,_,rfl,.inr<|.inl ⟨pp,_,0,.str<|aK hw,rfl,rfl,SqT.of<|kH _ _ hpp,rfl,_,rfl,_,rfl,p,q,sl,t,hw,x,d,xs,ys,cs,sets,rfl,kH _ _ hp,ht,kH _ _ hq,hcs.mono kH,h9,k2 _ _ g1,g2.mono k2,by lia,hso,oF kH _ _ rx,Xv d hdm,λv' H3 k3 hv=>?_⟩⟩;cases hl:aO t cs hw sets d with
  |none=>
   rw[oU g3 hd hl]at Nv;cases Nv
  |some c=>
   rw[hl]at hv;obtain⟨tc,rfl,Wn⟩:=hv;have kH3:=kH.trans k3;have g4:=k3 _ _<|k2 _ _ g1;refine⟨_,rfl,rfl,_,rfl,aQ ?_⟩;exists _,rfl,.inl ⟨rfl,_,SqL.of g4⟩,_,rfl,sl,_,_,rfl,rfl,g4,(by rw[<-g2.length];exact aE<|by lia);refine⟨_,_,_,ys++[.ref tc],sets++[c],rfl,ad,CLs.snoc (CL.upd ⟨tc,rfl,Wn⟩ g4)<|(g2.mono<|k2.trans k3).upd g4,run_next g3 hd hl,λb o e=>?_⟩;rw[ao<|aj e WJ];exact kH3 _ _ e
 ·rintro σ G ⟨x3,x4,x5,ys,sets,rfl,g1,g2,g3,kG⟩;rw[JY (by lia),Nv]at g3;cases g3;exact⟨_,rfl,q' _ _ _ kG WJ g1 g2⟩
end
abbrev zp:Lh:=AO (top 4) 0
structure CZ (K:IZ)(mg:Str->Jd IX)(CB CD:I_):Prop where
 g_DuelError:eV mg "DuelError" (.ref CD)
 up:yt K CD
 cls:∃cd,ML K CB=B' cd
 mv:J5 K CB (.type "ValueError")=B' Je
 put:pe K CB "place"
inductive C0 (CB:I_)(vs:IW V)(H:Hp)(Q:VK):Prop
 |mk (ea:I_)(z:Nat)(h0:vs=[.ref ea,.int (z:Int)])(h1:z<=900)(h2:H ea=B' (gN ea CB Ji))(h3:∀d,H d=Ji->Q .non (upd (upd H ea<|gN ea CB<|B' d) d<|.xd [("place",.int (z:Int))])):C0 CB vs H Q
def zq(CB:I_):Sp:=λvs H Q _=>C0 CB vs H Q
def wq{z:Nat}(h:z<=900):((z:Int)).natAbs.log2 < 1920:=by
 show z.log2 < 1920
 have:=Nat.log2_le_self z;lia
section
variable {K:IZ}
def zr:aH ["self","place"] ["self","place"] (ap zp):=fb
def BR(F:Fun K "__init__" "BadLine.__init__" zp f fd)(T:CZ K mg CB CD):FnOk P w K mg base dh 1 f fd ["self","place"] (zq CB):=by
 have sc:=zr;refine F.okA zr λMG A outer s H vs Q E hr h=>?_;obtain⟨ea,z,rfl,hz,WV,q⟩:=h;refine⟨_,(af (cy<|yw T.up (bB rfl T.g_DuelError)<|aa (pv 0)<|aa (Bs<|pv 1) ae)
  (ai<|Bt (pv 0) (pv 1) rfl)),?_⟩
 refine⟨rfl,_,rfl,_,rfl,_,rfl,wq hz,λy=>⟨ea,CB,Ji,_,rfl,WV,T.cls,T.mv,?_⟩⟩;exact⟨_,rfl,_,rfl,ea,CB,rfl,WV,T.put,λd hd=>q d hd⟩
end
inductive zt (CB:I_)(vs:IW V)(H:Hp)(E:XK):Prop
 |mk (p q pp la:I_)(t:Str)(hw:JJ)(xs ls:IW V)(cs:IW (IW Int))(ds:IW Jw)(out:IW (IW Int))(h0:vs=[.ref p,.ref pp])(h1:H p=B' (.tup [.str t,.ref q]))(h2:t.length<=30)(h3:H q=B' (.lst xs))(h4:CLs H cs xs)(h5:cs.length<=900)(h6:(∀c∈cs,aV t.length c))(h7:H pp=B' (.tup [.str<|aK hw,.ref la]))(h8:H la=B' (.lst ls))(h9:dJ H ds ls)(h10:ds.length<=900)(h11:(∀d∈ds,eT d))(h12:bu t cs hw [] ds=(out,Jg))(h13:∀d H',Same H H'->H' d=B' (.xd [("place",.int (out.length:Int))])->E (.ref CB) (B' d) H'):zt CB vs H E
def cR(CB:I_):Sp:=λvs H _ E=>zt CB vs H E
section
variable {K:IZ}
def zu(F:Fun K "sets_of" "sets_of" kO f fd)(T:Ir mg)(abF:Ip P w K mg base 1 "BadLine" CB g2 e2 ["self","place"] (zq CB))(VI:Fe P w K mg base 5 "line_set" sM):FnOk P w K mg base (iM P w) 6 f fd ["sentence","paper"] (cR CB):=by
 have sc:=jn;refine F.okD jn (λvs H Q E h=>?_) λMG A outer s H vs Q E hr h=>?_
 ·obtain⟨p,q,pp,la,t,hw,xs,ls,cs,ds,out,rfl,_⟩:=h;rfl
 obtain⟨p,q,pp,la,t,hw,xs,ls,cs,ds,out,rfl,hp,ht,hq,hcs,h9,hcok,hpp,hla,hds,h8,Xv,Nv,q'⟩:=h;have hu:=hr.units;have L_:=cB hds;refine⟨_,(af (ar (i:=2) sc.nd rfl (JD rfl)<|aP ae)
  (af (cZ aat rfl (kr rfl T.enumerate<|aG ay (pv 1) ah λ_ _=>rfl) (jy rfl<|bd (aB (i:=3) sc.nd rfl<|JD rfl)<|bd (aB (i:=4) sc.nd rfl<|JD rfl) eE)
   (af (ar (i:=5) sc.nd rfl (JD rfl)<|cu VI hr<|aa (pv 0)<|aa (aG ay (pv 1) ah λ_ _=>rfl)<|aa (pv 4)<|aa (pv 2) ae)
   (af (aR (aq rp (pv 5) bR<|aA _) (ai<|wf abF hr (by lia) rfl<|aa (pv 3) ae) az)
   (ai<|cy<|eN Kg Ki Kq bO (pv 2)<|aa (pv 5) ae))))
  (ai<|ax<|pv 2))),?_⟩
 refine⟨JQ _,λsl WJ=>?_⟩;have k1:=ag WJ<|.lst [];refine⟨_,rfl,.inr<|.inl ⟨pp,_,1,.ref la,rfl,rfl,SqT.of<|k1 _ _ hpp,rfl,la,rfl,⟨_,SqL.of<|k1 _ _ hla⟩,?_⟩⟩;refine lq (K:=K) (a:=la) (xs:=ls) (iK p pp sl t cs hw ds H)
  ⟨Ji,Ji,Ji,[],[],rfl,ad,.nil,rfl,k1⟩ ?_ ?_ ?_
 ·rintro i σ G _ ⟨_,_,_,_,_,_,_,_,_,k⟩;exact SqL.of<|k _ _ hla
 ·rintro i x σ G t1 hx ⟨x3,x4,x5,ys,sets,rfl,g1,g2,g3,kG⟩ ht1;have Ue:i < ls.length:=(Jk.mp hx).1;have rx:=eJ hds hx;have hd:=getD_some (d:=Nr) (show i < ds.length by lia);generalize ds.getD i .none=d at rx hd;have hdm:d∈ds:=Jx hd;have k2:Same G (upd G t1<|.tup [.int i,x]):=ag ht1 _;have kH:=kG.trans k2;have hct:=cb g3;rw[J9,Lk]at hct;have hso:∀c∈sets,aV t.length c:=by
   have:=oS (hw:=hw) hcok (ds:=ds.take i) (sets:=[]) λ_ h=>nomatch h;rw[g3]at this;exact this
  exists t1,_,rfl,SqT.of ad,rfl,_,_,rfl,_,_,rfl,rfl;refine⟨_,rfl,_,rfl,.inr<|.inl ⟨pp,_,0,.str<|aK hw,rfl,rfl,SqT.of<|kH _ _ hpp,rfl,_,rfl,_,rfl,p,q,sl,t,hw,x,d,xs,ys,cs,sets,rfl,kH _ _ hp,ht,kH _ _ hq,hcs.mono kH,h9,k2 _ _ g1,g2.mono k2,by lia,hso,oF kH _ _ rx,Xv d hdm,λv' H3 k3 hv=>?_⟩⟩;cases hl:aO t cs hw sets d with
  |none=>
   rw[hl]at hv;have hb:=oU g3 hd hl;rw[Nv]at hb;cases hb;obtain rfl:v'=.non:=hv;have kH3:=kH.trans k3;have hi:out.length=i:=by lia
   refine⟨_,rfl,rfl,_,rfl,aW ?_⟩;refine⟨_,rfl,(by show 1<=sizeLine;decide),λea WV=>⟨ea,i,rfl,by lia,ad,λdx hdx=>⟨rfl,B' dx,?_,q' dx _ (λb o e=>?_) ?_⟩⟩⟩
   ·rw[ao (λz=>by rw[<-z,ad]at hdx;cases hdx),ad]
   ·have e3:=kH3 _ _ e;have n1:b≠ea:=aj e3 WV;have n2:b≠dx:=λz=>by rw[<-z,ao n1,e3]at hdx;cases hdx
    rw[gC n1,ao n2,ao n1,ao n1];exact e3
   ·have n1:dx≠ea:=λz=>by rw[z,ad]at hdx;cases hdx
    rw[gC n1,ad,hi]
  |some c=>
   rw[hl]at hv;obtain⟨tc,rfl,Wn⟩:=hv;have kH3:=kH.trans k3;have g4:=k3 _ _<|k2 _ _ g1;refine⟨_,rfl,rfl,_,rfl,aQ ?_⟩;exists _,rfl,.inl ⟨rfl,_,SqL.of g4⟩,_,rfl,sl,_,_,rfl,rfl,g4,(by rw[<-g2.length];exact aE<|by lia);refine⟨_,_,_,ys++[.ref tc],sets++[c],rfl,ad,CLs.snoc (CL.upd ⟨tc,rfl,Wn⟩ g4)<|(g2.mono<|k2.trans k3).upd g4,run_next g3 hd hl,λb o e=>?_⟩;rw[ao<|aj e WJ];exact kH3 _ _ e
 ·rintro σ G ⟨x3,x4,x5,ys,sets,rfl,g1,g2,g3,kG⟩;rw[JY (by lia),Nv]at g3;cases g3
end
abbrev EN:Lh:=top 35
def fY(out:IW (IW Int)):JJ:=match out.getLast? with
 |some c=>decide (c=[])
 |none=>Jg
inductive GJ (vs:IW V)(H:Hp)(Q:VK):Prop
 |mk (l:I_)(ys:IW V)(out:IW (IW Int))(h0:vs=[.ref l])(h1:H l=B' (.lst ys))(h2:CLs H out ys)(h3:out.length<=900)(h4:∀H',Same H H'->Q (.bl<|fY out) H'):GJ vs H Q
def zv:Sp:=λvs H Q _=>GJ vs H Q
def zw(ys:IW V):dH ys (B' (-1)) Ji=ys.drop (ys.length - 1):=by
 unfold dH;have e1:HT.sIx ys.length 0 (B' (-1))=ys.length - 1:=by
  unfold HT.sIx;simp;lia
 have e2:HT.sIx ys.length ys.length Ji=ys.length:=rfl;rw[e1,e2];exact JY (by rw[Nz];lia)
def wt(out:IW (IW Int)):out.drop (out.length - 1)=match out.getLast? with|some c=>[c]|none=>[]:=by
 obtain rfl|⟨i,c,rfl⟩:=List.eq_nil_or_concat out
 ·rfl
 ·rw[List.concat_eq_append,JC,Kk,On,List.drop_left];simp
theorem CLs.drop':∀{cs:IW (IW Int)} {xs:IW V} (n:Nat),CLs H cs xs->CLs H (cs.drop n) (xs.drop n)
 |_,_,0,h=>h
 |_,_,n+1,.nil=>.nil
 |_,_,n+1,.cons _ t=>CLs.drop' n t
def BS(out:IW (IW Int)):KC (.list<|(out.drop<|out.length - 1).map gc) (.list [.tuple []])=fY out:=by
 rw[wt];unfold fY;cases out.getLast? with
 |none=>simp [KC,Lr]
 |some c=>
  cases c with
  |nil=>simp [KC,Lr,gc]
  |cons x r=>simp [KC,Lr,gc]
section
variable {K:IZ}
def C_:aH ["sets"] ["sets"] (ap EN):=fb
def EO(F:Fun K "end_empty" "end_empty" EN f fd):FnOk P w K mg base dh 1 f fd ["sets"] zv:=by
 have sc:=C_;refine F.okA C_ λMG A outer s H vs Q E hr h=>?_;obtain⟨l,ys,out,rfl,hl,hs,h9,q⟩:=h;have hu:=hr.units;exists _,(ai<|ax<|eF (aS hu) (gQ iP (pv 0) (eZ<|cp bD ah) kl) (aP<|aa (bf ae) ae)<|aA _);refine⟨_,rfl,_,rfl,_,rfl,l,_,rfl,SqL.of hl,λp2 Y3=>?_⟩;have e:=zw ys;have k2:=ag Y3<|.lst<|dH ys (B' (-1)) Ji;have r2:upd H p2 (.lst<|dH ys (B' (-1)) Ji) p2=B' (.lst<|ys.drop<|ys.length - 1):=by rw[ad,e]
 generalize upd H p2 (.lst<|dH ys (B' (-1)) Ji)=H2 at k2 r2;refine⟨(by show 0<=sizeLine;decide),λet het=>?_⟩;have k3:=ag het<|.tup [];have r3:upd H2 et (.tup []) et=B' (.tup []):=ad;generalize upd H2 et (.tup [])=H3 at k3 r3;refine⟨(by show 1<=sizeLine;decide),λel hel=>?_⟩;have k4:=ag hel<|.lst [.ref et];have r4:upd H3 el (.lst [.ref et]) el=B' (.lst [.ref et]):=ad;generalize upd H3 el (.lst [.ref et])=H4 at k4 r4;have hd:CLs H4 (out.drop<|out.length - 1) (ys.drop<|ys.length - 1):=by
  rw[hs.length];exact CLs.drop' _<|hs.mono<|k2.trans<|k3.trans k4
 refine .inr ⟨.list<|(out.drop<|out.length - 1).map gc,.list [.tuple []],bI ((k3.trans k4) _ _ r2) hd.rds,bI r4<|am (bo (k4 _ _ r3) aJ) aJ,(Nice.mono (im<|xJ _)<|by decide).shaped,by decide+kernel,?_⟩;rw[BS];exact q _<|k2.trans<|k3.trans k4
end
abbrev zx:Lh:=top 36
structure IH (K:IZ)(mg:Str->Jd IX)(CW:I_):Prop where
 m_NotWhole:mg "NotWhole"=B' (.ref CW)
 x_NotWhole:Mo K CW [.type "ValueError",.type "Exception",.type "BaseException",.type "object"] "ValueError.__new__"=Je
inductive GK (vs:IW V)(H:Hp)(Q:VK):Prop
 |mk (p q pp la:I_)(t:Str)(hw:JJ)(xs ls:IW V)(cs:IW (IW Int))(ds:IW Jw)(out:IW (IW Int))(h0:vs=[.ref p,.ref pp])(h1:H p=B' (.tup [.str t,.ref q]))(h2:t.length<=30)(h3:H q=B' (.lst xs))(h4:CLs H cs xs)(h5:cs.length<=900)(h6:(∀c∈cs,aV t.length c))(h7:H pp=B' (.tup [.str<|aK hw,.ref la]))(h8:H la=B' (.lst ls))(h9:dJ H ds ls)(h10:ds.length<=900)(h11:(∀d∈ds,eT d))(h12:bu t cs hw [] ds=(out,Je))(h14:fY out=Je)(h13:∀l ys H',Same H H'->H l=Ji->H' l=B' (.lst ys)->CLs H' out ys->Q (.ref l) H'):GK vs H Q
def zy:Sp:=λvs H Q _=>GK vs H Q
inductive GL (CW:I_)(vs:IW V)(H:Hp)(E:XK):Prop
 |mk (p q pp la:I_)(t:Str)(hw:JJ)(xs ls:IW V)(cs:IW (IW Int))(ds:IW Jw)(out:IW (IW Int))(h0:vs=[.ref p,.ref pp])(h1:H p=B' (.tup [.str t,.ref q]))(h2:t.length<=30)(h3:H q=B' (.lst xs))(h4:CLs H cs xs)(h5:cs.length<=900)(h6:(∀c∈cs,aV t.length c))(h7:H pp=B' (.tup [.str<|aK hw,.ref la]))(h8:H la=B' (.lst ls))(h9:dJ H ds ls)(h10:ds.length<=900)(h11:(∀d∈ds,eT d))(h12:bu t cs hw [] ds=(out,Je))(h14:fY out=Jg)(h13:∀H',Same H H'->E (.ref CW) Ji H'):GL CW vs H E
def ic(CW:I_):Sp:=λvs H _ E=>GL CW vs H E
section
variable {K:IZ}
def nS:aH ["sentence","paper","sets"] ["sentence","paper"] (ap zx):=fb
def EQ(F:Fun K "whole_sets" "whole_sets" zx f fd)(OE:Fe P w K mg base 6 "sets_of" ib)(Ur:Fe P w K mg base 1 "end_empty" zv):FnOk P w K mg base dh 7 f fd ["sentence","paper"] zy:=by
 have sc:=nS;refine F.okA nS λMG A outer s H vs Q E hr h=>?_;obtain⟨p,q,pp,la,t,hw,xs,ls,cs,ds,out,rfl,hp,ht,hq,hcs,h9,hcok,hpp,hla,hds,h8,Xv,Nv,WU,q'⟩:=h;have hol:out.length=ds.length:=by
  have:=cb Nv;simpa using this
 refine⟨_,(af (ar (i:=2) sc.nd rfl (JD rfl)<|cu OE hr<|aa (pv 0)<|aa (pv 1) ae)
  (af (aR (bG<|bq<|cu Ur hr<|aa (pv 2) ae) (ai aX) az)
  (ai<|ax<|pv 2))),?_⟩
 refine⟨_,rfl,_,rfl,p,q,pp,la,t,hw,xs,ls,cs,ds,out,rfl,hp,ht,hq,hcs,h9,hcok,hpp,hla,hds,h8,Xv,Nv,λl ys H1 k1 hl SI hs1=>?_⟩;refine⟨_,rfl,l,ys,out,rfl,SI,hs1,by lia,λH2 k2=>⟨_,rfl,?_⟩⟩;rw[WU];exact aQ ⟨_,rfl,q' l ys H2 (k1.trans k2) hl (k2 _ _ SI)<|hs1.mono k2⟩
def ER(F:Fun K "whole_sets" "whole_sets" zx f fd)(OE:wg P w K mg base 6 "sets_of" g1 e1 ["sentence","paper"] (cR CB)):FnOk P w K mg base (iM P w) 7 f fd ["sentence","paper"] (cR CB):=by
 have sc:=nS;refine F.okD nS (λvs H Q E h=>?_) λMG A outer s H vs Q E hr h=>?_
 ·obtain⟨p,q,pp,la,t,hw,xs,ls,cs,ds,out,rfl,_⟩:=h;rfl
 obtain⟨p,q,pp,la,t,hw,xs,ls,cs,ds,out,rfl,ZD⟩:=h;refine⟨_,(af (ar (i:=2) sc.nd rfl (JD rfl)<|ph OE hr (by lia) rfl<|aa (pv 0)<|aa (pv 1) ae)
  (af aX
  (ai aX))),?_⟩
 exact⟨_,rfl,_,rfl,p,q,pp,la,t,hw,xs,ls,cs,ds,out,rfl,by assumption,by assumption,by assumption,by assumption,by assumption,by assumption,by assumption,by assumption,by assumption,by assumption,by assumption,by assumption,by assumption⟩
def ES(F:Fun K "whole_sets" "whole_sets" zx f fd)(T:IH K mg CW)(OE:Fe P w K mg base 6 "sets_of" ib)(Ur:Fe P w K mg base 1 "end_empty" zv):FnOk P w K mg base (jU P w) 7 f fd ["sentence","paper"] (ic CW):=by
 have sc:=nS;refine F.oXA nS λMG A outer s H vs Q E hr h=>?_;obtain⟨p,q,pp,la,t,hw,xs,ls,cs,ds,out,rfl,hp,ht,hq,hcs,h9,hcok,hpp,hla,hds,h8,Xv,Nv,WU,q'⟩:=h;have hol:out.length=ds.length:=by
  have:=cb Nv;simpa using this
 refine⟨_,(af (ar (i:=2) sc.nd rfl (JD rfl)<|cu OE hr<|aa (pv 0)<|aa (pv 1) ae)
  (af (aR (bG<|bq<|cu Ur hr<|aa (pv 2) ae) (ai<|qi T.x_NotWhole MP T.m_NotWhole rfl<|aa aC ae) az)
  (ai<|ax<|pv 2))),?_⟩
 refine⟨_,rfl,_,rfl,p,q,pp,la,t,hw,xs,ls,cs,ds,out,rfl,hp,ht,hq,hcs,h9,hcok,hpp,hla,hds,h8,Xv,Nv,λl ys H1 k1 hl SI hs1=>?_⟩;refine⟨_,rfl,l,ys,out,rfl,SI,hs1,by lia,λH2 k2=>⟨_,rfl,?_⟩⟩;rw[WU];exact aW ⟨(by show 1<=sizeLine;decide),q' H2<|k1.trans k2⟩
end
abbrev ET:Lh:=top 53
abbrev zA:Lh:=top 54
abbrev sO:Lh:=top 56
inductive GM (vs:IW V)(H:Hp)(Q:VK):Prop
 |mk (t:Str)(hw:JJ)(l:Int)(h0:vs=[.str t,.str<|aK hw,.int l])(h1:1<=absI l)(h2:absI l<=t.length)(h3:t.length<=900)(h4:Q (.bl<|fA t (absI l - 1).toNat == hw) H):GM vs H Q
def qT:Sp:=λvs H Q _=>GM vs H Q
def HC(ns:IW Int):Prop:=∀a∈ns,∀b∈ns,absI a=absI b->a=b
inductive Da (vs:IW V)(H:Hp)(Q:VK):Prop
 |mk (p:I_)(ns:IW Int)(h0:vs=[.ref p])(h1:H p=B' (.lst<|ns.map V.int))(h2:ns.length<=18)(h3:HC ns)(h4:∀(l:I_) (r:IW Int) (H':Hp),Same H H'->sD H' l r->Ups r->(∀x,x∈r↔x∈ns)->Q (.ref l) H'):Da vs H Q
def l6:Sp:=λvs H Q _=>Da vs H Q
inductive zB (vs:IW V)(H:Hp)(Q:VK):Prop
 |mk (q:I_)(t:Str)(hw:JJ)(c:IW Int)(h0:vs=[.str t,.str<|aK hw,.ref q])(h1:t.length<=30)(h2:sD H q c)(h3:aV t.length c)(h4:∀(l:I_) (H':Hp),Same H H'->sD H' l (dg t hw c)->Q (.ref l) H'):zB vs H Q
def uN:Sp:=λvs H Q _=>zB vs H Q
theorem qU:∀a b:IW Int,Lr (a.map .int) (b.map .int)=decide (a=b)
 |[],[]=>by simp [Lr]
 |[],_::_=>by simp [Lr]
 |_::_,[]=>by simp [Lr]
 |x::a,y::b=>by
  rw[Kz,Kz,Lr,qU a b];have e:KC (.int x) (.int y)=decide (x=y):=by
   rw[KC];by_cases h:x=y<;>simp [h]
  rw[e];by_cases h:x=y<;>simp [h]
def kP(a b:IW Int):KC (.list<|a.map .int) (.list<|b.map .int)=decide (a=b):=by
 rw[KC];exact qU a b
def BU(h1:-B<=b)(h2:b<=B)(h3:-B<=y)(h4:y<=B)(h:Srt.lexKey B (a,b)<=Srt.lexKey B (x,y)):a<=x:=by
 unfold Srt.lexKey at h;dsimp only at h;have e:∀k,x+k=a->1<=k->False:=λk hk h1=>by
  have e1:a*(2*B+1)=x*(2*B+1)+k*(2*B+1):=by rw[<-hk,TQ]
  have e2:2*B+1<=k*(2*B+1):=by
   have:=Oe h1 (show 0<=2*B+1 by lia);rw[Wm]at this;exact this
  lia
 obtain g|g:=Int.lt_or_le x a
 ·exact(e (a - x) (by lia)<|by lia).elim
 ·exact g
theorem nU:∀{a b:IW Int},a.Nodup->(∀x∈a,x∈b)->a.length<=b.length
 |[],_,_,_=>JQ _
 |x::a,b,h,g=>by
  obtain⟨h1,h2⟩:=Mv.mp h;have hx:=g x JG;have:=nU (b:=b.erase x) h2 λy hy=>(TL (show y≠x from λe=>h1<|by rw[<-e];exact hy)).mpr<|g y<|Jy _ hy;rw[RN hx]at this;have:=SD hx;rw[J4];lia
def EU(ns:IW Int):Int:=(ns.map absI).foldl max 0
def uO(h:l∈ns):absI l<=EU ns:=(io (ns.map absI) 0).1.2 _<|N6 h
def py{ns:IW Int}{B:Int}{ps:IW (Int×Int)}(hB:∀l∈ns,-B<=l/\l<=B)(hu:HC ns)(nd:ps.Nodup)(hm:∀q,q∈ps↔q∈ns.map λl=>(absI l,l))(hs:(ps.map<|Srt.lexKey B).Pairwise (·<=·)):
  Ups (ps.map (·.2))/\(∀x,x∈ps.map (·.2)↔x∈ns):=by
 have hq:∀q∈ps,q.1=absI q.2/\q.2∈ns:=λq h=>by
  obtain⟨l,hl,rfl⟩:=Ke.mp<|(hm q).mp h;exact⟨rfl,hl⟩
 have mem:∀x,x∈ps.map (·.2)↔x∈ns:=λx=>by
  constructor
  ·intro h;obtain⟨q,h1,rfl⟩:=Ke.mp h;exact(hq q h1).2
  ·intro h;exact Ke.mpr ⟨(absI x,x),(hm _).mpr<|Ke.mpr ⟨x,h,rfl⟩,rfl⟩
 refine⟨r9 ?_ ?_ ?_,mem⟩
 ·rw[Lq,Ln];rw[Ln]at hs;refine Pj (λ{a b} ha hb h=>?_) hs;show absI a.2<=absI b.2
  rw[<-(hq a ha).1,<-(hq b hb).1];have ba:=hB _ (hq a ha).2;have bb:=hB _ (hq b hb).2;exact BU ba.1 ba.2 bb.1 bb.2 h
 ·rw[Q9,Ln];refine Pj (λ{a b} ha hb h e=>h ?_)<|Q9.mp nd;exact Vp (by rw[(hq a ha).1,(hq b hb).1,e]) e
 ·intro a ha b hb e;exact hu a ((mem a).mp ha) b ((mem b).mp hb) e
section
variable {K:IZ}
def Db:aH ["_law_turns","_law_hand","_law_literal"] ["_law_turns","_law_hand","_law_literal"] (ap ET):=fb
def EV(F:Fun K "_law_own" "_law_own" ET f fd)(T:rf mg):FnOk P w K mg base dh 1 f fd ["_law_turns","_law_hand","_law_literal"] qT:=by
 have sc:=Db;refine F.okA Db λMG A outer s H vs Q E hr h=>?_;obtain⟨t,hw,l,rfl,l1,l2,h9,q⟩:=h;have hu:=hr.units;exists _,(ai<|ax<|eF (aS hu) (eF (aS hu) (aG ay (pv 0) (aI fj (au bW rfl T.abs Kj<|aa (pv 2) ae) ah) λ_ _=>rfl) aC<|aA _) (eF (aS hu) (pv 1) aC<|aA _)<|aA _);have Ue:(absI l - 1).toNat < t.cps.toList.length:=by
  rw[JB];show _ < t.length
  lia
 obtain⟨ch,XI⟩:∃ch,t.cps.toList[(absI l - 1).toNat]? =B' ch:=⟨_,Jm Ue⟩;have hat:rc t.cps.toList (absI l - 1)=B' ch:=by
  have e:absI l - 1=(((absI l - 1).toNat:Nat):Int):=by lia
  rw[e];exact aZ XI
 refine⟨_,rfl,_,rfl,l,rfl,_,_,rfl,rfl,.inr<|.inr ⟨t,_,_,rfl,rfl,K_ (aE<|by lia),hat,.inl ⟨rfl,_,rfl,.inl ⟨rfl,.inl ⟨rfl,?_⟩⟩⟩⟩⟩;rw[Cw,<-xy XI,Gm];have e:decide (V.bl (fA t (absI l - 1).toNat)=V.bl hw)=(fA t (absI l - 1).toNat == hw):=by
  cases fA t (absI l - 1).toNat<;>cases hw<;>rfl
 rw[e];exact q
def zC:aH ["_law_literals"] ["_law_literals"] (ap zA):=fb
def BV(F:Fun K "_law_set" "_law_set" zA f fd)(T:rf mg):FnOk P w K mg base dh 1 f fd ["_law_literals"] l6:=by
 have sc:=zC;refine F.okA zC λMG A outer s H vs Q E hr h=>?_;obtain⟨p,ns,rfl,hp,h18,hun,q⟩:=h;have hu:=hr.units;exists _,(ai<|ax<|bN cW rfl T.tuple KO<|aa (bJ (NY:=["_law_pair"]) (idx:=[Ji]) rfl cS (cg<|x_ hu rfl rfl T.sorted rfl T.set<|bJ (NY:=["_law_literal"]) (idx:=[Ji]) rfl cS (cg<|pv 0) (λ_ _ _ _=>(aB (i:=0) (nD ["_law_literal"]) rfl<|JD rfl)) (λ_ _ _ _=>dm) λ_ _ _ _=>(bf<|aa (au bW rfl T.abs Kj<|aa (pv 0) ae)<|aa (pv 0) ae)) (λ_ _ _ _=>(aB (i:=0) (nD ["_law_pair"]) rfl<|JD rfl)) (λ_ _ _ _=>dm) λ_ _ _ _=>(aG (iW (K:=K) rfl) (pv 0) ah λ_ _=>rfl)) ae);refine⟨_,rfl,p,rfl,⟨_,SqL.of hp⟩,λD hD=>?_⟩;refine dE (K:=K) (a:=p) (xs:=ns.map V.int) (λi σ ys H2=>(∃v0,σ=[v0])/\H2 D=B' (.lst ys)/\Same H H2/\Paired (PR H2) ((ns.take i).map λl=>(absI l,l)) ys) ⟨⟨Ji,rfl⟩,ad,ag hD _,.nil⟩ ?_ ?_ ?_
 ·rintro i σ ys H2 _ ⟨_,h1,k,_⟩;exact⟨h1,SqL.of<|k _ _ hp⟩
 ·rintro i x σ ys H2 hx ⟨⟨v0,rfl⟩,h1,k,hps⟩;have Ue:i < (ns.map V.int).length:=(Jk.mp hx).1;rw[Jc]at Ue;obtain⟨z,rfl,hz⟩:=ft hx;have hyl:ys.length=i:=by
   rw[<-Paired.length hps,Jc,J9];lia
  refine eP ⟨_,rfl,z,rfl,_,rfl,(by show 2<=sizeLine;decide),λtp htp=>?_⟩;have k2:Same H2 (upd H2 tp<|.tup [.int (if z < 0 then -z else z),.int z]):=ag htp _;have g1:=k2 _ _ h1;have g2:upd H2 tp (.tup [.int (if z < 0 then -z else z),.int z]) tp=B' (.tup [.int (if z < 0 then -z else z),.int z]):=ad;generalize upd H2 tp (.tup [.int (if z < 0 then -z else z),.int z])=H3 at k2 g1 g2;exists g1,(by rw[hyl];exact aE<|by lia),⟨_,rfl⟩,ad,(k.trans k2).upd_new hD _;have e:(ns.take<|i+1).map (λl=>(absI l,l))=(ns.take i).map (λl=>(absI l,l))++[(absI z,z)]:=by
   rw[KQ,hz,Ko];rfl
  rw[e];have up:∀{qs:IW (Int×Int)} {vs:IW V},Paired (PR H3) qs vs->Paired (PR<|upd H3 D<|.lst<|ys++[.ref tp]) qs vs:=λhh=>Paired.mapP hh λq v ⟨t,et,ht⟩=>⟨t,et,by
   rw[ao λez=>by rw[ez,g1]at ht;cases ht];exact ht⟩
  exact Paired.snoc (up<|PR.mono k2 hps) (by
   exists tp,rfl;rw[ao λez=>by rw[ez,g1]at g2;cases g2];exact g2)
 ·rintro σ ys H2 ⟨_,h1,k,hps⟩;rw[Jc,JY<|Jh _]at hps;refine⟨D,ys,ns.map λl=>(absI l,l),EU ns,rfl,h1,hps,by rw[Jc];exact h18,λq hq=>?_,λl ts ps hl nd hm hsrt hpt=>?_⟩
  ·obtain⟨z,hz,rfl⟩:=Ke.mp hq;have:=uO hz;obtain⟨_,e⟩|⟨_,e⟩:=bE z<;>(constructor<;>(show(_:Int)<=_)<;>lia)
  have k2:=ag hl<|.lst ts;have g2:upd H2 l (.lst ts) l=B' (.lst ts):=ad;have ac6:=PR.mono k2 hpt;generalize upd H2 l (.lst ts)=H3 at k2 g2 ac6;obtain⟨s1,s2⟩:=py (B:=EU ns) (λz hz=>by
   have:=uO hz;obtain⟨_,e⟩|⟨_,e⟩:=bE z<;>constructor<;>lia) hun nd hm hsrt
  have T4:=Paired.length ac6;have aiR:ps.length<=18:=by
   have h1:(ps.map (·.2)).length<=ns.length:=nU s1.nodup λx hx=>(s2 x).mp hx;rw[Jc]at h1;lia
  refine⟨l,rfl,⟨_,SqL.of g2⟩,λD2 YJ=>?_⟩;refine dE (K:=K) (a:=l) (xs:=ts) (λi σ zs H4=>(∃v0,σ=[v0])/\zs=((ps.take i).map (·.2)).map V.int/\H4=upd H3 D2 (.lst zs)) ⟨⟨Ji,rfl⟩,rfl,rfl⟩ ?_ ?_ ?_
  ·rintro i σ zs H4 _ ⟨_,_,rfl⟩;refine⟨ad,SqL.of ?_⟩;rw[ao<|aj g2 YJ];exact g2
  ·rintro i x σ zs H4 hx ⟨⟨v0,rfl⟩,rfl,rfl⟩;have Ue:i < ts.length:=(Jk.mp hx).1;obtain⟨q,hq,tq,rfl,htq⟩:=paired_get ac6 hx;have agz:upd H3 D2 (.lst (((ps.take i).map (·.2)).map V.int)) tq=B' (.tup [.int q.1,.int q.2]):=by
    rw[ao<|aj htq YJ];exact htq
   refine eP ⟨_,rfl,.inr<|.inl ⟨tq,_,1,.int q.2,rfl,rfl,SqT.of agz,rfl,ad,(by rw[Jc,Jc,J9];exact aE<|by lia),⟨_,rfl⟩,?_,fE⟩⟩;rw[KQ,hq,Ko,Ko];rfl
  ·rintro σ zs H4 ⟨_,rfl,rfl⟩;rw[JY<|by lia];refine⟨D2,_,rfl,.inl ⟨SqL.of ad,λL3 hL3=>?_⟩⟩;exact q L3 _ _ (((k.trans k2).trans<|ag YJ _).trans<|ag hL3 _) ad s1 s2
def uP:aH ["_law_turns","_law_hand","_law_literals","_law_last"] ["_law_turns","_law_hand","_law_literals"] (ap sO):=fb
def zE(F:Fun K "_law_rest" "_law_rest" sO f fd)(T:rf mg)(Pz:Fe P w K mg base 1 "_law_own" qT):FnOk P w K mg base dh 2 f fd ["_law_turns","_law_hand","_law_literals"] uN:=by
 have sc:=uP;refine F.okA uP λMG A outer s H vs Q E hr h=>?_;obtain⟨q,t,hw,c,rfl,h9,hq,hok,q'⟩:=h;have hu:=hr.units;have T6:=cY hok;refine⟨_,(af (ar (i:=3) sc.nd rfl (O_ rfl)<|au (vS rfl) rfl T.max S3<|aa (aI jz (aP<|aa ah ae)<|bJ (NY:=["_law_literal","_law_turns","_law_hand"]) (idx:=[Ji,B' 0,B' 1]) rfl cS (d_<|pv 2) (λ_ _ _ _=>(aB (i:=0) (nD ["_law_literal","_law_turns","_law_hand"]) rfl<|JD rfl)) (λ_ _ _ _=>(cN<|bG<|bq<|cu Pz hr<|aa (pv 1)<|aa (pv 2)<|aa (pv 0) ae)) λ_ _ _ _=>(au bW rfl T.abs Kj<|aa (pv 0) ae)) ae)
  (ai<|ax<|bN cW rfl T.tuple KO<|aa (bJ (NY:=["_law_literal","_law_last"]) (idx:=[Ji,B' 3]) rfl cS (d_<|pv 2) (λ_ _ _ _=>(aB (i:=0) (nD ["_law_literal","_law_last"]) rfl<|JD rfl)) (λ_ _ _ _=>(cN<|aq kW (au bW rfl T.abs Kj<|aa (pv 0) ae) (pv 1)<|aA _)) λ_ _ _ _=>(pv 0)) ae)),?_⟩
 refine⟨(by show 1<=sizeLine;decide),λl0 hl0=>?_⟩;have k0:=ag hl0<|.lst [.int 0];have r0:upd H l0 (.lst [.int 0]) l0=B' (.lst [.int 0]):=ad;generalize upd H l0 (.lst [.int 0])=H0 at k0 r0;refine⟨_,rfl,q,rfl,⟨_,SqT.of<|k0 _ _ hq⟩,λD hD=>?_⟩;refine cE [B'<|.str t,B'<|.str<|aK hw] (isI λl=>!(fA t (absI l - 1).toNat == hw)) (Fq λz=>.int<|absI z) rfl (k0 _ _ hq) hD (by rw[Jc];lia) ?_ ?_ ?_
 ·intro x hx H' R k r;obtain⟨z,hz,rfl⟩:=cD hx;have:=hok.2 z hz;exact⟨_,rfl,_,rfl,_,rfl,t,hw,z,rfl,this.1,this.2,by lia,_,rfl,r⟩
 ·intro x hx _ H' R k r;obtain⟨z,_,rfl⟩:=cD hx;exact⟨_,rfl,z,rfl,r⟩
 have e:((c.map V.int).filter<|isI λl=>!(fA t (absI l - 1).toNat == hw)).map (Fq λz=>.int<|absI z)=((c.filter λl=>!(fA t (absI l - 1).toNat == hw)).map absI).map V.int:=by
  rw[lZ,Lq];rfl
 rw[e];have hfl:=LS (λl=>!(fA t (absI l - 1).toNat == hw)) c;have hnn:∀a∈(c.filter λl=>!(fA t (absI l - 1).toNat == hw)).map absI,0<=a:=λa ha=>by
  obtain⟨z,_,rfl⟩:=Ke.mp ha;exact ux z
 have el:gM t hw c=((c.filter λl=>!(fA t (absI l - 1).toNat == hw)).map absI).foldl max 0:=rfl;have hml:((c.filter λl=>!(fA t (absI l - 1).toNat == hw)).map absI).length<=30:=by
  rw[Jc];lia
 generalize (c.filter λl=>!(fA t (absI l - 1).toNat == hw)).map absI=ms at hnn el hml;have k2:=ag hD<|.lst<|ms.map V.int;have r2:upd H0 D (.lst<|ms.map V.int) D=B' (.lst<|ms.map V.int):=ad;generalize upd H0 D (.lst<|ms.map V.int)=H2 at k2 r2;refine⟨l0,D,_,_,rfl,rfl,k2 _ _ r0,r2,(by rw[Jc,Kk];exact K_<|aE<|by lia),λp3 hp3=>?_⟩;have k3:=ag hp3<|.lst ([V.int 0]++ms.map V.int);have r3:upd H2 p3 (.lst ([V.int 0]++ms.map V.int)) p3=B' (.lst<|(0::ms).map V.int):=ad;generalize upd H2 p3 (.lst ([V.int 0]++ms.map V.int))=H3 at k3 r3;refine⟨p3,0::ms,rfl,SqL.of r3,(λz=>nomatch z),λM m1 m2=>?_⟩;have eM:gM t hw c=M:=by
  rw[el];refine ye hnn ?_ (λa ha=>m2 a<|Jy _ ha)<|m2 0 JG;obtain z|z:=J2.mp m1
  ·exact .inr z
  ·exact .inl z
 rw[<-eM];have kk:=k0.trans<|k2.trans k3;refine⟨_,rfl,q,rfl,⟨_,SqT.of<|kk _ _ hq⟩,λD2 YJ=>?_⟩;refine cE [B'<|.int<|gM t hw c] (isI λl=>decide (absI l<=gM t hw c)) (λx=>x) rfl (kk _ _ hq) YJ (by rw[Jc];lia) ?_ ?_ ?_
 ·intro x hx H' R k r;obtain⟨z,_,rfl⟩:=cD hx;exact⟨_,rfl,z,rfl,_,rfl,_,_,rfl,rfl,_,rfl,r⟩
 ·intro x hx _ H' R k r;exact⟨_,rfl,r⟩
 rw[bZ c (λl=>decide (absI l<=gM t hw c)) _ λi=>rfl];refine⟨D2,_,rfl,.inl ⟨SqL.of ad,λL3 hL3=>?_⟩⟩;exact q' L3 _ ((kk.trans<|ag YJ _).trans<|ag hL3 _) ad
end
def EW(d:Jw):Prop:=∀ds,d=.tuple ds->ds.length<=900/\∀es,ds.getD 1 .none=.tuple es->es.length<=18
def bQ(d:Jw):Prop:=(∃k:Int,d=.tuple [.str aT,.int k])\/(∃c:IW Int,c.length<=18/\d=.tuple [.str br,gc c])\/(∃k:Int,d=.tuple [.str aF,.int k])\/(∃i j z:Int,d=.tuple [.str aY,.int i,.int j,.int z])
def gG(h:bQ d):eT d/\EW d:=by
 obtain⟨k,rfl⟩|⟨c,hc,rfl⟩|⟨k,rfl⟩|⟨i,j,z,rfl⟩:=h
 ·exact⟨λds e=>by cases e;exact BO,λds e=>by cases e;exact⟨by show 2<=900;decide,λes e=>by cases e⟩⟩
 ·exact⟨λds e=>by cases e;exact EM,λds e=>by
   cases e;refine⟨by show 2<=900;decide,λes e=>?_⟩;cases e;rw[Jc];exact hc⟩
 ·exact⟨λds e=>by cases e;exact sN,λds e=>by cases e;exact⟨by show 2<=900;decide,λes e=>by cases e⟩⟩
 ·exact⟨λds e=>by cases e;exact EL,λds e=>by cases e;exact⟨by show 4<=900;decide,λes e=>by cases e⟩⟩
def jJ(h:bQ d):Nice 3 d:=by
 obtain⟨k,rfl⟩|⟨c,hc,rfl⟩|⟨k,rfl⟩|⟨i,j,z,rfl⟩:=h
 ·exact bK (n:=2)<|aL (bx 2<|by decide+kernel)<|aL (bT _ _) bL
 ·exact bK (n:=2)<|aL (bx 2<|by decide+kernel)<|aL (Nice.mono (bK (n:=1)<|mZ 1 c)<|by decide) bL
 ·exact bK (n:=2)<|aL (bx 2<|by decide+kernel)<|aL (bT _ _) bL
 ·exact bK (n:=2)<|aL (bx 2<|by decide+kernel)<|aL (bT _ _)<|aL (bT _ _)<|aL (bT _ _) bL
def pz(h:RD H (.str x) v):RD H' (.str x) v:=by rw[bi h];exact bS x
def l7(h:RD H (.int x) v):RD H' (.int x) v:=by rw[a_ h];exact bP x
def pA{H:Hp}{a q:I_}{zs ys:IW V}(h:H a=B' (.tup zs))(hq:H q=B' (.lst ys)):a≠q:=λe=>by
 rw[e,hq]at h;cases h
def zF(g:bQ d)(h:RD H d v)(hq:H q=B' (.lst ys)):RD (upd H q o) d v:=by
 obtain⟨k,rfl⟩|⟨c,hc,rfl⟩|⟨k,rfl⟩|⟨i,j,z,rfl⟩:=g
 ·obtain⟨a,zs,rfl,ha,hz⟩:=aM h;obtain⟨d0,d1,x0,x1,e,rfl,r0,r1⟩:=cQ hz rfl;cases e;exact bo (by rw[ao<|pA ha hq];exact ha)<|am (pz r0)<|am (l7 r1) aJ
 ·obtain⟨a,zs,rfl,ha,hz⟩:=aM h;obtain⟨d0,d1,x0,x1,e,rfl,r0,r1⟩:=cQ hz rfl;cases e;exact bo (by rw[ao<|pA ha hq];exact ha)<|am (pz r0)<|am (CL.rd<|(CL.of r1).upd hq) aJ
 ·obtain⟨a,zs,rfl,ha,hz⟩:=aM h;obtain⟨d0,d1,x0,x1,e,rfl,r0,r1⟩:=cQ hz rfl;cases e;exact bo (by rw[ao<|pA ha hq];exact ha)<|am (pz r0)<|am (l7 r1) aJ
 ·obtain⟨a,zs,rfl,ha,hz⟩:=aM h;obtain⟨d0,d1,d2,d3,x0,x1,x2,x3,e,rfl,r0,r1,r2,r3⟩:=ia hz rfl;cases e;exact bo (by rw[ao<|pA ha hq];exact ha)<|am (pz r0)<|am (l7 r1)<|am (l7 r2)<|am (l7 r3) aJ
theorem cm(hq:H q=B' (.lst ys)):∀{ds:IW Jw} {vs:IW V},(∀d∈ds,bQ d)->dJ H ds vs->dJ (upd H q o) ds vs
 |[],vs,_,h=>by
  rw[bY h];exact aJ
 |d::ds,vs,g,h=>by
  obtain⟨y,ys',rfl,h1,h2⟩:=aN h;exact am (zF (g d JG) h1 hq)<|cm hq (λe he=>g e<|Jy _ he) h2
abbrev zG:Lh:=top 38
def bH:Jw->IW Int
 |.tuple [.str w,.int i,.int j,.int _]=>if w=aY then [i,j]else []
 |.tuple [.str w,.int k]=>if w=aF then [k]else []
 |_=>[]
def ie(k:Int):bH (.tuple [.str aT,.int k])=[]:=by
 show(if aT=aF then [k]else [])=[]
 rw[JK<|by decide+kernel]
def eB(k:Int):bH (.tuple [.str aF,.int k])=[k]:=by grind[bH,aF]
def eD(i j z:Int):bH (.tuple [.str aY,.int i,.int j,.int z])=[i,j]:=by grind[bH,aY]
inductive GN (vs:IW V)(H:Hp)(Q:VK):Prop
 |mk (v:V)(d:Jw)(h0:vs=[v])(hd:RD H d v)(hg:bQ d)(q:∀l H',Same H H'->H l=Ji->H' l=B' (.lst<|(bH d).map V.int)->Q (.ref l) H'):GN vs H Q
def Dc:Sp:=λvs H Q _=>GN vs H Q
section
variable {K:IZ}
def zH:aH ["line"] ["line"] (ap zG):=fb
def BW(F:Fun K "named_by" "named_by" zG f fd):FnOk P w K mg base dh 1 f fd ["line"] Dc:=by
 have sc:=zH;refine F.okA zH λMG A outer s H vs Q E hr h=>?_;obtain⟨v,d,rfl,hd,hg,q⟩:=h;have hu:=hr.units;refine⟨_,(af (aR (aq (aS hu) (aG ay (pv 0) ah λ_ _=>rfl) aC<|aA _) (ai<|ax<|aP<|aa (aG ay (pv 0) ah λ_ _=>rfl)<|aa (aG ay (pv 0) ah λ_ _=>rfl) ae) az)
  (af (aR (aq (aS hu) (aG ay (pv 0) ah λ_ _=>rfl) aC<|aA _) (ai<|ax<|aP<|aa (aG ay (pv 0) ah λ_ _=>rfl) ae) az)
  (ai<|ax<|aP ae))),?_⟩
 obtain⟨k,rfl⟩|⟨c,hc,rfl⟩|⟨k,rfl⟩|⟨i,j,z,rfl⟩:=hg
 ·obtain⟨a,zs,rfl,ha,hz⟩:=aM hd;obtain⟨d0,d1,x0,x1,e,rfl,r0,r1⟩:=cQ hz rfl;cases e;obtain rfl:=bi r0;refine⟨_,rfl,.inr<|.inl ⟨a,_,0,.str aT,rfl,rfl,SqT.of ha,rfl,.inl ⟨rfl,_,rfl,?_⟩⟩⟩;rw[Jj (show¬V.str aT=V.str (I0 "join") by decide+kernel)];refine aQ ⟨_,rfl,.inr<|.inl ⟨a,_,0,.str aT,rfl,rfl,SqT.of ha,rfl,.inl ⟨rfl,_,rfl,?_⟩⟩⟩;rw[Jj (show¬V.str aT=V.str (I0 "drop") by decide+kernel)];refine aQ ⟨JQ _,λl nl=>q l _ (ag nl _) nl ?_⟩;rw[ie];exact ad
 ·obtain⟨a,zs,rfl,ha,hz⟩:=aM hd;obtain⟨d0,d1,x0,x1,e,rfl,r0,r1⟩:=cQ hz rfl;cases e;obtain rfl:=bi r0;refine⟨_,rfl,.inr<|.inl ⟨a,_,0,.str br,rfl,rfl,SqT.of ha,rfl,.inl ⟨rfl,_,rfl,?_⟩⟩⟩;rw[Jj (show¬V.str br=V.str (I0 "join") by decide+kernel)];refine aQ ⟨_,rfl,.inr<|.inl ⟨a,_,0,.str br,rfl,rfl,SqT.of ha,rfl,.inl ⟨rfl,_,rfl,?_⟩⟩⟩;rw[Jj (show¬V.str br=V.str (I0 "drop") by decide+kernel)];exact aQ ⟨JQ _,λl nl=>q l _ (ag nl _) nl ad⟩
 ·obtain⟨a,zs,rfl,ha,hz⟩:=aM hd;obtain⟨d0,d1,x0,x1,e,rfl,r0,r1⟩:=cQ hz rfl;cases e;obtain rfl:=bi r0;obtain rfl:=a_ r1;refine⟨_,rfl,.inr<|.inl ⟨a,_,0,.str aF,rfl,rfl,SqT.of ha,rfl,.inl ⟨rfl,_,rfl,?_⟩⟩⟩;rw[Jj (show¬V.str aF=V.str (I0 "join") by decide+kernel)];refine aQ ⟨_,rfl,.inr<|.inl ⟨a,_,0,.str aF,rfl,rfl,SqT.of ha,rfl,.inl ⟨rfl,_,rfl,?_⟩⟩⟩;rw[Jz (show V.str aF=V.str (I0 "drop")from rfl)];refine aW ⟨_,rfl,.inr<|.inl ⟨a,_,1,.int k,rfl,rfl,SqT.of ha,rfl,(by show 1<=sizeLine;decide),λl nl=>q l _ (ag nl _) nl ?_⟩⟩;rw[eB];exact ad
 ·obtain⟨a,zs,rfl,ha,hz⟩:=aM hd;obtain⟨d0,d1,d2,d3,x0,x1,x2,x3,e,rfl,r0,r1,r2,r3⟩:=ia hz rfl;cases e;obtain rfl:=bi r0;obtain rfl:=a_ r1;obtain rfl:=a_ r2;refine⟨_,rfl,.inr<|.inl ⟨a,_,0,.str aY,rfl,rfl,SqT.of ha,rfl,.inl ⟨rfl,_,rfl,?_⟩⟩⟩;rw[Jz (show V.str aY=V.str (I0 "join")from rfl)];refine aW ⟨_,rfl,.inr<|.inl ⟨a,_,1,.int i,rfl,rfl,SqT.of ha,rfl,_,rfl,.inr<|.inl ⟨a,_,2,.int j,rfl,rfl,SqT.of ha,rfl,(by show 2<=sizeLine;decide),λl nl=>q l _ (ag nl _) nl ?_⟩⟩⟩;rw[eD];exact ad
end
abbrev BX:Lh:=top 40
structure GO (mg:Str->Jd IX):Prop where
 range:mg "range"=Ji
 sorted:mg "sorted"=Ji
def gH(NG:IW Int)(k:Int):IW Int:=if k∈NG then NG else NG++[k]
def cw(nm:Nat->IW Int)(last:Nat):Nat->IW Int
 |0=>[(last:Int)]
 |j+1=>if((last - j:Nat):Int)∈cw nm last j then(nm<|last - j).foldl gH (cw nm last j)else cw nm last j
def zI(NG:IW Int)(k:Int):(gH NG k).length<=NG.length+1:=by
 unfold gH
 split
 ·exact OR _
 ·rw[JC];exact Jh _
theorem jK:∀(ks NG:IW Int),(ks.foldl gH NG).length<=NG.length+ks.length
 |[],NG=>Jh _
 |k::ks,NG=>by
  have h1:=jK ks<|gH NG k;have h2:=zI NG k;rw[NL,J4];lia
theorem iz(h:∀i,(nm i).length<=2):∀j,(cw nm last j).length<=1+2*j
 |0=>Jh _
 |j+1=>by
  have ih:=iz h (last:=last) j;have:=h<|last - j;have h2:=jK (nm<|last - j)<|cw nm last j;show(if _ then _ else _:IW Int).length<=_
  split<;>lia
def iA(d:Jw):(bH d).length<=2:=by
 unfold bH
 split
 ·split
  ·exact Jh _
  ·exact JQ _
 ·split
  ·exact(by decide:1<=2)
  ·exact JQ _
 ·exact JQ _
def dB(NG:IW Int):IW (bz×V):=NG.map λk=>((Kw k:bz),V.bl Je)
def zJ:∀NG k,(cx (dB NG) (Kw k:bz)).isSome=decide (k∈NG):=λNG k=>by
 unfold dB cx
 induction NG with
 |nil=>rfl
 |cons a NG ih=>
  rw[Kz,Mw];by_cases e:k=a
  ·subst e;simp
  ·have e1:decide ((Kw a:bz)=Kw k)=false:=Jj λz=>e (OI z).symm;simp only [e1];rw[ih,Mc];simp [e]
def EY(NG:IW Int)(k:Int):b_ (dB NG) (Kw k:bz) (V.bl Je)=dB (gH NG k):=by
 by_cases h:k∈NG
 ·unfold gH;rw[JL h];unfold b_;have e:((dB NG).any λkv=>decide (kv.1=(Kw k:bz)))=true:=by
   unfold dB;rw[QR,MY];exact⟨k,h,by simp⟩
  rw[JL e];unfold dB;rw[Lq];refine List.map_congr_left λa _=>?_;simp only [Function.comp]
  split<;>rfl
 ·unfold gH;rw[JK h,k_]
  ·unfold dB;rw[Ko];rfl
  ·have:=zJ NG k;rw[Jj h]at this;cases q:cx (dB NG) (Kw k:bz)with
   |none=>rfl
   |some v=>rw[q]at this;cases this
def BY(NG:IW Int):(dB NG).map (·.1)=NG.map (Kw:Int->bz):=by
 unfold dB;rw[Lq];rfl
inductive GP (vs:IW V)(H:Hp)(Q:VK):Prop
 |mk (la:I_)(ls:IW V)(ds:IW Jw)(last:Nat)(h0:vs=[.ref la,.int (last:Int)])(h1:H la=B' (.lst ls))(h2:dJ H ds ls)(h3:∀d∈ds,bQ d)(h4:last < ds.length)(h5:ds.length<=200)
   (q:∀l Rg H',Same H H'->H l=Ji->H' l=B' (.lst<|Rg.map V.int)->Sf Rg (cw (λi=>bH<|ds.getD i .none) last<|last+1)->Qo (·<=·) Rg->Q (.ref l) H'):GP vs H Q
def zK:Sp:=λvs H Q _=>GP vs H Q
inductive GQ (la dn:I_)(last:Nat)(nm:Nat->IW Int)(H:Hp)(j:Nat)(σ:St)(G:Hp):Prop
 |mk (x3 x4:Jd V)(i0:σ=[B'<|.ref la,B'<|.int (last:Int),B'<|.ref dn,x3,x4])(i1:G dn=B' (.dK<|dB<|cw nm last j))(i2:Same H G):GQ la dn last nm H j σ G
inductive GR (la dn l:I_)(last:Nat)(x3:Jd V)(NG ks:IW Int)(H:Hp)(j:Nat)(σ:St)(G:Hp):Prop
 |mk (x4:Jd V)(i0:σ=[B'<|.ref la,B'<|.int (last:Int),B'<|.ref dn,x3,x4])(i1:G dn=B' (.dK<|dB<|(ks.take j).foldl gH NG))(i2:Same H G)(i3:G l=B' (.lst<|ks.map V.int)):GR la dn l last x3 NG ks H j σ G
def sP{ks NG:IW Int}{j:Nat}{k:Int}(h:ks[j]? =B' k):(ks.take<|j+1).foldl gH NG=gH ((ks.take j).foldl gH NG) k:=by
 rw[KQ,h,Vx];rfl
section
variable {K:IZ}
def Dd:aH ["lines","last","needed","place","ahead"] ["lines","last"] (ap BX):=fb
def EZ(F:Fun K "needed_by" "needed_by" BX f fd)(T:GO mg)(aaT:Fe P w K mg base 1 "named_by" Dc):FnOk P w K mg base dh 2 f fd ["lines","last"] zK:=by
 have sc:=Dd;refine F.okA Dd λMG A outer s H vs Q E hr h=>?_;obtain⟨la,ls,ds,last,rfl,h1,h2,h3,h4,h5,q⟩:=h;have hu:=hr.units;have UX:(A.deeper<|J' "needed_by" (ap BX) s.heap.objs.size f MG).units+1 < MZ:=by lia
 have L_:=cB h2;refine⟨_,(af (ar (i:=2) sc.nd rfl (JD rfl)<|yG (pv 1) fi)
  (af (cZ KU rfl (vA rfl T.range<|aa (pv 1)<|aa (cp bD ah)<|aa (cp bD ah) ae) (aB (i:=3) sc.nd rfl<|JD rfl)
   (ai (aR (wK<|DX UX (pv 3)<|pv 2) (ai (cZ KU rfl (cg<|cu aaT hr<|aa (aG ay (pv 0) (pv 3) λ_ _=>rfl) ae) (aB (i:=4) sc.nd rfl<|JD rfl)
     (ai<|kn UX (pv 2) (pv 4) fi rfl))) az)))
  (ai<|ax<|au (si rfl) rfl T.sorted Od<|aa (pv 2) ae))),?_⟩
 refine λdn ndn=>⟨_,rfl,ad,[(Kw (last:Int),.bl Je)],rfl,(by show 1<=15;decide),?_⟩;have k1:Same H (upd (upd H dn<|.dK []) dn<|.dK<|fT [] [(Kw (last:Int),.bl Je)]):=by rw[fE];exact ag ndn _
 have s1:upd (upd H dn<|.dK []) dn (.dK<|fT [] [(Kw (last:Int),.bl Je)]) dn=B' (.dK<|dB [(last:Int)]):=ad;generalize upd (upd H dn<|.dK []) dn (.dK<|fT [] [(Kw (last:Int),.bl Je)])=H1 at k1 s1 ⊢;refine⟨_,rfl,_,rfl,_,rfl,(last:Int),-1,rfl,⟨by lia,by lia,by lia,by lia⟩,rL (lo:=(last:Int)) (GQ la dn last (λi=>bH<|ds.getD i .none) H) ⟨Ji,Ji,rfl,s1,k1⟩ ?_ ?_⟩
 ·rintro j σ G hj ⟨x3,x4,rfl,i1,i2⟩;have hjl:j<=last:=by lia
  have ej:(last:Int) - (j:Int)=((last - j:Nat):Int):=by lia
  rw[ej];exists _,rfl,_,rfl,dn,_,rfl,DGet.k (k:=Kw ((last - j:Nat):Int)) i1;rw[zJ];by_cases hm:((last - j:Nat):Int)∈cw (λi=>bH<|ds.getD i .none) last j
  ·rw[Jz hm];have en:cw (λi=>bH<|ds.getD i .none) last (j+1)=(bH<|ds.getD (last - j) .none).foldl gH (cw (λi=>bH<|ds.getD i .none) last j):=JL hm;obtain⟨v,hv⟩:∃v,ls[last - j]? =B' v:=⟨_,Jm (by lia)⟩;have rv:=eJ (bp i2 _ _ h2) hv;have gd:bQ (ds.getD (last - j) .none):=h3 _ (Jx (getD_some (d:=Nr) (show last - j < ds.length by lia)));have hnl:=iA (ds.getD (last - j) .none);generalize hks:bH (ds.getD (last - j) .none)=ks at en hnl;have hal:=iz (nm:=λi=>bH (ds.getD i .none)) (last:=last) (λi=>iA _) j;generalize cw (λi=>bH (ds.getD i .none)) last j=NG at i1 en hal;refine⟨_,rfl,aW ⟨_,rfl,_,rfl,.inl ⟨la,ls,_,v,rfl,rfl,SqL.of (i2 _ _ h1),aZ hv,v,ds.getD (last - j) .none,rfl,rv,gd,λl G1 kg nl hl=>?_⟩⟩⟩;rw[hks]at hl;refine⟨l,rfl,⟨_,SqL.of hl⟩,gP (K:=K) (a:=l) (xs:=ks.map V.int) (GR la dn l last (B' (.int ((last - j:Nat):Int))) NG ks H) ⟨_,rfl,kg _ _ i1,i2.trans kg,hl⟩ ?_ ?_ ?_⟩
   ·rintro i σ G2 _ ⟨_,_,_,_,m⟩;exact SqL.of m
   ·rintro i x σ G2 hx ⟨x4,rfl,m1,m2,m3⟩;obtain⟨k,rfl,hk⟩:=ft hx;have hfl:=jK (ks.take i) NG;rw[J9]at hfl;exists _,rfl,_,rfl,dn,_,rfl,DPut.k (k:=Kw k) m1 (aE<|by unfold dB;rw[Jc];lia);rw[EY,<-sP hk];exists _,rfl,ad,m2.upd_new ndn _;rw[ao λz=>by rw[z,m1]at m3;cases m3];exact m3
   ·rintro σ G2 ⟨x4,rfl,m1,m2,m3⟩;rw[Jc,JY<|Jh _,<-en]at m1;exact⟨_,_,rfl,m1,m2⟩
  ·rw[Jj hm];have en:cw (λi=>bH<|ds.getD i .none) last (j+1)=cw (λi=>bH<|ds.getD i .none) last j:=JK hm;exact⟨_,rfl,aQ ⟨_,_,rfl,by rw[en];exact i1,i2⟩⟩
 ·rintro σ G ⟨x3,x4,rfl,i1,i2⟩;have en:((last:Int) - -1).toNat=last+1:=by lia
  rw[en]at i1;have hal:=iz (nm:=λi=>bH<|ds.getD i .none) (last:=last) (λi=>iA _)<|last+1;refine⟨_,rfl,dn,_,_,rfl,i1,BY _,by lia,λl Rg nl hp hs=>q l Rg _ (i2.trans<|ag nl _) (i2.free nl) ad hp hs⟩
end
def CL.updD(h:CL H c v)(hq:H q=B' (.dT kvs)):CL (upd H q o) c v:=by
 obtain⟨t,e,z⟩:=h;exact⟨t,e,by rw[ao λg=>by rw[g,hq]at z;cases z];exact z⟩
theorem CLs.updD(hq:H q=B' (.dT kvs)):∀{cs:IW (IW Int)} {xs:IW V},CLs H cs xs->CLs (upd H q o) cs xs
 |_,_,.nil=>.nil
 |_,_,.cons h t=>.cons (CL.updD h hq)<|CLs.updD hq t
def df(c:IW Int):IW bz:=c.map Kw
def pC(c:IW Int):(df c).map kV=c.map V.int:=by
 unfold df;rw[Lq];rfl
def keyI_inj:df a=df b↔a=b:=UR λ_ _ h=>OI h
theorem l8:∀{zs:IW V},(∀y∈zs,∃p,y=.ref p)->∃ts:IW I_,zs=ts.map V.ref
 |[],_=>⟨[],rfl⟩
 |y::zs,h=>by
  obtain⟨p,rfl⟩:=h y JG;obtain⟨ts,rfl⟩:=l8 λz hz=>h z<|Jy _ hz;exact⟨p::ts,rfl⟩
def nV{α:Type}{l:IW α}{i:Nat}{x:α}(h:l[i]? =B' x):l.take (i+1)=l.take i++[x]:=by
 rw[KQ,h];rfl
def zL(g:bQ d)(h:aO t cs hw sets d=B' c):∀k∈bH d,0<=k/\k < (sets.length:Int):=by
 obtain⟨k,rfl⟩|⟨c',hc,rfl⟩|⟨k,rfl⟩|⟨i,j,z,rfl⟩:=g
 ·rw[ie];exact λ_ h=>nomatch h
 ·exact λ_ h=>nomatch h
 ·rw[eB];intro k' Pk;rw[Jp.mp Pk];unfold aO at h;have f1:bM aT 2 (.tuple [.str aF,.int k])=false:=by
   show(decide (2=2)&&decide (aF=aT))=Jg
   rw[Jj (show¬aF=aT by decide+kernel),Kp]
  have f2:bM br 2 (.tuple [.str aF,.int k])=false:=by
   show(decide (2=2)&&decide (aF=br))=Jg
   rw[Jj (show¬aF=br by decide+kernel),Kp]
  have f3:bM aY 4 (.tuple [.str aF,.int k])=false:=rfl;have f4:bM aF 2 (.tuple [.str aF,.int k])=true:=by
   show(decide (2=2)&&decide (aF=aF))=Je
   simp
  rw[f1,f2,f3,f4,Kp,Kp]at h;have h':hV t hw sets (.int k)=B' c:=h;unfold hV at h';cases e:bj sets.length (.int k)with
  |none=>rw[e]at h';cases h'
  |some i=>
   obtain⟨a1,a2⟩:=ce e;cases a2;lia
 ·rw[eD];intro k' Pk;unfold aO at h;have f1:bM aT 2 (.tuple [.str aY,.int i,.int j,.int z])=false:=rfl;have f2:bM br 2 (.tuple [.str aY,.int i,.int j,.int z])=false:=rfl;have f3:bM aY 4 (.tuple [.str aY,.int i,.int j,.int z])=true:=by
   show(decide (4=4)&&decide (aY=aY))=Je
   simp
  rw[f1,f2,f3,Kp,Kp]at h;have h':dG t hw sets (.int i) (.int j) (.int z)=B' c:=h;unfold dG at h';cases e:bj sets.length (.int i)with
  |none=>rw[e]at h';cases h'
  |some i'=>
  cases e2:bj sets.length (.int j)with
  |none=>rw[e,e2]at h';cases h'
  |some j'=>
   obtain⟨a1,a2⟩:=ce e;obtain⟨b1,b2⟩:=ce e2;cases a2;cases b2;obtain rfl|Pk:=J2.mp Pk
   ·lia
   ·rw[Jp.mp Pk];lia
abbrev wu:Lh:=top 39
def dX(f:Int->Int):Jw->Jw
 |.tuple [.str w,.int i,.int j,.int z]=>if w=aY then .tuple [.str aY,.int<|f i,.int<|f j,.int z]else .tuple [.str w,.int i,.int j,.int z]
 |.tuple [.str w,.int k]=>if w=aF then .tuple [.str aF,.int<|f k]else .tuple [.str w,.int k]
 |d=>d
def iB(f:Int->Int)(k:Int):dX f (.tuple [.str aT,.int k])=.tuple [.str aT,.int k]:=by
 show(if aT=aF then Oj [.str aF,.int<|f k]else Oj [.str aT,.int k])=_
 rw[JK<|by decide+kernel]
def jo(f:Int->Int)(k:Int):dX f (.tuple [.str aF,.int k])=.tuple [.str aF,.int<|f k]:=by
 show(if aF=aF then Oj [.str aF,.int<|f k]else Oj [.str aF,.int k])=_
 rw[JL rfl]
def jp(f:Int->Int)(i j z:Int):dX f (.tuple [.str aY,.int i,.int j,.int z])=.tuple [.str aY,.int<|f i,.int<|f j,.int z]:=by
 show(if aY=aY then Oj [.str aY,.int<|f i,.int<|f j,.int z]else Oj [.str aY,.int i,.int j,.int z])=_
 rw[JL rfl]
theorem qV(f:Int->Int)(c:IW Int):dX f (.tuple [.str br,gc c])=.tuple [.str br,gc c]:=rfl
def l9(g:bQ d):bQ (dX f d):=by
 obtain⟨k,rfl⟩|⟨c,hc,rfl⟩|⟨k,rfl⟩|⟨i,j,z,rfl⟩:=g
 ·rw[iB];exact .inl ⟨k,rfl⟩
 ·exact .inr<|.inl ⟨c,hc,rfl⟩
 ·rw[jo];exact .inr<|.inr<|.inl ⟨_,rfl⟩
 ·rw[jp];exact .inr<|.inr<|.inr ⟨_,_,_,rfl⟩
def ww(g:bQ d):bH (dX f d)=(bH d).map f:=by
 obtain⟨k,rfl⟩|⟨c,hc,rfl⟩|⟨k,rfl⟩|⟨i,j,z,rfl⟩:=g
 ·rw[iB,ie];rfl
 ·rfl
 ·rw[jo,eB,eB];rfl
 ·rw[jp,eD,eD];rfl
inductive De (vs:IW V)(H:Hp)(Q:VK):Prop
 |mk (v:V)(na:I_)(d:Jw)(ns:IW Int)(h0:vs=[v,.ref na])(hd:RD H d v)(hg:bQ d)(hn:H na=B' (.lst (ns.map V.int)))(hr:∀k∈bH d,0<=k/\k < (ns.length:Int))(q:∀v' H',Same H H'->RD H' (dX (λk=>ns.getD k.toNat 0) d) v'->Q v' H'):De vs H Q
def zM:Sp:=λvs H Q _=>De vs H Q
inductive Df (vs:IW V)(H:Hp)(Q:VK):Prop
 |mk (v:V)(na:I_)(d:Jw)(kvs:IW (bz×V))(f:Int->Int)(h0:vs=[v,.ref na])(hd:RD H d v)(hg:bQ d)(hn:H na=B' (.dK kvs))(hr:∀k∈bH d,cx kvs (Kw k:bz)=B' (.int<|f k))(q:∀v' H',Same H H'->RD H' (dX f d) v'->Q v' H'):Df vs H Q
def zN:Sp:=λvs H Q _=>Df vs H Q
def pD{ns:IW Int}{k:Int}(h:0<=k/\k < (ns.length:Int)):rc (ns.map V.int) k=B' (.int<|ns.getD k.toNat 0):=by
 obtain⟨n,rfl⟩:∃n:Nat,k=(n:Int):=⟨k.toNat,by lia⟩;refine aZ ?_;rw[JW,getD_some (d:=(0:Int)) (show n < ns.length by lia)];rfl
def l_(hn:H na=B' (.dK kvs))(h:cx kvs (Kw k:bz)=B' (.int z)):DGet H na (.int k) (B'<|.int z):=by
 rw[<-h];exact DGet.k (k:=Kw k) hn
section
variable {K:IZ}
def uQ:aH ["line","numbers"] ["line","numbers"] (ap wu):=fb
def BZ(F:Fun K "renamed" "renamed" wu f fd):FnOk P w K mg base dh 1 f fd ["line","numbers"] zM:=by
 have sc:=uQ;refine F.okA uQ λMG A outer s H vs Q E hr h=>?_;have hu:=hr.units;have UX:(A.deeper<|J' "renamed" (ap wu) s.heap.objs.size f MG).units+1 < MZ:=by lia
 obtain⟨v,na,d,ns,rfl,hd,hg,hn,hr,q⟩:=h;refine⟨_,(af (aR (aq (aS hu) (aG ay (pv 0) ah λ_ _=>rfl) aC<|aA _) (ai<|ax<|bf<|aa aC<|aa (aG ay (pv 1) (aG ay (pv 0) ah λ_ _=>rfl) λ_ _=>rfl)<|aa (aG ay (pv 1) (aG ay (pv 0) ah λ_ _=>rfl) λ_ _=>rfl)<|aa (aG ay (pv 0) ah λ_ _=>rfl) ae) az)
  (af (aR (aq (aS hu) (aG ay (pv 0) ah λ_ _=>rfl) aC<|aA _) (ai<|ax<|bf<|aa aC<|aa (aG ay (pv 1) (aG ay (pv 0) ah λ_ _=>rfl) λ_ _=>rfl) ae) az)
  (ai<|ax<|pv 0))),?_⟩
 obtain⟨k,rfl⟩|⟨c,hc,rfl⟩|⟨k,rfl⟩|⟨i,j,z,rfl⟩:=hg
 ·obtain⟨a,zs,rfl,ha,hz⟩:=aM hd;obtain⟨d0,d1,x0,x1,e,rfl,r0,r1⟩:=cQ hz rfl;cases e;obtain rfl:=bi r0;refine⟨_,rfl,.inr<|.inl ⟨a,_,0,.str aT,rfl,rfl,SqT.of ha,rfl,.inl ⟨rfl,_,rfl,?_⟩⟩⟩;rw[Jj (show¬V.str aT=V.str (I0 "join") by decide+kernel)];refine aQ ⟨_,rfl,.inr<|.inl ⟨a,_,0,.str aT,rfl,rfl,SqT.of ha,rfl,.inl ⟨rfl,_,rfl,?_⟩⟩⟩;rw[Jj (show¬V.str aT=V.str (I0 "drop") by decide+kernel)];rw[iB]at q;exact aQ ⟨_,rfl,q _ _ (Same.refl _) hd⟩
 ·obtain⟨a,zs,rfl,ha,hz⟩:=aM hd;obtain⟨d0,d1,x0,x1,e,rfl,r0,r1⟩:=cQ hz rfl;cases e;obtain rfl:=bi r0;refine⟨_,rfl,.inr<|.inl ⟨a,_,0,.str br,rfl,rfl,SqT.of ha,rfl,.inl ⟨rfl,_,rfl,?_⟩⟩⟩;rw[Jj (show¬V.str br=V.str (I0 "join") by decide+kernel)];refine aQ ⟨_,rfl,.inr<|.inl ⟨a,_,0,.str br,rfl,rfl,SqT.of ha,rfl,.inl ⟨rfl,_,rfl,?_⟩⟩⟩;rw[Jj (show¬V.str br=V.str (I0 "drop") by decide+kernel)];rw[qV]at q;exact aQ ⟨_,rfl,q _ _ (Same.refl _) hd⟩
 ·obtain⟨a,zs,rfl,ha,hz⟩:=aM hd;obtain⟨d0,d1,x0,x1,e,rfl,r0,r1⟩:=cQ hz rfl;cases e;obtain rfl:=bi r0;obtain rfl:=a_ r1;rw[eB]at hr;rw[jo]at q;refine⟨_,rfl,.inr<|.inl ⟨a,_,0,.str aF,rfl,rfl,SqT.of ha,rfl,.inl ⟨rfl,_,rfl,?_⟩⟩⟩;rw[Jj (show¬V.str aF=V.str (I0 "join") by decide+kernel)];refine aQ ⟨_,rfl,.inr<|.inl ⟨a,_,0,.str aF,rfl,rfl,SqT.of ha,rfl,.inl ⟨rfl,_,rfl,?_⟩⟩⟩;rw[Jz (show V.str aF=V.str (I0 "drop")from rfl)];refine aW ⟨_,rfl,_,rfl,.inr<|.inl ⟨a,_,1,.int k,rfl,rfl,SqT.of ha,rfl,.inl ⟨na,_,_,_,rfl,rfl,SqL.of hn,pD<|hr k<|Jp.mpr rfl,(by show 2<=sizeLine;decide),λl nl=>q (.ref l) _ (ag nl _)<|bo ad<|am (bS _)<|am (bP _) aJ⟩⟩⟩
 ·obtain⟨a,zs,rfl,ha,hz⟩:=aM hd;obtain⟨d0,d1,d2,d3,x0,x1,x2,x3,e,rfl,r0,r1,r2,r3⟩:=ia hz rfl;cases e;obtain rfl:=bi r0;obtain rfl:=a_ r1;obtain rfl:=a_ r2;obtain rfl:=a_ r3;rw[eD]at hr;rw[jp]at q;refine⟨_,rfl,.inr<|.inl ⟨a,_,0,.str aY,rfl,rfl,SqT.of ha,rfl,.inl ⟨rfl,_,rfl,?_⟩⟩⟩;rw[Jz (show V.str aY=V.str (I0 "join")from rfl)];refine aW ⟨_,rfl,_,rfl,.inr<|.inl ⟨a,_,1,.int i,rfl,rfl,SqT.of ha,rfl,.inl ⟨na,_,_,_,rfl,rfl,SqL.of hn,pD<|hr i JG,_,rfl,_,rfl,.inr<|.inl ⟨a,_,2,.int j,rfl,rfl,SqT.of ha,rfl,.inl ⟨na,_,_,_,rfl,rfl,SqL.of hn,pD<|hr j<|Jy _<|Jp.mpr rfl,_,rfl,.inr<|.inl ⟨a,_,3,.int z,rfl,rfl,SqT.of ha,rfl,(by show 4<=sizeLine;decide),λl nl=>q (.ref l) _ (ag nl _)<|bo ad<|am (bS _)<|am (bP _)<|am (bP _)<|am (bP _) aJ⟩⟩⟩⟩⟩⟩
def B0(F:Fun K "renamed" "renamed" wu f fd):FnOk P w K mg base dh 1 f fd ["line","numbers"] zN:=by
 have sc:=uQ;refine F.okA uQ λMG A outer s H vs Q E hr h=>?_;have hu:=hr.units;have UX:(A.deeper<|J' "renamed" (ap wu) s.heap.objs.size f MG).units+1 < MZ:=by lia
 obtain⟨v,na,d,kvs,f',rfl,hd,hg,hn,hr,q⟩:=h;refine⟨_,(af (aR (aq (aS hu) (aG ay (pv 0) ah λ_ _=>rfl) aC<|aA _) (ai<|ax<|bf<|aa aC<|aa (de UX (pv 1) (aG ay (pv 0) ah λ_ _=>rfl) λ_ _=>rfl)<|aa (de UX (pv 1) (aG ay (pv 0) ah λ_ _=>rfl) λ_ _=>rfl)<|aa (aG ay (pv 0) ah λ_ _=>rfl) ae) az)
  (af (aR (aq (aS hu) (aG ay (pv 0) ah λ_ _=>rfl) aC<|aA _) (ai<|ax<|bf<|aa aC<|aa (de UX (pv 1) (aG ay (pv 0) ah λ_ _=>rfl) λ_ _=>rfl) ae) az)
  (ai<|ax<|pv 0))),?_⟩
 obtain⟨k,rfl⟩|⟨c,hc,rfl⟩|⟨k,rfl⟩|⟨i,j,z,rfl⟩:=hg
 ·obtain⟨a,zs,rfl,ha,hz⟩:=aM hd;obtain⟨d0,d1,x0,x1,e,rfl,r0,r1⟩:=cQ hz rfl;cases e;obtain rfl:=bi r0;refine⟨_,rfl,.inr<|.inl ⟨a,_,0,.str aT,rfl,rfl,SqT.of ha,rfl,.inl ⟨rfl,_,rfl,?_⟩⟩⟩;rw[Jj (show¬V.str aT=V.str (I0 "join") by decide+kernel)];refine aQ ⟨_,rfl,.inr<|.inl ⟨a,_,0,.str aT,rfl,rfl,SqT.of ha,rfl,.inl ⟨rfl,_,rfl,?_⟩⟩⟩;rw[Jj (show¬V.str aT=V.str (I0 "drop") by decide+kernel)];rw[iB]at q;exact aQ ⟨_,rfl,q _ _ (Same.refl _) hd⟩
 ·obtain⟨a,zs,rfl,ha,hz⟩:=aM hd;obtain⟨d0,d1,x0,x1,e,rfl,r0,r1⟩:=cQ hz rfl;cases e;obtain rfl:=bi r0;refine⟨_,rfl,.inr<|.inl ⟨a,_,0,.str br,rfl,rfl,SqT.of ha,rfl,.inl ⟨rfl,_,rfl,?_⟩⟩⟩;rw[Jj (show¬V.str br=V.str (I0 "join") by decide+kernel)];refine aQ ⟨_,rfl,.inr<|.inl ⟨a,_,0,.str br,rfl,rfl,SqT.of ha,rfl,.inl ⟨rfl,_,rfl,?_⟩⟩⟩;rw[Jj (show¬V.str br=V.str (I0 "drop") by decide+kernel)];rw[qV]at q;exact aQ ⟨_,rfl,q _ _ (Same.refl _) hd⟩
 ·obtain⟨a,zs,rfl,ha,hz⟩:=aM hd;obtain⟨d0,d1,x0,x1,e,rfl,r0,r1⟩:=cQ hz rfl;cases e;obtain rfl:=bi r0;obtain rfl:=a_ r1;rw[eB]at hr;rw[jo]at q;refine⟨_,rfl,.inr<|.inl ⟨a,_,0,.str aF,rfl,rfl,SqT.of ha,rfl,.inl ⟨rfl,_,rfl,?_⟩⟩⟩;rw[Jj (show¬V.str aF=V.str (I0 "join") by decide+kernel)];refine aQ ⟨_,rfl,.inr<|.inl ⟨a,_,0,.str aF,rfl,rfl,SqT.of ha,rfl,.inl ⟨rfl,_,rfl,?_⟩⟩⟩;rw[Jz (show V.str aF=V.str (I0 "drop")from rfl)];refine aW ⟨_,rfl,_,rfl,.inr<|.inl ⟨a,_,1,.int k,rfl,rfl,SqT.of ha,rfl,na,_,rfl,l_ hn<|hr k<|Jp.mpr rfl,(by show 2<=sizeLine;decide),λl nl=>q (.ref l) _ (ag nl _)<|bo ad<|am (bS _)<|am (bP _) aJ⟩⟩
 ·obtain⟨a,zs,rfl,ha,hz⟩:=aM hd;obtain⟨d0,d1,d2,d3,x0,x1,x2,x3,e,rfl,r0,r1,r2,r3⟩:=ia hz rfl;cases e;obtain rfl:=bi r0;obtain rfl:=a_ r1;obtain rfl:=a_ r2;obtain rfl:=a_ r3;rw[eD]at hr;rw[jp]at q;refine⟨_,rfl,.inr<|.inl ⟨a,_,0,.str aY,rfl,rfl,SqT.of ha,rfl,.inl ⟨rfl,_,rfl,?_⟩⟩⟩;rw[Jz (show V.str aY=V.str (I0 "join")from rfl)];refine aW ⟨_,rfl,_,rfl,.inr<|.inl ⟨a,_,1,.int i,rfl,rfl,SqT.of ha,rfl,na,_,rfl,l_ hn<|hr i JG,_,rfl,_,rfl,.inr<|.inl ⟨a,_,2,.int j,rfl,rfl,SqT.of ha,rfl,na,_,rfl,l_ hn<|hr j<|Jy _<|Jp.mpr rfl,_,rfl,.inr<|.inl ⟨a,_,3,.int z,rfl,rfl,SqT.of ha,rfl,(by show 4<=sizeLine;decide),λl nl=>q (.ref l) _ (ag nl _)<|bo ad<|am (bS _)<|am (bP _)<|am (bP _)<|am (bP _) aJ⟩⟩⟩⟩
end
abbrev B1:Lh:=top 41
structure GS (mg:Str->Jd IX):Prop where
 enumerate:mg "enumerate"=Ji
def iL(out:IW (IW Int)):IW Int:=out.map λc=>((out.idxOf c:Nat):Int)
theorem nW:∀{out:IW (IW Int)} {i:Nat} {c:IW Int},out[i]? =B' c->c∉out.take i->out.idxOf c=i
 |[],i,c,h,_=>by simp at h
 |x::out,0,c,h,_=>by
  have h':x=c:=by simpa using h
  subst h';simp
 |x::out,i+1,c,h,n=>by
  have hx:x≠c:=λz=>n (by rw[Uc,z];exact JG);have h':out[i]? =B' c:=by simpa using h
  have n':c∉out.take i:=λz=>n (by rw[Uc];exact Jy _ z);rw[WE,nW h' n'];have:(x == c)=false:=by simpa using hx
  rw[this];rfl
inductive GT (vs:IW V)(H:Hp)(Q:VK):Prop
 |mk (sl:I_)(ys:IW V)(out:IW (IW Int))(h0:vs=[.ref sl])(h1:H sl=B' (.lst ys))(h2:CLs H out ys)(h3:out.length<=200)(q:∀l H',Same H H'->H l=Ji->H' l=B' (.lst<|(iL out).map V.int)->Q (.ref l) H'):GT vs H Q
def Dg:Sp:=λvs H Q _=>GT vs H Q
inductive GU (sl dk:I_)(out:IW (IW Int))(H:Hp)(i:Nat)(σ:IW (Jd V))(G:Hp):Prop
 |mk (x2 x3:Jd V)(D:IW (IW bz×V))(i0:σ=[B'<|.ref sl,B'<|.ref dk,x2,x3])(i1:G dk=B' (.dT D))(i2:∀c:IW Int,cx D (df c)=if c∈out.take i then B' (.int ((out.idxOf c:Nat):Int))else Ji)(i3:D.length<=i)(i4:Same H G):GU sl dk out H i σ G
section
variable {K:IZ}
def zO(Me:St)(f:Nat->V)(e0:σ0=Ji::Me)(ha:H1 a=B' (.lst xs))(hD:H1 D=Ji)(L_:xs.length<=900)
  (he:∀i x,xs[i]? =B' x->∀H' R,Same H1 H'->R (f i) H'->te (B' x::Me) H' R) (hq:Q (.ref D) (upd H1 D<|.lst<|(Ky xs.length).map f)):gW (wO K a) D (eU 0) Ec te σ0 H1 Q:=by
 have na:a≠D:=aj ha hD;refine dE (K:=K) (a:=a) (xs:=xs) (λi σ ys H2=>(∃v0,σ=v0::Me)/\ys=(Ky i).map f/\H2=upd H1 D (.lst ys)) ⟨⟨Ji,e0⟩,rfl,rfl⟩ ?_ ?_ ?_
 ·rintro i σ ys H2 _ ⟨_,_,rfl⟩;exact⟨ad,SqL.of<|by rw[ao na];exact ha⟩
 ·rintro i x σ ys H2 hx ⟨⟨v0,rfl⟩,rfl,rfl⟩;have Ue:i < xs.length:=(Jk.mp hx).1;refine eP<|he i x hx _ _ (ag hD _) ⟨ad,aE (by rw[Jc,Mk];lia),⟨_,rfl⟩,?_,?_⟩
  ·rw[QD,Ko];rfl
  ·rw[fE]
 ·rintro σ ys H2 ⟨_,rfl,rfl⟩;exact hq
end
section
variable {K:IZ}
def Dh:aH ["sets","places","place","literals"] ["sets"] (ap B1):=fb
def E1(F:Fun K "first_places" "first_places" B1 f fd)(T:GS mg):FnOk P w K mg base dh 1 f fd ["sets"] Dg:=by
 have sc:=Dh;refine F.okA Dh λMG A outer s H vs Q E hr h=>?_;have hu:=hr.units;have UX:(A.deeper<|J' "first_places" (ap B1) s.heap.objs.size f MG).units+1 < MZ:=by lia
 obtain⟨sl,ys,out,rfl,h1,h2,h3,q⟩:=h;have L_:=h2.length;refine⟨_,(af (ar (i:=1) sc.nd rfl (O_ rfl) wV)
  (af (cZ KU rfl (kr rfl T.enumerate<|pv 0) (jy rfl<|bd (aB (i:=2) sc.nd rfl<|JD rfl)<|bd (aB (i:=3) sc.nd rfl<|JD rfl) eE)
   (ai<|cy<|yF UX (pv 1) (pv 3) (pv 2) ⟨rfl,rfl,rfl,rfl⟩))
  (ai<|ax<|bJ (NY:=["literals","places"]) (idx:=[Ji,B' 1]) rfl cS (cg<|pv 0) (λ_ _ _ _=>(aB (i:=0) (nD ["literals","places"]) rfl<|JD rfl)) (λ_ _ _ _=>dm) λ_ _ _ _=>(de UX (pv 1) (pv 0) λ_ _=>rfl)))),?_⟩
 refine λdk ndk=>?_;have k1:=ag ndk<|.dT [];have s1:upd H dk (.dT []) dk=B' (.dT []):=ad;refine⟨_,rfl,sl,rfl,⟨_,SqL.of<|k1 _ _ h1⟩,lq (K:=K) (a:=sl) (xs:=ys) (GU sl dk out H) ⟨Ji,Ji,[],rfl,s1,λc=>rfl,Jh _,k1⟩ ?_ ?_ ?_⟩
 ·rintro i σ G _ ⟨_,_,_,_,_,_,_,k⟩;exact SqL.of<|k _ _ h1
 ·rintro i x σ G t1 hx ⟨x2,x3,D,rfl,i1,i2,i3,i4⟩ ht1;have k2:Same G (upd G t1<|.tup [.int i,x]):=ag ht1 _;obtain⟨c,hc,tc,rfl,Wn⟩:=((h2.mono i4).mono k2).get hx;have Ue:i < out.length:=(Jk.mp hc).1;have Xu:upd G t1 (.tup [.int i,.ref tc]) tc=B' (.tup<|(df c).map kV):=by rw[pC];exact Wn
  have j1:=k2 _ _ i1;have kk:=i4.trans k2;have Yy:upd G t1 (.tup [.int i,.ref tc]) t1=B' (.tup [.int i,.ref tc]):=ad;generalize upd G t1 (.tup [.int i,.ref tc])=G1 at Xu j1 kk Yy ⊢;have et:=nV hc;exists t1,_,rfl,SqT.of Yy,rfl,_,_,rfl,_,_,rfl,rfl;exists _,rfl,dk,rfl,.inr ⟨_,.inl j1⟩,_,rfl,_,rfl;have e0:=i2 c;by_cases hm:c∈out.take i
  ·rw[JL hm]at e0;refine .inl ⟨.int ((out.idxOf c:Nat):Int),by rw[<-e0];exact DGet.t j1 Xu,?_⟩;refine⟨_,_,D,rfl,j1,λc'=>?_,by lia,kk⟩;rw[i2 c',et];have:(c'∈out.take i++[c])↔c'∈out.take i:=by
    rw[JI,Jp];exact⟨λz=>z.elim id λz=>z▸hm,.inl⟩
   simp only [this]
  ·rw[JK hm]at e0;have ei:=nW hc hm;refine .inr ⟨by rw[<-e0];exact DGet.t j1 Xu,_,DPut.t j1 Xu (aE<|by lia),?_⟩;refine⟨_,_,_,rfl,ad,λc'=>?_,?_,kk.upd_new ndk _⟩
   ·rw[kZ,et];by_cases e:c'=c
    ·subst e;rw[JL rfl,JL<|Kc _<|Jp.mpr rfl,ei]
    ·rw[JK λz=>e<|keyI_inj.mp z,i2 c'];have:(c'∈out.take i++[c])↔c'∈out.take i:=by
      rw[JI,Jp];exact⟨λz=>z.elim id λz=>absurd z e,.inl⟩
     simp only [this]
   ·have:=cG D (df c)<|.int (i:Int);lia
 ·rintro σ G ⟨x2,x3,D,rfl,i1,i2,i3,i4⟩;rw[JY<|by lia]at i2;refine⟨_,rfl,sl,rfl,⟨_,SqL.of<|i4 _ _ h1⟩,λDl nDl=>?_⟩;refine zO [B'<|.ref dk] (λi=>.int ((out.idxOf (out.getD i []):Nat):Int)) rfl (i4 _ _ h1) nDl (by lia) (λi x hx H' R k r=>?_) ?_
  ·obtain⟨c,hc,tc,rfl,Wn⟩:=(h2.mono<|i4.trans k).get hx;have Xu:H' tc=B' (.tup<|(df c).map kV):=by rw[pC];exact Wn
   have e0:=i2 c;rw[JL<|Jx hc]at e0;have eg:out.getD i []=c:=by rw[Jr,hc];rfl
   rw[eg]at r;exact⟨_,rfl,_,rfl,dk,_,rfl,by rw[<-e0];exact DGet.t (k _ _ i1) Xu,r⟩
  ·have k5:=ag nDl<|.lst ((Ky ys.length).map λi:Nat=>V.int ((out.idxOf (out.getD i []):Nat):Int));refine q Dl _ (i4.trans k5) (i4.free nDl) ?_;rw[ad]
   congr 2
   unfold iL;rw[Lq];refine OB λj=>?_;rw[JW,JW];by_cases hj:j < out.length
   ·rw[O' (by lia),Jm hj];show B' (V.int ((out.idxOf (out.getD j []):Nat):Int))=B' (V.int _)
    rw[Jr,Jm hj];rfl
   ·rw[Lv (by rw[Mk];lia),Lv<|by lia];rfl
end
def zP:x∈gH NG k↔x∈NG\/x=k:=by
 unfold gH
 split
 ·rename_i h;exact⟨.inl,λz=>z.elim id λz=>z▸h⟩
 ·rw[JI,Jp]
theorem nX:∀{ks NG:IW Int} {x:Int},x∈ks.foldl gH NG↔x∈NG\/x∈ks
 |[],NG,x=>by simp
 |k::ks,NG,x=>by
  rw[NL,nX,zP,J2,or_assoc]
def sQ(h:NG.Nodup):(gH NG k).Nodup:=by
 unfold gH
 split
 ·exact h
 ·rename_i n;rw[P1];exact⟨h,by simp,λx hx y hy z=>by rw[Jp.mp hy]at z;exact n<|z▸hx⟩
theorem j_:∀{ks NG:IW Int},NG.Nodup->(ks.foldl gH NG).Nodup
 |[],_,h=>h
 |_::ks,_,h=>j_ (ks:=ks)<|sQ h
section
variable {nm:Nat->IW Int}{last:Nat}
theorem ig:∀j,(cw nm last j).Nodup
 |0=>by show([(last:Int)]:IW Int).Nodup;simp
 |j+1=>by
  show(if _ then _ else _:IW Int).Nodup
  split
  ·exact j_<|ig j
  ·exact ig j
def needG_step:x∈cw nm last (j+1)↔x∈cw nm last j\/(((last - j:Nat):Int)∈cw nm last j/\x∈nm (last - j)):=by
 show x∈(if _ then _ else _:IW Int)↔_
 split
 ·rename_i h;rw[nX];exact⟨λz=>z.imp id λz=>⟨h,z⟩,λz=>z.imp id λz=>z.2⟩
 ·rename_i h;exact⟨.inl,λz=>z.elim id λz=>absurd z.1 h⟩
theorem ma(h:x∈cw nm last j):∀m,x∈cw nm last (j+m)
 |0=>h
 |m+1=>needG_step.mpr<|.inl<|ma h m
theorem ii(hn:∀i,i<=last->∀k∈nm i,0<=k/\k < (i:Int)):∀{j:Nat} {x:Int},x∈cw nm last j->0<=x/\x<=(last:Int)
 |0,x,h=>by
  have h':x=(last:Int):=Jp.mp h;lia
 |j+1,x,h=>by
  obtain z|⟨_,z⟩:=needG_step.mp h
  ·exact ii hn z
  ·have:=hn (last - j) (Z9 _ _) x z;lia
theorem md(hn:∀i,i<=last->∀k∈nm i,0<=k/\k < (i:Int))(hp:last - j<=p):∀m,(p:Int)∈cw nm last (j+m)->(p:Int)∈cw nm last j
 |0,h=>h
 |m+1,h=>by
  obtain z|⟨_,z⟩:=needG_step.mp (show(p:Int)∈cw nm last ((j+m)+1)from h)
  ·exact md hn hp m z
  ·have:=hn (last - (j+m)) (Z9 _ _) _ z;lia
def pE(hn:∀i,i<=last->∀k∈nm i,0<=k/\k < (i:Int)){p:Nat}(h:(p:Int)∈cw nm last (last+1)):∀k∈nm p,k∈cw nm last (last+1):=λk hk=>by
 have T4:p<=last:=by
  have:=(ii hn h).2;lia
 have e:last+1=(last - p)+(p+1):=by lia
 rw[e]at h;have h1:=md hn (show last - (last - p)<=p by lia) (p+1) h;have h2:k∈cw nm last (last - p+1):=needG_step.mpr<|.inr ⟨by rw[show last - (last - p)=p by lia];exact h1,by rw[show last - (last - p)=p by lia];exact hk⟩;have h3:=ma h2 p;rw[show last - p+1+p=last+1 by lia]at h3;exact h3
end
def pG{out:IW (IW Int)}{k:Nat}{c:IW Int}(h:out[k]? =B' c):out.idxOf c<=k:=by
 obtain g|g:=Lx k (out.idxOf c)
 ·exact absurd (Jk.mp h).2 (by
   have:=List.not_of_lt_findIdx (p:=λx=>x == c) (xs:=out) (i:=k) g;simpa using this)
 ·exact g
def zQ{out:IW (IW Int)}{c:IW Int}(h:c∈out):out.idxOf c < out.length/\out[out.idxOf c]? =B' c:=by grind
abbrev me:Lh:=top 44
structure II (mg:Str->Jd IX):Prop where
 list:mg "list"=Ji
 dict:mg "dict"=Ji
 g_SPOILER:eV mg "SPOILER" (.str<|aK Jg)
inductive Di (vs:IW V)(H:Hp)(Q:VK):Prop
 |mk (p q pp la:I_)(t:Str)(xs ls:IW V)(cs:IW (IW Int))(ds:IW Jw)(out:IW (IW Int))(h0:vs=[.ref p,.ref pp])(h1:H p=B' (.tup [.str t,.ref q]))(h2:t.length<=30)(h3:H q=B' (.lst xs))(h4:CLs H cs xs)(h5:cs.length<=100)(h6:(∀c∈cs,aV t.length c))(h7:H pp=B' (.tup [.str<|aK Jg,.ref la]))(h8:H la=B' (.lst ls))(h9:dJ H ds ls)(h10:ds.length<=200)(h11:(∀d∈ds,eT d))(h12:bu t cs Jg [] ds=(out,Je))
   (h13:∀r c ys H',Same H H'->H r=Ji->H c=Ji->H' r=B' (.tup [.str t,.ref c])->H' c=B' (.lst ys)->CLs H' (eX cs out) ys->Q (.ref r) H'):Di vs H Q
def sR:Sp:=λvs H Q _=>Di vs H Q
def wx(cs:IW (IW Int))(k:IW Int):(cx (dU<|cs.map λc=>(df c,V.bl Je))<|df k).isSome=decide (k∈cs):=by
 unfold dU;rw[qL,QR];show((cx ([]:IW (IW bz×V))<|df k).isSome || _)=_
 rw[show(cx ([]:IW (IW bz×V))<|df k).isSome=Jg from rfl,Yh]
 induction cs with
 |nil=>rfl
 |cons c cs ih=>
  rw[N5,ih,Mc];simp [keyI_inj]
inductive Dj (p pp sl cl dk:I_)(ys:IW V)(cs out:IW (IW Int))(H:Hp)(i:Nat)(σ:IW (Jd V))(G:Hp):Prop
 |mk (x5:Jd V)(zs:IW V)(D:IW (IW bz×V))(i0:σ=[B'<|.ref p,B'<|.ref pp,B'<|.ref sl,B'<|.ref cl,B'<|.ref dk,x5])(i1:G cl=B' (.lst zs))(i2:CLs G (eX cs<|out.take i) zs)(i3:G dk=B' (.dT D))(i4:∀k:IW Int,(cx D<|df k).isSome=decide (k∈eX cs (out.take i)))(i5:D.length<=cs.length+i)(i6:Same H G)(i7:G sl=B' (.lst ys))(i8:CLs G out ys):Dj p pp sl cl dk ys cs out H i σ G
section
variable {K:IZ}
def jL:aH ["sentence","paper","sets","clauses","known","literals"] ["sentence","paper"] (ap me):=fb
def B2(F:Fun K "joined_clauses" "joined_clauses" me f fd)(T:II mg)(OE:Fe P w K mg base 6 "sets_of" ib):FnOk P w K mg base dh 7 f fd ["sentence","paper"] sR:=by
 have sc:=jL;refine F.okA jL λMG A outer s H vs Q E hr h=>?_;obtain⟨p,q,pp,la,t,xs,ls,cs,ds,out,rfl,hp,ht,hq,hcs,h9,hcok,hpp,hla,hds,h8,Xv,Nv,q'⟩:=h;have hu:=hr.units;have UX:(A.deeper<|J' "joined_clauses" (ap me) s.heap.objs.size f MG).units+1 < MZ:=by lia
 have hu2:(A.deeper<|J' "joined_clauses" (ap me) s.heap.objs.size f MG).units+2 < MZ:=by lia
 have hol:out.length=ds.length:=by
  have:=cb Nv;simpa using this
 refine⟨_,(af (ar (i:=2) sc.nd rfl (JD rfl)<|cu OE hr<|aa (pv 0)<|aa (pv 1) ae)
  (af (aR (aq (fV hu) (aG ay (pv 1) ah λ_ _=>rfl) (bB rfl T.g_SPOILER)<|aA _) (ai aX) az)
  (af (ar (i:=3) sc.nd rfl (JD rfl)<|bN cL rfl T.list KZ<|aa (aG ay (pv 0) ah λ_ _=>rfl) ae)
  (af (ar (i:=4) sc.nd rfl (JD rfl)<|bN (sw rfl hu2) rfl T.dict Sz<|aa (bJ (NY:=["clause"]) (idx:=[Ji]) rfl cS (cg<|pv 3) (λ_ _ _ _=>(aB (i:=0) (nD ["clause"]) rfl<|JD rfl)) (λ_ _ _ _=>dm) λ_ _ _ _=>(bf<|aa (pv 0)<|aa fi ae)) ae)
  (af (cZ KU rfl (cg<|pv 2) (aB (i:=5) sc.nd rfl<|JD rfl)
   (ai (aR (wK<|vj UX (pv 5)<|pv 4) (af (kn UX (pv 4) (pv 5) fi rfl)
    (ai<|cy<|eN Kg Ki Kq bO (pv 3)<|aa (pv 5) ae)) az)))
  (ai<|ax<|bf<|aa (aG ay (pv 0) ah λ_ _=>rfl)<|aa (pv 3) ae)))))),?_⟩
 refine⟨_,rfl,_,rfl,p,q,pp,la,t,Jg,xs,ls,cs,ds,out,rfl,hp,ht,hq,hcs,by lia,hcok,hpp,hla,hds,by lia,Xv,Nv,λsl ys H1 k1 nsl WJ VF=>?_⟩;refine⟨_,rfl,.inr<|.inl ⟨pp,_,0,.str<|aK Jg,rfl,rfl,SqT.of<|k1 _ _ hpp,rfl,.inl ⟨rfl,_,rfl,?_⟩⟩⟩;rw[Jz rfl];refine aQ ?_;refine⟨_,rfl,.inr<|.inl ⟨p,_,1,.ref q,rfl,rfl,SqT.of<|k1 _ _ hp,rfl,q,xs,rfl,.inl<|SqL.of<|k1 _ _ hq,λcl ncl=>?_⟩⟩;have k2:=ag ncl<|.lst xs;have s2:upd H1 cl (.lst xs) cl=B' (.lst xs):=ad;generalize upd H1 cl (.lst xs)=H2 at k2 s2;refine⟨_,rfl,cl,rfl,⟨_,SqL.of s2⟩,λD nD=>?_⟩;have alL:=hcs.mono<|k1.trans k2;refine sr [] (λx=>[x,.bl Je]) rfl s2 nD (by rw[<-hcs.length];lia) (λx hx H' R k r=>⟨_,rfl,(by show 2<=sizeLine;decide),r⟩) λzs H3 k3 s3 l3 m3=>?_;obtain⟨ts,ets⟩:∃ts:IW I_,zs=ts.map V.ref:=l8 λy hy=>by
  obtain⟨j,hj,e⟩:=Nl hy;obtain⟨x,_,pt,e2,_⟩:=m3 j y (by rw[Jm hj,e]);exact⟨pt,e2⟩
 obtain⟨cl',ecl⟩:∃cl':IW I_,xs=cl'.map V.ref:=l8 λy hy=>by
  obtain⟨j,hj,e⟩:=Nl hy;obtain⟨x,_,pt,e2,_⟩:=hcs.get (j:=j) (v:=y) (by rw[Jm hj,e]);exact⟨pt,e2⟩
 have lts:ts.length=cs.length:=by rw[hcs.length,<-l3,ets,Jc]
 have lcl:cl'.length=cs.length:=by rw[hcs.length,ecl,Jc]
 have k03:=k1.trans<|k2.trans k3;refine⟨D,ts,cl',cs.map λc=>(df c,V.bl Je),rfl,(by rw[<-ets];exact s3),(by rw[Jc];exact lts),(by rw[Jc];exact lcl),(λi t' c kv e1 e2 e3=>?_),(by rw[Jc];lia),λdk ndk=>?_⟩
 ·rw[JW]at e3;obtain⟨k,hk,rfl⟩:=Lm.mp e3;have hx:xs[i]? =B' (.ref c):=by rw[ecl,JW,e2];rfl
  obtain⟨x,hx',pt,e4,e5⟩:=m3 i (.ref t') (by rw[ets,JW,e1];rfl);rw[hx]at hx';cases hx';cases e4;obtain⟨k',Pk,tc,e6,e7⟩:=(hcs.mono k03).get hx;rw[hk]at Pk;cases Pk;cases e6;exact⟨e5,by rw[pC];exact e7⟩
 have k4:=ag ndk<|.dT<|dU<|cs.map λc=>(df c,V.bl Je);have s4:upd H3 dk (.dT<|dU<|cs.map λc=>(df c,V.bl Je)) dk=B' (.dT<|dU<|cs.map λc=>(df c,V.bl Je)):=ad;have hdl:(dU<|cs.map λc=>(df c,V.bl Je)).length<=cs.length:=by
  have:=h_ (cs.map λc=>(df c,V.bl Je)) [];rw[Jc,Lk,Le]at this;exact this
 have hkn:=wx cs;generalize dU (cs.map λc=>(df c,V.bl Je))=D0 at k4 s4 hdl hkn ⊢;generalize upd H3 dk (.dT D0)=H4 at k4 s4 ⊢;have k04:=k03.trans k4;have kc:=(k2.trans k3).trans k4;have ncd:cl≠dk:=λz=>by have:=k3 _ _ s2;rw[z,ndk]at this;cases this
 have nsc:sl≠cl:=aj WJ ncl;have nsd:sl≠dk:=λz=>by have:=k3 _ _<|k2 _ _ WJ;rw[z,ndk]at this;cases this
 have fcl:H cl=none:=k1.free ncl;have fdk:H dk=none:=k03.free ndk;exists _,rfl,sl,rfl,⟨_,SqL.of<|kc _ _ WJ⟩;refine gP (K:=K) (a:=sl) (xs:=ys) (Dj p pp sl cl dk ys cs out H) ?_ ?_ ?_ ?_
 ·exact⟨Ji,xs,D0,rfl,(k3.trans k4) _ _ s2,hcs.mono k04,s4,hkn,by lia,k04,kc _ _ WJ,VF.mono kc⟩
 ·rintro i σ G _ ⟨_,_,_,_,_,_,_,_,_,_,i7,_⟩;exact SqL.of i7
 ·rintro i x σ G hx ⟨x5,zs',D',rfl,i1,i2,i3,i4,i5,i6,i7,i8⟩;obtain⟨c,hc,tc,rfl,Wn⟩:=i8.get hx;have Xu:G tc=B' (.tup<|(df c).map kV):=by rw[pC];exact Wn
  have Ue:i < out.length:=(Jk.mp hc).1;exists _,rfl,_,rfl,dk,_,rfl,DGet.t i3 Xu;rw[i4];have ej:eX cs (out.take<|i+1)=if c∈eX cs (out.take i)then eX cs (out.take i)else eX cs (out.take i)++[c]:=by rw[nV hc,lV]
  by_cases hm:c∈eX cs (out.take i)
  ·rw[Jz hm];rw[JL hm]at ej;exact⟨_,rfl,aQ ⟨_,zs',D',rfl,i1,by rw[ej];exact i2,i3,by rw[ej];exact i4,by lia,i6,i7,i8⟩⟩
  ·rw[Jj hm];rw[JK hm]at ej;refine⟨_,rfl,aW ?_⟩;exists _,rfl,_,rfl,dk,_,rfl,DPut.t i3 Xu (aE<|by lia);have g1:upd G dk (.dT<|b_ D' (df c)<|.bl Je) cl=B' (.lst zs'):=by rw[ao ncd];exact i1
   have g2:=CLs.updD (o:=.dT<|b_ D' (df c)<|.bl Je) i3 i2;have g3:=CLs.updD (o:=.dT<|b_ D' (df c)<|.bl Je) i3 i8;have g4:upd G dk (.dT<|b_ D' (df c)<|.bl Je) sl=B' (.lst ys):=by rw[ao nsd];exact i7
   have g5:CL (upd G dk<|.dT<|b_ D' (df c)<|.bl Je) c (.ref tc):=CL.updD ⟨tc,rfl,Wn⟩ i3;have g6:upd G dk (.dT<|b_ D' (df c)<|.bl Je) dk=B' (.dT<|b_ D' (df c)<|.bl Je):=ad;have g7:Same H (upd G dk<|.dT<|b_ D' (df c)<|.bl Je):=i6.upd_new fdk _;have g8:(b_ D' (df c)<|.bl Je).length<=cs.length+(i+1):=by have:=cG D' (df c)<|.bl Je;lia
   have g9:∀k:IW Int,(cx (b_ D' (df c)<|.bl Je)<|df k).isSome=decide (k∈eX cs (out.take i)++[c]):=λk=>by
    rw[kZ];by_cases e:k=c
    ·subst e;rw[JL rfl];simp
    ·rw[JK λz=>e<|keyI_inj.mp z,i4,Mc];simp [e]
   have hjl:=nO (out.take i) cs;rw[J9]at hjl;have hzl:=i2.length;generalize upd G dk (.dT<|b_ D' (df c)<|.bl Je)=G1 at g1 g2 g3 g4 g5 g6 g7 ⊢;exists _,rfl,.inl ⟨rfl,_,SqL.of g1⟩,_,rfl,cl,_,_,rfl,rfl,g1,aE (by lia);refine⟨_,zs'++[.ref tc],_,rfl,ad,?_,?_,?_,g8,g7.upd_new fcl _,?_,g3.upd g1⟩
   ·rw[ej];exact CLs.snoc (g5.upd g1)<|g2.upd g1
   ·rw[ao λz=>ncd z.symm];exact g6
   ·rw[ej];exact g9
   ·rw[ao nsc];exact g4
 ·rintro σ G ⟨x5,zs',D',rfl,i1,i2,i3,i4,i5,i6,i7,i8⟩;rw[JY<|by rw[<-VF.length];exact Jh _]at i2;refine⟨_,rfl,.inr<|.inl ⟨p,_,0,.str t,rfl,rfl,SqT.of<|i6 _ _ hp,rfl,_,rfl,(by show 2<=sizeLine;decide),λr nr=>?_⟩⟩;have k5:=ag nr<|.tup [.str t,.ref cl];exact q' r cl zs' _ (i6.trans k5) (i6.free nr) fcl ad (k5 _ _ i1)<|i2.mono k5
end
abbrev B3:Lh:=top 55
abbrev B4:Lh:=top 57
def dW{α:Type}(F:JJ->IW α)(b:JJ)(x:α):JJ->IW α:=λc=>if c=b then F c++[x]else F c
def c_{α:Type}(F:JJ->IW α)(b:JJ)(x:α):dW F b x b=F b++[x]:=JL rfl
def fC{α:Type}(F:JJ->IW α)(x:α)(h:c≠b):dW F b x c=F c:=JK h
def fZ(l:JJ->I_):IW (bz×V):=[(Oz<|aK Jg,.ref<|l Jg),(Oz<|aK Je,.ref<|l Je)]
def fD(h:H d=B' (.dK<|fZ l))(b:JJ):DGet H d (.str<|aK b) (B'<|.ref<|l b):=by
 have e:cx (fZ l) (Oz<|aK b)=B' (.ref<|l b):=by
  cases b<;>rfl
 rw[<-e];exact DGet.k (k:=Oz<|aK b) h
structure LedAt (t:Str)(cs:IW (IW Int))(dl dS:I_)(ll sl:JJ->I_)(H:Hp)(L:JJ->IW Jw)(S:JJ->IW (IW Int)):Prop where
 hl:H dl=B' (.dK<|fZ ll)
 hs:H dS=B' (.dK<|fZ sl)
 l1:ll Jg≠ll Je
 s1:sl Jg≠sl Je
 ls:∀a b,ll a≠sl b
 l:∀b,∃vs,H (ll b)=B' (.lst vs)/\dJ H (L b) vs
 s:∀b,∃vs,H (sl b)=B' (.lst vs)/\CLs H (S b) vs
 good:∀b,∀d∈L b,bQ d
 run:∀b,bu t cs b [] (L b)=(S b,Je)
def Mov(ll sl:JJ->I_)(H H':Hp):Prop:=∀b o,(∀x,b≠ll x/\b≠sl x)->H b=B' o->H' b=B' o
def Mov.trans(a:Mov ll sl H H')(b:Mov ll sl H' H''):Mov ll sl H H'':=λx o h e=>b x o h<|a x o h e
def Mov.of(a:Same H H'):Mov ll sl H H':=λx o _ e=>a x o e
section
variable {dl:I_}
def LedAt.llne(h:LedAt t cs dl dS ll sl H L S)(e:a≠b):ll a≠ll b:=by
 cases a<;>cases b
 ·exact absurd rfl e
 ·exact h.l1
 ·exact λz=>h.l1 z.symm
 ·exact absurd rfl e
def LedAt.slne(h:LedAt t cs dl dS ll sl H L S)(e:a≠b):sl a≠sl b:=by
 cases a<;>cases b
 ·exact absurd rfl e
 ·exact h.s1
 ·exact λz=>h.s1 z.symm
 ·exact absurd rfl e
def LedAt.same(h:LedAt t cs dl dS ll sl H L S)(k:Same H H'):LedAt t cs dl dS ll sl H' L S:=
 ⟨k _ _ h.hl,k _ _ h.hs,h.l1,h.s1,h.ls,λb=>let ⟨vs,a,r⟩:=h.l b;⟨vs,k _ _ a,bp k _ _ r⟩,λb=>let ⟨vs,a,r⟩:=h.s b;⟨vs,k _ _ a,r.mono k⟩,h.good,h.run⟩
def LedAt.len(h:LedAt t cs dl dS ll sl H L S)(b:JJ):(S b).length=(L b).length:=by
 have:=cb<|h.run b;simpa using this
def LedAt.tupNe(h:LedAt t cs dl dS ll sl H L S)(e:H a=B' (.tup vs)):∀x,a≠ll x/\a≠sl x:=λx=>by
 obtain⟨_,h1,_⟩:=h.l x;obtain⟨_,h2,_⟩:=h.s x;exact⟨λz=>(by rw[z,h1]at e;cases e),λz=>(by rw[z,h2]at e;cases e)⟩
def LedAt.newNe(h:LedAt t cs dl dS ll sl H L S)(e:H a=Ji):∀x,a≠ll x/\a≠sl x:=λx=>by
 obtain⟨_,h1,_⟩:=h.l x;obtain⟨_,h2,_⟩:=h.s x;exact⟨λz=>(by rw[z,h1]at e;cases e),λz=>(by rw[z,h2]at e;cases e)⟩
theorem jq:∀{ds:IW Jw} {sets out:IW (IW Int)},bu t cs hw sets ds=(out,Je)->aO t cs hw out d=B' c->bu t cs hw sets (ds++[d])=(out++[c],Je)
 |[],sets,out,h,g=>by
  cases h;show(match aO t cs hw sets d with|none=>(sets,Jg)|some c=>bu t cs hw (sets++[c]) [])=_
  rw[g];rfl
 |e::ds,sets,out,h,g=>by
  show(match aO t cs hw sets e with|none=>(sets,Jg)|some c=>bu t cs hw (sets++[c])<|ds++[d])=_
  have h':(match aO t cs hw sets e with|none=>(sets,Jg)|some c=>bu t cs hw (sets++[c]) ds)=(out,Je):=h;cases q:aO t cs hw sets e with
  |none=>rw[q]at h';cases h'
  |some c'=>
   rw[q]at h';exact jq h' g
def LedAt.put(h:LedAt t cs dl dS ll sl H L S){hw:JJ}{d:Jw}{c:IW Int}{v u:V}{ls ss:IW V}(hv:RD H d v)(hg:bQ d)(hu:CL H c u)(hc:aO t cs hw (S hw) d=B' c)(e1:H (ll hw)=B' (.lst ls))(e2:H (sl hw)=B' (.lst ss))(r1:dJ H (L hw) ls)(r2:CLs H (S hw) ss):
  LedAt t cs dl dS ll sl (upd (upd H (ll hw)<|.lst<|ls++[v]) (sl hw)<|.lst<|ss++[u]) (dW L hw d) (dW S hw c):=by
 have n1:ll hw≠sl hw:=h.ls _ _;have d1:dl≠ll hw:=λz=>by have:=h.hl;rw[z,e1]at this;cases this
 have d2:dl≠sl hw:=λz=>by have:=h.hl;rw[z,e2]at this;cases this
 have d3:dS≠ll hw:=λz=>by have:=h.hs;rw[z,e1]at this;cases this
 have d4:dS≠sl hw:=λz=>by have:=h.hs;rw[z,e2]at this;cases this
 have e2':upd H (ll hw) (.lst<|ls++[v]) (sl hw)=B' (.lst ss):=by rw[ao λz=>n1 z.symm];exact e2
 have g1:bQ d:=hg;refine⟨?_,?_,h.l1,h.s1,h.ls,λb=>?_,λb=>?_,λb=>?_,λb=>?_⟩
 ·rw[ao d2,ao d1];exact h.hl
 ·rw[ao d4,ao d3];exact h.hs
 ·by_cases hb:b=hw
  ·subst hb;refine⟨ls++[v],?_,?_⟩
   ·rw[ao n1];exact ad
   ·rw[c_];have all:∀x∈L b++[d],bQ x:=λx hx=>by
     obtain hx|hx:=JI.mp hx
     ·exact h.good b x hx
     ·rw[Jp.mp hx];exact hg
    exact cm e2' all<|cm e1 all<|RDs_app1 r1<|am hv aJ
  ·obtain⟨vs,a,r⟩:=h.l b;refine⟨vs,?_,?_⟩
   ·rw[ao<|h.ls _ _,ao<|h.llne hb];exact a
   ·rw[fC _ _ hb];exact cm e2' (h.good b)<|cm e1 (h.good b) r
 ·by_cases hb:b=hw
  ·subst hb;exists ss++[u],ad;rw[c_];exact((CLs.snoc hu r2).upd e1).upd e2'
  ·obtain⟨vs,a,r⟩:=h.s b;refine⟨vs,?_,?_⟩
   ·rw[ao<|h.slne hb,ao λz=>h.ls hw b z.symm];exact a
   ·rw[fC _ _ hb];exact(r.upd e1).upd e2'
 ·by_cases hb:b=hw
  ·subst hb;rw[c_];intro x hx;obtain hx|hx:=JI.mp hx
   ·exact h.good b x hx
   ·rw[Jp.mp hx];exact hg
  ·rw[fC _ _ hb];exact h.good b
 ·by_cases hb:b=hw
  ·subst hb;rw[c_,c_];exact jq (h.run b) hc
  ·rw[fC _ _ hb,fC _ _ hb];exact h.run b
where
 RDs_app1 {H:Hp}:∀{ds es:IW Jw} {xs ys:IW V},dJ H ds xs->dJ H es ys->dJ H (ds++es) (xs++ys)
  |[],es,xs,ys,h,g=>by
   have:=cB h;rw[ME.mp this];exact g
  |d::ds,es,xs,ys,h,g=>by
   obtain⟨y,zs,rfl,r,t⟩:=aN h;exact am r<|RDs_app1 t g
def B5(h:LedAt t cs dl dS ll sl H L S):Mov ll sl H (upd (upd H (ll hw) x) (sl hw) y):=λb o n e=>by
 rw[ao (n hw).2,ao (n hw).1];exact e
end
inductive GV (vs:IW V)(H:Hp)(Q:VK):Prop
 |mk (t:Str)(cs:IW (IW Int))(dl dS:I_)(ll sl:JJ->I_)(L:JJ->IW Jw)(S:JJ->IW (IW Int))(hw:JJ)(v u:V)(d:Jw)(c:IW Int)(h0:vs=[.ref dl,.ref dS,.str<|aK hw,v,u])(h:LedAt t cs dl dS ll sl H L S)(hv:RD H d v)(hg:bQ d)(hu:CL H c u)(hc:aO t cs hw (S hw) d=B' c)(hn:(S hw).length<=900)(q:∀H',Mov ll sl H H'->LedAt t cs dl dS ll sl H' (dW L hw d) (dW S hw c)->Q (.int ((S hw).length:Int)) H'):GV vs H Q
def nY:Sp:=λvs H Q _=>GV vs H Q
inductive GW (vs:IW V)(H:Hp)(Q:VK):Prop
 |mk (t:Str)(cs:IW (IW Int))(dl dS:I_)(ll sl:JJ->I_)(L:JJ->IW Jw)(S:JJ->IW (IW Int))(hw:JJ)(n:Nat)(c:IW Int)(h0:vs=[.str t,.ref dl,.ref dS,.str<|aK hw,.int (n:Int)])(h:LedAt t cs dl dS ll sl H L S)(ht:t.length<=9)(hc:(S hw)[n]? =B' c) (hk:aV t.length c) (hn:(S hw).length<=900) (q:∀H' d,Mov ll sl H H'->LedAt t cs dl dS ll sl H' (dW L hw d) (dW S hw<|dg t hw c)->Q (.int ((S hw).length:Int)) H'):GW vs H Q
def uR:Sp:=λvs H Q _=>GW vs H Q
structure GX (mg:Str->Jd IX):Prop where
 len:mg "len"=Ji
section
variable {K:IZ}
def Dk:aH ["_law_lines","_law_sets","_law_hand","_law_line","_law_literals"] ["_law_lines","_law_sets","_law_hand","_law_line","_law_literals"] (ap B3):=fb
def E2(F:Fun K "_law_put" "_law_put" B3 f fd)(T:GX mg):FnOk P w K mg base dh 1 f fd ["_law_lines","_law_sets","_law_hand","_law_line","_law_literals"] nY:=by
 have sc:=Dk;refine F.okA Dk λMG A outer s H vs Q E hr h=>?_;obtain⟨t,cs,dl,dS,ll,sl,L,S,hw,v,u,d,c,rfl,h,hv,hg,hu2,hc,hn,q⟩:=h;have hu:=hr.units;have UX:(A.deeper<|J' "_law_put" (ap B3) s.heap.objs.size f MG).units+1 < MZ:=by lia
 obtain⟨ls,e1,r1⟩:=h.l hw;obtain⟨ss,e2,r2⟩:=h.s hw;have hll:=cB r1;have WJ:=r2.length;have hls:=h.len hw;have n1:ll hw≠sl hw:=h.ls _ _;have e2':upd H (ll hw) (.lst<|ls++[v]) (sl hw)=B' (.lst ss):=by rw[ao λz=>n1 z.symm];exact e2
 have d3:dS≠ll hw:=λz=>by have:=h.hs;rw[z,e1]at this;cases this
 have VG:upd H (ll hw) (.lst<|ls++[v]) dS=B' (.dK<|fZ sl):=by rw[ao d3];exact h.hs
 have put:=h.put hv hg hu2 hc e1 e2 r1 r2;refine⟨_,(af (cy<|eN Kg Ki Kq bO (de UX (pv 0) (pv 2) λ_ _=>rfl)<|aa (pv 3) ae)
  (af (cy<|eN Kg Ki Kq bO (de UX (pv 1) (pv 2) λ_ _=>rfl)<|aa (pv 4) ae)
  (ai<|ax<|aI fj (au bh rfl T.len Kt<|aa (de UX (pv 1) (pv 2) λ_ _=>rfl) ae) ah))),?_⟩
 exists _,rfl,_,rfl,dl,_,rfl,fD h.hl hw,.inl ⟨rfl,_,SqL.of e1⟩,_,rfl,ll hw,_,_,rfl,rfl,e1,aE (by lia);exists _,rfl,_,rfl,dS,_,rfl,fD VG hw,.inl ⟨rfl,_,SqL.of e2'⟩,_,rfl,sl hw,_,_,rfl,rfl,e2',aE (by lia);exists _,rfl,_,rfl,dS,_,rfl,fD put.hs hw,.ref<|sl hw,_,rfl,.inl ⟨_,SqL.of ad,rfl⟩,_,_,rfl,rfl;have en:((ss++[u]).length:Int) - 1=((S hw).length:Int):=by
  rw[JC,Kk];lia
 rw[en];exact q _ (B5 h) put
def uS{t:Str}{cs sets:IW (IW Int)}{hw:JJ}{c:IW Int}{n:Nat}(h:sets[n]? =B' c):aO t cs hw sets (.tuple [.str aF,.int (n:Int)])=B' (dg t hw c):=by
 have f0:bM aT 2 (.tuple [.str aF,.int (n:Int)])=false:=by
  show(decide (2=2)&&decide (aF=aT))=Jg
  decide+kernel
 have f1:bM br 2 (.tuple [.str aF,.int (n:Int)])=false:=by
  show(decide (2=2)&&decide (aF=br))=Jg
  decide+kernel
 have f2:bM aY 4 (.tuple [.str aF,.int (n:Int)])=false:=rfl;have f3:bM aF 2 (.tuple [.str aF,.int (n:Int)])=true:=by
  show(decide (2=2)&&decide (aF=aF))=Je
  simp
 have hn:n < sets.length:=(Jk.mp h).1;unfold aO;rw[f0,f1,f2,f3,Kp,Kp,JK JR,JK JR,JK JR,JL rfl];show(bj sets.length<|.int (n:Int)).map (λi=>dg t hw<|sets.getD i [])=_
 have e:bj sets.length (.int (n:Int))=B' n:=by
  show(if 0<=(n:Int)/\(n:Int) < (sets.length:Int)then B' (n:Int).toNat else Ji)=B' n
  rw[JL ⟨by lia,by lia⟩];simp
 rw[e];show B' (dg t hw<|sets.getD n [])=_
 rw[Jr,h];rfl
def Dm:aH ["_law_turns","_law_lines","_law_sets","_law_hand","_law_place"] ["_law_turns","_law_lines","_law_sets","_law_hand","_law_place"] (ap B4):=fb
def E3(F:Fun K "_law_drop" "_law_drop" B4 f fd)(N8:Fe P w K mg base 1 "_law_put" nY)(Z2:Fe P w K mg base 2 "_law_rest" uN):FnOk P w K mg base dh 3 f fd ["_law_turns","_law_lines","_law_sets","_law_hand","_law_place"] uR:=by
 have sc:=Dm;refine F.okA Dm λMG A outer s H vs Q E hr h=>?_;obtain⟨t,cs,dl,dS,ll,sl,L,S,hw,n,c,rfl,h,ht,hc,hk,hn,q⟩:=h;have hu:=hr.units;have UX:(A.deeper<|J' "_law_drop" (ap B4) s.heap.objs.size f MG).units+1 < MZ:=by lia
 exists _,(ai<|ax<|cu N8 hr<|aa (pv 1)<|aa (pv 2)<|aa (pv 3)<|aa (bf<|aa aC<|aa (pv 4) ae)<|aa (cu Z2 hr<|aa (pv 0)<|aa (pv 3)<|aa (aG ay (de UX (pv 2) (pv 3) λ_ _=>rfl) (pv 4) λ_ _=>rfl) ae) ae);refine⟨_,rfl,_,rfl,_,rfl,_,rfl,(by show 2<=sizeLine;decide),λtp ntp=>?_⟩;have k1:=ag ntp<|.tup [.str<|I0 "drop",.int (n:Int)];have s1:upd H tp (.tup [.str<|I0 "drop",.int (n:Int)]) tp=B' (.tup [.str aF,.int (n:Int)]):=ad;generalize upd H tp (.tup [.str<|I0 "drop",.int (n:Int)])=H1 at k1 s1 ⊢;have h1:=h.same k1;obtain⟨ss,e2,r2⟩:=h1.s hw;have WJ:=r2.length;have hnl:n < (S hw).length:=(Jk.mp hc).1;obtain⟨y,hy⟩:∃y,ss[n]? =B' y:=⟨_,Jm (by lia)⟩;obtain⟨c',hc',l,rfl,hl⟩:=r2.get hy;rw[hc]at hc';cases hc';refine⟨_,rfl,_,rfl,_,rfl,_,rfl,dS,_,rfl,fD h1.hs hw,_,rfl,.inl ⟨sl hw,_,_,.ref l,rfl,rfl,SqL.of e2,aZ hy,l,t,hw,c,rfl,by lia,hl,hk,λl2 H2 k2 YD=>?_⟩⟩;exact⟨t,cs,dl,dS,ll,sl,L,S,hw,.ref tp,.ref l2,.tuple [.str aF,.int (n:Int)],dg t hw c,rfl,h1.same k2,bo (k2 _ _ s1) (am (bS _) (am (bP _) aJ)),.inr (.inr (.inl ⟨_,rfl⟩)),⟨l2,rfl,YD⟩,uS hc,hn,λH' m hx=>q H' _ ((Mov.of (k1.trans k2)).trans m) hx⟩
end
abbrev E4:Lh:=top 58
def wH(bs:IW JJ)(z:Int):JJ:=decide (absI z<=(bs.length:Int))&&(bs.getD (absI z - 1).toNat Jg == decide (z > 0))
def B6(h:∀z∈ns,wH bs z=Je/\1<=absI z):HC ns:=λa ha b hb e=>by
 have h1:=h a ha;have h2:=h b hb;unfold wH at h1 h2;rw[J_]at h1 h2;have g1:=eq_of_beq h1.1.2;have g2:=eq_of_beq h2.1.2;rw[e,g2]at g1;obtain⟨q1,q2⟩|⟨q1,q2⟩:=bE a<;>obtain⟨q3,q4⟩|⟨q3,q4⟩:=bE b
 ·lia
 ·rw[Nw]at g1;lia
 ·rw[Nw]at g1;lia
 ·lia
inductive GY (vs:IW V)(H:Hp)(Q:VK):Prop
 |mk (p qa bg:I_)(t:Str)(zs:IW V)(cs:IW (IW Int))(bs:IW JJ)(h0:vs=[.ref p,.ref bg])(hp:H p=B' (.tup [.str t,.ref qa]))(ht:t.length<=9)(hq:H qa=B' (.lst zs))(hcs:CLs H cs zs)(h9:cs.length<=17)(hok:∀c∈cs,aV t.length c)(hb:H bg=B' (.lst<|bs.map V.bl))(hbl:bs.length<=t.length)
   (q1:∀c l H',Same H H'->sD H' l c->aV t.length c->c.length<=18->(∀z∈c,wH bs z=Je)->lM c cs=Je->Q (.ref l) H') (q2:∀k H',Same H H'->k∈cs->(∀z∈k,wH bs z=Jg)->Q .non H'):GY vs H Q
def Do:Sp:=λvs H Q _=>GY vs H Q
inductive GZ (p bg ch:I_)(t:Str)(cs:IW (IW Int))(bs:IW JJ)(H:Hp)(i:Nat)(σ:St)(G:Hp):Prop
 |mk (x3 x4:Jd V)(ns:IW Int)(i0:σ=[B'<|.ref p,B'<|.ref bg,B'<|.ref ch,x3,x4])(i1:G ch=B' (.lst<|ns.map V.int))(i2:ns.length<=i)(i3:∀z∈ns,wH bs z=Je/\1<=absI z/\absI z<=(t.length:Int))(i4:∀k∈cs.take i,∃z∈ns,z∈k)(i5:Same H G):GZ p bg ch t cs bs H i σ G
structure G_ (mg:Str->Jd IX):Prop where
 len:mg "len"=Ji
 abs:mg "abs"=Ji
def sS(bs:IW JJ):((bs.map V.bl).length:Int)=(bs.length:Int):=by rw[Jc]
def zR{bs:IW JJ}{z:Int}(h1:1<=absI z)(h2:absI z<=(bs.length:Int)):rc (bs.map V.bl) (absI z - 1)=B' (.bl<|bs.getD (absI z - 1).toNat Jg):=by
 have e:absI z - 1=(((absI z - 1).toNat:Nat):Int):=by lia
 have hl:(absI z - 1).toNat < bs.length:=by lia
 rw[e];refine aZ ?_;rw[JW,MQ,Jm hl,Jr,Jm hl];rfl
def dec_bl(a b:JJ):decide (V.bl a=V.bl b)=(a == b):=by cases a<;>cases b<;>rfl
section
variable {K:IZ}
def Dp:aH ["_law_sentence_here","_law_begun","_law_chosen","_law_clause","_law_good"] ["_law_sentence_here","_law_begun"] (ap E4):=fb
def E5(F:Fun K "_law_hits" "_law_hits" E4 f fd)(T:G_ mg)(Py:Fe P w K mg base 1 "_law_set" l6):FnOk P w K mg base dh 2 f fd ["_law_sentence_here","_law_begun"] Do:=by
 have sc:=Dp;refine F.okA Dp λMG A outer s H vs Q E hr h=>?_;obtain⟨p,qa,bg,t,zs,cs,bs,rfl,hp,ht,hq,hcs,h9,hok,hb,hbl,q1,q2⟩:=h;have hu:=hr.units;have hzl:=hcs.length;refine⟨_,(af (ar (i:=2) sc.nd rfl (O_ rfl)<|aP ae)
  (af (cZ KU rfl (cg<|aG ay (pv 0) ah λ_ _=>rfl) (aB (i:=3) sc.nd rfl<|JD rfl)
   (ai (aR (aq (aS hu) (bJ (NY:=["_law_literal","_law_chosen"]) (idx:=[Ji,B' 2]) rfl cS (d_<|pv 3) (λ_ _ _ _=>(aB (i:=0) (nD ["_law_literal","_law_chosen"]) rfl<|JD rfl)) (λ_ _ _ _=>(cN<|aq (iF (K:=K) rfl) (pv 0) (pv 1)<|by with_unfolding_all rfl)) λ_ _ _ _=>(pv 0)) (aP ae)<|aA _) (af (fq (i:=4) sc.nd rfl rfl (NY:=["_law_literal","_law_begun"]) (idx:=[Ji,B' 1]) rfl cS (d_<|pv 3) (λ_ _ _ _=>(aB (i:=0) (nD ["_law_literal","_law_begun"]) rfl<|JD rfl)) (λ_ _ _ _=>(cN<|aq kW (au bW rfl T.abs Kj<|aa (pv 0) ae) (au (mT (K:=K) rfl) rfl T.len Kt<|aa (pv 1) ae)<|aA _)) (λ_ _ _ _=>(pv 0))<|by with_unfolding_all rfl)
    (af (fq (i:=4) sc.nd rfl rfl (NY:=["_law_literal","_law_begun"]) (idx:=[Ji,B' 1]) rfl cS (cg<|pv 4) (λ_ _ _ _=>(aB (i:=0) (nD ["_law_literal","_law_begun"]) rfl<|JD rfl)) (λ_ _ _ _=>(cN<|aq (aS hu) (aG (iW (K:=K) rfl) (pv 1) (aI fj (au bW rfl T.abs Kj<|aa (pv 0) ae) ah) λ_ _=>rfl) (eF mI (pv 0) ah<|aA _)<|aA _)) (λ_ _ _ _=>(pv 0))<|by with_unfolding_all rfl)
    (af (aR (aq (aS hu) (pv 4) (aP ae)<|aA _) (ai<|ax bR) az)
    (ai<|cy<|eN Kg Ki Kq bO (pv 2)<|aa (aG ay (pv 4) ah λ_ _=>rfl) ae)))) az)))
  (ai<|ax<|cu Py hr<|aa (pv 2) ae))),?_⟩
 refine⟨JQ _,λch XI=>?_⟩;have k0:=ag XI<|.lst [];have r0:upd H ch (.lst []) ch=B' (.lst []):=ad;generalize upd H ch (.lst [])=H0 at k0 r0 ⊢;refine⟨_,rfl,.inr<|.inl ⟨p,_,1,.ref qa,rfl,rfl,SqT.of<|k0 _ _ hp,rfl,qa,rfl,⟨_,SqL.of<|k0 _ _ hq⟩,gP (K:=K) (a:=qa) (xs:=zs) (GZ p bg ch t cs bs H) ⟨Ji,Ji,[],rfl,r0,Jh _,λ_ h=>(nomatch h),λk hk=>(by rw[NC]at hk;cases hk),k0⟩ ?_ ?_ ?_⟩⟩
 ·rintro i σ G _ ⟨_,_,_,_,_,_,_,_,k⟩;exact SqL.of<|k _ _ hq
 ·rintro i y σ G hy ⟨x3,x4,ns,rfl,j1,j2,j3,j4,kG⟩;have Ue:i < zs.length:=(Jk.mp hy).1;obtain⟨c,hc,tc,rfl,Wn⟩:=hcs.get hy;have hcm:=Jx hc;have hck:=hok c hcm;have T6:=cY hck;have Xu:cs.take (i+1)=cs.take i++[c]:=by rw[KQ,hc];rfl
  refine⟨_,rfl,tc,rfl,⟨_,SqT.of<|kG _ _ Wn⟩,λD hD=>?_⟩;refine cE [B'<|.ref ch] (isI λz=>ns.contains z) (λx=>x) rfl (kG _ _ Wn) hD (by rw[Jc];lia) ?_ ?_ ?_
  ·intro x hx H' R k r;obtain⟨z,_,rfl⟩:=cD hx;exists _,rfl,_,rfl,ch,_,rfl,.inl<|SqL.of<|k _ _ j1,rfl,cF _,_,rfl;show R (re (.int z)<|ns.map V.int) H'
   rw[c8];exact r
  ·intro x hx _ H' R k r;exact⟨_,rfl,r⟩
  rw[bZ c (λz=>ns.contains z) _ λi=>rfl];have YF:∀z,z∈c.filter (λz=>ns.contains z)↔z∈c/\z∈ns:=λz=>by
   rw[KR];simp
  generalize c.filter (λz=>ns.contains z)=is at YF;have k1:=ag hD<|.lst<|is.map V.int;have r1:upd G D (.lst<|is.map V.int) D=B' (.lst<|is.map V.int):=ad;generalize upd G D (.lst<|is.map V.int)=G1 at k1 r1 ⊢;refine⟨JQ _,λe1 he1=>?_⟩;have k2:=ag he1<|.lst [];have r2:upd G1 e1 (.lst []) e1=B' (.lst []):=ad;replace r1:=k2 _ _ r1;have k12:=k1.trans k2;generalize upd G1 e1 (.lst [])=G2 at k12 r1 r2 ⊢;clear k1 k2;refine .inr ⟨.list<|is.map .int,.list [],bI r1<|eO _,bI r2 aJ,eQ _,by decide+kernel,_,rfl,?_⟩;have ee:KC (.list<|is.map .int) (.list [])=decide (is=[]):=kP is [];rw[ee];have kG2:=kG.trans k12;by_cases his:is=[]
  rotate_left
  ·rw[Jj his];obtain⟨z,hz⟩:=O5 _ his;refine aQ ⟨_,_,ns,rfl,k12 _ _ j1,Vr j2,j3,λk hk=>?_,kG2⟩;rw[Xu]at hk;obtain hk|hk:=JI.mp hk
   ·exact j4 k hk
   ·rw[Jp.mp hk];exact⟨z,((YF z).mp hz).2,((YF z).mp hz).1⟩
  rw[Jz his];refine aW ⟨_,rfl,tc,rfl,⟨_,SqT.of<|kG2 _ _ Wn⟩,λD1 hD1=>?_⟩;have b2:=kG2 _ _ hb;refine cE [B'<|.ref bg] (isI λz=>decide (absI z<=((bs.map V.bl).length:Int))) (λx=>x) rfl (kG2 _ _ Wn) hD1 (by rw[Jc];lia) ?_ ?_ ?_
  ·intro x hx H' R k r;obtain⟨z,_,rfl⟩:=cD hx;exact⟨_,rfl,z,rfl,_,rfl,.ref bg,_,rfl,.inl ⟨_,SqL.of<|k _ _ b2,rfl⟩,_,_,rfl,rfl,_,rfl,r⟩
  ·intro x hx _ H' R k r;exact⟨_,rfl,r⟩
  rw[bZ c (λz=>decide (absI z<=((bs.map V.bl).length:Int))) _ λi=>rfl];have Zb:∀z,z∈c.filter (λz=>decide (absI z<=((bs.map V.bl).length:Int)))↔z∈c/\absI z<=(bs.length:Int):=λz=>by
   rw[KR,sS,Og]
  have ag':=LS (λz=>decide (absI z<=((bs.map V.bl).length:Int))) c;generalize c.filter (λz=>decide (absI z<=((bs.map V.bl).length:Int)))=as at Zb ag';have k3:=ag hD1<|.lst<|as.map V.int;have r3:upd G2 D1 (.lst<|as.map V.int) D1=B' (.lst<|as.map V.int):=ad;dsimp only;generalize upd G2 D1 (.lst<|as.map V.int)=G3 at k3 r3 ⊢;have k13:=k12.trans k3;have kG3:=kG.trans k13;have b3:=k3 _ _ b2;refine⟨_,rfl,D1,rfl,⟨_,SqL.of r3⟩,λD2 YJ=>?_⟩;refine gy [B'<|.ref bg] (isI λz=>bs.getD (absI z - 1).toNat Jg == decide (z > 0)) (λx=>x) rfl r3 YJ (by rw[Jc];lia) ?_ ?_ ?_
  ·intro x hx H' R k r;obtain⟨z,hz,rfl⟩:=cD hx;have hz1:=(Zb z).mp hz;refine⟨_,rfl,_,rfl,z,rfl,_,_,rfl,rfl,.inl ⟨bg,_,_,.bl<|bs.getD (absI z - 1).toNat Jg,rfl,rfl,SqL.of<|k _ _ b3,zR (hck.2 z hz1.1).1 hz1.2,_,rfl,_,_,rfl,rfl,.inl ⟨rfl,_,rfl,?_⟩⟩⟩;rw[dec_bl];exact r
  ·intro x hx _ H' R k r;exact⟨_,rfl,r⟩
  rw[bZ as (λz=>bs.getD (absI z - 1).toNat Jg == decide (z > 0)) _ λi=>rfl];have ZX:∀z,z∈as.filter (λz=>bs.getD (absI z - 1).toNat Jg == decide (z > 0))↔z∈c/\wH bs z=true:=λz=>by
   rw[KR,Zb];unfold wH;rw[J_,Og,and_assoc]
  generalize as.filter (λz=>bs.getD (absI z - 1).toNat Jg == decide (z > 0))=gs at ZX;have k4:=ag YJ<|.lst<|gs.map V.int;have r4:upd G3 D2 (.lst<|gs.map V.int) D2=B' (.lst<|gs.map V.int):=ad;dsimp only;generalize upd G3 D2 (.lst<|gs.map V.int)=G4 at k4 r4 ⊢;have k14:=k13.trans k4;refine⟨_,rfl,JQ _,λe2 he2=>?_⟩;have k5:=ag he2<|.lst [];have r5:upd G4 e2 (.lst []) e2=B' (.lst []):=ad;replace r4:=k5 _ _ r4;replace k14:=k14.trans k5;dsimp only;generalize upd G4 e2 (.lst [])=G5 at k14 r4 r5 ⊢;clear k5 k4;refine .inr ⟨.list<|gs.map .int,.list [],bI r4<|eO _,bI r5 aJ,eQ _,by decide+kernel,_,rfl,?_⟩;have ee2:KC (.list<|gs.map .int) (.list [])=decide (gs=[]):=kP gs [];rw[ee2];have kG5:=kG.trans k14;cases gs with
  |nil=>
   rw[Jz rfl];refine aW<|q2 c _ kG5 hcm λz hz=>?_;cases g:wH bs z with
   |false=>rfl
   |true=>exact nomatch (ZX z).mpr ⟨hz,g⟩
  |cons e gs=>
   rw[Jj<|Se _ _];have he:=(ZX e).mp JG;refine aQ ⟨_,rfl,.inl ⟨rfl,_,SqL.of<|k14 _ _ j1⟩,_,rfl,.inl ⟨D2,_,0,.int e,rfl,rfl,SqL.of r4,aZ (j:=0) rfl,ch,_,_,rfl,rfl,k14 _ _ j1,(by rw[Jc];exact aE<|by lia),?_⟩⟩;refine⟨_,_,ns++[e],rfl,?_,by rw[JC];exact R_ j2,λz hz=>?_,λk hk=>?_,λb o eb=>?_⟩
   ·rw[ad,Ko];rfl
   ·obtain hz|hz:=JI.mp hz
    ·exact j3 z hz
    ·rw[Jp.mp hz];exact⟨he.2,hck.2 e he.1⟩
   ·rw[Xu]at hk;obtain hk|hk:=JI.mp hk
    ·obtain⟨z,h1,h2⟩:=j4 k hk;exact⟨z,Lp _ h1,h2⟩
    ·rw[Jp.mp hk];exact⟨e,Kc _ JG,he.1⟩
   ·rw[ao<|aj eb XI];exact kG5 _ _ eb
 ·rintro σ G ⟨x3,x4,ns,rfl,j1,j2,j3,j4,kG⟩;rw[<-hzl,JY<|Jh _]at j4;refine⟨_,rfl,ch,ns,rfl,j1,by lia,B6 λz hz=>⟨(j3 z hz).1,(j3 z hz).2.1⟩,λl r G2 k2 hl hup hm=>?_⟩;have hrk:aV t.length r:=⟨hup,λz hz=>(j3 z<|(hm z).mp hz).2⟩;have hrl:=cY hrk;refine q1 r l G2 (kG.trans k2) hl hrk (by lia) (λz hz=>(j3 z<|(hm z).mp hz).1) ?_;unfold lM;rw[Md];intro k hk;obtain⟨z,h1,h2⟩:=j4 k hk;exact MY.mpr ⟨z,(hm z).mpr h1,by simpa using h2⟩
end
abbrev Iu:Lh:=top 59
def ki(bs:IW JJ)(hw:JJ)(z:Int):Prop:=absI z<=(bs.length:Int)/\(bs.getD (absI z - 1).toNat Jg == decide (z > 0))=hw
def zT{t:Str}{cs sets:IW (IW Int)}{c:IW Int}{n:Nat}(h:cs[n]? =B' c):aO t cs Jg sets (.tuple [.str aT,.int (n:Int)])=B' c:=by
 have f1:bM aT 2 (.tuple [.str aT,.int (n:Int)])=true:=by
  show(decide (2=2)&&decide (aT=aT))=Je
  simp
 have hn:n < cs.length:=(Jk.mp h).1;unfold aO;rw[f1,JL (show(!Jg&&Je)=Je from rfl)];show(bj cs.length<|.int (n:Int)).map (λi=>cs.getD i [])=B' c
 have e:bj cs.length (.int (n:Int))=B' n:=by
  show(if 0<=(n:Int)/\(n:Int) < (cs.length:Int)then B' (n:Int).toNat else Ji)=B' n
  rw[JL ⟨by lia,by lia⟩];simp
 rw[e];show B' (cs.getD n [])=B' c
 rw[Jr,h];rfl
def zU(h:aV t.length c)(hh:lM c cs=Je):aO t cs Je sets (.tuple [.str br,gc c])=B' c:=by
 have f1:bM br 2 (.tuple [.str br,gc c])=true:=by
  show(decide (2=2)&&decide (br=br))=Je
  simp
 have e:j6 (gc c)=c:=by
  show((c.map Pt).map zD)=c
  rw[Lq];exact Y0 _
 unfold aO;rw[JK (by simp),f1,JL (show(Je&&Je)=Je from rfl)];show jc t.length cs (gc c)=B' c
 unfold jc;rw[Bi h,e,hh];rfl
inductive IJ (vs:IW V)(H:Hp)(Q:VK):Prop
 |mk (p qa bg dl dS:I_)(ll sl:JJ->I_)(t:Str)(zs:IW V)(cs:IW (IW Int))(bs:IW JJ)(L:JJ->IW Jw)(S:JJ->IW (IW Int))(h0:vs=[.ref p,.ref dl,.ref dS,.ref bg])(hp:H p=B' (.tup [.str t,.ref qa]))(ht:t.length<=9)(hq:H qa=B' (.lst zs))(hcs:CLs H cs zs)(h9:cs.length<=17)(hok:∀c∈cs,aV t.length c)(hb:H bg=B' (.lst<|bs.map V.bl))(hbl:bs.length<=t.length)(h:LedAt t cs dl dS ll sl H L S)(hn:∀b,(S b).length<=900)
   (q1:∀hw c d tp H',Mov ll sl H H'->LedAt t cs dl dS ll sl H' (dW L hw d) (dW S hw c)->aV t.length c->(∀z∈c,ki bs hw z)->H' tp=B' (.tup [.str<|aK hw,.int ((S hw).length:Int)])->Q (.ref tp) H') (q2:∀H',Same H H'->bs.length < t.length->Q .non H'):IJ vs H Q
def B7:Sp:=λvs H Q _=>IJ vs H Q
inductive Iv (p dl dS bg:I_)(cs:IW (IW Int))(bs:IW JJ)(H:Hp)(i:Nat)(σ:St)(G:Hp):Prop
 |mk (x4 x5 x6 x7:Jd V)(i0:σ=[B'<|.ref p,B'<|.ref dl,B'<|.ref dS,B'<|.ref bg,x4,x5,x6,x7])(i1:∀c∈cs.take i,∃z∈c,absI z > (bs.length:Int)\/wH bs z=Je)(i2:Same H G):Iv p dl dS bg cs bs H i σ G
structure Ha (mg:Str->Jd IX):Prop where
 len:mg "len"=Ji
 abs:mg "abs"=Ji
 range:mg "range"=Ji
section
variable {K:IZ}
def Hb:aH ["_law_sentence_here","_law_lines","_law_sets","_law_begun","_law_k","_law_clause","_law_some","_law_literals"] ["_law_sentence_here","_law_lines","_law_sets","_law_begun"] (ap Iu):=fb
def Hc(F:Fun K "_law_seen" "_law_seen" Iu f fd)(T:Ha mg)(N8:Fe P w K mg base 1 "_law_put" nY)(Z3:Fe P w K mg base 2 "_law_hits" Do):FnOk P w K mg base dh 3 f fd ["_law_sentence_here","_law_lines","_law_sets","_law_begun"] B7:=by
 have sc:=Hb;refine F.okA Hb λMG A outer s H vs Q E hr h=>?_;obtain⟨p,qa,bg,dl,dS,ll,sl,t,zs,cs,bs,L,S,rfl,hp,ht,hq,hcs,h9,hok,hb,hbl,h,hn,q1,q2⟩:=h;have hu:=hr.units;have hzl:=hcs.length;refine⟨_,(af (cZ KU rfl (dA rfl T.range<|aa (au bh rfl T.len Kt<|aa (aG ay (pv 0) ah λ_ _=>rfl) ae) ae) (aB (i:=4) sc.nd rfl<|JD rfl)
   (af (ar (i:=5) sc.nd rfl (JD rfl)<|aG ay (aG ay (pv 0) ah λ_ _=>rfl) (pv 4) λ_ _=>rfl)
   (af (fq (i:=6) sc.nd rfl rfl (NY:=["_law_literal","_law_begun"]) (idx:=[Ji,B' 3]) rfl cS (d_<|pv 5) (λ_ _ _ _=>(aB (i:=0) (nD ["_law_literal","_law_begun"]) rfl<|JD rfl)) (λ_ _ _ _=>(cN<|aq mI (au bW rfl T.abs Kj<|aa (pv 0) ae) (au (mT (K:=K) rfl) rfl T.len Kt<|aa (pv 1) ae)<|aA _)) (λ_ _ _ _=>(pv 0))<|by with_unfolding_all rfl)
   (af (aR (aq (aS hu) (pv 6) (aP ae)<|aA _) (ai<|fq (i:=6) sc.nd rfl rfl (NY:=["_law_literal","_law_begun"]) (idx:=[Ji,B' 3]) rfl cS (d_<|pv 5) (λ_ _ _ _=>(aB (i:=0) (nD ["_law_literal","_law_begun"]) rfl<|JD rfl)) (λ_ _ _ _=>(cN<|aq (aS hu) (aG (iW (K:=K) rfl) (pv 1) (aI fj (au bW rfl T.abs Kj<|aa (pv 0) ae) ah) λ_ _=>rfl) (eF mI (pv 0) ah<|aA _)<|aA _)) (λ_ _ _ _=>(pv 0))<|by with_unfolding_all rfl) az)
   (ai<|aR (aq (aS hu) (pv 6) (aP ae)<|aA _) (ai<|ax<|bf<|aa aC<|aa (cu N8 hr<|aa (pv 1)<|aa (pv 2)<|aa aC<|aa (bf<|aa aC<|aa (pv 4) ae)<|aa (pv 5) ae) ae) az)))))
  (af (ar (i:=7) sc.nd rfl (JD rfl)<|cu Z3 hr<|aa (pv 0)<|aa (pv 3) ae)
  (af (aR (aq rp (pv 7) bR<|aA _) (ai<|ax bR) az)
  (ai<|ax<|bf<|aa aC<|aa (cu N8 hr<|aa (pv 1)<|aa (pv 2)<|aa aC<|aa (bf<|aa aC<|aa (pv 7) ae)<|aa (pv 7) ae) ae)))),?_⟩
 refine⟨_,rfl,.inr<|.inl ⟨p,_,1,.ref qa,rfl,rfl,SqT.of hp,rfl,.ref qa,_,rfl,.inl ⟨_,SqL.of hq,rfl⟩,_,rfl,(by lia),(by lia),?_⟩⟩;refine eh (lo:=0) (n:=zs.length) (Iv p dl dS bg cs bs H) ⟨Ji,Ji,Ji,Ji,rfl,λk hk=>(by rw[NC]at hk;cases hk),Same.refl _⟩ ?_ ?_
 ·rintro i σ G hi ⟨x4,x5,x6,x7,rfl,j4,kG⟩;obtain⟨y,hy⟩:∃y,zs[i]? =B' y:=⟨_,Jm hi⟩;obtain⟨c,hc,tc,rfl,Wn⟩:=hcs.get hy;have hcm:=Jx hc;have hck:=hok c hcm;have T6:=cY hck;have Xu:cs.take (i+1)=cs.take i++[c]:=by rw[KQ,hc];rfl
  refine⟨_,rfl,.inr<|.inl ⟨p,_,1,.ref qa,rfl,rfl,SqT.of<|kG _ _ hp,rfl,_,rfl,.inl ⟨qa,_,_,.ref tc,rfl,rfl,SqL.of<|kG _ _ hq,(by rw[Vz];exact aZ hy),?_⟩⟩⟩;have stay:∀G' a4 a5 a6 a7,Same H G'->(∃z∈c,absI z > (bs.length:Int)\/wH bs z=Je)->Iv p dl dS bg cs bs H (i+1) [B'<|.ref p,B'<|.ref dl,B'<|.ref dS,B'<|.ref bg,a4,a5,a6,a7] G':=λG' a4 a5 a6 a7 k hz=>⟨_,_,_,_,rfl,λe he=>by
   rw[Xu]at he;obtain he|he:=JI.mp he
   ·exact j4 e he
   ·rw[Jp.mp he];exact hz,k⟩
  have b0:=kG _ _ hb;refine⟨_,rfl,tc,rfl,⟨_,SqT.of<|kG _ _ Wn⟩,λD1 hD1=>?_⟩;refine cE [B'<|.ref bg] (isI λz=>decide (absI z > ((bs.map V.bl).length:Int))) (λx=>x) rfl (kG _ _ Wn) hD1 (by rw[Jc];lia) ?_ ?_ ?_
  ·intro x hx H' R k r;obtain⟨z,_,rfl⟩:=cD hx;exact⟨_,rfl,z,rfl,_,rfl,.ref bg,_,rfl,.inl ⟨_,SqL.of<|k _ _ b0,rfl⟩,_,_,rfl,rfl,_,rfl,r⟩
  ·intro x hx _ H' R k r;exact⟨_,rfl,r⟩
  rw[bZ c (λz=>decide (absI z > ((bs.map V.bl).length:Int))) _ λi=>rfl];have Zb:∀z,z∈c.filter (λz=>decide (absI z > ((bs.map V.bl).length:Int)))↔z∈c/\absI z > (bs.length:Int):=λz=>by
   rw[KR,sS,Og]
  generalize c.filter (λz=>decide (absI z > ((bs.map V.bl).length:Int)))=as at Zb;have k3:=ag hD1<|.lst<|as.map V.int;have r3:upd G D1 (.lst<|as.map V.int) D1=B' (.lst<|as.map V.int):=ad;dsimp only;generalize upd G D1 (.lst<|as.map V.int)=G3 at k3 r3 ⊢;refine⟨_,rfl,JQ _,λe1 he1=>?_⟩;have k4:=ag he1<|.lst [];have r4:upd G3 e1 (.lst []) e1=B' (.lst []):=ad;replace r3:=k4 _ _ r3;have k34:=k3.trans k4;dsimp only;generalize upd G3 e1 (.lst [])=G4 at k34 r3 r4 ⊢;clear k3 k4;refine .inr ⟨.list<|as.map .int,.list [],bI r3<|eO _,bI r4 aJ,eQ _,by decide+kernel,_,rfl,?_⟩;have ee:KC (.list<|as.map .int) (.list [])=decide (as=[]):=kP as [];rw[ee];have kG4:=kG.trans k34;by_cases has:as=[]
  rotate_left
  ·rw[Jj has];obtain⟨z,hz⟩:=O5 _ has;refine aQ ⟨_,rfl,JQ _,λe2 he2=>?_⟩;have k5:=ag he2<|.lst [];have r5:upd G4 e2 (.lst []) e2=B' (.lst []):=ad;replace r3:=k5 _ _ r3;dsimp only;generalize upd G4 e2 (.lst [])=G5 at k5 r3 r5 ⊢;refine .inr ⟨.list<|as.map .int,.list [],bI r3<|eO _,bI r5 aJ,eQ _,by decide+kernel,_,rfl,?_⟩;rw[ee,Jj has];exact aQ<|stay _ _ _ _ _ (kG4.trans k5) ⟨z,((Zb z).mp hz).1,.inl ((Zb z).mp hz).2⟩
  rw[Jz has];have hle:∀z∈c,absI z<=(bs.length:Int):=λz hz=>by
   have:=(not_congr<|Zb z).mp (by rw[has];exact Qh);have:=not_and.mp this hz;lia
  have b4:=kG4 _ _ hb;refine aW ⟨_,rfl,tc,rfl,⟨_,SqT.of<|kG4 _ _ Wn⟩,λD2 YJ=>?_⟩;refine cE [B'<|.ref bg] (isI λz=>bs.getD (absI z - 1).toNat Jg == decide (z > 0)) (λx=>x) rfl (kG4 _ _ Wn) YJ (by rw[Jc];lia) ?_ ?_ ?_
  ·intro x hx H' R k r;obtain⟨z,hz,rfl⟩:=cD hx;refine⟨_,rfl,_,rfl,z,rfl,_,_,rfl,rfl,.inl ⟨bg,_,_,.bl<|bs.getD (absI z - 1).toNat Jg,rfl,rfl,SqL.of<|k _ _ b4,zR (hck.2 z hz).1<|hle z hz,_,rfl,_,_,rfl,rfl,.inl ⟨rfl,_,rfl,?_⟩⟩⟩;rw[dec_bl];exact r
  ·intro x hx _ H' R k r;exact⟨_,rfl,r⟩
  rw[bZ c (λz=>bs.getD (absI z - 1).toNat Jg == decide (z > 0)) _ λi=>rfl];have ZX:∀z,z∈c.filter (λz=>bs.getD (absI z - 1).toNat Jg == decide (z > 0))↔z∈c/\(bs.getD (absI z - 1).toNat Jg == decide (z > 0))=true:=λz=>KR;generalize c.filter (λz=>bs.getD (absI z - 1).toNat Jg == decide (z > 0))=gs at ZX;have k5:=ag YJ<|.lst<|gs.map V.int;have r5:upd G4 D2 (.lst<|gs.map V.int) D2=B' (.lst<|gs.map V.int):=ad;dsimp only;generalize upd G4 D2 (.lst<|gs.map V.int)=G5 at k5 r5 ⊢;refine⟨_,rfl,JQ _,λe2 he2=>?_⟩;have k6:=ag he2<|.lst [];have r6:upd G5 e2 (.lst []) e2=B' (.lst []):=ad;replace r5:=k6 _ _ r5;have kG6:=kG4.trans<|k5.trans k6;dsimp only;generalize upd G5 e2 (.lst [])=G6 at kG6 r5 r6 ⊢;clear k5 k6;refine .inr ⟨.list<|gs.map .int,.list [],bI r5<|eO _,bI r6 aJ,eQ _,by decide+kernel,_,rfl,?_⟩;have ee2:KC (.list<|gs.map .int) (.list [])=decide (gs=[]):=kP gs [];rw[ee2];by_cases hgs:gs=[]
  rotate_left
  ·rw[Jj hgs];obtain⟨z,hz⟩:=O5 _ hgs;have hz3:=(ZX z).mp hz;refine aQ<|stay _ _ _ _ _ kG6 ⟨z,hz3.1,.inr ?_⟩;unfold wH;rw[Jz<|hle z hz3.1,hz3.2];rfl
  rw[Jz hgs];refine aW ⟨_,rfl,_,rfl,_,rfl,(by show 2<=sizeLine;decide),λtp ntp=>?_⟩;have k7:=ag ntp<|.tup [.str<|I0 "given",.int (0+(i:Int))];have s7:upd G6 tp (.tup [.str<|I0 "given",.int (0+(i:Int))]) tp=B' (.tup [.str aT,.int (i:Int)]):=by rw[ad,Vz];rfl
  dsimp only;generalize upd G6 tp (.tup [.str<|I0 "given",.int (0+(i:Int))])=G7 at k7 s7 ⊢;have k07:=kG6.trans k7;refine⟨_,rfl,t,cs,dl,dS,ll,sl,L,S,Jg,.ref tp,.ref tc,.tuple [.str aT,.int (i:Int)],c,rfl,h.same k07,bo s7<|am (bS _)<|am (bP _) aJ,.inl ⟨_,rfl⟩,⟨tc,rfl,k07 _ _ Wn⟩,zT hc,hn _,λH' m hx=>⟨(by show 2<=sizeLine;decide),λrt nrt=>?_⟩⟩;have k8:=ag nrt<|.tup [.str<|I0 "spoiler",.int ((S Jg).length:Int)];refine q1 Jg c _ rt _ (((Mov.of k07).trans m).trans<|Mov.of k8) (hx.same k8) hck (λz hz=>⟨hle z hz,?_⟩) ad;cases g:(bs.getD (absI z - 1).toNat Jg == decide (z > 0))with
  |false=>rfl
  |true=>exact absurd ((ZX z).mpr ⟨hz,g⟩) (by rw[hgs];exact Qh)
 ·rintro σ G ⟨x4,x5,x6,x7,rfl,j4,kG⟩;rw[<-hzl,JY<|Jh _]at j4;refine⟨_,rfl,_,rfl,p,qa,bg,t,zs,cs,bs,rfl,kG _ _ hp,ht,kG _ _ hq,hcs.mono kG,h9,hok,kG _ _ hb,hbl,λc l G1 k1 hl hck T6 htr hht=>?_,λk G1 k1 hk hfl=>?_⟩
  ·refine⟨_,rfl,rfl,_,rfl,aQ ?_⟩;refine⟨_,rfl,_,rfl,_,rfl,(by show 2<=sizeLine;decide),λtp ntp=>?_⟩;have k7:=ag ntp<|.tup [.str<|I0 "hits",.ref l];have s7:upd G1 tp (.tup [.str<|I0 "hits",.ref l]) tp=B' (.tup [.str br,.ref l]):=ad;have hl7:=k7 _ _ hl;dsimp only;generalize upd G1 tp (.tup [.str<|I0 "hits",.ref l])=G7 at k7 s7 hl7 ⊢;have k07:=kG.trans<|k1.trans k7;refine⟨_,rfl,t,cs,dl,dS,ll,sl,L,S,Je,.ref tp,.ref l,.tuple [.str br,gc c],c,rfl,h.same k07,bo s7<|am (bS _)<|am (CL.rd ⟨l,rfl,hl7⟩) aJ,.inr<|.inl ⟨c,T6,rfl⟩,⟨l,rfl,hl7⟩,zU hck hht,hn _,λH' m hx=>⟨(by show 2<=sizeLine;decide),λrt nrt=>?_⟩⟩;have k8:=ag nrt<|.tup [.str<|I0 "wisher",.int ((S Je).length:Int)];refine q1 Je c _ rt _ (((Mov.of k07).trans m).trans<|Mov.of k8) (hx.same k8) hck (λz hz=>?_) ad;have:=htr z hz;unfold wH at this;rw[J_,Og]at this;exact this
  ·refine⟨_,rfl,rfl,_,rfl,aW<|q2 _ (kG.trans k1) ?_⟩;obtain⟨z,hz,hz2⟩:=j4 k hk;have:=(hok k hk).2 z hz;obtain g|g:=hz2
   ·lia
   ·rw[hfl z hz]at g;cases g
end
def uT(h1:1<=absI a)(ha:ki bs hw a)(hb:ki bs hw (-a)):False:=by
 have e:absI (-a)=absI a:=by
  obtain⟨_,e⟩|⟨_,e⟩:=bE a<;>obtain⟨_,e'⟩|⟨_,e'⟩:=bE (-a)<;>lia
 have g1:=ha.2;have g2:=hb.2;rw[e]at g2;rw[<-g2]at g1;have hz:a≠0:=λz=>by
  rw[z]at h1;obtain⟨_,e⟩|⟨_,e⟩:=bE (0:Int)<;>lia
 obtain q|q:=UU hz
 ·rw[Jj (show¬a > 0 by lia),Jz (show -a > 0 by lia)]at g1;generalize bs.getD (absI a - 1).toNat Jg=x at g1;cases x<;>exact absurd g1 (by decide)
 ·rw[Jz (show a > 0 by lia),Jj (show¬ -a > 0 by lia)]at g1;generalize bs.getD (absI a - 1).toNat Jg=x at g1;cases x<;>exact absurd g1 (by decide)
def jr(h1:1<=absI z)(h:ki (bs++[b]) hw z)(hz:absI z<=(bs.length:Int)):ki bs hw z:=by
 exists hz;have h2:=h.2;have e:(bs++[b]).getD (absI z - 1).toNat Jg=bs.getD (absI z - 1).toNat false:=by
  rw[Jr,Jr,Kl<|by lia]
 rw[e]at h2;exact h2
def pH(h:ki (bs++[b]) hw z):absI z<=(bs.length:Int)+1:=by
 have:=h.1;rw[JC,Kk]at this;lia
def jt(h:ki (bs++[b]) hw z)(hz:absI z=(bs.length:Int)+1):(b == decide (z > 0))=hw:=by
 have h2:=h.2;have e:(bs++[b]).getD (absI z - 1).toNat Jg=b:=by
  rw[Jr,show(absI z - 1).toNat=bs.length by lia,Ku<|Jh _,M1];rfl
 rw[e]at h2;exact h2
def qW(h:z∈dg t hw c):z∈c/\absI z<=gM t hw c:=by
 have:=KR.mp h;exact⟨this.1,KM this.2⟩
def zX(hk:aV t.length c)(h:∀z∈c,ki (bs++[b]) hw z)(aaI:(fA t bs.length == hw)=Je):∀z∈dg t hw c,ki bs hw z:=λz hz=>by
 obtain⟨hc,hl⟩:=qW hz;have hz1:=(hk.2 z hc).1;refine jr hz1 (h z hc) ?_;obtain e|e:=(io ((c.filter λl=>!(fA t (absI l - 1).toNat == hw)).map absI) 0).2
 ·have:gM t hw c=0:=e;lia
 ·obtain⟨y,hy,ey⟩:=Ke.mp e;have hy':=KR.mp hy;have ely:gM t hw c=absI y:=ey.symm;have hyl:=pH<|h y hy'.1;have:absI y≠(bs.length:Int)+1:=λq=>by
   have:=hy'.2;rw[show(absI y - 1).toNat=bs.length by lia,aaI]at this;cases this
  lia
def qX(h:∀z∈c,ki bs hw z):∀z∈dg t hw c,ki bs hw z:=λz hz=>h z (qW hz).1
def zY{t:Str}{cs sets:IW (IW Int)}{hw:JJ}{f s:IW Int}{i j:Nat}{z:Int}(hi:sets[i]? =B' f) (hj:sets[j]? =B' s) (h:d6 t hw f s z=Je):aO t cs hw sets (.tuple [.str aY,.int (i:Int),.int (j:Int),.int z])=B' (dF f s z):=by
 have f0:bM aT 2 (.tuple [.str aY,.int (i:Int),.int (j:Int),.int z])=false:=rfl;have f1:bM br 2 (.tuple [.str aY,.int (i:Int),.int (j:Int),.int z])=false:=rfl;have f2:bM aY 4 (.tuple [.str aY,.int (i:Int),.int (j:Int),.int z])=true:=by
  show(decide (4=4)&&decide (aY=aY))=Je
  simp
 have hni:i < sets.length:=(Jk.mp hi).1;have hnj:j < sets.length:=(Jk.mp hj).1;have pl:∀n,n < sets.length->bj sets.length (.int (n:Int))=B' n:=λn hn=>by
  show(if 0<=(n:Int)/\(n:Int) < (sets.length:Int)then B' (n:Int).toNat else Ji)=B' n
  rw[JL ⟨by lia,by lia⟩];simp
 unfold aO;rw[f0,f1,f2,Kp,Kp,JK JR,JK JR,JL rfl];show dG t hw sets (.int (i:Int)) (.int (j:Int)) (.int z)=_
 unfold dG;rw[pl i hni,pl j hnj];show(if d6 t hw (sets.getD i []) (sets.getD j []) z=Je then B' (dF (sets.getD i []) (sets.getD j []) z)else Ji)=_
 rw[Jr,Jr,hi,hj];show(if d6 t hw f s z=Je then B' (dF f s z)else Ji)=_
 rw[JL h]
def zZ(hf:aV t.length f)(hs:aV t.length s)(h1:∀z∈f,ki (bs++[b1]) hw z)(h2:∀z∈s,ki (bs++[b2]) hw z)(hv:v=(bs.length:Int)+1)(NJ:bs.length < t.length)(aaI:(fA t bs.length == hw)=Jg)(hvf:v∈f)(hvs:-v∈s):
  d6 t hw f s v=Je/\eW f s v=Jg/\∀z,(z∈f\/z∈s)/\absI z≠v->ki bs hw z:=by
 have aaQ:∀z,(z∈f\/z∈s)->absI z≠v->ki bs hw z:=λz hz Xw=>by
  obtain hz|hz:=hz
  ·have:=pH<|h1 z hz;exact jr (hf.2 z hz).1 (h1 z hz) (by lia)
  ·have:=pH<|h2 z hz;exact jr (hs.2 z hz).1 (h2 z hz) (by lia)
 have hb:eW f s v=false:=by
  cases g:eW f s v with
  |false=>rfl
  |true=>
   unfold eW at g;obtain⟨l,hl,YD⟩:=MY.mp g;have VH:=KR.mp hl;have Xw:absI l≠v:=by
    have:=VH.2;simpa using this
   have hms:-l∈s:=Kd.mp YD;have e:absI (-l)=absI l:=by
    obtain⟨_,e⟩|⟨_,e⟩:=bE l<;>obtain⟨_,e'⟩|⟨_,e'⟩:=bE (-l)<;>lia
   exact(uT (hf.2 l VH.1).1 (aaQ l (.inl VH.1) Xw)<|aaQ (-l) (.inr hms)<|by rw[e];exact Xw).elim
 refine⟨?_,hb,λz hz=>aaQ z hz.1 hz.2⟩;unfold d6;have m:v∈dw t (!hw):=mem_vars.mpr ⟨by lia,by lia,by
  rw[show(v - 1).toNat=bs.length by lia];generalize fA t bs.length=x at aaI;cases x<;>cases hw<;>first|rfl|exact absurd aaI<|by decide⟩
 rw[hb,Kd.mpr m,Kd.mpr hvf,Kd.mpr hvs];rfl
abbrev wy:Lh:=top 60
def B8{K:IZ}(h1:H a=B' (.tup xs))(h2:H b=B' (.tup ys))(hz:xs.length+ys.length<=sizeLine)(q:∀c H',Same H H'->H' c=B' (.tup<|xs++ys)->Q (.ref c) H'):CA K (.ref a) (.ref b) H Q:=
 ⟨a,b,xs,ys,rfl,rfl,SqT.of h1,SqT.of h2,hz,λe=>q _ _ (Same.refl _) (by rw[e];exact h2),λ_ e=>q _ _ (Same.refl _) (by rw[e,KL];exact h1),λ_ _ p hp=>q _ _ (ag hp _) ad⟩
section
variable {dl:I_}
def LedAt.upd'(h:LedAt t cs dl dS ll sl H L S)(ha:H a=B' (.lst ys))(hn:∀x,a≠ll x/\a≠sl x):LedAt t cs dl dS ll sl (upd H a o) L S:=by
 refine⟨?_,?_,h.l1,h.s1,h.ls,λb=>?_,λb=>?_,h.good,h.run⟩
 ·rw[ao (λz=>by have:=h.hl;rw[z,ha]at this;cases this)];exact h.hl
 ·rw[ao (λz=>by have:=h.hs;rw[z,ha]at this;cases this)];exact h.hs
 ·obtain⟨vs,e,r⟩:=h.l b;exact⟨vs,by rw[ao λz=>(hn b).1 z.symm];exact e,cm ha (h.good b) r⟩
 ·obtain⟨vs,e,r⟩:=h.s b;exact⟨vs,by rw[ao λz=>(hn b).2 z.symm];exact e,r.upd ha⟩
theorem LedAt.cls(h:LedAt t cs dl dS ll sl H L S)(m:Mov ll sl H H'):∀{ks:IW (IW Int)} {zs:IW V},CLs H ks zs->CLs H' ks zs
 |_,_,.nil=>.nil
 |_,_,.cons ⟨a,e,ha⟩ r=>.cons ⟨a,e,m _ _ (h.tupNe ha) ha⟩<|LedAt.cls h m r
end
def ju{S:JJ->IW (IW Int)}(h:∀b,∃more,S' b=S b++more)(b:JJ):∃more,dW S' hw c b=S b++more:=by
 obtain⟨m,e⟩:=h b;by_cases hb:b=hw
 ·subst hb;exact⟨m++[c],by rw[c_,e,J1]⟩
 ·exact⟨m,by rw[fC _ _ hb,e]⟩
def gJ(S:JJ->IW (IW Int))(hw:JJ)(c:IW Int)(b:JJ):(dW S hw c b).length<=(S b).length+1:=by
 by_cases hb:b=hw
 ·subst hb;rw[c_,JC];exact Jh _
 ·rw[fC _ _ hb];exact OR _
def mh(S:JJ->IW (IW Int))(hw:JJ)(c:IW Int):(dW S hw c hw)[(S hw).length]? =B' c:=by
 rw[c_,Ku<|Jh _,M1];rfl
def B9(h:∀z∈ns,1<=absI z/\ki bs hw z):HC ns:=λa ha b hb e=>by
 obtain z|z:=lL e
 ·exact z
 ·subst z;exact(uT (h a ha).1 (h a ha).2 (h _ hb).2).elim
def jM(h:aV n c):aV n (dg t hw c):=qA h
inductive Hd (f:Nat)(vs:IW V)(H:Hp)(Q:VK):Prop
 |mk (p qa bg dl dS:I_)(ll sl:JJ->I_)(t:Str)(zs:IW V)(cs:IW (IW Int))(bs:IW JJ)(L:JJ->IW Jw)(S:JJ->IW (IW Int))(h0:vs=[.ref p,.ref dl,.ref dS,.ref bg])(hp:H p=B' (.tup [.str t,.ref qa]))(ht:t.length<=9)(hq:H qa=B' (.lst zs))(hqn:∀x,qa≠ll x/\qa≠sl x)(hcs:CLs H cs zs)(h9:cs.length<=17)(hok:∀c∈cs,aV t.length c)(hb:H bg=B' (.lst<|bs.map V.bl))(hbn:∀x,bg≠ll x/\bg≠sl x)(hbl:bs.length+f=t.length)(h:LedAt t cs dl dS ll sl H L S)(hn:∀b,(S b).length+4*2 ^ f<=900)
   (q:∀(hw:JJ) (n:Nat) (c:IW Int) (tp:I_) (H':Hp) (L':JJ->IW Jw) (S':JJ->IW (IW Int)),Mov ll sl H H'->LedAt t cs dl dS ll sl H' L' S'->(∀b,∃more,S' b=S b++more)->(∀b,(S' b).length+2<=(S b).length+4*2 ^ f)->(S' hw)[n]? =B' c->aV t.length c->(∀z∈c,ki bs hw z)->H' tp=B' (.tup [.str<|aK hw,.int (n:Int)])->Q (.ref tp) H'):Hd f vs H Q
def z_(f:Nat):Sp:=λvs H Q _=>Hd f vs H Q
def Aa:Nat->Sp
 |0=>λ_ _ _ _=>False
 |f+1=>z_ f
inductive He (p dl dS bg fa vl:I_)(ll sl:JJ->I_)(t:Str)(cs:IW (IW Int))(bs:IW JJ)(v:Int)(PL:JJ)(H:Hp)(S0:JJ->IW (IW Int))(m:Nat)(j:Nat)(σ:St)(G:Hp):Prop
 |mk (x7 x8 x9:Jd V)(ns:IW Nat)(L:JJ->IW Jw)(S:JJ->IW (IW Int))(i0:σ=[B' (.ref p),B' (.ref dl),B' (.ref dS),B' (.ref bg),B' .non,B' (.int v),B' (.ref fa),x7,x8,x9,Ji,Ji])(i1:G fa=B' (.lst (ns.map λn:Nat=>V.int (n:Int))))(i2:ns.length=j)(i3:1<=j->x8=B' (.str<|aK PL))(i4:∀k n,ns[k]? =B' n->∃c,(S PL)[n]? =B' c/\aV t.length c/\∀z∈c,ki (bs++[decide (k=1)]) PL z) (i5:LedAt t cs dl dS ll sl G L S) (i6:∀b,∃more,S b=S0 b++more) (i7:∀b,(S b).length+2*j<=(S0 b).length+j*m) (i8:Mov ll sl H G) (i9:G vl=B' (.lst [.bl Jg,.bl Je])):He p dl dS bg fa vl ll sl t cs bs v PL H S0 m j σ G
inductive Ab (p dl dS bg fa mi:I_)(v:Int)(PL:JJ)(c0 c1:IW Int)(x7:Jd V)(G0:Hp)(j:Nat)(σ:St)(G:Hp):Prop
 |mk (x9:Jd V)(i0:σ=[B'<|.ref p,B'<|.ref dl,B'<|.ref dS,B'<|.ref bg,B' .non,B'<|.int v,B'<|.ref fa,x7,B'<|.str<|aK PL,x9,B'<|.ref mi,Ji])(i1:1<=j->v∈c0\/ -v∈c0)(i2:2<=j->v∈c1\/ -v∈c1)(i3:G=G0):Ab p dl dS bg fa mi v PL c0 c1 x7 G0 j σ G
def B_{S S':JJ->IW (IW Int)}{hw:JJ}{n:Nat}{c:IW Int}(h:∀b,∃more,S' b=S b++more)(e:(S hw)[n]? =B' c):(S' hw)[n]? =B' c:=by
 obtain⟨m,q⟩:=h hw;rw[q,Kl (Jk.mp e).1];exact e
structure Ca (mg:Str->Jd IX):Prop where
 len:mg "len"=Ji
 abs:mg "abs"=Ji
section
variable {K:IZ}
def Dq:aH ["_law_sentence_here","_law_lines","_law_sets","_law_begun","_law_seen_here","_law_variable","_law_found","_law_value","_law_hand","_law_place","_law_mine","_law_rest_here"] ["_law_sentence_here","_law_lines","_law_sets","_law_begun"] (ap wy):=fb
def sT{fu:Nat}(F:Fun K "_law_led" "_law_led" wy f fd)(T:Ca mg)(P':Fe P w K mg base 3 "_law_seen" B7)(OG:Fe P w K mg base 3 "_law_drop" uR)(Pz:Fe P w K mg base 1 "_law_own" qT)(N8:Fe P w K mg base 1 "_law_put" nY)(Py:Fe P w K mg base 1 "_law_set" l6)
  (VJ:Fe P w K mg base (fu+4) "_law_led" (Aa fu)):FnOk P w K mg base dh (fu+5) f fd ["_law_sentence_here","_law_lines","_law_sets","_law_begun"] (z_ fu):=by
 have sc:=Dq;refine F.okA Dq λMG A outer s H vs Q E hr h=>?_;obtain⟨p,qa,bg,dl,dS,ll,sl,t,zs,cs,bs,L,S,rfl,hp,ht,hq,hqn,hcs,h9,hok,hb,hbn,hbl,h,hn,q⟩:=h;have hu:=hr.units;have UX:(A.deeper<|J' "_law_led" (ap wy) s.heap.objs.size f MG).units+1 < MZ:=by lia
 have ale:1<=2 ^ fu:=UO;refine⟨_,(af (ar (i:=4) sc.nd rfl (JD rfl)<|cu P' hr<|aa (pv 0)<|aa (pv 1)<|aa (pv 2)<|aa (pv 3) ae)
  (af (aR (aq iN (pv 4) bR<|aA _) (ai<|ax<|bf<|aa (aG ay (pv 4) ah λ_ _=>rfl)<|aa (cu OG hr<|aa (aG ay (pv 0) ah λ_ _=>rfl)<|aa (pv 1)<|aa (pv 2)<|aa (aG ay (pv 4) ah λ_ _=>rfl)<|aa (aG ay (pv 4) ah λ_ _=>rfl) ae) ae) az)
  (af (ar (i:=5) sc.nd rfl (O_ rfl)<|aI cJ (au bh rfl T.len Kt<|aa (pv 3) ae) ah)
  (af (ar (i:=6) sc.nd rfl (JD rfl)<|aP ae)
  (af (cZ KU rfl (cg<|aP<|aa fi<|aa fi ae) (aB (i:=7) sc.nd rfl<|JD rfl)
   (af (iD (cu VJ hr<|aa (pv 0)<|aa (pv 1)<|aa (pv 2)<|aa (aI jz (pv 3)<|aP<|aa (pv 7) ae) ae)<|jy rfl<|bd (aB (i:=8) sc.nd rfl<|JD rfl)<|bd (aB (i:=9) sc.nd rfl<|JD rfl) eE)
   (af (aR (bq<|cu Pz hr<|aa (aG ay (pv 0) ah λ_ _=>rfl)<|aa (pv 8)<|aa (pv 5) ae) (ai<|ax<|bf<|aa (pv 8)<|aa (cu OG hr<|aa (aG ay (pv 0) ah λ_ _=>rfl)<|aa (pv 1)<|aa (pv 2)<|aa (pv 8)<|aa (pv 9) ae) ae) az)
   (ai<|cy<|eN Kg Ki Kq bO (pv 6)<|aa (pv 9) ae))))
  (af (ar (i:=10) sc.nd rfl (JD rfl)<|de UX (pv 2) (pv 8) λ_ _=>rfl)
  (af (cZ KU rfl (cg<|pv 6) (aB (i:=9) sc.nd rfl<|JD rfl)
   (ai<|aR (PW.pt<|dI (aq cK (pv 5) (aG ay (pv 10) (pv 9) λ_ _=>rfl)<|by with_unfolding_all rfl)<|c6<|aq cK (aI fj ah<|pv 5) (aG ay (pv 10) (pv 9) λ_ _=>rfl)<|by with_unfolding_all rfl) (ai<|ax<|bf<|aa (pv 8)<|aa (pv 9) ae) az))
  (af (aR (aq cK (pv 5) (aG ay (pv 10) (aG ay (pv 6) ah λ_ _=>rfl) λ_ _=>rfl)<|by with_unfolding_all rfl) (ai<|ar (i:=6) sc.nd rfl (JD rfl)<|aP<|aa (aG ay (pv 6) ah λ_ _=>rfl)<|aa (aG ay (pv 6) ah λ_ _=>rfl) ae) az)
  (af (fq (i:=11) sc.nd rfl rfl (NY:=["_law_literal","_law_variable"]) (idx:=[Ji,B' 5]) rfl cS (d_<|aI Bf (aG ay (pv 10) (aG ay (pv 6) ah λ_ _=>rfl) λ_ _=>rfl)<|aG ay (pv 10) (aG ay (pv 6) ah λ_ _=>rfl) λ_ _=>rfl) (λ_ _ _ _=>(aB (i:=0) (nD ["_law_literal","_law_variable"]) rfl<|JD rfl)) (λ_ _ _ _=>(cN<|aq (fV hu) (au bW rfl T.abs Kj<|aa (pv 0) ae) (pv 1)<|aA _)) (λ_ _ _ _=>(pv 0))<|by with_unfolding_all rfl)
  (af (ar (i:=9) sc.nd rfl (JD rfl)<|cu N8 hr<|aa (pv 1)<|aa (pv 2)<|aa (pv 8)<|aa (bf<|aa aC<|aa (aG ay (pv 6) ah λ_ _=>rfl)<|aa (aG ay (pv 6) ah λ_ _=>rfl)<|aa (pv 5) ae)<|aa (cu Py hr<|aa (pv 11) ae) ae)
  (ai<|ax<|bf<|aa (pv 8)<|aa (cu OG hr<|aa (aG ay (pv 0) ah λ_ _=>rfl)<|aa (pv 1)<|aa (pv 2)<|aa (pv 8)<|aa (pv 9) ae) ae))))))))))),?_⟩
 refine⟨_,rfl,_,rfl,_,rfl,_,rfl,p,qa,bg,dl,dS,ll,sl,t,zs,cs,bs,L,S,rfl,hp,ht,hq,hcs,h9,hok,hb,by lia,h,λb=>(by have:=hn b;lia),λhw c d tp H1 m1 h1 hk hli htp=>?_,λH1 k1 NJ=>?_⟩
 ·have hp1:=m1 _ _ (h.tupNe hp) hp;refine⟨_,rfl,rfl,_,rfl,aW ?_⟩;refine⟨_,rfl,.inr<|.inl ⟨tp,_,0,.str<|aK hw,rfl,rfl,SqT.of htp,rfl,_,rfl,.inr<|.inl ⟨p,_,0,.str t,rfl,rfl,SqT.of hp1,rfl,_,rfl,_,rfl,_,rfl,.inr<|.inl ⟨tp,_,0,.str<|aK hw,rfl,rfl,SqT.of htp,rfl,_,rfl,.inr<|.inl ⟨tp,_,1,.int ((S hw).length:Int),rfl,rfl,SqT.of htp,rfl,?_⟩⟩⟩⟩⟩;refine⟨t,cs,dl,dS,ll,sl,dW L hw d,dW S hw c,hw,(S hw).length,c,rfl,h1,ht,mh S hw c,hk,(by have:=gJ S hw c hw;have:=hn hw;lia),λH2 d2 m2 h2=>⟨(by show 2<=sizeLine;decide),λrt nrt=>?_⟩⟩;have k3:=ag nrt<|.tup [.str<|aK hw,.int ((dW S hw c hw).length:Int)];refine q hw _ (dg t hw c) rt _ _ _ ((m1.trans m2).trans<|Mov.of k3) (h2.same k3) (ju<|ju λb=>⟨[],(KL _).symm⟩) (λb=>?_) (mh _ hw _) (jM hk) (qX hli) ad;have a1:=gJ (dW S hw c) hw (dg t hw c) b;have a2:=gJ S hw c b;lia
 obtain⟨gu,rfl⟩:∃gu,fu=gu+1:=⟨fu - 1,by lia⟩;refine⟨_,rfl,rfl,_,rfl,Hy rfl ?_⟩;exists _,rfl,.ref bg,_,rfl,.inl ⟨_,SqL.of<|k1 _ _ hb,rfl⟩,_,_,rfl,rfl;rw[sS];obtain⟨v,hv⟩:∃v:Int,(bs.length:Int)+1=v:=⟨_,rfl⟩;rw[hv];refine⟨JQ _,λfa nfa=>?_⟩;have ahc:H fa=none:=k1.free nfa;have k2:=ag nfa<|.lst [];have s2:upd H1 fa (.lst []) fa=B' (.lst []):=ad;generalize upd H1 fa (.lst [])=H2 at k2 s2 ⊢;refine⟨(by show 2<=sizeLine;decide),λvl nvl=>?_⟩;have nvf:vl≠fa:=λz=>by rw[z,s2]at nvl;cases nvl
 have k3:=ag nvl<|.lst [.bl Jg,.bl Je];have s3:upd H2 vl (.lst [.bl Jg,.bl Je]) vl=B' (.lst [.bl Jg,.bl Je]):=ad;replace s2:=k3 _ _ s2;have k03:=k1.trans<|k2.trans k3;have nf:=(h.same k1).newNe nfa;have nv:=(h.same<|k1.trans k2).newNe nvl;generalize upd H2 vl (.lst [.bl Jg,.bl Je])=H3 at k03 s2 s3 ⊢;clear k1 k2 k3;have h3:=h.same k03;obtain⟨PL,aev⟩:∃b:JJ,(!fA t bs.length)=b:=⟨_,rfl⟩;have p2:2 ^ (gu+1)=2*2 ^ gu:=by rw[YY];lia
 have aiS:1<=2 ^ gu:=UO;have av:absI v=v:=xp (by lia);exists vl,rfl,⟨_,SqL.of s3⟩;refine gP (K:=K) (a:=vl) (xs:=[.bl Jg,.bl Je]) (He p dl dS bg fa vl ll sl t cs bs v PL H S (4*2 ^ gu)) ?_ ?_ ?_ ?_
 ·exact⟨Ji,Ji,Ji,[],L,S,rfl,s2,rfl,(λz=>by lia),(λk n e=>by cases e),h3,(λb=>⟨[],(KL _).symm⟩),(λb=>by lia),Mov.of k03,s3⟩
 ·rintro i σ G _ ⟨_,_,_,_,_,_,_,_,_,_,_,_,_,_,_,m⟩;exact SqL.of m
 ·rintro i x σ G hx ⟨x7,x8,x9,ns,L1,S1,rfl,i1,i2,i3,i4,i5,i6,i7,i8,i9⟩;obtain⟨Yn,rfl⟩:i < 2/\x=.bl (decide (i=1)):=by
   have hi:=(Jk.mp hx).1;have hi':i < 2:=hi;exists hi';obtain rfl|rfl:=(by lia:i=0\/i=1)
   ·exact(JN hx).symm
   ·exact(JN hx).symm
  generalize hbb:decide (i=1)=bb at hx;have hp4:=i8 _ _ (h.tupNe hp) hp;have hq4:=i8 _ _ hqn hq;have hb4:=i8 _ _ hbn hb;have ahm:=h.cls i8 hcs;refine⟨_,rfl,_,rfl,_,rfl,_,rfl,_,rfl,(by show 1<=sizeLine;decide),λnl nnl=>?_⟩;have k4:=ag nnl<|.lst [.bl bb];have s4:upd G nl (.lst [.bl bb]) nl=B' (.lst [.bl bb]):=ad;dsimp only;generalize upd G nl (.lst [.bl bb])=G1 at k4 s4 ⊢;refine⟨bg,nl,_,_,rfl,rfl,k4 _ _ hb4,s4,(by rw[Jc];exact K_<|aE (by show bs.length+1<=1000;lia)),λb2 nb2=>?_⟩;have k5:=ag nb2<|.lst<|bs.map V.bl++[.bl bb];have s5:upd G1 b2 (.lst<|bs.map V.bl++[.bl bb]) b2=B' (.lst<|(bs++[bb]).map V.bl):=by rw[ad,Ko];rfl
  dsimp only;have nb:=(i5.same k4).newNe nb2;have k45:=k4.trans k5;generalize upd G1 b2 (.lst<|bs.map V.bl++[.bl bb])=G2 at k45 s5 ⊢;clear k4 k5;have jm:i*(4*2 ^ gu)<=4*2 ^ gu:=by
   obtain z|z:=(by lia:i=0\/i=1)<;>rw[z]<;>lia
  refine⟨p,qa,b2,dl,dS,ll,sl,t,zs,cs,bs++[bb],L1,S1,rfl,k45 _ _ hp4,ht,k45 _ _ hq4,hqn,ahm.mono k45,h9,hok,s5,nb,(by rw[JC,Kk];lia),i5.same k45,(λb=>by have:=hn b;have:=i7 b;lia),λhw n c tp G3 L2 S2 m3 h4 ZV L_ hc hk hli htp=>?_⟩;exists tp,_,rfl,SqT.of htp,rfl,_,_,rfl,_,_,rfl,rfl;have m03:=i8.trans<|(Mov.of k45).trans m3;have hp5:=m03 _ _ (h.tupNe hp) hp;have acu:∀b,∃more,S2 b=S b++more:=λb=>by
   obtain⟨a,ea⟩:=ZV b;obtain⟨c,ec⟩:=i6 b;exact⟨c++a,by rw[ea,ec,J1]⟩
  refine⟨_,rfl,.inr<|.inl ⟨p,_,0,.str t,rfl,rfl,SqT.of hp5,rfl,_,rfl,_,rfl,t,hw,v,rfl,(by lia),(by lia),(by lia),_,rfl,?_⟩⟩;rw[av,show(v - 1).toNat=bs.length by lia];cases g:fA t bs.length == hw with
  |true=>
   refine aW ⟨_,rfl,_,rfl,.inr<|.inl ⟨p,_,0,.str t,rfl,rfl,SqT.of hp5,rfl,_,rfl,_,rfl,_,rfl,_,rfl,t,cs,dl,dS,ll,sl,L2,S2,hw,n,c,rfl,h4,ht,hc,hk,(by have:=L_ hw;have:=hn hw;have:=i7 hw;lia),λH5 d5 m5 h5=>⟨(by show 2<=sizeLine;decide),λrt nrt=>?_⟩⟩⟩;have k6:=ag nrt<|.tup [.str<|aK hw,.int ((S2 hw).length:Int)];refine q hw _ (dg t hw c) rt _ _ _ ((m03.trans m5).trans<|Mov.of k6) (h5.same k6) (ju acu) (λb=>?_) (mh _ hw _) (jM hk) (zX hk hli g) ad;have a1:=gJ S2 hw (dg t hw c) b;have a2:=L_ b;have a3:=i7 b;obtain z|z:=(by lia:i=0\/i=1)<;>rw[z]at a3<;>lia
  |false=>
   obtain rfl:hw=PL:=by
    rw[<-aev];generalize fA t bs.length=y at g;cases y<;>cases hw<;>first|rfl|exact absurd g (by decide)
   have f5:=m3 _ _ nf<|k45 _ _ i1;refine aQ ⟨_,rfl,.inl ⟨rfl,_,SqL.of f5⟩,_,rfl,fa,_,_,rfl,rfl,f5,(by rw[Jc];exact aE<|by lia),?_⟩;refine⟨_,_,_,ns++[n],L2,S2,rfl,(by rw[ad,Ko];rfl),(by rw[JC,i2];rfl),λ_=>rfl,λk n' e=>?_,h4.upd' f5 nf,acu,λb=>?_,λb o nn e=>?_,?_⟩
   ·obtain hkl|hkl:=Lx k ns.length
    ·rw[Kl hkl]at e;obtain⟨c',q1,q2,q3⟩:=i4 k n' e;exact⟨c',B_ ZV q1,q2,q3⟩
    ·rw[Ku hkl]at e;have hk0:k - ns.length=0:=by
      obtain z|z:=UP (k - ns.length)
      ·exact z
      ·rw[Lv (by show 1<=k - ns.length;exact z)]at e;cases e
     rw[hk0]at e;cases e;have:k=i:=by lia
     rw[this,hbb];exact⟨c,hc,hk,hli⟩
   ·have a2:=L_ b;have a3:=i7 b;have e:(i+1)*(4*2 ^ gu)=i*(4*2 ^ gu)+4*2 ^ gu:=Nat.succ_mul _ _;rw[e];lia
   ·rw[ao λz=>by rw[z,ahc]at e;cases e];exact m03 _ _ nn e
   ·rw[ao nvf];exact m3 _ _ nv<|k45 _ _ i9
 ·rintro σ G ⟨x7,x8,x9,ns,L1,S1,rfl,i1,i2,i3,i4,i5,i6,i7,i8,i9⟩;obtain rfl:=i3 (by decide);obtain⟨n0,n1,rfl⟩:∃a b,ns=[a,b]:=by
   match ns,i2 with
   |[a,b],_=>exact⟨a,b,rfl⟩
  obtain⟨c0,hc0,hk0,hl0⟩:=i4 0 n0 rfl;obtain⟨c1,hc1,hk1,SI⟩:=i4 1 n1 rfl;replace hl0:∀z∈c0,ki (bs++[Jg]) PL z:=hl0;replace SI:∀z∈c1,ki (bs++[Je]) PL z:=SI;replace i1:G fa=B' (.lst [.int (n0:Int),.int (n1:Int)]):=i1;clear i2 i3 i4 i9 s2 s3;have aaI:(fA t bs.length == PL)=false:=by
   rw[<-aev];cases fA t bs.length<;>rfl
  have hp4:=i8 _ _ (h.tupNe hp) hp;obtain⟨ss,hss,T6⟩:=i5.s PL;have WJ:=T6.length;have at_:∀(n:Nat) (c:IW Int),(S1 PL)[n]? =B' c->∃l:I_,ss[n]? =B' (V.ref l)/\sD G l c:=λn c e=>by
   have ZW:=(Jk.mp e).1;obtain⟨y,hy⟩:∃y,ss[n]? =B' y:=⟨_,Jm (by lia)⟩;obtain⟨c',hc',l,rfl,hl⟩:=T6.get hy;rw[e]at hc';cases hc';exact⟨l,hy,hl⟩
  have no:∀c b,(∀z∈c,ki (bs++[b]) PL z)->aV t.length c->v∉c->-v∉c->∀z∈c,ki bs PL z:=λc b hl hk h1 h2 z hz=>by
   refine jr (hk.2 z hz).1 (hl z hz) ?_;have:=pH<|hl z hz;have ne:absI z≠v:=λe=>by
    obtain⟨_,q⟩|⟨_,q⟩:=bE z
    ·exact h1 (by rw[show v=z by lia];exact hz)
    ·exact h2 (by rw[show -v=z by lia];exact hz)
   lia
  have ab1:∀b,(S1 b).length+4<=(S b).length+2*(4*2 ^ gu):=λb=>i7 b;exists _,rfl,_,rfl,dS,_,rfl,fD i5.hs PL;exists _,rfl,fa,rfl,⟨_,SqL.of i1⟩;refine gP (K:=K) (a:=fa) (xs:=[.int (n0:Int),.int (n1:Int)]) (Ab p dl dS bg fa (sl PL) v PL c0 c1 x7 G) ?_ ?_ ?_ ?_
  ·exact⟨_,rfl,λz=>absurd z (by decide),λz=>absurd z (by decide),rfl⟩
  ·rintro i σ G' _ ⟨_,_,_,_,rfl⟩;exact SqL.of i1
  ·rintro i x σ G' hx ⟨x9',rfl,f1,f2,rfl⟩;obtain⟨n,c,b,hxe,hc,hk,hl,ac1⟩:∃(n:Nat) (c:IW Int) (b:JJ),x=.int (n:Int)/\(S1 PL)[n]? =B' c/\aV t.length c/\(∀z∈c,ki (bs++[b]) PL z)/\((i=0/\c=c0)\/(i=1/\c=c1)):=by
    have hi:=(Jk.mp hx).1;have hi':i < 2:=hi;obtain rfl|rfl:=(by lia:i=0\/i=1)
    ·exact⟨n0,c0,Jg,(JN hx).symm,hc0,hk0,hl0,.inl ⟨rfl,rfl⟩⟩
    ·exact⟨n1,c1,Je,(JN hx).symm,hc1,hk1,SI,.inr ⟨rfl,rfl⟩⟩
   subst hxe;obtain⟨l,hy,VH⟩:=at_ n c hc;have stay:(v∈c\/ -v∈c)->∀a9,Ab p dl dS bg fa (sl PL) v PL c0 c1 x7 G' (i+1) [B'<|.ref p,B'<|.ref dl,B'<|.ref dS,B'<|.ref bg,B' .non,B'<|.int v,B'<|.ref fa,x7,B'<|.str<|aK PL,a9,B'<|.ref<|sl PL,Ji] G':=λhm a9=>by
    obtain⟨rfl,rfl⟩|⟨rfl,rfl⟩:=ac1
    ·exact⟨_,rfl,λ_=>hm,λz=>absurd z (by decide),rfl⟩
    ·exact⟨_,rfl,λ_=>f1 (by decide),λ_=>hm,rfl⟩
   refine⟨_,rfl,_,rfl,_,rfl,.inl ⟨sl PL,_,_,.ref l,rfl,rfl,SqL.of hss,aZ hy,l,_,rfl,.inr<|SqT.of VH,rfl,cF _,_,rfl,?_⟩⟩;show(if(!re (.int v) (c.map V.int))=Je then _ else _)
   rw[c8];cases g1:c.contains v with
   |true=>exact aQ<|aQ<|stay (.inl<|Kd.mp g1) _
   |false=>
   refine aW ⟨_,rfl,_,_,rfl,rfl,_,rfl,_,rfl,.inl ⟨sl PL,_,_,.ref l,rfl,rfl,SqL.of hss,aZ hy,l,_,rfl,.inr<|SqT.of VH,rfl,cF _,_,rfl,?_⟩⟩;show(if(!re (.int (0 - v)) (c.map V.int))=Je then _ else _)
   rw[c8,Int.zero_sub];cases g2:c.contains (-v)with
   |true=>exact aQ<|stay (.inr<|Kd.mp g2) _
   |false=>
   refine aW ⟨_,rfl,_,rfl,(by show 2<=sizeLine;decide),λrt nrt=>?_⟩;have k6:=ag nrt<|.tup [.str<|aK PL,.int (n:Int)];refine q PL n c rt _ L1 S1 (i8.trans<|Mov.of k6) (i5.same k6) i6 (λb=>?_) hc hk (no c b hl hk (λz=>?_) λz=>?_) ad
   ·have:=ab1 b;lia
   ·rw[Kd.mpr z]at g1;cases g1
   ·rw[Kd.mpr z]at g2;cases g2
  ·rintro σ G' ⟨x9',rfl,f1,f2,rfl⟩;replace f1:=f1 (show 1<=2 by decide);replace f2:=f2 (show 2<=2 by decide);have nv0:absI (-v)=(bs.length:Int)+1:=by
    obtain⟨_,e⟩|⟨_,e⟩:=bE (-v)<;>lia
   have dv:decide (v > 0)=true:=Jz (by lia);have dn:decide (-v > 0)=false:=Jj (by lia);dsimp only;refine gF λN hN=>?_;have fin:∀(fa':I_) (G2:Hp) (i j:Nat) (fs gs:IW Int) (b1 b2:JJ),Same G' G2->G2 fa'=B' (.lst [.int (i:Int),.int (j:Int)])->(S1 PL)[i]? =B' fs->(S1 PL)[j]? =B' gs->aV t.length fs->aV t.length gs->(∀z∈fs,ki (bs++[b1]) PL z)->(∀z∈gs,ki (bs++[b2]) PL z)->v∈fs->-v∈gs->N [B'<|.ref p,B'<|.ref dl,B'<|.ref dS,B'<|.ref bg,B' .non,B'<|.int v,B'<|.ref fa',x7,B'<|.str<|aK PL,x9',B'<|.ref<|sl PL,Ji] G2:=λfa' G2 i j fs gs b1 b2 kg hfa hi hj okf okg lf lg mf mg_=>hN _ _ (by
    obtain⟨li,hyi,hli⟩:=at_ i fs hi;obtain⟨lj,hyj,hlj⟩:=at_ j gs hj;have aex:=kg _ _ hss;have cfl:=cY okf;have cgl:=cY okg;obtain⟨jb,bw,Me⟩:=zZ okf okg lf lg hv.symm NJ aaI mf mg_;refine⟨_,rfl,_,rfl,.inl ⟨fa',_,0,.int (i:Int),rfl,rfl,SqL.of hfa,aZ (j:=0) rfl,.inl ⟨sl PL,_,_,.ref li,rfl,rfl,SqL.of aex,aZ hyi,_,rfl,_,rfl,.inl ⟨fa',_,1,.int (j:Int),rfl,rfl,SqL.of hfa,aZ (j:=1) rfl,.inl ⟨sl PL,_,_,.ref lj,rfl,rfl,SqL.of aex,aZ hyj,?_⟩⟩⟩⟩⟩;refine B8 (kg _ _ hli) (kg _ _ hlj) (by rw[Jc,Jc];exact K_<|aE<|by lia) λcA G3 k3 hcA=>?_;rw[<-Ko]at hcA;refine⟨cA,rfl,⟨_,SqT.of hcA⟩,λD hD=>?_⟩;refine cE [B'<|.int v] (isI λl=>!decide (absI l=v)) (λx=>x) rfl hcA hD (by rw[Jc,JC];lia) ?_ ?_ ?_
    ·intro x hx H' R k r;obtain⟨l,_,rfl⟩:=cD hx;refine⟨_,rfl,l,rfl,_,rfl,.inl ⟨rfl,_,rfl,?_⟩⟩;have e:decide (V.int (absI l)=V.int v)=decide (absI l=v):=by
      by_cases h:absI l=v
      ·rw[h];simp
      ·rw[Jj h,Jj λe=>h<|V.int.inj e]
     have r':R (!decide (absI l=v)) H':=r;rw[<-e]at r';exact r'
    ·intro x hx _ H' R k r;exact⟨_,rfl,r⟩
    rw[bZ (fs++gs) (λl=>!decide (absI l=v)) _ λi=>rfl];have hrm:∀z,z∈(fs++gs).filter (λl=>!decide (absI l=v))↔(z∈fs\/z∈gs)/\absI z≠v:=λz=>by
     rw[KR,JI];simp
    have hrl:=LS (λl=>!decide (absI l=v))<|fs++gs;rw[JC]at hrl;generalize (fs++gs).filter (λl=>!decide (absI l=v))=rs at hrm hrl;have k4:=ag hD<|.lst<|rs.map V.int;have s4:upd G3 D (.lst<|rs.map V.int) D=B' (.lst<|rs.map V.int):=ad;dsimp only;generalize upd G3 D (.lst<|rs.map V.int)=G4 at k4 s4 ⊢;have k34:=k3.trans k4;have aeX:=k34 _ _ hfa;refine⟨_,rfl,_,rfl,_,rfl,_,rfl,.inl ⟨fa',_,0,.int (i:Int),rfl,rfl,SqL.of aeX,aZ (j:=0) rfl,_,rfl,.inl ⟨fa',_,1,.int (j:Int),rfl,rfl,SqL.of aeX,aZ (j:=1) rfl,_,rfl,(by show 4<=sizeLine;decide),λtp ntp=>?_⟩⟩⟩;have k5:=ag ntp<|.tup [.str<|I0 "join",.int (i:Int),.int (j:Int),.int v];have s5:upd G4 tp (.tup [.str<|I0 "join",.int (i:Int),.int (j:Int),.int v]) tp=B' (.tup [.str aY,.int (i:Int),.int (j:Int),.int v]):=ad;replace s4:=k5 _ _ s4;dsimp only;generalize upd G4 tp (.tup [.str<|I0 "join",.int (i:Int),.int (j:Int),.int v])=G5 at k5 s4 s5 ⊢;have pos:∀z,(z∈fs\/z∈gs)->1<=absI z:=λz hz=>by
     obtain hz|hz:=hz
     ·exact(okf.2 z hz).1
     ·exact(okg.2 z hz).1
    refine⟨_,rfl,D,rs,rfl,s4,by lia,B9 λz hz=>⟨pos z ((hrm z).mp hz).1,Me z<|(hrm z).mp hz⟩,λl r G6 k6 hl hup hm=>?_⟩;have hj':Joins fs gs v r:=⟨hup,λz=>by rw[hm,hrm]⟩;obtain rfl:=hj'.eq okf.1 okg.1 bw;have k26:=k34.trans<|k5.trans k6;have k06:=kg.trans k26;have h6:=i5.same k06;have hjo:aV t.length (dF fs gs v):=qB okf okg bw;refine⟨t,cs,dl,dS,ll,sl,L1,S1,PL,.ref tp,.ref l,.tuple [.str aY,.int (i:Int),.int (j:Int),.int v],dF fs gs v,rfl,h6,bo (k6 _ _ s5)<|am (bS _)<|am (bP _)<|am (bP _)<|am (bP _) aJ,.inr<|.inr<|.inr ⟨_,_,_,rfl⟩,⟨l,rfl,hl⟩,zY hi hj jb,(by have:=ab1 PL;have:=hn PL;lia),λG7 m7 h7=>?_⟩;have hp7:=m7 _ _ (h6.tupNe<|k06 _ _ hp4)<|k06 _ _ hp4;refine⟨_,rfl,_,rfl,.inr<|.inl ⟨p,_,0,.str t,rfl,rfl,SqT.of hp7,rfl,_,rfl,_,rfl,_,rfl,_,rfl,t,cs,dl,dS,ll,sl,_,_,PL,(S1 PL).length,dF fs gs v,rfl,h7,ht,mh S1 PL _,hjo,(by have:=gJ S1 PL (dF fs gs v) PL;have:=ab1 PL;have:=hn PL;lia),λG8 d8 m8 h8=>⟨(by show 2<=sizeLine;decide),λrt nrt=>?_⟩⟩⟩;have k9:=ag nrt<|.tup [.str<|aK PL,.int ((dW S1 PL (dF fs gs v) PL).length:Int)];refine q PL _ (dg t PL<|dF fs gs v) rt _ _ _ ((i8.trans<|(Mov.of k06).trans<|m7.trans m8).trans<|Mov.of k9) (h8.same k9) (ju<|ju i6) (λb=>?_) (mh _ PL _) (jM hjo) (qX λz hz=>Me z<|(hrm z).mp<|(hm z).mp hz) ad;have a1:=gJ (dW S1 PL<|dF fs gs v) PL (dg t PL<|dF fs gs v) b;have a2:=gJ S1 PL (dF fs gs v) b;have a3:=ab1 b;lia)
   obtain⟨l0,hy0,ag0⟩:=at_ n0 c0 hc0;refine⟨_,rfl,_,rfl,_,rfl,.inl ⟨fa,_,0,.int (n0:Int),rfl,rfl,SqL.of i1,aZ (j:=0) rfl,.inl ⟨sl PL,_,_,.ref l0,rfl,rfl,SqL.of hss,aZ hy0,l0,_,rfl,.inr<|SqT.of ag0,rfl,cF _,_,rfl,?_⟩⟩⟩;show(if(!re (.int v) (c0.map V.int))=Je then _ else _)
   rw[c8];cases PL with
   |false=>
    have m0:v∈c0:=by
     obtain z|z:=f1
     ·exact z
     ·have:=jt (hl0 _ z) nv0;rw[dn]at this;cases this
    have m1:-v∈c1:=by
     obtain z|z:=f2
     ·have:=jt (SI _ z) (by lia);rw[dv]at this;cases this
     ·exact z
    rw[Kd.mpr m0];exact aQ<|fin fa G' n0 n1 c0 c1 Jg Je (Same.refl _) i1 hc0 hc1 hk0 hk1 hl0 SI m0 m1
   |true=>
    have m1:v∈c1:=by
     obtain z|z:=f2
     ·exact z
     ·have:=jt (SI _ z) nv0;rw[dn]at this;cases this
    have n0':v∉c0:=λz=>by
     have:=jt (hl0 _ z) (by lia);rw[dv]at this;cases this
    have m0:-v∈c0:=by
     obtain z|z:=f1
     ·exact absurd z n0'
     ·exact z
    have g0:c0.contains v=false:=by
     cases g:c0.contains v with
     |false=>rfl
     |true=>exact absurd (Kd.mp g) n0'
    rw[g0];refine aW ⟨_,rfl,.inl ⟨fa,_,1,.int (n1:Int),rfl,rfl,SqL.of i1,aZ (j:=1) rfl,_,rfl,.inl ⟨fa,_,0,.int (n0:Int),rfl,rfl,SqL.of i1,aZ (j:=0) rfl,(by show 2<=sizeLine;decide),λf2 nf2=>?_⟩⟩⟩;have k2:=ag nf2<|.lst [.int (n1:Int),.int (n0:Int)];exact fin f2 _ n1 n0 c1 c0 Je Jg k2 ad hc1 hc0 hk1 hk0 SI hl0 m1 m0
end
def uU(n:Nat):Sp:=λvs H Q E=>∃f,f<=n/\z_ f vs H Q E
theorem qY:∀{a b:IW Jw} {sets out:IW (IW Int)},bu t cs hw sets (a++b)=(out,Je)->∃mid,bu t cs hw sets a=(mid,Je)/\bu t cs hw mid b=(out,Je)
 |[],b,sets,out,h=>⟨sets,rfl,h⟩
 |d::a,b,sets,out,h=>by
  have h':(match aO t cs hw sets d with|none=>(sets,Jg)|some c=>bu t cs hw (sets++[c])<|a++b)=(out,Je):=h;cases q:aO t cs hw sets d with
  |none=>rw[q]at h';cases h'
  |some c=>
   rw[q]at h';obtain⟨mid,h1,h2⟩:=qY h';refine⟨mid,?_,h2⟩;show(match aO t cs hw sets d with|none=>(sets,Jg)|some c=>bu t cs hw (sets++[c]) a)=_
   rw[q];exact h1
theorem uV:∀{a:IW Jw} {sets out:IW (IW Int)},bu t cs hw sets a=(out,Je)->∃more,out=sets++more
 |[],sets,out,h=>⟨[],by cases h;exact(KL _).symm⟩
 |d::a,sets,out,h=>by
  have h':(match aO t cs hw sets d with|none=>(sets,Jg)|some c=>bu t cs hw (sets++[c]) a)=(out,Je):=h;cases q:aO t cs hw sets d with
  |none=>rw[q]at h';cases h'
  |some c=>
   rw[q]at h';obtain⟨more,e⟩:=uV h';exact⟨c::more,by rw[e,J1];rfl⟩
def jN(h:bu t cs hw [] ds=(out,Je))(k:Nat)(hk:k<=ds.length):bu t cs hw [] (ds.take k)=(out.take k,Je):=by
 have e:=h;rw[<-Ml k ds]at e;obtain⟨mid,h1,h2⟩:=qY e;obtain⟨more,e2⟩:=uV h2;have hl:=cb h1;have VH:mid.length=k:=by
  have:mid.length=(ds.take k).length:=by simpa using hl
  rw[this,J9];lia
 rw[h1,e2,<-VH,Xn]
theorem jO:∀{ds:IW Jw} {xs:IW V} (k:Nat),dJ H ds xs->dJ H (ds.take k) (xs.take k)
 |_,_,0,_=>aJ
 |[],xs,k+1,h=>by
  have:=cB h;rw[ME.mp this];exact aJ
 |d::ds,xs,k+1,h=>by
  obtain⟨y,ys,rfl,r,t⟩:=aN h;exact am r<|jO k t
theorem nZ:∀{cs:IW (IW Int)} {xs:IW V} (k:Nat),CLs H cs xs->CLs H (cs.take k) (xs.take k)
 |_,_,0,_=>.nil
 |_,_,_+1,.nil=>.nil
 |_,_,k+1,.cons r t=>.cons r<|nZ k t
def sU{σ:St}(q:∀d l H',Same H H'->H d=Ji->(∀b,H (l b)=Ji)->l Jg≠l Je->H' d=B' (.dK<|fZ l)->(∀b,H' (l b)=B' (.lst []))->Q (.ref d) H'):
  pY [(tC<|.str<|I0 "spoiler",rB ke),(tC<|.str<|I0 "wisher",rB ke)] σ H Q:=by
 refine λdl ndl=>⟨JQ _,λa0 n0=>⟨JQ _,λa1 n1=>?_⟩⟩;have d1:a0≠dl:=λz=>by rw[z,ad]at n0;cases n0
 have d2:a1≠a0:=λz=>by rw[z,ad]at n1;cases n1
 have d3:a1≠dl:=λz=>by rw[z,ao λz=>d1 z.symm,ad]at n1;cases n1
 have f0:H a0=none:=by rw[ao d1]at n0;exact n0
 have f1:H a1=none:=by rw[ao d2,ao d3]at n1;exact n1
 exists by rw[ao λz=>d3 z.symm,ao λz=>d1 z.symm];exact ad,[(Oz<|I0 "spoiler",.ref a0),(Oz<|I0 "wisher",.ref a1)],rfl,(by show 2<=15;decide);have em:fT [] [((Oz (I0 "spoiler"):bz),V.ref a0),(Oz<|I0 "wisher",V.ref a1)]=fZ λb=>if b=Je then a1 else a0:=by
  unfold fT;rw[NL,k_ _ rfl,NL,k_ _ rfl];rfl
 rw[em];refine q dl (λb=>if b=Je then a1 else a0) _ (λb o e=>?_) ndl (λb=>?_) (λz=>d2 z.symm) ad λb=>?_
 ·rw[ao<|aj e ndl,ao<|aj e f1,ao<|aj e f0,ao<|aj e ndl];exact e
 ·cases b
  ·exact f0
  ·exact f1
 ·cases b
  ·show upd _ dl _ a0=_
   rw[ao d1,ao λz=>d2 z.symm];exact ad
  ·show upd _ dl _ a1=_
   rw[ao d3];exact ad
def qZ(q:∀d l H',Same H H'->H d=Ji->(∀b,H (l b)=Ji)->l Jg≠l Je->H' d=B' (.dK<|fZ l)->(∀b,H' (l b)=B' (.lst []))->B D (σ.set i<|B'<|.ref d) H'):
  wM (rh (pY [(tC<|.str<|I0 "spoiler",rB ke),(tC<|.str<|I0 "wisher",rB ke)])<|eU i) B D σ H:=by
 unfold wM rh;exact sU q
def wz{dl:I_}(h1:H dl=B' (.dK<|fZ ll))(h2:H dS=B' (.dK<|fZ sl))(n1:ll Jg≠ll Je)(n2:sl Jg≠sl Je)(n3:∀a b,ll a≠sl b)(e1:∀b,H (ll b)=B' (.lst []))(e2:∀b,H (sl b)=B' (.lst [])):LedAt t cs dl dS ll sl H (λ_=>[]) (λ_=>[]):=
 ⟨h1,h2,n1,n2,n3,λb=>⟨[],e1 b,aJ⟩,λb=>⟨[],e2 b,.nil⟩,(λ_ _ h=>nomatch h),λ_=>rfl⟩
section
variable {K:IZ}
theorem n4(F:Fun K "_law_led" "_law_led" wy f fd)(T:Ca mg)(P':Fe P w K mg base 3 "_law_seen" B7)(OG:Fe P w K mg base 3 "_law_drop" uR)(Pz:Fe P w K mg base 1 "_law_own" qT)(N8:Fe P w K mg base 1 "_law_put" nY)(Py:Fe P w K mg base 1 "_law_set" l6)(b:Binds K fd ["_law_sentence_here","_law_lines","_law_sets","_law_begun"] [])(kp:Mn K (.ref f)=Je)(at_:mg "_law_led"=B' (.ref f)):
  ∀fu,FnOk P w K mg base dh (fu+4) f fd ["_law_sentence_here","_law_lines","_law_sets","_law_begun"]<|Aa fu
 |0=>⟨λ_ _ _ _ h=>h.elim,λ_ _ _ _ _ _ _ _ _ _ _ _ _ h=>h.elim⟩
 |fu+1=>sT F T P' OG Pz N8 Py ⟨_,_,_,n4 F T P' OG Pz N8 Py b kp at_ fu,b,kp,at_⟩
def E6(F:Fun K "_law_led" "_law_led" wy f fd)(T:Ca mg)(P':Fe P w K mg base 3 "_law_seen" B7)(OG:Fe P w K mg base 3 "_law_drop" uR)(Pz:Fe P w K mg base 1 "_law_own" qT)(N8:Fe P w K mg base 1 "_law_put" nY)(Py:Fe P w K mg base 1 "_law_set" l6)(b:Binds K fd ["_law_sentence_here","_law_lines","_law_sets","_law_begun"] [])(kp:Mn K (.ref f)=Je)(at_:mg "_law_led"=B' (.ref f)):
  FnOk P w K mg base dh 10 f fd ["_law_sentence_here","_law_lines","_law_sets","_law_begun"] (uU 5):=by
 have R:=n4 F T P' OG Pz N8 Py b kp at_;refine⟨λvs H Q E h=>?_,λA outer s H args us vs Q E hr e0 hb hv h=>?_⟩
 ·obtain⟨fu,_,p,qa,bg,dl,dS,ll,sl,t,zs,cs,bs,L,S,rfl,_⟩:=h;rfl
 ·obtain⟨fu,hf,h⟩:=h;exact(R<|fu+1).run A outer s H args us vs Q E (hr.mono<|by lia) e0 hb hv h
end
abbrev Cb:Lh:=top 61
def n5{out:IW (IW Int)}{k:Nat}{c:IW Int}(h:out[k]? =B' c):fY (out.take<|k+1)=decide (c=[]):=by
 unfold fY;rw[KQ,h];simp
structure Cc (t:Str)(cs:IW (IW Int))(H:Hp)(rl la sa:I_)(hw:JJ)(ls ss:IW V)(ds:IW Jw)(out:IW (IW Int)):Prop where
 r:H rl=B' (.lst [.str<|aK hw,.ref la,.ref sa])
 l:H la=B' (.lst ls)
 s:H sa=B' (.lst ss)
 rd:dJ H ds ls
 cl:CLs H out ss
 good:∀d∈ds,bQ d
 run:bu t cs hw [] ds=(out,Je)
 fin:fY out=Je
inductive Hf (vs:IW V)(H:Hp)(Q:VK):Prop
 |mk (p qa:I_)(t:Str)(zs:IW V)(cs:IW (IW Int))(h0:vs=[.ref p])(hp:H p=B' (.tup [.str t,.ref qa]))(ht:t.length<=5)(hq:H qa=B' (.lst zs))(hcs:CLs H cs zs)(h9:cs.length<=17)(hok:∀c∈cs,aV t.length c)
   (q:∀rl la sa hw ls ss ds out H',Same H H'->Cc t cs H' rl la sa hw ls ss ds out->ds.length<=128->Q (.ref rl) H'):Hf vs H Q
def Dr:Sp:=λvs H Q _=>Hf vs H Q
section
variable {K:IZ}
def Ds:aH ["_law_sentence_here","_law_lines","_law_sets","_law_hand","_law_place"] ["_law_sentence_here"] (ap Cb):=fb
def E7(F:Fun K "_law_paper" "_law_paper" Cb f fd)(VJ:Fe P w K mg base 10 "_law_led" (uU 5)):FnOk P w K mg base dh 11 f fd ["_law_sentence_here"] Dr:=by
 have sc:=Ds;refine F.okA Ds λMG A outer s H vs Q E hr h=>?_;obtain⟨p,qa,t,zs,cs,rfl,hp,ht,hq,hcs,h9,hok,q⟩:=h;have hu:=hr.units;have UX:(A.deeper<|J' "_law_paper" (ap Cb) s.heap.objs.size f MG).units+1 < MZ:=by lia
 refine oX (ar (i:=1) sc.nd rfl (JD rfl)<|qM aC (aP ae) aC<|aP ae) ?_;refine oX (ar (i:=2) sc.nd rfl (JD rfl)<|qM aC (aP ae) aC<|aP ae) ?_;refine oX (iD (cu VJ hr<|aa (pv 0)<|aa (pv 1)<|aa (pv 2)<|aa (aP ae) ae)<|jy rfl<|bd (aB (i:=3) sc.nd rfl<|JD rfl)<|bd (aB (i:=4) sc.nd rfl<|JD rfl) eE) ?_;exists _,(ai<|ax<|aP<|aa (pv 3)<|aa (gQ iP (de UX (pv 1) (pv 3) λ_ _=>rfl) kl<|eZ<|aI cJ (pv 4) ah)<|aa (gQ iP (de UX (pv 2) (pv 3) λ_ _=>rfl) kl<|eZ<|aI cJ (pv 4) ah) ae);refine qZ λdl ll H1 k1 ndl nll dll hdl hll=>?_;refine qZ λdS sl H2 k2 ndS nsl dsl hdS WJ=>?_;have h0:LedAt t cs dl dS ll sl H2 (λ_=>[]) (λ_=>[]):=wz (k2 _ _ hdl) hdS dll dsl (λa b z=>by have:=hll a;rw[z,nsl b]at this;cases this) (λb=>k2 _ _<|hll b) WJ;have k02:=k1.trans k2;have old:∀{b:I_} {o:HO},H b=B' o->∀x,b≠ll x/\b≠sl x:=λe x=>⟨aj e<|nll x,aj e<|k1.free<|nsl x⟩;refine⟨_,rfl,_,rfl,_,rfl,JQ _,λbg nbg=>?_⟩;have k3:=ag nbg<|.lst [];have s3:upd H2 bg (.lst []) bg=B' (.lst<|([]:IW JJ).map V.bl):=ad;dsimp only;generalize upd H2 bg (.lst [])=H3 at k3 s3 ⊢;have k03:=k02.trans k3;refine⟨t.length,ht,p,qa,bg,dl,dS,ll,sl,t,zs,cs,[],_,_,rfl,k03 _ _ hp,by lia,k03 _ _ hq,old hq,hcs.mono k03,h9,hok,s3,h0.newNe nbg,by simp,h0.same k3,(λb=>?_),λhw n c tp H4 L S m4 h4 _ L_ hc hkc hli htp=>?_⟩
 ·have:2 ^ t.length<=2 ^ 5:=Tz (by decide) ht;show 0+4*2 ^ t.length<=900
  lia
 have k04:Same H H4:=λb o e=>m4 _ _ (old e)<|k03 _ _ e;have hlF:(S hw).length<=128:=by
  have:=L_ hw;have p5:2 ^ t.length<=2 ^ 5:=Tz (by decide) ht;have e0:((λ_=>[]:JJ->IW (IW Int)) hw).length=0:=rfl;rw[e0]at this;lia
 obtain⟨lv,hlv,rlv⟩:=h4.l hw;obtain⟨sv,hsv,rsv⟩:=h4.s hw;have el:=rsv.length;have elL:=h4.len hw;have hnl:=(Jk.mp hc).1;have hc0:c=[]:=by
  cases c with
  |nil=>rfl
  |cons z r=>
   have h1:=(hkc.2 z JG).1;have h2:=(hli z JG).1;rw[Lk]at h2;lia
 subst hc0;exists tp,_,rfl,SqT.of htp,rfl,_,_,rfl,_,_,rfl,rfl;refine⟨_,rfl,_,rfl,_,rfl,dl,_,rfl,fD h4.hl hw,_,rfl,_,_,rfl,rfl,_,rfl,ll hw,_,rfl,SqL.of hlv,λla nla=>?_⟩;have en:(n:Int)+1=((n+1:Nat):Int):=by lia
 rw[en];have k5:=ag nla<|.lst<|dH lv Ji<|B' ((n+1:Nat):Int);have s5:upd H4 la (.lst<|dH lv Ji<|B' ((n+1:Nat):Int)) la=B' (.lst<|lv.take<|n+1):=by rw[ad,rQ]
 generalize upd H4 la (.lst<|dH lv Ji<|B' ((n+1:Nat):Int))=H5 at k5 s5 ⊢;refine⟨_,rfl,_,rfl,dS,_,rfl,fD (k5 _ _ h4.hs) hw,_,rfl,_,_,rfl,rfl,_,rfl,sl hw,_,rfl,SqL.of<|k5 _ _ hsv,λsa nsa=>?_⟩;rw[en];have k6:=ag nsa<|.lst<|dH sv Ji<|B' ((n+1:Nat):Int);have s6:upd H5 sa (.lst<|dH sv Ji<|B' ((n+1:Nat):Int)) sa=B' (.lst<|sv.take<|n+1):=by rw[ad,rQ]
 generalize upd H5 sa (.lst<|dH sv Ji<|B' ((n+1:Nat):Int))=H6 at k6 s6 ⊢;refine⟨(by show 3<=sizeLine;decide),λrl nrl=>?_⟩;have k7:=ag nrl<|.lst [.str<|aK hw,.ref la,.ref sa];have k47:=(k5.trans k6).trans k7;refine q rl la sa hw (lv.take<|n+1) (sv.take<|n+1) ((L hw).take<|n+1) ((S hw).take<|n+1) _ (k04.trans k47) ⟨ad,(k6.trans k7) _ _ s5,k7 _ _ s6,jO _<|bp k47 _ _ rlv,nZ _<|rsv.mono k47,(λd hd=>h4.good hw d<|NT hd),jN (h4.run hw) _ (by lia),by rw[n5 hc];rfl⟩ ?_;rw[J9];lia
end
abbrev E8:Lh:=top 62
structure Hg (mg:Str->Jd IX):Prop where
 len:mg "len"=Ji
 list:mg "list"=Ji
 range:mg "range"=Ji
inductive Hh (K:IZ)(vs:IW V)(H:Hp)(Q:VK):Prop
 |mk (a rl la sa:I_)(ns:IW Int)(t:Str)(cs:IW (IW Int))(hw:JJ)(ls ss:IW V)(ds:IW Jw)(out:IW (IW Int))(h0:vs=[.ref a,.ref rl])(hS:SqL K H a (ns.map V.int))(hP:Cc t cs H rl la sa hw ls ss ds out)(hl:ds.length<=128)
   (q:∀rl' la' sa' ls' ss' U0 out' H',Same H H'->Cc t cs H' rl' la' sa' hw ls' ss' U0 out'->U0.length<=140->Q (.ref rl') H'):Hh K vs H Q
def Dt(K:IZ):Sp:=λvs H Q _=>Hh K vs H Q
def IV(h1:∀Q',(∀b,Q' b H)->T1 σ H Q')(h2:∀Q',(∀b,Q' b H)->T2 σ H Q')(h3:∀Q',(∀b,Q' b H)->T3 σ H Q')(h:∀b,Q b H):Fo T1 (Fo T2 T3) σ H Q:=by
 refine h1 _ λb=>?_;cases b
 ·refine aQ<|h2 _ λb=>?_;cases b
  ·exact aQ<|h3 _ h
  ·exact aW<|h Je
 ·exact aW<|h Je
def Iw(h1:∀Q',(∀b,Q' b H)->T1 σ H Q')(h2:∀Q',(∀b,Q' b H)->T2 σ H Q')(h3:∀Q',(∀b,Q' b H)->T3 σ H Q')(ht:t D σ H)(hu:u D σ H):rg (Fo T1<|Fo T2 T3) t u D σ H:=by
 unfold rg;refine IV h1 h2 h3 λb=>?_;cases b
 ·exact aQ hu
 ·exact aW ht
def mj(h:Q (σ.set i<|B' v) H):eU i v σ H Q:=h
def uW{x:V}{r:IW V}:rc (x::r) (0:Int)=B' x:=aZ (show(x::r)[0]? =B' x from rfl)
def wA(g:bQ d)(h:RD H d v):∃a w r,v=.ref a/\H a=B' (.tup<|.str w::r):=by
 obtain⟨k,rfl⟩|⟨c,hc,rfl⟩|⟨k,rfl⟩|⟨i,j,z,rfl⟩:=g
 ·obtain⟨a,zs,rfl,ha,hz⟩:=aM h;obtain⟨y,ys,rfl,r0,_⟩:=aN hz;obtain rfl:=bi r0;exact⟨a,_,_,rfl,ha⟩
 ·obtain⟨a,zs,rfl,ha,hz⟩:=aM h;obtain⟨y,ys,rfl,r0,_⟩:=aN hz;obtain rfl:=bi r0;exact⟨a,_,_,rfl,ha⟩
 ·obtain⟨a,zs,rfl,ha,hz⟩:=aM h;obtain⟨y,ys,rfl,r0,_⟩:=aN hz;obtain rfl:=bi r0;exact⟨a,_,_,rfl,ha⟩
 ·obtain⟨a,zs,rfl,ha,hz⟩:=aM h;obtain⟨y,ys,rfl,r0,_⟩:=aN hz;obtain rfl:=bi r0;exact⟨a,_,_,rfl,ha⟩
structure PadAt (t:Str)(cs:IW (IW Int))(hw:JJ)(l s:I_)(ls ss:IW V)(ds:IW Jw)(out:IW (IW Int))(G:Hp):Prop where
 hl:G l=B' (.lst ls)
 hs:G s=B' (.lst ss)
 ne:l≠s
 rd:dJ G ds ls
 cl:CLs G out ss
 good:∀d∈ds,bQ d
 run:bu t cs hw [] ds=(out,Je)
def PadAt.put(h:PadAt t cs hw l s ls ss ds out G)(hv:RD G d v)(g:bQ d)(hu:CL G c u)(hc:aO t cs hw out d=B' c):PadAt t cs hw l s (ls++[v]) (ss++[u]) (ds++[d]) (out++[c]) (upd (upd G l<|.lst<|ls++[v]) s<|.lst<|ss++[u]):=by
 have VG:upd G l (.lst<|ls++[v]) s=B' (.lst ss):=by rw[ao λz=>h.ne z.symm];exact h.hs
 have all:∀x∈ds++[d],bQ x:=λx hx=>by
  obtain hx|hx:=JI.mp hx
  ·exact h.good x hx
  ·rw[Jp.mp hx];exact g
 exact⟨by rw[ao h.ne];exact ad,ad,h.ne,cm VG all<|cm h.hl all<|LedAt.put.RDs_app1 h.rd<|am hv aJ,CLs.snoc ((hu.upd h.hl).upd VG)<|(h.cl.upd h.hl).upd VG,all,jq h.run hc⟩
def PadAt.same(h:PadAt t cs hw l s ls ss ds out G)(k:Same G G'):PadAt t cs hw l s ls ss ds out G':=
 ⟨k _ _ h.hl,k _ _ h.hs,h.ne,bp k _ _ h.rd,h.cl.mono k,h.good,h.run⟩
def PadAt.len(h:PadAt t cs hw l s ls ss ds out G):out.length=ds.length/\ls.length=ds.length/\ss.length=ds.length:=by
 have h1:=cb h.run;have h2:=cB h.rd;have h3:=h.cl.length;simp only [Lk,Le]at h1;lia
inductive Hi (K:IZ)(a rl l s:I_)(t:Str)(cs:IW (IW Int))(hw:JJ)(nu:Int)(ds0:IW Jw)(aec:IW (IW Int))(H:Hp)(i:Nat)(σ:St)(G:Hp):Prop
 |mk (x6 x7 x8:Jd V)(ls ss:IW V)(ds:IW Jw)(out:IW (IW Int))(i0:σ=[B'<|.ref a,B'<|.ref rl,B'<|.str<|aK hw,B'<|.ref l,B'<|.ref s,B'<|.int nu,x6,x7,x8,Ji])(i1:PadAt t cs hw l s ls ss ds out G)(i2:∃m,out=aec++m)(i3:ds0.length<=ds.length)(i4:ds.length<=128+i)(i5:Same H G):Hi K a rl l s t cs hw nu ds0 aec H i σ G
def jw(h:fY out=Je):1<=out.length/\out[out.length - 1]? =B' []:=by
 unfold fY at h;cases e:out.getLast? with
 |none=>rw[e]at h;cases h
 |some c=>
  rw[e]at h;have hc:c=[]:=KM h;subst hc;rw[List.getLast?_eq_getElem?]at e;exact⟨by have:=(Jk.mp e).1;lia,e⟩
def Ac(out:IW (IW Int)):fY (out++[[]])=true:=by
 unfold fY;simp
section
variable {K:IZ}
def Du:aH ["_law_script","_law_paper_here","_law_hand","_law_lines","_law_sets","_law_number","_law_k","_law_place","_law_line","_law_last"] ["_law_script","_law_paper_here"] (ap E8):=fb
def E9(F:Fun K "_law_padded" "_law_padded" E8 f fd)(T:Hg mg)(M':Fe P w K mg base 1 "_law_mixed" iy)(Nq:Fe P w K mg base 1 "_law_cell_at" (lW K)):FnOk P w K mg base dh 2 f fd ["_law_script","_law_paper_here"] (Dt K):=by
 have sc:=Du;refine F.okA Du λMG A outer s H vs Q E hr h=>?_;obtain⟨a,rl,la,sa,ns,t,cs,hw,ls,ss,ds,out,rfl,hS,hP,hl,q⟩:=h;have hu:=hr.units;refine⟨_,(af (iD (pv 1)<|oK rfl<|bd (aB (i:=2) sc.nd rfl<|JD rfl)<|bd (aB (i:=3) sc.nd rfl<|JD rfl)<|bd (aB (i:=4) sc.nd rfl<|JD rfl) eE)
  (af (ar (i:=3) sc.nd rfl (JD rfl)<|bN cL rfl T.list KZ<|aa (pv 3) ae)
  (af (ar (i:=4) sc.nd rfl (JD rfl)<|bN cL rfl T.list KZ<|aa (pv 4) ae)
  (af (ar (i:=5) sc.nd rfl (JD rfl)<|cu M' hr<|aa (cu Nq hr<|aa (pv 0)<|aa ah ae)<|aa ah ae)
  (af (aR (aq (aS hu) (aI bC (pv 5) ah) ah<|aA _) (af (cZ KU rfl (dA rfl T.range<|aa (aI bC (aI c7 (pv 5) ah) ah) ae) (aB (i:=6) sc.nd rfl<|JD rfl)
    (af (ar (i:=7) sc.nd rfl (JD rfl)<|aI bC (cu M' hr<|aa (pv 5)<|aa (aI cJ (pv 6) ah) ae)<|au bh rfl T.len Kt<|aa (pv 3) ae)
    (af (ar (i:=8) sc.nd rfl (JD rfl)<|aG ay (pv 3) (pv 7) λ_ _=>rfl)
    (ai (aR (PW.pt<|gL (aq (aS hu) (aG ay (pv 8) ah λ_ _=>rfl) aC<|aA _)<|gL (aq (aS hu) (aG ay (pv 8) ah λ_ _=>rfl) aC<|aA _)<|gO<|aq (aS hu) (aI bC (pv 6) ah) ah<|aA _) (af (cy<|eN Kg Ki Kq bO (pv 3)<|aa (pv 8) ae)
     (ai<|cy<|eN Kg Ki Kq bO (pv 4)<|aa (aG ay (pv 4) (pv 7) λ_ _=>rfl) ae)) az)))))
   (af (ar (i:=9) sc.nd rfl (JD rfl)<|aI fj (au bh rfl T.len Kt<|aa (aG ay (pv 1) ah λ_ _=>rfl) ae) ah)
   (af (cy<|eN Kg Ki Kq bO (pv 3)<|aa (bf<|aa aC<|aa (pv 9) ae) ae)
   (ai<|cy<|eN Kg Ki Kq bO (pv 4)<|aa (bf ae) ae)))) az)
  (ai<|ax<|aP<|aa (pv 2)<|aa (pv 3)<|aa (pv 4) ae)))))),?_⟩
 refine⟨_,rfl,rl,_,rfl,SqL.of hP.r,rfl,_,_,rfl,_,_,rfl,_,_,rfl,rfl,?_⟩;refine⟨_,rfl,la,ls,rfl,.inl<|SqL.of hP.l,λl nl=>?_⟩;have k1:=ag nl<|.lst ls;have s1:upd H l (.lst ls) l=B' (.lst ls):=ad;generalize upd H l (.lst ls)=H1 at k1 s1 ⊢;refine⟨_,rfl,sa,ss,rfl,.inl<|SqL.of<|k1 _ _ hP.s,λs' Rg=>?_⟩;have k2:=ag Rg<|.lst ss;have s2:upd H1 s' (.lst ss) s'=B' (.lst ss):=ad;have nls:l≠s':=aj s1 Rg;have fl:H l=none:=nl;have fs:H s'=none:=k1.free Rg;generalize upd H1 s' (.lst ss)=H2 at k2 s2 ⊢;have k02:=k1.trans k2;have pd:PadAt t cs hw l s' ls ss ds out H2:=⟨k2 _ _ s1,s2,nls,bp k02 _ _ hP.rd,hP.cl.mono k02,hP.good,hP.run⟩;refine⟨_,rfl,a,ns,1,rfl,k02.seq hS,by decide,λc1=>⟨c1,940,rfl,λnu hn0 hn1=>?_⟩⟩;refine⟨_,rfl,_,_,rfl,rfl,(by decide),.inl ⟨rfl,_,rfl,?_⟩⟩;obtain⟨e0,e1⟩:=jw hP.fin;have L_:=pd.len;refine fU (λ_=>?_) λ_=>?_
 ·obtain⟨n,hn,hn4⟩:∃n:Nat,nu / 2 % 4=(n:Int)/\n < 4:=⟨(nu / 2 % 4).toNat,by lia,by lia⟩;refine⟨_,rfl,_,_,rfl,rfl,⟨by decide,by decide⟩,_,_,rfl,rfl,(by decide),?_⟩;rw[hn];refine⟨_,rfl,(by lia),(by lia),eh (lo:=0) (n:=n) (Hi K a rl l s' t cs hw nu ds out H) ⟨Ji,Ji,Ji,ls,ss,ds,out,rfl,pd,⟨[],(KL _).symm⟩,Jh _,by lia,k02⟩ ?_ ?_⟩
  ·rintro i σ G hi ⟨x6,x7,x8,ls,ss,ds2,abZ,rfl,i1,i2,i3,i4,i5⟩;have YD:=i1.len;refine⟨_,rfl,_,rfl,_,_,rfl,rfl,nu,_,rfl,λm hm0 VD=>?_⟩;refine⟨_,rfl,.ref l,_,rfl,.inl ⟨_,SqL.of i1.hl,rfl⟩,_,_,rfl,rfl,(by lia),?_⟩;obtain⟨p,hp,T4⟩:∃p:Nat,m % (ls.length:Int)=(p:Int)/\p < ls.length:=by
    have a1:=KY m (show(ls.length:Int)≠0 by lia);have a2:=KE m (show 0 < (ls.length:Int) by lia);exact⟨(m % (ls.length:Int)).toNat,by lia,by lia⟩
   rw[hp];obtain⟨v,hv⟩:∃v,ls[p]? =B' v:=⟨_,Jm T4⟩;have hd:=getD_some (d:=Nr) (show p < ds2.length by lia);have rv:=eJ i1.rd hv;generalize ds2.getD p .none=d at rv hd;have gd:=i1.good d (Jx hd);obtain⟨av,wv,rv',rfl,hav⟩:=wA gd rv;refine⟨_,rfl,_,rfl,.inl ⟨l,_,_,.ref av,rfl,rfl,SqL.of i1.hl,aZ hv,?_⟩⟩;refine mj ?_;dsimp only;refine Iw (λQ' h=>⟨_,rfl,.inr (.inl ⟨av,_,0,.str wv,rfl,rfl,SqT.of hav,uW,.inl ⟨rfl,_,rfl,h _⟩⟩)⟩) (λQ' h=>⟨_,rfl,.inr (.inl ⟨av,_,0,.str wv,rfl,rfl,SqT.of hav,uW,.inl ⟨rfl,_,rfl,h _⟩⟩)⟩) (λQ' h=>⟨_,rfl,_,_,rfl,rfl,(by decide),.inl ⟨rfl,_,rfl,h _⟩⟩) ?_ ⟨_,_,_,ls,ss,ds2,abZ,rfl,i1,i2,i3,by lia,i5⟩
   ·obtain⟨c,hc,hlc⟩:=wk i1.run hd;obtain⟨u,hu2⟩:∃u,ss[p]? =B' u:=⟨_,Jm (by lia)⟩;obtain⟨c',hc',hcu⟩:=i1.cl.get hu2;rw[hc]at hc';cases hc';have put:=i1.put rv gd hcu hlc;have hs1:upd G l (.lst (ls++[.ref av])) s'=B' (.lst ss):=by rw[ao (λz=>nls z.symm)];exact i1.hs
    refine⟨_,rfl,.inl ⟨rfl,_,SqL.of i1.hl⟩,_,rfl,l,_,_,rfl,rfl,i1.hl,aE (by lia),?_⟩;refine⟨_,rfl,.inl ⟨rfl,_,SqL.of hs1⟩,_,rfl,_,rfl,.inl ⟨s',_,_,u,rfl,rfl,SqL.of hs1,aZ hu2,s',_,_,rfl,rfl,hs1,aE (by lia),?_⟩⟩;obtain⟨mo,em⟩:=i2;refine⟨_,_,_,_,_,_,_,rfl,put,⟨mo++[c],by rw[em,J1]⟩,by rw[JC];lia,by rw[JC,Kk];lia,(i5.upd_new fl _).upd_new fs _⟩
  ·rintro σ G ⟨x6,x7,x8,ls2,ss2,ds2,abZ,rfl,i1,i2,i3,i4,i5⟩;have YD:=i1.len;refine⟨_,rfl,.inl ⟨rl,_,1,.ref la,rfl,rfl,SqL.of<|i5 _ _ hP.r,rfl,.ref la,_,rfl,.inl ⟨_,SqL.of<|i5 _ _ hP.l,rfl⟩,_,_,rfl,rfl,?_⟩⟩;have el:(ls.length:Int) - 1=((ds.length - 1:Nat):Int):=by lia
   rw[el];refine⟨_,rfl,.inl ⟨rfl,_,SqL.of i1.hl⟩,_,rfl,(by show 2<=sizeLine;decide),λnt nnt=>?_⟩;have k4:=ag nnt<|.tup [.str<|I0 "drop",.int ((ds.length - 1:Nat):Int)];have s4:upd G nt (.tup [.str<|I0 "drop",.int ((ds.length - 1:Nat):Int)]) nt=B' (.tup [.str aF,.int ((ds.length - 1:Nat):Int)]):=ad;have j1:=i1.same k4;generalize upd G nt (.tup [.str<|I0 "drop",.int ((ds.length - 1:Nat):Int)])=G1 at k4 s4 j1 ⊢;refine⟨l,_,_,rfl,rfl,j1.hl,aE (by lia),?_⟩;have hs1:upd G1 l (.lst<|ls2++[.ref nt]) s'=B' (.lst ss2):=by rw[ao λz=>nls z.symm];exact j1.hs
   refine⟨_,rfl,.inl ⟨rfl,_,SqL.of hs1⟩,JQ _,λnu2 aga=>?_⟩;have k5:=ag aga<|.tup [];have s5:upd (upd G1 l<|.lst<|ls2++[.ref nt]) nu2 (.tup []) nu2=B' (.tup<|(([]:IW Int)).map V.int):=ad;have WR:=k5 _ _ hs1;have gl:bQ (.tuple [.str aF,.int ((ds.length - 1:Nat):Int)]):=.inr<|.inr<|.inl ⟨_,rfl⟩;have all:∀x∈ds2++[Oj [.str aF,.int ((ds.length - 1:Nat):Int)]],bQ x:=λx hx=>by
    obtain hx|hx:=JI.mp hx
    ·exact i1.good x hx
    ·rw[Jp.mp hx];exact gl
   have hv4:RD G1 (.tuple [.str aF,.int ((ds.length - 1:Nat):Int)]) (.ref nt):=bo s4<|am (bS _)<|am (bP _) aJ;have rd5:=bp k5 _ _<|cm (o:=.lst<|ls2++[.ref nt]) j1.hl all<|LedAt.put.RDs_app1 j1.rd<|am hv4 aJ;have cl5:=CLs.mono k5<|j1.cl.upd (o:=.lst<|ls2++[.ref nt]) j1.hl;have sl5:upd (upd G1 l<|.lst<|ls2++[.ref nt]) nu2 (.tup []) l=B' (.lst<|ls2++[.ref nt]):=k5 _ _ ad;have ks5:Same H (upd (upd G1 l<|.lst<|ls2++[.ref nt]) nu2<|.tup []):=((i5.trans k4).upd_new fl _).trans k5;generalize upd (upd G1 l<|.lst<|ls2++[.ref nt]) nu2 (.tup [])=G5 at s5 WR rd5 cl5 sl5 ks5 ⊢;refine⟨s',_,_,rfl,rfl,WR,aE (by lia),?_⟩;obtain⟨mo,em⟩:=i2;have hl0:abZ[ds.length - 1]? =B' []:=by
    rw[em,Kl (by lia),<-L_.1];exact e1
   have Nv:=jq i1.run<|uS (t:=t) (cs:=cs) (hw:=hw) hl0;rw[wl]at Nv;refine⟨_,rfl,_,rfl,_,rfl,(by show 3<=sizeLine;decide),λr' nr=>?_⟩;have k6:=ag nr<|.lst [.str<|aK hw,.ref l,.ref s'];have f1:upd G5 s' (.lst<|ss2++[.ref nu2]) l=B' (.lst<|ls2++[.ref nt]):=by rw[ao nls];exact sl5
   have f2:upd G5 s' (.lst<|ss2++[.ref nu2]) s'=B' (.lst<|ss2++[.ref nu2]):=ad;have f3:=cm (o:=.lst<|ss2++[.ref nu2]) WR all rd5;have f4:CLs (upd G5 s'<|.lst<|ss2++[.ref nu2]) (abZ++[[]]) (ss2++[.ref nu2]):=CLs.snoc (CL.upd ⟨nu2,rfl,s5⟩ WR)<|cl5.upd WR;exact q r' l s' _ _ _ _ _ ((ks5.upd_new fs _).trans k6) ⟨ad,k6 _ _ f1,k6 _ _ f2,bp k6 _ _ f3,f4.mono k6,all,Nv,Ac _⟩ (by rw[JC,Kk];lia)
 ·refine⟨_,rfl,_,rfl,_,rfl,(by show 3<=sizeLine;decide),λr' nr=>?_⟩;have k3:=ag nr<|.lst [.str<|aK hw,.ref l,.ref s'];have pd3:=pd.same k3;exact q r' l s' ls ss ds out _ (k02.trans k3) ⟨ad,pd3.hl,pd3.hs,pd3.rd,pd3.cl,pd3.good,pd3.run,hP.fin⟩ (by lia)
end
abbrev Ad:Lh:=top 43
structure Hj (mg:Str->Jd IX):Prop where
 enumerate:mg "enumerate"=Ji
 dict:mg "dict"=Ji
def E_{A B:Hp->Prop}(h:A H):Ec σ H λb H4=>if b=Je then A H4 else B H4:=by
 show(if Je=Je then A H else B H)
 exact aW h
section
variable {K:IZ}
inductive Dv (Me:St)(H1:Hp)(D:I_)(es:Nat->Jw)(i:Nat)(σ:St)(ys:IW V)(H2:Hp):Prop
 |mk (v0:Jd V)(h0:σ=v0::Me)(h1:H2 D=B' (.lst ys))(h2:Same H1 H2)(h3:dJ H2 ((Ky i).map es) ys):Dv Me H1 D es i σ ys H2
def n9(Me:St)(es:Nat->Jw)(e0:σ0=Ji::Me)(ha:H1 a=B' (.lst xs))(hD:H1 D=Ji)(L_:xs.length<=900)(hg:∀i,i < xs.length->bQ (es i))
  (he:∀i x,xs[i]? =B' x->∀H' R,Same H1 H'->(∀v' H'',Same H' H''->RD H'' (es i) v'->R v' H'')->te (B' x::Me) H' R)
  (hq:∀ys H',Same H1 H'->H' D=B' (.lst ys)->dJ H' ((Ky xs.length).map es) ys->Q (.ref D) H'):gW (wO K a) D (eU 0) Ec te σ0 H1 Q:=by
 have na:a≠D:=aj ha hD;refine dE (K:=K) (a:=a) (xs:=xs) (Dv Me H1 D es) ⟨Ji,e0,ad,ag hD _,aJ⟩ ?_ ?_ ?_
 ·rintro i σ ys H2 _ ⟨_,_,h1,h2,_⟩;exact⟨h1,SqL.of<|h2 _ _ ha⟩
 ·rintro i x σ ys H2 hx ⟨v0,rfl,h1,h2,h3⟩;have Ue:i < xs.length:=(Jk.mp hx).1;refine eP<|he i x hx _ _ h2 λv' H3 k3 r3=>?_;have hyl:=cB h3;rw[Jc,Mk]at hyl;have d3:=k3 _ _ h1;have all:∀d∈(Ky<|i+1).map es,bQ d:=λd hd=>by
   obtain⟨j,hj,rfl⟩:=Ke.mp hd;exact hg j (by have:=LM.mp hj;lia)
  refine⟨d3,aE (by lia),_,rfl,ad,(h2.trans k3).upd_new hD _,cm d3 all ?_⟩;rw[QD,Ko];exact LedAt.put.RDs_app1 (bp k3 _ _ h3)<|am r3 aJ
 ·rintro σ ys H2 ⟨_,_,h1,h2,h3⟩;exact hq ys H2 h2 h1 h3
inductive Ae (Me:St)(H1:Hp)(D:I_)(ks:IW Int)(i:Nat)(σ:St)(ys:IW V)(H2:Hp):Prop
 |mk (v0 v1:Jd V)(ts:IW I_)(h0:σ=v0::v1::Me)(h1:H2 D=B' (.lst ys))(h2:Same H1 H2)(h3:ys=ts.map V.ref)(h4:ts.length=i)(h5:∀(j:Nat) (t:I_) (k:Int),ts[j]? =B' t->ks[j]? =B' k->H2 t=B' (.tup [.int k,.int (j:Int)])):Ae Me H1 D ks i σ ys H2
end
def jP{α β:Type}(d0:α)(g:α->β)(l:IW α)(h:n=l.length):(Ky n).map (λi=>g<|l.getD i d0)=l.map g:=by
 subst h;refine OB λj=>?_;rw[JW,JW];by_cases hj:j < l.length
 ·rw[O' hj,Jm hj];show B' (g<|l.getD j d0)=B' (g l[j])
  rw[Jr,Jm hj];rfl
 ·rw[Lv (by rw[Mk];lia),Lv<|by lia];rfl
def kj(nd:IW Int):IW (bz×V):=(Ky nd.length).map λi=>((Kw (nd.getD i 0):bz),V.int (i:Int))
def wB(nd:IW Int):(kj nd).map (·.1)=nd.map (Kw:Int->bz):=by
 unfold kj;rw[Lq];exact jP 0 (Kw:Int->bz) nd rfl
def Af(hk:k∈nd):cx (kj nd) (Kw k:bz)=B' (.int ((nd.idxOf k:Nat):Int)):=by
 have gen:∀(l:IW Int) (s:Nat),k∈l->cx ((Ky l.length).map λi=>((Kw (l.getD i 0):bz),V.int ((s+i:Nat):Int))) (Kw k:bz)=B' (.int ((s+l.idxOf k:Nat):Int)):=by
  intro l
  induction l with
  |nil=>exact λ_ h=>nomatch h
  |cons x l ih=>
   intro s hm;rw[J4,List.range_succ_eq_map,Kz,Lq];unfold cx;rw[Mw];by_cases e:x=k
   ·subst e;simp
   ·have e1:decide ((Kw ((x::l).getD 0 0):bz)=Kw k)=false:=Jj λz=>e<|OI z;have hm':k∈l:=(J2.mp hm).resolve_left λz=>e z.symm;have:=ih (s+1) hm';simp only [e1];unfold cx at this;rw[WE,show(x == k)=Jg by simpa using e];have ef:((λi=>((Kw ((x::l).getD i 0):bz),V.int ((s+i:Nat):Int)))∘Nat.succ)=λi=>((Kw (l.getD i 0):bz),V.int ((s+1+i:Nat):Int)):=by
     funext i
     show((Kw (l.getD i 0):bz),V.int ((s+(i+1):Nat):Int))=_
     rw[show s+(i+1)=s+1+i by lia]
    rw[ef];rw[this];show B' (V.int ((s+1+l.idxOf k:Nat):Int))=B' (V.int ((s+(l.idxOf k+1):Nat):Int))
    rw[show s+1+l.idxOf k=s+(l.idxOf k+1) by lia]
 have:=gen nd 0 hk;simp only [Le]at this;exact this
def Fa(ds1:IW Jw)(nd:IW Int):IW Jw:=nd.map λp=>dX (λk=>((nd.idxOf k:Nat):Int))<|ds1.getD p.toNat .none
def gK(out:IW (IW Int))(k:Int):Int:=(iL out).getD k.toNat 0
def HE(ds1:IW Jw)(i:Nat):IW Int:=bH<|ds1.getD i .none
inductive Hk (vs:IW V)(H:Hp)(Q:VK):Prop
 |mk (p q pp la:I_)(t:Str)(hw:JJ)(xs ls:IW V)(cs:IW (IW Int))(ds:IW Jw)(out:IW (IW Int))(h0:vs=[.ref p,.ref pp])(h1:H p=B' (.tup [.str t,.ref q]))(h2:t.length<=30)(h3:H q=B' (.lst xs))(h4:CLs H cs xs)(h5:cs.length<=900)(h6:(∀c∈cs,aV t.length c))(h7:H pp=B' (.tup [.str<|aK hw,.ref la]))(h8:H la=B' (.lst ls))(h9:dJ H ds ls)(h10:ds.length<=200)(h11:(∀d∈ds,bQ d))(h12:bu t cs hw [] ds=(out,Je))(h14:fY out=Je)
   (h13:∀r l ys nd H',Same H H'->H r=Ji->H l=Ji->H' r=B' (.tup [.str<|aK hw,.ref l])->H' l=B' (.lst ys)->dJ H' (Fa (ds.map<|dX<|gK out) nd) ys->Sf nd (cw (HE<|ds.map<|dX<|gK out) (out.idxOf [])<|out.idxOf []+1)->Qo (·<=·) nd->Q (.ref r) H'):Hk vs H Q
def Ag:Sp:=λvs H Q _=>Hk vs H Q
section
variable {K:IZ}
def n_:aH ["sentence","paper","sets","firsts","lines","needed","numbers"] ["sentence","paper"] (ap Ad):=fb
def Fb(F:Fun K "shortened_paper" "shortened_paper" Ad f fd)(T:Hj mg)(M_:Fe P w K mg base 7 "whole_sets" zy)(XM:Fe P w K mg base 1 "first_places" Dg)(abC:Fe P w K mg base 1 "renamed" zM)(Uq:Fe P w K mg base 2 "needed_by" zK)(aaS:Fe P w K mg base 1 "renamed" zN):FnOk P w K mg base dh 8 f fd ["sentence","paper"] Ag:=by
 have sc:=n_;refine F.okA n_ λMG A outer s H vs Q E hr h=>?_;obtain⟨p,q,pp,la,t,hw,xs,ls,cs,ds,out,rfl,hp,ht,hq,hcs,h9,hcok,hpp,hla,hds,h8,Zc,Nv,WU,q'⟩:=h;have hu:=hr.units;have hol:out.length=ds.length:=by
  have:=cb Nv;simpa using this
 have hll:=cB hds;obtain⟨he,aeP⟩:=jw WU;refine⟨_,(af (ar (i:=2) sc.nd rfl (JD rfl)<|cu M_ hr<|aa (pv 0)<|aa (pv 1) ae)
  (af (ar (i:=3) sc.nd rfl (O_ rfl)<|cu XM hr<|aa (pv 2) ae)
  (af (ar (i:=4) sc.nd rfl (O_ rfl)<|bJ (NY:=["line","firsts"]) (idx:=[Ji,B' 3]) rfl cS (cg<|aG ay (pv 1) ah λ_ _=>rfl) (λ_ _ _ _=>(aB (i:=0) (nD ["line","firsts"]) rfl<|JD rfl)) (λ_ _ _ _=>dm) λ_ _ _ _=>(cu abC hr<|aa (pv 0)<|aa (pv 1) ae))
  (af (ar (i:=5) sc.nd rfl (JD rfl)<|cu Uq hr<|aa (pv 4)<|aa (eN Kg P9 R6 (nM hu) (pv 2)<|aa (bf ae) ae) ae)
  (af (ar (i:=6) sc.nd rfl (O_ rfl)<|bN (r_ rfl) rfl T.dict Sz<|aa (bJ (NY:=["number","place"]) (idx:=[Ji,Ji]) rfl cS (kr rfl T.enumerate<|pv 5) (λ_ _ _ _=>(Be (K:=K) (n:=2) rfl rfl<|bd (aB (i:=0) (nD ["number","place"]) rfl<|JD rfl)<|bd (aB (i:=1) (nD ["number","place"]) rfl<|JD rfl) eE)) (λ_ _ _ _=>dm) λ_ _ _ _=>(bf<|aa (pv 1)<|aa (pv 0) ae)) ae)
  (ai<|ax<|bf<|aa (aG ay (pv 1) ah λ_ _=>rfl)<|aa (bJ (NY:=["place","numbers","lines"]) (idx:=[Ji,B' 6,B' 4]) rfl cS (cg<|pv 5) (λ_ _ _ _=>(aB (i:=0) (nD ["place","numbers","lines"]) rfl<|JD rfl)) (λ_ _ _ _=>dm) λ_ _ _ _=>(cu aaS hr<|aa (aG (iW (K:=K) rfl) (pv 2) (pv 0) λ_ _=>rfl)<|aa (pv 1) ae)) ae)))))),?_⟩
 refine⟨_,rfl,_,rfl,p,q,pp,la,t,hw,xs,ls,cs,ds,out,rfl,hp,ht,hq,hcs,h9,hcok,hpp,hla,hds,by lia,(λd hd=>(gG<|Zc d hd).1),Nv,WU,λsl ys H1 k1 nsl WJ VF=>?_⟩;have hyl:=VF.length;refine⟨_,rfl,sl,ys,out,rfl,WJ,VF,by lia,λfl H2 k2 nfl hfl=>?_⟩;have k02:=k1.trans k2;have alH:(iL out).length=ds.length:=by unfold iL;rw[Jc,hol]
 have hnm:∀(i:Nat) (d:Jw),ds[i]? =B' d->∀k∈bH d,0<=k/\k < (i:Int):=λi d hd k hk=>by
  have agV:=ED Nv hd;have:=zL (Zc _<|Jx hd) agV k hk;rw[J9]at this;lia
 refine⟨_,rfl,.inr<|.inl ⟨pp,_,1,.ref la,rfl,rfl,SqT.of<|k02 _ _ hpp,rfl,la,rfl,⟨_,SqL.of<|k02 _ _ hla⟩,λD1 nD1=>?_⟩⟩;refine n9 [B'<|.ref fl] (λi=>dX (gK out)<|ds.getD i .none) rfl (k02 _ _ hla) nD1 (by lia) (λi hi=>l9<|Zc _<|Jx<|getD_some (d:=Nr) (show i < ds.length by lia)) (λi x hx H' R k r=>?_) λl1 H3 k3 hD1 SI=>?_
 ·have Ue:i < ds.length:=by have:=(Jk.mp hx).1;lia
  have hd:=getD_some (d:=Nr) Ue;have rx:=eJ (bp (k02.trans k) _ _ hds) hx;exact⟨_,rfl,_,rfl,x,fl,ds.getD i .none,iL out,rfl,rx,Zc _<|Jx hd,k _ _ hfl,(λz hz=>by have:=hnm i _ hd z hz;lia),r⟩
 rw[jP Nr (dX<|gK out) ds<|by lia]at SI;have g1:∀d∈ds.map (dX<|gK out),bQ d:=λd hd=>by
  obtain⟨d',h',rfl⟩:=Ke.mp hd;exact l9<|Zc d' h'
 have T5:([]:IW Int)∈out:=Jx aeP;obtain⟨hei,WV⟩:=zQ T5;have k03:=k02.trans k3;have k13:=k2.trans k3;refine⟨_,rfl,_,rfl,.inl ⟨rfl,_,SqL.of<|k13 _ _ WJ⟩,JQ _,λet net=>?_⟩;have k4:=ag net<|.tup [];have s4:upd H3 et (.tup []) et=B' (.tup []):=ad;generalize upd H3 et (.tup [])=H4 at k4 s4 ⊢;have eG:∀j,j < out.length->(out.map gc).getD j .none=gc (out.getD j []):=λj hj=>by
  rw[Jr,Jr,JW,Jm hj];rfl
 refine⟨.tuple [],out.map gc,_,sl,ys,out.idxOf [],rfl,rfl,(k13.trans k4) _ _ WJ,(VF.mono<|k13.trans k4).rds,bo s4 aJ,by decide+kernel,fw out,by decide+kernel,by rw[Jc];exact hei,?_,λm hm=>?_,?_⟩
 ·rw[eG _ hei,gv,Jr,WV];rfl
 ·rw[eG _ (by lia),gv];refine Jj λz=>?_;have UZ:out[m]? =B' []:=by rw[Jr,Jm<|by lia]at z;rw[Jm<|by lia];exact LU B' z
  have:=pG UZ;lia
 refine⟨D1,l1,ds.map<|dX<|gK out,out.idxOf [],rfl,k4 _ _ hD1,bp k4 _ _ SI,g1,by rw[Jc];lia,by rw[Jc];lia,λnl nd H5 k5 nnl hnl hpn hsn=>?_⟩;have aaH:Sf nd (cw (HE<|ds.map<|dX<|gK out) (out.idxOf [])<|out.idxOf []+1):=hpn;clear hpn;have abo:∀i,i<=out.idxOf []->∀k∈HE (ds.map<|dX<|gK out) i,0<=k/\k < (i:Int):=λi hi k hk=>by
  have hd:=getD_some (d:=Nr) (show i < ds.length by lia);have e1:(ds.map<|dX<|gK out).getD i .none=dX (gK out) (ds.getD i .none):=by rw[Jr,JW,hd];rfl
  have Pk:k∈bH ((ds.map<|dX<|gK out).getD i .none):=hk;rw[e1,ww<|Zc _<|Jx hd]at Pk;obtain⟨k0,hk0,rfl⟩:=Ke.mp Pk;have hr0:=hnm i _ hd k0 hk0;obtain⟨n0,rfl⟩:∃n:Nat,k0=(n:Int):=⟨k0.toNat,by lia⟩;have hn0:n0 < out.length:=by lia
  have ef:gK out (n0:Int)=((out.idxOf (out[n0]'hn0):Nat):Int):=by
   unfold gK iL;rw[MQ,Jr,JW,Jm hn0];rfl
  have:=pG<|Jm hn0;rw[ef];lia
 have ada:∀x∈nd,0<=x/\x<=((out.idxOf []:Nat):Int):=λx hx=>ii abo<|aaH.mem_iff.mp hx;have agT:nd.Nodup:=aaH.nodup_iff.mpr<|ig _;have aeK:nd.length<=900:=by
  have:=iz (nm:=HE<|ds.map<|dX<|gK out) (last:=out.idxOf []) (λi=>iA _)<|out.idxOf []+1;rw[aaH.length_eq];lia
 have aho:∀x∈nd,∀k∈bH ((ds.map<|dX<|gK out).getD x.toNat .none),k∈nd:=λx hx k hk=>by
  have hx2:=aaH.mem_iff.mp hx;have hr2:=ada x hx;obtain⟨n,rfl⟩:∃n:Nat,x=(n:Int):=⟨x.toNat,by lia⟩;rw[MQ]at hk;exact aaH.mem_iff.mpr<|pE abo hx2 k hk
 have k35:=k4.trans k5;have k05:=k03.trans k35;refine⟨_,rfl,nl,rfl,⟨_,SqL.of hnl⟩,λD2 nD2=>?_⟩;refine vY (K:=K) (a:=nl) (xs:=nd.map V.int) (Ae [] H5 D2 nd) ⟨Ji,Ji,[],rfl,ad,ag nD2 _,rfl,rfl,λj t k h _=>by simp at h⟩ ?_ ?_ ?_
 ·rintro i σ zs G _ ⟨_,_,_,_,i1,i2,_⟩;exact⟨i1,SqL.of<|i2 _ _ hnl⟩
 ·rintro i x σ zs G t0 hx ⟨v0,v1,ts,rfl,i1,i2,rfl,i4,i5⟩ ht0;obtain⟨k,rfl,hk⟩:=ft hx;have Ue:=(Jk.mp hk).1;have k6:=ag ht0<|.tup [.int (i:Nat),.int k];have s6:upd G t0 (.tup [.int (i:Nat),.int k]) t0=B' (.tup [.int (i:Nat),.int k]):=ad;generalize upd G t0 (.tup [.int (i:Nat),.int k])=G6 at k6 s6 ⊢;refine⟨t0,[.int (i:Nat),.int k],rfl,SqT.of s6,rfl,_,_,rfl,_,_,rfl,rfl,E_ ⟨_,rfl,_,rfl,(by show 2<=sizeLine;decide),λtt ntt=>?_⟩⟩;have k7:=ag ntt<|.tup [.int k,.int (i:Nat)];have d7:=(k6.trans k7) _ _ i1;refine⟨d7,aE (by rw[Jc];lia),_,_,ts++[tt],rfl,?_,(i2.trans<|k6.trans k7).upd_new nD2 _,?_,by rw[JC,i4];rfl,λj t' k' hj Pk=>?_⟩
  ·rw[ad]
  ·rw[Ko];rfl
  ·have keep:∀{b:I_} {zs:IW V},upd G6 tt (.tup [.int k,.int (i:Nat)]) b=B' (.tup zs)->upd (upd G6 tt<|.tup [.int k,.int (i:Nat)]) D2 (.lst<|ts.map V.ref++[.ref tt]) b=B' (.tup zs):=λe=>by
    rw[ao λz=>by rw[z,d7]at e;cases e];exact e
   obtain g|g:=Lx j ts.length
   ·rw[Kl g]at hj;exact keep<|(k6.trans k7) _ _<|i5 j t' k' hj Pk
   ·rw[Ku g]at hj;have hji:j=i:=by
     have:=(Jk.mp hj).1;rw[Kk]at this;lia
    subst hji;rw[i4,M1]at hj;cases hj;rw[hk]at Pk;cases Pk;exact keep ad
 ·rintro σ zs G ⟨v0,v1,ts,rfl,i1,i2,rfl,i4,i5⟩;rw[Jc]at i4;refine⟨D2,ts,kj nd,rfl,i1,?_,λj t' kv hj hkv=>?_,?_,?_,λdn ndn=>?_⟩
  ·unfold kj;rw[Jc,Mk,i4]
  ·have hjl:=(Jk.mp hj).1;unfold kj at hkv;rw[JW,O'<|by lia]at hkv;cases hkv;exact i5 j t' _ hj (getD_some (d:=(0:Int))<|by lia)
  ·rw[wB];exact aav _ (λa b h z=>h<|OI z) agT
  ·unfold kj;rw[Jc,Mk];exact Lb aeK (by decide)
  have k8:=ag ndn<|.dK<|kj nd;have s8:upd G dn (.dK<|kj nd) dn=B' (.dK<|kj nd):=ad;generalize upd G dn (.dK<|kj nd)=G8 at k8 s8 ⊢;have k58:=i2.trans k8;have k08:=k05.trans k58;refine⟨_,rfl,.inr<|.inl ⟨pp,_,0,.str<|aK hw,rfl,rfl,SqT.of<|k08 _ _ hpp,rfl,_,rfl,nl,rfl,⟨_,SqL.of<|k58 _ _ hnl⟩,λD3 nD3=>?_⟩⟩;refine n9 [B'<|.ref dn,B'<|.ref D1] (λi=>dX (λk=>((nd.idxOf k:Nat):Int))<|(ds.map<|dX<|gK out).getD (nd.getD i 0).toNat .none) rfl (k58 _ _ hnl) nD3 (by rw[Jc];exact aeK) (λi hi=>?_) (λi x hx H' R k r=>?_) λl3 H9 k9 hD3 hl3=>?_
  ·rw[Jc]at hi;have hx:=ada _<|Jx<|getD_some (d:=(0:Int)) hi;exact l9 (g1 _<|Jx<|getD_some (d:=Nr)<|by rw[Jc];lia)
  ·obtain⟨z,rfl,hz⟩:=ft hx;have hzd:nd.getD i 0=z:=by rw[Jr,hz];rfl
   rw[hzd]at r;have hzm:=Jx hz;have hzr:=ada z hzm;obtain⟨n,rfl⟩:∃n:Nat,z=(n:Int):=⟨z.toNat,by lia⟩;rw[MQ]at r;have hn:n < (ds.map<|dX<|gK out).length:=by rw[Jc];lia
   have aeR:=bp (k35.trans<|k58.trans k) _ _ SI;have alx:=cB aeR;obtain⟨v,hv⟩:∃v,l1[n]? =B' v:=⟨_,Jm (by lia)⟩;have rv:=eJ aeR hv;have T6:=aho _ hzm;rw[MQ]at T6;exact⟨_,rfl,_,rfl,.inl ⟨D1,l1,(n:Int),v,rfl,rfl,SqL.of ((k35.trans (k58.trans k)) _ _ hD1),aZ hv,_,rfl,v,dn,(ds.map (dX (gK out))).getD n .none,kj nd,λk=>((nd.idxOf k:Nat):Int),rfl,rv,g1 _ (Jx (getD_some (d:=Nr) hn)),k _ _ s8,(λk' Pk=>Af (T6 k' Pk)),r⟩⟩
  ·refine⟨(by show 2<=sizeLine;decide),λr nr=>?_⟩;have k10:=ag nr<|.tup [.str<|aK hw,.ref D3];rw[Jc,jP (0:Int) (λp=>dX (λk=>((nd.idxOf k:Nat):Int))<|(ds.map<|dX<|gK out).getD p.toNat .none) nd rfl]at hl3;exact q' r D3 l3 nd _ (k08.trans<|k9.trans k10) ((k08.trans k9).free nr) (k08.free nD3) ad (k10 _ _ hD3) (bp k10 _ _ hl3) aaH hsn
end
abbrev Ah:Lh:=top 42
structure Hl (mg:Str->Jd IX):Prop where
 len:mg "len"=Ji
inductive Hm (vs:IW V)(H:Hp)(Q:VK):Prop
 |mk (p q pp la:I_)(t:Str)(hw:JJ)(xs ls:IW V)(cs:IW (IW Int))(ds:IW Jw)(out:IW (IW Int))(h0:vs=[.ref p,.ref pp])(h1:H p=B' (.tup [.str t,.ref q]))(h2:t.length<=30)(h3:H q=B' (.lst xs))(h4:CLs H cs xs)(h5:cs.length<=900)(h6:(∀c∈cs,aV t.length c))(h7:H pp=B' (.tup [.str<|aK hw,.ref la]))(h8:H la=B' (.lst ls))(h9:dJ H ds ls)(h10:ds.length<=200)(h11:(∀d∈ds,bQ d))(h12:bu t cs hw [] ds=(out,Je))(h14:fY out=Je)
   (h13:∀l Rg H',Same H H'->H l=Ji->H' l=B' (.lst<|Rg.map V.int)->Sf Rg (cw (λi=>bH<|ds.getD i .none) (ds.length - 1)<|ds.length - 1+1)->Qo (·<=·) Rg->Q (.ref l) H'):Hm vs H Q
def Ai:Sp:=λvs H Q _=>Hm vs H Q
section
variable {K:IZ}
def og:aH ["sentence","paper","sets"] ["sentence","paper"] (ap Ah):=fb
def Fc(F:Fun K "needed_lines" "needed_lines" Ah f fd)(T:Hl mg)(M_:Fe P w K mg base 7 "whole_sets" zy)(Uq:Fe P w K mg base 2 "needed_by" zK):FnOk P w K mg base dh 8 f fd ["sentence","paper"] Ai:=by
 have sc:=og;refine F.okA og λMG A outer s H vs Q E hr h=>?_;obtain⟨p,q,pp,la,t,hw,xs,ls,cs,ds,out,rfl,hp,ht,hq,hcs,h9,hcok,hpp,hla,hds,h8,Zc,Nv,WU,q'⟩:=h;have hol:out.length=ds.length:=by
  have:=cb Nv;simpa using this
 have he:=(jw WU).1;refine⟨_,(af (ar (i:=2) sc.nd rfl (JD rfl)<|cu M_ hr<|aa (pv 0)<|aa (pv 1) ae)
  (ai<|ax<|cu Uq hr<|aa (aG ay (pv 1) ah λ_ _=>rfl)<|aa (aI fj (au bh rfl T.len Kt<|aa (pv 2) ae) ah) ae)),?_⟩
 refine⟨_,rfl,_,rfl,p,q,pp,la,t,hw,xs,ls,cs,ds,out,rfl,hp,ht,hq,hcs,h9,hcok,hpp,hla,hds,by lia,(λd hd=>(gG<|Zc d hd).1),Nv,WU,λl ys H1 k1 hl SI hs1=>?_⟩;have hyl:=hs1.length;refine⟨_,rfl,.inr<|.inl ⟨pp,_,1,.ref la,rfl,rfl,SqT.of<|k1 _ _ hpp,rfl,_,rfl,.ref l,_,rfl,.inl ⟨_,SqL.of SI,rfl⟩,_,_,rfl,rfl,?_⟩⟩;have el:(ys.length:Int) - 1=((ds.length - 1:Nat):Int):=by lia
 rw[el];exact⟨la,ls,ds,ds.length - 1,rfl,k1 _ _ hla,bp k1 _ _ hds,Zc,by lia,h8,λl2 Rg H2 k2 n2 s2 Y3 WR=>q' l2 Rg H2 (k1.trans k2) (k1.free n2) s2 Y3 WR⟩
end
abbrev sV:Lh:=top 63
structure IK (mg:Str->Jd IX)(CD C1 C2 C3 C4 C5 C6 C7 C8 C9:I_):Prop where
 len:mg "len"=Ji
 isinstance:mg "isinstance"=Ji
 ValueError:mg "ValueError"=Ji
 g_DuelError:eV mg "DuelError" (.ref CD)
 g_NoVariable:eV mg "NoVariable" (.ref C1)
 g_NoFilling:eV mg "NoFilling" (.ref C2)
 g_BadLine:eV mg "BadLine" (.ref C3)
 g_NotWhole:eV mg "NotWhole" (.ref C4)
 g_NoHand:eV mg "NoHand" (.ref C5)
 g_BadStep:eV mg "BadStep" (.ref C6)
 g_NoForm:eV mg "NoForm" (.ref C7)
 g_TooMany:eV mg "TooMany" (.ref C8)
 g_NoText:eV mg "NoText" (.ref C9)
structure HF (K:IZ)(CC C1 C2 C3 C4 C5 C6 C7 C8 C9:I_)(b1 b2 b3 b4 b5 b6 b7 b8 b9:JJ):Prop where
 ask:dL K CC
 kV:JM K (.ref CC) (.type "ValueError")=B' Je
 k1:JM K (.ref CC) (.ref C1)=B' b1
 k2:JM K (.ref CC) (.ref C2)=B' b2
 k3:JM K (.ref CC) (.ref C3)=B' b3
 k4:JM K (.ref CC) (.ref C4)=B' b4
 k5:JM K (.ref CC) (.ref C5)=B' b5
 k6:JM K (.ref CC) (.ref C6)=B' b6
 k7:JM K (.ref CC) (.ref C7)=B' b7
 k8:JM K (.ref CC) (.ref C8)=B' b8
 k9:JM K (.ref CC) (.ref C9)=B' b9
def gh(x:IsExc H ea C)(k:Same H H'):IsExc H' ea C:=x.elim (λz=>.inl<|k _ _ z) λ⟨d,z⟩=>.inr ⟨d,k _ _ z⟩
def Hn:V->JJ
 |.bl b=>b
 |_=>Jg
theorem sW:∀bs:IW JJ,(((bs.map V.bl).filter Hn).map λx=>x).length=(bs.filter id).length
 |[]=>rfl
 |true::bs=>LU (·+1)<|sW bs
 |false::bs=>sW bs
def fQ(CC:I_):Sp:=λvs H Q _=>∃ea:I_,vs=[.ref ea]/\IsExc H ea CC/\∀H':Hp,Same H H'->Q (.bl Je) H'
section
variable {K:IZ}
def uX:aH ["_law_error","_law_told"] ["_law_error"] (ap sV):=fb
def ml(F:Fun K "_law_alone" "_law_alone" sV f fd)(T:IK mg CD C1 C2 C3 C4 C5 C6 C7 C8 C9)(B:HF K CC C1 C2 C3 C4 C5 C6 C7 C8 C9 b1 b2 b3 b4 b5 b6 b7 b8 b9)(kD:JM K (.ref CC) (.ref CD)=B' Je)(h1:([b1,b2,b3,b4,b5,b6,b7,b8,b9].filter id).length=1):FnOk P w K mg base dh 1 f fd ["_law_error"] (fQ CC):=by
 have sc:=uX;refine F.okA uX λMG A outer s H vs Q E hr h=>?_;obtain⟨ea,rfl,he,q⟩:=h;have hu:=hr.units;refine⟨_,(af (aR (PW.pt<|gL (bG<|bq<|au bF rfl T.isinstance JT<|aa (pv 0)<|aa (bB rfl T.g_DuelError) ae)<|gO<|bG<|bq<|au bF rfl T.isinstance JT<|aa (pv 0)<|aa (cH (v:=.ty "ValueError") rfl T.ValueError PyProof.Rows.Boot.«ValueError» rfl) ae) (ai<|ax fi) az)
  (af (ar (i:=1) sc.nd rfl (JD rfl)<|aP<|aa (au bF rfl T.isinstance JT<|aa (pv 0)<|aa (bB rfl T.g_NoVariable) ae)<|aa (au bF rfl T.isinstance JT<|aa (pv 0)<|aa (bB rfl T.g_NoFilling) ae)<|aa (au bF rfl T.isinstance JT<|aa (pv 0)<|aa (bB rfl T.g_BadLine) ae) ae)
  (af (ar (i:=1) sc.nd rfl (JD rfl)<|aI jz (pv 1)<|aP<|aa (au bF rfl T.isinstance JT<|aa (pv 0)<|aa (bB rfl T.g_NotWhole) ae)<|aa (au bF rfl T.isinstance JT<|aa (pv 0)<|aa (bB rfl T.g_NoHand) ae)<|aa (au bF rfl T.isinstance JT<|aa (pv 0)<|aa (bB rfl T.g_BadStep) ae) ae)
  (af (ar (i:=1) sc.nd rfl (JD rfl)<|aI jz (pv 1)<|aP<|aa (au bF rfl T.isinstance JT<|aa (pv 0)<|aa (bB rfl T.g_NoForm) ae)<|aa (au bF rfl T.isinstance JT<|aa (pv 0)<|aa (bB rfl T.g_TooMany) ae)<|aa (au bF rfl T.isinstance JT<|aa (pv 0)<|aa (bB rfl T.g_NoText) ae) ae)
  (ai<|ax<|eF (aS hu) (au bh rfl T.len Kt<|aa (bJ (NY:=["_law_one"]) (idx:=[Ji]) rfl cS (cg<|pv 1) (λ_ _ _ _=>(aB (i:=0) (nD ["_law_one"]) rfl<|JD rfl)) (λ_ _ _ _=>(cN<|bq<|pv 0)) λ_ _ _ _=>(pv 0)) ae) ah<|aA _))))),?_⟩
 refine⟨_,rfl,⟨ea,CC,_,_,_,rfl,rfl,he,B.ask,kD,Je,rfl,aQ ?_⟩⟩;refine⟨_,rfl,⟨ea,CC,.ty "ValueError",.type "ValueError",Je,rfl,rfl,he,B.ask,B.kV,Je,rfl,aQ ?_⟩⟩;refine⟨_,rfl,⟨ea,CC,_,_,_,rfl,rfl,he,B.ask,B.k1,_,rfl,⟨ea,CC,_,_,_,rfl,rfl,he,B.ask,B.k2,_,rfl,⟨ea,CC,_,_,_,rfl,rfl,he,B.ask,B.k3,(by show 3<=sizeLine;decide),λl1 SI=>?_⟩⟩⟩⟩;have k1:=ag SI<|.lst [.bl b1,.bl b2,.bl b3];have r1:upd H l1 (.lst [.bl b1,.bl b2,.bl b3]) l1=B' (.lst [.bl b1,.bl b2,.bl b3]):=ad;show eU 1 (.ref l1) _ (upd H l1<|.lst [.bl b1,.bl b2,.bl b3]) _
 generalize upd H l1 (.lst [.bl b1,.bl b2,.bl b3])=H1 at k1 r1;refine⟨_,rfl,_,rfl,⟨ea,CC,_,_,_,rfl,rfl,(gh he k1),B.ask,B.k4,_,rfl,⟨ea,CC,_,_,_,rfl,rfl,(gh he k1),B.ask,B.k5,_,rfl,⟨ea,CC,_,_,_,rfl,rfl,(gh he k1),B.ask,B.k6,(by show 3<=sizeLine;decide),λl2 YD=>?_⟩⟩⟩⟩;have k2:=ag YD<|.lst [.bl b4,.bl b5,.bl b6];refine⟨l1,l2,_,_,rfl,rfl,k2 _ _ r1,ad,(by show 6<=sizeLine;decide),λl3 hl3=>?_⟩;have k3:=k1.trans<|k2.trans<|ag hl3<|.lst [.bl b1,.bl b2,.bl b3,.bl b4,.bl b5,.bl b6];have r3:upd (upd H1 l2<|.lst [.bl b4,.bl b5,.bl b6]) l3 (.lst [.bl b1,.bl b2,.bl b3,.bl b4,.bl b5,.bl b6]) l3=B' (.lst [.bl b1,.bl b2,.bl b3,.bl b4,.bl b5,.bl b6]):=ad;show eU 1 (.ref l3) _ (upd (upd H1 l2<|.lst [.bl b4,.bl b5,.bl b6]) l3<|.lst [.bl b1,.bl b2,.bl b3,.bl b4,.bl b5,.bl b6]) _
 generalize upd (upd H1 l2<|.lst [.bl b4,.bl b5,.bl b6]) l3 (.lst [.bl b1,.bl b2,.bl b3,.bl b4,.bl b5,.bl b6])=H3 at k3 r3;refine⟨_,rfl,_,rfl,⟨ea,CC,_,_,_,rfl,rfl,(gh he k3),B.ask,B.k7,_,rfl,⟨ea,CC,_,_,_,rfl,rfl,(gh he k3),B.ask,B.k8,_,rfl,⟨ea,CC,_,_,_,rfl,rfl,(gh he k3),B.ask,B.k9,(by show 3<=sizeLine;decide),λl4 hl4=>?_⟩⟩⟩⟩;have k4:=ag hl4<|.lst [.bl b7,.bl b8,.bl b9];refine⟨l3,l4,_,_,rfl,rfl,k4 _ _ r3,ad,(by show 9<=sizeLine;decide),λl5 hl5=>?_⟩;have k5:=k3.trans<|k4.trans<|ag hl5<|.lst [.bl b1,.bl b2,.bl b3,.bl b4,.bl b5,.bl b6,.bl b7,.bl b8,.bl b9];have r5:upd (upd H3 l4<|.lst [.bl b7,.bl b8,.bl b9]) l5 (.lst [.bl b1,.bl b2,.bl b3,.bl b4,.bl b5,.bl b6,.bl b7,.bl b8,.bl b9]) l5=B' (.lst [.bl b1,.bl b2,.bl b3,.bl b4,.bl b5,.bl b6,.bl b7,.bl b8,.bl b9]):=ad;generalize e5:upd (upd H3 l4<|.lst [.bl b7,.bl b8,.bl b9]) l5 (.lst [.bl b1,.bl b2,.bl b3,.bl b4,.bl b5,.bl b6,.bl b7,.bl b8,.bl b9])=H5 at k5 r5;refine⟨_,rfl,l5,rfl,⟨_,SqL.of<|by rw[<-e5]at r5;exact r5⟩,λD hD=>?_⟩;refine gy [] Hn (λx=>x) rfl (by rw[<-e5]at r5;exact r5) hD (by show 9<=900;decide) ?_ ?_ ?_
 ·intro x hx H' R k r;obtain⟨b,rfl⟩:∃b,x=.bl b:=by
   simp only [J2,Qh,or_false]at hx;obtain rfl|rfl|rfl|rfl|rfl|rfl|rfl|rfl|rfl:=hx<;>exact⟨_,rfl⟩
  exact⟨_,rfl,b,rfl,r⟩
 ·intro x hx _ H' R k r;exact⟨_,rfl,r⟩
 ·refine⟨.ref D,_,rfl,.inl ⟨_,SqL.of ad,rfl⟩,.inl ⟨rfl,?_⟩⟩;have ec:((([b1,b2,b3,b4,b5,b6,b7,b8,b9].map V.bl).filter Hn).map λx=>x).length=1:=(sW _).trans h1;have ed:decide (V.int ((((([b1,b2,b3,b4,b5,b6,b7,b8,b9].map V.bl).filter Hn).map λx=>x).length:Nat):Int)=V.int 1)=true:=by rw[ec];rfl
  show Q (.bl (decide (V.int ((((([b1,b2,b3,b4,b5,b6,b7,b8,b9].map V.bl).filter Hn).map λx=>x).length:Nat):Int)=V.int 1))) _
  rw[ed];refine q _ ?_;rw[<-e5]at k5;exact k5.trans<|ag hD _
end
structure Ho (K:IZ)(mg:Str->Jd IX)(CH:I_):Prop where
 g_SPOILER:eV mg "SPOILER" (.str<|aK Jg)
 m_NoHand:mg "NoHand"=B' (.ref CH)
 x_NoHand:Mo K CH [.type "ValueError",.type "Exception",.type "BaseException",.type "object"] "ValueError.__new__"=Je
inductive Aj (CH:I_)(vs:IW V)(H:Hp)(E:XK):Prop
 |mk (p q pp la:I_)(t:Str)(xs ls:IW V)(cs:IW (IW Int))(ds:IW Jw)(out:IW (IW Int))(h0:vs=[.ref p,.ref pp])(h1:H p=B' (.tup [.str t,.ref q]))(h2:t.length<=30)(h3:H q=B' (.lst xs))(h4:CLs H cs xs)(h5:cs.length<=900)(h6:(∀c∈cs,aV t.length c))(h7:H pp=B' (.tup [.str<|aK Je,.ref la]))(h8:H la=B' (.lst ls))(h9:dJ H ds ls)(h10:ds.length<=900)(h11:(∀d∈ds,eT d))(h12:bu t cs Je [] ds=(out,Je))(h13:∀H',Same H H'->E (.ref CH) Ji H'):Aj CH vs H E
def kQ(CH:I_):Sp:=λvs H _ E=>Aj CH vs H E
section
variable {K:IZ}
def Cd(F:Fun K "needed_lines" "needed_lines" Ah f fd)(M_:wg P w K mg base 7 "whole_sets" g1 e1 ["sentence","paper"] (cR CB)):FnOk P w K mg base (iM P w) 8 f fd ["sentence","paper"] (cR CB):=by
 have sc:=og;refine F.okD og (λvs H Q E h=>?_) λMG A outer s H vs Q E hr h=>?_
 ·obtain⟨p,q,pp,la,t,hw,xs,ls,cs,ds,out,rfl,_⟩:=h;rfl
 obtain⟨p,q,pp,la,t,hw,xs,ls,cs,ds,out,rfl,ZD⟩:=h;refine⟨_,(af (ar (i:=2) sc.nd rfl (JD rfl)<|ph M_ hr (by lia) rfl<|aa (pv 0)<|aa (pv 1) ae)
  (ai aX)),?_⟩
 exact⟨_,rfl,_,rfl,p,q,pp,la,t,hw,xs,ls,cs,ds,out,rfl,by assumption,by assumption,by assumption,by assumption,by assumption,by assumption,by assumption,by assumption,by assumption,by assumption,by assumption,by assumption,by assumption⟩
def Ce(F:Fun K "needed_lines" "needed_lines" Ah f fd)(M_:tN P w K mg base 7 "whole_sets" g1 e1 ["sentence","paper"] (ic CW)):FnOk P w K mg base (jU P w) 8 f fd ["sentence","paper"] (ic CW):=by
 have sc:=og;refine F.oXA og λMG A outer s H vs Q E hr h=>?_;obtain⟨p,q,pp,la,t,hw,xs,ls,cs,ds,out,rfl,ZD⟩:=h;refine⟨_,(af (ar (i:=2) sc.nd rfl (JD rfl)<|xB M_ hr (by lia) rfl<|aa (pv 0)<|aa (pv 1) ae)
  (ai aX)),?_⟩
 exact⟨_,rfl,_,rfl,p,q,pp,la,t,hw,xs,ls,cs,ds,out,rfl,by assumption,by assumption,by assumption,by assumption,by assumption,by assumption,by assumption,by assumption,by assumption,by assumption,by assumption,by assumption,by assumption,by assumption⟩
def Cf(F:Fun K "shortened_paper" "shortened_paper" Ad f fd)(M_:wg P w K mg base 7 "whole_sets" g1 e1 ["sentence","paper"] (cR CB)):FnOk P w K mg base (iM P w) 8 f fd ["sentence","paper"] (cR CB):=by
 have sc:=n_;refine F.okD n_ (λvs H Q E h=>?_) λMG A outer s H vs Q E hr h=>?_
 ·obtain⟨p,q,pp,la,t,hw,xs,ls,cs,ds,out,rfl,_⟩:=h;rfl
 obtain⟨p,q,pp,la,t,hw,xs,ls,cs,ds,out,rfl,ZD⟩:=h;refine⟨_,(af (ar (i:=2) sc.nd rfl (JD rfl)<|ph M_ hr (by lia) rfl<|aa (pv 0)<|aa (pv 1) ae)
  (af aX
  (af aX
  (af aX
  (af aX
  (ai aX)))))),?_⟩
 exact⟨_,rfl,_,rfl,p,q,pp,la,t,hw,xs,ls,cs,ds,out,rfl,by assumption,by assumption,by assumption,by assumption,by assumption,by assumption,by assumption,by assumption,by assumption,by assumption,by assumption,by assumption,by assumption⟩
def Cg(F:Fun K "shortened_paper" "shortened_paper" Ad f fd)(M_:tN P w K mg base 7 "whole_sets" g1 e1 ["sentence","paper"] (ic CW)):FnOk P w K mg base (jU P w) 8 f fd ["sentence","paper"] (ic CW):=by
 have sc:=n_;refine F.oXA n_ λMG A outer s H vs Q E hr h=>?_;obtain⟨p,q,pp,la,t,hw,xs,ls,cs,ds,out,rfl,ZD⟩:=h;refine⟨_,(af (ar (i:=2) sc.nd rfl (JD rfl)<|xB M_ hr (by lia) rfl<|aa (pv 0)<|aa (pv 1) ae)
  (af aX
  (af aX
  (af aX
  (af aX
  (ai aX)))))),?_⟩
 exact⟨_,rfl,_,rfl,p,q,pp,la,t,hw,xs,ls,cs,ds,out,rfl,by assumption,by assumption,by assumption,by assumption,by assumption,by assumption,by assumption,by assumption,by assumption,by assumption,by assumption,by assumption,by assumption,by assumption⟩
def Ak(F:Fun K "joined_clauses" "joined_clauses" me f fd)(OE:wg P w K mg base 6 "sets_of" g1 e1 ["sentence","paper"] (cR CB)):FnOk P w K mg base (iM P w) 7 f fd ["sentence","paper"] (cR CB):=by
 have sc:=jL;refine F.okD jL (λvs H Q E h=>?_) λMG A outer s H vs Q E hr h=>?_
 ·obtain⟨p,q,pp,la,t,hw,xs,ls,cs,ds,out,rfl,_⟩:=h;rfl
 obtain⟨p,q,pp,la,t,hw,xs,ls,cs,ds,out,rfl,ZD⟩:=h;refine⟨_,(af (ar (i:=2) sc.nd rfl (JD rfl)<|ph OE hr (by lia) rfl<|aa (pv 0)<|aa (pv 1) ae)
  (af aX
  (af aX
  (af aX
  (af aX
  (ai aX)))))),?_⟩
 exact⟨_,rfl,_,rfl,p,q,pp,la,t,hw,xs,ls,cs,ds,out,rfl,by assumption,by assumption,by assumption,by assumption,by assumption,by assumption,by assumption,by assumption,by assumption,by assumption,by assumption,by assumption,by assumption⟩
def Al(F:Fun K "joined_clauses" "joined_clauses" me f fd)(T:Ho K mg CH)(OE:Fe P w K mg base 6 "sets_of" ib):FnOk P w K mg base (jU P w) 7 f fd ["sentence","paper"] (kQ CH):=by
 have sc:=jL;refine F.oXA jL λMG A outer s H vs Q E hr h=>?_;obtain⟨p,q,pp,la,t,xs,ls,cs,ds,out,rfl,hp,ht,hq,hcs,h9,hcok,hpp,hla,hds,h8,Xv,Nv,q'⟩:=h;have hu:=hr.units;refine⟨_,(af (ar (i:=2) sc.nd rfl (JD rfl)<|cu OE hr<|aa (pv 0)<|aa (pv 1) ae)
  (af (aR (aq (fV hu) (aG ay (pv 1) ah λ_ _=>rfl) (bB rfl T.g_SPOILER)<|aA _) (ai<|qi T.x_NoHand MP T.m_NoHand rfl<|aa aC ae) az)
  (af aX
  (af aX
  (af aX
  (ai aX)))))),?_⟩
 refine⟨_,rfl,_,rfl,p,q,pp,la,t,Je,xs,ls,cs,ds,out,rfl,hp,ht,hq,hcs,h9,hcok,hpp,hla,hds,h8,Xv,Nv,λsl ys H1 k1 nsl WJ VF=>?_⟩;refine⟨_,rfl,.inr<|.inl ⟨pp,_,0,.str<|aK Je,rfl,rfl,SqT.of<|k1 _ _ hpp,rfl,.inl ⟨rfl,_,rfl,?_⟩⟩⟩;rw[Jj (show¬V.str (aK Je)=V.str (aK Jg) by decide+kernel)];exact aW ⟨(by show 1<=sizeLine;decide),q' H1 k1⟩
end
abbrev sX:Lh:=top 65
abbrev Fd:Lh:=top 47
structure Hq (mg:Str->Jd IX):Prop where
 isinstance:mg "isinstance"=Ji
 int:mg "int"=Ji
 bool:mg "bool"=Ji
def oh:Sp:=λvs H Q _=>∃z:Int,vs=[.int z]/\Q (.bl Je) H
structure wC (K:IZ)(mg:Str->Jd IX)(CB CW CH fI:I_):Prop where
 isinstance:mg "isinstance"=Ji
 list:mg "list"=Ji
 tuple:mg "tuple"=Ji
 m_BadLine:mg "BadLine"=B' (.ref CB)
 x_BadLine:hZ K CB [.type "ValueError",.type "Exception",.type "BaseException",.type "object"] "ValueError.__new__" fI=Je
 be_BadLine:J5 K CB (.type "BaseException")=B' Je
 lt_BadLine:J5 K CB (.ref CB)=B' Je
 m_NotWhole:mg "NotWhole"=B' (.ref CW)
 x_NotWhole:Mo K CW [.type "ValueError",.type "Exception",.type "BaseException",.type "object"] "ValueError.__new__"=Je
 be_NotWhole:J5 K CW (.type "BaseException")=B' Je
 n2_BadLine:J5 K CW (.ref CB)=B' Jg
 m_NoHand:mg "NoHand"=B' (.ref CH)
 x_NoHand:Mo K CH [.type "ValueError",.type "Exception",.type "BaseException",.type "object"] "ValueError.__new__"=Je
 n3_BadLine:J5 K CH (.ref CB)=B' Jg
 n3_NotWhole:J5 K CH (.ref CW)=B' Jg
 get:yy K CB "place"
structure om (H:Hp)(vs:IW V)(Ry:Nat)(p q pp la:I_)(t:Str)(hw:JJ)(xs ls:IW V)(cs:IW (IW Int))(ds:IW Jw):Prop where
 h0:vs=[.int (Ry:Int),.ref p,.ref pp]
 hp:H p=B' (.tup [.str t,.ref q])
 ht:t.length<=30
 hq:H q=B' (.lst xs)
 hcs:CLs H cs xs
 h9:cs.length<=100
 hcok:∀c∈cs,aV t.length c
 hpp:H pp=B' (.tup [.str<|aK hw,.ref la])
 hla:H la=B' (.lst ls)
 hds:dJ H ds ls
 h8:ds.length<=200
inductive Dw (vs:IW V)(H:Hp)(Q:VK):Prop
 |mk (Ry:Nat)(p q pp la:I_)(t:Str)(hw:JJ)(xs ls:IW V)(cs:IW (IW Int))(ds:IW Jw)(out:IW (IW Int))(h:om H vs Ry p q pp la t hw xs ls cs ds)(hg:∀d∈ds,bQ d)(Nv:bu t cs hw [] ds=(out,Je))(hc:(Ry=0/\fY out=Je)\/(Ry=1/\fY out=Je)\/(Ry=2/\hw=Jg))(q':∀l H',Same H H'->H' l=B' (.lst [.str<|I0 "told",.int (-2)])->Q (.ref l) H'):Dw vs H Q
def Am:Sp:=λvs H Q _=>Dw vs H Q
inductive Dx (vs:IW V)(H:Hp)(Q:VK):Prop
 |mk (Ry:Nat)(p q pp la:I_)(t:Str)(hw:JJ)(xs ls:IW V)(cs:IW (IW Int))(ds:IW Jw)(out:IW (IW Int))(h:om H vs Ry p q pp la t hw xs ls cs ds)(hg:∀d∈ds,bQ d)(Nv:bu t cs hw [] ds=(out,Je))(hc:Ry=0\/Ry=1)(he:fY out=Jg)(q':∀l H',Same H H'->H' l=B' (.lst [.str<|I0 "not whole",.int (-2)])->Q (.ref l) H'):Dx vs H Q
def An:Sp:=λvs H Q _=>Dx vs H Q
inductive Dy (vs:IW V)(H:Hp)(Q:VK):Prop
 |mk (p q pp la:I_)(t:Str)(xs ls:IW V)(cs:IW (IW Int))(ds:IW Jw)(out:IW (IW Int))(h:om H vs 2 p q pp la t Je xs ls cs ds)(hg:∀d∈ds,bQ d)(Nv:bu t cs Je [] ds=(out,Je))(q':∀l H',Same H H'->H' l=B' (.lst [.str<|I0 "hand",.int (-2)])->Q (.ref l) H'):Dy vs H Q
def Ao:Sp:=λvs H Q _=>Dy vs H Q
inductive Dz (vs:IW V)(H:Hp)(Q:VK):Prop
 |mk (Ry:Nat)(p q pp la:I_)(t:Str)(hw:JJ)(xs ls:IW V)(cs:IW (IW Int))(ds:IW Jw)(out:IW (IW Int))(h:om H vs Ry p q pp la t hw xs ls cs ds)(hs:∀d∈ds,eT d)(Nv:bu t cs hw [] ds=(out,Jg))(hc:Ry=0\/Ry=1\/Ry=2)(q':∀l H',Same H H'->H' l=B' (.lst [.str<|I0 "bad",.int (out.length:Int)])->Q (.ref l) H'):Dz vs H Q
def Ap:Sp:=λvs H Q _=>Dz vs H Q
section
variable {K:IZ}
def DA:aH ["_law_found"] ["_law_found"] (ap Fd):=fb
def Ff(F:Fun K "_law_whole" "_law_whole" Fd f fd)(T:Hq mg):FnOk P w K mg base dh 1 f fd ["_law_found"] oh:=by
 have sc:=DA;refine F.okA DA λMG A outer s H vs Q E hr h=>?_;obtain⟨z,rfl,q⟩:=h;exists _,(ai<|ax<|kT (au dC rfl T.isinstance JT<|aa (pv 0)<|aa (cH (v:=.ty "int") rfl T.int S4 rfl) ae)<|ou<|wL<|au dC rfl T.isinstance JT<|aa (pv 0)<|aa (cH (v:=.ty "bool") rfl T.bool SA rfl) ae);exact⟨_,rfl,.int z,_,"int",Je,rfl,.int z,bU IS,Je,rfl,aW ⟨_,rfl,.int z,_,"bool",Jg,rfl,.int z,bU IT,_,rfl,q⟩⟩
def kd:aH ["_law_word","_law_sentence_here","_law_paper_here","_law_found","_law_error","_law_told","e"] ["_law_word","_law_sentence_here","_law_paper_here"] (ap sX):=fb
def Ch(F:Fun K "_law_refusal" "_law_refusal" sX f fd)(T:wC K mg CB CW CH fI)(N0:Fe P w K mg base 8 "needed_lines" Ai)(MU:Fe P w K mg base 8 "shortened_paper" Ag)(Ng:Fe P w K mg base 7 "joined_clauses" sR)(OH:Fe P w K mg base 1 "_law_alone" (fQ CB))(OF:Fe P w K mg base 1 "_law_whole" oh):FnOk P w K mg base dh 9 f fd ["_law_word","_law_sentence_here","_law_paper_here"] Am:=by
 have sc:=kd;refine F.ok kd (λvs H Q E h=>?_) λMG A outer s H vs Q E hr h=>?_
 ·obtain⟨Ry,p,q,pp,la,t,hw,xs,ls,cs,ds,out,h,_⟩:=h;rw[h.h0];rfl
 obtain⟨Ry,p,q,pp,la,t,hw,xs,ls,cs,ds,out,⟨rfl,hp,ht,hq,hcs,h9,hcok,hpp,hla,hds,h8⟩,hg,Nv,hc,q'⟩:=h;have hu:=hr.units;refine⟨_,(af (ar (i:=3) sc.nd rfl (JD rfl) bR)
  (af (ar (i:=4) sc.nd rfl (JD rfl) bR)
  (af (ar (i:=5) sc.nd rfl (JD rfl) aC)
  (af (Bm rfl<|ai<|aR (aq (aS hu) (pv 0) ah<|aA _) (ai<|ar (i:=3) sc.nd rfl (JD rfl)<|cu N0 hr<|aa (pv 1)<|aa (pv 2) ae)<|ai<|aR (aq (aS hu) (pv 0) ah<|aA _) (ai<|ar (i:=3) sc.nd rfl (JD rfl)<|cu MU hr<|aa (pv 1)<|aa (pv 2) ae)<|ai<|ar (i:=3) sc.nd rfl (JD rfl)<|cu Ng hr<|aa (pv 1)<|aa (pv 2) ae)
  (af (aR (PW.pt<|dI (aq iN (pv 4) bR<|aA _)<|c6<|bG<|bq<|cu OH hr<|aa (pv 4) ae) (ai<|ax<|aP<|aa aC<|aa (cp bD ah) ae) az)
  (af (aR (aq (aS hu) (pv 5) aC<|aA _) (af (aR (bG<|bq<|cu OF hr<|aa (fP (pv 4) rfl) ae) (ai<|ax<|aP<|aa aC<|aa (cp bD ah) ae) az)
   (ai<|ax<|aP<|aa (pv 5)<|aa (fP (pv 4) rfl) ae)) az)
  (af (aR (PW.pt<|dI (aq (aS hu) (pv 5) aC<|aA _)<|c6<|bG<|bq<|au gE rfl T.isinstance JT<|aa (pv 3)<|aa (bf<|aa (cH (v:=.ty "list") rfl T.list KZ rfl)<|aa (cH (v:=.ty "tuple") rfl T.tuple KO rfl) ae) ae) (ai<|ax<|aP<|aa aC<|aa (cp bD ah) ae) az)
  (ai<|ax<|aP<|aa (pv 5)<|aa (cp bD ah) ae)))))))),?_⟩
 obtain⟨rfl,he⟩|⟨rfl,he⟩|⟨rfl,rfl⟩:=hc
 ·refine⟨_,rfl,.inl ⟨rfl,_,rfl,aW ?_⟩⟩;refine⟨_,rfl,_,rfl,p,q,pp,la,t,hw,xs,ls,cs,ds,out,rfl,hp,ht,hq,hcs,by lia,hcok,hpp,hla,hds,h8,hg,Nv,he,λl Rg H1 k1 nl hl _ _=>?_⟩;refine⟨_,rfl,rfl,_,rfl,Hy rfl<|aQ ?_⟩;refine⟨_,rfl,.inl ⟨rfl,_,rfl,?_⟩⟩;rw[Jj (show¬V.str (I0 "told")=V.str (I0 "bad") by decide+kernel)];refine aQ ⟨_,rfl,.inl ⟨rfl,_,rfl,?_⟩⟩;rw[Jz (rfl:V.str (I0 "told")=V.str (I0 "told"))];refine aW ⟨_,rfl,(by show 2<=sizeLine;decide),λtp ntp=>?_⟩;have kt:=ag ntp<|.tup [.ty "list",.ty "tuple"];refine⟨_,tp,rfl,ad,.inl ⟨l,_,rfl,kt _ _ hl⟩,Je,rfl,aQ ?_⟩;refine⟨_,rfl,_,rfl,(by show 2<=sizeLine;decide),λl nl=>?_⟩;exact q' l _ (k1.trans<|kt.trans<|ag nl _) ad
 ·refine⟨_,rfl,.inl ⟨rfl,_,rfl,aQ ⟨_,rfl,.inl ⟨rfl,_,rfl,aW ?_⟩⟩⟩⟩;refine⟨_,rfl,_,rfl,p,q,pp,la,t,hw,xs,ls,cs,ds,out,rfl,hp,ht,hq,hcs,by lia,hcok,hpp,hla,hds,h8,hg,Nv,he,λr l ys nd H1 k1 nr nl ZD hl _ _ _=>?_⟩;refine⟨_,rfl,rfl,_,rfl,Hy rfl<|aQ ?_⟩;refine⟨_,rfl,.inl ⟨rfl,_,rfl,?_⟩⟩;rw[Jj (show¬V.str (I0 "told")=V.str (I0 "bad") by decide+kernel)];refine aQ ⟨_,rfl,.inl ⟨rfl,_,rfl,?_⟩⟩;rw[Jz (rfl:V.str (I0 "told")=V.str (I0 "told"))];refine aW ⟨_,rfl,(by show 2<=sizeLine;decide),λtp ntp=>?_⟩;have kt:=ag ntp<|.tup [.ty "list",.ty "tuple"];refine⟨_,tp,rfl,ad,.inr ⟨r,_,rfl,kt _ _ ZD⟩,Je,rfl,aQ ?_⟩;refine⟨_,rfl,_,rfl,(by show 2<=sizeLine;decide),λl nl=>?_⟩;exact q' l _ (k1.trans<|kt.trans<|ag nl _) ad
 ·refine⟨_,rfl,.inl ⟨rfl,_,rfl,aQ ⟨_,rfl,.inl ⟨rfl,_,rfl,aQ ?_⟩⟩⟩⟩;refine⟨_,rfl,_,rfl,p,q,pp,la,t,xs,ls,cs,ds,out,rfl,hp,ht,hq,hcs,h9,hcok,hpp,hla,hds,h8,(λd hd=>(gG<|hg d hd).1),Nv,λr c ys H1 k1 nr nc ZD hc' _=>?_⟩;refine⟨_,rfl,rfl,_,rfl,Hy rfl<|aQ ?_⟩;refine⟨_,rfl,.inl ⟨rfl,_,rfl,?_⟩⟩;rw[Jj (show¬V.str (I0 "told")=V.str (I0 "bad") by decide+kernel)];refine aQ ⟨_,rfl,.inl ⟨rfl,_,rfl,?_⟩⟩;rw[Jz (rfl:V.str (I0 "told")=V.str (I0 "told"))];refine aW ⟨_,rfl,(by show 2<=sizeLine;decide),λtp ntp=>?_⟩;have kt:=ag ntp<|.tup [.ty "list",.ty "tuple"];refine⟨_,tp,rfl,ad,.inr ⟨r,_,rfl,kt _ _ ZD⟩,Je,rfl,aQ ?_⟩;refine⟨_,rfl,_,rfl,(by show 2<=sizeLine;decide),λl nl=>?_⟩;exact q' l _ (k1.trans<|kt.trans<|ag nl _) ad
end
section
variable {K:IZ}
def Ci(F:Fun K "_law_refusal" "_law_refusal" sX f fd)(T:wC K mg CB CW CH fI)(N0:tN P w K mg base 8 "needed_lines" g1 e1 ["sentence","paper"] (ic CW))(MU:tN P w K mg base 8 "shortened_paper" g2 e2 ["sentence","paper"] (ic CW))(Ng:tN P w K mg base 7 "joined_clauses" g3 e3 ["sentence","paper"] (kQ CH))(OH:Fe P w K mg base 1 "_law_alone" (fQ CW))(OF:Fe P w K mg base 1 "_law_whole" oh):FnOk P w K mg base dh 9 f fd ["_law_word","_law_sentence_here","_law_paper_here"] An:=by
 have sc:=kd;refine F.ok kd (λvs H Q E h=>?_) λMG A outer s H vs Q E hr h=>?_
 ·obtain⟨Ry,p,q,pp,la,t,hw,xs,ls,cs,ds,out,h,_⟩:=h;rw[h.h0];rfl
 obtain⟨Ry,p,q,pp,la,t,hw,xs,ls,cs,ds,out,⟨rfl,hp,ht,hq,hcs,h9,hcok,hpp,hla,hds,h8⟩,hg,Nv,hc,he,q'⟩:=h;have hu:=hr.units;have en:∀ea,decide (V.ref ea=V.non)=false:=λea=>Jj λz=>by cases z
 refine⟨_,(af (ar (i:=3) sc.nd rfl (JD rfl) bR)
  (af (ar (i:=4) sc.nd rfl (JD rfl) bR)
  (af (ar (i:=5) sc.nd rfl (JD rfl) aC)
  (af (yA (i:=6) sc.nd rfl rfl rfl rfl rfl T.x_NotWhole (by decide+kernel) T.m_NotWhole rfl T.x_BadLine T.be_BadLine T.n2_BadLine T.m_BadLine rfl (oW (λ_ _ z=>z) (aq (aS hu) (pv 0) ah<|aA _) (il (i:=3) sc.nd rfl (JD rfl)<|jE N0 (λ_ _ z=>z) hr (by lia) rfl<|aa (pv 1)<|aa (pv 2) ae)<|oW (λ_ _ z=>z) (aq (aS hu) (pv 0) ah<|aA _) (il (i:=3) sc.nd rfl (JD rfl)<|jE MU (λ_ _ z=>z) hr (by lia) rfl<|aa (pv 1)<|aa (pv 2) ae)<|il (i:=3) sc.nd rfl (JD rfl)<|jE Ng (λ_ _ z=>z) hr (by lia) rfl<|aa (pv 1)<|aa (pv 2) ae) (λ_ _=>(af (ar (i:=5) sc.nd rfl (JD rfl) aC)
   (ai<|ar (i:=4) sc.nd rfl (JD rfl)<|pv 6))))
  (af (aR (PW.pt<|dI (aq iN (pv 4) bR<|aA _)<|c6<|bG<|bq<|cu OH hr<|aa (pv 4) ae) (ai<|ax<|aP<|aa aC<|aa (cp bD ah) ae) az)
  (af (aR (aq (aS hu) (pv 5) aC<|aA _) (af (aR (bG<|bq<|cu OF hr<|aa (fP (pv 4) rfl) ae) (ai<|ax<|aP<|aa aC<|aa (cp bD ah) ae) az)
   (ai<|ax<|aP<|aa (pv 5)<|aa (fP (pv 4) rfl) ae)) az)
  (af (aR (PW.pt<|dI (aq (aS hu) (pv 5) aC<|aA _)<|c6<|bG<|bq<|au gE rfl T.isinstance JT<|aa (pv 3)<|aa (bf<|aa (cH (v:=.ty "list") rfl T.list KZ rfl)<|aa (cH (v:=.ty "tuple") rfl T.tuple KO rfl) ae) ae) (ai<|ax<|aP<|aa aC<|aa (cp bD ah) ae) az)
  (ai<|ax<|aP<|aa (pv 5)<|aa (cp bD ah) ae)))))))),?_⟩
 obtain rfl|rfl:=hc
 ·refine⟨_,rfl,.inl ⟨rfl,_,rfl,aW ?_⟩⟩;refine⟨_,rfl,_,rfl,p,q,pp,la,t,hw,xs,ls,cs,ds,out,rfl,hp,ht,hq,hcs,by lia,hcok,hpp,hla,hds,by lia,(λd hd=>(gG<|hg d hd).1),Nv,he,λH1 k1=>⟨rfl,λea nea=>⟨_,rfl,?_⟩⟩⟩;have k2:=ag nea<|gz ea CW;have s2:upd H1 ea (gz ea CW) ea=B' (gz ea CW):=ad;generalize upd H1 ea (gz ea CW)=H2 at k2 s2 ⊢;exists _,rfl,rfl,_,rfl;rw[en];refine aW ⟨_,rfl,ea,rfl,.inl s2,λH3 k3=>⟨Je,rfl,aQ ?_⟩⟩;refine⟨_,rfl,.inl ⟨rfl,_,rfl,?_⟩⟩;rw[Jj (show¬V.str (I0 "not whole")=V.str (I0 "bad") by decide+kernel)];refine aQ ⟨_,rfl,.inl ⟨rfl,_,rfl,?_⟩⟩;rw[Jj (show¬V.str (I0 "not whole")=V.str (I0 "told") by decide+kernel)];refine aQ<|aQ ⟨_,rfl,_,rfl,(by show 2<=sizeLine;decide),λl nl=>?_⟩;exact q' l _ (k1.trans<|k2.trans<|k3.trans<|ag nl _) ad
 ·refine⟨_,rfl,.inl ⟨rfl,_,rfl,aQ ⟨_,rfl,.inl ⟨rfl,_,rfl,aW ?_⟩⟩⟩⟩;refine⟨_,rfl,_,rfl,p,q,pp,la,t,hw,xs,ls,cs,ds,out,rfl,hp,ht,hq,hcs,by lia,hcok,hpp,hla,hds,by lia,(λd hd=>(gG<|hg d hd).1),Nv,he,λH1 k1=>⟨rfl,λea nea=>⟨_,rfl,?_⟩⟩⟩;have k2:=ag nea<|gz ea CW;have s2:upd H1 ea (gz ea CW) ea=B' (gz ea CW):=ad;generalize upd H1 ea (gz ea CW)=H2 at k2 s2 ⊢;exists _,rfl,rfl,_,rfl;rw[en];refine aW ⟨_,rfl,ea,rfl,.inl s2,λH3 k3=>⟨Je,rfl,aQ ?_⟩⟩;refine⟨_,rfl,.inl ⟨rfl,_,rfl,?_⟩⟩;rw[Jj (show¬V.str (I0 "not whole")=V.str (I0 "bad") by decide+kernel)];refine aQ ⟨_,rfl,.inl ⟨rfl,_,rfl,?_⟩⟩;rw[Jj (show¬V.str (I0 "not whole")=V.str (I0 "told") by decide+kernel)];refine aQ<|aQ ⟨_,rfl,_,rfl,(by show 2<=sizeLine;decide),λl nl=>?_⟩;exact q' l _ (k1.trans<|k2.trans<|k3.trans<|ag nl _) ad
def Cj(F:Fun K "_law_refusal" "_law_refusal" sX f fd)(T:wC K mg CB CW CH fI)(N0:tN P w K mg base 8 "needed_lines" g1 e1 ["sentence","paper"] (ic CW))(MU:tN P w K mg base 8 "shortened_paper" g2 e2 ["sentence","paper"] (ic CW))(Ng:tN P w K mg base 7 "joined_clauses" g3 e3 ["sentence","paper"] (kQ CH))(OH:Fe P w K mg base 1 "_law_alone" (fQ CH))(OF:Fe P w K mg base 1 "_law_whole" oh):FnOk P w K mg base dh 9 f fd ["_law_word","_law_sentence_here","_law_paper_here"] Ao:=by
 have sc:=kd;refine F.ok kd (λvs H Q E h=>?_) λMG A outer s H vs Q E hr h=>?_
 ·obtain⟨p,q,pp,la,t,xs,ls,cs,ds,out,h,_⟩:=h;rw[h.h0];rfl
 obtain⟨p,q,pp,la,t,xs,ls,cs,ds,out,⟨rfl,hp,ht,hq,hcs,h9,hcok,hpp,hla,hds,h8⟩,hg,Nv,q'⟩:=h;have hu:=hr.units;have en:∀ea,decide (V.ref ea=V.non)=false:=λea=>Jj λz=>by cases z
 refine⟨_,(af (ar (i:=3) sc.nd rfl (JD rfl) bR)
  (af (ar (i:=4) sc.nd rfl (JD rfl) bR)
  (af (ar (i:=5) sc.nd rfl (JD rfl) aC)
  (af (yB (i:=6) sc.nd rfl rfl rfl rfl rfl T.x_NoHand (by decide+kernel) T.m_NoHand rfl T.x_BadLine T.be_BadLine T.n3_BadLine T.m_BadLine rfl T.x_NotWhole T.be_NotWhole T.n3_NotWhole T.m_NotWhole rfl (oW (λ_ _ z=>z) (aq (aS hu) (pv 0) ah<|aA _) (il (i:=3) sc.nd rfl (JD rfl)<|jE N0 (λ_ _ z=>z) hr (by lia) rfl<|aa (pv 1)<|aa (pv 2) ae)<|oW (λ_ _ z=>z) (aq (aS hu) (pv 0) ah<|aA _) (il (i:=3) sc.nd rfl (JD rfl)<|jE MU (λ_ _ z=>z) hr (by lia) rfl<|aa (pv 1)<|aa (pv 2) ae)<|il (i:=3) sc.nd rfl (JD rfl)<|jE Ng (λ_ _ z=>z) hr (by lia) rfl<|aa (pv 1)<|aa (pv 2) ae) (λ_ _=>(af (ar (i:=5) sc.nd rfl (JD rfl) aC)
   (ai<|ar (i:=4) sc.nd rfl (JD rfl)<|pv 6))))
  (af (aR (PW.pt<|dI (aq iN (pv 4) bR<|aA _)<|c6<|bG<|bq<|cu OH hr<|aa (pv 4) ae) (ai<|ax<|aP<|aa aC<|aa (cp bD ah) ae) az)
  (af (aR (aq (aS hu) (pv 5) aC<|aA _) (af (aR (bG<|bq<|cu OF hr<|aa (fP (pv 4) rfl) ae) (ai<|ax<|aP<|aa aC<|aa (cp bD ah) ae) az)
   (ai<|ax<|aP<|aa (pv 5)<|aa (fP (pv 4) rfl) ae)) az)
  (af (aR (PW.pt<|dI (aq (aS hu) (pv 5) aC<|aA _)<|c6<|bG<|bq<|au gE rfl T.isinstance JT<|aa (pv 3)<|aa (bf<|aa (cH (v:=.ty "list") rfl T.list KZ rfl)<|aa (cH (v:=.ty "tuple") rfl T.tuple KO rfl) ae) ae) (ai<|ax<|aP<|aa aC<|aa (cp bD ah) ae) az)
  (ai<|ax<|aP<|aa (pv 5)<|aa (cp bD ah) ae)))))))),?_⟩
 refine⟨_,rfl,.inl ⟨rfl,_,rfl,aQ ⟨_,rfl,.inl ⟨rfl,_,rfl,aQ ?_⟩⟩⟩⟩;refine⟨_,rfl,_,rfl,p,q,pp,la,t,xs,ls,cs,ds,out,rfl,hp,ht,hq,hcs,by lia,hcok,hpp,hla,hds,by lia,(λd hd=>(gG<|hg d hd).1),Nv,λH1 k1=>⟨rfl,λea nea=>⟨_,rfl,?_⟩⟩⟩;have k2:=ag nea<|gz ea CH;have s2:upd H1 ea (gz ea CH) ea=B' (gz ea CH):=ad;generalize upd H1 ea (gz ea CH)=H2 at k2 s2 ⊢;exists _,rfl,rfl,_,rfl;rw[en];refine aW ⟨_,rfl,ea,rfl,.inl s2,λH3 k3=>⟨Je,rfl,aQ ?_⟩⟩;refine⟨_,rfl,.inl ⟨rfl,_,rfl,?_⟩⟩;rw[Jj (show¬V.str (I0 "hand")=V.str (I0 "bad") by decide+kernel)];refine aQ ⟨_,rfl,.inl ⟨rfl,_,rfl,?_⟩⟩;rw[Jj (show¬V.str (I0 "hand")=V.str (I0 "told") by decide+kernel)];refine aQ<|aQ ⟨_,rfl,_,rfl,(by show 2<=sizeLine;decide),λl nl=>?_⟩;exact q' l _ (k1.trans<|k2.trans<|k3.trans<|ag nl _) ad
end
section
variable {K:IZ}
def Ck(F:Fun K "_law_refusal" "_law_refusal" sX f fd)(T:wC K mg CB CW CH fI)(N0:wg P w K mg base 8 "needed_lines" g1 e1 ["sentence","paper"] (cR CB))(MU:wg P w K mg base 8 "shortened_paper" g2 e2 ["sentence","paper"] (cR CB))(Ng:wg P w K mg base 7 "joined_clauses" g3 e3 ["sentence","paper"] (cR CB))(OH:Fe P w K mg base 1 "_law_alone" (fQ CB))(OF:Fe P w K mg base 1 "_law_whole" oh):FnOk P w K mg base dh 9 f fd ["_law_word","_law_sentence_here","_law_paper_here"] Ap:=by
 have sc:=kd;refine F.ok kd (λvs H Q E h=>?_) λMG A outer s H vs Q E hr h=>?_
 ·obtain⟨Ry,p,q,pp,la,t,hw,xs,ls,cs,ds,out,h,_⟩:=h;rw[h.h0];rfl
 obtain⟨Ry,p,q,pp,la,t,hw,xs,ls,cs,ds,out,⟨rfl,hp,ht,hq,hcs,h9,hcok,hpp,hla,hds,h8⟩,hs,Nv,hc,q'⟩:=h;have hu:=hr.units;have en:∀ea,decide (V.ref ea=V.non)=false:=λea=>Jj λz=>by cases z
 refine⟨_,(af (ar (i:=3) sc.nd rfl (JD rfl) bR)
  (af (ar (i:=4) sc.nd rfl (JD rfl) bR)
  (af (ar (i:=5) sc.nd rfl (JD rfl) aC)
  (af (yC (i:=6) sc.nd rfl rfl rfl rfl rfl T.x_BadLine T.be_BadLine T.lt_BadLine T.m_BadLine rfl (uj (λ_ _ z=>z) (aq (aS hu) (pv 0) ah<|aA _) (lS (i:=3) sc.nd rfl (JD rfl)<|pi N0 (λ_ _ z=>z) hr (by lia) rfl<|aa (pv 1)<|aa (pv 2) ae)<|uj (λ_ _ z=>z) (aq (aS hu) (pv 0) ah<|aA _) (lS (i:=3) sc.nd rfl (JD rfl)<|pi MU (λ_ _ z=>z) hr (by lia) rfl<|aa (pv 1)<|aa (pv 2) ae)<|lS (i:=3) sc.nd rfl (JD rfl)<|pi Ng (λ_ _ z=>z) hr (by lia) rfl<|aa (pv 1)<|aa (pv 2) ae) (λ_ _=>(af (ar (i:=5) sc.nd rfl (JD rfl) aC)
   (ai<|ar (i:=4) sc.nd rfl (JD rfl)<|pv 6))))
  (af (aR (PW.pt<|dI (aq iN (pv 4) bR<|aA _)<|c6<|bG<|bq<|cu OH hr<|aa (pv 4) ae) (ai<|ax<|aP<|aa aC<|aa (cp bD ah) ae) az)
  (af (aR (aq (aS hu) (pv 5) aC<|aA _) (af (aR (bG<|bq<|cu OF hr<|aa (fP (pv 4) rfl) ae) (ai<|ax<|aP<|aa aC<|aa (cp bD ah) ae) az)
   (ai<|ax<|aP<|aa (pv 5)<|aa (fP (pv 4) rfl) ae)) az)
  (af (aR (PW.pt<|dI (aq (aS hu) (pv 5) aC<|aA _)<|c6<|bG<|bq<|au gE rfl T.isinstance JT<|aa (pv 3)<|aa (bf<|aa (cH (v:=.ty "list") rfl T.list KZ rfl)<|aa (cH (v:=.ty "tuple") rfl T.tuple KO rfl) ae) ae) (ai<|ax<|aP<|aa aC<|aa (cp bD ah) ae) az)
  (ai<|ax<|aP<|aa (pv 5)<|aa (cp bD ah) ae)))))))),?_⟩
 obtain rfl|rfl|rfl:=hc
 ·refine⟨_,rfl,.inl ⟨rfl,_,rfl,aW ?_⟩⟩;refine⟨_,rfl,_,rfl,p,q,pp,la,t,hw,xs,ls,cs,ds,out,rfl,hp,ht,hq,hcs,by lia,hcok,hpp,hla,hds,by lia,hs,Nv,λdx H1 k1 hdx=>⟨rfl,dx,rfl,λea nea=>⟨_,rfl,?_⟩⟩⟩;have k2:=ag nea<|dR ea CB dx;have s2:upd H1 ea (dR ea CB dx) ea=B' (dR ea CB dx):=ad;generalize upd H1 ea (dR ea CB dx)=H2 at k2 s2 ⊢;exists _,rfl,rfl,_,rfl;rw[en];refine aW ⟨_,rfl,ea,rfl,.inr ⟨_,s2⟩,λH3 k3=>⟨Je,rfl,aQ ?_⟩⟩;have s3:=k3 _ _ s2;have d3:=k3 _ _<|k2 _ _ hdx;refine⟨_,rfl,.inl ⟨rfl,_,rfl,?_⟩⟩;rw[Jz (rfl:V.str (I0 "bad")=V.str (I0 "bad"))];refine aW ⟨_,rfl,ea,CB,dx,_,(out.length:Int),rfl,s3,d3,T.get,rfl,(out.length:Int),rfl,Je,rfl,aQ ?_⟩;refine⟨_,rfl,_,rfl,ea,CB,dx,_,(out.length:Int),rfl,s3,d3,T.get,rfl,(by show 2<=sizeLine;decide),λl nl=>?_⟩;exact q' l _ (k1.trans<|k2.trans<|k3.trans<|ag nl _) ad
 ·refine⟨_,rfl,.inl ⟨rfl,_,rfl,aQ ⟨_,rfl,.inl ⟨rfl,_,rfl,aW ?_⟩⟩⟩⟩;refine⟨_,rfl,_,rfl,p,q,pp,la,t,hw,xs,ls,cs,ds,out,rfl,hp,ht,hq,hcs,by lia,hcok,hpp,hla,hds,by lia,hs,Nv,λdx H1 k1 hdx=>⟨rfl,dx,rfl,λea nea=>⟨_,rfl,?_⟩⟩⟩;have k2:=ag nea<|dR ea CB dx;have s2:upd H1 ea (dR ea CB dx) ea=B' (dR ea CB dx):=ad;generalize upd H1 ea (dR ea CB dx)=H2 at k2 s2 ⊢;exists _,rfl,rfl,_,rfl;rw[en];refine aW ⟨_,rfl,ea,rfl,.inr ⟨_,s2⟩,λH3 k3=>⟨Je,rfl,aQ ?_⟩⟩;have s3:=k3 _ _ s2;have d3:=k3 _ _<|k2 _ _ hdx;refine⟨_,rfl,.inl ⟨rfl,_,rfl,?_⟩⟩;rw[Jz (rfl:V.str (I0 "bad")=V.str (I0 "bad"))];refine aW ⟨_,rfl,ea,CB,dx,_,(out.length:Int),rfl,s3,d3,T.get,rfl,(out.length:Int),rfl,Je,rfl,aQ ?_⟩;refine⟨_,rfl,_,rfl,ea,CB,dx,_,(out.length:Int),rfl,s3,d3,T.get,rfl,(by show 2<=sizeLine;decide),λl nl=>?_⟩;exact q' l _ (k1.trans<|k2.trans<|k3.trans<|ag nl _) ad
 ·refine⟨_,rfl,.inl ⟨rfl,_,rfl,aQ ⟨_,rfl,.inl ⟨rfl,_,rfl,aQ ?_⟩⟩⟩⟩;refine⟨_,rfl,_,rfl,p,q,pp,la,t,hw,xs,ls,cs,ds,out,rfl,hp,ht,hq,hcs,by lia,hcok,hpp,hla,hds,by lia,hs,Nv,λdx H1 k1 hdx=>⟨rfl,dx,rfl,λea nea=>⟨_,rfl,?_⟩⟩⟩;have k2:=ag nea<|dR ea CB dx;have s2:upd H1 ea (dR ea CB dx) ea=B' (dR ea CB dx):=ad;generalize upd H1 ea (dR ea CB dx)=H2 at k2 s2 ⊢;exists _,rfl,rfl,_,rfl;rw[en];refine aW ⟨_,rfl,ea,rfl,.inr ⟨_,s2⟩,λH3 k3=>⟨Je,rfl,aQ ?_⟩⟩;have s3:=k3 _ _ s2;have d3:=k3 _ _<|k2 _ _ hdx;refine⟨_,rfl,.inl ⟨rfl,_,rfl,?_⟩⟩;rw[Jz (rfl:V.str (I0 "bad")=V.str (I0 "bad"))];refine aW ⟨_,rfl,ea,CB,dx,_,(out.length:Int),rfl,s3,d3,T.get,rfl,(out.length:Int),rfl,Je,rfl,aQ ?_⟩;refine⟨_,rfl,_,rfl,ea,CB,dx,_,(out.length:Int),rfl,s3,d3,T.get,rfl,(by show 2<=sizeLine;decide),λl nl=>?_⟩;exact q' l _ (k1.trans<|k2.trans<|k3.trans<|ag nl _) ad
end
abbrev Fg:Lh:=top 64
structure Hr (mg:Str->Jd IX):Prop where
 len:mg "len"=Ji
 list:mg "list"=Ji
def sY(n m k:Nat):IW Jw:=[.tuple [.str aF,.int (n:Int)],.tuple [.str aF,.int (-1)],.tuple [.str aT,.int (m:Int)],.tuple [.str aT,.int (-1)],.tuple [.str br,.tuple [.int 0]],.tuple [.str aF],
 .none,.str aF,.tuple [.str aY,.int (n:Int),.int (n:Int),.int 1],.tuple [.str aF,.int (k:Int)],.tuple [],.tuple [.str aF,.bool Je],.list [.str aF,.int 0]]
def fR(h:¬v=u):bM u n (.tuple<|.str v::r)=false:=by
 show(decide ((PyData.str v::r).length=n)&&decide (v=u))=Jg
 rw[Jj h,Kp]
def Aq(h:¬r.length=n):bM u n (.tuple r)=false:=by
 show(decide (r.length=n)&&_)=Jg
 rw[Jj h,OU]
def mn{many:Nat}{z:Int}(h:¬(0<=z/\z < (many:Int))):bj many (.int z)=none:=JK h
def pI(h:¬(0<=z/\z < (sets.length:Int))):aO t cs hw sets (.tuple [.str aF,.int z])=none:=by
 unfold aO;rw[fR (show¬aF=aT by decide+kernel),fR (show¬aF=br by decide+kernel),fR (show¬aF=aY by decide+kernel),Kp,Kp];have f4:bM aF 2 (.tuple [.str aF,.int z])=true:=by
  show(decide (2=2)&&decide (aF=aF))=Je
  simp
 rw[f4];show hV t hw sets (.int z)=Ji
 unfold hV;rw[mn h];rfl
def q_(h:¬(0<=z/\z < (cs.length:Int))):aO t cs hw sets (.tuple [.str aT,.int z])=none:=by
 unfold aO;rw[fR (show¬aT=br by decide+kernel),fR (show¬aT=aY by decide+kernel),fR (show¬aT=aF by decide+kernel),Kp]
 split
 ·show lN cs (.int z)=Ji
  unfold lN;rw[mn h];rfl
 ·rfl
def Cl(hk:sets.length < k):∀d∈sY sets.length cs.length k,aO t cs hw sets d=Ji/\eT d/\Nice 3 d:=by
 intro d hd;have hs:∀{w:Str} {r:IW Jw},KI (.str w)=Je->eT (.tuple<|.str w::r):=λh xs e=>by cases e;exact h
 simp only [sY,J2,Qh,or_false]at hd;obtain rfl|rfl|rfl|rfl|rfl|rfl|rfl|rfl|rfl|rfl|rfl|rfl|rfl:=hd
 ·exact⟨pI (by lia),hs sN,bK (n:=2)<|aL (bx 2<|by decide+kernel)<|aL (bT _ _) bL⟩
 ·exact⟨pI (by lia),hs sN,bK (n:=2)<|aL (bx 2<|by decide+kernel)<|aL (bT _ _) bL⟩
 ·exact⟨q_ (by lia),hs BO,bK (n:=2)<|aL (bx 2<|by decide+kernel)<|aL (bT _ _) bL⟩
 ·exact⟨q_ (by lia),hs BO,bK (n:=2)<|aL (bx 2<|by decide+kernel)<|aL (bT _ _) bL⟩
 ·refine⟨?_,hs EM,bK (n:=2)<|aL (bx 2<|by decide+kernel)<|aL (Nice.mono (bK (n:=1)<|aL (bT _ _) bL)<|by decide) bL⟩;unfold aO;rw[fR (show¬br=aT by decide+kernel),fR (show¬br=aY by decide+kernel),fR (show¬br=aF by decide+kernel),Kp]
  split
  ·rename_i h;cases h
  split
  ·show jc t.length cs (.tuple [.int 0])=Ji
   unfold jc;have e:mB (t.length:Int) (.tuple [.int 0])=false:=by
    show iH (t.length:Int) 0 [.int 0]=Jg
    have a0:absI 0=0:=rfl;simp [iH,a0]
   rw[e,OU];rfl
  ·rfl
 ·refine⟨?_,hs sN,bK (n:=2)<|aL (bx 2<|by decide+kernel) bL⟩;unfold aO;have g2:∀u,bM u 2 (.tuple [.str aF])=false:=λu=>Aq (by show¬1=2;decide);have g4:bM aY 4 (.tuple [.str aF])=false:=Aq (by show¬1=4;decide);rw[g2,g2,g4,g2,Kp,Kp];rfl
 ·refine⟨?_,(λds e=>by cases e),vE 3⟩;unfold aO;cases hw<;>rfl
 ·refine⟨?_,(λds e=>by cases e),bx 3<|by decide+kernel⟩;unfold aO;cases hw<;>rfl
 ·refine⟨?_,hs EL,bK (n:=2)<|aL (bx 2<|by decide+kernel)<|aL (bT _ _)<|aL (bT _ _)<|aL (bT _ _) bL⟩;unfold aO;have f3:bM aY 4 (.tuple [.str aY,.int (sets.length:Int),.int (sets.length:Int),.int 1])=true:=by
   show(decide (4=4)&&decide (aY=aY))=Je
   simp
  rw[fR (show¬aY=aT by decide+kernel),fR (show¬aY=br by decide+kernel),f3,Kp,Kp];show dG t hw sets (.int (sets.length:Int)) (.int (sets.length:Int)) (.int 1)=Ji
  unfold dG;rw[mn (show¬(0<=(sets.length:Int)/\(sets.length:Int) < (sets.length:Int)) by lia)]
 ·exact⟨pI (by lia),hs sN,bK (n:=2)<|aL (bx 2<|by decide+kernel)<|aL (bT _ _) bL⟩
 ·refine⟨?_,(λds e=>by cases e;decide+kernel),bK (n:=2) bL⟩;unfold aO;cases hw<;>rfl
 ·refine⟨?_,hs sN,bK (n:=2)<|aL (bx 2<|by decide+kernel)<|aL (vF _ _) bL⟩;unfold aO;have f4:bM aF 2 (.tuple [.str aF,.bool Je])=true:=by
   show(decide (2=2)&&decide (aF=aF))=Je
   simp
  rw[fR (show¬aF=aT by decide+kernel),fR (show¬aF=br by decide+kernel),fR (show¬aF=aY by decide+kernel),f4,Kp,Kp];rfl
 ·refine⟨?_,(λds e=>by cases e),im (n:=2)<|aL (bx 2<|by decide+kernel)<|aL (bT _ _) bL⟩;unfold aO;cases hw<;>rfl
inductive oo (t:Str)(cs:IW (IW Int))(hw:JJ)(ds:IW Jw)(out:IW (IW Int))(U0:IW Jw)(n:Int):Prop
 |bad (m:Nat) (d:Jw) (hm:m < ds.length) (e:U0=ds.set m d) (hb:aO t cs hw (out.take m) d=Ji) (hs:eT d) (hn:Nice 3 d) (en:n=(m:Int)):oo t cs hw ds out U0 n
 |cut (k:Nat) (hk:k<=out.idxOf []) (e:U0=ds.take k) (en:n=-1):oo t cs hw ds out U0 n
 |same (e:U0=ds) (en:n=-2):oo t cs hw ds out U0 n
inductive Hs (K:IZ)(vs:IW V)(H:Hp)(Q:VK):Prop
 |mk (a p qa rl la sa:I_)(ns:IW Int)(t:Str)(cs:IW (IW Int))(hw:JJ)(zs ls ss:IW V)(ds:IW Jw)(out:IW (IW Int))(h0:vs=[.ref a,.ref p,.ref rl])(hS:SqL K H a (ns.map V.int))(hp:H p=B' (.tup [.str t,.ref qa]))(hq:H qa=B' (.lst zs))(hcs:CLs H cs zs)(hP:Cc t cs H rl la sa hw ls ss ds out)(hl:ds.length<=140)(hc:cs.length<=100)
   (q:∀r l n ls' U0 H',Same H H'->H' r=B' (.lst [.str<|aK hw,.ref l,.int n])->H' l=B' (.lst ls')->dJ H' U0 ls'->oo t cs hw ds out U0 n->Q (.ref r) H'):Hs K vs H Q
def DB(K:IZ):Sp:=λvs H Q _=>Hs K vs H Q
theorem uY(h:RD H d v):∀{ds:IW Jw} {xs:IW V} (m:Nat),dJ H ds xs->dJ H (ds.set m d) (xs.set m v)
 |[],xs,m,r=>by
  have:=cB r;rw[ME.mp this];exact aJ
 |e::ds,xs,0,r=>by
  obtain⟨y,ys,rfl,_,t⟩:=aN r;exact am h t
 |e::ds,xs,m+1,r=>by
  obtain⟨y,ys,rfl,r0,t⟩:=aN r;exact am r0<|uY h m t
def Cm{k:Nat}{c1 c2 c3 c4 c5:I_}(s1:G a1=B' (.tup [.str aF,.int (n:Int)]))(s2:G a2=B' (.tup [.str aF,.int (-1)]))(s3:G a3=B' (.tup [.str aT,.int (m:Int)]))(s4:G a4=B' (.tup [.str aT,.int (-1)]))(s5:G a5=B' (.tup [.int 0]))(s6:G a6=B' (.tup [.str br,.ref a5]))(s7:G a7=B' (.tup [.str aF]))
  (u1:G c1=B' (.tup [.str aY,.int (n:Int),.int (n:Int),.int 1])) (u2:G c2=B' (.tup [.str aF,.int (k:Int)])) (u3:G c3=B' (.tup [])) (u4:G c4=B' (.tup [.str aF,.bl Je])) (u5:G c5=B' (.lst [.str aF,.int 0])):
  dJ G (sY n m k) [.ref a1,.ref a2,.ref a3,.ref a4,.ref a6,.ref a7,.non,.str aF,.ref c1,.ref c2,.ref c3,.ref c4,.ref c5]:=
 am (bo s1<|am (bS _)<|am (bP _) aJ) (am (bo s2<|am (bS _)<|am (bP _) aJ) (am (bo s3<|am (bS _)<|am (bP _) aJ) (am (bo s4<|am (bS _)<|am (bP _) aJ)
  (am (bo s6<|am (bS _)<|am (bo s5<|am (bP _) aJ) aJ) (am (bo s7<|am (bS _) aJ) (am AQ (am (bS _) (am (bo u1<|am (bS _)<|am (bP _)<|am (bP _)<|am (bP _) aJ)
   (am (bo u2<|am (bS _)<|am (bP _) aJ)<|am (bo u3 aJ)<|am (bo u4<|am (bS _)<|am (AR _) aJ)<|am (bI u5<|am (bS _)<|am (bP _) aJ) aJ)))))))))
def Fh(h:m < n):Ax n (m:Int)=B' m:=by
 rw[En (by lia) (by lia),MQ]
section
variable {K:IZ}
def DC:aH ["_law_script","_law_sentence_here","_law_paper_here","_law_hand","_law_lines","_law_sets","_law_number","_law_at","_law_bad"] ["_law_script","_law_sentence_here","_law_paper_here"] (ap Fg):=fb
def Fi(F:Fun K "_law_bent" "_law_bent" Fg f fd)(T:Hr mg)(M':Fe P w K mg base 1 "_law_mixed" iy)(Nq:Fe P w K mg base 1 "_law_cell_at" (lW K)):FnOk P w K mg base dh 2 f fd ["_law_script","_law_sentence_here","_law_paper_here"] (DB K):=by
 have sc:=DC;refine F.okA DC λMG A outer s H vs Q E hr h=>?_;obtain⟨a,p,qa,rl,la,sa,ns,t,cs,hw,zs,ls,ss,ds,out,rfl,hS,hp,hq,hcs,hP,hl,hc,q⟩:=h;have hu:=hr.units;refine⟨_,(af (iD (pv 2)<|oK rfl<|bd (aB (i:=3) sc.nd rfl<|JD rfl)<|bd (aB (i:=4) sc.nd rfl<|JD rfl)<|bd (aB (i:=5) sc.nd rfl<|JD rfl) eE)
  (af (ar (i:=4) sc.nd rfl (JD rfl)<|bN cL rfl T.list KZ<|aa (pv 4) ae)
  (af (ar (i:=6) sc.nd rfl (JD rfl)<|cu M' hr<|aa (cu Nq hr<|aa (pv 0)<|aa ah ae)<|aa ah ae)
  (af (aR (aq mH (aI bC (pv 6) ah) ah<|aA _) (af (ar (i:=7) sc.nd rfl (JD rfl)<|aI bC (aI c7 (pv 6) ah)<|au bh rfl T.len Kt<|aa (pv 4) ae)
   (af (aR (aq (aS hu) (aI bC (aI c7 (pv 6) ah) ah) ah<|aA _) (ai<|ar (i:=7) sc.nd rfl (JD rfl)<|aI fj (au bh rfl T.len Kt<|aa (pv 4) ae) ah) az)
   (af (ar (i:=8) sc.nd rfl (JD rfl)<|PEi.out<|PEi.lst<|PAi.cons (PEi.tup<|PAi.cons (PEi.mk aC) (PAi.cons (PEi.mk<|pv 7) PAi.nil λ_ _ z=>nomatch z) λ_ _ z=>nomatch z) (PAi.cons (PEi.tup<|PAi.cons (PEi.mk aC) (PAi.cons (PEi.mk<|cp bD ah) PAi.nil λ_ _ z=>nomatch z) λ_ _ z=>nomatch z) (PAi.cons (PEi.tup<|PAi.cons (PEi.mk aC) (PAi.cons (PEi.mk<|au bh rfl T.len Kt<|aa (aG ay (pv 1) ah λ_ _=>rfl) ae) PAi.nil λ_ _ z=>nomatch z) λ_ _ z=>nomatch z) (PAi.cons (PEi.tup<|PAi.cons (PEi.mk aC) (PAi.cons (PEi.mk<|cp bD ah) PAi.nil λ_ _ z=>nomatch z) λ_ _ z=>nomatch z) (PAi.cons (PEi.tup<|PAi.cons (PEi.mk aC) (PAi.cons (PEi.tup<|PAi.cons (PEi.mk ah) PAi.nil λ_ _ z=>nomatch z) PAi.nil λ_ _ z=>nomatch z) λ_ _ z=>nomatch z) (PAi.cons (PEi.tup<|PAi.cons (PEi.mk aC) PAi.nil λ_ _ z=>nomatch z) PAi.nil λ_ _ z=>nomatch z) λ_ _ z=>nomatch z) λ_ _ z=>nomatch z) λ_ _ z=>nomatch z) λ_ _ z=>nomatch z) λ_ _ z=>nomatch z)
   (af (ar (i:=8) sc.nd rfl (JD rfl)<|Er jz (pv 8)<|PEi.lst<|PAi.cons (PEi.mk bR) (PAi.cons (PEi.mk aC) (PAi.cons (PEi.tup<|PAi.cons (PEi.mk aC) (PAi.cons (PEi.mk<|pv 7) (PAi.cons (PEi.mk<|pv 7) (PAi.cons (PEi.mk ah) PAi.nil λ_ _ z=>nomatch z) λ_ _ z=>nomatch z) λ_ _ z=>nomatch z) λ_ _ z=>nomatch z) (PAi.cons (PEi.tup<|PAi.cons (PEi.mk aC) (PAi.cons (PEi.mk<|au bh rfl T.len Kt<|aa (pv 4) ae) PAi.nil λ_ _ z=>nomatch z) λ_ _ z=>nomatch z) (PAi.cons (PEi.tup PAi.nil) (PAi.cons (PEi.tup<|PAi.cons (PEi.mk aC) (PAi.cons (PEi.mk fi) PAi.nil λ_ _ z=>nomatch z) λ_ _ z=>nomatch z) (PAi.cons (PEi.lst<|PAi.cons (PEi.mk aC) (PAi.cons (PEi.mk ah) PAi.nil λ_ _ z=>nomatch z) λ_ _ z=>nomatch z) PAi.nil λ_ _ z=>nomatch z) λ_ _ z=>nomatch z) λ_ _ z=>nomatch z) λ_ _ z=>nomatch z) λ_ _ z=>nomatch z) λ_ _ z=>nomatch z) λ_ _ z=>nomatch z)
   (af (iD (aG ay (pv 8) (aI bC (aI c7 (pv 6) ah) ah) λ_ _=>rfl)<|DM (pv 4) (pv 7) wS)
   (ai<|ax<|aP<|aa (pv 3)<|aa (pv 4)<|aa (pv 7) ae)))))) az)
  (af (aR (aq mH (aI bC (pv 6) ah) ah<|aA _) (ai<|ax<|aP<|aa (pv 3)<|aa (gQ iP (pv 4) kl<|eZ<|aI bC (aI c7 (pv 6) ah)<|aI cJ (eN Kg P9 R6 (nM hu) (pv 5)<|aa (bf ae) ae) ah)<|aa (cp bD ah) ae) az)
  (ai<|ax<|aP<|aa (pv 3)<|aa (pv 4)<|aa (cp bD ah) ae)))))),?_⟩
 exists _,rfl,rl,_,rfl,SqL.of hP.r,rfl,_,_,rfl,_,_,rfl,_,_,rfl,rfl;refine⟨_,rfl,la,ls,rfl,.inl<|SqL.of hP.l,λl nl=>?_⟩;have k1:=ag nl<|.lst ls;have s1:upd H l (.lst ls) l=B' (.lst ls):=ad;generalize upd H l (.lst ls)=H1 at k1 s1 ⊢;refine⟨_,rfl,a,ns,2,rfl,k1.seq hS,by decide,λc1=>⟨c1,960,rfl,λnu hn0 hn1=>?_⟩⟩;obtain⟨e0,e1⟩:=jw hP.fin;have hol:out.length=ds.length:=by
  have:=cb hP.run;simpa using this
 have hll:=cB hP.rd;have hzl:=hcs.length;refine⟨_,rfl,_,_,rfl,rfl,(by decide),_,_,rfl,rfl,_,rfl,fU (λ_=>?_) λ_=>?_⟩
 ·exists _,rfl,_,_,rfl,rfl,⟨by decide,by decide⟩,_,rfl,.ref l,_,rfl,.inl ⟨_,SqL.of s1,rfl⟩,_,_,rfl,rfl,(by lia);obtain⟨m0,hm0,agU⟩:∃m:Nat,nu / 8 % (ls.length:Int)=(m:Int)/\m < ls.length:=by
   have b1:=KY (nu / 8) (show(ls.length:Int)≠0 by lia);have b2:=KE (nu / 8) (show 0 < (ls.length:Int) by lia);exact⟨(nu / 8 % (ls.length:Int)).toNat,by lia,by lia⟩
  rw[hm0];refine mj ?_;dsimp only;refine gF λN hN=>?_;have Me:∀m:Nat,m < ls.length->N [B'<|.ref a,B'<|.ref p,B'<|.ref rl,B'<|.str<|aK hw,B'<|.ref l,B'<|.ref sa,B'<|.int nu,B'<|.int (m:Int),Ji] H1:=by
   intro m hm;refine hN _ _ ?_;have hp1:=k1 _ _ hp;have ZU:=k1 _ _ hq;have K0:Same H1 H1:=Same.refl H1;refine⟨_,rfl,(by show 2<=sizeLine;decide),λa1 na1=>?_⟩;have ka1:=ag na1<|.tup [.str<|I0 "drop",.int (m:Int)];have UW:upd H1 a1 (.tup [.str<|I0 "drop",.int (m:Int)]) a1=B' (.tup [.str aF,.int (m:Int)]):=ad;have xa1:=aj s1 na1;generalize upd H1 a1 (.tup [.str<|I0 "drop",.int (m:Int)])=G1 at ka1 UW ⊢;have K1:=K0.trans ka1;have L1:=ka1 _ _ s1;refine⟨_,rfl,(by show 2<=sizeLine;decide),λa2 na2=>?_⟩;have ka2:=ag na2<|.tup [.str<|I0 "drop",.int (-1)];have VC:upd G1 a2 (.tup [.str<|I0 "drop",.int (-1)]) a2=B' (.tup [.str aF,.int (-1)]):=ad;have xa2:=aj L1 na2;generalize upd G1 a2 (.tup [.str<|I0 "drop",.int (-1)])=G2 at ka2 VC ⊢;have K2:=K1.trans ka2;have L2:=ka2 _ _ L1;replace UW:=ka2 _ _ UW;refine⟨_,rfl,.inr<|.inl ⟨p,_,1,.ref qa,rfl,rfl,SqT.of<|K2 _ _ hp1,rfl,.ref qa,_,rfl,.inl ⟨_,SqL.of<|K2 _ _ ZU,rfl⟩,(by show 2<=sizeLine;decide),λa3 na3=>?_⟩⟩;have ka3:=ag na3<|.tup [.str<|I0 "given",.int (zs.length:Int)];have V_:upd G2 a3 (.tup [.str<|I0 "given",.int (zs.length:Int)]) a3=B' (.tup [.str aT,.int (zs.length:Int)]):=ad;have xa3:=aj L2 na3;generalize upd G2 a3 (.tup [.str<|I0 "given",.int (zs.length:Int)])=G3 at ka3 V_ ⊢;have K3:=K2.trans ka3;have L3:=ka3 _ _ L2;replace UW:=ka3 _ _ UW;replace VC:=ka3 _ _ VC;refine⟨_,rfl,(by show 2<=sizeLine;decide),λa4 na4=>?_⟩;have ka4:=ag na4<|.tup [.str<|I0 "given",.int (-1)];have WI:upd G3 a4 (.tup [.str<|I0 "given",.int (-1)]) a4=B' (.tup [.str aT,.int (-1)]):=ad;have xa4:=aj L3 na4;generalize upd G3 a4 (.tup [.str<|I0 "given",.int (-1)])=G4 at ka4 WI ⊢;have K4:=K3.trans ka4;have L4:=ka4 _ _ L3;replace UW:=ka4 _ _ UW;replace VC:=ka4 _ _ VC;replace V_:=ka4 _ _ V_;refine⟨(by show 1<=sizeLine;decide),λa5 na5=>?_⟩;have ka5:=ag na5<|.tup [.int 0];have Xs:upd G4 a5 (.tup [.int 0]) a5=B' (.tup [.int 0]):=ad;have xa5:=aj L4 na5;generalize upd G4 a5 (.tup [.int 0])=G5 at ka5 Xs ⊢;have K5:=K4.trans ka5;have L5:=ka5 _ _ L4;replace UW:=ka5 _ _ UW;replace VC:=ka5 _ _ VC;replace V_:=ka5 _ _ V_;replace WI:=ka5 _ _ WI;refine⟨(by show 2<=sizeLine;decide),λa6 na6=>?_⟩;have ka6:=ag na6<|.tup [.str<|I0 "hits",.ref a5];have Yk:upd G5 a6 (.tup [.str<|I0 "hits",.ref a5]) a6=B' (.tup [.str br,.ref a5]):=ad;have xa6:=aj L5 na6;generalize upd G5 a6 (.tup [.str<|I0 "hits",.ref a5])=G6 at ka6 Yk ⊢;have K6:=K5.trans ka6;have L6:=ka6 _ _ L5;replace UW:=ka6 _ _ UW;replace VC:=ka6 _ _ VC;replace V_:=ka6 _ _ V_;replace WI:=ka6 _ _ WI;replace Xs:=ka6 _ _ Xs;refine⟨(by show 1<=sizeLine;decide),λa7 na7=>?_⟩;have ka7:=ag na7<|.tup [.str<|I0 "drop"];have Y2:upd G6 a7 (.tup [.str<|I0 "drop"]) a7=B' (.tup [.str aF]):=ad;have xa7:=aj L6 na7;generalize upd G6 a7 (.tup [.str<|I0 "drop"])=G7 at ka7 Y2 ⊢;have K7:=K6.trans ka7;have L7:=ka7 _ _ L6;replace UW:=ka7 _ _ UW;replace VC:=ka7 _ _ VC;replace V_:=ka7 _ _ V_;replace WI:=ka7 _ _ WI;replace Xs:=ka7 _ _ Xs;replace Yk:=ka7 _ _ Yk;refine⟨(by show 6<=sizeLine;decide),λb1 nb1=>?_⟩;have kb1:=ag nb1<|.lst [.ref a1,.ref a2,.ref a3,.ref a4,.ref a6,.ref a7];have sb1:upd G7 b1 (.lst [.ref a1,.ref a2,.ref a3,.ref a4,.ref a6,.ref a7]) b1=B' (.lst [.ref a1,.ref a2,.ref a3,.ref a4,.ref a6,.ref a7]):=ad;have xb1:=aj L7 nb1;generalize upd G7 b1 (.lst [.ref a1,.ref a2,.ref a3,.ref a4,.ref a6,.ref a7])=G8 at kb1 sb1 ⊢;have K8:=K7.trans kb1;have L8:=kb1 _ _ L7;replace UW:=kb1 _ _ UW;replace VC:=kb1 _ _ VC;replace V_:=kb1 _ _ V_;replace WI:=kb1 _ _ WI;replace Xs:=kb1 _ _ Xs;replace Yk:=kb1 _ _ Yk;replace Y2:=kb1 _ _ Y2;refine⟨_,rfl,_,rfl,_,rfl,(by show 4<=sizeLine;decide),λc1 nc1=>?_⟩;have kc1:=ag nc1<|.tup [.str<|I0 "join",.int (m:Int),.int (m:Int),.int 1];have sc1:upd G8 c1 (.tup [.str<|I0 "join",.int (m:Int),.int (m:Int),.int 1]) c1=B' (.tup [.str aY,.int (m:Int),.int (m:Int),.int 1]):=ad;have xc1:=aj L8 nc1;generalize upd G8 c1 (.tup [.str<|I0 "join",.int (m:Int),.int (m:Int),.int 1])=G9 at kc1 sc1 ⊢;have K9:=K8.trans kc1;have L9:=kc1 _ _ L8;replace UW:=kc1 _ _ UW;replace VC:=kc1 _ _ VC;replace V_:=kc1 _ _ V_;replace WI:=kc1 _ _ WI;replace Xs:=kc1 _ _ Xs;replace Yk:=kc1 _ _ Yk;replace Y2:=kc1 _ _ Y2;replace sb1:=kc1 _ _ sb1;refine⟨_,rfl,.ref l,_,rfl,.inl ⟨_,SqL.of L9,rfl⟩,(by show 2<=sizeLine;decide),λc2 nc2=>?_⟩;have kc2:=ag nc2<|.tup [.str<|I0 "drop",.int (ls.length:Int)];have sc2:upd G9 c2 (.tup [.str<|I0 "drop",.int (ls.length:Int)]) c2=B' (.tup [.str aF,.int (ls.length:Int)]):=ad;have xc2:=aj L9 nc2;generalize upd G9 c2 (.tup [.str<|I0 "drop",.int (ls.length:Int)])=G10 at kc2 sc2 ⊢;have K10:=K9.trans kc2;have L10:=kc2 _ _ L9;replace UW:=kc2 _ _ UW;replace VC:=kc2 _ _ VC;replace V_:=kc2 _ _ V_;replace WI:=kc2 _ _ WI;replace Xs:=kc2 _ _ Xs;replace Yk:=kc2 _ _ Yk;replace Y2:=kc2 _ _ Y2;replace sb1:=kc2 _ _ sb1;replace sc1:=kc2 _ _ sc1;refine⟨JQ _,λc3 nc3=>?_⟩;have kc3:=ag nc3<|.tup [];have sc3:upd G10 c3 (.tup []) c3=B' (.tup []):=ad;have xc3:=aj L10 nc3;generalize upd G10 c3 (.tup [])=G11 at kc3 sc3 ⊢;have K11:=K10.trans kc3;have L11:=kc3 _ _ L10;replace UW:=kc3 _ _ UW;replace VC:=kc3 _ _ VC;replace V_:=kc3 _ _ V_;replace WI:=kc3 _ _ WI;replace Xs:=kc3 _ _ Xs;replace Yk:=kc3 _ _ Yk;replace Y2:=kc3 _ _ Y2;replace sb1:=kc3 _ _ sb1;replace sc1:=kc3 _ _ sc1;replace sc2:=kc3 _ _ sc2;refine⟨(by show 2<=sizeLine;decide),λc4 nc4=>?_⟩;have kc4:=ag nc4<|.tup [.str<|I0 "drop",.bl Je];have sc4:upd G11 c4 (.tup [.str<|I0 "drop",.bl Je]) c4=B' (.tup [.str aF,.bl Je]):=ad;have xc4:=aj L11 nc4;generalize upd G11 c4 (.tup [.str<|I0 "drop",.bl Je])=G12 at kc4 sc4 ⊢;have K12:=K11.trans kc4;have L12:=kc4 _ _ L11;replace UW:=kc4 _ _ UW;replace VC:=kc4 _ _ VC;replace V_:=kc4 _ _ V_;replace WI:=kc4 _ _ WI;replace Xs:=kc4 _ _ Xs;replace Yk:=kc4 _ _ Yk;replace Y2:=kc4 _ _ Y2;replace sb1:=kc4 _ _ sb1;replace sc1:=kc4 _ _ sc1;replace sc2:=kc4 _ _ sc2;replace sc3:=kc4 _ _ sc3;refine⟨(by show 2<=sizeLine;decide),λc5 nc5=>?_⟩;have ZQ:=ag nc5<|.lst [.str<|I0 "drop",.int 0];have sc5:upd G12 c5 (.lst [.str<|I0 "drop",.int 0]) c5=B' (.lst [.str aF,.int 0]):=ad;have xc5:=aj L12 nc5;generalize upd G12 c5 (.lst [.str<|I0 "drop",.int 0])=G13 at ZQ sc5 ⊢;have K13:=K12.trans ZQ;have L13:=ZQ _ _ L12;replace UW:=ZQ _ _ UW;replace VC:=ZQ _ _ VC;replace V_:=ZQ _ _ V_;replace WI:=ZQ _ _ WI;replace Xs:=ZQ _ _ Xs;replace Yk:=ZQ _ _ Yk;replace Y2:=ZQ _ _ Y2;replace sb1:=ZQ _ _ sb1;replace sc1:=ZQ _ _ sc1;replace sc2:=ZQ _ _ sc2;replace sc3:=ZQ _ _ sc3;replace sc4:=ZQ _ _ sc4;refine⟨(by show 7<=sizeLine;decide),λb2 nb2=>?_⟩;have ZC:=ag nb2<|.lst [.non,.str<|I0 "drop",.ref c1,.ref c2,.ref c3,.ref c4,.ref c5];have sb2:upd G13 b2 (.lst [.non,.str<|I0 "drop",.ref c1,.ref c2,.ref c3,.ref c4,.ref c5]) b2=B' (.lst [.non,.str<|I0 "drop",.ref c1,.ref c2,.ref c3,.ref c4,.ref c5]):=ad;have xb2:=aj L13 nb2;generalize upd G13 b2 (.lst [.non,.str<|I0 "drop",.ref c1,.ref c2,.ref c3,.ref c4,.ref c5])=G14 at ZC sb2 ⊢;have K14:=K13.trans ZC;have L14:=ZC _ _ L13;replace UW:=ZC _ _ UW;replace VC:=ZC _ _ VC;replace V_:=ZC _ _ V_;replace WI:=ZC _ _ WI;replace Xs:=ZC _ _ Xs;replace Yk:=ZC _ _ Yk;replace Y2:=ZC _ _ Y2;replace sb1:=ZC _ _ sb1;replace sc1:=ZC _ _ sc1;replace sc2:=ZC _ _ sc2;replace sc3:=ZC _ _ sc3;replace sc4:=ZC _ _ sc4;replace sc5:=ZC _ _ sc5;refine⟨b1,b2,_,_,rfl,rfl,sb1,sb2,(by show 13<=sizeLine;decide),λb3 nb3=>?_⟩;have ZR:=ag nb3<|.lst ([.ref a1,.ref a2,.ref a3,.ref a4,.ref a6,.ref a7]++[.non,.str<|I0 "drop",.ref c1,.ref c2,.ref c3,.ref c4,.ref c5]);have sb3:upd G14 b3 (.lst ([.ref a1,.ref a2,.ref a3,.ref a4,.ref a6,.ref a7]++[.non,.str<|I0 "drop",.ref c1,.ref c2,.ref c3,.ref c4,.ref c5])) b3=B' (.lst ([.ref a1,.ref a2,.ref a3,.ref a4,.ref a6,.ref a7,.non,.str aF,.ref c1,.ref c2,.ref c3,.ref c4,.ref c5])):=ad;generalize upd G14 b3 (.lst ([.ref a1,.ref a2,.ref a3,.ref a4,.ref a6,.ref a7]++[.non,.str<|I0 "drop",.ref c1,.ref c2,.ref c3,.ref c4,.ref c5]))=G15 at ZR sb3 ⊢;have K15:=K14.trans ZR;have L15:=ZR _ _ L14;replace UW:=ZR _ _ UW;replace VC:=ZR _ _ VC;replace V_:=ZR _ _ V_;replace WI:=ZR _ _ WI;replace Xs:=ZR _ _ Xs;replace Yk:=ZR _ _ Yk;replace Y2:=ZR _ _ Y2;replace sc1:=ZR _ _ sc1;replace sc2:=ZR _ _ sc2;replace sc3:=ZR _ _ sc3;replace sc4:=ZR _ _ sc4;replace sc5:=ZR _ _ sc5;obtain⟨j,hj,ag4⟩:∃j:Nat,nu / 1000 % 13=(j:Int)/\j < 13:=⟨(nu / 1000 % 13).toNat,by lia,by lia⟩;obtain⟨v,hv⟩:∃v,([.ref a1,.ref a2,.ref a3,.ref a4,.ref a6,.ref a7,.non,.str aF,.ref c1,.ref c2,.ref c3,.ref c4,.ref c5]:IW V)[j]? =B' v:=⟨_,Jm (by show j < 13;exact ag4)⟩;exists _,rfl,_,rfl,_,_,rfl,rfl,⟨by decide,by decide⟩,_,_,rfl,rfl,(by decide);rw[hj];refine .inl ⟨b3,_,(j:Int),v,rfl,rfl,SqL.of sb3,aZ hv,?_⟩;exists _,rfl,_,rfl,l,ls,(m:Int),m,rfl,rfl,L15,Fh hm;have fin:∀{b:I_} {o:HO},l≠b->G15 b=B' o->upd G15 l (.lst (ls.set m v)) b=B' o:=λz e=>by rw[ao (λy=>z y.symm)];exact e
   have ro:=Cm (n:=m) (m:=zs.length) (k:=ls.length) (fin xa1 UW) (fin xa2 VC) (fin xa3 V_) (fin xa4 WI) (fin xa5 Xs) (fin xa6 Yk) (fin xa7 Y2) (fin xc1 sc1) (fin xc2 sc2) (fin xc3 sc3) (fin xc4 sc4)<|fin xc5 sc5;have rv:=eJ ro hv;have alh:(sY m zs.length ls.length).length=13:=rfl;have hdm:(sY m zs.length ls.length).getD j .none∈sY m zs.length ls.length:=Jx (getD_some<|by lia);generalize (sY m zs.length ls.length).getD j .none=d at rv hdm;have hml:m < ds.length:=by lia
   have Xu:(out.take m).length=m:=by rw[J9];lia
   have bad:=Cl (t:=t) (cs:=cs) (hw:=hw) (sets:=out.take m) (k:=ls.length) (by lia) d (by rw[Xu,hzl];exact hdm);have rd2:=uY rv m<|cm (o:=.lst<|ls.set m v) L15 hP.good<|bp (k1.trans K15) _ _ hP.rd;have sl2:upd G15 l (.lst<|ls.set m v) l=B' (.lst<|ls.set m v):=ad;have kf:Same H (upd G15 l<|.lst<|ls.set m v):=(k1.trans K15).upd_new nl _;generalize upd G15 l (.lst<|ls.set m v)=G16 at rd2 sl2 kf ⊢;refine⟨_,rfl,_,rfl,_,rfl,(by show 3<=sizeLine;decide),λr nr=>?_⟩;have k17:=ag nr<|.lst [.str<|aK hw,.ref l,.int (m:Int)];exact q r l (m:Int) (ls.set m v) (ds.set m d) _ (kf.trans k17) ad (k17 _ _ sl2) (bp k17 _ _ rd2)<|.bad m d hml rfl bad.1 bad.2.1 bad.2.2 rfl
  refine⟨_,rfl,_,_,rfl,rfl,⟨by decide,by decide⟩,_,_,rfl,rfl,(by decide),.inl ⟨rfl,_,rfl,fU (λ_=>?_) λ_=>Me m0 agU⟩⟩;exists _,rfl,.ref l,_,rfl,.inl ⟨_,SqL.of s1,rfl⟩,_,_,rfl,rfl;have el:(ls.length:Int) - 1=((ls.length - 1:Nat):Int):=by lia
  rw[el];exact Me (ls.length - 1) (by lia)
 ·have T5:([]:IW Int)∈out:=Jx e1;obtain⟨hei,WV⟩:=zQ T5;refine⟨_,rfl,_,_,rfl,rfl,(by decide),_,_,rfl,rfl,_,rfl,fU (λ_=>?_) λ_=>?_⟩
  ·refine⟨_,rfl,_,rfl,_,rfl,_,_,rfl,rfl,⟨by decide,by decide⟩,_,rfl,.inl ⟨rfl,_,SqL.of<|k1 _ _ hP.s⟩,JQ _,λet net=>?_⟩;have k4:=ag net<|.tup [];have s4:upd H1 et (.tup []) et=B' (.tup []):=ad;have s1':=k4 _ _ s1;generalize upd H1 et (.tup [])=H4 at k4 s4 s1' ⊢;have eG:∀j,j < out.length->(out.map gc).getD j .none=gc (out.getD j []):=λj hj=>by
    rw[Jr,Jr,JW,Jm hj];rfl
   refine⟨.tuple [],out.map gc,_,sa,ss,out.idxOf [],rfl,rfl,(k1.trans k4) _ _ hP.s,(hP.cl.mono<|k1.trans k4).rds,bo s4 aJ,by decide+kernel,fw out,by decide+kernel,by rw[Jc];exact hei,?_,λm hm=>?_,?_⟩
   ·rw[eG _ hei,gv,Jr,WV];rfl
   ·rw[eG _ (by lia),gv];refine Jj λz=>?_;have UZ:out[m]? =B' []:=by rw[Jr,Jm<|by lia]at z;rw[Jm<|by lia];exact LU B' z
    have:=pG UZ;lia
   exists _,_,rfl,rfl,_,_,rfl,rfl,(by lia),_,rfl;obtain⟨k,hk,hkl⟩:∃k:Nat,nu / 8 % (((out.idxOf []:Nat):Int)+1)=(k:Int)/\k<=out.idxOf []:=by
    have b1:=KY (nu / 8) (show(((out.idxOf []:Nat):Int)+1)≠0 by lia);have b2:=KE (nu / 8) (show 0 < (((out.idxOf []:Nat):Int)+1) by lia);exact⟨(nu / 8 % (((out.idxOf []:Nat):Int)+1)).toNat,by lia,by lia⟩
   rw[hk];refine⟨l,ls,rfl,SqL.of s1',λl2 nl2=>?_⟩;have k5:=ag nl2<|.lst<|dH ls Ji<|B' (k:Int);have s5:upd H4 l2 (.lst<|dH ls Ji<|B' (k:Int)) l2=B' (.lst<|ls.take k):=by rw[ad,rQ]
   generalize upd H4 l2 (.lst<|dH ls Ji<|B' (k:Int))=H5 at k5 s5 ⊢;refine⟨_,rfl,(by show 3<=sizeLine;decide),λr nr=>?_⟩;have k6:=ag nr<|.lst [.str<|aK hw,.ref l2,.int (-1)];have kf:=(k1.trans k4).trans<|k5.trans k6;exact q r l2 (-1) (ls.take k) (ds.take k) _ kf ad (k6 _ _ s5) (jO k<|bp kf _ _ hP.rd)<|.cut k hkl rfl rfl
  ·refine⟨_,rfl,_,rfl,_,rfl,(by show 3<=sizeLine;decide),λr nr=>?_⟩;have k6:=ag nr<|.lst [.str<|aK hw,.ref l,.int (-2)];exact q r l (-2) ls ds _ (k1.trans k6) ad (k6 _ _ s1) (bp (k1.trans k6) _ _ hP.rd)<|.same rfl rfl
end
abbrev wD:Lh:=top 66
structure Ht (mg:Str->Jd IX):Prop where
 list:mg "list"=Ji
 range:mg "range"=Ji
def uZ:Sp:=λvs H Q E=>(Am vs H Q E\/An vs H Q E)\/(Ao vs H Q E\/Ap vs H Q E)
def u0(K:IZ):Sp:=λvs H Q _=>∃(a:I_) (ns:IW Int),vs=[.ref a]/\SqL K H a (ns.map V.int)/\ns.length<=63/\∀H',Q (.bl Je) H'
abbrev mq:Str:=I0 "told"
abbrev Ar:Str:=I0 "not whole"
abbrev u6:Str:=I0 "hand"
abbrev As:Str:=I0 "bad"
def jx(i:Nat)(n:Int):Str×Int:=if(decide ((i:Int) < 2)&&decide (n=-1))=Je then(Ar,-2)else(mq,-2)
def mt(i:Nat)(n:Int)(hw:JJ):Str×Int:=if(decide ((i:Int)=2)&&hw)=Je then(u6,-2)else jx i n
def gi(i:Nat)(n:Int)(hw:JJ):Str×Int:=if decide (n>=0)=Je then(As,n)else mt i n hw
def Au(i:Nat)(n:Int)(hw:JJ):(gi i n hw).1=mq\/(gi i n hw).1=Ar\/(gi i n hw).1=u6\/(gi i n hw).1=As:=by
 unfold gi mt jx
 split
 ·exact .inr<|.inr<|.inr rfl
 split
 ·exact .inr<|.inr<|.inl rfl
 split
 ·exact .inr<|.inl rfl
 ·exact .inl rfl
def wE(n:Int)(h:s=mq\/s=Ar\/s=u6\/s=As):KI (.list [.str s,.int n])=true:=by
 have k:QM s=true:=by
  obtain rfl|rfl|rfl|rfl:=h<;>decide+kernel
 exact Nice.shaped (Nice.mono (im (n:=2)<|aL (bx 2 k)<|aL (bT _ _) bL)<|by decide)
def Cn{out:IW (IW Int)}{k:Nat}(h:k<=out.idxOf [])(hk:k<=out.length):fY (out.take k)=false:=by
 cases k with
 |zero=>rfl
 |succ k=>
  have hg:out[k]? =B' out[k]:=Jm (by lia);rw[n5 hg];refine Jj λz=>?_;rw[z]at hg;have:=pG hg;lia
def Co{H:Hp}{i:Nat}{n:Int}{p q pp la:I_}{t:Str}{hw:JJ}{xs ls:IW V}{cs:IW (IW Int)}{ds U0:IW Jw}{out:IW (IW Int)}{Q:VK}{E:XK}(hi:i < 3)(hol:out.length=ds.length)(Zc:∀d∈ds,bQ d)(Nv:bu t cs hw [] ds=(out,Je))(WU:fY out=Je)(b:oo t cs hw ds out U0 n)
  (h:om H [.int (i:Int),.ref p,.ref pp] i p q pp la t hw xs ls cs U0) (q':∀l H',Same H H'->H' l=B' (.lst [.str (gi i n hw).1,.int (gi i n hw).2])->Q (.ref l) H'):uZ [.int (i:Int),.ref p,.ref pp] H Q E:=by
 have tail:∀o2,(∀d∈U0,bQ d)->bu t cs hw [] U0=(o2,Je)->(n=-1/\fY o2=Jg)\/(n=-2/\fY o2=Je)->uZ [.int (i:Int),.ref p,.ref pp] H Q E:=by
  intro o2 hg hr ho;have hn:¬n>=0:=by obtain⟨z,_⟩|⟨z,_⟩:=ho<;>lia
  have e3:gi i n hw=mt i n hw:=by unfold gi;rw[Jj hn];rfl
  rw[e3]at q';by_cases h2:i=2
  ·subst h2;cases hw with
   |true=>exact .inr<|.inl ⟨p,q,pp,la,t,xs,ls,cs,U0,o2,h,hg,hr,q'⟩
   |false=>exact .inl<|.inl ⟨2,p,q,pp,la,t,Jg,xs,ls,cs,U0,o2,h,hg,hr,.inr<|.inr ⟨rfl,rfl⟩,q'⟩
  ·have e2:mt i n hw=jx i n:=by
    unfold mt;rw[Jj (show¬(i:Int)=2 by lia),OU];rfl
   rw[e2]at q';have NJ:decide ((i:Int) < 2)=true:=Jz (by lia);have Yn:i=0\/i=1:=by lia
   obtain⟨z,ho⟩|⟨z,ho⟩:=ho
   ·have e1:jx i n=(Ar,-2):=by unfold jx;rw[NJ,Jz z];rfl
    rw[e1]at q';exact .inl<|.inr ⟨i,p,q,pp,la,t,hw,xs,ls,cs,U0,o2,h,hg,hr,Yn,ho,q'⟩
   ·have e1:jx i n=(mq,-2):=by unfold jx;rw[Jj (show¬n=-1 by lia),Kp];rfl
    rw[e1]at q';exact .inl<|.inl ⟨i,p,q,pp,la,t,hw,xs,ls,cs,U0,o2,h,hg,hr,Yn.elim (λz=>.inl ⟨z,ho⟩) λz=>.inr<|.inl ⟨z,ho⟩,q'⟩
 cases b with
 |bad m d hm e hb hs hn en=>
  subst e en;have e3:gi i (m:Int) hw=(As,(m:Int)):=by unfold gi;rw[Jz<|by lia];rfl
  rw[e3]at q';have hml:(out.take m).length=m:=by rw[J9];lia
  have ht:(ds.set m d).take m=ds.take m:=List.take_set_of_le<|Jh _;have hr:bu t cs hw [] (ds.set m d)=(out.take m,Jg):=oU (by rw[ht];exact jN Nv m<|by lia) (Oq<|by lia) hb;refine .inr<|.inr ⟨i,p,q,pp,la,t,hw,xs,ls,cs,ds.set m d,out.take m,h,λe he=>?_,hr,by lia,λl H' k g=>q' l H' k<|by rw[hml]at g;exact g⟩;obtain z|z:=Ri he
  ·exact(gG<|Zc e z).1
  ·rw[z];exact hs
 |cut k hk e en=>
  subst e en;exact tail (out.take k) (λd hd=>Zc d<|NT hd) (jN Nv k (by have:=TM (a:=([]:IW Int)) (l:=out);lia))<|.inl ⟨rfl,Cn hk (by have:=TM (a:=([]:IW Int)) (l:=out);lia)⟩
 |same e en=>
  subst e en;exact tail out Zc Nv<|.inr ⟨rfl,WU⟩
def wF(Zc:∀d∈ds,bQ d)(b:oo t cs hw ds out U0 n):(∀d∈U0,Nice 3 d)/\U0.length<=ds.length:=by
 cases b with
 |bad m d hm e hb hs hn en=>
  subst e;refine⟨λx hx=>?_,by rw[WD];exact Jh _⟩;obtain z|z:=Ri hx
  ·exact jJ<|Zc x z
  ·rw[z];exact hn
 |cut k hk e en=>
  subst e;exact⟨λd hd=>jJ<|Zc d<|NT hd,by rw[J9];lia⟩
 |same e en=>
  subst e;exact⟨λd hd=>jJ<|Zc d hd,Jh _⟩
inductive IL (a p hl l ak hd:I_)(hw:JJ)(n:Int)(H:Hp)(i:Nat)(σ:St)(G:Hp):Prop
 |mk (x7 x8:Jd V)(i0:σ=[B'<|.ref a,B'<|.ref p,B'<|.str<|aK hw,B'<|.ref l,B'<|.int n,B'<|.ref ak,B'<|.ref hd,x7,x8])(i1:Same H G):IL a p hl l ak hd hw n H i σ G
section
variable {K:IZ}
def Fj{g4 g5 g6 g7 g8 g9:I_}{e4 e5 e6 e7 e8 e9:JP}(F:Fun K "_law_refusal" "_law_refusal" sX f fd)(T:wC K mg CB CW CH fI)
  (A1:Fe P w K mg base 8 "needed_lines" Ai) (A2:Fe P w K mg base 8 "shortened_paper" Ag) (A3:Fe P w K mg base 7 "joined_clauses" sR)
  (X1:tN P w K mg base 8 "needed_lines" g4 e4 ["sentence","paper"] (ic CW)) (X2:tN P w K mg base 8 "shortened_paper" g5 e5 ["sentence","paper"] (ic CW)) (X3:tN P w K mg base 7 "joined_clauses" g6 e6 ["sentence","paper"] (kQ CH))
  (D1:wg P w K mg base 8 "needed_lines" g7 e7 ["sentence","paper"] (cR CB)) (D2:wg P w K mg base 8 "shortened_paper" g8 e8 ["sentence","paper"] (cR CB)) (D3:wg P w K mg base 7 "joined_clauses" g9 e9 ["sentence","paper"] (cR CB))
  (LB:Fe P w K mg base 1 "_law_alone" (fQ CB)) (LW:Fe P w K mg base 1 "_law_alone" (fQ CW)) (LH:Fe P w K mg base 1 "_law_alone" (fQ CH)) (W:Fe P w K mg base 1 "_law_whole" oh):FnOk P w K mg base dh 9 f fd ["_law_word","_law_sentence_here","_law_paper_here"] uZ:=
 FnOk.or (FnOk.or (Ch F T A1 A2 A3 LB W)<|Ci F T X1 X2 X3 LW W) (FnOk.or (Cj F T X1 X2 X3 LH W)<|Ck F T D1 D2 D3 LB W)
def DD:aH ["_law_script","_law_sentence_here","_law_hand","_law_lines","_law_at","_law_asked","_law_handed","_law_word","_law_due"] ["_law_script"] (ap wD):=fb
def Fk(F:Fun K "law" "law" wD f fd)(T:Ht mg)(WX:Fe P w K mg base 3 "_law_sentence" (yL K))(Zh:Fe P w K mg base 11 "_law_paper" Dr)(YL:Fe P w K mg base 2 "_law_padded" (Dt K))
  (Z4:Fe P w K mg base 2 "_law_bent" (DB K)) (XN:Fe P w K mg base 9 "_law_refusal" uZ):FnOk P w K mg base dh 12 f fd ["_law_script"] (u0 K):=by
 have sc:=DD;refine F.okA DD λMG A outer s H vs Q E hr h=>?_;obtain⟨a,ns,rfl,hS,hl,q⟩:=h;have hu:=hr.units;refine⟨_,(af (ar (i:=1) sc.nd rfl (JD rfl)<|cu WX hr<|aa (pv 0)<|aa ah ae)
  (af (iD (cu Z4 hr<|aa (pv 0)<|aa (pv 1)<|aa (cu YL hr<|aa (pv 0)<|aa (cu Zh hr<|aa (pv 1) ae) ae) ae)<|oK rfl<|bd (aB (i:=2) sc.nd rfl<|JD rfl)<|bd (aB (i:=3) sc.nd rfl<|JD rfl)<|bd (aB (i:=4) sc.nd rfl<|JD rfl) eE)
  (af (ar (i:=5) sc.nd rfl (JD rfl)<|bf<|aa (aG ay (pv 1) ah λ_ _=>rfl)<|aa (bN cL rfl T.list KZ<|aa (aG ay (pv 1) ah λ_ _=>rfl) ae) ae)
  (af (ar (i:=6) sc.nd rfl (JD rfl)<|bf<|aa (pv 2)<|aa (bN cL rfl T.list KZ<|aa (pv 3) ae) ae)
  (af (cZ KU rfl (dA rfl T.range<|aa ah ae) (aB (i:=7) sc.nd rfl<|JD rfl)
   (af (ar (i:=8) sc.nd rfl (JD rfl)<|aP<|aa aC<|aa (cp bD ah) ae)
   (af (aR (PW.pt<|dI (aq mH (pv 7) ah<|aA _)<|c6<|aq (aS hu) (pv 4) (cp bD ah)<|aA _) (ai<|ar (i:=8) sc.nd rfl (JD rfl)<|aP<|aa aC<|aa (cp bD ah) ae) az)
   (af (aR (PW.pt<|dI (aq (aS hu) (pv 7) ah<|aA _)<|c6<|aq (aS hu) (pv 2) aC<|aA _) (ai<|ar (i:=8) sc.nd rfl (JD rfl)<|aP<|aa aC<|aa (cp bD ah) ae) az)
   (af (aR (aq FK (pv 4) ah<|aA _) (ai<|ar (i:=8) sc.nd rfl (JD rfl)<|aP<|aa aC<|aa (pv 4) ae) az)
   (ai<|aR (PW.pt<|gL (aq (fV hu) (cu XN hr<|aa (pv 7)<|aa (pv 5)<|aa (pv 6) ae) (pv 8)<|aA _)<|gL (aq (fV hu) (pv 6) (bf<|aa (pv 2)<|aa (pv 3) ae)<|aA _)<|gO<|aq (fV hu) (pv 5) (pv 1)<|aA _) (ai<|ax fi) az))))))
  (ai<|ax fi)))))),?_⟩
 refine⟨_,rfl,a,ns,5,rfl,hS,hl,(by decide),(by decide),λp t cs H1 k1 hd ok=>?_⟩;have htl:=ok.len;have aiV:=ok.many;have hok:∀c∈cs,aV t.length c:=λc hc=>vT<|ok.cl c hc;obtain⟨pp,qa,zs,ep,h1,h2,h3⟩:=xw hd;cases ep;refine⟨_,rfl,_,rfl,_,rfl,_,rfl,p,qa,t,zs,cs,rfl,h1,by lia,h2,h3,by lia,hok,λrl la sa hw ls ss ds out H2 k2 P2 hds=>?_⟩;refine⟨a,rl,la,sa,ns,t,cs,hw,ls,ss,ds,out,rfl,(k1.trans k2).seq hS,P2,hds,λrl la sa ls ss ds out H3 k3 P3 hds=>?_⟩;have hol:out.length=ds.length:=by
  have:=cb P3.run;simpa using this
 have k23:=k2.trans k3;replace h1:=k23 _ _ h1;replace h2:=k23 _ _ h2;replace h3:=h3.mono k23;refine⟨a,p,qa,rl,la,sa,ns,t,cs,hw,zs,ls,ss,ds,out,rfl,(k1.trans k23).seq hS,h1,h2,h3,P3,hds,by lia,λr l n ls' U0 H4 k4 hr4 hl4 rd4 bk=>?_⟩;have hll:=cB rd4;obtain⟨aeI,hdl⟩:=wF P3.good bk;replace h1:=k4 _ _ h1;replace h2:=k4 _ _ h2;replace h3:=h3.mono k4;exists r,_,rfl,SqL.of hr4,rfl,_,_,rfl,_,_,rfl,_,_,rfl,rfl;refine⟨_,rfl,.inr<|.inl ⟨p,_,0,.str t,rfl,rfl,SqT.of h1,rfl,_,rfl,.inr<|.inl ⟨p,_,1,.ref qa,rfl,rfl,SqT.of h1,rfl,qa,zs,rfl,.inl<|SqL.of h2,λal nal=>?_⟩⟩⟩;have k6:=ag nal<|.lst zs;have s6:upd H4 al (.lst zs) al=B' (.lst zs):=ad;generalize upd H4 al (.lst zs)=H6 at k6 s6 ⊢;refine⟨(by show 2<=sizeLine;decide),λak nak=>?_⟩;have k7:=ag nak<|.tup [.str t,.ref al];have s7:upd H6 ak (.tup [.str t,.ref al]) ak=B' (.tup [.str t,.ref al]):=ad;generalize upd H6 ak (.tup [.str t,.ref al])=H7 at k7 s7 ⊢;have k47:=k6.trans k7;refine⟨_,rfl,_,rfl,l,ls',rfl,.inl<|SqL.of<|k47 _ _ hl4,λVH nhl=>?_⟩;have k8:=ag nhl<|.lst ls';have s8:upd H7 VH (.lst ls') VH=B' (.lst ls'):=ad;generalize upd H7 VH (.lst ls')=H8 at k8 s8 ⊢;refine⟨(by show 2<=sizeLine;decide),λhd' nhd=>?_⟩;have k9:=ag nhd<|.tup [.str<|aK hw,.ref VH];have s9:upd H8 hd' (.tup [.str<|aK hw,.ref VH]) hd'=B' (.tup [.str<|aK hw,.ref VH]):=ad;generalize upd H8 hd' (.tup [.str<|aK hw,.ref VH])=H9 at k9 s9 ⊢;have k49:=(k47.trans k8).trans k9;replace s6:=((k7.trans k8).trans k9) _ _ s6;replace s7:=(k8.trans k9) _ _ s7;replace s8:=k9 _ _ s8;refine⟨3,rfl,(by decide),(by decide),eh (lo:=0) (n:=3) (IL a p VH l ak hd' hw n H9) ⟨Ji,Ji,rfl,Same.refl _⟩ ?_ ?_⟩
 ·rintro i σ G hi ⟨x7,x8,rfl,i1⟩;have ei:(0:Int)+(i:Int)=(i:Int):=Vz _;rw[ei];refine⟨_,rfl,(by show 2<=sizeLine;decide),λu1 nu1=>?_⟩;have ku1:=ag nu1<|.lst [.str<|I0 "told",.int (-2)];have su1:upd G u1 (.lst [.str<|I0 "told",.int (-2)]) u1=B' (.lst [.str mq,.int (-2)]):=ad;generalize upd G u1 (.lst [.str<|I0 "told",.int (-2)])=G1 at ku1 su1 ⊢;refine mj ?_;dsimp only;refine gF λN1 hN1=>?_;have go1:∀du G',Same G G'->G' du=B' (.lst [.str (jx i n).1,.int (jx i n).2])->N1 [B'<|.ref a,B'<|.ref p,B'<|.str<|aK hw,B'<|.ref l,B'<|.int n,B'<|.ref ak,B'<|.ref hd',B'<|.int (i:Int),B'<|.ref du] G':=by
   intro du G' kg hg;refine hN1 _ _ ?_;refine gF λN2 hN2=>?_;have go2:∀du G',Same G G'->G' du=B' (.lst [.str (mt i n hw).1,.int (mt i n hw).2])->N2 [B'<|.ref a,B'<|.ref p,B'<|.str<|aK hw,B'<|.ref l,B'<|.int n,B'<|.ref ak,B'<|.ref hd',B'<|.int (i:Int),B'<|.ref du] G':=by
    intro du G' kg hg;refine hN2 _ _ ?_;refine gF λN3 hN3=>?_;have go3:∀du G',Same G G'->G' du=B' (.lst [.str (gi i n hw).1,.int (gi i n hw).2])->N3 [B'<|.ref a,B'<|.ref p,B'<|.str<|aK hw,B'<|.ref l,B'<|.int n,B'<|.ref ak,B'<|.ref hd',B'<|.int (i:Int),B'<|.ref du] G':=by
     intro du G' kg hg;refine hN3 _ _ ?_;have kG:=i1.trans kg;have k4G:=k49.trans kG;have at9:om G' [.int (i:Int),.ref ak,.ref hd'] i ak al hd' VH t hw zs ls' cs U0:=⟨rfl,kG _ _ s7,by lia,kG _ _ s6,h3.mono k4G,by lia,hok,kG _ _ s9,kG _ _ s8,bp k4G _ _ rd4,by lia⟩;refine⟨_,rfl,_,rfl,_,rfl,Co hi hol P3.good P3.run P3.fin bk at9 λlr H10 k10 hlr=>?_⟩;have hsd:=wE (gi i n hw).2<|Au i n hw;have rdd:dJ H10 [.str (gi i n hw).1,.int (gi i n hw).2] [.str (gi i n hw).1,.int (gi i n hw).2]:=am (bS _)<|am (bP _) aJ;refine⟨_,rfl,lx (bI hlr rdd) (bI (k10 _ _ hg) rdd) hsd ⟨Jg,rfl,aQ ?_⟩⟩;refine⟨_,rfl,_,rfl,_,rfl,(by show 2<=sizeLine;decide),λnt nnt=>?_⟩;have k15:=ag nnt<|.tup [.str<|aK hw,.ref l];have s15:upd H10 nt (.tup [.str<|aK hw,.ref l]) nt=B' (.tup [.str<|aK hw,.ref l]):=ad;generalize upd H10 nt (.tup [.str<|aK hw,.ref l])=H15 at k15 s15 ⊢;have kf:=(kG.trans k10).trans k15;have k4f:=k49.trans kf;have Xv:KI (.tuple [.str<|aK hw,.list U0])=true:=Nice.shaped (Nice.mono (bK (n:=5)<|aL (bx 5 (by cases hw<;>decide+kernel))<|aL (Nice.mono (im (n:=3) aeI)<|by decide) bL)<|by decide);have rdl:dJ H15 U0 ls':=bp k4f _ _ rd4;refine lx (bo (kf _ _ s9)<|am (bS _)<|am (bI (kf _ _ s8) rdl) aJ) (bo s15<|am (bS _)<|am (bI (k4f _ _ hl4) rdl) aJ) Xv ⟨Jg,rfl,aQ ?_⟩;exact⟨_,rfl,_,rfl,lx (ku (kf _ _ s7) (kf _ _ s6)<|h3.mono k4f) (ku (k4f _ _ h1) (k4f _ _ h2)<|h3.mono k4f) (qe ok.ws cs) ⟨Jg,rfl,aQ ⟨_,_,rfl,kf⟩⟩⟩
    refine⟨_,rfl,_,_,rfl,rfl,_,rfl,fU (λc=>?_) λc=>?_⟩
    ·refine⟨_,rfl,(by show 2<=sizeLine;decide),λu3 nu3=>go3 u3 _ (kg.trans<|ag nu3 _) ?_⟩;have e3:gi i n hw=(As,n):=JL c;rw[ad,e3]
    ·have e3:gi i n hw=mt i n hw:=JK c;exact go3 du G' kg (by rw[e3];exact hg)
   refine⟨_,rfl,.inl ⟨rfl,_,rfl,fU (λc=>?_) λc=>?_⟩⟩
   ·have Yn:(i:Int)=2:=V.int.inj<|KM c;refine⟨_,rfl,.inl ⟨rfl,_,rfl,?_⟩⟩;cases hw with
    |true=>
     have ew:decide (V.str (aK Je)=V.str (I0 "wisher"))=true:=Jz rfl;rw[ew];refine aW ⟨_,rfl,(by show 2<=sizeLine;decide),λu3 nu3=>go2 u3 _ (kg.trans<|ag nu3 _) ?_⟩;have e2:mt i n Je=(u6,-2):=JL (by rw[Jz Yn];rfl);rw[ad,e2]
    |false=>
     rw[Jj (show¬V.str (aK Jg)=V.str (I0 "wisher") by decide+kernel)];have e2:mt i n Jg=jx i n:=JK (by rw[Kp];decide);exact aQ (go2 du G' kg<|by rw[e2];exact hg)
   ·have Yn:¬(i:Int)=2:=λz=>c<|Jz<|LU V.int z;have e2:mt i n hw=jx i n:=JK (by rw[Jj Yn,OU];decide);exact aQ (go2 du G' kg<|by rw[e2];exact hg)
  refine⟨_,rfl,_,_,rfl,rfl,_,rfl,fU (λc=>?_) λc=>?_⟩
  ·refine⟨_,rfl,_,rfl,.inl ⟨rfl,_,rfl,fU (λc2=>?_) λc2=>?_⟩⟩
   ·refine⟨_,rfl,(by show 2<=sizeLine;decide),λu3 nu3=>go1 u3 _ (ku1.trans<|ag nu3 _) ?_⟩;have hn1:n=-1:=V.int.inj<|KM c2;have e1:jx i n=(Ar,-2):=JL (by rw[Jz hn1,Bool.and_true];exact c);rw[ad,e1]
   ·have hn1:¬n=-1:=λz=>c2<|Jz<|LU V.int z;have e1:jx i n=(mq,-2):=JK (by rw[Jj hn1,Kp];decide);exact go1 u1 G1 ku1 (by rw[e1];exact su1)
  ·have e1:jx i n=(mq,-2):=JK (by rw[VA.mpr c,OU];decide);exact aQ (go1 u1 G1 ku1<|by rw[e1];exact su1)
 ·rintro σ G ⟨x7,x8,rfl,i1⟩;exact q _
end
abbrev fqq(K n s f e):=Fun K n n s f e
theorem all_mk {l:Qq}{w:JV}{K:IZ}{h:J6}{mg:Str->Jd IX}{fa:I_}(X:K.In h)(G:h.Ns Jo mg)(hfa:mg "law"=B' (.ref fa)){CD CB CW C1 C2 C5 C6 C7 C8 C9:I_}{cdB cdW cdH:ClassData}(a1:KG K (.ref CB) "__init__"=B' (B' (.ref f1)))(i1:YR K (.ref f1)=Je)(F1:Fun K "__init__" "BadLine.__init__" zp f1 e1)(a2:Jq K Jo "is_number"=B' (B' (.ref f2)))(F2:fqq K "is_number" EH f2 e2)(a3:Jq K Jo "is_set"=B' (B' (.ref f3)))(F3:fqq K "is_set" EI f3 e3)(a4:Jq K Jo "hand_of"=B' (B' (.ref f4)))(F4:fqq K "hand_of" pq f4 e4)(a5:Jq K Jo "other_hand"=B' (B' (.ref f5)))(F5:fqq K "other_hand" sB f5 e5)(a6:Jq K Jo "variables_of"=B' (B' (.ref f6)))(F6:fqq K "variables_of" yT f6 e6)(a7:Jq K Jo "stands_both_ways"=B' (B' (.ref f7)))(F7:fqq K "stands_both_ways" yW f7 e7)(a8:Jq K Jo "joined"=B' (B' (.ref f8)))(F8:fqq K "joined" px f8 e8)(a9:Jq K Jo "dropped"=B' (B' (.ref f9)))(F9:fqq K "dropped" lY f9 e9)(a10:Jq K Jo "is_place"=B' (B' (.ref f10)))(F10:fqq K "is_place" sF f10 e10)(a11:Jq K Jo "begins_with"=B' (B' (.ref f11)))(F11:fqq K "begins_with" yZ f11 e11)(a12:Jq K Jo "given_set"=B' (B' (.ref f12)))(F12:fqq K "given_set" sG f12 e12)(a13:Jq K Jo "hits"=B' (B' (.ref f13)))(F13:fqq K "hits" sJ f13 e13)(a14:Jq K Jo "hits_each"=B' (B' (.ref f14)))(F14:fqq K "hits_each" sK f14 e14)(a15:Jq K Jo "hits_set"=B' (B' (.ref f15)))(F15:fqq K "hits_set" sL f15 e15)(a16:Jq K Jo "join_set"=B' (B' (.ref f16)))(F16:fqq K "join_set" sI f16 e16)(a17:Jq K Jo "drop_set"=B' (B' (.ref f17)))(F17:fqq K "drop_set" sH f17 e17)(a18:Jq K Jo "line_set"=B' (B' (.ref f18)))(F18:fqq K "line_set" zf f18 e18)(a19:Jq K Jo "sets_of"=B' (B' (.ref f19)))(F19:fqq K "sets_of" kO f19 e19)(a21:Jq K Jo "end_empty"=B' (B' (.ref f21)))(F21:fqq K "end_empty" EN f21 e21)(a22:Jq K Jo "whole_sets"=B' (B' (.ref f22)))(F22:fqq K "whole_sets" zx f22 e22)(a25:Jq K Jo "named_by"=B' (B' (.ref f25)))(F25:fqq K "named_by" zG f25 e25)(a26:Jq K Jo "renamed"=B' (B' (.ref f26)))(F26:fqq K "renamed" wu f26 e26)(a28:Jq K Jo "needed_by"=B' (B' (.ref f28)))(F28:fqq K "needed_by" BX f28 e28)(a29:Jq K Jo "first_places"=B' (B' (.ref f29)))(F29:fqq K "first_places" B1 f29 e29)(a30:Jq K Jo "needed_lines"=B' (B' (.ref f30)))(F30:fqq K "needed_lines" Ah f30 e30)(a33:Jq K Jo "shortened_paper"=B' (B' (.ref f33)))(F33:fqq K "shortened_paper" Ad f33 e33)(a36:Jq K Jo "joined_clauses"=B' (B' (.ref f36)))(F36:fqq K "joined_clauses" me f36 e36)(a39:Jq K Jo "_law_cell_at"=B' (B' (.ref f39)))(F39:fqq K "_law_cell_at" yH f39 e39)(a40:Jq K Jo "_law_mixed"=B' (B' (.ref f40)))(F40:fqq K "_law_mixed" sx f40 e40)(a41:Jq K Jo "_law_first"=B' (B' (.ref f41)))(F41:fqq K "_law_first" sy f41 e41)(a42:Jq K Jo "_law_free_clause"=B' (B' (.ref f42)))(F42:fqq K "_law_free_clause" yI f42 e42)(a43:Jq K Jo "_law_drawn"=B' (B' (.ref f43)))(F43:fqq K "_law_drawn" sA f43 e43)(a44:Jq K Jo "_law_sentence"=B' (B' (.ref f44)))(F44:fqq K "_law_sentence" yJ f44 e44)(a45:Jq K Jo "_law_own"=B' (B' (.ref f45)))(F45:fqq K "_law_own" ET f45 e45)(a46:Jq K Jo "_law_set"=B' (B' (.ref f46)))(F46:fqq K "_law_set" zA f46 e46)(a47:Jq K Jo "_law_put"=B' (B' (.ref f47)))(F47:fqq K "_law_put" B3 f47 e47)(a48:Jq K Jo "_law_rest"=B' (B' (.ref f48)))(F48:fqq K "_law_rest" sO f48 e48)(a49:Jq K Jo "_law_drop"=B' (B' (.ref f49)))(F49:fqq K "_law_drop" B4 f49 e49)(a50:Jq K Jo "_law_hits"=B' (B' (.ref f50)))(F50:fqq K "_law_hits" E4 f50 e50)(a51:Jq K Jo "_law_seen"=B' (B' (.ref f51)))(F51:fqq K "_law_seen" Iu f51 e51)(a52:Jq K Jo "_law_led"=B' (B' (.ref f52)))(F52:fqq K "_law_led" wy f52 e52)(a53:Jq K Jo "_law_paper"=B' (B' (.ref f53)))(F53:fqq K "_law_paper" Cb f53 e53)(a54:Jq K Jo "_law_padded"=B' (B' (.ref f54)))(F54:fqq K "_law_padded" E8 f54 e54)(a55:Jq K Jo "_law_whole"=B' (B' (.ref f55)))(F55:fqq K "_law_whole" Fd f55 e55)(a56:Jq K Jo "_law_alone"=B' (B' (.ref f56)))(F56:fqq K "_law_alone" sV f56 e56)(a59:Jq K Jo "_law_bent"=B' (B' (.ref f59)))(F59:fqq K "_law_bent" Fg f59 e59)(a60:Jq K Jo "_law_refusal"=B' (B' (.ref f60)))(F60:fqq K "_law_refusal" sX f60 e60)(a61:Jq K Jo "law"=B' (B' (.ref f61)))(F61:fqq K "law" wD f61 e61)(z0:Jq K Jo "len"=B' Ji)(z1:Jq K Jo "range"=B' Ji)(z2:Jq K Jo "tuple"=B' Ji)(z3:Jq K Jo "list"=B' Ji)(z4:Jq K Jo "sorted"=B' Ji)(z5:Jq K Jo "sum"=B' Ji)(z6:Jq K Jo "isinstance"=B' Ji)(z7:Jq K Jo "int"=B' Ji)(z8:Jq K Jo "bool"=B' Ji)(z9:Jq K Jo "abs"=B' Ji)(z10:Jq K Jo "all"=B' Ji)(z11:Jq K Jo "zip"=B' Ji)(z12:Jq K Jo "set"=B' Ji)(z13:Jq K Jo "any"=B' Ji)(z14:Jq K Jo "max"=B' Ji)(z15:Jq K Jo "enumerate"=B' Ji)(z16:Jq K Jo "dict"=B' Ji){tW tS:Tok} (zW:Jq K Jo "WISHER"=B' (B' (.str (I0 "wisher") tW)))(zS:Jq K Jo "SPOILER"=B' (B' (.str (I0 "spoiler") tS)))(yD:Jq K Jo "DuelError"=B' (B' (.ref CD)))(yC1:Jq K Jo "NoVariable"=B' (B' (.ref C1)))(yC2:Jq K Jo "NoFilling"=B' (B' (.ref C2)))(CBy:Jq K Jo "BadLine"=B' (B' (.ref CB)))(yCW:Jq K Jo "NotWhole"=B' (B' (.ref CW)))(yC5:Jq K Jo "NoHand"=B' (B' (.ref C5)))(yC6:Jq K Jo "BadStep"=B' (B' (.ref C6)))(yC7:Jq K Jo "NoForm"=B' (B' (.ref C7)))(yC8:Jq K Jo "TooMany"=B' (B' (.ref C8)))(yC9:Jq K Jo "NoText"=B' (B' (.ref C9)))(zV:Jq K Jo "ValueError"=B' Ji)(xCW:Mo K CW [.type "ValueError",.type "Exception",.type "BaseException",.type "object"] "ValueError.__new__"=Je)(CBxi:hZ K CB [.type "ValueError",.type "Exception",.type "BaseException",.type "object"] "ValueError.__new__" f1=Je)(CBkc:Mn K (.ref CB)=Je)(u1:Rt K (.ref CD) "__getattribute__"=B' (B' (.builtin "type.__getattribute__")))(u2:Wu K CD (.type "type")=Je)(u3:Wv K (.ref CD) (.type "type") "__init__"=B' (.val (.builtin "ValueError.__init__")))(w1:ML K CB=B' cdB)(w1p:(cdB.hasDict&&ui cdB.mro)=Je)(w2:KG K (.ref CB) "__getattribute__"=B' (B' (.builtin "BaseException.__getattribute__")))(w3:KG K (.ref CB) "__getattr__"=B' Ji)(w4:KG K (.ref CB) "__class__"=B' (B' (.builtin "object.__class__")))(w5:J5 K CB (.type "object")=B' Je)(w6:J5 K CB (.type "BaseException")=B' Je)(w7:J5 K CB (.type "ValueError")=B' Je)(w8:KG K (.ref CB) "__setattr__"=B' (B' (.builtin "object.__setattr__")))(w9:KG K (.ref CB) "place"=B' Ji)(w10:NP K CB=Je)(v1:ML K CW=B' cdW)(v2:KG K (.ref CW) "__getattribute__"=B' (B' (.builtin "BaseException.__getattribute__")))(v3:KG K (.ref CW) "__getattr__"=B' Ji)(v4:KG K (.ref CW) "__class__"=B' (B' (.builtin "object.__class__")))(v5:J5 K CW (.type "object")=B' Je)(v6:J5 K CW (.type "BaseException")=B' Je)(kBV:JM K (.ref CB) (.type "ValueError")=B' Je)(kB_C1:JM K (.ref CB) (.ref C1)=B' Jg)(kB_C2:JM K (.ref CB) (.ref C2)=B' Jg)(kB_CW:JM K (.ref CB) (.ref CW)=B' Jg)(kB_C5:JM K (.ref CB) (.ref C5)=B' Jg)(kB_C6:JM K (.ref CB) (.ref C6)=B' Jg)(kB_C7:JM K (.ref CB) (.ref C7)=B' Jg)(kB_C8:JM K (.ref CB) (.ref C8)=B' Jg)(kB_C9:JM K (.ref CB) (.ref C9)=B' Jg)(kWV:JM K (.ref CW) (.type "ValueError")=B' Je)(kW_C1:JM K (.ref CW) (.ref C1)=B' Jg)(kW_C2:JM K (.ref CW) (.ref C2)=B' Jg)(kW_CB:JM K (.ref CW) (.ref CB)=B' Jg)(kW_C5:JM K (.ref CW) (.ref C5)=B' Jg)(kW_C6:JM K (.ref CW) (.ref C6)=B' Jg)(kW_C7:JM K (.ref CW) (.ref C7)=B' Jg)(kW_C8:JM K (.ref CW) (.ref C8)=B' Jg)(kW_C9:JM K (.ref CW) (.ref C9)=B' Jg)(xC5:Mo K C5 [.type "ValueError",.type "Exception",.type "BaseException",.type "object"] "ValueError.__new__"=Je)(wBB:J5 K CB (.ref CB)=B' Je)(n2B:J5 K CW (.ref CB)=B' Jg)(n3B:J5 K C5 (.ref CB)=B' Jg)(n3W:J5 K C5 (.ref CW)=B' Jg)(t1:ML K C5=B' cdH)(t2:KG K (.ref C5) "__getattribute__"=B' (B' (.builtin "BaseException.__getattribute__")))(t3:KG K (.ref C5) "__getattr__"=B' Ji)(t4:KG K (.ref C5) "__class__"=B' (B' (.builtin "object.__class__")))(t5:J5 K C5 (.type "object")=B' Je)(t6:J5 K C5 (.type "BaseException")=B' Je)(kHV:JM K (.ref C5) (.type "ValueError")=B' Je)(kH_C1:JM K (.ref C5) (.ref C1)=B' Jg)(kH_C2:JM K (.ref C5) (.ref C2)=B' Jg)(kH_CB:JM K (.ref C5) (.ref CB)=B' Jg)(kH_CW:JM K (.ref C5) (.ref CW)=B' Jg)(kH_C6:JM K (.ref C5) (.ref C6)=B' Jg)(kH_C7:JM K (.ref C5) (.ref C7)=B' Jg)(kH_C8:JM K (.ref C5) (.ref C8)=B' Jg)(kH_C9:JM K (.ref C5) (.ref C9)=B' Jg)(kBD:JM K (.ref CB) (.ref CD)=B' Je)(kWD:JM K (.ref CW) (.ref CD)=B' Je)(kHD:JM K (.ref C5) (.ref CD)=B' Je):∃ fd:JP,(∀ (s:Ja) (v:IX),Vl s fd ⟨[v],[]⟩ [("_law_script",v)])/\∀ base:J6,K.In base->base.Ns Jo mg->FnOk l.prog w K mg base dh 12 fa fd ["_law_script"] (u0 K):=by
 have e:=hfa.symm.trans (KF X G a61);cases e;have TG:Ft mg:=⟨Ju X G z0,Ju X G z1,Ju X G z2,Ju X G z3,Ju X G z4,Ju X G z5⟩;have TS:rf mg:=⟨Ju X G z6,Ju X G z7,Ju X G z8,Ju X G z2,Ju X G z3,Ju X G z9,Ju X G z0,Ju X G z10,Ju X G z1,Ju X G z11,Ju X G z4,Ju X G z12,Ju X G z13,Ju X G z14⟩;have TH:HB mg:=⟨Ju X G z0,⟨_,KF X G zW,⟨_,rfl⟩⟩,⟨_,KF X G zS,⟨_,rfl⟩⟩⟩;have TE:Ir mg:=⟨Ju X G z15⟩;have TFs:GS mg:=⟨Ju X G z15⟩;have TSh:Hj mg:=⟨Ju X G z15,Ju X G z16⟩;have TNe:GO mg:=⟨Ju X G z1,Ju X G z4⟩;have TPd:Hg mg:=⟨Ju X G z0,Ju X G z3,Ju X G z1⟩;have TNL:Hl mg:=⟨Ju X G z0⟩;have TWl:Hq mg:=⟨Ju X G z6,Ju X G z7,Ju X G z8⟩;have TBn:Hr mg:=⟨Ju X G z0,Ju X G z3⟩;have TL5:Ht mg:=⟨Ju X G z3,Ju X G z1⟩;have TPu:GX mg:=⟨Ju X G z0⟩;have THt:G_ mg:=⟨Ju X G z0,Ju X G z9⟩;have TSn:Ha mg:=⟨Ju X G z0,Ju X G z9,Ju X G z1⟩;have TLe:Ca mg:=⟨Ju X G z0,Ju X G z9⟩;have AB:dL K CB:=⟨⟨_,w1⟩,w2,w3,w4,w5,w6⟩;have AW:dL K CW:=⟨⟨_,v1⟩,v2,v3,v4,v5,v6⟩;have TB:CZ K mg CB CD:=⟨⟨_,KF X G yD,rfl⟩,⟨u1,u2,u3⟩,⟨_,w1⟩,w7,⟨⟨_,w1,w1p⟩,w8,w9,w5⟩⟩;have TW:IH K mg CW:=⟨KF X G yCW,xCW⟩;have KB:HF K CB C1 C2 CB CW C5 C6 C7 C8 C9 Jg Jg Je Jg Jg Jg Jg Jg false:=⟨AB,kBV,kB_C1,kB_C2,ly K CB,kB_CW,kB_C5,kB_C6,kB_C7,kB_C8,kB_C9⟩;have KW:HF K CW C1 C2 CB CW C5 C6 C7 C8 C9 Jg Jg Jg Je Jg Jg Jg Jg false:=⟨AW,kWV,kW_C1,kW_C2,kW_CB,ly K CW,kW_C5,kW_C6,kW_C7,kW_C8,kW_C9⟩;have AH:dL K C5:=⟨⟨_,t1⟩,t2,t3,t4,t5,t6⟩;have KH:HF K C5 C1 C2 CB CW C5 C6 C7 C8 C9 Jg Jg Jg Jg Je Jg Jg Jg false:=⟨AH,kHV,kH_C1,kH_C2,kH_CB,kH_CW,ly K C5,kH_C6,kH_C7,kH_C8,kH_C9⟩;have hB1:(([Jg,Jg,Je,Jg,Jg,Jg,Jg,Jg,Jg]:IW JJ).filter id).length=1:=rfl;have hW1:(([Jg,Jg,Jg,Je,Jg,Jg,Jg,Jg,Jg]:IW JJ).filter id).length=1:=rfl;have hH1:(([Jg,Jg,Jg,Jg,Je,Jg,Jg,Jg,Jg]:IW JJ).filter id).length=1:=rfl;have TA:IK mg CD C1 C2 CB CW C5 C6 C7 C8 C9:=⟨TS.len,TS.isinstance,Ju X G zV,⟨_,KF X G yD,rfl⟩,⟨_,KF X G yC1,rfl⟩,⟨_,KF X G yC2,rfl⟩,⟨_,KF X G CBy,rfl⟩,⟨_,KF X G yCW,rfl⟩,⟨_,KF X G yC5,rfl⟩,⟨_,KF X G yC6,rfl⟩,⟨_,KF X G yC7,rfl⟩,⟨_,KF X G yC8,rfl⟩,⟨_,KF X G yC9,rfl⟩⟩;have TJ:II mg:=⟨TS.list,TSh.dict,TH.g_SPOILER⟩;have TNH:Ho K mg C5:=⟨TH.g_SPOILER,KF X G yC5,xC5⟩;have TRf:wC K mg CB CW C5 f1:=⟨TS.isinstance,TS.list,TS.tuple,KF X G CBy,CBxi,w6,wBB,KF X G yCW,xCW,v6,n2B,KF X G yC5,xC5,n3B,n3W,⟨AB,w9,w10⟩⟩;obtain⟨_,_,kV,dc,pm,an,cd,ct,_,rfl,_,_⟩:=F61.ex;refine⟨MO "law" "law" (eI wD) (cM wD) (ap wD) .none kV dc pm an cd ct,λs v=>.of_eq rfl,λbase _ _=>?_⟩;have G1:Ip l.prog w K mg base _ "BadLine" CB _ _ _ _:=⟨BR F1 TB,F1.b2,CBxi,i1,CBkc,KF X G CBy⟩;have G2:=eY l.prog w base X G a2 F2 F2.b1 (EJ F2 TS);have G3:=eY l.prog w base X G a3 F3 F3.b2 (EK F3 TS G2);have G4:=eY l.prog w base X G a4 F4 F4.b2 (wn F4 TH);have G5:=eY l.prog w base X G a5 F5 F5.b1 (yV F5 TH);have G6:=eY l.prog w base X G a6 F6 F6.b2 (BE F6 TS G4);have G7:=eY l.prog w base X G a7 F7 F7.b3 (BI F7 TS);have G8:=eY l.prog w base X G a8 F8 F8.b3 (wo F8 TS);have G9:=eY l.prog w base X G a9 F9 F9.b3 (sE F9 TS G5 G6);have G10:=eY l.prog w base X G a10 F10 F10.b2 (za F10 G2);have G11:=eY l.prog w base X G a11 F11 F11.b3 (BJ F11 TS);have G12:=eY l.prog w base X G a12 F12 F12.b2 (zc F12 TS G10);have G13:=eY l.prog w base X G a13 F13 F13.b2 (zl F13);have G14:=eY l.prog w base X G a14 F14 F14.b2 (zm F14 TS G13);have G15:=eY l.prog w base X G a15 F15 F15.b2 (zn F15 TS G3 G14);have G16:=eY l.prog w base X G a16 F16 F16.b4 (ze F16 TS G2 G10 G5 G6 G7 G8);have G17:=eY l.prog w base X G a17 F17 F17.b4 (zd F17 TS G10 G9);have G18:=eY l.prog w base X G a18 F18 F18.b4 (BQ F18 TH G11 G12 G15 G16 G17);have G19:=eY l.prog w base X G a19 F19 F19.b2 (wp F19 TE G18);have G20:=yz l.prog w base X G a19 F19 F19.b2 (zu F19 TE G1 G18);have G21:=eY l.prog w base X G a21 F21 F21.b1 (EO F21);have G22:=eY l.prog w base X G a22 F22 F22.b2 (EQ F22 G19 G21);have G23:=yz l.prog w base X G a22 F22 F22.b2 (ER F22 G20);have G24:=By l.prog w base X G a22 F22 F22.b2 (ES F22 TW G19 G21);have G25:=eY l.prog w base X G a25 F25 F25.b1 (BW F25);have G26:=eY l.prog w base X G a26 F26 F26.b2 (BZ F26);have G27:=eY l.prog w base X G a26 F26 F26.b2 (B0 F26);have G28:=eY l.prog w base X G a28 F28 F28.b2 (EZ F28 TNe G25);have G29:=eY l.prog w base X G a29 F29 F29.b1 (E1 F29 TFs);have G30:=eY l.prog w base X G a30 F30 F30.b2 (Fc F30 TNL G22 G28);have G31:=yz l.prog w base X G a30 F30 F30.b2 (Cd F30 G23);have G32:=By l.prog w base X G a30 F30 F30.b2 (Ce F30 G24);have G33:=eY l.prog w base X G a33 F33 F33.b2 (Fb F33 TSh G22 G29 G26 G28 G27);have G34:=yz l.prog w base X G a33 F33 F33.b2 (Cf F33 G23);have G35:=By l.prog w base X G a33 F33 F33.b2 (Cg F33 G24);have G36:=eY l.prog w base X G a36 F36 F36.b2 (B2 F36 TJ G19);have G37:=yz l.prog w base X G a36 F36 F36.b2 (Ak F36 G20);have G38:=By l.prog w base X G a36 F36 F36.b2 (Al F36 TNH G19);have G39:=eY l.prog w base X G a39 F39 F39.b2 (BB F39 TG);have G40:=eY l.prog w base X G a40 F40 F40.b2 (yM F40);have G41:=eY l.prog w base X G a41 F41 F41.b2 (yN F41 TG G39 G40);have G42:=eY l.prog w base X G a42 F42 F42.b2 (BC F42 TG);have G43:=eY l.prog w base X G a43 F43 F43.b3 (yP F43 TG G40);have G44:=eY l.prog w base X G a44 F44 F44.b2 (BD F44 TG G39 G40 G41 G42 G43);have G45:=eY l.prog w base X G a45 F45 F45.b3 (EV F45 TS);have G46:=eY l.prog w base X G a46 F46 F46.b1 (BV F46 TS);have G47:=eY l.prog w base X G a47 F47 F47.b5 (E2 F47 TPu);have G48:=eY l.prog w base X G a48 F48 F48.b3 (zE F48 TS G45);have G49:=eY l.prog w base X G a49 F49 F49.b5 (E3 F49 G47 G48);have G50:=eY l.prog w base X G a50 F50 F50.b2 (E5 F50 THt G46);have G51:=eY l.prog w base X G a51 F51 F51.b4 (Hc F51 TSn G47 G50);have G52:=eY l.prog w base X G a52 F52 F52.b4 (E6 F52 TLe G51 G49 G45 G47 G46 F52.b4 F52.kp (KF X G a52));have G53:=eY l.prog w base X G a53 F53 F53.b1 (E7 F53 G52);have G54:=eY l.prog w base X G a54 F54 F54.b2 (E9 F54 TPd G40 G39);have G55:=eY l.prog w base X G a55 F55 F55.b1 (Ff F55 TWl);have G56:=eY l.prog w base X G a56 F56 F56.b1 (ml F56 TA KB kBD hB1);have G57:=eY l.prog w base X G a56 F56 F56.b1 (ml F56 TA KW kWD hW1);have G58:=eY l.prog w base X G a56 F56 F56.b1 (ml F56 TA KH kHD hH1);have G59:=eY l.prog w base X G a59 F59 F59.b3 (Fi F59 TBn G40 G39);have G60:=eY l.prog w base X G a60 F60 F60.b3 (Fj F60 TRf G30 G33 G36 G32 G35 G38 G31 G34 G37 G56 G57 G58 G55);exact Fk F61 TL5 G44 G53 G54 G59 G60
theorem walk {l:Qq}{q:Js}{loose:IW Str}{XP:(Str->Jd IX)->J6->Prop}{YP:JV->J6->Prop}{d:DefRec}{K:YS->IZ}(hn:l.most=B' 63)(hdf:d.params.defaults=[])
  (hY:∀ (w:JV) (h:J6),YP w h->(K w.params).In h)
  (F:∀ (w:JV) (mg:Str->Jd IX) (fa:I_) (h:J6),(K w.params).In h->h.Ns Jo mg->mg d.name=B' (.ref fa)->
   ∃ fd:JP,(∀ (s:Ja) (u:IX),Vl s fd ⟨[u],[]⟩ [("_law_script",u)])/\∀ base:J6,(K w.params).In base->base.Ns Jo mg->FnOk l.prog w (K w.params) mg base dh 12 fa fd ["_law_script"] (u0 (K w.params))):
  VW q loose XP YP l.row.toRowW d [] (λf vs=>Uz f vs):=
 L2.walk_of (n:=63) (k:=12) (x:="_law_script") (CX:=λ_=>dh) (sp:=λw=>u0 (K w.params)) hn (by decide) hdf ⟨rfl,by decide,by decide⟩ hY F (λ_ _ a ns hl _ hS=>⟨a,ns,rfl,hS,hl,λ_=>rfl⟩) λ_ _ _ _ _ z=>z
end K54
open PySem PySem.W PySem.Calls PyProof.Rows
set_option maxRecDepth 100000
set_option maxHeartbeats 0
noncomputable def K54.vQ:Js:=view Mq [1,2,3,4,5,6,7,8,9,10,12,13,14,16,17,18,19,20,22,23,24,25,27,28,29,30,31,32,33,34,35,36,38,39,40,41,42,43,44,46,47,48,49,50,51,52,53,54,55,56,57,58,59,60,61,62,63,64,65,66]
theorem K54.said:OpenLaw.wellSaid Mp=true:=(congrFun Fast.te9446332074065402090 Mp).trans (by kernel_rfl)
theorem K54.seen (w:JV)(os:Ql):HD.lookAt Mq 11 (B' (.ref 6)) 3700 w os (HD.seenAt Mq K54.vQ [] (λs=>xlAt K54.vQ [] s&&recOk [] s) Je w)=B' (Je,openGood K54.vQ []):=by kernel_rfl
local macro_rules|`(tactic|o_head $H)=>`(tactic|refine HD.head (q:=K54.vQ) (loose:=[]) (lv:=[]) $H (N:=7400) (HD.left (by kernel_rfl) (fun s=>by kernel_rfl) (by kernel_rfl) (by kernel_rfl) (fun w=>by kernel_rfl) K54.seen (fun w os=>by kernel_rfl)) (by rfl) (by rfl) (by rfl) (by rfl) (by assumption) (by decide+kernel) ⟨rfl,rfl,rfl,rfl,rfl,by decide+kernel⟩ ?hw ?hc)
theorem PySem.Challenge.cw_oathduel_k54_refused_papers_holds : PySem.Challenge.rw_oathduel_k54_refused_papers.Holds := by
 w_on
 refine holds_law K54.said λsaid=>?_
 k_head
 (case hw=>w_witness2)
 k_fill
 refine K54.walk (l:=Mp) rfl rfl (λw h Y=>PySem.W.kIn_of Y) ?F
 case F=>
  intro w mg fa h KX G hmg;apply K54.all_mk KX G hmg
  (case yD|yC1|yC2|CBy|yCW|yC5|yC6|yC7|yC8|yC9|zV|a1|a2|a3|a4|a5|a6|a7|a8|a9|a10|a11|a12|a13|a14|a15|a16|a17|a18|a19|a21|a22|a25|a26|a28|a29|a30|a33|a36|a39|a40|a41|a42|a43|a44|a45|a46|a47|a48|a49|a50|a51|a52|a53|a54|a55|a56|a59|a60|a61|i1|z0|z1|z2|z3|z4|z5|z6|z7|z8|z9|z10|z11|z12|z13|z14|z15|z16|zW|zS|CBkc|u1|u2|u3|w1|w2|w3|w4|w5|w6|w7|w8|w9|w10|v1|v2|v3|v4|v5|v6|wBB|n2B|n3B|n3W|t1|t2|t3|t4|t5|t6=>k_is)
  (case F1|F2|F3|F4|F5|F6|F7|F8|F9|F10|F11|F12|F13|F14|F15|F16|F17|F18|F19|F21|F22|F25|F26|F28|F29|F30|F33|F36|F39|F40|F41|F42|F43|F44|F45|F46|F47|F48|F49|F50|F51|F52|F53|F54|F55|F56|F59|F60|F61=>refine' L2.fun_mk ?l ?c ?k;(case l=>k_is);(case c=>k_is);(case k=>k_is))
  (case xCW=>k_exc)
  (case CBxi=>kernel_rfl)
  (case w1p=>rfl)
  (case kBV=>kit_is)
  (case kB_C1=>kit_is)
  (case kB_C2=>kit_is)
  (case kB_CW=>kit_is)
  (case kB_C5=>kit_is)
  (case kB_C6=>kit_is)
  (case kB_C7=>kit_is)
  (case kB_C8=>kit_is)
  (case kB_C9=>kit_is)
  (case kWV=>kit_is)
  (case kW_C1=>kit_is)
  (case kW_C2=>kit_is)
  (case kW_CB=>kit_is)
  (case kW_C5=>kit_is)
  (case kW_C6=>kit_is)
  (case kW_C7=>kit_is)
  (case kW_C8=>kit_is)
  (case kW_C9=>kit_is)
  (case xC5=>k_exc)
  (case kHV=>kit_is)
  (case kH_C1=>kit_is)
  (case kH_C2=>kit_is)
  (case kH_CB=>kit_is)
  (case kH_CW=>kit_is)
  (case kH_C6=>kit_is)
  (case kH_C7=>kit_is)
  (case kH_C8=>kit_is)
  (case kH_C9=>kit_is)
  (case kBD=>kit_is)
  (case kWD=>kit_is)
  (case kHD=>kit_is)
