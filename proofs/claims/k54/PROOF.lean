import PyProof.Rows.All
import Wide.All
import OpenK.AllK
import Wide.FinOn
import Lean
import PyProof.EqAt
import PyProof.EqKinds
import PyProof.TupleCall
import PySem.Challenge.RW_oathduel_k54_refused_papers
set_option Elab.async false
set_option linter.all false
set_option maxRecDepth 100000
set_option maxHeartbeats 4000000
open Array renaming length_toList->JE,getElem?_toList->JQ,getElem?_eq_some_iff->J9,getElem?_eq_getElem->Kf,contains_iff_mem->MP,perm_iff_toList_perm->M4,mem_toList_iff->Nc,toList_push->NJ,forIn_toList->OB,getElem?_eq_none->OV,getD->Pb,mk->Pr,toList_setIfInBounds->Qi,append_assoc->Qj,toList_filterMap->RG,toList_reverse->SH,size_map->SI,getElem_toList->SJ,toList_append->S7,find?_toList->T7,toList->US,toList_inj->Vg,replicate->VS,size_zip->WD
open Array.Perm renaming refl->VT
open Bool renaming true->IS,false->IU,false_ne_true->Jz,false_eq_true->JK,and_eq_true->JT,and_false->J8,eq_iff_iff->Lw,false_and->NX,not_true->Pj,rec->Pq,and_eq_true_iff->SG,eq_false_iff->UR,or_eq_true->VR,not_false->WC,true_and->Xm,false_or->Xn,and_self->Xo,true_or->Yb
open Decidable renaming byContradiction->WV
open False renaming elim->Ld
open ForInStep renaming yield->Os,done->WB
open Int renaming emod_lt_of_pos->Kj,emod_nonneg->Kz,toNat_natCast->Mh,lt_trans->MO,le_refl->OI,mul_le_mul_of_nonneg_right->Pa,fdiv_eq_ediv_of_nonneg->Qh,lt_or_gt_of_ne->T5,lt_or_eq_of_le->T6,zero_add->UP,le_of_lt->UQ,add_mul->Vt,lt_irrefl->Xl,one_mul->YM,mul_one->YN,not_lt->Zm
open List renaming length_map->IR,getElem?_eq_some_iff->IY,getElem?_eq_getElem->IZ,length_append->I_,getD_eq_getElem?_getD->Jd,mem_singleton->Jf,mem_of_getElem?->Ji,mem_cons_of_mem->Jk,size_toArray->Jn,mem_cons_self->Jp,getElem?_map->Jx,take_of_length_le->Jy,mem_append->JA,mem_cons->JC,append_assoc->JG,length_cons->JJ,length_take->JN,map_append->JO,getElem?_append_left->JP,length_singleton->JW,contains_iff_mem->JX,mem_filterMap->JZ,getElem?_append_right->J0,mem_map->J1,map_cons->J',append_nil->Kg,mem_filter->Kr,length_eq_zero_iff->Kt,mem_append_right->Ku,take_add_one->Kv,pairwise_map->Kw,getElem?_eq_none->KG,range->KI,map_map->KJ,take_append_drop->KU,nodup_iff_pairwise_ne->K_,length_nil->Lg,length_filter_le->Lk,pairwise_cons->Ls,mem_range->Lu,all_eq_true->Ly,nodup_append->LG,nodup_cons->LQ,find?_cons->LR,pairwise_append->LV,length->LX,length_range->Mf,pairwise_iff_getElem->Mj,drop_eq_getElem_cons->Mk,mem_iff_getElem?->Mn,any_eq_true->Ms,mem_of_mem_take->MC,mem_map_of_mem->MK,getElem_of_mem->ML,length_drop->MV,filter_append->M3,mem_append_left->Na,any_cons->Ni,filterMap_cons->Nj,getElem?_set_self->Ny,foldl_cons->NA,ext_getElem?->NI,exists_mem_of_ne_nil->N8,filter_cons_of_pos->OG,filter_cons_of_neg->OH,take_zero->OS,take_succ_eq_append_getElem->OT,take_sublist->OU,pairwise_reverse->O0,not_mem_nil->O9,mem_reverse->O_,getElem_mem->O',Pairwise->Pi,reverse_reverse->Pm,getElem?_set_ne->Pn,getElem?_append->Po,range_succ->PB,nil_append->PD,getElem?_range->PK,map_nil->PZ,any_map->P0,find?_eq_none->Qe,drop_drop->Qf,contains_cons->Qg,rel_of_pairwise_cons->Ql,mem_or_eq_of_mem_set->Qm,getElem?_eq_none_iff->Qn,reverse_perm->QD,getElem_take->QE,drop_sublist->QF,length_erase_of_mem->QV,getElem?_take_of_lt->QW,cons_ne_nil->Rf,Perm->Rg,map_id'->RB,length_pos_of_mem->RC,drop_of_length_le->RE,all_map->RF,of_mem_zip->RQ,getElem?_toArray->R1,replicate->Sy,nodup_nil->Sz,mem_of_mem_drop->SA,mem_erase_of_ne->SB,idxOf_le_length->SC,getElem_toArray->SD,drop_left->SE,toList_toArray->S4,take_succ_cons->S5,length_pos_iff->S6,all_cons->Tc,map_inj_right->TZ,lookup_append->T4,reverse_cons->UM,foldl_append->UN,filter_congr->UO,mem_toArray->Ve,map_snd_zip->Vf,lookup->Vs,length_set->VO,idxOf_cons->VP,drop_left'->VQ,take_take->Wy,take_left->Wz,map->WA,reverse->X'
open List.Pairwise renaming imp_of_mem->Om,filter->Pp,nil->QG,map->ZI,imp->ZJ
open List.Perm renaming append_left->Yi,trans->aal,swap->aaN
open List.cons renaming inj->aa4
open List.forIn' renaming loop->aac
open Nat renaming le_refl->IX,ne_of_lt->Js,zero_le->Jw,lt_of_lt_of_le->Ki,le_trans->KE,le_of_lt->KM,lt_irrefl->Lv,lt_succ_of_lt->LF,zero_add->Mv,lt_or_ge->Mw,lt_trichotomy->MD,sub_self->MM,ne_of_gt->MN,lt_of_le_of_lt->M1,add_sub_assoc->NH,le_succ->NW,eq_or_lt_of_le->OA,add_assoc->Ph,lt_trans->PX,add_zero->PY,le_of_lt_succ->QC,succ_le_succ->Rc,add_sub_cancel_left->Re,eq_zero_of_not_pos->RA,pow_le_pow_right->Sx,one_le_two_pow->TV,eq_zero_or_pos->TX,add_right_comm->TY,succ_pos->UH,le_succ_of_le->UI,le_of_succ_le->UJ,le_of_eq->UK,ble->UL,le_add_right->Vd,le_add_left->VN,mod_lt->Wx,pow_succ->X9,min_self->X_,sub_le->Zl
open Ne renaming symm->Lq
open Option renaming some->B',none->IV,map_eq_some_iff->KP,isSome_iff_exists->Ol,map_some->Oq,isNone_none->Qd,isSome_map->QB,getD_some->Rb,rec->Rz,isSome_some->TU,getD_none->Vc
open Option.some renaming inj->Jo
open Or renaming inl->Jl,inr->Ob
open Prod renaming ext->Sw,snd->UG,rec->YL
open Prod.mk renaming injEq->Xk
open PyProof renaming noPylong_small->Rp
open PyProof.Rows renaming boot_isinstance->Jt,wpS_bind->JH,envOfC->JU,boot_abs->J5,wpS_pure->J6,arrOf->J7,pendingOf->Ka,boot_tuple->Ko,Keyed->Kq,boot_list->KC,SortSt->KD,seqObj->KZ,callWith_type1->Lo,wpS_forRange->Me,failedOf->Mm,IntsAre->M5,wpS_mono->Nr,boot_sorted->Nt,listUpdate_at->Oj,callWith_builtin1->O8,AllBare->Pg,get?_update_seq->Pz,wpS_get->QA,subscriptTail->QT,callWith_kw->QU,elem'->Ra,wpS_modify->Rq,subscriptTail_builtinR->Rr,setPending->Rt,plain_sorted->Ru,mem_zip_self->Rv,entry_sorted->Rw,boot_dict->Rx,boot_bool->Ry,entry_list_sort->RP,kws_cons->RY,boot_max->RZ,boot_int->R0,wpS_lift->Sm,slot_list_sort->Sn,seqEpoch_at->So,pairsOf_toList->Sq,kws_nil->Sr,kind_sorted->Ss,joinParts_cons->Su,getElem?_mirror_all->S3,call_abs_int->Tb,size_push'->TQ,Subscript_->TR,mergeAt'->UD,listItems_at->UE,args_sorted1->UF,join_plain_closes->Vb,getElem?_bubble->VM,pairsOf->VY,minRun'->VZ,sortedHeap_old->Ws,sortedHeap->Wt,boot_range->Wu,args_list_sort->Wv,SortKind->Ww,sortedHeap_at->Xj,numOf->XE,setArr->X5,mirror->X6,bitAnd_m1->X7,KskOut->X8,boot_sum->Ye,boot_any->Yg,boot_all->Yh,tail_any->YK
open PyProof.Rows.F renaming plain_set_update_loop->LD,entry_set_update_loop->Oa
open PyProof.Rows.IntsAre renaming length->Sv
open PyProof.Rows.IsTup renaming new->aab
open PyProof.Rows.SortSt renaming mk'->Qc
open PySem renaming Value->IH,wpAny_bind->II,Addr->IL,Shared->IM,wpAny_pure->I0,mainGlobals->Ja,Program->Jc,PyData->Jg,FuncData->Jr,model->Ju,World->Jv,starEach->JI,Heap->JM,Around->JV,wpAny_mono->J2,wpAny_loadPart_at->Kb,boot_len->Kc,Expr->Km,wpAny_holding->Ks,cellsFrom->Kx,Stmt->KL,compareOp->KR,sizeLine_eq->KS,wpAny_execs_nil->KY,wpAny_Call_Name_kw->La,codeAny_builtin->Le,mem_of_lookup->Lj,wpAny_truthy_bool->Ll,wpAny_setState_of->Lm,tupleKind->Lp,eval->LN,sliceBounds->LU,plainId_quiet->L0,sysModules->Mb,codeAny_handlers_test->Ml,cLine->Mt,codeAny_call_builtin->Mz,backTo->MF,wpAny_handleBy_cons->MG,wpAny_rule->MY,tupleKind_room_in1->MZ,wpAny_pyIter_list->M8,wpAny_newObj_type->M9,assignEach->Nh,wpAny_tryCatch->Nl,wpAny_execs_cons->Nm,wpAny_call_entry->Nn,codeAny_mono->Nw,binaryOp->Nz,relabel->NG,wpAny_setField->NP,wpAny_seqItems->NQ,rawInt->NR,intItems->NS,checkBuiltinCall->N0,codeAny_handlers_suite_as->N5,Scope->N6,wpAny_standAt->Oe,wpAny_passesOwn->Oo,pyNext->Ou,wpAny_typeOf->OK,storedH->OL,bootBuiltins->OM,wpAny_notOrdered_dict->OW,builtinLookup_eq_fast->OX,wpAny_call->O4,wpAny_Try_except->O5,Thread->O7,wpAny_newList->Pc,behindInMarks->Pd,OsState->Pe,ExceptHandler->Pf,wpAny_ite_split->Pu,letOwnedTupleGo->Pw,wpAny_setEntries_of->PF,atKey->PH,argBest->PP,swapsWith->P4,NameKind->P_,wpAny_excMatches_sub_self->Qk,wpAny_letGo->Qo,wpAny_Assign_Name->Qp,valueAt->Qq,ofAClassStatement->Qr,leaving->Qs,foldedSetIterable->Qt,excClassObj->Qu,wpAny_getItem_list_slice->QN,wpAny_comprehension_free->QO,wpAny_attempt->QP,attributeBase->QQ,wpAny_forIn_list->QZ,wpAny_eqBool_int->Q0,wpAny_callSpecial?_slot->Q1,wpAny_askSetting->Q2,noFill_tuple_add->Q3,bindArgs->Q4,GenState->Q7,wpAny_pyNext_range_end->Rh,wpAny_pyIter_rangeiter->Ri,call_meetsIn->Rj,wpAny_updateSeq->RJ,wpAny_specialOf->RK,typeLookup_type->RL,codeAny_of_tree->RM,Model->RO,wpAny_isTrue_Compare1->RU,wpAny_eqIsQuiet_tuple->RW,wpAny_field->R5,subscripted->R6,pyIter->R7,newFunctionEnv->R8,isSubtype_type->R9,dictSetDefault->R_,IsRangeIter->Si,pickOrder->SN,holding->SO,callerA->SQ,wpAny_isSubtype_exc->SV,kt_meets_setdefault->SX,strLen_append->S9,seq_tuple_add->S_,wpAny_pyIter_range->Ti,typeLookup->Tj,merged->Tn,isInstance->To,getattributeRaised->Tp,denote->Tq,checkCount->Tr,call->Ts,assign->Tt,Result->TF,AnswersAll->TN,wpAny_storeSet_of->Ug,wpAny_pyIter_slot->Uh,wpAny_pyIter_enum->Ui,wpAny_assign_Name->Uj,setNext->Uk,setAddHashed->Ul,searchCouldBeSeen->Um,getItem->Uq,concat_meets->Ur,ExcBaseFacts->Uz,BindsTo->UB,wpAny_isInstance->U0,wpAny_Dict_empty->U1,seqItems?->U2,noteFrame->U3,kt_code_dict_new->U4,entryFor_of_tree->U5,wpAny_of_eq->Vl,storedH_new->Vm,seqIndex_of->Vn,keywordEach->Vo,hashByValue->Vp,wpAny_looks_onW->VB,pushCells_keeps->VC,call_isinstance->VD,Keyword->VX,wpAny_newTuple->V8,wpAny_fieldsOf->V9,wpAny_Name->V_,sliceRange->V',setField->Wa,recursionLimit->Wb,getAttr?->Wc,firstArgMember->Wd,entryFor_alias->We,entryFor->Wf,call_meets->Wg,callType_codes->Wh,builtinsNs->Wi,bindL->Wj,bindC->Wk,argsOk->Wl,signature?_of->W0,setSearchFrom->W1,nums_intItems->W2,intBits_le_64->W3,evalPart_none->W4,call_list_seq->W5,treeTable->Xv,onTheHeap->Xw,numAt->Xx,getAttrBy->Xy,CmpOp->XB,spliced->XU,intKind->XW,Within->XX,Params->X0,OwnTail->X4,wpAny_If->Yx,compEnvC->Yy,backToKw->Yz,ReadsAll->YG,Drawn->YI,Fin->Z_
open PySem.Around renaming under_plainId->KO,under->UC
open PySem.Builtin renaming bitAnd->Sl
open PySem.Builtin.Builtins renaming bindParams->PV
open PySem.Builtin.Dict renaming updateFrom->Nq,selfAndRest->QR,addKeywords->QS,pairItems->Ro,keyAndDefault->Wr
open PySem.Builtin.Frozenset renaming newClass->Qb,updateFrom->VL,sizeOf->Xi,slot0->XD
open PySem.Builtin.List renaming listLengthHint->PU,listUpdate->XC
open PySem.Builtin.Range renaming rangeSize->Q_
open PySem.Calls renaming evalArgs_plain->NV,call_function_entry->N7,spliced_cons->Oz,callWith_builtin->OR,Name_function_global->P',Constant_str->Qa,spliced_nil->Qz
open PySem.Challenge renaming rw_oathduel_k54_refused_papers->LL,pw_oathduel_k54_refused_papers->LM
open PySem.Code renaming quiet_builtin->Oy,isFrame->UA,frames->YJ
open PySem.Data renaming fields->Vr,cell->XA,dict->aaa
open PySem.DictEntry renaming refKey->Z'
open PySem.EntryCells renaming newEntry->SZ
open PySem.EqMixed renaming ne_str_bool->WQ,ne_bool_str->WR,eq_str_bool->WT,eq_bool_str->WU,ne_str_int->Xe,ne_int_str->Xf,eq_str_int->Xg,eq_int_str->Xh
open PySem.EqNone renaming ne_none_none->WJ,ne_none_bool->WK,ne_bool_none->WL,eq_none_none->WM,eq_none_bool->WN,eq_bool_none->WO,ne_str_none->W8,ne_none_str->W9,ne_none_int->W_,ne_int_none->W',eq_str_none->Xa,eq_none_str->Xb,eq_none_int->Xc,eq_int_none->Xd
open PySem.F renaming plainAttrs_list->JY,slot_list_append->J3,type_list_append->J_,slot_dict_setdefault->LP,excBase_ValueError->Md,args_dict_setdefault_3->Mr,entry_dict_setdefault->MB,plain_max_loop->MU,args_tuple_add_2->Oi,entry_tuple_add->OF,slot_tuple_add->OQ,typeOf_object_class->OY,slot_list_index->OZ,type_list_index->Q8,entry_max_loop->Q9,kt_typeCall_dict_1->Sk,args_dict_init_2->TM,entry_dict_init->Uy,kt_called_dict->Va,slot_set_iter->VH,plain_set_new->VI,entry_bexc_ga->VJ
open PySem.Heap renaming get?_push_of_some->IP,lt_size->Jh,get?_push_size->JB,get?_update_other->JR,get?_update_self->KF,SameBut->M',get?_none_of_le->NU,FlyingW->N4,get?_update_ne->N_,size_push->OP,MadeExcOf->Sj,get?_push_ne->Uw,get?_push_at->Ux,size_update->U',mk->ZH
open PySem.Heap.DictOf renaming new->VG
open PySem.Heap.DictOfH renaming new->Z9
open PySem.Heap.IsSliceOf renaming new->TL
open PySem.Heap.SameBut renaming update->LC
open PySem.IsL renaming update->Z8
open PySem.IsRange renaming new->YH
open PySem.NameKind renaming cell->Oh,free->W7
open PySem.Obj renaming mapSeq->Lb,mapFields->Ma,data_mapFields->Mq,isFreed_of_fields->ND,cls_mapFields->Qy,data_mapDictKeys->Sh,putSet->Wq
open PySem.PassesOwn renaming never->Ky,leaving->ZG
open PySem.PyData renaming eqv->Kh,eqvAll->KQ,canLayAll0->Ln,depthAll->Mi,none->MR,tuple->Nx,int->Ox,strOk->PQ
open PySem.SeqAt renaming shaped->Kn,readOf->Uv,EqAt->Zk
open PySem.SeqAt.EqAt renaming str_int->Tz,int_str->TC,none_bool->YD,bool_none->YE,bool_bool->YF,str_none->YV,str_bool->YW,none_str->YX,none_int->YY,int_none->YZ,int_bool->Y0,bool_str->Y1,bool_int->Y2,str_str->Zi,int_int->Zj,same->aak
open PySem.SetTable renaming below->LZ,insertAt->MA,Probe->Og,insertAt_perm->OO,runEnd->Py,leap->Q6,fresh->Sf,turns->Wp
open PySem.SetTable.below renaming go->Sg
open PySem.SetTable.layClean renaming free->NB
open PySem.SetTable.probe renaming go->Q5
open PySem.Shared renaming TypeIs->Ta
open PySem.Shared.TypeIs renaming not_mainsLoader->Vq
open PySem.Str renaming ofString->IK,join->Wo,empty->Xz
open PySem.Txt renaming join->Uu
open PySem.Value renaming ref->JS,builtin->Mu,none->M0,int->Np,type->NT,isInt_shape->ON,str->U_,bool->Wn,isStrOf->W6,isInt->YB,float->YC
open PySem.Value.ref renaming inj->aa3
open PySem.W renaming Frag->IJ,nsIn->Jb,mg_none_of->Je,kitOne->Jq,mroIn->JL,mg_of->Kk,findIn->Kl,kia_one->Lf,boot_heap->Lh,looks_findIn->Lr,keepIn->LJ,excIn->LK,SharedT->LO,clsIn->L_,fnOf->Mc,looks_mroIn->MH,hideAll_get->MJ,hasDictIn->M_,looks_clsIn->N9,Looks->Of,callWith_K->Ov,boot_drawn->Ow,boot_toks->O6,OpenLaw->Pl,hideAll->Px,kdu_collect->PJ,of_hideAll->P8,through->Qv,specialIn->Qw,methodObj->Qx,funFrames_hide->Rk,cellsFrom_some->Rl,absHeap->Rm,instObj->RN,ke_canLayAll0->RX,lookIn->Sa,hideAll_none->Sb,codeIn->Se,topStub->SS,ke_depthAll->SY,tail_of_in->Tu,stepOk->Tv,isNs_of_in->Tw,kitx_list->Us,kitx_dict->Ut,plainGet->U6,kdl_dict->U7,WalkO->U8,readsIn->VE,findCls->VF,stepT->Wm,topRun->XY,isFn->XZ
open PySem.W.Fast renaming tw5923862056798008813->P9
open PySem.W.Looks renaming ld->U9
open PySem.W.WData renaming int->Z7
open PySem.W.WShape renaming has->Zh
open PySem.Walks renaming list->P7,range->YA
open PySem.pickOrder renaming go->Uo
open StateT renaming run_pure->VA
open Sum renaming inl->Ke,inr->NF
open Sum.inl renaming inj->NO
open True renaming intro->LS
open _root_ renaming List->IG,Option->IQ,decide_eq_false->IW,decide_eq_true->Jj,Bool->Jm,if_neg->JD,if_pos->JF,Array->J4,of_decide_eq_true->Kd,congrArg->Kp,reduceIte->K',beq_eq_false_iff_ne->Li,String->LA,decide_eq_decide->Mp,of_decide_eq_false->MW,if_false->MX,DecidableEq->Nb,beq_iff_eq->Ng,decide_eq_true_iff->Nv,ForInStep->NC,beq_self_eq_true->NZ,if_true->On,Unit->Pt,getElem?_pos->PN,StateT->QM,bne_self_eq_false->Ue,modify->XT
namespace L2
open PySem PySem.Spec PyProof.Rows
abbrev bv:=Sum Int Str
def lL:bv->IH->Jm
 |.inl k,v=>YB k v
 |.inr x,v=>W6 x v
def Hg(w:Jv):bv->Int
 |.inl k=>hashInt k
 |.inr x=>hashStr w x
theorem cg:∀{k:bv} {v:IH},lL k v=IS->(∃i t,k=Ke i/\v=Np i t)\/(∃x t,k=NF x/\v=U_ x t)
 |.inl i,v,h=>by
  obtain⟨t,e⟩:=ON (k:=i) (v:=v) h;exact .inl ⟨i,t,rfl,e⟩
 |.inr x,v,h=>by
  obtain⟨t,e⟩:=Value.isStrOf_shape (x:=x) (v:=v) h;exact .inr ⟨x,t,rfl,e⟩
theorem t9(i:Int)(t:Tok):lL (.inl i) (.int i t)=true:=by simp [lL,YB]
theorem t_(x:Str)(t:Tok):lL (.inr x) (.str x t)=true:=by simp [lL,W6]
theorem CG(a b:Int):decide ((Ke a:bv)=Ke b)=(a == b):=by
 by_cases e:a=b
 ·subst e;simp
 ·have h:¬(Ke a:bv)=Ke b:=λq=>e<|NO q;rw[IW h];exact(Li.mpr e).symm
theorem CI(a b:Str):decide ((NF a:bv)=NF b)=decide (a=b):=by
 by_cases e:a=b
 ·subst e;simp
 ·have h:¬(NF a:bv)=NF b:=λq=>e<|Sum.inr.inj q;rw[IW h,IW e]
theorem CJ(a:Int)(b:Str):decide ((Ke a:bv)=NF b)=false:=IW λq=>nomatch q
theorem CK(a:Str)(b:Int):decide ((NF a:bv)=Ke b)=false:=IW λq=>nomatch q
def bi(prog:Jc)(w:Jv):PySem.KeyKind prog w bv where
 is:=lL
 hash:=Hg w
 inj:=λv a b ha hb=>by
  rcases cg ha with⟨i,t,rfl,rfl⟩|⟨x,t,rfl,rfl⟩
  ·rcases cg hb with⟨j,u,rfl,e⟩|⟨y,u,rfl,e⟩
   ·injection e with e1 _;rw[e1]
   ·exact nomatch e
  ·rcases cg hb with⟨j,u,rfl,e⟩|⟨y,u,rfl,e⟩
   ·exact nomatch e
   ·injection e with e1 _;rw[e1]
 byValue:=λk v h=>by
  rcases cg h with⟨i,t,rfl,rfl⟩|⟨x,t,rfl,rfl⟩<;>rfl
 pyHash:=λhv h=>by
  rcases cg hv with⟨i,t,rfl,rfl⟩|⟨x,t,rfl,rfl⟩
  ·exact wpAny_pyHash_int h
  ·exact wpAny_pyHash_str h
 eqBool:=λhu hv h=>by
  rcases cg hu with⟨i,t,rfl,rfl⟩|⟨x,t,rfl,rfl⟩
  ·rcases cg hv with⟨j,u,rfl,rfl⟩|⟨y,u,rfl,rfl⟩
   ·rw[CG]at h;exact Q0 h
   ·rw[CJ]at h;exact TC i t y u _ _ _ _ h
  ·rcases cg hv with⟨j,u,rfl,rfl⟩|⟨y,u,rfl,rfl⟩
   ·rw[CK]at h;exact Tz x t j u _ _ _ _ h
   ·rw[CI]at h;exact wpAny_eqBool_str h
 «strs»:=λk x t v h=>by
  rcases cg h with⟨i,u,rfl,e⟩|⟨y,u,rfl,e⟩
  ·exact nomatch e
  ·injection e with e1 _;subst e1;cases v<;>rfl
theorem oC(prog:Jc)(w:Jv)(i:Int)(t:Tok):(bi prog w).is (.inl i) (.int i t)=true:=t9 i t
theorem oE(prog:Jc)(w:Jv)(x:Str)(t:Tok):(bi prog w).is (.inr x) (.str x t)=true:=t_ x t
inductive V where
 |non|bl (b:Jm)|int (i:Int)|str (x:Str)|byt (b:J4 UInt8)|flt (b:UInt64)|ref (a:IL)|ty (n:LA)
 deriving Nb
def RelV:V->IH->Prop
 |.non,u=>u=M0
 |.bl b,u=>u=Wn b
 |.int i,u=>∃t,u=Np i t
 |.str x,u=>∃t,u=U_ x t
 |.byt b,u=>∃t,u=Value.bytes b t
 |.flt b,u=>∃t,u=YC b t
 |.ref a,u=>u=JS a
 |.ty n,u=>u=NT n
abbrev Vals:IG V->IG IH->Prop:=Paired RelV
theorem Vals.length(r:Vals xs us):xs.length=us.length:=Paired.length r
theorem Vals.get:∀{xs:IG V} {us:IG IH} {i:Nat} {x:V},Vals xs us->xs[i]? =B' x->∃u,us[i]? =B' u/\RelV x u
 |_,_,_,_,.nil,e=>by simp at e
 |_,_,0,_,.cons r _,e=>by simp at e;subst e;exact⟨_,rfl,r⟩
 |_,_,i+1,x,.cons _ t,e=>by
  obtain⟨u,h1,h2⟩:=Vals.get (i:=i) (x:=x) t (by simpa using e);exact⟨u,by simpa using h1,h2⟩
theorem Vals.set(r:RelV x u):∀{xs:IG V} {us:IG IH} (i:Nat),Vals xs us->Vals (xs.set i x) (us.set i u)
 |_,_,_,.nil=>.nil
 |_,_,0,.cons _ t=>.cons r t
 |_,_,i+1,.cons q t=>.cons q<|Vals.set r i t
theorem Vals.append:∀{xs ys:IG V} {us ws:IG IH},Vals xs us->Vals ys ws->Vals (xs++ys) (us++ws)
 |_,_,_,_,.nil,s=>s
 |_,_,_,_,.cons r t,s=>.cons r<|Vals.append t s
theorem Vals.take:∀{xs:IG V} {us:IG IH} (n:Nat),Vals xs us->Vals (xs.take n) (us.take n)
 |_,_,0,_=>.nil
 |_,_,_+1,.nil=>.nil
 |_,_,n+1,.cons r t=>.cons r<|Vals.take n t
theorem Vals.drop:∀{xs:IG V} {us:IG IH} (n:Nat),Vals xs us->Vals (xs.drop n) (us.drop n)
 |_,_,0,r=>r
 |_,_,_+1,.nil=>.nil
 |_,_,n+1,.cons _ t=>Vals.drop n t
theorem Vals.none_of:∀{xs:IG V} {us:IG IH} {i:Nat},Vals xs us->xs[i]? =IV->us[i]? =none:=λ{xs us i} r e=>by
 have h1:=r.length;have h2:xs.length<=i:=Qn.mp e;exact Qn.mpr (by lia)
def RelO:IQ V->IQ IH->Prop
 |some v,B' u=>RelV v u
 |none,IV=>True
 |_,_=>False
def KV{κ:Type}:IG (κ×V)->IG (κ×IH)->Prop:=Paired λ(p:κ×V) (q:κ×IH)=>p.1=q.1/\RelV p.2 q.2
def kV:bv->V
 |.inl i=>.int i
 |.inr x=>.str x
inductive HO where
 |lst (xs:IG V)
 |tup (xs:IG V)
 |dK (kvs:IG (bv×V))|dT (kvs:IG (IG bv×V))
 |set (S:Int->Jm) (n:Nat)
 |ins (C dx:IL) (fs:IG (Str×V))
 |own (x:IL)
 |xd (fs:IG (Str×V))
 |met (f x:IL)
 |rng (lo hi:Int)
 |frz (o:Obj) (u:HO)
 |tbl (ps:J4 IH)
 |ext (φ:JM->Prop)
abbrev Hp:=IL->IQ HO
def upd(H:Hp)(a:IL)(o:HO):Hp:=λb=>if b=a then B' o else H b
theorem ad:upd H a o a=B' o:=by unfold upd;rw[JF rfl]
theorem ao(h:b≠a):upd H a o b=H b:=by unfold upd;rw[JD h]
theorem fm:upd (upd H a o) a u=upd H a u:=by
 funext b;unfold upd;split<;>rfl
theorem vy{H:Hp}(h:H a=B' o)(h':H b=B' u)(d:o≠u):a≠b:=by
 intro e;subst e;rw[h]at h';exact d<|Jo h'
theorem aj{H:Hp}(h:H a=B' o)(h':H b=IV):a≠b:=by
 intro e;subst e;rw[h]at h';cases h'
section
variable (P:Jc)(w:Jv)
def ObjOk(H:Hp)(h:JM)(a:IL):HO->Prop
 |.lst xs=>xs.length<=sizeLine/\∃(KN:IG IH) (n:Nat),Vals xs KN/\h.get? a=B' {cls:=.type "list",data:=.seq KN.toArray n}
 |.tup xs=>xs.length<=sizeLine/\∃KN:IG IH,Vals xs KN/\IsTup h a KN.toArray
 |.dK kvs=>kvs.length<=sizeLine/\(a == Mb)=IU/\∃vs,KV kvs vs/\h.DictOf (bi P w) a vs
 |.dT kvs=>kvs.length<=sizeLine/\(a == Mb)=IU/\∃xs:IG (IG bv×IL×IH),
   Paired (λ(p:IG bv×V) (q:IG bv×IL×IH)=>p.1=q.1/\H q.2.1=B' (.tup<|p.1.map kV)/\RelV p.2 q.2.2) kvs xs/\
   ∃o es ep,h.get? a=B' o/\o.ExactDict/\o.data=.dict es ep/\es.toList=xs.map (entryOfKey<|Lp<|bi P w)/\(xs.map (·.1)).Nodup
 |.set S n=>h.SetOf (XW P w) a S n
 |.ins C dx fs=>H dx=B' (.own a)/\fs.length<=1000/\dx≠a/\h.get? a=B' (RN C dx)/\
   ∃mA,h.Ns1 dx mA/\(∀f,RelO (fs.lookup f)<|mA f)/\XX mA (fs.map (·.1))
 |.own _=>∃o,h.get? a=B' o
 |.xd fs=>∃mA,h.Ns1 a mA/\∀f,RelO (fs.lookup f)<|mA f
 |.rng lo hi=>∃t u v,h.get? a=B' {cls:=.type "range",data:=.fields #[.int lo t,.int hi u,.int 1 v]}
 |.frz o u=>h.get? a=B' o/\ObjOk H h a u
 |.tbl ps=>h.get? a=B' {cls:=.none,data:=.fields ps}
 |.met f x=>h.get? a=B' (Qx (.ref f)<|.ref x)
 |.ext φ=>φ h/\(∃o,h.get? a=B' o)/\∀h1 h2:JM,φ h1->(∀o,h1.get? a=B' o->h2.get? a=B' o)->φ h2
def HOk(H:Hp)(h:JM):Prop:=∀a o,H a=B' o->ObjOk P w H h a o
end
section
variable {P:Jc}{w:Jv}{H H':Hp}{h h':JM}{a:IL}{o:HO}
theorem ObjOk.lt(x:ObjOk P w H h a o):a < h.objs.size:=by
 cases o with
 |lst xs=>obtain⟨_,_,_,_,e⟩:=x;exact Jh e
 |tup xs=>obtain⟨_,_,_,p⟩:=x;exact p.lt
 |dK kvs=>obtain⟨_,_,_,_,o,_,_,e,_⟩:=x;exact Jh e
 |dT kvs=>obtain⟨_,_,_,_,o,_,_,e,_⟩:=x;exact Jh e
 |set S n=>obtain⟨o,_,_,_,e,_⟩:=x;exact Jh e
 |ins C dx fs=>obtain⟨_,_,_,e,_⟩:=x;exact Jh e
 |own y=>obtain⟨_,e⟩:=x;exact Jh e
 |xd fs=>obtain⟨_,⟨_,_,_,e,_⟩,_⟩:=x;exact Jh e
 |rng lo hi=>obtain⟨_,_,_,e⟩:=x;exact Jh e
 |frz ob u=>obtain⟨e,_⟩:=x;exact Jh e
 |tbl ps=>exact Jh (show h.get? a=B' _ from x)
 |met f y=>exact Jh (show h.get? a=B' _ from x)
 |ext φ=>obtain⟨_,⟨_,e⟩,_⟩:=x;exact Jh e
theorem Paired.mapP{α β:Type}{F G:α->β->Prop}:∀{l₁:IG α} {l₂:IG β},Paired F l₁ l₂->(∀a b,F a b->G a b)->Paired G l₁ l₂
 |_,_,.nil,_=>.nil
 |_,_,.cons r t,f=>.cons (f _ _ r)<|Paired.mapP t f
theorem ObjOk.stay(x:ObjOk P w H h a o)(k:∀b u,(b=a\/H b=B' (.own a))->h.get? b=B' u->h'.get? b=B' u)
  (ho:∀b,H b=B' (.own a)->H' b=B' (.own a)) (ht:∀b xs,H b=B' (.tup xs)->H' b=B' (.tup xs)):ObjOk P w H' h' a o:=by
 induction o with
 |lst xs=>obtain⟨z,KN,n,r,e⟩:=x;exact⟨z,KN,n,r,k _ _ (.inl rfl) e⟩
 |tup xs=>obtain⟨z,KN,r,ob,e,c⟩:=x;exact⟨z,KN,r,ob,k _ _ (.inl rfl) e,c⟩
 |dK kvs=>obtain⟨z,y,vs,r,ob,es,ep,e,c⟩:=x;exact⟨z,y,vs,r,ob,es,ep,k _ _ (.inl rfl) e,c⟩
 |dT kvs=>
  obtain⟨z,y,xs,r,ob,es,ep,e,c⟩:=x;exact⟨z,y,xs,Paired.mapP r λp q z=>⟨z.1,ht _ _ z.2.1,z.2.2⟩,ob,es,ep,k _ _ (.inl rfl) e,c⟩
 |set S n=>obtain⟨ob,es,ep,t,e,c⟩:=x;exact⟨ob,es,ep,t,k _ _ (.inl rfl) e,c⟩
 |ins C dx fs=>
  obtain⟨d,z,ne,e,mA,⟨od,es,ep,e2,c⟩,r⟩:=x;exact⟨ho _ d,z,ne,k _ _ (.inl rfl) e,mA,⟨od,es,ep,k _ _ (.inr d) e2,c⟩,r⟩
 |own y=>obtain⟨ob,e⟩:=x;exact⟨ob,k _ _ (.inl rfl) e⟩
 |xd fs=>obtain⟨mA,⟨od,es,ep,e,c⟩,r⟩:=x;exact⟨mA,⟨od,es,ep,k _ _ (.inl rfl) e,c⟩,r⟩
 |rng lo hi=>obtain⟨t,u,v,e⟩:=x;exact⟨t,u,v,k _ _ (.inl rfl) e⟩
 |frz ob u ih=>obtain⟨e,q⟩:=x;exact⟨k _ _ (.inl rfl) e,ih q⟩
 |tbl ps=>
  have e:h.get? a=B' {cls:=.none,data:=.fields ps}:=x;show h'.get? a=B' {cls:=.none,data:=.fields ps}
  exact k a _ (.inl rfl) e
 |met f y=>
  have e:h.get? a=B' (Qx (.ref f)<|.ref y):=x;show h'.get? a=B' (Qx (.ref f)<|.ref y)
  exact k a _ (.inl rfl) e
 |ext φ=>obtain⟨p,⟨o,e⟩,st⟩:=x;exact⟨st _ _ p λo q=>k _ _ (.inl rfl) q,⟨o,k _ _ (.inl rfl) e⟩,st⟩
theorem HOk.lt(x:HOk P w H h)(e:H a=B' o):a < h.objs.size:=(x a o e).lt
theorem HOk.fresh(x:HOk P w H h)(e:h.objs.size<=a):H a=none:=by
 cases q:H a with
 |none=>rfl
 |some u=>exact absurd (Ki (x.lt q) e)<|Lv _
theorem HOk.kept(x:HOk P w H h)(k:∀b u,h.get? b=B' u->h'.get? b=B' u):HOk P w H h':=λa o e=>
 (x a o e).stay (λb u _ q=>k b u q) (λ_ q=>q) λ_ _ q=>q
theorem HOk.laid(x:HOk P w H h)(k:∀b u,h.get? b=B' u->h'.get? b=B' u)(hp:h.objs.size<=a)(new:ObjOk P w (upd H a o) h' a o):HOk P w (upd H a o) h':=λb u e=>by
 have hn:=x.fresh hp;by_cases hb:b=a
 ·subst hb;rw[ad]at e;cases e;exact new
 ·rw[ao hb]at e;exact(x b u e).stay (λc v _ q=>k c v q) (λc q=>by rw[ao<|aj q hn];exact q) λc xs q=>by rw[ao<|aj q hn];exact q
end
def Rd(H:Hp)(a:IL)(u:HO):Prop:=H a=B' u\/∃o,H a=B' (.frz o u)
theorem Rd.ok(r:Rd H a u)(x:HOk P w H h):ObjOk P w H h a u:=by
 obtain r|⟨o,r⟩:=r
 ·exact x a u r
 ·obtain⟨_,q⟩:=x a _ r;exact q
def EE:IQ HO->Prop
 |some (.lst _)=>True
 |some (.dK _)=>True
 |some (.dT _)=>True
 |some (.set _ _)=>True
 |some (.ins _ _ _)=>True
 |some (.ext _)=>True
 |_=>False
section
variable {P:Jc}{w:Jv}{H:Hp}{h h':JM}{x e:IL}{o':HO}
theorem HOk.write(ok:HOk P w H h)(mu:EE (H x))(he:e=x\/H e=B' (.own x))(k:∀b u,b≠e->h.get? b=B' u->h'.get? b=B' u)(heo:∃u,h'.get? e=B' u)
  (new:ObjOk P w (upd H x o') h' x o'):HOk P w (upd H x o') h':=λb u q=>by
 have adl:∀c y,H c=B' (.own y)->c≠x:=λc y r z=>by subst z;rw[r]at mu;exact mu
 have ae5:∀c xs,H c=B' (.tup xs)->c≠x:=λc xs r z=>by subst z;rw[r]at mu;exact mu
 by_cases hb:b=x
 ·subst hb;rw[ad]at q;cases q;exact new
 ·rw[ao hb]at q;by_cases hbe:b=e
  ·have q':H b=B' (.own x):=by
    obtain z|z:=he
    ·exact absurd (hbe.trans z) hb
    ·rw[hbe];exact z
   rw[q]at q';cases q';obtain⟨v,hv⟩:=heo;exact⟨v,by rw[hbe];exact hv⟩
  ·refine(ok b u q).stay (λc v hc r=>k c v ?_ r) (λc r=>by rw[ao<|adl c b r];exact r) λc xs r=>by rw[ao<|ae5 c xs r];exact r
   obtain rfl|hc:=hc
   ·exact hbe
   ·rintro rfl;obtain z|z:=he
    ·exact adl c b hc z
    ·rw[hc]at z;cases z;exact hb rfl
end
structure Un (fs ex:IG IL)(H H':Hp)(h h':JM):Prop where
 keep:∀b o,h.get? b=B' o->H b=IV->b∉fs->b∉ex->h'.get? b=B' o
 slot:∀b o,h.get? b=B' o->H b=IV->b∈fs->b∉ex->∃sl,h'.get? b=B' {o with slots:=sl}
 free:∀b o,h.get? b=B' o->H b=IV->b∉ex->H' b=IV
 there:∀b o,h.get? b=B' o->b∉ex->∃o',h'.get? b=B' o'
 tups:∀b xs,H b=B' (.tup xs)->H' b=B' (.tup xs)
 frzs:∀b o u,H b=B' (.frz o u)->H' b=B' (.frz o u)
 tbls:∀b ps,H b=B' (.tbl ps)->∃more,H' b=B' (.tbl<|ps++more)
section
variable {fs fs' ex ex':IG IL}{H H1 H2:Hp}{h h1 h2 h':JM}{a x e:IL}{o:HO}
theorem Un.any(u:Un fs ex H H1 h h1)(q:h.get? b=B' ob)(n:H b=IV)(hx:b∉ex):∃sl,h1.get? b=B' {ob with slots:=sl}:=by
 by_cases hb:b∈fs
 ·exact u.slot b ob q n hb hx
 ·exact⟨ob.slots,u.keep b ob q n hb hx⟩
theorem Un.kept(k:∀b u,h.get? b=B' u->h'.get? b=B' u):Un fs ex H H h h':=
 ⟨λb ob q _ _ _=>k b ob q,λb ob q _ _ _=>⟨ob.slots,k b ob q⟩,λ_ _ _ n _=>n,λb ob q _=>⟨ob,k b ob q⟩,λ_ _ q=>q,λ_ _ _ q=>q,λ_ ps q=>⟨#[],by rw[q];simp⟩⟩
theorem Un.refl:Un fs ex H H h h:=Un.kept λ_ _ q=>q
theorem Un.laid(k:∀b u,h.get? b=B' u->h'.get? b=B' u)(hp:h.objs.size<=a)(hn:H a=IV):Un fs ex H (upd H a o) h h' where
 keep:=λb u q _ _ _=>k b u q
 slot:=λb u q _ _ _=>⟨u.slots,k b u q⟩
 free:=λb u q n _=>by rw[ao<|Js<|Ki (Jh q) hp];exact n
 there:=λb u q _=>⟨u,k b u q⟩
 tups:=λb xs q=>by rw[ao<|aj q hn];exact q
 frzs:=λb u xs q=>by rw[ao<|aj q hn];exact q
 tbls:=λb ps q=>⟨#[],by rw[ao<|aj q hn,q];simp⟩
theorem Un.write(mu:EE (H x))(he:e=x\/H e=B' (.own x))(k:∀b u,b≠e->h.get? b=B' u->h'.get? b=B' u)(heo:∃u,h'.get? e=B' u):Un fs ex H (upd H x o) h h':=by
 have hx:∀b,H b=IV->b≠x:=λb n z=>by subst z;rw[n]at mu;exact mu
 have hb:∀b,H b=IV->b≠e:=λb n z=>by
  subst z;obtain r|r:=he
  ·exact hx b n r
  ·rw[n]at r;cases r
 have hm:∀b u,H b=B' u->¬EE (B' u)->b≠x:=λb u q nm z=>by subst z;rw[q]at mu;exact nm mu
 refine⟨λb u q n _ _=>k b u (hb b n) q,λb u q n _ _=>⟨u.slots,k b u (hb b n) q⟩,λb u q n _=>by rw[ao<|hx b n];exact n,λb u q _=>?_,
  λb xs q=>by rw[ao<|hm b _ q λz=>z];exact q,λb u xs q=>by rw[ao<|hm b _ q λz=>z];exact q,λb ps q=>⟨#[],by rw[ao<|hm b _ q λz=>z,q];simp⟩⟩
 by_cases hbe:b=e
 ·subst hbe;exact heo
 ·exact⟨u,k b u hbe q⟩
end
def GT(h:JM)(H:Hp):IG IL:=(KI h.objs.size).filter λa=>(H a).isSome
def m6(h:JM)(H:Hp):JM:=Px h<|GT h H
theorem ua(h:JM)(H:Hp):(m6 h H).objs.size=h.objs.size:=PySem.W.hideAll_size _ _
theorem vz(e:h.get? b=B' o)(n:H b=IV):(m6 h H).get? b=B' o:=
 MJ _ e λhm=>by
  have q:(H b).isSome=true:=(Kr.mp hm).2;rw[n]at q;simp at q
theorem zp(e:(m6 h H).get? b=B' o):h.get? b=B' o/\H b=none:=by
 have e':h.get? b=B' o:=P8 (GT h H) e;exists e';cases q:H b with
 |none=>rfl
 |some x=>
  have hm:b∈GT h H:=Kr.mpr ⟨Lu.mpr<|Jh e',by simp [q]⟩;have z:(m6 h H).get? b=none:=Sb (GT h H) hm;rw[z]at e;cases e
structure Mod (K:IJ)(mg:Str->IQ IH)(base:JM):Prop where
 kin:K.In base
 glob:base.Ns Ja mg
 blt:∃mb,base.Ns Wi mb/\∀x:Str,x≠"__name__"->mb x=OM x
 nolimit:base.NoLimit
structure Cx where
 prog:Jc
 w:Jv
 K:IJ
 mg:Str->IQ IH
 base:JM
 A:JV
 N:IG Str
 s₀:IM
 H₀:Hp
 env:Env
 outer:IG Env
 stack:IG Env
 ex:IG IL
 fn:Str->Jm
 calm:Jm
 pn:IG (IL×Obj)
 xe:IH->IM->Prop
def dN(l:IG Env):IG IL:=l.filterMap (·.frame)
abbrev Cx.fs(X:Cx):IG IL:=dN X.outer
def Hh(sc:N6)(x:Str):Prop:=sc.names.lookup x=B' .local\/sc.names.lookup x=B' .cell\/sc.names.lookup x=B' .free
def EF(sc:N6)(x:Str):Prop:=sc.names.lookup x=B' .local\/sc.names.lookup x=B' .cell
def Hi(env:Env)(h:JM)(m:Str->IQ IH)(x:Str)(u:IH):Prop:=
 (env.kindOf x=B' .local/\m x=B' u)\/((env.kindOf x=B' .cell\/env.kindOf x=B' .free)/\∃c,env.cells.lookup x=B' c/\h.IsCell c (B' u))
structure Cx.Ok (X:Cx):Prop where
 mod:Mod X.K X.mg X.base
 kind:X.env.scope.kind=.function
 glob:X.env.globals=Ja
 blt:X.env.builtins=Wi
 above:X.s₀.heap.objs.size<=X.env.locals
 inj:∀x y c,X.env.cells.lookup x=B' c->X.env.cells.lookup y=B' c->x=y
 has:∀x,(X.env.kindOf x=B' .cell\/X.env.kindOf x=B' .free)->∃c,X.env.cells.lookup x=B' c
 cab:∀x c,X.fn x=IS->X.env.cells.lookup x=B' c->X.s₀.heap.objs.size<=c
 hd:X.calm=IS->X.A.handled=IV
 frames:X.A.frames=B' X.stack
 stk:X.stack=X.outer\/(X.stack=X.env::X.outer/\X.env.frame=B' X.env.locals)
 exf:∀b∈X.ex,b≠X.env.locals/\∀x c,X.env.cells.lookup x=B' c->c≠b
 bs:∀b o,X.base.get? b=B' o->X.s₀.heap.get? b=B' o/\X.H₀ b=IV
 bsz:X.base.objs.size<=X.s₀.heap.objs.size
 noex:∀b o,X.base.get? b=B' o->b∉X.ex
 exfs:∀b∈X.ex,b∉X.fs
 funs:X.s₀.heap.FunFrames X.base X.outer
 frf:∀b∈X.fs,X.H₀ b=IV
structure Inv (X:Cx)(IT:IG (IL×Obj))(σ:IG (IQ V))(H:Hp)(s:IM):Prop where
 ok:X.Ok
 os:s.os=X.s₀.os
 bare:Pg s.gens
 base:Un X.fs X.ex X.H₀ H X.s₀.heap s.heap
 loc:∃m,s.heap.Ns X.env.locals m/\∀(i:Nat) (x:Str) (v:V),X.N[i]? =B' x->σ[i]? =B' (B' v)->Hh X.env.scope x->∃u,RelV v u/\Hi X.env s.heap m x u
 cell:∀x c,X.env.cells.lookup x=B' c->∃v,s.heap.IsCell c v
 free:H X.env.locals=IV
 freeC:∀x c,X.env.cells.lookup x=B' c->H c=IV
 pin:∀p∈X.pn++IT,s.heap.get? p.1=B' p.2/\H p.1=IV/\p.1≠X.env.locals/\p.1∉X.fs/\∀v,p.2.data≠.cell v
 hok:HOk X.prog X.w H s.heap
 len:σ.length=X.N.length
section
variable {X:Cx}{IT:IG (IL×Obj)}{σ:IG (IQ V)}{H H':Hp}{s:IM}{h':JM}
theorem Cx.Ok.nofr(ok:X.Ok)(e:X.base.get? b=B' o):b∉X.fs:=λhb=>by
 have:=(ok.funs.mem hb).1;rw[e]at this;cases this
theorem Inv.bs(I:Inv X IT σ H s):∀b o,X.base.get? b=B' o->s.heap.get? b=B' o/\H b=none:=λb o e=>
 ⟨I.base.keep b o (I.ok.bs b o e).1 (I.ok.bs b o e).2 (I.ok.nofr e)<|I.ok.noex b o e,I.base.free b o (I.ok.bs b o e).1 (I.ok.bs b o e).2<|I.ok.noex b o e⟩
theorem Inv.bk(I:Inv X IT σ H s):∀b o,X.base.get? b=B' o->s.heap.get? b=B' o:=λb o e=>(I.bs b o e).1
theorem Inv.mod(I:Inv X IT σ H s):Mod X.K X.mg X.base:=I.ok.mod
theorem Inv.kIn(I:Inv X IT σ H s):X.K.In s.heap:=I.ok.mod.kin.keeps I.bk
theorem Inv.lt(I:Inv X IT σ H s):X.env.locals < s.heap.objs.size:=let ⟨_,hn,_⟩:=I.loc;hn.lt
theorem Inv.sz(I:Inv X IT σ H s):X.s₀.heap.objs.size<=s.heap.objs.size:=KE I.ok.above<|KM I.lt
theorem Inv.nofs(I:Inv X IT σ H s){a:IL}(h:s.heap.objs.size<=a):a∉X.fs:=λhb=>by
 obtain⟨_,o,ho,_⟩:=I.ok.funs.mem hb;exact absurd (Ki (Jh ho)<|KE I.sz h)<|Lv _
theorem Inv.cne(I:Inv X IT σ H s):∀x c,X.env.cells.lookup x=B' c->c≠X.env.locals:=λx c e z=>by
 obtain⟨v,o,ho,hd⟩:=I.cell x c e;obtain⟨m,⟨o',es,ep,ho',ZV,_⟩,_⟩:=I.loc;rw[z,ho']at ho;cases ho;rw[ZV]at hd;cases hd
theorem Inv.funs(I:Inv X IT σ H s):s.heap.FunFrames X.base X.outer:=by
 have all:∀l,(∀b∈dN l,b∈X.fs)->X.s₀.heap.FunFrames X.base l->s.heap.FunFrames X.base l:=by
  intro l
  induction l with
  |nil=>intro _ _;trivial
  |cons env r ih=>
   intro hs hl;obtain⟨hk,⟨L,o,hf,hn,ho,hd⟩,hr⟩:=hl;have hL:L∈X.fs:=hs L (by unfold dN;rw[Nj,hf];exact Jp);obtain⟨sl,e⟩:=I.base.slot L o ho (I.ok.frf L hL) hL λz=>I.ok.exfs L z hL;exact⟨hk,⟨L,_,hf,hn,e,hd⟩,ih (λb hb=>hs b<|by unfold dN;rw[Nj,hf];exact Jk _ hb) hr⟩
 exact all X.outer (λ_ hb=>hb) I.ok.funs
theorem Inv.stack(I:Inv X IT σ H s):s.heap.FunFrames X.base X.stack:=by
 obtain e|⟨e,hf⟩:=I.ok.stk
 ·rw[e];exact I.funs
 ·rw[e];obtain⟨m,hn,_⟩:=I.loc;refine .cons (by rw[I.ok.kind];decide) hf hn ?_ I.funs;exact NU<|KE I.ok.bsz I.ok.above
theorem Inv.stkSub(I:Inv X IT σ H s):∀b∈dN X.stack,b∈X.env.locals::X.fs:=λb hb=>by
 obtain e|⟨e,hf⟩:=I.ok.stk
 ·rw[e]at hb;exact Jk _ hb
 ·rw[e]at hb;unfold dN at hb;rw[Nj,hf]at hb;exact hb
theorem Inv.stkFree(I:Inv X IT σ H s):∀b∈dN X.stack,H b=none:=λb hb=>by
 obtain e|hb:=JC.mp (I.stkSub b hb)
 ·rw[e];exact I.free
 ·obtain⟨_,o,ho,_⟩:=I.ok.funs.mem hb;exact I.base.free b o ho (I.ok.frf b hb) λz=>I.ok.exfs b z hb
theorem Inv.step{g':J4 Q7}{t':Nat}{d':YI}{ch:IG IL}(I:Inv X IT σ H s)
  (WW:∀b∈ch,(b∈X.ex\/X.s₀.heap.objs.size<=b)/\b≠X.env.locals/\(∀x c,X.env.cells.lookup x=B' c->c≠b)/\∀p∈X.pn++IT,p.1≠b)
  (keep:∀b o,b≠X.env.locals->b∉X.fs->b∉ch->s.heap.get? b=B' o->H b=IV->h'.get? b=B' o)
  (slot:∀b o,b≠X.env.locals->b∈X.fs->b∉ch->s.heap.get? b=B' o->H b=IV->∃sl,h'.get? b=B' {o with slots:=sl}) (free:∀b o,b∉ch->s.heap.get? b=B' o->H b=IV->H' b=IV)
  (there:∀b o,b∉ch->s.heap.get? b=B' o->∃o',h'.get? b=B' o')
  (tups:∀b xs,H b=B' (.tup xs)->H' b=B' (.tup xs)) (frzs:∀b o u,H b=B' (.frz o u)->H' b=B' (.frz o u)) (tbls:∀b ps,H b=B' (.tbl ps)->∃more,H' b=B' (.tbl<|ps++more))
  (ns:∀m,s.heap.Ns X.env.locals m->h'.Ns X.env.locals m) (hok:HOk X.prog X.w H' h') (hg:Pg g'):
  Inv X IT σ H' {s with heap:=h',gens:=g',drawn:=d',toks:=t'}:=by
 have neL:∀b o,X.s₀.heap.get? b=B' o->b≠X.env.locals:=λb o e=>Js<|Ki (Jh e) I.ok.above;have neC:∀b o,X.s₀.heap.get? b=B' o->b∉X.ex->b∉ch:=λb o e hx hb=>by
  obtain z|z:=(WW b hb).1
  ·exact hx z
  ·exact absurd (Ki (Jh e) z)<|Lv _
 have abL:∀x c,X.env.cells.lookup x=B' c->∀v,s.heap.IsCell c v->h'.IsCell c v:=λx c e v ⟨o,ho,hd⟩=>by
  have nch:c∉ch:=λz=>(WW c z).2.2.1 x c e rfl;by_cases hc:c∈X.fs
  ·obtain⟨sl,q⟩:=slot c o (I.cne x c e) hc nch ho<|I.freeC x c e;exact⟨_,q,hd⟩
  ·exact⟨o,keep c o (I.cne x c e) hc nch ho<|I.freeC x c e,hd⟩
 refine⟨I.ok,I.os,hg,⟨λb o e n hb hx=>?_,λb o e n hb hx=>?_,λb o e n hx=>?_,λb o e hx=>?_,λb xs e=>tups b xs<|I.base.tups b xs e,λb o xs e=>frzs b o xs<|I.base.frzs b o xs e,λb ps e=>?_⟩,?_,λx c e=>?_,?_,λx c e=>?_,λp hp=>?_,hok,I.len⟩
 ·exact keep b o (neL b o e) hb (neC b o e hx) (I.base.keep b o e n hb hx)<|I.base.free b o e n hx
 ·obtain⟨sl,e1⟩:=I.base.slot b o e n hb hx;obtain⟨sl',e2⟩:=slot b _ (neL b o e) hb (neC b o e hx) e1<|I.base.free b o e n hx;exact⟨sl',e2⟩
 ·obtain⟨o',e1⟩:=I.base.there b o e hx;exact free b o' (neC b o e hx) e1<|I.base.free b o e n hx
 ·obtain⟨o',e1⟩:=I.base.there b o e hx;exact there b o' (neC b o e hx) e1
 ·obtain⟨m1,e1⟩:=I.base.tbls b ps e;obtain⟨m2,e2⟩:=tbls b _ e1;exact⟨m1++m2,by rw[e2,Qj]⟩
 ·obtain⟨m,hn,hl⟩:=I.loc;refine⟨m,ns m hn,λi x v e1 e2 e3=>?_⟩;obtain⟨u,r,l⟩:=hl i x v e1 e2 e3;exists u,r;obtain l|⟨k,c,e,z⟩:=l
  ·exact .inl l
  ·exact .inr ⟨k,c,e,abL x c e _ z⟩
 ·obtain⟨v,z⟩:=I.cell x c e;exact⟨v,abL x c e v z⟩
 ·obtain⟨m,⟨o,_,_,ho,_⟩,_⟩:=I.loc;exact free _ o (λz=>(WW _ z).2.1 rfl) ho I.free
 ·obtain⟨v,o,ho,hd⟩:=I.cell x c e;exact free c o (λz=>(WW c z).2.2.1 x c e rfl) ho<|I.freeC x c e
 ·obtain⟨e,n,ne,nf,d⟩:=I.pin p hp;have nch:p.1∉ch:=λz=>(WW p.1 z).2.2.2 p hp rfl;exact⟨keep p.1 p.2 ne nf nch e n,free p.1 p.2 nch e n,ne,nf,d⟩
theorem Inv.un(I:Inv X IT σ H s)(u:Un X.fs [] H H' s.heap h')(hok:HOk X.prog X.w H' h'):Inv X IT σ H' {s with heap:=h',toks:=t'}:=by
 obtain⟨m,⟨o,es,ep,ho,r⟩,_⟩:=id I.loc;obtain⟨sl,hL⟩:=u.any ho I.free (by simp);exact I.step (g':=s.gens) (d':=s.drawn) (ch:=[]) (λ_ z=>nomatch z) (λb o _ hb _ e n=>u.keep b o e n hb<|by simp) (λb o _ hb _ e n=>u.slot b o e n hb<|by simp) (λb o _ e n=>u.free b o e n<|by simp) (λb o _ e=>u.there b o e<|by simp) u.tups u.frzs u.tbls (λm' hm=>by
  obtain⟨o',es',ep',ho',r'⟩:=hm;rw[ho]at ho';cases ho';exact⟨_,es',ep',hL,r'⟩) hok I.bare
theorem Inv.call{t':Nat}{d':YI}(I:Inv X IT σ H s)(u:Un (dN X.stack) ch H H' s.heap h')(hok:HOk X.prog X.w H' h')(hg:Pg g')
  (WW:∀b∈ch,(b∈X.ex\/X.s₀.heap.objs.size<=b)/\b≠X.env.locals/\(∀x c,X.env.cells.lookup x=B' c->c≠b)/\∀p∈X.pn++IT,p.1≠b):
  Inv X IT σ H' {s with heap:=h',gens:=g',drawn:=d',toks:=t'}:=by
 obtain⟨m,⟨o,es,ep,ho,r⟩,_⟩:=id I.loc;obtain⟨sl,hL⟩:=u.any ho I.free λz=>(WW _ z).2.1 rfl;exact I.step (ch:=ch) WW (λb o hL hb hc e n=>u.keep b o e n (λz=>(JC.mp<|I.stkSub b z).elim hL hb) hc) (λb o _ _ hc e n=>u.any e n hc) (λb o hc e n=>u.free b o e n hc) (λb o hc e=>u.there b o e hc) u.tups u.frzs u.tbls (λm' hm=>by
  obtain⟨o',es',ep',ho',r'⟩:=hm;rw[ho]at ho';cases ho';exact⟨_,es',ep',hL,r'⟩) hok hg
theorem Inv.turned{t':Nat}(I:Inv X IT σ H s)(k:∀b o,b≠it->s.heap.get? b=B' o->h'.get? b=B' o)(hn:H it=IV)(hL:it≠X.env.locals)
  (h1:it∈X.ex\/X.s₀.heap.objs.size<=it) (h2:∀x c,X.env.cells.lookup x=B' c->c≠it) (h3:∀p∈X.pn++IT,p.1≠it):Inv X IT σ H {s with heap:=h',toks:=t'}:=by
 have nit:∀b u,H b=B' u->b≠it:=λb u e z=>by rw[z,hn]at e;cases e
 refine I.step (g':=s.gens) (d':=s.drawn) (ch:=[it]) (λb hb=>?_) (λb o _ _ hc e _=>k b o (λz=>hc<|by simp [z]) e) (λb o _ _ hc e _=>⟨o.slots,k b o (λz=>hc<|by simp [z]) e⟩) (λ_ _ _ _ n=>n)
  (λb o hc e=>⟨o,k b o (λz=>hc<|by simp [z]) e⟩) (λ_ _ e=>e) (λ_ _ _ e=>e) (λb ps e=>⟨#[],by rw[e];simp⟩) (λm hm=>?_) (λb u e=>?_) I.bare
 ·have e:b=it:=by simpa using hb
  subst e;exact⟨h1,hL,h2,h3⟩
 ·obtain⟨o,es,ep,ho,r⟩:=hm;exact⟨o,es,ep,k _ o (Lq hL) ho,r⟩
 ·refine(I.hok b u e).stay (λc v hc q=>k c v ?_ q) (λ_ q=>q) λ_ _ q=>q;obtain z|z:=hc
  ·rw[z];exact nit b u e
  ·exact nit c _ z
theorem Inv.tok(I:Inv X IT σ H s)(t:Nat):Inv X IT σ H {s with toks:=t}:=I.un (h':=s.heap) (t':=t) Un.refl I.hok
theorem Inv.kept(I:Inv X IT σ H s)(k:∀b u,s.heap.get? b=B' u->h'.get? b=B' u):Inv X IT σ H {s with heap:=h',toks:=t'}:=I.un (Un.kept k)<|I.hok.kept k
theorem Inv.laid{a:IL}{o:HO}{t':Nat}(I:Inv X IT σ H s)(k:∀b u,s.heap.get? b=B' u->h'.get? b=B' u)(hp:s.heap.objs.size<=a)(new:ObjOk X.prog X.w (upd H a o) h' a o):
  Inv X IT σ (upd H a o) {s with heap:=h',toks:=t'}:=I.un (Un.laid k hp<|I.hok.fresh hp)<|I.hok.laid k hp new
theorem Inv.write{o:HO}{t':Nat}(I:Inv X IT σ H s)(mu:EE (H x))(he:e=x\/H e=B' (.own x))(k:∀b u,b≠e->s.heap.get? b=B' u->h'.get? b=B' u)(heo:∃u,h'.get? e=B' u)
  (new:ObjOk X.prog X.w (upd H x o) h' x o):Inv X IT σ (upd H x o) {s with heap:=h',toks:=t'}:=I.un (Un.write mu he k heo)<|I.hok.write mu he k heo new
theorem Inv.pins_of(I:Inv X IT σ H s)(h:∀p∈abv,s.heap.get? p.1=B' p.2/\H p.1=IV/\p.1≠X.env.locals/\p.1∉X.fs/\∀v,p.2.data≠.cell v):Inv X abv σ H s:=
 ⟨I.ok,I.os,I.bare,I.base,I.loc,I.cell,I.free,I.freeC,λp hp=>(JA.mp hp).elim (λz=>I.pin p<|Na _ z)<|h p,I.hok,I.len⟩
theorem jU{N:IG Str}(hN:N.Nodup){i j:Nat}{x:Str}(a:N[i]? =B' x) (b:N[j]? =B' x):i=j:=by
 obtain⟨h1,e1⟩:=IY.mp a;obtain⟨h2,e2⟩:=IY.mp b;exact(List.getElem_inj hN).mp<|e1.trans e2.symm
theorem lM{M:RO}{A:JV}{E:IH->IM->Prop}{Q:Pt->IM->Prop}(I:Inv X IT σ H s)(hN:X.N.Nodup)(hi:X.N[i]? =B' x)(hx:EF X.env.scope x)(r:RelV v u)
  (h:∀s',Inv X IT (σ.set i<|B' v) H s'->(∃a,M' a s.heap s'.heap/\(a=X.env.locals\/X.env.cells.lookup x=B' a))->Q () s') (hf:X.fn x=IS\/X.env.scope.names.lookup x=B' .local:=by first|exact .inl rfl|exact .inr rfl|assumption):wpAny M A (storeName X.env x u) Q E s:=by
 obtain⟨m,hn,hl⟩:=id I.loc;have acw:(X.env.scope.kind == .class || (X.env.scope.kind == .module&&X.env.locals != X.env.globals))=false:=by rw[I.ok.kind];rfl
 have hiσ:i < σ.length:=by rw[I.len];exact(IY.mp hi).1
 have cne:=I.cne;have Zo:∀{a:IL} {h':JM},(∃o,s.heap.get? a=B' o/\H a=IV)->M' a s.heap h'->HOk X.prog X.w H h':=λ{a h'} ha hs b ob e=>by
  obtain⟨_,_,Yq⟩:=ha;refine(I.hok b ob e).stay (λc w' hc q=>(hs.2 c ?_).trans q) (λ_ q=>q) λ_ _ q=>q;rintro rfl;obtain rfl|hc:=hc
  ·rw[Yq]at e;cases e
  ·rw[Yq]at hc;cases hc
 obtain hk|hk:=hx
 ·refine wpAny_storeName_local hk hn (λh' hn' hs=>?_) acw;obtain⟨oL,_,_,ZS,_⟩:=id hn;refine h _ ⟨I.ok,I.os,I.bare,⟨λb o e n hb hx=>?_,λb o e n hb hx=>?_,I.base.free,λb o e hx=>?_,I.base.tups,I.base.frzs,I.base.tbls⟩,⟨_,hn',λj y v' e1 e2 e3=>?_⟩,λy c e=>?_,I.free,I.freeC,λp hp=>?_,Zo ⟨oL,ZS,I.free⟩ hs,by simpa using I.len⟩ ⟨_,hs,.inl rfl⟩
  ·exact(hs.2 b<|Js<|Ki (Jh e) I.ok.above).trans<|I.base.keep b o e n hb hx
  ·obtain⟨sl,e1⟩:=I.base.slot b o e n hb hx;exact⟨sl,(hs.2 b<|Js<|Ki (Jh e) I.ok.above).trans e1⟩
  ·obtain⟨o',e1⟩:=I.base.there b o e hx;exact⟨o',(hs.2 b<|Js<|Ki (Jh e) I.ok.above).trans e1⟩
  ·by_cases hj:j=i
   ·subst hj;rw[hi]at e1;cases e1;rw[Ny hiσ]at e2;cases e2;exact⟨u,r,.inl ⟨hk,by simp⟩⟩
   ·rw[Pn<|Lq hj]at e2;obtain⟨u',r',q⟩:=hl j y v' e1 e2 e3;exists u',r';obtain⟨k,e⟩|⟨k,c,e,z⟩:=q
    ·refine .inl ⟨k,?_⟩;have:y≠x:=λe=>hj<|jU hN e1<|e▸hi;simp [this,e]
    ·exact .inr ⟨k,c,e,z.sameBut hs<|cne y c e⟩
  ·obtain⟨w',z⟩:=I.cell y c e;exact⟨w',z.sameBut hs<|cne y c e⟩
  ·obtain⟨e,n,ne,nf,d⟩:=I.pin p hp;exact⟨(hs.2 p.1 ne).trans e,n,ne,nf,d⟩
 ·have hfn:X.fn x=true:=by
   obtain z|z:=hf
   ·exact z
   ·rw[z]at hk;cases hk
  obtain⟨c,hc⟩:=I.ok.has x<|.inl hk;obtain⟨w',z⟩:=I.cell x c hc;refine wpAny_storeName_cell I.ok.kind hk hc z λh' ZA hs=>?_;obtain⟨oc,hoc,afK⟩:=id z;refine h {s with heap:=h'} ⟨I.ok,I.os,I.bare,⟨λb o e n hb hx=>?_,λb o e n hb hx=>?_,I.base.free,λb o e hx=>?_,I.base.tups,I.base.frzs,I.base.tbls⟩,⟨m,hn.sameBut hs<|Lq<|cne x c hc,λj y v' e1 e2 e3=>?_⟩,λy c' e=>?_,I.free,I.freeC,λp hp=>?_,Zo ⟨oc,hoc,I.freeC x c hc⟩ hs,by simpa using I.len⟩ ⟨c,hs,.inr hc⟩
  ·exact(hs.2 b<|Js<|Ki (Jh e)<|I.ok.cab x c hfn hc).trans<|I.base.keep b o e n hb hx
  ·obtain⟨sl,e1⟩:=I.base.slot b o e n hb hx;exact⟨sl,(hs.2 b<|Js<|Ki (Jh e)<|I.ok.cab x c hfn hc).trans e1⟩
  ·obtain⟨o',e1⟩:=I.base.there b o e hx;exact⟨o',(hs.2 b<|Js<|Ki (Jh e)<|I.ok.cab x c hfn hc).trans e1⟩
  ·by_cases hj:j=i
   ·subst hj;rw[hi]at e1;cases e1;rw[Ny hiσ]at e2;cases e2;exact⟨u,r,.inr ⟨.inl hk,c,hc,ZA⟩⟩
   ·rw[Pn<|Lq hj]at e2;obtain⟨u',r',q⟩:=hl j y v' e1 e2 e3;exists u',r';obtain q|⟨k,c',e,z'⟩:=q
    ·exact .inl q
    ·refine .inr ⟨k,c',e,z'.sameBut hs ?_⟩;rintro rfl;exact hj<|jU hN e1<|I.ok.inj _ _ _ e hc▸hi
  ·by_cases hcc:c'=c
   ·subst hcc;exact⟨_,ZA⟩
   ·obtain⟨w2,z2⟩:=I.cell y c' e;exact⟨w2,z2.sameBut hs hcc⟩
  ·obtain⟨e,n,ne,nf,d⟩:=I.pin p hp;refine⟨(hs.2 p.1 ?_).trans e,n,ne,nf,d⟩;intro q;rw[q,hoc]at e;have q':oc=p.2:=Jo e;exact d w' (by rw[<-q'];exact afK)
theorem eU{M:RO}{A:JV}{E:IH->IM->Prop}{Q:Pt->IM->Prop}(I:Inv X IT σ H s)(hN:X.N.Nodup)(hi:X.N[i]? =B' x)(hx:EF X.env.scope x)(r:RelV v u)
  (h:∀s',Inv X IT (σ.set i<|B' v) H s'->Q () s') (hf:X.fn x=IS\/X.env.scope.names.lookup x=B' .local:=by first|exact .inl rfl|exact .inr rfl|assumption):wpAny M A (storeName X.env x u) Q E s:=
 lM I hN hi hx r (λs' I' _=>h s' I') hf
theorem Inv.call'(I:Inv X IT σ H s)(ho:s'.os=s.os)(u:Un (dN X.stack) ch H H' s.heap s'.heap)(hok:HOk X.prog X.w H' s'.heap)(hg:Pg s'.gens)
  (WW:∀b∈ch,(b∈X.ex\/X.s₀.heap.objs.size<=b)/\b≠X.env.locals/\(∀x c,X.env.cells.lookup x=B' c->c≠b)/\∀p∈X.pn++IT,p.1≠b):Inv X IT σ H' s':=by
 obtain⟨h',g',d',t',o'⟩:=s';have e:o'=s.os:=ho;subst e;exact I.call (g':=g') (t':=t') (d':=d') u hok hg WW
end
abbrev XK:=IH->IQ IL->Hp->Prop
abbrev St:=IG<|IQ V
abbrev VK:=V->Hp->Prop
abbrev TE:=St->Hp->VK->Prop
abbrev TT:=St->Hp->(Jm->Hp->Prop)->Prop
abbrev TA:=St->Hp->(IG V->Hp->Prop)->Prop
structure fQ where
 nx:St->Hp->Prop
 rt:VK
 bk:St->Hp->Prop:=λ_ _=>False
 ct:St->Hp->Prop:=λ_ _=>False
abbrev TS:=fQ->St->Hp->Prop
def EP(X:Cx)(IT:IG (IL×Obj))(σ:St)(Q:VK)(u:IH)(s':IM):Prop:=∃v H',Inv X IT σ H' s'/\RelV v u/\Q v H'
def TP(X:Cx)(IT:IG (IL×Obj))(σ:St)(Q:Jm->Hp->Prop)(b:Jm)(s':IM):Prop:=∃H',Inv X IT σ H' s'/\Q b H'
def AP(X:Cx)(IT:IG (IL×Obj))(σ:St)(Q:IG V->Hp->Prop)(us:IG IH)(s':IM):Prop:=∃vs H',Inv X IT σ H' s'/\Vals vs us/\Q vs H'
def SP(X:Cx)(IT:IG (IL×Obj))(D:fQ)(f:Flow)(s':IM):Prop:=
 match f with
 |.next=>∃σ' H',Inv X IT σ' H' s'/\D.nx σ' H'
 |.brk=>∃σ' H',Inv X IT σ' H' s'/\D.bk σ' H'
 |.cont=>∃σ' H',Inv X IT σ' H' s'/\D.ct σ' H'
 |.ret u=>∃v σ' H',Inv X IT σ' H' s'/\RelV v u/\D.rt v H'
def PE(X:Cx)(e:Km)(t:TE):Prop:=
 ∀(IT:IG (IL×Obj)) (s:IM) (σ:St) (H:Hp) (Q:VK),Inv X IT σ H s->t σ H Q->wpAny (Ju X.prog X.w) X.A (LN e X.env) (EP X IT σ Q) X.xe s
def PT(X:Cx)(e:Km)(t:TT):Prop:=
 ∀(IT:IG (IL×Obj)) (s:IM) (σ:St) (H:Hp) (Q:Jm->Hp->Prop),Inv X IT σ H s->t σ H Q->wpAny (Ju X.prog X.w) X.A (isTrue e X.env<|LN e X.env) (TP X IT σ Q) X.xe s
def PW(X:Cx)(e:Km)(t:TT):Prop:=
 ∀(Zn:Sem IH) (IT:IG (IL×Obj)) (s:IM) (σ:St) (H:Hp) (Q:Jm->Hp->Prop),Inv X IT σ H s->t σ H Q->wpAny (Ju X.prog X.w) X.A (isTrue e X.env Zn) (TP X IT σ Q) X.xe s
theorem PW.pt(h:PW X e t):PT X e t:=h _
def PA(X:Cx)(es:IG Km)(t:TA):Prop:=
 ∀(pos:Pos) (IT:IG (IL×Obj)) (s:IM) (σ:St) (H:Hp) (Q:IG V->Hp->Prop),Inv X IT σ H s->t σ H Q->wpAny (Ju X.prog X.w) X.A (XU<|MF pos<|JI es X.env) (AP X IT σ Q) X.xe s
def PS(X:Cx)(st:KL)(t:TS):Prop:=
 ∀(IT:IG (IL×Obj)) (s:IM) (σ:St) (H:Hp) (D:fQ),Inv X IT σ H s->t D σ H->wpAny (Ju X.prog X.w) X.A (exec st X.env) (SP X IT D) X.xe s
def PSs(X:Cx)(st:IG KL)(t:TS):Prop:=
 ∀(IT:IG (IL×Obj)) (s:IM) (σ:St) (H:Hp) (D:fQ),Inv X IT σ H s->t D σ H->wpAny (Ju X.prog X.w) X.A (execs st X.env) (SP X IT D) X.xe s
theorem bT{α:Type}{t:Sem α}{Q Q':α->IM->Prop}{M:RO}{A:JV}{E:IH->IM->Prop}{s:IM}(h:wpAny M A t Q E s)(hQ:∀a s,Q a s->Q' a s):wpAny M A t Q' E s:=J2 h hQ λ_ _ x=>x
section
variable {X:Cx}
inductive Bw (i:Nat)(σ:St)(H:Hp)(Q:VK):Prop
 |mk (v:V)(h:σ[i]? =B' (B' v)) (q:Q v H):Bw i σ H Q
def fR(i:Nat):TE:=λσ H Q=>Bw i σ H Q
def tC(v:V):TE:=λ_ H Q=>Q v H
theorem CM{i:Nat}{x:Str}{pos:Pos}(hN:X.N[i]? =B' x) (hv:Hh X.env.scope x) (hd:(x == ("__debug__":Str))=false:=by decide) (Xu:(x == ("__classdict__":Str))=false:=by decide):PE X (.Name x pos) (fR i):=by
 intro IT s σ H Q I h;obtain⟨v,e,h⟩:=h;obtain⟨m,hn,hl⟩:=I.loc;obtain⟨u,r,l⟩:=hl i x v hN e hv;have fin:EP X IT σ Q u s:=⟨v,H,I,r,h⟩;obtain⟨hk,hm⟩|⟨hk,c,hc,Zz⟩:=l
 ·exact V_ (wpAny_loadName_local I.ok.kind hk hn hm fin) hd
 ·obtain hk|hk:=hk
  ·exact V_ (wpAny_loadName_cell I.ok.kind hk hc Zz fin) hd
  ·exact V_ (wpAny_loadName_free I.ok.kind hk hc Zz fin Xu) hd
theorem ah{i j pos}:PE X (.Constant (.int i) j pos) (tC<|.int i):=λ_ _ _ H _ I h=>wpAny_Constant_int ⟨.int i,H,I.tok _,⟨_,rfl⟩,h⟩
theorem eV{b j pos}:PE X (.Constant (.bool b) j pos) (tC<|.bl b):=λ_ _ _ H _ I h=>Constant_bool ⟨.bl b,H,I,rfl,h⟩
theorem bP{j pos}:PE X (.Constant .none j pos) (tC .non):=λ_ _ _ H _ I h=>Constant_none ⟨.non,H,I,rfl,h⟩
theorem aB{x j pos}:PE X (.Constant (.str x) j pos) (tC<|.str x):=λ_ _ _ H _ I h=>Qa ⟨.str x,H,I.tok _,⟨_,rfl⟩,h⟩
def Gl(X:Cx)(x:Str):Prop:=X.env.kindOf x=B' .globalImplicit
theorem c9{E:IH->IM->Prop}{pos:Pos}(I:Inv X IT σ H s)(hg:Gl X x)(hm:X.mg x=B' u)(h:Q u s)
  (hd:(x == ("__debug__":Str))=false:=by decide):wpAny (Ju X.prog X.w) X.A (LN (.Name x pos) X.env) Q E s:=
 P' I.ok.kind hg (Calls.loadGlobal_global (by rw[I.ok.glob];exact I.mod.glob.keeps I.bk) hm h) hd
theorem eD{E:IH->IM->Prop}{pos:Pos}(I:Inv X IT σ H s)(hg:Gl X x)(hm:X.mg x=IV)(hv:OM x=B' u)(h:Q u s)
  (hn:x≠"__name__":=by decide) (hd:(x == ("__debug__":Str))=false:=by decide):wpAny (Ju X.prog X.w) X.A (LN (.Name x pos) X.env) Q E s:=by
 obtain⟨mb,h1,h2⟩:=I.mod.blt;exact P' I.ok.kind hg (Calls.loadGlobal_builtin (by rw[I.ok.glob];exact I.mod.glob.keeps I.bk) hm (by rw[I.ok.blt];exact h1.keeps I.bk) ((h2 x hn).trans hv) h) hd
theorem zq(hg:Gl X x)(hm:X.mg x=B' u)(r:RelV v u)(hd:(x == ("__debug__":Str))=false:=by decide):PE X (.Name x pos) (tC v):=
 λ_ _ _ H _ I h=>c9 I hg hm ⟨v,H,I,r,h⟩ hd
theorem cy{x:Str}{v:V}{u:IH}{pos:Pos}(hg:Gl X x)(hm:X.mg x=IV)(hv:OM x=B' u)(r:RelV v u)(hn:x≠"__name__":=by decide)(hd:(x == ("__debug__":Str))=false:=by decide):PE X (.Name x pos) (tC v):=
 λ_ _ _ H _ I h=>eD I hg hm hv ⟨v,H,I,r,h⟩ hn hd
variable {a b:Km}{ta tb:TE}{pos:Pos}
def PC(X:Cx)(op:XB)(a b:Km)(t:TE):Prop:=
 ∀(IT:IG (IL×Obj)) (s:IM) (σ:St) (H:Hp) (Q:VK),Inv X IT σ H s->t σ H Q->
  wpAny (Ju X.prog X.w) X.A (LN a X.env) (λv s₁=>wpAny (Ju X.prog X.w) X.A (LN b X.env) (λu s₂=>wpAny (Ju X.prog X.w) X.A (KR op v u) (EP X IT σ Q) X.xe s₂) X.xe s₁) X.xe s
inductive CN (x:V)(Q:Jm->Hp->Prop)(H:Hp):Prop
 |mk (c:Jm)(h:x=.bl c)(q:Q c H):CN x Q H
def tB(t:TE):TT:=λσ H Q=>t σ H λx H1=>CN x Q H1
theorem vA(h:PC X op a b t)(h1:Pd op b=false:=by first|exact nobehind _ (by decide) (by decide)|rfl):PT X (.Compare a [op] [b] pos) (tB t):=by
 intro IT s σ H Q I hw;refine RU (bT (h IT s σ H _ I hw) λv s1 h1=>bT h1 λu s2 h2=>bT h2 λc s3 ⟨x,H1,I1,r1,q1⟩=>?_) h1;obtain⟨d,rfl,q⟩:=q1;cases r1;exact Ll ⟨H1,I1,q⟩
theorem bo(h:PE X e t)(he:∀Zn,isTrue e X.env Zn=(do let v <-Zn;standAt e.pos;SO [v] (truthy v)):=by intro _;rfl):PT X e (tB t):=by
 intro IT s σ H Q I hw;refine isTrue_plain (bT (h IT s σ H _ I hw) λv s1 ⟨x,H1,I1,r1,q1⟩=>?_)<|he _;obtain⟨d,rfl,q⟩:=q1;cases r1;exact Ll ⟨H1,I1,q⟩
variable {tA tB':TT}{Lz:IG Km}
def EO(t u:TT):TT:=λσ H Q=>t σ H λc H1=>if c=IS then u σ H1 Q else Q IU H1
def EG(t u:TT):TT:=λσ H Q=>t σ H λc H1=>if c=IS then Q IS H1 else u σ H1 Q
def Hj(t:TT):TT:=λσ H Q=>t σ H λc H1=>Q (!c) H1
theorem cT(ha:PT X a tA):PW X (.BoolOp .And [a] pos) tA:=by
 intro wh IT s σ H Q I h;refine isTrue_and<|bT (ha IT s σ H Q I h) λc s1 e=>?_;cases c with
 |true=>exact isTrue_and_nil e
 |false=>exact e
theorem gn(ha:PT X a tA):PW X (.BoolOp .Or [a] pos) tA:=by
 intro wh IT s σ H Q I h;refine isTrue_or<|bT (ha IT s σ H Q I h) λc s1 e=>?_;cases c with
 |false=>exact isTrue_or_nil e
 |true=>exact e
theorem dA(ha:PT X a tA)(hb:PW X (.BoolOp .And (b::Lz) pos) tB'):PW X (.BoolOp .And (a::b::Lz) pos) (EO tA tB'):=by
 intro wh IT s σ H Q I h;refine isTrue_and<|bT (ha IT s σ H _ I h) λc s1 ⟨H1,I1,q1⟩=>?_;cases c with
 |true=>exact hb wh IT s1 σ H1 Q I1 q1
 |false=>exact⟨H1,I1,q1⟩
theorem gh(ha:PT X a tA)(hb:PW X (.BoolOp .Or (b::Lz) pos) tB'):PW X (.BoolOp .Or (a::b::Lz) pos) (EG tA tB'):=by
 intro wh IT s σ H Q I h;refine isTrue_or<|bT (ha IT s σ H _ I h) λc s1 ⟨H1,I1,q1⟩=>?_;cases c with
 |true=>exact⟨H1,I1,q1⟩
 |false=>exact hb wh IT s1 σ H1 Q I1 q1
theorem bE(ha:PT X a tA):PT X (.UnaryOp .Not a pos) (Hj tA):=by
 intro IT s σ H Q I h;exact isTrue_not<|ha IT s σ H (λc H1=>Q (!c) H1) I h
def EQ(ta tb:TE):TE:=λσ H Q=>ta σ H λx H1=>∃c,x=.bl c/\if c=IS then tb σ H1 Q else Q (.bl IU) H1
def ER(ta:TE):TE:=λσ H Q=>ta σ H λx H1=>∃c,x=.bl c/\Q (.bl (!c)) H1
theorem m9{op}(h:PE X a t):PE X (.BoolOp op [a] pos) t:=λIT s σ H Q I hw=>BoolOp_one<|h IT s σ H Q I hw
theorem jV(ha:PE X a ta)(hb:PE X (.BoolOp .And (b::Lz) pos) tb):PE X (.BoolOp .And (a::b::Lz) pos) (EQ ta tb):=by
 intro IT s σ H Q I h;refine BoolOp_and<|bT (ha IT s σ H _ I h) λv s1 ⟨x,H1,I1,r1,q1⟩=>?_;obtain⟨c,rfl,q1⟩:=q1;cases r1;refine Ll ?_;cases c with
 |true=>exact hb IT s1 σ H1 Q I1 q1
 |false=>exact⟨.bl IU,H1,I1,rfl,q1⟩
theorem vB(ha:PE X a ta):PE X (.UnaryOp .Not a pos) (ER ta):=by
 intro IT s σ H Q I h;refine UnaryOp_<|bT (ha IT s σ H _ I h) λv s1 ⟨x,H1,I1,r1,q1⟩=>?_;obtain⟨c,rfl,q1⟩:=q1;cases r1;exact not_of<|Ll ⟨.bl (!c),H1,I1,rfl,q1⟩
def Iu(t:TT)(ta tb:TE):TE:=λσ H Q=>t σ H λc H1=>if c=IS then ta σ H1 Q else tb σ H1 Q
theorem oF(hc:PT X c tA)(ha:PE X a ta)(hb:PE X b tb):PE X (.IfExp c a b pos) (Iu tA ta tb):=by
 intro IT s σ H Q I h;refine wpAny_IfExp<|bT (hc IT s σ H _ I h) λd s1 ⟨H1,I1,q1⟩=>?_;cases d with
 |true=>exact ha IT s1 σ H1 Q I1 q1
 |false=>exact hb IT s1 σ H1 Q I1 q1
end
def SqL(K:IJ)(H:Hp)(a:IL)(xs:IG V):Prop:=
 Rd H a (.lst xs)\/
  ∃(o:Obj) (KN:J4 IH) (n:Nat),K.lookup a=B' o/\o.cls=.type "list"/\o.dict=IV/\o.data=.seq KN n/\KN.size<=sizeLine/\Vals xs KN.toList
def SqT(K:IJ)(H:Hp)(a:IL)(xs:IG V):Prop:=
 Rd H a (.tup xs)\/
  ∃(o:Obj) (KN:J4 IH) (n:Nat),K.lookup a=B' o/\o.cls=.type "tuple"/\o.data=.seq KN n/\KN.size<=sizeLine/\Vals xs KN.toList
def Hk:IH->IQ V
 |.none=>B' .non
 |.bool b=>B'<|.bl b
 |.int i _=>B'<|.int i
 |.str x _=>B'<|.str x
 |.bytes b _=>B'<|.byt b
 |.float b _=>B'<|.flt b
 |.ref a=>B'<|.ref a
 |.type n=>B'<|.ty n
 |_=>IV
theorem RelV.abs(r:RelV x u):Hk u=B' x:=by
 cases x with
 |non=>cases r;rfl
 |bl _=>cases r;rfl
 |int _=>obtain⟨t,rfl⟩:=r;rfl
 |str _=>obtain⟨t,rfl⟩:=r;rfl
 |byt _=>obtain⟨t,rfl⟩:=r;rfl
 |flt _=>obtain⟨t,rfl⟩:=r;rfl
 |ref _=>cases r;rfl
 |ty _=>cases r;rfl
theorem RelV.inj(r:RelV x u)(q:RelV y u):x=y:=Jo<|r.abs.symm.trans q.abs
theorem Vals.inj:∀{xs ys:IG V} {us:IG IH},Vals xs us->Vals ys us->xs=ys
 |_,_,_,.nil,.nil=>rfl
 |_,_,_,.cons r t,.cons r' t'=>by rw[r.inj r',Vals.inj t t']
section
variable {X:Cx}{IT:IG (IL×Obj)}{σ:St}{H:Hp}{s:IM}{a:IL}{xs ys:IG V}
theorem SqL.of{K:IJ}(h:H a=B' (.lst xs)):SqL K H a xs:=.inl<|.inl h
theorem SqT.of{K:IJ}(h:H a=B' (.tup xs)):SqT K H a xs:=.inl<|.inl h
theorem Inv.list(I:Inv X IT σ H s)(h:SqL X.K H a xs):∃KN,Vals xs KN/\PlainL s.heap a KN.toArray/\xs.length<=sizeLine:=by
 obtain h|⟨o,KN,n,hk,hc,hd,hs,hz,r⟩:=h
 ·obtain⟨z,KN,n,r,e⟩:=h.ok I.hok;exact⟨KN,r,⟨_,n,e,rfl,rfl,rfl⟩,z⟩
 ·exists KN.toList,r,⟨o,n,I.kIn a o hk,hc,hd,by simpa using hs⟩;have e:=r.length;simp only [JE]at e;lia
theorem Inv.tuple(I:Inv X IT σ H s)(h:SqT X.K H a xs):∃KN,Vals xs KN/\IsTup s.heap a KN.toArray/\xs.length<=sizeLine:=by
 obtain h|⟨o,KN,n,hk,hc,hs,hz,r⟩:=h
 ·obtain⟨z,KN,r,p⟩:=h.ok I.hok;exact⟨KN,r,p,z⟩
 ·exists KN.toList,r,⟨o,I.kIn a o hk,hc,n,by simpa using hs⟩;have e:=r.length;simp only [JE]at e;lia
theorem Inv.list_inj(I:Inv X IT σ H s)(h:SqL X.K H a xs)(h':SqL X.K H a ys):xs=ys:=by
 obtain⟨KN,r,⟨o,n,e,_,_,d⟩,_⟩:=I.list h;obtain⟨its',r',⟨o',n',e',_,_,d'⟩,_⟩:=I.list h';rw[e]at e';cases e';rw[d]at d';injection d' with d1 _;have:KN=its':=by simpa using Kp US d1
 subst this;exact r.inj r'
theorem Inv.tuple_inj(I:Inv X IT σ H s)(h:SqT X.K H a xs)(h':SqT X.K H a ys):xs=ys:=by
 obtain⟨KN,r,⟨o,e,_,n,d⟩,_⟩:=I.tuple h;obtain⟨its',r',⟨o',e',_,n',d'⟩,_⟩:=I.tuple h';rw[e]at e';cases e';rw[d]at d';injection d' with d1 _;have:KN=its':=by simpa using Kp US d1
 subst this;exact r.inj r'
end
abbrev Cx.wish(X:Cx)(E:IH->IM->Prop):Cx:={X with xe:=E}
abbrev Cx.nox(X:Cx):Cx:=X.wish λ_ _=>False
theorem Cx.Ok.wish{X:Cx}(ok:X.Ok)(E:IH->IM->Prop):(X.wish E).Ok:=
 ⟨ok.mod,ok.kind,ok.glob,ok.blt,ok.above,ok.inj,ok.has,ok.cab,ok.hd,ok.frames,ok.stk,ok.exf,ok.bs,ok.bsz,ok.noex,ok.exfs,ok.funs,ok.frf⟩
theorem Cx.Ok.unwish{X:Cx}{E:IH->IM->Prop}(ok:(X.wish E).Ok):X.Ok:=
 ⟨ok.mod,ok.kind,ok.glob,ok.blt,ok.above,ok.inj,ok.has,ok.cab,ok.hd,ok.frames,ok.stk,ok.exf,ok.bs,ok.bsz,ok.noex,ok.exfs,ok.funs,ok.frf⟩
section
variable {X:Cx}{IT:IG (IL×Obj)}{σ:St}{H:Hp}{s:IM}{E:IH->IM->Prop}
theorem Inv.wish(I:Inv X IT σ H s)(E:IH->IM->Prop):Inv (X.wish E) IT σ H s:=⟨I.ok.wish E,I.os,I.bare,I.base,I.loc,I.cell,I.free,I.freeC,I.pin,I.hok,I.len⟩
theorem Inv.unwish(I:Inv (X.wish E) IT σ H s):Inv X IT σ H s:=⟨I.ok.unwish,I.os,I.bare,I.base,I.loc,I.cell,I.free,I.freeC,I.pin,I.hok,I.len⟩
theorem SP.unwish(h:SP (X.wish E) IT D f s'):SP X IT D f s':=by
 cases f with
 |next=>obtain⟨σ',H',I,q⟩:=h;exact⟨σ',H',I.unwish,q⟩
 |brk=>obtain⟨σ',H',I,q⟩:=h;exact⟨σ',H',I.unwish,q⟩
 |cont=>obtain⟨σ',H',I,q⟩:=h;exact⟨σ',H',I.unwish,q⟩
 |ret u=>obtain⟨v,σ',H',I,r,q⟩:=h;exact⟨v,σ',H',I.unwish,r,q⟩
theorem PSs.nox{st:IG KL}{t:TS}(h:PSs X.nox st t):PSs X st t:=λIT s σ H D I hw=>
 J2 (h IT s σ H D (I.wish _) hw) (λ_ _ q=>q.unwish) λ_ _ z=>Ld z
end
section
variable {X:Cx}{st:KL}{Lz:IG KL}{t u:TS}{e:Km}{te:TE}{pos:Pos}
def oG:TS:=λD σ H=>D.nx σ H
def vC(t u:TS):TS:=λD σ H=>t {D with nx:=u D} σ H
theorem ay:PSs X [] oG:=λ_ _ σ H _ I h=>KY ⟨σ,H,I,h⟩
theorem af(h1:PS X st t)(h2:PSs X Lz u):PSs X (st::Lz) (vC t u):=by
 intro IT s σ H D I h;refine Nm<|bT (h1 IT s σ H {D with nx:=u D} I h) λf s1 q=>?_;cases f with
 |next=>
  obtain⟨σ',H',I',q⟩:=q;exact h2 IT s1 σ' H' D I' q
 |ret v=>exact q
 |brk=>exact q
 |cont=>exact q
theorem ai(h1:PS X st t):PSs X [st] t:=by
 intro IT s σ H D I h;refine Nm<|bT (h1 IT s σ H D I h) λf s1 q=>?_;cases f with
 |next=>exact KY q
 |ret v=>exact q
 |brk=>exact q
 |cont=>exact q
theorem Inv.quiet(I:Inv X IT σ H s):interactive X.env=false:=by simp [interactive,I.ok.kind]
def vD(te:TE):TS:=λD σ H=>te σ H λ_ H1=>D.nx σ H1
theorem cp(he:PE X e te)(hs:P4 e IV pos.line X.env=pure false:=by rfl):PS X (.Expr e pos) (vD te):=by
 intro IT s σ H D I h;exact wpAny_Expr_any (bT (he IT s σ H _ I h) λv s1 ⟨x,H1,I1,r1,q1⟩=>⟨σ,H1,I1,q1⟩) I.quiet hs
def Hl(te:TE):TS:=λD σ H=>te σ H D.rt
theorem aw(he:PE X e te):PS X (.Return (B' e) pos) (Hl te):=by
 intro IT s σ H D I h;exact wpAny_Return_some<|bT (he IT s σ H _ I h) λv s1 ⟨x,H1,I1,r1,q1⟩=>⟨x,σ,H1,I1,r1,q1⟩
def qf(c:TT)(t u:TS):TS:=λD σ H=>c σ H λb H1=>if b=IS then t D σ H1 else u D σ H1
theorem aP(hc:PT X c tc)(ha:PSs X a t)(hb:PSs X b u):PS X (.If c a b pos) (qf tc t u):=by
 intro IT s σ H D I h;refine Yx<|bT (hc IT s σ H _ I h) λd s1 ⟨H1,I1,q1⟩=>?_;cases d with
 |true=>exact ha IT s1 σ H1 D I1 q1
 |false=>exact hb IT s1 σ H1 D I1 q1
def CO:TS:=λ_ _ _=>False
theorem aU:PS X st CO:=λ_ _ _ _ _ _ h=>h.elim
end
abbrev TG:=V->St->Hp->(St->Hp->Prop)->Prop
abbrev zj:=IG V->St->Hp->(St->Hp->Prop)->Prop
def PG(X:Cx)(Nu:Km)(t:TG):Prop:=
 ∀(IT:IG (IL×Obj)) (s:IM) (σ:St) (H:Hp) (v:V) (u:IH) (Q:St->Hp->Prop),Inv X IT σ H s->RelV v u->t v σ H Q->
  wpAny (Ju X.prog X.w) X.A (Tt Nu X.env u) (λ_ s'=>∃σ' H',Inv X IT σ' H' s'/\Q σ' H') X.xe s
def EH(X:Cx)(ts:IG Km)(t:zj):Prop:=
 ∀(IT:IG (IL×Obj)) (s:IM) (σ:St) (H:Hp) (vs:IG V) (us:IG IH) (Q:St->Hp->Prop),Inv X IT σ H s->Vals vs us->t vs σ H Q->
  wpAny (Ju X.prog X.w) X.A (assignInOrder ((Nh ts X.env).map (·.2)) us) (λ_ s'=>∃σ' H',Inv X IT σ' H' s'/\Q σ' H') X.xe s
abbrev CP:=V->V->V->Hp->(Hp->Prop)->Prop
def ES(X:Cx)(t:CP):Prop:=
 ∀(IT:IG (IL×Obj)) (s:IM) (σ:St) (H:Hp) (o i v:V) (ov iv u:IH) (Q:Hp->Prop),Inv X IT σ H s->RelV o ov->RelV i iv->RelV v u->t o i v H Q->
  wpAny (Ju X.prog X.w) X.A (setItem ov iv u) (λ_ s'=>∃H',Inv X IT σ H' s'/\Q H') X.xe s
section
variable {X:Cx}{pos:Pos}
def eF(i:Nat):TG:=λv σ H Q=>Q (σ.set i<|B' v) H
theorem aA(hN:X.N.Nodup)(hi:X.N[i]? =B' x)(hx:EF X.env.scope x)(hf:X.fn x=IS\/X.env.scope.names.lookup x=B' .local:=by first|exact .inl rfl|exact .inr rfl|assumption):PG X (.Name x pos) (eF i):=by
 intro IT s σ H v u Q I r h;exact Uj<|eU I hN hi hx r (λs' I'=>⟨_,H,I',h⟩) hf
def Hm:zj:=λvs σ H Q=>vs=[]/\Q σ H
def ET(t:TG)(u:zj):zj:=λvs σ H Q=>∃v r,vs=v::r/\t v σ H λσ' H'=>u r σ' H' Q
theorem dY:EH X [] Hm:=by
 intro IT s σ H vs us Q I r h;obtain⟨e,h⟩:=h;subst e;cases r;exact assignInOrder_nil ⟨σ,H,I,h⟩
theorem aY(h1:PG X e t)(h2:EH X es u)
  (hs:(Nh (e::es) X.env).map (·.2)=Tt e X.env::(Nh es X.env).map (·.2):=by rfl):EH X (e::es) (ET t u):=by
 intro IT s σ H vs us Q I r h;obtain⟨v,vr,e1,h⟩:=h;subst e1;cases r with
 |cons r rr=>
  rw[hs];refine assignInOrder_cons<|bT (h1 IT s σ H _ _ _ I r h) λ_ s1 ⟨σ1,H1,I1,q1⟩=>?_;exact h2 IT s1 σ1 H1 _ _ Q I1 rr q1
def EU(K:IJ)(n:Nat)(t:zj):TG:=λv σ H Q=>∃a xs,v=.ref a/\SqT K H a xs/\xs.length=n/\t xs σ H Q
theorem iV{k:Nat}{n:Nat}(hc:X.calm=IS)(h:EH X es t)
  (hn:(Nh es X.env).length=n:=by rfl) (R3:(Nh es X.env).findIdx? (·.1)=none:=by rfl):PG X (.Tuple es k pos) (EU X.K n t):=by
 intro IT s σ H v u Q I r hw;obtain⟨a,xs,e1,hq,hl,hw⟩:=hw;subst e1;cases r;obtain⟨KN,rv,ht,hz⟩:=I.tuple hq;refine assign_Tuple_tuple (I.ok.hd hc) ht (by simp [hn,<-hl,rv.length]) R3 λh' hx=>?_;have I1:Inv X IT σ H {s with heap:=h'}:=I.kept (t':=s.toks) λb o e=>hx b o (Js<|Jh e) e;exact h IT _ σ H xs _ Q I1 (by simpa using rv) hw
def Hn(to ti:TE)(t:CP):TG:=λv σ H Q=>to σ H λo H1=>ti σ H1 λi H2=>t o i v H2 λH3=>Q σ H3
theorem CQ(ho:PE X o to)(hi:PE X i ti)(hs:ES X t)
  (ha:∀v,Tt (.Subscript o i pos) X.env v=(do
   let ov <-SO [v] (LN o X.env)
   let iv <-SO [v,ov] (LN i X.env)
   standAt pos
   SO [v,ov,iv] (setItem ov iv v)
   release [v,ov,iv] []):=by intro _;rfl):PG X (.Subscript o i pos) (Hn to ti t):=by
 intro IT s σ H v u Q I r h;rw[ha];refine II<|Ks<|bT (ho IT s σ H _ I h) λov s1 ⟨x,H1,I1,r1,q1⟩=>?_;refine II<|Ks<|bT (hi IT s1 σ H1 _ I1 q1) λiv s2 ⟨y,H2,I2,r2,q2⟩=>?_;refine II<|Oe<|II<|Ks<|bT (hs IT s2 σ H2 x y v ov iv u _ I2 r1 r2 r q2) λ_ s3 ⟨H3,I3,q3⟩=>?_;exact wpAny_release ⟨σ,H3,I3,q3⟩
def qg(te:TE)(g:TG):TS:=λD σ H=>te σ H λx H1=>g x σ H1 D.nx
theorem ic(he:PE X e te)(hg:PG X tg g)(hs:swapsWithSole [tg] e pos.line X.env=pure false:=by rfl)(hw:swappedStores [tg] e X.env=pure none:=by rfl)
  (h1:(Nh [tg] X.env).map (·.2)=[Tt tg X.env]:=by rfl):PS X (.Assign [tg] e pos) (qg te g):=by
 intro IT s σ H D I h;refine wpAny_Assign_stores (bT (he IT s σ H _ I h) λv s1 ⟨x,H1,I1,r1,q1⟩=>?_) hs hw;rw[h1];exact bT (hg IT s1 σ H1 x v _ I1 r1 q1) λ_ s2 q=>q
theorem ar(hN:X.N.Nodup)(hi:X.N[i]? =B' x)(hx:EF X.env.scope x)(he:PE X e te)(hs:P4 e (B'<|.Name x QJ) pos.line X.env=pure false:=by rfl)(hf:X.fn x=IS\/X.env.scope.names.lookup x=B' .local:=by first|exact .inl rfl|exact .inr rfl|assumption):
  PS X (.Assign [.Name x QJ] e pos) (qg te<|eF i):=by
 intro IT s σ H D I h;refine Qp (bT (he IT s σ H _ I h) λv s1 ⟨y,H1,I1,r1,q1⟩=>?_) hs;exact eU I1 hN hi hx r1 (λs2 I2=>⟨_,H1,I2,q1⟩) hf
end
structure It where
 go:Nat->Hp->Prop
 yld:Nat->Hp->V->Hp->Prop
 stop:Nat->Hp->Prop
def m_(X:Cx)(IT:IG (IL×Obj))(H:Hp)(b:IL):Prop:=
 H b=IV/\b≠X.env.locals/\b∉X.fs/\(b∈X.ex\/X.s₀.heap.objs.size<=b)/\(∀x c,X.env.cells.lookup x=B' c->c≠b)/\∀p∈X.pn++IT,p.1≠b
theorem Inv.fpOk{X:Cx}{IT:IG (IL×Obj)}{σ:St}{H H':Hp}{s:IM}{b:IL}(I:Inv X IT σ H s)(hb:s.heap.objs.size<=b)(hn:H' b=IV):m_ X IT H' b:=by
 refine⟨hn,MN<|Ki I.lt hb,I.nofs hb,.inr<|KE I.sz hb,λx c e z=>?_,λp hp z=>?_⟩
 ·obtain⟨v,q⟩:=I.cell x c e;exact absurd (Ki q.lt<|by rw[z];exact hb)<|Lv _
 ·exact absurd (Ki (Jh (I.pin p hp).1)<|by rw[z];exact hb)<|Lv _
structure ub (P:Jc)(w:Jv)(K:IJ)(tg:Km)(J:It)(fp:IG IL)(it:IL)(tn:Nat->JM->Prop):Prop where
 mem:it∈fp
 obj:∀i h,tn i h->∀b∈fp,∃o,h.get? b=B' o/\∀v,o.data≠.cell v
 keep:∀i h h',tn i h->(∀b∈fp,∀o,h.get? b=B' o->h'.get? b=B' o)->tn i h'
 item:∀(X:Cx),X.prog=P->X.w=w->X.K=K->X.calm=IS->∀(i:Nat) (IT:IG (IL×Obj)) (s:IM) (σ:St) (H:Hp) (E:IH->IM->Prop),Inv X IT σ H s->(∀b∈fp,m_ X IT H b)->tn i s.heap->J.go i H->
  wpAny (Ju P w) X.A (Ou<|.ref it) (λr s1=>∃u,r=B' u/\
   wpAny (Ju P w) X.A (Pw tg (.ref it) u) (λ_ s2=>∃x H',Inv X IT σ H' s2/\RelV x u/\J.yld i H x H'/\tn (i+1) s2.heap/\∀b∈fp,H' b=IV) E s1) E s
 done:∀(X:Cx),X.prog=P->X.w=w->X.K=K->X.calm=IS->∀(i:Nat) (IT:IG (IL×Obj)) (s:IM) (σ:St) (H:Hp) (E:IH->IM->Prop),Inv X IT σ H s->(∀b∈fp,m_ X IT H b)->tn i s.heap->J.stop i H->
  wpAny (Ju P w) X.A (Ou<|.ref it) (λr s1=>r=IV/\Inv X IT σ H s1) E s
 self:∀(A:JV) (i:Nat) (s:IM) (Q:IH->IM->Prop) (E:IH->IM->Prop),tn i s.heap->Q (.ref it) s->wpAny (Ju P w) A (R7<|.ref it) Q E s
abbrev TI:=St->Hp->(It->Hp->Prop)->Prop
def Ho(X:Cx)(IT:IG (IL×Obj))(σ:St)(tg:Km)(R:It->Hp->Prop)(itv:IH)(s2:IM):Prop:=
 ∃(it:IL) (fp:IG IL) (tn:Nat->JM->Prop) (J:It) (H':Hp),itv=.ref it/\Inv X IT σ H' s2/\ub X.prog X.w X.K tg J fp it tn/\tn 0 s2.heap/\(∀b∈fp,m_ X IT H' b)/\R J H'
def PI(X:Cx)(tg iter:Km)(wi:TI):Prop:=
 ∀(IT:IG (IL×Obj)) (s:IM) (σ:St) (H:Hp) (R:It->Hp->Prop),Inv X IT σ H s->wi σ H R->
  wpAny (Ju X.prog X.w) X.A (LN iter X.env) (λv s1=>wpAny (Ju X.prog X.w) X.A (R7 v) (Ho X IT σ tg R) X.xe s1) X.xe s
theorem rP{M:RO}{A:JV}{E:IH->IM->Prop}{tg:Km}{u:IH}{Q:Pt->IM->Prop}(ho:s.heap.get? it=B' o)(hc:o.cls=.type n)(hd:o.data=.fields vs)
  (hn:["enumerate","zip","dict_itemiterator","dict_reverseitemiterator","odict_iterator","itertools.zip_longest","itertools.pairwise"].contains n=IU) (hQ:Q () s):wpAny M A (Pw tg (.ref it) u) Q E s:=by
 unfold Pw;cases tg<;>first
  |exact I0 hQ
  |(cases u<;>first
    |exact I0 hQ
    |(refine II<|wpAny_load ho ?_
      rw[hc,hd];show wpAny M A (if(["enumerate","zip","dict_itemiterator","dict_reverseitemiterator","odict_iterator","itertools.zip_longest","itertools.pairwise"].contains n&&vs[0]? == B' (NR _))=IS then _ else _) Q E s
      rw[JD<|by intro h;rw[hn,NX]at h;cases h];exact I0 hQ))
def vE(K:IJ)(a:IL):It:=
 ⟨λi H=>∃xs x,SqL K H a xs/\xs[i]? =B' x,λi H x H'=>H'=H/\∀xs,SqL K H a xs->xs[i]? =B' x,λi H=>∃xs,SqL K H a xs/\xs.length<=i⟩
def CS(K:IJ)(a:IL):It:=
 ⟨λi H=>∃xs x,SqT K H a xs/\xs[i]? =B' x,λi H x H'=>H'=H/\∀xs,SqT K H a xs->xs[i]? =B' x,λi H=>∃xs,SqT K H a xs/\xs.length<=i⟩
def Bx(lo:Int)(n:Nat):It:=⟨λi _=>i < n,λi H x H'=>H'=H/\x=.int (lo+i),λi _=>n<=i⟩
theorem uc{P:Jc}{w:Jv}{K:IJ}{tg:Km}(a it:IL):ub P w K tg (vE K a) [it] it (λi h=>h.IsListIter it a i) where
 mem:=by simp
 obj:=λi h st b hb=>by
  have e:b=it:=by simpa using hb
  subst e;obtain⟨o,e,c,d⟩:=st;exact⟨o,e,λv z=>by rw[d]at z;cases z⟩
 keep:=λi h h' st k=>st.at λo e=>k it (by simp) o e
 item:=by
  intro X hP hw hK hc i IT s σ H E I hf st hg;subst hP hw hK;obtain⟨xs,x,hq,hx⟩:=hg;obtain⟨KN,rv,p,hz⟩:=I.list hq;obtain⟨u,hu,ru⟩:=rv.get hx;obtain⟨f0,f1,f2,f3,f4,f5⟩:=hf it (by simp);refine wpAny_pyNext_list_item st p.isList (x:=u) (by simpa using hu) λh' LI sb=>?_;have I1:Inv X IT σ H {s with heap:=h'}:=I.turned (t':=s.toks) (λb o hb e=>(sb.2 b hb).trans e) f0 f1 f3 f4 f5;obtain⟨o,e,c,d⟩:=id LI;exact⟨u,rfl,rP (s:={s with heap:=h'}) e c d (by decide) ⟨x,H,I1,ru,⟨rfl,λys hy=>by rw[I.list_inj hy hq];exact hx⟩,LI,λb hb=>(hf b hb).1⟩⟩
 done:=by
  intro X hP hw hK hc i IT s σ H E I hf st hg;subst hP hw hK;obtain⟨xs,hq,hx⟩:=hg;obtain⟨KN,rv,p,hz⟩:=I.list hq;obtain⟨f0,f1,f2,f3,f4,f5⟩:=hf it (by simp);have hl:=rv.length;exact wpAny_pyNext_list_end (I.ok.hd hc) st p.isList (by simp;lia) λh' eb=>⟨rfl,I.turned (t':=s.toks) (λb o hb e=>eb b o hb e) f0 f1 f3 f4 f5⟩
 self:=λ_ _ _ _ _ st h=>wpAny_pyIter_listiter st h
theorem qh{P:Jc}{w:Jv}{K:IJ}{tg:Km}(a it:IL):ub P w K tg (CS K a) [it] it (λi h=>h.IsTupleIter it a i) where
 mem:=by simp
 obj:=λi h st b hb=>by
  have e:b=it:=by simpa using hb
  subst e;obtain⟨o,e,c,d⟩:=st;exact⟨o,e,λv z=>by rw[d]at z;cases z⟩
 keep:=λi h h' st k=>st.at λo e=>k it (by simp) o e
 item:=by
  intro X hP hw hK hc i IT s σ H E I hf st hg;subst hP hw hK;obtain⟨xs,x,hq,hx⟩:=hg;obtain⟨KN,rv,p,hz⟩:=I.tuple hq;obtain⟨u,hu,ru⟩:=rv.get hx;obtain⟨f0,f1,f2,f3,f4,f5⟩:=hf it (by simp);refine wpAny_pyNext_tuple_item st (show s.heap.IsTuple a KN.toArray from p) (x:=u) (by simpa using hu) λh' LI sb=>?_;have I1:Inv X IT σ H {s with heap:=h'}:=I.turned (t':=s.toks) (λb o hb e=>(sb.2 b hb).trans e) f0 f1 f3 f4 f5;obtain⟨o,e,c,d⟩:=id LI;exact⟨u,rfl,rP (s:={s with heap:=h'}) e c d (by decide) ⟨x,H,I1,ru,⟨rfl,λys hy=>by rw[I.tuple_inj hy hq];exact hx⟩,LI,λb hb=>(hf b hb).1⟩⟩
 done:=by
  intro X hP hw hK hc i IT s σ H E I hf st hg;subst hP hw hK;obtain⟨xs,hq,hx⟩:=hg;obtain⟨KN,rv,p,hz⟩:=I.tuple hq;obtain⟨f0,f1,f2,f3,f4,f5⟩:=hf it (by simp);have hl:=rv.length;exact wpAny_pyNext_tuple_end (I.ok.hd hc) st (show s.heap.IsTuple a KN.toArray from p) (by simp;lia) λh' eb=>⟨rfl,I.turned (t':=s.toks) (λb o hb e=>eb b o hb e) f0 f1 f3 f4 f5⟩
 self:=λ_ _ _ _ _ st h=>wpAny_pyIter_tupleiter st h
theorem qi{P:Jc}{w:Jv}{K:IJ}{tg:Km}(it:IL)(lo:Int)(n:Nat):ub P w K tg (Bx lo n) [it] it (λi h=>Si h it (lo+(i:Nat)*1) ((n:Int) - (i:Nat)) 1) where
 mem:=by simp
 obj:=λi h st b hb=>by
  have e:b=it:=by simpa using hb
  subst e;exact⟨_,st,λv z=>by
   have z':Vr _=XA v:=z;cases z'⟩
 keep:=λi h h' st k=>k it (by simp) _ st
 item:=by
  intro X hP hw hK hc i IT s σ H E I hf st hg;subst hP hw hK;obtain⟨f0,f1,f2,f3,f4,f5⟩:=hf it (by simp);have W:=YA (prog:=X.prog) (w:=X.w) (I.ok.hd hc) it lo 1 n;refine W.item i s _ _ hg st λv h' tk hv LI kk=>?_;obtain⟨t,rfl⟩:=hv;have I1:Inv X IT σ H {s with heap:=h',toks:=tk}:=I.turned (λb o hb e=>kk b o (by simpa using hb) e) f0 f1 f3 f4 f5;refine⟨_,rfl,rP (s:={s with heap:=h',toks:=tk}) (n:="range_iterator") LI rfl rfl (by decide) ⟨.int<|lo+i,H,I1,⟨t,?_⟩,⟨rfl,rfl⟩,LI,λb hb=>(hf b hb).1⟩⟩;rw[YN]
 done:=by
  intro X hP hw hK hc i IT s σ H E I hf st hg;subst hP hw hK;obtain⟨f0,f1,f2,f3,f4,f5⟩:=hf it (by simp);exact Rh (I.ok.hd hc) st (by have:n<=i:=hg;lia) λh' eb=>⟨rfl,I.turned (t':=s.toks) (λb o hb e=>eb b o hb e) f0 f1 f3 f4 f5⟩
 self:=λ_ _ _ _ _ st h=>Ri st h
section
variable {X:Cx}{tg:Km}
inductive EV (K:IJ)(x:V)(H:Hp)(R:It->Hp->Prop):Prop
 |mk (a:IL)(h:x=.ref a)(e:∃xs,SqL K H a xs)(r:R (vE K a) H):EV K x H R
inductive EW (K:IJ)(x:V)(H:Hp)(R:It->Hp->Prop):Prop
 |mk (a:IL)(h:x=.ref a)(e:∃xs,SqT K H a xs)(r:R (CS K a) H):EW K x H R
def EY(K:IJ)(tl:TE):TI:=λσ H R=>tl σ H λx H1=>EV K x H1 R
def Hq(K:IJ)(tl:TE):TI:=λσ H R=>tl σ H λx H1=>EW K x H1 R
theorem b_(hl:PE X l tl):PI X tg l (EY X.K tl):=by
 intro IT s σ H R I h;refine bT (hl IT s σ H _ I h) λv s1 ⟨x,H1,I1,r1,q1⟩=>?_;obtain⟨a,e,⟨xs,hq⟩,q⟩:=q1;subst e;cases r1;obtain⟨KN,rv,p,hz⟩:=I1.list hq;refine M8 p.isList ?_;refine⟨s1.heap.objs.size,[s1.heap.objs.size],_,_,H1,rfl,I1.kept (t':=s1.toks) λb o e=>IP _ e,uc a _,⟨_,JB _ rfl,rfl,rfl⟩,λb hb=>?_,q⟩;have e:b=s1.heap.objs.size:=by simpa using hb
 subst e;exact I1.fpOk (IX _)<|I1.hok.fresh<|IX _
theorem dO(hl:PE X l tl):PI X tg l (Hq X.K tl):=by
 intro IT s σ H R I h;refine bT (hl IT s σ H _ I h) λv s1 ⟨x,H1,I1,r1,q1⟩=>?_;obtain⟨a,e,⟨xs,hq⟩,q⟩:=q1;subst e;cases r1;obtain⟨KN,rv,p,hz⟩:=I1.tuple hq;refine wpAny_pyIter_tuple (show s1.heap.IsTuple a KN.toArray from p) ?_;refine⟨s1.heap.objs.size,[s1.heap.objs.size],_,_,H1,rfl,I1.kept (t':=s1.toks) λb o e=>IP _ e,qh a _,⟨_,JB _ rfl,rfl,rfl⟩,λb hb=>?_,q⟩;have e:b=s1.heap.objs.size:=by simpa using hb
 subst e;exact I1.fpOk (IX _)<|I1.hok.fresh<|IX _
theorem oH{IT:IG (IL×Obj)}{σ:St}{H:Hp}{s:IM}{R:It->Hp->Prop}{E:IH->IM->Prop}{lo hi:Int}{t u v:Tok}{tk:Nat}(I:Inv X IT σ H s)(h1:-(2 ^ 62)<=lo)(h2:lo < 2 ^ 62)(h3:-(2 ^ 62)<=hi)(h4:hi < 2 ^ 62)
  (q:R (Bx lo (hi - lo).toNat) H):wpAny (Ju X.prog X.w) X.A (R7<|.ref s.heap.objs.size) (Ho X IT σ tg R) E {s with heap:=s.heap.push {cls:=.type "range",data:=.fields #[.int lo t,.int hi u,.int 1 v]},toks:=tk}:=by
 refine Ti (YH ..) (small_one h1 h2 h3 h4) ?_;have I1:Inv X IT σ H {s with heap:=s.heap.push {cls:=.type "range",data:=.fields #[.int lo t,.int hi u,.int 1 v]},toks:=tk}:=I.kept λb o e=>IP _ e;refine⟨(s.heap.push {cls:=.type "range",data:=.fields #[.int lo t,.int hi u,.int 1 v]}).objs.size,[(s.heap.push {cls:=.type "range",data:=.fields #[.int lo t,.int hi u,.int 1 v]}).objs.size],_,_,H,rfl,
  I1.kept (t':=tk) λb o e=>IP _ e,qi _ lo (hi - lo).toNat,?_,λb hb=>?_,q⟩
 ·have e1:lo+((0:Nat):Int)*1=lo:=by simp
  have e2:(((hi - lo).toNat:Nat):Int) - ((0:Nat):Int)=Q_ lo hi 1:=by rw[rangeSize_one];split<;>lia
  show Si _ _ (lo+((0:Nat):Int)*1) ((((hi - lo).toNat:Nat):Int) - ((0:Nat):Int)) 1
  rw[e1,e2];exact JB _ rfl
 ·have e:b=(s.heap.push {cls:=.type "range",data:=.fields #[.int lo t,.int hi u,.int 1 v]}).objs.size:=by simpa using hb
  subst e;exact I1.fpOk (IX _)<|I1.hok.fresh<|IX _
def EZ(ta:TA):TI:=λσ H R=>ta σ H λvs H1=>∃j:Int,vs=[.int j]/\ -(2 ^ 62)<=j/\j < 2 ^ 62/\R (Bx 0 j.toNat) H1
def E1(ta:TA):TI:=λσ H R=>ta σ H λvs H1=>∃i j:Int,vs=[.int i,.int j]/\(-(2 ^ 62)<=i/\i < 2 ^ 62/\ -(2 ^ 62)<=j/\j < 2 ^ 62)/\R (Bx i (j - i).toNat) H1
theorem dj(hg:Gl X "range")(hm:X.mg "range"=IV)(ha:PA X [a] ta)(hs:JI [a] X.env=[(IU,LN a X.env)]:=by rfl):PI X tg (.Call (.Name "range" p) [a] [] pos) (EZ ta):=by
 intro IT s σ H R I h;refine Call_<|eD I hg hm Wu<|Lo (bT (ha pos IT s σ H _ I h) λus s1 ⟨vs,H1,I1,r1,q1⟩=>?_) hs rfl;obtain⟨j,e,q1,q2,q⟩:=q1;subst e;cases r1 with
 |cons r rr=>
  cases rr;obtain⟨t,rfl⟩:=r;exact call_range_1 (oH I1 (by lia) (by lia) q1 q2<|by simpa using q)
theorem ue{p pos:Pos}(hg:Gl X "range")(hm:X.mg "range"=IV)(ha:PA X [a,b] ta)(hs:JI [a,b] X.env=[(IU,LN a X.env),(IU,LN b X.env)]:=by rfl)(Vv:JI [b] X.env=[(IU,LN b X.env)]:=by rfl):
  PI X tg (.Call (.Name "range" p) [a,b] [] pos) (E1 ta):=by
 intro IT s σ H R I h;refine Call_ (eD I hg hm Wu<|Lo (bT (ha pos IT s σ H _ I h) λus s1 ⟨vs,H1,I1,r1,q1⟩=>?_) (by rw[hs,Vv])<|by rw[Vv];rfl);obtain⟨i,j,e,⟨q1,q2,q3,q4⟩,q⟩:=q1;subst e;cases r1 with
 |cons r rr=>
  cases rr with
  |cons r' rr=>
   cases rr;obtain⟨t,rfl⟩:=r;obtain⟨t',rfl⟩:=r';exact call_range_2<|oH I1 q1 q2 q3 q4 q
def Hr(wi:TI)(g:TG)(tb:TS):TS:=λD σ H=>wi σ H λJ H1=>∃W:Nat->Nat->St->Hp->Prop,(∃m,W 0 m σ H1)/\∀i m σ H,W i m σ H->
 (J.stop i H/\D.nx σ H)\/(J.go i H/\∃N:St->Hp->Prop,(∀σ' H',N σ' H'->∃m',m' < m/\W (i+1) m' σ' H')/\∀x H',J.yld i H x H'->g x σ H' λσ2 H2=>tb {D with nx:=N,ct:=N,bk:=D.nx} σ2 H2)
def jW(fp:IG IL)(h:JM):IG (IL×Obj):=fp.filterMap λb=>(h.get? b).map λo=>(b,o)
theorem fS(hb:b∈fp)(e:h.get? b=B' o):(b,o)∈jW fp h:=JZ.mpr ⟨b,hb,by rw[e];rfl⟩
theorem uf(hp:p∈jW fp h):p.1∈fp/\h.get? p.1=B' p.2:=by
 obtain⟨b,hb,e⟩:=JZ.mp hp;cases q:h.get? b with
 |none=>rw[q]at e;cases e
 |some o=>
  rw[q]at e;have e':(b,o)=p:=Jo e;subst e';exact⟨hb,q⟩
theorem Inv.pinned(I:Inv X IT σ H s)(hf:∀b∈fp,m_ X IT H b)(ho:∀b∈fp,∃o,s.heap.get? b=B' o/\∀v,o.data≠.cell v):Inv X (IT++jW fp s.heap) σ H s:=
 I.pins_of λp hp=>(JA.mp hp).elim (λz=>I.pin p<|Ku _ z) λz=>by
  obtain⟨hb,e⟩:=uf z;obtain⟨f0,f1,f2,_⟩:=hf p.1 hb;obtain⟨o,e',d⟩:=ho p.1 hb;rw[e]at e';cases e';exact⟨e,f0,f1,f2,d⟩
theorem Inv.unpinned(I:Inv X (IT++pl) σ H s):Inv X IT σ H s:=I.pins_of λp hp=>I.pin p<|Ku _<|Na _ hp
theorem cR{pos:Pos}(hp:PassesOwn (Ju X.prog X.w) X.A X.env X.xe)(hc:X.calm=IS)(hi:PI X tg iter wi)(hg:PG X tg g)(hb:PSs X body tb)
  (hs:∀x,Qt iter X.env x=pure x:=by intro _;rfl):PS X (.For tg iter body [] pos) (Hr wi g tb):=by
 intro IT s σ H D I h;refine wpAny_For (bT (hi IT s σ H _ I h) λv s1 h1=>bT h1 λitv s2 h2=>?_) hs;obtain⟨it,fp,tn,J,H2,e,I2,T,Nd,f2,W,⟨m0,w0⟩,XF⟩:=h2;subst e;have Y4:∀{H':Hp},(∀b∈fp,H' b=IV)->∀b∈fp,m_ X IT H' b:=λhn b hb=>⟨hn b hb,(f2 b hb).2⟩;refine codeAny_forLoop_any (λn s'=>∃i σ' H',Inv X IT σ' H' s'/\tn i s'.heap/\(∀b∈fp,H' b=IV)/\W i n σ' H') ?_ m0 ⟨0,σ,H2,I2,Nd,λb hb=>(f2 b hb).1,w0⟩;rintro n s3 ⟨i,σ3,H3,I3,UT,fr3,w3⟩;obtain⟨stop,qn⟩|⟨go,N,hN,step⟩:=XF i n σ3 H3 w3
 ·refine Oo hp<|bT (T.done X rfl rfl rfl hc i IT s3 σ3 H3 X.xe I3 (Y4 fr3) UT stop) λr s4 ⟨hr,I4⟩=>?_;subst hr;exact KY ⟨σ3,H3,I4,qn⟩
 ·refine Oo hp<|bT (T.item X rfl rfl rfl hc i IT s3 σ3 H3 X.xe I3 (Y4 fr3) UT go) λr s4 ⟨u,hr,h4⟩=>?_;subst hr;refine Oo hp<|bT h4 λ_ s5 ⟨x,H5,I5,r5,y5,st5,fr5⟩=>?_;have I5':=I5.pinned (Y4 fr5)<|T.obj _ _ st5;refine Oo hp<|bT (hg _ s5 σ3 H5 x u _ I5' r5<|step x H5 y5) λ_ s6 ⟨σ6,H6,I6,q6⟩=>?_;refine Oo hp<|bT (hb _ s6 σ6 H6 _ I6 q6) λf s7 q7=>?_;have again:∀{σ7:St} {H7:Hp},Inv X (IT++jW fp s5.heap) σ7 H7 s7->N σ7 H7->∃m,m < n/\∃i σ' H',Inv X IT σ' H' s7/\tn i s7.heap/\(∀b∈fp,H' b=IV)/\W i m σ' H':=λ{σ7 H7} I7 n7=>by
   obtain⟨m',hm,w7⟩:=hN σ7 H7 n7;refine⟨m',hm,i+1,σ7,H7,I7.unpinned,T.keep _ _ _ st5 λb hb o e=>(I7.pin (b,o)<|Ku _<|Ku _<|fS hb e).1,λb hb=>?_,w7⟩;obtain⟨o,e,d⟩:=T.obj _ _ st5 b hb;exact(I7.pin (b,o)<|Ku _<|Ku _<|fS hb e).2.1
  cases f with
  |next=>obtain⟨σ7,H7,I7,n7⟩:=q7;exact again I7 n7
  |cont=>obtain⟨σ7,H7,I7,n7⟩:=q7;exact again I7 n7
  |brk=>obtain⟨σ7,H7,I7,q7⟩:=q7;exact⟨σ7,H7,I7.unpinned,q7⟩
  |ret v=>obtain⟨x7,σ7,H7,I7,r7,q7⟩:=q7;exact⟨x7,σ7,H7,I7.unpinned,r7,q7⟩
end
theorem gr{K:IJ}{a:IL}{xs:IG V}{g:TG}{tb:TS}{D:fQ}{σ:St}{H:Hp}(Pv:Nat->St->Hp->Prop)(h0:Pv 0 σ H)(hl:∀i σ H,i<=xs.length->Pv i σ H->SqL K H a xs)
  (hs:∀i x σ H,xs[i]? =B' x->Pv i σ H->g x σ H λσ2 H2=>tb {D with nx:=Pv<|i+1,ct:=Pv<|i+1,bk:=D.nx} σ2 H2) (hd:∀σ H,Pv xs.length σ H->D.nx σ H):
  ∃W:Nat->Nat->St->Hp->Prop,(∃m,W 0 m σ H)/\∀i m σ H,W i m σ H->
   ((vE K a).stop i H/\D.nx σ H)\/((vE K a).go i H/\∃N:St->Hp->Prop,(∀σ' H',N σ' H'->∃m',m' < m/\W (i+1) m' σ' H')/\∀x H',(vE K a).yld i H x H'->g x σ H' λσ2 H2=>tb {D with nx:=N,ct:=N,bk:=D.nx} σ2 H2):=by
 exists λi m σ H=>m=xs.length - i/\i<=xs.length/\Pv i σ H,⟨xs.length,by simp,Jw _,h0⟩;rintro i m σ H ⟨rfl,hi,p⟩;have q:=hl i σ H hi p;by_cases M6:i < xs.length
 ·refine .inr ⟨⟨xs,xs[i],q,by simp [M6]⟩,Pv<|i+1,λσ' H' p'=>⟨xs.length - (i+1),by lia,rfl,M6,p'⟩,λx H' y=>?_⟩;obtain⟨e,y⟩:=y;subst e;exact hs i x σ _ (y xs q) p
 ·have e:i=xs.length:=by lia
  subst e;exact .inl ⟨⟨xs,q,IX _⟩,hd σ H p⟩
theorem rQ{K:IJ}{a:IL}{xs:IG V}{g:TG}{tb:TS}{D:fQ}{σ:St}{H:Hp}(Pv:Nat->St->Hp->Prop)(h0:Pv 0 σ H)(hl:∀i σ H,i<=xs.length->Pv i σ H->SqT K H a xs)
  (hs:∀i x σ H,xs[i]? =B' x->Pv i σ H->g x σ H λσ2 H2=>tb {D with nx:=Pv<|i+1,ct:=Pv<|i+1,bk:=D.nx} σ2 H2) (hd:∀σ H,Pv xs.length σ H->D.nx σ H):
  ∃W:Nat->Nat->St->Hp->Prop,(∃m,W 0 m σ H)/\∀i m σ H,W i m σ H->
   ((CS K a).stop i H/\D.nx σ H)\/((CS K a).go i H/\∃N:St->Hp->Prop,(∀σ' H',N σ' H'->∃m',m' < m/\W (i+1) m' σ' H')/\∀x H',(CS K a).yld i H x H'->g x σ H' λσ2 H2=>tb {D with nx:=N,ct:=N,bk:=D.nx} σ2 H2):=by
 exists λi m σ H=>m=xs.length - i/\i<=xs.length/\Pv i σ H,⟨xs.length,by simp,Jw _,h0⟩;rintro i m σ H ⟨rfl,hi,p⟩;have q:=hl i σ H hi p;by_cases M6:i < xs.length
 ·refine .inr ⟨⟨xs,xs[i],q,by simp [M6]⟩,Pv<|i+1,λσ' H' p'=>⟨xs.length - (i+1),by lia,rfl,M6,p'⟩,λx H' y=>?_⟩;obtain⟨e,y⟩:=y;subst e;exact hs i x σ _ (y xs q) p
 ·have e:i=xs.length:=by lia
  subst e;exact .inl ⟨⟨xs,q,IX _⟩,hd σ H p⟩
theorem dQ{lo:Int}{n:Nat}{g:TG}{tb:TS}{D:fQ}(Pv:Nat->St->Hp->Prop)(h0:Pv 0 σ H)
  (hs:∀i σ H,i < n->Pv i σ H->g (.int<|lo+i) σ H λσ2 H2=>tb {D with nx:=Pv<|i+1,ct:=Pv<|i+1,bk:=D.nx} σ2 H2) (hd:∀σ H,Pv n σ H->D.nx σ H):
  ∃W:Nat->Nat->St->Hp->Prop,(∃m,W 0 m σ H)/\∀i m σ H,W i m σ H->
   ((Bx lo n).stop i H/\D.nx σ H)\/((Bx lo n).go i H/\∃N:St->Hp->Prop,(∀σ' H',N σ' H'->∃m',m' < m/\W (i+1) m' σ' H')/\∀x H',(Bx lo n).yld i H x H'->g x σ H' λσ2 H2=>tb {D with nx:=N,ct:=N,bk:=D.nx} σ2 H2):=by
 exists λi m σ H=>m=n - i/\i<=n/\Pv i σ H,⟨n,by simp,Jw _,h0⟩;rintro i m σ H ⟨rfl,hi,p⟩;by_cases M6:i < n
 ·refine .inr ⟨M6,Pv<|i+1,λσ' H' p'=>⟨n - (i+1),by lia,rfl,M6,p'⟩,λx H' y=>?_⟩;obtain⟨e,y⟩:=y;subst e y;exact hs i σ _ M6 p
 ·have e:i=n:=by lia
  subst e;exact .inl ⟨IX _,hd σ H p⟩
abbrev R2:=V->V->Hp->VK->Prop
def OpR(X:Cx)(f:IH->IH->Sem IH)(r:R2):Prop:=
 ∀(IT:IG (IL×Obj)) (s:IM) (σ:St) (H:Hp) (x y:V) (v u:IH) (Q:VK),Inv X IT σ H s->RelV x v->RelV y u->r x y H Q->
  wpAny (Ju X.prog X.w) X.A (f v u) (EP X IT σ Q) X.xe s
def Hs(X:Cx)(f:IH->Sem IH)(r:V->Hp->VK->Prop):Prop:=
 ∀(IT:IG (IL×Obj)) (s:IM) (σ:St) (H:Hp) (x:V) (v:IH) (Q:VK),Inv X IT σ H s->RelV x v->r x H Q->
  wpAny (Ju X.prog X.w) X.A (f v) (EP X IT σ Q) X.xe s
def dJ(X:Cx)(f:IH)(r:IG V->Hp->VK->Prop):Prop:=
 ∀(IT:IG (IL×Obj)) (s:IM) (σ:St) (H:Hp) (xs:IG V) (us:IG IH) (Q:VK),Inv X IT σ H s->Vals xs us->r xs H Q->
  wpAny (Ju X.prog X.w) X.A (call f us) (EP X IT σ Q) X.xe s
def lF(r:R2)(ta tb:TE):TE:=λσ H Q=>ta σ H λx H1=>tb σ H1 λy H2=>r x y H2 Q
def Iw(r:V->Hp->VK->Prop)(ta:TE):TE:=λσ H Q=>ta σ H λx H1=>r x H1 Q
inductive Ib (C:Int->Int->Prop)(g:Int->Int->V)(x y:V)(H:Hp)(Q:VK):Prop
 |mk (i j:Int)(hx:x=.int i)(hy:y=.int j)(c:C i j)(q:Q (g i j) H):Ib C g x y H Q
inductive Ic (g:Int->Int->V)(x y:V)(H:Hp)(Q:VK):Prop
 |mk (i j:Int)(hx:x=.int i)(hy:y=.int j)(q:Q (g i j) H):Ic g x y H Q
inductive Id (g:Int->V)(x:V)(H:Hp)(Q:VK):Prop
 |mk (i:Int)(hx:x=.int i)(q:Q (g i) H):Id g x H Q
def rI(C:Int->Int->Prop)(g:Int->Int->V):R2:=λx y H Q=>Ib C g x y H Q
def zk(g:Int->Int->V):R2:=λx y H Q=>Ic g x y H Q
def rU(g:Int->V):V->Hp->VK->Prop:=λx H Q=>Id g x H Q
section
variable {X:Cx}{a b c:Km}{ta tb tc:TE}{pos:Pos}
theorem CT(ha:PE X a ta)(hb:PE X b tb){R:V->V->Hp->Prop}(I:Inv X IT σ H s)
  (h:ta σ H λx H1=>tb σ H1 λy H2=>R x y H2) {Q:IH->IM->Prop} {f:IH->IH->Sem IH}
  (hf:∀v u s2 x y H2,Inv X IT σ H2 s2->RelV x v->RelV y u->R x y H2->wpAny (Ju X.prog X.w) X.A (f v u) Q X.xe s2):
  wpAny (Ju X.prog X.w) X.A (LN a X.env) (λv s₁=>wpAny (Ju X.prog X.w) X.A (LN b X.env) (λu s₂=>wpAny (Ju X.prog X.w) X.A (f v u) Q X.xe s₂) X.xe s₁) X.xe s:=by
 refine bT (ha IT s σ H _ I h) λv s1 ⟨x,H1,I1,r1,q1⟩=>?_;refine bT (hb IT s1 σ H1 _ I1 q1) λu s2 ⟨y,H2,I2,r2,q2⟩=>?_;exact hf v u s2 x y H2 I2 r1 r2 q2
theorem aG(ho:OpR X (Nz op) r)(ha:PE X a ta)(hb:PE X b tb):PE X (.BinOp a op b pos) (lF r ta tb):=by
 intro IT s σ H Q I h;exact wpAny_BinOp<|CT ha hb I h λv u s2 x y H2 I2 rx ry q=>ho IT s2 σ H2 x y v u Q I2 rx ry q
theorem ci(ho:Hs X (unaryOp op) r)(ha:PE X a ta):PE X (.UnaryOp op a pos) (Iw r ta):=by
 intro IT s σ H Q I h;exact UnaryOp_<|bT (ha IT s σ H _ I h) λv s1 ⟨x,H1,I1,r1,q1⟩=>ho IT s1 σ H1 x v Q I1 r1 q1
theorem GU{f:IH->IH->Sem IH}{C:Int->Int->Prop}{g:Int->Int->Int}
  (rule:∀i j t u s Q E,C i j->Q (.int (g i j) s.toks) {s with toks:=s.toks+1}->wpAny (Ju X.prog X.w) X.A (f (.int i t)<|.int j u) Q E s):
  OpR X f (rI C λi j=>.int<|g i j):=by
 intro IT s σ H x y v u Q I rx ry h;obtain⟨i,j,rfl,rfl,hc,q⟩:=h;obtain⟨t,rfl⟩:=rx;obtain⟨t',rfl⟩:=ry;exact rule i j t t' s _ _ hc ⟨.int<|g i j,H,I.tok _,⟨_,rfl⟩,q⟩
theorem CU{f:IH->IH->Sem IH}{g:Int->Int->Int}
  (rule:∀i j t u s Q E,Q (.int (g i j) s.toks) {s with toks:=s.toks+1}->wpAny (Ju X.prog X.w) X.A (f (.int i t)<|.int j u) Q E s):
  OpR X f (zk λi j=>.int<|g i j):=by
 intro IT s σ H x y v u Q I rx ry h;obtain⟨i,j,rfl,rfl,q⟩:=h;obtain⟨t,rfl⟩:=rx;obtain⟨t',rfl⟩:=ry;exact rule i j t t' s _ _ ⟨.int<|g i j,H,I.tok _,⟨_,rfl⟩,q⟩
theorem zr{f:IH->IH->Sem IH}{g:Int->Int->Jm}
  (rule:∀i j t u s Q E,Q (.bool<|g i j) s->wpAny (Ju X.prog X.w) X.A (f (.int i t)<|.int j u) Q E s):
  OpR X f (zk λi j=>.bl<|g i j):=by
 intro IT s σ H x y v u Q I rx ry h;obtain⟨i,j,rfl,rfl,q⟩:=h;obtain⟨t,rfl⟩:=rx;obtain⟨t',rfl⟩:=ry;exact rule i j t t' s _ _ ⟨.bl<|g i j,H,I,rfl,q⟩
def E2(i j:Int):Prop:=0 < j/\j < 1073741824
def CMul(i j:Int):Prop:=(-(2 ^ 64) < i/\i < 2 ^ 64)\/(-(2 ^ 64) < j/\j < 2 ^ 64)
theorem CMul.ok(h:CMul i j):IntMulOk i j:=by
 obtain⟨h1,h2⟩|⟨h1,h2⟩:=h
 ·exact .of_left<|W3 h1 h2
 ·exact .of_right<|W3 h1 h2
theorem qj(k:Nat):(0:Int)<=2 ^ k:=by
 rw[two_pow_cast];exact Int.natCast_nonneg _
theorem cB:OpR X (Nz .Add) (zk λi j=>.int<|i+j):=CU λ_ _ _ _ _ _ _ q=>add_int q
theorem eW:OpR X (Nz .Sub) (zk λi j=>.int<|i - j):=CU λ_ _ _ _ _ _ _ q=>sub_int q
theorem fE:OpR X (Nz .Mult) (rI CMul λi j=>.int<|i*j):=GU λ_ _ _ _ _ _ _ hc q=>mul_int q hc.ok
theorem cU:OpR X (Nz .FloorDiv) (rI E2 λi j=>.int<|i / j):=GU λi j _ _ _ _ _ hc q=>by
 have h1:(0:Int) < j:=hc.1;have h2:j < 1073741824:=hc.2;exact floordiv_int (by lia) (by rw[Qh i<|by lia];exact q) (.inl<|Rp<|by lia)
theorem bA:OpR X (Nz .Mod) (rI (λ_ j=>0 < j) λi j=>.int<|i % j):=GU λi j _ _ _ _ _ hc q=>by
 have h1:(0:Int) < j:=hc;exact mod_int' (by lia) (by rw[Int.fmod_eq_emod_of_nonneg i<|by lia];exact q)
theorem CV:OpR X (Nz .RShift) (rI (λ_ j=>0<=j) λi j=>.int<|i / 2 ^ j.toNat):=GU λi j _ _ _ _ _ hc q=>
 rshift_int hc (by rw[Qh i<|qj _];exact q)
theorem CY:OpR X (Nz .BitAnd) (zk λi j=>.int<|Sl i j):=CU λ_ _ _ _ _ _ _ q=>and_int q
theorem Ix{f:IH->Sem IH}{g:Int->Int}
  (rule:∀i t s Q E,Q (.int (g i) s.toks) {s with toks:=s.toks+1}->wpAny (Ju X.prog X.w) X.A (f<|.int i t) Q E s):
  Hs X f (rU λi=>.int<|g i):=by
 intro IT s σ H x v Q I rx h;obtain⟨i,rfl,q⟩:=h;obtain⟨t,rfl⟩:=rx;exact rule i t s _ _ ⟨.int<|g i,H,I.tok _,⟨_,rfl⟩,q⟩
theorem bB:Hs X (unaryOp .USub) (rU λi=>.int (-i)):=Ix λ_ _ _ _ _ q=>neg_int q
end
def E3:V->V->Jm
 |.non,.non=>IS|.non,.int _=>IS|.int _,.non=>IS|.non,.bl _=>IS|.bl _,.non=>IS|.non,.str _=>IS|.str _,.non=>IS
 |.int _,.int _=>IS|.bl _,.bl _=>IS|.str _,.str _=>IS|.byt _,.byt _=>IS
 |.int _,.str _=>IS|.str _,.int _=>IS|.bl _,.str _=>IS|.str _,.bl _=>IS
 |_,_=>IU
def Ht:R2:=λx y H Q=>E3 x y=IS/\Q (.bl (decide (x=y))) H
def Hu:R2:=λx y H Q=>E3 x y=IS/\Q (.bl (!decide (x=y))) H
theorem rR:decide (V.int i=V.int j)=(i == j):=by
 rw[Lw];simp
theorem dec_bl:decide (V.bl i=V.bl j)=(i == j):=by
 rw[Lw];simp
theorem rS:decide (V.str i=V.str j)=(i == j):=by
 rw[Lw];simp
theorem rT:decide (V.byt i=V.byt j)=(i.toList == j.toList):=by
 rw[Lw];cases i;cases j;simp
section
variable {X:Cx}{a b c:Km}{ta tb tc:TE}{pos:Pos}
theorem br(I:Inv X IT σ H s)(q:Q (.bl k) H)(e:k=k'):EP X IT σ Q (.bool k') s:=by
 subst e;exact⟨.bl k,H,I,rfl,q⟩
theorem E4:OpR X (KR .Eq) Ht:=by
 intro IT s σ H x y v u Q I rx ry h;obtain⟨hs,q⟩:=h;cases x with
 |non=>
  cases rx;cases y with
  |non=>cases ry;exact WM (br I q<|by simp)
  |bl j=>cases ry;exact WN (br I q<|by simp)
  |int j=>obtain⟨t',rfl⟩:=ry;exact Xc (br I q<|by simp)
  |str j=>obtain⟨t',rfl⟩:=ry;exact Xb (br I q<|by simp)
  |_=>exact absurd (show IU=IS from hs) Jz
 |bl i=>
  cases rx;cases y with
  |non=>cases ry;exact WO (br I q<|by simp)
  |bl j=>cases ry;exact eq_bool<|br I q dec_bl
  |str j=>obtain⟨t',rfl⟩:=ry;exact WU (br I q<|by simp)
  |_=>exact absurd (show IU=IS from hs) Jz
 |int i=>
  obtain⟨t,rfl⟩:=rx;cases y with
  |non=>cases ry;exact Xd (br I q<|by simp)
  |int j=>obtain⟨t',rfl⟩:=ry;exact eq_int<|br I q rR
  |str j=>obtain⟨t',rfl⟩:=ry;exact Xh (br I q<|by simp)
  |_=>exact absurd (show IU=IS from hs) Jz
 |str i=>
  obtain⟨t,rfl⟩:=rx;cases y with
  |non=>cases ry;exact Xa (br I q<|by simp)
  |bl j=>cases ry;exact WT (br I q<|by simp)
  |int j=>obtain⟨t',rfl⟩:=ry;exact Xg (br I q<|by simp)
  |str j=>obtain⟨t',rfl⟩:=ry;exact eq_str<|br I q rS
  |_=>exact absurd (show IU=IS from hs) Jz
 |byt i=>
  obtain⟨t,rfl⟩:=rx;cases y with
  |byt j=>obtain⟨t',rfl⟩:=ry;exact PySem.W.eq_bytes<|br I q rT
  |_=>exact absurd (show IU=IS from hs) Jz
 |_=>cases y<;>exact absurd (show IU=IS from hs) Jz
theorem E5:OpR X (KR .NotEq) Hu:=by
 intro IT s σ H x y v u Q I rx ry h;obtain⟨hs,q⟩:=h;cases x with
 |non=>
  cases rx;cases y with
  |non=>cases ry;exact WJ (br I q<|by simp)
  |bl j=>cases ry;exact WK (br I q<|by simp)
  |int j=>obtain⟨t',rfl⟩:=ry;exact W_ (br I q<|by simp)
  |str j=>obtain⟨t',rfl⟩:=ry;exact W9 (br I q<|by simp)
  |_=>exact absurd (show IU=IS from hs) Jz
 |bl i=>
  cases rx;cases y with
  |non=>cases ry;exact WL (br I q<|by simp)
  |bl j=>cases ry;exact ne_bool<|br I q<|Kp not dec_bl
  |str j=>obtain⟨t',rfl⟩:=ry;exact WR (br I q<|by simp)
  |_=>exact absurd (show IU=IS from hs) Jz
 |int i=>
  obtain⟨t,rfl⟩:=rx;cases y with
  |non=>cases ry;exact W' (br I q<|by simp)
  |int j=>obtain⟨t',rfl⟩:=ry;exact ne_int<|br I q<|Kp not rR
  |str j=>obtain⟨t',rfl⟩:=ry;exact Xf (br I q<|by simp)
  |_=>exact absurd (show IU=IS from hs) Jz
 |str i=>
  obtain⟨t,rfl⟩:=rx;cases y with
  |non=>cases ry;exact W8 (br I q<|by simp)
  |bl j=>cases ry;exact WQ (br I q<|by simp)
  |int j=>obtain⟨t',rfl⟩:=ry;exact Xe (br I q<|by simp)
  |str j=>obtain⟨t',rfl⟩:=ry;exact ne_str<|br I q<|Kp not rS
  |_=>exact absurd (show IU=IS from hs) Jz
 |byt i=>
  obtain⟨t,rfl⟩:=rx;cases y with
  |byt j=>obtain⟨t',rfl⟩:=ry;exact PySem.W.ne_bytes<|br I q<|Kp not rT
  |_=>exact absurd (show IU=IS from hs) Jz
 |_=>cases y<;>exact absurd (show IU=IS from hs) Jz
theorem lN:OpR X (KR .Lt) (zk λi j=>.bl (decide (i < j))):=zr λ_ _ _ _ _ _ _ q=>lt_int q
theorem jX:OpR X (KR .LtE) (zk λi j=>.bl (decide (i<=j))):=zr λ_ _ _ _ _ _ _ q=>le_int q
theorem lO:OpR X (KR .Gt) (zk λi j=>.bl (decide (j < i))):=zr λ_ _ _ _ _ _ _ q=>gt_int q
theorem E6:OpR X (KR .GtE) (zk λi j=>.bl (decide (j<=i))):=zr λ_ _ _ _ _ _ _ q=>ge_int q
theorem qk:OpR X (KR .Is) (λx y H Q=>y=.non/\Q (.bl (decide (x=.non))) H):=by
 intro IT s σ H x y v u Q I rx ry h;obtain⟨rfl,q⟩:=h;cases ry;refine is_none_gen<|br I q ?_;cases x<;>first
  |(cases rx;rfl)
  |(obtain⟨t,rfl⟩:=rx;rfl)
theorem ir:OpR X (KR .IsNot) (λx y H Q=>y=.non/\Q (.bl (!decide (x=.non))) H):=by
 intro IT s σ H x y v u Q I rx ry h;obtain⟨rfl,q⟩:=h;cases ry;refine isnot_none_gen<|br I q ?_;cases x<;>first
  |(cases rx;rfl)
  |(obtain⟨t,rfl⟩:=rx;rfl)
theorem OpR.or(h:OpR X f r)(h':OpR X f r'):OpR X f (λx y H Q=>r x y H Q\/r' x y H Q):=by
 intro IT s σ H x y v u Q I rx ry q;obtain q|q:=q
 ·exact h IT s σ H x y v u Q I rx ry q
 ·exact h' IT s σ H x y v u Q I rx ry q
theorem az(b:Km)(h:op≠.In:=by decide)(h2:op≠.NotIn:=by decide):Pd op b=false:=by
 have e1:(op == CmpOp.In)=false:=by cases op<;>first|rfl|exact absurd rfl h
 have e2:(op == CmpOp.NotIn)=false:=by cases op<;>first|rfl|exact absurd rfl h2
 cases b<;>simp [Pd,e1,e2]
theorem dZ(ho:OpR X (KR op) r)(ha:PE X a ta)(hb:PE X b tb)(hm:Pd op b=IU):PE X (.Compare a [op] [b] pos) (lF r ta tb):=by
 intro IT s σ H Q I h;exact wpAny_Compare1 (CT ha hb I h λv u s2 x y H2 I2 rx ry q=>ho IT s2 σ H2 x y v u Q I2 rx ry q) hm
def jl(t:TE):TT:=λσ H Q=>t σ H λx H'=>CN x Q H'
theorem aq(ho:OpR X (KR op) r)(ha:PE X a ta)(hb:PE X b tb)(hm:Pd op b=IU):PT X (.Compare a [op] [b] pos) (jl<|lF r ta tb):=by
 intro IT s σ H Q I h;refine RU (bT (ha IT s σ H _ I h) λv s1 ⟨x,H1,I1,r1,q1⟩=>bT (hb IT s1 σ H1 _ I1 q1) λu s2 ⟨y,H2,I2,r2,q2⟩=>
  bT (ho IT s2 σ H2 x y v u _ I2 r1 r2 q2) λc s3 ⟨z,H3,I3,r3,k,e,q3⟩=>?_) hm
 subst e;cases r3;exact Ll ⟨H3,I3,q3⟩
def vF(r r':R2)(ta tb tc:TE):TE:=λσ H Q=>ta σ H λx H1=>tb σ H1 λy H2=>r x y H2 λz H3=>∃k,z=.bl k/\
 (if k=IS then tc σ H3 λw' H4=>r' y w' H4 Q else Q (.bl IU) H3)
theorem vG(ho:OpR X (KR op) r)(ho':OpR X (KR op') r')(ha:PE X a ta)(hb:PE X b tb)(hc:PE X c tc)
  (hm:lastMarks [op,op'] [b,c]=false:=by with_unfolding_all rfl):PE X (.Compare a [op,op'] [b,c] pos) (vF r r' ta tb tc):=by
 intro IT s σ H Q I h;refine Compare_chain (bT (ha IT s σ H _ I h) λv s1 ⟨x,H1,I1,r1,q1⟩=>chain_link (bT (hb IT s1 σ H1 _ I1 q1) λu s2 ⟨y,H2,I2,r2,q2⟩=>
  bT (ho IT s2 σ H2 x y v u _ I2 r1 r2 q2) λd s3 ⟨z,H3,I3,r3,k,e,q3⟩=>?_)) hm
 subst e;cases r3;refine Ll ?_;cases k with
 |false=>exact ite_ff ⟨.bl IU,H3,I3,rfl,q3⟩
 |true=>exact ite_tt<|chain_last<|bT (hc IT s3 σ H3 _ I3 q3) λw' s4 ⟨z',H4,I4,r4,q4⟩=>ho' IT s4 σ H4 y z' u w' Q I4 r2 r4 q4
theorem oJ(ho:OpR X (KR op) r)(ho':OpR X (KR op') r')(ha:PE X a ta)(hb:PE X b tb)(hc:PE X c tc)
  (hm:lastMarks [op,op'] [b,c]=false:=by with_unfolding_all rfl):PT X (.Compare a [op,op'] [b,c] pos) (jl<|vF r r' ta tb tc):=by
 intro IT s σ H Q I h;refine isTrue_chain (bT (ha IT s σ H _ I h) λv s1 ⟨x,H1,I1,r1,q1⟩=>test_link (bT (hb IT s1 σ H1 _ I1 q1) λu s2 ⟨y,H2,I2,r2,q2⟩=>
  bT (ho IT s2 σ H2 x y v u _ I2 r1 r2 q2) λd s3 ⟨z,H3,I3,r3,k,e,q3⟩=>?_)) hm
 subst e;cases r3;refine Ll ?_;cases k with
 |false=>
  obtain⟨k',e',q'⟩:=q3;cases e';exact ite_ff ⟨H3,I3,q'⟩
 |true=>
  refine ite_tt<|test_last<|bT (hc IT s3 σ H3 _ I3 q3) λw' s4 ⟨z',H4,I4,r4,q4⟩=>bT (ho' IT s4 σ H4 y z' u w' _ I4 r2 r4 q4) λd' s5 ⟨z2,H5,I5,r5,k2,e2,q5⟩=>?_;subst e2;cases r5;exact Ll ⟨H5,I5,q5⟩
theorem jY:(sizeLine:Nat) < 2 ^ 63:=by rw[KS];decide
theorem eZ(r:Vals [x] us):∃u,us=[u]/\RelV x u:=by
 cases r with
 |cons r1 r2=>cases r2;exact⟨_,rfl,r1⟩
theorem vH(r:Vals [x,y] us):∃u w',us=[u,w']/\RelV x u/\RelV y w':=by
 cases r with
 |cons r1 r2=>
  cases r2 with
  |cons r3 r4=>cases r4;exact⟨_,_,rfl,r1,r3⟩
theorem bU:dJ X (.builtin "abs") (λxs H Q=>∃i,xs=[.int i]/\Q (.int (if i < 0 then -i else i)) H):=by
 intro IT s σ H xs us Q I r h;obtain⟨i,rfl,q⟩:=h;obtain⟨u,rfl,t,rfl⟩:=eZ r;exact Tb λu tk=>⟨.int (if i < 0 then -i else i),H,I.tok _,⟨_,rfl⟩,q⟩
def Hv(K:IJ)(x:V)(H:Hp)(n:Nat):Prop:=
 match x with
 |.str y=>y.length<=sizeLine/\n=y.length
 |.byt y=>y.size<=sizeLine/\n=y.size
 |.ref p=>(∃xs,SqL K H p xs/\n=xs.length)\/∃xs,SqT K H p xs/\n=xs.length
 |_=>False
inductive zt (K:IJ)(xs:IG V)(H:Hp)(Q:VK):Prop
 |mk (x:V)(n:Nat)(h:xs=[x])(l:Hv K x H n)(q:Q (.int n) H):zt K xs H Q
theorem a_:dJ X (.builtin "len") (zt X.K):=by
 intro IT s σ H xs us Q I r h;obtain⟨x,n,rfl,e,q⟩:=h;obtain⟨u,rfl,rx⟩:=eZ r;have hl:=jY;have hs:sizeLine=16777216:=KS;cases x with
 |str y=>
  obtain⟨t,rfl⟩:=rx;obtain⟨hy,e'⟩:y.length<=sizeLine/\n=y.length:=e;subst e';exact len_str (by lia) ⟨.int _,H,I.tok _,⟨_,rfl⟩,q⟩
 |byt y=>
  obtain⟨t,rfl⟩:=rx;obtain⟨hy,e'⟩:y.size<=sizeLine/\n=y.size:=e;subst e';exact PySem.W.len_bytes (by lia) ⟨.int _,H,I.tok _,⟨_,rfl⟩,q⟩
 |ref p=>
  cases rx;have e':(∃xs,SqL X.K H p xs/\n=xs.length)\/∃xs,SqT X.K H p xs/\n=xs.length:=e;obtain⟨xs,hx,e'⟩|⟨xs,hx,e'⟩:=e'
  ·subst e';obtain⟨KN,r',pl,hz⟩:=I.list hx;have Lx:=r'.length;exact Calls.call_len_list pl.isList (by simp only [Jn];lia) ⟨.int xs.length,H,I.tok _,⟨_,by simp only [Jn];rw[Lx]⟩,q⟩
  ·subst e';obtain⟨KN,r',pl,hz⟩:=I.tuple hx;have Lx:=r'.length;exact len_tuple pl (by simp only [Jn];lia) ⟨.int xs.length,H,I.tok _,⟨_,by simp only [Jn];rw[Lx]⟩,q⟩
 |_=>exact(show False from e).elim
end
structure ObjM (h:JM)(x dx C:IL)(mA:Str->IQ IH):Prop where
 obj:h.get? x=B' (RN C dx)
 ns:h.Ns1 dx mA
 ne:dx≠x
theorem ug{h:JM}{dx:IL}{mA:Str->IQ IH}(n:h.Ns1 dx mA):∃od,h.get? dx=B' od/\∀name,Sa name od=B' (mA name):=by
 obtain⟨o,es,ep,ho,hd,hk,_,hm⟩:=n;refine⟨o,ho,λname=>?_⟩;have e:=hm name;unfold nsFind findBy at e;rw[<-T7]at e;unfold Sa;rw[hd];dsimp only
 split
 ·rename_i y q;rw[q]at e;exact Kp B' e
 ·rename_i q;rw[q]at e;have a:es.toList.any (·.refKey)=false:=by
   rw[List.any_eq_false];intro y hy;obtain⟨z,t,RS⟩:=hk y<|Nc.mp hy;simp [Z',RS]
  have a':¬es.toList.any (·.refKey)=true:=by rw[a];exact Jz
  rw[JD a'];exact Kp B' e
theorem ObjM.look(I:ObjM h x dx C mA):∃od,PySem.W.InstAt h x (RN C dx) C (B' od)/\∀name,Sa name od=B' (mA name):=
 let ⟨od,ho,hl⟩:=ug I.ns
 ⟨od,⟨I.obj,rfl,rfl,ho⟩,hl⟩
theorem RelO.some_of(r:RelO (B' v) o):∃u,o=B' u/\RelV v u:=by
 cases o with
 |none=>exact(show False from r).elim
 |some u=>exact⟨u,rfl,r⟩
theorem RelO.none_of(r:RelO IV o):o=none:=by
 cases o with
 |none=>rfl
 |some u=>exact(show False from r).elim
section
variable {P:Jc}{w:Jv}{H H':Hp}{h h':JM}{a C dx:IL}{fs fs':IG (Str×V)}
theorem ins_get(hok:HOk P w H h)(e:H a=B' (.ins C dx fs)):∃mA,ObjM h a dx C mA/\(∀f,RelO (fs.lookup f)<|mA f)/\XX mA (fs.map (·.1))/\fs.length<=1000/\H dx=B' (.own a):=by
 obtain⟨d,z,ne,ob,mA,n,r,q⟩:=(show ObjOk P w H h a (.ins C dx fs)from hok a _ e);exact⟨mA,⟨ob,n,ne⟩,r,q,z,d⟩
end
structure Cls (K:IJ)(C:IL):Prop where
 pg:U6 K C Xz=IS
 hd:M_ K C=IS
 po:PySem.W.plainOver K C=IS
 sa:Kl K (.ref C) "__setattr__"=B' (B'<|.builtin "object.__setattr__")
theorem Cls.get{K:IJ}{C:IL}(c:Cls K C)(f:Str):U6 K C f=true:=c.pg
section
variable {X:Cx}{IT:IG (IL×Obj)}{σ:St}{H:Hp}{s:IM}{a C dx:IL}{fs:IG (Str×V)}{f:Str}{v:V}{A:JV}{E:IH->IM->Prop}
theorem zu{prog:Jc}{w:Jv}{pos:Pos}{s:IM}{Q:IH->IM->Prop}(hb:QQ e f env (LN e env)=LN e env)
  (h:wpAny (Ju prog w) A (LN e env) (λo s₁=>wpAny (Ju prog w) A (getAttr o f IS) Q E s₁) E s):wpAny (Ju prog w) A (LN (.Attribute e f pos) env) Q E s:=
 Attribute_any_ h (by rw[arm_eval_Attribute,hb])
end
section
variable {X:Cx}{IT:IG (IL×Obj)}{σ:St}{H:Hp}{s:IM}{A:JV}{E:IH->IM->Prop}{Q:IH->IM->Prop}{c:IH}{b:Jm}
inductive iu (K:IJ)(H:Hp):V->IH->Prop where
 |non:iu K H .non (.type "NoneType")
 |bl (x:Jm):iu K H (.bl x) (.type "bool")
 |int (i:Int):iu K H (.int i) (.type "int")
 |str (x:Str):iu K H (.str x) (.type "str")
 |flt (x:UInt64):iu K H (.flt x) (.type "float")
 |lst {a:IL} {xs:IG V} (e:H a=B' (.lst xs)):iu K H (.ref a) (.type "list")
 |frz {a:IL} {o:Obj} {xs:IG V} (e:H a=B' (.frz o<|.lst xs)):iu K H (.ref a) (.type "list")
 |tup {a:IL} {xs:IG V} (e:H a=B' (.tup xs)):iu K H (.ref a) (.type "tuple")
 |dK {a:IL} {kvs:IG (bv×V)} (e:H a=B' (.dK kvs)):iu K H (.ref a) (.type "dict")
 |dT {a:IL} {kvs:IG (IG bv×V)} (e:H a=B' (.dT kvs)):iu K H (.ref a) (.type "dict")
 |ins {a C dx:IL} {fs:IG (Str×V)} (e:H a=B' (.ins C dx fs)) (cl:Cls K C) (ha:Kl K (.ref C) "__class__"=B' (B'<|.builtin "object.__class__"))
   (hn:Qw K (.builtin "object.__class__") "__get__"=B' (B'<|.builtin "getset_descriptor.__get__")) (WH:PySem.W.takesIn K (.builtin "object.__class__")=B' IS)
   (hm:JL K C (.type "object")=B' IS):iu K H (.ref a) (.ref C)
theorem uh(I:Inv X IT σ H s)(rx:RelV x u)(ty:iu X.K H x t)(e:Jq X.K t c=B' b)(h:∀tk,Q (.bool b) {s with toks:=tk}):
  wpAny (Ju X.prog X.w) A (call (.builtin "isinstance") [u,c]) Q E s:=by
 cases ty with
 |non=>cases(show u=M0 from rx);exact Lf PySem.W.kitx_none I.kIn LS e (λz=>nomatch z) h
 |bl y=>cases(show u=Wn y from rx);exact Lf PySem.W.kitx_bool I.kIn LS e (λz=>nomatch z) h
 |int i=>obtain⟨t,q⟩:=(show∃t,u=Np i t from rx);cases q;exact Lf PySem.W.kitx_int I.kIn LS e (λz=>nomatch z) h
 |str y=>obtain⟨t,q⟩:=(show∃t,u=U_ y t from rx);cases q;exact Lf PySem.W.kitx_str I.kIn LS e (λz=>nomatch z) h
 |flt y=>obtain⟨t,q⟩:=(show∃t,u=YC y t from rx);cases q;exact Lf PySem.W.kitx_float I.kIn LS e (λz=>nomatch z) h
 |@lst a xs ea=>
  cases(show u=JS a from rx);obtain⟨_,_,n,_,h1⟩:=(show ObjOk X.prog X.w H s.heap a (.lst xs)from I.hok a _ ea);exact Lf Us I.kIn ⟨_,h1,rfl⟩ e (λz=>nomatch z) h
 |@frz a ob xs ea=>
  cases(show u=JS a from rx);obtain⟨_,_,_,n,_,h1⟩:=(show ObjOk X.prog X.w H s.heap a (.frz ob<|.lst xs)from I.hok a _ ea);exact Lf Us I.kIn ⟨_,h1,rfl⟩ e (λz=>nomatch z) h
 |@tup a xs ea=>
  cases(show u=JS a from rx);obtain⟨_,_,_,p⟩:=(show ObjOk X.prog X.w H s.heap a (.tup xs)from I.hok a _ ea);obtain⟨o,h1,h2,_⟩:=p;exact Lf PySem.W.kitx_tuple I.kIn ⟨o,h1,h2⟩ e (λz=>nomatch z) h
 |@dK a kvs ea=>
  cases(show u=JS a from rx);obtain⟨_,_,vs,_,p⟩:=(show ObjOk X.prog X.w H s.heap a (.dK kvs)from I.hok a _ ea);obtain⟨o,es,ep,h1,h2,_⟩:=p;exact Lf Ut I.kIn ⟨o,h1,h2.1⟩ e (λz=>nomatch z) h
 |@dT a kvs ea=>
  cases(show u=JS a from rx);obtain⟨_,_,xs,_,o,es,ep,h1,h2,_⟩:=(show ObjOk X.prog X.w H s.heap a (.dT kvs)from I.hok a _ ea);exact Lf Ut I.kIn ⟨o,h1,h2.1⟩ e (λz=>nomatch z) h
 |@ins a C dx fs ea cl ha hn WH hm=>
  cases(show u=JS a from rx);obtain⟨mA,O,_⟩:=ins_get I.hok ea;obtain⟨od,J,_⟩:=O.look;exact Lf (PySem.W.kitx_own (cl.get _) cl.hd ha hn WH hm) I.kIn J e (λz=>nomatch z) h
end
structure Room (k:Nat)(A:JV):Prop where
 hd:A.handled=IV
 dp:A.depth+3*k+5 < Wb
 un:A.units+16*k+200 < Mt
theorem Room.mono(r:Room k A)(h:j<=k):Room j A:=⟨r.hd,by have:=r.dp;lia,by have:=r.un;lia⟩
theorem Room.deeper(r:Room (k+1) A)(env:Env):Room k (A.deeper env):=
 ⟨r.hd,by have:=r.dp;show A.depth+1+3*k+5 < _;lia,by have:=r.un;show A.units+3+16*k+200 < _;lia⟩
theorem ql{A:JV}{C:IL}{us:IG IH}{kw:IG (Str×IH)}:(A.under<|.builtin "type.__call__" ⟨.ref C::us,kw⟩).depth=A.depth+1:=by
 first|rfl|simp [UC,Code.weight,Code.isCreation,Code.isGuard,Code.isCaller,YJ,UA,guardIds]
theorem qm{A:JV}{C:IL}{us:IG IH}{kw:IG (Str×IH)}:(A.under<|.builtin "type.__call__" ⟨.ref C::us,kw⟩).units=A.units+1:=by
 first|rfl|simp [UC,Code.cUnits,YJ,UA]
theorem Room.make(r:Room (k+1) A)(C:IL)(us:IG IH)(kw:IG (Str×IH)):Room k (A.under<|.builtin "type.__call__" ⟨.ref C::us,kw⟩):=
 ⟨r.hd,by have:=r.dp;rw[ql];lia,by have:=r.un;rw[qm];lia⟩
theorem Room.depth(r:Room k A):A.depth < Wb:=by have:=r.dp;lia
theorem Room.units(r:Room k A):A.units+64 < Mt:=by have:=r.un;lia
def jC:TA:=λ_ H Q=>Q [] H
def oK(ta:TE)(tr:TA):TA:=λσ H Q=>ta σ H λx H1=>tr σ H1 λxs H2=>Q (x::xs) H2
section
variable {X:Cx}{e:Km}{es:IG Km}{te:TE}{t:TA}{pos:Pos}
theorem ae:PA X [] jC:=λ_ _ _ _ H Q I h=>Qz ⟨[],H,I,.nil,h⟩
theorem aa(ha:PE X e te)(hr:PA X es t)(hs:JI (e::es) X.env=(IU,LN e X.env)::JI es X.env:=by rfl):PA X (e::es) (oK te t):=by
 intro pos IT s σ H Q I h;rw[hs];show wpAny _ _ (XU<|(IU,LN e X.env)::MF pos (JI es X.env)) _ _ s
 refine Oz<|bT (ha IT s σ H _ I h) λu s1 ⟨x,H1,I1,r1,q1⟩=>?_;exact bT (hr pos IT s1 σ H1 _ I1 q1) λus s2 ⟨xs,H2,I2,r2,q2⟩=>⟨x::xs,H2,I2,.cons r1 r2,q2⟩
def zv(t:TA):TE:=λσ H Q=>t σ H λxs H1=>xs.length<=sizeLine/\∀p,H1 p=IV->Q (.ref p) (upd H1 p<|.tup xs)
def qo(t:TA):TE:=λσ H Q=>t σ H λxs H1=>xs.length<=sizeLine/\∀p,H1 p=IV->Q (.ref p) (upd H1 p<|.lst xs)
theorem aZ{x1}(h:PA X es t):PE X (.Tuple es x1 pos) (zv t):=by
 intro IT s σ H Q I hq;refine wpAny_Tuple_spliced<|bT (h pos IT s σ H _ I hq) λus s1 ⟨xs,H1,I1,r,z,q⟩=>⟨by rw[<-r.length];exact z,?_⟩;have hf:H1 s1.heap.objs.size=none:=I1.hok.fresh<|IX _;refine⟨.ref s1.heap.objs.size,upd H1 s1.heap.objs.size<|.tup xs,I1.laid (t':=s1.toks) (λb u e=>IP _ e) (IX _) ?_,rfl,q _ hf⟩;exact⟨z,us,r,⟨_,JB _ rfl,rfl,_,rfl⟩⟩
theorem aN(h:PA X es t):PE X (.List es pos) (qo t):=by
 intro IT s σ H Q I hq;refine wpAny_List_spliced<|bT (h pos IT s σ H _ I hq) λus s1 ⟨xs,H1,I1,r,z,q⟩=>⟨by rw[<-r.length];exact z,?_⟩;have hf:H1 s1.heap.objs.size=none:=I1.hok.fresh<|IX _;refine⟨.ref s1.heap.objs.size,upd H1 s1.heap.objs.size<|.lst xs,I1.laid (t':=s1.toks) (λb u e=>IP _ e) (IX _) ?_,rfl,q _ hf⟩;exact⟨z,us,0,r,JB _ rfl⟩
end
abbrev Sp:=IG V->Hp->VK->XK->Prop
abbrev rV:=IG Env->Hp->IM->XK->IH->IM->Prop
structure Env0 (P:Jc)(w:Jv)(K:IJ)(mg:Str->IQ IH)(base:JM)(A:JV)(outer:IG Env)(s:IM)(H:Hp):Prop where
 frames:A.frames=B' outer
 mod:Mod K mg base
 bs:∀b o,base.get? b=B' o->s.heap.get? b=B' o/\H b=IV
 bsz:base.objs.size<=s.heap.objs.size
 funs:s.heap.FunFrames base outer
 frf:∀b∈dN outer,H b=IV
 hok:HOk P w H s.heap
 bare:Pg s.gens
def CE(outer:IG Env)(P:Jc)(w:Jv)(H:Hp)(s:IM)(Q:VK)(u:IH)(s':IM):Prop:=
 ∃v H',s'.os=s.os/\Pg s'.gens/\Un (dN outer) [] H H' s.heap s'.heap/\HOk P w H' s'.heap/\RelV v u/\Q v H'
def CR(CX:rV)(outer:IG Env)(P:Jc)(w:Jv)(H:Hp)(s:IM)(Q:VK)(E:XK)(r:TF)(s':IM):Prop:=
 match r with
 |.ok (.ret u)=>CE outer P w H s Q u s'
 |.ok _=>False
 |.error e=>CX outer H s E e s'
structure FnOk (P:Jc)(w:Jv)(K:IJ)(mg:Str->IQ IH)(base:JM)(CX:rV)(k:Nat)(f:IL)(fd:Jr)(ps:IG Str)(sp:Sp):Prop where
 len:∀vs H Q E,sp vs H Q E->vs.length=ps.length
 run:∀(A:JV) (outer:IG Env) (s:IM) (H:Hp) (args:Args) (us:IG IH) (vs:IG V) (Q:VK) (E:XK),Room k A->Env0 P w K mg base A outer s H->UB s fd args (ps.zip us)->Vals vs us->sp vs H Q E->
  codeAny (Ju P w) A (.call (.ref f) args) (CR CX outer P w H s Q E) s
theorem Env0.make{P:Jc}{w:Jv}{K:IJ}{mg:Str->IQ IH}{base:JM}{A:JV}{outer:IG Env}{s:IM}{H:Hp}(e:Env0 P w K mg base A outer s H)(C:IL)(us:IG IH)(kw:IG (Str×IH)):
  Env0 P w K mg base (A.under<|.builtin "type.__call__" ⟨.ref C::us,kw⟩) outer s H:=⟨by first|exact e.frames|(simpa [UC,Code.envs,UA,pushEnvs]using e.frames),e.mod,e.bs,e.bsz,e.funs,e.frf,e.hok,e.bare⟩
section
variable {X:Cx}{IT:IG (IL×Obj)}{σ:St}{H:Hp}{s s':IM}
theorem Inv.env0(I:Inv X IT σ H s):Env0 X.prog X.w X.K X.mg X.base X.A X.stack s H:=
 ⟨I.ok.frames,I.ok.mod,I.bs,KE I.ok.bsz I.sz,I.stack,I.stkFree,I.hok,I.bare⟩
theorem Inv.after(I:Inv X IT σ H s)(h:CE X.stack X.prog X.w H s Q u s'):EP X IT σ Q u s':=by
 obtain⟨v,H',os,bare,un,hok,r,q⟩:=h;obtain⟨hh,g,d,t,os'⟩:=s';obtain rfl:os'=s.os:=os;exact⟨v,H',I.call (h':=hh) (g':=g) (d':=d) (t':=t) (ch:=[]) un hok bare (λb z=>absurd z<|by simp),r,q⟩
end
def oM(sp:Sp)(dvs:IG V)(E:XK)(t:TA):TE:=λσ H Q=>t σ H λvs H1=>sp (vs++dvs) H1 Q E
def Binds(K:IJ)(fd:Jr)(ps:IG Str)(ds:IG IH):Prop:=
 ∀(s:IM) (us:IG IH),K.In s.heap->(us++ds).length=ps.length->UB s fd ⟨us,[]⟩ (ps.zip<|us++ds)
theorem Binds.all{K:IJ}{fd:Jr}{ps:IG Str}(h:∀us,us.length=ps.length->Q4 fd ⟨us,[]⟩=pure (ps.zip us)):Binds K fd ps []:=λs us _ hl=>by
 rw[Kg]at hl ⊢;exact .of_eq<|h us hl
def jZ(CX:rV)(X:Cx)(E:XK):Prop:=∀(IT:IG (IL×Obj)) (σ:St) (H:Hp) (s:IM) (e:IH) (s':IM),Inv X IT σ H s->CX X.stack H s E e s'->X.xe e s'
section
variable {X:Cx}{CX:rV}{k:Nat}{f C:IL}{fd:Jr}{ps:IG Str}{sp:Sp}{dvs:IG V}{ds:IG IH}{E:XK}{x m:Str}{p pos Tf:Pos}{e o:Km}{es:IG Km}{ta:TE}{t:TA}
theorem CZ{IT:IG (IL×Obj)}{σ:St}{H:Hp}{s:IM}{Q:VK}{us:IG IH}{vs:IG V}(F:FnOk X.prog X.w X.K X.mg X.base CX k f fd ps sp)(hr:Room k X.A)(hb:Binds X.K fd ps ds)(hd:Vals dvs ds)(hx:jZ CX X E)
  (I:Inv X IT σ H s) (r:Vals vs us) (h:sp (vs++dvs) H Q E):wpAny (Ju X.prog X.w) X.A (call (.ref f) us) (EP X IT σ Q) X.xe s:=by
 have r2:Vals (vs++dvs) (us++ds):=r.append hd;have hl:(us++ds).length=ps.length:=by rw[<-r2.length];exact F.len _ _ _ _ h
 refine O4<|Nw (F.run X.A X.stack s H ⟨us,[]⟩ (us++ds) (vs++dvs) Q E hr I.env0 (hb s us I.kIn hl) r2 h) λr s' hq=>?_;cases r with
 |error e=>exact hx IT σ H s e s' I hq
 |ok fl=>
  cases fl with
  |ret u=>exact I.after hq
  |next=>exact Ld hq
  |brk=>exact Ld hq
  |cont=>exact Ld hq
theorem ng(F:FnOk X.prog X.w X.K X.mg X.base CX k f fd ps sp)(hr:Room k X.A)(hg:Gl X x)(hm:X.mg x=B' (.ref f))(hk:LJ X.K (.ref f)=IS)(hb:Binds X.K fd ps ds)(hd:Vals dvs ds)(hx:jZ CX X E)
  (ha:PA X (e::es) t) (XN:(x == ("__debug__":Str))=false:=by decide) (he:JI (e::es) X.env=(IU,LN e X.env)::JI es X.env:=by rfl) (T_:(MF pos<|JI es X.env).any (·.1)=false:=by rfl):
  PE X (.Call (.Name x p) (e::es) [] pos) (oM sp dvs E t):=by
 intro IT s σ H Q I h;refine La<|c9 I hg hm ?_ XN;refine Ov (h₀:=X.base) I.ok.mod.kin hk (bT (ha pos IT s σ H _ I h) λus s1 ⟨vs,H1,I1,r,q⟩=>⟨I1.kIn,?_⟩) he T_;exact CZ F hr hb hd hx I1 r q
end
structure aF (N P:IG Str)(sc:N6):Prop where
 kind:sc.kind=.function
 co:sc.isCoroutine=IU
 gen:sc.isGenerator=IU
 nd:N.Nodup
 pre:N.take P.length=P
 par:∀x∈P,sc.names.lookup x=B' .local\/sc.names.lookup x=B' .cell
 nofree:∀y∈sc.names,y.2≠.free
theorem lP{kindOf:Str->IQ P_}{x:Str}:∀{binds:IG (Str×IH)} {m:Str->IQ IH},(∀v,(x,v)∉binds)->Wj kindOf binds m x=m x
 |[],_,_=>rfl
 |(n,v)::r,m,h=>by
  unfold Wj;rw[lP λw hw=>h w<|Jk _ hw]
  split
  ·have:x≠n:=by rintro rfl;exact h v Jp
   simp [this]
  ·rfl
theorem lQ{kindOf:Str->IQ P_}{x:Str}:∀{binds:IG (Str×IH)} {m:Str->IQ IH},(∀v,(x,v)∉binds)->Wk kindOf binds m x=m x
 |[],_,_=>rfl
 |(n,v)::r,m,h=>by
  unfold Wk;rw[lQ λw hw=>h w<|Jk _ hw]
  split
  ·rfl
  ·have:x≠n:=by rintro rfl;exact h v Jp
   simp [this]
theorem lR{kindOf:Str->IQ P_}{x:Str}{v:IH}:∀{P:IG Str} {vs:IG IH} {i:Nat} {m:Str->IQ IH},P.Nodup->P[i]? =B' x->vs[i]? =B' v->kindOf x=B' .local->
  Wj kindOf (P.zip vs) m x=B' v
 |[],_,_,_,_,h,_,_=>by simp at h
 |_::_,[],_,_,_,_,h,_=>by simp at h
 |p::P,w::vs,0,m,nd,h1,h2,hk=>by
  simp at h1 h2;subst h1;subst h2;show Wj kindOf ((p,w)::P.zip vs) m p=_
  unfold Wj;rw[lP λv hv=>(LQ.mp nd).1 (RQ hv).1,JF hk];simp
 |p::P,w::vs,i+1,m,nd,h1,h2,hk=>by
  show Wj kindOf ((p,w)::P.zip vs) m x=_
  unfold Wj;exact lR (i:=i) (LQ.mp nd).2 (by simpa using h1) (by simpa using h2) hk
theorem lS{kindOf:Str->IQ P_}{x:Str}{v:IH}:∀{P:IG Str} {vs:IG IH} {i:Nat} {m:Str->IQ IH},P.Nodup->P[i]? =B' x->vs[i]? =B' v->kindOf x≠B' .local->
  Wk kindOf (P.zip vs) m x=B' v
 |[],_,_,_,_,h,_,_=>by simp at h
 |_::_,[],_,_,_,_,h,_=>by simp at h
 |p::P,w::vs,0,m,nd,h1,h2,hk=>by
  simp at h1 h2;subst h1;subst h2;show Wk kindOf ((p,w)::P.zip vs) m p=_
  unfold Wk;rw[lQ λv hv=>(LQ.mp nd).1 (RQ hv).1,JD hk];simp
 |p::P,w::vs,i+1,m,nd,h1,h2,hk=>by
  show Wk kindOf ((p,w)::P.zip vs) m x=_
  unfold Wk;exact lS (i:=i) (LQ.mp nd).2 (by simpa using h1) (by simpa using h2) hk
def start(N:IG Str)(vs:IG V):St:=vs.map B'++Sy (N.length - vs.length) IV
def cj(CX:rV)(P:Jc)(w:Jv)(K:IJ)(mg:Str->IQ IH)(base:JM)(N:IG Str)(qual:Str)(scope:N6)(f:IL)(cd:IH)(A:JV)(outer:IG Env)(s:IM)(H:Hp)(E:XK):Cx where
 prog:=P
 w:=w
 K:=K
 mg:=mg
 base:=base
 A:=A.deeper (JU qual scope s.heap.objs.size f cd)
 N:=N
 s₀:=s
 H₀:=H
 env:=JU qual scope s.heap.objs.size f cd
 outer:=outer
 stack:=JU qual scope s.heap.objs.size f cd::outer
 ex:=[]
 calm:=IS
 fn:=λ_=>IS
 pn:=[]
 xe:=λe s'=>wpAny (Ju P w) (A.deeper<|JU qual scope s.heap.objs.size f cd) (Qs (JU qual scope s.heap.objs.size f cd) e) (λ_ s''=>CX outer H s E e s'') (λe' s''=>CX outer H s E e' s'') s'
theorem oN{sc:N6}{n:Nat}{x:Str}(h:sc.names.lookup x=B' .cell):∃c,(Kx n sc.names []).lookup x=B' c:=by
 have q:=Rl sc.names n []<|.inl h;exact Ol.mp q
theorem ui{CX:rV}{P:Jc}{w:Jv}{K:IJ}{mg:Str->IQ IH}{base:JM}{N ps:IG Str}{qual:Str}{scope:N6}{f:IL}{cd:IH}{A:JV}{outer:IG Env}{s s1:IM}{H:Hp}{E:XK}{us:IG IH}{vs:IG V}
  (S:aF N ps scope) (hd:A.handled=IV) (e0:Env0 P w K mg base A outer s H) (hl:vs.length=ps.length) (r:Vals vs us)
  (x:InCallC s s.heap.objs.size (Wj (JU qual scope s.heap.objs.size f cd).kindOf (ps.zip us) λ_=>IV) (Kx (s.heap.objs.size+1) scope.names []) (Wk (JU qual scope s.heap.objs.size f cd).kindOf (ps.zip us) λ_=>IV) s1):
  Inv (cj CX P w K mg base N qual scope f cd A outer s H E) [] (start N vs) H s1:=by
 have T_:ps.length<=N.length:=by have:=Kp LX S.pre;rw[JN]at this;lia
 obtain⟨h1,tk,rfl,hk⟩:=x.done;have noA:∀b,b∉(cj CX P w K mg base N qual scope f cd A outer s H E).ex:=λb z=>absurd (show b∈([]:IG IL)from z) (by simp);refine⟨⟨e0.mod,S.kind,rfl,rfl,IX _,λy z c h1 h2=>?_,λy hy=>?_,λy c _ h=>?_,λ_=>hd,Around.frames_deeper e0.frames,.inr ⟨rfl,rfl⟩,λb z=>absurd z<|noA b,e0.bs,e0.bsz,λb _ _=>noA b,λb z=>absurd z<|noA b,e0.funs,e0.frf⟩,
  rfl,e0.bare,Un.kept hk,⟨_,x.toInCall.ns,λi y v h1 h2 h3=>?_⟩,λy c h=>⟨_,x.cell y c h⟩,e0.hok.fresh<|IX _,λy c h=>?_,λp hp=>absurd (show p∈([]:IG (IL×Obj))from hp) (by simp),e0.hok.kept hk,?_⟩
 ·exact name_of_addr x.apart (Lj h1)<|Lj h2
 ·have hy:scope.names.lookup y=B' .cell\/scope.names.lookup y=B' .free:=hy;obtain hy|hy:=hy
  ·exact oN hy
  ·exact absurd rfl<|S.nofree _<|Lj hy
 ·exact KM<|x.above y c<|Lj h
 ·have hi:i < vs.length:=by
   unfold start at h2;by_cases hi:i < vs.length
   ·exact hi
   ·rw[J0<|by simpa using hi]at h2;rw[List.getElem?_replicate]at h2
    split at h2<;>cases h2
  have ha:vs[i]? =B' v:=by
   unfold start at h2;rw[JP (by simpa using hi),Jx]at h2;cases e:vs[i]? with
   |none=>rw[e]at h2;cases h2
   |some a=>rw[e]at h2;cases h2;rfl
  obtain⟨u,hu,rv⟩:=r.get ha;have hp:ps[i]? =B' y:=by
   rw[<-S.pre,QW<|by lia];exact h1
  have ndP:ps.Nodup:=by rw[<-S.pre];exact S.nd.sublist<|OU _ _
  exists u,rv;obtain k|k:=S.par y (Ji hp)
  ·exact .inl ⟨k,lR ndP hp hu k⟩
  ·obtain⟨c,e⟩:=oN (n:=s.heap.objs.size+1) k;refine .inr ⟨.inl k,c,e,?_⟩;have q:=x.cell y c e;rw[lS ndP hp hu (by show scope.names.lookup y≠_;rw[k];decide)]at q;exact q
 ·exact e0.hok.fresh<|KM<|x.above y c<|Lj h
 ·unfold start;show _=N.length
  rw[I_,IR,List.length_replicate];lia
theorem vI{CX:rV}{P:Jc}{w:Jv}{K:IJ}{mg:Str->IQ IH}{base:JM}{k:Nat}{f:IL}{name qual:Str}{params:Arguments}{body:IG KL}{scope:N6}{dV kV Ua pm LY ct oc:IH}{an od:IQ IL}
  {osl:J4 (IQ IH)} {N ps:IG Str} {sp:Sp} (lk:K.lookup f=B' ⟨oc,od,.func<|Mc name qual params body scope dV kV Ua pm an LY ct,osl⟩) (Xu:Se K LY qual=IS) (S:aF N ps scope)
  (len:∀vs H Q E,sp vs H Q E->vs.length=ps.length)
  (V6:∀A outer s H vs Q E,Room k (A.deeper<|JU qual scope s.heap.objs.size f LY)->sp vs H Q E->
   ∃t,PSs (cj CX P w K mg base N qual scope f LY A outer s H E) body t/\t {nx:=λ_ H'=>Q .non H',rt:=Q} (start N vs) H):
  FnOk P w K mg base CX (k+1) f (Mc name qual params body scope dV kV Ua pm an LY ct) ps sp:=by
 refine⟨len,λA outer s H args us vs Q E hr e0 hb r Zu=>?_⟩;have hl:=len _ _ _ _ Zu;have KX:K.In s.heap:=e0.mod.kin.keeps λb o e=>(e0.bs b o e).1;have lim:s.heap.NoLimit:=e0.mod.nolimit.keeps λb o e=>(e0.bs b o e).1;have adS:∀y∈ps.zip us,scope.names.lookup y.1=B' .local\/(scope.names.lookup y.1=B' .cell/\((Kx (s.heap.objs.size+1) scope.names []).lookup y.1).isSome=IS):=λ⟨n,v⟩ hy=>by
  obtain q|q:=S.par n (RQ hy).1
  ·exact .inl q
  ·exact .inr ⟨q,Rl _ _ _<|.inl q⟩
 refine codeAny_call_function hr.depth (KX _ _ lk) rfl S.co S.gen rfl (PySem.W.codeRec_of KX Xu)<|hb _ _ _ _ ?_;refine wpAny_newFunctionEnv_cells S.kind adS λenv he s1 x=>?_;subst he;refine⟨lim.keeps x.toInCall.keep,codeAny_func ?_⟩;obtain⟨t,ht,hq⟩:=V6 A outer s H vs Q E (hr.deeper _) Zu;have I:Inv (cj CX P w K mg base N qual scope f LY A outer s H E) [] (start N vs) H s1:=ui S hr.hd e0 hl r x;refine J2 (ht [] s1 (start N vs) H _ I hq) (λfl s' hs=>?_) λe s' hs=>hs;have fin:∀{σ':St} {H':Hp} {v:V} {u:IH},Inv (cj CX P w K mg base N qual scope f LY A outer s H E) [] σ' H' s'->RelV v u->Q v H'->CE outer P w H s Q u s':=
  λ{σ' H' v u} J rv q=>⟨v,H',J.os,J.bare,J.base,J.hok,rv,q⟩
 cases fl with
 |ret u=>
  obtain⟨v,σ',H',J,rv,q⟩:=hs;exact fin J rv q
 |next=>
  obtain⟨σ',H',J,q⟩:=hs;exact fin (v:=V.non) (u:=M0) J rfl q
 |brk=>
  obtain⟨_,_,_,q⟩:=hs;exact Ld q
 |cont=>
  obtain⟨_,_,_,q⟩:=hs;exact Ld q
section
variable {X:Cx}{x:Str}{p pos:Pos}{e:Km}{es:IG Km}{t:TA}{id T:LA}{r:IG V->Hp->VK->Prop}
def Hw(r:IG V->Hp->VK->Prop)(t:TA):TE:=λσ H Q=>t σ H λvs H1=>r vs H1 Q
theorem au(hc:dJ X (.builtin id) r)(hg:Gl X x)(hm:X.mg x=IV)(hv:OM x=B' (.builtin id))(ha:PA X (e::es) t)(hn:x≠"__name__":=by decide)(XN:(x == ("__debug__":Str))=false:=by decide)
  (he:JI (e::es) X.env=(IU,LN e X.env)::JI es X.env:=by rfl) (T_:(MF pos<|JI es X.env).any (·.1)=false:=by rfl):PE X (.Call (.Name x p) (e::es) [] pos) (Hw r t):=by
 intro IT s σ H Q I h;refine La<|eD I hg hm hv ?_ hn XN;exact O8 (bT (ha pos IT s σ H _ I h) λus s1 ⟨vs,H1,I1,r1,q1⟩=>hc IT s1 σ H1 vs us Q I1 r1 q1) he T_
theorem bL(hc:dJ X (.type T) r)(hg:Gl X x)(hm:X.mg x=IV)(hv:OM x=B' (.type T))(ha:PA X (e::es) t)(hn:x≠"__name__":=by decide)(XN:(x == ("__debug__":Str))=false:=by decide)
  (he:JI (e::es) X.env=(IU,LN e X.env)::JI es X.env:=by rfl) (T_:(MF pos<|JI es X.env).any (·.1)=false:=by rfl):PE X (.Call (.Name x p) (e::es) [] pos) (Hw r t):=by
 intro IT s σ H Q I h;refine La<|eD I hg hm hv ?_ hn XN;exact Lo (bT (ha pos IT s σ H _ I h) λus s1 ⟨vs,H1,I1,r1,q1⟩=>hc IT s1 σ H1 vs us Q I1 r1 q1) he T_
end
end L2
namespace HT
open PySem PyProof.Rows
section
variable {prog:Jc}{w:Jv}{A:JV}{E:IH->IM->Prop}{s:IM}
theorem cat_tup{Q:IH->IM->Prop}(ht:IsTup s.heap t vs.toArray)(hb:IsTup s.heap b ws.toArray)(hv:vs≠[])
  (h1:ws=[]->Q (.ref t) s) (h2:ws≠[]->Q (.ref s.heap.objs.size) {s with heap:=s.heap.push {cls:=.type "tuple",data:=.seq (vs++ws).toArray}})
  (hsz:vs.length+ws.length<=sizeLine):wpAny (Ju prog w) A (Nz .Add (.ref t)<|.ref b) Q E s:=by
 obtain⟨⟨cls,dd,data,sl⟩,ho,hc,n,hd⟩:=id ht;obtain⟨⟨agG,dd2,data2,sl2⟩,ho2,hc2,n2,Vz⟩:=id hb;simp only at hc hd hc2 Vz;subst hc hd hc2 Vz;have e:vs.toArray++ws.toArray=(vs++ws).toArray:=by simp
 by_cases hw:ws=[]
 ·exact Ur ⟨_,ho,rfl⟩ ⟨_,ho2,rfl⟩ Q3 S_ OQ OF (Oi _ _)
   (tuple_addW1 t b vs.toArray ws.toArray n n2 dd dd2 sl sl2 (by simpa using hv)<|by simp [hw]) ⟨ho,ho2,h1 hw⟩
 ·refine Ur ⟨_,ho,rfl⟩ ⟨_,ho2,rfl⟩ Q3 S_ OQ OF (Oi _ _)
   (tuple_addW2 t b vs.toArray ws.toArray n n2 dd dd2 sl sl2 (by simpa using hv) (by simpa using hw)<|by rw[Jn,Jn];exact hsz) ⟨ho,ho2,?_⟩
  rw[e];exact h2 hw
def sIx(n d:Nat):IQ Int->Nat
 |none=>d
 |some v=>if v < 0 then(v+(n:Int)).toNat else min v.toNat n
theorem sIx_nat(n d k:Nat):sIx n d (B' (k:Int))=min k n:=by
 show(if(k:Int) < 0 then((k:Int)+(n:Int)).toNat else min (k:Int).toNat n)=min k n
 rw[JD (by lia),Mh]
end
end HT
namespace L2
open PySem PySem.Spec PyProof.Rows
abbrev TO:=St->Hp->(IQ Int->Hp->Prop)->Prop
def PO(X:Cx)(e:IQ Km)(t:TO):Prop:=
 ∀(IT:IG (IL×Obj)) (s:IM) (σ:St) (H:Hp) (Q:IQ Int->Hp->Prop),Inv X IT σ H s->t σ H Q->
  wpAny (Ju X.prog X.w) X.A (evalPart e X.env) (λu s'=>∃o H',Inv X IT σ H' s'/\IsPart u o/\Q o H') X.xe s
def zw:TO:=λ_ H Q=>Q IV H
def E7(t:TE):TO:=λσ H Q=>t σ H λx H1=>∃i,x=.int i/\Q (B' i) H1
theorem e_:∀{us:IG IH},Vals (ns.map V.int) us->M5 us ns:=by
 induction ns with
 |nil=>intro us r;rw[PZ]at r;cases r;exact .nil
 |cons n ns ih=>
  intro us r;rw[J']at r;cases r with
  |cons r1 r2=>
   obtain⟨t,e⟩:=r1;subst e;exact .cons n t<|ih r2
section
variable {X:Cx}{e:Km}{te:TE}{lo hi:IQ Km}{tl th:TO}{pos p2:Pos}
theorem jG:PO X IV zw:=by
 intro IT s σ H Q I h;rw[W4];exact I0 ⟨IV,H,I,.none,h⟩
theorem eP(h:PE X e te):PO X (B' e) (E7 te):=by
 intro IT s σ H Q I hw;rw[evalPart_some];refine bT (h IT s σ H _ I hw) λu s1 ⟨x,H1,I1,r1,q1⟩=>?_;obtain⟨i,rfl,q⟩:=q1;obtain⟨t,rfl⟩:=r1;exact⟨B' i,H1,I1,.int i t,q⟩
def Ie(X:Cx)(r:V->IQ Int->IQ Int->Hp->VK->Prop):Prop:=
 ∀(IT:IG (IL×Obj)) (s:IM) (σ:St) (H:Hp) (x:V) (v vl vu:IH) (lo hi:IQ Int) (sl:IL) (Q:VK),Inv X IT σ H s->RelV x v->s.heap.IsSliceOf sl vl vu .none->IsPart vl lo->IsPart vu hi->r x lo hi H Q->
  ∃T id,Tj (.type T) "__getitem__"=pure (B'<|.builtin id)/\s.TypeIs v T/\wpAny (Ju X.prog X.w) X.A (Uq v<|.ref sl) (EP X IT σ Q) X.xe s
def Iy(r:V->IQ Int->IQ Int->Hp->VK->Prop)(te:TE)(tl th:TO):TE:=λσ H Q=>te σ H λx H1=>tl σ H1 λl H2=>th σ H2 λu H3=>r x l u H3 Q
theorem gv(hr:Ie X r)(he:PE X e te)(hl:PO X lo tl)(hu:PO X hi th):PE X (.Subscript e (.Slice lo hi IV p2) pos) (Iy r te tl th):=by
 intro IT s σ H Q I h;refine TR<|bT (he IT s σ H _ I h) λv s1 ⟨x,H1,I1,r1,q1⟩=>?_;refine wpAny_Slice<|bT (hl IT s1 σ H1 _ I1 q1) λvl s2 ⟨l,H2,I2,pl,q2⟩=>bT (hu IT s2 σ H2 _ I2 q2) λvu s3 ⟨u,H3,I3,pu,q3⟩=>?_;rw[W4];refine I0 ?_;have I4:Inv X IT σ H3 {s3 with heap:=s3.heap.push {cls:=.type "slice",data:=.fields #[vl,vu,.none]}}:=I3.kept (t':=s3.toks) λb ob q=>IP _ q;obtain⟨T,id,hT,ht,hg⟩:=hr IT {s3 with heap:=s3.heap.push {cls:=.type "slice",data:=.fields #[vl,vu,.none]}} σ H3 x v vl vu l u s3.heap.objs.size Q I4 r1 (TL ..) pl pu q3;show wpAny (Ju X.prog X.w) X.A (QT e (.Slice lo hi IV p2) v<|.ref s3.heap.objs.size) (EP X IT σ Q) X.xe {s3 with heap:=s3.heap.push {cls:=.type "slice",data:=.fields #[vl,vu,.none]}}
 exact YK (ops:=[.ref s3.heap.objs.size,v]) ht hT hg (by with_unfolding_all rfl)
def dz(xs:IG V)(lo hi:IQ Int):IG V:=(xs.drop<|HT.sIx xs.length 0 lo).take<|HT.sIx xs.length xs.length hi - HT.sIx xs.length 0 lo
theorem oO(xs:IG V)(lo hi:IQ Int):(dz xs lo hi).length<=xs.length:=by
 unfold dz;rw[JN,MV];lia
def E8(K:IJ):R2:=λx y H Q=>∃a b xs ys,x=.ref a/\y=.ref b/\SqT K H a xs/\SqT K H b ys/\xs≠[]/\xs.length+ys.length<=sizeLine/\
 (ys=[]->Q (.ref a) H)/\(ys≠[]->∀p,H p=IV->Q (.ref p) (upd H p<|.tup<|xs++ys))
theorem Vals.nil_iff(r:Vals xs us):us=[]↔xs=[]:=by
 cases r with
 |nil=>simp
 |cons _ _=>simp
theorem zx:OpR X (Nz .Add) (E8 X.K):=by
 intro IT s σ H x y v u Q I rx ry h;obtain⟨a,b,xs,ys,rfl,rfl,ha,hb,hx,hz,q1,q2⟩:=h;cases rx;cases ry;obtain⟨KN,r1,p1,_⟩:=I.tuple ha;obtain⟨aat,r2,p2,_⟩:=I.tuple hb;refine HT.cat_tup p1 p2 (λz=>hx<|r1.nil_iff.mp z) (λz=>⟨.ref a,H,I,rfl,q1<|r2.nil_iff.mp z⟩) (λz=>?_) (by rw[<-r1.length,<-r2.length];exact hz);refine⟨.ref s.heap.objs.size,_,I.laid (t':=s.toks) (o:=.tup<|xs++ys) (λb ob q=>IP _ q) (IX _) ?_,rfl,q2 (λw=>z<|r2.nil_iff.mpr w) _<|I.hok.fresh<|IX _⟩;exact⟨by rw[I_];exact hz,_,r1.append r2,aab _ _⟩
end
def zl(n:Nat)(i:Int):IQ Nat:=if 0<=i then(if i < n then B' i.toNat else IV)else if -(n:Int)<=i then B' (i+n).toNat else IV
def p_{α:Type}(xs:IG α)(i:Int):IQ α:=(zl xs.length i).bind λj=>xs[j]?
theorem rW(h:zl n i=B' j):seqIndex? i n=B' j/\j < n/\ -(n:Int)<=i/\i < n:=by
 unfold zl at h;by_cases h0:0<=i
 ·rw[JF h0]at h;by_cases h1:i < n
  ·rw[JF h1]at h;have e:i.toNat=j:=Jo h;exact⟨by rw[Vn h0 h1,e],by lia,by lia,h1⟩
  ·rw[JD h1]at h;cases h
 ·rw[JD h0]at h;by_cases h1:-(n:Int)<=i
  ·rw[JF h1]at h;have e:(i+n).toNat=j:=Jo h;exact⟨by rw[seqIndex_neg (by lia) h1,e],by lia,h1,by lia⟩
  ·rw[JD h1]at h;cases h
theorem nh{α:Type}{xs:IG α}{i:Int}{v:α}(h:p_ xs i=B' v):∃j,seqIndex? i xs.length=B' j/\xs[j]? =B' v/\j < xs.length/\ -(xs.length:Int)<=i/\i < xs.length:=by
 unfold p_ at h;cases e:zl xs.length i with
 |none=>rw[e]at h;cases h
 |some j=>
  rw[e]at h;obtain⟨h1,h2,h3,h4⟩:=rW e;exact⟨j,h1,h,h2,h3,h4⟩
theorem aW{α:Type}{xs:IG α}{j:Nat}{v:α}(h:xs[j]? =B' v):p_ xs (j:Int)=B' v:=by
 have hj:j < xs.length:=(IY.mp h).1;have e:zl xs.length (j:Int)=B' j:=by
  unfold zl;rw[JF (by lia),JF<|by lia];simp
 unfold p_;rw[e];exact h
def zy(b:Km):Prop:=∀o i,R6 b IU o i=operate [o,i] (Uq o i)
def IxR(X:Cx)(r:R2):Prop:=
 ∀(value QY:Km) (IT:IG (IL×Obj)) (s:IM) (σ:St) (H:Hp) (x y:V) (v u:IH) (Q:VK),Inv X IT σ H s->RelV x v->RelV y u->r x y H Q->
  R6 QY IU v u=operate [v,u] (Uq v u)->wpAny (Ju X.prog X.w) X.A (QT value QY v u) (EP X IT σ Q) X.xe s
def Ig(X:Cx)(id:LA)(r:V->IG V->Hp->VK->Prop):Prop:=
 ∀(IT:IG (IL×Obj)) (s:IM) (σ:St) (H:Hp) (x:V) (xs:IG V) (v:IH) (us:IG IH) (Q:VK),Inv X IT σ H s->RelV x v->Vals xs us->r x xs H Q->
  wpAny (Ju X.prog X.w) X.A (call (.builtin id)<|v::us) (EP X IT σ Q) X.xe s
section
variable {X:Cx}{a b:Km}{ta tb:TE}{pos:Pos}
theorem IxR.or(h:IxR X r)(h':IxR X r'):IxR X (λx y H Q=>r x y H Q\/r' x y H Q):=by
 intro value QY IT s σ H x y v u Q I rx ry q hs;obtain q|q:=q
 ·exact h value QY IT s σ H x y v u Q I rx ry q hs
 ·exact h' value QY IT s σ H x y v u Q I rx ry q hs
theorem aE(hr:IxR X r)(ha:PE X a ta)(hb:PE X b tb)(hs:zy b):PE X (.Subscript a b pos) (lF r ta tb):=by
 intro IT s σ H Q I h;exact TR<|CT ha hb I h λv u s2 x y H2 I2 rx ry q=>hr a b IT s2 σ H2 x y v u Q I2 rx ry q<|hs _ _
inductive E9 (K:IJ)(x y:V)(H:Hp)(Q:VK):Prop
 |mk (p:IL)(xs:IG V)(i:Int)(v:V)(hx:x=.ref p)(hy:y=.int i)(h:SqL K H p xs)(e:p_ xs i=B' v)(q:Q v H):E9 K x y H Q
inductive E_ (K:IJ)(x y:V)(H:Hp)(Q:VK):Prop
 |mk (p:IL)(xs:IG V)(i:Int)(v:V)(hx:x=.ref p)(hy:y=.int i)(h:SqT K H p xs)(e:p_ xs i=B' v)(q:Q v H):E_ K x y H Q
inductive Fa (x y:V)(H:Hp)(Q:VK):Prop
 |mk (z:Str)(i:Int)(c:Nat)(hx:x=.str z)(hy:y=.int i)(h:z.length<=sizeLine)(e:p_ z.cps.toList i=B' c)(q:Q (.str ⟨#[c]⟩) H):Fa x y H Q
def Fb(K:IJ):R2:=λx y H Q=>E9 K x y H Q
def Fc(K:IJ):R2:=λx y H Q=>E_ K x y H Q
def Fd:R2:=λx y H Q=>Fa x y H Q
theorem ix_list:IxR X (Fb X.K):=by
 intro value QY IT s σ H x y v u Q I rx ry h hs;obtain⟨p,xs,i,z,rfl,rfl,hq,he,q⟩:=h;cases rx;obtain⟨t,rfl⟩:=ry;obtain⟨KN,r,pl,hz⟩:=I.list hq;obtain⟨j,h1,h2,h3,h4,h5⟩:=nh he;obtain⟨w,ew,Y5⟩:=r.get h2;have hl:=r.length;have hn:=jY;have fin:EP X IT σ Q w s:=⟨z,H,I,Y5,q⟩;by_cases h0:0<=i
 ·have hj:i.toNat=j:=by
   rw[Vn h0 h5]at h1;exact Jo h1
  exact item_listR pl.isList h0 (by lia) (by rw[hj];simpa using ew) fin hs
 ·have hj:(i+(KN.toArray.size:Int)).toNat=j:=by
   rw[seqIndex_neg (by lia) h4]at h1;rw[Jn,<-hl];exact Jo h1
  exact Rr (x:=w) pl.isList.typeIs slot_list_getitem.lookup
   (wpAny_getItem_list_neg (Q:=λr s'=>r=w/\EP X IT σ Q r s') pl.isList (by lia) (by rw[Jn]<;>lia) (by lia) (by rw[hj];simpa using ew) ⟨rfl,fin⟩) hs
theorem ix_tup:IxR X (Fc X.K):=by
 intro value QY IT s σ H x y v u Q I rx ry h hs;obtain⟨p,xs,i,z,rfl,rfl,hq,he,q⟩:=h;cases rx;obtain⟨t,rfl⟩:=ry;obtain⟨KN,r,pl,hz⟩:=I.tuple hq;obtain⟨j,h1,h2,h3,h4,h5⟩:=nh he;obtain⟨w,ew,Y5⟩:=r.get h2;have hl:=r.length;have hn:=jY;have fin:EP X IT σ Q w s:=⟨z,H,I,Y5,q⟩;exact Rr (x:=w) pl.typeIs slot_tuple_getitem.lookup
  (getItem_tuple (j:=j) (Q:=λr s'=>r=w/\EP X IT σ Q r s') pl (by lia) (by lia) (by rw[Jn,<-hl];exact h1) (by simpa using ew) ⟨rfl,fin⟩) hs
theorem C0:IxR X Fd:=by
 intro value QY IT s σ H x y v u Q I rx ry h hs;obtain⟨z,i,c,rfl,rfl,hz,he,q⟩:=h;obtain⟨t,rfl⟩:=rx;obtain⟨t',rfl⟩:=ry;obtain⟨j,h1,h2,h3,h4,h5⟩:=nh he;have hl:z.cps.toList.length=z.length:=by simp [Str.length]
 rw[hl]at h1 h4 h5;have hn:=jY;exact YK (typeIs_str s z t) slot_str_getitem.lookup (getItem_str (c:=c) (by
  have e1:decide (i < -(2 ^ 63:Int))=false:=IW (by lia);have e2:decide (i>=2 ^ 63)=false:=IW (by lia);rw[e1,e2,Bool.or_false]) (by rw[h1];simpa using h2) ⟨.str ⟨#[c]⟩,H,I.tok _,⟨_,rfl⟩,q⟩) hs
def Hx(K:IJ):R2:=λx y H Q=>Fb K x y H Q\/Fc K x y H Q\/Fd x y H Q
theorem ax:IxR X (Hx X.K):=ix_list.or<|ix_tup.or C0
theorem qp(KN:IG IH)(n j:Nat)(u:IH):Lb (·.setIfInBounds j u) {cls:=.type "list",data:=.seq KN.toArray n}={cls:=.type "list",data:=.seq (KN.set j u).toArray n}:=by
 simp [Lb]
theorem Inv.lst(I:Inv X IT σ H s)(h:H p=B' (.lst xs)):
  ∃KN n,Vals xs KN/\s.heap.get? p=B' {cls:=.type "list",data:=.seq KN.toArray n}/\xs.length<=sizeLine:=by
 obtain⟨z,KN,n,r,e⟩:=I.hok p _ h;exact⟨KN,n,r,e,z⟩
theorem Inv.lstUpd{ys:IG V}{KN its':IG IH}{n n':Nat}{f:Obj->Obj}(I:Inv X IT σ H s)(h:H p=B' (.lst xs))
  (ho:s.heap.get? p=B' {cls:=.type "list",data:=.seq KN.toArray n}) (hf:f {cls:=.type "list",data:=.seq KN.toArray n}={cls:=.type "list",data:=.seq its'.toArray n'}) (r:Vals ys its') (hz:ys.length<=sizeLine) (t:Nat):
  Inv X IT σ (upd H p<|.lst ys) {s with heap:=s.heap.update p f,toks:=t}:=by
 have e:(s.heap.update p f).get? p=B' {cls:=.type "list",data:=.seq its'.toArray n'}:=by
  rw[KF f ho (by rw[hf]<;>rfl),hf]
 refine I.write (x:=p) (e:=p) (by rw[h];trivial) (.inl rfl) (λb u hb q=>(JR _ _<|Lq hb).trans q) ⟨_,e⟩ ?_;exact⟨hz,its',n',r,e⟩
def Ff:V->V->V->Hp->(Hp->Prop)->Prop:=λo i v H Q=>∃p xs k j,o=.ref p/\i=.int k/\H p=B' (.lst xs)/\zl xs.length k=B' j/\Q (upd H p<|.lst<|xs.set j v)
theorem vJ:ES X Ff:=by
 intro IT s σ H o i v ov iv u Q I ro ri rv h;obtain⟨p,xs,k,j,rfl,rfl,hp,hj,q⟩:=h;cases ro;obtain⟨t,rfl⟩:=ri;obtain⟨KN,n,r,ho,hz⟩:=I.lst hp;obtain⟨h1,h2,h3,h4⟩:=rW hj;have hl:=r.length;have hn:=jY;have I':Inv X IT σ (upd H p<|.lst<|xs.set j v) {s with heap:=s.heap.update p (Lb (·.setIfInBounds j u))}:=
  I.lstUpd hp ho (qp KN n j u) (r.set rv j) (by rw[VO];exact hz) s.toks
 by_cases h0:0<=k
 ·have hk:k.toNat=j:=by
   rw[Vn h0 h4]at h1;exact Jo h1
  exact PySem.W.ki_setAt ho h0 (by lia) (by rw[Jn,<-hl];exact h4) (by rw[hk];exact⟨_,I',q⟩)
 ·have hk:(k+(KN.toArray.size:Int)).toNat=j:=by
   rw[seqIndex_neg (by lia) h3]at h1;rw[Jn,<-hl];exact Jo h1
  exact PySem.W.ki_setBack ho (by lia) (by rw[Jn,<-hl];exact h3) (by lia) (by rw[hk];exact⟨_,I',q⟩)
theorem nj(lo hi:IQ Int)(n:Nat):(LU lo hi IV n).1=((HT.sIx n 0 lo:Nat):Int)/\(LU lo hi IV n).2.1=((HT.sIx n n hi:Nat):Int)/\(LU lo hi IV n).2.2=1:=by
 refine⟨?_,?_,rfl⟩
 ·cases lo with
  |none=>simp [LU,HT.sIx]
  |some i=>
   simp only [LU,HT.sIx,Vc,show(1:Int) > 0 by decide,On];by_cases h:i < 0
   ·simp only [h,On]<;>lia
   ·simp only [h,MX]<;>lia
 ·cases hi with
  |none=>simp [LU,HT.sIx]
  |some i=>
   simp only [LU,HT.sIx,Vc,show(1:Int) > 0 by decide,On];by_cases h:i < 0
   ·simp only [h,On]<;>lia
   ·simp only [h,MX]<;>lia
theorem lG(KN:IG IH)(lo hi:IQ Int):slicePick KN.toArray lo hi IV=((KN.drop<|HT.sIx KN.length 0 lo).take<|HT.sIx KN.length KN.length hi - HT.sIx KN.length 0 lo).toArray:=by
 obtain⟨h1,h2,h3⟩:=nj lo hi KN.toArray.size;unfold slicePick;rw[h1,h2,h3];simp only [sliceRange_one,pick_run,Jn]<;>rfl
def Hy(K:IJ):V->IQ Int->IQ Int->Hp->VK->Prop:=λx lo hi H Q=>∃a xs,x=.ref a/\SqL K H a xs/\∀p,H p=IV->Q (.ref p) (upd H p<|.lst<|dz xs lo hi)
theorem iw:Ie X (Hy X.K):=by
 intro IT s σ H x v vl vu lo hi sl Q I rx hs pl pu h;obtain⟨a,xs,rfl,hx,q⟩:=h;cases rx;obtain⟨KN,r,ht,hz⟩:=I.list hx;have Lx:=r.length;exists "list",_,slot_list_getitem.lookup,ht.isList.typeIs;refine QN ht.isList hs pl pu .none (by simp) ?_ (by rw[Jn]<;>lia);rw[lG,<-Lx];refine⟨.ref s.heap.objs.size,_,I.laid (t':=s.toks) (o:=.lst<|dz xs lo hi) (λb ob q=>IP _ q) (IX _) ?_,rfl,q _<|I.hok.fresh<|IX _⟩;exact⟨KE (oO xs lo hi) hz,_,0,(r.drop<|HT.sIx xs.length 0 lo).take<|HT.sIx xs.length xs.length hi - HT.sIx xs.length 0 lo,JB _ rfl⟩
def iy:V->Jm
 |.non=>IS
 |.bl _=>IS
 |.int _=>IS
 |.str _=>IS
 |_=>IU
def By:V->V->Jm
 |.non,.non=>IS
 |.bl a,.bl b=>a == b
 |.bl a,.int b=>(if a then 1 else 0) == b
 |.int a,.bl b=>a == (if b then 1 else 0)
 |.int a,.int b=>a == b
 |.str a,.str b=>a == b
 |_,_=>IU
theorem C_(ry:RelV y u)(rx:RelV x v)(fy:iy y=IS)(fx:iy x=IS):Zk A s u v (By y x):=by
 cases y with
 |non=>
  cases ry;cases x with
  |non=>cases rx;exact aak _
  |bl b=>cases rx;exact YD b
  |int b=>obtain⟨t,rfl⟩:=rx;exact YY b t
  |str b=>obtain⟨t,rfl⟩:=rx;exact YX b t
  |_=>exact absurd (show IU=IS from fx) Jz
 |bl a=>
  cases ry;cases x with
  |non=>cases rx;exact YE a
  |bl b=>cases rx;exact YF a b
  |int b=>obtain⟨t,rfl⟩:=rx;exact Y2 a b t
  |str b=>obtain⟨t,rfl⟩:=rx;exact Y1 a b t
  |_=>exact absurd (show IU=IS from fx) Jz
 |int a=>
  obtain⟨t',rfl⟩:=ry;cases x with
  |non=>cases rx;exact YZ a t'
  |bl b=>cases rx;exact Y0 a t' b
  |int b=>obtain⟨t,rfl⟩:=rx;exact Zj a t' b t
  |str b=>obtain⟨t,rfl⟩:=rx;exact TC a t' b t
  |_=>exact absurd (show IU=IS from fx) Jz
 |str a=>
  obtain⟨t',rfl⟩:=ry;cases x with
  |non=>cases rx;exact YV a t'
  |bl b=>cases rx;exact YW a t' b
  |int b=>obtain⟨t,rfl⟩:=rx;exact Tz a t' b t
  |str b=>obtain⟨t,rfl⟩:=rx;exact Zi a t' b t
  |_=>exact absurd (show IU=IS from fx) Jz
 |_=>exact absurd (show IU=IS from fy) Jz
def qr(x:V)(u:IH):Jm:=match u with
 |.none=>By .non x
 |.bool b=>By (.bl b) x
 |.int i _=>By (.int i) x
 |.str z _=>By (.str z) x
 |_=>IU
theorem vK(r:RelV y u)(f:iy y=IS):qr x u=By y x:=by
 cases y with
 |non=>cases r;rfl
 |bl b=>cases r;rfl
 |int i=>obtain⟨t,rfl⟩:=r;rfl
 |str z=>obtain⟨t,rfl⟩:=r;rfl
 |_=>exact absurd (show IU=IS from f) Jz
theorem iz:∀{xs:IG V} {us:IG IH},Vals xs us->xs.all iy=IS->us.any (qr x)=xs.any λy=>By y x
 |_,_,.nil,_=>rfl
 |y::xs,u::us,.cons r t,f=>by
  rw[Tc,JT]at f;rw[Ni,Ni,vK r f.1,iz t f.2]
theorem gx(rx:RelV x v)(fx:iy x=IS):∀{xs:IG V} {us:IG IH},Vals xs us->xs.all iy=IS->∀u∈us,Zk A s u v<|qr x u
 |_,_,.nil,_=>λu hu=>by cases hu
 |y::xs,u::us,.cons r t,f=>λu' hu=>by
  rw[Tc,JT]at f;obtain rfl|hu:=JC.mp hu
  ·rw[vK r f.1];exact C_ r rx f.1 fx
  ·exact gx rx fx t f.2 u' hu
def qd(x:V)(xs:IG V):Jm:=xs.any λy=>By y x
inductive Ih (K:IJ)(neg:Jm)(x y:V)(H:Hp)(Q:VK):Prop
 |mk (p:IL)(xs:IG V)(hy:y=.ref p)(h:SqL K H p xs\/SqT K H p xs)(fx:iy x=IS)(fs:xs.all iy=IS)(q:Q (.bl (if neg then !qd x xs else qd x xs)) H):Ih K neg x y H Q
def GV(K:IJ)(neg:Jm):R2:=λx y H Q=>Ih K neg x y H Q
theorem lT:OpR X (KR .In) (GV X.K IU):=by
 intro IT s σ H x y v u Q I rx ry h;obtain⟨p,xs,rfl,hq,fx,fs,q⟩:=h;cases ry;obtain hq|hq:=hq
 ·obtain⟨KN,r,pl,hz⟩:=I.list hq;refine SeqAt.in_listAt (qr x) pl.isList (λw hw=>gx rx fx r fs w<|by simpa using hw) ⟨.bl _,H,I,rfl,?_⟩;rw[show KN.toArray.any (qr x)=KN.any (qr x) by simp,iz r fs];exact q
 ·obtain⟨KN,r,pl,hz⟩:=I.tuple hq;refine SeqAt.in_tupleAt (qr x) pl (λw hw=>gx rx fx r fs w<|by simpa using hw) ⟨.bl _,H,I,rfl,?_⟩;rw[show KN.toArray.any (qr x)=KN.any (qr x) by simp,iz r fs];exact q
theorem cD:OpR X (KR .NotIn) (GV X.K IS):=by
 intro IT s σ H x y v u Q I rx ry h;obtain⟨p,xs,rfl,hq,fx,fs,q⟩:=h;cases ry;obtain hq|hq:=hq
 ·obtain⟨KN,r,pl,hz⟩:=I.list hq;refine SeqAt.notIn_listAt (qr x) pl.isList (λw hw=>gx rx fx r fs w<|by simpa using hw) ⟨.bl _,H,I,rfl,?_⟩;rw[show KN.toArray.any (qr x)=KN.any (qr x) by simp,iz r fs];exact q
 ·obtain⟨KN,r,pl,hz⟩:=I.tuple hq;refine SeqAt.notIn_tupleAt (qr x) pl (λw hw=>gx rx fx r fs w<|by simpa using hw) ⟨.bl _,H,I,rfl,?_⟩;rw[show KN.toArray.any (qr x)=KN.any (qr x) by simp,iz r fs];exact q
theorem cE:dJ X (.type "list") (λxs H Q=>∃p ys,xs=[.ref p]/\(SqL X.K H p ys\/SqT X.K H p ys)/\∀l,H l=IV->Q (.ref l) (upd H l<|.lst ys)):=by
 intro IT s σ H xs us Q I r h;obtain⟨p,ys,rfl,hq,q⟩:=h;obtain⟨u,rfl,rx⟩:=eZ r;cases rx;have fin:∀KN,Vals ys KN->ys.length<=sizeLine->∀h' c',(∀b o',s.heap.get? b=B' o'->h'.get? b=B' o')->
   h'.get? s.heap.objs.size=B' {cls:=.type "list",dict:=IV,data:=.seq KN.toArray c',slots:=#[]}->EP X IT σ Q (.ref s.heap.objs.size) {s with heap:=h'}:=λKN r' hz h' c' kp e=>
  ⟨.ref s.heap.objs.size,_,I.laid (t':=s.toks) kp (IX _) (show ObjOk X.prog X.w _ h' _ (.lst ys)from⟨hz,KN,c',r',e⟩),rfl,q _<|I.hok.fresh<|IX _⟩
 obtain hq|hq:=hq
 ·obtain⟨KN,r',pl,hz⟩:=I.list hq;have Lx:=r'.length;obtain⟨o,ho,hc,n,hd⟩:=pl.isList;exact W5 p (.inl rfl) ho hc hd (λh' c' kp e=>fin KN r' hz h' c' kp e) (by simp only [Jn]<;>lia)
 ·obtain⟨KN,r',pl,hz⟩:=I.tuple hq;have Lx:=r'.length;obtain⟨o,ho,hc,n,hd⟩:=pl;exact W5 p (.inr rfl) ho hc hd (λh' c' kp e=>fin KN r' hz h' c' kp e) (by simp only [Jn]<;>lia)
theorem cN:dJ X (.type "tuple") (λxs H Q=>∃p ys,xs=[.ref p]/\((SqL X.K H p ys/\∀l,H l=IV->Q (.ref l) (upd H l<|.tup ys))\/(SqT X.K H p ys/\Q (.ref p) H))):=by
 intro IT s σ H xs us Q I r h;obtain⟨p,ys,rfl,h⟩:=h;obtain⟨u,rfl,rx⟩:=eZ r;cases rx;obtain⟨hq,q⟩|⟨hq,q⟩:=h
 ·obtain⟨KN,r',pl,hz⟩:=I.list hq;have Lx:=r'.length;refine call_tuple_list pl.isList (λh' kp=>?_) (by simp only [Jn]<;>lia);have I1:Inv X IT σ H {s with heap:=h'}:=I.kept (t':=s.toks) kp;have I2:Inv X IT σ (upd H h'.objs.size<|.tup ys) {s with heap:=h'.push {cls:=.type "tuple",data:=.seq KN.toArray}}:=
   I1.laid (t':=s.toks) (λb o e=>IP _ e) (IX _) (show ObjOk X.prog X.w _ _ _ (.tup ys)from⟨hz,KN,r',aab _ _⟩)
  exact⟨.ref h'.objs.size,_,I2,rfl,q _<|I1.hok.fresh<|IX _⟩
 ·obtain⟨KN,r',pl,hz⟩:=I.tuple hq;exact call_tuple_same pl ⟨.ref p,H,I,rfl,q⟩
def Ii(K:IJ)(T:LA)(x:V)(H:Hp):Prop:=match x with
 |.str _=>T="str"
 |.int _=>T="int"
 |.ref p=>(T="list"/\∃xs,SqL K H p xs)\/(T="tuple"/\∃o,K.lookup p=B' o/\o.cls=.type "tuple"/\o.dict=IV)\/
   (T="dict"/\((∃kvs,H p=B' (.dK kvs))\/∃kvs,H p=B' (.dT kvs)))\/(T="set"/\∃S n,H p=B' (.set S n))
 |_=>False
theorem Da(I:Inv X IT σ H s)(r:RelV x v)(ty:Ii X.K T x H):
  s.TypeIs v T/\∀a,v=.ref a->∃ob,s.heap.get? a=B' ob/\ob.dict=none:=by
 cases x with
 |str z=>
  obtain⟨t,rfl⟩:=r;cases(show T="str" from ty);exact⟨typeIs_str s z t,λ_ e=>nomatch e⟩
 |int i=>
  obtain⟨t,rfl⟩:=r;cases(show T="int" from ty);exact⟨typeIs_int s i t,λ_ e=>nomatch e⟩
 |ref p=>
  cases r;obtain⟨rfl,xs,hq⟩|⟨rfl,o,hk,hc,hd⟩|⟨rfl,hk⟩|⟨rfl,S,n,hk⟩:=ty
  ·obtain⟨KN,_,pl,_⟩:=I.list hq;refine⟨pl.isList.typeIs,λa e=>?_⟩;cases e;obtain⟨o,n,e,c,hd,_⟩:=pl;exact⟨o,e,hd⟩
  ·refine⟨⟨o,I.kIn p o hk,hc⟩,λa e=>?_⟩;cases e;exact⟨o,I.kIn _ o hk,hd⟩
  ·have z:∃o,s.heap.get? p=B' o/\o.ExactDict:=by
    obtain⟨kvs,hk⟩|⟨kvs,hk⟩:=hk
    ·obtain⟨_,_,_,_,o,_,_,e,ex,_⟩:=I.hok p _ hk;exact⟨o,e,ex⟩
    ·obtain⟨_,_,_,_,o,_,_,e,ex,_⟩:=I.hok p _ hk;exact⟨o,e,ex⟩
   obtain⟨o,e,ex⟩:=z;refine⟨⟨o,e,ex.1⟩,λa e2=>?_⟩;cases e2;exact⟨o,e,ex.2.1⟩
  ·obtain⟨o,_,_,_,e,ex,_⟩:=I.hok p _ hk;refine⟨⟨o,e,ex.1⟩,λa e2=>?_⟩;cases e2;exact⟨o,e,ex.2.1⟩
 |_=>exact Ld ty
def Hz(K:IJ)(T:LA)(r:V->IG V->Hp->VK->Prop)(to:TE)(t:TA):TE:=λσ H Q=>to σ H λx H1=>Ii K T x H1/\t σ H1 λxs H2=>r x xs H2 Q
variable {o e:Km}{es:IG Km}{to:TE}{t:TA}{name:Str}{Tf Pk:Pos}{T id:LA}{r:V->IG V->Hp->VK->Prop}
theorem d_(pa:PlainAttrs T)(slot:Slot T name id)(hty:typeOf (.builtin id)=pure (.type "method_descriptor"))(hm:Ig X id r)(ho:PE X o to)(ha:PA X (e::es) t)
  (Ys:QQ o name X.env (LN o X.env)=LN o X.env:=by rfl)
  (af6:((MF Pk<|JI (e::es) X.env).all (λx=>!x.1)&&(Yz Pk<|Vo [] X.env).all (λx=>x.1.isSome)
   &&decide ((e::es).length+([]:IG VX).length+(if([]:IG VX).isEmpty then 0 else 1) < 30))=true:=by rfl)
  (adO:(Tf.endLine == Pk.line)=true:=by rfl) (hs:JI (e::es) X.env=(IU,LN e X.env)::JI es X.env:=by rfl) (acb:(MF Pk<|JI es X.env).any (·.1)=false:=by rfl):
  PE X (.Call (.Attribute o name Tf) (e::es) [] Pk) (Hz X.K T r to t):=by
 intro IT s σ H Q I h;refine wpAny_Call_method_late Ys af6 adO rfl<|bT (ho IT s σ H _ I h) λv s1 ⟨x,H1,I1,r1,ty,q1⟩=>?_;obtain⟨h1,h2⟩:=Da I1 r1 ty;exists T,id,pa,slot,hty,h1,h2;have hA:=ha Pk IT s1 σ H1 _ I1 q1;rw[hs]at hA ⊢;refine OR (by show(IU || (MF Pk<|JI es X.env).any (·.1))=IU;rw[acb]<;>rfl)<|NV ?_;exact bT hA λus s2 ⟨vs,H2,I2,r2,q2⟩=>hm IT s2 σ H2 x vs v us Q I2 r1 r2 q2
end
def Ij(X:Cx)(id:LA)(r:V->IG V->Hp->VK->Prop):Prop:=
 ∀(IT:IG (IL×Obj)) (s:IM) (σ:St) (H:Hp) (x:V) (xs:IG V) (v:IH) (us:IG IH) (Q:VK),Inv X IT σ H s->RelV x v->Vals xs us->r x xs H Q->
  wpAny (Ju X.prog X.w) X.A (call (.builtin id)<|v::us) (EP X IT σ Q) X.xe s
theorem Vals.one:∀{x:V} {us:IG IH},Vals [x] us->∃u,us=[u]/\RelV x u
 |_,_,.cons r .nil=>⟨_,rfl,r⟩
theorem Vals.two:∀{x y:V} {us:IG IH},Vals [x,y] us->∃u v,us=[u,v]/\RelV x u/\RelV y v
 |_,_,_,.cons r (.cons q .nil)=>⟨_,_,rfl,r,q⟩
section
variable {X:Cx}{IT:IG (IL×Obj)}{σ:St}{H:Hp}{s:IM}{l b:IL}{xs ys zs:IG V}
theorem Inv.lset{KN its':IG IH}{n:Nat}{f:J4 IH->J4 IH}{t':Nat}(I:Inv X IT σ H s)(hH:H l=B' (.lst xs))
  (e:s.heap.get? l=B' {cls:=.type "list",data:=.seq KN.toArray n}) (hf:f KN.toArray=its'.toArray) (hv:Vals ys its') (hz:ys.length<=sizeLine):
  Inv X IT σ (upd H l<|.lst ys) {s with heap:=s.heap.update l<|Lb f,toks:=t'}:=by
 have q:=Z8 e f;rw[hf]at q;refine I.write (x:=l) (e:=l) (by rw[hH];exact trivial) (.inl rfl) (λb' u hb hu=>(JR s.heap (Lb f)<|Lq hb).trans hu) ⟨_,q⟩ ?_;exact⟨hz,its',_,hv,q⟩
theorem Inv.lnew{t':Nat}(I:Inv X IT σ H s)(hv:Vals ys KN)(hz:ys.length<=sizeLine):
  Inv X IT σ (upd H s.heap.objs.size<|.lst ys) {s with heap:=s.heap.push {cls:=.type "list",data:=.seq KN.toArray},toks:=t'}:=
 I.laid (λ_ _ q=>IP _ q) (IX _) ⟨hz,KN,0,hv,JB _ rfl⟩
theorem Inv.fresh(I:Inv X IT σ H s):H s.heap.objs.size=none:=I.hok.fresh<|IX _
theorem Inv.lstM(I:Inv X IT σ H s)(hH:H l=B' (.lst xs)):xs.length<=sizeLine/\∃KN n,Vals xs KN/\xs.length=KN.length/\s.heap.get? l=B' {cls:=.type "list",data:=.seq KN.toArray n}:=by
 obtain⟨z,KN,n,r,e⟩:=I.hok l _ hH;exact⟨z,KN,n,r,r.length,e⟩
end
section
variable {X:Cx}
inductive Fg (x:V)(vs:IG V)(H:Hp)(Q:VK):Prop
 |mk (l:IL)(xs:IG V)(y:V)(hx:x=.ref l)(hv:vs=[y])(h:H l=B' (.lst xs))(z:xs.length < sizeLine)(q:Q .non (upd H l<|.lst<|xs++[y])):Fg x vs H Q
def nq:V->IG V->Hp->VK->Prop:=λx vs H Q=>Fg x vs H Q
theorem bM:Ij X "list.append" nq:=by
 intro IT s σ H x vs v us Q I rx rv h;obtain⟨l,xs,y,rfl,rfl,hH,hz,q⟩:=h;cases rx;obtain⟨u,rfl,ru⟩:=rv.one;obtain⟨z,KN,n,r,hl,e⟩:=I.lstM hH;refine Wg J3 ⟨_,e,rfl⟩ F.entry_list_append (F.args_list_append_2 _ _) (PySem.list_append l KN.toArray n u<|by rw[Jn];lia) ⟨e,?_⟩;refine⟨.non,_,I.lset (its':=KN++[u]) hH e (by simp) (r.append<|.cons ru .nil) ?_,rfl,q⟩;rw[I_,JW];lia
def HA:R2:=λx y H Q=>∃l b xs zs,x=.ref l/\y=.ref b/\H l=B' (.lst xs)/\H b=B' (.lst zs)/\xs.length+zs.length<=sizeLine/\∀p,H p=IV->Q (.ref p) (upd H p<|.lst<|xs++zs)
theorem iW:OpR X (Nz .Add) HA:=by
 intro IT s σ H x y v u Q I rx ry h;obtain⟨l,b,xs,zs,rfl,rfl,hH,hB,hz,q⟩:=h;cases rx;cases ry;obtain⟨z,KN,n,r,hl,e⟩:=I.lstM hH;obtain⟨z2,aat,n2,r2,Xs,e2⟩:=I.lstM hB;refine PySem.P.add_list e e2 ?_ (by rw[Jn,Jn];lia);have ea:KN.toArray++aat.toArray=(KN++aat).toArray:=by simp
 rw[ea];exact⟨.ref _,_,I.lnew (t':=s.toks) (r.append r2) (by rw[I_];lia),rfl,q _ I.fresh⟩
end
section
variable {κ:Type} [Nb κ]
def cn(kvs:IG (κ×V))(k:κ):IQ V:=(kvs.find? λkv=>decide (kv.1=k)).map (·.2)
def bX(kvs:IG (κ×V))(k:κ)(v:V):IG (κ×V):=
 if(kvs.any λkv=>decide (kv.1=k))=IS then kvs.map (λkv=>if kv.1=k then(kv.1,v)else kv)else kvs++[(k,v)]
theorem cK{p:κ×V}{r:IG (κ×V)}{k:κ}(e:p.1=k):cn (p::r) k=B' p.2:=by simp [cn,LR,e]
theorem cL{p:κ×V}{r:IG (κ×V)}{k:κ}(e:¬p.1=k):cn (p::r) k=cn r k:=by simp [cn,LR,e]
theorem gy(k:κ):∀kvs,(kvs.any λkv=>decide (kv.1=k))=(cn kvs k).isSome
 |[]=>rfl
 |p::r=>by
  rw[Ni];by_cases e:p.1=k
  ·simp only [cK e,Jj e,Yb,TU]
  ·rw[cL e,IW e,Xn];exact gy k r
theorem oP(k j:κ)(y:V):∀kvs,cn (kvs.map λkv=>if kv.1=k then(kv.1,y)else kv) j=(cn kvs j).map λx=>if j=k then y else x
 |[]=>rfl
 |p::r=>by
  have ih:=oP k j y r;rw[J'];by_cases h:p.1=k
  ·rw[JF h];by_cases e:p.1=j
   ·rw[cK (p:=(p.1,y)) e,cK e,Oq,JF<|e.symm.trans h]
   ·rw[cL (p:=(p.1,y)) e,cL e,ih]
  ·rw[JD h];by_cases e:p.1=j
   ·rw[cK (p:=p) e,cK e,Oq,JD λz=>h<|e.trans z]
   ·rw[cL (p:=p) e,cL e,ih]
theorem lU(k j:κ)(y:V):∀kvs,cn kvs k=IV->cn (kvs++[(k,y)]) j=if j=k then B' y else cn kvs j
 |[],_=>by
  by_cases e:k=j
  ·rw[JF e.symm];exact cK (p:=(k,y)) e
  ·rw[JD λz=>e z.symm];exact cL (p:=(k,y)) e
 |p::r,hn=>by
  rw[List.cons_append];have hk:¬p.1=k:=λz=>by rw[cK z]at hn;cases hn
  rw[cL hk]at hn;have ih:=lU k j y r hn;by_cases e:p.1=j
  ·rw[cK e,cK e,JD λz=>hk<|e.trans z]
  ·rw[cL e,cL e,ih]
theorem j5(kvs:IG (κ×V))(k j:κ)(y:V):cn (bX kvs k y) j=if j=k then B' y else cn kvs j:=by
 unfold bX;by_cases a:(kvs.any λkv=>decide (kv.1=k))=IS
 ·rw[JF a,oP];rw[gy]at a;by_cases e:j=k
  ·obtain⟨x,hx⟩:=Ol.mp a;rw[JF e,e,hx,Oq,JF rfl]
  ·rw[JD e];cases cn kvs j with
   |none=>rfl
   |some x=>rw[Oq,JD e]
 ·rw[JD a];refine lU k j y kvs ?_;rw[gy]at a;cases q:cn kvs k with
  |none=>rfl
  |some x=>rw[q]at a;exact(a rfl).elim
theorem cx(kvs:IG (κ×V))(k:κ)(v:V):(bX kvs k v).length<=kvs.length+1:=by
 unfold bX
 split
 ·rw[IR];lia
 ·rw[I_,JJ,Lg];lia
theorem j6{kvs:IG (κ×V)}{k:κ}(v:V)(h:cn kvs k=IV):bX kvs k v=kvs++[(k,v)]:=by
 unfold bX;rw[gy,h];exact JD (by decide)
theorem RelO.isSome_eq(r:RelO o u):o.isSome=u.isSome:=by
 cases o with
 |none=>cases u with
  |none=>rfl
  |some _=>exact(show False from r).elim
 |some _=>cases u with
  |none=>exact(show False from r).elim
  |some _=>rfl
theorem KV.val(r:KV kvs vs)(k:κ):RelO (cn kvs k) (Qq vs k):=by
 unfold KV at r
 induction r with
 |nil=>exact LS
 |@cons p q ps qs h t ih=>
  obtain⟨h1,h2⟩:=h;by_cases e:p.1=k
  ·have e':q.1=k:=h1.symm.trans e;have b:Qq (q::qs) k=B' q.2:=by simp [Qq,LR,e']
   rw[cK e,b];exact h2
  ·have e':¬q.1=k:=λz=>e<|h1.trans z;have b:Qq (q::qs) k=Qq qs k:=by simp [Qq,LR,e']
   rw[cL e,b];exact ih
theorem KV.any(r:KV kvs vs)(k:κ):(kvs.any λkv=>decide (kv.1=k))=vs.any λkv=>decide (kv.1=k):=by
 unfold KV at r
 induction r with
 |nil=>rfl
 |cons h t ih=>rw[Ni,Ni,ih,h.1]
theorem KV.repl(r:KV kvs vs)(k:κ)(ry:RelV y u):
  KV (kvs.map λkv=>if kv.1=k then(kv.1,y)else kv) (vs.map λkv=>if kv.1=k then(kv.1,u)else kv):=by
 unfold KV at r ⊢
 induction r with
 |nil=>exact .nil
 |@cons p q ps qs h t ih=>
  rw[J',J'];refine .cons ?_ ih;obtain⟨h1,h2⟩:=h;by_cases e:p.1=k
  ·rw[JF e,JF<|h1.symm.trans e];exact⟨h1,ry⟩
  ·rw[JD e,JD λz=>e<|h1.trans z];exact⟨h1,h2⟩
theorem KV.put(r:KV kvs vs)(k:κ)(ry:RelV y u):KV (bX kvs k y) (stored vs k u):=by
 unfold bX stored;rw[r.any k];by_cases e:(vs.any λkv=>decide (kv.1=k))=IS
 ·rw[JF e,JF e];exact r.repl k ry
 ·rw[JD e,JD e];exact Paired.snoc r ⟨rfl,ry⟩
theorem KV.length{kvs:IG (κ×V)}{vs:IG (κ×IH)}(r:KV kvs vs):kvs.length=vs.length:=Paired.length r
end
theorem iA(r:RelV (kV k) u):(bi P w).is k u=true:=by
 cases k with
 |inl i=>obtain⟨t,e⟩:=(show∃t,u=Np i t from r);subst e;exact oC P w i t
 |inr x=>obtain⟨t,e⟩:=(show∃t,u=U_ x t from r);subst e;exact oE P w x t
theorem lV:∀{ks:IG bv} {us:IG IH},Vals (ks.map kV) us->ItemsAre (bi P w) ks us
 |[],_,r=>by rw[PZ]at r;cases r;exact .nil
 |k::ks,_,r=>by
  rw[J']at r;cases r with
  |cons h t=>exact .cons (iA h)<|lV t
abbrev KT(H:Hp):IG (IG bv×V)->IG (IG bv×IL×IH)->Prop:=Paired λp q=>p.1=q.1/\H q.2.1=B' (.tup<|p.1.map kV)/\RelV p.2 q.2.2
theorem KT.val(r:KT H kvs xs)(k:IG bv):RelO (cn kvs k) ((PH xs k).map (·.2)):=by
 induction r with
 |nil=>exact LS
 |@cons p q ps qs h t ih=>
  obtain⟨h1,_,h2⟩:=h;by_cases e:p.1=k
  ·have e':q.1=k:=h1.symm.trans e;have b:PH (q::qs) k=B' q.2:=by simp [PH,LR,e']
   rw[cK e,b];exact h2
  ·have e':¬q.1=k:=λz=>e<|h1.trans z;have b:PH (q::qs) k=PH qs k:=by simp [PH,LR,e']
   rw[cL e,b];exact ih
theorem KT.repl(r:KT H kvs xs)(k:IG bv)(ry:RelV y u):
  KT H (kvs.map λkv=>if kv.1=k then(kv.1,y)else kv) (xs.map<|putAt k u):=by
 induction r with
 |nil=>exact .nil
 |@cons p q ps qs h t ih=>
  rw[J',J'];refine .cons ?_ ih;obtain⟨h1,h2,h3⟩:=h;unfold putAt;by_cases e:p.1=k
  ·rw[JF e,JF<|h1.symm.trans e];exact⟨h1,h2,ry⟩
  ·rw[JD e,JD λz=>e<|h1.trans z];exact⟨h1,h2,h3⟩
theorem KT.put(r:KT H kvs xs)(k:IG bv)(hb:H b=B' (.tup<|k.map kV))(ry:RelV y u):
  KT H (bX kvs k y) (OL xs k b u):=by
 have e:(kvs.any λkv=>decide (kv.1=k))=(PH xs k).isSome:=by
  rw[gy,(r.val k).isSome_eq,QB]
 unfold bX OL;rw[e];by_cases q:(PH xs k).isSome=IS
 ·rw[JF q,JF q];exact r.repl k ry
 ·rw[JD q,JD q];exact Paired.snoc r ⟨rfl,hb,ry⟩
theorem KT.keeps(r:KT H kvs xs)(ht:∀b ys,H b=B' (.tup ys)->H' b=B' (.tup ys)):KT H' kvs xs:=
 Paired.mapP r λ_ _ z=>⟨z.1,ht _ _ z.2.1,z.2.2⟩
section
variable {P:Jc}{w:Jv}{H:Hp}{h:JM}{a:IL}
theorem Bz(ok:HOk P w H h)(e:Rd H a u):ObjOk P w H h a u:=e.ok ok
theorem jn(ok:HOk P w H h)(e:Rd H a (.dK kvs)):kvs.length<=sizeLine/\(a == Mb)=IU/\∃vs,KV kvs vs/\h.DictOf (bi P w) a vs:=
 show ObjOk P w H h a (.dK kvs)from Bz ok e
theorem BA(ok:HOk P w H h)(e:H a=B' (.dK kvs)):kvs.length<=sizeLine/\(a == Mb)=IU/\∃vs,KV kvs vs/\h.DictOf (bi P w) a vs:=jn ok<|.inl e
theorem gz(ok:HOk P w H h)(e:H a=B' (.tup<|ks.map kV)):(Lp<|bi P w).is h ks a:=by
 obtain⟨_,KN,r,o,h1,h2,n,h3⟩:=(show ObjOk P w H h a (.tup<|ks.map kV)from ok a _ e);exact⟨o,KN.toArray,n,h1,h2,h3,by simpa using lV r⟩
theorem jo(ok:HOk P w H h)(e:Rd H a (.dT kvs)):kvs.length<=sizeLine/\(a == Mb)=IU/\
  ∃xs,KT H kvs xs/\h.DictOfH (Lp<|bi P w) a xs:=by
 obtain⟨z,y,xs,r,o,es,ep,h1,h2,h3,h4,h5⟩:=(show ObjOk P w H h a (.dT kvs)from Bz ok e);refine⟨z,y,xs,r,o,es,ep,h1,h2,h3,h4,λx hx=>?_,h5⟩;have all:∀{l:IG (IG bv×V)} {m:IG (IG bv×IL×IH)},KT H l m->∀x∈m,(Lp<|bi P w).is h x.1 x.2.1:=by
  intro l m q
  induction q with
  |nil=>intro x hx;exact nomatch hx
  |@cons p q ps qs hq t ih=>
   intro x hx;obtain e|hx:=JC.mp hx
   ·subst e;exact gz ok (by rw[<-hq.1];exact hq.2.1)
   ·exact ih x hx
 exact all r x hx
theorem Fh(ok:HOk P w H h)(e:H a=B' (.dT kvs)):kvs.length<=sizeLine/\(a == Mb)=IU/\
  ∃xs,KT H kvs xs/\h.DictOfH (Lp<|bi P w) a xs:=jo ok<|.inl e
end
def DGet(H:Hp)(a:IL)(y:V)(r:IQ V):Prop:=
 (∃kvs k,Rd H a (.dK kvs)/\y=kV k/\r=cn kvs k)\/∃kvs k b,Rd H a (.dT kvs)/\y=.ref b/\H b=B' (.tup<|k.map kV)/\r=cn kvs k
def DPut(H:Hp)(a:IL)(y v:V)(H':Hp):Prop:=
 (∃kvs k,H a=B' (.dK kvs)/\y=kV k/\kvs.length < sizeLine/\H'=upd H a (.dK<|bX kvs k v))\/
 ∃kvs k b,H a=B' (.dT kvs)/\y=.ref b/\H b=B' (.tup<|k.map kV)/\kvs.length < sizeLine/\H'=upd H a (.dT<|bX kvs k v)
theorem DGet.k{H:Hp}{a:IL}{kvs:IG (bv×V)}{k:bv}(e:H a=B' (.dK kvs)):DGet H a (kV k) (cn kvs k):=.inl ⟨kvs,k,.inl e,rfl,rfl⟩
theorem DGet.t{H:Hp}{a b:IL}{kvs:IG (IG bv×V)}{k:IG bv}(e:H a=B' (.dT kvs))(eb:H b=B' (.tup<|k.map kV)):DGet H a (.ref b) (cn kvs k):=.inr ⟨kvs,k,b,.inl e,rfl,eb,rfl⟩
theorem DPut.k{H:Hp}{a:IL}{kvs:IG (bv×V)}{k:bv}{v:V}(e:H a=B' (.dK kvs))(hl:kvs.length < sizeLine):DPut H a (kV k) v (upd H a<|.dK<|bX kvs k v):=.inl ⟨kvs,k,e,rfl,hl,rfl⟩
theorem DPut.t{H:Hp}{a b:IL}{kvs:IG (IG bv×V)}{k:IG bv}{v:V}(e:H a=B' (.dT kvs))(eb:H b=B' (.tup<|k.map kV))(hl:kvs.length < sizeLine):
  DPut H a (.ref b) v (upd H a<|.dT<|bX kvs k v):=.inr ⟨kvs,k,b,e,rfl,eb,hl,rfl⟩
section
variable {X:Cx}{IT:IG (IL×Obj)}{σ:St}{H:Hp}{s:IM}{a:IL}{y v:V}{u r:IH}{o:IQ V}{A:JV}{E:IH->IM->Prop}
theorem Inv.big(I:Inv X IT σ H s):Mb < s.heap.objs.size:=by
 have h:Ja < s.heap.objs.size:=(I.mod.glob.keeps I.bk).lt;exact PX (by decide) h
theorem uj(hu:A.units+1 < Mt)(I:Inv X IT σ H s)(g:DGet H a y (B' v))(ry:RelV y u)(h:∀w' s',Inv X IT σ H s'->RelV v w'->Q w' s'):
  wpAny (Ju X.prog X.w) A (Uq (.ref a) u) Q E s:=by
 obtain⟨kvs,k,e,ey,l⟩|⟨kvs,k,b,e,ey,eb,l⟩:=g
 ·subst ey;obtain⟨z,hd,vs,QI,dd⟩:=jn I.hok e;obtain⟨w',hw,Y5⟩:=RelO.some_of (v:=v) (o:=Qq vs k) (by rw[l];exact QI.val k);exact wpAny_getItem_of (iA ry) dd.mapOf hw<|h w' _ (I.tok _) Y5
 ·subst ey;cases(show u=JS b from ry);obtain⟨z,hd,xs,QI,dd⟩:=jo I.hok e;obtain⟨w',hw,Y5⟩:=RelO.some_of (v:=v) (o:=(PH xs k).map (·.2)) (by rw[l];exact QI.val k);obtain⟨p,hp,Vx⟩:=KP.mp hw;refine wpAny_getItem_heap (MZ hu) (gz I.hok eb) dd hp ?_;rw[Vx];exact h w' _ (I.tok _) Y5
theorem HB(hu:A.units+1 < Mt)(I:Inv X IT σ H s)(g:DGet H a y o)(ry:RelV y u)(h:∀s',Inv X IT σ H s'->Q (.bool o.isSome) s'):
  wpAny (Ju X.prog X.w) A (KR .In u<|.ref a) Q E s:=by
 obtain⟨kvs,k,e,ey,l⟩|⟨kvs,k,b,e,ey,eb,l⟩:=g
 ·subst ey;obtain⟨z,hd,vs,QI,dd⟩:=jn I.hok e;refine wpAny_in_of (iA ry) hd dd.mapOf ?_;rw[<-(QI.val k).isSome_eq,<-l];exact h _<|I.tok _
 ·subst ey;cases(show u=JS b from ry);obtain⟨z,hd,xs,QI,dd⟩:=jo I.hok e;refine wpAny_in_heap (MZ hu) (gz I.hok eb) hd dd ?_;have q:=(QI.val k).isSome_eq;rw[QB]at q;rw[<-q,<-l];exact h _<|I.tok _
theorem zA(hu:A.units+1 < Mt)(I:Inv X IT σ H s)(g:DGet H a y o)(ry:RelV y u)(h:∀s',Inv X IT σ H s'->Q (.bool (!o.isSome)) s'):
  wpAny (Ju X.prog X.w) A (KR .NotIn u<|.ref a) Q E s:=by
 obtain⟨kvs,k,e,ey,l⟩|⟨kvs,k,b,e,ey,eb,l⟩:=g
 ·subst ey;obtain⟨z,hd,vs,QI,dd⟩:=jn I.hok e;refine wpAny_notIn_of (iA ry) hd dd.mapOf ?_;rw[<-(QI.val k).isSome_eq,<-l];exact h _<|I.tok _
 ·subst ey;cases(show u=JS b from ry);obtain⟨z,hd,xs,QI,dd⟩:=jo I.hok e;refine wpAny_notIn_heap (MZ hu) (gz I.hok eb) hd dd ?_;have q:=(QI.val k).isSome_eq;rw[QB]at q;rw[<-q,<-l];exact h _<|I.tok _
theorem iB{t':Nat}(I:Inv X IT σ H s)(mu:EE (H a))(hs:M' a s.heap h')(he:∃q,h'.get? a=B' q)(new:ObjOk X.prog X.w (upd H a ob) h' a ob):
  Inv X IT σ (upd H a ob) {s with heap:=h',toks:=t'}:=
 I.write (x:=a) (e:=a) mu (.inl rfl) (λb q hb z=>(hs.2 b hb).trans z) he new
theorem ny{H':Hp}(z:kvs.length<=sizeLine)(hd:(a == Mb)=IU)(QI:KV kvs vs)(dd:h'.DictOf (bi P w) a vs):
  ObjOk P w H' h' a (.dK kvs):=⟨z,hd,vs,QI,dd⟩
theorem uk(hu:A.units+1 < Mt)(I:Inv X IT σ H s)(g:DPut H a y v H')(ry:RelV y u)(rv:RelV v r)(h:∀s',Inv X IT σ H' s'->Q () s'):
  wpAny (Ju X.prog X.w) A (setItem (.ref a) u r) Q E s:=by
 obtain⟨kvs,k,e,ey,l,eH⟩|⟨kvs,k,b,e,ey,eb,l,eH⟩:=g
 ·subst ey eH;obtain⟨z,hd,vs,QI,dd⟩:=BA I.hok e;have hz:vs.length<=sizeLine:=by rw[<-QI.length];exact z
  have hl:(bX kvs k v).length<=sizeLine:=by have:=cx kvs k v;lia
  refine wpAny_setItem_pairs (hsz:=hz) (iA ry) dd λh' ZD hs=>h _ ?_;have he:∃q,h'.get? a=B' q:=let ⟨q,_,_,hq,_⟩:=ZD;⟨q,hq⟩
  exact iB I (by rw[e];exact LS) hs he<|ny hl hd (QI.put k rv) ZD
 ·subst ey eH;cases(show u=JS b from ry);obtain⟨z,hd,xs,QI,dd⟩:=Fh I.hok e;have hz:xs.length<=sizeLine:=by rw[<-Paired.length QI];exact z
  have hl:(bX kvs k v).length<=sizeLine:=by have:=cx kvs k v;lia
  refine wpAny_setItem_heap (hsz:=hz) (MZ hu) (gz I.hok eb) dd λh' ZD hs=>h _ ?_;obtain⟨q,es,ep,hq,h2,h3,h4,_,h5⟩:=ZD;refine iB I (by rw[e];exact LS) hs ⟨q,hq⟩ ⟨hl,hd,_,(QI.put k eb rv).keeps λc ys ec=>?_,q,es,ep,hq,h2,h3,h4,h5⟩;rw[ao<|vy ec e λz=>nomatch z];exact ec
end
def Fi(i:Km):Prop:=∀ov iv,R6 i IU ov iv=operate [ov,iv] (Uq ov iv)
theorem zB{prog:Jc}{w:Jv}{A:JV}{E:IH->IM->Prop}{s:IM}{env:Env}{value QY:Km}{pos:Pos}{T id:LA}{Q:IH->IM->Prop}
  (hl:Tj (.type T) "__getitem__"=pure (B'<|.builtin id)) (hs:Fi QY)
  (h:wpAny (Ju prog w) A (LN value env) (λo s₁=>wpAny (Ju prog w) A (LN QY env) (λi s₂=>s₂.TypeIs o T/\wpAny (Ju prog w) A (Uq o i) Q E s₂) E s₁) E s):
  wpAny (Ju prog w) A (LN (.Subscript value QY pos) env) Q E s:=by
 refine TR<|J2 h (λo s₁ h₁=>J2 h₁ (λi s₂ h₂=>?_) λ_ _ x=>x) λ_ _ x=>x;obtain⟨hT,h₂⟩:=h₂;unfold QT;refine II ?_;rw[getitemInPython_of_ne hT.not_modules];refine II<|RK hT hl ?_;have fin:wpAny (Ju prog w) A (R6 QY IU o i) (λr s₃=>wpAny (Ju prog w) A (letTemporaryGo value o r >>=λ_=>pure r) Q E s₃) E s₂:=by
  rw[hs o i];exact wpAny_operating<|J2 h₂ (λr s₃ h₃=>II<|wpAny_letTemporaryGo<|I0 h₃) λ_ _ x=>x
 first
  |exact I0<|II fin
  |exact II<|I0<|II fin
  |exact II fin
theorem oQ(I:Inv X IT σ H s)(g:DGet H a y o):s.TypeIs (.ref a) "dict":=by
 obtain⟨kvs,k,e,_,_⟩|⟨kvs,k,b,e,_,_,_⟩:=g
 ·obtain⟨_,_,vs,_,dd⟩:=jn I.hok e;exact dd.typeIs
 ·obtain⟨_,_,xs,_,dd⟩:=jo I.hok e;exact dd.typeIs
def BB(td ty:TE):TE:=λσ H Q=>td σ H λx H1=>ty σ H1 λy H2=>∃a v,x=.ref a/\DGet H2 a y (B' v)/\Q v H2
def HC(ty td:TE):TE:=λσ H Q=>ty σ H λy H1=>td σ H1 λx H2=>∃a o,x=.ref a/\DGet H2 a y o/\Q (.bl o.isSome) H2
def zC(ty td:TE):TE:=λσ H Q=>ty σ H λy H1=>td σ H1 λx H2=>∃a o,x=.ref a/\DGet H2 a y o/\Q (.bl (!o.isSome)) H2
def Fj(td ty tv:TE):TS:=λD σ H=>tv σ H λv H1=>td σ H1 λx H2=>ty σ H2 λy H3=>∃a H4,x=.ref a/\DPut H3 a y v H4/\D.nx σ H4
section
variable {X:Cx}{o i e value:Km}{pos QJ abQ:Pos}{td ty tv:TE}
theorem cX(hu:X.A.units+1 < Mt)(ho:PE X o td)(hi:PE X i ty)(hs:Fi i):PE X (.Subscript o i pos) (BB td ty):=by
 intro IT s σ H Q I h;refine zB PySem.F.slot_dict_getitem.lookup hs<|bT (ho IT s σ H _ I h) λu s1 ⟨x,H1,I1,rx,q1⟩=>bT (hi IT s1 σ H1 _ I1 q1) λiv s2 ⟨y,H2,I2,ry,a,v,ex,g,q2⟩=>?_;subst ex;obtain rfl:u=JS a:=rx;exact⟨oQ I2 g,uj hu I2 g ry λw' s3 I3 Y5=>⟨v,H2,I3,Y5,q2⟩⟩
theorem Db(hu:X.A.units+1 < Mt)(hi:PE X i ty)(ho:PE X o td):PC X .In i o (HC ty td):=by
 intro IT s σ H Q I h;refine bT (hi IT s σ H _ I h) λiv s1 ⟨y,H1,I1,ry,q1⟩=>bT (ho IT s1 σ H1 _ I1 q1) λu s2 ⟨x,H2,I2,rx,a,ov,ex,g,q2⟩=>?_;subst ex;obtain rfl:u=JS a:=rx;exact HB hu I2 g ry λs3 I3=>⟨.bl ov.isSome,H2,I3,rfl,q2⟩
theorem ul(hu:X.A.units+1 < Mt)(hi:PE X i ty)(ho:PE X o td):PC X .NotIn i o (zC ty td):=by
 intro IT s σ H Q I h;refine bT (hi IT s σ H _ I h) λiv s1 ⟨y,H1,I1,ry,q1⟩=>bT (ho IT s1 σ H1 _ I1 q1) λu s2 ⟨x,H2,I2,rx,a,ov,ex,g,q2⟩=>?_;subst ex;obtain rfl:u=JS a:=rx;exact zA hu I2 g ry λs3 I3=>⟨.bl (!ov.isSome),H2,I3,rfl,q2⟩
theorem jH(hu:X.A.units+1 < Mt)(ho:PE X o td)(hi:PE X i ty)(hv:PE X value tv)(hs:P4 value (B'<|.Subscript o i QJ) pos.line X.env=pure IU):
  PS X (.Assign [.Subscript o i QJ] value pos) (Fj td ty tv):=by
 intro IT s σ H D I h;refine wpAny_Assign_Subscript (bT (hv IT s σ H _ I h) λr s1 ⟨v,H1,I1,rv,q1⟩=>bT (ho IT s1 σ H1 _ I1 q1) λu s2 ⟨x,H2,I2,rx,q2⟩=>bT (hi IT s2 σ H2 _ I2 q2) λiv s3 ⟨y,H3,I3,ry,a,H4,ex,g,q3⟩=>?_) hs;subst ex;obtain rfl:u=JS a:=rx;exact uk hu I3 g ry rv λs4 I4=>⟨σ,H4,I4,q3⟩
end
theorem oR(h:JM)(hb:Mb < h.objs.size):ObjOk P w H (h.push {cls:=.type "dict",data:=.dict #[]}) h.objs.size (.dK []):=
 ⟨Jw _,Li.mpr<|Lq<|Js hb,[],.nil,VG h⟩
theorem vL(h:JM)(hb:Mb < h.objs.size):ObjOk P w H (h.push {cls:=.type "dict",data:=.dict #[]}) h.objs.size (.dT []):=
 ⟨Jw _,Li.mpr<|Lq<|Js hb,[],.nil,_,#[],0,JB _ rfl,⟨rfl,rfl,rfl⟩,rfl,rfl,Sz⟩
def Dc:TE:=λ_ H Q=>∀p,H p=IV->Q (.ref p) (upd H p<|.dK [])
def Dd:TE:=λ_ H Q=>∀p,H p=IV->Q (.ref p) (upd H p<|.dT [])
section
variable {X:Cx}{pos:Pos}
theorem oS:PE X (.Dict [] [] pos) Dc:=λIT s σ H Q I h=>
 U1 ⟨.ref s.heap.objs.size,_,I.laid (a:=s.heap.objs.size) (o:=.dK []) (t':=s.toks) (λ_ _ q=>IP _ q) (IX _)<|oR s.heap I.big,rfl,h _<|I.hok.fresh<|IX _⟩
theorem vM:PE X (.Dict [] [] pos) Dd:=λIT s σ H Q I h=>
 U1 ⟨.ref s.heap.objs.size,_,I.laid (a:=s.heap.objs.size) (o:=.dT []) (t':=s.toks) (λ_ _ q=>IP _ q) (IX _)<|vL s.heap I.big,rfl,h _<|I.hok.fresh<|IX _⟩
end
def qt:IG (TE×TE)->St->Hp->(IG (V×V)->Hp->Prop)->Prop
 |[],_,H,Q=>Q [] H
 |(tk,tv)::r,σ,H,Q=>tk σ H λx H1=>tv σ H1 λy H2=>qt r σ H2 λps H3=>Q ((x,y)::ps) H3
abbrev VV:IG (V×V)->IG (IH×IH)->Prop:=Paired λp q=>RelV p.1 q.1/\RelV p.2 q.2
def GW(X:Cx)(pos:Pos)(PL:IG (IQ Km))(V0:IG Km)(trs:IG (TE×TE)):Prop:=
 ∀(IT:IG (IL×Obj)) (s:IM) (σ:St) (H:Hp) (Q:IG (V×V)->Hp->Prop),Inv X IT σ H s->qt trs σ H Q->
  wpAny (Ju X.prog X.w) X.A (evalPairs<|pairTrees PL V0 X.env pos) (λvs s'=>∃ps H',Inv X IT σ H' s'/\VV ps vs/\Q ps H') X.xe s
theorem rX:GW X pos [] [] []:=λIT s σ H Q I h=>pairTrees_nil_walk ⟨[],H,I,.nil,h⟩
theorem j7(hk:PE X k tk)(hv:PE X v tv)(hr:GW X pos ks vs trs):
  GW X pos (B' k::ks) (v::vs) ((tk,tv)::trs):=λIT s σ H Q I h=>
 pairTrees_cons_walk (bT (hk IT s σ H _ I h) λu s1 ⟨x,H1,I1,rx,q1⟩=>bT (hv IT s1 σ H1 _ I1 q1) λw2 s2 ⟨y,H2,I2,ry,q2⟩=>
  bT (hr IT s2 σ H2 _ I2 q2) λws s3 ⟨ps,H3,I3,QI,q3⟩=>⟨(x,y)::ps,H3,I3,.cons ⟨rx,ry⟩ QI,q3⟩)
def fF(kvs more:IG (bv×V)):IG (bv×V):=more.foldl (λM7 kv=>bX M7 kv.1 kv.2) kvs
theorem KV.merge:∀{more:IG (bv×V)} {rs:IG (bv×IH)} {kvs:IG (bv×V)} {vs:IG (bv×IH)},KV more rs->KV kvs vs->KV (fF kvs more) (Tn vs rs):=by
 intro more rs kvs vs r;unfold KV at r
 induction r generalizing kvs vs with
 |nil=>intro q;exact q
 |@cons p q ps qs h t ih=>
  intro r0;have e:KV (bX kvs p.1 p.2) (stored vs q.1 q.2):=by
   have:=r0.put p.1 h.2;rw[<-h.1];exact this
  exact ih e
theorem ib:∀more kvs,(fF kvs more).length<=kvs.length+more.length
 |[],kvs=>by show kvs.length<=kvs.length+0;lia
 |p::r,kvs=>by
  have h1:=ib r<|bX kvs p.1 p.2;have h2:=cx kvs p.1 p.2;show(fF (bX kvs p.1 p.2) r).length<=_
  rw[JJ];lia
theorem j8:∀{kvs:IG (bv×V)} {ws:IG (IH×IH)},VV (kvs.map λkv=>(kV kv.1,kv.2)) ws->∃rs,Carries (bi P w) ws rs/\KV kvs rs
 |[],_,r=>by rw[PZ]at r;cases r;exact⟨[],LS,.nil⟩
 |p::kvs,_,r=>by
  rw[J']at r;cases r with
  |@cons a b as bs h t=>
   obtain⟨rs,c,q⟩:=j8 (P:=P) (w:=w) t;obtain⟨b1,b2⟩:=b;exact⟨(p.1,b2)::rs,⟨iA h.1,rfl,c⟩,.cons ⟨rfl,h.2⟩ q⟩
def oU(trs:IG (TE×TE)):TE:=λσ H Q=>∀p,H p=IV->qt trs σ (upd H p<|.dK []) λps H2=>H2 p=B' (.dK [])/\∃kvs:IG (bv×V),ps=kvs.map (λkv=>(kV kv.1,kv.2))/\kvs.length<=15/\Q (.ref p) (upd H2 p<|.dK<|fF [] kvs)
theorem rY(h:GW X pos PL V0 trs)(QK:PL.all (·.isSome)=IS)(hl:PL.length=V0.length)(h0:PL≠[])
  (h15:PL.length<=15):PE X (.Dict PL V0 pos) (oU trs):=by
 intro IT s σ H Q I q;have hn:=I.hok.fresh<|IX s.heap.objs.size;have I1:=I.laid (a:=s.heap.objs.size) (o:=.dK []) (h':=s.heap.push {cls:=.type "dict",data:=.dict #[]}) (t':=s.toks) (λ_ _ q=>IP _ q) (IX _)<|oR s.heap I.big;refine wpAny_Dict_walk (knd:=bi X.prog X.w) QK hl h0 h15<|bT (h IT _ σ _ _ I1<|q _ hn) λws s2 ⟨ps,H2,I2,QI,e,kvs,ep,lk,q2⟩=>?_;subst ep;obtain⟨rs,c,rk⟩:=j8 (P:=X.prog) (w:=X.w) QI;obtain⟨z,hd,vs0,r0,dd⟩:=BA I2.hok e;cases r0;refine⟨rs,c,dd,λh' ZD hs=>⟨.ref s.heap.objs.size,_,?_,rfl,q2⟩⟩;have hz:(fF [] kvs).length<=sizeLine:=by
  have h1:=ib kvs [];rw[Lg]at h1;rw[KS];lia
 have he:∃q,h'.get? s.heap.objs.size=B' q:=let ⟨q,_,_,hq,_⟩:=ZD;⟨q,hq⟩
 exact iB I2 (by rw[e];exact LS) hs he<|ny hz hd (rk.merge .nil) ZD
structure M2 (X:Cx)(o:Km)(m:Str)(Tf:Pos)(e f:Km)(Pk:Pos):Prop where
 base:QQ o m X.env (LN o X.env)=LN o X.env
 few:((MF Pk<|JI [e,f] X.env).all (λx=>!x.1)&&(Yz Pk<|Vo [] X.env).all (λx=>x.1.isSome)
  &&decide (([e,f]:IG Km).length+([]:IG VX).length+(if([]:IG VX).isEmpty then 0 else 1) < 30))=IS
 line:(Tf.endLine == Pk.line)=IS
 trees:MF Pk (JI [e,f] X.env)=[(IU,LN e X.env),(IU,LN f X.env)]
def Ik(H:Hp)(a:IL):Prop:=(∃kvs,Rd H a<|.dK kvs)\/∃kvs,Rd H a<|.dT kvs
theorem De(I:Inv X IT σ H s)(d:Ik H a):
  s.TypeIs (.ref a) "dict"/\(∀b,JS a=.ref b->∃ob,s.heap.get? b=B' ob/\ob.dict=IV)/\(a == Mb)=false:=by
 obtain⟨kvs,e⟩|⟨kvs,e⟩:=d
 ·obtain⟨_,hd,vs,_,dd⟩:=jn I.hok e;refine⟨dd.typeIs,λb q=>?_,hd⟩;cases q;obtain⟨ob,_,_,h1,h2,_⟩:=dd;exact⟨ob,h1,h2.2.1⟩
 ·obtain⟨_,hd,xs,_,dd⟩:=jo I.hok e;refine⟨dd.typeIs,λb q=>?_,hd⟩;cases q;obtain⟨ob,_,_,h1,h2,_⟩:=dd;exact⟨ob,h1,h2.2.1⟩
end L2
namespace Att
open PySem PySem.W PySem.Calls PyProof.Rows
theorem jD:∀ns vs,WellAll P h vs (ns.map Z7)->M5 vs ns:=by
 intro ns
 induction ns with
 |nil=>
  intro vs w;rw[PZ]at w;cases w;exact .nil
 |cons n ns ih=>
  intro vs w;rw[J']at w;cases w with
  |cons a b=>
   cases a;exact .cons _ _<|ih _ b
theorem um{l:Pl}{n:Nat}(hn:l.most=B' n){P:X0}{h:JM}{args:IG WData}{abO:IG IH}
  (Y_:l.row.toRowW.claim.pre args=IS) (hwl:WellAll P h abO args):
  ∃a vs ns,abO=[JS a]/\args=[WData.list<|ns.map Z7]/\h.get? a=B' {cls:=.type "list",data:=.seq vs.toArray}/\M5 vs ns/\ns.length<=n:=by
 have WI:WShape.hasAll [] args [.list .int]=true:=(pre_splitW Y_).1;have hc:l.pre.holds [] {args:=args}=true:=(pre_splitW Y_).2;obtain⟨d,r,rfl,h1,h2⟩:=hasAllW_cons WI;obtain rfl:=hasAllW_nil h2;obtain⟨xs,rfl,h3⟩:=hasW_list h1;obtain⟨ns,rfl⟩:=items_int h3;have Lx:ns.length<=n:=by
  unfold OpenLaw.pre at hc;have h4:(WTm.not<|.lt (.lit<|.int (n:Int))<|.len<|.arg 0).holds [] {args:=[.list<|ns.map .int]}=true:=by
   have h4:=(holds_andW hc).1;rw[hn]at h4;exact h4
  have h5:=condW_of h4<|w_not<|w_lt w_lit<|w_len_list<|w_arg rfl;rw[IR]at h5;refine Nat.le_of_not_lt λq=>?_;have q':(n:Int) < ((ns.length:Nat):Int):=by lia
  first
   |(rw[Jj q']at h5;exact absurd h5<|by decide)
   |(simp at h5;lia)
 cases hwl with
 |cons w1 w2=>
  cases w2;cases w1 with
  |list ho QK=>exact⟨_,_,ns,rfl,rfl,ho,jD ns _ QK,Lx⟩
theorem uo(l:Pl)(args:IG WData):l.row.toRowW.claim.post args (.bool IS) args=true:=
 postW_of (r:=l.row.toRowW) (X:=(IS == IS))
  (show Zh [] (.bool IS) .bool=IS by first|rfl|decide|simp [Zh,WShape.arms,WShape.armsAll])
  (show(WTm.eq .res<|.lit<|.bool IS).value [] {args:=args,res:=B'<|.bool IS,after:=args}=B' (.bool<|IS == IS)from w_eq_bool (w_res rfl) w_lit) rfl
theorem attach_call{l:Pl}{n:Nat}{q:Jc}{loose:IG Str}{XP:(Str->IQ IH)->JM->Prop}{YP:Jv->JM->Prop}{d:DefRec}
  (hn:l.most=B' n) (hdf:d.params.defaults=[])
  (call:∀w s₀ s₁ mg mb fa o pm cd Ua a vs ns,
   Ground q loose [] XP w s₀ mg mb s₁.heap->YP w s₁.heap->
   s₁.heap.get? fa=B' o->o.data=.func (docDef d.name d.params d.body d.scope pm cd Ua)->s₁.heap.CodeRec cd d.name->mg d.name=B' (.ref fa)->
   s₁.heap.get? a=B' {cls:=.type "list",data:=.seq vs.toArray}->M5 vs ns->ns.length<=n->s₁.gens=#[]->
   codeAny (Ju l.prog w) SQ (.call (.ref fa) ⟨[.ref a],[]⟩) (λr s'=>r=.ok (.ret<|.bool IS)/\OldK s₁.heap s'.heap/\s'.os=s₁.os/\Pg s'.gens) s₁):
  U8 q loose XP YP l.row.toRowW d [] (λf vs=>Ts f vs):=by
 intro w s₀ s₁ mg mb G Y fa o pm cd Ua dV kV ho hd Xu hD hmg hg args abO as Y_ hlay hrd hwl hlo;obtain rfl:dV=.none:=Dflts.none hD hdf;obtain rfl:kV=.none:=Dflts.noKw hD;obtain⟨a,vs,ns,rfl,rfl,acf,Yn,Lx⟩:=um hn Y_ hwl;refine enter_call<|Nw (call w s₀ s₁ mg mb fa o pm cd Ua a vs ns G Y ho (fd_plain hd) Xu hmg acf Yn Lx hg) λr s' hq=>?_;obtain⟨rfl,h2,h3,h4⟩:=hq;exact⟨.inl ⟨.bool IS,.bool IS,[],rfl,λ_=>rfl,.bool IS,uo l _,λ_=>⟨QG,λ_ hm=>(nomatch hm)⟩⟩,h2,h3,h4⟩
end Att
namespace L2
open PySem PySem.Spec PyProof.Rows
theorem gX:∀{vs:IG IH} {ns:IG Int},M5 vs ns->Vals (ns.map V.int) vs
 |_,_,.nil=>.nil
 |_,_,.cons n t h=>.cons ⟨t,rfl⟩<|gX h
def Df(H:Hp):Prop:=∀b,H b=IV\/∃o xs,H b=B' (.frz o<|.lst xs)
theorem vN{P:Jc}{w:Jv}{K:IJ}{mg mb:Str->IQ IH}{CX:rV}{k:Nat}{fa a:IL}{fd:Jr}{x:Str}{sp:Sp}{s₁:IM}{vs:IG IH}{ns:IG Int}
  (KX:K.In s₁.heap) (hns:s₁.heap.Ns Ja mg) (hb:s₁.heap.Ns Wi mb) (hbb:∀x:Str,x≠"__name__"->mb x=OM x) (afQ:s₁.heap.NoLimit) (hg:s₁.gens=#[])
  (ha:s₁.heap.get? a=B' {cls:=.type "list",data:=.seq vs.toArray}) (hi:M5 vs ns) (hl:ns.length<=sizeLine) (hr:Room k SQ)
  (F:∀base:JM,K.In base->base.Ns Ja mg->FnOk P w K mg base CX k fa fd [x] sp) (ad5:∀(s:IM) (u:IH),UB s fd ⟨[u],[]⟩ [(x,u)])
  (Zu:∀H:Hp,Df H->SqL K H a (ns.map V.int)->sp [.ref a] H (λv _=>v=.bl IS) λ_ _ _=>False)
  (hCX:∀H e s',CX [] H s₁ (λ_ _ _=>False) e s'->False):
  codeAny (Ju P w) SQ (.call (.ref fa) ⟨[.ref a],[]⟩) (λr s'=>r=.ok (.ret<|.bool IS)/\OldK s₁.heap s'.heap/\s'.os=s₁.os/\Pg s'.gens) s₁:=by
 have rv:=gX hi;have aff:=hi.length;have ad_:∀H:Hp,Df H->SqL K H a (ns.map V.int)->HOk P w H s₁.heap->(∀b,H b≠IV->b=a)->(H a≠IV->K.lookup a=IV)->
   codeAny (Ju P w) SQ (.call (.ref fa) ⟨[.ref a],[]⟩) (λr s'=>r=.ok (.ret<|.bool IS)/\OldK s₁.heap s'.heap/\s'.os=s₁.os/\Pg s'.gens) s₁:=by
  intro H hO hS hok hA hK;have ZF:∀{b:IL} {o:Obj},s₁.heap.get? b=B' o->H b=IV->(m6 s₁.heap H).get? b=B' o:=λe n=>vz e n;have noA:∀{b:IL} {o:Obj} {es:J4 DictEntry} {ep:Nat},s₁.heap.get? b=B' o->o.data=.dict es ep->H b=none:=λ{b o es ep} e d=>by
   cases q:H b with
   |none=>rfl
   |some u=>
    have e':b=a:=hA b (by rw[q];simp);subst e';rw[ha]at e;cases e;have d':Data.seq vs.toArray _=aaa es ep:=d;cases d'
  have nsK:∀{b:IL} {m:Str->IQ IH},s₁.heap.Ns b m->(m6 s₁.heap H).Ns b m:=λ{b m} ⟨o,es,ep,e,d,r⟩=>⟨o,es,ep,ZF e<|noA e d,d,r⟩;have hKb:K.In (m6 s₁.heap H):=λb o e=>ZF (KX b o e) (by
   cases q:H b with
   |none=>rfl
   |some u=>
    have e':b=a:=hA b (by rw[q];simp);subst e';rw[hK<|by rw[q];simp]at e;cases e)
  have hM:Mod K mg (m6 s₁.heap H):=⟨hKb,nsK hns,⟨mb,nsK hb,hbb⟩,let ⟨mc,h1,h2⟩:=afQ;⟨mc,nsK h1,h2⟩⟩;have e0:Env0 P w K mg (m6 s₁.heap H) SQ [] s₁ H:=⟨rfl,hM,λb o e=>zp e,UK<|ua _ _,trivial,λb hb=>absurd (show b∈([]:IG IL)from hb) (by simp),hok,.of_eq hg⟩;refine Nw ((F _ hKb<|nsK hns).run SQ [] s₁ H ⟨[.ref a],[]⟩ [.ref a] [.ref a] _ _ hr e0 (ad5 s₁<|.ref a) (.cons rfl .nil)<|Zu H hO hS) λr s' h=>?_;cases r with
  |error e=>exact(hCX H e s' h).elim
  |ok fl=>
   cases fl with
   |next=>exact Ld h
   |brk=>exact Ld h
   |cont=>exact Ld h
   |ret u=>
    obtain⟨v,H',os,bare,un,afJ,r',q⟩:=h;have q':v=.bl true:=q;subst q';obtain rfl:u=Wn true:=r';refine⟨rfl,OldK.of_keep λb o e=>?_,os,bare⟩;cases q:H b with
    |none=>exact un.keep b o e q (by intro z;exact absurd (show b∈([]:IG IL)from z)<|by simp) (by simp)
    |some u=>
     obtain z|⟨ob,xs,z⟩:=hO b
     ·rw[q]at z;cases z
     ·have z2:=un.frzs b ob _ z;obtain⟨e1,_⟩:=hok b _ z;obtain⟨e2,_⟩:=afJ b _ z2;rw[e]at e1;cases e1;exact e2
 cases hk:K.lookup a with
 |some o=>
  have e:=KX a o hk;rw[ha]at e;cases e;refine ad_ (λ_=>IV) (λ_=>.inl rfl) (.inr ⟨_,vs.toArray,_,hk,rfl,rfl,rfl,by rw[Jn,aff];exact hl,by simpa using rv⟩) (λb u z=>by have z':(IV:IQ HO)=B' u:=z;cases z') (λb z=>absurd rfl z) λz=>absurd rfl z
 |none=>
  refine ad_ (λb=>if b=a then B' (.frz {cls:=.type "list",data:=.seq vs.toArray}<|.lst<|ns.map V.int)else IV) (λb=>?_) (.inl<|.inr ⟨{cls:=.type "list",data:=.seq vs.toArray},JF rfl⟩) (λb u z=>?_) (λb z=>?_) λ_=>hk
  ·by_cases hb:b=a
   ·exact .inr ⟨_,_,JF hb⟩
   ·exact .inl<|JD hb
  ·by_cases hb:b=a
   ·have z':=(JF hb).symm.trans z;cases z';subst hb;exact⟨ha,by rw[IR];exact hl,vs,_,rv,ha⟩
   ·have z':=(JD hb).symm.trans z;cases z'
  ·by_cases hb:b=a
   ·exact hb
   ·exact absurd (JD hb) z
theorem walk_of{l:Pl}{n k:Nat}{q:Jc}{loose:IG Str}{XP:(Str->IQ IH)->JM->Prop}{YP:Jv->JM->Prop}{d:DefRec}{K:X0->IJ}{CX:Jv->rV}{sp:Jv->Sp}{x:Str}
  (hn:l.most=B' n) (hn2:n<=sizeLine) (hdf:d.params.defaults=[]) (hr:Room k SQ)
  (hY:∀(w:Jv) (h:JM),YP w h->(K w.params).In h)
  (F:∀(w:Jv) (mg:Str->IQ IH) (fa:IL) (h:JM),(K w.params).In h->h.Ns Ja mg->mg d.name=B' (.ref fa)->
   ∃fd:Jr,(∀(s:IM) (u:IH),UB s fd ⟨[u],[]⟩ [(x,u)])/\
    ∀base:JM,(K w.params).In base->base.Ns Ja mg->FnOk l.prog w (K w.params) mg base (CX w) k fa fd [x] (sp w))
  (Zu:∀(w:Jv) (H:Hp) (a:IL) (ns:IG Int),ns.length<=n->Df H->SqL (K w.params) H a (ns.map V.int)->sp w [.ref a] H (λv _=>v=.bl IS) λ_ _ _=>False)
  (hCX:∀(w:Jv) (H:Hp) (s:IM) (e:IH) (s':IM),CX w [] H s (λ_ _ _=>False) e s'->False):
  U8 q loose XP YP l.row.toRowW d [] (λf vs=>Ts f vs):=by
 refine Att.attach_call hn hdf λw s₀ s₁ mg mb fa o pm cd Ua a vs ns G Y ho hd Xu hmg acf Yn Lx hg=>?_;have KX:=hY w _ Y;obtain⟨fd,hb,hF⟩:=F w mg fa _ KX G.T.g hmg;exact vN KX G.T.g G.T.b G.T.builtins G.T.nolimit hg acf Yn (KE Lx hn2) hr hF hb (λH hO hS=>Zu w H a ns Lx hO hS) λH e s'=>hCX w H s₁ e s'
def zE(s:KL)(j:Nat):KL:=match s with
 |.ClassDef _ _ _ body _ _ _ _ _ _ _=>body.getD j<|.Pass ⟨0,0,0,0⟩
 |_=>.Pass ⟨0,0,0,0⟩
def d6(s:KL):Arguments:=match s with
 |.FunctionDef _ a _ _ _ _ _ _ _ _=>a
 |_=>{posonlyargs:=[],args:=[],vararg:=IV,kwonlyargs:=[],kw_defaults:=[],kwarg:=IV,defaults:=[]}
def cF(s:KL):IG KL:=match s with
 |.FunctionDef _ _ b _ _ _ _ _ _ _=>b
 |_=>[]
def ap(s:KL):N6:=match s with
 |.FunctionDef _ _ _ _ _ _ sc _ _ _=>sc
 |_=>{kind:=.function,names:=[],isGenerator:=IU,isCoroutine:=IU}
abbrev c6:rV:=λ_ _ _ _ _ _=>False
abbrev E0:XK:=λ_ _ _=>False
theorem Fk:jZ c6 X E0:=λ_ _ _ _ _ _ _ h=>h.elim
structure Fun (K:IJ)(x qual:Str)(st:KL)(f:IL)(fd:Jr):Prop where
 ex:∃(oc:IH) (od:IQ IL) (kV Ua pm:IH) (an:IQ IL) (LY ct:IH) (osl:J4 (IQ IH)),
  fd=Mc x qual (d6 st) (cF st) (ap st) .none kV Ua pm an LY ct/\K.lookup f=B' ⟨oc,od,.func fd,osl⟩/\Se K LY qual=IS
 kp:LJ K (.ref f)=IS
section
variable {P:Jc}{w:Jv}{K:IJ}{mg:Str->IQ IH}{base:JM}
theorem Fun.ok{x qual:Str}{st:KL}{f:IL}{fd:Jr}{N ps:IG Str}{k:Nat}{sp:Sp}(F:Fun K x qual st f fd)(S:aF N ps (ap st))(len:∀vs H Q E,sp vs H Q E->vs.length=ps.length)
  (V6:∀LY A outer s H vs Q E,Room k (A.deeper<|JU qual (ap st) s.heap.objs.size f LY)->sp vs H Q E->
   ∃t,PSs (cj c6 P w K mg base N qual (ap st) f LY A outer s H E).nox (cF st) t/\t {nx:=λ_ H'=>Q .non H',rt:=Q} (start N vs) H):FnOk P w K mg base c6 (k+1) f fd ps sp:=by
 obtain⟨oc,od,kV,Ua,pm,an,LY,ct,osl,rfl,lk,Xu⟩:=F.ex;refine vI lk Xu S len λA outer s H vs Q E hr Zu=>?_;obtain⟨t,h,q⟩:=V6 LY A outer s H vs Q E hr Zu;exact⟨t,h.nox,q⟩
theorem Fun.binds{x qual:Str}{st:KL}{f:IL}{fd:Jr}{ps:IG Str}(F:Fun K x qual st f fd)
  (h:∀kV Ua pm an LY ct us,us.length=ps.length->Q4 (Mc x qual (d6 st) (cF st) (ap st) .none kV Ua pm an LY ct) ⟨us,[]⟩=pure (ps.zip us)):Binds K fd ps []:=by
 obtain⟨oc,od,kV,Ua,pm,an,LY,ct,osl,rfl,lk,Xu⟩:=F.ex;exact .all<|h kV Ua pm an LY ct
theorem fun_mk{x qual:Str}{st:KL}{f:IL}{oc:IH}{od an:IQ IL}{osl:J4 (IQ IH)}{kV Ua pm LY ct:IH}(l:K.lookup f=B' ⟨oc,od,.func<|Mc x qual (d6 st) (cF st) (ap st) .none kV Ua pm an LY ct,osl⟩)
  (c:Se K LY qual=IS) (k:LJ K (.ref f)=IS):Fun K x qual st f (Mc x qual (d6 st) (cF st) (ap st) .none kV Ua pm an LY ct):=⟨⟨oc,od,kV,Ua,pm,an,LY,ct,osl,rfl,l,c⟩,k⟩
end
theorem BC(hr:Room k A):A.units+1 < Mt:=M1 (Nat.add_le_add_left (by decide:1<=64) _) hr.units
theorem aD(h:n<=1000):n < sizeLine:=M1 h (by decide)
section
variable {X:Cx}
theorem pv(i:Nat){pos:Pos}(hN:X.N[i]? =B' x:=by rfl)(hv:Hh X.env.scope x:=by first|exact Jl rfl|exact Ob (Jl rfl)|exact Ob<|Ob rfl)(hd:(x == ("__debug__":Str))=false:=by decide)
  (Xu:(x == ("__classdict__":Str))=false:=by decide):PE X (.Name x pos) (fR i):=CM hN hv hd Xu
end
theorem aO{A B:Prop}(h:B):if IU=IS then A else B:=by
 rw[JD Jz];exact h
theorem aT{A B:Prop}(h:A):if IS=IS then A else B:=by
 rw[JF rfl];exact h
theorem fG{c A B:Prop} [Decidable c] (h1:c->A)(h2:¬c->B):if c then A else B:=by
 by_cases h:c
 ·rw[JF h];exact h1 h
 ·rw[JD h];exact h2 h
def Same(H H':Hp):Prop:=∀b o,H b=B' o->H' b=B' o
theorem Same.refl(H:Hp):Same H H:=λ_ _ h=>h
theorem Same.trans(a:Same H H1)(b:Same H1 H2):Same H H2:=λc o h=>b c o<|a c o h
theorem Same.free(e:Same H H')(h:H' l=IV):H l=IV:=by
 cases q:H l with
 |none=>rfl
 |some o=>
  rw[e l o q]at h;cases h
theorem Same.seq{K:IJ}{H H':Hp}{a:IL}{xs:IG V}(e:Same H H')(h:SqL K H a xs):SqL K H' a xs:=by
 obtain(h|⟨o,h⟩)|h:=h
 ·exact .inl<|.inl<|e _ _ h
 ·exact .inl<|.inr ⟨o,e _ _ h⟩
 ·exact .inr h
section
variable {κ:Type} [Nb κ]
theorem rZ:∀{l:IG κ} {k:κ},l.Nodup->¬k∈l->(l++[k]).Nodup
 |[],k,_,_=>by simp
 |a::r,k,h,hk=>by
  obtain⟨h1,h2⟩:=LQ.mp h;show(a::(r++[k])).Nodup
  refine LQ.mpr ⟨λm=>?_,rZ h2 λm=>hk<|JC.mpr<|Ob m⟩;obtain q|q:=JA.mp m
  ·exact h1 q
  ·exact hk<|JC.mpr<|Jl (Jf.mp q).symm
end
end L2
namespace L2
open PySem
theorem vO(h:n<=10000):n < sizeLine:=M1 h (by decide)
def PR(H:Hp)(q:Int×Int)(v:V):Prop:=∃t,v=.ref t/\H t=B' (.tup [.int q.1,.int q.2])
theorem PR.mono(k:Same H H'):∀{ps:IG (Int×Int)} {ts:IG V},Paired (PR H) ps ts->Paired (PR H') ps ts
 |_,_,.nil=>.nil
 |_,_,.cons ⟨t,e,h⟩ r=>.cons ⟨t,e,k _ _ h⟩<|PR.mono k r
end L2
namespace TS
open PySem PyProof.Rows
structure Cm (prog:Jc)(w:Jv)(A:JV)(E:IH->IM->Prop)(s:IM) where
 num:Kq->Int
 ok:Kq->Prop
 kd:Ww
 lt:∀{x y:Kq} {Q:IQ Jm->KD->Prop} {st:KD},kindOf st=kd->ok x->ok y->Q (B' (decide (num x < num y))) st->wpS (Ju prog w) A E s (lt' x y) Q st
section
variable {prog:Jc}{w:Jv}{A:JV}{E:IH->IM->Prop}{s:IM}{C:Cm prog w A E s}{st:KD}{α:Type}
abbrev Cm.W(C:Cm prog w A E s)(m:QM KD Sem α)(Q:α->KD->Prop)(st:KD):Prop:=wpS (Ju prog w) A E s m Q st
def Cm.K(C:Cm prog w A E s)(xs:J4 Kq)(i:Nat):Int:=(xs[i]?.map C.num).getD 0
def Cm.Oks(C:Cm prog w A E s)(xs:J4 Kq):Prop:=∀p∈xs.toList,C.ok p
theorem Dg(h:C.Oks xs)(hi:i < xs.size):∃p,xs[i]? =B' p/\C.ok p/\C.K xs i=C.num p:=
 ⟨xs[i],PN xs i hi,h _ (by simp),by unfold Cm.K;rw[PN xs i hi];rfl⟩
theorem dg(hp:arr[i]? =B' p)(h:Q p st):wpS (Ju prog w) A E s (Ra arr i) Q st:=by
 rw[elem'_eq,hp];exact J6 h
theorem c8{c:Prop} [Decidable c] {x y:QM KD Sem α}{Q:α->KD->Prop}(h1:c->wpS (Ju prog w) A E s x Q st)(h2:¬c->wpS (Ju prog w) A E s y Q st):wpS (Ju prog w) A E s (if c then x else y) Q st:=by
 split
 ·exact h1 ‹_›
 ·exact h2 ‹_›
def fT:Jm->Kq->J4 Kq->Nat->Nat->Nat->QM KD Sem (IQ Nat):=sortPriv% PySem.Builtin.gallop
def zF(left:Jm)(key:Kq)(arr:J4 Kq)(base i:Nat):QM KD Sem (IQ Jm):=do
 let x <-Ra arr (base+i)
 if left then lt' x key else
  let r <-lt' key x
  return r.map (!·)
section
variable (left:Jm)(key:Kq)(arr:J4 Kq)(base n hint:Nat)
def vP(lo hi:Nat):QM KD Sem (IQ Nat):=do
 let mut lo:=lo
 let mut hi:=hi
 for _ in [0:n] do
  if lo>=hi then break
  let m:=lo+(hi - lo) / 2
  let B' more <-zF left key arr base m|return IV
  if more then lo:=m+1 else hi:=m
 return B' hi
def zG(most:Nat)(f:Nat->Nat)(tst:Jm->Jm)(k:Nat->Nat->QM KD Sem (IQ Nat)):QM KD Sem (IQ Nat):=do
 let mut last:=0
 let mut ofs:=1
 for _ in [0:n] do
  if ofs>=most then break
  let B' more <-zF left key arr base (f ofs)|return IV
  if tst more then break
  last:=ofs
  ofs:=2*ofs+1
 k last ofs
theorem qu:fT left key arr base n hint=(do
 let B' right <-zF left key arr base hint|return IV
 if right then zG left key arr base n (n - hint) (hint+·) not λlast ofs=>vP left key arr base n (hint+last+1) (hint+min ofs (n - hint))
 else zG left key arr base n (hint+1) (hint - ·) id λlast ofs=>vP left key arr base n (hint+1 - min ofs (hint+1)) (hint - last)):=rfl
end
section
variable {left:Jm}{key:Kq}{arr:J4 Kq}{base n:Nat}{Q:IQ Nat->KD->Prop}
def HE(C:Cm prog w A E s)(left:Jm)(key:Kq)(arr:J4 Kq)(base n:Nat)(st:KD)(P:Nat->Jm):Prop:=∀(m:Nat) (Q':IQ Jm->KD->Prop),m < n->Q' (B'<|P m) st->C.W (zF left key arr base m) Q' st
theorem Dh{lo hi:Nat}{P:Nat->Jm}(bey:HE C left key arr base n st P)(hs:∀i j,i<=j->j < n->P j=IS->P i=IS)(h1:lo<=hi)(h2:hi<=n)(h3:∀i,i < lo->P i=IS)(h4:∀i,hi<=i->i < n->P i=IU)
  (h:∀k,k<=n->(∀i,i < k->P i=IS)->(∀i,k<=i->i < n->P i=IU)->Q (B' k) st):C.W (vP left key arr base n lo hi) Q st:=by
 unfold vP;refine JH (Nr (Me (I:=λx c LI=>LI=st/\∃l r,c=(IV,l,r)/\l<=r/\r<=n/\r - l<=n - x/\(∀i,i < l->P i=IS)/\(∀i,r<=i->i < n->P i=IU))
  (Q:=λc LI=>LI=st/\∃l,c=(IV,l,l)/\l<=n/\(∀i,i < l->P i=IS)/\(∀i,l<=i->i < n->P i=IU)) ?_ ?_ ⟨rfl,lo,hi,rfl,h1,h2,by lia,h3,h4⟩) ?_)
 ·rintro x c LI _ hx ⟨rfl,l,r,rfl,a1,a2,a3,a4,a5⟩;dsimp only;refine c8 (λg=>J6 ?_) λg=>JH<|bey _ _ (by lia) ?_
  ·obtain rfl:l=r:=by lia
   exact⟨rfl,l,rfl,a2,a4,a5⟩
  ·cases e:P (l+(r - l) / 2)with
   |true=>exact J6 ⟨rfl,_,_,rfl,by lia,a2,by lia,λi hi=>hs i _ (by lia) (by lia) e,a5⟩
   |false=>exact J6 ⟨rfl,_,_,rfl,by lia,by lia,by lia,a4,λi b1 b2=>by
     cases e2:P i with
     |false=>rfl
     |true=>rw[hs _ i b1 b2 e2]at e;cases e⟩
 ·rintro c LI ⟨rfl,l,r,rfl,a1,a2,a3,a4,a5⟩;obtain rfl:l=r:=by lia
  exact⟨rfl,l,rfl,a2,a4,a5⟩
 ·rintro c LI ⟨rfl,l,rfl,a2,a4,a5⟩;exact J6<|h l a2 a4 a5
theorem vR{k:Nat->Nat->QM KD Sem (IQ Nat)}(bey:HE C left key arr base n st P)(hm:most<=n)(hf:∀o,o < most->f o < n)(h0:tst (P<|f 0)=IU)(h1:1<=most)
  (h:∀last ofs,last < ofs->last < most->tst (P<|f last)=IU->(ofs < most->tst (P<|f ofs)=IS)->C.W (k last ofs) Q st):C.W (zG left key arr base n most f tst k) Q st:=by
 unfold zG;refine JH (Nr (Me (I:=λx c LI=>LI=st/\∃last ofs,c=(IV,last,ofs)/\last < ofs/\x < ofs/\last < most/\tst (P<|f last)=IU)
  (Q:=λc LI=>LI=st/\∃last ofs,c=(IV,last,ofs)/\last < ofs/\last < most/\tst (P<|f last)=IU/\(ofs < most->tst (P<|f ofs)=IS)) ?_ ?_ ⟨rfl,0,1,rfl,by lia,by lia,h1,h0⟩) ?_)
 ·rintro x c LI _ hx ⟨rfl,last,ofs,rfl,a1,a2,a3,a4⟩;dsimp only;refine c8 (λg=>J6 ⟨rfl,last,ofs,rfl,a1,a3,a4,λ_=>by lia⟩) λg=>JH<|bey _ _ (hf _<|by lia) ?_;dsimp only;exact c8 (λg2=>J6 ⟨rfl,last,ofs,rfl,a1,a3,a4,λ_=>g2⟩) λg2=>J6 ⟨rfl,_,_,rfl,by lia,by lia,by lia,by simpa using g2⟩
 ·rintro c LI ⟨rfl,last,ofs,rfl,a1,a2,a3,a4⟩;exact⟨rfl,last,ofs,rfl,a1,a3,a4,λ_=>by lia⟩
 ·rintro c LI ⟨rfl,last,ofs,rfl,a1,a3,a4,a5⟩;exact h last ofs a1 a3 a4 a5
theorem vS(hk:kindOf st=C.kd)(RS:C.ok key)(agk:C.Oks arr)(hb:base+n<=arr.size)(hh:hint < n)(hs:∀i j,i<=j->j < n->C.K arr (base+i)<=C.K arr (base+j))(S8:∀i,i < n->C.K arr (base+i)≠C.num key)
  (h:∀k,k<=n->(∀i,i < k->C.K arr (base+i) < C.num key)->(∀i,k<=i->i < n->C.num key < C.K arr (base+i))->Q (B' k) st):C.W (fT left key arr base n hint) Q st:=by
 have bey:HE C left key arr base n st λi=>decide (C.K arr (base+i) < C.num key):=λm Q' hm q=>by
  obtain⟨p,hp,ip,e⟩:=Dg agk (i:=base+m) (by lia);have hn:=S8 m hm;simp only [e]at q hn;refine JH<|dg hp ?_;cases left
  ·refine JH<|C.lt hk RS ip<|J6 ?_;rw[show decide (C.num p < C.num key)=!decide (C.num key < C.num p) by rw[<-decide_not];exact Mp.mpr ⟨λ_=>by lia,λ_=>by lia⟩]at q;exact q
  ·exact C.lt hk ip RS q
 have dn:∀i j,i<=j->j < n->decide (C.K arr (base+j) < C.num key)=IS->decide (C.K arr (base+i) < C.num key)=true:=λi j h1 h2 g=>Jj<|Int.lt_of_le_of_lt (hs i j h1 h2)<|Kd g;have up:∀i j,i<=j->j < n->decide (C.K arr (base+i) < C.num key)=IU->decide (C.K arr (base+j) < C.num key)=false:=λi j h1 h2 g=>by
  have:=MW g;have:=hs i j h1 h2;exact IW (by lia)
 have fin:∀{lo hi},lo<=hi->hi<=n->(∀i,i < lo->decide (C.K arr (base+i) < C.num key)=IS)->(∀i,hi<=i->i < n->decide (C.K arr (base+i) < C.num key)=IU)->C.W (vP left key arr base n lo hi) Q st:=λa1 a2 a3 a4=>
  Dh bey dn a1 a2 a3 a4 λk b1 b2 b3=>h k b1 (λi hi=>Kd<|b2 i hi) λi c1 c2=>by
   have:=MW<|b3 i c1 c2;have:=S8 i c2;lia
 rw[qu];refine JH<|bey _ _ hh ?_;dsimp only;refine c8 (λe=>vR bey (by lia) (λo ho=>by lia) (by rw[PY,e];rfl) (by lia) λlast ofs a1 a2 a3 a4=>?_) λe=>vR bey (by lia) (λo ho=>by lia) (by simpa using e) (by lia) λlast ofs a1 a2 a3 a4=>?_
 ·exact fin (by lia) (by lia) (λi hi=>dn i (hint+last) (by lia) (by lia)<|by simpa using a3) λi c1 c2=>up (hint+ofs) i (by lia) c2 (by simpa using a4 (by lia))
 ·exact fin (by lia) (by lia) (λi hi=>dn i (hint - ofs) (by lia) (by lia)<|a4<|by lia) λi c1 c2=>up (hint - last) i (by lia) c2 a3
end
end
abbrev R:=J4 Kq
abbrev S:=QM KD Sem
def vT(g:Nat):S Pt:=XT λst=>Qc (kindOf st) (J7 st) (Ka st) g<|Mm st
structure Sd where
 arr:R
 ia:Nat->Nat
 na:Nat->Nat
 gal:Jm->Kq->Nat->S (IQ Nat)
 kk:Nat->Nat->Nat
 ex:Nat->Nat->R
 nx:Nat->Nat->Nat
 v:Nat->IG Kq
structure Mg where
 T:Type->Type
 m:{X:Type}->IQ R->R->Nat->Nat->X->T X
 r:{X:Type}->T X->IQ R
 o:{X:Type}->T X->R
 i:{X:Type}->T X->Nat
 j:{X:Type}->T X->Nat
 x:{X:Type}->T X->X
 a:Sd
 b:Sd
 sel:{β:Type}->Jm->S β->S β->S β
 don:R->Nat->Nat->R
 pa:{β:Type}->R->Nat->Nat->(R->S β)->S β->S β
 pb:{β:Type}->R->Nat->Nat->(R->S β)->S β->S β
 ta:{β:Type}->R->Nat->Nat->(R->S β)->S β->S β
 tb:{β:Type}->R->Nat->Nat->(R->S β)->S β->S β
 n:Nat
def Mg.in1(M:Mg)(mg:Nat)(c:M.T (Nat×Nat)):S (NC<|M.T<|Nat×Nat):=do
 let q <-Ra M.b.arr (M.b.ia<|M.j c)
 let p <-Ra M.a.arr (M.a.ia<|M.i c)
 let B' w <-lt' q p|return .done (M.m (B'<|M.don (M.o c) (M.i c)<|M.j c) (M.o c) (M.i c) (M.j c)<|M.x c)
 M.sel w (do
   let p <-Ra M.a.arr (M.a.ia<|M.i c)
   M.pa ((M.o c).push p) (M.a.na<|M.i c) (M.j c) (λx=>return .done<|M.m (B' x) ((M.o c).push p) (M.a.na<|M.i c) (M.j c) ((M.x c).1+1,0))
    (if(M.x c).1+1>=mg then return .done (M.m IV ((M.o c).push p) (M.a.na<|M.i c) (M.j c) ((M.x c).1+1,0))else return .yield (M.m IV ((M.o c).push p) (M.a.na<|M.i c) (M.j c) ((M.x c).1+1,0))))
  (do
   let q <-Ra M.b.arr (M.b.ia<|M.j c)
   M.pb ((M.o c).push q) (M.i c) (M.b.na<|M.j c) (λx=>return .done<|M.m (B' x) ((M.o c).push q) (M.i c) (M.b.na<|M.j c) (0,(M.x c).2+1))
    (if(M.x c).2+1>=mg then return .done (M.m IV ((M.o c).push q) (M.i c) (M.b.na<|M.j c) (0,(M.x c).2+1))else return .yield (M.m IV ((M.o c).push q) (M.i c) (M.b.na<|M.j c) (0,(M.x c).2+1))))
section
variable (M:Mg)(mg ac bc:Nat)(o:R)(i j:Nat)
def Mg.gC:S (NC<|M.T<|Nat×Nat×Nat):=do
 let p <-Ra M.a.arr (M.a.ia i)
 M.pa (o.push p) (M.a.na i) j (λx=>return .done<|M.m (B' x) (o.push p) (M.a.na i) j (mg,ac,bc))
  (if(decide (ac < 7)&&decide (bc < 7))=IS then return .done (M.m IV (o.push p) (M.a.na i) j (mg,ac,bc))else return .yield (M.m IV (o.push p) (M.a.na i) j (mg,ac,bc)))
def Mg.gB:S (NC<|M.T<|Nat×Nat×Nat):=do
 let q <-Ra M.b.arr (M.b.ia j)
 M.pb (o.push q) i (M.b.na j) (λx=>return .done<|M.m (B' x) (o.push q) i (M.b.na j) (mg,ac,bc)) (do
  let B' u <-M.b.gal IS (<-Ra M.a.arr<|M.a.ia i) (M.b.na j)|return .done (M.m (B'<|M.don (o.push q) i<|M.b.na j) (o.push q) i (M.b.na j) (mg,ac,bc))
  if M.b.kk (M.b.na j) u > 0 then
   M.tb (o.push q++M.b.ex (M.b.na j) u) i (M.b.nx (M.b.na j) u) (λx=>return .done<|M.m (B' x) (o.push q++M.b.ex (M.b.na j) u) i (M.b.nx (M.b.na j) u) (mg,ac,M.b.kk (M.b.na j) u))
    (M.gC mg ac (M.b.kk (M.b.na j) u) (o.push q++M.b.ex (M.b.na j) u) i<|M.b.nx (M.b.na j) u)
  else M.gC mg ac (M.b.kk (M.b.na j) u) (o.push q) i (M.b.na j))
def Mg.gA:S (NC<|M.T<|Nat×Nat×Nat):=do
 vT mg
 let B' u <-M.a.gal IU (<-Ra M.b.arr<|M.b.ia j) i|return .done (M.m (B'<|M.don o i j) o i j (mg,ac,bc))
 if M.a.kk i u > 0 then
  M.ta (o++M.a.ex i u) (M.a.nx i u) j (λx=>return .done<|M.m (B' x) (o++M.a.ex i u) (M.a.nx i u) j (mg,M.a.kk i u,bc))
   (M.gB mg (M.a.kk i u) bc (o++M.a.ex i u) (M.a.nx i u) j)
 else M.gB mg (M.a.kk i u) bc o i j
def Mg.out(c:M.T Nat):S (NC<|M.T Nat):=do
 let c2 <-forIn [0:M.n] (M.m IV (M.o c) (M.i c) (M.j c) (0,0)) λ_=>M.in1 (M.x c)
 match M.r c2 with
 |some r=>return .done<|M.m (B' r) (M.o c2) (M.i c2) (M.j c2)<|M.x c
 |none=>
  rule "list.sort.gallop"
  let c3 <-forIn [0:M.n] (M.m IV (M.o c2) (M.i c2) (M.j c2) (M.x c+1,M.x c2)) λ_ c=>
   if(M.x c).1 > 1 then M.gA ((M.x c).1 - 1) (M.x c).2.1 (M.x c).2.2 (M.o c) (M.i c) (M.j c)else M.gA (M.x c).1 (M.x c).2.1 (M.x c).2.2 (M.o c) (M.i c) (M.j c)
  match M.r c3 with
  |some r=>return .done<|M.m (B' r) (M.o c3) (M.i c3) (M.j c3) (M.x c3).1
  |none=>
   vT ((M.x c3).1+1)
   return .yield (M.m IV (M.o c3) (M.i c3) (M.j c3)<|(M.x c3).1+1)
def Mg.run:S R:=do
 let c <-forIn [0:M.n] (M.m IV o i j<|gallopOf (<-get)) λ_=>M.out
 match M.r c with
 |some r=>return r
 |none=>unsupported "internal:list.sort.merge-bound"
end
def HF(a:R):Sd where
 arr:=a
 ia:=λi=>i
 na:=λi=>i+1
 gal:=λl q i=>fT l q a i (a.size - i) 0
 kk:=λ_ u=>u
 ex:=λi u=>a.extract i (i+u)
 nx:=λi u=>i+u
 v:=λi=>a.toList.drop i
def GX(a:R):Sd where
 arr:=a
 ia:=λi=>i - 1
 na:=λi=>i - 1
 gal:=λl q i=>fT l q a 0 i (i - 1)
 kk:=λi u=>i - u
 ex:=λi u=>(a.extract u i).reverse
 nx:=λ_ u=>u
 v:=λi=>(a.toList.take i).reverse
def BD(a b o:R)(i j:Nat):R:=o++a.extract i a.size++b.extract j b.size
def EI(a b o:R)(i j:Nat):R:=o++b.extract j b.size++a.extract i a.size
def zm(a b:R):Mg where
 T:=λX=>IQ R×R×Nat×Nat×X
 m:=λr o i j x=>(r,o,i,j,x)
 r:=λc=>c.1
 o:=λc=>c.2.1
 i:=λc=>c.2.2.1
 j:=λc=>c.2.2.2.1
 x:=λc=>c.2.2.2.2
 a:=HF a
 b:=HF b
 sel:=λw x y=>if w=IS then y else x
 don:=BD a b
 pa:=λo i j f k=>if(i+1 == a.size)=IS then f (EI a b o i j)else k
 pb:=λo i j f k=>if(j == b.size)=IS then f (BD a b o i j)else k
 ta:=λo i j f k=>if(i+1 == a.size)=IS then f (EI a b o i j)else if(i == a.size)=IS then f (BD a b o i j)else k
 tb:=λo i j f k=>if(j == b.size)=IS then f (BD a b o i j)else k
 n:=a.size+b.size
def BE(a b o:R)(i j:Nat):R:=a.extract 0 i++b.extract 0 j++o.reverse
def EJ(a b o:R)(i j:Nat):R:=b.extract 0 j++a.extract 0 i++o.reverse
def vU(a b:R):Mg where
 T:=λX=>IQ R×Nat×Nat×R×X
 m:=λr o i j x=>(r,i,j,o,x)
 r:=λc=>c.1
 o:=λc=>c.2.2.2.1
 i:=λc=>c.2.1
 j:=λc=>c.2.2.1
 x:=λc=>c.2.2.2.2
 a:=GX a
 b:=GX b
 sel:=λw x y=>if w=IS then x else y
 don:=BE a b
 pa:=λo i j f k=>if(i == 0)=IS then f (BE a b o i j)else k
 pb:=λo i j f k=>if(j == 1)=IS then f (EJ a b o i j)else k
 ta:=λo i j f k=>if(i == 0)=IS then f (BE a b o i j)else k
 tb:=λo i j f k=>if(j == 1)=IS then f (EJ a b o i j)else if(j == 0)=IS then f (BE a b o i j)else k
 n:=a.size+b.size
def HG:R->R->S R:=sortPriv% PySem.Builtin.mergeLo
def HH:R->R->S R:=sortPriv% PySem.Builtin.mergeHi
theorem Di(a b:R):HG a b=(do
 rule "list.sort.merge-lo"
 let q <-Ra b 0
 if(1 == b.size)=IS then return BD a b #[q] 0 1
 else if(0+1 == a.size)=IS then return EI a b #[q] 0 1
 else(zm a b).run #[q] 0 1):=by kernel_rfl
theorem Dj(a b:R):HH a b=(do
 rule "list.sort.merge-hi"
 let p <-Ra a (a.size - 1)
 if(a.size - 1 == 0)=IS then return BE a b #[p] (a.size - 1) b.size
 else if(b.size == 1)=IS then return EJ a b #[p] (a.size - 1) b.size
 else(vU a b).run #[p] (a.size - 1) b.size):=by kernel_rfl
structure MI (r:Kq->Kq->Prop)(z o x y:IG Kq):Prop where
 p:(o++(x++y)).Perm z
 u:(o++x).Pairwise r
 v:(o++y).Pairwise r
section
variable {r:Kq->Kq->Prop}{z o x y t:IG Kq}{q:Kq}
theorem MI.sw(h:MI r z o x y):MI r z o y x:=⟨(List.perm_append_comm.append_left o).trans h.p,h.v,h.u⟩
theorem MI.ta(tr:∀a b c,r a b->r b c->r a c)(h:MI r z o (t++x) (q::y))(g:∀c∈t,r c q):MI r z (o++t) x (q::y):=by
 have u:=h.u;rw[<-JG]at u;have v:=LV.mp h.v;refine⟨by simpa using h.p,u,LV.mpr ⟨(LV.mp u).1,v.2.1,λc hc d hd=>?_⟩⟩;obtain hc|hc:=JA.mp hc
 ·exact v.2.2 c hc d hd
 ·obtain rfl|hd:=JC.mp hd
  ·exact g c hc
  ·exact tr _ _ _ (g c hc)<|Ql v.2.1 hd
end
section
variable {prog:Jc}{w:Jv}{A:JV}{E:IH->IM->Prop}{s:IM}{C:Cm prog w A E s}{r:Kq->Kq->Prop}{z:IG Kq}{st:KD}{M:Mg}{la lb:Nat}{α:Type}
theorem vV(h:Q () (Qc (kindOf st) (J7 st) (Ka st) g<|Mm st)):wpS (Ju prog w) A E s (vT g) Q st:=Rq h
structure zH (C:Cm prog w A E s)(r:Kq->Kq->Prop)(D:Sd):Prop where
 at_:∀{i p t},i<=D.arr.size->D.v i=p::t->D.arr[D.ia i]? =B' p/\D.v (D.na i)=t/\D.na i<=D.arr.size
 gal:∀{l q i Q st},i<=D.arr.size->kindOf st=C.kd->C.ok q->D.v i≠[]->(∀c∈D.v i,C.num c≠C.num q)->
  (∀u,D.nx i u<=D.arr.size->D.v i=(D.ex i u).toList++D.v (D.nx i u)->(∀c∈(D.ex i u).toList,r c q)->(∀c∈D.v (D.nx i u),r q c)->(¬D.kk i u > 0->(D.ex i u).toList=[])->Q (B' u) st)->C.W (D.gal l q i) Q st
def oV(C:Cm prog w A E s)(z:IG Kq)(x:R):Prop:=x.toList.Perm z/\x.toList.Pairwise λa b=>C.num a < C.num b
structure MS (M:Mg)(r:Kq->Kq->Prop)(z:IG Kq)(o:R)(i j:Nat):Prop where
 m:MI r z o.toList (M.a.v i) (M.b.v j)
 i:i<=M.a.arr.size
 j:j<=M.b.arr.size
structure Dk (C:Cm prog w A E s)(M:Mg)(r:Kq->Kq->Prop)(z:IG Kq)(la lb:Nat):Prop where
 er:∀{X e o i j} {x:X},M.r (M.m e o i j x)=e
 eo:∀{X e o i j} {x:X},M.o (M.m e o i j x)=o
 ei:∀{X e o i j} {x:X},M.i (M.m e o i j x)=i
 ej:∀{X e o i j} {x:X},M.j (M.m e o i j x)=j
 ex:∀{X e o i j} {x:X},M.x (M.m e o i j x)=x
 n:M.n=z.length
 tr:∀a b c,r a b->r b c->r a c
 nd:(z.map C.num).Nodup
 ok:∀c∈z,C.ok c
 a:zH C r M.a
 b:zH C r M.b
 l1:1<=la
 l2:1<=lb
 sel:∀{α p q} {x y:S α} {Q st},C.num p≠C.num q->(r p q->C.W x Q st)->(r q p->C.W y Q st)->C.W (M.sel (decide (C.num q < C.num p)) x y) Q st
 pa:∀{α o i j} {f:R->S α} {k Q st},MS M r z o i j->la<=(M.a.v i).length+1->(∀x,oV C z x->C.W (f x) Q st)->(la<=(M.a.v i).length->C.W k Q st)->C.W (M.pa o i j f k) Q st
 pb:∀{α o i j} {f:R->S α} {k Q st},MS M r z o i j->lb<=(M.b.v j).length+1->(∀x,oV C z x->C.W (f x) Q st)->(lb<=(M.b.v j).length->C.W k Q st)->C.W (M.pb o i j f k) Q st
 ta:∀{α o i j} {f:R->S α} {k Q st},MS M r z o i j->(∀x,oV C z x->C.W (f x) Q st)->(la<=(M.a.v i).length->C.W k Q st)->C.W (M.ta o i j f k) Q st
 tb:∀{α o i j} {f:R->S α} {k Q st},MS M r z o i j->(∀x,oV C z x->C.W (f x) Q st)->(lb<=(M.b.v j).length->C.W k Q st)->C.W (M.tb o i j f k) Q st
structure Iv (M:Mg)(r:Kq->Kq->Prop)(z:IG Kq)(la lb:Nat)(n:Nat)(o:R)(i j:Nat):Prop where
 m:MS M r z o i j
 a:la<=(M.a.v i).length
 b:lb<=(M.b.v j).length
 n:(M.a.v i).length+(M.b.v j).length+n<=z.length
theorem MI.ne(h:MI r z o x y)(nd:(z.map C.num).Nodup)(hc:c∈x)(hq:q∈y):C.num c≠C.num q:=by
 have:=(h.p.map C.num).nodup_iff.mpr nd;rw[JO,JO]at this;exact(LG.mp (LG.mp this).2.1).2.2 _ (MK hc) _<|MK hq
theorem lW{l:IG Kq}{n:Nat}(h1:1<=n)(h:n<=l.length):∃p t,l=p::t:=by
 cases l with
 |nil=>exact absurd h (by simpa using by lia)
 |cons p t=>exact⟨p,t,rfl⟩
def Go(C:Cm prog w A E s)(M:Mg)(r:Kq->Kq->Prop)(z:IG Kq)(la lb n:Nat){X:Type}(c:M.T X):Prop:=(∃x,M.r c=B' x/\oV C z x)\/∃o i j e,c=M.m IV o i j e/\Iv M r z la lb n o i j
variable (K:Dk C M r z la lb)
include K
theorem vW(m:MS M r z o i j)(ep:M.a.v i=p::t)(eq:M.b.v j=q::u)(g:r p q):MS M r z (o.push p) (M.a.na i) j:=by
 obtain⟨_,e1,e2⟩:=K.a.at_ m.i ep;have m':=m.m;refine⟨?_,e2,m.j⟩;rw[e1,NJ,eq];rw[ep,eq]at m';exact MI.ta K.tr (t:=[p]) m' (by simpa using g)
theorem vX(m:MS M r z o i j)(ep:M.a.v i=p::t)(eq:M.b.v j=q::u)(g:r q p):MS M r z (o.push q) i (M.b.na j):=by
 obtain⟨_,e1,e2⟩:=K.b.at_ m.j eq;have m':=m.m;refine⟨?_,m.i,e2⟩;rw[e1,NJ,ep];rw[ep,eq]at m';exact(MI.ta K.tr (t:=[q]) m'.sw<|by simpa using g).sw
theorem GY(I:Iv M r z la lb n o i j):∃p t q u,M.a.v i=p::t/\M.b.v j=q::u/\C.ok p/\C.ok q/\C.num p≠C.num q/\M.a.arr[M.a.ia i]? =B' p/\M.b.arr[M.b.ia j]? =B' q/\M.a.v (M.a.na i)=t/\M.b.v (M.b.na j)=u:=by
 obtain⟨p,t,ep⟩:=lW K.l1 I.a;obtain⟨q,u,eq⟩:=lW K.l2 I.b;exact⟨p,t,q,u,ep,eq,K.ok p (I.m.m.p.mem_iff.mp<|by simp [ep]),K.ok q (I.m.m.p.mem_iff.mp<|by simp [eq]),I.m.m.ne K.nd (by simp [ep]) (by simp [eq]),(K.a.at_ I.m.i ep).1,(K.b.at_ I.m.j eq).1,(K.a.at_ I.m.i ep).2.1,(K.b.at_ I.m.j eq).2.1⟩
theorem Fl(hk:kindOf st=C.kd)(I:Iv M r z la lb n o i j):C.W (M.in1 mg<|M.m IV o i j e) (λx LI=>LI=st/\match x with|.done c=>Go C M r z la lb (n+1) c|.yield c=>∃o i j e,c=M.m IV o i j e/\Iv M r z la lb (n+1) o i j) st:=by
 obtain⟨p,t,q,u,ep,eq,op,oq,ne,gp,gq,na,nb⟩:=GY K I;have hn:=I.n;have ha:=I.a;have hb:=I.b;rw[ep]at hn ha;rw[eq]at hn hb;rw[JJ]at hn ha hb;rw[JJ]at hn;unfold Mg.in1;rw[K.eo,K.ei,K.ej];refine JH<|dg gq<|JH<|dg gp<|JH<|C.lt hk oq op ?_;refine K.sel ne (λg=>?_) λg=>?_
 ·refine JH<|dg gp ?_;have m:=vW K I.m ep eq g;refine K.pa m (by rw[na];lia) (λx hx=>J6 ⟨rfl,.inl ⟨x,K.er,hx⟩⟩) λh=>?_;have I2:Iv M r z la lb (n+1) (o.push p) (M.a.na i) j:=⟨m,h,I.b,by rw[na,eq,JJ];lia⟩;exact c8 (λ_=>J6 ⟨rfl,.inr ⟨_,_,_,_,rfl,I2⟩⟩) λ_=>J6 ⟨rfl,_,_,_,_,rfl,I2⟩
 ·refine JH<|dg gq ?_;have m:=vX K I.m ep eq g;refine K.pb m (by rw[nb];lia) (λx hx=>J6 ⟨rfl,.inl ⟨x,K.er,hx⟩⟩) λh=>?_;have I2:Iv M r z la lb (n+1) (o.push q) i (M.b.na j):=⟨m,I.a,h,by rw[nb,ep,JJ];lia⟩;exact c8 (λ_=>J6 ⟨rfl,.inr ⟨_,_,_,_,rfl,I2⟩⟩) λ_=>J6 ⟨rfl,_,_,_,_,rfl,I2⟩
def fo(st LI:KD):Prop:=kindOf LI=kindOf st/\J7 LI=J7 st/\Ka LI=Ka st/\Mm LI=Mm st
abbrev Dm(C:Cm prog w A E s)(M:Mg)(r:Kq->Kq->Prop)(z:IG Kq)(la lb n:Nat)(st:KD){X:Type}(x:NC (M.T X))(LI:KD):Prop:=fo st LI/\match x with|.done c=>Go C M r z la lb n c|.yield c=>∃o i j e,c=M.m IV o i j e/\Iv M r z la lb n o i j
theorem Fm(hs:fo st0 st)(I:Iv M r z la lb n o i j)(g:∀p q t u,M.a.v i=p::t->M.b.v j=q::u->r p q):C.W (M.gC mg ac bc o i j) (Dm C M r z la lb n st0) st:=by
 obtain⟨p,t,q,u,ep,eq,_,_,_,gp,gq,e2,_⟩:=GY K I;have ha:=I.a;have hn:=I.n;rw[ep,JJ]at ha hn;unfold Mg.gC;have m:=vW K I.m ep eq<|g p q t u ep eq;refine JH<|dg gp<|K.pa m (by rw[e2];lia) (λx hx=>J6 ⟨hs,.inl ⟨x,K.er,hx⟩⟩) λh=>?_;have I2:Iv M r z la lb n (o.push p) (M.a.na i) j:=⟨m,h,I.b,by rw[e2];lia⟩;exact c8 (λ_=>J6 ⟨hs,.inr ⟨_,_,_,_,rfl,I2⟩⟩) λ_=>J6 ⟨hs,_,_,_,_,rfl,I2⟩
theorem Fo(hk:kindOf st0=C.kd)(hs:fo st0 st)(I:Iv M r z la lb n o i j)(g:∀p q t u,M.a.v i=p::t->M.b.v j=q::u->r q p):C.W (M.gB mg ac bc o i j) (Dm C M r z la lb n st0) st:=by
 obtain⟨p,t,q,u,ep,eq,op,_,_,gp,gq,_,e2⟩:=GY K I;have hb:=I.b;have hn:=I.n;rw[eq,JJ]at hb hn;unfold Mg.gB;have m:=vX K I.m ep eq<|g p q t u ep eq;refine JH<|dg gq<|K.pb m (by rw[e2];lia) (λx hx=>J6 ⟨hs,.inl ⟨x,K.er,hx⟩⟩) λh=>?_;have ne:∀c∈M.b.v (M.b.na j),C.num c≠C.num p:=λc hc=>(m.m.ne K.nd (by simp [ep]) hc).symm;refine JH<|dg gp<|JH<|K.b.gal m.j (hs.1.trans hk) op (λz=>by rw[z]at h;exact absurd (KE K.l2 h)<|by decide) ne λu g0 g1 g2 g3 g4=>?_;dsimp only;have hl:=Kp LX g1;rw[I_]at hl;refine c8 (λ_=>?_) λhz=>?_
 ·have m2:MS M r z (o.push q++M.b.ex (M.b.na j) u) i (M.b.nx (M.b.na j) u):=by
   have m':=m.m;refine⟨?_,m.i,g0⟩;rw[S7];rw[ep,g1]at m';rw[ep];exact(MI.ta K.tr m'.sw g2).sw
  refine K.tb m2 (λx hx=>J6 ⟨hs,.inl ⟨x,K.er,hx⟩⟩) λh2=>Fm K hs ⟨m2,I.a,h2,by rw[e2]at hl;lia⟩ λp' q' t' u' a1 a2=>?_;rw[ep]at a1;cases a1;exact g3 q' (by simp [a2])
 ·rw[g4 hz,PD]at g1;refine Fm K hs ⟨m,I.a,h,by rw[e2];lia⟩ λp' q' t' u' a1 a2=>?_;rw[ep]at a1;cases a1;exact g3 q' (by simp [<-g1,a2])
theorem Fp(hk:kindOf st0=C.kd)(hs:fo st0 st)(I:Iv M r z la lb n o i j):C.W (M.gA mg ac bc o i j) (Dm C M r z la lb n st0) st:=by
 obtain⟨p,t,q,u,ep,eq,op,oq,_,gp,gq,_⟩:=GY K I;have hn:=I.n;have ne:∀c∈M.a.v i,C.num c≠C.num q:=λc hc=>I.m.m.ne K.nd hc (by simp [eq]);refine JH<|vV<|JH<|dg gq<|JH<|K.a.gal I.m.i (hs.1.trans hk) oq (by simp [ep]) ne λu g0 g1 g2 g3 g4=>?_;dsimp only;have Vw:fo st0 (Qc (kindOf st) (J7 st) (Ka st) mg<|Mm st):=hs;have hl:=Kp LX g1;rw[I_]at hl;refine c8 (λ_=>?_) λhz=>?_
 ·have m2:MS M r z (o++M.a.ex i u) (M.a.nx i u) j:=by
   have m:=I.m.m;refine⟨?_,g0,I.m.j⟩;rw[S7];rw[eq,g1]at m;rw[eq];exact MI.ta K.tr m g2
  refine K.ta m2 (λx hx=>J6 ⟨hs,.inl ⟨x,K.er,hx⟩⟩) λh2=>Fo K hk Vw ⟨m2,h2,I.b,by lia⟩ λp' q' t' u' a1 a2=>?_;rw[eq]at a2;cases a2;exact g3 p' (by simp [a1])
 ·rw[g4 hz,PD]at g1;refine Fo K hk Vw I λp' q' t' u' a1 a2=>?_;rw[eq]at a2;cases a2;exact g3 p' (by simp [<-g1,a1])
theorem BF(hk:kindOf st=C.kd)(I:Iv M r z la lb 1 o i j)(q:∀x LI,fo st LI->oV C z x->Q x LI):C.W (M.run o i j) Q st:=by
 have big:∀{n o i j},Iv M r z la lb n o i j->n < z.length:=λI=>by
  have:=I.a;have:=I.n;have:=K.l1;lia
 unfold Mg.run;refine JH<|QA<|JH<|Nr (Me (I:=λx c LI=>fo st LI/\∃o i j e,c=M.m IV o i j e/\Iv M r z la lb (x+1) o i j) (Q:=λc LI=>fo st LI/\∃x,M.r c=B' x/\oV C z x) ?_ ?_ ⟨⟨rfl,rfl,rfl,rfl⟩,_,_,_,_,rfl,I⟩) ?_
 ·rintro n c LI _ hn ⟨hs,o,i,j,e,rfl,I⟩;unfold Mg.out;rw[K.eo,K.ei,K.ej];refine JH<|Nr (Me (I:=λx c Nd=>Nd=LI/\∃o i j e,c=M.m IV o i j e/\Iv M r z la lb (n+1+x) o i j) (Q:=λc Nd=>Nd=LI/\Go C M r z la lb (n+2) c) ?_ ?_ ⟨rfl,_,_,_,_,rfl,I⟩) ?_
  ·rintro x c Nd _ hx ⟨rfl,o,i,j,e,rfl,I⟩;refine Nr (Fl K (hs.1.trans hk) I) ?_;rintro (c|c) UT ⟨rfl,h⟩
   ·refine⟨rfl,h.imp id λ⟨o,i,j,e,h1,h2⟩=>⟨o,i,j,e,h1,h2.m,h2.a,h2.b,by have:=h2.n;lia⟩⟩
   ·exact⟨rfl,h⟩
  ·rintro c Nd ⟨_,o,i,j,e,rfl,I⟩;have:=big I;have:=K.n;lia
  ·rintro c Nd ⟨rfl,⟨x,e,hx⟩|⟨o,i,j,e,rfl,I⟩⟩
   ·rw[e];exact J6 ⟨hs,x,K.er,hx⟩
   ·rw[K.er];refine JH<|Sm<|MY ⟨rfl,?_⟩;rw[K.eo,K.ei,K.ej];refine JH<|Nr (Me (I:=λ_ c UT=>fo st UT/\∃o i j e,c=M.m IV o i j e/\Iv M r z la lb (n+2) o i j) (Q:=λc UT=>fo st UT/\Go C M r z la lb (n+2) c) ?_ (λ_ _ ⟨h1,h2⟩=>⟨h1,.inr h2⟩) ⟨hs,_,_,_,_,rfl,I⟩) ?_
    ·rintro x c UT _ _ ⟨hs3,o,i,j,e,rfl,I⟩;rw[K.eo,K.ei,K.ej];refine c8 (λ_=>Nr (Fp K hk hs3 I) ?_) λ_=>Nr (Fp K hk hs3 I) ?_<;>(rintro (c|c) st4 h<;>exact h)
    ·rintro c UT ⟨hs3,⟨x,e,hx⟩|⟨o,i,j,e,rfl,I⟩⟩
     ·rw[e];exact J6 ⟨hs3,x,K.er,hx⟩
     ·rw[K.er];refine JH<|vV<|J6 ⟨hs3,_,_,_,_,rfl,?_⟩;rw[K.eo,K.ei,K.ej];exact I
 ·rintro c LI ⟨_,o,i,j,e,rfl,I⟩;have:=big I;have:=K.n;lia
 ·rintro c LI ⟨hs,x,e,hx⟩;rw[e];exact J6<|q x LI hs hx
end
section
variable {prog:Jc}{w:Jv}{A:JV}{E:IH->IM->Prop}{s:IM}{C:Cm prog w A E s}{r:Kq->Kq->Prop}{z o x y:IG Kq}{st:KD}{a b:R}
theorem MI.end1(h:MI r z o x y)(e:x=[]\/y=[]):(o++(x++y)).Pairwise r:=by
 obtain rfl|rfl:=e
 ·exact h.v
 ·simpa using h.u
theorem MI.end2{p:Kq}(tr:∀a b c,r a b->r b c->r a c)(h:MI r z o [p] y)(g:∀c∈y,r c p):(o++(y++[p])).Pairwise r:=by
 have h':=h.sw;rw[<-Kg y]at h';simpa using(MI.ta tr h' g).v
abbrev Cm.lo(C:Cm prog w A E s)(x y:Kq):Prop:=C.num x < C.num y
theorem qv(e:a.toList=P++(x++T))(hi:i < x.length):C.K a (P.length+i)=C.num x[i]:=by
 unfold Cm.K;rw[<-JQ,e,J0 (Vd ..),Re,JP hi,IZ hi];rfl
theorem r9{l:Jm}{Q:IQ Nat->KD->Prop}(e:a.toList=P++(x++T))(hu:u=P.length)(hn:n=x.length)(ka:C.Oks a)(sx:x.Pairwise C.lo)(hk:kindOf st=C.kd)(hq:C.ok q)(hh:hint < n)(S8:∀c∈x,C.num c≠C.num q)
  (h:∀k,k<=n->(∀c∈x.take k,C.lo c q)->(∀c∈x.drop k,C.lo q c)->Q (B' k) st):C.W (fT l q a u n hint) Q st:=by
 subst hu hn;have hl:=Kp LX e;simp only [I_,JE]at hl;refine vS hk hq ka (by lia) hh (λi j h1 h2=>?_) (λi hi=>?_) λk h1 h2 h3=>h k h1 (λc hc=>?_) λc hc=>?_
 ·rw[qv e h2,qv e<|M1 h1 h2];obtain e|g:=OA h1
  ·subst e;exact OI _
  ·exact UQ<|Mj.mp sx i j _ h2 g
 ·rw[qv e hi];exact S8 _<|O' hi
 ·obtain⟨m,hm,e2⟩:=ML hc;rw[JN]at hm;have:=h2 m (by lia);rw[qv e<|by lia]at this;rw[<-e2,QE];exact this
 ·obtain⟨m,hm,e2⟩:=ML hc;rw[MV]at hm;have:=h3 (k+m) (by lia) (by lia);rw[qv e<|by lia]at this;rw[<-e2,List.getElem_drop];exact this
theorem gi{α:Type}{i n:Nat}{x y:S α}{Q:α->KD->Prop}(h1:i=n->wpS (Ju prog w) A E s x Q st)(h2:¬i=n->wpS (Ju prog w) A E s y Q st):wpS (Ju prog w) A E s (if(i == n)=IS then x else y) Q st:=
 c8 (λe=>h1<|by simpa using e) λe=>h2 (by simpa using e)
theorem lX(i k:Nat):(a.extract i<|i+k).toList=(a.toList.drop i).take k:=by
 rw[Array.toList_extract,List.extract_eq_take_drop,Re]
theorem vY(ka:C.Oks a)(sa:a.toList.Pairwise C.lo):zH C C.lo (HF a) where
 at_:=λ{i p t} _ e=>by
  have e':a.toList.drop i=p::t:=e;have h:=Kp (·[0]?) e';simp at h;exact⟨h,by show a.toList.drop (i+1)=t;rw[<-List.tail_drop,e'];rfl,(J9.mp h).1⟩
 gal:=λ{l q i Q st} hi hk hq hv S8 h=>by
  have hi:i<=a.size:=hi;have h0:i≠a.size:=λz=>hv (RE<|by simpa using UK z.symm);refine r9 (P:=a.toList.take i) (x:=a.toList.drop i) (T:=[]) (by simp) (by simpa using by lia) (by simp) ka (sa.sublist (QF ..)) hk hq (by lia) S8 λk h1 h2 h3=>h k (by show i+k<=a.size;lia) ?_ (lX (a:=a) i k▸h2) (λc hc=>h3 c<|by rw[Qf];exact hc) λhz=>?_
  ·show a.toList.drop i=(a.extract i<|i+k).toList++a.toList.drop (i+k)
   rw[lX,<-Qf,KU]
  ·obtain rfl:k=0:=RA hz;exact lX i 0
theorem vZ(ka:C.Oks a)(sa:a.toList.Pairwise C.lo):zH C (λx y=>C.lo y x) (GX a) where
 at_:=λ{i p t} hi e=>by
  have hi:i<=a.size:=hi;have h:=Kp X' (show(a.toList.take i).reverse=p::t from e);rw[Pm,UM]at h;cases i with
  |zero=>simp at h
  |succ i=>
   rw[OT<|by simpa using by lia]at h;obtain⟨h1,h2⟩:=List.append_inj' h rfl;refine⟨?_,?_,UJ hi⟩
   ·show a[i]? =B' p
    rw[PN a i<|by lia];simpa using h2
   ·show(a.toList.take i).reverse=t
    rw[h1,Pm]
 gal:=λ{l q i Q st} hi hk hq hv S8 h=>by
  have hi:i<=a.size:=hi;have h0:i≠0:=λz=>hv (by subst z;rfl);refine r9 (P:=[]) (x:=a.toList.take i) (T:=a.toList.drop i) (by simp) rfl (by simpa using by lia) ka (sa.sublist (OU ..)) hk hq (by lia) (λc hc=>S8 c<|O_.mpr hc) λk h1 h2 h3=>?_;have ex:=lX (a:=a) k<|i - k;rw[show k+(i - k)=i by lia]at ex;rw[List.drop_take,<-ex]at h3;rw[Wy,show min k i=k by lia]at h2;refine h k (KE h1 hi) ?_ (λc hc=>h3 c<|by simpa [GX]using hc) (λc hc=>h2 c<|O_.mp hc) λhz=>?_
  ·show(a.toList.take i).reverse=(a.extract k i).reverse.toList++(a.toList.take k).reverse
   rw[SH,<-List.reverse_append,ex,<-List.take_add,show k+(i - k)=i by lia]
  ·show(a.extract k i).reverse.toList=[]
   rw[SH,ex,show i - k=0 from RA hz];rfl
theorem Fq(p:R)(i j:Nat):(BD a b p i j).toList=p.toList++(a.toList.drop i++b.toList.drop j):=by
 simp [BD,Jy]
theorem Fr(p:R)(i j:Nat):(EI a b p i j).toList=p.toList++(b.toList.drop j++a.toList.drop i):=by
 simp [EI,Jy]
theorem Fs(p:R):(BE a b p i j).toList=(p.toList++((b.toList.take j).reverse++(a.toList.take i).reverse)).reverse:=by
 simp [BE]
theorem Ft(p:R):(EJ a b p i j).toList=(p.toList++((a.toList.take i).reverse++(b.toList.take j).reverse)).reverse:=by
 simp [EJ]
section
variable (ka:C.Oks a)(kb:C.Oks b)(sa:a.toList.Pairwise C.lo)(sb:b.toList.Pairwise C.lo)(nd:((a.toList++b.toList).map C.num).Nodup)
include ka kb sa sb nd
theorem Do(g:∀c∈b.toList,∀p∈a.toList.drop (a.size - 1),C.lo c p):Dk C (zm a b) C.lo (a.toList++b.toList) 2 1:=by
 have la:∀i,((zm a b).a.v i).length=a.size - i:=λi=>by show(a.toList.drop i).length=_;simp
 have lb:∀j,((zm a b).b.v j).length=b.size - j:=λj=>by show(b.toList.drop j).length=_;simp
 have D:∀{o i j},MS (zm a b) C.lo (a.toList++b.toList) o i j->(i=a.size\/j=b.size)->oV C (a.toList++b.toList) (BD a b o i j):=λ{o i j} m e=>by
  unfold oV;rw[Fq];exact⟨m.m.p,m.m.end1<|e.imp (λe=>Kt.mp<|by rw[la];lia) λe=>Kt.mp<|by rw[lb];lia⟩
 have L:∀{o i j},MS (zm a b) C.lo (a.toList++b.toList) o i j->i+1=a.size->oV C (a.toList++b.toList) (EI a b o i j):=λ{o i j} m e=>by
  have hd:=Mk (l:=a.toList) (i:=i) (by simpa using by lia);rw[RE (l:=a.toList) (i:=i+1)<|by simpa using by lia]at hd;have m':MI C.lo (a.toList++b.toList) o.toList (a.toList.drop i) (b.toList.drop j):=m.m;unfold oV;rw[Fr,hd];rw[hd]at m';exact⟨m'.sw.p,m'.end2 (λ_ _ _=>MO) λc hc=>g c (SA hc) _<|by rw[show a.size - 1=i by lia,hd];exact Jf.mpr rfl⟩
 refine⟨rfl,rfl,rfl,rfl,rfl,by simp [zm],λ_ _ _=>MO,nd,λc hc=>(JA.mp hc).elim (ka c)<|kb c,vY ka sa,vY kb sb,by decide,by decide,λ{α p q x y Q st} ne h1 h2=>?_,λm hl hf hq=>?_,λm hl hf hq=>?_,λm hf hq=>?_,λm hf hq=>?_⟩
 ·exact c8 (λe=>h2<|Kd e) λe=>h1<|(T6<|Zm.mp λz=>e<|Jj z).resolve_right ne
 ·rw[la]at hl hq;exact gi (λe=>hf _<|L m e) λe=>hq (by lia)
 ·rw[lb]at hq;have:_<=b.size:=m.j;exact gi (λe=>hf _<|D m<|.inr e) λe=>hq (by lia)
 ·rw[la]at hq;have:_<=a.size:=m.i;exact gi (λe=>hf _<|L m e) λe=>gi (λe=>hf _<|D m<|.inl e) λe=>hq (by lia)
 ·rw[lb]at hq;have:_<=b.size:=m.j;exact gi (λe=>hf _<|D m<|.inr e) λe=>hq (by lia)
theorem Dp(g:∀c∈a.toList,∀q∈b.toList.take 1,C.lo q c):Dk C (vU a b) (λx y=>C.lo y x) (a.toList++b.toList) 1 2:=by
 have la:∀i,((vU a b).a.v i).length=min i a.size:=λi=>by show(a.toList.take i).reverse.length=_;simp
 have lb:∀j,((vU a b).b.v j).length=min j b.size:=λj=>by show(b.toList.take j).reverse.length=_;simp
 have rv:∀{l:IG Kq},l.Perm (a.toList++b.toList)->l.Pairwise (λx y=>C.lo y x)->l.reverse.Perm (a.toList++b.toList)/\l.reverse.Pairwise C.lo:=λh1 h2=>⟨(QD _).trans h1,O0.mpr h2⟩;have D:∀{o i j},MS (vU a b) (λx y=>C.lo y x) (a.toList++b.toList) o i j->(i=0\/j=0)->oV C (a.toList++b.toList) (BE a b o i j):=λ{o i j} m e=>by
  unfold oV;rw[Fs];exact rv m.m.sw.p (m.m.sw.end1<|e.symm.imp (λe=>by subst e;rfl) λe=>by subst e;rfl)
 have L:∀{o i j},MS (vU a b) (λx y=>C.lo y x) (a.toList++b.toList) o i j->j=1->oV C (a.toList++b.toList) (EJ a b o i j):=λ{o i j} m e=>by
  subst e;have hj:1<=b.size:=m.j;have hd:=OT (l:=b.toList) (i:=0) (by simpa using by lia);have m':MI (λx y=>C.lo y x) (a.toList++b.toList) o.toList (a.toList.take i).reverse (b.toList.take 1).reverse:=m.m;unfold oV;rw[Ft,hd];rw[hd]at m' g;exact rv m'.p<|m'.sw.end2 (λ_ _ _ h1 h2=>MO h2 h1) λc hc=>g c (MC<|O_.mp hc) _<|Jf.mpr rfl
 refine⟨rfl,rfl,rfl,rfl,rfl,by simp [vU],λ_ _ _ h1 h2=>MO h2 h1,nd,λc hc=>(JA.mp hc).elim (ka c)<|kb c,vZ ka sa,vZ kb sb,by decide,by decide,λ{α p q x y Q st} ne h1 h2=>?_,λm hl hf hq=>?_,λm hl hf hq=>?_,λm hf hq=>?_,λm hf hq=>?_⟩
 ·exact c8 (λe=>h1<|Kd e) λe=>h2<|(T6<|Zm.mp λz=>e<|Jj z).resolve_right ne
 ·rw[la]at hq;have:_<=a.size:=m.i;exact gi (λe=>hf _<|D m<|.inl e) λe=>hq (by lia)
 ·rw[lb]at hl hq;have:_<=b.size:=m.j;exact gi (λe=>hf _<|L m e) λe=>hq (by lia)
 ·rw[la]at hq;have:_<=a.size:=m.i;exact gi (λe=>hf _<|D m<|.inl e) λe=>hq (by lia)
 ·rw[lb]at hq;have:_<=b.size:=m.j;exact gi (λe=>hf _<|L m e) λe=>gi (λe=>hf _<|D m<|.inr e) λe=>hq (by lia)
variable (hk:kindOf st=C.kd)(na:1<=a.size)(nb:1<=b.size)(g0:∀ c∈a.toList,∀ q∈b.toList.take 1,C.lo q c)(g1:∀ c∈b.toList,∀ p∈a.toList.drop (a.size - 1),C.lo c p){Q:R->KD->Prop}(h:∀ x LI,fo st LI->oV C (a.toList++b.toList) x->Q x LI)
include hk na nb g0 g1 h
theorem HI:C.W (HG a b) Q st:=by
 have K:=Do ka kb sa sb nd g1;obtain⟨p,t,ep⟩:=lW (l:=(zm a b).a.v 0) (IX 1) (by show 1<=(a.toList.drop 0).length;simpa using na);obtain⟨q,u,eq⟩:=lW (l:=(zm a b).b.v 0) (IX 1) (by show 1<=(b.toList.drop 0).length;simpa using nb);have m:MS (zm a b) C.lo (a.toList++b.toList) #[q] 0 1:=vX K (o:=#[]) (j:=0) ⟨⟨.refl _,sa,sb⟩,Jw _,Jw _⟩ ep eq (g0 p (by rw[show a.toList=p::t from ep];simp) q<|by rw[show b.toList=q::u from eq];simp);rw[Di];refine JH<|Sm<|MY ⟨rfl,JH<|dg (K.b.at_ (Jw _) eq).1 ?_⟩;have sg:fo st st:=⟨rfl,rfl,rfl,rfl⟩;refine K.pb (f:=pure) m (VN ..) (λx hx=>J6<|h x _ sg hx) λh1=>K.pa (f:=pure) m ?_ (λx hx=>J6<|h x _ sg hx) λh2=>BF K hk ⟨m,h2,h1,?_⟩ h
 ·rw[ep];simp
 ·show(a.toList.drop 0).length+(b.toList.drop 1).length+1<=_
  simp;lia
theorem HJ:C.W (HH a b) Q st:=by
 have K:=Dp ka kb sa sb nd g0;obtain⟨p,t,ep⟩:=lW (l:=(vU a b).a.v a.size) (IX 1) (by show 1<=(a.toList.take a.size).reverse.length;simpa using na);obtain⟨q,u,eq⟩:=lW (l:=(vU a b).b.v b.size) (IX 1) (by show 1<=(b.toList.take b.size).reverse.length;simpa using nb);obtain⟨f1,f2,f3⟩:=K.a.at_ (IX _) ep;have va:∀{x:R},(x.toList.take x.size).reverse=x.toList.reverse:=λ{x}=>by rw[Jy<|by simp]
 have m:MS (vU a b) (λx y=>C.lo y x) (a.toList++b.toList) #[p] (a.size - 1) b.size:=by
  refine vW K (o:=#[]) (i:=a.size) ⟨⟨?_,?_,?_⟩,IX _,IX _⟩ ep eq<|g1 q ?_ p ?_
  ·show((a.toList.take a.size).reverse++(b.toList.take b.size).reverse).Perm _
   rw[va,va];exact(QD _).append<|QD _
  ·show(a.toList.take a.size).reverse.Pairwise _
   rw[va];exact O0.mpr sa
  ·show(b.toList.take b.size).reverse.Pairwise _
   rw[va];exact O0.mpr sb
  ·exact O_.mp<|va▸(show q∈(vU a b).b.v b.size by rw[eq];simp)
  ·have:a.toList.drop (a.size - 1)=[p]:=by
    have e:=Kp X' (show(a.toList.take a.size).reverse=p::t from ep);rw[va,Pm,UM]at e;have el:=Kp LX e;simp at el;rw[e,VQ<|by simp;lia]
   rw[this];exact Jf.mpr rfl
 rw[Dj];refine JH<|Sm<|MY ⟨rfl,JH<|dg f1 ?_⟩;have sg:fo st st:=⟨rfl,rfl,rfl,rfl⟩;refine K.pa (f:=pure) m (VN ..) (λx hx=>J6<|h x _ sg hx) λh1=>K.pb (f:=pure) m ?_ (λx hx=>J6<|h x _ sg hx) λh2=>BF K hk ⟨m,h1,h2,?_⟩ h
 ·rw[eq];simp
 ·show(a.toList.take<|a.size - 1).reverse.length+(b.toList.take b.size).reverse.length+1<=_
  simp;lia
end
end
section
variable {prog:Jc}{w:Jv}{A:JV}{E:IH->IM->Prop}{s:IM}{C:Cm prog w A E s}{a₀:R}{lo n:Nat}{st LI:KD}{xs:R}
structure Bs (C:Cm prog w A E s)(a₀:R):Prop where
 ok:C.Oks a₀
 nd:(a₀.toList.map C.num).Nodup
structure SL (C:Cm prog w A E s)(a₀:R)(lo:Nat)(st LI:KD):Prop where
 perm:(J7 LI).Perm a₀
 kind:kindOf LI=C.kd
 failed:Mm LI=IV
 pend:Ka LI=Ka st
 low:∀k,k < lo->(J7 LI)[k]? =(J7 st)[k]?
def Srt(C:Cm prog w A E s)(xs:R)(lo n:Nat):Prop:=∀i j,i < j->j < n->C.K xs (lo+i) < C.K xs (lo+j)
theorem Bs.of(b:Bs C a₀)(h:xs.Perm a₀):Bs C xs:=⟨λp hp=>b.ok p<|(M4.mp h).mem_iff.mp hp,((M4.mp h).map _).nodup_iff.mpr b.nd⟩
theorem Bs.ne(b:Bs C xs)(hi:i < xs.size)(hj:j < xs.size)(h:i≠j):C.K xs i≠C.K xs j:=by
 have:=(K_.mp b.nd);unfold Cm.K;rw[PN xs i hi,PN xs j hj];intro e;obtain g|g:=Nat.lt_or_gt_of_ne h
 ·exact Mj.mp this i j (by simpa using hi) (by simpa using hj) g (by simpa using e)
 ·exact Mj.mp this j i (by simpa using hj) (by simpa using hi) g (by simpa using e.symm)
theorem BG(hj:j<=xs.size)(k:Nat):C.K (X6 xs i j<|(j - i) / 2) k=if i<=k/\k < j then C.K xs (i+j - 1 - k)else C.K xs k:=by
 unfold Cm.K;rw[S3 hj]
 split<;>rfl
theorem BH(hs:src < xs.size)(hd:d<=src)(k:Nat):C.K (bubble xs src d) k=if k=src - d then C.K xs src else if src - d < k/\k<=src then C.K xs (k - 1)else C.K xs k:=by
 unfold Cm.K;rw[VM hs d hd]
 split
 ·rfl
 ·split<;>rfl
theorem v_(b:Bs C (J7 st))(hk:kindOf st=C.kd)(hi:i < (J7 st).size)(hj:j < (J7 st).size)(S8:i≠j)(h1:C.K (J7 st) i < C.K (J7 st) j->Q (B' IS) st)(h2:C.K (J7 st) j < C.K (J7 st) i->Q (B' IU) st):C.W (ltAt' i j) Q st:=by
 obtain⟨p,hp,ip,ep⟩:=Dg b.ok hi;obtain⟨p2,Vx,ip2,ep2⟩:=Dg b.ok hj;have ne:=b.ne hi hj S8;rw[ep,ep2]at h1 h2 ne;rw[ltAt'_eq];refine JH<|QA<|JH<|dg hp<|JH<|dg Vx<|C.lt hk ip ip2 ?_;by_cases g:C.num p < C.num p2
 ·rw[Jj g];exact h1 g
 ·rw[IW g];exact h2 (by lia)
theorem Srt.next(h1:1<=x)(h:Srt C xs lo x)(g:C.K xs (lo+x - 1) < C.K xs (lo+x)):Srt C xs lo (x+1):=λi j hij hj=>by
 by_cases hjx:j < x
 ·exact h i j hij hjx
 ·obtain rfl:j=x:=by lia
  by_cases e:i=j - 1
  ·rw[e,<-NH h1];exact g
  ·have:=h i (j - 1) (by lia) (by lia);rw[<-NH h1]at this;exact MO this g
section
variable (b:Bs C a₀)(h:SL C a₀ lo st LI)(hn:lo+n<=a₀.size)
include b h hn
theorem BI{f:Nat->IQ (IQ Nat)×Nat->QM KD Sem (NC<|IQ (IQ Nat)×Nat)}{Q:IQ (IQ Nat)×Nat->KD->Prop}(ha:1<=k)(han:k<=n)(hs:Srt C (J7 LI) lo k)
  (hf:∀x n,f x (IV,n)=(do
   let r <-ltAt' (lo+n) (lo+n - 1)
   match r with
   |some aa8=>if aa8=IS then pure (WB (IV,n))else pure (Os (IV,n+1))
   |_=>pure<|WB (B' IV,n)))
  (q:∀m,k<=m->m<=n->Srt C (J7 LI) lo m->(m=n\/C.K (J7 LI) (lo+m) < C.K (J7 LI) (lo+m - 1))->Q (IV,m) LI):C.W (forIn [k:n] ((IV,k):IQ (IQ Nat)×Nat) f) Q LI:=by
 refine Me (I:=λx c Nd=>Nd=LI/\c=(IV,x)/\Srt C (J7 LI) lo x) ?_ ?_ ⟨rfl,rfl,hs⟩
 ·rintro x c Nd hax hxn ⟨rfl,rfl,Vw⟩;have:=h.perm.size_eq;rw[hf];exact JH<|v_ (b.of h.perm) h.kind (by lia) (by lia) (by lia) (λg=>J6<|q x hax (by lia) Vw<|.inr g) λg=>J6 ⟨rfl,rfl,Vw.next (by lia) g⟩
 ·rintro c Nd ⟨rfl,rfl,Vw⟩;rw[show max k n=n by lia]at Vw ⊢;exact q n han (IX _) Vw<|.inl rfl
theorem Fu(h1:1<=n)(q:∀m Nd,SL C a₀ lo st Nd->1<=m->m<=n->Srt C (J7 Nd) lo m->Q (B' m) Nd):C.W (countRun' lo n) Q LI:=by
 have hsz:=h.perm.size_eq;rw[countRun'_eq];refine JH<|BI b h hn (IX 1) h1 (λi j _ _=>by lia) (λ_ _=>rfl) λm m1 m2 hs hor=>?_;dsimp only;refine c8 (λe=>J6<|q m _ h m1 m2 hs) λe=>?_;have M6:=hor.resolve_left (show¬m=n by simpa using e);have hmn:m < n:=Nat.lt_of_le_of_ne m2 (show¬m=n by simpa using e);refine c8 (λg=>JH<|v_ (b.of h.perm) h.kind (by lia) (by lia) (by lia) (λ_=>J6<|q m _ h m1 m2 hs) λg2=>?_) λg=>?_
 ·have:=hs 0 (m - 1) (by lia) (by lia);rw[PY,<-NH m1]at this;exact absurd g2 (by lia)
 ·obtain rfl:m=1:=by lia
  refine JH<|Sm<|MY ⟨rfl,?_⟩;refine JH<|Nr (Me (I:=λx c Nd=>Nd=LI/\c=(IV,x,0)/\∀i j,i < j->j < x->C.K (J7 LI) (lo+j) < C.K (J7 LI) (lo+i)) (Q:=λc Nd=>Nd=LI/\∃m,c=(IV,m,0)/\2<=m/\m<=n/\∀i j,i < j->j < m->C.K (J7 LI) (lo+j) < C.K (J7 LI) (lo+i)) ?_ ?_ ⟨rfl,rfl,λi j i1 i2=>?_⟩) ?_
  ·rintro x c Nd hax hxn ⟨rfl,rfl,hd⟩;dsimp only;refine JH<|v_ (b.of h.perm) h.kind (by lia) (by lia) (by lia) (λg=>J6 ⟨rfl,rfl,λi j i1 i2=>?_⟩) λg=>?_
   ·by_cases hj:j < x
    ·exact hd i j i1 hj
    ·obtain rfl:j=x:=by lia
     by_cases e:i=j - 1
     ·rw[e,<-NH<|by lia];exact g
     ·have:=hd i (j - 1) (by lia) (by lia);rw[<-NH<|by lia]at this;exact MO g this
   ·exact JH (v_ (b.of h.perm) h.kind (by lia) (by lia) (by lia) (λ_=>J6 ⟨rfl,x,rfl,hax,by lia,hd⟩) λg2=>absurd g2<|by lia)
  ·rintro c Nd ⟨rfl,rfl,hd⟩;rw[show max (1+1) n=n by lia]at hd ⊢;exact⟨rfl,n,rfl,by lia,IX _,hd⟩
  ·obtain rfl:i=0:=by lia
   obtain rfl:j=1:=by lia
   exact M6
  ·rintro c Nd ⟨rfl,m,rfl,c1,c2,hd⟩;dsimp only;have h5:SL C a₀ lo st (X5 Nd<|X6 (J7 Nd) lo (lo+m)<|(lo+m - lo) / 2):=⟨(mirror_perm _ _ _ _).trans h.perm,h.kind,h.failed,h.pend,λk hk=>by
    show(X6 (J7 Nd) lo (lo+m)<|(lo+m - lo) / 2)[k]? =_
    rw[S3 (by lia),JD<|by lia];exact h.low k hk⟩
   refine JH<|wpS_reverse<|JH<|BI b h5 hn (by lia) c2 (λu v huv hv=>?_) (λ_ _=>rfl) λm' d1 d2 Vw _=>J6<|q m' _ h5 (by lia) d2 Vw;show C.K (X6 (J7 Nd) lo (lo+m)<|(lo+m - lo) / 2) (lo+u) < C.K (X6 (J7 Nd) lo (lo+m)<|(lo+m - lo) / 2) (lo+v)
   rw[BG (by lia),BG (by lia),JF (by lia),JF<|by lia];have:=hd (m - 1 - v) (m - 1 - u) (by lia) (by lia)
   rwa [show lo+(lo+m) - 1 - (lo+u)=lo+(m - 1 - u) by lia,show lo+(lo+m) - 1 - (lo+v)=lo+(m - 1 - v) by lia]
theorem Fv{Q:Jm->KD->Prop}(hok:ok<=n)(h1:1<=n)(hs:Srt C (J7 LI) lo ok)
  (q:∀Nd,SL C a₀ lo st Nd->Srt C (J7 Nd) lo n->Q IS Nd):C.W (binarySort' lo n ok) Q LI:=by
 rw[binarySort'_eq];refine JH (Nr (Me (I:=λk c Nd=>c=(IV,())/\SL C a₀ lo st Nd/\Srt C (J7 Nd) lo (min k n))
  (Q:=λc Nd=>c=(IV,())/\SL C a₀ lo st Nd/\Srt C (J7 Nd) lo n) ?_ ?_ ⟨rfl,h,λi j hij hj=>hs i j hij<|by lia⟩) ?_)
 ·rintro k c Nd hak hkn ⟨rfl,h2,s2⟩;rw[show min k n=k by lia]at s2;have hsz:=h2.perm.size_eq;have bb:=b.of h2.perm;refine JH (Nr (Me (I:=λx c UT=>UT=Nd/\∃l r,c=(IV,l,r)/\l<=r/\r<=k/\r - l<=k - x/\(∀i,i < l->C.K (J7 Nd) (lo+i) < C.K (J7 Nd) (lo+k))/\(∀i,r<=i->i < k->C.K (J7 Nd) (lo+k) < C.K (J7 Nd) (lo+i)))
   (Q:=λc UT=>UT=Nd/\∃l,c=(IV,l,l)/\l<=k/\(∀i,i < l->C.K (J7 Nd) (lo+i) < C.K (J7 Nd) (lo+k))/\(∀i,l<=i->i < k->C.K (J7 Nd) (lo+k) < C.K (J7 Nd) (lo+i))) ?_ ?_ ⟨rfl,0,k,rfl,by lia,by lia,by lia,λi hi=>by lia,λi h1 h2=>by lia⟩) ?_)
  ·rintro x c UT _ hx ⟨rfl,l,r,rfl,b1,b2,b3,b4,b5⟩;dsimp only;refine c8 (λg=>?_) λg=>JH<|v_ bb h2.kind (by lia) (by lia) (by lia) (λgl=>J6 ⟨rfl,l,(l+r) / 2,rfl,by lia,by lia,by lia,b4,λi c1 c2=>?_⟩) λgl=>J6 ⟨rfl,(l+r) / 2+1,r,rfl,by lia,by lia,by lia,λi c1=>?_,b5⟩
   ·obtain rfl:l=r:=by lia
    exact J6 ⟨rfl,l,rfl,b2,b4,b5⟩
   ·obtain e|e:=OA c1
    ·exact e▸gl
    ·exact MO gl<|s2 _ _ e c2
   ·obtain e|e:=OA (QC c1)
    ·exact e▸gl
    ·exact MO (s2 _ _ e<|by lia) gl
  ·rintro c UT ⟨rfl,l,r,rfl,b1,b2,b3,b4,b5⟩;obtain rfl:l=r:=by lia
   exact⟨rfl,l,rfl,b2,b4,b5⟩
  ·rintro c UT ⟨rfl,l,rfl,b2,b4,b5⟩;dsimp only;rw[moveDown'_eq];refine JH<|Rq<|J6 ⟨rfl,⟨(bubble_perm _ _ _).trans h2.perm,h2.kind,h2.failed,h2.pend,λm hm=>?_⟩,λi j hij hj=>?_⟩
   ·show(bubble (J7 UT) (lo+k)<|lo+k - (lo+l))[m]? =_
    rw[VM (by lia) _ (by lia),JD (by lia),JD<|by lia];exact h2.low m hm
   ·show C.K (bubble (J7 UT) (lo+k)<|lo+k - (lo+l)) (lo+i) < C.K (bubble (J7 UT) (lo+k)<|lo+k - (lo+l)) (lo+j)
    rw[BH (by lia) (by lia),BH (by lia) (by lia),show lo+k - (lo+k - (lo+l))=lo+l by lia];have sub:∀u v,lo<=u->u < v->v < lo+k->C.K (J7 UT) u < C.K (J7 UT) v:=λu v c1 c2 c3=>by
     have:=s2 (u - lo) (v - lo) (by lia) (by lia)
     rwa [show lo+(u - lo)=u by lia,show lo+(v - lo)=v by lia]at this
    have up:∀u,lo+l<=u->u < lo+k->C.K (J7 UT) (lo+k) < C.K (J7 UT) u:=λu c1 c2=>by
     have:=b5 (u - lo) (by lia) (by lia)
     rwa [show lo+(u - lo)=u by lia]at this
    repeat' split
    all_goals first
     |lia
     |exact b4 _ (by lia)
     |exact up _ (by lia) (by lia)
     |exact sub _ _ (by lia) (by lia) (by lia)
 ·rintro c Nd ⟨hc,h2,s2⟩;exact⟨hc,h2,by rwa [show min (max (max ok 1) n) n=n by lia]at s2⟩
 ·rintro c Nd ⟨rfl,h2,s2⟩;exact J6<|q Nd h2 s2
end
end
theorem qw(i:Nat):UD i=(do
 let t <-get
 let (B' (sa,na,ade),B' (sb,nb,_)):=((Ka t)[i]?,(Ka t)[i+1]?)|unsupported "internal:list.sort.pending"
 set (Rt t<|((Ka t).setIfInBounds i (sa,na+nb,ade)).eraseIdxIfInBounds<|i+1)
 let B' k <-fT IU (<-Ra (J7 t) sb) (J7 t) sa na 0|return IU
 let (sa,na):=(sa+k,na - k)
 if na == 0 then return IS
 let B' nb <-fT IS (<-Ra (J7 t)<|sa+na - 1) (J7 t) sb nb (nb - 1)|return IU
 if nb == 0 then return IS
 let x:=(J7 t).extract sa sb
 let y:=(J7 t).extract sb (sb+nb)
 let m <-if na<=nb then HG x y else HH x y
 XT λt=>X5 t (m.toList.zipIdx.foldl (λa (p,j)=>a.setIfInBounds (sa+j) p)<|J7 t)
 return (Mm (<-get)).isNone):=rfl
theorem BJ(base:Nat):∀(m x P T:IG Kq) (k:Nat) (a:R),base+k=P.length->m.length=x.length->a.toList=P++(x++T)->((m.zipIdx k).foldl (λa (q:Kq×Nat)=>a.setIfInBounds (base+q.2) q.1) a).toList=P++(m++T)
 |[],x,P,T,k,a,_,h,e=>by
  obtain rfl:x=[]:=Kt.mp h.symm;exact e
 |p::m,[],P,T,k,a,_,h,e=>by cases h
 |p::m,y::x,P,T,k,a,hb,h,e=>by
  have:=BJ base m x (P++[p]) T (k+1) (a.setIfInBounds (base+k) p) (by simpa using by lia) (by simpa using h) (by rw[Qi,e,hb];simp);simpa using this
section
variable {prog:Jc}{w:Jv}{A:JV}{E:IH->IM->Prop}{s:IM}{C:Cm prog w A E s}{st LI:KD}
theorem HK{x1 x2 y1 y2 z:IG Kq}(hx:(x1++x2).Pairwise C.lo)(hy:(y1++y2).Pairwise C.lo)(a:∀c∈x1,∀d∈y1++y2,C.lo c d)(b:∀d∈y2,∀c∈x1++x2,C.lo c d)(r:z.Perm (x2++y1))(s:z.Pairwise C.lo):(x1++(z++y2)).Pairwise C.lo:=by
 have hm:∀c∈z,c∈x2\/c∈y1:=λc hc=>JA.mp<|r.mem_iff.mp hc;simp only [LV,JA]at hx hy a b ⊢
 grind
theorem Fw{Q:Pt->KD->Prop}{x:KD}(h:Q () x):wpS (Ju prog w) A E s (set x:QM KD Sem Pt) Q st:=by
 unfold wpS;rw[StateT.run_set];exact I0 ⟨rfl,h⟩
theorem zI{T:IG Kq}{Q:Jm->KD->Prop}(b:Bs C (J7 st))(hk:kindOf st=C.kd)(hf:Mm st=IV)(e:(Ka st).toList=l1++(P.length,x.length,pa)::(P.length+x.length,y.length,pb)::l2)(hi:l1.length=i)
  (ea:(J7 st).toList=P++(x++(y++T))) (n1:x≠[]) (n2:y≠[]) (sx:x.Pairwise C.lo) (sy:y.Pairwise C.lo)
  (q:∀z LI,kindOf LI=C.kd->Mm LI=IV->(Ka LI).toList=l1++(P.length,x.length+y.length,pa)::l2->(J7 LI).toList=P++(z++T)->z.Perm (x++y)->z.Pairwise C.lo->Q IS LI):C.W (UD i) Q st:=by
 obtain⟨e1,e2,e3⟩:(Ka st)[i]? =B' (P.length,x.length,pa)/\(Ka st)[i+1]? =B' (P.length+x.length,y.length,pb)/\(((Ka st).setIfInBounds i (P.length,x.length+y.length,pa)).eraseIdxIfInBounds (i+1)).toList=l1++(P.length,x.length+y.length,pa)::l2:=by
  rw[<-JQ,<-JQ,Array.toList_eraseIdxIfInBounds,Qi,e];subst hi;simp [List.eraseIdx_append];lia
 have hl:=Kp LX ea;simp only [I_,JE]at hl;have nd:=b.nd;rw[ea,JO,JO]at nd;have ne:∀c∈x,∀d∈y,C.num c≠C.num d:=λc hc d hd=>(LG.mp (LG.mp nd).2.1).2.2 _ (MK hc) _<|MK<|Na _ hd;have nxy:((x++y).map C.num).Nodup:=(JO▸(LG.mp nd).2.1).sublist (by simp);clear nd;obtain⟨q0,y',rfl⟩:=List.exists_cons_of_ne_nil n2;obtain⟨x',p0,rfl⟩:∃x' p0,x=x'++[p0]:=⟨_,_,(List.dropLast_concat_getLast n1).symm⟩;have at1:(J7 st)[P.length+(x'++[p0]).length]? =B' q0:=by
  rw[<-JQ,ea,<-JG,J0<|by simp];simp
 have at2:(J7 st)[P.length+x'.length]? =B' p0:=by
  rw[<-JQ,ea];simp
 have oq:C.ok q0:=b.ok q0 (by rw[ea];simp);have op:C.ok p0:=b.ok p0 (by rw[ea];simp);rw[qw];refine JH<|QA ?_;rw[e1,e2];dsimp only;refine JH<|Fw<|JH<|dg at1<|JH<|r9 ea rfl rfl b.ok sx hk oq (by simp) (λc hc=>ne c hc q0<|by simp) λk k1 k2 k3=>?_;dsimp only;generalize hX:x'++[p0]=X at*;have a1:∀c∈X.take k,∀d∈q0::y',C.lo c d:=λc hc d hd=>by
  obtain rfl|hd:=JC.mp hd
  ·exact k2 c hc
  ·exact MO (k2 c hc)<|Ql sy hd
 refine gi (λe=>J6<|q (X++q0::y') _ hk hf e3 (by rw[JG];exact ea) (.refl _)<|LV.mpr ⟨sx,sy,λc hc=>a1 c ?_⟩) λen=>?_
 ·rwa [Jy<|by lia]
 have hXl:=Kp LX hX;simp only [I_,JW]at hXl;rw[show P.length+k+(X.length - k) - 1=P.length+x'.length by lia];refine JH<|dg at2<|JH<|r9 (P:=P++X) (x:=q0::y') (T:=T) (by simpa using ea) (by simp) rfl b.ok sy hk op (by simp) (λd hd=>(ne p0 (by simp [<-hX]) d hd).symm) λn m1 m2 m3=>?_;dsimp only;have a2:∀d∈(q0::y').drop n,∀c∈X,C.lo c d:=λd hd c hc=>by
  rw[<-hX]at hc sx;obtain hc|hc:=JA.mp hc
  ·exact MO ((LV.mp sx).2.2 c hc p0<|Jf.mpr rfl)<|m3 d hd
  ·exact Jf.mp hc▸m3 d hd
 refine gi (λe=>J6<|q (X++q0::y') _ hk hf e3 (by rw[JG];exact ea) (.refl _)<|LV.mpr ⟨sx,sy,λc hc d hd=>a2 d ?_ c hc⟩) λen2=>?_
 ·subst e;exact hd
 have eX:((J7 st).extract (P.length+k)<|P.length+X.length).toList=X.drop k:=by
  have:=lX (a:=J7 st) (P.length+k)<|X.length - k;rw[show P.length+k+(X.length - k)=P.length+X.length by lia]at this;rw[this,ea,<-Qf,SE,List.drop_append_of_le_length k1,List.take_left'<|by simp]
 have eY:((J7 st).extract (P.length+X.length)<|P.length+X.length+n).toList=(q0::y').take n:=by
  rw[lX,ea,<-JG,VQ (by simp),List.take_append_of_le_length m1]
 have hy2:=KU n<|q0::y';have YQ:=KU k X;have kX:C.Oks ((J7 st).extract (P.length+k)<|P.length+X.length):=λc hc=>b.ok c (by rw[eX]at hc;rw[ea];simp [SA hc]);have kY:C.Oks ((J7 st).extract (P.length+X.length)<|P.length+X.length+n):=λc hc=>b.ok c (by rw[eY]at hc;rw[ea];simp only [JA];exact .inr<|.inr<|.inl<|MC hc);have nd2:((X.drop k++(q0::y').take n).map C.num).Nodup:=nxy.sublist<|((QF ..).append (OU ..)).map _;have sz:((J7 st).extract (P.length+k)<|P.length+X.length).size=X.length - k:=by rw[<-JE,eX,MV]
 have sz2:((J7 st).extract (P.length+X.length)<|P.length+X.length+n).size=n:=by rw[<-JE,eY,JN];lia
 have key:∀m Nd,fo (Rt st<|((Ka st).setIfInBounds i (P.length,X.length+(q0::y').length,pa)).eraseIdxIfInBounds<|i+1) Nd->oV C (((J7 st).extract (P.length+k)<|P.length+X.length).toList++((J7 st).extract (P.length+X.length)<|P.length+X.length+n).toList) m->C.W (do
   XT λt=>X5 t (m.toList.zipIdx.foldl (λa (p,j)=>a.setIfInBounds (P.length+k+j) p)<|J7 t)
   return (Mm (<-get)).isNone) Q Nd:=λm Nd sg hr=>by
  rw[eX,eY]at hr;refine JH<|Rq<|JH<|QA ?_;rw[show(Mm<|X5 Nd _).isNone=IS by rw[show Mm (X5 Nd _)=IV from sg.2.2.2.trans hf];rfl];refine J6<|q (X.take k++(m.toList++(q0::y').drop n)) _ (sg.1.trans hk) (sg.2.2.2.trans hf) (sg.2.2.1▸e3) ?_ ?_<|HK (YQ.symm▸sx) (hy2.symm▸sy) (hy2.symm▸a1) (YQ.symm▸a2) hr.1 hr.2
  ·have:=BJ (P.length+k) m.toList (X.drop k++(q0::y').take n) (P++X.take k) ((q0::y').drop n++T) 0 (J7 Nd) (by simpa using by lia) hr.1.length_eq (by
    rw[show J7 Nd=J7 st from sg.2.1,ea];simp only [JG];rw[<-JG<|List.take n _,hy2,<-JG<|X.take k,YQ])
   simpa using this
  ·refine(hr.1.append_right _|>.append_left _).trans ?_;rw[JG,hy2,<-JG,YQ]
 refine c8 (λ_=>JH<|HI kX kY ?_ ?_ ?_ (by exact hk) ?_ ?_ ?_ ?_ key) λ_=>JH<|HJ kX kY ?_ ?_ ?_ (by exact hk) ?_ ?_ ?_ ?_ key
 all_goals first
  |(rw[eX,eY];exact nd2)
  |(rw[eX];exact sx.sublist (QF ..))
  |(rw[eY];exact sy.sublist (OU ..))
  |(rw[sz];lia)
  |(rw[sz2];lia)
  |(rw[eX,eY,Wy]
    intro c hc d hd;rw[show min 1 n=1 by lia]at hd;exact Jf.mp hd▸k3 c hc)
  |(rw[eY,eX,sz,Qf,show k+(X.length - k - 1)=x'.length by lia,<-hX]
    intro c hc d hd;rw[SE]at hd;exact Jf.mp hd▸m2 c hc)
end
def HL(lo n:Nat):S (NC<|IQ Pt×Nat):=do
 XT λs=>Rt s ((Ka s).push (lo,n,0))
 return .yield (IV,lo+n)
def GZ(size lo n:Nat):S (NC<|IQ Pt×Nat):=do
 match (Ka (<-get)).back? with
 |some (s1,n1,_)=>
  let pw:=power' size (2*s1+n1) (2*s1+n1+n1+n) size
  let c <-forIn [0:size] ((IV,()):IQ Pt×Pt) λ_ _=>do
   let p:=Ka (<-get)
   match (if p.size > 1 then p[p.size - 2]? else IV)with
   |some (_,_,adh)=>
    if adh<=pw then return .done (IV,())
    else if(!(<-UD<|p.size - 2))=IS then return .done (B' (),())
    else return .yield (IV,())
   |_=>return .done (IV,())
  match c.1 with
  |some r=>return .done (B' r,lo)
  |none=>
   XT λs=>Rt s ((Ka s).modify ((Ka s).size - 1) λ(st,len,_)=>(st,len,pw))
   HL lo n
 |_=>HL lo n
theorem zJ:sortRuns'=(do
 let size:=(J7 (<-get)).size
 let c <-forIn [0:size] ((IV,0):IQ Pt×Nat) λ_ c=>do
  if c.2>=size then return .done (IV,c.2)
  else
   let B' n <-countRun' c.2 (size - c.2)|return .done (B' (),c.2)
   if n < VZ size size 0 then
    rule "list.sort.binary-insertion"
    if(!(<-binarySort' c.2 (min (size - c.2)<|VZ size size 0) n))=IS then return .done (B' (),c.2)
    else GZ size c.2 (min (size - c.2)<|VZ size size 0)
   else GZ size c.2 n
 match c.1 with
 |some r=>return r
 |none=>
  for _ in [0:size] do
   let p:=Ka (<-get)
   if p.size<=1 then break
   let i:=p.size - 2
   let before:=if i > 0 then p[i - 1]?.map (·.2.1)else IV
   let i:=if before.any (· < (p[i+1]?.elim 0 (·.2.1)))then i - 1 else i
   if !(<-UD i)then return):=by kernel_rfl
section
variable {prog:Jc}{w:Jv}{A:JV}{E:IH->IM->Prop}{s:IM}{C:Cm prog w A E s}{a₀:R}{hi:Nat}{st:KD}
inductive Rn (C:Cm prog w A E s):Nat->IG (Nat×Nat×Nat)->IG Kq->Prop
 |nil (lo:Nat):Rn C lo [] []
 |cons {lo p:Nat} {r:IG (Nat×Nat×Nat)} {x t:IG Kq} (h1:x≠[]) (h2:x.Pairwise C.lo) (h3:Rn C (lo+x.length) r t):Rn C lo ((lo,x.length,p)::r) (x++t)
theorem Rn.app{lo:Nat}{l1 l2:IG (Nat×Nat×Nat)}{t1 t2:IG Kq}(h:Rn C lo l1 t1)(h':Rn C (lo+t1.length) l2 t2):Rn C lo (l1++l2) (t1++t2):=by
 induction h with
 |nil=>exact h'
 |cons a b _ ih=>
  rw[JG];exact .cons a b (ih<|by rwa [I_,<-Ph]at h')
theorem Rn.split:∀{l1:IG (Nat×Nat×Nat)} {lo:Nat} {t:IG Kq},Rn C lo (l1++l2) t->∃t1 t2,t=t1++t2/\Rn C lo l1 t1/\Rn C (lo+t1.length) l2 t2
 |[],lo,t,h=>⟨[],t,rfl,.nil _,h⟩
 |_::l1,_,_,.cons (x:=x) a b h=>by
  obtain⟨t1,t2,rfl,h1,h2⟩:=Rn.split h;exact⟨x++t1,t2,by simp,.cons a b h1,by rwa [I_,<-Ph]⟩
theorem Rn.pow:∀{lo:Nat} {l l':IG (Nat×Nat×Nat)} {t:IG Kq},Rn C lo l t->l'.map (λq=>(q.1,q.2.1))=l.map (λq=>(q.1,q.2.1))->Rn C lo l' t
 |_,_,[],_,.nil lo,_=>.nil lo
 |_,_,_::_,_,.nil lo,e=>by cases e
 |_,_,[],_,.cons a b t,e=>by cases e
 |_,_,(u,v,p)::l',_,.cons a b t,e=>by
  obtain⟨e1,e2⟩:=aa4 e;cases e1;exact .cons a b<|t.pow e2
theorem Rn.len{lo:Nat}{l:IG (Nat×Nat×Nat)}{t:IG Kq}(h:Rn C lo l t):l.length<=t.length:=by
 induction h with
 |nil=>exact IX _
 |cons a _ _ ih=>
  have:=S6.mpr a;rw[JJ,I_];lia
structure SR (C:Cm prog w A E s)(a₀:R)(hi:Nat)(u:IG Kq)(st:KD):Prop where
 perm:(J7 st).Perm a₀
 kind:kindOf st=C.kd
 failed:Mm st=IV
 runs:∃t,(J7 st).toList=t++u/\t.length=hi/\Rn C 0 (Ka st).toList t
variable {u:IG Kq}
theorem wa(b:Bs C a₀)(h:SR C a₀ hi u st)(hl:i+1 < (Ka st).size)(q:∀LI,SR C a₀ hi u LI->(Ka LI).size+1=(Ka st).size->Q IS LI):C.W (UD i) Q st:=by
 obtain⟨t,ea,ht,hr⟩:=h.runs;have el:(Ka st).toList=(Ka st).toList.take i++((Ka st)[i]::(Ka st)[i+1]::(Ka st).toList.drop (i+2)):=by
  rw[<-SJ,<-SJ,<-Mk,<-Mk,KU]
 rw[el]at hr;obtain⟨P,t2,rfl,r1,r2⟩:=hr.split;rw[Mv]at r2;generalize (Ka st)[i]=q1,(Ka st)[i+1]=q2,(Ka st).toList.drop (i+2)=l2 at el r2;cases r2 with
 |cons n1 s1 r3=>
  cases r3 with
  |@cons _ _ _ y t3 n2 s2 r4=>
   rw[JG,JG,JG]at ea;refine zI (b.of h.perm) h.kind h.failed el (by simp;lia) ea n1 n2 s1 s2 λz LI k1 k2 k3 k4 pz sz=>?_;have lz:=pz.length_eq;rw[I_]at lz;refine q LI ⟨?_,k1,k2,P++(z++t3),by rw[k4];simp,?_,?_⟩ ?_
   ·refine .trans (M4.mpr ?_) h.perm;have:=(pz.append_right<|t3++u).append_left P;rw[JG]at this
    rwa [k4,ea]
   ·rw[<-ht];simp [lz,Ph]
   ·rw[k3,<-lz];exact r1.app (by rw[Mv];exact .cons (λe=>n1<|by rw[e]at lz;exact Kt.mp<|by simp at lz;lia) sz<|by rwa [lz,<-Ph])
   ·have e1:=Kp LX k3;have e2:=Kp LX el;simp only [I_,JJ,JE]at e1 e2;lia
theorem SR.push(h:SR C a₀ hi u st)(hn:1<=n)(hu:n<=u.length)(h2:(u.take n).Pairwise C.lo):SR C a₀ (hi+n) (u.drop n) (Rt st<|(Ka st).push (hi,n,0)):=by
 obtain⟨t,ea,ht,hr⟩:=h.runs;subst ht;have hl:(u.take n).length=n:=by rw[JN];lia
 refine⟨h.perm,h.kind,h.failed,t++u.take n,by rw[JG,KU];exact ea,by rw[I_,hl],?_⟩;show Rn C 0 ((Ka st).push (t.length,n,0)).toList _
 rw[NJ];refine hr.app ?_;have:=Rn.cons (C:=C) (lo:=t.length) (p:=0) (x:=u.take n) (λe=>by rw[e]at hl;simp at hl;lia) h2<|.nil _;rw[Mv]
 rwa [hl,Kg]at this
theorem BK{n lo:Nat}{Q:NC (IQ Pt×Nat)->KD->Prop}(h:SR C a₀ lo u st)(hn:1<=n)(hu:n<=u.length)(h2:(u.take n).Pairwise C.lo)(q:∀LI,SR C a₀ (lo+n) (u.drop n) LI->Q (.yield (IV,lo+n)) LI):C.W (HL lo n) Q st:=
 JH (Rq<|J6<|q _<|h.push hn hu h2)
theorem zK{α β:Type}(g:α->β)(f:α->α)(hf:∀x,g (f x)=g x)(l:IG α)(i:Nat):(l.modify i f).map g=l.map g:=by
 refine NI λj=>?_;rw[Jx,Jx,List.getElem?_modify];cases l[j]? with
 |none=>rfl
 |some a=>
  show B' (g (if i=j then f a else a))=B' (g a)
  split
  ·rw[hf]
  ·rfl
theorem BL{size n lo:Nat}{Q:NC (IQ Pt×Nat)->KD->Prop}(b:Bs C a₀)(h:SR C a₀ lo u st)(hn:1<=n)(hu:n<=u.length)(h2:(u.take n).Pairwise C.lo)(q:∀LI,SR C a₀ (lo+n) (u.drop n) LI->Q (.yield (IV,lo+n)) LI):C.W (GZ size lo n) Q st:=by
 unfold GZ;refine JH<|QA ?_
 split
 ·refine JH<|Nr (Me (I:=λ_ c st4=>c=(IV,())/\SR C a₀ lo u st4) (Q:=λc st4=>c=(IV,())/\SR C a₀ lo u st4) ?_ (λ_ _ z=>z) ⟨rfl,h⟩) ?_
  ·rintro y c st4 _ _ ⟨rfl,r4⟩;refine JH<|QA ?_;dsimp only
   split
   ·rename_i e;have hgt:(Ka st4).size > 1:=by
     split at e
     ·assumption
     ·cases e
    exact c8 (λ_=>J6 ⟨rfl,r4⟩) λ_=>JH<|wa b r4 (by lia) λst5 r5 _=>J6 ⟨rfl,r5⟩
   ·exact J6 ⟨rfl,r4⟩
  ·rintro c st4 ⟨rfl,r4⟩;obtain⟨t,ea,ht,hr⟩:=r4.runs;refine JH<|Rq<|BK ⟨r4.perm,r4.kind,r4.failed,t,ea,ht,hr.pow ?_⟩ hn hu h2 q;show WA _ ((Ka st4).modify _ _).toList=_
   rw[Array.toList_modify];exact zK (λq:Nat×Nat×Nat=>(q.1,q.2.1)) _ (by exact λ_=>rfl) _ _
 ·exact BK h hn hu h2 q
theorem j9:∀fuel n r,1<=n->1<=VZ fuel n r
 |0,n,r,h=>KE h<|Vd _ _
 |fuel+1,n,r,h=>by
  rw[minRun'_succ]
  split
  ·lia
  ·exact j9 fuel (n / 2) _ (by lia)
theorem SL.sr{lo n:Nat}{LI:KD}(h:SL C a₀ lo st LI)(r:SR C a₀ lo u st)(hn:lo+n<=a₀.size)(hs:Srt C (J7 LI) lo n):∃u',SR C a₀ lo u' LI/\n<=u'.length/\(u'.take n).Pairwise C.lo:=by
 obtain⟨t,ea,ht,hr⟩:=r.runs;have hsz:=h.perm.size_eq;have e:(J7 LI).toList=t++(J7 LI).toList.drop lo:=by
  rw[<-KU lo (J7 LI).toList]
  congr 1
  ·refine NI λk=>?_;by_cases hk:k < lo
   ·have:=h.low k hk;rw[QW hk,JQ,this,<-JQ,ea,JP<|by lia]
   ·rw[KG (by simp;lia),KG<|by lia]
  ·simp
 refine⟨(J7 LI).toList.drop lo,⟨h.perm,h.kind,h.failed,t,e,ht,h.pend▸hr⟩,by simp;lia,?_⟩;rw[Mj];intro i j hi hj hij;simp only [JN,MV,JE]at hi hj;have:=hs i j hij (by lia);rw[<-Kg<|List.drop lo _]at e;rw[<-ht,qv e (by simp;lia),qv e<|by simp;lia]at this;rw[QE,QE];subst ht;exact this
theorem Dq(b:Bs C a₀)(h:SR C a₀ 0 u st)(h2:1<=a₀.size)(q:∀LI,(J7 LI).Perm a₀->Mm LI=IV->(J7 LI).toList.Pairwise C.lo->Q () LI):C.W sortRuns' Q st:=by
 rw[zJ];refine JH<|QA ?_;dsimp only;rw[h.perm.size_eq];have hmr:=j9 a₀.size a₀.size 0 h2;generalize VZ a₀.size a₀.size 0=mr at hmr;refine JH (Nr (Me (I:=λx c LI=>∃lo u,c=(IV,lo)/\SR C a₀ lo u LI/\(x<=lo\/lo=a₀.size))
  (Q:=λc LI=>c=(IV,a₀.size)/\∃u,SR C a₀ a₀.size u LI) ?_ ?_ ⟨0,u,rfl,h,.inl<|IX _⟩) ?_)
 ·rintro x c LI _ hx ⟨lo,u,rfl,r,hxl⟩;obtain⟨t,ea,ht,_⟩:=r.runs;have eB:=Kp LX ea;rw[I_,JE,r.perm.size_eq]at eB;dsimp only;refine c8 (λg=>?_) λg=>?_
  ·obtain rfl:lo=a₀.size:=by lia
   exact J6 ⟨rfl,u,r⟩
  refine JH<|Fu b (st:=LI) ⟨r.perm,r.kind,r.failed,rfl,λ_ _=>rfl⟩ (by lia) (by lia) λm Nd h2 XJ ZT Vv=>?_;dsimp only;refine c8 (λgm=>JH<|Sm<|MY ⟨rfl,JH<|Fv b h2 (n:=min (a₀.size - lo) mr) (by lia) (by lia) (by lia) Vv λUT h3 s3=>?_⟩) λgm=>?_
  ·obtain⟨u3,r3,a1,a2⟩:=h3.sr r (by lia) s3;exact BL b r3 (by lia) a1 a2 λst4 r4=>⟨_,_,rfl,r4,by lia⟩
  ·obtain⟨u3,r3,a1,a2⟩:=h2.sr r (by lia) Vv;exact BL b r3 XJ a1 a2 λst4 r4=>⟨_,_,rfl,r4,by lia⟩
 ·rintro c LI ⟨lo,u,rfl,r,hx⟩;obtain⟨t,ea,ht,_⟩:=r.runs;have eB:=Kp LX ea;rw[I_,JE,r.perm.size_eq]at eB;obtain rfl:lo=a₀.size:=by lia
  exact⟨rfl,u,r⟩
 ·rintro c LI ⟨rfl,u,r⟩;have len:∀{st},SR C a₀ a₀.size u st->(Ka st).size<=a₀.size:=λr=>by
   obtain⟨t,_,ht,hr⟩:=r.runs;have:=hr.len
   rwa [JE,ht]at this
  refine JH<|Nr (Me (I:=λx c Nd=>c=(IV,())/\SR C a₀ a₀.size u Nd/\((Ka Nd).size+x<=a₀.size\/(Ka Nd).size<=1)) (Q:=λc Nd=>c=(IV,())/\SR C a₀ a₀.size u Nd/\(Ka Nd).size<=1) ?_ ?_ ⟨rfl,r,.inl (by have:=len r;lia)⟩) ?_
  ·rintro x c Nd _ hx ⟨rfl,r2,YQ⟩;refine JH (QA<|c8 (λg=>J6 ⟨rfl,r2,g⟩) λg=>JH<|wa b r2 ?_ λUT r3 e3=>J6 ⟨rfl,r3,by lia⟩)
   repeat' split
   all_goals lia
  ·rintro c Nd ⟨rfl,r2,YQ⟩;exact⟨rfl,r2,by lia⟩
  ·rintro c Nd ⟨rfl,r2,YQ⟩;obtain⟨t,ea,ht,hr⟩:=r2.runs;refine J6<|q Nd r2.perm r2.failed ?_;have el:=Kp LX ea;rw[I_,JE,r2.perm.size_eq,ht]at el;rw[ea,Kt.mp (show u.length=0 by lia),Kg];rw[<-JE]at YQ;generalize (Ka Nd).toList=l at hr YQ;cases hr with
   |nil=>exact .nil
   |cons _ s r=>
    cases r with
    |nil=>simpa using s
    |cons=>simp only [JJ]at YQ;lia
end
def sH(h:JM)(b:IL)(us:IG IH):JM:=((h.update b<|Lb λ_=>#[]).push<|KZ "tuple" us.toArray 0).push<|KZ "list" #[] 0
theorem oW{α β:Type}{F:α->β->Prop}{bs bs':IG β}(p:bs'.Perm bs):∀{as:IG α},Paired F as bs->∃as',Paired F as' bs'/\as'.Perm as:=by
 induction p with
 |nil=>exact λh=>⟨_,h,.refl _⟩
 |cons x _ ih=>
  rintro _ (_|⟨r,t⟩);obtain⟨as',h1,h2⟩:=ih t;exact⟨_,.cons r h1,h2.cons _⟩
 |swap x y l=>
  rintro _ (_|⟨r,_|⟨r',t⟩⟩);exact⟨_,.cons r'<|.cons r t,.swap ..⟩
 |trans _ _ ih1 ih2=>
  intro as h;obtain⟨a1,h1,p1⟩:=ih2 h;obtain⟨a2,h2,p2⟩:=ih1 h1;exact⟨a2,h2,p2.trans p1⟩
theorem paired_at'{α β:Type}{F:α->β->Prop}{as:IG α}{bs:IG β}(h:Paired F as bs):∀{i:Nat} {b:β},bs[i]? =B' b->∃a,as[i]? =B' a/\F a b:=by
 induction h with
 |nil=>intro i b e;simp at e
 |cons r _ ih=>
  intro i b e;cases i with
  |zero=>exact⟨_,rfl,Jo e▸r⟩
  |succ i=>exact ih e
section
variable {prog:Jc}{w:Jv}{A:JV}{E:IH->IM->Prop}{s:IM}{κ:Type}{is:κ->IH->Prop}{key:κ->Int}
open Classical in
noncomputable def Dr (is:κ->IH->Prop)(key:κ->Int)(v:IH):Int:=if h:∃k,is k v then key h.choose else 0
theorem qx(inj:∀k k' v,is k v->is k' v->k=k')(h:is k v):Dr is key v=key k:=by
 unfold Dr;rw[dif_pos ⟨k,h⟩,inj _ k v (Exists.choose_spec (p:=λk=>is k v) ⟨k,h⟩) h]
theorem r_(inj:∀k k' v,is k v->is k' v->k=k')(h:Paired is ks us):us.map (Dr is key)=ks.map key:=by
 induction h with
 |nil=>rfl
 |cons r _ ih=>rw[J',J',ih,qx inj r]
theorem sort_gen{R:Z_->IM->Prop}{kd:Ww}(hb:s.heap.get? b=B' (KZ "list" us.toArray ep))(hz:us.length<=10000)(inj:∀k k' v,is k v->is k' v->k=k')(hk:Paired is ks us)(nd:(ks.map key).Nodup)
  (kk:2<=us.length->∀{Q:Ww->IM->Prop},Q kd {s with heap:=sH s.heap b us}->wpAny (Ju prog w) A (keyKind' us.toArray) Q E {s with heap:=sH s.heap b us})
  (lt:∀{E':IH->IM->Prop} {k k':κ} {x y:IH} {Q:Jm->IM->Prop},is k x->is k' y->Q (decide (key k < key k')) {s with heap:=sH s.heap b us}->wpAny (Ju prog w) A (keyLt' kd x y) Q E' {s with heap:=sH s.heap b us})
  (q:∀zs V2,Paired is V2 zs->V2.Perm ks->(V2.map key).Pairwise (· < ·)->R (.done<|.ret .none) {s with heap:=Wt s.heap b us zs.toArray}):wpAny (Ju prog w) A (Builtin.«list.sort» ⟨[.ref b],[]⟩) R E s:=by
 let C:Cm prog w A E {s with heap:=sH s.heap b us}:=⟨λp=>Dr is key p.1,λp=>∃k,is k p.1,kd,λ{x y Q st} e ⟨k,h1⟩ ⟨k',h2⟩ h=>by
  rw[qx inj h1,qx inj h2]at h;rw[lt'_eq];refine JH<|QA ?_;rw[e];exact JH<|Sm<|QP<|lt h1 h2 ⟨rfl,J6 h⟩⟩
 have line:∀{n:Nat},n<=10000->n<=sizeLine:=λz=>by rw[KS];lia
 have fin:∀t,(J7 t).Perm (VY us)->(J7 t).toList.Pairwise C.lo->R (.done<|.ret .none) {s with heap:=Wt s.heap b us ((J7 t).map (·.2))}/\((J7 t).map (·.2)).size<=sizeLine:=λt hp hs=>by
  have hl:(J7 t).toList.Perm (us.zip us):=by rw[<-Sq];exact M4.mp hp
  have e:((J7 t).map (·.2)).toList=(J7 t).toList.map (·.2):=Array.toList_map;have hm:((J7 t).toList.map (·.2)).Perm us:=by
   have:=hl.map (·.2)
   rwa [Vf<|IX _]at this
  obtain⟨V2,h1,h2⟩:=oW hm hk;refine⟨?_,by rw[SI,hp.size_eq,pairsOf_size];exact line hz⟩;have:=q _ V2 h1 h2 (by
   rw[<-r_ inj h1,KJ,Kw];refine hs.imp_of_mem λ{x y} hx hy h=>?_;have e1:=(Rv<|hl.mem_iff.mp hx).1;have e2:=(Rv<|hl.mem_iff.mp hy).1;show Dr is key x.2 < Dr is key y.2
   rw[<-e1,<-e2];exact h)
  rwa [<-e]at this
 rw[list_sort_plain];have M6:b < s.heap.objs.size:=Jh hb;obtain⟨e1,hb1⟩:∃x,(s.heap.update b (Lb λ_=>#[])).get? b=B' (KZ "list" #[] x):=⟨_,Pz hb _⟩;have hb2:(sH s.heap b us).get? b=B' (KZ "list" #[] e1):=IP _ (IP _ hb1);refine II (UE hb rfl (II (Oj hb rfl ?_ (by rw[Jn];exact line hz))));refine II (So hb1 rfl (II (V8 (II (Pc (Ks ?_))) (by simpa using line hz))));show wpAny (Ju prog w) A _ R E {s with heap:=sH s.heap b us}
 have go:∀t,Mm t=IV->(J7 t).Perm (VY us)->(J7 t).toList.Pairwise C.lo->wpAny (Ju prog w) A (do
   let touched:=(<-seqEpoch b) != e1
   XC (.ref b) λ_=>(J7 t).map (·.2)
   if let B' e:=Mm t then rule "list.sort.comparison-raised";throw e
   if touched then rule "list.sort.modified";raiseError "ValueError" "list modified during sort"
   ret .none) R E {s with heap:=sH s.heap b us}:=λt h0 h1 h2=>by
  obtain⟨f1,f2⟩:=fin t h1 h2;refine II<|So hb2 rfl<|II<|Oj hb2 rfl ?_ (Jw _)<|UI f2;rw[h0];simp only [Ue,JK,MX];exact I0 f1
 by_cases g:us.toArray.size < 2
 ·rw[JF g,JF g];refine II<|I0 ?_;dsimp only;rw[VA];refine II<|I0<|go (Qc general' (us.toArray.zip us.toArray) #[] 7 IV) rfl (.refl _) ?_;have hl:(us.toArray.zip us.toArray).toList.length < 2:=by simpa using g
  show(us.toArray.zip us.toArray).toList.Pairwise C.lo
  generalize (us.toArray.zip us.toArray).toList=l at hl
  match l,hl with
  |[],_=>exact .nil
  |[x],_=>exact List.pairwise_singleton _ _
 ·rw[JD g,JD g];rw[Jn]at g;refine II<|kk (by lia) ?_;have hB:Bs C (VY us):=⟨λp hp=>?_,?_⟩
  ·refine II<|J2 (Dq (C:=C) (u:=(VY us).toList) (Q:=λ_ t=>(J7 t).Perm (VY us)/\Mm t=IV/\(J7 t).toList.Pairwise C.lo) hB ⟨.refl _,rfl,rfl,[],rfl,rfl,.nil _⟩ (by rw[pairsOf_size];lia) λt z1 z2 z3=>⟨z1,z2,z3⟩) ?_ λ_ _ z=>z;rintro⟨⟨⟩,t⟩ s2 ⟨rfl,z1,z2,z3⟩;exact go t z2 z1 z3
  ·rw[Sq]at hp;have hm:=(Rv hp).2;obtain⟨i,hi⟩:=Mn.mp hm;obtain⟨k,_,h⟩:=paired_at' hk hi;exact⟨k,h⟩
  ·rw[Sq];show((us.zip us).map<|Dr is key∘Prod.fst).Nodup
   rw[<-KJ,List.map_fst_zip<|IX _,r_ inj hk];exact nd
end
end TS
namespace L2
open PySem PySem.Spec PyProof.Rows
theorem lY{α β:Type}{F:α->β->Prop}:∀{as:IG α} {bs:IG β},as.length=bs.length->(∀(i:Nat) a b,as[i]? =B' a->bs[i]? =B' b->F a b)->Paired F as bs
 |[],[],_,_=>.nil
 |[],_::_,h,_=>by cases h
 |_::_,[],h,_=>by cases h
 |a::as,b::bs,h,f=>.cons (f 0 a b rfl rfl)<|lY (by simpa using h) λi a b h1 h2=>f (i+1) a b h1 h2
structure SK (X:Cx)(H:Hp)(κ:Type) where
 vr:κ->V->Prop
 key:κ->Int
 kd:Ww
 hp:JM->Prop
 mono:∀{h h'},hp h->(∀b o,h.get? b=B' o->h'.get? b=B' o)->hp h'
 inj:∀{k k' x x' v},vr k x->RelV x v->vr k' x'->RelV x' v->k=k'
 kk:∀{A E s Q us} {ks:IG κ},hp s.heap->2<=us.length->Paired (λk v=>∃x,vr k x/\RelV x v) ks us->Q kd s->wpAny (Ju X.prog X.w) A (keyKind' us.toArray) Q E s
 lt:∀{A E s Q k k' x x' v v'},hp s.heap->vr k x->RelV x v->vr k' x'->RelV x' v'->Q (decide (key k < key k')) s->wpAny (Ju X.prog X.w) A (keyLt' kd v v') Q E s
section
variable {X:Cx}{H:Hp}{κ:Type}(S:SK X H κ){IT:IG (IL×Obj)}{σ:St}{s:IM}{vs:IG IH}{ks:IG κ}{Q:VK}
theorem zL(h:Paired (λk v=>∃x,S.vr k x/\RelV x v) ks zs):∃ts,Vals ts zs/\Paired S.vr ks ts:=by
 induction h with
 |nil=>exact⟨[],.nil,.nil⟩
 |cons r _ ih=>
  obtain⟨x,r1,r2⟩:=r;obtain⟨ts,h1,h2⟩:=ih;exact⟨x::ts,.cons r2 h1,.cons r1 h2⟩
theorem j_(I:Inv X IT σ H s)(hp:S.hp s.heap)(hz:vs.length<=9000)(hk:Paired (λk v=>∃x,S.vr k x/\RelV x v) ks vs)(nd:(ks.map S.key).Nodup)
  (q:∀l ts V2,H l=IV->V2.Perm ks->(V2.map S.key).Pairwise (· < ·)->Paired S.vr V2 ts->Q (.ref l) (upd H l<|.lst ts)):
  wpAny (Ju X.prog X.w) X.A.in1 (do
   let l <-newList vs
   let _ <-SO [l] (call (.builtin "list.sort") [l] [])
   ret l) (λr s'=>∃v,r=.done (.ret v)/\EP X IT σ Q v s') X.xe s:=by
 refine II (Pc ?_<|by rw[KS];lia);have ZS:(s.heap.push<|KZ "list" vs.toArray 0).get? s.heap.objs.size=B' (KZ "list" vs.toArray 0):=JB _ rfl;have Vx:S.hp (TS.sH (s.heap.push<|KZ "list" vs.toArray 0) s.heap.objs.size vs):=S.mono hp λb o e=>IP _<|IP _<|(JR _ _<|MN<|Jh e).trans<|IP _ e;refine II<|Ks<|Nn Sn ⟨_,ZS,rfl⟩ RP (TS.sort_gen (key:=S.key) (kd:=S.kd) ZS (by lia) (λk k' v ⟨x,r1,r2⟩ ⟨x',r3,r4⟩=>S.inj r1 r2 r3 r4) hk nd (λh2=>S.kk Vx h2 hk) (λ⟨x,r1,r2⟩ ⟨x',r3,r4⟩=>S.lt Vx r1 r2 r3 r4) λzs V2 h1 h2 h3=>⟨_,rfl,?_⟩)<|Wv _;obtain⟨ts,rv,rt⟩:=zL S h1;obtain⟨e,he⟩:=Xj (out:=zs.toArray) ZS;refine I0 ⟨_,rfl,.ref s.heap.objs.size,_,I.laid (o:=.lst ts) (t':=s.toks) (λb o eb=>?_) (IX _) ⟨?_,zs,e,rv,he⟩,rfl,q _ ts V2 (I.hok.fresh<|IX _) h2 h3 rt⟩
 ·have hb:b < s.heap.objs.size:=Jh eb;rw[Ws (Js hb)<|by rw[TQ];exact LF hb];exact IP _ eb
 ·have l1:=Paired.length rt;have l2:=Paired.length hk;rw[<-l1,h2.length_eq,l2];exact KM (vO<|by lia)
def BM(X:Cx)(H:Hp):SK X H Int where
 vr:=λk x=>x=.int k
 key:=λk=>k
 kd:=oneType'
 hp:=λ_=>True
 mono:=λh _=>h
 inj:=by
  rintro k k' _ _ v rfl ⟨t,rfl⟩ rfl ⟨t',e⟩;cases e;rfl
 kk:=λ{A E s Q us ks} _ h2 h q=>by
  have hi:M5 us ks:=by
   clear h2
   induction h with
   |nil=>exact .nil
   |cons r _ ih=>
    obtain⟨_,rfl,t,rfl⟩:=r;exact .cons _ t ih
  match us,h2 with
  |v1::v2::vr,_=>
   rw[keyKind_ints hi];exact I0 q
 lt:=by
  rintro A E s Q k k' _ _ _ _ _ rfl ⟨t,rfl⟩ rfl ⟨t',rfl⟩ q;exact oneLt_int q
theorem uq{ks:IG Int}{ts:IG V}(h:Paired (BM X H).vr ks ts):ts=ks.map V.int:=by
 induction h with
 |nil=>rfl
 |cons r _ ih=>rw[J',ih,show _=V.int _ from r]
theorem qy(hc:X.calm=IS):dJ X (.builtin "sorted") (λxs H Q=>∃p kvs ks,xs=[.ref p]/\H p=B' (.dK kvs)/\kvs.map (·.1)=ks.map Ke/\ks.length<=9000/\
  ∀l QX,H l=IV->Rg QX ks->Pi (·<=·) QX->Q (.ref l) (upd H l<|.lst<|WA V.int QX)):=by
 intro IT s σ H xs us Q I r h;obtain⟨p,kvs,ks,rfl,hp,hk,ZY,q⟩:=h;obtain⟨u,rfl,ru⟩:=eZ r;cases ru;obtain⟨z,hd,vs,QI,dd⟩:kvs.length<=sizeLine/\(p == Mb)=IU/\∃vs,KV kvs vs/\s.heap.DictOf (bi X.prog X.w) p vs:=I.hok p _ hp;obtain⟨ep,ZX⟩:=dd.dictAt;have Lx:kvs.length=vs.length:=Paired.length QI;have e1:vs.map (·.1)=ks.map Ke:=by
  rw[<-hk];clear hk hp ZX dd Lx z
  induction QI with
  |nil=>rfl
  |cons r _ ih=>rw[J',J',ih,r.1]
 have hkl:=Kp LX e1;simp only [IR]at hkl;refine N7 Ss Ru Rw (UF _) ?_;unfold Builtin.«sorted»;refine II (m:=Tr "sorted" 1 1 _)<|I0 ?_;refine II<|PJ (A:=X.A.in1) (U7 (knd:=bi X.prog X.w) (kvs:=vs) (ep:=ep) hd) (I.ok.hd hc) ZX (by lia) λh' tk M7 hkp XO=>?_;have hl:M7.toList.length=vs.length:=by rw[JE];exact XO.1
 refine j_ (BM X H) (s:={s with heap:=h',toks:=tk}) (ks:=ks) (I.kept hkp) trivial (by lia) ?_ ?_ λl ts V2 h1 h2 h3 h4=>?_
 ·refine lY (by lia) λi k v Oc hv=>?_;obtain⟨k2,x,hx,hkv⟩:=XO.2 i v (by rw[<-JQ];exact hv);have e2:=Kp (·[i]?) e1;simp only [Jx,hx,Oc,Oq]at e2;cases Jo e2;obtain⟨t,et⟩:=ON (k:=k) (v:=v) hkv;exact⟨.int k,rfl,t,et⟩
 ·obtain⟨_,_,_,_,_,_,_,_,nd⟩:=dd;rw[e1,K_,Kw]at nd;exact(RB ks).symm▸nd.imp λh z=>h<|Kp _ z
 ·rw[uq h4];exact q l V2 h1 h2<|((RB V2)▸h3).imp UQ
end
mutual
def RD(H:Hp):Jg->V->Prop
 |.none,v=>v=.non
 |.bool b,v=>v=.bl b
 |.int i,v=>v=.int i
 |.str x,v=>v=.str x
 |.list ds,v=>∃a xs,v=.ref a/\H a=B' (.lst xs)/\dC H ds xs
 |.tuple ds,v=>∃a xs,v=.ref a/\H a=B' (.tup xs)/\dC H ds xs
 |.dict _,_=>False
def dC(H:Hp):IG Jg->IG V->Prop
 |[],xs=>xs=[]
 |d::ds,xs=>∃y ys,xs=y::ys/\RD H d y/\dC H ds ys
end
theorem bG(h:H a=B' (.lst xs))(r:dC H ds xs):RD H (.list ds) (.ref a):=by
 unfold RD;exact⟨a,xs,rfl,h,r⟩
theorem bj(h:H a=B' (.tup xs))(r:dC H ds xs):RD H (.tuple ds) (.ref a):=by
 unfold RD;exact⟨a,xs,rfl,h,r⟩
theorem fq(h:RD H (.list ds) v):∃a xs,v=.ref a/\H a=B' (.lst xs)/\dC H ds xs:=by
 unfold RD at h;exact h
theorem aK(h:RD H (.tuple ds) v):∃a xs,v=.ref a/\H a=B' (.tup xs)/\dC H ds xs:=by
 unfold RD at h;exact h
theorem zM:RD H .none .non:=by unfold RD;rfl
theorem zN(b:Jm):RD H (.bool b) (.bl b):=by unfold RD;rfl
theorem bN(i:Int):RD H (.int i) (.int i):=by unfold RD;rfl
theorem bQ(x:Str):RD H (.str x) (.str x):=by unfold RD;rfl
theorem aH:dC H [] []:=by unfold dC;rfl
theorem am(h:RD H d y)(t:dC H ds ys):dC H (d::ds) (y::ys):=by
 unfold dC;exact⟨y,ys,rfl,h,t⟩
theorem bV(h:dC H [] xs):xs=[]:=by
 unfold dC at h;exact h
theorem aL(h:dC H (d::ds) xs):∃y ys,xs=y::ys/\RD H d y/\dC H ds ys:=by
 unfold dC at h;exact h
theorem eh:∀ns:IG Int,dC H (ns.map Ox)<|ns.map V.int
 |[]=>aH
 |n::r=>am (bN n)<|eh r
theorem cq:∀{ds:IG Jg} {xs:IG V},dC H ds xs->xs.length=ds.length
 |[],_,h=>by
  rw[bV h];rfl
 |d::ds,_,h=>by
  obtain⟨y,ys,rfl,_,t⟩:=aL h;rw[JJ,JJ,cq t]
theorem d9:∀{ds:IG Jg} {xs:IG V} {j:Nat} {v:V},dC H ds xs->xs[j]? =B' v->RD H (ds.getD j .none) v
 |[],_,_,_,h,e=>by rw[bV h]at e;cases e
 |d::ds,_,j,v,h,e=>by
  obtain⟨y,ys,rfl,h1,t⟩:=aL h;cases j with
  |zero=>
   have e':y=v:=by simpa using e
   subst e';exact h1
  |succ j=>exact d9 (ds:=ds) t (by simpa using e)
mutual
theorem nz(k:Same H H'):∀d v,RD H d v->RD H' d v
 |.none,v,h=>by unfold RD at h ⊢;exact h
 |.bool b,v,h=>by unfold RD at h ⊢;exact h
 |.int i,v,h=>by unfold RD at h ⊢;exact h
 |.str x,v,h=>by unfold RD at h ⊢;exact h
 |.list ds,v,h=>by
  obtain⟨a,xs,e,h1,h2⟩:=fq h;subst e;exact bG (k _ _ h1)<|bn k ds xs h2
 |.tuple ds,v,h=>by
  obtain⟨a,xs,e,h1,h2⟩:=aK h;subst e;exact bj (k _ _ h1)<|bn k ds xs h2
 |.dict _,v,h=>by
  unfold RD at h;exact h.elim
theorem bn(k:Same H H'):∀ds xs,dC H ds xs->dC H' ds xs
 |[],xs,h=>by
  rw[bV h];exact aH
 |d::ds,xs,h=>by
  obtain⟨y,ys,e,h1,h2⟩:=aL h;subst e;exact am (nz k d y h1)<|bn k ds ys h2
end
section
variable {X:Cx}{IT:IG (IL×Obj)}{σ:St}{H:Hp}{s:IM}
mutual
theorem fb(I:Inv X IT σ H s):∀d x v,RD H d x->RelV x v->∃as,Reads s.heap v d as
 |.none,x,v,h,r=>by
  unfold RD at h;subst h;cases r;exact⟨[],.none⟩
 |.bool b,x,v,h,r=>by
  unfold RD at h;subst h;cases r;exact⟨[],.bool b⟩
 |.int i,x,v,h,r=>by
  unfold RD at h;subst h;obtain⟨t,rfl⟩:=r;exact⟨[],.int i t⟩
 |.str y,x,v,h,r=>by
  unfold RD at h;subst h;obtain⟨t,rfl⟩:=r;exact⟨[],.str y t⟩
 |.list ds,x,v,h,r=>by
  obtain⟨a,xs,e,h1,h2⟩:=fq h;subst e;cases r;obtain⟨KN,rv,⟨o,n,e1,e2,_,e4⟩,_⟩:=I.list<|SqL.of h1;obtain⟨as,q⟩:=iX I ds xs KN h2 rv;exact⟨a::as,.list e1 e2 e4<|by simpa using q⟩
 |.tuple ds,x,v,h,r=>by
  obtain⟨a,xs,e,h1,h2⟩:=aK h;subst e;cases r;obtain⟨KN,rv,⟨o,e1,e2,n,e4⟩,_⟩:=I.tuple<|SqT.of h1;obtain⟨as,q⟩:=iX I ds xs KN h2 rv;exact⟨as,.tuple e1 e2 e4<|by simpa using q⟩
 |.dict _,x,v,h,_=>by
  unfold RD at h;exact h.elim
theorem iX(I:Inv X IT σ H s):∀ds xs vs,dC H ds xs->Vals xs vs->∃as,YG s.heap vs ds as
 |[],xs,vs,h,r=>by
  rw[bV h]at r;cases r;exact⟨[],.nil⟩
 |d::ds,xs,vs,h,r=>by
  obtain⟨y,ys,e,h1,h2⟩:=aL h;subst e;cases r with
  |cons r1 r2=>
   obtain⟨as,q1⟩:=fb I d y _ h1 r1;obtain⟨bs,q2⟩:=iX I ds ys _ h2 r2;exact⟨as++bs,.cons q1 q2⟩
end
end
section
variable {X:Cx}
inductive Fx (x y:V)(H:Hp)(Q:VK):Prop
 |mk (da db:Jg)(ra:RD H da x)(rb:RD H db y)(sa:Kn da=IS)(sb:Kn db=IS)(q:Q (.bl<|Kh da db) H):Fx x y H Q
inductive Fy (x y:V)(H:Hp)(Q:VK):Prop
 |mk (da db:Jg)(ra:RD H da x)(rb:RD H db y)(sa:Kn da=IS)(sb:Kn db=IS)(q:Q (.bl (!Kh da db)) H):Fy x y H Q
def Ds:R2:=λx y H Q=>Fx x y H Q
def Dt:R2:=λx y H Q=>Fy x y H Q
theorem Du(hu:X.A.units+64 < Mt):OpR X (KR .Eq) Ds:=by
 intro IT s σ H x y v u Q I rx ry h;obtain⟨da,db,ra,rb,sa,sb,q⟩:=h;obtain⟨as,qa⟩:=fb I da x v ra rx;obtain⟨bs,qb⟩:=fb I db y u rb ry;exact eq_dataH qa qb sa sb hu ⟨.bl _,H,I,rfl,q⟩
theorem Dv(hu:X.A.units+64 < Mt):OpR X (KR .NotEq) Dt:=by
 intro IT s σ H x y v u Q I rx ry h;obtain⟨da,db,ra,rb,sa,sb,q⟩:=h;obtain⟨as,qa⟩:=fb I da x v ra rx;obtain⟨bs,qb⟩:=fb I db y u rb ry;exact ne_dataH qa qb sa sb hu ⟨.bl _,H,I,rfl,q⟩
theorem aQ(hu:X.A.units+64 < Mt):OpR X (KR .Eq) (λx y H Q=>Ht x y H Q\/Ds x y H Q):=OpR.or E4<|Du hu
theorem fH(hu:X.A.units+64 < Mt):OpR X (KR .NotEq) (λx y H Q=>Hu x y H Q\/Dt x y H Q):=OpR.or E5<|Dv hu
theorem dm:dJ X (.builtin "isinstance") (λxs H Q=>∃x t c b,xs=[x,.ty c]/\iu X.K H x t/\Jq X.K t (.type c)=B' b/\Q (.bl b) H):=by
 intro IT s σ H xs us Q I r h;obtain⟨x,t,c,b,rfl,ty,e,q⟩:=h;obtain⟨u,w',rfl,rx,ry⟩:=vH r;obtain rfl:w'=NT c:=ry;exact uh I rx ty e λtk=>⟨.bl b,H,I.tok _,rfl,q⟩
def fJ(T c:LA):IQ Jm:=if(NT T == NT c)=IS then B' IS else if PySem.W.kitMeta c=IS then(fastBuiltinMro T).map (·.contains (NT c))else IV
theorem bS{K:IJ}{T c:LA}{b:Jm}(h:fJ T c=B' b):Jq K (.type T) (.type c)=B' b:=h
def nA:Jg->LA
 |.none=>"NoneType"
 |.bool _=>"bool"
 |.int _=>"int"
 |.str _=>"str"
 |.list _=>"list"
 |.tuple _=>"tuple"
 |.dict _=>"dict"
theorem sd{K:IJ}{H:Hp}:∀d v,RD H d v->iu K H v (.type<|nA d)
 |.none,v,h=>by
  unfold RD at h;subst h;exact .non
 |.bool b,v,h=>by
  unfold RD at h;subst h;exact .bl b
 |.int i,v,h=>by
  unfold RD at h;subst h;exact .int i
 |.str x,v,h=>by
  unfold RD at h;subst h;exact .str x
 |.list ds,v,h=>by
  obtain⟨a,xs,e,h1,_⟩:=fq h;subst e;exact .lst h1
 |.tuple ds,v,h=>by
  obtain⟨a,xs,e,h1,_⟩:=aK h;subst e;exact .tup h1
 |.dict _,v,h=>by
  unfold RD at h;exact h.elim
def Dw:Jg->Jm
 |.tuple _=>IS
 |_=>IU
def nB:Jg->Jm
 |.int _=>IS
 |.bool _=>IS
 |_=>IU
def nC:Jg->Jm
 |.bool _=>IS
 |_=>IU
def jI:Jg->Jm
 |.dict _=>IS
 |_=>IU
theorem wb:fJ "NoneType" "tuple"=B' IU/\fJ "bool" "tuple"=B' IU/\fJ "int" "tuple"=B' IU/\fJ "str" "tuple"=B' IU/\fJ "list" "tuple"=B' IU/\fJ "tuple" "tuple"=B' true:=by
 refine⟨?_,?_,?_,?_,?_,?_⟩<;>decide+kernel
theorem Dx:fJ "NoneType" "int"=B' IU/\fJ "bool" "int"=B' IS/\fJ "int" "int"=B' IS/\fJ "str" "int"=B' IU/\fJ "list" "int"=B' IU/\fJ "tuple" "int"=B' false:=by
 refine⟨?_,?_,?_,?_,?_,?_⟩<;>decide+kernel
theorem zO:fJ "NoneType" "bool"=B' IU/\fJ "bool" "bool"=B' IS/\fJ "int" "bool"=B' IU/\fJ "str" "bool"=B' IU/\fJ "list" "bool"=B' IU/\fJ "tuple" "bool"=B' false:=by
 refine⟨?_,?_,?_,?_,?_,?_⟩<;>decide+kernel
theorem lZ{K:IJ}(d:Jg)(h:jI d=IU):Jq K (.type<|nA d) (.type "tuple")=B' (Dw d):=by
 obtain⟨h1,h2,h3,h4,h5,h6⟩:=wb;cases d with
 |none=>exact bS h1
 |bool _=>exact bS h2
 |int _=>exact bS h3
 |str _=>exact bS h4
 |list _=>exact bS h5
 |tuple _=>exact bS h6
 |dict _=>cases h
theorem zP{K:IJ}(d:Jg)(h:jI d=IU):Jq K (.type<|nA d) (.type "int")=B' (nB d):=by
 obtain⟨h1,h2,h3,h4,h5,h6⟩:=Dx;cases d with
 |none=>exact bS h1
 |bool _=>exact bS h2
 |int _=>exact bS h3
 |str _=>exact bS h4
 |list _=>exact bS h5
 |tuple _=>exact bS h6
 |dict _=>cases h
theorem wc{K:IJ}(d:Jg)(h:jI d=IU):Jq K (.type<|nA d) (.type "bool")=B' (nC d):=by
 obtain⟨h1,h2,h3,h4,h5,h6⟩:=zO;cases d with
 |none=>exact bS h1
 |bool _=>exact bS h2
 |int _=>exact bS h3
 |str _=>exact bS h4
 |list _=>exact bS h5
 |tuple _=>exact bS h6
 |dict _=>cases h
theorem iY(h:RD H d v):jI d=false:=by
 cases d with
 |dict _=>
  unfold RD at h;exact h.elim
 |_=>rfl
end
structure Fn (P:Jc)(w:Jv)(K:IJ)(mg:Str->IQ IH)(base:JM)(k:Nat)(x:Str)(f:IL)(fd:Jr)(ps:IG Str)(sp:Sp):Prop where
 ok:FnOk P w K mg base c6 k f fd ps sp
 b:Binds K fd ps []
 kp:LJ K (.ref f)=IS
 at_:mg x=B' (.ref f)
section
variable {X:Cx}{j k:Nat}{f:IL}{fd:Jr}{ps:IG Str}{sp:Sp}{x:Str}{p pos:Pos}{e:Km}{es:IG Km}{t:TA}
theorem Fz(G:Fn X.prog X.w X.K X.mg X.base j x f fd ps sp)(hr:Room k X.A)(ZU:j<=k)(hg:Gl X x)(ha:PA X (e::es) t)(XN:(x == ("__debug__":Str))=false:=by decide)
  (he:JI (e::es) X.env=(IU,LN e X.env)::JI es X.env:=by rfl) (T_:(MF pos<|JI es X.env).any (·.1)=false:=by rfl):PE X (.Call (.Name x p) (e::es) [] pos) (oM sp [] E0 t):=
 ng G.ok (hr.mono ZU) hg G.at_ G.kp G.b .nil Fk ha XN he T_
end
theorem ag(h:H p=IV)(o:HO):Same H (upd H p o):=λb u q=>by rw[ao<|aj q h];exact q
theorem Same.upd_new(k:Same H0 H)(h:H0 p=IV)(o:HO):Same H0 (upd H p o):=λb u q=>by rw[ao<|aj q h];exact k b u q
theorem we{α:Type}{xs:IG α}{i:Int}(h0:0<=i)(h1:i < xs.length):∃v,xs[i.toNat]? =B' v/\p_ xs i=B' v:=by
 have hk:i.toNat < xs.length:=by lia
 have ek:i=((i.toNat:Nat):Int):=by lia
 have q:p_ xs ((i.toNat:Nat):Int)=B' xs[i.toNat]:=aW<|IZ hk;rw[<-ek]at q;exact⟨_,IZ hk,q⟩
theorem oX{ns:IG Int}{i:Int}(h0:0<=i)(h1:i < ns.length):∃v,ns[i.toNat]? =B' v/\p_ (ns.map V.int) i=B' (.int v):=by
 obtain⟨v,h2,h3⟩:=we (xs:=ns.map V.int) h0 (by rw[IR];exact h1);rw[Jx]at h2;cases e:ns[i.toNat]? with
 |none=>rw[e]at h2;cases h2
 |some z=>
  rw[e]at h2;have Zb:V.int z=v:=by simpa using h2
  subst Zb;exact⟨z,rfl,h3⟩
def AllIn(f:Str->IQ IL):IG (Str×IL)->Prop
 |[]=>True
 |p::r=>f p.1=B' p.2/\AllIn f r
theorem AllIn.look:∀{cl:IG (Str×IL)},AllIn f cl->∀{y:Str} {c:IL},cl.lookup y=B' c->f y=B' c
 |[],_,y,c,e=>by cases e
 |(n,a)::r,h,y,c,e=>by
  rw[List.lookup_cons]at e;cases q:(y == n)with
  |true=>
   rw[q]at e;have e1:y=n:=eq_of_beq q;have e2:a=c:=Jo e;rw[e1,<-e2];exact h.1
  |false=>
   rw[q]at e;exact AllIn.look h.2 e
def c7(X:Cx)(scope:N6)(cl:IG (Str×IL))(NY:IG Str)(C:IL)(fp:IG IL)(s₀:IM)(H₀:Hp):Cx where
 prog:=X.prog
 w:=X.w
 K:=X.K
 mg:=X.mg
 base:=X.base
 A:=X.A
 N:=NY
 s₀:=s₀
 H₀:=H₀
 env:=Yy scope (Kx (C+1) scope.names cl) C X.env
 outer:=X.stack
 stack:=X.stack
 ex:=fp
 fn:=λx=>(cl.lookup x).isNone
 calm:=X.calm
 pn:=[]
 xe:=λ_ _=>False
structure CompSc (X:Cx)(scope:N6)(cl:IG (Str×IL))(NY:IG Str)(idx:IG (IQ Nat)):Prop where
 clos:closureFor scope X.env=pure cl
 all:AllIn (λy=>X.env.cells.lookup y) cl
 c2:∀n,((NG scope X.env).names.all λq=>!(decide (q.2=.cell) || decide (q.2=.free)) || ((Kx n scope.names cl).lookup q.1).isSome)=IS
 ix:((NY.zip idx).all λp=>match p.2 with
  |none=>IS
  |some i=>decide (X.N[i]? =B' p.1)&&(decide (X.env.kindOf p.1=B' .cell) || decide (X.env.kindOf p.1=B' .free))&&(decide ((NG scope X.env).names.lookup p.1=B' .cell) || decide ((NG scope X.env).names.lookup p.1=B' .free))&&(scope.names.all λq=>!decide (q.2=.cell) || !decide (q.1=p.1)))=IS
 len:idx.length=NY.length
 kind:scope.kind=.function
 names:∀y∈scope.names,y.2=.local->scope.names.lookup y.1=B' .local
theorem cP:∀names n M7,Kx n names M7=Kx n names []++M7
 |[],_,_=>rfl
 |(x,k)::r,n,M7=>by
  unfold Kx
  split
  ·rw[cP r (n+1)<|(x,n)::M7,cP r (n+1) [(x,n)],JG];rfl
  ·exact cP r n M7
theorem iZ:∀{names:IG (Str×P_)} {n:Nat} {y:Str} {c:IL},(y,c)∈Kx n names []->(y,Oh)∈names
 |(x,k)::r,n,y,c,h=>by
  unfold Kx at h
  split at h
  ·rename_i hk;rw[cP]at h;obtain h|h:=JA.mp h
   ·exact Jk _<|iZ h
   ·cases Jf.mp h;rw[eq_of_beq hk];exact Jp
  ·exact Jk _<|iZ h
theorem ke(h:(Kx n names cl).lookup y=B' c):(y,c)∈Kx n names []\/cl.lookup y=B' c:=by
 rw[cP,T4]at h;cases e:(Kx n names []).lookup y with
 |some d=>
  rw[e]at h;cases h;exact .inl<|Lj e
 |none=>
  rw[e]at h;exact .inr h
theorem wf(hn:∀q∈names,q.2=Oh->q.1≠y):(Kx n names cl).lookup y=cl.lookup y:=by
 rw[cP,T4];cases e:(Kx n names []).lookup y with
 |some d=>exact absurd rfl<|hn _ (iZ<|Lj e) rfl
 |none=>rfl
theorem lH{M:RO}{A:JV}{E:IH->IM->Prop}{s:IM}{scope:N6}{globals:IL}{ZE:IG (Str×IL)}{qual:Str}{outer:Env}{Q:Env->IM->Prop}
  (hQ:∀h',h'.Ns s.heap.objs.size (λ_=>IV)->(∀b o,s.heap.get? b=B' o->h'.get? b=B' o)->CellsOk h' (s.heap.objs.size+1) (Kx (s.heap.objs.size+1) scope.names [])->
   Q (newEnv scope s.heap.objs.size globals (Kx (s.heap.objs.size+1) scope.names ZE) qual IV .none (B' outer) outer.builtins) {s with heap:=h'}):
  wpAny M A (R8 scope globals ZE [] qual IV .none<|B' outer) Q E s:=by
 simp only [R8,TU,On];refine II<|wpAny_alloc ?_;refine II<|wpAny_layCells _ (λname kind cells=>by cases hkc:kind == Oh<;>simp [hkc]) _ _ _ _ ?_;have ok:=cellsFrom_ok scope.names (s.heap.push {cls:=.type "dict",data:=.dict #[]}) (s.heap.objs.size+1) [] ⟨λ_ _ hm=>(nomatch hm),QG⟩ (by rw[OP];exact IX _);rw[OP]at ok;rw[show({s with heap:=s.heap.push {cls:=.type "dict",data:=.dict #[]}}:IM).heap.objs.size=s.heap.objs.size+1 from OP ..];refine II ?_;rw[List.forIn_nil];exact I0<|I0<|hQ _ ((Heap.Ns.new s.heap<|.type "dict").keeps<|VC _ _) (λb o e=>VC _ _ b o<|IP _ e) ok
def wg(idx:IG (IQ Nat))(σ:St):St:=idx.map λo=>match o with
 |none=>IV
 |some i=>(σ[i]?).getD IV
section
variable {X:Cx}{scope:N6}{cl:IG (Str×IL)}{NY:IG Str}{idx:IG (IQ Nat)}
theorem CompSc.look(S:CompSc X scope cl NY idx)(n:Nat)(h:(NG scope X.env).names.lookup y=B' .cell\/(NG scope X.env).names.lookup y=B' .free):∃c,(Kx n scope.names cl).lookup y=B' c:=by
 have hm:∃k,(y,k)∈(NG scope X.env).names/\(k=.cell\/k=.free):=by
  obtain h|h:=h
  ·exact⟨_,Lj h,.inl rfl⟩
  ·exact⟨_,Lj h,.inr rfl⟩
 obtain⟨k,hk,hkk⟩:=hm;have q:=Ly.mp (S.c2 n) _ hk;have e:(decide (k=Oh) || decide (k=W7))=true:=by
  obtain rfl|rfl:=hkk
  ·rfl
  ·rfl
 have q':(!(decide (k=Oh) || decide (k=W7)) || ((Kx n scope.names cl).lookup y).isSome)=true:=q;rw[e]at q';exact Ol.mp q'
theorem wj{fp:IG IL}{h₁:JM}{m:Str->IQ IH}{tk:Nat}(S:CompSc X scope cl NY idx)(I:Inv X IT σ H s)
  (f2:∀b∈fp,m_ X IT H b) (Zw:∀b∈fp,b < s.heap.objs.size) (hns:h₁.Ns s.heap.objs.size m) (old:∀b o,s.heap.get? b=B' o->h₁.get? b=B' o) (hcs:CellsOk h₁ (s.heap.objs.size+1) (Kx (s.heap.objs.size+1) scope.names [])):
  Inv (c7 X scope cl NY s.heap.objs.size fp s H) [] (wg idx σ) H {s with heap:=h₁,toks:=tk}:=by
 have hC:H s.heap.objs.size=none:=I.hok.fresh<|IX _;have SU:∀{x:Str} {c:IL},cl.lookup x=B' c->X.env.cells.lookup x=B' c:=λe=>S.all.look e;have acG:∀{x:Str} {c:IL},X.env.cells.lookup x=B' c->c < s.heap.objs.size:=λ{x c} e=>by
  obtain⟨v,z⟩:=I.cell x c e;exact z.lt
 have two:∀{x:Str} {c:IL},(Kx (s.heap.objs.size+1) scope.names cl).lookup x=B' c->((x,c)∈Kx (s.heap.objs.size+1) scope.names []/\s.heap.objs.size < c/\h₁.IsCell c IV)\/(X.env.cells.lookup x=B' c/\c < s.heap.objs.size):=λ{x c} e=>by
  obtain h|h:=ke e
  ·exact .inl ⟨h,(hcs.empty x c h).2,(hcs.empty x c h).1⟩
  ·exact .inr ⟨SU h,acG<|SU h⟩
 have inj:∀x y c,(Kx (s.heap.objs.size+1) scope.names cl).lookup x=B' c->(Kx (s.heap.objs.size+1) scope.names cl).lookup y=B' c->x=y:=λx y c h1 h2=>by
  obtain a|a:=two h1<;>obtain b|b:=two h2
  ·exact name_of_addr hcs.apart a.1 b.1
  ·exact absurd (PX a.2.1 b.2)<|Lv _
  ·exact absurd (PX b.2.1 a.2)<|Lv _
  ·exact I.ok.inj x y c a.1 b.1
 have ne:∀b∈fp,∀x c,(Kx (s.heap.objs.size+1) scope.names cl).lookup x=B' c->c≠b:=λb hb x c e=>by
  obtain a|a:=two e
  ·exact MN<|PX (Zw b hb) a.2.1
  ·exact(f2 b hb).2.2.2.2.1 x c a.1
 have fr:∀x c,(Kx (s.heap.objs.size+1) scope.names cl).lookup x=B' c->H c=none:=λx c e=>by
  obtain a|a:=two e
  ·exact I.hok.fresh<|KM a.2.1
  ·exact I.freeC x c a.1
 have cab:∀x c,(cl.lookup x).isNone=IS->(Kx (s.heap.objs.size+1) scope.names cl).lookup x=B' c->s.heap.objs.size<=c:=λx c hf e=>by
  obtain h|h:=ke e
  ·exact UJ (hcs.empty x c h).2
  ·rw[h]at hf;cases hf
 refine⟨⟨I.ok.mod,?_,I.ok.glob,I.ok.blt,IX _,inj,λx hx=>S.look _ hx,cab,I.ok.hd,I.ok.frames,.inl rfl,λb hb=>⟨Js<|Zw b hb,ne b hb⟩,
  I.bs,KE I.ok.bsz I.sz,λb o e hb=>?_,λb hb hz=>?_,I.stack,I.stkFree⟩,rfl,I.bare,Un.kept old,⟨m,hns,λj y v h1 h2 h3=>?_⟩,λx c e=>?_,hC,fr,λp hp=>absurd (show p∈([]:IG (IL×Obj))from hp) (by simp),I.hok.kept old,?_⟩
 ·exact S.kind
 ·obtain z|z:=(f2 b hb).2.2.2.1
  ·exact I.ok.noex b o e z
  ·exact absurd (Ki (Jh e)<|KE I.ok.bsz z)<|Lv _
 ·obtain e|e:=JC.mp (I.stkSub b hz)
  ·exact(f2 b hb).2.1 e
  ·exact(f2 b hb).2.2.1 e
 ·
  have Zb:(wg idx σ)[j]? =B' (B' v):=h2;unfold wg at Zb;rw[Jx]at Zb;cases ej:idx[j]? with
  |none=>rw[ej]at Zb;cases Zb
  |some o=>
   rw[ej]at Zb;cases o with
   |none=>cases Zb
   |some i=>
    have e3:(σ[i]?).getD IV=B' v:=by simpa using Zb
    have e4:σ[i]? =B' (B' v):=by
     cases q:σ[i]? with
     |none=>rw[q]at e3;cases e3
     |some z=>
      rw[q]at e3;exact Kp B' e3
    have hz:(NY.zip idx)[j]? =B' (y,B' i):=by
     rw[List.getElem?_zip_eq_some];exact⟨h1,ej⟩
    have q:=Ly.mp S.ix _<|Ji hz;have q':(decide (X.N[i]? =B' y)&&(decide (X.env.kindOf y=B' .cell) || decide (X.env.kindOf y=B' .free))&&(decide ((NG scope X.env).names.lookup y=B' .cell) || decide ((NG scope X.env).names.lookup y=B' .free))&&(scope.names.all λq=>!decide (q.2=.cell) || !decide (q.1=y)))=true:=q;rw[JT,JT,JT,VR,VR]at q';obtain⟨⟨⟨q1,q2⟩,q3⟩,q4⟩:=q';have q5:∀q∈scope.names,q.2=Oh->q.1≠y:=λq hq e1 e2=>by
     have:=Ly.mp q4 q hq;rw[Jj e1,Jj e2]at this;cases this
    have q1':=Kd q1;have q2':X.env.kindOf y=B' .cell\/X.env.kindOf y=B' .free:=q2.elim (λz=>.inl<|Kd z) λz=>.inr<|Kd z;have q3':(NG scope X.env).names.lookup y=B' .cell\/(NG scope X.env).names.lookup y=B' .free:=q3.elim (λz=>.inl<|Kd z) λz=>.inr<|Kd z;obtain⟨mX,_,hl⟩:=I.loc;obtain⟨u,ru,lk⟩:=hl i y v q1' e4<|.inr q2';refine⟨u,ru,.inr ⟨q3',?_⟩⟩;obtain⟨c,hc0⟩:=S.look (s.heap.objs.size+1) q3';have hc:=hc0;rw[wf q5]at hc;obtain⟨hk,_⟩|⟨_,c',ZA,Zz⟩:=lk
    ·obtain z|z:=q2'
     ·rw[hk]at z;cases z
     ·rw[hk]at z;cases z
    ·have e5:=SU hc;rw[ZA]at e5;cases e5;obtain⟨oc,ho,hd⟩:=Zz;exact⟨_,hc0,oc,old _ _ ho,hd⟩
 ·obtain a|a:=two e
  ·exact⟨IV,a.2.2⟩
  ·obtain⟨v,oc,ho,hd⟩:=I.cell x c a.1;exact⟨v,oc,old _ _ ho,hd⟩
 ·unfold wg;rw[IR];exact S.len
end
def FA(Y:Cx)(Y8:IG Km)(t:TT):Prop:=
 ∀(IT:IG (IL×Obj)) (s:IM) (σ:St) (H:Hp) (Q:Jm->Hp->Prop),Inv Y IT σ H s->t σ H Q->
  wpAny (Ju Y.prog Y.w) Y.A (forIn Y8 IS λc r=>if r=IS then do let ok <-isTrue c Y.env<|LN c Y.env;pure (Os ok)else pure (Os r)) (TP Y IT σ Q) Y.xe s
def Dy:TT:=λ_ H Q=>Q IS H
theorem eu{A B:St->Hp->Prop}(h:A (σ.set i<|B' x) H):eF i x σ H (λσ3 H3=>Dy σ3 H3 λb H4=>if b=IS then A σ3 H4 else B σ3 H4):=by
 show(if IS=IS then A (σ.set i<|B' x) H else B (σ.set i<|B' x) H)
 exact aT h
theorem c_:FA Y [] Dy:=λIT s σ H Q I h=>wpAny_tests_nil ⟨H,I,h⟩
theorem cG(h:PT Y c t):FA Y [c] t:=λIT s σ H Q I hw=>wpAny_tests_one<|h IT s σ H Q I hw
def gE(J:It)(D:IL)(g:TG)(tt:TT)(te:TE)(σ0:St)(H1:Hp)(Q:VK):Prop:=
 ∃W:Nat->Nat->St->IG V->Hp->Prop,(∃m,W 0 m σ0 []<|upd H1 D<|.lst [])/\∀i m σ ys H,W i m σ ys H->H D=B' (.lst ys)/\
  ((J.stop i H/\Q (.ref D) H)\/(J.go i H/\∃N:St->IG V->Hp->Prop,(∀σ' ys' H',N σ' ys' H'->∃m',m' < m/\W (i+1) m' σ' ys' H')/\
   ∀x H2,J.yld i H x H2->g x σ H2 λσ3 H3=>tt σ3 H3 λb H4=>if b=IS then te σ3 H4 λy H5=>H5 D=B' (.lst ys)/\ys.length < sizeLine/\N σ3 (ys++[y]) (upd H5 D<|.lst<|ys++[y])else N σ3 ys H4))
def wk(idx:IG (IQ Nat))(wi:TI)(g:TG)(tt:TT)(te:TE):TE:=λσ H Q=>wi σ H λJ H1=>∀D,H1 D=IV->gE J D g tt te (wg idx σ) H1 Q
section
variable {prog:Jc}{w:Jv}{A:JV}{R:TF->IM->Prop}{s:IM}
theorem gF{Z0 Nu iter:Km}{Y8:IG Km}{scope:N6}{pos:Pos}{it M7:IH}{env:Env}(I:Nat->IM->Prop)
  (XF:∀n s,I n s->wpAny (Ju prog w) A (Ou it) (λr s₁=>match r with
   |none=>R (.ok .next) s₁
   |some v=>wpAny (Ju prog w) A (Pw Nu it v) (λ_ s₀=>wpAny (Ju prog w) A (Tt Nu env v) (λ_ s₂=>
     wpAny (Ju prog w) A (forIn Y8 IS λc r=>if r=IS then do let ok <-isTrue c env<|LN c env;pure (Os ok)else pure (Os r)) (λok s₃=>
      if ok=IS then wpAny (Ju prog w) A (LN Z0 env) (λx s₄=>
       wpAny (Ju prog w) A (call (.builtin "list.append") [M7,x]) (λ_ s₅=>∃m,m < n/\I m s₅) (λ_ _=>False) s₄) (λ_ _=>False) s₃
      else∃m,m < n/\I m s₃) (λ_ _=>False) s₂) (λ_ _=>False) s₀) (λ_ _=>False) s₁) (λ_ _=>False) s)
  (n:Nat) (h:I n s):
  codeAny (Ju prog w) A (.compLoop (.ListComp Z0 [⟨Nu,iter,Y8,0⟩] scope pos) 0 it M7 env) R s:=by
 refine codeAny_loop rfl I (λn s hI=>?_) n h;show wpAny _ A ((compTurn (.ListComp Z0 [⟨Nu,iter,Y8,0⟩] scope pos) 0 it M7 env).onRaise (λx=>do U3 x env;theTreesLotGoes x)) _ _ s
 refine wpAny_noted ?_;rw[compTurn_list];have no:∀{α:Type} {t:Sem α} {Q:α->IM->Prop} {E:IH->IM->Prop} {s:IM},wpAny (Ju prog w) A t Q (λ_ _=>False) s->wpAny (Ju prog w) A t Q E s:=λhq=>J2 hq (λ_ _ z=>z) λ_ _ z=>z.elim;refine II<|Oe<|II<|J2 (XF n s hI) (λr s₁ h₁=>?_) λ_ _ h'=>h'.elim;cases r with
 |none=>exact I0 h₁
 |some v=>
  refine II<|J2 h₁ (λ_ s₀ h₀=>?_) λ_ _ h'=>h'.elim;refine II<|J2 h₀ (λ_ s₂ h₂=>II<|J2 h₂ (λok s₃ h₃=>?_) λ_ _ h'=>h'.elim) λ_ _ h'=>h'.elim;cases ok with
  |false=>exact I0 ⟨rfl,h₃⟩
  |true=>
   exact II<|II<|J2 h₃ (λx s₄ h₄=>II<|J2 h₄ (λ_ s₅ h₅=>I0<|I0 ⟨rfl,h₅⟩) λ_ _ h'=>h'.elim) λ_ _ h'=>h'.elim
end
section
variable {X:Cx}{scope:N6}{cl:IG (Str×IL)}{NY:IG Str}{idx:IG (IQ Nat)}{Z0 iter Nu:Km}{Y8:IG Km}{pos:Pos}{wi:TI}{g:TG}{tt:TT}{te:TE}
structure CompEnd (X:Cx)(IT:IG (IL×Obj))(σ:St)(H:Hp)(C:IL)(s:IM):Prop where
 inv:Inv X IT σ H s
 ns:∃m,s.heap.Ns C m
 free:H C=IV
 loc:C≠X.env.locals
 young:X.s₀.heap.objs.size<=C
 cells:∀x c,X.env.cells.lookup x=B' c->c≠C
 pin:∀p∈X.pn++IT,p.1≠C
theorem CompEnd.gone(e:CompEnd X IT σ H C s)(hs:M' C s.heap h'):Inv X IT σ H {s with heap:=h'}:=
 e.inv.turned (t':=s.toks) (λb o hb q=>(hs.2 b hb).trans q) e.free e.loc (.inr e.young) e.cells e.pin
theorem oY{IT:IG (IL×Obj)}{σ:St}{H:Hp}{s:IM}{Q:VK}{RR:IH->IL->TF->IM->Prop}(RI:X.calm=IS)(S:CompSc X scope cl NY idx)(hi:PI X Nu iter wi)
  (hg:∀C fp s₀ H₀,PG (c7 X scope cl NY C fp s₀ H₀) Nu g) (ht:∀C fp s₀ H₀,FA (c7 X scope cl NY C fp s₀ H₀) Y8 tt) (he:∀C fp s₀ H₀,PE (c7 X scope cl NY C fp s₀ H₀) Z0 te)
  (I:Inv X IT σ H s) (h:wk idx wi g tt te σ H Q)
  (hRR:∀D C H' s',CompEnd X IT σ H' C s'->Q (.ref D) H'->RR (.ref D) C (.ok .next) s'):
  wpAny (Ju X.prog X.w) X.A (LN iter X.env) (λx s₁=>wpAny (Ju X.prog X.w) X.A (R7 x) (λit s₂=>wpAny (Ju X.prog X.w) X.A (newList []) (λM7 s₃=>
   wpAny (Ju X.prog X.w) X.A (R8 scope X.env.globals cl [] X.env.qual IV .none<|B' X.env) (λad' s₄=>
    codeAny (Ju X.prog X.w) X.A (.compStart (.ListComp Z0 [⟨Nu,iter,Y8,0⟩] scope pos) 0 it M7 {ad' with scope:=NG scope X.env}) (RR M7 ad'.locals) s₄) X.xe s₃) X.xe s₂) X.xe s₁) X.xe s:=by
 refine bT (hi IT s σ H _ I h) λv s1 h1=>bT h1 λitv s2 h2=>?_;obtain⟨it,fp,tn,J,H2,e,I2,T,Nd,f2,r2⟩:=h2;subst e;have hD:H2 s2.heap.objs.size=none:=I2.hok.fresh<|IX _;have r3:=r2 s2.heap.objs.size hD;have I3:Inv X IT σ (upd H2 s2.heap.objs.size<|.lst []) {s2 with heap:=s2.heap.push {cls:=.type "list",data:=.seq ([]:IG IH).toArray}}:=
  I2.laid (t':=s2.toks) (λb u q=>IP _ q) (IX _) ⟨Jw _,[],0,.nil,JB _ rfl⟩
 refine M9<|lH λh₁ hns hsb hcs=>?_;dsimp only at hns hsb hcs ⊢;have adV:∀b∈fp,b < s2.heap.objs.size:=λb hb=>by
  obtain⟨o,q,_⟩:=T.obj 0 _ Nd b hb;exact Jh q
 have neD:∀b∈fp,b≠s2.heap.objs.size:=λb hb=>Js<|adV b hb;have f3:∀b∈fp,m_ X IT (upd H2 s2.heap.objs.size<|.lst []) b:=λb hb=>⟨by rw[ao<|neD b hb];exact(f2 b hb).1,(f2 b hb).2⟩;generalize hs3:({s2 with heap:=s2.heap.push {cls:=.type "list",data:=.seq ([]:IG IH).toArray}}:IM)=s3 at I3;have es3:s3.heap=s2.heap.push {cls:=.type "list",data:=.seq ([]:IG IH).toArray}:=by rw[<-hs3]
 have Zw:∀b∈fp,b < s3.heap.objs.size:=λb hb=>by
  rw[es3,OP];exact LF<|adV b hb
 have afL:h₁.Ns s3.heap.objs.size (λ_=>IV):=by rw[es3];exact hns
 have old:∀b o,s3.heap.get? b=B' o->h₁.get? b=B' o:=λb o q=>by
  rw[es3]at q;exact hsb b o q
 have age:CellsOk h₁ (s3.heap.objs.size+1) (Kx (s3.heap.objs.size+1) scope.names []):=by rw[es3];exact hcs
 have UT:tn 0 h₁:=T.keep _ _ _ Nd λb hb o q=>old b o (by rw[es3];exact IP _ q);have IY0:=wj (tk:=s2.toks) S I3 f3 Zw afL old age;have e4:({s3 with heap:=h₁,toks:=s2.toks}:IM)={s2 with heap:=h₁,toks:=s2.toks}:=by rw[<-hs3]
 rw[e4]at IY0;have eC:s3.heap.objs.size=(s2.heap.push {cls:=.type "list",data:=.seq ([]:IG IH).toArray}).objs.size:=by rw[es3]
 have hC3:s3.heap.get? s3.heap.objs.size=none:=NU<|IX _;obtain⟨W,⟨m0,w0⟩,XF⟩:=r3;have loop:∀s4,s4={s2 with heap:=h₁,toks:=s2.toks}->
   codeAny (Ju X.prog X.w) X.A (.compLoop (.ListComp Z0 [⟨Nu,iter,Y8,0⟩] scope pos) 0 (.ref it) (.ref s2.heap.objs.size)<|Yy scope (Kx (s3.heap.objs.size+1) scope.names cl) s3.heap.objs.size X.env) (RR (.ref s2.heap.objs.size) s3.heap.objs.size) s4:=by
  rintro s4 rfl;have Y4:∀{H':Hp},(∀b∈fp,H' b=IV)->∀b∈fp,m_ (c7 X scope cl NY s3.heap.objs.size fp s3<|upd H2 s2.heap.objs.size<|.lst []) [] H' b:=λ{H'} hn b hb=>
   ⟨hn b hb,Js<|Zw b hb,(λz=>(IY0.ok.exfs b hb) z),.inl hb,λx c e=>(IY0.ok.exf b hb).2 x c e,λp hp=>absurd (show p∈([]:IG (IL×Obj))from hp)<|by simp⟩
  refine gF (λn s'=>∃i σ' ys H',Inv (c7 X scope cl NY s3.heap.objs.size fp s3<|upd H2 s2.heap.objs.size<|.lst []) [] σ' H' s'/\tn i s'.heap/\(∀b∈fp,H' b=IV)/\W i n σ' ys H') ?_ m0
   ⟨0,_,[],_,IY0,UT,λb hb=>(f3 b hb).1,w0⟩
  rintro n s5 ⟨i,σ5,ys,H5,I5,st5,fr5,w5⟩;obtain⟨XO,alt⟩:=XF i n σ5 ys H5 w5;obtain⟨stop,qn⟩|⟨go,N,hN,step⟩:=alt
  ·refine bT (T.done (c7 X scope cl NY s3.heap.objs.size fp s3<|upd H2 s2.heap.objs.size<|.lst []) rfl rfl rfl RI i [] s5 σ5 H5 (λ_ _=>False) I5 (Y4 fr5) st5 stop) λr s6 ⟨hr,I6⟩=>?_;subst hr;have I7:Inv X IT σ H5 s6:=I3.call' (s':=s6) (ch:=fp) I6.os I6.base I6.hok I6.bare λb hb=>⟨(f3 b hb).2.2.2.1,(f3 b hb).2.1,(f3 b hb).2.2.2.2.1,(f3 b hb).2.2.2.2.2⟩;refine hRR _ _ H5 s6 ⟨I7,?_,I6.free,MN I3.lt,I3.sz,λx c e=>?_,λp hp z=>?_⟩ qn
   ·obtain⟨m,hn,_⟩:=I6.loc;exact⟨m,hn⟩
   ·obtain⟨v,q⟩:=I3.cell x c e;exact Js q.lt
   ·have q:=(I3.pin p hp).1;rw[z,hC3]at q;cases q
  ·refine bT (T.item (c7 X scope cl NY s3.heap.objs.size fp s3<|upd H2 s2.heap.objs.size<|.lst []) rfl rfl rfl RI i [] s5 σ5 H5 (λ_ _=>False) I5 (Y4 fr5) st5 go) λr s6 ⟨u,hr,h6⟩=>?_;subst hr;refine bT h6 λ_ s7 ⟨x,H7,I7,r7,y7,st7,fr7⟩=>?_;have I7':=I7.pinned (Y4 fr7)<|T.obj _ _ st7;have Z1:∀{σ8:St} {ys8:IG V} {H8:Hp} {s8:IM},Inv (c7 X scope cl NY s3.heap.objs.size fp s3<|upd H2 s2.heap.objs.size<|.lst []) ([]++jW fp s7.heap) σ8 H8 s8->N σ8 ys8 H8->
     ∃m,m < n/\∃i σ' ys H',Inv (c7 X scope cl NY s3.heap.objs.size fp s3<|upd H2 s2.heap.objs.size<|.lst []) [] σ' H' s8/\tn i s8.heap/\(∀b∈fp,H' b=IV)/\W i m σ' ys H':=λ{σ8 ys8 H8 s8} I8 n8=>by
    obtain⟨m',hm,w8⟩:=hN σ8 ys8 H8 n8;refine⟨m',hm,i+1,σ8,ys8,H8,I8.unpinned,T.keep _ _ _ st7 λb hb o e=>(I8.pin (b,o)<|Ku _<|Ku _<|fS hb e).1,λb hb=>?_,w8⟩;obtain⟨o,e,d⟩:=T.obj _ _ st7 b hb;exact(I8.pin (b,o)<|Ku _<|Ku _<|fS hb e).2.1
   refine bT (hg _ _ _ _ _ s7 σ5 H7 x u _ I7' r7<|step x H7 y7) λ_ s8 ⟨σ8,H8,I8,q8⟩=>?_;refine bT (ht _ _ _ _ _ s8 σ8 H8 _ I8 q8) λok s9 ⟨H9,I9,q9⟩=>?_;cases ok with
   |false=>exact aO<|Z1 I9 q9
   |true=>
    refine aT ?_;refine bT (he _ _ _ _ _ s9 σ8 H9 _ I9 q9) λy s10 ⟨yv,H10,I10,r10,ago,afs,n10⟩=>?_;refine bT (bM _ s10 σ8 H10 (.ref s2.heap.objs.size) [yv] (.ref s2.heap.objs.size) [y] (λv H'=>v=.non/\H'=upd H10 s2.heap.objs.size (.lst<|ys++[yv])) I10 rfl (.cons r10 .nil) ⟨_,ys,yv,rfl,rfl,ago,afs,rfl,rfl⟩) λ_ s11 ⟨_,H11,I11,_,_,e11⟩=>?_;subst e11;exact Z1 I11 n10
 have e5:(Yy scope (Kx (s3.heap.objs.size+1) scope.names cl) s3.heap.objs.size X.env)={newEnv scope (s2.heap.push {cls:=.type "list",data:=.seq ([]:IG IH).toArray}).objs.size X.env.globals (Kx ((s2.heap.push {cls:=.type "list",data:=.seq ([]:IG IH).toArray}).objs.size+1) scope.names cl) X.env.qual IV .none (B' X.env) X.env.builtins with scope:=NG scope X.env}:=by
  rw[es3];rfl
 have L1:=loop _ rfl;rw[eC]at L1;exact codeAny_compStart_list L1<|T.self _ 0 _ _ _ UT L1
theorem bH(RI:X.calm=IS)(S:CompSc X scope cl NY idx)(hi:PI X Nu iter wi)(hg:∀C fp s₀ H₀,PG (c7 X scope cl NY C fp s₀ H₀) Nu g)(ht:∀C fp s₀ H₀,FA (c7 X scope cl NY C fp s₀ H₀) Y8 tt)
  (he:∀C fp s₀ H₀,PE (c7 X scope cl NY C fp s₀ H₀) Z0 te) (hs:∀x,Qt iter X.env x=pure x:=by intro _;rfl):PE X (.ListComp Z0 [⟨Nu,iter,Y8,0⟩] scope pos) (wk idx wi g tt te):=by
 intro IT s σ H Q I h;rw[eval_ListComp];refine QO (use:=IV) rfl hs S.clos S.kind S.names ?_;refine oY (RR:=λM7 C=>compPost (Ju X.prog X.w) X.A X.xe IV (EP X IT σ Q) M7 C) RI S hi hg ht he I h ?_;intro D C H' s' e q;obtain⟨m,hn⟩:=e.ns;exact⟨m,hn,λh' Vw=>⟨.ref D,H',e.gone Vw,rfl,q⟩⟩
def wl(i:Nat)(te:TE):TS:=λD σ H=>te σ H λv H1=>D.nx (σ.set i<|B' v) H1
theorem fe{QJ adb:Pos}(hN:X.N.Nodup)(hx:X.N[i]? =B' x)(hl:X.env.scope.names.lookup x=B' .local)(RI:X.calm=IS)(S:CompSc X scope cl NY idx)(hi:PI X Nu iter wi)
  (hg:∀C fp s₀ H₀,PG (c7 X scope cl NY C fp s₀ H₀) Nu g) (ht:∀C fp s₀ H₀,FA (c7 X scope cl NY C fp s₀ H₀) Y8 tt) (he:∀C fp s₀ H₀,PE (c7 X scope cl NY C fp s₀ H₀) Z0 te)
  (hsw:P4 (.ListComp Z0 [⟨Nu,iter,Y8,0⟩] scope pos) (B'<|.Name x QJ) adb.line X.env=pure IS) (hs:∀x,Qt iter X.env x=pure x:=by intro _;rfl):
  PS X (.Assign [.Name x QJ] (.ListComp Z0 [⟨Nu,iter,Y8,0⟩] scope pos) adb) (wl i<|wk idx wi g tt te):=by
 intro IT s σ H D I h;rw[exec_Assign_Name_used _ _ _ _ hsw];refine II<|Oe<|II ?_;show wpAny _ X.A (do let _ <-comprehension (.ListComp Z0 [⟨Nu,iter,Y8,0⟩] scope pos) scope X.env _ (newList []) IU (LN iter X.env)<|B'<|Tt (.Name x QJ) X.env) _ _ s
 refine II<|J2 (QO (use:=B'<|Tt (.Name x QJ) X.env) (Q:=λ_ s'=>∃σ' H',Inv X IT σ' H' s'/\D.nx σ' H') rfl hs S.clos S.kind S.names ?_) (λ_ s' hq=>I0<|I0 hq) λ_ _ e=>e;refine oY (RR:=λM7 C=>compPost (Ju X.prog X.w) X.A X.xe (B'<|Tt (.Name x QJ) X.env) (λ_ s'=>∃σ' H',Inv X IT σ' H' s'/\D.nx σ' H') M7 C) RI S hi hg ht he I h ?_;intro D' C H' s' e q;refine Uj<|lM e.inv hN hx (.inl hl) (v:=.ref D') (u:=.ref D') rfl (λs'' I'' sb=>?_)<|.inr hl;obtain⟨a,hsb,ha⟩:=sb;have neC:C≠a:=by
  obtain rfl|ha:=ha
  ·exact e.loc
  ·exact λz=>e.cells _ _ ha z.symm
 obtain⟨m,hn⟩:=e.ns;have e2:CompEnd X IT (σ.set i<|B'<|.ref D') H' C s'':=⟨I'',⟨m,hn.sameBut hsb neC⟩,e.free,e.loc,e.young,e.cells,e.pin⟩;exact⟨m,hn.sameBut hsb neC,λh' Vw=>⟨_,H',e2.gone Vw,q⟩⟩
end
section
variable {K:IJ}{a D:IL}{xs:IG V}{g:TG}{tt:TT}{te:TE}{σ0:St}{H1:Hp}{Q:VK}
theorem dq(Pv:Nat->St->IG V->Hp->Prop)(h0:Pv 0 σ0 [] (upd H1 D<|.lst []))(hd:∀i σ ys H,i<=xs.length->Pv i σ ys H->H D=B' (.lst ys)/\SqL K H a xs)
  (hs:∀i x σ ys H,xs[i]? =B' x->Pv i σ ys H->g x σ H λσ3 H3=>tt σ3 H3 λb H4=>if b=IS then te σ3 H4 λy H5=>H5 D=B' (.lst ys)/\ys.length < sizeLine/\Pv (i+1) σ3 (ys++[y]) (upd H5 D<|.lst<|ys++[y])else Pv (i+1) σ3 ys H4)
  (hq:∀σ ys H,Pv xs.length σ ys H->Q (.ref D) H):gE (vE K a) D g tt te σ0 H1 Q:=by
 exists λi m σ ys H=>m=xs.length - i/\i<=xs.length/\Pv i σ ys H,⟨xs.length,by simp,Jw _,h0⟩;rintro i m σ ys H ⟨rfl,hi,p⟩;obtain⟨hD,q⟩:=hd i σ ys H hi p;exists hD;by_cases M6:i < xs.length
 ·refine .inr ⟨⟨xs,xs[i],q,by simp [M6]⟩,Pv<|i+1,λσ' ys' H' p'=>⟨xs.length - (i+1),by lia,rfl,M6,p'⟩,λx H' y=>?_⟩;obtain⟨e,y⟩:=y;subst e;exact hs i x σ ys _ (y xs q) p
 ·have e:i=xs.length:=by lia
  subst e;exact .inl ⟨⟨xs,q,IX _⟩,hq σ ys H p⟩
theorem wm(Pv:Nat->St->IG V->Hp->Prop)(h0:Pv 0 σ0 [] (upd H1 D<|.lst []))(hd:∀i σ ys H,i<=xs.length->Pv i σ ys H->H D=B' (.lst ys)/\SqT K H a xs)
  (hs:∀i x σ ys H,xs[i]? =B' x->Pv i σ ys H->g x σ H λσ3 H3=>tt σ3 H3 λb H4=>if b=IS then te σ3 H4 λy H5=>H5 D=B' (.lst ys)/\ys.length < sizeLine/\Pv (i+1) σ3 (ys++[y]) (upd H5 D<|.lst<|ys++[y])else Pv (i+1) σ3 ys H4)
  (hq:∀σ ys H,Pv xs.length σ ys H->Q (.ref D) H):gE (CS K a) D g tt te σ0 H1 Q:=by
 exists λi m σ ys H=>m=xs.length - i/\i<=xs.length/\Pv i σ ys H,⟨xs.length,by simp,Jw _,h0⟩;rintro i m σ ys H ⟨rfl,hi,p⟩;obtain⟨hD,q⟩:=hd i σ ys H hi p;exists hD;by_cases M6:i < xs.length
 ·refine .inr ⟨⟨xs,xs[i],q,by simp [M6]⟩,Pv<|i+1,λσ' ys' H' p'=>⟨xs.length - (i+1),by lia,rfl,M6,p'⟩,λx H' y=>?_⟩;obtain⟨e,y⟩:=y;subst e;exact hs i x σ ys _ (y xs q) p
 ·have e:i=xs.length:=by lia
  subst e;exact .inl ⟨⟨xs,q,IX _⟩,hq σ ys H p⟩
theorem kh{lo:Int}(Pv:Nat->St->IG V->Hp->Prop)(h0:Pv 0 σ0 [] (upd H1 D<|.lst []))(hd:∀i σ ys H,i<=n->Pv i σ ys H->H D=B' (.lst ys))
  (hs:∀i σ ys H,i < n->Pv i σ ys H->g (.int<|lo+i) σ H λσ3 H3=>tt σ3 H3 λb H4=>if b=IS then te σ3 H4 λy H5=>H5 D=B' (.lst ys)/\ys.length < sizeLine/\Pv (i+1) σ3 (ys++[y]) (upd H5 D<|.lst<|ys++[y])else Pv (i+1) σ3 ys H4)
  (hq:∀σ ys H,Pv n σ ys H->Q (.ref D) H):gE (Bx lo n) D g tt te σ0 H1 Q:=by
 exists λi m σ ys H=>m=n - i/\i<=n/\Pv i σ ys H,⟨n,by simp,Jw _,h0⟩;rintro i m σ ys H ⟨rfl,hi,p⟩;exists hd i σ ys H hi p;by_cases M6:i < n
 ·refine .inr ⟨M6,Pv<|i+1,λσ' ys' H' p'=>⟨n - (i+1),by lia,rfl,M6,p'⟩,λx H' y=>?_⟩;obtain⟨e,y⟩:=y;subst e y;exact hs i σ ys _ M6 p
 ·have e:i=n:=by lia
  subst e;exact .inl ⟨IX _,hq σ ys H p⟩
end
section
variable {X:Cx}{pos:Pos}
def HM(K:IJ)(n:Nat)(t:zj):TG:=λv σ H Q=>∃a xs,v=.ref a/\SqL K H a xs/\xs.length=n/\t xs σ H Q
theorem nE{k:Nat}{n:Nat}(hc:X.calm=IS)(h:EH X es t)
  (hn:(Nh es X.env).length=n:=by rfl) (R3:(Nh es X.env).findIdx? (·.1)=none:=by rfl):PG X (.Tuple es k pos) (HM X.K n t):=by
 intro IT s σ H v u Q I r hw;obtain⟨a,xs,e1,hq,hl,hw⟩:=hw;subst e1;cases r;obtain⟨KN,rv,pl,hz⟩:=I.list hq;rw[assign_Tuple];refine II<|Oe ?_;unfold unpack;have hsz:(Nh es X.env).length=KN.toArray.size:=by
  rw[hn,Jn,<-rv.length];exact hl.symm
 rw[hsz,R3];refine II<|Ks<|PySem.W.kun_itemsOf (I.ok.hd hc) pl.isList λh' hx=>?_;have I1:Inv X IT σ H {s with heap:=h'}:=I.kept (t':=s.toks) λb o e=>hx b o (Js<|Jh e) e;exact h IT _ σ H xs _ Q I1 (by simpa using rv) hw
theorem wn(hc:X.calm=IS):dJ X (.builtin "sum") (λxs H Q=>∃(p:IL) (ns:IG Int),xs=[.ref p]/\SqL X.K H p (ns.map V.int)/\Q (.int ns.sum) H):=by
 intro IT s σ H xs us Q I r h;obtain⟨p,ns,rfl,hq,q⟩:=h;obtain⟨u,rfl,ru⟩:=eZ r;cases ru;obtain⟨KN,rv,pl,hz⟩:=I.list hq;have hi:M5 KN ns:=e_ rv;obtain⟨zs,ez⟩:=hi.allInts.items;have hl:=pl.isList;rw[ez]at hl;refine sum_intListG (I.ok.hd hc) hl λh' tk t' hk=>?_;have e1:numsOf KN=zs.toList.map (·.1):=by
  rw[<-W2,<-ez]
 have e2:preSum (Xx zs) zs.size=ns.sum:=by
  rw[preSum_eq,Jy (by simp),<-e1,hi.numsOf]
 rw[e2];exact⟨.int ns.sum,H,I.kept hk,⟨_,rfl⟩,q⟩
theorem qz:∀{us:IG IH},Vals (ss.map V.str) us->StrsAre us ss:=by
 induction ss with
 |nil=>intro us r;rw[PZ]at r;cases r;exact .nil
 |cons n ns ih=>
  intro us r;rw[J']at r;cases r with
  |cons r1 r2=>
   obtain⟨t,e⟩:=r1;subst e;exact .cons n t<|ih r2
theorem zQ:Ig X "str.join" (λx vs H Q=>∃sep p ys,x=.str sep/\vs=[.ref p]/\SqL X.K H p (ys.map V.str)/\(ys.map (·.length)).sum+ys.length*sep.length<=16777216/\Q (.str<|Uu sep ys) H):=by
 intro IT s σ H x vs v us Q I rx rv h;obtain⟨sep,p,ys,rfl,rfl,hq,hz,q⟩:=h;obtain⟨t,rfl⟩:=rx;obtain⟨u,rfl,ru⟩:=eZ rv;cases ru;obtain⟨KN,r,pl,_⟩:=I.list hq;exact join_list pl.isList (by simpa using qz r) hz λt' k=>⟨.str _,H,I.tok _,⟨_,rfl⟩,q⟩
def wo:V->Jm
 |.bl _=>IS
 |.non=>IS
 |_=>IU
def iC:V->Jm
 |.bl b=>b
 |_=>IU
theorem se(r:Vals ys KN)(hb:ys.all wo=IS):TruthOf prog w A (λi v=>KN.toArray[i]? =B' v) (λi=>(ys[i]?).elim IU iC):=by
 intro i v s Q E hv hq;have Y9:KN[i]? =B' v:=by simpa using hv
 cases e:ys[i]? with
 |none=>
  rw[r.none_of e]at Y9;cases Y9
 |some y=>
  obtain⟨u,hu,ru⟩:=r.get e;rw[hu]at Y9;cases Y9;have YS:Q ((ys[i]?).elim IU iC) s:=hq;rw[e]at YS;have hy:=Ly.mp hb y<|Ji e;cases y with
  |bl b=>
   cases ru;exact Ll YS
  |non=>
   cases ru;exact truthy_none YS
  |_=>cases hy
theorem ur(ys:IG V):(KI ys.length).any (λi=>(ys[i]?).elim IU iC)=ys.any iC:=by
 rw[Lw];simp only [Ms,Lu];constructor
 ·rintro⟨i,hi,h⟩;exists ys[i],O' hi;simpa [hi]using h
 ·rintro⟨y,hy,h⟩;obtain⟨i,hi,rfl⟩:=ML hy;exact⟨i,hi,by simpa [hi]using h⟩
theorem ut(ys:IG V):(KI ys.length).all (λi=>(ys[i]?).elim IU iC)=ys.all iC:=by
 rw[Lw];simp only [Ly,Lu];constructor
 ·intro h y hy;obtain⟨i,hi,rfl⟩:=ML hy;simpa [hi]using h i hi
 ·intro h i hi;simpa [hi]using h ys[i] (O' hi)
theorem wp(hc:X.calm=IS):dJ X (.builtin "any") (λxs H Q=>∃p ys,xs=[.ref p]/\SqL X.K H p ys/\ys.all wo=IS/\Q (.bl<|ys.any iC) H):=by
 intro IT s σ H xs us Q I r h;obtain⟨p,ys,rfl,hq,hb,q⟩:=h;obtain⟨u,rfl,ru⟩:=eZ r;cases ru;obtain⟨KN,rv,pl,hz⟩:=I.list hq;have hl:=pl.isList;obtain⟨o,ho,_⟩:=id hl;have M6:p < s.heap.objs.size:=Jh ho;refine call_any_walk<|M8 hl ?_;refine⟨s.heap.objs.size,_,_,_,_,_,_,rfl,P7 (A:=X.A.in1) (I.ok.hd hc) s.heap.objs.size p (Js M6) KN.toArray,⟨⟨_,JB _ rfl,rfl,rfl⟩,hl.push _⟩,se rv hb,λh' tk hk=>?_⟩;have e:(KI KN.toArray.size).any (λi=>(ys[i]?).elim IU iC)=ys.any iC:=by
  rw[Jn,<-rv.length];exact ur ys
 rw[e];refine⟨.bl _,H,I.kept λb o e=>hk b o ?_<|IP _ e,rfl,q⟩;intro hm;exact absurd (Jf.mp hm)<|Js<|Jh e
theorem wq(hc:X.calm=IS):dJ X (.builtin "all") (λxs H Q=>∃p ys,xs=[.ref p]/\SqL X.K H p ys/\ys.all wo=IS/\Q (.bl<|ys.all iC) H):=by
 intro IT s σ H xs us Q I r h;obtain⟨p,ys,rfl,hq,hb,q⟩:=h;obtain⟨u,rfl,ru⟩:=eZ r;cases ru;obtain⟨KN,rv,pl,hz⟩:=I.list hq;have hl:=pl.isList;obtain⟨o,ho,_⟩:=id hl;have M6:p < s.heap.objs.size:=Jh ho;refine call_all_walk<|M8 hl ?_;refine⟨s.heap.objs.size,_,_,_,_,_,_,rfl,P7 (A:=X.A.in1) (I.ok.hd hc) s.heap.objs.size p (Js M6) KN.toArray,⟨⟨_,JB _ rfl,rfl,rfl⟩,hl.push _⟩,se rv hb,λh' tk hk=>?_⟩;have e:(KI KN.toArray.size).all (λi=>(ys[i]?).elim IU iC)=ys.all iC:=by
  rw[Jn,<-rv.length];exact ut ys
 rw[e];refine⟨.bl _,H,I.kept λb o e=>hk b o ?_<|IP _ e,rfl,q⟩;intro hm;exact absurd (Jf.mp hm)<|Js<|Jh e
theorem l6(hi:M5 KN ns):∀(js:IG Nat),∃ms:IG Int,Vals (ms.map V.int) (js.filterMap (KN.toArray[·]?))/\ms.length<=js.length
 |[]=>⟨[],.nil,IX _⟩
 |j::r=>by
  obtain⟨ms,h1,h2⟩:=l6 hi r;rw[Nj];cases e:KN.toArray[j]? with
  |none=>exact⟨ms,h1,by rw[JJ];lia⟩
  |some v=>
   have ev:KN[j]? =B' v:=by simpa using e
   obtain⟨a,t,rfl⟩:=hi.allInts v (by simpa using Ji ev);exact⟨a::ms,.cons ⟨t,rfl⟩ h1,by rw[JJ,JJ];lia⟩
def HN(K:IJ):V->IQ Int->IQ Int->IQ Int->Hp->VK->Prop:=λx lo hi st H Q=>∃(a:IL) (ns:IG Int) (c:Int),x=.ref a/\SqL K H a (ns.map V.int)/\st=B' c/\0 < c/\ns.length<=1000/\∀(p:IL) (ms:IG Int),H p=IV->ms.length<=1000->Q (.ref p) (upd H p<|.lst<|WA V.int ms)
theorem uu{lo hi c:Int}{n:Nat}(h0:0 < c)(h1:0<=lo)(h2:hi<=n):(V' lo hi c).length<=n:=by
 unfold V';rw[IR,Mf,JF h0];by_cases h:lo < hi
 ·rw[JF h];have h3:(hi - lo)*1<=(hi - lo)*c:=Int.mul_le_mul_of_nonneg_left (by lia) (by lia);have h4:(hi - lo+c - 1) / c < hi - lo+1:=by
   refine Int.ediv_lt_of_lt_mul h0 ?_;rw[Vt];lia
  lia
 ·rw[JD h];exact Jw _
theorem uv{e:Km}{te:TE}{lo hi:IQ Km}{est:Km}{tl th ts:TO}{p2:Pos}(he:PE X e te)(hl:PO X lo tl)(hu:PO X hi th)(R3:PO X (B' est) ts):
  PE X (.Subscript e (.Slice lo hi (B' est) p2) pos) (λσ H Q=>te σ H λx H1=>tl σ H1 λl H2=>th σ H2 λu H3=>ts σ H3 λc H4=>HN X.K x l u c H4 Q):=by
 intro IT s σ H Q I h;refine TR<|bT (he IT s σ H _ I h) λv s1 ⟨x,H1,I1,r1,q1⟩=>?_;refine wpAny_Slice<|bT (hl IT s1 σ H1 _ I1 q1) λvl s2 ⟨l,H2,I2,pl,q2⟩=>bT (hu IT s2 σ H2 _ I2 q2) λvu s3 ⟨u,H3,I3,pu,q3⟩=>bT (R3 IT s3 σ H3 _ I3 q3) λvs s4 ⟨c,H4,I4,ps,q4⟩=>?_;obtain⟨a,ns,c',rfl,hS,rfl,hc,Lx,q⟩:=q4;cases r1;have I5:Inv X IT σ H4 {s4 with heap:=s4.heap.push {cls:=.type "slice",data:=.fields #[vl,vu,vs]}}:=I4.kept (t':=s4.toks) λb ob q=>IP _ q;obtain⟨KN,r,ht,hz⟩:=I5.list hS;have adP:=r.length;rw[IR]at adP;obtain⟨ms,hv,hm⟩:=l6 (e_ r)<|V' (LU l u (B' c') KN.toArray.size).1 (LU l u (B' c') KN.toArray.size).2.1 (LU l u (B' c') KN.toArray.size).2.2;have hms:ms.length<=1000:=by
  refine KE hm (KE (uu (n:=KN.toArray.size) hc ?_ ?_)<|by rw[Jn];lia)
  ·cases l with
   |none=>simp [LU,hc]
   |some i=>
    simp only [LU,Rb,JF hc]
    split<;>lia
  ·cases u with
   |none=>simp [LU,hc]
   |some i=>
    simp only [LU,Rb,JF hc]
    split<;>lia
 show wpAny (Ju X.prog X.w) X.A (QT e (.Slice lo hi (B' est) p2) (.ref a)<|.ref s4.heap.objs.size) (EP X IT σ Q) X.xe {s4 with heap:=s4.heap.push {cls:=.type "slice",data:=.fields #[vl,vu,vs]}}
 refine YK (ops:=[.ref a,.ref s4.heap.objs.size]) ht.isList.typeIs slot_list_getitem.lookup ?_ (by with_unfolding_all rfl);refine QN ht.isList (TL ..) pl pu ps (by intro z;have:c'=0:=Jo z;lia) ?_ (by rw[Jn,KS];lia);refine⟨.ref _,_,I5.laid (t':=s4.toks) (o:=.lst<|ms.map V.int) (λb ob q=>IP _ q) (IX _) ?_,rfl,q _ ms (I5.hok.fresh<|IX _) hms⟩;exists by rw[IR];exact KM<|aD hms,_,0,hv;exact JB _ rfl
end
theorem ki:∀(l:IG IH) (ks:IG Int),l.length=ks.length->(∀(i:Nat) (v:IH),l[i]? =B' v->∃(k:Int) (t:Tok),ks[i]? =B' k/\v=.int k t)->M5 l ks
 |[],[],_,_=>.nil
 |[],_::_,h,_=>by cases h
 |_::_,[],h,_=>by cases h
 |v::l,k::ks,h,f=>by
  obtain⟨k',t,e1,e2⟩:=f 0 v rfl;have e1':k=k':=Jo e1;subst e1' e2;exact .cons k t (ki l ks (by simpa using h) λi u hu=>f (i+1) u<|by simpa using hu)
theorem oZ{κ:Type}:∀{kvs:IG (κ×V)} {vs:IG (κ×IH)} {i:Nat} {q:κ×IH},KV kvs vs->vs[i]? =B' q->∃p,kvs[i]? =B' p/\p.1=q.1/\RelV p.2 q.2
 |_,_,_,_,.nil,e=>by cases e
 |_,_,0,_,.cons r _,e=>by
  have e':=Jo e;subst e';exact⟨_,rfl,r.1,r.2⟩
 |_,_,i+1,q,.cons _ t,e=>by
  obtain⟨p,h1,h2⟩:=oZ (i:=i) (q:=q) t (by simpa using e);exact⟨p,by simpa using h1,h2⟩
section
variable {X:Cx}
theorem jp(hc:X.calm=IS):dJ X (.builtin "sorted") (λxs H Q=>∃p kvs ks,xs=[.ref p]/\H p=B' (.dK kvs)/\kvs.map (·.1)=ks.map Ke/\ks.length < 64/\
  ∀l QX,H l=IV->Rg QX ks->Pi (·<=·) QX->Q (.ref l) (upd H l<|.lst<|WA V.int QX)):=by
 intro IT s σ H xs us Q I r h;obtain⟨p,kvs,ks,rfl,hp,hk,ZY,q⟩:=h;obtain⟨u,rfl,ru⟩:=eZ r;cases ru;obtain⟨z,hd,vs,QI,dd⟩:kvs.length<=sizeLine/\(p == Mb)=IU/\∃vs,KV kvs vs/\s.heap.DictOf (bi X.prog X.w) p vs:=I.hok p _ hp;obtain⟨ep,ZX⟩:=dd.dictAt;have Lx:kvs.length=vs.length:=Paired.length QI;have hkl:ks.length=kvs.length:=by
  have e:=Kp LX hk;rw[IR,IR]at e;exact e.symm
 refine N7 Ss Ru Rw (UF _) ?_;unfold Builtin.«sorted»;refine II (m:=Tr "sorted" 1 1 _)<|I0 ?_;refine II<|PJ (A:=X.A.in1) (U7 (knd:=bi X.prog X.w) (kvs:=vs) (ep:=ep) hd) (I.ok.hd hc) ZX (by lia) λh' tk M7 hkp XO=>?_;have hl:M7.toList.length=vs.length:=by rw[JE];exact XO.1
 have Yn:M5 M7.toList ks:=by
  refine ki _ _ (by rw[hl];lia) λi v hv=>?_;obtain⟨k,x,hx,hkv⟩:=XO.2 i v (by rw[<-JQ];exact hv);obtain⟨q1,ZP,hq2,_⟩:=oZ QI hx;have e1:(kvs.map (·.1))[i]? =B' k:=by rw[Jx,ZP];exact Kp B' hq2
  rw[hk,Jx]at e1;cases e2:ks[i]? with
  |none=>rw[e2]at e1;cases e1
  |some n=>
   rw[e2]at e1;have e3:(Ke n:bv)=k:=Jo e1;subst e3;obtain⟨t,et⟩:=ON (k:=n) (v:=v) hkv;exact⟨n,t,rfl,et⟩
 refine II (Pc ?_<|by rw[hl];lia);have I1:Inv X IT σ H {s with heap:=h',toks:=tk}:=I.kept hkp;have ZS:(h'.push<|KZ "list" M7.toList.toArray 0).get? h'.objs.size=B' (KZ "list" M7.toList.toArray 0):=JB _ rfl;refine II<|Ks<|Nn Sn ⟨_,ZS,rfl⟩ RP (list_sort_tree ZS Yn (by lia) λout QX a1 a2 a3=>⟨_,rfl,?_⟩)<|Wv _;refine I0 ⟨_,rfl,?_⟩;have hn:=I1.hok.fresh (a:=h'.objs.size)<|IX _;obtain⟨e,he⟩:=Xj (out:=out) ZS;have I2:Inv X IT σ (upd H h'.objs.size<|.lst<|QX.map V.int) {s with heap:=Wt (h'.push<|KZ "list" M7.toList.toArray 0) h'.objs.size M7.toList out,toks:=tk}:=by
  refine I1.laid (t':=tk) (λb o eb=>?_) (IX _) ?_
  ·have hb:b < h'.objs.size:=Jh eb;rw[Ws (Js hb)<|by rw[TQ];exact LF hb];exact IP _ eb
  ·refine⟨?_,out.toList,e,?_,?_⟩
   ·rw[IR,a2.length_eq];exact KM (aD<|by lia)
   ·exact gX a1
   ·simpa using he
 exact⟨.ref h'.objs.size,_,I2,rfl,q _ QX hn a2 a3⟩
end
def Dz(K:IJ)(a:IL):It:=
 ⟨λi H=>∃xs x,SqL K H a xs/\xs[i]? =B' x,λi H x H'=>∃t v,H t=IV/\x=.ref t/\H'=upd H t (.tup [.int i,v])/\∀xs,SqL K H a xs->xs[i]? =B' v,λi H=>∃xs,SqL K H a xs/\xs.length<=i⟩
theorem uw{P:Jc}{w:Jv}{K:IJ}{es:IG Km}{k1:Nat}{pos:Pos}(a e it:IL)(S8:e≠it):ub P w K (.Tuple es k1 pos) (Dz K a) [e,it] e (λi h=>(∃old,IsEnum h e it i old)/\h.IsListIter it a i) where
 mem:=by simp
 obj:=λi h st b hb=>by
  obtain⟨⟨old,h1⟩,o,h2,_,h4⟩:=st;obtain rfl|hb:=JC.mp hb
  ·exact⟨_,h1,λv z=>by
    have z':Vr _=XA v:=z;cases z'⟩
  ·have e:b=it:=Jf.mp hb;subst e;exact⟨o,h2,λv z=>by rw[h4]at z;cases z⟩
 keep:=λi h h' st k=>by
  obtain⟨⟨old,h1⟩,h2⟩:=st;exact⟨⟨old,k e (by simp) _ h1⟩,h2.at λo e=>k it (by simp) o e⟩
 item:=by
  intro X hP hw hK hc i IT s σ H E I hf st hg;subst hP hw hK;obtain⟨xs,x,hq,hx⟩:=hg;obtain⟨KN,rv,p,hz⟩:=I.list hq;obtain⟨u,hu,ru⟩:=rv.get hx;obtain⟨⟨old,h1⟩,h2⟩:=st;obtain⟨f0,f1,f2,f3,f4,f5⟩:=hf e (by simp);obtain⟨g0,g1,g2,g3,g4,g5⟩:=hf it (by simp);refine wpAny_pyNext_enum_item h1 h2 p.isList (x:=u) (by simpa using hu) S8 λh' ho aaC ht hsz hk=>?_;refine⟨_,rfl,wpAny_letOwnedTupleGo_enum ho λh'' af_ ab9=>?_⟩;have hel:e < s.heap.objs.size:=Jh h1;have Te:it < s.heap.objs.size:=by
   obtain⟨o,q,_⟩:=h2;exact Jh q
  have kk:∀b o,b≠e->b≠it->s.heap.get? b=B' o->h''.get? b=B' o:=λb o h3 h4 q=>ab9.extBut b o h3<|hk b o h3 h4 q;have I1:Inv X IT σ (upd H s.heap.objs.size<|.tup [.int i,x]) {s with heap:=h'',toks:=s.toks+1}:=by
   have hn:H s.heap.objs.size=none:=I.hok.fresh<|IX _;have afx:h''.get? s.heap.objs.size=B' {cls:=.type "tuple",data:=.seq #[.int i s.toks,u]}:=ab9.extBut _ _ (MN hel) ht;have nt:∀b o,H b=B' o->b≠e/\b≠it:=λb o q=>⟨λz=>(by rw[z,f0]at q;cases q),λz=>(by rw[z,g0]at q;cases q)⟩;refine I.step (g':=s.gens) (d':=s.drawn) (t':=s.toks+1) (ch:=[e,it]) (λb hb=>?_) (λb o _ _ hc q _=>?_) (λb o _ _ hc q _=>⟨o.slots,?_⟩) (λb o _ q n=>?_) (λb o hc q=>⟨o,?_⟩) (λb ys q=>?_) (λb ob ys q=>?_) (λb ps q=>⟨#[],?_⟩) (λm hm=>?_) (λb ob q=>?_) I.bare
   ·obtain rfl|hb:=JC.mp hb
    ·exact⟨f3,f1,f4,f5⟩
    ·have z:b=it:=Jf.mp hb;subst z;exact⟨g3,g1,g4,g5⟩
   ·exact kk b o (λz=>hc<|by simp [z]) (λz=>hc<|by simp [z]) q
   ·exact kk b o (λz=>hc<|by simp [z]) (λz=>hc<|by simp [z]) q
   ·rw[ao<|Js<|Jh q];exact n
   ·exact kk b o (λz=>hc<|by simp [z]) (λz=>hc<|by simp [z]) q
   ·rw[ao<|aj q hn];exact q
   ·rw[ao<|aj q hn];exact q
   ·rw[ao<|aj q hn,q];simp
   ·obtain⟨o,es,ep,ho,r⟩:=hm;exact⟨o,es,ep,kk _ o (Lq f1) (Lq g1) ho,r⟩
   ·by_cases hb:b=s.heap.objs.size
    ·subst hb;rw[ad]at q;cases q;exact⟨by show 2<=sizeLine;decide,[.int i s.toks,u],.cons ⟨_,rfl⟩<|.cons ru .nil,⟨_,afx,rfl,_,rfl⟩⟩
    ·rw[ao hb]at q;refine(I.hok b ob q).stay (λc v hc z=>?_) (λc z=>by rw[ao<|aj z hn];exact z) λc ys z=>by rw[ao<|aj z hn];exact z
     obtain hc|hc:=hc
     ·subst hc;exact kk _ v (nt _ _ q).1 (nt _ _ q).2 z
     ·exact kk _ v (nt _ _ hc).1 (nt _ _ hc).2 z
  refine⟨.ref s.heap.objs.size,_,I1,rfl,⟨s.heap.objs.size,x,I.hok.fresh<|IX _,rfl,rfl,λys hy=>by rw[I.list_inj hy hq];exact hx⟩,⟨⟨u,by simpa using af_⟩,aaC.at λo q=>ab9.extBut it o (Lq S8) q⟩,λb hb=>?_⟩;have M6:b < s.heap.objs.size:=by
   obtain rfl|hb:=JC.mp hb
   ·exact hel
   ·rw[Jf.mp hb];exact Te
  rw[ao<|Js M6];exact(hf b hb).1
 done:=by
  intro X hP hw hK hc i IT s σ H E I hf st hg;subst hP hw hK;obtain⟨xs,hq,hx⟩:=hg;obtain⟨KN,rv,p,hz⟩:=I.list hq;obtain⟨⟨old,h1⟩,h2⟩:=st;obtain⟨g0,g1,g2,g3,g4,g5⟩:=hf it (by simp);have hl:=rv.length;exact wpAny_pyNext_enum_end (I.ok.hd hc) h1 h2 p.isList (by simp;lia) λh' eb=>⟨rfl,I.turned (t':=s.toks) (λb o hb e=>eb b o hb e) g0 g1 g3 g4 g5⟩
 self:=λ_ _ _ _ _ st h=>by
  obtain⟨⟨old,h1⟩,_⟩:=st;exact Ui h1 h
def wt(f:V->Hp->Prop):IG V->Hp->Prop
 |[x],H=>f x H
 |_,_=>False
theorem iD:∀{vs:IG V} {H:Hp},wt f vs H->∃x,vs=[x]/\f x H
 |[x],_,h=>⟨x,rfl,h⟩
section
variable {X:Cx}
def FC(K:IJ)(tl:TE):TI:=λσ H R=>tl σ H λx H1=>∃a,x=.ref a/\(∃xs,SqL K H1 a xs)/\R (Dz K a) H1
theorem jJ{es:IG Km}{k1:Nat}{abQ:Pos}{p pos:Pos}(hg:Gl X "enumerate")(hm:X.mg "enumerate"=IV)(hl:PE X l tl)(hs:JI [l] X.env=[(IU,LN l X.env)]:=by rfl):
  PI X (.Tuple es k1 abQ) (.Call (.Name "enumerate" p) [l] [] pos) (FC X.K tl):=by
 intro IT s σ H R I h;have ha:=aa hl (ae (X:=X)) (by rw[hs];rfl);refine Call_<|eD I hg hm boot_enumerate<|Lo (bT (ha pos IT s σ H (wt λx H1=>∃a,x=.ref a/\(∃xs,SqL X.K H1 a xs)/\R (Dz X.K a) H1) I h) λus s1 ⟨vs,H1,I1,r1,q1⟩=>?_) hs rfl
 ·obtain⟨x,e,a,ex,⟨xs,hq⟩,q⟩:=iD q1;subst e ex;obtain⟨u,rfl,ru⟩:=eZ r1;cases ru;obtain⟨KN,rv,pl,hz⟩:=I1.list hq;refine call_enumerate_list pl.isList λh' he XM hsz hk=>?_;refine Ui he ?_;have I2:Inv X IT σ H1 {s1 with heap:=h'}:=I1.kept (t':=s1.toks) hk;refine⟨s1.heap.objs.size+1,[s1.heap.objs.size+1,s1.heap.objs.size],_,_,H1,rfl,I2,uw a _ _<|Nat.succ_ne_self _,⟨⟨_,he⟩,XM⟩,λb hb=>?_,q⟩;obtain rfl|hb:=JC.mp hb
  ·exact I1.fpOk (NW _)<|I1.hok.fresh<|NW _
  ·rw[Jf.mp hb];exact I1.fpOk (IX _)<|I1.hok.fresh<|IX _
end
theorem kj{K:IJ}{a:IL}{xs:IG V}{g:TG}{tb:TS}{D:fQ}{σ:St}{H:Hp}(Pv:Nat->St->Hp->Prop)(h0:Pv 0 σ H)(hl:∀i σ H,i<=xs.length->Pv i σ H->SqL K H a xs)
  (hs:∀i x σ H t,xs[i]? =B' x->Pv i σ H->H t=IV->g (.ref t) σ (upd H t<|.tup [.int i,x]) λσ2 H2=>tb {D with nx:=Pv<|i+1,ct:=Pv<|i+1,bk:=D.nx} σ2 H2) (hd:∀σ H,Pv xs.length σ H->D.nx σ H):
  ∃W:Nat->Nat->St->Hp->Prop,(∃m,W 0 m σ H)/\∀i m σ H,W i m σ H->
   ((Dz K a).stop i H/\D.nx σ H)\/((Dz K a).go i H/\∃N:St->Hp->Prop,(∀σ' H',N σ' H'->∃m',m' < m/\W (i+1) m' σ' H')/\∀x H',(Dz K a).yld i H x H'->g x σ H' λσ2 H2=>tb {D with nx:=N,ct:=N,bk:=D.nx} σ2 H2):=by
 exists λi m σ H=>m=xs.length - i/\i<=xs.length/\Pv i σ H,⟨xs.length,by simp,Jw _,h0⟩;rintro i m σ H ⟨rfl,hi,p⟩;have q:=hl i σ H hi p;by_cases M6:i < xs.length
 ·refine .inr ⟨⟨xs,xs[i],q,by simp [M6]⟩,Pv<|i+1,λσ' H' p'=>⟨xs.length - (i+1),by lia,rfl,M6,p'⟩,λx H' y=>?_⟩;obtain⟨t,v,ht,rfl,rfl,y⟩:=y;exact hs i v σ H t (y xs q) p ht
 ·have e:i=xs.length:=by lia
  subst e;exact .inl ⟨⟨xs,q,IX _⟩,hd σ H p⟩
end L2
namespace L2
section
open PySem
variable {X:Cx}{K:IJ}
theorem iE(e:X.K=K):IxR X (Hx K):=by subst e;exact ax
theorem ie(e:X.K=K):OpR X (KR .In) (GV K IU):=by subst e;exact lT
theorem lI(e:X.K=K):OpR X (KR .NotIn) (GV K IS):=by subst e;exact cD
theorem l7(e:X.K=K):dJ X (.builtin "len") (zt K):=by subst e;exact a_
end
end L2
namespace OD
open PySem L2
def absI(i:Int):Int:=if i < 0 then -i else i
theorem wu(h:0<=i):absI i=i:=by unfold absI;rw[JD<|by lia]
def FD:Int->IG Int->Prop
 |_,[]=>True
 |b,l::r=>b < absI l/\FD (absI l) r
def ig(n:Int)(ls:IG Int):Prop:=FD 0 ls/\∀l∈ls,absI l<=n
theorem ww(n:Int):ig n []:=⟨trivial,λ_ h=>nomatch h⟩
def fM(c:IG Int):Jg:=.tuple<|c.map .int
def sf(t:Str)(cs:IG (IG Int)):Jg:=.tuple [.str t,.list<|cs.map fM]
def WS(t:Str):Prop:=∀ch∈t.cps.toList,ch=119\/ch=115
structure Iz (most:Int)(t:Str)(cs:IG (IG Int)):Prop where
 len:(t.length:Int)<=most
 ws:WS t
 many:cs.length<=16
 cl:∀c∈cs,ig t.length c
def dP(ps:IG (Int×Int)):IG (bv×V):=ps.map λq=>(Ke q.1,V.int q.2)
def qA(ps:IG (Int×Int))(k s:Int):IG (Int×Int):=if(ps.any λq=>decide (q.1=k))=IS then ps.map (λq=>if q.1=k then(q.1,s)else q)else ps++[(k,s)]
theorem DA(ps:IG (Int×Int))(k:Int):((dP ps).any λkv=>decide (kv.1=(Ke k:bv)))=ps.any λq=>decide (q.1=k):=by
 unfold dP;rw[P0]
 congr 1
 funext q
 show decide ((Ke q.1:bv)=Ke k)=decide (q.1=k)
 by_cases e:q.1=k
 ·rw[Jj e,Jj<|by rw[e]]
 ·rw[IW e,IW λz=>e<|NO z]
theorem wx(ps:IG (Int×Int))(k s:Int):bX (dP ps) (Ke k) (V.int s)=dP (qA ps k s):=by
 unfold bX qA;rw[DA];by_cases h:(ps.any λq=>decide (q.1=k))=IS
 ·rw[JF h,JF h];unfold dP;rw[KJ,KJ]
  congr 1
  funext q
  show(if(Ke q.1:bv)=Ke k then((Ke q.1:bv),V.int s)else(Ke q.1,V.int q.2))=(Ke (if q.1=k then(q.1,s)else q).1,V.int (if q.1=k then(q.1,s)else q).2)
  by_cases e:q.1=k
  ·rw[JF (by rw[e]),JF e]
  ·rw[JD λz=>e<|NO z,JD e]
 ·rw[JD h,JD h];unfold dP;rw[JO];rfl
theorem sh(ps:IG (Int×Int)):(dP ps).map (·.1)=(ps.map (·.1)).map Ke:=by
 unfold dP;rw[KJ,KJ];rfl
def l8(ps:IG (Int×Int))(k:Int):IQ Int:=(ps.find? λq=>decide (q.1=k)).map (·.2)
theorem DB(ps:IG (Int×Int))(k:Int):cn (dP ps) (Ke k:bv)=(l8 ps k).map V.int:=by
 induction ps with
 |nil=>rfl
 |cons q r ih=>
  show cn (((Ke q.1:bv),V.int q.2)::dP r) (Ke k)=_
  by_cases e:q.1=k
  ·rw[cK<|by rw[e]];simp [l8,LR,e]
  ·rw[cL λz=>e<|NO z,ih];simp [l8,LR,e]
structure DOk (n:Int)(ps:IG (Int×Int)):Prop where
 nd:(ps.map (·.1)).Nodup
 rng:∀q∈ps,1<=q.1/\q.1<=n
 sg:∀q∈ps,q.2=1\/q.2=-1
theorem DOk.nil(n:Int):DOk n []:=⟨Sz,(λ_ h=>nomatch h),(λ_ h=>nomatch h)⟩
theorem DOk.put(h:DOk n ps)(h1:1<=k/\k<=n)(hs:s=1\/s=-1):DOk n (qA ps k s)/\(qA ps k s).length<=ps.length+1:=by
 unfold qA;by_cases a:(ps.any λq=>decide (q.1=k))=IS
 ·rw[JF a];have e:(ps.map λq=>if q.1=k then(q.1,s)else q).map (·.1)=ps.map (·.1):=by
   rw[KJ]
   congr 1
   funext q
   show(if q.1=k then(q.1,s)else q).1=q.1
   split<;>rfl
  refine⟨⟨by rw[e];exact h.nd,λq hq=>?_,λq hq=>?_⟩,by rw[IR];lia⟩
  ·obtain⟨q',YS,rfl⟩:=J1.mp hq
   split
   ·exact h.rng q' YS
   ·exact h.rng q' YS
  ·obtain⟨q',YS,rfl⟩:=J1.mp hq
   split
   ·exact hs
   ·exact h.sg q' YS
 ·rw[JD a];refine⟨⟨?_,λq hq=>?_,λq hq=>?_⟩,by rw[I_];exact IX _⟩
  ·rw[JO];refine rZ h.nd λm=>a ?_;obtain⟨q,hq,e⟩:=J1.mp m;exact Ms.mpr ⟨q,hq,Jj e⟩
  ·obtain z|z:=JA.mp hq
   ·exact h.rng q z
   ·rw[Jf.mp z];exact h1
  ·obtain z|z:=JA.mp hq
   ·exact h.sg q z
   ·rw[Jf.mp z];exact hs
def zn(ps:IG (Int×Int))(k:Int):Int:=(l8 ps k).getD 1
theorem DOk.look(h:DOk n ps)(hk:k∈ps.map (·.1)):l8 ps k=B' (zn ps k)/\(zn ps k=1\/zn ps k=-1):=by
 obtain⟨q,hq,e⟩:=J1.mp hk;unfold zn l8;cases f:ps.find? λq=>decide (q.1=k)with
 |none=>
  have:=Qe.mp f q hq;exact absurd (Jj e) this
 |some z=>exact⟨rfl,h.sg z<|List.mem_of_find?_eq_some f⟩
theorem o3(hk:1<=k)(hs:s=1\/s=-1):absI (k*s)=k:=by
 unfold absI;obtain rfl|rfl:=hs
 ·rw[YN,JD<|by lia]
 ·rw[JF<|by lia];lia
theorem wy{f:Int->Int}:∀(ks:IG Int) (b:Int),0<=b->(∀k∈ks,b < k)->ks.Pairwise (· < ·)->(∀k∈ks,f k=1\/f k=-1)->FD b (ks.map λk=>k*f k)
 |[],_,_,_,_,_=>trivial
 |k::r,b,h0,hb,hp,hf=>by
  have hk:=hb k Jp;have e:=o3 (s:=f k) (show 1<=k by lia)<|hf k Jp;obtain⟨p1,p2⟩:=Ls.mp hp;show b < absI (k*f k)/\FD (absI<|k*f k) (r.map λk=>k*f k)
  rw[e];exact⟨hk,wy r k (by lia) p1 p2 λz hz=>hf z<|Jk _ hz⟩
theorem gG:∀{ks:IG Int},ks.Pairwise (·<=·)->ks.Nodup->ks.Pairwise (· < ·)
 |[],_,_=>QG
 |k::r,hp,hn=>by
  obtain⟨p1,p2⟩:=Ls.mp hp;obtain⟨n1,n2⟩:=LQ.mp hn;refine Ls.mpr ⟨λz hz=>?_,gG p2 n2⟩;have:=p1 z hz;have:k≠z:=λe=>n1<|e▸hz;lia
theorem DOk.clause{n:Int}{ps:IG (Int×Int)}{ks:IG Int}(h:DOk n ps)(hp:ks.Perm (ps.map (·.1)))(hs:ks.Pairwise (·<=·)):ig n (ks.map λk=>k*zn ps k):=by
 have hm:∀k∈ks,k∈ps.map (·.1):=λk hk=>hp.mem_iff.mp hk;have hr:∀k∈ks,1<=k/\k<=n:=λk hk=>by
  obtain⟨q,hq,e⟩:=J1.mp<|hm k hk;rw[<-e];exact h.rng q hq
 refine⟨wy ks 0 (OI 0) (λk hk=>by have:=(hr k hk).1;lia) (gG hs<|hp.nodup_iff.mpr h.nd) λk hk=>(h.look<|hm k hk).2,λl hl=>?_⟩;obtain⟨k,hk,rfl⟩:=J1.mp hl;rw[o3 (hr k hk).1 (h.look<|hm k hk).2];exact(hr k hk).2
theorem fg{ns:IG Int}{i:Nat}{x:V}(h:(ns.map V.int)[i]? =B' x):∃z,x=.int z/\ns[i]? =B' z:=by
 rw[Jx]at h;cases e:ns[i]? with
 |none=>rw[e]at h;cases h
 |some z=>
  rw[e]at h;exact⟨z,(Jo h).symm,rfl⟩
theorem wz(ns:IG Int)(lo hi:IQ Int):∃ms:IG Int,dz (ns.map V.int) lo hi=ms.map V.int/\ms.length<=ns.length:=by
 unfold dz;rw[IR];refine⟨(ns.drop<|HT.sIx ns.length 0 lo).take<|HT.sIx ns.length ns.length hi - HT.sIx ns.length 0 lo,?_,?_⟩
 ·rw[<-List.map_drop,<-List.map_take]
 ·rw[JN,MV];lia
theorem si(a b:Str):(a++b).cps.toList=a.cps.toList++b.cps.toList:=by
 show(a.cps++b.cps).toList=_
 simp
theorem o4(he:e.cps.toList=[]):∀ss,(Wo e ss).cps.toList=(ss.map λs=>s.cps.toList).flatten
 |[]=>rfl
 |[x]=>by
  show x.cps.toList=_
  simp
 |x::y::r=>by
  show((x++e)++Wo e (y::r)).cps.toList=_
  rw[si,si,he,o4 he<|y::r];simp
def kl(s:Str):Prop:=s=⟨#[119]⟩\/s=⟨#[115]⟩
theorem kn:∀{ss:IG Str},(∀s∈ss,kl s)->(ss.map λs=>s.cps.toList).flatten.length=ss.length/\∀ch∈(ss.map λs=>s.cps.toList).flatten,ch=119\/ch=115
 |[],_=>⟨rfl,λ_ h=>nomatch h⟩
 |s::r,h=>by
  obtain⟨h1,h2⟩:=kn (ss:=r) λz hz=>h z<|Jk _ hz;rw[J',List.flatten_cons];obtain rfl|rfl:=h s Jp
  ·refine⟨by rw[I_,h1];show 1+r.length=r.length+1;lia,λch hc=>?_⟩;obtain z|z:=JA.mp hc
   ·exact .inl (by simpa using z)
   ·exact h2 ch z
  ·refine⟨by rw[I_,h1];show 1+r.length=r.length+1;lia,λch hc=>?_⟩;obtain z|z:=JA.mp hc
   ·exact .inr (by simpa using z)
   ·exact h2 ch z
theorem FE:(IK "").cps.toList=[]:=by decide+kernel
theorem wA(h:∀s∈ss,kl s):(Uu "" ss).length=ss.length/\WS (Uu "" ss):=by
 have e:Uu (IK "") ss=Wo (IK "") ss:=eq_of_beq<|Vb _ ss;obtain⟨h1,h2⟩:=kn h;have e2:=o4 FE ss;refine⟨?_,?_⟩
 ·rw[e];show(Wo (IK "") ss).cps.size=_
  rw[<-JE,e2];exact h1
 ·intro ch hc;rw[e,e2]at hc;exact h2 ch hc
theorem l9:∀{ss:IG Str},(∀s∈ss,kl s)->(ss.map λs=>s.length).sum=ss.length
 |[],_=>rfl
 |s::r,h=>by
  rw[J',List.sum_cons,l9 λz hz=>h z<|Jk _ hz,JJ];obtain rfl|rfl:=h s Jp
  ·show 1+_=_;lia
  ·show 1+_=_;lia
theorem FF(h0:0<=j)(h1:j < 2):∃c,p_ (IK "ws").cps.toList j=B' c/\kl ⟨#[c]⟩:=by
 obtain rfl|rfl:=(by lia:j=0\/j=1)
 ·exact⟨119,by decide+kernel,.inl rfl⟩
 ·exact⟨115,by decide+kernel,.inr rfl⟩
def CL(H:Hp)(c:IG Int)(v:V):Prop:=∃t,v=.ref t/\H t=B' (.tup<|c.map V.int)
def CLs(H:Hp):IG (IG Int)->IG V->Prop:=Paired<|CL H
theorem CL.mono(h:CL H c v)(k:Same H H'):CL H' c v:=let ⟨t,e,z⟩:=h;⟨t,e,k _ _ z⟩
theorem CL.upd(h:CL H c v)(hq:H q=B' (.lst xs)):CL (upd H q o) c v:=by
 obtain⟨t,e,z⟩:=h;exact⟨t,e,by rw[ao<|vy z hq<|by intro w;cases w];exact z⟩
theorem CLs.mono(k:Same H H'):∀{cs:IG (IG Int)} {xs:IG V},CLs H cs xs->CLs H' cs xs
 |_,_,.nil=>.nil
 |_,_,.cons h t=>.cons (h.mono k)<|CLs.mono k t
theorem CLs.upd(hq:H q=B' (.lst ys)):∀{cs:IG (IG Int)} {xs:IG V},CLs H cs xs->CLs (upd H q o) cs xs
 |_,_,.nil=>.nil
 |_,_,.cons h t=>.cons (h.upd hq)<|CLs.upd hq t
theorem CLs.snoc(h:CL H c v)(t:CLs H cs xs):CLs H (cs++[c]) (xs++[v]):=Paired.snoc t h
theorem CLs.length(h:CLs H cs xs):cs.length=xs.length:=Paired.length h
theorem CLs.get:∀{cs:IG (IG Int)} {xs:IG V} {j:Nat} {v:V},CLs H cs xs->xs[j]? =B' v->∃c,cs[j]? =B' c/\CL H c v
 |_,_,_,_,.nil,e=>by cases e
 |_,_,0,_,.cons h _,e=>⟨_,rfl,by have e':=Jo e;subst e';exact h⟩
 |_,_,j+1,v,.cons _ t,e=>by
  obtain⟨c,h1,h2⟩:=CLs.get (j:=j) (v:=v) t (by simpa using e);exact⟨c,by simpa using h1,h2⟩
theorem CL.rd(h:CL H c v):RD H (fM c) v:=by
 obtain⟨t,rfl,z⟩:=h;exact bj z<|eh c
theorem CLs.rds:∀{cs:IG (IG Int)} {xs:IG V},CLs H cs xs->dC H (cs.map fM) xs
 |_,_,.nil=>aH
 |_,_,.cons h t=>am h.rd<|CLs.rds t
theorem CL.of(h:RD H (fM c) v):CL H c v:=by
 obtain⟨a,xs,rfl,h1,h2⟩:=aK h;refine⟨a,rfl,?_⟩;rw[h1];have:∀(ns:IG Int) (xs:IG V),dC H (ns.map Ox) xs->xs=ns.map V.int:=by
  intro ns
  induction ns with
  |nil=>intro xs r;exact bV r
  |cons n r ih=>
   intro xs z;obtain⟨y,ys,rfl,e,t⟩:=aL z;have e':y=.int n:=by
    unfold RD at e;exact e
   rw[e',ih ys t];rfl
 rw[this c xs h2]
theorem CLs.of:∀{cs:IG (IG Int)} {xs:IG V},dC H (cs.map fM) xs->CLs H cs xs
 |[],xs,h=>by
  rw[bV h];exact .nil
 |c::cs,xs,h=>by
  obtain⟨y,ys,rfl,h1,h2⟩:=aL h;exact .cons (CL.of h1)<|CLs.of h2
theorem jK(hp:H p=B' (.tup [.str t,.ref q]))(hq:H q=B' (.lst xs))(h:CLs H cs xs):RD H (sf t cs) (.ref p):=
 bj hp (am (bQ t)<|am (bG hq h.rds) aH)
theorem wB(h:RD H (sf t cs) v):∃p q xs,v=.ref p/\H p=B' (.tup [.str t,.ref q])/\H q=B' (.lst xs)/\CLs H cs xs:=by
 obtain⟨p,ys,rfl,h1,h2⟩:=aK h;obtain⟨y,zs,rfl,h3,h4⟩:=aL h2;obtain⟨z,ws,rfl,h5,h6⟩:=aL h4;have h7:=bV h6;subst h7;obtain⟨q,xs,rfl,h8,h9⟩:=fq h5;have e:y=.str t:=by
  unfold RD at h3;exact h3
 subst e;exact⟨p,q,xs,rfl,h1,h8,CLs.of h9⟩
theorem fh:∀cs:IG (IG Int),Ln (cs.map fM)=IS
 |[]=>rfl
 |c::r=>by
  show(Ln (c.map Ox)&&Ln (r.map fM))=IS
  rw[RX,fh r];rfl
theorem i_:∀cs:IG (IG Int),Mi (cs.map fM)<=1
 |[]=>Jw _
 |c::r=>by
  have h:=i_ r;show max (Mi (c.map Ox)+1) (Mi<|r.map fM)<=1
  rw[SY];lia
theorem gY(h1:d.canLay0=IS)(h2:d.depth<=64):Kn d=true:=by
 unfold Kn;rw[h1,Jj h2];rfl
theorem qB(cs:IG (IG Int)):Kn (.list<|cs.map fM)=true:=by
 refine gY (fh cs) ?_;have:=i_ cs;show Mi (cs.map fM)+1<=64
 lia
theorem ux(c:IG Int):Kn (fM c)=true:=gY (RX c) (by show Mi (c.map Ox)+1<=64;rw[SY];lia)
theorem o5:Kn (.list [])=true:=by decide+kernel
theorem o6:Kn (.tuple [])=true:=by decide+kernel
theorem o7(cs:IG (IG Int)):Kh (.list<|cs.map fM) (.list [])=decide (cs=[]):=by
 cases cs with
 |nil=>simp [Kh,KQ]
 |cons n r=>simp [Kh,KQ]
theorem fU(c:IG Int):Kh (fM c) (.tuple [])=decide (c=[]):=by
 cases c with
 |nil=>simp [fM,Kh,KQ]
 |cons n r=>simp [fM,Kh,KQ]
mutual
theorem o8:∀d,d.canLay0=IS->Kh d d=IS
 |.none,_=>rfl
 |.bool b,_=>by simp [Kh]
 |.int i,_=>by simp [Kh]
 |.str x,_=>by simp [Kh]
 |.list ds,h=>by
  show KQ ds ds=IS
  exact gH ds h
 |.tuple ds,h=>by
  show KQ ds ds=IS
  exact gH ds h
 |.dict _,h=>by cases h
theorem gH:∀ds,Ln ds=IS->KQ ds ds=IS
 |[],_=>rfl
 |d::r,h=>by
  have h':d.canLay0=IS/\Ln r=true:=by simpa [Ln]using h
  show(Kh d d&&KQ r r)=IS
  rw[o8 d h'.1,gH r h'.2];rfl
end
theorem FG(h:WS t):PQ t=true:=by
 unfold PQ;rw[<-Array.all_toList];refine Ly.mpr λch hc=>Jj ?_;obtain rfl|rfl:=h ch hc
 ·decide
 ·decide
theorem o9(h:WS t)(cs:IG (IG Int)):Kn (sf t cs)=true:=by
 refine gY ?_ ?_
 ·show(PQ t&&(Ln (cs.map fM)&&IS))=IS
  rw[FG h,fh];rfl
 ·have:=i_ cs;show max 0 (max (Mi (cs.map fM)+1) 0)+1<=64
  lia
abbrev wC:R2:=rI (λ_ j=>0 < j) λi j=>V.int<|i % j
abbrev DC:R2:=rI E2 λi j=>V.int<|i / j
abbrev IA:R2:=zk λi j=>V.bl (decide (j < i))
abbrev DD:R2:=λx y H Q=>Ht x y H Q\/Ds x y H Q
abbrev DE:R2:=λx y H Q=>Hu x y H Q\/Dt x y H Q
theorem uy(h3:σ[3]? =B' (B'<|.int bits))(h4:σ[4]? =B' (B'<|.int mm))(m0:0<=mm)(m1:mm<=16)(h:∀z,0<=z->z<=16->D.nx (σ.set 4<|B'<|.int z) H)(he:σ.set 4 (B'<|.int mm)=σ):
  qf (jl<|lF IA (lF wC (fR 3)<|tC<|.int 3)<|tC<|.int 0) (qg (lF DC (fR 4)<|tC<|.int 3)<|eF 4) oG D σ H:=by
 refine⟨_,h3,_,_,rfl,rfl,(by show(0:Int) < 3;decide),_,_,rfl,rfl,_,rfl,fG (λ_=>?_) λ_=>?_⟩
 ·exact⟨_,h4,_,_,rfl,rfl,⟨by decide,by decide⟩,h _ (by lia)<|by lia⟩
 ·have z:=h mm m0 m1;rw[he]at z;exact z
theorem qC{D:fQ}(h9:σ[9]? =B' (B'<|.int m))(hpc:H pc=B' (.tup<|lc.map V.int))(hlc:ig n lc)(he:σ.set 10 (B'<|.ref pc)=σ)
  (h:∀pc' lc' H',Same H H'->H' pc'=B' (.tup<|lc'.map V.int)->ig n lc'->D.nx (σ.set 10<|B'<|.ref pc') H'):
  qf (jl<|lF DD (lF wC (fR 9)<|tC<|.int 40)<|tC<|.int 7) (qg (zv jC)<|eF 10) oG D σ H:=by
 refine⟨_,h9,_,_,rfl,rfl,(by show(0:Int) < 40;decide),.inl ⟨rfl,_,rfl,fG (λ_=>?_) λ_=>?_⟩⟩
 ·exact⟨Jw _,λp hp=>h p [] _ (ag hp _) ad<|ww n⟩
 ·have z:=h pc lc H (Same.refl H) hpc hlc;rw[he]at z;exact z
theorem qD{K:IJ}{D:fQ}{xs:IG V}{cs:IG (IG Int)}(h6:σ[6]? =B' (B'<|.ref q))(h9:σ[9]? =B' (B'<|.int m))(m0:0<=m)(hpc:H pc=B' (.tup<|lc.map V.int))(hlc:ig n lc)(he:σ.set 10 (B'<|.ref pc)=σ)
  (hq:H q=B' (.lst xs)) (hcs:CLs H cs xs) (QK:∀c∈cs,ig n c)
  (h:∀pc' lc' H',Same H H'->H' pc'=B' (.tup<|lc'.map V.int)->ig n lc'->D.nx (σ.set 10<|B'<|.ref pc') H'):
  qf (EO (jl<|lF DD (lF wC (lF DC (fR 9)<|tC<|.int 40)<|tC<|.int 9)<|tC<|.int 3)<|jl<|lF DE (fR 6)<|qo jC)
   (qg (lF (Hx K) (fR 6)<|lF wC (lF DC (fR 9)<|tC<|.int 400)<|Hw (zt K)<|oK (fR 6) jC)<|eF 10) oG D σ H:=by
 have stay:∀H',Same H H'->D.nx σ H':=λH' k=>by
  have z:=h pc lc H' k (k _ _ hpc) hlc;rw[he]at z;exact z
 refine⟨_,h9,_,_,rfl,rfl,⟨by decide,by decide⟩,_,_,rfl,rfl,(by show(0:Int) < 9;decide),.inl ⟨rfl,_,rfl,fG (λ_=>?_) λ_=>?_⟩⟩
 ·refine⟨_,h6,Jw _,λe he'=>.inr ⟨.list<|cs.map fM,.list [],bG (by rw[ao<|aj hq he'];exact hq) (hcs.mono<|ag he' _).rds,bG ad aH,qB cs,o5,_,rfl,?_⟩⟩;rw[o7];have k1:Same H (upd H e<|.lst []):=ag he' _;refine fG (λg=>?_) λg=>?_
  ·have S8:cs≠[]:=λz=>by
    rw[Jj z]at g;cases g
   have hl:0 < xs.length:=by
    rw[<-hcs.length];cases cs with
    |nil=>exact absurd rfl S8
    |cons _ _=>exact UH _
   have j0:=Kz (m / 400) (show(xs.length:Int)≠0 by lia);have j1:=Kj (m / 400) (show(0:Int) < xs.length by lia);obtain⟨v,hv,hva⟩:=we (xs:=xs) j0 j1;obtain⟨c,hc,t,rfl,ht⟩:=hcs.get hv;refine⟨_,h6,_,h9,_,_,rfl,rfl,⟨by decide,by decide⟩,_,h6,.ref q,_,rfl,.inl ⟨_,SqL.of<|k1 _ _ hq,rfl⟩,_,_,rfl,rfl,(by show(0:Int) < (xs.length:Int);lia),.inl ⟨q,xs,_,.ref t,rfl,rfl,SqL.of<|k1 _ _ hq,hva,?_⟩⟩;exact h t c _ k1 (k1 _ _ ht)<|QK c<|Ji hc
  ·exact stay _ k1
 ·exact stay H<|Same.refl H
theorem o_{K:IJ}{D:fQ}{xs:IG V}{cs:IG (IG Int)}(h6:σ[6]? =B' (B'<|.ref q))(h9:σ[9]? =B' (B'<|.int m))(ZZ:σ[10]? =B' (B'<|.ref pc))(hpc:H pc=B' (.tup<|lc.map V.int))(hlc:ig n lc)
  (hq:H q=B' (.lst xs)) (hcs:CLs H cs xs) (QK:∀c∈cs,ig n c) (Lx:cs.length < 900)
  (h:∀xs' cs' H',(∀b o,H b=B' o->b≠q->H' b=B' o)->H' q=B' (.lst xs')->CLs H' cs' xs'->(∀c∈cs',ig n c)->cs'.length<=cs.length+1->D.nx σ H'):
  qf (EG (jl<|lF DE (fR 10)<|zv jC)<|jl<|lF DD (lF wC (fR 9)<|tC<|.int 40)<|tC<|.int 7) (vD<|Hz K "list" nq (fR 6)<|oK (fR 10) jC) oG D σ H:=by
 refine⟨_,ZZ,Jw _,λe he=>.inr ⟨fM lc,.tuple [],bj (by rw[ao<|aj hpc he];exact hpc)<|eh lc,bj ad aH,ux lc,o6,_,rfl,?_⟩⟩;have k1:Same H (upd H e<|.tup []):=ag he _;generalize upd H e (.tup [])=H1 at k1;have ZP:=k1 _ _ hq;have app:vD (Hz K "list" nq (fR 6)<|oK (fR 10) jC) D σ H1:=by
  exists _,h6,.inl ⟨rfl,_,SqL.of ZP⟩,_,ZZ,q,xs,_,rfl,rfl,ZP,(by rw[<-hcs.length];exact aD<|by lia);have c1:=(hcs.mono k1).upd (o:=.lst<|xs++[.ref pc]) ZP;have c2:CL (upd H1 q<|.lst<|xs++[.ref pc]) lc (.ref pc):=CL.upd ⟨pc,rfl,k1 _ _ hpc⟩ ZP;refine h _ (cs++[lc]) _ (λb o hb hbq=>by rw[ao hbq];exact k1 b o hb) ad (CLs.snoc c2 c1) (λc hc=>?_) (by rw[I_];exact IX _);obtain z|z:=JA.mp hc
  ·exact QK c z
  ·rw[Jf.mp z];exact hlc
 refine fG (λ_=>aT app) λ_=>?_;refine⟨_,h9,_,_,rfl,rfl,(by show(0:Int) < 40;decide),.inl ⟨rfl,_,rfl,fG (λ_=>app) λ_=>?_⟩⟩;exact h xs cs H1 (λb o hb _=>k1 b o hb) ZP (hcs.mono k1) QK (by lia)
theorem fV{α:Type}{f g:α->Jm}:∀{xs:IG α},(∀x∈xs,f x=g x)->xs.any f=xs.any g
 |[],_=>rfl
 |x::r,h=>by
  rw[Ni,Ni,h x Jp,fV λz hz=>h z<|Jk _ hz]
theorem nF(c:IG Int)(l:Int):c.any (λx=>decide (x=l))=c.contains l:=by
 rw[Lw,Ms,JX];constructor
 ·rintro⟨x,hx,e⟩;exact Kd e▸hx
 ·intro h;exact⟨l,h,Jj rfl⟩
theorem cV(c:IG Int)(l:Int):qd (.int l) (c.map V.int)=c.contains l:=by
 unfold qd;rw[P0,<-nF];refine fV λx _=>?_;show(x == l)=decide (x=l)
 rw[Lw,Nv];exact Ng
section
variable {K:IJ}{a D:IL}{xs:IG V}{tt:TT}{te:TE}{σ0:St}{H1:Hp}{Q:VK}
theorem cu(Lz:St)(p:V->Jm)(f:V->V)(e0:σ0=IV::Lz)(ha:H1 a=B' (.tup xs))(hD:H1 D=IV)(Lx:xs.length<=900)
  (ht:∀x∈xs,∀H' R,Same H1 H'->R (p x) H'->tt (B' x::Lz) H' R)
  (he:∀x∈xs,p x=IS->∀H' R,Same H1 H'->R (f x) H'->te (B' x::Lz) H' R)
  (hq:Q (.ref D) (upd H1 D<|.lst<|(xs.filter p).map f)):gE (CS K a) D (eF 0) tt te σ0 H1 Q:=by
 have na:a≠D:=aj ha hD;refine wm (K:=K) (a:=a) (xs:=xs) (λi σ ys H2=>(∃v0,σ=v0::Lz)/\ys=((xs.take i).filter p).map f/\H2=upd H1 D (.lst ys)) ⟨⟨IV,e0⟩,rfl,rfl⟩ ?_ ?_ ?_
 ·rintro i σ ys H2 _ ⟨_,_,rfl⟩;exact⟨ad,SqT.of<|by rw[ao na];exact ha⟩
 ·rintro i x σ ys H2 hx ⟨⟨v0,rfl⟩,UV,rfl⟩;have hm:=Ji hx;have e:xs.take (i+1)=xs.take i++[x]:=by rw[Kv,hx];rfl
  refine ht x hm _ _ (ag hD _) ?_;cases hp:p x with
  |true=>
   refine aT<|he x hm hp _ _ (ag hD _) ⟨ad,?_,⟨_,rfl⟩,?_,fm⟩
   ·have:ys.length<=xs.length:=by
     rw[UV,IR];exact KE (Lk _ _) (by rw[JN];lia)
    exact aD (by lia)
   ·rw[e,M3,JO,<-UV];simp [hp]
  |false=>
   refine aO ⟨⟨_,rfl⟩,?_,rfl⟩;rw[e,M3,JO,<-UV];simp [hp]
 ·rintro σ ys H2 ⟨_,UV,rfl⟩;rw[Jy<|IX _]at UV;rw[UV];exact hq
theorem fW(Lz:St)(p:V->Jm)(f:V->V)(e0:σ0=IV::Lz)(ha:H1 a=B' (.lst xs))(hD:H1 D=IV)(Lx:xs.length<=900)
  (ht:∀x∈xs,∀H' R,Same H1 H'->R (p x) H'->tt (B' x::Lz) H' R)
  (he:∀x∈xs,p x=IS->∀H' R,Same H1 H'->R (f x) H'->te (B' x::Lz) H' R)
  (hq:Q (.ref D) (upd H1 D<|.lst<|(xs.filter p).map f)):gE (vE K a) D (eF 0) tt te σ0 H1 Q:=by
 have na:a≠D:=aj ha hD;refine dq (K:=K) (a:=a) (xs:=xs) (λi σ ys H2=>(∃v0,σ=v0::Lz)/\ys=((xs.take i).filter p).map f/\H2=upd H1 D (.lst ys)) ⟨⟨IV,e0⟩,rfl,rfl⟩ ?_ ?_ ?_
 ·rintro i σ ys H2 _ ⟨_,_,rfl⟩;exact⟨ad,SqL.of<|by rw[ao na];exact ha⟩
 ·rintro i x σ ys H2 hx ⟨⟨v0,rfl⟩,UV,rfl⟩;have hm:=Ji hx;have e:xs.take (i+1)=xs.take i++[x]:=by rw[Kv,hx];rfl
  refine ht x hm _ _ (ag hD _) ?_;cases hp:p x with
  |true=>
   refine aT<|he x hm hp _ _ (ag hD _) ⟨ad,?_,⟨_,rfl⟩,?_,fm⟩
   ·have:ys.length<=xs.length:=by
     rw[UV,IR];exact KE (Lk _ _) (by rw[JN];lia)
    exact aD (by lia)
   ·rw[e,M3,JO,<-UV];simp [hp]
  |false=>
   refine aO ⟨⟨_,rfl⟩,?_,rfl⟩;rw[e,M3,JO,<-UV];simp [hp]
 ·rintro σ ys H2 ⟨_,UV,rfl⟩;rw[Jy<|IX _]at UV;rw[UV];exact hq
end
theorem bW(c:IG Int)(p:Int->Jm)(q:V->Jm)(h:∀i,q (.int i)=p i):((c.map V.int).filter q).map (λx=>x)=(c.filter p).map V.int:=by
 rw[RB];rw[List.filter_map];refine Kp _<|UO λx _=>h x
theorem cr{c:IG Int}{x:V}(h:x∈c.map V.int):∃z∈c,x=.int z:=by
 obtain⟨z,hz,e⟩:=J1.mp h;exact⟨z,hz,e.symm⟩
theorem DF(h:Kn d=IS):d.canLay0=true:=by
 unfold Kn at h;rw[JT]at h;exact h.1
theorem kq(hx:RD H d x)(hy:RD H d y)(hs:Kn d=IS)(q:Q (.bl IU) H):DE x y H Q:=
 .inr ⟨d,d,hx,hy,hs,hs,by rw[o8 d<|DF hs];exact q⟩
theorem G_{x y:V}{A B:Prop}(h:x=y)(b:B):if(!decide (x=y))=IS then A else B:=by
 rw[Jj h];exact aO b
theorem IB:fJ "int" "int"=B' true:=by decide+kernel
theorem IC:fJ "int" "bool"=B' false:=by decide+kernel
def oB(p:Int->Jm):V->Jm
 |.int z=>p z
 |_=>IU
def EK(f:Int->V):V->V
 |.int z=>f z
 |x=>x
end OD
namespace L2
open PySem PySem.Spec PyProof.Rows
section
variable {X:Cx}
def eI(mg:Str->IQ IH)(x:Str)(v:V):Prop:=∃u,mg x=B' u/\RelV v u
theorem bz(hg:Gl X x)(hm:eI X.mg x v)(hd:(x == ("__debug__":Str))=false:=by decide):PE X (.Name x pos) (tC v):=by
 obtain⟨u,h1,h2⟩:=hm;exact zq hg h1 h2 hd
end
end L2
namespace OD
open PySem L2
def fi(t:Str)(i:Nat):Jm:=decide (t.cps.toList[i]? =B' 119)
def aI(b:Jm):Str:=if b=IS then IK "wisher" else IK "spoiler"
theorem pe:IK "wisher"≠IK "spoiler":=by decide+kernel
theorem uz(h:aI a=aI b):a=b:=by
 cases a<;>cases b
 ·rfl
 ·exact absurd h.symm pe
 ·exact absurd h pe
 ·rfl
theorem gJ(a b:Jm):decide (V.str (aI a)=V.str (aI b))=decide (a=b):=by
 refine Mp.mpr ⟨λh=>uz<|V.str.inj h,λh=>by rw[h]⟩
theorem bC(l:Int):(0<=l/\absI l=l)\/(l < 0/\absI l=-l):=by
 unfold absI;by_cases h:l < 0
 ·exact .inr ⟨h,JF h⟩
 ·exact .inl ⟨by lia,JD h⟩
theorem BN:decide (V.str ⟨#[ch]⟩=V.str (IK "w"))=decide (ch=119):=by
 have e:IK "w"=⟨#[119]⟩:=by decide+kernel
 rw[e];refine Mp.mpr ⟨λh=>?_,λh=>by rw[h]⟩;have:=V.str.inj h;injection this with h1;have h2:=Kp US h1;simpa using h2
theorem wD(h:t.cps.toList[i]? =B' ch):fi t i=decide (ch=119):=by
 unfold fi;rw[h];exact Mp.mpr ⟨λz=>Jo z,λz=>Kp _ z⟩
end OD
namespace L2
open PySem PySem.Spec PyProof.Rows
def uA(lo:Int)(n:Nat):It:=⟨λi _=>i < n,λi H x H'=>H'=H/\x=.int (lo - i),λi _=>n<=i⟩
theorem pf{P:Jc}{w:Jv}{K:IJ}{tg:Km}(it:IL)(lo:Int)(n:Nat):ub P w K tg (uA lo n) [it] it (λi h=>Si h it (lo+(i:Nat)*(-1)) ((n:Int) - (i:Nat)) (-1)) where
 mem:=by simp
 obj:=λi h st b hb=>by
  have e:b=it:=by simpa using hb
  subst e;exact⟨_,st,λv z=>by
   have z':Vr _=XA v:=z;cases z'⟩
 keep:=λi h h' st k=>k it (by simp) _ st
 item:=by
  intro X hP hw hK hc i IT s σ H E I hf st hg;subst hP hw hK;obtain⟨f0,f1,f2,f3,f4,f5⟩:=hf it (by simp);have W:=YA (prog:=X.prog) (w:=X.w) (I.ok.hd hc) it lo (-1) n;refine W.item i s _ _ hg st λv h' tk hv LI kk=>?_;obtain⟨t,rfl⟩:=hv;have I1:Inv X IT σ H {s with heap:=h',toks:=tk}:=I.turned (λb o hb e=>kk b o (by simpa using hb) e) f0 f1 f3 f4 f5;refine⟨_,rfl,rP (s:={s with heap:=h',toks:=tk}) (n:="range_iterator") LI rfl rfl (by decide) ⟨.int<|lo - i,H,I1,⟨t,?_⟩,⟨rfl,rfl⟩,LI,λb hb=>(hf b hb).1⟩⟩;have e:lo+(i:Int)*(-1)=lo - i:=by lia
  rw[e]
 done:=by
  intro X hP hw hK hc i IT s σ H E I hf st hg;subst hP hw hK;obtain⟨f0,f1,f2,f3,f4,f5⟩:=hf it (by simp);exact Rh (I.ok.hd hc) st (by have:n<=i:=hg;lia) λh' eb=>⟨rfl,I.turned (t':=s.toks) (λb o hb e=>eb b o hb e) f0 f1 f3 f4 f5⟩
 self:=λ_ _ _ _ _ st h=>Ri st h
section
variable {X:Cx}{tg:Km}
theorem uB{IT:IG (IL×Obj)}{σ:St}{H:Hp}{s:IM}{R:It->Hp->Prop}{E:IH->IM->Prop}{lo hi:Int}{t u v:Tok}{tk:Nat}(I:Inv X IT σ H s)(h1:-(2 ^ 62)<=lo)(h2:lo < 2 ^ 62)(h3:-(2 ^ 62)<=hi)(h4:hi < 2 ^ 62)
  (q:R (uA lo (lo - hi).toNat) H):wpAny (Ju X.prog X.w) X.A (R7<|.ref s.heap.objs.size) (Ho X IT σ tg R) E {s with heap:=s.heap.push {cls:=.type "range",data:=.fields #[.int lo t,.int hi u,.int (-1) v]},toks:=tk}:=by
 refine Ti (YH ..) (PySem.W.small_down h1 h2 h3 h4) ?_;have I1:Inv X IT σ H {s with heap:=s.heap.push {cls:=.type "range",data:=.fields #[.int lo t,.int hi u,.int (-1) v]},toks:=tk}:=I.kept λb o e=>IP _ e;refine⟨(s.heap.push {cls:=.type "range",data:=.fields #[.int lo t,.int hi u,.int (-1) v]}).objs.size,[(s.heap.push {cls:=.type "range",data:=.fields #[.int lo t,.int hi u,.int (-1) v]}).objs.size],_,_,H,rfl,
  I1.kept (t':=tk) λb o e=>IP _ e,pf _ lo (lo - hi).toNat,?_,λb hb=>?_,q⟩
 ·have e1:lo+((0:Nat):Int)*(-1)=lo:=by simp
  have e2:(((lo - hi).toNat:Nat):Int) - ((0:Nat):Int)=Q_ lo hi (-1):=by rw[PySem.W.rangeSize_down];split<;>lia
  show Si _ _ (lo+((0:Nat):Int)*(-1)) ((((lo - hi).toNat:Nat):Int) - ((0:Nat):Int)) (-1)
  rw[e1,e2];exact JB _ rfl
 ·have e:b=(s.heap.push {cls:=.type "range",data:=.fields #[.int lo t,.int hi u,.int (-1) v]}).objs.size:=by simpa using hb
  subst e;exact I1.fpOk (IX _)<|I1.hok.fresh<|IX _
def FH(ta:TA):TI:=λσ H R=>ta σ H λvs H1=>∃i j:Int,vs=[.int i,.int j,.int (-1)]/\(-(2 ^ 62)<=i/\i < 2 ^ 62/\ -(2 ^ 62)<=j/\j < 2 ^ 62)/\R (uA i (i - j).toNat) H1
theorem uC{a b c:Km}{ta:TA}{p pos:Pos}(hg:Gl X "range")(hm:X.mg "range"=IV)(ha:PA X [a,b,c] ta)(hs:JI [a,b,c] X.env=(IU,LN a X.env)::JI [b,c] X.env:=by rfl)(Vv:(MF pos<|JI [b,c] X.env).any (·.1)=false:=by rfl):
  PI X tg (.Call (.Name "range" p) [a,b,c] [] pos) (FH ta):=by
 intro IT s σ H R I h;refine Call_<|eD I hg hm Wu<|Lo (bT (ha pos IT s σ H _ I h) λus s1 ⟨vs,H1,I1,r1,q1⟩=>?_) hs Vv;obtain⟨i,j,e,⟨q1,q2,q3,q4⟩,q⟩:=q1;subst e;cases r1 with
 |cons r rr=>
  cases rr with
  |cons r' rr=>
   cases rr with
   |cons r'' rr=>
    cases rr;obtain⟨t,rfl⟩:=r;obtain⟨t',rfl⟩:=r';obtain⟨t'',rfl⟩:=r'';exact call_range_3 (by decide) (uB I1 q1 q2 q3 q4 q) (.inl<|Rp<|by decide)
end
theorem qE{lo:Int}{n:Nat}{g:TG}{tb:TS}{D:fQ}(Pv:Nat->St->Hp->Prop)(h0:Pv 0 σ H)
  (hs:∀i σ H,i < n->Pv i σ H->g (.int<|lo - i) σ H λσ2 H2=>tb {D with nx:=Pv<|i+1,ct:=Pv<|i+1,bk:=D.nx} σ2 H2) (hd:∀σ H,Pv n σ H->D.nx σ H):
  ∃W:Nat->Nat->St->Hp->Prop,(∃m,W 0 m σ H)/\∀i m σ H,W i m σ H->
   ((uA lo n).stop i H/\D.nx σ H)\/((uA lo n).go i H/\∃N:St->Hp->Prop,(∀σ' H',N σ' H'->∃m',m' < m/\W (i+1) m' σ' H')/\∀x H',(uA lo n).yld i H x H'->g x σ H' λσ2 H2=>tb {D with nx:=N,ct:=N,bk:=D.nx} σ2 H2):=by
 exists λi m σ H=>m=n - i/\i<=n/\Pv i σ H,⟨n,by simp,Jw _,h0⟩;rintro i m σ H ⟨rfl,hi,p⟩;by_cases M6:i < n
 ·refine .inr ⟨M6,Pv<|i+1,λσ' H' p'=>⟨n - (i+1),by lia,rfl,M6,p'⟩,λx H' y=>?_⟩;obtain⟨e,y⟩:=y;subst e y;exact hs i σ _ M6 p
 ·have e:i=n:=by lia
  subst e;exact .inl ⟨IX _,hd σ H p⟩
end L2
namespace L2
open PySem PySem.Spec PyProof.Rows
structure Flies (P:Jc)(w:Jv)(outer:IG Env)(H:Hp)(s:IM)(H':Hp)(B:JM)(ea:IL)(cls a0:IH)(s':IM):Prop where
 os:s'.os=s.os
 bare:Pg s'.gens
 fly:N4 B outer ea cls a0 s'.heap
 hok:HOk P w H' B
 keep:∀b o,s.heap.get? b=B' o->H b=IV->b∉dN outer->B.get? b=B' o
 thr:∀b o,s.heap.get? b=B' o->b∉dN outer->∃o',B.get? b=B' o'
 slot:∀b o,s.heap.get? b=B' o->H b=IV->b∈dN outer->∃sl,s'.heap.get? b=B' {o with slots:=sl}
 free:∀b o,s.heap.get? b=B' o->H b=IV->H' b=IV
 tups:∀b xs,H b=B' (.tup xs)->H' b=B' (.tup xs)
 frzs:∀b o u,H b=B' (.frz o u)->H' b=B' (.frz o u)
 tbls:∀b ps,H b=B' (.tbl ps)->∃more,H' b=B' (.tbl<|ps++more)
def jq(P:Jc)(w:Jv):rV:=λouter H s E e s'=>∃(H':Hp) (B:JM) (ea:IL) (cls a0:IH),e=.ref ea/\Flies P w outer H s H' B ea cls a0 s'/\E cls IV H'
section
variable {P:Jc}{w:Jv}{outer:IG Env}{H H':Hp}{s s':IM}{B h':JM}{ea:IL}{cls a0:IH}
theorem Flies.slotted(f:Flies P w outer H s H' B ea cls a0 s')(up:s'.heap.UpToSlots h')(e:s.heap.get? b=B' o)(n:H b=IV)(hb:b∈dN outer):∃sl,h'.get? b=B' {o with slots:=sl}:=by
 obtain⟨sl,e1⟩:=f.slot b o e n hb;obtain⟨_,o1,e2,nf⟩:=f.fly.2.2.1.mem (b:=b) hb;rw[e1]at e2;cases e2;obtain⟨sl',e3⟩:=up b _ e1 nf;exact⟨sl',e3⟩
theorem Flies.un(f:Flies P w outer H s H' B ea cls a0 s')(st:B.StaysIn h')(up:s'.heap.UpToSlots h')(frf:∀b∈dN outer,H b=IV):Un (dN outer) [] H H' s.heap h' where
 keep:=λb o e n hb _=>st b o (f.keep b o e n hb)
 slot:=λb o e n hb _=>f.slotted up e n hb
 free:=λb o e n _=>f.free b o e n
 there:=λb o e _=>by
  by_cases hb:b∈dN outer
  ·obtain⟨sl,q⟩:=f.slotted up e (frf b hb) hb;exact⟨_,q⟩
  ·obtain⟨o',q⟩:=f.thr b o e hb;exact⟨o',st b o' q⟩
 tups:=f.tups
 frzs:=f.frzs
 tbls:=f.tbls
end
theorem ObjOk.some(x:ObjOk P w H h a o):∃u,h.get? a=B' u:=by
 cases o with
 |lst xs=>obtain⟨_,_,_,_,e⟩:=x;exact⟨_,e⟩
 |tup xs=>obtain⟨_,_,_,ob,e,_⟩:=x;exact⟨_,e⟩
 |dK kvs=>obtain⟨_,_,_,_,o,_,_,e,_⟩:=x;exact⟨_,e⟩
 |dT kvs=>obtain⟨_,_,_,_,o,_,_,e,_⟩:=x;exact⟨_,e⟩
 |set S n=>obtain⟨o,_,_,_,e,_⟩:=x;exact⟨_,e⟩
 |ins C dx fs=>obtain⟨_,_,_,e,_⟩:=x;exact⟨_,e⟩
 |own y=>obtain⟨_,e⟩:=x;exact⟨_,e⟩
 |xd fs=>obtain⟨_,⟨_,_,_,e,_⟩,_⟩:=x;exact⟨_,e⟩
 |rng lo hi=>obtain⟨_,_,_,e⟩:=x;exact⟨_,e⟩
 |frz ob u=>obtain⟨e,_⟩:=x;exact⟨_,e⟩
 |tbl ps=>exact⟨_,x⟩
 |met f y=>exact⟨_,x⟩
 |ext φ=>obtain⟨_,e,_⟩:=x;exact e
theorem HOk.hid(x:HOk P w H h)(n:∀b∈l,H b=IV):HOk P w H (Px h l):=λa o e=>
 (x a o e).stay (λb u hb q=>MJ _ q λhm=>by
  obtain rfl|hb:=hb
  ·rw[n b hm]at e;cases e
  ·rw[n b hm]at hb;cases hb) (λ_ q=>q) λ_ _ q=>q
section
variable {P:Jc}{w:Jv}{K:IJ}{mg:Str->IQ IH}{base:JM}{N:IG Str}{qual:Str}{scope:N6}{f:IL}{cd:IH}{A:JV}{outer:IG Env}{s:IM}{H:Hp}{E:XK}
theorem FI:jZ (jq P w) (cj (jq P w) P w K mg base N qual scope f cd A outer s H E) E:=by
 intro IT σ H1 s1 e s2 I h;obtain⟨H',B,ea,cls,a0,rfl,fl,hE⟩:=h;have M6:∀b o,s.heap.get? b=B' o->b∉dN outer->b∉dN (JU qual scope s.heap.objs.size f cd::outer):=λb o e hb hm=>by
  obtain⟨env,he,hf⟩:=JZ.mp hm;obtain rfl|he:=JC.mp he
  ·have:s.heap.objs.size=b:=Jo hf;exact absurd (Jh e) (by rw[this];exact Lv b)
  ·exact hb<|JZ.mpr ⟨env,he,hf⟩
 have XI:∀b,b∈dN outer->b∈dN (JU qual scope s.heap.objs.size f cd::outer):=λb hb=>by
  obtain⟨env,he,hf⟩:=JZ.mp hb;exact JZ.mpr ⟨env,Jk _ he,hf⟩
 show wpAny (Ju P w) _ (Qs (JU qual scope s.heap.objs.size f cd)<|.ref ea) _ _ s2
 refine wpAny_leaves_onW (base:=B) (cls:=cls) (a0:=a0) (outer:=outer) (L:=s.heap.objs.size) I.ok.frames rfl fl.fly λh' acA up=>⟨H',B,ea,cls,a0,rfl,⟨?_,fl.bare,acA,fl.hok,λb o e n hb=>?_,λb o e hb=>?_,λb o e n hb=>?_,λb o e n=>?_,λb xs e=>?_,λb o u e=>?_,λb ps e=>?_⟩,hE⟩
 ·exact fl.os.trans I.os
 ·exact fl.keep b o (I.base.keep b o e n hb<|by intro z;cases z) (I.base.free b o e n<|by intro z;cases z)<|M6 b o e hb
 ·obtain⟨o1,e1⟩:=I.base.there b o e (by intro z;cases z);exact fl.thr b o1 e1<|M6 b o e hb
 ·obtain⟨sl,e1⟩:=I.base.slot b o e n hb (by intro z;cases z);obtain⟨sl2,e2⟩:=fl.slotted up e1 (I.base.free b o e n<|by intro z;cases z)<|XI b hb;exact⟨sl2,e2⟩
 ·obtain⟨o1,e1⟩:=I.base.there b o e (by intro z;cases z);exact fl.free b o1 e1 (I.base.free b o e n<|by intro z;cases z)
 ·exact fl.tups b xs<|I.base.tups b xs e
 ·exact fl.frzs b o u<|I.base.frzs b o u e
 ·obtain⟨m1,e1⟩:=I.base.tbls b ps e;obtain⟨m2,e2⟩:=fl.tbls b _ e1;exact⟨m1++m2,by rw[e2,Qj]⟩
theorem FJ(I:Inv (cj (jq P w) P w K mg base N qual scope f cd A outer s H E) IT σ H1 s1)(hx:Sj s1.heap h2 ea cls vs)(hE:E cls IV H1):
  (cj (jq P w) P w K mg base N qual scope f cd A outer s H E).xe (.ref ea) {s1 with heap:=h2}:=by
 have M6:∀b o,s.heap.get? b=B' o->b∉dN outer->b∉dN (JU qual scope s.heap.objs.size f cd::outer):=λb o e hb hm=>by
  obtain⟨env,he,hf⟩:=JZ.mp hm;obtain rfl|he:=JC.mp he
  ·have:s.heap.objs.size=b:=Jo hf;exact absurd (Jh e) (by rw[this];exact Lv b)
  ·exact hb<|JZ.mpr ⟨env,he,hf⟩
 have XI:∀b,b∈dN outer->b∈dN (JU qual scope s.heap.objs.size f cd::outer):=λb hb=>by
  obtain⟨env,he,hf⟩:=JZ.mp hb;exact JZ.mpr ⟨env,Jk _ he,hf⟩
 have R3:s1.heap.FunFrames base (JU qual scope s.heap.objs.size f cd::outer):=I.stack;have SM:∀b∈dN (JU qual scope s.heap.objs.size f cd::outer),H1 b=none:=I.stkFree;have YT:∀env∈(JU qual scope s.heap.objs.size f cd::outer),∀b,env.frame=B' b->b∈dN (JU qual scope s.heap.objs.size f cd::outer):=λenv he b hb=>JZ.mpr ⟨env,he,hb⟩;have hff:=Rk R3 YT;show wpAny (Ju P w) _ (Qs (JU qual scope s.heap.objs.size f cd)<|.ref ea) _ _ {s1 with heap:=h2}
 refine wpAny_leaves_madeW (base:=Px s1.heap<|dN<|JU qual scope s.heap.objs.size f cd::outer) (h:=s1.heap) (outer:=outer) (L:=s.heap.objs.size) I.ok.frames rfl (λb o q=>P8 _ q) hff hx λh' t fly tup bt up=>⟨H1,_,ea,cls,_,rfl,⟨?_,I.bare,fly,I.hok.hid SM,λb o e n hb=>?_,λb o e hb=>?_,λb o e n hb=>?_,λb o e n=>?_,λb xs e=>?_,λb o u e=>?_,λb ps e=>?_⟩,hE⟩
 ·exact I.os
 ·exact MJ _ (I.base.keep b o e n hb<|by intro z;cases z)<|M6 b o e hb
 ·obtain⟨o1,e1⟩:=I.base.there b o e (by intro z;cases z);exact⟨o1,MJ _ e1<|M6 b o e hb⟩
 ·obtain⟨sl,e1⟩:=I.base.slot b o e n hb (by intro z;cases z);obtain⟨_,o1,e2,nf⟩:=R3.mem (b:=b)<|XI b hb;rw[e1]at e2;cases e2;obtain⟨sl',e3⟩:=up b _ (hx.keeps b _ e1) nf;exact⟨sl',e3⟩
 ·exact I.base.free b o e n (by intro z;cases z)
 ·exact I.base.tups b xs e
 ·exact I.base.frzs b o u e
 ·exact I.base.tbls b ps e
end
theorem Fun.okX{P:Jc}{w:Jv}{K:IJ}{mg:Str->IQ IH}{base:JM}{x qual:Str}{st:KL}{f:IL}{fd:Jr}{N ps:IG Str}{k:Nat}{sp:Sp}(F:Fun K x qual st f fd)(S:aF N ps (ap st))(len:∀vs H Q E,sp vs H Q E->vs.length=ps.length)
  (V6:∀LY A outer s H vs Q E,Room k (A.deeper<|JU qual (ap st) s.heap.objs.size f LY)->sp vs H Q E->
   ∃t,PSs (cj (jq P w) P w K mg base N qual (ap st) f LY A outer s H E) (cF st) t/\t {nx:=λ_ H'=>Q .non H',rt:=Q} (start N vs) H):FnOk P w K mg base (jq P w) (k+1) f fd ps sp:=by
 obtain⟨oc,od,kV,Ua,pm,an,LY,ct,osl,rfl,lk,Xu⟩:=F.ex;refine vI lk Xu S len λA outer s H vs Q E hr Zu=>?_;obtain⟨t,h,q⟩:=V6 LY A outer s H vs Q E hr Zu;exact⟨t,h,q⟩
def DG(h:JM)(C:IL)(Vk:IG IH)(newId:LA):Prop:=
 ∃(bm:IG IH) (N:IL) (nm q:Str) (bs:IG IH) (hdct:Jm) (sn:IG Str) (sub:IG IH) (ab:Jm) (col:IQ Jm) (dd:IQ IL) (k0 k1 k2 k3 k5:IQ IH) (mN:Str->IQ IH),
  h.get? C=B' (Qu nm q C N bs bm hdct sn sub ab col dd k0 k1 k2 k3 k5 newId)/\h.Ns N mN/\mN "__init__"=IV/\X4 h Vk bm
theorem jL{K:IJ}{h:JM}{C:IL}{Vk:IG IH}{newId:LA}(X:K.In h)(q:LK K C Vk newId=IS):DG h C Vk newId:=by
 unfold LK at q
 split at q
 case h_2=>cases q
 case h_1 dd cd sl ho=>
  split at q
  case h_2=>cases q
  case h_1 C' bm k0 k1 k2 k3 n k5 hm hs=>
   rw[JT,JT,JT,JT,JT]at q;obtain⟨⟨⟨⟨⟨q1,q2⟩,q3⟩,q4⟩,q5⟩,q6⟩:=q;have e1:C'=C:=Ng.mp q1;have e2:n=newId:=Ng.mp q2;have e6:=Ng.mp q6;subst e1 e2;obtain⟨nm,bs,mro,ns,qn,hd,sn,sub,ab,col,del⟩:=cd;have em:mro=.ref C'::bm:=hm;have ed:del=false:=by simpa using q3
   have es:sl=#[k0,k1,k2,k3,B'<|.builtin n,k5]:=Vg.mp hs;subst em ed es;exact⟨bm,ns,nm,qn,bs,hd,sn,sub,ab,col,dd,k0,k1,k2,k3,k5,_,X _ _ ho,.of_isNs<|Tw X q5,PySem.W.nsMap_none_of_in X q5 e6,Tu X q4⟩
def DH(C:IL)(E:XK)(t:TA):TS:=λ_ σ H=>t σ H λvs H1=>vs.length<=sizeLine/\E (.ref C) IV H1
section
variable {P:Jc}{w:Jv}{K:IJ}{mg:Str->IQ IH}{base:JM}{N:IG Str}{qual:Str}{scope:N6}{f:IL}{cd:IH}{A:JV}{outer:IG Env}{s:IM}{H:Hp}{E:XK}
theorem ph{e:Km}{es:IG Km}{t:TA}{np Pk pos:Pos}(q:LK K C Vk newId=IS)(FB:Uz B newId XH Vk)(hm:mg x=B' (.ref C))
  (hg:Gl (cj (jq P w) P w K mg base N qual scope f cd A outer s H E) x) (ha:PA (cj (jq P w) P w K mg base N qual scope f cd A outer s H E) (e::es) t) (hd:(x == ("__debug__":Str))=false:=by decide)
  (he:JI (e::es) (JU qual scope s.heap.objs.size f cd)=(IU,LN e<|JU qual scope s.heap.objs.size f cd)::JI es (JU qual scope s.heap.objs.size f cd):=by rfl)
  (T_:(MF Pk<|JI (e::es)<|JU qual scope s.heap.objs.size f cd).any (·.1)=false:=by rfl):
  PS (cj (jq P w) P w K mg base N qual scope f cd A outer s H E) (.Raise (B'<|.Call (.Name x np) (e::es) [] Pk) IV pos) (DH C E t):=by
 intro IT s1 σ H1 D I h;obtain⟨bm,N',nm,q',bs,hdct,sn,sub,ab,col,dd,k0,k1,k2,k3,k5,mN,h1,h2,h3,h4⟩:=jL I.mod.kin q;refine wpAny_Raise_call_subT (C:=C) (nm:=nm) (q:=q') (N:=N') (bs:=bs) (bm:=bm) (hdct:=hdct) (sn:=sn) (sub:=sub) (ab:=ab) (col:=col) (dd:=dd) (k0:=k0) (k1:=k1) (k2:=k2) (k3:=k3) (k5:=k5) (mN:=mN) FB (h4.hasType FB.hasBase) (I.ok.hd rfl) T_ h3<|c9 I hg hm ⟨rfl,?_⟩ hd;show wpAny _ _ (evalArgs (.ref C) IS (MF Pk<|JI (e::es)<|JU qual scope s.heap.objs.size f cd) []) _ _ s1
 rw[he];have Zu:=ha Pk IT s1 σ H1 _ I h;have adF:wpAny (Ju P w) _ (XU<|MF Pk<|JI (e::es)<|JU qual scope s.heap.objs.size f cd) _ _ s1:=Zu;rw[he]at adF;refine NV<|J2 adF (λus s2 hz=>?_) λ_ _ z=>z;obtain⟨vs,H2,I2,r,z,hE⟩:=hz;refine⟨rfl,?_,I2.bk _ _ h1,h2.keeps I2.bk,h4.keeps I2.bk,λh' ea hx=>FJ I2 hx hE⟩;show us.length<=sizeLine
 rw[<-r.length];exact z
end
def fX(ea C:IL):HO:=.ext λh=>∃(o:Obj) (vs:J4 IH),h.get? ea=B' o/\o.cls=.ref C/\o.data=.fields vs
abbrev XQ:=IH->St->Hp->Prop
def XP(X:Cx)(IT:IG (IL×Obj))(EX:XQ)(e:IH)(s':IM):Prop:=
 ∃(σ1:St) (H1:Hp) (s1:IM) (H':Hp) (B:JM) (ea:IL) (cls a0:IH),e=.ref ea/\Inv X IT σ1 H1 s1/\Flies X.prog X.w X.stack H1 s1 H' B ea cls a0 s'/\EX cls σ1 H'
abbrev Ha:=XQ->TE
abbrev BO:=XQ->TS
def HP(X:Cx)(e:Km)(t:Ha):Prop:=
 ∀(IT:IG (IL×Obj)) (s:IM) (σ:St) (H:Hp) (Q:VK) (EX:XQ),Inv X IT σ H s->t EX σ H Q->wpAny (Ju X.prog X.w) X.A (LN e X.env) (EP X IT σ Q) (XP X IT EX) s
def EL(X:Cx)(st:IG KL)(t:BO):Prop:=
 ∀(IT:IG (IL×Obj)) (s:IM) (σ:St) (H:Hp) (D:fQ) (EX:XQ),Inv X IT σ H s->t EX D σ H->wpAny (Ju X.prog X.w) X.A (execs st X.env) (SP X IT D) (XP X IT EX) s
def wE(sp:Sp)(t:TA):Ha:=λEX σ H Q=>t σ H λvs H1=>sp vs H1 Q λcls _ H'=>EX cls σ H'
def FK(i:Nat)(t:Ha):BO:=λEX D σ H=>t EX σ H λx H1=>D.nx (σ.set i<|B' x) H1
section
variable {X:Cx}{k:Nat}{f:IL}{fd:Jr}{ps:IG Str}{sp:Sp}{x:Str}{p pos:Pos}{e:Km}{es:IG Km}{t:TA}
theorem wF(Xq:∀e s,X.xe e s->False)(F:FnOk X.prog X.w X.K X.mg X.base (jq X.prog X.w) k f fd ps sp)(hr:Room k X.A)(hg:Gl X x)(hm:X.mg x=B' (.ref f))(hk:LJ X.K (.ref f)=IS)(hb:Binds X.K fd ps [])
  (ha:PA X (e::es) t) (XN:(x == ("__debug__":Str))=false:=by decide) (he:JI (e::es) X.env=(IU,LN e X.env)::JI es X.env:=by rfl) (T_:(MF pos<|JI es X.env).any (·.1)=false:=by rfl):
  HP X (.Call (.Name x p) (e::es) [] pos) (wE sp t):=by
 intro IT s σ H Q EX I h;refine La<|c9 I hg hm ?_ XN;refine Ov (h₀:=X.base) I.ok.mod.kin hk (J2 (ha pos IT s σ H _ I h) (λus s1 ⟨vs,H1,I1,r,q⟩=>⟨I1.kIn,?_⟩) λe' s' z=>(Xq e' s' z).elim) he T_;have hl:us.length=ps.length:=by rw[<-r.length];exact F.len _ _ _ _ q
 have hbs:=hb s1 us I1.kIn (by rw[Kg];exact hl);rw[Kg]at hbs;refine O4<|Nw (F.run X.A X.stack s1 H1 ⟨us,[]⟩ us vs Q (λcls _ H'=>EX cls σ H') hr I1.env0 hbs r q) λres s' hq=>?_;cases res with
 |error e'=>
  obtain⟨H',B,ea,cls,a0,rfl,fl,hE⟩:=hq;exact⟨σ,H1,s1,H',B,ea,cls,a0,rfl,I1,fl,hE⟩
 |ok fl=>
  cases fl with
  |ret u=>exact I1.after hq
  |next=>exact Ld hq
  |brk=>exact Ld hq
  |cont=>exact Ld hq
theorem gZ(hN:X.N.Nodup)(hi:X.N[i]? =B' y)(hy:EF X.env.scope y)(he:HP X e te)(hs:P4 e (B'<|.Name y QJ) pos.line X.env=pure false:=by rfl)(hf:X.fn y=IS\/X.env.scope.names.lookup y=B' .local:=by first|exact .inl rfl|exact .inr rfl|assumption):
  EL X [.Assign [.Name y QJ] e pos] (FK i te):=by
 intro IT s σ H D EX I h;refine Nm<|Qp (J2 (he IT s σ H _ EX I h) (λv s1 ⟨z,H1,I1,r1,q1⟩=>?_) λ_ _ z=>z) hs;exact eU I1 hN hi hy r1 (λs2 I2=>KY ⟨_,H1,I2,q1⟩) hf
end
abbrev Cx.inExc(X:Cx)(ea:IL)(E:IH->IM->Prop):Cx:={X with A:=X.A.mark<|B'<|.ref ea,calm:=IU,xe:=E}
section
variable {X:Cx}{IT:IG (IL×Obj)}{σ:St}{H:Hp}{s:IM}{ea:IL}{E:IH->IM->Prop}
theorem Inv.inExc(I:Inv X IT σ H s)(ea:IL)(E:IH->IM->Prop):Inv (X.inExc ea E) IT σ H s:=
 ⟨⟨I.ok.mod,I.ok.kind,I.ok.glob,I.ok.blt,I.ok.above,I.ok.inj,I.ok.has,I.ok.cab,(λz=>(Jz z).elim),I.ok.frames,I.ok.stk,I.ok.exf,I.ok.bs,I.ok.bsz,I.ok.noex,I.ok.exfs,I.ok.funs,I.ok.frf⟩,I.os,I.bare,I.base,I.loc,I.cell,I.free,I.freeC,I.pin,I.hok,I.len⟩
theorem Inv.outExc(hd:X.A.handled=IV)(I:Inv (X.inExc ea E) IT σ H s):Inv X IT σ H s:=
 ⟨⟨I.ok.mod,I.ok.kind,I.ok.glob,I.ok.blt,I.ok.above,I.ok.inj,I.ok.has,I.ok.cab,λ_=>hd,I.ok.frames,I.ok.stk,I.ok.exf,I.ok.bs,I.ok.bsz,I.ok.noex,I.ok.exfs,I.ok.funs,I.ok.frf⟩,I.os,I.bare,I.base,I.loc,I.cell,I.free,I.freeC,I.pin,I.hok,I.len⟩
theorem de{M:RO}{A:JV}{pos:Pos}{Q:Pt->IM->Prop}(I:Inv X IT σ H s)(hN:X.N.Nodup)(hi:X.N[i]? =B' n)(hk:X.env.scope.names.lookup n=B' .local)
  (h:∀s',Inv X IT (σ.set i IV) H s'->Q () s'):wpAny M A (do bindName X.env n .none;unbindBehindTheSuite X.env n pos) Q E s:=by
 obtain⟨m,hn,hl⟩:=id I.loc;have hiσ:i < σ.length:=by rw[I.len];exact(IY.mp hi).1
 have acw:(X.env.scope.kind == .class || (X.env.scope.kind == .module&&X.env.locals != X.env.globals))=false:=by rw[I.ok.kind];rfl
 obtain⟨oL,_,_,ZS,_⟩:=id hn;refine wpAny_nameGoes_keeps hk hn acw λh' v hn' hs=>?_;have nL:∀b o,X.s₀.heap.get? b=B' o->b≠X.env.locals:=λb o e=>Js<|Ki (Jh e) I.ok.above;refine h _ ⟨I.ok,I.os,I.bare,⟨λb o e n hb hx=>(hs.2 b<|nL b o e).trans<|I.base.keep b o e n hb hx,λb o e n hb hx=>?_,I.base.free,λb o e hx=>?_,I.base.tups,I.base.frzs,I.base.tbls⟩,⟨_,hn',λj y v' e1 e2 e3=>?_⟩,λy c e=>?_,I.free,I.freeC,λp hp=>?_,λb ob e=>?_,by simpa using I.len⟩
 ·obtain⟨sl,e1⟩:=I.base.slot b o e n hb hx;exact⟨sl,(hs.2 b<|nL b o e).trans e1⟩
 ·obtain⟨o',e1⟩:=I.base.there b o e hx;exact⟨o',(hs.2 b<|nL b o e).trans e1⟩
 ·by_cases hj:j=i
  ·subst hj;rw[Ny hiσ]at e2;cases e2
  ·rw[Pn<|Lq hj]at e2;obtain⟨u',r',q⟩:=hl j y v' e1 e2 e3;exists u',r';obtain⟨kk,e⟩|⟨kk,c,e,z⟩:=q
   ·refine .inl ⟨kk,?_⟩;have:y≠n:=λe=>hj<|jU hN e1<|e▸hi;simp [this,e]
   ·exact .inr ⟨kk,c,e,z.sameBut hs<|I.cne y c e⟩
 ·obtain⟨w',z⟩:=I.cell y c e;exact⟨w',z.sameBut hs<|I.cne y c e⟩
 ·obtain⟨e,n,ne,nf,d⟩:=I.pin p hp;exact⟨(hs.2 p.1 ne).trans e,n,ne,nf,d⟩
 ·refine(I.hok b ob e).stay (λc w' hc q=>(hs.2 c ?_).trans q) (λ_ q=>q) λ_ _ q=>q;rintro rfl;obtain rfl|hc:=hc
  ·rw[I.free]at e;cases e
  ·rw[I.free]at hc;cases hc
end
section
variable {P:Jc}{w:Jv}{outer:IG Env}{H H':Hp}{s s':IM}{B h':JM}{ea C:IL}{a0:IH}
theorem Flies.away(f:Flies P w outer H s H' B ea (.ref C) a0 s')(e:s.heap.get? b=B' o):b≠ea:=by
 rintro rfl;by_cases hb:b∈dN outer
 ·obtain⟨_,o1,e2,nf⟩:=f.fly.2.2.1.mem (b:=b) hb;obtain⟨oe,vs,e3,_,hd,_⟩:=f.fly.first;rw[e2]at e3;cases e3;exact nf vs hd
 ·obtain⟨o',q⟩:=f.thr b o e hb;rw[f.fly.2.1]at q;cases q
theorem Flies.fresh(f:Flies P w outer H s H' B ea (.ref C) a0 s'):H' ea=none:=by
 cases q:H' ea with
 |none=>rfl
 |some u=>
  have hx:=f.hok ea u q;have:∃o,B.get? ea=B' o:=ObjOk.some hx;obtain⟨o,e⟩:=this;rw[f.fly.2.1]at e;cases e
theorem Flies.unX(f:Flies P w outer H s H' B ea (.ref C) a0 s')(st:B.StaysIn h')(up:s'.heap.UpToSlots h')(frf:∀b∈dN outer,H b=IV):Un (dN outer) [] H (upd H' ea<|fX ea C) s.heap h':=by
 have u:=f.un st up frf;have fr:=f.fresh;refine⟨u.keep,u.slot,λb o e n hx=>?_,u.there,λb xs e=>?_,λb o v e=>?_,λb ps e=>?_⟩
 ·rw[ao<|f.away e];exact u.free b o e n hx
 ·have z:=u.tups b xs e;rw[ao<|aj z fr];exact z
 ·have z:=u.frzs b o v e;rw[ao<|aj z fr];exact z
 ·obtain⟨more,z⟩:=u.tbls b ps e;exact⟨more,by rw[ao<|aj z fr];exact z⟩
theorem Flies.hokX(f:Flies P w outer H s H' B ea (.ref C) a0 s')(fl:N4 B outer ea (.ref C) a0 h'):HOk P w (upd H' ea<|fX ea C) h':=λb u q=>by
 have fr:=f.fresh;by_cases hb:b=ea
 ·subst hb;rw[ad]at q;cases q;obtain⟨oe,vs,e1,e2,e3,_⟩:=fl.first;exact⟨⟨oe,vs,e1,e2,e3⟩,⟨oe,e1⟩,λh1 h2 ⟨o,vs,z1,z2,z3⟩ k=>⟨o,vs,k o z1,z2,z3⟩⟩
 ·rw[ao hb]at q;exact(f.hok b u q).stay (λc v _ z=>fl.1 c v z) (λc z=>by rw[ao<|aj z fr];exact z) λc xs z=>by rw[ao<|aj z fr];exact z
end
def FL(C:IL)(i:Nat)(tb:BO)(ts:TS):TS:=λD σ H=>
 tb (λcls σ1 H'=>cls=.ref C/\∀ea,H' ea=IV->ts {nx:=λσ2 H2=>D.nx (σ2.set i IV) H2,rt:=D.rt,bk:=λσ2 H2=>D.bk (σ2.set i IV) H2,ct:=λσ2 H2=>D.ct (σ2.set i IV) H2} (σ1.set i<|B'<|.ref ea) (upd H' ea<|fX ea C)) D σ H
structure sj (P:Jc)(w:Jv)(K:IJ)(mg:Str->IQ IH)(base:JM)(k:Nat)(x:Str)(f:IL)(fd:Jr)(ps:IG Str)(sp:Sp):Prop where
 ok:FnOk P w K mg base (jq P w) k f fd ps sp
 b:Binds K fd ps []
 kp:LJ K (.ref f)=IS
 at_:mg x=B' (.ref f)
section
variable {X:Cx}{j k:Nat}{f:IL}{fd:Jr}{ps:IG Str}{sp:Sp}{x:Str}{p pos:Pos}{e:Km}{es:IG Km}{t:TA}
theorem ja(G:sj X.prog X.w X.K X.mg X.base j x f fd ps sp)(Xq:∀e s,X.xe e s->False)(hr:Room k X.A)(ZU:j<=k)(hg:Gl X x)(ha:PA X (e::es) t)(XN:(x == ("__debug__":Str))=false:=by decide)
  (he:JI (e::es) X.env=(IU,LN e X.env)::JI es X.env:=by rfl) (T_:(MF pos<|JI es X.env).any (·.1)=false:=by rfl):HP X (.Call (.Name x p) (e::es) [] pos) (wE sp t):=
 wF Xq G.ok (hr.mono ZU) hg G.at_ G.kp G.b ha XN he T_
end
section
variable {P:Jc}{w:Jv}{K:IJ}{mg:Str->IQ IH}{base:JM}{N:IG Str}{qual:Str}{scope:N6}{f:IL}{cd:IH}{A:JV}{outer:IG Env}{s:IM}{H:Hp}{E:XK}
theorem wG{p pos:Pos}{e:Km}{es:IG Km}{t:TA}(G:sj P w K mg base j x f' fd ps sp)(hr:Room k (cj (jq P w) P w K mg base N qual scope f cd A outer s H E).A)(ZU:j<=k)
  (hg:Gl (cj (jq P w) P w K mg base N qual scope f cd A outer s H E) x) (ha:PA (cj (jq P w) P w K mg base N qual scope f cd A outer s H E) (e::es) t) (XN:(x == ("__debug__":Str))=false:=by decide)
  (he:JI (e::es) (cj (jq P w) P w K mg base N qual scope f cd A outer s H E).env=(IU,LN e (cj (jq P w) P w K mg base N qual scope f cd A outer s H E).env)::JI es (cj (jq P w) P w K mg base N qual scope f cd A outer s H E).env:=by rfl)
  (T_:(MF pos<|JI es (cj (jq P w) P w K mg base N qual scope f cd A outer s H E).env).any (·.1)=false:=by rfl):
  PE (cj (jq P w) P w K mg base N qual scope f cd A outer s H E) (.Call (.Name x p) (e::es) [] pos) (oM sp [] E t):=
 ng G.ok (hr.mono ZU) hg G.at_ G.kp G.b .nil FI ha XN he T_
end
structure dE (K:IJ)(C:IL):Prop where
 cls:∃cd,L_ K C=B' cd
 ga:Kl K (.ref C) "__getattribute__"=B' (B'<|.builtin "BaseException.__getattribute__")
 gt:Kl K (.ref C) "__getattr__"=B' IV
 at_:Kl K (.ref C) "__class__"=B' (B'<|.builtin "object.__class__")
 ob:JL K C (.type "object")=B' IS
 be:JL K C (.type "BaseException")=B' IS
section
variable {prog:Jc}{w:Jv}{A:JV}{E:IH->IM->Prop}{h:JM}{g:J4 Q7}{d:YI}{t:Nat}{os:Pe}{a C:IL}{o:Obj}{vs:J4 IH}{K:IJ}
theorem wH(hx:h.get? a=B' o)(hc:o.cls=.ref C):Of M h (typeOf<|.ref a) (.ref C):=by
 rw[<-hc];exact(U9 hx).andThen .now
theorem qF{R:TF->IM->Prop}(X:K.In h)(T:dE K C)(hx:h.get? a=B' o)(hc:o.cls=.ref C)(hq:R (.ok<|.ret<|.ref C) ⟨h,g,d,t,os⟩):
  codeAny (Ju prog w) A (.call (.builtin "getset_descriptor.__get__") ⟨[.builtin "object.__class__",.ref a,.ref C],[]⟩) R ⟨h,g,d,t,os⟩:=by
 have hT5:(⟨h,g,d,t,os⟩:IM).TypeIs (.builtin "object.__class__") "getset_descriptor":=OY;have L1:=MH (M:=Ju prog w) X T.ob;refine Mz F.slot_gs_get.plain F.entry_gs_get (F.slot_gs_get.check _ _ _ _ _ _ _ _ hT5 (F.args_gs_get _ _ _) ?_)
 repeat (any_goals (first|assumption|(with_reducible refine Kb hx ?_;rw[hc])|(rw[F.owner_object_class];with_reducible refine L1.at ?_)|wp_step))
 refine⟨Oy _ (by decide+kernel),Le F.entry_object_class ?_⟩
 repeat (any_goals (first|assumption|(with_reducible refine Kb hx ?_;rw[hc])|wp_step))
theorem nG{tk:Tok}(X:K.In h)(T:dE K C)(hx:h.get? a=B' o)(hc:o.cls=.ref C)(hq:Q (.done<|.ret<|.ref C) ⟨h,g,d,t,os⟩):
  wpAny (Ju prog w) A (Builtin.«object.__getattribute__» ⟨[.ref a,.str "__class__" tk],[]⟩) Q E ⟨h,g,d,t,os⟩:=by
 have hT5:(⟨h,g,d,t,os⟩:IM).TypeIs (.builtin "object.__class__") "getset_descriptor":=OY;have f5:=OY;have f6:=F.slot_gs_get.lookup;have f7:=F.slot_gs_set.lookup;have L1:=Lr (M:=Ju prog w) X T.at_
 repeat (any_goals (first|assumption|(with_reducible refine Kb hx ?_;rw[hc])|with_reducible refine L1.at ?_|wp_step))
 refine qF X T hx hc ?_
 repeat (any_goals (first|assumption|wp_step))
theorem l_{M:RO}{abw:IH}(X:K.In h)(T:dE K C)(hx:h.get? a=B' o)(hc:o.cls=.ref C)(hq:Q () ⟨h,g,d,t,os⟩):
  wpAny M A (N0 "BaseException.__getattribute__" ⟨[.ref a,abw],[]⟩) Q E ⟨h,g,d,t,os⟩:=by
 have f1:builtinKind "BaseException.__getattribute__"=B' .slot:=by decide+kernel
 have f2:splitId "BaseException.__getattribute__"=B' ("BaseException","__getattribute__"):=by decide+kernel
 have f3:=F.args_bexc_ga (.ref a) abw;have L1:=MH (M:=M) X T.be;simp only [N0,f1,f2];refine II ?_;unfold To
 repeat (first|(with_reducible refine Kb hx ?_;rw[hc])|with_reducible refine L1.at ?_|wp_step)
 exact hq
theorem uD{tk:Tok}(X:K.In h)(T:dE K C)(hx:h.get? a=B' o)(hc:o.cls=.ref C)(hq:Q (.ref C) ⟨h,g,d,t,os⟩):
  wpAny (Ju prog w) A (Xy (.ref a) (.str "__class__" tk) IU) Q E ⟨h,g,d,t,os⟩:=by
 have f3:=PySem.F.attr_ValueError.ga.bind<|.ref a;have YQ:(Mu "BaseException.__getattribute__" == Mu "object.__getattribute__")=false:=by decide+kernel
 have hx1:(Xw (JS C)&&Mu "BaseException.__getattribute__" == Mu "object.__getattribute__")=false:=by rw[YQ];rfl
 have L1:=Lr (M:=Ju prog w) X T.ga;have L2:=Lr (M:=Ju prog w) X T.gt
 repeat (any_goals (first|assumption|(with_reducible refine Kb hx ?_;rw[hc])|with_reducible refine L1.at ?_|with_reducible refine L2.at ?_|wp_step))
 refine Mz PySem.F.attr_ValueError.ga.plain VJ (l_ X T hx hc<|nG X T hx hc ?_)
 repeat (any_goals (first|assumption|wp_step))
theorem pi(X:K.In h)(T:dE K C)(hx:h.get? a=B' o)(hc:o.cls=.ref C)(hq:Q (B'<|.ref C) ⟨h,g,d,t+1,os⟩):
  wpAny (Ju prog w) A (Wc (.ref a) "__class__") Q E ⟨h,g,d,t,os⟩:=by
 unfold Wc getAttrBy?
 repeat (any_goals (first|assumption|with_reducible apply uD X T hx hc|wp_step))
theorem wI(T:dE K C):PySem.W.KitX K (.ref a) (.ref C) (λh=>∃o,h.get? a=B' o/\o.cls=.ref C) where
 ty:=λM h _ ⟨o,h1,h2⟩=>wH h1 h2
 it:=λ_ _ X _=>by
  obtain⟨_,q⟩:=T.cls;unfold L_ at q
  split at q
  ·rename_i ho;intro A' Q' E' s' k z;unfold isType loadHead;exact II<|wpAny_loadPart (k _ _<|X _ _ ho)<|I0 z
  ·cases q
 ne:=λh tp dd KN n sl X ZN=>by
  refine UR.mpr λz=>?_;have e:C=tp:=aa3<|Ng.mp z;subst e;obtain⟨_,q⟩:=T.cls;unfold L_ at q
  split at q
  ·rename_i ho;have y:=(X _ _ ho).symm.trans ZN;cases y
  ·cases q
 ca:=λ{_ _ _ _ _ s} X ⟨o,h1,h2⟩ k=>by
  obtain⟨hh,g,d,t,os⟩:=s;exact pi X T h1 h2 k
end
theorem kr(K:IJ)(C:IL):Jq K (.ref C) (.ref C)=B' true:=by
 unfold Jq;rw[JF<|by simp]
end L2
namespace OD
open PySem L2
theorem qG(xs:IG V)(k:Nat):dz xs IV (B' (k:Int))=xs.take k:=by
 unfold dz;rw[HT.sIx_nat];show(xs.drop 0).take (min k xs.length - 0)=_
 rw[List.drop_zero,Nat.sub_zero];by_cases h:k<=xs.length
 ·rw[Nat.min_eq_left h]
 ·rw[Nat.min_eq_right (by lia),Jy<|IX _,Jy<|by lia]
theorem ku{α β:Type}{F:α->β->Prop}:∀{xs:IG α} {us:IG β} {i:Nat} {u:β},Paired F xs us->us[i]? =B' u->∃x,xs[i]? =B' x/\F x u
 |_,_,0,_,.cons h _,e=>⟨_,rfl,by cases e;exact h⟩
 |_,_,i+1,_,.cons _ r,e=>ku (i:=i) r e
theorem FM(b:Jm):decide (V.str (aI b)=V.str (IK "wisher"))=b:=by
 have z:=gJ b IS;have z2:aI IS=IK "wisher":=rfl;rw[z2]at z;rw[z];cases b<;>rfl
end OD
namespace OD
open PySem L2
def ii(most:Int):Int->IG Jg->Jm
 |_,[]=>IS
 |b,.int i::r=>if b < absI i/\absI i<=most then ii most (absI i) r else IU
 |_,_::_=>IU
def lJ(most:Int):Jg->Jm
 |.tuple ds=>ii most 0 ds
 |_=>IU
theorem uE{α:Type}{l:IG α}{i:Nat}(d:α)(h:i < l.length):l.drop i=l.getD i d::l.drop (i+1):=by
 rw[Mk h]
 congr 1
 simp [List.getD,h]
theorem nH(h:∀z,d≠.int z):(nB d&&!nC d)=false:=by
 cases d with
 |int z=>exact absurd rfl<|h z
 |_=>rfl
theorem pj(h:∀z,d≠.int z):ii most b (d::r)=false:=by
 cases d with
 |int z=>exact absurd rfl<|h z
 |_=>rfl
theorem kx:ii most b (.int z::r)=if b < absI z/\absI z<=most then ii most (absI z) r else false:=rfl
theorem nI(d:Jg):(∃z,d=.int z)\/∀z,d≠.int z:=by
 cases d with
 |int z=>exact .inl ⟨z,rfl⟩
 |_=>exact .inr (λz h=>by cases h)
theorem aX(h:RD H (.int z) v):v=.int z:=by
 unfold RD at h;exact h
theorem bf(h:RD H (.str z) v):v=.str z:=by
 unfold RD at h;exact h
theorem eA(ns:IG Int):Kn (.list<|ns.map .int)=true:=PySem.W.ke_shaped_ints ns
theorem DI{n:Nat}{i:Int}(h0:0<=i)(h1:i < n):zl n i=B' i.toNat:=by
 unfold zl;rw[JF h0,JF h1]
def Nice(n:Nat)(d:Jg):Prop:=d.canLay0=IS/\d.depth<=n
theorem Nice.mono(h:Nice m d)(k:m<=n):Nice n d:=⟨h.1,KE h.2 k⟩
theorem iF:∀{ds:IG Jg} {n:Nat},(∀d∈ds,Nice n d)->Ln ds=IS/\Mi ds<=n
 |[],_,_=>⟨rfl,Jw _⟩
 |d::ds,n,h=>by
  have h1:=h d Jp;have h2:=iF (ds:=ds) λx hx=>h x<|Jk _ hx;refine⟨?_,?_⟩
  ·show(d.canLay0&&Ln ds)=IS
   rw[h1.1,h2.1];rfl
  ·show max d.depth (Mi ds)<=n
   exact Nat.max_le.mpr ⟨h1.2,h2.2⟩
theorem g_(h:∀d∈ds,Nice n d):Nice (n+1) (.list ds):=⟨(iF h).1,Rc (iF h).2⟩
theorem bI(h:∀d∈ds,Nice n d):Nice (n+1) (.tuple ds):=⟨(iF h).1,Rc (iF h).2⟩
theorem uF(n:Nat):Nice n .none:=⟨rfl,Jw _⟩
theorem uG(n:Nat)(b:Jm):Nice n (.bool b):=⟨rfl,Jw _⟩
theorem bR(n:Nat)(i:Int):Nice n (.int i):=⟨rfl,Jw _⟩
theorem bu(n:Nat)(h:PQ x=IS):Nice n (.str x):=⟨h,Jw _⟩
theorem ma(n:Nat)(ns:IG Int):∀d∈ns.map Ox,Nice n d:=λd hd=>by
 obtain⟨i,_,rfl⟩:=J1.mp hd;exact bR n i
theorem aJ(h:Nice n d)(t:∀x∈ds,Nice n x):∀x∈d::ds,Nice n x:=λx hx=>by
 obtain rfl|hx:=JC.mp hx
 ·exact h
 ·exact t x hx
theorem bJ:∀x∈([]:IG Jg),Nice n x:=λ_ h=>nomatch h
theorem Nice.shaped(h:Nice 8 d):Kn d=true:=gY h.1 (KE h.2<|by decide)
theorem wJ(cs:IG (IG Int)):∀d∈cs.map fM,Nice 2 d:=λd hd=>by
 obtain⟨c,_,rfl⟩:=J1.mp hd;exact bI<|ma 1 c
end OD
namespace TB
open PySem PySem.SetTable
def Up(xs:J4 Nat):Prop:=∀i k,i < k->k < xs.size->xs.getD i 0 < xs.getD k 0
theorem sk{xs:J4 Nat}{i:Nat}(h:i < xs.size)(a b:Nat):xs.getD i a=xs.getD i b:=by
 simp [Pb,h]
theorem nJ(up:Up xs):∀fuel lo hi,hi - lo<=fuel->lo<=hi->hi<=xs.size->(∀i,i < lo->xs.getD i 0 < j)->(∀i,hi<=i->i < xs.size->j<=xs.getD i 0)->
  Sg xs j fuel lo hi<=xs.size/\(∀i,i < Sg xs j fuel lo hi->xs.getD i 0 < j)/\(∀i,Sg xs j fuel lo hi<=i->i < xs.size->j<=xs.getD i 0)
 |0,lo,hi,hf,hl,hs,h1,h2=>by
  have e:lo=hi:=by lia
  subst e;exact⟨hs,h1,h2⟩
 |fuel+1,lo,hi,hf,hl,hs,h1,h2=>by
  unfold Sg;by_cases h:lo < hi
  ·rw[JF h];have hm:(lo+hi) / 2 < xs.size:=by lia
   show(if xs.getD ((lo+hi) / 2) j < j then Sg xs j fuel ((lo+hi) / 2+1) hi else Sg xs j fuel lo ((lo+hi) / 2))<=xs.size/\_
   by_cases c:xs.getD ((lo+hi) / 2) j < j
   ·simp only [JF c];refine nJ up fuel _ _ (by lia) (by lia) hs (λi hi'=>?_) h2;rw[sk hm j 0]at c;obtain g|g:=Mw i ((lo+hi) / 2)
    ·exact PX (up i _ g hm) c
    ·have e:i=(lo+hi) / 2:=by lia
     rw[e];exact c
   ·simp only [JD c];refine nJ up fuel _ _ (by lia) (by lia) (by lia) h1 λi hi' Zv=>?_;rw[sk hm j 0]at c;obtain g|g:=Mw ((lo+hi) / 2) i
    ·exact KE (by lia)<|KM<|up _ i g Zv
    ·have e:i=(lo+hi) / 2:=by lia
     rw[e];lia
  ·rw[JD h];have e:lo=hi:=by lia
   subst e;exact⟨hs,h1,h2⟩
theorem dR(up:Up xs)(j:Nat):LZ xs j<=xs.size/\(∀i,i < LZ xs j->xs.getD i 0 < j)/\(∀i,LZ xs j<=i->i < xs.size->j<=xs.getD i 0):=
 nJ up xs.size 0 xs.size (by lia) (by lia) (by lia) (λi h=>by lia) (λi h h2=>by lia)
theorem kB(up:Up xs)(h:xs[i]? =B' j):LZ xs j=i:=by
 obtain⟨b1,b2,b3⟩:=dR up j;obtain⟨hi,e⟩:=J9.mp h;have e':xs.getD i 0=j:=by simp [Pb,hi,e]
 obtain g|g|g:=MD (LZ xs j) i
 ·have:=b3 (LZ xs j) (IX _) (by lia);have:=up _ _ g hi;lia
 ·exact g
 ·have:=b2 i g;lia
theorem qH(up:Up xs)(h:xs[i]? =B' j):LZ xs (j+1)=i+1:=by
 obtain⟨b1,b2,b3⟩:=dR up<|j+1;obtain⟨hi,e⟩:=J9.mp h;have e':xs.getD i 0=j:=by simp [Pb,hi,e]
 obtain g|g|g:=MD (LZ xs<|j+1) (i+1)
 ·have:=b3 i (by lia) hi;lia
 ·exact g
 ·have:=b2 (i+1) g;have:=up i (i+1) (by lia) (by lia);lia
theorem qI(up:Up xs):LZ xs 0=0:=by
 obtain⟨b1,b2,b3⟩:=dR up 0;obtain g|g:=TX (LZ xs 0)
 ·exact g
 ·have:=b2 0 g;lia
structure vw (t:SetTable):Prop where
 mask:t.mask=7\/t.mask=31
 dum:t.dummies=#[]
 up:Up t.place
 le:∀j∈t.place,j<=t.mask
 room:t.place.size<=t.mask
def jr(t:SetTable)(j:Nat):Jm:=t.place.contains j
theorem occ_iff:jr t j=IS↔∃i:Nat,t.place[i]? =B' j:=by
 unfold jr;rw[MP,Array.mem_iff_getElem?]
theorem sm(j:Nat):has #[] j=false:=by
 unfold has;simp
theorem md(T:vw t)(h:t.place[i]? =B' j):t.slot j=.live i:=by
 unfold slot;simp only [kB T.up h,h];simp
theorem kC(T:vw t)(j:Nat):(∃i,t.place[i]? =B' j/\t.slot j=.live i)\/(jr t j=IU/\t.slot j=.empty):=by
 by_cases h:jr t j=IS
 ·obtain⟨i,hi⟩:=occ_iff.mp h;exact .inl ⟨i,hi,md T hi⟩
 ·refine .inr ⟨by simpa using h,?_⟩;unfold slot;have hn:¬(t.place[LZ t.place j]? == B' j)=true:=λz=>h<|occ_iff.mpr ⟨_,by simpa using z⟩;simp only [hn,T.dum,sm,MX,JK]
theorem jc:∀(n:Nat) (l:IG Nat),(∀e,e < n->e∈l)->n<=l.length
 |0,_,_=>Jw _
 |n+1,l,h=>by
  have hm:=h n (by lia);have:=jc n (l.erase n) λe he=>(SB<|by lia).mpr (h e<|by lia);rw[QV hm]at this;have:0 < l.length:=RC hm;lia
theorem me(T:vw t):∃e,e<=t.mask/\jr t e=false:=by
 by_cases h:∃e,e<=t.mask/\jr t e=IU
 ·exact h
 ·exfalso;have:=jc (t.mask+1) t.place.toList λe he=>by
   cases c:jr t e with
   |true=>
    unfold jr at c;rw[MP]at c;exact Nc.mpr c
   |false=>exact absurd ⟨e,by lia,c⟩ h
  have:=T.room;simp at*;lia
def mh(m:Nat)(p:Og):Og:=
 if p.more > 0 then{p with j:=p.j+1,more:=p.more - 1}else
 {p with j:=(Q6 m p.i p.perturb).1,more:=Py m (Q6 m p.i p.perturb).1 - (Q6 m p.i p.perturb).1,i:=(Q6 m p.i p.perturb).1,perturb:=(Q6 m p.i p.perturb).2}
def cb(m:Nat):Nat->Og->Og
 |0,p=>p
 |k+1,p=>cb m k<|mh m p
theorem cM(m:Nat):∀a b p,cb m (a+b) p=cb m b (cb m a p)
 |0,b,p=>by rw[Mv];rfl
 |a+1,b,p=>by
  rw[TY];exact cM m a b<|mh m p
def start(m:Nat)(h:Int):Og:={j:=bits h % (m+1),more:=Py m (bits h % (m+1)) - bits h % (m+1),i:=bits h % (m+1),perturb:=bits h,dummy:=IV}
theorem wK(t:SetTable)(h:Int):t.probeStart h=start t.mask h:=rfl
structure uH (m:Nat)(p:Og):Prop where
 i:p.i<=m
 per:p.perturb < 2 ^ 64
 j:p.j+p.more=Py m p.i
 ij:p.i<=p.j
 dum:p.dummy=IV
theorem dU(h:i<=m):Py m i<=m/\i<=Py m i/\Py m i<=i+9:=by
 unfold Py;split<;>lia
theorem zR(h:Int):bits h < 2 ^ 64:=by
 unfold bits;have:=Kj h (show(0:Int) < 2 ^ 64 by decide);have:=Kz h (show(2 ^ 64:Int)≠0 by decide);lia
theorem fN(m:Nat)(h:Int):uH m (start m h):=by
 have hi:bits h % (m+1)<=m:=QC<|Wx _<|UH _;have:=dU hi;exact⟨hi,zR h,by show bits h % (m+1)+(Py m (bits h % (m+1)) - bits h % (m+1))=_;simp only [start];lia,IX _,rfl⟩
theorem nK(m i p:Nat):(Q6 m i p).1<=m:=QC<|Wx _<|UH _
theorem wL(h:uH m p):uH m (mh m p):=by
 obtain⟨h1,h2,h3,h4,h5⟩:=h;unfold mh;by_cases c:p.more > 0
 ·rw[JF c];exact⟨h1,h2,by simp only;lia,by simp only;lia,h5⟩
 ·rw[JD c];have hi:=nK m p.i p.perturb;have:=dU hi;refine⟨hi,?_,by simp only;lia,IX _,h5⟩;exact M1 (Nat.div_le_self _ _) h2
theorem iG:∀(k:Nat) {p:Og},uH m p->uH m (cb m k p)
 |0,_,h=>h
 |k+1,_,h=>iG k<|wL h
theorem HQ(h:uH m p):p.j<=m:=by
 have:=(dU h.i).1;have:=h.j;lia
theorem jM:∀(n:Nat) {p:Og},uH m p->p.more=n->∃k,k=n+1/\(cb m k p).i=(Q6 m p.i p.perturb).1/\(cb m k p).perturb=(Q6 m p.i p.perturb).2/\(cb m k p).j=(Q6 m p.i p.perturb).1/\∀l,l<=n->(cb m l p).j=p.j+l
 |0,p,h,hn=>by
  exists 1,rfl;have e:mh m p={p with j:=(Q6 m p.i p.perturb).1,more:=Py m (Q6 m p.i p.perturb).1 - (Q6 m p.i p.perturb).1,i:=(Q6 m p.i p.perturb).1,perturb:=(Q6 m p.i p.perturb).2}:=by
   unfold mh;rw[JD<|by lia]
  show(mh m p).i=_/\(mh m p).perturb=_/\(mh m p).j=_/\_
  rw[e];refine⟨rfl,rfl,rfl,λl hl=>?_⟩;have:l=0:=by lia
  subst this;rfl
 |n+1,p,h,hn=>by
  have e:mh m p={p with j:=p.j+1,more:=p.more - 1}:=by
   unfold mh;rw[JF<|by lia]
  obtain⟨k,hk,a1,a2,a3,a4⟩:=jM n (p:=mh m p) (wL h) (by rw[e];simp only;lia);refine⟨k+1,by lia,?_,?_,?_,λl hl=>?_⟩
  ·show(cb m k<|mh m p).i=_
   rw[a1,e]
  ·show(cb m k<|mh m p).perturb=_
   rw[a2,e]
  ·show(cb m k<|mh m p).j=_
   rw[a3,e]
  ·cases l with
   |zero=>rfl
   |succ l=>
    show(cb m l<|mh m p).j=_
    rw[a4 l (by lia),e];simp only;lia
def dL(m:Nat):Nat->Nat×Nat->Nat×Nat
 |0,q=>q
 |k+1,q=>dL m k<|Q6 m q.1 q.2
theorem sq(h:uH m p):p.more<=9:=by
 have:=dU h.i;have:=h.j;have:=h.ij;lia
theorem pk:∀(n:Nat) {p:Og},uH m p->∃k,k<=10*(n+1)/\(cb m k p).j=(dL m (n+1) (p.i,p.perturb)).1/\(cb m k p).i=(dL m (n+1) (p.i,p.perturb)).1/\(cb m k p).perturb=(dL m (n+1) (p.i,p.perturb)).2
 |0,p,h=>by
  obtain⟨k,hk,a1,a2,a3,_⟩:=jM p.more h rfl;have:=sq h;exact⟨k,by lia,a3,a1,a2⟩
 |n+1,p,h=>by
  obtain⟨k,hk,a1,a2,a3,_⟩:=jM p.more h rfl;have:=sq h;obtain⟨k2,hk2,b1,b2,b3⟩:=pk n (p:=cb m k p)<|iG k h;rw[a1,a2]at b1 b2 b3;refine⟨k+k2,by lia,?_,?_,?_⟩
  ·rw[cM];exact b1
  ·rw[cM];exact b2
  ·rw[cM];exact b3
theorem mj(m:Nat):∀a b q,dL m (a+b) q=dL m b (dL m a q)
 |0,b,q=>by rw[Mv];rfl
 |a+1,b,q=>by
  rw[TY];exact mj m a b _
theorem ml(m:Nat):∀a q,(dL m a q).2=q.2 / 32 ^ a
 |0,q=>by simp [dL]
 |a+1,q=>by
  show(dL m a<|Q6 m q.1 q.2).2=_
  rw[ml m a];show q.2 / 32 / 32 ^ a=_
  rw[Nat.div_div_eq_div_mul,X9,Nat.mul_comm]
theorem pq(m:Nat):∀a q,q.1<=m->(dL m a q).1<=m
 |0,_,h=>h
 |a+1,q,h=>pq m a _<|nK m _ _
def EM(m:Nat):Nat->Nat->Nat
 |0,i=>i
 |k+1,i=>EM m k<|(i*5+1) % (m+1)
theorem kE(m:Nat):∀a i,(dL m a (i,0)).1=EM m a i
 |0,_=>rfl
 |a+1,i=>by
  show(dL m a<|Q6 m i 0).1=EM m a ((i*5+1) % (m+1))
  rw[<-kE m a];rfl
theorem HR:∀i,i < 8->∀e,e < 8->∃k,k < 8/\EM 7 k i=e:=by decide+kernel
theorem FN:∀i,i < 32->∀e,e < 32->∃k,k < 32/\EM 31 k i=e:=by decide+kernel
theorem mn(hm:m=7\/m=31)(h:uH m p)(he:e<=m):(∃n,13<=n+1/\n+1<=m+13/\(dL m (n+1) (p.i,p.perturb)).1=e):=by
 have e0:dL m 13 (p.i,p.perturb)=((dL m 13 (p.i,p.perturb)).1,0):=by
  refine Sw rfl ?_;rw[ml];show p.perturb / 32 ^ 13=0
  have:=h.per;exact Nat.div_eq_of_lt (Ki this<|by decide)
 have hl:=pq m 13 (p.i,p.perturb) h.i;have key:∃k,k < m+1/\EM m k (dL m 13 (p.i,p.perturb)).1=e:=by
  obtain rfl|rfl:=hm
  ·exact HR _ (by lia) _ (by lia)
  ·exact FN _ (by lia) _ (by lia)
 obtain⟨k,hk,ek⟩:=key;refine⟨12+k,by lia,by lia,?_⟩;rw[show 12+k+1=13+k by lia,mj,e0,kE];exact ek
theorem jt(hm:m=7\/m=31)(h:uH m p)(he:e<=m):∃k,k < 10*Wp m/\(cb m k p).j=e:=by
 obtain⟨n,h1,h2,h3⟩:=mn hm h he;obtain⟨k,hk,a1,_⟩:=pk n h;refine⟨k,?_,by rw[a1,h3]⟩;unfold Wp;lia
theorem su(T:vw t)(hashAt:Nat->Int)(h:Int):∀k fuel p,k < fuel->jr t (cb t.mask k p).j=IU->∃r,Q5 t hashAt h fuel p=B' r
 |0,0,_,hk,_=>absurd hk (by lia)
 |_+1,0,_,hk,_=>absurd hk (by lia)
 |0,fuel+1,p,_,ho=>by
  obtain⟨i,hi,_⟩|⟨_,hs⟩:=kC T p.j
  ·have:jr t p.j=true:=occ_iff.mpr ⟨i,hi⟩;rw[show(cb t.mask 0 p).j=p.j from rfl,this]at ho;cases ho
  ·exact⟨.empty p.j p.dummy,by unfold Q5;rw[hs]⟩
 |k+1,fuel+1,p,hk,ho=>by
  obtain⟨i,hi,hs⟩|⟨_,hs⟩:=kC T p.j
  ·by_cases c:(hashAt i == h)=IS
   ·exact⟨.candidate p.j i<|t.advance p,by unfold Q5;rw[hs];simp only [c,On]⟩
   ·obtain⟨r,hr⟩:=su T hashAt h k fuel (mh t.mask p) (by lia) ho;exists r;unfold Q5;rw[hs];simp only [c,MX,JK];exact hr
  ·exact⟨.empty p.j p.dummy,by unfold Q5;rw[hs]⟩
theorem sA(T:vw t)(hashAt:Nat->Int)(h:Int):∀fuel p r,p.dummy=IV->Q5 t hashAt h fuel p=B' r->
  ∃k,(∀l,l < k->∃i,t.place[i]? =B' (cb t.mask l p).j/\hashAt i≠h)/\
   ((r=.empty (cb t.mask k p).j IV/\jr t (cb t.mask k p).j=IU)\/∃i,t.place[i]? =B' (cb t.mask k p).j/\hashAt i=h/\r=.candidate (cb t.mask k p).j i (cb t.mask (k+1) p))
 |0,p,r,_,e=>by cases e
 |fuel+1,p,r,hd,e=>by
  unfold Q5 at e;obtain⟨i,hi,hs⟩|⟨ho,hs⟩:=kC T p.j
  ·rw[hs]at e;by_cases c:(hashAt i == h)=IS
   ·simp only [c,On]at e;have e':=Jo e;exact⟨0,λl hl=>absurd hl (by lia),.inr ⟨i,hi,by simpa using c,e'.symm⟩⟩
   ·simp only [c,MX,JK]at e;have ZV:(mh t.mask p).dummy=none:=by
     unfold mh
     split<;>exact hd
    obtain⟨k,h1,h2⟩:=sA T hashAt h fuel (mh t.mask p) r ZV e;refine⟨k+1,λl hl=>?_,h2⟩;cases l with
    |zero=>exact⟨i,hi,by simpa using c⟩
    |succ l=>exact h1 l (by lia)
  ·rw[hs]at e;have e':=Jo e;exact⟨0,λl hl=>absurd hl (by lia),.inl ⟨by rw[<-e',hd];rfl,ho⟩⟩
theorem qJ(T:vw t)(hashAt:Nat->Int)(h:Int)(hp:uH t.mask p):
  ∃r k,t.probe hashAt h p=B' r/\(∀l,l < k->∃i,t.place[i]? =B' (cb t.mask l p).j/\hashAt i≠h)/\
   ((r=.empty (cb t.mask k p).j IV/\jr t (cb t.mask k p).j=IU)\/∃i,t.place[i]? =B' (cb t.mask k p).j/\hashAt i=h/\r=.candidate (cb t.mask k p).j i (cb t.mask (k+1) p)):=by
 obtain⟨e,he,ho⟩:=me T;obtain⟨k,hk,ek⟩:=jt T.mask hp he;obtain⟨r,hr⟩:=su T hashAt h k _ p hk (by rw[ek];exact ho);obtain⟨k2,h1,h2⟩:=sA T hashAt h _ p r hp.dum hr;exact⟨r,k2,hr,h1,h2⟩
def Path(oc:Nat->Jm)(m:Nat)(h:Int)(j:Nat):Prop:=∃k,(cb m k<|start m h).j=j/\∀l,l < k->oc (cb m l<|start m h).j=IS
theorem Path.mono(hp:Path oc m h j)(f:∀e,oc e=IS->oc' e=IS):Path oc' m h j:=by
 obtain⟨k,h1,h2⟩:=hp;exact⟨k,h1,λl hl=>f _<|h2 l hl⟩
theorem ins_get{α:Type}(xs:J4 α)(hp:p<=xs.size)(x:α)(i:Nat):(MA xs p x)[i]? =if i < p then xs[i]? else if i=p then B' x else xs[i - 1]?:=by
 rw[<-JQ,SetTable.toList_insertAt];have hl:(xs.toList.take p).length=p:=by rw[JN,JE];lia
 by_cases h:i < p
 ·rw[JF h];simp [h,Po,hl,List.getElem?_take]
  try lia
 ·rw[JD h];by_cases e:i=p
  ·subst e;rw[JF rfl];simp [Po,hl]
   try lia
  ·rw[JD e];have e1:i - p=(i - 1 - p)+1:=by lia
   simp [Po,hl,h,e1]
   try (congr 1;lia)
theorem iH{α:Type}(xs:J4 α)(hp:p<=xs.size)(x:α):(MA xs p x).size=xs.size+1:=by
 have:=(OO xs p x).length_eq;simpa using this
theorem up_iff:Up xs↔∀i k a b:Nat,i < k->xs[i]? =B' a->xs[k]? =B' b->a < b:=by
 constructor
 ·intro u i k a b hik ha hb;obtain⟨hi,ea⟩:=J9.mp ha;obtain⟨hk,eb⟩:=J9.mp hb;have:=u i k hik hk;simp [Pb,hi,hk,ea,eb]at this;exact this
 ·intro f i k hik hk;have hi:i < xs.size:=by lia
  have:=f i k xs[i] xs[k] hik (Kf hi)<|Kf hk;simp [Pb,hi,hk];exact this
theorem getD_some{xs:J4 Nat}{i a:Nat}(h:xs[i]? =B' a):xs.getD i 0=a/\i < xs.size:=by
 obtain⟨hi,ea⟩:=J9.mp h;exact⟨by simp [Pb,hi,ea],hi⟩
theorem DJ(T:vw t)(ho:jr t j=IU):Up (MA t.place (LZ t.place j) j):=by
 obtain⟨b1,b2,b3⟩:=dR T.up j;have M6:∀i a,t.place[i]? =B' a->(i < LZ t.place j->a < j)/\(LZ t.place j<=i->j < a):=λi a ha=>by
  obtain⟨e,hi⟩:=getD_some ha;refine⟨λc=>by have:=b2 i c;lia,λc=>?_⟩;have:=b3 i c hi;have S8:a≠j:=λz=>by
   have:=occ_iff.mpr ⟨i,z▸ha⟩;rw[ho]at this;cases this
  lia
 have u:=up_iff.mp T.up;refine up_iff.mpr λi k a b hik ha hb=>?_;rw[ins_get _ b1]at ha hb;by_cases c1:i < LZ t.place j
 ·rw[JF c1]at ha;by_cases c2:k < LZ t.place j
  ·rw[JF c2]at hb;exact u i k a b hik ha hb
  ·rw[JD c2]at hb;by_cases c3:k=LZ t.place j
   ·rw[JF c3]at hb;have:=Jo hb;have:=(M6 i a ha).1 c1;lia
   ·rw[JD c3]at hb;exact u i (k - 1) a b (by lia) ha hb
 ·rw[JD c1]at ha;have c2:¬k < LZ t.place j:=by lia
  rw[JD c2]at hb;have c3:¬k=LZ t.place j:=by lia
  rw[JD c3]at hb;by_cases c4:i=LZ t.place j
  ·rw[JF c4]at ha;have:=Jo ha;have:=(M6 (k - 1) b hb).2 (by lia);lia
  ·rw[JD c4]at ha;exact u (i - 1) (k - 1) a b (by lia) ha hb
theorem zT(T:vw t)(ho:jr t j=IU)(hj:j<=t.mask)(hr:t.place.size+1<=t.mask):
  t.put j=({t with place:=MA t.place (LZ t.place j) j},LZ t.place j)/\vw {t with place:=MA t.place (LZ t.place j) j}/\(∀e,jr {t with place:=MA t.place (LZ t.place j) j} e=IS↔jr t e=IS\/e=j):=by
 obtain⟨b1,b2,b3⟩:=dR T.up j;have UW:∀e,e∈MA t.place (LZ t.place j) j↔e∈t.place\/e=j:=λe=>by
  rw[<-Nc,(OO t.place _ j).mem_iff];simp
 refine⟨?_,⟨T.mask,T.dum,DJ T ho,λe he=>?_,?_⟩,λe=>?_⟩
 ·unfold put;simp only [T.dum,sm,MX,JK]
 ·obtain w|rfl:=(UW e).mp he
  ·exact T.le e w
  ·exact hj
 ·show(MA t.place (LZ t.place j) j).size<=t.mask
  rw[iH _ b1];exact hr
 ·unfold jr;rw[MP,MP];exact UW e
theorem kF:∀(l1 l2:IG Nat),l1.Nodup->l2.Nodup->(∀x,x∈l1↔x∈l2)->l1.Perm l2
 |[],l2,_,_,h=>by
  cases l2 with
  |nil=>exact .nil
  |cons a l=>exact absurd ((h a).mpr Jp) (by simp)
 |a::l1,l2,h1,h2,h=>by
  have ha:a∈l2:=(h a).mp Jp;refine aal (.cons a ?_) (List.perm_cons_erase ha).symm;obtain⟨n1,n2⟩:=LQ.mp h1;refine kF l1 (l2.erase a) n2 (h2.erase a) λx=>?_;rw[h2.mem_erase_iff];constructor
  ·intro hx;exact⟨λz=>n1<|z▸hx,(h x).mp<|Jk _ hx⟩
  ·rintro⟨z,hx⟩;obtain e|e:=JC.mp ((h x).mpr hx)
   ·exact absurd e z
   ·exact e
structure Own (m:Nat)(owner:J4 (IQ Nat))(js:IG Nat)(hs:IG Int):Prop where
 size:owner.size=m+1
 len:js.length=hs.length
 le:∀j∈js,j<=m
 at_:∀j q:Nat,owner[j]? =B' (B' q)↔js[q]? =B' j
 path:∀(q:Nat) (h:Int) (j:Nat),hs[q]? =B' h->js[q]? =B' j->Path (λe=>js.contains e) m h j
theorem Own.none_iff(O:Own m owner js hs)(he:e<=m):(owner.getD e<|B' 0).isNone=IS↔js.contains e=false:=by
 have M6:e < owner.size:=by rw[O.size];lia
 have e1:owner.getD e (B' 0)=owner[e]:=by simp [Pb,M6]
 have e2:owner[e]? =B' owner[e]:=Kf M6;rw[e1];cases c:owner[e]with
 |none=>
  rw[c]at e2;simp only [Qd,true_iff];cases d:js.contains e with
  |false=>rfl
  |true=>
   obtain⟨q,hq⟩:=Mn.mp<|JX.mp d;have:=(O.at_ e q).mpr hq;rw[e2]at this;cases this
 |some q=>
  rw[c]at e2;have:=(O.at_ e q).mp e2;have h9:js.contains e=true:=JX.mpr<|Ji this;rw[h9];simp
structure Hb (m:Nat)(p:Og):Prop where
 ok:uH m p
 ij:p.j=p.i
theorem run_next{m:Nat}{p:Og}(R:Hb m p):∃k,k=Py m p.i+1 - p.i/\Hb m (cb m k p)/\(cb m k p).i=(Q6 m p.i p.perturb).1/\(cb m k p).perturb=(Q6 m p.i p.perturb).2/\∀l,l < k->(cb m l p).j=p.i+l:=by
 obtain⟨k,hk,a1,a2,a3,a4⟩:=jM p.more R.ok rfl;have h3:=R.ok.j;have h4:=R.ij;have:=dU R.ok.i;refine⟨k,by lia,⟨iG k R.ok,by rw[a3,a1]⟩,a1,a2,λl hl=>?_⟩;rw[a4 l (by lia),h4]
theorem mq(O:Own m owner js hs):∀f p j,Hb m p->NB m owner f p.i p.perturb=B' j->
  ∃k,(cb m k p).j=j/\js.contains j=IU/\j<=m/\∀l,l < k->js.contains (cb m l p).j=IS
 |0,p,j,_,e=>by cases e
 |f+1,p,j,R,e=>by
  unfold NB at e;have hr:=dU R.ok.i;obtain⟨k0,hk0,R2,a1,a2,a3⟩:=run_next R;cases c:(KI<|Py m p.i+1 - p.i).find? (λk=>(owner.getD (p.i+k)<|B' 0).isNone)with
  |some k=>
   rw[c]at e;have e':p.i+k=j:=Jo e;obtain⟨c1,c2,c3⟩:=List.find?_range_eq_some.mp c;have c2':k < Py m p.i+1 - p.i:=Lu.mp c2;refine⟨k,by rw[a3 k (by lia),e'],?_,by lia,λl hl=>?_⟩
   ·rw[<-e'];exact(O.none_iff<|by lia).mp c1
   ·rw[a3 l<|by lia];have h8:=c3 l hl;cases d:js.contains (p.i+l)with
    |true=>rfl
    |false=>
     have h9:=(O.none_iff (e:=p.i+l)<|by lia).mpr d;rw[h9]at h8;exact absurd h8 (by decide)
  |none=>
   rw[c]at e;have e':NB m owner f (Q6 m p.i p.perturb).1 (Q6 m p.i p.perturb).2=B' j:=e;rw[<-a1,<-a2]at e';obtain⟨k,h1,h2,h3,h4⟩:=mq O f (cb m k0 p) j R2 e';refine⟨k0+k,by rw[cM];exact h1,h2,h3,λl hl=>?_⟩;obtain g|g:=Mw l k0
   ·rw[a3 l g];have:=Qe.mp c l (Lu.mpr<|by lia);cases d:js.contains (p.i+l)with
    |true=>rfl
    |false=>exact absurd ((O.none_iff (e:=p.i+l)<|by lia).mpr d) this
   ·have:=h4 (l - k0) (by lia);rw[<-cM,show k0+(l - k0)=l by lia]at this;exact this
theorem sB(O:Own m owner js hs)(hm:e<=m)(he:js.contains e=IU):∀n f i per,i<=m->n < f->(dL m n (i,per)).1=e->∃j,NB m owner f i per=B' j
 |n,0,_,_,_,hn,_=>absurd hn (by lia)
 |n,f+1,i,per,hi,hn,hl=>by
  unfold NB;have hr:=dU hi;cases c:(KI<|Py m i+1 - i).find? (λk=>(owner.getD (i+k)<|B' 0).isNone)with
  |some k=>exact⟨i+k,rfl⟩
  |none=>
   cases n with
   |zero=>
    have e0:i=e:=hl;have:=Qe.mp c 0 (Lu.mpr<|by lia);rw[PY,e0]at this;exact absurd ((O.none_iff hm).mpr he) this
   |succ n=>exact sB O hm he n f _ _ (nK m i per) (by lia) hl
def jN(m:Nat)(M7:IQ (J4 (IQ Nat)×Nat))(h:Int):IQ (J4 (IQ Nat)×Nat):=do
 let (owner,k) <-M7
 let j <-NB m owner (Wp m) (bits h % (m+1)) (bits h)
 pure (owner.setIfInBounds j<|B' k,k+1)
theorem uI(m:Nat)(h:Int):Hb m (start m h):=⟨fN m h,rfl⟩
theorem wM(hm:m=7\/m=31)(O:Own m owner js hs)(h:Int)(hr:js.length<=m):
  ∃V1 js',jN m (B' (owner,hs.length)) h=B' (V1,(hs++[h]).length)/\Own m V1 js' (hs++[h]):=by
 obtain⟨e,he,ho⟩:∃e,e<=m/\js.contains e=false:=by
  by_cases c:∃e,e<=m/\js.contains e=IU
  ·exact c
  ·exfalso;have:=jc (m+1) js λe he=>by
    cases d:js.contains e with
    |true=>exact JX.mp d
    |false=>exact absurd ⟨e,by lia,d⟩ c
   lia
 obtain⟨n,n1,n2,n3⟩:=mn hm (fN m h) he;obtain⟨j,hj⟩:=sB O he ho (n+1) (Wp m) (bits h % (m+1)) (bits h) (fN m h).i (by unfold Wp;lia) n3;obtain⟨k,h1,h2,h3,h4⟩:=mq O (Wp m) (start m h) j (uI m h) hj;have hjl:j < owner.size:=by rw[O.size];lia
 have hnj:∀q,¬owner[j]? =B' (B' q):=λq z=>by
  have:=JX.mpr<|Ji<|(O.at_ j q).mp z;rw[h2]at this;cases this
 refine⟨owner.setIfInBounds j<|B' hs.length,js++[j],?_,⟨?_,?_,?_,?_,?_⟩⟩
 ·unfold jN;show(do
   let j <-NB m owner (Wp m) (bits h % (m+1)) (bits h)
   pure (owner.setIfInBounds j<|B' hs.length,hs.length+1))=_
  rw[hj,I_];rfl
 ·rw[Array.size_setIfInBounds];exact O.size
 ·rw[I_,I_,O.len];rfl
 ·intro a ha;obtain w|w:=JA.mp ha
  ·exact O.le a w
  ·rw[Jf.mp w];exact h3
 ·intro a q;rw[Array.getElem?_setIfInBounds];by_cases c:j=a
  ·subst c;rw[JF rfl,JF hjl];constructor
   ·intro z;have:hs.length=q:=by simpa using z
    subst this;rw[<-O.len,J0<|IX _,MM];rfl
   ·intro z;obtain g|g|g:=MD q js.length
    ·rw[JP g]at z;exact absurd ((O.at_ j q).mpr z)<|hnj q
    ·rw[g,O.len]
    ·rw[KG<|by rw[I_,JW];lia]at z;cases z
  ·rw[JD c,O.at_];constructor
   ·intro z;have:q < js.length:=(IY.mp z).1;rw[JP this];exact z
   ·intro z;obtain g|g|g:=MD q js.length
    ·rw[JP g]at z;exact z
    ·rw[g,J0<|IX _,MM]at z;have:j=a:=by simpa using z
     exact absurd this c
    ·rw[KG<|by rw[I_,JW];lia]at z;cases z
 ·have up:∀e,js.contains e=IS->(js++[j]).contains e=true:=λe he=>by
   rw[JX]at he ⊢;exact Na _ he
  intro q h' a hh ha;obtain g|g|g:=MD q js.length
  ·rw[JP g]at ha;rw[JP<|by rw[<-O.len];exact g]at hh;exact(O.path q h' a hh ha).mono up
  ·rw[g,J0<|IX _,MM]at ha;rw[g,O.len,J0<|IX _,MM]at hh;have e1:j=a:=by simpa using ha
   have e2:h=h':=by simpa using hh
   subst e1 e2;exact⟨k,h1,λl hl=>up _<|h4 l hl⟩
  ·rw[KG<|by rw[I_,JW];lia]at ha;cases ha
theorem pr(hm:m=7\/m=31):∀Vv hs owner js,Own m owner js hs->hs.length+Vv.length<=m+1->
  ∃V1 js',Vv.foldl (jN m) (B' (owner,hs.length))=B' (V1,(hs++Vv).length)/\Own m V1 js' (hs++Vv)
 |[],hs,owner,js,O,_=>⟨owner,js,by rw[Kg];rfl,by rw[Kg];exact O⟩
 |h::r,hs,owner,js,O,hl=>by
  obtain⟨o1,j1,e1,O1⟩:=wM hm O h (by rw[O.len];simp at hl;lia);obtain⟨o2,j2,e2,O2⟩:=pr hm r (hs++[h]) o1 j1 O1 (by simp at hl ⊢;lia);refine⟨o2,j2,?_,?_⟩
  ·rw[NA,e1,e2];simp
  ·rw[show hs++h::r=hs++[h]++r by simp];exact O2
theorem zU(m:Nat):Own m (VS (m+1) IV) [] [] where
 size:=by simp
 len:=rfl
 le:=λ_ h=>nomatch h
 at_:=λj q=>by
  simp [Array.getElem?_replicate]
 path:=λq h j hh=>by simp at hh
theorem qK(hm:m=7\/m=31)(Ot:J4 Int)(hl:Ot.size<=m+1):∃owner js,layClean m Ot=B' owner/\Own m owner js Ot.toList:=by
 obtain⟨o,j,e,O⟩:=pr hm Ot.toList [] _ [] (zU m) (by simpa using hl);refine⟨o,j,?_,by simpa using O⟩;unfold layClean;rw[<-Array.foldl_toList];show Option.map _ (Ot.toList.foldl (jN m)<|B' (VS (m+1) IV,([]:IG Int).length))=_
 rw[e];rfl
theorem uJ(hm:m=7\/m=31)(finger moves:Nat)(led plain:Jm)(Ot:J4 Int)(hl:Ot.size<=m):
  ∃t' Od,laid m finger moves led plain Ot=B' (t',Od)/\t'.mask=m/\t'.led=led/\t'.plain=plain/\vw t'/\t'.place.size=Ot.size/\Od.toList.Perm (KI Ot.size)/\
   ∀(i q j:Nat) (h:Int),Od[i]? =B' q->t'.place[i]? =B' j->Ot[q]? =B' h->Path (jr t') m h j:=by
 obtain⟨owner,js,e,O⟩:=qK hm Ot (by lia);have hjl:js.length=Ot.size:=by rw[O.len];simp
 let f:Nat->IQ (Nat×Nat):=λj=>(owner.getD j IV).map (j,·)
 let L:IG (Nat×Nat):=(KI<|m+1).filterMap f
 have hf:∀j b,f j=B' b↔j=b.1/\owner[j]? =B' (B' b.2):=λj b=>by
  show(owner.getD j IV).map (j,·)=B' b↔_
  have e1:owner.getD j IV=(owner[j]?).getD none:=by simp [Array.getD_eq_getD_getElem?]
  rw[e1];cases c:owner[j]? with
  |none=>simp
  |some o=>
   cases o with
   |none=>simp
   |some q=>
    simp;constructor
    ·rintro rfl;exact⟨rfl,rfl⟩
    ·rintro⟨a,b'⟩;exact Sw a b'
 have mem:∀b:Nat×Nat,b∈L↔js[b.2]? =B' b.1:=λb=>by
  show b∈(KI<|m+1).filterMap f↔_
  rw[JZ];constructor
  ·rintro⟨j,_,hj⟩;obtain⟨rfl,h2⟩:=(hf j b).mp hj;exact(O.at_ _ _).mp h2
  ·intro h;have hj:=O.le b.1<|Ji h;exact⟨b.1,Lu.mpr (by lia),(hf b.1 b).mpr ⟨rfl,(O.at_ _ _).mpr h⟩⟩
 have pw:L.Pairwise (λa b=>a.1 < b.1):=by
  refine List.pairwise_filterMap.mpr<|ZJ (λ{a b} hab x hx y hy=>?_) List.pairwise_lt_range;have e1:=((hf a x).mp hx).1;have e2:=((hf b y).mp hy).1;lia
 have nd:(L.map (·.2)).Nodup:=by
  refine Kw.mpr<|Om (λ{a b} ha hb hab=>?_) pw;intro z;have h1:=(mem a).mp ha;have h2:=(mem b).mp hb;rw[z,h2]at h1;have:=Jo h1;lia
 have pm:(L.map (·.2)).Perm (KI Ot.size):=by
  refine kF _ _ nd List.nodup_range λx=>?_;rw[J1,Lu];constructor
  ·rintro⟨b,hb,rfl⟩;have:=(IY.mp<|(mem b).mp hb).1;lia
  ·intro hx;exact⟨(js[x],x),(mem _).mpr (IZ<|by lia),rfl⟩
 have len:L.length=Ot.size:=by
  have:=pm.length_eq;simpa using this
 have hoc:∀e,js.contains e=IS->(L.map (·.1)).toArray.contains e=true:=λe he=>by
  rw[JX]at he;obtain⟨q,hq⟩:=Mn.mp he;rw[MP,Ve,J1];exact⟨(e,q),(mem _).mpr hq,rfl⟩
 refine⟨{mask:=m,place:=(L.map (·.1)).toArray,dummies:=#[],finger,led,moves,plain},(L.map (·.2)).toArray,?_,rfl,rfl,rfl,⟨hm,rfl,up_iff.mpr λi k a b hik ha hb=>?_,λj hj=>?_,?_⟩,?_,pm,λi q j h hq hj hh=>?_⟩
 ·unfold laid;rw[e];rfl
 ·simp only [R1,Jx]at ha hb;obtain⟨x,hx,rfl⟩:=KP.mp ha;obtain⟨y,hy,rfl⟩:=KP.mp hb;obtain⟨h1,rfl⟩:=IY.mp hx;obtain⟨h2,rfl⟩:=IY.mp hy;exact Mj.mp pw i k h1 h2 hik
 ·simp only [Ve,J1]at hj;obtain⟨b,hb,rfl⟩:=hj;exact O.le _<|Ji<|(mem b).mp hb
 ·simp only [Jn,IR];lia
 ·simp only [Jn,IR];exact len
 ·simp only [R1,Jx]at hq hj;obtain⟨x,hx,rfl⟩:=KP.mp hq;obtain⟨y,hy,rfl⟩:=KP.mp hj;rw[hx]at hy;obtain rfl:=Jo hy;exact(O.path x.2 h x.1 (by rw[JQ];exact hh)<|(mem x).mp<|Ji hx).mono hoc
structure PT (t:SetTable)(hs:IG Int):Prop where
 tab:vw t
 plain:t.plain=IS
 len:t.place.size=hs.length
 reach:∀(i:Nat) (h:Int) (j:Nat),hs[i]? =B' h->t.place[i]? =B' j->Path (jr t) t.mask h j
structure TT (t:SetTable)(hs:IG Int):Prop extends PT t hs where
 small:t.mask=7->hs.length<=4
 most:hs.length<=18
theorem zX(T:PT t hs):t.fits hs.length=true:=by
 unfold SetTable.fits;have:=T.tab.room;have e:t.fill<=t.mask:=by
  unfold fill;rw[T.tab.dum];simpa using this
 simp [T.len,e]
theorem wN(led:Jm):TT (.fresh 0 0 led) [] where
 tab:=⟨.inl rfl,rfl,λi k hik hk=>by simp [Sf]at hk,λj hj=>by simp [Sf]at hj,by simp [Sf]⟩
 plain:=rfl
 len:=rfl
 reach:=λi h j hh=>by simp at hh
 small:=λ_=>by simp
 most:=by simp
abbrev eQ(es:J4 (Int×IH)):IG Int:=es.toList.map (·.1)
theorem wO(es:J4 (Int×IH))(hp:p<=es.size)(x:Int×IH)(i:Nat):(eQ<|MA es p x)[i]? =if i < p then(eQ es)[i]? else if i=p then B' x.1 else(eQ es)[i - 1]?:=by
 unfold eQ;rw[Jx,JQ,ins_get es hp];by_cases c:i < p
 ·simp [c]
 ·by_cases d:i=p
  ·simp [d]
  ·simp [c,d]
theorem uK(T:TT t (eQ es))(hn:es.size<=17){x:IH}(ho:jr t j=IU)(hj:j<=t.mask)(hp:Path (jr t) t.mask h j):
  t.put j=({t with place:=MA t.place (LZ t.place j) j},LZ t.place j)/\PT {t with place:=MA t.place (LZ t.place j) j} (eQ<|MA es (LZ t.place j) (h,x))/\(MA es (LZ t.place j) (h,x)).size=es.size+1/\LZ t.place j<=es.size:=by
 have Zx:t.place.size=es.size:=by rw[T.len];simp
 obtain⟨b1,b2,b3⟩:=dR T.tab.up j;have hb:LZ t.place j<=es.size:=by lia
 have hr:t.place.size+1<=t.mask:=by
  obtain e|e:=T.tab.mask
  ·have:=T.small e;simp at this;lia
  ·lia
 obtain⟨p1,p2,p3⟩:=zT T.tab ho hj hr;have up:∀e,jr t e=IS->jr {t with place:=MA t.place (LZ t.place j) j} e=true:=λe he=>(p3 e).mpr<|.inl he;refine⟨p1,⟨p2,T.plain,?_,λi h' a hh ha=>?_⟩,iH _ hb _,hb⟩
 ·show(MA t.place (LZ t.place j) j).size=_
  rw[iH _ b1,Zx];simp [iH _ hb]
 ·rw[wO _ hb]at hh;have ha':(MA t.place (LZ t.place j) j)[i]? =B' a:=ha;rw[ins_get _ b1]at ha';by_cases c:i < LZ t.place j
  ·rw[JF c]at hh ha';exact(T.reach i h' a hh ha').mono up
  ·rw[JD c]at hh ha';by_cases d:i=LZ t.place j
   ·rw[JF d]at hh ha';cases hh;cases ha';exact hp.mono up
   ·rw[JD d]at hh ha';exact(T.reach (i - 1) h' a hh ha').mono up
theorem wP{α:Type}(es:J4 α):∀(l:IG Nat),(∀q∈l,q < es.size)->∀i:Nat,(l.filterMap λq=>es[q]?)[i]? =(l[i]?).bind λq=>es[q]?
 |[],_,i=>by simp
 |q::l,h,i=>by
  have hq:=h q Jp;rw[Nj,Kf hq];cases i with
  |zero=>simp [hq]
  |succ i=>simpa using wP es l (λa ha=>h a<|Jk _ ha) i
theorem qL(T:PT t (eQ es))(hn:es.size=5):
  ∃t' Od,t.relaid (es.map (·.1)) (grown es.size)=B' (t',Od)/\t'.led=t.led/\Od.toList.Perm (KI es.size)/\(Od.filterMap (es[·]?)).toList.Perm es.toList/\(Od.filterMap (es[·]?)).size=es.size/\TT t' (eQ (Od.filterMap (es[·]?))):=by
 have e31:sizeAbove (grown es.size) - 1=31:=by rw[hn];decide
 obtain⟨t',Od,e,a1,a2,a3,a4,a5,a6,a7⟩:=uJ (m:=31) (.inr rfl) t.finger (t.movedTo 31) t.led t.plain (es.map (·.1)) (by simp;lia);rw[SI]at a5 a6;have YT:∀q∈Od.toList,q < es.size:=λq hq=>Lu.mp<|a6.mem_iff.mp hq;have af1:∀i,(Od.filterMap (es[·]?))[i]? =(Od[i]?).bind λq=>es[q]?:=λi=>by
  rw[<-JQ,RG,wP es _ YT,JQ]
 have Vj:(Od.filterMap (es[·]?)).toList.Perm es.toList:=by
  rw[RG];refine(a6.filterMap _).trans ?_;rw[filterMap_getElem?_range]
 have hsz:(Od.filterMap (es[·]?)).size=es.size:=by
  have:=Vj.length_eq
  rwa [JE,JE]at this
 have VW:(eQ (Od.filterMap (es[·]?))).length=es.size:=by
  unfold eQ;rw[IR,JE,hsz]
 refine⟨t',Od,?_,a2,a6,Vj,hsz,⟨⟨a4,a3.trans T.plain,?_,λi h j hh hj=>?_⟩,λz=>?_,?_⟩⟩
 ·unfold relaid;rw[e31];exact e
 ·rw[a5,VW]
 ·unfold eQ at hh;rw[Jx,JQ,af1]at hh;cases c:Od[i]? with
  |none=>rw[c]at hh;cases hh
  |some q=>
   rw[c]at hh;obtain⟨v,hv,rfl⟩:=KP.mp hh;rw[a1];refine a7 i q j v.1 c hj ?_;rw[Array.getElem?_map];have:es[q]? =B' v:=hv;rw[this];rfl
 ·rw[a1]at z;cases z
 ·rw[VW];lia
theorem wQ(T:PT t hs)(h:t.tooFull=IU)(hl:hs.length<=18):TT t hs:=by
 refine⟨T,λe=>?_,hl⟩;unfold tooFull fill at h;rw[T.tab.dum,T.len,e]at h;simp at h;lia
theorem zY(T:PT t hs)(h:t.tooFull=IS)(hl:hs.length<=18)(h7:t.mask=7->hs.length<=5):hs.length=5:=by
 unfold tooFull fill at h;rw[T.tab.dum,T.len]at h;simp at h;obtain e|e:=T.tab.mask
 ·rw[e]at h;have:=h7 e;lia
 ·rw[e]at h;lia
end TB
namespace SW
open PySem PySem.SetTable TB
def bx(w:Jv):Jm:=w.params.followText "set-order"
def SetAt(w:Jv)(h:JM)(S:IL)(es:J4 (Int×IH))(ep:Nat):Prop:=
 ∃o t,h.get? S=B' o/\o.ExactSet/\o.data=.set es ep t/\TT t (eQ es)/\t.led=!bx w
theorem SetAt.typeIs{w:Jv}{s:IM}{S:IL}{es:J4 (Int×IH)}{ep:Nat}(h:SetAt w s.heap S es ep):s.TypeIs (.ref S) "set":=let ⟨o,_,ho,hc,_⟩:=h;⟨o,ho,hc.1⟩
theorem SetAt.keep{S:IL}(x:SetAt w h S es ep)(k:∀o,h.get? S=B' o->h'.get? S=B' o):SetAt w h' S es ep:=
 let ⟨o,t,ho,r⟩:=x;⟨o,t,k o ho,r⟩
theorem SetAt.lt{S:IL}(x:SetAt w h S es ep):S < h.objs.size:=let ⟨_,_,ho,_⟩:=x;Jh ho
theorem gK(es:J4 (Int×IH)):(eQ es).length=es.size:=by simp
theorem ft(T:PT t (eQ es)):t.fits es.size=true:=by
 have:=zX T
 rwa [gK]at this
theorem kI{α:Type}:∀(l:IG α) (i:Nat) (h:i < l.length),(l[i]::l.eraseIdx i).Perm l
 |[],_,h=>absurd h (by simp)
 |a::l,0,_=>by simp
 |a::l,i+1,h=>by
  have z:=kI l i (by simpa using h);simp only [List.getElem_cons_succ,List.eraseIdx_cons_succ];exact(aaN a _ _).trans<|z.cons a
theorem mt{α:Type}(next:Nat->Nat):∀(n k:Nat) (left:IG α) (out:J4 α),left.length=n->(Uo next n k left out).toList.Perm (out.toList++left)
 |0,k,left,out,h=>by
  have:left=[]:=Kt.mp h;subst this;unfold Uo;simp
 |n+1,k,left,out,h=>by
  have M6:next k % left.length < left.length:=Wx _ (by lia)
  unfold Uo;rw[IZ M6];refine(mt next n (k+1) _ _ (by rw[List.length_eraseIdx_of_lt M6];lia)).trans ?_;rw[NJ,JG];refine Yi _ ?_;exact kI left _ M6
def df(w:Jv)(S:IL)(es:J4 (Int×IH))(ep:Nat):J4 (Int×IH):=if bx w=IS then SN (w.params.setOrder S ep) es else es
theorem kJ(w:Jv)(S:IL)(es:J4 (Int×IH))(ep:Nat):(df w S es ep).toList.Perm es.toList:=by
 unfold df
 split
 ·have:=mt (w.params.setOrder S ep) es.toList.length 0 es.toList #[] rfl;simpa [SN]using this
 ·exact .refl _
theorem ik(w:Jv)(S:IL)(es:J4 (Int×IH))(ep:Nat):(df w S es ep).size=es.size:=by
 have:=(kJ w S es ep).length_eq;simpa using this
section
variable {prog:Jc}{w:Jv}{A:JV}{E:IH->IM->Prop}{s:IM}
theorem eS(h:Q (bx w) s):wpAny (Ju prog w) A setsByText Q E s:=by
 unfold setsByText;exact II<|Q2<|I0 h
def At(w:Jv)(t:SetTable)(slot i:Nat):Prop:=bx w=IS\/LZ t.place slot=i
theorem uL{S:IL}{es:J4 (Int×IH)}{ep slot i:Nat}{o:Obj}{t:SetTable}{x:Int×IH}{Q:IQ (IH×Nat)->IM->Prop}
  (ho:s.heap.get? S=B' o) (hd:o.data=.set es ep t) (T:TT t (eQ es)) (hl:t.led=!bx w) (ha:At w t slot i) (hx:(df w S es ep)[i]? =B' x)
  (hQ:∀P5,At w t P5 (i+1)->Q (B' (x.2,P5)) s):wpAny (Ju prog w) A (Uk S slot i ep) Q E s:=by
 have hf:=ft T.toPT;unfold Uk;refine II<|Lm ho hd hf ?_;refine II<|eS ?_;by_cases b:bx w=IS
 ·unfold df at hx;rw[JF b]at hx;rw[b]
  try dsimp only
  rw[JF rfl,JD<|by simp];refine II ?_;unfold setWalk;refine II<|Lm ho hd hf ?_;refine II<|eS ?_;rw[b]
  try dsimp only
  rw[JF rfl];refine II<|Q2<|I0<|I0 ?_;show Q (((SN (w.params.setOrder S ep) es)[i]?).map _) s
  rw[hx];exact hQ slot<|.inl b
 ·have b':bx w=false:=by simpa using b
  unfold df at hx;rw[JD b]at hx;rw[b']
  try dsimp only
  rw[JD<|by simp];have e:LZ t.place slot=i:=by
   obtain z|z:=ha
   ·exact absurd z b
   ·exact z
  have hi:i < es.size:=(J9.mp hx).1;have hp:i < t.place.size:=by rw[T.len,gK];exact hi
  have hj:t.place[i]? =B' t.place[i]:=Kf hp;show wpAny _ _ (if(!t.plain&&decide (es.size > 1))=IS then _ else _) _ _ _
  rw[T.plain];rw[JD<|by simp];show wpAny _ _ ((if(!t.led&&!es.isEmpty)=IS then _ else _) >>=_) _ _ _
  rw[hl,b'];rw[JD<|by simp];refine II<|I0<|I0 ?_;rw[e,hx,hj];exact hQ _<|.inr<|qH T.tab.up hj
theorem wR{S:IL}{es:J4 (Int×IH)}{ep slot:Nat}{o:Obj}{t:SetTable}{Q:IQ (IH×Nat)->IM->Prop}
  (ho:s.heap.get? S=B' o) (hd:o.data=.set es ep t) (T:TT t (eQ es)) (hl:t.led=!bx w) (ha:At w t slot es.size)
  (hQ:Q IV s):wpAny (Ju prog w) A (Uk S slot es.size ep) Q E s:=by
 have hf:=ft T.toPT;unfold Uk;refine II<|Lm ho hd hf ?_;refine II<|eS ?_;by_cases b:bx w=IS
 ·rw[b]
  try dsimp only
  rw[JF rfl,JD<|by simp];refine II ?_;unfold setWalk;refine II<|Lm ho hd hf ?_;refine II<|eS ?_;rw[b]
  try dsimp only
  rw[JF rfl];refine II<|Q2<|I0<|I0 ?_;have e:(SN (w.params.setOrder S ep) es)[es.size]? =none:=by
   have z:=ik w S es ep;unfold df at z;rw[JF b]at z;exact OV (by lia)
  show Q (((SN (w.params.setOrder S ep) es)[es.size]?).map _) s
  rw[e];exact hQ
 ·have b':bx w=false:=by simpa using b
  rw[b']
  try dsimp only
  rw[JD<|by simp];have e:LZ t.place slot=es.size:=by
   obtain z|z:=ha
   ·exact absurd z b
   ·exact z
  show wpAny _ _ (if(!t.plain&&decide (es.size > 1))=IS then _ else _) _ _ _
  rw[T.plain];rw[JD<|by simp];show wpAny _ _ ((if(!t.led&&!es.isEmpty)=IS then _ else _) >>=_) _ _ _
  rw[hl,b'];rw[JD<|by simp];refine II<|I0<|I0 ?_;rw[e,OV<|IX _];exact hQ
end
theorem sn_next:Slot "set_iterator" "__next__" "set_iterator.__next__":=.of (owner:="set_iterator") (n:="__next__") (by rw[RL,OX];kernel_rfl) (by decide+kernel) (by decide+kernel) (by decide+kernel) (by first|exact .inl (by decide+kernel)|exact .inr<|by decide+kernel) (by rw[R9];kernel_rfl)
theorem sC:Slot "set_iterator" "__iter__" "set_iterator.__iter__":=.of (owner:="set_iterator") (n:="__iter__") (by rw[RL,OX];kernel_rfl) (by decide+kernel) (by decide+kernel) (by decide+kernel) (by first|exact .inl (by decide+kernel)|exact .inr<|by decide+kernel) (by rw[R9];kernel_rfl)
theorem sD:Wf table "set_iterator.__next__"=B' Builtin.«set_iterator.__next__»:=U5 (by kernel_rfl)
theorem zZ:Wf table "set_iterator.__iter__"=B' Builtin.«dict_keyiterator.__iter__»:=We (id':="dict_keyiterator.__iter__") (by kernel_rfl) rfl (by decide+kernel) (by kernel_rfl)
theorem px:Wf table "set.__iter__"=B' Builtin.«frozenset.__iter__»:=We (id':="frozenset.__iter__") (by kernel_rfl) rfl (by decide+kernel) (by kernel_rfl)
theorem BP:Manifest.owners.lookup (String.ofList ['r','o','t','a','r','e','t','i','_','t','e','s'].reverse)=B' Manifest.sig_set_iterator:=by kernel_rfl
theorem sE(a:IH):Wl "set_iterator.__next__" ⟨[a],[]⟩:=by
 unfold Wl;rw[W0 (id:="set_iterator.__next__") (n:=['_','_','t','x','e','n','_','_']) (o:=['r','o','t','a','r','e','t','i','_','t','e','s']) (by kernel_rfl) BP];kernel_rfl
theorem z_(a:IH):Wl "set_iterator.__iter__" ⟨[a],[]⟩:=by
 unfold Wl;rw[W0 (id:="set_iterator.__iter__") (n:=['_','_','r','e','t','i','_','_']) (o:=['r','o','t','a','r','e','t','i','_','t','e','s']) (by kernel_rfl) BP];kernel_rfl
def IsIt(h:JM)(I S:IL)(slot i n ep:Nat):Prop:=∃o,h.get? I=B' o/\o.cls=.type "set_iterator"/\o.data=.fields #[.int slot 0,.int i 0,.ref S,.int n 0,.int ep 0]
theorem IsIt.typeIs{s:IM}{I S:IL}{slot i n ep:Nat}(h:IsIt s.heap I S slot i n ep):s.TypeIs (.ref I) "set_iterator":=let ⟨o,ho,hc,_⟩:=h;⟨o,ho,hc⟩
theorem IsIt.keep{h h':JM}{I S:IL}{slot i n ep:Nat}(x:IsIt h I S slot i n ep)(k:∀o,h.get? I=B' o->h'.get? I=B' o):IsIt h' I S slot i n ep:=let ⟨o,ho,r⟩:=x;⟨o,k o ho,r⟩
section
variable {prog:Jc}{w:Jv}{A:JV}{E:IH->IM->Prop}{s:IM}
theorem Aa{S:IL}{es:J4 (Int×IH)}{ep slot i:Nat}{o:Obj}{t:SetTable}{x:Int×IH}{Q:IQ IH->IM->Prop}(S8:S≠I)
  (XM:IsIt s.heap I S slot i es.size ep) (ho:s.heap.get? S=B' o) (hd:o.data=.set es ep t) (T:TT t (eQ es)) (hl:t.led=!bx w) (ha:At w t slot i) (hx:(df w S es ep)[i]? =B' x)
  (hQ:∀P5 h',At w t P5 (i+1)->IsIt h' I S P5 (i+1) es.size ep->M' I s.heap h'->Q (B' x.2) {s with heap:=h'}):
  wpAny (Ju prog w) A (Ou<|.ref I) Q E s:=by
 obtain⟨oi,hoi,hci,hdi⟩:=id XM;have hf:=ft T.toPT;unfold Ou;refine II<|QP<|Q1 (name:=IK "__next__") XM.typeIs sn_next<|Nn sn_next XM.typeIs sD ?_<|sE _;unfold Builtin.«set_iterator.__next__»;refine II<|I0 ?_;refine II<|V9 hoi hdi ?_;show wpAny _ _ (setEntries S >>=_) _ _ s
 refine II<|PF ho hd hf ?_;rw[JD<|by simp];show wpAny _ _ (Uk S slot i ep >>=_) _ _ s
 refine II<|uL ho hd T hl ha hx λP5 ha'=>?_;show wpAny _ _ (Wa (.ref I) 0 (NR (P5:Int)) >>=_) _ _ s
 refine II<|NP hoi hdi (by simp) ?_;have h1:(s.heap.update I (Ma (·.setIfInBounds 0 (NR (P5:Int))))).get? I=B' (Ma (·.setIfInBounds 0 (NR (P5:Int))) oi):=KF _ hoi<|ND<|Mq hdi _;have d1:=Mq hdi (·.setIfInBounds 0 (NR (P5:Int)));show wpAny _ _ (Wa (.ref I) 1 (NR<|(i:Int)+1) >>=_) _ _ _
 refine II<|NP h1 d1 (by simp) ?_;have aaC:IsIt ((s.heap.update I (Ma (·.setIfInBounds 0 (NR (P5:Int))))).update I (Ma (·.setIfInBounds 1 (NR<|(i:Int)+1)))) I S P5 (i+1) es.size ep:=by
  refine⟨_,KF _ h1<|ND<|Mq d1 _,?_,?_⟩
  ·rw[Qy,Qy];exact hci
  ·rw[Mq d1];simp [NR]
 exact I0 ⟨_,rfl,I0<|hQ P5 _ ha' aaC<|(LC ..).trans (LC ..)⟩
theorem DK{I S:IL}{es:J4 (Int×IH)}{ep slot:Nat}{o:Obj}{t:SetTable}{Q:IQ IH->IM->Prop}(hh:A.handled=IV)
  (XM:IsIt s.heap I S slot es.size es.size ep) (ho:s.heap.get? S=B' o) (hd:o.data=.set es ep t) (T:TT t (eQ es)) (hl:t.led=!bx w) (ha:At w t slot es.size)
  (hQ:∀h',Heap.ExtBut I s.heap h'->Q IV {s with heap:=h'}):wpAny (Ju prog w) A (Ou<|.ref I) Q E s:=by
 obtain⟨oi,hoi,hci,hdi⟩:=id XM;have hf:=ft T.toPT;unfold Ou;refine II<|QP<|Q1 (name:=IK "__next__") XM.typeIs sn_next<|Nn sn_next XM.typeIs sD ?_<|sE _;unfold Builtin.«set_iterator.__next__»;refine II<|I0 ?_;refine II<|V9 hoi hdi ?_;show wpAny _ _ (setEntries S >>=_) _ _ s
 refine II<|PF ho hd hf ?_;rw[JD<|by simp];show wpAny _ _ (Uk S slot es.size ep >>=_) _ _ s
 refine II<|wR ho hd T hl ha ?_;show wpAny _ _ (Wa (.ref I) 2 .none >>=_) _ _ s
 refine II<|NP hoi hdi (by simp) ?_;show wpAny _ _ (newExc (.type "StopIteration") [] >>=_) _ _ _
 refine II ?_;simp only [newExc,newTuple];refine II (M9 ?_<|by size_fits);refine II (m:=Wd _ _)<|Vl (a:=M0) (by first|rfl|(simp only [Wd];rfl)) ?_;refine M9 ?_ (by size_fits);simp only [raiseNew];refine II<|wpAny_handled ?_;rw[show A.in1.handled=IV from hh];refine II<|I0<|wpAny_throw ?_;refine II<|U0 (T:="StopIteration") (b:=IS) ⟨_,JB _ rfl,rfl⟩ isSubtype_stop ?_;exact I0<|hQ _<|((LC ..).extBut.push _).push _
theorem Ab{I S:IL}{slot i n ep:Nat}{Q:IH->IM->Prop}(XM:IsIt s.heap I S slot i n ep)(h:Q (.ref I) s):wpAny (Ju prog w) A (R7<|.ref I) Q E s:=by
 refine Uh XM.typeIs sC<|Nn sC XM.typeIs zZ ?_<|z_ _;show wpAny _ _ (ret<|.ref I) _ _ s
 exact I0 ⟨_,rfl,"set_iterator",_,XM.typeIs,sn_next.lookup,h⟩
theorem uM(hh:A.handled=IV)(I S:IL)(S8:S≠I)(es:J4 (Int×IH))(ep:Nat):
  Walks prog w A I [I,S] [I] es.size (λi v=>∃x,(df w S es ep)[i]? =B' x/\v=x.2)
   (λi h=>∃slot o t,IsIt h I S slot i es.size ep/\h.get? S=B' o/\o.ExactSet/\o.data=.set es ep t/\TT t (eQ es)/\t.led=!bx w/\At w t slot i) where
 sub:=λb hb=>by simp at hb;simp [hb]
 frame:=λ_ _ _ st hk=>by
  obtain⟨slot,o,t,h1,h2,h3⟩:=st;exact⟨slot,o,t,h1.keep λo e=>hk I (by simp) o e,hk S (by simp) o h2,h3⟩
 item:=λi s Q E hi st hQ=>by
  obtain⟨slot,o,t,h1,h2,h3,h4,h5,h6,h7⟩:=st;obtain⟨x,hx⟩:∃x,(df w S es ep)[i]? =B' x:=⟨_,Kf (by rw[ik];exact hi)⟩;refine Aa S8 h1 h2 h4 h5 h6 h7 hx λP5 h' ha' aaC Vw=>?_;exact hQ x.2 h' s.toks ⟨x,hx,rfl⟩ ⟨P5,o,t,aaC,Vw.extBut S o S8 h2,h3,h4,h5,h6,ha'⟩ λb o' hb e=>Vw.extBut b o' (λz=>hb (by simp [z])) e
 done:=λs Q E st hQ=>by
  obtain⟨slot,o,t,h1,h2,h3,h4,h5,h6,h7⟩:=st;exact DK hh h1 h2 h4 h5 h6 h7 λh' he'=>hQ h' s.toks λb o' hb e=>he' b o' (λz=>hb<|by simp [z]) e
 self:=λ_ _ _ _ st hQ=>by
  obtain⟨slot,o,t,h1,_⟩:=st;exact Ab h1 hQ
theorem wS{S:IL}{Q:IH->IM->Prop}(hS:SetAt w s.heap S es ep)
  (hQ:Q (.ref s.heap.objs.size) {s with heap:=s.heap.push {cls:=.type "set_iterator",data:=.fields #[.int 0 0,.int 0 0,.ref S,.int es.size 0,.int ep 0]}}):
  wpAny (Ju prog w) A (R7<|.ref S) Q E s:=by
 have hT:=hS.typeIs;obtain⟨o,t,ho,hc,hd,T,hl⟩:=hS;have hf:=ft T.toPT;refine Uh hT VH<|Nn VH hT px ?_<|F.args_set_iter_1 _;unfold Builtin.«frozenset.__iter__»;refine II (m:=XD "__iter__" _)<|I0 ?_;refine II ?_;unfold Xi;refine II<|PF ho hd hf<|I0 ?_;refine II ?_;unfold setDrawn;refine II<|Lm ho hd hf ?_;refine II<|eS<|I0 ?_;have e0:(!bx w&&(!t.plain&&decide (es.size > 1)))=false:=by rw[T.plain];simp
 show wpAny _ _ (if(!bx w&&(!t.plain&&decide (es.size > 1)))=IS then _ else _) _ _ _
 rw[e0,JD<|by simp];refine II<|I0 ?_;refine II<|wpAny_setEpoch_of ho hd hf ?_;refine II<|M9<|I0 ⟨_,rfl,"set_iterator",_,⟨_,JB _ rfl,rfl⟩,sn_next.lookup,?_⟩;simpa [NR]using hQ
theorem Ac(T:vw t):At w t 0 0:=.inr<|qI T.up
end
inductive Two {α β:Type}(R:α->β->Prop):IG α->IG β->Prop
 |nil:Two R [] []
 |cons {a:α} {b:β} {as:IG α} {bs:IG β}:R a b->Two R as bs->Two R (a::as) (b::bs)
namespace Two
variable {α β:Type}{R:α->β->Prop}
theorem len(h:Two R as bs):as.length=bs.length:=by
 induction h with
 |nil=>rfl
 |cons _ _ ih=>simp [ih]
theorem app(h:Two R as bs)(h':Two R as' bs'):Two R (as++as') (bs++bs'):=by
 induction h with
 |nil=>exact h'
 |cons x _ ih=>exact .cons x ih
theorem imp(h:Two R as bs)(f:∀a b,R a b->R' a b):Two R' as bs:=by
 induction h with
 |nil=>exact .nil
 |cons x _ ih=>exact .cons (f _ _ x) ih
theorem perm(p:bs.Perm bs'):∀{as:IG α},Two R as bs->∃as',as.Perm as'/\Two R as' bs':=by
 induction p with
 |nil=>intro as h;exact⟨as,.refl _,h⟩
 |cons x _ ih=>
  intro as h;cases h with
  |cons r t=>
   obtain⟨as',h1,h2⟩:=ih t;exact⟨_,h1.cons _,.cons r h2⟩
 |swap x y l=>
  intro as h;cases h with
  |cons r t=>
   cases t with
   |cons r' t'=>exact⟨_,.swap _ _ _,.cons r'<|.cons r t'⟩
 |trans _ _ ih1 ih2=>
  intro as h;obtain⟨a1,h1,h2⟩:=ih1 h;obtain⟨a2,h3,h4⟩:=ih2 h2;exact⟨a2,h1.trans h3,h4⟩
theorem at_(h:Two R as bs):∀{i:Nat} {b:β},bs[i]? =B' b->∃a,as[i]? =B' a/\R a b:=by
 induction h with
 |nil=>intro i b e;simp at e
 |cons x _ ih=>
  intro i b e;cases i with
  |zero=>simp at e;subst e;exact⟨_,rfl,x⟩
  |succ i=>simpa using ih (by simpa using e)
theorem mem(h:Two R as bs)(hb:b∈bs):∃a,a∈as/\R a b:=by
 obtain⟨i,hi⟩:=Mn.mp hb;obtain⟨a,h1,h2⟩:=h.at_ hi;exact⟨a,Ji h1,h2⟩
end Two
theorem nM(h:n<=1000):n<=sizeLine:=by rw[KS];lia
section
variable {prog:Jc}{w:Jv}{A:JV}{E:IH->IM->Prop}{s:IM}
def wT(w:Jv)(h:JM)(S:IL)(es:J4 (Int×IH))(x:Int×IH)(h':JM):Prop:=
 M' S h h'/\∃es' ep',SetAt w h' S es' ep'/\es'.toList.Perm (es.toList++[x])
theorem stored{h:JM}{S:IL}{o:Obj}{es es':J4 (Int×IH)}{ep:Nat}{t t':SetTable}(ho:h.get? S=B' o)(hd:o.data=.set es ep t):
  (h.update S<|Wq es' t').get? S=B' {o with data:=.set es' (ep+1) t'}:=by
 have z:=KF (Wq es' t') ho (by rw[putSet_of es' t' hd];rfl)
 rwa [putSet_of es' t' hd]at z
theorem wU(es:J4 (Int×IH))(p:Nat)(x:Int×IH):(MA es p x).toList.Perm (es.toList++[x]):=by
 have:=OO es p x
 rwa [NJ]at this
end
end SW
namespace SW
open PySem PySem.SetTable TB
section
variable {prog:Jc}{w:Jv}{A:JV}{E:IH->IM->Prop}{s:IM}
abbrev TK(prog:Jc)(w:Jv)(h:JM)(ks:IG Int)(a:IL):Prop:=IsTupleKey (XW prog w) h ks a
theorem iI(h:ItemsAre (XW prog w) ks vs):∀v∈vs,∃n t,v=Np n t:=by
 induction h with
 |nil=>intro v hv;simp at hv
 |cons h1 _ ih=>
  intro v hv;obtain rfl|hv:=JC.mp hv
  ·obtain⟨t,rfl⟩:=ON h1;exact⟨_,t,rfl⟩
  ·exact ih v hv
theorem mw(hk:TK prog w s.heap ks a)(h:Q IU s):wpAny (Ju prog w) A (Qr 8<|.ref a) Q E s:=by
 have hT:=hk.typeIs;obtain⟨o,items,n,ho,_,hd,hi⟩:=hk;unfold Qr;refine II<|OK hT ?_;simp only [NZ,↓K'];refine II<|I0 ?_;simp only [Pj,JK,↓K'];refine II<|NQ ho hd ?_;refine II ?_;show wpAny _ _ (forIn items _ _) _ _ s
 rw[<-OB];refine QZ _ (λLz r s'=>r.1=IV/\s'=s/\∀v∈Lz,∃n t,v=Np n t) _ ?_ ?_ _ _ ⟨rfl,rfl,iI hi⟩
 ·rintro v Lz r s' ⟨hr,rfl,QK⟩;obtain⟨m,t,rfl⟩:=QK v Jp;refine II (m:=Qr 7<|.int m t)<|I0 ?_;exact I0 ⟨rfl,rfl,λu hu'=>QK u<|Jk _ hu'⟩
 ·rintro⟨r1,r2⟩ s' ⟨hr,rfl,_⟩;simp only at hr;subst hr;exact I0 h
theorem wV(hk:TK prog w s.heap ks a)(h:Q IS s):wpAny (Ju prog w) A (Vp 8<|.ref a) Q E s:=by
 have hT:=hk.typeIs;obtain⟨o,items,n,ho,_,hd,hi⟩:=hk;unfold Vp;refine II<|RK hT F.slot_tuple_hash.lookup ?_;show wpAny _ _ (U2 (.ref a) >>=_) _ _ s
 refine II<|NQ ho hd ?_;refine II ?_;show wpAny _ _ (forIn items _ _) _ _ s
 rw[<-OB];refine QZ _ (λLz r s'=>r.1=IV/\s'=s/\∀v∈Lz,∃n t,v=Np n t) _ ?_ ?_ _ _ ⟨rfl,rfl,iI hi⟩
 ·rintro v Lz r s' ⟨hr,rfl,QK⟩;obtain⟨m,t,rfl⟩:=QK v Jp;refine II (m:=Vp 7<|.int m t)<|I0 ?_;exact I0 ⟨rfl,rfl,λu hu'=>QK u<|Jk _ hu'⟩
 ·rintro⟨r1,r2⟩ s' ⟨hr,rfl,_⟩;simp only at hr;subst hr;exact I0 h
theorem wW(hk:TK prog w s.heap ks a)(hs:∀y∈st,∃b k,y=JS b/\TK prog w s.heap k b)(h:Q IU s):
  wpAny (Ju prog w) A (Um (.ref a) st) Q E s:=by
 unfold Um;refine II ?_;refine QZ _ (λLz r s'=>r.1=IV/\s'=s/\∀y∈Lz,∃b k,y=JS b/\TK prog w s.heap k b) _ ?_ ?_ _ _ ⟨rfl,rfl,hs⟩
 ·rintro v Lz r s' ⟨hr,rfl,QK⟩;obtain⟨b,k,rfl,hb⟩:=QK v Jp;dsimp only;by_cases e:(a == b)=IS
  ·simp only [e,Yb,↓K'];exact I0 ⟨rfl,rfl,λu hu'=>QK u<|Jk _ hu'⟩
  ·have e':(a == b)=false:=by simpa using e
   simp only [e',carriedByValue,Xo,Bool.or_self,JK,↓K'];refine II<|RW hk ?_;simp only [Pj,JK,↓K'];refine II<|RW hb ?_;simp only [Pj,JK,↓K'];refine II<|mw hk ?_;simp only [JK,↓K'];refine II<|mw hb ?_;simp only [JK,↓K'];exact I0 ⟨rfl,rfl,λu hu'=>QK u<|Jk _ hu'⟩
 ·rintro⟨r1,r2⟩ s' ⟨hr,rfl,_⟩;simp only at hr;subst hr;exact I0 h
abbrev hT(prog:Jc)(w:Jv)(k:IG Int):Int:=tupleKeyHash (XW prog w) k
def RT(prog:Jc)(w:Jv)(h:JM)(k:IG Int)(e:Int×IH):Prop:=e.1=hT prog w k/\∃a,e.2=.ref a/\TK prog w h k a
theorem ju{S a:IL}{es:J4 (Int×IH)}{ep:Nat}{t:SetTable}{o:Obj}{us:IG (IG Int)}{k:IG Int}{Q:SetFound->IM->Prop}(hu:A.units < Mt)
  (ho:s.heap.get? S=B' o) (hd:o.data=.set es ep t) (T:TT t (eQ es)) (Zx:Two (RT prog w s.heap) us es.toList) (hk:TK prog w s.heap k a)
  (aau:k∈us->Q (.there IV) s) (Yq:k∉us->∀j,jr t j=IU->j<=t.mask->Path (jr t) t.mask (hT prog w k) j->Q (.free j IU) s)
  (K:Nat) (hK:jr t (cb t.mask K<|start t.mask<|hT prog w k).j=IU):
  ∀(n fuel k0:Nat) (Yl:IQ Og),K - k0=n->n < fuel->Yl.getD (start t.mask<|hT prog w k)=cb t.mask k0 (start t.mask<|hT prog w k)->
   (∀l,l < k0->∃i:Nat,t.place[i]? =B' (cb t.mask l<|start t.mask<|hT prog w k).j/\us[i]?≠B' k)->
   wpAny (Ju prog w) A (W1 S (.ref a) (hT prog w k) IS fuel Yl) Q E s
 |n,0,k0,Yl,hn,hf,_,_=>absurd hf (by lia)
 |n,fuel+1,k0,Yl,hn,hf,R3,QK=>by
  have adW:=ft T.toPT;have hk0:k0<=K:=by
   obtain g|g:=Mw K k0
   ·obtain⟨i,hi,_⟩:=QK K g;rw[occ_iff.mpr ⟨i,hi⟩]at hK;cases hK
   ·exact g
  have hsz:t.place.size=es.size:=by rw[T.len,gK]
  have nin:∀(i:Nat) (e:Int×IH),es[i]? =B' e->∃k',us[i]? =B' k'/\RT prog w s.heap k' e:=λi e he=>Zx.at_ (by rw[JQ];exact he);obtain⟨r,m,h1,h2,h3⟩:=qJ T.tab (λi=>(es[i]?.map (·.1)).getD 0) (hT prog w k)<|iG k0<|fN t.mask<|hT prog w k;have ZC:∀l,l < k0+m->∃i:Nat,t.place[i]? =B' (cb t.mask l<|start t.mask<|hT prog w k).j/\us[i]?≠B' k:=λl hl=>by
   obtain g|g:=Mw l k0
   ·exact QK l g
   ·obtain⟨i,hi,S8⟩:=h2 (l - k0) (by lia);rw[<-cM,show k0+(l - k0)=l by lia]at hi;refine⟨i,hi,λz=>S8 ?_⟩;have Te:i < es.size:=by rw[<-hsz];exact(J9.mp hi).1
    obtain⟨k',e1,e2⟩:=nin i es[i]<|Kf Te;rw[z]at e1;have:k=k':=Jo e1;subst this;rw[Kf Te];exact e2.1
  have gw:t.gaveWay=false:=by
   unfold SetTable.gaveWay;obtain e|e:=T.tab.mask<;>rw[e]<;>rfl
  unfold W1;refine II<|Lm ho hd adW ?_;dsimp only;rw[gw];simp only [JK,↓K'];have hpr:t.probe (λi=>(es[i]?.map (·.1)).getD 0) (hT prog w k) (Yl.getD<|t.probeStart<|hT prog w k)=B' r:=by
   rw[wK,R3];exact h1
  erw [hpr]
  dsimp only;obtain⟨rfl,SM⟩|⟨i,hi,hh,rfl⟩:=h3
  ·dsimp only;rw[<-cM]at SM;have Xq:k∉us:=λhm=>by
    obtain⟨i,hi⟩:=Mn.mp hm;have Te:i < es.size:=by
     have:=(IY.mp hi).1;have:=Zx.len;simp at this;lia
    obtain⟨k',e1,e2⟩:=nin i es[i]<|Kf Te;rw[hi]at e1;have:k=k':=Jo e1;subst this;have hp:t.place[i]? =B' t.place[i]:=Kf (by lia);have hhs:(eQ es)[i]? =B' (hT prog w k):=by
     unfold eQ;rw[Jx,JQ,Kf Te];simp [e2.1]
    obtain⟨q,ZP,hq2⟩:=T.reach i (hT prog w k) _ hhs hp;obtain g|g:=Mw q (k0+m)
    ·obtain⟨i2,Zv,S8⟩:=ZC q g;rw[ZP]at Zv;have:=(kB T.tab.up Zv).symm.trans<|kB T.tab.up hp;rw[this]at S8;exact S8 hi
    ·obtain g|g:=OA g
     ·rw[<-g]at ZP;rw[ZP,occ_iff.mpr ⟨i,hp⟩]at SM;cases SM
     ·have:=hq2 (k0+m) g;rw[SM]at this;cases this
   have z:=Yq Xq _ SM (HQ<|iG _<|fN _ _) ⟨k0+m,rfl,λl hl=>by
    obtain⟨i,hi,_⟩:=ZC l hl;exact occ_iff.mpr ⟨i,hi⟩⟩
   rw[cM]at z;exact I0 z
  ·dsimp only;have Te:i < es.size:=by rw[<-hsz];exact(J9.mp hi).1
   have hei:es[i]? =B' es[i]:=Kf Te;obtain⟨k',e1,e2,b,e3,e4⟩:=nin i es[i] hei;have hK2:k0+m < K:=by
    obtain g|g|g:=MD (k0+m) K
    ·exact g
    ·rw[<-cM,g]at hi;rw[occ_iff.mpr ⟨i,hi⟩]at hK;cases hK
    ·obtain⟨i2,Zv,_⟩:=ZC K g;rw[occ_iff.mpr ⟨i2,Zv⟩]at hK;cases hK
   cases hld:t.led
   case' false=>
    simp only [WC,↓K'];refine II<|wW hk (λy hy=>?_) ?_
    ·simp only [J1,Nc,Array.mem_filter]at hy;obtain⟨e,⟨he,_⟩,rfl⟩:=hy;obtain⟨k2,_,_,b2,q1,q2⟩:=Zx.mem<|Nc.mpr he;exact⟨b2,k2,q1,q2⟩
   all_goals
    simp only [Pj,JK,↓K'];rw[hei];dsimp only;refine II<|Ks ?_;rw[e3];refine wpAny_eqBool_tuple hu e4 hk ?_;refine II<|Lm ho hd adW ?_;dsimp only;by_cases hkk:k'=k
    ·subst hkk;rw[Jj rfl];simp only [Xo,↓K'];exact I0<|aau<|Ji e1
    ·rw[IW hkk];simp only [J8,JK,↓K'];have hsm:t.sameMemory t.moves t.mask=B' true:=by
      unfold SetTable.sameMemory;simp
     rw[hsm];dsimp only;rw[md T.tab hi];simp only [↓K'];rw[hei];dsimp only;rw[e3];refine II ?_;unfold isSame;simp only [NZ,↓K'];refine I0 (II<|I0 ?_)
     try dsimp only
     try simp only [JK,↓K']
     rw[<-cM];refine ju hu ho hd T Zx hk aau Yq K hK (K - (k0+(m+1))) fuel (k0+(m+1)) _ rfl (by lia) rfl λl hl=>?_;obtain g|g:=Mw l (k0+m)
     ·exact ZC l g
     ·have:l=k0+m:=by lia
      subst this;rw[cM];exact⟨i,hi,λz=>by
       rw[e1]at z;exact hkk (Jo z).symm.symm⟩
end
section
variable {prog:Jc}{w:Jv}{A:JV}{E:IH->IM->Prop}{s:IM}
theorem qM{S:IL}{Q:Pt->IM->Prop}(ho:s.heap.get? S=B' o)(hex:o.ExactSet)(hd:o.data=.set es ep t)(T:PT t (eQ es))(hn:es.size=5)(hl:t.led=!bx w)
  (h:∀h' es',M' S s.heap h'->SetAt w h' S es' (ep+1)->es'.toList.Perm es.toList->Q () {s with heap:=h'}):wpAny (Ju prog w) A (setRelay S<|grown es.size) Q E s:=by
 have hf:=ft T;obtain⟨t2,Od,e,a1,a2,a3,a4,a5⟩:=qL T hn;unfold setRelay;refine II<|Lm ho hd hf ?_;dsimp only;rw[JD<|by rw[hn];decide+kernel];refine II ?_;rw[e];show wpAny _ _ (if((Od.filterMap (es[·]?)).size != es.size)=IS then _ else _) _ _ _
 rw[a4,JD<|by simp];refine I0 ?_;show wpAny _ _ (storeSet S (Od.filterMap (es[·]?)) t2) _ _ _
 refine Ug ho hd ?_ (nM<|by lia);exact h _ _ (LC ..) ⟨_,t2,stored ho hd,hex,rfl,a5,by rw[a1];exact hl⟩ a3
theorem sF{S a:IL}{us:IG (IG Int)}{k:IG Int}{Q:Jm->IM->Prop}(hu:A.units < Mt)(hS:SetAt w s.heap S es ep)
  (Zx:Two (RT prog w s.heap) us es.toList) (hn:es.size<=17) (hk:TK prog w s.heap k a) (Td:k∈us->Q IU s) (Vy:k∉us->∀h',wT w s.heap S es (hT prog w k,.ref a) h'->Q IS {s with heap:=h'}):
  wpAny (Ju prog w) A (Ul S (.ref a)<|hT prog w k) Q E s:=by
 obtain⟨o,t,ho,hex,hd,T,hl⟩:=hS;have hf:=ft T.toPT;obtain⟨e,he,SM⟩:=me T.tab;obtain⟨K,hK,eK⟩:=jt T.tab.mask (fN t.mask<|hT prog w k) he;have hK5:K < 100000:=by
  unfold Wp at hK;obtain z|z:=T.tab.mask<;>rw[z]at hK<;>lia
 unfold Ul setAddHashedIn;refine Ks<|II<|Lm ho hd hf ?_;dsimp only;have hbs:byScan (.ref a) es=false:=by simp [byScan,Value.scannable]
 rw[hbs];simp only [JK,↓K'];unfold setSearch;refine II (ju hu ho hd T Zx hk (λYT=>?_) (λXq j f2 f3 f4=>?_) K (by rw[eK];exact SM) K 100000 0 IV (by lia) hK5 rfl λl hl=>absurd hl<|by lia)
 ·dsimp only;exact I0<|Td YT
 ·dsimp only;obtain⟨es1,t1,e1,e2,p2,hpm,RH,XJ,p3⟩:∃es1 t1,(t.put j).1=t1/\MA es (t.put j).2 (hT prog w k,.ref a)=es1/\PT t1 (eQ es1)/\es1.toList.Perm (es.toList++[(hT prog w k,.ref a)])/\t1.led=(!bx w)/\t1.mask=t.mask/\es1.size=es.size+1:=by
   obtain⟨p1,p2,p3,p4⟩:=uK (x:=.ref a) T hn f2 f3 f4;rw[p1];exact⟨_,_,rfl,rfl,p2,wU _ _ _,hl,rfl,p3⟩
  refine II<|Lm ho hd hf ?_;dsimp only;rw[e1,e2,p2.plain];simp only [↓K'];refine II<|wV hk ?_;simp only [↓K',WC,Xm];refine II (Ug ho hd ?_<|nM<|by lia);have g1:=stored (es':=es1) (t':=t1) ho hd;have abt:=LC s.heap S<|Wq es1 t1;cases abF:t1.tooFull with
  |false=>
   simp only [JK,↓K'];exact I0<|Vy Xq _ ⟨abt,es1,ep+1,⟨_,t1,g1,hex,rfl,wQ p2 abF (by rw[gK];lia),RH⟩,hpm⟩
  |true=>
   simp only [↓K'];have h5:es1.size=5:=by
    have:=zY p2 abF (by rw[gK];lia) (λz=>by
     have:=T.small (by rw[<-XJ];exact z);rw[gK]at this ⊢;lia)
    rwa [gK]at this
   rw[show es.size+1=es1.size by lia];refine II<|qM g1 hex rfl p2 h5 RH λh' es' q1 q2 q3=>I0 ?_;exact Vy Xq _ ⟨abt.trans q1,es',_,q2,q3.trans hpm⟩
structure Kind (prog:Jc)(w:Jv)(κ:Type) where
 is:JM->κ->IH->Prop
 hash:κ->Int
 room:JV->Prop
 keep:∀{h h':JM} {k:κ} {v:IH},is h k v->(∀b o,h.get? b=B' o->o.cls≠.type "set"->o.cls≠.type "list_iterator"->h'.get? b=B' o)->is h' k v
 pyHash:∀{A:JV} {E:IH->IM->Prop} {s:IM} {k:κ} {v:IH} {Q:Int->IM->Prop},room A->is s.heap k v->(∀tk,Q (hash k) {s with toks:=tk})->wpAny (Ju prog w) A (PySem.pyHash v) Q E s
 add:∀{A:JV} {E:IH->IM->Prop} {s:IM} {S:IL} {es:J4 (Int×IH)} {ep:Nat} {us:IG κ} {k:κ} {v:IH} {Q:Jm->IM->Prop},room A->SetAt w s.heap S es ep->
  Two (λk (e:Int×IH)=>e.1=hash k/\is s.heap k e.2) us es.toList->es.size<=17->is s.heap k v->(k∈us->Q IU s)->(k∉us->∀h',wT w s.heap S es (hash k,v) h'->Q IS {s with heap:=h'})->
  wpAny (Ju prog w) A (Ul S v<|hash k) Q E s
def FO(prog:Jc)(w:Jv):Kind prog w (IG Int) where
 is:=λh k v=>∃a,v=.ref a/\TK prog w h k a
 hash:=hT prog w
 room:=λA=>A.units < Mt
 keep:=λ⟨a,e,o,items,n,ho,hc,r⟩ f=>⟨a,e,o,items,n,f a o ho (by rw[hc];decide) (by rw[hc];decide),hc,r⟩
 pyHash:=λhu ⟨a,e,h⟩ q=>by subst e;exact wpAny_pyHash_tuple hu h (q _)
 add:=λ{A E s S es ep us k v Q} hu hS Zx hn hk ho hw=>by
  obtain⟨a,rfl,hk⟩:=hk;exact sF hu hS Zx hn hk ho hw
variable {κ:Type}
def Holds(C:Kind prog w κ)(h:JM)(S:IL)(us:IG κ):Prop:=∃es ep,SetAt w h S es ep/\Two (λk (e:Int×IH)=>e.1=C.hash k/\C.is h k e.2) us es.toList/\us.Nodup
end
section
variable {prog:Jc}{w:Jv}{A:JV}{E:IH->IM->Prop}{κ:Type}
theorem py{C:Kind prog w κ}{h h':JM}{S:IL}{es:J4 (Int×IH)}{us:IG κ}{k:κ}{v:IH}{o:Obj}(hS:h.get? S=B' o)(hc:o.cls=.type "set")(Zx:Two (λk (e:Int×IH)=>e.1=C.hash k/\C.is h k e.2) us es.toList)(nd:us.Nodup)(hk:C.is h k v)(Xq:k∉us)(ha:wT w h S es (C.hash k,v) h'):
  ∃Y3,Holds C h' S Y3/\(∀z,z∈Y3↔z∈us\/z=k)/\Y3.length=us.length+1:=by
 obtain⟨sb,es',ep',ZX,pm⟩:=ha;have kp:∀{k:κ} {v:IH},C.is h k v->C.is h' k v:=λz=>C.keep z λb o' e1 e2 _=>(sb.2 b λe=>e2<|by rw[e,hS]at e1;rw[<-Jo e1];exact hc).trans e1;have z:Two (λk (e:Int×IH)=>e.1=C.hash k/\C.is h' k e.2) (us++[k]) (es.toList++[(C.hash k,v)]):=(Zx.imp λ_ _ q=>⟨q.1,kp q.2⟩).app<|.cons ⟨rfl,kp hk⟩ .nil;obtain⟨Y3,p1,p2⟩:=Two.perm pm.symm z;refine⟨Y3,⟨es',ep',ZX,p2,p1.nodup_iff.mp ?_⟩,λx=>?_,?_⟩
 ·rw[LG];exact⟨nd,by simp,λa ha b hb=>by
   rw[Jf.mp hb];exact λe=>Xq<|e▸ha⟩
 ·rw[<-p1.mem_iff,JA,Jf]
 ·rw[<-p1.length_eq,I_];rfl
theorem wX(C:Kind prog w κ)(hrm:C.room A.in1)(hh:A.in1.handled=IV){h0:JM}{I S l:IL}{items:J4 IH}{ks:IG κ}(hlI:l≠I)(hSI:S≠I)(hSl:S≠l)(hn:items.size<=18)(hks:ks.length=items.size)
  (hS0:∀o,h0.get? S=B' o->o.cls=.type "set") (hI0:∀o,h0.get? I=B' o->o.cls=.type "list_iterator") (V3:∀(i:Nat) (v:IH),items[i]? =B' v->∃k,ks[i]? =B' k/\C.is h0 k v) {R:TF->IM->Prop}:
  ∀(m i:Nat) (s:IM) (us:IG κ),items.size - i=m->i<=items.size->s.heap.IsListIter I l i->s.heap.IsList l items->Holds C s.heap S us->(∀z,z∈us↔z∈ks.take i)->us.length<=i->
   (∀b o,b≠S->b≠I->h0.get? b=B' o->s.heap.get? b=B' o)->
   (∀h' tk Y3,Holds C h' S Y3->(∀z,z∈Y3↔z∈ks)->(∀b o,b≠S->b≠I->h0.get? b=B' o->h'.get? b=B' o)->R (.ok<|.ret .none) {s with heap:=h',toks:=tk})->
   codeAny (Ju prog w) A (.builtin "set.update.loop" ⟨[.ref S,.ref I],[]⟩) R s:=by
 have W:=P7 (prog:=prog) (w:=w) (A:=A.in1) hh I l hlI items;intro m
 induction m with
 |zero=>
  intro i s us hm hi XG Nd Td UW Lx SM hR;have e:i=items.size:=by lia
  subst e;refine Le Oa ?_;rw[KO LD _];refine II (m:=Ou<|.ref I)<|W.done s _ _ ⟨XG,Nd⟩ λh' tk hk=>I0 ?_;have Oc:∀b o,b≠I->s.heap.get? b=B' o->h'.get? b=B' o:=λb o hb e=>hk b o (by simpa using hb) e;refine hR h' tk us ?_ (λz=>by rw[UW,Jy<|by lia]) λb o h1 h2 e=>Oc b o h2<|SM b o h1 h2 e;obtain⟨es,ep,a1,a2,a3⟩:=Td;refine⟨es,ep,a1.keep λo e=>Oc S o hSI e,a2.imp λ_ _ q=>⟨q.1,C.keep q.2 λb o e1 _ e3=>Oc b o (λz=>?_) e1⟩,a3⟩;subst z;obtain⟨o',g1,g2,_⟩:=XG;rw[g1]at e1;exact e3 (by rw[<-Jo e1];exact g2)
 |succ m ih=>
  intro i s us hm hi XG Nd Td UW Lx SM hR;have M6:i < items.size:=by lia
  refine Le Oa ?_;rw[KO LD _];refine II (m:=Ou<|.ref I)<|W.item i s _ _ M6 ⟨XG,Nd⟩ λv h' tk hv LI hk=>?_;have Oc:∀b o,b≠I->s.heap.get? b=B' o->h'.get? b=B' o:=λb o hb e=>hk b o (by simpa using hb) e;obtain⟨k,hki,hkv⟩:=V3 i v hv;have acp:C.is h' k v:=C.keep hkv λb o e1 e2 e3=>Oc b o (λz=>e3<|hI0 o<|z▸e1)<|SM b o (λz=>e2<|hS0 o<|z▸e1) (λz=>e3<|hI0 o<|z▸e1) e1;obtain⟨es,ep,a1,a2,a3⟩:=Td;have a1':SetAt w h' S es ep:=a1.keep λo e=>Oc S o hSI e;have a2':Two (λk (e:Int×IH)=>e.1=C.hash k/\C.is h' k e.2) us es.toList:=a2.imp λ_ _ q=>⟨q.1,C.keep q.2 λb o e1 _ e3=>Oc b o (λz=>by
   subst z;obtain⟨o',g1,g2,_⟩:=XG;rw[g1]at e1;exact e3<|by rw[<-Jo e1];exact g2) e1⟩
  have hul:us.length=es.size:=by
   have:=a2'.len;simpa using this
  have WH:∀z,z∈ks.take (i+1)↔z∈us\/z=k:=λz=>by
   rw[Kv,hki,JA,UW];simp
  refine II<|Ks ?_;unfold setAdd;refine Ks<|II<|C.pyHash hrm acp λWE=>?_;refine C.add (s:={s with heap:=h',toks:=WE}) hrm a1' a2' (by lia) acp (λYT=>?_) λXq h2 haf=>?_
  ·refine I0 ⟨L0 LD _,ih (i+1) {s with heap:=h',toks:=WE} us (by lia) M6 LI.1 LI.2 ⟨es,ep,a1',a2',a3⟩ (λz=>?_) (by lia) (λb o h1 h2 e=>Oc b o h2<|SM b o h1 h2 e) λh3 tk3 us3 b1 b2 b3=>hR h3 tk3 us3 b1 b2 b3⟩;rw[WH];exact⟨.inl,λq=>q.elim id λe=>e▸YT⟩
  ·obtain⟨o',t',o1,o2,_⟩:=id a1';obtain⟨us2,c1,c2,c3⟩:=py o1 o2.1 a2' a3 acp Xq haf;have sb:=haf.1;refine I0 ⟨L0 LD _,ih (i+1) {s with heap:=h2,toks:=WE} us2 (by lia) M6 ?_ ?_ c1 (λz=>by rw[WH,c2]) (by lia) (λb o h1 hbI e=>(sb.2 b h1).trans<|Oc b o hbI<|SM b o h1 hbI e) λh3 tk3 us3 b1 b2 b3=>hR h3 tk3 us3 b1 b2 b3⟩
   ·exact LI.1.at λo e=>(sb.2 I λz=>hSI z.symm).trans e
   ·exact LI.2.at λo e=>(sb.2 l λz=>hSl z.symm).trans e
end
section
variable {prog:Jc}{w:Jv}{A:JV}{E:IH->IM->Prop}{s:IM}{κ:Type}
theorem Ad(a:IH)(h:Q₁ (.ref s.heap.objs.size) {s with heap:=s.heap.push {cls:=.type "set",dict:=IV,data:=.set #[] 0<|.fresh 0 0 (!bx w)}}):
  codeAny (Ju prog w) A (.call (.builtin "set.__new__") ⟨[.type "set",a],[]⟩) (wants Q₁ E) s:=by
 refine RM<|II (m:=N0 "set.__new__" ⟨[.type "set",a],[]⟩)<|Vl (F.newCall_set_1 a)<|I0 ⟨L0 VI _,Le F.entry_set_new ?_⟩;rw[KO VI _];unfold Builtin.«set.__new__»;refine II ?_;have hc:wpAny (Ju prog w) A.in1 (Qb "set" ⟨[.type "set",a],[]⟩) (λr s'=>r=(.type "set",[a])/\s'=s) E s:=by
  unfold Qb;have XI:=sub_set_self
  wp_walk
  exact⟨rfl,rfl⟩
 refine J2 hc (λr s' z=>?_) λe s' z=>z;obtain⟨rfl,rfl⟩:=z;refine II ?_;unfold newSet;refine II<|eS ?_;simp only [newObj];refine II<|wpAny_alloc<|I0 ?_;exact I0 h
theorem call_set(C:Kind prog w κ)(hrm:C.room A.in1.in1.in1)(hh:A.handled=IV){l:IL}{items:J4 IH}{ks:IG κ}{Q:IH->IM->Prop}(hl:s.heap.IsList l items)(hn:items.size<=18)(hks:ks.length=items.size)
  (V3:∀(i:Nat) (v:IH),items[i]? =B' v->∃k,ks[i]? =B' k/\C.is s.heap k v)
  (h:∀(h':JM) (tk:Nat) (us:IG κ),Holds C h' s.heap.objs.size us->(∀z,z∈us↔z∈ks)->(∀b o,s.heap.get? b=B' o->h'.get? b=B' o)->Q (.ref s.heap.objs.size) {s with heap:=h',toks:=tk}):
  wpAny (Ju prog w) A (call (.type "set") [.ref l]) Q E s:=by
 obtain⟨c,tl,aka⟩:=F.called_set.mro;have ahM:=F.called_set.made;have XI:=F.called_set.sub;refine O4<|RM ?_;show wpAny _ _ (callAny (.type "set") _) _ _ _
 refine I0 ⟨Oy _ (by decide+kernel),Le F.entry_type_call ?_⟩;rw[Around.under_plain (weight_type_call_type "set" [.ref l] []) rfl];have h1:=F.called_set.notType;have h2:=F.called_set.canCreate;have hct:=F.typeCall_set_1 (.ref l)
 repeat any_goals first|assumption|wp_step
 refine Nw (Ad (.ref l) (E:=E) (Q₁:=λobj s₁=>obj=.ref s.heap.objs.size/\s₁={s with heap:=s.heap.push ({cls:=.type "set",dict:=IV,data:=.set #[] 0<|.fresh 0 0 (!bx w)}:Obj)}) ⟨rfl,rfl⟩) λr s₁ hr=>?_;cases r with
 |error e=>exact hr
 |ok fl=>
  cases fl with
  |ret obj=>
   obtain⟨rfl,rfl⟩:=hr;have hS:(s.heap.push ({cls:=.type "set",dict:=IV,data:=.set #[] 0<|.fresh 0 0 (!bx w)}:Obj)).get? s.heap.objs.size=B' ({cls:=.type "set",dict:=IV,data:=.set #[] 0<|.fresh 0 0 (!bx w)}:Obj):=JB _ rfl;have hT:Ta {s with heap:=s.heap.push ({cls:=.type "set",dict:=IV,data:=.set #[] 0<|.fresh 0 0 (!bx w)}:Obj)} (.ref s.heap.objs.size) "set":=⟨_,hS,rfl⟩;have hli:=F.called_set.init.lookup;have hbi:=F.called_set.init.bind (.ref s.heap.objs.size)
   repeat any_goals first|assumption|wp_step
   refine Nw (Mz (R:=wants (λr s₂=>r=.none/\∃h' tk us,s₂={s with heap:=h',toks:=tk}/\Holds C h' s.heap.objs.size us/\(∀z,z∈us↔z∈ks)/\(∀b o,s.heap.get? b=B' o->h'.get? b=B' o)) E) F.called_set.init.plain F.entry_set_init<|check_set_init_1 hT ?_) λr₂ s₂ hr₂=>?_
   ·obtain⟨ol,hol,SU,nl,hdl⟩:=hl;obtain⟨aiS,adi,ag5,abV⟩:=ol;simp only at SU hdl;subst SU hdl;have afI:(s.heap.push ({cls:=.type "set",dict:=IV,data:=.set #[] 0<|.fresh 0 0 (!bx w)}:Obj)).get? l=B' {cls:=.type "list",dict:=adi,data:=.seq items nl,slots:=abV}:=IP _ hol;have ajW:=F.sub_list_set;have ajX:=F.sub_list_frozenset;have S8:(NT "list" == NT "dict")=false:=by decide
    have RH:(s.heap.push ({cls:=.type "set",dict:=IV,data:=.set #[] 0<|.fresh 0 0 (!bx w)}:Obj)).IsList l items:=⟨_,afI,rfl,nl,rfl⟩;have hlS:l < s.heap.objs.size:=Jh hol;have hz:(s.heap.push ({cls:=.type "set",dict:=IV,data:=.set #[] 0<|.fresh 0 0 (!bx w)}:Obj)).objs.size=s.heap.objs.size+1:=by rw[OP]
    unfold Builtin.«set.__init__» noKeywords VL;generalize hPI:R7=PI
    wp_walk
    subst hPI;refine M8 RH<|II<|wpAny_runValue ?_;have g1:((s.heap.push ({cls:=.type "set",dict:=IV,data:=.set #[] 0<|.fresh 0 0 (!bx w)}:Obj)).push {cls:=.type "list_iterator",data:=.fields #[.ref l,.int 0 0]}).get? s.heap.objs.size=B' ({cls:=.type "set",dict:=IV,data:=.set #[] 0<|.fresh 0 0 (!bx w)}:Obj):=IP _ hS;have g2:((s.heap.push ({cls:=.type "set",dict:=IV,data:=.set #[] 0<|.fresh 0 0 (!bx w)}:Obj)).push {cls:=.type "list_iterator",data:=.fields #[.ref l,.int 0 0]}).get? (s.heap.push ({cls:=.type "set",dict:=IV,data:=.set #[] 0<|.fresh 0 0 (!bx w)}:Obj)).objs.size=B' {cls:=.type "list_iterator",data:=.fields #[.ref l,.int 0 0]}:=JB _ rfl;refine wX C hrm (by simp [hh]) (h0:=(s.heap.push ({cls:=.type "set",dict:=IV,data:=.set #[] 0<|.fresh 0 0 (!bx w)}:Obj)).push {cls:=.type "list_iterator",data:=.fields #[.ref l,.int 0 0]}) (l:=l) (items:=items) (ks:=ks) (by rw[hz];exact Js<|LF hlS) (by rw[hz];exact Js<|Nat.lt_succ_self _) (MN hlS) hn hks (λo e=>?_) (λo e=>?_) (λi v hv=>?_) (items.size - 0) 0 _ [] rfl (Jw _) ⟨_,g2,rfl,rfl⟩ (RH.push _) ⟨#[],0,⟨({cls:=.type "set",dict:=IV,data:=.set #[] 0<|.fresh 0 0 (!bx w)}:Obj),_,g1,⟨rfl,rfl,rfl⟩,rfl,wN _,rfl⟩,.nil,Sz⟩ (λz=>by simp) (IX _) (λb o _ _ e=>e) λh' tk us b1 b2 b3=>?_
    ·rw[g1]at e;rw[<-Jo e]
    ·rw[g2]at e;rw[<-Jo e]
    ·obtain⟨k,q1,q2⟩:=V3 i v hv;exact⟨k,q1,C.keep q2 λb o e _ _=>IP _<|IP _ e⟩
    ·show wpAny _ _ _ _ _ _
     refine I0 ?_;show wpAny _ _ (ret M0) _ _ _
     refine I0 ⟨rfl,h',tk,us,rfl,b1,b2,λb o e=>b3 b o ?_ ?_<|IP _<|IP _ e⟩
     ·exact Js<|Jh e
     ·rw[hz];exact Js<|LF<|Jh e
   ·cases r₂ with
    |error e=>exact hr₂
    |ok fl₂=>
     cases fl₂ with
     |ret r=>
      obtain⟨rfl,h',tk,us,rfl,hS',hm',Oc⟩:=hr₂
      repeat any_goals first|assumption|wp_step
      exact h _ _ us hS' hm' Oc
     |_=>exact hr₂.elim
  |_=>exact hr.elim
end
section
variable {prog:Jc}{w:Jv}{A:JV}{E:IH->IM->Prop}{s:IM}{κ:Type}
theorem wY(hT:s.TypeIs (.ref r) "set")(h:Q IU s):wpAny (Ju prog w) A (PU<|.ref r) Q E s:=by
 unfold PU;refine II<|RK hT PySem.F.slot_set_len.lookup ?_;generalize hid:("set.__len__":LA)=id0
 wp_delta;rw[show splitId id0=B' ("set","__len__")from by subst hid;decide+kernel];subst hid
 refine II<|U0 (T:="set") (b:=IS) hT (by rw[R9];kernel_rfl) ?_;refine Pu (λz=>absurd z<|by decide) λ_=>Pu (λ_=>?_) λz=>absurd (by decide+kernel) z;exact II<|OK hT<|I0 h
theorem Ae{S:IL}:PySem.W.KdlSrc prog w "set" S S es.size (λi v=>∃x,(df w S es ep)[i]? =B' x/\v=x.2) (λh=>SetAt w h S es ep) where
 type:=λ_ hm=>hm.typeIs
 there:=λ_ hm=>⟨hm.lt,hm.lt⟩
 keep:=λ_ _ hm hk=>hm.keep λo e=>hk S (.inl rfl) o e
 notList:=by decide
 notTuple:=by decide
 hint:=λ_ _ _ _ hm hq=>wY hm.typeIs hq
 iter:=λA s hh hm=>by
  obtain⟨o,t,ho,hc,hd,T,hl⟩:=id hm;refine⟨_,_,λ_ _ hq=>wS hm hq,uM hh s.heap.objs.size S (Js hm.lt) es ep,0,o,t,⟨_,JB _ rfl,rfl,rfl⟩,IP _ ho,hc,hd,T,hl,Ac T.tab⟩
theorem Af{C:Kind prog w κ}{h:JM}{us:IG κ}{l:IG (Int×IH)}(t:Two (λk (e:Int×IH)=>e.1=C.hash k/\C.is h k e.2) us l):Two (λk v=>C.is h k v) us (l.map (·.2)):=by
 induction t with
 |nil=>exact .nil
 |cons r _ ih=>exact .cons r.2 ih
theorem collect_set(C:Kind prog w κ)(hh:A.handled=IV){S:IL}{R:IG IH->IM->Prop}(hS:Holds C s.heap S us)(hn:us.length<=18)
  (h:∀h' tk vs Y3,(∀b o,s.heap.get? b=B' o->h'.get? b=B' o)->Y3.Perm us->Two (λk v=>C.is s.heap k v) Y3 vs->R vs {s with heap:=h',toks:=tk}):
  wpAny (Ju prog w) A (collect<|.ref S) R E s:=by
 obtain⟨es,ep,a1,a2,a3⟩:=hS;have hl:es.size=us.length:=by
  have:=a2.len;simp at this;lia
 refine PJ (Ae (prog:=prog) (w:=w) (S:=S) (es:=es) (ep:=ep)) hh a1 (nM<|by lia) λh' tk M7 hk XO=>?_;obtain⟨Y3,p1,p2⟩:=Two.perm (kJ w S es ep).symm a2;refine h h' tk M7.toList Y3 hk p1.symm ?_;have e:M7.toList=(df w S es ep).toList.map (·.2):=by
  refine NI λi=>?_;rw[Jx,JQ,JQ];cases c:M7[i]? with
  |none=>
   have:M7.size<=i:=Array.getElem?_eq_none_iff.mp c;rw[OV<|by rw[ik,<-XO.1];exact this];rfl
  |some v=>
   obtain⟨x,hx,rfl⟩:=XO.2 i v c;rw[hx];rfl
 rw[e];exact Af p2
end
end SW
namespace SW
open PySem TB
theorem Holds.le{prog:Jc}{w:Jv}{κ:Type}{C:Kind prog w κ}{h:JM}{S:IL}{us:IG κ}(x:Holds C h S us):us.length<=18:=by
 obtain⟨es,ep,⟨o,t,_,_,_,T,_⟩,a2,_⟩:=x;have h1:=a2.len;have h2:=T.most;rw[gK]at h2;simp at h1;lia
theorem Holds.nodup{prog:Jc}{w:Jv}{κ:Type}{C:Kind prog w κ}{h:JM}{S:IL}{us:IG κ}(x:Holds C h S us):us.Nodup:=let ⟨_,_,_,_,n⟩:=x;n
def tupL(prog:Jc)(w:Jv)(L:IL->IG Int->Prop):Kind prog w (IG Int) where
 is:=λh k v=>∃a,v=.ref a/\TK prog w h k a/\L a k
 hash:=hT prog w
 room:=λA=>A.units < Mt
 keep:=λ⟨a,e,h,l⟩ f=>by
  obtain⟨a',e',z⟩:=(FO prog w).keep (k:=_) (v:=.ref a) ⟨a,rfl,h⟩ f;cases e';exact⟨a,e,z,l⟩
 pyHash:=λhu ⟨a,e,h,_⟩ q=>(FO prog w).pyHash hu ⟨a,e,h⟩ q
 add:=λ{A E s S es ep us k v Q} hu hS Zx hn hk ho hw=>by
  obtain⟨a,rfl,hk,_⟩:=hk;exact sF hu hS (Zx.imp λ_ _ z=>⟨z.1,let ⟨b,e,h,_⟩:=z.2;⟨b,e,h⟩⟩) hn hk ho hw
end SW
namespace Srt
def lexKey(B:Int)(q:Int×Int):Int:=q.1*(2*B+1)+q.2
theorem lex_lt(h1:-B<=b)(h2:b<=B)(h3:-B<=y)(h4:y<=B):decide (lexKey B (a,b) < lexKey B (x,y))=if a == x then decide (b < y)else decide (a < x):=by
 unfold lexKey;dsimp only;by_cases e:a=x
 ·rw[JF (by rw[e];exact NZ _),e];exact Mp.mpr ⟨λz=>by lia,λz=>by lia⟩
 ·rw[JD<|by simpa using e];have m:∀{u v:Int},u < v->(u+1)*(2*B+1)<=v*(2*B+1):=λh=>Pa (by lia) (by lia);have d:∀u,(u+1)*(2*B+1)=u*(2*B+1)+(2*B+1):=λu=>by rw[Vt,YM]
  refine Mp.mpr ⟨λz=>?_,λz=>?_⟩
  ·obtain g|g:=T5 e
   ·exact g
   ·have:=m g;rw[d]at this;lia
  ·have:=m z;rw[d]at this;lia
end Srt
namespace L2
open PySem PySem.Spec PySem.W PyProof.Rows
def ID(h:JM)(t:IL)(q:Int×Int):Prop:=∃o tx ty n,h.get? t=B' o/\o.cls=.type "tuple"/\o.data=.seq #[.int q.1 tx,.int q.2 ty] n
def wZ(X:Cx)(B:Int)(H:Hp):SK X H (Int×Int) where
 vr:=λq x=>PR H q x/\ -B<=q.2/\q.2<=B
 key:=Srt.lexKey B
 kd:=tuples' IS
 hp:=λh=>∀(t:IL) (q:Int×Int),H t=B' (.tup [.int q.1,.int q.2])->ID h t q
 mono:=λh k t q e=>let ⟨o,tx,ty,n,a,b⟩:=h t q e;⟨o,tx,ty,n,k _ _ a,b⟩
 inj:=by
  rintro⟨a,b⟩ ⟨a',b'⟩ _ _ v ⟨⟨t,rfl,e⟩,_⟩ rfl ⟨⟨t',rfl,e'⟩,_⟩ r;cases(show JS t=JS t' from r);rw[e]at e';cases e';rfl
 kk:=λ{A E s Q us ks} hp h2 h q=>by
  obtain⟨fs,h1,l1,h3⟩:∃fs:IG IH,KatTups s.heap us fs/\fs.length=us.length/\∀v∈fs,∃i t,v=Np i t:=by
   clear h2
   induction h with
   |nil=>exact⟨[],.nil,rfl,λ_ z=>nomatch z⟩
   |cons r _ ih=>
    obtain⟨fs,h1,h2,h3⟩:=ih;obtain⟨_,⟨⟨t,rfl,e⟩,_⟩,rfl⟩:=r;obtain⟨o,tx,ty,n,a,b,c⟩:=hp t _ e;refine⟨_::fs,.cons a b c rfl h1,by rw[JJ,JJ,h2],λv hv=>?_⟩;rcases JC.mp hv with rfl|hv
    ·exact⟨_,tx,rfl⟩
    ·exact h3 v hv
  exact kat_kind (T:=.type "int") h1 (by omega) (λv hv=>by
   obtain⟨i,t,rfl⟩:=h3 v hv;exact Looks.of_pure rfl) rfl q
 lt:=by
  rintro A E s Q ⟨a,b⟩ ⟨c,d⟩ _ _ _ _ hp ⟨⟨t,rfl,e⟩,b1,b2⟩ rfl ⟨⟨t',rfl,e'⟩,d1,d2⟩ rfl h;rw[Srt.lex_lt b1 b2 d1 d2]at h;obtain⟨ox,_,_,_,hx,_,dx⟩:=hp t _ e;obtain⟨oy,_,_,_,hy,_,dy⟩:=hp t' _ e';refine kat_lt hx dx hy dy<|kat_cons<|Q0<|kat_go (λg=>?_) λg=>?_
  ·rw[g,JF rfl]at h;refine kat_yes<|kat_cons<|Q0<|kat_go (λg2=>?_) λg2=>?_
   ·have e:b=d:=by simpa using g2
    subst e;rw[IW<|Xl _]at h;exact kat_yes<|kat_nil h
   ·exact kat_no<|kat_one _ _<|lt_int h
  ·rw[g,JD Jz]at h;exact kat_no<|oneLt_int h
theorem Ag(h1:-B<=q.2)(h2:q.2<=B)(h3:-B<=q'.2)(h4:q'.2<=B)(e:Srt.lexKey B q=Srt.lexKey B q'):q=q':=by
 obtain⟨a,b⟩:=q;obtain⟨x,y⟩:=q';have e1:=Srt.lex_lt (a:=a) (x:=x) h1 h2 h3 h4;have e2:=Srt.lex_lt (a:=x) (x:=a) h3 h4 h1 h2;rw[IW<|by rw[e];exact Xl _]at e1 e2;simp only [Ng]at e1 e2
 split at e1
 ·subst_vars
  rw[JF rfl]at e2;have:=MW e1.symm;have:=MW e2.symm;exact Sw rfl (by show b=y;lia)
 ·rename_i ne;rw[JD<|Lq ne]at e2;have:=MW e1.symm;have:=MW e2.symm;lia
section
variable {X:Cx}
theorem w_{κ κ' ι:Type}(S:ι->(H:Hp)->SK X H κ)(C:ι->Hp->SW.Kind X.prog X.w κ')(enc:κ->κ')(ad7:∀k k',enc k=enc k'->k=k')(rm:∀b H,(C b H).room X.A.in1.in1.in1)
  (hpI:∀{b IT σ H s},Inv X IT σ H s->(S b H).hp s.heap) (is1:∀{b H h k x v},(S b H).hp h->(S b H).vr k x->RelV x v->(C b H).is h (enc k) v) (is2:∀{b H h k' v},(C b H).is h k' v->∃k x,k'=enc k/\(S b H).vr k x/\RelV x v)
  (afh:∀{b H k x k' x'},(S b H).vr k x->(S b H).vr k' x'->(S b H).key k=(S b H).key k'->k=k') {rd:V->Hp->VK->Prop}
  (hrd:∀{x H Q},rd x H Q->∃b p ts ks,x=.ref p/\SqL X.K H p ts/\Paired (S b H).vr ks ts/\ks.length<=18/\
   ∀l ts' V2,H l=IV->V2.Nodup->(∀q,q∈V2↔q∈ks)->(V2.map (S b H).key).Pairwise (· < ·)->Paired (S b H).vr V2 ts'->Q (.ref l) (upd H l<|.lst ts'))
  {e:Km} {te:TE} {p1 p2 q1 q2:Pos} (hc:X.calm=IS) (hg1:Gl X "sorted") (XJ:X.mg "sorted"=IV) (hg2:Gl X "set") (ZT:X.mg "set"=IV) (he:PE X e te)
  (hs:JI [e] X.env=[(IU,LN e X.env)]) (Vv:JI [.Call (.Name "set" p2) [e] [] q2] X.env=[(IU,LN (.Call (.Name "set" p2) [e] [] q2) X.env)]):
  PE X (.Call (.Name "sorted" p1) [.Call (.Name "set" p2) [e] [] q2] [] q1) (λσ H Q=>te σ H λx H1=>rd x H1 Q):=by
 intro IT s σ H Q I h;refine La<|eD I hg1 XJ Nt ?_;refine O8 ?_ Vv rfl;rw[Vv];show wpAny _ _ (XU<|(IU,LN (.Call (.Name "set" p2) [e] [] q2) X.env)::MF q1 (JI [] X.env)) _ _ s
 refine Oz<|La<|eD I hg2 ZT boot_set ?_;refine Lo (bT (aa he (ae (X:=X)) (by rw[hs];rfl) q2 IT s σ H (wt λx H1=>rd x H1 Q) I h) λus s1 ⟨vs,H1,I1,r1,q1'⟩=>?_) hs rfl;obtain⟨x,e1,hx⟩:=iD q1';obtain⟨b,p,ts,ks,rfl,hq,hps,h18,q⟩:=hrd hx;subst e1;obtain⟨u,rfl,ru⟩:=eZ r1;cases ru;obtain⟨KN,rv,pl,hz⟩:=I1.list hq;have htl:=Paired.length hps;have Te:=rv.length;refine SW.call_set (C b H1) (rm b H1) (I1.ok.hd hc) pl.isList (ks:=ks.map enc) (by simp;lia) (by simp;lia) (λi v hv=>?_) λh' tk us2 hS hm hk=>?_
 ·have Y9:KN[i]? =B' v:=by simpa using hv
  have M6:i < KN.length:=(IY.mp Y9).1;obtain⟨tv,htv⟩:∃tv,ts[i]? =B' tv:=⟨_,IZ (by lia)⟩;obtain⟨v2,Zt,rv2⟩:=rv.get htv;rw[Y9]at Zt;cases Zt;obtain⟨k,e0,hk⟩:=TS.paired_at' hps htv;exact⟨enc k,by rw[Jx,e0];rfl,is1 (hpI I1) hk rv2⟩
 ·have I2:Inv X IT σ H1 {s1 with heap:=h',toks:=tk}:=I1.kept hk;refine Qz ?_;refine N7 Ss Ru Rw (UF _) ?_;unfold Builtin.«sorted»;refine II (m:=Tr "sorted" 1 1 _)<|I0 ?_;refine II<|SW.collect_set (A:=X.A.in1) (C b H1) (I2.ok.hd hc) hS hS.le λh2 WE vs2 Y3 hkp hpm htw=>?_;obtain⟨ks2,e2,Vx⟩:∃ks2,Y3=ks2.map enc/\Paired (λk v=>∃x,(S b H1).vr k x/\RelV x v) ks2 vs2:=by
   clear hpm
   induction htw with
   |nil=>exact⟨[],rfl,.nil⟩
   |cons r _ ih=>
    obtain⟨ks2,rfl,h⟩:=ih;obtain⟨k,x,rfl,h1,h2⟩:=is2 r;exact⟨k::ks2,rfl,.cons ⟨x,h1,h2⟩ h⟩
  have I3:Inv X IT σ H1 {s1 with heap:=h2,toks:=WE}:=I2.kept hkp;have nd2:ks2.Nodup:=by
   have:=hpm.nodup_iff.mpr hS.nodup;rw[e2,K_,Kw]at this;exact this.imp λh z=>h<|Kp _ z
  have hvr:∀k∈ks2,∃x,(S b H1).vr k x:=λk hk=>by
   clear nd2 e2 htw hpm
   induction Vx with
   |nil=>cases hk
   |cons r _ ih=>
    obtain rfl|hk:=JC.mp hk
    ·exact⟨_,r.choose_spec.1⟩
    ·exact ih hk
  have Xs:=Paired.length Vx;have hl3:ks2.length=us2.length:=by rw[<-hpm.length_eq,e2,IR]
  have akP:=hS.le;refine j_ (S b H1) I3 (hpI I3) (by lia) Vx ?_ λl ts' V2 h1 h2 h3 h4=>q l ts' V2 h1 (h2.nodup_iff.mpr nd2) (λk=>?_) h3 h4
  ·rw[K_,Kw];refine(K_.mp nd2).imp_of_mem λ{k k'} m1 m2 h z=>?_;obtain⟨x,hx⟩:=hvr k m1;obtain⟨x',hx'⟩:=hvr k' m2;exact h<|afh hx hx' z
  ·have m:∀k,enc k∈us2↔k∈ks2:=λk=>by
    rw[<-hpm.mem_iff,e2,J1];exact⟨λ⟨k',h1,h2⟩=>ad7 _ _ h2▸h1,λh=>⟨k,h,rfl⟩⟩
   rw[h2.mem_iff,<-m,hm,J1];exact⟨λ⟨k',h1,h2⟩=>ad7 _ _ h2▸h1,λh=>⟨k,h,rfl⟩⟩
def DL(q:Int×Int):IG Int:=[q.1,q.2]
def DM:V->Hp->VK->Prop:=λx H Q=>∃(p:IL) (ts:IG V) (ps:IG (Int×Int)) (B:Int),x=.ref p/\H p=B' (.lst ts)/\Paired (PR H) ps ts/\ps.length<=18/\(∀q∈ps,-B<=q.2/\q.2<=B)/\
 ∀(l:IL) (ts':IG V) (ps':IG (Int×Int)),H l=IV->ps'.Nodup->(∀q,q∈ps'↔q∈ps)->(ps'.map<|Srt.lexKey B).Pairwise (·<=·)->Paired (PR H) ps' ts'->Q (.ref l) (upd H l<|.lst ts')
theorem kK{α β:Type}{F G:α->β->Prop}{as:IG α}{bs:IG β}(h:Paired F as bs)(f:∀a∈as,∀b,F a b->G a b):Paired G as bs:=by
 induction h with
 |nil=>exact .nil
 |cons r _ ih=>exact .cons (f _ Jp _ r)<|ih λa ha=>f a<|Jk _ ha
theorem xa{p1 p2 q1 q2:Pos}(hu:X.A.units+64 < Mt)(hc:X.calm=IS)(hg1:Gl X "sorted")(XJ:X.mg "sorted"=IV)(hg2:Gl X "set")(ZT:X.mg "set"=IV)(he:PE X e te)
  (hs:JI [e] X.env=[(IU,LN e X.env)]:=by rfl) (Vv:JI [.Call (.Name "set" p2) [e] [] q2] X.env=[(IU,LN (.Call (.Name "set" p2) [e] [] q2) X.env)]:=by rfl):
  PE X (.Call (.Name "sorted" p1) [.Call (.Name "set" p2) [e] [] q2] [] q1) (λσ H Q=>te σ H λx H1=>DM x H1 Q):=
 w_ (ι:=Int) (wZ X) (λB H=>SW.tupL X.prog X.w λa k=>∃q,k=DL q/\(wZ X B H).vr q (.ref a)) DL (λk k' h=>by simp [DL]at h;exact Sw h.1 h.2) (λ_ _=>by show X.A.in1.in1.in1.units < Mt;simp;lia)
  (λ{b IT σ H s} I t q e=>by
   obtain⟨KN,rv,⟨o,e1,e2,n,e3⟩,_⟩:=I.tuple<|SqT.of e;obtain⟨u1,u2,rfl,⟨t1,rfl⟩,⟨t2,rfl⟩⟩:=vH rv;exact⟨o,t1,t2,n,e1,e2,e3⟩)
  (by
   rintro b H h k _ _ hp ⟨⟨t,rfl,e⟩,bd⟩ rfl;obtain⟨o,tx,ty,n,a1,a2,a3⟩:=hp t k e;exact⟨t,rfl,⟨o,_,n,a1,a2,a3,.cons (intKind_is _ _ _ _)<|.cons (intKind_is _ _ _ _) .nil⟩,k,rfl,⟨t,rfl,e⟩,bd⟩)
  (λ⟨a,e1,_,q,e2,e3⟩=>⟨q,.ref a,e2,e3,e1⟩) (λh1 h2=>Ag h1.2.1 h1.2.2 h2.2.1 h2.2.2)
  (λ⟨p,ts,ps,B,e,h1,h2,h3,h4,q⟩=>⟨B,p,ts,ps,e,SqL.of h1,kK h2 λa ha _ r=>⟨r,h4 a ha⟩,h3,λl ts' V2 a1 a2 a3 a4 a5=>q l ts' V2 a1 a2 a3 (a4.imp UQ)<|kK a5 λ_ _ _ r=>r.1⟩) hc hg1 XJ hg2 ZT he hs Vv
end
end L2
namespace OD
open PySem L2
def dh(t:Str)(hw:Jm):IG Int:=((KI t.length).filter λi=>fi t i == hw).map λ(i:Nat)=>(i:Int)+1
end OD
namespace L2
open PySem
section
variable {K:IJ}{a b D:IL}{xs ys:IG V}{n:Nat}{g:TG}{tt:TT}{te:TE}{σ0:St}{H1:Hp}{Q:VK}
theorem Ah{X:Cx}(e:X.K=K){es:IG Km}{k n:Nat}{pos:Pos}{t:zj}(hc:X.calm=IS)(h:EH X es t)(hn:(Nh es X.env).length=n:=by rfl)(R3:(Nh es X.env).findIdx? (·.1)=none:=by rfl):PG X (.Tuple es k pos) (EU K n t):=by
 subst e;exact iV hc h hn R3
end
end L2
namespace L2
open PySem PySem.Spec PyProof.Rows
section
variable {X:Cx}
def BQ(K:IJ):R2:=λx y H Q=>∃a b xs ys,x=.ref a/\y=.ref b/\SqT K H a xs/\SqT K H b ys/\xs.length+ys.length<=sizeLine/\
 (xs=[]->Q (.ref b) H)/\(xs≠[]->ys=[]->Q (.ref a) H)/\(xs≠[]->ys≠[]->∀p,H p=IV->Q (.ref p) (upd H p<|.tup<|xs++ys))
theorem Ai:OpR X (Nz .Add) (BQ X.K):=by
 intro IT s σ H x y v u Q I rx ry h;obtain⟨a,b,xs,ys,rfl,rfl,ha,hb,hz,q1,q2,q3⟩:=h;by_cases hx:xs=[]
 ·cases rx;cases ry;obtain⟨KN,r1,p1,_⟩:=I.tuple ha;obtain⟨aat,r2,p2,_⟩:=I.tuple hb;have hw:=r1.nil_iff.mpr hx;obtain⟨⟨cls,dd,data,sl⟩,ho,hc,n,hd⟩:=id p1;obtain⟨⟨agG,dd2,data2,sl2⟩,ho2,hc2,n2,Vz⟩:=id p2;simp only at hc hd hc2 Vz;subst hc hd hc2 Vz;exact Ur ⟨_,ho,rfl⟩ ⟨_,ho2,rfl⟩ Q3 S_ OQ OF (Oi _ _) (tuple_addW0 a b KN.toArray aat.toArray n n2 dd dd2 sl sl2<|by simp [hw]) ⟨ho,ho2,.ref b,H,I,rfl,q1 hx⟩
 ·exact zx IT s σ H _ _ v u Q I rx ry ⟨a,b,xs,ys,rfl,rfl,ha,hb,hx,hz,λz=>q2 hx z,λz=>q3 hx z⟩
end
end L2
namespace L2
open PySem
theorem uN(h:∀v p,e≠.Starred v p):JI (e::es) env=(IU,LN e env)::JI es env:=by
 cases e<;>first|rfl|exact absurd rfl<|h _ _
@[irreducible] def PEi (X:Cx) (e:Km) (t:TE):Prop:=PE X e t
@[irreducible] def PAi (X:Cx) (es:IG Km) (t:TA):Prop:=PA X es t
section
variable {X:Cx}{e a b:Km}{es:IG Km}{te ta tb:TE}{t:TA}{pos:Pos}
theorem PEi.mk(h:PE X e te):PEi X e te:=by
 unfold PEi;exact h
theorem PAi.nil:PAi X [] jC:=by
 unfold PAi;exact ae
theorem PAi.cons(h:PEi X e te)(g:PAi X es t)(s:∀v p,e≠.Starred v p):PAi X (e::es) (oK te t):=by
 unfold PEi at h;unfold PAi at g ⊢;exact aa h g<|uN s
theorem PEi.lst(h:PAi X es t):PEi X (.List es pos) (qo t):=by
 unfold PAi at h;unfold PEi;exact aN h
theorem DN(ho:OpR X (Nz op) r)(ha:PE X a ta)(hb:PEi X b tb):PE X (.BinOp a op b pos) (lF r ta tb):=by
 unfold PEi at hb;exact aG ho ha hb
end
end L2
namespace KA
open PySem PyProof.Rows
def But(h0 h:JM)(a k:IL):Prop:=∀b o,b≠a->b≠k->h0.get? b=B' o->h.get? b=B' o
section
variable {prog:Jc}{w:Jv}{A:JV}{E:IH->IM->Prop}{s:IM}{h0:JM}{a kS:IL}{vs:IG IH}{kz:IG Int}{PL:J4 IH}{e e1:Nat}{P:Z_->IM->Prop}
theorem But.upA(k:But h0 h a kS)(f:Obj->Obj):But h0 (h.update a f) a kS:=λb o h1 h2 q=>(JR _ _<|Lq h1).trans<|k b o h1 h2 q
theorem But.upK(k:But h0 h a kS)(f:Obj->Obj):But h0 (h.update kS f) a kS:=λb o h1 h2 q=>(JR _ _<|Lq h2).trans<|k b o h1 h2 q
theorem BR{st:KD}(kp:But h0 s.heap a kS)(nk:s.heap.get? kS=B' (KZ "list" PL e))(na:s.heap.get? a=B' (KZ "list" #[] e1))(hka:kS≠a)
  (hk:M5 PL.toList kz) (Lx:kz.length=vs.length) (ZY:vs.length < 64) (hp:(J7 st).Perm (PL.zip vs.toArray)) (hs:SortedTo (J7 st) (J7 st).size) (Zw:Mm st=IV)
  (h:∀h' tk out c,But h0 h' a kS->h'.get? a=B' (KZ "list" out c)->X8 IU kz vs out.toList->P (.done<|.ret .none) {s with heap:=h',toks:=tk}):
  wpAny (Ju prog w) A (ksk_tail a IU e1 (.ref kS) st) P E s:=by
 have hsz:PL.size=vs.length:=by
  have h1:=hk.length;rw[JE]at h1;lia
 have afz:(J7 st).size=vs.length:=by rw[hp.size_eq,WD,hsz,Jn,X_]
 have na1:(s.heap.update kS<|Lb λ_=>(#[]:J4 IH)).get? a=B' (KZ "list" #[] e1):=(JR _ _ hka).trans na;obtain⟨c2,hc2⟩:∃c2,((s.heap.update kS (Lb λ_=>(#[]:J4 IH))).update a (Lb λ_=>(J7 st).map (·.2))).get? a=B' (KZ "list" ((J7 st).map (·.2)) c2):=
  ⟨_,Pz na1 λ_=>(J7 st).map (·.2)⟩
 unfold ksk_tail
 try dsimp only
 refine II<|Oj nk rfl ?_ (by rw[hsz,KS];lia)<|Jw _;refine II<|Qo ?_;refine II<|So na1 rfl ?_;refine II (Oj na1 rfl ?_ (Jw _)<|by simp only [JK,MX,SI];rw[afz,KS];lia);rw[Zw];simp only [Ue,JK,MX];have ko:=ksk_out (b:=IU) hk hp hs;simp only [JK,MX]at ko;exact I0<|h _ _ _ c2 ((kp.upK _).upA _) hc2 ko
theorem HS(kp:But h0 s.heap a kS)(nk:s.heap.get? kS=B' (KZ "list" PL e))(na:s.heap.get? a=B' (KZ "list" #[] e1))(hka:kS≠a)
  (hk:M5 PL.toList kz) (Lx:kz.length=vs.length) (ZY:vs.length < 64)
  (h:∀h' tk out c,But h0 h' a kS->h'.get? a=B' (KZ "list" out c)->X8 IU kz vs out.toList->P (.done<|.ret .none) {s with heap:=h',toks:=tk}):
  wpAny (Ju prog w) A (ksk_end a IU vs.toArray e1 (.ref kS) PL) P E s:=by
 have hsz:PL.size=vs.length:=by
  have h1:=hk.length;rw[JE]at h1;lia
 have hzs:(PL.zip vs.toArray).size=vs.length:=by rw[WD,hsz,Jn,X_]
 unfold ksk_end
 try dsimp only
 simp only [JK,MX];by_cases h2:vs.toArray.size < 2
 ·rw[JF h2,JF h2];refine II<|I0 ?_;rw[VA];refine II (I0 ?_)
  try dsimp only
  refine BR (st:=Qc general' (PL.zip vs.toArray) #[] 7 IV) kp nk na hka hk Lx ZY (VT _) ?_ rfl h;intro i j hij hj;have hj2:j < (PL.zip vs.toArray).size:=hj;rw[hzs]at hj2;rw[Jn]at h2;have:i=j:=by lia
  subst this;exact OI _
 ·rw[JD h2,JD h2];rw[Jn]at h2;rw[ksk_kind hk<|by rw[hsz];lia];refine II<|I0 ?_;refine II (J2 (wpS_sortRuns (a₀:=PL.zip vs.toArray) (st:=Qc oneType' (PL.zip vs.toArray) #[] 7 IV)
   (Q:=λ_ LI=>(J7 LI).Perm (PL.zip vs.toArray)/\Mm LI=IV/\SortedTo (J7 LI) (PL.zip vs.toArray).size)
   (ksk_intKeys hk) ⟨VT _,rfl,rfl,rfl⟩ (by rw[hzs];lia) (by rw[hzs];exact ZY) λLI a1 a2 a3=>⟨a1,a2,a3⟩) ?_ λ_ _ e=>e)
  rintro⟨⟨⟩,LI⟩ s' ⟨rfl,hp,hf,hs⟩
  try dsimp only
  exact BR kp nk na hka hk Lx ZY hp (by rw[hp.size_eq];exact hs) hf h
theorem FP{f:IH}(kp:But h0 s.heap a kS)(nk:s.heap.get? kS=B' (KZ "list" #[] 0))(na:s.heap.get? a=B' (KZ "list" #[] e1))(hka:kS≠a)
  (Lx:kz.length=vs.length) (ZY:vs.length < 64)
  (XF:∀(i:Nat) (v:IH) (k:Int),vs[i]? =B' v->kz[i]? =B' k->∀(h:JM) (tk:Nat) (R:IH->IM->Prop),(∀WE t2,R (.int k t2) {s with heap:=h,toks:=WE})->
   wpAny (Ju prog w) A (call f [v]) R (λ_ _=>False) {s with heap:=h,toks:=tk})
  (h:∀h' tk out c,But h0 h' a kS->h'.get? a=B' (KZ "list" out c)->X8 IU kz vs out.toList->P (.done<|.ret .none) {s with heap:=h',toks:=tk}):
  wpAny (Ju prog w) A (ksk_rest a f IU vs.toArray e1<|.ref kS) P E s:=by
 unfold ksk_rest;refine II<|MY ?_
 first
  |rw[List.forIn_toArray]
  |(rw[<-OB];simp only [S4])
  |rw[<-OB]
 refine II (ksk_fold (λi s'=>∃h' tk kA e,s'={s with heap:=h',toks:=tk}/\But h0 h' a kS/\h'.get? kS=B' (KZ "list" kA e)/\h'.get? a=B' (KZ "list" #[] e1)/\M5 kA.toList (kz.take i)) vs 0 s
  ⟨s.heap,s.toks,#[],0,rfl,kp,nk,na,by simpa using IntsAre.nil⟩ ?step ?done)
 case step=>
  rintro j x s' hx ⟨h',tk,kA,e,rfl,F',nk',na',hk⟩;simp only [Mv]at hk ⊢;have hj:j < vs.length:=(IY.mp hx).1;obtain⟨k,hkj⟩:∃k,kz[j]? =B' k:=⟨_,IZ (by lia)⟩;have hz:kA.size<=vs.length:=by
   have h1:=hk.length;rw[JE,JN]at h1;lia
  refine II<|QP<|J2 (XF j x k hx hkj h' tk (λv s''=>∃WE t2,v=.int k t2/\s''={s with heap:=h',toks:=WE}) λWE t2=>⟨WE,t2,rfl,rfl⟩) (λv s'' he=>?_) λ_ _ hF=>hF.elim;obtain⟨WE,t2,rfl,rfl⟩:=he
  try dsimp only
  obtain⟨c2,hc2⟩:∃c2,(h'.update kS (Lb (·.push (.int k t2)))).get? kS=B' (KZ "list" (kA.push (.int k t2)) c2):=⟨_,Pz nk' (·.push (.int k t2))⟩;have ek:kz.take (j+1)=kz.take j++[k]:=by rw[Kv,hkj];simp
  have ea:(kA.push<|Np k t2).toList=kA.toList++[Np k t2]:=by simp
  refine II (Oj nk' rfl ?_ (by rw[KS];lia)<|KE (UK (Array.size_push ..))<|by rw[KS];lia);refine I0 ⟨rfl,_,_,kA.push<|.int k t2,c2,rfl,F'.upK _,hc2,(JR _ _ hka).trans na',by rw[ea,ek];exact ksk_snoc hk⟩
 case done=>
  rintro s' ⟨h',tk,kA,e,rfl,F',nk',na',hk⟩;have Oc:M5 kA.toList kz:=by
   have e3:kz.take (0+vs.length)=kz:=Jy (by lia);rw[e3]at hk;exact hk
  try dsimp only
  refine II<|UE nk' rfl ?_;exact HS (s:={s with heap:=h',toks:=tk}) F' nk' na' hka Oc Lx ZY h
theorem tree_{f:IH}(ho:s.heap.get? a=B' (KZ "list" vs.toArray n))(Lx:kz.length=vs.length)(ZY:vs.length < 64)
  (XF:∀(i:Nat) (v:IH) (k:Int),vs[i]? =B' v->kz[i]? =B' k->∀(h:JM) (tk:Nat) (R:IH->IM->Prop),(∀WE t2,R (.int k t2) {s with heap:=h,toks:=WE})->
   wpAny (Ju prog w) A (call f [v]) R (λ_ _=>False) {s with heap:=h,toks:=tk})
  (h:∀h' tk out c,(∀b o,b≠a->s.heap.get? b=B' o->h'.get? b=B' o)->h'.get? a=B' (KZ "list" out c)->X8 IU kz vs out.toList->P (.done<|.ret .none) {s with heap:=h',toks:=tk}):
  wpAny (Ju prog w) A (ksk_tree a f IU) P E s:=by
 have ha:a < s.heap.objs.size:=Jh ho;obtain⟨e1,ho1⟩:∃e1,(s.heap.update a (Lb λ_=>(#[]:J4 IH))).get? a=B' (KZ "list" #[] e1):=⟨_,Pz ho λ_=>#[]⟩;have hkS:((s.heap.update a (Lb λ_=>(#[]:J4 IH))).push (KZ "tuple" vs.toArray 0)).objs.size=s.heap.objs.size+1:=by rw[TQ,U']
 unfold ksk_tree;refine II<|UE ho rfl ?_;refine II<|Oj ho rfl ?_ (by rw[Jn,KS];lia)<|Jw _;refine II<|So ho1 rfl ?_;refine II<|V8 ?_ (by show vs.length<=_;rw[KS];lia);refine II<|Pc ?_<|Jw _;refine Ks ?_;refine FP (h0:=s.heap) (s:={s with heap:=((s.heap.update a<|Lb λ_=>(#[]:J4 IH)).push<|KZ "tuple" vs.toArray 0).push<|KZ "list" #[] 0}) (kS:=((s.heap.update a<|Lb λ_=>(#[]:J4 IH)).push<|KZ "tuple" vs.toArray 0).objs.size)
  (λb o h1 h2 q=>IP _<|IP _<|(JR _ _<|Lq h1).trans q) (JB _ rfl) (IP _<|IP _ ho1) (by rw[hkS];exact MN<|LF ha) Lx ZY XF
  λh' tk out c k1 k2 k3=>h h' tk out c (λb o hb q=>k1 b o hb (by rw[hkS];exact Js<|LF<|Jh q) q) k2 k3
end
end KA
namespace L2
open PySem PySem.Spec PyProof.Rows
section
variable {X:Cx}
theorem xb(hi:M5 vs ns)(ko:X8 IU (ns.map g) vs out):∃QX,M5 out QX/\QX.Perm ns/\(QX.map g).Pairwise (·<=·):=by
 obtain⟨ps,hp,ho,hs⟩:=ko;have Lx:=hi.length;have ab_:∀p,p∈(ns.map g).zip vs->p.1=g (XE p.2)/\p.2∈vs:=by
  rw[<-hi.nums,KJ,List.zip_map_left];intro p hp;obtain⟨⟨u,v⟩,hq,rfl⟩:=J1.mp hp;have h1:u=v/\u∈vs:=Rv hq;refine⟨?_,?_⟩
  ·show g (XE u)=g (XE v)
   rw[h1.1]
  ·show v∈vs
   rw[<-h1.1];exact h1.2
 have hI:M5 (ps.map UG) ((ps.map UG).map XE):=intsAre_map _ λv hv=>by
  obtain⟨p,hp',rfl⟩:=J1.mp hv;exact hi.all _ (ab_ p<|hp.mem_iff.mp hp').2
 have hP:((ps.map UG).map XE).Perm ns:=by
  have h1:=(hp.map UG).map XE;rw[Vf (by rw[IR];lia),hi.nums]at h1;exact h1
 exists (ps.map UG).map XE,by rw[ho];exact hI,hP;rw[Kw,Kw,Kw];refine hs.imp_of_mem λ{p q} hp' YS hr=>?_;have YR:p.1<=q.1:=by simpa using hr
 rw[(ab_ p<|hp.mem_iff.mp hp').1,(ab_ q<|hp.mem_iff.mp YS).1]at YR;exact YR
theorem uO{Q:VK}(I:Inv X IT σ H s)(hq:SqL X.K H p (ns.map V.int))(ZY:ns.length < 64)
  (q:∀(l:IL) (QX:IG Int),H l=IV->QX.Perm ns->(QX.map OD.absI).Pairwise (·<=·)->Q (.ref l) (upd H l<|.lst<|QX.map V.int)):
  wpAny (Ju X.prog X.w) X.A (call (.builtin "sorted") [.ref p] [(IK "key",.builtin "abs")]) (EP X IT σ Q) X.xe s:=by
 obtain⟨vs,rv,pl,hz⟩:=I.list hq;have hi:=e_ rv;have Lx:vs.length=ns.length:=Sv hi;refine call_function_entry_kw Ss Ru Rw (ksk_s1 _ _) ?_;unfold Builtin.«sorted»;refine II (m:=Tr "sorted" 1 1 _)<|I0 ?_;refine II (collect_list pl.isList ?_<|by rw[KS];lia);refine II (Pc ?_<|by rw[KS];lia);have hsz:((s.heap.push<|KZ "list" #[] 0).update s.heap.objs.size (Lb (·++vs.toArray))).objs.size=s.heap.objs.size+1:=by
  rw[U',TQ]
 have ZS:(((s.heap.push<|KZ "list" #[] 0).update s.heap.objs.size (Lb (·++vs.toArray))).push<|KZ "list" vs.toArray 0).get? (s.heap.objs.size+1)=B' (KZ "list" vs.toArray 0):=by
  rw[<-hsz];exact JB _ rfl
 have keep:∀b o,s.heap.get? b=B' o->(((s.heap.push<|KZ "list" #[] 0).update s.heap.objs.size (Lb (·++vs.toArray))).push<|KZ "list" vs.toArray 0).get? b=B' o:=λb o q=>by
  have M6:b < s.heap.objs.size:=Jh q;rw[Uw _ _ _ (by rw[hsz];exact Js<|LF M6),N_ _ _ _ _<|Js M6,Uw _ _ _<|Js M6];exact q
 show wpAny _ _ _ _ _ {s with heap:=((s.heap.push<|KZ "list" #[] 0).update s.heap.objs.size (Lb (·++vs.toArray))).push<|KZ "list" vs.toArray 0}
 rw[hsz];refine II<|Ks<|wpAny_call_entry_kw Sn ⟨_,ZS,rfl⟩ RP ?body (ksk_l1 _ _)
 case body=>
  show wpAny (Ju X.prog X.w) X.A.in1.in1 (Builtin.«list.sort» ⟨[.ref<|s.heap.objs.size+1],_⟩) _ _ _
  rw[ksk_t4];refine KA.tree_ (kz:=ns.map OD.absI) (s:={s with heap:=((s.heap.push<|KZ "list" #[] 0).update s.heap.objs.size (Lb (·++vs.toArray))).push<|KZ "list" vs.toArray 0}) ZS (by rw[IR,Lx]) (by lia) (λi v k hv hk h tk R hR=>?_) λh' tk out c k1 k2 k3=>⟨_,rfl,?_⟩
  ·obtain⟨t,rfl⟩:=IntsAre.int_at hi i v hv;rw[Jx]at hk;cases e:ns[i]? with
   |none=>rw[e]at hk;simp at hk
   |some n=>
    rw[e]at hk;have Oc:B' (OD.absI n)=B' k:=hk;cases Oc;have e2:ns.getD i 0=n:=by rw[Jd,e];rfl
    rw[e2];exact Tb (s:={s with heap:=h,toks:=tk}) λu WE=>hR WE u
  ·refine I0 ⟨_,rfl,?_⟩;obtain⟨QX,i1,i2,i3⟩:=xb hi k3;have I2:Inv X IT σ (upd H (s.heap.objs.size+1)<|.lst<|QX.map V.int) {s with heap:=h',toks:=tk}:=by
    refine I.laid (t':=tk) (λb o eb=>?_) (NW _) ?_
    ·have hb:b < s.heap.objs.size:=Jh eb;exact k1 b o (Js<|LF hb)<|keep b o eb
    ·refine⟨?_,out.toList,c,gX i1,by simpa using k2⟩;rw[IR,i2.length_eq];exact KM (aD<|by lia)
   exact⟨.ref<|s.heap.objs.size+1,_,I2,rfl,q _ QX (I.hok.fresh<|NW _) i2 i3⟩
end
end L2
namespace KX
open PySem PyProof.Rows
theorem uP(a v:IH):Wl "max" ⟨[a],[(IK "default",v)]⟩:=by unfold Wl;kernel_rfl
section
variable {prog:Jc}{w:Jv}{A:JV}{R:TF->IM->Prop}{I:IL}{fp wr:IG IL}{n:Nat}{P:Nat->IH->Prop}{St:Nat->JM->Prop}{kw:IG (Str×IH)}
theorem FQ(W:Walks prog w A.in1 I fp wr n P St)(bt:Nat->Nat->Jm)(aaH:CmpOf prog w A.in1 .Gt P bt)(S:IL)(hSf:S∉fp):
  ∀k j s vb c,n - (j+1)=k->j+1<=n->St (j+1) s.heap->P (PP bt j) vb->
  s.heap.get? S=B' {cls:=.type "list",dict:=IV,data:=.seq #[vb,vb] c,slots:=#[]}->
  (∀v h' tk,P (PP bt<|n - 1) v->(∀b o,b∉wr->b≠S->s.heap.get? b=B' o->h'.get? b=B' o)->R (.ok<|.ret v) {s with heap:=h',toks:=tk})->
  codeAny (Ju prog w) A (.builtin "max.loop" ⟨[.ref I,.none,.ref S],kw⟩) R s:=by
 have hSw:S∉wr:=λh=>hSf<|W.sub _ h;have Xr:(toString "max"++toString ".loop":LA)="max.loop":=by decide
 intro k
 induction k with
 |zero=>
  intro j s vb c hk hj R3 hPb hS hR;have YT:j+1=n:=by lia
  refine Le Q9 ?_;rw[KO MU _];show wpAny _ A.in1 (U2 (.ref S) >>=_) _ _ s
  refine II<|NQ hS rfl ?_;show wpAny _ A.in1 (tryCatch (Ou<|.ref I) _ >>=_) _ _ s
  refine II<|Nl<|W.done s _ _ (YT▸R3) λh' tk Oc=>?_;have hS':=Oc S _ hSw hS;show wpAny _ A.in1 (updateSeq S (λ_=>#[]) >>=_) _ _ _
  refine II ?_;refine RJ hS' rfl<|II<|Qo<|I0 ?_;refine hR vb _ tk (by rw[<-YT];exact hPb) λb o hbw hbS e=>(JR _ _<|Lq hbS).trans<|Oc b o hbw e
 |succ k ih=>
  intro j s vb c hk hj R3 hPb hS hR;have M6:j+1 < n:=by lia
  refine Le Q9 ?_;rw[KO MU _];show wpAny _ A.in1 (U2 (.ref S) >>=_) _ _ s
  refine II<|NQ hS rfl ?_;show wpAny _ A.in1 (tryCatch (Ou<|.ref I) _ >>=_) _ _ s
  refine II<|Nl<|W.item (j+1) s _ _ M6 R3 λv h' tk hP hst' Oc=>?_;have hS':=Oc S _ hSw hS;show wpAny _ A.in1 (tryCatch (SO [v,v]<|richCompare .Gt v vb >>=_) _ >>=_) _ _ _
  refine II<|Nl<|Ks<|II<|aaH (j+1) (PP bt j) v vb _ _ _ hP hPb ?_;refine II<|Ks<|Ll ?_;refine II<|Qo<|I0 ?_;cases hb:bt (j+1) (PP bt j)with
  |true=>
   simp only [On];refine II ?_;refine RJ hS' rfl<|II<|Qo ?_;rw[Xr];refine I0 ⟨L0 MU _,ih (j+1) _ v _ (by lia) M6 (W.frame _ _ _ hst' λb hbf o e=>?_) (by simp only [PP,hb,On];exact hP) (KF _ hS' rfl)
    λv' h'' tk'' hP' aaB=>?_⟩
   ·exact(JR _ _ λh:S=b=>hSf<|by rw[h];exact hbf).trans e
   ·exact hR v' h'' tk'' hP' λb o hbw hbS e=>aaB b o hbw hbS<|(JR _ _<|Lq hbS).trans<|Oc b o hbw e
  |false=>
   simp only [JK,MX];refine II<|Qo ?_;rw[Xr];refine I0 ⟨L0 MU _,ih (j+1) _ vb c (by lia) M6 hst' (by simp only [PP,hb,JK,MX];exact hPb) hS' λv' h'' tk'' hP' aaB=>?_⟩;exact hR v' h'' tk'' hP' λb o hbw hbS e=>aaB b o hbw hbS<|Oc b o hbw e
theorem DO(W:Walks prog w A.in1 I fp wr n P St)(bt:Nat->Nat->Jm)(aaH:CmpOf prog w A.in1 .Gt P bt)(S:IL)(hSf:S∉fp){d:IH}{ky:Str}{c:Nat}(R3:St 0 s.heap)
  (hS:s.heap.get? S=B' {cls:=.type "list",dict:=IV,data:=.seq #[] c,slots:=#[]})
  (hR:0 < n->∀v h' tk,P (PP bt<|n - 1) v->(∀b o,b∉wr->b≠S->s.heap.get? b=B' o->h'.get? b=B' o)->R (.ok<|.ret v) {s with heap:=h',toks:=tk})
  (h0:n=0->∀h' tk,(∀b o,b∉wr->b≠S->s.heap.get? b=B' o->h'.get? b=B' o)->R (.ok<|.ret d) {s with heap:=h',toks:=tk}):
  codeAny (Ju prog w) A (.builtin "max.loop" ⟨[.ref I,.none,.ref S],[(ky,d)]⟩) R s:=by
 have hSw:S∉wr:=λh=>hSf<|W.sub _ h;have Xr:(toString "max"++toString ".loop":LA)="max.loop":=by decide
 refine Le Q9 ?_;rw[KO MU _];show wpAny _ A.in1 (U2 (.ref S) >>=_) _ _ s
 refine II<|NQ hS rfl ?_;show wpAny _ A.in1 (tryCatch (Ou<|.ref I) _ >>=_) _ _ s
 by_cases hn:0 < n
 ·refine II<|Nl<|W.item 0 s _ _ hn R3 λv h' tk hP hst' Oc=>?_;have hS':=Oc S _ hSw hS;show wpAny _ A.in1 (updateSeq S (λ_=>#[v,v]) >>=_) _ _ _
  refine II ?_;refine RJ hS' rfl ?_;rw[Xr];refine I0 ⟨L0 MU _,FQ W bt aaH S hSf _ 0 _ v _ rfl hn (W.frame _ _ _ hst' λb hbf o e=>?_) hP (KF _ hS' rfl) λv' h'' tk'' hP' aaB=>?_⟩
  ·exact(JR _ _ λh:S=b=>hSf<|by rw[h];exact hbf).trans e
  ·exact hR hn v' h'' tk'' hP' λb o hbw hbS e=>aaB b o hbw hbS<|(JR _ _<|Lq hbS).trans<|Oc b o hbw e
 ·have hn0:0=n:=by lia
  refine II<|Nl<|W.done s _ _ (hn0▸R3) λh' tk Oc=>?_;refine II<|MY<|I0 ?_;exact h0 hn0.symm h' tk λb o hbw hbS e=>Oc b o hbw e
end
section
variable {prog:Jc}{w:Jv}{A:JV}{E:IH->IM->Prop}{s:IM}
theorem FR{x d:IH}{Q:IH->IM->Prop}
  (h:wpAny (Ju prog w) A.in1 (R7 x) (λit s₂=>∃I fp wr n P St bt,it=.ref I/\Walks prog w A.in1 I fp wr n P St/\St 0 s₂.heap/\(∀b∈fp,b < s₂.heap.objs.size)/\CmpOf prog w A.in1 .Gt P bt/\
   (0 < n->∀v h' tk,P (PP bt<|n - 1) v->(∀b o,b∉wr->s₂.heap.get? b=B' o->h'.get? b=B' o)->Q v {s₂ with heap:=h',toks:=tk})/\
   (n=0->∀h' tk,(∀b o,b∉wr->s₂.heap.get? b=B' o->h'.get? b=B' o)->Q d {s₂ with heap:=h',toks:=tk})) E s):
  wpAny (Ju prog w) A (call (.builtin "max") [x] [(IK "default",d)]) Q E s:=by
 have Xr:(toString "max"++toString ".loop":LA)="max.loop":=by decide
 refine kmk_tree F.kind_max F.plain_max F.entry_max (uP _ _) ?_;show wpAny _ A.in1 (PV "max" ["key","default"] 0 ⟨[],[(IK "default",d)]⟩ >>=_) _ _ s
 refine II<|Vl (show PV "max" ["key","default"] 0 ⟨[],[(IK "default",d)]⟩=pure [IV,B' d]from rfl) ?_;refine II<|I0 ?_;refine II<|J2 h (λit s₂ h₂=>?_) λ_ _ e=>e;obtain⟨I,fp,wr,n,P,St,bt,rfl,W,R3,hfp,aaH,hQ,hQ0⟩:=h₂;refine II<|M9 ?_;have hSf:s₂.heap.objs.size∉fp:=λhm=>Lv _<|hfp _ hm;rw[Xr];refine I0 ⟨L0 MU _,DO W bt aaH s₂.heap.objs.size hSf (W.frame _ _ _ R3 λb _ o e=>IP _ e) (JB _ rfl) (λhn v h' tk hP hk=>?_) λhn h' tk hk=>?_⟩
 ·exact hQ hn v h' tk hP λb o hbw e=>hk b o hbw (Js<|Jh e)<|IP _ e
 ·exact hQ0 hn h' tk λb o hbw e=>hk b o hbw (Js<|Jh e)<|IP _ e
theorem max_listD{d:IH}{Q:IH->IM->Prop}(hh:A.handled=IV)(hl:s.heap.IsList l (NS xs))
  (h:0 < xs.size->∀v h' tk,(NS xs)[PP (λi j=>decide (Xx xs i > Xx xs j)) (xs.size - 1)]? =B' v->(∀b o,s.heap.get? b=B' o->h'.get? b=B' o)->Q v {s with heap:=h',toks:=tk})
  (h0:xs.size=0->∀h' tk,(∀b o,s.heap.get? b=B' o->h'.get? b=B' o)->Q d {s with heap:=h',toks:=tk}):
  wpAny (Ju prog w) A (call (.builtin "max") [.ref l] [(IK "default",d)]) Q E s:=by
 refine FR<|iter_intList hl λs₂ e st hfp hlI=>?_;subst e;refine⟨_,_,_,_,_,_,_,rfl,P7 (A:=A.in1) hh _ l hlI<|NS xs,st,hfp,CmpOf.ints_gt (Xx xs) λ_ _=>intItems_at,λhn v h' tk hP hk=>?_,λhn h' tk hk=>?_⟩
 ·exact h (by simpa [NS]using hn) v h' tk (by simpa [NS]using hP)<|old_kept hk
 ·exact h0 (by simpa [NS]using hn) h' tk<|old_kept hk
end
end KX
namespace L2
open PySem PySem.Spec PyProof.Rows
section
variable {X:Cx}
theorem pA(hi:M5 vs ns)(e:vs.toArray=NS xs)(hn:0 < xs.size)(hv:(NS xs)[PP (λi j=>decide (Xx xs i > Xx xs j)) (xs.size - 1)]? =B' v):∃M t,v=.int M t/\M∈ns/\∀a∈ns,a<=M:=by
 have hns:xs.toList.map (·.1)=ns:=by
  rw[<-W2,<-e];exact hi.numsOf
 obtain⟨t,rfl⟩:=intItems_at hv;obtain⟨h1,h2⟩:=argBest_gt (Xx xs)<|xs.size - 1;refine⟨_,t,rfl,?_,λa ha=>?_⟩
 ·rw[numAt_eq,hns];exact getD_mem (by rw[<-hns,IR,JE];lia)
 ·obtain⟨j,hj,rfl⟩:=mem_getD ha;rw[<-hns,IR,JE]at hj;have:=h2 j (by lia);rw[numAt_eq,hns]at this;exact this
def HU(K:IJ):IG V->Hp->VK->Prop:=λxs H Q=>∃(p:IL) (ns:IG Int),xs=[.ref p]/\SqL K H p (ns.map V.int)/\ns≠[]/\∀M,M∈ns->(∀a∈ns,a<=M)->Q (.int M) H
theorem uQ(hc:X.calm=IS):dJ X (.builtin "max") (HU X.K):=by
 intro IT s σ H xs us Q I r h;obtain⟨p,ns,rfl,hq,S8,q⟩:=h;obtain⟨u,rfl,ru⟩:=eZ r;cases ru;obtain⟨vs,rv,pl,hz⟩:=I.list hq;have hi:=e_ rv;obtain⟨ys,e⟩:=hi.allInts.items;have hl:=pl.isList;rw[e]at hl;have hn:0 < ys.size:=by
  have h1:(NS ys).size=ys.size:=by simp [NS]
  rw[<-h1,<-e,Jn,Sv hi];exact S6.mpr S8
 refine max_intList (I.ok.hd hc) hl hn λv h' tk hv hk=>?_;obtain⟨M,t,rfl,m1,m2⟩:=pA hi e hn hv;exact⟨.int M,H,I.kept hk,⟨t,rfl⟩,q M m1 m2⟩
def xc(K:IJ):V->V->Hp->VK->Prop:=λx d H Q=>∃(p:IL) (ns:IG Int),x=.ref p/\SqL K H p (ns.map V.int)/\(ns=[]->Q d H)/\∀M,M∈ns->(∀a∈ns,a<=M)->Q (.int M) H
def FS(K:IJ)(te td:TE):TE:=λσ H Q=>te σ H λx H1=>td σ H1 λd H2=>xc K x d H2 Q
theorem Aj{p1 kp q1:Pos}(hc:X.calm=IS)(hg1:Gl X "max")(XJ:X.mg "max"=IV)(he:PE X e te)(hd:PE X dv td)
  (hs:JI [e] X.env=[(IU,LN e X.env)]:=by rfl):
  PE X (.Call (.Name "max" p1) [e] [⟨B' "default",dv,kp⟩] q1) (FS X.K te td):=by
 intro IT s σ H Q I h;refine La<|eD I hg1 XJ RZ ?_;refine QU (bT (aa he (ae (X:=X)) (by rw[hs];rfl) q1 IT s σ H (wt λx H1=>td σ H1 λd H2=>xc X.K x d H2 Q) I h) λus s1 ⟨vs,H1,I1,r1,q1'⟩=>?_) (by rw[hs];rfl) (by rw[hs];rfl) rfl rfl;obtain⟨x,e1,h1⟩:=iD q1';subst e1;obtain⟨u,rfl,ru⟩:=eZ r1;refine RY<|bT (hd IT s1 σ H1 _ I1 h1) λud s2 ⟨d,H2,I2,r2,h2⟩=>Sr ?_;obtain⟨p,ns,rfl,hq,q0,q⟩:=h2;cases ru;obtain⟨vs,rv,pl,hz⟩:=I2.list hq;have hi:=e_ rv;obtain⟨ys,e⟩:=hi.allInts.items;have hl:=pl.isList;rw[e]at hl;have hsz:ys.size=ns.length:=by
  have h1:(NS ys).size=ys.size:=by simp [NS]
  rw[<-h1,<-e,Jn,Sv hi]
 show wpAny _ _ (call (.builtin "max") [.ref p] [(IK "default",ud)]) _ _ _
 refine KX.max_listD (I2.ok.hd hc) hl (λhn v h' tk hv hk=>?_) λhn h' tk hk=>?_
 ·obtain⟨M,t,rfl,m1,m2⟩:=pA hi e hn hv;exact⟨.int M,H2,I2.kept hk,⟨t,rfl⟩,q M m1 m2⟩
 ·exact⟨d,H2,I2.kept hk,r2,q0<|Kt.mp<|by lia⟩
def kL(K:IJ):V->Hp->VK->Prop:=λx H Q=>∃(p:IL) (ns:IG Int),x=.ref p/\SqL K H p (ns.map V.int)/\ns.length < 64/\
 ∀(l:IL) (QX:IG Int),H l=IV->QX.Perm ns->(QX.map OD.absI).Pairwise (·<=·)->Q (.ref l) (upd H l<|.lst<|QX.map V.int)
def xf(K:IJ)(te:TE):TE:=λσ H Q=>te σ H λx H1=>kL K x H1 Q
theorem qN{p1 p2 kp q1:Pos}(hg1:Gl X "sorted")(XJ:X.mg "sorted"=IV)(hg2:Gl X "abs")(ZT:X.mg "abs"=IV)(he:PE X e te)
  (hs:JI [e] X.env=[(IU,LN e X.env)]:=by rfl):
  PE X (.Call (.Name "sorted" p1) [e] [⟨B' "key",.Name "abs" p2,kp⟩] q1) (xf X.K te):=by
 intro IT s σ H Q I h;refine La<|eD I hg1 XJ Nt ?_;refine QU (bT (aa he (ae (X:=X)) (by rw[hs];rfl) q1 IT s σ H (wt λx H1=>kL X.K x H1 Q) I h) λus s1 ⟨vs,H1,I1,r1,q1'⟩=>?_) (by rw[hs];rfl) (by rw[hs];rfl) rfl rfl;obtain⟨x,e1,p,ns,rfl,hq,ZY,q⟩:=iD q1';subst e1;obtain⟨u,rfl,ru⟩:=eZ r1;cases ru;refine RY<|eD I1 hg2 ZT J5<|Sr ?_;show wpAny _ _ (call (.builtin "sorted") [.ref p] [(IK "key",.builtin "abs")]) _ _ _
 exact uO I1 hq ZY q
end
end L2
namespace OD
open PySem L2
def eJ(f s:IG Int)(v:Int):Jm:=(f.filter λl=>!decide (absI l=v)).any λl=>s.contains (-l)
def fw(f s:IG Int)(v:Int):IG Int:=(f++s.filter λl=>!f.contains l).filter λl=>!decide (absI l=v)
def Ups(c:IG Int):Prop:=(c.map absI).Pairwise (· < ·)
def Joins(f s:IG Int)(v:Int)(r:IG Int):Prop:=Ups r/\∀l,l∈r↔(l∈f\/l∈s)/\absI l≠v
theorem kM(h:absI a=absI b):a=b\/b=-a:=by
 obtain⟨_,e⟩|⟨_,e⟩:=bC a<;>obtain⟨_,e'⟩|⟨_,e'⟩:=bC b<;>lia
theorem Ups.tail(h:Ups (x::c)):Ups c:=(Ls.mp h).2
theorem Ups.head(h:Ups (x::c)):∀l∈c,absI x < absI l:=λl hl=>(Ls.mp h).1 _<|MK hl
theorem Ups.inj(h:Ups c)(ha:a∈c)(hb:b∈c)(e:absI a=absI b):a=b:=by
 induction c with
 |nil=>cases ha
 |cons x c ih=>
  obtain ea|ha2:=JC.mp ha
  ·obtain eb|hb2:=JC.mp hb
   ·rw[ea,eb]
   ·have:=h.head b hb2;rw[<-ea]at this;lia
  ·obtain eb|hb2:=JC.mp hb
   ·have:=h.head a ha2;rw[<-eb]at this;lia
   ·exact ih h.tail ha2 hb2
theorem Ups.nodup(h:Ups c):c.Nodup:=(Kw.mp h).imp λ{a b} hab e=>by subst e;lia
theorem pB:∀{a b:IG Int},Ups a->Ups b->(∀l,l∈a↔l∈b)->a=b
 |[],[],_,_,_=>rfl
 |[],y::b,_,_,h=>absurd ((h y).mpr Jp) (by simp)
 |x::a,[],_,_,h=>absurd ((h x).mp Jp) (by simp)
 |x::a,y::b,ha,hb,h=>by
  have e:x=y:=by
   obtain z|z:=JC.mp ((h x).mp Jp)
   ·exact z
   ·obtain w|w:=JC.mp ((h y).mpr Jp)
    ·exact w.symm
    ·have:=hb.head x z;have:=ha.head y w;lia
  subst e;rw[pB ha.tail hb.tail λz=>?_];constructor
  ·intro hz;obtain w|w:=JC.mp ((h z).mp<|Jk _ hz)
   ·have:=ha.head z hz;rw[w]at this;lia
   ·exact w
  ·intro hz;obtain w|w:=JC.mp ((h z).mpr<|Jk _ hz)
   ·have:=hb.head z hz;rw[w]at this;lia
   ·exact w
theorem Joins.uniq(h:Joins f s v a)(h':Joins f s v b):a=b:=pB h.1 h'.1 λl=>(h.2 l).trans (h'.2 l).symm
theorem mem_rest:l∈fw f s v↔(l∈f\/l∈s)/\absI l≠v:=by
 unfold fw;rw[Kr,JA,Kr];constructor
 ·rintro⟨h,h2⟩;refine⟨h.imp id λz=>z.1,λe=>?_⟩;rw[Jj e]at h2;cases h2
 ·rintro⟨h,h2⟩;refine⟨?_,by rw[IW h2];rfl⟩;by_cases hf:l∈f
  ·exact .inl hf
  ·refine .inr ⟨h.resolve_left hf,?_⟩;simpa using hf
theorem pC(h:eJ f s v=IU)(hl:l∈f)(hv:absI l≠v):-l∉s:=λhs=>by
 have:eJ f s v=true:=Ms.mpr ⟨l,Kr.mpr ⟨hl,by rw[IW hv];rfl⟩,by simpa using hs⟩;rw[h]at this;cases this
theorem xg(hf:Ups f)(hs:Ups s)(hv:eJ f s v=IU)(ha:a∈fw f s v)(hb:b∈fw f s v)(e:absI a=absI b):a=b:=by
 obtain⟨a1,a2⟩:=mem_rest.mp ha;obtain⟨b1,b2⟩:=mem_rest.mp hb;obtain a1|a1:=a1<;>obtain b1|b1:=b1
 ·exact hf.inj a1 b1 e
 ·obtain z|z:=kM e
  ·exact z
  ·exact absurd (z▸b1)<|pC hv a1 a2
 ·obtain z|z:=kM e.symm
  ·exact z.symm
  ·exact absurd (z▸a1)<|pC hv b1 b2
 ·exact hs.inj a1 b1 e
theorem qO(hf:Ups f)(hs:Ups s):(fw f s v).Nodup:=by
 refine Pp _<|LG.mpr ⟨hf.nodup,Pp _ hs.nodup,?_⟩;intro a ha b hb e;subst e;obtain⟨_,h⟩:=Kr.mp hb;rw[JX.mpr ha]at h;cases h
theorem qP:∀{r:IG Int},(r.map absI).Pairwise (·<=·)->r.Nodup->(∀a∈r,∀b∈r,absI a=absI b->a=b)->Ups r
 |[],_,_,_=>.nil
 |x::r,h,n,i=>by
  obtain⟨h1,h2⟩:=Ls.mp h;obtain⟨n1,n2⟩:=LQ.mp n;refine Ls.mpr ⟨λz hz=>?_,qP h2 n2 λa ha b hb=>i a (Jk _ ha) b<|Jk _ hb⟩;obtain⟨y,hy,rfl⟩:=J1.mp hz;have:=h1 _ hz;have ne:absI x≠absI y:=λe=>n1<|i x Jp y (Jk _ hy) e▸hy;lia
theorem pD(hf:Ups f)(hs:Ups s)(hv:eJ f s v=IU)(hp:r.Perm (fw f s v))(ho:(r.map absI).Pairwise (·<=·)):Joins f s v r:=
 ⟨qP ho (hp.nodup_iff.mpr<|qO hf hs) λa ha b hb e=>xg hf hs hv (hp.mem_iff.mp ha) (hp.mem_iff.mp hb) e,λl=>hp.mem_iff.trans mem_rest⟩
def gj(t:Str)(hw:Jm)(c:IG Int):Int:=((c.filter λl=>!(fi t (absI l - 1).toNat == hw)).map absI).foldl max 0
def cZ(t:Str)(hw:Jm)(c:IG Int):IG Int:=c.filter λl=>decide (absI l<=gj t hw c)
theorem hG:∀(ns:IG Int) (b:Int),(b<=ns.foldl max b/\∀a∈ns,a<=ns.foldl max b)/\(ns.foldl max b=b\/ns.foldl max b∈ns)
 |[],b=>⟨⟨OI _,λ_ h=>nomatch h⟩,.inl rfl⟩
 |x::r,b=>by
  obtain⟨⟨h1,h2⟩,h3⟩:=hG r<|max b x;rw[NA];refine⟨⟨by lia,λa ha=>?_⟩,?_⟩
  ·obtain rfl|ha:=JC.mp ha
   ·lia
   ·exact h2 a ha
  ·obtain h3|h3:=h3
   ·by_cases g:b<=x
    ·right
     rw[h3,Int.max_eq_right g];exact Jp
    ·left
     rw[h3,Int.max_eq_left<|by lia]
   ·exact .inr<|Jk _ h3
theorem xh{ns:IG Int}{M:Int}(h0:∀a∈ns,0<=a)(h1:M∈ns\/M=0)(h2:∀a∈ns,a<=M)(h3:0<=M):ns.foldl max 0=M:=by
 obtain⟨⟨a1,a2⟩,a3⟩:=hG ns 0;have:ns.foldl max 0<=M:=by
  obtain e|e:=a3
  ·rw[e];exact h3
  ·exact h2 _ e
 have:M<=ns.foldl max 0:=by
  obtain h1|h1:=h1
  ·exact a2 _ h1
  ·rw[h1];exact a1
 lia
theorem mem_vars:z∈dh t hw↔1<=z/\z<=(t.length:Int)/\fi t (z - 1).toNat=hw:=by
 unfold dh;rw[J1];constructor
 ·rintro⟨i,hi,rfl⟩;obtain⟨h1,h2⟩:=Kr.mp hi;have:=Lu.mp h1;have e:((i:Int)+1 - 1).toNat=i:=by lia
  rw[e];exact⟨by lia,by lia,by simpa using h2⟩
 ·rintro⟨h1,h2,h3⟩;refine⟨(z - 1).toNat,Kr.mpr ⟨Lu.mpr (by lia),?_⟩,by lia⟩;rw[h3];exact NZ _
theorem Ak(h1:1<=absI l)(h2:absI l<=(t.length:Int)):(dh t (!hw)).contains (absI l)=!(fi t (absI l - 1).toNat == hw):=by
 cases g:fi t (absI l - 1).toNat == hw with
 |true=>
  have g':fi t (absI l - 1).toNat=hw:=by simpa using g
  cases z:(dh t (!hw)).contains (absI l)with
  |false=>rfl
  |true=>
   have z2:=(mem_vars.mp<|by simpa using z).2.2;rw[g']at z2;cases hw<;>cases z2
 |false=>
  have g':fi t (absI l - 1).toNat=!hw:=by
   cases a:fi t (absI l - 1).toNat<;>cases hw<;>simp_all
  have:absI l∈dh t (!hw):=mem_vars.mpr ⟨h1,h2,g'⟩;simpa using this
def dr(f s:IG Int)(v:Int):IG Int:=(fw f s v).mergeSort λa b=>decide (absI a<=absI b)
theorem jw(hf:Ups f)(hs:Ups s)(hv:eJ f s v=IU):Joins f s v (dr f s v):=by
 refine pD hf hs hv (List.mergeSort_perm _ _) ?_;have h:=List.pairwise_mergeSort (le:=λa b:Int=>decide (absI a<=absI b)) (λa b c h1 h2=>by simp at*;lia) (λa b=>by simp;lia)<|fw f s v;rw[Kw];exact h.imp λ{a b} e=>by simpa using e
theorem Joins.eq(hf:Ups f)(hs:Ups s)(hv:eJ f s v=IU)(h:Joins f s v r):r=dr f s v:=h.uniq<|jw hf hs hv
def bh(many:Nat):Jg->IQ Nat
 |.int z=>if 0<=z/\z < (many:Int)then B' z.toNat else IV
 |_=>IV
theorem bZ(h:bh many d=B' i):i < many/\d=.int (i:Int):=by
 cases d with
 |int z=>
  have h':(if 0<=z/\z < (many:Int)then B' z.toNat else IV)=B' i:=h
  split at h'
  ·rename_i c;cases h';exact⟨by lia,by congr 1;lia⟩
  ·cases h'
 |_=>cases h
def pE(w:Str):Jg->Jm
 |.str x=>decide (x=w)
 |_=>IU
theorem xi(d:Jg)(w:Str):Kh d (.str w)=pE w d:=by
 cases d with
 |str x=>
  rw[Kh];show(x == w)=decide (x=w)
  by_cases h:x=w
  ·rw[h];simp
  ·rw[IW h];exact Li.mpr h
 |_=>first|(unfold Kh;rfl)|(simp [Kh,pE])
def bK(w:Str)(n:Nat):Jg->Jm
 |.tuple ds=>decide (ds.length=n)&&pE w (ds.getD 0 .none)
 |_=>IU
def aS(n:Nat)(c:IG Int):Prop:=Ups c/\∀l∈c,1<=absI l/\absI l<=(n:Int)
def gL(t:Str)(hw:Jm)(sets:IG (IG Int))(d:Jg):IQ (IG Int):=(bh sets.length d).map λi=>cZ t hw<|sets.getD i []
def dM(t:Str)(hw:Jm)(f s:IG Int)(z:Int):Jm:=(dh t (!hw)).contains z&&(f.contains z&&(s.contains (-z)&&!eJ f s z))
def dw(t:Str)(hw:Jm)(sets:IG (IG Int))(d1 d2 d3:Jg):IQ (IG Int):=
 match bh sets.length d1,bh sets.length d2,d3 with
 |some i,B' j,.int z=>if dM t hw (sets.getD i []) (sets.getD j []) z=IS then B' (dr (sets.getD i []) (sets.getD j []) z)else IV
 |_,_,_=>IV
def RV(H:Hp)(o:IQ (IG Int))(v:V):Prop:=
 match o with
 |none=>v=.non
 |some c=>CL H c v
theorem sG:∀{c:IG Int} {n b:Int},Ups c->(∀l∈c,b < absI l/\absI l<=n)->(c.length:Int)<=max 0 (n - b)
 |[],n,b,_,_=>by simp;lia
 |x::c,n,b,h,g=>by
  have g1:=g x Jp;have ih:=sG (n:=n) (b:=absI x) h.tail λl hl=>⟨h.head l hl,(g l<|Jk _ hl).2⟩;rw[JJ];lia
theorem cQ(h:aS n c):c.length<=n:=by
 have:=sG (n:=(n:Int)) (b:=0) h.1 λl hl=>⟨by have:=(h.2 l hl).1;lia,(h.2 l hl).2⟩;lia
def kN(c:IG Int)(cs:IG (IG Int)):Jm:=cs.all λk=>c.any λl=>k.contains l
def zD:Jg->Int
 |.int z=>z
 |_=>0
def jx:Jg->IG Int
 |.tuple ds=>ds.map zD
 |_=>[]
def iJ(n:Nat)(cs:IG (IG Int))(d:Jg):IQ (IG Int):=if(lJ (n:Int) d&&kN (jx d) cs)=IS then B' (jx d)else IV
def gM:Jg->Nat->Jg
 |.tuple ds,i=>ds.getD i .none
 |_,_=>.none
def aR:Str:=IK "given"
def bp:Str:=IK "hits"
def aV:Str:=IK "join"
def aC:Str:=IK "drop"
def kO(cs:IG (IG Int))(d:Jg):IQ (IG Int):=(bh cs.length d).map λi=>cs.getD i []
def aM(t:Str)(cs:IG (IG Int))(hw:Jm)(sets:IG (IG Int))(d:Jg):IQ (IG Int):=
 if(!hw&&bK aR 2 d)=IS then kO cs (gM d 1)
 else if(hw&&bK bp 2 d)=IS then iJ t.length cs (gM d 1)
 else if bK aV 4 d=IS then dw t hw sets (gM d 1) (gM d 2) (gM d 3)
 else if bK aC 2 d=IS then gL t hw sets (gM d 1)
 else IV
def bq(t:Str)(cs:IG (IG Int))(hw:Jm)(sets:IG (IG Int)):IG Jg->IG (IG Int)×Jm
 |[]=>(sets,IS)
 |d::r=>match aM t cs hw sets d with
  |none=>(sets,IU)
  |some c=>bq t cs hw (sets++[c]) r
theorem pF:∀{ds:IG Jg} {n b:Int},ii n b ds=IS->ds=(ds.map zD).map Ox/\Ups (ds.map zD)/\∀l∈ds.map zD,b < absI l/\absI l<=n
 |[],_,_,_=>⟨rfl,.nil,λ_ h=>nomatch h⟩
 |e::ds,n,b,h=>by
  obtain⟨z,rfl⟩|hn:=nI e
  ·rw[kx]at h
   split at h
   ·rename_i hb;obtain⟨h1,h2,h3⟩:=pF h;refine⟨?_,Ls.mpr ⟨λy hy=>?_,h2⟩,λl hl=>?_⟩
    ·rw[J',J',<-h1];rfl
    ·obtain⟨l,hl,rfl⟩:=J1.mp hy;exact(h3 l hl).1
    ·obtain rfl|hl:=JC.mp hl
     ·exact hb
     ·have:=h3 l hl;lia
   ·cases h
  ·rw[pj hn]at h;cases h
theorem sI{n:Nat}{d:Jg}(h:lJ (n:Int) d=IS):d=fM (jx d)/\aS n (jx d):=by
 cases d with
 |tuple ds=>
  obtain⟨h1,h2,h3⟩:=pF (ds:=ds) (n:=n) (b:=0) h;refine⟨?_,h2,λl hl=>?_⟩
  ·show Nx ds=.tuple ((ds.map zD).map .int)
   rw[<-h1]
  ·have:=h3 l hl;exact⟨by lia,this.2⟩
 |_=>cases h
theorem sJ:∀{c:IG Int} {n b:Int},Ups c->(∀l∈c,b < absI l/\absI l<=n)->ii n b (c.map .int)=IS
 |[],_,_,_,_=>rfl
 |x::c,n,b,h,g=>by
  rw[J',kx,JF<|g x Jp];exact sJ h.tail λl hl=>⟨h.head l hl,(g l<|Jk _ hl).2⟩
theorem Al(h:aS n c):lJ (n:Int) (fM c)=true:=sJ h.1 λl hl=>⟨by have:=(h.2 l hl).1;lia,(h.2 l hl).2⟩
theorem jO{n:Nat}{cs:IG (IG Int)}(h:∀c∈cs,aS n c){i:Nat}(hi:i < cs.length):aS n (cs.getD i []):=by
 rw[Jd,IZ hi];exact h _<|O' hi
theorem pG(h:aS n c):aS n (cZ t hw c):=
 ⟨Kw.mpr<|Pp _<|Kw.mp h.1,λl hl=>h.2 l (Kr.mp hl).1⟩
theorem pH(hf:aS n f)(hs:aS n s)(hv:eJ f s v=IU):aS n (dr f s v):=by
 obtain⟨h1,h2⟩:=jw hf.1 hs.1 hv;exact⟨h1,λl hl=>((h2 l).mp hl).1.elim (hf.2 l)<|hs.2 l⟩
theorem xj(hs:∀c∈sets,aS n c)(h:gL t hw sets d=B' c):aS n c:=by
 unfold gL at h;cases e:bh sets.length d with
 |none=>rw[e]at h;cases h
 |some i=>
  rw[e]at h;cases h;exact pG<|jO hs (bZ e).1
theorem xk(hs:∀c∈sets,aS n c)(h:dw t hw sets d1 d2 d3=B' c):aS n c:=by
 unfold dw at h;cases e1:bh sets.length d1 with
 |none=>rw[e1]at h;cases h
 |some i=>
 cases e2:bh sets.length d2 with
 |none=>rw[e1,e2]at h;cases h
 |some j=>
 rw[e1,e2]at h;cases d3 with
 |int z=>
  have h':(if dM t hw (sets.getD i []) (sets.getD j []) z=IS then B' (dr (sets.getD i []) (sets.getD j []) z)else IV)=B' c:=h
  split at h'
  ·rename_i g;cases h';unfold dM at g;rw[JT,JT,JT]at g;refine pH (jO hs (bZ e1).1) (jO hs (bZ e2).1) ?_;have:=g.2.2.2;revert this;cases eJ (sets.getD i []) (sets.getD j []) z<;>simp
  ·cases h'
 |_=>cases h
theorem xl(hc:∀c∈cs,aS t.length c)(hs:∀c∈sets,aS t.length c)(h:aM t cs hw sets d=B' c):aS t.length c:=by
 unfold aM at h
 split at h
 ·unfold kO at h;cases e:bh cs.length (gM d 1)with
  |none=>rw[e]at h;cases h
  |some i=>
   rw[e]at h;cases h;exact jO hc (bZ e).1
 split at h
 ·unfold iJ at h
  split at h
  ·rename_i g;cases h;rw[JT]at g;exact(sI g.1).2
  ·cases h
 split at h
 ·exact xk hs h
 split at h
 ·exact xj hs h
 ·cases h
theorem nO(hc:∀c∈cs,aS t.length c):∀{ds:IG Jg} {sets:IG (IG Int)},(∀c∈sets,aS t.length c)->∀c∈(bq t cs hw sets ds).1,aS t.length c
 |[],sets,h=>h
 |d::r,sets,h=>by
  show∀c∈(match aM t cs hw sets d with|none=>(sets,IU)|some c=>bq t cs hw (sets++[c]) r).1,aS t.length c
  cases e:aM t cs hw sets d with
  |none=>exact h
  |some c=>
   refine nO hc λz hz=>?_;obtain hz|hz:=JA.mp hz
   ·exact h z hz
   ·rw[Jf.mp hz];exact xl hc h e
theorem mx{d:Jg}:∀{ds:IG Jg} {sets out:IG (IG Int)},bq t cs hw sets ds=(out,IS)->
  bq t cs hw sets (ds++[d])=match aM t cs hw out d with|none=>(out,IU)|some c=>(out++[c],IS)
 |[],sets,out,h=>by
  cases h;rfl
 |e::r,sets,out,h=>by
  have h':(match aM t cs hw sets e with|none=>(sets,IU)|some c=>bq t cs hw (sets++[c]) r)=(out,IS):=h;show(match aM t cs hw sets e with|none=>(sets,IU)|some c=>bq t cs hw (sets++[c])<|r++[d])=_
  cases g:aM t cs hw sets e with
  |none=>rw[g]at h';cases h'
  |some c=>
   rw[g]at h';exact mx h'
theorem iK(h:bK w n d=IS):∃ds,d=.tuple ds/\ds.length=n:=by
 cases d with
 |tuple ds=>
  have h':(decide (ds.length=n)&&pE w (ds.getD 0 .none))=true:=h;rw[JT]at h';exact⟨ds,rfl,Kd h'.1⟩
 |_=>cases h
theorem pI{n:Nat}:∀{c:IG Int} {b:Int},FD b c->Ups c/\∀l∈c,b < absI l
 |[],_,_=>⟨.nil,λ_ h=>nomatch h⟩
 |x::c,b,h=>by
  obtain⟨h1,h2⟩:=pI (n:=n) h.2;refine⟨Ls.mpr ⟨λy hy=>?_,h1⟩,λl hl=>?_⟩
  ·obtain⟨l,hl,rfl⟩:=J1.mp hy;exact h2 l hl
  ·obtain rfl|hl:=JC.mp hl
   ·exact h.1
   ·have:=h2 l hl;have:=h.1;lia
theorem uR{n:Nat}{c:IG Int}(h:ig (n:Int) c):aS n c:=by
 obtain⟨h1,h2⟩:=pI (n:=n) h.1;exact⟨h1,λl hl=>⟨by have:=h2 l hl;lia,h.2 l hl⟩⟩
theorem jy:∀{a:IG Jg} {sets:IG (IG Int)},bq t cs hw sets (a++b)=if(bq t cs hw sets a).2=IS then bq t cs hw (bq t cs hw sets a).1 b else bq t cs hw sets a
 |[],sets=>rfl
 |d::a,sets=>by
  show(match aM t cs hw sets d with|none=>(sets,IU)|some c=>bq t cs hw (sets++[c])<|a++b)=if(match aM t cs hw sets d with|none=>(sets,IU)|some c=>bq t cs hw (sets++[c]) a).2=IS then bq t cs hw (match aM t cs hw sets d with|none=>(sets,IU)|some c=>bq t cs hw (sets++[c]) a).1 b else(match aM t cs hw sets d with|none=>(sets,IU)|some c=>bq t cs hw (sets++[c]) a)
  cases e:aM t cs hw sets d with
  |none=>rfl
  |some c=>exact jy
theorem nP(h:bq t cs hw [] (ds.take i)=(sets,IS))(hd:ds[i]? =B' d)(hl:aM t cs hw sets d=IV):bq t cs hw [] ds=(sets,IU):=by
 have e:ds=ds.take i++d::ds.drop (i+1):=by
  obtain⟨hi,rfl⟩:=IY.mp hd;rw[<-Mk hi,KU]
 rw[e,jy,h,JF rfl];show(match aM t cs hw sets d with|none=>(sets,IU)|some c=>bq t cs hw (sets++[c])<|ds.drop<|i+1)=_
 rw[hl]
theorem run_next{t:Str}{cs:IG (IG Int)}{hw:Jm}{ds:IG Jg}{sets:IG (IG Int)}{i:Nat}{d:Jg}{c:IG Int}(h:bq t cs hw [] (ds.take i)=(sets,IS))(hd:ds[i]? =B' d) (hl:aM t cs hw sets d=B' c):bq t cs hw [] (ds.take<|i+1)=(sets++[c],IS):=by
 rw[Kv,hd];show bq t cs hw [] (ds.take i++[d])=_
 rw[mx h,hl]
theorem bY:∀{ds:IG Jg} {sets out:IG (IG Int)},bq t cs hw sets ds=(out,IS)->out.length=sets.length+ds.length
 |[],sets,out,h=>by
  cases h;rfl
 |d::r,sets,out,h=>by
  have h':(match aM t cs hw sets d with|none=>(sets,IU)|some c=>bq t cs hw (sets++[c]) r)=(out,IS):=h;cases g:aM t cs hw sets d with
  |none=>rw[g]at h';cases h'
  |some c=>
   rw[g]at h';have:=bY h';rw[I_,JW]at this;rw[JJ];lia
theorem getD_some{α:Type}{l:IG α}{i:Nat}{d:α}(h:i < l.length):l[i]? =B' (l.getD i d):=by
 rw[Jd,IZ h];rfl
end OD
namespace DP
open PySem
theorem Am:Tj (.type "list") "keys"=pure none:=by rw[RL,OX];kernel_rfl
theorem jP:Wf table "dict.update.loop"=B' Builtin.«dict.update.loop»:=U5 (by kernel_rfl)
theorem fA:plainId "dict.update.loop"=true:=by decide+kernel
section
variable {prog:Jc}{w:Jv}{A:JV}{E:IH->IM->Prop}{s:IM}
theorem my{Q:IQ IH->IM->Prop}(hx:s.heap.get? l=B' o)(hc:o.cls=.type "list")(Yr:o.data=.seq xs k)(hd:o.dict=IV)(hA:A.handled=IV)
  (h:∀h' tk,(∀b o,s.heap.get? b=B' o->h'.get? b=B' o)->Q IV {s with heap:=h',toks:=tk}):wpAny (Ju prog w) A (Wc (.ref l) "keys") Q E s:=by
 obtain⟨c,dct,dat,sl⟩:=o;simp only at hc Yr hd;subst hc Yr hd;obtain⟨hp,g,d,tk,os⟩:=s;have hT:∀Yk,(⟨hp,g,d,Yk,os⟩:IM).TypeIs (.ref l) "list":=λ_=>⟨_,hx,rfl⟩;have f1:=sub_AttributeError;have f3:=F.slot_list_getattribute.lookup;have f4:=F.slot_list_getattribute.bind<|.ref l;have f5:=am_list_getattr_none;unfold Wc getAttrBy? Xy
 repeat (any_goals (first|assumption|exact hT _|((with_reducible show wpAny _ _ (call (Mu "list.__getattribute__") _ _) _ _ _);refine Wg F.slot_list_getattribute (hT _) am_entry_list_getattribute (F.args_list_getattribute_2 _ _) (meets_getattribute_miss_list l xs k sl "keys" _ Am (by decide+kernel)<|by decide+kernel) ⟨hx,hA,λh' Yk e hx'=>?_⟩)|wp_step))
 obtain⟨t',u',he⟩:=hx'.there;show wpAny _ _ (Tp _ _ _ _ _ _ _) _ _ _
 unfold Tp
 repeat (any_goals (first|assumption|wp_step))
 exact h _ _ hx'.keeps
end
section
variable {prog:Jc}{w:Jv}{K:Type} [Nb K] {knd:KeyKind prog w K}{A:JV}{E:IH->IM->Prop}{s:IM}
theorem kP(ht:s.heap.IsTuple t xs)(h:Q xs.toList s):wpAny (Ju prog w) A (Ro<|.ref t) Q E s:=by
 obtain⟨o,ho,hc,n,hd⟩:=ht;have hT:s.TypeIs (.ref t) "tuple":=⟨o,ho,hc⟩;unfold Ro;refine II<|OK hT ?_;rw[JF<|by decide];refine II<|NQ ho hd ?_;exact I0 h
theorem uS(hh:A.in1.handled=IV){h0:JM}(hlI:l≠I)(hdI:d≠I)(hdl:d≠l)(hn:items.size<=sizeLine)(hm:more.length=items.size)
  (V3:∀(i:Nat) (v:IH),items[i]? =B' v->∃kv key t,more[i]? =B' kv/\knd.is kv.1 key=IS/\v=.ref t/\t≠d/\t≠I/\h0.IsTuple t #[key,kv.2]) {R:TF->IM->Prop}:
  ∀(m i:Nat) (s:IM) (tk0:Tok),items.size - i=m->i<=items.size->s.heap.IsListIter I l i->s.heap.IsList l items->s.heap.DictOf knd d (Tn []<|more.take i)->
   (∀b o,b≠d->b≠I->h0.get? b=B' o->s.heap.get? b=B' o)->
   (∀h' tk,h'.DictOf knd d (Tn [] more)->(∀b o,b≠d->b≠I->h0.get? b=B' o->h'.get? b=B' o)->R (.ok<|.ret .none) {s with heap:=h',toks:=tk})->
   codeAny (Ju prog w) A (.builtin "dict.update.loop" ⟨[.ref d,.ref I,.int (i:Int) tk0,.none],[]⟩) R s:=by
 have W:=P7 (prog:=prog) (w:=w) (A:=A.in1) hh I l hlI items;intro m
 induction m with
 |zero=>
  intro i s tk0 hm0 hi XG Nd Td SM hR;have e:i=items.size:=by lia
  subst e;refine Le jP ?_;rw[KO fA _];refine II (m:=Ou<|.ref I)<|W.done s _ _ ⟨XG,Nd⟩ λh' tk hk=>?_;have Oc:∀b o,b≠I->s.heap.get? b=B' o->h'.get? b=B' o:=λb o hb e=>hk b o (by simpa using hb) e;refine II (m:=QS d [])<|I0<|I0 ?_;refine hR h' tk ?_ λb o h1 h2 e=>Oc b o h2<|SM b o h1 h2 e;rw[Jy<|by lia]at Td;obtain⟨o,es,ep,ho,r⟩:=Td;exact⟨o,es,ep,Oc d o hdI ho,r⟩
 |succ m ih=>
  intro i s tk0 hm0 hi XG Nd Td SM hR;have M6:i < items.size:=by lia
  refine Le jP ?_;rw[KO fA _];refine II (m:=Ou<|.ref I)<|W.item i s _ _ M6 ⟨XG,Nd⟩ λv h' tk hv LI hk=>?_;have Oc:∀b o,b≠I->s.heap.get? b=B' o->h'.get? b=B' o:=λb o hb e=>hk b o (by simpa using hb) e;obtain⟨kv,key,t,hki,RS,rfl,htd,htI,ht⟩:=V3 i v hv;have ht':h'.IsTuple t #[key,kv.2]:=let ⟨o,ho,r⟩:=ht;⟨o,Oc t o htI<|SM t o htd htI ho,r⟩
  have aaw:h'.DictOf knd d (Tn []<|more.take i):=let ⟨o,es,ep,ho,r⟩:=Td;⟨o,es,ep,Oc d o hdI ho,r⟩
  have hz:(Tn []<|more.take i).length<=sizeLine:=by
   have:=merged_length_le []<|more.take i;rw[JN]at this;simp only [Lg]at this;lia
  refine II<|Ks<|II<|Nl<|kP (s:={s with heap:=h',toks:=tk}) ht' ?_;dsimp only;refine Ks<|wpAny_dictSet_pairs (s:={s with heap:=h',toks:=tk}) (hsz:=hz) RS aaw λh2 Vz sb=>?_;have e2:Tn [] (more.take<|i+1)=stored (Tn []<|more.take i) kv.1 kv.2:=merged_take_succ _ _ _ _ hki;refine I0 ⟨L0 fA _,?_⟩;refine ih (i+1) {s with heap:=h2,toks:=tk+1} 0 (by lia) M6 ?_ ?_ (by rw[e2];exact Vz) (λb o h1 hbI e=>(sb.2 b h1).trans<|Oc b o hbI<|SM b o h1 hbI e) λh3 tk3 b1 b2=>hR h3 tk3 b1 b2
  ·exact LI.1.at λo e=>(sb.2 I λz=>hdI z.symm).trans e
  ·exact LI.2.at λo e=>(sb.2 l λz=>hdl z.symm).trans e
theorem call_pairs(hh:A.handled=IV){Q:IH->IM->Prop}(hl:s.heap.get? l=B' ol)(hc:ol.cls=.type "list")(Yr:ol.data=.seq items nl)(hdd:ol.dict=IV)(hn:items.size<=sizeLine)(hm:more.length=items.size)
  (V3:∀(i:Nat) (v:IH),items[i]? =B' v->∃kv key t,more[i]? =B' kv/\knd.is kv.1 key=IS/\v=.ref t/\s.heap.IsTuple t #[key,kv.2])
  (h:∀(h':JM) (tk:Nat),h'.DictOf knd s.heap.objs.size (Tn [] more)->(∀b o,s.heap.get? b=B' o->h'.get? b=B' o)->Q (.ref s.heap.objs.size) {s with heap:=h',toks:=tk}):
  wpAny (Ju prog w) A (call (.type "dict") [.ref l]) Q E s:=by
 refine Wh (Q₁:=λobj s₁=>obj=.ref s.heap.objs.size/\s₁={s with heap:=s.heap.push {cls:=.type "dict",data:=.dict #[]}}) Va (Sk _) Uy (U4 _ ⟨rfl,rfl⟩) ?_;rintro obj s₁ ⟨rfl,rfl⟩;have Vy:(s.heap.push {cls:=.type "dict",data:=.dict #[]}).DictOf knd s.heap.objs.size []:=VG s.heap;have RH:=IP {cls:=.type "dict",data:=.dict #[]} hl;have M6:l < s.heap.objs.size:=Jh hl;have hTl:Ta {s with heap:=s.heap.push {cls:=.type "dict",data:=.dict #[]}} (.ref l) "list":=⟨_,RH,hc⟩;exists Vy.typeIs,TM _ _;unfold Builtin.«dict.__init__»;refine II ?_;unfold QR;refine II<|OW Vy.typeIs ?_;show wpAny _ _ (pure (s.heap.objs.size,[JS l])) _ _ _
 refine I0 ?_;show wpAny _ _ (Nq "dict.__init__" s.heap.objs.size (.ref l) [] .none) _ _ _
 unfold Nq;refine II<|OK hTl ?_;rw[JF<|by decide];refine II<|my RH hc Yr hdd (by simpa using hh) λh1 tk1 k1=>?_;have Xs:=k1 _ _ RH;have aaD:h1.IsList l items:=⟨_,Xs,hc,nl,Yr⟩;simp only [Qd,On];refine II<|MY<|II<|M8 (s:={s with heap:=h1,toks:=tk1}) aaD<|I0 ?_;exists L0 fA _;have Yd:=JB s.heap (o:={cls:=.type "dict",data:=.dict #[]}) rfl;have YU:=k1 _ _ Yd;have ack:l < h1.objs.size:=Jh Xs;have aaF:s.heap.objs.size < h1.objs.size:=Jh YU;have Za:h1.DictOf knd s.heap.objs.size []:=let ⟨o,es,ep,ho,r⟩:=Vy;⟨o,es,ep,k1 _ _ ho,r⟩
 have XM:(h1.push {cls:=.type "list_iterator",data:=.fields #[.ref l,.int 0 0]}).get? h1.objs.size=B' {cls:=.type "list_iterator",data:=.fields #[.ref l,.int 0 0]}:=JB _ rfl;refine uS (knd:=knd) (by simpa using hh) (h0:=h1.push {cls:=.type "list_iterator",data:=.fields #[.ref l,.int 0 0]}) (I:=h1.objs.size) (l:=l) (items:=items) (more:=more) (Js ack) (Js aaF) (MN M6) hn hm (λi v hv=>?_) (items.size - 0) 0 _ 0 rfl (Jw _) ⟨_,XM,rfl,rfl⟩ (aaD.push _) (by rw[OS];exact Za.push _) (λb o _ _ e=>e) λh' tk b1 b2=>?_
 ·obtain⟨kv,key,t,a1,a2,a3,a4⟩:=V3 i v hv;obtain⟨o,ho,r⟩:=a4;have ho1:=k1 _ _<|IP {cls:=.type "dict",data:=.dict #[]} ho;exact⟨kv,key,t,a1,a2,a3,Js<|Jh ho,Js<|Jh ho1,o,IP _ ho1,r⟩
 ·refine⟨rfl,h h' tk b1 λb o e=>?_⟩;have e1:=k1 _ _<|IP {cls:=.type "dict",data:=.dict #[]} e;exact b2 b o (Js<|Jh e) (Js<|Jh e1)<|IP _ e1
end
end DP
namespace L2
open PySem PySem.Spec PyProof.Rows
theorem uT(o:Obj)(f:J4 IH->J4 IH):(Ma f o).dict=o.dict:=by
 unfold Ma;cases o with
 |mk c d dt sl=>cases dt<;>rfl
def IE(h B:JM)(e:IL)(dx:IQ IL)(cls a0 fl:IH):Prop:=
 ∃(oe:Obj) (vs:J4 IH) (T:IL) (oT:Obj) (ts:J4 IH),h.get? e=B' oe/\oe.dict=dx/\oe.cls=cls/\vs[0]? =B' a0/\oe.data=.fields vs/\vs[1]? =B' (.ref T)/\B.get? T=IV/\T≠e/\h.get? T=B' oT/\oT.data=.fields ts/\ts[3]? =B' fl
structure AtD (B:JM)(l:IG Env)(e:IL)(dx:IQ IL)(cls a0 fl:IH)(h:JM):Prop where
 stay:B.StaysIn h
 new:B.get? e=IV
 frames:h.FunFrames B l
 tr:IE h B e dx cls a0 fl
abbrev FlyD(B:JM)(l:IG Env)(e:IL)(dx:IQ IL)(cls a0:IH)(h:JM):Prop:=AtD B l e dx cls a0 .none h
theorem AtD.there(x:AtD B l e dx cls a0 fl h):∃ob,h.get? e=B' ob/\ob.cls=cls/\ob.dict=dx/\∃vs,ob.data=.fields vs:=by
 obtain⟨_,_,_,oe,vs,_,_,_,he,h1,h2,_,h3,_⟩:=x;exact⟨oe,he,h2,h1,vs,h3⟩
theorem FlyD.old(x:FlyD B l e dx cls a0 h):N4 B l e cls a0 h:=by
 obtain⟨a,b,c,oe,vs,T,oT,ts,h1,_,h2,h3,h4⟩:=x;exact⟨a,b,c,oe,vs,T,oT,ts,h1,⟨h2,h3⟩,h4⟩
section
variable {M:RO}{A:JV}{E:IH->IM->Prop}{s:IM}{B:JM}{env:Env}{outer:IG Env}{L e:IL}{dx:IQ IL}{cls a0:IH}
theorem xm{vs:J4 IH}{hd:IH}{more:Jm}{Q:Pt->IM->Prop}(fr:A.frames=B' (env::outer))(ff:s.heap.FunFrames B (env::outer))(ef:env.frame=B' L)(ge:s.heap.get? e=B' oe)(st:B.StaysIn s.heap)(nw:B.get? e=IV)
  (od:oe.data=.fields vs) (sz:1 < vs.size) (v0:vs[0]? =B' a0) (k:∀h',AtD B (env::outer) e oe.dict oe.cls a0 (NR L) h'->s.heap.UpToSlots h'->Q () {s with heap:=h'}):
  wpAny M A (do let a <-frameOf env;let pl <-entryPlaceOf L more;let b <-SZ hd a .none (NR L) .none pl;Wa (.ref e) 1 b) Q E s:=by
 have nofr:e∉(env::outer).filterMap (·.frame):=λm=>by
  obtain⟨_,o,go,nf⟩:=ff.mem m;rw[ge]at go;cases go;exact nf vs od
 refine II<|wpAny_frameOf_fun fr ff ef λg so=>?_;refine II<|wpAny_entryPlaceOf λpl ip=>?_;unfold SZ newFields;refine II<|M9 ?_<|ip.sizeOk5 _ _ _ _ _;have g1:g.get? e=B' oe:=(so.2.1 e nofr).trans ge;have XG:B.StaysIn g:=λb o hb=>(so.2.1 b λm=>by rw[(ff.mem m).1]at hb;cases hb).trans<|st b o hb;generalize ht:({cls:=.type "traceback",dict:=IV,data:=.fields ([hd,.ref L,.none,NR L,.none]++(if pl.isEmpty then Sy 6 M0 else pl)).toArray}:Obj)=tb;have fz:tb.isFreed=false:=by rw[<-ht];rfl
 have td:tb.data=.fields ([hd,.ref L,.none,NR L,.none]++(if pl.isEmpty then Sy 6 M0 else pl)).toArray:=by rw[<-ht]
 have g2:=IP (h:=g) tb g1;refine NP g2 od sz<|k _ ?_ ?_
 ·have ne:g.objs.size≠e:=MN<|Jh g1;have d3:=Mq od (·.setIfInBounds 1 (JS g.objs.size));have g3:=KF (Ma (·.setIfInBounds 1 (JS g.objs.size))) g2<|ND d3;have gT:=(JR (g.push tb) (Ma (·.setIfInBounds 1 (JS g.objs.size)))<|Lq ne).trans<|JB g fz;have kp:∀b o,b≠e->g.get? b=B' o->((g.push tb).update e (Ma (·.setIfInBounds 1 (JS g.objs.size)))).get? b=B' o:=λb o hb q=>by
   rw[JR _ _<|Lq hb];exact IP _ q
  refine⟨λb o hb=>kp b o (λz=>by rw[z,nw]at hb;cases hb)<|XG b o hb,nw,ff.of_keeps λb o hb nf=>?_,?_⟩
  ·obtain⟨sl,q⟩:=so.2.2 b o hb;exact⟨_,kp b _ (λz=>by rw[z,ge]at hb;cases hb;exact nf vs od) q,rfl⟩
  ·refine⟨_,_,g.objs.size,tb,_,g3,uT _ _,Qy _ _,by rw[Array.getElem?_setIfInBounds_ne<|by decide];exact v0,d3,by simp [sz],XG.fresh,ne,gT,td,?_⟩
   first|(simp;done)|(obtain rfl|⟨_,_,_,_,_,_,_,rfl⟩:=ip<;>simp)
 ·intro b o hb nf;obtain⟨sl,q⟩:=so.2.2 b o hb;exists sl;have hbe:b≠e:=λz=>by rw[z,ge]at hb;cases hb;exact nf vs od
  rw[JR _ _<|Lq hbe];exact IP _ q
theorem sK(x:AtD B l e dx cls a0 fl s.heap)(k:∀h',FlyD B l e dx cls a0 h'->s.heap.UpToSlots h'->Q () {s with heap:=h'}):wpAny M A (setFlight (.ref e) IV) Q E s:=by
 obtain⟨st,nw,ff,oe,vs,T,oT,ts,ge,hd,hc,h0,od,h1,nT,neT,gT,dT,h3⟩:=x;have sz3:3 < ts.size:=(J9.mp h3).1;have ot:∀b,b≠T->(s.heap.update T (Ma (·.setIfInBounds 3 ((IV:IQ IL).elim M0 λf=>NR f)))).get? b=s.heap.get? b:=λb hb=>JR _ _<|Lq hb;have nf:∀b o,s.heap.get? b=B' o->(∀vs,o.data≠.fields vs)->b≠T:=λb o hb n z=>by
  rw[z,gT]at hb;cases hb;exact n ts dT
 unfold setFlight;refine II<|R5 ge od h1 ?_;rw[JF (show(JS T != M0)=IS by simp)];refine NP gT dT sz3<|k _ ⟨λb o hb=>(ot b λz=>by rw[z,nT]at hb;cases hb).trans<|st b o hb,nw,ff.of_keeps λb o hb n=>⟨o,(ot b<|nf b o hb n).trans hb,rfl⟩,?_⟩ λb o hb n=>⟨o.slots,(ot b<|nf b o hb n).trans hb⟩;exact⟨oe,vs,T,_,_,(ot e<|Lq neT).trans ge,hd,hc,h0,od,h1,nT,neT,KF _ gT<|ND<|Mq dT _,Mq dT _,by simp [sz3]⟩
theorem An{vs:J4 IH}{Q:Pt->IM->Prop}(fr:A.frames=B' (env::outer))(ff:s.heap.FunFrames B (env::outer))(ef:env.frame=B' L)(ge:s.heap.get? e=B' oe)(st:B.StaysIn s.heap)(nw:B.get? e=IV)
  (od:oe.data=.fields vs) (h1:vs[1]? =B' .none) (h0:vs[0]? =B' a0) (k:∀h',FlyD B outer e oe.dict oe.cls a0 h'->s.heap.UpToSlots h'->Q () {s with heap:=h'}):wpAny M A (Qs env<|.ref e) Q E s:=by
 unfold Qs U3;simp only [ef];refine II<|II<|R5 ge od h1 ?_;rw[JD<|by decide];refine xm fr ff ef ge st nw od (J9.mp h1).1 h0 λh' x up=>sK x λh2 y up2=>k h2 ⟨y.stay,y.new,?_,y.tr⟩<|up.trans up2;obtain⟨_,_,z⟩:=y.frames;exact z
theorem BS(fr:A.frames=B' (env::outer))(ef:env.frame=B' L)(x:FlyD B (env::outer) e dx cls a0 s.heap)(k:∀h',AtD B (env::outer) e dx cls a0 (NR L) h'->s.heap.UpToSlots h'->Q () {s with heap:=h'}):wpAny M A (U3 (.ref e) env) Q E s:=by
 obtain⟨st,nw,ff,oe,vs,T,oT,ts,ge,hd,hc,h0,od,h1,nT,neT,gT,dT,h3⟩:=x;subst hd hc;unfold U3;simp only [ef];refine II<|R5 ge od h1 ?_;rw[JF (show(JS T != M0)=IS by simp)];refine II<|R5 gT dT h3 ?_;rw[JD (show¬((M0 == NR L)=IS) by simp [NR])];refine II<|NP gT dT (J9.mp h3).1 ?_;have ot:∀b,b≠T->(s.heap.update T (Ma (·.setIfInBounds 3 M0))).get? b=s.heap.get? b:=λb hb=>JR _ _<|Lq hb;have nf:∀b o,s.heap.get? b=B' o->(∀vs,o.data≠.fields vs)->b≠T:=λb o hb n z=>by
  rw[z,gT]at hb;cases hb;exact n ts dT
 exact xm fr (ff.of_keeps λb o hb n=>⟨o,(ot b<|nf b o hb n).trans hb,rfl⟩) ef ((ot e<|Lq neT).trans ge) (λb o hb=>(ot b λz=>by rw[z,nT]at hb;cases hb).trans<|st b o hb) nw od (J9.mp h1).1 h0
  λh' x up=>k h' x λb o hb n=>up b o ((ot b<|nf b o hb n).trans hb) n
theorem DQ(fr:A.frames=B' (env::outer))(ef:env.frame=B' L)(x:FlyD B (env::outer) e dx cls a0 s.heap)(k:∀h',FlyD B outer e dx cls a0 h'->s.heap.UpToSlots h'->Q () {s with heap:=h'}):wpAny M A (Qs env<|.ref e) Q E s:=by
 unfold Qs;refine II<|BS fr ef x λh' y up=>sK y λh2 z up2=>k h2 ⟨z.stay,z.new,?_,z.tr⟩<|up.trans up2;obtain⟨_,_,z'⟩:=z.frames;exact z'
end
structure FliesD (P:Jc)(w:Jv)(outer:IG Env)(H:Hp)(s:IM)(H':Hp)(B:JM)(ea:IL)(dx:IQ IL)(cls a0:IH)(s':IM):Prop where
 os:s'.os=s.os
 bare:Pg s'.gens
 fly:FlyD B outer ea dx cls a0 s'.heap
 hok:HOk P w H' B
 keep:∀b o,s.heap.get? b=B' o->H b=IV->b∉dN outer->B.get? b=B' o
 thr:∀b o,s.heap.get? b=B' o->b∉dN outer->∃o',B.get? b=B' o'
 slot:∀b o,s.heap.get? b=B' o->H b=IV->b∈dN outer->∃sl,s'.heap.get? b=B' {o with slots:=sl}
 free:∀b o,s.heap.get? b=B' o->H b=IV->H' b=IV
 tups:∀b xs,H b=B' (.tup xs)->H' b=B' (.tup xs)
 frzs:∀b o u,H b=B' (.frz o u)->H' b=B' (.frz o u)
 tbls:∀b ps,H b=B' (.tbl ps)->∃more,H' b=B' (.tbl<|ps++more)
def iq(P:Jc)(w:Jv):rV:=λouter H s E e s'=>∃(H':Hp) (B:JM) (ea:IL) (dx:IQ IL) (cls a0:IH),e=.ref ea/\FliesD P w outer H s H' B ea dx cls a0 s'/\E cls dx H'
section
variable {P:Jc}{w:Jv}{outer:IG Env}{H H':Hp}{s s':IM}{B h':JM}{ea:IL}{dx:IQ IL}{cls a0:IH}
theorem FliesD.slotted(f:FliesD P w outer H s H' B ea dx cls a0 s')(up:s'.heap.UpToSlots h')(e:s.heap.get? b=B' o)(n:H b=IV)(hb:b∈dN outer):∃sl,h'.get? b=B' {o with slots:=sl}:=by
 obtain⟨sl,e1⟩:=f.slot b o e n hb;obtain⟨_,o1,e2,nf⟩:=f.fly.frames.mem (b:=b) hb;rw[e1]at e2;cases e2;obtain⟨sl',e3⟩:=up b _ e1 nf;exact⟨sl',e3⟩
theorem FliesD.un(f:FliesD P w outer H s H' B ea dx cls a0 s')(st:B.StaysIn h')(up:s'.heap.UpToSlots h')(frf:∀b∈dN outer,H b=IV):Un (dN outer) [] H H' s.heap h' where
 keep:=λb o e n hb _=>st b o (f.keep b o e n hb)
 slot:=λb o e n hb _=>f.slotted up e n hb
 free:=λb o e n _=>f.free b o e n
 there:=λb o e _=>by
  by_cases hb:b∈dN outer
  ·obtain⟨sl,q⟩:=f.slotted up e (frf b hb) hb;exact⟨_,q⟩
  ·obtain⟨o',q⟩:=f.thr b o e hb;exact⟨o',st b o' q⟩
 tups:=f.tups
 frzs:=f.frzs
 tbls:=f.tbls
end
section
variable {P:Jc}{w:Jv}{K:IJ}{mg:Str->IQ IH}{base:JM}{N:IG Str}{qual:Str}{scope:N6}{f:IL}{cd:IH}{A:JV}{outer:IG Env}{s:IM}{H:Hp}{E:XK}
theorem FT:jZ (iq P w) (cj (iq P w) P w K mg base N qual scope f cd A outer s H E) E:=by
 intro IT σ H1 s1 e s2 I h;obtain⟨H',B,ea,dx,cls,a0,rfl,fl,hE⟩:=h;have M6:∀b o,s.heap.get? b=B' o->b∉dN outer->b∉dN (JU qual scope s.heap.objs.size f cd::outer):=λb o e hb hm=>by
  obtain⟨env,he,hf⟩:=JZ.mp hm;obtain rfl|he:=JC.mp he
  ·have:s.heap.objs.size=b:=Jo hf;exact absurd (Jh e) (by rw[this];exact Lv b)
  ·exact hb<|JZ.mpr ⟨env,he,hf⟩
 have XI:∀b,b∈dN outer->b∈dN (JU qual scope s.heap.objs.size f cd::outer):=λb hb=>by
  obtain⟨env,he,hf⟩:=JZ.mp hb;exact JZ.mpr ⟨env,Jk _ he,hf⟩
 show wpAny (Ju P w) _ (Qs (JU qual scope s.heap.objs.size f cd)<|.ref ea) _ _ s2
 refine DQ (outer:=outer) (L:=s.heap.objs.size) I.ok.frames rfl fl.fly λh' acA up=>⟨H',B,ea,dx,cls,a0,rfl,⟨?_,fl.bare,acA,fl.hok,λb o e n hb=>?_,λb o e hb=>?_,λb o e n hb=>?_,λb o e n=>?_,λb xs e=>?_,λb o u e=>?_,λb ps e=>?_⟩,hE⟩
 ·exact fl.os.trans I.os
 ·exact fl.keep b o (I.base.keep b o e n hb<|by intro z;cases z) (I.base.free b o e n<|by intro z;cases z)<|M6 b o e hb
 ·obtain⟨o1,e1⟩:=I.base.there b o e (by intro z;cases z);exact fl.thr b o1 e1<|M6 b o e hb
 ·obtain⟨sl,e1⟩:=I.base.slot b o e n hb (by intro z;cases z);obtain⟨sl2,e2⟩:=fl.slotted up e1 (I.base.free b o e n<|by intro z;cases z)<|XI b hb;exact⟨sl2,e2⟩
 ·obtain⟨o1,e1⟩:=I.base.there b o e (by intro z;cases z);exact fl.free b o1 e1 (I.base.free b o e n<|by intro z;cases z)
 ·exact fl.tups b xs<|I.base.tups b xs e
 ·exact fl.frzs b o u<|I.base.frzs b o u e
 ·obtain⟨m1,e1⟩:=I.base.tbls b ps e;obtain⟨m2,e2⟩:=fl.tbls b _ e1;exact⟨m1++m2,by rw[e2,Qj]⟩
end
theorem Fun.okD{P:Jc}{w:Jv}{K:IJ}{mg:Str->IQ IH}{base:JM}{x qual:Str}{st:KL}{f:IL}{fd:Jr}{N ps:IG Str}{k:Nat}{sp:Sp}(F:Fun K x qual st f fd)(S:aF N ps (ap st))(len:∀vs H Q E,sp vs H Q E->vs.length=ps.length)
  (V6:∀LY A outer s H vs Q E,Room k (A.deeper<|JU qual (ap st) s.heap.objs.size f LY)->sp vs H Q E->
   ∃t,PSs (cj (iq P w) P w K mg base N qual (ap st) f LY A outer s H E) (cF st) t/\t {nx:=λ_ H'=>Q .non H',rt:=Q} (start N vs) H):FnOk P w K mg base (iq P w) (k+1) f fd ps sp:=by
 obtain⟨oc,od,kV,Ua,pm,an,LY,ct,osl,rfl,lk,Xu⟩:=F.ex;refine vI lk Xu S len λA outer s H vs Q E hr Zu=>?_;obtain⟨t,h,q⟩:=V6 LY A outer s H vs Q E hr Zu;exact⟨t,h,q⟩
section
variable {prog:Jc}{w:Jv}{A:JV}{E:IH->IM->Prop}{h:JM}{g:J4 Q7}{d:YI}{t:Nat}{os:Pe}
variable {nm q:Str}{C N:IL}{bs bm Vk:IG IH}{hdct:Jm}{sn:IG Str}{sub:IG IH}{ab:Jm}{col:IQ Jm}{dd:IQ IL}{k0 k1 k2 k3 k5:IQ IH}{B newId XH:LA}
theorem lK(F:Uz B newId XH Vk)(T:X4 h Vk bm){mN:Str->IQ IH}{us:IG IH}{fI:IL}{oI:Obj}{Q:Fin->IM->Prop}(cC:h.get? C=B' (Qu nm q C N bs bm hdct sn sub ab col dd k0 k1 k2 k3 k5 newId))
  (nN:h.Ns N mN) (ni:mN "__init__"=B' (.ref fI)) (gI:h.get? fI=B' oI) (cI:oI.cls=.type "function") (hz:us.length<=sizeLine)
  (k:∀h' e,Sj h h' e (.ref C) us->wpAny (Ju prog w) A (call (.ref fI)<|.ref e::us) (λr s'=>r=.none/\Q (.done<|.ret<|.ref e) s') E ⟨h',g,d,t,os⟩):
  wpAny (Ju prog w) A (Builtin.«type.__call__» ⟨.ref C::us,[]⟩) Q E ⟨h,g,d,t,os⟩:=by
 repeat (first|with_reducible refine Kb cC ?_|with_reducible refine wpAny_madeBy_exc cC ?_|wp_step)
 refine codeAny_call_builtin_code (Oy _ F.quiet)<|wpAny_check_new_subT F T cC<|codeAny_exc_new_subT F T cC ?_ hz;show wpAny _ _ _ _ _ _
 have kp:∀b o,h.get? b=B' o->((h.push {cls:=.type "tuple",data:=.seq us.toArray}).push {cls:=.ref C,data:=.fields #[.ref h.objs.size,.none,.none,.none,.bool IU,.none]}).get? b=B' o:=λb o hb=>IP _<|IP _ hb;have ge:((h.push {cls:=.type "tuple",data:=.seq us.toArray}).push {cls:=.ref C,data:=.fields #[.ref h.objs.size,.none,.none,.none,.bool IU,.none]}).get? (h.objs.size+1)=B' {cls:=.ref C,data:=.fields #[.ref h.objs.size,.none,.none,.none,.bool IU,.none]}:=by heap_get
 have gt:((h.push {cls:=.type "tuple",data:=.seq us.toArray}).push {cls:=.ref C,data:=.fields #[.ref h.objs.size,.none,.none,.none,.bool IU,.none]}).get? h.objs.size=B' {cls:=.type "tuple",data:=.seq us.toArray}:=IP _<|Ux rfl rfl;have cc:(JS C::bm).contains (.ref C)=true:=by simp
 have c1:=kp _ _ cC;unfold To
 repeat (first|with_reducible refine Kb ge ?_|(with_reducible refine SV c1 ?_;rw[cc])|wp_step)
 show wpAny _ _ (Tj (.ref C) _) _ _ _
 refine wpAny_typeLookup_tail c1 (nN.keeps kp) (T.keeps kp) F.mroIs F.init.lookup ?_;rw[ni];refine Ks<|II ?_;unfold bindSpecial;refine II<|OK (T:="function") ⟨_,kp _ _ gI,cI⟩ ?_;rw[JF<|by decide];refine I0<|II<|J2 (k _ (h.objs.size+1) ⟨kp,NU<|NW _,h.objs.size,ge,NU<|IX _,gt⟩) (λr s' z=>?_) λ_ _ z=>z;obtain⟨rfl,z⟩:=z
 wp_walk
 exact z
theorem uU(F:Uz B newId XH Vk)(T:X4 h Vk bm){mN:Str->IQ IH}{us:IG IH}{fI:IL}{oI:Obj}{Q:IH->IM->Prop}(cC:h.get? C=B' (Qu nm q C N bs bm hdct sn sub ab col dd k0 k1 k2 k3 k5 newId))
  (nN:h.Ns N mN) (ni:mN "__init__"=B' (.ref fI)) (gI:h.get? fI=B' oI) (cI:oI.cls=.type "function") (hz:us.length<=sizeLine)
  (k:∀h' e,Sj h h' e (.ref C) us->wpAny (Ju prog w) (A.under<|.builtin "type.__call__" ⟨.ref C::us,[]⟩) (call (.ref fI)<|.ref e::us) (λr s'=>r=.none/\Q (.ref e) s') E ⟨h',g,d,t,os⟩):
  wpAny (Ju prog w) A (call (.ref C) us) Q E ⟨h,g,d,t,os⟩:=by
 have e1:=tc_lookup;have e2:=tc_bind<|.ref C;have ty:(⟨h,g,d,t,os⟩:IM).TypeIs (.ref C) "type":=⟨_,cC,rfl⟩;refine O4<|RM ?_;show wpAny _ _ (callAny (.ref C) _) _ _ _
 repeat (any_goals (first|assumption|with_reducible refine Kb cC ?_|wp_step))
 exact⟨rfl,codeAny_call_builtin_at (Oy _<|by decide+kernel) entry_typeCall<|wpAny_check_type_call_sub cC<|lK F T cC nN ni gI cI hz k⟩
end
section
variable {prog:Jc}{w:Jv}{A:JV}{E:IH->IM->Prop}{h:JM}{g:J4 Q7}{d:YI}{t:Nat}{os:Pe}{a dx C:IL}{o:Obj}{mA:Str->IQ IH}{K:IJ}{x:Str}{v:IH}
theorem nQ{tk:Tok}(X:K.In h)(T:dE K C)(nf:Kl K (.ref C) x=B' IV)(hx:h.get? a=B' o)(hc:o.cls=.ref C)(hdc:M_ K C=IS)(hd:o.dict=B' dx)(hf:∃vs,o.data=.fields vs)(hn:h.Ns1 dx mA)(hv:mA x=B' v)(hq:Q (.done<|.ret v) ⟨h,g,d,t,os⟩):
  wpAny (Ju prog w) A (Builtin.«object.__getattribute__» ⟨[.ref a,.str x tk],[]⟩) Q E ⟨h,g,d,t,os⟩:=by
 have L1:=Lr (M:=Ju prog w) X nf
 repeat (any_goals (first|assumption|(with_reducible refine Kb hx ?_;rw[hc])|(with_reducible refine Kb hx ?_;rw[hd])|with_reducible refine L1.at ?_|wp_step))
 obtain⟨vs,hf⟩:=hf;rw[hf];dsimp only;unfold M_ at hdc;obtain⟨cd,qc⟩:=T.cls;rw[qc]at hdc;have Xu:cd.hasDict=true:=hdc;have Lc:=N9 (M:=Ju prog w) X qc;unfold instanceDict;refine II<|Kb hx ?_;rw[hc,hd];dsimp only;refine II<|Lc.at ?_;rw[Xu];refine Pu (λz=>absurd z<|by decide) λ_=>?_;refine I0 ?_;show wpAny _ _ (nsGet dx x) _ _ _
 refine wpAny_nsGet hn.ns ?_;rw[hv];dsimp only;refine II<|MY ?_;exact I0<|I0 hq
theorem Ao{Q:IH->IM->Prop}{agy:Jm}(X:K.In h)(T:dE K C)(nf:Kl K (.ref C) x=B' IV)(hx:h.get? a=B' o)(hc:o.cls=.ref C)(hdc:M_ K C=IS)(hd:o.dict=B' dx)(hf:∃vs,o.data=.fields vs)(hn:h.Ns1 dx mA)(hv:mA x=B' v)
  (hh:handedOut v=pure v) (hq:Q v ⟨h,g,d,t+1,os⟩):wpAny (Ju prog w) A (getAttr (.ref a) x agy) Q E ⟨h,g,d,t,os⟩:=by
 have f3:=PySem.F.attr_ValueError.ga.bind<|.ref a;have YQ:(Mu "BaseException.__getattribute__" == Mu "object.__getattribute__")=false:=by decide+kernel
 have hx1:(Xw (JS C)&&Mu "BaseException.__getattribute__" == Mu "object.__getattribute__")=false:=by rw[YQ];rfl
 have L1:=Lr (M:=Ju prog w) X T.ga;have L2:=Lr (M:=Ju prog w) X T.gt;unfold getAttr Xy
 repeat (any_goals (first|assumption|(with_reducible refine Kb hx ?_;rw[hc])|with_reducible refine L1.at ?_|with_reducible refine L2.at ?_|wp_step))
 rw[show Xw (Mu "BaseException.__getattribute__")=IU from rfl,J8];refine Pu (λz=>absurd z<|by decide) (λ_=>?_)
 repeat (any_goals (first|assumption|wp_step))
 refine Mz PySem.F.attr_ValueError.ga.plain VJ<|l_ X T hx hc<|nQ X T nf hx hc hdc hd hf hn hv ?_;show wpAny (Ju prog w) A (handedOut v) Q E _
 rw[hh];exact I0 hq
theorem hJ(X:K.In h)(hx:h.get? a=B' o)(hc:o.cls=.ref C)(gD:h.get? D=B' oD)(dD:oD.data=.cls cd)(be:JL K D (.type "BaseException")=B' IS)(dt:Of M h (typeOf<|.ref D) (.type "type"))(hm:JL K C (.ref D)=B' b)(hq:Q b ⟨h,g,d,t,os⟩):
  wpAny M A (excMatches (.ref a)<|.ref D) Q E ⟨h,g,d,t,os⟩:=by
 have f:=tc_notTuple;have L1:=MH (M:=M) X be;have L2:=MH (M:=M) X hm;unfold excMatches
 repeat (any_goals (first|assumption|(with_reducible refine Kb hx ?_;rw[hc])|(with_reducible refine Kb gD ?_;rw[dD])|with_reducible refine dt.at ?_|with_reducible refine L1.at ?_|with_reducible refine L2.at ?_|wp_step))
 cases b
 ·simp only [JK,MX,K']
  repeat (first|exact hq|(with_reducible refine I0 ?_)|(simp only [aac])|wp_step)
 ·simp only [On,K']
  repeat (first|exact hq|(with_reducible refine I0 ?_)|wp_step)
end
theorem eT(hx:h.get? a=B' o)(hc:o.cls=v):Of M h (typeOf<|.ref a) v:=by
 rw[<-hc];exact(U9 hx).andThen .now
section
variable {P:Jc}{w:Jv}{H:Hp}{h:JM}
theorem pJ(ok:HOk P w H h):∀(ts:IG IL) (kvs:IG (bv×V)),ts.length=kvs.length->(∀(i:Nat) (t:IL) (kv:bv×V),ts[i]? =B' t->kvs[i]? =B' kv->H t=B' (.tup [kV kv.1,kv.2]))->
  ∃more:IG (bv×IH),KV kvs more/\more.length=ts.length/\more.map (·.1)=kvs.map (·.1)/\∀(i:Nat) (t:IL),ts[i]? =B' t->∃kv key,more[i]? =B' kv/\(bi P w).is kv.1 key=IS/\h.IsTuple t #[key,kv.2]
 |[],[],_,_=>⟨[],.nil,rfl,rfl,λi t e=>by simp at e⟩
 |[],_::_,e,_=>by simp at e
 |_::_,[],e,_=>by simp at e
 |t::ts,kv::kvs,e,hp=>by
  obtain⟨more,a1,a2,a3,a4⟩:=pJ ok ts kvs (by simpa using e) λi t' kv' e1 e2=>hp (i+1) t' kv' (by simpa using e1) (by simpa using e2);obtain⟨_,KN,r,o,h1,h2,n,h3⟩:=(show ObjOk P w H h t (.tup [kV kv.1,kv.2])from ok t _<|hp 0 t kv rfl rfl);obtain⟨u,v,rfl,ru,rv⟩:=r.two;refine⟨(kv.1,v)::more,.cons ⟨rfl,rv⟩ a1,by simp [a2],by simp [a3],λi t' e1=>?_⟩;cases i with
  |zero=>
   have e':t=t':=by simpa using e1
   subst e';exact⟨(kv.1,v),u,rfl,iA ru,o,h1,h2,n,h3⟩
  |succ i=>
   obtain⟨kv',key,b1,b2,b3⟩:=a4 i t' (by simpa using e1);exact⟨kv',key,by simpa using b1,b2,b3⟩
end
inductive BU (xs:IG V)(H:Hp)(Q:VK):Prop
 |mk (l:IL)(ts:IG IL)(kvs:IG (bv×V))(hx:xs=[.ref l])(h:H l=B' (.lst<|ts.map V.ref))(hl:ts.length=kvs.length)(hp:∀(i:Nat) (t:IL) (kv:bv×V),ts[i]? =B' t->kvs[i]? =B' kv->H t=B' (.tup [kV kv.1,kv.2])) (nd:(kvs.map (·.1)).Nodup) (z:kvs.length<=9000)
  (q:∀d,H d=IV->Q (.ref d) (upd H d<|.dK kvs)):BU xs H Q
section
variable {X:Cx}
theorem qQ(hc:X.calm=IS):dJ X (.type "dict") BU:=by
 intro IT s σ H xs us Q I r h;obtain⟨l,ts,kvs,rfl,hH,hl,hp,nd,z,q⟩:=h;obtain⟨u,rfl,ru⟩:=r.one;cases ru;obtain⟨z1,KN,n,rv,Lx,e⟩:=I.lstM hH;obtain⟨more,a1,a2,a3,a4⟩:=pJ I.hok ts kvs hl hp;have afZ:KN.length=ts.length:=by
  rw[<-Lx,IR]
 refine DP.call_pairs (knd:=bi X.prog X.w) (more:=more) (I.ok.hd hc) e rfl rfl rfl (by rw[Jn];lia) (by rw[Jn];lia) (λi v hv=>?_) λh' tk hd hk=>?_
 ·have Y9:KN[i]? =B' v:=by simpa using hv
  have hi:i < ts.length:=by
   have:=(IY.mp Y9).1;lia
  have ht:ts[i]? =B' ts[i]:=IZ hi;obtain⟨kv,key,b1,b2,b3⟩:=a4 i _ ht;have hx:(ts.map V.ref)[i]? =B' (.ref ts[i]):=by rw[Jx,ht];rfl
  obtain⟨v',Zt,rv'⟩:=rv.get hx;rw[Y9]at Zt;cases Zt;cases rv';exact⟨kv,key,_,b1,b2,rfl,b3⟩
 ·rw[merged_nil_of_nodup more<|by rw[a3];exact nd]at hd;refine⟨.ref s.heap.objs.size,_,I.laid (a:=s.heap.objs.size) (o:=.dK kvs) (t':=tk) (λb q hq=>hk b q hq) (IX _)<|ny (KM<|vO<|by lia) (Li.mpr<|Lq<|Js I.big) a1 hd,rfl,q _<|I.hok.fresh<|IX _⟩
end
def HV(c:TT)(t u:BO):BO:=λEX D σ H=>c σ H λb H1=>if b=IS then t EX D σ H1 else u EX D σ H1
theorem nR(Xq:∀e s,X.xe e s->False)(hc:PT X c tc)(ha:EL X a t)(hb:EL X b u):EL X [.If c a b pos] (HV tc t u):=by
 intro IT s σ H D EX I h;refine Nm<|Yx<|J2 (hc IT s σ H _ I h) (λd s1 ⟨H1,I1,q1⟩=>?_) λe' s' z=>(Xq e' s' z).elim;cases d with
 |true=>
  refine aT<|J2 (ha IT s1 σ H1 D EX I1 q1) (λfl s2 q2=>?_) λ_ _ z=>z;cases fl with
  |next=>exact KY q2
  |ret v=>exact q2
  |brk=>exact q2
  |cont=>exact q2
 |false=>
  refine aO<|J2 (hb IT s1 σ H1 D EX I1 q1) (λfl s2 q2=>?_) λ_ _ z=>z;cases fl with
  |next=>exact KY q2
  |ret v=>exact q2
  |brk=>exact q2
  |cont=>exact q2
theorem Ap(hx:X.xe=λ_ _=>False)(hb:PSs X body tb):PS X (.Try body (h₀::hs) [] [] pos) tb:=by
 intro IT s σ H D I h;refine O5<|J2 (hb IT s σ H D I h) (λfl s1 q1=>?_) λe s1 q1=>?_
 ·cases fl with
  |next=>exact KY q1
  |ret v=>exact q1
  |brk=>exact q1
  |cont=>exact q1
 ·rw[hx]at q1;exact q1.elim
section
variable {M:RO}{A:JV}{E:IH->IM->Prop}{env:Env}{C N:IL}{nm q:Str}{bs bm:IG IH}{hdct ab:Jm}{sn:IG Str}{sub:IG IH}{col:IQ Jm}{dd:IQ IL}{k0 k1 k2 k3 k5:IQ IH}{newId:LA}
structure DR (C:IL)(co:Obj)(E:IH->IM->Prop)(v:IH)(s:IM)(e t:IL)(dx:IQ IL):Prop where
 ref:v=.ref e
 cls:s.heap.get? C=B' co
 obj:s.heap.get? e=B' {cls:=.ref C,dict:=dx,data:=.fields #[.ref t,.none,.none,.none,.bool IU,.none]}
 fly:E (.ref e) s
theorem uV{s:IM}{x:Sem IH}{Q:Flow->IM->Prop}(hB:bm.contains (.type "BaseException")=IS)(hN:A.handled=IV)
  (k:wpAny M A x (λv s₁=>∃e t dx,DR C (Qu nm q C N bs bm hdct sn sub ab col dd k0 k1 k2 k3 k5 newId) E v s₁ e t dx) E s):
  wpAny M A (raiseStmt env (B' x) IV) Q E s:=by
 have agr:(JS C::bm).contains (.type "BaseException")=true:=by
  rw[Qg,hB];exact Bool.or_true _
 unfold raiseStmt;refine II<|J2 k (λv s₁ r=>?_) λ_ _ y=>y;obtain⟨e,t,dx,r⟩:=r;obtain⟨rfl,cC,cO,fly⟩:=r;obtain⟨hp,g,d,tk,os⟩:=s₁
 repeat (first|with_reducible refine Kb cO ?_|with_reducible refine Kb cC ?_|(with_reducible refine SV cC ?_;rw[agr])|wp_step)
 exact wpAny_raiseNew_none hN fly
end
end L2
namespace L2
open PySem
section
variable {K:IJ}{a D:IL}{xs:IG V}{g:TG}{tt:TT}{te:TE}{σ0:St}{H1:Hp}{Q:VK}
theorem uW(Pv:Nat->St->IG V->Hp->Prop)(h0:Pv 0 σ0 [] (upd H1 D<|.lst []))(hd:∀i σ ys H,i<=xs.length->Pv i σ ys H->H D=B' (.lst ys)/\SqL K H a xs)
  (hs:∀i x σ ys H t,xs[i]? =B' x->Pv i σ ys H->H t=IV->g (.ref t) σ (upd H t<|.tup [.int (i:Nat),x]) λσ3 H3=>tt σ3 H3 λc H4=>if c=IS then te σ3 H4 λy H5=>H5 D=B' (.lst ys)/\ys.length < sizeLine/\Pv (i+1) σ3 (ys++[y]) (upd H5 D<|.lst<|ys++[y])else Pv (i+1) σ3 ys H4)
  (hq:∀σ ys H,Pv xs.length σ ys H->Q (.ref D) H):gE (Dz K a) D g tt te σ0 H1 Q:=by
 exists λi m σ ys H=>m=xs.length - i/\i<=xs.length/\Pv i σ ys H,⟨xs.length,by simp,Jw _,h0⟩;rintro i m σ ys H ⟨rfl,hi,p⟩;obtain⟨hD,q⟩:=hd i σ ys H hi p;exists hD;by_cases M6:i < xs.length
 ·refine .inr ⟨⟨xs,xs[i],q,by simp [M6]⟩,Pv<|i+1,λσ' ys' H' p'=>⟨xs.length - (i+1),by lia,rfl,M6,p'⟩,λx H' y=>?_⟩;obtain⟨t,v,ht,rfl,rfl,y⟩:=y;exact hs i v σ ys H t (y xs q) p ht
 ·have e:i=xs.length:=by lia
  subst e;exact .inl ⟨⟨xs,q,IX _⟩,hq σ ys H p⟩
end
theorem PEi.out(h:PEi X e te):PE X e te:=by
 unfold PEi at h;exact h
theorem PEi.tup(h:PAi X es t):PEi X (.Tuple es k pos) (zv t):=by
 unfold PAi at h;unfold PEi;exact aZ h
theorem nS{G:TS->Prop}(h:PS X st t)(k:∃u,PSs X Lz u/\G (vC t u)):∃v,PSs X (st::Lz) v/\G v:=by
 obtain⟨u,hu,g⟩:=k;exact⟨_,af h hu,g⟩
@[irreducible] def PSi (X:Cx) (st:KL) (t:TS):Prop:=PS X st t
@[irreducible] def PSsi (X:Cx) (sts:IG KL) (t:TS):Prop:=PSs X sts t
end L2
namespace L2
open PySem
def TupAt(H:Hp)(zs:IG V)(y:V):Prop:=∃p,y=.ref p/\H p=B' (.tup zs)
theorem TupAt.mono(h:TupAt H zs y)(k:Same H H'):TupAt H' zs y:=let ⟨p,e,g⟩:=h;⟨p,e,k _ _ g⟩
theorem TupAt.upd(h:TupAt H zs y)(hD:H D=B' (.lst ys)):TupAt (upd H D o) zs y:=by
 obtain⟨p,e,g⟩:=h;exact⟨p,e,by rw[ao λz=>by rw[z,hD]at g;cases g];exact g⟩
end L2
namespace HD
open PySem PySem.W PySem.Calls PyProof.Rows
noncomputable def uX (sp:LO->O7->IQ (LO×O7))(ok th:O7->Jm)(n:Nat):LO->O7->IQ LO:=
 @Nat.rec (λ_=>LO->O7->IQ LO) (λ_ _=>IV)
  (λ_ ih s t=>@Pq (λ_=>IQ LO)
   (@Pq (λ_=>IQ LO) IV
    (@Rz (LO×O7) (λ_=>IQ LO) IV
     (λr=>@YL LO O7 (λ_=>IQ LO) (λs' t'=>@Pq (λ_=>IQ LO) IV (ih s' t') (UL s'.toks 1000000000)) r) (sp s t)) (ok t))
   (B' s) (th t)) n
theorem sL{tb:LA->IQ Builtin}{p:Jc}{w:Jv}{n₀:Nat}{WX:IQ IH}:∀n s s' t,
  uX (Wm (Tq tb) p w) (Tv n₀ WX) Qv n s t=B' s'->XY tb p w n₀ WX n s.abs t=B' s'.abs
 |0,s,s',t,h=>by cases h
 |n+1,s,s',t,h=>by
  have h:@Pq (λ_=>IQ LO)
   (@Pq (λ_=>IQ LO) IV
    (@Rz (LO×O7) (λ_=>IQ LO) IV
     (λr=>@YL LO O7 (λ_=>IQ LO) (λs' t'=>@Pq (λ_=>IQ LO) IV (uX (Wm (Tq tb) p w) (Tv n₀ WX) Qv n s' t') (UL s'.toks 1000000000)) r) (Wm (Tq tb) p w s t)) (Tv n₀ WX t))
   (B' s) (Qv t)=B' s':=h
  unfold XY;cases ht:Qv t with
  |true=>rw[ht]at h;cases h;rfl
  |false=>
   rw[ht]at h;cases hk:Tv n₀ WX t with
   |false=>rw[hk]at h;cases h
   |true=>
    rw[hk]at h;cases hs:Wm (Tq tb) p w s t with
    |none=>rw[hs]at h;cases h
    |some r=>
     obtain⟨s₂,t₂⟩:=r;rw[hs]at h;replace h:@Pq (λ_=>IQ LO) IV (uX (Wm (Tq tb) p w) (Tv n₀ WX) Qv n s₂ t₂) (UL s₂.toks 1000000000)=B' s':=h;rw[stepT_spec hs];cases hb:UL s₂.toks 1000000000 with
     |false=>rw[hb]at h;cases h
     |true=>rw[hb]at h;exact sL n _ _ _ h
noncomputable def nU (l:IG Obj):BT->Nat->IQ (BT×Nat):=
 @List.rec Obj (λ_=>BT->Nat->IQ (BT×Nat)) (λT n=>B' (T,n))
  (λo _ ih T n=>@Pq (λ_=>IQ<|BT×Nat) IV (ih (T.ins n o)<|n+1) (((T.ins n o).get n).isSome)) l
theorem mz:∀l T T' n n',nU l T n=B' (T',n')->Rm T' n' life=⟨(Rm T n life).objs++l.toArray,life⟩
 |[],T,T',n,n',h=>by
  cases h;show Rm T n life=ZH ((Rm T n life).objs++#[]) life
  rw[Array.append_empty];rfl
 |o::l,T,T',n,n',h=>by
  replace h:@Pq (λ_=>IQ<|BT×Nat) IV (nU l (T.ins n o)<|n+1) (((T.ins n o).get n).isSome)=B' (T',n'):=h;cases hb:((T.ins n o).get n).isSome with
  |false=>rw[hb]at h;cases h
  |true=>
   rw[hb]at h;rw[mz l _ _ _ _ h,absHeap_ins hb];show ZH ((Rm T n life).objs.push o++l.toArray) life=_
   congr 1
   apply Array.ext';simp
noncomputable def look {β:Type}(sp:LO->O7->IQ (LO×O7))(ok th:O7->Jm)(M:Nat)(os:Pe)(P:X0)(st:O7)(F:IM->β):IQ β:=
 @Rz (BT×Nat) (λ_=>IQ β) IV
  (λr=>@YL BT Nat (λ_=>IQ β) (λT n=>@Rz LO (λ_=>IQ β) IV (λs=>B'<|F s.abs) (uX sp ok th M ⟨T,n,(Lh P).life,Pr [],Ow,O6,os⟩ st)) r)
  (nU (Lh P).objs.toList .nil 0)
theorem Aq{β:Type}{tb:LA->IQ Builtin}{p:Jc}{w:Jv}{n₀:Nat}{WX:IQ IH}{M:Nat}{os:Pe}{F:IM->β}{b:β}
  (h:look (Wm (Tq tb) p w) (Tv n₀ WX) Qv M os w.params (SS p) F=B' b):
  ∃s,XY tb p w n₀ WX M ⟨Lh w.params,Pr [],Ow,O6,os⟩ (SS p)=B' s/\F s=b:=by
 unfold look at h;cases hi:nU (Lh w.params).objs.toList .nil 0 with
 |none=>rw[hi]at h;cases h
 |some r=>
  obtain⟨T,n⟩:=r;rw[hi]at h;replace h:@Rz LO (λ_=>IQ β) IV (λs=>B'<|F s.abs) (uX (Wm (Tq tb) p w) (Tv n₀ WX) Qv M ⟨T,n,(Lh w.params).life,Pr [],Ow,O6,os⟩<|SS p)=B' b:=h;cases hr:uX (Wm (Tq tb) p w) (Tv n₀ WX) Qv M ⟨T,n,(Lh w.params).life,Pr [],Ow,O6,os⟩ (SS p)with
  |none=>rw[hr]at h;cases h
  |some s=>
   rw[hr]at h;have e:=mz (life:=(Lh w.params).life) _ _ _ _ _ hi;have e0:(Rm .nil 0 (Lh w.params).life).objs=#[]:=rfl;rw[e0]at e;have e1:Rm T n (Lh w.params).life=Lh w.params:=by
    rw[e];show ZH (#[]++(Lh w.params).objs.toList.toArray) _=_
    rw[Array.empty_append]
   have YR:=sL _ _ _ _ hr;refine⟨s.abs,?_,Jo h⟩;rw[<-YR];show _=XY tb p w n₀ WX M ⟨Rm T n (Lh w.params).life,Pr [],Ow,O6,os⟩ (SS p)
   rw[e1]
noncomputable def seenAt (p q:Jc)(loose:IG Str)(Xt:IM->Jm)(g0:Jm)(w:Jv)(s:IM):=((staticsOk (P9 p.main.body) (Lh w.params) s.heap&&namesBound p s.heap&&gensDone s&&laidKept (Lh w.params) s.heap),Fast.tw4187177175401517315 q loose (P9 p.main.body) Xt g0 s)
noncomputable def lookAt {β:Type}(p:Jc)(m₀:Nat)(WX:IQ IH)(M:Nat)(w:Jv)(os:Pe)(F:IM->β):IQ β:=
 look (Fast.tw10156331382660048174 (Fast.tw11892475500146522536 Fast.tw14364793385576792824) p w) (Fast.tw6613529449190102663 m₀ WX) Qv M os w.params (SS p) F
theorem mB{β:Type}{p:Jc}{m₀:Nat}{WX:IQ IH}{M:Nat}{w:Jv}{os:Pe}{F:IM->β}{b:β}(h:lookAt p m₀ WX M w os F=B' b):
  ∃s,XY Xv p w m₀ WX M ⟨Lh w.params,Pr [],Ow,O6,os⟩ (SS p)=B' s/\F s=b:=by
 unfold lookAt at h;rw[<-Fast.te10156331382660048174,<-Fast.te11892475500146522536,<-Fast.te14364793385576792824,<-Fast.te6613529449190102663]at h;exact Aq h
theorem left{p q:Jc}{loose:IG Str}{Xt:IM->Jm}{α:Type}{Yf:IM->α}{Ya:Jv->α}{N:Nat}{g0:Jm}{m₀:Nat}{WX:IQ IH}{M:Nat}
  (e:opening p=plainProg p.main.scope.names) (f:∀s,fenceModules? p s=B' s) (hN:UL 600 N=IS) (le:UL M N=IS)
  (size:∀w:Jv,((Lh w.params).isNs Ja&&(Pr []:J4 Q7).size == 0,(Lh w.params).objs.size,(Lh w.params).nsMap Ja "__annotations__")=(IS,m₀,WX))
  (h1:∀(w:Jv) (os:Pe),lookAt p m₀ WX M w os (seenAt p q loose Xt g0 w)=B' (IS,openGood q loose)) (h2:∀(w:Jv) (os:Pe),lookAt p m₀ WX M w os Yf=B' (Ya w)):
  LeftO p q loose Xt Yf Ya N g0:=λw=>by
 obtain⟨⟨h0,gs,d,k,os⟩,a,b⟩:=KP.mp<|boot_open e hN f w;obtain⟨rfl,rfl,rfl,rfl⟩:h0=Lh w.params/\gs=Pr []/\d=Ow/\k=O6:=by simpa using b
 obtain⟨z1,z2,z3⟩:_/\_/\_:=by simpa only [Xk]using size w
 obtain⟨s,r,l⟩:=mB<|h1 w os;obtain⟨s',r',l3⟩:=mB<|h2 w os;rw[r]at r';cases r';unfold seenAt at l;rw[<-Fast.te5923862056798008813,<-Fast.te4187177175401517315]at l;obtain⟨l1,l2⟩:_/\_:=by simpa only [Xk]using l
 have r:=topRun_mono (N - M) _ _ _ _ r;rw[show M+(N - M)=N by have:=Nat.le_of_ble_eq_true le;lia]at r;have t:topFrom Xv p w N ⟨Lh w.params,Pr [],Ow,O6,os⟩=B' s:=by
  unfold topFrom;dsimp only;rw[z1,z2,z3,r];show(match staticsOk (importedModules p.main.body) (Lh w.params) s.heap&&namesBound p s.heap&&gensDone s&&laidKept (Lh w.params) s.heap with|true=>_|false=>_)=_
  rw[l1]
 unfold openEnds;rw[a];show(topFrom Xv p w N _).map _=_
 rw[t];exact Kp B'<|Sw l2 l3
theorem head{r:OpenRow}{q:Jc}{loose:IG Str}{lv:IG (Str×WData)}(H:Hook){d:DefRec}{kwd:IG (Str×Km)}{N:Nat}
  (lf:LeftO r.prog q loose (λs=>xlAt q lv s&&recOk r.records s) H.obs H.val N) (aga:defOf q r.name=B' (d,kwd)) (hp:r.prog.theDef r.name=B' (d.params,d.body,d.scope)) (hk:kwWritten? d.params.kwonlyargs d.params.kw_defaults=B' kwd)
  (hwr:(!r.writes || r.records.isEmpty)=IS) (k1:r.wellSaid=IS) (ok:(chainsOk q&&opensWell r.prog&&(frees r.toRowW&&r.within.isEmpty))=IS) (hb:r.prog.bare) (hw:r.toRowW.promised)
  (hc:U8 q loose (XL q lv) H.says r.toRowW d kwd λf vs=>Ts f vs):r.Holds:=
 holds_open lf H.of H.keeps (λs e=>xl_of s (SG.mp e).1) XL.keeps aga hp hk (λs e=>recFacts_of (SG.mp e).2) hwr k1 ok hb hw hc
end HD
namespace L2
open PySem PySem.Spec PyProof.Rows
def sM:IG IH->Jm
 |.ref _::r=>sM r
 |l=>l == [.type "ValueError",.type "Exception",.type "BaseException",.type "object"]
theorem mC(self:IH):∀{l:IG IH},sM l=IS->refuseLoop self "__setattr__" l=pure ()
 |[],e=>by cases e
 |v::r,e=>by
  cases v with
  |ref c=>exact(refuseLoop_ref self "__setattr__" c r).trans<|mC self (l:=r) e
  |_=>rw[show _::r=_ from Ng.mp e];exact PySem.F.store_ValueError.passes self
abbrev nV(C t:IL)(dx:IQ IL):Obj:={cls:=.ref C,dict:=dx,data:=.fields #[.ref t,.none,.none,.none,.bool IU,.none]}
def gk(ea C:IL)(dx:IQ IL):HO:=.ext λh=>∃t:IL,h.get? ea=B' (nV C t dx)
structure nW (K:IJ)(C:IL)(f:Str):Prop where
 cls:∃cd,L_ K C=B' cd/\(cd.hasDict&&sM cd.mro)=IS
 sa:Kl K (.ref C) "__setattr__"=B' (B'<|.builtin "object.__setattr__")
 nf:Kl K (.ref C) f=B' IV
 ob:JL K C (.type "object")=B' IS
section
variable {prog:Jc}{w:Jv}{A:JV}{E:IH->IM->Prop}{h:JM}{g:J4 Q7}{d:YI}{t:Nat}{os:Pe}{x C:IL}{K:IJ}{f:Str}{v:IH}{vs:J4 IH}
theorem pK{tk:Tok}{Q:Fin->IM->Prop}(X:K.In h)(T:nW K C f)(hx:h.get? x=B' {cls:=.ref C,dict:=IV,data:=.fields vs})
  (hq:∀h' Yk,(∀b o,b≠x->h.get? b=B' o->h'.get? b=B' o)->h'.get? x=B' {cls:=.ref C,dict:=B' h.objs.size,data:=.fields vs}->h'.Ns1 h.objs.size (λy=>if y=f then B' v else IV)->Q (.done<|.ret .none) ⟨h',g,d,Yk,os⟩):
  wpAny (Ju prog w) A (Builtin.«object.__setattr__» ⟨[.ref x,.str f tk,v],[]⟩) Q E ⟨h,g,d,t,os⟩:=by
 obtain⟨cd,hc,Xu⟩:=T.cls;rw[JT]at Xu;have L1:=Lr (M:=Ju prog w) X T.nf;have L2:Of (Ju prog w) h (mroOf<|.ref C) cd.mro:=(N9 X hc).andThen .now;have L3:=N9 (M:=Ju prog w) X hc;rw[PySem.W.osa_eq,refuse_eq];have xs:x≠h.objs.size:=Js<|Jh hx;have g1:=IP {cls:=.type "dict",data:=.dict #[]} hx;have gd:((h.push {cls:=.type "dict",data:=.dict #[]}).update x λo=>{cls:=o.cls,dict:=B' h.objs.size,data:=o.data,slots:=o.slots}).get? h.objs.size=B' {cls:=.type "dict",data:=.dict #[]}:=
  (N_ _ _ _ _<|Lq xs).trans (Ux rfl rfl)
 have nd:((h.push {cls:=.type "dict",data:=.dict #[]}).update x λo=>{cls:=o.cls,dict:=B' h.objs.size,data:=o.data,slots:=o.slots}).Ns h.objs.size (λ_=>IV):=⟨_,#[],_,gd,rfl,λe he=>absurd he (by simp),λ_=>rfl⟩;have n1:=Heap.Ns1.of_empty nd
 repeat (first|(rw[mC _ Xu.2])|with_reducible refine Kb hx ?_|with_reducible refine L2.at ?_|with_reducible refine L1.at ?_|with_reducible refine L3.at ?_|(with_reducible show wpAny _ _ (nsSet _ _ _) _ _ _;refine wpAny_nsSet1 n1 λh' hn' hs=>?_)|wp_step)
 obtain⟨oD,esD,epD,hoD,hdD,hcD⟩:=hn'.count<|Within.cons f v Within.nil;refine Kb hoD ?_;rw[hdD,show(aaa esD epD).pastItsLine=IV from pastItsLine_dict<|KE hcD<|by rw[KS,JJ,Lg];lia];refine I0<|I0<|hq _ _ (λb o hb e=>?_) ?_ hn'
 ·exact(hs.2 b<|Js<|Jh e).trans<|(N_ _ _ _ _ hb).trans<|IP _ e
 ·exact(hs.2 x xs).trans<|KF _ g1 rfl
theorem uY{Q:Pt->IM->Prop}(X:K.In h)(T:nW K C f)(hx:h.get? x=B' {cls:=.ref C,dict:=IV,data:=.fields vs})
  (hq:∀h' Yk,(∀b o,b≠x->h.get? b=B' o->h'.get? b=B' o)->h'.get? x=B' {cls:=.ref C,dict:=B' h.objs.size,data:=.fields vs}->h'.Ns1 h.objs.size (λy=>if y=f then B' v else IV)->Q () ⟨h',g,d,Yk,os⟩):
  wpAny (Ju prog w) A (setAttr (.ref x) f v) Q E ⟨h,g,d,t,os⟩:=by
 have SF:=PySem.F.store_ValueError;have f3:=SF.slot.bind<|.ref x;have L1:=Lr (M:=Ju prog w) X T.sa;unfold setAttr callSpecial? specialOf
 repeat (first|with_reducible refine Kb hx ?_|with_reducible refine L1.at ?_|rw[f3]|wp_step)
 have L2:Of (Ju prog w) h (To (.ref x)<|.type "object") true:=(eT hx rfl).andThen<|MH X T.ob;refine Mz SF.slot.plain SF.entry ?_;refine @PySem.W.check_slot (Ju prog w) _ _ ⟨h,g,d,t+1,os⟩ "object.__setattr__" "object" "__setattr__" (.ref x) [.str f t,v] [] _ SF.kind SF.split L2 (SF.args (.ref x) (.str f t) v) ?_;refine pK (t:=t+1) X T hx λh' Yk k1 k2 k3=>?_;exact I0<|I0<|hq h' Yk k1 k2 k3
theorem pL{M:RO}(X:K.In h)(SU:∃cd,L_ K C=B' cd)(hv:JL K C (.type "ValueError")=B' IS)(hx:h.get? x=B' o)(hc:o.cls=.ref C)(hq:Q () ⟨h,g,d,t,os⟩):
  wpAny M A (N0 "ValueError.__init__" ⟨[.ref x,v],[]⟩) Q E ⟨h,g,d,t,os⟩:=by
 have FB:=Md;have ns:=FB.noStar;have L1:Of M h (To (.ref x)<|.type "ValueError") true:=(eT hx hc).andThen<|MH X hv;simp only [N0,FB.initKind,FB.initSplit,FB.initRow];refine II<|L1.here ?_;simp only [Pj,JK,MX];obtain⟨cd,SU⟩:=SU;have L2:=N9 (M:=M) X SU
 wp_walk
 rw[hc]
 repeat (first|with_reducible refine L2.at ?_|wp_step)
 exact hq
theorem uZ{Q:IH->IM->Prop}(X:K.In h)(SU:∃cd,L_ K C=B' cd)(hv:JL K C (.type "ValueError")=B' IS)(hx:h.get? x=B' (nV C t0 dx))
  (hq:∀h' Yk t1,(∀b o,b≠x->h.get? b=B' o->h'.get? b=B' o)->h'.get? x=B' (nV C t1 dx)->Q .none ⟨h',g,d,Yk,os⟩):
  wpAny (Ju prog w) A (call (.builtin "ValueError.__init__") [.ref x,v]) Q E ⟨h,g,d,t,os⟩:=by
 have FB:=Md;refine O4 (Mz FB.init.plain FB.initEntry<|pL X SU hv hx rfl ?_)
 repeat (first|with_reducible refine Kb hx ?_|wp_step)
 have g1:=IP {cls:=.type "tuple",data:=.seq #[v]} hx;exact hq _ _ h.objs.size (λb o hb e=>(N_ _ _ _ _ hb).trans<|IP _ e)<|KF _ g1 rfl
end
structure xn (K:IJ)(D:IL):Prop where
 sp:Qw K (.ref D) "__getattribute__"=B' (B'<|.builtin "type.__getattribute__")
 rd:VE K D (.type "type")=IS
 fc:VF K (.ref D) (.type "type") "__init__"=B' (.val<|.builtin "ValueError.__init__")
def DS(K:IJ)(D:IL)(ta:TE)(t:TA):TE:=λσ H Q=>ta σ H λx H1=>x=.ref D/\t σ H1 λvs H2=>∃ea C dx y,vs=[.ref ea,y]/\H2 ea=B' (gk ea C dx)/\(∃cd,L_ K C=B' cd)/\JL K C (.type "ValueError")=B' IS/\Q .non H2
theorem xo(e:H a=B' o):upd H a o=H:=by
 funext b
 by_cases hb:b=a
 ·rw[hb,ad,e]
 ·rw[ao hb]
theorem nX(e:h.get? ea=B' (nV C t dx)):ObjOk P w H h ea (gk ea C dx):=
 ⟨⟨t,e⟩,⟨_,e⟩,λ_ _ ⟨t',e'⟩ k=>⟨t',k _ e'⟩⟩
section
variable {X:Cx}{o e:Km}{es:IG Km}{ta:TE}{t:TA}{Tf pos:Pos}{D:IL}
theorem xp{pl:Sem Jm}(U:xn X.K D)(ho:PE X o ta)(ha:PA X (e::es) t)
  (hs:JI (e::es) X.env=(IU,LN e X.env)::JI es X.env:=by rfl) (T_:(MF pos<|JI es X.env).any (·.1)=false:=by rfl)
  (ht:LN (.Call (.Attribute o "__init__" Tf) (e::es) [] pos) X.env=(do
   let ov <-LN o X.env
   standAt Tf.atName
   let (f,first) <-SO [ov] (getMethod ov "__init__" pl)
   callWith pos f first (MF pos<|JI (e::es) X.env) (Yz pos<|Vo [] X.env)):=by rfl):
  PE X (.Call (.Attribute o "__init__" Tf) (e::es) [] pos) (DS X.K D ta t):=by
 intro IT s σ H Q I h;refine PySem.W.methodCall_KW (pl:=pl) (bT (ho IT s σ H _ I h) λu s1 ⟨x,H1,I1,rx,ex,q⟩=>?_) ht;subst ex;obtain rfl:u=JS D:=rx;refine PySem.W.method_cls I1.kIn U.sp<|PySem.W.cls_value I1.kIn U.rd U.fc rfl ?_;have I2:=I1.tok<|s1.toks+1;have hA:=ha pos IT _ σ H1 _ I2 q;rw[hs]at hA ⊢;refine OR (by show(IU || (MF pos<|JI es X.env).any (·.1))=IU;rw[T_]<;>rfl)<|NV ?_;refine bT hA λus s2 ⟨vs,H2,I3,r2,ea,C,dx,y,ev,V5,SU,hv,q2⟩=>?_;subst ev;obtain⟨u1,u2,rfl,r3,r4⟩:=r2.two;obtain rfl:u1=JS ea:=r3;obtain⟨⟨t0,g0⟩,_⟩:=(show ObjOk X.prog X.w H2 s2.heap ea (gk ea C dx)from I3.hok ea _ V5);obtain⟨h2,g2,d2,WE,os2⟩:=s2;refine uZ I3.kIn SU hv g0 λh' Yk t1 k1 k2=>⟨.non,H2,?_,rfl,q2⟩;have J:=I3.write (x:=ea) (e:=ea) (o:=gk ea C dx) (h':=h') (t':=Yk) (by rw[V5];exact LS) (.inl rfl) (λb u hb z=>k1 b u hb z) ⟨_,k2⟩<|nX k2;rw[xo V5]at J;exact J
end
def FU(te:TE):TE:=λσ H Q=>te σ H λx H1=>∃i:Int,x=.int i/\i.natAbs.log2 < 1920/\∀y,Q (.str y) H1
section
variable {X:Cx}{e:Km}{te:TE}{p1 p2 p3 pos:Pos}{a b:Str}{j k:Nat}
theorem Ar(he:PE X e te)(ha:a.length<=1000:=by decide)(hb:b.length<=1000:=by decide):PE X (.JoinedStr [.Constant (.str a) j p1,.FormattedValue e (-1) IV p2,.Constant (.str b) k p3] pos) (FU te):=by
 intro IT s σ H Q I h;have e0:(Xz++a).length=a.length:=by rw[S9];exact Mv _
 have hz:=KS;have I1:=I.tok<|s.toks+1;refine JoinedStr_many<|Su<|Qa ⟨by lia,Su<|FormattedValue_plain<|bT (he IT _ σ H _ I1 h) λu s1 ⟨x,H1,I2,rx,i,ex,hi,q⟩=>?_⟩;subst ex;obtain⟨tk,rfl⟩:=(show∃tk,u=Np i tk from rx);refine formatField_int_small hi ?_;have hl:=int_text_length_le (k:=1920) (by decide) hi;have e1:(Xz++a++(toString i:Str)).length<=3000:=by
  rw[S9,e0,PySem.ofString_length];lia
 refine⟨by lia,Su<|Qa ⟨?_,joinParts_nil ⟨.str _,H1,((I2.tok<|s1.toks+1+1).tok _).tok _,⟨_,rfl⟩,q _⟩ ?_⟩⟩<;>
  (rw[S9];lia)
end
def FV(K:IJ)(ta tv:TE)(f:Str):TS:=λD σ H=>tv σ H λy H1=>ta σ H1 λx H2=>∃ea C,x=.ref ea/\H2 ea=B' (gk ea C IV)/\nW K C f/\
 ∀dx,H2 dx=IV->D.nx σ (upd (upd H2 ea<|gk ea C<|B' dx) dx<|.xd [(f,y)])
section
variable {X:Cx}{o value:Km}{f:Str}{pos QJ:Pos}{ta tv:TE}
theorem As(ha:PE X o ta)(hv:PE X value tv)(hs:P4 value (B'<|.Attribute o f QJ) pos.line X.env=pure IU):PS X (.Assign [.Attribute o f QJ] value pos) (FV X.K ta tv f):=by
 intro IT s σ H D I h;refine plainObj_wpAny_Assign_Attribute (bT (hv IT s σ H _ I h) λu s1 ⟨y,H1,I1,ry,q⟩=>bT (ha IT s1 σ H1 _ I1 q) λov s2 ⟨x,H2,I2,rx,ea,C,ex,V5,T,q2⟩=>?_) hs;subst ex;obtain rfl:ov=JS ea:=rx;obtain⟨⟨t0,g0⟩,_⟩:=(show ObjOk X.prog X.w H2 s2.heap ea (gk ea C IV)from I2.hok ea _ V5);obtain⟨h2,g2,d2,WE,os2⟩:=s2;refine uY I2.kIn T g0 λh' Yk k1 k2 k3=>⟨σ,_,?_,q2 h2.objs.size<|I2.hok.fresh<|IX _⟩;have hdn:H2 h2.objs.size=none:=I2.hok.fresh<|IX _;have mu:EE (H2 ea):=by rw[V5];exact LS
 have ok1:HOk X.prog X.w (upd H2 ea<|gk ea C<|B' h2.objs.size) h':=I2.hok.write mu (.inl rfl) (λb u hb z=>k1 b u hb z) ⟨_,k2⟩<|nX k2;have un1:Un X.fs [] H2 (upd H2 ea<|gk ea C<|B' h2.objs.size) h2 h':=Un.write mu (.inl rfl) (λb u hb z=>k1 b u hb z) ⟨_,k2⟩;have ned:h2.objs.size≠ea:=λz=>by rw[z,V5]at hdn;cases hdn
 have YU:upd H2 ea (gk ea C<|B' h2.objs.size) h2.objs.size=none:=by rw[ao ned];exact hdn
 refine I2.un (t':=Yk) ⟨un1.keep,un1.slot,λb ob q n hx=>?_,un1.there,λb xs q=>?_,λb ob v q=>?_,λb ps q=>?_⟩ λb v q=>?_
 ·rw[ao<|Js<|Jh q];exact un1.free b ob q n hx
 ·have z:=un1.tups b xs q;rw[ao<|aj z YU];exact z
 ·have z:=un1.frzs b ob v q;rw[ao<|aj z YU];exact z
 ·obtain⟨more,z⟩:=un1.tbls b ps q;exact⟨more,by rw[ao<|aj z YU];exact z⟩
 ·by_cases hb:b=h2.objs.size
  ·subst hb;rw[ad]at q;cases q;refine⟨_,k3,λy'=>?_⟩;by_cases hy:y'=f
   ·rw[JF hy,hy];show RelO (Vs f [(f,y)]) (B' u)
    rw[List.lookup_cons_self];exact ry
   ·rw[JD hy];have e1:(y' == f)=false:=Li.mpr hy;show RelO (Vs y' [(f,y)]) IV
    rw[Vs,e1];exact LS
  ·rw[ao hb]at q;exact(ok1 b v q).stay (λ_ _ _ z=>z) (λc z=>by rw[ao<|aj z YU];exact z) λc xs z=>by rw[ao<|aj z YU];exact z
end
def zo(H:Hp)(a:IL):Hp:=λb=>if b=a then IV else H b
theorem pM:zo H a a=none:=by unfold zo;rw[JF rfl]
theorem fY(h:b≠a):zo H a b=H b:=by unfold zo;rw[JD h]
section
variable {P:Jc}{w:Jv}{K:IJ}{mg:Str->IQ IH}{base:JM}{N:IG Str}{qual:Str}{scope:N6}{f:IL}{cd:IH}{A:JV}{outer:IG Env}{s:IM}{H:Hp}{E:XK}
theorem FW(I:Inv (cj (iq P w) P w K mg base N qual scope f cd A outer s H E) IT σ H2 s2)(V5:H2 ea=B' (gk ea C dx))(Vy:s.heap.get? ea=IV)
  (hE:E (.ref C) dx (zo H2 ea)):(cj (iq P w) P w K mg base N qual scope f cd A outer s H E).xe (.ref ea) s2:=by
 have M6:∀b o,s.heap.get? b=B' o->b∉dN outer->b∉dN (JU qual scope s.heap.objs.size f cd::outer):=λb o e hb hm=>by
  obtain⟨env,he,hf⟩:=JZ.mp hm;obtain rfl|he:=JC.mp he
  ·have:s.heap.objs.size=b:=Jo hf;exact absurd (Jh e) (by rw[this];exact Lv b)
  ·exact hb<|JZ.mpr ⟨env,he,hf⟩
 have XI:∀b,b∈dN outer->b∈dN (JU qual scope s.heap.objs.size f cd::outer):=λb hb=>by
  obtain⟨env,he,hf⟩:=JZ.mp hb;exact JZ.mpr ⟨env,Jk _ he,hf⟩
 have R3:s2.heap.FunFrames base (JU qual scope s.heap.objs.size f cd::outer):=I.stack;have SM:∀b∈dN (JU qual scope s.heap.objs.size f cd::outer),H2 b=none:=I.stkFree;have af2:∀b∈ea::dN (JU qual scope s.heap.objs.size f cd::outer),zo H2 ea b=none:=λb hb=>by
  obtain rfl|hb:=JC.mp hb
  ·exact pM
  ·unfold zo
   split
   ·rfl
   ·exact SM b hb
 have YT:∀env∈(JU qual scope s.heap.objs.size f cd::outer),∀b,env.frame=B' b->b∈ea::dN (JU qual scope s.heap.objs.size f cd::outer):=λenv he b hb=>Jk _<|JZ.mpr ⟨env,he,hb⟩;have hff:=Rk R3 YT;have ne:∀b o,s.heap.get? b=B' o->b≠ea:=λb o hb z=>by rw[z,Vy]at hb;cases hb
 have out:∀b o,s.heap.get? b=B' o->b∉dN outer->b∉ea::dN (JU qual scope s.heap.objs.size f cd::outer):=λb o e hb hm=>by
  obtain z|z:=JC.mp hm
  ·exact ne b o e z
  ·exact M6 b o e hb z
 obtain⟨⟨t0,g0⟩,_⟩:=(show ObjOk P w H2 s2.heap ea (gk ea C dx)from I.hok ea _ V5);have ok2:HOk P w (zo H2 ea) s2.heap:=λb u q=>by
  have hb:b≠ea:=λz=>by rw[z,pM]at q;cases q
  rw[fY hb]at q;exact(I.hok b u q).stay (λ_ _ _ z=>z) (λc z=>by rw[fY λy=>by rw[y,V5]at z;cases z];exact z) λc xs z=>by rw[fY λy=>by rw[y,V5]at z;cases z];exact z
 show wpAny (Ju P w) _ (Qs (JU qual scope s.heap.objs.size f cd)<|.ref ea) _ _ s2
 refine An (B:=Px s2.heap<|ea::dN (JU qual scope s.heap.objs.size f cd::outer)) (outer:=outer) (L:=s.heap.objs.size) I.ok.frames hff rfl g0 (λb o q=>P8 _ q) ?_ rfl rfl rfl
  λh' fly up=>⟨zo H2 ea,_,ea,_,_,_,rfl,⟨?_,I.bare,fly,ok2.hid af2,λb o e n hb=>?_,λb o e hb=>?_,λb o e n hb=>?_,λb o e n=>?_,λb xs e=>?_,λb o u e=>?_,λb ps e=>?_⟩,hE⟩
 ·exact Sb _ Jp
 ·exact I.os
 ·exact MJ _ (I.base.keep b o e n hb<|by intro z;cases z)<|out b o e hb
 ·obtain⟨o1,e1⟩:=I.base.there b o e (by intro z;cases z);exact⟨o1,MJ _ e1<|out b o e hb⟩
 ·obtain⟨sl,e1⟩:=I.base.slot b o e n hb (by intro z;cases z);obtain⟨_,o1,e2,nf⟩:=R3.mem (b:=b)<|XI b hb;rw[e1]at e2;cases e2;obtain⟨sl',e3⟩:=up b _ e1 nf;exact⟨sl',e3⟩
 ·rw[fY<|ne b o e];exact I.base.free b o e n (by intro z;cases z)
 ·have z:=I.base.tups b xs e;rw[fY λy=>by rw[y,V5]at z;cases z];exact z
 ·have z:=I.base.frzs b o u e;rw[fY λy=>by rw[y,V5]at z;cases z];exact z
 ·obtain⟨more,z⟩:=I.base.tbls b ps e;exact⟨more,by rw[fY λy=>by rw[y,V5]at z;cases z];exact z⟩
end
def gN(K:IJ)(C:IL)(above:IG IH)(nw:LA)(fI:IL):Jm:=match K.lookup C with
 |some ⟨.type "type",_,.cls c,sl⟩=>(match c.mro,sl.toList with
  |.ref C1::up,[_,_,_,_,B' (.builtin n),_]=>C1 == C&&n == nw&&(!c.hasDel)&&PySem.W.tailIn K above up&&PySem.W.nsOkIn K c.ns&&Jb K c.ns "__init__" == B' (B'<|.ref fI)
  |_,_=>IU)
 |_=>IU
theorem qR{K:IJ}{h:JM}{N:IL}{x:Str}{v:IH}{m:Str->IQ IH}(X:K.In h)(G:h.Ns N m)(e:Jb K N x=B' (B' v)):m x=B' v:=by
 obtain⟨o,es,ep,ho,hd,_,hf⟩:=G;unfold Jb at e
 split at e
 case h_2=>cases e
 case h_1 _ _ _ _ _ lk=>
  have z:=(X _ _ lk).symm.trans ho;cases z;cases hd
  split at e
  case h_2=>split at e<;>cases e
  case h_1 en he=>
   cases e;refine(hf x).symm.trans ?_;unfold nsFind findBy;rw[<-T7,he];rfl
def Au(h:JM)(C:IL)(Vk:IG IH)(newId:LA)(fI:IL):Prop:=
 ∃(bm:IG IH) (N:IL) (nm q:Str) (bs:IG IH) (hdct:Jm) (sn:IG Str) (sub:IG IH) (ab:Jm) (col:IQ Jm) (dd:IQ IL) (k0 k1 k2 k3 k5:IQ IH) (mN:Str->IQ IH),
  h.get? C=B' (Qu nm q C N bs bm hdct sn sub ab col dd k0 k1 k2 k3 k5 newId)/\h.Ns N mN/\mN "__init__"=B' (.ref fI)/\X4 h Vk bm
theorem iL{K:IJ}{h:JM}{C fI:IL}{Vk:IG IH}{newId:LA}(X:K.In h)(q:gN K C Vk newId fI=IS):Au h C Vk newId fI:=by
 unfold gN at q
 split at q
 case h_2=>cases q
 case h_1 dd cd sl ho=>
  split at q
  case h_2=>cases q
  case h_1 C' bm k0 k1 k2 k3 n k5 hm hs=>
   rw[JT,JT,JT,JT,JT]at q;obtain⟨⟨⟨⟨⟨q1,q2⟩,q3⟩,q4⟩,q5⟩,q6⟩:=q;have e1:C'=C:=Ng.mp q1;have e2:n=newId:=Ng.mp q2;have e6:=Ng.mp q6;subst e1 e2;obtain⟨nm,bs,mro,ns,qn,hd,sn,sub,ab,col,del⟩:=cd;have em:mro=.ref C'::bm:=hm;have ed:del=false:=by simpa using q3
   have es:sl=#[k0,k1,k2,k3,B'<|.builtin n,k5]:=Vg.mp hs;subst em ed es;have hN:h.Ns ns (h.nsMap ns):=.of_isNs<|Tw X q5;exact⟨bm,ns,nm,qn,bs,hd,sn,sub,ab,col,dd,k0,k1,k2,k3,k5,_,X _ _ ho,hN,qR X hN e6,Tu X q4⟩
section
variable {X:Cx}{IT:IG (IL×Obj)}{σ:St}{H:Hp}{s:IM}{h':JM}
theorem Inv.laidN{t':Nat}(I:Inv X IT σ H s)(k:∀b u,s.heap.get? b=B' u->h'.get? b=B' u)(hn:s.heap.get? a=IV)(new:ObjOk X.prog X.w (upd H a o) h' a o):
  Inv X IT σ (upd H a o) {s with heap:=h',toks:=t'}:=by
 have ha:H a=none:=by
  cases q:H a with
  |none=>rfl
  |some u=>
   obtain⟨ob,e⟩:=ObjOk.some<|I.hok a u q;rw[hn]at e;cases e
 refine I.un ⟨λb u q _ _ _=>k b u q,λb u q _ _ _=>⟨u.slots,k b u q⟩,λb u q n _=>?_,λb u q _=>⟨u,k b u q⟩,λb xs q=>?_,λb u xs q=>?_,λb ps q=>?_⟩ λb u e=>?_
 ·rw[ao λz=>by rw[z,hn]at q;cases q];exact n
 ·rw[ao<|aj q ha];exact q
 ·rw[ao<|aj q ha];exact q
 ·exact⟨#[],by rw[ao<|aj q ha,q];simp⟩
 ·by_cases hb:b=a
  ·subst hb;rw[ad]at e;cases e;exact new
  ·rw[ao hb]at e;exact(I.hok b u e).stay (λc v _ q=>k c v q) (λc q=>by rw[ao<|aj q ha];exact q) λc xs q=>by rw[ao<|aj q ha];exact q
end
structure HW (P:Jc)(w:Jv)(K:IJ)(mg:Str->IQ IH)(base:JM)(k:Nat)(x:Str)(C f:IL)(fd:Jr)(ps:IG Str)(sp:Sp):Prop where
 ok:FnOk P w K mg base c6 k f fd ps sp
 b:Binds K fd ps []
 ex:gN K C [.type "ValueError",.type "Exception",.type "BaseException",.type "object"] "ValueError.__new__" f=IS
 fn:XZ K (.ref f)=IS
 kp:LJ K (.ref C)=IS
 at_:mg x=B' (.ref C)
def Av(C:IL)(sp:Sp)(E:XK)(t:TA):TS:=λ_ σ H=>t σ H λvs H1=>vs.length<=sizeLine/\∀ea,H1 ea=IV->sp (.ref ea::vs) (upd H1 ea<|gk ea C IV) (λv H2=>v=.non/\∃dx,H2 ea=B' (gk ea C dx)/\E (.ref C) dx (zo H2 ea)) E0
section
variable {P:Jc}{w:Jv}{K:IJ}{mg:Str->IQ IH}{base:JM}{N:IG Str}{qual:Str}{scope:N6}{f:IL}{cd:IH}{A:JV}{outer:IG Env}{s:IM}{H:Hp}{E:XK}
theorem u0{k:Nat}{e:Km}{es:IG Km}{t:TA}{np Pk pos:Pos}(G:HW P w K mg base j x C fI fd ps sp)
  (hr:Room k (cj (iq P w) P w K mg base N qual scope f cd A outer s H E).A) (ZU:j+1<=k) (hg:Gl (cj (iq P w) P w K mg base N qual scope f cd A outer s H E) x) (ha:PA (cj (iq P w) P w K mg base N qual scope f cd A outer s H E) (e::es) t) (hd:(x == ("__debug__":Str))=false:=by decide)
  (he:JI (e::es) (cj (iq P w) P w K mg base N qual scope f cd A outer s H E).env=(IU,LN e (cj (iq P w) P w K mg base N qual scope f cd A outer s H E).env)::JI es (cj (iq P w) P w K mg base N qual scope f cd A outer s H E).env:=by rfl)
  (T_:(MF Pk<|JI es (cj (iq P w) P w K mg base N qual scope f cd A outer s H E).env).any (·.1)=false:=by rfl):
  PS (cj (iq P w) P w K mg base N qual scope f cd A outer s H E) (.Raise (B'<|.Call (.Name x np) (e::es) [] Pk) IV pos) (Av C sp E t):=by
 intro IT s1 σ H1 D I h;have FB:=Md;obtain⟨bm,N',nm,q',bs,hdct,sn,sub,ab,col,dd,k0,k1,k2,k3,k5,mN,h1,h2,h3,h4⟩:=iL I.mod.kin G.ex;have hfn:=Ng.mp (show(PySem.W.typeIn K (.ref fI) == B' (.type "function"))=IS from G.fn);obtain⟨oI,lkI,cI⟩:=KP.mp hfn;rw[arm_exec_Raise];refine II<|Oe<|uV (C:=C) (nm:=nm) (q:=q') (N:=N') (bs:=bs) (bm:=bm) (hdct:=hdct) (sn:=sn) (sub:=sub) (ab:=ab) (col:=col) (dd:=dd) (k0:=k0) (k1:=k1) (k2:=k2) (k3:=k3) (k5:=k5) (newId:="ValueError.__new__") (h4.hasType FB.hasBase) (I.ok.hd rfl)<|II<|J2 (La<|c9 I hg G.at_ ?_ hd) (λv s2 z=>II<|Oe<|I0 z) λ_ _ z=>z;refine Ov (h₀:=base) I.ok.mod.kin G.kp (J2 (ha Pk IT s1 σ H1 _ I h) (λus s2 ⟨vs,H2,I2,r,hz,q⟩=>⟨I2.kIn,?_⟩) λ_ _ z=>z) he T_;obtain⟨Zb,g2,d2,WE,os2⟩:=s2;refine uU FB (h4.keeps I2.bk) (I2.bk _ _ h1) (h2.keeps I2.bk) h3 (I2.kIn _ _ lkI) cI (by rw[PD,<-r.length];exact hz) λh5 ea hx=>?_;obtain⟨t0,g0,_,_⟩:=hx.there;have af8:H2 ea=none:=by
  cases z:H2 ea with
  |none=>rfl
  |some u=>
   obtain⟨ob,e'⟩:=ObjOk.some<|I2.hok ea u z;rw[hx.new]at e';cases e'
 have I3:=I2.laidN (a:=ea) (o:=gk ea C IV) (h':=h5) (t':=WE) hx.keeps hx.new<|nX g0;have hq:=q ea af8;have r2:Vals (V.ref ea::vs) (JS ea::us):=.cons rfl r;have hl:(JS ea::us).length=ps.length:=by rw[<-r2.length];exact G.ok.len _ _ _ _ hq
 have hbs:=G.b ⟨h5,g2,d2,WE,os2⟩ (JS ea::us) I3.kIn (by rw[Kg];exact hl);rw[Kg]at hbs;have YR:Room (j+1) (cj (iq P w) P w K mg base N qual scope f cd A outer s H E).A:=hr.mono ZU;refine O4<|Nw (G.ok.run _ (JU qual scope s.heap.objs.size f cd::outer) ⟨h5,g2,d2,WE,os2⟩ _ ⟨JS ea::us,[]⟩ (JS ea::us) (V.ref ea::vs) _ E0 (YR.make C us []) (I3.env0.make C us []) hbs r2 hq) λres s' YS=>?_;cases res with
 |error e'=>exact Ld YS
 |ok fl=>
  cases fl with
  |ret u=>
   obtain⟨v,H',I4,rv,ev,dx,adZ,hE⟩:=I3.after YS;subst ev;obtain⟨⟨t1,g1⟩,_⟩:=(show ObjOk P w H' s'.heap ea (gk ea C dx)from I4.hok ea _ adZ);refine⟨rv,ea,t1,dx,rfl,I4.bk _ _ h1,g1,FW I4 adZ ?_ hE⟩;cases z:s.heap.get? ea with
   |none=>rfl
   |some ob=>
    obtain⟨o',e'⟩:=I2.base.there ea ob z (by intro y;cases y);have e2:Zb.get? ea=B' o':=e';rw[hx.new]at e2;cases e2
  |next=>exact Ld YS
  |brk=>exact Ld YS
  |cont=>exact Ld YS
end
structure u6 (P:Jc)(w:Jv)(K:IJ)(mg:Str->IQ IH)(base:JM)(k:Nat)(x:Str)(f:IL)(fd:Jr)(ps:IG Str)(sp:Sp):Prop where
 ok:FnOk P w K mg base (iq P w) k f fd ps sp
 b:Binds K fd ps []
 kp:LJ K (.ref f)=IS
 at_:mg x=B' (.ref f)
section
variable {P:Jc}{w:Jv}{K:IJ}{mg:Str->IQ IH}{base:JM}{N:IG Str}{qual:Str}{scope:N6}{f:IL}{cd:IH}{A:JV}{outer:IG Env}{s:IM}{H:Hp}{E:XK}
theorem nY{p pos:Pos}{e:Km}{es:IG Km}{t:TA}(G:u6 P w K mg base j x f' fd ps sp)(hr:Room k (cj (iq P w) P w K mg base N qual scope f cd A outer s H E).A)(ZU:j<=k)
  (hg:Gl (cj (iq P w) P w K mg base N qual scope f cd A outer s H E) x) (ha:PA (cj (iq P w) P w K mg base N qual scope f cd A outer s H E) (e::es) t) (XN:(x == ("__debug__":Str))=false:=by decide)
  (he:JI (e::es) (cj (iq P w) P w K mg base N qual scope f cd A outer s H E).env=(IU,LN e (cj (iq P w) P w K mg base N qual scope f cd A outer s H E).env)::JI es (cj (iq P w) P w K mg base N qual scope f cd A outer s H E).env:=by rfl)
  (T_:(MF pos<|JI es (cj (iq P w) P w K mg base N qual scope f cd A outer s H E).env).any (·.1)=false:=by rfl):
  PE (cj (iq P w) P w K mg base N qual scope f cd A outer s H E) (.Call (.Name x p) (e::es) [] pos) (oM sp [] E t):=
 ng G.ok (hr.mono ZU) hg G.at_ G.kp G.b .nil FT ha XN he T_
end
def dF(ea C d:IL):HO:=.ext λh=>∃(o:Obj) (vs:J4 IH),h.get? ea=B' o/\o.cls=.ref C/\o.dict=B' d/\o.data=.fields vs
abbrev FX:=IH->IQ IL->St->Hp->Prop
def Il(X:Cx)(IT:IG (IL×Obj))(EX:FX)(e:IH)(s':IM):Prop:=
 ∃(σ1:St) (H1:Hp) (s1:IM) (H':Hp) (B:JM) (ea:IL) (dx:IQ IL) (cls a0:IH),e=.ref ea/\Inv X IT σ1 H1 s1/\FliesD X.prog X.w X.stack H1 s1 H' B ea dx cls a0 s'/\EX cls dx σ1 H'
abbrev Aw:=FX->TE
abbrev qS:=FX->TS
def FY(X:Cx)(e:Km)(t:Aw):Prop:=
 ∀(IT:IG (IL×Obj)) (s:IM) (σ:St) (H:Hp) (Q:VK) (EX:FX),Inv X IT σ H s->t EX σ H Q->wpAny (Ju X.prog X.w) X.A (LN e X.env) (EP X IT σ Q) (Il X IT EX) s
def xq(X:Cx)(st:IG KL)(t:qS):Prop:=
 ∀(IT:IG (IL×Obj)) (s:IM) (σ:St) (H:Hp) (D:fQ) (EX:FX),Inv X IT σ H s->t EX D σ H->wpAny (Ju X.prog X.w) X.A (execs st X.env) (SP X IT D) (Il X IT EX) s
def Ax(sp:Sp)(t:TA):Aw:=λEX σ H Q=>t σ H λvs H1=>sp vs H1 Q λcls dx H'=>EX cls dx σ H'
def DT(i:Nat)(t:Aw):qS:=λEX D σ H=>t EX σ H λx H1=>D.nx (σ.set i<|B' x) H1
section
variable {X:Cx}{j k:Nat}{f:IL}{fd:Jr}{ps:IG Str}{sp:Sp}{x:Str}{p pos:Pos}{e:Km}{es:IG Km}{t:TA}
theorem nZ(G:u6 X.prog X.w X.K X.mg X.base j x f fd ps sp)(Xq:∀e s,X.xe e s->False)(hr:Room k X.A)(ZU:j<=k)(hg:Gl X x)(ha:PA X (e::es) t)(XN:(x == ("__debug__":Str))=false:=by decide)
  (he:JI (e::es) X.env=(IU,LN e X.env)::JI es X.env:=by rfl) (T_:(MF pos<|JI es X.env).any (·.1)=false:=by rfl):FY X (.Call (.Name x p) (e::es) [] pos) (Ax sp t):=by
 intro IT s σ H Q EX I h;refine La<|c9 I hg G.at_ ?_ XN;refine Ov (h₀:=X.base) I.ok.mod.kin G.kp (J2 (ha pos IT s σ H _ I h) (λus s1 ⟨vs,H1,I1,r,q⟩=>⟨I1.kIn,?_⟩) λe' s' z=>(Xq e' s' z).elim) he T_;have hl:us.length=ps.length:=by rw[<-r.length];exact G.ok.len _ _ _ _ q
 have hbs:=G.b s1 us I1.kIn (by rw[Kg];exact hl);rw[Kg]at hbs;refine O4<|Nw (G.ok.run X.A X.stack s1 H1 ⟨us,[]⟩ us vs Q (λcls dx H'=>EX cls dx σ H') (hr.mono ZU) I1.env0 hbs r q) λres s' hq=>?_;cases res with
 |error e'=>
  obtain⟨H',B,ea,dx,cls,a0,rfl,fl,hE⟩:=hq;exact⟨σ,H1,s1,H',B,ea,dx,cls,a0,rfl,I1,fl,hE⟩
 |ok fl=>
  cases fl with
  |ret u=>exact I1.after hq
  |next=>exact Ld hq
  |brk=>exact Ld hq
  |cont=>exact Ld hq
theorem kQ(hN:X.N.Nodup)(hi:X.N[i]? =B' y)(hy:EF X.env.scope y)(he:FY X e te)(hs:P4 e (B'<|.Name y QJ) pos.line X.env=pure false:=by rfl)(hf:X.fn y=IS\/X.env.scope.names.lookup y=B' .local:=by first|exact .inl rfl|exact .inr rfl|assumption):
  xq X [.Assign [.Name y QJ] e pos] (DT i te):=by
 intro IT s σ H D EX I h;refine Nm<|Qp (J2 (he IT s σ H _ EX I h) (λv s1 ⟨z,H1,I1,r1,q1⟩=>?_) λ_ _ z=>z) hs;exact eU I1 hN hi hy r1 (λs2 I2=>KY ⟨_,H1,I2,q1⟩) hf
end
section
variable {P:Jc}{w:Jv}{outer:IG Env}{H H':Hp}{s s':IM}{B h':JM}{ea C d:IL}{dx:IQ IL}{cls a0:IH}
theorem FliesD.old(f:FliesD P w outer H s H' B ea dx cls a0 s'):Flies P w outer H s H' B ea cls a0 s':=⟨f.os,f.bare,FlyD.old f.fly,f.hok,f.keep,f.thr,f.slot,f.free,f.tups,f.frzs,f.tbls⟩
theorem FliesD.unX(f:FliesD P w outer H s H' B ea dx (.ref C) a0 s')(st:B.StaysIn h')(up:s'.heap.UpToSlots h')(frf:∀b∈dN outer,H b=IV):Un (dN outer) [] H (upd H' ea o) s.heap h':=by
 have u:=f.un st up frf;have fr:=f.old.fresh;refine⟨u.keep,u.slot,λb o e n hx=>?_,u.there,λb xs e=>?_,λb o v e=>?_,λb ps e=>?_⟩
 ·rw[ao<|f.old.away e];exact u.free b o e n hx
 ·have z:=u.tups b xs e;rw[ao<|aj z fr];exact z
 ·have z:=u.frzs b o v e;rw[ao<|aj z fr];exact z
 ·obtain⟨more,z⟩:=u.tbls b ps e;exact⟨more,by rw[ao<|aj z fr];exact z⟩
theorem FliesD.hokX(f:FliesD P w outer H s H' B ea (B' d) (.ref C) a0 s')(fl:FlyD B outer ea (B' d) (.ref C) a0 h'):HOk P w (upd H' ea<|dF ea C d) h':=λb u q=>by
 have fr:=f.old.fresh;by_cases hb:b=ea
 ·subst hb;rw[ad]at q;cases q;obtain⟨ob,e1,e2,e3,vs,e4⟩:=AtD.there fl;exact⟨⟨ob,vs,e1,e2,e3,e4⟩,⟨ob,e1⟩,λh1 h2 ⟨o,vs,z1,z2⟩ k=>⟨o,vs,k o z1,z2⟩⟩
 ·rw[ao hb]at q;exact(f.hok b u q).stay (λc v _ z=>fl.stay c v z) (λc z=>by rw[ao<|aj z fr];exact z) λc xs z=>by rw[ao<|aj z fr];exact z
end
def FZ(C:IL)(i:Nat)(tb:qS)(ts:TS):TS:=λD σ H=>
 tb (λcls dx σ1 H'=>cls=.ref C/\∃d,dx=B' d/\∀ea,H' ea=IV->ts {nx:=λσ2 H2=>D.nx (σ2.set i IV) H2,rt:=D.rt,bk:=λσ2 H2=>D.bk (σ2.set i IV) H2,ct:=λσ2 H2=>D.ct (σ2.set i IV) H2} (σ1.set i<|B'<|.ref ea) (upd H' ea<|dF ea C d)) D σ H
def IsExc(H:Hp)(ea C:IL):Prop:=H ea=B' (fX ea C)\/∃d,H ea=B' (dF ea C d)
theorem IsExc.obj(x:IsExc H ea C)(ok:HOk P w H h):∃o,h.get? ea=B' o/\o.cls=.ref C:=by
 obtain x|⟨d,x⟩:=x
 ·obtain⟨⟨o,vs,h1,h2,_⟩,_⟩:=(show ObjOk P w H h ea (fX ea C)from ok ea _ x);exact⟨o,h1,h2⟩
 ·obtain⟨⟨o,vs,h1,h2,_⟩,_⟩:=(show ObjOk P w H h ea (dF ea C d)from ok ea _ x);exact⟨o,h1,h2⟩
def HX(K:IJ):IG V->Hp->VK->Prop:=λxs H Q=>∃(ea C:IL) (cv:V) (c:IH) (b:Jm),xs=[.ref ea,cv]/\(match cv with|.ref a=>c=.ref a|.ty n=>c=.type n|_=>False)/\IsExc H ea C/\dE K C/\Jq K (.ref C) c=B' b/\Q (.bl b) H
structure xr (K:IJ)(C:IL)(f:Str):Prop where
 ask:dE K C
 nf:Kl K (.ref C) f=B' IV
 hd:M_ K C=IS
def F0(K:IJ)(ta:TE)(f:Str):TE:=λσ H Q=>ta σ H λx H1=>∃ea C d fs i,x=.ref ea/\H1 ea=B' (dF ea C d)/\H1 d=B' (.xd fs)/\xr K C f/\fs.lookup f=B' (.int i)/\Q (.int i) H1
section
variable {X:Cx}{e:Km}{f:Str}{pos:Pos}{ta:TE}
theorem bD:dJ X (.builtin "isinstance") (HX X.K):=by
 intro IT s σ H xs us Q I r h;obtain⟨ea,C,cv,c,b,rfl,hc,he,T,e,q⟩:=h;obtain⟨u,w',rfl,rx,ry⟩:=vH r;cases(show u=JS ea from rx);have hw:w'=c:=by
  cases cv with
  |ref a=>exact(show w'=JS a from ry).trans (show c=JS a from hc).symm
  |ty n=>exact(show w'=NT n from ry).trans (show c=NT n from hc).symm
  |_=>exact hc.elim
 subst hw;obtain⟨o,h1,h2⟩:=he.obj I.hok;exact Lf (wI T) I.kIn ⟨o,h1,h2⟩ e (λz=>nomatch z) λtk=>⟨.bl b,H,I.tok _,rfl,q⟩
theorem fB(he:PE X e ta)(hb:QQ e f X.env (LN e X.env)=LN e X.env):PE X (.Attribute e f pos) (F0 X.K ta f):=by
 intro IT s σ H Q I h;refine zu hb<|bT (he IT s σ H _ I h) λu s1 ⟨x,H1,I1,rx,ea,C,d,fs,i,ex,ea',hd,T,l,q⟩=>?_;subst ex;obtain rfl:u=JS ea:=rx;obtain⟨⟨o,vs,h1,h2,h3,h4⟩,_⟩:=(show ObjOk X.prog X.w H1 s1.heap ea (dF ea C d)from I1.hok ea _ ea');obtain⟨mA,n1,n2⟩:=(show ObjOk X.prog X.w H1 s1.heap d (.xd fs)from I1.hok d _ hd);have hv:=n2 f;rw[l]at hv;obtain⟨g0,g1,g2,g3,g4⟩:=s1;cases hm:mA f with
 |none=>rw[hm]at hv;exact hv.elim
 |some v=>
  rw[hm]at hv;obtain⟨t,rfl⟩:=(show∃t,v=Np i t from hv);exact Ao I1.kIn T.ask T.nf h1 h2 T.hd h3 ⟨vs,h4⟩ n1 hm rfl ⟨.int i,H1,I1.tok _,⟨_,rfl⟩,q⟩
end
theorem FnOk.or{P:Jc}{w:Jv}{K:IJ}{mg:Str->IQ IH}{base:JM}{CX:rV}{k:Nat}{f:IL}{fd:Jr}{ps:IG Str}{sp sp':Sp}(F:FnOk P w K mg base CX k f fd ps sp)(G:FnOk P w K mg base CX k f fd ps sp'):FnOk P w K mg base CX k f fd ps (λvs H Q E=>sp vs H Q E\/sp' vs H Q E):=
 ⟨λvs H Q E h=>h.elim (F.len vs H Q E)<|G.len vs H Q E,λA outer s H args us vs Q E hr e0 hb hv h=>h.elim (F.run A outer s H args us vs Q E hr e0 hb hv)<|G.run A outer s H args us vs Q E hr e0 hb hv⟩
variable {X:Cx}
end L2
namespace L2
open PySem PySem.Spec PyProof.Rows
section
variable {K:IJ}{x qual:Str}{st:KL}{f:IL}{fd:Jr}{p q r s t:Str}
theorem di{P:IG IH->Prop}(h:∀x us,us.length=n->P (x::us))(us:IG IH)(e:us.length=n+1):P us:=by
 obtain⟨x,r,rfl⟩:=List.exists_cons_of_length_eq_add_one e;exact h x r<|Nat.succ.inj e
theorem kR{P:IG IH->Prop}(h:P [])(us:IG IH)(e:us.length=0):P us:=by
 rw[Kt.mp e];exact h
theorem Fun.b1(F:Fun K x qual st f fd)(h:∀kV Ua pm an LY ct u,Q4 (Mc x qual (d6 st) (cF st) (ap st) .none kV Ua pm an LY ct) ⟨[u],[]⟩=pure [(p,u)]:=by intros;rfl):Binds K fd [p] []:=
 F.binds λa b c d e f=>di λu=>kR<|h a b c d e f u
theorem Fun.b2(F:Fun K x qual st f fd)(h:∀kV Ua pm an LY ct u v,Q4 (Mc x qual (d6 st) (cF st) (ap st) .none kV Ua pm an LY ct) ⟨[u,v],[]⟩=pure [(p,u),(q,v)]:=by intros;rfl):Binds K fd [p,q] []:=
 F.binds λa b c d e f=>di λu=>di λv=>kR<|h a b c d e f u v
theorem Fun.b3(F:Fun K x qual st f fd)(h:∀kV Ua pm an LY ct u v w,Q4 (Mc x qual (d6 st) (cF st) (ap st) .none kV Ua pm an LY ct) ⟨[u,v,w],[]⟩=pure [(p,u),(q,v),(r,w)]:=by intros;rfl):Binds K fd [p,q,r] []:=
 F.binds λa b c d e f=>di λu=>di λv=>di λw=>kR<|h a b c d e f u v w
theorem Fun.b4(F:Fun K x qual st f fd)(h:∀kV Ua pm an LY ct u v w y,Q4 (Mc x qual (d6 st) (cF st) (ap st) .none kV Ua pm an LY ct) ⟨[u,v,w,y],[]⟩=pure [(p,u),(q,v),(r,w),(s,y)]:=by intros;rfl):Binds K fd [p,q,r,s] []:=
 F.binds λa b c d e f=>di λu=>di λv=>di λw=>di λy=>kR<|h a b c d e f u v w y
theorem Fun.b5(F:Fun K x qual st f fd)(h:∀kV Ua pm an LY ct u v w y z,Q4 (Mc x qual (d6 st) (cF st) (ap st) .none kV Ua pm an LY ct) ⟨[u,v,w,y,z],[]⟩=pure [(p,u),(q,v),(r,w),(s,y),(t,z)]:=by intros;rfl):Binds K fd [p,q,r,s,t] []:=
 F.binds λa b c d e f=>di λu=>di λv=>di λw=>di λy=>di λz=>kR<|h a b c d e f u v w y z
variable {h:JM}{mg:Str->IQ IH}{k:Nat}{ps:IG Str}{sp:Sp}
theorem Ay(P:Jc)(w:Jv)(base:JM)(X:K.In h)(G:h.Ns Ja mg)(a:Jb K Ja x=B' (B'<|.ref f))(F:Fun K x qual st f fd)(b:Binds K fd ps [])(ok:FnOk P w K mg base (jq P w) k f fd ps sp):sj P w K mg base k x f fd ps sp:=⟨ok,b,F.kp,Kk X G a⟩
end
theorem xt{K:IJ}{x qual:Str}{st:KL}{f:IL}{fd:Jr}{h:JM}{mg:Str->IQ IH}{k:Nat}{ps:IG Str}{sp:Sp}(P:Jc)(w:Jv)(base:JM)(X:K.In h)(G:h.Ns Ja mg)(a:Jb K Ja x=B' (B'<|.ref f))(F:Fun K x qual st f fd)(b:Binds K fd ps [])(ok:FnOk P w K mg base (iq P w) k f fd ps sp):u6 P w K mg base k x f fd ps sp:=⟨ok,b,F.kp,Kk X G a⟩
section
variable {prog:Jc}{w:Jv}{A:JV}{E:IH->IM->Prop}
theorem Az{vs:IG Jm}{tk:Tok}{Q:Fin->IM->Prop}(hx:s.TypeIs x Tx)(e1:s.heap.get? tp=B' o)(e2:o.cls=.type "tuple")(e3:o.data=.seq cs.toArray n)
  (ha:TN (λs=>s.TypeIs x Tx) x cs vs) (q:∀t',Q (.done<|.ret<|.bool<|vs.any id) {s with toks:=t'}):wpAny (Ju prog w) A (Builtin.«isinstance.nested» ⟨[x,.ref tp,.int 0 tk],[]⟩) Q E s:=by
 have z0:s.TypeIs x Tx:=hx;obtain⟨h,g,d,t,os⟩:=s;obtain⟨cl,dd,dt,sl⟩:=o;cases e2;cases e3;have ZN:h.get? tp=B' {cls:=.type "tuple",dict:=dd,data:=.seq cs.toArray n,slots:=sl}:=e1;have hT2:(⟨h,g,d,t,os⟩:IM).TypeIs (.ref tp) "tuple":=⟨_,ZN,rfl⟩;have f1:=F.isi_sub_tuple
 repeat (any_goals (first|assumption|wp_step))
 refine wpAny_arrayLoop ?_;simp only [Rb,S4];refine isinstance_items (dep:=0) (P:=λs=>s.TypeIs x Tx) (λ_ t z=>z.toks t) cs vs _ _ ha z0 λt'=>?_;have q1:=q t';cases hv:vs.any id with
 |true=>
  rw[hv]at q1;simp only [On]
  repeat (any_goals (first|assumption|wp_step))
 |false=>
  rw[hv]at q1;simp only [JK,MX]
  repeat (any_goals (first|assumption|wp_step))
end
theorem mD{tp:IL}(ha:TN (λs=>s.TypeIs x Tx) x cs vs):
  Meets (Builtin.«isinstance» ⟨[x,.ref tp],[]⟩) (λ_ R s=>s.TypeIs x Tx/\(∃o n,s.heap.get? tp=B' o/\o.cls=.type "tuple"/\o.data=.seq cs.toArray n)/\∀t',R (.ok<|.ret<|.bool<|vs.any id) {s with toks:=t'}):=
 λ_ _ _ _ _ ⟨h1,⟨_,_,a,b,c⟩,h3⟩=>isinstance_outer (Az h1 a b c ha h3)<|Vq h1
def F_(c:TT)(t u:qS):qS:=λEX D σ H=>c σ H λb H1=>if b=IS then t EX D σ H1 else u EX D σ H1
theorem sN(Xq:∀e s,X.xe e s->False)(hc:PT X c tc)(ha:xq X a t)(hb:xq X b u):xq X [.If c a b pos] (F_ tc t u):=by
 intro IT s σ H D EX I h;refine Nm<|Yx<|J2 (hc IT s σ H _ I h) (λd s1 ⟨H1,I1,q1⟩=>?_) λe' s' z=>(Xq e' s' z).elim;cases d with
 |true=>
  refine aT<|J2 (ha IT s1 σ H1 D EX I1 q1) (λfl s2 q2=>?_) λ_ _ z=>z;cases fl with
  |next=>exact KY q2
  |ret v=>exact q2
  |brk=>exact q2
  |cont=>exact q2
 |false=>
  refine aO<|J2 (hb IT s1 σ H1 D EX I1 q1) (λfl s2 q2=>?_) λ_ _ z=>z;cases fl with
  |next=>exact KY q2
  |ret v=>exact q2
  |brk=>exact q2
  |cont=>exact q2
section
variable {X:Cx}
theorem xu{body:IG KL}{x:Str}{x1:Str}{C D1 fI1:IL}{bm1:IG IH}{id1:LA}{hsr:IG Pf}{n1:IQ Str}{aaI:IG KL}{np1 aav:Pos}{newId:LA}{Vk:IG IH}{b₀:KL}{Vh:IG KL}{np hpos pos:Pos}{tb:BO}{ts:TS}(hN:X.N.Nodup)(hi:X.N[i]? =B' n)(hk:X.env.scope.names.lookup n=B' .local)
  (R3:X.stack=X.env::X.outer) (SM:X.env.frame=B' X.env.locals) (RI:X.calm=IS) (q:LK X.K C Vk newId=IS) (Ys:Vk.contains (.type "BaseException")=IS) (hm:X.mg x=B' (.ref C)) (hg:Gl X x) (q1:gN X.K D1 bm1 id1 fI1=IS) (be1:JL X.K D1 (.type "BaseException")=B' IS) (acy:JL X.K C (.ref D1)=B' IU) (XJ:X.mg x1=B' (.ref D1)) (hg1:Gl X x1)
  (hb:EL X body tb) (hs:∀ea E,PSs (X.inExc ea E) (b₀::Vh) ts) (hd:(x == ("__debug__":Str))=false:=by decide) (YU:(x1 == ("__debug__":Str))=false:=by decide) (hf:X.fn n=IS\/X.env.scope.names.lookup n=B' .local:=by first|exact .inl rfl|exact .inr rfl|assumption):
  PS X (.Try body (.ExceptHandler (B'<|.Name x1 np1) n1 aaI aav::.ExceptHandler (B'<|.Name x np) (B' n) (b₀::Vh) hpos::hsr) [] [] pos) (FL C i tb ts):=by
 intro IT s σ H Dn I h;refine O5<|J2 (hb IT s σ H Dn _ I h) (λfl s1 qq=>?_) λe s1 qq=>?_
 ·cases fl with
  |next=>exact KY qq
  |ret v=>exact qq
  |brk=>exact qq
  |cont=>exact qq
 obtain⟨σ1,H1,s0,H',B,ea,cls,a0,rfl,I1,fl,rfl,kk⟩:=qq;have hA:X.A.frames=B' (X.env::X.outer):=by rw[<-R3];exact I1.ok.frames
 have fly:N4 B (X.env::X.outer) ea (.ref C) a0 s1.heap:=by rw[<-R3];exact fl.fly
 refine VB hA SM fly λh4 held up4=>?_;refine wpAny_landsW held λh5 fly5 up5=>?_;have Yj:=up4.trans up5;have I5:Inv X IT σ1 H' {s1 with heap:=h5}:=I1.call' (s':={s1 with heap:=h5}) fl.os (fl.un fly5.1 Yj I1.stkFree) (fl.hok.kept fly5.1) fl.bare λb z=>nomatch z
 obtain⟨ob,hob,Ym⟩:=fly5.there;obtain⟨bm,N',nm,q',bs,hdct,sn,sub,ab,col,dd,k0,k1,k2,k3,k5,mN,c1,c2,c3,c4⟩:=jL I5.kIn q;obtain⟨bm',N1',nm',q1',bs',ad3,sn',ae0,ab',agF,ZD,k0',k1',k2',k3',k5',mN',d1,d2,d3,d4⟩:=iL I5.kIn q1;refine MG (Ml<|c9 (I5.inExc ea λ_ _=>False) hg1 XJ ?_ YU) (by intro z;cases z);refine hJ (K:=X.K) (b:=IU) I5.kIn hob Ym d1 rfl be1 (eT d1 rfl) acy ?_;refine MG (Ml<|c9 (I5.inExc ea λ_ _=>False) hg hm ?_ hd) (by intro z;cases z);refine Qk c1 hob Ym (c4.hasType Ys)<|N5 ?_;refine lands_againW fly5 λh6 fly6 up6=>?_;have aam:=Yj.trans up6;have Yt:N4 B X.stack ea (.ref C) a0 h6:=by rw[R3];exact fly6
 have I6:Inv X IT σ1 (upd H' ea<|fX ea C) {s1 with heap:=h6}:=I1.call' (s':={s1 with heap:=h6}) fl.os (fl.unX fly6.1 aam I1.stkFree) (fl.hokX Yt) fl.bare λb z=>nomatch z
 refine eU (i:=i) (v:=.ref ea) I6 hN hi (.inl hk) rfl (λs7 I7=>?_) hf;refine J2 (hs ea _ IT s7 _ _ _ (I7.inExc ea _)<|kk ea fl.fresh) (λf s8 q8=>?_) λ_ _ z=>z;have Yd:X.A.handled=none:=I.ok.hd RI;cases f with
 |next=>
  obtain⟨σ8,H8,I8,z8⟩:=q8;exact de (I8.outExc Yd) hN hi hk λs9 I9=>⟨_,H8,I9,z8⟩
 |brk=>
  obtain⟨σ8,H8,I8,z8⟩:=q8;exact de (I8.outExc Yd) hN hi hk λs9 I9=>⟨_,H8,I9,z8⟩
 |cont=>
  obtain⟨σ8,H8,I8,z8⟩:=q8;exact de (I8.outExc Yd) hN hi hk λs9 I9=>⟨_,H8,I9,z8⟩
 |ret u=>
  obtain⟨v,σ8,H8,I8,r8,z8⟩:=q8;exact de (I8.outExc Yd) hN hi hk λs9 I9=>⟨v,_,H8,I9,r8,z8⟩
theorem xv{body:IG KL}{x:Str}{x1:Str}{C D1 D2 fI1:IL}{x2:Str}{n2:IQ Str}{aea:IG KL}{np2 adI:Pos}{bm1:IG IH}{id1:LA}{hsr:IG Pf}{n1:IQ Str}{aaI:IG KL}{np1 aav:Pos}{newId:LA}{Vk:IG IH}{b₀:KL}{Vh:IG KL}{np hpos pos:Pos}{tb:BO}{ts:TS}(hN:X.N.Nodup)(hi:X.N[i]? =B' n)(hk:X.env.scope.names.lookup n=B' .local)
  (R3:X.stack=X.env::X.outer) (SM:X.env.frame=B' X.env.locals) (RI:X.calm=IS) (q:LK X.K C Vk newId=IS) (Ys:Vk.contains (.type "BaseException")=IS) (hm:X.mg x=B' (.ref C)) (hg:Gl X x) (q1:gN X.K D1 bm1 id1 fI1=IS) (be1:JL X.K D1 (.type "BaseException")=B' IS) (acy:JL X.K C (.ref D1)=B' IU) (XJ:X.mg x1=B' (.ref D1)) (hg1:Gl X x1) (q2:LK X.K D2 Vk newId=IS) (be2:JL X.K D2 (.type "BaseException")=B' IS) (agq:JL X.K C (.ref D2)=B' IU) (ZT:X.mg x2=B' (.ref D2)) (hg2:Gl X x2)
  (hb:EL X body tb) (hs:∀ea E,PSs (X.inExc ea E) (b₀::Vh) ts) (hd:(x == ("__debug__":Str))=false:=by decide) (YU:(x1 == ("__debug__":Str))=false:=by decide) (Vz:(x2 == ("__debug__":Str))=false:=by decide) (hf:X.fn n=IS\/X.env.scope.names.lookup n=B' .local:=by first|exact .inl rfl|exact .inr rfl|assumption):
  PS X (.Try body (.ExceptHandler (B'<|.Name x1 np1) n1 aaI aav::.ExceptHandler (B'<|.Name x2 np2) n2 aea adI::.ExceptHandler (B'<|.Name x np) (B' n) (b₀::Vh) hpos::hsr) [] [] pos) (FL C i tb ts):=by
 intro IT s σ H Dn I h;refine O5<|J2 (hb IT s σ H Dn _ I h) (λfl s1 qq=>?_) λe s1 qq=>?_
 ·cases fl with
  |next=>exact KY qq
  |ret v=>exact qq
  |brk=>exact qq
  |cont=>exact qq
 obtain⟨σ1,H1,s0,H',B,ea,cls,a0,rfl,I1,fl,rfl,kk⟩:=qq;have hA:X.A.frames=B' (X.env::X.outer):=by rw[<-R3];exact I1.ok.frames
 have fly:N4 B (X.env::X.outer) ea (.ref C) a0 s1.heap:=by rw[<-R3];exact fl.fly
 refine VB hA SM fly λh4 held up4=>?_;refine wpAny_landsW held λh5 fly5 up5=>?_;have Yj:=up4.trans up5;have I5:Inv X IT σ1 H' {s1 with heap:=h5}:=I1.call' (s':={s1 with heap:=h5}) fl.os (fl.un fly5.1 Yj I1.stkFree) (fl.hok.kept fly5.1) fl.bare λb z=>nomatch z
 obtain⟨ob,hob,Ym⟩:=fly5.there;obtain⟨bm,N',nm,q',bs,hdct,sn,sub,ab,col,dd,k0,k1,k2,k3,k5,mN,c1,c2,c3,c4⟩:=jL I5.kIn q;obtain⟨bm',N1',nm',q1',bs',ad3,sn',ae0,ab',agF,ZD,k0',k1',k2',k3',k5',mN',d1,d2,d3,d4⟩:=iL I5.kIn q1;refine MG (Ml<|c9 (I5.inExc ea λ_ _=>False) hg1 XJ ?_ YU) (by intro z;cases z);refine hJ (K:=X.K) (b:=IU) I5.kIn hob Ym d1 rfl be1 (eT d1 rfl) acy ?_;obtain⟨ak4,N2',ai3,q2',ak3,agc,aiH,agR,ak',ah',ak1,ajx,ajv,ajt,ajq,ajo,aji,f1,f2,f3,f4⟩:=jL I5.kIn q2;refine MG (Ml<|c9 (I5.inExc ea λ_ _=>False) hg2 ZT ?_ Vz) (by intro z;cases z);refine hJ (K:=X.K) (b:=IU) I5.kIn hob Ym f1 rfl be2 (eT f1 rfl) agq ?_;refine MG (Ml<|c9 (I5.inExc ea λ_ _=>False) hg hm ?_ hd) (by intro z;cases z);refine Qk c1 hob Ym (c4.hasType Ys)<|N5 ?_;refine lands_againW fly5 λh6 fly6 up6=>?_;have aam:=Yj.trans up6;have Yt:N4 B X.stack ea (.ref C) a0 h6:=by rw[R3];exact fly6
 have I6:Inv X IT σ1 (upd H' ea<|fX ea C) {s1 with heap:=h6}:=I1.call' (s':={s1 with heap:=h6}) fl.os (fl.unX fly6.1 aam I1.stkFree) (fl.hokX Yt) fl.bare λb z=>nomatch z
 refine eU (i:=i) (v:=.ref ea) I6 hN hi (.inl hk) rfl (λs7 I7=>?_) hf;refine J2 (hs ea _ IT s7 _ _ _ (I7.inExc ea _)<|kk ea fl.fresh) (λf s8 q8=>?_) λ_ _ z=>z;have Yd:X.A.handled=none:=I.ok.hd RI;cases f with
 |next=>
  obtain⟨σ8,H8,I8,z8⟩:=q8;exact de (I8.outExc Yd) hN hi hk λs9 I9=>⟨_,H8,I9,z8⟩
 |brk=>
  obtain⟨σ8,H8,I8,z8⟩:=q8;exact de (I8.outExc Yd) hN hi hk λs9 I9=>⟨_,H8,I9,z8⟩
 |cont=>
  obtain⟨σ8,H8,I8,z8⟩:=q8;exact de (I8.outExc Yd) hN hi hk λs9 I9=>⟨_,H8,I9,z8⟩
 |ret u=>
  obtain⟨v,σ8,H8,I8,r8,z8⟩:=q8;exact de (I8.outExc Yd) hN hi hk λs9 I9=>⟨v,_,H8,I9,r8,z8⟩
theorem xw{body:IG KL}{x:Str}{C fI:IL}{hsr:IG Pf}{newId:LA}{Vk:IG IH}{b₀:KL}{Vh:IG KL}{np hpos pos:Pos}{tb:qS}{ts:TS}(hN:X.N.Nodup)(hi:X.N[i]? =B' n)(hk:X.env.scope.names.lookup n=B' .local)
  (R3:X.stack=X.env::X.outer) (SM:X.env.frame=B' X.env.locals) (RI:X.calm=IS) (q:gN X.K C Vk newId fI=IS) (be:JL X.K C (.type "BaseException")=B' IS) (hCD:JL X.K C (.ref C)=B' IS) (hm:X.mg x=B' (.ref C)) (hg:Gl X x)
  (hb:xq X body tb) (hs:∀ea E,PSs (X.inExc ea E) (b₀::Vh) ts) (hd:(x == ("__debug__":Str))=false:=by decide) (hf:X.fn n=IS\/X.env.scope.names.lookup n=B' .local:=by first|exact .inl rfl|exact .inr rfl|assumption):
  PS X (.Try body (.ExceptHandler (B'<|.Name x np) (B' n) (b₀::Vh) hpos::hsr) [] [] pos) (FZ C i tb ts):=by
 intro IT s σ H Dn I h;refine O5<|J2 (hb IT s σ H Dn _ I h) (λfl s1 q1=>?_) λe s1 q1=>?_
 ·cases fl with
  |next=>exact KY q1
  |ret v=>exact q1
  |brk=>exact q1
  |cont=>exact q1
 obtain⟨σ1,H1,s0,H',B,ea,dx,cls,a0,rfl,I1,fl,rfl,d,rfl,kk⟩:=q1;have hA:X.A.frames=B' (X.env::X.outer):=by rw[<-R3];exact I1.ok.frames
 have fly:FlyD B (X.env::X.outer) ea (B' d) (.ref C) a0 s1.heap:=by rw[<-R3];exact fl.fly
 refine BS hA SM fly λh4 held up4=>?_;refine sK (s:={s1 with heap:=h4}) held λh5 fly5 up5=>?_;have Yj:=up4.trans up5;have I5:Inv X IT σ1 H' {s1 with heap:=h5}:=I1.call' (s':={s1 with heap:=h5}) fl.os (fl.un fly5.stay Yj I1.stkFree) (fl.hok.kept fly5.stay) fl.bare λb z=>nomatch z
 obtain⟨ob,hob,Ym,_⟩:=fly5.there;obtain⟨bm,N',nm,q',bs,hdct,sn,sub,ab,col,dd,k0,k1,k2,k3,k5,mN,c1,c2,c3,c4⟩:=iL I5.kIn q;refine MG (Ml<|c9 (I5.inExc ea λ_ _=>False) hg hm ?_ hd) (by intro z;cases z);refine hJ (K:=X.K) I5.kIn hob Ym c1 rfl be (eT c1 rfl) hCD<|N5 ?_;refine sK (s:={s1 with heap:=h5}) fly5 λh6 fly6 up6=>?_;have aam:=Yj.trans up6;have Yt:FlyD B X.stack ea (B' d) (.ref C) a0 h6:=by rw[R3];exact fly6
 have I6:Inv X IT σ1 (upd H' ea<|dF ea C d) {s1 with heap:=h6}:=I1.call' (s':={s1 with heap:=h6}) fl.os (fl.unX fly6.stay aam I1.stkFree) (fl.hokX Yt) fl.bare λb z=>nomatch z
 refine eU (i:=i) (v:=.ref ea) I6 hN hi (.inl hk) rfl (λs7 I7=>?_) hf;refine J2 (hs ea _ IT s7 _ _ _ (I7.inExc ea _)<|kk ea fl.old.fresh) (λf s8 q8=>?_) λ_ _ z=>z;have Yd:X.A.handled=none:=I.ok.hd RI;cases f with
 |next=>
  obtain⟨σ8,H8,I8,z8⟩:=q8;exact de (I8.outExc Yd) hN hi hk λs9 I9=>⟨_,H8,I9,z8⟩
 |brk=>
  obtain⟨σ8,H8,I8,z8⟩:=q8;exact de (I8.outExc Yd) hN hi hk λs9 I9=>⟨_,H8,I9,z8⟩
 |cont=>
  obtain⟨σ8,H8,I8,z8⟩:=q8;exact de (I8.outExc Yd) hN hi hk λs9 I9=>⟨_,H8,I9,z8⟩
 |ret u=>
  obtain⟨v,σ8,H8,I8,r8,z8⟩:=q8;exact de (I8.outExc Yd) hN hi hk λs9 I9=>⟨v,_,H8,I9,r8,z8⟩
end
section
variable {X:Cx}
theorem fZ:dJ X (.builtin "isinstance") (λxs H Q=>∃x p,xs=[x,.ref p]/\H p=B' (.tup [.ty "list",.ty "tuple"])/\((∃a ys,x=.ref a/\H a=B' (.lst ys))\/∃a ys,x=.ref a/\H a=B' (.tup ys))/\Q (.bl IS) H):=by
 rintro IT s σ H xs us Q I r ⟨x,p,rfl,hp,hx,q⟩;obtain⟨u,v,rfl,ru,rv⟩:=r.two;cases rv;obtain⟨_,KN,vr,o,e1,e2,n,e3⟩:=(show ObjOk X.prog X.w H s.heap p (.tup [.ty "list",.ty "tuple"])from I.hok p _ hp);have one:KN=[.type "list",.type "tuple"]:=by
  obtain _|⟨z1,z2⟩:=vr
  obtain _|⟨z3,z4⟩:=z2
  cases z4;cases z1;cases z3;rfl
 subst one;obtain⟨a,ys,rfl,ha⟩|⟨a,ys,rfl,ha⟩:=hx
 ·cases ru;obtain⟨_,_,_,_,a1⟩:=(show ObjOk X.prog X.w H s.heap a (.lst ys)from I.hok a _ ha);have al:TN (λs=>s.TypeIs (.ref a) "list") (.ref a) [.type "list",.type "tuple"] [IS,IU]:=by pv_isi_answers
  exact VD (mD al) ⟨⟨_,a1,rfl⟩,⟨o,n,e1,e2,e3⟩,λt'=>⟨.bl IS,H,I.tok _,rfl,q⟩⟩
 ·cases ru;obtain⟨_,_,_,oa,a1,a2,_⟩:=(show ObjOk X.prog X.w H s.heap a (.tup ys)from I.hok a _ ha);have al:TN (λs=>s.TypeIs (.ref a) "tuple") (.ref a) [.type "list",.type "tuple"] [IU,IS]:=by pv_isi_answers
  exact VD (mD al) ⟨⟨oa,a1,a2⟩,⟨o,n,e1,e2,e3⟩,λt'=>⟨.bl IS,H,I.tok _,rfl,q⟩⟩
end
end L2
namespace OD
open PySem L2
theorem sO:∀{ds:IG Jg} {sets out:IG (IG Int)},bq t cs hw sets ds=(out,IS)->∃tl,out=sets++tl/\tl.length=ds.length/\∀k d,ds[k]? =B' d->aM t cs hw (sets++tl.take k) d=B' (tl.getD k [])
 |[],sets,out,h=>by
  cases h;exact⟨[],(Kg _).symm,rfl,λk d e=>by simp at e⟩
 |e::r,sets,out,h=>by
  have h':(match aM t cs hw sets e with|none=>(sets,IU)|some c=>bq t cs hw (sets++[c]) r)=(out,IS):=h;cases g:aM t cs hw sets e with
  |none=>rw[g]at h';cases h'
  |some c=>
   rw[g]at h';obtain⟨tl,h1,h2,h3⟩:=sO h';refine⟨c::tl,by rw[h1,JG];rfl,by rw[JJ,JJ,h2],λk d ek=>?_⟩;cases k with
   |zero=>
    cases(show B' e=B' d from ek);rw[OS,Kg];exact g
   |succ k=>
    have:=h3 k d ek;rw[JG]at this;exact this
theorem DU(h:bq t cs hw [] ds=(out,IS))(hd:ds[k]? =B' d):aM t cs hw (out.take k) d=B' (out.getD k []):=by
 obtain⟨tl,h1,_,h3⟩:=sO h;rw[PD]at h1;subst h1;exact h3 k d hd
end OD
namespace L2
open PySem PySem.Spec PyProof.Rows
variable {X:Cx}
def AA:V->IG V->Hp->VK->Prop:=λx vs H Q=>∃(dx:Jg) (ds:IG Jg) (y:V) (l:IL) (xs:IG V) (j:Nat),x=.ref l/\vs=[y]/\H l=B' (.lst xs)/\dC H ds xs/\RD H dx y/\dx.canLay0=IS/\Ln ds=IS/\dx.depth<=60/\j < ds.length/\Kh (ds.getD j .none) dx=IS/\(∀m,m < j->Kh (ds.getD m .none) dx=IU)/\Q (.int j) H
theorem mE(hu:X.A.units+64 < Mt):Ij X "list.index" AA:=by
 intro IT s σ H x vs v us Q I rx rv h;obtain⟨dx,ds,y,l,xs,j,rfl,rfl,hH,hds,Zy,c1,c2,c3,hj,XM,Xq,q⟩:=h;cases rx;obtain⟨u,rfl,ru⟩:=rv.one;obtain⟨z,KN,n,r,hl,e⟩:=I.lstM hH;obtain⟨as,qa⟩:=fb I dx y u Zy ru;obtain⟨bs,qb⟩:=fb I (.list ds) (.ref l) (.ref l) (bG hH hds) rfl;have qs:∃cs,YG s.heap KN ds cs:=by
  cases qb with
  |list h1 h2 h3 h4=>
   rw[e]at h1;cases h1;cases h3;exact⟨_,by simpa using h4⟩
 obtain⟨cs,qs⟩:=qs;have qs':YG s.heap KN.toArray.toList ds cs:=by simpa using qs
 have adN:=SeqAt.readsAll_map ds KN cs c2 qs;have Lx:KN.length=ds.length:=by rw[<-adN,IR]
 have ZX:∀m hm,Kh (Uv s.heap KN[m]) dx=Kh (ds.getD m .none) dx:=λm hm=>by
  have:ds.getD m .none=Uv s.heap KN[m]:=by
   rw[<-adN,Jd,Jx,IZ hm];rfl
  rw[this]
 have ZT:min (Mi ds) dx.depth<=dx.depth:=Nat.min_le_right _ _;refine Wg OZ ⟨_,e,rfl⟩ F.entry_list_index (F.args_list_index_2 _ _) (SeqAt.list_indexAt l KN.toArray n IV #[] u (λy=>Kh (Uv s.heap y) dx) j (by simpa using(by lia:j < KN.length)) ?_ ?_ ?_) ⟨e,SeqAt.items_eqAt qs' qa c2 c1 (by lia),?_⟩
 ·have:=KS;lia
 ·rw[SD];exact(ZX j<|by lia).trans XM
 ·intro m hm M6;rw[SD];exact(ZX m<|by simpa using hm).trans<|Xq m M6
 ·exact⟨.int j,H,I.tok _,⟨_,rfl⟩,q⟩
end L2
namespace OD
open PySem L2
def eN(cs:IG (IG Int)):IG (IG Int)->IG (IG Int)
 |[]=>cs
 |c::r=>eN (if c∈cs then cs else cs++[c]) r
theorem kT:∀out cs c,eN cs (out++[c])=if c∈eN cs out then eN cs out else eN cs out++[c]
 |[],_,_=>rfl
 |_::out,cs,c=>kT out _ c
theorem mF:∀out cs,(eN cs out).length<=cs.length+out.length
 |[],_=>IX _
 |d::out,cs=>by
  have:=mF out (if d∈cs then cs else cs++[d]);show(eN (if d∈cs then cs else cs++[d]) out).length<=_
  rw[JJ];by_cases h:d∈cs
  ·rw[JF h]at this ⊢;lia
  ·rw[JD h]at this ⊢;rw[I_,JW]at this;lia
theorem il(h:bh n d=B' i)(hm:n<=m):bh m d=B' i:=by
 obtain⟨h1,rfl⟩:=bZ h;show(if 0<=(i:Int)/\(i:Int) < (m:Int)then B' (i:Int).toNat else IV)=B' i
 rw[JF (by lia),Mh]
theorem jd{sets more:IG (IG Int)}{i:Nat}(h:i < sets.length):(sets++more).getD i []=sets.getD i []:=by
 rw[Jd,Jd,JP h]
theorem u7(more:IG (IG Int))(h:aM t cs hw sets d=B' c):aM t cs hw (sets++more) d=B' c:=by
 have hle:sets.length<=(sets++more).length:=by rw[I_];lia
 unfold aM at h ⊢
 split at h
 ·rename_i c1;rw[JF c1];exact h
 rename_i c1;rw[JD c1]
 split at h
 ·rename_i c2;rw[JF c2];exact h
 rename_i c2;rw[JD c2]
 split at h
 ·rename_i c3;rw[JF c3];unfold dw at h ⊢;cases e1:bh sets.length (gM d 1)with
  |none=>rw[e1]at h;cases h
  |some i=>
  cases e2:bh sets.length (gM d 2)with
  |none=>rw[e1,e2]at h;cases h
  |some j=>
  rw[e1,e2]at h;rw[il e1 hle,il e2 hle];cases e3:gM d 3 with
  |int z=>
   rw[e3]at h;have h':(if dM t hw (sets.getD i []) (sets.getD j []) z=IS then B' (dr (sets.getD i []) (sets.getD j []) z)else IV)=B' c:=h;show(if dM t hw ((sets++more).getD i []) ((sets++more).getD j []) z=IS then B' (dr ((sets++more).getD i []) ((sets++more).getD j []) z)else IV)=B' c
   rw[jd (bZ e1).1,jd (bZ e2).1];exact h'
  |_=>rw[e3]at h;cases h
 rename_i c3;rw[JD c3]
 split at h
 ·rename_i c4;rw[JF c4];unfold gL at h ⊢;cases e:bh sets.length (gM d 1)with
  |none=>rw[e]at h;cases h
  |some i=>
   rw[e]at h;rw[il e hle];show B' (cZ t hw<|(sets++more).getD i [])=B' c
   rw[jd (bZ e).1];exact h
 ·cases h
theorem sP:∀{ds:IG Jg} {sets out:IG (IG Int)} {i:Nat} {d:Jg},bq t cs hw sets ds=(out,IS)->ds[i]? =B' d->∃c,out[sets.length+i]? =B' c/\aM t cs hw (out.take<|sets.length+i) d=B' c/\∃more,out=sets++more
 |[],sets,out,i,d,_,h=>by simp at h
 |e::ds,sets,out,i,d,h,g=>by
  have h':(match aM t cs hw sets e with|none=>(sets,IU)|some c=>bq t cs hw (sets++[c]) ds)=(out,IS):=h;cases q:aM t cs hw sets e with
  |none=>rw[q]at h';cases h'
  |some c=>
   rw[q]at h';cases i with
   |zero=>
    have g':e=d:=by simpa using g
    subst g';have pre:∃more,out=(sets++[c])++more:=run_more h';obtain⟨more,rfl⟩:=pre;refine⟨c,?_,?_,[c]++more,by rw[JG]⟩
    ·rw[PY,JG,J0<|IX _,MM];rfl
    ·rw[PY,JG,Wz];exact q
   |succ i=>
    obtain⟨c',a1,a2,more,a3⟩:=sP (i:=i) h' (by simpa using g);rw[I_,JW,Ph,Nat.add_comm 1 i]at a1 a2;exact⟨c',a1,a2,[c]++more,by rw[a3,JG]⟩
where
 run_more {t:Str} {cs:IG (IG Int)} {hw:Jm}:∀{ds:IG Jg} {sets out:IG (IG Int)},bq t cs hw sets ds=(out,IS)->∃more,out=sets++more
  |[],sets,out,h=>⟨[],by cases h;exact(Kg _).symm⟩
  |d::ds,sets,out,h=>by
   have h':(match aM t cs hw sets d with|none=>(sets,IU)|some c=>bq t cs hw (sets++[c]) ds)=(out,IS):=h;cases q:aM t cs hw sets d with
   |none=>rw[q]at h';cases h'
   |some c=>
    rw[q]at h';obtain⟨more,e⟩:=run_more h';exact⟨c::more,by rw[e,JG];rfl⟩
theorem u8{t:Str}{cs:IG (IG Int)}{hw:Jm}{ds:IG Jg}{out:IG (IG Int)}{i:Nat}{d:Jg}(h:bq t cs hw [] ds=(out,IS))(g:ds[i]? =B' d):∃c,out[i]? =B' c/\aM t cs hw out d=B' c:=by
 obtain⟨c,a1,a2,_⟩:=sP h g;rw[Lg,Mv]at a1 a2;have:=u7 (out.drop i) a2;rw[KU]at this;exact⟨c,a1,this⟩
theorem u9(t:Str)(hw:Jm):cZ t hw []=[]:=rfl
end OD
namespace L2
open PySem
inductive n4 (Lz:St)(H1:Hp)(D:IL)(xs:IG V)(f:V->IG V)(i:Nat)(σ:St)(ys:IG V)(H2:Hp):Prop
 |mk (v0:IQ V)(h0:σ=v0::Lz)(h1:ys.length=i)(h2:H2 D=B' (.lst ys))(h3:Same H1 H2)(h4:∀(j:Nat) (y:V),ys[j]? =B' y->∃x,xs[j]? =B' x/\TupAt H2 (f x) y):n4 Lz H1 D xs f i σ ys H2
section
variable {K:IJ}{a D:IL}{xs:IG V}{tt:TT}{te:TE}{σ0:St}{H1:Hp}{Q:VK}
theorem qT(hD:H1 D=IV)(hx:xs[i]? =B' x)(J:n4 Lz H1 D xs f i (v0::Lz) ys H2)(hp:H2 p=IV)(hi:i<=900):
  upd H2 p (.tup<|f x) D=B' (.lst ys)/\ys.length < sizeLine/\n4 Lz H1 D xs f (i+1) (v0::Lz) (ys++[.ref p]) (upd (upd H2 p<|.tup<|f x) D<|.lst<|ys++[.ref p]):=by
 obtain⟨_,_,h1,h2,h3,h4⟩:=J;have k:=ag hp<|.tup<|f x;have Zb:=k _ _ h2;refine⟨Zb,aD (by lia),_,rfl,by rw[I_,h1];rfl,ad,(h3.trans k).upd_new hD _,λj y hy=>?_⟩;obtain z|z:=Mw j ys.length
 ·rw[JP z]at hy;obtain⟨x',g1,g2⟩:=h4 j y hy;exact⟨x',g1,(g2.mono k).upd Zb⟩
 ·rw[J0 z]at hy;have hj:j=i:=by
   have:=(IY.mp hy).1;rw[JW]at this;lia
  subst hj;rw[h1,MM]at hy;cases hy;exact⟨x,hx,TupAt.upd ⟨p,rfl,ad⟩ Zb⟩
theorem qU(Lz:St)(f:V->IG V)(e0:σ0=IV::Lz)(ha:H1 a=B' (.lst xs))(hD:H1 D=IV)(Lx:xs.length<=900)
  (he:∀x∈xs,∀(H':Hp) (R:VK),Same H1 H'->(∀p,H' p=IV->R (.ref p) (upd H' p<|.tup<|f x))->te (B' x::Lz) H' R)
  (hq:∀(ys:IG V) (H':Hp),Same H1 H'->H' D=B' (.lst ys)->ys.length=xs.length->(∀(j:Nat) (y:V),ys[j]? =B' y->∃x,xs[j]? =B' x/\TupAt H' (f x) y)->Q (.ref D) H'):gE (vE K a) D (eF 0) Dy te σ0 H1 Q:=by
 have na:a≠D:=aj ha hD;refine dq (K:=K) (a:=a) (xs:=xs) (n4 Lz H1 D xs f) ⟨IV,e0,rfl,ad,ag hD _,λj y z=>by simp at z⟩ ?_ ?_ ?_
 ·rintro i σ ys H2 _ ⟨_,_,_,h2,h3,_⟩;exact⟨h2,SqL.of<|h3 _ _ ha⟩
 ·rintro i x σ ys H2 hx ⟨v0,rfl,h1,h2,h3,h4⟩;have hm:=Ji hx;have Te:i < xs.length:=(IY.mp hx).1;exact eu (he x hm _ _ h3 λp hp=>qT hD hx ⟨_,rfl,h1,h2,h3,h4⟩ hp<|by lia)
 ·rintro σ ys H2 ⟨_,_,h1,h2,h3,h4⟩;exact hq ys H2 h3 h2 h1 h4
end
end L2
namespace DP
open PySem
def mergedH{K:Type} [Nb K] (xs more:IG (K×IL×IH)):IG (K×IL×IH):=more.foldl (λxs m=>OL xs m.1 m.2.1 m.2.2) xs
theorem pN{K:Type} [Nb K] (xs:IG (K×IL×IH))(k:K)(a:IL)(v:IH):(OL xs k a v).length<=xs.length+1:=by
 cases e:PH xs k with
 |none=>rw[Vm e,I_];exact IX _
 |some p=>rw[storedH_old e,IR];exact NW _
theorem jz{K:Type} [Nb K]:∀(more xs:IG (K×IL×IH)),(mergedH xs more).length<=xs.length+more.length
 |[],xs=>IX _
 |m::more,xs=>by
  have h1:=jz more<|OL xs m.1 m.2.1 m.2.2;have h2:=pN xs m.1 m.2.1 m.2.2;have e:mergedH xs (m::more)=mergedH (OL xs m.1 m.2.1 m.2.2) more:=rfl;rw[e,JJ];lia
theorem n5{K:Type} [Nb K] (more:IG (K×IL×IH))(i:Nat)(m:K×IL×IH)(h:more[i]? =B' m):mergedH [] (more.take<|i+1)=OL (mergedH []<|more.take i) m.1 m.2.1 m.2.2:=by
 unfold mergedH;rw[Kv,h,UN];rfl
section
variable {prog:Jc}{w:Jv}{K:Type} [Nb K] {knd:KeyKind prog w K}{A:JV}{E:IH->IM->Prop}{s:IM}
theorem hU(x:(Lp knd).is h k a)(e:∀o,h.get? a=B' o->h'.get? a=B' o):(Lp knd).is h' k a:=by
 obtain⟨o,items,n,h1,r⟩:=x;exact⟨o,items,n,e _ h1,r⟩
theorem qV(hh:A.in1.handled=IV)(hu:A.in1.units < Mt){h0:JM}(hlI:l≠I)(hdI:d≠I)(hdl:d≠l)(hn:items.size<=sizeLine)(hm:more.length=items.size)
  (RS:∀m∈more,(Lp knd).is h0 m.1 m.2.1/\m.2.1≠d/\m.2.1≠I)
  (V3:∀(i:Nat) (v:IH),items[i]? =B' v->∃kv t,more[i]? =B' kv/\v=.ref t/\t≠d/\t≠I/\h0.IsTuple t #[.ref kv.2.1,kv.2.2]) {R:TF->IM->Prop}:
  ∀(m i:Nat) (s:IM) (tk0:Tok),items.size - i=m->i<=items.size->s.heap.IsListIter I l i->s.heap.IsList l items->s.heap.DictOfH (Lp knd) d (mergedH []<|more.take i)->
   (∀b o,b≠d->b≠I->h0.get? b=B' o->s.heap.get? b=B' o)->
   (∀h' tk,h'.DictOfH (Lp knd) d (mergedH [] more)->(∀b o,b≠d->b≠I->h0.get? b=B' o->h'.get? b=B' o)->R (.ok<|.ret .none) {s with heap:=h',toks:=tk})->
   codeAny (Ju prog w) A (.builtin "dict.update.loop" ⟨[.ref d,.ref I,.int (i:Int) tk0,.none],[]⟩) R s:=by
 have W:=P7 (prog:=prog) (w:=w) (A:=A.in1) hh I l hlI items;have mem:∀i:Nat,∀x∈mergedH [] (more.take i),∃m∈more,x.1=m.1/\x.2.1=m.2.1:=by
  have gen:∀(ms xs:IG (IG K×IL×IH)),∀x∈mergedH xs ms,(∃m∈xs,x.1=m.1/\x.2.1=m.2.1)\/∃m∈ms,x.1=m.1/\x.2.1=m.2.1:=by
   intro ms
   induction ms with
   |nil=>exact λxs x hx=>.inl ⟨x,hx,rfl,rfl⟩
   |cons m ms ih=>
    intro xs x hx;obtain⟨y,hy,e1,e2⟩|⟨y,hy,e⟩:=ih (OL xs m.1 m.2.1 m.2.2) x hx
    ·cases q:PH xs m.1 with
     |none=>
      rw[Vm q]at hy;obtain hy|hy:=JA.mp hy
      ·exact .inl ⟨y,hy,e1,e2⟩
      ·rw[Jf]at hy;subst hy;exact .inr ⟨m,Jp,e1,e2⟩
     |some p=>
      rw[storedH_old q]at hy;obtain⟨z,hz,rfl⟩:=J1.mp hy;refine .inl ⟨z,hz,?_,?_⟩
      ·rw[e1];unfold putAt;split<;>rfl
      ·rw[e2];unfold putAt;split<;>rfl
    ·exact .inr ⟨y,Jk _ hy,e⟩
  intro i x hx;obtain⟨_,h,_⟩|⟨m,h,e⟩:=gen _ _ x hx
  ·exact nomatch h
  ·exact⟨m,MC h,e⟩
 intro m
 induction m with
 |zero=>
  intro i s tk0 hm0 hi XG Nd Td SM hR;have e:i=items.size:=by lia
  subst e;refine Le jP ?_;rw[KO fA _];refine II (m:=Ou<|.ref I)<|W.done s _ _ ⟨XG,Nd⟩ λh' tk hk=>?_;have Oc:∀b o,b≠I->s.heap.get? b=B' o->h'.get? b=B' o:=λb o hb e=>hk b o (by simpa using hb) e;refine II (m:=QS d [])<|I0<|I0 ?_;refine hR h' tk ?_ λb o h1 h2 e=>Oc b o h2<|SM b o h1 h2 e;have UW:=mem items.size;rw[Jy<|by lia]at Td UW;obtain⟨o,es,ep,ho,a1,a2,a3,a4,a5⟩:=Td;refine⟨o,es,ep,Oc d o hdI ho,a1,a2,a3,λx hx=>?_,a5⟩;obtain⟨m,hm',e1,e2⟩:=UW x hx;refine hU (a4 x hx) λo ho=>Oc _ o ?_ ho;rw[e2];exact(RS m hm').2.2
 |succ m ih=>
  intro i s tk0 hm0 hi XG Nd Td SM hR;have M6:i < items.size:=by lia
  refine Le jP ?_;rw[KO fA _];refine II (m:=Ou<|.ref I)<|W.item i s _ _ M6 ⟨XG,Nd⟩ λv h' tk hv LI hk=>?_;have Oc:∀b o,b≠I->s.heap.get? b=B' o->h'.get? b=B' o:=λb o hb e=>hk b o (by simpa using hb) e;obtain⟨kv,t,hki,rfl,htd,htI,ht⟩:=V3 i v hv;have hkm:=RS kv<|Ji hki;have ht':h'.IsTuple t #[.ref kv.2.1,kv.2.2]:=let ⟨o,ho,r⟩:=ht;⟨o,Oc t o htI<|SM t o htd htI ho,r⟩
  have hkk:(Lp knd).is h' kv.1 kv.2.1:=hU hkm.1 λo ho=>Oc _ o hkm.2.2<|SM _ o hkm.2.1 hkm.2.2 ho;have aaw:h'.DictOfH (Lp knd) d (mergedH []<|more.take i):=by
   obtain⟨o,es,ep,ho,a1,a2,a3,a4,a5⟩:=Td;refine⟨o,es,ep,Oc d o hdI ho,a1,a2,a3,λx hx=>?_,a5⟩;obtain⟨m',hm',e1,e2⟩:=mem i x hx;refine hU (a4 x hx) λo ho=>Oc _ o ?_ ho;rw[e2];exact(RS m' hm').2.2
  have hz:(mergedH []<|more.take i).length<=sizeLine:=by
   have:=jz (more.take i) [];rw[JN]at this;simp only [Lg]at this;lia
  refine II<|Ks<|II<|Nl<|kP (s:={s with heap:=h',toks:=tk}) ht' ?_;dsimp only;refine Ks<|wpAny_dictSet_heap (knd:=Lp knd) (s:={s with heap:=h',toks:=tk}) (hsz:=hz) hu hkk aaw λh2 Vz sb=>?_;have e2:=n5 more i kv hki;refine I0 ⟨L0 fA _,?_⟩;refine ih (i+1) {s with heap:=h2,toks:=tk+(Lp knd).draws kv.1} 0 (by lia) M6 ?_ ?_ (by rw[e2];exact Vz) (λb o h1 hbI e=>(sb.2 b h1).trans<|Oc b o hbI<|SM b o h1 hbI e) λh3 tk3 b1 b2=>hR h3 tk3 b1 b2
  ·exact LI.1.at λo e=>(sb.2 I λz=>hdI z.symm).trans e
  ·exact LI.2.at λo e=>(sb.2 l λz=>hdl z.symm).trans e
theorem call_pairsH(hh:A.handled=IV)(hu:A.units+2 < Mt){Q:IH->IM->Prop}(hl:s.heap.get? l=B' ol)(hc:ol.cls=.type "list")(Yr:ol.data=.seq items nl)(hdd:ol.dict=IV)(hn:items.size<=sizeLine)(hm:more.length=items.size)
  (RS:∀m∈more,(Lp knd).is s.heap m.1 m.2.1)
  (V3:∀(i:Nat) (v:IH),items[i]? =B' v->∃kv t,more[i]? =B' kv/\v=.ref t/\s.heap.IsTuple t #[.ref kv.2.1,kv.2.2])
  (h:∀(h':JM) (tk:Nat),h'.DictOfH (Lp knd) s.heap.objs.size (mergedH [] more)->(∀b o,s.heap.get? b=B' o->h'.get? b=B' o)->Q (.ref s.heap.objs.size) {s with heap:=h',toks:=tk}):
  wpAny (Ju prog w) A (call (.type "dict") [.ref l]) Q E s:=by
 refine Wh (Q₁:=λobj s₁=>obj=.ref s.heap.objs.size/\s₁={s with heap:=s.heap.push {cls:=.type "dict",data:=.dict #[]}}) Va (Sk _) Uy (U4 _ ⟨rfl,rfl⟩) ?_;rintro obj s₁ ⟨rfl,rfl⟩;have Vy:(s.heap.push {cls:=.type "dict",data:=.dict #[]}).DictOfH (Lp knd) s.heap.objs.size []:=Z9 s.heap;have RH:=IP {cls:=.type "dict",data:=.dict #[]} hl;have M6:l < s.heap.objs.size:=Jh hl;have hTl:Ta {s with heap:=s.heap.push {cls:=.type "dict",data:=.dict #[]}} (.ref l) "list":=⟨_,RH,hc⟩;exists Vy.typeIs,TM _ _;unfold Builtin.«dict.__init__»;refine II ?_;unfold QR;refine II<|OW Vy.typeIs ?_;show wpAny _ _ (pure (s.heap.objs.size,[JS l])) _ _ _
 refine I0 ?_;show wpAny _ _ (Nq "dict.__init__" s.heap.objs.size (.ref l) [] .none) _ _ _
 unfold Nq;refine II<|OK hTl ?_;rw[JF<|by decide];refine II<|my RH hc Yr hdd (by simpa using hh) λh1 tk1 k1=>?_;have Xs:=k1 _ _ RH;have aaD:h1.IsList l items:=⟨_,Xs,hc,nl,Yr⟩;simp only [Qd,On];refine II<|MY<|II<|M8 (s:={s with heap:=h1,toks:=tk1}) aaD<|I0 ?_;exists L0 fA _;have Yd:=JB s.heap (o:={cls:=.type "dict",data:=.dict #[]}) rfl;have YU:=k1 _ _ Yd;have ack:l < h1.objs.size:=Jh Xs;have aaF:s.heap.objs.size < h1.objs.size:=Jh YU;have Za:(h1.push {cls:=.type "list_iterator",data:=.fields #[.ref l,.int 0 0]}).DictOfH (Lp knd) s.heap.objs.size []:=by
  obtain⟨o,es,ep,ho,a1,a2,a3,a4,a5⟩:=Vy;exact⟨o,es,ep,IP _<|k1 _ _ ho,a1,a2,a3,(λx hx=>nomatch hx),a5⟩
 have XM:(h1.push {cls:=.type "list_iterator",data:=.fields #[.ref l,.int 0 0]}).get? h1.objs.size=B' {cls:=.type "list_iterator",data:=.fields #[.ref l,.int 0 0]}:=JB _ rfl;refine qV (knd:=knd) (by simpa using hh) hu (h0:=h1.push {cls:=.type "list_iterator",data:=.fields #[.ref l,.int 0 0]}) (I:=h1.objs.size) (l:=l) (items:=items) (more:=more) (Js ack) (Js aaF) (MN M6) hn hm (λm hmm=>?_) (λi v hv=>?_) (items.size - 0) 0 _ 0 rfl (Jw _) ⟨_,XM,rfl,rfl⟩ (aaD.push _) (by rw[OS];exact Za) (λb o _ _ e=>e) λh' tk b1 b2=>?_
 ·have q:=RS m hmm;obtain⟨o,_,_,ho,_⟩:=(show IsTupleKey knd s.heap m.1 m.2.1 from q);have ho1:=k1 _ _<|IP {cls:=.type "dict",data:=.dict #[]} ho;exact⟨hU q λo e=>IP _<|k1 _ _<|IP _ e,Js<|Jh ho,Js<|Jh ho1⟩
 ·obtain⟨kv,t,a1,a3,a4⟩:=V3 i v hv;obtain⟨o,ho,r⟩:=a4;have ho1:=k1 _ _<|IP {cls:=.type "dict",data:=.dict #[]} ho;exact⟨kv,t,a1,a3,Js<|Jh ho,Js<|Jh ho1,o,IP _ ho1,r⟩
 ·refine⟨rfl,h h' tk b1 λb o e=>?_⟩;have e1:=k1 _ _<|IP {cls:=.type "dict",data:=.dict #[]} e;exact b2 b o (Js<|Jh e) (Js<|Jh e1)<|IP _ e1
end
end DP
namespace L2
open PySem PySem.Spec PyProof.Rows
def dG(kvs:IG (IG bv×V)):IG (IG bv×V):=kvs.foldl (λd kv=>bX d kv.1 kv.2) []
section
variable {P:Jc}{w:Jv}{H:Hp}{h:JM}
theorem mG(ok:HOk P w H h):∀(ts cl:IG IL) (kvs:IG (IG bv×V)),ts.length=kvs.length->cl.length=kvs.length->(∀(i:Nat) (t c:IL) (kv:IG bv×V),ts[i]? =B' t->cl[i]? =B' c->kvs[i]? =B' kv->H t=B' (.tup [.ref c,kv.2])/\H c=B' (.tup<|kv.1.map kV))->
  ∃more:IG (IG bv×IL×IH),KT H kvs more/\more.length=ts.length/\∀(i:Nat) (t:IL),ts[i]? =B' t->∃kv,more[i]? =B' kv/\h.IsTuple t #[.ref kv.2.1,kv.2.2]
 |[],[],[],_,_,_=>⟨[],.nil,rfl,λi t e=>by simp at e⟩
 |[],_,_::_,e,_,_=>by simp at e
 |_::_,_,[],e,_,_=>by simp at e
 |_,[],_::_,_,e,_=>by simp at e
 |[],_::_,[],_,e,_=>by simp at e
 |t::ts,c::cl,kv::kvs,e,e',hp=>by
  obtain⟨more,a1,a2,a4⟩:=mG ok ts cl kvs (by simpa using e) (by simpa using e') λi t' c' kv' e1 e2 e3=>hp (i+1) t' c' kv' (by simpa using e1) (by simpa using e2) (by simpa using e3);obtain⟨g1,g2⟩:=hp 0 t c kv rfl rfl rfl;obtain⟨_,KN,r,o,h1,h2,n,h3⟩:=(show ObjOk P w H h t (.tup [.ref c,kv.2])from ok t _ g1);obtain⟨u,v,rfl,ru,rv⟩:=r.two;cases(show u=JS c from ru);refine⟨(kv.1,c,v)::more,.cons ⟨rfl,g2,rv⟩ a1,by simp [a2],λi t' e1=>?_⟩;cases i with
  |zero=>
   have e':t=t':=by simpa using e1
   subst e';exact⟨(kv.1,c,v),rfl,o,h1,h2,n,h3⟩
  |succ i=>
   obtain⟨kv',b1,b3⟩:=a4 i t' (by simpa using e1);exact⟨kv',by simpa using b1,b3⟩
theorem xx:∀kvs more d xs,KT H d xs->KT H kvs more->KT H (kvs.foldl (λd kv=>bX d kv.1 kv.2) d) (DP.mergedH xs more)
 |_,_,_,_,r,.nil=>r
 |_,_,d,xs,r,@Paired.cons _ _ _ p q ps qs hq t=>by
  have e:=KT.put r p.1 hq.2.1 hq.2.2;rw[show OL xs p.1 q.2.1 q.2.2=OL xs q.1 q.2.1 q.2.2 by rw[hq.1]]at e;exact xx ps qs _ _ e t
theorem sQ(ok:HOk P w H h):∀{kvs:IG (IG bv×V)} {more:IG (IG bv×IL×IH)},KT H kvs more->∀m∈more,(Lp<|bi P w).is h m.1 m.2.1
 |_,_,.nil,m,hm=>nomatch hm
 |_,_,@Paired.cons _ _ _ p q ps qs hq t,m,hm=>by
  obtain e|hm:=JC.mp hm
  ·subst e;exact gz ok (by rw[<-hq.1];exact hq.2.1)
  ·exact sQ ok t m hm
end
inductive BV (xs:IG V)(H:Hp)(Q:VK):Prop
 |mk (l:IL)(ts cl:IG IL)(kvs:IG (IG bv×V))(hx:xs=[.ref l])(h:H l=B' (.lst<|ts.map V.ref))(hl:ts.length=kvs.length)(UX:cl.length=kvs.length)(hp:∀(i:Nat) (t c:IL) (kv:IG bv×V),ts[i]? =B' t->cl[i]? =B' c->kvs[i]? =B' kv->H t=B' (.tup [.ref c,kv.2])/\H c=B' (.tup<|kv.1.map kV)) (z:kvs.length<=900)
  (q:∀d,H d=IV->Q (.ref d) (upd H d<|.dT<|dG kvs)):BV xs H Q
theorem gO:∀(kvs d:IG (IG bv×V)),(kvs.foldl (λd kv=>bX d kv.1 kv.2) d).length<=d.length+kvs.length
 |[],d=>IX _
 |kv::kvs,d=>by
  have h1:=gO kvs<|bX d kv.1 kv.2;have h2:=cx d kv.1 kv.2;rw[JJ];show(kvs.foldl (λd kv=>bX d kv.1 kv.2)<|bX d kv.1 kv.2).length<=_
  lia
section
variable {X:Cx}
theorem qW(hc:X.calm=IS)(hu:X.A.units+2 < Mt):dJ X (.type "dict") BV:=by
 intro IT s σ H xs us Q I r h;obtain⟨l,ts,cl,kvs,rfl,hH,hl,UX,hp,z,q⟩:=h;obtain⟨u,rfl,ru⟩:=r.one;cases ru;obtain⟨z1,KN,n,rv,Lx,e⟩:=I.lstM hH;obtain⟨more,a1,a2,a4⟩:=mG I.hok ts cl kvs hl UX hp;have afZ:KN.length=ts.length:=by
  rw[<-Lx,IR]
 refine DP.call_pairsH (knd:=bi X.prog X.w) (more:=more) (I.ok.hd hc) hu e rfl rfl rfl (by rw[Jn];lia) (by rw[Jn];lia) (sQ I.hok a1) (λi v hv=>?_) λh' tk hd hk=>?_
 ·have Y9:KN[i]? =B' v:=by simpa using hv
  have hi:i < ts.length:=by
   have:=(IY.mp Y9).1;lia
  have ht:ts[i]? =B' ts[i]:=IZ hi;obtain⟨kv,b1,b3⟩:=a4 i _ ht;have hx:(ts.map V.ref)[i]? =B' (.ref ts[i]):=by rw[Jx,ht];rfl
  obtain⟨v',Zt,rv'⟩:=rv.get hx;rw[Y9]at Zt;cases Zt;cases rv';exact⟨kv,_,b1,rfl,b3⟩
 ·obtain⟨ob,es,ep,ho,c1,c2,c3,c4,c5⟩:=hd;have lim:(dG kvs).length<=sizeLine:=by
   have:=gO kvs [];rw[Lg]at this;exact KM (aD<|by unfold dG;lia)
  have fr:H s.heap.objs.size=none:=I.hok.fresh<|IX _;refine⟨.ref s.heap.objs.size,_,I.laid (a:=s.heap.objs.size) (o:=.dT<|dG kvs) (t':=tk) (λb q hq=>hk b q hq) (IX _) ?_,rfl,q _ fr⟩;refine⟨lim,Li.mpr<|Lq<|Js I.big,_,(xx _ _ _ _ .nil a1).keeps λb ys eb=>?_,ob,es,ep,ho,c1,c2,c3,c5⟩;rw[ao<|aj eb fr];exact eb
end
theorem pO:∀(kvs d:IG (IG bv×V)) (k:IG bv),(cn (kvs.foldl (λd kv=>bX d kv.1 kv.2) d) k).isSome=((cn d k).isSome || kvs.any λkv=>decide (k=kv.1))
 |[],d,k=>by simp
 |kv::kvs,d,k=>by
  show(cn (kvs.foldl (λd kv=>bX d kv.1 kv.2)<|bX d kv.1 kv.2) k).isSome=_
  rw[pO kvs _ k,j5];by_cases e:k=kv.1
  ·subst e;simp
  ·rw[JD e];simp [e]
end L2
namespace DP
open PySem
section
variable {prog:Jc}{w:Jv}{K:Type} [Nb K] {knd:HeapKind prog w K}{A:JV}{E:IH->IM->Prop}{s:IM}
theorem u_{v:IH}{Q:IH->IM->Prop}(hu:knd.room A)(RS:knd.is s.heap k a)(hm:s.heap.DictOfH knd d xs)(hsz:xs.length<=sizeLine)
  (h1:∀p,PH xs k=B' p->Q p.2 {s with toks:=s.toks+knd.draws k})
  (h2:PH xs k=IV->∀h',h'.DictOfH knd d (OL xs k a v)->M' d s.heap h'->Q v {s with heap:=h',toks:=s.toks+knd.draws k}):wpAny (Ju prog w) A (R_ d (.ref a) v) Q E s:=by
 obtain⟨ob,es,ep,g1,g2,g3,g4,g5,g6⟩:=hm;unfold R_;refine Ks<|II<|knd.pyHash hu RS<|II<|wpAny_dictFind_heap (s:={s with toks:=s.toks+knd.draws k}) hu RS g1 g3 g4 g5 g6 (λno=>?_) λj p hj=>?_
 ·have e0:=atKey_none_of_get no;have hnk:k∉xs.map (·.1):=not_mem_keys_of_get no;have st:=Vm e0 a v;refine II<|MY<|II<|wpAny_updateDictKeys (hz:=by rw[size_of_entries g4];exact hsz) (s:={s with toks:=s.toks+knd.draws k}) g1 g3<|I0<|h2 e0 _ ?_ (LC ..);refine⟨_,_,ep+1,KF _ g1<|Obj.isFreed_of_dict<|Sh g3 _,g2.mapDictKeys _,Sh g3 _,?_,λx hx=>?_,?_⟩
  ·rw[st];simp [g4,entryOfKey]
  ·rw[st]at hx;obtain z|z:=JA.mp hx
   ·exact knd.keeps (g5 x z) g1 g3 (LC ..)
   ·rw[Jf.mp z];exact knd.keeps RS g1 g3 (LC ..)
  ·rw[st,JO,LG];exact⟨g6,by simp,λx hx y hy z=>by
    have hy':y=k:=by simpa using hy
    subst z hy';exact hnk hx⟩
 ·refine II<|wpAny_dictEntries (s:={s with toks:=s.toks+knd.draws k}) g1 g3 ?_;rw[entry_at g4 j,hj];exact II<|MY<|I0<|h1 p<|atKey_of_get g6 hj
theorem meetsH_setd(hd:(d == Mb)=IU)(v:IH):MeetsIn prog w (Builtin.«dict.setdefault» ⟨[.ref d,.ref a,v],[]⟩) (λA R s=>knd.room A.in1/\∃k xs,knd.is s.heap k a/\s.heap.DictOfH knd d xs/\xs.length<=sizeLine/\
  (∀p,PH xs k=B' p->R (.ok<|.ret p.2) {s with toks:=s.toks+knd.draws k})/\
  (PH xs k=IV->∀h',h'.DictOfH knd d (OL xs k a v)->M' d s.heap h'->R (.ok<|.ret v) {s with heap:=h',toks:=s.toks+knd.draws k})):=
 .of_wp λA R s ⟨hu,k,xs,RS,hm,hz,h1,h2⟩=>by
  unfold Builtin.«dict.setdefault» Wr;refine II<|II<|OW hm.typeIs ?_;show wpAny _ _ (pure (d,JS a,B' v)) _ _ s
  refine I0 ?_;show wpAny _ _ (if(d == Mb)=IS then _ else(R_ d (.ref a) v >>=_)) _ _ s
  rw[hd,JD Jz];exact II<|u_ hu RS hm hz (λp hp=>I0 ⟨_,rfl,h1 p hp⟩) λhn h' hm' Vw=>I0 ⟨v,rfl,h2 hn h' hm' Vw⟩
end
end DP
namespace L2
open PySem PySem.Spec PyProof.Rows
def BW(H:Hp)(a:IL)(y z:V)(Q:VK):Prop:=(∃v,DGet H a y (B' v)/\Q v H)\/(DGet H a y IV/\∃H',DPut H a y z H'/\Q z H')
section
variable {X:Cx}{IT:IG (IL×Obj)}{σ:St}{H:Hp}{s:IM}{a:IL}{y z:V}{u r:IH}{A:JV}{E:IH->IM->Prop}
theorem Ga(e:H a=B' (.dK kvs))(g:Rd H a (.dK aar)):aar=kvs:=by
 obtain g|⟨_,g⟩:=g
 ·rw[e]at g;cases g;rfl
 ·rw[e]at g;cases g
theorem Gb(e:H a=B' (.dT kvs))(g:Rd H a (.dT aar)):aar=kvs:=by
 obtain g|⟨_,g⟩:=g
 ·rw[e]at g;cases g;rfl
 ·rw[e]at g;cases g
theorem DV{R:IH->IM->Prop}(hu:A.units+1 < Mt)(I:Inv X IT σ H s)(g:BW H a y z Q)(ry:RelV y u)(rz:RelV z r)(h:∀v H' w' s',Inv X IT σ H' s'->RelV v w'->Q v H'->R w' s'):
  wpAny (Ju X.prog X.w) A (call (.builtin "dict.setdefault") [.ref a,u,r]) R E s:=by
 obtain⟨v,⟨kvs,k,e,ey,l⟩|⟨kvs,k,b,e,ey,eb,l⟩,q⟩|⟨⟨kvs,k,e,ey,l⟩|⟨kvs,k,b,e,ey,eb,l⟩,H',p,q⟩:=g
 ·subst ey;obtain⟨zz,hd,vs,QI,dd⟩:=jn I.hok e;obtain⟨w',hw,Y5⟩:=RelO.some_of (v:=v) (o:=Qq vs k) (by rw[l];exact QI.val k);refine Rj LP dd.typeIs MB (Mr _ _ _) (SX (bi X.prog X.w) a (iA ry) hd r) ⟨vs,dd,by rw[<-QI.length];exact zz,λv2 Zt=>?_,λhn=>?_⟩
  ·rw[hw]at Zt;cases Zt;exact h v H w' _ (I.tok _) Y5 q
  ·rw[hw]at hn;cases hn
 ·subst ey;cases(show u=JS b from ry);obtain⟨zz,hd,xs,QI,dd⟩:=jo I.hok e;obtain⟨w',hw,Y5⟩:=RelO.some_of (v:=v) (o:=(PH xs k).map (·.2)) (by rw[l];exact QI.val k);refine Rj LP dd.typeIs MB (Mr _ _ _) (DP.meetsH_setd (knd:=Lp<|bi X.prog X.w) hd r) ⟨MZ hu,k,xs,gz I.hok eb,dd,by rw[<-Paired.length QI];exact zz,λp hp=>?_,λhn=>?_⟩
  ·rw[hp]at hw;cases hw;exact h v H _ _ (I.tok _) Y5 q
  ·rw[hn]at hw;cases hw
 ·subst ey;obtain⟨zz,hd,vs,QI,dd⟩:=jn I.hok e;have hn:Qq vs k=none:=RelO.none_of (by rw[l];exact QI.val k);obtain⟨ab0,k2,e2,ey2,l2,eH⟩|⟨ab0,k2,b2,e2,ey2,_⟩:=p
  ·obtain rfl:=Ga e2 e;obtain rfl:k=k2:=by cases k<;>cases k2<;>cases ey2<;>rfl
   subst eH;have hl:(bX kvs k z).length<=sizeLine:=by have:=cx kvs k z;lia
   refine Rj LP dd.typeIs MB (Mr _ _ _) (SX (bi X.prog X.w) a (iA ry) hd r) ⟨vs,dd,by rw[<-QI.length];exact zz,λv2 Zt=>(by rw[hn]at Zt;cases Zt),λ_ h' ZD hs=>?_⟩;have he:∃q,h'.get? a=B' q:=let ⟨q,_,_,hq,_⟩:=ZD;⟨q,hq⟩
   exact h z _ r _ (iB I (by rw[e2];exact LS) hs he<|ny hl hd (QI.put k rz) ZD) rz q
  ·cases k<;>cases ey2
 ·subst ey;cases(show u=JS b from ry);obtain⟨zz,hd,xs,QI,dd⟩:=jo I.hok e;have hn:(PH xs k).map (·.2)=none:=RelO.none_of (by rw[l];exact QI.val k);obtain⟨ab0,k2,e2,ey2,l2,eH⟩|⟨ab0,k2,b2,e2,ey2,eb2,l2,eH⟩:=p
  ·cases k2<;>cases ey2
  ·obtain rfl:=Gb e2 e;cases ey2;have ek:k2=k:=by
    rw[eb]at eb2;have e3:k.map kV=k2.map kV:=HO.tup.inj<|Jo eb2;exact(TZ (λx y hxy=>by cases x<;>cases y<;>cases hxy<;>rfl)|>.mp e3).symm
   subst ek;subst eH;have hl:(bX kvs k2 z).length<=sizeLine:=by have:=cx kvs k2 z;lia
   refine Rj LP dd.typeIs MB (Mr _ _ _) (DP.meetsH_setd (knd:=Lp<|bi X.prog X.w) hd r) ⟨MZ hu,k2,xs,gz I.hok eb,dd,by rw[<-Paired.length QI];exact zz,λp hp=>(by rw[hp]at hn;cases hn),λ_ h' ZD hs=>?_⟩;obtain⟨q2,es,ep,hq,g2,g3,g4,_,g5⟩:=ZD;have new:ObjOk X.prog X.w (upd H a<|.dT<|bX kvs k2 z) h' a (.dT<|bX kvs k2 z):=by
    refine⟨hl,hd,_,(QI.put k2 eb rz).keeps λc ys ec=>?_,q2,es,ep,hq,g2,g3,g4,g5⟩;rw[ao<|vy ec e2 λz=>nomatch z];exact ec
   exact h z _ r _ (iB I (by rw[e2];exact LS) hs ⟨q2,hq⟩ new) rz q
end
def DW(td ty tx:TE):TE:=λσ H Q=>td σ H λx H1=>∃a,x=.ref a/\Ik H1 a/\ty σ H1 λy H2=>tx σ H2 λz H3=>BW H3 a y z Q
theorem xy(hu:X.A.units+1 < Mt)(ho:PE X o td)(he:PE X e ty)(hf:PE X f tx)(m:M2 X o "setdefault" Tf e f Pk):PE X (.Call (.Attribute o "setdefault" Tf) [e,f] [] Pk) (DW td ty tx):=by
 intro IT s σ H Q I h;refine wpAny_Call_method m.base m.few m.line PySem.F.plainAttrs_dict LP PySem.F.type_dict_setdefault<|bT (ho IT s σ H _ I h) λu s1 ⟨x,H1,I1,rx,a,ex,d,q1⟩=>?_;subst ex;obtain rfl:u=JS a:=rx;obtain⟨t1,t2,_⟩:=De I1 d;exists t1,t2;rw[m.trees];refine OR rfl<|NV<|Oz<|bT (he IT s1 σ H1 _ I1 q1) λiv s2 ⟨y,H2,I2,ry,q2⟩=>Oz<|bT (hf IT s2 σ H2 _ I2 q2) λfv s3 ⟨z,H3,I3,rz,g⟩=>Qz ?_;exact DV hu I3 g ry rz λv H' w' s4 I4 Y5 q=>⟨v,H',I4,Y5,q⟩
section
variable {X:Cx}{pos:Pos}{k v k' v':Km}{tk tv Yk tv':TE}
theorem xz(hk:PE X k tk)(hv:PE X v tv):PE X (.Dict [B' k] [v] pos) (oU [(tk,tv)]):=rY (j7 hk hv rX) rfl rfl (Rf _ _) (by show 1<=15;decide)
theorem pP(hk:PE X k tk)(hv:PE X v tv)(Oc:PE X k' Yk)(Y9:PE X v' tv'):PE X (.Dict [B' k,B' k'] [v,v'] pos) (oU [(tk,tv),(Yk,tv')]):=rY (j7 hk hv<|j7 Oc Y9 rX) rfl rfl (Rf _ _) (by show 2<=15;decide)
end
theorem eR{N Q:IG Str}{sc:N6}(a:sc.kind=.function:=by rfl)(b:sc.isCoroutine=false:=by rfl)(c:sc.isGenerator=false:=by rfl)(d:N.Nodup:=by decide+kernel)(e:N.take Q.length=Q:=by rfl)
  (f:∀x∈Q,sc.names.lookup x=B' .local\/sc.names.lookup x=B' .cell:=by decide+kernel) (g:∀y∈sc.names,y.2≠.free:=by decide+kernel):aF N Q sc:=⟨a,b,c,d,e,f,g⟩
theorem nD(l:IG Str)(h:l.Nodup:=by decide+kernel):l.Nodup:=h
theorem cS{X:Cx}{scope:N6}{cl:IG (Str×IL)}{NY:IG Str}{idx:IG (IQ Nat)}(a:closureFor scope X.env=pure cl:=by with_unfolding_all rfl)
  (b:AllIn (λy=>X.env.cells.lookup y) cl:=by with_unfolding_all first|exact trivial|exact⟨rfl,trivial⟩|exact⟨rfl,rfl,trivial⟩|exact⟨rfl,rfl,rfl,trivial⟩|exact⟨rfl,rfl,rfl,rfl,trivial⟩)
  (c:∀n,((NG scope X.env).names.all λq=>!(decide (q.2=.cell) || decide (q.2=.free)) || ((Kx n scope.names cl).lookup q.1).isSome)=true:=by exact λ_=>by rfl)
  (d:((NY.zip idx).all λp=>match p.2 with
  |none=>IS
  |some i=>decide (X.N[i]? =B' p.1)&&(decide (X.env.kindOf p.1=B' .cell) || decide (X.env.kindOf p.1=B' .free))&&(decide ((NG scope X.env).names.lookup p.1=B' .cell) || decide ((NG scope X.env).names.lookup p.1=B' .free))&&(scope.names.all λq=>!decide (q.2=.cell) || !decide (q.1=p.1)))=true:=by rfl)
  (e:idx.length=NY.length:=by rfl) (f:scope.kind=.function:=by rfl) (g:∀y∈scope.names,y.2=.local->scope.names.lookup y.1=B' .local:=by decide):CompSc X scope cl NY idx:=⟨a,b,c,d,e,f,g⟩
section
variable {P:Jc}{w:Jv}{K:IJ}{mg:Str->IQ IH}{base:JM}{x qual:Str}{st:KL}{f:IL}{fd:Jr}{N ps:IG Str}{k:Nat}{sp:Sp}
theorem Fun.okA(F:Fun K x qual st f fd)(S:aF N ps (ap st))
  (h:∀LY A outer s H vs Q E,Room k (A.deeper<|JU qual (ap st) s.heap.objs.size f LY)->sp vs H Q E->
   ∃t,PSs (cj c6 P w K mg base N qual (ap st) f LY A outer s H E).nox (cF st) t/\t {nx:=λ_ H'=>Q .non H',rt:=Q} (start N vs) H)
  (len:∀vs H Q E,sp vs H Q E->vs.length=ps.length:=by intro _ _ _ _ h;repeat (first|(cases h<;>subst_vars<;>rfl)|obtain⟨_,h⟩:=h)):FnOk P w K mg base c6 (k+1) f fd ps sp:=F.ok S len h
theorem Fun.oXA(F:Fun K x qual st f fd)(S:aF N ps (ap st))
  (h:∀LY A outer s H vs Q E,Room k (A.deeper<|JU qual (ap st) s.heap.objs.size f LY)->sp vs H Q E->
   ∃t,PSs (cj (jq P w) P w K mg base N qual (ap st) f LY A outer s H E) (cF st) t/\t {nx:=λ_ H'=>Q .non H',rt:=Q} (start N vs) H)
  (len:∀vs H Q E,sp vs H Q E->vs.length=ps.length:=by intro _ _ _ _ h;repeat (first|(cases h<;>subst_vars<;>rfl)|obtain⟨_,h⟩:=h)):FnOk P w K mg base (jq P w) (k+1) f fd ps sp:=F.okX S len h
end
def Fe(P:Jc)(w:Jv)(K:IJ)(mg:Str->IQ IH)(base:JM)(k:Nat)(x:Str)(sp:Sp):Prop:=∃f fd ps,Fn P w K mg base k x f fd ps sp
section
variable {X:Cx}{j k:Nat}{f:IL}{fd:Jr}{ps:IG Str}{sp:Sp}{x:Str}{p pos:Pos}{e:Km}{es:IG Km}{t:TA}
theorem ck(G:Fe X.prog X.w X.K X.mg X.base j x sp)(hr:Room k X.A)(ha:PA X (e::es) t)(ZU:j<=k:=by lia)(hg:Gl X x:=by rfl)(XN:(x == ("__debug__":Str))=false:=by decide)
  (he:JI (e::es) X.env=(IU,LN e X.env)::JI es X.env:=by rfl) (T_:(MF pos<|JI es X.env).any (·.1)=false:=by rfl):PE X (.Call (.Name x p) (e::es) [] pos) (oM sp [] E0 t):=by
 obtain⟨_,_,_,G⟩:=G;exact Fz G hr ZU hg ha XN he T_
end
theorem eO{K:IJ}{x qual:Str}{st:KL}{f:IL}{fd:Jr}{h:JM}{mg:Str->IQ IH}{k:Nat}{ps:IG Str}{sp:Sp}(P:Jc)(w:Jv)(base:JM)(X:K.In h)(G:h.Ns Ja mg)(a:Jb K Ja x=B' (B'<|.ref f))(F:Fun K x qual st f fd)(b:Binds K fd ps [])(ok:FnOk P w K mg base c6 k f fd ps sp):Fe P w K mg base k x sp:=⟨_,_,_,ok,b,F.kp,Kk X G a⟩
end L2
namespace K54
open PySem L2 OD
def eB(i:Nat):KL:=PySem.Challenge.pw_oathduel_k54_refused_papers.main.body.getD i<|.Pass ⟨0,0,0,0⟩
abbrev xA:KL:=eB 46
abbrev qX:KL:=eB 48
abbrev qY:KL:=eB 49
abbrev xB:KL:=eB 50
abbrev qZ:KL:=eB 51
abbrev xC:KL:=eB 52
structure EN (mg:Str->IQ IH):Prop where
 len:mg "len"=IV
 range:mg "range"=IV
 tuple:mg "tuple"=IV
 list:mg "list"=IV
 sorted:mg "sorted"=IV
 sum:mg "sum"=IV
def kU(K:IJ):Sp:=λvs H Q _=>∃(a:IL) (ns:IG Int) (k:Int),vs=[.ref a,.int k]/\SqL K H a (ns.map V.int)/\0<=k/\∀c:Int,Q (.int c) H
def hV:Sp:=λvs H Q _=>∃c k:Int,vs=[.int c,.int k]/\∀m:Int,0<=m->m < 2147483587->Q (.int m) H
def sR(K:IJ):Sp:=λvs H Q _=>∃(a b:IL) (ns zs:IG Int),vs=[.ref a,.ref b]/\SqL K H a (ns.map V.int)/\H b=B' (.lst<|zs.map V.int)/\zs.length<=10/\(∀z∈zs,0 < z/\z < 1073741824)/\
 ∀(p:IL) (rs:IG Int) (H':Hp),Same H H'->H' p=B' (.lst<|rs.map V.int)->rs.length=zs.length->(∀(i:Nat) (r z:Int),rs[i]? =B' r->zs[i]? =B' z->0<=r/\r < z)->Q (.ref p) H'
def pQ(n:Int)(H:Hp)(Q:VK):Prop:=∀(p:IL) (ls:IG Int) (H':Hp),Same H H'->H' p=B' (.tup<|ls.map V.int)->ig n ls->Q (.ref p) H'
def xD:Sp:=λvs H Q _=>∃c n:Int,vs=[.int c,.int n]/\0<=n/\n < 1000/\pQ n H Q
def sS:Sp:=λvs H Q _=>∃c k n:Int,vs=[.int c,.int k,.int n]/\0<=n/\n < 1000/\pQ n H Q
def xE(K:IJ):Sp:=λvs H Q _=>∃(a:IL) (ns:IG Int) (most:Int),vs=[.ref a,.int most]/\SqL K H a (ns.map V.int)/\ns.length<=63/\0<=most/\most < 20/\
 ∀(p:IL) (t:Str) (cs:IG (IG Int)) (H':Hp),Same H H'->RD H' (sf t cs) (.ref p)->Iz most t cs->Q (.ref p) H'
section
variable {P:Jc}{w:Jv}{K:IJ}{mg:Str->IQ IH}{base:JM}
theorem DX:aF ["_law_script","_law_k"] ["_law_script","_law_k"] (ap xA):=eR
theorem AC(F:Fun K "_law_cell_at" "_law_cell_at" xA f fd)(T:EN mg):FnOk P w K mg base c6 1 f fd ["_law_script","_law_k"] (kU K):=by
 refine F.okA DX λLY A outer s H vs Q E hr h=>?_;obtain⟨a,ns,k,rfl,hS,h0,q⟩:=h;refine⟨_,(af (aP (aq lN (pv 1) (au a_ rfl T.len Kc<|aa (pv 0) ae)<|az _) (ai<|aw<|aE ax (pv 0) (pv 1) λ_ _=>rfl) ay)
  (ai<|aw ah)),?_⟩
 exists _,rfl,_,rfl,.ref a,_,rfl,.inl ⟨_,hS,rfl⟩,_,_,rfl,rfl,_,rfl;refine fG (λc=>?_) λc=>?_
 ·have c':k < (((ns.map V.int).length:Nat):Int):=Kd c;rw[IR]at c';obtain⟨v,_,hv⟩:=oX (ns:=ns) h0 c';exact⟨_,rfl,_,rfl,.inl ⟨a,_,k,.int v,rfl,rfl,hS,hv,q v⟩⟩
 ·exact q 0
theorem sT:aF ["_law_cell","_law_k","_law_number"] ["_law_cell","_law_k"] (ap qX):=eR
theorem xF(F:Fun K "_law_mixed" "_law_mixed" qX f fd):FnOk P w K mg base c6 1 f fd ["_law_cell","_law_k"] hV:=by
 have sc:=sT;refine F.okA sT λLY A outer s H vs Q E hr h=>?_;obtain⟨c,k,rfl,q⟩:=h;refine⟨_,(af (ar (i:=2) sc.nd rfl (Jl rfl)<|aG bA (aG cB (aG cB (aG fE (aG bA (pv 0) ah) ah)<|aG fE (pv 1) ah) ah) ah)
  (af (ar (i:=2) sc.nd rfl (Jl rfl)<|aG bA (aG fE (pv 2)<|pv 2) ah)
  (ai<|aw<|aG bA (aG fE (pv 2)<|pv 2) ah))),?_⟩
 exists _,rfl,_,_,rfl,rfl,(by show(0:Int) < 2147483647;decide),_,_,rfl,rfl,.inr ⟨by decide,by decide⟩,_,rfl,_,_,rfl,rfl,.inr ⟨by decide,by decide⟩,_,_,rfl,rfl,_,_,rfl,rfl,_,_,rfl,rfl,(by show(0:Int) < 2147483647;decide);have b1:=Kz (c % 2147483647*48271+k*69621+11) (show(2147483647:Int)≠0 by decide);have b2:=Kj (c % 2147483647*48271+k*69621+11) (show(0:Int) < 2147483647 by decide);generalize (c % 2147483647*48271+k*69621+11) % 2147483647=n at b1 b2;exists _,rfl,_,rfl,_,_,rfl,rfl,.inl ⟨by lia,by lia⟩,_,_,rfl,rfl,(by show(0:Int) < 2147483629;decide);have d1:=Kz (n*n) (show(2147483629:Int)≠0 by decide);have d2:=Kj (n*n) (show(0:Int) < 2147483629 by decide);generalize n*n % 2147483629=o at d1 d2;exists _,rfl,_,rfl,_,_,rfl,rfl,.inl ⟨by lia,by lia⟩,_,_,rfl,rfl,(by show(0:Int) < 2147483587;decide);exact q _ (Kz _<|by decide) (Kj _<|by decide)
theorem sU:aF ["_law_script","_law_sizes","_law_rest_here","_law_found","_law_k"] ["_law_script","_law_sizes"] (ap qY):=eR
theorem xG(F:Fun K "_law_first" "_law_first" qY f fd)(T:EN mg)(MQ:Fe P w K mg base 1 "_law_cell_at" (kU K))(My:Fe P w K mg base 1 "_law_mixed" hV):
  FnOk P w K mg base c6 2 f fd ["_law_script","_law_sizes"] (sR K):=by
 have sc:=sU;refine F.okA sU λLY A outer s H vs Q E hr h=>?_;obtain⟨a,b,ns,zs,rfl,hS,hb,ZZ,hz,q⟩:=h;have hu:=hr.units;have hL:(zs.map V.int).length=zs.length:=IR _;refine⟨_,(af (ar (i:=2) sc.nd rfl (Jl rfl)<|aG cU (ck MQ hr<|aa (pv 0)<|aa ah ae) ah)
  (af (ar (i:=3) sc.nd rfl (Jl rfl)<|aN ae)
  (af (cR Ky rfl (dj rfl T.range<|aa (au a_ rfl T.len Kc<|aa (pv 1) ae) ae) (aA (i:=4) sc.nd rfl<|Jl rfl)
   (ai (aP (aq (aQ hu) (aG bA (ck MQ hr<|aa (pv 0)<|aa ah ae) ah) ah<|az _) (af (cp<|d_ JY J3 J_ bM (pv 3)<|aa (aG bA (pv 2)<|aE ax (pv 1) (pv 4) λ_ _=>rfl) ae)
    (ai<|ar (i:=2) sc.nd rfl (Jl rfl)<|aG cU (pv 2)<|aE ax (pv 1) (pv 4) λ_ _=>rfl)) (ai<|cp<|d_ JY J3 J_ bM (pv 3)<|aa (aG bA (ck My hr<|aa (pv 2)<|aa (aG cB (pv 4) ah) ae)<|aE ax (pv 1) (pv 4) λ_ _=>rfl) ae))))
  (ai<|aw<|pv 3)))),?_⟩
 refine⟨_,rfl,a,ns,0,rfl,hS,OI 0,λc=>?_⟩;refine⟨_,_,rfl,rfl,⟨by decide,by decide⟩,Jw _,λp hp=>?_⟩;have hb1:upd H p (.lst []) b=B' (.lst<|zs.map V.int):=by rw[ao<|aj hb hp];exact hb
 refine⟨_,rfl,.ref b,_,rfl,.inl ⟨_,SqL.of hb1,rfl⟩,_,rfl,(by lia),(by lia),dQ (lo:=0)
  (λi σ H2=>∃(rs:IG Int) (Lz:Int) (kv:IQ V),σ=[B'<|.ref a,B'<|.ref b,B'<|.int Lz,B'<|.ref p,kv]/\H2 p=B' (.lst<|rs.map V.int)/\Same H H2/\rs.length=i/\∀(j:Nat) (r z:Int),rs[j]? =B' r->zs[j]? =B' z->0<=r/\r < z)
  ⟨[],_,IV,rfl,ad,ag hp _,rfl,λj r z h=>by cases h⟩ ?_ ?_⟩
 ·rintro i σ H2 hi ⟨rs,Lz,kv,rfl,Vx,k2,hl,hr2⟩;have hi':i < zs.length:=by
   have:i < (zs.map V.int).length:=by simpa using hi
   lia
  obtain⟨z,hz1,hz2⟩:=oX (ns:=zs) (i:=0+(i:Int)) (by lia) (by lia);have adA:zs[i]? =B' z:=by simpa using hz1
  obtain⟨z0,z1⟩:=hz z<|Ji adA;have hb2:=k2 _ _ hb;have hsz:(rs.map V.int).length < sizeLine:=by rw[IR];exact aD (by lia)
  have step:∀x:Int,0<=x->x < z->∀(j:Nat) (r z':Int),(rs++[x])[j]? =B' r->zs[j]? =B' z'->0<=r/\r < z':=λx x0 x1 j r z' h1 h2=>by
   obtain h|h|h:=MD j rs.length
   ·rw[JP h]at h1;exact hr2 j r z' h1 h2
   ·subst h;rw[J0<|IX _,MM]at h1;have e1:x=r:=Jo h1;rw[hl,adA]at h2;have e2:z=z':=Jo h2;rw[<-e1,<-e2];exact⟨x0,x1⟩
   ·rw[KG<|by rw[I_,JW];lia]at h1;cases h1
  refine⟨_,rfl,a,ns,0,rfl,k2.seq hS,OI 0,λc2=>?_⟩;refine⟨_,_,rfl,rfl,(by show(0:Int) < 2;decide),.inl ⟨rfl,_,rfl,fG (λ_=>?_) λ_=>?_⟩⟩
  ·refine⟨_,rfl,.inl ⟨rfl,_,SqL.of Vx⟩,_,rfl,_,rfl,_,rfl,.inl ⟨b,_,_,.int z,rfl,rfl,SqL.of hb2,hz2,?_⟩⟩;refine⟨_,_,rfl,rfl,z0,p,_,_,rfl,rfl,Vx,hsz,?_⟩;have npb:b≠p:=aj hb hp;refine⟨_,rfl,_,rfl,_,rfl,.inl ⟨b,_,_,.int z,rfl,rfl,SqL.of (by rw[ao npb];exact hb2),hz2,_,_,rfl,rfl,⟨z0,z1⟩,?_⟩⟩;exact⟨rs++[Lz % z],_,_,rfl,by rw[ad,JO];rfl,k2.upd_new hp _,by rw[I_,hl];rfl,step _ (Kz _<|by lia)<|Kj _ z0⟩
  ·refine⟨_,rfl,.inl ⟨rfl,_,SqL.of Vx⟩,_,rfl,_,rfl,_,_,rfl,rfl,_,_,rfl,λm hm0 XJ=>?_⟩;refine⟨_,rfl,_,rfl,.inl ⟨b,_,_,.int z,rfl,rfl,SqL.of hb2,hz2,?_⟩⟩;refine⟨_,_,rfl,rfl,z0,p,_,_,rfl,rfl,Vx,hsz,?_⟩;exact⟨rs++[m % z],_,_,rfl,by rw[ad,JO];rfl,k2.upd_new hp _,by rw[I_,hl];rfl,step _ (Kz _<|by lia)<|Kj _ z0⟩
 ·rintro σ H2 ⟨rs,Lz,kv,rfl,Vx,k2,hl,hr2⟩;refine⟨_,rfl,q p rs H2 k2 Vx ?_ hr2⟩;rw[hl];simpa using hL
theorem kW{H:Hp}{d l D:IL}{n:Int}{ps:IG (Int×Int)}{ks:IG Int}{Q:VK}(hd:H d=B' (.dK<|dP ps))(hok:DOk n ps)(hn:n < 1000)(Lx:ps.length<=60)(hl:H l=IV)(hp:ks.Perm (ps.map (·.1)))(hD:upd H l (.lst<|ks.map V.int) D=IV)(σ0:St)(e0:σ0=[IV,B'<|.ref d])
  (hq:Q (.ref D) (upd (upd H l<|.lst<|ks.map V.int) D<|.lst<|(ks.map λk=>k*zn ps k).map V.int)):
  gE (vE K l) D (eF 0) Dy (lF (rI CMul λi j=>.int<|i*j) (fR 0)<|BB (fR 1)<|fR 0) σ0 (upd H l<|.lst<|ks.map V.int) Q:=by
 have nld:d≠l:=aj hd hl;have YU:upd H l (.lst<|ks.map V.int) d=B' (.dK<|dP ps):=by rw[ao nld];exact hd
 have nD:d≠D:=aj YU hD;have nl:l≠D:=aj ad hD;have hkl:ks.length=ps.length:=by rw[hp.length_eq,IR]
 refine dq (K:=K) (a:=l) (xs:=ks.map V.int) (λi σ ys H2=>(∃v0,σ=[v0,B'<|.ref d])/\ys=((ks.take i).map λk=>V.int<|k*zn ps k)/\H2=upd (upd H l<|.lst<|ks.map V.int) D (.lst ys))
  ⟨⟨IV,e0⟩,rfl,rfl⟩ ?_ ?_ ?_
 ·rintro i σ ys H2 _ ⟨_,_,rfl⟩;exact⟨ad,SqL.of<|by rw[ao nl];exact ad⟩
 ·rintro i x σ ys H2 hx ⟨⟨v0,rfl⟩,UV,rfl⟩;obtain⟨k,rfl,hk⟩:=fg hx;have km:k∈ps.map (·.1):=hp.mem_iff.mp<|Ji hk;obtain⟨hlk,hsg⟩:=hok.look km;have Vz:upd (upd H l<|.lst<|ks.map V.int) D (.lst ys) d=B' (.dK<|dP ps):=by rw[ao nD];exact YU
  have hv:DGet (upd (upd H l<|.lst<|ks.map V.int) D<|.lst ys) d (.int k) (B'<|.int<|zn ps k):=by
   have z:=DGet.k (k:=Ke k) Vz;rw[DB,hlk]at z;exact z
  have Te:i < ks.length:=(IY.mp hk).1;have hyl:ys.length<=60:=by
   rw[UV,IR,JN];lia
  refine eu ⟨_,rfl,_,rfl,_,rfl,d,_,rfl,hv,_,_,rfl,rfl,.inr ⟨by lia,by lia⟩,ad,aD (by lia),⟨_,rfl⟩,?_,fm⟩;rw[UV,Kv,hk,JO];rfl
 ·rintro σ ys H2 ⟨_,UV,rfl⟩;rw[IR,Jy<|IX _]at UV;rw[UV];rw[KJ]at hq;exact hq
theorem xH:aF ["_law_cell","_law_count","_law_signs","_law_size","_law_j"] ["_law_cell","_law_count"] (ap xB):=eR
theorem AD(F:Fun K "_law_free_clause" "_law_free_clause" xB f fd)(T:EN mg):FnOk P w K mg base c6 1 f fd ["_law_cell","_law_count"] xD:=by
 have sc:=xH;refine F.okA xH λLY A outer s H vs Q E hr h=>?_;obtain⟨c,n,rfl,n0,n1,q⟩:=h;have hu:=hr.units;have T9:=BC hr;refine⟨_,(af (ar (i:=2) sc.nd rfl (Ob rfl) oS)
  (af (ar (i:=3) sc.nd rfl (Jl rfl)<|aG bA (pv 0) ah)
  (af (ar (i:=0) sc.nd rfl (Jl rfl)<|aG cU (pv 0) ah)
  (af (cR Ky rfl (dj rfl T.range<|aa (pv 3) ae) (aA (i:=4) sc.nd rfl<|Jl rfl)
   (ai (aP (aq lO (pv 1) ah<|az _) (af (jH T9 (pv 2) (aG cB ah<|aG bA (pv 0)<|pv 1) (aG eW ah<|aG fE ah<|aG bA (aG cU (pv 0)<|pv 1) ah) rfl)
    (ai<|ar (i:=0) sc.nd rfl (Jl rfl)<|aG cU (pv 0)<|aG fE ah<|pv 1)) ay)))
  (ai<|aw<|bL cN rfl T.tuple Ko<|aa (bH (NY:=["_law_variable","_law_signs"]) (idx:=[IV,B' 2]) rfl cS (b_<|au (jp rfl) rfl T.sorted Nt<|aa (pv 2) ae) (λ_ _ _ _=>(aA (i:=0) (nD ["_law_variable","_law_signs"]) rfl<|Jl rfl)) (λ_ _ _ _=>c_) λ_ _ _ _=>(aG fE (pv 0)<|cX T9 (pv 1) (pv 0) λ_ _=>rfl)) ae))))),?_⟩
 intro d hd;have c5:=Kz c (show(5:Int)≠0 by decide);have c5':=Kj c (show(0:Int) < 5 by decide);exists _,rfl,_,_,rfl,rfl,(by show(0:Int) < 5;decide),_,rfl,_,_,rfl,rfl,⟨by decide,by decide⟩;refine⟨_,rfl,c % 5,rfl,(by lia),(by lia),dQ (lo:=0) (n:=(c % 5).toNat)
  (λi σ H2=>∃cc ps jv,σ=[B'<|.int cc,B'<|.int n,B'<|.ref d,B'<|.int<|c % 5,jv]/\H2 d=B' (.dK<|dP ps)/\Same H H2/\DOk n ps/\ps.length<=i)
  ⟨_,[],IV,rfl,ad,ag hd _,DOk.nil n,IX _⟩ ?_ ?_⟩
 ·rintro i σ H2 hi ⟨cc,ps,jv,rfl,Vz,k2,hok,hl⟩;refine⟨_,rfl,_,_,rfl,rfl,_,rfl,fG (λg=>?_) λg=>?_⟩
  ·have g':0 < n:=Kd g;have m1:=Kz cc (show n≠0 by lia);have m2:=Kj cc g';have s1:=Kz (cc / n) (show(2:Int)≠0 by decide);have s2:=Kj (cc / n) (show(0:Int) < 2 by decide);exists _,rfl,_,rfl,_,_,rfl,rfl,⟨g',by lia⟩,_,_,rfl,rfl,(by show(0:Int) < 2;decide),_,_,rfl,rfl,.inl ⟨by decide,by decide⟩,_,_,rfl,rfl;exists _,rfl,_,rfl,_,rfl,_,_,rfl,rfl,g',_,_,rfl,rfl,d,_,rfl,DPut.k (k:=Ke (1+cc % n)) Vz (by unfold dP;rw[IR];exact aD<|by lia);exists _,rfl,_,rfl,_,_,rfl,rfl,.inl ⟨by decide,by decide⟩,_,_,rfl,rfl,⟨by lia,by lia⟩;obtain⟨o1,o2⟩:=hok.put (k:=1+cc % n) (s:=1 - 2*(cc / n % 2)) (by lia) (by lia);refine⟨_,qA ps (1+cc % n) (1 - 2*(cc / n % 2)),_,rfl,?_,k2.upd_new hd _,o1,by lia⟩;rw[ad];exact Kp (λz=>B'<|HO.dK z)<|wx _ _ _
  ·exact⟨cc,ps,_,rfl,Vz,k2,hok,by lia⟩
 ·rintro σ H2 ⟨cc,ps,jv,rfl,Vz,k2,hok,hl⟩;refine⟨_,rfl,d,dP ps,ps.map (·.1),rfl,Vz,sh ps,by rw[IR];lia,λl ks UX Vj hpw=>⟨l,rfl,⟨_,SqL.of ad⟩,λD hD=>?_⟩⟩;refine kW Vz hok n1 (by lia) UX Vj hD _ rfl ?_;refine⟨D,_,rfl,.inl ⟨SqL.of ad,λt ht=>?_⟩⟩;have k3:=k2.upd_new (k2.free UX)<|.lst<|ks.map V.int;have k4:=k3.upd_new (k3.free hD)<|.lst<|(ks.map λk=>k*zn ps k).map V.int;exact q t _ _ (k4.upd_new (k4.free ht) _) ad<|hok.clause Vj hpw
theorem sV:aF ["_law_cell","_law_k","_law_count","_law_signs","_law_j","_law_other"] ["_law_cell","_law_k","_law_count"] (ap qZ):=eR
theorem xI(F:Fun K "_law_drawn" "_law_drawn" qZ f fd)(T:EN mg)(My:Fe P w K mg base 1 "_law_mixed" hV):FnOk P w K mg base c6 2 f fd ["_law_cell","_law_k","_law_count"] sS:=by
 have sc:=sV;refine F.okA sV λLY A outer s H vs Q E hr h=>?_;obtain⟨c,k,n,rfl,n0,n1,q⟩:=h;have hu:=hr.units;have T9:=BC hr;refine⟨_,(af (ar (i:=3) sc.nd rfl (Ob rfl) oS)
  (af (cR Ky rfl (dj rfl T.range<|aa (aG cB ah<|aG bA (ck My hr<|aa (pv 0)<|aa (aG cB (pv 1) ah) ae) ah) ae) (aA (i:=4) sc.nd rfl<|Jl rfl)
   (af (ar (i:=5) sc.nd rfl (Jl rfl)<|ck My hr<|aa (pv 0)<|aa (aG cB (aG cB ah<|aG fE ah<|pv 4)<|pv 1) ae)
   (ai<|aP (aq lO (pv 2) ah<|az _) (ai<|jH T9 (pv 3) (aG cB ah<|aG bA (pv 5)<|pv 2) (aG eW ah<|aG fE ah<|aG bA (aG cU (pv 5) ah) ah) rfl) ay)))
  (ai<|aw<|bL cN rfl T.tuple Ko<|aa (bH (NY:=["_law_variable","_law_signs"]) (idx:=[IV,B' 3]) rfl cS (b_<|au (jp rfl) rfl T.sorted Nt<|aa (pv 3) ae) (λ_ _ _ _=>(aA (i:=0) (nD ["_law_variable","_law_signs"]) rfl<|Jl rfl)) (λ_ _ _ _=>c_) λ_ _ _ _=>(aG fE (pv 0)<|cX T9 (pv 1) (pv 0) λ_ _=>rfl)) ae))),?_⟩
 intro d hd;refine⟨_,rfl,_,rfl,_,_,rfl,rfl,_,_,rfl,λm hm0 XJ=>?_⟩;have m4:=Kz m (show(4:Int)≠0 by decide);have m4':=Kj m (show(0:Int) < 4 by decide);refine⟨_,_,rfl,rfl,(by show(0:Int) < 4;decide),_,_,rfl,rfl,1+m % 4,rfl,(by lia),(by lia),dQ (lo:=0) (n:=(1+m % 4).toNat)
  (λi σ H2=>∃ps jv ov,σ=[B'<|.int c,B'<|.int k,B'<|.int n,B'<|.ref d,jv,ov]/\H2 d=B' (.dK<|dP ps)/\Same H H2/\DOk n ps/\ps.length<=i)
  ⟨[],IV,IV,rfl,ad,ag hd _,DOk.nil n,IX _⟩ ?_ ?_⟩
 ·rintro i σ H2 hi ⟨ps,jv,ov,rfl,Vz,k2,hok,hl⟩;refine⟨_,rfl,_,rfl,_,_,rfl,rfl,.inl ⟨by decide,by decide⟩,_,_,rfl,rfl,_,rfl,_,_,rfl,rfl,_,_,rfl,λo ho0 ho1=>?_⟩;refine⟨_,rfl,_,_,rfl,rfl,_,rfl,fG (λg=>?_) λg=>?_⟩
  ·have g':0 < n:=Kd g;have m1:=Kz o (show n≠0 by lia);have m2:=Kj o g';have s1:=Kz (o / 1000) (show(2:Int)≠0 by decide);have s2:=Kj (o / 1000) (show(0:Int) < 2 by decide);exists _,rfl,_,_,rfl,rfl,⟨by decide,by decide⟩,_,_,rfl,rfl,(by show(0:Int) < 2;decide),_,_,rfl,rfl,.inl ⟨by decide,by decide⟩,_,_,rfl,rfl;exists _,rfl,_,rfl,_,rfl,_,_,rfl,rfl,g',_,_,rfl,rfl,d,_,rfl,DPut.k (k:=Ke (1+o % n)) Vz (by unfold dP;rw[IR];exact aD<|by lia);obtain⟨o1,o2⟩:=hok.put (k:=1+o % n) (s:=1 - 2*(o / 1000 % 2)) (by lia) (by lia);refine⟨qA ps (1+o % n) (1 - 2*(o / 1000 % 2)),_,_,rfl,?_,k2.upd_new hd _,o1,by lia⟩;rw[ad];exact Kp (λz=>B'<|HO.dK z)<|wx _ _ _
  ·exact⟨ps,_,_,rfl,Vz,k2,hok,by lia⟩
 ·rintro σ H2 ⟨ps,jv,ov,rfl,Vz,k2,hok,hl⟩;refine⟨_,rfl,d,dP ps,ps.map (·.1),rfl,Vz,sh ps,by rw[IR];lia,λl ks UX Vj hpw=>⟨l,rfl,⟨_,SqL.of ad⟩,λD hD=>?_⟩⟩;refine kW Vz hok n1 (by lia) UX Vj hD _ rfl ?_;refine⟨D,_,rfl,.inl ⟨SqL.of ad,λt ht=>?_⟩⟩;have k3:=k2.upd_new (k2.free UX)<|.lst<|ks.map V.int;have k4:=k3.upd_new (k3.free hD)<|.lst<|(ks.map λk=>k*zn ps k).map V.int;exact q t _ _ (k4.upd_new (k4.free ht) _) ad<|hok.clause Vj hpw
end
section
variable {P:Jc}{w:Jv}{K:IJ}{mg:Str->IQ IH}{base:JM}
theorem Gc{rs:IG Int}(h:rs.length=3):∃x y z,rs=[x,y,z]:=by
 match rs,h with
 |[x,y,z],_=>exact⟨x,y,z,rfl⟩
theorem xJ{ns:IG Int}{r:Int}(h0:0<=r)(h1:r<=16):(dz (ns.map V.int) (B' 1)<|B' (1+r)).length<=16:=by
 unfold dz;have e1:HT.sIx (ns.map V.int).length 0 (B' 1)=min 1 (ns.map V.int).length:=HT.sIx_nat _ 0 1;have e2:HT.sIx (ns.map V.int).length (ns.map V.int).length (B' (1+r))=min (1+r.toNat) (ns.map V.int).length:=by
  have e:(1+r:Int)=((1+r.toNat:Nat):Int):=by lia
  rw[e];exact HT.sIx_nat _ _ _
 rw[e1,e2,JN,MV];lia
theorem xK:aF ["_law_script","_law_most","_law_count","_law_bits","_law_many","_law_turns","_law_clauses","_law_k","_law_cell","_law_number","_law_clause"] ["_law_script","_law_most"] (ap xC):=eR
theorem AE(F:Fun K "_law_sentence" "_law_sentence" xC f fd)(T:EN mg)(MQ:Fe P w K mg base 1 "_law_cell_at" (kU K))(My:Fe P w K mg base 1 "_law_mixed" hV)
  (Yv:Fe P w K mg base 2 "_law_first" (sR K)) (Ud:Fe P w K mg base 1 "_law_free_clause" xD) (Yw:Fe P w K mg base 2 "_law_drawn" sS):
  FnOk P w K mg base c6 3 f fd ["_law_script","_law_most"] (xE K):=by
 have sc:=xK;refine F.okA xK λLY A outer s H vs Q E hr h=>?_;obtain⟨a,ns,most,rfl,hS,h63,o0,o1,q⟩:=h;have hu:=hr.units;refine⟨_,(af (ic (ck Yv hr<|aa (pv 0)<|aa (aN<|aa (aG cB (pv 1) ah)<|aa ah<|aa ah ae) ae)<|nE rfl<|aY (aA (i:=2) sc.nd rfl<|Ob rfl)<|aY (aA (i:=3) sc.nd rfl<|Ob rfl)<|aY (aA (i:=4) sc.nd rfl<|Jl rfl) dY)
  (af (ar (i:=5) sc.nd rfl (Jl rfl)<|d_ PySem.F.plainAttrs_str PySem.F.slot_str_join PySem.F.type_str_join zQ aB<|aa (bH (NY:=["_law_k","_law_bits"]) (idx:=[IV,B' 3]) rfl cS (dj rfl T.range<|aa (pv 2) ae) (λ_ _ _ _=>(aA (i:=0) (nD ["_law_k","_law_bits"]) rfl<|Jl rfl)) (λ_ _ _ _=>c_) λ_ _ _ _=>(aE (iE (K:=K) rfl) aB (aG CY (aG CV (pv 1)<|pv 0) ah) λ_ _=>rfl)) ae)
  (af (aP (aq (aQ hu) (aG bA (ck MQ hr<|aa (pv 0)<|aa ah ae) ah) ah<|az _) (ai<|aw<|aZ<|aa (pv 5)<|aa (bH (NY:=["_law_cell","_law_count"]) (idx:=[IV,B' 2]) rfl cS (b_<|gv iw (pv 0) (eP ah)<|eP<|aG cB ah<|pv 4) (λ_ _ _ _=>(aA (i:=0) (nD ["_law_cell","_law_count"]) rfl<|Jl rfl)) (λ_ _ _ _=>c_) λ_ _ _ _=>(ck Ud hr<|aa (pv 0)<|aa (pv 1) ae)) ae) ay)
  (af (aP (aq lO (aG bA (pv 3) ah) ah<|az _) (ai<|ar (i:=4) sc.nd rfl (Jl rfl)<|aG cU (pv 4) ah) ay)
  (af (ar (i:=6) sc.nd rfl (Jl rfl)<|aN ae)
  (af (cR Ky rfl (dj rfl T.range<|aa (pv 4) ae) (aA (i:=7) sc.nd rfl<|Jl rfl)
   (af (ar (i:=8) sc.nd rfl (Jl rfl)<|au (wn rfl) rfl T.sum Ye<|aa (uv (pv 0) (eP<|aG cB ah<|pv 7) (eP ah)<|eP<|pv 4) ae)
   (af (ar (i:=9) sc.nd rfl (Jl rfl)<|ck My hr<|aa (pv 8)<|aa (aG cB (pv 7) ah) ae)
   (af (ar (i:=10) sc.nd rfl (Jl rfl)<|ck Yw hr<|aa (pv 8)<|aa (pv 7)<|aa (pv 2) ae)
   (af (aP (aq (aQ hu) (aG bA (pv 9) ah) ah<|az _) (ai<|ar (i:=10) sc.nd rfl (Jl rfl)<|aZ ae) ay)
   (af (aP (PW.pt<|dA (aq (aQ hu) (aG bA (aG cU (pv 9) ah) ah) ah<|az _)<|cT<|aq (fH hu) (pv 6) (aN ae)<|az _) (ai<|ar (i:=10) sc.nd rfl (Jl rfl)<|aE ax (pv 6) (aG bA (aG cU (pv 9) ah)<|au a_ rfl T.len Kc<|aa (pv 6) ae) λ_ _=>rfl) ay)
   (ai<|aP (PW.pt<|gh (aq (fH hu) (pv 10) (aZ ae)<|az _)<|gn<|aq (aQ hu) (aG bA (pv 9) ah) ah<|az _) (ai<|cp<|d_ JY J3 J_ bM (pv 6)<|aa (pv 10) ae) ay)))))))
  (ai<|aw<|aZ<|aa (pv 5)<|aa (pv 6) ae))))))),?_⟩
 refine⟨_,rfl,_,rfl,_,_,rfl,rfl,(by show 3<=sizeLine;decide),λb hb=>?_⟩;refine⟨a,b,ns,[most+1,4096,17],rfl,(ag hb _).seq hS,ad,(by show 3<=10;decide),λz hz=>?_,λp rs H1 k1 hp Lx hrs=>?_⟩
 ·obtain rfl|hz:=JC.mp hz
  ·lia
  ·obtain rfl|hz:=JC.mp hz
   ·lia
   ·rw[Jf.mp hz];lia
 obtain⟨r0,r1,r2,rfl⟩:=Gc (rs:=rs) Lx;obtain⟨x0,x1⟩:=hrs 0 r0 (most+1) rfl rfl;obtain⟨y0,y1⟩:=hrs 1 r1 4096 rfl rfl;obtain⟨z0,z1⟩:=hrs 2 r2 17 rfl rfl;have k1':Same H H1:=(ag hb _).trans k1;clear k1;exists p,_,rfl,SqL.of hp,rfl,_,_,rfl,_,_,rfl,_,_,rfl,rfl;refine⟨rfl,_,rfl,r0,rfl,(by lia),(by lia),λD hD=>?_⟩;refine kh (lo:=0) (n:=r0.toNat) (λi σ ys H2=>(∃v0,σ=[v0,B'<|.int r1])/\(∃ss,ys=ss.map V.str/\ss.length=i/\∀s∈ss,kl s)/\H2=upd H1 D (.lst ys)) ⟨⟨IV,rfl⟩,⟨[],rfl,rfl,λ_ h=>nomatch h⟩,rfl⟩ ?_ ?_ ?_
 ·rintro i σ ys H2 _ ⟨_,_,rfl⟩;exact ad
 ·rintro i σ ys H2 hi ⟨⟨v0,rfl⟩,⟨ss,rfl,hss,hsg⟩,rfl⟩;have e0:Sl (r1 / 2 ^ ((0:Int)+(i:Int)).toNat) 1=r1 / 2 ^ ((0:Int)+(i:Int)).toNat % 2:=X7 _;obtain⟨ch,WW,hs⟩:=FF (j:=Sl (r1 / 2 ^ ((0:Int)+(i:Int)).toNat) 1) (by rw[e0];exact Kz _<|by decide) (by rw[e0];exact Kj _<|by decide);refine eu ⟨_,rfl,_,rfl,_,_,rfl,rfl,(by show(0:Int)<=0+(i:Int);lia),_,_,rfl,rfl,.inr<|.inr ⟨_,_,ch,rfl,rfl,(by decide+kernel),WW,ad,(by rw[IR];exact aD<|by lia),⟨_,rfl⟩,⟨ss++[⟨#[ch]⟩],by rw[JO];rfl,by rw[I_,hss];rfl,λz hz=>?_⟩,fm⟩⟩;obtain w|w:=JA.mp hz
  ·exact hsg z w
  ·rw[Jf.mp w];exact hs
 rintro σ ys H2 ⟨_,⟨ss,rfl,hss,hsg⟩,rfl⟩;obtain⟨tl,tw⟩:=wA hsg;refine⟨_,D,ss,rfl,rfl,SqL.of ad,?_,?_⟩
 ·rw[l9 hsg,show(IK "").length=0 from by decide+kernel];lia
 generalize Uu (IK "") ss=t at tl tw;have k2:Same H (upd H1 D<|.lst<|ss.map V.str):=k1'.upd_new (k1'.free hD) _;generalize upd H1 D (.lst<|ss.map V.str)=H2 at k2;have ada:(t.length:Int)=r0:=by lia
 refine⟨_,rfl,a,ns,0,rfl,k2.seq hS,OI 0,λc2=>?_⟩;refine⟨_,_,rfl,rfl,(by show(0:Int) < 2;decide),.inl ⟨rfl,_,rfl,fG (λ_=>?_) λ_=>?_⟩⟩
 ·refine⟨_,rfl,_,rfl,1,rfl,_,rfl,_,_,rfl,rfl,_,rfl,a,_,rfl,k2.seq hS,λp2 Vx=>⟨p2,rfl,⟨_,SqL.of ad⟩,λD2 XR=>?_⟩⟩;obtain⟨ms,hms,_⟩:=wz ns (B' 1)<|B' (1+r2);have akd:=xJ (ns:=ns) z0 (by lia);have k3:Same H (upd H2 p2<|.lst<|dz (ns.map V.int) (B' 1)<|B' (1+r2)):=k2.upd_new (k2.free Vx) _;have hp3:upd H2 p2 (.lst<|dz (ns.map V.int) (B' 1)<|B' (1+r2)) p2=B' (.lst<|dz (ns.map V.int) (B' 1)<|B' (1+r2)):=ad;have nD2:H D2=none:=k3.free XR;refine dq (K:=K) (a:=p2) (xs:=dz (ns.map V.int) (B' 1)<|B' (1+r2)) (λi σ ys H3=>(∃v0,σ=[v0,B'<|.int r0])/\H3 D2=B' (.lst ys)/\Same H H3/\H3 p2=B' (.lst<|dz (ns.map V.int) (B' 1)<|B' (1+r2))/\∃cs,cs.length=i/\CLs H3 cs ys/\∀c∈cs,ig r0 c)
   ⟨⟨IV,rfl⟩,ad,k3.upd_new nD2 _,by rw[ao<|aj hp3 XR];exact hp3,[],rfl,.nil,λ_ h=>nomatch h⟩ ?_ ?_ ?_
  ·rintro i σ ys H3 _ ⟨_,h1,_,h2,_⟩;exact⟨h1,SqL.of h2⟩
  ·rintro i x σ ys H3 hx ⟨⟨v0,rfl⟩,g1,g2,g3,cs,g4,g5,g6⟩;have Te:i < (dz (ns.map V.int) (B' 1)<|B' (1+r2)).length:=(IY.mp hx).1;rw[hms]at hx;obtain⟨cz,rfl,_⟩:=fg hx;refine eu ⟨_,rfl,_,rfl,cz,r0,rfl,x0,(by lia),λt1 ls H4 k4 ht1 hls=>?_⟩;have h4:=k4 _ _ g1;have h5:=k4 _ _ g3;have np:p2≠D2:=aj hp3 XR;refine⟨h4,(by rw[<-g5.length,g4];exact aD<|by lia),⟨_,rfl⟩,ad,(g2.trans k4).upd_new nD2 _,by rw[ao np];exact h5,cs++[ls],by rw[I_,g4];rfl,CLs.snoc (CL.upd ⟨t1,rfl,ht1⟩ h4)<|(g5.mono k4).upd h4,λc hc=>?_⟩;obtain w|w:=JA.mp hc
   ·exact g6 c w
   ·rw[Jf.mp w];exact hls
  ·rintro σ ys H3 ⟨_,g1,g2,g3,cs,g4,g5,g6⟩;refine⟨(by show 2<=sizeLine;decide),λp5 hp5=>?_⟩;have k5:Same H3 (upd H3 p5<|.tup [.str t,.ref D2]):=ag hp5 _;refine q p5 t cs _ (g2.trans k5) (jK ad (k5 _ _ g1)<|g5.mono k5) ⟨by lia,tw,by lia,λc hc=>?_⟩;rw[ada];exact g6 c hc
 refine uy (bits:=r1) (mm:=r2) rfl rfl z0 (by lia) (λmm mm0 mm1=>?_) rfl;refine⟨Jw _,λqa hqa=>?_⟩;have nqa:H qa=none:=k2.free hqa;refine⟨_,rfl,mm,rfl,(by lia),(by lia),dQ (lo:=0) (n:=mm.toNat)
  (λi σ H3=>∃xs cs v7 v8 v9 v10,σ=[B'<|.ref a,B'<|.int most,B'<|.int r0,B'<|.int r1,B'<|.int mm,B'<|.str t,B'<|.ref qa,v7,v8,v9,v10]/\H3 qa=B' (.lst xs)/\CLs H3 cs xs/\Same H H3/\cs.length<=i/\∀c∈cs,ig r0 c)
  ⟨[],[],IV,IV,IV,IV,rfl,ad,.nil,k2.upd_new nqa _,IX _,λ_ h=>nomatch h⟩ ?_ ?_⟩
 ·rintro i σ H3 hi ⟨xs,cs,v7,v8,v9,v10,rfl,g1,g2,g3,g4,g5⟩;refine⟨_,rfl,_,rfl,_,_,rfl,rfl,_,rfl,_,rfl,_,rfl,_,rfl,a,ns,mm,rfl,g3.seq hS,rfl,(by lia),(by lia),λp3 ms hp3 hms=>?_⟩;exists p3,ms,rfl,SqL.of ad;refine⟨_,rfl,_,rfl,_,_,rfl,rfl,_,_,rfl,λm hm0 XJ=>?_⟩;refine⟨_,rfl,_,rfl,_,rfl,_,_,r0,rfl,x0,(by lia),λp4 ls H4 k4 hp4 hls=>?_⟩;have k5:Same H3 (upd H3 p3<|.lst<|ms.map V.int):=ag hp3 _;have k6:Same H3 H4:=k5.trans k4;refine qC (m:=m) (pc:=p4) (lc:=ls) (n:=r0) rfl hp4 hls rfl λpc1 lc1 H5 k7 hpc1 afS=>?_;have k8:Same H3 H5:=k6.trans k7;refine qD (m:=m) (pc:=pc1) (q:=qa) (lc:=lc1) (n:=r0) (xs:=xs) (cs:=cs) rfl rfl hm0 hpc1 afS rfl (k8 _ _ g1) (g2.mono k8) g5 λpc2 lc2 H6 k9 hpc2 afR=>?_;have k10:Same H3 H6:=k8.trans k9;refine o_ (m:=m) (pc:=pc2) (q:=qa) (lc:=lc2) (n:=r0) (xs:=xs) (cs:=cs) rfl rfl rfl hpc2 afR (k10 _ _ g1) (g2.mono k10) g5 (by lia) λxs' cs' H7 keep e1 e2 e3 e4=>?_;exact⟨xs',cs',_,_,_,_,rfl,e1,e2,λb o hb=>keep b o (k10 b o<|g3 b o hb)<|aj hb nqa,by lia,e3⟩
 ·rintro σ H3 ⟨xs,cs,v7,v8,v9,v10,rfl,g1,g2,g3,g4,g5⟩;refine⟨_,rfl,_,rfl,(by show 2<=sizeLine;decide),λp5 hp5=>?_⟩;have k5:Same H3 (upd H3 p5<|.tup [.str t,.ref qa]):=ag hp5 _;refine q p5 t cs _ (g3.trans k5) (jK ad (k5 _ _ g1)<|g2.mono k5) ⟨by lia,tw,by lia,λc hc=>?_⟩;rw[ada];exact g5 c hc
end
abbrev n6:KL:=eB 19
structure Hc (mg:Str->IQ IH):Prop where
 len:mg "len"=IV
 g_WISHER:eI mg "WISHER" (.str<|IK "wisher")
 g_SPOILER:eI mg "SPOILER" (.str<|IK "spoiler")
inductive BX (vs:IG V)(H:Hp)(Q:VK):Prop
 |mk (p:IL)(t:Str)(w:V)(i:Nat)(h0:vs=[.ref p,.int<|(i:Int)+1])(h1:H p=B' (.tup [.str t,w]))(h2:i < t.length)(h3:t.length<=900)(h4:Q (.str<|aI<|fi t i) H):BX vs H Q
def xL:Sp:=λvs H Q _=>BX vs H Q
section
variable {P:Jc}{w:Jv}{K:IJ}{mg:Str->IQ IH}{base:JM}
theorem pR:aF ["sentence","variable","turns"] ["sentence","variable"] (ap n6):=eR
theorem vc(F:Fun K "hand_of" "hand_of" n6 f fd)(T:Hc mg):FnOk P w K mg base c6 1 f fd ["sentence","variable"] xL:=by
 have sc:=pR;refine F.okA pR λLY A outer s H vs Q E hr h=>?_;obtain⟨p,t,w,i,rfl,hp,hi,h9,q⟩:=h;have hu:=hr.units;refine⟨_,(af (ar (i:=2) sc.nd rfl (Jl rfl)<|aE ax (pv 0) ah λ_ _=>rfl)
  (af (aP (bE<|oJ jX jX ah (pv 1)<|au a_ rfl T.len Kc<|aa (pv 2) ae) (ai aU) ay)
  (ai<|aw<|oF (aq (aQ hu) (aE ax (pv 2) (aG eW (pv 1) ah) λ_ _=>rfl) aB<|az _) (bz rfl T.g_WISHER)<|bz rfl T.g_SPOILER))),?_⟩
 refine⟨_,rfl,.inr<|.inl ⟨p,_,0,.str t,rfl,rfl,SqT.of hp,rfl,?_⟩⟩;have e1:decide ((1:Int)<=(i:Int)+1)=true:=Jj (by lia);have e2:decide ((i:Int)+1<=((t.length:Nat):Int))=true:=Jj (by lia);have Te:i < t.cps.toList.length:=by
  rw[JE];exact hi
 have WW:=IZ Te;have ZX:p_ t.cps.toList ((i:Int)+1 - 1)=B' t.cps.toList[i]:=by
  have e:(i:Int)+1 - 1=(i:Int):=by lia
  rw[e];exact aW WW
 exists _,rfl,_,_,rfl,rfl,_,rfl;rw[e1];refine aT ⟨_,rfl,.str t,_,rfl,⟨KM (aD<|by lia),rfl⟩,_,_,rfl,rfl,_,rfl,?_⟩;rw[e2];refine aO ?_;refine⟨_,rfl,_,rfl,_,_,rfl,rfl,.inr<|.inr ⟨t,_,_,rfl,rfl,KM (aD<|by lia),ZX,.inl ⟨rfl,_,rfl,?_⟩⟩⟩;rw[BN,<-wD WW];cases g:fi t i with
 |true=>
  rw[g]at q;exact aT q
 |false=>
  rw[g]at q;exact aO q
end
abbrev DY:KL:=eB 12
abbrev DZ:KL:=eB 18
abbrev xM:KL:=eB 22
abbrev q_:KL:=eB 20
structure qe (mg:Str->IQ IH):Prop where
 isinstance:mg "isinstance"=IV
 int:mg "int"=IV
 bool:mg "bool"=IV
 tuple:mg "tuple"=IV
 list:mg "list"=IV
 abs:mg "abs"=IV
 len:mg "len"=IV
 all:mg "all"=IV
 range:mg "range"=IV
 zip:mg "zip"=IV
 sorted:mg "sorted"=IV
 set:mg "set"=IV
 any:mg "any"=IV
 max:mg "max"=IV
def sW:Sp:=λvs H Q _=>∃v d,vs=[v]/\RD H d v/\Q (.bl<|nB d&&!nC d) H
def BY:Sp:=λvs H Q _=>∃v d most,vs=[v,.int most]/\RD H d v/\Q (.bl<|lJ most d) H
inductive BZ (vs:IG V)(H:Hp)(Q:VK):Prop
 |mk (p:IL)(t:Str)(w:V)(hw:Jm)(h0:vs=[.ref p,.str<|aI hw])(h1:H p=B' (.tup [.str t,w]))(h2:t.length<=900)(h3:∀(l:IL) (H':Hp),Same H H'->H' l=B' (.lst<|(dh t hw).map V.int)->Q (.ref l) H'):BZ vs H Q
def rc:Sp:=λvs H Q _=>BZ vs H Q
def n9:Sp:=λvs H Q _=>∃b:Jm,vs=[.str<|aI b]/\Q (.str<|aI (!b)) H
theorem cH(h:dC H ds xs)(hl:ds.length=2):∃d0 d1 x0 x1,ds=[d0,d1]/\xs=[x0,x1]/\RD H d0 x0/\RD H d1 x1:=by
 match ds,hl with
 |[d0,d1],_=>
  obtain⟨x0,r0,rfl,h0,k0⟩:=aL h;obtain⟨x1,r1,rfl,h1,k1⟩:=aL k0;obtain rfl:=bV k1;exact⟨_,_,x0,x1,rfl,rfl,h0,h1⟩
inductive Gd (H:Hp)(a:IL)(most:Int)(ds:IG Jg)(i:Nat)(σ:St)(H2:Hp):Prop
 |mk (b:Int)(l:IQ V)(h0:σ=[B'<|.ref a,B'<|.int most,B'<|.int b,l])(h1:H2=H)(h2:ii most b (ds.drop i)=ii most 0 ds):Gd H a most ds i σ H2
inductive B0 (H:Hp)(D p:IL)(t:Str)(hw:Jm)(i:Nat)(σ:St)(ys:IG V)(H2:Hp):Prop
 |mk (v0:IQ V)(h0:σ=[v0,B' (.str (aI hw)),B' (.ref p)])(h1:ys=(((KI i).filter λi=>fi t i == hw).map λ(i:Nat)=>V.int<|(i:Int)+1))(h2:H2=upd H D (.lst ys)):B0 H D p t hw i σ ys H2
section
variable {P:Jc}{w:Jv}{K:IJ}{mg:Str->IQ IH}{base:JM}
theorem Ge:aF ["thing"] ["thing"] (ap DY):=eR
theorem D5(F:Fun K "is_number" "is_number" DY f fd)(T:qe mg):FnOk P w K mg base c6 1 f fd ["thing"] sW:=by
 refine F.okA Ge λLY A outer s H vs Q E hr h=>?_;obtain⟨v,d,rfl,hd,q⟩:=h;have nd:=iY hd;exists _,(ai<|aw<|jV (au dm rfl T.isinstance Jt<|aa (pv 0)<|aa (cy (v:=.ty "int") rfl T.int R0 rfl) ae)<|m9<|vB<|au dm rfl T.isinstance Jt<|aa (pv 0)<|aa (cy (v:=.ty "bool") rfl T.bool Ry rfl) ae);exists _,rfl,v,_,"int",_,rfl,sd d v hd,zP d nd,_,rfl;cases hI:nB d with
 |false=>
  rw[hI]at q;exact aO q
 |true=>
  rw[hI]at q;exact aT ⟨_,rfl,v,_,"bool",_,rfl,sd d v hd,wc d nd,_,rfl,q⟩
theorem B1:aF ["thing","most","behind","literal"] ["thing","most"] (ap DZ):=eR
theorem D6(F:Fun K "is_set" "is_set" DZ f fd)(T:qe mg)(P6:Fe P w K mg base 1 "is_number" sW):FnOk P w K mg base c6 2 f fd ["thing","most"] BY:=by
 have sc:=B1;refine F.okA B1 λLY A outer s H vs Q E hr h=>?_;obtain⟨v,d,most,rfl,hd,q⟩:=h;have nd:=iY hd;refine⟨_,(af (aP (bE<|bo<|au dm rfl T.isinstance Jt<|aa (pv 0)<|aa (cy (v:=.ty "tuple") rfl T.tuple Ko rfl) ae) (ai<|aw eV) ay)
  (af (ar (i:=2) sc.nd rfl (Jl rfl) ah)
  (af (cR Ky rfl (dO<|pv 0) (aA (i:=3) sc.nd rfl<|Jl rfl)
   (af (aP (PW.pt<|gh (bE<|bo<|ck P6 hr<|aa (pv 3) ae)<|gn<|bE<|oJ lN jX (pv 2) (au bU rfl T.abs J5<|aa (pv 3) ae)<|pv 1) (ai<|aw eV) ay)
   (ai<|ar (i:=2) sc.nd rfl (Jl rfl)<|au bU rfl T.abs J5<|aa (pv 3) ae)))
  (ai<|aw eV)))),?_⟩
 exists _,rfl,v,_,"tuple",_,rfl,sd d v hd,lZ d nd,_,rfl;cases d with
 |tuple ds=>
  refine aO ?_;obtain⟨a,xs,rfl,ha,hx⟩:=aK hd;have Lx:=cq hx;refine⟨_,rfl,a,rfl,⟨_,SqT.of ha⟩,rQ (K:=K) (a:=a) (xs:=xs) (Gd H a most ds)
   ⟨0,IV,rfl,rfl,rfl⟩ (λi σ H2 _ hp=>by obtain⟨_,_,_,e,_⟩:=hp;rw[e];exact SqT.of ha) ?_ ?_⟩
  ·rintro i y σ H2 hi ⟨b,l,rfl,rfl,hb⟩;have Te:i < xs.length:=(IY.mp hi).1;have hy:=d9 hx hi;rw[uE MR<|by lia]at hb;exists _,rfl,y,_,rfl,hy,_,rfl;obtain⟨z,hz⟩|hz:=nI (ds.getD i .none)
   ·rw[hz]at hy hb ⊢;obtain rfl:=aX hy;refine aO ?_;exists _,rfl,_,rfl,z,rfl,_,_,rfl,rfl,_,rfl;rw[kx]at hb;refine fG (λc1=>?_) λc1=>?_
    ·have c1':b < absI z:=Kd c1;exists _,rfl,_,_,rfl,rfl,_,rfl;refine fG (λc2=>?_) λc2=>?_
     ·have c2':¬absI z<=most:=λhh=>by
       have e:decide (absI z<=most)=true:=Jj hh;rw[show decide ((if z < 0 then -z else z)<=most)=IS from e]at c2;cases c2
      rw[JD<|by lia]at hb;show Q (.bl IU) _
      rw[show lJ most (.tuple ds)=ii most 0 ds from rfl,<-hb]at q;exact q
     ·have c2':absI z<=most:=WV λhh=>by
       have e:decide (absI z<=most)=false:=IW hh;rw[show decide ((if z < 0 then -z else z)<=most)=IU from e]at c2;exact c2 rfl
      rw[JF ⟨c1',c2'⟩]at hb;exists _,rfl,z,rfl;exact⟨absI z,B'<|.int z,rfl,rfl,hb⟩
    ·have c1':¬b < absI z:=λhh=>c1<|Jj hh;rw[JD λhh=>c1' hh.1]at hb;refine⟨_,rfl,aT ?_⟩;show Q (.bl IU) _
     rw[show lJ most (.tuple ds)=ii most 0 ds from rfl,<-hb]at q;exact q
   ·rw[nH hz];rw[pj hz]at hb;refine aT<|aT ?_;show Q (.bl IU) _
    rw[show lJ most (.tuple ds)=ii most 0 ds from rfl,<-hb]at q;exact q
  ·rintro σ H2 ⟨b,l,rfl,rfl,hb⟩;show Q (.bl IS) _
   rw[List.drop_eq_nil_of_le<|by lia]at hb;rw[show lJ most (.tuple ds)=ii most 0 ds from rfl,<-hb]at q;exact q
 |_=>exact aT q
theorem xN:aF ["sentence","hand"] ["sentence","hand"] (ap xM):=eR
theorem AF(F:Fun K "variables_of" "variables_of" xM f fd)(T:qe mg)(aaK:Fe P w K mg base 1 "hand_of" xL):FnOk P w K mg base c6 2 f fd ["sentence","hand"] rc:=by
 have sc:=xN;refine F.okA xN λLY A outer s H vs Q E hr h=>?_;obtain⟨p,t,w,hw,rfl,hp,h9,q⟩:=h;have hu:=hr.units;exists _,(ai<|aw<|bH (NY:=["variable","hand","sentence"]) (idx:=[IV,B' 1,B' 0]) rfl cS (ue rfl T.range<|aa ah<|aa (aG cB (au a_ rfl T.len Kc<|aa (aE ax (pv 0) ah λ_ _=>rfl) ae) ah) ae) (λ_ _ _ _=>(aA (i:=0) (nD ["variable","hand","sentence"]) rfl<|Jl rfl)) (λ_ _ _ _=>(cG<|aq (aQ hu) (ck aaK hr<|aa (pv 2)<|aa (pv 0) ae) (pv 1)<|az _)) λ_ _ _ _=>(pv 0));refine⟨_,rfl,.inr<|.inl ⟨p,_,0,.str t,rfl,rfl,SqT.of hp,rfl,.str t,_,rfl,⟨KM (aD<|by lia),rfl⟩,_,_,rfl,rfl,?_⟩⟩;refine⟨_,_,rfl,⟨by decide,by decide,by lia,by lia⟩,λD hD=>?_⟩;have en:((t.length:Int)+1 - 1).toNat=t.length:=by lia
 refine kh (lo:=1) (n:=((t.length:Int)+1 - 1).toNat) (B0 H D p t hw)
  ⟨IV,rfl,rfl,rfl⟩ ?_ ?_ ?_
 ·rintro i σ ys H2 _ ⟨_,_,_,rfl⟩;exact ad
 ·rintro i σ ys H2 hi ⟨v0,rfl,rfl,rfl⟩;rw[en]at hi;have Vx:=ag hD (.lst<|((KI i).filter λi=>fi t i == hw).map λ(i:Nat)=>V.int<|(i:Int)+1) _ _ hp;have ei:(1:Int)+(i:Int)=(i:Int)+1:=by lia
  rw[ei];refine⟨_,rfl,_,rfl,p,t,w,i,rfl,Vx,hi,h9,_,rfl,.inl ⟨rfl,_,rfl,?_⟩⟩;rw[gJ];by_cases g0:fi t i=hw
  ·have g:(fi t i == hw)=true:=by rw[g0];exact NZ _
   rw[Jj g0];refine aT ⟨_,rfl,ad,?_,_,rfl,?_,fm⟩
   ·have:=Lk (λi=>fi t i == hw)<|KI i;rw[Mf]at this;rw[IR];exact aD (by lia)
   ·rw[PB,M3,OG (p:=λi=>fi t i == hw) g,JO];rfl
  ·rw[IW g0];refine aO ⟨_,rfl,?_,rfl⟩;rw[PB,M3,OH (p:=λi=>fi t i == hw) λz=>g0<|by simpa using z];simp
 ·rintro σ ys H2 ⟨_,_,rfl,rfl⟩;refine q D _ (ag hD _) ?_;rw[ad,en];unfold dh;rw[KJ];rfl
theorem AG:aF ["hand"] ["hand"] (ap q_):=eR
theorem xO(F:Fun K "other_hand" "other_hand" q_ f fd)(T:Hc mg):FnOk P w K mg base c6 1 f fd ["hand"] n9:=by
 refine F.okA AG λLY A outer s H vs Q E hr h=>?_;obtain⟨b,rfl,q⟩:=h;have hu:=hr.units;exists _,(ai<|aw<|oF (aq (aQ hu) (pv 0) (bz rfl T.g_WISHER)<|az _) (bz rfl T.g_SPOILER)<|bz rfl T.g_WISHER);refine⟨_,rfl,.inl ⟨rfl,_,rfl,?_⟩⟩;have e:decide (V.str (aI b)=V.str (IK "wisher"))=b:=by
  have z:=gJ b IS;have z2:aI IS=IK "wisher":=rfl;rw[z2]at z;rw[z];cases b<;>rfl
 rw[e];cases b with
 |true=>exact aT q
 |false=>exact aO q
end
abbrev xP:KL:=eB 23
abbrev n_:KL:=eB 24
abbrev kZ:KL:=eB 25
def re(H:Hp)(p:IL)(c:IG Int):Prop:=H p=B' (.tup<|c.map V.int)
inductive B2 (vs:IG V)(H:Hp)(Q:VK):Prop
 |mk (p q:IL)(f s:IG Int)(v:Int)(h0:vs=[.ref p,.ref q,.int v])(h1:re H p f)(h2:re H q s)(h3:f.length<=60)(h4:s.length<=60)(h5:∀H',Same H H'->Q (.bl<|eJ f s v) H'):B2 vs H Q
def xQ:Sp:=λvs H Q _=>B2 vs H Q
inductive sX (vs:IG V)(H:Hp)(Q:VK):Prop
 |mk (p q:IL)(f s:IG Int)(v:Int)(h0:vs=[.ref p,.ref q,.int v])(h1:re H p f)(h2:re H q s)(h3:f.length+s.length<=60)(h4:Ups f)(h5:Ups s)(h6:eJ f s v=IU)(h7:∀(l:IL) (r:IG Int) (H':Hp),Same H H'->Joins f s v r->re H' l r->Q (.ref l) H'):sX vs H Q
def pS:Sp:=λvs H Q _=>sX vs H Q
inductive pT (vs:IG V)(H:Hp)(Q:VK):Prop
 |mk (p q:IL)(t:Str)(w:V)(hw:Jm)(c:IG Int)(h0:vs=[.ref p,.str<|aI hw,.ref q])(h1:H p=B' (.tup [.str t,w]))(h2:t.length<=900)(h3:re H q c)(h4:c.length<=60)(h5:(∀l∈c,1<=absI l/\absI l<=(t.length:Int)))(h6:∀(l:IL) (H':Hp),Same H H'->re H' l (cZ t hw c)->Q (.ref l) H'):pT vs H Q
def mH:Sp:=λvs H Q _=>pT vs H Q
theorem cw(c:IG Int):(c.map V.int).all iy=true:=by
 rw[RF];exact Ly.mpr λ_ _=>rfl
theorem AI{α:Type}(l:IG α)(f:α->Jm):((l.map λx=>V.bl<|f x).all wo)=IS/\(l.map λx=>V.bl<|f x).any iC=l.any f:=by
 refine⟨by rw[RF];exact Ly.mpr λ_ _=>rfl,?_⟩;rw[P0];exact fV λ_ _=>rfl
theorem k_(c:IG Int)(p:Int->Jm)(f:Int->V):((c.map V.int).filter<|oB p).map (EK f)=(c.filter p).map f:=by
 induction c with
 |nil=>rfl
 |cons x r ih=>
  rw[J'];by_cases h:p x=IS
  ·rw[OG (p:=oB p) (a:=V.int x) h,OG (p:=p) h,J',J',ih];rfl
  ·rw[OH (p:=oB p) (a:=V.int x) h,OH (p:=p) h,ih]
theorem AJ{K:IJ}{H:Hp}{p:IL}{ns:IG Int}{Q:VK}(h:SqL K H p (ns.map V.int))(h0:∀a∈ns,0<=a)(q:Q (.int<|ns.foldl max 0) H):xc K (.ref p) (.int 0) H Q:=
 ⟨p,ns,rfl,h,λe=>by rw[e]at q;exact q,λM m1 m2=>by rw[xh h0 (.inl m1) m2<|h0 M m1]at q;exact q⟩
theorem sY(l:Int):0<=absI l:=by
 obtain⟨_,e⟩|⟨_,e⟩:=bC l<;>lia
section
variable {P:Jc}{w:Jv}{K:IJ}{mg:Str->IQ IH}{base:JM}
theorem xR:aF ["first","second","variable"] ["first","second","variable"] (ap xP):=eR
theorem AK(F:Fun K "stands_both_ways" "stands_both_ways" xP f fd)(T:qe mg):FnOk P w K mg base c6 1 f fd ["first","second","variable"] xQ:=by
 have sc:=xR;refine F.okA xR λLY A outer s H vs Q E hr h=>?_;obtain⟨p,q,f,s,v,rfl,hp,hq,h9,h8,q'⟩:=h;have hu:=hr.units;exists _,(ai<|aw<|au (wp rfl) rfl T.any Yg<|aa (bH (NY:=["literal","second","variable"]) (idx:=[IV,B' 1,B' 2]) rfl cS (dO<|pv 0) (λ_ _ _ _=>(aA (i:=0) (nD ["literal","second","variable"]) rfl<|Jl rfl)) (λ_ _ _ _=>(cG<|aq (fH hu) (au bU rfl T.abs J5<|aa (pv 0) ae) (pv 2)<|az _)) λ_ _ _ _=>(dZ (ie (K:=K) rfl) (ci bB<|pv 0) (pv 1)<|by with_unfolding_all rfl)) ae);refine⟨_,rfl,p,rfl,⟨_,SqT.of hp⟩,λD hD=>?_⟩;refine cu [B'<|.ref q,B'<|.int v] (oB λl=>!decide (absI l=v)) (EK λl=>.bl<|s.contains (-l)) rfl hp hD (by rw[IR];lia) ?_ ?_ ?_
 ·intro x hx H' R k r;obtain⟨z,_,rfl⟩:=cr hx;refine⟨_,rfl,z,rfl,_,rfl,.inl ⟨rfl,_,rfl,?_⟩⟩;have e:decide (V.int (absI z)=V.int v)=decide (absI z=v):=by
   by_cases h:absI z=v
   ·rw[h];simp
   ·rw[IW h,IW λe=>h<|V.int.inj e]
  have r':R (!decide (absI z=v)) H':=r;rw[<-e]at r';exact r'
 ·intro x hx _ H' R k r;obtain⟨z,_,rfl⟩:=cr hx;exists _,rfl,_,rfl,_,rfl,q,_,rfl,.inr<|SqT.of<|k _ _ hq,rfl,cw s;show R (.bl<|qd (.int (-z))<|s.map V.int) H'
  rw[cV];exact r
 ·rw[k_];have e:=AI (f.filter λl=>!decide (absI l=v)) λl=>s.contains (-l);exists D,_,rfl,SqL.of ad,e.1;rw[e.2];exact q' _<|ag hD _
theorem pU:aF ["first","second","variable","both"] ["first","second","variable"] (ap n_):=eR
theorem vd(F:Fun K "joined" "joined" n_ f fd)(T:qe mg):FnOk P w K mg base c6 1 f fd ["first","second","variable"] pS:=by
 have sc:=pU;refine F.okA pU λLY A outer s H vs Q E hr h=>?_;obtain⟨p,q,f,s,v,rfl,hp,hq,h9,hf,hs,hb,q'⟩:=h;have hu:=hr.units;refine⟨_,(af (ar (i:=3) sc.nd rfl (Jl rfl)<|aG iW (bL cE rfl T.list KC<|aa (pv 0) ae)<|bH (NY:=["literal","first"]) (idx:=[IV,B' 0]) rfl cS (dO<|pv 1) (λ_ _ _ _=>(aA (i:=0) (nD ["literal","first"]) rfl<|Jl rfl)) (λ_ _ _ _=>(cG<|aq (lI (K:=K) rfl) (pv 0) (pv 1)<|by with_unfolding_all rfl)) λ_ _ _ _=>(pv 0))
  (ai<|aw<|bL cN rfl T.tuple Ko<|aa (qN rfl T.sorted rfl T.abs<|bH (NY:=["literal","variable"]) (idx:=[IV,B' 2]) rfl cS (b_<|pv 3) (λ_ _ _ _=>(aA (i:=0) (nD ["literal","variable"]) rfl<|Jl rfl)) (λ_ _ _ _=>(cG<|aq (fH hu) (au bU rfl T.abs J5<|aa (pv 0) ae) (pv 1)<|az _)) λ_ _ _ _=>(pv 0)) ae)),?_⟩
 refine⟨_,rfl,p,_,rfl,.inr<|SqT.of hp,λL1 hL1=>?_⟩;have k1:=ag hL1<|.lst<|f.map V.int;have r1:upd H L1 (.lst<|f.map V.int) L1=B' (.lst<|f.map V.int):=ad;generalize upd H L1 (.lst<|f.map V.int)=H1 at k1 r1;refine⟨_,rfl,q,rfl,⟨_,SqT.of<|k1 _ _ hq⟩,λD hD=>?_⟩;refine cu [B'<|.ref p] (oB λl=>!f.contains l) (λx=>x) rfl (k1 _ _ hq) hD (by rw[IR];lia) ?_ ?_ ?_
 ·intro x hx H' R k r;obtain⟨z,_,rfl⟩:=cr hx;exists _,rfl,_,rfl,p,_,rfl,.inr<|SqT.of<|k _ _<|k1 _ _ hp,rfl,cw f,_,rfl;show R (!qd (.int z) (f.map V.int)) H'
  rw[cV];exact r
 ·intro x hx _ H' R k r;exact⟨_,rfl,r⟩
 rw[bW s (λl=>!f.contains l) _ λi=>rfl];have k2:=ag hD<|.lst<|(s.filter λl=>!f.contains l).map V.int;have r2:upd H1 D (.lst<|(s.filter λl=>!f.contains l).map V.int) D=B' (.lst<|(s.filter λl=>!f.contains l).map V.int):=ad;generalize upd H1 D (.lst<|(s.filter λl=>!f.contains l).map V.int)=H2 at k2 r2;have Xs:=Lk (λl=>!f.contains l) s;refine⟨L1,D,_,_,rfl,rfl,k2 _ _ r1,r2,by rw[IR,IR,KS];lia,λL3 hL3=>?_⟩;rw[<-JO];have k3:=ag hL3<|.lst<|(f++s.filter λl=>!f.contains l).map V.int;have r3:upd H2 L3 (.lst<|(f++s.filter λl=>!f.contains l).map V.int) L3=B' (.lst<|(f++s.filter λl=>!f.contains l).map V.int):=ad;generalize upd H2 L3 (.lst<|(f++s.filter λl=>!f.contains l).map V.int)=H3 at k3 r3;have hl3:(f++s.filter λl=>!f.contains l).length<=60:=by rw[I_];lia
 refine⟨_,rfl,L3,rfl,⟨_,SqL.of r3⟩,λD4 hD4=>?_⟩;refine fW [B'<|.int v] (oB λl=>!decide (absI l=v)) (λx=>x) rfl r3 hD4 (by rw[IR];lia) ?_ ?_ ?_
 ·intro x hx H' R k r;obtain⟨z,_,rfl⟩:=cr hx;refine⟨_,rfl,z,rfl,_,rfl,.inl ⟨rfl,_,rfl,?_⟩⟩;have e:decide (V.int (absI z)=V.int v)=decide (absI z=v):=by
   by_cases h:absI z=v
   ·rw[h];simp
   ·rw[IW h,IW λe=>h<|V.int.inj e]
  have r':R (!decide (absI z=v)) H':=r;rw[<-e]at r';exact r'
 ·intro x hx _ H' R k r;exact⟨_,rfl,r⟩
 rw[bW _ (λl=>!decide (absI l=v)) _ λi=>rfl];have k4:=ag hD4<|.lst<|(fw f s v).map V.int;have r4:upd H3 D4 (.lst<|(fw f s v).map V.int) D4=B' (.lst<|(fw f s v).map V.int):=ad;have hl4:(fw f s v).length < 64:=M1 (Lk _ _) (by lia);show kL _ _ (upd H3 D4<|.lst<|(fw f s v).map V.int) _
 generalize upd H3 D4 (.lst<|(fw f s v).map V.int)=H4 at k4 r4;refine⟨D4,_,rfl,SqL.of r4,hl4,λL5 r hL5 hpm ho=>?_⟩;refine⟨L5,_,rfl,.inl ⟨SqL.of ad,λL6 hL6=>?_⟩⟩;exact q' L6 r _ ((((k1.trans k2).trans k3).trans k4).trans<|(ag hL5 _).trans<|ag hL6 _) (pD hf hs hb hpm ho) ad
theorem mI:aF ["sentence","hand","literals","others","last"] ["sentence","hand","literals"] (ap kZ):=eR
theorem rf(F:Fun K "dropped" "dropped" kZ f fd)(T:qe mg)(R4:Fe P w K mg base 1 "other_hand" n9)(QL:Fe P w K mg base 2 "variables_of" rc):
  FnOk P w K mg base c6 3 f fd ["sentence","hand","literals"] mH:=by
 have sc:=mI;refine F.okA mI λLY A outer s H vs Q E hr h=>?_;obtain⟨p,q,t,w,hw,c,rfl,hp,h9,hq,hc9,hrg,q'⟩:=h;have hu:=hr.units;refine⟨_,(af (ar (i:=3) sc.nd rfl (Ob rfl)<|ck QL hr<|aa (pv 0)<|aa (ck R4 hr<|aa (pv 1) ae) ae)
  (af (ar (i:=4) sc.nd rfl (Ob rfl)<|Aj rfl rfl T.max (bH (NY:=["literal","others"]) (idx:=[IV,B' 3]) rfl cS (dO<|pv 2) (λ_ _ _ _=>(aA (i:=0) (nD ["literal","others"]) rfl<|Jl rfl)) (λ_ _ _ _=>(cG<|aq (ie (K:=K) rfl) (au bU rfl T.abs J5<|aa (pv 0) ae) (pv 1)<|by with_unfolding_all rfl)) λ_ _ _ _=>(au bU rfl T.abs J5<|aa (pv 0) ae)) ah)
  (ai<|aw<|bL cN rfl T.tuple Ko<|aa (bH (NY:=["literal","last"]) (idx:=[IV,B' 4]) rfl cS (dO<|pv 2) (λ_ _ _ _=>(aA (i:=0) (nD ["literal","last"]) rfl<|Jl rfl)) (λ_ _ _ _=>(cG<|aq jX (au bU rfl T.abs J5<|aa (pv 0) ae) (pv 1)<|az _)) λ_ _ _ _=>(pv 0)) ae))),?_⟩
 refine⟨_,rfl,_,rfl,hw,rfl,p,t,w,!hw,rfl,hp,h9,λl H1 k1 hl=>?_⟩;refine⟨_,rfl,q,rfl,⟨_,SqT.of<|k1 _ _ hq⟩,λD hD=>?_⟩;refine cu [B'<|.ref l] (oB λz=>(dh t (!hw)).contains<|absI z) (EK λz=>.int<|absI z) rfl (k1 _ _ hq) hD (by rw[IR];lia) ?_ ?_ ?_
 ·intro x hx H' R k r;obtain⟨z,_,rfl⟩:=cr hx;exists _,rfl,z,rfl,_,rfl,l,_,rfl,.inl<|SqL.of<|k _ _ hl,rfl,cw _,_,rfl;show R (qd (.int<|absI z)<|(dh t (!hw)).map V.int) H'
  rw[cV];exact r
 ·intro x hx _ H' R k r;obtain⟨z,_,rfl⟩:=cr hx;exact⟨_,rfl,z,rfl,r⟩
 have e:((c.map V.int).filter<|oB λz=>(dh t (!hw)).contains<|absI z).map (EK λz=>.int<|absI z)=((c.filter λl=>!(fi t (absI l - 1).toNat == hw)).map absI).map V.int:=by
  rw[k_,KJ];have:(c.filter λz=>(dh t (!hw)).contains<|absI z)=c.filter λl=>!(fi t (absI l - 1).toNat == hw):=UO λz hz=>Ak (hrg z hz).1 (hrg z hz).2;rw[this];rfl
 rw[e];have k2:=ag hD<|.lst<|((c.filter λl=>!(fi t (absI l - 1).toNat == hw)).map absI).map V.int;have r2:upd H1 D (.lst<|((c.filter λl=>!(fi t (absI l - 1).toNat == hw)).map absI).map V.int) D=B' (.lst<|((c.filter λl=>!(fi t (absI l - 1).toNat == hw)).map absI).map V.int):=ad;generalize upd H1 D (.lst<|((c.filter λl=>!(fi t (absI l - 1).toNat == hw)).map absI).map V.int)=H2 at k2 r2;unfold tC;refine AJ (ns:=(c.filter λl=>!(fi t (absI l - 1).toNat == hw)).map absI) (SqL.of r2) (λa ha=>?_) ?_
 ·obtain⟨z,_,rfl⟩:=J1.mp ha;exact sY z
 refine⟨_,rfl,q,rfl,⟨_,SqT.of<|k2 _ _<|k1 _ _ hq⟩,λD2 XR=>?_⟩;refine cu [B'<|.int<|gj t hw c] (oB λl=>decide (absI l<=gj t hw c)) (λx=>x) rfl (k2 _ _<|k1 _ _ hq) XR (by rw[IR];lia) ?_ ?_ ?_
 ·intro x hx H' R k r;obtain⟨z,_,rfl⟩:=cr hx;exact⟨_,rfl,z,rfl,_,rfl,_,_,rfl,rfl,_,rfl,r⟩
 ·intro x hx _ H' R k r;exact⟨_,rfl,r⟩
 rw[bW c (λl=>decide (absI l<=gj t hw c)) _ λi=>rfl];refine⟨D2,_,rfl,.inl ⟨SqL.of ad,λL3 hL3=>?_⟩⟩;exact q' L3 _ (((k1.trans k2).trans<|ag XR _).trans<|ag hL3 _) ad
end
abbrev rg:KL:=eB 13
abbrev xS:KL:=eB 14
abbrev rh:KL:=eB 27
abbrev rj:KL:=eB 32
abbrev rn:KL:=eB 31
inductive xT (vs:IG V)(H:Hp)(Q:VK):Prop
 |mk (v:V)(d:Jg)(many:Nat)(h0:vs=[v,.int (many:Int)])(h1:RD H d v)(h2:Q (.bl (bh many d).isSome) H):xT vs H Q
def jQ:Sp:=λvs H Q _=>xT vs H Q
inductive B3 (vs:IG V)(H:Hp)(Q:VK):Prop
 |mk (v:V)(d:Jg)(w:Str)(n:Nat)(h0:vs=[v,.str w,.int (n:Int)])(h1:RD H d v)(h2:1<=n)(h3:Kn (.str w)=IS)(h4:(∀ds,d=.tuple ds->Kn (ds.getD 0 .none)=IS))(h5:Q (.bl<|bK w n d) H):B3 vs H Q
def xU:Sp:=λvs H Q _=>B3 vs H Q
inductive xV (vs:IG V)(H:Hp)(Q:VK):Prop
 |mk (p q:IL)(t:V)(v:V)(d:Jg)(xs:IG V)(cs:IG (IG Int))(h0:vs=[.ref p,v])(h1:H p=B' (.tup [t,.ref q]))(h2:H q=B' (.lst xs))(h3:CLs H cs xs)(h4:cs.length<=900)(h5:RD H d v)(h6:∀v',RV H ((bh cs.length d).map λi=>cs.getD i []) v'->Q v' H):xV vs H Q
def sZ:Sp:=λvs H Q _=>xV vs H Q
inductive xW (vs:IG V)(H:Hp)(Q:VK):Prop
 |mk (p a:IL)(t:Str)(w:V)(hw:Jm)(v:V)(d:Jg)(ys:IG V)(sets:IG (IG Int))(h0:vs=[.ref p,.str<|aI hw,v,.ref a])(h1:H p=B' (.tup [.str t,w]))(h2:t.length<=30)(h3:H a=B' (.lst ys))(h4:CLs H sets ys)(h5:sets.length<=900)(h6:(∀c∈sets,aS t.length c))(h7:RD H d v)(h8:∀v' H',Same H H'->RV H' (gL t hw sets d) v'->Q v' H'):xW vs H Q
def s_:Sp:=λvs H Q _=>xW vs H Q
inductive xX (vs:IG V)(H:Hp)(Q:VK):Prop
 |mk (p a b:IL)(t:Str)(w:V)(hw:Jm)(x0 x1 x2 x3:V)(d1 d2 d3:Jg)(ys:IG V)(sets:IG (IG Int))(h0:vs=[.ref p,.str<|aI hw,.ref b,.ref a])(h1:H p=B' (.tup [.str t,w]))(h2:t.length<=30)(h3:H b=B' (.tup [x0,x1,x2,x3]))(h4:H a=B' (.lst ys))(h5:CLs H sets ys)(h6:sets.length<=900)(h7:(∀c∈sets,aS t.length c))(h8:RD H d1 x1)(h9:RD H d2 x2)(ZZ:RD H d3 x3)(h11:∀v' H',Same H H'->RV H' (dw t hw sets d1 d2 d3) v'->Q v' H'):xX vs H Q
def tf:Sp:=λvs H Q _=>xX vs H Q
section
variable {P:Jc}{w:Jv}{K:IJ}{mg:Str->IQ IH}{base:JM}
theorem tj:aF ["thing","many"] ["thing","many"] (ap rg):=eR
theorem xY(F:Fun K "is_place" "is_place" rg f fd)(P6:Fe P w K mg base 1 "is_number" sW):FnOk P w K mg base c6 2 f fd ["thing","many"] jQ:=by
 have sc:=tj;refine F.okA tj λLY A outer s H vs Q E hr h=>?_;obtain⟨v,d,many,rfl,hd,q⟩:=h;exists _,(ai<|aw<|jV (ck P6 hr<|aa (pv 0) ae)<|m9<|vG jX lN ah (pv 0)<|pv 1);exists _,rfl,v,d,rfl,hd,_,rfl;obtain⟨z,rfl⟩|hn:=nI d
 ·obtain rfl:=aX hd;refine aT ?_;have q':Q (.bl (if 0<=z/\z < (many:Int)then B' z.toNat else IV).isSome) H:=q;exists _,rfl,_,_,rfl,rfl,_,rfl;by_cases h0:0<=z
  ·rw[Jj h0];refine aT ⟨_,rfl,_,_,rfl,rfl,?_⟩;by_cases h1:z < (many:Int)
   ·rw[JF ⟨h0,h1⟩]at q';show Q (.bl (decide (z < (many:Int)))) H
    rw[Jj h1];exact q'
   ·rw[JD λc=>h1 c.2]at q';show Q (.bl (decide (z < (many:Int)))) H
    rw[IW h1];exact q'
  ·rw[JD λc=>h0 c.1]at q';rw[IW h0];exact aO q'
 ·rw[nH hn];have e:bh many d=none:=by
   cases d with
   |int z=>exact absurd rfl<|hn z
   |_=>rfl
  rw[e]at q;exact aO q
theorem xZ:aF ["thing","word","many"] ["thing","word","many"] (ap xS):=eR
theorem AL(F:Fun K "begins_with" "begins_with" xS f fd)(T:qe mg):FnOk P w K mg base c6 1 f fd ["thing","word","many"] xU:=by
 have sc:=xZ;refine F.okA xZ λLY A outer s H vs Q E hr h=>?_;obtain⟨v,d,wd,n,rfl,hd,h1,hws,WI,q⟩:=h;have hu:=hr.units;have nd:=iY hd;exists _,(ai<|aw<|jV (au dm rfl T.isinstance Jt<|aa (pv 0)<|aa (cy (v:=.ty "tuple") rfl T.tuple Ko rfl) ae)<|jV (dZ (aQ hu) (au a_ rfl T.len Kc<|aa (pv 0) ae) (pv 2)<|az _)<|m9<|dZ (aQ hu) (aE ax (pv 0) ah λ_ _=>rfl) (pv 1)<|az _);exists _,rfl,v,_,"tuple",_,rfl,sd d v hd,lZ d nd,_,rfl;cases d with
 |tuple ds=>
  obtain⟨a,xs,rfl,ha,hx⟩:=aK hd;have Lx:=cq hx;refine aT ⟨_,rfl,.ref a,_,rfl,.inr ⟨_,SqT.of ha,rfl⟩,_,rfl,.inl ⟨rfl,_,rfl,?_⟩⟩;have q':Q (.bl (decide (ds.length=n)&&pE wd (ds.getD 0 .none))) H:=q;by_cases h2:ds.length=n
  ·rw[Jj h2]at q';have e:decide (V.int ((xs.length:Nat):Int)=V.int (n:Int))=true:=Jj (by rw[Lx,h2]);rw[e];obtain⟨x0,hx0⟩:∃x0,xs[0]? =B' x0:=⟨_,IZ (by lia)⟩;have r0:=d9 hx hx0;refine aT ⟨_,rfl,.inr (.inl ⟨a,xs,0,x0,rfl,rfl,SqT.of ha,aW hx0,_,rfl,.inr ⟨_,_,r0,bQ wd,WI ds rfl,hws,?_⟩⟩)⟩;rw[xi];exact q'
  ·rw[IW h2]at q';have e:decide (V.int ((xs.length:Nat):Int)=V.int (n:Int))=false:=IW λz=>h2 (by have:=V.int.inj z;lia);rw[e];exact aO q'
 |_=>exact aO q
theorem tm:aF ["sentence","place"] ["sentence","place"] (ap rh):=eR
theorem x_(F:Fun K "given_set" "given_set" rh f fd)(T:qe mg)(P1:Fe P w K mg base 2 "is_place" jQ):FnOk P w K mg base c6 3 f fd ["sentence","place"] sZ:=by
 have sc:=tm;refine F.okA tm λLY A outer s H vs Q E hr h=>?_;obtain⟨p,q,t,v,d,xs,cs,rfl,hp,hq,hcs,h9,hd,q'⟩:=h;have Lx:=hcs.length;refine⟨_,(af (aP (bE<|bo<|ck P1 hr<|aa (pv 1)<|aa (au a_ rfl T.len Kc<|aa (aE ax (pv 0) ah λ_ _=>rfl) ae) ae) (ai<|aw bP) ay)
  (ai<|aw<|aE ax (aE ax (pv 0) ah λ_ _=>rfl) (pv 1) λ_ _=>rfl)),?_⟩
 refine⟨_,rfl,_,rfl,.inr<|.inl ⟨p,_,1,.ref q,rfl,rfl,SqT.of hp,rfl,.ref q,_,rfl,.inl ⟨_,SqL.of hq,rfl⟩,v,d,xs.length,rfl,hd,_,rfl,?_⟩⟩;rw[<-Lx];cases g:bh cs.length d with
 |none=>
  rw[g]at q';exact aT<|q' _ rfl
 |some i=>
  rw[g]at q';obtain⟨hi,rfl⟩:=bZ g;obtain rfl:=aX hd;obtain⟨x,hx⟩:∃x,xs[i]? =B' x:=⟨_,IZ (by lia)⟩;obtain⟨c,hc,SU⟩:=hcs.get hx;have e:cs.getD i []=c:=by rw[Jd,hc];rfl
  refine aO ⟨_,rfl,.inr<|.inl ⟨p,_,1,.ref q,rfl,rfl,SqT.of hp,rfl,_,rfl,.inl ⟨q,_,_,x,rfl,rfl,SqL.of hq,aW hx,q' _ ?_⟩⟩⟩;show CL H (cs.getD i []) x
  rw[e];exact SU
theorem tu:aF ["sentence","hand","place","ahead"] ["sentence","hand","place","ahead"] (ap rj):=eR
theorem ya(F:Fun K "drop_set" "drop_set" rj f fd)(T:qe mg)(P1:Fe P w K mg base 2 "is_place" jQ)(aaL:Fe P w K mg base 3 "dropped" mH):FnOk P w K mg base c6 4 f fd ["sentence","hand","place","ahead"] s_:=by
 have sc:=tu;refine F.okA tu λLY A outer s H vs Q E hr h=>?_;obtain⟨p,a,t,w,hw,v,d,ys,sets,rfl,hp,h9,ha,hs,h8,hok,hd,q'⟩:=h;have Lx:=hs.length;refine⟨_,(af (aP (bE<|bo<|ck P1 hr<|aa (pv 2)<|aa (au a_ rfl T.len Kc<|aa (pv 3) ae) ae) (ai<|aw bP) ay)
  (ai<|aw<|ck aaL hr<|aa (pv 0)<|aa (pv 1)<|aa (aE ax (pv 3) (pv 2) λ_ _=>rfl) ae)),?_⟩
 exists _,rfl,_,rfl,.ref a,_,rfl,.inl ⟨_,SqL.of ha,rfl⟩,v,d,ys.length,rfl,hd,_,rfl;rw[<-Lx];unfold gL at q';cases g:bh sets.length d with
 |none=>
  rw[g]at q';exact aT<|q' _ _ (Same.refl _) rfl
 |some i=>
  rw[g]at q';obtain⟨hi,rfl⟩:=bZ g;obtain rfl:=aX hd;obtain⟨x,hx⟩:∃x,ys[i]? =B' x:=⟨_,IZ (by lia)⟩;obtain⟨c,hc,l,rfl,hl⟩:=hs.get hx;have e:sets.getD i []=c:=by rw[Jd,hc];rfl
  have ZW:=hok c<|Ji hc;have SU:=cQ ZW;refine aO ⟨_,rfl,_,rfl,_,rfl,_,rfl,.inl ⟨a,_,_,.ref l,rfl,rfl,SqL.of ha,aW hx,p,l,t,w,hw,c,rfl,hp,by lia,hl,by lia,ZW.2,λl2 H2 k2 h2=>q' _ _ k2 ?_⟩⟩;show CL H2 (cZ t hw<|sets.getD i []) _
  rw[e];exact⟨l2,rfl,h2⟩
end
theorem AM(h:bh sets.length d1=IV):dw t hw sets d1 d2 d3=none:=by
 unfold dw;rw[h]
theorem AN(h:bh sets.length d2=IV):dw t hw sets d1 d2 d3=none:=by
 unfold dw;rw[h];cases bh sets.length d1<;>rfl
theorem AO(h:∀z,d3≠.int z):dw t hw sets d1 d2 d3=none:=by
 unfold dw
 split
 ·rename_i z _ _;exact absurd rfl<|h z
 ·rfl
theorem AQ{t:Str}{hw:Jm}{z:Int}(h1:bh sets.length d1=B' i)(h2:bh sets.length d2=B' j):
  dw t hw sets d1 d2 (.int z)=if dM t hw (sets.getD i []) (sets.getD j []) z=IS then B' (dr (sets.getD i []) (sets.getD j []) z)else none:=by
 unfold dw;rw[h1,h2]
section
variable {P:Jc}{w:Jv}{K:IJ}{mg:Str->IQ IH}{base:JM}
theorem tz:aF ["sentence","hand","line","ahead","variable","first","second"] ["sentence","hand","line","ahead"] (ap rn):=eR
theorem yb(F:Fun K "join_set" "join_set" rn f fd)(T:qe mg)(P6:Fe P w K mg base 1 "is_number" sW)(P1:Fe P w K mg base 2 "is_place" jQ)
  (R4:Fe P w K mg base 1 "other_hand" n9) (QL:Fe P w K mg base 2 "variables_of" rc) (Uc:Fe P w K mg base 1 "stands_both_ways" xQ) (abp:Fe P w K mg base 1 "joined" pS):
  FnOk P w K mg base c6 3 f fd ["sentence","hand","line","ahead"] tf:=by
 have sc:=tz;refine F.okA tz λLY A outer s H vs Q E hr h=>?_;obtain⟨p,a,b,t,w,hw,x0,x1,x2,x3,d1,d2,d3,ys,sets,rfl,hp,h9,hb,ha,hs,h8,hok,r1,r2,r3,q'⟩:=h;have hu:=hr.units;have Lx:=hs.length;refine⟨_,(af (ar (i:=4) sc.nd rfl (Jl rfl)<|aE ax (pv 2) ah λ_ _=>rfl)
  (af (aP (PW.pt<|gh (bE<|bo<|ck P1 hr<|aa (aE ax (pv 2) ah λ_ _=>rfl)<|aa (au a_ rfl T.len Kc<|aa (pv 3) ae) ae)<|gh (bE<|bo<|ck P1 hr<|aa (aE ax (pv 2) ah λ_ _=>rfl)<|aa (au a_ rfl T.len Kc<|aa (pv 3) ae) ae)<|gn<|bE<|bo<|ck P6 hr<|aa (pv 4) ae) (ai<|aw bP) ay)
  (af (ar (i:=5) sc.nd rfl (Jl rfl)<|aE ax (pv 3) (aE ax (pv 2) ah λ_ _=>rfl) λ_ _=>rfl)
  (af (ar (i:=6) sc.nd rfl (Jl rfl)<|aE ax (pv 3) (aE ax (pv 2) ah λ_ _=>rfl) λ_ _=>rfl)
  (af (aP (PW.pt<|gh (aq cD (pv 4) (ck QL hr<|aa (pv 0)<|aa (ck R4 hr<|aa (pv 1) ae) ae)<|by with_unfolding_all rfl)<|gh (aq cD (pv 4) (pv 5)<|by with_unfolding_all rfl)<|gn<|aq cD (ci bB<|pv 4) (pv 6)<|by with_unfolding_all rfl) (ai<|aw bP) ay)
  (af (aP (bo<|ck Uc hr<|aa (pv 5)<|aa (pv 6)<|aa (pv 4) ae) (ai<|aw bP) ay)
  (ai<|aw<|ck abp hr<|aa (pv 5)<|aa (pv 6)<|aa (pv 4) ae))))))),?_⟩
 refine⟨_,rfl,.inr<|.inl ⟨b,_,3,x3,rfl,rfl,SqT.of hb,rfl,?_⟩⟩;refine⟨_,rfl,.inr<|.inl ⟨b,_,1,x1,rfl,rfl,SqT.of hb,rfl,_,rfl,.ref a,_,rfl,.inl ⟨_,SqL.of ha,rfl⟩,x1,d1,ys.length,rfl,r1,_,rfl,?_⟩⟩;rw[<-Lx];cases g1':bh sets.length d1 with
 |none=>
  rw[AM g1']at q';exact aT<|aT<|q' _ _ (Same.refl _) rfl
 |some i=>
 refine aO ⟨_,rfl,.inr<|.inl ⟨b,_,2,x2,rfl,rfl,SqT.of hb,rfl,_,rfl,.ref a,_,rfl,.inl ⟨_,SqL.of ha,rfl⟩,x2,d2,ys.length,rfl,r2,_,rfl,?_⟩⟩;rw[<-Lx];cases g2':bh sets.length d2 with
 |none=>
  rw[AN g2']at q';exact aT<|aT<|q' _ _ (Same.refl _) rfl
 |some j=>
 refine aO ⟨_,rfl,x3,d3,rfl,r3,_,rfl,?_⟩;obtain⟨z,rfl⟩|hn:=nI d3
 rotate_left
 ·rw[nH hn,AO hn]at*;exact aT<|q' _ _ (Same.refl _) rfl
 obtain rfl:=aX r3;rw[AQ g1' g2']at q';obtain⟨hi,rfl⟩:=bZ g1';obtain⟨hj,rfl⟩:=bZ g2';obtain rfl:=aX r1;obtain rfl:=aX r2;obtain⟨y1,hy1⟩:∃x,ys[i]? =B' x:=⟨_,IZ (by lia)⟩;obtain⟨y2,hy2⟩:∃x,ys[j]? =B' x:=⟨_,IZ (by lia)⟩;obtain⟨fs,hf,l1,rfl,RH⟩:=hs.get hy1;obtain⟨ss,hss,l2,rfl,Xs⟩:=hs.get hy2;have ef:sets.getD i []=fs:=by rw[Jd,hf];rfl
 have es:sets.getD j []=ss:=by rw[Jd,hss];rfl
 rw[ef,es]at q';have of:=hok fs<|Ji hf;have os:=hok ss<|Ji hss;have cf:=cQ of;have cs:=cQ os;refine aO ?_;refine⟨_,rfl,_,rfl,.inr<|.inl ⟨b,_,1,.int (i:Int),rfl,rfl,SqT.of hb,rfl,.inl ⟨a,_,_,.ref l1,rfl,rfl,SqL.of ha,aW hy1,?_⟩⟩⟩;refine⟨_,rfl,_,rfl,.inr<|.inl ⟨b,_,2,.int (j:Int),rfl,rfl,SqT.of hb,rfl,.inl ⟨a,_,_,.ref l2,rfl,rfl,SqL.of ha,aW hy2,?_⟩⟩⟩;have q0:dM t hw fs ss z=IU->∀H',Same H H'->Q .non H':=λe H' k=>by
  rw[e]at q';exact q' _ _ k rfl
 refine⟨_,rfl,_,rfl,_,rfl,hw,rfl,p,t,w,!hw,rfl,hp,by lia,λl H1 k1 hl=>?_⟩;exists l,_,rfl,.inl<|SqL.of hl,rfl,cw _,_,rfl;show(if(!qd (.int z) ((dh t (!hw)).map V.int))=IS then _ else _)
 rw[cV];cases c1:(dh t (!hw)).contains z with
 |false=>exact aT<|aT<|q0 (by unfold dM;rw[c1];rfl) _ k1
 |true=>
 refine aO ⟨_,rfl,_,rfl,l1,_,rfl,.inr<|SqT.of<|k1 _ _ RH,rfl,cw _,_,rfl,?_⟩;show(if(!qd (.int z) (fs.map V.int))=IS then _ else _)
 rw[cV];cases c2:fs.contains z with
 |false=>exact aT<|aT<|q0 (by unfold dM;rw[c1,c2];rfl) _ k1
 |true=>
 refine aO ⟨_,rfl,_,rfl,_,rfl,l2,_,rfl,.inr<|SqT.of<|k1 _ _ Xs,rfl,cw _,_,rfl,?_⟩;show(if(!qd (.int (-z)) (ss.map V.int))=IS then _ else _)
 rw[cV];cases c3:ss.contains (-z)with
 |false=>exact aT<|q0 (by unfold dM;rw[c1,c2,c3];rfl) _ k1
 |true=>
 refine aO ⟨_,rfl,_,rfl,_,rfl,l1,l2,fs,ss,z,rfl,k1 _ _ RH,k1 _ _ Xs,by lia,by lia,λH2 k2=>⟨_,rfl,?_⟩⟩;cases c4:eJ fs ss z with
 |true=>exact aT<|q0 (by unfold dM;rw[c1,c2,c3,c4];rfl) _<|k1.trans k2
 |false=>
 have ej:dM t hw fs ss z=true:=by unfold dM;rw[c1,c2,c3,c4];rfl
 rw[ej]at q';refine aO ⟨_,rfl,_,rfl,_,rfl,l1,l2,fs,ss,z,rfl,k2 _ _<|k1 _ _ RH,k2 _ _<|k1 _ _ Xs,by lia,of.1,os.1,c4,λl3 r H3 k3 hj3 h3=>q' _ _ ((k1.trans k2).trans k3) ?_⟩;rw[hj3.eq of.1 os.1 c4]at h3;exact⟨l3,rfl,h3⟩
end
theorem f_(h:∀N,(∀σ' H',B D σ' H'->N σ' H')->A {D with nx:=N} σ H):vC A B D σ H:=h (λσ H=>B D σ H) λ_ _ z=>z
abbrev rp:KL:=eB 28
abbrev rq:KL:=eB 29
abbrev rA:KL:=eB 30
abbrev yc:KL:=eB 33
inductive yd (vs:IG V)(H:Hp)(Q:VK):Prop
 |mk (l tc:IL)(c kc:IG Int)(h0:vs=[.ref l,.ref tc])(h1:re H l c)(h2:re H tc kc)(h3:Q (.bl (c.any λz=>kc.contains z)) H):yd vs H Q
def tD:Sp:=λvs H Q _=>yd vs H Q
inductive B4 (H:Hp)(l tc:IL)(c kc:IG Int)(i:Nat)(σ:St)(H2:Hp):Prop
 |mk (v2:IQ V)(h0:σ=[B' (.ref l),B' (.ref tc),v2])(h1:H2=H)(h2:((c.take i).any λz=>kc.contains z)=IU):B4 H l tc c kc i σ H2
inductive ye (vs:IG V)(H:Hp)(Q:VK):Prop
 |mk (l q:IL)(c:IG Int)(xs:IG V)(cs:IG (IG Int))(h0:vs=[.ref l,.ref q])(h1:re H l c)(h2:c.length<=60)(h3:H q=B' (.lst xs))(h4:CLs H cs xs)(h5:cs.length<=900)(h6:∀H',Same H H'->Q (.bl<|kN c cs) H'):ye vs H Q
def tE:Sp:=λvs H Q _=>ye vs H Q
inductive yf (vs:IG V)(H:Hp)(Q:VK):Prop
 |mk (p q:IL)(t:Str)(v:V)(d:Jg)(xs:IG V)(cs:IG (IG Int))(h0:vs=[.ref p,v])(h1:H p=B' (.tup [.str t,.ref q]))(h2:t.length<=30)(h3:H q=B' (.lst xs))(h4:CLs H cs xs)(h5:cs.length<=900)(h6:RD H d v)(h7:∀v' H',Same H H'->RV H' (iJ t.length cs d) v'->Q v' H'):yf vs H Q
def tF:Sp:=λvs H Q _=>yf vs H Q
def eE(d:Jg):Prop:=∀ds,d=.tuple ds->Kn (ds.getD 0 .none)=IS
inductive B5 (vs:IG V)(H:Hp)(Q:VK):Prop
 |mk (p q a:IL)(t:Str)(hw:Jm)(v:V)(d:Jg)(xs ys:IG V)(cs sets:IG (IG Int))(h0:vs=[.ref p,.str<|aI hw,v,.ref a])(h1:H p=B' (.tup [.str t,.ref q]))(h2:t.length<=30)(h3:H q=B' (.lst xs))(h4:CLs H cs xs)(h5:cs.length<=900)(h6:H a=B' (.lst ys))(h7:CLs H sets ys)(h8:sets.length<=900)(h9:(∀c∈sets,aS t.length c))(ZZ:RD H d v)(h11:eE d)(h12:∀v' H',Same H H'->RV H' (aM t cs hw sets d) v'->Q v' H'):B5 vs H Q
def rB:Sp:=λvs H Q _=>B5 vs H Q
theorem gP(h:dC H ds xs)(hl:ds.length=4):∃d0 d1 d2 d3 x0 x1 x2 x3,ds=[d0,d1,d2,d3]/\xs=[x0,x1,x2,x3]/\RD H d0 x0/\RD H d1 x1/\RD H d2 x2/\RD H d3 x3:=by
 match ds,hl with
 |[d0,d1,d2,d3],_=>
  obtain⟨x0,r0,rfl,h0,k0⟩:=aL h;obtain⟨x1,r1,rfl,h1,k1⟩:=aL k0;obtain⟨x2,r2,rfl,h2,k2⟩:=aL k1;obtain⟨x3,r3,rfl,h3,k3⟩:=aL k2;obtain rfl:=bV k3;exact⟨_,_,_,_,x0,x1,x2,x3,rfl,rfl,h0,h1,h2,h3⟩
theorem D7:Kn (.str aV)=true:=Nice.shaped (bu 8<|by decide+kernel)
theorem rC:Kn (.str aC)=true:=Nice.shaped (bu 8<|by decide+kernel)
theorem D8:Kn (.str bp)=true:=Nice.shaped (bu 8<|by decide+kernel)
theorem AR:Kn (.str aR)=true:=Nice.shaped (bu 8<|by decide+kernel)
theorem AS{α:Type}(l:IG α)(f:α->Jm):((l.map λx=>V.bl<|f x).all wo)=IS/\(l.map λx=>V.bl<|f x).all iC=l.all f:=by
 refine⟨by rw[RF];exact Ly.mpr λ_ _=>rfl,?_⟩;rw[RF];rfl
def yg(H:Hp)(c:IG Int)(x:V):Jm:=match x with
 |.ref p=>match H p with
  |some (.tup zs)=>c.any λl=>zs.contains<|.int l
  |_=>IU
 |_=>IU
theorem yh(zs:IG Int)(l:Int):(zs.map V.int).contains (.int l)=zs.contains l:=by
 induction zs with
 |nil=>rfl
 |cons z r ih=>
  rw[J',Qg,Qg,ih]
  congr 1
  by_cases h:l=z
  ·rw[h];simp
  ·rw[Li.mpr h,Li.mpr λe=>h<|V.int.inj e]
theorem tG(h:CL H k x):yg H c x=c.any λl=>k.contains l:=by
 obtain⟨p,rfl,hp⟩:=h;unfold yg;simp only [hp];exact fV λl _=>yh k l
theorem pV:∀{cs:IG (IG Int)} {xs:IG V},CLs H cs xs->xs.all (yg H c)=kN c cs
 |_,_,.nil=>rfl
 |k::cs,x::xs,.cons h t=>by
  rw[Tc,tG h,pV t];rfl
section
variable {P:Jc}{w:Jv}{K:IJ}{mg:Str->IQ IH}{base:JM}
theorem tH:aF ["literals","clause","literal"] ["literals","clause"] (ap rp):=eR
theorem yi(F:Fun K "hits" "hits" rp f fd):FnOk P w K mg base c6 1 f fd ["literals","clause"] tD:=by
 have sc:=tH;refine F.okA tH λLY A outer s H vs Q E hr h=>?_;obtain⟨l,tc,c,kc,rfl,hl,Vu,q⟩:=h;refine⟨_,(af (cR Ky rfl (dO<|pv 0) (aA (i:=2) sc.nd rfl<|Jl rfl)
   (ai<|aP (aq lT (pv 2) (pv 1)<|by with_unfolding_all rfl) (ai<|aw eV) ay))
  (ai<|aw eV)),?_⟩
 refine⟨_,rfl,l,rfl,⟨_,SqT.of hl⟩,rQ (K:=K) (a:=l) (xs:=c.map V.int) (B4 H l tc c kc) ⟨IV,rfl,rfl,rfl⟩ ?_ ?_ ?_⟩
 ·rintro i σ H2 _ ⟨_,_,rfl,_⟩;exact SqT.of hl
 ·rintro i x σ H2 hx ⟨v2,rfl,rfl,ha⟩;obtain⟨z,rfl,hz⟩:=fg hx;have e:(if IU=IS then !qd (.int z) (kc.map V.int)else qd (.int z) (kc.map V.int))=kc.contains z:=by
   rw[JD Jz,cV]
  exists _,rfl,_,rfl,tc,_,rfl,.inr<|SqT.of Vu,rfl,cw kc,_,rfl;rw[e];cases g:kc.contains z with
  |true=>
   refine aT ?_;have e2:(c.any λz=>kc.contains z)=true:=Ms.mpr ⟨z,Ji hz,g⟩;rw[e2]at q;exact q
  |false=>
   refine aO ⟨_,rfl,rfl,?_⟩;rw[Kv,hz,List.any_append,ha];show(kc.contains z || IU)=IU
   rw[g];rfl
 ·rintro σ H2 ⟨v2,rfl,rfl,ha⟩;rw[Jy<|by rw[IR];exact IX _]at ha;rw[ha]at q;exact q
theorem tI:aF ["literals","clauses"] ["literals","clauses"] (ap rq):=eR
theorem yj(F:Fun K "hits_each" "hits_each" rq f fd)(T:qe mg)(aeb:Fe P w K mg base 1 "hits" tD):FnOk P w K mg base c6 2 f fd ["literals","clauses"] tE:=by
 have sc:=tI;refine F.okA tI λLY A outer s H vs Q E hr h=>?_;obtain⟨l,q,c,xs,cs,rfl,hl,hc,hq,hcs,h9,q'⟩:=h;have hu:=hr.units;have Lx:=hcs.length;exists _,(ai<|aw<|au (wq rfl) rfl T.all Yh<|aa (bH (NY:=["clause","literals"]) (idx:=[IV,B' 0]) rfl cS (b_<|pv 1) (λ_ _ _ _=>(aA (i:=0) (nD ["clause","literals"]) rfl<|Jl rfl)) (λ_ _ _ _=>c_) λ_ _ _ _=>(ck aeb hr<|aa (pv 1)<|aa (pv 0) ae)) ae);refine⟨_,rfl,q,rfl,⟨_,SqL.of hq⟩,λD hD=>?_⟩;refine fW [B'<|.ref l] (λ_=>IS) (λx=>.bl<|yg H c x) rfl hq hD (by lia) ?_ ?_ ?_
 ·intro x hx H' R k r;exact r
 ·intro x hx _ H' R k r;obtain⟨i,hi⟩:=Mn.mp hx;obtain⟨kc,_,SU⟩:=hcs.get hi;rw[tG SU]at r;obtain⟨tc,rfl,Vu⟩:=SU;exact⟨_,rfl,_,rfl,l,tc,c,kc,rfl,k _ _ hl,k _ _ Vu,r⟩
 ·have e1:(xs.filter λ_=>IS)=xs:=List.filter_eq_self.mpr λ_ _=>rfl;rw[e1];have e:=AS xs<|yg H c;exists D,_,rfl,SqL.of ad,e.1;rw[e.2,pV hcs];exact q' _<|ag hD _
theorem tJ:aF ["sentence","literals"] ["sentence","literals"] (ap rA):=eR
theorem yk(F:Fun K "hits_set" "hits_set" rA f fd)(T:qe mg)(abq:Fe P w K mg base 2 "is_set" BY)(Zc:Fe P w K mg base 2 "hits_each" tE):FnOk P w K mg base c6 3 f fd ["sentence","literals"] tF:=by
 have sc:=tJ;refine F.okA tJ λLY A outer s H vs Q E hr h=>?_;obtain⟨p,q,t,v,d,xs,cs,rfl,hp,ht,hq,hcs,h9,hd,q'⟩:=h;have hu:=hr.units;refine⟨_,(af (aP (PW.pt<|gh (bE<|bo<|ck abq hr<|aa (pv 1)<|aa (au a_ rfl T.len Kc<|aa (aE ax (pv 0) ah λ_ _=>rfl) ae) ae)<|gn<|bE<|bo<|ck Zc hr<|aa (pv 1)<|aa (aE ax (pv 0) ah λ_ _=>rfl) ae) (ai<|aw bP) ay)
  (ai<|aw<|pv 1)),?_⟩
 refine⟨_,rfl,_,rfl,.inr<|.inl ⟨p,_,0,.str t,rfl,rfl,SqT.of hp,rfl,.str t,_,rfl,⟨KM (aD<|by lia),rfl⟩,v,d,_,rfl,hd,_,rfl,?_⟩⟩;unfold iJ at q';cases g:lJ (t.length:Int) d with
 |false=>
  rw[g]at q';exact aT<|aT<|q' _ _ (Same.refl _) rfl
 |true=>
 obtain⟨ed,ok⟩:=sI g;have SU:CL H (jx d) v:=CL.of (by rw[<-ed];exact hd);obtain⟨l,rfl,hl⟩:=SU;have Lx:=cQ ok;refine aO ⟨_,rfl,_,rfl,.inr<|.inl ⟨p,_,1,.ref q,rfl,rfl,SqT.of hp,rfl,l,q,jx d,xs,cs,rfl,hl,by lia,hq,hcs,h9,λH1 k1=>⟨_,rfl,?_⟩⟩⟩;rw[g,Xm]at q';cases g2:kN (jx d) cs with
 |false=>
  rw[g2]at q';exact aT<|q' _ _ k1 rfl
 |true=>
  rw[g2]at q';exact aO ⟨_,rfl,q' _ _ k1 ⟨l,rfl,k1 _ _ hl⟩⟩
theorem yl:aF ["sentence","hand","line","ahead"] ["sentence","hand","line","ahead"] (ap yc):=eR
theorem AT(F:Fun K "line_set" "line_set" yc f fd)(T:Hc mg)(PM:Fe P w K mg base 1 "begins_with" xU)(Zd:Fe P w K mg base 3 "given_set" sZ)
  (Z5:Fe P w K mg base 3 "hits_set" tF) (Z4:Fe P w K mg base 3 "join_set" tf) (Z6:Fe P w K mg base 4 "drop_set" s_):FnOk P w K mg base c6 5 f fd ["sentence","hand","line","ahead"] rB:=by
 have sc:=yl;refine F.okA yl λLY A outer s H vs Q E hr h=>?_;obtain⟨p,q,a,t,hw,v,d,xs,ys,cs,sets,rfl,hp,ht,hq,hcs,h9,ha,hs,h8,hok,hd,WI,q'⟩:=h;have hu:=hr.units;refine⟨_,(af (aP (PW.pt<|dA (aq (aQ hu) (pv 1) (bz rfl T.g_SPOILER)<|az _)<|cT<|bo<|ck PM hr<|aa (pv 2)<|aa aB<|aa ah ae) (ai<|aw<|ck Zd hr<|aa (pv 0)<|aa (aE ax (pv 2) ah λ_ _=>rfl) ae) ay)
  (af (aP (PW.pt<|dA (aq (aQ hu) (pv 1) (bz rfl T.g_WISHER)<|az _)<|cT<|bo<|ck PM hr<|aa (pv 2)<|aa aB<|aa ah ae) (ai<|aw<|ck Z5 hr<|aa (pv 0)<|aa (aE ax (pv 2) ah λ_ _=>rfl) ae) ay)
  (af (aP (bo<|ck PM hr<|aa (pv 2)<|aa aB<|aa ah ae) (ai<|aw<|ck Z4 hr<|aa (pv 0)<|aa (pv 1)<|aa (pv 2)<|aa (pv 3) ae) ay)
  (af (aP (bo<|ck PM hr<|aa (pv 2)<|aa aB<|aa ah ae) (ai<|aw<|ck Z6 hr<|aa (pv 0)<|aa (pv 1)<|aa (aE ax (pv 2) ah λ_ _=>rfl)<|aa (pv 3) ae) ay)
  (ai<|aw bP))))),?_⟩
 have ew:decide (V.str (aI hw)=V.str (IK "wisher"))=hw:=by
  have z:=gJ hw IS;have z2:aI IS=IK "wisher":=rfl;rw[z2]at z;rw[z];cases hw<;>rfl
 have es:decide (V.str (aI hw)=V.str (IK "spoiler"))=!hw:=by
  have z:=gJ hw IU;have z2:aI IU=IK "spoiler":=rfl;rw[z2]at z;rw[z];cases hw<;>rfl
 refine f_ λN hN=>?_;have hN':(!hw&&bK aR 2 d)=IU->N (L2.start ["sentence","hand","line","ahead"] [.ref p,.str<|aI hw,v,.ref a]) H:=λc1=>hN _ _ (by
  refine f_ λN2 hN2=>?_;have ad6:(hw&&bK bp 2 d)=IU->N2 (L2.start ["sentence","hand","line","ahead"] [.ref p,.str<|aI hw,v,.ref a]) H:=λc2=>hN2 _ _ (by
   have eL:aM t cs hw sets d=if bK aV 4 d=IS then dw t hw sets (gM d 1) (gM d 2) (gM d 3)else if bK aC 2 d=IS then gL t hw sets (gM d 1)else none:=by
    unfold aM;rw[c1,c2];rfl
   rw[eL]at q';exists _,rfl,v,d,aV,4,rfl,hd,by decide,D7,WI,_,rfl;cases c3:bK aV 4 d with
   |true=>
    rw[c3,JF rfl]at q';obtain⟨ds,rfl,hl⟩:=iK c3;obtain⟨b,zs,rfl,hb,hz⟩:=aK hd;obtain⟨d0,d1,d2,d3,x0,x1,x2,x3,rfl,rfl,r0,r1,r2,r3⟩:=gP hz hl;exact aT ⟨_,rfl,_,rfl,_,rfl,_,rfl,p,a,b,t,_,hw,x0,x1,x2,x3,d1,d2,d3,ys,sets,rfl,hp,ht,hb,ha,hs,h8,hok,r1,r2,r3,q'⟩
   |false=>
   rw[c3,JD Jz]at q';refine aO ⟨_,rfl,v,d,aC,2,rfl,hd,by decide,rC,WI,_,rfl,?_⟩;cases c4:bK aC 2 d with
   |true=>
    rw[c4,JF rfl]at q';obtain⟨ds,rfl,hl⟩:=iK c4;obtain⟨b,zs,rfl,hb,hz⟩:=aK hd;obtain⟨d0,d1,x0,x1,rfl,rfl,r0,r1⟩:=cH hz hl;exact aT ⟨_,rfl,_,rfl,_,rfl,.inr<|.inl ⟨b,_,1,x1,rfl,rfl,SqT.of hb,rfl,_,rfl,p,a,t,_,hw,x1,d1,ys,sets,rfl,hp,ht,ha,hs,h8,hok,r1,q'⟩⟩
   |false=>
    rw[c4,JD Jz]at q';exact aO<|q' _ _ (Same.refl _) rfl)
  refine⟨_,rfl,.inl ⟨rfl,_,rfl,?_⟩⟩;dsimp only;rw[ew];cases hw with
  |false=>exact aO<|aO<|ad6 rfl
  |true=>
  refine aT ⟨_,rfl,v,d,bp,2,rfl,hd,by decide,D8,WI,_,rfl,?_⟩;cases c2:bK bp 2 d with
  |false=>exact aO<|ad6 c2
  |true=>
   have eL:aM t cs IS sets d=iJ t.length cs (gM d 1):=by
    unfold aM;rw[c2];rfl
   rw[eL]at q';obtain⟨ds,rfl,hl⟩:=iK c2;obtain⟨b,zs,rfl,hb,hz⟩:=aK hd;obtain⟨d0,d1,x0,x1,rfl,rfl,r0,r1⟩:=cH hz hl;exact aT ⟨_,rfl,_,rfl,.inr<|.inl ⟨b,_,1,x1,rfl,rfl,SqT.of hb,rfl,p,q,t,x1,d1,xs,cs,rfl,hp,ht,hq,hcs,h9,r1,q'⟩⟩)
 refine⟨_,rfl,.inl ⟨rfl,_,rfl,?_⟩⟩;dsimp only;rw[es];cases hw with
 |true=>exact aO<|aO<|hN' rfl
 |false=>
 refine aT ⟨_,rfl,v,d,aR,2,rfl,hd,by decide,AR,WI,_,rfl,?_⟩;cases c1:bK aR 2 d with
 |false=>exact aO<|hN' c1
 |true=>
  have eL:aM t cs IU sets d=kO cs (gM d 1):=by
   unfold aM;rw[c1];rfl
  rw[eL]at q';obtain⟨ds,rfl,hl⟩:=iK c1;obtain⟨b,zs,rfl,hb,hz⟩:=aK hd;obtain⟨d0,d1,x0,x1,rfl,rfl,r0,r1⟩:=cH hz hl;exact aT ⟨_,rfl,_,rfl,.inr<|.inl ⟨b,_,1,x1,rfl,rfl,SqT.of hb,rfl,p,q,_,x1,d1,xs,cs,rfl,hp,hq,hcs,h9,r1,λv' hv=>q' _ _ (Same.refl _) hv⟩⟩
end
abbrev jR:KL:=eB 34
structure HY (mg:Str->IQ IH):Prop where
 enumerate:mg "enumerate"=IV
inductive tK (vs:IG V)(H:Hp)(Q:VK):Prop
 |mk (p q pp la:IL)(t:Str)(hw:Jm)(xs ls:IG V)(cs:IG (IG Int))(ds:IG Jg)(out:IG (IG Int))(h0:vs=[.ref p,.ref pp])(h1:H p=B' (.tup [.str t,.ref q]))(h2:t.length<=30)(h3:H q=B' (.lst xs))(h4:CLs H cs xs)(h5:cs.length<=900)(h6:(∀c∈cs,aS t.length c))(h7:H pp=B' (.tup [.str<|aI hw,.ref la]))(h8:H la=B' (.lst ls))(h9:dC H ds ls)(ZZ:ds.length<=900)(h11:(∀d∈ds,eE d))(h12:bq t cs hw [] ds=(out,IS))(h13:∀l ys H',Same H H'->H l=IV->H' l=B' (.lst ys)->CLs H' out ys->Q (.ref l) H'):tK vs H Q
def gQ:Sp:=λvs H Q _=>tK vs H Q
section
variable {P:Jc}{w:Jv}{K:IJ}{mg:Str->IQ IH}{base:JM}
theorem iM:aF ["sentence","paper","sets","place","line","literals"] ["sentence","paper"] (ap jR):=eR
inductive im (p:IL)(pp:IL)(sl:IL)(t:Str)(cs:IG (IG Int))(hw:Jm)(ds:IG Jg)(H:Hp)(i:Nat)(σ:IG (IQ V))(G:Hp):Prop
 |mk (x3:IQ V)(x4:IQ V)(x5:IQ V)(ys:IG V)(sets:IG (IG Int))(i0:σ=[B'<|.ref p,B'<|.ref pp,B'<|.ref sl,x3,x4,x5])(i1:G sl=B' (.lst ys))(i2:CLs G sets ys)(i3:bq t cs hw [] (ds.take i)=(sets,IS))(i4:Same H G):im p pp sl t cs hw ds H i σ G
theorem ve(F:Fun K "sets_of" "sets_of" jR f fd)(T:HY mg)(UY:Fe P w K mg base 5 "line_set" rB):FnOk P w K mg base c6 6 f fd ["sentence","paper"] gQ:=by
 have sc:=iM;refine F.okA iM λLY A outer s H vs Q E hr h=>?_;obtain⟨p,q,pp,la,t,hw,xs,ls,cs,ds,out,rfl,hp,ht,hq,hcs,h9,hcok,hpp,hla,hds,h8,WI,MT,q'⟩:=h;have hu:=hr.units;have Lx:=cq hds;refine⟨_,(af (ar (i:=2) sc.nd rfl (Jl rfl)<|aN ae)
  (af (cR Ky rfl (jJ rfl T.enumerate<|aE ax (pv 1) ah λ_ _=>rfl) (iV rfl<|aY (aA (i:=3) sc.nd rfl<|Jl rfl)<|aY (aA (i:=4) sc.nd rfl<|Jl rfl) dY)
   (af (ar (i:=5) sc.nd rfl (Jl rfl)<|ck UY hr<|aa (pv 0)<|aa (aE ax (pv 1) ah λ_ _=>rfl)<|aa (pv 4)<|aa (pv 2) ae)
   (af (aP (aq qk (pv 5) bP<|az _) (ai aU) ay)
   (ai<|cp<|d_ JY J3 J_ bM (pv 2)<|aa (pv 5) ae))))
  (ai<|aw<|pv 2))),?_⟩
 refine⟨Jw _,λsl VW=>?_⟩;have k1:=ag VW<|.lst [];refine⟨_,rfl,.inr<|.inl ⟨pp,_,1,.ref la,rfl,rfl,SqT.of<|k1 _ _ hpp,rfl,la,rfl,⟨_,SqL.of<|k1 _ _ hla⟩,?_⟩⟩;refine kj (K:=K) (a:=la) (xs:=ls) (im p pp sl t cs hw ds H)
  ⟨IV,IV,IV,[],[],rfl,ad,.nil,rfl,k1⟩ ?_ ?_ ?_
 ·rintro i σ G _ ⟨_,_,_,_,_,_,_,_,_,k⟩;exact SqL.of<|k _ _ hla
 ·rintro i x σ G t1 hx ⟨x3,x4,x5,ys,sets,rfl,g1,g2,g3,kG⟩ ht1;have Te:i < ls.length:=(IY.mp hx).1;have rx:=d9 hds hx;have hd:=getD_some (d:=MR) (show i < ds.length by lia);generalize ds.getD i .none=d at rx hd;have hdm:d∈ds:=Ji hd;have k2:Same G (upd G t1<|.tup [.int i,x]):=ag ht1 _;have kH:=kG.trans k2;have hct:=bY g3;rw[JN,Lg]at hct;have hso:∀c∈sets,aS t.length c:=by
   have:=nO (hw:=hw) hcok (ds:=ds.take i) (sets:=[]) λ_ h=>nomatch h;rw[g3]at this;exact this
  exists t1,_,rfl,SqT.of ad,rfl,_,_,rfl,_,_,rfl,rfl;refine⟨_,rfl,_,rfl,.inr<|.inl ⟨pp,_,0,.str<|aI hw,rfl,rfl,SqT.of<|kH _ _ hpp,rfl,_,rfl,_,rfl,p,q,sl,t,hw,x,d,xs,ys,cs,sets,rfl,kH _ _ hp,ht,kH _ _ hq,hcs.mono kH,h9,k2 _ _ g1,g2.mono k2,by lia,hso,nz kH _ _ rx,WI d hdm,λv' H3 k3 hv=>?_⟩⟩;cases hl:aM t cs hw sets d with
  |none=>
   rw[nP g3 hd hl]at MT;cases MT
  |some c=>
   rw[hl]at hv;obtain⟨tc,rfl,Vu⟩:=hv;have kH3:=kH.trans k3;have g4:=k3 _ _<|k2 _ _ g1;refine⟨_,rfl,rfl,_,rfl,aO ?_⟩;exists _,rfl,.inl ⟨rfl,_,SqL.of g4⟩,_,rfl,sl,_,_,rfl,rfl,g4,(by rw[<-g2.length];exact aD<|by lia);refine⟨_,_,_,ys++[.ref tc],sets++[c],rfl,ad,CLs.snoc (CL.upd ⟨tc,rfl,Vu⟩ g4)<|(g2.mono<|k2.trans k3).upd g4,run_next g3 hd hl,λb o e=>?_⟩;rw[ao<|aj e VW];exact kH3 _ _ e
 ·rintro σ G ⟨x3,x4,x5,ys,sets,rfl,g1,g2,g3,kG⟩;rw[Jy (by lia),MT]at g3;cases g3;exact⟨_,rfl,q' _ _ _ kG VW g1 g2⟩
end
abbrev ym:KL:=zE (eB 4) 0
structure B6 (K:IJ)(mg:Str->IQ IH)(CB CD:IL):Prop where
 g_DuelError:eI mg "DuelError" (.ref CD)
 up:xn K CD
 cls:∃cd,L_ K CB=B' cd
 mv:JL K CB (.type "ValueError")=B' IS
 put:nW K CB "place"
inductive B7 (CB:IL)(vs:IG V)(H:Hp)(Q:VK):Prop
 |mk (ea:IL)(z:Nat)(h0:vs=[.ref ea,.int (z:Int)])(h1:z<=900)(h2:H ea=B' (gk ea CB IV))(h3:∀d,H d=IV->Q .non (upd (upd H ea<|gk ea CB<|B' d) d<|.xd [("place",.int (z:Int))])):B7 CB vs H Q
def yn(CB:IL):Sp:=λvs H Q _=>B7 CB vs H Q
theorem vf{z:Nat}(h:z<=900):((z:Int)).natAbs.log2 < 1920:=by
 show z.log2 < 1920
 have:=Nat.log2_le_self z;lia
section
variable {P:Jc}{w:Jv}{K:IJ}{mg:Str->IQ IH}{base:JM}{CB CD:IL}
theorem yo:aF ["self","place"] ["self","place"] (ap ym):=eR
theorem AU(F:Fun K "__init__" "BadLine.__init__" ym f fd)(T:B6 K mg CB CD):FnOk P w K mg base c6 1 f fd ["self","place"] (yn CB):=by
 have sc:=yo;refine F.okA yo λLY A outer s H vs Q E hr h=>?_;obtain⟨ea,z,rfl,hz,V5,q⟩:=h;refine⟨_,(af (cp<|xp T.up (bz rfl T.g_DuelError)<|aa (pv 0)<|aa (Ar<|pv 1) ae)
  (ai<|As (pv 0) (pv 1) rfl)),?_⟩
 refine⟨rfl,_,rfl,_,rfl,_,rfl,vf hz,λy=>⟨ea,CB,IV,_,rfl,V5,T.cls,T.mv,?_⟩⟩;exact⟨_,rfl,_,rfl,ea,CB,rfl,V5,T.put,λd hd=>q d hd⟩
end
inductive yp (CB:IL)(vs:IG V)(H:Hp)(E:XK):Prop
 |mk (p q pp la:IL)(t:Str)(hw:Jm)(xs ls:IG V)(cs:IG (IG Int))(ds:IG Jg)(out:IG (IG Int))(h0:vs=[.ref p,.ref pp])(h1:H p=B' (.tup [.str t,.ref q]))(h2:t.length<=30)(h3:H q=B' (.lst xs))(h4:CLs H cs xs)(h5:cs.length<=900)(h6:(∀c∈cs,aS t.length c))(h7:H pp=B' (.tup [.str<|aI hw,.ref la]))(h8:H la=B' (.lst ls))(h9:dC H ds ls)(ZZ:ds.length<=900)(h11:(∀d∈ds,eE d))(h12:bq t cs hw [] ds=(out,IU))(h13:∀d H',Same H H'->H' d=B' (.xd [("place",.int (out.length:Int))])->E (.ref CB) (B' d) H'):yp CB vs H E
def cJ(CB:IL):Sp:=λvs H _ E=>yp CB vs H E
section
variable {P:Jc}{w:Jv}{K:IJ}{mg:Str->IQ IH}{base:JM}{CB:IL}
theorem yq(F:Fun K "sets_of" "sets_of" jR f fd)(T:HY mg)(aaM:HW P w K mg base 1 "BadLine" CB g2 e2 ["self","place"] (yn CB))(UY:Fe P w K mg base 5 "line_set" rB):FnOk P w K mg base (iq P w) 6 f fd ["sentence","paper"] (cJ CB):=by
 have sc:=iM;refine F.okD iM (λvs H Q E h=>?_) λLY A outer s H vs Q E hr h=>?_
 ·obtain⟨p,q,pp,la,t,hw,xs,ls,cs,ds,out,rfl,_⟩:=h;rfl
 obtain⟨p,q,pp,la,t,hw,xs,ls,cs,ds,out,rfl,hp,ht,hq,hcs,h9,hcok,hpp,hla,hds,h8,WI,MT,q'⟩:=h;have hu:=hr.units;have Lx:=cq hds;refine⟨_,(af (ar (i:=2) sc.nd rfl (Jl rfl)<|aN ae)
  (af (cR ZG rfl (jJ rfl T.enumerate<|aE ax (pv 1) ah λ_ _=>rfl) (iV rfl<|aY (aA (i:=3) sc.nd rfl<|Jl rfl)<|aY (aA (i:=4) sc.nd rfl<|Jl rfl) dY)
   (af (ar (i:=5) sc.nd rfl (Jl rfl)<|ck UY hr<|aa (pv 0)<|aa (aE ax (pv 1) ah λ_ _=>rfl)<|aa (pv 4)<|aa (pv 2) ae)
   (af (aP (aq qk (pv 5) bP<|az _) (ai<|u0 aaM hr (by lia) rfl<|aa (pv 3) ae) ay)
   (ai<|cp<|d_ JY J3 J_ bM (pv 2)<|aa (pv 5) ae))))
  (ai<|aw<|pv 2))),?_⟩
 refine⟨Jw _,λsl VW=>?_⟩;have k1:=ag VW<|.lst [];refine⟨_,rfl,.inr<|.inl ⟨pp,_,1,.ref la,rfl,rfl,SqT.of<|k1 _ _ hpp,rfl,la,rfl,⟨_,SqL.of<|k1 _ _ hla⟩,?_⟩⟩;refine kj (K:=K) (a:=la) (xs:=ls) (im p pp sl t cs hw ds H)
  ⟨IV,IV,IV,[],[],rfl,ad,.nil,rfl,k1⟩ ?_ ?_ ?_
 ·rintro i σ G _ ⟨_,_,_,_,_,_,_,_,_,k⟩;exact SqL.of<|k _ _ hla
 ·rintro i x σ G t1 hx ⟨x3,x4,x5,ys,sets,rfl,g1,g2,g3,kG⟩ ht1;have Te:i < ls.length:=(IY.mp hx).1;have rx:=d9 hds hx;have hd:=getD_some (d:=MR) (show i < ds.length by lia);generalize ds.getD i .none=d at rx hd;have hdm:d∈ds:=Ji hd;have k2:Same G (upd G t1<|.tup [.int i,x]):=ag ht1 _;have kH:=kG.trans k2;have hct:=bY g3;rw[JN,Lg]at hct;have hso:∀c∈sets,aS t.length c:=by
   have:=nO (hw:=hw) hcok (ds:=ds.take i) (sets:=[]) λ_ h=>nomatch h;rw[g3]at this;exact this
  exists t1,_,rfl,SqT.of ad,rfl,_,_,rfl,_,_,rfl,rfl;refine⟨_,rfl,_,rfl,.inr<|.inl ⟨pp,_,0,.str<|aI hw,rfl,rfl,SqT.of<|kH _ _ hpp,rfl,_,rfl,_,rfl,p,q,sl,t,hw,x,d,xs,ys,cs,sets,rfl,kH _ _ hp,ht,kH _ _ hq,hcs.mono kH,h9,k2 _ _ g1,g2.mono k2,by lia,hso,nz kH _ _ rx,WI d hdm,λv' H3 k3 hv=>?_⟩⟩;cases hl:aM t cs hw sets d with
  |none=>
   rw[hl]at hv;have hb:=nP g3 hd hl;rw[MT]at hb;cases hb;obtain rfl:v'=.non:=hv;have kH3:=kH.trans k3;have hi:out.length=i:=by lia
   refine⟨_,rfl,rfl,_,rfl,aT ?_⟩;refine⟨_,rfl,(by show 1<=sizeLine;decide),λea V5=>⟨ea,i,rfl,by lia,ad,λdx Zy=>⟨rfl,B' dx,?_,q' dx _ (λb o e=>?_) ?_⟩⟩⟩
   ·rw[ao (λz=>by rw[<-z,ad]at Zy;cases Zy),ad]
   ·have e3:=kH3 _ _ e;have n1:b≠ea:=aj e3 V5;have n2:b≠dx:=λz=>by rw[<-z,ao n1,e3]at Zy;cases Zy
    rw[fY n1,ao n2,ao n1,ao n1];exact e3
   ·have n1:dx≠ea:=λz=>by rw[z,ad]at Zy;cases Zy
    rw[fY n1,ad,hi]
  |some c=>
   rw[hl]at hv;obtain⟨tc,rfl,Vu⟩:=hv;have kH3:=kH.trans k3;have g4:=k3 _ _<|k2 _ _ g1;refine⟨_,rfl,rfl,_,rfl,aO ?_⟩;exists _,rfl,.inl ⟨rfl,_,SqL.of g4⟩,_,rfl,sl,_,_,rfl,rfl,g4,(by rw[<-g2.length];exact aD<|by lia);refine⟨_,_,_,ys++[.ref tc],sets++[c],rfl,ad,CLs.snoc (CL.upd ⟨tc,rfl,Vu⟩ g4)<|(g2.mono<|k2.trans k3).upd g4,run_next g3 hd hl,λb o e=>?_⟩;rw[ao<|aj e VW];exact kH3 _ _ e
 ·rintro σ G ⟨x3,x4,x5,ys,sets,rfl,g1,g2,g3,kG⟩;rw[Jy (by lia),MT]at g3;cases g3
end
abbrev D9:KL:=eB 35
def fK(out:IG (IG Int)):Jm:=match out.getLast? with
 |some c=>decide (c=[])
 |none=>IU
inductive Gf (vs:IG V)(H:Hp)(Q:VK):Prop
 |mk (l:IL)(ys:IG V)(out:IG (IG Int))(h0:vs=[.ref l])(h1:H l=B' (.lst ys))(h2:CLs H out ys)(h3:out.length<=900)(h4:∀H',Same H H'->Q (.bl<|fK out) H'):Gf vs H Q
def yr:Sp:=λvs H Q _=>Gf vs H Q
theorem yt(ys:IG V):dz ys (B' (-1)) IV=ys.drop (ys.length - 1):=by
 unfold dz;have e1:HT.sIx ys.length 0 (B' (-1))=ys.length - 1:=by
  unfold HT.sIx;simp;lia
 have e2:HT.sIx ys.length ys.length IV=ys.length:=rfl;rw[e1,e2];exact Jy (by rw[MV];lia)
theorem vg(out:IG (IG Int)):out.drop (out.length - 1)=match out.getLast? with|some c=>[c]|none=>[]:=by
 obtain rfl|⟨i,c,rfl⟩:=List.eq_nil_or_concat out
 ·rfl
 ·rw[List.concat_eq_append,I_,JW,Nat.add_sub_cancel,SE];simp
theorem CLs.drop':∀{cs:IG (IG Int)} {xs:IG V} (n:Nat),CLs H cs xs->CLs H (cs.drop n) (xs.drop n)
 |_,_,0,h=>h
 |_,_,n+1,.nil=>.nil
 |_,_,n+1,.cons _ t=>CLs.drop' n t
theorem AV(out:IG (IG Int)):Kh (.list<|(out.drop<|out.length - 1).map fM) (.list [.tuple []])=fK out:=by
 rw[vg];unfold fK;cases out.getLast? with
 |none=>simp [Kh,KQ]
 |some c=>
  cases c with
  |nil=>simp [Kh,KQ,fM]
  |cons x r=>simp [Kh,KQ,fM]
section
variable {P:Jc}{w:Jv}{K:IJ}{mg:Str->IQ IH}{base:JM}
theorem B8:aF ["sets"] ["sets"] (ap D9):=eR
theorem D_(F:Fun K "end_empty" "end_empty" D9 f fd):FnOk P w K mg base c6 1 f fd ["sets"] yr:=by
 have sc:=B8;refine F.okA B8 λLY A outer s H vs Q E hr h=>?_;obtain⟨l,ys,out,rfl,hl,hs,h9,q⟩:=h;have hu:=hr.units;exists _,(ai<|aw<|dZ (aQ hu) (gv iw (pv 0) (eP<|ci bB ah) jG) (aN<|aa (aZ ae) ae)<|az _);refine⟨_,rfl,_,rfl,_,rfl,l,_,rfl,SqL.of hl,λp2 Vx=>?_⟩;have e:=yt ys;have k2:=ag Vx<|.lst<|dz ys (B' (-1)) IV;have r2:upd H p2 (.lst<|dz ys (B' (-1)) IV) p2=B' (.lst<|ys.drop<|ys.length - 1):=by rw[ad,e]
 generalize upd H p2 (.lst<|dz ys (B' (-1)) IV)=H2 at k2 r2;refine⟨(by show 0<=sizeLine;decide),λet het=>?_⟩;have k3:=ag het<|.tup [];have r3:upd H2 et (.tup []) et=B' (.tup []):=ad;generalize upd H2 et (.tup [])=H3 at k3 r3;refine⟨(by show 1<=sizeLine;decide),λel hel=>?_⟩;have k4:=ag hel<|.lst [.ref et];have r4:upd H3 el (.lst [.ref et]) el=B' (.lst [.ref et]):=ad;generalize upd H3 el (.lst [.ref et])=H4 at k4 r4;have hd:CLs H4 (out.drop<|out.length - 1) (ys.drop<|ys.length - 1):=by
  rw[hs.length];exact CLs.drop' _<|hs.mono<|k2.trans<|k3.trans k4
 refine .inr ⟨.list<|(out.drop<|out.length - 1).map fM,.list [.tuple []],bG ((k3.trans k4) _ _ r2) hd.rds,bG r4<|am (bj (k4 _ _ r3) aH) aH,(Nice.mono (g_<|wJ _)<|by decide).shaped,by decide+kernel,?_⟩;rw[AV];exact q _<|k2.trans<|k3.trans k4
end
abbrev yu:KL:=eB 36
structure Im (K:IJ)(mg:Str->IQ IH)(CW:IL):Prop where
 m_NotWhole:mg "NotWhole"=B' (.ref CW)
 x_NotWhole:LK K CW [.type "ValueError",.type "Exception",.type "BaseException",.type "object"] "ValueError.__new__"=IS
inductive Gg (vs:IG V)(H:Hp)(Q:VK):Prop
 |mk (p q pp la:IL)(t:Str)(hw:Jm)(xs ls:IG V)(cs:IG (IG Int))(ds:IG Jg)(out:IG (IG Int))(h0:vs=[.ref p,.ref pp])(h1:H p=B' (.tup [.str t,.ref q]))(h2:t.length<=30)(h3:H q=B' (.lst xs))(h4:CLs H cs xs)(h5:cs.length<=900)(h6:(∀c∈cs,aS t.length c))(h7:H pp=B' (.tup [.str<|aI hw,.ref la]))(h8:H la=B' (.lst ls))(h9:dC H ds ls)(ZZ:ds.length<=900)(h11:(∀d∈ds,eE d))(h12:bq t cs hw [] ds=(out,IS))(h14:fK out=IS)(h13:∀l ys H',Same H H'->H l=IV->H' l=B' (.lst ys)->CLs H' out ys->Q (.ref l) H'):Gg vs H Q
def yw:Sp:=λvs H Q _=>Gg vs H Q
inductive Gh (CW:IL)(vs:IG V)(H:Hp)(E:XK):Prop
 |mk (p q pp la:IL)(t:Str)(hw:Jm)(xs ls:IG V)(cs:IG (IG Int))(ds:IG Jg)(out:IG (IG Int))(h0:vs=[.ref p,.ref pp])(h1:H p=B' (.tup [.str t,.ref q]))(h2:t.length<=30)(h3:H q=B' (.lst xs))(h4:CLs H cs xs)(h5:cs.length<=900)(h6:(∀c∈cs,aS t.length c))(h7:H pp=B' (.tup [.str<|aI hw,.ref la]))(h8:H la=B' (.lst ls))(h9:dC H ds ls)(ZZ:ds.length<=900)(h11:(∀d∈ds,eE d))(h12:bq t cs hw [] ds=(out,IS))(h14:fK out=IU)(h13:∀H',Same H H'->E (.ref CW) IV H'):Gh CW vs H E
def gR(CW:IL):Sp:=λvs H _ E=>Gh CW vs H E
section
variable {P:Jc}{w:Jv}{K:IJ}{mg:Str->IQ IH}{base:JM}{CB CW:IL}
theorem mJ:aF ["sentence","paper","sets"] ["sentence","paper"] (ap yu):=eR
theorem Ea(F:Fun K "whole_sets" "whole_sets" yu f fd)(NK:Fe P w K mg base 6 "sets_of" gQ)(Th:Fe P w K mg base 1 "end_empty" yr):FnOk P w K mg base c6 7 f fd ["sentence","paper"] yw:=by
 have sc:=mJ;refine F.okA mJ λLY A outer s H vs Q E hr h=>?_;obtain⟨p,q,pp,la,t,hw,xs,ls,cs,ds,out,rfl,hp,ht,hq,hcs,h9,hcok,hpp,hla,hds,h8,WI,MT,V4,q'⟩:=h;have hol:out.length=ds.length:=by
  have:=bY MT;simpa using this
 refine⟨_,(af (ar (i:=2) sc.nd rfl (Jl rfl)<|ck NK hr<|aa (pv 0)<|aa (pv 1) ae)
  (af (aP (bE<|bo<|ck Th hr<|aa (pv 2) ae) (ai aU) ay)
  (ai<|aw<|pv 2))),?_⟩
 refine⟨_,rfl,_,rfl,p,q,pp,la,t,hw,xs,ls,cs,ds,out,rfl,hp,ht,hq,hcs,h9,hcok,hpp,hla,hds,h8,WI,MT,λl ys H1 k1 hl RH ZO=>?_⟩;refine⟨_,rfl,l,ys,out,rfl,RH,ZO,by lia,λH2 k2=>⟨_,rfl,?_⟩⟩;rw[V4];exact aO ⟨_,rfl,q' l ys H2 (k1.trans k2) hl (k2 _ _ RH)<|ZO.mono k2⟩
theorem Eb(F:Fun K "whole_sets" "whole_sets" yu f fd)(NK:u6 P w K mg base 6 "sets_of" g1 e1 ["sentence","paper"] (cJ CB)):FnOk P w K mg base (iq P w) 7 f fd ["sentence","paper"] (cJ CB):=by
 have sc:=mJ;refine F.okD mJ (λvs H Q E h=>?_) λLY A outer s H vs Q E hr h=>?_
 ·obtain⟨p,q,pp,la,t,hw,xs,ls,cs,ds,out,rfl,_⟩:=h;rfl
 obtain⟨p,q,pp,la,t,hw,xs,ls,cs,ds,out,rfl,YR⟩:=h;refine⟨_,(af (ar (i:=2) sc.nd rfl (Jl rfl)<|nY NK hr (by lia) rfl<|aa (pv 0)<|aa (pv 1) ae)
  (af aU
  (ai aU))),?_⟩
 exact⟨_,rfl,_,rfl,p,q,pp,la,t,hw,xs,ls,cs,ds,out,rfl,by assumption,by assumption,by assumption,by assumption,by assumption,by assumption,by assumption,by assumption,by assumption,by assumption,by assumption,by assumption,by assumption⟩
theorem Ec(F:Fun K "whole_sets" "whole_sets" yu f fd)(T:Im K mg CW)(NK:Fe P w K mg base 6 "sets_of" gQ)(Th:Fe P w K mg base 1 "end_empty" yr):FnOk P w K mg base (jq P w) 7 f fd ["sentence","paper"] (gR CW):=by
 have sc:=mJ;refine F.oXA mJ λLY A outer s H vs Q E hr h=>?_;obtain⟨p,q,pp,la,t,hw,xs,ls,cs,ds,out,rfl,hp,ht,hq,hcs,h9,hcok,hpp,hla,hds,h8,WI,MT,V4,q'⟩:=h;have hol:out.length=ds.length:=by
  have:=bY MT;simpa using this
 refine⟨_,(af (ar (i:=2) sc.nd rfl (Jl rfl)<|ck NK hr<|aa (pv 0)<|aa (pv 1) ae)
  (af (aP (bE<|bo<|ck Th hr<|aa (pv 2) ae) (ai<|ph T.x_NotWhole Md T.m_NotWhole rfl<|aa aB ae) ay)
  (ai<|aw<|pv 2))),?_⟩
 refine⟨_,rfl,_,rfl,p,q,pp,la,t,hw,xs,ls,cs,ds,out,rfl,hp,ht,hq,hcs,h9,hcok,hpp,hla,hds,h8,WI,MT,λl ys H1 k1 hl RH ZO=>?_⟩;refine⟨_,rfl,l,ys,out,rfl,RH,ZO,by lia,λH2 k2=>⟨_,rfl,?_⟩⟩;rw[V4];exact aT ⟨(by show 1<=sizeLine;decide),q' H2<|k1.trans k2⟩
end
abbrev Ed:KL:=eB 53
abbrev yx:KL:=eB 54
abbrev rD:KL:=eB 56
inductive Gi (vs:IG V)(H:Hp)(Q:VK):Prop
 |mk (t:Str)(hw:Jm)(l:Int)(h0:vs=[.str t,.str<|aI hw,.int l])(h1:1<=absI l)(h2:absI l<=t.length)(h3:t.length<=900)(h4:Q (.bl<|fi t (absI l - 1).toNat == hw) H):Gi vs H Q
def pW:Sp:=λvs H Q _=>Gi vs H Q
def Hd(ns:IG Int):Prop:=∀a∈ns,∀b∈ns,absI a=absI b->a=b
inductive B9 (vs:IG V)(H:Hp)(Q:VK):Prop
 |mk (p:IL)(ns:IG Int)(h0:vs=[.ref p])(h1:H p=B' (.lst<|ns.map V.int))(h2:ns.length<=18)(h3:Hd ns)(h4:∀(l:IL) (r:IG Int) (H':Hp),Same H H'->re H' l r->Ups r->(∀x,x∈r↔x∈ns)->Q (.ref l) H'):B9 vs H Q
def lh:Sp:=λvs H Q _=>B9 vs H Q
inductive yy (vs:IG V)(H:Hp)(Q:VK):Prop
 |mk (q:IL)(t:Str)(hw:Jm)(c:IG Int)(h0:vs=[.str t,.str<|aI hw,.ref q])(h1:t.length<=30)(h2:re H q c)(h3:aS t.length c)(h4:∀(l:IL) (H':Hp),Same H H'->re H' l (cZ t hw c)->Q (.ref l) H'):yy vs H Q
def tL:Sp:=λvs H Q _=>yy vs H Q
theorem pX:∀a b:IG Int,KQ (a.map .int) (b.map .int)=decide (a=b)
 |[],[]=>by simp [KQ]
 |[],_::_=>by simp [KQ]
 |_::_,[]=>by simp [KQ]
 |x::a,y::b=>by
  rw[J',J',KQ,pX a b];have e:Kh (.int x) (.int y)=decide (x=y):=by
   rw[Kh];by_cases h:x=y<;>simp [h]
  rw[e];by_cases h:x=y<;>simp [h]
theorem jS(a b:IG Int):Kh (.list<|a.map .int) (.list<|b.map .int)=decide (a=b):=by
 rw[Kh];exact pX a b
theorem AX(h1:-B<=b)(h2:b<=B)(h3:-B<=y)(h4:y<=B)(h:Srt.lexKey B (a,b)<=Srt.lexKey B (x,y)):a<=x:=by
 unfold Srt.lexKey at h;dsimp only at h;have e:∀k,x+k=a->1<=k->False:=λk hk h1=>by
  have e1:a*(2*B+1)=x*(2*B+1)+k*(2*B+1):=by rw[<-hk,Vt]
  have e2:2*B+1<=k*(2*B+1):=by
   have:=Pa h1 (show 0<=2*B+1 by lia);rw[YM]at this;exact this
  lia
 obtain g|g:=Int.lt_or_le x a
 ·exact(e (a - x) (by lia)<|by lia).elim
 ·exact g
theorem mK:∀{a b:IG Int},a.Nodup->(∀x∈a,x∈b)->a.length<=b.length
 |[],_,_,_=>Jw _
 |x::a,b,h,g=>by
  obtain⟨h1,h2⟩:=LQ.mp h;have hx:=g x Jp;have:=mK (b:=b.erase x) h2 λy hy=>(SB (show y≠x from λe=>h1<|by rw[<-e];exact hy)).mpr<|g y<|Jk _ hy;rw[QV hx]at this;have:=RC hx;rw[JJ];lia
def Ee(ns:IG Int):Int:=(ns.map absI).foldl max 0
theorem tM(h:l∈ns):absI l<=Ee ns:=(hG (ns.map absI) 0).1.2 _<|MK h
theorem og{ns:IG Int}{B:Int}{ps:IG (Int×Int)}(hB:∀l∈ns,-B<=l/\l<=B)(hu:Hd ns)(nd:ps.Nodup)(hm:∀q,q∈ps↔q∈ns.map λl=>(absI l,l))(hs:(ps.map<|Srt.lexKey B).Pairwise (·<=·)):
  Ups (ps.map (·.2))/\(∀x,x∈ps.map (·.2)↔x∈ns):=by
 have hq:∀q∈ps,q.1=absI q.2/\q.2∈ns:=λq h=>by
  obtain⟨l,hl,rfl⟩:=J1.mp<|(hm q).mp h;exact⟨rfl,hl⟩
 have mem:∀x,x∈ps.map (·.2)↔x∈ns:=λx=>by
  constructor
  ·intro h;obtain⟨q,h1,rfl⟩:=J1.mp h;exact(hq q h1).2
  ·intro h;exact J1.mpr ⟨(absI x,x),(hm _).mpr<|J1.mpr ⟨x,h,rfl⟩,rfl⟩
 refine⟨qP ?_ ?_ ?_,mem⟩
 ·rw[KJ,Kw];rw[Kw]at hs;refine Om (λ{a b} ha hb h=>?_) hs;show absI a.2<=absI b.2
  rw[<-(hq a ha).1,<-(hq b hb).1];have ba:=hB _ (hq a ha).2;have bb:=hB _ (hq b hb).2;exact AX ba.1 ba.2 bb.1 bb.2 h
 ·rw[K_,Kw];refine Om (λ{a b} ha hb h e=>h ?_)<|K_.mp nd;exact Sw (by rw[(hq a ha).1,(hq b hb).1,e]) e
 ·intro a ha b hb e;exact hu a ((mem a).mp ha) b ((mem b).mp hb) e
section
variable {P:Jc}{w:Jv}{K:IJ}{mg:Str->IQ IH}{base:JM}
theorem B_:aF ["_law_turns","_law_hand","_law_literal"] ["_law_turns","_law_hand","_law_literal"] (ap Ed):=eR
theorem Ef(F:Fun K "_law_own" "_law_own" Ed f fd)(T:qe mg):FnOk P w K mg base c6 1 f fd ["_law_turns","_law_hand","_law_literal"] pW:=by
 have sc:=B_;refine F.okA B_ λLY A outer s H vs Q E hr h=>?_;obtain⟨t,hw,l,rfl,l1,l2,h9,q⟩:=h;have hu:=hr.units;exists _,(ai<|aw<|dZ (aQ hu) (dZ (aQ hu) (aE ax (pv 0) (aG eW (au bU rfl T.abs J5<|aa (pv 2) ae) ah) λ_ _=>rfl) aB<|az _) (dZ (aQ hu) (pv 1) aB<|az _)<|az _);have Te:(absI l - 1).toNat < t.cps.toList.length:=by
  rw[JE];show _ < t.length
  lia
 obtain⟨ch,WW⟩:∃ch,t.cps.toList[(absI l - 1).toNat]? =B' ch:=⟨_,IZ Te⟩;have ZX:p_ t.cps.toList (absI l - 1)=B' ch:=by
  have e:absI l - 1=(((absI l - 1).toNat:Nat):Int):=by lia
  rw[e];exact aW WW
 refine⟨_,rfl,_,rfl,l,rfl,_,_,rfl,rfl,.inr<|.inr ⟨t,_,_,rfl,rfl,KM (aD<|by lia),ZX,.inl ⟨rfl,_,rfl,.inl ⟨rfl,.inl ⟨rfl,?_⟩⟩⟩⟩⟩;rw[BN,<-wD WW,FM];have e:decide (V.bl (fi t (absI l - 1).toNat)=V.bl hw)=(fi t (absI l - 1).toNat == hw):=by
  cases fi t (absI l - 1).toNat<;>cases hw<;>rfl
 rw[e];exact q
theorem yz:aF ["_law_literals"] ["_law_literals"] (ap yx):=eR
theorem AY(F:Fun K "_law_set" "_law_set" yx f fd)(T:qe mg):FnOk P w K mg base c6 1 f fd ["_law_literals"] lh:=by
 have sc:=yz;refine F.okA yz λLY A outer s H vs Q E hr h=>?_;obtain⟨p,ns,rfl,hp,h18,hun,q⟩:=h;have hu:=hr.units;exists _,(ai<|aw<|bL cN rfl T.tuple Ko<|aa (bH (NY:=["_law_pair"]) (idx:=[IV]) rfl cS (b_<|xa hu rfl rfl T.sorted rfl T.set<|bH (NY:=["_law_literal"]) (idx:=[IV]) rfl cS (b_<|pv 0) (λ_ _ _ _=>(aA (i:=0) (nD ["_law_literal"]) rfl<|Jl rfl)) (λ_ _ _ _=>c_) λ_ _ _ _=>(aZ<|aa (au bU rfl T.abs J5<|aa (pv 0) ae)<|aa (pv 0) ae)) (λ_ _ _ _=>(aA (i:=0) (nD ["_law_pair"]) rfl<|Jl rfl)) (λ_ _ _ _=>c_) λ_ _ _ _=>(aE (iE (K:=K) rfl) (pv 0) ah λ_ _=>rfl)) ae);refine⟨_,rfl,p,rfl,⟨_,SqL.of hp⟩,λD hD=>?_⟩;refine dq (K:=K) (a:=p) (xs:=ns.map V.int) (λi σ ys H2=>(∃v0,σ=[v0])/\H2 D=B' (.lst ys)/\Same H H2/\Paired (PR H2) ((ns.take i).map λl=>(absI l,l)) ys) ⟨⟨IV,rfl⟩,ad,ag hD _,.nil⟩ ?_ ?_ ?_
 ·rintro i σ ys H2 _ ⟨_,h1,k,_⟩;exact⟨h1,SqL.of<|k _ _ hp⟩
 ·rintro i x σ ys H2 hx ⟨⟨v0,rfl⟩,h1,k,hps⟩;have Te:i < (ns.map V.int).length:=(IY.mp hx).1;rw[IR]at Te;obtain⟨z,rfl,hz⟩:=fg hx;have hyl:ys.length=i:=by
   rw[<-Paired.length hps,IR,JN];lia
  refine eu ⟨_,rfl,z,rfl,_,rfl,(by show 2<=sizeLine;decide),λtp ZN=>?_⟩;have k2:Same H2 (upd H2 tp<|.tup [.int (if z < 0 then -z else z),.int z]):=ag ZN _;have g1:=k2 _ _ h1;have g2:upd H2 tp (.tup [.int (if z < 0 then -z else z),.int z]) tp=B' (.tup [.int (if z < 0 then -z else z),.int z]):=ad;generalize upd H2 tp (.tup [.int (if z < 0 then -z else z),.int z])=H3 at k2 g1 g2;exists g1,(by rw[hyl];exact aD<|by lia),⟨_,rfl⟩,ad,(k.trans k2).upd_new hD _;have e:(ns.take<|i+1).map (λl=>(absI l,l))=(ns.take i).map (λl=>(absI l,l))++[(absI z,z)]:=by
   rw[Kv,hz,JO];rfl
  rw[e];have up:∀{qs:IG (Int×Int)} {vs:IG V},Paired (PR H3) qs vs->Paired (PR<|upd H3 D<|.lst<|ys++[.ref tp]) qs vs:=λhh=>Paired.mapP hh λq v ⟨t,et,ht⟩=>⟨t,et,by
   rw[ao λez=>by rw[ez,g1]at ht;cases ht];exact ht⟩
  exact Paired.snoc (up<|PR.mono k2 hps) (by
   exists tp,rfl;rw[ao λez=>by rw[ez,g1]at g2;cases g2];exact g2)
 ·rintro σ ys H2 ⟨_,h1,k,hps⟩;rw[IR,Jy<|IX _]at hps;refine⟨D,ys,ns.map λl=>(absI l,l),Ee ns,rfl,h1,hps,by rw[IR];exact h18,λq hq=>?_,λl ts ps hl nd hm hsrt hpt=>?_⟩
  ·obtain⟨z,hz,rfl⟩:=J1.mp hq;have:=tM hz;obtain⟨_,e⟩|⟨_,e⟩:=bC z<;>(constructor<;>(show(_:Int)<=_)<;>lia)
  have k2:=ag hl<|.lst ts;have g2:upd H2 l (.lst ts) l=B' (.lst ts):=ad;have aca:=PR.mono k2 hpt;generalize upd H2 l (.lst ts)=H3 at k2 g2 aca;obtain⟨s1,s2⟩:=og (B:=Ee ns) (λz hz=>by
   have:=tM hz;obtain⟨_,e⟩|⟨_,e⟩:=bC z<;>constructor<;>lia) hun nd hm hsrt
  have T_:=Paired.length aca;have ahG:ps.length<=18:=by
   have h1:(ps.map (·.2)).length<=ns.length:=mK s1.nodup λx hx=>(s2 x).mp hx;rw[IR]at h1;lia
  refine⟨l,rfl,⟨_,SqL.of g2⟩,λD2 XR=>?_⟩;refine dq (K:=K) (a:=l) (xs:=ts) (λi σ zs H4=>(∃v0,σ=[v0])/\zs=((ps.take i).map (·.2)).map V.int/\H4=upd H3 D2 (.lst zs)) ⟨⟨IV,rfl⟩,rfl,rfl⟩ ?_ ?_ ?_
  ·rintro i σ zs H4 _ ⟨_,_,rfl⟩;refine⟨ad,SqL.of ?_⟩;rw[ao<|aj g2 XR];exact g2
  ·rintro i x σ zs H4 hx ⟨⟨v0,rfl⟩,rfl,rfl⟩;have Te:i < ts.length:=(IY.mp hx).1;obtain⟨q,hq,tq,rfl,htq⟩:=ku aca hx;have afv:upd H3 D2 (.lst (((ps.take i).map (·.2)).map V.int)) tq=B' (.tup [.int q.1,.int q.2]):=by
    rw[ao<|aj htq XR];exact htq
   refine eu ⟨_,rfl,.inr<|.inl ⟨tq,_,1,.int q.2,rfl,rfl,SqT.of afv,rfl,ad,(by rw[IR,IR,JN];exact aD<|by lia),⟨_,rfl⟩,?_,fm⟩⟩;rw[Kv,hq,JO,JO];rfl
  ·rintro σ zs H4 ⟨_,rfl,rfl⟩;rw[Jy<|by lia];refine⟨D2,_,rfl,.inl ⟨SqL.of ad,λL3 hL3=>?_⟩⟩;exact q L3 _ _ (((k.trans k2).trans<|ag XR _).trans<|ag hL3 _) ad s1 s2
theorem tN:aF ["_law_turns","_law_hand","_law_literals","_law_last"] ["_law_turns","_law_hand","_law_literals"] (ap rD):=eR
theorem yA(F:Fun K "_law_rest" "_law_rest" rD f fd)(T:qe mg)(OE:Fe P w K mg base 1 "_law_own" pW):FnOk P w K mg base c6 2 f fd ["_law_turns","_law_hand","_law_literals"] tL:=by
 have sc:=tN;refine F.okA tN λLY A outer s H vs Q E hr h=>?_;obtain⟨q,t,hw,c,rfl,h9,hq,hok,q'⟩:=h;have hu:=hr.units;have SU:=cQ hok;refine⟨_,(af (ar (i:=3) sc.nd rfl (Ob rfl)<|au (uQ rfl) rfl T.max RZ<|aa (aG iW (aN<|aa ah ae)<|bH (NY:=["_law_literal","_law_turns","_law_hand"]) (idx:=[IV,B' 0,B' 1]) rfl cS (dO<|pv 2) (λ_ _ _ _=>(aA (i:=0) (nD ["_law_literal","_law_turns","_law_hand"]) rfl<|Jl rfl)) (λ_ _ _ _=>(cG<|bE<|bo<|ck OE hr<|aa (pv 1)<|aa (pv 2)<|aa (pv 0) ae)) λ_ _ _ _=>(au bU rfl T.abs J5<|aa (pv 0) ae)) ae)
  (ai<|aw<|bL cN rfl T.tuple Ko<|aa (bH (NY:=["_law_literal","_law_last"]) (idx:=[IV,B' 3]) rfl cS (dO<|pv 2) (λ_ _ _ _=>(aA (i:=0) (nD ["_law_literal","_law_last"]) rfl<|Jl rfl)) (λ_ _ _ _=>(cG<|aq jX (au bU rfl T.abs J5<|aa (pv 0) ae) (pv 1)<|az _)) λ_ _ _ _=>(pv 0)) ae)),?_⟩
 refine⟨(by show 1<=sizeLine;decide),λl0 hl0=>?_⟩;have k0:=ag hl0<|.lst [.int 0];have r0:upd H l0 (.lst [.int 0]) l0=B' (.lst [.int 0]):=ad;generalize upd H l0 (.lst [.int 0])=H0 at k0 r0;refine⟨_,rfl,q,rfl,⟨_,SqT.of<|k0 _ _ hq⟩,λD hD=>?_⟩;refine cu [B'<|.str t,B'<|.str<|aI hw] (oB λl=>!(fi t (absI l - 1).toNat == hw)) (EK λz=>.int<|absI z) rfl (k0 _ _ hq) hD (by rw[IR];lia) ?_ ?_ ?_
 ·intro x hx H' R k r;obtain⟨z,hz,rfl⟩:=cr hx;have:=hok.2 z hz;exact⟨_,rfl,_,rfl,_,rfl,t,hw,z,rfl,this.1,this.2,by lia,_,rfl,r⟩
 ·intro x hx _ H' R k r;obtain⟨z,_,rfl⟩:=cr hx;exact⟨_,rfl,z,rfl,r⟩
 have e:((c.map V.int).filter<|oB λl=>!(fi t (absI l - 1).toNat == hw)).map (EK λz=>.int<|absI z)=((c.filter λl=>!(fi t (absI l - 1).toNat == hw)).map absI).map V.int:=by
  rw[k_,KJ];rfl
 rw[e];have Zw:=Lk (λl=>!(fi t (absI l - 1).toNat == hw)) c;have hnn:∀a∈(c.filter λl=>!(fi t (absI l - 1).toNat == hw)).map absI,0<=a:=λa ha=>by
  obtain⟨z,_,rfl⟩:=J1.mp ha;exact sY z
 have el:gj t hw c=((c.filter λl=>!(fi t (absI l - 1).toNat == hw)).map absI).foldl max 0:=rfl;have hml:((c.filter λl=>!(fi t (absI l - 1).toNat == hw)).map absI).length<=30:=by
  rw[IR];lia
 generalize (c.filter λl=>!(fi t (absI l - 1).toNat == hw)).map absI=ms at hnn el hml;have k2:=ag hD<|.lst<|ms.map V.int;have r2:upd H0 D (.lst<|ms.map V.int) D=B' (.lst<|ms.map V.int):=ad;generalize upd H0 D (.lst<|ms.map V.int)=H2 at k2 r2;refine⟨l0,D,_,_,rfl,rfl,k2 _ _ r0,r2,(by rw[IR,JW];exact KM<|aD<|by lia),λp3 hp3=>?_⟩;have k3:=ag hp3<|.lst ([V.int 0]++ms.map V.int);have r3:upd H2 p3 (.lst ([V.int 0]++ms.map V.int)) p3=B' (.lst<|(0::ms).map V.int):=ad;generalize upd H2 p3 (.lst ([V.int 0]++ms.map V.int))=H3 at k3 r3;refine⟨p3,0::ms,rfl,SqL.of r3,(λz=>nomatch z),λM m1 m2=>?_⟩;have eM:gj t hw c=M:=by
  rw[el];refine xh hnn ?_ (λa ha=>m2 a<|Jk _ ha)<|m2 0 Jp;obtain z|z:=JC.mp m1
  ·exact .inr z
  ·exact .inl z
 rw[<-eM];have kk:=k0.trans<|k2.trans k3;refine⟨_,rfl,q,rfl,⟨_,SqT.of<|kk _ _ hq⟩,λD2 XR=>?_⟩;refine cu [B'<|.int<|gj t hw c] (oB λl=>decide (absI l<=gj t hw c)) (λx=>x) rfl (kk _ _ hq) XR (by rw[IR];lia) ?_ ?_ ?_
 ·intro x hx H' R k r;obtain⟨z,_,rfl⟩:=cr hx;exact⟨_,rfl,z,rfl,_,rfl,_,_,rfl,rfl,_,rfl,r⟩
 ·intro x hx _ H' R k r;exact⟨_,rfl,r⟩
 rw[bW c (λl=>decide (absI l<=gj t hw c)) _ λi=>rfl];refine⟨D2,_,rfl,.inl ⟨SqL.of ad,λL3 hL3=>?_⟩⟩;exact q' L3 _ ((kk.trans<|ag XR _).trans<|ag hL3 _) ad
end
def Eg(d:Jg):Prop:=∀ds,d=.tuple ds->ds.length<=900/\∀es,ds.getD 1 .none=.tuple es->es.length<=18
def bO(d:Jg):Prop:=(∃k:Int,d=.tuple [.str aR,.int k])\/(∃c:IG Int,c.length<=18/\d=.tuple [.str bp,fM c])\/(∃k:Int,d=.tuple [.str aC,.int k])\/(∃i j z:Int,d=.tuple [.str aV,.int i,.int j,.int z])
theorem gb(h:bO d):eE d/\Eg d:=by
 obtain⟨k,rfl⟩|⟨c,hc,rfl⟩|⟨k,rfl⟩|⟨i,j,z,rfl⟩:=h
 ·exact⟨λds e=>by cases e;exact AR,λds e=>by cases e;exact⟨by show 2<=900;decide,λes e=>by cases e⟩⟩
 ·exact⟨λds e=>by cases e;exact D8,λds e=>by
   cases e;refine⟨by show 2<=900;decide,λes e=>?_⟩;cases e;rw[IR];exact hc⟩
 ·exact⟨λds e=>by cases e;exact rC,λds e=>by cases e;exact⟨by show 2<=900;decide,λes e=>by cases e⟩⟩
 ·exact⟨λds e=>by cases e;exact D7,λds e=>by cases e;exact⟨by show 4<=900;decide,λes e=>by cases e⟩⟩
theorem je(h:bO d):Nice 3 d:=by
 obtain⟨k,rfl⟩|⟨c,hc,rfl⟩|⟨k,rfl⟩|⟨i,j,z,rfl⟩:=h
 ·exact bI (n:=2)<|aJ (bu 2<|by decide+kernel)<|aJ (bR _ _) bJ
 ·exact bI (n:=2)<|aJ (bu 2<|by decide+kernel)<|aJ (Nice.mono (bI (n:=1)<|ma 1 c)<|by decide) bJ
 ·exact bI (n:=2)<|aJ (bu 2<|by decide+kernel)<|aJ (bR _ _) bJ
 ·exact bI (n:=2)<|aJ (bu 2<|by decide+kernel)<|aJ (bR _ _)<|aJ (bR _ _)<|aJ (bR _ _) bJ
theorem oh(h:RD H (.str x) v):RD H' (.str x) v:=by rw[bf h];exact bQ x
theorem lm(h:RD H (.int x) v):RD H' (.int x) v:=by rw[aX h];exact bN x
theorem oj{H:Hp}{a q:IL}{zs ys:IG V}(h:H a=B' (.tup zs))(hq:H q=B' (.lst ys)):a≠q:=λe=>by
 rw[e,hq]at h;cases h
theorem yB(g:bO d)(h:RD H d v)(hq:H q=B' (.lst ys)):RD (upd H q o) d v:=by
 obtain⟨k,rfl⟩|⟨c,hc,rfl⟩|⟨k,rfl⟩|⟨i,j,z,rfl⟩:=g
 ·obtain⟨a,zs,rfl,ha,hz⟩:=aK h;obtain⟨d0,d1,x0,x1,e,rfl,r0,r1⟩:=cH hz rfl;cases e;exact bj (by rw[ao<|oj ha hq];exact ha)<|am (oh r0)<|am (lm r1) aH
 ·obtain⟨a,zs,rfl,ha,hz⟩:=aK h;obtain⟨d0,d1,x0,x1,e,rfl,r0,r1⟩:=cH hz rfl;cases e;exact bj (by rw[ao<|oj ha hq];exact ha)<|am (oh r0)<|am (CL.rd<|(CL.of r1).upd hq) aH
 ·obtain⟨a,zs,rfl,ha,hz⟩:=aK h;obtain⟨d0,d1,x0,x1,e,rfl,r0,r1⟩:=cH hz rfl;cases e;exact bj (by rw[ao<|oj ha hq];exact ha)<|am (oh r0)<|am (lm r1) aH
 ·obtain⟨a,zs,rfl,ha,hz⟩:=aK h;obtain⟨d0,d1,d2,d3,x0,x1,x2,x3,e,rfl,r0,r1,r2,r3⟩:=gP hz rfl;cases e;exact bj (by rw[ao<|oj ha hq];exact ha)<|am (oh r0)<|am (lm r1)<|am (lm r2)<|am (lm r3) aH
theorem ce(hq:H q=B' (.lst ys)):∀{ds:IG Jg} {vs:IG V},(∀d∈ds,bO d)->dC H ds vs->dC (upd H q o) ds vs
 |[],vs,_,h=>by
  rw[bV h];exact aH
 |d::ds,vs,g,h=>by
  obtain⟨y,ys',rfl,h1,h2⟩:=aL h;exact am (yB (g d Jp) h1 hq)<|ce hq (λe he=>g e<|Jk _ he) h2
abbrev yC:KL:=eB 38
def bF:Jg->IG Int
 |.tuple [.str w,.int i,.int j,.int _]=>if w=aV then [i,j]else []
 |.tuple [.str w,.int k]=>if w=aC then [k]else []
 |_=>[]
theorem gS(k:Int):bF (.tuple [.str aR,.int k])=[]:=by
 show(if aR=aC then [k]else [])=[]
 rw[JD<|by decide+kernel]
theorem dW(k:Int):bF (.tuple [.str aC,.int k])=[k]:=by
 show(if aC=aC then [k]else [])=[k]
 rw[JF rfl]
theorem dX(i j z:Int):bF (.tuple [.str aV,.int i,.int j,.int z])=[i,j]:=by
 show(if aV=aV then [i,j]else [])=[i,j]
 rw[JF rfl]
inductive Gj (vs:IG V)(H:Hp)(Q:VK):Prop
 |mk (v:V)(d:Jg)(h0:vs=[v])(hd:RD H d v)(hg:bO d)(q:∀l H',Same H H'->H l=IV->H' l=B' (.lst<|(bF d).map V.int)->Q (.ref l) H'):Gj vs H Q
def Ca:Sp:=λvs H Q _=>Gj vs H Q
section
variable {P:Jc}{w:Jv}{K:IJ}{mg:Str->IQ IH}{base:JM}
theorem yE:aF ["line"] ["line"] (ap yC):=eR
theorem AZ(F:Fun K "named_by" "named_by" yC f fd):FnOk P w K mg base c6 1 f fd ["line"] Ca:=by
 have sc:=yE;refine F.okA yE λLY A outer s H vs Q E hr h=>?_;obtain⟨v,d,rfl,hd,hg,q⟩:=h;have hu:=hr.units;refine⟨_,(af (aP (aq (aQ hu) (aE ax (pv 0) ah λ_ _=>rfl) aB<|az _) (ai<|aw<|aN<|aa (aE ax (pv 0) ah λ_ _=>rfl)<|aa (aE ax (pv 0) ah λ_ _=>rfl) ae) ay)
  (af (aP (aq (aQ hu) (aE ax (pv 0) ah λ_ _=>rfl) aB<|az _) (ai<|aw<|aN<|aa (aE ax (pv 0) ah λ_ _=>rfl) ae) ay)
  (ai<|aw<|aN ae))),?_⟩
 obtain⟨k,rfl⟩|⟨c,hc,rfl⟩|⟨k,rfl⟩|⟨i,j,z,rfl⟩:=hg
 ·obtain⟨a,zs,rfl,ha,hz⟩:=aK hd;obtain⟨d0,d1,x0,x1,e,rfl,r0,r1⟩:=cH hz rfl;cases e;obtain rfl:=bf r0;refine⟨_,rfl,.inr<|.inl ⟨a,_,0,.str aR,rfl,rfl,SqT.of ha,rfl,.inl ⟨rfl,_,rfl,?_⟩⟩⟩;rw[IW (show¬V.str aR=V.str (IK "join") by decide+kernel)];refine aO ⟨_,rfl,.inr<|.inl ⟨a,_,0,.str aR,rfl,rfl,SqT.of ha,rfl,.inl ⟨rfl,_,rfl,?_⟩⟩⟩;rw[IW (show¬V.str aR=V.str (IK "drop") by decide+kernel)];refine aO ⟨Jw _,λl nl=>q l _ (ag nl _) nl ?_⟩;rw[gS];exact ad
 ·obtain⟨a,zs,rfl,ha,hz⟩:=aK hd;obtain⟨d0,d1,x0,x1,e,rfl,r0,r1⟩:=cH hz rfl;cases e;obtain rfl:=bf r0;refine⟨_,rfl,.inr<|.inl ⟨a,_,0,.str bp,rfl,rfl,SqT.of ha,rfl,.inl ⟨rfl,_,rfl,?_⟩⟩⟩;rw[IW (show¬V.str bp=V.str (IK "join") by decide+kernel)];refine aO ⟨_,rfl,.inr<|.inl ⟨a,_,0,.str bp,rfl,rfl,SqT.of ha,rfl,.inl ⟨rfl,_,rfl,?_⟩⟩⟩;rw[IW (show¬V.str bp=V.str (IK "drop") by decide+kernel)];exact aO ⟨Jw _,λl nl=>q l _ (ag nl _) nl ad⟩
 ·obtain⟨a,zs,rfl,ha,hz⟩:=aK hd;obtain⟨d0,d1,x0,x1,e,rfl,r0,r1⟩:=cH hz rfl;cases e;obtain rfl:=bf r0;obtain rfl:=aX r1;refine⟨_,rfl,.inr<|.inl ⟨a,_,0,.str aC,rfl,rfl,SqT.of ha,rfl,.inl ⟨rfl,_,rfl,?_⟩⟩⟩;rw[IW (show¬V.str aC=V.str (IK "join") by decide+kernel)];refine aO ⟨_,rfl,.inr<|.inl ⟨a,_,0,.str aC,rfl,rfl,SqT.of ha,rfl,.inl ⟨rfl,_,rfl,?_⟩⟩⟩;rw[Jj (show V.str aC=V.str (IK "drop")from rfl)];refine aT ⟨_,rfl,.inr<|.inl ⟨a,_,1,.int k,rfl,rfl,SqT.of ha,rfl,(by show 1<=sizeLine;decide),λl nl=>q l _ (ag nl _) nl ?_⟩⟩;rw[dW];exact ad
 ·obtain⟨a,zs,rfl,ha,hz⟩:=aK hd;obtain⟨d0,d1,d2,d3,x0,x1,x2,x3,e,rfl,r0,r1,r2,r3⟩:=gP hz rfl;cases e;obtain rfl:=bf r0;obtain rfl:=aX r1;obtain rfl:=aX r2;refine⟨_,rfl,.inr<|.inl ⟨a,_,0,.str aV,rfl,rfl,SqT.of ha,rfl,.inl ⟨rfl,_,rfl,?_⟩⟩⟩;rw[Jj (show V.str aV=V.str (IK "join")from rfl)];refine aT ⟨_,rfl,.inr<|.inl ⟨a,_,1,.int i,rfl,rfl,SqT.of ha,rfl,_,rfl,.inr<|.inl ⟨a,_,2,.int j,rfl,rfl,SqT.of ha,rfl,(by show 2<=sizeLine;decide),λl nl=>q l _ (ag nl _) nl ?_⟩⟩⟩;rw[dX];exact ad
end
abbrev A0:KL:=eB 40
structure Gk (mg:Str->IQ IH):Prop where
 range:mg "range"=IV
 sorted:mg "sorted"=IV
def gc(M7:IG Int)(k:Int):IG Int:=if k∈M7 then M7 else M7++[k]
def cm(nm:Nat->IG Int)(last:Nat):Nat->IG Int
 |0=>[(last:Int)]
 |j+1=>if((last - j:Nat):Int)∈cm nm last j then(nm<|last - j).foldl gc (cm nm last j)else cm nm last j
theorem yF(M7:IG Int)(k:Int):(gc M7 k).length<=M7.length+1:=by
 unfold gc
 split
 ·exact NW _
 ·rw[I_];exact IX _
theorem jf:∀(ks M7:IG Int),(ks.foldl gc M7).length<=M7.length+ks.length
 |[],M7=>IX _
 |k::ks,M7=>by
  have h1:=jf ks<|gc M7 k;have h2:=yF M7 k;rw[NA,JJ];lia
theorem hW(h:∀i,(nm i).length<=2):∀j,(cm nm last j).length<=1+2*j
 |0=>IX _
 |j+1=>by
  have ih:=hW h (last:=last) j;have:=h<|last - j;have h2:=jf (nm<|last - j)<|cm nm last j;show(if _ then _ else _:IG Int).length<=_
  split<;>lia
theorem hZ(d:Jg):(bF d).length<=2:=by
 unfold bF
 split
 ·split
  ·exact IX _
  ·exact Jw _
 ·split
  ·exact(by decide:1<=2)
  ·exact Jw _
 ·exact Jw _
def dB(M7:IG Int):IG (bv×V):=M7.map λk=>((Ke k:bv),V.bl IS)
theorem yG:∀M7 k,(cn (dB M7) (Ke k:bv)).isSome=decide (k∈M7):=λM7 k=>by
 unfold dB cn
 induction M7 with
 |nil=>rfl
 |cons a M7 ih=>
  rw[J',LR];by_cases e:k=a
  ·subst e;simp
  ·have e1:decide ((Ke a:bv)=Ke k)=false:=IW λz=>e (NO z).symm;simp only [e1];rw[ih,Lw];simp [e]
theorem Eh(M7:IG Int)(k:Int):bX (dB M7) (Ke k:bv) (V.bl IS)=dB (gc M7 k):=by
 by_cases h:k∈M7
 ·unfold gc;rw[JF h];unfold bX;have e:((dB M7).any λkv=>decide (kv.1=(Ke k:bv)))=true:=by
   unfold dB;rw[P0,Ms];exact⟨k,h,by simp⟩
  rw[JF e];unfold dB;rw[KJ];refine List.map_congr_left λa _=>?_;simp only [Function.comp]
  split<;>rfl
 ·unfold gc;rw[JD h,j6]
  ·unfold dB;rw[JO];rfl
  ·have:=yG M7 k;rw[IW h]at this;cases q:cn (dB M7) (Ke k:bv)with
   |none=>rfl
   |some v=>rw[q]at this;cases this
theorem A4(M7:IG Int):(dB M7).map (·.1)=M7.map (Ke:Int->bv):=by
 unfold dB;rw[KJ];rfl
inductive Gm (vs:IG V)(H:Hp)(Q:VK):Prop
 |mk (la:IL)(ls:IG V)(ds:IG Jg)(last:Nat)(h0:vs=[.ref la,.int (last:Int)])(h1:H la=B' (.lst ls))(h2:dC H ds ls)(h3:∀d∈ds,bO d)(h4:last < ds.length)(h5:ds.length<=200)
   (q:∀l QX H',Same H H'->H l=IV->H' l=B' (.lst<|QX.map V.int)->Rg QX (cm (λi=>bF<|ds.getD i .none) last<|last+1)->Pi (·<=·) QX->Q (.ref l) H'):Gm vs H Q
def yH:Sp:=λvs H Q _=>Gm vs H Q
inductive Gn (la dn:IL)(last:Nat)(nm:Nat->IG Int)(H:Hp)(j:Nat)(σ:St)(G:Hp):Prop
 |mk (x3 x4:IQ V)(i0:σ=[B'<|.ref la,B'<|.int (last:Int),B'<|.ref dn,x3,x4])(i1:G dn=B' (.dK<|dB<|cm nm last j))(i2:Same H G):Gn la dn last nm H j σ G
inductive Gp (la dn l:IL)(last:Nat)(x3:IQ V)(M7 ks:IG Int)(H:Hp)(j:Nat)(σ:St)(G:Hp):Prop
 |mk (x4:IQ V)(i0:σ=[B'<|.ref la,B'<|.int (last:Int),B'<|.ref dn,x3,x4])(i1:G dn=B' (.dK<|dB<|(ks.take j).foldl gc M7))(i2:Same H G)(i3:G l=B' (.lst<|ks.map V.int)):Gp la dn l last x3 M7 ks H j σ G
theorem rE{ks M7:IG Int}{j:Nat}{k:Int}(h:ks[j]? =B' k):(ks.take<|j+1).foldl gc M7=gc ((ks.take j).foldl gc M7) k:=by
 rw[Kv,h,UN];rfl
section
variable {P:Jc}{w:Jv}{K:IJ}{mg:Str->IQ IH}{base:JM}
theorem Cb:aF ["lines","last","needed","place","ahead"] ["lines","last"] (ap A0):=eR
theorem Ei(F:Fun K "needed_by" "needed_by" A0 f fd)(T:Gk mg)(Z3:Fe P w K mg base 1 "named_by" Ca):FnOk P w K mg base c6 2 f fd ["lines","last"] yH:=by
 have sc:=Cb;refine F.okA Cb λLY A outer s H vs Q E hr h=>?_;obtain⟨la,ls,ds,last,rfl,h1,h2,h3,h4,h5,q⟩:=h;have hu:=hr.units;have T9:(A.deeper<|JU "needed_by" (ap A0) s.heap.objs.size f LY).units+1 < Mt:=by lia
 have Lx:=cq h2;refine⟨_,(af (ar (i:=2) sc.nd rfl (Jl rfl)<|xz (pv 1) eV)
  (af (cR Ky rfl (uC rfl T.range<|aa (pv 1)<|aa (ci bB ah)<|aa (ci bB ah) ae) (aA (i:=3) sc.nd rfl<|Jl rfl)
   (ai (aP (vA<|Db T9 (pv 3)<|pv 2) (ai (cR Ky rfl (b_<|ck Z3 hr<|aa (aE ax (pv 0) (pv 3) λ_ _=>rfl) ae) (aA (i:=4) sc.nd rfl<|Jl rfl)
     (ai<|jH T9 (pv 2) (pv 4) eV rfl))) ay)))
  (ai<|aw<|au (qy rfl) rfl T.sorted Nt<|aa (pv 2) ae))),?_⟩
 refine λdn ndn=>⟨_,rfl,ad,[(Ke (last:Int),.bl IS)],rfl,(by show 1<=15;decide),?_⟩;have k1:Same H (upd (upd H dn<|.dK []) dn<|.dK<|fF [] [(Ke (last:Int),.bl IS)]):=by rw[fm];exact ag ndn _
 have s1:upd (upd H dn<|.dK []) dn (.dK<|fF [] [(Ke (last:Int),.bl IS)]) dn=B' (.dK<|dB [(last:Int)]):=ad;generalize upd (upd H dn<|.dK []) dn (.dK<|fF [] [(Ke (last:Int),.bl IS)])=H1 at k1 s1 ⊢;refine⟨_,rfl,_,rfl,_,rfl,(last:Int),-1,rfl,⟨by lia,by lia,by lia,by lia⟩,qE (lo:=(last:Int)) (Gn la dn last (λi=>bF<|ds.getD i .none) H) ⟨IV,IV,rfl,s1,k1⟩ ?_ ?_⟩
 ·rintro j σ G hj ⟨x3,x4,rfl,i1,i2⟩;have hjl:j<=last:=by lia
  have ej:(last:Int) - (j:Int)=((last - j:Nat):Int):=by lia
  rw[ej];exists _,rfl,_,rfl,dn,_,rfl,DGet.k (k:=Ke ((last - j:Nat):Int)) i1;rw[yG];by_cases hm:((last - j:Nat):Int)∈cm (λi=>bF<|ds.getD i .none) last j
  ·rw[Jj hm];have en:cm (λi=>bF<|ds.getD i .none) last (j+1)=(bF<|ds.getD (last - j) .none).foldl gc (cm (λi=>bF<|ds.getD i .none) last j):=JF hm;obtain⟨v,hv⟩:∃v,ls[last - j]? =B' v:=⟨_,IZ (by lia)⟩;have rv:=d9 (bn i2 _ _ h2) hv;have gd:bO (ds.getD (last - j) .none):=h3 _ (Ji (getD_some (d:=MR) (show last - j < ds.length by lia)));have hnl:=hZ (ds.getD (last - j) .none);generalize hks:bF (ds.getD (last - j) .none)=ks at en hnl;have hal:=hW (nm:=λi=>bF (ds.getD i .none)) (last:=last) (λi=>hZ _) j;generalize cm (λi=>bF (ds.getD i .none)) last j=M7 at i1 en hal;refine⟨_,rfl,aT ⟨_,rfl,_,rfl,.inl ⟨la,ls,_,v,rfl,rfl,SqL.of (i2 _ _ h1),aW hv,v,ds.getD (last - j) .none,rfl,rv,gd,λl G1 kg nl hl=>?_⟩⟩⟩;rw[hks]at hl;refine⟨l,rfl,⟨_,SqL.of hl⟩,gr (K:=K) (a:=l) (xs:=ks.map V.int) (Gp la dn l last (B' (.int ((last - j:Nat):Int))) M7 ks H) ⟨_,rfl,kg _ _ i1,i2.trans kg,hl⟩ ?_ ?_ ?_⟩
   ·rintro i σ G2 _ ⟨_,_,_,_,m⟩;exact SqL.of m
   ·rintro i x σ G2 hx ⟨x4,rfl,m1,m2,m3⟩;obtain⟨k,rfl,hk⟩:=fg hx;have Zw:=jf (ks.take i) M7;rw[JN]at Zw;exists _,rfl,_,rfl,dn,_,rfl,DPut.k (k:=Ke k) m1 (aD<|by unfold dB;rw[IR];lia);rw[Eh,<-rE hk];exists _,rfl,ad,m2.upd_new ndn _;rw[ao λz=>by rw[z,m1]at m3;cases m3];exact m3
   ·rintro σ G2 ⟨x4,rfl,m1,m2,m3⟩;rw[IR,Jy<|IX _,<-en]at m1;exact⟨_,_,rfl,m1,m2⟩
  ·rw[IW hm];have en:cm (λi=>bF<|ds.getD i .none) last (j+1)=cm (λi=>bF<|ds.getD i .none) last j:=JD hm;exact⟨_,rfl,aO ⟨_,_,rfl,by rw[en];exact i1,i2⟩⟩
 ·rintro σ G ⟨x3,x4,rfl,i1,i2⟩;have en:((last:Int) - -1).toNat=last+1:=by lia
  rw[en]at i1;have hal:=hW (nm:=λi=>bF<|ds.getD i .none) (last:=last) (λi=>hZ _)<|last+1;refine⟨_,rfl,dn,_,_,rfl,i1,A4 _,by lia,λl QX nl hp hs=>q l QX _ (i2.trans<|ag nl _) (i2.free nl) ad hp hs⟩
end
theorem CL.updD(h:CL H c v)(hq:H q=B' (.dT kvs)):CL (upd H q o) c v:=by
 obtain⟨t,e,z⟩:=h;exact⟨t,e,by rw[ao λg=>by rw[g,hq]at z;cases z];exact z⟩
theorem CLs.updD(hq:H q=B' (.dT kvs)):∀{cs:IG (IG Int)} {xs:IG V},CLs H cs xs->CLs (upd H q o) cs xs
 |_,_,.nil=>.nil
 |_,_,.cons h t=>.cons (CL.updD h hq)<|CLs.updD hq t
def cY(c:IG Int):IG bv:=c.map Ke
theorem om(c:IG Int):(cY c).map kV=c.map V.int:=by
 unfold cY;rw[KJ];rfl
theorem keyI_inj:cY a=cY b↔a=b:=TZ λ_ _ h=>NO h
theorem ln:∀{zs:IG V},(∀y∈zs,∃p,y=.ref p)->∃ts:IG IL,zs=ts.map V.ref
 |[],_=>⟨[],rfl⟩
 |y::zs,h=>by
  obtain⟨p,rfl⟩:=h y Jp;obtain⟨ts,rfl⟩:=ln λz hz=>h z<|Jk _ hz;exact⟨p::ts,rfl⟩
theorem mL{α:Type}{l:IG α}{i:Nat}{x:α}(h:l[i]? =B' x):l.take (i+1)=l.take i++[x]:=by
 rw[Kv,h];rfl
theorem yI(g:bO d)(h:aM t cs hw sets d=B' c):∀k∈bF d,0<=k/\k < (sets.length:Int):=by
 obtain⟨k,rfl⟩|⟨c',hc,rfl⟩|⟨k,rfl⟩|⟨i,j,z,rfl⟩:=g
 ·rw[gS];exact λ_ h=>nomatch h
 ·exact λ_ h=>nomatch h
 ·rw[dW];intro k' Oc;rw[Jf.mp Oc];unfold aM at h;have f1:bK aR 2 (.tuple [.str aC,.int k])=false:=by
   show(decide (2=2)&&decide (aC=aR))=IU
   rw[IW (show¬aC=aR by decide+kernel),J8]
  have f2:bK bp 2 (.tuple [.str aC,.int k])=false:=by
   show(decide (2=2)&&decide (aC=bp))=IU
   rw[IW (show¬aC=bp by decide+kernel),J8]
  have f3:bK aV 4 (.tuple [.str aC,.int k])=false:=rfl;have f4:bK aC 2 (.tuple [.str aC,.int k])=true:=by
   show(decide (2=2)&&decide (aC=aC))=IS
   simp
  rw[f1,f2,f3,f4,J8,J8]at h;have h':gL t hw sets (.int k)=B' c:=h;unfold gL at h';cases e:bh sets.length (.int k)with
  |none=>rw[e]at h';cases h'
  |some i=>
   obtain⟨a1,a2⟩:=bZ e;cases a2;lia
 ·rw[dX];intro k' Oc;unfold aM at h;have f1:bK aR 2 (.tuple [.str aV,.int i,.int j,.int z])=false:=rfl;have f2:bK bp 2 (.tuple [.str aV,.int i,.int j,.int z])=false:=rfl;have f3:bK aV 4 (.tuple [.str aV,.int i,.int j,.int z])=true:=by
   show(decide (4=4)&&decide (aV=aV))=IS
   simp
  rw[f1,f2,f3,J8,J8]at h;have h':dw t hw sets (.int i) (.int j) (.int z)=B' c:=h;unfold dw at h';cases e:bh sets.length (.int i)with
  |none=>rw[e]at h';cases h'
  |some i'=>
  cases e2:bh sets.length (.int j)with
  |none=>rw[e,e2]at h';cases h'
  |some j'=>
   obtain⟨a1,a2⟩:=bZ e;obtain⟨b1,b2⟩:=bZ e2;cases a2;cases b2;obtain rfl|Oc:=JC.mp Oc
   ·lia
   ·rw[Jf.mp Oc];lia
abbrev vh:KL:=eB 39
def dI(f:Int->Int):Jg->Jg
 |.tuple [.str w,.int i,.int j,.int z]=>if w=aV then .tuple [.str aV,.int<|f i,.int<|f j,.int z]else .tuple [.str w,.int i,.int j,.int z]
 |.tuple [.str w,.int k]=>if w=aC then .tuple [.str aC,.int<|f k]else .tuple [.str w,.int k]
 |d=>d
theorem h_(f:Int->Int)(k:Int):dI f (.tuple [.str aR,.int k])=.tuple [.str aR,.int k]:=by
 show(if aR=aC then Nx [.str aC,.int<|f k]else Nx [.str aR,.int k])=_
 rw[JD<|by decide+kernel]
theorem iN(f:Int->Int)(k:Int):dI f (.tuple [.str aC,.int k])=.tuple [.str aC,.int<|f k]:=by
 show(if aC=aC then Nx [.str aC,.int<|f k]else Nx [.str aC,.int k])=_
 rw[JF rfl]
theorem iO(f:Int->Int)(i j z:Int):dI f (.tuple [.str aV,.int i,.int j,.int z])=.tuple [.str aV,.int<|f i,.int<|f j,.int z]:=by
 show(if aV=aV then Nx [.str aV,.int<|f i,.int<|f j,.int z]else Nx [.str aV,.int i,.int j,.int z])=_
 rw[JF rfl]
theorem pY(f:Int->Int)(c:IG Int):dI f (.tuple [.str bp,fM c])=.tuple [.str bp,fM c]:=rfl
theorem lp(g:bO d):bO (dI f d):=by
 obtain⟨k,rfl⟩|⟨c,hc,rfl⟩|⟨k,rfl⟩|⟨i,j,z,rfl⟩:=g
 ·rw[h_];exact .inl ⟨k,rfl⟩
 ·exact .inr<|.inl ⟨c,hc,rfl⟩
 ·rw[iN];exact .inr<|.inr<|.inl ⟨_,rfl⟩
 ·rw[iO];exact .inr<|.inr<|.inr ⟨_,_,_,rfl⟩
theorem vi(g:bO d):bF (dI f d)=(bF d).map f:=by
 obtain⟨k,rfl⟩|⟨c,hc,rfl⟩|⟨k,rfl⟩|⟨i,j,z,rfl⟩:=g
 ·rw[h_,gS];rfl
 ·rfl
 ·rw[iN,dW,dW];rfl
 ·rw[iO,dX,dX];rfl
inductive Cc (vs:IG V)(H:Hp)(Q:VK):Prop
 |mk (v:V)(na:IL)(d:Jg)(ns:IG Int)(h0:vs=[v,.ref na])(hd:RD H d v)(hg:bO d)(hn:H na=B' (.lst (ns.map V.int)))(hr:∀k∈bF d,0<=k/\k < (ns.length:Int))(q:∀v' H',Same H H'->RD H' (dI (λk=>ns.getD k.toNat 0) d) v'->Q v' H'):Cc vs H Q
def yJ:Sp:=λvs H Q _=>Cc vs H Q
inductive Cd (vs:IG V)(H:Hp)(Q:VK):Prop
 |mk (v:V)(na:IL)(d:Jg)(kvs:IG (bv×V))(f:Int->Int)(h0:vs=[v,.ref na])(hd:RD H d v)(hg:bO d)(hn:H na=B' (.dK kvs))(hr:∀k∈bF d,cn kvs (Ke k:bv)=B' (.int<|f k))(q:∀v' H',Same H H'->RD H' (dI f d) v'->Q v' H'):Cd vs H Q
def yK:Sp:=λvs H Q _=>Cd vs H Q
theorem oo{ns:IG Int}{k:Int}(h:0<=k/\k < (ns.length:Int)):p_ (ns.map V.int) k=B' (.int<|ns.getD k.toNat 0):=by
 obtain⟨n,rfl⟩:∃n:Nat,k=(n:Int):=⟨k.toNat,by lia⟩;refine aW ?_;rw[Jx,getD_some (d:=(0:Int)) (show n < ns.length by lia)];rfl
theorem lq{H:Hp}{na:IL}{kvs:IG (bv×V)}{k z:Int}(hn:H na=B' (.dK kvs))(h:cn kvs (Ke k:bv)=B' (.int z)):DGet H na (.int k) (B'<|.int z):=by
 rw[<-h];exact DGet.k (k:=Ke k) hn
section
variable {P:Jc}{w:Jv}{K:IJ}{mg:Str->IQ IH}{base:JM}
theorem tO:aF ["line","numbers"] ["line","numbers"] (ap vh):=eR
theorem A5(F:Fun K "renamed" "renamed" vh f fd):FnOk P w K mg base c6 1 f fd ["line","numbers"] yJ:=by
 have sc:=tO;refine F.okA tO λLY A outer s H vs Q E hr h=>?_;have hu:=hr.units;have T9:(A.deeper<|JU "renamed" (ap vh) s.heap.objs.size f LY).units+1 < Mt:=by lia
 obtain⟨v,na,d,ns,rfl,hd,hg,hn,hr,q⟩:=h;refine⟨_,(af (aP (aq (aQ hu) (aE ax (pv 0) ah λ_ _=>rfl) aB<|az _) (ai<|aw<|aZ<|aa aB<|aa (aE ax (pv 1) (aE ax (pv 0) ah λ_ _=>rfl) λ_ _=>rfl)<|aa (aE ax (pv 1) (aE ax (pv 0) ah λ_ _=>rfl) λ_ _=>rfl)<|aa (aE ax (pv 0) ah λ_ _=>rfl) ae) ay)
  (af (aP (aq (aQ hu) (aE ax (pv 0) ah λ_ _=>rfl) aB<|az _) (ai<|aw<|aZ<|aa aB<|aa (aE ax (pv 1) (aE ax (pv 0) ah λ_ _=>rfl) λ_ _=>rfl) ae) ay)
  (ai<|aw<|pv 0))),?_⟩
 obtain⟨k,rfl⟩|⟨c,hc,rfl⟩|⟨k,rfl⟩|⟨i,j,z,rfl⟩:=hg
 ·obtain⟨a,zs,rfl,ha,hz⟩:=aK hd;obtain⟨d0,d1,x0,x1,e,rfl,r0,r1⟩:=cH hz rfl;cases e;obtain rfl:=bf r0;refine⟨_,rfl,.inr<|.inl ⟨a,_,0,.str aR,rfl,rfl,SqT.of ha,rfl,.inl ⟨rfl,_,rfl,?_⟩⟩⟩;rw[IW (show¬V.str aR=V.str (IK "join") by decide+kernel)];refine aO ⟨_,rfl,.inr<|.inl ⟨a,_,0,.str aR,rfl,rfl,SqT.of ha,rfl,.inl ⟨rfl,_,rfl,?_⟩⟩⟩;rw[IW (show¬V.str aR=V.str (IK "drop") by decide+kernel)];rw[h_]at q;exact aO ⟨_,rfl,q _ _ (Same.refl _) hd⟩
 ·obtain⟨a,zs,rfl,ha,hz⟩:=aK hd;obtain⟨d0,d1,x0,x1,e,rfl,r0,r1⟩:=cH hz rfl;cases e;obtain rfl:=bf r0;refine⟨_,rfl,.inr<|.inl ⟨a,_,0,.str bp,rfl,rfl,SqT.of ha,rfl,.inl ⟨rfl,_,rfl,?_⟩⟩⟩;rw[IW (show¬V.str bp=V.str (IK "join") by decide+kernel)];refine aO ⟨_,rfl,.inr<|.inl ⟨a,_,0,.str bp,rfl,rfl,SqT.of ha,rfl,.inl ⟨rfl,_,rfl,?_⟩⟩⟩;rw[IW (show¬V.str bp=V.str (IK "drop") by decide+kernel)];rw[pY]at q;exact aO ⟨_,rfl,q _ _ (Same.refl _) hd⟩
 ·obtain⟨a,zs,rfl,ha,hz⟩:=aK hd;obtain⟨d0,d1,x0,x1,e,rfl,r0,r1⟩:=cH hz rfl;cases e;obtain rfl:=bf r0;obtain rfl:=aX r1;rw[dW]at hr;rw[iN]at q;refine⟨_,rfl,.inr<|.inl ⟨a,_,0,.str aC,rfl,rfl,SqT.of ha,rfl,.inl ⟨rfl,_,rfl,?_⟩⟩⟩;rw[IW (show¬V.str aC=V.str (IK "join") by decide+kernel)];refine aO ⟨_,rfl,.inr<|.inl ⟨a,_,0,.str aC,rfl,rfl,SqT.of ha,rfl,.inl ⟨rfl,_,rfl,?_⟩⟩⟩;rw[Jj (show V.str aC=V.str (IK "drop")from rfl)];refine aT ⟨_,rfl,_,rfl,.inr<|.inl ⟨a,_,1,.int k,rfl,rfl,SqT.of ha,rfl,.inl ⟨na,_,_,_,rfl,rfl,SqL.of hn,oo<|hr k<|Jf.mpr rfl,(by show 2<=sizeLine;decide),λl nl=>q (.ref l) _ (ag nl _)<|bj ad<|am (bQ _)<|am (bN _) aH⟩⟩⟩
 ·obtain⟨a,zs,rfl,ha,hz⟩:=aK hd;obtain⟨d0,d1,d2,d3,x0,x1,x2,x3,e,rfl,r0,r1,r2,r3⟩:=gP hz rfl;cases e;obtain rfl:=bf r0;obtain rfl:=aX r1;obtain rfl:=aX r2;obtain rfl:=aX r3;rw[dX]at hr;rw[iO]at q;refine⟨_,rfl,.inr<|.inl ⟨a,_,0,.str aV,rfl,rfl,SqT.of ha,rfl,.inl ⟨rfl,_,rfl,?_⟩⟩⟩;rw[Jj (show V.str aV=V.str (IK "join")from rfl)];refine aT ⟨_,rfl,_,rfl,.inr<|.inl ⟨a,_,1,.int i,rfl,rfl,SqT.of ha,rfl,.inl ⟨na,_,_,_,rfl,rfl,SqL.of hn,oo<|hr i Jp,_,rfl,_,rfl,.inr<|.inl ⟨a,_,2,.int j,rfl,rfl,SqT.of ha,rfl,.inl ⟨na,_,_,_,rfl,rfl,SqL.of hn,oo<|hr j<|Jk _<|Jf.mpr rfl,_,rfl,.inr<|.inl ⟨a,_,3,.int z,rfl,rfl,SqT.of ha,rfl,(by show 4<=sizeLine;decide),λl nl=>q (.ref l) _ (ag nl _)<|bj ad<|am (bQ _)<|am (bN _)<|am (bN _)<|am (bN _) aH⟩⟩⟩⟩⟩⟩
theorem A6(F:Fun K "renamed" "renamed" vh f fd):FnOk P w K mg base c6 1 f fd ["line","numbers"] yK:=by
 have sc:=tO;refine F.okA tO λLY A outer s H vs Q E hr h=>?_;have hu:=hr.units;have T9:(A.deeper<|JU "renamed" (ap vh) s.heap.objs.size f LY).units+1 < Mt:=by lia
 obtain⟨v,na,d,kvs,f',rfl,hd,hg,hn,hr,q⟩:=h;refine⟨_,(af (aP (aq (aQ hu) (aE ax (pv 0) ah λ_ _=>rfl) aB<|az _) (ai<|aw<|aZ<|aa aB<|aa (cX T9 (pv 1) (aE ax (pv 0) ah λ_ _=>rfl) λ_ _=>rfl)<|aa (cX T9 (pv 1) (aE ax (pv 0) ah λ_ _=>rfl) λ_ _=>rfl)<|aa (aE ax (pv 0) ah λ_ _=>rfl) ae) ay)
  (af (aP (aq (aQ hu) (aE ax (pv 0) ah λ_ _=>rfl) aB<|az _) (ai<|aw<|aZ<|aa aB<|aa (cX T9 (pv 1) (aE ax (pv 0) ah λ_ _=>rfl) λ_ _=>rfl) ae) ay)
  (ai<|aw<|pv 0))),?_⟩
 obtain⟨k,rfl⟩|⟨c,hc,rfl⟩|⟨k,rfl⟩|⟨i,j,z,rfl⟩:=hg
 ·obtain⟨a,zs,rfl,ha,hz⟩:=aK hd;obtain⟨d0,d1,x0,x1,e,rfl,r0,r1⟩:=cH hz rfl;cases e;obtain rfl:=bf r0;refine⟨_,rfl,.inr<|.inl ⟨a,_,0,.str aR,rfl,rfl,SqT.of ha,rfl,.inl ⟨rfl,_,rfl,?_⟩⟩⟩;rw[IW (show¬V.str aR=V.str (IK "join") by decide+kernel)];refine aO ⟨_,rfl,.inr<|.inl ⟨a,_,0,.str aR,rfl,rfl,SqT.of ha,rfl,.inl ⟨rfl,_,rfl,?_⟩⟩⟩;rw[IW (show¬V.str aR=V.str (IK "drop") by decide+kernel)];rw[h_]at q;exact aO ⟨_,rfl,q _ _ (Same.refl _) hd⟩
 ·obtain⟨a,zs,rfl,ha,hz⟩:=aK hd;obtain⟨d0,d1,x0,x1,e,rfl,r0,r1⟩:=cH hz rfl;cases e;obtain rfl:=bf r0;refine⟨_,rfl,.inr<|.inl ⟨a,_,0,.str bp,rfl,rfl,SqT.of ha,rfl,.inl ⟨rfl,_,rfl,?_⟩⟩⟩;rw[IW (show¬V.str bp=V.str (IK "join") by decide+kernel)];refine aO ⟨_,rfl,.inr<|.inl ⟨a,_,0,.str bp,rfl,rfl,SqT.of ha,rfl,.inl ⟨rfl,_,rfl,?_⟩⟩⟩;rw[IW (show¬V.str bp=V.str (IK "drop") by decide+kernel)];rw[pY]at q;exact aO ⟨_,rfl,q _ _ (Same.refl _) hd⟩
 ·obtain⟨a,zs,rfl,ha,hz⟩:=aK hd;obtain⟨d0,d1,x0,x1,e,rfl,r0,r1⟩:=cH hz rfl;cases e;obtain rfl:=bf r0;obtain rfl:=aX r1;rw[dW]at hr;rw[iN]at q;refine⟨_,rfl,.inr<|.inl ⟨a,_,0,.str aC,rfl,rfl,SqT.of ha,rfl,.inl ⟨rfl,_,rfl,?_⟩⟩⟩;rw[IW (show¬V.str aC=V.str (IK "join") by decide+kernel)];refine aO ⟨_,rfl,.inr<|.inl ⟨a,_,0,.str aC,rfl,rfl,SqT.of ha,rfl,.inl ⟨rfl,_,rfl,?_⟩⟩⟩;rw[Jj (show V.str aC=V.str (IK "drop")from rfl)];refine aT ⟨_,rfl,_,rfl,.inr<|.inl ⟨a,_,1,.int k,rfl,rfl,SqT.of ha,rfl,na,_,rfl,lq hn<|hr k<|Jf.mpr rfl,(by show 2<=sizeLine;decide),λl nl=>q (.ref l) _ (ag nl _)<|bj ad<|am (bQ _)<|am (bN _) aH⟩⟩
 ·obtain⟨a,zs,rfl,ha,hz⟩:=aK hd;obtain⟨d0,d1,d2,d3,x0,x1,x2,x3,e,rfl,r0,r1,r2,r3⟩:=gP hz rfl;cases e;obtain rfl:=bf r0;obtain rfl:=aX r1;obtain rfl:=aX r2;obtain rfl:=aX r3;rw[dX]at hr;rw[iO]at q;refine⟨_,rfl,.inr<|.inl ⟨a,_,0,.str aV,rfl,rfl,SqT.of ha,rfl,.inl ⟨rfl,_,rfl,?_⟩⟩⟩;rw[Jj (show V.str aV=V.str (IK "join")from rfl)];refine aT ⟨_,rfl,_,rfl,.inr<|.inl ⟨a,_,1,.int i,rfl,rfl,SqT.of ha,rfl,na,_,rfl,lq hn<|hr i Jp,_,rfl,_,rfl,.inr<|.inl ⟨a,_,2,.int j,rfl,rfl,SqT.of ha,rfl,na,_,rfl,lq hn<|hr j<|Jk _<|Jf.mpr rfl,_,rfl,.inr<|.inl ⟨a,_,3,.int z,rfl,rfl,SqT.of ha,rfl,(by show 4<=sizeLine;decide),λl nl=>q (.ref l) _ (ag nl _)<|bj ad<|am (bQ _)<|am (bN _)<|am (bN _)<|am (bN _) aH⟩⟩⟩⟩
end
abbrev A7:KL:=eB 41
structure Gq (mg:Str->IQ IH):Prop where
 enumerate:mg "enumerate"=IV
def io(out:IG (IG Int)):IG Int:=out.map λc=>((out.idxOf c:Nat):Int)
theorem mM:∀{out:IG (IG Int)} {i:Nat} {c:IG Int},out[i]? =B' c->c∉out.take i->out.idxOf c=i
 |[],i,c,h,_=>by simp at h
 |x::out,0,c,h,_=>by
  have h':x=c:=by simpa using h
  subst h';simp
 |x::out,i+1,c,h,n=>by
  have hx:x≠c:=λz=>n (by rw[S5,z];exact Jp);have h':out[i]? =B' c:=by simpa using h
  have n':c∉out.take i:=λz=>n (by rw[S5];exact Jk _ z);rw[VP,mM h' n'];have:(x == c)=false:=by simpa using hx
  rw[this];rfl
inductive Gr (vs:IG V)(H:Hp)(Q:VK):Prop
 |mk (sl:IL)(ys:IG V)(out:IG (IG Int))(h0:vs=[.ref sl])(h1:H sl=B' (.lst ys))(h2:CLs H out ys)(h3:out.length<=200)(q:∀l H',Same H H'->H l=IV->H' l=B' (.lst<|(io out).map V.int)->Q (.ref l) H'):Gr vs H Q
def Ce:Sp:=λvs H Q _=>Gr vs H Q
inductive Gs (sl dk:IL)(out:IG (IG Int))(H:Hp)(i:Nat)(σ:IG (IQ V))(G:Hp):Prop
 |mk (x2 x3:IQ V)(D:IG (IG bv×V))(i0:σ=[B'<|.ref sl,B'<|.ref dk,x2,x3])(i1:G dk=B' (.dT D))(i2:∀c:IG Int,cn D (cY c)=if c∈out.take i then B' (.int ((out.idxOf c:Nat):Int))else IV)(i3:D.length<=i)(i4:Same H G):Gs sl dk out H i σ G
section
variable {K:IJ}{a D:IL}{xs:IG V}{te:TE}{σ0:St}{H1:Hp}{Q:VK}
theorem yL(Lz:St)(f:Nat->V)(e0:σ0=IV::Lz)(ha:H1 a=B' (.lst xs))(hD:H1 D=IV)(Lx:xs.length<=900)
  (he:∀i x,xs[i]? =B' x->∀H' R,Same H1 H'->R (f i) H'->te (B' x::Lz) H' R) (hq:Q (.ref D) (upd H1 D<|.lst<|(KI xs.length).map f)):gE (vE K a) D (eF 0) Dy te σ0 H1 Q:=by
 have na:a≠D:=aj ha hD;refine dq (K:=K) (a:=a) (xs:=xs) (λi σ ys H2=>(∃v0,σ=v0::Lz)/\ys=(KI i).map f/\H2=upd H1 D (.lst ys)) ⟨⟨IV,e0⟩,rfl,rfl⟩ ?_ ?_ ?_
 ·rintro i σ ys H2 _ ⟨_,_,rfl⟩;exact⟨ad,SqL.of<|by rw[ao na];exact ha⟩
 ·rintro i x σ ys H2 hx ⟨⟨v0,rfl⟩,rfl,rfl⟩;have Te:i < xs.length:=(IY.mp hx).1;refine eu<|he i x hx _ _ (ag hD _) ⟨ad,aD (by rw[IR,Mf];lia),⟨_,rfl⟩,?_,?_⟩
  ·rw[PB,JO];rfl
  ·rw[fm]
 ·rintro σ ys H2 ⟨_,rfl,rfl⟩;exact hq
end
section
variable {P:Jc}{w:Jv}{K:IJ}{mg:Str->IQ IH}{base:JM}
theorem Cf:aF ["sets","places","place","literals"] ["sets"] (ap A7):=eR
theorem Ej(F:Fun K "first_places" "first_places" A7 f fd)(T:Gq mg):FnOk P w K mg base c6 1 f fd ["sets"] Ce:=by
 have sc:=Cf;refine F.okA Cf λLY A outer s H vs Q E hr h=>?_;have hu:=hr.units;have T9:(A.deeper<|JU "first_places" (ap A7) s.heap.objs.size f LY).units+1 < Mt:=by lia
 obtain⟨sl,ys,out,rfl,h1,h2,h3,q⟩:=h;have Lx:=h2.length;refine⟨_,(af (ar (i:=1) sc.nd rfl (Ob rfl) vM)
  (af (cR Ky rfl (jJ rfl T.enumerate<|pv 0) (iV rfl<|aY (aA (i:=2) sc.nd rfl<|Jl rfl)<|aY (aA (i:=3) sc.nd rfl<|Jl rfl) dY)
   (ai<|cp<|xy T9 (pv 1) (pv 3) (pv 2) ⟨rfl,rfl,rfl,rfl⟩))
  (ai<|aw<|bH (NY:=["literals","places"]) (idx:=[IV,B' 1]) rfl cS (b_<|pv 0) (λ_ _ _ _=>(aA (i:=0) (nD ["literals","places"]) rfl<|Jl rfl)) (λ_ _ _ _=>c_) λ_ _ _ _=>(cX T9 (pv 1) (pv 0) λ_ _=>rfl)))),?_⟩
 refine λdk ndk=>?_;have k1:=ag ndk<|.dT [];have s1:upd H dk (.dT []) dk=B' (.dT []):=ad;refine⟨_,rfl,sl,rfl,⟨_,SqL.of<|k1 _ _ h1⟩,kj (K:=K) (a:=sl) (xs:=ys) (Gs sl dk out H) ⟨IV,IV,[],rfl,s1,λc=>rfl,IX _,k1⟩ ?_ ?_ ?_⟩
 ·rintro i σ G _ ⟨_,_,_,_,_,_,_,k⟩;exact SqL.of<|k _ _ h1
 ·rintro i x σ G t1 hx ⟨x2,x3,D,rfl,i1,i2,i3,i4⟩ ht1;have k2:Same G (upd G t1<|.tup [.int i,x]):=ag ht1 _;obtain⟨c,hc,tc,rfl,Vu⟩:=((h2.mono i4).mono k2).get hx;have Te:i < out.length:=(IY.mp hc).1;have WH:upd G t1 (.tup [.int i,.ref tc]) tc=B' (.tup<|(cY c).map kV):=by rw[om];exact Vu
  have j1:=k2 _ _ i1;have kk:=i4.trans k2;have XG:upd G t1 (.tup [.int i,.ref tc]) t1=B' (.tup [.int i,.ref tc]):=ad;generalize upd G t1 (.tup [.int i,.ref tc])=G1 at WH j1 kk XG ⊢;have et:=mL hc;exists t1,_,rfl,SqT.of XG,rfl,_,_,rfl,_,_,rfl,rfl;exists _,rfl,dk,rfl,.inr ⟨_,.inl j1⟩,_,rfl,_,rfl;have e0:=i2 c;by_cases hm:c∈out.take i
  ·rw[JF hm]at e0;refine .inl ⟨.int ((out.idxOf c:Nat):Int),by rw[<-e0];exact DGet.t j1 WH,?_⟩;refine⟨_,_,D,rfl,j1,λc'=>?_,by lia,kk⟩;rw[i2 c',et];have:(c'∈out.take i++[c])↔c'∈out.take i:=by
    rw[JA,Jf];exact⟨λz=>z.elim id λz=>z▸hm,.inl⟩
   simp only [this]
  ·rw[JD hm]at e0;have ei:=mM hc hm;refine .inr ⟨by rw[<-e0];exact DGet.t j1 WH,_,DPut.t j1 WH (aD<|by lia),?_⟩;refine⟨_,_,_,rfl,ad,λc'=>?_,?_,kk.upd_new ndk _⟩
   ·rw[j5,et];by_cases e:c'=c
    ·subst e;rw[JF rfl,JF<|Ku _<|Jf.mpr rfl,ei]
    ·rw[JD λz=>e<|keyI_inj.mp z,i2 c'];have:(c'∈out.take i++[c])↔c'∈out.take i:=by
      rw[JA,Jf];exact⟨λz=>z.elim id λz=>absurd z e,.inl⟩
     simp only [this]
   ·have:=cx D (cY c)<|.int (i:Int);lia
 ·rintro σ G ⟨x2,x3,D,rfl,i1,i2,i3,i4⟩;rw[Jy<|by lia]at i2;refine⟨_,rfl,sl,rfl,⟨_,SqL.of<|i4 _ _ h1⟩,λDl nDl=>?_⟩;refine yL [B'<|.ref dk] (λi=>.int ((out.idxOf (out.getD i []):Nat):Int)) rfl (i4 _ _ h1) nDl (by lia) (λi x hx H' R k r=>?_) ?_
  ·obtain⟨c,hc,tc,rfl,Vu⟩:=(h2.mono<|i4.trans k).get hx;have WH:H' tc=B' (.tup<|(cY c).map kV):=by rw[om];exact Vu
   have e0:=i2 c;rw[JF<|Ji hc]at e0;have eg:out.getD i []=c:=by rw[Jd,hc];rfl
   rw[eg]at r;exact⟨_,rfl,_,rfl,dk,_,rfl,by rw[<-e0];exact DGet.t (k _ _ i1) WH,r⟩
  ·have k5:=ag nDl<|.lst ((KI ys.length).map λi:Nat=>V.int ((out.idxOf (out.getD i []):Nat):Int));refine q Dl _ (i4.trans k5) (i4.free nDl) ?_;rw[ad]
   congr 2
   unfold io;rw[KJ];refine NI λj=>?_;rw[Jx,Jx];by_cases hj:j < out.length
   ·rw[PK (by lia),IZ hj];show B' (V.int ((out.idxOf (out.getD j []):Nat):Int))=B' (V.int _)
    rw[Jd,IZ hj];rfl
   ·rw[KG (by rw[Mf];lia),KG<|by lia];rfl
end
theorem yM:x∈gc M7 k↔x∈M7\/x=k:=by
 unfold gc
 split
 ·rename_i h;exact⟨.inl,λz=>z.elim id λz=>z▸h⟩
 ·rw[JA,Jf]
theorem mO:∀{ks M7:IG Int} {x:Int},x∈ks.foldl gc M7↔x∈M7\/x∈ks
 |[],M7,x=>by simp
 |k::ks,M7,x=>by
  rw[NA,mO,yM,JC,or_assoc]
theorem rF(h:M7.Nodup):(gc M7 k).Nodup:=by
 unfold gc
 split
 ·exact h
 ·rename_i n;rw[LG];exact⟨h,by simp,λx hx y hy z=>by rw[Jf.mp hy]at z;exact n<|z▸hx⟩
theorem jA:∀{ks M7:IG Int},M7.Nodup->(ks.foldl gc M7).Nodup
 |[],_,h=>h
 |_::ks,_,h=>jA (ks:=ks)<|rF h
section
variable {nm:Nat->IG Int}{last:Nat}
theorem gU:∀j,(cm nm last j).Nodup
 |0=>by show([(last:Int)]:IG Int).Nodup;simp
 |j+1=>by
  show(if _ then _ else _:IG Int).Nodup
  split
  ·exact jA<|gU j
  ·exact gU j
theorem needG_step:x∈cm nm last (j+1)↔x∈cm nm last j\/(((last - j:Nat):Int)∈cm nm last j/\x∈nm (last - j)):=by
 show x∈(if _ then _ else _:IG Int)↔_
 split
 ·rename_i h;rw[mO];exact⟨λz=>z.imp id λz=>⟨h,z⟩,λz=>z.imp id λz=>z.2⟩
 ·rename_i h;exact⟨.inl,λz=>z.elim id λz=>absurd z.1 h⟩
theorem lu(h:x∈cm nm last j):∀m,x∈cm nm last (j+m)
 |0=>h
 |m+1=>needG_step.mpr<|.inl<|lu h m
theorem gW(hn:∀i,i<=last->∀k∈nm i,0<=k/\k < (i:Int)):∀{j:Nat} {x:Int},x∈cm nm last j->0<=x/\x<=(last:Int)
 |0,x,h=>by
  have h':x=(last:Int):=Jf.mp h;lia
 |j+1,x,h=>by
  obtain z|⟨_,z⟩:=needG_step.mp h
  ·exact gW hn z
  ·have:=hn (last - j) (Zl _ _) x z;lia
theorem lw(hn:∀i,i<=last->∀k∈nm i,0<=k/\k < (i:Int))(hp:last - j<=p):∀m,(p:Int)∈cm nm last (j+m)->(p:Int)∈cm nm last j
 |0,h=>h
 |m+1,h=>by
  obtain z|⟨_,z⟩:=needG_step.mp (show(p:Int)∈cm nm last ((j+m)+1)from h)
  ·exact lw hn hp m z
  ·have:=hn (last - (j+m)) (Zl _ _) _ z;lia
theorem ou(hn:∀i,i<=last->∀k∈nm i,0<=k/\k < (i:Int)){p:Nat}(h:(p:Int)∈cm nm last (last+1)):∀k∈nm p,k∈cm nm last (last+1):=λk hk=>by
 have T_:p<=last:=by
  have:=(gW hn h).2;lia
 have e:last+1=(last - p)+(p+1):=by lia
 rw[e]at h;have h1:=lw hn (show last - (last - p)<=p by lia) (p+1) h;have h2:k∈cm nm last (last - p+1):=needG_step.mpr<|.inr ⟨by rw[show last - (last - p)=p by lia];exact h1,by rw[show last - (last - p)=p by lia];exact hk⟩;have h3:=lu h2 p;rw[show last - p+1+p=last+1 by lia]at h3;exact h3
end
theorem ow{out:IG (IG Int)}{k:Nat}{c:IG Int}(h:out[k]? =B' c):out.idxOf c<=k:=by
 obtain g|g:=Mw k (out.idxOf c)
 ·exact absurd (IY.mp h).2 (by
   have:=List.not_of_lt_findIdx (p:=λx=>x == c) (xs:=out) (i:=k) g;simpa using this)
 ·exact g
theorem yN{out:IG (IG Int)}{c:IG Int}(h:c∈out):out.idxOf c < out.length/\out[out.idxOf c]? =B' c:=by
 have h1:=List.idxOf_lt_length_iff.mpr h;exists h1;rw[IZ h1,List.getElem_idxOf]
abbrev lx:KL:=eB 44
structure Io (mg:Str->IQ IH):Prop where
 list:mg "list"=IV
 dict:mg "dict"=IV
 g_SPOILER:eI mg "SPOILER" (.str<|aI IU)
inductive Cg (vs:IG V)(H:Hp)(Q:VK):Prop
 |mk (p q pp la:IL)(t:Str)(xs ls:IG V)(cs:IG (IG Int))(ds:IG Jg)(out:IG (IG Int))(h0:vs=[.ref p,.ref pp])(h1:H p=B' (.tup [.str t,.ref q]))(h2:t.length<=30)(h3:H q=B' (.lst xs))(h4:CLs H cs xs)(h5:cs.length<=100)(h6:(∀c∈cs,aS t.length c))(h7:H pp=B' (.tup [.str<|aI IU,.ref la]))(h8:H la=B' (.lst ls))(h9:dC H ds ls)(ZZ:ds.length<=200)(h11:(∀d∈ds,eE d))(h12:bq t cs IU [] ds=(out,IS))
   (h13:∀r c ys H',Same H H'->H r=IV->H c=IV->H' r=B' (.tup [.str t,.ref c])->H' c=B' (.lst ys)->CLs H' (eN cs out) ys->Q (.ref r) H'):Cg vs H Q
def rG:Sp:=λvs H Q _=>Cg vs H Q
theorem vj(cs:IG (IG Int))(k:IG Int):(cn (dG<|cs.map λc=>(cY c,V.bl IS))<|cY k).isSome=decide (k∈cs):=by
 unfold dG;rw[pO,P0];show((cn ([]:IG (IG bv×V))<|cY k).isSome || _)=_
 rw[show(cn ([]:IG (IG bv×V))<|cY k).isSome=IU from rfl,Xn]
 induction cs with
 |nil=>rfl
 |cons c cs ih=>
  rw[Ni,ih,Lw];simp [keyI_inj]
inductive Ch (p pp sl cl dk:IL)(ys:IG V)(cs out:IG (IG Int))(H:Hp)(i:Nat)(σ:IG (IQ V))(G:Hp):Prop
 |mk (x5:IQ V)(zs:IG V)(D:IG (IG bv×V))(i0:σ=[B'<|.ref p,B'<|.ref pp,B'<|.ref sl,B'<|.ref cl,B'<|.ref dk,x5])(i1:G cl=B' (.lst zs))(i2:CLs G (eN cs<|out.take i) zs)(i3:G dk=B' (.dT D))(i4:∀k:IG Int,(cn D<|cY k).isSome=decide (k∈eN cs (out.take i)))(i5:D.length<=cs.length+i)(i6:Same H G)(i7:G sl=B' (.lst ys))(i8:CLs G out ys):Ch p pp sl cl dk ys cs out H i σ G
section
variable {P:Jc}{w:Jv}{K:IJ}{mg:Str->IQ IH}{base:JM}
theorem jg:aF ["sentence","paper","sets","clauses","known","literals"] ["sentence","paper"] (ap lx):=eR
theorem A8(F:Fun K "joined_clauses" "joined_clauses" lx f fd)(T:Io mg)(NK:Fe P w K mg base 6 "sets_of" gQ):FnOk P w K mg base c6 7 f fd ["sentence","paper"] rG:=by
 have sc:=jg;refine F.okA jg λLY A outer s H vs Q E hr h=>?_;obtain⟨p,q,pp,la,t,xs,ls,cs,ds,out,rfl,hp,ht,hq,hcs,h9,hcok,hpp,hla,hds,h8,WI,MT,q'⟩:=h;have hu:=hr.units;have T9:(A.deeper<|JU "joined_clauses" (ap lx) s.heap.objs.size f LY).units+1 < Mt:=by lia
 have hu2:(A.deeper<|JU "joined_clauses" (ap lx) s.heap.objs.size f LY).units+2 < Mt:=by lia
 have hol:out.length=ds.length:=by
  have:=bY MT;simpa using this
 refine⟨_,(af (ar (i:=2) sc.nd rfl (Jl rfl)<|ck NK hr<|aa (pv 0)<|aa (pv 1) ae)
  (af (aP (aq (fH hu) (aE ax (pv 1) ah λ_ _=>rfl) (bz rfl T.g_SPOILER)<|az _) (ai aU) ay)
  (af (ar (i:=3) sc.nd rfl (Jl rfl)<|bL cE rfl T.list KC<|aa (aE ax (pv 0) ah λ_ _=>rfl) ae)
  (af (ar (i:=4) sc.nd rfl (Jl rfl)<|bL (qW rfl hu2) rfl T.dict Rx<|aa (bH (NY:=["clause"]) (idx:=[IV]) rfl cS (b_<|pv 3) (λ_ _ _ _=>(aA (i:=0) (nD ["clause"]) rfl<|Jl rfl)) (λ_ _ _ _=>c_) λ_ _ _ _=>(aZ<|aa (pv 0)<|aa eV ae)) ae)
  (af (cR Ky rfl (b_<|pv 2) (aA (i:=5) sc.nd rfl<|Jl rfl)
   (ai (aP (vA<|ul T9 (pv 5)<|pv 4) (af (jH T9 (pv 4) (pv 5) eV rfl)
    (ai<|cp<|d_ JY J3 J_ bM (pv 3)<|aa (pv 5) ae)) ay)))
  (ai<|aw<|aZ<|aa (aE ax (pv 0) ah λ_ _=>rfl)<|aa (pv 3) ae)))))),?_⟩
 refine⟨_,rfl,_,rfl,p,q,pp,la,t,IU,xs,ls,cs,ds,out,rfl,hp,ht,hq,hcs,by lia,hcok,hpp,hla,hds,by lia,WI,MT,λsl ys H1 k1 nsl VW UV=>?_⟩;refine⟨_,rfl,.inr<|.inl ⟨pp,_,0,.str<|aI IU,rfl,rfl,SqT.of<|k1 _ _ hpp,rfl,.inl ⟨rfl,_,rfl,?_⟩⟩⟩;rw[Jj rfl];refine aO ?_;refine⟨_,rfl,.inr<|.inl ⟨p,_,1,.ref q,rfl,rfl,SqT.of<|k1 _ _ hp,rfl,q,xs,rfl,.inl<|SqL.of<|k1 _ _ hq,λcl ncl=>?_⟩⟩;have k2:=ag ncl<|.lst xs;have s2:upd H1 cl (.lst xs) cl=B' (.lst xs):=ad;generalize upd H1 cl (.lst xs)=H2 at k2 s2;refine⟨_,rfl,cl,rfl,⟨_,SqL.of s2⟩,λD nD=>?_⟩;have aku:=hcs.mono<|k1.trans k2;refine qU [] (λx=>[x,.bl IS]) rfl s2 nD (by rw[<-hcs.length];lia) (λx hx H' R k r=>⟨_,rfl,(by show 2<=sizeLine;decide),r⟩) λzs H3 k3 s3 l3 m3=>?_;obtain⟨ts,ets⟩:∃ts:IG IL,zs=ts.map V.ref:=ln λy hy=>by
  obtain⟨j,hj,e⟩:=ML hy;obtain⟨x,_,pt,e2,_⟩:=m3 j y (by rw[IZ hj,e]);exact⟨pt,e2⟩
 obtain⟨cl',ecl⟩:∃cl':IG IL,xs=cl'.map V.ref:=ln λy hy=>by
  obtain⟨j,hj,e⟩:=ML hy;obtain⟨x,_,pt,e2,_⟩:=hcs.get (j:=j) (v:=y) (by rw[IZ hj,e]);exact⟨pt,e2⟩
 have lts:ts.length=cs.length:=by rw[hcs.length,<-l3,ets,IR]
 have lcl:cl'.length=cs.length:=by rw[hcs.length,ecl,IR]
 have Zs:=k1.trans<|k2.trans k3;refine⟨D,ts,cl',cs.map λc=>(cY c,V.bl IS),rfl,(by rw[<-ets];exact s3),(by rw[IR];exact lts),(by rw[IR];exact lcl),(λi t' c kv e1 e2 e3=>?_),(by rw[IR];lia),λdk ndk=>?_⟩
 ·rw[Jx]at e3;obtain⟨k,hk,rfl⟩:=KP.mp e3;have hx:xs[i]? =B' (.ref c):=by rw[ecl,Jx,e2];rfl
  obtain⟨x,hx',pt,e4,e5⟩:=m3 i (.ref t') (by rw[ets,Jx,e1];rfl);rw[hx]at hx';cases hx';cases e4;obtain⟨k',Oc,tc,e6,e7⟩:=(hcs.mono Zs).get hx;rw[hk]at Oc;cases Oc;cases e6;exact⟨e5,by rw[om];exact e7⟩
 have k4:=ag ndk<|.dT<|dG<|cs.map λc=>(cY c,V.bl IS);have s4:upd H3 dk (.dT<|dG<|cs.map λc=>(cY c,V.bl IS)) dk=B' (.dT<|dG<|cs.map λc=>(cY c,V.bl IS)):=ad;have hdl:(dG<|cs.map λc=>(cY c,V.bl IS)).length<=cs.length:=by
  have:=gO (cs.map λc=>(cY c,V.bl IS)) [];rw[IR,Lg,Mv]at this;exact this
 have hkn:=vj cs;generalize dG (cs.map λc=>(cY c,V.bl IS))=D0 at k4 s4 hdl hkn ⊢;generalize upd H3 dk (.dT D0)=H4 at k4 s4 ⊢;have k04:=Zs.trans k4;have kc:=(k2.trans k3).trans k4;have ncd:cl≠dk:=λz=>by have:=k3 _ _ s2;rw[z,ndk]at this;cases this
 have nsc:sl≠cl:=aj VW ncl;have nsd:sl≠dk:=λz=>by have:=k3 _ _<|k2 _ _ VW;rw[z,ndk]at this;cases this
 have fcl:H cl=none:=k1.free ncl;have fdk:H dk=none:=Zs.free ndk;refine⟨_,rfl,sl,rfl,⟨_,SqL.of<|kc _ _ VW⟩,?_⟩;refine gr (K:=K) (a:=sl) (xs:=ys) (Ch p pp sl cl dk ys cs out H) ?_ ?_ ?_ ?_
 ·exact⟨IV,xs,D0,rfl,(k3.trans k4) _ _ s2,hcs.mono k04,s4,hkn,by lia,k04,kc _ _ VW,UV.mono kc⟩
 ·rintro i σ G _ ⟨_,_,_,_,_,_,_,_,_,_,i7,_⟩;exact SqL.of i7
 ·rintro i x σ G hx ⟨x5,zs',D',rfl,i1,i2,i3,i4,i5,i6,i7,i8⟩;obtain⟨c,hc,tc,rfl,Vu⟩:=i8.get hx;have WH:G tc=B' (.tup<|(cY c).map kV):=by rw[om];exact Vu
  have Te:i < out.length:=(IY.mp hc).1;refine⟨_,rfl,_,rfl,dk,_,rfl,DGet.t i3 WH,?_⟩;rw[i4];have ej:eN cs (out.take<|i+1)=if c∈eN cs (out.take i)then eN cs (out.take i)else eN cs (out.take i)++[c]:=by rw[mL hc,kT]
  by_cases hm:c∈eN cs (out.take i)
  ·rw[Jj hm];rw[JF hm]at ej;exact⟨_,rfl,aO ⟨_,zs',D',rfl,i1,by rw[ej];exact i2,i3,by rw[ej];exact i4,by lia,i6,i7,i8⟩⟩
  ·rw[IW hm];rw[JD hm]at ej;refine⟨_,rfl,aT ?_⟩;refine⟨_,rfl,_,rfl,dk,_,rfl,DPut.t i3 WH (aD<|by lia),?_⟩;have g1:upd G dk (.dT<|bX D' (cY c)<|.bl IS) cl=B' (.lst zs'):=by rw[ao ncd];exact i1
   have g2:=CLs.updD (o:=.dT<|bX D' (cY c)<|.bl IS) i3 i2;have g3:=CLs.updD (o:=.dT<|bX D' (cY c)<|.bl IS) i3 i8;have g4:upd G dk (.dT<|bX D' (cY c)<|.bl IS) sl=B' (.lst ys):=by rw[ao nsd];exact i7
   have g5:CL (upd G dk<|.dT<|bX D' (cY c)<|.bl IS) c (.ref tc):=CL.updD ⟨tc,rfl,Vu⟩ i3;have g6:upd G dk (.dT<|bX D' (cY c)<|.bl IS) dk=B' (.dT<|bX D' (cY c)<|.bl IS):=ad;have g7:Same H (upd G dk<|.dT<|bX D' (cY c)<|.bl IS):=i6.upd_new fdk _;have g8:(bX D' (cY c)<|.bl IS).length<=cs.length+(i+1):=by have:=cx D' (cY c)<|.bl IS;lia
   have g9:∀k:IG Int,(cn (bX D' (cY c)<|.bl IS)<|cY k).isSome=decide (k∈eN cs (out.take i)++[c]):=λk=>by
    rw[j5];by_cases e:k=c
    ·subst e;rw[JF rfl];simp
    ·rw[JD λz=>e<|keyI_inj.mp z,i4,Lw];simp [e]
   have hjl:=mF (out.take i) cs;rw[JN]at hjl;have hzl:=i2.length;generalize upd G dk (.dT<|bX D' (cY c)<|.bl IS)=G1 at g1 g2 g3 g4 g5 g6 g7 ⊢;refine⟨_,rfl,.inl ⟨rfl,_,SqL.of g1⟩,_,rfl,cl,_,_,rfl,rfl,g1,aD (by lia),?_⟩;refine⟨_,zs'++[.ref tc],_,rfl,ad,?_,?_,?_,g8,g7.upd_new fcl _,?_,g3.upd g1⟩
   ·rw[ej];exact CLs.snoc (g5.upd g1)<|g2.upd g1
   ·rw[ao λz=>ncd z.symm];exact g6
   ·rw[ej];exact g9
   ·rw[ao nsc];exact g4
 ·rintro σ G ⟨x5,zs',D',rfl,i1,i2,i3,i4,i5,i6,i7,i8⟩;rw[Jy<|by rw[<-UV.length];exact IX _]at i2;refine⟨_,rfl,.inr<|.inl ⟨p,_,0,.str t,rfl,rfl,SqT.of<|i6 _ _ hp,rfl,_,rfl,(by show 2<=sizeLine;decide),λr nr=>?_⟩⟩;have k5:=ag nr<|.tup [.str t,.ref cl];exact q' r cl zs' _ (i6.trans k5) (i6.free nr) fcl ad (k5 _ _ i1)<|i2.mono k5
end
abbrev A9:KL:=eB 55
abbrev A_:KL:=eB 57
def dH{α:Type}(F:Jm->IG α)(b:Jm)(x:α):Jm->IG α:=λc=>if c=b then F c++[x]else F c
theorem cW{α:Type}(F:Jm->IG α)(b:Jm)(x:α):dH F b x b=F b++[x]:=JF rfl
theorem fj{α:Type}(F:Jm->IG α)(x:α)(h:c≠b):dH F b x c=F c:=JD h
def fL(l:Jm->IL):IG (bv×V):=[(NF<|aI IU,.ref<|l IU),(NF<|aI IS,.ref<|l IS)]
theorem fk(h:H d=B' (.dK<|fL l))(b:Jm):DGet H d (.str<|aI b) (B'<|.ref<|l b):=by
 have e:cn (fL l) (NF<|aI b)=B' (.ref<|l b):=by
  cases b<;>rfl
 rw[<-e];exact DGet.k (k:=NF<|aI b) h
structure LedAt (t:Str)(cs:IG (IG Int))(dl dS:IL)(ll sl:Jm->IL)(H:Hp)(L:Jm->IG Jg)(S:Jm->IG (IG Int)):Prop where
 hl:H dl=B' (.dK<|fL ll)
 hs:H dS=B' (.dK<|fL sl)
 l1:ll IU≠ll IS
 s1:sl IU≠sl IS
 ls:∀a b,ll a≠sl b
 l:∀b,∃vs,H (ll b)=B' (.lst vs)/\dC H (L b) vs
 s:∀b,∃vs,H (sl b)=B' (.lst vs)/\CLs H (S b) vs
 good:∀b,∀d∈L b,bO d
 run:∀b,bq t cs b [] (L b)=(S b,IS)
def Mov(ll sl:Jm->IL)(H H':Hp):Prop:=∀b o,(∀x,b≠ll x/\b≠sl x)->H b=B' o->H' b=B' o
theorem Mov.trans(a:Mov ll sl H H')(b:Mov ll sl H' H''):Mov ll sl H H'':=λx o h e=>b x o h<|a x o h e
theorem Mov.of(a:Same H H'):Mov ll sl H H':=λx o _ e=>a x o e
section
variable {t:Str}{cs:IG (IG Int)}{dl dS:IL}{ll sl:Jm->IL}{H:Hp}{L:Jm->IG Jg}{S:Jm->IG (IG Int)}
theorem LedAt.llne(h:LedAt t cs dl dS ll sl H L S)(e:a≠b):ll a≠ll b:=by
 cases a<;>cases b
 ·exact absurd rfl e
 ·exact h.l1
 ·exact λz=>h.l1 z.symm
 ·exact absurd rfl e
theorem LedAt.slne(h:LedAt t cs dl dS ll sl H L S)(e:a≠b):sl a≠sl b:=by
 cases a<;>cases b
 ·exact absurd rfl e
 ·exact h.s1
 ·exact λz=>h.s1 z.symm
 ·exact absurd rfl e
theorem LedAt.same(h:LedAt t cs dl dS ll sl H L S)(k:Same H H'):LedAt t cs dl dS ll sl H' L S:=
 ⟨k _ _ h.hl,k _ _ h.hs,h.l1,h.s1,h.ls,λb=>let ⟨vs,a,r⟩:=h.l b;⟨vs,k _ _ a,bn k _ _ r⟩,λb=>let ⟨vs,a,r⟩:=h.s b;⟨vs,k _ _ a,r.mono k⟩,h.good,h.run⟩
theorem LedAt.len(h:LedAt t cs dl dS ll sl H L S)(b:Jm):(S b).length=(L b).length:=by
 have:=bY<|h.run b;simpa using this
theorem LedAt.tupNe(h:LedAt t cs dl dS ll sl H L S)(e:H a=B' (.tup vs)):∀x,a≠ll x/\a≠sl x:=λx=>by
 obtain⟨_,h1,_⟩:=h.l x;obtain⟨_,h2,_⟩:=h.s x;exact⟨λz=>(by rw[z,h1]at e;cases e),λz=>(by rw[z,h2]at e;cases e)⟩
theorem LedAt.newNe(h:LedAt t cs dl dS ll sl H L S)(e:H a=IV):∀x,a≠ll x/\a≠sl x:=λx=>by
 obtain⟨_,h1,_⟩:=h.l x;obtain⟨_,h2,_⟩:=h.s x;exact⟨λz=>(by rw[z,h1]at e;cases e),λz=>(by rw[z,h2]at e;cases e)⟩
theorem iP:∀{ds:IG Jg} {sets out:IG (IG Int)},bq t cs hw sets ds=(out,IS)->aM t cs hw out d=B' c->bq t cs hw sets (ds++[d])=(out++[c],IS)
 |[],sets,out,h,g=>by
  cases h;show(match aM t cs hw sets d with|none=>(sets,IU)|some c=>bq t cs hw (sets++[c]) [])=_
  rw[g];rfl
 |e::ds,sets,out,h,g=>by
  show(match aM t cs hw sets e with|none=>(sets,IU)|some c=>bq t cs hw (sets++[c])<|ds++[d])=_
  have h':(match aM t cs hw sets e with|none=>(sets,IU)|some c=>bq t cs hw (sets++[c]) ds)=(out,IS):=h;cases q:aM t cs hw sets e with
  |none=>rw[q]at h';cases h'
  |some c'=>
   rw[q]at h';exact iP h' g
theorem LedAt.put(h:LedAt t cs dl dS ll sl H L S){hw:Jm}{d:Jg}{c:IG Int}{v u:V}{ls ss:IG V}(hv:RD H d v)(hg:bO d)(hu:CL H c u)(hc:aM t cs hw (S hw) d=B' c)(e1:H (ll hw)=B' (.lst ls))(e2:H (sl hw)=B' (.lst ss))(r1:dC H (L hw) ls)(r2:CLs H (S hw) ss):
  LedAt t cs dl dS ll sl (upd (upd H (ll hw)<|.lst<|ls++[v]) (sl hw)<|.lst<|ss++[u]) (dH L hw d) (dH S hw c):=by
 have n1:ll hw≠sl hw:=h.ls _ _;have d1:dl≠ll hw:=λz=>by have:=h.hl;rw[z,e1]at this;cases this
 have d2:dl≠sl hw:=λz=>by have:=h.hl;rw[z,e2]at this;cases this
 have d3:dS≠ll hw:=λz=>by have:=h.hs;rw[z,e1]at this;cases this
 have d4:dS≠sl hw:=λz=>by have:=h.hs;rw[z,e2]at this;cases this
 have e2':upd H (ll hw) (.lst<|ls++[v]) (sl hw)=B' (.lst ss):=by rw[ao λz=>n1 z.symm];exact e2
 have g1:bO d:=hg;refine⟨?_,?_,h.l1,h.s1,h.ls,λb=>?_,λb=>?_,λb=>?_,λb=>?_⟩
 ·rw[ao d2,ao d1];exact h.hl
 ·rw[ao d4,ao d3];exact h.hs
 ·by_cases hb:b=hw
  ·subst hb;refine⟨ls++[v],?_,?_⟩
   ·rw[ao n1];exact ad
   ·rw[cW];have all:∀x∈L b++[d],bO x:=λx hx=>by
     obtain hx|hx:=JA.mp hx
     ·exact h.good b x hx
     ·rw[Jf.mp hx];exact hg
    exact ce e2' all<|ce e1 all<|RDs_app1 r1<|am hv aH
  ·obtain⟨vs,a,r⟩:=h.l b;refine⟨vs,?_,?_⟩
   ·rw[ao<|h.ls _ _,ao<|h.llne hb];exact a
   ·rw[fj _ _ hb];exact ce e2' (h.good b)<|ce e1 (h.good b) r
 ·by_cases hb:b=hw
  ·subst hb;exists ss++[u],ad;rw[cW];exact((CLs.snoc hu r2).upd e1).upd e2'
  ·obtain⟨vs,a,r⟩:=h.s b;refine⟨vs,?_,?_⟩
   ·rw[ao<|h.slne hb,ao λz=>h.ls hw b z.symm];exact a
   ·rw[fj _ _ hb];exact(r.upd e1).upd e2'
 ·by_cases hb:b=hw
  ·subst hb;rw[cW];intro x hx;obtain hx|hx:=JA.mp hx
   ·exact h.good b x hx
   ·rw[Jf.mp hx];exact hg
  ·rw[fj _ _ hb];exact h.good b
 ·by_cases hb:b=hw
  ·subst hb;rw[cW,cW];exact iP (h.run b) hc
  ·rw[fj _ _ hb,fj _ _ hb];exact h.run b
where
 RDs_app1 {H:Hp}:∀{ds es:IG Jg} {xs ys:IG V},dC H ds xs->dC H es ys->dC H (ds++es) (xs++ys)
  |[],es,xs,ys,h,g=>by
   have:=cq h;rw[Kt.mp this];exact g
  |d::ds,es,xs,ys,h,g=>by
   obtain⟨y,zs,rfl,r,t⟩:=aL h;exact am r<|RDs_app1 t g
theorem Ba(h:LedAt t cs dl dS ll sl H L S):Mov ll sl H (upd (upd H (ll hw) x) (sl hw) y):=λb o n e=>by
 rw[ao (n hw).2,ao (n hw).1];exact e
end
inductive Gu (vs:IG V)(H:Hp)(Q:VK):Prop
 |mk (t:Str)(cs:IG (IG Int))(dl dS:IL)(ll sl:Jm->IL)(L:Jm->IG Jg)(S:Jm->IG (IG Int))(hw:Jm)(v u:V)(d:Jg)(c:IG Int)(h0:vs=[.ref dl,.ref dS,.str<|aI hw,v,u])(h:LedAt t cs dl dS ll sl H L S)(hv:RD H d v)(hg:bO d)(hu:CL H c u)(hc:aM t cs hw (S hw) d=B' c)(hn:(S hw).length<=900)(q:∀H',Mov ll sl H H'->LedAt t cs dl dS ll sl H' (dH L hw d) (dH S hw c)->Q (.int ((S hw).length:Int)) H'):Gu vs H Q
def mP:Sp:=λvs H Q _=>Gu vs H Q
inductive Gv (vs:IG V)(H:Hp)(Q:VK):Prop
 |mk (t:Str)(cs:IG (IG Int))(dl dS:IL)(ll sl:Jm->IL)(L:Jm->IG Jg)(S:Jm->IG (IG Int))(hw:Jm)(n:Nat)(c:IG Int)(h0:vs=[.str t,.ref dl,.ref dS,.str<|aI hw,.int (n:Int)])(h:LedAt t cs dl dS ll sl H L S)(ht:t.length<=9)(hc:(S hw)[n]? =B' c) (hk:aS t.length c) (hn:(S hw).length<=900) (q:∀H' d,Mov ll sl H H'->LedAt t cs dl dS ll sl H' (dH L hw d) (dH S hw<|cZ t hw c)->Q (.int ((S hw).length:Int)) H'):Gv vs H Q
def tP:Sp:=λvs H Q _=>Gv vs H Q
structure Gw (mg:Str->IQ IH):Prop where
 len:mg "len"=IV
section
variable {P:Jc}{w:Jv}{K:IJ}{mg:Str->IQ IH}{base:JM}
theorem Ci:aF ["_law_lines","_law_sets","_law_hand","_law_line","_law_literals"] ["_law_lines","_law_sets","_law_hand","_law_line","_law_literals"] (ap A9):=eR
theorem Ek(F:Fun K "_law_put" "_law_put" A9 f fd)(T:Gw mg):FnOk P w K mg base c6 1 f fd ["_law_lines","_law_sets","_law_hand","_law_line","_law_literals"] mP:=by
 have sc:=Ci;refine F.okA Ci λLY A outer s H vs Q E hr h=>?_;obtain⟨t,cs,dl,dS,ll,sl,L,S,hw,v,u,d,c,rfl,h,hv,hg,hu2,hc,hn,q⟩:=h;have hu:=hr.units;have T9:(A.deeper<|JU "_law_put" (ap A9) s.heap.objs.size f LY).units+1 < Mt:=by lia
 obtain⟨ls,e1,r1⟩:=h.l hw;obtain⟨ss,e2,r2⟩:=h.s hw;have hll:=cq r1;have VW:=r2.length;have hls:=h.len hw;have n1:ll hw≠sl hw:=h.ls _ _;have e2':upd H (ll hw) (.lst<|ls++[v]) (sl hw)=B' (.lst ss):=by rw[ao λz=>n1 z.symm];exact e2
 have d3:dS≠ll hw:=λz=>by have:=h.hs;rw[z,e1]at this;cases this
 have Vw:upd H (ll hw) (.lst<|ls++[v]) dS=B' (.dK<|fL sl):=by rw[ao d3];exact h.hs
 have put:=h.put hv hg hu2 hc e1 e2 r1 r2;refine⟨_,(af (cp<|d_ JY J3 J_ bM (cX T9 (pv 0) (pv 2) λ_ _=>rfl)<|aa (pv 3) ae)
  (af (cp<|d_ JY J3 J_ bM (cX T9 (pv 1) (pv 2) λ_ _=>rfl)<|aa (pv 4) ae)
  (ai<|aw<|aG eW (au a_ rfl T.len Kc<|aa (cX T9 (pv 1) (pv 2) λ_ _=>rfl) ae) ah))),?_⟩
 exists _,rfl,_,rfl,dl,_,rfl,fk h.hl hw,.inl ⟨rfl,_,SqL.of e1⟩,_,rfl,ll hw,_,_,rfl,rfl,e1,aD (by lia);exists _,rfl,_,rfl,dS,_,rfl,fk Vw hw,.inl ⟨rfl,_,SqL.of e2'⟩,_,rfl,sl hw,_,_,rfl,rfl,e2',aD (by lia);exists _,rfl,_,rfl,dS,_,rfl,fk put.hs hw,.ref<|sl hw,_,rfl,.inl ⟨_,SqL.of ad,rfl⟩,_,_,rfl,rfl;have en:((ss++[u]).length:Int) - 1=((S hw).length:Int):=by
  rw[I_,JW];lia
 rw[en];exact q _ (Ba h) put
theorem tQ{t:Str}{cs sets:IG (IG Int)}{hw:Jm}{c:IG Int}{n:Nat}(h:sets[n]? =B' c):aM t cs hw sets (.tuple [.str aC,.int (n:Int)])=B' (cZ t hw c):=by
 have f0:bK aR 2 (.tuple [.str aC,.int (n:Int)])=false:=by
  show(decide (2=2)&&decide (aC=aR))=IU
  decide+kernel
 have f1:bK bp 2 (.tuple [.str aC,.int (n:Int)])=false:=by
  show(decide (2=2)&&decide (aC=bp))=IU
  decide+kernel
 have f2:bK aV 4 (.tuple [.str aC,.int (n:Int)])=false:=rfl;have f3:bK aC 2 (.tuple [.str aC,.int (n:Int)])=true:=by
  show(decide (2=2)&&decide (aC=aC))=IS
  simp
 have hn:n < sets.length:=(IY.mp h).1;unfold aM;rw[f0,f1,f2,f3,J8,J8,JD Jz,JD Jz,JD Jz,JF rfl];show(bh sets.length<|.int (n:Int)).map (λi=>cZ t hw<|sets.getD i [])=_
 have e:bh sets.length (.int (n:Int))=B' n:=by
  show(if 0<=(n:Int)/\(n:Int) < (sets.length:Int)then B' (n:Int).toNat else IV)=B' n
  rw[JF ⟨by lia,by lia⟩];simp
 rw[e];show B' (cZ t hw<|sets.getD n [])=_
 rw[Jd,h];rfl
theorem Cj:aF ["_law_turns","_law_lines","_law_sets","_law_hand","_law_place"] ["_law_turns","_law_lines","_law_sets","_law_hand","_law_place"] (ap A_):=eR
theorem El(F:Fun K "_law_drop" "_law_drop" A_ f fd)(Nk:Fe P w K mg base 1 "_law_put" mP)(Ze:Fe P w K mg base 2 "_law_rest" tL):FnOk P w K mg base c6 3 f fd ["_law_turns","_law_lines","_law_sets","_law_hand","_law_place"] tP:=by
 have sc:=Cj;refine F.okA Cj λLY A outer s H vs Q E hr h=>?_;obtain⟨t,cs,dl,dS,ll,sl,L,S,hw,n,c,rfl,h,ht,hc,hk,hn,q⟩:=h;have hu:=hr.units;have T9:(A.deeper<|JU "_law_drop" (ap A_) s.heap.objs.size f LY).units+1 < Mt:=by lia
 exists _,(ai<|aw<|ck Nk hr<|aa (pv 1)<|aa (pv 2)<|aa (pv 3)<|aa (aZ<|aa aB<|aa (pv 4) ae)<|aa (ck Ze hr<|aa (pv 0)<|aa (pv 3)<|aa (aE ax (cX T9 (pv 2) (pv 3) λ_ _=>rfl) (pv 4) λ_ _=>rfl) ae) ae);refine⟨_,rfl,_,rfl,_,rfl,_,rfl,(by show 2<=sizeLine;decide),λtp ZK=>?_⟩;have k1:=ag ZK<|.tup [.str<|IK "drop",.int (n:Int)];have s1:upd H tp (.tup [.str<|IK "drop",.int (n:Int)]) tp=B' (.tup [.str aC,.int (n:Int)]):=ad;generalize upd H tp (.tup [.str<|IK "drop",.int (n:Int)])=H1 at k1 s1 ⊢;have h1:=h.same k1;obtain⟨ss,e2,r2⟩:=h1.s hw;have VW:=r2.length;have hnl:n < (S hw).length:=(IY.mp hc).1;obtain⟨y,hy⟩:∃y,ss[n]? =B' y:=⟨_,IZ (by lia)⟩;obtain⟨c',ZA,l,rfl,hl⟩:=r2.get hy;rw[hc]at ZA;cases ZA;refine⟨_,rfl,_,rfl,_,rfl,_,rfl,dS,_,rfl,fk h1.hs hw,_,rfl,.inl ⟨sl hw,_,_,.ref l,rfl,rfl,SqL.of e2,aW hy,l,t,hw,c,rfl,by lia,hl,hk,λl2 H2 k2 Xs=>?_⟩⟩;exact⟨t,cs,dl,dS,ll,sl,L,S,hw,.ref tp,.ref l2,.tuple [.str aC,.int (n:Int)],cZ t hw c,rfl,h1.same k2,bj (k2 _ _ s1) (am (bQ _) (am (bN _) aH)),.inr (.inr (.inl ⟨_,rfl⟩)),⟨l2,rfl,Xs⟩,tQ hc,hn,λH' m hx=>q H' _ ((Mov.of (k1.trans k2)).trans m) hx⟩
end
abbrev Em:KL:=eB 58
def vx(bs:IG Jm)(z:Int):Jm:=decide (absI z<=(bs.length:Int))&&(bs.getD (absI z - 1).toNat IU == decide (z > 0))
theorem Bb(h:∀z∈ns,vx bs z=IS/\1<=absI z):Hd ns:=λa ha b hb e=>by
 have h1:=h a ha;have h2:=h b hb;unfold vx at h1 h2;rw[JT]at h1 h2;have g1:=eq_of_beq h1.1.2;have g2:=eq_of_beq h2.1.2;rw[e,g2]at g1;obtain⟨q1,q2⟩|⟨q1,q2⟩:=bC a<;>obtain⟨q3,q4⟩|⟨q3,q4⟩:=bC b
 ·lia
 ·rw[Mp]at g1;lia
 ·rw[Mp]at g1;lia
 ·lia
inductive Gx (vs:IG V)(H:Hp)(Q:VK):Prop
 |mk (p qa bg:IL)(t:Str)(zs:IG V)(cs:IG (IG Int))(bs:IG Jm)(h0:vs=[.ref p,.ref bg])(hp:H p=B' (.tup [.str t,.ref qa]))(ht:t.length<=9)(hq:H qa=B' (.lst zs))(hcs:CLs H cs zs)(h9:cs.length<=17)(hok:∀c∈cs,aS t.length c)(hb:H bg=B' (.lst<|bs.map V.bl))(hbl:bs.length<=t.length)
   (q1:∀c l H',Same H H'->re H' l c->aS t.length c->c.length<=18->(∀z∈c,vx bs z=IS)->kN c cs=IS->Q (.ref l) H') (q2:∀k H',Same H H'->k∈cs->(∀z∈k,vx bs z=IU)->Q .non H'):Gx vs H Q
def Ck:Sp:=λvs H Q _=>Gx vs H Q
inductive Gy (p bg ch:IL)(t:Str)(cs:IG (IG Int))(bs:IG Jm)(H:Hp)(i:Nat)(σ:St)(G:Hp):Prop
 |mk (x3 x4:IQ V)(ns:IG Int)(i0:σ=[B'<|.ref p,B'<|.ref bg,B'<|.ref ch,x3,x4])(i1:G ch=B' (.lst<|ns.map V.int))(i2:ns.length<=i)(i3:∀z∈ns,vx bs z=IS/\1<=absI z/\absI z<=(t.length:Int))(i4:∀k∈cs.take i,∃z∈ns,z∈k)(i5:Same H G):Gy p bg ch t cs bs H i σ G
structure Gz (mg:Str->IQ IH):Prop where
 len:mg "len"=IV
 abs:mg "abs"=IV
theorem rH(bs:IG Jm):((bs.map V.bl).length:Int)=(bs.length:Int):=by rw[IR]
theorem yO{bs:IG Jm}{z:Int}(h1:1<=absI z)(h2:absI z<=(bs.length:Int)):p_ (bs.map V.bl) (absI z - 1)=B' (.bl<|bs.getD (absI z - 1).toNat IU):=by
 have e:absI z - 1=(((absI z - 1).toNat:Nat):Int):=by lia
 have hl:(absI z - 1).toNat < bs.length:=by lia
 rw[e];refine aW ?_;rw[Jx,Mh,IZ hl,Jd,IZ hl];rfl
theorem dec_bl(a b:Jm):decide (V.bl a=V.bl b)=(a == b):=by cases a<;>cases b<;>rfl
section
variable {P:Jc}{w:Jv}{K:IJ}{mg:Str->IQ IH}{base:JM}
theorem Cl:aF ["_law_sentence_here","_law_begun","_law_chosen","_law_clause","_law_good"] ["_law_sentence_here","_law_begun"] (ap Em):=eR
theorem En(F:Fun K "_law_hits" "_law_hits" Em f fd)(T:Gz mg)(OC:Fe P w K mg base 1 "_law_set" lh):FnOk P w K mg base c6 2 f fd ["_law_sentence_here","_law_begun"] Ck:=by
 have sc:=Cl;refine F.okA Cl λLY A outer s H vs Q E hr h=>?_;obtain⟨p,qa,bg,t,zs,cs,bs,rfl,hp,ht,hq,hcs,h9,hok,hb,hbl,q1,q2⟩:=h;have hu:=hr.units;have hzl:=hcs.length;refine⟨_,(af (ar (i:=2) sc.nd rfl (Ob rfl)<|aN ae)
  (af (cR Ky rfl (b_<|aE ax (pv 0) ah λ_ _=>rfl) (aA (i:=3) sc.nd rfl<|Jl rfl)
   (ai (aP (aq (aQ hu) (bH (NY:=["_law_literal","_law_chosen"]) (idx:=[IV,B' 2]) rfl cS (dO<|pv 3) (λ_ _ _ _=>(aA (i:=0) (nD ["_law_literal","_law_chosen"]) rfl<|Jl rfl)) (λ_ _ _ _=>(cG<|aq (ie (K:=K) rfl) (pv 0) (pv 1)<|by with_unfolding_all rfl)) λ_ _ _ _=>(pv 0)) (aN ae)<|az _) (af (fe (i:=4) sc.nd rfl rfl (NY:=["_law_literal","_law_begun"]) (idx:=[IV,B' 1]) rfl cS (dO<|pv 3) (λ_ _ _ _=>(aA (i:=0) (nD ["_law_literal","_law_begun"]) rfl<|Jl rfl)) (λ_ _ _ _=>(cG<|aq jX (au bU rfl T.abs J5<|aa (pv 0) ae) (au (l7 (K:=K) rfl) rfl T.len Kc<|aa (pv 1) ae)<|az _)) (λ_ _ _ _=>(pv 0))<|by with_unfolding_all rfl)
    (af (fe (i:=4) sc.nd rfl rfl (NY:=["_law_literal","_law_begun"]) (idx:=[IV,B' 1]) rfl cS (b_<|pv 4) (λ_ _ _ _=>(aA (i:=0) (nD ["_law_literal","_law_begun"]) rfl<|Jl rfl)) (λ_ _ _ _=>(cG<|aq (aQ hu) (aE (iE (K:=K) rfl) (pv 1) (aG eW (au bU rfl T.abs J5<|aa (pv 0) ae) ah) λ_ _=>rfl) (dZ lO (pv 0) ah<|az _)<|az _)) (λ_ _ _ _=>(pv 0))<|by with_unfolding_all rfl)
    (af (aP (aq (aQ hu) (pv 4) (aN ae)<|az _) (ai<|aw bP) ay)
    (ai<|cp<|d_ JY J3 J_ bM (pv 2)<|aa (aE ax (pv 4) ah λ_ _=>rfl) ae)))) ay)))
  (ai<|aw<|ck OC hr<|aa (pv 2) ae))),?_⟩
 refine⟨Jw _,λch WW=>?_⟩;have k0:=ag WW<|.lst [];have r0:upd H ch (.lst []) ch=B' (.lst []):=ad;generalize upd H ch (.lst [])=H0 at k0 r0 ⊢;refine⟨_,rfl,.inr<|.inl ⟨p,_,1,.ref qa,rfl,rfl,SqT.of<|k0 _ _ hp,rfl,qa,rfl,⟨_,SqL.of<|k0 _ _ hq⟩,gr (K:=K) (a:=qa) (xs:=zs) (Gy p bg ch t cs bs H) ⟨IV,IV,[],rfl,r0,IX _,λ_ h=>(nomatch h),λk hk=>(by rw[OS]at hk;cases hk),k0⟩ ?_ ?_ ?_⟩⟩
 ·rintro i σ G _ ⟨_,_,_,_,_,_,_,_,k⟩;exact SqL.of<|k _ _ hq
 ·rintro i y σ G hy ⟨x3,x4,ns,rfl,j1,j2,j3,j4,kG⟩;have Te:i < zs.length:=(IY.mp hy).1;obtain⟨c,hc,tc,rfl,Vu⟩:=hcs.get hy;have hcm:=Ji hc;have ZW:=hok c hcm;have SU:=cQ ZW;have WH:cs.take (i+1)=cs.take i++[c]:=by rw[Kv,hc];rfl
  refine⟨_,rfl,tc,rfl,⟨_,SqT.of<|kG _ _ Vu⟩,λD hD=>?_⟩;refine cu [B'<|.ref ch] (oB λz=>ns.contains z) (λx=>x) rfl (kG _ _ Vu) hD (by rw[IR];lia) ?_ ?_ ?_
  ·intro x hx H' R k r;obtain⟨z,_,rfl⟩:=cr hx;exists _,rfl,_,rfl,ch,_,rfl,.inl<|SqL.of<|k _ _ j1,rfl,cw _,_,rfl;show R (qd (.int z)<|ns.map V.int) H'
   rw[cV];exact r
  ·intro x hx _ H' R k r;exact⟨_,rfl,r⟩
  rw[bW c (λz=>ns.contains z) _ λi=>rfl];have YT:∀z,z∈c.filter (λz=>ns.contains z)↔z∈c/\z∈ns:=λz=>by
   rw[Kr];simp
  generalize c.filter (λz=>ns.contains z)=is at YT;have k1:=ag hD<|.lst<|is.map V.int;have r1:upd G D (.lst<|is.map V.int) D=B' (.lst<|is.map V.int):=ad;generalize upd G D (.lst<|is.map V.int)=G1 at k1 r1 ⊢;refine⟨Jw _,λe1 he1=>?_⟩;have k2:=ag he1<|.lst [];have r2:upd G1 e1 (.lst []) e1=B' (.lst []):=ad;replace r1:=k2 _ _ r1;have k12:=k1.trans k2;generalize upd G1 e1 (.lst [])=G2 at k12 r1 r2 ⊢;clear k1 k2;refine .inr ⟨.list<|is.map .int,.list [],bG r1<|eh _,bG r2 aH,eA _,by decide+kernel,_,rfl,?_⟩;have ee:Kh (.list<|is.map .int) (.list [])=decide (is=[]):=jS is [];rw[ee];have kG2:=kG.trans k12;by_cases his:is=[]
  rotate_left
  ·rw[IW his];obtain⟨z,hz⟩:=N8 _ his;refine aO ⟨_,_,ns,rfl,k12 _ _ j1,UI j2,j3,λk hk=>?_,kG2⟩;rw[WH]at hk;obtain hk|hk:=JA.mp hk
   ·exact j4 k hk
   ·rw[Jf.mp hk];exact⟨z,((YT z).mp hz).2,((YT z).mp hz).1⟩
  rw[Jj his];refine aT ⟨_,rfl,tc,rfl,⟨_,SqT.of<|kG2 _ _ Vu⟩,λD1 hD1=>?_⟩;have b2:=kG2 _ _ hb;refine cu [B'<|.ref bg] (oB λz=>decide (absI z<=((bs.map V.bl).length:Int))) (λx=>x) rfl (kG2 _ _ Vu) hD1 (by rw[IR];lia) ?_ ?_ ?_
  ·intro x hx H' R k r;obtain⟨z,_,rfl⟩:=cr hx;exact⟨_,rfl,z,rfl,_,rfl,.ref bg,_,rfl,.inl ⟨_,SqL.of<|k _ _ b2,rfl⟩,_,_,rfl,rfl,_,rfl,r⟩
  ·intro x hx _ H' R k r;exact⟨_,rfl,r⟩
  rw[bW c (λz=>decide (absI z<=((bs.map V.bl).length:Int))) _ λi=>rfl];have Yo:∀z,z∈c.filter (λz=>decide (absI z<=((bs.map V.bl).length:Int)))↔z∈c/\absI z<=(bs.length:Int):=λz=>by
   rw[Kr,rH,Nv]
  have af4:=Lk (λz=>decide (absI z<=((bs.map V.bl).length:Int))) c;generalize c.filter (λz=>decide (absI z<=((bs.map V.bl).length:Int)))=as at Yo af4;have k3:=ag hD1<|.lst<|as.map V.int;have r3:upd G2 D1 (.lst<|as.map V.int) D1=B' (.lst<|as.map V.int):=ad;dsimp only;generalize upd G2 D1 (.lst<|as.map V.int)=G3 at k3 r3 ⊢;have k13:=k12.trans k3;have kG3:=kG.trans k13;have b3:=k3 _ _ b2;refine⟨_,rfl,D1,rfl,⟨_,SqL.of r3⟩,λD2 XR=>?_⟩;refine fW [B'<|.ref bg] (oB λz=>bs.getD (absI z - 1).toNat IU == decide (z > 0)) (λx=>x) rfl r3 XR (by rw[IR];lia) ?_ ?_ ?_
  ·intro x hx H' R k r;obtain⟨z,hz,rfl⟩:=cr hx;have hz1:=(Yo z).mp hz;refine⟨_,rfl,_,rfl,z,rfl,_,_,rfl,rfl,.inl ⟨bg,_,_,.bl<|bs.getD (absI z - 1).toNat IU,rfl,rfl,SqL.of<|k _ _ b3,yO (ZW.2 z hz1.1).1 hz1.2,_,rfl,_,_,rfl,rfl,.inl ⟨rfl,_,rfl,?_⟩⟩⟩;rw[dec_bl];exact r
  ·intro x hx _ H' R k r;exact⟨_,rfl,r⟩
  rw[bW as (λz=>bs.getD (absI z - 1).toNat IU == decide (z > 0)) _ λi=>rfl];have Y':∀z,z∈as.filter (λz=>bs.getD (absI z - 1).toNat IU == decide (z > 0))↔z∈c/\vx bs z=true:=λz=>by
   rw[Kr,Yo];unfold vx;rw[JT,Nv,and_assoc]
  generalize as.filter (λz=>bs.getD (absI z - 1).toNat IU == decide (z > 0))=gs at Y';have k4:=ag XR<|.lst<|gs.map V.int;have r4:upd G3 D2 (.lst<|gs.map V.int) D2=B' (.lst<|gs.map V.int):=ad;dsimp only;generalize upd G3 D2 (.lst<|gs.map V.int)=G4 at k4 r4 ⊢;have k14:=k13.trans k4;refine⟨_,rfl,Jw _,λe2 he2=>?_⟩;have k5:=ag he2<|.lst [];have r5:upd G4 e2 (.lst []) e2=B' (.lst []):=ad;replace r4:=k5 _ _ r4;replace k14:=k14.trans k5;dsimp only;generalize upd G4 e2 (.lst [])=G5 at k14 r4 r5 ⊢;clear k5 k4;refine .inr ⟨.list<|gs.map .int,.list [],bG r4<|eh _,bG r5 aH,eA _,by decide+kernel,_,rfl,?_⟩;have ee2:Kh (.list<|gs.map .int) (.list [])=decide (gs=[]):=jS gs [];rw[ee2];have kG5:=kG.trans k14;cases gs with
  |nil=>
   rw[Jj rfl];refine aT<|q2 c _ kG5 hcm λz hz=>?_;cases g:vx bs z with
   |false=>rfl
   |true=>exact nomatch (Y' z).mpr ⟨hz,g⟩
  |cons e gs=>
   rw[IW<|Rf _ _];have he:=(Y' e).mp Jp;refine aO ⟨_,rfl,.inl ⟨rfl,_,SqL.of<|k14 _ _ j1⟩,_,rfl,.inl ⟨D2,_,0,.int e,rfl,rfl,SqL.of r4,aW (j:=0) rfl,ch,_,_,rfl,rfl,k14 _ _ j1,(by rw[IR];exact aD<|by lia),?_⟩⟩;refine⟨_,_,ns++[e],rfl,?_,by rw[I_];exact Rc j2,λz hz=>?_,λk hk=>?_,λb o eb=>?_⟩
   ·rw[ad,JO];rfl
   ·obtain hz|hz:=JA.mp hz
    ·exact j3 z hz
    ·rw[Jf.mp hz];exact⟨he.2,ZW.2 e he.1⟩
   ·rw[WH]at hk;obtain hk|hk:=JA.mp hk
    ·obtain⟨z,h1,h2⟩:=j4 k hk;exact⟨z,Na _ h1,h2⟩
    ·rw[Jf.mp hk];exact⟨e,Ku _ Jp,he.1⟩
   ·rw[ao<|aj eb WW];exact kG5 _ _ eb
 ·rintro σ G ⟨x3,x4,ns,rfl,j1,j2,j3,j4,kG⟩;rw[<-hzl,Jy<|IX _]at j4;refine⟨_,rfl,ch,ns,rfl,j1,by lia,Bb λz hz=>⟨(j3 z hz).1,(j3 z hz).2.1⟩,λl r G2 k2 hl hup hm=>?_⟩;have hrk:aS t.length r:=⟨hup,λz hz=>(j3 z<|(hm z).mp hz).2⟩;have hrl:=cQ hrk;refine q1 r l G2 (kG.trans k2) hl hrk (by lia) (λz hz=>(j3 z<|(hm z).mp hz).1) ?_;unfold kN;rw[Ly];intro k hk;obtain⟨z,h1,h2⟩:=j4 k hk;exact Ms.mpr ⟨z,(hm z).mpr h1,by simpa using h2⟩
end
abbrev HZ:KL:=eB 59
def jE(bs:IG Jm)(hw:Jm)(z:Int):Prop:=absI z<=(bs.length:Int)/\(bs.getD (absI z - 1).toNat IU == decide (z > 0))=hw
theorem yP{t:Str}{cs sets:IG (IG Int)}{c:IG Int}{n:Nat}(h:cs[n]? =B' c):aM t cs IU sets (.tuple [.str aR,.int (n:Int)])=B' c:=by
 have f1:bK aR 2 (.tuple [.str aR,.int (n:Int)])=true:=by
  show(decide (2=2)&&decide (aR=aR))=IS
  simp
 have hn:n < cs.length:=(IY.mp h).1;unfold aM;rw[f1,JF (show(!IU&&IS)=IS from rfl)];show(bh cs.length<|.int (n:Int)).map (λi=>cs.getD i [])=B' c
 have e:bh cs.length (.int (n:Int))=B' n:=by
  show(if 0<=(n:Int)/\(n:Int) < (cs.length:Int)then B' (n:Int).toNat else IV)=B' n
  rw[JF ⟨by lia,by lia⟩];simp
 rw[e];show B' (cs.getD n [])=B' c
 rw[Jd,h];rfl
theorem yQ(h:aS t.length c)(hh:kN c cs=IS):aM t cs IS sets (.tuple [.str bp,fM c])=B' c:=by
 have f1:bK bp 2 (.tuple [.str bp,fM c])=true:=by
  show(decide (2=2)&&decide (bp=bp))=IS
  simp
 have e:jx (fM c)=c:=by
  show((c.map Ox).map zD)=c
  rw[KJ];exact RB _
 unfold aM;rw[JD (by simp),f1,JF (show(IS&&IS)=IS from rfl)];show iJ t.length cs (fM c)=B' c
 unfold iJ;rw[Al h,e,hh];rfl
inductive Ip (vs:IG V)(H:Hp)(Q:VK):Prop
 |mk (p qa bg dl dS:IL)(ll sl:Jm->IL)(t:Str)(zs:IG V)(cs:IG (IG Int))(bs:IG Jm)(L:Jm->IG Jg)(S:Jm->IG (IG Int))(h0:vs=[.ref p,.ref dl,.ref dS,.ref bg])(hp:H p=B' (.tup [.str t,.ref qa]))(ht:t.length<=9)(hq:H qa=B' (.lst zs))(hcs:CLs H cs zs)(h9:cs.length<=17)(hok:∀c∈cs,aS t.length c)(hb:H bg=B' (.lst<|bs.map V.bl))(hbl:bs.length<=t.length)(h:LedAt t cs dl dS ll sl H L S)(hn:∀b,(S b).length<=900)
   (q1:∀hw c d tp H',Mov ll sl H H'->LedAt t cs dl dS ll sl H' (dH L hw d) (dH S hw c)->aS t.length c->(∀z∈c,jE bs hw z)->H' tp=B' (.tup [.str<|aI hw,.int ((S hw).length:Int)])->Q (.ref tp) H') (q2:∀H',Same H H'->bs.length < t.length->Q .non H'):Ip vs H Q
def Bc:Sp:=λvs H Q _=>Ip vs H Q
inductive H_ (p dl dS bg:IL)(cs:IG (IG Int))(bs:IG Jm)(H:Hp)(i:Nat)(σ:St)(G:Hp):Prop
 |mk (x4 x5 x6 x7:IQ V)(i0:σ=[B'<|.ref p,B'<|.ref dl,B'<|.ref dS,B'<|.ref bg,x4,x5,x6,x7])(i1:∀c∈cs.take i,∃z∈c,absI z > (bs.length:Int)\/vx bs z=IS)(i2:Same H G):H_ p dl dS bg cs bs H i σ G
structure GA (mg:Str->IQ IH):Prop where
 len:mg "len"=IV
 abs:mg "abs"=IV
 range:mg "range"=IV
section
variable {P:Jc}{w:Jv}{K:IJ}{mg:Str->IQ IH}{base:JM}
theorem GB:aF ["_law_sentence_here","_law_lines","_law_sets","_law_begun","_law_k","_law_clause","_law_some","_law_literals"] ["_law_sentence_here","_law_lines","_law_sets","_law_begun"] (ap HZ):=eR
theorem GC(F:Fun K "_law_seen" "_law_seen" HZ f fd)(T:GA mg)(Nk:Fe P w K mg base 1 "_law_put" mP)(Zf:Fe P w K mg base 2 "_law_hits" Ck):FnOk P w K mg base c6 3 f fd ["_law_sentence_here","_law_lines","_law_sets","_law_begun"] Bc:=by
 have sc:=GB;refine F.okA GB λLY A outer s H vs Q E hr h=>?_;obtain⟨p,qa,bg,dl,dS,ll,sl,t,zs,cs,bs,L,S,rfl,hp,ht,hq,hcs,h9,hok,hb,hbl,h,hn,q1,q2⟩:=h;have hu:=hr.units;have hzl:=hcs.length;refine⟨_,(af (cR Ky rfl (dj rfl T.range<|aa (au a_ rfl T.len Kc<|aa (aE ax (pv 0) ah λ_ _=>rfl) ae) ae) (aA (i:=4) sc.nd rfl<|Jl rfl)
   (af (ar (i:=5) sc.nd rfl (Jl rfl)<|aE ax (aE ax (pv 0) ah λ_ _=>rfl) (pv 4) λ_ _=>rfl)
   (af (fe (i:=6) sc.nd rfl rfl (NY:=["_law_literal","_law_begun"]) (idx:=[IV,B' 3]) rfl cS (dO<|pv 5) (λ_ _ _ _=>(aA (i:=0) (nD ["_law_literal","_law_begun"]) rfl<|Jl rfl)) (λ_ _ _ _=>(cG<|aq lO (au bU rfl T.abs J5<|aa (pv 0) ae) (au (l7 (K:=K) rfl) rfl T.len Kc<|aa (pv 1) ae)<|az _)) (λ_ _ _ _=>(pv 0))<|by with_unfolding_all rfl)
   (af (aP (aq (aQ hu) (pv 6) (aN ae)<|az _) (ai<|fe (i:=6) sc.nd rfl rfl (NY:=["_law_literal","_law_begun"]) (idx:=[IV,B' 3]) rfl cS (dO<|pv 5) (λ_ _ _ _=>(aA (i:=0) (nD ["_law_literal","_law_begun"]) rfl<|Jl rfl)) (λ_ _ _ _=>(cG<|aq (aQ hu) (aE (iE (K:=K) rfl) (pv 1) (aG eW (au bU rfl T.abs J5<|aa (pv 0) ae) ah) λ_ _=>rfl) (dZ lO (pv 0) ah<|az _)<|az _)) (λ_ _ _ _=>(pv 0))<|by with_unfolding_all rfl) ay)
   (ai<|aP (aq (aQ hu) (pv 6) (aN ae)<|az _) (ai<|aw<|aZ<|aa aB<|aa (ck Nk hr<|aa (pv 1)<|aa (pv 2)<|aa aB<|aa (aZ<|aa aB<|aa (pv 4) ae)<|aa (pv 5) ae) ae) ay)))))
  (af (ar (i:=7) sc.nd rfl (Jl rfl)<|ck Zf hr<|aa (pv 0)<|aa (pv 3) ae)
  (af (aP (aq qk (pv 7) bP<|az _) (ai<|aw bP) ay)
  (ai<|aw<|aZ<|aa aB<|aa (ck Nk hr<|aa (pv 1)<|aa (pv 2)<|aa aB<|aa (aZ<|aa aB<|aa (pv 7) ae)<|aa (pv 7) ae) ae)))),?_⟩
 refine⟨_,rfl,.inr<|.inl ⟨p,_,1,.ref qa,rfl,rfl,SqT.of hp,rfl,.ref qa,_,rfl,.inl ⟨_,SqL.of hq,rfl⟩,_,rfl,(by lia),(by lia),?_⟩⟩;refine dQ (lo:=0) (n:=zs.length) (H_ p dl dS bg cs bs H) ⟨IV,IV,IV,IV,rfl,λk hk=>(by rw[OS]at hk;cases hk),Same.refl _⟩ ?_ ?_
 ·rintro i σ G hi ⟨x4,x5,x6,x7,rfl,j4,kG⟩;obtain⟨y,hy⟩:∃y,zs[i]? =B' y:=⟨_,IZ hi⟩;obtain⟨c,hc,tc,rfl,Vu⟩:=hcs.get hy;have hcm:=Ji hc;have ZW:=hok c hcm;have SU:=cQ ZW;have WH:cs.take (i+1)=cs.take i++[c]:=by rw[Kv,hc];rfl
  refine⟨_,rfl,.inr<|.inl ⟨p,_,1,.ref qa,rfl,rfl,SqT.of<|kG _ _ hp,rfl,_,rfl,.inl ⟨qa,_,_,.ref tc,rfl,rfl,SqL.of<|kG _ _ hq,(by rw[UP];exact aW hy),?_⟩⟩⟩;have stay:∀G' a4 a5 a6 a7,Same H G'->(∃z∈c,absI z > (bs.length:Int)\/vx bs z=IS)->H_ p dl dS bg cs bs H (i+1) [B'<|.ref p,B'<|.ref dl,B'<|.ref dS,B'<|.ref bg,a4,a5,a6,a7] G':=λG' a4 a5 a6 a7 k hz=>⟨_,_,_,_,rfl,λe he=>by
   rw[WH]at he;obtain he|he:=JA.mp he
   ·exact j4 e he
   ·rw[Jf.mp he];exact hz,k⟩
  have b0:=kG _ _ hb;refine⟨_,rfl,tc,rfl,⟨_,SqT.of<|kG _ _ Vu⟩,λD1 hD1=>?_⟩;refine cu [B'<|.ref bg] (oB λz=>decide (absI z > ((bs.map V.bl).length:Int))) (λx=>x) rfl (kG _ _ Vu) hD1 (by rw[IR];lia) ?_ ?_ ?_
  ·intro x hx H' R k r;obtain⟨z,_,rfl⟩:=cr hx;exact⟨_,rfl,z,rfl,_,rfl,.ref bg,_,rfl,.inl ⟨_,SqL.of<|k _ _ b0,rfl⟩,_,_,rfl,rfl,_,rfl,r⟩
  ·intro x hx _ H' R k r;exact⟨_,rfl,r⟩
  rw[bW c (λz=>decide (absI z > ((bs.map V.bl).length:Int))) _ λi=>rfl];have Yo:∀z,z∈c.filter (λz=>decide (absI z > ((bs.map V.bl).length:Int)))↔z∈c/\absI z > (bs.length:Int):=λz=>by
   rw[Kr,rH,Nv]
  generalize c.filter (λz=>decide (absI z > ((bs.map V.bl).length:Int)))=as at Yo;have k3:=ag hD1<|.lst<|as.map V.int;have r3:upd G D1 (.lst<|as.map V.int) D1=B' (.lst<|as.map V.int):=ad;dsimp only;generalize upd G D1 (.lst<|as.map V.int)=G3 at k3 r3 ⊢;refine⟨_,rfl,Jw _,λe1 he1=>?_⟩;have k4:=ag he1<|.lst [];have r4:upd G3 e1 (.lst []) e1=B' (.lst []):=ad;replace r3:=k4 _ _ r3;have k34:=k3.trans k4;dsimp only;generalize upd G3 e1 (.lst [])=G4 at k34 r3 r4 ⊢;clear k3 k4;refine .inr ⟨.list<|as.map .int,.list [],bG r3<|eh _,bG r4 aH,eA _,by decide+kernel,_,rfl,?_⟩;have ee:Kh (.list<|as.map .int) (.list [])=decide (as=[]):=jS as [];rw[ee];have kG4:=kG.trans k34;by_cases has:as=[]
  rotate_left
  ·rw[IW has];obtain⟨z,hz⟩:=N8 _ has;refine aO ⟨_,rfl,Jw _,λe2 he2=>?_⟩;have k5:=ag he2<|.lst [];have r5:upd G4 e2 (.lst []) e2=B' (.lst []):=ad;replace r3:=k5 _ _ r3;dsimp only;generalize upd G4 e2 (.lst [])=G5 at k5 r3 r5 ⊢;refine .inr ⟨.list<|as.map .int,.list [],bG r3<|eh _,bG r5 aH,eA _,by decide+kernel,_,rfl,?_⟩;rw[ee,IW has];exact aO<|stay _ _ _ _ _ (kG4.trans k5) ⟨z,((Yo z).mp hz).1,.inl ((Yo z).mp hz).2⟩
  rw[Jj has];have hle:∀z∈c,absI z<=(bs.length:Int):=λz hz=>by
   have:=(not_congr<|Yo z).mp (by rw[has];exact O9);have:=not_and.mp this hz;lia
  have b4:=kG4 _ _ hb;refine aT ⟨_,rfl,tc,rfl,⟨_,SqT.of<|kG4 _ _ Vu⟩,λD2 XR=>?_⟩;refine cu [B'<|.ref bg] (oB λz=>bs.getD (absI z - 1).toNat IU == decide (z > 0)) (λx=>x) rfl (kG4 _ _ Vu) XR (by rw[IR];lia) ?_ ?_ ?_
  ·intro x hx H' R k r;obtain⟨z,hz,rfl⟩:=cr hx;refine⟨_,rfl,_,rfl,z,rfl,_,_,rfl,rfl,.inl ⟨bg,_,_,.bl<|bs.getD (absI z - 1).toNat IU,rfl,rfl,SqL.of<|k _ _ b4,yO (ZW.2 z hz).1<|hle z hz,_,rfl,_,_,rfl,rfl,.inl ⟨rfl,_,rfl,?_⟩⟩⟩;rw[dec_bl];exact r
  ·intro x hx _ H' R k r;exact⟨_,rfl,r⟩
  rw[bW c (λz=>bs.getD (absI z - 1).toNat IU == decide (z > 0)) _ λi=>rfl];have Y':∀z,z∈c.filter (λz=>bs.getD (absI z - 1).toNat IU == decide (z > 0))↔z∈c/\(bs.getD (absI z - 1).toNat IU == decide (z > 0))=true:=λz=>Kr;generalize c.filter (λz=>bs.getD (absI z - 1).toNat IU == decide (z > 0))=gs at Y';have k5:=ag XR<|.lst<|gs.map V.int;have r5:upd G4 D2 (.lst<|gs.map V.int) D2=B' (.lst<|gs.map V.int):=ad;dsimp only;generalize upd G4 D2 (.lst<|gs.map V.int)=G5 at k5 r5 ⊢;refine⟨_,rfl,Jw _,λe2 he2=>?_⟩;have k6:=ag he2<|.lst [];have r6:upd G5 e2 (.lst []) e2=B' (.lst []):=ad;replace r5:=k6 _ _ r5;have kG6:=kG4.trans<|k5.trans k6;dsimp only;generalize upd G5 e2 (.lst [])=G6 at kG6 r5 r6 ⊢;clear k5 k6;refine .inr ⟨.list<|gs.map .int,.list [],bG r5<|eh _,bG r6 aH,eA _,by decide+kernel,_,rfl,?_⟩;have ee2:Kh (.list<|gs.map .int) (.list [])=decide (gs=[]):=jS gs [];rw[ee2];by_cases hgs:gs=[]
  rotate_left
  ·rw[IW hgs];obtain⟨z,hz⟩:=N8 _ hgs;have hz3:=(Y' z).mp hz;refine aO<|stay _ _ _ _ _ kG6 ⟨z,hz3.1,.inr ?_⟩;unfold vx;rw[Jj<|hle z hz3.1,hz3.2];rfl
  rw[Jj hgs];refine aT ⟨_,rfl,_,rfl,_,rfl,(by show 2<=sizeLine;decide),λtp ZK=>?_⟩;have k7:=ag ZK<|.tup [.str<|IK "given",.int (0+(i:Int))];have s7:upd G6 tp (.tup [.str<|IK "given",.int (0+(i:Int))]) tp=B' (.tup [.str aR,.int (i:Int)]):=by rw[ad,UP];rfl
  dsimp only;generalize upd G6 tp (.tup [.str<|IK "given",.int (0+(i:Int))])=G7 at k7 s7 ⊢;have k07:=kG6.trans k7;refine⟨_,rfl,t,cs,dl,dS,ll,sl,L,S,IU,.ref tp,.ref tc,.tuple [.str aR,.int (i:Int)],c,rfl,h.same k07,bj s7<|am (bQ _)<|am (bN _) aH,.inl ⟨_,rfl⟩,⟨tc,rfl,k07 _ _ Vu⟩,yP hc,hn _,λH' m hx=>⟨(by show 2<=sizeLine;decide),λrt nrt=>?_⟩⟩;have k8:=ag nrt<|.tup [.str<|IK "spoiler",.int ((S IU).length:Int)];refine q1 IU c _ rt _ (((Mov.of k07).trans m).trans<|Mov.of k8) (hx.same k8) ZW (λz hz=>⟨hle z hz,?_⟩) ad;cases g:(bs.getD (absI z - 1).toNat IU == decide (z > 0))with
  |false=>rfl
  |true=>exact absurd ((Y' z).mpr ⟨hz,g⟩) (by rw[hgs];exact O9)
 ·rintro σ G ⟨x4,x5,x6,x7,rfl,j4,kG⟩;rw[<-hzl,Jy<|IX _]at j4;refine⟨_,rfl,_,rfl,p,qa,bg,t,zs,cs,bs,rfl,kG _ _ hp,ht,kG _ _ hq,hcs.mono kG,h9,hok,kG _ _ hb,hbl,λc l G1 k1 hl ZW SU htr hht=>?_,λk G1 k1 hk Zw=>?_⟩
  ·refine⟨_,rfl,rfl,_,rfl,aO ?_⟩;refine⟨_,rfl,_,rfl,_,rfl,(by show 2<=sizeLine;decide),λtp ZK=>?_⟩;have k7:=ag ZK<|.tup [.str<|IK "hits",.ref l];have s7:upd G1 tp (.tup [.str<|IK "hits",.ref l]) tp=B' (.tup [.str bp,.ref l]):=ad;have hl7:=k7 _ _ hl;dsimp only;generalize upd G1 tp (.tup [.str<|IK "hits",.ref l])=G7 at k7 s7 hl7 ⊢;have k07:=kG.trans<|k1.trans k7;refine⟨_,rfl,t,cs,dl,dS,ll,sl,L,S,IS,.ref tp,.ref l,.tuple [.str bp,fM c],c,rfl,h.same k07,bj s7<|am (bQ _)<|am (CL.rd ⟨l,rfl,hl7⟩) aH,.inr<|.inl ⟨c,SU,rfl⟩,⟨l,rfl,hl7⟩,yQ ZW hht,hn _,λH' m hx=>⟨(by show 2<=sizeLine;decide),λrt nrt=>?_⟩⟩;have k8:=ag nrt<|.tup [.str<|IK "wisher",.int ((S IS).length:Int)];refine q1 IS c _ rt _ (((Mov.of k07).trans m).trans<|Mov.of k8) (hx.same k8) ZW (λz hz=>?_) ad;have:=htr z hz;unfold vx at this;rw[JT,Nv]at this;exact this
  ·refine⟨_,rfl,rfl,_,rfl,aT<|q2 _ (kG.trans k1) ?_⟩;obtain⟨z,hz,hz2⟩:=j4 k hk;have:=(hok k hk).2 z hz;obtain g|g:=hz2
   ·lia
   ·rw[Zw z hz]at g;cases g
end
theorem tR(h1:1<=absI a)(ha:jE bs hw a)(hb:jE bs hw (-a)):False:=by
 have e:absI (-a)=absI a:=by
  obtain⟨_,e⟩|⟨_,e⟩:=bC a<;>obtain⟨_,e'⟩|⟨_,e'⟩:=bC (-a)<;>lia
 have g1:=ha.2;have g2:=hb.2;rw[e]at g2;rw[<-g2]at g1;have hz:a≠0:=λz=>by
  rw[z]at h1;obtain⟨_,e⟩|⟨_,e⟩:=bC (0:Int)<;>lia
 obtain q|q:=T5 hz
 ·rw[IW (show¬a > 0 by lia),Jj (show -a > 0 by lia)]at g1;generalize bs.getD (absI a - 1).toNat IU=x at g1;cases x<;>exact absurd g1 (by decide)
 ·rw[Jj (show a > 0 by lia),IW (show¬ -a > 0 by lia)]at g1;generalize bs.getD (absI a - 1).toNat IU=x at g1;cases x<;>exact absurd g1 (by decide)
theorem iQ(h1:1<=absI z)(h:jE (bs++[b]) hw z)(hz:absI z<=(bs.length:Int)):jE bs hw z:=by
 exists hz;have h2:=h.2;have e:(bs++[b]).getD (absI z - 1).toNat IU=bs.getD (absI z - 1).toNat false:=by
  rw[Jd,Jd,JP<|by lia]
 rw[e]at h2;exact h2
theorem oz(h:jE (bs++[b]) hw z):absI z<=(bs.length:Int)+1:=by
 have:=h.1;rw[I_,JW]at this;lia
theorem iR(h:jE (bs++[b]) hw z)(hz:absI z=(bs.length:Int)+1):(b == decide (z > 0))=hw:=by
 have h2:=h.2;have e:(bs++[b]).getD (absI z - 1).toNat IU=b:=by
  rw[Jd,show(absI z - 1).toNat=bs.length by lia,J0<|IX _,MM];rfl
 rw[e]at h2;exact h2
theorem pZ(h:z∈cZ t hw c):z∈c/\absI z<=gj t hw c:=by
 have:=Kr.mp h;exact⟨this.1,Kd this.2⟩
theorem yR(hk:aS t.length c)(h:∀z∈c,jE (bs++[b]) hw z)(ZR:(fi t bs.length == hw)=IS):∀z∈cZ t hw c,jE bs hw z:=λz hz=>by
 obtain⟨hc,hl⟩:=pZ hz;have hz1:=(hk.2 z hc).1;refine iQ hz1 (h z hc) ?_;obtain e|e:=(hG ((c.filter λl=>!(fi t (absI l - 1).toNat == hw)).map absI) 0).2
 ·have:gj t hw c=0:=e;lia
 ·obtain⟨y,hy,ey⟩:=J1.mp e;have hy':=Kr.mp hy;have ely:gj t hw c=absI y:=ey.symm;have hyl:=oz<|h y hy'.1;have:absI y≠(bs.length:Int)+1:=λq=>by
   have:=hy'.2;rw[show(absI y - 1).toNat=bs.length by lia,ZR]at this;cases this
  lia
theorem p6(h:∀z∈c,jE bs hw z):∀z∈cZ t hw c,jE bs hw z:=λz hz=>h z (pZ hz).1
theorem yS{t:Str}{cs sets:IG (IG Int)}{hw:Jm}{f s:IG Int}{i j:Nat}{z:Int}(hi:sets[i]? =B' f) (hj:sets[j]? =B' s) (h:dM t hw f s z=IS):aM t cs hw sets (.tuple [.str aV,.int (i:Int),.int (j:Int),.int z])=B' (dr f s z):=by
 have f0:bK aR 2 (.tuple [.str aV,.int (i:Int),.int (j:Int),.int z])=false:=rfl;have f1:bK bp 2 (.tuple [.str aV,.int (i:Int),.int (j:Int),.int z])=false:=rfl;have f2:bK aV 4 (.tuple [.str aV,.int (i:Int),.int (j:Int),.int z])=true:=by
  show(decide (4=4)&&decide (aV=aV))=IS
  simp
 have hni:i < sets.length:=(IY.mp hi).1;have hnj:j < sets.length:=(IY.mp hj).1;have pl:∀n,n < sets.length->bh sets.length (.int (n:Int))=B' n:=λn hn=>by
  show(if 0<=(n:Int)/\(n:Int) < (sets.length:Int)then B' (n:Int).toNat else IV)=B' n
  rw[JF ⟨by lia,by lia⟩];simp
 unfold aM;rw[f0,f1,f2,J8,J8,JD Jz,JD Jz,JF rfl];show dw t hw sets (.int (i:Int)) (.int (j:Int)) (.int z)=_
 unfold dw;rw[pl i hni,pl j hnj];show(if dM t hw (sets.getD i []) (sets.getD j []) z=IS then B' (dr (sets.getD i []) (sets.getD j []) z)else IV)=_
 rw[Jd,Jd,hi,hj];show(if dM t hw f s z=IS then B' (dr f s z)else IV)=_
 rw[JF h]
theorem yT(hf:aS t.length f)(hs:aS t.length s)(h1:∀z∈f,jE (bs++[b1]) hw z)(h2:∀z∈s,jE (bs++[b2]) hw z)(hv:v=(bs.length:Int)+1)(M6:bs.length < t.length)(ZR:(fi t bs.length == hw)=IU)(hvf:v∈f)(hvs:-v∈s):
  dM t hw f s v=IS/\eJ f s v=IU/\∀z,(z∈f\/z∈s)/\absI z≠v->jE bs hw z:=by
 have Z1:∀z,(z∈f\/z∈s)->absI z≠v->jE bs hw z:=λz hz S8=>by
  obtain hz|hz:=hz
  ·have:=oz<|h1 z hz;exact iQ (hf.2 z hz).1 (h1 z hz) (by lia)
  ·have:=oz<|h2 z hz;exact iQ (hs.2 z hz).1 (h2 z hz) (by lia)
 have hb:eJ f s v=false:=by
  cases g:eJ f s v with
  |false=>rfl
  |true=>
   unfold eJ at g;obtain⟨l,hl,Xs⟩:=Ms.mp g;have UX:=Kr.mp hl;have S8:absI l≠v:=by
    have:=UX.2;simpa using this
   have hms:-l∈s:=JX.mp Xs;have e:absI (-l)=absI l:=by
    obtain⟨_,e⟩|⟨_,e⟩:=bC l<;>obtain⟨_,e'⟩|⟨_,e'⟩:=bC (-l)<;>lia
   exact(tR (hf.2 l UX.1).1 (Z1 l (.inl UX.1) S8)<|Z1 (-l) (.inr hms)<|by rw[e];exact S8).elim
 refine⟨?_,hb,λz hz=>Z1 z hz.1 hz.2⟩;unfold dM;have m:v∈dh t (!hw):=mem_vars.mpr ⟨by lia,by lia,by
  rw[show(v - 1).toNat=bs.length by lia];generalize fi t bs.length=x at ZR;cases x<;>cases hw<;>first|rfl|exact absurd ZR<|by decide⟩
 rw[hb,JX.mpr m,JX.mpr hvf,JX.mpr hvs];rfl
abbrev vk:KL:=eB 60
theorem Bd(h1:H a=B' (.tup xs))(h2:H b=B' (.tup ys))(hz:xs.length+ys.length<=sizeLine)(q:∀c H',Same H H'->H' c=B' (.tup<|xs++ys)->Q (.ref c) H'):BQ K (.ref a) (.ref b) H Q:=
 ⟨a,b,xs,ys,rfl,rfl,SqT.of h1,SqT.of h2,hz,λe=>q _ _ (Same.refl _) (by rw[e];exact h2),λ_ e=>q _ _ (Same.refl _) (by rw[e,Kg];exact h1),λ_ _ p hp=>q _ _ (ag hp _) ad⟩
section
variable {t:Str}{cs:IG (IG Int)}{dl dS:IL}{ll sl:Jm->IL}{H:Hp}{L:Jm->IG Jg}{S:Jm->IG (IG Int)}
theorem LedAt.upd'(h:LedAt t cs dl dS ll sl H L S)(ha:H a=B' (.lst ys))(hn:∀x,a≠ll x/\a≠sl x):LedAt t cs dl dS ll sl (upd H a o) L S:=by
 refine⟨?_,?_,h.l1,h.s1,h.ls,λb=>?_,λb=>?_,h.good,h.run⟩
 ·rw[ao (λz=>by have:=h.hl;rw[z,ha]at this;cases this)];exact h.hl
 ·rw[ao (λz=>by have:=h.hs;rw[z,ha]at this;cases this)];exact h.hs
 ·obtain⟨vs,e,r⟩:=h.l b;exact⟨vs,by rw[ao λz=>(hn b).1 z.symm];exact e,ce ha (h.good b) r⟩
 ·obtain⟨vs,e,r⟩:=h.s b;exact⟨vs,by rw[ao λz=>(hn b).2 z.symm];exact e,r.upd ha⟩
theorem LedAt.cls(h:LedAt t cs dl dS ll sl H L S)(m:Mov ll sl H H'):∀{ks:IG (IG Int)} {zs:IG V},CLs H ks zs->CLs H' ks zs
 |_,_,.nil=>.nil
 |_,_,.cons ⟨a,e,ha⟩ r=>.cons ⟨a,e,m _ _ (h.tupNe ha) ha⟩<|LedAt.cls h m r
end
theorem iS{S:Jm->IG (IG Int)}(h:∀b,∃more,S' b=S b++more)(b:Jm):∃more,dH S' hw c b=S b++more:=by
 obtain⟨m,e⟩:=h b;by_cases hb:b=hw
 ·subst hb;exact⟨m++[c],by rw[cW,e,JG]⟩
 ·exact⟨m,by rw[fj _ _ hb,e]⟩
theorem gf(S:Jm->IG (IG Int))(hw:Jm)(c:IG Int)(b:Jm):(dH S hw c b).length<=(S b).length+1:=by
 by_cases hb:b=hw
 ·subst hb;rw[cW,I_];exact IX _
 ·rw[fj _ _ hb];exact NW _
theorem ly(S:Jm->IG (IG Int))(hw:Jm)(c:IG Int):(dH S hw c hw)[(S hw).length]? =B' c:=by
 rw[cW,J0<|IX _,MM];rfl
theorem Be(h:∀z∈ns,1<=absI z/\jE bs hw z):Hd ns:=λa ha b hb e=>by
 obtain z|z:=kM e
 ·exact z
 ·subst z;exact(tR (h a ha).1 (h a ha).2 (h _ hb).2).elim
theorem jh(h:aS n c):aS n (cZ t hw c):=pG h
inductive GD (f:Nat)(vs:IG V)(H:Hp)(Q:VK):Prop
 |mk (p qa bg dl dS:IL)(ll sl:Jm->IL)(t:Str)(zs:IG V)(cs:IG (IG Int))(bs:IG Jm)(L:Jm->IG Jg)(S:Jm->IG (IG Int))(h0:vs=[.ref p,.ref dl,.ref dS,.ref bg])(hp:H p=B' (.tup [.str t,.ref qa]))(ht:t.length<=9)(hq:H qa=B' (.lst zs))(hqn:∀x,qa≠ll x/\qa≠sl x)(hcs:CLs H cs zs)(h9:cs.length<=17)(hok:∀c∈cs,aS t.length c)(hb:H bg=B' (.lst<|bs.map V.bl))(hbn:∀x,bg≠ll x/\bg≠sl x)(hbl:bs.length+f=t.length)(h:LedAt t cs dl dS ll sl H L S)(hn:∀b,(S b).length+4*2 ^ f<=900)
   (q:∀(hw:Jm) (n:Nat) (c:IG Int) (tp:IL) (H':Hp) (L':Jm->IG Jg) (S':Jm->IG (IG Int)),Mov ll sl H H'->LedAt t cs dl dS ll sl H' L' S'->(∀b,∃more,S' b=S b++more)->(∀b,(S' b).length+2<=(S b).length+4*2 ^ f)->(S' hw)[n]? =B' c->aS t.length c->(∀z∈c,jE bs hw z)->H' tp=B' (.tup [.str<|aI hw,.int (n:Int)])->Q (.ref tp) H'):GD f vs H Q
def yU(f:Nat):Sp:=λvs H Q _=>GD f vs H Q
def yV:Nat->Sp
 |0=>λ_ _ _ _=>False
 |f+1=>yU f
inductive GE (p dl dS bg fa vl:IL)(ll sl:Jm->IL)(t:Str)(cs:IG (IG Int))(bs:IG Jm)(v:Int)(OJ:Jm)(H:Hp)(S0:Jm->IG (IG Int))(m:Nat)(j:Nat)(σ:St)(G:Hp):Prop
 |mk (x7 x8 x9:IQ V)(ns:IG Nat)(L:Jm->IG Jg)(S:Jm->IG (IG Int))(i0:σ=[B' (.ref p),B' (.ref dl),B' (.ref dS),B' (.ref bg),B' .non,B' (.int v),B' (.ref fa),x7,x8,x9,IV,IV])(i1:G fa=B' (.lst (ns.map λn:Nat=>V.int (n:Int))))(i2:ns.length=j)(i3:1<=j->x8=B' (.str<|aI OJ))(i4:∀k n,ns[k]? =B' n->∃c,(S OJ)[n]? =B' c/\aS t.length c/\∀z∈c,jE (bs++[decide (k=1)]) OJ z) (i5:LedAt t cs dl dS ll sl G L S) (i6:∀b,∃more,S b=S0 b++more) (i7:∀b,(S b).length+2*j<=(S0 b).length+j*m) (i8:Mov ll sl H G) (i9:G vl=B' (.lst [.bl IU,.bl IS])):GE p dl dS bg fa vl ll sl t cs bs v OJ H S0 m j σ G
inductive yW (p dl dS bg fa mi:IL)(v:Int)(OJ:Jm)(c0 c1:IG Int)(x7:IQ V)(G0:Hp)(j:Nat)(σ:St)(G:Hp):Prop
 |mk (x9:IQ V)(i0:σ=[B'<|.ref p,B'<|.ref dl,B'<|.ref dS,B'<|.ref bg,B' .non,B'<|.int v,B'<|.ref fa,x7,B'<|.str<|aI OJ,x9,B'<|.ref mi,IV])(i1:1<=j->v∈c0\/ -v∈c0)(i2:2<=j->v∈c1\/ -v∈c1)(i3:G=G0):yW p dl dS bg fa mi v OJ c0 c1 x7 G0 j σ G
theorem Bf{S S':Jm->IG (IG Int)}{hw:Jm}{n:Nat}{c:IG Int}(h:∀b,∃more,S' b=S b++more)(e:(S hw)[n]? =B' c):(S' hw)[n]? =B' c:=by
 obtain⟨m,q⟩:=h hw;rw[q,JP (IY.mp e).1];exact e
structure Bg (mg:Str->IQ IH):Prop where
 len:mg "len"=IV
 abs:mg "abs"=IV
section
variable {P:Jc}{w:Jv}{K:IJ}{mg:Str->IQ IH}{base:JM}
theorem Cn:aF ["_law_sentence_here","_law_lines","_law_sets","_law_begun","_law_seen_here","_law_variable","_law_found","_law_value","_law_hand","_law_place","_law_mine","_law_rest_here"] ["_law_sentence_here","_law_lines","_law_sets","_law_begun"] (ap vk):=eR
theorem rJ{fu:Nat}(F:Fun K "_law_led" "_law_led" vk f fd)(T:Bg mg)(O3:Fe P w K mg base 3 "_law_seen" Bc)(NM:Fe P w K mg base 3 "_law_drop" tP)(OE:Fe P w K mg base 1 "_law_own" pW)(Nk:Fe P w K mg base 1 "_law_put" mP)(OC:Fe P w K mg base 1 "_law_set" lh)
  (UZ:Fe P w K mg base (fu+4) "_law_led" (yV fu)):FnOk P w K mg base c6 (fu+5) f fd ["_law_sentence_here","_law_lines","_law_sets","_law_begun"] (yU fu):=by
 have sc:=Cn;refine F.okA Cn λLY A outer s H vs Q E hr h=>?_;obtain⟨p,qa,bg,dl,dS,ll,sl,t,zs,cs,bs,L,S,rfl,hp,ht,hq,hqn,hcs,h9,hok,hb,hbn,hbl,h,hn,q⟩:=h;have hu:=hr.units;have T9:(A.deeper<|JU "_law_led" (ap vk) s.heap.objs.size f LY).units+1 < Mt:=by lia
 have aj4:1<=2 ^ fu:=TV;refine⟨_,(af (ar (i:=4) sc.nd rfl (Jl rfl)<|ck O3 hr<|aa (pv 0)<|aa (pv 1)<|aa (pv 2)<|aa (pv 3) ae)
  (af (aP (aq ir (pv 4) bP<|az _) (ai<|aw<|aZ<|aa (aE ax (pv 4) ah λ_ _=>rfl)<|aa (ck NM hr<|aa (aE ax (pv 0) ah λ_ _=>rfl)<|aa (pv 1)<|aa (pv 2)<|aa (aE ax (pv 4) ah λ_ _=>rfl)<|aa (aE ax (pv 4) ah λ_ _=>rfl) ae) ae) ay)
  (af (ar (i:=5) sc.nd rfl (Ob rfl)<|aG cB (au a_ rfl T.len Kc<|aa (pv 3) ae) ah)
  (af (ar (i:=6) sc.nd rfl (Jl rfl)<|aN ae)
  (af (cR Ky rfl (b_<|aN<|aa eV<|aa eV ae) (aA (i:=7) sc.nd rfl<|Jl rfl)
   (af (ic (ck UZ hr<|aa (pv 0)<|aa (pv 1)<|aa (pv 2)<|aa (aG iW (pv 3)<|aN<|aa (pv 7) ae) ae)<|iV rfl<|aY (aA (i:=8) sc.nd rfl<|Jl rfl)<|aY (aA (i:=9) sc.nd rfl<|Jl rfl) dY)
   (af (aP (bo<|ck OE hr<|aa (aE ax (pv 0) ah λ_ _=>rfl)<|aa (pv 8)<|aa (pv 5) ae) (ai<|aw<|aZ<|aa (pv 8)<|aa (ck NM hr<|aa (aE ax (pv 0) ah λ_ _=>rfl)<|aa (pv 1)<|aa (pv 2)<|aa (pv 8)<|aa (pv 9) ae) ae) ay)
   (ai<|cp<|d_ JY J3 J_ bM (pv 6)<|aa (pv 9) ae))))
  (af (ar (i:=10) sc.nd rfl (Jl rfl)<|cX T9 (pv 2) (pv 8) λ_ _=>rfl)
  (af (cR Ky rfl (b_<|pv 6) (aA (i:=9) sc.nd rfl<|Jl rfl)
   (ai<|aP (PW.pt<|dA (aq cD (pv 5) (aE ax (pv 10) (pv 9) λ_ _=>rfl)<|by with_unfolding_all rfl)<|cT<|aq cD (aG eW ah<|pv 5) (aE ax (pv 10) (pv 9) λ_ _=>rfl)<|by with_unfolding_all rfl) (ai<|aw<|aZ<|aa (pv 8)<|aa (pv 9) ae) ay))
  (af (aP (aq cD (pv 5) (aE ax (pv 10) (aE ax (pv 6) ah λ_ _=>rfl) λ_ _=>rfl)<|by with_unfolding_all rfl) (ai<|ar (i:=6) sc.nd rfl (Jl rfl)<|aN<|aa (aE ax (pv 6) ah λ_ _=>rfl)<|aa (aE ax (pv 6) ah λ_ _=>rfl) ae) ay)
  (af (fe (i:=11) sc.nd rfl rfl (NY:=["_law_literal","_law_variable"]) (idx:=[IV,B' 5]) rfl cS (dO<|aG Ai (aE ax (pv 10) (aE ax (pv 6) ah λ_ _=>rfl) λ_ _=>rfl)<|aE ax (pv 10) (aE ax (pv 6) ah λ_ _=>rfl) λ_ _=>rfl) (λ_ _ _ _=>(aA (i:=0) (nD ["_law_literal","_law_variable"]) rfl<|Jl rfl)) (λ_ _ _ _=>(cG<|aq (fH hu) (au bU rfl T.abs J5<|aa (pv 0) ae) (pv 1)<|az _)) (λ_ _ _ _=>(pv 0))<|by with_unfolding_all rfl)
  (af (ar (i:=9) sc.nd rfl (Jl rfl)<|ck Nk hr<|aa (pv 1)<|aa (pv 2)<|aa (pv 8)<|aa (aZ<|aa aB<|aa (aE ax (pv 6) ah λ_ _=>rfl)<|aa (aE ax (pv 6) ah λ_ _=>rfl)<|aa (pv 5) ae)<|aa (ck OC hr<|aa (pv 11) ae) ae)
  (ai<|aw<|aZ<|aa (pv 8)<|aa (ck NM hr<|aa (aE ax (pv 0) ah λ_ _=>rfl)<|aa (pv 1)<|aa (pv 2)<|aa (pv 8)<|aa (pv 9) ae) ae))))))))))),?_⟩
 refine⟨_,rfl,_,rfl,_,rfl,_,rfl,p,qa,bg,dl,dS,ll,sl,t,zs,cs,bs,L,S,rfl,hp,ht,hq,hcs,h9,hok,hb,by lia,h,λb=>(by have:=hn b;lia),λhw c d tp H1 m1 h1 hk hli ZN=>?_,λH1 k1 M6=>?_⟩
 ·have hp1:=m1 _ _ (h.tupNe hp) hp;refine⟨_,rfl,rfl,_,rfl,aT ?_⟩;refine⟨_,rfl,.inr<|.inl ⟨tp,_,0,.str<|aI hw,rfl,rfl,SqT.of ZN,rfl,_,rfl,.inr<|.inl ⟨p,_,0,.str t,rfl,rfl,SqT.of hp1,rfl,_,rfl,_,rfl,_,rfl,.inr<|.inl ⟨tp,_,0,.str<|aI hw,rfl,rfl,SqT.of ZN,rfl,_,rfl,.inr<|.inl ⟨tp,_,1,.int ((S hw).length:Int),rfl,rfl,SqT.of ZN,rfl,?_⟩⟩⟩⟩⟩;refine⟨t,cs,dl,dS,ll,sl,dH L hw d,dH S hw c,hw,(S hw).length,c,rfl,h1,ht,ly S hw c,hk,(by have:=gf S hw c hw;have:=hn hw;lia),λH2 d2 m2 h2=>⟨(by show 2<=sizeLine;decide),λrt nrt=>?_⟩⟩;have k3:=ag nrt<|.tup [.str<|aI hw,.int ((dH S hw c hw).length:Int)];refine q hw _ (cZ t hw c) rt _ _ _ ((m1.trans m2).trans<|Mov.of k3) (h2.same k3) (iS<|iS λb=>⟨[],(Kg _).symm⟩) (λb=>?_) (ly _ hw _) (jh hk) (p6 hli) ad;have a1:=gf (dH S hw c) hw (cZ t hw c) b;have a2:=gf S hw c b;lia
 obtain⟨gu,rfl⟩:∃gu,fu=gu+1:=⟨fu - 1,by lia⟩;refine⟨_,rfl,rfl,_,rfl,G_ rfl ?_⟩;refine⟨_,rfl,.ref bg,_,rfl,.inl ⟨_,SqL.of<|k1 _ _ hb,rfl⟩,_,_,rfl,rfl,?_⟩;rw[rH];obtain⟨v,hv⟩:∃v:Int,(bs.length:Int)+1=v:=⟨_,rfl⟩;rw[hv];refine⟨Jw _,λfa nfa=>?_⟩;have af7:H fa=none:=k1.free nfa;have k2:=ag nfa<|.lst [];have s2:upd H1 fa (.lst []) fa=B' (.lst []):=ad;generalize upd H1 fa (.lst [])=H2 at k2 s2 ⊢;refine⟨(by show 2<=sizeLine;decide),λvl nvl=>?_⟩;have nvf:vl≠fa:=λz=>by rw[z,s2]at nvl;cases nvl
 have k3:=ag nvl<|.lst [.bl IU,.bl IS];have s3:upd H2 vl (.lst [.bl IU,.bl IS]) vl=B' (.lst [.bl IU,.bl IS]):=ad;replace s2:=k3 _ _ s2;have Zs:=k1.trans<|k2.trans k3;have nf:=(h.same k1).newNe nfa;have nv:=(h.same<|k1.trans k2).newNe nvl;generalize upd H2 vl (.lst [.bl IU,.bl IS])=H3 at Zs s2 s3 ⊢;clear k1 k2 k3;have h3:=h.same Zs;obtain⟨OJ,adB⟩:∃b:Jm,(!fi t bs.length)=b:=⟨_,rfl⟩;have p2:2 ^ (gu+1)=2*2 ^ gu:=by rw[X9];lia
 have ahH:1<=2 ^ gu:=TV;have av:absI v=v:=wu (by lia);refine⟨vl,rfl,⟨_,SqL.of s3⟩,?_⟩;refine gr (K:=K) (a:=vl) (xs:=[.bl IU,.bl IS]) (GE p dl dS bg fa vl ll sl t cs bs v OJ H S (4*2 ^ gu)) ?_ ?_ ?_ ?_
 ·exact⟨IV,IV,IV,[],L,S,rfl,s2,rfl,(λz=>by lia),(λk n e=>by cases e),h3,(λb=>⟨[],(Kg _).symm⟩),(λb=>by lia),Mov.of Zs,s3⟩
 ·rintro i σ G _ ⟨_,_,_,_,_,_,_,_,_,_,_,_,_,_,_,m⟩;exact SqL.of m
 ·rintro i x σ G hx ⟨x7,x8,x9,ns,L1,S1,rfl,i1,i2,i3,i4,i5,i6,i7,i8,i9⟩;obtain⟨Zv,rfl⟩:i < 2/\x=.bl (decide (i=1)):=by
   have hi:=(IY.mp hx).1;have hi':i < 2:=hi;refine⟨hi',?_⟩;obtain rfl|rfl:=(by lia:i=0\/i=1)
   ·exact(Jo hx).symm
   ·exact(Jo hx).symm
  generalize hbb:decide (i=1)=bb at hx;have hp4:=i8 _ _ (h.tupNe hp) hp;have hq4:=i8 _ _ hqn hq;have hb4:=i8 _ _ hbn hb;have agd:=h.cls i8 hcs;refine⟨_,rfl,_,rfl,_,rfl,_,rfl,_,rfl,(by show 1<=sizeLine;decide),λnl nnl=>?_⟩;have k4:=ag nnl<|.lst [.bl bb];have s4:upd G nl (.lst [.bl bb]) nl=B' (.lst [.bl bb]):=ad;dsimp only;generalize upd G nl (.lst [.bl bb])=G1 at k4 s4 ⊢;refine⟨bg,nl,_,_,rfl,rfl,k4 _ _ hb4,s4,(by rw[IR];exact KM<|aD (by show bs.length+1<=1000;lia)),λb2 nb2=>?_⟩;have k5:=ag nb2<|.lst<|bs.map V.bl++[.bl bb];have s5:upd G1 b2 (.lst<|bs.map V.bl++[.bl bb]) b2=B' (.lst<|(bs++[bb]).map V.bl):=by rw[ad,JO];rfl
  dsimp only;have nb:=(i5.same k4).newNe nb2;have k45:=k4.trans k5;generalize upd G1 b2 (.lst<|bs.map V.bl++[.bl bb])=G2 at k45 s5 ⊢;clear k4 k5;have jm:i*(4*2 ^ gu)<=4*2 ^ gu:=by
   obtain z|z:=(by lia:i=0\/i=1)<;>rw[z]<;>lia
  refine⟨p,qa,b2,dl,dS,ll,sl,t,zs,cs,bs++[bb],L1,S1,rfl,k45 _ _ hp4,ht,k45 _ _ hq4,hqn,agd.mono k45,h9,hok,s5,nb,(by rw[I_,JW];lia),i5.same k45,(λb=>by have:=hn b;have:=i7 b;lia),λhw n c tp G3 L2 S2 m3 h4 Y_ Lx hc hk hli ZN=>?_⟩;refine⟨tp,_,rfl,SqT.of ZN,rfl,_,_,rfl,_,_,rfl,rfl,?_⟩;have m03:=i8.trans<|(Mov.of k45).trans m3;have hp5:=m03 _ _ (h.tupNe hp) hp;have abB:∀b,∃more,S2 b=S b++more:=λb=>by
   obtain⟨a,ea⟩:=Y_ b;obtain⟨c,ec⟩:=i6 b;exact⟨c++a,by rw[ea,ec,JG]⟩
  refine⟨_,rfl,.inr<|.inl ⟨p,_,0,.str t,rfl,rfl,SqT.of hp5,rfl,_,rfl,_,rfl,t,hw,v,rfl,(by lia),(by lia),(by lia),_,rfl,?_⟩⟩;rw[av,show(v - 1).toNat=bs.length by lia];cases g:fi t bs.length == hw with
  |true=>
   refine aT ⟨_,rfl,_,rfl,.inr<|.inl ⟨p,_,0,.str t,rfl,rfl,SqT.of hp5,rfl,_,rfl,_,rfl,_,rfl,_,rfl,t,cs,dl,dS,ll,sl,L2,S2,hw,n,c,rfl,h4,ht,hc,hk,(by have:=Lx hw;have:=hn hw;have:=i7 hw;lia),λH5 d5 m5 h5=>⟨(by show 2<=sizeLine;decide),λrt nrt=>?_⟩⟩⟩;have k6:=ag nrt<|.tup [.str<|aI hw,.int ((S2 hw).length:Int)];refine q hw _ (cZ t hw c) rt _ _ _ ((m03.trans m5).trans<|Mov.of k6) (h5.same k6) (iS abB) (λb=>?_) (ly _ hw _) (jh hk) (yR hk hli g) ad;have a1:=gf S2 hw (cZ t hw c) b;have a2:=Lx b;have a3:=i7 b;obtain z|z:=(by lia:i=0\/i=1)<;>rw[z]at a3<;>lia
  |false=>
   obtain rfl:hw=OJ:=by
    rw[<-adB];generalize fi t bs.length=y at g;cases y<;>cases hw<;>first|rfl|exact absurd g (by decide)
   have f5:=m3 _ _ nf<|k45 _ _ i1;refine aO ⟨_,rfl,.inl ⟨rfl,_,SqL.of f5⟩,_,rfl,fa,_,_,rfl,rfl,f5,(by rw[IR];exact aD<|by lia),?_⟩;refine⟨_,_,_,ns++[n],L2,S2,rfl,(by rw[ad,JO];rfl),(by rw[I_,i2];rfl),λ_=>rfl,λk n' e=>?_,h4.upd' f5 nf,abB,λb=>?_,λb o nn e=>?_,?_⟩
   ·obtain hkl|hkl:=Mw k ns.length
    ·rw[JP hkl]at e;obtain⟨c',q1,q2,q3⟩:=i4 k n' e;exact⟨c',Bf Y_ q1,q2,q3⟩
    ·rw[J0 hkl]at e;have hk0:k - ns.length=0:=by
      obtain z|z:=TX (k - ns.length)
      ·exact z
      ·rw[KG (by show 1<=k - ns.length;exact z)]at e;cases e
     rw[hk0]at e;cases e;have:k=i:=by lia
     rw[this,hbb];exact⟨c,hc,hk,hli⟩
   ·have a2:=Lx b;have a3:=i7 b;have e:(i+1)*(4*2 ^ gu)=i*(4*2 ^ gu)+4*2 ^ gu:=Nat.succ_mul _ _;rw[e];lia
   ·rw[ao λz=>by rw[z,af7]at e;cases e];exact m03 _ _ nn e
   ·rw[ao nvf];exact m3 _ _ nv<|k45 _ _ i9
 ·rintro σ G ⟨x7,x8,x9,ns,L1,S1,rfl,i1,i2,i3,i4,i5,i6,i7,i8,i9⟩;obtain rfl:=i3 (by decide);obtain⟨n0,n1,rfl⟩:∃a b,ns=[a,b]:=by
   match ns,i2 with
   |[a,b],_=>exact⟨a,b,rfl⟩
  obtain⟨c0,hc0,hk0,hl0⟩:=i4 0 n0 rfl;obtain⟨c1,hc1,hk1,RH⟩:=i4 1 n1 rfl;replace hl0:∀z∈c0,jE (bs++[IU]) OJ z:=hl0;replace RH:∀z∈c1,jE (bs++[IS]) OJ z:=RH;replace i1:G fa=B' (.lst [.int (n0:Int),.int (n1:Int)]):=i1;clear i2 i3 i4 i9 s2 s3;have ZR:(fi t bs.length == OJ)=false:=by
   rw[<-adB];cases fi t bs.length<;>rfl
  have hp4:=i8 _ _ (h.tupNe hp) hp;obtain⟨ss,hss,SU⟩:=i5.s OJ;have VW:=SU.length;have at_:∀(n:Nat) (c:IG Int),(S1 OJ)[n]? =B' c->∃l:IL,ss[n]? =B' (V.ref l)/\re G l c:=λn c e=>by
   have hn':=(IY.mp e).1;obtain⟨y,hy⟩:∃y,ss[n]? =B' y:=⟨_,IZ (by lia)⟩;obtain⟨c',ZA,l,rfl,hl⟩:=SU.get hy;rw[e]at ZA;cases ZA;exact⟨l,hy,hl⟩
  have no:∀c b,(∀z∈c,jE (bs++[b]) OJ z)->aS t.length c->v∉c->-v∉c->∀z∈c,jE bs OJ z:=λc b hl hk h1 h2 z hz=>by
   refine iQ (hk.2 z hz).1 (hl z hz) ?_;have:=oz<|hl z hz;have ne:absI z≠v:=λe=>by
    obtain⟨_,q⟩|⟨_,q⟩:=bC z
    ·exact h1 (by rw[show v=z by lia];exact hz)
    ·exact h2 (by rw[show -v=z by lia];exact hz)
   lia
  have abb:∀b,(S1 b).length+4<=(S b).length+2*(4*2 ^ gu):=λb=>i7 b;refine⟨_,rfl,_,rfl,dS,_,rfl,fk i5.hs OJ,?_⟩;refine⟨_,rfl,fa,rfl,⟨_,SqL.of i1⟩,?_⟩;refine gr (K:=K) (a:=fa) (xs:=[.int (n0:Int),.int (n1:Int)]) (yW p dl dS bg fa (sl OJ) v OJ c0 c1 x7 G) ?_ ?_ ?_ ?_
  ·exact⟨_,rfl,λz=>absurd z (by decide),λz=>absurd z (by decide),rfl⟩
  ·rintro i σ G' _ ⟨_,_,_,_,rfl⟩;exact SqL.of i1
  ·rintro i x σ G' hx ⟨x9',rfl,f1,f2,rfl⟩;obtain⟨n,c,b,hxe,hc,hk,hl,ab6⟩:∃(n:Nat) (c:IG Int) (b:Jm),x=.int (n:Int)/\(S1 OJ)[n]? =B' c/\aS t.length c/\(∀z∈c,jE (bs++[b]) OJ z)/\((i=0/\c=c0)\/(i=1/\c=c1)):=by
    have hi:=(IY.mp hx).1;have hi':i < 2:=hi;obtain rfl|rfl:=(by lia:i=0\/i=1)
    ·exact⟨n0,c0,IU,(Jo hx).symm,hc0,hk0,hl0,.inl ⟨rfl,rfl⟩⟩
    ·exact⟨n1,c1,IS,(Jo hx).symm,hc1,hk1,RH,.inr ⟨rfl,rfl⟩⟩
   subst hxe;obtain⟨l,hy,UX⟩:=at_ n c hc;have stay:(v∈c\/ -v∈c)->∀a9,yW p dl dS bg fa (sl OJ) v OJ c0 c1 x7 G' (i+1) [B'<|.ref p,B'<|.ref dl,B'<|.ref dS,B'<|.ref bg,B' .non,B'<|.int v,B'<|.ref fa,x7,B'<|.str<|aI OJ,a9,B'<|.ref<|sl OJ,IV] G':=λhm a9=>by
    obtain⟨rfl,rfl⟩|⟨rfl,rfl⟩:=ab6
    ·exact⟨_,rfl,λ_=>hm,λz=>absurd z (by decide),rfl⟩
    ·exact⟨_,rfl,λ_=>f1 (by decide),λ_=>hm,rfl⟩
   refine⟨_,rfl,_,rfl,_,rfl,.inl ⟨sl OJ,_,_,.ref l,rfl,rfl,SqL.of hss,aW hy,l,_,rfl,.inr<|SqT.of UX,rfl,cw _,_,rfl,?_⟩⟩;show(if(!qd (.int v) (c.map V.int))=IS then _ else _)
   rw[cV];cases g1:c.contains v with
   |true=>exact aO<|aO<|stay (.inl<|JX.mp g1) _
   |false=>
   refine aT ⟨_,rfl,_,_,rfl,rfl,_,rfl,_,rfl,.inl ⟨sl OJ,_,_,.ref l,rfl,rfl,SqL.of hss,aW hy,l,_,rfl,.inr<|SqT.of UX,rfl,cw _,_,rfl,?_⟩⟩;show(if(!qd (.int (0 - v)) (c.map V.int))=IS then _ else _)
   rw[cV,Int.zero_sub];cases g2:c.contains (-v)with
   |true=>exact aO<|stay (.inr<|JX.mp g2) _
   |false=>
   refine aT ⟨_,rfl,_,rfl,(by show 2<=sizeLine;decide),λrt nrt=>?_⟩;have k6:=ag nrt<|.tup [.str<|aI OJ,.int (n:Int)];refine q OJ n c rt _ L1 S1 (i8.trans<|Mov.of k6) (i5.same k6) i6 (λb=>?_) hc hk (no c b hl hk (λz=>?_) λz=>?_) ad
   ·have:=abb b;lia
   ·rw[JX.mpr z]at g1;cases g1
   ·rw[JX.mpr z]at g2;cases g2
  ·rintro σ G' ⟨x9',rfl,f1,f2,rfl⟩;replace f1:=f1 (show 1<=2 by decide);replace f2:=f2 (show 2<=2 by decide);have nv0:absI (-v)=(bs.length:Int)+1:=by
    obtain⟨_,e⟩|⟨_,e⟩:=bC (-v)<;>lia
   have dv:decide (v > 0)=true:=Jj (by lia);have dn:decide (-v > 0)=false:=IW (by lia);dsimp only;refine f_ λN hN=>?_;have fin:∀(fa':IL) (G2:Hp) (i j:Nat) (fs gs:IG Int) (b1 b2:Jm),Same G' G2->G2 fa'=B' (.lst [.int (i:Int),.int (j:Int)])->(S1 OJ)[i]? =B' fs->(S1 OJ)[j]? =B' gs->aS t.length fs->aS t.length gs->(∀z∈fs,jE (bs++[b1]) OJ z)->(∀z∈gs,jE (bs++[b2]) OJ z)->v∈fs->-v∈gs->N [B'<|.ref p,B'<|.ref dl,B'<|.ref dS,B'<|.ref bg,B' .non,B'<|.int v,B'<|.ref fa',x7,B'<|.str<|aI OJ,x9',B'<|.ref<|sl OJ,IV] G2:=λfa' G2 i j fs gs b1 b2 kg hfa hi hj okf okg lf lg mf mg_=>hN _ _ (by
    obtain⟨li,hyi,hli⟩:=at_ i fs hi;obtain⟨lj,hyj,hlj⟩:=at_ j gs hj;have adD:=kg _ _ hss;have cfl:=cQ okf;have cgl:=cQ okg;obtain⟨jb,bw,Lz⟩:=yT okf okg lf lg hv.symm M6 ZR mf mg_;refine⟨_,rfl,_,rfl,.inl ⟨fa',_,0,.int (i:Int),rfl,rfl,SqL.of hfa,aW (j:=0) rfl,.inl ⟨sl OJ,_,_,.ref li,rfl,rfl,SqL.of adD,aW hyi,_,rfl,_,rfl,.inl ⟨fa',_,1,.int (j:Int),rfl,rfl,SqL.of hfa,aW (j:=1) rfl,.inl ⟨sl OJ,_,_,.ref lj,rfl,rfl,SqL.of adD,aW hyj,?_⟩⟩⟩⟩⟩;refine Bd (kg _ _ hli) (kg _ _ hlj) (by rw[IR,IR];exact KM<|aD<|by lia) λcA G3 k3 hcA=>?_;rw[<-JO]at hcA;refine⟨cA,rfl,⟨_,SqT.of hcA⟩,λD hD=>?_⟩;refine cu [B'<|.int v] (oB λl=>!decide (absI l=v)) (λx=>x) rfl hcA hD (by rw[IR,I_];lia) ?_ ?_ ?_
    ·intro x hx H' R k r;obtain⟨l,_,rfl⟩:=cr hx;refine⟨_,rfl,l,rfl,_,rfl,.inl ⟨rfl,_,rfl,?_⟩⟩;have e:decide (V.int (absI l)=V.int v)=decide (absI l=v):=by
      by_cases h:absI l=v
      ·rw[h];simp
      ·rw[IW h,IW λe=>h<|V.int.inj e]
     have r':R (!decide (absI l=v)) H':=r;rw[<-e]at r';exact r'
    ·intro x hx _ H' R k r;exact⟨_,rfl,r⟩
    rw[bW (fs++gs) (λl=>!decide (absI l=v)) _ λi=>rfl];have hrm:∀z,z∈(fs++gs).filter (λl=>!decide (absI l=v))↔(z∈fs\/z∈gs)/\absI z≠v:=λz=>by
     rw[Kr,JA];simp
    have hrl:=Lk (λl=>!decide (absI l=v))<|fs++gs;rw[I_]at hrl;generalize (fs++gs).filter (λl=>!decide (absI l=v))=rs at hrm hrl;have k4:=ag hD<|.lst<|rs.map V.int;have s4:upd G3 D (.lst<|rs.map V.int) D=B' (.lst<|rs.map V.int):=ad;dsimp only;generalize upd G3 D (.lst<|rs.map V.int)=G4 at k4 s4 ⊢;have k34:=k3.trans k4;have adX:=k34 _ _ hfa;refine⟨_,rfl,_,rfl,_,rfl,_,rfl,.inl ⟨fa',_,0,.int (i:Int),rfl,rfl,SqL.of adX,aW (j:=0) rfl,_,rfl,.inl ⟨fa',_,1,.int (j:Int),rfl,rfl,SqL.of adX,aW (j:=1) rfl,_,rfl,(by show 4<=sizeLine;decide),λtp ZK=>?_⟩⟩⟩;have k5:=ag ZK<|.tup [.str<|IK "join",.int (i:Int),.int (j:Int),.int v];have s5:upd G4 tp (.tup [.str<|IK "join",.int (i:Int),.int (j:Int),.int v]) tp=B' (.tup [.str aV,.int (i:Int),.int (j:Int),.int v]):=ad;replace s4:=k5 _ _ s4;dsimp only;generalize upd G4 tp (.tup [.str<|IK "join",.int (i:Int),.int (j:Int),.int v])=G5 at k5 s4 s5 ⊢;have pos:∀z,(z∈fs\/z∈gs)->1<=absI z:=λz hz=>by
     obtain hz|hz:=hz
     ·exact(okf.2 z hz).1
     ·exact(okg.2 z hz).1
    refine⟨_,rfl,D,rs,rfl,s4,by lia,Be λz hz=>⟨pos z ((hrm z).mp hz).1,Lz z<|(hrm z).mp hz⟩,λl r G6 k6 hl hup hm=>?_⟩;have hj':Joins fs gs v r:=⟨hup,λz=>by rw[hm,hrm]⟩;obtain rfl:=hj'.eq okf.1 okg.1 bw;have k26:=k34.trans<|k5.trans k6;have k06:=kg.trans k26;have h6:=i5.same k06;have hjo:aS t.length (dr fs gs v):=pH okf okg bw;refine⟨t,cs,dl,dS,ll,sl,L1,S1,OJ,.ref tp,.ref l,.tuple [.str aV,.int (i:Int),.int (j:Int),.int v],dr fs gs v,rfl,h6,bj (k6 _ _ s5)<|am (bQ _)<|am (bN _)<|am (bN _)<|am (bN _) aH,.inr<|.inr<|.inr ⟨_,_,_,rfl⟩,⟨l,rfl,hl⟩,yS hi hj jb,(by have:=abb OJ;have:=hn OJ;lia),λG7 m7 h7=>?_⟩;have hp7:=m7 _ _ (h6.tupNe<|k06 _ _ hp4)<|k06 _ _ hp4;refine⟨_,rfl,_,rfl,.inr<|.inl ⟨p,_,0,.str t,rfl,rfl,SqT.of hp7,rfl,_,rfl,_,rfl,_,rfl,_,rfl,t,cs,dl,dS,ll,sl,_,_,OJ,(S1 OJ).length,dr fs gs v,rfl,h7,ht,ly S1 OJ _,hjo,(by have:=gf S1 OJ (dr fs gs v) OJ;have:=abb OJ;have:=hn OJ;lia),λG8 d8 m8 h8=>⟨(by show 2<=sizeLine;decide),λrt nrt=>?_⟩⟩⟩;have k9:=ag nrt<|.tup [.str<|aI OJ,.int ((dH S1 OJ (dr fs gs v) OJ).length:Int)];refine q OJ _ (cZ t OJ<|dr fs gs v) rt _ _ _ ((i8.trans<|(Mov.of k06).trans<|m7.trans m8).trans<|Mov.of k9) (h8.same k9) (iS<|iS i6) (λb=>?_) (ly _ OJ _) (jh hjo) (p6 λz hz=>Lz z<|(hrm z).mp<|(hm z).mp hz) ad;have a1:=gf (dH S1 OJ<|dr fs gs v) OJ (cZ t OJ<|dr fs gs v) b;have a2:=gf S1 OJ (dr fs gs v) b;have a3:=abb b;lia)
   obtain⟨l0,hy0,afU⟩:=at_ n0 c0 hc0;refine⟨_,rfl,_,rfl,_,rfl,.inl ⟨fa,_,0,.int (n0:Int),rfl,rfl,SqL.of i1,aW (j:=0) rfl,.inl ⟨sl OJ,_,_,.ref l0,rfl,rfl,SqL.of hss,aW hy0,l0,_,rfl,.inr<|SqT.of afU,rfl,cw _,_,rfl,?_⟩⟩⟩;show(if(!qd (.int v) (c0.map V.int))=IS then _ else _)
   rw[cV];cases OJ with
   |false=>
    have m0:v∈c0:=by
     obtain z|z:=f1
     ·exact z
     ·have:=iR (hl0 _ z) nv0;rw[dn]at this;cases this
    have m1:-v∈c1:=by
     obtain z|z:=f2
     ·have:=iR (RH _ z) (by lia);rw[dv]at this;cases this
     ·exact z
    rw[JX.mpr m0];exact aO<|fin fa G' n0 n1 c0 c1 IU IS (Same.refl _) i1 hc0 hc1 hk0 hk1 hl0 RH m0 m1
   |true=>
    have m1:v∈c1:=by
     obtain z|z:=f2
     ·exact z
     ·have:=iR (RH _ z) nv0;rw[dn]at this;cases this
    have n0':v∉c0:=λz=>by
     have:=iR (hl0 _ z) (by lia);rw[dv]at this;cases this
    have m0:-v∈c0:=by
     obtain z|z:=f1
     ·exact absurd z n0'
     ·exact z
    have g0:c0.contains v=false:=by
     cases g:c0.contains v with
     |false=>rfl
     |true=>exact absurd (JX.mp g) n0'
    rw[g0];refine aT ⟨_,rfl,.inl ⟨fa,_,1,.int (n1:Int),rfl,rfl,SqL.of i1,aW (j:=1) rfl,_,rfl,.inl ⟨fa,_,0,.int (n0:Int),rfl,rfl,SqL.of i1,aW (j:=0) rfl,(by show 2<=sizeLine;decide),λf2 nf2=>?_⟩⟩⟩;have k2:=ag nf2<|.lst [.int (n1:Int),.int (n0:Int)];exact fin f2 _ n1 n0 c1 c0 IS IU k2 ad hc1 hc0 hk1 hk0 RH hl0 m1 m0
end
def tT(n:Nat):Sp:=λvs H Q E=>∃f,f<=n/\yU f vs H Q E
theorem p7:∀{a b:IG Jg} {sets out:IG (IG Int)},bq t cs hw sets (a++b)=(out,IS)->∃mid,bq t cs hw sets a=(mid,IS)/\bq t cs hw mid b=(out,IS)
 |[],b,sets,out,h=>⟨sets,rfl,h⟩
 |d::a,b,sets,out,h=>by
  have h':(match aM t cs hw sets d with|none=>(sets,IU)|some c=>bq t cs hw (sets++[c])<|a++b)=(out,IS):=h;cases q:aM t cs hw sets d with
  |none=>rw[q]at h';cases h'
  |some c=>
   rw[q]at h';obtain⟨mid,h1,h2⟩:=p7 h';refine⟨mid,?_,h2⟩;show(match aM t cs hw sets d with|none=>(sets,IU)|some c=>bq t cs hw (sets++[c]) a)=_
   rw[q];exact h1
theorem tU:∀{a:IG Jg} {sets out:IG (IG Int)},bq t cs hw sets a=(out,IS)->∃more,out=sets++more
 |[],sets,out,h=>⟨[],by cases h;exact(Kg _).symm⟩
 |d::a,sets,out,h=>by
  have h':(match aM t cs hw sets d with|none=>(sets,IU)|some c=>bq t cs hw (sets++[c]) a)=(out,IS):=h;cases q:aM t cs hw sets d with
  |none=>rw[q]at h';cases h'
  |some c=>
   rw[q]at h';obtain⟨more,e⟩:=tU h';exact⟨c::more,by rw[e,JG];rfl⟩
theorem ji(h:bq t cs hw [] ds=(out,IS))(k:Nat)(hk:k<=ds.length):bq t cs hw [] (ds.take k)=(out.take k,IS):=by
 have e:=h;rw[<-KU k ds]at e;obtain⟨mid,h1,h2⟩:=p7 e;obtain⟨more,e2⟩:=tU h2;have hl:=bY h1;have UX:mid.length=k:=by
  have:mid.length=(ds.take k).length:=by simpa using hl
  rw[this,JN];lia
 rw[h1,e2,<-UX,Wz]
theorem jj:∀{ds:IG Jg} {xs:IG V} (k:Nat),dC H ds xs->dC H (ds.take k) (xs.take k)
 |_,_,0,_=>aH
 |[],xs,k+1,h=>by
  have:=cq h;rw[Kt.mp this];exact aH
 |d::ds,xs,k+1,h=>by
  obtain⟨y,ys,rfl,r,t⟩:=aL h;exact am r<|jj k t
theorem mQ:∀{cs:IG (IG Int)} {xs:IG V} (k:Nat),CLs H cs xs->CLs H (cs.take k) (xs.take k)
 |_,_,0,_=>.nil
 |_,_,_+1,.nil=>.nil
 |_,_,k+1,.cons r t=>.cons r<|mQ k t
theorem rK{σ:St}(q:∀d l H',Same H H'->H d=IV->(∀b,H (l b)=IV)->l IU≠l IS->H' d=B' (.dK<|fL l)->(∀b,H' (l b)=B' (.lst []))->Q (.ref d) H'):
  oU [(tC<|.str<|IK "spoiler",qo jC),(tC<|.str<|IK "wisher",qo jC)] σ H Q:=by
 refine λdl ndl=>⟨Jw _,λa0 n0=>⟨Jw _,λa1 n1=>?_⟩⟩;have d1:a0≠dl:=λz=>by rw[z,ad]at n0;cases n0
 have d2:a1≠a0:=λz=>by rw[z,ad]at n1;cases n1
 have d3:a1≠dl:=λz=>by rw[z,ao λz=>d1 z.symm,ad]at n1;cases n1
 have f0:H a0=none:=by rw[ao d1]at n0;exact n0
 have f1:H a1=none:=by rw[ao d2,ao d3]at n1;exact n1
 exists by rw[ao λz=>d3 z.symm,ao λz=>d1 z.symm];exact ad,[(NF<|IK "spoiler",.ref a0),(NF<|IK "wisher",.ref a1)],rfl,(by show 2<=15;decide);have em:fF [] [((NF (IK "spoiler"):bv),V.ref a0),(NF<|IK "wisher",V.ref a1)]=fL λb=>if b=IS then a1 else a0:=by
  unfold fF;rw[NA,j6 _ rfl,NA,j6 _ rfl];rfl
 rw[em];refine q dl (λb=>if b=IS then a1 else a0) _ (λb o e=>?_) ndl (λb=>?_) (λz=>d2 z.symm) ad λb=>?_
 ·rw[ao<|aj e ndl,ao<|aj e f1,ao<|aj e f0,ao<|aj e ndl];exact e
 ·cases b
  ·exact f0
  ·exact f1
 ·cases b
  ·show upd _ dl _ a0=_
   rw[ao d1,ao λz=>d2 z.symm];exact ad
  ·show upd _ dl _ a1=_
   rw[ao d3];exact ad
theorem p8(q:∀d l H',Same H H'->H d=IV->(∀b,H (l b)=IV)->l IU≠l IS->H' d=B' (.dK<|fL l)->(∀b,H' (l b)=B' (.lst []))->B D (σ.set i<|B'<|.ref d) H'):
  vC (qg (oU [(tC<|.str<|IK "spoiler",qo jC),(tC<|.str<|IK "wisher",qo jC)])<|eF i) B D σ H:=by
 unfold vC qg;exact rK q
theorem vm(h1:H dl=B' (.dK<|fL ll))(h2:H dS=B' (.dK<|fL sl))(n1:ll IU≠ll IS)(n2:sl IU≠sl IS)(n3:∀a b,ll a≠sl b)(e1:∀b,H (ll b)=B' (.lst []))(e2:∀b,H (sl b)=B' (.lst [])):LedAt t cs dl dS ll sl H (λ_=>[]) (λ_=>[]):=
 ⟨h1,h2,n1,n2,n3,λb=>⟨[],e1 b,aH⟩,λb=>⟨[],e2 b,.nil⟩,(λ_ _ h=>nomatch h),λ_=>rfl⟩
section
variable {P:Jc}{w:Jv}{K:IJ}{mg:Str->IQ IH}{base:JM}
theorem mR(F:Fun K "_law_led" "_law_led" vk f fd)(T:Bg mg)(O3:Fe P w K mg base 3 "_law_seen" Bc)(NM:Fe P w K mg base 3 "_law_drop" tP)(OE:Fe P w K mg base 1 "_law_own" pW)(Nk:Fe P w K mg base 1 "_law_put" mP)(OC:Fe P w K mg base 1 "_law_set" lh)(b:Binds K fd ["_law_sentence_here","_law_lines","_law_sets","_law_begun"] [])(kp:LJ K (.ref f)=IS)(at_:mg "_law_led"=B' (.ref f)):
  ∀fu,FnOk P w K mg base c6 (fu+4) f fd ["_law_sentence_here","_law_lines","_law_sets","_law_begun"]<|yV fu
 |0=>⟨λ_ _ _ _ h=>h.elim,λ_ _ _ _ _ _ _ _ _ _ _ _ _ h=>h.elim⟩
 |fu+1=>rJ F T O3 NM OE Nk OC ⟨_,_,_,mR F T O3 NM OE Nk OC b kp at_ fu,b,kp,at_⟩
theorem Eo(F:Fun K "_law_led" "_law_led" vk f fd)(T:Bg mg)(O3:Fe P w K mg base 3 "_law_seen" Bc)(NM:Fe P w K mg base 3 "_law_drop" tP)(OE:Fe P w K mg base 1 "_law_own" pW)(Nk:Fe P w K mg base 1 "_law_put" mP)(OC:Fe P w K mg base 1 "_law_set" lh)(b:Binds K fd ["_law_sentence_here","_law_lines","_law_sets","_law_begun"] [])(kp:LJ K (.ref f)=IS)(at_:mg "_law_led"=B' (.ref f)):
  FnOk P w K mg base c6 10 f fd ["_law_sentence_here","_law_lines","_law_sets","_law_begun"] (tT 5):=by
 have R:=mR F T O3 NM OE Nk OC b kp at_;refine⟨λvs H Q E h=>?_,λA outer s H args us vs Q E hr e0 hb hv h=>?_⟩
 ·obtain⟨fu,_,p,qa,bg,dl,dS,ll,sl,t,zs,cs,bs,L,S,rfl,_⟩:=h;rfl
 ·obtain⟨fu,hf,h⟩:=h;exact(R<|fu+1).run A outer s H args us vs Q E (hr.mono<|by lia) e0 hb hv h
end
abbrev Bh:KL:=eB 61
theorem mS{out:IG (IG Int)}{k:Nat}{c:IG Int}(h:out[k]? =B' c):fK (out.take<|k+1)=decide (c=[]):=by
 unfold fK;rw[Kv,h];simp
structure Bi (t:Str)(cs:IG (IG Int))(H:Hp)(rl la sa:IL)(hw:Jm)(ls ss:IG V)(ds:IG Jg)(out:IG (IG Int)):Prop where
 r:H rl=B' (.lst [.str<|aI hw,.ref la,.ref sa])
 l:H la=B' (.lst ls)
 s:H sa=B' (.lst ss)
 rd:dC H ds ls
 cl:CLs H out ss
 good:∀d∈ds,bO d
 run:bq t cs hw [] ds=(out,IS)
 fin:fK out=IS
inductive GF (vs:IG V)(H:Hp)(Q:VK):Prop
 |mk (p qa:IL)(t:Str)(zs:IG V)(cs:IG (IG Int))(h0:vs=[.ref p])(hp:H p=B' (.tup [.str t,.ref qa]))(ht:t.length<=5)(hq:H qa=B' (.lst zs))(hcs:CLs H cs zs)(h9:cs.length<=17)(hok:∀c∈cs,aS t.length c)
   (q:∀rl la sa hw ls ss ds out H',Same H H'->Bi t cs H' rl la sa hw ls ss ds out->ds.length<=128->Q (.ref rl) H'):GF vs H Q
def Co:Sp:=λvs H Q _=>GF vs H Q
section
variable {P:Jc}{w:Jv}{K:IJ}{mg:Str->IQ IH}{base:JM}
theorem Cp:aF ["_law_sentence_here","_law_lines","_law_sets","_law_hand","_law_place"] ["_law_sentence_here"] (ap Bh):=eR
theorem Ep(F:Fun K "_law_paper" "_law_paper" Bh f fd)(UZ:Fe P w K mg base 10 "_law_led" (tT 5)):FnOk P w K mg base c6 11 f fd ["_law_sentence_here"] Co:=by
 have sc:=Cp;refine F.okA Cp λLY A outer s H vs Q E hr h=>?_;obtain⟨p,qa,t,zs,cs,rfl,hp,ht,hq,hcs,h9,hok,q⟩:=h;have hu:=hr.units;have T9:(A.deeper<|JU "_law_paper" (ap Bh) s.heap.objs.size f LY).units+1 < Mt:=by lia
 refine nS (ar (i:=1) sc.nd rfl (Jl rfl)<|pP aB (aN ae) aB<|aN ae) ?_;refine nS (ar (i:=2) sc.nd rfl (Jl rfl)<|pP aB (aN ae) aB<|aN ae) ?_;refine nS (ic (ck UZ hr<|aa (pv 0)<|aa (pv 1)<|aa (pv 2)<|aa (aN ae) ae)<|iV rfl<|aY (aA (i:=3) sc.nd rfl<|Jl rfl)<|aY (aA (i:=4) sc.nd rfl<|Jl rfl) dY) ?_;exists _,(ai<|aw<|aN<|aa (pv 3)<|aa (gv iw (cX T9 (pv 1) (pv 3) λ_ _=>rfl) jG<|eP<|aG cB (pv 4) ah)<|aa (gv iw (cX T9 (pv 2) (pv 3) λ_ _=>rfl) jG<|eP<|aG cB (pv 4) ah) ae);refine p8 λdl ll H1 k1 ndl nll dll hdl hll=>?_;refine p8 λdS sl H2 k2 ndS nsl dsl hdS VW=>?_;have h0:LedAt t cs dl dS ll sl H2 (λ_=>[]) (λ_=>[]):=vm (k2 _ _ hdl) hdS dll dsl (λa b z=>by have:=hll a;rw[z,nsl b]at this;cases this) (λb=>k2 _ _<|hll b) VW;have ZM:=k1.trans k2;have old:∀{b:IL} {o:HO},H b=B' o->∀x,b≠ll x/\b≠sl x:=λe x=>⟨aj e<|nll x,aj e<|k1.free<|nsl x⟩;refine⟨_,rfl,_,rfl,_,rfl,Jw _,λbg nbg=>?_⟩;have k3:=ag nbg<|.lst [];have s3:upd H2 bg (.lst []) bg=B' (.lst<|([]:IG Jm).map V.bl):=ad;dsimp only;generalize upd H2 bg (.lst [])=H3 at k3 s3 ⊢;have Zs:=ZM.trans k3;refine⟨t.length,ht,p,qa,bg,dl,dS,ll,sl,t,zs,cs,[],_,_,rfl,Zs _ _ hp,by lia,Zs _ _ hq,old hq,hcs.mono Zs,h9,hok,s3,h0.newNe nbg,by simp,h0.same k3,(λb=>?_),λhw n c tp H4 L S m4 h4 _ Lx hc hkc hli ZN=>?_⟩
 ·have:2 ^ t.length<=2 ^ 5:=Sx (by decide) ht;show 0+4*2 ^ t.length<=900
  lia
 have k04:Same H H4:=λb o e=>m4 _ _ (old e)<|Zs _ _ e;have hlF:(S hw).length<=128:=by
  have:=Lx hw;have p5:2 ^ t.length<=2 ^ 5:=Sx (by decide) ht;have e0:((λ_=>[]:Jm->IG (IG Int)) hw).length=0:=rfl;rw[e0]at this;lia
 obtain⟨lv,hlv,rlv⟩:=h4.l hw;obtain⟨sv,hsv,rsv⟩:=h4.s hw;have el:=rsv.length;have elL:=h4.len hw;have hnl:=(IY.mp hc).1;have hc0:c=[]:=by
  cases c with
  |nil=>rfl
  |cons z r=>
   have h1:=(hkc.2 z Jp).1;have h2:=(hli z Jp).1;rw[Lg]at h2;lia
 subst hc0;exists tp,_,rfl,SqT.of ZN,rfl,_,_,rfl,_,_,rfl,rfl;refine⟨_,rfl,_,rfl,_,rfl,dl,_,rfl,fk h4.hl hw,_,rfl,_,_,rfl,rfl,_,rfl,ll hw,_,rfl,SqL.of hlv,λla nla=>?_⟩;have en:(n:Int)+1=((n+1:Nat):Int):=by lia
 rw[en];have k5:=ag nla<|.lst<|dz lv IV<|B' ((n+1:Nat):Int);have s5:upd H4 la (.lst<|dz lv IV<|B' ((n+1:Nat):Int)) la=B' (.lst<|lv.take<|n+1):=by rw[ad,qG]
 generalize upd H4 la (.lst<|dz lv IV<|B' ((n+1:Nat):Int))=H5 at k5 s5 ⊢;refine⟨_,rfl,_,rfl,dS,_,rfl,fk (k5 _ _ h4.hs) hw,_,rfl,_,_,rfl,rfl,_,rfl,sl hw,_,rfl,SqL.of<|k5 _ _ hsv,λsa nsa=>?_⟩;rw[en];have k6:=ag nsa<|.lst<|dz sv IV<|B' ((n+1:Nat):Int);have s6:upd H5 sa (.lst<|dz sv IV<|B' ((n+1:Nat):Int)) sa=B' (.lst<|sv.take<|n+1):=by rw[ad,qG]
 generalize upd H5 sa (.lst<|dz sv IV<|B' ((n+1:Nat):Int))=H6 at k6 s6 ⊢;refine⟨(by show 3<=sizeLine;decide),λrl nrl=>?_⟩;have k7:=ag nrl<|.lst [.str<|aI hw,.ref la,.ref sa];have k47:=(k5.trans k6).trans k7;refine q rl la sa hw (lv.take<|n+1) (sv.take<|n+1) ((L hw).take<|n+1) ((S hw).take<|n+1) _ (k04.trans k47) ⟨ad,(k6.trans k7) _ _ s5,k7 _ _ s6,jj _<|bn k47 _ _ rlv,mQ _<|rsv.mono k47,(λd hd=>h4.good hw d<|MC hd),ji (h4.run hw) _ (by lia),by rw[mS hc];rfl⟩ ?_;rw[JN];lia
end
abbrev Er:KL:=eB 62
structure GG (mg:Str->IQ IH):Prop where
 len:mg "len"=IV
 list:mg "list"=IV
 range:mg "range"=IV
inductive GH (K:IJ)(vs:IG V)(H:Hp)(Q:VK):Prop
 |mk (a rl la sa:IL)(ns:IG Int)(t:Str)(cs:IG (IG Int))(hw:Jm)(ls ss:IG V)(ds:IG Jg)(out:IG (IG Int))(h0:vs=[.ref a,.ref rl])(hS:SqL K H a (ns.map V.int))(hP:Bi t cs H rl la sa hw ls ss ds out)(hl:ds.length<=128)
   (q:∀rl' la' sa' ls' ss' Ub out' H',Same H H'->Bi t cs H' rl' la' sa' hw ls' ss' Ub out'->Ub.length<=140->Q (.ref rl') H'):GH K vs H Q
def Cq(K:IJ):Sp:=λvs H Q _=>GH K vs H Q
theorem IF(h1:∀Q',(∀b,Q' b H)->T1 σ H Q')(h2:∀Q',(∀b,Q' b H)->T2 σ H Q')(h3:∀Q',(∀b,Q' b H)->T3 σ H Q')(h:∀b,Q b H):EG T1 (EG T2 T3) σ H Q:=by
 refine h1 _ λb=>?_;cases b
 ·refine aO<|h2 _ λb=>?_;cases b
  ·exact aO<|h3 _ h
  ·exact aT<|h IS
 ·exact aT<|h IS
theorem Ia(h1:∀Q',(∀b,Q' b H)->T1 σ H Q')(h2:∀Q',(∀b,Q' b H)->T2 σ H Q')(h3:∀Q',(∀b,Q' b H)->T3 σ H Q')(ht:t D σ H)(hu:u D σ H):qf (EG T1<|EG T2 T3) t u D σ H:=by
 unfold qf;refine IF h1 h2 h3 λb=>?_;cases b
 ·exact aO hu
 ·exact aT ht
theorem lA(h:Q (σ.set i<|B' v) H):eF i v σ H Q:=h
theorem tV{x:V}{r:IG V}:p_ (x::r) (0:Int)=B' x:=aW (show(x::r)[0]? =B' x from rfl)
theorem vn(g:bO d)(h:RD H d v):∃a w r,v=.ref a/\H a=B' (.tup<|.str w::r):=by
 obtain⟨k,rfl⟩|⟨c,hc,rfl⟩|⟨k,rfl⟩|⟨i,j,z,rfl⟩:=g
 ·obtain⟨a,zs,rfl,ha,hz⟩:=aK h;obtain⟨y,ys,rfl,r0,_⟩:=aL hz;obtain rfl:=bf r0;exact⟨a,_,_,rfl,ha⟩
 ·obtain⟨a,zs,rfl,ha,hz⟩:=aK h;obtain⟨y,ys,rfl,r0,_⟩:=aL hz;obtain rfl:=bf r0;exact⟨a,_,_,rfl,ha⟩
 ·obtain⟨a,zs,rfl,ha,hz⟩:=aK h;obtain⟨y,ys,rfl,r0,_⟩:=aL hz;obtain rfl:=bf r0;exact⟨a,_,_,rfl,ha⟩
 ·obtain⟨a,zs,rfl,ha,hz⟩:=aK h;obtain⟨y,ys,rfl,r0,_⟩:=aL hz;obtain rfl:=bf r0;exact⟨a,_,_,rfl,ha⟩
structure PadAt (t:Str)(cs:IG (IG Int))(hw:Jm)(l s:IL)(ls ss:IG V)(ds:IG Jg)(out:IG (IG Int))(G:Hp):Prop where
 hl:G l=B' (.lst ls)
 hs:G s=B' (.lst ss)
 ne:l≠s
 rd:dC G ds ls
 cl:CLs G out ss
 good:∀d∈ds,bO d
 run:bq t cs hw [] ds=(out,IS)
theorem PadAt.put(h:PadAt t cs hw l s ls ss ds out G)(hv:RD G d v)(g:bO d)(hu:CL G c u)(hc:aM t cs hw out d=B' c):PadAt t cs hw l s (ls++[v]) (ss++[u]) (ds++[d]) (out++[c]) (upd (upd G l<|.lst<|ls++[v]) s<|.lst<|ss++[u]):=by
 have Vw:upd G l (.lst<|ls++[v]) s=B' (.lst ss):=by rw[ao λz=>h.ne z.symm];exact h.hs
 have all:∀x∈ds++[d],bO x:=λx hx=>by
  obtain hx|hx:=JA.mp hx
  ·exact h.good x hx
  ·rw[Jf.mp hx];exact g
 exact⟨by rw[ao h.ne];exact ad,ad,h.ne,ce Vw all<|ce h.hl all<|LedAt.put.RDs_app1 h.rd<|am hv aH,CLs.snoc ((hu.upd h.hl).upd Vw)<|(h.cl.upd h.hl).upd Vw,all,iP h.run hc⟩
theorem PadAt.same(h:PadAt t cs hw l s ls ss ds out G)(k:Same G G'):PadAt t cs hw l s ls ss ds out G':=
 ⟨k _ _ h.hl,k _ _ h.hs,h.ne,bn k _ _ h.rd,h.cl.mono k,h.good,h.run⟩
theorem PadAt.len(h:PadAt t cs hw l s ls ss ds out G):out.length=ds.length/\ls.length=ds.length/\ss.length=ds.length:=by
 have h1:=bY h.run;have h2:=cq h.rd;have h3:=h.cl.length;simp only [Lg,Mv]at h1;lia
inductive GI (K:IJ)(a rl l s:IL)(t:Str)(cs:IG (IG Int))(hw:Jm)(nu:Int)(ds0:IG Jg)(adg:IG (IG Int))(H:Hp)(i:Nat)(σ:St)(G:Hp):Prop
 |mk (x6 x7 x8:IQ V)(ls ss:IG V)(ds:IG Jg)(out:IG (IG Int))(i0:σ=[B'<|.ref a,B'<|.ref rl,B'<|.str<|aI hw,B'<|.ref l,B'<|.ref s,B'<|.int nu,x6,x7,x8,IV])(i1:PadAt t cs hw l s ls ss ds out G)(i2:∃m,out=adg++m)(i3:ds0.length<=ds.length)(i4:ds.length<=128+i)(i5:Same H G):GI K a rl l s t cs hw nu ds0 adg H i σ G
theorem iT(h:fK out=IS):1<=out.length/\out[out.length - 1]? =B' []:=by
 unfold fK at h;cases e:out.getLast? with
 |none=>rw[e]at h;cases h
 |some c=>
  rw[e]at h;have hc:c=[]:=Kd h;subst hc;rw[List.getLast?_eq_getElem?]at e;exact⟨by have:=(IY.mp e).1;lia,e⟩
theorem yX(out:IG (IG Int)):fK (out++[[]])=true:=by
 unfold fK;simp
section
variable {P:Jc}{w:Jv}{K:IJ}{mg:Str->IQ IH}{base:JM}
theorem Cr:aF ["_law_script","_law_paper_here","_law_hand","_law_lines","_law_sets","_law_number","_law_k","_law_place","_law_line","_law_last"] ["_law_script","_law_paper_here"] (ap Er):=eR
theorem Es(F:Fun K "_law_padded" "_law_padded" Er f fd)(T:GG mg)(My:Fe P w K mg base 1 "_law_mixed" hV)(MQ:Fe P w K mg base 1 "_law_cell_at" (kU K)):FnOk P w K mg base c6 2 f fd ["_law_script","_law_paper_here"] (Cq K):=by
 have sc:=Cr;refine F.okA Cr λLY A outer s H vs Q E hr h=>?_;obtain⟨a,rl,la,sa,ns,t,cs,hw,ls,ss,ds,out,rfl,hS,hP,hl,q⟩:=h;have hu:=hr.units;refine⟨_,(af (ic (pv 1)<|nE rfl<|aY (aA (i:=2) sc.nd rfl<|Jl rfl)<|aY (aA (i:=3) sc.nd rfl<|Jl rfl)<|aY (aA (i:=4) sc.nd rfl<|Jl rfl) dY)
  (af (ar (i:=3) sc.nd rfl (Jl rfl)<|bL cE rfl T.list KC<|aa (pv 3) ae)
  (af (ar (i:=4) sc.nd rfl (Jl rfl)<|bL cE rfl T.list KC<|aa (pv 4) ae)
  (af (ar (i:=5) sc.nd rfl (Jl rfl)<|ck My hr<|aa (ck MQ hr<|aa (pv 0)<|aa ah ae)<|aa ah ae)
  (af (aP (aq (aQ hu) (aG bA (pv 5) ah) ah<|az _) (af (cR Ky rfl (dj rfl T.range<|aa (aG bA (aG cU (pv 5) ah) ah) ae) (aA (i:=6) sc.nd rfl<|Jl rfl)
    (af (ar (i:=7) sc.nd rfl (Jl rfl)<|aG bA (ck My hr<|aa (pv 5)<|aa (aG cB (pv 6) ah) ae)<|au a_ rfl T.len Kc<|aa (pv 3) ae)
    (af (ar (i:=8) sc.nd rfl (Jl rfl)<|aE ax (pv 3) (pv 7) λ_ _=>rfl)
    (ai (aP (PW.pt<|gh (aq (aQ hu) (aE ax (pv 8) ah λ_ _=>rfl) aB<|az _)<|gh (aq (aQ hu) (aE ax (pv 8) ah λ_ _=>rfl) aB<|az _)<|gn<|aq (aQ hu) (aG bA (pv 6) ah) ah<|az _) (af (cp<|d_ JY J3 J_ bM (pv 3)<|aa (pv 8) ae)
     (ai<|cp<|d_ JY J3 J_ bM (pv 4)<|aa (aE ax (pv 4) (pv 7) λ_ _=>rfl) ae)) ay)))))
   (af (ar (i:=9) sc.nd rfl (Jl rfl)<|aG eW (au a_ rfl T.len Kc<|aa (aE ax (pv 1) ah λ_ _=>rfl) ae) ah)
   (af (cp<|d_ JY J3 J_ bM (pv 3)<|aa (aZ<|aa aB<|aa (pv 9) ae) ae)
   (ai<|cp<|d_ JY J3 J_ bM (pv 4)<|aa (aZ ae) ae)))) ay)
  (ai<|aw<|aN<|aa (pv 2)<|aa (pv 3)<|aa (pv 4) ae)))))),?_⟩
 refine⟨_,rfl,rl,_,rfl,SqL.of hP.r,rfl,_,_,rfl,_,_,rfl,_,_,rfl,rfl,?_⟩;refine⟨_,rfl,la,ls,rfl,.inl<|SqL.of hP.l,λl nl=>?_⟩;have k1:=ag nl<|.lst ls;have s1:upd H l (.lst ls) l=B' (.lst ls):=ad;generalize upd H l (.lst ls)=H1 at k1 s1 ⊢;refine⟨_,rfl,sa,ss,rfl,.inl<|SqL.of<|k1 _ _ hP.s,λs' QX=>?_⟩;have k2:=ag QX<|.lst ss;have s2:upd H1 s' (.lst ss) s'=B' (.lst ss):=ad;have nls:l≠s':=aj s1 QX;have fl:H l=none:=nl;have fs:H s'=none:=k1.free QX;generalize upd H1 s' (.lst ss)=H2 at k2 s2 ⊢;have ZM:=k1.trans k2;have pd:PadAt t cs hw l s' ls ss ds out H2:=⟨k2 _ _ s1,s2,nls,bn ZM _ _ hP.rd,hP.cl.mono ZM,hP.good,hP.run⟩;refine⟨_,rfl,a,ns,1,rfl,ZM.seq hS,by decide,λc1=>⟨c1,940,rfl,λnu hn0 hn1=>?_⟩⟩;refine⟨_,rfl,_,_,rfl,rfl,(by decide),.inl ⟨rfl,_,rfl,?_⟩⟩;obtain⟨e0,e1⟩:=iT hP.fin;have Lx:=pd.len;refine fG (λ_=>?_) λ_=>?_
 ·obtain⟨n,hn,hn4⟩:∃n:Nat,nu / 2 % 4=(n:Int)/\n < 4:=⟨(nu / 2 % 4).toNat,by lia,by lia⟩;refine⟨_,rfl,_,_,rfl,rfl,⟨by decide,by decide⟩,_,_,rfl,rfl,(by decide),?_⟩;rw[hn];refine⟨_,rfl,(by lia),(by lia),dQ (lo:=0) (n:=n) (GI K a rl l s' t cs hw nu ds out H) ⟨IV,IV,IV,ls,ss,ds,out,rfl,pd,⟨[],(Kg _).symm⟩,IX _,by lia,ZM⟩ ?_ ?_⟩
  ·rintro i σ G hi ⟨x6,x7,x8,ls,ss,ds2,aa',rfl,i1,i2,i3,i4,i5⟩;have Xs:=i1.len;refine⟨_,rfl,_,rfl,_,_,rfl,rfl,nu,_,rfl,λm hm0 XJ=>?_⟩;refine⟨_,rfl,.ref l,_,rfl,.inl ⟨_,SqL.of i1.hl,rfl⟩,_,_,rfl,rfl,(by lia),?_⟩;obtain⟨p,hp,T_⟩:∃p:Nat,m % (ls.length:Int)=(p:Int)/\p < ls.length:=by
    have a1:=Kz m (show(ls.length:Int)≠0 by lia);have a2:=Kj m (show 0 < (ls.length:Int) by lia);exact⟨(m % (ls.length:Int)).toNat,by lia,by lia⟩
   rw[hp];obtain⟨v,hv⟩:∃v,ls[p]? =B' v:=⟨_,IZ T_⟩;have hd:=getD_some (d:=MR) (show p < ds2.length by lia);have rv:=d9 i1.rd hv;generalize ds2.getD p .none=d at rv hd;have gd:=i1.good d (Ji hd);obtain⟨av,wv,rv',rfl,hav⟩:=vn gd rv;refine⟨_,rfl,_,rfl,.inl ⟨l,_,_,.ref av,rfl,rfl,SqL.of i1.hl,aW hv,?_⟩⟩;refine lA ?_;dsimp only;refine Ia (λQ' h=>⟨_,rfl,.inr (.inl ⟨av,_,0,.str wv,rfl,rfl,SqT.of hav,tV,.inl ⟨rfl,_,rfl,h _⟩⟩)⟩) (λQ' h=>⟨_,rfl,.inr (.inl ⟨av,_,0,.str wv,rfl,rfl,SqT.of hav,tV,.inl ⟨rfl,_,rfl,h _⟩⟩)⟩) (λQ' h=>⟨_,rfl,_,_,rfl,rfl,(by decide),.inl ⟨rfl,_,rfl,h _⟩⟩) ?_ ⟨_,_,_,ls,ss,ds2,aa',rfl,i1,i2,i3,by lia,i5⟩
   ·obtain⟨c,hc,hlc⟩:=u8 i1.run hd;obtain⟨u,hu2⟩:∃u,ss[p]? =B' u:=⟨_,IZ (by lia)⟩;obtain⟨c',ZA,hcu⟩:=i1.cl.get hu2;rw[hc]at ZA;cases ZA;have put:=i1.put rv gd hcu hlc;have ZO:upd G l (.lst (ls++[.ref av])) s'=B' (.lst ss):=by rw[ao (λz=>nls z.symm)];exact i1.hs
    refine⟨_,rfl,.inl ⟨rfl,_,SqL.of i1.hl⟩,_,rfl,l,_,_,rfl,rfl,i1.hl,aD (by lia),?_⟩;refine⟨_,rfl,.inl ⟨rfl,_,SqL.of ZO⟩,_,rfl,_,rfl,.inl ⟨s',_,_,u,rfl,rfl,SqL.of ZO,aW hu2,s',_,_,rfl,rfl,ZO,aD (by lia),?_⟩⟩;obtain⟨mo,em⟩:=i2;refine⟨_,_,_,_,_,_,_,rfl,put,⟨mo++[c],by rw[em,JG]⟩,by rw[I_];lia,by rw[I_,JW];lia,(i5.upd_new fl _).upd_new fs _⟩
  ·rintro σ G ⟨x6,x7,x8,ls2,ss2,ds2,aa',rfl,i1,i2,i3,i4,i5⟩;have Xs:=i1.len;refine⟨_,rfl,.inl ⟨rl,_,1,.ref la,rfl,rfl,SqL.of<|i5 _ _ hP.r,rfl,.ref la,_,rfl,.inl ⟨_,SqL.of<|i5 _ _ hP.l,rfl⟩,_,_,rfl,rfl,?_⟩⟩;have el:(ls.length:Int) - 1=((ds.length - 1:Nat):Int):=by lia
   rw[el];refine⟨_,rfl,.inl ⟨rfl,_,SqL.of i1.hl⟩,_,rfl,(by show 2<=sizeLine;decide),λnt nnt=>?_⟩;have k4:=ag nnt<|.tup [.str<|IK "drop",.int ((ds.length - 1:Nat):Int)];have s4:upd G nt (.tup [.str<|IK "drop",.int ((ds.length - 1:Nat):Int)]) nt=B' (.tup [.str aC,.int ((ds.length - 1:Nat):Int)]):=ad;have j1:=i1.same k4;generalize upd G nt (.tup [.str<|IK "drop",.int ((ds.length - 1:Nat):Int)])=G1 at k4 s4 j1 ⊢;refine⟨l,_,_,rfl,rfl,j1.hl,aD (by lia),?_⟩;have ZO:upd G1 l (.lst<|ls2++[.ref nt]) s'=B' (.lst ss2):=by rw[ao λz=>nls z.symm];exact j1.hs
   refine⟨_,rfl,.inl ⟨rfl,_,SqL.of ZO⟩,Jw _,λnu2 ae7=>?_⟩;have k5:=ag ae7<|.tup [];have s5:upd (upd G1 l<|.lst<|ls2++[.ref nt]) nu2 (.tup []) nu2=B' (.tup<|(([]:IG Int)).map V.int):=ad;have Vv:=k5 _ _ ZO;have gl:bO (.tuple [.str aC,.int ((ds.length - 1:Nat):Int)]):=.inr<|.inr<|.inl ⟨_,rfl⟩;have all:∀x∈ds2++[Nx [.str aC,.int ((ds.length - 1:Nat):Int)]],bO x:=λx hx=>by
    obtain hx|hx:=JA.mp hx
    ·exact i1.good x hx
    ·rw[Jf.mp hx];exact gl
   have hv4:RD G1 (.tuple [.str aC,.int ((ds.length - 1:Nat):Int)]) (.ref nt):=bj s4<|am (bQ _)<|am (bN _) aH;have rd5:=bn k5 _ _<|ce (o:=.lst<|ls2++[.ref nt]) j1.hl all<|LedAt.put.RDs_app1 j1.rd<|am hv4 aH;have cl5:=CLs.mono k5<|j1.cl.upd (o:=.lst<|ls2++[.ref nt]) j1.hl;have sl5:upd (upd G1 l<|.lst<|ls2++[.ref nt]) nu2 (.tup []) l=B' (.lst<|ls2++[.ref nt]):=k5 _ _ ad;have ks5:Same H (upd (upd G1 l<|.lst<|ls2++[.ref nt]) nu2<|.tup []):=((i5.trans k4).upd_new fl _).trans k5;generalize upd (upd G1 l<|.lst<|ls2++[.ref nt]) nu2 (.tup [])=G5 at s5 Vv rd5 cl5 sl5 ks5 ⊢;refine⟨s',_,_,rfl,rfl,Vv,aD (by lia),?_⟩;obtain⟨mo,em⟩:=i2;have hl0:aa'[ds.length - 1]? =B' []:=by
    rw[em,JP (by lia),<-Lx.1];exact e1
   have MT:=iP i1.run<|tQ (t:=t) (cs:=cs) (hw:=hw) hl0;rw[u9]at MT;refine⟨_,rfl,_,rfl,_,rfl,(by show 3<=sizeLine;decide),λr' nr=>?_⟩;have k6:=ag nr<|.lst [.str<|aI hw,.ref l,.ref s'];have f1:upd G5 s' (.lst<|ss2++[.ref nu2]) l=B' (.lst<|ls2++[.ref nt]):=by rw[ao nls];exact sl5
   have f2:upd G5 s' (.lst<|ss2++[.ref nu2]) s'=B' (.lst<|ss2++[.ref nu2]):=ad;have f3:=ce (o:=.lst<|ss2++[.ref nu2]) Vv all rd5;have f4:CLs (upd G5 s'<|.lst<|ss2++[.ref nu2]) (aa'++[[]]) (ss2++[.ref nu2]):=CLs.snoc (CL.upd ⟨nu2,rfl,s5⟩ Vv)<|cl5.upd Vv;exact q r' l s' _ _ _ _ _ ((ks5.upd_new fs _).trans k6) ⟨ad,k6 _ _ f1,k6 _ _ f2,bn k6 _ _ f3,f4.mono k6,all,MT,yX _⟩ (by rw[I_,JW];lia)
 ·refine⟨_,rfl,_,rfl,_,rfl,(by show 3<=sizeLine;decide),λr' nr=>?_⟩;have k3:=ag nr<|.lst [.str<|aI hw,.ref l,.ref s'];have pd3:=pd.same k3;exact q r' l s' ls ss ds out _ (ZM.trans k3) ⟨ad,pd3.hl,pd3.hs,pd3.rd,pd3.cl,pd3.good,pd3.run,hP.fin⟩ (by lia)
end
abbrev yY:KL:=eB 43
structure GJ (mg:Str->IQ IH):Prop where
 enumerate:mg "enumerate"=IV
 dict:mg "dict"=IV
theorem Et{A B:Hp->Prop}(h:A H):Dy σ H λb H4=>if b=IS then A H4 else B H4:=by
 show(if IS=IS then A H else B H)
 exact aT h
section
variable {K:IJ}{a D:IL}{xs:IG V}{te:TE}{σ0:St}{H1:Hp}{Q:VK}
inductive Cs (Lz:St)(H1:Hp)(D:IL)(es:Nat->Jg)(i:Nat)(σ:St)(ys:IG V)(H2:Hp):Prop
 |mk (v0:IQ V)(h0:σ=v0::Lz)(h1:H2 D=B' (.lst ys))(h2:Same H1 H2)(h3:dC H2 ((KI i).map es) ys):Cs Lz H1 D es i σ ys H2
theorem mT(Lz:St)(es:Nat->Jg)(e0:σ0=IV::Lz)(ha:H1 a=B' (.lst xs))(hD:H1 D=IV)(Lx:xs.length<=900)(hg:∀i,i < xs.length->bO (es i))
  (he:∀i x,xs[i]? =B' x->∀H' R,Same H1 H'->(∀v' H'',Same H' H''->RD H'' (es i) v'->R v' H'')->te (B' x::Lz) H' R)
  (hq:∀ys H',Same H1 H'->H' D=B' (.lst ys)->dC H' ((KI xs.length).map es) ys->Q (.ref D) H'):gE (vE K a) D (eF 0) Dy te σ0 H1 Q:=by
 have na:a≠D:=aj ha hD;refine dq (K:=K) (a:=a) (xs:=xs) (Cs Lz H1 D es) ⟨IV,e0,ad,ag hD _,aH⟩ ?_ ?_ ?_
 ·rintro i σ ys H2 _ ⟨_,_,h1,h2,_⟩;exact⟨h1,SqL.of<|h2 _ _ ha⟩
 ·rintro i x σ ys H2 hx ⟨v0,rfl,h1,h2,h3⟩;have Te:i < xs.length:=(IY.mp hx).1;refine eu<|he i x hx _ _ h2 λv' H3 k3 r3=>?_;have hyl:=cq h3;rw[IR,Mf]at hyl;have d3:=k3 _ _ h1;have all:∀d∈(KI<|i+1).map es,bO d:=λd hd=>by
   obtain⟨j,hj,rfl⟩:=J1.mp hd;exact hg j (by have:=Lu.mp hj;lia)
  refine⟨d3,aD (by lia),_,rfl,ad,(h2.trans k3).upd_new hD _,ce d3 all ?_⟩;rw[PB,JO];exact LedAt.put.RDs_app1 (bn k3 _ _ h3)<|am r3 aH
 ·rintro σ ys H2 ⟨_,_,h1,h2,h3⟩;exact hq ys H2 h2 h1 h3
inductive yZ (Lz:St)(H1:Hp)(D:IL)(ks:IG Int)(i:Nat)(σ:St)(ys:IG V)(H2:Hp):Prop
 |mk (v0 v1:IQ V)(ts:IG IL)(h0:σ=v0::v1::Lz)(h1:H2 D=B' (.lst ys))(h2:Same H1 H2)(h3:ys=ts.map V.ref)(h4:ts.length=i)(h5:∀(j:Nat) (t:IL) (k:Int),ts[j]? =B' t->ks[j]? =B' k->H2 t=B' (.tup [.int k,.int (j:Int)])):yZ Lz H1 D ks i σ ys H2
end
theorem jk{α β:Type}(d0:α)(g:α->β)(l:IG α)(h:n=l.length):(KI n).map (λi=>g<|l.getD i d0)=l.map g:=by
 subst h;refine NI λj=>?_;rw[Jx,Jx];by_cases hj:j < l.length
 ·rw[PK hj,IZ hj];show B' (g<|l.getD j d0)=B' (g l[j])
  rw[Jd,IZ hj];rfl
 ·rw[KG (by rw[Mf];lia),KG<|by lia];rfl
def jF(nd:IG Int):IG (bv×V):=(KI nd.length).map λi=>((Ke (nd.getD i 0):bv),V.int (i:Int))
theorem vo(nd:IG Int):(jF nd).map (·.1)=nd.map (Ke:Int->bv):=by
 unfold jF;rw[KJ];exact jk 0 (Ke:Int->bv) nd rfl
theorem y3(hk:k∈nd):cn (jF nd) (Ke k:bv)=B' (.int ((nd.idxOf k:Nat):Int)):=by
 have gen:∀(l:IG Int) (s:Nat),k∈l->cn ((KI l.length).map λi=>((Ke (l.getD i 0):bv),V.int ((s+i:Nat):Int))) (Ke k:bv)=B' (.int ((s+l.idxOf k:Nat):Int)):=by
  intro l
  induction l with
  |nil=>exact λ_ h=>nomatch h
  |cons x l ih=>
   intro s hm;rw[JJ,List.range_succ_eq_map,J',KJ];unfold cn;rw[LR];by_cases e:x=k
   ·subst e;simp
   ·have e1:decide ((Ke ((x::l).getD 0 0):bv)=Ke k)=false:=IW λz=>e<|NO z;have hm':k∈l:=(JC.mp hm).resolve_left λz=>e z.symm;have:=ih (s+1) hm';simp only [e1];unfold cn at this;rw[VP,show(x == k)=IU by simpa using e];have ef:((λi=>((Ke ((x::l).getD i 0):bv),V.int ((s+i:Nat):Int)))∘Nat.succ)=λi=>((Ke (l.getD i 0):bv),V.int ((s+1+i:Nat):Int)):=by
     funext i
     show((Ke (l.getD i 0):bv),V.int ((s+(i+1):Nat):Int))=_
     rw[show s+(i+1)=s+1+i by lia]
    rw[ef];rw[this];show B' (V.int ((s+1+l.idxOf k:Nat):Int))=B' (V.int ((s+(l.idxOf k+1):Nat):Int))
    rw[show s+1+l.idxOf k=s+(l.idxOf k+1) by lia]
 have:=gen nd 0 hk;simp only [Mv]at this;exact this
def Eu(ds1:IG Jg)(nd:IG Int):IG Jg:=nd.map λp=>dI (λk=>((nd.idxOf k:Nat):Int))<|ds1.getD p.toNat .none
def gg(out:IG (IG Int))(k:Int):Int:=(io out).getD k.toNat 0
def He(ds1:IG Jg)(i:Nat):IG Int:=bF<|ds1.getD i .none
inductive GK (vs:IG V)(H:Hp)(Q:VK):Prop
 |mk (p q pp la:IL)(t:Str)(hw:Jm)(xs ls:IG V)(cs:IG (IG Int))(ds:IG Jg)(out:IG (IG Int))(h0:vs=[.ref p,.ref pp])(h1:H p=B' (.tup [.str t,.ref q]))(h2:t.length<=30)(h3:H q=B' (.lst xs))(h4:CLs H cs xs)(h5:cs.length<=900)(h6:(∀c∈cs,aS t.length c))(h7:H pp=B' (.tup [.str<|aI hw,.ref la]))(h8:H la=B' (.lst ls))(h9:dC H ds ls)(ZZ:ds.length<=200)(h11:(∀d∈ds,bO d))(h12:bq t cs hw [] ds=(out,IS))(h14:fK out=IS)
   (h13:∀r l ys nd H',Same H H'->H r=IV->H l=IV->H' r=B' (.tup [.str<|aI hw,.ref l])->H' l=B' (.lst ys)->dC H' (Eu (ds.map<|dI<|gg out) nd) ys->Rg nd (cm (He<|ds.map<|dI<|gg out) (out.idxOf [])<|out.idxOf []+1)->Pi (·<=·) nd->Q (.ref r) H'):GK vs H Q
def y4:Sp:=λvs H Q _=>GK vs H Q
section
variable {P:Jc}{w:Jv}{K:IJ}{mg:Str->IQ IH}{base:JM}
theorem mU:aF ["sentence","paper","sets","firsts","lines","needed","numbers"] ["sentence","paper"] (ap yY):=eR
theorem Ev(F:Fun K "shortened_paper" "shortened_paper" yY f fd)(T:GJ mg)(Mx:Fe P w K mg base 7 "whole_sets" yw)(WY:Fe P w K mg base 1 "first_places" Ce)(aaJ:Fe P w K mg base 1 "renamed" yJ)(Tg:Fe P w K mg base 2 "needed_by" yH)(Z2:Fe P w K mg base 1 "renamed" yK):FnOk P w K mg base c6 8 f fd ["sentence","paper"] y4:=by
 have sc:=mU;refine F.okA mU λLY A outer s H vs Q E hr h=>?_;obtain⟨p,q,pp,la,t,hw,xs,ls,cs,ds,out,rfl,hp,ht,hq,hcs,h9,hcok,hpp,hla,hds,h8,Yp,MT,V4,q'⟩:=h;have hu:=hr.units;have hol:out.length=ds.length:=by
  have:=bY MT;simpa using this
 have hll:=cq hds;obtain⟨he,adQ⟩:=iT V4;refine⟨_,(af (ar (i:=2) sc.nd rfl (Jl rfl)<|ck Mx hr<|aa (pv 0)<|aa (pv 1) ae)
  (af (ar (i:=3) sc.nd rfl (Ob rfl)<|ck WY hr<|aa (pv 2) ae)
  (af (ar (i:=4) sc.nd rfl (Ob rfl)<|bH (NY:=["line","firsts"]) (idx:=[IV,B' 3]) rfl cS (b_<|aE ax (pv 1) ah λ_ _=>rfl) (λ_ _ _ _=>(aA (i:=0) (nD ["line","firsts"]) rfl<|Jl rfl)) (λ_ _ _ _=>c_) λ_ _ _ _=>(ck aaJ hr<|aa (pv 0)<|aa (pv 1) ae))
  (af (ar (i:=5) sc.nd rfl (Jl rfl)<|ck Tg hr<|aa (pv 4)<|aa (d_ JY OZ Q8 (mE hu) (pv 2)<|aa (aZ ae) ae) ae)
  (af (ar (i:=6) sc.nd rfl (Ob rfl)<|bL (qQ rfl) rfl T.dict Rx<|aa (bH (NY:=["number","place"]) (idx:=[IV,IV]) rfl cS (jJ rfl T.enumerate<|pv 5) (λ_ _ _ _=>(Ah (K:=K) (n:=2) rfl rfl<|aY (aA (i:=0) (nD ["number","place"]) rfl<|Jl rfl)<|aY (aA (i:=1) (nD ["number","place"]) rfl<|Jl rfl) dY)) (λ_ _ _ _=>c_) λ_ _ _ _=>(aZ<|aa (pv 1)<|aa (pv 0) ae)) ae)
  (ai<|aw<|aZ<|aa (aE ax (pv 1) ah λ_ _=>rfl)<|aa (bH (NY:=["place","numbers","lines"]) (idx:=[IV,B' 6,B' 4]) rfl cS (b_<|pv 5) (λ_ _ _ _=>(aA (i:=0) (nD ["place","numbers","lines"]) rfl<|Jl rfl)) (λ_ _ _ _=>c_) λ_ _ _ _=>(ck Z2 hr<|aa (aE (iE (K:=K) rfl) (pv 2) (pv 0) λ_ _=>rfl)<|aa (pv 1) ae)) ae)))))),?_⟩
 refine⟨_,rfl,_,rfl,p,q,pp,la,t,hw,xs,ls,cs,ds,out,rfl,hp,ht,hq,hcs,h9,hcok,hpp,hla,hds,by lia,(λd hd=>(gb<|Yp d hd).1),MT,V4,λsl ys H1 k1 nsl VW UV=>?_⟩;have hyl:=UV.length;refine⟨_,rfl,sl,ys,out,rfl,VW,UV,by lia,λfl H2 k2 nfl Zw=>?_⟩;have ZM:=k1.trans k2;have akq:(io out).length=ds.length:=by unfold io;rw[IR,hol]
 have hnm:∀(i:Nat) (d:Jg),ds[i]? =B' d->∀k∈bF d,0<=k/\k < (i:Int):=λi d hd k hk=>by
  have afP:=DU MT hd;have:=yI (Yp _<|Ji hd) afP k hk;rw[JN]at this;lia
 refine⟨_,rfl,.inr<|.inl ⟨pp,_,1,.ref la,rfl,rfl,SqT.of<|ZM _ _ hpp,rfl,la,rfl,⟨_,SqL.of<|ZM _ _ hla⟩,λD1 nD1=>?_⟩⟩;refine mT [B'<|.ref fl] (λi=>dI (gg out)<|ds.getD i .none) rfl (ZM _ _ hla) nD1 (by lia) (λi hi=>lp<|Yp _<|Ji<|getD_some (d:=MR) (show i < ds.length by lia)) (λi x hx H' R k r=>?_) λl1 H3 k3 hD1 RH=>?_
 ·have Te:i < ds.length:=by have:=(IY.mp hx).1;lia
  have hd:=getD_some (d:=MR) Te;have rx:=d9 (bn (ZM.trans k) _ _ hds) hx;exact⟨_,rfl,_,rfl,x,fl,ds.getD i .none,io out,rfl,rx,Yp _<|Ji hd,k _ _ Zw,(λz hz=>by have:=hnm i _ hd z hz;lia),r⟩
 rw[jk MR (dI<|gg out) ds<|by lia]at RH;have g1:∀d∈ds.map (dI<|gg out),bO d:=λd hd=>by
  obtain⟨d',h',rfl⟩:=J1.mp hd;exact lp<|Yp d' h'
 have UW:([]:IG Int)∈out:=Ji adQ;obtain⟨hei,V5⟩:=yN UW;have Zs:=ZM.trans k3;have k13:=k2.trans k3;refine⟨_,rfl,_,rfl,.inl ⟨rfl,_,SqL.of<|k13 _ _ VW⟩,Jw _,λet net=>?_⟩;have k4:=ag net<|.tup [];have s4:upd H3 et (.tup []) et=B' (.tup []):=ad;generalize upd H3 et (.tup [])=H4 at k4 s4 ⊢;have eG:∀j,j < out.length->(out.map fM).getD j .none=fM (out.getD j []):=λj hj=>by
  rw[Jd,Jd,Jx,IZ hj];rfl
 refine⟨.tuple [],out.map fM,_,sl,ys,out.idxOf [],rfl,rfl,(k13.trans k4) _ _ VW,(UV.mono<|k13.trans k4).rds,bj s4 aH,by decide+kernel,fh out,by decide+kernel,by rw[IR];exact hei,?_,λm hm=>?_,?_⟩
 ·rw[eG _ hei,fU,Jd,V5];rfl
 ·rw[eG _ (by lia),fU];refine IW λz=>?_;have ZT:out[m]? =B' []:=by rw[Jd,IZ<|by lia]at z;rw[IZ<|by lia];exact Kp B' z
  have:=ow ZT;lia
 refine⟨D1,l1,ds.map<|dI<|gg out,out.idxOf [],rfl,k4 _ _ hD1,bn k4 _ _ RH,g1,by rw[IR];lia,by rw[IR];lia,λnl nd H5 k5 nnl hnl hpn hsn=>?_⟩;have ZQ:Rg nd (cm (He<|ds.map<|dI<|gg out) (out.idxOf [])<|out.idxOf []+1):=hpn;clear hpn;have aaz:∀i,i<=out.idxOf []->∀k∈He (ds.map<|dI<|gg out) i,0<=k/\k < (i:Int):=λi hi k hk=>by
  have hd:=getD_some (d:=MR) (show i < ds.length by lia);have e1:(ds.map<|dI<|gg out).getD i .none=dI (gg out) (ds.getD i .none):=by rw[Jd,Jx,hd];rfl
  have Oc:k∈bF ((ds.map<|dI<|gg out).getD i .none):=hk;rw[e1,vi<|Yp _<|Ji hd]at Oc;obtain⟨k0,hk0,rfl⟩:=J1.mp Oc;have hr0:=hnm i _ hd k0 hk0;obtain⟨n0,rfl⟩:∃n:Nat,k0=(n:Int):=⟨k0.toNat,by lia⟩;have hn0:n0 < out.length:=by lia
  have ef:gg out (n0:Int)=((out.idxOf (out[n0]'hn0):Nat):Int):=by
   unfold gg io;rw[Mh,Jd,Jx,IZ hn0];rfl
  have:=ow<|IZ hn0;rw[ef];lia
 have ach:∀x∈nd,0<=x/\x<=((out.idxOf []:Nat):Int):=λx hx=>gW aaz<|ZQ.mem_iff.mp hx;have afN:nd.Nodup:=ZQ.nodup_iff.mpr<|gU _;have adK:nd.length<=900:=by
  have:=hW (nm:=He<|ds.map<|dI<|gg out) (last:=out.idxOf []) (λi=>hZ _)<|out.idxOf []+1;rw[ZQ.length_eq];lia
 have agf:∀x∈nd,∀k∈bF ((ds.map<|dI<|gg out).getD x.toNat .none),k∈nd:=λx hx k hk=>by
  have YQ:=ZQ.mem_iff.mp hx;have hr2:=ach x hx;obtain⟨n,rfl⟩:∃n:Nat,x=(n:Int):=⟨x.toNat,by lia⟩;rw[Mh]at hk;exact ZQ.mem_iff.mpr<|ou aaz YQ k hk
 have k35:=k4.trans k5;have k05:=Zs.trans k35;refine⟨_,rfl,nl,rfl,⟨_,SqL.of hnl⟩,λD2 nD2=>?_⟩;refine uW (K:=K) (a:=nl) (xs:=nd.map V.int) (yZ [] H5 D2 nd) ⟨IV,IV,[],rfl,ad,ag nD2 _,rfl,rfl,λj t k h _=>by simp at h⟩ ?_ ?_ ?_
 ·rintro i σ zs G _ ⟨_,_,_,_,i1,i2,_⟩;exact⟨i1,SqL.of<|i2 _ _ hnl⟩
 ·rintro i x σ zs G t0 hx ⟨v0,v1,ts,rfl,i1,i2,rfl,i4,i5⟩ ht0;obtain⟨k,rfl,hk⟩:=fg hx;have Te:=(IY.mp hk).1;have k6:=ag ht0<|.tup [.int (i:Nat),.int k];have s6:upd G t0 (.tup [.int (i:Nat),.int k]) t0=B' (.tup [.int (i:Nat),.int k]):=ad;generalize upd G t0 (.tup [.int (i:Nat),.int k])=G6 at k6 s6 ⊢;refine⟨t0,[.int (i:Nat),.int k],rfl,SqT.of s6,rfl,_,_,rfl,_,_,rfl,rfl,Et ⟨_,rfl,_,rfl,(by show 2<=sizeLine;decide),λtt ntt=>?_⟩⟩;have k7:=ag ntt<|.tup [.int k,.int (i:Nat)];have d7:=(k6.trans k7) _ _ i1;refine⟨d7,aD (by rw[IR];lia),_,_,ts++[tt],rfl,?_,(i2.trans<|k6.trans k7).upd_new nD2 _,?_,by rw[I_,i4];rfl,λj t' k' hj Oc=>?_⟩
  ·rw[ad]
  ·rw[JO];rfl
  ·have keep:∀{b:IL} {zs:IG V},upd G6 tt (.tup [.int k,.int (i:Nat)]) b=B' (.tup zs)->upd (upd G6 tt<|.tup [.int k,.int (i:Nat)]) D2 (.lst<|ts.map V.ref++[.ref tt]) b=B' (.tup zs):=λe=>by
    rw[ao λz=>by rw[z,d7]at e;cases e];exact e
   obtain g|g:=Mw j ts.length
   ·rw[JP g]at hj;exact keep<|(k6.trans k7) _ _<|i5 j t' k' hj Oc
   ·rw[J0 g]at hj;have hji:j=i:=by
     have:=(IY.mp hj).1;rw[JW]at this;lia
    subst hji;rw[i4,MM]at hj;cases hj;rw[hk]at Oc;cases Oc;exact keep ad
 ·rintro σ zs G ⟨v0,v1,ts,rfl,i1,i2,rfl,i4,i5⟩;rw[IR]at i4;refine⟨D2,ts,jF nd,rfl,i1,?_,λj t' kv hj hkv=>?_,?_,?_,λdn ndn=>?_⟩
  ·unfold jF;rw[IR,Mf,i4]
  ·have hjl:=(IY.mp hj).1;unfold jF at hkv;rw[Jx,PK<|by lia]at hkv;cases hkv;exact i5 j t' _ hj (getD_some (d:=(0:Int))<|by lia)
  ·rw[vo];exact ZI _ (λa b h z=>h<|NO z) afN
  ·unfold jF;rw[IR,Mf];exact KE adK (by decide)
  have k8:=ag ndn<|.dK<|jF nd;have s8:upd G dn (.dK<|jF nd) dn=B' (.dK<|jF nd):=ad;generalize upd G dn (.dK<|jF nd)=G8 at k8 s8 ⊢;have k58:=i2.trans k8;have k08:=k05.trans k58;refine⟨_,rfl,.inr<|.inl ⟨pp,_,0,.str<|aI hw,rfl,rfl,SqT.of<|k08 _ _ hpp,rfl,_,rfl,nl,rfl,⟨_,SqL.of<|k58 _ _ hnl⟩,λD3 nD3=>?_⟩⟩;refine mT [B'<|.ref dn,B'<|.ref D1] (λi=>dI (λk=>((nd.idxOf k:Nat):Int))<|(ds.map<|dI<|gg out).getD (nd.getD i 0).toNat .none) rfl (k58 _ _ hnl) nD3 (by rw[IR];exact adK) (λi hi=>?_) (λi x hx H' R k r=>?_) λl3 H9 k9 hD3 hl3=>?_
  ·rw[IR]at hi;have hx:=ach _<|Ji<|getD_some (d:=(0:Int)) hi;exact lp (g1 _<|Ji<|getD_some (d:=MR)<|by rw[IR];lia)
  ·obtain⟨z,rfl,hz⟩:=fg hx;have hzd:nd.getD i 0=z:=by rw[Jd,hz];rfl
   rw[hzd]at r;have hzm:=Ji hz;have hzr:=ach z hzm;obtain⟨n,rfl⟩:∃n:Nat,z=(n:Int):=⟨z.toNat,by lia⟩;rw[Mh]at r;have hn:n < (ds.map<|dI<|gg out).length:=by rw[IR];lia
   have adR:=bn (k35.trans<|k58.trans k) _ _ RH;have akj:=cq adR;obtain⟨v,hv⟩:∃v,l1[n]? =B' v:=⟨_,IZ (by lia)⟩;have rv:=d9 adR hv;have SU:=agf _ hzm;rw[Mh]at SU;exact⟨_,rfl,_,rfl,.inl ⟨D1,l1,(n:Int),v,rfl,rfl,SqL.of ((k35.trans (k58.trans k)) _ _ hD1),aW hv,_,rfl,v,dn,(ds.map (dI (gg out))).getD n .none,jF nd,λk=>((nd.idxOf k:Nat):Int),rfl,rv,g1 _ (Ji (getD_some (d:=MR) hn)),k _ _ s8,(λk' Oc=>y3 (SU k' Oc)),r⟩⟩
  ·refine⟨(by show 2<=sizeLine;decide),λr nr=>?_⟩;have k10:=ag nr<|.tup [.str<|aI hw,.ref D3];rw[IR,jk (0:Int) (λp=>dI (λk=>((nd.idxOf k:Nat):Int))<|(ds.map<|dI<|gg out).getD p.toNat .none) nd rfl]at hl3;exact q' r D3 l3 nd _ (k08.trans<|k9.trans k10) ((k08.trans k9).free nr) (k08.free nD3) ad (k10 _ _ hD3) (bn k10 _ _ hl3) ZQ hsn
end
abbrev y6:KL:=eB 42
structure GL (mg:Str->IQ IH):Prop where
 len:mg "len"=IV
inductive GM (vs:IG V)(H:Hp)(Q:VK):Prop
 |mk (p q pp la:IL)(t:Str)(hw:Jm)(xs ls:IG V)(cs:IG (IG Int))(ds:IG Jg)(out:IG (IG Int))(h0:vs=[.ref p,.ref pp])(h1:H p=B' (.tup [.str t,.ref q]))(h2:t.length<=30)(h3:H q=B' (.lst xs))(h4:CLs H cs xs)(h5:cs.length<=900)(h6:(∀c∈cs,aS t.length c))(h7:H pp=B' (.tup [.str<|aI hw,.ref la]))(h8:H la=B' (.lst ls))(h9:dC H ds ls)(ZZ:ds.length<=200)(h11:(∀d∈ds,bO d))(h12:bq t cs hw [] ds=(out,IS))(h14:fK out=IS)
   (h13:∀l QX H',Same H H'->H l=IV->H' l=B' (.lst<|QX.map V.int)->Rg QX (cm (λi=>bF<|ds.getD i .none) (ds.length - 1)<|ds.length - 1+1)->Pi (·<=·) QX->Q (.ref l) H'):GM vs H Q
def y8:Sp:=λvs H Q _=>GM vs H Q
section
variable {P:Jc}{w:Jv}{K:IJ}{mg:Str->IQ IH}{base:JM}
theorem mV:aF ["sentence","paper","sets"] ["sentence","paper"] (ap y6):=eR
theorem Ew(F:Fun K "needed_lines" "needed_lines" y6 f fd)(T:GL mg)(Mx:Fe P w K mg base 7 "whole_sets" yw)(Tg:Fe P w K mg base 2 "needed_by" yH):FnOk P w K mg base c6 8 f fd ["sentence","paper"] y8:=by
 have sc:=mV;refine F.okA mV λLY A outer s H vs Q E hr h=>?_;obtain⟨p,q,pp,la,t,hw,xs,ls,cs,ds,out,rfl,hp,ht,hq,hcs,h9,hcok,hpp,hla,hds,h8,Yp,MT,V4,q'⟩:=h;have hol:out.length=ds.length:=by
  have:=bY MT;simpa using this
 have he:=(iT V4).1;refine⟨_,(af (ar (i:=2) sc.nd rfl (Jl rfl)<|ck Mx hr<|aa (pv 0)<|aa (pv 1) ae)
  (ai<|aw<|ck Tg hr<|aa (aE ax (pv 1) ah λ_ _=>rfl)<|aa (aG eW (au a_ rfl T.len Kc<|aa (pv 2) ae) ah) ae)),?_⟩
 refine⟨_,rfl,_,rfl,p,q,pp,la,t,hw,xs,ls,cs,ds,out,rfl,hp,ht,hq,hcs,h9,hcok,hpp,hla,hds,by lia,(λd hd=>(gb<|Yp d hd).1),MT,V4,λl ys H1 k1 hl RH ZO=>?_⟩;have hyl:=ZO.length;refine⟨_,rfl,.inr<|.inl ⟨pp,_,1,.ref la,rfl,rfl,SqT.of<|k1 _ _ hpp,rfl,_,rfl,.ref l,_,rfl,.inl ⟨_,SqL.of RH,rfl⟩,_,_,rfl,rfl,?_⟩⟩;have el:(ys.length:Int) - 1=((ds.length - 1:Nat):Int):=by lia
 rw[el];exact⟨la,ls,ds,ds.length - 1,rfl,k1 _ _ hla,bn k1 _ _ hds,Yp,by lia,h8,λl2 QX H2 k2 n2 s2 Vx Vv=>q' l2 QX H2 (k1.trans k2) (k1.free n2) s2 Vx Vv⟩
end
abbrev rL:KL:=eB 63
structure Iq (mg:Str->IQ IH)(CD C1 C2 C3 C4 C5 C6 C7 C8 C9:IL):Prop where
 len:mg "len"=IV
 isinstance:mg "isinstance"=IV
 ValueError:mg "ValueError"=IV
 g_DuelError:eI mg "DuelError" (.ref CD)
 g_NoVariable:eI mg "NoVariable" (.ref C1)
 g_NoFilling:eI mg "NoFilling" (.ref C2)
 g_BadLine:eI mg "BadLine" (.ref C3)
 g_NotWhole:eI mg "NotWhole" (.ref C4)
 g_NoHand:eI mg "NoHand" (.ref C5)
 g_BadStep:eI mg "BadStep" (.ref C6)
 g_NoForm:eI mg "NoForm" (.ref C7)
 g_TooMany:eI mg "TooMany" (.ref C8)
 g_NoText:eI mg "NoText" (.ref C9)
structure Hf (K:IJ)(CC C1 C2 C3 C4 C5 C6 C7 C8 C9:IL)(b1 b2 b3 b4 b5 b6 b7 b8 b9:Jm):Prop where
 ask:dE K CC
 kV:Jq K (.ref CC) (.type "ValueError")=B' IS
 k1:Jq K (.ref CC) (.ref C1)=B' b1
 k2:Jq K (.ref CC) (.ref C2)=B' b2
 k3:Jq K (.ref CC) (.ref C3)=B' b3
 k4:Jq K (.ref CC) (.ref C4)=B' b4
 k5:Jq K (.ref CC) (.ref C5)=B' b5
 k6:Jq K (.ref CC) (.ref C6)=B' b6
 k7:Jq K (.ref CC) (.ref C7)=B' b7
 k8:Jq K (.ref CC) (.ref C8)=B' b8
 k9:Jq K (.ref CC) (.ref C9)=B' b9
theorem fO(x:IsExc H ea C)(k:Same H H'):IsExc H' ea C:=x.elim (λz=>.inl<|k _ _ z) λ⟨d,z⟩=>.inr ⟨d,k _ _ z⟩
def GN:V->Jm
 |.bl b=>b
 |_=>IU
theorem rM:∀bs:IG Jm,(((bs.map V.bl).filter GN).map λx=>x).length=(bs.filter id).length
 |[]=>rfl
 |true::bs=>Kp (·+1)<|rM bs
 |false::bs=>rM bs
def fC(CC:IL):Sp:=λvs H Q _=>∃ea:IL,vs=[.ref ea]/\IsExc H ea CC/\∀H':Hp,Same H H'->Q (.bl IS) H'
section
variable {P:Jc}{w:Jv}{K:IJ}{mg:Str->IQ IH}{base:JM}{CC CD C1 C2 C3 C4 C5 C6 C7 C8 C9:IL}{b1 b2 b3 b4 b5 b6 b7 b8 b9:Jm}
theorem tX:aF ["_law_error","_law_told"] ["_law_error"] (ap rL):=eR
theorem lB(F:Fun K "_law_alone" "_law_alone" rL f fd)(T:Iq mg CD C1 C2 C3 C4 C5 C6 C7 C8 C9)(B:Hf K CC C1 C2 C3 C4 C5 C6 C7 C8 C9 b1 b2 b3 b4 b5 b6 b7 b8 b9)(kD:Jq K (.ref CC) (.ref CD)=B' IS)(h1:([b1,b2,b3,b4,b5,b6,b7,b8,b9].filter id).length=1):FnOk P w K mg base c6 1 f fd ["_law_error"] (fC CC):=by
 have sc:=tX;refine F.okA tX λLY A outer s H vs Q E hr h=>?_;obtain⟨ea,rfl,he,q⟩:=h;have hu:=hr.units;refine⟨_,(af (aP (PW.pt<|gh (bE<|bo<|au bD rfl T.isinstance Jt<|aa (pv 0)<|aa (bz rfl T.g_DuelError) ae)<|gn<|bE<|bo<|au bD rfl T.isinstance Jt<|aa (pv 0)<|aa (cy (v:=.ty "ValueError") rfl T.ValueError PyProof.Rows.Boot.«ValueError» rfl) ae) (ai<|aw eV) ay)
  (af (ar (i:=1) sc.nd rfl (Jl rfl)<|aN<|aa (au bD rfl T.isinstance Jt<|aa (pv 0)<|aa (bz rfl T.g_NoVariable) ae)<|aa (au bD rfl T.isinstance Jt<|aa (pv 0)<|aa (bz rfl T.g_NoFilling) ae)<|aa (au bD rfl T.isinstance Jt<|aa (pv 0)<|aa (bz rfl T.g_BadLine) ae) ae)
  (af (ar (i:=1) sc.nd rfl (Jl rfl)<|aG iW (pv 1)<|aN<|aa (au bD rfl T.isinstance Jt<|aa (pv 0)<|aa (bz rfl T.g_NotWhole) ae)<|aa (au bD rfl T.isinstance Jt<|aa (pv 0)<|aa (bz rfl T.g_NoHand) ae)<|aa (au bD rfl T.isinstance Jt<|aa (pv 0)<|aa (bz rfl T.g_BadStep) ae) ae)
  (af (ar (i:=1) sc.nd rfl (Jl rfl)<|aG iW (pv 1)<|aN<|aa (au bD rfl T.isinstance Jt<|aa (pv 0)<|aa (bz rfl T.g_NoForm) ae)<|aa (au bD rfl T.isinstance Jt<|aa (pv 0)<|aa (bz rfl T.g_TooMany) ae)<|aa (au bD rfl T.isinstance Jt<|aa (pv 0)<|aa (bz rfl T.g_NoText) ae) ae)
  (ai<|aw<|dZ (aQ hu) (au a_ rfl T.len Kc<|aa (bH (NY:=["_law_one"]) (idx:=[IV]) rfl cS (b_<|pv 1) (λ_ _ _ _=>(aA (i:=0) (nD ["_law_one"]) rfl<|Jl rfl)) (λ_ _ _ _=>(cG<|bo<|pv 0)) λ_ _ _ _=>(pv 0)) ae) ah<|az _))))),?_⟩
 refine⟨_,rfl,⟨ea,CC,_,_,_,rfl,rfl,he,B.ask,kD,IS,rfl,aO ?_⟩⟩;refine⟨_,rfl,⟨ea,CC,.ty "ValueError",.type "ValueError",IS,rfl,rfl,he,B.ask,B.kV,IS,rfl,aO ?_⟩⟩;refine⟨_,rfl,⟨ea,CC,_,_,_,rfl,rfl,he,B.ask,B.k1,_,rfl,⟨ea,CC,_,_,_,rfl,rfl,he,B.ask,B.k2,_,rfl,⟨ea,CC,_,_,_,rfl,rfl,he,B.ask,B.k3,(by show 3<=sizeLine;decide),λl1 RH=>?_⟩⟩⟩⟩;have k1:=ag RH<|.lst [.bl b1,.bl b2,.bl b3];have r1:upd H l1 (.lst [.bl b1,.bl b2,.bl b3]) l1=B' (.lst [.bl b1,.bl b2,.bl b3]):=ad;show eF 1 (.ref l1) _ (upd H l1<|.lst [.bl b1,.bl b2,.bl b3]) _
 generalize upd H l1 (.lst [.bl b1,.bl b2,.bl b3])=H1 at k1 r1;refine⟨_,rfl,_,rfl,⟨ea,CC,_,_,_,rfl,rfl,(fO he k1),B.ask,B.k4,_,rfl,⟨ea,CC,_,_,_,rfl,rfl,(fO he k1),B.ask,B.k5,_,rfl,⟨ea,CC,_,_,_,rfl,rfl,(fO he k1),B.ask,B.k6,(by show 3<=sizeLine;decide),λl2 Xs=>?_⟩⟩⟩⟩;have k2:=ag Xs<|.lst [.bl b4,.bl b5,.bl b6];refine⟨l1,l2,_,_,rfl,rfl,k2 _ _ r1,ad,(by show 6<=sizeLine;decide),λl3 hl3=>?_⟩;have k3:=k1.trans<|k2.trans<|ag hl3<|.lst [.bl b1,.bl b2,.bl b3,.bl b4,.bl b5,.bl b6];have r3:upd (upd H1 l2<|.lst [.bl b4,.bl b5,.bl b6]) l3 (.lst [.bl b1,.bl b2,.bl b3,.bl b4,.bl b5,.bl b6]) l3=B' (.lst [.bl b1,.bl b2,.bl b3,.bl b4,.bl b5,.bl b6]):=ad;show eF 1 (.ref l3) _ (upd (upd H1 l2<|.lst [.bl b4,.bl b5,.bl b6]) l3<|.lst [.bl b1,.bl b2,.bl b3,.bl b4,.bl b5,.bl b6]) _
 generalize upd (upd H1 l2<|.lst [.bl b4,.bl b5,.bl b6]) l3 (.lst [.bl b1,.bl b2,.bl b3,.bl b4,.bl b5,.bl b6])=H3 at k3 r3;refine⟨_,rfl,_,rfl,⟨ea,CC,_,_,_,rfl,rfl,(fO he k3),B.ask,B.k7,_,rfl,⟨ea,CC,_,_,_,rfl,rfl,(fO he k3),B.ask,B.k8,_,rfl,⟨ea,CC,_,_,_,rfl,rfl,(fO he k3),B.ask,B.k9,(by show 3<=sizeLine;decide),λl4 hl4=>?_⟩⟩⟩⟩;have k4:=ag hl4<|.lst [.bl b7,.bl b8,.bl b9];refine⟨l3,l4,_,_,rfl,rfl,k4 _ _ r3,ad,(by show 9<=sizeLine;decide),λl5 hl5=>?_⟩;have k5:=k3.trans<|k4.trans<|ag hl5<|.lst [.bl b1,.bl b2,.bl b3,.bl b4,.bl b5,.bl b6,.bl b7,.bl b8,.bl b9];have r5:upd (upd H3 l4<|.lst [.bl b7,.bl b8,.bl b9]) l5 (.lst [.bl b1,.bl b2,.bl b3,.bl b4,.bl b5,.bl b6,.bl b7,.bl b8,.bl b9]) l5=B' (.lst [.bl b1,.bl b2,.bl b3,.bl b4,.bl b5,.bl b6,.bl b7,.bl b8,.bl b9]):=ad;generalize e5:upd (upd H3 l4<|.lst [.bl b7,.bl b8,.bl b9]) l5 (.lst [.bl b1,.bl b2,.bl b3,.bl b4,.bl b5,.bl b6,.bl b7,.bl b8,.bl b9])=H5 at k5 r5;refine⟨_,rfl,l5,rfl,⟨_,SqL.of<|by rw[<-e5]at r5;exact r5⟩,λD hD=>?_⟩;refine fW [] GN (λx=>x) rfl (by rw[<-e5]at r5;exact r5) hD (by show 9<=900;decide) ?_ ?_ ?_
 ·intro x hx H' R k r;obtain⟨b,rfl⟩:∃b,x=.bl b:=by
   simp only [JC,O9,or_false]at hx;obtain rfl|rfl|rfl|rfl|rfl|rfl|rfl|rfl|rfl:=hx<;>exact⟨_,rfl⟩
  exact⟨_,rfl,b,rfl,r⟩
 ·intro x hx _ H' R k r;exact⟨_,rfl,r⟩
 ·refine⟨.ref D,_,rfl,.inl ⟨_,SqL.of ad,rfl⟩,.inl ⟨rfl,?_⟩⟩;have ec:((([b1,b2,b3,b4,b5,b6,b7,b8,b9].map V.bl).filter GN).map λx=>x).length=1:=(rM _).trans h1;have ed:decide (V.int ((((([b1,b2,b3,b4,b5,b6,b7,b8,b9].map V.bl).filter GN).map λx=>x).length:Nat):Int)=V.int 1)=true:=by rw[ec];rfl
  show Q (.bl (decide (V.int ((((([b1,b2,b3,b4,b5,b6,b7,b8,b9].map V.bl).filter GN).map λx=>x).length:Nat):Int)=V.int 1))) _
  rw[ed];refine q _ ?_;rw[<-e5]at k5;exact k5.trans<|ag hD _
end
structure GO (K:IJ)(mg:Str->IQ IH)(CH:IL):Prop where
 g_SPOILER:eI mg "SPOILER" (.str<|aI IU)
 m_NoHand:mg "NoHand"=B' (.ref CH)
 x_NoHand:LK K CH [.type "ValueError",.type "Exception",.type "BaseException",.type "object"] "ValueError.__new__"=IS
inductive y9 (CH:IL)(vs:IG V)(H:Hp)(E:XK):Prop
 |mk (p q pp la:IL)(t:Str)(xs ls:IG V)(cs:IG (IG Int))(ds:IG Jg)(out:IG (IG Int))(h0:vs=[.ref p,.ref pp])(h1:H p=B' (.tup [.str t,.ref q]))(h2:t.length<=30)(h3:H q=B' (.lst xs))(h4:CLs H cs xs)(h5:cs.length<=900)(h6:(∀c∈cs,aS t.length c))(h7:H pp=B' (.tup [.str<|aI IS,.ref la]))(h8:H la=B' (.lst ls))(h9:dC H ds ls)(ZZ:ds.length<=900)(h11:(∀d∈ds,eE d))(h12:bq t cs IS [] ds=(out,IS))(h13:∀H',Same H H'->E (.ref CH) IV H'):y9 CH vs H E
def jT(CH:IL):Sp:=λvs H _ E=>y9 CH vs H E
section
variable {P:Jc}{w:Jv}{K:IJ}{mg:Str->IQ IH}{base:JM}{CB CW CH:IL}
theorem Bj(F:Fun K "needed_lines" "needed_lines" y6 f fd)(Mx:u6 P w K mg base 7 "whole_sets" g1 e1 ["sentence","paper"] (cJ CB)):FnOk P w K mg base (iq P w) 8 f fd ["sentence","paper"] (cJ CB):=by
 have sc:=mV;refine F.okD mV (λvs H Q E h=>?_) λLY A outer s H vs Q E hr h=>?_
 ·obtain⟨p,q,pp,la,t,hw,xs,ls,cs,ds,out,rfl,_⟩:=h;rfl
 obtain⟨p,q,pp,la,t,hw,xs,ls,cs,ds,out,rfl,YR⟩:=h;refine⟨_,(af (ar (i:=2) sc.nd rfl (Jl rfl)<|nY Mx hr (by lia) rfl<|aa (pv 0)<|aa (pv 1) ae)
  (ai aU)),?_⟩
 exact⟨_,rfl,_,rfl,p,q,pp,la,t,hw,xs,ls,cs,ds,out,rfl,by assumption,by assumption,by assumption,by assumption,by assumption,by assumption,by assumption,by assumption,by assumption,by assumption,by assumption,by assumption,by assumption⟩
theorem Bk(F:Fun K "needed_lines" "needed_lines" y6 f fd)(Mx:sj P w K mg base 7 "whole_sets" g1 e1 ["sentence","paper"] (gR CW)):FnOk P w K mg base (jq P w) 8 f fd ["sentence","paper"] (gR CW):=by
 have sc:=mV;refine F.oXA mV λLY A outer s H vs Q E hr h=>?_;obtain⟨p,q,pp,la,t,hw,xs,ls,cs,ds,out,rfl,YR⟩:=h;refine⟨_,(af (ar (i:=2) sc.nd rfl (Jl rfl)<|wG Mx hr (by lia) rfl<|aa (pv 0)<|aa (pv 1) ae)
  (ai aU)),?_⟩
 exact⟨_,rfl,_,rfl,p,q,pp,la,t,hw,xs,ls,cs,ds,out,rfl,by assumption,by assumption,by assumption,by assumption,by assumption,by assumption,by assumption,by assumption,by assumption,by assumption,by assumption,by assumption,by assumption,by assumption⟩
theorem Bl(F:Fun K "shortened_paper" "shortened_paper" yY f fd)(Mx:u6 P w K mg base 7 "whole_sets" g1 e1 ["sentence","paper"] (cJ CB)):FnOk P w K mg base (iq P w) 8 f fd ["sentence","paper"] (cJ CB):=by
 have sc:=mU;refine F.okD mU (λvs H Q E h=>?_) λLY A outer s H vs Q E hr h=>?_
 ·obtain⟨p,q,pp,la,t,hw,xs,ls,cs,ds,out,rfl,_⟩:=h;rfl
 obtain⟨p,q,pp,la,t,hw,xs,ls,cs,ds,out,rfl,YR⟩:=h;refine⟨_,(af (ar (i:=2) sc.nd rfl (Jl rfl)<|nY Mx hr (by lia) rfl<|aa (pv 0)<|aa (pv 1) ae)
  (af aU
  (af aU
  (af aU
  (af aU
  (ai aU)))))),?_⟩
 exact⟨_,rfl,_,rfl,p,q,pp,la,t,hw,xs,ls,cs,ds,out,rfl,by assumption,by assumption,by assumption,by assumption,by assumption,by assumption,by assumption,by assumption,by assumption,by assumption,by assumption,by assumption,by assumption⟩
theorem Bm(F:Fun K "shortened_paper" "shortened_paper" yY f fd)(Mx:sj P w K mg base 7 "whole_sets" g1 e1 ["sentence","paper"] (gR CW)):FnOk P w K mg base (jq P w) 8 f fd ["sentence","paper"] (gR CW):=by
 have sc:=mU;refine F.oXA mU λLY A outer s H vs Q E hr h=>?_;obtain⟨p,q,pp,la,t,hw,xs,ls,cs,ds,out,rfl,YR⟩:=h;refine⟨_,(af (ar (i:=2) sc.nd rfl (Jl rfl)<|wG Mx hr (by lia) rfl<|aa (pv 0)<|aa (pv 1) ae)
  (af aU
  (af aU
  (af aU
  (af aU
  (ai aU)))))),?_⟩
 exact⟨_,rfl,_,rfl,p,q,pp,la,t,hw,xs,ls,cs,ds,out,rfl,by assumption,by assumption,by assumption,by assumption,by assumption,by assumption,by assumption,by assumption,by assumption,by assumption,by assumption,by assumption,by assumption,by assumption⟩
theorem y_(F:Fun K "joined_clauses" "joined_clauses" lx f fd)(NK:u6 P w K mg base 6 "sets_of" g1 e1 ["sentence","paper"] (cJ CB)):FnOk P w K mg base (iq P w) 7 f fd ["sentence","paper"] (cJ CB):=by
 have sc:=jg;refine F.okD jg (λvs H Q E h=>?_) λLY A outer s H vs Q E hr h=>?_
 ·obtain⟨p,q,pp,la,t,hw,xs,ls,cs,ds,out,rfl,_⟩:=h;rfl
 obtain⟨p,q,pp,la,t,hw,xs,ls,cs,ds,out,rfl,YR⟩:=h;refine⟨_,(af (ar (i:=2) sc.nd rfl (Jl rfl)<|nY NK hr (by lia) rfl<|aa (pv 0)<|aa (pv 1) ae)
  (af aU
  (af aU
  (af aU
  (af aU
  (ai aU)))))),?_⟩
 exact⟨_,rfl,_,rfl,p,q,pp,la,t,hw,xs,ls,cs,ds,out,rfl,by assumption,by assumption,by assumption,by assumption,by assumption,by assumption,by assumption,by assumption,by assumption,by assumption,by assumption,by assumption,by assumption⟩
theorem za(F:Fun K "joined_clauses" "joined_clauses" lx f fd)(T:GO K mg CH)(NK:Fe P w K mg base 6 "sets_of" gQ):FnOk P w K mg base (jq P w) 7 f fd ["sentence","paper"] (jT CH):=by
 have sc:=jg;refine F.oXA jg λLY A outer s H vs Q E hr h=>?_;obtain⟨p,q,pp,la,t,xs,ls,cs,ds,out,rfl,hp,ht,hq,hcs,h9,hcok,hpp,hla,hds,h8,WI,MT,q'⟩:=h;have hu:=hr.units;refine⟨_,(af (ar (i:=2) sc.nd rfl (Jl rfl)<|ck NK hr<|aa (pv 0)<|aa (pv 1) ae)
  (af (aP (aq (fH hu) (aE ax (pv 1) ah λ_ _=>rfl) (bz rfl T.g_SPOILER)<|az _) (ai<|ph T.x_NoHand Md T.m_NoHand rfl<|aa aB ae) ay)
  (af aU
  (af aU
  (af aU
  (ai aU)))))),?_⟩
 refine⟨_,rfl,_,rfl,p,q,pp,la,t,IS,xs,ls,cs,ds,out,rfl,hp,ht,hq,hcs,h9,hcok,hpp,hla,hds,h8,WI,MT,λsl ys H1 k1 nsl VW UV=>?_⟩;refine⟨_,rfl,.inr<|.inl ⟨pp,_,0,.str<|aI IS,rfl,rfl,SqT.of<|k1 _ _ hpp,rfl,.inl ⟨rfl,_,rfl,?_⟩⟩⟩;rw[IW (show¬V.str (aI IS)=V.str (aI IU) by decide+kernel)];exact aT ⟨(by show 1<=sizeLine;decide),q' H1 k1⟩
end
abbrev rN:KL:=eB 65
abbrev Ex:KL:=eB 47
structure GP (mg:Str->IQ IH):Prop where
 isinstance:mg "isinstance"=IV
 int:mg "int"=IV
 bool:mg "bool"=IV
def mW:Sp:=λvs H Q _=>∃z:Int,vs=[.int z]/\Q (.bl IS) H
structure vp (K:IJ)(mg:Str->IQ IH)(CB CW CH fI:IL):Prop where
 isinstance:mg "isinstance"=IV
 list:mg "list"=IV
 tuple:mg "tuple"=IV
 m_BadLine:mg "BadLine"=B' (.ref CB)
 x_BadLine:gN K CB [.type "ValueError",.type "Exception",.type "BaseException",.type "object"] "ValueError.__new__" fI=IS
 be_BadLine:JL K CB (.type "BaseException")=B' IS
 lt_BadLine:JL K CB (.ref CB)=B' IS
 m_NotWhole:mg "NotWhole"=B' (.ref CW)
 x_NotWhole:LK K CW [.type "ValueError",.type "Exception",.type "BaseException",.type "object"] "ValueError.__new__"=IS
 be_NotWhole:JL K CW (.type "BaseException")=B' IS
 n2_BadLine:JL K CW (.ref CB)=B' IU
 m_NoHand:mg "NoHand"=B' (.ref CH)
 x_NoHand:LK K CH [.type "ValueError",.type "Exception",.type "BaseException",.type "object"] "ValueError.__new__"=IS
 n3_BadLine:JL K CH (.ref CB)=B' IU
 n3_NotWhole:JL K CH (.ref CW)=B' IU
 get:xr K CB "place"
structure mY (H:Hp)(vs:IG V)(QH:Nat)(p q pp la:IL)(t:Str)(hw:Jm)(xs ls:IG V)(cs:IG (IG Int))(ds:IG Jg):Prop where
 h0:vs=[.int (QH:Int),.ref p,.ref pp]
 hp:H p=B' (.tup [.str t,.ref q])
 ht:t.length<=30
 hq:H q=B' (.lst xs)
 hcs:CLs H cs xs
 h9:cs.length<=100
 hcok:∀c∈cs,aS t.length c
 hpp:H pp=B' (.tup [.str<|aI hw,.ref la])
 hla:H la=B' (.lst ls)
 hds:dC H ds ls
 h8:ds.length<=200
inductive Ct (vs:IG V)(H:Hp)(Q:VK):Prop
 |mk (QH:Nat)(p q pp la:IL)(t:Str)(hw:Jm)(xs ls:IG V)(cs:IG (IG Int))(ds:IG Jg)(out:IG (IG Int))(h:mY H vs QH p q pp la t hw xs ls cs ds)(hg:∀d∈ds,bO d)(MT:bq t cs hw [] ds=(out,IS))(hc:(QH=0/\fK out=IS)\/(QH=1/\fK out=IS)\/(QH=2/\hw=IU))(q':∀l H',Same H H'->H' l=B' (.lst [.str<|IK "told",.int (-2)])->Q (.ref l) H'):Ct vs H Q
def zb:Sp:=λvs H Q _=>Ct vs H Q
inductive Cu (vs:IG V)(H:Hp)(Q:VK):Prop
 |mk (QH:Nat)(p q pp la:IL)(t:Str)(hw:Jm)(xs ls:IG V)(cs:IG (IG Int))(ds:IG Jg)(out:IG (IG Int))(h:mY H vs QH p q pp la t hw xs ls cs ds)(hg:∀d∈ds,bO d)(MT:bq t cs hw [] ds=(out,IS))(hc:QH=0\/QH=1)(he:fK out=IU)(q':∀l H',Same H H'->H' l=B' (.lst [.str<|IK "not whole",.int (-2)])->Q (.ref l) H'):Cu vs H Q
def zc:Sp:=λvs H Q _=>Cu vs H Q
inductive Cv (vs:IG V)(H:Hp)(Q:VK):Prop
 |mk (p q pp la:IL)(t:Str)(xs ls:IG V)(cs:IG (IG Int))(ds:IG Jg)(out:IG (IG Int))(h:mY H vs 2 p q pp la t IS xs ls cs ds)(hg:∀d∈ds,bO d)(MT:bq t cs IS [] ds=(out,IS))(q':∀l H',Same H H'->H' l=B' (.lst [.str<|IK "hand",.int (-2)])->Q (.ref l) H'):Cv vs H Q
def zd:Sp:=λvs H Q _=>Cv vs H Q
inductive Cw (vs:IG V)(H:Hp)(Q:VK):Prop
 |mk (QH:Nat)(p q pp la:IL)(t:Str)(hw:Jm)(xs ls:IG V)(cs:IG (IG Int))(ds:IG Jg)(out:IG (IG Int))(h:mY H vs QH p q pp la t hw xs ls cs ds)(hs:∀d∈ds,eE d)(MT:bq t cs hw [] ds=(out,IU))(hc:QH=0\/QH=1\/QH=2)(q':∀l H',Same H H'->H' l=B' (.lst [.str<|IK "bad",.int (out.length:Int)])->Q (.ref l) H'):Cw vs H Q
def ze:Sp:=λvs H Q _=>Cw vs H Q
section
variable {P:Jc}{w:Jv}{K:IJ}{mg:Str->IQ IH}{base:JM}{CB CW CH fI:IL}
theorem Cy:aF ["_law_found"] ["_law_found"] (ap Ex):=eR
theorem Ey(F:Fun K "_law_whole" "_law_whole" Ex f fd)(T:GP mg):FnOk P w K mg base c6 1 f fd ["_law_found"] mW:=by
 have sc:=Cy;refine F.okA Cy λLY A outer s H vs Q E hr h=>?_;obtain⟨z,rfl,q⟩:=h;exists _,(ai<|aw<|jV (au dm rfl T.isinstance Jt<|aa (pv 0)<|aa (cy (v:=.ty "int") rfl T.int R0 rfl) ae)<|m9<|vB<|au dm rfl T.isinstance Jt<|aa (pv 0)<|aa (cy (v:=.ty "bool") rfl T.bool Ry rfl) ae);exact⟨_,rfl,.int z,_,"int",IS,rfl,.int z,bS IB,IS,rfl,aT ⟨_,rfl,.int z,_,"bool",IU,rfl,.int z,bS IC,_,rfl,q⟩⟩
theorem jB:aF ["_law_word","_law_sentence_here","_law_paper_here","_law_found","_law_error","_law_told","e"] ["_law_word","_law_sentence_here","_law_paper_here"] (ap rN):=eR
theorem Bn(F:Fun K "_law_refusal" "_law_refusal" rN f fd)(T:vp K mg CB CW CH fI)(Nf:Fe P w K mg base 8 "needed_lines" y8)(Mo:Fe P w K mg base 8 "shortened_paper" y4)(ME:Fe P w K mg base 7 "joined_clauses" rG)(NN:Fe P w K mg base 1 "_law_alone" (fC CB))(NL:Fe P w K mg base 1 "_law_whole" mW):FnOk P w K mg base c6 9 f fd ["_law_word","_law_sentence_here","_law_paper_here"] zb:=by
 have sc:=jB;refine F.ok jB (λvs H Q E h=>?_) λLY A outer s H vs Q E hr h=>?_
 ·obtain⟨QH,p,q,pp,la,t,hw,xs,ls,cs,ds,out,h,_⟩:=h;rw[h.h0];rfl
 obtain⟨QH,p,q,pp,la,t,hw,xs,ls,cs,ds,out,⟨rfl,hp,ht,hq,hcs,h9,hcok,hpp,hla,hds,h8⟩,hg,MT,hc,q'⟩:=h;have hu:=hr.units;refine⟨_,(af (ar (i:=3) sc.nd rfl (Jl rfl) bP)
  (af (ar (i:=4) sc.nd rfl (Jl rfl) bP)
  (af (ar (i:=5) sc.nd rfl (Jl rfl) aB)
  (af (Ap rfl<|ai<|aP (aq (aQ hu) (pv 0) ah<|az _) (ai<|ar (i:=3) sc.nd rfl (Jl rfl)<|ck Nf hr<|aa (pv 1)<|aa (pv 2) ae)<|ai<|aP (aq (aQ hu) (pv 0) ah<|az _) (ai<|ar (i:=3) sc.nd rfl (Jl rfl)<|ck Mo hr<|aa (pv 1)<|aa (pv 2) ae)<|ai<|ar (i:=3) sc.nd rfl (Jl rfl)<|ck ME hr<|aa (pv 1)<|aa (pv 2) ae)
  (af (aP (PW.pt<|dA (aq ir (pv 4) bP<|az _)<|cT<|bE<|bo<|ck NN hr<|aa (pv 4) ae) (ai<|aw<|aN<|aa aB<|aa (ci bB ah) ae) ay)
  (af (aP (aq (aQ hu) (pv 5) aB<|az _) (af (aP (bE<|bo<|ck NL hr<|aa (fB (pv 4) rfl) ae) (ai<|aw<|aN<|aa aB<|aa (ci bB ah) ae) ay)
   (ai<|aw<|aN<|aa (pv 5)<|aa (fB (pv 4) rfl) ae)) ay)
  (af (aP (PW.pt<|dA (aq (aQ hu) (pv 5) aB<|az _)<|cT<|bE<|bo<|au fZ rfl T.isinstance Jt<|aa (pv 3)<|aa (aZ<|aa (cy (v:=.ty "list") rfl T.list KC rfl)<|aa (cy (v:=.ty "tuple") rfl T.tuple Ko rfl) ae) ae) (ai<|aw<|aN<|aa aB<|aa (ci bB ah) ae) ay)
  (ai<|aw<|aN<|aa (pv 5)<|aa (ci bB ah) ae)))))))),?_⟩
 obtain⟨rfl,he⟩|⟨rfl,he⟩|⟨rfl,rfl⟩:=hc
 ·refine⟨_,rfl,.inl ⟨rfl,_,rfl,aT ?_⟩⟩;refine⟨_,rfl,_,rfl,p,q,pp,la,t,hw,xs,ls,cs,ds,out,rfl,hp,ht,hq,hcs,by lia,hcok,hpp,hla,hds,h8,hg,MT,he,λl QX H1 k1 nl hl _ _=>?_⟩;refine⟨_,rfl,rfl,_,rfl,G_ rfl<|aO ?_⟩;refine⟨_,rfl,.inl ⟨rfl,_,rfl,?_⟩⟩;rw[IW (show¬V.str (IK "told")=V.str (IK "bad") by decide+kernel)];refine aO ⟨_,rfl,.inl ⟨rfl,_,rfl,?_⟩⟩;rw[Jj (rfl:V.str (IK "told")=V.str (IK "told"))];refine aT ⟨_,rfl,(by show 2<=sizeLine;decide),λtp ZK=>?_⟩;have kt:=ag ZK<|.tup [.ty "list",.ty "tuple"];refine⟨_,tp,rfl,ad,.inl ⟨l,_,rfl,kt _ _ hl⟩,IS,rfl,aO ?_⟩;refine⟨_,rfl,_,rfl,(by show 2<=sizeLine;decide),λl nl=>?_⟩;exact q' l _ (k1.trans<|kt.trans<|ag nl _) ad
 ·refine⟨_,rfl,.inl ⟨rfl,_,rfl,aO ⟨_,rfl,.inl ⟨rfl,_,rfl,aT ?_⟩⟩⟩⟩;refine⟨_,rfl,_,rfl,p,q,pp,la,t,hw,xs,ls,cs,ds,out,rfl,hp,ht,hq,hcs,by lia,hcok,hpp,hla,hds,h8,hg,MT,he,λr l ys nd H1 k1 nr nl YR hl _ _ _=>?_⟩;refine⟨_,rfl,rfl,_,rfl,G_ rfl<|aO ?_⟩;refine⟨_,rfl,.inl ⟨rfl,_,rfl,?_⟩⟩;rw[IW (show¬V.str (IK "told")=V.str (IK "bad") by decide+kernel)];refine aO ⟨_,rfl,.inl ⟨rfl,_,rfl,?_⟩⟩;rw[Jj (rfl:V.str (IK "told")=V.str (IK "told"))];refine aT ⟨_,rfl,(by show 2<=sizeLine;decide),λtp ZK=>?_⟩;have kt:=ag ZK<|.tup [.ty "list",.ty "tuple"];refine⟨_,tp,rfl,ad,.inr ⟨r,_,rfl,kt _ _ YR⟩,IS,rfl,aO ?_⟩;refine⟨_,rfl,_,rfl,(by show 2<=sizeLine;decide),λl nl=>?_⟩;exact q' l _ (k1.trans<|kt.trans<|ag nl _) ad
 ·refine⟨_,rfl,.inl ⟨rfl,_,rfl,aO ⟨_,rfl,.inl ⟨rfl,_,rfl,aO ?_⟩⟩⟩⟩;refine⟨_,rfl,_,rfl,p,q,pp,la,t,xs,ls,cs,ds,out,rfl,hp,ht,hq,hcs,h9,hcok,hpp,hla,hds,h8,(λd hd=>(gb<|hg d hd).1),MT,λr c ys H1 k1 nr nc YR ZA _=>?_⟩;refine⟨_,rfl,rfl,_,rfl,G_ rfl<|aO ?_⟩;refine⟨_,rfl,.inl ⟨rfl,_,rfl,?_⟩⟩;rw[IW (show¬V.str (IK "told")=V.str (IK "bad") by decide+kernel)];refine aO ⟨_,rfl,.inl ⟨rfl,_,rfl,?_⟩⟩;rw[Jj (rfl:V.str (IK "told")=V.str (IK "told"))];refine aT ⟨_,rfl,(by show 2<=sizeLine;decide),λtp ZK=>?_⟩;have kt:=ag ZK<|.tup [.ty "list",.ty "tuple"];refine⟨_,tp,rfl,ad,.inr ⟨r,_,rfl,kt _ _ YR⟩,IS,rfl,aO ?_⟩;refine⟨_,rfl,_,rfl,(by show 2<=sizeLine;decide),λl nl=>?_⟩;exact q' l _ (k1.trans<|kt.trans<|ag nl _) ad
end
section
variable {P:Jc}{w:Jv}{K:IJ}{mg:Str->IQ IH}{base:JM}{CB CW CH fI:IL}
theorem Bo(F:Fun K "_law_refusal" "_law_refusal" rN f fd)(T:vp K mg CB CW CH fI)(Nf:sj P w K mg base 8 "needed_lines" g1 e1 ["sentence","paper"] (gR CW))(Mo:sj P w K mg base 8 "shortened_paper" g2 e2 ["sentence","paper"] (gR CW))(ME:sj P w K mg base 7 "joined_clauses" g3 e3 ["sentence","paper"] (jT CH))(NN:Fe P w K mg base 1 "_law_alone" (fC CW))(NL:Fe P w K mg base 1 "_law_whole" mW):FnOk P w K mg base c6 9 f fd ["_law_word","_law_sentence_here","_law_paper_here"] zc:=by
 have sc:=jB;refine F.ok jB (λvs H Q E h=>?_) λLY A outer s H vs Q E hr h=>?_
 ·obtain⟨QH,p,q,pp,la,t,hw,xs,ls,cs,ds,out,h,_⟩:=h;rw[h.h0];rfl
 obtain⟨QH,p,q,pp,la,t,hw,xs,ls,cs,ds,out,⟨rfl,hp,ht,hq,hcs,h9,hcok,hpp,hla,hds,h8⟩,hg,MT,hc,he,q'⟩:=h;have hu:=hr.units;have en:∀ea,decide (V.ref ea=V.non)=false:=λea=>IW λz=>by cases z
 refine⟨_,(af (ar (i:=3) sc.nd rfl (Jl rfl) bP)
  (af (ar (i:=4) sc.nd rfl (Jl rfl) bP)
  (af (ar (i:=5) sc.nd rfl (Jl rfl) aB)
  (af (xu (i:=6) sc.nd rfl rfl rfl rfl rfl T.x_NotWhole (by decide+kernel) T.m_NotWhole rfl T.x_BadLine T.be_BadLine T.n2_BadLine T.m_BadLine rfl (nR (λ_ _ z=>z) (aq (aQ hu) (pv 0) ah<|az _) (gZ (i:=3) sc.nd rfl (Jl rfl)<|ja Nf (λ_ _ z=>z) hr (by lia) rfl<|aa (pv 1)<|aa (pv 2) ae)<|nR (λ_ _ z=>z) (aq (aQ hu) (pv 0) ah<|az _) (gZ (i:=3) sc.nd rfl (Jl rfl)<|ja Mo (λ_ _ z=>z) hr (by lia) rfl<|aa (pv 1)<|aa (pv 2) ae)<|gZ (i:=3) sc.nd rfl (Jl rfl)<|ja ME (λ_ _ z=>z) hr (by lia) rfl<|aa (pv 1)<|aa (pv 2) ae) (λ_ _=>(af (ar (i:=5) sc.nd rfl (Jl rfl) aB)
   (ai<|ar (i:=4) sc.nd rfl (Jl rfl)<|pv 6))))
  (af (aP (PW.pt<|dA (aq ir (pv 4) bP<|az _)<|cT<|bE<|bo<|ck NN hr<|aa (pv 4) ae) (ai<|aw<|aN<|aa aB<|aa (ci bB ah) ae) ay)
  (af (aP (aq (aQ hu) (pv 5) aB<|az _) (af (aP (bE<|bo<|ck NL hr<|aa (fB (pv 4) rfl) ae) (ai<|aw<|aN<|aa aB<|aa (ci bB ah) ae) ay)
   (ai<|aw<|aN<|aa (pv 5)<|aa (fB (pv 4) rfl) ae)) ay)
  (af (aP (PW.pt<|dA (aq (aQ hu) (pv 5) aB<|az _)<|cT<|bE<|bo<|au fZ rfl T.isinstance Jt<|aa (pv 3)<|aa (aZ<|aa (cy (v:=.ty "list") rfl T.list KC rfl)<|aa (cy (v:=.ty "tuple") rfl T.tuple Ko rfl) ae) ae) (ai<|aw<|aN<|aa aB<|aa (ci bB ah) ae) ay)
  (ai<|aw<|aN<|aa (pv 5)<|aa (ci bB ah) ae)))))))),?_⟩
 obtain rfl|rfl:=hc
 ·refine⟨_,rfl,.inl ⟨rfl,_,rfl,aT ?_⟩⟩;refine⟨_,rfl,_,rfl,p,q,pp,la,t,hw,xs,ls,cs,ds,out,rfl,hp,ht,hq,hcs,by lia,hcok,hpp,hla,hds,by lia,(λd hd=>(gb<|hg d hd).1),MT,he,λH1 k1=>⟨rfl,λea nea=>⟨_,rfl,?_⟩⟩⟩;have k2:=ag nea<|fX ea CW;have s2:upd H1 ea (fX ea CW) ea=B' (fX ea CW):=ad;generalize upd H1 ea (fX ea CW)=H2 at k2 s2 ⊢;exists _,rfl,rfl,_,rfl;rw[en];refine aT ⟨_,rfl,ea,rfl,.inl s2,λH3 k3=>⟨IS,rfl,aO ?_⟩⟩;refine⟨_,rfl,.inl ⟨rfl,_,rfl,?_⟩⟩;rw[IW (show¬V.str (IK "not whole")=V.str (IK "bad") by decide+kernel)];refine aO ⟨_,rfl,.inl ⟨rfl,_,rfl,?_⟩⟩;rw[IW (show¬V.str (IK "not whole")=V.str (IK "told") by decide+kernel)];refine aO<|aO ⟨_,rfl,_,rfl,(by show 2<=sizeLine;decide),λl nl=>?_⟩;exact q' l _ (k1.trans<|k2.trans<|k3.trans<|ag nl _) ad
 ·refine⟨_,rfl,.inl ⟨rfl,_,rfl,aO ⟨_,rfl,.inl ⟨rfl,_,rfl,aT ?_⟩⟩⟩⟩;refine⟨_,rfl,_,rfl,p,q,pp,la,t,hw,xs,ls,cs,ds,out,rfl,hp,ht,hq,hcs,by lia,hcok,hpp,hla,hds,by lia,(λd hd=>(gb<|hg d hd).1),MT,he,λH1 k1=>⟨rfl,λea nea=>⟨_,rfl,?_⟩⟩⟩;have k2:=ag nea<|fX ea CW;have s2:upd H1 ea (fX ea CW) ea=B' (fX ea CW):=ad;generalize upd H1 ea (fX ea CW)=H2 at k2 s2 ⊢;exists _,rfl,rfl,_,rfl;rw[en];refine aT ⟨_,rfl,ea,rfl,.inl s2,λH3 k3=>⟨IS,rfl,aO ?_⟩⟩;refine⟨_,rfl,.inl ⟨rfl,_,rfl,?_⟩⟩;rw[IW (show¬V.str (IK "not whole")=V.str (IK "bad") by decide+kernel)];refine aO ⟨_,rfl,.inl ⟨rfl,_,rfl,?_⟩⟩;rw[IW (show¬V.str (IK "not whole")=V.str (IK "told") by decide+kernel)];refine aO<|aO ⟨_,rfl,_,rfl,(by show 2<=sizeLine;decide),λl nl=>?_⟩;exact q' l _ (k1.trans<|k2.trans<|k3.trans<|ag nl _) ad
theorem Bp(F:Fun K "_law_refusal" "_law_refusal" rN f fd)(T:vp K mg CB CW CH fI)(Nf:sj P w K mg base 8 "needed_lines" g1 e1 ["sentence","paper"] (gR CW))(Mo:sj P w K mg base 8 "shortened_paper" g2 e2 ["sentence","paper"] (gR CW))(ME:sj P w K mg base 7 "joined_clauses" g3 e3 ["sentence","paper"] (jT CH))(NN:Fe P w K mg base 1 "_law_alone" (fC CH))(NL:Fe P w K mg base 1 "_law_whole" mW):FnOk P w K mg base c6 9 f fd ["_law_word","_law_sentence_here","_law_paper_here"] zd:=by
 have sc:=jB;refine F.ok jB (λvs H Q E h=>?_) λLY A outer s H vs Q E hr h=>?_
 ·obtain⟨p,q,pp,la,t,xs,ls,cs,ds,out,h,_⟩:=h;rw[h.h0];rfl
 obtain⟨p,q,pp,la,t,xs,ls,cs,ds,out,⟨rfl,hp,ht,hq,hcs,h9,hcok,hpp,hla,hds,h8⟩,hg,MT,q'⟩:=h;have hu:=hr.units;have en:∀ea,decide (V.ref ea=V.non)=false:=λea=>IW λz=>by cases z
 refine⟨_,(af (ar (i:=3) sc.nd rfl (Jl rfl) bP)
  (af (ar (i:=4) sc.nd rfl (Jl rfl) bP)
  (af (ar (i:=5) sc.nd rfl (Jl rfl) aB)
  (af (xv (i:=6) sc.nd rfl rfl rfl rfl rfl T.x_NoHand (by decide+kernel) T.m_NoHand rfl T.x_BadLine T.be_BadLine T.n3_BadLine T.m_BadLine rfl T.x_NotWhole T.be_NotWhole T.n3_NotWhole T.m_NotWhole rfl (nR (λ_ _ z=>z) (aq (aQ hu) (pv 0) ah<|az _) (gZ (i:=3) sc.nd rfl (Jl rfl)<|ja Nf (λ_ _ z=>z) hr (by lia) rfl<|aa (pv 1)<|aa (pv 2) ae)<|nR (λ_ _ z=>z) (aq (aQ hu) (pv 0) ah<|az _) (gZ (i:=3) sc.nd rfl (Jl rfl)<|ja Mo (λ_ _ z=>z) hr (by lia) rfl<|aa (pv 1)<|aa (pv 2) ae)<|gZ (i:=3) sc.nd rfl (Jl rfl)<|ja ME (λ_ _ z=>z) hr (by lia) rfl<|aa (pv 1)<|aa (pv 2) ae) (λ_ _=>(af (ar (i:=5) sc.nd rfl (Jl rfl) aB)
   (ai<|ar (i:=4) sc.nd rfl (Jl rfl)<|pv 6))))
  (af (aP (PW.pt<|dA (aq ir (pv 4) bP<|az _)<|cT<|bE<|bo<|ck NN hr<|aa (pv 4) ae) (ai<|aw<|aN<|aa aB<|aa (ci bB ah) ae) ay)
  (af (aP (aq (aQ hu) (pv 5) aB<|az _) (af (aP (bE<|bo<|ck NL hr<|aa (fB (pv 4) rfl) ae) (ai<|aw<|aN<|aa aB<|aa (ci bB ah) ae) ay)
   (ai<|aw<|aN<|aa (pv 5)<|aa (fB (pv 4) rfl) ae)) ay)
  (af (aP (PW.pt<|dA (aq (aQ hu) (pv 5) aB<|az _)<|cT<|bE<|bo<|au fZ rfl T.isinstance Jt<|aa (pv 3)<|aa (aZ<|aa (cy (v:=.ty "list") rfl T.list KC rfl)<|aa (cy (v:=.ty "tuple") rfl T.tuple Ko rfl) ae) ae) (ai<|aw<|aN<|aa aB<|aa (ci bB ah) ae) ay)
  (ai<|aw<|aN<|aa (pv 5)<|aa (ci bB ah) ae)))))))),?_⟩
 refine⟨_,rfl,.inl ⟨rfl,_,rfl,aO ⟨_,rfl,.inl ⟨rfl,_,rfl,aO ?_⟩⟩⟩⟩;refine⟨_,rfl,_,rfl,p,q,pp,la,t,xs,ls,cs,ds,out,rfl,hp,ht,hq,hcs,by lia,hcok,hpp,hla,hds,by lia,(λd hd=>(gb<|hg d hd).1),MT,λH1 k1=>⟨rfl,λea nea=>⟨_,rfl,?_⟩⟩⟩;have k2:=ag nea<|fX ea CH;have s2:upd H1 ea (fX ea CH) ea=B' (fX ea CH):=ad;generalize upd H1 ea (fX ea CH)=H2 at k2 s2 ⊢;exists _,rfl,rfl,_,rfl;rw[en];refine aT ⟨_,rfl,ea,rfl,.inl s2,λH3 k3=>⟨IS,rfl,aO ?_⟩⟩;refine⟨_,rfl,.inl ⟨rfl,_,rfl,?_⟩⟩;rw[IW (show¬V.str (IK "hand")=V.str (IK "bad") by decide+kernel)];refine aO ⟨_,rfl,.inl ⟨rfl,_,rfl,?_⟩⟩;rw[IW (show¬V.str (IK "hand")=V.str (IK "told") by decide+kernel)];refine aO<|aO ⟨_,rfl,_,rfl,(by show 2<=sizeLine;decide),λl nl=>?_⟩;exact q' l _ (k1.trans<|k2.trans<|k3.trans<|ag nl _) ad
end
section
variable {P:Jc}{w:Jv}{K:IJ}{mg:Str->IQ IH}{base:JM}{CB CW CH fI:IL}
theorem Bq(F:Fun K "_law_refusal" "_law_refusal" rN f fd)(T:vp K mg CB CW CH fI)(Nf:u6 P w K mg base 8 "needed_lines" g1 e1 ["sentence","paper"] (cJ CB))(Mo:u6 P w K mg base 8 "shortened_paper" g2 e2 ["sentence","paper"] (cJ CB))(ME:u6 P w K mg base 7 "joined_clauses" g3 e3 ["sentence","paper"] (cJ CB))(NN:Fe P w K mg base 1 "_law_alone" (fC CB))(NL:Fe P w K mg base 1 "_law_whole" mW):FnOk P w K mg base c6 9 f fd ["_law_word","_law_sentence_here","_law_paper_here"] ze:=by
 have sc:=jB;refine F.ok jB (λvs H Q E h=>?_) λLY A outer s H vs Q E hr h=>?_
 ·obtain⟨QH,p,q,pp,la,t,hw,xs,ls,cs,ds,out,h,_⟩:=h;rw[h.h0];rfl
 obtain⟨QH,p,q,pp,la,t,hw,xs,ls,cs,ds,out,⟨rfl,hp,ht,hq,hcs,h9,hcok,hpp,hla,hds,h8⟩,hs,MT,hc,q'⟩:=h;have hu:=hr.units;have en:∀ea,decide (V.ref ea=V.non)=false:=λea=>IW λz=>by cases z
 refine⟨_,(af (ar (i:=3) sc.nd rfl (Jl rfl) bP)
  (af (ar (i:=4) sc.nd rfl (Jl rfl) bP)
  (af (ar (i:=5) sc.nd rfl (Jl rfl) aB)
  (af (xw (i:=6) sc.nd rfl rfl rfl rfl rfl T.x_BadLine T.be_BadLine T.lt_BadLine T.m_BadLine rfl (sN (λ_ _ z=>z) (aq (aQ hu) (pv 0) ah<|az _) (kQ (i:=3) sc.nd rfl (Jl rfl)<|nZ Nf (λ_ _ z=>z) hr (by lia) rfl<|aa (pv 1)<|aa (pv 2) ae)<|sN (λ_ _ z=>z) (aq (aQ hu) (pv 0) ah<|az _) (kQ (i:=3) sc.nd rfl (Jl rfl)<|nZ Mo (λ_ _ z=>z) hr (by lia) rfl<|aa (pv 1)<|aa (pv 2) ae)<|kQ (i:=3) sc.nd rfl (Jl rfl)<|nZ ME (λ_ _ z=>z) hr (by lia) rfl<|aa (pv 1)<|aa (pv 2) ae) (λ_ _=>(af (ar (i:=5) sc.nd rfl (Jl rfl) aB)
   (ai<|ar (i:=4) sc.nd rfl (Jl rfl)<|pv 6))))
  (af (aP (PW.pt<|dA (aq ir (pv 4) bP<|az _)<|cT<|bE<|bo<|ck NN hr<|aa (pv 4) ae) (ai<|aw<|aN<|aa aB<|aa (ci bB ah) ae) ay)
  (af (aP (aq (aQ hu) (pv 5) aB<|az _) (af (aP (bE<|bo<|ck NL hr<|aa (fB (pv 4) rfl) ae) (ai<|aw<|aN<|aa aB<|aa (ci bB ah) ae) ay)
   (ai<|aw<|aN<|aa (pv 5)<|aa (fB (pv 4) rfl) ae)) ay)
  (af (aP (PW.pt<|dA (aq (aQ hu) (pv 5) aB<|az _)<|cT<|bE<|bo<|au fZ rfl T.isinstance Jt<|aa (pv 3)<|aa (aZ<|aa (cy (v:=.ty "list") rfl T.list KC rfl)<|aa (cy (v:=.ty "tuple") rfl T.tuple Ko rfl) ae) ae) (ai<|aw<|aN<|aa aB<|aa (ci bB ah) ae) ay)
  (ai<|aw<|aN<|aa (pv 5)<|aa (ci bB ah) ae)))))))),?_⟩
 obtain rfl|rfl|rfl:=hc
 ·refine⟨_,rfl,.inl ⟨rfl,_,rfl,aT ?_⟩⟩;refine⟨_,rfl,_,rfl,p,q,pp,la,t,hw,xs,ls,cs,ds,out,rfl,hp,ht,hq,hcs,by lia,hcok,hpp,hla,hds,by lia,hs,MT,λdx H1 k1 Zy=>⟨rfl,dx,rfl,λea nea=>⟨_,rfl,?_⟩⟩⟩;have k2:=ag nea<|dF ea CB dx;have s2:upd H1 ea (dF ea CB dx) ea=B' (dF ea CB dx):=ad;generalize upd H1 ea (dF ea CB dx)=H2 at k2 s2 ⊢;exists _,rfl,rfl,_,rfl;rw[en];refine aT ⟨_,rfl,ea,rfl,.inr ⟨_,s2⟩,λH3 k3=>⟨IS,rfl,aO ?_⟩⟩;have s3:=k3 _ _ s2;have d3:=k3 _ _<|k2 _ _ Zy;refine⟨_,rfl,.inl ⟨rfl,_,rfl,?_⟩⟩;rw[Jj (rfl:V.str (IK "bad")=V.str (IK "bad"))];refine aT ⟨_,rfl,ea,CB,dx,_,(out.length:Int),rfl,s3,d3,T.get,rfl,(out.length:Int),rfl,IS,rfl,aO ?_⟩;refine⟨_,rfl,_,rfl,ea,CB,dx,_,(out.length:Int),rfl,s3,d3,T.get,rfl,(by show 2<=sizeLine;decide),λl nl=>?_⟩;exact q' l _ (k1.trans<|k2.trans<|k3.trans<|ag nl _) ad
 ·refine⟨_,rfl,.inl ⟨rfl,_,rfl,aO ⟨_,rfl,.inl ⟨rfl,_,rfl,aT ?_⟩⟩⟩⟩;refine⟨_,rfl,_,rfl,p,q,pp,la,t,hw,xs,ls,cs,ds,out,rfl,hp,ht,hq,hcs,by lia,hcok,hpp,hla,hds,by lia,hs,MT,λdx H1 k1 Zy=>⟨rfl,dx,rfl,λea nea=>⟨_,rfl,?_⟩⟩⟩;have k2:=ag nea<|dF ea CB dx;have s2:upd H1 ea (dF ea CB dx) ea=B' (dF ea CB dx):=ad;generalize upd H1 ea (dF ea CB dx)=H2 at k2 s2 ⊢;exists _,rfl,rfl,_,rfl;rw[en];refine aT ⟨_,rfl,ea,rfl,.inr ⟨_,s2⟩,λH3 k3=>⟨IS,rfl,aO ?_⟩⟩;have s3:=k3 _ _ s2;have d3:=k3 _ _<|k2 _ _ Zy;refine⟨_,rfl,.inl ⟨rfl,_,rfl,?_⟩⟩;rw[Jj (rfl:V.str (IK "bad")=V.str (IK "bad"))];refine aT ⟨_,rfl,ea,CB,dx,_,(out.length:Int),rfl,s3,d3,T.get,rfl,(out.length:Int),rfl,IS,rfl,aO ?_⟩;refine⟨_,rfl,_,rfl,ea,CB,dx,_,(out.length:Int),rfl,s3,d3,T.get,rfl,(by show 2<=sizeLine;decide),λl nl=>?_⟩;exact q' l _ (k1.trans<|k2.trans<|k3.trans<|ag nl _) ad
 ·refine⟨_,rfl,.inl ⟨rfl,_,rfl,aO ⟨_,rfl,.inl ⟨rfl,_,rfl,aO ?_⟩⟩⟩⟩;refine⟨_,rfl,_,rfl,p,q,pp,la,t,hw,xs,ls,cs,ds,out,rfl,hp,ht,hq,hcs,by lia,hcok,hpp,hla,hds,by lia,hs,MT,λdx H1 k1 Zy=>⟨rfl,dx,rfl,λea nea=>⟨_,rfl,?_⟩⟩⟩;have k2:=ag nea<|dF ea CB dx;have s2:upd H1 ea (dF ea CB dx) ea=B' (dF ea CB dx):=ad;generalize upd H1 ea (dF ea CB dx)=H2 at k2 s2 ⊢;exists _,rfl,rfl,_,rfl;rw[en];refine aT ⟨_,rfl,ea,rfl,.inr ⟨_,s2⟩,λH3 k3=>⟨IS,rfl,aO ?_⟩⟩;have s3:=k3 _ _ s2;have d3:=k3 _ _<|k2 _ _ Zy;refine⟨_,rfl,.inl ⟨rfl,_,rfl,?_⟩⟩;rw[Jj (rfl:V.str (IK "bad")=V.str (IK "bad"))];refine aT ⟨_,rfl,ea,CB,dx,_,(out.length:Int),rfl,s3,d3,T.get,rfl,(out.length:Int),rfl,IS,rfl,aO ?_⟩;refine⟨_,rfl,_,rfl,ea,CB,dx,_,(out.length:Int),rfl,s3,d3,T.get,rfl,(by show 2<=sizeLine;decide),λl nl=>?_⟩;exact q' l _ (k1.trans<|k2.trans<|k3.trans<|ag nl _) ad
end
abbrev Ez:KL:=eB 64
structure GQ (mg:Str->IQ IH):Prop where
 len:mg "len"=IV
 list:mg "list"=IV
def rO(n m k:Nat):IG Jg:=[.tuple [.str aC,.int (n:Int)],.tuple [.str aC,.int (-1)],.tuple [.str aR,.int (m:Int)],.tuple [.str aR,.int (-1)],.tuple [.str bp,.tuple [.int 0]],.tuple [.str aC],
 .none,.str aC,.tuple [.str aV,.int (n:Int),.int (n:Int),.int 1],.tuple [.str aC,.int (k:Int)],.tuple [],.tuple [.str aC,.bool IS],.list [.str aC,.int 0]]
theorem fD(h:¬v=u):bK u n (.tuple<|.str v::r)=false:=by
 show(decide ((PyData.str v::r).length=n)&&decide (v=u))=IU
 rw[IW h,J8]
theorem zf(h:¬r.length=n):bK u n (.tuple r)=false:=by
 show(decide (r.length=n)&&_)=IU
 rw[IW h,NX]
theorem lC{many:Nat}{z:Int}(h:¬(0<=z/\z < (many:Int))):bh many (.int z)=none:=JD h
theorem oA(h:¬(0<=z/\z < (sets.length:Int))):aM t cs hw sets (.tuple [.str aC,.int z])=none:=by
 unfold aM;rw[fD (show¬aC=aR by decide+kernel),fD (show¬aC=bp by decide+kernel),fD (show¬aC=aV by decide+kernel),J8,J8];have f4:bK aC 2 (.tuple [.str aC,.int z])=true:=by
  show(decide (2=2)&&decide (aC=aC))=IS
  simp
 rw[f4];show gL t hw sets (.int z)=IV
 unfold gL;rw[lC h];rfl
theorem p9(h:¬(0<=z/\z < (cs.length:Int))):aM t cs hw sets (.tuple [.str aR,.int z])=none:=by
 unfold aM;rw[fD (show¬aR=bp by decide+kernel),fD (show¬aR=aV by decide+kernel),fD (show¬aR=aC by decide+kernel),J8]
 split
 ·show kO cs (.int z)=IV
  unfold kO;rw[lC h];rfl
 ·rfl
theorem Br(hk:sets.length < k):∀d∈rO sets.length cs.length k,aM t cs hw sets d=IV/\eE d/\Nice 3 d:=by
 intro d hd;have hs:∀{w:Str} {r:IG Jg},Kn (.str w)=IS->eE (.tuple<|.str w::r):=λh xs e=>by cases e;exact h
 simp only [rO,JC,O9,or_false]at hd;obtain rfl|rfl|rfl|rfl|rfl|rfl|rfl|rfl|rfl|rfl|rfl|rfl|rfl:=hd
 ·exact⟨oA (by lia),hs rC,bI (n:=2)<|aJ (bu 2<|by decide+kernel)<|aJ (bR _ _) bJ⟩
 ·exact⟨oA (by lia),hs rC,bI (n:=2)<|aJ (bu 2<|by decide+kernel)<|aJ (bR _ _) bJ⟩
 ·exact⟨p9 (by lia),hs AR,bI (n:=2)<|aJ (bu 2<|by decide+kernel)<|aJ (bR _ _) bJ⟩
 ·exact⟨p9 (by lia),hs AR,bI (n:=2)<|aJ (bu 2<|by decide+kernel)<|aJ (bR _ _) bJ⟩
 ·refine⟨?_,hs D8,bI (n:=2)<|aJ (bu 2<|by decide+kernel)<|aJ (Nice.mono (bI (n:=1)<|aJ (bR _ _) bJ)<|by decide) bJ⟩;unfold aM;rw[fD (show¬bp=aR by decide+kernel),fD (show¬bp=aV by decide+kernel),fD (show¬bp=aC by decide+kernel),J8]
  split
  ·rename_i h;cases h
  split
  ·show iJ t.length cs (.tuple [.int 0])=IV
   unfold iJ;have e:lJ (t.length:Int) (.tuple [.int 0])=false:=by
    show ii (t.length:Int) 0 [.int 0]=IU
    have a0:absI 0=0:=rfl;simp [ii,a0]
   rw[e,NX];rfl
  ·rfl
 ·refine⟨?_,hs rC,bI (n:=2)<|aJ (bu 2<|by decide+kernel) bJ⟩;unfold aM;have g2:∀u,bK u 2 (.tuple [.str aC])=false:=λu=>zf (by show¬1=2;decide);have g4:bK aV 4 (.tuple [.str aC])=false:=zf (by show¬1=4;decide);rw[g2,g2,g4,g2,J8,J8];rfl
 ·refine⟨?_,(λds e=>by cases e),uF 3⟩;unfold aM;cases hw<;>rfl
 ·refine⟨?_,(λds e=>by cases e),bu 3<|by decide+kernel⟩;unfold aM;cases hw<;>rfl
 ·refine⟨?_,hs D7,bI (n:=2)<|aJ (bu 2<|by decide+kernel)<|aJ (bR _ _)<|aJ (bR _ _)<|aJ (bR _ _) bJ⟩;unfold aM;have f3:bK aV 4 (.tuple [.str aV,.int (sets.length:Int),.int (sets.length:Int),.int 1])=true:=by
   show(decide (4=4)&&decide (aV=aV))=IS
   simp
  rw[fD (show¬aV=aR by decide+kernel),fD (show¬aV=bp by decide+kernel),f3,J8,J8];show dw t hw sets (.int (sets.length:Int)) (.int (sets.length:Int)) (.int 1)=IV
  unfold dw;rw[lC (show¬(0<=(sets.length:Int)/\(sets.length:Int) < (sets.length:Int)) by lia)]
 ·exact⟨oA (by lia),hs rC,bI (n:=2)<|aJ (bu 2<|by decide+kernel)<|aJ (bR _ _) bJ⟩
 ·refine⟨?_,(λds e=>by cases e;decide+kernel),bI (n:=2) bJ⟩;unfold aM;cases hw<;>rfl
 ·refine⟨?_,hs rC,bI (n:=2)<|aJ (bu 2<|by decide+kernel)<|aJ (uG _ _) bJ⟩;unfold aM;have f4:bK aC 2 (.tuple [.str aC,.bool IS])=true:=by
   show(decide (2=2)&&decide (aC=aC))=IS
   simp
  rw[fD (show¬aC=aR by decide+kernel),fD (show¬aC=bp by decide+kernel),fD (show¬aC=aV by decide+kernel),f4,J8,J8];rfl
 ·refine⟨?_,(λds e=>by cases e),g_ (n:=2)<|aJ (bu 2<|by decide+kernel)<|aJ (bR _ _) bJ⟩;unfold aM;cases hw<;>rfl
inductive mZ (t:Str)(cs:IG (IG Int))(hw:Jm)(ds:IG Jg)(out:IG (IG Int))(Ub:IG Jg)(n:Int):Prop
 |bad (m:Nat) (d:Jg) (hm:m < ds.length) (e:Ub=ds.set m d) (hb:aM t cs hw (out.take m) d=IV) (hs:eE d) (hn:Nice 3 d) (en:n=(m:Int)):mZ t cs hw ds out Ub n
 |cut (k:Nat) (hk:k<=out.idxOf []) (e:Ub=ds.take k) (en:n=-1):mZ t cs hw ds out Ub n
 |same (e:Ub=ds) (en:n=-2):mZ t cs hw ds out Ub n
inductive GR (K:IJ)(vs:IG V)(H:Hp)(Q:VK):Prop
 |mk (a p qa rl la sa:IL)(ns:IG Int)(t:Str)(cs:IG (IG Int))(hw:Jm)(zs ls ss:IG V)(ds:IG Jg)(out:IG (IG Int))(h0:vs=[.ref a,.ref p,.ref rl])(hS:SqL K H a (ns.map V.int))(hp:H p=B' (.tup [.str t,.ref qa]))(hq:H qa=B' (.lst zs))(hcs:CLs H cs zs)(hP:Bi t cs H rl la sa hw ls ss ds out)(hl:ds.length<=140)(hc:cs.length<=100)
   (q:∀r l n ls' Ub H',Same H H'->H' r=B' (.lst [.str<|aI hw,.ref l,.int n])->H' l=B' (.lst ls')->dC H' Ub ls'->mZ t cs hw ds out Ub n->Q (.ref r) H'):GR K vs H Q
def Cz(K:IJ):Sp:=λvs H Q _=>GR K vs H Q
theorem tY(h:RD H d v):∀{ds:IG Jg} {xs:IG V} (m:Nat),dC H ds xs->dC H (ds.set m d) (xs.set m v)
 |[],xs,m,r=>by
  have:=cq r;rw[Kt.mp this];exact aH
 |e::ds,xs,0,r=>by
  obtain⟨y,ys,rfl,_,t⟩:=aL r;exact am h t
 |e::ds,xs,m+1,r=>by
  obtain⟨y,ys,rfl,r0,t⟩:=aL r;exact am r0<|tY h m t
theorem Bt{k:Nat}{c1 c2 c3 c4 c5:IL}(s1:G a1=B' (.tup [.str aC,.int (n:Int)]))(s2:G a2=B' (.tup [.str aC,.int (-1)]))(s3:G a3=B' (.tup [.str aR,.int (m:Int)]))(s4:G a4=B' (.tup [.str aR,.int (-1)]))(s5:G a5=B' (.tup [.int 0]))(s6:G a6=B' (.tup [.str bp,.ref a5]))(s7:G a7=B' (.tup [.str aC]))
  (u1:G c1=B' (.tup [.str aV,.int (n:Int),.int (n:Int),.int 1])) (u2:G c2=B' (.tup [.str aC,.int (k:Int)])) (u3:G c3=B' (.tup [])) (u4:G c4=B' (.tup [.str aC,.bl IS])) (u5:G c5=B' (.lst [.str aC,.int 0])):
  dC G (rO n m k) [.ref a1,.ref a2,.ref a3,.ref a4,.ref a6,.ref a7,.non,.str aC,.ref c1,.ref c2,.ref c3,.ref c4,.ref c5]:=
 am (bj s1<|am (bQ _)<|am (bN _) aH) (am (bj s2<|am (bQ _)<|am (bN _) aH) (am (bj s3<|am (bQ _)<|am (bN _) aH) (am (bj s4<|am (bQ _)<|am (bN _) aH)
  (am (bj s6<|am (bQ _)<|am (bj s5<|am (bN _) aH) aH) (am (bj s7<|am (bQ _) aH) (am zM (am (bQ _) (am (bj u1<|am (bQ _)<|am (bN _)<|am (bN _)<|am (bN _) aH)
   (am (bj u2<|am (bQ _)<|am (bN _) aH)<|am (bj u3 aH)<|am (bj u4<|am (bQ _)<|am (zN _) aH)<|am (bG u5<|am (bQ _)<|am (bN _) aH) aH)))))))))
theorem EA(h:m < n):zl n (m:Int)=B' m:=by
 rw[DI (by lia) (by lia),Mh]
section
variable {P:Jc}{w:Jv}{K:IJ}{mg:Str->IQ IH}{base:JM}
theorem CA:aF ["_law_script","_law_sentence_here","_law_paper_here","_law_hand","_law_lines","_law_sets","_law_number","_law_at","_law_bad"] ["_law_script","_law_sentence_here","_law_paper_here"] (ap Ez):=eR
theorem EB(F:Fun K "_law_bent" "_law_bent" Ez f fd)(T:GQ mg)(My:Fe P w K mg base 1 "_law_mixed" hV)(MQ:Fe P w K mg base 1 "_law_cell_at" (kU K)):FnOk P w K mg base c6 2 f fd ["_law_script","_law_sentence_here","_law_paper_here"] (Cz K):=by
 have sc:=CA;refine F.okA CA λLY A outer s H vs Q E hr h=>?_;obtain⟨a,p,qa,rl,la,sa,ns,t,cs,hw,zs,ls,ss,ds,out,rfl,hS,hp,hq,hcs,hP,hl,hc,q⟩:=h;have hu:=hr.units;refine⟨_,(af (ic (pv 2)<|nE rfl<|aY (aA (i:=3) sc.nd rfl<|Jl rfl)<|aY (aA (i:=4) sc.nd rfl<|Jl rfl)<|aY (aA (i:=5) sc.nd rfl<|Jl rfl) dY)
  (af (ar (i:=4) sc.nd rfl (Jl rfl)<|bL cE rfl T.list KC<|aa (pv 4) ae)
  (af (ar (i:=6) sc.nd rfl (Jl rfl)<|ck My hr<|aa (ck MQ hr<|aa (pv 0)<|aa ah ae)<|aa ah ae)
  (af (aP (aq lN (aG bA (pv 6) ah) ah<|az _) (af (ar (i:=7) sc.nd rfl (Jl rfl)<|aG bA (aG cU (pv 6) ah)<|au a_ rfl T.len Kc<|aa (pv 4) ae)
   (af (aP (aq (aQ hu) (aG bA (aG cU (pv 6) ah) ah) ah<|az _) (ai<|ar (i:=7) sc.nd rfl (Jl rfl)<|aG eW (au a_ rfl T.len Kc<|aa (pv 4) ae) ah) ay)
   (af (ar (i:=8) sc.nd rfl (Jl rfl)<|PEi.out<|PEi.lst<|PAi.cons (PEi.tup<|PAi.cons (PEi.mk aB) (PAi.cons (PEi.mk<|pv 7) PAi.nil λ_ _ z=>nomatch z) λ_ _ z=>nomatch z) (PAi.cons (PEi.tup<|PAi.cons (PEi.mk aB) (PAi.cons (PEi.mk<|ci bB ah) PAi.nil λ_ _ z=>nomatch z) λ_ _ z=>nomatch z) (PAi.cons (PEi.tup<|PAi.cons (PEi.mk aB) (PAi.cons (PEi.mk<|au a_ rfl T.len Kc<|aa (aE ax (pv 1) ah λ_ _=>rfl) ae) PAi.nil λ_ _ z=>nomatch z) λ_ _ z=>nomatch z) (PAi.cons (PEi.tup<|PAi.cons (PEi.mk aB) (PAi.cons (PEi.mk<|ci bB ah) PAi.nil λ_ _ z=>nomatch z) λ_ _ z=>nomatch z) (PAi.cons (PEi.tup<|PAi.cons (PEi.mk aB) (PAi.cons (PEi.tup<|PAi.cons (PEi.mk ah) PAi.nil λ_ _ z=>nomatch z) PAi.nil λ_ _ z=>nomatch z) λ_ _ z=>nomatch z) (PAi.cons (PEi.tup<|PAi.cons (PEi.mk aB) PAi.nil λ_ _ z=>nomatch z) PAi.nil λ_ _ z=>nomatch z) λ_ _ z=>nomatch z) λ_ _ z=>nomatch z) λ_ _ z=>nomatch z) λ_ _ z=>nomatch z) λ_ _ z=>nomatch z)
   (af (ar (i:=8) sc.nd rfl (Jl rfl)<|DN iW (pv 8)<|PEi.lst<|PAi.cons (PEi.mk bP) (PAi.cons (PEi.mk aB) (PAi.cons (PEi.tup<|PAi.cons (PEi.mk aB) (PAi.cons (PEi.mk<|pv 7) (PAi.cons (PEi.mk<|pv 7) (PAi.cons (PEi.mk ah) PAi.nil λ_ _ z=>nomatch z) λ_ _ z=>nomatch z) λ_ _ z=>nomatch z) λ_ _ z=>nomatch z) (PAi.cons (PEi.tup<|PAi.cons (PEi.mk aB) (PAi.cons (PEi.mk<|au a_ rfl T.len Kc<|aa (pv 4) ae) PAi.nil λ_ _ z=>nomatch z) λ_ _ z=>nomatch z) (PAi.cons (PEi.tup PAi.nil) (PAi.cons (PEi.tup<|PAi.cons (PEi.mk aB) (PAi.cons (PEi.mk eV) PAi.nil λ_ _ z=>nomatch z) λ_ _ z=>nomatch z) (PAi.cons (PEi.lst<|PAi.cons (PEi.mk aB) (PAi.cons (PEi.mk ah) PAi.nil λ_ _ z=>nomatch z) λ_ _ z=>nomatch z) PAi.nil λ_ _ z=>nomatch z) λ_ _ z=>nomatch z) λ_ _ z=>nomatch z) λ_ _ z=>nomatch z) λ_ _ z=>nomatch z) λ_ _ z=>nomatch z) λ_ _ z=>nomatch z)
   (af (ic (aE ax (pv 8) (aG bA (aG cU (pv 6) ah) ah) λ_ _=>rfl)<|CQ (pv 4) (pv 7) vJ)
   (ai<|aw<|aN<|aa (pv 3)<|aa (pv 4)<|aa (pv 7) ae)))))) ay)
  (af (aP (aq lN (aG bA (pv 6) ah) ah<|az _) (ai<|aw<|aN<|aa (pv 3)<|aa (gv iw (pv 4) jG<|eP<|aG bA (aG cU (pv 6) ah)<|aG cB (d_ JY OZ Q8 (mE hu) (pv 5)<|aa (aZ ae) ae) ah)<|aa (ci bB ah) ae) ay)
  (ai<|aw<|aN<|aa (pv 3)<|aa (pv 4)<|aa (ci bB ah) ae)))))),?_⟩
 refine⟨_,rfl,rl,_,rfl,SqL.of hP.r,rfl,_,_,rfl,_,_,rfl,_,_,rfl,rfl,?_⟩;refine⟨_,rfl,la,ls,rfl,.inl<|SqL.of hP.l,λl nl=>?_⟩;have k1:=ag nl<|.lst ls;have s1:upd H l (.lst ls) l=B' (.lst ls):=ad;generalize upd H l (.lst ls)=H1 at k1 s1 ⊢;refine⟨_,rfl,a,ns,2,rfl,k1.seq hS,by decide,λc1=>⟨c1,960,rfl,λnu hn0 hn1=>?_⟩⟩;obtain⟨e0,e1⟩:=iT hP.fin;have hol:out.length=ds.length:=by
  have:=bY hP.run;simpa using this
 have hll:=cq hP.rd;have hzl:=hcs.length;refine⟨_,rfl,_,_,rfl,rfl,(by decide),_,_,rfl,rfl,_,rfl,fG (λ_=>?_) λ_=>?_⟩
 ·refine⟨_,rfl,_,_,rfl,rfl,⟨by decide,by decide⟩,_,rfl,.ref l,_,rfl,.inl ⟨_,SqL.of s1,rfl⟩,_,_,rfl,rfl,(by lia),?_⟩;obtain⟨m0,hm0,afO⟩:∃m:Nat,nu / 8 % (ls.length:Int)=(m:Int)/\m < ls.length:=by
   have b1:=Kz (nu / 8) (show(ls.length:Int)≠0 by lia);have b2:=Kj (nu / 8) (show 0 < (ls.length:Int) by lia);exact⟨(nu / 8 % (ls.length:Int)).toNat,by lia,by lia⟩
  rw[hm0];refine lA ?_;dsimp only;refine f_ λN hN=>?_;have Lz:∀m:Nat,m < ls.length->N [B'<|.ref a,B'<|.ref p,B'<|.ref rl,B'<|.str<|aI hw,B'<|.ref l,B'<|.ref sa,B'<|.int nu,B'<|.int (m:Int),IV] H1:=by
   intro m hm;refine hN _ _ ?_;have hp1:=k1 _ _ hp;have ZP:=k1 _ _ hq;have K0:Same H1 H1:=Same.refl H1;refine⟨_,rfl,(by show 2<=sizeLine;decide),λa1 na1=>?_⟩;have ka1:=ag na1<|.tup [.str<|IK "drop",.int (m:Int)];have T8:upd H1 a1 (.tup [.str<|IK "drop",.int (m:Int)]) a1=B' (.tup [.str aC,.int (m:Int)]):=ad;have xa1:=aj s1 na1;generalize upd H1 a1 (.tup [.str<|IK "drop",.int (m:Int)])=G1 at ka1 T8 ⊢;have K1:=K0.trans ka1;have L1:=ka1 _ _ s1;refine⟨_,rfl,(by show 2<=sizeLine;decide),λa2 na2=>?_⟩;have ka2:=ag na2<|.tup [.str<|IK "drop",.int (-1)];have UU:upd G1 a2 (.tup [.str<|IK "drop",.int (-1)]) a2=B' (.tup [.str aC,.int (-1)]):=ad;have xa2:=aj L1 na2;generalize upd G1 a2 (.tup [.str<|IK "drop",.int (-1)])=G2 at ka2 UU ⊢;have K2:=K1.trans ka2;have L2:=ka2 _ _ L1;replace T8:=ka2 _ _ T8;refine⟨_,rfl,.inr<|.inl ⟨p,_,1,.ref qa,rfl,rfl,SqT.of<|K2 _ _ hp1,rfl,.ref qa,_,rfl,.inl ⟨_,SqL.of<|K2 _ _ ZP,rfl⟩,(by show 2<=sizeLine;decide),λa3 na3=>?_⟩⟩;have ka3:=ag na3<|.tup [.str<|IK "given",.int (zs.length:Int)];have Vi:upd G2 a3 (.tup [.str<|IK "given",.int (zs.length:Int)]) a3=B' (.tup [.str aR,.int (zs.length:Int)]):=ad;have xa3:=aj L2 na3;generalize upd G2 a3 (.tup [.str<|IK "given",.int (zs.length:Int)])=G3 at ka3 Vi ⊢;have K3:=K2.trans ka3;have L3:=ka3 _ _ L2;replace T8:=ka3 _ _ T8;replace UU:=ka3 _ _ UU;refine⟨_,rfl,(by show 2<=sizeLine;decide),λa4 na4=>?_⟩;have ka4:=ag na4<|.tup [.str<|IK "given",.int (-1)];have VU:upd G3 a4 (.tup [.str<|IK "given",.int (-1)]) a4=B' (.tup [.str aR,.int (-1)]):=ad;have xa4:=aj L3 na4;generalize upd G3 a4 (.tup [.str<|IK "given",.int (-1)])=G4 at ka4 VU ⊢;have K4:=K3.trans ka4;have L4:=ka4 _ _ L3;replace T8:=ka4 _ _ T8;replace UU:=ka4 _ _ UU;replace Vi:=ka4 _ _ Vi;refine⟨(by show 1<=sizeLine;decide),λa5 na5=>?_⟩;have ka5:=ag na5<|.tup [.int 0];have WG:upd G4 a5 (.tup [.int 0]) a5=B' (.tup [.int 0]):=ad;have xa5:=aj L4 na5;generalize upd G4 a5 (.tup [.int 0])=G5 at ka5 WG ⊢;have K5:=K4.trans ka5;have L5:=ka5 _ _ L4;replace T8:=ka5 _ _ T8;replace UU:=ka5 _ _ UU;replace Vi:=ka5 _ _ Vi;replace VU:=ka5 _ _ VU;refine⟨(by show 2<=sizeLine;decide),λa6 na6=>?_⟩;have ka6:=ag na6<|.tup [.str<|IK "hits",.ref a5];have Xp:upd G5 a6 (.tup [.str<|IK "hits",.ref a5]) a6=B' (.tup [.str bp,.ref a5]):=ad;have xa6:=aj L5 na6;generalize upd G5 a6 (.tup [.str<|IK "hits",.ref a5])=G6 at ka6 Xp ⊢;have K6:=K5.trans ka6;have L6:=ka6 _ _ L5;replace T8:=ka6 _ _ T8;replace UU:=ka6 _ _ UU;replace Vi:=ka6 _ _ Vi;replace VU:=ka6 _ _ VU;replace WG:=ka6 _ _ WG;refine⟨(by show 1<=sizeLine;decide),λa7 na7=>?_⟩;have ka7:=ag na7<|.tup [.str<|IK "drop"];have Yc:upd G6 a7 (.tup [.str<|IK "drop"]) a7=B' (.tup [.str aC]):=ad;have xa7:=aj L6 na7;generalize upd G6 a7 (.tup [.str<|IK "drop"])=G7 at ka7 Yc ⊢;have K7:=K6.trans ka7;have L7:=ka7 _ _ L6;replace T8:=ka7 _ _ T8;replace UU:=ka7 _ _ UU;replace Vi:=ka7 _ _ Vi;replace VU:=ka7 _ _ VU;replace WG:=ka7 _ _ WG;replace Xp:=ka7 _ _ Xp;refine⟨(by show 6<=sizeLine;decide),λb1 nb1=>?_⟩;have kb1:=ag nb1<|.lst [.ref a1,.ref a2,.ref a3,.ref a4,.ref a6,.ref a7];have Zq:upd G7 b1 (.lst [.ref a1,.ref a2,.ref a3,.ref a4,.ref a6,.ref a7]) b1=B' (.lst [.ref a1,.ref a2,.ref a3,.ref a4,.ref a6,.ref a7]):=ad;have xb1:=aj L7 nb1;generalize upd G7 b1 (.lst [.ref a1,.ref a2,.ref a3,.ref a4,.ref a6,.ref a7])=G8 at kb1 Zq ⊢;have K8:=K7.trans kb1;have L8:=kb1 _ _ L7;replace T8:=kb1 _ _ T8;replace UU:=kb1 _ _ UU;replace Vi:=kb1 _ _ Vi;replace VU:=kb1 _ _ VU;replace WG:=kb1 _ _ WG;replace Xp:=kb1 _ _ Xp;replace Yc:=kb1 _ _ Yc;refine⟨_,rfl,_,rfl,_,rfl,(by show 4<=sizeLine;decide),λc1 nc1=>?_⟩;have kc1:=ag nc1<|.tup [.str<|IK "join",.int (m:Int),.int (m:Int),.int 1];have Zp:upd G8 c1 (.tup [.str<|IK "join",.int (m:Int),.int (m:Int),.int 1]) c1=B' (.tup [.str aV,.int (m:Int),.int (m:Int),.int 1]):=ad;have xc1:=aj L8 nc1;generalize upd G8 c1 (.tup [.str<|IK "join",.int (m:Int),.int (m:Int),.int 1])=G9 at kc1 Zp ⊢;have K9:=K8.trans kc1;have L9:=kc1 _ _ L8;replace T8:=kc1 _ _ T8;replace UU:=kc1 _ _ UU;replace Vi:=kc1 _ _ Vi;replace VU:=kc1 _ _ VU;replace WG:=kc1 _ _ WG;replace Xp:=kc1 _ _ Xp;replace Yc:=kc1 _ _ Yc;replace Zq:=kc1 _ _ Zq;refine⟨_,rfl,.ref l,_,rfl,.inl ⟨_,SqL.of L9,rfl⟩,(by show 2<=sizeLine;decide),λc2 nc2=>?_⟩;have kc2:=ag nc2<|.tup [.str<|IK "drop",.int (ls.length:Int)];have sc2:upd G9 c2 (.tup [.str<|IK "drop",.int (ls.length:Int)]) c2=B' (.tup [.str aC,.int (ls.length:Int)]):=ad;have xc2:=aj L9 nc2;generalize upd G9 c2 (.tup [.str<|IK "drop",.int (ls.length:Int)])=G10 at kc2 sc2 ⊢;have K10:=K9.trans kc2;have L10:=kc2 _ _ L9;replace T8:=kc2 _ _ T8;replace UU:=kc2 _ _ UU;replace Vi:=kc2 _ _ Vi;replace VU:=kc2 _ _ VU;replace WG:=kc2 _ _ WG;replace Xp:=kc2 _ _ Xp;replace Yc:=kc2 _ _ Yc;replace Zq:=kc2 _ _ Zq;replace Zp:=kc2 _ _ Zp;refine⟨Jw _,λc3 nc3=>?_⟩;have ZL:=ag nc3<|.tup [];have sc3:upd G10 c3 (.tup []) c3=B' (.tup []):=ad;have xc3:=aj L10 nc3;generalize upd G10 c3 (.tup [])=G11 at ZL sc3 ⊢;have K11:=K10.trans ZL;have L11:=ZL _ _ L10;replace T8:=ZL _ _ T8;replace UU:=ZL _ _ UU;replace Vi:=ZL _ _ Vi;replace VU:=ZL _ _ VU;replace WG:=ZL _ _ WG;replace Xp:=ZL _ _ Xp;replace Yc:=ZL _ _ Yc;replace Zq:=ZL _ _ Zq;replace Zp:=ZL _ _ Zp;replace sc2:=ZL _ _ sc2;refine⟨(by show 2<=sizeLine;decide),λc4 nc4=>?_⟩;have Zr:=ag nc4<|.tup [.str<|IK "drop",.bl IS];have sc4:upd G11 c4 (.tup [.str<|IK "drop",.bl IS]) c4=B' (.tup [.str aC,.bl IS]):=ad;have xc4:=aj L11 nc4;generalize upd G11 c4 (.tup [.str<|IK "drop",.bl IS])=G12 at Zr sc4 ⊢;have K12:=K11.trans Zr;have L12:=Zr _ _ L11;replace T8:=Zr _ _ T8;replace UU:=Zr _ _ UU;replace Vi:=Zr _ _ Vi;replace VU:=Zr _ _ VU;replace WG:=Zr _ _ WG;replace Xp:=Zr _ _ Xp;replace Yc:=Zr _ _ Yc;replace Zq:=Zr _ _ Zq;replace Zp:=Zr _ _ Zp;replace sc2:=Zr _ _ sc2;replace sc3:=Zr _ _ sc3;refine⟨(by show 2<=sizeLine;decide),λc5 nc5=>?_⟩;have Y6:=ag nc5<|.lst [.str<|IK "drop",.int 0];have sc5:upd G12 c5 (.lst [.str<|IK "drop",.int 0]) c5=B' (.lst [.str aC,.int 0]):=ad;have xc5:=aj L12 nc5;generalize upd G12 c5 (.lst [.str<|IK "drop",.int 0])=G13 at Y6 sc5 ⊢;have K13:=K12.trans Y6;have L13:=Y6 _ _ L12;replace T8:=Y6 _ _ T8;replace UU:=Y6 _ _ UU;replace Vi:=Y6 _ _ Vi;replace VU:=Y6 _ _ VU;replace WG:=Y6 _ _ WG;replace Xp:=Y6 _ _ Xp;replace Yc:=Y6 _ _ Yc;replace Zq:=Y6 _ _ Zq;replace Zp:=Y6 _ _ Zp;replace sc2:=Y6 _ _ sc2;replace sc3:=Y6 _ _ sc3;replace sc4:=Y6 _ _ sc4;refine⟨(by show 7<=sizeLine;decide),λb2 nb2=>?_⟩;have YO:=ag nb2<|.lst [.non,.str<|IK "drop",.ref c1,.ref c2,.ref c3,.ref c4,.ref c5];have sb2:upd G13 b2 (.lst [.non,.str<|IK "drop",.ref c1,.ref c2,.ref c3,.ref c4,.ref c5]) b2=B' (.lst [.non,.str<|IK "drop",.ref c1,.ref c2,.ref c3,.ref c4,.ref c5]):=ad;have xb2:=aj L13 nb2;generalize upd G13 b2 (.lst [.non,.str<|IK "drop",.ref c1,.ref c2,.ref c3,.ref c4,.ref c5])=G14 at YO sb2 ⊢;have K14:=K13.trans YO;have L14:=YO _ _ L13;replace T8:=YO _ _ T8;replace UU:=YO _ _ UU;replace Vi:=YO _ _ Vi;replace VU:=YO _ _ VU;replace WG:=YO _ _ WG;replace Xp:=YO _ _ Xp;replace Yc:=YO _ _ Yc;replace Zq:=YO _ _ Zq;replace Zp:=YO _ _ Zp;replace sc2:=YO _ _ sc2;replace sc3:=YO _ _ sc3;replace sc4:=YO _ _ sc4;replace sc5:=YO _ _ sc5;refine⟨b1,b2,_,_,rfl,rfl,Zq,sb2,(by show 13<=sizeLine;decide),λb3 nb3=>?_⟩;have Y7:=ag nb3<|.lst ([.ref a1,.ref a2,.ref a3,.ref a4,.ref a6,.ref a7]++[.non,.str<|IK "drop",.ref c1,.ref c2,.ref c3,.ref c4,.ref c5]);have sb3:upd G14 b3 (.lst ([.ref a1,.ref a2,.ref a3,.ref a4,.ref a6,.ref a7]++[.non,.str<|IK "drop",.ref c1,.ref c2,.ref c3,.ref c4,.ref c5])) b3=B' (.lst ([.ref a1,.ref a2,.ref a3,.ref a4,.ref a6,.ref a7,.non,.str aC,.ref c1,.ref c2,.ref c3,.ref c4,.ref c5])):=ad;generalize upd G14 b3 (.lst ([.ref a1,.ref a2,.ref a3,.ref a4,.ref a6,.ref a7]++[.non,.str<|IK "drop",.ref c1,.ref c2,.ref c3,.ref c4,.ref c5]))=G15 at Y7 sb3 ⊢;have K15:=K14.trans Y7;have L15:=Y7 _ _ L14;replace T8:=Y7 _ _ T8;replace UU:=Y7 _ _ UU;replace Vi:=Y7 _ _ Vi;replace VU:=Y7 _ _ VU;replace WG:=Y7 _ _ WG;replace Xp:=Y7 _ _ Xp;replace Yc:=Y7 _ _ Yc;replace Zp:=Y7 _ _ Zp;replace sc2:=Y7 _ _ sc2;replace sc3:=Y7 _ _ sc3;replace sc4:=Y7 _ _ sc4;replace sc5:=Y7 _ _ sc5;obtain⟨j,hj,afY⟩:∃j:Nat,nu / 1000 % 13=(j:Int)/\j < 13:=⟨(nu / 1000 % 13).toNat,by lia,by lia⟩;obtain⟨v,hv⟩:∃v,([.ref a1,.ref a2,.ref a3,.ref a4,.ref a6,.ref a7,.non,.str aC,.ref c1,.ref c2,.ref c3,.ref c4,.ref c5]:IG V)[j]? =B' v:=⟨_,IZ (by show j < 13;exact afY)⟩;refine⟨_,rfl,_,rfl,_,_,rfl,rfl,⟨by decide,by decide⟩,_,_,rfl,rfl,(by decide),?_⟩;rw[hj];refine .inl ⟨b3,_,(j:Int),v,rfl,rfl,SqL.of sb3,aW hv,?_⟩;refine⟨_,rfl,_,rfl,l,ls,(m:Int),m,rfl,rfl,L15,EA hm,?_⟩;have fin:∀{b:IL} {o:HO},l≠b->G15 b=B' o->upd G15 l (.lst (ls.set m v)) b=B' o:=λz e=>by rw[ao (λy=>z y.symm)];exact e
   have ro:=Bt (n:=m) (m:=zs.length) (k:=ls.length) (fin xa1 T8) (fin xa2 UU) (fin xa3 Vi) (fin xa4 VU) (fin xa5 WG) (fin xa6 Xp) (fin xa7 Yc) (fin xc1 Zp) (fin xc2 sc2) (fin xc3 sc3) (fin xc4 sc4)<|fin xc5 sc5;have rv:=d9 ro hv;have aj7:(rO m zs.length ls.length).length=13:=rfl;have hdm:(rO m zs.length ls.length).getD j .none∈rO m zs.length ls.length:=Ji (getD_some<|by lia);generalize (rO m zs.length ls.length).getD j .none=d at rv hdm;have hml:m < ds.length:=by lia
   have WH:(out.take m).length=m:=by rw[JN];lia
   have bad:=Br (t:=t) (cs:=cs) (hw:=hw) (sets:=out.take m) (k:=ls.length) (by lia) d (by rw[WH,hzl];exact hdm);have rd2:=tY rv m<|ce (o:=.lst<|ls.set m v) L15 hP.good<|bn (k1.trans K15) _ _ hP.rd;have sl2:upd G15 l (.lst<|ls.set m v) l=B' (.lst<|ls.set m v):=ad;have kf:Same H (upd G15 l<|.lst<|ls.set m v):=(k1.trans K15).upd_new nl _;generalize upd G15 l (.lst<|ls.set m v)=G16 at rd2 sl2 kf ⊢;refine⟨_,rfl,_,rfl,_,rfl,(by show 3<=sizeLine;decide),λr nr=>?_⟩;have k17:=ag nr<|.lst [.str<|aI hw,.ref l,.int (m:Int)];exact q r l (m:Int) (ls.set m v) (ds.set m d) _ (kf.trans k17) ad (k17 _ _ sl2) (bn k17 _ _ rd2)<|.bad m d hml rfl bad.1 bad.2.1 bad.2.2 rfl
  refine⟨_,rfl,_,_,rfl,rfl,⟨by decide,by decide⟩,_,_,rfl,rfl,(by decide),.inl ⟨rfl,_,rfl,fG (λ_=>?_) λ_=>Lz m0 afO⟩⟩;refine⟨_,rfl,.ref l,_,rfl,.inl ⟨_,SqL.of s1,rfl⟩,_,_,rfl,rfl,?_⟩;have el:(ls.length:Int) - 1=((ls.length - 1:Nat):Int):=by lia
  rw[el];exact Lz (ls.length - 1) (by lia)
 ·have UW:([]:IG Int)∈out:=Ji e1;obtain⟨hei,V5⟩:=yN UW;refine⟨_,rfl,_,_,rfl,rfl,(by decide),_,_,rfl,rfl,_,rfl,fG (λ_=>?_) λ_=>?_⟩
  ·refine⟨_,rfl,_,rfl,_,rfl,_,_,rfl,rfl,⟨by decide,by decide⟩,_,rfl,.inl ⟨rfl,_,SqL.of<|k1 _ _ hP.s⟩,Jw _,λet net=>?_⟩;have k4:=ag net<|.tup [];have s4:upd H1 et (.tup []) et=B' (.tup []):=ad;have s1':=k4 _ _ s1;generalize upd H1 et (.tup [])=H4 at k4 s4 s1' ⊢;have eG:∀j,j < out.length->(out.map fM).getD j .none=fM (out.getD j []):=λj hj=>by
    rw[Jd,Jd,Jx,IZ hj];rfl
   refine⟨.tuple [],out.map fM,_,sa,ss,out.idxOf [],rfl,rfl,(k1.trans k4) _ _ hP.s,(hP.cl.mono<|k1.trans k4).rds,bj s4 aH,by decide+kernel,fh out,by decide+kernel,by rw[IR];exact hei,?_,λm hm=>?_,?_⟩
   ·rw[eG _ hei,fU,Jd,V5];rfl
   ·rw[eG _ (by lia),fU];refine IW λz=>?_;have ZT:out[m]? =B' []:=by rw[Jd,IZ<|by lia]at z;rw[IZ<|by lia];exact Kp B' z
    have:=ow ZT;lia
   refine⟨_,_,rfl,rfl,_,_,rfl,rfl,(by lia),_,rfl,?_⟩;obtain⟨k,hk,hkl⟩:∃k:Nat,nu / 8 % (((out.idxOf []:Nat):Int)+1)=(k:Int)/\k<=out.idxOf []:=by
    have b1:=Kz (nu / 8) (show(((out.idxOf []:Nat):Int)+1)≠0 by lia);have b2:=Kj (nu / 8) (show 0 < (((out.idxOf []:Nat):Int)+1) by lia);exact⟨(nu / 8 % (((out.idxOf []:Nat):Int)+1)).toNat,by lia,by lia⟩
   rw[hk];refine⟨l,ls,rfl,SqL.of s1',λl2 nl2=>?_⟩;have k5:=ag nl2<|.lst<|dz ls IV<|B' (k:Int);have s5:upd H4 l2 (.lst<|dz ls IV<|B' (k:Int)) l2=B' (.lst<|ls.take k):=by rw[ad,qG]
   generalize upd H4 l2 (.lst<|dz ls IV<|B' (k:Int))=H5 at k5 s5 ⊢;refine⟨_,rfl,(by show 3<=sizeLine;decide),λr nr=>?_⟩;have k6:=ag nr<|.lst [.str<|aI hw,.ref l2,.int (-1)];have kf:=(k1.trans k4).trans<|k5.trans k6;exact q r l2 (-1) (ls.take k) (ds.take k) _ kf ad (k6 _ _ s5) (jj k<|bn kf _ _ hP.rd)<|.cut k hkl rfl rfl
  ·refine⟨_,rfl,_,rfl,_,rfl,(by show 3<=sizeLine;decide),λr nr=>?_⟩;have k6:=ag nr<|.lst [.str<|aI hw,.ref l,.int (-2)];exact q r l (-2) ls ds _ (k1.trans k6) ad (k6 _ _ s1) (bn (k1.trans k6) _ _ hP.rd)<|.same rfl rfl
end
abbrev vq:KL:=eB 66
structure GS (mg:Str->IQ IH):Prop where
 list:mg "list"=IV
 range:mg "range"=IV
def tZ:Sp:=λvs H Q E=>(zb vs H Q E\/zc vs H Q E)\/(zd vs H Q E\/ze vs H Q E)
def t7(K:IJ):Sp:=λvs H Q _=>∃(a:IL) (ns:IG Int),vs=[.ref a]/\SqL K H a (ns.map V.int)/\ns.length<=63/\∀H',Q (.bl IS) H'
abbrev lD:Str:=IK "told"
abbrev zg:Str:=IK "not whole"
abbrev t8:Str:=IK "hand"
abbrev zh:Str:=IK "bad"
def iU(i:Nat)(n:Int):Str×Int:=if(decide ((i:Int) < 2)&&decide (n=-1))=IS then(zg,-2)else(lD,-2)
def lE(i:Nat)(n:Int)(hw:Jm):Str×Int:=if(decide ((i:Int)=2)&&hw)=IS then(t8,-2)else iU i n
def fP(i:Nat)(n:Int)(hw:Jm):Str×Int:=if decide (n>=0)=IS then(zh,n)else lE i n hw
theorem zi(i:Nat)(n:Int)(hw:Jm):(fP i n hw).1=lD\/(fP i n hw).1=zg\/(fP i n hw).1=t8\/(fP i n hw).1=zh:=by
 unfold fP lE iU
 split
 ·exact .inr<|.inr<|.inr rfl
 split
 ·exact .inr<|.inr<|.inl rfl
 split
 ·exact .inr<|.inl rfl
 ·exact .inl rfl
theorem vt(n:Int)(h:s=lD\/s=zg\/s=t8\/s=zh):Kn (.list [.str s,.int n])=true:=by
 have k:PQ s=true:=by
  obtain rfl|rfl|rfl|rfl:=h<;>decide+kernel
 exact Nice.shaped (Nice.mono (g_ (n:=2)<|aJ (bu 2 k)<|aJ (bR _ _) bJ)<|by decide)
theorem Bu{out:IG (IG Int)}{k:Nat}(h:k<=out.idxOf [])(hk:k<=out.length):fK (out.take k)=false:=by
 cases k with
 |zero=>rfl
 |succ k=>
  have hg:out[k]? =B' out[k]:=IZ (by lia);rw[mS hg];refine IW λz=>?_;rw[z]at hg;have:=ow hg;lia
theorem Bv{H:Hp}{i:Nat}{n:Int}{p q pp la:IL}{t:Str}{hw:Jm}{xs ls:IG V}{cs:IG (IG Int)}{ds Ub:IG Jg}{out:IG (IG Int)}{Q:VK}{E:XK}(hi:i < 3)(hol:out.length=ds.length)(Yp:∀d∈ds,bO d)(MT:bq t cs hw [] ds=(out,IS))(V4:fK out=IS)(b:mZ t cs hw ds out Ub n)
  (h:mY H [.int (i:Int),.ref p,.ref pp] i p q pp la t hw xs ls cs Ub) (q':∀l H',Same H H'->H' l=B' (.lst [.str (fP i n hw).1,.int (fP i n hw).2])->Q (.ref l) H'):tZ [.int (i:Int),.ref p,.ref pp] H Q E:=by
 have tail:∀o2,(∀d∈Ub,bO d)->bq t cs hw [] Ub=(o2,IS)->(n=-1/\fK o2=IU)\/(n=-2/\fK o2=IS)->tZ [.int (i:Int),.ref p,.ref pp] H Q E:=by
  intro o2 hg hr ho;have hn:¬n>=0:=by obtain⟨z,_⟩|⟨z,_⟩:=ho<;>lia
  have e3:fP i n hw=lE i n hw:=by unfold fP;rw[IW hn];rfl
  rw[e3]at q';by_cases h2:i=2
  ·subst h2;cases hw with
   |true=>exact .inr<|.inl ⟨p,q,pp,la,t,xs,ls,cs,Ub,o2,h,hg,hr,q'⟩
   |false=>exact .inl<|.inl ⟨2,p,q,pp,la,t,IU,xs,ls,cs,Ub,o2,h,hg,hr,.inr<|.inr ⟨rfl,rfl⟩,q'⟩
  ·have e2:lE i n hw=iU i n:=by
    unfold lE;rw[IW (show¬(i:Int)=2 by lia),NX];rfl
   rw[e2]at q';have M6:decide ((i:Int) < 2)=true:=Jj (by lia);have Zv:i=0\/i=1:=by lia
   obtain⟨z,ho⟩|⟨z,ho⟩:=ho
   ·have e1:iU i n=(zg,-2):=by unfold iU;rw[M6,Jj z];rfl
    rw[e1]at q';exact .inl<|.inr ⟨i,p,q,pp,la,t,hw,xs,ls,cs,Ub,o2,h,hg,hr,Zv,ho,q'⟩
   ·have e1:iU i n=(lD,-2):=by unfold iU;rw[IW (show¬n=-1 by lia),J8];rfl
    rw[e1]at q';exact .inl<|.inl ⟨i,p,q,pp,la,t,hw,xs,ls,cs,Ub,o2,h,hg,hr,Zv.elim (λz=>.inl ⟨z,ho⟩) λz=>.inr<|.inl ⟨z,ho⟩,q'⟩
 cases b with
 |bad m d hm e hb hs hn en=>
  subst e en;have e3:fP i (m:Int) hw=(zh,(m:Int)):=by unfold fP;rw[Jj<|by lia];rfl
  rw[e3]at q';have hml:(out.take m).length=m:=by rw[JN];lia
  have ht:(ds.set m d).take m=ds.take m:=List.take_set_of_le<|IX _;have hr:bq t cs hw [] (ds.set m d)=(out.take m,IU):=nP (by rw[ht];exact ji MT m<|by lia) (Ny<|by lia) hb;refine .inr<|.inr ⟨i,p,q,pp,la,t,hw,xs,ls,cs,ds.set m d,out.take m,h,λe he=>?_,hr,by lia,λl H' k g=>q' l H' k<|by rw[hml]at g;exact g⟩;obtain z|z:=Qm he
  ·exact(gb<|Yp e z).1
  ·rw[z];exact hs
 |cut k hk e en=>
  subst e en;exact tail (out.take k) (λd hd=>Yp d<|MC hd) (ji MT k (by have:=SC (a:=([]:IG Int)) (l:=out);lia))<|.inl ⟨rfl,Bu hk (by have:=SC (a:=([]:IG Int)) (l:=out);lia)⟩
 |same e en=>
  subst e en;exact tail out Yp MT<|.inr ⟨rfl,V4⟩
theorem vv(Yp:∀d∈ds,bO d)(b:mZ t cs hw ds out Ub n):(∀d∈Ub,Nice 3 d)/\Ub.length<=ds.length:=by
 cases b with
 |bad m d hm e hb hs hn en=>
  subst e;refine⟨λx hx=>?_,by rw[VO];exact IX _⟩;obtain z|z:=Qm hx
  ·exact je<|Yp x z
  ·rw[z];exact hn
 |cut k hk e en=>
  subst e;exact⟨λd hd=>je<|Yp d<|MC hd,by rw[JN];lia⟩
 |same e en=>
  subst e;exact⟨λd hd=>je<|Yp d hd,IX _⟩
inductive Ir (a p hl l ak hd:IL)(hw:Jm)(n:Int)(H:Hp)(i:Nat)(σ:St)(G:Hp):Prop
 |mk (x7 x8:IQ V)(i0:σ=[B'<|.ref a,B'<|.ref p,B'<|.str<|aI hw,B'<|.ref l,B'<|.int n,B'<|.ref ak,B'<|.ref hd,x7,x8])(i1:Same H G):Ir a p hl l ak hd hw n H i σ G
section
variable {P:Jc}{w:Jv}{K:IJ}{mg:Str->IQ IH}{base:JM}{CB CW CH fI:IL}
theorem EC{g4 g5 g6 g7 g8 g9:IL}{e4 e5 e6 e7 e8 e9:Jr}(F:Fun K "_law_refusal" "_law_refusal" rN f fd)(T:vp K mg CB CW CH fI)
  (A1:Fe P w K mg base 8 "needed_lines" y8) (A2:Fe P w K mg base 8 "shortened_paper" y4) (A3:Fe P w K mg base 7 "joined_clauses" rG)
  (X1:sj P w K mg base 8 "needed_lines" g4 e4 ["sentence","paper"] (gR CW)) (X2:sj P w K mg base 8 "shortened_paper" g5 e5 ["sentence","paper"] (gR CW)) (X3:sj P w K mg base 7 "joined_clauses" g6 e6 ["sentence","paper"] (jT CH))
  (D1:u6 P w K mg base 8 "needed_lines" g7 e7 ["sentence","paper"] (cJ CB)) (D2:u6 P w K mg base 8 "shortened_paper" g8 e8 ["sentence","paper"] (cJ CB)) (D3:u6 P w K mg base 7 "joined_clauses" g9 e9 ["sentence","paper"] (cJ CB))
  (LB:Fe P w K mg base 1 "_law_alone" (fC CB)) (LW:Fe P w K mg base 1 "_law_alone" (fC CW)) (LH:Fe P w K mg base 1 "_law_alone" (fC CH)) (W:Fe P w K mg base 1 "_law_whole" mW):FnOk P w K mg base c6 9 f fd ["_law_word","_law_sentence_here","_law_paper_here"] tZ:=
 FnOk.or (FnOk.or (Bn F T A1 A2 A3 LB W)<|Bo F T X1 X2 X3 LW W) (FnOk.or (Bp F T X1 X2 X3 LH W)<|Bq F T D1 D2 D3 LB W)
theorem CF:aF ["_law_script","_law_sentence_here","_law_hand","_law_lines","_law_at","_law_asked","_law_handed","_law_word","_law_due"] ["_law_script"] (ap vq):=eR
theorem ED(F:Fun K "law" "law" vq f fd)(T:GS mg)(V7:Fe P w K mg base 3 "_law_sentence" (xE K))(Yu:Fe P w K mg base 11 "_law_paper" Co)(XS:Fe P w K mg base 2 "_law_padded" (Cq K))
  (Zg:Fe P w K mg base 2 "_law_bent" (Cz K)) (WZ:Fe P w K mg base 9 "_law_refusal" tZ):FnOk P w K mg base c6 12 f fd ["_law_script"] (t7 K):=by
 have sc:=CF;refine F.okA CF λLY A outer s H vs Q E hr h=>?_;obtain⟨a,ns,rfl,hS,hl,q⟩:=h;have hu:=hr.units;refine⟨_,(af (ar (i:=1) sc.nd rfl (Jl rfl)<|ck V7 hr<|aa (pv 0)<|aa ah ae)
  (af (ic (ck Zg hr<|aa (pv 0)<|aa (pv 1)<|aa (ck XS hr<|aa (pv 0)<|aa (ck Yu hr<|aa (pv 1) ae) ae) ae)<|nE rfl<|aY (aA (i:=2) sc.nd rfl<|Jl rfl)<|aY (aA (i:=3) sc.nd rfl<|Jl rfl)<|aY (aA (i:=4) sc.nd rfl<|Jl rfl) dY)
  (af (ar (i:=5) sc.nd rfl (Jl rfl)<|aZ<|aa (aE ax (pv 1) ah λ_ _=>rfl)<|aa (bL cE rfl T.list KC<|aa (aE ax (pv 1) ah λ_ _=>rfl) ae) ae)
  (af (ar (i:=6) sc.nd rfl (Jl rfl)<|aZ<|aa (pv 2)<|aa (bL cE rfl T.list KC<|aa (pv 3) ae) ae)
  (af (cR Ky rfl (dj rfl T.range<|aa ah ae) (aA (i:=7) sc.nd rfl<|Jl rfl)
   (af (ar (i:=8) sc.nd rfl (Jl rfl)<|aN<|aa aB<|aa (ci bB ah) ae)
   (af (aP (PW.pt<|dA (aq lN (pv 7) ah<|az _)<|cT<|aq (aQ hu) (pv 4) (ci bB ah)<|az _) (ai<|ar (i:=8) sc.nd rfl (Jl rfl)<|aN<|aa aB<|aa (ci bB ah) ae) ay)
   (af (aP (PW.pt<|dA (aq (aQ hu) (pv 7) ah<|az _)<|cT<|aq (aQ hu) (pv 2) aB<|az _) (ai<|ar (i:=8) sc.nd rfl (Jl rfl)<|aN<|aa aB<|aa (ci bB ah) ae) ay)
   (af (aP (aq E6 (pv 4) ah<|az _) (ai<|ar (i:=8) sc.nd rfl (Jl rfl)<|aN<|aa aB<|aa (pv 4) ae) ay)
   (ai<|aP (PW.pt<|gh (aq (fH hu) (ck WZ hr<|aa (pv 7)<|aa (pv 5)<|aa (pv 6) ae) (pv 8)<|az _)<|gh (aq (fH hu) (pv 6) (aZ<|aa (pv 2)<|aa (pv 3) ae)<|az _)<|gn<|aq (fH hu) (pv 5) (pv 1)<|az _) (ai<|aw eV) ay))))))
  (ai<|aw eV)))))),?_⟩
 refine⟨_,rfl,a,ns,5,rfl,hS,hl,(by decide),(by decide),λp t cs H1 k1 hd ok=>?_⟩;have htl:=ok.len;have ahL:=ok.many;have hok:∀c∈cs,aS t.length c:=λc hc=>uR<|ok.cl c hc;obtain⟨pp,qa,zs,ep,h1,h2,h3⟩:=wB hd;cases ep;refine⟨_,rfl,_,rfl,_,rfl,_,rfl,p,qa,t,zs,cs,rfl,h1,by lia,h2,h3,by lia,hok,λrl la sa hw ls ss ds out H2 k2 P2 hds=>?_⟩;refine⟨a,rl,la,sa,ns,t,cs,hw,ls,ss,ds,out,rfl,(k1.trans k2).seq hS,P2,hds,λrl la sa ls ss ds out H3 k3 P3 hds=>?_⟩;have hol:out.length=ds.length:=by
  have:=bY P3.run;simpa using this
 have k23:=k2.trans k3;replace h1:=k23 _ _ h1;replace h2:=k23 _ _ h2;replace h3:=h3.mono k23;refine⟨a,p,qa,rl,la,sa,ns,t,cs,hw,zs,ls,ss,ds,out,rfl,(k1.trans k23).seq hS,h1,h2,h3,P3,hds,by lia,λr l n ls' Ub H4 k4 hr4 hl4 rd4 bk=>?_⟩;have hll:=cq rd4;obtain⟨adJ,hdl⟩:=vv P3.good bk;replace h1:=k4 _ _ h1;replace h2:=k4 _ _ h2;replace h3:=h3.mono k4;exists r,_,rfl,SqL.of hr4,rfl,_,_,rfl,_,_,rfl,_,_,rfl,rfl;refine⟨_,rfl,.inr<|.inl ⟨p,_,0,.str t,rfl,rfl,SqT.of h1,rfl,_,rfl,.inr<|.inl ⟨p,_,1,.ref qa,rfl,rfl,SqT.of h1,rfl,qa,zs,rfl,.inl<|SqL.of h2,λal nal=>?_⟩⟩⟩;have k6:=ag nal<|.lst zs;have s6:upd H4 al (.lst zs) al=B' (.lst zs):=ad;generalize upd H4 al (.lst zs)=H6 at k6 s6 ⊢;refine⟨(by show 2<=sizeLine;decide),λak nak=>?_⟩;have k7:=ag nak<|.tup [.str t,.ref al];have s7:upd H6 ak (.tup [.str t,.ref al]) ak=B' (.tup [.str t,.ref al]):=ad;generalize upd H6 ak (.tup [.str t,.ref al])=H7 at k7 s7 ⊢;have k47:=k6.trans k7;refine⟨_,rfl,_,rfl,l,ls',rfl,.inl<|SqL.of<|k47 _ _ hl4,λUX nhl=>?_⟩;have k8:=ag nhl<|.lst ls';have s8:upd H7 UX (.lst ls') UX=B' (.lst ls'):=ad;generalize upd H7 UX (.lst ls')=H8 at k8 s8 ⊢;refine⟨(by show 2<=sizeLine;decide),λZV nhd=>?_⟩;have k9:=ag nhd<|.tup [.str<|aI hw,.ref UX];have s9:upd H8 ZV (.tup [.str<|aI hw,.ref UX]) ZV=B' (.tup [.str<|aI hw,.ref UX]):=ad;generalize upd H8 ZV (.tup [.str<|aI hw,.ref UX])=H9 at k9 s9 ⊢;have k49:=(k47.trans k8).trans k9;replace s6:=((k7.trans k8).trans k9) _ _ s6;replace s7:=(k8.trans k9) _ _ s7;replace s8:=k9 _ _ s8;refine⟨3,rfl,(by decide),(by decide),dQ (lo:=0) (n:=3) (Ir a p UX l ak ZV hw n H9) ⟨IV,IV,rfl,Same.refl _⟩ ?_ ?_⟩
 ·rintro i σ G hi ⟨x7,x8,rfl,i1⟩;have ei:(0:Int)+(i:Int)=(i:Int):=UP _;rw[ei];refine⟨_,rfl,(by show 2<=sizeLine;decide),λu1 nu1=>?_⟩;have ku1:=ag nu1<|.lst [.str<|IK "told",.int (-2)];have su1:upd G u1 (.lst [.str<|IK "told",.int (-2)]) u1=B' (.lst [.str lD,.int (-2)]):=ad;generalize upd G u1 (.lst [.str<|IK "told",.int (-2)])=G1 at ku1 su1 ⊢;refine lA ?_;dsimp only;refine f_ λN1 hN1=>?_;have go1:∀du G',Same G G'->G' du=B' (.lst [.str (iU i n).1,.int (iU i n).2])->N1 [B'<|.ref a,B'<|.ref p,B'<|.str<|aI hw,B'<|.ref l,B'<|.int n,B'<|.ref ak,B'<|.ref ZV,B'<|.int (i:Int),B'<|.ref du] G':=by
   intro du G' kg hg;refine hN1 _ _ ?_;refine f_ λN2 hN2=>?_;have go2:∀du G',Same G G'->G' du=B' (.lst [.str (lE i n hw).1,.int (lE i n hw).2])->N2 [B'<|.ref a,B'<|.ref p,B'<|.str<|aI hw,B'<|.ref l,B'<|.int n,B'<|.ref ak,B'<|.ref ZV,B'<|.int (i:Int),B'<|.ref du] G':=by
    intro du G' kg hg;refine hN2 _ _ ?_;refine f_ λN3 hN3=>?_;have go3:∀du G',Same G G'->G' du=B' (.lst [.str (fP i n hw).1,.int (fP i n hw).2])->N3 [B'<|.ref a,B'<|.ref p,B'<|.str<|aI hw,B'<|.ref l,B'<|.int n,B'<|.ref ak,B'<|.ref ZV,B'<|.int (i:Int),B'<|.ref du] G':=by
     intro du G' kg hg;refine hN3 _ _ ?_;have kG:=i1.trans kg;have k4G:=k49.trans kG;have at9:mY G' [.int (i:Int),.ref ak,.ref ZV] i ak al ZV UX t hw zs ls' cs Ub:=⟨rfl,kG _ _ s7,by lia,kG _ _ s6,h3.mono k4G,by lia,hok,kG _ _ s9,kG _ _ s8,bn k4G _ _ rd4,by lia⟩;refine⟨_,rfl,_,rfl,_,rfl,Bv hi hol P3.good P3.run P3.fin bk at9 λlr H10 k10 hlr=>?_⟩;have hsd:=vt (fP i n hw).2<|zi i n hw;have rdd:dC H10 [.str (fP i n hw).1,.int (fP i n hw).2] [.str (fP i n hw).1,.int (fP i n hw).2]:=am (bQ _)<|am (bN _) aH;refine⟨_,rfl,kq (bG hlr rdd) (bG (k10 _ _ hg) rdd) hsd ⟨IU,rfl,aO ?_⟩⟩;refine⟨_,rfl,_,rfl,_,rfl,(by show 2<=sizeLine;decide),λnt nnt=>?_⟩;have k15:=ag nnt<|.tup [.str<|aI hw,.ref l];have s15:upd H10 nt (.tup [.str<|aI hw,.ref l]) nt=B' (.tup [.str<|aI hw,.ref l]):=ad;generalize upd H10 nt (.tup [.str<|aI hw,.ref l])=H15 at k15 s15 ⊢;have kf:=(kG.trans k10).trans k15;have k4f:=k49.trans kf;have WI:Kn (.tuple [.str<|aI hw,.list Ub])=true:=Nice.shaped (Nice.mono (bI (n:=5)<|aJ (bu 5 (by cases hw<;>decide+kernel))<|aJ (Nice.mono (g_ (n:=3) adJ)<|by decide) bJ)<|by decide);have rdl:dC H15 Ub ls':=bn k4f _ _ rd4;refine kq (bj (kf _ _ s9)<|am (bQ _)<|am (bG (kf _ _ s8) rdl) aH) (bj s15<|am (bQ _)<|am (bG (k4f _ _ hl4) rdl) aH) WI ⟨IU,rfl,aO ?_⟩;exact⟨_,rfl,_,rfl,kq (jK (kf _ _ s7) (kf _ _ s6)<|h3.mono k4f) (jK (k4f _ _ h1) (k4f _ _ h2)<|h3.mono k4f) (o9 ok.ws cs) ⟨IU,rfl,aO ⟨_,_,rfl,kf⟩⟩⟩
    refine⟨_,rfl,_,_,rfl,rfl,_,rfl,fG (λc=>?_) λc=>?_⟩
    ·refine⟨_,rfl,(by show 2<=sizeLine;decide),λu3 nu3=>go3 u3 _ (kg.trans<|ag nu3 _) ?_⟩;have e3:fP i n hw=(zh,n):=JF c;rw[ad,e3]
    ·have e3:fP i n hw=lE i n hw:=JD c;exact go3 du G' kg (by rw[e3];exact hg)
   refine⟨_,rfl,.inl ⟨rfl,_,rfl,fG (λc=>?_) λc=>?_⟩⟩
   ·have Zv:(i:Int)=2:=V.int.inj<|Kd c;refine⟨_,rfl,.inl ⟨rfl,_,rfl,?_⟩⟩;cases hw with
    |true=>
     have ew:decide (V.str (aI IS)=V.str (IK "wisher"))=true:=Jj rfl;rw[ew];refine aT ⟨_,rfl,(by show 2<=sizeLine;decide),λu3 nu3=>go2 u3 _ (kg.trans<|ag nu3 _) ?_⟩;have e2:lE i n IS=(t8,-2):=JF (by rw[Jj Zv];rfl);rw[ad,e2]
    |false=>
     rw[IW (show¬V.str (aI IU)=V.str (IK "wisher") by decide+kernel)];have e2:lE i n IU=iU i n:=JD (by rw[J8];decide);exact aO (go2 du G' kg<|by rw[e2];exact hg)
   ·have Zv:¬(i:Int)=2:=λz=>c<|Jj<|Kp V.int z;have e2:lE i n hw=iU i n:=JD (by rw[IW Zv,NX];decide);exact aO (go2 du G' kg<|by rw[e2];exact hg)
  refine⟨_,rfl,_,_,rfl,rfl,_,rfl,fG (λc=>?_) λc=>?_⟩
  ·refine⟨_,rfl,_,rfl,.inl ⟨rfl,_,rfl,fG (λc2=>?_) λc2=>?_⟩⟩
   ·refine⟨_,rfl,(by show 2<=sizeLine;decide),λu3 nu3=>go1 u3 _ (ku1.trans<|ag nu3 _) ?_⟩;have hn1:n=-1:=V.int.inj<|Kd c2;have e1:iU i n=(zg,-2):=JF (by rw[Jj hn1,Bool.and_true];exact c);rw[ad,e1]
   ·have hn1:¬n=-1:=λz=>c2<|Jj<|Kp V.int z;have e1:iU i n=(lD,-2):=JD (by rw[IW hn1,J8];decide);exact go1 u1 G1 ku1 (by rw[e1];exact su1)
  ·have e1:iU i n=(lD,-2):=JD (by rw[UR.mpr c,NX];decide);exact aO (go1 u1 G1 ku1<|by rw[e1];exact su1)
 ·rintro σ G ⟨x7,x8,rfl,i1⟩;exact q _
end
abbrev fqq(K n s f e):=Fun K n n s f e
theorem all_mk {l:Pl}{w:Jv}{K:IJ}{h:JM}{mg:Str->IQ IH}{fa:IL}(X:K.In h)(G:h.Ns Ja mg)(hfa:mg "law"=B' (.ref fa)){CD CB CW C1 C2 C5 C6 C7 C8 C9:IL}{cdB cdW cdH:ClassData}(a1:Kl K (.ref CB) "__init__"=B' (B' (.ref f1)))(i1:XZ K (.ref f1)=IS)(F1:Fun K "__init__" "BadLine.__init__" ym f1 e1)(a2:Jb K Ja "is_number"=B' (B' (.ref f2)))(F2:fqq K "is_number" DY f2 e2)(a3:Jb K Ja "is_set"=B' (B' (.ref f3)))(F3:fqq K "is_set" DZ f3 e3)(a4:Jb K Ja "hand_of"=B' (B' (.ref f4)))(F4:fqq K "hand_of" n6 f4 e4)(a5:Jb K Ja "other_hand"=B' (B' (.ref f5)))(F5:fqq K "other_hand" q_ f5 e5)(a6:Jb K Ja "variables_of"=B' (B' (.ref f6)))(F6:fqq K "variables_of" xM f6 e6)(a7:Jb K Ja "stands_both_ways"=B' (B' (.ref f7)))(F7:fqq K "stands_both_ways" xP f7 e7)(a8:Jb K Ja "joined"=B' (B' (.ref f8)))(F8:fqq K "joined" n_ f8 e8)(a9:Jb K Ja "dropped"=B' (B' (.ref f9)))(F9:fqq K "dropped" kZ f9 e9)(a10:Jb K Ja "is_place"=B' (B' (.ref f10)))(F10:fqq K "is_place" rg f10 e10)(a11:Jb K Ja "begins_with"=B' (B' (.ref f11)))(F11:fqq K "begins_with" xS f11 e11)(a12:Jb K Ja "given_set"=B' (B' (.ref f12)))(F12:fqq K "given_set" rh f12 e12)(a13:Jb K Ja "hits"=B' (B' (.ref f13)))(F13:fqq K "hits" rp f13 e13)(a14:Jb K Ja "hits_each"=B' (B' (.ref f14)))(F14:fqq K "hits_each" rq f14 e14)(a15:Jb K Ja "hits_set"=B' (B' (.ref f15)))(F15:fqq K "hits_set" rA f15 e15)(a16:Jb K Ja "join_set"=B' (B' (.ref f16)))(F16:fqq K "join_set" rn f16 e16)(a17:Jb K Ja "drop_set"=B' (B' (.ref f17)))(F17:fqq K "drop_set" rj f17 e17)(a18:Jb K Ja "line_set"=B' (B' (.ref f18)))(F18:fqq K "line_set" yc f18 e18)(a19:Jb K Ja "sets_of"=B' (B' (.ref f19)))(F19:fqq K "sets_of" jR f19 e19)(a21:Jb K Ja "end_empty"=B' (B' (.ref f21)))(F21:fqq K "end_empty" D9 f21 e21)(a22:Jb K Ja "whole_sets"=B' (B' (.ref f22)))(F22:fqq K "whole_sets" yu f22 e22)(a25:Jb K Ja "named_by"=B' (B' (.ref f25)))(F25:fqq K "named_by" yC f25 e25)(a26:Jb K Ja "renamed"=B' (B' (.ref f26)))(F26:fqq K "renamed" vh f26 e26)(a28:Jb K Ja "needed_by"=B' (B' (.ref f28)))(F28:fqq K "needed_by" A0 f28 e28)(a29:Jb K Ja "first_places"=B' (B' (.ref f29)))(F29:fqq K "first_places" A7 f29 e29)(a30:Jb K Ja "needed_lines"=B' (B' (.ref f30)))(F30:fqq K "needed_lines" y6 f30 e30)(a33:Jb K Ja "shortened_paper"=B' (B' (.ref f33)))(F33:fqq K "shortened_paper" yY f33 e33)(a36:Jb K Ja "joined_clauses"=B' (B' (.ref f36)))(F36:fqq K "joined_clauses" lx f36 e36)(a39:Jb K Ja "_law_cell_at"=B' (B' (.ref f39)))(F39:fqq K "_law_cell_at" xA f39 e39)(a40:Jb K Ja "_law_mixed"=B' (B' (.ref f40)))(F40:fqq K "_law_mixed" qX f40 e40)(a41:Jb K Ja "_law_first"=B' (B' (.ref f41)))(F41:fqq K "_law_first" qY f41 e41)(a42:Jb K Ja "_law_free_clause"=B' (B' (.ref f42)))(F42:fqq K "_law_free_clause" xB f42 e42)(a43:Jb K Ja "_law_drawn"=B' (B' (.ref f43)))(F43:fqq K "_law_drawn" qZ f43 e43)(a44:Jb K Ja "_law_sentence"=B' (B' (.ref f44)))(F44:fqq K "_law_sentence" xC f44 e44)(a45:Jb K Ja "_law_own"=B' (B' (.ref f45)))(F45:fqq K "_law_own" Ed f45 e45)(a46:Jb K Ja "_law_set"=B' (B' (.ref f46)))(F46:fqq K "_law_set" yx f46 e46)(a47:Jb K Ja "_law_put"=B' (B' (.ref f47)))(F47:fqq K "_law_put" A9 f47 e47)(a48:Jb K Ja "_law_rest"=B' (B' (.ref f48)))(F48:fqq K "_law_rest" rD f48 e48)(a49:Jb K Ja "_law_drop"=B' (B' (.ref f49)))(F49:fqq K "_law_drop" A_ f49 e49)(a50:Jb K Ja "_law_hits"=B' (B' (.ref f50)))(F50:fqq K "_law_hits" Em f50 e50)(a51:Jb K Ja "_law_seen"=B' (B' (.ref f51)))(F51:fqq K "_law_seen" HZ f51 e51)(a52:Jb K Ja "_law_led"=B' (B' (.ref f52)))(F52:fqq K "_law_led" vk f52 e52)(a53:Jb K Ja "_law_paper"=B' (B' (.ref f53)))(F53:fqq K "_law_paper" Bh f53 e53)(a54:Jb K Ja "_law_padded"=B' (B' (.ref f54)))(F54:fqq K "_law_padded" Er f54 e54)(a55:Jb K Ja "_law_whole"=B' (B' (.ref f55)))(F55:fqq K "_law_whole" Ex f55 e55)(a56:Jb K Ja "_law_alone"=B' (B' (.ref f56)))(F56:fqq K "_law_alone" rL f56 e56)(a59:Jb K Ja "_law_bent"=B' (B' (.ref f59)))(F59:fqq K "_law_bent" Ez f59 e59)(a60:Jb K Ja "_law_refusal"=B' (B' (.ref f60)))(F60:fqq K "_law_refusal" rN f60 e60)(a61:Jb K Ja "law"=B' (B' (.ref f61)))(F61:fqq K "law" vq f61 e61)(z0:Jb K Ja "len"=B' IV)(z1:Jb K Ja "range"=B' IV)(z2:Jb K Ja "tuple"=B' IV)(z3:Jb K Ja "list"=B' IV)(z4:Jb K Ja "sorted"=B' IV)(z5:Jb K Ja "sum"=B' IV)(z6:Jb K Ja "isinstance"=B' IV)(z7:Jb K Ja "int"=B' IV)(z8:Jb K Ja "bool"=B' IV)(z9:Jb K Ja "abs"=B' IV)(z10:Jb K Ja "all"=B' IV)(z11:Jb K Ja "zip"=B' IV)(z12:Jb K Ja "set"=B' IV)(z13:Jb K Ja "any"=B' IV)(z14:Jb K Ja "max"=B' IV)(z15:Jb K Ja "enumerate"=B' IV)(z16:Jb K Ja "dict"=B' IV){tW tS:Tok} (zW:Jb K Ja "WISHER"=B' (B' (.str (IK "wisher") tW)))(zS:Jb K Ja "SPOILER"=B' (B' (.str (IK "spoiler") tS)))(yD:Jb K Ja "DuelError"=B' (B' (.ref CD)))(yC1:Jb K Ja "NoVariable"=B' (B' (.ref C1)))(yC2:Jb K Ja "NoFilling"=B' (B' (.ref C2)))(CBy:Jb K Ja "BadLine"=B' (B' (.ref CB)))(yCW:Jb K Ja "NotWhole"=B' (B' (.ref CW)))(yC5:Jb K Ja "NoHand"=B' (B' (.ref C5)))(yC6:Jb K Ja "BadStep"=B' (B' (.ref C6)))(yC7:Jb K Ja "NoForm"=B' (B' (.ref C7)))(yC8:Jb K Ja "TooMany"=B' (B' (.ref C8)))(yC9:Jb K Ja "NoText"=B' (B' (.ref C9)))(zV:Jb K Ja "ValueError"=B' IV)(xCW:LK K CW [.type "ValueError",.type "Exception",.type "BaseException",.type "object"] "ValueError.__new__"=IS)(CBxi:gN K CB [.type "ValueError",.type "Exception",.type "BaseException",.type "object"] "ValueError.__new__" f1=IS)(CBkc:LJ K (.ref CB)=IS)(u1:Qw K (.ref CD) "__getattribute__"=B' (B' (.builtin "type.__getattribute__")))(u2:VE K CD (.type "type")=IS)(u3:VF K (.ref CD) (.type "type") "__init__"=B' (.val (.builtin "ValueError.__init__")))(w1:L_ K CB=B' cdB)(w1p:(cdB.hasDict&&sM cdB.mro)=IS)(w2:Kl K (.ref CB) "__getattribute__"=B' (B' (.builtin "BaseException.__getattribute__")))(w3:Kl K (.ref CB) "__getattr__"=B' IV)(w4:Kl K (.ref CB) "__class__"=B' (B' (.builtin "object.__class__")))(w5:JL K CB (.type "object")=B' IS)(w6:JL K CB (.type "BaseException")=B' IS)(w7:JL K CB (.type "ValueError")=B' IS)(w8:Kl K (.ref CB) "__setattr__"=B' (B' (.builtin "object.__setattr__")))(w9:Kl K (.ref CB) "place"=B' IV)(w10:M_ K CB=IS)(v1:L_ K CW=B' cdW)(v2:Kl K (.ref CW) "__getattribute__"=B' (B' (.builtin "BaseException.__getattribute__")))(v3:Kl K (.ref CW) "__getattr__"=B' IV)(v4:Kl K (.ref CW) "__class__"=B' (B' (.builtin "object.__class__")))(v5:JL K CW (.type "object")=B' IS)(v6:JL K CW (.type "BaseException")=B' IS)(kBV:Jq K (.ref CB) (.type "ValueError")=B' IS)(kB_C1:Jq K (.ref CB) (.ref C1)=B' IU)(kB_C2:Jq K (.ref CB) (.ref C2)=B' IU)(kB_CW:Jq K (.ref CB) (.ref CW)=B' IU)(kB_C5:Jq K (.ref CB) (.ref C5)=B' IU)(kB_C6:Jq K (.ref CB) (.ref C6)=B' IU)(kB_C7:Jq K (.ref CB) (.ref C7)=B' IU)(kB_C8:Jq K (.ref CB) (.ref C8)=B' IU)(kB_C9:Jq K (.ref CB) (.ref C9)=B' IU)(kWV:Jq K (.ref CW) (.type "ValueError")=B' IS)(kW_C1:Jq K (.ref CW) (.ref C1)=B' IU)(kW_C2:Jq K (.ref CW) (.ref C2)=B' IU)(kW_CB:Jq K (.ref CW) (.ref CB)=B' IU)(kW_C5:Jq K (.ref CW) (.ref C5)=B' IU)(kW_C6:Jq K (.ref CW) (.ref C6)=B' IU)(kW_C7:Jq K (.ref CW) (.ref C7)=B' IU)(kW_C8:Jq K (.ref CW) (.ref C8)=B' IU)(kW_C9:Jq K (.ref CW) (.ref C9)=B' IU)(xC5:LK K C5 [.type "ValueError",.type "Exception",.type "BaseException",.type "object"] "ValueError.__new__"=IS)(wBB:JL K CB (.ref CB)=B' IS)(n2B:JL K CW (.ref CB)=B' IU)(n3B:JL K C5 (.ref CB)=B' IU)(n3W:JL K C5 (.ref CW)=B' IU)(t1:L_ K C5=B' cdH)(t2:Kl K (.ref C5) "__getattribute__"=B' (B' (.builtin "BaseException.__getattribute__")))(t3:Kl K (.ref C5) "__getattr__"=B' IV)(t4:Kl K (.ref C5) "__class__"=B' (B' (.builtin "object.__class__")))(t5:JL K C5 (.type "object")=B' IS)(t6:JL K C5 (.type "BaseException")=B' IS)(kHV:Jq K (.ref C5) (.type "ValueError")=B' IS)(kH_C1:Jq K (.ref C5) (.ref C1)=B' IU)(kH_C2:Jq K (.ref C5) (.ref C2)=B' IU)(kH_CB:Jq K (.ref C5) (.ref CB)=B' IU)(kH_CW:Jq K (.ref C5) (.ref CW)=B' IU)(kH_C6:Jq K (.ref C5) (.ref C6)=B' IU)(kH_C7:Jq K (.ref C5) (.ref C7)=B' IU)(kH_C8:Jq K (.ref C5) (.ref C8)=B' IU)(kH_C9:Jq K (.ref C5) (.ref C9)=B' IU)(kBD:Jq K (.ref CB) (.ref CD)=B' IS)(kWD:Jq K (.ref CW) (.ref CD)=B' IS)(kHD:Jq K (.ref C5) (.ref CD)=B' IS):∃ fd:Jr,(∀ (s:IM) (v:IH),UB s fd ⟨[v],[]⟩ [("_law_script",v)])/\∀ base:JM,K.In base->base.Ns Ja mg->FnOk l.prog w K mg base c6 12 fa fd ["_law_script"] (t7 K):=by
 have e:=hfa.symm.trans (Kk X G a61);cases e;have TG:EN mg:=⟨Je X G z0,Je X G z1,Je X G z2,Je X G z3,Je X G z4,Je X G z5⟩;have TS:qe mg:=⟨Je X G z6,Je X G z7,Je X G z8,Je X G z2,Je X G z3,Je X G z9,Je X G z0,Je X G z10,Je X G z1,Je X G z11,Je X G z4,Je X G z12,Je X G z13,Je X G z14⟩;have TH:Hc mg:=⟨Je X G z0,⟨_,Kk X G zW,⟨_,rfl⟩⟩,⟨_,Kk X G zS,⟨_,rfl⟩⟩⟩;have TE:HY mg:=⟨Je X G z15⟩;have TFs:Gq mg:=⟨Je X G z15⟩;have TSh:GJ mg:=⟨Je X G z15,Je X G z16⟩;have TNe:Gk mg:=⟨Je X G z1,Je X G z4⟩;have TPd:GG mg:=⟨Je X G z0,Je X G z3,Je X G z1⟩;have TNL:GL mg:=⟨Je X G z0⟩;have TWl:GP mg:=⟨Je X G z6,Je X G z7,Je X G z8⟩;have TBn:GQ mg:=⟨Je X G z0,Je X G z3⟩;have TL5:GS mg:=⟨Je X G z3,Je X G z1⟩;have TPu:Gw mg:=⟨Je X G z0⟩;have THt:Gz mg:=⟨Je X G z0,Je X G z9⟩;have TSn:GA mg:=⟨Je X G z0,Je X G z9,Je X G z1⟩;have TLe:Bg mg:=⟨Je X G z0,Je X G z9⟩;have AB:dE K CB:=⟨⟨_,w1⟩,w2,w3,w4,w5,w6⟩;have AW:dE K CW:=⟨⟨_,v1⟩,v2,v3,v4,v5,v6⟩;have TB:B6 K mg CB CD:=⟨⟨_,Kk X G yD,rfl⟩,⟨u1,u2,u3⟩,⟨_,w1⟩,w7,⟨⟨_,w1,w1p⟩,w8,w9,w5⟩⟩;have TW:Im K mg CW:=⟨Kk X G yCW,xCW⟩;have KB:Hf K CB C1 C2 CB CW C5 C6 C7 C8 C9 IU IU IS IU IU IU IU IU false:=⟨AB,kBV,kB_C1,kB_C2,kr K CB,kB_CW,kB_C5,kB_C6,kB_C7,kB_C8,kB_C9⟩;have KW:Hf K CW C1 C2 CB CW C5 C6 C7 C8 C9 IU IU IU IS IU IU IU IU false:=⟨AW,kWV,kW_C1,kW_C2,kW_CB,kr K CW,kW_C5,kW_C6,kW_C7,kW_C8,kW_C9⟩;have AH:dE K C5:=⟨⟨_,t1⟩,t2,t3,t4,t5,t6⟩;have KH:Hf K C5 C1 C2 CB CW C5 C6 C7 C8 C9 IU IU IU IU IS IU IU IU false:=⟨AH,kHV,kH_C1,kH_C2,kH_CB,kH_CW,kr K C5,kH_C6,kH_C7,kH_C8,kH_C9⟩;have hB1:(([IU,IU,IS,IU,IU,IU,IU,IU,IU]:IG Jm).filter id).length=1:=rfl;have hW1:(([IU,IU,IU,IS,IU,IU,IU,IU,IU]:IG Jm).filter id).length=1:=rfl;have hH1:(([IU,IU,IU,IU,IS,IU,IU,IU,IU]:IG Jm).filter id).length=1:=rfl;have TA:Iq mg CD C1 C2 CB CW C5 C6 C7 C8 C9:=⟨TS.len,TS.isinstance,Je X G zV,⟨_,Kk X G yD,rfl⟩,⟨_,Kk X G yC1,rfl⟩,⟨_,Kk X G yC2,rfl⟩,⟨_,Kk X G CBy,rfl⟩,⟨_,Kk X G yCW,rfl⟩,⟨_,Kk X G yC5,rfl⟩,⟨_,Kk X G yC6,rfl⟩,⟨_,Kk X G yC7,rfl⟩,⟨_,Kk X G yC8,rfl⟩,⟨_,Kk X G yC9,rfl⟩⟩;have TJ:Io mg:=⟨TS.list,TSh.dict,TH.g_SPOILER⟩;have TNH:GO K mg C5:=⟨TH.g_SPOILER,Kk X G yC5,xC5⟩;have TRf:vp K mg CB CW C5 f1:=⟨TS.isinstance,TS.list,TS.tuple,Kk X G CBy,CBxi,w6,wBB,Kk X G yCW,xCW,v6,n2B,Kk X G yC5,xC5,n3B,n3W,⟨AB,w9,w10⟩⟩;obtain⟨_,_,kV,dc,pm,an,cd,ct,_,rfl,_,_⟩:=F61.ex;refine⟨Mc "law" "law" (d6 vq) (cF vq) (ap vq) .none kV dc pm an cd ct,λs v=>.of_eq rfl,λbase _ _=>?_⟩;have G1:HW l.prog w K mg base _ "BadLine" CB _ _ _ _:=⟨AU F1 TB,F1.b2,CBxi,i1,CBkc,Kk X G CBy⟩;have G2:=eO l.prog w base X G a2 F2 F2.b1 (D5 F2 TS);have G3:=eO l.prog w base X G a3 F3 F3.b2 (D6 F3 TS G2);have G4:=eO l.prog w base X G a4 F4 F4.b2 (vc F4 TH);have G5:=eO l.prog w base X G a5 F5 F5.b1 (xO F5 TH);have G6:=eO l.prog w base X G a6 F6 F6.b2 (AF F6 TS G4);have G7:=eO l.prog w base X G a7 F7 F7.b3 (AK F7 TS);have G8:=eO l.prog w base X G a8 F8 F8.b3 (vd F8 TS);have G9:=eO l.prog w base X G a9 F9 F9.b3 (rf F9 TS G5 G6);have G10:=eO l.prog w base X G a10 F10 F10.b2 (xY F10 G2);have G11:=eO l.prog w base X G a11 F11 F11.b3 (AL F11 TS);have G12:=eO l.prog w base X G a12 F12 F12.b2 (x_ F12 TS G10);have G13:=eO l.prog w base X G a13 F13 F13.b2 (yi F13);have G14:=eO l.prog w base X G a14 F14 F14.b2 (yj F14 TS G13);have G15:=eO l.prog w base X G a15 F15 F15.b2 (yk F15 TS G3 G14);have G16:=eO l.prog w base X G a16 F16 F16.b4 (yb F16 TS G2 G10 G5 G6 G7 G8);have G17:=eO l.prog w base X G a17 F17 F17.b4 (ya F17 TS G10 G9);have G18:=eO l.prog w base X G a18 F18 F18.b4 (AT F18 TH G11 G12 G15 G16 G17);have G19:=eO l.prog w base X G a19 F19 F19.b2 (ve F19 TE G18);have G20:=xt l.prog w base X G a19 F19 F19.b2 (yq F19 TE G1 G18);have G21:=eO l.prog w base X G a21 F21 F21.b1 (D_ F21);have G22:=eO l.prog w base X G a22 F22 F22.b2 (Ea F22 G19 G21);have G23:=xt l.prog w base X G a22 F22 F22.b2 (Eb F22 G20);have G24:=Ay l.prog w base X G a22 F22 F22.b2 (Ec F22 TW G19 G21);have G25:=eO l.prog w base X G a25 F25 F25.b1 (AZ F25);have G26:=eO l.prog w base X G a26 F26 F26.b2 (A5 F26);have G27:=eO l.prog w base X G a26 F26 F26.b2 (A6 F26);have G28:=eO l.prog w base X G a28 F28 F28.b2 (Ei F28 TNe G25);have G29:=eO l.prog w base X G a29 F29 F29.b1 (Ej F29 TFs);have G30:=eO l.prog w base X G a30 F30 F30.b2 (Ew F30 TNL G22 G28);have G31:=xt l.prog w base X G a30 F30 F30.b2 (Bj F30 G23);have G32:=Ay l.prog w base X G a30 F30 F30.b2 (Bk F30 G24);have G33:=eO l.prog w base X G a33 F33 F33.b2 (Ev F33 TSh G22 G29 G26 G28 G27);have G34:=xt l.prog w base X G a33 F33 F33.b2 (Bl F33 G23);have G35:=Ay l.prog w base X G a33 F33 F33.b2 (Bm F33 G24);have G36:=eO l.prog w base X G a36 F36 F36.b2 (A8 F36 TJ G19);have G37:=xt l.prog w base X G a36 F36 F36.b2 (y_ F36 G20);have G38:=Ay l.prog w base X G a36 F36 F36.b2 (za F36 TNH G19);have G39:=eO l.prog w base X G a39 F39 F39.b2 (AC F39 TG);have G40:=eO l.prog w base X G a40 F40 F40.b2 (xF F40);have G41:=eO l.prog w base X G a41 F41 F41.b2 (xG F41 TG G39 G40);have G42:=eO l.prog w base X G a42 F42 F42.b2 (AD F42 TG);have G43:=eO l.prog w base X G a43 F43 F43.b3 (xI F43 TG G40);have G44:=eO l.prog w base X G a44 F44 F44.b2 (AE F44 TG G39 G40 G41 G42 G43);have G45:=eO l.prog w base X G a45 F45 F45.b3 (Ef F45 TS);have G46:=eO l.prog w base X G a46 F46 F46.b1 (AY F46 TS);have G47:=eO l.prog w base X G a47 F47 F47.b5 (Ek F47 TPu);have G48:=eO l.prog w base X G a48 F48 F48.b3 (yA F48 TS G45);have G49:=eO l.prog w base X G a49 F49 F49.b5 (El F49 G47 G48);have G50:=eO l.prog w base X G a50 F50 F50.b2 (En F50 THt G46);have G51:=eO l.prog w base X G a51 F51 F51.b4 (GC F51 TSn G47 G50);have G52:=eO l.prog w base X G a52 F52 F52.b4 (Eo F52 TLe G51 G49 G45 G47 G46 F52.b4 F52.kp (Kk X G a52));have G53:=eO l.prog w base X G a53 F53 F53.b1 (Ep F53 G52);have G54:=eO l.prog w base X G a54 F54 F54.b2 (Es F54 TPd G40 G39);have G55:=eO l.prog w base X G a55 F55 F55.b1 (Ey F55 TWl);have G56:=eO l.prog w base X G a56 F56 F56.b1 (lB F56 TA KB kBD hB1);have G57:=eO l.prog w base X G a56 F56 F56.b1 (lB F56 TA KW kWD hW1);have G58:=eO l.prog w base X G a56 F56 F56.b1 (lB F56 TA KH kHD hH1);have G59:=eO l.prog w base X G a59 F59 F59.b3 (EB F59 TBn G40 G39);have G60:=eO l.prog w base X G a60 F60 F60.b3 (EC F60 TRf G30 G33 G36 G32 G35 G38 G31 G34 G37 G56 G57 G58 G55);exact ED F61 TL5 G44 G53 G54 G59 G60
theorem walk {l:Pl}{q:Jc}{loose:IG Str}{XP:(Str->IQ IH)->JM->Prop}{YP:Jv->JM->Prop}{d:DefRec}{K:X0->IJ}(hn:l.most=B' 63)(hdf:d.params.defaults=[])
  (hY:∀ (w:Jv) (h:JM),YP w h->(K w.params).In h)
  (F:∀ (w:Jv) (mg:Str->IQ IH) (fa:IL) (h:JM),(K w.params).In h->h.Ns Ja mg->mg d.name=B' (.ref fa)->
   ∃ fd:Jr,(∀ (s:IM) (u:IH),UB s fd ⟨[u],[]⟩ [("_law_script",u)])/\∀ base:JM,(K w.params).In base->base.Ns Ja mg->FnOk l.prog w (K w.params) mg base c6 12 fa fd ["_law_script"] (t7 (K w.params))):
  U8 q loose XP YP l.row.toRowW d [] (λf vs=>Ts f vs):=
 L2.walk_of (n:=63) (k:=12) (x:="_law_script") (CX:=λ_=>c6) (sp:=λw=>t7 (K w.params)) hn (by decide) hdf ⟨rfl,by decide,by decide⟩ hY F (λ_ _ a ns hl _ hS=>⟨a,ns,rfl,hS,hl,λ_=>rfl⟩) λ_ _ _ _ _ z=>z
end K54
open PySem PySem.W PySem.Calls PyProof.Rows
set_option maxRecDepth 100000
set_option maxHeartbeats 0
noncomputable def K54.vQ:Jc:=view LM [1,2,3,4,5,6,7,8,9,10,12,13,14,16,17,18,19,20,22,23,24,25,27,28,29,30,31,32,33,34,35,36,38,39,40,41,42,43,44,46,47,48,49,50,51,52,53,54,55,56,57,58,59,60,61,62,63,64,65,66]
theorem K54.said:OpenLaw.wellSaid LL=true:=(congrFun Fast.te9446332074065402090 LL).trans (by kernel_rfl)
theorem K54.seen (w:Jv)(os:Pe):HD.lookAt LM 11 (B' (.ref 6)) 3700 w os (HD.seenAt LM K54.vQ [] (λs=>xlAt K54.vQ [] s&&recOk [] s) IS w)=B' (IS,openGood K54.vQ []):=by kernel_rfl
local macro_rules|`(tactic|o_head $H)=>`(tactic|refine HD.head (q:=K54.vQ) (loose:=[]) (lv:=[]) $H (N:=7400) (HD.left (by kernel_rfl) (fun s=>by kernel_rfl) (by kernel_rfl) (by kernel_rfl) (fun w=>by kernel_rfl) K54.seen (fun w os=>by kernel_rfl)) (by rfl) (by rfl) (by rfl) (by rfl) (by assumption) (by decide+kernel) ⟨rfl,rfl,rfl,rfl,rfl,by decide+kernel⟩ ?hw ?hc)
theorem PySem.Challenge.cw_oathduel_k54_refused_papers_holds : PySem.Challenge.rw_oathduel_k54_refused_papers.Holds := by
 w_on
 refine holds_law K54.said λsaid=>?_
 k_head
 (case hw=>w_witness2)
 k_fill
 refine K54.walk (l:=LL) rfl rfl (λw h Y=>PySem.W.kIn_of Y) ?F
 case F=>
  intro w mg fa h KX G hmg;apply K54.all_mk KX G hmg
  (case yD|yC1|yC2|CBy|yCW|yC5|yC6|yC7|yC8|yC9|zV|a1|a2|a3|a4|a5|a6|a7|a8|a9|a10|a11|a12|a13|a14|a15|a16|a17|a18|a19|a21|a22|a25|a26|a28|a29|a30|a33|a36|a39|a40|a41|a42|a43|a44|a45|a46|a47|a48|a49|a50|a51|a52|a53|a54|a55|a56|a59|a60|a61|i1|z0|z1|z2|z3|z4|z5|z6|z7|z8|z9|z10|z11|z12|z13|z14|z15|z16|zW|zS|CBkc|u1|u2|u3|w1|w2|w3|w4|w5|w6|w7|w8|w9|w10|v1|v2|v3|v4|v5|v6|wBB|n2B|n3B|n3W|t1|t2|t3|t4|t5|t6=>k_is)
  (case F1|F2|F3|F4|F5|F6|F7|F8|F9|F10|F11|F12|F13|F14|F15|F16|F17|F18|F19|F21|F22|F25|F26|F28|F29|F30|F33|F36|F39|F40|F41|F42|F43|F44|F45|F46|F47|F48|F49|F50|F51|F52|F53|F54|F55|F56|F59|F60|F61=>refine' L2.fun_mk ?l ?c ?k;(case l=>k_is);(case c=>k_is);(case k=>k_is))
  (case xCW=>k_exc)
  (case CBxi=>kernel_rfl)
  (case w1p=>rfl)
  (case kBV=>kit_is)
  (case kB_C1=>kit_is)
  (case kB_C2=>kit_is)
  (case kB_CW=>kit_is)
  (case kB_C5=>kit_is)
  (case kB_C6=>kit_is)
  (case kB_C7=>kit_is)
  (case kB_C8=>kit_is)
  (case kB_C9=>kit_is)
  (case kWV=>kit_is)
  (case kW_C1=>kit_is)
  (case kW_C2=>kit_is)
  (case kW_CB=>kit_is)
  (case kW_C5=>kit_is)
  (case kW_C6=>kit_is)
  (case kW_C7=>kit_is)
  (case kW_C8=>kit_is)
  (case kW_C9=>kit_is)
  (case xC5=>k_exc)
  (case kHV=>kit_is)
  (case kH_C1=>kit_is)
  (case kH_C2=>kit_is)
  (case kH_CB=>kit_is)
  (case kH_CW=>kit_is)
  (case kH_C6=>kit_is)
  (case kH_C7=>kit_is)
  (case kH_C8=>kit_is)
  (case kH_C9=>kit_is)
  (case kBD=>kit_is)
  (case kWD=>kit_is)
  (case kHD=>kit_is)
