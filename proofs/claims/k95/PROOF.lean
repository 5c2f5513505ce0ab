import PyProof.Rows.All
import Wide.All
import OpenK.AllK
import Wide.FinOn
import Lean
import PyProof.EqAt
import PyProof.EqKinds
import PyProof.TupleCall
import PySem.Challenge.RW_oathduel_k95_whole_losers_lose
set_option Elab.async false
set_option linter.all false
set_option maxRecDepth 100000
set_option maxHeartbeats 4000000
open Array renaming length_toList->Gh,mk->JR,getElem?_toList->Lv,toList_append->L_,toList->MV
open Bool renaming false_ne_true->i',true->kz,false->B',eq_iff_iff->Gw,and_eq_true->GC,false_eq_true->IX,rec->JQ,eq_false_iff->Ky,false_or->KF,and_false->LP,and_eq_true_iff->LQ,or_false->Mc,not_eq_true'->MU,or_eq_true->Nz
open False renaming elim->Gn
open ForInStep renaming yield->JY
open Int renaming emod_lt_of_pos->GY,emod_nonneg->Hc,toNat_natCast->Jv,le_refl->JP,natCast_nonneg->Kg,fdiv_eq_ediv_of_nonneg->Kh,add_comm->Lf,mul_one->Nn,zero_add->Pt,le_trans->Pu,one_mul->Qg
open List renaming length_map->ka,length_append->C',getElem?_eq_some_iff->ES,getElem?_eq_getElem->E1,take_of_length_le->E3,contains_iff_mem->E5,mem_singleton->Fb,mem_of_getElem?->Fd,size_toArray->Ff,map_append->Fh,getElem?_map->Fk,mem_cons->Fl,getD_eq_getElem?_getD->Fo,mem_cons_of_mem->Fx,range->Fy,mem_cons_self->Fz,map_cons->FA,take_add_one->FD,length_filter_le->FH,length_cons->FI,filter_cons_of_pos->FJ,length_singleton->FL,mem_append->FN,length_take->FO,filter_cons_of_neg->FP,mem_map->FW,map_map->FX,mem_range->FZ,getElem?_append_right->F0,getElem?_append_left->Ga,mem_append_right->Gb,filter_append->Gc,Nodup->Gd,mem_filter->Gf,all_eq_true->Gq,length_range->Gr,find?_cons->Gv,mem_of_find?_eq_some->Gy,append_nil->GA,range_succ->GJ,nodup_cons->GK,any_cons->GL,filterMap_cons->GQ,any_eq_true->GZ,getElem?_eq_none->Hd,lookup_cons->Hh,length_drop->Hi,map_congr_left->Ht,length->Hv,not_mem_nil->Hy,mem_filterMap->HB,find?_eq_none->HC,forall_mem_cons->HJ,filter_eq_self->HN,lookup->HX,all_cons->Ib,take_append_drop->Ig,mem_iff_getElem?->Ih,foldl_append->Il,find?_append->Im,length_filter_lt_length_iff_exists->Io,mem_map_of_mem->IF,length_filterMap_le->IK,of_mem_zip->IP,filter_map->IQ,all_append->IR,pairwise_cons->IW,getElem_cons_drop->Jo,filter_eq_nil_iff->Jp,filter_congr->Jq,drop_of_length_le->Jr,any_map->Js,all_map->Jt,all_eq_false->Ju,getElem_mem->JK,mem_append_left->JO,find?_some->JX,length_pos_iff->J2,forall_mem_nil->J3,map_nil->J7,getElem?_eq_none_iff->Kk,pairwise_map->Ku,length_eq_zero_iff->KU,map_id'->Lc,getElem?_set_self->Ld,find?_cons_of_pos->Le,length_nil->Lk,foldl_cons->Ll,filterMap_append->Lu,pairwise_append->LM,mem_of_getLast?->LN,getElem?_set_ne->LO,getElem_of_mem->L7,getElem?_range->L8,filter_sublist->L9,lookup_append->Mv,contains_cons->Mw,append_assoc->MS,any_eq_false->MT,mem_flatten->Ng,isEmpty_iff->Nh,getElem_map->Ni,filter->Nm,filter_nil->Ny,take_zero->N7,findSome?->N8,find?->N9,filterMap->N_,sum_cons->OU,all_nil->Pr,map_id->Qe,map->RF
open List.Pairwise renaming nil->Kv,map->Kw,filter->Qf
open Nat renaming le_refl->lb,ne_of_lt->Fi,zero_le->FF,lt_of_lt_of_le->FK,le_trans->FM,le_of_lt->FQ,lt_irrefl->G_,succ_le_succ->Hx,sub_self->HI,lt_succ_of_lt->Ik,pow_succ->ID,ne_of_gt->IE,lt_of_le_of_lt->IV,zero_add->Jn,lt_succ_self->JJ,lt_trans->La,div_div_eq_div_mul->Lb,not_lt_zero->Lj,pow_le_pow_right->LK,le_succ->LL,pow_zero->MQ,ble->MR,succ_ne_self->Nb,min_eq_right->Nc,le_add_right->Nd,div_eq_of_lt->Nf,two_pow_pos->Nv,min_eq_left->Nw,mul_comm->Po,le_of_eq->Pp,add_zero->Pq,div_one->Qd
open Ne renaming symm->GP
open Option renaming some->ab,none->A',map_eq_some_iff->FV,bind_eq_some_iff->HU,bind_some->IC,isSome_iff_exists->IJ,map_some->IM,or_eq_some_iff->Jy,getD_some->JI,isSome_map->Kt,rec->K',isSome_some->Mu,getD_none->Na
open Option.some renaming inj->Fe
open Or renaming inl->E8,inr->Ie
open Prod renaming rec->Qc
open Prod.mk renaming injEq->OT
open PyProof renaming noPylong_small->K8
open PyProof.Rows renaming boot_abs->FG,callWith_type1->Gi,boot_tuple->GE,boot_isinstance->GW,envOfC->Ho,boot_list->HM,boot_int->Ic,boot_dict->Jm,boot_any->Jx,IntsAre->Kr,AllBare->Ks,callWith_kw->KE,subscriptTail_builtinR->K9,bitAnd_m1->K_,kws_cons->Ls,kws_nil->LJ,subscriptTail->Mb,boot_range->Mt,join_plain_closes->M_,callWith_builtin1->M',Subscript_->N6,boot_sorted->OS,boot_bool->Pn,boot_min->Py,boot_max->Pz,boot_all->PB
open PySem renaming Addr->f',Value->j',Shared->Bs,mainGlobals->EO,wpAny_bind->EW,FuncData->E6,Program->E9,boot_len->Fj,wpAny_pure->Fm,PyData->Fq,World->Ft,starEach->Fu,model->FE,Heap->FU,mem_of_lookup->F_,Expr->F',cellsFrom->Ge,wpAny_truthy_bool->Gj,Around->Gm,compareOp->Gp,Stmt->Gs,wpAny_Call_Name_kw->Gz,wpAny_tryCatch->GF,wpAny_mono->GX,eval->G0,argBest->Hb,tupleKind_room_in1->He,sysModules->Hf,wpAny_holding->Hj,plainId_quiet->Hk,codeAny_builtin->Hq,backTo->HF,wpAny_passesOwn->HG,wpAny_seqItems->HQ,wpAny_updateSeq->H_,wpAny_pyIter_list->Ii,wpAny_letGo->Ip,sizeLine_eq->Iq,cLine->Ir,Scope->Iv,Arguments->IB,sliceBounds->IZ,relabel->Jc,intItems->Jd,codeAny_mono->Je,call_meetsIn->Jf,bootBuiltins->Jg,binaryOp->Jh,tupleKind->JE,builtinsNs->JF,Thread->JH,behindInMarks->JL,wpAny_execs_nil->JT,letOwnedTupleGo->JU,assignEach->Ka,NameKind->Ke,valueAt->Kl,foldedSetIterable->Km,atKey->Kn,wpAny_comprehension_free->KA,rawInt->KB,pyNext->KC,attributeBase->KD,seqItems?->KN,wpAny_pyNext_range_end->KZ,wpAny_pyIter_rangeiter->K0,holding->K1,call_meets->K2,wpAny_notOrdered_dict->Lo,wpAny_isTrue_Compare1->Lp,subscripted->LA,newFunctionEnv->LB,keywordEach->LC,dictSetDefault->LD,IsRangeIter->LG,swapsWith->LU,seqIndex?->LW,callerA->LX,OsState->L0,kt_meets_setdefault->L4,wpAny_rule->Mf,wpAny_pyIter_range->Mg,wpAny_call->Mh,merged->Mi,getattributeRaised->Mj,denote->Ml,call->Mm,wpAny_pyIter_enum->MC,wpAny_newObj_type->MD,wpAny_assign_Name->ME,wpAny_Call_method->MF,name_of_addr->MG,getItem->MH,Within->MI,BindsTo->MO,wpAny_pyIter_zip->M0,wpAny_execs_cons->M1,updateSeq->M3,getMethod->M4,assign->M5,Result->M8,Params->M9,pushCells_keeps->Nt,wpAny_Name->NR,typeLookup->NS,recursionLimit->NT,pyIter->NU,fitsIndex_both->NV,bindL->NW,bindC->NX,bindArgs->NZ,backToKw->N0,wpAny_standAt->Ot,wpAny_newList->Ou,rangeSize_one->Ov,intBits_le_64->Ow,evalPart_none->Ox,call_list_seq->Oy,treeTable->OY,CmpOp->O1,storedH->Pj,standAt->Pk,Keyword->Pm,numAt->P3,compEnvC->P4,Model->P',GenState->Qa
open PySem.Around renaming under_plainId->GH,frames_deeper->LI,under->MP
open PySem.AutoListH renaming list_insert_list_int_val_1->L6
open PySem.Builtin renaming bitAnd->Hn
open PySem.Builtin.Builtins renaming bindParams->Hu
open PySem.Builtin.Dict renaming updateFrom->KS,pairItems->K7,keyAndDefault->N5,selfAndRest->OQ,addKeywords->OR
open PySem.Builtin.List renaming listTooLong->II,listFitsIndex->N4
open PySem.Builtin.Range renaming rangeSize->KR
open PySem.Calls renaming spliced_cons->HA,evalArgs_plain->Iy,spliced_nil->Jk,callWith_builtin->Jl,Name_function_global->Kf,call_len_list->L5
open PySem.Challenge renaming rw_oathduel_k95_whole_losers_lose->GM,pw_oathduel_k95_whole_losers_lose->GN
open PySem.Code renaming isFrame->MN,frames->Qb
open PySem.Data renaming fields->Nl,cell->O0
open PySem.DictEntry renaming refKey->Rg
open PySem.EqMixed renaming ne_str_bool->Og,ne_bool_str->Oh,eq_str_bool->Oi,eq_bool_str->Oj,ne_str_int->OM,ne_int_str->ON,eq_str_int->OO,eq_int_str->OP
open PySem.EqNone renaming ne_none_none->Oa,ne_none_bool->Ob,ne_bool_none->Oc,eq_none_none->Od,eq_none_bool->Oe,eq_bool_none->Of,ne_str_none->OC,ne_none_str->OE,ne_none_int->OF,ne_int_none->OG,eq_str_none->OH,eq_none_str->OI,eq_none_int->OJ,eq_int_none->OL
open PySem.F renaming plainAttrs_list->Fp,slot_list_append->FB,type_list_append->FC,plain_min_loop->GO,slot_dict_setdefault->GV,args_dict_setdefault_3->Hg,entry_dict_setdefault->Hm,plain_max_loop->Hw,entry_min_loop->Jj,slot_dict_get->Jw,plainAttrs_dict->KO,entry_max_loop->KP,args_dict_get_3->KQ,entry_dict_get->K6,slot_list_insert->Lq,slot_list_extend->Lr,slot_list_pop->Ms
open PySem.Heap renaming get?_push_of_some->EV,lt_size->E4,get?_push_size->Fs,get?_update_other->FT,get?_update_self->HE,size_push->Iw,SameBut->IA,get?_none_of_le->LH,mk->Q3
open PySem.Heap.DictOf renaming new->Nu
open PySem.Heap.IsSliceOf renaming new->QP
open PySem.Heap.SameBut renaming update->J1
open PySem.IsL renaming update->Rf
open PySem.IsRange renaming new->Nk
open PySem.NameKind renaming cell->IH,free->OB
open PySem.Obj renaming data_mapDictKeys->LF,mapSeq->QO
open PySem.PassesOwn renaming never->Fg
open PySem.PyData renaming eqv->GG,canLayAll0->GT,eqvAll->IG,bool->I_,depthAll->JW,int->N3
open PySem.SeqAt renaming shaped->Gk,EqAt->QN
open PySem.SeqAt.EqAt renaming str_int->Mq,int_str->Mr,none_bool->P8,bool_none->P9,bool_bool->P_,str_none->Qk,str_bool->Ql,none_str->Qm,none_int->Qn,int_none->Qo,int_bool->Qp,bool_str->Qq,bool_int->Qr,str_str->QL,int_int->QM,same->Rj
open PySem.Str renaming ofString->ET,join->N2,empty->OZ
open PySem.Txt renaming join->MM
open PySem.Value renaming ref->FY,int->J8,type->Kd,str->LZ,none->Mo,bool->Mp,isInt_shape->ML,float->Nj,isStrOf->OA,isInt->P6,bytes->P7
open PySem.W renaming Frag->gV,keepIn->x',mg_none_of->Cm,codeIn->EU,nsIn->EX,mg_of->EY,fnOf->EZ,findIn->FR,boot_heap->GB,kia_one->GI,emptyDict->GS,SharedT->GU,kitOne->Hl,kla_obj->Hr,instObj->Hs,plainGet->HR,CodeHd->HS,isFn->HZ,hasDictIn->Ij,tabObj->Iu,callWith_K->IT,boot_drawn->IU,plainOver->Ji,boot_toks->JG,OpenLaw->JN,makesIn->JV,plainGet_of->J0,envX->J6,lookIn->Kb,through->Ko,specialIn->Kp,methodObj->Kq,cellsFrom_some->K4,absHeap->K5,takesIn->Lh,takerIn->Li,topStub->LY,mroIn->Ma,stepOk->Mn,kitx_list->MJ,kitx_dict->MK,handedIn->M6,WalkO->M7,stepT->N1,excIn->Oz,topRun->Pl
open PySem.W.Fast renaming tw5923862056798008813->Kc
open PySem.W.Looks renaming here->QK,ld->Re
open PySem.W.WData renaming int->Rc
open PySem.W.WShape renaming has->QJ
open PySem.Walks renaming list->K3,range->P5
open PySem.Within renaming cons->Q2
open Sum renaming inl->FS,inr->LS
open Sum.inl renaming inj->GR
open True renaming intro->Ha
open _root_ renaming List->bc,Option->kb,Bool->ER,decide_eq_true->E2,if_neg->E7,decide_eq_false->E_,if_pos->Fc,of_decide_eq_true->Fv,congrArg->Gg,beq_eq_false_iff_ne->GD,decide_eq_true_iff->Hz,Array->HK,String->HP,decide_eq_decide->Iz,if_true->J5,beq_iff_eq->J',DecidableEq->Kx,or_false->KL,decide_eq_false_iff_not->KM,if_false->Lz,beq_self_eq_true->MZ
namespace L2
open PySem PySem.Spec PyProof.Rows
abbrev aS:=Sum Int Str
def kX:aS->j'->ER
 |.inl k,v=>P6 k v
 |.inr x,v=>OA x v
def DE(w:Ft):aS->Int
 |.inl k=>hashInt k
 |.inr x=>hashStr w x
theorem bC:∀{k:aS} {v:j'},kX k v=kz->(∃i t,k=FS i/\v=J8 i t)\/(∃x t,k=LS x/\v=LZ x t)
 |.inl i,v,h=>by
  obtain⟨t,e⟩:=ML (k:=i) (v:=v) h;exact .inl ⟨i,t,rfl,e⟩
 |.inr x,v,h=>by
  obtain⟨t,e⟩:=Value.isStrOf_shape (x:=x) (v:=v) h;exact .inr ⟨x,t,rfl,e⟩
theorem tz(i:Int)(t:Tok):kX (.inl i) (.int i t)=true:=by simp [kX,P6]
theorem tD(x:Str)(t:Tok):kX (.inr x) (.str x t)=true:=by simp [kX,OA]
theorem AY(a b:Int):decide ((FS a:aS)=FS b)=(a == b):=by
 by_cases e:a=b
 ·subst e;simp
 ·have h:¬(FS a:aS)=FS b:=λq=>e<|GR q;rw[E_ h];exact(GD.mpr e).symm
theorem AZ(a b:Str):decide ((LS a:aS)=LS b)=decide (a=b):=by
 by_cases e:a=b
 ·subst e;simp
 ·have h:¬(LS a:aS)=LS b:=λq=>e<|Sum.inr.inj q;rw[E_ h,E_ e]
theorem A1(a:Int)(b:Str):decide ((FS a:aS)=LS b)=false:=E_ (λq=>nomatch q)
theorem A2(a:Str)(b:Int):decide ((LS a:aS)=FS b)=false:=E_ (λq=>nomatch q)
def aQ(prog:E9)(w:Ft):PySem.KeyKind prog w aS where
 is:=kX
 hash:=DE w
 inj:=λv a b ha hb=>by
  rcases bC ha with⟨i,t,rfl,rfl⟩|⟨x,t,rfl,rfl⟩
  ·rcases bC hb with⟨j,u,rfl,e⟩|⟨y,u,rfl,e⟩
   ·injection e with e1 _;rw[e1]
   ·exact nomatch e
  ·rcases bC hb with⟨j,u,rfl,e⟩|⟨y,u,rfl,e⟩
   ·exact nomatch e
   ·injection e with e1 _;rw[e1]
 byValue:=λk v h=>by
  rcases bC h with⟨i,t,rfl,rfl⟩|⟨x,t,rfl,rfl⟩<;>rfl
 pyHash:=λhv h=>by
  rcases bC hv with⟨i,t,rfl,rfl⟩|⟨x,t,rfl,rfl⟩
  ·exact wpAny_pyHash_int h
  ·exact wpAny_pyHash_str h
 eqBool:=λhu hv h=>by
  rcases bC hu with⟨i,t,rfl,rfl⟩|⟨x,t,rfl,rfl⟩
  ·rcases bC hv with⟨j,u,rfl,rfl⟩|⟨y,u,rfl,rfl⟩
   ·rw[AY]at h;exact wpAny_eqBool_int h
   ·rw[A1]at h;exact Mr i t y u _ _ _ _ h
  ·rcases bC hv with⟨j,u,rfl,rfl⟩|⟨y,u,rfl,rfl⟩
   ·rw[A2]at h;exact Mq x t j u _ _ _ _ h
   ·rw[AZ]at h;exact wpAny_eqBool_str h
 «strs»:=λk x t v h=>by
  rcases bC h with⟨i,u,rfl,e⟩|⟨y,u,rfl,e⟩
  ·exact nomatch e
  ·injection e with e1 _;subst e1;cases v<;>rfl
theorem nI(prog:E9)(w:Ft)(i:Int)(t:Tok):(aQ prog w).is (.inl i) (.int i t)=true:=tz i t
theorem nJ(prog:E9)(w:Ft)(x:Str)(t:Tok):(aQ prog w).is (.inr x) (.str x t)=true:=tD x t
inductive V where
 |non|bl (b:ER)|int (i:Int)|str (x:Str)|byt (b:HK UInt8)|flt (b:UInt64)|ref (a:f')|ty (n:HP)
 deriving Kx
def RelV:V->j'->Prop
 |.non,u=>u=Mo
 |.bl b,u=>u=Mp b
 |.int i,u=>∃t,u=J8 i t
 |.str x,u=>∃t,u=LZ x t
 |.byt b,u=>∃t,u=P7 b t
 |.flt b,u=>∃t,u=Nj b t
 |.ref a,u=>u=FY a
 |.ty n,u=>u=Kd n
abbrev Vals:bc V->bc j'->Prop:=Paired RelV
theorem Vals.length(r:Vals xs us):xs.length=us.length:=Paired.length r
theorem Vals.get:∀{xs:bc V} {us:bc j'} {i:Nat} {x:V},Vals xs us->xs[i]? =ab x->∃u,us[i]? =ab u/\RelV x u
 |_,_,_,_,.nil,e=>by simp at e
 |_,_,0,_,.cons r _,e=>by simp at e;subst e;exact⟨_,rfl,r⟩
 |_,_,i+1,x,.cons _ t,e=>by
  obtain⟨u,h1,h2⟩:=Vals.get (i:=i) (x:=x) t (by simpa using e);exact⟨u,by simpa using h1,h2⟩
theorem Vals.set(r:RelV x u):∀{xs:bc V} {us:bc j'} (i:Nat),Vals xs us->Vals (xs.set i x) (us.set i u)
 |_,_,_,.nil=>.nil
 |_,_,0,.cons _ t=>.cons r t
 |_,_,i+1,.cons q t=>.cons q<|Vals.set r i t
theorem Vals.append:∀{xs ys:bc V} {us ws:bc j'},Vals xs us->Vals ys ws->Vals (xs++ys) (us++ws)
 |_,_,_,_,.nil,s=>s
 |_,_,_,_,.cons r t,s=>.cons r<|Vals.append t s
theorem Vals.take:∀{xs:bc V} {us:bc j'} (n:Nat),Vals xs us->Vals (xs.take n) (us.take n)
 |_,_,0,_=>.nil
 |_,_,_+1,.nil=>.nil
 |_,_,n+1,.cons r t=>.cons r<|Vals.take n t
theorem Vals.drop:∀{xs:bc V} {us:bc j'} (n:Nat),Vals xs us->Vals (xs.drop n) (us.drop n)
 |_,_,0,r=>r
 |_,_,_+1,.nil=>.nil
 |_,_,n+1,.cons _ t=>Vals.drop n t
theorem Vals.none_of:∀{xs:bc V} {us:bc j'} {i:Nat},Vals xs us->xs[i]? =A'->us[i]? =none:=λ{xs us i} r e=>by
 have h1:=r.length;have h2:xs.length<=i:=Kk.mp e;exact Kk.mpr (by lia)
def RelO:kb V->kb j'->Prop
 |some v,ab u=>RelV v u
 |none,A'=>True
 |_,_=>False
def KV{κ:Type}:bc (κ×V)->bc (κ×j')->Prop:=Paired λ(p:κ×V) (q:κ×j')=>p.1=q.1/\RelV p.2 q.2
def kV:aS->V
 |.inl i=>.int i
 |.inr x=>.str x
inductive HO where
 |lst (xs:bc V)
 |tup (xs:bc V)
 |dK (kvs:bc (aS×V))|dT (kvs:bc (bc aS×V))
 |set (S:Int->ER) (n:Nat)
 |ins (C dx:f') (fs:bc (Str×V))
 |own (x:f')
 |xd (fs:bc (Str×V))
 |met (f x:f')
 |rng (lo hi:Int)
 |frz (o:Obj) (u:HO)
 |tbl (ps:HK j')
 |ext (φ:FU->Prop)
abbrev Hp:=f'->kb HO
def upd(H:Hp)(a:f')(o:HO):Hp:=λb=>if b=a then ab o else H b
theorem ad:upd H a o a=ab o:=by unfold upd;rw[Fc rfl]
theorem al(h:b≠a):upd H a o b=H b:=by unfold upd;rw[E7 h]
theorem gS:upd (upd H a o) a u=upd H a u:=by
 funext b;unfold upd;split<;>rfl
theorem qZ{H:Hp}(h:H a=ab o)(h':H b=ab u)(d:o≠u):a≠b:=by
 intro e;subst e;rw[h]at h';exact d<|Fe h'
theorem ak{H:Hp}(h:H a=ab o)(h':H b=A'):a≠b:=by
 intro e;subst e;rw[h]at h';cases h'
section
variable (P:E9)(w:Ft)
def ObjOk(H:Hp)(h:FU)(a:f'):HO->Prop
 |.lst xs=>xs.length<=sizeLine/\∃(Gx:bc j') (n:Nat),Vals xs Gx/\h.get? a=ab {cls:=.type "list",data:=.seq Gx.toArray n}
 |.tup xs=>xs.length<=sizeLine/\∃Gx:bc j',Vals xs Gx/\IsTup h a Gx.toArray
 |.dK kvs=>kvs.length<=sizeLine/\(a == Hf)=B'/\∃vs,KV kvs vs/\h.DictOf (aQ P w) a vs
 |.dT kvs=>kvs.length<=sizeLine/\(a == Hf)=B'/\∃xs:bc (bc aS×f'×j'),
   Paired (λ(p:bc aS×V) (q:bc aS×f'×j')=>p.1=q.1/\H q.2.1=ab (.tup<|p.1.map kV)/\RelV p.2 q.2.2) kvs xs/\
   ∃o es ep,h.get? a=ab o/\o.ExactDict/\o.data=.dict es ep/\es.toList=xs.map (entryOfKey<|JE<|aQ P w)/\(xs.map (·.1)).Nodup
 |.set S n=>h.SetOf (intKind P w) a S n
 |.ins C dx fs=>H dx=ab (.own a)/\fs.length<=1000/\dx≠a/\h.get? a=ab (Hs C dx)/\
   ∃mA,h.Ns1 dx mA/\(∀f,RelO (fs.lookup f)<|mA f)/\MI mA (fs.map (·.1))
 |.own _=>∃o,h.get? a=ab o
 |.xd fs=>∃mA,h.Ns1 a mA/\∀f,RelO (fs.lookup f)<|mA f
 |.rng lo hi=>∃t u v,h.get? a=ab {cls:=.type "range",data:=.fields #[.int lo t,.int hi u,.int 1 v]}
 |.frz o u=>h.get? a=ab o/\ObjOk H h a u
 |.tbl ps=>h.get? a=ab {cls:=.none,data:=.fields ps}
 |.met f x=>h.get? a=ab (Kq (.ref f)<|.ref x)
 |.ext φ=>φ h/\(∃o,h.get? a=ab o)/\∀h1 h2:FU,φ h1->(∀o,h1.get? a=ab o->h2.get? a=ab o)->φ h2
def HOk(H:Hp)(h:FU):Prop:=∀a o,H a=ab o->ObjOk P w H h a o
end
section
variable {P:E9}{w:Ft}{H:Hp}{h:FU}{a:f'}
theorem ObjOk.lt(x:ObjOk P w H h a o):a < h.objs.size:=by
 cases o with
 |lst xs=>obtain⟨_,_,_,_,e⟩:=x;exact E4 e
 |tup xs=>obtain⟨_,_,_,p⟩:=x;exact p.lt
 |dK kvs=>obtain⟨_,_,_,_,o,_,_,e,_⟩:=x;exact E4 e
 |dT kvs=>obtain⟨_,_,_,_,o,_,_,e,_⟩:=x;exact E4 e
 |set S n=>obtain⟨o,_,_,_,e,_⟩:=x;exact E4 e
 |ins C dx fs=>obtain⟨_,_,_,e,_⟩:=x;exact E4 e
 |own y=>obtain⟨_,e⟩:=x;exact E4 e
 |xd fs=>obtain⟨_,⟨_,_,_,e,_⟩,_⟩:=x;exact E4 e
 |rng lo hi=>obtain⟨_,_,_,e⟩:=x;exact E4 e
 |frz ob u=>obtain⟨e,_⟩:=x;exact E4 e
 |tbl ps=>exact E4 (show h.get? a=ab _ from x)
 |met f y=>exact E4 (show h.get? a=ab _ from x)
 |ext φ=>obtain⟨_,⟨_,e⟩,_⟩:=x;exact E4 e
theorem Paired.mapP{α β:Type}{F G:α->β->Prop}:∀{l₁:bc α} {l₂:bc β},Paired F l₁ l₂->(∀a b,F a b->G a b)->Paired G l₁ l₂
 |_,_,.nil,_=>.nil
 |_,_,.cons r t,f=>.cons (f _ _ r)<|Paired.mapP t f
theorem ObjOk.stay(x:ObjOk P w H h a o)(k:∀b u,(b=a\/H b=ab (.own a))->h.get? b=ab u->h'.get? b=ab u)
  (ho:∀b,H b=ab (.own a)->H' b=ab (.own a)) (ht:∀b xs,H b=ab (.tup xs)->H' b=ab (.tup xs)):ObjOk P w H' h' a o:=by
 induction o with
 |lst xs=>obtain⟨z,Gx,n,r,e⟩:=x;exact⟨z,Gx,n,r,k _ _ (.inl rfl) e⟩
 |tup xs=>obtain⟨z,Gx,r,ob,e,c⟩:=x;exact⟨z,Gx,r,ob,k _ _ (.inl rfl) e,c⟩
 |dK kvs=>obtain⟨z,y,vs,r,ob,es,ep,e,c⟩:=x;exact⟨z,y,vs,r,ob,es,ep,k _ _ (.inl rfl) e,c⟩
 |dT kvs=>
  obtain⟨z,y,xs,r,ob,es,ep,e,c⟩:=x;exact⟨z,y,xs,Paired.mapP r λp q z=>⟨z.1,ht _ _ z.2.1,z.2.2⟩,ob,es,ep,k _ _ (.inl rfl) e,c⟩
 |set S n=>obtain⟨ob,es,ep,t,e,c⟩:=x;exact⟨ob,es,ep,t,k _ _ (.inl rfl) e,c⟩
 |ins C dx fs=>
  obtain⟨d,z,ne,e,mA,⟨od,es,ep,e2,c⟩,r⟩:=x;exact⟨ho _ d,z,ne,k _ _ (.inl rfl) e,mA,⟨od,es,ep,k _ _ (.inr d) e2,c⟩,r⟩
 |own y=>obtain⟨ob,e⟩:=x;exact⟨ob,k _ _ (.inl rfl) e⟩
 |xd fs=>obtain⟨mA,⟨od,es,ep,e,c⟩,r⟩:=x;exact⟨mA,⟨od,es,ep,k _ _ (.inl rfl) e,c⟩,r⟩
 |rng lo hi=>obtain⟨t,u,v,e⟩:=x;exact⟨t,u,v,k _ _ (.inl rfl) e⟩
 |frz ob u ih=>obtain⟨e,q⟩:=x;exact⟨k _ _ (.inl rfl) e,ih q⟩
 |tbl ps=>
  have e:h.get? a=ab {cls:=.none,data:=.fields ps}:=x;show h'.get? a=ab {cls:=.none,data:=.fields ps}
  exact k a _ (.inl rfl) e
 |met f y=>
  have e:h.get? a=ab (Kq (.ref f)<|.ref y):=x;show h'.get? a=ab (Kq (.ref f)<|.ref y)
  exact k a _ (.inl rfl) e
 |ext φ=>obtain⟨p,⟨o,e⟩,st⟩:=x;exact⟨st _ _ p λo q=>k _ _ (.inl rfl) q,⟨o,k _ _ (.inl rfl) e⟩,st⟩
theorem HOk.lt(x:HOk P w H h)(e:H a=ab o):a < h.objs.size:=(x a o e).lt
theorem HOk.fresh(x:HOk P w H h)(e:h.objs.size<=a):H a=none:=by
 cases q:H a with
 |none=>rfl
 |some u=>exact absurd (FK (x.lt q) e)<|G_ _
theorem HOk.kept(x:HOk P w H h)(k:∀b u,h.get? b=ab u->h'.get? b=ab u):HOk P w H h':=λa o e=>
 (x a o e).stay (λb u _ q=>k b u q) (λ_ q=>q) λ_ _ q=>q
theorem HOk.laid{h':FU}{o:HO}(x:HOk P w H h)(k:∀b u,h.get? b=ab u->h'.get? b=ab u)(hp:h.objs.size<=a)(new:ObjOk P w (upd H a o) h' a o):HOk P w (upd H a o) h':=λb u e=>by
 have hn:=x.fresh hp;by_cases hb:b=a
 ·subst hb;rw[ad]at e;cases e;exact new
 ·rw[al hb]at e;exact(x b u e).stay (λc v _ q=>k c v q) (λc q=>by rw[al<|ak q hn];exact q) λc xs q=>by rw[al<|ak q hn];exact q
end
def Rd(H:Hp)(a:f')(u:HO):Prop:=H a=ab u\/∃o,H a=ab (.frz o u)
theorem Rd.ok(r:Rd H a u)(x:HOk P w H h):ObjOk P w H h a u:=by
 obtain r|⟨o,r⟩:=r
 ·exact x a u r
 ·obtain⟨_,q⟩:=x a _ r;exact q
def Cc:kb HO->Prop
 |some (.lst _)=>True
 |some (.dK _)=>True
 |some (.dT _)=>True
 |some (.set _ _)=>True
 |some (.ins _ _ _)=>True
 |some (.ext _)=>True
 |_=>False
theorem HOk.write(ok:HOk P w H h)(mu:Cc (H x))(he:e=x\/H e=ab (.own x))(k:∀b u,b≠e->h.get? b=ab u->h'.get? b=ab u)(Tc:∃u,h'.get? e=ab u)
  (new:ObjOk P w (upd H x o') h' x o'):HOk P w (upd H x o') h':=λb u q=>by
 have Tx:∀c y,H c=ab (.own y)->c≠x:=λc y r z=>by subst z;rw[r]at mu;exact mu
 have Ye:∀c xs,H c=ab (.tup xs)->c≠x:=λc xs r z=>by subst z;rw[r]at mu;exact mu
 by_cases hb:b=x
 ·subst hb;rw[ad]at q;cases q;exact new
 ·rw[al hb]at q;by_cases SQ:b=e
  ·have q':H b=ab (.own x):=by
    obtain z|z:=he
    ·exact absurd (SQ.trans z) hb
    ·rw[SQ];exact z
   rw[q]at q';cases q';obtain⟨v,hv⟩:=Tc;exact⟨v,by rw[SQ];exact hv⟩
  ·refine(ok b u q).stay (λc v hc r=>k c v ?_ r) (λc r=>by rw[al<|Tx c b r];exact r) λc xs r=>by rw[al<|Ye c xs r];exact r
   obtain rfl|hc:=hc
   ·exact SQ
   ·rintro rfl;obtain z|z:=he
    ·exact Tx c b hc z
    ·rw[hc]at z;cases z;exact hb rfl
structure Un (fs ex:bc f')(H H':Hp)(h h':FU):Prop where
 keep:∀b o,h.get? b=ab o->H b=A'->b∉fs->b∉ex->h'.get? b=ab o
 slot:∀b o,h.get? b=ab o->H b=A'->b∈fs->b∉ex->∃sl,h'.get? b=ab {o with slots:=sl}
 free:∀b o,h.get? b=ab o->H b=A'->b∉ex->H' b=A'
 there:∀b o,h.get? b=ab o->b∉ex->∃o',h'.get? b=ab o'
 tups:∀b xs,H b=ab (.tup xs)->H' b=ab (.tup xs)
 frzs:∀b o u,H b=ab (.frz o u)->H' b=ab (.frz o u)
 tbls:∀b ps,H b=ab (.tbl ps)->∃more,H' b=ab (.tbl<|ps++more)
theorem Un.any(u:Un fs ex H H1 h h1)(q:h.get? b=ab ob)(n:H b=A')(hx:b∉ex):∃sl,h1.get? b=ab {ob with slots:=sl}:=by
 by_cases hb:b∈fs
 ·exact u.slot b ob q n hb hx
 ·exact⟨ob.slots,u.keep b ob q n hb hx⟩
theorem Un.kept(k:∀b u,h.get? b=ab u->h'.get? b=ab u):Un fs ex H H h h':=
 ⟨λb ob q _ _ _=>k b ob q,λb ob q _ _ _=>⟨ob.slots,k b ob q⟩,λ_ _ _ n _=>n,λb ob q _=>⟨ob,k b ob q⟩,λ_ _ q=>q,λ_ _ _ q=>q,λ_ ps q=>⟨#[],by rw[q];simp⟩⟩
theorem Un.refl:Un fs ex H H h h:=Un.kept λ_ _ q=>q
theorem Un.laid(k:∀b u,h.get? b=ab u->h'.get? b=ab u)(hp:h.objs.size<=a)(hn:H a=A'):Un fs ex H (upd H a o) h h' where
 keep:=λb u q _ _ _=>k b u q
 slot:=λb u q _ _ _=>⟨u.slots,k b u q⟩
 free:=λb u q n _=>by rw[al<|Fi<|FK (E4 q) hp];exact n
 there:=λb u q _=>⟨u,k b u q⟩
 tups:=λb xs q=>by rw[al<|ak q hn];exact q
 frzs:=λb u xs q=>by rw[al<|ak q hn];exact q
 tbls:=λb ps q=>⟨#[],by rw[al<|ak q hn,q];simp⟩
theorem Un.write(mu:Cc (H x))(he:e=x\/H e=ab (.own x))(k:∀b u,b≠e->h.get? b=ab u->h'.get? b=ab u)(Tc:∃u,h'.get? e=ab u):Un fs ex H (upd H x o) h h':=by
 have hx:∀b,H b=A'->b≠x:=λb n z=>by subst z;rw[n]at mu;exact mu
 have hb:∀b,H b=A'->b≠e:=λb n z=>by
  subst z;obtain r|r:=he
  ·exact hx b n r
  ·rw[n]at r;cases r
 have hm:∀b u,H b=ab u->¬Cc (ab u)->b≠x:=λb u q nm z=>by subst z;rw[q]at mu;exact nm mu
 refine⟨λb u q n _ _=>k b u (hb b n) q,λb u q n _ _=>⟨u.slots,k b u (hb b n) q⟩,λb u q n _=>by rw[al<|hx b n];exact n,λb u q _=>?_,
  λb xs q=>by rw[al<|hm b _ q λz=>z];exact q,λb u xs q=>by rw[al<|hm b _ q λz=>z];exact q,λb ps q=>⟨#[],by rw[al<|hm b _ q λz=>z,q];simp⟩⟩
 by_cases SQ:b=e
 ·subst SQ;exact Tc
 ·exact⟨u,k b u SQ q⟩
def Dt(h:FU)(H:Hp):bc f':=(Fy h.objs.size).filter λa=>(H a).isSome
def kM(h:FU)(H:Hp):FU:=PySem.W.hideAll h<|Dt h H
theorem tE(h:FU)(H:Hp):(kM h H).objs.size=h.objs.size:=PySem.W.hideAll_size _ _
theorem u3(e:h.get? b=ab o)(n:H b=A'):(kM h H).get? b=ab o:=
 PySem.W.hideAll_get _ e λhm=>by
  have q:(H b).isSome=true:=(Gf.mp hm).2;rw[n]at q;simp at q
theorem yh(e:(kM h H).get? b=ab o):h.get? b=ab o/\H b=none:=by
 have e':h.get? b=ab o:=PySem.W.of_hideAll (Dt h H) e;exists e';cases q:H b with
 |none=>rfl
 |some x=>
  have hm:b∈Dt h H:=Gf.mpr ⟨FZ.mpr<|E4 e',by simp [q]⟩;have z:(kM h H).get? b=none:=PySem.W.hideAll_none (Dt h H) hm;rw[z]at e;cases e
structure Mod (K:gV)(mg:Str->kb j')(base:FU):Prop where
 kin:K.In base
 glob:base.Ns EO mg
 blt:∃mb,base.Ns JF mb/\∀x:Str,x≠"__name__"->mb x=Jg x
 nolimit:base.NoLimit
structure Cx where
 prog:E9
 w:Ft
 K:gV
 mg:Str->kb j'
 base:FU
 A:Gm
 N:bc Str
 s₀:Bs
 H₀:Hp
 env:Env
 outer:bc Env
 stack:bc Env
 ex:bc f'
 fn:Str->ER
 calm:ER
 pn:bc (f'×Obj)
 xe:j'->Bs->Prop
def pQ(l:bc Env):bc f':=l.filterMap (·.frame)
abbrev Cx.fs(X:Cx):bc f':=pQ X.outer
def Cd(sc:Iv)(x:Str):Prop:=sc.names.lookup x=ab .local\/sc.names.lookup x=ab .cell\/sc.names.lookup x=ab .free
def Du(sc:Iv)(x:Str):Prop:=sc.names.lookup x=ab .local\/sc.names.lookup x=ab .cell
def DF(env:Env)(h:FU)(m:Str->kb j')(x:Str)(u:j'):Prop:=
 (env.kindOf x=ab .local/\m x=ab u)\/((env.kindOf x=ab .cell\/env.kindOf x=ab .free)/\∃c,env.cells.lookup x=ab c/\h.IsCell c (ab u))
structure Cx.Ok (X:Cx):Prop where
 mod:Mod X.K X.mg X.base
 kind:X.env.scope.kind=.function
 glob:X.env.globals=EO
 blt:X.env.builtins=JF
 above:X.s₀.heap.objs.size<=X.env.locals
 inj:∀x y c,X.env.cells.lookup x=ab c->X.env.cells.lookup y=ab c->x=y
 has:∀x,(X.env.kindOf x=ab .cell\/X.env.kindOf x=ab .free)->∃c,X.env.cells.lookup x=ab c
 cab:∀x c,X.fn x=kz->X.env.cells.lookup x=ab c->X.s₀.heap.objs.size<=c
 hd:X.calm=kz->X.A.handled=A'
 frames:X.A.frames=ab X.stack
 stk:X.stack=X.outer\/(X.stack=X.env::X.outer/\X.env.frame=ab X.env.locals)
 exf:∀b∈X.ex,b≠X.env.locals/\∀x c,X.env.cells.lookup x=ab c->c≠b
 bs:∀b o,X.base.get? b=ab o->X.s₀.heap.get? b=ab o/\X.H₀ b=A'
 bsz:X.base.objs.size<=X.s₀.heap.objs.size
 noex:∀b o,X.base.get? b=ab o->b∉X.ex
 exfs:∀b∈X.ex,b∉X.fs
 funs:X.s₀.heap.FunFrames X.base X.outer
 frf:∀b∈X.fs,X.H₀ b=A'
structure Inv (X:Cx)(kS:bc (f'×Obj))(σ:bc (kb V))(H:Hp)(s:Bs):Prop where
 ok:X.Ok
 os:s.os=X.s₀.os
 bare:Ks s.gens
 base:Un X.fs X.ex X.H₀ H X.s₀.heap s.heap
 loc:∃m,s.heap.Ns X.env.locals m/\∀(i:Nat) (x:Str) (v:V),X.N[i]? =ab x->σ[i]? =ab (ab v)->Cd X.env.scope x->∃u,RelV v u/\DF X.env s.heap m x u
 cell:∀x c,X.env.cells.lookup x=ab c->∃v,s.heap.IsCell c v
 free:H X.env.locals=A'
 freeC:∀x c,X.env.cells.lookup x=ab c->H c=A'
 pin:∀p∈X.pn++kS,s.heap.get? p.1=ab p.2/\H p.1=A'/\p.1≠X.env.locals/\p.1∉X.fs/\∀v,p.2.data≠.cell v
 hok:HOk X.prog X.w H s.heap
 len:σ.length=X.N.length
theorem Cx.Ok.nofr{X:Cx}(ok:X.Ok)(e:X.base.get? b=ab o):b∉X.fs:=λhb=>by
 have:=(ok.funs.mem hb).1;rw[e]at this;cases this
theorem Inv.bs(I:Inv X kS σ H s):∀b o,X.base.get? b=ab o->s.heap.get? b=ab o/\H b=none:=λb o e=>
 ⟨I.base.keep b o (I.ok.bs b o e).1 (I.ok.bs b o e).2 (I.ok.nofr e)<|I.ok.noex b o e,I.base.free b o (I.ok.bs b o e).1 (I.ok.bs b o e).2<|I.ok.noex b o e⟩
theorem Inv.bk(I:Inv X kS σ H s):∀b o,X.base.get? b=ab o->s.heap.get? b=ab o:=λb o e=>(I.bs b o e).1
theorem Inv.mod(I:Inv X kS σ H s):Mod X.K X.mg X.base:=I.ok.mod
theorem Inv.kIn(I:Inv X kS σ H s):X.K.In s.heap:=I.ok.mod.kin.keeps I.bk
theorem Inv.lt(I:Inv X kS σ H s):X.env.locals < s.heap.objs.size:=let ⟨_,hn,_⟩:=I.loc;hn.lt
theorem Inv.sz(I:Inv X kS σ H s):X.s₀.heap.objs.size<=s.heap.objs.size:=FM I.ok.above<|FQ I.lt
theorem Inv.nofs(I:Inv X kS σ H s){a:f'}(h:s.heap.objs.size<=a):a∉X.fs:=λhb=>by
 obtain⟨_,o,ho,_⟩:=I.ok.funs.mem hb;exact absurd (FK (E4 ho)<|FM I.sz h)<|G_ _
theorem Inv.cne(I:Inv X kS σ H s):∀x c,X.env.cells.lookup x=ab c->c≠X.env.locals:=λx c e z=>by
 obtain⟨v,o,ho,hd⟩:=I.cell x c e;obtain⟨m,⟨o',es,ep,QW,RL,_⟩,_⟩:=I.loc;rw[z,QW]at ho;cases ho;rw[RL]at hd;cases hd
theorem Inv.funs(I:Inv X kS σ H s):s.heap.FunFrames X.base X.outer:=by
 have all:∀l,(∀b∈pQ l,b∈X.fs)->X.s₀.heap.FunFrames X.base l->s.heap.FunFrames X.base l:=by
  intro l
  induction l with
  |nil=>intro _ _;trivial
  |cons env r ih=>
   intro hs hl;obtain⟨hk,⟨L,o,hf,hn,ho,hd⟩,hr⟩:=hl;have hL:L∈X.fs:=hs L (by unfold pQ;rw[GQ,hf];exact Fz);obtain⟨sl,e⟩:=I.base.slot L o ho (I.ok.frf L hL) hL λz=>I.ok.exfs L z hL;exact⟨hk,⟨L,_,hf,hn,e,hd⟩,ih (λb hb=>hs b<|by unfold pQ;rw[GQ,hf];exact Fx _ hb) hr⟩
 exact all X.outer (λ_ hb=>hb) I.ok.funs
theorem Inv.stack(I:Inv X kS σ H s):s.heap.FunFrames X.base X.stack:=by
 obtain e|⟨e,hf⟩:=I.ok.stk
 ·rw[e];exact I.funs
 ·rw[e];obtain⟨m,hn,_⟩:=I.loc;refine .cons (by rw[I.ok.kind];decide) hf hn ?_ I.funs;exact LH<|FM I.ok.bsz I.ok.above
theorem Inv.stkSub(I:Inv X kS σ H s):∀b∈pQ X.stack,b∈X.env.locals::X.fs:=λb hb=>by
 obtain e|⟨e,hf⟩:=I.ok.stk
 ·rw[e]at hb;exact Fx _ hb
 ·rw[e]at hb;unfold pQ at hb;rw[GQ,hf]at hb;exact hb
theorem Inv.stkFree(I:Inv X kS σ H s):∀b∈pQ X.stack,H b=none:=λb hb=>by
 obtain e|hb:=Fl.mp (I.stkSub b hb)
 ·rw[e];exact I.free
 ·obtain⟨_,o,ho,_⟩:=I.ok.funs.mem hb;exact I.base.free b o ho (I.ok.frf b hb) λz=>I.ok.exfs b z hb
theorem Inv.step{g':HK Qa}{t':Nat}{d':Drawn}{ch:bc f'}(I:Inv X kS σ H s)
  (On:∀b∈ch,(b∈X.ex\/X.s₀.heap.objs.size<=b)/\b≠X.env.locals/\(∀x c,X.env.cells.lookup x=ab c->c≠b)/\∀p∈X.pn++kS,p.1≠b)
  (keep:∀b o,b≠X.env.locals->b∉X.fs->b∉ch->s.heap.get? b=ab o->H b=A'->h'.get? b=ab o)
  (slot:∀b o,b≠X.env.locals->b∈X.fs->b∉ch->s.heap.get? b=ab o->H b=A'->∃sl,h'.get? b=ab {o with slots:=sl}) (free:∀b o,b∉ch->s.heap.get? b=ab o->H b=A'->H' b=A')
  (there:∀b o,b∉ch->s.heap.get? b=ab o->∃o',h'.get? b=ab o')
  (tups:∀b xs,H b=ab (.tup xs)->H' b=ab (.tup xs)) (frzs:∀b o u,H b=ab (.frz o u)->H' b=ab (.frz o u)) (tbls:∀b ps,H b=ab (.tbl ps)->∃more,H' b=ab (.tbl<|ps++more))
  (ns:∀m,s.heap.Ns X.env.locals m->h'.Ns X.env.locals m) (hok:HOk X.prog X.w H' h') (hg:Ks g'):
  Inv X kS σ H' {s with heap:=h',gens:=g',drawn:=d',toks:=t'}:=by
 have ZC:∀b o,X.s₀.heap.get? b=ab o->b≠X.env.locals:=λb o e=>Fi<|FK (E4 e) I.ok.above;have QT:∀b o,X.s₀.heap.get? b=ab o->b∉X.ex->b∉ch:=λb o e hx hb=>by
  obtain z|z:=(On b hb).1
  ·exact hx z
  ·exact absurd (FK (E4 e) z)<|G_ _
 have So:∀x c,X.env.cells.lookup x=ab c->∀v,s.heap.IsCell c v->h'.IsCell c v:=λx c e v ⟨o,ho,hd⟩=>by
  have TJ:c∉ch:=λz=>(On c z).2.2.1 x c e rfl;by_cases hc:c∈X.fs
  ·obtain⟨sl,q⟩:=slot c o (I.cne x c e) hc TJ ho<|I.freeC x c e;exact⟨_,q,hd⟩
  ·exact⟨o,keep c o (I.cne x c e) hc TJ ho<|I.freeC x c e,hd⟩
 refine⟨I.ok,I.os,hg,⟨λb o e n hb hx=>?_,λb o e n hb hx=>?_,λb o e n hx=>?_,λb o e hx=>?_,λb xs e=>tups b xs<|I.base.tups b xs e,λb o xs e=>frzs b o xs<|I.base.frzs b o xs e,λb ps e=>?_⟩,?_,λx c e=>?_,?_,λx c e=>?_,λp hp=>?_,hok,I.len⟩
 ·exact keep b o (ZC b o e) hb (QT b o e hx) (I.base.keep b o e n hb hx)<|I.base.free b o e n hx
 ·obtain⟨sl,e1⟩:=I.base.slot b o e n hb hx;obtain⟨sl',e2⟩:=slot b _ (ZC b o e) hb (QT b o e hx) e1<|I.base.free b o e n hx;exact⟨sl',e2⟩
 ·obtain⟨o',e1⟩:=I.base.there b o e hx;exact free b o' (QT b o e hx) e1<|I.base.free b o e n hx
 ·obtain⟨o',e1⟩:=I.base.there b o e hx;exact there b o' (QT b o e hx) e1
 ·obtain⟨m1,e1⟩:=I.base.tbls b ps e;obtain⟨m2,e2⟩:=tbls b _ e1;exact⟨m1++m2,by rw[e2,Array.append_assoc]⟩
 ·obtain⟨m,hn,hl⟩:=I.loc;refine⟨m,ns m hn,λi x v e1 e2 e3=>?_⟩;obtain⟨u,r,l⟩:=hl i x v e1 e2 e3;exists u,r;obtain l|⟨k,c,e,z⟩:=l
  ·exact .inl l
  ·exact .inr ⟨k,c,e,So x c e _ z⟩
 ·obtain⟨v,z⟩:=I.cell x c e;exact⟨v,So x c e v z⟩
 ·obtain⟨m,⟨o,_,_,ho,_⟩,_⟩:=I.loc;exact free _ o (λz=>(On _ z).2.1 rfl) ho I.free
 ·obtain⟨v,o,ho,hd⟩:=I.cell x c e;exact free c o (λz=>(On c z).2.2.1 x c e rfl) ho<|I.freeC x c e
 ·obtain⟨e,n,ne,nf,d⟩:=I.pin p hp;have TJ:p.1∉ch:=λz=>(On p.1 z).2.2.2 p hp rfl;exact⟨keep p.1 p.2 ne nf TJ e n,free p.1 p.2 TJ e n,ne,nf,d⟩
theorem Inv.un(I:Inv X kS σ H s)(u:Un X.fs [] H H' s.heap h')(hok:HOk X.prog X.w H' h'):Inv X kS σ H' {s with heap:=h',toks:=t'}:=by
 obtain⟨m,⟨o,es,ep,ho,r⟩,_⟩:=id I.loc;obtain⟨sl,hL⟩:=u.any ho I.free (by simp);exact I.step (g':=s.gens) (d':=s.drawn) (ch:=[]) (λ_ z=>nomatch z) (λb o _ hb _ e n=>u.keep b o e n hb<|by simp) (λb o _ hb _ e n=>u.slot b o e n hb<|by simp) (λb o _ e n=>u.free b o e n<|by simp) (λb o _ e=>u.there b o e<|by simp) u.tups u.frzs u.tbls (λm' hm=>by
  obtain⟨o',R3,Uy,QW,r'⟩:=hm;rw[ho]at QW;cases QW;exact⟨_,R3,Uy,hL,r'⟩) hok I.bare
theorem Inv.call{t':Nat}{d':Drawn}(I:Inv X kS σ H s)(u:Un (pQ X.stack) ch H H' s.heap h')(hok:HOk X.prog X.w H' h')(hg:Ks g')
  (On:∀b∈ch,(b∈X.ex\/X.s₀.heap.objs.size<=b)/\b≠X.env.locals/\(∀x c,X.env.cells.lookup x=ab c->c≠b)/\∀p∈X.pn++kS,p.1≠b):
  Inv X kS σ H' {s with heap:=h',gens:=g',drawn:=d',toks:=t'}:=by
 obtain⟨m,⟨o,es,ep,ho,r⟩,_⟩:=id I.loc;obtain⟨sl,hL⟩:=u.any ho I.free λz=>(On _ z).2.1 rfl;exact I.step (ch:=ch) On (λb o hL hb hc e n=>u.keep b o e n (λz=>(Fl.mp<|I.stkSub b z).elim hL hb) hc) (λb o _ _ hc e n=>u.any e n hc) (λb o hc e n=>u.free b o e n hc) (λb o hc e=>u.there b o e hc) u.tups u.frzs u.tbls (λm' hm=>by
  obtain⟨o',R3,Uy,QW,r'⟩:=hm;rw[ho]at QW;cases QW;exact⟨_,R3,Uy,hL,r'⟩) hok hg
theorem Inv.turned{t':Nat}(I:Inv X kS σ H s)(k:∀b o,b≠it->s.heap.get? b=ab o->h'.get? b=ab o)(hn:H it=A')(hL:it≠X.env.locals)
  (h1:it∈X.ex\/X.s₀.heap.objs.size<=it) (h2:∀x c,X.env.cells.lookup x=ab c->c≠it) (h3:∀p∈X.pn++kS,p.1≠it):Inv X kS σ H {s with heap:=h',toks:=t'}:=by
 have ZA:∀b u,H b=ab u->b≠it:=λb u e z=>by rw[z,hn]at e;cases e
 refine I.step (g':=s.gens) (d':=s.drawn) (ch:=[it]) (λb hb=>?_) (λb o _ _ hc e _=>k b o (λz=>hc<|by simp [z]) e) (λb o _ _ hc e _=>⟨o.slots,k b o (λz=>hc<|by simp [z]) e⟩) (λ_ _ _ _ n=>n)
  (λb o hc e=>⟨o,k b o (λz=>hc<|by simp [z]) e⟩) (λ_ _ e=>e) (λ_ _ _ e=>e) (λb ps e=>⟨#[],by rw[e];simp⟩) (λm hm=>?_) (λb u e=>?_) I.bare
 ·have e:b=it:=by simpa using hb
  subst e;exact⟨h1,hL,h2,h3⟩
 ·obtain⟨o,es,ep,ho,r⟩:=hm;exact⟨o,es,ep,k _ o (GP hL) ho,r⟩
 ·refine(I.hok b u e).stay (λc v hc q=>k c v ?_ q) (λ_ q=>q) λ_ _ q=>q;obtain z|z:=hc
  ·rw[z];exact ZA b u e
  ·exact ZA c _ z
theorem Inv.tok(I:Inv X kS σ H s)(t:Nat):Inv X kS σ H {s with toks:=t}:=I.un (h':=s.heap) (t':=t) Un.refl I.hok
theorem Inv.kept(I:Inv X kS σ H s)(k:∀b u,s.heap.get? b=ab u->h'.get? b=ab u):Inv X kS σ H {s with heap:=h',toks:=t'}:=I.un (Un.kept k)<|I.hok.kept k
theorem Inv.laid{a:f'}{o:HO}{t':Nat}(I:Inv X kS σ H s)(k:∀b u,s.heap.get? b=ab u->h'.get? b=ab u)(hp:s.heap.objs.size<=a)(new:ObjOk X.prog X.w (upd H a o) h' a o):
  Inv X kS σ (upd H a o) {s with heap:=h',toks:=t'}:=I.un (Un.laid k hp<|I.hok.fresh hp)<|I.hok.laid k hp new
theorem Inv.write{o:HO}{t':Nat}(I:Inv X kS σ H s)(mu:Cc (H x))(he:e=x\/H e=ab (.own x))(k:∀b u,b≠e->s.heap.get? b=ab u->h'.get? b=ab u)(Tc:∃u,h'.get? e=ab u)
  (new:ObjOk X.prog X.w (upd H x o) h' x o):Inv X kS σ (upd H x o) {s with heap:=h',toks:=t'}:=I.un (Un.write mu he k Tc)<|I.hok.write mu he k Tc new
theorem Inv.pins_of(I:Inv X kS σ H s)(h:∀p∈R8,s.heap.get? p.1=ab p.2/\H p.1=A'/\p.1≠X.env.locals/\p.1∉X.fs/\∀v,p.2.data≠.cell v):Inv X R8 σ H s:=
 ⟨I.ok,I.os,I.bare,I.base,I.loc,I.cell,I.free,I.freeC,λp hp=>(FN.mp hp).elim (λz=>I.pin p<|JO _ z)<|h p,I.hok,I.len⟩
theorem nK{N:bc Str}(hN:N.Nodup){i j:Nat}{x:Str}(a:N[i]? =ab x) (b:N[j]? =ab x):i=j:=by
 obtain⟨h1,e1⟩:=ES.mp a;obtain⟨h2,e2⟩:=ES.mp b;exact(List.getElem_inj hN).mp<|e1.trans e2.symm
theorem kY{M:P'}{A:Gm}{E:j'->Bs->Prop}{Q:Unit->Bs->Prop}(I:Inv X kS σ H s)(hN:X.N.Nodup)(hi:X.N[i]? =ab x)(hx:Du X.env.scope x)(r:RelV v u)
  (h:∀s',Inv X kS (σ.set i<|ab v) H s'->(∃a,IA a s.heap s'.heap/\(a=X.env.locals\/X.env.cells.lookup x=ab a))->Q () s') (hf:X.fn x=kz\/X.env.scope.names.lookup x=ab .local:=by first|exact .inl rfl|exact .inr rfl|assumption):wpAny M A (storeName X.env x u) Q E s:=by
 obtain⟨m,hn,hl⟩:=id I.loc;have Y9:(X.env.scope.kind == .class || (X.env.scope.kind == .module&&X.env.locals != X.env.globals))=false:=by rw[I.ok.kind];rfl
 have hiσ:i < σ.length:=by rw[I.len];exact(ES.mp hi).1
 have cne:=I.cne;have QR:∀{a:f'} {h':FU},(∃o,s.heap.get? a=ab o/\H a=A')->IA a s.heap h'->HOk X.prog X.w H h':=λ{a h'} ha hs b ob e=>by
  obtain⟨_,_,Sg⟩:=ha;refine(I.hok b ob e).stay (λc w' hc q=>(hs.2 c ?_).trans q) (λ_ q=>q) λ_ _ q=>q;rintro rfl;obtain rfl|hc:=hc
  ·rw[Sg]at e;cases e
  ·rw[Sg]at hc;cases hc
 obtain hk|hk:=hx
 ·refine wpAny_storeName_local hk hn (λh' hn' hs=>?_) Y9;obtain⟨oL,_,_,T6,_⟩:=id hn;refine h _ ⟨I.ok,I.os,I.bare,⟨λb o e n hb hx=>?_,λb o e n hb hx=>?_,I.base.free,λb o e hx=>?_,I.base.tups,I.base.frzs,I.base.tbls⟩,⟨_,hn',λj y v' e1 e2 e3=>?_⟩,λy c e=>?_,I.free,I.freeC,λp hp=>?_,QR ⟨oL,T6,I.free⟩ hs,by simpa using I.len⟩ ⟨_,hs,.inl rfl⟩
  ·exact(hs.2 b<|Fi<|FK (E4 e) I.ok.above).trans<|I.base.keep b o e n hb hx
  ·obtain⟨sl,e1⟩:=I.base.slot b o e n hb hx;exact⟨sl,(hs.2 b<|Fi<|FK (E4 e) I.ok.above).trans e1⟩
  ·obtain⟨o',e1⟩:=I.base.there b o e hx;exact⟨o',(hs.2 b<|Fi<|FK (E4 e) I.ok.above).trans e1⟩
  ·by_cases hj:j=i
   ·subst hj;rw[hi]at e1;cases e1;rw[Ld hiσ]at e2;cases e2;exact⟨u,r,.inl ⟨hk,by simp⟩⟩
   ·rw[LO<|GP hj]at e2;obtain⟨u',r',q⟩:=hl j y v' e1 e2 e3;exists u',r';obtain⟨k,e⟩|⟨k,c,e,z⟩:=q
    ·refine .inl ⟨k,?_⟩;have:y≠x:=λe=>hj<|nK hN e1<|e▸hi;simp [this,e]
    ·exact .inr ⟨k,c,e,z.sameBut hs<|cne y c e⟩
  ·obtain⟨w',z⟩:=I.cell y c e;exact⟨w',z.sameBut hs<|cne y c e⟩
  ·obtain⟨e,n,ne,nf,d⟩:=I.pin p hp;exact⟨(hs.2 p.1 ne).trans e,n,ne,nf,d⟩
 ·have RW:X.fn x=true:=by
   obtain z|z:=hf
   ·exact z
   ·rw[z]at hk;cases hk
  obtain⟨c,hc⟩:=I.ok.has x<|.inl hk;obtain⟨w',z⟩:=I.cell x c hc;refine wpAny_storeName_cell I.ok.kind hk hc z λh' Mz hs=>?_;obtain⟨oc,U3,YO⟩:=id z;refine h {s with heap:=h'} ⟨I.ok,I.os,I.bare,⟨λb o e n hb hx=>?_,λb o e n hb hx=>?_,I.base.free,λb o e hx=>?_,I.base.tups,I.base.frzs,I.base.tbls⟩,⟨m,hn.sameBut hs<|GP<|cne x c hc,λj y v' e1 e2 e3=>?_⟩,λy c' e=>?_,I.free,I.freeC,λp hp=>?_,QR ⟨oc,U3,I.freeC x c hc⟩ hs,by simpa using I.len⟩ ⟨c,hs,.inr hc⟩
  ·exact(hs.2 b<|Fi<|FK (E4 e)<|I.ok.cab x c RW hc).trans<|I.base.keep b o e n hb hx
  ·obtain⟨sl,e1⟩:=I.base.slot b o e n hb hx;exact⟨sl,(hs.2 b<|Fi<|FK (E4 e)<|I.ok.cab x c RW hc).trans e1⟩
  ·obtain⟨o',e1⟩:=I.base.there b o e hx;exact⟨o',(hs.2 b<|Fi<|FK (E4 e)<|I.ok.cab x c RW hc).trans e1⟩
  ·by_cases hj:j=i
   ·subst hj;rw[hi]at e1;cases e1;rw[Ld hiσ]at e2;cases e2;exact⟨u,r,.inr ⟨.inl hk,c,hc,Mz⟩⟩
   ·rw[LO<|GP hj]at e2;obtain⟨u',r',q⟩:=hl j y v' e1 e2 e3;exists u',r';obtain q|⟨k,c',e,z'⟩:=q
    ·exact .inl q
    ·refine .inr ⟨k,c',e,z'.sameBut hs ?_⟩;rintro rfl;exact hj<|nK hN e1<|I.ok.inj _ _ _ e hc▸hi
  ·by_cases Z9:c'=c
   ·subst Z9;exact⟨_,Mz⟩
   ·obtain⟨w2,z2⟩:=I.cell y c' e;exact⟨w2,z2.sameBut hs Z9⟩
  ·obtain⟨e,n,ne,nf,d⟩:=I.pin p hp;refine⟨(hs.2 p.1 ?_).trans e,n,ne,nf,d⟩;intro q;rw[q,U3]at e;have q':oc=p.2:=Fe e;exact d w' (by rw[<-q'];exact YO)
theorem nL{M:P'}{A:Gm}{E:j'->Bs->Prop}{Q:Unit->Bs->Prop}(I:Inv X kS σ H s)(hN:X.N.Nodup)(hi:X.N[i]? =ab x)(hx:Du X.env.scope x)(r:RelV v u)
  (h:∀s',Inv X kS (σ.set i<|ab v) H s'->Q () s') (hf:X.fn x=kz\/X.env.scope.names.lookup x=ab .local:=by first|exact .inl rfl|exact .inr rfl|assumption):wpAny M A (storeName X.env x u) Q E s:=
 kY I hN hi hx r (λs' I' _=>h s' I') hf
theorem Inv.call'(I:Inv X kS σ H s)(ho:s'.os=s.os)(u:Un (pQ X.stack) ch H H' s.heap s'.heap)(hok:HOk X.prog X.w H' s'.heap)(hg:Ks s'.gens)
  (On:∀b∈ch,(b∈X.ex\/X.s₀.heap.objs.size<=b)/\b≠X.env.locals/\(∀x c,X.env.cells.lookup x=ab c->c≠b)/\∀p∈X.pn++kS,p.1≠b):Inv X kS σ H' s':=by
 obtain⟨h',g',d',t',o'⟩:=s';have e:o'=s.os:=ho;subst e;exact I.call (g':=g') (t':=t') (d':=d') u hok hg On
abbrev XK:=j'->kb f'->Hp->Prop
abbrev St:=bc<|kb V
abbrev VK:=V->Hp->Prop
abbrev TE:=St->Hp->VK->Prop
abbrev TT:=St->Hp->(ER->Hp->Prop)->Prop
abbrev TA:=St->Hp->(bc V->Hp->Prop)->Prop
structure iu where
 nx:St->Hp->Prop
 rt:VK
 bk:St->Hp->Prop:=λ_ _=>False
 ct:St->Hp->Prop:=λ_ _=>False
abbrev TS:=iu->St->Hp->Prop
def EP(X:Cx)(kS:bc (f'×Obj))(σ:St)(Q:VK)(u:j')(s':Bs):Prop:=∃v H',Inv X kS σ H' s'/\RelV v u/\Q v H'
def TP(X:Cx)(kS:bc (f'×Obj))(σ:St)(Q:ER->Hp->Prop)(b:ER)(s':Bs):Prop:=∃H',Inv X kS σ H' s'/\Q b H'
def AP(X:Cx)(kS:bc (f'×Obj))(σ:St)(Q:bc V->Hp->Prop)(us:bc j')(s':Bs):Prop:=∃vs H',Inv X kS σ H' s'/\Vals vs us/\Q vs H'
def SP(X:Cx)(kS:bc (f'×Obj))(D:iu)(f:Flow)(s':Bs):Prop:=
 match f with
 |.next=>∃σ' H',Inv X kS σ' H' s'/\D.nx σ' H'
 |.brk=>∃σ' H',Inv X kS σ' H' s'/\D.bk σ' H'
 |.cont=>∃σ' H',Inv X kS σ' H' s'/\D.ct σ' H'
 |.ret u=>∃v σ' H',Inv X kS σ' H' s'/\RelV v u/\D.rt v H'
def PE(X:Cx)(e:F')(t:TE):Prop:=
 ∀(kS:bc (f'×Obj)) (s:Bs) (σ:St) (H:Hp) (Q:VK),Inv X kS σ H s->t σ H Q->wpAny (FE X.prog X.w) X.A (G0 e X.env) (EP X kS σ Q) X.xe s
def PT(X:Cx)(e:F')(t:TT):Prop:=
 ∀(kS:bc (f'×Obj)) (s:Bs) (σ:St) (H:Hp) (Q:ER->Hp->Prop),Inv X kS σ H s->t σ H Q->wpAny (FE X.prog X.w) X.A (isTrue e X.env<|G0 e X.env) (TP X kS σ Q) X.xe s
def PW(X:Cx)(e:F')(t:TT):Prop:=
 ∀(NB:Sem j') (kS:bc (f'×Obj)) (s:Bs) (σ:St) (H:Hp) (Q:ER->Hp->Prop),Inv X kS σ H s->t σ H Q->wpAny (FE X.prog X.w) X.A (isTrue e X.env NB) (TP X kS σ Q) X.xe s
theorem PW.pt(h:PW X e t):PT X e t:=h _
def PA(X:Cx)(es:bc F')(t:TA):Prop:=
 ∀(pos:Pos) (kS:bc (f'×Obj)) (s:Bs) (σ:St) (H:Hp) (Q:bc V->Hp->Prop),Inv X kS σ H s->t σ H Q->wpAny (FE X.prog X.w) X.A (spliced<|HF pos<|Fu es X.env) (AP X kS σ Q) X.xe s
def PS(X:Cx)(st:Gs)(t:TS):Prop:=
 ∀(kS:bc (f'×Obj)) (s:Bs) (σ:St) (H:Hp) (D:iu),Inv X kS σ H s->t D σ H->wpAny (FE X.prog X.w) X.A (exec st X.env) (SP X kS D) X.xe s
def PSs(X:Cx)(st:bc Gs)(t:TS):Prop:=
 ∀(kS:bc (f'×Obj)) (s:Bs) (σ:St) (H:Hp) (D:iu),Inv X kS σ H s->t D σ H->wpAny (FE X.prog X.w) X.A (execs st X.env) (SP X kS D) X.xe s
theorem bp{α:Type}{t:Sem α}{Q Q':α->Bs->Prop}{M:P'}{A:Gm}{E:j'->Bs->Prop}{s:Bs}(h:wpAny M A t Q E s)(hQ:∀a s,Q a s->Q' a s):wpAny M A t Q' E s:=GX h hQ λ_ _ x=>x
inductive zL (i:Nat)(σ:St)(H:Hp)(Q:VK):Prop
 |mk (v:V)(h:σ[i]? =ab (ab v)) (q:Q v H):zL i σ H Q
def Ce(i:Nat):TE:=λσ H Q=>zL i σ H Q
def tC(v:V):TE:=λ_ H Q=>Q v H
theorem u4{X:Cx}{i:Nat}{x:Str}{pos:Pos}(hN:X.N[i]? =ab x) (hv:Cd X.env.scope x) (hd:(x == ("__debug__":Str))=false:=by decide) (O6:(x == ("__classdict__":Str))=false:=by decide):PE X (.Name x pos) (Ce i):=by
 intro kS s σ H Q I h;obtain⟨v,e,h⟩:=h;obtain⟨m,hn,hl⟩:=I.loc;obtain⟨u,r,l⟩:=hl i x v hN e hv;have Mx:EP X kS σ Q u s:=⟨v,H,I,r,h⟩;obtain⟨hk,hm⟩|⟨hk,c,hc,QZ⟩:=l
 ·exact NR (wpAny_loadName_local I.ok.kind hk hn hm Mx) hd
 ·obtain hk|hk:=hk
  ·exact NR (wpAny_loadName_cell I.ok.kind hk hc QZ Mx) hd
  ·exact NR (wpAny_loadName_free I.ok.kind hk hc QZ Mx O6) hd
theorem aj{i j pos}:PE X (.Constant (.int i) j pos) (tC<|.int i):=λ_ _ _ H _ I h=>wpAny_Constant_int ⟨.int i,H,I.tok _,⟨_,rfl⟩,h⟩
theorem bK{b j pos}:PE X (.Constant (.bool b) j pos) (tC<|.bl b):=λ_ _ _ H _ I h=>Constant_bool ⟨.bl b,H,I,rfl,h⟩
theorem bw{j pos}:PE X (.Constant .none j pos) (tC .non):=λ_ _ _ H _ I h=>Constant_none ⟨.non,H,I,rfl,h⟩
theorem bA{x j pos}:PE X (.Constant (.str x) j pos) (tC<|.str x):=λ_ _ _ H _ I h=>Calls.Constant_str ⟨.str x,H,I.tok _,⟨_,rfl⟩,h⟩
def Gl(X:Cx)(x:Str):Prop:=X.env.kindOf x=ab .globalImplicit
theorem jx{E:j'->Bs->Prop}{pos:Pos}(I:Inv X kS σ H s)(hg:Gl X x)(hm:X.mg x=ab u)(h:Q u s)
  (hd:(x == ("__debug__":Str))=false:=by decide):wpAny (FE X.prog X.w) X.A (G0 (.Name x pos) X.env) Q E s:=
 Kf I.ok.kind hg (Calls.loadGlobal_global (by rw[I.ok.glob];exact I.mod.glob.keeps I.bk) hm h) hd
theorem cW{E:j'->Bs->Prop}{pos:Pos}(I:Inv X kS σ H s)(hg:Gl X x)(hm:X.mg x=A')(hv:Jg x=ab u)(h:Q u s)
  (hn:x≠"__name__":=by decide) (hd:(x == ("__debug__":Str))=false:=by decide):wpAny (FE X.prog X.w) X.A (G0 (.Name x pos) X.env) Q E s:=by
 obtain⟨mb,h1,h2⟩:=I.mod.blt;exact Kf I.ok.kind hg (Calls.loadGlobal_builtin (by rw[I.ok.glob];exact I.mod.glob.keeps I.bk) hm (by rw[I.ok.blt];exact h1.keeps I.bk) ((h2 x hn).trans hv) h) hd
theorem yi(hg:Gl X x)(hm:X.mg x=ab u)(r:RelV v u)(hd:(x == ("__debug__":Str))=false:=by decide):PE X (.Name x pos) (tC v):=
 λ_ _ _ H _ I h=>jx I hg hm ⟨v,H,I,r,h⟩ hd
theorem jy{x:Str}{v:V}{u:j'}{pos:Pos}(hg:Gl X x)(hm:X.mg x=A')(hv:Jg x=ab u)(r:RelV v u)(hn:x≠"__name__":=by decide)(hd:(x == ("__debug__":Str))=false:=by decide):PE X (.Name x pos) (tC v):=
 λ_ _ _ H _ I h=>cW I hg hm hv ⟨v,H,I,r,h⟩ hn hd
def PC(X:Cx)(op:O1)(a b:F')(t:TE):Prop:=
 ∀(kS:bc (f'×Obj)) (s:Bs) (σ:St) (H:Hp) (Q:VK),Inv X kS σ H s->t σ H Q->
  wpAny (FE X.prog X.w) X.A (G0 a X.env) (λv s₁=>wpAny (FE X.prog X.w) X.A (G0 b X.env) (λu s₂=>wpAny (FE X.prog X.w) X.A (Gp op v u) (EP X kS σ Q) X.xe s₂) X.xe s₁) X.xe s
inductive A3 (x:V)(Q:ER->Hp->Prop)(H:Hp):Prop
 |mk (c:ER)(h:x=.bl c)(q:Q c H):A3 x Q H
def tB(t:TE):TT:=λσ H Q=>t σ H λx H1=>A3 x Q H1
theorem jD(h:PC X op a b t)(h1:JL op b=false:=by first|exact nobehind _ (by decide) (by decide)|rfl):PT X (.Compare a [op] [b] pos) (tB t):=by
 intro kS s σ H Q I hw;refine Lp (bp (h kS s σ H _ I hw) λv s1 h1=>bp h1 λu s2 h2=>bp h2 λc s3 ⟨x,H1,I1,r1,q1⟩=>?_) h1;obtain⟨d,rfl,q⟩:=q1;cases r1;exact Gj ⟨H1,I1,q⟩
theorem aP(h:PE X e t)(he:∀NB,isTrue e X.env NB=(do let v <-NB;Pk e.pos;K1 [v] (truthy v)):=by intro _;rfl):PT X e (tB t):=by
 intro kS s σ H Q I hw;refine isTrue_plain (bp (h kS s σ H _ I hw) λv s1 ⟨x,H1,I1,r1,q1⟩=>?_)<|he _;obtain⟨d,rfl,q⟩:=q1;cases r1;exact Gj ⟨H1,I1,q⟩
def DG(t u:TT):TT:=λσ H Q=>t σ H λc H1=>if c=kz then u σ H1 Q else Q B' H1
def EG(t u:TT):TT:=λσ H Q=>t σ H λc H1=>if c=kz then Q kz H1 else u σ H1 Q
def DH(t:TT):TT:=λσ H Q=>t σ H λc H1=>Q (!c) H1
theorem du(ha:PT X a tA):PW X (.BoolOp .And [a] pos) tA:=by
 intro wh kS s σ H Q I h;refine isTrue_and<|bp (ha kS s σ H Q I h) λc s1 e=>?_;cases c with
 |true=>exact isTrue_and_nil e
 |false=>exact e
theorem fD(ha:PT X a tA):PW X (.BoolOp .Or [a] pos) tA:=by
 intro wh kS s σ H Q I h;refine isTrue_or<|bp (ha kS s σ H Q I h) λc s1 e=>?_;cases c with
 |false=>exact isTrue_or_nil e
 |true=>exact e
theorem fb(ha:PT X a tA)(hb:PW X (.BoolOp .And (b::IS) pos) UJ):PW X (.BoolOp .And (a::b::IS) pos) (DG tA UJ):=by
 intro wh kS s σ H Q I h;refine isTrue_and<|bp (ha kS s σ H _ I h) λc s1 ⟨H1,I1,q1⟩=>?_;cases c with
 |true=>exact hb wh kS s1 σ H1 Q I1 q1
 |false=>exact⟨H1,I1,q1⟩
theorem gz(ha:PT X a tA)(hb:PW X (.BoolOp .Or (b::IS) pos) UJ):PW X (.BoolOp .Or (a::b::IS) pos) (EG tA UJ):=by
 intro wh kS s σ H Q I h;refine isTrue_or<|bp (ha kS s σ H _ I h) λc s1 ⟨H1,I1,q1⟩=>?_;cases c with
 |true=>exact⟨H1,I1,q1⟩
 |false=>exact hb wh kS s1 σ H1 Q I1 q1
theorem bO(ha:PT X a tA):PT X (.UnaryOp .Not a pos) (DH tA):=by
 intro kS s σ H Q I h;exact isTrue_not<|ha kS s σ H (λc H1=>Q (!c) H1) I h
def Cf(ta tb:TE):TE:=λσ H Q=>ta σ H λx H1=>∃c,x=.bl c/\if c=kz then tb σ H1 Q else Q (.bl B') H1
def DI(ta tb:TE):TE:=λσ H Q=>ta σ H λx H1=>∃c,x=.bl c/\if c=kz then Q (.bl kz) H1 else tb σ H1 Q
def Cg(ta:TE):TE:=λσ H Q=>ta σ H λx H1=>∃c,x=.bl c/\Q (.bl (!c)) H1
theorem iw{op}(h:PE X a t):PE X (.BoolOp op [a] pos) t:=λkS s σ H Q I hw=>BoolOp_one<|h kS s σ H Q I hw
theorem iy(ha:PE X a ta)(hb:PE X (.BoolOp .And (b::IS) pos) tb):PE X (.BoolOp .And (a::b::IS) pos) (Cf ta tb):=by
 intro kS s σ H Q I h;refine BoolOp_and<|bp (ha kS s σ H _ I h) λv s1 ⟨x,H1,I1,r1,q1⟩=>?_;obtain⟨c,rfl,q1⟩:=q1;cases r1;refine Gj ?_;cases c with
 |true=>exact hb kS s1 σ H1 Q I1 q1
 |false=>exact⟨.bl B',H1,I1,rfl,q1⟩
theorem Ch(ha:PE X a ta)(hb:PE X (.BoolOp .Or (b::IS) pos) tb):PE X (.BoolOp .Or (a::b::IS) pos) (DI ta tb):=by
 intro kS s σ H Q I h;refine BoolOp_or<|bp (ha kS s σ H _ I h) λv s1 ⟨x,H1,I1,r1,q1⟩=>?_;obtain⟨c,rfl,q1⟩:=q1;cases r1;refine Gj ?_;cases c with
 |false=>exact hb kS s1 σ H1 Q I1 q1
 |true=>exact⟨.bl kz,H1,I1,rfl,q1⟩
theorem A4(ha:PE X a ta):PE X (.UnaryOp .Not a pos) (Cg ta):=by
 intro kS s σ H Q I h;refine UnaryOp_<|bp (ha kS s σ H _ I h) λv s1 ⟨x,H1,I1,r1,q1⟩=>?_;obtain⟨c,rfl,q1⟩:=q1;cases r1;exact not_of<|Gj ⟨.bl (!c),H1,I1,rfl,q1⟩
def EH(t:TT)(ta tb:TE):TE:=λσ H Q=>t σ H λc H1=>if c=kz then ta σ H1 Q else tb σ H1 Q
theorem fE(hc:PT X c tA)(ha:PE X a ta)(hb:PE X b tb):PE X (.IfExp c a b pos) (EH tA ta tb):=by
 intro kS s σ H Q I h;refine wpAny_IfExp<|bp (hc kS s σ H _ I h) λd s1 ⟨H1,I1,q1⟩=>?_;cases d with
 |true=>exact ha kS s1 σ H1 Q I1 q1
 |false=>exact hb kS s1 σ H1 Q I1 q1
def SqL(K:gV)(H:Hp)(a:f')(xs:bc V):Prop:=
 Rd H a (.lst xs)\/
  ∃(o:Obj) (Gx:HK j') (n:Nat),K.lookup a=ab o/\o.cls=.type "list"/\o.dict=A'/\o.data=.seq Gx n/\Gx.size<=sizeLine/\Vals xs Gx.toList
def SqT(K:gV)(H:Hp)(a:f')(xs:bc V):Prop:=
 Rd H a (.tup xs)\/
  ∃(o:Obj) (Gx:HK j') (n:Nat),K.lookup a=ab o/\o.cls=.type "tuple"/\o.data=.seq Gx n/\Gx.size<=sizeLine/\Vals xs Gx.toList
def DJ:j'->kb V
 |.none=>ab .non
 |.bool b=>ab<|.bl b
 |.int i _=>ab<|.int i
 |.str x _=>ab<|.str x
 |.bytes b _=>ab<|.byt b
 |.float b _=>ab<|.flt b
 |.ref a=>ab<|.ref a
 |.type n=>ab<|.ty n
 |_=>A'
theorem RelV.abs(r:RelV x u):DJ u=ab x:=by
 cases x with
 |non=>cases r;rfl
 |bl _=>cases r;rfl
 |int _=>obtain⟨t,rfl⟩:=r;rfl
 |str _=>obtain⟨t,rfl⟩:=r;rfl
 |byt _=>obtain⟨t,rfl⟩:=r;rfl
 |flt _=>obtain⟨t,rfl⟩:=r;rfl
 |ref _=>cases r;rfl
 |ty _=>cases r;rfl
theorem RelV.inj(r:RelV x u)(q:RelV y u):x=y:=Fe<|r.abs.symm.trans q.abs
theorem Vals.inj:∀{xs ys:bc V} {us:bc j'},Vals xs us->Vals ys us->xs=ys
 |_,_,_,.nil,.nil=>rfl
 |_,_,_,.cons r t,.cons r' t'=>by rw[r.inj r',Vals.inj t t']
theorem SqL.of{K:gV}(h:H a=ab (.lst xs)):SqL K H a xs:=.inl<|.inl h
theorem SqT.of{K:gV}(h:H a=ab (.tup xs)):SqT K H a xs:=.inl<|.inl h
theorem Inv.list(I:Inv X kS σ H s)(h:SqL X.K H a xs):∃Gx,Vals xs Gx/\PlainL s.heap a Gx.toArray/\xs.length<=sizeLine:=by
 obtain h|⟨o,Gx,n,hk,hc,hd,hs,hz,r⟩:=h
 ·obtain⟨z,Gx,n,r,e⟩:=h.ok I.hok;exact⟨Gx,r,⟨_,n,e,rfl,rfl,rfl⟩,z⟩
 ·exists Gx.toList,r,⟨o,n,I.kIn a o hk,hc,hd,by simpa using hs⟩;have e:=r.length;simp only [Gh]at e;lia
theorem Inv.tuple(I:Inv X kS σ H s)(h:SqT X.K H a xs):∃Gx,Vals xs Gx/\IsTup s.heap a Gx.toArray/\xs.length<=sizeLine:=by
 obtain h|⟨o,Gx,n,hk,hc,hs,hz,r⟩:=h
 ·obtain⟨z,Gx,r,p⟩:=h.ok I.hok;exact⟨Gx,r,p,z⟩
 ·exists Gx.toList,r,⟨o,I.kIn a o hk,hc,n,by simpa using hs⟩;have e:=r.length;simp only [Gh]at e;lia
theorem Inv.list_inj(I:Inv X kS σ H s)(h:SqL X.K H a xs)(h':SqL X.K H a ys):xs=ys:=by
 obtain⟨Gx,r,⟨o,n,e,_,_,d⟩,_⟩:=I.list h;obtain⟨its',r',⟨o',n',e',_,_,d'⟩,_⟩:=I.list h';rw[e]at e';cases e';rw[d]at d';injection d' with d1 _;have:Gx=its':=by simpa using Gg MV d1
 subst this;exact r.inj r'
theorem Inv.tuple_inj(I:Inv X kS σ H s)(h:SqT X.K H a xs)(h':SqT X.K H a ys):xs=ys:=by
 obtain⟨Gx,r,⟨o,e,_,n,d⟩,_⟩:=I.tuple h;obtain⟨its',r',⟨o',e',_,n',d'⟩,_⟩:=I.tuple h';rw[e]at e';cases e';rw[d]at d';injection d' with d1 _;have:Gx=its':=by simpa using Gg MV d1
 subst this;exact r.inj r'
abbrev Cx.wish(X:Cx)(E:j'->Bs->Prop):Cx:={X with xe:=E}
abbrev Cx.nox(X:Cx):Cx:=X.wish λ_ _=>False
theorem Cx.Ok.wish{X:Cx}(ok:X.Ok)(E:j'->Bs->Prop):(X.wish E).Ok:=
 ⟨ok.mod,ok.kind,ok.glob,ok.blt,ok.above,ok.inj,ok.has,ok.cab,ok.hd,ok.frames,ok.stk,ok.exf,ok.bs,ok.bsz,ok.noex,ok.exfs,ok.funs,ok.frf⟩
theorem Cx.Ok.unwish{X:Cx}{E:j'->Bs->Prop}(ok:(X.wish E).Ok):X.Ok:=
 ⟨ok.mod,ok.kind,ok.glob,ok.blt,ok.above,ok.inj,ok.has,ok.cab,ok.hd,ok.frames,ok.stk,ok.exf,ok.bs,ok.bsz,ok.noex,ok.exfs,ok.funs,ok.frf⟩
theorem Inv.wish(I:Inv X kS σ H s)(E:j'->Bs->Prop):Inv (X.wish E) kS σ H s:=⟨I.ok.wish E,I.os,I.bare,I.base,I.loc,I.cell,I.free,I.freeC,I.pin,I.hok,I.len⟩
theorem Inv.unwish(I:Inv (X.wish E) kS σ H s):Inv X kS σ H s:=⟨I.ok.unwish,I.os,I.bare,I.base,I.loc,I.cell,I.free,I.freeC,I.pin,I.hok,I.len⟩
theorem SP.unwish(h:SP (X.wish E) kS D f s'):SP X kS D f s':=by
 cases f with
 |next=>obtain⟨σ',H',I,q⟩:=h;exact⟨σ',H',I.unwish,q⟩
 |brk=>obtain⟨σ',H',I,q⟩:=h;exact⟨σ',H',I.unwish,q⟩
 |cont=>obtain⟨σ',H',I,q⟩:=h;exact⟨σ',H',I.unwish,q⟩
 |ret u=>obtain⟨v,σ',H',I,r,q⟩:=h;exact⟨v,σ',H',I.unwish,r,q⟩
theorem PSs.nox{st:bc Gs}(h:PSs X.nox st t):PSs X st t:=λkS s σ H D I hw=>
 GX (h kS s σ H D (I.wish _) hw) (λ_ _ q=>q.unwish) λ_ _ z=>Gn z
section
variable {st:Gs}
def zM:TS:=λD σ H=>D.nx σ H
def u5(t u:TS):TS:=λD σ H=>t {D with nx:=u D} σ H
theorem az:PSs X [] zM:=λ_ _ σ H _ I h=>JT ⟨σ,H,I,h⟩
theorem af(h1:PS X st t)(h2:PSs X IS u):PSs X (st::IS) (u5 t u):=by
 intro kS s σ H D I h;refine M1<|bp (h1 kS s σ H {D with nx:=u D} I h) λf s1 q=>?_;cases f with
 |next=>
  obtain⟨σ',H',I',q⟩:=q;exact h2 kS s1 σ' H' D I' q
 |ret v=>exact q
 |brk=>exact q
 |cont=>exact q
theorem ai(h1:PS X st t):PSs X [st] t:=by
 intro kS s σ H D I h;refine M1<|bp (h1 kS s σ H D I h) λf s1 q=>?_;cases f with
 |next=>exact JT q
 |ret v=>exact q
 |brk=>exact q
 |cont=>exact q
theorem Inv.quiet(I:Inv X kS σ H s):interactive X.env=false:=by simp [interactive,I.ok.kind]
def zN(te:TE):TS:=λD σ H=>te σ H λ_ H1=>D.nx σ H1
theorem bG(he:PE X e te)(hs:LU e A' pos.line X.env=pure false:=by rfl):PS X (.Expr e pos) (zN te):=by
 intro kS s σ H D I h;exact wpAny_Expr_any (bp (he kS s σ H _ I h) λv s1 ⟨x,H1,I1,r1,q1⟩=>⟨σ,H1,I1,q1⟩) I.quiet hs
def DK(te:TE):TS:=λD σ H=>te σ H D.rt
theorem am(he:PE X e te):PS X (.Return (ab e) pos) (DK te):=by
 intro kS s σ H D I h;exact wpAny_Return_some<|bp (he kS s σ H _ I h) λv s1 ⟨x,H1,I1,r1,q1⟩=>⟨x,σ,H1,I1,r1,q1⟩
def DL(c:TT)(t u:TS):TS:=λD σ H=>c σ H λb H1=>if b=kz then t D σ H1 else u D σ H1
theorem aJ(hc:PT X c tc)(ha:PSs X a t)(hb:PSs X b u):PS X (.If c a b pos) (DL tc t u):=by
 intro kS s σ H D I h;refine wpAny_If<|bp (hc kS s σ H _ I h) λd s1 ⟨H1,I1,q1⟩=>?_;cases d with
 |true=>exact ha kS s1 σ H1 D I1 q1
 |false=>exact hb kS s1 σ H1 D I1 q1
def A5:TS:=λ_ _ _=>False
theorem gT:PS X st A5:=λ_ _ _ _ _ _ h=>h.elim
end
abbrev TG:=V->St->Hp->(St->Hp->Prop)->Prop
abbrev A6:=bc V->St->Hp->(St->Hp->Prop)->Prop
def PG(X:Cx)(HY:F')(t:TG):Prop:=
 ∀(kS:bc (f'×Obj)) (s:Bs) (σ:St) (H:Hp) (v:V) (u:j') (Q:St->Hp->Prop),Inv X kS σ H s->RelV v u->t v σ H Q->
  wpAny (FE X.prog X.w) X.A (M5 HY X.env u) (λ_ s'=>∃σ' H',Inv X kS σ' H' s'/\Q σ' H') X.xe s
def Dv(X:Cx)(ts:bc F')(t:A6):Prop:=
 ∀(kS:bc (f'×Obj)) (s:Bs) (σ:St) (H:Hp) (vs:bc V) (us:bc j') (Q:St->Hp->Prop),Inv X kS σ H s->Vals vs us->t vs σ H Q->
  wpAny (FE X.prog X.w) X.A (assignInOrder ((Ka ts X.env).map (·.2)) us) (λ_ s'=>∃σ' H',Inv X kS σ' H' s'/\Q σ' H') X.xe s
section
variable {X:Cx}{pos:Pos}
def jk(i:Nat):TG:=λv σ H Q=>Q (σ.set i<|ab v) H
theorem ap(hN:X.N.Nodup)(hi:X.N[i]? =ab x)(hx:Du X.env.scope x)(hf:X.fn x=kz\/X.env.scope.names.lookup x=ab .local:=by first|exact .inl rfl|exact .inr rfl|assumption):PG X (.Name x pos) (jk i):=by
 intro kS s σ H v u Q I r h;exact ME<|nL I hN hi hx r (λs' I'=>⟨_,H,I',h⟩) hf
def DM:A6:=λvs σ H Q=>vs=[]/\Q σ H
def Ci(t:TG)(u:A6):A6:=λvs σ H Q=>∃v r,vs=v::r/\t v σ H λσ' H'=>u r σ' H' Q
theorem dh:Dv X [] DM:=by
 intro kS s σ H vs us Q I r h;obtain⟨e,h⟩:=h;subst e;cases r;exact assignInOrder_nil ⟨σ,H,I,h⟩
theorem aW(h1:PG X e t)(h2:Dv X es u)
  (hs:(Ka (e::es) X.env).map (·.2)=M5 e X.env::(Ka es X.env).map (·.2):=by rfl):Dv X (e::es) (Ci t u):=by
 intro kS s σ H vs us Q I r h;obtain⟨v,vr,e1,h⟩:=h;subst e1;cases r with
 |cons r rr=>
  rw[hs];refine assignInOrder_cons<|bp (h1 kS s σ H _ _ _ I r h) λ_ s1 ⟨σ1,H1,I1,q1⟩=>?_;exact h2 kS s1 σ1 H1 _ _ Q I1 rr q1
def DN(K:gV)(n:Nat)(t:A6):TG:=λv σ H Q=>∃a xs,v=.ref a/\SqT K H a xs/\xs.length=n/\t xs σ H Q
theorem eF{k:Nat}{n:Nat}(hc:X.calm=kz)(h:Dv X es t)
  (hn:(Ka es X.env).length=n:=by rfl) (OV:(Ka es X.env).findIdx? (·.1)=none:=by rfl):PG X (.Tuple es k pos) (DN X.K n t):=by
 intro kS s σ H v u Q I r hw;obtain⟨a,xs,e1,hq,hl,hw⟩:=hw;subst e1;cases r;obtain⟨Gx,rv,ht,hz⟩:=I.tuple hq;refine assign_Tuple_tuple (I.ok.hd hc) ht (by simp [hn,<-hl,rv.length]) OV λh' hx=>?_;have I1:Inv X kS σ H {s with heap:=h'}:=I.kept (t':=s.toks) λb o e=>hx b o (Fi<|E4 e) e;exact h kS _ σ H xs _ Q I1 (by simpa using rv) hw
def Cj(te:TE)(g:TG):TS:=λD σ H=>te σ H λx H1=>g x σ H1 D.nx
theorem A7(he:PE X e te)(hg:PG X tg g)(hs:swapsWithSole [tg] e pos.line X.env=pure false:=by rfl)(hw:swappedStores [tg] e X.env=pure none:=by rfl)
  (h1:(Ka [tg] X.env).map (·.2)=[M5 tg X.env]:=by rfl):PS X (.Assign [tg] e pos) (Cj te g):=by
 intro kS s σ H D I h;refine wpAny_Assign_stores (bp (he kS s σ H _ I h) λv s1 ⟨x,H1,I1,r1,q1⟩=>?_) hs hw;rw[h1];exact bp (hg kS s1 σ H1 x v _ I1 r1 q1) λ_ s2 q=>q
theorem aB(hN:X.N.Nodup)(hi:X.N[i]? =ab x)(hx:Du X.env.scope x)(he:PE X e te)(hs:LU e (ab<|.Name x My) pos.line X.env=pure false:=by rfl)(hf:X.fn x=kz\/X.env.scope.names.lookup x=ab .local:=by first|exact .inl rfl|exact .inr rfl|assumption):
  PS X (.Assign [.Name x My] e pos) (Cj te<|jk i):=by
 intro kS s σ H D I h;refine wpAny_Assign_Name (bp (he kS s σ H _ I h) λv s1 ⟨y,H1,I1,r1,q1⟩=>?_) hs;exact nL I1 hN hi hx r1 (λs2 I2=>⟨_,H1,I2,q1⟩) hf
end
def A8(c:TT)(tb:TS):TS:=λD σ H=>∃W:Nat->St->Hp->Prop,(∃m,W m σ H)/\∀m σ H,W m σ H->
 c σ H λb H1=>if b=kz then∃N:St->Hp->Prop,(∀σ' H',N σ' H'->∃m',m' < m/\W m' σ' H')/\tb {D with nx:=N,ct:=N,bk:=D.nx} σ H1 else D.nx σ H1
theorem u6(hp:PassesOwn (FE X.prog X.w) X.A X.env X.xe)(hc:PT X c tc)(hb:PSs X body tb):PS X (.While c body [] pos) (A8 tc tb):=by
 intro kS s σ H D I h;obtain⟨W,⟨m0,w0⟩,Qs⟩:=h;refine wpAny_While<|codeAny_whileLoop (λn s'=>∃σ' H',Inv X kS σ' H' s'/\W n σ' H') ?_ m0 ⟨σ,H,I,w0⟩;rintro n s1 ⟨σ1,H1,I1,w1⟩;refine HG hp<|bp (hc kS s1 σ1 H1 _ I1<|Qs n σ1 H1 w1) λb s2 ⟨H2,I2,q2⟩=>?_;cases b with
 |true=>
  obtain⟨N,hN,q2⟩:=q2;rw[Fc rfl];refine HG hp<|bp (hb kS s2 σ1 H2 _ I2 q2) λf s3 q3=>?_;cases f with
  |next=>
   obtain⟨σ3,H3,I3,n3⟩:=q3;obtain⟨m',hm,w3⟩:=hN σ3 H3 n3;exact⟨m',hm,σ3,H3,I3,w3⟩
  |cont=>
   obtain⟨σ3,H3,I3,n3⟩:=q3;obtain⟨m',hm,w3⟩:=hN σ3 H3 n3;exact⟨m',hm,σ3,H3,I3,w3⟩
  |brk=>exact q3
  |ret v=>exact q3
 |false=>
  rw[E7 i'];exact JT ⟨σ1,H2,I2,q2⟩
structure It where
 go:Nat->Hp->Prop
 yld:Nat->Hp->V->Hp->Prop
 stop:Nat->Hp->Prop
def kN(X:Cx)(kS:bc (f'×Obj))(H:Hp)(b:f'):Prop:=
 H b=A'/\b≠X.env.locals/\b∉X.fs/\(b∈X.ex\/X.s₀.heap.objs.size<=b)/\(∀x c,X.env.cells.lookup x=ab c->c≠b)/\∀p∈X.pn++kS,p.1≠b
theorem Inv.fpOk{X:Cx}{kS:bc (f'×Obj)}{σ:St}{H H':Hp}{s:Bs}{b:f'}(I:Inv X kS σ H s)(hb:s.heap.objs.size<=b)(hn:H' b=A'):kN X kS H' b:=by
 refine⟨hn,IE<|FK I.lt hb,I.nofs hb,.inr<|FM I.sz hb,λx c e z=>?_,λp hp z=>?_⟩
 ·obtain⟨v,q⟩:=I.cell x c e;exact absurd (FK q.lt<|by rw[z];exact hb)<|G_ _
 ·exact absurd (FK (E4 (I.pin p hp).1)<|by rw[z];exact hb)<|G_ _
structure nM (P:E9)(w:Ft)(K:gV)(tg:F')(J:It)(fp:bc f')(it:f')(tn:Nat->FU->Prop):Prop where
 mem:it∈fp
 obj:∀i h,tn i h->∀b∈fp,∃o,h.get? b=ab o/\∀v,o.data≠.cell v
 keep:∀i h h',tn i h->(∀b∈fp,∀o,h.get? b=ab o->h'.get? b=ab o)->tn i h'
 item:∀(X:Cx),X.prog=P->X.w=w->X.K=K->X.calm=kz->∀(i:Nat) (kS:bc (f'×Obj)) (s:Bs) (σ:St) (H:Hp) (E:j'->Bs->Prop),Inv X kS σ H s->(∀b∈fp,kN X kS H b)->tn i s.heap->J.go i H->
  wpAny (FE P w) X.A (KC<|.ref it) (λr s1=>∃u,r=ab u/\
   wpAny (FE P w) X.A (JU tg (.ref it) u) (λ_ s2=>∃x H',Inv X kS σ H' s2/\RelV x u/\J.yld i H x H'/\tn (i+1) s2.heap/\∀b∈fp,H' b=A') E s1) E s
 done:∀(X:Cx),X.prog=P->X.w=w->X.K=K->X.calm=kz->∀(i:Nat) (kS:bc (f'×Obj)) (s:Bs) (σ:St) (H:Hp) (E:j'->Bs->Prop),Inv X kS σ H s->(∀b∈fp,kN X kS H b)->tn i s.heap->J.stop i H->
  wpAny (FE P w) X.A (KC<|.ref it) (λr s1=>r=A'/\Inv X kS σ H s1) E s
 self:∀(A:Gm) (i:Nat) (s:Bs) (Q:j'->Bs->Prop) (E:j'->Bs->Prop),tn i s.heap->Q (.ref it) s->wpAny (FE P w) A (NU<|.ref it) Q E s
abbrev TI:=St->Hp->(It->Hp->Prop)->Prop
def DO(X:Cx)(kS:bc (f'×Obj))(σ:St)(tg:F')(R:It->Hp->Prop)(Yx:j')(s2:Bs):Prop:=
 ∃(it:f') (fp:bc f') (tn:Nat->FU->Prop) (J:It) (H':Hp),Yx=.ref it/\Inv X kS σ H' s2/\nM X.prog X.w X.K tg J fp it tn/\tn 0 s2.heap/\(∀b∈fp,kN X kS H' b)/\R J H'
def PI(X:Cx)(tg Ki:F')(wi:TI):Prop:=
 ∀(kS:bc (f'×Obj)) (s:Bs) (σ:St) (H:Hp) (R:It->Hp->Prop),Inv X kS σ H s->wi σ H R->
  wpAny (FE X.prog X.w) X.A (G0 Ki X.env) (λv s1=>wpAny (FE X.prog X.w) X.A (NU v) (DO X kS σ tg R) X.xe s1) X.xe s
theorem nN{M:P'}{A:Gm}{E:j'->Bs->Prop}{tg:F'}{u:j'}{Q:Unit->Bs->Prop}(ho:s.heap.get? it=ab o)(hc:o.cls=.type n)(hd:o.data=.fields vs)
  (hn:["enumerate","zip","dict_itemiterator","dict_reverseitemiterator","odict_iterator","itertools.zip_longest","itertools.pairwise"].contains n=B') (hQ:Q () s):wpAny M A (JU tg (.ref it) u) Q E s:=by
 unfold JU;cases tg<;>first
  |exact Fm hQ
  |(cases u<;>first
    |exact Fm hQ
    |(refine EW<|wpAny_load ho ?_
      rw[hc,hd];show wpAny M A (if(["enumerate","zip","dict_itemiterator","dict_reverseitemiterator","odict_iterator","itertools.zip_longest","itertools.pairwise"].contains n&&vs[0]? == ab (KB _))=kz then _ else _) Q E s
      rw[E7<|by intro h;rw[hn,Bool.false_and]at h;cases h];exact Fm hQ))
def A9(K:gV)(a:f'):It:=
 ⟨λi H=>∃xs x,SqL K H a xs/\xs[i]? =ab x,λi H x H'=>H'=H/\∀xs,SqL K H a xs->xs[i]? =ab x,λi H=>∃xs,SqL K H a xs/\xs.length<=i⟩
def zO(K:gV)(a:f'):It:=
 ⟨λi H=>∃xs x,SqT K H a xs/\xs[i]? =ab x,λi H x H'=>H'=H/\∀xs,SqT K H a xs->xs[i]? =ab x,λi H=>∃xs,SqT K H a xs/\xs.length<=i⟩
def yj(lo:Int)(n:Nat):It:=⟨λi _=>i < n,λi H x H'=>H'=H/\x=.int (lo+i),λi _=>n<=i⟩
theorem tF{K:gV}(a it:f'):nM P w K tg (A9 K a) [it] it (λi h=>h.IsListIter it a i) where
 mem:=by simp
 obj:=λi h st b hb=>by
  have e:b=it:=by simpa using hb
  subst e;obtain⟨o,e,c,d⟩:=st;exact⟨o,e,λv z=>by rw[d]at z;cases z⟩
 keep:=λi h h' st k=>st.at λo e=>k it (by simp) o e
 item:=by
  intro X hP hw hK hc i kS s σ H E I hf st hg;subst hP hw hK;obtain⟨xs,x,hq,hx⟩:=hg;obtain⟨Gx,rv,p,hz⟩:=I.list hq;obtain⟨u,hu,ru⟩:=rv.get hx;obtain⟨f0,f1,f2,f3,f4,f5⟩:=hf it (by simp);refine wpAny_pyNext_list_item st p.isList (x:=u) (by simpa using hu) λh' Pw sb=>?_;have I1:Inv X kS σ H {s with heap:=h'}:=I.turned (t':=s.toks) (λb o hb e=>(sb.2 b hb).trans e) f0 f1 f3 f4 f5;obtain⟨o,e,c,d⟩:=id Pw;exact⟨u,rfl,nN (s:={s with heap:=h'}) e c d (by decide) ⟨x,H,I1,ru,⟨rfl,λys hy=>by rw[I.list_inj hy hq];exact hx⟩,Pw,λb hb=>(hf b hb).1⟩⟩
 done:=by
  intro X hP hw hK hc i kS s σ H E I hf st hg;subst hP hw hK;obtain⟨xs,hq,hx⟩:=hg;obtain⟨Gx,rv,p,hz⟩:=I.list hq;obtain⟨f0,f1,f2,f3,f4,f5⟩:=hf it (by simp);have hl:=rv.length;exact wpAny_pyNext_list_end (I.ok.hd hc) st p.isList (by simp;lia) λh' eb=>⟨rfl,I.turned (t':=s.toks) (λb o hb e=>eb b o hb e) f0 f1 f3 f4 f5⟩
 self:=λ_ _ _ _ _ st h=>wpAny_pyIter_listiter st h
theorem pR{K:gV}(a it:f'):nM P w K tg (zO K a) [it] it (λi h=>h.IsTupleIter it a i) where
 mem:=by simp
 obj:=λi h st b hb=>by
  have e:b=it:=by simpa using hb
  subst e;obtain⟨o,e,c,d⟩:=st;exact⟨o,e,λv z=>by rw[d]at z;cases z⟩
 keep:=λi h h' st k=>st.at λo e=>k it (by simp) o e
 item:=by
  intro X hP hw hK hc i kS s σ H E I hf st hg;subst hP hw hK;obtain⟨xs,x,hq,hx⟩:=hg;obtain⟨Gx,rv,p,hz⟩:=I.tuple hq;obtain⟨u,hu,ru⟩:=rv.get hx;obtain⟨f0,f1,f2,f3,f4,f5⟩:=hf it (by simp);refine wpAny_pyNext_tuple_item st (show s.heap.IsTuple a Gx.toArray from p) (x:=u) (by simpa using hu) λh' Pw sb=>?_;have I1:Inv X kS σ H {s with heap:=h'}:=I.turned (t':=s.toks) (λb o hb e=>(sb.2 b hb).trans e) f0 f1 f3 f4 f5;obtain⟨o,e,c,d⟩:=id Pw;exact⟨u,rfl,nN (s:={s with heap:=h'}) e c d (by decide) ⟨x,H,I1,ru,⟨rfl,λys hy=>by rw[I.tuple_inj hy hq];exact hx⟩,Pw,λb hb=>(hf b hb).1⟩⟩
 done:=by
  intro X hP hw hK hc i kS s σ H E I hf st hg;subst hP hw hK;obtain⟨xs,hq,hx⟩:=hg;obtain⟨Gx,rv,p,hz⟩:=I.tuple hq;obtain⟨f0,f1,f2,f3,f4,f5⟩:=hf it (by simp);have hl:=rv.length;exact wpAny_pyNext_tuple_end (I.ok.hd hc) st (show s.heap.IsTuple a Gx.toArray from p) (by simp;lia) λh' eb=>⟨rfl,I.turned (t':=s.toks) (λb o hb e=>eb b o hb e) f0 f1 f3 f4 f5⟩
 self:=λ_ _ _ _ _ st h=>wpAny_pyIter_tupleiter st h
theorem pS{K:gV}(it:f')(lo:Int)(n:Nat):nM P w K tg (yj lo n) [it] it (λi h=>LG h it (lo+(i:Nat)*1) ((n:Int) - (i:Nat)) 1) where
 mem:=by simp
 obj:=λi h st b hb=>by
  have e:b=it:=by simpa using hb
  subst e;exact⟨_,st,λv z=>by
   have z':Nl _=O0 v:=z;cases z'⟩
 keep:=λi h h' st k=>k it (by simp) _ st
 item:=by
  intro X hP hw hK hc i kS s σ H E I hf st hg;subst hP hw hK;obtain⟨f0,f1,f2,f3,f4,f5⟩:=hf it (by simp);have W:=P5 (prog:=X.prog) (w:=X.w) (I.ok.hd hc) it lo 1 n;refine W.item i s _ _ hg st λv h' tk hv Pw kk=>?_;obtain⟨t,rfl⟩:=hv;have I1:Inv X kS σ H {s with heap:=h',toks:=tk}:=I.turned (λb o hb e=>kk b o (by simpa using hb) e) f0 f1 f3 f4 f5;refine⟨_,rfl,nN (s:={s with heap:=h',toks:=tk}) (n:="range_iterator") Pw rfl rfl (by decide) ⟨.int<|lo+i,H,I1,⟨t,?_⟩,⟨rfl,rfl⟩,Pw,λb hb=>(hf b hb).1⟩⟩;rw[Nn]
 done:=by
  intro X hP hw hK hc i kS s σ H E I hf st hg;subst hP hw hK;obtain⟨f0,f1,f2,f3,f4,f5⟩:=hf it (by simp);exact KZ (I.ok.hd hc) st (by have:n<=i:=hg;lia) λh' eb=>⟨rfl,I.turned (t':=s.toks) (λb o hb e=>eb b o hb e) f0 f1 f3 f4 f5⟩
 self:=λ_ _ _ _ _ st h=>K0 st h
inductive Ck (K:gV)(x:V)(H:Hp)(R:It->Hp->Prop):Prop
 |mk (a:f')(h:x=.ref a)(e:∃xs,SqL K H a xs)(r:R (A9 K a) H):Ck K x H R
inductive Cl (K:gV)(x:V)(H:Hp)(R:It->Hp->Prop):Prop
 |mk (a:f')(h:x=.ref a)(e:∃xs,SqT K H a xs)(r:R (zO K a) H):Cl K x H R
def Cn(K:gV)(tl:TE):TI:=λσ H R=>tl σ H λx H1=>Ck K x H1 R
def DQ(K:gV)(tl:TE):TI:=λσ H R=>tl σ H λx H1=>Cl K x H1 R
theorem bi(hl:PE X l tl):PI X tg l (Cn X.K tl):=by
 intro kS s σ H R I h;refine bp (hl kS s σ H _ I h) λv s1 ⟨x,H1,I1,r1,q1⟩=>?_;obtain⟨a,e,⟨xs,hq⟩,q⟩:=q1;subst e;cases r1;obtain⟨Gx,rv,p,hz⟩:=I1.list hq;refine Ii p.isList ?_;refine⟨s1.heap.objs.size,[s1.heap.objs.size],_,_,H1,rfl,I1.kept (t':=s1.toks) λb o e=>EV _ e,tF a _,⟨_,Fs _ rfl,rfl,rfl⟩,λb hb=>?_,q⟩;have e:b=s1.heap.objs.size:=by simpa using hb
 subst e;exact I1.fpOk (lb _)<|I1.hok.fresh<|lb _
theorem bQ(hl:PE X l tl):PI X tg l (DQ X.K tl):=by
 intro kS s σ H R I h;refine bp (hl kS s σ H _ I h) λv s1 ⟨x,H1,I1,r1,q1⟩=>?_;obtain⟨a,e,⟨xs,hq⟩,q⟩:=q1;subst e;cases r1;obtain⟨Gx,rv,p,hz⟩:=I1.tuple hq;refine wpAny_pyIter_tuple (show s1.heap.IsTuple a Gx.toArray from p) ?_;refine⟨s1.heap.objs.size,[s1.heap.objs.size],_,_,H1,rfl,I1.kept (t':=s1.toks) λb o e=>EV _ e,pR a _,⟨_,Fs _ rfl,rfl,rfl⟩,λb hb=>?_,q⟩;have e:b=s1.heap.objs.size:=by simpa using hb
 subst e;exact I1.fpOk (lb _)<|I1.hok.fresh<|lb _
theorem nO{R:It->Hp->Prop}{E:j'->Bs->Prop}{lo:Int}{t u v:Tok}{tk:Nat}(I:Inv X kS σ H s)(h1:-(2 ^ 62)<=lo)(h2:lo < 2 ^ 62)(h3:-(2 ^ 62)<=hi)(h4:hi < 2 ^ 62)
  (q:R (yj lo (hi - lo).toNat) H):wpAny (FE X.prog X.w) X.A (NU<|.ref s.heap.objs.size) (DO X kS σ tg R) E {s with heap:=s.heap.push {cls:=.type "range",data:=.fields #[.int lo t,.int hi u,.int 1 v]},toks:=tk}:=by
 refine Mg (Nk ..) (small_one h1 h2 h3 h4) ?_;have I1:Inv X kS σ H {s with heap:=s.heap.push {cls:=.type "range",data:=.fields #[.int lo t,.int hi u,.int 1 v]},toks:=tk}:=I.kept λb o e=>EV _ e;refine⟨(s.heap.push {cls:=.type "range",data:=.fields #[.int lo t,.int hi u,.int 1 v]}).objs.size,[(s.heap.push {cls:=.type "range",data:=.fields #[.int lo t,.int hi u,.int 1 v]}).objs.size],_,_,H,rfl,
  I1.kept (t':=tk) λb o e=>EV _ e,pS _ lo (hi - lo).toNat,?_,λb hb=>?_,q⟩
 ·have e1:lo+((0:Nat):Int)*1=lo:=by simp
  have e2:(((hi - lo).toNat:Nat):Int) - ((0:Nat):Int)=KR lo hi 1:=by rw[Ov];split<;>lia
  show LG _ _ (lo+((0:Nat):Int)*1) ((((hi - lo).toNat:Nat):Int) - ((0:Nat):Int)) 1
  rw[e1,e2];exact Fs _ rfl
 ·have e:b=(s.heap.push {cls:=.type "range",data:=.fields #[.int lo t,.int hi u,.int 1 v]}).objs.size:=by simpa using hb
  subst e;exact I1.fpOk (lb _)<|I1.hok.fresh<|lb _
def Co(ta:TA):TI:=λσ H R=>ta σ H λvs H1=>∃j:Int,vs=[.int j]/\ -(2 ^ 62)<=j/\j < 2 ^ 62/\R (yj 0 j.toNat) H1
def Cp(ta:TA):TI:=λσ H R=>ta σ H λvs H1=>∃i j:Int,vs=[.int i,.int j]/\(-(2 ^ 62)<=i/\i < 2 ^ 62/\ -(2 ^ 62)<=j/\j < 2 ^ 62)/\R (yj i (j - i).toNat) H1
theorem cE(hg:Gl X "range")(hm:X.mg "range"=A')(ha:PA X [a] ta)(hs:Fu [a] X.env=[(B',G0 a X.env)]:=by rfl):PI X tg (.Call (.Name "range" p) [a] [] pos) (Co ta):=by
 intro kS s σ H R I h;refine Call_<|cW I hg hm Mt<|Gi (bp (ha pos kS s σ H _ I h) λus s1 ⟨vs,H1,I1,r1,q1⟩=>?_) hs rfl;obtain⟨j,e,q1,q2,q⟩:=q1;subst e;cases r1 with
 |cons r rr=>
  cases rr;obtain⟨t,rfl⟩:=r;exact call_range_1 (nO I1 (by lia) (by lia) q1 q2<|by simpa using q)
theorem eO{X:Cx}{tg:F'}{p pos:Pos}(hg:Gl X "range")(hm:X.mg "range"=A')(ha:PA X [a,b] ta)(hs:Fu [a,b] X.env=[(B',G0 a X.env),(B',G0 b X.env)]:=by rfl)(Qx:Fu [b] X.env=[(B',G0 b X.env)]:=by rfl):
  PI X tg (.Call (.Name "range" p) [a,b] [] pos) (Cp ta):=by
 intro kS s σ H R I h;refine Call_ (cW I hg hm Mt<|Gi (bp (ha pos kS s σ H _ I h) λus s1 ⟨vs,H1,I1,r1,q1⟩=>?_) (by rw[hs,Qx])<|by rw[Qx];rfl);obtain⟨i,j,e,⟨q1,q2,q3,q4⟩,q⟩:=q1;subst e;cases r1 with
 |cons r rr=>
  cases rr with
  |cons r' rr=>
   cases rr;obtain⟨t,rfl⟩:=r;obtain⟨t',rfl⟩:=r';exact call_range_2<|nO I1 q1 q2 q3 q4 q
def DR(wi:TI)(g:TG)(tb:TS):TS:=λD σ H=>wi σ H λJ H1=>∃W:Nat->Nat->St->Hp->Prop,(∃m,W 0 m σ H1)/\∀i m σ H,W i m σ H->
 (J.stop i H/\D.nx σ H)\/(J.go i H/\∃N:St->Hp->Prop,(∀σ' H',N σ' H'->∃m',m' < m/\W (i+1) m' σ' H')/\∀x H',J.yld i H x H'->g x σ H' λσ2 H2=>tb {D with nx:=N,ct:=N,bk:=D.nx} σ2 H2)
def jE(fp:bc f')(h:FU):bc (f'×Obj):=fp.filterMap λb=>(h.get? b).map λo=>(b,o)
theorem fe(hb:b∈fp)(e:h.get? b=ab o):(b,o)∈jE fp h:=HB.mpr ⟨b,hb,by rw[e];rfl⟩
theorem tG(hp:p∈jE fp h):p.1∈fp/\h.get? p.1=ab p.2:=by
 obtain⟨b,hb,e⟩:=HB.mp hp;cases q:h.get? b with
 |none=>rw[q]at e;cases e
 |some o=>
  rw[q]at e;have e':(b,o)=p:=Fe e;subst e';exact⟨hb,q⟩
theorem Inv.pinned(I:Inv X kS σ H s)(hf:∀b∈fp,kN X kS H b)(ho:∀b∈fp,∃o,s.heap.get? b=ab o/\∀v,o.data≠.cell v):Inv X (kS++jE fp s.heap) σ H s:=
 I.pins_of λp hp=>(FN.mp hp).elim (λz=>I.pin p<|Gb _ z) λz=>by
  obtain⟨hb,e⟩:=tG z;obtain⟨f0,f1,f2,_⟩:=hf p.1 hb;obtain⟨o,e',d⟩:=ho p.1 hb;rw[e]at e';cases e';exact⟨e,f0,f1,f2,d⟩
theorem Inv.unpinned(I:Inv X (kS++pl) σ H s):Inv X kS σ H s:=I.pins_of λp hp=>I.pin p<|Gb _<|JO _ hp
theorem aU{pos:Pos}(hp:PassesOwn (FE X.prog X.w) X.A X.env X.xe)(hc:X.calm=kz)(hi:PI X tg Ki wi)(hg:PG X tg g)(hb:PSs X body tb)
  (hs:∀x,Km Ki X.env x=pure x:=by intro _;rfl):PS X (.For tg Ki body [] pos) (DR wi g tb):=by
 intro kS s σ H D I h;refine wpAny_For (bp (hi kS s σ H _ I h) λv s1 h1=>bp h1 λYx s2 h2=>?_) hs;obtain⟨it,fp,tn,J,H2,e,I2,T,R7,f2,W,⟨m0,w0⟩,Qs⟩:=h2;subst e;have Qt:∀{H':Hp},(∀b∈fp,H' b=A')->∀b∈fp,kN X kS H' b:=λhn b hb=>⟨hn b hb,(f2 b hb).2⟩;refine codeAny_forLoop_any (λn s'=>∃i σ' H',Inv X kS σ' H' s'/\tn i s'.heap/\(∀b∈fp,H' b=A')/\W i n σ' H') ?_ m0 ⟨0,σ,H2,I2,R7,λb hb=>(f2 b hb).1,w0⟩;rintro n s3 ⟨i,σ3,H3,I3,To,fr3,w3⟩;obtain⟨stop,qn⟩|⟨go,N,hN,step⟩:=Qs i n σ3 H3 w3
 ·refine HG hp<|bp (T.done X rfl rfl rfl hc i kS s3 σ3 H3 X.xe I3 (Qt fr3) To stop) λr s4 ⟨hr,I4⟩=>?_;subst hr;exact JT ⟨σ3,H3,I4,qn⟩
 ·refine HG hp<|bp (T.item X rfl rfl rfl hc i kS s3 σ3 H3 X.xe I3 (Qt fr3) To go) λr s4 ⟨u,hr,h4⟩=>?_;subst hr;refine HG hp<|bp h4 λ_ s5 ⟨x,H5,I5,r5,y5,RO,Ve⟩=>?_;have I5':=I5.pinned (Qt Ve)<|T.obj _ _ RO;refine HG hp<|bp (hg _ s5 σ3 H5 x u _ I5' r5<|step x H5 y5) λ_ s6 ⟨σ6,H6,I6,q6⟩=>?_;refine HG hp<|bp (hb _ s6 σ6 H6 _ I6 q6) λf s7 q7=>?_;have again:∀{σ7:St} {H7:Hp},Inv X (kS++jE fp s5.heap) σ7 H7 s7->N σ7 H7->∃m,m < n/\∃i σ' H',Inv X kS σ' H' s7/\tn i s7.heap/\(∀b∈fp,H' b=A')/\W i m σ' H':=λ{σ7 H7} I7 n7=>by
   obtain⟨m',hm,w7⟩:=hN σ7 H7 n7;refine⟨m',hm,i+1,σ7,H7,I7.unpinned,T.keep _ _ _ RO λb hb o e=>(I7.pin (b,o)<|Gb _<|Gb _<|fe hb e).1,λb hb=>?_,w7⟩;obtain⟨o,e,d⟩:=T.obj _ _ RO b hb;exact(I7.pin (b,o)<|Gb _<|Gb _<|fe hb e).2.1
  cases f with
  |next=>obtain⟨σ7,H7,I7,n7⟩:=q7;exact again I7 n7
  |cont=>obtain⟨σ7,H7,I7,n7⟩:=q7;exact again I7 n7
  |brk=>obtain⟨σ7,H7,I7,q7⟩:=q7;exact⟨σ7,H7,I7.unpinned,q7⟩
  |ret v=>obtain⟨x7,σ7,H7,I7,r7,q7⟩:=q7;exact⟨x7,σ7,H7,I7.unpinned,r7,q7⟩
theorem cw{K:gV}{g:TG}{tb:TS}{D:iu}(Pv:Nat->St->Hp->Prop)(h0:Pv 0 σ H)(hl:∀i σ H,i<=xs.length->Pv i σ H->SqL K H a xs)
  (hs:∀i x σ H,xs[i]? =ab x->Pv i σ H->g x σ H λσ2 H2=>tb {D with nx:=Pv<|i+1,ct:=Pv<|i+1,bk:=D.nx} σ2 H2) (hd:∀σ H,Pv xs.length σ H->D.nx σ H):
  ∃W:Nat->Nat->St->Hp->Prop,(∃m,W 0 m σ H)/\∀i m σ H,W i m σ H->
   ((A9 K a).stop i H/\D.nx σ H)\/((A9 K a).go i H/\∃N:St->Hp->Prop,(∀σ' H',N σ' H'->∃m',m' < m/\W (i+1) m' σ' H')/\∀x H',(A9 K a).yld i H x H'->g x σ H' λσ2 H2=>tb {D with nx:=N,ct:=N,bk:=D.nx} σ2 H2):=by
 exists λi m σ H=>m=xs.length - i/\i<=xs.length/\Pv i σ H,⟨xs.length,by simp,FF _,h0⟩;rintro i m σ H ⟨rfl,hi,p⟩;have q:=hl i σ H hi p;by_cases IL:i < xs.length
 ·refine .inr ⟨⟨xs,xs[i],q,by simp [IL]⟩,Pv<|i+1,λσ' H' p'=>⟨xs.length - (i+1),by lia,rfl,IL,p'⟩,λx H' y=>?_⟩;obtain⟨e,y⟩:=y;subst e;exact hs i x σ _ (y xs q) p
 ·have e:i=xs.length:=by lia
  subst e;exact .inl ⟨⟨xs,q,lb _⟩,hd σ H p⟩
theorem dU{K:gV}{g:TG}{tb:TS}{D:iu}(Pv:Nat->St->Hp->Prop)(h0:Pv 0 σ H)(hl:∀i σ H,i<=xs.length->Pv i σ H->SqT K H a xs)
  (hs:∀i x σ H,xs[i]? =ab x->Pv i σ H->g x σ H λσ2 H2=>tb {D with nx:=Pv<|i+1,ct:=Pv<|i+1,bk:=D.nx} σ2 H2) (hd:∀σ H,Pv xs.length σ H->D.nx σ H):
  ∃W:Nat->Nat->St->Hp->Prop,(∃m,W 0 m σ H)/\∀i m σ H,W i m σ H->
   ((zO K a).stop i H/\D.nx σ H)\/((zO K a).go i H/\∃N:St->Hp->Prop,(∀σ' H',N σ' H'->∃m',m' < m/\W (i+1) m' σ' H')/\∀x H',(zO K a).yld i H x H'->g x σ H' λσ2 H2=>tb {D with nx:=N,ct:=N,bk:=D.nx} σ2 H2):=by
 exists λi m σ H=>m=xs.length - i/\i<=xs.length/\Pv i σ H,⟨xs.length,by simp,FF _,h0⟩;rintro i m σ H ⟨rfl,hi,p⟩;have q:=hl i σ H hi p;by_cases IL:i < xs.length
 ·refine .inr ⟨⟨xs,xs[i],q,by simp [IL]⟩,Pv<|i+1,λσ' H' p'=>⟨xs.length - (i+1),by lia,rfl,IL,p'⟩,λx H' y=>?_⟩;obtain⟨e,y⟩:=y;subst e;exact hs i x σ _ (y xs q) p
 ·have e:i=xs.length:=by lia
  subst e;exact .inl ⟨⟨xs,q,lb _⟩,hd σ H p⟩
theorem cF{lo:Int}{n:Nat}{g:TG}{tb:TS}{D:iu}(Pv:Nat->St->Hp->Prop)(h0:Pv 0 σ H)
  (hs:∀i σ H,i < n->Pv i σ H->g (.int<|lo+i) σ H λσ2 H2=>tb {D with nx:=Pv<|i+1,ct:=Pv<|i+1,bk:=D.nx} σ2 H2) (hd:∀σ H,Pv n σ H->D.nx σ H):
  ∃W:Nat->Nat->St->Hp->Prop,(∃m,W 0 m σ H)/\∀i m σ H,W i m σ H->
   ((yj lo n).stop i H/\D.nx σ H)\/((yj lo n).go i H/\∃N:St->Hp->Prop,(∀σ' H',N σ' H'->∃m',m' < m/\W (i+1) m' σ' H')/\∀x H',(yj lo n).yld i H x H'->g x σ H' λσ2 H2=>tb {D with nx:=N,ct:=N,bk:=D.nx} σ2 H2):=by
 exists λi m σ H=>m=n - i/\i<=n/\Pv i σ H,⟨n,by simp,FF _,h0⟩;rintro i m σ H ⟨rfl,hi,p⟩;by_cases IL:i < n
 ·refine .inr ⟨IL,Pv<|i+1,λσ' H' p'=>⟨n - (i+1),by lia,rfl,IL,p'⟩,λx H' y=>?_⟩;obtain⟨e,y⟩:=y;subst e y;exact hs i σ _ IL p
 ·have e:i=n:=by lia
  subst e;exact .inl ⟨lb _,hd σ H p⟩
abbrev R2:=V->V->Hp->VK->Prop
def OpR(X:Cx)(f:j'->j'->Sem j')(r:R2):Prop:=
 ∀(kS:bc (f'×Obj)) (s:Bs) (σ:St) (H:Hp) (x y:V) (v u:j') (Q:VK),Inv X kS σ H s->RelV x v->RelV y u->r x y H Q->
  wpAny (FE X.prog X.w) X.A (f v u) (EP X kS σ Q) X.xe s
def DS(X:Cx)(f:j'->Sem j')(r:V->Hp->VK->Prop):Prop:=
 ∀(kS:bc (f'×Obj)) (s:Bs) (σ:St) (H:Hp) (x:V) (v:j') (Q:VK),Inv X kS σ H s->RelV x v->r x H Q->
  wpAny (FE X.prog X.w) X.A (f v) (EP X kS σ Q) X.xe s
def dB(X:Cx)(f:j')(r:bc V->Hp->VK->Prop):Prop:=
 ∀(kS:bc (f'×Obj)) (s:Bs) (σ:St) (H:Hp) (xs:bc V) (us:bc j') (Q:VK),Inv X kS σ H s->Vals xs us->r xs H Q->
  wpAny (FE X.prog X.w) X.A (call f us) (EP X kS σ Q) X.xe s
def DT(X:Cx)(r:V->Hp->(ER->Hp->Prop)->Prop):Prop:=
 ∀(kS:bc (f'×Obj)) (s:Bs) (σ:St) (H:Hp) (x:V) (v:j') (Q:ER->Hp->Prop),Inv X kS σ H s->RelV x v->r x H Q->
  wpAny (FE X.prog X.w) X.A (truthy v) (TP X kS σ Q) X.xe s
def Dw(r:R2)(ta tb:TE):TE:=λσ H Q=>ta σ H λx H1=>tb σ H1 λy H2=>r x y H2 Q
def EI(r:V->Hp->VK->Prop)(ta:TE):TE:=λσ H Q=>ta σ H λx H1=>r x H1 Q
inductive Ep (C:Int->Int->Prop)(g:Int->Int->V)(x y:V)(H:Hp)(Q:VK):Prop
 |mk (i j:Int)(hx:x=.int i)(hy:y=.int j)(c:C i j)(q:Q (g i j) H):Ep C g x y H Q
inductive Er (g:Int->Int->V)(x y:V)(H:Hp)(Q:VK):Prop
 |mk (i j:Int)(hx:x=.int i)(hy:y=.int j)(q:Q (g i j) H):Er g x y H Q
inductive Es (g:Int->V)(x:V)(H:Hp)(Q:VK):Prop
 |mk (i:Int)(hx:x=.int i)(q:Q (g i) H):Es g x H Q
def rI(C:Int->Int->Prop)(g:Int->Int->V):R2:=λx y H Q=>Ep C g x y H Q
def yk(g:Int->Int->V):R2:=λx y H Q=>Er g x y H Q
def rU(g:Int->V):V->Hp->VK->Prop:=λx H Q=>Es g x H Q
theorem A_(ha:PE X a ta)(hb:PE X b tb){R:V->V->Hp->Prop}(I:Inv X kS σ H s)
  (h:ta σ H λx H1=>tb σ H1 λy H2=>R x y H2) {Q:j'->Bs->Prop} {f:j'->j'->Sem j'}
  (hf:∀v u s2 x y H2,Inv X kS σ H2 s2->RelV x v->RelV y u->R x y H2->wpAny (FE X.prog X.w) X.A (f v u) Q X.xe s2):
  wpAny (FE X.prog X.w) X.A (G0 a X.env) (λv s₁=>wpAny (FE X.prog X.w) X.A (G0 b X.env) (λu s₂=>wpAny (FE X.prog X.w) X.A (f v u) Q X.xe s₂) X.xe s₁) X.xe s:=by
 refine bp (ha kS s σ H _ I h) λv s1 ⟨x,H1,I1,r1,q1⟩=>?_;refine bp (hb kS s1 σ H1 _ I1 q1) λu s2 ⟨y,H2,I2,r2,q2⟩=>?_;exact hf v u s2 x y H2 I2 r1 r2 q2
theorem aE(ho:OpR X (Jh op) r)(ha:PE X a ta)(hb:PE X b tb):PE X (.BinOp a op b pos) (Dw r ta tb):=by
 intro kS s σ H Q I h;exact wpAny_BinOp<|A_ ha hb I h λv u s2 x y H2 I2 rx ry q=>ho kS s2 σ H2 x y v u Q I2 rx ry q
theorem dC(ho:DS X (unaryOp op) r)(ha:PE X a ta):PE X (.UnaryOp op a pos) (EI r ta):=by
 intro kS s σ H Q I h;exact UnaryOp_<|bp (ha kS s σ H _ I h) λv s1 ⟨x,H1,I1,r1,q1⟩=>ho kS s1 σ H1 x v Q I1 r1 q1
theorem Cq{f:j'->j'->Sem j'}{C:Int->Int->Prop}{g:Int->Int->Int}
  (rule:∀i j t u s Q E,C i j->Q (.int (g i j) s.toks) {s with toks:=s.toks+1}->wpAny (FE X.prog X.w) X.A (f (.int i t)<|.int j u) Q E s):
  OpR X f (rI C λi j=>.int<|g i j):=by
 intro kS s σ H x y v u Q I rx ry h;obtain⟨i,j,rfl,rfl,hc,q⟩:=h;obtain⟨t,rfl⟩:=rx;obtain⟨t',rfl⟩:=ry;exact rule i j t t' s _ _ hc ⟨.int<|g i j,H,I.tok _,⟨_,rfl⟩,q⟩
theorem Ba{f:j'->j'->Sem j'}{g:Int->Int->Int}
  (rule:∀i j t u s Q E,Q (.int (g i j) s.toks) {s with toks:=s.toks+1}->wpAny (FE X.prog X.w) X.A (f (.int i t)<|.int j u) Q E s):
  OpR X f (yk λi j=>.int<|g i j):=by
 intro kS s σ H x y v u Q I rx ry h;obtain⟨i,j,rfl,rfl,q⟩:=h;obtain⟨t,rfl⟩:=rx;obtain⟨t',rfl⟩:=ry;exact rule i j t t' s _ _ ⟨.int<|g i j,H,I.tok _,⟨_,rfl⟩,q⟩
theorem yl{f:j'->j'->Sem j'}{g:Int->Int->ER}
  (rule:∀i j t u s Q E,Q (.bool<|g i j) s->wpAny (FE X.prog X.w) X.A (f (.int i t)<|.int j u) Q E s):
  OpR X f (yk λi j=>.bl<|g i j):=by
 intro kS s σ H x y v u Q I rx ry h;obtain⟨i,j,rfl,rfl,q⟩:=h;obtain⟨t,rfl⟩:=rx;obtain⟨t',rfl⟩:=ry;exact rule i j t t' s _ _ ⟨.bl<|g i j,H,I,rfl,q⟩
def DU(i j:Int):Prop:=0 < j/\j < 1073741824
def DV(i j:Int):Prop:=0<=j/\j<=1000000/\i.natAbs < 2 ^ 64
def CMul(i j:Int):Prop:=(-(2 ^ 64) < i/\i < 2 ^ 64)\/(-(2 ^ 64) < j/\j < 2 ^ 64)
theorem CMul.ok(h:CMul i j):IntMulOk i j:=by
 obtain⟨h1,h2⟩|⟨h1,h2⟩:=h
 ·exact .of_left<|Ow h1 h2
 ·exact .of_right<|Ow h1 h2
theorem pT(k:Nat):(0:Int)<=2 ^ k:=by
 rw[two_pow_cast];exact Kg _
theorem bI:OpR X (Jh .Add) (yk λi j=>.int<|i+j):=Ba λ_ _ _ _ _ _ _ q=>add_int q
theorem eG:OpR X (Jh .Sub) (yk λi j=>.int<|i - j):=Ba λ_ _ _ _ _ _ _ q=>sub_int q
theorem eI:OpR X (Jh .Mult) (rI CMul λi j=>.int<|i*j):=Cq λ_ _ _ _ _ _ _ hc q=>mul_int q hc.ok
theorem cI:OpR X (Jh .FloorDiv) (rI DU λi j=>.int<|i / j):=Cq λi j _ _ _ _ _ hc q=>by
 have h1:(0:Int) < j:=hc.1;have h2:j < 1073741824:=hc.2;exact floordiv_int (by lia) (by rw[Kh i<|by lia];exact q) (.inl<|K8<|by lia)
theorem bY:OpR X (Jh .Mod) (rI (λ_ j=>0 < j) λi j=>.int<|i % j):=Cq λi j _ _ _ _ _ hc q=>by
 have h1:(0:Int) < j:=hc;exact mod_int' (by lia) (by rw[Int.fmod_eq_emod_of_nonneg i<|by lia];exact q)
theorem pU:OpR X (Jh .LShift) (rI DV λi j=>.int<|i*2 ^ j.toNat):=Cq λ_ _ _ _ _ _ _ hc q=>lshift_int_small hc.1 hc.2.1 hc.2.2 q
theorem pV:OpR X (Jh .RShift) (rI (λ_ j=>0<=j) λi j=>.int<|i / 2 ^ j.toNat):=Cq λi j _ _ _ _ _ hc q=>
 rshift_int hc (by rw[Kh i<|pT _];exact q)
theorem pW:OpR X (Jh .BitAnd) (yk λi j=>.int<|Hn i j):=Ba λ_ _ _ _ _ _ _ q=>and_int q
theorem EJ{f:j'->Sem j'}{g:Int->Int}
  (rule:∀i t s Q E,Q (.int (g i) s.toks) {s with toks:=s.toks+1}->wpAny (FE X.prog X.w) X.A (f<|.int i t) Q E s):
  DS X f (rU λi=>.int<|g i):=by
 intro kS s σ H x v Q I rx h;obtain⟨i,rfl,q⟩:=h;obtain⟨t,rfl⟩:=rx;exact rule i t s _ _ ⟨.int<|g i,H,I.tok _,⟨_,rfl⟩,q⟩
theorem cC:DS X (unaryOp .USub) (rU λi=>.int (-i)):=EJ λ_ _ _ _ _ q=>neg_int q
def Cr:V->V->ER
 |.non,.non=>kz|.non,.int _=>kz|.int _,.non=>kz|.non,.bl _=>kz|.bl _,.non=>kz|.non,.str _=>kz|.str _,.non=>kz
 |.int _,.int _=>kz|.bl _,.bl _=>kz|.str _,.str _=>kz|.byt _,.byt _=>kz
 |.int _,.str _=>kz|.str _,.int _=>kz|.bl _,.str _=>kz|.str _,.bl _=>kz
 |_,_=>B'
def DW:R2:=λx y H Q=>Cr x y=kz/\Q (.bl (decide (x=y))) H
def DX:R2:=λx y H Q=>Cr x y=kz/\Q (.bl (!decide (x=y))) H
theorem q_:decide (V.int i=V.int j)=(i == j):=by
 rw[Gw];simp
theorem ff:decide (V.bl i=V.bl j)=(i == j):=by
 rw[Gw];simp
theorem rc:decide (V.str i=V.str j)=(i == j):=by
 rw[Gw];simp
theorem re:decide (V.byt i=V.byt j)=(i.toList == j.toList):=by
 rw[Gw];cases i;cases j;simp
theorem aX(I:Inv X kS σ H s)(q:Q (.bl k) H)(e:k=k'):EP X kS σ Q (.bool k') s:=by
 subst e;exact⟨.bl k,H,I,rfl,q⟩
theorem Ct:OpR X (Gp .Eq) DW:=by
 intro kS s σ H x y v u Q I rx ry h;obtain⟨hs,q⟩:=h;cases x with
 |non=>
  cases rx;cases y with
  |non=>cases ry;exact Od (aX I q<|by simp)
  |bl j=>cases ry;exact Oe (aX I q<|by simp)
  |int j=>obtain⟨t',rfl⟩:=ry;exact OJ (aX I q<|by simp)
  |str j=>obtain⟨t',rfl⟩:=ry;exact OI (aX I q<|by simp)
  |_=>exact absurd (show B'=kz from hs) i'
 |bl i=>
  cases rx;cases y with
  |non=>cases ry;exact Of (aX I q<|by simp)
  |bl j=>cases ry;exact eq_bool<|aX I q ff
  |str j=>obtain⟨t',rfl⟩:=ry;exact Oj (aX I q<|by simp)
  |_=>exact absurd (show B'=kz from hs) i'
 |int i=>
  obtain⟨t,rfl⟩:=rx;cases y with
  |non=>cases ry;exact OL (aX I q<|by simp)
  |int j=>obtain⟨t',rfl⟩:=ry;exact eq_int<|aX I q q_
  |str j=>obtain⟨t',rfl⟩:=ry;exact OP (aX I q<|by simp)
  |_=>exact absurd (show B'=kz from hs) i'
 |str i=>
  obtain⟨t,rfl⟩:=rx;cases y with
  |non=>cases ry;exact OH (aX I q<|by simp)
  |bl j=>cases ry;exact Oi (aX I q<|by simp)
  |int j=>obtain⟨t',rfl⟩:=ry;exact OO (aX I q<|by simp)
  |str j=>obtain⟨t',rfl⟩:=ry;exact eq_str<|aX I q rc
  |_=>exact absurd (show B'=kz from hs) i'
 |byt i=>
  obtain⟨t,rfl⟩:=rx;cases y with
  |byt j=>obtain⟨t',rfl⟩:=ry;exact PySem.W.eq_bytes<|aX I q re
  |_=>exact absurd (show B'=kz from hs) i'
 |_=>cases y<;>exact absurd (show B'=kz from hs) i'
theorem Cu:OpR X (Gp .NotEq) DX:=by
 intro kS s σ H x y v u Q I rx ry h;obtain⟨hs,q⟩:=h;cases x with
 |non=>
  cases rx;cases y with
  |non=>cases ry;exact Oa (aX I q<|by simp)
  |bl j=>cases ry;exact Ob (aX I q<|by simp)
  |int j=>obtain⟨t',rfl⟩:=ry;exact OF (aX I q<|by simp)
  |str j=>obtain⟨t',rfl⟩:=ry;exact OE (aX I q<|by simp)
  |_=>exact absurd (show B'=kz from hs) i'
 |bl i=>
  cases rx;cases y with
  |non=>cases ry;exact Oc (aX I q<|by simp)
  |bl j=>cases ry;exact ne_bool<|aX I q<|Gg not ff
  |str j=>obtain⟨t',rfl⟩:=ry;exact Oh (aX I q<|by simp)
  |_=>exact absurd (show B'=kz from hs) i'
 |int i=>
  obtain⟨t,rfl⟩:=rx;cases y with
  |non=>cases ry;exact OG (aX I q<|by simp)
  |int j=>obtain⟨t',rfl⟩:=ry;exact ne_int<|aX I q<|Gg not q_
  |str j=>obtain⟨t',rfl⟩:=ry;exact ON (aX I q<|by simp)
  |_=>exact absurd (show B'=kz from hs) i'
 |str i=>
  obtain⟨t,rfl⟩:=rx;cases y with
  |non=>cases ry;exact OC (aX I q<|by simp)
  |bl j=>cases ry;exact Og (aX I q<|by simp)
  |int j=>obtain⟨t',rfl⟩:=ry;exact OM (aX I q<|by simp)
  |str j=>obtain⟨t',rfl⟩:=ry;exact ne_str<|aX I q<|Gg not rc
  |_=>exact absurd (show B'=kz from hs) i'
 |byt i=>
  obtain⟨t,rfl⟩:=rx;cases y with
  |byt j=>obtain⟨t',rfl⟩:=ry;exact PySem.W.ne_bytes<|aX I q<|Gg not re
  |_=>exact absurd (show B'=kz from hs) i'
 |_=>cases y<;>exact absurd (show B'=kz from hs) i'
theorem kZ:OpR X (Gp .Lt) (yk λi j=>.bl (decide (i < j))):=yl λ_ _ _ _ _ _ _ q=>lt_int q
theorem rf:OpR X (Gp .LtE) (yk λi j=>.bl (decide (i<=j))):=yl λ_ _ _ _ _ _ _ q=>le_int q
theorem fF:OpR X (Gp .Gt) (yk λi j=>.bl (decide (j < i))):=yl λ_ _ _ _ _ _ _ q=>gt_int q
theorem Cv:OpR X (Gp .GtE) (yk λi j=>.bl (decide (j<=i))):=yl λ_ _ _ _ _ _ _ q=>ge_int q
theorem u7:OpR X (Gp .Is) (λx y H Q=>y=.non/\Q (.bl (decide (x=.non))) H):=by
 intro kS s σ H x y v u Q I rx ry h;obtain⟨rfl,q⟩:=h;cases ry;refine is_none_gen<|aX I q ?_;cases x<;>first
  |(cases rx;rfl)
  |(obtain⟨t,rfl⟩:=rx;rfl)
theorem gU:OpR X (Gp .IsNot) (λx y H Q=>y=.non/\Q (.bl (!decide (x=.non))) H):=by
 intro kS s σ H x y v u Q I rx ry h;obtain⟨rfl,q⟩:=h;cases ry;refine isnot_none_gen<|aX I q ?_;cases x<;>first
  |(cases rx;rfl)
  |(obtain⟨t,rfl⟩:=rx;rfl)
theorem OpR.or(h:OpR X f r)(h':OpR X f r'):OpR X f (λx y H Q=>r x y H Q\/r' x y H Q):=by
 intro kS s σ H x y v u Q I rx ry q;obtain q|q:=q
 ·exact h kS s σ H x y v u Q I rx ry q
 ·exact h' kS s σ H x y v u Q I rx ry q
theorem ay(b:F')(h:op≠.In:=by decide)(h2:op≠.NotIn:=by decide):JL op b=false:=by
 have e1:(op == CmpOp.In)=false:=by cases op<;>first|rfl|exact absurd rfl h
 have e2:(op == CmpOp.NotIn)=false:=by cases op<;>first|rfl|exact absurd rfl h2
 cases b<;>simp [JL,e1,e2]
theorem aM(ho:OpR X (Gp op) r)(ha:PE X a ta)(hb:PE X b tb)(hm:JL op b=B'):PE X (.Compare a [op] [b] pos) (Dw r ta tb):=by
 intro kS s σ H Q I h;exact wpAny_Compare1 (A_ ha hb I h λv u s2 x y H2 I2 rx ry q=>ho kS s2 σ H2 x y v u Q I2 rx ry q) hm
def zP(t:TE):TT:=λσ H Q=>t σ H λx H'=>A3 x Q H'
theorem aD(ho:OpR X (Gp op) r)(ha:PE X a ta)(hb:PE X b tb)(hm:JL op b=B'):PT X (.Compare a [op] [b] pos) (zP<|Dw r ta tb):=by
 intro kS s σ H Q I h;refine Lp (bp (ha kS s σ H _ I h) λv s1 ⟨x,H1,I1,r1,q1⟩=>bp (hb kS s1 σ H1 _ I1 q1) λu s2 ⟨y,H2,I2,r2,q2⟩=>
  bp (ho kS s2 σ H2 x y v u _ I2 r1 r2 q2) λc s3 ⟨z,H3,I3,r3,k,e,q3⟩=>?_) hm
 subst e;cases r3;exact Gj ⟨H3,I3,q3⟩
def u8(r r':R2)(ta tb tc:TE):TE:=λσ H Q=>ta σ H λx H1=>tb σ H1 λy H2=>r x y H2 λz H3=>∃k,z=.bl k/\
 (if k=kz then tc σ H3 λw' H4=>r' y w' H4 Q else Q (.bl B') H3)
theorem u9(ho:OpR X (Gp op) r)(QW:OpR X (Gp Su) r')(ha:PE X a ta)(hb:PE X b tb)(hc:PE X c tc)
  (hm:lastMarks [op,Su] [b,c]=false:=by with_unfolding_all rfl):PE X (.Compare a [op,Su] [b,c] pos) (u8 r r' ta tb tc):=by
 intro kS s σ H Q I h;refine Compare_chain (bp (ha kS s σ H _ I h) λv s1 ⟨x,H1,I1,r1,q1⟩=>chain_link (bp (hb kS s1 σ H1 _ I1 q1) λu s2 ⟨y,H2,I2,r2,q2⟩=>
  bp (ho kS s2 σ H2 x y v u _ I2 r1 r2 q2) λd s3 ⟨z,H3,I3,r3,k,e,q3⟩=>?_)) hm
 subst e;cases r3;refine Gj ?_;cases k with
 |false=>exact ite_ff ⟨.bl B',H3,I3,rfl,q3⟩
 |true=>exact ite_tt<|chain_last<|bp (hc kS s3 σ H3 _ I3 q3) λw' s4 ⟨z',H4,I4,r4,q4⟩=>QW kS s4 σ H4 y z' u w' Q I4 r2 r4 q4
theorem u_(ho:OpR X (Gp op) r)(QW:OpR X (Gp Su) r')(ha:PE X a ta)(hb:PE X b tb)(hc:PE X c tc)
  (hm:lastMarks [op,Su] [b,c]=false:=by with_unfolding_all rfl):PT X (.Compare a [op,Su] [b,c] pos) (zP<|u8 r r' ta tb tc):=by
 intro kS s σ H Q I h;refine isTrue_chain (bp (ha kS s σ H _ I h) λv s1 ⟨x,H1,I1,r1,q1⟩=>test_link (bp (hb kS s1 σ H1 _ I1 q1) λu s2 ⟨y,H2,I2,r2,q2⟩=>
  bp (ho kS s2 σ H2 x y v u _ I2 r1 r2 q2) λd s3 ⟨z,H3,I3,r3,k,e,q3⟩=>?_)) hm
 subst e;cases r3;refine Gj ?_;cases k with
 |false=>
  obtain⟨k',e',q'⟩:=q3;cases e';exact ite_ff ⟨H3,I3,q'⟩
 |true=>
  refine ite_tt<|test_last<|bp (hc kS s3 σ H3 _ I3 q3) λw' s4 ⟨z',H4,I4,r4,q4⟩=>bp (QW kS s4 σ H4 y z' u w' _ I4 r2 r4 q4) λd' s5 ⟨z2,H5,I5,r5,k2,e2,q5⟩=>?_;subst e2;cases r5;exact Gj ⟨H5,I5,q5⟩
def Cw(K:gV)(x:V)(H:Hp)(k:ER):Prop:=
 match x with
 |.non=>k=B'
 |.bl b=>k=b
 |.int i=>k=(i != 0)
 |.str y=>y.length<=sizeLine/\k=((y.length:Int) != 0)
 |.byt y=>y.size<=sizeLine/\k=((y.size:Int) != 0)
 |.ref p=>(∃xs,SqL K H p xs/\k=!xs.isEmpty)\/(∃xs,SqT K H p xs/\k=!xs.isEmpty)\/∃kvs,H p=ab (.dK kvs)/\k=!kvs.isEmpty
 |_=>False
theorem pX{κ:Type}{kvs:bc (κ×V)}{vs:bc (κ×j')}(r:KV kvs vs):(!vs.isEmpty)=!kvs.isEmpty:=by
 cases r<;>rfl
theorem jF(r:Vals xs Gx):(!Gx.toArray.isEmpty)=!xs.isEmpty:=by
 cases r<;>simp
theorem iz:(sizeLine:Nat) < 2 ^ 63:=by rw[Iq];decide
theorem Bb:DT X (λx H Q=>∃k,Cw X.K x H k/\Q k H):=by
 intro kS s σ H x v Q I rx h;obtain⟨k,e,q⟩:=h;have hl:=iz;have hs:sizeLine=16777216:=Iq;cases x with
 |non=>
  cases rx;have e':k=false:=e;subst e';exact truthy_none ⟨H,I,q⟩
 |bl b=>
  cases rx;have e':k=b:=e;subst e';exact Gj ⟨H,I,q⟩
 |int i=>
  obtain⟨t,rfl⟩:=rx;have e':k=(i != 0):=e;subst e';exact PySem.P.truthy_int ⟨H,I,q⟩
 |str y=>
  obtain⟨t,rfl⟩:=rx;obtain⟨hy,e'⟩:y.length<=sizeLine/\k=((y.length:Int) != 0):=e;subst e';exact PySem.P.truthy_str (by lia) ⟨H,I.tok _,q⟩
 |byt y=>
  obtain⟨t,rfl⟩:=rx;obtain⟨hy,e'⟩:y.size<=sizeLine/\k=((y.size:Int) != 0):=e;subst e';exact PySem.W.truthy_bytes (by lia) ⟨H,I.tok _,q⟩
 |ref p=>
  cases rx;have e':(∃xs,SqL X.K H p xs/\k=!xs.isEmpty)\/(∃xs,SqT X.K H p xs/\k=!xs.isEmpty)\/∃kvs,H p=ab (.dK kvs)/\k=!kvs.isEmpty:=e;obtain⟨xs,hx,e'⟩|⟨xs,hx,e'⟩|⟨kvs,hx,e'⟩:=e'
  ·subst e';obtain⟨Gx,r,pl,hz⟩:=I.list hx;have G':=r.length;exact wpAny_truthy_list pl.isList (by simp only [Ff];lia) ⟨H,I.tok _,by rw[jF r];exact q⟩
  ·subst e';obtain⟨Gx,r,pl,hz⟩:=I.tuple hx;have G':=r.length;exact truthy_tuple pl (by simp only [Ff];lia) ⟨H,I.tok _,by rw[jF r];exact q⟩
  ·subst e';obtain⟨hz,hS,vs,r,m⟩:kvs.length<=sizeLine/\(p == Hf)=B'/\∃vs,KV kvs vs/\s.heap.DictOf (aQ X.prog X.w) p vs:=I.hok p _ hx;have G':kvs.length=vs.length:=Paired.length r;exact wpAny_truthy_dict hS m (by lia) ⟨H,I.tok _,by rw[pX r];exact q⟩
 |_=>exact(show False from e).elim
theorem jG(ha:PE X a ta)(he:∀NB,isTrue a X.env NB=(do let v <-NB;Pk a.pos;K1 [v] (truthy v))):
  PT X a (λσ H Q=>ta σ H λx H'=>∃k,Cw X.K x H' k/\Q k H'):=by
 intro kS s σ H Q I h;exact isTrue_plain (bp (ha kS s σ H _ I h) λv s1 ⟨x,H1,I1,r1,q1⟩=>Bb kS s1 σ H1 x v Q I1 r1 q1)<|he _
theorem dD(r:Vals [x] us):∃u,us=[u]/\RelV x u:=by
 cases r with
 |cons r1 r2=>cases r2;exact⟨_,rfl,r1⟩
theorem va(r:Vals [x,y] us):∃u w',us=[u,w']/\RelV x u/\RelV y w':=by
 cases r with
 |cons r1 r2=>
  cases r2 with
  |cons r3 r4=>cases r4;exact⟨_,_,rfl,r1,r3⟩
theorem br:dB X (.builtin "abs") (λxs H Q=>∃i,xs=[.int i]/\Q (.int (if i < 0 then -i else i)) H):=by
 intro kS s σ H xs us Q I r h;obtain⟨i,rfl,q⟩:=h;obtain⟨u,rfl,t,rfl⟩:=dD r;exact call_abs_int λu tk=>⟨.int (if i < 0 then -i else i),H,I.tok _,⟨_,rfl⟩,q⟩
theorem iA:dB X (.type "int") (λxs H Q=>(∃i,xs=[.int i]/\Q (.int i) H)\/∃k,xs=[.bl k]/\Q (.int (if k then 1 else 0)) H):=by
 intro kS s σ H xs us Q I r h;obtain⟨i,rfl,q⟩|⟨k,rfl,q⟩:=h
 ·obtain⟨u,rfl,t,rfl⟩:=dD r;exact call_int_int ⟨.int i,H,I,⟨_,rfl⟩,q⟩
 ·obtain⟨u,rfl,r1⟩:=dD r;cases r1;exact call_int_bool ⟨.int (if k then 1 else 0),H,I.tok _,⟨_,rfl⟩,q⟩
def DY(K:gV)(x:V)(H:Hp)(n:Nat):Prop:=
 match x with
 |.str y=>y.length<=sizeLine/\n=y.length
 |.byt y=>y.size<=sizeLine/\n=y.size
 |.ref p=>(∃xs,SqL K H p xs/\n=xs.length)\/∃xs,SqT K H p xs/\n=xs.length
 |_=>False
inductive Bc (K:gV)(xs:bc V)(H:Hp)(Q:VK):Prop
 |mk (x:V)(n:Nat)(h:xs=[x])(l:DY K x H n)(q:Q (.int n) H):Bc K xs H Q
theorem aH:dB X (.builtin "len") (Bc X.K):=by
 intro kS s σ H xs us Q I r h;obtain⟨x,n,rfl,e,q⟩:=h;obtain⟨u,rfl,rx⟩:=dD r;have hl:=iz;have hs:sizeLine=16777216:=Iq;cases x with
 |str y=>
  obtain⟨t,rfl⟩:=rx;obtain⟨hy,e'⟩:y.length<=sizeLine/\n=y.length:=e;subst e';exact len_str (by lia) ⟨.int _,H,I.tok _,⟨_,rfl⟩,q⟩
 |byt y=>
  obtain⟨t,rfl⟩:=rx;obtain⟨hy,e'⟩:y.size<=sizeLine/\n=y.size:=e;subst e';exact PySem.W.len_bytes (by lia) ⟨.int _,H,I.tok _,⟨_,rfl⟩,q⟩
 |ref p=>
  cases rx;have e':(∃xs,SqL X.K H p xs/\n=xs.length)\/∃xs,SqT X.K H p xs/\n=xs.length:=e;obtain⟨xs,hx,e'⟩|⟨xs,hx,e'⟩:=e'
  ·subst e';obtain⟨Gx,r',pl,hz⟩:=I.list hx;have G':=r'.length;exact L5 pl.isList (by simp only [Ff];lia) ⟨.int xs.length,H,I.tok _,⟨_,by simp only [Ff];rw[G']⟩,q⟩
  ·subst e';obtain⟨Gx,r',pl,hz⟩:=I.tuple hx;have G':=r'.length;exact len_tuple pl (by simp only [Ff];lia) ⟨.int xs.length,H,I.tok _,⟨_,by simp only [Ff];rw[G']⟩,q⟩
 |_=>exact(show False from e).elim
structure ObjM (h:FU)(x dx C:f')(mA:Str->kb j'):Prop where
 obj:h.get? x=ab (Hs C dx)
 ns:h.Ns1 dx mA
 ne:dx≠x
theorem tH{h:FU}{dx:f'}{mA:Str->kb j'}(n:h.Ns1 dx mA):∃od,h.get? dx=ab od/\∀name,Kb name od=ab (mA name):=by
 obtain⟨o,es,ep,ho,hd,hk,_,hm⟩:=n;refine⟨o,ho,λname=>?_⟩;have e:=hm name;unfold nsFind findBy at e;rw[<-Array.find?_toList]at e;unfold Kb;rw[hd];dsimp only
 split
 ·rename_i y q;rw[q]at e;exact Gg ab e
 ·rename_i q;rw[q]at e;have a:es.toList.any (·.refKey)=false:=by
   rw[MT];intro y hy;obtain⟨z,t,NH⟩:=hk y<|Array.mem_toList_iff.mp hy;simp [Rg,NH]
  have a':¬es.toList.any (·.refKey)=true:=by rw[a];exact i'
  rw[E7 a'];exact Gg ab e
theorem ObjM.look(I:ObjM h x dx C mA):∃od,PySem.W.InstAt h x (Hs C dx) C (ab od)/\∀name,Kb name od=ab (mA name):=
 let ⟨od,ho,hl⟩:=tH I.ns
 ⟨od,⟨I.obj,rfl,rfl,ho⟩,hl⟩
section
variable {K:gV}
theorem ym{expr:ER}{Q:j'->Bs->Prop}(X:K.In s.heap)(I:ObjM s.heap x dx C mA)(hg:HR K C name=kz)(hh:Ij K C=kz)
  (ha:FR K (.ref C) name=ab A') (hv:mA name=ab v) (PH:M6 v=kz) (h:Q v {s with toks:=s.toks+1}):
  wpAny (FE prog w) A (getAttr (.ref x) name expr) Q E s:=by
 obtain⟨od,J,hl⟩:=I.look;exact PySem.W.get_value X J (J0 hg).1 (PySem.W.findObj_own hh ha rfl<|by rw[hl,hv]) PH h
theorem vc{pl:Sem ER}{Q:j'×bc j'->Bs->Prop}(X:K.In s.heap)(I:ObjM s.heap x dx C mA)(hg:HR K C name=kz)
  (hf:FR K (.ref C) name=ab (ab<|.ref f)) (ht:HZ K (.ref f)=kz) (hv:mA name=A') (h:Q (.ref f,[.ref x]) s):
  wpAny (FE prog w) A (M4 (.ref x) name pl) Q E s:=by
 obtain⟨od,J,hl⟩:=I.look;exact PySem.W.method_fn X J (J0 hg).1 (J0 hg).2 hf (J'.mp ht) (by show(Kb name od).map (·.isSome)=ab B';rw[hl,hv];rfl) h
theorem yn{ns:bc Str}{Q:Unit->Bs->Prop}(X:K.In s.heap)(I:ObjM s.heap x dx C mA)
  (hs:FR K (.ref C) "__setattr__"=ab (ab<|.builtin "object.__setattr__")) (hp:Ji K C=kz) (ht:Li K C name=ab A') (hh:Ij K C=kz)
  (hw:MI mA ns) (hsz:ns.length<=sizeLine)
  (h:∀h',ObjM h' x dx C (λy=>if y=name then ab v else mA y)->IA dx s.heap h'->Q () {s with heap:=h',toks:=s.toks+2}):
  wpAny (FE prog w) A (setAttr (.ref x) name v) Q E s:=by
 obtain⟨od,J,hl⟩:=I.look;refine PySem.W.set_plain X J hs<|PySem.W.osa_open (s:={s with toks:=s.toks+1}) (r:=A') X J hp ht λb=>?_;obtain⟨cd,hc,RL⟩:=PySem.W.any_some hh;have hx:s.heap.get? x=ab ⟨.ref C,ab dx,.plain,#[]⟩:=I.obj;refine EW<|Fm<|EW<|EW<|wpAny_loadPart hx<|EW<|QK (s:={s with toks:=s.toks+1}) (PySem.W.looks_clsIn X hc) ?_;rw[RL];refine Fm (a:=ab dx)<|EW<|Fm<|EW ?_;refine wpAny_nsSet1 (s:={s with toks:=s.toks+1}) I.ns λh' U4 Qx=>?_;obtain⟨oD,esD,epD,hoD,hdD,hcD⟩:=U4.count<|Q2 name v hw;refine EW<|wpAny_lookBehind hoD (by rw[hdD];exact pastItsLine_dict<|FM hcD<|by rw[FI];lia) ?_;exact Fm<|h _ ⟨(Qx.2 _<|GP I.ne).trans I.obj,U4,I.ne⟩ Qx
theorem vd{R:M8->Bs->Prop}{vs:bc j'}{kw:bc (Str×j')}(X:K.In s.heap)(hm:JV K C=kz)
  (hi:FR K (.ref C) "__init__"=ab (ab<|.ref f)) (hf:PySem.W.typeIn K (.ref f)=ab (.type "function"))
  (h:codeAny (FE prog w) (A.under<|.builtin "type.__call__" ⟨.ref C::vs,kw⟩) (.call (.ref f) ⟨.ref (s.heap.objs.size+1)::vs,kw⟩) (PySem.W.InitBack (s.heap.objs.size+1) R)
   {s with heap:=(s.heap.push GS).push<|Hs C s.heap.objs.size}):
  codeAny (FE prog w) A (.call (.ref C) ⟨vs,kw⟩) R s:=by
 obtain⟨hh,g,d,t,os⟩:=s;exact PySem.W.make_core (PySem.W.makes_of X hm) (PySem.W.looks_findIn X hi) (λself=>PySem.W.bind_fn X self hf) (.inl rfl) h
end
def gq(f:Str)(v:V):bc (Str×V)->bc (Str×V)
 |[]=>[(f,v)]
 |(g,x)::r=>if g=f then(g,v)::r else(g,x)::gq f v r
theorem jl(f g:Str)(v:V):∀fs,(gq f v fs).lookup g=if g=f then ab v else fs.lookup g
 |[]=>by
  show HX g [(f,v)]=_
  by_cases h:g=f
  ·have hb:(g == f)=true:=J'.mpr h;simp only [HX,hb,Fc h]
  ·have hb:(g == f)=false:=GD.mpr h;simp only [HX,hb,E7 h]
 |(k,x)::r=>by
  have ih:=jl f g v r;rw[show gq f v ((k,x)::r)=(if k=f then(k,v)::r else(k,x)::gq f v r)from rfl];by_cases hk:k=f
  ·rw[Fc hk];by_cases h:g=k
   ·have hb:(g == k)=true:=J'.mpr h;simp only [HX,hb,Fc<|h.trans hk]
   ·have hb:(g == k)=false:=GD.mpr h;simp only [HX,hb,E7 λe:g=f=>h<|e.trans hk.symm]
  ·rw[E7 hk];by_cases h:g=k
   ·have hb:(g == k)=true:=J'.mpr h;simp only [HX,hb,E7 λe:g=f=>hk<|h.symm.trans e]
   ·have hb:(g == k)=false:=GD.mpr h;simp only [HX,hb];exact ih
theorem iB(f:Str)(v:V):∀fs,f∈(gq f v fs).map (·.1)/\∀g,g∈fs.map (·.1)->g∈(gq f v fs).map (·.1)
 |[]=>⟨by simp [gq],λg h=>by simp at h⟩
 |(k,x)::r=>by
  obtain⟨i1,i2⟩:=iB f v r;rw[show gq f v ((k,x)::r)=(if k=f then(k,v)::r else(k,x)::gq f v r)from rfl];by_cases hk:k=f
  ·rw[Fc hk];subst hk;exact⟨by simp,λg h=>by simpa using h⟩
  ·rw[E7 hk];refine⟨?_,λg h=>?_⟩
   ·rw[FA];exact Fx _ i1
   ·rw[FA]at h ⊢;obtain e|e:=Fl.mp h
    ·exact Fl.mpr<|.inl e
    ·exact Fx _<|i2 g e
theorem jm(f:Str)(v:V):∀fs,(gq f v fs).length<=fs.length+1
 |[]=>by simp [gq]
 |(k,x)::r=>by
  have ih:=jm f v r;rw[show gq f v ((k,x)::r)=(if k=f then(k,v)::r else(k,x)::gq f v r)from rfl];by_cases hk:k=f
  ·rw[Fc hk,FI,FI];lia
  ·rw[E7 hk,FI,FI];lia
theorem RelO.some_of(r:RelO (ab v) o):∃u,o=ab u/\RelV v u:=by
 cases o with
 |none=>exact(show False from r).elim
 |some u=>exact⟨u,rfl,r⟩
theorem RelO.none_of(r:RelO A' o):o=none:=by
 cases o with
 |none=>rfl
 |some u=>exact(show False from r).elim
theorem tI(r:RelV v u):M6 u=true:=by
 cases v with
 |non=>cases(show u=Mo from r);rfl
 |bl b=>cases(show u=Mp b from r);rfl
 |int i=>obtain⟨t,e⟩:=(show∃t,u=J8 i t from r);cases e;rfl
 |str x=>obtain⟨t,e⟩:=(show∃t,u=LZ x t from r);cases e;rfl
 |byt b=>obtain⟨t,e⟩:=(show∃t,u=P7 b t from r);cases e;rfl
 |flt b=>obtain⟨t,e⟩:=(show∃t,u=Nj b t from r);cases e;rfl
 |ref a=>cases(show u=FY a from r);rfl
 |ty n=>cases(show u=Kd n from r);rfl
theorem jz(hok:HOk P w H h)(e:H a=ab (.ins C dx fs)):∃mA,ObjM h a dx C mA/\(∀f,RelO (fs.lookup f)<|mA f)/\MI mA (fs.map (·.1))/\fs.length<=1000/\H dx=ab (.own a):=by
 obtain⟨d,z,ne,ob,mA,n,r,q⟩:=(show ObjOk P w H h a (.ins C dx fs)from hok a _ e);exact⟨mA,⟨ob,n,ne⟩,r,q,z,d⟩
structure Cls (K:gV)(C:f'):Prop where
 pg:HR K C OZ=kz
 hd:Ij K C=kz
 po:Ji K C=kz
 sa:FR K (.ref C) "__setattr__"=ab (ab<|.builtin "object.__setattr__")
theorem Cls.get{K:gV}(c:Cls K C)(f:Str):HR K C f=true:=c.pg
def NoAttr(K:gV)(C:f')(f:Str):Prop:=FR K (.ref C) f=ab A'
theorem NoAttr.taker{K:gV}(n:NoAttr K C f):Li K C f=ab none:=by
 unfold Li;rw[show FR K (.ref C) f=ab A' from n];rfl
structure Bd (K:gV)(C:f')(m:Str)(f:f'):Prop where
 at_:FR K (.ref C) m=ab (ab<|.ref f)
 fn:HZ K (.ref f)=kz
 kp:x' K (.ref f)=kz
theorem pY{b:ER}{Q:j'->Bs->Prop}(I:Inv X kS σ H s)(e:H a=ab (.ins C dx fs))(c:Cls X.K C)(n:NoAttr X.K C f)(l:fs.lookup f=ab v)
  (h:∀u s',Inv X kS σ H s'->RelV v u->Q u s'):wpAny (FE X.prog X.w) A (getAttr (.ref a) f b) Q E s:=by
 obtain⟨mA,O,r,_,_,_⟩:=jz I.hok e;obtain⟨u,hu,ru⟩:=RelO.some_of (v:=v) (o:=mA f) (by rw[<-l];exact r f);exact ym I.kIn O (c.get f) c.hd n hu (tI ru)<|h u _ (I.tok _) ru
theorem pZ{pl:Sem ER}{Q:j'×bc j'->Bs->Prop}(I:Inv X kS σ H s)(e:H a=ab (.ins C dx fs))(c:Cls X.K C)(k:Bd X.K C m g)(l:fs.lookup m=A')
  (h:Q (.ref g,[.ref a]) s):wpAny (FE X.prog X.w) A (M4 (.ref a) m pl) Q E s:=by
 obtain⟨mA,O,r,_,_,_⟩:=jz I.hok e;have hn:mA m=none:=RelO.none_of (by rw[<-l];exact r m);exact vc I.kIn O (c.get m) k.at_ k.fn hn h
theorem p_{Q:Unit->Bs->Prop}(I:Inv X kS σ H s)(e:H a=ab (.ins C dx fs))(c:Cls X.K C)(n:NoAttr X.K C f)(hl:fs.length < 1000)(ry:RelV y u)
  (h:∀s',Inv X kS σ (upd H a<|.ins C dx<|gq f y fs) s'->Q () s'):wpAny (FE X.prog X.w) A (setAttr (.ref a) f u) Q E s:=by
 obtain⟨mA,O,r,wi,_,ho⟩:=jz I.hok e;have hz:(fs.map (·.1)).length<=sizeLine:=by rw[ka,Iq];lia
 refine yn I.kIn O c.sa c.po n.taker c.hd wi hz λh' O' sb=>h _ ?_;have hd:∃o,h'.get? dx=ab o:=let ⟨o,_,_,e',_⟩:=O'.ns;⟨o,e'⟩
 refine I.write (x:=a) (e:=dx) (by rw[e];exact Ha) (.inr ho) (λb q hb z=>(sb.2 b hb).trans z) hd ?_;refine⟨by rw[al O.ne];exact ho,?_,O.ne,O'.obj,_,O'.ns,λg=>?_,λg hg=>?_⟩
 ·have:=jm f y fs;lia
 ·show RelO ((gq f y fs).lookup g) (if g=f then ab u else mA g)
  rw[jl];by_cases q:g=f
  ·rw[Fc q,Fc q];exact ry
  ·rw[E7 q,E7 q];exact r g
 ·by_cases q:g=f
  ·rw[q];exact(iB f y fs).1
  ·refine(iB f y fs).2 g<|wi g λz=>hg ?_;show(if g=f then ab u else mA g)=A'
   rw[E7 q];exact z
theorem Inv.made(I:Inv X kS σ H s):Inv X kS σ (upd (upd H s.heap.objs.size<|.own<|s.heap.objs.size+1) (s.heap.objs.size+1)<|.ins C s.heap.objs.size [])
  {s with heap:=(s.heap.push GS).push<|Hs C s.heap.objs.size}:=by
 have e1:(s.heap.push GS).get? s.heap.objs.size=ab GS:=Fs s.heap rfl;have e2:((s.heap.push GS).push<|Hs C s.heap.objs.size).get? (s.heap.objs.size+1)=ab (Hs C s.heap.objs.size):=by
  have:=Fs (s.heap.push GS) (o:=Hs C s.heap.objs.size) rfl
  rwa [Iw]at this
 have e3:(s.heap.push GS).Ns s.heap.objs.size (λ_=>A'):=⟨GS,#[],_,e1,rfl,(λe he=>absurd he<|by simp),λ_=>rfl⟩;have I1:=I.laid (a:=s.heap.objs.size) (o:=.own<|s.heap.objs.size+1) (h':=s.heap.push GS) (t':=s.toks) (λb u q=>EV _ q) (lb _) ⟨_,e1⟩;refine I1.laid (a:=s.heap.objs.size+1) (o:=.ins C s.heap.objs.size []) (t':=s.toks) (λb u q=>EV _ q) (Pp<|Iw _ _) ?_;have ne:s.heap.objs.size≠s.heap.objs.size+1:=Fi<|JJ _;refine⟨by rw[al ne,ad],FF _,ne,e2,λ_=>A',(Heap.Ns1.of_empty e3).at λo q=>EV _ q,λ_=>Ha,λy hy=>absurd rfl hy⟩
theorem yo{prog:E9}{w:Ft}{pos:Pos}{s:Bs}{Q:j'->Bs->Prop}(hb:KD e f env (G0 e env)=G0 e env)
  (h:wpAny (FE prog w) A (G0 e env) (λo s₁=>wpAny (FE prog w) A (getAttr o f kz) Q E s₁) E s):wpAny (FE prog w) A (G0 (.Attribute e f pos) env) Q E s:=
 Attribute_any_ h (by rw[arm_eval_Attribute,hb])
def DZ(K:gV)(ta:TE)(f:Str):TE:=λσ H Q=>ta σ H λx H1=>∃a C dx fs v,x=.ref a/\H1 a=ab (.ins C dx fs)/\Cls K C/\NoAttr K C f/\fs.lookup f=ab v/\Q v H1
def D0(K:gV)(ta tv:TE)(f:Str):TS:=λD σ H=>tv σ H λy H1=>ta σ H1 λx H2=>∃a C dx fs,x=.ref a/\H2 a=ab (.ins C dx fs)/\Cls K C/\NoAttr K C f/\fs.length < 1000/\
 D.nx σ (upd H2 a<|.ins C dx<|gq f y fs)
theorem dn(he:PE X e ta)(hb:KD e f X.env (G0 e X.env)=G0 e X.env):PE X (.Attribute e f pos) (DZ X.K ta f):=by
 intro kS s σ H Q I h;refine yo hb<|bp (he kS s σ H _ I h) λu s1 ⟨x,H1,I1,rx,a,C,dx,fs,v,ex,ea,c,n,l,q⟩=>?_;subst ex;obtain rfl:u=FY a:=rx;exact pY I1 ea c n l λu' s2 I2 ru=>⟨v,H1,I2,ru,q⟩
theorem jH(ha:PE X o ta)(hv:PE X value tv)(hs:LU value (ab<|.Attribute o f My) pos.line X.env=pure B'):PS X (.Assign [.Attribute o f My] value pos) (D0 X.K ta tv f):=by
 intro kS s σ H D I h;refine plainObj_wpAny_Assign_Attribute (bp (hv kS s σ H _ I h) λu s1 ⟨y,H1,I1,ry,q⟩=>bp (ha kS s1 σ H1 _ I1 q) λov s2 ⟨x,H2,I2,rx,a,C,dx,fs,ex,ea,c,n,l,q2⟩=>?_) hs;subst ex;obtain rfl:ov=FY a:=rx;exact p_ I2 ea c n l ry λs3 I3=>⟨σ,_,I3,q2⟩
inductive gI (K:gV)(H:Hp):V->j'->Prop where
 |non:gI K H .non (.type "NoneType")
 |bl (x:ER):gI K H (.bl x) (.type "bool")
 |int (i:Int):gI K H (.int i) (.type "int")
 |str (x:Str):gI K H (.str x) (.type "str")
 |flt (x:UInt64):gI K H (.flt x) (.type "float")
 |lst {a:f'} {xs:bc V} (e:H a=ab (.lst xs)):gI K H (.ref a) (.type "list")
 |frz {a:f'} {o:Obj} {xs:bc V} (e:H a=ab (.frz o<|.lst xs)):gI K H (.ref a) (.type "list")
 |tup {a:f'} {xs:bc V} (e:H a=ab (.tup xs)):gI K H (.ref a) (.type "tuple")
 |dK {a:f'} {kvs:bc (aS×V)} (e:H a=ab (.dK kvs)):gI K H (.ref a) (.type "dict")
 |dT {a:f'} {kvs:bc (bc aS×V)} (e:H a=ab (.dT kvs)):gI K H (.ref a) (.type "dict")
 |ins {a C dx:f'} {fs:bc (Str×V)} (e:H a=ab (.ins C dx fs)) (cl:Cls K C) (ha:FR K (.ref C) "__class__"=ab (ab<|.builtin "object.__class__"))
   (hn:Kp K (.builtin "object.__class__") "__get__"=ab (ab<|.builtin "getset_descriptor.__get__")) (htk:Lh K (.builtin "object.__class__")=ab kz)
   (hm:Ma K C (.type "object")=ab kz):gI K H (.ref a) (.ref C)
theorem k_(I:Inv X kS σ H s)(rx:RelV x u)(ty:gI X.K H x t)(e:Hl X.K t c=ab b)(h:∀tk,Q (.bool b) {s with toks:=tk}):
  wpAny (FE X.prog X.w) A (call (.builtin "isinstance") [u,c]) Q E s:=by
 cases ty with
 |non=>cases(show u=Mo from rx);exact GI PySem.W.kitx_none I.kIn Ha e (λz=>nomatch z) h
 |bl y=>cases(show u=Mp y from rx);exact GI PySem.W.kitx_bool I.kIn Ha e (λz=>nomatch z) h
 |int i=>obtain⟨t,q⟩:=(show∃t,u=J8 i t from rx);cases q;exact GI PySem.W.kitx_int I.kIn Ha e (λz=>nomatch z) h
 |str y=>obtain⟨t,q⟩:=(show∃t,u=LZ y t from rx);cases q;exact GI PySem.W.kitx_str I.kIn Ha e (λz=>nomatch z) h
 |flt y=>obtain⟨t,q⟩:=(show∃t,u=Nj y t from rx);cases q;exact GI PySem.W.kitx_float I.kIn Ha e (λz=>nomatch z) h
 |@lst a xs ea=>
  cases(show u=FY a from rx);obtain⟨_,_,n,_,h1⟩:=(show ObjOk X.prog X.w H s.heap a (.lst xs)from I.hok a _ ea);exact GI MJ I.kIn ⟨_,h1,rfl⟩ e (λz=>nomatch z) h
 |@frz a ob xs ea=>
  cases(show u=FY a from rx);obtain⟨_,_,_,n,_,h1⟩:=(show ObjOk X.prog X.w H s.heap a (.frz ob<|.lst xs)from I.hok a _ ea);exact GI MJ I.kIn ⟨_,h1,rfl⟩ e (λz=>nomatch z) h
 |@tup a xs ea=>
  cases(show u=FY a from rx);obtain⟨_,_,_,p⟩:=(show ObjOk X.prog X.w H s.heap a (.tup xs)from I.hok a _ ea);obtain⟨o,h1,h2,_⟩:=p;exact GI PySem.W.kitx_tuple I.kIn ⟨o,h1,h2⟩ e (λz=>nomatch z) h
 |@dK a kvs ea=>
  cases(show u=FY a from rx);obtain⟨_,_,vs,_,p⟩:=(show ObjOk X.prog X.w H s.heap a (.dK kvs)from I.hok a _ ea);obtain⟨o,es,ep,h1,h2,_⟩:=p;exact GI MK I.kIn ⟨o,h1,h2.1⟩ e (λz=>nomatch z) h
 |@dT a kvs ea=>
  cases(show u=FY a from rx);obtain⟨_,_,xs,_,o,es,ep,h1,h2,_⟩:=(show ObjOk X.prog X.w H s.heap a (.dT kvs)from I.hok a _ ea);exact GI MK I.kIn ⟨o,h1,h2.1⟩ e (λz=>nomatch z) h
 |@ins a C dx fs ea cl ha hn htk hm=>
  cases(show u=FY a from rx);obtain⟨mA,O,_⟩:=jz I.hok ea;obtain⟨od,J,_⟩:=O.look;exact GI (PySem.W.kitx_own (cl.get _) cl.hd ha hn htk hm) I.kIn J e (λz=>nomatch z) h
structure Room (k:Nat)(A:Gm):Prop where
 hd:A.handled=A'
 dp:A.depth+3*k+5 < NT
 un:A.units+16*k+200 < Ir
theorem Room.mono(r:Room k A)(h:j<=k):Room j A:=⟨r.hd,by have:=r.dp;lia,by have:=r.un;lia⟩
theorem Room.deeper(r:Room (k+1) A)(env:Env):Room k (A.deeper env):=
 ⟨r.hd,by have:=r.dp;show A.depth+1+3*k+5 < _;lia,by have:=r.un;show A.units+3+16*k+200 < _;lia⟩
theorem qd{A:Gm}{C:f'}{us:bc j'}{kw:bc (Str×j')}:(A.under<|.builtin "type.__call__" ⟨.ref C::us,kw⟩).depth=A.depth+1:=by
 first|rfl|simp [MP,Code.weight,Code.isCreation,Code.isGuard,Code.isCaller,Qb,MN,guardIds]
theorem qe{A:Gm}{C:f'}{us:bc j'}{kw:bc (Str×j')}:(A.under<|.builtin "type.__call__" ⟨.ref C::us,kw⟩).units=A.units+1:=by
 first|rfl|simp [MP,Code.cUnits,Qb,MN]
theorem Room.make(r:Room (k+1) A)(C:f')(us:bc j')(kw:bc (Str×j')):Room k (A.under<|.builtin "type.__call__" ⟨.ref C::us,kw⟩):=
 ⟨r.hd,by have:=r.dp;rw[qd];lia,by have:=r.un;rw[qe];lia⟩
theorem Room.depth(r:Room k A):A.depth < NT:=by have:=r.dp;lia
theorem Room.units(r:Room k A):A.units+64 < Ir:=by have:=r.un;lia
def D1:TA:=λ_ H Q=>Q [] H
def Cy(ta:TE)(tr:TA):TA:=λσ H Q=>ta σ H λx H1=>tr σ H1 λxs H2=>Q (x::xs) H2
theorem ae:PA X [] D1:=λ_ _ _ _ H Q I h=>Jk ⟨[],H,I,.nil,h⟩
theorem aa(ha:PE X e te)(hr:PA X es t)(hs:Fu (e::es) X.env=(B',G0 e X.env)::Fu es X.env:=by rfl):PA X (e::es) (Cy te t):=by
 intro pos kS s σ H Q I h;rw[hs];show wpAny _ _ (spliced<|(B',G0 e X.env)::HF pos (Fu es X.env)) _ _ s
 refine HA<|bp (ha kS s σ H _ I h) λu s1 ⟨x,H1,I1,r1,q1⟩=>?_;exact bp (hr pos kS s1 σ H1 _ I1 q1) λus s2 ⟨xs,H2,I2,r2,q2⟩=>⟨x::xs,H2,I2,.cons r1 r2,q2⟩
def D3(t:TA):TE:=λσ H Q=>t σ H λxs H1=>xs.length<=sizeLine/\∀p,H1 p=A'->Q (.ref p) (upd H1 p<|.tup xs)
def D4(t:TA):TE:=λσ H Q=>t σ H λxs H1=>xs.length<=sizeLine/\∀p,H1 p=A'->Q (.ref p) (upd H1 p<|.lst xs)
theorem bx{x1}(h:PA X es t):PE X (.Tuple es x1 pos) (D3 t):=by
 intro kS s σ H Q I hq;refine wpAny_Tuple_spliced<|bp (h pos kS s σ H _ I hq) λus s1 ⟨xs,H1,I1,r,z,q⟩=>⟨by rw[<-r.length];exact z,?_⟩;have hf:H1 s1.heap.objs.size=none:=I1.hok.fresh<|lb _;refine⟨.ref s1.heap.objs.size,upd H1 s1.heap.objs.size<|.tup xs,I1.laid (t':=s1.toks) (λb u e=>EV _ e) (lb _) ?_,rfl,q _ hf⟩;exact⟨z,us,r,⟨_,Fs _ rfl,rfl,_,rfl⟩⟩
theorem be(h:PA X es t):PE X (.List es pos) (D4 t):=by
 intro kS s σ H Q I hq;refine wpAny_List_spliced<|bp (h pos kS s σ H _ I hq) λus s1 ⟨xs,H1,I1,r,z,q⟩=>⟨by rw[<-r.length];exact z,?_⟩;have hf:H1 s1.heap.objs.size=none:=I1.hok.fresh<|lb _;refine⟨.ref s1.heap.objs.size,upd H1 s1.heap.objs.size<|.lst xs,I1.laid (t':=s1.toks) (λb u e=>EV _ e) (lb _) ?_,rfl,q _ hf⟩;exact⟨z,us,0,r,Fs _ rfl⟩
abbrev Sp:=bc V->Hp->VK->XK->Prop
abbrev uV:=bc Env->Hp->Bs->XK->j'->Bs->Prop
structure Env0 (P:E9)(w:Ft)(K:gV)(mg:Str->kb j')(base:FU)(A:Gm)(outer:bc Env)(s:Bs)(H:Hp):Prop where
 frames:A.frames=ab outer
 mod:Mod K mg base
 bs:∀b o,base.get? b=ab o->s.heap.get? b=ab o/\H b=A'
 bsz:base.objs.size<=s.heap.objs.size
 funs:s.heap.FunFrames base outer
 frf:∀b∈pQ outer,H b=A'
 hok:HOk P w H s.heap
 bare:Ks s.gens
def CE(outer:bc Env)(P:E9)(w:Ft)(H:Hp)(s:Bs)(Q:VK)(u:j')(s':Bs):Prop:=
 ∃v H',s'.os=s.os/\Ks s'.gens/\Un (pQ outer) [] H H' s.heap s'.heap/\HOk P w H' s'.heap/\RelV v u/\Q v H'
def CR(CX:uV)(outer:bc Env)(P:E9)(w:Ft)(H:Hp)(s:Bs)(Q:VK)(E:XK)(r:M8)(s':Bs):Prop:=
 match r with
 |.ok (.ret u)=>CE outer P w H s Q u s'
 |.ok _=>False
 |.error e=>CX outer H s E e s'
structure FnOk (P:E9)(w:Ft)(K:gV)(mg:Str->kb j')(base:FU)(CX:uV)(k:Nat)(f:f')(fd:E6)(ps:bc Str)(sp:Sp):Prop where
 len:∀vs H Q E,sp vs H Q E->vs.length=ps.length
 run:∀(A:Gm) (outer:bc Env) (s:Bs) (H:Hp) (args:Args) (us:bc j') (vs:bc V) (Q:VK) (E:XK),Room k A->Env0 P w K mg base A outer s H->MO s fd args (ps.zip us)->Vals vs us->sp vs H Q E->
  codeAny (FE P w) A (.call (.ref f) args) (CR CX outer P w H s Q E) s
theorem FnOk.mono{K:gV}(F:FnOk P w K mg base CX j f fd ps sp)(h:j<=k):
  FnOk P w K mg base CX k f fd ps sp:=⟨F.len,λA outer s H args us vs Q E hr=>F.run A outer s H args us vs Q E<|hr.mono h⟩
theorem FnOk.imp{K:gV}{Zr:Sp}(F:FnOk P w K mg base CX k f fd ps sp)
  (h:∀vs H Q E,Zr vs H Q E->sp vs H Q E):FnOk P w K mg base CX k f fd ps Zr:=
 ⟨λvs H Q E q=>F.len vs H Q E<|h _ _ _ _ q,λA outer s H args us vs Q E hr he hb hv hs=>F.run A outer s H args us vs Q E hr he hb hv<|h _ _ _ _ hs⟩
theorem Env0.make{K:gV}(e:Env0 P w K mg base A outer s H)(C:f')(us:bc j')(kw:bc (Str×j')):
  Env0 P w K mg base (A.under<|.builtin "type.__call__" ⟨.ref C::us,kw⟩) outer s H:=⟨by first|exact e.frames|(simpa [MP,Code.envs,MN,pushEnvs]using e.frames),e.mod,e.bs,e.bsz,e.funs,e.frf,e.hok,e.bare⟩
theorem Inv.env0(I:Inv X kS σ H s):Env0 X.prog X.w X.K X.mg X.base X.A X.stack s H:=
 ⟨I.ok.frames,I.ok.mod,I.bs,FM I.ok.bsz I.sz,I.stack,I.stkFree,I.hok,I.bare⟩
theorem Inv.after(I:Inv X kS σ H s)(h:CE X.stack X.prog X.w H s Q u s'):EP X kS σ Q u s':=by
 obtain⟨v,H',os,bare,un,hok,r,q⟩:=h;obtain⟨hh,g,d,t,Wo⟩:=s';obtain rfl:Wo=s.os:=os;exact⟨v,H',I.call (h':=hh) (g':=g) (d':=d) (t':=t) (ch:=[]) un hok bare (λb z=>absurd z<|by simp),r,q⟩
def zQ(sp:Sp)(O7:bc V)(E:XK)(t:TA):TE:=λσ H Q=>t σ H λvs H1=>sp (vs++O7) H1 Q E
def zR(C:f')(m:Str)(sp:Sp)(O7:bc V)(E:XK)(ta:TE)(t:TA):TE:=λσ H Q=>ta σ H λx H1=>∃a dx fs,x=.ref a/\H1 a=ab (.ins C dx fs)/\fs.lookup m=A'/\
 t σ H1 λvs H2=>sp (x::(vs++O7)) H2 Q E
def zT(C:f')(sp:Sp)(O7:bc V)(E:XK)(t:TA):TE:=λσ H Q=>t σ H λvs H1=>∀x dx,H1 x=A'->H1 dx=A'->dx≠x->
 sp (.ref x::(vs++O7)) (upd (upd H1 dx<|.own x) x<|.ins C dx []) (λv H2=>v=.non/\Q (.ref x) H2) E
def Binds(K:gV)(fd:E6)(ps:bc Str)(ds:bc j'):Prop:=
 ∀(s:Bs) (us:bc j'),K.In s.heap->(us++ds).length=ps.length->MO s fd ⟨us,[]⟩ (ps.zip<|us++ds)
theorem Binds.all{K:gV}(h:∀us,us.length=ps.length->NZ fd ⟨us,[]⟩=pure (ps.zip us)):Binds K fd ps []:=λs us _ hl=>by
 rw[GA]at hl ⊢;exact .of_eq<|h us hl
def iC(CX:uV)(X:Cx)(E:XK):Prop:=∀(kS:bc (f'×Obj)) (σ:St) (H:Hp) (s:Bs) (e:j') (s':Bs),Inv X kS σ H s->CX X.stack H s E e s'->X.xe e s'
section
variable {X:Cx}{CX:uV}{k:Nat}{f C:f'}{fd:E6}{ps:bc Str}{sp:Sp}{O7:bc V}{ds:bc j'}{E:XK}{x:Str}{p pos:Pos}{e:F'}{es:bc F'}{t:TA}
theorem ve{kS:bc (f'×Obj)}{σ:St}{H:Hp}{s:Bs}{Q:VK}{us:bc j'}{vs:bc V}(F:FnOk X.prog X.w X.K X.mg X.base CX k f fd ps sp)(hr:Room k X.A)(hb:Binds X.K fd ps ds)(hd:Vals O7 ds)(hx:iC CX X E)
  (I:Inv X kS σ H s) (r:Vals vs us) (h:sp (vs++O7) H Q E):wpAny (FE X.prog X.w) X.A (call (.ref f) us) (EP X kS σ Q) X.xe s:=by
 have r2:Vals (vs++O7) (us++ds):=r.append hd;have hl:(us++ds).length=ps.length:=by rw[<-r2.length];exact F.len _ _ _ _ h
 refine Mh<|Je (F.run X.A X.stack s H ⟨us,[]⟩ (us++ds) (vs++O7) Q E hr I.env0 (hb s us I.kIn hl) r2 h) λr s' hq=>?_;cases r with
 |error e=>exact hx kS σ H s e s' I hq
 |ok fl=>
  cases fl with
  |ret u=>exact I.after hq
  |next=>exact Gn hq
  |brk=>exact Gn hq
  |cont=>exact Gn hq
theorem yp(F:FnOk X.prog X.w X.K X.mg X.base CX k f fd ps sp)(hr:Room k X.A)(hg:Gl X x)(hm:X.mg x=ab (.ref f))(hk:x' X.K (.ref f)=kz)(hb:Binds X.K fd ps ds)(hd:Vals O7 ds)(hx:iC CX X E)
  (ha:PA X (e::es) t) (Qy:(x == ("__debug__":Str))=false:=by decide) (he:Fu (e::es) X.env=(B',G0 e X.env)::Fu es X.env:=by rfl) (Kj:(HF pos<|Fu es X.env).any (·.1)=false:=by rfl):
  PE X (.Call (.Name x p) (e::es) [] pos) (zQ sp O7 E t):=by
 intro kS s σ H Q I h;refine Gz<|jx I hg hm ?_ Qy;refine IT (h₀:=X.base) I.ok.mod.kin hk (bp (ha pos kS s σ H _ I h) λus s1 ⟨vs,H1,I1,r,q⟩=>⟨I1.kIn,?_⟩) he Kj;exact ve F hr hb hd hx I1 r q
theorem yq{m:Str}{Ln:Pos}{o:F'}{ta:TE}{pl:Sem ER}(he:PE X o ta)(c:Cls X.K C)(hm:Bd X.K C m f)(F:FnOk X.prog X.w X.K X.mg X.base CX k f fd ps sp)(hr:Room k X.A)(hb:Binds X.K fd ps ds)(hd:Vals O7 ds)(hx:iC CX X E)(ha:PA X (e::es) t)
  (OV:Fu (e::es) X.env=(B',G0 e X.env)::Fu es X.env:=by rfl) (Kj:(HF pos<|Fu es X.env).any (·.1)=false:=by rfl)
  (ht:G0 (.Call (.Attribute o m Ln) (e::es) [] pos) X.env=(do
   let ov <-G0 o X.env
   Pk Ln.atName
   let (f,first) <-K1 [ov] (M4 ov m pl)
   callWith pos f first (HF pos<|Fu (e::es) X.env) (N0 pos<|LC [] X.env)):=by rfl):
  PE X (.Call (.Attribute o m Ln) (e::es) [] pos) (zR C m sp O7 E ta t):=by
 intro kS s σ H Q I h;refine PySem.W.methodCall_KW (pl:=pl) (bp (he kS s σ H _ I h) λu s1 ⟨x,H1,I1,rx,a,dx,fs,ex,ea,l,q⟩=>?_) ht;subst ex;obtain rfl:u=FY a:=rx;refine pZ I1 ea c hm l ?_;refine IT (first:=[.ref a]) (h₀:=X.base) I.ok.mod.kin hm.kp (bp (ha pos kS s1 σ H1 _ I1 q) λus s2 ⟨vs,H2,I2,r,q2⟩=>⟨I2.kIn,?_⟩) OV Kj;exact ve (us:=.ref a::us) (vs:=.ref a::vs) F hr hb hd hx I2 (.cons rfl r) q2
structure Mk (K:gV)(C f:f'):Prop where
 makes:JV K C=kz
 init:FR K (.ref C) "__init__"=ab (ab<|.ref f)
 fn:HZ K (.ref f)=kz
 kp:x' K (.ref C)=kz
theorem vf{kS:bc (f'×Obj)}{σ:St}{H:Hp}{s:Bs}{Q:VK}{us:bc j'}{vs:bc V}(M:Mk X.K C f)(F:FnOk X.prog X.w X.K X.mg X.base CX k f fd ps sp)(hr:Room (k+1) X.A)(hb:Binds X.K fd ps ds)(hd:Vals O7 ds)
  (hx:iC CX X E) (I:Inv X kS σ H s) (r:Vals vs us)
  (h:∀x dx,H x=A'->H dx=A'->dx≠x->sp (.ref x::(vs++O7)) (upd (upd H dx<|.own x) x<|.ins C dx []) (λv H2=>v=.non/\Q (.ref x) H2) E):
  wpAny (FE X.prog X.w) X.A (call (.ref C) us) (EP X kS σ Q) X.xe s:=by
 have hq:=h (s.heap.objs.size+1) s.heap.objs.size (I.hok.fresh<|LL _) (I.hok.fresh<|lb _)<|Fi<|JJ _;have I2:=Inv.made (C:=C) I;have r2:Vals (V.ref (s.heap.objs.size+1)::(vs++O7)) (FY (s.heap.objs.size+1)::(us++ds)):=.cons rfl<|r.append hd;have hl:(FY (s.heap.objs.size+1)::us++ds).length=ps.length:=by
  have e:=r2.length;rw[F.len _ _ _ _ hq]at e;exact e.symm
 refine Mh (vd (f:=f) I.kIn M.makes M.init (J'.mp M.fn) (Je (F.run _ X.stack _ _ ⟨FY (s.heap.objs.size+1)::us,[]⟩ (FY (s.heap.objs.size+1)::(us++ds)) _ _ E (hr.make C us [])
  (I2.env0.make C us []) (hb _ (FY (s.heap.objs.size+1)::us) I2.kIn hl) r2 hq) λr s' Qi=>?_))
 cases r with
 |error e=>exact hx kS σ _ _ e s' I2 Qi
 |ok fl=>
  cases fl with
  |ret u=>
   obtain⟨v,H',I3,rv,ev,q3⟩:=I2.after Qi;subst ev;exact⟨rv,⟨V.ref<|s.heap.objs.size+1,H',I3,rfl,q3⟩⟩
  |next=>exact Gn Qi
  |brk=>exact Gn Qi
  |cont=>exact Gn Qi
theorem yr(M:Mk X.K C f)(F:FnOk X.prog X.w X.K X.mg X.base CX k f fd ps sp)(hr:Room (k+1) X.A)(hg:Gl X x)(hm:X.mg x=ab (.ref C))(hb:Binds X.K fd ps ds)(hd:Vals O7 ds)(hx:iC CX X E)
  (ha:PA X (e::es) t) (Qy:(x == ("__debug__":Str))=false:=by decide) (he:Fu (e::es) X.env=(B',G0 e X.env)::Fu es X.env:=by rfl) (Kj:(HF pos<|Fu es X.env).any (·.1)=false:=by rfl):
  PE X (.Call (.Name x p) (e::es) [] pos) (zT C sp O7 E t):=by
 intro kS s σ H Q I h;refine Gz<|jx I hg hm ?_ Qy;refine IT (h₀:=X.base) I.ok.mod.kin M.kp (bp (ha pos kS s σ H _ I h) λus s1 ⟨vs,H1,I1,r,q⟩=>⟨I1.kIn,?_⟩) he Kj;exact vf M F hr hb hd hx I1 r q
end
structure ax (N P:bc Str)(sc:Iv):Prop where
 kind:sc.kind=.function
 co:sc.isCoroutine=B'
 gen:sc.isGenerator=B'
 nd:N.Nodup
 pre:N.take P.length=P
 par:∀x∈P,sc.names.lookup x=ab .local\/sc.names.lookup x=ab .cell
 nofree:∀y∈sc.names,y.2≠.free
theorem lg{kindOf:Str->kb Ke}:∀{binds:bc (Str×j')} {m:Str->kb j'},(∀v,(x,v)∉binds)->NW kindOf binds m x=m x
 |[],_,_=>rfl
 |(n,v)::r,m,h=>by
  unfold NW;rw[lg λw hw=>h w<|Fx _ hw]
  split
  ·have:x≠n:=by rintro rfl;exact h v Fz
   simp [this]
  ·rfl
theorem li{kindOf:Str->kb Ke}:∀{binds:bc (Str×j')} {m:Str->kb j'},(∀v,(x,v)∉binds)->NX kindOf binds m x=m x
 |[],_,_=>rfl
 |(n,v)::r,m,h=>by
  unfold NX;rw[li λw hw=>h w<|Fx _ hw]
  split
  ·rfl
  ·have:x≠n:=by rintro rfl;exact h v Fz
   simp [this]
theorem lj{kindOf:Str->kb Ke}:∀{P:bc Str} {vs:bc j'} {i:Nat} {m:Str->kb j'},P.Nodup->P[i]? =ab x->vs[i]? =ab v->kindOf x=ab .local->
  NW kindOf (P.zip vs) m x=ab v
 |[],_,_,_,_,h,_,_=>by simp at h
 |_::_,[],_,_,_,_,h,_=>by simp at h
 |p::P,w::vs,0,m,nd,h1,h2,hk=>by
  simp at h1 h2;subst h1;subst h2;show NW kindOf ((p,w)::P.zip vs) m p=_
  unfold NW;rw[lg λv hv=>(GK.mp nd).1 (IP hv).1,Fc hk];simp
 |p::P,w::vs,i+1,m,nd,h1,h2,hk=>by
  show NW kindOf ((p,w)::P.zip vs) m x=_
  unfold NW;exact lj (i:=i) (GK.mp nd).2 (by simpa using h1) (by simpa using h2) hk
theorem lm{kindOf:Str->kb Ke}:∀{P:bc Str} {vs:bc j'} {i:Nat} {m:Str->kb j'},P.Nodup->P[i]? =ab x->vs[i]? =ab v->kindOf x≠ab .local->
  NX kindOf (P.zip vs) m x=ab v
 |[],_,_,_,_,h,_,_=>by simp at h
 |_::_,[],_,_,_,_,h,_=>by simp at h
 |p::P,w::vs,0,m,nd,h1,h2,hk=>by
  simp at h1 h2;subst h1;subst h2;show NX kindOf ((p,w)::P.zip vs) m p=_
  unfold NX;rw[li λv hv=>(GK.mp nd).1 (IP hv).1,E7 hk];simp
 |p::P,w::vs,i+1,m,nd,h1,h2,hk=>by
  show NX kindOf ((p,w)::P.zip vs) m x=_
  unfold NX;exact lm (i:=i) (GK.mp nd).2 (by simpa using h1) (by simpa using h2) hk
def start(N:bc Str)(vs:bc V):St:=vs.map ab++List.replicate (N.length - vs.length) A'
def qf(CX:uV)(P:E9)(w:Ft)(K:gV)(mg:Str->kb j')(base:FU)(N:bc Str)(qual:Str)(scope:Iv)(f:f')(cd:j')(A:Gm)(outer:bc Env)(s:Bs)(H:Hp)(E:XK):Cx where
 prog:=P
 w:=w
 K:=K
 mg:=mg
 base:=base
 A:=A.deeper (Ho qual scope s.heap.objs.size f cd)
 N:=N
 s₀:=s
 H₀:=H
 env:=Ho qual scope s.heap.objs.size f cd
 outer:=outer
 stack:=Ho qual scope s.heap.objs.size f cd::outer
 ex:=[]
 calm:=kz
 fn:=λ_=>kz
 pn:=[]
 xe:=λe s'=>wpAny (FE P w) (A.deeper<|Ho qual scope s.heap.objs.size f cd) (leaving (Ho qual scope s.heap.objs.size f cd) e) (λ_ Tq=>CX outer H s E e Tq) (λe' Tq=>CX outer H s E e' Tq) s'
theorem nP{sc:Iv}{n:Nat}{x:Str}(h:sc.names.lookup x=ab .cell):∃c,(Ge n sc.names []).lookup x=ab c:=by
 have q:=K4 sc.names n []<|.inl h;exact IJ.mp q
theorem tJ{CX:uV}{P:E9}{w:Ft}{K:gV}{mg:Str->kb j'}{base:FU}{N ps:bc Str}{qual:Str}{scope:Iv}{f:f'}{cd:j'}{A:Gm}{outer:bc Env}{s s1:Bs}{H:Hp}{E:XK}{us:bc j'}{vs:bc V}
  (S:ax N ps scope) (hd:A.handled=A') (e0:Env0 P w K mg base A outer s H) (hl:vs.length=ps.length) (r:Vals vs us)
  (x:InCallC s s.heap.objs.size (NW (Ho qual scope s.heap.objs.size f cd).kindOf (ps.zip us) λ_=>A') (Ge (s.heap.objs.size+1) scope.names []) (NX (Ho qual scope s.heap.objs.size f cd).kindOf (ps.zip us) λ_=>A') s1):
  Inv (qf CX P w K mg base N qual scope f cd A outer s H E) [] (start N vs) H s1:=by
 have Kj:ps.length<=N.length:=by have:=Gg Hv S.pre;rw[FO]at this;lia
 obtain⟨h1,tk,rfl,hk⟩:=x.done;have Yi:∀b,b∉(qf CX P w K mg base N qual scope f cd A outer s H E).ex:=λb z=>absurd (show b∈([]:bc f')from z) (by simp);refine⟨⟨e0.mod,S.kind,rfl,rfl,lb _,λy z c h1 h2=>?_,λy hy=>?_,λy c _ h=>?_,λ_=>hd,LI e0.frames,.inr ⟨rfl,rfl⟩,λb z=>absurd z<|Yi b,e0.bs,e0.bsz,λb _ _=>Yi b,λb z=>absurd z<|Yi b,e0.funs,e0.frf⟩,
  rfl,e0.bare,Un.kept hk,⟨_,x.toInCall.ns,λi y v h1 h2 h3=>?_⟩,λy c h=>⟨_,x.cell y c h⟩,e0.hok.fresh<|lb _,λy c h=>?_,λp hp=>absurd (show p∈([]:bc (f'×Obj))from hp) (by simp),e0.hok.kept hk,?_⟩
 ·exact MG x.apart (F_ h1)<|F_ h2
 ·have hy:scope.names.lookup y=ab .cell\/scope.names.lookup y=ab .free:=hy;obtain hy|hy:=hy
  ·exact nP hy
  ·exact absurd rfl<|S.nofree _<|F_ hy
 ·exact FQ<|x.above y c<|F_ h
 ·have hi:i < vs.length:=by
   unfold start at h2;by_cases hi:i < vs.length
   ·exact hi
   ·rw[F0<|by simpa using hi]at h2;rw[List.getElem?_replicate]at h2
    split at h2<;>cases h2
  have ha:vs[i]? =ab v:=by
   unfold start at h2;rw[Ga (by simpa using hi),Fk]at h2;cases e:vs[i]? with
   |none=>rw[e]at h2;cases h2
   |some a=>rw[e]at h2;cases h2;rfl
  obtain⟨u,hu,rv⟩:=r.get ha;have hp:ps[i]? =ab y:=by
   rw[<-S.pre,List.getElem?_take_of_lt<|by lia];exact h1
  have ZD:ps.Nodup:=by rw[<-S.pre];exact S.nd.sublist<|List.take_sublist _ _
  exists u,rv;obtain k|k:=S.par y (Fd hp)
  ·exact .inl ⟨k,lj ZD hp hu k⟩
  ·obtain⟨c,e⟩:=nP (n:=s.heap.objs.size+1) k;refine .inr ⟨.inl k,c,e,?_⟩;have q:=x.cell y c e;rw[lm ZD hp hu (by show scope.names.lookup y≠_;rw[k];decide)]at q;exact q
 ·exact e0.hok.fresh<|FQ<|x.above y c<|F_ h
 ·unfold start;show _=N.length
  rw[C',ka,List.length_replicate];lia
theorem zU{CX:uV}{P:E9}{w:Ft}{K:gV}{mg:Str->kb j'}{base:FU}{k:Nat}{f:f'}{name qual:Str}{params:IB}{body:bc Gs}{scope:Iv}{dV kV NJ pm HL ct oc:j'}{an od:kb f'}
  {Q4:HK (kb j')} {N ps:bc Str} {sp:Sp} (lk:K.lookup f=ab ⟨oc,od,.func<|EZ name qual params body scope dV kV NJ pm an HL ct,Q4⟩) (O6:EU K HL qual=kz) (S:ax N ps scope)
  (len:∀vs H Q E,sp vs H Q E->vs.length=ps.length)
  (PN:∀A outer s H vs Q E,Room k (A.deeper<|Ho qual scope s.heap.objs.size f HL)->sp vs H Q E->
   ∃t,PSs (qf CX P w K mg base N qual scope f HL A outer s H E) body t/\t {nx:=λ_ H'=>Q .non H',rt:=Q} (start N vs) H):
  FnOk P w K mg base CX (k+1) f (EZ name qual params body scope dV kV NJ pm an HL ct) ps sp:=by
 refine⟨len,λA outer s H args us vs Q E hr e0 hb r Ri=>?_⟩;have hl:=len _ _ _ _ Ri;have KX:K.In s.heap:=e0.mod.kin.keeps λb o e=>(e0.bs b o e).1;have Yp:s.heap.NoLimit:=e0.mod.nolimit.keeps λb o e=>(e0.bs b o e).1;have Ue:∀y∈ps.zip us,scope.names.lookup y.1=ab .local\/(scope.names.lookup y.1=ab .cell/\((Ge (s.heap.objs.size+1) scope.names []).lookup y.1).isSome=kz):=λ⟨n,v⟩ hy=>by
  obtain q|q:=S.par n (IP hy).1
  ·exact .inl q
  ·exact .inr ⟨q,K4 _ _ _<|.inl q⟩
 refine codeAny_call_function hr.depth (KX _ _ lk) rfl S.co S.gen rfl (PySem.W.codeRec_of KX O6)<|hb _ _ _ _ ?_;refine wpAny_newFunctionEnv_cells S.kind Ue λenv he s1 x=>?_;subst he;refine⟨Yp.keeps x.toInCall.keep,codeAny_func ?_⟩;obtain⟨t,ht,hq⟩:=PN A outer s H vs Q E (hr.deeper _) Ri;have I:Inv (qf CX P w K mg base N qual scope f HL A outer s H E) [] (start N vs) H s1:=tJ S hr.hd e0 hl r x;refine GX (ht [] s1 (start N vs) H _ I hq) (λfl s' hs=>?_) λe s' hs=>hs;have Mx:∀{σ':St} {H':Hp} {v:V} {u:j'},Inv (qf CX P w K mg base N qual scope f HL A outer s H E) [] σ' H' s'->RelV v u->Q v H'->CE outer P w H s Q u s':=
  λ{σ' H' v u} J rv q=>⟨v,H',J.os,J.bare,J.base,J.hok,rv,q⟩
 cases fl with
 |ret u=>
  obtain⟨v,σ',H',J,rv,q⟩:=hs;exact Mx J rv q
 |next=>
  obtain⟨σ',H',J,q⟩:=hs;exact Mx (v:=V.non) (u:=Mo) J rfl q
 |brk=>
  obtain⟨_,_,_,q⟩:=hs;exact Gn q
 |cont=>
  obtain⟨_,_,_,q⟩:=hs;exact Gn q
section
variable {X:Cx}{x:Str}{p pos:Pos}{e:F'}{es:bc F'}{t:TA}{id:HP}{r:bc V->Hp->VK->Prop}
def Et(r:bc V->Hp->VK->Prop)(t:TA):TE:=λσ H Q=>t σ H λvs H1=>r vs H1 Q
theorem aq(hc:dB X (.builtin id) r)(hg:Gl X x)(hm:X.mg x=A')(hv:Jg x=ab (.builtin id))(ha:PA X (e::es) t)(hn:x≠"__name__":=by decide)(Qy:(x == ("__debug__":Str))=false:=by decide)
  (he:Fu (e::es) X.env=(B',G0 e X.env)::Fu es X.env:=by rfl) (Kj:(HF pos<|Fu es X.env).any (·.1)=false:=by rfl):PE X (.Call (.Name x p) (e::es) [] pos) (Et r t):=by
 intro kS s σ H Q I h;refine Gz<|cW I hg hm hv ?_ hn Qy;exact M' (bp (ha pos kS s σ H _ I h) λus s1 ⟨vs,H1,I1,r1,q1⟩=>hc kS s1 σ H1 vs us Q I1 r1 q1) he Kj
theorem bn{T:HP}(hc:dB X (.type T) r)(hg:Gl X x)(hm:X.mg x=A')(hv:Jg x=ab (.type T))(ha:PA X (e::es) t)(hn:x≠"__name__":=by decide)(Qy:(x == ("__debug__":Str))=false:=by decide)
  (he:Fu (e::es) X.env=(B',G0 e X.env)::Fu es X.env:=by rfl) (Kj:(HF pos<|Fu es X.env).any (·.1)=false:=by rfl):PE X (.Call (.Name x p) (e::es) [] pos) (Et r t):=by
 intro kS s σ H Q I h;refine Gz<|cW I hg hm hv ?_ hn Qy;exact Gi (bp (ha pos kS s σ H _ I h) λus s1 ⟨vs,H1,I1,r1,q1⟩=>hc kS s1 σ H1 vs us Q I1 r1 q1) he Kj
end
end L2
namespace HT
open PySem PyProof.Rows
def sIx(n d:Nat):kb Int->Nat
 |none=>d
 |some v=>if v < 0 then(v+(n:Int)).toNat else min v.toNat n
theorem sIx_nat(n d k:Nat):sIx n d (ab (k:Int))=min k n:=by
 show(if(k:Int) < 0 then((k:Int)+(n:Int)).toNat else min (k:Int).toNat n)=min k n
 rw[E7 (by lia),Jv]
end HT
namespace L2
open PySem PySem.Spec PyProof.Rows
abbrev TO:=St->Hp->(kb Int->Hp->Prop)->Prop
def PO(X:Cx)(e:kb F')(t:TO):Prop:=
 ∀(kS:bc (f'×Obj)) (s:Bs) (σ:St) (H:Hp) (Q:kb Int->Hp->Prop),Inv X kS σ H s->t σ H Q->
  wpAny (FE X.prog X.w) X.A (evalPart e X.env) (λu s'=>∃o H',Inv X kS σ H' s'/\IsPart u o/\Q o H') X.xe s
def yt:TO:=λ_ H Q=>Q A' H
def Cz(t:TE):TO:=λσ H Q=>t σ H λx H1=>∃i,x=.int i/\Q (ab i) H1
theorem qg:∀{us:bc j'},Vals (ns.map V.int) us->Kr us ns:=by
 induction ns with
 |nil=>intro us r;rw[J7]at r;cases r;exact .nil
 |cons n ns ih=>
  intro us r;rw[FA]at r;cases r with
  |cons r1 r2=>
   obtain⟨t,e⟩:=r1;subst e;exact .cons n t<|ih r2
section
variable {lo:kb F'}
theorem fg:PO X A' yt:=by
 intro kS s σ H Q I h;rw[Ox];exact Fm ⟨A',H,I,.none,h⟩
theorem dw(h:PE X e te):PO X (ab e) (Cz te):=by
 intro kS s σ H Q I hw;rw[evalPart_some];refine bp (h kS s σ H _ I hw) λu s1 ⟨x,H1,I1,r1,q1⟩=>?_;obtain⟨i,rfl,q⟩:=q1;obtain⟨t,rfl⟩:=r1;exact⟨ab i,H1,I1,.int i t,q⟩
def Eu(X:Cx)(r:V->kb Int->kb Int->Hp->VK->Prop):Prop:=
 ∀(kS:bc (f'×Obj)) (s:Bs) (σ:St) (H:Hp) (x:V) (v vl vu:j') (lo hi:kb Int) (sl:f') (Q:VK),Inv X kS σ H s->RelV x v->s.heap.IsSliceOf sl vl vu .none->IsPart vl lo->IsPart vu hi->r x lo hi H Q->
  ∃T id,NS (.type T) "__getitem__"=pure (ab<|.builtin id)/\s.TypeIs v T/\wpAny (FE X.prog X.w) X.A (MH v<|.ref sl) (EP X kS σ Q) X.xe s
def EK(r:V->kb Int->kb Int->Hp->VK->Prop)(te:TE)(tl th:TO):TE:=λσ H Q=>te σ H λx H1=>tl σ H1 λl H2=>th σ H2 λu H3=>r x l u H3 Q
theorem dj(hr:Eu X r)(he:PE X e te)(hl:PO X lo tl)(hu:PO X hi th):PE X (.Subscript e (.Slice lo hi A' p2) pos) (EK r te tl th):=by
 intro kS s σ H Q I h;refine N6<|bp (he kS s σ H _ I h) λv s1 ⟨x,H1,I1,r1,q1⟩=>?_;refine wpAny_Slice<|bp (hl kS s1 σ H1 _ I1 q1) λvl s2 ⟨l,H2,I2,pl,q2⟩=>bp (hu kS s2 σ H2 _ I2 q2) λvu s3 ⟨u,H3,I3,pu,q3⟩=>?_;rw[Ox];refine Fm ?_;have I4:Inv X kS σ H3 {s3 with heap:=s3.heap.push {cls:=.type "slice",data:=.fields #[vl,vu,.none]}}:=I3.kept (t':=s3.toks) λb ob q=>EV _ q;obtain⟨T,id,hT,ht,hg⟩:=hr kS {s3 with heap:=s3.heap.push {cls:=.type "slice",data:=.fields #[vl,vu,.none]}} σ H3 x v vl vu l u s3.heap.objs.size Q I4 r1 (QP ..) pl pu q3;show wpAny (FE X.prog X.w) X.A (Mb e (.Slice lo hi A' p2) v<|.ref s3.heap.objs.size) (EP X kS σ Q) X.xe {s3 with heap:=s3.heap.push {cls:=.type "slice",data:=.fields #[vl,vu,.none]}}
 exact tail_any (ops:=[.ref s3.heap.objs.size,v]) ht hT hg (by with_unfolding_all rfl)
def dq(xs:bc V)(lo hi:kb Int):bc V:=(xs.drop<|HT.sIx xs.length 0 lo).take<|HT.sIx xs.length xs.length hi - HT.sIx xs.length 0 lo
theorem nQ(xs:bc V)(lo hi:kb Int):(dq xs lo hi).length<=xs.length:=by
 unfold dq;rw[FO,Hi];lia
end
def Be(n:Nat)(i:Int):kb Nat:=if 0<=i then(if i < n then ab i.toNat else A')else if -(n:Int)<=i then ab (i+n).toNat else A'
def kL{α:Type}(xs:bc α)(i:Int):kb α:=(Be xs.length i).bind λj=>xs[j]?
theorem yu(h:Be n i=ab j):LW i n=ab j/\j < n/\ -(n:Int)<=i/\i < n:=by
 unfold Be at h;by_cases h0:0<=i
 ·rw[Fc h0]at h;by_cases h1:i < n
  ·rw[Fc h1]at h;have e:i.toNat=j:=Fe h;exact⟨by rw[seqIndex_of h0 h1,e],by lia,by lia,h1⟩
  ·rw[E7 h1]at h;cases h
 ·rw[E7 h0]at h;by_cases h1:-(n:Int)<=i
  ·rw[Fc h1]at h;have e:(i+n).toNat=j:=Fe h;exact⟨by rw[seqIndex_neg (by lia) h1,e],by lia,h1,by lia⟩
  ·rw[E7 h1]at h;cases h
theorem mF{α:Type}{xs:bc α}{i:Int}{v:α}(h:kL xs i=ab v):∃j,LW i xs.length=ab j/\xs[j]? =ab v/\j < xs.length/\ -(xs.length:Int)<=i/\i < xs.length:=by
 unfold kL at h;cases e:Be xs.length i with
 |none=>rw[e]at h;cases h
 |some j=>
  rw[e]at h;obtain⟨h1,h2,h3,h4⟩:=yu e;exact⟨j,h1,h,h2,h3,h4⟩
theorem bf{α:Type}{xs:bc α}{j:Nat}{v:α}(h:xs[j]? =ab v):kL xs (j:Int)=ab v:=by
 have hj:j < xs.length:=(ES.mp h).1;have e:Be xs.length (j:Int)=ab j:=by
  unfold Be;rw[Fc (by lia),Fc<|by lia];simp
 unfold kL;rw[e];exact h
def yw(b:F'):Prop:=∀o i,LA b B' o i=operate [o,i] (MH o i)
def IxR(X:Cx)(r:R2):Prop:=
 ∀(value KG:F') (kS:bc (f'×Obj)) (s:Bs) (σ:St) (H:Hp) (x y:V) (v u:j') (Q:VK),Inv X kS σ H s->RelV x v->RelV y u->r x y H Q->
  LA KG B' v u=operate [v,u] (MH v u)->wpAny (FE X.prog X.w) X.A (Mb value KG v u) (EP X kS σ Q) X.xe s
def D5(X:Cx)(id:HP)(r:V->bc V->Hp->VK->Prop):Prop:=
 ∀(kS:bc (f'×Obj)) (s:Bs) (σ:St) (H:Hp) (x:V) (xs:bc V) (v:j') (us:bc j') (Q:VK),Inv X kS σ H s->RelV x v->Vals xs us->r x xs H Q->
  wpAny (FE X.prog X.w) X.A (call (.builtin id)<|v::us) (EP X kS σ Q) X.xe s
section
theorem IxR.or(h:IxR X r)(h':IxR X r'):IxR X (λx y H Q=>r x y H Q\/r' x y H Q):=by
 intro value KG kS s σ H x y v u Q I rx ry q hs;obtain q|q:=q
 ·exact h value KG kS s σ H x y v u Q I rx ry q hs
 ·exact h' value KG kS s σ H x y v u Q I rx ry q hs
theorem aA(hr:IxR X r)(ha:PE X a ta)(hb:PE X b tb)(hs:yw b):PE X (.Subscript a b pos) (Dw r ta tb):=by
 intro kS s σ H Q I h;exact N6<|A_ ha hb I h λv u s2 x y H2 I2 rx ry q=>hr a b kS s2 σ H2 x y v u Q I2 rx ry q<|hs _ _
inductive CA (K:gV)(x y:V)(H:Hp)(Q:VK):Prop
 |mk (p:f')(xs:bc V)(i:Int)(v:V)(hx:x=.ref p)(hy:y=.int i)(h:SqL K H p xs)(e:kL xs i=ab v)(q:Q v H):CA K x y H Q
inductive CC (K:gV)(x y:V)(H:Hp)(Q:VK):Prop
 |mk (p:f')(xs:bc V)(i:Int)(v:V)(hx:x=.ref p)(hy:y=.int i)(h:SqT K H p xs)(e:kL xs i=ab v)(q:Q v H):CC K x y H Q
inductive CD (x y:V)(H:Hp)(Q:VK):Prop
 |mk (z:Str)(i:Int)(c:Nat)(hx:x=.str z)(hy:y=.int i)(h:z.length<=sizeLine)(e:kL z.cps.toList i=ab c)(q:Q (.str ⟨#[c]⟩) H):CD x y H Q
def CF(K:gV):R2:=λx y H Q=>CA K x y H Q
def CG(K:gV):R2:=λx y H Q=>CC K x y H Q
def CH:R2:=λx y H Q=>CD x y H Q
theorem ix_list:IxR X (CF X.K):=by
 intro value KG kS s σ H x y v u Q I rx ry h hs;obtain⟨p,xs,i,z,rfl,rfl,hq,he,q⟩:=h;cases rx;obtain⟨t,rfl⟩:=ry;obtain⟨Gx,r,pl,hz⟩:=I.list hq;obtain⟨j,h1,h2,h3,h4,h5⟩:=mF he;obtain⟨w,ew,O3⟩:=r.get h2;have hl:=r.length;have hn:=iz;have Mx:EP X kS σ Q w s:=⟨z,H,I,O3,q⟩;by_cases h0:0<=i
 ·have hj:i.toNat=j:=by
   rw[seqIndex_of h0 h5]at h1;exact Fe h1
  exact item_listR pl.isList h0 (by lia) (by rw[hj];simpa using ew) Mx hs
 ·have hj:(i+(Gx.toArray.size:Int)).toNat=j:=by
   rw[seqIndex_neg (by lia) h4]at h1;rw[Ff,<-hl];exact Fe h1
  exact K9 (x:=w) pl.isList.typeIs slot_list_getitem.lookup
   (wpAny_getItem_list_neg (Q:=λr s'=>r=w/\EP X kS σ Q r s') pl.isList (by lia) (by rw[Ff]<;>lia) (by lia) (by rw[hj];simpa using ew) ⟨rfl,Mx⟩) hs
theorem ix_tup:IxR X (CG X.K):=by
 intro value KG kS s σ H x y v u Q I rx ry h hs;obtain⟨p,xs,i,z,rfl,rfl,hq,he,q⟩:=h;cases rx;obtain⟨t,rfl⟩:=ry;obtain⟨Gx,r,pl,hz⟩:=I.tuple hq;obtain⟨j,h1,h2,h3,h4,h5⟩:=mF he;obtain⟨w,ew,O3⟩:=r.get h2;have hl:=r.length;have hn:=iz;have Mx:EP X kS σ Q w s:=⟨z,H,I,O3,q⟩;exact K9 (x:=w) pl.typeIs slot_tuple_getitem.lookup
  (getItem_tuple (j:=j) (Q:=λr s'=>r=w/\EP X kS σ Q r s') pl (by lia) (by lia) (by rw[Ff,<-hl];exact h1) (by simpa using ew) ⟨rfl,Mx⟩) hs
theorem Bf:IxR X CH:=by
 intro value KG kS s σ H x y v u Q I rx ry h hs;obtain⟨z,i,c,rfl,rfl,hz,he,q⟩:=h;obtain⟨t,rfl⟩:=rx;obtain⟨t',rfl⟩:=ry;obtain⟨j,h1,h2,h3,h4,h5⟩:=mF he;have hl:z.cps.toList.length=z.length:=by simp [Str.length]
 rw[hl]at h1 h4 h5;have hn:=iz;exact tail_any (typeIs_str s z t) slot_str_getitem.lookup (getItem_str (c:=c) (by
  have e1:decide (i < -(2 ^ 63:Int))=false:=E_ (by lia);have e2:decide (i>=2 ^ 63)=false:=E_ (by lia);rw[e1,e2,Mc]) (by rw[h1];simpa using h2) ⟨.str ⟨#[c]⟩,H,I.tok _,⟨_,rfl⟩,q⟩) hs
def D6(K:gV):R2:=λx y H Q=>CF K x y H Q\/CG K x y H Q\/CH x y H Q
theorem av:IxR X (D6 X.K):=ix_list.or<|ix_tup.or Bf
theorem mG(lo hi:kb Int)(n:Nat):(IZ lo hi A' n).1=((HT.sIx n 0 lo:Nat):Int)/\(IZ lo hi A' n).2.1=((HT.sIx n n hi:Nat):Int)/\(IZ lo hi A' n).2.2=1:=by
 refine⟨?_,?_,rfl⟩
 ·cases lo with
  |none=>simp [IZ,HT.sIx]
  |some i=>
   simp only [IZ,HT.sIx,Na,show(1:Int) > 0 by decide,J5];by_cases h:i < 0
   ·simp only [h,J5]<;>lia
   ·simp only [h,Lz]<;>lia
 ·cases hi with
  |none=>simp [IZ,HT.sIx]
  |some i=>
   simp only [IZ,HT.sIx,Na,show(1:Int) > 0 by decide,J5];by_cases h:i < 0
   ·simp only [h,J5]<;>lia
   ·simp only [h,Lz]<;>lia
theorem kO(Gx:bc j')(lo hi:kb Int):slicePick Gx.toArray lo hi A'=((Gx.drop<|HT.sIx Gx.length 0 lo).take<|HT.sIx Gx.length Gx.length hi - HT.sIx Gx.length 0 lo).toArray:=by
 obtain⟨h1,h2,h3⟩:=mG lo hi Gx.toArray.size;unfold slicePick;rw[h1,h2,h3];simp only [sliceRange_one,pick_run,Ff]<;>rfl
def D7(K:gV):V->kb Int->kb Int->Hp->VK->Prop:=λx lo hi H Q=>∃a xs,x=.ref a/\SqL K H a xs/\∀p,H p=A'->Q (.ref p) (upd H p<|.lst<|dq xs lo hi)
theorem dW:Eu X (D7 X.K):=by
 intro kS s σ H x v vl vu lo hi sl Q I rx hs pl pu h;obtain⟨a,xs,rfl,hx,q⟩:=h;cases rx;obtain⟨Gx,r,ht,hz⟩:=I.list hx;have G':=r.length;exists "list",_,slot_list_getitem.lookup,ht.isList.typeIs;refine wpAny_getItem_list_slice ht.isList hs pl pu .none (by simp) ?_ (by rw[Ff]<;>lia);rw[kO,<-G'];refine⟨.ref s.heap.objs.size,_,I.laid (t':=s.toks) (o:=.lst<|dq xs lo hi) (λb ob q=>EV _ q) (lb _) ?_,rfl,q _<|I.hok.fresh<|lb _⟩;exact⟨FM (nQ xs lo hi) hz,_,0,(r.drop<|HT.sIx xs.length 0 lo).take<|HT.sIx xs.length xs.length hi - HT.sIx xs.length 0 lo,Fs _ rfl⟩
def gA:V->ER
 |.non=>kz
 |.bl _=>kz
 |.int _=>kz
 |.str _=>kz
 |_=>B'
def zV:V->V->ER
 |.non,.non=>kz
 |.bl a,.bl b=>a == b
 |.bl a,.int b=>(if a then 1 else 0) == b
 |.int a,.bl b=>a == (if b then 1 else 0)
 |.int a,.int b=>a == b
 |.str a,.str b=>a == b
 |_,_=>B'
theorem Bg(ry:RelV y u)(rx:RelV x v)(fy:gA y=kz)(fx:gA x=kz):QN A s u v (zV y x):=by
 cases y with
 |non=>
  cases ry;cases x with
  |non=>cases rx;exact Rj _
  |bl b=>cases rx;exact P8 b
  |int b=>obtain⟨t,rfl⟩:=rx;exact Qn b t
  |str b=>obtain⟨t,rfl⟩:=rx;exact Qm b t
  |_=>exact absurd (show B'=kz from fx) i'
 |bl a=>
  cases ry;cases x with
  |non=>cases rx;exact P9 a
  |bl b=>cases rx;exact P_ a b
  |int b=>obtain⟨t,rfl⟩:=rx;exact Qr a b t
  |str b=>obtain⟨t,rfl⟩:=rx;exact Qq a b t
  |_=>exact absurd (show B'=kz from fx) i'
 |int a=>
  obtain⟨t',rfl⟩:=ry;cases x with
  |non=>cases rx;exact Qo a t'
  |bl b=>cases rx;exact Qp a t' b
  |int b=>obtain⟨t,rfl⟩:=rx;exact QM a t' b t
  |str b=>obtain⟨t,rfl⟩:=rx;exact Mr a t' b t
  |_=>exact absurd (show B'=kz from fx) i'
 |str a=>
  obtain⟨t',rfl⟩:=ry;cases x with
  |non=>cases rx;exact Qk a t'
  |bl b=>cases rx;exact Ql a t' b
  |int b=>obtain⟨t,rfl⟩:=rx;exact Mq a t' b t
  |str b=>obtain⟨t,rfl⟩:=rx;exact QL a t' b t
  |_=>exact absurd (show B'=kz from fx) i'
 |_=>exact absurd (show B'=kz from fy) i'
def qh(x:V)(u:j'):ER:=match u with
 |.none=>zV .non x
 |.bool b=>zV (.bl b) x
 |.int i _=>zV (.int i) x
 |.str z _=>zV (.str z) x
 |_=>B'
theorem vg(r:RelV y u)(f:gA y=kz):qh x u=zV y x:=by
 cases y with
 |non=>cases r;rfl
 |bl b=>cases r;rfl
 |int i=>obtain⟨t,rfl⟩:=r;rfl
 |str z=>obtain⟨t,rfl⟩:=r;rfl
 |_=>exact absurd (show B'=kz from f) i'
theorem gW:∀{xs:bc V} {us:bc j'},Vals xs us->xs.all gA=kz->us.any (qh x)=xs.any λy=>zV y x
 |_,_,.nil,_=>rfl
 |y::xs,u::us,.cons r t,f=>by
  rw[Ib,GC]at f;rw[GL,GL,vg r f.1,gW t f.2]
theorem fG(rx:RelV x v)(fx:gA x=kz):∀{xs:bc V} {us:bc j'},Vals xs us->xs.all gA=kz->∀u∈us,QN A s u v<|qh x u
 |_,_,.nil,_=>λu hu=>by cases hu
 |y::xs,u::us,.cons r t,f=>λu' hu=>by
  rw[Ib,GC]at f;obtain rfl|hu:=Fl.mp hu
  ·rw[vg r f.1];exact Bg r rx f.1 fx
  ·exact fG rx fx t f.2 u' hu
def js(x:V)(xs:bc V):ER:=xs.any λy=>zV y x
inductive Ev (K:gV)(UR:ER)(x y:V)(H:Hp)(Q:VK):Prop
 |mk (p:f')(xs:bc V)(hy:y=.ref p)(h:SqL K H p xs\/SqT K H p xs)(fx:gA x=kz)(fs:xs.all gA=kz)(q:Q (.bl (if UR then !js x xs else js x xs)) H):Ev K UR x y H Q
def Dx(K:gV)(UR:ER):R2:=λx y H Q=>Ev K UR x y H Q
theorem iD:OpR X (Gp .In) (Dx X.K B'):=by
 intro kS s σ H x y v u Q I rx ry h;obtain⟨p,xs,rfl,hq,fx,fs,q⟩:=h;cases ry;obtain hq|hq:=hq
 ·obtain⟨Gx,r,pl,hz⟩:=I.list hq;refine SeqAt.in_listAt (qh x) pl.isList (λw hw=>fG rx fx r fs w<|by simpa using hw) ⟨.bl _,H,I,rfl,?_⟩;rw[show Gx.toArray.any (qh x)=Gx.any (qh x) by simp,gW r fs];exact q
 ·obtain⟨Gx,r,pl,hz⟩:=I.tuple hq;refine SeqAt.in_tupleAt (qh x) pl (λw hw=>fG rx fx r fs w<|by simpa using hw) ⟨.bl _,H,I,rfl,?_⟩;rw[show Gx.toArray.any (qh x)=Gx.any (qh x) by simp,gW r fs];exact q
theorem cJ:OpR X (Gp .NotIn) (Dx X.K kz):=by
 intro kS s σ H x y v u Q I rx ry h;obtain⟨p,xs,rfl,hq,fx,fs,q⟩:=h;cases ry;obtain hq|hq:=hq
 ·obtain⟨Gx,r,pl,hz⟩:=I.list hq;refine SeqAt.notIn_listAt (qh x) pl.isList (λw hw=>fG rx fx r fs w<|by simpa using hw) ⟨.bl _,H,I,rfl,?_⟩;rw[show Gx.toArray.any (qh x)=Gx.any (qh x) by simp,gW r fs];exact q
 ·obtain⟨Gx,r,pl,hz⟩:=I.tuple hq;refine SeqAt.notIn_tupleAt (qh x) pl (λw hw=>fG rx fx r fs w<|by simpa using hw) ⟨.bl _,H,I,rfl,?_⟩;rw[show Gx.toArray.any (qh x)=Gx.any (qh x) by simp,gW r fs];exact q
theorem fh:dB X (.type "list") (λxs H Q=>∃p ys,xs=[.ref p]/\(SqL X.K H p ys\/SqT X.K H p ys)/\∀l,H l=A'->Q (.ref l) (upd H l<|.lst ys)):=by
 intro kS s σ H xs us Q I r h;obtain⟨p,ys,rfl,hq,q⟩:=h;obtain⟨u,rfl,rx⟩:=dD r;cases rx;have Mx:∀Gx,Vals ys Gx->ys.length<=sizeLine->∀h' c',(∀b o',s.heap.get? b=ab o'->h'.get? b=ab o')->
   h'.get? s.heap.objs.size=ab {cls:=.type "list",dict:=A',data:=.seq Gx.toArray c',slots:=#[]}->EP X kS σ Q (.ref s.heap.objs.size) {s with heap:=h'}:=λGx r' hz h' c' kp e=>
  ⟨.ref s.heap.objs.size,_,I.laid (t':=s.toks) kp (lb _) (show ObjOk X.prog X.w _ h' _ (.lst ys)from⟨hz,Gx,c',r',e⟩),rfl,q _<|I.hok.fresh<|lb _⟩
 obtain hq|hq:=hq
 ·obtain⟨Gx,r',pl,hz⟩:=I.list hq;have G':=r'.length;obtain⟨o,ho,hc,n,hd⟩:=pl.isList;exact Oy p (.inl rfl) ho hc hd (λh' c' kp e=>Mx Gx r' hz h' c' kp e) (by simp only [Ff]<;>lia)
 ·obtain⟨Gx,r',pl,hz⟩:=I.tuple hq;have G':=r'.length;obtain⟨o,ho,hc,n,hd⟩:=pl;exact Oy p (.inr rfl) ho hc hd (λh' c' kp e=>Mx Gx r' hz h' c' kp e) (by simp only [Ff]<;>lia)
theorem bW:dB X (.type "tuple") (λxs H Q=>∃p ys,xs=[.ref p]/\((SqL X.K H p ys/\∀l,H l=A'->Q (.ref l) (upd H l<|.tup ys))\/(SqT X.K H p ys/\Q (.ref p) H))):=by
 intro kS s σ H xs us Q I r h;obtain⟨p,ys,rfl,h⟩:=h;obtain⟨u,rfl,rx⟩:=dD r;cases rx;obtain⟨hq,q⟩|⟨hq,q⟩:=h
 ·obtain⟨Gx,r',pl,hz⟩:=I.list hq;have G':=r'.length;refine call_tuple_list pl.isList (λh' kp=>?_) (by simp only [Ff]<;>lia);have I1:Inv X kS σ H {s with heap:=h'}:=I.kept (t':=s.toks) kp;have I2:Inv X kS σ (upd H h'.objs.size<|.tup ys) {s with heap:=h'.push {cls:=.type "tuple",data:=.seq Gx.toArray}}:=
   I1.laid (t':=s.toks) (λb o e=>EV _ e) (lb _) (show ObjOk X.prog X.w _ _ _ (.tup ys)from⟨hz,Gx,r',IsTup.new _ _⟩)
  exact⟨.ref h'.objs.size,_,I2,rfl,q _<|I1.hok.fresh<|lb _⟩
 ·obtain⟨Gx,r',pl,hz⟩:=I.tuple hq;exact call_tuple_same pl ⟨.ref p,H,I,rfl,q⟩
def Ew(K:gV)(T:HP)(x:V)(H:Hp):Prop:=match x with
 |.str _=>T="str"
 |.int _=>T="int"
 |.ref p=>(T="list"/\∃xs,SqL K H p xs)\/(T="tuple"/\∃o,K.lookup p=ab o/\o.cls=.type "tuple"/\o.dict=A')\/
   (T="dict"/\((∃kvs,H p=ab (.dK kvs))\/∃kvs,H p=ab (.dT kvs)))\/(T="set"/\∃S n,H p=ab (.set S n))
 |_=>False
theorem Bh(I:Inv X kS σ H s)(r:RelV x v)(ty:Ew X.K T x H):
  s.TypeIs v T/\∀a,v=.ref a->∃ob,s.heap.get? a=ab ob/\ob.dict=none:=by
 cases x with
 |str z=>
  obtain⟨t,rfl⟩:=r;cases(show T="str" from ty);exact⟨typeIs_str s z t,λ_ e=>nomatch e⟩
 |int i=>
  obtain⟨t,rfl⟩:=r;cases(show T="int" from ty);exact⟨typeIs_int s i t,λ_ e=>nomatch e⟩
 |ref p=>
  cases r;obtain⟨rfl,xs,hq⟩|⟨rfl,o,hk,hc,hd⟩|⟨rfl,hk⟩|⟨rfl,S,n,hk⟩:=ty
  ·obtain⟨Gx,_,pl,_⟩:=I.list hq;refine⟨pl.isList.typeIs,λa e=>?_⟩;cases e;obtain⟨o,n,e,c,hd,_⟩:=pl;exact⟨o,e,hd⟩
  ·refine⟨⟨o,I.kIn p o hk,hc⟩,λa e=>?_⟩;cases e;exact⟨o,I.kIn _ o hk,hd⟩
  ·have z:∃o,s.heap.get? p=ab o/\o.ExactDict:=by
    obtain⟨kvs,hk⟩|⟨kvs,hk⟩:=hk
    ·obtain⟨_,_,_,_,o,_,_,e,ex,_⟩:=I.hok p _ hk;exact⟨o,e,ex⟩
    ·obtain⟨_,_,_,_,o,_,_,e,ex,_⟩:=I.hok p _ hk;exact⟨o,e,ex⟩
   obtain⟨o,e,ex⟩:=z;refine⟨⟨o,e,ex.1⟩,λa e2=>?_⟩;cases e2;exact⟨o,e,ex.2.1⟩
  ·obtain⟨o,_,_,_,e,ex,_⟩:=I.hok p _ hk;refine⟨⟨o,e,ex.1⟩,λa e2=>?_⟩;cases e2;exact⟨o,e,ex.2.1⟩
 |_=>exact Gn ty
def EL(K:gV)(T:HP)(r:V->bc V->Hp->VK->Prop)(to:TE)(t:TA):TE:=λσ H Q=>to σ H λx H1=>Ew K T x H1/\t σ H1 λxs H2=>r x xs H2 Q
variable {id:HP}
theorem cK{X:Cx}{o:F'}{e:F'}{es:bc F'}{to:TE}{t:TA}{name:Str}{Ln:Pos}{Lm:Pos}{T:HP}{r:V->bc V->Hp->VK->Prop}(pa:PlainAttrs T)(slot:Slot T name id)(hty:typeOf (.builtin id)=pure (.type "method_descriptor"))(hm:D5 X id r)(ho:PE X o to)(ha:PA X (e::es) t)
  (Ur:KD o name X.env (G0 o X.env)=G0 o X.env:=by rfl)
  (Y3:((HF Lm<|Fu (e::es) X.env).all (λx=>!x.1)&&(N0 Lm<|LC [] X.env).all (λx=>x.1.isSome)
   &&decide ((e::es).length+([]:bc Pm).length+(if([]:bc Pm).isEmpty then 0 else 1) < 30))=true:=by rfl)
  (Ub:(Ln.endLine == Lm.line)=true:=by rfl) (hs:Fu (e::es) X.env=(B',G0 e X.env)::Fu es X.env:=by rfl) (SD:(HF Lm<|Fu es X.env).any (·.1)=false:=by rfl):
  PE X (.Call (.Attribute o name Ln) (e::es) [] Lm) (EL X.K T r to t):=by
 intro kS s σ H Q I h;refine wpAny_Call_method_late Ur Y3 Ub rfl<|bp (ho kS s σ H _ I h) λv s1 ⟨x,H1,I1,r1,ty,q1⟩=>?_;obtain⟨h1,h2⟩:=Bh I1 r1 ty;exists T,id,pa,slot,hty,h1,h2;have hA:=ha Lm kS s1 σ H1 _ I1 q1;rw[hs]at hA ⊢;refine Jl (by show(B' || (HF Lm<|Fu es X.env).any (·.1))=B';rw[SD]<;>rfl)<|Iy ?_;exact bp hA λus s2 ⟨vs,H2,I2,r2,q2⟩=>hm kS s2 σ H2 x vs v us Q I2 r1 r2 q2
end
def D8(X:Cx)(id:HP)(r:V->bc V->Hp->VK->Prop):Prop:=
 ∀(kS:bc (f'×Obj)) (s:Bs) (σ:St) (H:Hp) (x:V) (xs:bc V) (v:j') (us:bc j') (Q:VK),Inv X kS σ H s->RelV x v->Vals xs us->r x xs H Q->
  wpAny (FE X.prog X.w) X.A (call (.builtin id)<|v::us) (EP X kS σ Q) X.xe s
theorem Vals.one:∀{x:V} {us:bc j'},Vals [x] us->∃u,us=[u]/\RelV x u
 |_,_,.cons r .nil=>⟨_,rfl,r⟩
theorem Vals.two:∀{x y:V} {us:bc j'},Vals [x,y] us->∃u v,us=[u,v]/\RelV x u/\RelV y v
 |_,_,_,.cons r (.cons q .nil)=>⟨_,_,rfl,r,q⟩
theorem Vals.eraseIdx:∀{xs:bc V} {us:bc j'} (i:Nat),Vals xs us->Vals (xs.eraseIdx i) (us.eraseIdx i)
 |_,_,_,.nil=>.nil
 |_,_,0,.cons _ t=>t
 |_,_,i+1,.cons r t=>.cons r<|Vals.eraseIdx i t
theorem ln{α:Type}:∀(l:bc α) (i:Nat),(l.eraseIdx i).length<=l.length
 |[],_=>lb _
 |_::_,0=>LL _
 |_::r,i+1=>Hx<|ln r i
theorem Inv.lset{Gx its':bc j'}{n:Nat}{f:HK j'->HK j'}{t':Nat}(I:Inv X kS σ H s)(hH:H l=ab (.lst xs))
  (e:s.heap.get? l=ab {cls:=.type "list",data:=.seq Gx.toArray n}) (hf:f Gx.toArray=its'.toArray) (hv:Vals ys its') (hz:ys.length<=sizeLine):
  Inv X kS σ (upd H l<|.lst ys) {s with heap:=s.heap.update l<|QO f,toks:=t'}:=by
 have q:=Rf e f;rw[hf]at q;refine I.write (x:=l) (e:=l) (by rw[hH];exact trivial) (.inl rfl) (λb' u hb hu=>(FT s.heap (QO f)<|GP hb).trans hu) ⟨_,q⟩ ?_;exact⟨hz,its',_,hv,q⟩
theorem Inv.lnew{t':Nat}(I:Inv X kS σ H s)(hv:Vals ys Gx)(hz:ys.length<=sizeLine):
  Inv X kS σ (upd H s.heap.objs.size<|.lst ys) {s with heap:=s.heap.push {cls:=.type "list",data:=.seq Gx.toArray},toks:=t'}:=
 I.laid (λ_ _ q=>EV _ q) (lb _) ⟨hz,Gx,0,hv,Fs _ rfl⟩
theorem Inv.fresh(I:Inv X kS σ H s):H s.heap.objs.size=none:=I.hok.fresh<|lb _
theorem Inv.lstM(I:Inv X kS σ H s)(hH:H l=ab (.lst xs)):xs.length<=sizeLine/\∃Gx n,Vals xs Gx/\xs.length=Gx.length/\s.heap.get? l=ab {cls:=.type "list",data:=.seq Gx.toArray n}:=by
 obtain⟨z,Gx,n,r,e⟩:=I.hok l _ hH;exact⟨z,Gx,n,r,r.length,e⟩
theorem vh(h:n<=sizeLine):II n=false:=by
 unfold II;exact E_ (by lia)
inductive CI (x:V)(vs:bc V)(H:Hp)(Q:VK):Prop
 |mk (l:f')(xs:bc V)(y:V)(hx:x=.ref l)(hv:vs=[y])(h:H l=ab (.lst xs))(z:xs.length < sizeLine)(q:Q .non (upd H l<|.lst<|xs++[y])):CI x vs H Q
def yx:V->bc V->Hp->VK->Prop:=λx vs H Q=>CI x vs H Q
theorem bh:D8 X "list.append" yx:=by
 intro kS s σ H x vs v us Q I rx rv h;obtain⟨l,xs,y,rfl,rfl,hH,hz,q⟩:=h;cases rx;obtain⟨u,rfl,ru⟩:=rv.one;obtain⟨z,Gx,n,r,hl,e⟩:=I.lstM hH;refine K2 FB ⟨_,e,rfl⟩ F.entry_list_append (F.args_list_append_2 _ _) (PySem.list_append l Gx.toArray n u<|by rw[Ff];lia) ⟨e,?_⟩;refine⟨.non,_,I.lset (its':=Gx++[u]) hH e (by simp) (r.append<|.cons ru .nil) ?_,rfl,q⟩;rw[C',FL];lia
def yy:V->bc V->Hp->VK->Prop:=λx vs H Q=>∃l b xs zs,x=.ref l/\vs=[.ref b]/\H l=ab (.lst xs)/\H b=ab (.lst zs)/\xs.length+zs.length<=sizeLine/\Q .non (upd H l<|.lst<|xs++zs)
theorem tK:D8 X "list.extend" yy:=by
 intro kS s σ H x vs v us Q I rx rv h;obtain⟨l,b,xs,zs,rfl,rfl,hH,hB,hz,q⟩:=h;cases rx;obtain⟨u,rfl,ru⟩:=rv.one;cases ru;obtain⟨z,Gx,n,r,hl,e⟩:=I.lstM hH;obtain⟨z2,Ol,n2,r2,NG,e2⟩:=I.lstM hB;have hsz:Gx.toArray.size+Ol.toArray.size<=sizeLine:=by rw[Ff,Ff];lia
 have Ua:¬(!Gx.toArray.isEmpty&&II (Gx.toArray.size+Ol.toArray.size))=true:=by
  rw[vh hsz,LP];exact i'
 refine K2 Lr ⟨_,e,rfl⟩ F.entry_list_extend (F.args_list_extend_2 _ _)
  (AutoSeq1.list_extend_list_list_0 l Gx.toArray n b Ol.toArray n2 Ua (by rw[Ff];lia)<|by lia) ⟨e,e2,?_⟩
 refine⟨.non,_,I.lset (its':=Gx++Ol) hH e (by simp) (r.append r2) ?_,rfl,q⟩;rw[C'];lia
def Bi:V->bc V->Hp->VK->Prop:=λx vs H Q=>∃l xs i k y,x=.ref l/\vs=[.int i]/\H l=ab (.lst xs)/\ -(2 ^ 63)<=i/\i < 2 ^ 63/\LW i xs.length=ab k/\xs[k]? =ab y/\Q y (upd H l<|.lst<|xs.eraseIdx k)
theorem vi:D8 X "list.pop" Bi:=by
 intro kS s σ H x vs v us Q I rx rv h;obtain⟨l,xs,i,k,y,rfl,rfl,hH,h1,h2,hk,hy,q⟩:=h;cases rx;obtain⟨u,rfl,ru⟩:=rv.one;obtain⟨t,rfl⟩:=ru;obtain⟨z,Gx,n,r,hl,e⟩:=I.lstM hH;obtain⟨w,hw,O3⟩:=r.get hy;refine K2 Ms ⟨_,e,rfl⟩ F.entry_list_pop (F.args_list_pop_2 _ _)
  (MeetsSeq.list_pop_at l Gx.toArray n i t k w (NV h1 h2) (by rw[Ff,<-hl];exact hk) (by rw[<-Lv];exact hw)<|by rw[Ff];lia) ⟨e,?_⟩
 refine⟨y,_,I.lset (its':=Gx.eraseIdx k) hH e ?_ (r.eraseIdx k) ?_,O3,q⟩
 ·show Gx.toArray.eraseIdxIfInBounds k=(Gx.eraseIdx k).toArray
  rw[List.eraseIdxIfInBounds_toArray]
 ·have:=ln xs k;lia
def D9:R2:=λx y H Q=>∃l b xs zs,x=.ref l/\y=.ref b/\H l=ab (.lst xs)/\H b=ab (.lst zs)/\xs.length+zs.length<=sizeLine/\∀p,H p=A'->Q (.ref p) (upd H p<|.lst<|xs++zs)
theorem fi:OpR X (Jh .Add) D9:=by
 intro kS s σ H x y v u Q I rx ry h;obtain⟨l,b,xs,zs,rfl,rfl,hH,hB,hz,q⟩:=h;cases rx;cases ry;obtain⟨z,Gx,n,r,hl,e⟩:=I.lstM hH;obtain⟨z2,Ol,n2,r2,NG,e2⟩:=I.lstM hB;refine PySem.P.add_list e e2 ?_ (by rw[Ff,Ff];lia);have ea:Gx.toArray++Ol.toArray=(Gx++Ol).toArray:=by simp
 rw[ea];exact⟨.ref _,_,I.lnew (t':=s.toks) (r.append r2) (by rw[C'];lia),rfl,q _ I.fresh⟩
section
variable {κ:Type}[Kx κ]
def bH(kvs:bc (κ×V))(k:κ):kb V:=(kvs.find? λkv=>decide (kv.1=k)).map (·.2)
def cV(kvs:bc (κ×V))(k:κ)(v:V):bc (κ×V):=
 if(kvs.any λkv=>decide (kv.1=k))=kz then kvs.map (λkv=>if kv.1=k then(kv.1,v)else kv)else kvs++[(k,v)]
theorem bL{p:κ×V}{r:bc (κ×V)}{k:κ}(e:p.1=k):bH (p::r) k=ab p.2:=by simp [bH,Gv,e]
theorem bE{p:κ×V}{r:bc (κ×V)}{k:κ}(e:¬p.1=k):bH (p::r) k=bH r k:=by simp [bH,Gv,e]
theorem gX(k:κ):∀kvs,(kvs.any λkv=>decide (kv.1=k))=(bH kvs k).isSome
 |[]=>rfl
 |p::r=>by
  rw[GL];by_cases e:p.1=k
  ·simp only [bL e,E2 e,Bool.true_or,Mu]
  ·rw[bE e,E_ e,KF];exact gX k r
theorem nR(k j:κ)(y:V):∀kvs,bH (kvs.map λkv=>if kv.1=k then(kv.1,y)else kv) j=(bH kvs j).map λx=>if j=k then y else x
 |[]=>rfl
 |p::r=>by
  have ih:=nR k j y r;rw[FA];by_cases h:p.1=k
  ·rw[Fc h];by_cases e:p.1=j
   ·rw[bL (p:=(p.1,y)) e,bL e,IM,Fc<|e.symm.trans h]
   ·rw[bE (p:=(p.1,y)) e,bE e,ih]
  ·rw[E7 h];by_cases e:p.1=j
   ·rw[bL (p:=p) e,bL e,IM,E7 λz=>h<|e.trans z]
   ·rw[bE (p:=p) e,bE e,ih]
theorem lp(k j:κ)(y:V):∀kvs,bH kvs k=A'->bH (kvs++[(k,y)]) j=if j=k then ab y else bH kvs j
 |[],_=>by
  by_cases e:k=j
  ·rw[Fc e.symm];exact bL (p:=(k,y)) e
  ·rw[E7 λz=>e z.symm];exact bE (p:=(k,y)) e
 |p::r,hn=>by
  rw[List.cons_append];have hk:¬p.1=k:=λz=>by rw[bL z]at hn;cases hn
  rw[bE hk]at hn;have ih:=lp k j y r hn;by_cases e:p.1=j
  ·rw[bL e,bL e,E7 λz=>hk<|e.trans z]
  ·rw[bE e,bE e,ih]
theorem gY(kvs:bc (κ×V))(k j:κ)(y:V):bH (cV kvs k y) j=if j=k then ab y else bH kvs j:=by
 unfold cV;by_cases a:(kvs.any λkv=>decide (kv.1=k))=kz
 ·rw[Fc a,nR];rw[gX]at a;by_cases e:j=k
  ·obtain⟨x,hx⟩:=IJ.mp a;rw[Fc e,e,hx,IM,Fc rfl]
  ·rw[E7 e];cases bH kvs j with
   |none=>rfl
   |some x=>rw[IM,E7 e]
 ·rw[E7 a];refine lp k j y kvs ?_;rw[gX]at a;cases q:bH kvs k with
  |none=>rfl
  |some x=>rw[q]at a;exact(a rfl).elim
theorem dk(kvs:bc (κ×V))(k:κ)(v:V):(cV kvs k v).length<=kvs.length+1:=by
 unfold cV
 split
 ·rw[ka];lia
 ·rw[C',FI,Lk];lia
theorem RelO.isSome_eq(r:RelO o u):o.isSome=u.isSome:=by
 cases o with
 |none=>cases u with
  |none=>rfl
  |some _=>exact(show False from r).elim
 |some _=>cases u with
  |none=>exact(show False from r).elim
  |some _=>rfl
theorem RelO.getD(r:RelO o u)(rd:RelV d d'):RelV (o.getD d) (u.getD d'):=by
 cases o with
 |none=>cases u with
  |none=>exact rd
  |some _=>exact(show False from r).elim
 |some _=>cases u with
  |none=>exact(show False from r).elim
  |some _=>exact r
theorem KV.val(r:KV kvs vs)(k:κ):RelO (bH kvs k) (Kl vs k):=by
 unfold KV at r
 induction r with
 |nil=>exact Ha
 |@cons p q ps qs h t ih=>
  obtain⟨h1,h2⟩:=h;by_cases e:p.1=k
  ·have e':q.1=k:=h1.symm.trans e;have b:Kl (q::qs) k=ab q.2:=by simp [Kl,Gv,e']
   rw[bL e,b];exact h2
  ·have e':¬q.1=k:=λz=>e<|h1.trans z;have b:Kl (q::qs) k=Kl qs k:=by simp [Kl,Gv,e']
   rw[bE e,b];exact ih
theorem KV.any(r:KV kvs vs)(k:κ):(kvs.any λkv=>decide (kv.1=k))=vs.any λkv=>decide (kv.1=k):=by
 unfold KV at r
 induction r with
 |nil=>rfl
 |cons h t ih=>rw[GL,GL,ih,h.1]
theorem KV.repl(r:KV kvs vs)(k:κ)(ry:RelV y u):
  KV (kvs.map λkv=>if kv.1=k then(kv.1,y)else kv) (vs.map λkv=>if kv.1=k then(kv.1,u)else kv):=by
 unfold KV at r ⊢
 induction r with
 |nil=>exact .nil
 |@cons p q ps qs h t ih=>
  rw[FA,FA];refine .cons ?_ ih;obtain⟨h1,h2⟩:=h;by_cases e:p.1=k
  ·rw[Fc e,Fc<|h1.symm.trans e];exact⟨h1,ry⟩
  ·rw[E7 e,E7 λz=>e<|h1.trans z];exact⟨h1,h2⟩
theorem KV.put(r:KV kvs vs)(k:κ)(ry:RelV y u):KV (cV kvs k y) (stored vs k u):=by
 unfold cV stored;rw[r.any k];by_cases e:(vs.any λkv=>decide (kv.1=k))=kz
 ·rw[Fc e,Fc e];exact r.repl k ry
 ·rw[E7 e,E7 e];exact Paired.snoc r ⟨rfl,ry⟩
theorem KV.keys{kvs:bc (κ×V)}{vs:bc (κ×j')}(r:KV kvs vs):kvs.map (·.1)=vs.map (·.1):=by
 unfold KV at r
 induction r with
 |nil=>rfl
 |cons h t ih=>rw[FA,FA,ih,h.1]
theorem KV.length{kvs:bc (κ×V)}{vs:bc (κ×j')}(r:KV kvs vs):kvs.length=vs.length:=Paired.length r
end
theorem gB(r:RelV (kV k) u):(aQ P w).is k u=true:=by
 cases k with
 |inl i=>obtain⟨t,e⟩:=(show∃t,u=J8 i t from r);subst e;exact nI P w i t
 |inr x=>obtain⟨t,e⟩:=(show∃t,u=LZ x t from r);subst e;exact nJ P w x t
theorem lq:∀{ks:bc aS} {us:bc j'},Vals (ks.map kV) us->ItemsAre (aQ P w) ks us
 |[],_,r=>by rw[J7]at r;cases r;exact .nil
 |k::ks,_,r=>by
  rw[FA]at r;cases r with
  |cons h t=>exact .cons (gB h)<|lq t
abbrev KT(H:Hp):bc (bc aS×V)->bc (bc aS×f'×j')->Prop:=Paired λp q=>p.1=q.1/\H q.2.1=ab (.tup<|p.1.map kV)/\RelV p.2 q.2.2
theorem KT.val(r:KT H kvs xs)(k:bc aS):RelO (bH kvs k) ((Kn xs k).map (·.2)):=by
 induction r with
 |nil=>exact Ha
 |@cons p q ps qs h t ih=>
  obtain⟨h1,_,h2⟩:=h;by_cases e:p.1=k
  ·have e':q.1=k:=h1.symm.trans e;have b:Kn (q::qs) k=ab q.2:=by simp [Kn,Gv,e']
   rw[bL e,b];exact h2
  ·have e':¬q.1=k:=λz=>e<|h1.trans z;have b:Kn (q::qs) k=Kn qs k:=by simp [Kn,Gv,e']
   rw[bE e,b];exact ih
theorem KT.repl(r:KT H kvs xs)(k:bc aS)(ry:RelV y u):
  KT H (kvs.map λkv=>if kv.1=k then(kv.1,y)else kv) (xs.map<|putAt k u):=by
 induction r with
 |nil=>exact .nil
 |@cons p q ps qs h t ih=>
  rw[FA,FA];refine .cons ?_ ih;obtain⟨h1,h2,h3⟩:=h;unfold putAt;by_cases e:p.1=k
  ·rw[Fc e,Fc<|h1.symm.trans e];exact⟨h1,h2,ry⟩
  ·rw[E7 e,E7 λz=>e<|h1.trans z];exact⟨h1,h2,h3⟩
theorem KT.put(r:KT H kvs xs)(k:bc aS)(hb:H b=ab (.tup<|k.map kV))(ry:RelV y u):
  KT H (cV kvs k y) (Pj xs k b u):=by
 have e:(kvs.any λkv=>decide (kv.1=k))=(Kn xs k).isSome:=by
  rw[gX,(r.val k).isSome_eq,Kt]
 unfold cV Pj;rw[e];by_cases q:(Kn xs k).isSome=kz
 ·rw[Fc q,Fc q];exact r.repl k ry
 ·rw[E7 q,E7 q];exact Paired.snoc r ⟨rfl,hb,ry⟩
theorem KT.keeps(r:KT H kvs xs)(ht:∀b ys,H b=ab (.tup ys)->H' b=ab (.tup ys)):KT H' kvs xs:=
 Paired.mapP r λ_ _ z=>⟨z.1,ht _ _ z.2.1,z.2.2⟩
theorem zX(ok:HOk P w H h)(e:Rd H a u):ObjOk P w H h a u:=e.ok ok
theorem gZ(ok:HOk P w H h)(e:Rd H a (.dK kvs)):kvs.length<=sizeLine/\(a == Hf)=B'/\∃vs,KV kvs vs/\h.DictOf (aQ P w) a vs:=
 show ObjOk P w H h a (.dK kvs)from zX ok e
theorem rg(ok:HOk P w H h)(e:H a=ab (.dK kvs)):kvs.length<=sizeLine/\(a == Hf)=B'/\∃vs,KV kvs vs/\h.DictOf (aQ P w) a vs:=gZ ok<|.inl e
theorem fH(ok:HOk P w H h)(e:H a=ab (.tup<|ks.map kV)):(JE<|aQ P w).is h ks a:=by
 obtain⟨_,Gx,r,o,h1,h2,n,h3⟩:=(show ObjOk P w H h a (.tup<|ks.map kV)from ok a _ e);exact⟨o,Gx.toArray,n,h1,h2,h3,by simpa using lq r⟩
theorem g7(ok:HOk P w H h)(e:Rd H a (.dT kvs)):kvs.length<=sizeLine/\(a == Hf)=B'/\
  ∃xs,KT H kvs xs/\h.DictOfH (JE<|aQ P w) a xs:=by
 obtain⟨z,y,xs,r,o,es,ep,h1,h2,h3,h4,h5⟩:=(show ObjOk P w H h a (.dT kvs)from zX ok e);refine⟨z,y,xs,r,o,es,ep,h1,h2,h3,h4,λx hx=>?_,h5⟩;have all:∀{l:bc (bc aS×V)} {m:bc (bc aS×f'×j')},KT H l m->∀x∈m,(JE<|aQ P w).is h x.1 x.2.1:=by
  intro l m q
  induction q with
  |nil=>intro x hx;exact nomatch hx
  |@cons p q ps qs hq t ih=>
   intro x hx;obtain e|hx:=Fl.mp hx
   ·subst e;exact fH ok (by rw[<-hq.1];exact hq.2.1)
   ·exact ih x hx
 exact all r x hx
theorem CJ(ok:HOk P w H h)(e:H a=ab (.dT kvs)):kvs.length<=sizeLine/\(a == Hf)=B'/\
  ∃xs,KT H kvs xs/\h.DictOfH (JE<|aQ P w) a xs:=g7 ok<|.inl e
def DGet(H:Hp)(a:f')(y:V)(r:kb V):Prop:=
 (∃kvs k,Rd H a (.dK kvs)/\y=kV k/\r=bH kvs k)\/∃kvs k b,Rd H a (.dT kvs)/\y=.ref b/\H b=ab (.tup<|k.map kV)/\r=bH kvs k
def DPut(H:Hp)(a:f')(y v:V)(H':Hp):Prop:=
 (∃kvs k,H a=ab (.dK kvs)/\y=kV k/\kvs.length < sizeLine/\H'=upd H a (.dK<|cV kvs k v))\/
 ∃kvs k b,H a=ab (.dT kvs)/\y=.ref b/\H b=ab (.tup<|k.map kV)/\kvs.length < sizeLine/\H'=upd H a (.dT<|cV kvs k v)
theorem DGet.k{H:Hp}{a:f'}{kvs:bc (aS×V)}{k:aS}(e:H a=ab (.dK kvs)):DGet H a (kV k) (bH kvs k):=.inl ⟨kvs,k,.inl e,rfl,rfl⟩
theorem DPut.k{H:Hp}{a:f'}{kvs:bc (aS×V)}{k:aS}{v:V}(e:H a=ab (.dK kvs))(hl:kvs.length < sizeLine):DPut H a (kV k) v (upd H a<|.dK<|cV kvs k v):=.inl ⟨kvs,k,e,rfl,hl,rfl⟩
theorem Inv.big(I:Inv X kS σ H s):Hf < s.heap.objs.size:=by
 have h:EO < s.heap.objs.size:=(I.mod.glob.keeps I.bk).lt;exact La (by decide) h
theorem tL(hu:A.units+1 < Ir)(I:Inv X kS σ H s)(g:DGet H a y (ab v))(ry:RelV y u)(h:∀w' s',Inv X kS σ H s'->RelV v w'->Q w' s'):
  wpAny (FE X.prog X.w) A (MH (.ref a) u) Q E s:=by
 obtain⟨kvs,k,e,ey,l⟩|⟨kvs,k,b,e,ey,eb,l⟩:=g
 ·subst ey;obtain⟨z,hd,vs,JM,dd⟩:=gZ I.hok e;obtain⟨w',hw,O3⟩:=RelO.some_of (v:=v) (o:=Kl vs k) (by rw[l];exact JM.val k);exact wpAny_getItem_of (gB ry) dd.mapOf hw<|h w' _ (I.tok _) O3
 ·subst ey;cases(show u=FY b from ry);obtain⟨z,hd,xs,JM,dd⟩:=g7 I.hok e;obtain⟨w',hw,O3⟩:=RelO.some_of (v:=v) (o:=(Kn xs k).map (·.2)) (by rw[l];exact JM.val k);obtain⟨p,hp,RI⟩:=FV.mp hw;refine wpAny_getItem_heap (He hu) (fH I.hok eb) dd hp ?_;rw[RI];exact h w' _ (I.tok _) O3
theorem D_(hu:A.units+1 < Ir)(I:Inv X kS σ H s)(g:DGet H a y o)(ry:RelV y u)(h:∀s',Inv X kS σ H s'->Q (.bool o.isSome) s'):
  wpAny (FE X.prog X.w) A (Gp .In u<|.ref a) Q E s:=by
 obtain⟨kvs,k,e,ey,l⟩|⟨kvs,k,b,e,ey,eb,l⟩:=g
 ·subst ey;obtain⟨z,hd,vs,JM,dd⟩:=gZ I.hok e;refine wpAny_in_of (gB ry) hd dd.mapOf ?_;rw[<-(JM.val k).isSome_eq,<-l];exact h _<|I.tok _
 ·subst ey;cases(show u=FY b from ry);obtain⟨z,hd,xs,JM,dd⟩:=g7 I.hok e;refine wpAny_in_heap (He hu) (fH I.hok eb) hd dd ?_;have q:=(JM.val k).isSome_eq;rw[Kt]at q;rw[<-q,<-l];exact h _<|I.tok _
theorem yz(hu:A.units+1 < Ir)(I:Inv X kS σ H s)(g:DGet H a y o)(ry:RelV y u)(h:∀s',Inv X kS σ H s'->Q (.bool (!o.isSome)) s'):
  wpAny (FE X.prog X.w) A (Gp .NotIn u<|.ref a) Q E s:=by
 obtain⟨kvs,k,e,ey,l⟩|⟨kvs,k,b,e,ey,eb,l⟩:=g
 ·subst ey;obtain⟨z,hd,vs,JM,dd⟩:=gZ I.hok e;refine wpAny_notIn_of (gB ry) hd dd.mapOf ?_;rw[<-(JM.val k).isSome_eq,<-l];exact h _<|I.tok _
 ·subst ey;cases(show u=FY b from ry);obtain⟨z,hd,xs,JM,dd⟩:=g7 I.hok e;refine wpAny_notIn_heap (He hu) (fH I.hok eb) hd dd ?_;have q:=(JM.val k).isSome_eq;rw[Kt]at q;rw[<-q,<-l];exact h _<|I.tok _
theorem g8{t':Nat}(I:Inv X kS σ H s)(mu:Cc (H a))(hs:IA a s.heap h')(he:∃q,h'.get? a=ab q)(new:ObjOk X.prog X.w (upd H a ob) h' a ob):
  Inv X kS σ (upd H a ob) {s with heap:=h',toks:=t'}:=
 I.write (x:=a) (e:=a) mu (.inl rfl) (λb q hb z=>(hs.2 b hb).trans z) he new
theorem mH{H':Hp}(z:kvs.length<=sizeLine)(hd:(a == Hf)=B')(JM:KV kvs vs)(dd:h'.DictOf (aQ P w) a vs):
  ObjOk P w H' h' a (.dK kvs):=⟨z,hd,vs,JM,dd⟩
theorem tM(hu:A.units+1 < Ir)(I:Inv X kS σ H s)(g:DPut H a y v H')(ry:RelV y u)(rv:RelV v r)(h:∀s',Inv X kS σ H' s'->Q () s'):
  wpAny (FE X.prog X.w) A (setItem (.ref a) u r) Q E s:=by
 obtain⟨kvs,k,e,ey,l,eH⟩|⟨kvs,k,b,e,ey,eb,l,eH⟩:=g
 ·subst ey eH;obtain⟨z,hd,vs,JM,dd⟩:=rg I.hok e;have hz:vs.length<=sizeLine:=by rw[<-JM.length];exact z
  have hl:(cV kvs k v).length<=sizeLine:=by have:=dk kvs k v;lia
  refine wpAny_setItem_pairs (hsz:=hz) (gB ry) dd λh' dd' hs=>h _ ?_;have he:∃q,h'.get? a=ab q:=let ⟨q,_,_,hq,_⟩:=dd';⟨q,hq⟩
  exact g8 I (by rw[e];exact Ha) hs he<|mH hl hd (JM.put k rv) dd'
 ·subst ey eH;cases(show u=FY b from ry);obtain⟨z,hd,xs,JM,dd⟩:=CJ I.hok e;have hz:xs.length<=sizeLine:=by rw[<-Paired.length JM];exact z
  have hl:(cV kvs k v).length<=sizeLine:=by have:=dk kvs k v;lia
  refine wpAny_setItem_heap (hsz:=hz) (He hu) (fH I.hok eb) dd λh' dd' hs=>h _ ?_;obtain⟨q,es,ep,hq,h2,h3,h4,_,h5⟩:=dd';refine g8 I (by rw[e];exact Ha) hs ⟨q,hq⟩ ⟨hl,hd,_,(JM.put k eb rv).keeps λc ys ec=>?_,q,es,ep,hq,h2,h3,h4,h5⟩;rw[al<|qZ ec e (λz=>nomatch z)];exact ec
def CK(i:F'):Prop:=∀ov iv,LA i B' ov iv=operate [ov,iv] (MH ov iv)
theorem yA{prog:E9}{w:Ft}{A:Gm}{E:j'->Bs->Prop}{s:Bs}{env:Env}{value KG:F'}{pos:Pos}{T id:HP}{Q:j'->Bs->Prop}
  (hl:NS (.type T) "__getitem__"=pure (ab<|.builtin id)) (hs:CK KG)
  (h:wpAny (FE prog w) A (G0 value env) (λo s₁=>wpAny (FE prog w) A (G0 KG env) (λi s₂=>s₂.TypeIs o T/\wpAny (FE prog w) A (MH o i) Q E s₂) E s₁) E s):
  wpAny (FE prog w) A (G0 (.Subscript value KG pos) env) Q E s:=by
 refine N6<|GX h (λo s₁ h₁=>GX h₁ (λi s₂ h₂=>?_) λ_ _ x=>x) λ_ _ x=>x;obtain⟨hT,h₂⟩:=h₂;unfold Mb;refine EW ?_;rw[getitemInPython_of_ne hT.not_modules];refine EW<|wpAny_specialOf hT hl ?_;have Mx:wpAny (FE prog w) A (LA KG B' o i) (λr s₃=>wpAny (FE prog w) A (letTemporaryGo value o r >>=λ_=>pure r) Q E s₃) E s₂:=by
  rw[hs o i];exact wpAny_operating<|GX h₂ (λr s₃ h₃=>EW<|wpAny_letTemporaryGo<|Fm h₃) λ_ _ x=>x
 first
  |exact Fm<|EW Mx
  |exact EW<|Fm<|EW Mx
  |exact EW Mx
theorem nS(I:Inv X kS σ H s)(g:DGet H a y o):s.TypeIs (.ref a) "dict":=by
 obtain⟨kvs,k,e,_,_⟩|⟨kvs,k,b,e,_,_,_⟩:=g
 ·obtain⟨_,_,vs,_,dd⟩:=gZ I.hok e;exact dd.typeIs
 ·obtain⟨_,_,xs,_,dd⟩:=g7 I.hok e;exact dd.typeIs
def CM(td ty:TE):TE:=λσ H Q=>td σ H λx H1=>ty σ H1 λy H2=>∃a v,x=.ref a/\DGet H2 a y (ab v)/\Q v H2
def Ea(ty td:TE):TE:=λσ H Q=>ty σ H λy H1=>td σ H1 λx H2=>∃a o,x=.ref a/\DGet H2 a y o/\Q (.bl o.isSome) H2
def yB(ty td:TE):TE:=λσ H Q=>ty σ H λy H1=>td σ H1 λx H2=>∃a o,x=.ref a/\DGet H2 a y o/\Q (.bl (!o.isSome)) H2
def CO(td ty tv:TE):TS:=λD σ H=>tv σ H λv H1=>td σ H1 λx H2=>ty σ H2 λy H3=>∃a H4,x=.ref a/\DPut H3 a y v H4/\D.nx σ H4
theorem g9(hu:X.A.units+1 < Ir)(ho:PE X o td)(hi:PE X i ty)(hs:CK i):PE X (.Subscript o i pos) (CM td ty):=by
 intro kS s σ H Q I h;refine yA PySem.F.slot_dict_getitem.lookup hs<|bp (ho kS s σ H _ I h) λu s1 ⟨x,H1,I1,rx,q1⟩=>bp (hi kS s1 σ H1 _ I1 q1) λiv s2 ⟨y,H2,I2,ry,a,v,ex,g,q2⟩=>?_;subst ex;obtain rfl:u=FY a:=rx;exact⟨nS I2 g,tL hu I2 g ry λw' s3 I3 O3=>⟨v,H2,I3,O3,q2⟩⟩
theorem vj(hu:X.A.units+1 < Ir)(hi:PE X i ty)(ho:PE X o td):PC X .In i o (Ea ty td):=by
 intro kS s σ H Q I h;refine bp (hi kS s σ H _ I h) λiv s1 ⟨y,H1,I1,ry,q1⟩=>bp (ho kS s1 σ H1 _ I1 q1) λu s2 ⟨x,H2,I2,rx,a,ov,ex,g,q2⟩=>?_;subst ex;obtain rfl:u=FY a:=rx;exact D_ hu I2 g ry λs3 I3=>⟨.bl ov.isSome,H2,I3,rfl,q2⟩
theorem iE(hu:X.A.units+1 < Ir)(hi:PE X i ty)(ho:PE X o td):PC X .NotIn i o (yB ty td):=by
 intro kS s σ H Q I h;refine bp (hi kS s σ H _ I h) λiv s1 ⟨y,H1,I1,ry,q1⟩=>bp (ho kS s1 σ H1 _ I1 q1) λu s2 ⟨x,H2,I2,rx,a,ov,ex,g,q2⟩=>?_;subst ex;obtain rfl:u=FY a:=rx;exact yz hu I2 g ry λs3 I3=>⟨.bl (!ov.isSome),H2,I3,rfl,q2⟩
theorem yC(hu:X.A.units+1 < Ir)(ho:PE X o td)(hi:PE X i ty)(hv:PE X value tv)(hs:LU value (ab<|.Subscript o i My) pos.line X.env=pure B'):
  PS X (.Assign [.Subscript o i My] value pos) (CO td ty tv):=by
 intro kS s σ H D I h;refine wpAny_Assign_Subscript (bp (hv kS s σ H _ I h) λr s1 ⟨v,H1,I1,rv,q1⟩=>bp (ho kS s1 σ H1 _ I1 q1) λu s2 ⟨x,H2,I2,rx,q2⟩=>bp (hi kS s2 σ H2 _ I2 q2) λiv s3 ⟨y,H3,I3,ry,a,H4,ex,g,q3⟩=>?_) hs;subst ex;obtain rfl:u=FY a:=rx;exact tM hu I3 g ry rv λs4 I4=>⟨σ,H4,I4,q3⟩
theorem nU(h:FU)(hb:Hf < h.objs.size):ObjOk P w H (h.push {cls:=.type "dict",data:=.dict #[]}) h.objs.size (.dK []):=
 ⟨FF _,GD.mpr<|GP<|Fi hb,[],.nil,Nu h⟩
def Bj:TE:=λ_ H Q=>∀p,H p=A'->Q (.ref p) (upd H p<|.dK [])
theorem jI:PE X (.Dict [] [] pos) Bj:=λkS s σ H Q I h=>
 wpAny_Dict_empty ⟨.ref s.heap.objs.size,_,I.laid (a:=s.heap.objs.size) (o:=.dK []) (t':=s.toks) (λ_ _ q=>EV _ q) (lb _)<|nU s.heap I.big,rfl,h _<|I.hok.fresh<|lb _⟩
def qi:bc (TE×TE)->St->Hp->(bc (V×V)->Hp->Prop)->Prop
 |[],_,H,Q=>Q [] H
 |(tk,tv)::r,σ,H,Q=>tk σ H λx H1=>tv σ H1 λy H2=>qi r σ H2 λps H3=>Q ((x,y)::ps) H3
abbrev VV:bc (V×V)->bc (j'×j')->Prop:=Paired λp q=>RelV p.1 q.1/\RelV p.2 q.2
def Dy(X:Cx)(pos:Pos)(keys:bc (kb F'))(NC:bc F')(RN:bc (TE×TE)):Prop:=
 ∀(kS:bc (f'×Obj)) (s:Bs) (σ:St) (H:Hp) (Q:bc (V×V)->Hp->Prop),Inv X kS σ H s->qi RN σ H Q->
  wpAny (FE X.prog X.w) X.A (evalPairs<|pairTrees keys NC X.env pos) (λvs s'=>∃ps H',Inv X kS σ H' s'/\VV ps vs/\Q ps H') X.xe s
theorem yD:Dy X pos [] [] []:=λkS s σ H Q I h=>pairTrees_nil_walk ⟨[],H,I,.nil,h⟩
theorem vk(hk:PE X k tk)(hv:PE X v tv)(hr:Dy X pos ks vs RN):
  Dy X pos (ab k::ks) (v::vs) ((tk,tv)::RN):=λkS s σ H Q I h=>
 pairTrees_cons_walk (bp (hk kS s σ H _ I h) λu s1 ⟨x,H1,I1,rx,q1⟩=>bp (hv kS s1 σ H1 _ I1 q1) λw2 s2 ⟨y,H2,I2,ry,q2⟩=>
  bp (hr kS s2 σ H2 _ I2 q2) λws s3 ⟨ps,H3,I3,JM,q3⟩=>⟨(x,y)::ps,H3,I3,.cons ⟨rx,ry⟩ JM,q3⟩)
def jJ(kvs more:bc (aS×V)):bc (aS×V):=more.foldl (λMA kv=>cV MA kv.1 kv.2) kvs
theorem KV.merge:∀{more:bc (aS×V)} {rs:bc (aS×j')} {kvs:bc (aS×V)} {vs:bc (aS×j')},KV more rs->KV kvs vs->KV (jJ kvs more) (Mi vs rs):=by
 intro more rs kvs vs r;unfold KV at r
 induction r generalizing kvs vs with
 |nil=>intro q;exact q
 |@cons p q ps qs h t ih=>
  intro r0;have e:KV (cV kvs p.1 p.2) (stored vs q.1 q.2):=by
   have:=r0.put p.1 h.2;rw[<-h.1];exact this
  exact ih e
theorem gC:∀more kvs,(jJ kvs more).length<=kvs.length+more.length
 |[],kvs=>by show kvs.length<=kvs.length+0;lia
 |p::r,kvs=>by
  have h1:=gC r<|cV kvs p.1 p.2;have h2:=dk kvs p.1 p.2;show(jJ (cV kvs p.1 p.2) r).length<=_
  rw[FI];lia
theorem jK:∀{kvs:bc (aS×V)} {ws:bc (j'×j')},VV (kvs.map λkv=>(kV kv.1,kv.2)) ws->∃rs,Carries (aQ P w) ws rs/\KV kvs rs
 |[],_,r=>by rw[J7]at r;cases r;exact⟨[],Ha,.nil⟩
 |p::kvs,_,r=>by
  rw[FA]at r;cases r with
  |@cons a b as bs h t=>
   obtain⟨rs,c,q⟩:=jK (P:=P) (w:=w) t;obtain⟨b1,b2⟩:=b;exact⟨(p.1,b2)::rs,⟨gB h.1,rfl,c⟩,.cons ⟨rfl,h.2⟩ q⟩
def zY(RN:bc (TE×TE)):TE:=λσ H Q=>∀p,H p=A'->qi RN σ (upd H p<|.dK []) λps H2=>H2 p=ab (.dK [])/\∃kvs:bc (aS×V),ps=kvs.map (λkv=>(kV kv.1,kv.2))/\kvs.length<=15/\Q (.ref p) (upd H2 p<|.dK<|jJ [] kvs)
theorem yE(h:Dy X pos keys NC RN)(JB:keys.all (·.isSome)=kz)(hl:keys.length=NC.length)(h0:keys≠[])
  (h15:keys.length<=15):PE X (.Dict keys NC pos) (zY RN):=by
 intro kS s σ H Q I q;have hn:=I.hok.fresh<|lb s.heap.objs.size;have I1:=I.laid (a:=s.heap.objs.size) (o:=.dK []) (h':=s.heap.push {cls:=.type "dict",data:=.dict #[]}) (t':=s.toks) (λ_ _ q=>EV _ q) (lb _)<|nU s.heap I.big;refine wpAny_Dict_walk (knd:=aQ X.prog X.w) JB hl h0 h15<|bp (h kS _ σ _ _ I1<|q _ hn) λws s2 ⟨ps,H2,I2,JM,e,kvs,ep,lk,q2⟩=>?_;subst ep;obtain⟨rs,c,rk⟩:=jK (P:=X.prog) (w:=X.w) JM;obtain⟨z,hd,vs0,r0,dd⟩:=rg I2.hok e;cases r0;refine⟨rs,c,dd,λh' dd' hs=>⟨.ref s.heap.objs.size,_,?_,rfl,q2⟩⟩;have hz:(jJ [] kvs).length<=sizeLine:=by
  have h1:=gC kvs [];rw[Lk]at h1;rw[Iq];lia
 have he:∃q,h'.get? s.heap.objs.size=ab q:=let ⟨q,_,_,hq,_⟩:=dd';⟨q,hq⟩
 exact g8 I2 (by rw[e];exact Ha) hs he<|mH hz hd (rk.merge .nil) dd'
structure M2 (X:Cx)(o:F')(m:Str)(Ln:Pos)(e f:F')(Lm:Pos):Prop where
 base:KD o m X.env (G0 o X.env)=G0 o X.env
 few:((HF Lm<|Fu [e,f] X.env).all (λx=>!x.1)&&(N0 Lm<|LC [] X.env).all (λx=>x.1.isSome)
  &&decide (([e,f]:bc F').length+([]:bc Pm).length+(if([]:bc Pm).isEmpty then 0 else 1) < 30))=kz
 line:(Ln.endLine == Lm.line)=kz
 trees:HF Lm (Fu [e,f] X.env)=[(B',G0 e X.env),(B',G0 f X.env)]
def Eb(H:Hp)(a:f'):Prop:=(∃kvs,Rd H a<|.dK kvs)\/∃kvs,Rd H a<|.dT kvs
theorem vm(I:Inv X kS σ H s)(d:Eb H a):
  s.TypeIs (.ref a) "dict"/\(∀b,FY a=.ref b->∃ob,s.heap.get? b=ab ob/\ob.dict=A')/\(a == Hf)=false:=by
 obtain⟨kvs,e⟩|⟨kvs,e⟩:=d
 ·obtain⟨_,hd,vs,_,dd⟩:=gZ I.hok e;refine⟨dd.typeIs,λb q=>?_,hd⟩;cases q;obtain⟨ob,_,_,h1,h2,_⟩:=dd;exact⟨ob,h1,h2.2.1⟩
 ·obtain⟨_,hd,xs,_,dd⟩:=g7 I.hok e;refine⟨dd.typeIs,λb q=>?_,hd⟩;cases q;obtain⟨ob,_,_,h1,h2,_⟩:=dd;exact⟨ob,h1,h2.2.1⟩
theorem Bk(hu:A.units+1 < Ir)(I:Inv X kS σ H s)(g:DGet H a y o)(ry:RelV y u)(rd:RelV d r)(h:∀w' s',Inv X kS σ H s'->RelV (o.getD d) w'->Q w' s'):
  wpAny (FE X.prog X.w) A (call (.builtin "dict.get") [.ref a,u,r]) Q E s:=by
 obtain⟨kvs,k,e,ey,l⟩|⟨kvs,k,b,e,ey,eb,l⟩:=g
 ·subst ey;obtain⟨z,hd,vs,JM,dd⟩:=gZ I.hok e;refine Jf Jw dd.typeIs K6 (KQ _ _ _) (meets_dict_get_default (aQ X.prog X.w) a (gB ry) hd r) ⟨_,dd.mapOf,h _ _ (I.tok _) ?_⟩;rw[l];exact(JM.val k).getD rd
 ·subst ey;cases(show u=FY b from ry);obtain⟨z,hd,xs,JM,dd⟩:=g7 I.hok e;refine Jf Jw dd.typeIs K6 (KQ _ _ _) (meetsH_dict_get_default (JE<|aQ X.prog X.w) a b hd r) ⟨He hu,k,xs,fH I.hok eb,dd,h _ _ (I.tok _) ?_⟩;rw[l];exact(JM.val k).getD rd
def Bl(td ty tx:TE):TE:=λσ H Q=>td σ H λx H1=>∃a,x=.ref a/\Eb H1 a/\ty σ H1 λy H2=>tx σ H2 λz H3=>∃o,DGet H3 a y o/\Q (o.getD z) H3
theorem vn(hu:X.A.units+1 < Ir)(ho:PE X o td)(he:PE X e ty)(hf:PE X f tx)(m:M2 X o "get" Ln e f Lm):PE X (.Call (.Attribute o "get" Ln) [e,f] [] Lm) (Bl td ty tx):=by
 intro kS s σ H Q I h;refine MF m.base m.few m.line KO Jw PySem.F.type_dict_get<|bp (ho kS s σ H _ I h) λu s1 ⟨x,H1,I1,rx,a,ex,d,q1⟩=>?_;subst ex;obtain rfl:u=FY a:=rx;obtain⟨t1,t2,_⟩:=vm I1 d;exists t1,t2;rw[m.trees];refine Jl rfl (Iy (HA (bp (he kS s1 σ H1 _ I1 q1) λiv s2 ⟨y,H2,I2,ry,q2⟩=>
  HA (bp (hf kS s2 σ H2 _ I2 q2) λfv s3 ⟨z,H3,I3,rz,ov,g,q3⟩=>Jk ?_))))
 exact Bk hu I3 g ry rz λw' s4 I4 O3=>⟨_,H3,I4,O3,q3⟩
end L2
namespace Att
open PySem PySem.W PySem.Calls PyProof.Rows
theorem jt:∀ns vs,WellAll P h vs (ns.map Rc)->Kr vs ns:=by
 intro ns
 induction ns with
 |nil=>
  intro vs w;rw[J7]at w;cases w;exact .nil
 |cons n ns ih=>
  intro vs w;rw[FA]at w;cases w with
  |cons a b=>
   cases a;exact .cons _ _<|ih _ b
theorem tN{l:JN}{n:Nat}(hn:l.most=ab n){P:M9}{h:FU}{args:bc WData}{Sq:bc j'}
  (RT:l.row.toRowW.claim.pre args=kz) (YD:WellAll P h Sq args):
  ∃a vs ns,Sq=[FY a]/\args=[WData.list<|ns.map Rc]/\h.get? a=ab {cls:=.type "list",data:=.seq vs.toArray}/\Kr vs ns/\ns.length<=n:=by
 have Rn:WShape.hasAll [] args [.list .int]=true:=(pre_splitW RT).1;have hc:l.pre.holds [] {args:=args}=true:=(pre_splitW RT).2;obtain⟨d,r,rfl,h1,h2⟩:=hasAllW_cons Rn;obtain rfl:=hasAllW_nil h2;obtain⟨xs,rfl,h3⟩:=hasW_list h1;obtain⟨ns,rfl⟩:=items_int h3;have G':ns.length<=n:=by
  unfold OpenLaw.pre at hc;have h4:(WTm.not<|.lt (.lit<|.int (n:Int))<|.len<|.arg 0).holds [] {args:=[.list<|ns.map .int]}=true:=by
   have h4:=(holds_andW hc).1;rw[hn]at h4;exact h4
  have h5:=condW_of h4<|w_not<|w_lt w_lit<|w_len_list<|w_arg rfl;rw[ka]at h5;refine Nat.le_of_not_lt λq=>?_;have q':(n:Int) < ((ns.length:Nat):Int):=by lia
  first
   |(rw[E2 q']at h5;exact absurd h5<|by decide)
   |(simp at h5;lia)
 cases YD with
 |cons w1 w2=>
  cases w2;cases w1 with
  |list ho JB=>exact⟨_,_,ns,rfl,rfl,ho,jt ns _ JB,G'⟩
theorem tO(l:JN)(args:bc WData):l.row.toRowW.claim.post args (.bool kz) args=true:=
 postW_of (r:=l.row.toRowW) (X:=(kz == kz))
  (show QJ [] (.bool kz) .bool=kz by first|rfl|decide|simp [QJ,WShape.arms,WShape.armsAll])
  (show(WTm.eq .res<|.lit<|.bool kz).value [] {args:=args,res:=ab<|.bool kz,after:=args}=ab (.bool<|kz == kz)from w_eq_bool (w_res rfl) w_lit) rfl
theorem attach_call{l:JN}{n:Nat}{q:E9}{loose:bc Str}{XP:(Str->kb j')->FU->Prop}{YP:Ft->FU->Prop}{d:DefRec}
  (hn:l.most=ab n) (Ul:d.params.defaults=[])
  (call:∀w s₀ s₁ mg mb fa o pm cd NJ a vs ns,
   Ground q loose [] XP w s₀ mg mb s₁.heap->YP w s₁.heap->
   s₁.heap.get? fa=ab o->o.data=.func (docDef d.name d.params d.body d.scope pm cd NJ)->s₁.heap.CodeRec cd d.name->mg d.name=ab (.ref fa)->
   s₁.heap.get? a=ab {cls:=.type "list",data:=.seq vs.toArray}->Kr vs ns->ns.length<=n->s₁.gens=#[]->
   codeAny (FE l.prog w) LX (.call (.ref fa) ⟨[.ref a],[]⟩) (λr s'=>r=.ok (.ret<|.bool kz)/\OldK s₁.heap s'.heap/\s'.os=s₁.os/\Ks s'.gens) s₁):
  M7 q loose XP YP l.row.toRowW d [] (λf vs=>Mm f vs):=by
 intro w s₀ s₁ mg mb G Y fa o pm cd NJ dV kV ho hd O6 hD hmg hg args Sq as RT hlay ZX YD hlo;obtain rfl:dV=.none:=Dflts.none hD Ul;obtain rfl:kV=.none:=Dflts.noKw hD;obtain⟨a,vs,ns,rfl,rfl,SE,PL,G'⟩:=tN hn RT YD;refine enter_call<|Je (call w s₀ s₁ mg mb fa o pm cd NJ a vs ns G Y ho (fd_plain hd) O6 hmg SE PL G' hg) λr s' hq=>?_;obtain⟨rfl,h2,h3,h4⟩:=hq;exact⟨.inl ⟨.bool kz,.bool kz,[],rfl,λ_=>rfl,.bool kz,tO l _,λ_=>⟨Kv,λ_ hm=>(nomatch hm)⟩⟩,h2,h3,h4⟩
end Att
namespace L2
open PySem PySem.Spec PyProof.Rows
theorem iF:∀{vs:bc j'} {ns:bc Int},Kr vs ns->Vals (ns.map V.int) vs
 |_,_,.nil=>.nil
 |_,_,.cons n t h=>.cons ⟨t,rfl⟩<|iF h
def g_(s:Gs)(j:Nat):Gs:=match s with
 |.ClassDef _ _ _ body _ _ _ _ _ _ _=>body.getD j<|.Pass ⟨0,0,0,0⟩
 |_=>.Pass ⟨0,0,0,0⟩
def aw(s:Gs):IB:=match s with
 |.FunctionDef _ a _ _ _ _ _ _ _ _=>a
 |_=>{posonlyargs:=[],args:=[],vararg:=A',kwonlyargs:=[],kw_defaults:=[],kwarg:=A',defaults:=[]}
def ar(s:Gs):bc Gs:=match s with
 |.FunctionDef _ _ b _ _ _ _ _ _ _=>b
 |_=>[]
def ah(s:Gs):Iv:=match s with
 |.FunctionDef _ _ _ _ _ _ sc _ _ _=>sc
 |_=>{kind:=.function,names:=[],isGenerator:=B',isCoroutine:=B'}
abbrev bD:uV:=λ_ _ _ _ _ _=>False
abbrev E0:XK:=λ_ _ _=>False
theorem vo:iC bD X E0:=λ_ _ _ _ _ _ _ h=>h.elim
structure Fun (K:gV)(x qual:Str)(st:Gs)(f:f')(fd:E6):Prop where
 ex:∃(oc:j') (od:kb f') (kV NJ pm:j') (an:kb f') (HL ct:j') (Q4:HK (kb j')),
  fd=EZ x qual (aw st) (ar st) (ah st) .none kV NJ pm an HL ct/\K.lookup f=ab ⟨oc,od,.func fd,Q4⟩/\EU K HL qual=kz
 kp:x' K (.ref f)=kz
section
variable {K:gV}
theorem Fun.ok{st:Gs}{k:Nat}(F:Fun K x qual st f fd)(S:ax N ps (ah st))(len:∀vs H Q E,sp vs H Q E->vs.length=ps.length)
  (PN:∀HL A outer s H vs Q E,Room k (A.deeper<|Ho qual (ah st) s.heap.objs.size f HL)->sp vs H Q E->
   ∃t,PSs (qf bD P w K mg base N qual (ah st) f HL A outer s H E).nox (ar st) t/\t {nx:=λ_ H'=>Q .non H',rt:=Q} (start N vs) H):FnOk P w K mg base bD (k+1) f fd ps sp:=by
 obtain⟨oc,od,kV,NJ,pm,an,HL,ct,Q4,rfl,lk,O6⟩:=F.ex;refine zU lk O6 S len λA outer s H vs Q E hr Ri=>?_;obtain⟨t,h,q⟩:=PN HL A outer s H vs Q E hr Ri;exact⟨t,h.nox,q⟩
theorem Fun.binds{st:Gs}{ps:bc Str}(F:Fun K x qual st f fd)
  (h:∀kV NJ pm an HL ct us,us.length=ps.length->NZ (EZ x qual (aw st) (ar st) (ah st) .none kV NJ pm an HL ct) ⟨us,[]⟩=pure (ps.zip us)):Binds K fd ps []:=by
 obtain⟨oc,od,kV,NJ,pm,an,HL,ct,Q4,rfl,lk,O6⟩:=F.ex;exact .all<|h kV NJ pm an HL ct
theorem aF{st:Gs}{kV:j'}(l:K.lookup f=ab ⟨oc,od,.func<|EZ x qual (aw st) (ar st) (ah st) .none kV NJ pm an HL ct,Q4⟩)
  (c:EU K HL qual=kz) (k:x' K (.ref f)=kz):Fun K x qual st f (EZ x qual (aw st) (ar st) (ah st) .none kV NJ pm an HL ct):=⟨⟨oc,od,kV,NJ,pm,an,HL,ct,Q4,rfl,l,c⟩,k⟩
end
theorem rh(hr:Room k A):A.units+1 < Ir:=IV (Nat.add_le_add_left (by decide:1<=64) _) hr.units
theorem au(h:n<=1000):n < sizeLine:=IV h (by decide)
theorem pv{X:Cx}(i:Nat){pos:Pos}(hN:X.N[i]? =ab x:=by rfl)(hv:Cd X.env.scope x:=by first|exact E8 rfl|exact Ie (E8 rfl)|exact Ie<|Ie rfl)(hd:(x == ("__debug__":Str))=false:=by decide)
  (O6:(x == ("__classdict__":Str))=false:=by decide):PE X (.Name x pos) (Ce i):=u4 hN hv hd O6
theorem aG{A B:Prop}(h:B):if B'=kz then A else B:=by
 rw[E7 i'];exact h
theorem aL{A B:Prop}(h:A):if kz=kz then A else B:=by
 rw[Fc rfl];exact h
theorem hE{c A B:Prop} [Decidable c] (h1:c->A)(h2:¬c->B):if c then A else B:=by
 by_cases h:c
 ·rw[Fc h];exact h1 h
 ·rw[E7 h];exact h2 h
def Same(H H':Hp):Prop:=∀b o,H b=ab o->H' b=ab o
theorem Same.refl(H:Hp):Same H H:=λ_ _ h=>h
theorem Same.trans(a:Same H H1)(b:Same H1 H2):Same H H2:=λc o h=>b c o<|a c o h
theorem Same.free(e:Same H H')(h:H' l=A'):H l=A':=by
 cases q:H l with
 |none=>rfl
 |some o=>
  rw[e l o q]at h;cases h
theorem Same.seq{K:gV}(e:Same H H')(h:SqL K H a xs):SqL K H' a xs:=by
 obtain(h|⟨o,h⟩)|h:=h
 ·exact .inl<|.inl<|e _ _ h
 ·exact .inl<|.inr ⟨o,e _ _ h⟩
 ·exact .inr h
section
variable {κ:Type}[Kx κ]
theorem ri:∀{l:bc κ} {k:κ},l.Nodup->¬k∈l->(l++[k]).Nodup
 |[],k,_,_=>by simp
 |a::r,k,h,hk=>by
  obtain⟨h1,h2⟩:=GK.mp h;show(a::(r++[k])).Nodup
  refine GK.mpr ⟨λm=>?_,ri h2 λm=>hk<|Fl.mpr<|Ie m⟩;obtain q|q:=FN.mp m
  ·exact h1 q
  ·exact hk<|Fl.mpr<|E8 (Fb.mp q).symm
end
end L2
namespace L2
open PySem
theorem jL(h:n<=10000):n < sizeLine:=IV h (by decide)
end L2
namespace L2
open PySem PySem.Spec PyProof.Rows
mutual
def RD(H:Hp):Fq->V->Prop
 |.none,v=>v=.non
 |.bool b,v=>v=.bl b
 |.int i,v=>v=.int i
 |.str x,v=>v=.str x
 |.list ds,v=>∃a xs,v=.ref a/\H a=ab (.lst xs)/\eP H ds xs
 |.tuple ds,v=>∃a xs,v=.ref a/\H a=ab (.tup xs)/\eP H ds xs
 |.dict _,_=>False
def eP(H:Hp):bc Fq->bc V->Prop
 |[],xs=>xs=[]
 |d::ds,xs=>∃y ys,xs=y::ys/\RD H d y/\eP H ds ys
end
theorem di(h:H a=ab (.lst xs))(r:eP H ds xs):RD H (.list ds) (.ref a):=by
 unfold RD;exact⟨a,xs,rfl,h,r⟩
theorem cX(h:H a=ab (.tup xs))(r:eP H ds xs):RD H (.tuple ds) (.ref a):=by
 unfold RD;exact⟨a,xs,rfl,h,r⟩
theorem cg(h:RD H (.list ds) v):∃a xs,v=.ref a/\H a=ab (.lst xs)/\eP H ds xs:=by
 unfold RD at h;exact h
theorem aV(h:RD H (.tuple ds) v):∃a xs,v=.ref a/\H a=ab (.tup xs)/\eP H ds xs:=by
 unfold RD at h;exact h
theorem mI(b:ER):RD H (.bool b) (.bl b):=by unfold RD;rfl
theorem fj(i:Int):RD H (.int i) (.int i):=by unfold RD;rfl
theorem gJ(x:Str):RD H (.str x) (.str x):=by unfold RD;rfl
theorem bM:eP H [] []:=by unfold eP;rfl
theorem aO(h:RD H d y)(t:eP H ds ys):eP H (d::ds) (y::ys):=by
 unfold eP;exact⟨y,ys,rfl,h,t⟩
theorem a_(h:eP H [] xs):xs=[]:=by
 unfold eP at h;exact h
theorem aI(h:eP H (d::ds) xs):∃y ys,xs=y::ys/\RD H d y/\eP H ds ys:=by
 unfold eP at h;exact h
theorem jM:∀ns:bc Int,eP H (ns.map N3)<|ns.map V.int
 |[]=>bM
 |n::r=>aO (fj n)<|jM r
theorem dX:∀{ds:bc Fq} {xs:bc V},eP H ds xs->xs.length=ds.length
 |[],_,h=>by
  rw[a_ h];rfl
 |d::ds,_,h=>by
  obtain⟨y,ys,rfl,_,t⟩:=aI h;rw[FI,FI,dX t]
theorem dy:∀{ds:bc Fq} {xs:bc V} {j:Nat} {v:V},eP H ds xs->xs[j]? =ab v->RD H (ds.getD j .none) v
 |[],_,_,_,h,e=>by rw[a_ h]at e;cases e
 |d::ds,_,j,v,h,e=>by
  obtain⟨y,ys,rfl,h1,t⟩:=aI h;cases j with
  |zero=>
   have e':y=v:=by simpa using e
   subst e';exact h1
  |succ j=>exact dy (ds:=ds) t (by simpa using e)
mutual
theorem dY(k:Same H H'):∀d v,RD H d v->RD H' d v
 |.none,v,h=>by unfold RD at h ⊢;exact h
 |.bool b,v,h=>by unfold RD at h ⊢;exact h
 |.int i,v,h=>by unfold RD at h ⊢;exact h
 |.str x,v,h=>by unfold RD at h ⊢;exact h
 |.list ds,v,h=>by
  obtain⟨a,xs,e,h1,h2⟩:=cg h;subst e;exact di (k _ _ h1)<|jN k ds xs h2
 |.tuple ds,v,h=>by
  obtain⟨a,xs,e,h1,h2⟩:=aV h;subst e;exact cX (k _ _ h1)<|jN k ds xs h2
 |.dict _,v,h=>by
  unfold RD at h;exact h.elim
theorem jN(k:Same H H'):∀ds xs,eP H ds xs->eP H' ds xs
 |[],xs,h=>by
  rw[a_ h];exact bM
 |d::ds,xs,h=>by
  obtain⟨y,ys,e,h1,h2⟩:=aI h;subst e;exact aO (dY k d y h1)<|jN k ds ys h2
end
mutual
theorem dE(I:Inv X kS σ H s):∀d x v,RD H d x->RelV x v->∃as,Reads s.heap v d as
 |.none,x,v,h,r=>by
  unfold RD at h;subst h;cases r;exact⟨[],.none⟩
 |.bool b,x,v,h,r=>by
  unfold RD at h;subst h;cases r;exact⟨[],.bool b⟩
 |.int i,x,v,h,r=>by
  unfold RD at h;subst h;obtain⟨t,rfl⟩:=r;exact⟨[],.int i t⟩
 |.str y,x,v,h,r=>by
  unfold RD at h;subst h;obtain⟨t,rfl⟩:=r;exact⟨[],.str y t⟩
 |.list ds,x,v,h,r=>by
  obtain⟨a,xs,e,h1,h2⟩:=cg h;subst e;cases r;obtain⟨Gx,rv,⟨o,n,e1,e2,_,e4⟩,_⟩:=I.list<|SqL.of h1;obtain⟨as,q⟩:=iG I ds xs Gx h2 rv;exact⟨a::as,.list e1 e2 e4<|by simpa using q⟩
 |.tuple ds,x,v,h,r=>by
  obtain⟨a,xs,e,h1,h2⟩:=aV h;subst e;cases r;obtain⟨Gx,rv,⟨o,e1,e2,n,e4⟩,_⟩:=I.tuple<|SqT.of h1;obtain⟨as,q⟩:=iG I ds xs Gx h2 rv;exact⟨as,.tuple e1 e2 e4<|by simpa using q⟩
 |.dict _,x,v,h,_=>by
  unfold RD at h;exact h.elim
theorem iG(I:Inv X kS σ H s):∀ds xs vs,eP H ds xs->Vals xs vs->∃as,ReadsAll s.heap vs ds as
 |[],xs,vs,h,r=>by
  rw[a_ h]at r;cases r;exact⟨[],.nil⟩
 |d::ds,xs,vs,h,r=>by
  obtain⟨y,ys,e,h1,h2⟩:=aI h;subst e;cases r with
  |cons r1 r2=>
   obtain⟨as,q1⟩:=dE I d y _ h1 r1;obtain⟨bs,q2⟩:=iG I ds ys _ h2 r2;exact⟨as++bs,.cons q1 q2⟩
end
inductive CQ (x y:V)(H:Hp)(Q:VK):Prop
 |mk (da db:Fq)(ra:RD H da x)(rb:RD H db y)(sa:Gk da=kz)(sb:Gk db=kz)(q:Q (.bl<|GG da db) H):CQ x y H Q
inductive CS (x y:V)(H:Hp)(Q:VK):Prop
 |mk (da db:Fq)(ra:RD H da x)(rb:RD H db y)(sa:Gk da=kz)(sb:Gk db=kz)(q:Q (.bl (!GG da db)) H):CS x y H Q
def Bm:R2:=λx y H Q=>CQ x y H Q
def Bn:R2:=λx y H Q=>CS x y H Q
theorem Bo(hu:X.A.units+64 < Ir):OpR X (Gp .Eq) Bm:=by
 intro kS s σ H x y v u Q I rx ry h;obtain⟨da,db,ra,rb,sa,sb,q⟩:=h;obtain⟨as,qa⟩:=dE I da x v ra rx;obtain⟨bs,qb⟩:=dE I db y u rb ry;exact eq_dataH qa qb sa sb hu ⟨.bl _,H,I,rfl,q⟩
theorem Bp(hu:X.A.units+64 < Ir):OpR X (Gp .NotEq) Bn:=by
 intro kS s σ H x y v u Q I rx ry h;obtain⟨da,db,ra,rb,sa,sb,q⟩:=h;obtain⟨as,qa⟩:=dE I da x v ra rx;obtain⟨bs,qb⟩:=dE I db y u rb ry;exact ne_dataH qa qb sa sb hu ⟨.bl _,H,I,rfl,q⟩
theorem aK(hu:X.A.units+64 < Ir):OpR X (Gp .Eq) (λx y H Q=>DW x y H Q\/Bm x y H Q):=OpR.or Ct<|Bo hu
theorem gK(hu:X.A.units+64 < Ir):OpR X (Gp .NotEq) (λx y H Q=>DX x y H Q\/Bn x y H Q):=OpR.or Cu<|Bp hu
theorem dZ:dB X (.builtin "isinstance") (λxs H Q=>∃x t c b,xs=[x,.ty c]/\gI X.K H x t/\Hl X.K t (.type c)=ab b/\Q (.bl b) H):=by
 intro kS s σ H xs us Q I r h;obtain⟨x,t,c,b,rfl,ty,e,q⟩:=h;obtain⟨u,w',rfl,rx,ry⟩:=va r;obtain rfl:w'=Kd c:=ry;exact k_ I rx ty e λtk=>⟨.bl b,H,I.tok _,rfl,q⟩
def eQ(T c:HP):kb ER:=if(Kd T == Kd c)=kz then ab kz else if PySem.W.kitMeta c=kz then(fastBuiltinMro T).map (·.contains (Kd c))else A'
theorem bB{K:gV}(h:eQ T c=ab b):Hl K (.type T) (.type c)=ab b:=h
def mJ:Fq->HP
 |.none=>"NoneType"
 |.bool _=>"bool"
 |.int _=>"int"
 |.str _=>"str"
 |.list _=>"list"
 |.tuple _=>"tuple"
 |.dict _=>"dict"
theorem vp{K:gV}:∀d v,RD H d v->gI K H v (.type<|mJ d)
 |.none,v,h=>by
  unfold RD at h;subst h;exact .non
 |.bool b,v,h=>by
  unfold RD at h;subst h;exact .bl b
 |.int i,v,h=>by
  unfold RD at h;subst h;exact .int i
 |.str x,v,h=>by
  unfold RD at h;subst h;exact .str x
 |.list ds,v,h=>by
  obtain⟨a,xs,e,h1,_⟩:=cg h;subst e;exact .lst h1
 |.tuple ds,v,h=>by
  obtain⟨a,xs,e,h1,_⟩:=aV h;subst e;exact .tup h1
 |.dict _,v,h=>by
  unfold RD at h;exact h.elim
def Bq:Fq->ER
 |.tuple _=>kz
 |_=>B'
def mK:Fq->ER
 |.int _=>kz
 |.bool _=>kz
 |_=>B'
def mL:Fq->ER
 |.bool _=>kz
 |_=>B'
def jA:Fq->ER
 |.dict _=>kz
 |_=>B'
theorem vq:eQ "NoneType" "tuple"=ab B'/\eQ "bool" "tuple"=ab B'/\eQ "int" "tuple"=ab B'/\eQ "str" "tuple"=ab B'/\eQ "list" "tuple"=ab B'/\eQ "tuple" "tuple"=ab true:=by
 refine⟨?_,?_,?_,?_,?_,?_⟩<;>decide+kernel
theorem Br:eQ "NoneType" "int"=ab B'/\eQ "bool" "int"=ab kz/\eQ "int" "int"=ab kz/\eQ "str" "int"=ab B'/\eQ "list" "int"=ab B'/\eQ "tuple" "int"=ab false:=by
 refine⟨?_,?_,?_,?_,?_,?_⟩<;>decide+kernel
theorem yF:eQ "NoneType" "bool"=ab B'/\eQ "bool" "bool"=ab kz/\eQ "int" "bool"=ab B'/\eQ "str" "bool"=ab B'/\eQ "list" "bool"=ab B'/\eQ "tuple" "bool"=ab false:=by
 refine⟨?_,?_,?_,?_,?_,?_⟩<;>decide+kernel
theorem tP{K:gV}(d:Fq)(h:jA d=B'):Hl K (.type<|mJ d) (.type "tuple")=ab (Bq d):=by
 obtain⟨h1,h2,h3,h4,h5,h6⟩:=vq;cases d with
 |none=>exact bB h1
 |bool _=>exact bB h2
 |int _=>exact bB h3
 |str _=>exact bB h4
 |list _=>exact bB h5
 |tuple _=>exact bB h6
 |dict _=>cases h
theorem yG{K:gV}(d:Fq)(h:jA d=B'):Hl K (.type<|mJ d) (.type "int")=ab (mK d):=by
 obtain⟨h1,h2,h3,h4,h5,h6⟩:=Br;cases d with
 |none=>exact bB h1
 |bool _=>exact bB h2
 |int _=>exact bB h3
 |str _=>exact bB h4
 |list _=>exact bB h5
 |tuple _=>exact bB h6
 |dict _=>cases h
theorem vt{K:gV}(d:Fq)(h:jA d=B'):Hl K (.type<|mJ d) (.type "bool")=ab (mL d):=by
 obtain⟨h1,h2,h3,h4,h5,h6⟩:=yF;cases d with
 |none=>exact bB h1
 |bool _=>exact bB h2
 |int _=>exact bB h3
 |str _=>exact bB h4
 |list _=>exact bB h5
 |tuple _=>exact bB h6
 |dict _=>cases h
theorem lu(h:RD H d v):jA d=false:=by
 cases d with
 |dict _=>
  unfold RD at h;exact h.elim
 |_=>rfl
def yH:V->bc V->Hp->VK->Prop:=λx vs H Q=>∃l xs i y,x=.ref l/\vs=[.int i,y]/\H l=ab (.lst xs)/\0<=i/\i<=xs.length/\xs.length < sizeLine/\Q .non (upd H l<|.lst<|xs.take i.toNat++y::xs.drop i.toNat)
theorem tQ:D5 X "list.insert" yH:=by
 intro kS s σ H x vs v us Q I rx rv h;obtain⟨l,xs,i,y,rfl,rfl,hH,h0,h1,hz,q⟩:=h;cases rx;obtain⟨u1,u2,rfl,⟨t,rfl⟩,ry⟩:=va rv;obtain⟨z,Gx,n,r,hl,e⟩:=I.lstM hH;have hs:(sizeLine:Nat)=16777216:=Iq;have Y2:¬(!N4 i)=true:=by
  rw[NV (by lia)<|by lia];exact i'
 refine K2 Lq ⟨_,e,rfl⟩ F.entry_list_insert (F.args_list_insert_3 _ _ _) (L6 l Gx.toArray n i t u2 Y2<|by rw[Ff];lia) ⟨e,?_⟩;refine⟨.non,_,I.lset (its':=Gx.take i.toNat++u2::Gx.drop i.toNat) hH e ?_ ((r.take _).append<|.cons ry<|r.drop _) ?_,rfl,q⟩
 ·have h2:¬i < 0:=by lia
  have h3:min i.toNat Gx.toArray.size=i.toNat:=by rw[Ff];lia
  show(Gx.toArray.extract 0 (if i < 0 then(i+((Gx.toArray.size:Nat):Int)).toNat else min i.toNat Gx.toArray.size)).push u2++Gx.toArray.extract (if i < 0 then(i+((Gx.toArray.size:Nat):Int)).toNat else min i.toNat Gx.toArray.size)=_
  rw[E7 h2,h3];apply Array.toList_inj.mp;simp;exact E3 (by simp)
 ·rw[C',FI,FO,Hi];lia
structure Fn (P:E9)(w:Ft)(K:gV)(mg:Str->kb j')(base:FU)(k:Nat)(x:Str)(f:f')(fd:E6)(ps:bc Str)(sp:Sp):Prop where
 ok:FnOk P w K mg base bD k f fd ps sp
 b:Binds K fd ps []
 kp:x' K (.ref f)=kz
 at_:mg x=ab (.ref f)
theorem aC{X:Cx}{j:Nat}{k:Nat}{f:f'}{fd:E6}{ps:bc Str}{sp:Sp}{x:Str}{p:Pos}{pos:Pos}{e:F'}{es:bc F'}{t:TA}(G:Fn X.prog X.w X.K X.mg X.base j x f fd ps sp)(hr:Room k X.A)(SH:j<=k)(hg:Gl X x)(ha:PA X (e::es) t)(Qy:(x == ("__debug__":Str))=false:=by decide)
  (he:Fu (e::es) X.env=(B',G0 e X.env)::Fu es X.env:=by rfl) (Kj:(HF pos<|Fu es X.env).any (·.1)=false:=by rfl):PE X (.Call (.Name x p) (e::es) [] pos) (zQ sp [] E0 t):=
 yp G.ok (hr.mono SH) hg G.at_ G.kp G.b .nil vo ha Qy he Kj
theorem ag(h:H p=A')(o:HO):Same H (upd H p o):=λb u q=>by rw[al<|ak q h];exact q
theorem Same.upd_new(k:Same H0 H)(h:H0 p=A')(o:HO):Same H0 (upd H p o):=λb u q=>by rw[al<|ak q h];exact k b u q
theorem qj{α:Type}{xs:bc α}{i:Int}(h0:0<=i)(h1:i < xs.length):∃v,xs[i.toNat]? =ab v/\kL xs i=ab v:=by
 have hk:i.toNat < xs.length:=by lia
 have ek:i=((i.toNat:Nat):Int):=by lia
 have q:kL xs ((i.toNat:Nat):Int)=ab xs[i.toNat]:=bf<|E1 hk;rw[<-ek]at q;exact⟨_,E1 hk,q⟩
theorem vv{ns:bc Int}{i:Int}(h0:0<=i)(h1:i < ns.length):∃v,ns[i.toNat]? =ab v/\kL (ns.map V.int) i=ab (.int v):=by
 obtain⟨v,h2,h3⟩:=qj (xs:=ns.map V.int) h0 (by rw[ka];exact h1);rw[Fk]at h2;cases e:ns[i.toNat]? with
 |none=>rw[e]at h2;cases h2
 |some z=>
  rw[e]at h2;have Rw:V.int z=v:=by simpa using h2
  subst Rw;exact⟨z,rfl,h3⟩
def AllIn(f:Str->kb f'):bc (Str×f')->Prop
 |[]=>True
 |p::r=>f p.1=ab p.2/\AllIn f r
theorem AllIn.look:∀{cl:bc (Str×f')},AllIn f cl->∀{y:Str} {c:f'},cl.lookup y=ab c->f y=ab c
 |[],_,y,c,e=>by cases e
 |(n,a)::r,h,y,c,e=>by
  rw[Hh]at e;cases q:(y == n)with
  |true=>
   rw[q]at e;have e1:y=n:=eq_of_beq q;have e2:a=c:=Fe e;rw[e1,<-e2];exact h.1
  |false=>
   rw[q]at e;exact AllIn.look h.2 e
def cn(X:Cx)(scope:Iv)(cl:bc (Str×f'))(NY:bc Str)(C:f')(fp:bc f')(s₀:Bs)(H₀:Hp):Cx where
 prog:=X.prog
 w:=X.w
 K:=X.K
 mg:=X.mg
 base:=X.base
 A:=X.A
 N:=NY
 s₀:=s₀
 H₀:=H₀
 env:=P4 scope (Ge (C+1) scope.names cl) C X.env
 outer:=X.stack
 stack:=X.stack
 ex:=fp
 fn:=λx=>(cl.lookup x).isNone
 calm:=X.calm
 pn:=[]
 xe:=λ_ _=>False
structure CompSc (X:Cx)(scope:Iv)(cl:bc (Str×f'))(NY:bc Str)(idx:bc (kb Nat)):Prop where
 clos:closureFor scope X.env=pure cl
 all:AllIn (λy=>X.env.cells.lookup y) cl
 c2:∀n,((Jc scope X.env).names.all λq=>!(decide (q.2=.cell) || decide (q.2=.free)) || ((Ge n scope.names cl).lookup q.1).isSome)=kz
 ix:((NY.zip idx).all λp=>match p.2 with
  |none=>kz
  |some i=>decide (X.N[i]? =ab p.1)&&(decide (X.env.kindOf p.1=ab .cell) || decide (X.env.kindOf p.1=ab .free))&&(decide ((Jc scope X.env).names.lookup p.1=ab .cell) || decide ((Jc scope X.env).names.lookup p.1=ab .free))&&(scope.names.all λq=>!decide (q.2=.cell) || !decide (q.1=p.1)))=kz
 len:idx.length=NY.length
 kind:scope.kind=.function
 names:∀y∈scope.names,y.2=.local->scope.names.lookup y.1=ab .local
theorem bX:∀names n MA,Ge n names MA=Ge n names []++MA
 |[],_,_=>rfl
 |(x,k)::r,n,MA=>by
  unfold Ge
  split
  ·rw[bX r (n+1)<|(x,n)::MA,bX r (n+1) [(x,n)],MS];rfl
  ·exact bX r n MA
theorem iH:∀{names:bc (Str×Ke)} {n:Nat} {y:Str} {c:f'},(y,c)∈Ge n names []->(y,IH)∈names
 |(x,k)::r,n,y,c,h=>by
  unfold Ge at h
  split at h
  ·rename_i hk;rw[bX]at h;obtain h|h:=FN.mp h
   ·exact Fx _<|iH h
   ·cases Fb.mp h;rw[eq_of_beq hk];exact Fz
  ·exact Fx _<|iH h
theorem jO(h:(Ge n names cl).lookup y=ab c):(y,c)∈Ge n names []\/cl.lookup y=ab c:=by
 rw[bX,Mv]at h;cases e:(Ge n names []).lookup y with
 |some d=>
  rw[e]at h;cases h;exact .inl<|F_ e
 |none=>
  rw[e]at h;exact .inr h
theorem vw(hn:∀q∈names,q.2=IH->q.1≠y):(Ge n names cl).lookup y=cl.lookup y:=by
 rw[bX,Mv];cases e:(Ge n names []).lookup y with
 |some d=>exact absurd rfl<|hn _ (iH<|F_ e) rfl
 |none=>rfl
theorem kP{M:P'}{A:Gm}{E:j'->Bs->Prop}{s:Bs}{scope:Iv}{globals:f'}{Q1:bc (Str×f')}{qual:Str}{outer:Env}{Q:Env->Bs->Prop}
  (hQ:∀h',h'.Ns s.heap.objs.size (λ_=>A')->(∀b o,s.heap.get? b=ab o->h'.get? b=ab o)->CellsOk h' (s.heap.objs.size+1) (Ge (s.heap.objs.size+1) scope.names [])->
   Q (newEnv scope s.heap.objs.size globals (Ge (s.heap.objs.size+1) scope.names Q1) qual A' .none (ab outer) outer.builtins) {s with heap:=h'}):
  wpAny M A (LB scope globals Q1 [] qual A' .none<|ab outer) Q E s:=by
 simp only [LB,Mu,J5];refine EW<|wpAny_alloc ?_;refine EW<|wpAny_layCells _ (λname kind cells=>by cases hkc:kind == IH<;>simp [hkc]) _ _ _ _ ?_;have ok:=cellsFrom_ok scope.names (s.heap.push {cls:=.type "dict",data:=.dict #[]}) (s.heap.objs.size+1) [] ⟨λ_ _ hm=>(nomatch hm),Kv⟩ (by rw[Iw];exact lb _);rw[Iw]at ok;rw[show({s with heap:=s.heap.push {cls:=.type "dict",data:=.dict #[]}}:Bs).heap.objs.size=s.heap.objs.size+1 from Iw ..];refine EW ?_;rw[List.forIn_nil];exact Fm<|Fm<|hQ _ ((Heap.Ns.new s.heap<|.type "dict").keeps<|Nt _ _) (λb o e=>Nt _ _ b o<|EV _ e) ok
def vx(idx:bc (kb Nat))(σ:St):St:=idx.map λo=>match o with
 |none=>A'
 |some i=>(σ[i]?).getD A'
theorem CompSc.look(S:CompSc X scope cl NY idx)(n:Nat)(h:(Jc scope X.env).names.lookup y=ab .cell\/(Jc scope X.env).names.lookup y=ab .free):∃c,(Ge n scope.names cl).lookup y=ab c:=by
 have hm:∃k,(y,k)∈(Jc scope X.env).names/\(k=.cell\/k=.free):=by
  obtain h|h:=h
  ·exact⟨_,F_ h,.inl rfl⟩
  ·exact⟨_,F_ h,.inr rfl⟩
 obtain⟨k,hk,hkk⟩:=hm;have q:=Gq.mp (S.c2 n) _ hk;have e:(decide (k=IH) || decide (k=OB))=true:=by
  obtain rfl|rfl:=hkk
  ·rfl
  ·rfl
 have q':(!(decide (k=IH) || decide (k=OB)) || ((Ge n scope.names cl).lookup y).isSome)=true:=q;rw[e]at q';exact IJ.mp q'
theorem vy{fp:bc f'}{h₁:FU}{m:Str->kb j'}{tk:Nat}(S:CompSc X scope cl NY idx)(I:Inv X kS σ H s)
  (f2:∀b∈fp,kN X kS H b) (RK:∀b∈fp,b < s.heap.objs.size) (QX:h₁.Ns s.heap.objs.size m) (Qv:∀b o,s.heap.get? b=ab o->h₁.get? b=ab o) (hcs:CellsOk h₁ (s.heap.objs.size+1) (Ge (s.heap.objs.size+1) scope.names [])):
  Inv (cn X scope cl NY s.heap.objs.size fp s H) [] (vx idx σ) H {s with heap:=h₁,toks:=tk}:=by
 have hC:H s.heap.objs.size=none:=I.hok.fresh<|lb _;have Np:∀{x:Str} {c:f'},cl.lookup x=ab c->X.env.cells.lookup x=ab c:=λe=>S.all.look e;have SY:∀{x:Str} {c:f'},X.env.cells.lookup x=ab c->c < s.heap.objs.size:=λ{x c} e=>by
  obtain⟨v,z⟩:=I.cell x c e;exact z.lt
 have two:∀{x:Str} {c:f'},(Ge (s.heap.objs.size+1) scope.names cl).lookup x=ab c->((x,c)∈Ge (s.heap.objs.size+1) scope.names []/\s.heap.objs.size < c/\h₁.IsCell c A')\/(X.env.cells.lookup x=ab c/\c < s.heap.objs.size):=λ{x c} e=>by
  obtain h|h:=jO e
  ·exact .inl ⟨h,(hcs.empty x c h).2,(hcs.empty x c h).1⟩
  ·exact .inr ⟨Np h,SY<|Np h⟩
 have inj:∀x y c,(Ge (s.heap.objs.size+1) scope.names cl).lookup x=ab c->(Ge (s.heap.objs.size+1) scope.names cl).lookup y=ab c->x=y:=λx y c h1 h2=>by
  obtain a|a:=two h1<;>obtain b|b:=two h2
  ·exact MG hcs.apart a.1 b.1
  ·exact absurd (La a.2.1 b.2)<|G_ _
  ·exact absurd (La b.2.1 a.2)<|G_ _
  ·exact I.ok.inj x y c a.1 b.1
 have ne:∀b∈fp,∀x c,(Ge (s.heap.objs.size+1) scope.names cl).lookup x=ab c->c≠b:=λb hb x c e=>by
  obtain a|a:=two e
  ·exact IE<|La (RK b hb) a.2.1
  ·exact(f2 b hb).2.2.2.2.1 x c a.1
 have fr:∀x c,(Ge (s.heap.objs.size+1) scope.names cl).lookup x=ab c->H c=none:=λx c e=>by
  obtain a|a:=two e
  ·exact I.hok.fresh<|FQ a.2.1
  ·exact I.freeC x c a.1
 have cab:∀x c,(cl.lookup x).isNone=kz->(Ge (s.heap.objs.size+1) scope.names cl).lookup x=ab c->s.heap.objs.size<=c:=λx c hf e=>by
  obtain h|h:=jO e
  ·exact Nat.le_of_succ_le (hcs.empty x c h).2
  ·rw[h]at hf;cases hf
 refine⟨⟨I.ok.mod,?_,I.ok.glob,I.ok.blt,lb _,inj,λx hx=>S.look _ hx,cab,I.ok.hd,I.ok.frames,.inl rfl,λb hb=>⟨Fi<|RK b hb,ne b hb⟩,
  I.bs,FM I.ok.bsz I.sz,λb o e hb=>?_,λb hb hz=>?_,I.stack,I.stkFree⟩,rfl,I.bare,Un.kept Qv,⟨m,QX,λj y v h1 h2 h3=>?_⟩,λx c e=>?_,hC,fr,λp hp=>absurd (show p∈([]:bc (f'×Obj))from hp) (by simp),I.hok.kept Qv,?_⟩
 ·exact S.kind
 ·obtain z|z:=(f2 b hb).2.2.2.1
  ·exact I.ok.noex b o e z
  ·exact absurd (FK (E4 e)<|FM I.ok.bsz z)<|G_ _
 ·obtain e|e:=Fl.mp (I.stkSub b hz)
  ·exact(f2 b hb).2.1 e
  ·exact(f2 b hb).2.2.1 e
 ·
  have Rw:(vx idx σ)[j]? =ab (ab v):=h2;unfold vx at Rw;rw[Fk]at Rw;cases ej:idx[j]? with
  |none=>rw[ej]at Rw;cases Rw
  |some o=>
   rw[ej]at Rw;cases o with
   |none=>cases Rw
   |some i=>
    have e3:(σ[i]?).getD A'=ab v:=by simpa using Rw
    have e4:σ[i]? =ab (ab v):=by
     cases q:σ[i]? with
     |none=>rw[q]at e3;cases e3
     |some z=>
      rw[q]at e3;exact Gg ab e3
    have hz:(NY.zip idx)[j]? =ab (y,ab i):=by
     rw[List.getElem?_zip_eq_some];exact⟨h1,ej⟩
    have q:=Gq.mp S.ix _<|Fd hz;have q':(decide (X.N[i]? =ab y)&&(decide (X.env.kindOf y=ab .cell) || decide (X.env.kindOf y=ab .free))&&(decide ((Jc scope X.env).names.lookup y=ab .cell) || decide ((Jc scope X.env).names.lookup y=ab .free))&&(scope.names.all λq=>!decide (q.2=.cell) || !decide (q.1=y)))=true:=q;rw[GC,GC,GC,Nz,Nz]at q';obtain⟨⟨⟨q1,q2⟩,q3⟩,q4⟩:=q';have q5:∀q∈scope.names,q.2=IH->q.1≠y:=λq hq e1 e2=>by
     have:=Gq.mp q4 q hq;rw[E2 e1,E2 e2]at this;cases this
    have Ss:=Fv q1;have Zv:X.env.kindOf y=ab .cell\/X.env.kindOf y=ab .free:=q2.elim (λz=>.inl<|Fv z) λz=>.inr<|Fv z;have Zu:(Jc scope X.env).names.lookup y=ab .cell\/(Jc scope X.env).names.lookup y=ab .free:=q3.elim (λz=>.inl<|Fv z) λz=>.inr<|Fv z;obtain⟨mX,_,hl⟩:=I.loc;obtain⟨u,ru,lk⟩:=hl i y v Ss e4<|.inr Zv;refine⟨u,ru,.inr ⟨Zu,?_⟩⟩;obtain⟨c,Va⟩:=S.look (s.heap.objs.size+1) Zu;have hc:=Va;rw[vw q5]at hc;obtain⟨hk,_⟩|⟨_,c',Mz,QZ⟩:=lk
    ·obtain z|z:=Zv
     ·rw[hk]at z;cases z
     ·rw[hk]at z;cases z
    ·have e5:=Np hc;rw[Mz]at e5;cases e5;obtain⟨oc,ho,hd⟩:=QZ;exact⟨_,Va,oc,Qv _ _ ho,hd⟩
 ·obtain a|a:=two e
  ·exact⟨A',a.2.2⟩
  ·obtain⟨v,oc,ho,hd⟩:=I.cell x c a.1;exact⟨v,oc,Qv _ _ ho,hd⟩
 ·unfold vx;rw[ka];exact S.len
def CT(Y:Cx)(Qw:bc F')(t:TT):Prop:=
 ∀(kS:bc (f'×Obj)) (s:Bs) (σ:St) (H:Hp) (Q:ER->Hp->Prop),Inv Y kS σ H s->t σ H Q->
  wpAny (FE Y.prog Y.w) Y.A (forIn Qw kz λc r=>if r=kz then do let ok <-isTrue c Y.env<|G0 c Y.env;pure (JY ok)else pure (JY r)) (TP Y kS σ Q) Y.xe s
def Ex:TT:=λ_ H Q=>Q kz H
theorem dF{A B:St->Hp->Prop}(h:A (σ.set i<|ab x) H):jk i x σ H (λσ3 H3=>Ex σ3 H3 λb H4=>if b=kz then A σ3 H4 else B σ3 H4):=by
 show(if kz=kz then A (σ.set i<|ab x) H else B (σ.set i<|ab x) H)
 exact aL h
theorem b_:CT Y [] Ex:=λkS s σ H Q I h=>wpAny_tests_nil ⟨H,I,h⟩
theorem ca(h:PT Y c t):CT Y [c] t:=λkS s σ H Q I hw=>wpAny_tests_one<|h kS s σ H Q I hw
def gD(J:It)(D:f')(g:TG)(tt:TT)(te:TE)(σ0:St)(H1:Hp)(Q:VK):Prop:=
 ∃W:Nat->Nat->St->bc V->Hp->Prop,(∃m,W 0 m σ0 []<|upd H1 D<|.lst [])/\∀i m σ ys H,W i m σ ys H->H D=ab (.lst ys)/\
  ((J.stop i H/\Q (.ref D) H)\/(J.go i H/\∃N:St->bc V->Hp->Prop,(∀σ' ys' H',N σ' ys' H'->∃m',m' < m/\W (i+1) m' σ' ys' H')/\
   ∀x H2,J.yld i H x H2->g x σ H2 λσ3 H3=>tt σ3 H3 λb H4=>if b=kz then te σ3 H4 λy H5=>H5 D=ab (.lst ys)/\ys.length < sizeLine/\N σ3 (ys++[y]) (upd H5 D<|.lst<|ys++[y])else N σ3 ys H4))
def vz(idx:bc (kb Nat))(wi:TI)(g:TG)(tt:TT)(te:TE):TE:=λσ H Q=>wi σ H λJ H1=>∀D,H1 D=A'->gD J D g tt te (vx idx σ) H1 Q
theorem fI{Ra HY Ki:F'}{Qw:bc F'}{scope:Iv}{pos:Pos}{it MA:j'}{env:Env}(I:Nat->Bs->Prop)
  (Qs:∀n s,I n s->wpAny (FE prog w) A (KC it) (λr s₁=>match r with
   |none=>R (.ok .next) s₁
   |some v=>wpAny (FE prog w) A (JU HY it v) (λ_ s₀=>wpAny (FE prog w) A (M5 HY env v) (λ_ s₂=>
     wpAny (FE prog w) A (forIn Qw kz λc r=>if r=kz then do let ok <-isTrue c env<|G0 c env;pure (JY ok)else pure (JY r)) (λok s₃=>
      if ok=kz then wpAny (FE prog w) A (G0 Ra env) (λx s₄=>
       wpAny (FE prog w) A (call (.builtin "list.append") [MA,x]) (λ_ s₅=>∃m,m < n/\I m s₅) (λ_ _=>False) s₄) (λ_ _=>False) s₃
      else∃m,m < n/\I m s₃) (λ_ _=>False) s₂) (λ_ _=>False) s₀) (λ_ _=>False) s₁) (λ_ _=>False) s)
  (n:Nat) (h:I n s):
  codeAny (FE prog w) A (.compLoop (.ListComp Ra [⟨HY,Ki,Qw,0⟩] scope pos) 0 it MA env) R s:=by
 refine codeAny_loop rfl I (λn s hI=>?_) n h;show wpAny _ A ((compTurn (.ListComp Ra [⟨HY,Ki,Qw,0⟩] scope pos) 0 it MA env).onRaise (λx=>do noteFrame x env;theTreesLotGoes x)) _ _ s
 refine wpAny_noted ?_;rw[compTurn_list];have no:∀{α:Type} {t:Sem α} {Q:α->Bs->Prop} {E:j'->Bs->Prop} {s:Bs},wpAny (FE prog w) A t Q (λ_ _=>False) s->wpAny (FE prog w) A t Q E s:=λhq=>GX hq (λ_ _ z=>z) λ_ _ z=>z.elim;refine EW<|Ot<|EW<|GX (Qs n s hI) (λr s₁ h₁=>?_) λ_ _ h'=>h'.elim;cases r with
 |none=>exact Fm h₁
 |some v=>
  refine EW<|GX h₁ (λ_ s₀ h₀=>?_) λ_ _ h'=>h'.elim;refine EW<|GX h₀ (λ_ s₂ h₂=>EW<|GX h₂ (λok s₃ h₃=>?_) λ_ _ h'=>h'.elim) λ_ _ h'=>h'.elim;cases ok with
  |false=>exact Fm ⟨rfl,h₃⟩
  |true=>
   exact EW<|EW<|GX h₃ (λx s₄ h₄=>EW<|GX h₄ (λ_ s₅ h₅=>Fm<|Fm ⟨rfl,h₅⟩) λ_ _ h'=>h'.elim) λ_ _ h'=>h'.elim
structure CompEnd (X:Cx)(kS:bc (f'×Obj))(σ:St)(H:Hp)(C:f')(s:Bs):Prop where
 inv:Inv X kS σ H s
 ns:∃m,s.heap.Ns C m
 free:H C=A'
 loc:C≠X.env.locals
 young:X.s₀.heap.objs.size<=C
 cells:∀x c,X.env.cells.lookup x=ab c->c≠C
 pin:∀p∈X.pn++kS,p.1≠C
theorem CompEnd.gone(e:CompEnd X kS σ H C s)(hs:IA C s.heap h'):Inv X kS σ H {s with heap:=h'}:=
 e.inv.turned (t':=s.toks) (λb o hb q=>(hs.2 b hb).trans q) e.free e.loc (.inr e.young) e.cells e.pin
theorem nV{kS:bc (f'×Obj)}{σ:St}{H:Hp}{s:Bs}{Q:VK}{RR:j'->f'->M8->Bs->Prop}(OW:X.calm=kz)(S:CompSc X scope cl NY idx)(hi:PI X HY Ki wi)
  (hg:∀C fp s₀ H₀,PG (cn X scope cl NY C fp s₀ H₀) HY g) (ht:∀C fp s₀ H₀,CT (cn X scope cl NY C fp s₀ H₀) Qw tt) (he:∀C fp s₀ H₀,PE (cn X scope cl NY C fp s₀ H₀) Ra te)
  (I:Inv X kS σ H s) (h:vz idx wi g tt te σ H Q)
  (hRR:∀D C H' s',CompEnd X kS σ H' C s'->Q (.ref D) H'->RR (.ref D) C (.ok .next) s'):
  wpAny (FE X.prog X.w) X.A (G0 Ki X.env) (λx s₁=>wpAny (FE X.prog X.w) X.A (NU x) (λit s₂=>wpAny (FE X.prog X.w) X.A (newList []) (λMA s₃=>
   wpAny (FE X.prog X.w) X.A (LB scope X.env.globals cl [] X.env.qual A' .none<|ab X.env) (λUD s₄=>
    codeAny (FE X.prog X.w) X.A (.compStart (.ListComp Ra [⟨HY,Ki,Qw,0⟩] scope pos) 0 it MA {UD with scope:=Jc scope X.env}) (RR MA UD.locals) s₄) X.xe s₃) X.xe s₂) X.xe s₁) X.xe s:=by
 refine bp (hi kS s σ H _ I h) λv s1 h1=>bp h1 λYx s2 h2=>?_;obtain⟨it,fp,tn,J,H2,e,I2,T,R7,f2,r2⟩:=h2;subst e;have hD:H2 s2.heap.objs.size=none:=I2.hok.fresh<|lb _;have r3:=r2 s2.heap.objs.size hD;have I3:Inv X kS σ (upd H2 s2.heap.objs.size<|.lst []) {s2 with heap:=s2.heap.push {cls:=.type "list",data:=.seq ([]:bc j').toArray}}:=
  I2.laid (t':=s2.toks) (λb u q=>EV _ q) (lb _) ⟨FF _,[],0,.nil,Fs _ rfl⟩
 refine MD<|kP λh₁ QX Sd hcs=>?_;dsimp only at QX Sd hcs ⊢;have Ui:∀b∈fp,b < s2.heap.objs.size:=λb hb=>by
  obtain⟨o,q,_⟩:=T.obj 0 _ R7 b hb;exact E4 q
 have neD:∀b∈fp,b≠s2.heap.objs.size:=λb hb=>Fi<|Ui b hb;have f3:∀b∈fp,kN X kS (upd H2 s2.heap.objs.size<|.lst []) b:=λb hb=>⟨by rw[al<|neD b hb];exact(f2 b hb).1,(f2 b hb).2⟩;generalize ZV:({s2 with heap:=s2.heap.push {cls:=.type "list",data:=.seq ([]:bc j').toArray}}:Bs)=s3 at I3;have SW:s3.heap=s2.heap.push {cls:=.type "list",data:=.seq ([]:bc j').toArray}:=by rw[<-ZV]
 have RK:∀b∈fp,b < s3.heap.objs.size:=λb hb=>by
  rw[SW,Iw];exact Ik<|Ui b hb
 have YQ:h₁.Ns s3.heap.objs.size (λ_=>A'):=by rw[SW];exact QX
 have Qv:∀b o,s3.heap.get? b=ab o->h₁.get? b=ab o:=λb o q=>by
  rw[SW]at q;exact Sd b o q
 have Y8:CellsOk h₁ (s3.heap.objs.size+1) (Ge (s3.heap.objs.size+1) scope.names []):=by rw[SW];exact hcs
 have To:tn 0 h₁:=T.keep _ _ _ R7 λb hb o q=>Qv b o (by rw[SW];exact EV _ q);have Vg:=vy (tk:=s2.toks) S I3 f3 RK YQ Qv Y8;have e4:({s3 with heap:=h₁,toks:=s2.toks}:Bs)={s2 with heap:=h₁,toks:=s2.toks}:=by rw[<-ZV]
 rw[e4]at Vg;have eC:s3.heap.objs.size=(s2.heap.push {cls:=.type "list",data:=.seq ([]:bc j').toArray}).objs.size:=by rw[SW]
 have hC3:s3.heap.get? s3.heap.objs.size=none:=LH<|lb _;obtain⟨W,⟨m0,w0⟩,Qs⟩:=r3;have Yo:∀s4,s4={s2 with heap:=h₁,toks:=s2.toks}->
   codeAny (FE X.prog X.w) X.A (.compLoop (.ListComp Ra [⟨HY,Ki,Qw,0⟩] scope pos) 0 (.ref it) (.ref s2.heap.objs.size)<|P4 scope (Ge (s3.heap.objs.size+1) scope.names cl) s3.heap.objs.size X.env) (RR (.ref s2.heap.objs.size) s3.heap.objs.size) s4:=by
  rintro s4 rfl;have Qt:∀{H':Hp},(∀b∈fp,H' b=A')->∀b∈fp,kN (cn X scope cl NY s3.heap.objs.size fp s3<|upd H2 s2.heap.objs.size<|.lst []) [] H' b:=λ{H'} hn b hb=>
   ⟨hn b hb,Fi<|RK b hb,(λz=>(Vg.ok.exfs b hb) z),.inl hb,λx c e=>(Vg.ok.exf b hb).2 x c e,λp hp=>absurd (show p∈([]:bc (f'×Obj))from hp)<|by simp⟩
  refine fI (λn s'=>∃i σ' ys H',Inv (cn X scope cl NY s3.heap.objs.size fp s3<|upd H2 s2.heap.objs.size<|.lst []) [] σ' H' s'/\tn i s'.heap/\(∀b∈fp,H' b=A')/\W i n σ' ys H') ?_ m0
   ⟨0,_,[],_,Vg,To,λb hb=>(f3 b hb).1,w0⟩
  rintro n s5 ⟨i,σ5,ys,H5,I5,RO,Ve,w5⟩;obtain⟨Q9,alt⟩:=Qs i n σ5 ys H5 w5;obtain⟨stop,qn⟩|⟨go,N,hN,step⟩:=alt
  ·refine bp (T.done (cn X scope cl NY s3.heap.objs.size fp s3<|upd H2 s2.heap.objs.size<|.lst []) rfl rfl rfl OW i [] s5 σ5 H5 (λ_ _=>False) I5 (Qt Ve) RO stop) λr s6 ⟨hr,I6⟩=>?_;subst hr;have I7:Inv X kS σ H5 s6:=I3.call' (s':=s6) (ch:=fp) I6.os I6.base I6.hok I6.bare λb hb=>⟨(f3 b hb).2.2.2.1,(f3 b hb).2.1,(f3 b hb).2.2.2.2.1,(f3 b hb).2.2.2.2.2⟩;refine hRR _ _ H5 s6 ⟨I7,?_,I6.free,IE I3.lt,I3.sz,λx c e=>?_,λp hp z=>?_⟩ qn
   ·obtain⟨m,hn,_⟩:=I6.loc;exact⟨m,hn⟩
   ·obtain⟨v,q⟩:=I3.cell x c e;exact Fi q.lt
   ·have q:=(I3.pin p hp).1;rw[z,hC3]at q;cases q
  ·refine bp (T.item (cn X scope cl NY s3.heap.objs.size fp s3<|upd H2 s2.heap.objs.size<|.lst []) rfl rfl rfl OW i [] s5 σ5 H5 (λ_ _=>False) I5 (Qt Ve) RO go) λr s6 ⟨u,hr,h6⟩=>?_;subst hr;refine bp h6 λ_ s7 ⟨x,H7,I7,r7,y7,Rh,fr7⟩=>?_;have I7':=I7.pinned (Qt fr7)<|T.obj _ _ Rh;have UG:∀{σ8:St} {UI:bc V} {H8:Hp} {s8:Bs},Inv (cn X scope cl NY s3.heap.objs.size fp s3<|upd H2 s2.heap.objs.size<|.lst []) ([]++jE fp s7.heap) σ8 H8 s8->N σ8 UI H8->
     ∃m,m < n/\∃i σ' ys H',Inv (cn X scope cl NY s3.heap.objs.size fp s3<|upd H2 s2.heap.objs.size<|.lst []) [] σ' H' s8/\tn i s8.heap/\(∀b∈fp,H' b=A')/\W i m σ' ys H':=λ{σ8 UI H8 s8} I8 n8=>by
    obtain⟨m',hm,w8⟩:=hN σ8 UI H8 n8;refine⟨m',hm,i+1,σ8,UI,H8,I8.unpinned,T.keep _ _ _ Rh λb hb o e=>(I8.pin (b,o)<|Gb _<|Gb _<|fe hb e).1,λb hb=>?_,w8⟩;obtain⟨o,e,d⟩:=T.obj _ _ Rh b hb;exact(I8.pin (b,o)<|Gb _<|Gb _<|fe hb e).2.1
   refine bp (hg _ _ _ _ _ s7 σ5 H7 x u _ I7' r7<|step x H7 y7) λ_ s8 ⟨σ8,H8,I8,q8⟩=>?_;refine bp (ht _ _ _ _ _ s8 σ8 H8 _ I8 q8) λok s9 ⟨H9,I9,q9⟩=>?_;cases ok with
   |false=>exact aG<|UG I9 q9
   |true=>
    refine aL ?_;refine bp (he _ _ _ _ _ s9 σ8 H9 _ I9 q9) λy s10 ⟨yv,Rb,I10,r10,Zf,Yz,n10⟩=>?_;refine bp (bh _ s10 σ8 Rb (.ref s2.heap.objs.size) [yv] (.ref s2.heap.objs.size) [y] (λv H'=>v=.non/\H'=upd Rb s2.heap.objs.size (.lst<|ys++[yv])) I10 rfl (.cons r10 .nil) ⟨_,ys,yv,rfl,rfl,Zf,Yz,rfl,rfl⟩) λ_ s11 ⟨_,Vh,I11,_,_,e11⟩=>?_;subst e11;exact UG I11 n10
 have e5:(P4 scope (Ge (s3.heap.objs.size+1) scope.names cl) s3.heap.objs.size X.env)={newEnv scope (s2.heap.push {cls:=.type "list",data:=.seq ([]:bc j').toArray}).objs.size X.env.globals (Ge ((s2.heap.push {cls:=.type "list",data:=.seq ([]:bc j').toArray}).objs.size+1) scope.names cl) X.env.qual A' .none (ab X.env) X.env.builtins with scope:=Jc scope X.env}:=by
  rw[SW];rfl
 have L1:=Yo _ rfl;rw[eC]at L1;exact codeAny_compStart_list L1<|T.self _ 0 _ _ _ To L1
theorem bj(OW:X.calm=kz)(S:CompSc X scope cl NY idx)(hi:PI X HY Ki wi)(hg:∀C fp s₀ H₀,PG (cn X scope cl NY C fp s₀ H₀) HY g)(ht:∀C fp s₀ H₀,CT (cn X scope cl NY C fp s₀ H₀) Qw tt)
  (he:∀C fp s₀ H₀,PE (cn X scope cl NY C fp s₀ H₀) Ra te) (hs:∀x,Km Ki X.env x=pure x:=by intro _;rfl):PE X (.ListComp Ra [⟨HY,Ki,Qw,0⟩] scope pos) (vz idx wi g tt te):=by
 intro kS s σ H Q I h;rw[eval_ListComp];refine KA (use:=A') rfl hs S.clos S.kind S.names ?_;refine nV (RR:=λMA C=>compPost (FE X.prog X.w) X.A X.xe A' (EP X kS σ Q) MA C) OW S hi hg ht he I h ?_;intro D C H' s' e q;obtain⟨m,hn⟩:=e.ns;exact⟨m,hn,λh' T2=>⟨.ref D,H',e.gone T2,rfl,q⟩⟩
def vA(i:Nat)(te:TE):TS:=λD σ H=>te σ H λv H1=>D.nx (σ.set i<|ab v) H1
theorem cY{My Tp:Pos}(hN:X.N.Nodup)(hx:X.N[i]? =ab x)(hl:X.env.scope.names.lookup x=ab .local)(OW:X.calm=kz)(S:CompSc X scope cl NY idx)(hi:PI X HY Ki wi)
  (hg:∀C fp s₀ H₀,PG (cn X scope cl NY C fp s₀ H₀) HY g) (ht:∀C fp s₀ H₀,CT (cn X scope cl NY C fp s₀ H₀) Qw tt) (he:∀C fp s₀ H₀,PE (cn X scope cl NY C fp s₀ H₀) Ra te)
  (hsw:LU (.ListComp Ra [⟨HY,Ki,Qw,0⟩] scope pos) (ab<|.Name x My) Tp.line X.env=pure kz) (hs:∀x,Km Ki X.env x=pure x:=by intro _;rfl):
  PS X (.Assign [.Name x My] (.ListComp Ra [⟨HY,Ki,Qw,0⟩] scope pos) Tp) (vA i<|vz idx wi g tt te):=by
 intro kS s σ H D I h;rw[exec_Assign_Name_used _ _ _ _ hsw];refine EW<|Ot<|EW ?_;show wpAny _ X.A (do let _ <-comprehension (.ListComp Ra [⟨HY,Ki,Qw,0⟩] scope pos) scope X.env _ (newList []) B' (G0 Ki X.env)<|ab<|M5 (.Name x My) X.env) _ _ s
 refine EW<|GX (KA (use:=ab<|M5 (.Name x My) X.env) (Q:=λ_ s'=>∃σ' H',Inv X kS σ' H' s'/\D.nx σ' H') rfl hs S.clos S.kind S.names ?_) (λ_ s' hq=>Fm<|Fm hq) λ_ _ e=>e;refine nV (RR:=λMA C=>compPost (FE X.prog X.w) X.A X.xe (ab<|M5 (.Name x My) X.env) (λ_ s'=>∃σ' H',Inv X kS σ' H' s'/\D.nx σ' H') MA C) OW S hi hg ht he I h ?_;intro D' C H' s' e q;refine ME<|kY e.inv hN hx (.inl hl) (v:=.ref D') (u:=.ref D') rfl (λTq I'' sb=>?_)<|.inr hl;obtain⟨a,Sd,ha⟩:=sb;have QT:C≠a:=by
  obtain rfl|ha:=ha
  ·exact e.loc
  ·exact λz=>e.cells _ _ ha z.symm
 obtain⟨m,hn⟩:=e.ns;have e2:CompEnd X kS (σ.set i<|ab<|.ref D') H' C Tq:=⟨I'',⟨m,hn.sameBut Sd QT⟩,e.free,e.loc,e.young,e.cells,e.pin⟩;exact⟨m,hn.sameBut Sd QT,λh' T2=>⟨_,H',e2.gone T2,q⟩⟩
section
variable {K:gV}
theorem cZ(Pv:Nat->St->bc V->Hp->Prop)(h0:Pv 0 σ0 [] (upd H1 D<|.lst []))(hd:∀i σ ys H,i<=xs.length->Pv i σ ys H->H D=ab (.lst ys)/\SqL K H a xs)
  (hs:∀i x σ ys H,xs[i]? =ab x->Pv i σ ys H->g x σ H λσ3 H3=>tt σ3 H3 λb H4=>if b=kz then te σ3 H4 λy H5=>H5 D=ab (.lst ys)/\ys.length < sizeLine/\Pv (i+1) σ3 (ys++[y]) (upd H5 D<|.lst<|ys++[y])else Pv (i+1) σ3 ys H4)
  (hq:∀σ ys H,Pv xs.length σ ys H->Q (.ref D) H):gD (A9 K a) D g tt te σ0 H1 Q:=by
 exists λi m σ ys H=>m=xs.length - i/\i<=xs.length/\Pv i σ ys H,⟨xs.length,by simp,FF _,h0⟩;rintro i m σ ys H ⟨rfl,hi,p⟩;obtain⟨hD,q⟩:=hd i σ ys H hi p;exists hD;by_cases IL:i < xs.length
 ·refine .inr ⟨⟨xs,xs[i],q,by simp [IL]⟩,Pv<|i+1,λσ' ys' H' p'=>⟨xs.length - (i+1),by lia,rfl,IL,p'⟩,λx H' y=>?_⟩;obtain⟨e,y⟩:=y;subst e;exact hs i x σ ys _ (y xs q) p
 ·have e:i=xs.length:=by lia
  subst e;exact .inl ⟨⟨xs,q,lb _⟩,hq σ ys H p⟩
theorem jP(Pv:Nat->St->bc V->Hp->Prop)(h0:Pv 0 σ0 [] (upd H1 D<|.lst []))(hd:∀i σ ys H,i<=xs.length->Pv i σ ys H->H D=ab (.lst ys)/\SqT K H a xs)
  (hs:∀i x σ ys H,xs[i]? =ab x->Pv i σ ys H->g x σ H λσ3 H3=>tt σ3 H3 λb H4=>if b=kz then te σ3 H4 λy H5=>H5 D=ab (.lst ys)/\ys.length < sizeLine/\Pv (i+1) σ3 (ys++[y]) (upd H5 D<|.lst<|ys++[y])else Pv (i+1) σ3 ys H4)
  (hq:∀σ ys H,Pv xs.length σ ys H->Q (.ref D) H):gD (zO K a) D g tt te σ0 H1 Q:=by
 exists λi m σ ys H=>m=xs.length - i/\i<=xs.length/\Pv i σ ys H,⟨xs.length,by simp,FF _,h0⟩;rintro i m σ ys H ⟨rfl,hi,p⟩;obtain⟨hD,q⟩:=hd i σ ys H hi p;exists hD;by_cases IL:i < xs.length
 ·refine .inr ⟨⟨xs,xs[i],q,by simp [IL]⟩,Pv<|i+1,λσ' ys' H' p'=>⟨xs.length - (i+1),by lia,rfl,IL,p'⟩,λx H' y=>?_⟩;obtain⟨e,y⟩:=y;subst e;exact hs i x σ ys _ (y xs q) p
 ·have e:i=xs.length:=by lia
  subst e;exact .inl ⟨⟨xs,q,lb _⟩,hq σ ys H p⟩
theorem dG{lo:Int}(Pv:Nat->St->bc V->Hp->Prop)(h0:Pv 0 σ0 [] (upd H1 D<|.lst []))(hd:∀i σ ys H,i<=n->Pv i σ ys H->H D=ab (.lst ys))
  (hs:∀i σ ys H,i < n->Pv i σ ys H->g (.int<|lo+i) σ H λσ3 H3=>tt σ3 H3 λb H4=>if b=kz then te σ3 H4 λy H5=>H5 D=ab (.lst ys)/\ys.length < sizeLine/\Pv (i+1) σ3 (ys++[y]) (upd H5 D<|.lst<|ys++[y])else Pv (i+1) σ3 ys H4)
  (hq:∀σ ys H,Pv n σ ys H->Q (.ref D) H):gD (yj lo n) D g tt te σ0 H1 Q:=by
 exists λi m σ ys H=>m=n - i/\i<=n/\Pv i σ ys H,⟨n,by simp,FF _,h0⟩;rintro i m σ ys H ⟨rfl,hi,p⟩;exists hd i σ ys H hi p;by_cases IL:i < n
 ·refine .inr ⟨IL,Pv<|i+1,λσ' ys' H' p'=>⟨n - (i+1),by lia,rfl,IL,p'⟩,λx H' y=>?_⟩;obtain⟨e,y⟩:=y;subst e y;exact hs i σ ys _ IL p
 ·have e:i=n:=by lia
  subst e;exact .inl ⟨lb _,hq σ ys H p⟩
end
theorem qk:∀{us:bc j'},Vals (ss.map V.str) us->StrsAre us ss:=by
 induction ss with
 |nil=>intro us r;rw[J7]at r;cases r;exact .nil
 |cons n ns ih=>
  intro us r;rw[FA]at r;cases r with
  |cons r1 r2=>
   obtain⟨t,e⟩:=r1;subst e;exact .cons n t<|ih r2
theorem yI:D5 X "str.join" (λx vs H Q=>∃UK p ys,x=.str UK/\vs=[.ref p]/\SqL X.K H p (ys.map V.str)/\(ys.map (·.length)).sum+ys.length*UK.length<=16777216/\Q (.str<|MM UK ys) H):=by
 intro kS s σ H x vs v us Q I rx rv h;obtain⟨UK,p,ys,rfl,rfl,hq,hz,q⟩:=h;obtain⟨t,rfl⟩:=rx;obtain⟨u,rfl,ru⟩:=dD rv;cases ru;obtain⟨Gx,r,pl,_⟩:=I.list hq;exact join_list pl.isList (by simpa using qk r) hz λt' k=>⟨.str _,H,I.tok _,⟨_,rfl⟩,q⟩
def tR:V->ER
 |.bl _=>kz
 |.non=>kz
 |_=>B'
def gr:V->ER
 |.bl b=>b
 |_=>B'
theorem rj(r:Vals ys Gx)(hb:ys.all tR=kz):TruthOf prog w A (λi v=>Gx.toArray[i]? =ab v) (λi=>(ys[i]?).elim B' gr):=by
 intro i v s Q E hv hq;have PH:Gx[i]? =ab v:=by simpa using hv
 cases e:ys[i]? with
 |none=>
  rw[r.none_of e]at PH;cases PH
 |some y=>
  obtain⟨u,hu,ru⟩:=r.get e;rw[hu]at PH;cases PH;have Qi:Q ((ys[i]?).elim B' gr) s:=hq;rw[e]at Qi;have hy:=Gq.mp hb y<|Fd e;cases y with
  |bl b=>
   cases ru;exact Gj Qi
  |non=>
   cases ru;exact truthy_none Qi
  |_=>cases hy
theorem tT(ys:bc V):(Fy ys.length).any (λi=>(ys[i]?).elim B' gr)=ys.any gr:=by
 rw[Gw];simp only [GZ,FZ];constructor
 ·rintro⟨i,hi,h⟩;exists ys[i],JK hi;simpa [hi]using h
 ·rintro⟨y,hy,h⟩;obtain⟨i,hi,rfl⟩:=L7 hy;exact⟨i,hi,by simpa [hi]using h⟩
theorem tU(ys:bc V):(Fy ys.length).all (λi=>(ys[i]?).elim B' gr)=ys.all gr:=by
 rw[Gw];simp only [Gq,FZ];constructor
 ·intro h y hy;obtain⟨i,hi,rfl⟩:=L7 hy;simpa [hi]using h i hi
 ·intro h i hi;simpa [hi]using h ys[i] (JK hi)
theorem jQ(hc:X.calm=kz):dB X (.builtin "any") (λxs H Q=>∃p ys,xs=[.ref p]/\SqL X.K H p ys/\ys.all tR=kz/\Q (.bl<|ys.any gr) H):=by
 intro kS s σ H xs us Q I r h;obtain⟨p,ys,rfl,hq,hb,q⟩:=h;obtain⟨u,rfl,ru⟩:=dD r;cases ru;obtain⟨Gx,rv,pl,hz⟩:=I.list hq;have hl:=pl.isList;obtain⟨o,ho,_⟩:=id hl;have IL:p < s.heap.objs.size:=E4 ho;refine call_any_walk<|Ii hl ?_;refine⟨s.heap.objs.size,_,_,_,_,_,_,rfl,K3 (A:=X.A.in1) (I.ok.hd hc) s.heap.objs.size p (Fi IL) Gx.toArray,⟨⟨_,Fs _ rfl,rfl,rfl⟩,hl.push _⟩,rj rv hb,λh' tk hk=>?_⟩;have e:(Fy Gx.toArray.size).any (λi=>(ys[i]?).elim B' gr)=ys.any gr:=by
  rw[Ff,<-rv.length];exact tT ys
 rw[e];refine⟨.bl _,H,I.kept λb o e=>hk b o ?_<|EV _ e,rfl,q⟩;intro hm;exact absurd (Fb.mp hm)<|Fi<|E4 e
theorem vB(hc:X.calm=kz):dB X (.builtin "all") (λxs H Q=>∃p ys,xs=[.ref p]/\SqL X.K H p ys/\ys.all tR=kz/\Q (.bl<|ys.all gr) H):=by
 intro kS s σ H xs us Q I r h;obtain⟨p,ys,rfl,hq,hb,q⟩:=h;obtain⟨u,rfl,ru⟩:=dD r;cases ru;obtain⟨Gx,rv,pl,hz⟩:=I.list hq;have hl:=pl.isList;obtain⟨o,ho,_⟩:=id hl;have IL:p < s.heap.objs.size:=E4 ho;refine call_all_walk<|Ii hl ?_;refine⟨s.heap.objs.size,_,_,_,_,_,_,rfl,K3 (A:=X.A.in1) (I.ok.hd hc) s.heap.objs.size p (Fi IL) Gx.toArray,⟨⟨_,Fs _ rfl,rfl,rfl⟩,hl.push _⟩,rj rv hb,λh' tk hk=>?_⟩;have e:(Fy Gx.toArray.size).all (λi=>(ys[i]?).elim B' gr)=ys.all gr:=by
  rw[Ff,<-rv.length];exact tU ys
 rw[e];refine⟨.bl _,H,I.kept λb o e=>hk b o ?_<|EV _ e,rfl,q⟩;intro hm;exact absurd (Fb.mp hm)<|Fi<|E4 e
theorem jR:∀(l:bc j') (ks:bc Int),l.length=ks.length->(∀(i:Nat) (v:j'),l[i]? =ab v->∃(k:Int) (t:Tok),ks[i]? =ab k/\v=.int k t)->Kr l ks
 |[],[],_,_=>.nil
 |[],_::_,h,_=>by cases h
 |_::_,[],h,_=>by cases h
 |v::l,k::ks,h,f=>by
  obtain⟨k',t,e1,e2⟩:=f 0 v rfl;have Sm:k=k':=Fe e1;subst Sm e2;exact .cons k t (jR l ks (by simpa using h) λi u hu=>f (i+1) u<|by simpa using hu)
theorem nW{κ:Type}:∀{kvs:bc (κ×V)} {vs:bc (κ×j')} {i:Nat} {q:κ×j'},KV kvs vs->vs[i]? =ab q->∃p,kvs[i]? =ab p/\p.1=q.1/\RelV p.2 q.2
 |_,_,_,_,.nil,e=>by cases e
 |_,_,0,_,.cons r _,e=>by
  have e':=Fe e;subst e';exact⟨_,rfl,r.1,r.2⟩
 |_,_,i+1,q,.cons _ t,e=>by
  obtain⟨p,h1,h2⟩:=nW (i:=i) (q:=q) t (by simpa using e);exact⟨p,by simpa using h1,h2⟩
theorem nX(hc:X.calm=kz):dB X (.builtin "sorted") (λxs H Q=>∃p kvs ks,xs=[.ref p]/\H p=ab (.dK kvs)/\kvs.map (·.1)=ks.map FS/\ks.length < 64/\
  ∀l S7,H l=A'->List.Perm S7 ks->List.Pairwise (·<=·) S7->Q (.ref l) (upd H l<|.lst<|RF V.int S7)):=by
 intro kS s σ H xs us Q I r h;obtain⟨p,kvs,ks,rfl,hp,hk,h64,q⟩:=h;obtain⟨u,rfl,ru⟩:=dD r;cases ru;obtain⟨z,hd,vs,JM,dd⟩:kvs.length<=sizeLine/\(p == Hf)=B'/\∃vs,KV kvs vs/\s.heap.DictOf (aQ X.prog X.w) p vs:=I.hok p _ hp;obtain⟨ep,RM⟩:=dd.dictAt;have G':kvs.length=vs.length:=Paired.length JM;have Tb:ks.length=kvs.length:=by
  have e:=Gg Hv hk;rw[ka,ka]at e;exact e.symm
 refine Calls.call_function_entry kind_sorted plain_sorted entry_sorted (args_sorted1 _) ?_;unfold Builtin.«sorted»;refine EW (m:=checkCount "sorted" 1 1 _)<|Fm ?_;refine EW<|PySem.W.kdu_collect (A:=X.A.in1) (PySem.W.kdl_dict (knd:=aQ X.prog X.w) (kvs:=vs) (ep:=ep) hd) (I.ok.hd hc) RM (by lia) λh' tk MA hkp Q9=>?_;have hl:MA.toList.length=vs.length:=by rw[Gh];exact Q9.1
 have PL:Kr MA.toList ks:=by
  refine jR _ _ (by rw[hl];lia) λi v hv=>?_;obtain⟨k,x,hx,YZ⟩:=Q9.2 i v (by rw[<-Lv];exact hv);obtain⟨q1,RH,RQ,_⟩:=nW JM hx;have e1:(kvs.map (·.1))[i]? =ab k:=by rw[Fk,RH];exact Gg ab RQ
  rw[hk,Fk]at e1;cases e2:ks[i]? with
  |none=>rw[e2]at e1;cases e1
  |some n=>
   rw[e2]at e1;have e3:(FS n:aS)=k:=Fe e1;subst e3;obtain⟨t,et⟩:=ML (k:=n) (v:=v) YZ;exact⟨n,t,rfl,et⟩
 refine EW (Ou ?_<|by rw[hl];lia);have I1:Inv X kS σ H {s with heap:=h',toks:=tk}:=I.kept hkp;have T6:(h'.push<|seqObj "list" MA.toList.toArray 0).get? h'.objs.size=ab (seqObj "list" MA.toList.toArray 0):=Fs _ rfl;refine EW<|Hj<|wpAny_call_entry slot_list_sort ⟨_,T6,rfl⟩ entry_list_sort (list_sort_tree T6 PL (by lia) λout S7 a1 a2 a3=>⟨_,rfl,?_⟩)<|args_list_sort _;refine Fm ⟨_,rfl,?_⟩;have hn:=I1.hok.fresh (a:=h'.objs.size)<|lb _;obtain⟨e,he⟩:=sortedHeap_at (out:=out) T6;have I2:Inv X kS σ (upd H h'.objs.size<|.lst<|S7.map V.int) {s with heap:=sortedHeap (h'.push<|seqObj "list" MA.toList.toArray 0) h'.objs.size MA.toList out,toks:=tk}:=by
  refine I1.laid (t':=tk) (λb o eb=>?_) (lb _) ?_
  ·have hb:b < h'.objs.size:=E4 eb;rw[sortedHeap_old (Fi hb)<|by rw[size_push'];exact Ik hb];exact EV _ eb
  ·refine⟨?_,out.toList,e,?_,?_⟩
   ·rw[ka,a2.length_eq];exact FQ (au<|by lia)
   ·exact iF a1
   ·simpa using he
 exact⟨.ref h'.objs.size,_,I2,rfl,q _ S7 hn a2 a3⟩
def B7(K:gV)(a:f'):It:=
 ⟨λi H=>∃xs x,SqL K H a xs/\xs[i]? =ab x,λi H x H'=>∃t v,H t=A'/\x=.ref t/\H'=upd H t (.tup [.int i,v])/\∀xs,SqL K H a xs->xs[i]? =ab v,λi H=>∃xs,SqL K H a xs/\xs.length<=i⟩
theorem tV{K:gV}(a e it:f')(PJ:e≠it):nM P w K (.Tuple es k1 pos) (B7 K a) [e,it] e (λi h=>(∃Qv,IsEnum h e it i Qv)/\h.IsListIter it a i) where
 mem:=by simp
 obj:=λi h st b hb=>by
  obtain⟨⟨Qv,h1⟩,o,h2,_,h4⟩:=st;obtain rfl|hb:=Fl.mp hb
  ·exact⟨_,h1,λv z=>by
    have z':Nl _=O0 v:=z;cases z'⟩
  ·have e:b=it:=Fb.mp hb;subst e;exact⟨o,h2,λv z=>by rw[h4]at z;cases z⟩
 keep:=λi h h' st k=>by
  obtain⟨⟨Qv,h1⟩,h2⟩:=st;exact⟨⟨Qv,k e (by simp) _ h1⟩,h2.at λo e=>k it (by simp) o e⟩
 item:=by
  intro X hP hw hK hc i kS s σ H E I hf st hg;subst hP hw hK;obtain⟨xs,x,hq,hx⟩:=hg;obtain⟨Gx,rv,p,hz⟩:=I.list hq;obtain⟨u,hu,ru⟩:=rv.get hx;obtain⟨⟨Qv,h1⟩,h2⟩:=st;obtain⟨f0,f1,f2,f3,f4,f5⟩:=hf e (by simp);obtain⟨g0,g1,g2,g3,g4,g5⟩:=hf it (by simp);refine wpAny_pyNext_enum_item h1 h2 p.isList (x:=u) (by simpa using hu) PJ λh' ho hit' ht hsz hk=>?_;refine⟨_,rfl,wpAny_letOwnedTupleGo_enum ho λOX Y5 Om=>?_⟩;have Z6:e < s.heap.objs.size:=E4 h1;have PM:it < s.heap.objs.size:=by
   obtain⟨o,q,_⟩:=h2;exact E4 q
  have kk:∀b o,b≠e->b≠it->s.heap.get? b=ab o->OX.get? b=ab o:=λb o h3 h4 q=>Om.extBut b o h3<|hk b o h3 h4 q;have I1:Inv X kS σ (upd H s.heap.objs.size<|.tup [.int i,x]) {s with heap:=OX,toks:=s.toks+1}:=by
   have hn:H s.heap.objs.size=none:=I.hok.fresh<|lb _;have SB:OX.get? s.heap.objs.size=ab {cls:=.type "tuple",data:=.seq #[.int i s.toks,u]}:=Om.extBut _ _ (IE Z6) ht;have nt:∀b o,H b=ab o->b≠e/\b≠it:=λb o q=>⟨λz=>(by rw[z,f0]at q;cases q),λz=>(by rw[z,g0]at q;cases q)⟩;refine I.step (g':=s.gens) (d':=s.drawn) (t':=s.toks+1) (ch:=[e,it]) (λb hb=>?_) (λb o _ _ hc q _=>?_) (λb o _ _ hc q _=>⟨o.slots,?_⟩) (λb o _ q n=>?_) (λb o hc q=>⟨o,?_⟩) (λb ys q=>?_) (λb ob ys q=>?_) (λb ps q=>⟨#[],?_⟩) (λm hm=>?_) (λb ob q=>?_) I.bare
   ·obtain rfl|hb:=Fl.mp hb
    ·exact⟨f3,f1,f4,f5⟩
    ·have z:b=it:=Fb.mp hb;subst z;exact⟨g3,g1,g4,g5⟩
   ·exact kk b o (λz=>hc<|by simp [z]) (λz=>hc<|by simp [z]) q
   ·exact kk b o (λz=>hc<|by simp [z]) (λz=>hc<|by simp [z]) q
   ·rw[al<|Fi<|E4 q];exact n
   ·exact kk b o (λz=>hc<|by simp [z]) (λz=>hc<|by simp [z]) q
   ·rw[al<|ak q hn];exact q
   ·rw[al<|ak q hn];exact q
   ·rw[al<|ak q hn,q];simp
   ·obtain⟨o,es,ep,ho,r⟩:=hm;exact⟨o,es,ep,kk _ o (GP f1) (GP g1) ho,r⟩
   ·by_cases hb:b=s.heap.objs.size
    ·subst hb;rw[ad]at q;cases q;exact⟨by show 2<=sizeLine;decide,[.int i s.toks,u],.cons ⟨_,rfl⟩<|.cons ru .nil,⟨_,SB,rfl,_,rfl⟩⟩
    ·rw[al hb]at q;refine(I.hok b ob q).stay (λc v hc z=>?_) (λc z=>by rw[al<|ak z hn];exact z) λc ys z=>by rw[al<|ak z hn];exact z
     obtain hc|hc:=hc
     ·subst hc;exact kk _ v (nt _ _ q).1 (nt _ _ q).2 z
     ·exact kk _ v (nt _ _ hc).1 (nt _ _ hc).2 z
  refine⟨.ref s.heap.objs.size,_,I1,rfl,⟨s.heap.objs.size,x,I.hok.fresh<|lb _,rfl,rfl,λys hy=>by rw[I.list_inj hy hq];exact hx⟩,⟨⟨u,by simpa using Y5⟩,hit'.at λo q=>Om.extBut it o (GP PJ) q⟩,λb hb=>?_⟩;have IL:b < s.heap.objs.size:=by
   obtain rfl|hb:=Fl.mp hb
   ·exact Z6
   ·rw[Fb.mp hb];exact PM
  rw[al<|Fi IL];exact(hf b hb).1
 done:=by
  intro X hP hw hK hc i kS s σ H E I hf st hg;subst hP hw hK;obtain⟨xs,hq,hx⟩:=hg;obtain⟨Gx,rv,p,hz⟩:=I.list hq;obtain⟨⟨Qv,h1⟩,h2⟩:=st;obtain⟨g0,g1,g2,g3,g4,g5⟩:=hf it (by simp);have hl:=rv.length;exact wpAny_pyNext_enum_end (I.ok.hd hc) h1 h2 p.isList (by simp;lia) λh' eb=>⟨rfl,I.turned (t':=s.toks) (λb o hb e=>eb b o hb e) g0 g1 g3 g4 g5⟩
 self:=λ_ _ _ _ _ st h=>by
  obtain⟨⟨Qv,h1⟩,_⟩:=st;exact MC h1 h
def vC(f:V->Hp->Prop):bc V->Hp->Prop
 |[x],H=>f x H
 |_,_=>False
theorem hG:∀{vs:bc V} {H:Hp},vC f vs H->∃x,vs=[x]/\f x H
 |[x],_,h=>⟨x,rfl,h⟩
def CU(K:gV)(tl:TE):TI:=λσ H R=>tl σ H λx H1=>∃a,x=.ref a/\(∃xs,SqL K H1 a xs)/\R (B7 K a) H1
theorem hJ{es:bc F'}{k1:Nat}{Rk:Pos}{p pos:Pos}(hg:Gl X "enumerate")(hm:X.mg "enumerate"=A')(hl:PE X l tl)(hs:Fu [l] X.env=[(B',G0 l X.env)]:=by rfl):
  PI X (.Tuple es k1 Rk) (.Call (.Name "enumerate" p) [l] [] pos) (CU X.K tl):=by
 intro kS s σ H R I h;have ha:=aa hl (ae (X:=X)) (by rw[hs];rfl);refine Call_<|cW I hg hm boot_enumerate<|Gi (bp (ha pos kS s σ H (vC λx H1=>∃a,x=.ref a/\(∃xs,SqL X.K H1 a xs)/\R (B7 X.K a) H1) I h) λus s1 ⟨vs,H1,I1,r1,q1⟩=>?_) hs rfl
 ·obtain⟨x,e,a,ex,⟨xs,hq⟩,q⟩:=hG q1;subst e ex;obtain⟨u,rfl,ru⟩:=dD r1;cases ru;obtain⟨Gx,rv,pl,hz⟩:=I1.list hq;refine call_enumerate_list pl.isList λh' he cu hsz hk=>?_;refine MC he ?_;have I2:Inv X kS σ H1 {s1 with heap:=h'}:=I1.kept (t':=s1.toks) hk;refine⟨s1.heap.objs.size+1,[s1.heap.objs.size+1,s1.heap.objs.size],_,_,H1,rfl,I2,tV a _ _<|Nb _,⟨⟨_,he⟩,cu⟩,λb hb=>?_,q⟩;obtain rfl|hb:=Fl.mp hb
  ·exact I1.fpOk (LL _)<|I1.hok.fresh<|LL _
  ·rw[Fb.mp hb];exact I1.fpOk (lb _)<|I1.hok.fresh<|lb _
theorem fJ{K:gV}{g:TG}{tb:TS}{D:iu}(Pv:Nat->St->Hp->Prop)(h0:Pv 0 σ H)(hl:∀i σ H,i<=xs.length->Pv i σ H->SqL K H a xs)
  (hs:∀i x σ H t,xs[i]? =ab x->Pv i σ H->H t=A'->g (.ref t) σ (upd H t<|.tup [.int i,x]) λσ2 H2=>tb {D with nx:=Pv<|i+1,ct:=Pv<|i+1,bk:=D.nx} σ2 H2) (hd:∀σ H,Pv xs.length σ H->D.nx σ H):
  ∃W:Nat->Nat->St->Hp->Prop,(∃m,W 0 m σ H)/\∀i m σ H,W i m σ H->
   ((B7 K a).stop i H/\D.nx σ H)\/((B7 K a).go i H/\∃N:St->Hp->Prop,(∀σ' H',N σ' H'->∃m',m' < m/\W (i+1) m' σ' H')/\∀x H',(B7 K a).yld i H x H'->g x σ H' λσ2 H2=>tb {D with nx:=N,ct:=N,bk:=D.nx} σ2 H2):=by
 exists λi m σ H=>m=xs.length - i/\i<=xs.length/\Pv i σ H,⟨xs.length,by simp,FF _,h0⟩;rintro i m σ H ⟨rfl,hi,p⟩;have q:=hl i σ H hi p;by_cases IL:i < xs.length
 ·refine .inr ⟨⟨xs,xs[i],q,by simp [IL]⟩,Pv<|i+1,λσ' H' p'=>⟨xs.length - (i+1),by lia,rfl,IL,p'⟩,λx H' y=>?_⟩;obtain⟨t,v,ht,rfl,rfl,y⟩:=y;exact hs i v σ H t (y xs q) p ht
 ·have e:i=xs.length:=by lia
  subst e;exact .inl ⟨⟨xs,q,lb _⟩,hd σ H p⟩
end L2
namespace L2
section
open PySem
variable {K:gV}
theorem bR(e:X.K=K):IxR X (D6 K):=by subst e;exact av
theorem fk(e:X.K=K):OpR X (Gp .In) (Dx K B'):=by subst e;exact iD
theorem kQ(e:X.K=K):OpR X (Gp .NotIn) (Dx K kz):=by subst e;exact cJ
theorem tX(e:X.K=K):dB X (.builtin "len") (Bc K):=by subst e;exact aH
end
end L2
namespace OD
open PySem L2
def ao(i:Int):Int:=if i < 0 then -i else i
theorem cL(h:0<=i):ao i=i:=by unfold ao;rw[E7<|by lia]
def Bt:Int->bc Int->Prop
 |_,[]=>True
 |b,l::r=>b < ao l/\Bt (ao l) r
def ClOk(n:Int)(ls:bc Int):Prop:=Bt 0 ls/\∀l∈ls,ao l<=n
def rm(c:bc Int):Fq:=.tuple<|c.map .int
def fz(t:Str)(cs:bc (bc Int)):Fq:=.tuple [.str t,.list<|cs.map rm]
def WS(t:Str):Prop:=∀ch∈t.cps.toList,ch=119\/ch=115
structure SOk (most:Int)(t:Str)(cs:bc (bc Int)):Prop where
 len:(t.length:Int)<=most
 ws:WS t
 many:cs.length<=16
 cl:∀c∈cs,ClOk t.length c
def dP(ps:bc (Int×Int)):bc (aS×V):=ps.map λq=>(FS q.1,V.int q.2)
def kR(ps:bc (Int×Int))(k s:Int):bc (Int×Int):=if(ps.any λq=>decide (q.1=k))=kz then ps.map (λq=>if q.1=k then(q.1,s)else q)else ps++[(k,s)]
theorem Bu(ps:bc (Int×Int))(k:Int):((dP ps).any λkv=>decide (kv.1=(FS k:aS)))=ps.any λq=>decide (q.1=k):=by
 unfold dP;rw[Js]
 congr 1
 funext q
 show decide ((FS q.1:aS)=FS k)=decide (q.1=k)
 by_cases e:q.1=k
 ·rw[E2 e,E2<|by rw[e]]
 ·rw[E_ e,E_ λz=>e<|GR z]
theorem Bv(ps:bc (Int×Int))(k s:Int):cV (dP ps) (FS k) (V.int s)=dP (kR ps k s):=by
 unfold cV kR;rw[Bu];by_cases h:(ps.any λq=>decide (q.1=k))=kz
 ·rw[Fc h,Fc h];unfold dP;rw[FX,FX]
  congr 1
  funext q
  show(if(FS q.1:aS)=FS k then((FS q.1:aS),V.int s)else(FS q.1,V.int q.2))=(FS (if q.1=k then(q.1,s)else q).1,V.int (if q.1=k then(q.1,s)else q).2)
  by_cases e:q.1=k
  ·rw[Fc (by rw[e]),Fc e]
  ·rw[E7 λz=>e<|GR z,E7 e]
 ·rw[E7 h,E7 h];unfold dP;rw[Fh];rfl
theorem yJ(ps:bc (Int×Int)):(dP ps).map (·.1)=(ps.map (·.1)).map FS:=by
 unfold dP;rw[FX,FX];rfl
def gE(ps:bc (Int×Int))(k:Int):kb Int:=(ps.find? λq=>decide (q.1=k)).map (·.2)
theorem Bw(ps:bc (Int×Int))(k:Int):bH (dP ps) (FS k:aS)=(gE ps k).map V.int:=by
 induction ps with
 |nil=>rfl
 |cons q r ih=>
  show bH (((FS q.1:aS),V.int q.2)::dP r) (FS k)=_
  by_cases e:q.1=k
  ·rw[bL<|by rw[e]];simp [gE,Gv,e]
  ·rw[bE λz=>e<|GR z,ih];simp [gE,Gv,e]
structure DOk (n:Int)(ps:bc (Int×Int)):Prop where
 nd:(ps.map (·.1)).Nodup
 rng:∀q∈ps,1<=q.1/\q.1<=n
 sg:∀q∈ps,q.2=1\/q.2=-1
theorem DOk.nil(n:Int):DOk n []:=⟨List.nodup_nil,(λ_ h=>nomatch h),(λ_ h=>nomatch h)⟩
theorem DOk.put(h:DOk n ps)(h1:1<=k/\k<=n)(hs:s=1\/s=-1):DOk n (kR ps k s)/\(kR ps k s).length<=ps.length+1:=by
 unfold kR;by_cases a:(ps.any λq=>decide (q.1=k))=kz
 ·rw[Fc a];have e:(ps.map λq=>if q.1=k then(q.1,s)else q).map (·.1)=ps.map (·.1):=by
   rw[FX]
   congr 1
   funext q
   show(if q.1=k then(q.1,s)else q).1=q.1
   split<;>rfl
  refine⟨⟨by rw[e];exact h.nd,λq hq=>?_,λq hq=>?_⟩,by rw[ka];lia⟩
  ·obtain⟨q',Qi,rfl⟩:=FW.mp hq
   split
   ·exact h.rng q' Qi
   ·exact h.rng q' Qi
  ·obtain⟨q',Qi,rfl⟩:=FW.mp hq
   split
   ·exact hs
   ·exact h.sg q' Qi
 ·rw[E7 a];refine⟨⟨?_,λq hq=>?_,λq hq=>?_⟩,by rw[C'];exact lb _⟩
  ·rw[Fh];refine ri h.nd λm=>a ?_;obtain⟨q,hq,e⟩:=FW.mp m;exact GZ.mpr ⟨q,hq,E2 e⟩
  ·obtain z|z:=FN.mp hq
   ·exact h.rng q z
   ·rw[Fb.mp z];exact h1
  ·obtain z|z:=FN.mp hq
   ·exact h.sg q z
   ·rw[Fb.mp z];exact hs
def Bx(ps:bc (Int×Int))(k:Int):Int:=(gE ps k).getD 1
theorem DOk.look(h:DOk n ps)(hk:k∈ps.map (·.1)):gE ps k=ab (Bx ps k)/\(Bx ps k=1\/Bx ps k=-1):=by
 obtain⟨q,hq,e⟩:=FW.mp hk;unfold Bx gE;cases f:ps.find? λq=>decide (q.1=k)with
 |none=>
  have:=HC.mp f q hq;exact absurd (E2 e) this
 |some z=>exact⟨rfl,h.sg z<|Gy f⟩
theorem nY(hk:1<=k)(hs:s=1\/s=-1):ao (k*s)=k:=by
 unfold ao;obtain rfl|rfl:=hs
 ·rw[Nn,E7<|by lia]
 ·rw[Fc<|by lia];lia
theorem vD{f:Int->Int}:∀(ks:bc Int) (b:Int),0<=b->(∀k∈ks,b < k)->ks.Pairwise (· < ·)->(∀k∈ks,f k=1\/f k=-1)->Bt b (ks.map λk=>k*f k)
 |[],_,_,_,_,_=>trivial
 |k::r,b,h0,hb,hp,hf=>by
  have hk:=hb k Fz;have e:=nY (s:=f k) (show 1<=k by lia)<|hf k Fz;obtain⟨p1,p2⟩:=IW.mp hp;show b < ao (k*f k)/\Bt (ao<|k*f k) (r.map λk=>k*f k)
  rw[e];exact⟨hk,vD r k (by lia) p1 p2 λz hz=>hf z<|Fx _ hz⟩
theorem fK:∀{ks:bc Int},ks.Pairwise (·<=·)->ks.Nodup->ks.Pairwise (· < ·)
 |[],_,_=>Kv
 |k::r,hp,hn=>by
  obtain⟨p1,p2⟩:=IW.mp hp;obtain⟨n1,n2⟩:=GK.mp hn;refine IW.mpr ⟨λz hz=>?_,fK p2 n2⟩;have:=p1 z hz;have:k≠z:=λe=>n1<|e▸hz;lia
theorem DOk.clause{n:Int}{ps:bc (Int×Int)}{ks:bc Int}(h:DOk n ps)(hp:ks.Perm (ps.map (·.1)))(hs:ks.Pairwise (·<=·)):ClOk n (ks.map λk=>k*Bx ps k):=by
 have hm:∀k∈ks,k∈ps.map (·.1):=λk hk=>hp.mem_iff.mp hk;have hr:∀k∈ks,1<=k/\k<=n:=λk hk=>by
  obtain⟨q,hq,e⟩:=FW.mp<|hm k hk;rw[<-e];exact h.rng q hq
 refine⟨vD ks 0 (JP 0) (λk hk=>by have:=(hr k hk).1;lia) (fK hs<|hp.nodup_iff.mpr h.nd) λk hk=>(h.look<|hm k hk).2,λl hl=>?_⟩;obtain⟨k,hk,rfl⟩:=FW.mp hl;rw[nY (hr k hk).1 (h.look<|hm k hk).2];exact(hr k hk).2
theorem cM{ns:bc Int}{i:Nat}{x:V}(h:(ns.map V.int)[i]? =ab x):∃z,x=.int z/\ns[i]? =ab z:=by
 rw[Fk]at h;cases e:ns[i]? with
 |none=>rw[e]at h;cases h
 |some z=>
  rw[e]at h;exact⟨z,(Fe h).symm,rfl⟩
theorem vE(ns:bc Int)(lo hi:kb Int):∃ms:bc Int,dq (ns.map V.int) lo hi=ms.map V.int/\ms.length<=ns.length:=by
 unfold dq;rw[ka];refine⟨(ns.drop<|HT.sIx ns.length 0 lo).take<|HT.sIx ns.length ns.length hi - HT.sIx ns.length 0 lo,?_,?_⟩
 ·rw[<-List.map_drop,<-List.map_take]
 ·rw[FO,Hi];lia
theorem rn(a b:Str):(a++b).cps.toList=a.cps.toList++b.cps.toList:=by
 show(a.cps++b.cps).toList=_
 simp
theorem nZ(he:e.cps.toList=[]):∀ss,(N2 e ss).cps.toList=(ss.map λs=>s.cps.toList).flatten
 |[]=>rfl
 |[x]=>by
  show x.cps.toList=_
  simp
 |x::y::r=>by
  show((x++e)++N2 e (y::r)).cps.toList=_
  rw[rn,rn,he,nZ he<|y::r];simp
def jS(s:Str):Prop:=s=⟨#[119]⟩\/s=⟨#[115]⟩
theorem jT:∀{ss:bc Str},(∀s∈ss,jS s)->(ss.map λs=>s.cps.toList).flatten.length=ss.length/\∀ch∈(ss.map λs=>s.cps.toList).flatten,ch=119\/ch=115
 |[],_=>⟨rfl,λ_ h=>nomatch h⟩
 |s::r,h=>by
  obtain⟨h1,h2⟩:=jT (ss:=r) λz hz=>h z<|Fx _ hz;rw[FA,List.flatten_cons];obtain rfl|rfl:=h s Fz
  ·refine⟨by rw[C',h1];show 1+r.length=r.length+1;lia,λch hc=>?_⟩;obtain z|z:=FN.mp hc
   ·exact .inl (by simpa using z)
   ·exact h2 ch z
  ·refine⟨by rw[C',h1];show 1+r.length=r.length+1;lia,λch hc=>?_⟩;obtain z|z:=FN.mp hc
   ·exact .inr (by simpa using z)
   ·exact h2 ch z
theorem CV:(ET "").cps.toList=[]:=by decide+kernel
theorem vF(h:∀s∈ss,jS s):(MM "" ss).length=ss.length/\WS (MM "" ss):=by
 have e:MM (ET "") ss=N2 (ET "") ss:=eq_of_beq<|M_ _ ss;obtain⟨h1,h2⟩:=jT h;have e2:=nZ CV ss;refine⟨?_,?_⟩
 ·rw[e];show(N2 (ET "") ss).cps.size=_
  rw[<-Gh,e2];exact h1
 ·intro ch hc;rw[e,e2]at hc;exact h2 ch hc
theorem lw:∀{ss:bc Str},(∀s∈ss,jS s)->(ss.map λs=>s.length).sum=ss.length
 |[],_=>rfl
 |s::r,h=>by
  rw[FA,OU,lw λz hz=>h z<|Fx _ hz,FI];obtain rfl|rfl:=h s Fz
  ·show 1+_=_;lia
  ·show 1+_=_;lia
theorem CW(h0:0<=j)(h1:j < 2):∃c,kL (ET "ws").cps.toList j=ab c/\jS ⟨#[c]⟩:=by
 obtain rfl|rfl:=(by lia:j=0\/j=1)
 ·exact⟨119,by decide+kernel,.inl rfl⟩
 ·exact⟨115,by decide+kernel,.inr rfl⟩
def CL(H:Hp)(c:bc Int)(v:V):Prop:=∃t,v=.ref t/\H t=ab (.tup<|c.map V.int)
def CLs(H:Hp):bc (bc Int)->bc V->Prop:=Paired<|CL H
theorem CL.mono(h:CL H c v)(k:Same H H'):CL H' c v:=let ⟨t,e,z⟩:=h;⟨t,e,k _ _ z⟩
theorem CL.upd(h:CL H c v)(hq:H q=ab (.lst xs)):CL (upd H q o) c v:=by
 obtain⟨t,e,z⟩:=h;exact⟨t,e,by rw[al<|qZ z hq<|by intro w;cases w];exact z⟩
theorem CLs.mono(k:Same H H'):∀{cs:bc (bc Int)} {xs:bc V},CLs H cs xs->CLs H' cs xs
 |_,_,.nil=>.nil
 |_,_,.cons h t=>.cons (h.mono k)<|CLs.mono k t
theorem CLs.upd(hq:H q=ab (.lst ys)):∀{cs:bc (bc Int)} {xs:bc V},CLs H cs xs->CLs (upd H q o) cs xs
 |_,_,.nil=>.nil
 |_,_,.cons h t=>.cons (h.upd hq)<|CLs.upd hq t
theorem CLs.snoc(h:CL H c v)(t:CLs H cs xs):CLs H (cs++[c]) (xs++[v]):=Paired.snoc t h
theorem CLs.length(h:CLs H cs xs):cs.length=xs.length:=Paired.length h
theorem CLs.get:∀{cs:bc (bc Int)} {xs:bc V} {j:Nat} {v:V},CLs H cs xs->xs[j]? =ab v->∃c,cs[j]? =ab c/\CL H c v
 |_,_,_,_,.nil,e=>by cases e
 |_,_,0,_,.cons h _,e=>⟨_,rfl,by have e':=Fe e;subst e';exact h⟩
 |_,_,j+1,v,.cons _ t,e=>by
  obtain⟨c,h1,h2⟩:=CLs.get (j:=j) (v:=v) t (by simpa using e);exact⟨c,by simpa using h1,h2⟩
theorem CL.rd(h:CL H c v):RD H (rm c) v:=by
 obtain⟨t,rfl,z⟩:=h;exact cX z<|jM c
theorem CLs.rds:∀{cs:bc (bc Int)} {xs:bc V},CLs H cs xs->eP H (cs.map rm) xs
 |_,_,.nil=>bM
 |_,_,.cons h t=>aO h.rd<|CLs.rds t
theorem CL.of(h:RD H (rm c) v):CL H c v:=by
 obtain⟨a,xs,rfl,h1,h2⟩:=aV h;refine⟨a,rfl,?_⟩;rw[h1];have:∀(ns:bc Int) (xs:bc V),eP H (ns.map N3) xs->xs=ns.map V.int:=by
  intro ns
  induction ns with
  |nil=>intro xs r;exact a_ r
  |cons n r ih=>
   intro xs z;obtain⟨y,ys,rfl,e,t⟩:=aI z;have e':y=.int n:=by
    unfold RD at e;exact e
   rw[e',ih ys t];rfl
 rw[this c xs h2]
theorem CLs.of:∀{cs:bc (bc Int)} {xs:bc V},eP H (cs.map rm) xs->CLs H cs xs
 |[],xs,h=>by
  rw[a_ h];exact .nil
 |c::cs,xs,h=>by
  obtain⟨y,ys,rfl,h1,h2⟩:=aI h;exact .cons (CL.of h1)<|CLs.of h2
theorem yK(hp:H p=ab (.tup [.str t,.ref q]))(hq:H q=ab (.lst xs))(h:CLs H cs xs):RD H (fz t cs) (.ref p):=
 cX hp (aO (gJ t)<|aO (di hq h.rds) bM)
theorem cx(h:RD H (fz t cs) v):∃p q xs,v=.ref p/\H p=ab (.tup [.str t,.ref q])/\H q=ab (.lst xs)/\CLs H cs xs:=by
 obtain⟨p,ys,rfl,h1,h2⟩:=aV h;obtain⟨y,zs,rfl,h3,h4⟩:=aI h2;obtain⟨z,ws,rfl,h5,h6⟩:=aI h4;have h7:=a_ h6;subst h7;obtain⟨q,xs,rfl,h8,h9⟩:=cg h5;have e:y=.str t:=by
  unfold RD at h3;exact h3
 subst e;exact⟨p,q,xs,rfl,h1,h8,CLs.of h9⟩
theorem jU:∀cs:bc (bc Int),GT (cs.map rm)=kz
 |[]=>rfl
 |c::r=>by
  show(GT (c.map N3)&&GT (r.map rm))=kz
  rw[PySem.W.ke_canLayAll0,jU r];rfl
theorem lx(h1:d.canLay0=kz)(h2:d.depth<=64):Gk d=true:=by
 unfold Gk;rw[h1,E2 h2];rfl
theorem ql(c:bc Int):GG (rm c) (.tuple [])=decide (c=[]):=by
 cases c with
 |nil=>simp [rm,GG,IG]
 |cons n r=>simp [rm,GG,IG]
mutual
theorem jV:∀d,d.canLay0=kz->GG d d=kz
 |.none,_=>rfl
 |.bool b,_=>by simp [GG]
 |.int i,_=>by simp [GG]
 |.str x,_=>by simp [GG]
 |.list ds,h=>by
  show IG ds ds=kz
  exact fL ds h
 |.tuple ds,h=>by
  show IG ds ds=kz
  exact fL ds h
 |.dict _,h=>by cases h
theorem fL:∀ds,GT ds=kz->IG ds ds=kz
 |[],_=>rfl
 |d::r,h=>by
  have h':d.canLay0=kz/\GT r=true:=by simpa [GT]using h
  show(GG d d&&IG r r)=kz
  rw[jV d h'.1,fL r h'.2];rfl
end
abbrev Ec:R2:=λx y H Q=>DW x y H Q\/Bm x y H Q
abbrev Ed:R2:=λx y H Q=>DX x y H Q\/Bn x y H Q
theorem ro:∀{c:bc Int} {b:Int},Bt b c->(∀l∈c,ao l<=n)->b<=n->(c.length:Int)<=n - b
 |[],b,_,_,h=>by
  show((0:Nat):Int)<=n - b
  lia
 |l::r,b,h,ha,hb=>by
  have h1:=ha l Fz;have h2:=ro (n:=n) h.2 (λz hz=>ha z<|Fx _ hz) h1;have h3:=h.1;rw[FI];lia
theorem rq:∀{c:bc Int} {b:Int},0<=b->Bt b c->∀l∈c,1<=ao l
 |[],_,_,_,_,h=>nomatch h
 |x::r,b,hb,h,l,hl=>by
  have h1:=h.1;obtain rfl|hl:=Fl.mp hl
  ·lia
  ·exact rq (b:=ao x) (by lia) h.2 l hl
theorem ClOk.pos(h:ClOk n c):∀l∈c,1<=ao l:=rq (JP 0) h.1
theorem ClOk.len(h:ClOk n c)(h0:0<=n):(c.length:Int)<=n:=by
 have:=ro h.1 h.2 h0;lia
def lit(i:Nat)(b:ER):Int:=if b=kz then(i:Int)+1 else -((i:Int)+1)
def cB(l:Int)(c:bc Int):kb (bc Int):=if c.contains l=kz then A' else ab (c.filter λo=>!decide (o=-l))
def behind(l:Int)(cs:bc (bc Int)):bc (bc Int):=cs.filterMap<|cB l
def cu(bs:bc ER)(l:Int):ER:=match bs[(ao l - 1).toNat]? with
 |some b=>b == decide (0 < l)
 |none=>B'
def mM(bs:bc ER)(c:bc Int):kb (bc Int):=if c.any (cu bs)=kz then A' else ab (c.filter λl=>decide ((bs.length:Int) < ao l))
def mN(bs:bc ER)(cs:bc (bc Int)):bc (bc Int):=cs.filterMap<|mM bs
theorem hO(i:Nat)(b:ER):ao (lit i b)=(i:Int)+1:=by
 unfold ao lit;cases b with
 |true=>rw[Fc rfl,E7<|by lia]
 |false=>rw[E7 i',Fc<|by lia];lia
theorem vG(h:1<=ao l):cu (bs++[b]) l=(cu bs l || decide (l=lit bs.length b)):=by
 unfold cu;obtain h1|h1|h1:=Nat.lt_trichotomy (ao l - 1).toNat bs.length
 ·rw[Ga h1];have:l≠lit bs.length b:=λe=>by
   have:=hO bs.length b;rw[<-e]at this;lia
  rw[E_ this,Mc]
 ·rw[h1,F0<|lb _,HI,Hd<|lb _];have e:ao l=(bs.length:Int)+1:=by lia
  show(b == decide (0 < l))=(B' || decide (l=lit bs.length b))
  rw[KF,Gw,Hz];unfold ao at e;unfold lit;cases b with
  |true=>
   rw[Fc rfl];by_cases hl:l < 0
   ·rw[Fc hl]at e;rw[E_<|by lia];constructor
    ·intro z;cases z
    ·intro z;lia
   ·rw[E7 hl]at e;rw[E2<|by lia];exact⟨λ_=>e,λ_=>rfl⟩
  |false=>
   rw[E7 i'];by_cases hl:l < 0
   ·rw[Fc hl]at e;rw[E_<|by lia];exact⟨λ_=>by lia,λ_=>rfl⟩
   ·rw[E7 hl]at e;rw[E2<|by lia];constructor
    ·intro z;cases z
    ·intro z;lia
 ·rw[Hd (by rw[C',FL];lia),Hd<|by lia];have:l≠lit bs.length b:=λe=>by
   have:=hO bs.length b;rw[<-e]at this;lia
  rw[E_ this];rfl
theorem rA{α:Type}(f g:α->ER):∀xs:bc α,xs.any (λx=>f x || g x)=(xs.any f || xs.any g)
 |[]=>rfl
 |x::r=>by
  rw[GL,GL,GL,rA f g r];cases f x<;>cases g x<;>cases r.any f<;>cases r.any g<;>rfl
theorem c_{α:Type}{f g:α->ER}:∀{xs:bc α},(∀x∈xs,f x=g x)->xs.any f=xs.any g
 |[],_=>rfl
 |x::r,h=>by
  rw[GL,GL,h x Fz,c_ λz hz=>h z<|Fx _ hz]
theorem hU(c:bc Int)(l:Int):c.any (λx=>decide (x=l))=c.contains l:=by
 rw[Gw,GZ,E5];constructor
 ·rintro⟨x,hx,e⟩;exact Fv e▸hx
 ·intro h;exact⟨l,h,E2 rfl⟩
theorem tY(h:∀l∈c,1<=ao l):mM (bs++[b]) c=(mM bs c).bind (cB<|lit bs.length b):=by
 have e1:c.any (cu<|bs++[b])=(c.any (cu bs) || c.contains (lit bs.length b)):=by
  rw[c_ (g:=λl=>cu bs l || decide (l=lit bs.length b)) λl hl=>vG<|h l hl,rA,hU]
 have e2:(c.filter λl=>decide ((bs.length:Int) < ao l)).contains (lit bs.length b)=c.contains (lit bs.length b):=by
  rw[Gw,E5,E5,Gf];refine⟨λz=>z.1,λz=>⟨z,E2 ?_⟩⟩;rw[hO];lia
 unfold mM;rw[e1];cases g:c.any (cu bs)with
 |true=>rfl
 |false=>
  rw[KF,E7 i'];show _=cB _ _
  unfold cB;rw[e2];by_cases q:c.contains (lit bs.length b)=kz
  ·rw[Fc q,Fc q]
  ·rw[E7 q,E7 q,List.filter_filter];refine Gg ab<|Jq λl hl=>?_;have n1:l≠lit bs.length b:=λe=>q<|E5.mpr<|e▸hl;have hp:=h l hl;rw[C',FL,Gw,GC,Hz,Hz,MU,KM];have YW:lit bs.length b=(bs.length:Int)+1\/lit bs.length b=-((bs.length:Int)+1):=by
    unfold lit
    split
    ·exact .inl rfl
    ·exact .inr rfl
   have ha:=hO bs.length b;constructor
   ·intro z;refine⟨λe=>?_,by lia⟩;have:ao l=(bs.length:Int)+1:=by
     rw[e];unfold ao;obtain w|w:=YW
     ·rw[w,Fc<|by lia];lia
     ·rw[w,E7<|by lia];lia
    lia
   ·rintro⟨z1,z2⟩;unfold ao at z2 ⊢
    split at z2
    ·lia
    ·lia
theorem vH(h:∀l∈c,1<=ao l):mM [] c=ab c:=by
 unfold mM;have e:c.any (cu [])=false:=MT.mpr λx _=>by simp [cu]
 rw[e,E7 i'];refine Gg ab<|HN.mpr λl hl=>E2 ?_;have:=h l hl;show((0:Nat):Int) < _
 lia
theorem hV{α β:Type}{f g:α->kb β}:∀{xs:bc α},(∀x∈xs,f x=g x)->xs.filterMap f=xs.filterMap g
 |[],_=>rfl
 |x::r,h=>by
  rw[GQ,GQ,h x Fz,hV λz hz=>h z<|Fx _ hz]
theorem n5(h:∀c∈cs,∀l∈c,1<=ao l):mN (bs++[b]) cs=behind (lit bs.length b) (mN bs cs):=by
 unfold mN behind;rw[List.filterMap_filterMap];exact hV λc hc=>tY<|h c hc
theorem yL(h:∀c∈cs,∀l∈c,1<=ao l):mN [] cs=cs:=by
 unfold mN;rw[hV (g:=ab) λc hc=>vH<|h c hc];exact List.filterMap_some
theorem rB(bs:bc ER)(cs:bc (bc Int)):(mN bs cs).length<=cs.length:=IK _ _
theorem qm(h:c∈mN bs cs):∃d∈cs,c=d.filter λl=>decide ((bs.length:Int) < ao l):=by
 unfold mN at h;obtain⟨d,hd,e⟩:=HB.mp h;exists d,hd;unfold mM at e
 split at e
 ·cases e
 ·exact(Fe e).symm
theorem cN(c:bc Int)(l:Int):js (.int l) (c.map V.int)=c.contains l:=by
 unfold js;rw[Js,<-hU];refine c_ λx _=>?_;show(x == l)=decide (x=l)
 rw[Gw,Hz];exact J'
section
variable {K:gV}
theorem cm(IS:St)(p:V->ER)(f:V->V)(e0:σ0=A'::IS)(ha:H1 a=ab (.tup xs))(hD:H1 D=A')(G':xs.length<=9000)
  (ht:∀x∈xs,∀H' R,Same H1 H'->R (p x) H'->tt (ab x::IS) H' R)
  (he:∀x∈xs,p x=kz->∀H' R,Same H1 H'->R (f x) H'->te (ab x::IS) H' R)
  (hq:Q (.ref D) (upd H1 D<|.lst<|(xs.filter p).map f)):gD (zO K a) D (jk 0) tt te σ0 H1 Q:=by
 have na:a≠D:=ak ha hD;refine jP (K:=K) (a:=a) (xs:=xs) (λi σ ys H2=>(∃v0,σ=v0::IS)/\ys=((xs.take i).filter p).map f/\H2=upd H1 D (.lst ys)) ⟨⟨A',e0⟩,rfl,rfl⟩ ?_ ?_ ?_
 ·rintro i σ ys H2 _ ⟨_,_,rfl⟩;exact⟨ad,SqT.of<|by rw[al na];exact ha⟩
 ·rintro i x σ ys H2 hx ⟨⟨v0,rfl⟩,Lg,rfl⟩;have hm:=Fd hx;have e:xs.take (i+1)=xs.take i++[x]:=by rw[FD,hx];rfl
  refine ht x hm _ _ (ag hD _) ?_;cases hp:p x with
  |true=>
   refine aL<|he x hm hp _ _ (ag hD _) ⟨ad,?_,⟨_,rfl⟩,?_,gS⟩
   ·have:ys.length<=xs.length:=by
     rw[Lg,ka];exact FM (FH _ _) (by rw[FO];lia)
    exact jL (by lia)
   ·rw[e,Gc,Fh,<-Lg];simp [hp]
  |false=>
   refine aG ⟨⟨_,rfl⟩,?_,rfl⟩;rw[e,Gc,Fh,<-Lg];simp [hp]
 ·rintro σ ys H2 ⟨_,Lg,rfl⟩;rw[E3<|lb _]at Lg;rw[Lg];exact hq
theorem df(IS:St)(p:V->ER)(f:V->V)(e0:σ0=A'::IS)(ha:H1 a=ab (.lst xs))(hD:H1 D=A')(G':xs.length<=9000)
  (ht:∀x∈xs,∀H' R,Same H1 H'->R (p x) H'->tt (ab x::IS) H' R)
  (he:∀x∈xs,p x=kz->∀H' R,Same H1 H'->R (f x) H'->te (ab x::IS) H' R)
  (hq:Q (.ref D) (upd H1 D<|.lst<|(xs.filter p).map f)):gD (A9 K a) D (jk 0) tt te σ0 H1 Q:=by
 have na:a≠D:=ak ha hD;refine cZ (K:=K) (a:=a) (xs:=xs) (λi σ ys H2=>(∃v0,σ=v0::IS)/\ys=((xs.take i).filter p).map f/\H2=upd H1 D (.lst ys)) ⟨⟨A',e0⟩,rfl,rfl⟩ ?_ ?_ ?_
 ·rintro i σ ys H2 _ ⟨_,_,rfl⟩;exact⟨ad,SqL.of<|by rw[al na];exact ha⟩
 ·rintro i x σ ys H2 hx ⟨⟨v0,rfl⟩,Lg,rfl⟩;have hm:=Fd hx;have e:xs.take (i+1)=xs.take i++[x]:=by rw[FD,hx];rfl
  refine ht x hm _ _ (ag hD _) ?_;cases hp:p x with
  |true=>
   refine aL<|he x hm hp _ _ (ag hD _) ⟨ad,?_,⟨_,rfl⟩,?_,gS⟩
   ·have:ys.length<=xs.length:=by
     rw[Lg,ka];exact FM (FH _ _) (by rw[FO];lia)
    exact jL (by lia)
   ·rw[e,Gc,Fh,<-Lg];simp [hp]
  |false=>
   refine aG ⟨⟨_,rfl⟩,?_,rfl⟩;rw[e,Gc,Fh,<-Lg];simp [hp]
 ·rintro σ ys H2 ⟨_,Lg,rfl⟩;rw[E3<|lb _]at Lg;rw[Lg];exact hq
theorem n6(IS:St)(f:Nat->V)(e0:σ0=A'::IS)(hD:H1 D=A')(G':n<=9000)
  (ht:∀x H' R,R kz H'->tt (ab x::IS) H' R)
  (he:∀i,i < n->∀H' R,Same H1 H'->R (f i) H'->te (ab (.int (0+(i:Int)))::IS) H' R)
  (hq:Q (.ref D) (upd H1 D<|.lst<|(Fy n).map f)):gD (yj 0 n) D (jk 0) tt te σ0 H1 Q:=by
 refine dG (lo:=0) (n:=n) (λi σ ys H2=>(∃v0,σ=v0::IS)/\ys=(Fy i).map f/\H2=upd H1 D (.lst ys)) ⟨⟨A',e0⟩,rfl,rfl⟩ ?_ ?_ ?_
 ·rintro i σ ys H2 _ ⟨_,_,rfl⟩;exact ad
 ·rintro i σ ys H2 hi ⟨⟨v0,rfl⟩,Lg,rfl⟩;refine ht _ _ _<|aL<|he i hi _ _ (ag hD _) ⟨ad,?_,⟨_,rfl⟩,?_,gS⟩
  ·rw[Lg,ka,Gr];exact jL (by lia)
  ·rw[GJ,Fh,<-Lg];rfl
 ·rintro σ ys H2 ⟨_,Lg,rfl⟩;rw[Lg];exact hq
end
theorem jn(c:bc Int)(p:Int->ER)(q:V->ER)(h:∀i,q (.int i)=p i):((c.map V.int).filter q).map (λx=>x)=(c.filter p).map V.int:=by
 rw[Lc];rw[IQ];refine Gg _<|Jq λx _=>h x
theorem fm{c:bc Int}{x:V}(h:x∈c.map V.int):∃z∈c,x=.int z:=by
 obtain⟨z,hz,e⟩:=FW.mp h;exact⟨z,hz,e.symm⟩
theorem vI(h:Gk d=kz):d.canLay0=true:=by
 unfold Gk at h;rw[GC]at h;exact h.1
theorem vJ(hx:RD H d x)(hy:RD H d y)(hs:Gk d=kz)(q:Q (.bl kz) H):Ec x y H Q:=
 .inr ⟨d,d,hx,hy,hs,hs,by rw[jV d<|vI hs];exact q⟩
theorem vK(hx:RD H d x)(hy:RD H d y)(hs:Gk d=kz)(q:Q (.bl B') H):Ed x y H Q:=
 .inr ⟨d,d,hx,hy,hs,hs,by rw[jV d<|vI hs];exact q⟩
theorem Ee{x y:V}{A B:Prop}(h:x=y)(b:B):if(!decide (x=y))=kz then A else B:=by
 rw[E2 h];exact aG b
theorem hW:∀bs:bc ER,eP H (bs.map I_)<|bs.map V.bl
 |[]=>bM
 |b::r=>aO (mI b)<|hW r
theorem jW:∀bs:bc ER,GT (bs.map I_)=kz
 |[]=>rfl
 |b::r=>by
  show(kz&&GT (r.map I_))=kz
  rw[jW r];rfl
theorem ly:∀bs:bc ER,JW (bs.map I_)=0
 |[]=>rfl
 |b::r=>by
  show max 0 (JW<|r.map I_)=0
  rw[ly r];rfl
theorem jX(bs:bc ER):Gk (.list<|bs.map I_)=true:=by
 refine lx (jW bs) ?_;show JW (bs.map I_)+1<=64
 rw[ly];lia
theorem yM{bs:bc ER}{i:Nat}{x:V}(h:(bs.map V.bl)[i]? =ab x):∃b,x=.bl b/\bs[i]? =ab b:=by
 rw[Fk]at h;cases e:bs[i]? with
 |none=>rw[e]at h;cases h
 |some z=>
  rw[e]at h;exact⟨z,(Fe h).symm,rfl⟩
def B8(p:Int->ER):V->ER
 |.int z=>p z
 |_=>B'
def B9(f:Int->V):V->V
 |.int z=>f z
 |x=>x
theorem qo{xs:bc V}{f:V->V}:(xs.filter λ_=>kz).map f=xs.map f:=by
 rw[HN.mpr λ_ _=>rfl]
end OD
namespace L2
open PySem PySem.Spec PyProof.Rows
def Ef:R2:=λx y H Q=>∃(dx:Fq) (ds:bc Fq),RD H dx x/\RD H (.list ds) y/\dx.canLay0=kz/\GT ds=kz/\dx.depth<=60/\Q (.bl<|ds.any λd=>GG d dx) H
theorem By(hu:X.A.units+64 < Ir):OpR X (Gp .In) Ef:=by
 intro kS s σ H x y v u Q I rx ry h;obtain⟨dx,ds,ra,rb,sa,sb,dd,q⟩:=h;obtain⟨as,qa⟩:=dE I dx x v ra rx;obtain⟨bs,qb⟩:=dE I (.list ds) y u rb ry;refine SeqAt.in_list_reads qb qa sb sa ?_ ⟨.bl _,H,I,rfl,q⟩;have:min (JW ds) dx.depth<=dx.depth:=Nat.min_le_right _ _;lia
def gF(mg:Str->kb j')(x:Str)(v:V):Prop:=∃u,mg x=ab u/\RelV v u
theorem ba(hg:Gl X x)(hm:gF X.mg x v)(hd:(x == ("__debug__":Str))=false:=by decide):PE X (.Name x pos) (tC v):=by
 obtain⟨u,h1,h2⟩:=hm;exact yi hg h1 h2 hd
end L2
namespace OD
open PySem L2
def bP(t:Str)(i:Nat):ER:=decide (t.cps.toList[i]? =ab 119)
def aN(b:ER):Str:=if b=kz then ET "wisher" else ET "spoiler"
theorem n9:ET "wisher"≠ET "spoiler":=by decide+kernel
theorem tZ(h:aN a=aN b):a=b:=by
 cases a<;>cases b
 ·rfl
 ·exact absurd h.symm n9
 ·exact absurd h n9
 ·rfl
theorem dl(a b:ER):decide (V.str (aN a)=V.str (aN b))=decide (a=b):=by
 refine Iz.mpr ⟨λh=>tZ<|V.str.inj h,λh=>by rw[h]⟩
def ci(t:Str):Nat->Nat->bc (bc Int)->ER
 |0,_,cs=>if cs.contains []=kz then B' else cs.isEmpty
 |f+1,i,cs=>if cs.contains []=kz then B' else if cs.isEmpty=kz then kz else
   if bP t i=kz then ci t f (i+1) (behind (lit i B') cs) || ci t f (i+1) (behind (lit i kz) cs)else ci t f (i+1) (behind (lit i B') cs)&&ci t f (i+1) (behind (lit i kz) cs)
theorem hX(h:cs.contains []=kz):ci t f i cs=false:=by
 cases f<;>unfold ci<;>rw[Fc h]
theorem jY:ci t f i []=true:=by
 cases f<;>rfl
theorem iI{t:Str}{f i:Nat}(h:cs.contains []=B')(h2:cs.isEmpty=B'):
  ci t (f+1) i cs=if bP t i=kz then ci t f (i+1) (behind (lit i B') cs) || ci t f (i+1) (behind (lit i kz) cs)else ci t f (i+1) (behind (lit i B') cs)&&ci t f (i+1) (behind (lit i kz) cs):=by
 conv=>lhs;unfold ci
 rw[h,h2,E7 i',E7 i']
theorem yN(h:cs.contains []=B')(h2:cs.isEmpty=B')(b:ER)(e:ci t f (i+1) (behind (lit i b) cs)=bP t i):ci t (f+1) i cs=bP t i:=by
 rw[iI h h2];cases g:bP t i with
 |true=>
  rw[g]at e;rw[Fc rfl];cases b
  ·rw[e];rfl
  ·rw[e,Bool.or_true]
 |false=>
  rw[g]at e;rw[E7 i'];cases b
  ·rw[e];rfl
  ·rw[e,LP]
theorem vL(h:cs.contains []=B')(h2:cs.isEmpty=B')(e1:ci t f (i+1) (behind (lit i B') cs)≠bP t i)(e2:ci t f (i+1) (behind (lit i kz) cs)≠bP t i):ci t (f+1) i cs=!bP t i:=by
 rw[iI h h2];generalize ci t f (i+1) (behind (lit i B') cs)=a at e1;generalize ci t f (i+1) (behind (lit i kz) cs)=b at e2;generalize bP t i=c at e1 e2;cases a<;>cases b<;>cases c<;>first|rfl|exact absurd rfl e1|exact absurd rfl e2
def Rng(i n:Nat)(cs:bc (bc Int)):Prop:=∀c∈cs,∀l∈c,(i:Int) < ao l/\ao l<=(n:Int)
def Small(cs:bc (bc Int)):Prop:=cs.length<=900/\∀c∈cs,c.length<=900
theorem jZ(h:c∈behind l cs):∃d∈cs,d.contains l=B'/\c=d.filter λo=>!decide (o=-l):=by
 unfold behind at h;obtain⟨d,hd,e⟩:=HB.mp h;unfold cB at e;cases g:d.contains l with
 |true=>rw[g,Fc rfl]at e;cases e
 |false=>
  rw[g,E7 i']at e;exact⟨d,hd,g,(Fe e).symm⟩
theorem Small.behind(h:Small cs)(l:Int):Small (behind l cs):=by
 refine⟨FM (IK _ _) h.1,λc hc=>?_⟩;obtain⟨d,hd,_,rfl⟩:=jZ hc;exact FM (FH _ _)<|h.2 d hd
theorem gL(l:Int):(0<=l/\ao l=l)\/(l < 0/\ao l=-l):=by
 unfold ao;by_cases h:l < 0
 ·exact .inr ⟨h,Fc h⟩
 ·exact .inl ⟨by lia,E7 h⟩
theorem t3(i:Nat)(b:ER):lit i b=(i:Int)+1\/lit i b=-((i:Int)+1):=by
 unfold lit
 split
 ·exact .inl rfl
 ·exact .inr rfl
theorem Rng.behind(h:Rng i n cs)(b:ER):Rng (i+1) n (behind (lit i b) cs):=by
 intro c hc l hl;obtain⟨d,hd,g,rfl⟩:=jZ hc;obtain⟨Rr,NG⟩:=Gf.mp hl;have h1:=h d hd l Rr;have n1:l≠lit i b:=λe=>by
  have:d.contains (lit i b)=true:=E5.mpr<|e▸Rr;rw[g]at this;cases this
 have n2:l≠-lit i b:=by
  rw[MU,KM]at NG;exact NG
 have:=gL l;have:=t3 i b;lia
theorem Rng.fuel(h:Rng i n cs)(h1:cs.contains []=B')(h2:cs.isEmpty=B'):i < n:=by
 cases cs with
 |nil=>cases h2
 |cons c r=>
  cases c with
  |nil=>
   have:(([]:bc Int)::r).contains []=true:=E5.mpr Fz;rw[h1]at this;cases this
  |cons l c=>
   have:=h (l::c) Fz l Fz;lia
theorem yO(cs:bc (bc Int)):((cs.map rm).any λd=>GG d<|.tuple [])=cs.contains []:=by
 rw[Js];have e:(λc=>GG (rm c)<|.tuple [])=λc:bc Int=>decide (c=[]):=by
  funext c
  exact ql c
 have e':((λd=>GG d<|.tuple [])∘rm)=λc:bc Int=>decide (c=[]):=e;rw[e',Gw,GZ,E5];constructor
 ·rintro⟨x,hx,z⟩;exact Fv z▸hx
 ·intro z;exact⟨[],z,E2 rfl⟩
theorem vM:decide (V.str ⟨#[ch]⟩=V.str (ET "w"))=decide (ch=119):=by
 have e:ET "w"=⟨#[119]⟩:=by decide+kernel
 rw[e];refine Iz.mpr ⟨λh=>?_,λh=>by rw[h]⟩;have:=V.str.inj h;injection this with h1;have h2:=Gg MV h1;simpa using h2
theorem mO(h:t.cps.toList[i]? =ab ch):bP t i=decide (ch=119):=by
 unfold bP;rw[h];exact Iz.mpr ⟨λz=>Fe z,λz=>Gg _ z⟩
end OD
namespace L2
open PySem PySem.Spec PyProof.Rows
def t4(lo:Int)(n:Nat):It:=⟨λi _=>i < n,λi H x H'=>H'=H/\x=.int (lo - i),λi _=>n<=i⟩
theorem n_{K:gV}(it:f')(lo:Int)(n:Nat):nM P w K tg (t4 lo n) [it] it (λi h=>LG h it (lo+(i:Nat)*(-1)) ((n:Int) - (i:Nat)) (-1)) where
 mem:=by simp
 obj:=λi h st b hb=>by
  have e:b=it:=by simpa using hb
  subst e;exact⟨_,st,λv z=>by
   have z':Nl _=O0 v:=z;cases z'⟩
 keep:=λi h h' st k=>k it (by simp) _ st
 item:=by
  intro X hP hw hK hc i kS s σ H E I hf st hg;subst hP hw hK;obtain⟨f0,f1,f2,f3,f4,f5⟩:=hf it (by simp);have W:=P5 (prog:=X.prog) (w:=X.w) (I.ok.hd hc) it lo (-1) n;refine W.item i s _ _ hg st λv h' tk hv Pw kk=>?_;obtain⟨t,rfl⟩:=hv;have I1:Inv X kS σ H {s with heap:=h',toks:=tk}:=I.turned (λb o hb e=>kk b o (by simpa using hb) e) f0 f1 f3 f4 f5;refine⟨_,rfl,nN (s:={s with heap:=h',toks:=tk}) (n:="range_iterator") Pw rfl rfl (by decide) ⟨.int<|lo - i,H,I1,⟨t,?_⟩,⟨rfl,rfl⟩,Pw,λb hb=>(hf b hb).1⟩⟩;have e:lo+(i:Int)*(-1)=lo - i:=by lia
  rw[e]
 done:=by
  intro X hP hw hK hc i kS s σ H E I hf st hg;subst hP hw hK;obtain⟨f0,f1,f2,f3,f4,f5⟩:=hf it (by simp);exact KZ (I.ok.hd hc) st (by have:n<=i:=hg;lia) λh' eb=>⟨rfl,I.turned (t':=s.toks) (λb o hb e=>eb b o hb e) f0 f1 f3 f4 f5⟩
 self:=λ_ _ _ _ _ st h=>K0 st h
theorem t5{R:It->Hp->Prop}{E:j'->Bs->Prop}{lo:Int}{t u v:Tok}{tk:Nat}(I:Inv X kS σ H s)(h1:-(2 ^ 62)<=lo)(h2:lo < 2 ^ 62)(h3:-(2 ^ 62)<=hi)(h4:hi < 2 ^ 62)
  (q:R (t4 lo (lo - hi).toNat) H):wpAny (FE X.prog X.w) X.A (NU<|.ref s.heap.objs.size) (DO X kS σ tg R) E {s with heap:=s.heap.push {cls:=.type "range",data:=.fields #[.int lo t,.int hi u,.int (-1) v]},toks:=tk}:=by
 refine Mg (Nk ..) (PySem.W.small_down h1 h2 h3 h4) ?_;have I1:Inv X kS σ H {s with heap:=s.heap.push {cls:=.type "range",data:=.fields #[.int lo t,.int hi u,.int (-1) v]},toks:=tk}:=I.kept λb o e=>EV _ e;refine⟨(s.heap.push {cls:=.type "range",data:=.fields #[.int lo t,.int hi u,.int (-1) v]}).objs.size,[(s.heap.push {cls:=.type "range",data:=.fields #[.int lo t,.int hi u,.int (-1) v]}).objs.size],_,_,H,rfl,
  I1.kept (t':=tk) λb o e=>EV _ e,n_ _ lo (lo - hi).toNat,?_,λb hb=>?_,q⟩
 ·have e1:lo+((0:Nat):Int)*(-1)=lo:=by simp
  have e2:(((lo - hi).toNat:Nat):Int) - ((0:Nat):Int)=KR lo hi (-1):=by rw[PySem.W.rangeSize_down];split<;>lia
  show LG _ _ (lo+((0:Nat):Int)*(-1)) ((((lo - hi).toNat:Nat):Int) - ((0:Nat):Int)) (-1)
  rw[e1,e2];exact Fs _ rfl
 ·have e:b=(s.heap.push {cls:=.type "range",data:=.fields #[.int lo t,.int hi u,.int (-1) v]}).objs.size:=by simpa using hb
  subst e;exact I1.fpOk (lb _)<|I1.hok.fresh<|lb _
def CY(ta:TA):TI:=λσ H R=>ta σ H λvs H1=>∃i j:Int,vs=[.int i,.int j,.int (-1)]/\(-(2 ^ 62)<=i/\i < 2 ^ 62/\ -(2 ^ 62)<=j/\j < 2 ^ 62)/\R (t4 i (i - j).toNat) H1
theorem t6{X:Cx}{tg:F'}{a b c:F'}{ta:TA}{p pos:Pos}(hg:Gl X "range")(hm:X.mg "range"=A')(ha:PA X [a,b,c] ta)(hs:Fu [a,b,c] X.env=(B',G0 a X.env)::Fu [b,c] X.env:=by rfl)(Qx:(HF pos<|Fu [b,c] X.env).any (·.1)=false:=by rfl):
  PI X tg (.Call (.Name "range" p) [a,b,c] [] pos) (CY ta):=by
 intro kS s σ H R I h;refine Call_<|cW I hg hm Mt<|Gi (bp (ha pos kS s σ H _ I h) λus s1 ⟨vs,H1,I1,r1,q1⟩=>?_) hs Qx;obtain⟨i,j,e,⟨q1,q2,q3,q4⟩,q⟩:=q1;subst e;cases r1 with
 |cons r rr=>
  cases rr with
  |cons r' rr=>
   cases rr with
   |cons r'' rr=>
    cases rr;obtain⟨t,rfl⟩:=r;obtain⟨t',rfl⟩:=r';obtain⟨t'',rfl⟩:=r'';exact call_range_3 (by decide) (t5 I1 q1 q2 q3 q4 q) (.inl<|K8<|by decide)
theorem qp{lo:Int}{n:Nat}{g:TG}{tb:TS}{D:iu}(Pv:Nat->St->Hp->Prop)(h0:Pv 0 σ H)
  (hs:∀i σ H,i < n->Pv i σ H->g (.int<|lo - i) σ H λσ2 H2=>tb {D with nx:=Pv<|i+1,ct:=Pv<|i+1,bk:=D.nx} σ2 H2) (hd:∀σ H,Pv n σ H->D.nx σ H):
  ∃W:Nat->Nat->St->Hp->Prop,(∃m,W 0 m σ H)/\∀i m σ H,W i m σ H->
   ((t4 lo n).stop i H/\D.nx σ H)\/((t4 lo n).go i H/\∃N:St->Hp->Prop,(∀σ' H',N σ' H'->∃m',m' < m/\W (i+1) m' σ' H')/\∀x H',(t4 lo n).yld i H x H'->g x σ H' λσ2 H2=>tb {D with nx:=N,ct:=N,bk:=D.nx} σ2 H2):=by
 exists λi m σ H=>m=n - i/\i<=n/\Pv i σ H,⟨n,by simp,FF _,h0⟩;rintro i m σ H ⟨rfl,hi,p⟩;by_cases IL:i < n
 ·refine .inr ⟨IL,Pv<|i+1,λσ' H' p'=>⟨n - (i+1),by lia,rfl,IL,p'⟩,λx H' y=>?_⟩;obtain⟨e,y⟩:=y;subst e y;exact hs i σ _ IL p
 ·have e:i=n:=by lia
  subst e;exact .inl ⟨lb _,hd σ H p⟩
end L2
namespace OD
open PySem L2
def dQ(n:Nat)(num:Nat)(l:Int):ER:=decide (num / 2 ^ (n - (ao l).toNat) % 2=1) == decide (0 < l)
def oe(n:Nat)(cs:bc (bc Int))(num:Nat):ER:=cs.all λc=>c.any<|dQ n num
def bS(t:Str)(cs:bc (bc Int)):Nat->Nat->Nat->ER
 |0,_,num=>oe t.length cs num
 |f+1,i,num=>if bP t i=kz then bS t cs f (i+1) (2*num) || bS t cs f (i+1) (2*num+1)else bS t cs f (i+1) (2*num)&&bS t cs f (i+1) (2*num+1)
def dR(bs:bc ER):Nat:=bs.foldl (λa b=>2*a+(if b=kz then 1 else 0)) 0
theorem eS(bs:bc ER)(b:ER):dR (bs++[b])=2*dR bs+(if b=kz then 1 else 0):=by
 unfold dR;rw[Il];rfl
theorem vN(m r e:Nat)(h:r < 2):(2*m+r) / 2 ^ (e+1)=m / 2 ^ e:=by
 rw[ID,Po (2 ^ e) 2,<-Lb];have:(2*m+r) / 2=m:=by lia
 rw[this]
theorem vO{P:bc ER->Prop}(h0:P [])(hs:∀bs b,P bs->P (bs++[b]))(bs:bc ER):P bs:=by
 have:∀(r:bc ER),P r.reverse:=by
  intro r
  induction r with
  |nil=>exact h0
  |cons b r ih=>
   rw[List.reverse_cons];exact hs _ _ ih
 have z:=this bs.reverse
 rwa [List.reverse_reverse]at z
theorem vP(bs:bc ER):∀j,j < bs.length->bs[j]? =ab (decide (dR bs / 2 ^ (bs.length - 1 - j) % 2=1)):=by
 induction bs using vO with
 |h0=>intro j h;cases h
 |hs bs b ih=>
  intro j hj;rw[C',FL]at hj ⊢;rw[eS];by_cases e:j < bs.length
  ·rw[Ga e,ih j e];have e1:bs.length+1 - 1 - j=(bs.length - 1 - j)+1:=by lia
   rw[e1,vN _ _ _ (by split<;>lia)]
  ·have e1:j=bs.length:=by lia
   subst e1;rw[F0<|lb _,HI];have e2:bs.length+1 - 1 - bs.length=0:=by lia
   rw[e2,MQ,Qd];show ab b=_
   cases b with
   |true=>rw[Fc rfl];congr 1;symm;exact E2 (by lia)
   |false=>rw[E7 i'];congr 1;symm;exact E_ (by lia)
theorem rC(h1:1<=ao l)(h2:ao l<=(bs.length:Int)):cu bs l=dQ bs.length (dR bs) l:=by
 unfold cu dQ;rw[vP bs (ao l - 1).toNat<|by lia];have e:bs.length - 1 - (ao l - 1).toNat=bs.length - (ao l).toNat:=by lia
 rw[e]
theorem j0(h:cs.contains []=kz):(behind l cs).contains []=true:=by
 rw[E5]at h ⊢;exact HB.mpr ⟨[],h,rfl⟩
theorem yP(t:Str)(f i:Nat)(cs:bc (bc Int)):
  ci t (f+1) i cs=if bP t i=kz then ci t f (i+1) (behind (lit i B') cs) || ci t f (i+1) (behind (lit i kz) cs)else ci t f (i+1) (behind (lit i B') cs)&&ci t f (i+1) (behind (lit i kz) cs):=by
 cases h:cs.contains []with
 |true=>
  rw[hX h,hX<|j0 h,hX<|j0 h]
  split<;>rfl
 |false=>
  cases h2:cs.isEmpty with
  |true=>
   have e:cs=[]:=Nh.mp h2;subst e;have e1:∀l,behind l []=[]:=λ_=>rfl;rw[e1,e1,jY,jY]
   split<;>rfl
  |false=>exact iI h h2
theorem vR(hr:Rng 0 bs.length cs)(i:Nat):ci t 0 i (mN bs cs)=oe bs.length cs (dR bs):=by
 have key:∀c∈cs,mM bs c=if c.any (dQ bs.length<|dR bs)=kz then A' else ab []:=λc hc=>by
  unfold mM;rw[c_ λl hl=>rC (by have:=hr c hc l hl;lia) (hr c hc l hl).2];have e:c.filter (λl=>decide ((bs.length:Int) < ao l))=[]:=Jp.mpr λl hl=>by
   have:=(hr c hc l hl).2;rw[Hz];lia
  rw[e]
 have ed:mN bs cs=cs.filterMap λc=>if c.any (dQ bs.length<|dR bs)=kz then A' else ab []:=hV key
 unfold ci;rw[ed];cases h:oe bs.length cs (dR bs)with
 |true=>
  have h':=Gq.mp h;have e:(cs.filterMap λc=>if c.any (dQ bs.length<|dR bs)=kz then A' else ab ([]:bc Int))=[]:=by
   rw[List.filterMap_eq_nil_iff];intro c hc;rw[Fc<|h' c hc]
  rw[e];rfl
 |false=>
  have h':=Ju.mp h;obtain⟨c,hc,hn⟩:=h';have e:(cs.filterMap λc=>if c.any (dQ bs.length<|dR bs)=kz then A' else ab ([]:bc Int)).contains []=true:=by
   rw[E5];exact HB.mpr ⟨c,hc,E7 hn⟩
  rw[Fc e]
theorem mP(hr:Rng 0 t.length cs):∀f bs,bs.length+f=t.length->ci t f bs.length (mN bs cs)=bS t cs f bs.length (dR bs)
 |0,bs,h=>by
  have e:bs.length=t.length:=by lia
  rw[vR (by rw[e];exact hr),e];rfl
 |f+1,bs,h=>by
  have hp:∀c∈cs,∀l∈c,1<=ao l:=λc hc l hl=>by
   have:=hr c hc l hl;lia
  have r0:=mP hr f (bs++[B']) (by rw[C',FL];lia);have r1:=mP hr f (bs++[kz]) (by rw[C',FL];lia);rw[n5 hp,eS,C',FL]at r0 r1;rw[E7 i',Pq]at r0;rw[Fc rfl]at r1;rw[yP,r0,r1];rfl
def cO(size num:Nat):bc ER:=(Fy size).map λj=>decide (num / 2 ^ (size - 1 - j) % 2=1)
theorem fo(size num:Nat):(cO size num).length=size:=by
 unfold cO;rw[ka,Gr]
theorem og(size num:Nat):cO (size+1) num=cO size (num / 2)++[decide (num % 2=1)]:=by
 unfold cO;rw[GJ,Fh]
 congr 1
 ·refine Ht λj hj=>?_;have hj':=FZ.mp hj;have e:size+1 - 1 - j=(size - 1 - j)+1:=by lia
  rw[e,ID,Po (2 ^ _) 2,<-Lb]
 ·show [decide (num / 2 ^ (size+1 - 1 - size) % 2=1)]=_
  have e:size+1 - 1 - size=0:=by lia
  rw[e,MQ,Qd]
theorem lz:∀size num,num < 2 ^ size->dR (cO size num)=num
 |0,num,h=>by
  have:num=0:=by
   rw[MQ]at h;lia
  subst this;rfl
 |size+1,num,h=>by
  rw[og,eS,lz size (num / 2)<|by rw[ID]at h;lia];by_cases e:num % 2=1
  ·rw[E2 e,Fc rfl];lia
  ·rw[E_ e,E7 i'];lia
theorem oh(k:Nat):((2:Int) ^ k)=((2 ^ k:Nat):Int):=by
 induction k with
 |zero=>rfl
 |succ k ih=>rw[Int.pow_succ,ih,ID,Int.natCast_mul];rfl
theorem rD(n:Nat):(1:Int)*2 ^ ((n:Int)).toNat=((2 ^ n:Nat):Int):=by
 rw[Qg,Jv,oh]
theorem yQ(num k:Nat):Hn ((num:Int) / 2 ^ k) 1=((num / 2 ^ k % 2:Nat):Int):=by
 have e0:Hn ((num:Int) / 2 ^ k) 1=(num:Int) / 2 ^ k % 2:=K_ _;rw[e0,oh];lia
theorem oj(num k:Nat):decide (V.int (Hn ((num:Int) / 2 ^ k) 1)=V.int 1)=decide (num / 2 ^ k % 2=1):=by
 rw[yQ];refine Iz.mpr ⟨λh=>?_,λh=>?_⟩
 ·have h1:=V.int.inj h;lia
 ·rw[h];rfl
theorem yR{n:Nat}{num:Nat}{z:Int}(h2:ao z<=(n:Int))(h1:1<=ao z):decide (V.bl (decide (V.int (Hn ((num:Int) / 2 ^ ((n:Int) - ao z).toNat) 1)=V.int 1))=V.bl (decide (0 < z)))=dQ n num z:=by
 rw[ff,oj];unfold dQ;have e:((n:Int) - ao z).toNat=n - (ao z).toNat:=by lia
 rw[e]
def qq(t:Str)(cs:bc (bc Int))(i:Nat):bc V:=(Fy (2 ^ i)).map λm=>V.bl<|bS t cs (t.length - i) i m
theorem qr{t:Str}{cs:bc (bc Int)}{i m:Nat}(h:m < 2 ^ i){j:Int}(hj:j=(m:Int)):kL (qq t cs i) j=ab (.bl<|bS t cs (t.length - i) i m):=by
 subst hj;refine bf ?_;unfold qq;rw[Fk,L8 h];rfl
theorem vS(h:k < t.length)(m:Nat):bS t cs (t.length - k) k m=if bP t k=kz then bS t cs (t.length - (k+1)) (k+1) (2*m) || bS t cs (t.length - (k+1)) (k+1) (2*m+1)else bS t cs (t.length - (k+1)) (k+1) (2*m)&&bS t cs (t.length - (k+1)) (k+1) (2*m+1):=by
 have e:t.length - k=(t.length - (k+1))+1:=by lia
 rw[e];rfl
def LV(H:Hp)(p:f')(t:Str)(cs:bc (bc Int))(lo:Nat)(xs:bc V):Prop:=∀d:Nat,d < xs.length->∃a,xs[d]? =ab (.ref a)/\a≠p/\H a=ab (.lst<|qq t cs<|lo+d)
theorem LV.keep{lo:Nat}(h:LV H p t cs lo xs)(k:∀b o,H b=ab o->b≠p->H' b=ab o):LV H' p t cs lo xs:=λd hd=>by
 obtain⟨a,h1,h2,h3⟩:=h d hd;exact⟨a,h1,h2,k a _ h3 h2⟩
theorem LV.cons{lo:Nat}(h:LV H p t cs lo xs)(ha:a≠p)(hr:H a=ab (.lst<|qq t cs UU))(e:UU+1=lo):LV H p t cs UU (.ref a::xs):=λd hd=>by
 cases d with
 |zero=>exact⟨a,rfl,ha,hr⟩
 |succ d=>
  obtain⟨b,h1,h2,h3⟩:=h d (by simpa using hd);have e1:UU+(d+1)=lo+d:=by lia
  exact⟨b,by simpa using h1,h2,by rw[e1];exact h3⟩
theorem LV.at(h:LV H p t cs 0 xs)(hd:d < xs.length)(hj:j=(d:Int)):∃a,kL xs j=ab (.ref a)/\H a=ab (.lst<|qq t cs d):=by
 obtain⟨a,h1,_,h3⟩:=h d hd;rw[Jn]at h3;subst hj;exact⟨a,bf h1,h3⟩
theorem SOk.small(h:SOk m t cs)(h2:t.length<=900):Small cs:=⟨FM h.many (by decide),λc hc=>by
 have:=(h.cl c hc).len (by lia);lia⟩
def d_(t:Str)(cs:bc (bc Int))(bs:bc ER):bc ER:=[B',kz].filter λb=>decide (ci t (t.length - (bs.length+1)) (bs.length+1) (mN (bs++[b]) cs)=bP t bs.length)
section
variable {K:gV}
theorem t7(IS:St)(p:V->ER)(f:V->V)(e0:σ0=A'::IS)(ha:H1 a=ab (.tup xs))(hD:H1 D=A')(G':xs.length<=9000)
  (ht:∀x∈xs,∀H' R,Same H1 H'->(∀NK,Same H' NK->R (p x) NK)->tt (ab x::IS) H' R)
  (he:∀x∈xs,p x=kz->∀H' R,Same H1 H'->(∀NK,Same H' NK->R (f x) NK)->te (ab x::IS) H' R)
  (hq:∀H2,Same H1 H2->H2 D=ab (.lst<|(xs.filter p).map f)->Q (.ref D) H2):gD (zO K a) D (jk 0) tt te σ0 H1 Q:=by
 refine jP (K:=K) (a:=a) (xs:=xs) (λi σ ys H2=>(∃v0,σ=v0::IS)/\ys=((xs.take i).filter p).map f/\H2 D=ab (.lst ys)/\Same H1 H2) ⟨⟨A',e0⟩,rfl,ad,ag hD _⟩ ?_ ?_ ?_
 ·rintro i σ ys H2 _ ⟨_,_,h,k⟩;exact⟨h,SqT.of<|k _ _ ha⟩
 ·rintro i x σ ys H2 hx ⟨⟨v0,rfl⟩,Lg,hd,k⟩;have hm:=Fd hx;have e:xs.take (i+1)=xs.take i++[x]:=by rw[FD,hx];rfl
  refine ht x hm _ _ k λH3 k3=>?_;cases hp:p x with
  |true=>
   refine aL<|he x hm hp _ _ (k.trans k3) λH4 k4=>⟨k4 _ _<|k3 _ _ hd,?_,⟨_,rfl⟩,?_,ad,(k.trans<|k3.trans k4).upd_new hD _⟩
   ·have:ys.length<=xs.length:=by
     rw[Lg,ka];exact FM (FH _ _) (by rw[FO];lia)
    exact jL (by lia)
   ·rw[e,Gc,Fh,<-Lg];simp [hp]
  |false=>
   refine aG ⟨⟨_,rfl⟩,?_,k3 _ _ hd,k.trans k3⟩;rw[e,Gc,Fh,<-Lg];simp [hp]
 ·rintro σ ys H2 ⟨_,Lg,hd,k⟩;rw[E3<|lb _]at Lg;rw[Lg]at hd;exact hq H2 k hd
end
theorem fT(h:Q (σ.set i<|ab v) H):jk i v σ H Q:=h
theorem om(hr:Rng 0 t.length cs)(hs:size < t.length)(hn:num < 2 ^ size):d_ t cs (cO size num)=[B',kz].filter λc=>bS t cs (t.length - (size+1)) (size+1) (2*num+(if c=kz then 1 else 0)) == bP t size:=by
 unfold d_;rw[fo];refine Jq λc _=>?_;have z:=mP hr (t.length - (size+1)) (cO size num++[c]) (by rw[C',fo,FL];lia);rw[eS,lz size num hn,C',fo,FL]at z;rw[z];generalize bS t cs (t.length - (size+1)) (size+1) (2*num+(if c=kz then 1 else 0))=x;generalize bP t size=y;cases x<;>cases y<;>rfl
def cj(bs:bc ER)(v:Int)(p:ER):V:=if((bs.length:Nat):Int) < v then .non else match bs[(v - 1).toNat]? with
 |some b=>.bl<|b == p
 |none=>.non
theorem qt(h:((bs.length:Nat):Int) < v):cj bs v p=.non:=by
 unfold cj;rw[Fc h]
theorem fU(h1:1<=v)(h2:v<=((bs.length:Nat):Int)):∃b,kL (bs.map V.bl) (v - 1)=ab (.bl b)/\cj bs v p=.bl (b == p):=by
 obtain⟨w,h3,h4⟩:=qj (xs:=bs.map V.bl) (i:=v - 1) (by lia) (by rw[ka];lia);obtain⟨b,rfl,hb⟩:=yM h3;exists b,h4;unfold cj;rw[E7 (by lia),hb]
theorem oo(bs:bc ER)(v:Int)(p:ER):cj bs v p=.non\/∃b,cj bs v p=.bl b:=by
 unfold cj
 split
 ·exact .inl rfl
 ·split
  ·exact .inr ⟨_,rfl⟩
  ·exact .inl rfl
theorem lA(h:1<=ao l):(cj bs (ao l) (decide (0 < l))=.non/\cu bs l=B')\/cj bs (ao l) (decide (0 < l))=.bl (cu bs l):=by
 unfold cj cu;by_cases g:((bs.length:Nat):Int) < ao l
 ·rw[Fc g,Hd<|by lia];exact .inl ⟨rfl,rfl⟩
 ·rw[E7 g];cases e:bs[(ao l - 1).toNat]? with
  |none=>exact .inl ⟨rfl,rfl⟩
  |some b=>exact .inr rfl
theorem oq(c:bc Int)(bs:bc ER):((c.map<|(B9 λl=>cj bs (ao l) (decide (0 < l)))∘V.int).all tR)=true:=by
 rw[Jt];refine Gq.mpr λl _=>?_;show tR (cj bs (ao l) (decide (0 < l)))=kz
 obtain e|⟨b,e⟩:=oo bs (ao l) (decide (0 < l))
 ·rw[e];rfl
 ·rw[e];rfl
theorem qu(c:bc Int)(bs:bc ER)(h:∀l∈c,1<=ao l):(c.map<|(B9 λl=>cj bs (ao l) (decide (0 < l)))∘V.int).any gr=c.any (cu bs):=by
 rw[Js];refine c_ λl hl=>?_;show gr (cj bs (ao l) (decide (0 < l)))=cu bs l
 obtain⟨e,e2⟩|e:=lA (bs:=bs) (h l hl)
 ·rw[e,e2];rfl
 ·rw[e];cases cu bs l<;>rfl
theorem t9(hv:1<=v)(hs:s=1\/s=-1):ao (v*s)=v/\decide (0 < v*s)=decide (0 < s):=by
 obtain rfl|rfl:=hs
 ·rw[Nn];exact⟨cL (by lia),by rw[E2 (by lia:0 < v)];rfl⟩
 ·have e:v*-1=-v:=by lia
  rw[e];refine⟨?_,by rw[E_ (by lia:¬0 < -v)];rfl⟩;have:=gL (-v);lia
theorem em{α β:Type}{F:α->β->Prop}:∀{xs:bc α} {us:bc β} (n:Nat),Paired F xs us->Paired F (xs.take n) (us.take n)
 |_,_,0,_=>.nil
 |_,_,_+1,.nil=>.nil
 |_,_,n+1,.cons h t=>.cons h<|em n t
theorem eA{α β:Type}{F:α->β->Prop}:∀{xs:bc α} {us:bc β} (n:Nat),Paired F xs us->Paired F (xs.drop n) (us.drop n)
 |_,_,0,h=>h
 |_,_,_+1,.nil=>.nil
 |_,_,n+1,.cons _ t=>eA n t
theorem dH{α β:Type}{F:α->β->Prop}:∀{xs ys:bc α} {us ws:bc β},Paired F xs us->Paired F ys ws->Paired F (xs++ys) (us++ws)
 |_,_,_,_,.nil,h=>h
 |_,_,_,_,.cons h t,g=>.cons h<|dH t g
theorem qw(xs:bc V)(k:Nat):dq xs A' (ab (k:Int))=xs.take k:=by
 unfold dq;rw[HT.sIx_nat];show(xs.drop 0).take (min k xs.length - 0)=_
 rw[List.drop_zero,Nat.sub_zero];by_cases h:k<=xs.length
 ·rw[Nw h]
 ·rw[Nc (by lia),E3<|lb _,E3<|by lia]
theorem j8(xs:bc V)(k:Nat):dq xs (ab (k:Int)) A'=xs.drop k:=by
 unfold dq;rw[HT.sIx_nat];show(xs.drop<|min k xs.length).take (xs.length - min k xs.length)=_
 by_cases h:k<=xs.length
 ·rw[Nw h,E3<|by rw[Hi];lia]
 ·rw[Nc (by lia),Jr<|lb _,Jr (by lia),List.take_nil]
theorem CZ(b:ER):decide (V.str (aN b)=V.str (ET "wisher"))=b:=by
 have z:=dl b kz;have z2:aN kz=ET "wisher":=rfl;rw[z2]at z;rw[z];cases b<;>rfl
theorem mQ(h:∀z,d≠.int z):(mK d&&!mL d)=false:=by
 cases d with
 |int z=>exact absurd rfl<|h z
 |_=>rfl
theorem qx(d:Fq):(∃z,d=.int z)\/∀z,d≠.int z:=by
 cases d with
 |int z=>exact .inl ⟨z,rfl⟩
 |_=>exact .inr (λz h=>by cases h)
theorem bF(h:RD H (.int z) v):v=.int z:=by
 unfold RD at h;exact h
theorem j9(h:RD H (.str z) v):v=.str z:=by
 unfold RD at h;exact h
def Nice(n:Nat)(d:Fq):Prop:=d.canLay0=kz/\d.depth<=n
theorem fM(n:Nat)(h:PyData.strOk x=kz):Nice n (.str x):=⟨h,FF _⟩
theorem Nice.shaped(h:Nice 8 d):Gk d=true:=lx h.1 (FM h.2<|by decide)
end OD
namespace L2
open PySem PySem.Spec PyProof.Rows
structure Zp (z TI TO i1 i2:f'):Prop where
 a1:TI≠z
 a2:TO≠z
 a3:i1≠z
 a4:i2≠z
 a5:TI≠TO
 a6:TI≠i1
 a7:TI≠i2
 a8:TO≠i1
 a9:TO≠i2
 b1:i1≠i2
def B_(K:gV)(a b:f'):It:=
 ⟨λi H=>∃xs ys x y,SqL K H a xs/\SqL K H b ys/\xs[i]? =ab x/\ys[i]? =ab y,
  λi H x H'=>∃t u v,H t=A'/\x=.ref t/\H'=upd H t (.tup [u,v])/\(∀xs,SqL K H a xs->xs[i]? =ab u)/\(∀ys,SqL K H b ys->ys[i]? =ab v),
  λi H=>∃xs ys,SqL K H a xs/\SqL K H b ys/\(xs.length<=i\/ys.length<=i)⟩
theorem ou{TI TO:f'}(D:Zp z TI TO i1 i2)(hz:IsZip h z TI TO f0)(hTO:IsPair h TO ta tb)(h1:h.IsListIter i1 l1 k1)(h2:h.IsListIter i2 l2 k2)(Rr:h.IsList l1 xs)(NG:h.IsList l2 ys):ZipApart z TI TO i1 i2 l1 l2:=by
 have ne:∀{c l:f'} {o:Obj} {ws:HK j'},h.get? c=ab o->o.cls≠.type "list"->h.IsList l ws->l≠c:=λhc hn ⟨o',e1,e2,_⟩ z=>by
  subst z;rw[hc]at e1;exact hn (by rw[Fe e1];exact e2)
 obtain⟨o1,c1,c2,_⟩:=h1;obtain⟨o2,d1,d2,_⟩:=h2;exact⟨D.a1,D.a2,D.a3,D.a4,D.a5,D.a6,D.a7,D.a8,D.a9,D.b1,ne hz (by simp) Rr,ne hTO (by simp) Rr,ne c1 (by rw[c2];decide) Rr,ne d1 (by rw[d2];decide) Rr,ne hz (by simp) NG,ne hTO (by simp) NG,ne c1 (by rw[c2];decide) NG,ne d1 (by rw[d2];decide) NG⟩
theorem vT{P:E9}{w:Ft}{K:gV}{es:bc F'}{k1:Nat}{pos:Pos}(a b z TI TO i1 i2:f')(D:Zp z TI TO i1 i2):
  nM P w K (.Tuple es k1 pos) (B_ K a b) [z,TI,TO,i1,i2] z (λi h=>IsZip h z TI TO .none/\IsPair h TI (.ref i1) (.ref i2)/\(∃c d,IsPair h TO c d)/\h.IsListIter i1 a i/\h.IsListIter i2 b i) where
 mem:=by simp
 obj:=λi h st c hc=>by
  obtain⟨h1,h2,⟨p,q,h3⟩,⟨o4,h4,_,e4⟩,⟨o5,h5,_,e5⟩⟩:=st;simp only [Fl,Hy,KL]at hc;obtain rfl|rfl|rfl|rfl|rfl:=hc
  ·exact⟨_,h1,λv y=>by cases y⟩
  ·exact⟨_,h2,λv y=>by cases y⟩
  ·exact⟨_,h3,λv y=>by cases y⟩
  ·exact⟨o4,h4,λv y=>by rw[e4]at y;cases y⟩
  ·exact⟨o5,h5,λv y=>by rw[e5]at y;cases y⟩
 keep:=λi h h' st k=>by
  obtain⟨h1,h2,⟨p,q,h3⟩,h4,h5⟩:=st;exact⟨k z (by simp) _ h1,k TI (by simp) _ h2,⟨p,q,k TO (by simp) _ h3⟩,h4.at λo e=>k i1 (by simp) o e,h5.at λo e=>k i2 (by simp) o e⟩
 item:=by
  intro X hP hw hK hc i kS s σ H E I hf st hg;subst hP hw hK;obtain⟨xs,ys,x,y,RH,RQ,hx,hy⟩:=hg;obtain⟨TR,UM,p1,_⟩:=I.list RH;obtain⟨Ol,UL,p2,_⟩:=I.list RQ;obtain⟨u1,N',Wj⟩:=UM.get hx;obtain⟨u2,hu2,Wi⟩:=UL.get hy;obtain⟨h1,h2,⟨p,q,h3⟩,h4,h5⟩:=st;have DA:=ou D h1 h3 h4 h5 p1.isList p2.isList;refine wpAny_pyNext_zip_item DA h1 h2 h3 h4 h5 p1.isList p2.isList (x:=u1) (y:=u2) (by simpa using N') (by simpa using hu2) λh' g1 g2 g3 g4 g5 g6 hk=>?_;refine⟨_,rfl,wpAny_letOwnedTupleGo_zip g1 λOX Q0 Om=>?_⟩;have TU:z < s.heap.objs.size:=E4 h1;have Zc:TO < s.heap.objs.size:=E4 h3;have hIl:TI < s.heap.objs.size:=E4 h2;have h1l:i1 < s.heap.objs.size:=by
   obtain⟨o,e,_⟩:=h4;exact E4 e
  have h2l:i2 < s.heap.objs.size:=by
   obtain⟨o,e,_⟩:=h5;exact E4 e
  have kk:∀c o,c≠z->c≠TO->c≠i1->c≠i2->s.heap.get? c=ab o->OX.get? c=ab o:=λc o n1 n2 n3 n4 e=>Om.extBut c o n1<|hk c o n1 n2 n3 n4 e;have kc:∀c o,c∉[z,TO,i1,i2]->s.heap.get? c=ab o->OX.get? c=ab o:=λc o hn e=>kk c o (λy=>hn<|by simp [y]) (λy=>hn<|by simp [y]) (λy=>hn<|by simp [y]) (λy=>hn<|by simp [y]) e;have hn:H s.heap.objs.size=none:=I.hok.fresh<|lb _;have SB:IsPair OX s.heap.objs.size u1 u2:=Om.extBut _ _ (IE TU) g5;have nt:∀c o,H c=ab o->c∉[z,TO,i1,i2]:=λc o e hm=>by
   have:c∈[z,TI,TO,i1,i2]:=by
    simp only [Fl,Hy,KL]at hm ⊢;obtain y|y|y|y:=hm<;>simp [y]
   rw[(hf c this).1]at e;cases e
  have I1:Inv X kS σ (upd H s.heap.objs.size<|.tup [x,y]) {s with heap:=OX,toks:=s.toks}:=by
   refine I.step (g':=s.gens) (d':=s.drawn) (t':=s.toks) (ch:=[z,TO,i1,i2]) (λc Mz=>?_) (λc o _ _ Mz e _=>kc c o Mz e) (λc o _ _ Mz e _=>⟨o.slots,kc c o Mz e⟩) (λc o _ e n=>?_) (λc o Mz e=>⟨o,kc c o Mz e⟩) (λc ws e=>?_) (λc ob ws e=>?_) (λc ps e=>⟨#[],?_⟩) (λm hm=>?_) (λc ob e=>?_) I.bare
   ·have Si:c∈[z,TI,TO,i1,i2]:=by
     simp only [Fl,Hy,KL]at Mz ⊢;obtain y|y|y|y:=Mz<;>simp [y]
    obtain⟨f0,f1,f2,f3,f4,f5⟩:=hf c Si;exact⟨f3,f1,f4,f5⟩
   ·rw[al<|Fi<|E4 e];exact n
   ·rw[al<|ak e hn];exact e
   ·rw[al<|ak e hn];exact e
   ·rw[al<|ak e hn,e];simp
   ·obtain⟨o,R3,ep,ho,r⟩:=hm;have nl:∀c,c∈[z,TI,TO,i1,i2]->c≠X.env.locals:=λc Si=>(hf c Si).2.1;exact⟨o,R3,ep,kk _ o (nl z<|by simp).symm (nl TO<|by simp).symm (nl i1<|by simp).symm (nl i2<|by simp).symm ho,r⟩
   ·by_cases hb:c=s.heap.objs.size
    ·subst hb;rw[ad]at e;cases e;exact⟨by show 2<=sizeLine;decide,[u1,u2],.cons Wj<|.cons Wi .nil,⟨_,SB,rfl,_,rfl⟩⟩
    ·rw[al hb]at e;refine(I.hok c ob e).stay (λd v hd y=>?_) (λd y=>by rw[al<|ak y hn];exact y) λd ws y=>by rw[al<|ak y hn];exact y
     obtain hd|hd:=hd
     ·subst hd;exact kc _ v (nt _ _ e) y
     ·exact kc _ v (nt _ _ hd) y
  refine⟨.ref s.heap.objs.size,_,I1,rfl,⟨s.heap.objs.size,x,y,hn,rfl,rfl,λws hw=>by rw[I.list_inj hw RH];exact hx,λws hw=>by rw[I.list_inj hw RQ];exact hy⟩,⟨Q0,Om.extBut _ _ D.a1<|hk _ _ D.a1 D.a5 D.a6 D.a7 h2,⟨_,_,Om.extBut _ _ D.a2 g2⟩,g3.at λo e=>Om.extBut i1 o D.a3 e,g4.at λo e=>Om.extBut i2 o D.a4 e⟩,λc Mz=>?_⟩;have IL:c < s.heap.objs.size:=by
   simp only [Fl,Hy,KL]at Mz;obtain rfl|rfl|rfl|rfl|rfl:=Mz
   ·exact TU
   ·exact hIl
   ·exact Zc
   ·exact h1l
   ·exact h2l
  rw[al<|Fi IL];exact(hf c Mz).1
 done:=by
  intro X hP hw hK hc i kS s σ H E I hf st hg;subst hP hw hK;obtain⟨xs,ys,RH,RQ,hx⟩:=hg;obtain⟨TR,UM,p1,_⟩:=I.list RH;obtain⟨Ol,UL,p2,_⟩:=I.list RQ;obtain⟨h1,h2,⟨p,q,h3⟩,h4,h5⟩:=st;have DA:=ou D h1 h3 h4 h5 p1.isList p2.isList;have l1:=UM.length;have l2:=UL.length;refine wpAny_pyNext_zip_end (I.ok.hd hc) DA h1 h2 h3 h4 h5 p1.isList p2.isList ?_ λh' hk=>⟨rfl,?_⟩
  ·obtain hx|hx:=hx
   ·exact .inl (by simp;lia)
   ·exact .inr (by simp;lia)
  have kc:∀c o,c∉[z,TO,i1,i2]->s.heap.get? c=ab o->h'.get? c=ab o:=λc o hn e=>hk c o (λy=>hn<|by simp [y]) (λy=>hn<|by simp [y]) (λy=>hn<|by simp [y]) (λy=>hn<|by simp [y]) e;have nt:∀c o,H c=ab o->c∉[z,TO,i1,i2]:=λc o e hm=>by
   have:c∈[z,TI,TO,i1,i2]:=by
    simp only [Fl,Hy,KL]at hm ⊢;obtain y|y|y|y:=hm<;>simp [y]
   rw[(hf c this).1]at e;cases e
  refine I.step (g':=s.gens) (d':=s.drawn) (t':=s.toks) (ch:=[z,TO,i1,i2]) (λc Mz=>?_) (λc o _ _ Mz e _=>kc c o Mz e) (λc o _ _ Mz e _=>⟨o.slots,kc c o Mz e⟩) (λc o _ e n=>n) (λc o Mz e=>⟨o,kc c o Mz e⟩) (λc ws e=>e) (λc ob ws e=>e) (λc ps e=>⟨#[],by rw[e];simp⟩) (λm hm=>?_) (λc ob e=>?_) I.bare
  ·have Si:c∈[z,TI,TO,i1,i2]:=by
    simp only [Fl,Hy,KL]at Mz ⊢;obtain y|y|y|y:=Mz<;>simp [y]
   obtain⟨f0,f1,f2,f3,f4,f5⟩:=hf c Si;exact⟨f3,f1,f4,f5⟩
  ·obtain⟨o,R3,ep,ho,r⟩:=hm;have nl:∀c,c∈[z,TI,TO,i1,i2]->c≠X.env.locals:=λc Si=>(hf c Si).2.1;exact⟨o,R3,ep,hk _ o (nl z<|by simp).symm (nl TO<|by simp).symm (nl i1<|by simp).symm (nl i2<|by simp).symm ho,r⟩
  ·refine(I.hok c ob e).stay (λd v hd y=>?_) (λd y=>y) λd ws y=>y;obtain hd|hd:=hd
   ·subst hd;exact kc _ v (nt _ _ e) y
   ·exact kc _ v (nt _ _ hd) y
 self:=λ_ _ _ _ _ st h=>M0 st.1 h
def C0(f:V->V->Hp->Prop):bc V->Hp->Prop
 |[x,y],H=>f x y H
 |_,_=>False
theorem vU:∀{vs:bc V} {H:Hp},C0 f vs H->∃x y,vs=[x,y]/\f x y H
 |[x,y],_,h=>⟨x,y,rfl,h⟩
def Eg(K:gV)(t1 t2:TE):TI:=λσ H R=>t1 σ H λx H1=>t2 σ H1 λy H2=>∃a b,x=.ref a/\y=.ref b/\(∃xs,SqL K H2 a xs)/\(∃ys,SqL K H2 b ys)/\R (B_ K a b) H2
theorem vV{es:bc F'}{k1:Nat}{Rk:Pos}{p pos:Pos}(hg:Gl X "zip")(hm:X.mg "zip"=A')(hl:PE X l tl)(hr:PE X m tm)(hs:Fu [l,m] X.env=[(B',G0 l X.env),(B',G0 m X.env)]:=by rfl)(Qx:Fu [m] X.env=[(B',G0 m X.env)]:=by rfl):
  PI X (.Tuple es k1 Rk) (.Call (.Name "zip" p) [l,m] [] pos) (Eg X.K tl tm):=by
 intro kS s σ H R I h;have ha:=aa hl (aa hr (ae (X:=X))<|by rw[Qx];rfl) (by rw[hs,Qx]);refine Call_ (cW I hg hm boot_zip<|Gi (bp (ha pos kS s σ H (C0 λx y H1=>∃a b,x=.ref a/\y=.ref b/\(∃xs,SqL X.K H1 a xs)/\(∃ys,SqL X.K H1 b ys)/\R (B_ X.K a b) H1) I h) λus s1 ⟨vs,H1,I1,r1,q1⟩=>?_) (by rw[hs,Qx])<|by rw[Qx];rfl);obtain⟨x,y,e,a,b,ex,ey,⟨xs,RH⟩,⟨ys,RQ⟩,q⟩:=vU q1;subst e ex ey;obtain⟨u1,u2,rfl,Wj,Wi⟩:=va r1;cases Wj;cases Wi;obtain⟨TR,UM,pl1,_⟩:=I1.list RH;obtain⟨Ol,UL,pl2,_⟩:=I1.list RQ;refine call_zip_2 pl1.isList pl2.isList λh' g1 g2 g3 g4 g5 g6 hk=>?_;refine M0 g1 ?_;have I2:Inv X kS σ H1 {s1 with heap:=h'}:=I1.kept (t':=s1.toks) hk;have fp:∀n,kN X kS H1 (s1.heap.objs.size+n):=λn=>I1.fpOk (Nd _ _)<|I1.hok.fresh<|Nd _ _;have nn:∀i j,i≠j->s1.heap.objs.size+i≠s1.heap.objs.size+j:=λi j hij e=>hij<|Nat.add_left_cancel e;have D:Zp (s1.heap.objs.size+4) (s1.heap.objs.size+2) (s1.heap.objs.size+3) (s1.heap.objs.size+0) (s1.heap.objs.size+1):=⟨nn _ _ (by decide),nn _ _ (by decide),nn _ _ (by decide),nn _ _ (by decide),nn _ _ (by decide),nn _ _ (by decide),nn _ _ (by decide),nn _ _ (by decide),nn _ _ (by decide),nn _ _<|by decide⟩;refine⟨s1.heap.objs.size+4,_,_,_,H1,rfl,I2,vT a b _ _ _ _ _ D,⟨g1,g2,⟨_,_,g3⟩,g4,g5⟩,λc Mz=>?_,q⟩;simp only [Fl,Hy,KL]at Mz;obtain rfl|rfl|rfl|rfl|rfl:=Mz
 ·exact fp 4
 ·exact fp 2
 ·exact fp 3
 ·exact fp 0
 ·exact fp 1
end L2
namespace OD
open PySem L2
def bo(t:Str)(hw:ER):bc Int:=((Fy t.length).filter λi=>bP t i == hw).map λ(i:Nat)=>(i:Int)+1
end OD
namespace L2
open PySem PySem.Spec PyProof.Rows
theorem j_{K:gV}(e:X.K=K):dB X (.type "tuple") (λxs H Q=>∃p ys,xs=[.ref p]/\((SqL K H p ys/\∀l,H l=A'->Q (.ref l) (upd H l<|.tup ys))\/(SqT K H p ys/\Q (.ref p) H))):=by
 subst e;exact bW
end L2
namespace L2
open PySem
@[irreducible] def PEi (X:Cx) (e:F') (t:TE):Prop:=PE X e t
@[irreducible] def PAi (X:Cx) (es:bc F') (t:TA):Prop:=PA X es t
end L2
namespace KX
open PySem PyProof.Rows
theorem t_(a v:j'):argsOk "max" ⟨[a],[(ET "default",v)]⟩:=by unfold argsOk;kernel_rfl
section
variable {St:Nat->FU->Prop}
theorem C1(W:Walks prog w A.in1 I fp wr n P St)(bt:Nat->Nat->ER)(Ru:CmpOf prog w A.in1 .Gt P bt)(S:f')(Qz:S∉fp):
  ∀k j s vb c,n - (j+1)=k->j+1<=n->St (j+1) s.heap->P (Hb bt j) vb->
  s.heap.get? S=ab {cls:=.type "list",dict:=A',data:=.seq #[vb,vb] c,slots:=#[]}->
  (∀v h' tk,P (Hb bt<|n - 1) v->(∀b o,b∉wr->b≠S->s.heap.get? b=ab o->h'.get? b=ab o)->R (.ok<|.ret v) {s with heap:=h',toks:=tk})->
  codeAny (FE prog w) A (.builtin "max.loop" ⟨[.ref I,.none,.ref S],kw⟩) R s:=by
 have R0:S∉wr:=λh=>Qz<|W.sub _ h;have KH:(toString "max"++toString ".loop":HP)="max.loop":=by decide
 intro k
 induction k with
 |zero=>
  intro j s vb c hk hj OV hPb hS hR;have QY:j+1=n:=by lia
  refine Hq KP ?_;rw[GH Hw _];show wpAny _ A.in1 (KN (.ref S) >>=_) _ _ s
  refine EW<|HQ hS rfl ?_;show wpAny _ A.in1 (tryCatch (KC<|.ref I) _ >>=_) _ _ s
  refine EW<|GF<|W.done s _ _ (QY▸OV) λh' tk L'=>?_;have PP:=L' S _ R0 hS;show wpAny _ A.in1 (M3 S (λ_=>#[]) >>=_) _ _ _
  refine EW ?_;refine H_ PP rfl<|EW<|Ip<|Fm ?_;refine hR vb _ tk (by rw[<-QY];exact hPb) λb o hbw hbS e=>(FT _ _<|GP hbS).trans<|L' b o hbw e
 |succ k ih=>
  intro j s vb c hk hj OV hPb hS hR;have IL:j+1 < n:=by lia
  refine Hq KP ?_;rw[GH Hw _];show wpAny _ A.in1 (KN (.ref S) >>=_) _ _ s
  refine EW<|HQ hS rfl ?_;show wpAny _ A.in1 (tryCatch (KC<|.ref I) _ >>=_) _ _ s
  refine EW<|GF<|W.item (j+1) s _ _ IL OV λv h' tk hP hst' L'=>?_;have PP:=L' S _ R0 hS;show wpAny _ A.in1 (tryCatch (K1 [v,v]<|richCompare .Gt v vb >>=_) _ >>=_) _ _ _
  refine EW<|GF<|Hj<|EW<|Ru (j+1) (Hb bt j) v vb _ _ _ hP hPb ?_;refine EW<|Hj<|Gj ?_;refine EW<|Ip<|Fm ?_;cases hb:bt (j+1) (Hb bt j)with
  |true=>
   simp only [J5];refine EW ?_;refine H_ PP rfl<|EW<|Ip ?_;rw[KH];refine Fm ⟨Hk Hw _,ih (j+1) _ v _ (by lia) IL (W.frame _ _ _ hst' λb hbf o e=>?_) (by simp only [Hb,hb,J5];exact hP) (HE _ PP rfl)
    λv' OX tk'' hP' NI=>?_⟩
   ·exact(FT _ _ λh:S=b=>Qz<|by rw[h];exact hbf).trans e
   ·exact hR v' OX tk'' hP' λb o hbw hbS e=>NI b o hbw hbS<|(FT _ _<|GP hbS).trans<|L' b o hbw e
  |false=>
   simp only [IX,Lz];refine EW<|Ip ?_;rw[KH];refine Fm ⟨Hk Hw _,ih (j+1) _ vb c (by lia) IL hst' (by simp only [Hb,hb,IX,Lz];exact hPb) PP λv' OX tk'' hP' NI=>?_⟩;exact hR v' OX tk'' hP' λb o hbw hbS e=>NI b o hbw hbS<|L' b o hbw e
theorem Bz(W:Walks prog w A.in1 I fp wr n P St)(bt:Nat->Nat->ER)(Ru:CmpOf prog w A.in1 .Gt P bt)(S:f')(Qz:S∉fp){d:j'}{ky:Str}{c:Nat}(OV:St 0 s.heap)
  (hS:s.heap.get? S=ab {cls:=.type "list",dict:=A',data:=.seq #[] c,slots:=#[]})
  (hR:0 < n->∀v h' tk,P (Hb bt<|n - 1) v->(∀b o,b∉wr->b≠S->s.heap.get? b=ab o->h'.get? b=ab o)->R (.ok<|.ret v) {s with heap:=h',toks:=tk})
  (h0:n=0->∀h' tk,(∀b o,b∉wr->b≠S->s.heap.get? b=ab o->h'.get? b=ab o)->R (.ok<|.ret d) {s with heap:=h',toks:=tk}):
  codeAny (FE prog w) A (.builtin "max.loop" ⟨[.ref I,.none,.ref S],[(ky,d)]⟩) R s:=by
 have R0:S∉wr:=λh=>Qz<|W.sub _ h;have KH:(toString "max"++toString ".loop":HP)="max.loop":=by decide
 refine Hq KP ?_;rw[GH Hw _];show wpAny _ A.in1 (KN (.ref S) >>=_) _ _ s
 refine EW<|HQ hS rfl ?_;show wpAny _ A.in1 (tryCatch (KC<|.ref I) _ >>=_) _ _ s
 by_cases hn:0 < n
 ·refine EW<|GF<|W.item 0 s _ _ hn OV λv h' tk hP hst' L'=>?_;have PP:=L' S _ R0 hS;show wpAny _ A.in1 (M3 S (λ_=>#[v,v]) >>=_) _ _ _
  refine EW ?_;refine H_ PP rfl ?_;rw[KH];refine Fm ⟨Hk Hw _,C1 W bt Ru S Qz _ 0 _ v _ rfl hn (W.frame _ _ _ hst' λb hbf o e=>?_) hP (HE _ PP rfl) λv' OX tk'' hP' NI=>?_⟩
  ·exact(FT _ _ λh:S=b=>Qz<|by rw[h];exact hbf).trans e
  ·exact hR hn v' OX tk'' hP' λb o hbw hbS e=>NI b o hbw hbS<|(FT _ _<|GP hbS).trans<|L' b o hbw e
 ·have Z2:0=n:=by lia
  refine EW<|GF<|W.done s _ _ (Z2▸OV) λh' tk L'=>?_;refine EW<|Mf<|Fm ?_;exact h0 Z2.symm h' tk λb o hbw hbS e=>L' b o hbw e
end
theorem C2{x d:j'}{Q:j'->Bs->Prop}
  (h:wpAny (FE prog w) A.in1 (NU x) (λit s₂=>∃I fp wr n P St bt,it=.ref I/\Walks prog w A.in1 I fp wr n P St/\St 0 s₂.heap/\(∀b∈fp,b < s₂.heap.objs.size)/\CmpOf prog w A.in1 .Gt P bt/\
   (0 < n->∀v h' tk,P (Hb bt<|n - 1) v->(∀b o,b∉wr->s₂.heap.get? b=ab o->h'.get? b=ab o)->Q v {s₂ with heap:=h',toks:=tk})/\
   (n=0->∀h' tk,(∀b o,b∉wr->s₂.heap.get? b=ab o->h'.get? b=ab o)->Q d {s₂ with heap:=h',toks:=tk})) E s):
  wpAny (FE prog w) A (call (.builtin "max") [x] [(ET "default",d)]) Q E s:=by
 have KH:(toString "max"++toString ".loop":HP)="max.loop":=by decide
 refine kmk_tree F.kind_max F.plain_max F.entry_max (t_ _ _) ?_;show wpAny _ A.in1 (Hu "max" ["key","default"] 0 ⟨[],[(ET "default",d)]⟩ >>=_) _ _ s
 refine EW<|wpAny_of_eq (show Hu "max" ["key","default"] 0 ⟨[],[(ET "default",d)]⟩=pure [A',ab d]from rfl) ?_;refine EW<|Fm ?_;refine EW<|GX h (λit s₂ h₂=>?_) λ_ _ e=>e;obtain⟨I,fp,wr,n,P,St,bt,rfl,W,OV,Y1,Ru,hQ,hQ0⟩:=h₂;refine EW<|MD ?_;have Qz:s₂.heap.objs.size∉fp:=λhm=>G_ _<|Y1 _ hm;rw[KH];refine Fm ⟨Hk Hw _,Bz W bt Ru s₂.heap.objs.size Qz (W.frame _ _ _ OV λb _ o e=>EV _ e) (Fs _ rfl) (λhn v h' tk hP hk=>?_) λhn h' tk hk=>?_⟩
 ·exact hQ hn v h' tk hP λb o hbw e=>hk b o hbw (Fi<|E4 e)<|EV _ e
 ·exact hQ0 hn h' tk λb o hbw e=>hk b o hbw (Fi<|E4 e)<|EV _ e
theorem max_listD{d:j'}{Q:j'->Bs->Prop}(hh:A.handled=A')(hl:s.heap.IsList l (Jd xs))
  (h:0 < xs.size->∀v h' tk,(Jd xs)[Hb (λi j=>decide (P3 xs i > P3 xs j)) (xs.size - 1)]? =ab v->(∀b o,s.heap.get? b=ab o->h'.get? b=ab o)->Q v {s with heap:=h',toks:=tk})
  (h0:xs.size=0->∀h' tk,(∀b o,s.heap.get? b=ab o->h'.get? b=ab o)->Q d {s with heap:=h',toks:=tk}):
  wpAny (FE prog w) A (call (.builtin "max") [.ref l] [(ET "default",d)]) Q E s:=by
 refine C2<|iter_intList hl λs₂ e st Y1 Uc=>?_;subst e;refine⟨_,_,_,_,_,_,_,rfl,K3 (A:=A.in1) hh _ l Uc<|Jd xs,st,Y1,CmpOf.ints_gt (P3 xs) λ_ _=>intItems_at,λhn v h' tk hP hk=>?_,λhn h' tk hk=>?_⟩
 ·exact h (by simpa [Jd]using hn) v h' tk (by simpa [Jd]using hP)<|old_kept hk
 ·exact h0 (by simpa [Jd]using hn) h' tk<|old_kept hk
end KX
namespace L2
open PySem PySem.Spec PyProof.Rows
theorem vW(hi:Kr vs ns)(e:vs.toArray=Jd xs)(hn:0 < xs.size)(hv:(Jd xs)[Hb (λi j=>decide (P3 xs i > P3 xs j)) (xs.size - 1)]? =ab v):∃M t,v=.int M t/\M∈ns/\∀a∈ns,a<=M:=by
 have QX:xs.toList.map (·.1)=ns:=by
  rw[<-nums_intItems,<-e];exact hi.numsOf
 obtain⟨t,rfl⟩:=intItems_at hv;obtain⟨h1,h2⟩:=argBest_gt (P3 xs)<|xs.size - 1;refine⟨_,t,rfl,?_,λa ha=>?_⟩
 ·rw[numAt_eq,QX];exact getD_mem (by rw[<-QX,ka,Gh];lia)
 ·obtain⟨j,hj,rfl⟩:=mem_getD ha;rw[<-QX,ka,Gh]at hj;have:=h2 j (by lia);rw[numAt_eq,QX]at this;exact this
def vX(K:gV):V->V->Hp->VK->Prop:=λx d H Q=>∃(p:f') (ns:bc Int),x=.ref p/\SqL K H p (ns.map V.int)/\(ns=[]->Q d H)/\∀M,M∈ns->(∀a∈ns,a<=M)->Q (.int M) H
def C3(K:gV)(te td:TE):TE:=λσ H Q=>te σ H λx H1=>td σ H1 λd H2=>vX K x d H2 Q
theorem yS{p1 kp q1:Pos}(hc:X.calm=kz)(Uh:Gl X "max")(T9:X.mg "max"=A')(he:PE X e te)(hd:PE X dv td)
  (hs:Fu [e] X.env=[(B',G0 e X.env)]:=by rfl):
  PE X (.Call (.Name "max" p1) [e] [⟨ab "default",dv,kp⟩] q1) (C3 X.K te td):=by
 intro kS s σ H Q I h;refine Gz<|cW I Uh T9 Pz ?_;refine KE (bp (aa he (ae (X:=X)) (by rw[hs];rfl) q1 kS s σ H (vC λx H1=>td σ H1 λd H2=>vX X.K x d H2 Q) I h) λus s1 ⟨vs,H1,I1,r1,Ss⟩=>?_) (by rw[hs];rfl) (by rw[hs];rfl) rfl rfl;obtain⟨x,e1,h1⟩:=hG Ss;subst e1;obtain⟨u,rfl,ru⟩:=dD r1;refine Ls<|bp (hd kS s1 σ H1 _ I1 h1) λud s2 ⟨d,H2,I2,r2,h2⟩=>LJ ?_;obtain⟨p,ns,rfl,hq,q0,q⟩:=h2;cases ru;obtain⟨vs,rv,pl,hz⟩:=I2.list hq;have hi:=qg rv;obtain⟨ys,e⟩:=hi.allInts.items;have hl:=pl.isList;rw[e]at hl;have hsz:ys.size=ns.length:=by
  have h1:(Jd ys).size=ys.size:=by simp [Jd]
  rw[<-h1,<-e,Ff,IntsAre.length hi]
 show wpAny _ _ (call (.builtin "max") [.ref p] [(ET "default",ud)]) _ _ _
 refine KX.max_listD (I2.ok.hd hc) hl (λhn v h' tk hv hk=>?_) λhn h' tk hk=>?_
 ·obtain⟨M,t,rfl,m1,m2⟩:=vW hi e hn hv;exact⟨.int M,H2,I2.kept hk,⟨t,rfl⟩,q M m1 m2⟩
 ·exact⟨d,H2,I2.kept hk,r2,q0<|KU.mp<|by lia⟩
end L2
namespace OD
open PySem L2
def uW(c:bc Int):Prop:=(c.map ao).Pairwise (· < ·)
def ox(t:Str)(hw:ER)(c:bc Int):Int:=((c.filter λl=>!(bP t (ao l - 1).toNat == hw)).map ao).foldl max 0
def fA(t:Str)(hw:ER)(c:bc Int):bc Int:=c.filter λl=>decide (ao l<=ox t hw c)
theorem iJ:∀(ns:bc Int) (b:Int),(b<=ns.foldl max b/\∀a∈ns,a<=ns.foldl max b)/\(ns.foldl max b=b\/ns.foldl max b∈ns)
 |[],b=>⟨⟨JP _,λ_ h=>nomatch h⟩,.inl rfl⟩
 |x::r,b=>by
  obtain⟨⟨h1,h2⟩,h3⟩:=iJ r<|max b x;rw[Ll];refine⟨⟨by lia,λa ha=>?_⟩,?_⟩
  ·obtain rfl|ha:=Fl.mp ha
   ·lia
   ·exact h2 a ha
  ·obtain h3|h3:=h3
   ·by_cases g:b<=x
    ·right
     rw[h3,Int.max_eq_right g];exact Fz
    ·left
     rw[h3,Int.max_eq_left<|by lia]
   ·exact .inr<|Fx _ h3
theorem BA{ns:bc Int}{M:Int}(h0:∀a∈ns,0<=a)(h1:M∈ns\/M=0)(h2:∀a∈ns,a<=M)(h3:0<=M):ns.foldl max 0=M:=by
 obtain⟨⟨a1,a2⟩,a3⟩:=iJ ns 0;have:ns.foldl max 0<=M:=by
  obtain e|e:=a3
  ·rw[e];exact h3
  ·exact h2 _ e
 have:M<=ns.foldl max 0:=by
  obtain h1|h1:=h1
  ·exact a2 _ h1
  ·rw[h1];exact a1
 lia
theorem mem_vars:z∈bo t hw↔1<=z/\z<=(t.length:Int)/\bP t (z - 1).toNat=hw:=by
 unfold bo;rw[FW];constructor
 ·rintro⟨i,hi,rfl⟩;obtain⟨h1,h2⟩:=Gf.mp hi;have:=FZ.mp h1;have e:((i:Int)+1 - 1).toNat=i:=by lia
  rw[e];exact⟨by lia,by lia,by simpa using h2⟩
 ·rintro⟨h1,h2,h3⟩;refine⟨(z - 1).toNat,Gf.mpr ⟨FZ.mpr (by lia),?_⟩,by lia⟩;rw[h3];exact MZ _
theorem yT(h1:1<=ao l)(h2:ao l<=(t.length:Int)):(bo t (!hw)).contains (ao l)=!(bP t (ao l - 1).toNat == hw):=by
 cases g:bP t (ao l - 1).toNat == hw with
 |true=>
  have g':bP t (ao l - 1).toNat=hw:=by simpa using g
  cases z:(bo t (!hw)).contains (ao l)with
  |false=>rfl
  |true=>
   have z2:=(mem_vars.mp<|by simpa using z).2.2;rw[g']at z2;cases hw<;>cases z2
 |false=>
  have g':bP t (ao l - 1).toNat=!hw:=by
   cases a:bP t (ao l - 1).toNat<;>cases hw<;>simp_all
  have:ao l∈bo t (!hw):=mem_vars.mpr ⟨h1,h2,g'⟩;simpa using this
def bZ(many:Nat):Fq->kb Nat
 |.int z=>if 0<=z/\z < (many:Int)then ab z.toNat else A'
 |_=>A'
theorem cy(h:bZ many d=ab i):i < many/\d=.int (i:Int):=by
 cases d with
 |int z=>
  have h':(if 0<=z/\z < (many:Int)then ab z.toNat else A')=ab i:=h
  split at h'
  ·rename_i c;cases h';exact⟨by lia,by congr 1;lia⟩
  ·cases h'
 |_=>cases h
def lB(w:Str):Fq->ER
 |.str x=>decide (x=w)
 |_=>B'
theorem vY(d:Fq)(w:Str):GG d (.str w)=lB w d:=by
 cases d with
 |str x=>
  rw[GG];show(x == w)=decide (x=w)
  by_cases h:x=w
  ·rw[h];simp
  ·rw[E_ h];exact GD.mpr h
 |_=>first|(unfold GG;rfl)|(simp [GG,lB])
def formB(w:Str)(n:Nat):Fq->ER
 |.tuple ds=>decide (ds.length=n)&&lB w (ds.getD 0 .none)
 |_=>B'
def z_(n:Nat)(c:bc Int):Prop:=uW c/\∀l∈c,1<=ao l/\ao l<=(n:Int)
def qy:Fq->Nat->Fq
 |.tuple ds,i=>ds.getD i .none
 |_,_=>.none
def cb:Str:=ET "drop"
theorem fN(h:formB w n d=kz):∃ds,d=.tuple ds/\ds.length=n:=by
 cases d with
 |tuple ds=>
  have h':(decide (ds.length=n)&&lB w (ds.getD 0 .none))=true:=h;rw[GC]at h';exact⟨ds,rfl,Fv h'.1⟩
 |_=>cases h
theorem oy{n:Nat}:∀{c:bc Int} {b:Int},Bt b c->uW c/\∀l∈c,b < ao l
 |[],_,_=>⟨.nil,λ_ h=>nomatch h⟩
 |x::c,b,h=>by
  obtain⟨h1,h2⟩:=oy (n:=n) h.2;refine⟨IW.mpr ⟨λy hy=>?_,h1⟩,λl hl=>?_⟩
  ·obtain⟨l,hl,rfl⟩:=FW.mp hy;exact h2 l hl
  ·obtain rfl|hl:=Fl.mp hl
   ·exact h.1
   ·have:=h2 l hl;have:=h.1;lia
def gw(t:Str)(o:ER)(N:bc ER->Prop):Nat->bc ER->Prop
 |0,bs=>N bs
 |f+1,bs=>if bP t bs.length=o then gw t o N f (bs++[B'])\/gw t o N f (bs++[kz])else gw t o N f (bs++[B'])/\gw t o N f (bs++[kz])
def gG(cs:bc (bc Int))(bs:bc ER):ER:=cs.all λc=>c.any<|cu bs
theorem oz{α:Type}{p q:α->ER}:∀{l:bc α},(∀x∈l,p x=q x)->l.all p=l.all q
 |[],_=>rfl
 |x::l,h=>by
  rw[Ib,Ib,h x Fz,oz λy hy=>h y<|Fx _ hy]
theorem oA(hr:Rng 0 t.length cs)(o:ER):∀f bs,bs.length+f=t.length->bS t cs f bs.length (dR bs)=o->gw t o (λbs=>bs.length=t.length/\gG cs bs=o) f bs
 |0,bs,h,e=>by
  have hl:bs.length=t.length:=by lia
  exists hl;have e':oe t.length cs (dR bs)=o:=e;rw[<-e'];unfold gG oe;refine oz λc hc=>c_ λl Ta=>?_;have:=hr c hc l Ta;rw[rC (by lia) (by lia),hl]
 |f+1,bs,h,e=>by
  have e':(if bP t bs.length=kz then bS t cs f (bs.length+1) (2*dR bs) || bS t cs f (bs.length+1) (2*dR bs+1)else bS t cs f (bs.length+1) (2*dR bs)&&bS t cs f (bs.length+1) (2*dR bs+1))=o:=e;have go:∀b,bS t cs f (bs.length+1) (2*dR bs+if b=kz then 1 else 0)=o->gw t o (λbs=>bs.length=t.length/\gG cs bs=o) f (bs++[b]):=λb hb=>by
   refine oA hr o f (bs++[b]) (by rw[C',FL];lia) ?_;rw[eS,C',FL];exact hb
  show if bP t bs.length=o then gw t o _ f (bs++[B'])\/gw t o _ f (bs++[kz])else gw t o _ f (bs++[B'])/\gw t o _ f (bs++[kz])
  cases x:bS t cs f (bs.length+1) (2*dR bs)<;>cases y:bS t cs f (bs.length+1) (2*dR bs+1)<;>cases g:bP t bs.length<;>cases o<;>rw[x,y,g]at e'<;>
   first|(cases e';done)|skip
  all_goals first
   |exact .inl<|go B' x
   |exact .inr<|go kz y
   |exact⟨go B' x,go kz y⟩
end OD
namespace DP
open PySem
theorem yU:NS (.type "list") "keys"=pure none:=by rw[typeLookup_type,builtinLookup_eq_fast];kernel_rfl
theorem rE:entryFor table "dict.update.loop"=ab Builtin.«dict.update.loop»:=entryFor_of_tree (by kernel_rfl)
theorem jB:plainId "dict.update.loop"=true:=by decide+kernel
theorem ua{Q:kb j'->Bs->Prop}(hx:s.heap.get? l=ab o)(hc:o.cls=.type "list")(Rt:o.data=.seq xs k)(hd:o.dict=A')(hA:A.handled=A')
  (h:∀h' tk,(∀b o,s.heap.get? b=ab o->h'.get? b=ab o)->Q A' {s with heap:=h',toks:=tk}):wpAny (FE prog w) A (getAttr? (.ref l) "keys") Q E s:=by
 obtain⟨c,dct,dat,sl⟩:=o;simp only at hc Rt hd;subst hc Rt hd;obtain⟨hp,g,d,tk,os⟩:=s;have hT:∀Vl,(⟨hp,g,d,Vl,os⟩:Bs).TypeIs (.ref l) "list":=λ_=>⟨_,hx,rfl⟩;have f1:=sub_AttributeError;have f3:=F.slot_list_getattribute.lookup;have f4:=F.slot_list_getattribute.bind<|.ref l;have f5:=am_list_getattr_none;unfold getAttr? getAttrBy? getAttrBy
 repeat (any_goals (first|assumption|exact hT _|((with_reducible show wpAny _ _ (call (Value.builtin "list.__getattribute__") _ _) _ _ _);refine K2 F.slot_list_getattribute (hT _) am_entry_list_getattribute (F.args_list_getattribute_2 _ _) (meets_getattribute_miss_list l xs k sl "keys" _ yU (by decide+kernel)<|by decide+kernel) ⟨hx,hA,λh' Vl e QV=>?_⟩)|wp_step))
 obtain⟨t',u',he⟩:=QV.there;show wpAny _ _ (Mj _ _ _ _ _ _ _) _ _ _
 unfold Mj
 repeat (any_goals (first|assumption|wp_step))
 exact h _ _ QV.keeps
section
variable {prog:E9}{w:Ft}{K:Type}[Kx K]{knd:KeyKind prog w K}{A:Gm}{s:Bs}
theorem qz(ht:s.heap.IsTuple t xs)(h:Q xs.toList s):wpAny (FE prog w) A (K7<|.ref t) Q E s:=by
 obtain⟨o,ho,hc,n,hd⟩:=ht;have hT:s.TypeIs (.ref t) "tuple":=⟨o,ho,hc⟩;unfold K7;refine EW<|wpAny_typeOf hT ?_;rw[Fc<|by decide];refine EW<|HQ ho hd ?_;exact Fm h
theorem ub(hh:A.in1.handled=A'){h0:FU}(Uc:l≠I)(Y7:d≠I)(hdl:d≠l)(hn:items.size<=sizeLine)(hm:more.length=items.size)
  (SA:∀(i:Nat) (v:j'),items[i]? =ab v->∃kv key t,more[i]? =ab kv/\knd.is kv.1 key=kz/\v=.ref t/\t≠d/\t≠I/\h0.IsTuple t #[key,kv.2]) {R:M8->Bs->Prop}:
  ∀(m i:Nat) (s:Bs) (Vk:Tok),items.size - i=m->i<=items.size->s.heap.IsListIter I l i->s.heap.IsList l items->s.heap.DictOf knd d (Mi []<|more.take i)->
   (∀b o,b≠d->b≠I->h0.get? b=ab o->s.heap.get? b=ab o)->
   (∀h' tk,h'.DictOf knd d (Mi [] more)->(∀b o,b≠d->b≠I->h0.get? b=ab o->h'.get? b=ab o)->R (.ok<|.ret .none) {s with heap:=h',toks:=tk})->
   codeAny (FE prog w) A (.builtin "dict.update.loop" ⟨[.ref d,.ref I,.int (i:Int) Vk,.none],[]⟩) R s:=by
 have W:=K3 (prog:=prog) (w:=w) (A:=A.in1) hh I l Uc items;intro m
 induction m with
 |zero=>
  intro i s Vk hm0 hi Qu R7 hold U9 hR;have e:i=items.size:=by lia
  subst e;refine Hq rE ?_;rw[GH jB _];refine EW (m:=KC<|.ref I)<|W.done s _ _ ⟨Qu,R7⟩ λh' tk hk=>?_;have L':∀b o,b≠I->s.heap.get? b=ab o->h'.get? b=ab o:=λb o hb e=>hk b o (by simpa using hb) e;refine EW (m:=OR d [])<|Fm<|Fm ?_;refine hR h' tk ?_ λb o h1 h2 e=>L' b o h2<|U9 b o h1 h2 e;rw[E3<|by lia]at hold;obtain⟨o,es,ep,ho,r⟩:=hold;exact⟨o,es,ep,L' d o Y7 ho,r⟩
 |succ m ih=>
  intro i s Vk hm0 hi Qu R7 hold U9 hR;have IL:i < items.size:=by lia
  refine Hq rE ?_;rw[GH jB _];refine EW (m:=KC<|.ref I)<|W.item i s _ _ IL ⟨Qu,R7⟩ λv h' tk hv Pw hk=>?_;have L':∀b o,b≠I->s.heap.get? b=ab o->h'.get? b=ab o:=λb o hb e=>hk b o (by simpa using hb) e;obtain⟨kv,key,t,hki,NH,rfl,TY,ZS,ht⟩:=SA i v hv;have UX:h'.IsTuple t #[key,kv.2]:=let ⟨o,ho,r⟩:=ht;⟨o,L' t o ZS<|U9 t o TY ZS ho,r⟩
  have T4:h'.DictOf knd d (Mi []<|more.take i):=let ⟨o,es,ep,ho,r⟩:=hold;⟨o,es,ep,L' d o Y7 ho,r⟩
  have hz:(Mi []<|more.take i).length<=sizeLine:=by
   have:=merged_length_le []<|more.take i;rw[FO]at this;simp only [Lk]at this;lia
  refine EW<|Hj<|EW<|GF<|qz (s:={s with heap:=h',toks:=tk}) UX ?_;dsimp only;refine Hj<|wpAny_dictSet_pairs (s:={s with heap:=h',toks:=tk}) (hsz:=hz) NH T4 λh2 MX sb=>?_;have e2:Mi [] (more.take<|i+1)=stored (Mi []<|more.take i) kv.1 kv.2:=merged_take_succ _ _ _ _ hki;refine Fm ⟨Hk jB _,?_⟩;refine ih (i+1) {s with heap:=h2,toks:=tk+1} 0 (by lia) IL ?_ ?_ (by rw[e2];exact MX) (λb o h1 hbI e=>(sb.2 b h1).trans<|L' b o hbI<|U9 b o h1 hbI e) λh3 tk3 b1 b2=>hR h3 tk3 b1 b2
  ·exact Pw.1.at λo e=>(sb.2 I λz=>Y7 z.symm).trans e
  ·exact Pw.2.at λo e=>(sb.2 l λz=>hdl z.symm).trans e
theorem call_pairs{E:j'->Bs->Prop}(hh:A.handled=A'){Q:j'->Bs->Prop}(hl:s.heap.get? l=ab ol)(hc:ol.cls=.type "list")(Rt:ol.data=.seq items nl)(hdd:ol.dict=A')(hn:items.size<=sizeLine)(hm:more.length=items.size)
  (SA:∀(i:Nat) (v:j'),items[i]? =ab v->∃kv key t,more[i]? =ab kv/\knd.is kv.1 key=kz/\v=.ref t/\s.heap.IsTuple t #[key,kv.2])
  (h:∀(h':FU) (tk:Nat),h'.DictOf knd s.heap.objs.size (Mi [] more)->(∀b o,s.heap.get? b=ab o->h'.get? b=ab o)->Q (.ref s.heap.objs.size) {s with heap:=h',toks:=tk}):
  wpAny (FE prog w) A (call (.type "dict") [.ref l]) Q E s:=by
 refine callType_codes (Q₁:=λobj s₁=>obj=.ref s.heap.objs.size/\s₁={s with heap:=s.heap.push {cls:=.type "dict",data:=.dict #[]}}) F.kt_called_dict (F.kt_typeCall_dict_1 _) F.entry_dict_init (kt_code_dict_new _ ⟨rfl,rfl⟩) ?_;rintro obj s₁ ⟨rfl,rfl⟩;have SF:(s.heap.push {cls:=.type "dict",data:=.dict #[]}).DictOf knd s.heap.objs.size []:=Nu s.heap;have Rr:=EV {cls:=.type "dict",data:=.dict #[]} hl;have IL:l < s.heap.objs.size:=E4 hl;have Zc:Shared.TypeIs {s with heap:=s.heap.push {cls:=.type "dict",data:=.dict #[]}} (.ref l) "list":=⟨_,Rr,hc⟩;exists SF.typeIs,F.args_dict_init_2 _ _;unfold Builtin.«dict.__init__»;refine EW ?_;unfold OQ;refine EW<|Lo SF.typeIs ?_;show wpAny _ _ (pure (s.heap.objs.size,[FY l])) _ _ _
 refine Fm ?_;show wpAny _ _ (KS "dict.__init__" s.heap.objs.size (.ref l) [] .none) _ _ _
 unfold KS;refine EW<|wpAny_typeOf Zc ?_;rw[Fc<|by decide];refine EW<|ua Rr hc Rt hdd (by simpa using hh) λh1 tk1 k1=>?_;have NG:=k1 _ _ Rr;have Ug:h1.IsList l items:=⟨_,NG,hc,nl,Rt⟩;simp only [Option.isNone_none,J5];refine EW<|Mf<|EW<|Ii (s:={s with heap:=h1,toks:=tk1}) Ug<|Fm ?_;exists Hk jB _;have hd0:=Fs s.heap (o:={cls:=.type "dict",data:=.dict #[]}) rfl;have hd1:=k1 _ _ hd0;have YS:l < h1.objs.size:=E4 NG;have Uk:s.heap.objs.size < h1.objs.size:=E4 hd1;have SL:h1.DictOf knd s.heap.objs.size []:=let ⟨o,es,ep,ho,r⟩:=SF;⟨o,es,ep,k1 _ _ ho,r⟩
 have cu:(h1.push {cls:=.type "list_iterator",data:=.fields #[.ref l,.int 0 0]}).get? h1.objs.size=ab {cls:=.type "list_iterator",data:=.fields #[.ref l,.int 0 0]}:=Fs _ rfl;refine ub (knd:=knd) (by simpa using hh) (h0:=h1.push {cls:=.type "list_iterator",data:=.fields #[.ref l,.int 0 0]}) (I:=h1.objs.size) (l:=l) (items:=items) (more:=more) (Fi YS) (Fi Uk) (IE IL) hn hm (λi v hv=>?_) (items.size - 0) 0 _ 0 rfl (FF _) ⟨_,cu,rfl,rfl⟩ (Ug.push _) (by rw[N7];exact SL.push _) (λb o _ _ e=>e) λh' tk b1 b2=>?_
 ·obtain⟨kv,key,t,a1,a2,a3,a4⟩:=SA i v hv;obtain⟨o,ho,r⟩:=a4;have Z0:=k1 _ _<|EV {cls:=.type "dict",data:=.dict #[]} ho;exact⟨kv,key,t,a1,a2,a3,Fi<|E4 ho,Fi<|E4 Z0,o,EV _ Z0,r⟩
 ·refine⟨rfl,h h' tk b1 λb o e=>?_⟩;have e1:=k1 _ _<|EV {cls:=.type "dict",data:=.dict #[]} e;exact b2 b o (Fi<|E4 e) (Fi<|E4 e1)<|EV _ e1
end
end DP
namespace L2
open PySem PySem.Spec PyProof.Rows
structure uX (P:E9)(w:Ft)(K:gV)(mg:Str->kb j')(base:FU)(CX:uV)(k:Nat)(C:f')(m:Str)(f:f')(fd:E6)(ps:bc Str)(sp:Sp):Prop where
 ok:FnOk P w K mg base CX k f fd ps sp
 b:Binds K fd ps []
 cl:Cls K C
 me:Bd K C m f
structure C4 (P:E9)(w:Ft)(K:gV)(mg:Str->kb j')(base:FU)(k:Nat)(x:Str)(C f:f')(fd:E6)(ps:bc Str)(sp:Sp):Prop where
 ok:FnOk P w K mg base bD k f fd ps sp
 b:Binds K fd ps []
 mks:Mk K C f
 at_:mg x=ab (.ref C)
section
variable {X:Cx}{j k:Nat}{C f:f'}{fd:E6}{ps:bc Str}{sp:Sp}{pos:Pos}{e:F'}{es:bc F'}{t:TA}
theorem oB{m:Str}{Ln:Pos}{o:F'}{ta:TE}{pl:Sem ER}(G:uX X.prog X.w X.K X.mg X.base bD j C m f fd ps sp)(he:PE X o ta)(hr:Room k X.A)(SH:j<=k)(ha:PA X (e::es) t)
  (OV:Fu (e::es) X.env=(B',G0 e X.env)::Fu es X.env:=by rfl) (Kj:(HF pos<|Fu es X.env).any (·.1)=false:=by rfl)
  (ht:G0 (.Call (.Attribute o m Ln) (e::es) [] pos) X.env=(do
   let ov <-G0 o X.env
   Pk Ln.atName
   let (f,first) <-K1 [ov] (M4 ov m pl)
   callWith pos f first (HF pos<|Fu (e::es) X.env) (N0 pos<|LC [] X.env)):=by rfl):
  PE X (.Call (.Attribute o m Ln) (e::es) [] pos) (zR C m sp [] E0 ta t):=yq he G.cl G.me G.ok (hr.mono SH) G.b .nil vo ha OV Kj ht
theorem vZ{x:Str}{p:Pos}(G:C4 X.prog X.w X.K X.mg X.base j x C f fd ps sp)(hr:Room k X.A)(SH:j+1<=k)(hg:Gl X x)(ha:PA X (e::es) t)(Qy:(x == ("__debug__":Str))=false:=by decide)
  (he:Fu (e::es) X.env=(B',G0 e X.env)::Fu es X.env:=by rfl) (Kj:(HF pos<|Fu es X.env).any (·.1)=false:=by rfl):
  PE X (.Call (.Name x p) (e::es) [] pos) (zT C sp [] E0 t):=yr G.mks G.ok (hr.mono SH) hg G.at_ G.b .nil vo ha Qy he Kj
theorem mR:dB X (.builtin "isinstance") (λxs H Q=>∃y ty C b,xs=[y,.ref C]/\gI X.K H y ty/\Hl X.K ty (.ref C)=ab b/\Q (.bl b) H):=by
 rintro kS s σ H xs us Q I r ⟨y,ty,C,b,rfl,hT,hk,q⟩;obtain⟨u,v,rfl,ru,rv⟩:=r.two;cases rv;exact k_ I ru hT hk λtk=>⟨.bl b,H,I.tok _,rfl,q⟩
end
theorem oC(ok:HOk P w H h):∀(ts:bc f') (kvs:bc (aS×V)),ts.length=kvs.length->(∀(i:Nat) (t:f') (kv:aS×V),ts[i]? =ab t->kvs[i]? =ab kv->H t=ab (.tup [kV kv.1,kv.2]))->
  ∃more:bc (aS×j'),KV kvs more/\more.length=ts.length/\more.map (·.1)=kvs.map (·.1)/\∀(i:Nat) (t:f'),ts[i]? =ab t->∃kv key,more[i]? =ab kv/\(aQ P w).is kv.1 key=kz/\h.IsTuple t #[key,kv.2]
 |[],[],_,_=>⟨[],.nil,rfl,rfl,λi t e=>by simp at e⟩
 |[],_::_,e,_=>by simp at e
 |_::_,[],e,_=>by simp at e
 |t::ts,kv::kvs,e,hp=>by
  obtain⟨more,a1,a2,a3,a4⟩:=oC ok ts kvs (by simpa using e) λi t' Yt e1 e2=>hp (i+1) t' Yt (by simpa using e1) (by simpa using e2);obtain⟨_,Gx,r,o,h1,h2,n,h3⟩:=(show ObjOk P w H h t (.tup [kV kv.1,kv.2])from ok t _<|hp 0 t kv rfl rfl);obtain⟨u,v,rfl,ru,rv⟩:=r.two;refine⟨(kv.1,v)::more,.cons ⟨rfl,rv⟩ a1,by simp [a2],by simp [a3],λi t' e1=>?_⟩;cases i with
  |zero=>
   have e':t=t':=by simpa using e1
   subst e';exact⟨(kv.1,v),u,rfl,gB ru,o,h1,h2,n,h3⟩
  |succ i=>
   obtain⟨Yt,key,b1,b2,b3⟩:=a4 i t' (by simpa using e1);exact⟨Yt,key,by simpa using b1,b2,b3⟩
inductive Aa (xs:bc V)(H:Hp)(Q:VK):Prop
 |mk (l:f')(ts:bc f')(kvs:bc (aS×V))(hx:xs=[.ref l])(h:H l=ab (.lst<|ts.map V.ref))(hl:ts.length=kvs.length)(hp:∀(i:Nat) (t:f') (kv:aS×V),ts[i]? =ab t->kvs[i]? =ab kv->H t=ab (.tup [kV kv.1,kv.2])) (nd:(kvs.map (·.1)).Nodup) (z:kvs.length<=9000)
  (q:∀d,H d=A'->Q (.ref d) (upd H d<|.dK kvs)):Aa xs H Q
theorem gM(hc:X.calm=kz):dB X (.type "dict") Aa:=by
 intro kS s σ H xs us Q I r h;obtain⟨l,ts,kvs,rfl,hH,hl,hp,nd,z,q⟩:=h;obtain⟨u,rfl,ru⟩:=r.one;cases ru;obtain⟨z1,Gx,n,rv,G',e⟩:=I.lstM hH;obtain⟨more,a1,a2,a3,a4⟩:=oC I.hok ts kvs hl hp;have ad_:Gx.length=ts.length:=by
  rw[<-G',ka]
 refine DP.call_pairs (knd:=aQ X.prog X.w) (more:=more) (I.ok.hd hc) e rfl rfl rfl (by rw[Ff];lia) (by rw[Ff];lia) (λi v hv=>?_) λh' tk hd hk=>?_
 ·have PH:Gx[i]? =ab v:=by simpa using hv
  have hi:i < ts.length:=by
   have:=(ES.mp PH).1;lia
  have ht:ts[i]? =ab ts[i]:=E1 hi;obtain⟨kv,key,b1,b2,b3⟩:=a4 i _ ht;have hx:(ts.map V.ref)[i]? =ab (.ref ts[i]):=by rw[Fk,ht];rfl
  obtain⟨v',Sa,UN⟩:=rv.get hx;rw[PH]at Sa;cases Sa;cases UN;exact⟨kv,key,_,b1,b2,rfl,b3⟩
 ·rw[merged_nil_of_nodup more<|by rw[a3];exact nd]at hd;refine⟨.ref s.heap.objs.size,_,I.laid (a:=s.heap.objs.size) (o:=.dK kvs) (t':=tk) (λb q hq=>hk b q hq) (lb _)<|mH (FQ<|jL<|by lia) (GD.mpr<|GP<|Fi I.big) a1 hd,rfl,q _<|I.hok.fresh<|lb _⟩
def C5(a:f'):HO:=.ext λh=>∃o,h.get? a=ab o
def cq(a:f')(o:Obj):HO:=.frz o<|C5 a
theorem hZ(e:h.get? a=ab o):ObjOk P w H h a (cq a o):=
 ⟨e,⟨o,e⟩,⟨o,e⟩,λ_ _ ⟨o,q⟩ k=>⟨o,k o q⟩⟩
theorem eB(x:HOk P w H h)(e:H a=ab (cq a o)):h.get? a=ab o:=(x a _ e).1
inductive CodeK (H:Hp)(qual:Str)(cv:j'):Prop
 |mk (c:f')(oc:Obj)(vs:HK j')(t:Tok)(e:cv=.ref c)(h:H c=ab (cq c oc))(d:oc.data=.fields vs)(q:vs[1]? =ab (.str qual t)):CodeK H qual cv
inductive TabAt (H:Hp)(T:f')(pos:Pos)(qual:Str):Prop
 |mk (ps:HK j')(h:H T=ab (.tbl ps))(t:TriplesOk ps.toList)(c:∀cv,codeAmong pos ps.toList=ab cv->CodeK H qual cv):TabAt H T pos qual
inductive LamAt (H:Hp)(f:f')(qual:Str)(params:IB)(body:F')(scope:Iv)(clos:bc (Str×f')):Prop
 |mk (pm O8:j')(c:f')(h:H f=ab (cq f<|Hr "<lambda>" qual params body scope clos pm c O8))(k:CodeK H qual (.ref c)):LamAt H f qual params body scope clos
def Off(T:f')(H H':Hp):Prop:=∀b o,b≠T->H b=ab o->H' b=ab o
theorem CodeK.mono(x:CodeK H qual cv)(k:∀b o,H b=ab (cq b o)->H' b=ab (cq b o)):CodeK H' qual cv:=by
 obtain⟨c,oc,vs,t,e,h,d,q⟩:=x;exact⟨c,oc,vs,t,e,k _ _ h,d,q⟩
theorem LamAt.mono(x:LamAt H f qual params body scope clos)(k:∀b o,H b=ab (cq b o)->H' b=ab (cq b o)):LamAt H' f qual params body scope clos:=by
 obtain⟨pm,O8,c,h,q⟩:=x;exact⟨pm,O8,c,k _ _ h,q.mono k⟩
theorem TabAt.mono(x:TabAt H T pos qual)(k:Same H H'):TabAt H' T pos qual:=by
 obtain⟨ps,h,t,c⟩:=x;exact⟨ps,k _ _ h,t,λcv e=>(c cv e).mono λb o q=>k _ _ q⟩
inductive C6 (T:f')(pos:Pos)(qual:Str)(params:IB)(body:F')(scope:Iv)(clos:bc (Str×f'))(H:Hp)(Q:VK):Prop
 |mk (t:TabAt H T pos qual)(q:∀(f:f') (H':Hp),H f=A'->Off T H H'->TabAt H' T pos qual->LamAt H' f qual params body scope clos->Q (.ref f) H'):C6 T pos qual params body scope clos H Q
def Eh(T:f')(pos:Pos)(qual:Str)(params:IB)(body:F')(scope:Iv)(clos:bc (Str×f')):TE:=λ_ H Q=>C6 T pos qual params body scope clos H Q
structure iK (mg:Str->kb j')(base:FU)(c T:f'):Prop where
 code:HS base c T
 bm:∃bm ob,mg "__builtins__"=ab (.ref bm)/\bm≠JF/\base.get? bm=ab ob/\ob.cls=.type "module"/\ob.dict=ab JF/\ob.data=.plain
theorem mS(L:iK X.mg X.base c T)(I:Inv X kS σ H s)(hT:H T=ab (.tbl ps)):s.heap.BuiltinsAt X.mg T:=by
 obtain⟨bm,ob,b1,b2,b3,b4,b5,b6⟩:=L.bm;refine⟨bm,ob,b1,b2,λq=>?_,λq=>?_,I.bk _ _ b3,b4,b5,b6⟩
 ·obtain⟨o,es,ep,e,hd,_⟩:=I.ok.mod.glob;rw[<-q,b3]at e;cases e;rw[hd]at b6;cases b6
 ·have z:=(I.bs _ _ b3).2;rw[q,hT]at z;cases z
theorem BB{X:Cx}{params:IB}{body:F'}{scope:Iv}{pos:Pos}{c:f'}{T:f'}{clos:bc (Str×f')}(L:iK X.mg X.base c T)(hc:X.env.code=.ref c)(SM:defaultsOf params X.env=([],[]):=by rfl)(Np:closureFor scope X.env=pure clos:=by rfl):
  PE X (.Lambda params body scope pos) (Eh T pos (X.env.qual++"<lambda>") params body scope clos):=by
 intro kS s σ H Q I ⟨tab,hq⟩;refine PySem.W.kla_eval SM ?_;obtain⟨ps,hT,ht,Sh⟩:=tab;have hP:s.heap.get? T=ab (Iu ps):=I.hok T _ hT;have Cs:HS s.heap c T:=L.code.keeps I.bk;have hg:s.heap.Ns EO X.mg:=I.ok.mod.glob.keeps I.bk;have hgP:EO≠T:=λq=>by
  obtain⟨o,es,ep,e,hd,_⟩:=hg;rw[q,hP]at e;cases e;cases hd
 have hb:=mS L I hT;cases hn:codeAmong pos ps.toList with
 |none=>
  refine PySem.W.kla_makeFunction (mg:=X.mg) Np I.ok.glob hg hc Cs hP ht hn hgP hb λc' O8 h' tk hx hge IL hrec ZR=>?_;obtain⟨c2,oc,vs,t,e2,U3,hd,hv⟩:=hrec;cases e2;have fc:H c'=none:=I.hok.fresh hge;have nT:c'≠T:=λz=>by rw[z,hT]at fc;cases fc
  have atT:upd (upd H T<|.tbl<|ps++#[KB pos.line,KB pos.col,.ref c']) c' (cq c' oc) T=ab (.tbl<|ps++#[KB pos.line,KB pos.col,.ref c']):=by rw[al<|GP nT,ad]
  have SZ:upd (upd H T<|.tbl<|ps++#[KB pos.line,KB pos.col,.ref c']) c' (cq c' oc) c'=ab (cq c' oc):=ad;have off:∀b,b≠T->b≠c'->upd (upd H T<|.tbl<|ps++#[KB pos.line,KB pos.col,.ref c']) c' (cq c' oc) b=H b:=λb h1 h2=>by rw[al h2,al h1]
  generalize upd (upd H T<|.tbl<|ps++#[KB pos.line,KB pos.col,.ref c']) c' (cq c' oc)=H2 at atT SZ off;have neT:∀b u,H b=ab u->(∀ps,u≠.tbl ps)->b≠T:=λb u e n z=>by
   rw[z,hT]at e;cases e;exact n _ rfl
  have neN:∀b,H b=A'->b≠T:=λb e z=>by rw[z,hT]at e;cases e
  have QT:∀b u,H b=ab u->b≠c':=λb u e z=>by rw[z,fc]at e;cases e
  have neS:∀b o,s.heap.get? b=ab o->b≠c':=λb o e=>Fi<|FK (E4 e) hge;have un:Un X.fs [] H H2 s.heap h':=by
   refine⟨λb o e n _ _=>hx b o (neN b n) e,λb o e n _ _=>⟨o.slots,hx b o (neN b n) e⟩,λb o e n _=>?_,λb o e _=>?_,λb xs e=>?_,λb o u e=>?_,λb qs e=>?_⟩
   ·rw[off b (neN b n)<|neS b o e];exact n
   ·by_cases RZ:b=T
    ·exact⟨_,RZ▸ZR⟩
    ·exact⟨o,hx b o RZ e⟩
   ·rw[off b (neT b _ e λps z=>nomatch z)<|QT b _ e];exact e
   ·rw[off b (neT b _ e λps z=>nomatch z)<|QT b _ e];exact e
   ·by_cases RZ:b=T
    ·subst RZ;rw[hT]at e;cases e;exact⟨_,atT⟩
    ·exact⟨#[],by rw[off b RZ<|QT b _ e,e];simp⟩
  have hok:HOk X.prog X.w H2 h':=λb u e=>by
   by_cases RZ:b=T
   ·subst RZ;rw[atT]at e;cases e;exact ZR
   ·by_cases Z':b=c'
    ·subst Z';rw[SZ]at e;cases e;exact hZ U3
    ·rw[off b RZ Z']at e;refine(I.hok b u e).stay (λd v RL q=>hx d v ?_ q) (λd q=>?_) λd xs q=>?_
     ·obtain rfl|RL:=RL
      ·exact RZ
      ·exact neT d _ RL λps z=>nomatch z
     ·rw[off d (neT d _ q λps z=>nomatch z)<|QT d _ q];exact q
     ·rw[off d (neT d _ q λps z=>nomatch z)<|QT d _ q];exact q
  have I2:Inv X kS σ H2 {s with heap:=h',toks:=tk}:=I.un (t':=tk) un hok;have nf:H2 h'.objs.size=none:=I2.hok.fresh<|lb _;have nfH:H h'.objs.size=none:=I.hok.fresh<|FM hge<|FQ IL;have I3:=I2.laid (a:=h'.objs.size) (o:=cq h'.objs.size<|Hr "<lambda>" (X.env.qual++"<lambda>") params body scope clos ((X.mg "__name__").getD .none) c' O8) (h':=h'.push<|Hr "<lambda>" (X.env.qual++"<lambda>") params body scope clos ((X.mg "__name__").getD .none) c' O8) (t':=tk)
   (λb u e=>EV _ e) (lb _) (hZ<|Fs _ rfl)
  have k3:∀b u,H2 b=ab u->upd H2 h'.objs.size (cq h'.objs.size<|Hr "<lambda>" (X.env.qual++"<lambda>") params body scope clos ((X.mg "__name__").getD .none) c' O8) b=ab u:=λb u e=>by
   rw[al<|ak e nf];exact e
  have ck:CodeK (upd H2 h'.objs.size<|cq h'.objs.size<|Hr "<lambda>" (X.env.qual++"<lambda>") params body scope clos ((X.mg "__name__").getD .none) c' O8) (X.env.qual++"<lambda>") (.ref c'):=⟨c',oc,vs,t,rfl,k3 _ _ SZ,hd,hv⟩;refine⟨.ref h'.objs.size,_,I3,rfl,hq _ _ nfH (λb u hb e=>k3 _ _<|by rw[off b hb<|QT b _ e];exact e) ⟨_,k3 _ _ atT,?_,λcv e=>?_⟩ ⟨_,O8,c',ad,ck⟩⟩
  ·rw[L_];exact TriplesOk_snoc _ _ _ _ ht
  ·rw[L_]at e;have z:=codeAmong_snoc (c:=FY c') ps.toList ht hn;rw[z]at e;cases e;exact ck
 |some cv=>
  obtain⟨c',oc,vs,t,rfl,hC,hd,hv⟩:=Sh cv hn;refine PySem.W.kla_makeFunctionHit (mg:=X.mg) Np I.ok.glob hg hc Cs hP ht hn hb λO8 h' tk hk hsz=>?_;have I2:Inv X kS σ H {s with heap:=h',toks:=tk}:=I.kept (t':=tk) hk;have nf:H h'.objs.size=none:=I2.hok.fresh<|lb _;have I3:=I2.laid (a:=h'.objs.size) (o:=cq h'.objs.size<|Hr "<lambda>" (X.env.qual++"<lambda>") params body scope clos ((X.mg "__name__").getD .none) c' O8) (h':=h'.push<|Hr "<lambda>" (X.env.qual++"<lambda>") params body scope clos ((X.mg "__name__").getD .none) c' O8) (t':=tk)
   (λb u e=>EV _ e) (lb _) (hZ<|Fs _ rfl)
  have k3:∀b u,H b=ab u->upd H h'.objs.size (cq h'.objs.size<|Hr "<lambda>" (X.env.qual++"<lambda>") params body scope clos ((X.mg "__name__").getD .none) c' O8) b=ab u:=λb u e=>by
   rw[al<|ak e nf];exact e
  refine⟨.ref h'.objs.size,_,I3,rfl,hq _ _ nf (λb u _ e=>k3 _ _ e) ⟨ps,k3 _ _ hT,ht,λcv e=>(Sh cv e).mono λb o q=>k3 _ _ q⟩ ⟨_,O8,c',ad,⟨c',oc,vs,t,rfl,k3 _ _ hC,hd,hv⟩⟩⟩
abbrev cP:=bc<|f'×Obj
def gx(H:Hp)(cs:cP):Hp:=λb=>match cs.lookup b with
 |some o=>ab<|cq b o
 |none=>H b
def less(H:Hp)(cs:cP):Hp:=λb=>match cs.lookup b with
 |some _=>A'
 |none=>H b
theorem eE(e:cs.lookup b=ab o):gx H cs b=ab (cq b o):=by unfold gx;rw[e]
theorem aY(e:cs.lookup b=A'):gx H cs b=H b:=by unfold gx;rw[e]
theorem h_(e:cs.lookup b=ab o):less H cs b=none:=by unfold less;rw[e]
theorem bu(e:cs.lookup b=A'):less H cs b=H b:=by unfold less;rw[e]
theorem aT(cs:cP)(b:f'):cs.lookup b=A'\/∃o,cs.lookup b=ab o:=by
 cases e:cs.lookup b with
 |none=>exact .inl rfl
 |some o=>exact .inr ⟨o,rfl⟩
theorem uc(h:∀b o,cs.lookup b=ab o->H b=A'):Same H (gx H cs):=λb u e=>by
 obtain q|⟨o,q⟩:=aT cs b
 ·rw[aY q];exact e
 ·rw[h b o q]at e;cases e
theorem lC:Same (less H cs) H:=λb u e=>by
 obtain q|⟨o,q⟩:=aT cs b
 ·rw[bu q]at e;exact e
 ·rw[h_ q]at e;cases e
theorem ue(h:∀b o,cs.lookup b=ab o->H b=ab (cq b o))(k:Same (less H cs) H'):Same H (gx H' cs):=λb u e=>by
 obtain q|⟨o,q⟩:=aT cs b
 ·rw[aY q];exact k _ _ (by rw[bu q];exact e)
 ·rw[eE q,<-h b o q];exact e
theorem v_(h:∀b o,cs.lookup b=ab o->H b=A')(k:Same (gx H cs) H'):Same H (less H' cs):=λb u e=>by
 obtain q|⟨o,q⟩:=aT cs b
 ·rw[bu q];exact k _ _ (by rw[aY q];exact e)
 ·rw[h b o q]at e;cases e
def BC(P:E9)(w:Ft)(K:gV)(mg:Str->kb j')(base:FU)(k:Nat)(f:f')(sp:Sp):Prop:=
 ∀(A:Gm) (outer:bc Env) (s:Bs) (H:Hp) (us:bc j') (vs:bc V) (Q:VK) (E:XK),Room k A->Env0 P w K mg base A outer s H->Vals vs us->sp vs H Q E->
  codeAny (FE P w) A (.call (.ref f) ⟨us,[]⟩) (CR bD outer P w H s Q E) s
section
variable {X:Cx}{k:Nat}{f:f'}{fd:E6}{sp:Sp}{x:Str}{p pos:Pos}{e:F'}{es:bc F'}{t:TA}
theorem yV{kS:bc (f'×Obj)}{σ:St}{H:Hp}{s:Bs}{Q:VK}{us:bc j'}{vs:bc V}(F:FnOk X.prog X.w X.K X.mg X.base bD k f fd ps sp)(hr:Room k X.A)(hb:Binds X.K fd ps [])
  (I:Inv X kS σ H s) (r:Vals vs us) (cs:cP) (RW:∀x,X.fn x=kz) (hc:∀b o,cs.lookup b=ab o->(∃x,X.env.cells.lookup x=ab b)/\s.heap.get? b=ab o)
  (h:sp vs (gx H cs) (λv H2=>Q v<|less H2 cs) E0):wpAny (FE X.prog X.w) X.A (call (.ref f) us) (EP X kS σ Q) X.xe s:=by
 have none_of:∀b o,cs.lookup b=ab o->H b=none:=λb o q=>by
  obtain⟨⟨x,hx⟩,_⟩:=hc b o q;exact I.freeC x b hx
 have big:∀b o,cs.lookup b=ab o->X.s₀.heap.objs.size<=b:=λb o q=>by
  obtain⟨⟨x,hx⟩,_⟩:=hc b o q;exact I.ok.cab x b (RW x) hx
 have Wm:∀b o,X.base.get? b=ab o->cs.lookup b=none:=λb o q=>by
  obtain z|⟨o',z⟩:=aT cs b
  ·exact z
  ·exact absurd (FK (FK (E4 q) I.ok.bsz)<|big b o' z)<|G_ _
 have Tu:∀b∈pQ X.stack,cs.lookup b=none:=λb q=>by
  obtain z|⟨o',z⟩:=aT cs b
  ·exact z
  ·obtain⟨⟨x,hx⟩,_⟩:=hc b o' z;obtain e|Vb:=Fl.mp (I.stkSub b q)
   ·exact absurd e<|I.cne x b hx
   ·obtain⟨_,o,ho,_⟩:=I.ok.funs.mem Vb;exact absurd (FK (E4 ho)<|big b o' z)<|G_ _
 have Jz:∀b u,H b=ab u->cs.lookup b=none:=λb u q=>by
  obtain z|⟨o',z⟩:=aT cs b
  ·exact z
  ·rw[none_of b o' z]at q;cases q
 have YM:HOk X.prog X.w (gx H cs) s.heap:=λb u q=>by
  obtain z|⟨o,z⟩:=aT cs b
  ·rw[aY z]at q;refine(I.hok b u q).stay (λ_ _ _ y=>y) (λd y=>?_) λd xs y=>?_
   ·rw[aY<|Jz d _ y];exact y
   ·rw[aY<|Jz d _ y];exact y
  ·rw[eE z]at q;cases q;exact hZ (hc b o z).2
 have e0:=I.env0;have e1:Env0 X.prog X.w X.K X.mg X.base X.A X.stack s (gx H cs):=
  ⟨e0.frames,e0.mod,λb o q=>⟨(e0.bs b o q).1,by rw[aY<|Wm b o q];exact(e0.bs b o q).2⟩,e0.bsz,e0.funs,λb q=>by rw[aY<|Tu b q];exact e0.frf b q,YM,e0.bare⟩
 have hl:us.length=ps.length:=by rw[<-r.length];exact F.len _ _ _ _ h
 have Vb:=hb s us I.kIn (by rw[GA];exact hl);rw[GA]at Vb;refine Mh<|Je (F.run X.A X.stack s (gx H cs) ⟨us,[]⟩ us vs _ E0 hr e1 Vb r h) λr s' hq=>?_;cases r with
 |error e=>exact Gn hq
 |ok fl=>
  cases fl with
  |next=>exact Gn hq
  |brk=>exact Gn hq
  |cont=>exact Gn hq
  |ret u=>
   obtain⟨v,H',os,bare,un,hok,rv,q⟩:=hq;obtain⟨hh,g,d,tk,Wo⟩:=s';obtain rfl:Wo=s.os:=os;have SZ:∀b o,cs.lookup b=ab o->H' b=ab (cq b o):=λb o z=>un.frzs b o (C5 b) (by rw[eE z];rfl);have un':Un (pQ X.stack) [] H (less H' cs) s.heap hh:=by
    refine⟨λb o e n hbf hx=>?_,λb o e n hbf hx=>?_,λb o e n hx=>?_,λb o e hx=>un.there b o e hx,λb xs e=>?_,λb o u e=>?_,λb qs e=>?_⟩
    ·obtain z|⟨o',z⟩:=aT cs b
     ·exact un.keep b o e (by rw[aY z];exact n) hbf hx
     ·have e2:=(hc b o' z).2;rw[e]at e2;cases e2;exact eB hok<|SZ b o z
    ·exact un.slot b o e (by rw[aY<|Tu b hbf];exact n) hbf hx
    ·obtain z|⟨o',z⟩:=aT cs b
     ·rw[bu z];exact un.free b o e (by rw[aY z];exact n) hx
     ·exact h_ z
    ·rw[bu<|Jz b _ e];exact un.tups b xs (by rw[aY<|Jz b _ e];exact e)
    ·rw[bu<|Jz b _ e];exact un.frzs b o u (by rw[aY<|Jz b _ e];exact e)
    ·rw[bu<|Jz b _ e];exact un.tbls b qs (by rw[aY<|Jz b _ e];exact e)
   have RU:HOk X.prog X.w (less H' cs) hh:=λb u e=>by
    have e':H' b=ab u:=lC _ _ e;refine(hok b u e').stay (λ_ _ _ y=>y) (λd y=>?_) λd xs y=>?_
    ·obtain z|⟨o',z⟩:=aT cs d
     ·rw[bu z];exact y
     ·rw[SZ d o' z]at y;cases y
    ·obtain z|⟨o',z⟩:=aT cs d
     ·rw[bu z];exact y
     ·rw[SZ d o' z]at y;cases y
   exact⟨v,_,I.call (h':=hh) (g':=g) (d':=d) (t':=tk) (ch:=[]) un' RU bare (λb z=>absurd z<|by simp),rv,q⟩
def rF(X:Cx)(σ:St)(names:bc Str)(cs:cP):Prop:=
 Paired (λ(y:Str) (q:f'×Obj)=>X.env.cells.lookup y=ab q.1/\∃u,q.2.data=.cell (ab u)/\∀(i:Nat) (v:V),X.N[i]? =ab y->σ[i]? =ab (ab v)->RelV v u) names cs
theorem oE(I:Inv X kS σ H s):∀names:bc Str,(∀y∈names,X.env.kindOf y=ab .cell/\∃(i:Nat) (v:V),X.N[i]? =ab y/\σ[i]? =ab (ab v))->
  ∃cs:cP,rF X σ names cs/\∀q∈cs,(∃y,X.env.cells.lookup y=ab q.1)/\s.heap.get? q.1=ab q.2
 |[],_=>⟨[],.nil,λq hq=>absurd hq<|by simp⟩
 |y::names,h=>by
  obtain⟨cs,h1,h2⟩:=oE I names λz hz=>h z<|Fx _ hz;obtain⟨hk,i,v,e1,e2⟩:=h y Fz;obtain⟨m,hn,hl⟩:=I.loc;have vis:Cd X.env.scope y:=.inr<|.inl hk;have look:∀(i:Nat) (v:V),X.N[i]? =ab y->σ[i]? =ab (ab v)->∃u,RelV v u/\∃c,X.env.cells.lookup y=ab c/\s.heap.IsCell c (ab u):=λi v e1 e2=>by
   obtain⟨u,r,l⟩:=hl i y v e1 e2 vis;obtain⟨kl,_⟩|⟨_,c,ec,ic⟩:=l
   ·rw[hk]at kl;cases kl
   ·exact⟨u,r,c,ec,ic⟩
  obtain⟨u,r,c,ec,o,ho,hd⟩:=look i v e1 e2;refine⟨(c,o)::cs,.cons ⟨ec,u,hd,λj v' e3 e4=>?_⟩ h1,λq hq=>?_⟩
  ·obtain⟨u',r',c',ec',o',QW,RL⟩:=look j v' e3 e4;rw[ec]at ec';cases ec';rw[ho]at QW;cases QW;rw[hd]at RL;cases RL;exact r'
  ·obtain rfl|hq:=Fl.mp hq
   ·exact⟨⟨y,ec⟩,ho⟩
   ·exact h2 q hq
theorem jo:∀{cs:cP} {b:f'} {o:Obj},cs.lookup b=ab o->(b,o)∈cs
 |[],_,_,e=>by simp at e
 |(a,oa)::cs,b,o,e=>by
  rw[Hh]at e;cases hb:(b == a)with
  |true=>
   rw[hb]at e;cases e;have z:b=a:=by simpa using hb
   subst z;exact Fz
  |false=>
   rw[hb]at e;exact Fx _<|jo e
inductive wa (X:Cx)(names:bc Str)(sp:Sp)(σ:St)(vs:bc V)(H:Hp)(Q:VK):Prop
 |mk (has:∀y∈names,∃(i:Nat) (v:V),X.N[i]? =ab y/\σ[i]? =ab (ab v)) (q:∀cs:cP,rF X σ names cs->(∀b o,cs.lookup b=ab o->H b=A')->sp vs (gx H cs) (λv H2=>Q v<|less H2 cs) E0):wa X names sp σ vs H Q
def wb(X:Cx)(names:bc Str)(sp:Sp)(t:TA):TE:=λσ H Q=>t σ H λvs H1=>wa X names sp σ vs H1 Q
theorem wc{ps:bc Str}{names:bc Str}(F:FnOk X.prog X.w X.K X.mg X.base bD k f fd ps sp)(hr:Room k X.A)(hg:Gl X x)(hm:X.mg x=ab (.ref f))(hk:x' X.K (.ref f)=kz)(hb:Binds X.K fd ps [])
  (ha:PA X (e::es) t) (RW:∀x,X.fn x=kz) (Np:∀y∈names,X.env.kindOf y=ab .cell) (Qy:(x == ("__debug__":Str))=false:=by decide) (he:Fu (e::es) X.env=(B',G0 e X.env)::Fu es X.env:=by rfl) (Kj:(HF pos<|Fu es X.env).any (·.1)=false:=by rfl):
  PE X (.Call (.Name x p) (e::es) [] pos) (wb X names sp t):=by
 intro kS s σ H Q I h;refine Gz<|jx I hg hm ?_ Qy;refine IT (h₀:=X.base) I.ok.mod.kin hk (bp (ha pos kS s σ H _ I h) λus s1 ⟨vs,H1,I1,r,has,q⟩=>⟨I1.kIn,?_⟩) he Kj;obtain⟨cs,c1,c2⟩:=oE I1 names λy hy=>⟨Np y hy,has y hy⟩;have c3:∀b o,cs.lookup b=ab o->(∃x,X.env.cells.lookup x=ab b)/\s1.heap.get? b=ab o:=λb o z=>c2 (b,o)<|jo z;exact yV F hr hb I1 r cs RW c3 (q cs c1 λb o z=>by
  obtain⟨⟨y,hy⟩,_⟩:=c3 b o z;exact I1.freeC y b hy)
inductive qA (X:Cx)(k:Nat)(f:f')(vs:bc V)(H:Hp)(Q:VK):Prop
 |mk (sp:Sp)(o:Obj)(fd:E6)(F:BC X.prog X.w X.K X.mg X.base k f sp)(h:H f=ab (cq f o))(d:o.data=.func fd)(q:sp vs H Q E0):qA X k f vs H Q
def BD(X:Cx)(k i:Nat)(t:TA):TE:=λσ H Q=>∃f,σ[i]? =ab (ab<|.ref f)/\t σ H λvs H1=>qA X k f vs H1 Q
theorem we(h:FU)(x:∃o fd,h.get? f=ab o/\o.data=.func fd):∃k,(k=Keeper.frame\/k=Keeper.machine\/k=Keeper.boundFrame)/\PySem.W.Looks M h (PySem.keeperOf<|.ref f) k:=by
 obtain⟨o,fd,e,d⟩:=x;obtain⟨c,dc,dt,sl⟩:=o;cases d;exact⟨.frame,.inl rfl,(Re (part:=A') e).andThen .now⟩
theorem wf(hr:Room k X.A)(ha:PA X (e::es) t)(hN:X.N[i]? =ab x:=by rfl)(hv:Cd X.env.scope x:=by first|exact E8 rfl|exact Ie (E8 rfl)|exact Ie<|Ie rfl)(hd:(x == ("__debug__":Str))=false:=by decide)
  (O6:(x == ("__classdict__":Str))=false:=by decide) (he:Fu (e::es) X.env=(B',G0 e X.env)::Fu es X.env:=by rfl) (Kj:(HF pos<|Fu es X.env).any (·.1)=false:=by rfl):
  PE X (.Call (.Name x p) (e::es) [] pos) (BD X k i t):=by
 intro kS s σ H Q I ⟨f,ef,h⟩;refine Gz<|bp (u4 hN hv hd O6 kS s σ H (λv H1=>v=.ref f/\t σ H1 λvs H1=>qA X k f vs H1 Q) I ⟨.ref f,ef,rfl,h⟩) λu s0 ⟨v,H0,I0,rv,ev,h0⟩=>?_;subst ev;obtain rfl:u=FY f:=rv;rw[he];refine PySem.W.callWith_of (by show((B' || (HF pos<|Fu es X.env).any (·.1)) || B')=B';rw[Kj];rfl) we<|Iy ?_;have z:=ha pos kS s0 σ H0 _ I0 h0;rw[he]at z;refine bp z λus s1 ⟨vs,H1,I1,r,sp,o,fd,F,hf,hdt,q⟩=>⟨⟨o,fd,eB I1.hok hf,hdt⟩,?_⟩;refine Mh<|Je (F X.A X.stack s1 H1 us vs Q E0 hr I1.env0 r q) λr s' hq=>?_;cases r with
 |error e=>exact Gn hq
 |ok fl=>
  cases fl with
  |ret u=>exact I1.after hq
  |next=>exact Gn hq
  |brk=>exact Gn hq
  |cont=>exact Gn hq
end
def Ab(P:E9)(w:Ft)(K:gV)(mg:Str->kb j')(base:FU)(N:bc Str)(qual:Str)(scope:Iv)(f c:f')(clos:bc (Str×f'))(A:Gm)(outer:bc Env)(s:Bs)(H:Hp):Cx where
 prog:=P
 w:=w
 K:=K
 mg:=mg
 base:=base
 A:=A.deeper (J6 qual scope s.heap.objs.size f (.ref c) clos)
 N:=N
 s₀:=s
 H₀:=H
 env:=J6 qual scope s.heap.objs.size f (.ref c) clos
 outer:=outer
 stack:=J6 qual scope s.heap.objs.size f (.ref c) clos::outer
 ex:=[]
 calm:=kz
 fn:=λ_=>B'
 pn:=[]
 xe:=λ_ _=>False
structure oF (x:Str)(xs:bc Str)(sc:Iv):Prop where
 kind:sc.kind=.function
 co:sc.isCoroutine=B'
 gen:sc.isGenerator=B'
 par:sc.names.lookup x=ab .local
 fr:∀y∈xs,sc.names.lookup y=ab .free
 all:∀y∈sc.names,y.2=.free->y.1∈xs
 nocell:∀y∈sc.names,y.2≠.cell
 nd:xs.Nodup
def CapAt(H:Hp)(cs:cP)(JS:bc V):Prop:=Paired (λ(p:f'×Obj) (v:V)=>H p.1=ab (cq p.1 p.2)/\∃u,p.2.data=.cell (ab u)/\RelV v u) cs JS
theorem CapAt.mono(x:CapAt H cs JS)(k:∀b o,H b=ab (cq b o)->H' b=ab (cq b o)):CapAt H' cs JS:=Paired.mapP x λ_ _ z=>⟨k _ _ z.1,z.2⟩
theorem CapAt.look:∀{cs:cP} {JS:bc V},CapAt H cs JS->∀b o,cs.lookup b=ab o->H b=ab (cq b o)
 |_,_,.nil,b,o,e=>by simp at e
 |(a,oa)::cs,_,.cons r t,b,o,e=>by
  rw[Hh]at e;cases hb:(b == a)with
  |true=>
   rw[hb]at e;cases e;have z:b=a:=by simpa using hb
   subst z;exact r.1
  |false=>
   rw[hb]at e;exact CapAt.look t b o e
theorem oG:∀{xs:bc Str} {cs:cP} {JS:bc V} {H:Hp} {j:Nat} {y:Str} {v:V},xs.Nodup->CapAt H cs JS->xs[j]? =ab y->JS[j]? =ab v->∃b o u,(xs.zip (cs.map (·.1))).lookup y=ab b/\H b=ab (cq b o)/\o.data=.cell (ab u)/\RelV v u
 |[],_,_,_,_,_,_,_,_,e,_=>by simp at e
 |_::_,_,_,_,_,_,_,_,.nil,_,e=>by simp at e
 |x::xs,(a,oa)::cs,w::JS,H,0,y,v,_,.cons r _,e1,e2=>by
  simp at e1 e2;subst e1 e2;obtain⟨h,u,d,rv⟩:=r;exact⟨a,oa,u,by simp,h,d,rv⟩
 |x::xs,(a,oa)::cs,w::JS,H,j+1,y,v,nd,.cons _ t,e1,e2=>by
  obtain⟨n1,n2⟩:=GK.mp nd;have Sm:xs[j]? =ab y:=by simpa using e1
  obtain⟨b,o,u,z,r⟩:=oG n2 t Sm (by simpa using e2);refine⟨b,o,u,?_,r⟩;have ne:y≠x:=λq=>n1<|q▸Fd Sm;show((x,a)::xs.zip (cs.map (·.1))).lookup y=ab b
  rw[Hh];have hb:(y == x)=false:=by simpa using ne
  rw[hb];exact z
theorem rG:∀{xs:bc Str} {as:bc f'} {y:Str},xs.length<=as.length->y∈xs->∃c,(xs.zip as).lookup y=ab c
 |[],_,_,_,h=>by simp at h
 |_::_,[],_,h,_=>by simp at h
 |x::xs,a::as,y,hl,h=>by
  show∃c,((x,a)::xs.zip as).lookup y=ab c
  rw[Hh];cases hb:(y == x)with
  |true=>exact⟨a,rfl⟩
  |false=>
   have ne:y≠x:=by simpa using hb
   exact rG (by simpa using hl)<|(Fl.mp h).resolve_left ne
theorem rH{xs:bc Str}{cs:cP}{y:Str}{c:f'}(e:(xs.zip (cs.map (·.1))).lookup y=ab c):∃o,(c,o)∈cs:=by
 have m:=(IP<|F_ e).2;obtain⟨⟨a,o⟩,hm,rfl⟩:=FW.mp m;exact⟨o,hm⟩
theorem lD:∀(xs:bc Str) (as:bc f'),as.Nodup->((xs.zip as).map (·.2)).Nodup
 |[],_,_=>by simp
 |_::_,[],_=>by simp
 |x::xs,a::as,h=>by
  obtain⟨h1,h2⟩:=GK.mp h;show(a::(xs.zip as).map (·.2)).Nodup
  refine GK.mpr ⟨λm=>h1 ?_,lD xs as h2⟩;obtain⟨⟨y,b⟩,hm,rfl⟩:=FW.mp m;exact(IP hm).2
theorem jp:∀{cs:cP} {b:f'} {o:Obj},(b,o)∈cs->∃o',cs.lookup b=ab o'
 |[],_,_,h=>by simp at h
 |(a,oa)::cs,b,o,h=>by
  rw[Hh];cases hb:(b == a)with
  |true=>exact⟨oa,rfl⟩
  |false=>
   have ne:b≠a:=by simpa using hb
   exact jp<|(Fl.mp h).resolve_left λz=>ne<|Gg Prod.fst z
section
variable {K:gV}
inductive wg (P:E9)(w:Ft)(K:gV)(mg:Str->kb j')(base:FU)(k:Nat)(f:f')(qual:Str)(params:IB)(body:F')(scope:Iv)(x:Str)(xs:bc Str)(vs:bc V)(H:Hp)(Q:VK):Prop
 |mk (v:V)(cs:cP)(JS:bc V)(h0:vs=[v])(h1:LamAt H f qual params body scope (xs.zip (cs.map (·.1))))(h2:CapAt H cs JS)(h3:xs.length=JS.length)(h4:(cs.map (·.1)).Nodup)
  (h5:∀(c:f') (A:Gm) (outer:bc Env) (s:Bs),Room k (A.deeper (J6 qual scope s.heap.objs.size f (.ref c) (xs.zip (cs.map (·.1)))))->
   ∃t,PE (Ab P w K mg base (x::xs) qual scope f c (xs.zip (cs.map (·.1))) A outer s<|less H cs) body t/\t (ab v::JS.map ab) (less H cs) (λu H'=>Q u<|gx H' cs)):wg P w K mg base k f qual params body scope x xs vs H Q
theorem ke{α β:Type}{F:α->β->Prop}:∀{l₁:bc α} {l₂:bc β},Paired F l₁ l₂->l₁.length=l₂.length
 |_,_,.nil=>rfl
 |_,_,.cons _ t=>by rw[FI,FI,ke t]
theorem yW(S:oF x xs scope)(Rv:∀clos pm O8 u c,NZ (PySem.W.kla_fn "<lambda>" qual params body scope clos pm (.ref c) O8) ⟨[u],[]⟩=pure [(x,u)])
  (h:∀vs H Q E,sp vs H Q E->wg P w K mg base k f qual params body scope x xs vs H Q):BC P w K mg base (k+1) f sp:=by
 intro A outer s H us vs Q E hr e0 r Ri;obtain⟨v,cs,JS,rfl,⟨pm,O8,c,hf,c',oc,vs',tq,ec,hc,O6,hq⟩,Th,ZM,hnd,YH⟩:=h vs H Q E Ri;cases ec;obtain⟨u,rfl,ru⟩:=dD r;have csl:cs.length=JS.length:=ke Th;have of:=eB e0.hok hf;have ocd:s.heap.CodeRec (.ref c) qual:=⟨c,oc,vs',tq,rfl,eB e0.hok hc,O6,hq⟩;have Yp:s.heap.NoLimit:=e0.mod.nolimit.keeps λb o e=>(e0.bs b o e).1;refine PySem.W.kla_callFunE hr.depth of rfl S.co S.gen rfl ocd ?_;rw[show NZ _ _=_ from Rv _ pm O8 u c];refine Fm<|wpAny_newFunctionEnv S.nocell (λy hy=>?_) (λh₁ QX Sd=>⟨Yp.keeps λb o e=>?_,?_⟩) S.kind
 ·obtain rfl:y=(x,u):=Fb.mp hy;exact S.par
 ·exact Sd.extBut b o (Fi<|E4 e)<|EV _ e
 show codeAny _ _ (.expr body (J6 qual scope s.heap.objs.size f (.ref c) (xs.zip (cs.map (·.1))))) _ _
 have hk₁:∀b o,s.heap.get? b=ab o->h₁.get? b=ab o:=λb o e=>Sd.extBut b o (Fi<|E4 e)<|EV _ e;obtain⟨t,ht,Qi⟩:=YH c A outer s<|hr.deeper _;have QB:∀b o,cs.lookup b=ab o->H b=ab (cq b o):=Th.look;have UE:∀b o,(b,o)∈cs->∃o',cs.lookup b=ab o'/\H b=ab (cq b o'):=λb o m=>by
  obtain⟨o',e⟩:=jp m;exact⟨o',e,QB b o' e⟩
 have Jz:∀b u,H b=ab u->(∀o,u≠cq b o)->cs.lookup b=none:=λb u e n=>by
  obtain z|⟨o,z⟩:=aT cs b
  ·exact z
  ·rw[QB b o z]at e;cases e;exact absurd rfl<|n o
 have PD:∀b,H b=A'->cs.lookup b=none:=λb e=>by
  obtain z|⟨o,z⟩:=aT cs b
  ·exact z
  ·rw[QB b o z]at e;cases e
 have T5:HOk P w (less H cs) s.heap:=λb u' e=>by
  have e':H b=ab u':=lC _ _ e;refine(e0.hok b u' e').stay (λ_ _ _ y=>y) (λd y=>?_) λd zs y=>?_
  ·rw[bu<|Jz d _ y λo z=>nomatch z];exact y
  ·rw[bu<|Jz d _ y λo z=>nomatch z];exact y
 have SS:∀b,s.heap.objs.size<=b->less H cs b=none:=λb hb=>T5.fresh hb;have PF:∀b,H b=A'->less H cs b=none:=λb e=>by
  rw[bu<|PD b e];exact e
 have I:Inv (Ab P w K mg base (x::xs) qual scope f c (xs.zip (cs.map (·.1))) A outer s<|less H cs) [] (ab v::JS.map ab) (less H cs) {s with heap:=h₁,toks:=s.toks+[(x,u)].length}:=by
  refine⟨⟨e0.mod,S.kind,rfl,rfl,lb _,λy z c h1 h2=>?_,λy hy=>?_,λy c hz=>absurd (show B'=kz from hz) i',λ_=>hr.hd,LI e0.frames,.inr ⟨rfl,rfl⟩,λb z=>absurd (show b∈([]:bc f')from z) (by simp),λb o e=>⟨(e0.bs b o e).1,PF b (e0.bs b o e).2⟩,e0.bsz,λb _ _ z=>absurd (show b∈([]:bc f')from z) (by simp),λb z=>absurd (show b∈([]:bc f')from z) (by simp),e0.funs,λb hb=>PF b<|e0.frf b hb⟩,
   rfl,e0.bare,Un.kept hk₁,⟨_,QX,λi y v' h1 h2 h3=>?_⟩,λy c h=>?_,SS _<|lb _,λy c h=>?_,λp hp=>absurd (show p∈([]:bc (f'×Obj))from hp) (by simp),T5.kept hk₁,?_⟩
  ·exact MG (Ku.mp<|lD xs _ hnd) (F_ h1)<|F_ h2
  ·have hy:scope.names.lookup y=ab .cell\/scope.names.lookup y=ab .free:=hy;obtain hy|hy:=hy
   ·exact absurd rfl<|S.nocell _<|F_ hy
   ·exact rG (by rw[ka,csl,ZM];exact lb _)<|S.all _ (F_ hy) rfl
  ·replace h1:(x::xs)[i]? =ab y:=h1;cases i with
   |zero=>
    simp at h1 h2;subst h1 h2;exact⟨u,ru,.inl ⟨S.par,by simp⟩⟩
   |succ j=>
    have h1':xs[j]? =ab y:=by simpa using h1
    have Rw:JS[j]? =ab v':=by
     have q:(JS.map ab)[j]? =ab (ab v'):=by simpa using h2
     rw[Fk]at q;obtain⟨a,ha,e⟩:=FV.mp q;cases e;exact ha
    obtain⟨b,o,u',z1,z2,z3,z4⟩:=oG S.nd Th h1' Rw;exact⟨u',z4,.inr ⟨.inr<|S.fr y<|Fd h1',b,z1,o,hk₁ _ _<|eB e0.hok z2,z3⟩⟩
  ·obtain⟨o,m⟩:=rH h;obtain⟨o',e,z⟩:=UE c o m;have cd:∃u,o'.data=.cell (ab u):=by
    have all:∀{l:cP} {cp:bc V},CapAt H l cp->∀b o,l.lookup b=ab o->∃u,o.data=.cell (ab u):=by
     intro l
     induction l with
     |nil=>intro cp _ b o e;simp at e
     |cons a l ih=>
      intro cp hc b o e;cases hc with
      |cons r t=>
       obtain⟨a1,a2⟩:=a;rw[Hh]at e;cases hb:(b == a1)with
       |true=>
        rw[hb]at e;cases e;obtain⟨_,u,d,_⟩:=r;exact⟨u,d⟩
       |false=>
        rw[hb]at e;exact ih t b o e
    exact all Th c o' e
   obtain⟨u',d'⟩:=cd;exact⟨ab u',o',hk₁ _ _<|eB e0.hok z,d'⟩
  ·obtain⟨o,m⟩:=rH h;obtain⟨o',e,z⟩:=UE c o m;exact h_ e
  ·show(ab v::JS.map ab).length=(x::xs).length
   rw[FI,FI,ka,ZM]
 refine PySem.W.kla_codeExpr<|GX (ht [] _ _ _ _ I Qi) (λu2 s' hs=>?_) λe s' hs=>Gn hs;obtain⟨v2,H',J,rv,q⟩:=hs;have un:Un (pQ outer) [] (less H cs) H' s.heap s'.heap:=J.base;have unL:∀b o,s.heap.get? b=ab o->H b=A'->b∉pQ outer->s'.heap.get? b=ab o:=λb o e n hb=>un.keep b o e (PF b n) hb (by show b∉([]:bc f');simp);have Tn:∀b o,cs.lookup b=ab o->s'.heap.get? b=ab o:=λb o z=>by
  refine un.keep b o (eB e0.hok<|QB b o z) (h_ z) (λhb=>?_) (by show b∉([]:bc f');simp);have y:=e0.frf b hb;rw[QB b o z]at y;cases y
 have H'c:∀b o,cs.lookup b=ab o->H' b=none:=λb o z=>un.free b o (eB e0.hok<|QB b o z) (h_ z) (by show b∉([]:bc f');simp);refine⟨v2,gx H' cs,J.os,J.bare,⟨λb o e n hb hx=>unL b o e n hb,λb o e n hb hx=>un.slot b o e (PF b n) hb hx,λb o e n hx=>?_,λb o e hx=>un.there b o e hx,λb zs e=>?_,λb o z e=>?_,λb qs e=>?_⟩,λb u' e=>?_,rv,q⟩
 ·rw[aY<|PD b n];exact un.free b o e (PF b n) hx
 ·have z:=Jz b _ e λo z=>nomatch z
  rw[aY z];exact un.tups b zs (by rw[bu z];exact e)
 ·obtain y|⟨o',y⟩:=aT cs b
  ·rw[aY y];exact un.frzs b o z (by rw[bu y];exact e)
  ·rw[eE y,<-QB b o' y];exact e
 ·have z:=Jz b _ e λo z=>nomatch z
  rw[aY z];exact un.tbls b qs (by rw[bu z];exact e)
 ·obtain y|⟨o',y⟩:=aT cs b
  ·rw[aY y]at e;refine(J.hok b u' e).stay (λ_ _ _ y=>y) (λd y'=>?_) λd zs y'=>?_
   ·obtain z|⟨o',z⟩:=aT cs d
    ·rw[aY z];exact y'
    ·rw[H'c d o' z]at y';cases y'
   ·obtain z|⟨o',z⟩:=aT cs d
    ·rw[aY z];exact y'
    ·rw[H'c d o' z]at y';cases y'
  ·rw[eE y]at e;cases e;exact hZ<|Tn b o' y
end
theorem BE{X:Cx}{j:Nat}{k:Nat}{f:f'}{fd:E6}{ps:bc Str}{sp:Sp}{x:Str}{p:Pos}{pos:Pos}{e:F'}{es:bc F'}{t:TA}(names:bc Str)(G:Fn X.prog X.w X.K X.mg X.base j x f fd ps sp)(hr:Room k X.A)(SH:j<=k)(hg:Gl X x)(RW:∀x,X.fn x=kz)(Np:∀y∈names,X.env.kindOf y=ab .cell)(ha:PA X (e::es) t)(Qy:(x == ("__debug__":Str))=false:=by decide)
  (he:Fu (e::es) X.env=(B',G0 e X.env)::Fu es X.env:=by rfl) (Kj:(HF pos<|Fu es X.env).any (·.1)=false:=by rfl):
  PE X (.Call (.Name x p) (e::es) [] pos) (wb X names sp t):=wc G.ok (hr.mono SH) hg G.at_ G.kp G.b ha RW Np Qy he Kj
structure FunL (K:gV)(x qual:Str)(st:Gs)(f:f')(fd:E6)(c:f'):Prop where
 ex:∃(oc:j') (od:kb f') (kV NJ pm:j') (an:kb f') (ct:j') (Q4:HK (kb j')),
  fd=EZ x qual (aw st) (ar st) (ah st) .none kV NJ pm an (.ref c) ct/\K.lookup f=ab ⟨oc,od,.func fd,Q4⟩/\EU K (.ref c) qual=kz
section
variable {K:gV}
theorem FunL.ok{st:Gs}{k:Nat}(F:FunL K x qual st f fd c)(S:ax N ps (ah st))(len:∀vs H Q E,sp vs H Q E->vs.length=ps.length)
  (PN:∀A outer s H vs Q E,Room k (A.deeper<|Ho qual (ah st) s.heap.objs.size f<|.ref c)->sp vs H Q E->
   ∃t,PSs (qf bD P w K mg base N qual (ah st) f (.ref c) A outer s H E).nox (ar st) t/\t {nx:=λ_ H'=>Q .non H',rt:=Q} (start N vs) H):FnOk P w K mg base bD (k+1) f fd ps sp:=by
 obtain⟨oc,od,kV,NJ,pm,an,ct,Q4,rfl,lk,O6⟩:=F.ex;refine zU lk O6 S len λA outer s H vs Q E hr Ri=>?_;obtain⟨t,h,q⟩:=PN A outer s H vs Q E hr Ri;exact⟨t,h.nox,q⟩
theorem FunL.toFun{st:Gs}(F:FunL K x qual st f fd c)(k:x' K (.ref f)=kz):Fun K x qual st f fd:=by
 obtain⟨oc,od,kV,NJ,pm,an,ct,Q4,e,lk,O6⟩:=F.ex;exact⟨⟨oc,od,kV,NJ,pm,an,.ref c,ct,Q4,e,lk,O6⟩,k⟩
end
def Ac(o:Obj)(T:f'):Prop:=∃(vs:HK j') (SU:Str) (tf:Tok) (Rx:Int) (tg:Tok) (Yy:ER) (Sr:Int) (tt:Tok),o.cls=.type "code"/\o.data=.fields vs/\vs[11]? =ab (.ref T)/\vs.getD 11 .none=.ref T/\vs.getD 18 .none=.str SU tf/\
  vs.getD 7 .none=.int Rx tg/\vs.getD 9 .none=.bool Yy/\vs.getD 10 .none=.int Sr tt
theorem lE{K:gV}(X:K.In h)(l:K.lookup c=ab o)(p:Ac o T)(ne:c≠T):HS h c T:=by
 obtain⟨vs,SU,tf,Rx,tg,Yy,Sr,tt,h1,h2,h3,h4,h5,h6,h7,h8⟩:=p;exact⟨o,vs,SU,tf,Rx,tg,Yy,Sr,tt,X _ _ l,h1,h2,h3,h4,h5,h6,h7,h8,ne⟩
def BM(mg:Str->kb j')(h:FU):Prop:=∃bm ob,mg "__builtins__"=ab (.ref bm)/\bm≠JF/\h.get? bm=ab ob/\ob.cls=.type "module"/\ob.dict=ab JF/\ob.data=.plain
theorem uf{P:E9}{w:Ft}{K:gV}{mg mb:Str->kb j'}{k:Nat}{fa a:f'}{fd:E6}{x:Str}{sp:Sp}{s₁:Bs}{vs:bc j'}{ns:bc Int}(Ts:bc f')
  (KX:K.In s₁.heap) (QX:s₁.heap.Ns EO mg) (hb:s₁.heap.Ns JF mb) (Za:∀x:Str,x≠"__name__"->mb x=Jg x) (hbm:BM mg s₁.heap) (YX:s₁.heap.NoLimit) (hg:s₁.gens=#[])
  (ha:s₁.heap.get? a=ab {cls:=.type "list",data:=.seq vs.toArray}) (hi:Kr vs ns) (hl:ns.length<=sizeLine) (hr:Room k LX)
  (hT:∀T∈Ts,s₁.heap.get? T=ab (Iu #[])) (Us:∀T∈Ts,K.lookup T=A') (hTc:∀T∈Ts,∃c,HS s₁.heap c T)
  (F:∀base:FU,K.In base->base.Ns EO mg->BM mg base->FnOk P w K mg base bD k fa fd [x] sp) (Rv:∀(s:Bs) (u:j'),MO s fd ⟨[u],[]⟩ [(x,u)])
  (Ri:∀H:Hp,(∀T∈Ts,H T=ab (.tbl #[]))->SqL K H a (ns.map V.int)->sp [.ref a] H (λv _=>v=.bl kz) λ_ _ _=>False):
  codeAny (FE P w) LX (.call (.ref fa) ⟨[.ref a],[]⟩) (λr s'=>r=.ok (.ret<|.bool kz)/\OldK s₁.heap s'.heap/\s'.os=s₁.os/\Ks s'.gens) s₁:=by
 have rv:=iF hi;have Yq:=hi.length;have US:∀T∈Ts,T≠a:=λT h z=>by
  have e:=hT T h;rw[z,ha]at e;cases e
 have UB:∀H:Hp,(∀b,H b≠A'->b∈Ts\/b=a)->(∀T∈Ts,H T=ab (.tbl #[]))->(∀u,H a=ab u->∃o,u=.frz o (.lst<|ns.map V.int))->SqL K H a (ns.map V.int)->HOk P w H s₁.heap->(H a≠A'->K.lookup a=A')->
   codeAny (FE P w) LX (.call (.ref fa) ⟨[.ref a],[]⟩) (λr s'=>r=.ok (.ret<|.bool kz)/\OldK s₁.heap s'.heap/\s'.os=s₁.os/\Ks s'.gens) s₁:=by
  intro H hA hHT hHa hS hok hK;have O9:∀{b:f'} {o:Obj},s₁.heap.get? b=ab o->H b=A'->(kM s₁.heap H).get? b=ab o:=λe n=>u3 e n;have Zz:∀{b:f'} {o:Obj},s₁.heap.get? b=ab o->(∀vs n,o.data≠.seq vs n)->(∀vs,o.data≠.fields vs)->H b=none:=λ{b o} e d1 d2=>by
   cases q:H b with
   |none=>rfl
   |some u=>
    obtain h|h:=hA b (by rw[q];simp)
    ·rw[hT b h]at e;cases e;exact absurd rfl<|d2 _
    ·subst h;rw[ha]at e;cases e;exact absurd rfl<|d1 _ _
  have UP:∀{b:f'} {m:Str->kb j'},s₁.heap.Ns b m->(kM s₁.heap H).Ns b m:=λ{b m} ⟨o,es,ep,e,d,r⟩=>⟨o,es,ep,O9 e (Zz e (λvs n z=>by rw[d]at z;cases z) λvs z=>by rw[d]at z;cases z),d,r⟩;have Vc:K.In (kM s₁.heap H):=λb o e=>O9 (KX b o e) (by
   cases q:H b with
   |none=>rfl
   |some u=>
    obtain h|h:=hA b (by rw[q];simp)
    ·rw[Us b h]at e;cases e
    ·subst h;rw[hK<|by rw[q];simp]at e;cases e)
  have Zh:BM mg (kM s₁.heap H):=by
   obtain⟨bm,ob,b1,b2,b3,b4,b5,b6⟩:=hbm;exact⟨bm,ob,b1,b2,O9 b3 (Zz b3 (λvs n z=>by rw[b6]at z;cases z) λvs z=>by rw[b6]at z;cases z),b4,b5,b6⟩
  have hM:Mod K mg (kM s₁.heap H):=⟨Vc,UP QX,⟨mb,UP hb,Za⟩,let ⟨mc,h1,h2⟩:=YX;⟨mc,UP h1,h2⟩⟩;have e0:Env0 P w K mg (kM s₁.heap H) LX [] s₁ H:=⟨rfl,hM,λb o e=>yh e,Pp<|tE _ _,trivial,λb hb=>absurd (show b∈([]:bc f')from hb) (by simp),hok,.of_eq hg⟩;refine Je ((F _ Vc (UP QX) Zh).run LX [] s₁ H ⟨[.ref a],[]⟩ [.ref a] [.ref a] _ _ hr e0 (Rv s₁<|.ref a) (.cons rfl .nil)<|Ri H hHT hS) λr s' h=>?_;cases r with
  |error e=>exact Gn h
  |ok fl=>
   cases fl with
   |next=>exact Gn h
   |brk=>exact Gn h
   |cont=>exact Gn h
   |ret u=>
    obtain⟨v,H',os,bare,un,RU,r',q⟩:=h;have q':v=.bl true:=q;subst q';obtain rfl:u=Mp true:=r';have RA:∀b o,s₁.heap.get? b=ab o->s'.heap.get? b=ab o\/(b∈Ts/\o=Iu #[]/\∃more,s'.heap.get? b=ab (Iu more)):=λb o e=>by
     cases q:H b with
     |none=>exact .inl (un.keep b o e q (by intro z;exact absurd (show b∈([]:bc f')from z)<|by simp)<|by simp)
     |some u=>
      obtain z|z:=hA b (by rw[q];simp)
      ·obtain⟨more,z2⟩:=un.tbls b #[]<|hHT b z;rw[hT b z]at e;cases e;exact .inr ⟨z,rfl,_,RU b _ z2⟩
      ·subst z;obtain⟨ob,rfl⟩:=hHa u q;have z2:=un.frzs b ob _ q;obtain⟨e1,_⟩:=hok b _ q;obtain⟨e2,_⟩:=RU b _ z2;rw[e]at e1;cases e1;exact .inl e2
    refine⟨rfl,⟨λb o e=>?_,λb o e=>?_⟩,os,bare⟩
    ·obtain z|⟨hb,rfl,more,z⟩:=RA b o e
     ·exact .inl z
     ·obtain⟨c,C⟩:=hTc b hb;exact .inr<|.inl ⟨(C.tab<|hT b hb).isCodeTable,rfl,#[],more,rfl,by rw[z];simp⟩
    ·obtain z|⟨_,_,more,z⟩:=RA b o e
     ·exact⟨o,z⟩
     ·exact⟨_,z⟩
 cases hk:K.lookup a with
 |some o=>
  have e:=KX a o hk;rw[ha]at e;cases e;refine UB (λb=>if b∈Ts then ab (.tbl #[])else A') (λb z=>?_) (λT h=>Fc h) (λu z=>?_) (.inr ⟨_,vs.toArray,_,hk,rfl,rfl,rfl,by rw[Ff,Yq];exact hl,by simpa using rv⟩) (λb u z=>?_) λz=>?_
  ·by_cases hb:b∈Ts
   ·exact .inl hb
   ·exact absurd (E7 hb) z
  ·have z':=(E7 λh=>US a h rfl).symm.trans z;cases z'
  ·by_cases hb:b∈Ts
   ·have z':=(Fc hb).symm.trans z;cases z';exact hT b hb
   ·have z':=(E7 hb).symm.trans z;cases z'
  ·exact absurd (E7 λh=>US a h rfl) z
 |none=>
  refine UB (λb=>if b∈Ts then ab (.tbl #[])else if b=a then ab (.frz {cls:=.type "list",data:=.seq vs.toArray}<|.lst<|ns.map V.int)else A') (λb z=>?_) (λT h=>Fc h) (λu z=>?_)
   (.inl<|.inr ⟨{cls:=.type "list",data:=.seq vs.toArray},(E7 λh=>US a h rfl).trans<|Fc rfl⟩) (λb u z=>?_) λ_=>hk
  ·by_cases hb:b∈Ts
   ·exact .inl hb
   ·by_cases Td:b=a
    ·exact .inr Td
    ·exact absurd ((E7 hb).trans<|E7 Td) z
  ·have z':=((E7 λh=>US a h rfl).trans<|Fc rfl).symm.trans z;cases z';exact⟨_,rfl⟩
  ·by_cases hb:b∈Ts
   ·have z':=(Fc hb).symm.trans z;cases z';exact hT b hb
   ·have z':=(E7 hb).symm.trans z;by_cases Td:b=a
    ·have z2:=(Fc Td).symm.trans z';cases z2;subst Td;exact⟨ha,by rw[ka];exact hl,vs,_,rv,ha⟩
    ·have z2:=(E7 Td).symm.trans z';cases z2
theorem walk_ofT{l:JN}{n k:Nat}{q:E9}{loose:bc Str}{XP:(Str->kb j')->FU->Prop}{YP:Ft->FU->Prop}{d:DefRec}{K:M9->gV}{sp:Ft->Sp}{x:Str}(Ts:bc f')
  (hn:l.most=ab n) (U4:n<=sizeLine) (Ul:d.params.defaults=[]) (hr:Room k LX)
  (hY:∀(w:Ft) (h:FU),YP w h->(K w.params).In h/\∀T∈Ts,h.get? T=ab (Iu #[])) (Us:∀P:M9,(Ts.all λT=>((K P).lookup T).isNone)=kz)
  (F:∀(w:Ft) (mg:Str->kb j') (fa:f') (h:FU),(K w.params).In h->h.Ns EO mg->mg d.name=ab (.ref fa)->
   ∃fd:E6,(∀(s:Bs) (u:j'),MO s fd ⟨[u],[]⟩ [(x,u)])/\(∀T∈Ts,∃c,HS h c T)/\
    ∀base:FU,(K w.params).In base->base.Ns EO mg->BM mg base->FnOk l.prog w (K w.params) mg base bD k fa fd [x] (sp w))
  (Ri:∀(w:Ft) (H:Hp) (a:f') (ns:bc Int),ns.length<=n->(∀T∈Ts,H T=ab (.tbl #[]))->SqL (K w.params) H a (ns.map V.int)->sp w [.ref a] H (λv _=>v=.bl kz) λ_ _ _=>False):
  M7 q loose XP YP l.row.toRowW d [] (λf vs=>Mm f vs):=by
 refine Att.attach_call hn Ul λw s₀ s₁ mg mb fa o pm cd NJ a vs ns G Y ho hd O6 hmg SE PL G' hg=>?_;obtain⟨KX,hT⟩:=hY w _ Y;obtain⟨fd,hb,hc,hF⟩:=F w mg fa _ KX G.T.g hmg;exact uf Ts KX G.T.g G.T.b G.T.builtins G.T.bmain G.T.nolimit hg SE PL (FM G' U4) hr hT (λT h=>Option.isNone_iff_eq_none.mp<|Gq.mp (Us w.params) T h) hc hF hb λH h1 h2=>Ri w H a ns G' h1 h2
def Ei:F':=.Constant .none 0 ⟨0,0,0,0⟩
def Ej:bc Gs->F'
 |.Return (ab e) _::_=>e
 |_=>Ei
def Ek:F'->Nat->F'
 |.Call _ es _ _,i=>es.getD i Ei
 |_,_=>Ei
def BF:F'->IB
 |.Lambda a _ _ _=>a
 |_=>{posonlyargs:=[],args:=[],vararg:=A',kwonlyargs:=[],kw_defaults:=[],kwarg:=A',defaults:=[]}
def BG:F'->F'
 |.Lambda _ b _ _=>b
 |e=>e
def BH:F'->Iv
 |.Lambda _ _ s _=>s
 |_=>{kind:=.function,names:=[],isGenerator:=B',isCoroutine:=B'}
def El:F'->Pos
 |.Lambda _ _ _ p=>p
 |_=>⟨0,0,0,0⟩
theorem Off.free(k:Off T H H')(t:TabAt H' T pos qual)(h:H' a=A'):H a=none:=by
 cases q:H a with
 |none=>rfl
 |some o=>
  obtain⟨ps,e,_⟩:=t;have ne:a≠T:=λz=>by rw[z,e]at h;cases h
  rw[k a o ne q]at h;cases h
theorem Off.same(k:Off T H H')(k2:Same H' H2):Off T H H2:=λb o n e=>k2 _ _<|k b o n e
theorem Off.of(k:Same H H'):Off T H H':=λb o _ e=>k b o e
theorem Off.at_(k:Off T H H')(t:TabAt H T pos qual)(e:H b=ab o)(n:∀ps,o≠.tbl ps):H' b=ab o:=by
 refine k b o (λz=>?_) e;obtain⟨ps,e2,_⟩:=t;rw[z,e2]at e;cases e;exact n ps rfl
theorem CapAt.less(c:CapAt H cs JS)(e:H b=ab u)(n:∀o,u≠cq b o):less H cs b=ab u:=by
 obtain z|⟨o,z⟩:=aT cs b
 ·rw[bu z];exact e
 ·rw[c.look b o z]at e;cases e;exact absurd rfl<|n o
mutual
theorem mT(kl:∀b xs,H b=ab (.lst xs)->H' b=ab (.lst xs))(kt:∀b xs,H b=ab (.tup xs)->H' b=ab (.tup xs)):∀d v,RD H d v->RD H' d v
 |.none,v,h=>by unfold RD at h ⊢;exact h
 |.bool b,v,h=>by unfold RD at h ⊢;exact h
 |.int i,v,h=>by unfold RD at h ⊢;exact h
 |.str x,v,h=>by unfold RD at h ⊢;exact h
 |.list ds,v,h=>by
  obtain⟨a,xs,e,h1,h2⟩:=cg h;subst e;exact di (kl _ _ h1)<|kg kl kt ds xs h2
 |.tuple ds,v,h=>by
  obtain⟨a,xs,e,h1,h2⟩:=aV h;subst e;exact cX (kt _ _ h1)<|kg kl kt ds xs h2
 |.dict _,v,h=>by
  unfold RD at h;exact h.elim
theorem kg(kl:∀b xs,H b=ab (.lst xs)->H' b=ab (.lst xs))(kt:∀b xs,H b=ab (.tup xs)->H' b=ab (.tup xs)):∀ds xs,eP H ds xs->eP H' ds xs
 |[],xs,h=>by unfold eP at h ⊢;exact h
 |d::ds,xs,h=>by
  unfold eP at h ⊢;obtain⟨y,ys,e,h1,h2⟩:=h;exact⟨y,ys,e,mT kl kt d y h1,kg kl kt ds ys h2⟩
end
theorem qB(r:RD H d v)(k:Off T H H')(t:TabAt H T pos qual):RD H' d v:=
 mT (λ_ _ e=>k.at_ t e λ_ z=>nomatch z) (λ_ _ e=>k.at_ t e λ_ z=>nomatch z) d v r
theorem yX(r:RD H d v)(c:CapAt H cs JS):RD (less H cs) d v:=
 mT (λ_ _ e=>c.less e λ_ z=>nomatch z) (λ_ _ e=>c.less e λ_ z=>nomatch z) d v r
end L2
namespace L2
theorem TabAt.start(h:H T=ab (.tbl #[])):TabAt H T pos qual:=⟨#[],h,trivial,λcv e=>nomatch e⟩
end L2
namespace L2
open PySem PySem.Spec PyProof.Rows
def C7:V->Hp->VK->Prop:=λx H Q=>∃n:Nat,x=.int (n:Int)/\n<=1000/\∀l:f',H l=A'->Q (.ref l) (upd H l<|.lst ((Fy n).map λi:Nat=>V.int (i:Int)))
theorem lF(k:Nat):∀us,(∀j v,us[j]? =ab v->∃t,v=J8 ((k+j:Nat):Int) t)->Vals ((List.range' k us.length).map λi:Nat=>V.int (i:Int)) us
 |[],_=>.nil
 |u::us,h=>by
  refine .cons (h 0 u rfl) ?_;have h2:=lF (k+1) us λj v hv=>by
   obtain⟨t,e⟩:=h (j+1) v hv;exact⟨t,by rw[e];congr 2;lia⟩
  exact h2
theorem qC(hl:us.length=n)(h:∀(j:Nat) (v:j'),us[j]? =ab v->∃t,v=J8 (0+(j:Int)*1) t):Vals ((Fy n).map λi:Nat=>V.int (i:Int)) us:=by
 subst hl;rw[List.range_eq_range'];exact lF 0 us λj v hv=>by
  obtain⟨t,e⟩:=h j v hv;exact⟨t,by rw[e];congr 1;lia⟩
theorem ug{p1 p2 q1 q2:Pos}(hc:X.calm=kz)(Uh:Gl X "list")(T9:X.mg "list"=A')(Y0:Gl X "range")(U5:X.mg "range"=A')(he:PE X e te)
  (hs:Fu [e] X.env=[(B',G0 e X.env)]:=by rfl) (Qx:Fu [.Call (.Name "range" p2) [e] [] q2] X.env=[(B',G0 (.Call (.Name "range" p2) [e] [] q2) X.env)]:=by rfl):
  PE X (.Call (.Name "list" p1) [.Call (.Name "range" p2) [e] [] q2] [] q1) (λσ H Q=>te σ H λx H1=>C7 x H1 Q):=by
 intro kS s σ H Q I h;refine Gz<|cW I Uh T9 HM ?_;refine Gi ?_ Qx rfl;rw[Qx];show wpAny _ _ (spliced<|(B',G0 (.Call (.Name "range" p2) [e] [] q2) X.env)::HF q1 (Fu [] X.env)) _ _ s
 refine HA<|Gz<|cW I Y0 U5 Mt ?_;refine Gi (bp (aa he (ae (X:=X)) (by rw[hs];rfl) q2 kS s σ H (vC λx H1=>C7 x H1 Q) I h) λus s1 ⟨vs,H1,I1,r1,Ss⟩=>?_) hs rfl;obtain⟨x,e1,n,rfl,hn,q⟩:=hG Ss;subst e1;obtain⟨u,rfl,ru⟩:=dD r1;obtain⟨t,rfl⟩:=ru;refine call_range_1<|Jk ?_;have I2:Inv X kS σ H1 {s1 with heap:=s1.heap.push {cls:=.type "range",data:=.fields #[.int 0 s1.toks,.int (n:Int) t,.int 1<|s1.toks+1]},toks:=s1.toks+1+1}:=I1.kept λb o e=>EV _ e;refine call_list_range (n:=n) (I1.ok.hd hc) (Nk ..) (small_one (by lia) (by lia) (by lia)<|by lia) (by rw[Ov];split<;>lia) (by lia) λh' tk MA c hk hS Q9=>?_;have hl:MA.toList.length=n:=by rw[Gh];exact Q9.1
 have rv:Vals ((Fy n).map λi:Nat=>V.int (i:Int)) MA.toList:=qC hl λj v hv=>Q9.2 j v (by simpa using hv);have hz:((Fy n).map λi:Nat=>V.int (i:Int)).length<=sizeLine:=by
  rw[ka,Gr];exact FQ<|au hn
 refine⟨.ref _,_,I2.laid (t':=tk) hk (lb _) (show ObjOk X.prog X.w _ h' _ (.lst _)from⟨hz,MA.toList,c,rv,by simpa using hS⟩),rfl,q _<|I2.hok.fresh<|lb _⟩
end L2
namespace HD
open PySem PySem.W PySem.Calls PyProof.Rows
noncomputable def uh (sp:GU->JH->kb (GU×JH))(ok th:JH->ER)(n:Nat):GU->JH->kb GU:=
 @Nat.rec (λ_=>GU->JH->kb GU) (λ_ _=>A')
  (λ_ ih s t=>@JQ (λ_=>kb GU)
   (@JQ (λ_=>kb GU) A'
    (@K' (GU×JH) (λ_=>kb GU) A'
     (λr=>@Qc GU JH (λ_=>kb GU) (λs' t'=>@JQ (λ_=>kb GU) A' (ih s' t') (MR s'.toks 1000000000)) r) (sp s t)) (ok t))
   (ab s) (th t)) n
theorem rJ{tb:HP->kb Builtin}{p:E9}{w:Ft}{n₀:Nat}{Oo:kb j'}:∀n s s' t,
  uh (N1 (Ml tb) p w) (Mn n₀ Oo) Ko n s t=ab s'->Pl tb p w n₀ Oo n s.abs t=ab s'.abs
 |0,s,s',t,h=>by cases h
 |n+1,s,s',t,h=>by
  have h:@JQ (λ_=>kb GU)
   (@JQ (λ_=>kb GU) A'
    (@K' (GU×JH) (λ_=>kb GU) A'
     (λr=>@Qc GU JH (λ_=>kb GU) (λs' t'=>@JQ (λ_=>kb GU) A' (uh (N1 (Ml tb) p w) (Mn n₀ Oo) Ko n s' t') (MR s'.toks 1000000000)) r) (N1 (Ml tb) p w s t)) (Mn n₀ Oo t))
   (ab s) (Ko t)=ab s':=h
  unfold Pl;cases ht:Ko t with
  |true=>rw[ht]at h;cases h;rfl
  |false=>
   rw[ht]at h;cases hk:Mn n₀ Oo t with
   |false=>rw[hk]at h;cases h
   |true=>
    rw[hk]at h;cases hs:N1 (Ml tb) p w s t with
    |none=>rw[hs]at h;cases h
    |some r=>
     obtain⟨s₂,t₂⟩:=r;rw[hs]at h;replace h:@JQ (λ_=>kb GU) A' (uh (N1 (Ml tb) p w) (Mn n₀ Oo) Ko n s₂ t₂) (MR s₂.toks 1000000000)=ab s':=h;rw[stepT_spec hs];cases hb:MR s₂.toks 1000000000 with
     |false=>rw[hb]at h;cases h
     |true=>rw[hb]at h;exact rJ n _ _ _ h
noncomputable def mU (l:bc Obj):BT->Nat->kb (BT×Nat):=
 @List.rec Obj (λ_=>BT->Nat->kb (BT×Nat)) (λT n=>ab (T,n))
  (λo _ ih T n=>@JQ (λ_=>kb<|BT×Nat) A' (ih (T.ins n o)<|n+1) (((T.ins n o).get n).isSome)) l
theorem lG:∀l T T' n n',mU l T n=ab (T',n')->K5 T' n' life=⟨(K5 T n life).objs++l.toArray,life⟩
 |[],T,T',n,n',h=>by
  cases h;show K5 T n life=Q3 ((K5 T n life).objs++#[]) life
  rw[Array.append_empty];rfl
 |o::l,T,T',n,n',h=>by
  replace h:@JQ (λ_=>kb<|BT×Nat) A' (mU l (T.ins n o)<|n+1) (((T.ins n o).get n).isSome)=ab (T',n'):=h;cases hb:((T.ins n o).get n).isSome with
  |false=>rw[hb]at h;cases h
  |true=>
   rw[hb]at h;rw[lG l _ _ _ _ h,absHeap_ins hb];show Q3 ((K5 T n life).objs.push o++l.toArray) life=_
   congr 1
   apply Array.ext';simp
noncomputable def look {β:Type}(sp:GU->JH->kb (GU×JH))(ok th:JH->ER)(M:Nat)(os:L0)(P:M9)(st:JH)(F:Bs->β):kb β:=
 @K' (BT×Nat) (λ_=>kb β) A'
  (λr=>@Qc BT Nat (λ_=>kb β) (λT n=>@K' GU (λ_=>kb β) A' (λs=>ab<|F s.abs) (uh sp ok th M ⟨T,n,(GB P).life,JR [],IU,JG,os⟩ st)) r)
  (mU (GB P).objs.toList .nil 0)
theorem yY{β:Type}{tb:HP->kb Builtin}{p:E9}{w:Ft}{n₀:Nat}{Oo:kb j'}{M:Nat}{os:L0}{F:Bs->β}{b:β}
  (h:look (N1 (Ml tb) p w) (Mn n₀ Oo) Ko M os w.params (LY p) F=ab b):
  ∃s,Pl tb p w n₀ Oo M ⟨GB w.params,JR [],IU,JG,os⟩ (LY p)=ab s/\F s=b:=by
 unfold look at h;cases hi:mU (GB w.params).objs.toList .nil 0 with
 |none=>rw[hi]at h;cases h
 |some r=>
  obtain⟨T,n⟩:=r;rw[hi]at h;replace h:@K' GU (λ_=>kb β) A' (λs=>ab<|F s.abs) (uh (N1 (Ml tb) p w) (Mn n₀ Oo) Ko M ⟨T,n,(GB w.params).life,JR [],IU,JG,os⟩<|LY p)=ab b:=h;cases hr:uh (N1 (Ml tb) p w) (Mn n₀ Oo) Ko M ⟨T,n,(GB w.params).life,JR [],IU,JG,os⟩ (LY p)with
  |none=>rw[hr]at h;cases h
  |some s=>
   rw[hr]at h;have e:=lG (life:=(GB w.params).life) _ _ _ _ _ hi;have e0:(K5 .nil 0 (GB w.params).life).objs=#[]:=rfl;rw[e0]at e;have e1:K5 T n (GB w.params).life=GB w.params:=by
    rw[e];show Q3 (#[]++(GB w.params).objs.toList.toArray) _=_
    rw[Array.empty_append]
   have Se:=rJ _ _ _ _ hr;refine⟨s.abs,?_,Fe h⟩;rw[<-Se];show _=Pl tb p w n₀ Oo M ⟨K5 T n (GB w.params).life,JR [],IU,JG,os⟩ (LY p)
   rw[e1]
noncomputable def seenAt (p q:E9)(loose:bc Str)(Xt:Bs->ER)(g0:ER)(w:Ft)(s:Bs):=((staticsOk (Kc p.main.body) (GB w.params) s.heap&&namesBound p s.heap&&gensDone s&&laidKept (GB w.params) s.heap),Fast.tw4187177175401517315 q loose (Kc p.main.body) Xt g0 s)
noncomputable def lookAt {β:Type}(p:E9)(m₀:Nat)(Oo:kb j')(M:Nat)(w:Ft)(os:L0)(F:Bs->β):kb β:=
 look (Fast.tw10156331382660048174 (Fast.tw11892475500146522536 Fast.tw14364793385576792824) p w) (Fast.tw6613529449190102663 m₀ Oo) Ko M os w.params (LY p) F
theorem lH{β:Type}{p:E9}{m₀:Nat}{Oo:kb j'}{M:Nat}{w:Ft}{os:L0}{F:Bs->β}{b:β}(h:lookAt p m₀ Oo M w os F=ab b):
  ∃s,Pl OY p w m₀ Oo M ⟨GB w.params,JR [],IU,JG,os⟩ (LY p)=ab s/\F s=b:=by
 unfold lookAt at h;rw[<-Fast.te10156331382660048174,<-Fast.te11892475500146522536,<-Fast.te14364793385576792824,<-Fast.te6613529449190102663]at h;exact yY h
theorem left{p q:E9}{loose:bc Str}{Xt:Bs->ER}{α:Type}{Yf:Bs->α}{Ya:Ft->α}{N:Nat}{g0:ER}{m₀:Nat}{Oo:kb j'}{M:Nat}
  (e:opening p=plainProg p.main.scope.names) (f:∀s,fenceModules? p s=ab s) (hN:MR 600 N=kz) (le:MR M N=kz)
  (size:∀w:Ft,((GB w.params).isNs EO&&(JR []:HK Qa).size == 0,(GB w.params).objs.size,(GB w.params).nsMap EO "__annotations__")=(kz,m₀,Oo))
  (h1:∀(w:Ft) (os:L0),lookAt p m₀ Oo M w os (seenAt p q loose Xt g0 w)=ab (kz,openGood q loose)) (h2:∀(w:Ft) (os:L0),lookAt p m₀ Oo M w os Yf=ab (Ya w)):
  LeftO p q loose Xt Yf Ya N g0:=λw=>by
 obtain⟨⟨h0,gs,d,k,os⟩,a,b⟩:=FV.mp<|boot_open e hN f w;obtain⟨rfl,rfl,rfl,rfl⟩:h0=GB w.params/\gs=JR []/\d=IU/\k=JG:=by simpa using b
 obtain⟨z1,z2,z3⟩:_/\_/\_:=by simpa only [OT]using size w
 obtain⟨s,r,l⟩:=lH<|h1 w os;obtain⟨s',r',l3⟩:=lH<|h2 w os;rw[r]at r';cases r';unfold seenAt at l;rw[<-Fast.te5923862056798008813,<-Fast.te4187177175401517315]at l;obtain⟨l1,l2⟩:_/\_:=by simpa only [OT]using l
 have r:=topRun_mono (N - M) _ _ _ _ r;rw[show M+(N - M)=N by have:=Nat.le_of_ble_eq_true le;lia]at r;have t:topFrom OY p w N ⟨GB w.params,JR [],IU,JG,os⟩=ab s:=by
  unfold topFrom;dsimp only;rw[z1,z2,z3,r];show(match staticsOk (importedModules p.main.body) (GB w.params) s.heap&&namesBound p s.heap&&gensDone s&&laidKept (GB w.params) s.heap with|true=>_|false=>_)=_
  rw[l1]
 unfold openEnds;rw[a];show(topFrom OY p w N _).map _=_
 rw[t];exact Gg ab<|Prod.ext l2 l3
theorem head{r:OpenRow}{q:E9}{loose:bc Str}{lv:bc (Str×WData)}(H:Hook){d:DefRec}{Ys:bc (Str×F')}{N:Nat}
  (lf:LeftO r.prog q loose (λs=>xlAt q lv s&&recOk r.records s) H.obs H.val N) (SM:defOf q r.name=ab (d,Ys)) (hp:r.prog.theDef r.name=ab (d.params,d.body,d.scope)) (hk:kwWritten? d.params.kwonlyargs d.params.kw_defaults=ab Ys)
  (hwr:(!r.writes || r.records.isEmpty)=kz) (k1:r.wellSaid=kz) (ok:(chainsOk q&&opensWell r.prog&&(frees r.toRowW&&r.within.isEmpty))=kz) (hb:r.prog.bare) (hw:r.toRowW.promised)
  (hc:M7 q loose (XL q lv) H.says r.toRowW d Ys λf vs=>Mm f vs):r.Holds:=
 holds_open lf H.of H.keeps (λs e=>xl_of s (LQ.mp e).1) XL.keeps SM hp hk (λs e=>recFacts_of (LQ.mp e).2) hwr k1 ok hb hw hc
end HD
namespace L2
open PySem
theorem mV{K:gV}{g:TG}{tb:TS}{D:iu}(hx:xs.length=n)(hy:n<=ys.length)(Pv:Nat->St->Hp->Prop)(h0:Pv 0 σ H)(hl:∀i σ H,i<=n->Pv i σ H->SqL K H a xs/\SqL K H b ys)
  (hs:∀i x y σ H t,xs[i]? =ab x->ys[i]? =ab y->Pv i σ H->H t=A'->g (.ref t) σ (upd H t<|.tup [x,y]) λσ2 H2=>tb {D with nx:=Pv<|i+1,ct:=Pv<|i+1,bk:=D.nx} σ2 H2) (hd:∀σ H,Pv n σ H->D.nx σ H):
  ∃W:Nat->Nat->St->Hp->Prop,(∃m,W 0 m σ H)/\∀i m σ H,W i m σ H->
   ((B_ K a b).stop i H/\D.nx σ H)\/((B_ K a b).go i H/\∃N:St->Hp->Prop,(∀σ' H',N σ' H'->∃m',m' < m/\W (i+1) m' σ' H')/\∀x H',(B_ K a b).yld i H x H'->g x σ H' λσ2 H2=>tb {D with nx:=N,ct:=N,bk:=D.nx} σ2 H2):=by
 exists λi m σ H=>m=n - i/\i<=n/\Pv i σ H,⟨n,by simp,FF _,h0⟩;rintro i m σ H ⟨rfl,hi,p⟩;obtain⟨q1,q2⟩:=hl i σ H hi p;by_cases IL:i < n
 ·refine .inr ⟨⟨xs,ys,xs[i],ys[i],q1,q2,E1 _,E1 _⟩,Pv<|i+1,λσ' H' p'=>⟨n - (i+1),by lia,rfl,IL,p'⟩,λx H' y=>?_⟩;obtain⟨t,u,v,ht,rfl,rfl,e1,e2⟩:=y;exact hs i u v σ H t (e1 xs q1) (e2 ys q2) p ht
 ·have e:i=n:=by lia
  subst e;exact .inl ⟨⟨xs,ys,q1,q2,.inl<|by lia⟩,hd σ H p⟩
end L2
namespace DP
open PySem
section
variable {prog:E9}{w:Ft}{K:Type}[Kx K]{knd:HeapKind prog w K}{A:Gm}{s:Bs}
theorem ui{E:j'->Bs->Prop}{v:j'}{Q:j'->Bs->Prop}(hu:knd.room A)(NH:knd.is s.heap k a)(hm:s.heap.DictOfH knd d xs)(hsz:xs.length<=sizeLine)
  (h1:∀p,Kn xs k=ab p->Q p.2 {s with toks:=s.toks+knd.draws k})
  (h2:Kn xs k=A'->∀h',h'.DictOfH knd d (Pj xs k a v)->IA d s.heap h'->Q v {s with heap:=h',toks:=s.toks+knd.draws k}):wpAny (FE prog w) A (LD d (.ref a) v) Q E s:=by
 obtain⟨ob,es,ep,g1,g2,g3,g4,g5,g6⟩:=hm;unfold LD;refine Hj<|EW<|knd.pyHash hu NH<|EW<|wpAny_dictFind_heap (s:={s with toks:=s.toks+knd.draws k}) hu NH g1 g3 g4 g5 g6 (λno=>?_) λj p hj=>?_
 ·have e0:=atKey_none_of_get no;have hnk:k∉xs.map (·.1):=not_mem_keys_of_get no;have st:=storedH_new e0 a v;refine EW<|Mf<|EW<|wpAny_updateDictKeys (hz:=by rw[size_of_entries g4];exact hsz) (s:={s with toks:=s.toks+knd.draws k}) g1 g3<|Fm<|h2 e0 _ ?_ (J1 ..);refine⟨_,_,ep+1,HE _ g1<|Obj.isFreed_of_dict<|LF g3 _,g2.mapDictKeys _,LF g3 _,?_,λx hx=>?_,?_⟩
  ·rw[st];simp [g4,entryOfKey]
  ·rw[st]at hx;obtain z|z:=FN.mp hx
   ·exact knd.keeps (g5 x z) g1 g3 (J1 ..)
   ·rw[Fb.mp z];exact knd.keeps NH g1 g3 (J1 ..)
  ·rw[st,Fh,List.nodup_append];exact⟨g6,by simp,λx hx y hy z=>by
    have YB:y=k:=by simpa using hy
    subst z YB;exact hnk hx⟩
 ·refine EW<|wpAny_dictEntries (s:={s with toks:=s.toks+knd.draws k}) g1 g3 ?_;rw[entry_at g4 j,hj];exact EW<|Mf<|Fm<|h1 p<|atKey_of_get g6 hj
theorem meetsH_setd(hd:(d == Hf)=B')(v:j'):MeetsIn prog w (Builtin.«dict.setdefault» ⟨[.ref d,.ref a,v],[]⟩) (λA R s=>knd.room A.in1/\∃k xs,knd.is s.heap k a/\s.heap.DictOfH knd d xs/\xs.length<=sizeLine/\
  (∀p,Kn xs k=ab p->R (.ok<|.ret p.2) {s with toks:=s.toks+knd.draws k})/\
  (Kn xs k=A'->∀h',h'.DictOfH knd d (Pj xs k a v)->IA d s.heap h'->R (.ok<|.ret v) {s with heap:=h',toks:=s.toks+knd.draws k})):=
 .of_wp λA R s ⟨hu,k,xs,NH,hm,hz,h1,h2⟩=>by
  unfold Builtin.«dict.setdefault» N5;refine EW<|EW<|Lo hm.typeIs ?_;show wpAny _ _ (pure (d,FY a,ab v)) _ _ s
  refine Fm ?_;show wpAny _ _ (if(d == Hf)=kz then _ else(LD d (.ref a) v >>=_)) _ _ s
  rw[hd,E7 i'];exact EW<|ui hu NH hm hz (λp hp=>Fm ⟨_,rfl,h1 p hp⟩) λhn h' U6 T2=>Fm ⟨v,rfl,h2 hn h' U6 T2⟩
end
end DP
namespace L2
open PySem PySem.Spec PyProof.Rows
def Ad(H:Hp)(a:f')(y z:V)(Q:VK):Prop:=(∃v,DGet H a y (ab v)/\Q v H)\/(DGet H a y A'/\∃H',DPut H a y z H'/\Q z H')
theorem C8(e:H a=ab (.dK kvs))(g:Rd H a (.dK O4)):O4=kvs:=by
 obtain g|⟨_,g⟩:=g
 ·rw[e]at g;cases g;rfl
 ·rw[e]at g;cases g
theorem C9(e:H a=ab (.dT kvs))(g:Rd H a (.dT O4)):O4=kvs:=by
 obtain g|⟨_,g⟩:=g
 ·rw[e]at g;cases g;rfl
 ·rw[e]at g;cases g
theorem BI(hu:A.units+1 < Ir)(I:Inv X kS σ H s)(g:Ad H a y z Q)(ry:RelV y u)(rz:RelV z r)(h:∀v H' w' s',Inv X kS σ H' s'->RelV v w'->Q v H'->R w' s'):
  wpAny (FE X.prog X.w) A (call (.builtin "dict.setdefault") [.ref a,u,r]) R E s:=by
 obtain⟨v,⟨kvs,k,e,ey,l⟩|⟨kvs,k,b,e,ey,eb,l⟩,q⟩|⟨⟨kvs,k,e,ey,l⟩|⟨kvs,k,b,e,ey,eb,l⟩,H',p,q⟩:=g
 ·subst ey;obtain⟨zz,hd,vs,JM,dd⟩:=gZ I.hok e;obtain⟨w',hw,O3⟩:=RelO.some_of (v:=v) (o:=Kl vs k) (by rw[l];exact JM.val k);refine Jf GV dd.typeIs Hm (Hg _ _ _) (L4 (aQ X.prog X.w) a (gB ry) hd r) ⟨vs,dd,by rw[<-JM.length];exact zz,λv2 Sa=>?_,λhn=>?_⟩
  ·rw[hw]at Sa;cases Sa;exact h v H w' _ (I.tok _) O3 q
  ·rw[hw]at hn;cases hn
 ·subst ey;cases(show u=FY b from ry);obtain⟨zz,hd,xs,JM,dd⟩:=g7 I.hok e;obtain⟨w',hw,O3⟩:=RelO.some_of (v:=v) (o:=(Kn xs k).map (·.2)) (by rw[l];exact JM.val k);refine Jf GV dd.typeIs Hm (Hg _ _ _) (DP.meetsH_setd (knd:=JE<|aQ X.prog X.w) hd r) ⟨He hu,k,xs,fH I.hok eb,dd,by rw[<-Paired.length JM];exact zz,λp hp=>?_,λhn=>?_⟩
  ·rw[hp]at hw;cases hw;exact h v H _ _ (I.tok _) O3 q
  ·rw[hn]at hw;cases hw
 ·subst ey;obtain⟨zz,hd,vs,JM,dd⟩:=gZ I.hok e;have hn:Kl vs k=none:=RelO.none_of (by rw[l];exact JM.val k);obtain⟨Sx,k2,e2,SV,l2,eH⟩|⟨Sx,k2,b2,e2,SV,_⟩:=p
  ·obtain rfl:=C8 e2 e;obtain rfl:k=k2:=by cases k<;>cases k2<;>cases SV<;>rfl
   subst eH;have hl:(cV kvs k z).length<=sizeLine:=by have:=dk kvs k z;lia
   refine Jf GV dd.typeIs Hm (Hg _ _ _) (L4 (aQ X.prog X.w) a (gB ry) hd r) ⟨vs,dd,by rw[<-JM.length];exact zz,λv2 Sa=>(by rw[hn]at Sa;cases Sa),λ_ h' dd' hs=>?_⟩;have he:∃q,h'.get? a=ab q:=let ⟨q,_,_,hq,_⟩:=dd';⟨q,hq⟩
   exact h z _ r _ (g8 I (by rw[e2];exact Ha) hs he<|mH hl hd (JM.put k rz) dd') rz q
  ·cases k<;>cases SV
 ·subst ey;cases(show u=FY b from ry);obtain⟨zz,hd,xs,JM,dd⟩:=g7 I.hok e;have hn:(Kn xs k).map (·.2)=none:=RelO.none_of (by rw[l];exact JM.val k);obtain⟨Sx,k2,e2,SV,l2,eH⟩|⟨Sx,k2,b2,e2,SV,eb2,l2,eH⟩:=p
  ·cases k2<;>cases SV
  ·obtain rfl:=C9 e2 e;cases SV;have ek:k2=k:=by
    rw[eb]at eb2;have e3:k.map kV=k2.map kV:=HO.tup.inj<|Fe eb2;exact(List.map_inj_right (λx y hxy=>by cases x<;>cases y<;>cases hxy<;>rfl)|>.mp e3).symm
   subst ek;subst eH;have hl:(cV kvs k2 z).length<=sizeLine:=by have:=dk kvs k2 z;lia
   refine Jf GV dd.typeIs Hm (Hg _ _ _) (DP.meetsH_setd (knd:=JE<|aQ X.prog X.w) hd r) ⟨He hu,k2,xs,fH I.hok eb,dd,by rw[<-Paired.length JM];exact zz,λp hp=>(by rw[hp]at hn;cases hn),λ_ h' dd' hs=>?_⟩;obtain⟨q2,es,ep,hq,g2,g3,g4,_,g5⟩:=dd';have new:ObjOk X.prog X.w (upd H a<|.dT<|cV kvs k2 z) h' a (.dT<|cV kvs k2 z):=by
    refine⟨hl,hd,_,(JM.put k2 eb rz).keeps λc ys ec=>?_,q2,es,ep,hq,g2,g3,g4,g5⟩;rw[al<|qZ ec e2 (λz=>nomatch z)];exact ec
   exact h z _ r _ (g8 I (by rw[e2];exact Ha) hs ⟨q2,hq⟩ new) rz q
def BJ(td ty tx:TE):TE:=λσ H Q=>td σ H λx H1=>∃a,x=.ref a/\Eb H1 a/\ty σ H1 λy H2=>tx σ H2 λz H3=>Ad H3 a y z Q
theorem wj(hu:X.A.units+1 < Ir)(ho:PE X o td)(he:PE X e ty)(hf:PE X f tx)(m:M2 X o "setdefault" Ln e f Lm):PE X (.Call (.Attribute o "setdefault" Ln) [e,f] [] Lm) (BJ td ty tx):=by
 intro kS s σ H Q I h;refine MF m.base m.few m.line KO GV PySem.F.type_dict_setdefault<|bp (ho kS s σ H _ I h) λu s1 ⟨x,H1,I1,rx,a,ex,d,q1⟩=>?_;subst ex;obtain rfl:u=FY a:=rx;obtain⟨t1,t2,_⟩:=vm I1 d;exists t1,t2;rw[m.trees];refine Jl rfl<|Iy<|HA<|bp (he kS s1 σ H1 _ I1 q1) λiv s2 ⟨y,H2,I2,ry,q2⟩=>HA<|bp (hf kS s2 σ H2 _ I2 q2) λfv s3 ⟨z,H3,I3,rz,g⟩=>Jk ?_;exact BI hu I3 g ry rz λv H' w' s4 I4 O3 q=>⟨v,H',I4,O3,q⟩
theorem kh(hk:PE X k tk)(hv:PE X v tv):PE X (.Dict [ab k] [v] pos) (zY [(tk,tv)]):=yE (vk hk hv yD) rfl rfl (List.cons_ne_nil _ _) (by show 1<=15;decide)
theorem Inv.swap(I:Inv X kS σ H s)(hu:H a=ab u)(hv:H' a=ab v)(k:∀b,b≠a->H' b=H b)(nt:∀xs,u≠.tup xs)(nf:∀o w,X.H₀ a=ab (.frz o w)->False)(nb:∀ps,u≠.tbl ps)(no:∀b,u≠.own b)
  (hok:ObjOk X.prog X.w H' s.heap a v):Inv X kS σ H' s where
 ok:=I.ok
 os:=I.os
 bare:=I.bare
 base:={
  keep:=I.base.keep
  slot:=I.base.slot
  free:=λb ob e n hx=>by
   have h1:=I.base.free b ob e n hx;by_cases hb:b=a
   ·subst hb;rw[hu]at h1;cases h1
   ·rw[k b hb];exact h1
  there:=I.base.there
  tups:=λb xs e=>by
   have h1:=I.base.tups b xs e;by_cases hb:b=a
   ·subst hb;rw[hu]at h1;exact absurd (Fe h1)<|nt xs
   ·rw[k b hb];exact h1
  frzs:=λb ob w e=>by
   have h1:=I.base.frzs b ob w e;by_cases hb:b=a
   ·subst hb;exact(nf ob w e).elim
   ·rw[k b hb];exact h1
  tbls:=λb ps e=>by
   obtain⟨m,h1⟩:=I.base.tbls b ps e;by_cases hb:b=a
   ·subst hb;rw[hu]at h1;exact absurd (Fe h1)<|nb _
   ·exact⟨m,by rw[k b hb];exact h1⟩}
 loc:=I.loc
 cell:=I.cell
 free:=by
  have h1:=I.free;by_cases hb:X.env.locals=a
  ·rw[hb,hu]at h1;cases h1
  ·rw[k _ hb];exact h1
 freeC:=λx c e=>by
  have h1:=I.freeC x c e;by_cases hb:c=a
  ·subst hb;rw[hu]at h1;cases h1
  ·rw[k _ hb];exact h1
 pin:=λp hp=>by
  obtain⟨h0,h1,h2⟩:=I.pin p hp;refine⟨h0,?_,h2⟩;by_cases hb:p.1=a
  ·rw[hb,hu]at h1;cases h1
  ·rw[k _ hb];exact h1
 hok:=λb w e=>by
  by_cases hb:b=a
  ·subst hb;rw[hv]at e;cases e;exact hok
  ·rw[k b hb]at e;refine(I.hok b w e).stay (λ_ _ _ r=>r) (λc r=>?_) λc xs r=>?_
   ·by_cases hc:c=a
    ·subst hc;rw[hu]at r;exact absurd (Fe r)<|no b
    ·rw[k c hc];exact r
   ·by_cases hc:c=a
    ·subst hc;rw[hu]at r;exact absurd (Fe r)<|nt xs
    ·rw[k c hc];exact r
 len:=I.len
theorem Inv.nofrz(I:Inv X kS σ H s)(hu:H a=ab u)(n:∀o w,u≠.frz o w):∀o w,X.H₀ a=ab (.frz o w)->False:=λo w e=>by
 have:=I.base.frzs a o w e;rw[hu]at this;exact n o w<|Fe this
theorem Inv.freeze(I:Inv X kS σ H s)(e:H a=ab (.dK kvs)):∃o,s.heap.get? a=ab o/\Inv X kS σ (upd H a<|.frz o<|.dK kvs) s:=by
 obtain⟨z,hd,vs,JM,dd⟩:=rg I.hok e;obtain⟨o,es,ep,h1,h2⟩:=id dd;exact⟨o,h1,I.swap e ad (λb hb=>al hb) (λ_ z=>by cases z) (I.nofrz e λ_ _ z=>by cases z) (λ_ z=>by cases z) (λ_ z=>by cases z) ⟨h1,z,hd,vs,JM,dd⟩⟩
theorem Inv.thaw(nf:∀o w,X.H₀ a=ab (.frz o w)->False)(e:H a=ab (.dK kvs))(I:Inv X kS σ (upd H a<|.frz o<|.dK kvs) s):Inv X kS σ H s:=by
 have ok:=I.hok a _ ad;exact I.swap ad e (λb hb=>(al hb).symm) (λ_ z=>by cases z) nf (λ_ z=>by cases z) (λ_ z=>by cases z) (show ObjOk X.prog X.w H s.heap a (.dK kvs)from ok.2)
def C_(a:f')(o:Obj)(kvs:bc (aS×V)):It:=
 ⟨λi H=>H a=ab (.frz o<|.dK kvs)/\i < kvs.length,λi H x H'=>H'=H/\∃k v,kvs[i]? =ab (k,v)/\x=kV k,λi H=>H a=ab (.frz o<|.dK kvs)/\kvs.length<=i⟩
theorem BK(h:(aQ P w).is k u=kz):RelV (kV k) u:=by
 obtain⟨i,t,rfl,rfl⟩|⟨x,t,rfl,rfl⟩:=@bC k u h
 ·exact⟨t,rfl⟩
 ·exact⟨t,rfl⟩
theorem uj{K:gV}(a it:f')(o:Obj)(kvs:bc (aS×V))(hd:o.data=.dict es ep):nM P w K tg (C_ a o kvs) [it] it (λi h=>h.IsKeyIter it a i kvs.length ep) where
 mem:=by simp
 obj:=λi h st b hb=>by
  have e:b=it:=by simpa using hb
  subst e;obtain⟨o,e,c,d⟩:=st;exact⟨o,e,λv z=>by rw[d]at z;cases z⟩
 keep:=λi h h' st k=>st.at λo e=>k it (by simp) o e
 item:=by
  intro X hP hw hK hc i kS s σ H E I hf st hg;subst hP hw hK;obtain⟨ha,hi⟩:=hg;obtain⟨ho,z,MW,vs,JM,o',R3,Uy,q1,q2,q3,q4,q5,q6⟩:=(show ObjOk X.prog X.w H s.heap a (.frz o<|.dK kvs)from I.hok a _ ha);rw[ho]at q1;cases q1;rw[hd]at q3;cases q3;have hl:=JM.length;have Z4:i < vs.length:=by lia
  obtain⟨f0,f1,f2,f3,f4,f5⟩:=hf it (by simp);refine wpAny_pyNext_dict_item (knd:=aQ X.prog X.w) (kvs:=vs) (k:=vs[i].1) (v:=vs[i].2) (by rw[<-hl];exact st) ⟨o,es,ho,q2,hd,q4,q5,q6⟩ (E1 Z4) λkey h' NH Pw sb=>?_;have I1:Inv X kS σ H {s with heap:=h'}:=I.turned (t':=s.toks) (λb o hb e=>(sb.2 b hb).trans e) f0 f1 f3 f4 f5;rw[<-hl]at Pw;obtain⟨oi,e,c,d⟩:=id Pw;refine⟨key,rfl,nN (s:={s with heap:=h'}) e c d (by decide) ⟨kV vs[i].1,H,I1,BK NH,⟨rfl,kvs[i].1,kvs[i].2,E1 hi,?_⟩,Pw,λb hb=>(hf b hb).1⟩⟩;have hk:=JM.keys;have e1:(kvs.map (·.1))[i]? =(vs.map (·.1))[i]?:=by rw[hk]
  rw[Fk,Fk,E1 hi,E1 Z4]at e1;exact Gg kV (Fe e1).symm
 done:=by
  intro X hP hw hK hc i kS s σ H E I hf st hg;subst hP hw hK;obtain⟨ha,hi⟩:=hg;obtain⟨ho,z,MW,vs,JM,o',R3,Uy,q1,q2,q3,q4,q5,q6⟩:=(show ObjOk X.prog X.w H s.heap a (.frz o<|.dK kvs)from I.hok a _ ha);rw[ho]at q1;cases q1;rw[hd]at q3;cases q3;have hl:=JM.length;obtain⟨f0,f1,f2,f3,f4,f5⟩:=hf it (by simp);exact wpAny_pyNext_dict_end (knd:=aQ X.prog X.w) (kvs:=vs) (I.ok.hd hc) (by rw[<-hl];exact st) ⟨o,es,ho,q2,hd,q4,q5,q6⟩ (Hd<|by lia) λh' eb=>⟨rfl,I.turned (t':=s.toks) (λb o hb e=>eb b o hb e) f0 f1 f3 f4 f5⟩
 self:=λ_ _ _ _ _ st h=>wpAny_pyIter_keyiter st h
inductive Da (x:V)(H:Hp)(R:It->Hp->Prop):Prop
 |mk (a:f')(kvs:bc (aS×V))(h:x=.ref a)(e:H a=ab (.dK kvs))(r:∀o,R (C_ a o kvs)<|upd H a<|.frz o<|.dK kvs):Da x H R
def Db(tl:TE):TI:=λσ H R=>tl σ H λx H1=>Da x H1 R
theorem yZ(hl:PE X l tl):PI X tg l (Db tl):=by
 intro kS s σ H R I h;refine bp (hl kS s σ H _ I h) λv s1 ⟨x,H1,I1,r1,q1⟩=>?_;obtain⟨a,kvs,e,hq,q⟩:=q1;subst e;cases r1;obtain⟨o,ho,I2⟩:=I1.freeze hq;obtain⟨z,MW,vs,JM,o',es,ep,q1,q2,q3,q4,q5,q6⟩:=rg I1.hok hq;rw[ho]at q1;cases q1;refine wpAny_pyIter_dict (knd:=aQ X.prog X.w) (kvs:=vs) (ep:=ep) MW ⟨o,es,ho,q2,q3,q4,q5,q6⟩ ?_;refine⟨s1.heap.objs.size,[s1.heap.objs.size],_,_,_,rfl,I2.kept (t':=s1.toks) λb o e=>EV _ e,uj a _ o kvs q3,?_,λb hb=>?_,q o⟩
 ·exact⟨_,Fs _ rfl,rfl,by rw[JM.length];rfl⟩
 have e:b=s1.heap.objs.size:=by simpa using hb
 subst e;exact I2.fpOk (lb _)<|I2.hok.fresh<|lb _
def Dz(a:f')(Q:Hp->Prop)(H:Hp):Prop:=∃o kvs H',H' a=ab (.dK kvs)/\H=upd H' a (.frz o<|.dK kvs)/\Q H'
def Dc(ts:TS):TS:=λD σ H=>∃a kvs,H a=ab (.dK kvs)/\ts {nx:=λσ H=>Dz a (D.nx σ) H,rt:=λv H=>Dz a (D.rt v) H,bk:=λσ H=>Dz a (D.bk σ) H,ct:=λσ H=>Dz a (D.ct σ) H} σ H
theorem y0{st:Gs}(h:PS X st ts):PS X st (Dc ts):=by
 intro kS s σ H D I ⟨a,kvs,e,q⟩;have nf:=I.nofrz e λ_ _ z=>by cases z
 refine bp (h kS s σ H _ I q) λf s1 r=>?_;cases f with
 |next=>obtain⟨σ1,H1,I1,o,O4,H2,e2,rfl,q2⟩:=r;exact⟨σ1,H2,I1.thaw nf e2,q2⟩
 |cont=>obtain⟨σ1,H1,I1,o,O4,H2,e2,rfl,q2⟩:=r;exact⟨σ1,H2,I1.thaw nf e2,q2⟩
 |brk=>obtain⟨σ1,H1,I1,o,O4,H2,e2,rfl,q2⟩:=r;exact⟨σ1,H2,I1.thaw nf e2,q2⟩
 |ret v=>obtain⟨x1,σ1,H1,I1,r1,o,O4,H2,e2,rfl,q2⟩:=r;exact⟨x1,σ1,H2,I1.thaw nf e2,r1,q2⟩
theorem wk{g:TG}{tb:TS}{D:iu}(Pv:Nat->St->Hp->Prop)(h0:Pv 0 σ H)(hl:∀i σ H,i<=kvs.length->Pv i σ H->H a=ab (.frz o<|.dK kvs))
  (hs:∀i k v σ H,kvs[i]? =ab (k,v)->Pv i σ H->g (kV k) σ H λσ2 H2=>tb {D with nx:=Pv<|i+1,ct:=Pv<|i+1,bk:=D.nx} σ2 H2) (hd:∀σ H,Pv kvs.length σ H->D.nx σ H):
  ∃W:Nat->Nat->St->Hp->Prop,(∃m,W 0 m σ H)/\∀i m σ H,W i m σ H->
   ((C_ a o kvs).stop i H/\D.nx σ H)\/((C_ a o kvs).go i H/\∃N:St->Hp->Prop,(∀σ' H',N σ' H'->∃m',m' < m/\W (i+1) m' σ' H')/\∀x H',(C_ a o kvs).yld i H x H'->g x σ H' λσ2 H2=>tb {D with nx:=N,ct:=N,bk:=D.nx} σ2 H2):=by
 exists λi m σ H=>m=kvs.length - i/\i<=kvs.length/\Pv i σ H,⟨kvs.length,by simp,FF _,h0⟩;rintro i m σ H ⟨rfl,hi,p⟩;have q:=hl i σ H hi p;by_cases IL:i < kvs.length
 ·refine .inr ⟨⟨q,IL⟩,Pv<|i+1,λσ' H' p'=>⟨kvs.length - (i+1),by lia,rfl,IL,p'⟩,λx H' y=>?_⟩;obtain⟨e,k,v,hk,rfl⟩:=y;subst e;exact hs i k v σ _ hk p
 ·have e:i=kvs.length:=by lia
  subst e;exact .inl ⟨⟨q,lb _⟩,hd σ H p⟩
end L2
namespace KX
open PySem PyProof.Rows
abbrev ltB(kf:Nat->Int):Nat->Nat->ER:=λi j=>decide (kf i < kf j)
section
variable {St:Nat->FU->Prop}
theorem Dd(W:Walks prog w A.in1 I fp wr n P St)(kf:Nat->Int)(OK:FU->Prop)(S:f')(Qz:S∉fp)
  (hok:∀h h',OK h->(∀b o,b∉wr->b≠S->h.get? b=ab o->h'.get? b=ab o)->OK h')
  (G':∀i v s Q E,P i v->OK s.heap->(∀t tk,Q (.int (kf i) t) {s with toks:=tk})->wpAny (FE prog w) A.in1 (call (.builtin "len") [v]) Q E s):
  ∀k j s vb tb c,n - (j+1)=k->j+1<=n->St (j+1) s.heap->OK s.heap->P (Hb (ltB kf) j) vb->
  s.heap.get? S=ab {cls:=.type "list",dict:=A',data:=.seq #[vb,.int (kf<|Hb (ltB kf) j) tb] c,slots:=#[]}->
  (∀v h' tk,P (Hb (ltB kf)<|n - 1) v->(∀b o,b∉wr->b≠S->s.heap.get? b=ab o->h'.get? b=ab o)->R (.ok<|.ret v) {s with heap:=h',toks:=tk})->
  codeAny (FE prog w) A (.builtin "min.loop" ⟨[.ref I,.builtin "len",.ref S],[]⟩) R s:=by
 have R0:S∉wr:=λh=>Qz<|W.sub _ h;have KH:(toString "min"++toString ".loop":HP)="min.loop":=by decide
 intro k
 induction k with
 |zero=>
  intro j s vb tb c hk hj OV _ hPb hS hR;have QY:j+1=n:=by lia
  refine Hq Jj ?_;rw[GH GO _];show wpAny _ A.in1 (KN (.ref S) >>=_) _ _ s
  refine EW<|HQ hS rfl ?_;show wpAny _ A.in1 (tryCatch (KC<|.ref I) _ >>=_) _ _ s
  refine EW<|GF<|W.done s _ _ (QY▸OV) λh' tk L'=>?_;have PP:=L' S _ R0 hS;show wpAny _ A.in1 (M3 S (λ_=>#[]) >>=_) _ _ _
  refine EW ?_;refine H_ PP rfl<|EW<|Ip<|Fm ?_;refine hR vb _ tk (by rw[<-QY];exact hPb) λb o hbw hbS e=>(FT _ _<|GP hbS).trans<|L' b o hbw e
 |succ k ih=>
  intro j s vb tb c hk hj OV Ut hPb hS hR;have IL:j+1 < n:=by lia
  refine Hq Jj ?_;rw[GH GO _];show wpAny _ A.in1 (KN (.ref S) >>=_) _ _ s
  refine EW<|HQ hS rfl ?_;show wpAny _ A.in1 (tryCatch (KC<|.ref I) _ >>=_) _ _ s
  refine EW<|GF<|W.item (j+1) s _ _ IL OV λv h' tk hP hst' L'=>?_;have PP:=L' S _ R0 hS;have Q_:OK h':=hok _ _ Ut λb o hb _ e=>L' b o hb e;show wpAny _ A.in1 (tryCatch (K1 [v]<|call (.builtin "len") [v]) _ >>=_) _ _ _
  refine EW<|GF<|Hj<|G' (j+1) v _ _ _ hP Q_ λt2 tk2=>?_;show wpAny _ A.in1 (tryCatch (K1 [v,.int (kf<|j+1) t2]<|richCompare .Lt (.int (kf<|j+1) t2) (.int (kf<|Hb (ltB kf) j) tb) >>=_) _ >>=_) _ _ _
  refine EW<|GF<|Hj<|EW<|CmpOf.ints_lt (prog:=prog) (w:=w) (A:=A.in1) (P:=λi v=>∃t,v=.int (kf i) t) kf (λi v h=>h) (j+1) (Hb (ltB kf) j) _ _ _ _ _ ⟨t2,rfl⟩ ⟨tb,rfl⟩ ?_;refine EW<|Hj<|Gj ?_;refine EW<|Ip<|Fm ?_;by_cases hb:kf (j+1) < kf (Hb (ltB kf) j)
  ·have eb:Hb (ltB kf) (j+1)=j+1:=by simp [Hb,hb]
   simp only [hb,decide_true,J5];refine EW ?_;refine H_ PP rfl<|EW<|Ip ?_;rw[KH];refine Fm ⟨Hk GO _,ih (j+1) _ v t2 _ (by lia) IL (W.frame _ _ _ hst' λb hbf o e=>?_) (hok _ _ Q_ λb o _ hbS e=>(FT _ _<|GP hbS).trans e) (by rw[eb];exact hP) (by rw[eb];exact HE _ PP rfl)
    λv' OX tk'' hP' NI=>?_⟩
   ·exact(FT _ _ λh:S=b=>Qz<|by rw[h];exact hbf).trans e
   ·exact hR v' OX tk'' hP' λb o hbw hbS e=>NI b o hbw hbS<|(FT _ _<|GP hbS).trans<|L' b o hbw e
  ·have eb:Hb (ltB kf) (j+1)=Hb (ltB kf) j:=by simp [Hb,hb]
   simp only [hb,decide_false,IX,Lz];refine EW<|Ip ?_;rw[KH];refine Fm ⟨Hk GO _,ih (j+1) _ vb tb c (by lia) IL hst' Q_ (by rw[eb];exact hPb) (by rw[eb];exact PP) λv' OX tk'' hP' NI=>?_⟩;exact hR v' OX tk'' hP' λb o hbw hbS e=>NI b o hbw hbS<|L' b o hbw e
theorem BL(W:Walks prog w A.in1 I fp wr n P St)(kf:Nat->Int)(OK:FU->Prop)(S:f')(Qz:S∉fp)
  (hok:∀h h',OK h->(∀b o,b∉wr->b≠S->h.get? b=ab o->h'.get? b=ab o)->OK h')
  (G':∀i v s Q E,P i v->OK s.heap->(∀t tk,Q (.int (kf i) t) {s with toks:=tk})->wpAny (FE prog w) A.in1 (call (.builtin "len") [v]) Q E s)
  {s:Bs} {c:Nat} (hn:0 < n) (OV:St 0 s.heap) (Ut:OK s.heap)
  (hS:s.heap.get? S=ab {cls:=.type "list",dict:=A',data:=.seq #[] c,slots:=#[]})
  (hR:∀v h' tk,P (Hb (ltB kf)<|n - 1) v->(∀b o,b∉wr->b≠S->s.heap.get? b=ab o->h'.get? b=ab o)->R (.ok<|.ret v) {s with heap:=h',toks:=tk}):
  codeAny (FE prog w) A (.builtin "min.loop" ⟨[.ref I,.builtin "len",.ref S],[]⟩) R s:=by
 have R0:S∉wr:=λh=>Qz<|W.sub _ h;have KH:(toString "min"++toString ".loop":HP)="min.loop":=by decide
 refine Hq Jj ?_;rw[GH GO _];show wpAny _ A.in1 (KN (.ref S) >>=_) _ _ s
 refine EW<|HQ hS rfl ?_;show wpAny _ A.in1 (tryCatch (KC<|.ref I) _ >>=_) _ _ s
 refine EW<|GF<|W.item 0 s _ _ hn OV λv h' tk hP hst' L'=>?_;have PP:=L' S _ R0 hS;have Q_:OK h':=hok _ _ Ut λb o hb _ e=>L' b o hb e;show wpAny _ A.in1 (tryCatch (K1 [v]<|call (.builtin "len") [v]) _ >>=_) _ _ _
 refine EW<|GF<|Hj<|G' 0 v _ _ _ hP Q_ λt2 tk2=>?_;show wpAny _ A.in1 (M3 S (λ_=>#[v,.int (kf 0) t2]) >>=_) _ _ _
 refine EW ?_;refine H_ PP rfl ?_;rw[KH];refine Fm ⟨Hk GO _,Dd W kf OK S Qz hok G' _ 0 _ v t2 _ rfl hn (W.frame _ _ _ hst' λb hbf o e=>?_) (hok _ _ Q_ λb o _ hbS e=>(FT _ _<|GP hbS).trans e) hP (HE _ PP rfl) λv' OX tk'' hP' NI=>?_⟩
 ·exact(FT _ _ λh:S=b=>Qz<|by rw[h];exact hbf).trans e
 ·exact hR v' OX tk'' hP' λb o hbw hbS e=>NI b o hbw hbS<|(FT _ _<|GP hbS).trans<|L' b o hbw e
end
theorem min_len{prog:E9}{w:Ft}{A:Gm}{E:j'->Bs->Prop}{s:Bs}(kf:Nat->Int)(OK:FU->Prop){Q:j'->Bs->Prop}(hh:A.handled=A')(hl:s.heap.IsList l vs)(hn:0 < vs.size)(Ut:OK s.heap)
  (hok:∀h h',OK h->(∀b o,b < s.heap.objs.size->h.get? b=ab o->h'.get? b=ab o)->OK h')
  (G':∀i v s Q E,vs[i]? =ab v->OK s.heap->(∀t tk,Q (.int (kf i) t) {s with toks:=tk})->wpAny (FE prog w) A.in1 (call (.builtin "len") [v]) Q E s)
  (h:∀v h' tk,vs[Hb (ltB kf) (vs.size - 1)]? =ab v->(∀b o,s.heap.get? b=ab o->h'.get? b=ab o)->Q v {s with heap:=h',toks:=tk}):
  wpAny (FE prog w) A (call (.builtin "min") [.ref l] [(ET "key",.builtin "len")]) Q E s:=by
 have KH:(toString "min"++toString ".loop":HP)="min.loop":=by decide
 obtain⟨ol,YL,YK⟩:=id hl;have Sf:l < s.heap.objs.size:=E4 YL;refine kmk_tree PySem.F.kind_min PySem.F.plain_min PySem.F.entry_min (kmk_min_key _ _) ?_;show wpAny _ A.in1 (Hu "min" ["key","default"] 0 ⟨[],[(ET "key",.builtin "len")]⟩ >>=_) _ _ s
 refine EW<|wpAny_of_eq (show Hu "min" ["key","default"] 0 ⟨[],[(ET "key",.builtin "len")]⟩=pure [ab<|.builtin "len",A']from rfl) ?_;refine EW<|Fm ?_;refine EW<|Ii hl ?_;refine EW<|Ou ?_<|FF _;rw[KH];have hS:(s.heap.push {cls:=.type "list_iterator",data:=.fields #[.ref l,.int 0 0]}).objs.size=s.heap.objs.size+1:=size_push' ..;have Uc:l≠s.heap.objs.size:=Fi Sf;have W:=K3 (prog:=prog) (w:=w) (A:=A.in1) hh s.heap.objs.size l Uc vs;have kp:∀b o,s.heap.get? b=ab o->((s.heap.push {cls:=.type "list_iterator",data:=.fields #[.ref l,.int 0 0]}).push<|seqObj "list" #[] 0).get? b=ab o:=λb o e=>EV _<|EV _ e;refine Fm ⟨Hk GO _,BL W kf OK _ (λhm=>?_) (λh1 h2 ok1 k=>hok h1 h2 ok1 λb o hb e=>k b o (λz=>?_) (λz=>?_) e) G' hn ⟨⟨_,EV _<|Fs _ rfl,rfl,rfl⟩,?_⟩ (hok _ _ Ut λb o _ e=>kp b o e) (Fs _ rfl) λv h' tk hv hk=>?_⟩
 ·have U6:=Fl.mp hm;rw[hS]at U6;obtain z|z:=U6
  ·exact absurd z<|Nb _
  ·exact absurd (Fb.mp z)<|IE<|Ik Sf
 ·exact Fi hb<|Fb.mp z
 ·rw[hS]at z;exact Fi (Ik hb) z
 ·exact⟨ol,kp _ _ YL,YK⟩
 ·refine h v h' tk hv λb o e=>hk b o (λz=>?_) (λz=>?_)<|kp b o e
  ·exact Fi (E4 e)<|Fb.mp z
  ·rw[hS]at z;exact Fi (Ik<|E4 e) z
end KX
namespace L2
open PySem PySem.Spec PyProof.Rows
def y1(ns:bc Nat):Nat:=Hb (KX.ltB λi=>((ns.getD i 0:Nat):Int))<|ns.length - 1
theorem y2(h:ns≠[]):y1 ns < ns.length/\∀j,j < ns.length->ns.getD (y1 ns) 0<=ns.getD j 0:=by
 obtain⟨h1,h2⟩:=argBest_lt (λi=>((ns.getD i 0:Nat):Int))<|ns.length - 1;have hl:=J2.mpr h;refine⟨IV h1 (by lia),λj hj=>?_⟩;have:=h2 j (by lia);exact Int.ofNat_le.mp this
def BN(K:gV)(H:Hp)(as:bc f')(ns:bc Nat):Prop:=as.length=ns.length/\∀(i:Nat) (a:f'),as[i]? =ab a->∃l,SqL K H a l/\ns[i]? =ab l.length
def Ae(K:gV):V->Hp->VK->Prop:=λx H Q=>∃(p:f') (as:bc f') (ns:bc Nat),x=.ref p/\SqL K H p (as.map V.ref)/\ns≠[]/\BN K H as ns/\∀a:f',as[y1 ns]? =ab a->Q (.ref a) H
def De(K:gV)(te:TE):TE:=λσ H Q=>te σ H λx H1=>Ae K x H1 Q
theorem y3{p1 p2 kp q1:Pos}(hc:X.calm=kz)(Uh:Gl X "min")(T9:X.mg "min"=A')(Y0:Gl X "len")(U5:X.mg "len"=A')(he:PE X e te)
  (hs:Fu [e] X.env=[(B',G0 e X.env)]:=by rfl):
  PE X (.Call (.Name "min" p1) [e] [⟨ab "key",.Name "len" p2,kp⟩] q1) (De X.K te):=by
 intro kS s σ H Q I h;refine Gz<|cW I Uh T9 Py ?_;refine KE (bp (aa he (ae (X:=X)) (by rw[hs];rfl) q1 kS s σ H (vC λx H1=>Ae X.K x H1 Q) I h) λus s1 ⟨vs,H1,I1,r1,Ss⟩=>?_) (by rw[hs];rfl) (by rw[hs];rfl) rfl rfl;obtain⟨x,e1,p,as,ns,rfl,hq,PJ,⟨S',hL⟩,q⟩:=hG Ss;subst e1;obtain⟨u,rfl,ru⟩:=dD r1;cases ru;refine Ls<|cW I1 Y0 U5 Fj<|LJ ?_;show wpAny _ _ (call (.builtin "min") [.ref p] [(ET "key",.builtin "len")]) _ _ _
 obtain⟨Gx,rv,pl,hz⟩:=I1.list hq;have ad3:=iz;have adJ:sizeLine=16777216:=Iq;have lits:Gx.length=ns.length:=by rw[<-rv.length,ka,S']
 have hnp:=J2.mpr PJ;have at_:∀{i:Nat} {v:j'},Gx.toArray[i]? =ab v->∃a,as[i]? =ab a/\v=.ref a:=λ{i v} hv=>by
  have PH:Gx[i]? =ab v:=by simpa using hv
  have hi:i < as.length:=by
   have:=(ES.mp PH).1;lia
  obtain⟨u,hu,ru⟩:=rv.get (i:=i) (x:=V.ref as[i]) (by rw[Fk,E1 hi];rfl);rw[PH]at hu;cases hu;exact⟨as[i],E1 hi,ru⟩
 refine KX.min_len (λi=>((ns.getD i 0:Nat):Int)) (λh=>∀(i:Nat) (a:f'),as[i]? =ab a->∃its':bc j',h.IsList a its'.toArray/\its'.length=ns.getD i 0/\its'.length<=sizeLine/\a < s1.heap.objs.size) (I1.ok.hd hc) pl.isList (by simp;lia) (λi a ha=>?_) (λh1 h2 ok1 k i a ha=>?_) (λi v s' Q' E' hv ok1 hQ=>?_) λv h' tk hv hk=>?_
 ·obtain⟨l,hl,hn⟩:=hL i a ha;obtain⟨its',UN,pl',hz'⟩:=I1.list hl;have PM:=pl'.isList;obtain⟨o,ho,_⟩:=id PM;exact⟨its',PM,by rw[Fo,hn,JI,UN.length],by rw[<-UN.length];exact hz',E4 ho⟩
 ·obtain⟨its',PM,e1,e2,e3⟩:=ok1 i a ha;obtain⟨o,ho,ho2⟩:=PM;exact⟨its',⟨o,k a o e3 ho,ho2⟩,e1,e2,e3⟩
 ·obtain⟨a,ha,rfl⟩:=at_ hv;obtain⟨its',PM,e1,e2,e3⟩:=ok1 i a ha;refine L5 PM (by simp only [Ff];lia) ?_;simp only [Ff,e1];exact hQ _ _
 ·obtain⟨a,ha,rfl⟩:=at_ hv;have e:Gx.toArray.size - 1=ns.length - 1:=by simp [lits]
  rw[e]at ha;exact⟨.ref a,H1,I1.kept hk,rfl,q a ha⟩
end L2
namespace K95
open PySem L2 OD
def cH(i:Nat):Gs:=PySem.Challenge.pw_oathduel_k95_whole_losers_lose.main.body.getD i<|.Pass ⟨0,0,0,0⟩
abbrev lI:Gs:=cH 58
abbrev uk:Gs:=cH 59
abbrev iL:Gs:=cH 60
abbrev lJ:Gs:=cH 61
structure DB (mg:Str->kb j'):Prop where
 len:mg "len"=A'
 range:mg "range"=A'
 tuple:mg "tuple"=A'
 sorted:mg "sorted"=A'
def cQ(ns:bc Int)(k:Int):Int:=ns.getD k.toNat 0
def qD(c k:Int)(b:ER):Int:=if b=kz then((c*48271+k*69621+11) % 2147483629*((c*48271+k*69621+11) % 2147483629) % 2147483587)*((c*48271+k*69621+11) % 2147483629*((c*48271+k*69621+11) % 2147483629) % 2147483587) % 2147483563 else c
inductive Af (K:gV)(vs:bc V)(H:Hp)(Q:VK):Prop
 |mk (a:f')(ns:bc Int)(k:Int)(h0:vs=[.ref a,.int k])(h1:SqL K H a (ns.map V.int))(h2:0<=k)(h3:Q (.int<|cQ ns k) H):Af K vs H Q
def qE(K:gV):Sp:=λvs H Q _=>Af K vs H Q
inductive Df (vs:bc V)(H:Hp)(Q:VK):Prop
 |mk (c k:Int)(b:ER)(h0:vs=[.int c,.int k,.bl b])(h1:Q (.int<|qD c k b) H):Df vs H Q
def wl:Sp:=λvs H Q _=>Df vs H Q
def wm(n:Int)(H:Hp)(Q:VK):Prop:=∀(p:f') (ls:bc Int) (H':Hp),Same H H'->H' p=ab (.tup<|ls.map V.int)->ClOk n ls->ls.length<=4->Q (.ref p) H'
def rK:Sp:=λvs H Q _=>∃c n:Int,vs=[.int c,.int n]/\0<=n/\n < 1000/\wm n H Q
inductive Ag (K:gV)(vs:bc V)(H:Hp)(Q:VK):Prop
 |mk (a:f')(ns:bc Int)(most:Int)(h0:vs=[.ref a,.int most])(h1:SqL K H a (ns.map V.int))(h2:ns.length<=63)(h3:0<=most)(h4:most < 20)(h5:∀(p:f') (t:Str) (cs:bc (bc Int)) (H':Hp),Same H H'->RD H' (fz t cs) (.ref p)->SOk most t cs->(∀c∈cs,c.length<=4)->Q (.ref p) H'):Ag K vs H Q
def wn(K:gV):Sp:=λvs H Q _=>Ag K vs H Q
def uY(s:Int):Int:=if s=0 then 1 else -1
def ia(ps:bc (Int×Int)):bc (Int×Int):=ps.map λq=>(q.1,uY q.2)
theorem wo(ps:bc (Int×Int))(k s:Int):ia (kR ps k s)=kR (ia ps) k (uY s):=by
 have e:((ia ps).any λq=>decide (q.1=k))=(ps.any λq=>decide (q.1=k)):=by
  unfold ia;rw[Js];rfl
 unfold kR;rw[e]
 split
 ·unfold ia;rw[FX,FX];refine Ht λq _=>?_;show(λq=>(q.1,uY q.2)) (if q.1=k then(q.1,s)else q)=if q.1=k then(q.1,uY s)else(q.1,uY q.2)
  split<;>rfl
 ·unfold ia;rw[Fh];rfl
theorem ul(ps:bc (Int×Int))(k:Int):gE (ia ps) k=(gE ps k).map uY:=by
 induction ps with
 |nil=>rfl
 |cons q r ih=>
  unfold ia at ih ⊢;unfold gE at ih ⊢;rw[FA,Gv,Gv];by_cases h:q.1=k
  ·simp [h]
  ·simp only [h,decide_false];exact ih
theorem lK(ps:bc (Int×Int)):(ia ps).map (·.1)=ps.map (·.1):=by
 unfold ia;rw[FX];rfl
theorem iM(s:Int):uY s=1\/uY s=-1:=by
 unfold uY
 split
 ·exact .inl rfl
 ·exact .inr rfl
theorem wp(h:r=0\/r=1):kL [V.int 1,V.int (-1)] r=ab (.int<|uY r):=by
 obtain rfl|rfl:=h<;>rfl
section
variable {K:gV}
theorem BO:ax ["_law_script","_law_k"] ["_law_script","_law_k"] (ah lI):=⟨rfl,rfl,rfl,by decide+kernel,rfl,by decide+kernel,by decide+kernel⟩
theorem y4(F:Fun K "_law_cell_at" "_law_cell_at" lI f fd)(T:DB mg):FnOk P w K mg base bD 1 f fd ["_law_script","_law_k"] (qE K):=by
 refine F.ok BO (λvs H Q E h=>?_) λHL A outer s H vs Q E hr h=>?_
 ·obtain⟨a,ns,k,rfl,_⟩:=h;rfl
 obtain⟨a,ns,k,rfl,hS,h0,q⟩:=h;refine⟨_,(af (aJ (aD kZ (pv 1) (aq aH rfl T.len Fj<|aa (pv 0) ae)<|ay _) (ai<|am<|aA av (pv 0) (pv 1) λ_ _=>rfl) az)
  (ai<|am aj)),?_⟩
 exists _,rfl,_,rfl,.ref a,_,rfl,.inl ⟨_,hS,rfl⟩,_,_,rfl,rfl,_,rfl;refine hE (λc=>?_) λc=>?_
 ·have c':k < (((ns.map V.int).length:Nat):Int):=Fv c;rw[ka]at c';obtain⟨v,hv1,hv⟩:=vv (ns:=ns) h0 c';have e:cQ ns k=v:=by
   unfold cQ;rw[Fo,hv1];rfl
  rw[e]at q;exact⟨_,rfl,_,rfl,.inl ⟨a,_,k,.int v,rfl,rfl,hS,hv,q⟩⟩
 ·have c':¬k < (((ns.map V.int).length:Nat):Int):=λz=>c<|E2 z;rw[ka]at c';have e:cQ ns k=0:=by
   unfold cQ;rw[Fo,Hd<|by lia];rfl
  rw[e]at q;exact q
theorem Ah:ax ["_law_cell","_law_k","_law_mixed","_law_number"] ["_law_cell","_law_k","_law_mixed"] (ah uk):=⟨rfl,rfl,rfl,by decide+kernel,rfl,by decide+kernel,by decide+kernel⟩
theorem BP(F:Fun K "_law_mix" "_law_mix" uk f fd):FnOk P w K mg base bD 1 f fd ["_law_cell","_law_k","_law_mixed"] wl:=by
 have sc:=Ah;refine F.ok Ah (λvs H Q E h=>?_) λHL A outer s H vs Q E hr h=>?_
 ·obtain⟨c,k,b,rfl,_⟩:=h;rfl
 obtain⟨c,k,b,rfl,q⟩:=h;refine⟨_,(af (aJ (bO<|aP<|pv 2) (ai<|am<|pv 0) az)
  (af (aB (i:=3) sc.nd rfl (E8 rfl)<|aE bY (aE bI (aE bI (aE eI (pv 0) aj)<|aE eI (pv 1) aj) aj) aj)
  (af (aB (i:=3) sc.nd rfl (E8 rfl)<|aE bY (aE eI (pv 3)<|pv 3) aj)
  (ai<|am<|aE bY (aE eI (pv 3)<|pv 3) aj)))),?_⟩
 exists _,rfl,_,rfl;cases b with
 |false=>exact aL ⟨_,rfl,q⟩
 |true=>
  refine aG ?_;unfold qD at q;rw[Fc rfl]at q;exists _,rfl,_,_,rfl,rfl,.inr ⟨by decide,by decide⟩,_,rfl,_,_,rfl,rfl,.inr ⟨by decide,by decide⟩,_,_,rfl,rfl,_,_,rfl,rfl,_,_,rfl,rfl,(by show(0:Int) < 2147483629;decide);exists _,rfl,_,rfl,_,_,rfl,rfl,.inl ⟨by lia,by lia⟩,_,_,rfl,rfl,(by show(0:Int) < 2147483587;decide);exact⟨_,rfl,_,rfl,_,_,rfl,rfl,.inl ⟨by lia,by lia⟩,_,_,rfl,rfl,(by show(0:Int) < 2147483563;decide),q⟩
theorem rL:ax ["_law_number","_law_count","_law_signs","_law_size","_law_k"] ["_law_number","_law_count"] (ah iL):=⟨rfl,rfl,rfl,by decide+kernel,rfl,by decide+kernel,by decide+kernel⟩
inductive oH (n:Int)(d:f')(c:Int)(H:Hp)(i:Nat)(σ:bc (kb V))(H2:Hp):Prop
 |mk (cc:Int)(ps:bc (Int×Int))(jv:kb V)(i0:σ=[ab<|.int cc,ab<|.int n,ab<|.ref d,ab<|.int<|c % 5,jv])(i1:H2 d=ab (.dK<|dP ps))(i2:Same H H2)(i3:DOk n (ia ps))(i4:(∀z∈ps,z.2=0\/z.2=1))(i5:ps.length<=i):oH n d c H i σ H2
inductive oI (d:f')(ks:bc Int)(ps:bc (Int×Int))(D:f')(H3:Hp)(i:Nat)(σ:bc (kb V))(ys:bc V)(H4:Hp):Prop
 |mk (i0:(∃v0,σ=[v0,ab (.ref d)]))(i1:ys=((ks.take i).map λk=>V.int<|k*Bx (ia ps) k))(i2:H4 D=ab (.lst ys))(i3:(∀b o,b≠D->H3 b=ab o->H4 b=ab o)):oI d ks ps D H3 i σ ys H4
theorem wq(F:Fun K "_law_drawn" "_law_drawn" iL f fd)(T:DB mg):FnOk P w K mg base bD 1 f fd ["_law_number","_law_count"] rK:=by
 have sc:=rL;refine F.ok rL (λvs H Q E h=>?_) λHL A outer s H vs Q E hr h=>?_
 ·obtain⟨c,n,rfl,_⟩:=h;rfl
 obtain⟨c,n,rfl,n0,n1,q⟩:=h;have hu:=hr.units;have N':=rh hr;refine⟨_,(af (aB (i:=2) sc.nd rfl (Ie rfl) jI)
  (af (aB (i:=3) sc.nd rfl (E8 rfl)<|aE bY (pv 0) aj)
  (af (aB (i:=0) sc.nd rfl (E8 rfl)<|aE cI (pv 0) aj)
  (af (aU Fg rfl (cE rfl T.range<|aa (pv 3) ae) (ap (i:=4) sc.nd rfl<|E8 rfl)
   (ai (aJ (aD fF (pv 1) aj<|ay _) (af (yC N' (pv 2) (aE bI aj<|aE bY (pv 0)<|pv 1) (aE bY (aE cI (pv 0)<|pv 1) aj) rfl)
    (ai<|aB (i:=0) sc.nd rfl (E8 rfl)<|aE cI (pv 0)<|aE eI aj<|pv 1)) az)))
  (ai<|am<|bn bW rfl T.tuple GE<|aa (bj (NY:=["_law_variable","_law_signs"]) (idx:=[A',ab 2]) rfl ⟨by with_unfolding_all rfl,(by with_unfolding_all exact⟨rfl,trivial⟩),λ_=>by rfl,by rfl,by rfl,by rfl,by decide⟩ (bi<|aq (nX rfl) rfl T.sorted OS<|aa (pv 2) ae) (λ_ _ _ _=>(ap (i:=0) (show Gd (["_law_variable","_law_signs"]:bc Str) by decide+kernel) rfl<|E8 rfl)) (λ_ _ _ _=>b_) λ_ _ _ _=>(aE eI (pv 0)<|aA (bR (K:=K) rfl) (be<|aa aj<|aa (dC cC aj) ae) (g9 N' (pv 1) (pv 0) λ_ _=>rfl) λ_ _=>rfl)) ae))))),?_⟩
 intro d hd;have c5:=Hc c (show(5:Int)≠0 by decide);have c5':=GY c (show(0:Int) < 5 by decide);exists _,rfl,_,_,rfl,rfl,(by show(0:Int) < 5;decide),_,rfl,_,_,rfl,rfl,⟨by decide,by decide⟩;refine⟨_,rfl,c % 5,rfl,(by lia),(by lia),cF (lo:=0) (n:=(c % 5).toNat)
  (oH n d c H)
  ⟨_,[],A',rfl,ad,ag hd _,DOk.nil n,(λ_ z=>nomatch z),lb _⟩ ?_ ?_⟩
 ·rintro i σ H2 hi ⟨cc,ps,jv,rfl,MX,k2,hok,Uv,hl⟩;refine⟨_,rfl,_,_,rfl,rfl,_,rfl,hE (λg=>?_) λg=>?_⟩
  ·have g':0 < n:=Fv g;have m1:=Hc cc (show n≠0 by lia);have m2:=GY cc g';have s1:=Hc (cc / n) (show(2:Int)≠0 by decide);have s2:=GY (cc / n) (show(0:Int) < 2 by decide);exists _,rfl,_,rfl,_,_,rfl,rfl,⟨g',by lia⟩,_,_,rfl,rfl,(by show(0:Int) < 2;decide);exists _,rfl,_,rfl,_,rfl,_,_,rfl,rfl,g',_,_,rfl,rfl,d,_,rfl,DPut.k (k:=FS (1+cc % n)) MX (by unfold dP;rw[ka];exact au<|by lia);exists _,rfl,_,rfl,_,_,rfl,rfl,.inl ⟨by decide,by decide⟩,_,_,rfl,rfl,⟨by lia,by lia⟩;obtain⟨o1,o2⟩:=hok.put (k:=1+cc % n) (s:=uY<|cc / n % 2) (by lia)<|iM _;rw[<-wo]at o1 o2;have ml:∀l,(ia l).length=l.length:=λl=>ka _;rw[ml,ml]at o2;refine⟨_,kR ps (1+cc % n)<|cc / n % 2,_,rfl,?_,k2.upd_new hd _,o1,λz hz=>?_,by lia⟩
   ·rw[ad];exact Gg (λz=>ab<|HO.dK z)<|Bv _ _ _
   ·unfold kR at hz
    split at hz
    ·obtain⟨y,hy,e⟩:=FW.mp hz
     split at e
     ·rw[<-e];show cc / n % 2=0\/cc / n % 2=1
      lia
     ·rw[<-e];exact Uv y hy
    ·obtain y|y:=FN.mp hz
     ·exact Uv z y
     ·rw[Fb.mp y];show cc / n % 2=0\/cc / n % 2=1
      lia
  ·exact⟨cc,ps,_,rfl,MX,k2,hok,Uv,by lia⟩
 ·rintro σ H2 ⟨cc,ps,jv,rfl,MX,k2,hok,Uv,hl⟩;refine⟨_,rfl,d,dP ps,ps.map (·.1),rfl,MX,yJ ps,by rw[ka];lia,λl ks Ta hperm hpw=>⟨l,rfl,⟨_,SqL.of ad⟩,λD hD=>?_⟩⟩;have Tb:ks.length=ps.length:=by rw[hperm.length_eq,ka]
  have k3:=k2.upd_new (k2.free Ta)<|.lst<|ks.map V.int;have U':upd H2 l (.lst<|ks.map V.int) d=ab (.dK<|dP ps):=by rw[al<|ak MX Ta];exact MX
  have RJ:upd H2 l (.lst<|ks.map V.int) l=ab (.lst<|ks.map V.int):=ad;generalize upd H2 l (.lst<|ks.map V.int)=H3 at k3 U' RJ hD;refine cZ (K:=K) (a:=l) (xs:=ks.map V.int) (oI d ks ps D H3)
   ⟨⟨A',rfl⟩,rfl,ad,λb o hb e=>by rw[al hb];exact e⟩ ?_ ?_ ?_
  ·rintro i σ ys H4 _ ⟨_,_,h1,h2⟩;exact⟨h1,SqL.of<|h2 _ _ (ak RJ hD) RJ⟩
  ·rintro i x σ ys H4 hx ⟨⟨v0,rfl⟩,Lg,h1,h2⟩;obtain⟨k,rfl,hk⟩:=cM hx;have km:k∈ps.map (·.1):=hperm.mem_iff.mp<|Fd hk;obtain⟨YV,T1⟩:=hok.look (k:=k) (by rw[lK];exact km);rw[ul]at YV;obtain⟨r,ND,Qh⟩:=FV.mp YV;have YJ:r=0\/r=1:=by
    unfold gE at ND;obtain⟨y,hy1,hy2⟩:=FV.mp ND;rw[<-hy2];exact Uv y<|Gy hy1
   have PM:i < ks.length:=(ES.mp hk).1;have ZL:ys.length<=60:=by
    rw[Lg,ka,FO];lia
   have nd:d≠D:=ak U' hD;refine dF ⟨_,rfl,_,rfl,(by show 2<=sizeLine;decide),λe he=>?_⟩;have U_:upd H4 e (.lst [.int 1,.int (-1)]) d=ab (.dK<|dP ps):=by rw[al<|ak (h2 _ _ nd U') he];exact h2 _ _ nd U'
   have hv:DGet (upd H4 e<|.lst [.int 1,.int (-1)]) d (.int k) (ab<|.int r):=by
    have z:=DGet.k (k:=FS k) U_;rw[Bw,ND]at z;exact z
   refine⟨_,rfl,_,rfl,d,_,rfl,hv,.inl ⟨e,_,r,_,rfl,rfl,SqL.of ad,wp YJ,_,_,rfl,rfl,.inr ⟨?_,?_⟩,?_,au (by lia),⟨_,rfl⟩,?_,ad,λb o hb eb=>?_⟩⟩
   ·obtain z|z:=iM r<;>rw[z]<;>decide
   ·obtain z|z:=iM r<;>rw[z]<;>decide
   ·rw[al<|ak h1 he];exact h1
   ·rw[Lg,FD,hk,Fh,Qh];rfl
   ·have eb4:=h2 b o hb eb;rw[al hb,al<|ak eb4 he];exact eb4
  ·rintro σ ys H4 ⟨_,Lg,h1,h2⟩;rw[ka,E3<|lb _]at Lg;have YA:ys=(ks.map λk=>k*Bx (ia ps) k).map V.int:=by rw[Lg,FX];rfl
   refine⟨D,ys,rfl,.inl ⟨SqL.of h1,λt ht=>?_⟩⟩;have nH:H D=none:=k3.free hD;have k4:Same H H4:=λb o e=>h2 b o (ak e nH)<|k3 b o e;refine q t _ _ (k4.upd_new (k4.free ht) _) (by rw[ad,YA]) (hok.clause (by rw[lK];exact hperm) hpw) ?_;rw[ka];lia
end
theorem y6{ns:bc Int}:(dq (ns.map V.int) (ab 3)<|ab 15).length<=12:=by
 unfold dq;have e1:HT.sIx (ns.map V.int).length 0 (ab 3)=min 3 (ns.map V.int).length:=HT.sIx_nat _ 0 3;have e2:HT.sIx (ns.map V.int).length (ns.map V.int).length (ab 15)=min 15 (ns.map V.int).length:=HT.sIx_nat _ _ 15;rw[e1,e2,FO,Hi];lia
theorem mW(h:∀N,(∀σ' H',B D σ' H'->N σ' H')->A {D with nx:=N} σ H):u5 A B D σ H:=h (λσ H=>B D σ H) λ_ _ z=>z
section
variable {K:gV}
theorem wt:ax ["_law_script","_law_most","_law_first_here","_law_count","_law_turn","_law_odd","_law_clauses","_law_cell","_law_turns"] ["_law_script","_law_most"] (ah lJ):=⟨rfl,rfl,rfl,by decide+kernel,rfl,by decide+kernel,by decide+kernel⟩
inductive lL (a:f')(most:Int)(first:Int)(ns:bc Int)(qa:f')(p2:f')(H:Hp)(r0:Int)(i:Nat)(σ:bc (kb V))(H3:Hp):Prop
 |mk (xs:bc V)(cs:bc (bc Int))(v7:kb V)(i0:σ=[ab<|.ref a,ab<|.int most,ab<|.int first,ab<|.int (first / 2 % (most+1)),ab<|.int<|qD (cQ ns 1) 1 (decide (V.int (first % 2)=V.int 1)),ab<|.int<|cQ ns 2 / 7,ab<|.ref qa,v7,A'])(i1:H3 qa=ab (.lst xs))(i2:H3 p2=ab (.lst<|dq (ns.map V.int) (ab 3)<|ab 15))(i3:CLs H3 cs xs)(i4:Same H H3)(i5:cs.length=i)(i6:∀c∈cs,ClOk r0 c/\c.length<=4):lL a most first ns qa p2 H r0 i σ H3
inductive lM (r1:Int)(H3:Hp)(D:f')(i:Nat)(σ:bc (kb V))(ys:bc V)(H2:Hp):Prop
 |mk (i0:(∃v0,σ=[v0,ab<|.int r1]))(i1:(∃ss:bc Str,ys=ss.map V.str/\ss.length=i/\∀s∈ss,jS s))(i2:H2=upd H3 D (.lst ys)):lM r1 H3 D i σ ys H2
inductive iN (ns:bc Int)(D2:f')(H:Hp)(qa:f')(xs:bc V)(cs:bc (bc Int))(r0:Int)(i:Nat)(σ:bc (kb V))(ys:bc V)(H4:Hp):Prop
 |mk (i0:(∃v0,σ=[v0,ab<|.int<|cQ ns 2 / 7]))(i1:H4 D2=ab (.lst ys))(i2:Same H H4)(i3:H4 qa=ab (.lst xs))(i4:CLs H4 cs xs)(Sn:bc (bc Int))(i5:Sn.length<=i)(i6:CLs H4 Sn ys)(i7:∀c∈Sn,ClOk r0 c/\c.length<=4):iN ns D2 H qa xs cs r0 i σ ys H4
theorem y8{f3:f'}{d3:E6}(F:Fun K "_law_sentence" "_law_sentence" lJ f fd)(T:DB mg)(Ia:Fn P w K mg base 1 "_law_cell_at" f1 d1 ["_law_script","_law_k"] (qE K))(KJ:Fn P w K mg base 1 "_law_mix" f2 d2 ["_law_cell","_law_k","_law_mixed"] wl)
  (P0:Fn P w K mg base 1 "_law_drawn" f3 d3 ["_law_number","_law_count"] rK):FnOk P w K mg base bD 2 f fd ["_law_script","_law_most"] (wn K):=by
 have sc:=wt;refine F.ok wt (λvs H Q E h=>?_) λHL A outer s H vs Q E hr h=>?_
 ·obtain⟨a,ns,most,rfl,_⟩:=h;rfl
 obtain⟨a,ns,most,rfl,hS,h63,o0,o1,q⟩:=h;have hu:=hr.units;refine⟨_,(af (aB (i:=2) sc.nd rfl (E8 rfl)<|aC Ia hr (by lia) rfl<|aa (pv 0)<|aa aj ae)
  (af (aB (i:=3) sc.nd rfl (E8 rfl)<|aE bY (aE cI (pv 2) aj)<|aE bI (pv 1) aj)
  (af (aB (i:=4) sc.nd rfl (Ie rfl)<|aC KJ hr (by lia) rfl<|aa (aC Ia hr (by lia) rfl<|aa (pv 0)<|aa aj ae)<|aa aj<|aa (aM (aK hu) (aE bY (pv 2) aj) aj<|ay _) ae)
  (af (aB (i:=5) sc.nd rfl (Ie rfl)<|aE cI (aC Ia hr (by lia) rfl<|aa (pv 0)<|aa aj ae) aj)
  (af (aB (i:=6) sc.nd rfl (E8 rfl)<|be ae)
  (af (aU Fg rfl (bi<|dj dW (pv 0) (dw aj)<|dw aj) (ap (i:=7) sc.nd rfl<|E8 rfl)
   (ai<|bG<|cK Fp FB FC bh (pv 6)<|aa (aC P0 hr (by lia) rfl<|aa (aC KJ hr (by lia) rfl<|aa (pv 7)<|aa (aE bI (aq aH rfl T.len Fj<|aa (pv 6) ae) aj)<|aa (aM (aK hu) (aE bY (pv 2) aj) aj<|ay _) ae)<|aa (pv 3) ae) ae))
  (af (aJ (PW.pt<|fb (aD fF (aq aH rfl T.len Fj<|aa (pv 6) ae) aj<|ay _)<|du<|aD (aK hu) (aE bY (pv 5) aj) aj<|ay _) (ai<|bG<|cK Fp FB FC bh (pv 6)<|aa (aA av (pv 6) (aE bY (aE cI (pv 5) aj)<|aq aH rfl T.len Fj<|aa (pv 6) ae) λ_ _=>rfl) ae) az)
  (af (aB (i:=8) sc.nd rfl (E8 rfl)<|cK PySem.F.plainAttrs_str PySem.F.slot_str_join PySem.F.type_str_join yI bA<|aa (bj (NY:=["_law_k","_law_turn"]) (idx:=[A',ab 4]) rfl ⟨by with_unfolding_all rfl,(by with_unfolding_all exact⟨rfl,trivial⟩),λ_=>by rfl,by rfl,by rfl,by rfl,by decide⟩ (cE rfl T.range<|aa (pv 3) ae) (λ_ _ _ _=>(ap (i:=0) (show Gd (["_law_k","_law_turn"]:bc Str) by decide+kernel) rfl<|E8 rfl)) (λ_ _ _ _=>b_) λ_ _ _ _=>(aA (bR (K:=K) rfl) bA (aE pW (aE pV (pv 1)<|pv 0) aj) λ_ _=>rfl)) ae)
  (ai<|am<|bx<|aa (pv 8)<|aa (bj (NY:=["_law_clause","_law_odd"]) (idx:=[A',ab 5]) rfl ⟨by with_unfolding_all rfl,(by with_unfolding_all exact⟨rfl,trivial⟩),λ_=>by rfl,by rfl,by rfl,by rfl,by decide⟩ (bi<|pv 6) (λ_ _ _ _=>(ap (i:=0) (show Gd (["_law_clause","_law_odd"]:bc Str) by decide+kernel) rfl<|E8 rfl)) (λ_ _ _ _=>(ca<|PW.pt<|gz (aD fF (aq (tX (K:=K) rfl) rfl T.len Fj<|aa (pv 0) ae) aj<|ay _)<|fD<|aD (aK hu) (aE bY (aE cI (pv 1) aj) aj) aj<|ay _)) λ_ _ _ _=>(pv 0)) ae))))))))),?_⟩
 exists _,rfl,a,ns,0,rfl,hS,JP 0;generalize cQ ns 0=first
 exists _,rfl,_,_,rfl,rfl,⟨by decide,by decide⟩,_,rfl,_,_,rfl,rfl,_,_,rfl,rfl,(by show(0:Int) < most+1;lia);have x0:=Hc (first / 2) (show most+1≠0 by lia);have x1:=GY (first / 2) (show 0 < most+1 by lia);refine⟨_,rfl,a,ns,1,rfl,hS,(by decide),_,rfl,_,_,rfl,rfl,(by show(0:Int) < 2;decide),.inl ⟨rfl,_,_,_,rfl,?_⟩⟩;exists _,rfl,a,ns,2,rfl,hS,(by decide),_,_,rfl,rfl,⟨by decide,by decide⟩;refine⟨FF _,λqa U0=>?_⟩;have Zx:H qa=none:=U0;have SC:∃r0,first / 2 % (most+1)=r0:=⟨_,rfl⟩
 obtain⟨r0,SC⟩:=SC;rw[SC]at x0 x1;refine⟨_,rfl,3,rfl,15,rfl,a,_,rfl,(ag U0 _).seq hS,λp2 RI=>⟨p2,rfl,⟨_,SqL.of ad⟩,?_⟩⟩;obtain⟨ms,hms,_⟩:=vE ns (ab 3)<|ab 15;have adY:=y6 (ns:=ns);have k3:Same H (upd (upd H qa<|.lst []) p2<|.lst<|dq (ns.map V.int) (ab 3)<|ab 15):=(ag U0 _).upd_new ((ag U0 _).free RI) _;have U2:upd (upd H qa<|.lst []) p2 (.lst<|dq (ns.map V.int) (ab 3)<|ab 15) p2=ab (.lst<|dq (ns.map V.int) (ab 3)<|ab 15):=ad;have Zw:qa≠p2:=ak ad RI;have ZY:upd (upd H qa<|.lst []) p2 (.lst<|dq (ns.map V.int) (ab 3)<|ab 15) qa=ab (.lst []):=by rw[al Zw];exact ad
 refine cw (K:=K) (a:=p2) (xs:=dq (ns.map V.int) (ab 3)<|ab 15) (lL a most first ns qa p2 H r0)
  ⟨[],[],A',rfl,ZY,U2,.nil,k3,rfl,λ_ z=>nomatch z⟩ ?_ ?_ ?_
 ·rintro i σ H3 _ ⟨_,_,_,_,_,g,_⟩;exact SqL.of g
 ·rintro i x σ H3 hx ⟨xs,cs,v7,rfl,g1,g2,g3,g4,g5,g6⟩;have PM:i < (dq (ns.map V.int) (ab 3)<|ab 15).length:=(ES.mp hx).1;rw[hms]at hx;obtain⟨cz,rfl,_⟩:=cM hx;refine⟨_,rfl,.inl ⟨rfl,_,SqL.of g1⟩,_,rfl,_,rfl,.ref qa,_,rfl,.inl ⟨_,SqL.of g1,rfl⟩,_,_,rfl,rfl,_,rfl,_,_,rfl,rfl,(by show(0:Int) < 2;decide),.inl ⟨rfl,_,_,_,rfl,_,rfl,_,_,rfl,?_⟩⟩;rw[SC];refine⟨x0,by lia,λp4 ls H4 k4 U1 hls Q6=>?_⟩;have h4:=k4 _ _ g1;exists qa,_,_,rfl,rfl,h4,(by rw[<-g3.length,g5];exact au<|by lia);refine⟨xs++[.ref p4],cs++[ls],_,by rw[SC];rfl,ad,by rw[al Zw.symm];exact k4 _ _ g2,CLs.snoc (CL.upd ⟨p4,rfl,U1⟩ h4)<|(g3.mono k4).upd h4,λb o e=>?_,by rw[C',g5];rfl,λc hc=>?_⟩
  ·rw[al<|ak e Zx];exact k4 _ _<|g4 _ _ e
  ·obtain z|z:=FN.mp hc
   ·exact g6 c z
   ·rw[Fb.mp z];exact⟨hls,Q6⟩
 rintro σ H3 ⟨xs,cs,v7,rfl,g1,g2,g3,g4,g5,g6⟩;have Uq:cs.length<=12:=by lia
 clear g2 U2 ZY k3;dsimp only;refine mW λN hN=>?_;have key:∀xs cs H3,H3 qa=ab (.lst xs)->CLs H3 cs xs->Same H H3->cs.length<=13->(∀c∈cs,ClOk r0 c/\c.length<=4)->
   N [ab<|.ref a,ab<|.int most,ab<|.int first,ab<|.int (first / 2 % (most+1)),ab<|.int<|qD (cQ ns 1) 1 (decide (V.int (first % 2)=V.int 1)),ab<|.int<|cQ ns 2 / 7,ab<|.ref qa,v7,A'] H3:=by
  clear g1 g3 g4 g5 g6 Uq;intro xs cs H3 g1 g3 g4 g5 g6;refine hN _ _ ?_;generalize qD (cQ ns 1) 1 (decide (V.int (first % 2)=V.int 1))=r1;refine⟨rfl,_,rfl,first / 2 % (most+1),rfl,(by lia),(by lia),λD hD=>?_⟩;refine dG (lo:=0) (n:=(first / 2 % (most+1)).toNat) (lM r1 H3 D) ⟨⟨A',rfl⟩,⟨[],rfl,rfl,λ_ h=>nomatch h⟩,rfl⟩ ?_ ?_ ?_
  ·rintro i σ ys H2 _ ⟨_,_,rfl⟩;exact ad
  ·rintro i σ ys H2 hi ⟨⟨v0,rfl⟩,⟨ss,rfl,ZU,T1⟩,rfl⟩;have e0:Hn (r1 / 2 ^ ((0:Int)+(i:Int)).toNat) 1=r1 / 2 ^ ((0:Int)+(i:Int)).toNat % 2:=K_ _;obtain⟨ch,On,hs⟩:=CW (j:=Hn (r1 / 2 ^ ((0:Int)+(i:Int)).toNat) 1) (by rw[e0];exact Hc _<|by decide) (by rw[e0];exact GY _<|by decide);refine dF ⟨_,rfl,_,rfl,_,_,rfl,rfl,(by show(0:Int)<=0+(i:Int);lia),_,_,rfl,rfl,.inr<|.inr ⟨_,_,ch,rfl,rfl,(by decide+kernel),On,ad,(by rw[ka];exact au<|by lia),⟨_,rfl⟩,⟨ss++[⟨#[ch]⟩],by rw[Fh];rfl,by rw[C',ZU];rfl,λz hz=>?_⟩,gS⟩⟩;obtain w|w:=FN.mp hz
   ·exact T1 z w
   ·rw[Fb.mp w];exact hs
  rintro σ ys H2 ⟨_,⟨ss,rfl,ZU,T1⟩,rfl⟩;obtain⟨tl,tw⟩:=vF T1;refine⟨_,D,ss,rfl,rfl,SqL.of ad,?_,?_⟩
  ·rw[lw T1,show(ET "").length=0 from by decide+kernel];lia
  generalize MM (ET "") ss=t at tl tw;have kD:Same H3 (upd H3 D<|.lst<|ss.map V.str):=ag hD _;have Q0:=kD _ _ g1;have Uw:=g3.mono kD;have k2:=g4.trans kD;clear hD;generalize upd H3 D (.lst<|ss.map V.str)=H2 at k2 Q0 Uw;have Vj:(t.length:Int)=r0:=by lia
  refine⟨_,rfl,_,rfl,qa,rfl,⟨_,SqL.of Q0⟩,λD2 Qj=>?_⟩;have TM:H D2=none:=k2.free Qj;have nq:qa≠D2:=ak Q0 Qj;refine cZ (K:=K) (a:=qa) (xs:=xs) (iN ns D2 H qa xs cs r0)
   ⟨⟨A',rfl⟩,ad,k2.upd_new TM _,by rw[al nq];exact Q0,Uw.mono<|ag Qj _,[],FF _,.nil,λ_ h=>nomatch h⟩ ?_ ?_ ?_
  ·rintro i σ ys H4 _ ⟨_,h1,_,h2,_⟩;exact⟨h1,SqL.of h2⟩
  ·rintro i x σ ys H4 hx ⟨⟨v0,rfl⟩,j1,j2,j3,j4,Sn,j5,j6,j7⟩;have PM:i < xs.length:=(ES.mp hx).1;have Np:=g3.length;obtain⟨c,hc,tc,rfl,JA⟩:=j4.get hx;have Q8:c∈cs:=Fd hc;have sz:ys.length < sizeLine:=by rw[<-j6.length];exact au (by lia)
   have nqD:qa≠D2:=nq;have kp:∀v0,iN ns D2 H qa xs cs r0 (i+1) [ab v0,ab<|.int<|cQ ns 2 / 7] (ys++[.ref tc]) (upd H4 D2<|.lst<|ys++[.ref tc]):=by
    intro v0;refine⟨⟨_,rfl⟩,ad,j2.upd_new TM _,by rw[al nqD];exact j3,j4.upd j1,Sn++[c],by rw[C'];exact Hx j5,CLs.snoc (CL.upd ⟨tc,rfl,JA⟩ j1)<|j6.upd j1,λz hz=>?_⟩;obtain y|y:=FN.mp hz
    ·exact j7 z y
    ·rw[Fb.mp y];exact g6 c Q8
   refine⟨_,rfl,.ref tc,_,rfl,.inr ⟨_,SqT.of JA,rfl⟩,_,_,rfl,rfl,_,rfl,hE (λ_=>aL ⟨_,rfl,j1,sz,kp _⟩) λ_=>?_⟩;refine⟨_,rfl,_,_,rfl,rfl,⟨by decide,by decide⟩,_,_,rfl,rfl,(by show(0:Int) < 8;decide),.inl ⟨rfl,_,rfl,hE (λ_=>⟨_,rfl,j1,sz,kp _⟩) λ_=>?_⟩⟩;exact⟨⟨_,rfl⟩,j1,j2,j3,j4,Sn,by lia,j6,j7⟩
  ·rintro σ ys H4 ⟨_,j1,j2,j3,j4,Sn,j5,j6,j7⟩;refine⟨(by show 2<=sizeLine;decide),λp5 hp5=>?_⟩;have k5:Same H4 (upd H4 p5<|.tup [.str t,.ref D2]):=ag hp5 _;have Np:=g3.length;refine q p5 t Sn _ (j2.trans k5) (yK ad (k5 _ _ j1)<|j6.mono k5) ⟨by lia,tw,by lia,λc hc=>?_⟩ λc hc=>(j7 c hc).2;rw[Vj];exact(j7 c hc).1
 refine⟨_,rfl,.ref qa,_,rfl,.inl ⟨_,SqL.of g1,rfl⟩,_,_,rfl,rfl,_,rfl,hE (λc1=>?_) λc1=>?_⟩
 ·have c1':(0:Int) < ((xs.length:Nat):Int):=Fv c1;refine⟨_,rfl,_,_,rfl,rfl,(by show(0:Int) < 6;decide),.inl ⟨rfl,_,rfl,hE (λc2=>?_) λc2=>?_⟩⟩
  ·have z0:=Hc (cQ ns 2 / 7 / 6) (show((xs.length:Nat):Int)≠0 by lia);have z1:=GY (cQ ns 2 / 7 / 6) c1';obtain⟨x,hx,hxa⟩:=qj (xs:=xs) z0 z1;obtain⟨c,hc,tc,rfl,JA⟩:=g3.get hx;refine⟨_,rfl,.inl ⟨rfl,_,SqL.of g1⟩,_,rfl,_,rfl,_,_,rfl,rfl,⟨by decide,by decide⟩,_,rfl,.ref qa,_,rfl,.inl ⟨_,SqL.of g1,rfl⟩,_,_,rfl,rfl,c1',.inl ⟨qa,xs,_,_,rfl,rfl,SqL.of g1,hxa,?_⟩⟩;exists qa,_,_,rfl,rfl,g1,(by rw[<-g3.length];exact au<|by lia);refine key (xs++[.ref tc]) (cs++[c]) _ ad (CLs.snoc (CL.upd ⟨tc,rfl,JA⟩ g1)<|g3.upd g1) (λb o e=>?_) (by rw[C'];exact Hx Uq) λz hz=>?_
   ·rw[al<|ak e Zx];exact g4 _ _ e
   ·obtain y|y:=FN.mp hz
    ·exact g6 z y
    ·rw[Fb.mp y];exact g6 c<|Fd hc
  ·exact key xs cs H3 g1 g3 g4 (by lia) g6
 ·exact aG<|key xs cs H3 g1 g3 g4 (by lia) g6
end
abbrev fV:Gs:=cH 14
structure uZ (mg:Str->kb j'):Prop where
 len:mg "len"=A'
 g_WISHER:gF mg "WISHER" (.str<|ET "wisher")
 g_SPOILER:gF mg "SPOILER" (.str<|ET "spoiler")
inductive Ai (vs:bc V)(H:Hp)(Q:VK):Prop
 |mk (p:f')(t:Str)(w:V)(i:Nat)(h0:vs=[.ref p,.int<|(i:Int)+1])(h1:H p=ab (.tup [.str t,w]))(h2:i < t.length)(h3:t.length<=900)(h4:Q (.str<|aN<|bP t i) H):Ai vs H Q
def eJ:Sp:=λvs H Q _=>Ai vs H Q
section
variable {K:gV}
theorem oJ:ax ["sentence","variable","turns"] ["sentence","variable"] (ah fV):=⟨rfl,rfl,rfl,by decide+kernel,rfl,by decide+kernel,by decide+kernel⟩
theorem um(F:Fun K "hand_of" "hand_of" fV f fd)(T:uZ mg):FnOk P w K mg base bD 1 f fd ["sentence","variable"] eJ:=by
 have sc:=oJ;refine F.ok oJ (λvs H Q E h=>?_) λHL A outer s H vs Q E hr h=>?_
 ·obtain⟨p,t,w,i,rfl,_⟩:=h;rfl
 obtain⟨p,t,w,i,rfl,hp,hi,h9,q⟩:=h;have hu:=hr.units;refine⟨_,(af (aB (i:=2) sc.nd rfl (E8 rfl)<|aA av (pv 0) aj λ_ _=>rfl)
  (af (aJ (bO<|u_ rf rf aj (pv 1)<|aq aH rfl T.len Fj<|aa (pv 2) ae) (ai gT) az)
  (ai<|am<|fE (aD (aK hu) (aA av (pv 2) (aE eG (pv 1) aj) λ_ _=>rfl) bA<|ay _) (ba rfl T.g_WISHER)<|ba rfl T.g_SPOILER))),?_⟩
 refine⟨_,rfl,.inr<|.inl ⟨p,_,0,.str t,rfl,rfl,SqT.of hp,rfl,?_⟩⟩;have e1:decide ((1:Int)<=(i:Int)+1)=true:=E2 (by lia);have e2:decide ((i:Int)+1<=((t.length:Nat):Int))=true:=E2 (by lia);have PM:i < t.cps.toList.length:=by
  rw[Gh];exact hi
 have On:=E1 PM;have RM:kL t.cps.toList ((i:Int)+1 - 1)=ab t.cps.toList[i]:=by
  have e:(i:Int)+1 - 1=(i:Int):=by lia
  rw[e];exact bf On
 exists _,rfl,_,_,rfl,rfl,_,rfl;rw[e1];refine aL ⟨_,rfl,.str t,_,rfl,⟨FQ (au<|by lia),rfl⟩,_,_,rfl,rfl,_,rfl,?_⟩;rw[e2];refine aG ?_;refine⟨_,rfl,_,rfl,_,_,rfl,rfl,.inr<|.inr ⟨t,_,_,rfl,rfl,FQ (au<|by lia),RM,.inl ⟨rfl,_,rfl,?_⟩⟩⟩;rw[vM,<-mO On];cases g:bP t i with
 |true=>
  rw[g]at q;exact aL q
 |false=>
  rw[g]at q;exact aG q
end
abbrev lN:Gs:=cH 5
abbrev fW:Gs:=cH 6
abbrev uo:Gs:=cH 7
structure Em (mg:Str->kb j'):Prop where
 isinstance:mg "isinstance"=A'
 int:mg "int"=A'
 bool:mg "bool"=A'
 tuple:mg "tuple"=A'
 list:mg "list"=A'
 len:mg "len"=A'
 all:mg "all"=A'
 enumerate:mg "enumerate"=A'
def DC(d:Fq):Prop:=∀ds,d=.tuple ds->Gk (ds.getD 0 .none)=kz
inductive Aj (vs:bc V)(H:Hp)(Q:VK):Prop
 |mk (v:V)(d:Fq)(h0:vs=[v])(h1:RD H d v)(h2:Q (.bl<|mK d&&!mL d) H):Aj vs H Q
def mY:Sp:=λvs H Q _=>Aj vs H Q
inductive rM (vs:bc V)(H:Hp)(Q:VK):Prop
 |mk (v:V)(d:Fq)(many:Nat)(h0:vs=[v,.int (many:Int)])(h1:RD H d v)(h2:Q (.bl (bZ many d).isSome) H):rM vs H Q
def fO:Sp:=λvs H Q _=>rM vs H Q
inductive Dg (vs:bc V)(H:Hp)(Q:VK):Prop
 |mk (v:V)(d:Fq)(w:Str)(n:Nat)(h0:vs=[v,.str w,.int (n:Int)])(h1:RD H d v)(h2:1<=n)(h3:Gk (.str w)=kz)(h4:DC d)(h5:Q (.bl<|OD.formB w n d) H):Dg vs H Q
def Ak:Sp:=λvs H Q _=>Dg vs H Q
theorem ki(h:eP H ds xs)(hl:ds.length=2):∃d0 d1 x0 x1,ds=[d0,d1]/\xs=[x0,x1]/\RD H d0 x0/\RD H d1 x1:=by
 have NG:=dX h
 match ds,xs,hl,NG with
 |[d0,d1],[x0,x1],_,_=>exact⟨d0,d1,x0,x1,rfl,rfl,dy (j:=0) h rfl,dy (j:=1) h rfl⟩
theorem kj(h:eP H ds xs)(hl:ds.length=3):∃d0 d1 d2 x0 x1 x2,ds=[d0,d1,d2]/\xs=[x0,x1,x2]/\RD H d0 x0/\RD H d1 x1/\RD H d2 x2:=by
 have NG:=dX h
 match ds,xs,hl,NG with
 |[d0,d1,d2],[x0,x1,x2],_,_=>exact⟨d0,d1,d2,x0,x1,x2,rfl,rfl,dy (j:=0) h rfl,dy (j:=1) h rfl,dy (j:=2) h rfl⟩
section
variable {K:gV}
theorem BQ:ax ["thing"] ["thing"] (ah lN):=⟨rfl,rfl,rfl,by decide+kernel,rfl,by decide+kernel,by decide+kernel⟩
theorem y9(F:Fun K "is_number" "is_number" lN f fd)(T:Em mg):FnOk P w K mg base bD 1 f fd ["thing"] mY:=by
 refine F.ok BQ (λvs H Q E h=>?_) λHL A outer s H vs Q E hr h=>?_
 ·obtain⟨v,d,rfl,_⟩:=h;rfl
 obtain⟨v,d,rfl,hd,q⟩:=h;have nd:=lu hd;exists _,(ai<|am<|iy (aq dZ rfl T.isinstance GW<|aa (pv 0)<|aa (jy (v:=.ty "int") rfl T.int Ic rfl) ae)<|iw<|A4<|aq dZ rfl T.isinstance GW<|aa (pv 0)<|aa (jy (v:=.ty "bool") rfl T.bool Pn rfl) ae);exists _,rfl,v,_,"int",_,rfl,vp d v hd,yG d nd,_,rfl;cases hI:mK d with
 |false=>
  rw[hI]at q;exact aG q
 |true=>
  rw[hI]at q;exact aL ⟨_,rfl,v,_,"bool",_,rfl,vp d v hd,vt d nd,_,rfl,q⟩
theorem oK:ax ["thing","many"] ["thing","many"] (ah fW):=⟨rfl,rfl,rfl,by decide+kernel,rfl,by decide+kernel,by decide+kernel⟩
theorem up(F:Fun K "is_place" "is_place" fW f fd)(J_:Fn P w K mg base 1 "is_number" g gd ["thing"] mY):FnOk P w K mg base bD 2 f fd ["thing","many"] fO:=by
 have sc:=oK;refine F.ok oK (λvs H Q E h=>?_) λHL A outer s H vs Q E hr h=>?_
 ·obtain⟨v,d,many,rfl,_⟩:=h;rfl
 obtain⟨v,d,many,rfl,hd,q⟩:=h;exists _,(ai<|am<|iy (aC J_ hr (by lia) rfl<|aa (pv 0) ae)<|iw<|u9 rf kZ aj (pv 0)<|pv 1);exists _,rfl,v,d,rfl,hd,_,rfl;obtain⟨z,rfl⟩|hn:=qx d
 ·obtain rfl:=bF hd;refine aL ?_;have q':Q (.bl (if 0<=z/\z < (many:Int)then ab z.toNat else A').isSome) H:=q;exists _,rfl,_,_,rfl,rfl,_,rfl;by_cases h0:0<=z
  ·rw[E2 h0];refine aL ⟨_,rfl,_,_,rfl,rfl,?_⟩;by_cases h1:z < (many:Int)
   ·rw[Fc ⟨h0,h1⟩]at q';show Q (.bl (decide (z < (many:Int)))) H
    rw[E2 h1];exact q'
   ·rw[E7 λc=>h1 c.2]at q';show Q (.bl (decide (z < (many:Int)))) H
    rw[E_ h1];exact q'
  ·rw[E7 λc=>h0 c.1]at q';rw[E_ h0];exact aG q'
 ·rw[mQ hn];have e:bZ many d=none:=by
   cases d with
   |int z=>exact absurd rfl<|hn z
   |_=>rfl
  rw[e]at q;exact aG q
theorem Al:ax ["thing","word","many"] ["thing","word","many"] (ah uo):=⟨rfl,rfl,rfl,by decide+kernel,rfl,by decide+kernel,by decide+kernel⟩
theorem BR(F:Fun K "begins_with" "begins_with" uo f fd)(T:Em mg):FnOk P w K mg base bD 1 f fd ["thing","word","many"] Ak:=by
 have sc:=Al;refine F.ok Al (λvs H Q E h=>?_) λHL A outer s H vs Q E hr h=>?_
 ·obtain⟨v,d,wd,n,rfl,_⟩:=h;rfl
 obtain⟨v,d,wd,n,rfl,hd,h1,YC,Rn,q⟩:=h;have hu:=hr.units;have nd:=lu hd;exists _,(ai<|am<|iy (aq dZ rfl T.isinstance GW<|aa (pv 0)<|aa (jy (v:=.ty "tuple") rfl T.tuple GE rfl) ae)<|iy (aM (aK hu) (aq aH rfl T.len Fj<|aa (pv 0) ae) (pv 2)<|ay _)<|iw<|aM (aK hu) (aA av (pv 0) aj λ_ _=>rfl) (pv 1)<|ay _);exists _,rfl,v,_,"tuple",_,rfl,vp d v hd,tP d nd,_,rfl;cases d with
 |tuple ds=>
  obtain⟨a,xs,rfl,ha,hx⟩:=aV hd;have G':=dX hx;refine aL ⟨_,rfl,.ref a,_,rfl,.inr ⟨_,SqT.of ha,rfl⟩,_,rfl,.inl ⟨rfl,_,rfl,?_⟩⟩;have q':Q (.bl (decide (ds.length=n)&&lB wd (ds.getD 0 .none))) H:=q;by_cases h2:ds.length=n
  ·rw[E2 h2]at q';have e:decide (V.int ((xs.length:Nat):Int)=V.int (n:Int))=true:=E2 (by rw[G',h2]);rw[e];obtain⟨x0,ZN⟩:∃x0,xs[0]? =ab x0:=⟨_,E1 (by lia)⟩;have r0:=dy hx ZN;refine aL ⟨_,rfl,.inr (.inl ⟨a,xs,0,x0,rfl,rfl,SqT.of ha,bf ZN,_,rfl,.inr ⟨_,_,r0,gJ wd,Rn ds rfl,YC,?_⟩⟩)⟩;rw[vY];exact q'
  ·rw[E_ h2]at q';have e:decide (V.int ((xs.length:Nat):Int)=V.int (n:Int))=false:=E_ λz=>h2 (by have:=V.int.inj z;lia);rw[e];exact aG q'
 |_=>exact aG q
end
abbrev lO:Gs:=cH 30
abbrev fX:Gs:=cH 31
abbrev iO:Gs:=cH 32
abbrev fY:Gs:=cH 33
abbrev lP:Gs:=cH 34
structure y_ (mg:Str->kb j'):Prop where
 abs:mg "abs"=A'
 len:mg "len"=A'
 any:mg "any"=A'
 g_WISHER:gF mg "WISHER" (.str<|ET "wisher")
 g_SPOILER:gF mg "SPOILER" (.str<|ET "spoiler")
def wu(H:Hp)(p:f')(c:bc Int):Prop:=H p=ab (.tup<|c.map V.int)
def cr(t:Str)(z:Int):ER:=bP t (ao z - 1).toNat
def gH(t:Str):bc Int->ER
 |[z]=>cr t z
 |_=>B'
def cR(c:bc Int)(z:Int):bc Int->ER
 |[]=>B'
 |x::r=>if ao z<=ao x then B' else if c.contains (-x)=kz then kz else cR c z r
def qF(n:Nat)(c:bc Int):Prop:=∀l∈c,1<=ao l/\ao l<=(n:Int)
inductive Am (vs:bc V)(H:Hp)(Q:VK):Prop
 |mk (p:f')(t:Str)(w:V)(z:Int)(hw:ER)(h0:vs=[.ref p,.int z,.str<|aN hw])(h1:H p=ab (.tup [.str t,w]))(h2:t.length<=900)(h3:1<=ao z)(h4:ao z<=(t.length:Int))(q:Q (.bl<|cr t z == hw) H):Am vs H Q
def gN:Sp:=λvs H Q _=>Am vs H Q
inductive rN (vs:bc V)(H:Hp)(Q:VK):Prop
 |mk (p a:f')(t:Str)(w:V)(c:bc Int)(h0:vs=[.ref p,.ref a])(h1:H p=ab (.tup [.str t,w]))(h2:t.length<=900)(h3:wu H a c)(h4:qF t.length c)(q:Q (.bl<|gH t c) H):rN vs H Q
def kn:Sp:=λvs H Q _=>rN vs H Q
inductive ww (vs:bc V)(H:Hp)(Q:VK):Prop
 |mk (a b:f')(c k:bc Int)(h0:vs=[.ref a,.ref b])(h1:wu H a c)(h2:wu H b k)(q:Q (.bl (k.all λz=>c.contains z)) H):ww vs H Q
def mZ:Sp:=λvs H Q _=>ww vs H Q
inductive rO (vs:bc V)(H:Hp)(Q:VK):Prop
 |mk (a b:f')(c k:bc Int)(z:Int)(h0:vs=[.ref a,.ref b,.int z])(h1:wu H a c)(h2:wu H b k)(q:Q (.bl<|cR c z k) H):rO vs H Q
def oM:Sp:=λvs H Q _=>rO vs H Q
inductive An (vs:bc V)(H:Hp)(Q:VK):Prop
 |mk (a l:f')(c:bc Int)(z:Int)(xs:bc V)(cs:bc (bc Int))(h0:vs=[.ref a,.int z,.ref l])(h1:wu H a c)(h2:H l=ab (.lst xs))(h3:CLs H cs xs)(q:Q (.bl (cs.all λk=>cR c z k)) H):An vs H Q
def qG:Sp:=λvs H Q _=>An vs H Q
theorem cD(c:bc Int):(c.map V.int).all gA=true:=by
 rw[Jt];exact Gq.mpr λ_ _=>rfl
inductive wx (H:Hp)(a b:f')(c k:bc Int)(i:Nat)(σ:St)(H2:Hp):Prop
 |mk (v2:kb V)(h0:σ=[ab (.ref a),ab (.ref b),v2])(h1:H2=H)(h2:((k.take i).all λz=>c.contains z)=kz):wx H a b c k i σ H2
inductive wy (H:Hp)(a b:f')(z:Int)(c k:bc Int)(i:Nat)(σ:St)(H2:Hp):Prop
 |mk (v3:kb V)(h0:σ=[ab<|.ref a,ab<|.ref b,ab<|.int z,v3])(h1:H2=H)(h2:cR c z k=cR c z (k.drop i)):wy H a b z c k i σ H2
inductive Ao (H:Hp)(a l:f')(z:Int)(c:bc Int)(cs:bc (bc Int))(i:Nat)(σ:St)(H2:Hp):Prop
 |mk (v3:kb V)(h0:σ=[ab (.ref a),ab (.int z),ab (.ref l),v3])(h1:H2=H)(h2:((cs.take i).all λk=>cR c z k)=kz):Ao H a l z c cs i σ H2
section
variable {K:gV}
theorem wz:ax ["sentence","literal","hand"] ["sentence","literal","hand"] (ah lO):=⟨rfl,rfl,rfl,by decide+kernel,rfl,by decide+kernel,by decide+kernel⟩
theorem za(F:Fun K "is_of" "is_of" lO f fd)(T:y_ mg)(HH:Fn P w K mg base 1 "hand_of" g gd ["sentence","variable"] eJ):FnOk P w K mg base bD 2 f fd ["sentence","literal","hand"] gN:=by
 have sc:=wz;refine F.ok wz (λvs H Q E h=>?_) λHL A outer s H vs Q E hr h=>?_
 ·obtain⟨p,t,w,z,hw,rfl,_⟩:=h;rfl
 obtain⟨p,t,w,z,hw,rfl,hp,h9,h1,h2,q⟩:=h;have hu:=hr.units;refine⟨_,(ai<|am<|aM (aK hu) (aC HH hr (by lia) rfl<|aa (pv 0)<|aa (aq br rfl T.abs FG<|aa (pv 1) ae) ae) (pv 2)<|ay _),?_⟩;obtain⟨i,hi⟩:∃i:Nat,ao z=(i:Int)+1:=⟨(ao z - 1).toNat,by lia⟩;have e:(ao z - 1).toNat=i:=by lia
 refine⟨_,rfl,_,rfl,z,rfl,p,t,w,i,?_,hp,(by lia),h9,_,rfl,.inl ⟨rfl,?_⟩⟩
 ·show [V.ref p,V.int<|ao z]=_
  rw[hi]
 ·show Q (.bl (decide (V.str (aN<|bP t i)=V.str (aN hw)))) H
  rw[dl];unfold cr at q;rw[e]at q;cases g1:bP t i<;>cases g2:hw<;>(rw[g1,g2]at q;exact q)
theorem oN:ax ["sentence","clause"] ["sentence","clause"] (ah fX):=⟨rfl,rfl,rfl,by decide+kernel,rfl,by decide+kernel,by decide+kernel⟩
theorem uq(F:Fun K "is_unit" "is_unit" fX f fd)(T:y_ mg)(J9:Fn P w K mg base 2 "is_of" g gd ["sentence","literal","hand"] gN):FnOk P w K mg base bD 3 f fd ["sentence","clause"] kn:=by
 have sc:=oN;refine F.ok oN (λvs H Q E h=>?_) λHL A outer s H vs Q E hr h=>?_
 ·obtain⟨p,a,t,w,c,rfl,_⟩:=h;rfl
 obtain⟨p,a,t,w,c,rfl,hp,h9,ha,hok,q⟩:=h;have hu:=hr.units;exists _,(ai<|am<|iy (aM (aK hu) (aq aH rfl T.len Fj<|aa (pv 1) ae) aj<|ay _)<|iw<|aC J9 hr (by lia) rfl<|aa (pv 0)<|aa (aA av (pv 1) aj λ_ _=>rfl)<|aa (ba rfl T.g_WISHER) ae);refine⟨_,rfl,.ref a,_,rfl,.inr ⟨_,SqT.of ha,rfl⟩,.inl ⟨rfl,_,rfl,?_⟩⟩
 match c,ha,hok,q with
 |[],ha,hok,q=>exact hE (λz=>absurd (V.int.inj<|Fv z)<|by decide) λ_=>q
 |[z],ha,hok,q=>
  refine hE (λ_=>?_) λy=>absurd (E2 rfl) y;have hz:=hok z Fz;refine⟨_,rfl,_,rfl,.inr<|.inl ⟨a,_,0,.int z,rfl,rfl,SqT.of ha,rfl,p,t,w,z,kz,rfl,hp,h9,hz.1,hz.2,?_⟩⟩;have q':Q (.bl<|cr t z) H:=q;cases g:cr t z<;>(rw[g]at q';exact q')
 |x::y::r,ha,hok,q=>exact hE (λz=>absurd (V.int.inj<|Fv z)<|by simp;lia) λ_=>q
theorem rP:ax ["clause","literals","literal"] ["clause","literals"] (ah iO):=⟨rfl,rfl,rfl,by decide+kernel,rfl,by decide+kernel,by decide+kernel⟩
theorem wA(F:Fun K "holds_all" "holds_all" iO f fd):FnOk P w K mg base bD 1 f fd ["clause","literals"] mZ:=by
 have sc:=rP;refine F.ok rP (λvs H Q E h=>?_) λHL A outer s H vs Q E hr h=>?_
 ·obtain⟨a,b,c,k,rfl,_⟩:=h;rfl
 obtain⟨a,b,c,k,rfl,ha,hb,q⟩:=h;refine⟨_,(af (aU Fg rfl (bQ<|pv 1) (ap (i:=2) sc.nd rfl<|E8 rfl)
   (ai<|aJ (aD cJ (pv 2) (pv 0)<|by with_unfolding_all rfl) (ai<|am bK) az))
  (ai<|am bK)),?_⟩
 refine⟨_,rfl,b,rfl,⟨_,SqT.of hb⟩,dU (K:=K) (a:=b) (xs:=k.map V.int) (wx H a b c k) ⟨A',rfl,rfl,rfl⟩ ?_ ?_ ?_⟩
 ·rintro i σ H2 _ ⟨_,_,rfl,_⟩;exact SqT.of hb
 ·rintro i x σ H2 hx ⟨v2,rfl,rfl,JB⟩;obtain⟨z,rfl,hz⟩:=cM hx;have e:(if kz=kz then !js (.int z) (c.map V.int)else js (.int z) (c.map V.int))=!c.contains z:=by
   rw[Fc rfl,cN]
  exists _,rfl,_,rfl,a,_,rfl,.inr<|SqT.of ha,rfl,cD c,_,rfl;rw[e];cases g:c.contains z with
  |false=>
   refine aL ?_;have e2:(k.all λz=>c.contains z)=false:=Ju.mpr ⟨z,Fd hz,by rw[g];exact i'⟩;rw[e2]at q;exact q
  |true=>
   refine aG ⟨_,rfl,rfl,?_⟩;rw[FD,hz,IR,JB];show(c.contains z&&kz)=kz
   rw[g];rfl
 ·rintro σ H2 ⟨v2,rfl,rfl,JB⟩;rw[E3<|by rw[ka];exact lb _]at JB;rw[JB]at q;exact q
theorem oO:ax ["clause","other","literal","ahead"] ["clause","other","literal"] (ah fY):=⟨rfl,rfl,rfl,by decide+kernel,rfl,by decide+kernel,by decide+kernel⟩
theorem ur(F:Fun K "has_other_way" "has_other_way" fY f fd)(T:y_ mg):FnOk P w K mg base bD 1 f fd ["clause","other","literal"] oM:=by
 have sc:=oO;refine F.ok oO (λvs H Q E h=>?_) λHL A outer s H vs Q E hr h=>?_
 ·obtain⟨a,b,c,k,z,rfl,_⟩:=h;rfl
 obtain⟨a,b,c,k,z,rfl,ha,hb,q⟩:=h;refine⟨_,(af (aU Fg rfl (bQ<|pv 1) (ap (i:=3) sc.nd rfl<|E8 rfl)
   (af (aJ (aD Cv (aq br rfl T.abs FG<|aa (pv 3) ae) (aq br rfl T.abs FG<|aa (pv 2) ae)<|ay _) (ai<|am bK) az)
   (ai<|aJ (aD iD (dC cC<|pv 3) (pv 0)<|by with_unfolding_all rfl) (ai<|am bK) az)))
  (ai<|am bK)),?_⟩
 refine⟨_,rfl,b,rfl,⟨_,SqT.of hb⟩,dU (K:=K) (a:=b) (xs:=k.map V.int) (wy H a b z c k) ⟨A',rfl,rfl,rfl⟩ ?_ ?_ ?_⟩
 ·rintro i σ H2 _ ⟨_,_,rfl,_⟩;exact SqT.of hb
 ·rintro i x σ H2 hx ⟨v2,rfl,rfl,hk⟩;obtain⟨y,rfl,hy⟩:=cM hx;have ed:k.drop i=y::k.drop (i+1):=by
   have hi:=(ES.mp hy).1;rw[List.drop_eq_getElem_cons hi,(ES.mp hy).2]
  have eo:cR c z (y::k.drop (i+1))=if ao z<=ao y then B' else if c.contains (-y)=kz then kz else cR c z (k.drop<|i+1):=rfl
  rw[ed,eo]at hk;refine⟨_,rfl,y,rfl,_,rfl,z,rfl,_,_,rfl,rfl,_,rfl,hE (λg=>?_) λg=>?_⟩
  ·rw[Fc (show ao z<=ao y from Fv g)]at hk;rw[hk]at q;exact q
  ·rw[E7 (show¬ao z<=ao y from λn=>g<|E2 n)]at hk;have e:(if B'=kz then !js (.int (-y)) (c.map V.int)else js (.int (-y)) (c.map V.int))=c.contains (-y):=by
    rw[E7 i',cN]
   exists _,rfl,_,rfl,_,rfl,a,_,rfl,.inr<|SqT.of ha,rfl,cD c,_,rfl;rw[e];cases g2:c.contains (-y)with
   |true=>
    rw[g2,Fc rfl]at hk;rw[hk]at q;exact aL q
   |false=>
    rw[g2,E7 i']at hk;exact aG ⟨_,rfl,rfl,hk⟩
 ·rintro σ H2 ⟨v2,rfl,rfl,hk⟩;rw[Jr<|by rw[ka];exact lb _]at hk;rw[hk]at q;exact q
theorem wB:ax ["clause","literal","opposed","other"] ["clause","literal","opposed"] (ah lP):=⟨rfl,rfl,rfl,by decide+kernel,rfl,by decide+kernel,by decide+kernel⟩
theorem zb(F:Fun K "is_blocked" "is_blocked" lP f fd)(NM:Fn P w K mg base 1 "has_other_way" g gd ["clause","other","literal"] oM):FnOk P w K mg base bD 2 f fd ["clause","literal","opposed"] qG:=by
 have sc:=wB;refine F.ok wB (λvs H Q E h=>?_) λHL A outer s H vs Q E hr h=>?_
 ·obtain⟨a,l,c,z,xs,cs,rfl,_⟩:=h;rfl
 obtain⟨a,l,c,z,xs,cs,rfl,ha,hl,hcs,q⟩:=h;refine⟨_,(af (aU Fg rfl (bi<|pv 2) (ap (i:=3) sc.nd rfl<|E8 rfl)
   (ai<|aJ (bO<|aP<|aC NM hr (by lia) rfl<|aa (pv 0)<|aa (pv 3)<|aa (pv 1) ae) (ai<|am bK) az))
  (ai<|am bK)),?_⟩
 refine⟨_,rfl,l,rfl,⟨_,SqL.of hl⟩,cw (K:=K) (a:=l) (xs:=xs) (Ao H a l z c cs) ⟨A',rfl,rfl,rfl⟩ ?_ ?_ ?_⟩
 ·rintro i σ H2 _ ⟨_,_,rfl,_⟩;exact SqL.of hl
 ·rintro i x σ H2 hx ⟨v2,rfl,rfl,JB⟩;obtain⟨k,hk,Np⟩:=hcs.get hx;obtain⟨tc,rfl,JA⟩:=Np;exists _,rfl,_,rfl,_,rfl,a,tc,c,k,z,rfl,ha,JA,_,rfl;cases g:cR c z k with
  |false=>
   refine aL ?_;have e2:(cs.all λk=>cR c z k)=false:=Ju.mpr ⟨k,Fd hk,by rw[g];exact i'⟩;rw[e2]at q;exact q
  |true=>
   refine aG ⟨_,rfl,rfl,?_⟩;rw[FD,hk,IR,JB];show(cR c z k&&kz)=kz
   rw[g];rfl
 ·rintro σ H2 ⟨v2,rfl,rfl,JB⟩;rw[E3<|by rw[hcs.length];exact lb _]at JB;rw[JB]at q;exact q
end
abbrev iP:Gs:=cH 35
abbrev iQ:Gs:=cH 36
abbrev iR:Gs:=cH 37
abbrev iS:Gs:=cH 38
abbrev ut:Gs:=cH 39
def RC(H H':Hp)(o:kb (bc<|bc Int))(v:V):Prop:=
 match o with
 |none=>v=.non
 |some cs=>∃(l:f') (xs:bc V),v=.ref l/\H l=A'/\H' l=ab (.lst xs)/\CLs H' cs xs
def dz(cs:bc (bc Int))(i:Nat):bc (bc Int):=cs.take i++cs.drop (i+1)
def lQ(t:Str)(cs:bc (bc Int))(d:Fq):kb (bc<|bc Int):=(bZ cs.length d).map λi=>cs.take i++[fA t B'<|cs.getD i []]++cs.drop (i+1)
def lR(t:Str)(cs:bc (bc Int))(d:Fq):kb (bc<|bc Int):=(bZ cs.length d).bind λi=>if gH t (cs.getD i [])=kz then ab (behind ((cs.getD i []).getD 0 0) cs)else A'
def lS(t:Str)(cs:bc (bc Int)):Fq->kb (bc<|bc Int)
 |.int z=>if((cs.any λc=>c.contains z)&&!(cs.any λc=>c.contains (-z)))=kz then ab (behind (if cr t z=kz then z else -z) cs)else A'
 |_=>A'
def lT(cs:bc (bc Int))(d e:Fq):kb (bc<|bc Int):=(bZ cs.length d).bind λi=>(bZ cs.length e).bind λj=>if(!decide (i=j)&&((cs.getD j []).all λz=>(cs.getD i []).contains z))=kz then ab (dz cs i)else A'
def dI(t:Str)(cs:bc (bc Int))(i:Nat)(z:Int):ER:=(cs.getD i []).contains z&&(cr t z&&((cs.filter λc=>c.contains (-z)).all λk=>cR (cs.getD i []) z k))
def gO(t:Str)(cs:bc (bc Int))(d:Fq):Fq->kb (bc<|bc Int)
 |.int z=>(bZ cs.length d).bind λi=>if dI t cs i z=kz then ab (dz cs i)else A'
 |_=>A'
structure SentAt (H:Hp)(p q:f')(t:Str)(xs:bc V)(cs:bc (bc Int)):Prop where
 hp:H p=ab (.tup [.str t,.ref q])
 hq:H q=ab (.lst xs)
 hcs:CLs H cs xs
 ht:t.length<=30
 hn:cs.length<=400
 hok:∀c∈cs,qF t.length c
 hc:∀c∈cs,c.length<=60
inductive Ey (b:Str->bc (bc Int)->Fq->kb (bc<|bc Int))(vs:bc V)(H:Hp)(Q:VK):Prop
 |mk (p q:f')(t:Str)(xs:bc V)(cs:bc (bc Int))(v:V)(d:Fq)(h0:vs=[.ref p,v])(h1:SentAt H p q t xs cs)(h2:RD H d v)(h3:∀v' H',Same H H'->RC H H' (b t cs d) v'->Q v' H'):Ey b vs H Q
def uu(b:Str->bc (bc Int)->Fq->kb (bc<|bc Int)):Sp:=λvs H Q _=>Ey b vs H Q
inductive Ez (b:Str->bc (bc Int)->Fq->Fq->kb (bc<|bc Int))(vs:bc V)(H:Hp)(Q:VK):Prop
 |mk (p q:f')(t:Str)(xs:bc V)(cs:bc (bc Int))(v w:V)(d e:Fq)(h0:vs=[.ref p,v,w])(h1:SentAt H p q t xs cs)(h2:RD H d v)(h3:RD H e w)(h4:∀v' H',Same H H'->RC H H' (b t cs d e) v'->Q v' H'):Ez b vs H Q
def zc(b:Str->bc (bc Int)->Fq->Fq->kb (bc<|bc Int)):Sp:=λvs H Q _=>Ez b vs H Q
inductive lU (vs:bc V)(H:Hp)(Q:VK):Prop
 |mk (p q:f')(t:Str)(w:V)(hw:ER)(c:bc Int)(h0:vs=[.ref p,.str<|aN hw,.ref q])(h1:H p=ab (.tup [.str t,w]))(h2:t.length<=900)(h3:wu H q c)(h4:c.length<=60)(h5:(∀l∈c,1<=ao l/\ao l<=(t.length:Int)))(h6:∀(l:f') (H':Hp),Same H H'->wu H' l (fA t hw c)->Q (.ref l) H'):lU vs H Q
def gP:Sp:=λvs H Q _=>lU vs H Q
inductive oP (vs:bc V)(H:Hp)(Q:VK):Prop
 |mk (p:f')(l:Int)(xs:bc V)(cs:bc (bc Int))(h0:vs=[.ref p,.int l])(h1:H p=ab (.lst xs))(h2:CLs H cs xs)(h3:cs.length<=900)(h4:∀c∈cs,c.length<=900)(h5:∀(q:f') (ys:bc V) (H':Hp),Same H H'->H q=A'->H' q=ab (.lst ys)->CLs H' (behind l cs) ys->Q (.ref q) H'):oP vs H Q
def dg:Sp:=λvs H Q _=>oP vs H Q
theorem oQ(h:gH t c=kz):∃z,c=[z]:=by
 match c,h with
 |[z],_=>exact⟨z,rfl⟩
theorem dJ(h:CLs H cs xs)(hi:i < cs.length):∃tc,xs[i]? =ab (.ref tc)/\wu H tc (cs.getD i [])/\cs.getD i []∈cs:=by
 have hl:=h.length;obtain⟨x,hx⟩:∃x,xs[i]? =ab x:=⟨_,E1 (by lia)⟩;obtain⟨c,hc,tc,rfl,JA⟩:=h.get hx;have e:cs.getD i []=c:=by rw[Fo,hc];rfl
 rw[e];exact⟨tc,hx,JA,Fd hc⟩
section
variable {K:gV}
theorem rQ:ax ["sentence","place","clauses"] ["sentence","place"] (ah iP):=⟨rfl,rfl,rfl,by decide+kernel,rfl,by decide+kernel,by decide+kernel⟩
theorem wC(F:Fun K "behind_drop" "behind_drop" iP f fd)(T:y_ mg)(IY:Fn P w K mg base 2 "is_place" g1 e1 ["thing","many"] fO)(NN:Fn P w K mg base 3 "dropped" g2 e2 ["sentence","hand","literals"] gP):FnOk P w K mg base bD 4 f fd ["sentence","place"] (uu lQ):=by
 have sc:=rQ;refine F.ok rQ (λvs H Q E h=>?_) λHL A outer s H vs Q E hr h=>?_
 ·obtain⟨p,q,t,xs,cs,v,d,rfl,_⟩:=h;rfl
 obtain⟨p,q,t,xs,cs,v,d,rfl,S,hd,q'⟩:=h;have hu:=hr.units;have G':=S.hcs.length;refine⟨_,(af (aB (i:=2) sc.nd rfl (E8 rfl)<|aA av (pv 0) aj λ_ _=>rfl)
  (af (aJ (bO<|aP<|aC IY hr (by lia) rfl<|aa (pv 1)<|aa (aq aH rfl T.len Fj<|aa (pv 2) ae) ae) (ai<|am bw) az)
  (ai<|am<|aE fi (aE fi (dj dW (pv 2) fg<|dw<|pv 1)<|be<|aa (aC NN hr (by lia) rfl<|aa (pv 0)<|aa (ba rfl T.g_SPOILER)<|aa (aA av (pv 2) (pv 1) λ_ _=>rfl) ae) ae)<|dj dW (pv 2) (dw<|aE bI (pv 1) aj) fg))),?_⟩
 refine⟨_,rfl,.inr<|.inl ⟨p,_,1,.ref q,rfl,rfl,SqT.of S.hp,rfl,?_⟩⟩;exists _,rfl,_,rfl,.ref q,_,rfl,.inl ⟨_,SqL.of S.hq,rfl⟩,v,d,cs.length,(by rw[G'];rfl),hd,_,rfl;unfold lQ at q';cases e:bZ cs.length d with
 |none=>
  rw[e]at q';exact aL<|q' _ _ (Same.refl _) rfl
 |some i=>
  rw[e]at q';obtain⟨hi,rfl⟩:=cy e;obtain rfl:=bF hd;obtain⟨tc,hx,JA,hm⟩:=dJ S.hcs hi;have ht:=S.ht;have hn:=S.hn;refine aG ?_;refine⟨_,rfl,_,rfl,_,rfl,q,xs,rfl,SqL.of S.hq,λl1 q1=>?_⟩;rw[qw];have k1:=ag q1<|.lst<|xs.take i;have r1:upd H l1 (.lst<|xs.take i) l1=ab (.lst<|xs.take i):=ad;generalize upd H l1 (.lst<|xs.take i)=H1 at k1 r1;refine⟨_,rfl,_,rfl,_,rfl,.inl ⟨q,xs,(i:Int),.ref tc,rfl,rfl,SqL.of<|k1 _ _ S.hq,bf hx,p,tc,t,_,B',_,rfl,k1 _ _ S.hp,(by lia),k1 _ _ JA,S.hc _ hm,S.hok _ hm,λl2 H2 k2 r2=>⟨(by show 1<=sizeLine;decide),λl3 q3=>?_⟩⟩⟩;have k3:=ag q3<|.lst [.ref l2];refine⟨l1,l3,_,_,rfl,rfl,(k2.trans k3) _ _ r1,ad,FQ<|au (by rw[FO];show _+1<=1000;lia),λl4 q4=>?_⟩;have k4:=ag q4<|.lst<|xs.take i++[.ref l2];refine⟨_,rfl,_,rfl,_,_,rfl,rfl,_,rfl,q,xs,rfl,SqL.of<|(k1.trans<|k2.trans<|k3.trans k4) _ _ S.hq,λl5 q5=>?_⟩;have ec:dq xs (ab<|(i:Int)+1) A'=xs.drop (i+1):=j8 xs<|i+1;rw[ec];have k5:=ag q5<|.lst<|xs.drop<|i+1;refine⟨l4,l5,_,_,rfl,rfl,k5 _ _ ad,ad,FQ<|au (by rw[C',FO,Hi];show _+1+_<=1000;lia),λl6 q6=>?_⟩;have k6:=ag q6<|.lst<|xs.take i++[.ref l2]++xs.drop (i+1);have kk:=k1.trans<|k2.trans<|k3.trans<|k4.trans<|k5.trans k6;refine q' _ _ kk ⟨l6,_,rfl,(k1.trans<|k2.trans<|k3.trans<|k4.trans k5).free q6,ad,?_⟩;exact dH (dH (em i<|S.hcs.mono kk)<|Paired.cons ⟨l2,rfl,(k3.trans<|k4.trans<|k5.trans k6) _ _ r2⟩ .nil)<|eA (i+1)<|S.hcs.mono kk
theorem rR:ax ["sentence","place","clauses"] ["sentence","place"] (ah iQ):=⟨rfl,rfl,rfl,by decide+kernel,rfl,by decide+kernel,by decide+kernel⟩
theorem wD(F:Fun K "behind_unit" "behind_unit" iQ f fd)(T:y_ mg)(IY:Fn P w K mg base 2 "is_place" g1 e1 ["thing","many"] fO)(NL:Fn P w K mg base 3 "is_unit" g2 e2 ["sentence","clause"] kn)(Gu:Fn P w K mg base 1 "clauses_behind" g3 e3 ["clauses","literal"] dg):FnOk P w K mg base bD 4 f fd ["sentence","place"] (uu lR):=by
 have sc:=rR;refine F.ok rR (λvs H Q E h=>?_) λHL A outer s H vs Q E hr h=>?_
 ·obtain⟨p,q,t,xs,cs,v,d,rfl,_⟩:=h;rfl
 obtain⟨p,q,t,xs,cs,v,d,rfl,S,hd,q'⟩:=h;have G':=S.hcs.length;refine⟨_,(af (aB (i:=2) sc.nd rfl (E8 rfl)<|aA av (pv 0) aj λ_ _=>rfl)
  (af (aJ (PW.pt<|gz (bO<|aP<|aC IY hr (by lia) rfl<|aa (pv 1)<|aa (aq aH rfl T.len Fj<|aa (pv 2) ae) ae)<|fD<|bO<|aP<|aC NL hr (by lia) rfl<|aa (pv 0)<|aa (aA av (pv 2) (pv 1) λ_ _=>rfl) ae) (ai<|am bw) az)
  (ai<|am<|aC Gu hr (by lia) rfl<|aa (pv 2)<|aa (aA av (aA av (pv 2) (pv 1) λ_ _=>rfl) aj λ_ _=>rfl) ae))),?_⟩
 refine⟨_,rfl,.inr<|.inl ⟨p,_,1,.ref q,rfl,rfl,SqT.of S.hp,rfl,?_⟩⟩;exists _,rfl,_,rfl,.ref q,_,rfl,.inl ⟨_,SqL.of S.hq,rfl⟩,v,d,cs.length,(by rw[G'];rfl),hd,_,rfl;unfold lR at q';cases e:bZ cs.length d with
 |none=>
  rw[e]at q';exact aL<|aL<|q' _ _ (Same.refl _) rfl
 |some i=>
  rw[e]at q';obtain⟨hi,rfl⟩:=cy e;obtain rfl:=bF hd;obtain⟨tc,hx,JA,hm⟩:=dJ S.hcs hi;have ht:=S.ht;have hn:=S.hn;have hc:=S.hc;have q2:∀v' H',Same H H'->RC H H' (if gH t (cs.getD i [])=kz then ab (behind ((cs.getD i []).getD 0 0) cs)else A') v'->Q v' H':=q';refine aG ⟨_,rfl,_,rfl,_,rfl,.inl ⟨q,xs,(i:Int),.ref tc,rfl,rfl,SqL.of S.hq,bf hx,p,tc,t,_,_,rfl,S.hp,(by lia),JA,S.hok _ hm,_,rfl,?_⟩⟩;cases g:gH t (cs.getD i [])with
  |false=>
   rw[g,E7 i']at q2;exact aL<|q2 _ _ (Same.refl _) rfl
  |true=>
   rw[g,Fc rfl]at q2;obtain⟨z,hz⟩:=oQ g;rw[hz]at JA q2;exact aG ⟨_,rfl,_,rfl,_,rfl,.inl ⟨q,xs,(i:Int),.ref tc,rfl,rfl,SqL.of S.hq,bf hx,.inr<|.inl ⟨tc,_,0,.int z,rfl,rfl,SqT.of JA,rfl,q,z,xs,cs,rfl,S.hq,S.hcs,(by lia),(λc h=>by have:=hc c h;lia),λl ys H1 k1 n1 r1 c1=>q2 _ _ k1 ⟨l,ys,rfl,n1,r1,c1⟩⟩⟩⟩
theorem rS:ax ["sentence","place","within","clauses"] ["sentence","place","within"] (ah iS):=⟨rfl,rfl,rfl,by decide+kernel,rfl,by decide+kernel,by decide+kernel⟩
theorem wE(F:Fun K "behind_within" "behind_within" iS f fd)(T:y_ mg)(IY:Fn P w K mg base 2 "is_place" g1 e1 ["thing","many"] fO)(Me:Fn P w K mg base 1 "holds_all" g2 e2 ["clause","literals"] mZ):FnOk P w K mg base bD 3 f fd ["sentence","place","within"] (zc λ_=>lT):=by
 have sc:=rS;refine F.ok rS (λvs H Q E h=>?_) λHL A outer s H vs Q E hr h=>?_
 ·obtain⟨p,q,t,xs,cs,v,w,d,e,rfl,_⟩:=h;rfl
 obtain⟨p,q,t,xs,cs,v,w,d,e,rfl,S,hd,he,q'⟩:=h;have hu:=hr.units;have G':=S.hcs.length;refine⟨_,(af (aB (i:=3) sc.nd rfl (E8 rfl)<|aA av (pv 0) aj λ_ _=>rfl)
  (af (aJ (PW.pt<|gz (bO<|aP<|aC IY hr (by lia) rfl<|aa (pv 1)<|aa (aq aH rfl T.len Fj<|aa (pv 3) ae) ae)<|gz (bO<|aP<|aC IY hr (by lia) rfl<|aa (pv 2)<|aa (aq aH rfl T.len Fj<|aa (pv 3) ae) ae)<|fD<|aD (aK hu) (pv 1) (pv 2)<|ay _) (ai<|am bw) az)
  (af (aJ (bO<|aP<|aC Me hr (by lia) rfl<|aa (aA av (pv 3) (pv 1) λ_ _=>rfl)<|aa (aA av (pv 3) (pv 2) λ_ _=>rfl) ae) (ai<|am bw) az)
  (ai<|am<|aE fi (dj dW (pv 3) fg<|dw<|pv 1)<|dj dW (pv 3) (dw<|aE bI (pv 1) aj) fg)))),?_⟩
 refine⟨_,rfl,.inr<|.inl ⟨p,_,1,.ref q,rfl,rfl,SqT.of S.hp,rfl,?_⟩⟩;exists _,rfl,_,rfl,.ref q,_,rfl,.inl ⟨_,SqL.of S.hq,rfl⟩,v,d,cs.length,(by rw[G'];rfl),hd,_,rfl;unfold lT at q';cases e1:bZ cs.length d with
 |none=>
  rw[e1]at q';exact aL<|aL<|q' _ _ (Same.refl _) rfl
 |some i=>
  rw[e1]at q';obtain⟨hi,rfl⟩:=cy e1;obtain rfl:=bF hd;refine aG ⟨_,rfl,_,rfl,.ref q,_,rfl,.inl ⟨_,SqL.of S.hq,rfl⟩,w,e,cs.length,(by rw[G'];rfl),he,_,rfl,?_⟩;cases e2:bZ cs.length e with
  |none=>
   rw[e2]at q';exact aL<|aL<|q' _ _ (Same.refl _) rfl
  |some j=>
   rw[e2]at q';obtain⟨hj,rfl⟩:=cy e2;obtain rfl:=bF he;have hn:=S.hn;have q2:∀v' H',Same H H'->RC H H' (if(!decide (i=j)&&((cs.getD j []).all λz=>(cs.getD i []).contains z))=kz then ab (dz cs i)else A') v'->Q v' H':=q';refine aG ⟨_,rfl,_,rfl,.inl ⟨rfl,_,rfl,hE (λg=>?_) λg=>?_⟩⟩
   ·have eij:i=j:=by
     have:=V.int.inj<|Fv g;lia
    rw[E2 eij]at q2;exact q2 _ _ (Same.refl _) rfl
   ·have nij:i≠j:=λz=>g (E2<|by rw[z]);rw[E_ nij]at q2;obtain⟨tc,hx,JA,hm⟩:=dJ S.hcs hi;obtain⟨td,hy,TY,U5⟩:=dJ S.hcs hj;refine⟨_,rfl,_,rfl,.inl ⟨q,xs,(i:Int),.ref tc,rfl,rfl,SqL.of S.hq,bf hx,_,rfl,_,rfl,.inl ⟨q,xs,(j:Int),.ref td,rfl,rfl,SqL.of S.hq,bf hy,tc,td,_,_,rfl,JA,TY,_,rfl,?_⟩⟩⟩;cases g2:((cs.getD j []).all λz=>(cs.getD i []).contains z)with
    |false=>
     rw[g2]at q2;exact aL<|q2 _ _ (Same.refl _) rfl
    |true=>
     rw[g2]at q2;refine aG ?_;refine⟨_,rfl,_,rfl,_,rfl,q,xs,rfl,SqL.of S.hq,λl1 q1=>?_⟩;rw[qw];have k1:=ag q1<|.lst<|xs.take i;refine⟨_,rfl,_,rfl,_,_,rfl,rfl,_,rfl,q,xs,rfl,SqL.of<|k1 _ _ S.hq,λl5 q5=>?_⟩;have ec:dq xs (ab<|(i:Int)+1) A'=xs.drop (i+1):=j8 xs<|i+1;rw[ec];have k5:=ag q5<|.lst<|xs.drop<|i+1;refine⟨l1,l5,_,_,rfl,rfl,k5 _ _ ad,ad,FQ (au<|by rw[FO,Hi];lia),λl6 q6=>?_⟩;have kk:=k1.trans<|k5.trans<|ag q6<|.lst<|xs.take i++xs.drop (i+1);exact q2 _ _ kk ⟨l6,_,rfl,(k1.trans k5).free q6,ad,dH (em i<|S.hcs.mono kk)<|eA (i+1)<|S.hcs.mono kk⟩
end
def cA(H:Hp)(z:Int)(x:V):ER:=match x with
 |.ref p=>match H p with
  |some (.tup zs)=>zs.contains<|.int z
  |_=>B'
 |_=>B'
theorem uv(zs:bc Int)(l:Int):(zs.map V.int).contains (.int l)=zs.contains l:=by
 induction zs with
 |nil=>rfl
 |cons z r ih=>
  rw[FA,Mw,Mw,ih]
  congr 1
  by_cases h:l=z
  ·rw[h];simp
  ·rw[GD.mpr h,GD.mpr λe=>h<|V.int.inj e]
theorem eT(h:CL H k x):cA H z x=k.contains z:=by
 obtain⟨p,rfl,hp⟩:=h;unfold cA;simp only [hp];exact uv k z
theorem m_:∀{cs:bc (bc Int)} {xs:bc V},CLs H cs xs->xs.any (cA H z)=cs.any λc=>c.contains z
 |_,_,.nil=>rfl
 |k::cs,x::xs,.cons h t=>by
  rw[GL,GL,eT h,m_ t]
theorem kq:∀{cs:bc (bc Int)} {xs:bc V},CLs H cs xs->CLs H (cs.filter λc=>c.contains z) (xs.filter<|cA H z)
 |_,_,.nil=>.nil
 |k::cs,x::xs,.cons h t=>by
  cases g:k.contains z with
  |true=>
   rw[FJ (by exact g),FJ<|by rw[eT h];exact g];exact .cons h<|kq t
  |false=>
   rw[FP (by rw[g];decide),FP<|by rw[eT h,g];decide];exact kq t
theorem rT{α:Type}(l:bc α)(f:α->ER):((l.map λx=>V.bl<|f x).all tR)=kz/\(l.map λx=>V.bl<|f x).any gr=l.any f:=by
 refine⟨by rw[Jt];exact Gq.mpr λ_ _=>rfl,?_⟩;rw[Js];rfl
section
variable {K:gV}
theorem rV:ax ["sentence","literal","clauses"] ["sentence","literal"] (ah iR):=⟨rfl,rfl,rfl,by decide+kernel,rfl,by decide+kernel,by decide+kernel⟩
theorem wF(F:Fun K "behind_pure" "behind_pure" iR f fd)(T:y_ mg)(J_:Fn P w K mg base 1 "is_number" g1 e1 ["thing"] mY)(J9:Fn P w K mg base 2 "is_of" g2 e2 ["sentence","literal","hand"] gN)(Gu:Fn P w K mg base 1 "clauses_behind" g3 e3 ["clauses","literal"] dg):FnOk P w K mg base bD 3 f fd ["sentence","literal"] (uu lS):=by
 have sc:=rV;refine F.ok rV (λvs H Q E h=>?_) λHL A outer s H vs Q E hr h=>?_
 ·obtain⟨p,q,t,xs,cs,v,d,rfl,_⟩:=h;rfl
 obtain⟨p,q,t,xs,cs,v,d,rfl,S,hd,q'⟩:=h;have G':=S.hcs.length;have hn:=S.hn;have hc:=S.hc;have ht:=S.ht;refine⟨_,(af (aB (i:=2) sc.nd rfl (E8 rfl)<|aA av (pv 0) aj λ_ _=>rfl)
  (af (aJ (PW.pt<|gz (bO<|aP<|aC J_ hr (by lia) rfl<|aa (pv 1) ae)<|fD<|bO<|aP<|aq (jQ rfl) rfl T.any Jx<|aa (bj (NY:=["clause","literal"]) (idx:=[A',ab 1]) rfl ⟨by with_unfolding_all rfl,(by with_unfolding_all exact⟨rfl,trivial⟩),λ_=>by rfl,by rfl,by rfl,by rfl,by decide⟩ (bi<|pv 2) (λ_ _ _ _=>(ap (i:=0) (show Gd (["clause","literal"]:bc Str) by decide+kernel) rfl<|E8 rfl)) (λ_ _ _ _=>b_) λ_ _ _ _=>(aM (fk (K:=K) rfl) (pv 1) (pv 0)<|by with_unfolding_all rfl)) ae) (ai<|am bw) az)
  (af (aJ (aP<|aq (jQ rfl) rfl T.any Jx<|aa (bj (NY:=["clause","literal"]) (idx:=[A',ab 1]) rfl ⟨by with_unfolding_all rfl,(by with_unfolding_all exact⟨rfl,trivial⟩),λ_=>by rfl,by rfl,by rfl,by rfl,by decide⟩ (bi<|pv 2) (λ_ _ _ _=>(ap (i:=0) (show Gd (["clause","literal"]:bc Str) by decide+kernel) rfl<|E8 rfl)) (λ_ _ _ _=>b_) λ_ _ _ _=>(aM (fk (K:=K) rfl) (dC cC<|pv 1) (pv 0)<|by with_unfolding_all rfl)) ae) (ai<|am bw) az)
  (ai<|am<|aC Gu hr (by lia) rfl<|aa (pv 2)<|aa (fE (aP<|aC J9 hr (by lia) rfl<|aa (pv 0)<|aa (pv 1)<|aa (ba rfl T.g_WISHER) ae) (pv 1)<|dC cC<|pv 1) ae)))),?_⟩
 refine⟨_,rfl,.inr<|.inl ⟨p,_,1,.ref q,rfl,rfl,SqT.of S.hp,rfl,?_⟩⟩;exists _,rfl,v,d,rfl,hd,_,rfl;obtain⟨z,rfl⟩|T7:=qx d
 rotate_left
 ·rw[mQ T7];have e:lS t cs d=none:=by
   cases d with
   |int z=>exact absurd rfl<|T7 z
   |_=>rfl
  rw[e]at q';exact aL<|aL<|q' _ _ (Same.refl _) rfl
 obtain rfl:=bF hd;have q2:∀v' H',Same H H'->RC H H' (if((cs.any λc=>c.contains z)&&!(cs.any λc=>c.contains (-z)))=kz then ab (behind (if cr t z=kz then z else -z) cs)else A') v'->Q v' H':=q';refine aG ⟨_,rfl,q,rfl,⟨_,SqL.of S.hq⟩,λD hD=>?_⟩;refine df [ab<|.int z] (λ_=>kz) (λx=>.bl<|cA H z x) rfl S.hq hD (by lia) ?_ ?_ ?_
 ·intro x hx H' R k r;exact r
 ·intro x hx _ H' R k r;obtain⟨i,hi⟩:=Ih.mp hx;obtain⟨kc,_,Np⟩:=S.hcs.get hi;rw[eT Np]at r;obtain⟨tc,rfl,JA⟩:=Np;exists _,rfl,_,rfl,tc,_,rfl,.inr<|SqT.of<|k _ _ JA,rfl,cD kc;show R (.bl<|js (.int z)<|kc.map V.int) H'
  rw[cN];exact r
 have ef:(xs.filter λ_=>kz)=xs:=HN.mpr λ_ _=>rfl;rw[ef];have ea:=rT xs<|cA H z;have k1:=ag hD<|.lst<|xs.map λx=>.bl<|cA H z x;have r1:upd H D (.lst<|xs.map λx=>.bl<|cA H z x) D=ab (.lst<|xs.map λx=>.bl<|cA H z x):=ad;generalize upd H D (.lst<|xs.map λx=>.bl<|cA H z x)=H1 at k1 r1;exists D,_,rfl,SqL.of r1,ea.1,_,rfl;rw[ea.2,m_ S.hcs];cases g1:(cs.any λc=>c.contains z)with
 |false=>
  rw[g1]at q2;exact aL<|q2 _ _ k1 rfl
 |true=>
 rw[g1]at q2;refine aG ⟨_,rfl,q,rfl,⟨_,SqL.of<|k1 _ _ S.hq⟩,λD2 Qj=>?_⟩;refine df [ab<|.int z] (λ_=>kz) (λx=>.bl<|cA H (-z) x) rfl (k1 _ _ S.hq) Qj (by lia) ?_ ?_ ?_
 ·intro x hx H' R k r;exact r
 ·intro x hx _ H' R k r;obtain⟨i,hi⟩:=Ih.mp hx;obtain⟨kc,_,Np⟩:=S.hcs.get hi;rw[eT Np]at r;obtain⟨tc,rfl,JA⟩:=Np;exists _,rfl,_,rfl,_,rfl,tc,_,rfl,.inr<|SqT.of<|k _ _<|k1 _ _ JA,rfl,cD kc;show R (.bl<|js (.int (-z))<|kc.map V.int) H'
  rw[cN];exact r
 rw[ef];have ea2:=rT xs<|cA H (-z);have k2:=ag Qj<|.lst<|xs.map λx=>.bl<|cA H (-z) x;have r2:upd H1 D2 (.lst<|xs.map λx=>.bl<|cA H (-z) x) D2=ab (.lst<|xs.map λx=>.bl<|cA H (-z) x):=ad;generalize upd H1 D2 (.lst<|xs.map λx=>.bl<|cA H (-z) x)=H2 at k2 r2;exists D2,_,rfl,SqL.of r2,ea2.1,_,rfl;rw[ea2.2,m_ S.hcs];have k12:=k1.trans k2;cases g2:(cs.any λc=>c.contains (-z))with
 |true=>
  rw[g2]at q2;exact aL<|q2 _ _ k12 rfl
 |false=>
 rw[g2]at q2;obtain⟨c0,Va,hz0⟩:=GZ.mp g1;have hz:=S.hok c0 Va z<|E5.mp hz0;have q3:∀v' H',Same H H'->RC H H' (ab<|behind (if cr t z=kz then z else -z) cs) v'->Q v' H':=q2;refine aG ⟨_,rfl,_,rfl,_,rfl,p,t,_,z,kz,rfl,k12 _ _ S.hp,(by lia),hz.1,hz.2,_,rfl,?_⟩;cases g3:cr t z with
 |true=>
  rw[g3,Fc rfl]at q3;exact aL ⟨_,rfl,q,z,xs,cs,rfl,k12 _ _ S.hq,S.hcs.mono k12,(by lia),(λc h=>by have:=hc c h;lia),λl ys H3 k3 n3 r3 c3=>q3 _ _ (k12.trans k3) ⟨l,ys,rfl,k12.free n3,r3,c3⟩⟩
 |false=>
  rw[g3,E7 i']at q3;exact aG ⟨_,rfl,_,rfl,q,-z,xs,cs,rfl,k12 _ _ S.hq,S.hcs.mono k12,(by lia),(λc h=>by have:=hc c h;lia),λl ys H3 k3 n3 r3 c3=>q3 _ _ (k12.trans k3) ⟨l,ys,rfl,k12.free n3,r3,c3⟩⟩
theorem Ap:ax ["sentence","place","literal","clauses","opposed"] ["sentence","place","literal"] (ah ut):=⟨rfl,rfl,rfl,by decide+kernel,rfl,by decide+kernel,by decide+kernel⟩
theorem BS(F:Fun K "behind_blocked" "behind_blocked" ut f fd)(T:y_ mg)(IY:Fn P w K mg base 2 "is_place" g1 e1 ["thing","many"] fO)(J_:Fn P w K mg base 1 "is_number" g2 e2 ["thing"] mY)(J9:Fn P w K mg base 2 "is_of" g3 e3 ["sentence","literal","hand"] gN)(Lw:Fn P w K mg base 2 "is_blocked" g4 e4 ["clause","literal","opposed"] qG):FnOk P w K mg base bD 3 f fd ["sentence","place","literal"] (zc gO):=by
 have sc:=Ap;refine F.ok Ap (λvs H Q E h=>?_) λHL A outer s H vs Q E hr h=>?_
 ·obtain⟨p,q,t,xs,cs,v,w,d,e,rfl,_⟩:=h;rfl
 obtain⟨p,q,t,xs,cs,v,w,d,e,rfl,S,hd,he,q'⟩:=h;have G':=S.hcs.length;have hn:=S.hn;have ht:=S.ht;refine⟨_,(af (aB (i:=3) sc.nd rfl (E8 rfl)<|aA av (pv 0) aj λ_ _=>rfl)
  (af (aJ (PW.pt<|gz (bO<|aP<|aC IY hr (by lia) rfl<|aa (pv 1)<|aa (aq aH rfl T.len Fj<|aa (pv 3) ae) ae)<|gz (bO<|aP<|aC J_ hr (by lia) rfl<|aa (pv 2) ae)<|fD<|aD cJ (pv 2) (aA av (pv 3) (pv 1) λ_ _=>rfl)<|by with_unfolding_all rfl) (ai<|am bw) az)
  (af (cY (i:=4) sc.nd rfl rfl (NY:=["clause","literal"]) (idx:=[A',ab 2]) rfl ⟨by with_unfolding_all rfl,(by with_unfolding_all exact⟨rfl,trivial⟩),λ_=>by rfl,by rfl,by rfl,by rfl,by decide⟩ (bi<|pv 3) (λ_ _ _ _=>(ap (i:=0) (show Gd (["clause","literal"]:bc Str) by decide+kernel) rfl<|E8 rfl)) (λ_ _ _ _=>(ca<|aD (fk (K:=K) rfl) (dC cC<|pv 1) (pv 0)<|by with_unfolding_all rfl)) (λ_ _ _ _=>(pv 0))<|by with_unfolding_all rfl)
  (af (aJ (PW.pt<|gz (bO<|aP<|aC J9 hr (by lia) rfl<|aa (pv 0)<|aa (pv 2)<|aa (ba rfl T.g_WISHER) ae)<|fD<|bO<|aP<|aC Lw hr (by lia) rfl<|aa (aA av (pv 3) (pv 1) λ_ _=>rfl)<|aa (pv 2)<|aa (pv 4) ae) (ai<|am bw) az)
  (ai<|am<|aE fi (dj dW (pv 3) fg<|dw<|pv 1)<|dj dW (pv 3) (dw<|aE bI (pv 1) aj) fg))))),?_⟩
 refine⟨_,rfl,.inr<|.inl ⟨p,_,1,.ref q,rfl,rfl,SqT.of S.hp,rfl,?_⟩⟩;exists _,rfl,_,rfl,.ref q,_,rfl,.inl ⟨_,SqL.of S.hq,rfl⟩,v,d,cs.length,(by rw[G'];rfl),hd,_,rfl;cases e1:bZ cs.length d with
 |none=>
  have e0:gO t cs d e=none:=by
   cases e with
   |int z=>
    show(bZ cs.length d).bind _=A'
    rw[e1];rfl
   |_=>rfl
  rw[e0]at q';exact aL<|aL<|q' _ _ (Same.refl _) rfl
 |some i=>
 obtain⟨hi,rfl⟩:=cy e1;obtain rfl:=bF hd;refine aG ⟨_,rfl,w,e,rfl,he,_,rfl,?_⟩;obtain⟨z,rfl⟩|T7:=qx e
 rotate_left
 ·rw[mQ T7];have e0:gO t cs (.int (i:Int)) e=none:=by
   cases e with
   |int z=>exact absurd rfl<|T7 z
   |_=>rfl
  rw[e0]at q';exact aL<|aL<|q' _ _ (Same.refl _) rfl
 obtain rfl:=bF he;obtain⟨tc,hx,JA,hm⟩:=dJ S.hcs hi;have q2:∀v' H',Same H H'->RC H H' (if dI t cs i z=kz then ab (dz cs i)else A') v'->Q v' H':=λv' H' k r=>q' v' H' k (by
  show RC H H' ((bZ cs.length<|.int (i:Int)).bind _) v'
  rw[e1];exact r)
 unfold dI at q2;have e:(if kz=kz then !js (.int z) ((cs.getD i []).map V.int)else js (.int z) ((cs.getD i []).map V.int))=!(cs.getD i []).contains z:=by
  rw[Fc rfl,cN]
 refine aG ⟨_,rfl,_,rfl,_,rfl,.inl ⟨q,xs,(i:Int),.ref tc,rfl,rfl,SqL.of S.hq,bf hx,tc,_,rfl,.inr<|SqT.of JA,rfl,cD _,_,rfl,?_⟩⟩;rw[e];cases g1:(cs.getD i []).contains z with
 |false=>
  rw[g1]at q2;exact aL<|q2 _ _ (Same.refl _) rfl
 |true=>
 rw[g1]at q2;have hz:=S.hok _ hm z<|E5.mp g1;refine aG ⟨_,rfl,q,rfl,⟨_,SqL.of S.hq⟩,λD hD=>?_⟩;refine df [ab<|.int z] (cA H (-z)) (λx=>x) rfl S.hq hD (by lia) ?_ ?_ ?_
 ·intro x hx H' R k r;obtain⟨i,hi⟩:=Ih.mp hx;obtain⟨kc,_,Np⟩:=S.hcs.get hi;rw[eT Np]at r;obtain⟨td,rfl,TY⟩:=Np;exists _,rfl,_,rfl,_,rfl,td,_,rfl,.inr<|SqT.of<|k _ _ TY,rfl,cD kc,_,rfl;show R (js (.int (-z))<|kc.map V.int) H'
  rw[cN];exact r
 ·intro x hx _ H' R k r;exact⟨_,rfl,r⟩
 rw[Lc];have k1:=ag hD<|.lst<|xs.filter<|cA H (-z);have r1:upd H D (.lst<|xs.filter<|cA H (-z)) D=ab (.lst<|xs.filter<|cA H (-z)):=ad;generalize upd H D (.lst<|xs.filter<|cA H (-z))=H1 at k1 r1;have hop:=(kq (z:=-z) S.hcs).mono k1;exists _,rfl,_,rfl,p,t,_,z,kz,rfl,k1 _ _ S.hp,(by lia),hz.1,hz.2,_,rfl;cases g2:cr t z with
 |false=>
  rw[g2]at q2;exact aL<|aL<|q2 _ _ k1 rfl
 |true=>
 rw[g2]at q2;refine aG ⟨_,rfl,_,rfl,.inl ⟨q,xs,(i:Int),.ref tc,rfl,rfl,SqL.of<|k1 _ _ S.hq,bf hx,_,rfl,_,rfl,tc,D,_,z,_,_,rfl,k1 _ _ JA,r1,hop,_,rfl,?_⟩⟩;cases g3:((cs.filter λc=>c.contains (-z)).all λk=>cR (cs.getD i []) z k)with
 |false=>
  rw[g3]at q2;exact aL<|q2 _ _ k1 rfl
 |true=>
  rw[g3]at q2;refine aG ?_;refine⟨_,rfl,_,rfl,_,rfl,q,xs,rfl,SqL.of<|k1 _ _ S.hq,λl1 q1=>?_⟩;rw[qw];have k2:=ag q1<|.lst<|xs.take i;refine⟨_,rfl,_,rfl,_,_,rfl,rfl,_,rfl,q,xs,rfl,SqL.of<|(k1.trans k2) _ _ S.hq,λl5 q5=>?_⟩;have ec:dq xs (ab<|(i:Int)+1) A'=xs.drop (i+1):=j8 xs<|i+1;rw[ec];have k5:=ag q5<|.lst<|xs.drop<|i+1;refine⟨l1,l5,_,_,rfl,rfl,k5 _ _ ad,ad,FQ (au<|by rw[FO,Hi];lia),λl6 q6=>?_⟩;have kk:=k1.trans<|k2.trans<|k5.trans<|ag q6<|.lst<|xs.take i++xs.drop (i+1);exact q2 _ _ kk ⟨l6,_,rfl,(k1.trans<|k2.trans k5).free q6,ad,dH (em i<|S.hcs.mono kk)<|eA (i+1)<|S.hcs.mono kk⟩
end
abbrev iT:Gs:=cH 40
abbrev iU:Gs:=cH 41
def cf:Str:=ET "unit"
def bT:Str:=ET "pure"
def bd:Str:=ET "within"
def aR:Str:=ET "blocked"
theorem rW:Gk (.str cb)=true:=Nice.shaped (fM 8<|by decide+kernel)
theorem rX:Gk (.str cf)=true:=Nice.shaped (fM 8<|by decide+kernel)
theorem rY:Gk (.str bT)=true:=Nice.shaped (fM 8<|by decide+kernel)
theorem lV:Gk (.str bd)=true:=Nice.shaped (fM 8<|by decide+kernel)
theorem kr:Gk (.str aR)=true:=Nice.shaped (fM 8<|by decide+kernel)
def bJ(t:Str)(cs:bc (bc Int))(d:Fq):kb (bc<|bc Int):=
 if formB cb 2 d=kz then lQ t cs (qy d 1)
 else if formB cf 2 d=kz then lR t cs (qy d 1)
 else if formB bT 2 d=kz then lS t cs (qy d 1)
 else if formB bd 3 d=kz then lT cs (qy d 1) (qy d 2)
 else if formB aR 3 d=kz then gO t cs (qy d 1) (qy d 2)
 else A'
inductive wG (vs:bc V)(H:Hp)(Q:VK):Prop
 |mk (p q:f')(t:Str)(xs:bc V)(cs:bc (bc Int))(v:V)(d:Fq)(h0:vs=[.ref p,v])(h1:SentAt H p q t xs cs)(h2:RD H d v)(h3:DC d)(h4:∀v' H',Same H H'->RC H H' (bJ t cs d) v'->Q v' H'):wG vs H Q
def rZ:Sp:=λvs H Q _=>wG vs H Q
section
variable {K:gV}
theorem r_:ax ["sentence","step"] ["sentence","step"] (ah iT):=⟨rfl,rfl,rfl,by decide+kernel,rfl,by decide+kernel,by decide+kernel⟩
theorem wH(F:Fun K "clauses_after" "clauses_after" iT f fd)(Jb:Fn P w K mg base 1 "begins_with" g1 e1 ["thing","word","many"] Ak)(Pf:Fn P w K mg base 4 "behind_drop" g2 e2 ["sentence","place"] (uu lQ))(Pd:Fn P w K mg base 4 "behind_unit" g3 e3 ["sentence","place"] (uu lR))(Pe:Fn P w K mg base 3 "behind_pure" g4 e4 ["sentence","literal"] (uu lS))(NP:Fn P w K mg base 3 "behind_within" g5 e5 ["sentence","place","within"] (zc λ_=>lT))(Nr:Fn P w K mg base 3 "behind_blocked" g6 e6 ["sentence","place","literal"] (zc gO)):FnOk P w K mg base bD 5 f fd ["sentence","step"] rZ:=by
 have sc:=r_;refine F.ok r_ (λvs H Q E h=>?_) λHL A outer s H vs Q E hr h=>?_
 ·obtain⟨p,q,t,xs,cs,v,d,rfl,_⟩:=h;rfl
 obtain⟨p,q,t,xs,cs,v,d,rfl,S,hd,Rn,q'⟩:=h;refine⟨_,(af (aJ (aP<|aC Jb hr (by lia) rfl<|aa (pv 1)<|aa bA<|aa aj ae) (ai<|am<|aC Pf hr (by lia) rfl<|aa (pv 0)<|aa (aA av (pv 1) aj λ_ _=>rfl) ae) az)
  (af (aJ (aP<|aC Jb hr (by lia) rfl<|aa (pv 1)<|aa bA<|aa aj ae) (ai<|am<|aC Pd hr (by lia) rfl<|aa (pv 0)<|aa (aA av (pv 1) aj λ_ _=>rfl) ae) az)
  (af (aJ (aP<|aC Jb hr (by lia) rfl<|aa (pv 1)<|aa bA<|aa aj ae) (ai<|am<|aC Pe hr (by lia) rfl<|aa (pv 0)<|aa (aA av (pv 1) aj λ_ _=>rfl) ae) az)
  (af (aJ (aP<|aC Jb hr (by lia) rfl<|aa (pv 1)<|aa bA<|aa aj ae) (ai<|am<|aC NP hr (by lia) rfl<|aa (pv 0)<|aa (aA av (pv 1) aj λ_ _=>rfl)<|aa (aA av (pv 1) aj λ_ _=>rfl) ae) az)
  (af (aJ (aP<|aC Jb hr (by lia) rfl<|aa (pv 1)<|aa bA<|aa aj ae) (ai<|am<|aC Nr hr (by lia) rfl<|aa (pv 0)<|aa (aA av (pv 1) aj λ_ _=>rfl)<|aa (aA av (pv 1) aj λ_ _=>rfl) ae) az)
  (ai<|am bw)))))),?_⟩
 unfold bJ at q';exists _,rfl,v,d,cb,2,rfl,hd,by decide,rW,Rn,_,rfl;cases c1:formB cb 2 d with
 |true=>
  rw[c1,Fc rfl]at q';obtain⟨ds,rfl,hl⟩:=fN c1;obtain⟨b,zs,rfl,hb,hz⟩:=aV hd;obtain⟨d0,d1,x0,x1,rfl,rfl,r0,r1⟩:=ki hz hl;exact aL ⟨_,rfl,_,rfl,.inr<|.inl ⟨b,_,1,x1,rfl,rfl,SqT.of hb,rfl,p,q,t,xs,cs,x1,d1,rfl,S,r1,q'⟩⟩
 |false=>
 rw[c1,E7 i']at q';refine aG ⟨_,rfl,v,d,cf,2,rfl,hd,by decide,rX,Rn,_,rfl,?_⟩;cases c2:formB cf 2 d with
 |true=>
  rw[c2,Fc rfl]at q';obtain⟨ds,rfl,hl⟩:=fN c2;obtain⟨b,zs,rfl,hb,hz⟩:=aV hd;obtain⟨d0,d1,x0,x1,rfl,rfl,r0,r1⟩:=ki hz hl;exact aL ⟨_,rfl,_,rfl,.inr<|.inl ⟨b,_,1,x1,rfl,rfl,SqT.of hb,rfl,p,q,t,xs,cs,x1,d1,rfl,S,r1,q'⟩⟩
 |false=>
 rw[c2,E7 i']at q';refine aG ⟨_,rfl,v,d,bT,2,rfl,hd,by decide,rY,Rn,_,rfl,?_⟩;cases c3:formB bT 2 d with
 |true=>
  rw[c3,Fc rfl]at q';obtain⟨ds,rfl,hl⟩:=fN c3;obtain⟨b,zs,rfl,hb,hz⟩:=aV hd;obtain⟨d0,d1,x0,x1,rfl,rfl,r0,r1⟩:=ki hz hl;exact aL ⟨_,rfl,_,rfl,.inr<|.inl ⟨b,_,1,x1,rfl,rfl,SqT.of hb,rfl,p,q,t,xs,cs,x1,d1,rfl,S,r1,q'⟩⟩
 |false=>
 rw[c3,E7 i']at q';refine aG ⟨_,rfl,v,d,bd,3,rfl,hd,by decide,lV,Rn,_,rfl,?_⟩;cases c4:formB bd 3 d with
 |true=>
  rw[c4,Fc rfl]at q';obtain⟨ds,rfl,hl⟩:=fN c4;obtain⟨b,zs,rfl,hb,hz⟩:=aV hd;obtain⟨d0,d1,d2,x0,x1,x2,rfl,rfl,r0,r1,r2⟩:=kj hz hl;exact aL ⟨_,rfl,_,rfl,.inr<|.inl ⟨b,_,1,x1,rfl,rfl,SqT.of hb,rfl,_,rfl,.inr<|.inl ⟨b,_,2,x2,rfl,rfl,SqT.of hb,rfl,p,q,t,xs,cs,x1,x2,d1,d2,rfl,S,r1,r2,q'⟩⟩⟩
 |false=>
 rw[c4,E7 i']at q';refine aG ⟨_,rfl,v,d,aR,3,rfl,hd,by decide,kr,Rn,_,rfl,?_⟩;cases c5:formB aR 3 d with
 |true=>
  rw[c5,Fc rfl]at q';obtain⟨ds,rfl,hl⟩:=fN c5;obtain⟨b,zs,rfl,hb,hz⟩:=aV hd;obtain⟨d0,d1,d2,x0,x1,x2,rfl,rfl,r0,r1,r2⟩:=kj hz hl;exact aL ⟨_,rfl,_,rfl,.inr<|.inl ⟨b,_,1,x1,rfl,rfl,SqT.of hb,rfl,_,rfl,.inr<|.inl ⟨b,_,2,x2,rfl,rfl,SqT.of hb,rfl,p,q,t,xs,cs,x1,x2,d1,d2,rfl,S,r1,r2,q'⟩⟩⟩
 |false=>
  rw[c5,E7 i']at q';exact aG<|q' _ _ (Same.refl _) rfl
theorem se:ax ["sentence","step","clauses"] ["sentence","step"] (ah iU):=⟨rfl,rfl,rfl,by decide+kernel,rfl,by decide+kernel,by decide+kernel⟩
end
abbrev lW:Gs:=cH 20
abbrev iV:Gs:=cH 15
structure DD (mg:Str->kb j'):Prop where
 abs:mg "abs"=A'
 max:mg "max"=A'
 tuple:mg "tuple"=A'
 list:mg "list"=A'
 len:mg "len"=A'
 range:mg "range"=A'
inductive Aq (vs:bc V)(H:Hp)(Q:VK):Prop
 |mk (p:f')(t:Str)(w:V)(hw:ER)(h0:vs=[.ref p,.str<|aN hw])(h1:H p=ab (.tup [.str t,w]))(h2:t.length<=900)(h3:∀(l:f') (H':Hp),Same H H'->H' l=ab (.lst<|(bo t hw).map V.int)->Q (.ref l) H'):Aq vs H Q
def qH:Sp:=λvs H Q _=>Aq vs H Q
def ib:Sp:=λvs H Q _=>∃b:ER,vs=[.str<|aN b]/\Q (.str<|aN (!b)) H
inductive Ar (H:Hp)(D p:f')(t:Str)(hw:ER)(i:Nat)(σ:St)(ys:bc V)(H2:Hp):Prop
 |mk (v0:kb V)(h0:σ=[v0,ab (.str (aN hw)),ab (.ref p)])(h1:ys=(((Fy i).filter λi=>bP t i == hw).map λ(i:Nat)=>V.int<|(i:Int)+1))(h2:H2=upd H D (.lst ys)):Ar H D p t hw i σ ys H2
section
variable {K:gV}
theorem wI:ax ["sentence","hand"] ["sentence","hand"] (ah lW):=⟨rfl,rfl,rfl,by decide+kernel,rfl,by decide+kernel,by decide+kernel⟩
theorem zd(F:Fun K "variables_of" "variables_of" lW f fd)(T:DD mg)(HH:Fn P w K mg base 1 "hand_of" f1 d1 ["sentence","variable"] eJ):FnOk P w K mg base bD 2 f fd ["sentence","hand"] qH:=by
 have sc:=wI;refine F.ok wI (λvs H Q E h=>?_) λHL A outer s H vs Q E hr h=>?_
 ·obtain⟨p,t,w,hw,rfl,_⟩:=h;rfl
 obtain⟨p,t,w,hw,rfl,hp,h9,q⟩:=h;have hu:=hr.units;refine⟨_,(ai<|am<|bj (NY:=["variable","hand","sentence"]) (idx:=[A',ab 1,ab 0]) rfl ⟨by with_unfolding_all rfl,(by with_unfolding_all exact⟨rfl,rfl,trivial⟩),λ_=>by rfl,by rfl,by rfl,by rfl,by decide⟩ (eO rfl T.range<|aa aj<|aa (aE bI (aq aH rfl T.len Fj<|aa (aA av (pv 0) aj λ_ _=>rfl) ae) aj) ae) (λ_ _ _ _=>(ap (i:=0) (show Gd (["variable","hand","sentence"]:bc Str) by decide+kernel) rfl<|E8 rfl)) (λ_ _ _ _=>(ca<|aD (aK hu) (aC HH hr (by lia) rfl<|aa (pv 2)<|aa (pv 0) ae) (pv 1)<|ay _)) λ_ _ _ _=>(pv 0)),?_⟩;refine⟨_,rfl,.inr<|.inl ⟨p,_,0,.str t,rfl,rfl,SqT.of hp,rfl,.str t,_,rfl,⟨FQ (au<|by lia),rfl⟩,_,_,rfl,rfl,?_⟩⟩;refine⟨_,_,rfl,⟨by decide,by decide,by lia,by lia⟩,λD hD=>?_⟩;have en:((t.length:Int)+1 - 1).toNat=t.length:=by lia
 refine dG (lo:=1) (n:=((t.length:Int)+1 - 1).toNat) (Ar H D p t hw)
  ⟨A',rfl,rfl,rfl⟩ ?_ ?_ ?_
 ·rintro i σ ys H2 _ ⟨_,_,_,rfl⟩;exact ad
 ·rintro i σ ys H2 hi ⟨v0,rfl,rfl,rfl⟩;rw[en]at hi;have RI:=ag hD (.lst<|((Fy i).filter λi=>bP t i == hw).map λ(i:Nat)=>V.int<|(i:Int)+1) _ _ hp;have ei:(1:Int)+(i:Int)=(i:Int)+1:=by lia
  rw[ei];refine⟨_,rfl,_,rfl,p,t,w,i,rfl,RI,hi,h9,_,rfl,.inl ⟨rfl,_,rfl,?_⟩⟩;rw[dl];by_cases g0:bP t i=hw
  ·have g:(bP t i == hw)=true:=by rw[g0];exact MZ _
   rw[E2 g0];refine aL ⟨_,rfl,ad,?_,_,rfl,?_,gS⟩
   ·have:=FH (λi=>bP t i == hw)<|Fy i;rw[Gr]at this;rw[ka];exact au (by lia)
   ·rw[GJ,Gc,FJ (p:=λi=>bP t i == hw) g,Fh];rfl
  ·rw[E_ g0];refine aG ⟨_,rfl,?_,rfl⟩;rw[GJ,Gc,FP (p:=λi=>bP t i == hw) λz=>g0<|by simpa using z];simp
 ·rintro σ ys H2 ⟨_,_,rfl,rfl⟩;refine q D _ (ag hD _) ?_;rw[ad,en];unfold bo;rw[FX];rfl
theorem ze:ax ["hand"] ["hand"] (ah iV):=⟨rfl,rfl,rfl,by decide+kernel,rfl,by decide+kernel,by decide+kernel⟩
theorem wJ(F:Fun K "other_hand" "other_hand" iV f fd)(T:uZ mg):FnOk P w K mg base bD 1 f fd ["hand"] ib:=by
 refine F.ok ze (λvs H Q E h=>?_) λHL A outer s H vs Q E hr h=>?_
 ·obtain⟨b,rfl,_⟩:=h;rfl
 obtain⟨b,rfl,q⟩:=h;have hu:=hr.units;exists _,(ai<|am<|fE (aD (aK hu) (pv 0) (ba rfl T.g_WISHER)<|ay _) (ba rfl T.g_SPOILER)<|ba rfl T.g_WISHER);refine⟨_,rfl,.inl ⟨rfl,_,rfl,?_⟩⟩;have e:decide (V.str (aN b)=V.str (ET "wisher"))=b:=by
  have z:=dl b kz;have z2:aN kz=ET "wisher":=rfl;rw[z2]at z;rw[z];cases b<;>rfl
 rw[e];cases b with
 |true=>exact aL q
 |false=>exact aG q
end
abbrev eU:Gs:=cH 21
theorem lX(c:bc Int):(c.map V.int).all gA=true:=by
 rw[Jt];exact Gq.mpr λ_ _=>rfl
theorem wK(c:bc Int)(p:Int->ER)(f:Int->V):((c.map V.int).filter<|B8 p).map (B9 f)=(c.filter p).map f:=by
 induction c with
 |nil=>rfl
 |cons x r ih=>
  rw[FA];by_cases h:p x=kz
  ·rw[FJ (p:=B8 p) (a:=V.int x) h,FJ (p:=p) h,FA,FA,ih];rfl
  ·rw[FP (p:=B8 p) (a:=V.int x) h,FP (p:=p) h,ih]
theorem zf{K:gV}{H:Hp}{p:f'}{ns:bc Int}{Q:VK}(h:SqL K H p (ns.map V.int))(h0:∀a∈ns,0<=a)(q:Q (.int<|ns.foldl max 0) H):vX K (.ref p) (.int 0) H Q:=
 ⟨p,ns,rfl,h,λe=>by rw[e]at q;exact q,λM m1 m2=>by rw[BA h0 (.inl m1) m2<|h0 M m1]at q;exact q⟩
theorem zg(l:Int):0<=ao l:=by
 obtain⟨_,e⟩|⟨_,e⟩:=gL l<;>lia
section
variable {K:gV}
theorem lY:ax ["sentence","hand","literals","others","last"] ["sentence","hand","literals"] (ah eU):=⟨rfl,rfl,rfl,by decide+kernel,rfl,by decide+kernel,by decide+kernel⟩
theorem qI(F:Fun K "dropped" "dropped" eU f fd)(T:DD mg)(HV:Fn P w K mg base 1 "other_hand" f1 d1 ["hand"] ib)(Kz:Fn P w K mg base 2 "variables_of" f2 d2 ["sentence","hand"] qH):
  FnOk P w K mg base bD 3 f fd ["sentence","hand","literals"] gP:=by
 have sc:=lY;refine F.ok lY (λvs H Q E h=>?_) λHL A outer s H vs Q E hr h=>?_
 ·obtain⟨p,q,t,w,hw,c,rfl,_⟩:=h;rfl
 obtain⟨p,q,t,w,hw,c,rfl,hp,h9,hq,Up,Px,q'⟩:=h;have hu:=hr.units;refine⟨_,(af (aB (i:=3) sc.nd rfl (Ie rfl)<|aC Kz hr (by lia) rfl<|aa (pv 0)<|aa (aC HV hr (by lia) rfl<|aa (pv 1) ae) ae)
  (af (aB (i:=4) sc.nd rfl (Ie rfl)<|yS rfl rfl T.max (bj (NY:=["literal","others"]) (idx:=[A',ab 3]) rfl ⟨by with_unfolding_all rfl,(by with_unfolding_all exact⟨rfl,trivial⟩),λ_=>by rfl,by rfl,by rfl,by rfl,by decide⟩ (bQ<|pv 2) (λ_ _ _ _=>(ap (i:=0) (show Gd (["literal","others"]:bc Str) by decide+kernel) rfl<|E8 rfl)) (λ_ _ _ _=>(ca<|aD (fk (K:=K) rfl) (aq br rfl T.abs FG<|aa (pv 0) ae) (pv 1)<|by with_unfolding_all rfl)) λ_ _ _ _=>(aq br rfl T.abs FG<|aa (pv 0) ae)) aj)
  (ai<|am<|bn bW rfl T.tuple GE<|aa (bj (NY:=["literal","last"]) (idx:=[A',ab 4]) rfl ⟨by with_unfolding_all rfl,(by with_unfolding_all exact⟨rfl,trivial⟩),λ_=>by rfl,by rfl,by rfl,by rfl,by decide⟩ (bQ<|pv 2) (λ_ _ _ _=>(ap (i:=0) (show Gd (["literal","last"]:bc Str) by decide+kernel) rfl<|E8 rfl)) (λ_ _ _ _=>(ca<|aD rf (aq br rfl T.abs FG<|aa (pv 0) ae) (pv 1)<|ay _)) λ_ _ _ _=>(pv 0)) ae))),?_⟩
 refine⟨_,rfl,_,rfl,hw,rfl,p,t,w,!hw,rfl,hp,h9,λl H1 k1 hl=>?_⟩;refine⟨_,rfl,q,rfl,⟨_,SqT.of<|k1 _ _ hq⟩,λD hD=>?_⟩;refine cm [ab<|.ref l] (B8 λz=>(bo t (!hw)).contains<|ao z) (B9 λz=>.int<|ao z) rfl (k1 _ _ hq) hD (by rw[ka];lia) ?_ ?_ ?_
 ·intro x hx H' R k r;obtain⟨z,_,rfl⟩:=fm hx;exists _,rfl,z,rfl,_,rfl,l,_,rfl,.inl<|SqL.of<|k _ _ hl,rfl,lX _,_,rfl;show R (js (.int<|ao z)<|(bo t (!hw)).map V.int) H'
  rw[cN];exact r
 ·intro x hx _ H' R k r;obtain⟨z,_,rfl⟩:=fm hx;exact⟨_,rfl,z,rfl,r⟩
 have e:((c.map V.int).filter<|B8 λz=>(bo t (!hw)).contains<|ao z).map (B9 λz=>.int<|ao z)=((c.filter λl=>!(bP t (ao l - 1).toNat == hw)).map ao).map V.int:=by
  rw[wK,FX];have:(c.filter λz=>(bo t (!hw)).contains<|ao z)=c.filter λl=>!(bP t (ao l - 1).toNat == hw):=Jq λz hz=>yT (Px z hz).1 (Px z hz).2;rw[this];rfl
 rw[e];have k2:=ag hD<|.lst<|((c.filter λl=>!(bP t (ao l - 1).toNat == hw)).map ao).map V.int;have r2:upd H1 D (.lst<|((c.filter λl=>!(bP t (ao l - 1).toNat == hw)).map ao).map V.int) D=ab (.lst<|((c.filter λl=>!(bP t (ao l - 1).toNat == hw)).map ao).map V.int):=ad;generalize upd H1 D (.lst<|((c.filter λl=>!(bP t (ao l - 1).toNat == hw)).map ao).map V.int)=H2 at k2 r2;unfold tC;refine zf (ns:=(c.filter λl=>!(bP t (ao l - 1).toNat == hw)).map ao) (SqL.of r2) (λa ha=>?_) ?_
 ·obtain⟨z,_,rfl⟩:=FW.mp ha;exact zg z
 refine⟨_,rfl,q,rfl,⟨_,SqT.of<|k2 _ _<|k1 _ _ hq⟩,λD2 Qj=>?_⟩;refine cm [ab<|.int<|ox t hw c] (B8 λl=>decide (ao l<=ox t hw c)) (λx=>x) rfl (k2 _ _<|k1 _ _ hq) Qj (by rw[ka];lia) ?_ ?_ ?_
 ·intro x hx H' R k r;obtain⟨z,_,rfl⟩:=fm hx;exact⟨_,rfl,z,rfl,_,rfl,_,_,rfl,rfl,_,rfl,r⟩
 ·intro x hx _ H' R k r;exact⟨_,rfl,r⟩
 rw[jn c (λl=>decide (ao l<=ox t hw c)) _ λi=>rfl];refine⟨D2,_,rfl,.inl ⟨SqL.of ad,λL3 hL3=>?_⟩⟩;exact q' L3 _ (((k1.trans k2).trans<|ag Qj _).trans<|ag hL3 _) ad
end
abbrev fZ:Gs:=cH 17
section
variable {K:gV}
theorem oR:ax ["clauses","literal","left","clause"] ["clauses","literal"] (ah fZ):=⟨rfl,rfl,rfl,by decide+kernel,rfl,by decide+kernel,by decide+kernel⟩
theorem uw(F:Fun K "clauses_behind" "clauses_behind" fZ f fd)(T:DD mg):FnOk P w K mg base bD 1 f fd ["clauses","literal"] dg:=by
 have sc:=oR;refine F.ok oR (λvs H Q E h=>?_) λHL A outer s H vs Q E hr h=>?_
 ·obtain⟨p,l,xs,cs,rfl,_⟩:=h;rfl
 obtain⟨p,l,xs,cs,rfl,hp,hcs,hn,Up,q⟩:=h;have hu:=hr.units;refine⟨_,(af (aB (i:=2) sc.nd rfl (E8 rfl)<|be ae)
  (af (aU Fg rfl (bi<|pv 0) (ap (i:=3) sc.nd rfl<|E8 rfl)
   (ai<|aJ (aD cJ (pv 1) (pv 3)<|by with_unfolding_all rfl) (ai<|bG<|cK Fp FB FC bh (pv 2)<|aa (bn bW rfl T.tuple GE<|aa (bj (NY:=["other","literal"]) (idx:=[A',ab 1]) rfl ⟨by with_unfolding_all rfl,(by with_unfolding_all exact⟨rfl,trivial⟩),λ_=>by rfl,by rfl,by rfl,by rfl,by decide⟩ (bQ<|pv 3) (λ_ _ _ _=>(ap (i:=0) (show Gd (["other","literal"]:bc Str) by decide+kernel) rfl<|E8 rfl)) (λ_ _ _ _=>(ca<|aD (gK hu) (pv 0) (dC cC<|pv 1)<|ay _)) λ_ _ _ _=>(pv 0)) ae) ae) az))
  (ai<|am<|pv 2))),?_⟩
 refine⟨FF _,λlf S_=>?_⟩;have hp1:upd H lf (.lst []) p=ab (.lst xs):=(ag S_ _) _ _ hp;refine⟨_,rfl,p,rfl,⟨_,SqL.of hp1⟩,cw (K:=K) (a:=p) (xs:=xs)
  (λi σ H2=>∃cv,σ=[ab<|.ref p,ab<|.int l,ab<|.ref lf,cv]/\∃ys,H2 lf=ab (.lst ys)/\CLs H2 (behind l<|cs.take i) ys/\Same H H2)
  ⟨A',rfl,[],ad,.nil,ag S_ _⟩ ?_ ?_ ?_⟩
 ·rintro i σ H2 _ ⟨_,_,_,_,_,k2⟩;exact SqL.of<|k2 _ _ hp
 ·rintro i x σ H2 hx ⟨cv,rfl,ys,g1,g2,k2⟩;obtain⟨c,hc,t,rfl,ht⟩:=hcs.get hx;have YF:=k2 _ _ ht;have Q8:c∈cs:=Fd hc;have e:cs.take (i+1)=cs.take i++[c]:=by rw[FD,hc];rfl
  have ZL:ys.length<=900:=by
   rw[<-g2.length];refine FM (IK _ _) ?_;rw[FO];lia
  exists _,rfl,_,rfl,t,c.map V.int,rfl,.inr<|SqT.of YF,rfl,lX c,_,rfl;rw[cN];cases gc:c.contains l with
  |false=>
   refine aL ⟨_,rfl,.inl ⟨rfl,_,SqL.of g1⟩,_,rfl,t,rfl,⟨_,SqT.of YF⟩,λD hD=>?_⟩;refine cm [ab<|.int l] (λx=>!decide (x=.int (-l))) (λx=>x) rfl YF hD (by rw[ka];have:=Up c Q8;lia) ?_ ?_ ?_
   ·intro x hx H' R k r;obtain⟨z,_,rfl⟩:=fm hx;exact⟨_,rfl,_,rfl,_,rfl,.inl ⟨rfl,_,rfl,r⟩⟩
   ·intro x hx _ H' R k r;exact⟨_,rfl,r⟩
   ·rw[jn c (λo=>!decide (o=-l)) _ λi=>by congr 1;exact Iz.mpr ⟨λz=>V.int.inj z,λz=>Gg _ z⟩];refine⟨D,_,rfl,.inl ⟨SqL.of ad,λt' UX=>?_⟩⟩;have nlD:lf≠D:=ak g1 hD;have Q0:upd H2 D (.lst<|(c.filter λo=>!decide (o=-l)).map V.int) lf=ab (.lst ys):=by rw[al nlD];exact g1
    have k3:=ag hD<|.lst<|(c.filter λo=>!decide (o=-l)).map V.int;generalize upd H2 D (.lst<|(c.filter λo=>!decide (o=-l)).map V.int)=H3 at Q0 UX k3;have k4:=ag UX<|.tup<|(c.filter λo=>!decide (o=-l)).map V.int;have R1:=k4 _ _ Q0;have ZT:upd H3 t' (.tup<|(c.filter λo=>!decide (o=-l)).map V.int) t'=ab (.tup<|(c.filter λo=>!decide (o=-l)).map V.int):=ad;generalize upd H3 t' (.tup<|(c.filter λo=>!decide (o=-l)).map V.int)=H4 at R1 ZT k4;refine⟨lf,ys,_,rfl,rfl,R1,au (by lia),_,rfl,_,ad,?_,(k2.trans<|k3.trans k4).upd_new S_ _⟩;rw[e];unfold behind;rw[Lu];have eb:N_ (cB l) [c]=[c.filter λo=>!decide (o=-l)]:=by
     rw[GQ];unfold cB;rw[gc,E7 i'];rfl
    rw[eb];exact CLs.snoc (CL.upd ⟨t',rfl,ZT⟩ R1)<|(g2.mono<|k3.trans k4).upd R1
  |true=>
   refine aG ⟨_,rfl,ys,g1,?_,k2⟩;rw[e];unfold behind;rw[Lu];have eb:N_ (cB l) [c]=[]:=by
    rw[GQ];unfold cB;rw[gc,Fc rfl];rfl
   rw[eb,GA];exact g2
 ·rintro σ H2 ⟨cv,rfl,ys,g1,g2,k2⟩;rw[E3<|by rw[hcs.length];exact lb _]at g2;exact⟨_,rfl,q lf ys H2 k2 S_ g1 g2⟩
end
theorem lZ(l:Int)(cs:bc (bc Int)):behind l cs=(cs.filter λc=>!c.contains l).map λc=>c.filter λx=>!decide (x=-l):=by
 unfold behind
 induction cs with
 |nil=>rfl
 |cons c r ih=>
  cases g:c.contains l with
  |true=>
   rw[List.filterMap_cons_none (by unfold cB;rw[Fc g]),FP<|by rw[g];decide];exact ih
  |false=>
   rw[List.filterMap_cons_some (b:=c.filter λx=>!decide (x=-l)) (by unfold cB;rw[E7<|by rw[g];exact i']),FJ (by rw[g];rfl),FA,ih]
theorem wL(h:gH t c=kz):∃z,c=[z]/\cr t z=true:=by
 unfold gH at h
 split at h
 ·exact⟨_,rfl,h⟩
 ·cases h
theorem qJ{cs:bc (bc Int)}{i:Nat}(hi:i < cs.length):cs.getD i []∈cs:=by
 rw[Fo,E1 hi];exact JK hi
structure Few (t:Str)(cs:bc (bc Int)):Prop where
 ws:WS t
 t8:t.length<=8
 many:cs.length<=16
 ok:∀c∈cs,z_ t.length c
 c4:∀c∈cs,c.length<=4
theorem Few.lits(F:Few t cs):∀c∈cs,qF t.length c:=λc hc=>(F.ok c hc).2
inductive iW (cs:bc (bc Int)):Fq->Prop
 |drop (i:Nat) (h:i < cs.length):iW cs (.tuple [.str cb,.int (i:Int)])
 |unit (i:Nat) (h:i < cs.length):iW cs (.tuple [.str cf,.int (i:Int)])
 |pure (z:Int):iW cs (.tuple [.str bT,.int z])
 |within (i j:Nat) (h:i < cs.length) (g:j < cs.length):iW cs (.tuple [.str bd,.int (i:Int),.int (j:Int)])
 |blocked (i:Nat) (z:Int) (h:i < cs.length):iW cs (.tuple [.str aR,.int (i:Int),.int z])
theorem l_(w x:Str)(n:Nat)(a:Fq):formB w n (.tuple [.str x,a])=(decide (2=n)&&decide (x=w)):=rfl
theorem ie(w x:Str)(n:Nat)(a b:Fq):formB w n (.tuple [.str x,a,b])=(decide (3=n)&&decide (x=w)):=rfl
theorem qK(t:Str)(cs:bc (bc Int))(a:Fq):bJ t cs (.tuple [.str cb,a])=lQ t cs a:=by
 unfold bJ;rw[l_,show(decide (2=2)&&decide (cb=cb))=kz by decide+kernel,Fc rfl];rfl
theorem qL(t:Str)(cs:bc (bc Int))(a:Fq):bJ t cs (.tuple [.str cf,a])=lR t cs a:=by
 unfold bJ;rw[l_,l_,show(decide (2=2)&&decide (cf=cb))=B' by decide+kernel,show(decide (2=2)&&decide (cf=cf))=kz by decide+kernel,E7 i',Fc rfl];rfl
theorem qM(t:Str)(cs:bc (bc Int))(a:Fq):bJ t cs (.tuple [.str bT,a])=lS t cs a:=by
 unfold bJ;rw[l_,l_,l_,show(decide (2=2)&&decide (bT=cb))=B' by decide+kernel,show(decide (2=2)&&decide (bT=cf))=B' by decide+kernel,show(decide (2=2)&&decide (bT=bT))=kz by decide+kernel,E7 i',E7 i',Fc rfl];rfl
theorem nc(t:Str)(cs:bc (bc Int))(a b:Fq):bJ t cs (.tuple [.str bd,a,b])=lT cs a b:=by
 unfold bJ;rw[ie,ie,ie,ie,show(decide (3=2)&&decide (bd=cb))=B' by decide+kernel,show(decide (3=2)&&decide (bd=cf))=B' by decide+kernel,show(decide (3=2)&&decide (bd=bT))=B' by decide+kernel,show(decide (3=3)&&decide (bd=bd))=kz by decide+kernel,E7 i',E7 i',E7 i',Fc rfl];rfl
theorem kT(t:Str)(cs:bc (bc Int))(a b:Fq):bJ t cs (.tuple [.str aR,a,b])=gO t cs a b:=by
 unfold bJ;rw[ie,ie,ie,ie,ie,show(decide (3=2)&&decide (aR=cb))=B' by decide+kernel,show(decide (3=2)&&decide (aR=cf))=B' by decide+kernel,show(decide (3=2)&&decide (aR=bT))=B' by decide+kernel,show(decide (3=3)&&decide (aR=bd))=B' by decide+kernel,show(decide (3=3)&&decide (aR=aR))=kz by decide+kernel,E7 i',E7 i',E7 i',E7 i',Fc rfl];rfl
theorem eV(h:i < n):bZ n (.int (i:Int))=ab i:=by
 show(if 0<=(i:Int)/\(i:Int) < (n:Int)then ab (i:Int).toNat else A')=ab i
 rw[Fc ⟨by lia,by lia⟩];rfl
inductive Nx:Type
 |unit (i:Nat)
 |drop (i:Nat)
 |pure (z:Int)
 |within (i j:Nat)
 |blocked (i:Nat) (z:Int)
def Nx.d:Nx->Fq
 |.unit i=>.tuple [.str cf,.int (i:Int)]
 |.drop i=>.tuple [.str cb,.int (i:Int)]
 |.pure z=>.tuple [.str bT,.int z]
 |.within i j=>.tuple [.str bd,.int (i:Int),.int (j:Int)]
 |.blocked i z=>.tuple [.str aR,.int (i:Int),.int z]
def Nx.zs:Nx->bc V
 |.unit i=>[.str cf,.int (i:Int)]
 |.drop i=>[.str cb,.int (i:Int)]
 |.pure z=>[.str bT,.int z]
 |.within i j=>[.str bd,.int (i:Int),.int (j:Int)]
 |.blocked i z=>[.str aR,.int (i:Int),.int z]
def cS(f:Nat->kb Nx)(n:Nat):kb Nx:=(Fy n).findSome? f
theorem first_none:cS f n=A'↔∀j,j < n->f j=none:=by
 unfold cS;rw[List.findSome?_eq_none_iff];exact⟨λh j hj=>h j<|FZ.mpr hj,λh j hj=>h j<|FZ.mp hj⟩
theorem fq:∀{n:Nat},i < n->(∀j,j < i->f j=A')->f i=ab s->cS f n=ab s
 |n+1,hi,h,e=>by
  unfold cS;rw[GJ,List.findSome?_append];by_cases hn:i < n
  ·have:=fq hn h e;unfold cS at this;rw[this];rfl
  ·have QY:i=n:=by lia
   subst QY;have:=first_none.mpr h;unfold cS at this;rw[this];show(N8 f [i])=ab s
   simp [N8,e]
theorem iX(h:cS f n=ab s):∃i,i < n/\f i=ab s:=by
 obtain⟨i,hi,e⟩:=List.exists_of_findSome?_eq_some h;exact⟨i,FZ.mp hi,e⟩
def cT(cs:bc (bc Int)):Nat:=cs.length+(cs.map Hv).sum
def oS(t:Str)(c:bc Int):ER:=match c.getLast? with
 |some z=>!cr t z
 |none=>B'
def dr(t:Str)(cs:bc (bc Int))(i:Nat):kb Nx:=if gH t (cs.getD i [])=kz then ab (.unit i)else if oS t (cs.getD i [])=kz then ab (.drop i)else A'
def dA(ks:bc Int)(z:Int):bc Int:=if ks.contains z=kz then ks else ks++[z]
def eK(cs:bc (bc Int)):bc Int:=cs.flatten.foldl dA []
theorem ig:∀(zs ks:bc Int),x∈zs.foldl dA ks↔x∈ks\/x∈zs
 |[],ks=>by simp
 |z::r,ks=>by
  rw[Ll,ig r];have h:x∈dA ks z↔x∈ks\/x=z:=by
   unfold dA
   split
   ·rename_i hc;have:=E5.mp hc;exact⟨.inl,λh=>h.elim id λe=>e▸this⟩
   ·simp
  rw[h,Fl,or_assoc]
theorem mem_keys:x∈eK cs↔∃c∈cs,x∈c:=by
 unfold eK;rw[ig];simp [Ng]
def ii(cs:bc (bc Int)):kb Nx:=((eK cs).find? λz=>!(eK cs).contains (-z)).map Nx.pure
def aZ(cs:bc (bc Int))(z:Int):bc Nat:=(Fy cs.length).filter λi=>(cs.getD i []).contains z
def ft(cs:bc (bc Int))(c:bc Int):bc Nat:=if c=[]then Fy cs.length else(c.map<|aZ cs).getD (y1<|(c.map<|aZ cs).map Hv) []
def ku(cs:bc (bc Int))(j i:Nat):ER:=!decide (i=j)&&((cs.getD j []).all λz=>(cs.getD i []).contains z)
def sf(cs:bc (bc Int))(j:Nat):kb Nx:=((ft cs<|cs.getD j []).find?<|ku cs j).map λi=>.within i j
def fP(cs:bc (bc Int)):kb Nx:=cS (sf cs) cs.length
def zh(t:Str)(cs:bc (bc Int))(i:Nat):kb Nx:=(((cs.getD i []).filter<|cr t).find? λz=>dI t cs i z).map λz=>.blocked i z
def jC(t:Str)(cs:bc (bc Int)):kb Nx:=cS (zh t cs) cs.length
def eW(t:Str)(cs:bc (bc Int)):kb Nx:=(cS (dr t cs) cs.length).or<|(ii cs).or<|(fP cs).or<|jC t cs
theorem eX(c:bc Int)(cs:bc (bc Int)):cT (c::cs)=1+c.length+cT cs:=by
 unfold cT;simp only [FI,FA,OU];lia
theorem ij(a b:bc (bc Int)):cT (a++b)=cT a+cT b:=by
 unfold cT;simp only [C',Fh,List.sum_append];lia
theorem kA(hi:i < cs.length):cT cs=cT (cs.take i)+(1+(cs.getD i []).length+cT (cs.drop<|i+1)):=by
 have e:cs=cs.take i++(cs.getD i []::cs.drop (i+1)):=by
  rw[Fo,E1 hi,JI,Jo,Ig]
 have e2:=Gg cT e;rw[ij,eX]at e2;exact e2
theorem ik(hi:i < cs.length):cT (dz cs i) < cT cs:=by
 have:=kA hi;unfold dz;rw[ij];lia
theorem fQ(z:Int):∀cs,cT (behind z cs)<=cT cs/\((∃c∈cs,z∈c\/ -z∈c)->cT (behind z cs) < cT cs)
 |[]=>⟨lb _,λ⟨_,h,_⟩=>nomatch h⟩
 |c::r=>by
  obtain⟨h1,h2⟩:=fQ z r;by_cases hc:c.contains z=kz
  ·have e:behind z (c::r)=behind z r:=by
    unfold behind;rw[GQ];unfold cB;rw[Fc hc]
   rw[e,eX];exact⟨by lia,λ_=>by lia⟩
  ·have e:behind z (c::r)=(c.filter λx=>!decide (x=-z))::behind z r:=by
    have:=lZ z<|c::r;rw[this,lZ,FJ<|by simpa using hc];rfl
   rw[e,eX,eX];have hf:=FH (λx=>!decide (x=-z)) c;refine⟨by lia,λ⟨k,hk,hz⟩=>?_⟩;obtain rfl|hk:=Fl.mp hk
   ·have hm:-z∈k:=hz.elim (λq=>absurd (E5.mpr q) hc) id;have IL:(k.filter λx=>!decide (x=-z)).length < k.length:=Io.mpr ⟨-z,hm,by simp⟩;lia
   ·have:=h2 ⟨k,hk,hz⟩;lia
theorem ux(u:uW c)(hz:c.getLast?=ab z)(hy:y∈c):ao y < ao z\/y=z:=by
 obtain⟨r,rfl⟩:=List.getLast?_eq_some_iff.mp hz;unfold uW at u;rw[Fh,LM]at u;obtain h|h:=FN.mp hy
 ·exact .inl (u.2.2 _ (IF h) _<|by simp)
 ·exact .inr<|Fb.mp h
theorem uy(h:z_ n c)(hl:oS t c=kz):(fA t B' c).length < c.length:=by
 unfold oS at hl;cases hz:c.getLast? with
 |none=>rw[hz]at hl;cases hl
 |some z=>
  rw[hz]at hl;have Sz:z∈c:=LN hz;refine Io.mpr ⟨z,Sz,λhd=>?_⟩;have hd:=Fv hd;have h1:=(h.2 z Sz).1;unfold ox at hd;obtain e|e:=(iJ ((c.filter λl=>!(bP t (ao l - 1).toNat == B')).map ao) 0).2
  ·lia
  ·obtain⟨y,hy,ey⟩:=FW.mp e;obtain⟨hyc,hyo⟩:=Gf.mp hy;obtain q|q:=ux h.1 hz hyc
   ·lia
   ·subst q;have Ta:(!bP t (ao y - 1).toNat)=true:=hl;revert hyo Ta;cases bP t (ao y - 1).toNat<;>intro a b
    ·cases a
    ·cases b
theorem mem_places:i∈aZ cs z↔i < cs.length/\z∈cs.getD i []:=by
 unfold aZ;rw[Gf,FZ,E5]
theorem wM(h:i∈ft cs c):i < cs.length:=by
 unfold ft at h
 split at h
 ·exact FZ.mp h
 ·rename_i PJ;have hn:(c.map<|aZ cs).map Hv≠[]:=by simpa using PJ
  have hm:=(y2 hn).1;rw[ka]at hm;rw[Fo,E1 hm,JI,Ni]at h;exact(mem_places.mp h).1
theorem uz(F:Few t cs)(h:eW t cs=ab s):iW cs s.d/\∃ds,bJ t cs s.d=ab ds/\cT ds < cT cs:=by
 unfold eW at h;obtain h|⟨_,h⟩:=Jy.mp h
 ·obtain⟨i,hi,e⟩:=iX h;unfold dr at e
  split at e
  ·rename_i hu;cases e;refine⟨.unit i hi,behind ((cs.getD i []).getD 0 0) cs,?_,?_⟩
   ·show bJ t cs (.tuple [.str cf,.int (i:Int)])=_
    rw[qL];unfold lR;rw[eV hi,IC,Fc hu]
   ·obtain⟨z,hz,_⟩:=wL hu;refine(fQ _ cs).2 ⟨cs.getD i [],qJ hi,.inl ?_⟩;rw[hz];simp
  split at e
  ·rename_i hl;cases e;refine⟨.drop i hi,cs.take i++[fA t B'<|cs.getD i []]++cs.drop (i+1),?_,?_⟩
   ·show bJ t cs (.tuple [.str cb,.int (i:Int)])=_
    rw[qK];unfold lQ;rw[eV hi,IM]
   ·have:=uy (F.ok _<|qJ hi) hl;rw[ij,ij,kA hi,eX];show _+(1+_+0)+_ < _
    lia
  ·cases e
 obtain h|⟨_,h⟩:=Jy.mp h
 ·obtain⟨z,e,rfl⟩:=FV.mp h;have hz:=Gy e;have hn:=JX e;have hk:(cs.any λc=>c.contains z)=true:=by
   obtain⟨c,hc,hm⟩:=mem_keys.mp hz;exact GZ.mpr ⟨c,hc,E5.mpr hm⟩
  have hk2:(cs.any λc=>c.contains (-z))=false:=by
   rw[Ky];intro q;obtain⟨c,hc,hm⟩:=GZ.mp q;have:=mem_keys.mpr ⟨c,hc,E5.mp hm⟩;rw[E5.mpr this]at hn;cases hn
  refine⟨.pure z,behind (if cr t z=kz then z else -z) cs,?_,?_⟩
  ·show bJ t cs (.tuple [.str bT,.int z])=_
   rw[qM];show(if((cs.any λc=>c.contains z)&&!(cs.any λc=>c.contains (-z)))=kz then _ else _)=_
   rw[hk,hk2];rfl
  ·obtain⟨c,hc,hm⟩:=mem_keys.mp hz;refine(fQ _ cs).2 ⟨c,hc,?_⟩
   split
   ·exact .inl hm
   ·exact .inr (by rw[Int.neg_neg];exact hm)
 obtain h|⟨_,h⟩:=Jy.mp h
 ·obtain⟨j,hj,e0⟩:=iX h;obtain⟨i,e,rfl⟩:=FV.mp e0;have hi:=wM<|Gy e;have hb:=JX e;refine⟨.within i j hi hj,dz cs i,?_,ik hi⟩;show bJ t cs (.tuple [.str bd,.int (i:Int),.int (j:Int)])=_
  rw[nc];unfold lT;rw[eV hi,eV hj,IC,IC];exact Fc hb
 ·obtain⟨i,hi,e0⟩:=iX h;obtain⟨z,e,rfl⟩:=FV.mp e0;have hb:=JX e;refine⟨.blocked i z hi,dz cs i,?_,ik hi⟩;show bJ t cs (.tuple [.str aR,.int (i:Int),.int z])=_
  rw[kT];show(bZ cs.length<|.int (i:Int)).bind _=_
  rw[eV hi,IC];exact Fc hb
inductive ng (t:Str)(cs:bc (bc Int)):Nx->Prop
 |unit (i:Nat) (h:i < cs.length) (u:gH t (cs.getD i [])=kz):ng t cs (.unit i)
 |drop (i:Nat) (h:i < cs.length):ng t cs (.drop i)
 |pure (z:Int) (c:bc Int) (h:c∈cs) (u:z∈c):ng t cs (.pure z)
 |within (i j:Nat):ng t cs (.within i j)
 |blocked (i:Nat) (z:Int) (h:i < cs.length) (u:z∈cs.getD i []):ng t cs (.blocked i z)
theorem fR(h:formB w n d=kz):∃r,d=.tuple (.str w::r)/\r.length+1=n:=by
 cases d with
 |tuple ds=>
  unfold formB at h;rw[GC]at h;cases ds with
  |nil=>cases h.2
  |cons x r=>
   have h2:lB w x=true:=h.2;cases x with
   |str y=>
    have:y=w:=Fv h2;subst this;exact⟨r,rfl,Fv h.1⟩
   |_=>cases h2
 |_=>cases h
theorem wN(h:bJ t cs d=ab ds):∃s,d=s.d/\ng t cs s:=by
 unfold bJ at h
 split at h
 ·rename_i hf;obtain⟨r,rfl,hl⟩:=fR hf
  match r,hl with
  |[x],_=>
   obtain⟨i,e,_⟩:=FV.mp h;obtain⟨hi,ex⟩:=cy e;have Sk:x=.int (i:Int):=ex;subst Sk;exact⟨.drop i,rfl,.drop i hi⟩
 split at h
 ·rename_i hf;obtain⟨r,rfl,hl⟩:=fR hf
  match r,hl with
  |[x],_=>
   obtain⟨i,e,h2⟩:=HU.mp h;obtain⟨hi,ex⟩:=cy e;have Sk:x=.int (i:Int):=ex;subst Sk
   split at h2
   ·rename_i u;exact⟨.unit i,rfl,.unit i hi u⟩
   ·cases h2
 split at h
 ·rename_i hf;obtain⟨r,rfl,hl⟩:=fR hf
  match r,hl with
  |[x],_=>
   have h':lS t cs x=ab ds:=h;cases x with
   |int z=>
    have h2:(if((cs.any λc=>c.contains z)&&!(cs.any λc=>c.contains (-z)))=kz then ab (behind (if cr t z=kz then z else -z) cs)else A')=ab ds:=h'
    split at h2
    ·rename_i q;rw[GC]at q;obtain⟨c,hc,hm⟩:=GZ.mp q.1;exact⟨.pure z,rfl,.pure z c hc<|E5.mp hm⟩
    ·cases h2
   |_=>cases h'
 split at h
 ·rename_i hf;obtain⟨r,rfl,hl⟩:=fR hf
  match r,hl with
  |[x,y],_=>
   obtain⟨i,e1,h⟩:=HU.mp h;obtain⟨j,e2,h⟩:=HU.mp h;obtain⟨hi,ex⟩:=cy e1;obtain⟨hj,ey⟩:=cy e2;have Sk:x=.int (i:Int):=ex;have ey':y=.int (j:Int):=ey;subst Sk ey';exact⟨.within i j,rfl,.within i j⟩
 split at h
 ·rename_i hf;obtain⟨r,rfl,hl⟩:=fR hf
  match r,hl with
  |[x,y],_=>
   have h':gO t cs x y=ab ds:=h;cases y with
   |int z=>
    have h2:(bZ cs.length x).bind (λi=>if dI t cs i z=kz then ab (dz cs i)else A')=ab ds:=h';obtain⟨i,e1,h3⟩:=HU.mp h2;obtain⟨hi,ex⟩:=cy e1;have Sk:x=.int (i:Int):=ex;subst Sk
    split at h3
    ·rename_i q;unfold dI at q;rw[GC]at q;exact⟨.blocked i z,rfl,.blocked i z hi<|E5.mp q.1⟩
    ·cases h3
   |_=>cases h'
 ·cases h
theorem wO{H:Hp}{s:Nx}{v:V}(h:RD H s.d v):∃b,v=.ref b/\H b=ab (.tup s.zs):=by
 have two:∀{w:Str} {i:Int} {v:V},RD H (.tuple [.str w,.int i]) v->∃b,v=.ref b/\H b=ab (.tup [.str w,.int i]):=λ{w i v} h=>by
  obtain⟨b,xs,e,hb,r⟩:=aV h;obtain⟨x,xs,rfl,r1,r⟩:=aI r;obtain⟨y,xs,rfl,r2,r⟩:=aI r;obtain rfl:=a_ r;rw[j9 r1,bF r2]at hb;exact⟨b,e,hb⟩
 have R6:∀{w:Str} {i j:Int} {v:V},RD H (.tuple [.str w,.int i,.int j]) v->∃b,v=.ref b/\H b=ab (.tup [.str w,.int i,.int j]):=λ{w i j v} h=>by
  obtain⟨b,xs,e,hb,r⟩:=aV h;obtain⟨x,xs,rfl,r1,r⟩:=aI r;obtain⟨y,xs,rfl,r2,r⟩:=aI r;obtain⟨z,xs,rfl,r3,r⟩:=aI r;obtain rfl:=a_ r;rw[j9 r1,bF r2,bF r3]at hb;exact⟨b,e,hb⟩
 cases s with
 |unit i=>exact two h
 |drop i=>exact two h
 |pure z=>exact two h
 |within i j=>exact R6 h
 |blocked i z=>exact R6 h
abbrev f_:Gs:=cH 42
structure Ca (mg:Str->kb j'):Prop where
 abs:mg "abs"=A'
 len:mg "len"=A'
 enumerate:mg "enumerate"=A'
 min:mg "min"=A'
 list:mg "list"=A'
 range:mg "range"=A'
 g_WISHER:gF mg "WISHER" (.str<|ET "wisher")
 g_SPOILER:gF mg "SPOILER" (.str<|ET "spoiler")
def RS(H:Hp)(o:kb Nx)(v:V):Prop:=match o with
 |none=>v=.non
 |some s=>∃p:f',v=.ref p/\H p=ab (.tup s.zs)
inductive As (f:Str->bc (bc Int)->kb Nx)(vs:bc V)(H:Hp)(Q:VK):Prop
 |mk (p q:f')(t:Str)(xs:bc V)(cs:bc (bc Int))(h0:vs=[.ref p])(h1:SentAt H p q t xs cs)(hu:∀c∈cs,uW c)(h2:∀v H',Same H H'->RS H' (f t cs) v->Q v H'):As f vs H Q
def nh(f:Str->bc (bc Int)->kb Nx):Sp:=λvs H Q _=>As f vs H Q
theorem SentAt.mono(h:SentAt H p q t xs cs)(k:Same H H'):SentAt H' p q t xs cs:=⟨k _ _ h.hp,k _ _ h.hq,h.hcs.mono k,h.ht,h.hn,h.hok,h.hc⟩
inductive sh (p:f')(t:Str)(cs:bc (bc Int))(H:Hp)(i:Nat)(σ:St)(H2:Hp):Prop
 |mk (v1 v2:kb V)(h0:σ=[ab<|.ref p,v1,v2])(h1:Same H H2)(h2:∀j,j < i->dr t cs j=A'):sh p t cs H i σ H2
theorem zi{c:bc Int}{z:Int}(h:c.getLast?=ab z):kL (c.map V.int) (-1)=ab (.int z):=by
 have PJ:c≠[]:=λe=>by subst e;cases h
 have hl:=J2.mpr PJ;unfold kL Be;rw[E7 (by decide),Fc (by rw[ka];lia),IC,Fk,ka];rw[List.getLast?_eq_getElem?]at h;have e:(-1+((c.length:Nat):Int)).toNat=c.length - 1:=by lia
 rw[e,h];rfl
section
variable {K:gV}
theorem oT:ax ["sentence","place","clause"] ["sentence"] (ah f_):=⟨rfl,rfl,rfl,by decide+kernel,rfl,by decide+kernel,by decide+kernel⟩
theorem uA(F:Fun K "next_short" "next_short" f_ f fd)(T:Ca mg)(NL:Fn P w K mg base 3 "is_unit" g1 e1 ["sentence","clause"] kn)(J9:Fn P w K mg base 2 "is_of" g2 e2 ["sentence","literal","hand"] gN):FnOk P w K mg base bD 4 f fd ["sentence"] (nh λt cs=>cS (dr t cs) cs.length):=by
 have sc:=oT;refine F.ok oT (λvs H Q E h=>?_) λHL A outer s H vs Q E hr h=>?_
 ·obtain⟨p,q,t,xs,cs,rfl,_⟩:=h;rfl
 obtain⟨p,q,t,xs,cs,rfl,S,hu,q'⟩:=h;have G':=S.hcs.length;refine⟨_,(af (aU Fg rfl (hJ rfl T.enumerate<|aA av (pv 0) aj λ_ _=>rfl) (eF rfl<|aW (ap (i:=1) sc.nd rfl<|E8 rfl)<|aW (ap (i:=2) sc.nd rfl<|E8 rfl) dh)
   (af (aJ (aP<|aC NL hr (by lia) rfl<|aa (pv 0)<|aa (pv 2) ae) (ai<|am<|bx<|aa bA<|aa (pv 1) ae) az)
   (ai<|aJ (PW.pt<|fb (jG (pv 2) λ_=>rfl)<|du<|aP<|aC J9 hr (by lia) rfl<|aa (pv 0)<|aa (aA av (pv 2) (dC cC aj) λ_ _=>rfl)<|aa (ba rfl T.g_SPOILER) ae) (ai<|am<|bx<|aa bA<|aa (pv 1) ae) az)))
  (ai<|am bw)),?_⟩
 refine⟨_,rfl,.inr<|.inl ⟨p,_,1,.ref q,rfl,rfl,SqT.of S.hp,rfl,q,rfl,⟨_,SqL.of S.hq⟩,?_⟩⟩;refine fJ (K:=K) (a:=q) (xs:=xs) (sh p t cs H) ⟨A',A',rfl,Same.refl _,λ_ h=>absurd h<|Lj _⟩ ?_ ?_ ?_
 ·rintro i σ H2 _ ⟨v1,v2,rfl,k2,_⟩;exact SqL.of<|k2 _ _ S.hq
 ·rintro i x σ H2 tt hx ⟨v1,v2,rfl,k2,JZ⟩ htt;have k3:=ag htt<|.tup [.int (i:Int),x];have kk:=k2.trans k3;have hi:i < cs.length:=by
   have:=(ES.mp hx).1;lia
  obtain⟨tc,QV,JA,hm⟩:=dJ S.hcs hi;rw[hx]at QV;cases QV;have S3:=S.mono kk;have S8:wu (upd H2 tt<|.tup [.int (i:Int),.ref tc]) tc (cs.getD i []):=kk _ _ JA;have Q7:∀s,dr t cs i=ab s->cS (dr t cs) cs.length=ab s:=λs e=>fq hi JZ e;have Qu:upd H2 tt (.tup [.int (i:Int),.ref tc]) tt=ab (.tup [.int (i:Int),.ref tc]):=ad;generalize upd H2 tt (.tup [.int (i:Int),.ref tc])=G1 at kk S3 S8 Qu ⊢;have adH:=S.ht;have QU:=S.hok _ hm;have SO:=S.hc _ hm;generalize hc:cs.getD i []=c at S8 QU SO;exists tt,_,rfl,SqT.of Qu,rfl,_,_,rfl,_,_,rfl,rfl;exists _,rfl,_,rfl,p,tc,t,.ref q,c,rfl,S3.hp,(by lia),S8,QU,_,rfl;cases e1:gH t c with
  |true=>
   refine aL ⟨_,rfl,(by show 2<=sizeLine;decide),λr Qh=>?_⟩;have k4:=ag Qh<|.tup [.str cf,.int (i:Int)];refine q' _ _ (kk.trans k4) ?_;rw[Q7 (.unit i)<|by unfold dr;rw[hc,Fc e1]];exact⟨r,rfl,ad⟩
  |false=>
   refine aG ?_;cases hz:c.getLast? with
   |none=>
    have e0:=List.getLast?_eq_none_iff.mp hz;subst e0;exists _,rfl,B',.inr<|.inl ⟨_,SqT.of S8,rfl⟩;refine aG<|aG ⟨_,_,rfl,kk,λj hj=>?_⟩;by_cases e:j < i
    ·exact JZ j e
    ·have:j=i:=by lia
     subst this;unfold dr;rw[hc,e1];rfl
   |some z=>
    have Sz:z∈c:=LN hz;have TU:=QU z Sz;refine⟨_,rfl,kz,.inr<|.inl ⟨_,SqT.of S8,?_⟩,?_⟩
    ·cases c with
     |nil=>cases Sz
     |cons x r=>rfl
    refine aL ⟨_,rfl,_,rfl,_,rfl,.inr<|.inl ⟨tc,c.map V.int,-1,.int z,rfl,rfl,SqT.of S8,zi hz,p,t,.ref q,z,B',rfl,S3.hp,(by lia),TU.1,TU.2,_,rfl,?_⟩⟩;cases eo:cr t z with
    |false=>
     refine aL ⟨_,rfl,(by show 2<=sizeLine;decide),λr Qh=>?_⟩;have k4:=ag Qh<|.tup [.str cb,.int (i:Int)];refine q' _ _ (kk.trans k4) ?_;rw[Q7 (.drop i) (by unfold dr oS;rw[hc,e1,hz,E7 i'];show(if(!cr t z)=kz then _ else _)=_;rw[eo];rfl)];exact⟨r,rfl,ad⟩
    |true=>
     refine aG ⟨_,_,rfl,kk,λj hj=>?_⟩;by_cases e:j < i
     ·exact JZ j e
     ·have:j=i:=by lia
      subst this;unfold dr oS;rw[hc,e1,hz,E7 i'];show(if(!cr t z)=kz then _ else _)=_
      rw[eo];rfl
 ·rintro σ H2 ⟨v1,v2,rfl,k2,JZ⟩;rw[G'.symm]at JZ;exact q' _ _ k2 (by rw[first_none.mpr JZ];rfl)
end
abbrev kB:Gs:=cH 43
abbrev dL(ns:bc Nat):bc V:=ns.map λi:Nat=>V.int (i:Int)
structure HoldAt (H:Hp)(a:f')(kvs:bc (aS×V))(ks:bc Int)(pl:Int->bc Nat):Prop where
 ha:H a=ab (.dK kvs)
 keys:kvs.map (·.1)=ks.map FS
 val:∀z,z∈ks->∃l:f',bH kvs (.inl z)=ab (.ref l)/\H l=ab (.lst<|dL<|pl z)
 non:∀z,z∉ks->bH kvs (.inl z)=A'
 inj:∀y z (l:f'),bH kvs (.inl y)=ab (.ref l)->bH kvs (.inl z)=ab (.ref l)->y=z
theorem HoldAt.mono(h:HoldAt H a kvs ks pl)(k:Same H H'):HoldAt H' a kvs ks pl:=
 ⟨k _ _ h.ha,h.keys,λz hz=>let ⟨l,e,q⟩:=h.val z hz;⟨l,e,k _ _ q⟩,h.non,h.inj⟩
structure HoldN (H0 H:Hp)(a:f')(kvs:bc (aS×V))(ks:bc Int)(pl:Int->bc Nat):Prop where
 at_:HoldAt H a kvs ks pl
 sam:Same H0 H
 na:H0 a=A'
 nl:∀z (l:f'),bH kvs (.inl z)=ab (.ref l)->H0 l=A'
theorem HoldN.mono(h:HoldN H0 H a kvs ks pl)(k:Same H H'):HoldN H0 H' a kvs ks pl:=⟨h.at_.mono k,h.sam.trans k,h.na,h.nl⟩
def uB(pl:Int->bc Nat)(z:Int)(i:Nat):Int->bc Nat:=λy=>if y=z then pl y++[i]else pl y
theorem iY{α:Type}{l:bc α}{i:Nat}{x:α}(h:l[i]? =ab x):l.take (i+1)=l.take i++[x]:=by
 rw[FD,h];rfl
theorem qN(ns:bc Nat)(i:Nat):dL ns++[V.int (i:Int)]=dL (ns++[i]):=by
 unfold dL;rw[Fh];rfl
theorem wP{i:Nat}(h:HoldN H0 H a kvs ks pl)(hz:z∈ks)(e:bH kvs (.inl z)=ab (.ref l)):
  HoldN H0 (upd H l<|.lst<|dL (pl z)++[.int (i:Int)]) a kvs (dA ks z) (uB pl z i):=by
 have hl:H l=ab (.lst<|dL<|pl z):=by
  obtain⟨l',e',q⟩:=h.at_.val z hz;rw[e]at e';cases e';exact q
 have TK:a≠l:=λq=>by have:=h.at_.ha;rw[q,hl]at this;cases this
 have ek:dA ks z=ks:=by
  unfold dA;rw[Fc<|E5.mpr hz]
 rw[ek];refine⟨⟨by rw[al TK];exact h.at_.ha,h.at_.keys,λy hy=>?_,h.at_.non,h.at_.inj⟩,h.sam.upd_new (h.nl z l e) _,h.na,h.nl⟩;obtain⟨l',e',q⟩:=h.at_.val y hy;exists l',e';unfold uB;by_cases R':y=z
 ·subst R';rw[e]at e';cases e';rw[ad,Fc rfl,qN]
 ·rw[E7 R',al λq'=>R'<|h.at_.inj y z l (by rw[<-q'];exact e') e];exact q
theorem wQ{i:Nat}(h:HoldN H0 H a kvs ks pl)(hz:z∉ks)(hp:pl z=[])(nl:H l=A'):
  HoldN H0 (upd (upd (upd H l<|.lst []) a<|.dK<|cV kvs (.inl z)<|.ref l) l<|.lst ([]++[.int (i:Int)])) a (cV kvs (.inl z)<|.ref l) (dA ks z) (uB pl z i):=by
 have hv:=h.at_.non z hz;have TK:a≠l:=λq=>by have:=h.at_.ha;rw[q,nl]at this;cases this
 have ek:dA ks z=ks++[z]:=by
  unfold dA;rw[E7 λq=>hz<|E5.mp q]
 have Zb:(kvs.any λkv=>decide (kv.1=(FS z:aS)))=false:=by
  rw[Ky];intro q;obtain⟨kv,hm,e⟩:=GZ.mp q;have:kv.1∈kvs.map (·.1):=IF hm;rw[h.at_.keys,Fv e]at this;obtain⟨y,hy,e2⟩:=FW.mp this;cases e2;exact hz hy
 have n0:H0 l=none:=h.sam.free nl;have Sv:∀y (l':f'),bH kvs (.inl y)=ab (.ref l')->l'≠l:=λy l' e q=>by
  by_cases hy:y∈ks
  ·obtain⟨l2,e2,q2⟩:=h.at_.val y hy;rw[e]at e2;cases e2;rw[q,nl]at q2;cases q2
  ·rw[h.at_.non y hy]at e;cases e
 rw[ek];refine⟨⟨by rw[al TK,ad],?_,λy hy=>?_,λy hy=>?_,λy x l' e1 e2=>?_⟩,((h.sam.upd_new n0 _).upd_new h.na _).upd_new n0 _,h.na,λy l' e=>?_⟩
 ·unfold cV;rw[Zb,E7 i',Fh,h.at_.keys,Fh];rfl
 ·rw[gY];unfold uB;by_cases R':y=z
  ·subst R';rw[Fc rfl,Fc rfl,hp];exact⟨l,rfl,ad⟩
  ·rw[E7 λq=>R'<|GR q,E7 R'];have YB:y∈ks:=(FN.mp hy).elim id λq=>absurd (Fb.mp q) R';obtain⟨l',e',q⟩:=h.at_.val y YB;have n1:=Sv y l' e';have n2:l'≠a:=λq2=>by have:=h.at_.ha;rw[<-q2,q]at this;cases this
   exact⟨l',e',by rw[al n1,al n2,al n1];exact q⟩
 ·rw[gY,E7 λq=>hy<|Gb _<|by rw[GR q];exact Fb.mpr rfl];exact h.at_.non y λq=>hy<|JO _ q
 ·rw[gY]at e1 e2;by_cases h1:y=z
  ·by_cases h2:x=z
   ·rw[h1,h2]
   ·subst h1;rw[Fc rfl]at e1;rw[E7 λq=>h2<|GR q]at e2;cases e1;exact absurd rfl<|Sv x l e2
  ·rw[E7 λq=>h1<|GR q]at e1;by_cases h2:x=z
   ·subst h2;rw[Fc rfl]at e2;cases e2;exact absurd rfl<|Sv y l e1
   ·rw[E7 λq=>h2<|GR q]at e2;exact h.at_.inj y x l' e1 e2
 ·rw[gY]at e;by_cases h1:(FS y:aS)=.inl z
  ·rw[Fc h1]at e;cases e;exact n0
  ·rw[E7 h1]at e;exact h.nl y l' e
def si(cs:bc (bc Int))(i:Nat)(c:bc Int)(z:Int):bc Nat:=((Fy i).filter λk=>(cs.getD k []).contains z)++if c.contains z=kz then [i]else []
theorem sj(cs:bc (bc Int))(i:Nat):si cs i []=λz=>(Fy i).filter λk=>(cs.getD k []).contains z:=by
 funext z
 unfold si;rw[show([]:bc Int).contains z=B' from rfl,E7 i',GA]
theorem wR:si cs i (cs.getD i [])=si cs (i+1) []:=by
 rw[sj]
 funext z
 unfold si;rw[GJ,Gc]
 congr 1
 by_cases h:(cs.getD i []).contains z=kz
 ·rw[Fc h,FJ (p:=λk=>(cs.getD k []).contains z) h];rfl
 ·rw[E7 h,FP (p:=λk=>(cs.getD k []).contains z) h];rfl
theorem oU(hy:y∉c):uB (si cs i c) y i=si cs i (c++[y]):=by
 funext z
 unfold uB si;by_cases h:z=y
 ·subst h;rw[Fc rfl,E7 λq=>hy<|E5.mp q,Fc<|E5.mpr<|Gb _<|Fb.mpr rfl,GA]
 ·rw[E7 h]
  congr 1
  have:(c++[y]).contains z=c.contains z:=by
   rw[Gw,E5,E5,FN,Fb];exact⟨λq=>q.elim id λq=>absurd q h,.inl⟩
  rw[this]
theorem zj(hi:i<=cs.length)(h:y∉c.foldl dA ((cs.take i).flatten.foldl dA [])):si cs i c y=[]:=by
 rw[ig,ig]at h;unfold si;have h1:¬c.contains y=true:=λq=>h<|.inr<|E5.mp q;rw[E7 h1,GA,Jp];intro k hk q;have hk:=FZ.mp hk;have Tb:k < cs.length:=by lia
 refine h<|.inl<|.inr<|Ng.mpr ⟨cs.getD k [],?_,E5.mp q⟩;rw[Fo,E1 Tb,JI];exact List.mem_take_iff_getElem.mpr ⟨k,by lia,rfl⟩
theorem kC:∀(zs ks:bc Int),(zs.foldl dA ks).length<=ks.length+zs.length
 |[],ks=>lb _
 |z::r,ks=>by
  rw[Ll];have h:=kC r<|dA ks z;have h2:(dA ks z).length<=ks.length+1:=by
   unfold dA
   split
   ·lia
   ·rw[C'];exact lb _
  rw[FI];lia
theorem zk(u:uW c)(h:c[j]? =ab y):y∉c.take j:=λhm=>by
 have hj:=(ES.mp h).1;have e:c=c.take j++y::c.drop (j+1):=by
  rw[<-(ES.mp h).2,Jo,Ig]
 unfold uW at u;rw[e,Fh,LM]at u;have:=u.2.2 (ao y) (IF hm) (ao y) (by simp);lia
inductive At (vs:bc V)(H:Hp)(Q:VK):Prop
 |mk (q:f')(xs:bc V)(cs:bc (bc Int))(h0:vs=[.ref q])(h1:H q=ab (.lst xs))(h2:CLs H cs xs)(h3:cs.length<=400)(h4:∀c∈cs,c.length<=60)(h5:∀c∈cs,uW c)
  (h6:∀(a:f') (kvs:bc (aS×V)) (H':Hp),Same H H'->HoldAt H' a kvs (eK cs) (aZ cs)->Q (.ref a) H'):At vs H Q
def wS:Sp:=λvs H Q _=>At vs H Q
inductive Au (q a:f')(cs:bc (bc Int))(H:Hp)(i:Nat)(σ:St)(H2:Hp):Prop
 |mk (v2 v3 v4:kb V)(kvs:bc (aS×V))(h0:σ=[ab<|.ref q,ab<|.ref a,v2,v3,v4])(h1:HoldN H H2 a kvs ((cs.take i).flatten.foldl dA []) (si cs i []))(h2:((cs.take i).flatten.foldl dA []).length<=60*i):Au q a cs H i σ H2
inductive Av (q a tc:f')(cs:bc (bc Int))(c:bc Int)(H:Hp)(i j:Nat)(σ:St)(H2:Hp):Prop
 |mk (v4:kb V)(kvs:bc (aS×V))(h0:σ=[ab<|.ref q,ab<|.ref a,ab<|.int (i:Int),ab<|.ref tc,v4])(h1:HoldN H H2 a kvs ((c.take j).foldl dA<|(cs.take i).flatten.foldl dA []) (si cs i<|c.take j)):Av q a tc cs c H i j σ H2
section
variable {K:gV}
theorem wT:ax ["clauses","holders","place","clause","literal"] ["clauses"] (ah kB):=⟨rfl,rfl,rfl,by decide+kernel,rfl,by decide+kernel,by decide+kernel⟩
theorem zl(F:Fun K "holders_of" "holders_of" kB f fd)(T:Ca mg):FnOk P w K mg base bD 1 f fd ["clauses"] wS:=by
 have sc:=wT;refine F.ok wT (λvs H Q E h=>?_) λHL A outer s H vs Q E hr h=>?_
 ·obtain⟨q,xs,cs,rfl,_⟩:=h;rfl
 obtain⟨q,xs,cs,rfl,hq,hcs,hn,SO,hup,q'⟩:=h;have G':=hcs.length;have hu:=hr.units;have N':(A.deeper<|Ho "holders_of" (ah kB) s.heap.objs.size f HL).units+1 < Ir:=by lia
 refine⟨_,(af (aB (i:=1) sc.nd rfl (E8 rfl) jI)
  (af (aU Fg rfl (hJ rfl T.enumerate<|pv 0) (eF rfl<|aW (ap (i:=2) sc.nd rfl<|E8 rfl)<|aW (ap (i:=3) sc.nd rfl<|E8 rfl) dh)
   (ai (aU Fg rfl (bQ<|pv 3) (ap (i:=4) sc.nd rfl<|E8 rfl)
    (ai<|bG<|cK Fp FB FC bh (wj N' (pv 1) (pv 4) (be ae) ⟨rfl,rfl,rfl,rfl⟩)<|aa (pv 2) ae))))
  (ai<|am<|pv 1))),?_⟩
 refine λa na=>⟨_,rfl,q,rfl,⟨_,SqL.of<|ag na _ _ _ hq⟩,?_⟩;refine fJ (K:=K) (a:=q) (xs:=xs) (Au q a cs H) ⟨A',A',A',[],rfl,⟨⟨ad,rfl,λz hz=>(nomatch hz),λz _=>rfl,λy z l e=>(nomatch e)⟩,ag na _,na,λz l e=>(nomatch e)⟩,lb _⟩ ?_ ?_ ?_
 ·rintro i σ H2 _ ⟨_,_,_,_,_,hN,_⟩;exact SqL.of<|hN.sam _ _ hq
 ·rintro i x σ H2 tt hx ⟨v2,v3,v4,kvs,rfl,hN,ad7⟩ htt;have k3:=ag htt<|.tup [.int (i:Int),x];have hi:i < cs.length:=by
   have:=(ES.mp hx).1;lia
  obtain⟨tc,QV,JA,hm⟩:=dJ hcs hi;rw[hx]at QV;cases QV;have Zd:=hN.mono k3;have Qu:upd H2 tt (.tup [.int (i:Int),.ref tc]) tt=ab (.tup [.int (i:Int),.ref tc]):=ad;generalize upd H2 tt (.tup [.int (i:Int),.ref tc])=G1 at Zd Qu ⊢;have u:=hup _ hm;have hc:=SO _ hm;have Sl:=@wR cs i;have Ry:(cs.take<|i+1).flatten=(cs.take i).flatten++cs.getD i []:=by
   rw[iY<|E1 hi,List.flatten_append,List.flatten_singleton,Fo,E1 hi];rfl
  refine⟨tt,_,rfl,SqT.of Qu,rfl,_,_,rfl,_,_,rfl,rfl,?_⟩;generalize cs.getD i []=c at JA hm u hc Sl Ry;refine⟨_,rfl,tc,rfl,⟨_,SqT.of<|Zd.sam _ _ JA⟩,?_⟩;refine dU (K:=K) (a:=tc) (xs:=c.map V.int) (Av q a tc cs c H i) ⟨_,kvs,rfl,Zd⟩ ?_ ?_ ?_
  ·rintro j σ H4 _ ⟨_,_,_,QA⟩;exact SqT.of<|QA.sam _ _ JA
  ·rintro j x σ H4 hx4 ⟨w4,Q5,rfl,QA⟩;obtain⟨y,rfl,hy⟩:=cM hx4;have hj:=(ES.mp hy).1;refine fT ?_;refine⟨_,rfl,a,rfl,.inl ⟨_,.inl QA.at_.ha⟩,_,rfl,(by show 0<=sizeLine;decide),λl0 TB=>?_⟩;have Tj:=zk u hy;have Tg:=iY hy;have k5:=ag TB<|.lst [];have Kj:∀z,(si cs i (c.take j) z).length<=401:=λz=>by
    unfold si;rw[C'];have h1:=FH (λk=>(cs.getD k []).contains z)<|Fy i;rw[Gr]at h1;have h2:(if(c.take j).contains z=kz then [i]else([]:bc Nat)).length<=1:=by
     split
     ·exact lb _
     ·exact FF _
    lia
   have s24:sizeLine=16777216:=Iq;by_cases T8:y∈(c.take j).foldl dA ((cs.take i).flatten.foldl dA [])
   ·obtain⟨l,el,hl⟩:=QA.at_.val y T8;have hN5:=QA.mono k5;refine .inl ⟨.ref l,by rw[<-el];exact DGet.k (k:=.inl y) hN5.at_.ha,?_⟩;have U8:=k5 _ _ hl;refine⟨.inl ⟨rfl,_,SqL.of U8⟩,_,rfl,l,_,_,rfl,rfl,U8,by rw[ka];have:=Kj y;lia,?_⟩;have Uu:=wP (i:=i) hN5 T8 el;rw[oU Tj,<-Tg]at Uu;refine⟨_,Q5,rfl,?_⟩;rw[Tg,Il];rw[<-Tg];exact Uu
   ·have ev:=QA.at_.non y T8;have adl:Q5.length<=60*i+j:=by
     have e1:=Gg Hv QA.at_.keys;rw[ka,ka]at e1;have e2:=kC (c.take j)<|(cs.take i).flatten.foldl dA [];rw[FO]at e2;lia
    refine .inr ⟨by rw[<-ev];exact DGet.k (k:=.inl y)<|k5 _ _ QA.at_.ha,_,DPut.k (k:=.inl y) (k5 _ _ QA.at_.ha) (by lia),?_⟩;have Uu:=wQ (i:=i) QA T8 (zj (FQ hi) T8) TB;rw[oU Tj,<-Tg]at Uu;have TK:l0≠a:=λz=>by have:=QA.at_.ha;rw[<-z,TB]at this;cases this
    have Z3:upd (upd H4 l0<|.lst []) a (.dK<|cV Q5 (.inl y)<|.ref l0) l0=ab (.lst []):=by rw[al TK];exact ad
    refine⟨.inl ⟨rfl,_,SqL.of Z3⟩,_,rfl,l0,_,_,rfl,rfl,Z3,by show 0 < sizeLine;decide,?_⟩;refine⟨_,cV Q5 (.inl y)<|.ref l0,rfl,?_⟩;rw[Tg,Il];rw[<-Tg];exact Uu
  ·rintro σ H4 ⟨w4,Q5,rfl,QA⟩;have et:c.take (c.map V.int).length=c:=E3 (by rw[ka];exact lb _);rw[et]at QA;rw[Sl,<-Il,<-Ry]at QA;refine⟨_,_,_,Q5,rfl,QA,?_⟩;have:=kC c<|(cs.take i).flatten.foldl dA [];rw[Ry,Il];lia
 ·rintro σ H2 ⟨v2,v3,v4,kvs,rfl,hN,_⟩;refine⟨_,rfl,q' a kvs H2 hN.sam ?_⟩;have e:cs.take xs.length=cs:=E3 (by lia);have h1:=hN.at_;rw[e,sj,<-G']at h1;exact h1
end
abbrev gQ:Gs:=cH 44
inductive Aw (vs:bc V)(H:Hp)(Q:VK):Prop
 |mk (a:f')(kvs:bc (aS×V))(ks:bc Int)(pl:Int->bc Nat)(h0:vs=[.ref a])(h1:HoldAt H a kvs ks pl)(h2:∀v H',Same H H'->RS H' ((ks.find? λz=>!ks.contains (-z)).map Nx.pure) v->Q v H'):Aw vs H Q
def wU:Sp:=λvs H Q _=>Aw vs H Q
inductive Ax (a:f')(o:Obj)(kvs:bc (aS×V))(ks:bc Int)(H:Hp)(i:Nat)(σ:St)(H2:Hp):Prop
 |mk (v1:kb V)(h0:σ=[ab<|.ref a,v1])(h1:H2=upd H a (.frz o<|.dK kvs))(h2:∀z∈ks.take i,(!ks.contains (-z))=B'):Ax a o kvs ks H i σ H2
theorem HoldAt.key{H:Hp}{a:f'}{kvs:bc (aS×V)}{ks:bc Int}{pl:Int->bc Nat}{i:Nat}{k:aS}{v:V}(h:HoldAt H a kvs ks pl)(e:kvs[i]? =ab (k,v)):∃z,k=.inl z/\ks[i]? =ab z:=by
 have e1:(kvs.map (·.1))[i]? =ab k:=by rw[Fk,e];rfl
 rw[h.keys,Fk]at e1;obtain⟨z,e2,e3⟩:=FV.mp e1;exact⟨z,e3.symm,e2⟩
theorem HoldAt.has(h:HoldAt H a kvs ks pl)(z:Int):(bH kvs<|.inl z).isSome=ks.contains z:=by
 by_cases hz:z∈ks
 ·obtain⟨l,e,_⟩:=h.val z hz;rw[e,E5.mpr hz];rfl
 ·rw[h.non z hz,Ky.mpr λq=>hz<|E5.mp q];rfl
theorem nj{α:Type}{l:bc α}{p:α->ER}{i:Nat}{z:α}(e:l[i]? =ab z) (h:∀y∈l.take i,p y=B') (hz:p z=kz):l.find? p=ab z:=by
 have hi:=(ES.mp e).1;have e2:l=l.take i++z::l.drop (i+1):=by
  rw[<-(ES.mp e).2,Jo,Ig]
 rw[e2,Im,HC.mpr λy hy=>by rw[h y hy];exact i',Le hz];rfl
theorem iZ{α:Type}{l:bc α}{i:Nat}{z y:α}(e:l[i]? =ab z) (h:y∈l.take (i+1)):y∈l.take i\/y=z:=by
 rw[iY e]at h;exact(FN.mp h).imp id Fb.mp
theorem wV(h:a≠r):upd (upd H a x) r y=upd (upd H r y) a x:=by
 funext b
 by_cases e:b=r
 ·subst e;rw[ad,al<|GP h,ad]
 ·rw[al e];by_cases e2:b=a
  ·subst e2;rw[ad,ad]
  ·rw[al e2,al e2,al e]
section
variable {K:gV}
theorem sk:ax ["holders","literal"] ["holders"] (ah gQ):=⟨rfl,rfl,rfl,by decide+kernel,rfl,by decide+kernel,by decide+kernel⟩
theorem wW(F:Fun K "next_pure" "next_pure" gQ f fd):FnOk P w K mg base bD 1 f fd ["holders"] wU:=by
 have sc:=sk;refine F.ok sk (λvs H Q E h=>?_) λHL A outer s H vs Q E hr h=>?_
 ·obtain⟨a,kvs,ks,pl,rfl,_⟩:=h;rfl
 obtain⟨a,kvs,ks,pl,rfl,hA,q'⟩:=h;have hu:=hr.units;have N':(A.deeper<|Ho "next_pure" (ah gQ) s.heap.objs.size f HL).units+1 < Ir:=by lia
 have YV:kvs.length=ks.length:=by
  have:=Gg Hv hA.keys;rw[ka,ka]at this;exact this
 refine⟨_,(af (y0 (aU Fg rfl (yZ<|pv 0) (ap (i:=1) sc.nd rfl<|E8 rfl)
   (ai<|aJ (jD<|iE N' (dC cC<|pv 1)<|pv 0) (ai<|am<|bx<|aa bA<|aa (pv 1) ae) az)))
  (ai<|am bw)),?_⟩
 refine⟨a,kvs,hA.ha,_,rfl,a,kvs,rfl,hA.ha,λo=>?_⟩;refine wk (a:=a) (o:=o) (kvs:=kvs) (Ax a o kvs ks H) ⟨A',rfl,rfl,λz hz=>(nomatch hz)⟩ ?_ ?_ ?_
 ·rintro i σ H2 _ ⟨_,_,rfl,_⟩;exact ad
 ·rintro i k v σ H2 hk ⟨v1,rfl,rfl,JZ⟩;obtain⟨z,rfl,hz⟩:=hA.key hk;refine fT ?_;refine⟨_,rfl,_,rfl,_,rfl,a,_,rfl,.inl ⟨kvs,.inl (-z),.inr ⟨o,ad⟩,rfl,rfl⟩,_,rfl,?_⟩;have eh:=hA.has (-z);cases ev:ks.contains (-z)with
  |false=>
   rw[ev]at eh;rw[eh];refine aL ⟨_,rfl,(by show 2<=sizeLine;decide),λr Qh=>?_⟩;have ZE:a≠r:=λq=>by rw[<-q,ad]at Qh;cases Qh
   have SC:H r=none:=by rw[al<|GP ZE]at Qh;exact Qh
   have k4:=ag SC<|.tup [.str bT,.int z];refine⟨o,kvs,upd H r<|.tup [.str bT,.int z],k4 _ _ hA.ha,wV ZE,q' _ _ k4 ?_⟩;rw[nj (p:=λz=>!ks.contains (-z)) hz JZ<|by rw[ev];rfl];exact⟨r,rfl,ad⟩
  |true=>
   rw[ev]at eh;rw[eh];refine aG ⟨_,rfl,rfl,λy hy=>?_⟩;obtain q|q:=iZ hz hy
   ·exact JZ y q
   ·subst q;rw[ev];rfl
 ·rintro σ H2 ⟨v1,rfl,rfl,JZ⟩;exists o,kvs,H,hA.ha,rfl;refine q' _ _ (Same.refl _) ?_;rw[E3<|by lia]at JZ;rw[HC.mpr λz hz=>by rw[JZ z hz];exact i'];rfl
end
abbrev qO:Gs:=cH 45
def adr(kvs:bc (aS×V))(z:Int):f':=match bH kvs (.inl z)with
 |some (.ref l)=>l
 |_=>0
def Dh(kvs:bc (aS×V)):V->V
 |.int z=>.ref<|adr kvs z
 |_=>.non
inductive Di (vs:bc V)(H:Hp)(Q:VK):Prop
 |mk (a b:f')(kvs:bc (aS×V))(cs:bc (bc Int))(c:bc Int)(h0:vs=[.ref a,.ref b,.int (cs.length:Int)])(h1:HoldAt H a kvs (eK cs) (aZ cs))(h2:wu H b c)(h3:c.length<=60)(h4:cs.length<=400)(h5:∀z∈c,z∈eK cs)
  (h6:∀(l:f') (H':Hp),Same H H'->H' l=ab (.lst<|dL<|ft cs c)->Q (.ref l) H'):Di vs H Q
def Ay:Sp:=λvs H Q _=>Di vs H Q
theorem HoldAt.adr(h:HoldAt H a kvs ks pl)(hz:z∈ks):bH kvs (.inl z)=ab (.ref<|adr kvs z)/\H (adr kvs z)=ab (.lst<|dL<|pl z):=by
 obtain⟨l,e,q⟩:=h.val z hz;have:K95.adr kvs z=l:=by unfold K95.adr;rw[e]
 rw[this];exact⟨e,q⟩
section
variable {K:gV}
theorem Az:ax ["holders","literals","many"] ["holders","literals","many"] (ah qO):=⟨rfl,rfl,rfl,by decide+kernel,rfl,by decide+kernel,by decide+kernel⟩
theorem BU(F:Fun K "fewest_holders" "fewest_holders" qO f fd)(T:Ca mg):FnOk P w K mg base bD 1 f fd ["holders","literals","many"] Ay:=by
 have sc:=Az;refine F.ok Az (λvs H Q E h=>?_) λHL A outer s H vs Q E hr h=>?_
 ·obtain⟨a,b,kvs,cs,c,rfl,_⟩:=h;rfl
 obtain⟨a,b,kvs,cs,c,rfl,hA,hb,c60,UF,hk,q'⟩:=h;have hu:=hr.units;have N':(A.deeper<|Ho "fewest_holders" (ah qO) s.heap.objs.size f HL).units+1 < Ir:=by lia
 refine⟨_,(af (aJ (bO<|jG (pv 1) λ_=>rfl) (ai<|am<|ug rfl rfl T.list rfl T.range<|pv 2) az)
  (ai<|am<|y3 rfl rfl T.min rfl T.len<|bj (NY:=["literal","holders"]) (idx:=[A',ab 0]) rfl ⟨by with_unfolding_all rfl,(by with_unfolding_all exact⟨rfl,trivial⟩),λ_=>by rfl,by rfl,by rfl,by rfl,by decide⟩ (bQ<|pv 1) (λ_ _ _ _=>(ap (i:=0) (show Gd (["literal","holders"]:bc Str) by decide+kernel) rfl<|E8 rfl)) (λ_ _ _ _=>b_) λ_ _ _ _=>(g9 N' (pv 1) (pv 0) λ_ _=>rfl))),?_⟩
 exists _,rfl,!(c.map V.int).isEmpty,.inr<|.inl ⟨_,SqT.of hb,rfl⟩;cases c with
 |nil=>
  refine aL ⟨_,rfl,cs.length,rfl,by lia,λL hL=>?_⟩;exact q' L _ (ag hL _) ad
 |cons y r=>
  refine aG ?_;refine⟨_,rfl,b,rfl,⟨_,SqT.of hb⟩,λD nD=>?_⟩;refine cm [ab<|.ref a] (λ_=>kz) (Dh kvs) rfl hb nD (by rw[ka];lia) (λx hx H' R k q=>q) (λx hx _ H' R k q=>?_) ?_
  ·obtain⟨z,hz,rfl⟩:=FW.mp hx;obtain⟨e1,_⟩:=hA.adr<|hk z hz;exact⟨_,rfl,_,rfl,a,.ref<|adr kvs z,rfl,by rw[<-e1];exact DGet.k (k:=.inl z)<|k _ _ hA.ha,q⟩
  ·have ef:(((y::r).map V.int).filter λ_=>kz).map (Dh kvs)=((y::r).map<|adr kvs).map V.ref:=by
    rw[HN.mpr λ_ _=>rfl,FX,FX];rfl
   rw[ef];have k1:=ag nD<|.lst<|((y::r).map<|adr kvs).map V.ref;have s1:upd H D (.lst<|((y::r).map<|adr kvs).map V.ref) D=ab (.lst<|((y::r).map<|adr kvs).map V.ref):=ad;have Zi:=hA.mono k1;generalize upd H D (.lst<|((y::r).map<|adr kvs).map V.ref)=H1 at k1 s1 Zi ⊢;refine⟨D,(y::r).map<|adr kvs,((y::r).map<|aZ cs).map Hv,rfl,SqL.of s1,(by simp),⟨by simp,λi a' ha=>?_⟩,λa' ha=>?_⟩
   ·rw[Fk]at ha;obtain⟨z,hz,rfl⟩:=FV.mp ha;obtain⟨_,e2⟩:=Zi.adr<|hk z<|Fd hz;exists _,SqL.of e2;rw[Fk,Fk,hz,ka];rfl
   ·rw[Fk]at ha;obtain⟨z,hz,rfl⟩:=FV.mp ha;obtain⟨_,e2⟩:=Zi.adr<|hk z<|Fd hz;refine q' _ _ k1 ?_;rw[e2];unfold ft;rw[E7 (by simp),Fo,Fk,hz];rfl
end
abbrev i8:Gs:=cH 46
inductive wX (vs:bc V)(H:Hp)(Q:VK):Prop
 |mk (q a:f')(xs:bc V)(cs:bc (bc Int))(kvs:bc (aS×V))(h0:vs=[.ref q,.ref a])(h1:H q=ab (.lst xs))(h2:CLs H cs xs)(h3:cs.length<=400)(h4:∀c∈cs,c.length<=60)(h5:HoldAt H a kvs (eK cs) (aZ cs))
  (h6:∀v H',Same H H'->RS H' (fP cs) v->Q v H'):wX vs H Q
def sq:Sp:=λvs H Q _=>wX vs H Q
inductive wY (q a:f')(cs:bc (bc Int))(H:Hp)(j:Nat)(σ:St)(H2:Hp):Prop
 |mk (v2 v3 v4:kb V)(h0:σ=[ab<|.ref q,ab<|.ref a,v2,v3,v4])(h1:Same H H2)(h2:∀k,k < j->sf cs k=A'):wY q a cs H j σ H2
inductive qP (q a tc:f')(cs:bc (bc Int))(H:Hp)(j:Nat)(ns:bc Nat)(i:Nat)(σ:St)(H2:Hp):Prop
 |mk (v4:kb V)(h0:σ=[ab<|.ref q,ab<|.ref a,ab<|.int (j:Int),ab<|.ref tc,v4])(h1:Same H H2)(h2:∀k∈ns.take i,ku cs j k=B'):qP q a tc cs H j ns i σ H2
theorem wZ{ns:bc Nat}{i:Nat}{x:V}(h:(dL ns)[i]? =ab x):∃n:Nat,x=.int (n:Int)/\ns[i]? =ab n:=by
 unfold dL at h;rw[Fk]at h;obtain⟨n,e,rfl⟩:=FV.mp h;exact⟨n,rfl,e⟩
section
variable {K:gV}
theorem sr:ax ["clauses","holders","within","literals","place"] ["clauses","holders"] (ah i8):=⟨rfl,rfl,rfl,by decide+kernel,rfl,by decide+kernel,by decide+kernel⟩
theorem w9(F:Fun K "next_within" "next_within" i8 f fd)(T:Ca mg)(Nq:Fn P w K mg base 1 "fewest_holders" g1 e1 ["holders","literals","many"] Ay)(Me:Fn P w K mg base 1 "holds_all" g2 e2 ["clause","literals"] mZ):FnOk P w K mg base bD 2 f fd ["clauses","holders"] sq:=by
 have sc:=sr;refine F.ok sr (λvs H Q E h=>?_) λHL A outer s H vs Q E hr h=>?_
 ·obtain⟨q,a,xs,cs,kvs,rfl,_⟩:=h;rfl
 obtain⟨q,a,xs,cs,kvs,rfl,hq,hcs,UF,c60,hA,q'⟩:=h;have hu:=hr.units;have G':=hcs.length;refine⟨_,(af (aU Fg rfl (hJ rfl T.enumerate<|pv 0) (eF rfl<|aW (ap (i:=2) sc.nd rfl<|E8 rfl)<|aW (ap (i:=3) sc.nd rfl<|E8 rfl) dh)
   (ai (aU Fg rfl (bi<|aC Nq hr (by lia) rfl<|aa (pv 1)<|aa (pv 3)<|aa (aq aH rfl T.len Fj<|aa (pv 0) ae) ae) (ap (i:=4) sc.nd rfl<|E8 rfl)
    (ai<|aJ (PW.pt<|fb (aD (gK hu) (pv 4) (pv 2)<|ay _)<|du<|aP<|aC Me hr (by lia) rfl<|aa (aA av (pv 0) (pv 4) λ_ _=>rfl)<|aa (pv 3) ae) (ai<|am<|bx<|aa bA<|aa (pv 4)<|aa (pv 2) ae) az))))
  (ai<|am bw)),?_⟩
 exists _,rfl,q,rfl,⟨_,SqL.of hq⟩;refine fJ (K:=K) (a:=q) (xs:=xs) (wY q a cs H) ⟨A',A',A',rfl,Same.refl _,λ_ h=>absurd h<|Lj _⟩ ?_ ?_ ?_
 ·rintro j σ H2 _ ⟨_,_,_,_,k,_⟩;exact SqL.of<|k _ _ hq
 ·rintro j x σ H2 tt hx ⟨v2,v3,v4,rfl,k2,JZ⟩ htt;have k3:=ag htt<|.tup [.int (j:Int),x];have kk:=k2.trans k3;have hj:j < cs.length:=by
   have:=(ES.mp hx).1;lia
  obtain⟨tc,QV,JA,hm⟩:=dJ hcs hj;rw[hx]at QV;cases QV;have Qu:upd H2 tt (.tup [.int (j:Int),.ref tc]) tt=ab (.tup [.int (j:Int),.ref tc]):=ad;generalize upd H2 tt (.tup [.int (j:Int),.ref tc])=G1 at kk Qu ⊢;exists tt,_,rfl,SqT.of Qu,rfl,_,_,rfl,_,_,rfl,rfl;have Zm:=c60 _ hm;exists _,rfl,_,rfl,_,rfl,.ref q,_,rfl,.inl ⟨_,SqL.of<|kk _ _ hq,rfl⟩;rw[<-G'];refine⟨a,tc,kvs,cs,cs.getD j [],rfl,hA.mono kk,kk _ _ JA,Zm,UF,λz hz=>mem_keys.mpr ⟨_,hm,hz⟩,λl H4 k4 Q6=>⟨l,rfl,⟨_,SqL.of Q6⟩,?_⟩⟩;have k14:=kk.trans k4;have Q7:∀i,(ft cs<|cs.getD j []).find? (ku cs j)=ab i->fP cs=ab (.within i j):=λi e=>fq hj JZ (by unfold sf;rw[e];rfl);refine cw (K:=K) (a:=l) (xs:=dL<|ft cs<|cs.getD j []) (qP q a tc cs H4 j<|ft cs<|cs.getD j []) ⟨_,rfl,Same.refl _,λk hk=>(nomatch hk)⟩ ?_ ?_ ?_
  ·rintro i σ H5 _ ⟨_,_,k,_⟩;exact SqL.of<|k _ _ Q6
  ·rintro i x σ H5 hx5 ⟨w4,rfl,k5,NF⟩;obtain⟨n,rfl,hn⟩:=wZ hx5;have YR:=wM<|Fd hn;obtain⟨tn,UW,htn,hmn⟩:=dJ hcs YR;have k15:=k14.trans k5;refine fT ?_;have stay:ku cs j n=B'->qP q a tc cs H4 j (ft cs<|cs.getD j []) (i+1) [ab<|.ref q,ab<|.ref a,ab<|.int (j:Int),ab<|.ref tc,ab<|.int (n:Int)] H5:=λe=>by
    refine⟨_,rfl,k5,λk hk=>?_⟩;obtain z|z:=iZ hn hk
    ·exact NF k z
    ·subst z;exact e
   refine⟨_,rfl,_,rfl,.inl ⟨rfl,_,rfl,?_⟩⟩;by_cases Vf:n=j
   ·refine Ee (by rw[Vf])<|aG<|stay ?_;unfold ku;rw[E2 Vf];rfl
   ·rw[E_ λz:V.int (n:Int)=V.int (j:Int)=>Vf (by have:=V.int.inj z;lia)];refine aL ?_;refine⟨_,rfl,_,rfl,.inl ⟨q,xs,(n:Int),.ref tn,rfl,rfl,SqL.of<|k15 _ _ hq,bf UW,_,rfl,tn,tc,_,_,rfl,k15 _ _ htn,k15 _ _ JA,_,rfl,?_⟩⟩;cases ew:((cs.getD j []).all λz=>(cs.getD n []).contains z)with
    |false=>
     refine aG<|stay ?_;unfold ku;rw[ew,LP]
    |true=>
     refine aL ⟨_,rfl,_,rfl,(by show 3<=sizeLine;decide),λr Qh=>?_⟩;have k6:=ag Qh<|.tup [.str bd,.int (n:Int),.int (j:Int)];refine q' _ _ (k15.trans k6) ?_;rw[Q7 n<|nj hn NF<|by unfold ku;rw[ew,E_ Vf];rfl];exact⟨r,rfl,ad⟩
  ·rintro σ H5 ⟨w4,rfl,k5,NF⟩;refine⟨_,_,_,rfl,k14.trans k5,λk hk=>?_⟩;by_cases e:k < j
   ·exact JZ k e
   ·have:k=j:=by lia
    subst this;rw[E3<|by rw[ka];exact lb _]at NF;unfold sf;rw[HC.mpr λz hz=>by rw[NF z hz];exact i'];rfl
 ·rintro σ H2 ⟨v2,v3,v4,rfl,k2,JZ⟩;rw[<-G']at JZ;exact q' _ _ k2 (by unfold fP;rw[first_none.mpr JZ];rfl)
end
abbrev kE:Gs:=cH 47
inductive AA (vs:bc V)(H:Hp)(Q:VK):Prop
 |mk (p q a:f')(t:Str)(xs:bc V)(cs:bc (bc Int))(kvs:bc (aS×V))(h0:vs=[.ref p,.ref a])(h1:SentAt H p q t xs cs)(h5:HoldAt H a kvs (eK cs) (aZ cs))
  (h6:∀v H',Same H H'->RS H' (jC t cs) v->Q v H'):AA vs H Q
def w_:Sp:=λvs H Q _=>AA vs H Q
theorem qQ(cs:bc (bc Int))(z:Int):(aZ cs z).map (λi=>cs.getD i [])=cs.filter λc=>c.contains z:=by
 have e:cs=(Fy cs.length).map λi=>cs.getD i []:=by
  refine List.ext_getElem (by simp) λi h1 h2=>?_;rw[Ni,List.getElem_range,Fo,E1 h1];rfl
 unfold aZ
 conv=>rhs;rw[e]
 rw[IQ];rfl
theorem xa(h:CLs H cs xs):∀{ns:bc Nat},(∀n∈ns,n < cs.length)->CLs H (ns.map λi=>cs.getD i []) (ns.map λi=>xs.getD i .non)
 |[],_=>.nil
 |n::r,hn=>by
  obtain⟨tc,hx,JA,_⟩:=dJ h<|hn n Fz;refine Paired.cons ⟨tc,?_,JA⟩<|xa h λm hm=>hn m<|Fx _ hm;show xs.getD n .non=.ref tc
  rw[Fo,hx];rfl
theorem zm(h:CLs H cs xs)(z:Int):CLs H (cs.filter λc=>c.contains z) ((aZ cs z).map λi=>xs.getD i .non):=by
 rw[<-qQ];exact xa h λn hn=>(mem_places.mp hn).1
def xb(t:Str):V->ER
 |.int z=>cr t z
 |_=>B'
theorem oV(t:Str):∀c:bc Int,((c.map V.int).filter<|xb t).map id=(c.filter<|cr t).map V.int
 |[]=>rfl
 |z::r=>by
  have ih:=oV t r;rw[Qe]at ih ⊢;rw[FA];by_cases h:cr t z=kz
  ·rw[FJ (p:=xb t) (a:=V.int z) h,FJ h,FA,ih]
  ·rw[FP (p:=xb t) (a:=V.int z) h,FP h,ih]
def En(xs:bc V):V->V
 |.int n=>xs.getD n.toNat .non
 |_=>.non
theorem zn(xs:bc V)(ns:bc Nat):((dL ns).filter λ_=>kz).map (En xs)=ns.map λi=>xs.getD i .non:=by
 rw[HN.mpr λ_ _=>rfl];unfold dL;rw[FX];rfl
inductive AB (p q a:f')(t:Str)(cs:bc (bc Int))(H:Hp)(i:Nat)(σ:St)(H2:Hp):Prop
 |mk (v3 v4 v5 v6:kb V)(h0:σ=[ab<|.ref p,ab<|.ref a,ab<|.ref q,v3,v4,v5,v6])(h1:Same H H2)(h2:∀k,k < i->zh t cs k=A'):AB p q a t cs H i σ H2
inductive AC (p q a tc:f')(t:Str)(cs:bc (bc Int))(zs:bc Int)(H:Hp)(i j:Nat)(σ:St)(H2:Hp):Prop
 |mk (v5 v6:kb V)(h0:σ=[ab<|.ref p,ab<|.ref a,ab<|.ref q,ab<|.int (i:Int),ab<|.ref tc,v5,v6])(h1:Same H H2)(h2:∀z∈zs.take j,dI t cs i z=B'):AC p q a tc t cs zs H i j σ H2
section
variable {K:gV}
theorem xc:ax ["sentence","holders","clauses","place","clause","literal","opposed"] ["sentence","holders"] (ah kE):=⟨rfl,rfl,rfl,by decide+kernel,rfl,by decide+kernel,by decide+kernel⟩
theorem zo(F:Fun K "next_blocked" "next_blocked" kE f fd)(T:Ca mg)(J9:Fn P w K mg base 2 "is_of" g1 e1 ["sentence","literal","hand"] gN)(Lw:Fn P w K mg base 2 "is_blocked" g2 e2 ["clause","literal","opposed"] qG):FnOk P w K mg base bD 3 f fd ["sentence","holders"] w_:=by
 have sc:=xc;refine F.ok xc (λvs H Q E h=>?_) λHL A outer s H vs Q E hr h=>?_
 ·obtain⟨p,q,a,t,xs,cs,kvs,rfl,_⟩:=h;rfl
 obtain⟨p,q,a,t,xs,cs,kvs,rfl,S,hA,q'⟩:=h;have hu:=hr.units;have N':(A.deeper<|Ho "next_blocked" (ah kE) s.heap.objs.size f HL).units+1 < Ir:=by lia
 have G':=S.hcs.length;have ht:=S.ht;have Z1:=S.hn;refine⟨_,(af (aB (i:=2) sc.nd rfl (Ie rfl)<|aA av (pv 0) aj λ_ _=>rfl)
  (af (aU Fg rfl (hJ rfl T.enumerate<|pv 2) (eF rfl<|aW (ap (i:=3) sc.nd rfl<|E8 rfl)<|aW (ap (i:=4) sc.nd rfl<|E8 rfl) dh)
   (ai (aU Fg rfl (bi<|bj (NY:=["literal","sentence"]) (idx:=[A',ab 0]) rfl ⟨by with_unfolding_all rfl,(by with_unfolding_all exact⟨rfl,trivial⟩),λ_=>by rfl,by rfl,by rfl,by rfl,by decide⟩ (bQ<|pv 4) (λ_ _ _ _=>(ap (i:=0) (show Gd (["literal","sentence"]:bc Str) by decide+kernel) rfl<|E8 rfl)) (λ_ _ _ _=>(ca<|aP<|aC J9 hr (by lia) rfl<|aa (pv 1)<|aa (pv 0)<|aa (ba rfl T.g_WISHER) ae)) λ_ _ _ _=>(pv 0)) (ap (i:=5) sc.nd rfl<|E8 rfl)
    (af (cY (i:=6) sc.nd rfl rfl (NY:=["other","clauses"]) (idx:=[A',ab 2]) rfl ⟨by with_unfolding_all rfl,(by with_unfolding_all exact⟨rfl,trivial⟩),λ_=>by rfl,by rfl,by rfl,by rfl,by decide⟩ (bi<|vn N' (pv 1) (dC cC<|pv 5) (be ae) ⟨rfl,rfl,rfl,rfl⟩) (λ_ _ _ _=>(ap (i:=0) (show Gd (["other","clauses"]:bc Str) by decide+kernel) rfl<|E8 rfl)) (λ_ _ _ _=>b_) (λ_ _ _ _=>(aA (bR (K:=K) rfl) (pv 1) (pv 0) λ_ _=>rfl))<|by with_unfolding_all rfl)
    (ai<|aJ (aP<|aC Lw hr (by lia) rfl<|aa (pv 4)<|aa (pv 5)<|aa (pv 6) ae) (ai<|am<|bx<|aa bA<|aa (pv 3)<|aa (pv 5) ae) az)))))
  (ai<|am bw))),?_⟩
 refine⟨_,rfl,.inr<|.inl ⟨p,_,1,.ref q,rfl,rfl,SqT.of S.hp,rfl,?_⟩⟩;refine⟨_,rfl,q,rfl,⟨_,SqL.of S.hq⟩,?_⟩;refine fJ (K:=K) (a:=q) (xs:=xs) (AB p q a t cs H) ⟨A',A',A',A',rfl,Same.refl _,λ_ h=>absurd h<|Lj _⟩ ?_ ?_ ?_
 ·rintro i σ H2 _ ⟨_,_,_,_,_,k,_⟩;exact SqL.of<|k _ _ S.hq
 ·rintro i x σ H2 tt hx ⟨v3,v4,v5,v6,rfl,k2,JZ⟩ htt;have k3:=ag htt<|.tup [.int (i:Int),x];have kk:=k2.trans k3;have hi:i < cs.length:=by
   have:=(ES.mp hx).1;lia
  obtain⟨tc,QV,JA,hm⟩:=dJ S.hcs hi;rw[hx]at QV;cases QV;have Qu:upd H2 tt (.tup [.int (i:Int),.ref tc]) tt=ab (.tup [.int (i:Int),.ref tc]):=ad;generalize upd H2 tt (.tup [.int (i:Int),.ref tc])=G1 at kk Qu ⊢;refine⟨tt,_,rfl,SqT.of Qu,rfl,_,_,rfl,_,_,rfl,rfl,?_⟩;have c60:=S.hc _ hm;have QU:=S.hok _ hm;have Rm:=kk _ _ JA;have S1:=S.mono kk;have Q7:∀z,((cs.getD i []).filter<|cr t).find? (λz=>dI t cs i z)=ab z->jC t cs=ab (.blocked i z):=λz e=>fq hi JZ (by unfold zh;rw[e];rfl);refine⟨_,rfl,tc,rfl,⟨_,SqT.of Rm⟩,λD nD=>?_⟩;refine cm [ab<|.ref p] (xb t) id rfl Rm nD (by rw[ka];lia) (λx hx H' R k r=>?_) (λx hx _ H' R k r=>⟨_,rfl,r⟩) ?_
  ·obtain⟨z,hz,rfl⟩:=FW.mp hx;have hl:=QU z hz;refine⟨_,rfl,_,rfl,p,t,.ref q,z,kz,rfl,k _ _ S1.hp,(by lia),hl.1,hl.2,_,rfl,?_⟩;have e:(cr t z == kz)=xb t (.int z):=by
    show _=cr t z
    cases cr t z<;>rfl
   rw[e];exact r
  rw[oV];have kD:=ag nD<|.lst<|((cs.getD i []).filter<|cr t).map V.int;have sD:upd G1 D (.lst<|((cs.getD i []).filter<|cr t).map V.int) D=ab (.lst<|((cs.getD i []).filter<|cr t).map V.int):=ad;have Yu:=kk.trans kD;generalize upd G1 D (.lst<|((cs.getD i []).filter<|cr t).map V.int)=G2 at kD sD Yu ⊢;refine⟨D,rfl,⟨_,SqL.of sD⟩,?_⟩;refine cw (K:=K) (a:=D) (xs:=((cs.getD i []).filter<|cr t).map V.int) (AC p q a tc t cs ((cs.getD i []).filter<|cr t) G2 i) ⟨_,_,rfl,Same.refl _,λk hk=>(nomatch hk)⟩ ?_ ?_ ?_
  ·rintro j σ H5 _ ⟨_,_,_,k,_⟩;exact SqL.of<|k _ _ sD
  ·rintro j x σ H5 hx5 ⟨w5,w6,rfl,k5,NF⟩;obtain⟨z,rfl,hz⟩:=cM hx5;obtain⟨Sz,hzo⟩:=Gf.mp<|Fd hz;have k15:=Yu.trans k5;refine fT ?_;refine⟨_,rfl,a,rfl,.inl ⟨_,.inl<|k15 _ _ hA.ha⟩,_,rfl,_,rfl,(by show 0<=sizeLine;decide),λl0 TB=>?_⟩;have k6:=ag TB<|.lst [];have Ud:upd H5 l0 (.lst []) l0=ab (.lst []):=ad;have k16:=k15.trans k6;have Vd:=hA.mono k16;generalize upd H5 l0 (.lst [])=H6 at k6 Ud k16 Vd ⊢;have hl:∃l:f',(bH kvs<|.inl (-z)).getD (.ref l0)=.ref l/\H6 l=ab (.lst<|dL<|aZ cs (-z)):=by
    by_cases hk:-z∈eK cs
    ·obtain⟨e1,e2⟩:=Vd.adr hk;exact⟨_,by rw[e1];rfl,e2⟩
    ·refine⟨l0,by rw[Vd.non _ hk];rfl,?_⟩;have:aZ cs (-z)=[]:=Jp.mpr λn hn q=>hk<|mem_keys.mpr ⟨_,qJ<|FZ.mp hn,E5.mp q⟩;rw[this];exact Ud
   obtain⟨l,el,hl⟩:=hl;refine⟨_,DGet.k (k:=.inl (-z)) Vd.ha,?_⟩;rw[el];refine⟨l,rfl,⟨_,SqL.of hl⟩,λD2 TM=>?_⟩;have Tt:(dL<|aZ cs (-z)).length<=900:=by
    rw[ka];have:=FH (λi=>(cs.getD i []).contains (-z))<|Fy cs.length;rw[Gr]at this;unfold aZ;lia
   refine df [ab<|.ref q] (λ_=>kz) (En xs) rfl hl TM (FM Tt<|by decide) (λx hx H' R k r=>r) (λx hx _ H' R k r=>?_) ?_
   ·obtain⟨n,hn,rfl⟩:=FW.mp hx;have YR:=(mem_places.mp hn).1;obtain⟨tn,UW,_,_⟩:=dJ S.hcs YR;refine⟨_,rfl,_,rfl,.inl ⟨q,xs,(n:Int),.ref tn,rfl,rfl,SqL.of<|k _ _<|k16 _ _ S.hq,bf UW,?_⟩⟩;have e:En xs (.int (n:Int))=.ref tn:=by
     show xs.getD (n:Int).toNat .non=_
     rw[Jv,Fo,UW];rfl
    rw[<-e];exact r
   rw[zn];have k7:=ag TM<|.lst<|(aZ cs (-z)).map λi=>xs.getD i .non;have s7:upd H6 D2 (.lst<|(aZ cs (-z)).map λi=>xs.getD i .non) D2=ab (.lst<|(aZ cs (-z)).map λi=>xs.getD i .non):=ad;have k17:=k16.trans k7;have k57:=k5.trans<|k6.trans k7;generalize upd H6 D2 (.lst<|(aZ cs (-z)).map λi=>xs.getD i .non)=H7 at k7 s7 k17 k57 ⊢;have eb:((cs.filter λc=>c.contains (-z)).all λk=>cR (cs.getD i []) z k)=dI t cs i z:=by
    unfold dI;rw[E5.mpr Sz,hzo];rfl
   refine⟨_,rfl,_,rfl,_,rfl,tc,D2,cs.getD i [],z,_,_,rfl,k17 _ _ JA,s7,zm (S.hcs.mono k17) (-z),_,rfl,?_⟩;rw[eb];cases ew:dI t cs i z with
   |false=>
    refine aG ⟨_,_,rfl,k57,λy hy=>?_⟩;obtain q1|q1:=iZ hz hy
    ·exact NF y q1
    ·subst q1;exact ew
   |true=>
    refine aL ⟨_,rfl,_,rfl,(by show 3<=sizeLine;decide),λr Qh=>?_⟩;have k8:=ag Qh<|.tup [.str aR,.int (i:Int),.int z];refine q' _ _ (k17.trans k8) ?_;rw[Q7 z<|nj hz NF ew];exact⟨r,rfl,ad⟩
  ·rintro σ H5 ⟨w5,w6,rfl,k5,NF⟩;refine⟨_,_,_,_,rfl,Yu.trans k5,λk hk=>?_⟩;by_cases e:k < i
   ·exact JZ k e
   ·have:k=i:=by lia
    subst this;rw[E3<|by rw[ka];exact lb _]at NF;unfold zh;rw[HC.mpr λz hz=>by rw[NF z hz];exact i'];rfl
 ·rintro σ H2 ⟨v3,v4,v5,v6,rfl,k2,JZ⟩;rw[<-G']at JZ;exact q' _ _ k2 (by unfold jC;rw[first_none.mpr JZ];rfl)
end
abbrev ma:Gs:=cH 49
structure Dj (mg:Str->kb j'):Prop where
 abs:mg "abs"=A'
 dict:mg "dict"=A'
 tuple:mg "tuple"=A'
 g_WISHER:gF mg "WISHER" (.str<|ET "wisher")
 g_SPOILER:gF mg "SPOILER" (.str<|ET "spoiler")
inductive LvAt (H:Hp)(v:V):Prop
 |mk (te lf:f')(c:bc Int)(b:ER)(e:v=.ref te)(h1:H te=ab (.tup [.ref lf,.bl b]))(h2:H lf=ab (.tup<|c.map V.int))(h3:c.length<=900)(h4:∀l∈c,1<=ao l):LvAt H v
theorem LvAt.mono(h:LvAt H v)(k:Same H H'):LvAt H' v:=by
 obtain⟨te,lf,c,b,e,h1,h2,h3,h4⟩:=h;exact⟨te,lf,c,b,e,k _ _ h1,k _ _ h2,h3,h4⟩
theorem LvAt.but(h:LvAt H v)(hD:H D=ab (.lst ys)):LvAt (upd H D<|.lst zs) v:=by
 obtain⟨te,lf,c,b,e,h1,h2,h3,h4⟩:=h;exact⟨te,lf,c,b,e,by rw[al λz=>by rw[z,hD]at h1;cases h1];exact h1,by rw[al λz=>by rw[z,hD]at h2;cases h2];exact h2,h3,h4⟩
theorem Eo(c:bc Int)(hd:H dp=ab (.dK []))(h1:H pr=ab (.tup [.ref e,.bl b]))(h2:H e=ab (.tup<|c.map V.int))(h3:c.length<=900)(h4:∀l∈c,1<=ao l):∀kv∈[(k,V.ref pr)],LvAt (upd H dp<|.dK [(k,V.ref pr)]) kv.2:=λkv h=>by
 rw[Fb.mp h];exact⟨pr,e,c,b,rfl,by rw[al λz=>by rw[z,hd]at h1;cases h1];exact h1,by rw[al λz=>by rw[z,hd]at h2;cases h2];exact h2,h3,h4⟩
theorem uC(p:V->ER)(c:bc Int):((c.map V.int).filter p).map id=(c.filter λl=>p<|.int l).map V.int:=by
 rw[Qe,IQ];rfl
inductive AD (vs:bc V)(H:Hp)(Q:VK):Prop
 |mk (p q:f')(t:Str)(xs:bc V)(cs:bc (bc Int))(v:V)(s:Nx)(hw:ER)(h0:vs=[.ref p,v,.str<|aN hw])(h1:SentAt H p q t xs cs)(hu:∀c∈cs,uW c)(h2:RD H s.d v)(h3:ng t cs s)
  (h4:∀(a:f') (kvs:bc (aS×V)) (H':Hp),Same H H'->H a=A'->H' a=ab (.dK kvs)->(∀kv∈kvs,LvAt H' kv.2)->Q (.ref a) H'):AD vs H Q
def xf:Sp:=λvs H Q _=>AD vs H Q
structure PrsAt (H:Hp)(ts:bc f')(kvs:bc (aS×V)):Prop where
 len:ts.length=kvs.length
 at_:∀(j:Nat) (t:f') (k:aS) (v:V),ts[j]? =ab t->kvs[j]? =ab (k,v)->H t=ab (.tup [kV k,v])
inductive Dk (H1:Hp)(D lf:f')(c left:bc Int)(i:Nat)(σ:St)(ys:bc V)(H2:Hp):Prop
 |mk (v0:kb V)(ts:bc f')(kvs:bc (aS×V))(h0:σ=[v0,ab (.ref lf)])(h1:H2 D=ab (.lst ys))(h2:Same H1 H2)(h3:ys=ts.map V.ref)(h4:PrsAt H2 ts kvs)(h5:kvs.map (·.1)=((c.take i).filter λl=>!left.contains l).map λl=>(FS (ao l):aS))(h6:∀kv∈kvs,LvAt H2 kv.2):Dk H1 D lf c left i σ ys H2
theorem PrsAt.but(h:PrsAt H ts kvs)(hD:H D=ab (.lst ys)):PrsAt (upd H D<|.lst zs) ts kvs:=
 ⟨h.len,λj t k v e1 e2=>by
  have:=h.at_ j t k v e1 e2;rw[al λz=>by rw[z,hD]at this;cases this];exact this⟩
theorem PrsAt.mono(h:PrsAt H ts kvs)(k:Same H H'):PrsAt H' ts kvs:=⟨h.len,λj t kk v e1 e2=>k _ _<|h.at_ j t kk v e1 e2⟩
theorem PrsAt.snoc(h:PrsAt H ts kvs)(ht:H t=ab (.tup [kV k,v])):PrsAt H (ts++[t]) (kvs++[(k,v)]):=
 ⟨by rw[C',C',h.len];rfl,λj t' k' v' e1 e2=>by
  by_cases hj:j < ts.length
  ·rw[Ga hj]at e1;rw[Ga<|by rw[<-h.len];exact hj]at e2;exact h.at_ j t' k' v' e1 e2
  ·rw[F0<|by lia]at e1;rw[F0 (by have:=h.len;lia),<-h.len]at e2;have e0:j - ts.length=0:=by
    have:=(ES.mp e1).1;simp at this;lia
   rw[e0]at e1 e2;cases e1;cases e2;exact ht⟩
theorem uD(u:uW c)(f:Int->ER):((c.filter f).map λl=>(FS (ao l):aS)).Nodup:=by
 have h:(c.filter f).Pairwise λa b=>ao a < ao b:=by
  have h1:c.Pairwise λa b=>ao a < ao b:=Ku.mp u;exact h1.sublist L9
 refine Ku.mpr<|h.imp λ{a b} hab z=>?_;have:=GR z;lia
section
variable {K:gV}
theorem xg:ax ["sentence","step","hand","clauses","clause","left","literal","lesser"] ["sentence","step","hand"] (ah ma):=⟨rfl,rfl,rfl,by decide+kernel,rfl,by decide+kernel,by decide+kernel⟩
theorem zp(F:Fun K "own_values" "own_values" ma f fd)(T:Dj mg)(NN:Fn P w K mg base 3 "dropped" g1 e1 ["sentence","hand","literals"] gP)(J9:Fn P w K mg base 2 "is_of" g2 e2 ["sentence","literal","hand"] gN):FnOk P w K mg base bD 4 f fd ["sentence","step","hand"] xf:=by
 have sc:=xg;refine F.ok xg (λvs H Q E h=>?_) λHL A outer s H vs Q E hr h=>?_
 ·obtain⟨p,q,t,xs,cs,v,s,hw,rfl,_⟩:=h;rfl
 obtain⟨p,q,t,xs,cs,v,s,hw,rfl,S,Rl,hd,hok,q'⟩:=h;have hu:=hr.units;obtain⟨b,rfl,hb⟩:=wO hd;have ht:=S.ht;refine⟨_,(af (aB (i:=3) sc.nd rfl (E8 rfl)<|aA av (pv 0) aj λ_ _=>rfl)
  (af (aJ (PW.pt<|fb (aD (aK hu) (aA av (pv 1) aj λ_ _=>rfl) bA<|ay _)<|du<|aD (aK hu) (pv 2) (ba rfl T.g_SPOILER)<|ay _) (af (aB (i:=4) sc.nd rfl (E8 rfl)<|aA av (pv 3) (aA av (pv 1) aj λ_ _=>rfl) λ_ _=>rfl)
   (af (aB (i:=5) sc.nd rfl (Ie rfl)<|aC NN hr (by lia) rfl<|aa (pv 0)<|aa (ba rfl T.g_SPOILER)<|aa (pv 4) ae)
   (ai<|am<|bn (gM rfl) rfl T.dict Jm<|aa (bj (NY:=["literal","left"]) (idx:=[A',ab 5]) rfl ⟨by with_unfolding_all rfl,(by with_unfolding_all exact⟨rfl,trivial⟩),λ_=>by rfl,by rfl,by rfl,by rfl,by decide⟩ (bQ<|pv 4) (λ_ _ _ _=>(ap (i:=0) (show Gd (["literal","left"]:bc Str) by decide+kernel) rfl<|E8 rfl)) (λ_ _ _ _=>(ca<|aD (kQ (K:=K) rfl) (pv 0) (pv 1)<|by with_unfolding_all rfl)) λ_ _ _ _=>(bx<|aa (aq br rfl T.abs FG<|aa (pv 0) ae)<|aa (bx<|aa (pv 1)<|aa (aM kZ (pv 0) aj<|ay _) ae) ae)) ae))) az)
  (af (aJ (PW.pt<|fb (aD (aK hu) (aA av (pv 1) aj λ_ _=>rfl) bA<|ay _)<|du<|aD (aK hu) (pv 2) (ba rfl T.g_WISHER)<|ay _) (af (aB (i:=6) sc.nd rfl (E8 rfl)<|aA av (aA av (pv 3) (aA av (pv 1) aj λ_ _=>rfl) λ_ _=>rfl) aj λ_ _=>rfl)
   (ai<|am<|kh (aq br rfl T.abs FG<|aa (pv 6) ae)<|bx<|aa (bx ae)<|aa (aM fF (pv 6) aj<|ay _) ae)) az)
  (af (aJ (PW.pt<|fb (aD (aK hu) (aA av (pv 1) aj λ_ _=>rfl) bA<|ay _)<|du<|aP<|aC J9 hr (by lia) rfl<|aa (pv 0)<|aa (aA av (pv 1) aj λ_ _=>rfl)<|aa (pv 2) ae) (ai<|am<|kh (aq br rfl T.abs FG<|aa (aA av (pv 1) aj λ_ _=>rfl) ae)<|bx<|aa (bx ae)<|aa (aM (aK hu) (aM fF (aA av (pv 1) aj λ_ _=>rfl) aj<|ay _) (aM (aK hu) (pv 2) (ba rfl T.g_WISHER)<|ay _)<|ay _) ae) az)
  (af (aJ (PW.pt<|fb (aD (aK hu) (aA av (pv 1) aj λ_ _=>rfl) bA<|ay _)<|du<|aD (aK hu) (pv 2) (ba rfl T.g_WISHER)<|ay _) (af (cY (i:=7) sc.nd rfl rfl (NY:=["literal","step"]) (idx:=[A',ab 1]) rfl ⟨by with_unfolding_all rfl,(by with_unfolding_all exact⟨rfl,trivial⟩),λ_=>by rfl,by rfl,by rfl,by rfl,by decide⟩ (bQ<|aA av (pv 3) (aA av (pv 1) aj λ_ _=>rfl) λ_ _=>rfl) (λ_ _ _ _=>(ap (i:=0) (show Gd (["literal","step"]:bc Str) by decide+kernel) rfl<|E8 rfl)) (λ_ _ _ _=>(ca<|aD kZ (aq br rfl T.abs FG<|aa (pv 0) ae) (aq br rfl T.abs FG<|aa (aA (bR (K:=K) rfl) (pv 1) aj λ_ _=>rfl) ae)<|ay _)) (λ_ _ _ _=>(pv 0))<|by with_unfolding_all rfl)
   (ai<|am<|kh (aq br rfl T.abs FG<|aa (aA av (pv 1) aj λ_ _=>rfl) ae)<|bx<|aa (bn bW rfl T.tuple GE<|aa (pv 7) ae)<|aa (aM fF (aA av (pv 1) aj λ_ _=>rfl) aj<|ay _) ae)) az)
  (ai<|am jI)))))),?_⟩
 refine⟨_,rfl,.inr<|.inl ⟨p,_,1,.ref q,rfl,rfl,SqT.of S.hp,rfl,?_⟩⟩;have empty:∀H1,Same H H1->∀a,H1 a=A'->Q (.ref a) (upd H1 a<|.dK []):=λH1 k a na=>q' a [] _ (k.trans<|ag na _) (k.free na) ad (λ_ z=>nomatch z);have wd:∀x y,x≠y->decide (V.str x=V.str y)=false:=λx y h=>E_ λz=>h<|V.str.inj z;have Mx:∀{kvs:bc (aS×V)} {H1:Hp} {a:f'},Same H H1->H a=A'->(∀kv∈kvs,LvAt (upd H1 a<|.dK kvs) kv.2)->Q (.ref a) (upd H1 a<|.dK kvs):=λ{kvs H1 a} kk na hl=>q' a _ _ (kk.upd_new na _) na ad hl;cases hok with
 |within i j=>
  refine⟨_,rfl,.inr<|.inl ⟨b,_,0,.str bd,rfl,rfl,SqT.of hb,rfl,.inl ⟨rfl,_,rfl,?_⟩⟩⟩;rw[wd bd (ET "drop")<|by decide+kernel];refine aG<|aG ?_;refine⟨_,rfl,.inr<|.inl ⟨b,_,0,.str bd,rfl,rfl,SqT.of hb,rfl,.inl ⟨rfl,_,rfl,?_⟩⟩⟩;rw[wd bd (ET "unit")<|by decide+kernel];refine aG<|aG ?_;refine⟨_,rfl,.inr<|.inl ⟨b,_,0,.str bd,rfl,rfl,SqT.of hb,rfl,.inl ⟨rfl,_,rfl,?_⟩⟩⟩;rw[wd bd (ET "pure")<|by decide+kernel];refine aG<|aG ?_;refine⟨_,rfl,.inr<|.inl ⟨b,_,0,.str bd,rfl,rfl,SqT.of hb,rfl,.inl ⟨rfl,_,rfl,?_⟩⟩⟩;rw[wd bd (ET "blocked")<|by decide+kernel];exact aG<|aG λa na=>empty H (Same.refl _) a na
 |drop i hi=>
  obtain⟨tc,hx,JA,hm⟩:=dJ S.hcs hi;have c60:=S.hc _ hm;have QU:=S.hok _ hm;have u:=Rl _ hm;generalize cs.getD i []=c at JA hm c60 QU u;refine⟨_,rfl,.inr<|.inl ⟨b,_,0,.str cb,rfl,rfl,SqT.of hb,rfl,.inl ⟨rfl,_,rfl,?_⟩⟩⟩;rw[E2 (show V.str cb=V.str (ET "drop")from rfl)];refine aL ⟨_,rfl,.inl ⟨rfl,_,rfl,?_⟩⟩;cases hw with
  |true=>
   rw[wd (aN kz) (ET "spoiler")<|by decide+kernel];refine aG ?_;refine⟨_,rfl,.inr<|.inl ⟨b,_,0,.str cb,rfl,rfl,SqT.of hb,rfl,.inl ⟨rfl,_,rfl,?_⟩⟩⟩;rw[wd cb (ET "unit")<|by decide+kernel];refine aG<|aG ?_;refine⟨_,rfl,.inr<|.inl ⟨b,_,0,.str cb,rfl,rfl,SqT.of hb,rfl,.inl ⟨rfl,_,rfl,?_⟩⟩⟩;rw[wd cb (ET "pure")<|by decide+kernel];refine aG<|aG ?_;refine⟨_,rfl,.inr<|.inl ⟨b,_,0,.str cb,rfl,rfl,SqT.of hb,rfl,.inl ⟨rfl,_,rfl,?_⟩⟩⟩;rw[wd cb (ET "blocked")<|by decide+kernel];exact aG<|aG λa na=>empty H (Same.refl _) a na
  |false=>
   rw[E2 (show V.str (aN B')=V.str (ET "spoiler")from rfl)];refine aL ?_;refine⟨_,rfl,_,rfl,.inr<|.inl ⟨b,_,1,.int (i:Int),rfl,rfl,SqT.of hb,rfl,.inl ⟨q,xs,(i:Int),.ref tc,rfl,rfl,SqL.of S.hq,bf hx,?_⟩⟩⟩;refine⟨_,rfl,_,rfl,p,tc,t,_,B',c,rfl,S.hp,(by lia),JA,c60,QU,λlf H1 k1 S_=>?_⟩;have Rm:=k1 _ _ JA;refine⟨_,rfl,tc,rfl,⟨_,SqT.of Rm⟩,λD nD=>?_⟩;refine jP (K:=K) (a:=tc) (xs:=c.map V.int) (Dk H1 D lf c<|fA t B' c) ⟨A',[],[],rfl,ad,ag nD _,rfl,⟨rfl,λj t k v e=>by simp at e⟩,rfl,λ_ z=>nomatch z⟩ ?_ ?_ ?_
   ·rintro n σ ys H2 _ ⟨_,_,_,_,MX,k2,_⟩;exact⟨MX,SqT.of<|k2 _ _ Rm⟩
   ·rintro n x σ ys H2 hx2 ⟨v0,ts,kvs,rfl,MX,k2,rfl,hp,hk,RV⟩;obtain⟨z,rfl,hz⟩:=cM hx2;have NG:=k2 _ _ S_;have et:=FD (l:=c) (i:=n);rw[hz]at et;refine fT ?_;have ein:(if kz=kz then !js (.int z) ((fA t B' c).map V.int)else js (.int z) ((fA t B' c).map V.int))=!(fA t B' c).contains z:=by
     rw[Fc rfl,cN]
    exists _,rfl,_,rfl,lf,_,rfl,.inr<|SqT.of NG,rfl,cD _,_,rfl;rw[ein];cases Te:(fA t B' c).contains z with
    |true=>
     refine aG ⟨_,ts,kvs,rfl,MX,k2,rfl,hp,?_,RV⟩;rw[et,Gc,hk];show _=((_++Nm _ [z]).map _)
     rw[FP (by rw[Te];decide),Ny,GA]
    |false=>
     refine aL ⟨_,rfl,z,rfl,_,rfl,_,rfl,_,_,rfl,rfl,(by show 2<=sizeLine;decide),λte nte=>⟨(by show 2<=sizeLine;decide),λpt UQ=>?_⟩⟩;have k3:=ag nte<|.tup [.ref lf,.bl (decide (z < 0))];have s3:upd H2 te (.tup [.ref lf,.bl (decide (z < 0))]) te=ab (.tup [.ref lf,.bl (decide (z < 0))]):=ad;generalize upd H2 te (.tup [.ref lf,.bl (decide (z < 0))])=H3 at k3 s3 UQ ⊢;have k4:=ag UQ<|.tup [.int (if z < 0 then -z else z),.ref te];have s4:upd H3 pt (.tup [.int (if z < 0 then -z else z),.ref te]) pt=ab (.tup [.int (if z < 0 then -z else z),.ref te]):=ad;generalize upd H3 pt (.tup [.int (if z < 0 then -z else z),.ref te])=H4 at k4 s4 ⊢;have k24:=k3.trans k4;have Uo:=k24 _ _ MX;have Yh:pt≠D:=λe=>by rw[e,Uo]at s4;cases s4
     have tl:ts.length<=60:=by
      have e1:=Gg Hv hk;rw[ka,ka]at e1;have e2:=FH (λl=>!(fA t B' c).contains l)<|c.take n;rw[FO]at e2;have:=hp.len;lia
     refine⟨Uo,by rw[ka];exact au (by lia),_,ts++[pt],kvs++[(.inl<|ao z,.ref te)],rfl,ad,(k2.trans k24).upd_new nD _,by rw[Fh];rfl,?_,?_,λkv YZ=>?_⟩
     ·refine((hp.mono k24).but Uo).snoc ?_;rw[al Yh];exact s4
     ·rw[Fh,hk,et,Gc];show _=((_++Nm _ [z]).map _)
      rw[FJ (by rw[Te];rfl),Ny,Fh];rfl
     ·obtain h|h:=FN.mp YZ
      ·exact((RV kv h).mono k24).but Uo
      ·rw[Fb.mp h];exact(LvAt.mk te lf (fA t B' c) _ rfl (k4 _ _ s3) (k24 _ _ NG) (FM (FH _ _)<|by lia) λl hl=>(QU l<|(Gf.mp hl).1).1).but Uo
   ·rintro σ ys H2 ⟨v0,ts,kvs,rfl,MX,k2,rfl,hp,hk,RV⟩;rw[E3<|by rw[ka];exact lb _]at hk;have G':kvs.length<=60:=by
     have e1:=Gg Hv hk;rw[ka,ka]at e1;have:=FH (λl=>!(fA t B' c).contains l) c;lia
    refine⟨D,ts,kvs,rfl,MX,hp.len,λj t' kv e1 e2=>hp.at_ j t' kv.1 kv.2 e1 e2,by rw[hk];exact uD u _,by lia,λa na=>?_⟩;exact q' a kvs _ (k1.trans<|k2.trans<|ag na _) ((k1.trans k2).free na) ad λkv h=>(RV kv h).mono<|ag na _
 |unit i hi hun=>
  obtain⟨tc,hx,JA,hm⟩:=dJ S.hcs hi;obtain⟨z,ez⟩:=oQ hun;rw[ez]at JA;refine⟨_,rfl,.inr<|.inl ⟨b,_,0,.str cf,rfl,rfl,SqT.of hb,rfl,.inl ⟨rfl,_,rfl,?_⟩⟩⟩;rw[wd cf (ET "drop")<|by decide+kernel];refine aG<|aG ?_;refine⟨_,rfl,.inr<|.inl ⟨b,_,0,.str cf,rfl,rfl,SqT.of hb,rfl,.inl ⟨rfl,_,rfl,?_⟩⟩⟩;rw[E2 (show V.str cf=V.str (ET "unit")from rfl)];refine aL ⟨_,rfl,.inl ⟨rfl,_,rfl,?_⟩⟩;cases hw with
  |true=>
   rw[E2 (show V.str (aN kz)=V.str (ET "wisher")from rfl)];refine aL ?_;refine⟨_,rfl,_,rfl,.inr<|.inl ⟨b,_,1,.int (i:Int),rfl,rfl,SqT.of hb,rfl,.inl ⟨q,xs,(i:Int),.ref tc,rfl,rfl,SqL.of S.hq,bf hx,.inr<|.inl ⟨tc,_,0,.int z,rfl,rfl,SqT.of JA,rfl,?_⟩⟩⟩⟩;refine fT λdp R_=>⟨_,rfl,z,rfl,FF _,λe ne=>⟨_,rfl,_,_,rfl,rfl,(by show 2<=sizeLine;decide),λpr QS=>⟨?_,[(.inl<|ao z,.ref pr)],rfl,(by show 1<=15;decide),?_⟩⟩⟩
   ·exact ag QS _ _ _<|ag ne _ _ _ ad
   ·exact Mx ((ag R_ _).trans<|(ag ne _).trans<|ag QS _) R_<|Eo [] (ag QS _ _ _<|ag ne _ _ _ ad) ad (ag QS _ _ _ ad) (by decide) λ_ z=>nomatch z
  |false=>
   rw[wd (aN B') (ET "wisher")<|by decide+kernel];refine aG ?_;refine⟨_,rfl,.inr<|.inl ⟨b,_,0,.str cf,rfl,rfl,SqT.of hb,rfl,.inl ⟨rfl,_,rfl,?_⟩⟩⟩;rw[wd cf (ET "pure")<|by decide+kernel];refine aG<|aG ?_;refine⟨_,rfl,.inr<|.inl ⟨b,_,0,.str cf,rfl,rfl,SqT.of hb,rfl,.inl ⟨rfl,_,rfl,?_⟩⟩⟩;rw[wd cf (ET "blocked")<|by decide+kernel];exact aG<|aG λa na=>empty H (Same.refl _) a na
 |pure z c hc hz=>
  have QU:=S.hok _ hc z hz;refine⟨_,rfl,.inr<|.inl ⟨b,_,0,.str bT,rfl,rfl,SqT.of hb,rfl,.inl ⟨rfl,_,rfl,?_⟩⟩⟩;rw[wd bT (ET "drop")<|by decide+kernel];refine aG<|aG ?_;refine⟨_,rfl,.inr<|.inl ⟨b,_,0,.str bT,rfl,rfl,SqT.of hb,rfl,.inl ⟨rfl,_,rfl,?_⟩⟩⟩;rw[wd bT (ET "unit")<|by decide+kernel];refine aG<|aG ?_;refine⟨_,rfl,.inr<|.inl ⟨b,_,0,.str bT,rfl,rfl,SqT.of hb,rfl,.inl ⟨rfl,_,rfl,?_⟩⟩⟩;rw[E2 (show V.str bT=V.str (ET "pure")from rfl)];refine aL ⟨_,rfl,_,rfl,.inr<|.inl ⟨b,_,1,.int z,rfl,rfl,SqT.of hb,rfl,_,rfl,p,t,_,z,hw,rfl,S.hp,(by lia),QU.1,QU.2,_,rfl,?_⟩⟩;cases cr t z == hw with
  |true=>
   refine aL λdp R_=>?_;have k1:=ag R_<|.dK [];have s1:upd H dp (.dK []) dp=ab (.dK []):=ad;generalize upd H dp (.dK [])=H1 at k1 s1 ⊢;refine⟨_,rfl,.inr<|.inl ⟨b,_,1,.int z,rfl,rfl,SqT.of<|k1 _ _ hb,rfl,z,rfl,FF _,λe ne=>?_⟩⟩;have k2:=ag ne<|.tup [];have s2:upd H1 e (.tup []) e=ab (.tup []):=ad;generalize upd H1 e (.tup [])=H2 at k2 s2 ⊢;refine⟨_,rfl,.inr<|.inl ⟨b,_,1,.int z,rfl,rfl,SqT.of<|(k1.trans k2) _ _ hb,rfl,_,_,rfl,rfl,_,rfl,.inl ⟨rfl,.inl ⟨rfl,(by show 2<=sizeLine;decide),λpr QS=>⟨?_,[(.inl<|ao z,.ref pr)],rfl,(by show 1<=15;decide),?_⟩⟩⟩⟩⟩
   ·exact ag QS _ _ _<|k2 _ _ s1
   ·exact Mx (k1.trans<|k2.trans<|ag QS _) R_<|Eo [] (ag QS _ _ _<|k2 _ _ s1) ad (ag QS _ _ _ s2) (by decide) λ_ z=>nomatch z
  |false=>
   refine aG ?_;refine⟨_,rfl,.inr<|.inl ⟨b,_,0,.str bT,rfl,rfl,SqT.of hb,rfl,.inl ⟨rfl,_,rfl,?_⟩⟩⟩;rw[wd bT (ET "blocked")<|by decide+kernel];exact aG<|aG λa na=>empty H (Same.refl _) a na
 |blocked i z hi hz=>
  obtain⟨tc,hx,JA,hm⟩:=dJ S.hcs hi;have c60:=S.hc _ hm;refine⟨_,rfl,.inr<|.inl ⟨b,_,0,.str aR,rfl,rfl,SqT.of hb,rfl,.inl ⟨rfl,_,rfl,?_⟩⟩⟩;rw[wd aR (ET "drop")<|by decide+kernel];refine aG<|aG ?_;refine⟨_,rfl,.inr<|.inl ⟨b,_,0,.str aR,rfl,rfl,SqT.of hb,rfl,.inl ⟨rfl,_,rfl,?_⟩⟩⟩;rw[wd aR (ET "unit")<|by decide+kernel];refine aG<|aG ?_;refine⟨_,rfl,.inr<|.inl ⟨b,_,0,.str aR,rfl,rfl,SqT.of hb,rfl,.inl ⟨rfl,_,rfl,?_⟩⟩⟩;rw[wd aR (ET "pure")<|by decide+kernel];refine aG<|aG ?_;refine⟨_,rfl,.inr<|.inl ⟨b,_,0,.str aR,rfl,rfl,SqT.of hb,rfl,.inl ⟨rfl,_,rfl,?_⟩⟩⟩;rw[E2 (show V.str aR=V.str (ET "blocked")from rfl)];refine aL ⟨_,rfl,.inl ⟨rfl,_,rfl,?_⟩⟩;cases hw with
  |false=>
   rw[wd (aN B') (ET "wisher")<|by decide+kernel];exact aG λa na=>empty H (Same.refl _) a na
  |true=>
   rw[E2 (show V.str (aN kz)=V.str (ET "wisher")from rfl)];refine aL ?_;refine⟨_,rfl,_,rfl,.inr<|.inl ⟨b,_,1,.int (i:Int),rfl,rfl,SqT.of hb,rfl,.inl ⟨q,xs,(i:Int),.ref tc,rfl,rfl,SqL.of S.hq,bf hx,tc,rfl,⟨_,SqT.of JA⟩,λD nD=>?_⟩⟩⟩;refine cm [ab<|.ref b] (λx=>match x with
    |.int l=>decide (ao l < ao z)
    |_=>B') id rfl JA nD (by rw[ka];lia) (λx hx2 H' R k r=>?_) (λx hx2 _ H' R k r=>⟨_,rfl,r⟩) ?_
   ·obtain⟨l,hl,rfl⟩:=FW.mp hx2;exact⟨_,rfl,l,rfl,_,rfl,.inr<|.inl ⟨b,_,2,.int z,rfl,rfl,SqT.of<|k _ _ hb,rfl,z,rfl,_,_,rfl,rfl,_,rfl,r⟩⟩
   ·have QU:=S.hok _ hm;obtain⟨us,c',eu,hc3,Y'⟩:∃us c',us=c'.map V.int/\c'.length<=900/\(∀l∈c',1<=ao l)/\RF id (Nm (λx=>match x with
     |.int l=>decide (ao l < ao z)
     |_=>B') ((cs.getD i []).map V.int))=us:=⟨_,_,uC _ _,FM (FH _ _) (by lia),λl hl=>(QU l<|(Gf.mp hl).1).1,rfl⟩
    obtain⟨Y',e5⟩:=Y';rw[e5];have kD:=ag nD<|.lst us;have sD:upd H D (.lst us) D=ab (.lst us):=ad;generalize upd H D (.lst us)=H0 at kD sD ⊢;refine λdp R_=>?_;have k1:=ag R_<|.dK [];have s1:upd H0 dp (.dK []) dp=ab (.dK []):=ad;generalize upd H0 dp (.dK [])=H1 at k1 s1 ⊢;have Tf:=k1 _ _<|kD _ _ hb;refine⟨_,rfl,.inr<|.inl ⟨b,_,2,.int z,rfl,rfl,SqT.of Tf,rfl,z,rfl,_,rfl,D,us,rfl,.inl ⟨SqL.of<|k1 _ _ sD,λe ne=>?_⟩⟩⟩;have k2:=ag ne<|.tup us;have s2:upd H1 e (.tup us) e=ab (.tup us):=ad;generalize upd H1 e (.tup us)=H2 at k2 s2 ⊢;refine⟨_,rfl,.inr<|.inl ⟨b,_,2,.int z,rfl,rfl,SqT.of<|k2 _ _ Tf,rfl,_,_,rfl,rfl,(by show 2<=sizeLine;decide),λpr QS=>⟨?_,[(.inl<|ao z,.ref pr)],rfl,(by show 1<=15;decide),?_⟩⟩⟩
    ·exact ag QS _ _ _<|k2 _ _ s1
    ·exact Mx (kD.trans<|k1.trans<|k2.trans<|ag QS _) (kD.free R_)<|Eo c' (ag QS _ _ _<|k2 _ _ s1) ad (ag QS _ _ _<|by rw[<-eu];exact s2) hc3 Y'
end
abbrev uE:Gs:=cH 64
structure oW (mg:Str->kb j'):Prop where
 isinstance:mg "isinstance"=A'
 bool:mg "bool"=A'
 tuple:mg "tuple"=A'
 list:mg "list"=A'
 abs:mg "abs"=A'
 len:mg "len"=A'
 range:mg "range"=A'
 dict:mg "dict"=A'
def su:Sp:=λvs H Q _=>∃(t:Str) (hw:ER) (l:Int),vs=[.str t,.str<|aN hw,.int l]/\1<=ao l/\ao l<=t.length/\t.length<=900/\Q (.bl<|bP t (ao l - 1).toNat == hw) H
section
variable {K:gV}
theorem AE:ax ["_law_turns","_law_hand","_law_literal"] ["_law_turns","_law_hand","_law_literal"] (ah uE):=⟨rfl,rfl,rfl,by decide+kernel,rfl,by decide+kernel,by decide+kernel⟩
theorem BV(F:Fun K "_law_own" "_law_own" uE f fd)(T:oW mg):FnOk P w K mg base bD 1 f fd ["_law_turns","_law_hand","_law_literal"] su:=by
 have sc:=AE;refine F.ok AE (λvs H Q E h=>?_) λHL A outer s H vs Q E hr h=>?_
 ·obtain⟨t,hw,l,rfl,_⟩:=h;rfl
 obtain⟨t,hw,l,rfl,l1,l2,h9,q⟩:=h;have hu:=hr.units;exists _,(ai<|am<|aM (aK hu) (aM (aK hu) (aA av (pv 0) (aE eG (aq br rfl T.abs FG<|aa (pv 2) ae) aj) λ_ _=>rfl) bA<|ay _) (aM (aK hu) (pv 1) bA<|ay _)<|ay _);have PM:(ao l - 1).toNat < t.cps.toList.length:=by
  rw[Gh];show _ < t.length
  lia
 obtain⟨ch,On⟩:∃ch,t.cps.toList[(ao l - 1).toNat]? =ab ch:=⟨_,E1 PM⟩;have RM:kL t.cps.toList (ao l - 1)=ab ch:=by
  have e:ao l - 1=(((ao l - 1).toNat:Nat):Int):=by lia
  rw[e];exact bf On
 refine⟨_,rfl,_,rfl,l,rfl,_,_,rfl,rfl,.inr<|.inr ⟨t,_,_,rfl,rfl,FQ (au<|by lia),RM,.inl ⟨rfl,_,rfl,.inl ⟨rfl,.inl ⟨rfl,?_⟩⟩⟩⟩⟩;rw[vM,<-mO On,CZ];have e:decide (V.bl (bP t (ao l - 1).toNat)=V.bl hw)=(bP t (ao l - 1).toNat == hw):=by
  cases bP t (ao l - 1).toNat<;>cases hw<;>rfl
 rw[e];exact q
end
abbrev i9:Gs:=cH 67
theorem nr:∀{ds es:bc Fq} {xs ys:bc V},eP H ds xs->eP H es ys->eP H (ds++es) (xs++ys)
 |[],_,_,_,h,g=>by
  rw[a_ h];exact g
 |_::_,_,_,_,h,g=>by
  obtain⟨x,r,rfl,h1,h2⟩:=aI h;exact aO h1<|nr h2 g
def gb(lo:Int)(st:bc Int×Int):bc Int×Int:=(if st.2 % 4 < 2 then st.1++[lo*uY (st.2 % 4)]else st.1,st.2 / 4)
def dM(num:Int):Nat->bc Int×Int
 |0=>([],num)
 |k+1=>gb (1+(k:Int))<|dM num k
def xh(m:Nat)(st:bc (bc Int×ER)×Int):bc (bc Int×ER)×Int:=(st.1++[((dM (st.2 / 2) m).1,decide (V.int (st.2 % 2)=V.int 1))],(dM (st.2 / 2) m).2)
def bv(m:Nat)(num:Int):Nat->bc (bc Int×ER)×Int
 |0=>([],num)
 |k+1=>xh m<|bv m num k
def kU(ns:bc Int)(b:ER)(v:Int):Int:=if b=kz then qD (cQ ns (16+v)) v kz*2147483587+qD (cQ ns (16+v)) (v+50) kz else cQ ns (16+v)
def md(r:bc Int×ER):Fq:=.tuple [.tuple<|r.1.map .int,.bool r.2]
def qR(v:Int)(rs:bc (bc Int×ER))(b:ER):Fq:=.tuple [.int v,.list<|rs.map md,.bool b]
def uF(ns:bc Int)(b:ER)(i:Nat):Fq:=qR (1+(i:Int)) (bv i (kU ns b (1+(i:Int)) / 8) (kU ns b (1+(i:Int)) % 4).toNat).1 (decide (V.int (kU ns b (1+(i:Int)) / 4 % 2)=V.int 1))
def gy(ns:bc Int):ER:=decide (V.int (cQ ns 0 % 2)=V.int 1)
def xi(ns:bc Int)(t:Str)(hw:ER):Fq:=.list<|((Fy t.length).filter λi=>bP t i == hw).map<|uF ns<|gy ns
theorem i_(num:Int):∀k,(dM num k).1.length<=k
 |0=>lb _
 |k+1=>by
  have:=i_ num k;show(if _ then _ else _:bc Int).length<=_
  split
  ·rw[C'];exact Hx this
  ·lia
theorem kF(m:Nat)(num:Int):∀k,(bv m num k).1.length=k
 |0=>rfl
 |k+1=>by
  show(_++[_]).length=_
  rw[C',kF m num k];rfl
theorem jq(m:Nat)(num:Int):∀k,∀r∈(bv m num k).1,r.1.length<=m
 |0,_,h=>nomatch h
 |k+1,r,h=>by
  obtain w|w:=FN.mp h
  ·exact jq m num k r w
  ·rw[Fb.mp w];exact i_ _ _
def sw(K:gV):Sp:=λvs H Q _=>∃(a p:f') (ns:bc Int) (t:Str) (w:V) (hw:ER),vs=[.ref a,.ref p,.str<|aN hw]/\SqL K H a (ns.map V.int)/\H p=ab (.tup [.str t,w])/\t.length<=20/\
 ∀(l:f') (H':Hp),Same H H'->RD H' (xi ns t hw) (.ref l)->Q (.ref l) H'
section
variable {K:gV}
theorem sy:ax ["_law_script","_law_sentence_here","_law_hand","_law_plan_here","_law_mixed","_law_variable","_law_number","_law_rules","_law_otherwise","_law_many_here","_law_k","_law_literals","_law_value","_law_lesser"] ["_law_script","_law_sentence_here","_law_hand"] (ah i9):=⟨rfl,rfl,rfl,by decide+kernel,rfl,by decide+kernel,by decide+kernel⟩
inductive mf (a:f')(p:f')(hw:ER)(l:f')(ns:bc Int)(H:Hp)(t:Str)(i:Nat)(σ:bc (kb V))(H2:Hp):Prop
 |mk (xs:bc V)(x5:kb V)(x6:kb V)(x7:kb V)(x8:kb V)(x9:kb V)(S6:kb V)(RG:kb V)(QQ:kb V)(R5:kb V)(i0:σ=[ab (.ref a),ab (.ref p),ab (.str (aN hw)),ab (.ref l),ab (.bl (gy ns)),x5,x6,x7,x8,x9,S6,RG,QQ,R5])(i1:H2 l=ab (.lst xs))(i2:Same H H2)(i3:(∀NK:Hp,(∀b o,b≠l->H2 b=ab o->NK b=ab o)->eP NK (((Fy i).filter λi=>bP t i == hw).map<|uF ns<|gy ns) xs))(i4:xs.length<=i):mf a p hw l ns H t i σ H2
inductive mh (a:f')(p:f')(hw:ER)(l:f')(ns:bc Int)(i:Nat)(num:Int)(lr:f')(H2:Hp)(k:Nat)(σ:bc (kb V))(H3:Hp):Prop
 |mk (zs:bc V)(S6:kb V)(RG:kb V)(QQ:kb V)(R5:kb V)(i0:σ=[ab<|.ref a,ab<|.ref p,ab<|.str<|aN hw,ab<|.ref l,ab<|.bl<|gy ns,ab<|.int (1+(i:Int)),ab<|.int (bv i (num / 8) k).2,ab<|.ref lr,ab<|.bl (decide (V.int (num / 4 % 2)=V.int 1)),ab<|.int<|num % 4,S6,RG,QQ,R5])(i1:H3 lr=ab (.lst zs))(i2:(∀b o,b≠lr->H2 b=ab o->H3 b=ab o))(i3:(∀NK:Hp,(∀b o,b≠lr->b≠l->H3 b=ab o->NK b=ab o)->eP NK ((bv i (num / 8) k).1.map md) zs))(i4:zs.length=k):mh a p hw l ns i num lr H2 k σ H3
inductive mi (a:f')(p:f')(hw:ER)(l:f')(ns:bc Int)(i:Nat)(num:Int)(k:Nat)(lr:f')(la:f')(H3:Hp)(j:Nat)(σ:bc (kb V))(H4:Hp):Prop
 |mk (R5:kb V)(i0:σ=[ab<|.ref a,ab<|.ref p,ab<|.str<|aN hw,ab<|.ref l,ab<|.bl<|gy ns,ab<|.int (1+(i:Int)),ab<|.int (dM ((bv i (num / 8) k).2 / 2) j).2,ab<|.ref lr,ab<|.bl (decide (V.int (num / 4 % 2)=V.int 1)),ab<|.int<|num % 4,ab<|.int (0+(k:Int)),ab<|.ref la,ab<|.bl (decide (V.int ((bv i (num / 8) k).2 % 2)=V.int 1)),R5])(i1:H4 la=ab (.lst<|(dM ((bv i (num / 8) k).2 / 2) j).1.map V.int))(i2:(∀b o,b≠la->H3 b=ab o->H4 b=ab o)):mi a p hw l ns i num k lr la H3 j σ H4
theorem xj(F:Fun K "_law_plan" "_law_plan" i9 f fd)(T:oW mg)(Ia:Fn P w K mg base 1 "_law_cell_at" f1 d1 ["_law_script","_law_k"] (qE K))(KJ:Fn P w K mg base 1 "_law_mix" f2 d2 ["_law_cell","_law_k","_law_mixed"] wl)(KI:Fn P w K mg base 1 "_law_own" f3 d3 ["_law_turns","_law_hand","_law_literal"] su):
  FnOk P w K mg base bD 2 f fd ["_law_script","_law_sentence_here","_law_hand"] (sw K):=by
 have sc:=sy;refine F.ok sy (λvs H Q E h=>?_) λHL A outer s H vs Q E hr h=>?_
 ·obtain⟨a,p,ns,t,w,hw,rfl,_⟩:=h;rfl
 obtain⟨a,p,ns,t,w,hw,rfl,hS,hp,h20,q⟩:=h;have hu:=hr.units;refine⟨_,(af (aB (i:=3) sc.nd rfl (E8 rfl)<|be ae)
  (af (aB (i:=4) sc.nd rfl (E8 rfl)<|aM (aK hu) (aE bY (aC Ia hr (by lia) rfl<|aa (pv 0)<|aa aj ae) aj) aj<|ay _)
  (af (aU Fg rfl (eO rfl T.range<|aa aj<|aa (aE bI (aq aH rfl T.len Fj<|aa (aA av (pv 1) aj λ_ _=>rfl) ae) aj) ae) (ap (i:=5) sc.nd rfl<|E8 rfl)
   (ai (aJ (aP<|aC KI hr (by lia) rfl<|aa (aA av (pv 1) aj λ_ _=>rfl)<|aa (pv 2)<|aa (pv 5) ae) (af (aB (i:=6) sc.nd rfl (E8 rfl)<|aC Ia hr (by lia) rfl<|aa (pv 0)<|aa (aE bI aj<|pv 5) ae)
    (af (aJ (aP<|pv 4) (ai<|aB (i:=6) sc.nd rfl (E8 rfl)<|aE bI (aE eI (aC KJ hr (by lia) rfl<|aa (pv 6)<|aa (pv 5)<|aa bK ae) aj)<|aC KJ hr (by lia) rfl<|aa (pv 6)<|aa (aE bI (pv 5) aj)<|aa bK ae) az)
    (af (aB (i:=7) sc.nd rfl (E8 rfl)<|be ae)
    (af (aB (i:=8) sc.nd rfl (E8 rfl)<|aM (aK hu) (aE bY (aE cI (pv 6) aj) aj) aj<|ay _)
    (af (aB (i:=9) sc.nd rfl (E8 rfl)<|aE bY (pv 6) aj)
    (af (aB (i:=6) sc.nd rfl (E8 rfl)<|aE cI (pv 6) aj)
    (af (aU Fg rfl (cE rfl T.range<|aa (pv 9) ae) (ap (i:=10) sc.nd rfl<|E8 rfl)
     (af (aB (i:=11) sc.nd rfl (E8 rfl)<|be ae)
     (af (aB (i:=12) sc.nd rfl (E8 rfl)<|aM (aK hu) (aE bY (pv 6) aj) aj<|ay _)
     (af (aB (i:=6) sc.nd rfl (E8 rfl)<|aE cI (pv 6) aj)
     (af (aU Fg rfl (eO rfl T.range<|aa aj<|aa (pv 5) ae) (ap (i:=13) sc.nd rfl<|E8 rfl)
      (af (aJ (aD kZ (aE bY (pv 6) aj) aj<|ay _) (ai<|bG<|cK Fp FB FC bh (pv 11)<|aa (aE eI (pv 13)<|aA av (be<|aa aj<|aa (dC cC aj) ae) (aE bY (pv 6) aj) λ_ _=>rfl) ae) az)
      (ai<|aB (i:=6) sc.nd rfl (E8 rfl)<|aE cI (pv 6) aj)))
     (ai<|bG<|cK Fp FB FC bh (pv 7)<|aa (bx<|aa (bn bW rfl T.tuple GE<|aa (pv 11) ae)<|aa (pv 12) ae) ae))))))
    (ai<|bG<|cK Fp FB FC bh (pv 3)<|aa (bx<|aa (pv 5)<|aa (pv 7)<|aa (pv 8) ae) ae)))))))) az)))
  (ai<|am<|pv 3)))),?_⟩
 refine⟨FF _,λl hl=>?_⟩;have nl:H l=none:=hl;refine⟨_,rfl,a,ns,0,rfl,(ag hl _).seq hS,JP 0,_,_,rfl,rfl,(by show(0:Int) < 2;decide),.inl ⟨rfl,?_⟩⟩;have en:((t.length:Int)+1 - 1).toNat=t.length:=by lia
 refine⟨_,rfl,.inr (.inl ⟨p,_,0,.str t,rfl,rfl,SqT.of<|ag hl _ _ _ hp,rfl,.str t,_,rfl,⟨FQ (au<|by lia),rfl⟩,_,_,rfl,rfl,_,_,rfl,⟨by decide,by decide,by lia,by lia⟩,cF (lo:=1) (n:=((t.length:Int)+1 - 1).toNat)
  (mf a p hw l ns H t)
  ⟨[],A',A',A',A',A',A',A',A',A',rfl,ad,ag hl _,(λ_ _=>bM),lb _⟩ ?_ ?_⟩)⟩
 ·rintro i σ H2 hi ⟨xs,x5,x6,x7,x8,x9,S6,RG,QQ,R5,rfl,g1,g2,g3,g4⟩;rw[en]at hi;have RI:=g2 _ _ hp;refine⟨_,rfl,.inr<|.inl ⟨p,_,0,.str t,rfl,rfl,SqT.of RI,rfl,_,rfl,_,rfl,t,hw,_,rfl,(by rw[cL<|by lia];lia),(by rw[cL<|by lia];lia),(by lia),_,rfl,?_⟩⟩;have eo:(bP t (ao (1+(i:Int)) - 1).toNat == hw)=(bP t i == hw):=by
   have e:(ao (1+(i:Int)) - 1).toNat=i:=by
    rw[cL<|by lia];lia
   rw[e]
  rw[eo];cases g:bP t i == hw with
  |false=>
   refine aG ⟨xs,_,_,_,_,_,_,_,_,_,rfl,g1,g2,λNK k=>?_,by lia⟩;rw[GJ,Gc,FP (p:=λi=>bP t i == hw)<|by rw[g];exact i'];simpa using g3 NK k
  |true=>
   refine aL ?_;have hfi:((Fy<|i+1).filter λi=>bP t i == hw).map (uF ns<|gy ns)=((Fy i).filter λi=>bP t i == hw).map (uF ns<|gy ns)++[uF ns (gy ns) i]:=by
    rw[GJ,Gc,FJ (p:=λi=>bP t i == hw) g,Fh];rfl
   exists _,rfl,_,rfl,_,_,rfl,rfl,a,ns,_,rfl,g2.seq hS,(by lia);dsimp only;refine mW λN hN=>?_;have key:∀num,num=kU ns (gy ns) (1+(i:Int))->N [ab<|.ref a,ab<|.ref p,ab<|.str<|aN hw,ab<|.ref l,ab<|.bl<|gy ns,ab<|.int (1+(i:Int)),ab<|.int num,x7,x8,x9,S6,RG,QQ,R5] H2:=by
    intro num hnum;refine hN _ _ ?_;clear hN;refine⟨FF _,λlr YU=>?_⟩;have Yk:l≠lr:=ak g1 YU;refine⟨_,rfl,_,_,rfl,rfl,⟨by decide,by decide⟩,_,_,rfl,rfl,(by show(0:Int) < 2;decide),.inl ⟨rfl,?_⟩⟩;exists _,rfl,_,_,rfl,rfl,(by show(0:Int) < 4;decide);exists _,rfl,_,_,rfl,rfl,⟨by decide,by decide⟩;have m0:=Hc num (show(4:Int)≠0 by decide);have m1:=GY num (show(0:Int) < 4 by decide);refine⟨_,rfl,num % 4,rfl,(by lia),(by lia),cF (lo:=0) (n:=(num % 4).toNat)
     (mh a p hw l ns i num lr H2)
     ⟨[],_,_,_,_,rfl,ad,(λb o hb e=>by rw[al hb];exact e),(λ_ _=>bM),rfl⟩ ?_ ?_⟩
    ·rintro k σ H3 hk ⟨zs,y10,y11,y12,y13,rfl,j1,j2,j3,j4⟩;have RJ:H3 l=ab (.lst xs):=j2 _ _ Yk g1;refine⟨FF _,λla S'=>?_⟩;have Tz:lr≠la:=ak j1 S';have Yl:l≠la:=ak RJ S';refine⟨_,rfl,_,_,rfl,rfl,(by show(0:Int) < 2;decide),.inl ⟨rfl,?_⟩⟩;exists _,rfl,_,_,rfl,rfl,⟨by decide,by decide⟩;have Zk:((1+(i:Int)) - 1).toNat=i:=by lia
     refine⟨_,rfl,_,_,rfl,⟨by decide,by decide,by lia,by lia⟩,cF (lo:=1) (n:=((1+(i:Int)) - 1).toNat)
      (mi a p hw l ns i num k lr la H3)
      ⟨_,rfl,ad,λb o hb e=>by rw[al hb];exact e⟩ ?_ ?_⟩
     ·rintro j σ H4 hj ⟨z13,rfl,u1,u2⟩;rw[Zk]at hj;have Sf:=i_ ((bv i (num / 8) k).2 / 2) j;have es:dM ((bv i (num / 8) k).2 / 2) (j+1)=gb (1+(j:Int)) (dM ((bv i (num / 8) k).2 / 2) j):=rfl;generalize dM ((bv i (num / 8) k).2 / 2) j=L1 at es u1 Sf;obtain⟨ls,nm⟩:=L1;refine⟨_,rfl,_,_,rfl,rfl,(by show(0:Int) < 4;decide),_,_,rfl,rfl,_,rfl,hE (λc=>?_) λc=>?_⟩
      ·have c':nm % 4 < 2:=Fv c;have c0:=Hc nm (show(4:Int)≠0 by decide);refine⟨_,rfl,.inl ⟨rfl,_,SqL.of u1⟩,_,rfl,_,rfl,(by show 2<=sizeLine;decide),λe he=>?_⟩;refine⟨_,rfl,_,_,rfl,rfl,(by show(0:Int) < 4;decide),.inl ⟨e,_,_,_,rfl,rfl,SqL.of ad,wp (r:=nm % 4) (by lia),_,_,rfl,rfl,.inr ⟨?_,?_⟩,la,ls.map V.int,_,rfl,rfl,?_,?_,?_⟩⟩
       ·obtain z|z:=iM (nm % 4)<;>rw[z]<;>decide
       ·obtain z|z:=iM (nm % 4)<;>rw[z]<;>decide
       ·rw[al<|ak u1 he];exact u1
       ·rw[ka];exact au (by have:ls.length<=j:=Sf;lia)
       ·refine⟨_,rfl,_,_,rfl,rfl,⟨by decide,by decide⟩,_,(by rw[es];rfl),?_,λb o hb eb=>?_⟩
        ·rw[ad,es];unfold gb;rw[Fc c',Fh];rfl
        ·have e4:=u2 b o hb eb;rw[al hb,al<|ak e4 he];exact e4
      ·have c':¬nm % 4 < 2:=λz=>c<|E2 z;refine⟨_,rfl,_,_,rfl,rfl,⟨by decide,by decide⟩,_,(by rw[es];rfl),?_,u2⟩;rw[es];unfold gb;rw[E7 c'];exact u1
     ·rintro σ H4 ⟨z13,rfl,u1,u2⟩;rw[Zk]at u1;have SG:=u2 _ _ Tz j1;have Q6:=u2 _ _ Yl RJ;refine⟨_,rfl,.inl ⟨rfl,_,SqL.of SG⟩,_,rfl,la,_,rfl,.inl ⟨SqL.of u1,λsv YG=>?_⟩⟩;refine⟨_,rfl,(by show 2<=sizeLine;decide),λqv UZ=>?_⟩;have k5:Same H4 (upd H4 sv<|.tup<|(dM ((bv i (num / 8) k).2 / 2) i).1.map V.int):=ag YG _;have s5:upd H4 sv (.tup<|(dM ((bv i (num / 8) k).2 / 2) i).1.map V.int) sv=ab (.tup<|(dM ((bv i (num / 8) k).2 / 2) i).1.map V.int):=ad;have UO:sv≠l:=(ak Q6 YG).symm;have Tv:sv≠lr:=(ak SG YG).symm;generalize upd H4 sv (.tup<|(dM ((bv i (num / 8) k).2 / 2) i).1.map V.int)=H5 at k5 s5 UZ;have T_:=k5 _ _ SG;have U8:=k5 _ _ Q6;have k6:Same H5 (upd H5 qv<|.tup [.ref sv,.bl (decide (V.int ((bv i (num / 8) k).2 % 2)=V.int 1))]):=ag UZ _;have s6:upd H5 qv (.tup [.ref sv,.bl (decide (V.int ((bv i (num / 8) k).2 % 2)=V.int 1))]) qv=ab (.tup [.ref sv,.bl (decide (V.int ((bv i (num / 8) k).2 % 2)=V.int 1))]):=ad;have nql:qv≠l:=(ak U8 UZ).symm;have Tw:qv≠lr:=(ak T_ UZ).symm;generalize upd H5 qv (.tup [.ref sv,.bl (decide (V.int ((bv i (num / 8) k).2 % 2)=V.int 1))])=H6 at k6 s6;have YT:=k6 _ _ T_;have s56:=k6 _ _ s5;exists lr,_,_,rfl,rfl,YT,(by rw[j4];exact au<|by lia);refine⟨zs++[.ref qv],ab<|.int (0+(k:Int)),ab<|.ref la,ab<|.bl (decide (V.int ((bv i (num / 8) k).2 % 2)=V.int 1)),z13,?_,ad,λb o hb eb=>?_,λNK kk=>?_,by rw[C',j4];rfl⟩
      ·rw[Zk];rfl
      ·rw[al hb];have e3:=j2 b o hb eb;exact k6 _ _<|k5 _ _<|u2 _ _ (ak e3 S') e3
      ·show eP NK (((bv i (num / 8) k).1++[_]).map md) _
       rw[Fh];refine nr (j3 NK λb o h1 h2 eb=>kk b o h1 h2 ?_)<|aO (cX (kk qv _ Tw nql<|by rw[al Tw];exact s6)<|aO (cX (kk sv _ Tv UO<|by rw[al Tv];exact s56)<|jM _)<|aO (mI _) bM) bM;rw[al h1];exact k6 _ _<|k5 _ _<|u2 _ _ (ak eb S') eb
    ·rintro σ H3 ⟨zs,y10,y11,y12,y13,rfl,j1,j2,j3,j4⟩;have RJ:H3 l=ab (.lst xs):=j2 _ _ Yk g1;refine⟨_,rfl,.inl ⟨rfl,_,SqL.of RJ⟩,_,rfl,_,rfl,_,rfl,(by show 3<=sizeLine;decide),λpt S9=>?_⟩;have k4:Same H3 (upd H3 pt<|.tup [.int (1+(i:Int)),.ref lr,.bl (decide (V.int (num / 4 % 2)=V.int 1))]):=ag S9 _;have s4:upd H3 pt (.tup [.int (1+(i:Int)),.ref lr,.bl (decide (V.int (num / 4 % 2)=V.int 1))]) pt=ab (.tup [.int (1+(i:Int)),.ref lr,.bl (decide (V.int (num / 4 % 2)=V.int 1))]):=ad;have npl:pt≠l:=(ak RJ S9).symm;generalize upd H3 pt (.tup [.int (1+(i:Int)),.ref lr,.bl (decide (V.int (num / 4 % 2)=V.int 1))])=H4 at k4 s4;have Q6:=k4 _ _ RJ;exists l,_,_,rfl,rfl,Q6,au (by lia);refine⟨xs++[.ref pt],_,_,_,_,_,_,_,_,_,rfl,ad,λb o eb=>?_,λNK kk=>?_,by rw[C'];exact Hx g4⟩
     ·rw[al<|ak eb nl];have e2:=g2 b o eb;exact k4 _ _<|j2 b o (ak e2 YU) e2
     ·rw[hfi];have UV:∀b o,b≠l->H4 b=ab o->NK b=ab o:=λb o hb eb=>kk b o hb (by rw[al hb];exact eb);refine nr (g3 NK λb o hb eb=>UV b o hb<|k4 _ _<|j2 b o (ak eb YU) eb)<|aO ?_ bM;unfold uF qR;rw[<-hnum];exact cX (UV pt _ npl s4)<|aO (fj _)<|aO (di (UV lr _ Yk.symm<|k4 _ _ j1)<|j3 NK λb o _ hb eb=>UV b o hb<|k4 _ _ eb)<|aO (mI _) bM
   exists _,rfl,_,rfl;unfold kU at key;cases hm:gy ns with
   |false=>
    rw[hm]at key;exact aG<|key _ rfl
   |true=>
    rw[hm]at key;rw[Fc rfl]at key;refine aL ⟨_,rfl,_,rfl,_,_,_,rfl,_,_,rfl,rfl,.inr ⟨by decide,by decide⟩,_,rfl,_,rfl,_,_,rfl,rfl,_,_,_,rfl,_,_,rfl,rfl,key _ rfl⟩
 ·rintro σ H2 ⟨xs,x5,x6,x7,x8,x9,S6,RG,QQ,R5,rfl,g1,g2,g3,g4⟩;rw[en]at g3;exact⟨_,rfl,q l H2 g2<|di g1<|g3 H2 λ_ _ _ e=>e⟩
end
abbrev gf:Gs:=cH 11
abbrev mj:Gs:=cH 23
abbrev mm:Gs:=g_ (cH 25) 0
abbrev gg:Gs:=g_ (cH 25) 1
structure BW (K:gV)(mg:Str->kb j')(CP CN:f'):Prop where
 tuple:mg "tuple"=A'
 dict:mg "dict"=A'
 cl:Cls K CP
 ne:NoAttr K CP "entries"
 m_NoVariable:mg "NoVariable"=ab (.ref CN)
 x_NoVariable:Oz K CN [.type "ValueError",.type "Exception",.type "BaseException",.type "object"] "ValueError.__new__"=kz
abbrev dm:=Int×bc (bc Int×ER)×ER
inductive RuleAt (H:Hp)(r:bc Int×ER)(x:V):Prop
 |mk (q sv:f')(hx:x=.ref q)(h1:H q=ab (.tup [.ref sv,.bl r.2]))(h2:H sv=ab (.tup<|r.1.map V.int)):RuleAt H r x
structure RulesAt (H:Hp)(Ja:bc (bc Int×ER))(xs:bc V):Prop where
 len:xs.length=Ja.length
 at_:∀(i:Nat) (x:V),xs[i]? =ab x->∃r,Ja[i]? =ab r/\RuleAt H r x
inductive EntAt (H:Hp)(F:f'->Prop)(e:dm)(x:V):Prop
 |mk (p lr:f')(rs:bc V)(hx:x=.ref p)(h1:H p=ab (.tup [.int e.1,.ref lr,.bl e.2.2]))(h2:H lr=ab (.lst rs))(h3:RulesAt H e.2.1 rs)(h4:F lr):EntAt H F e x
structure EntsAt (H:Hp)(F:f'->Prop)(es:bc dm)(xs:bc V):Prop where
 len:xs.length=es.length
 at_:∀(i:Nat) (x:V),xs[i]? =ab x->∃e,es[i]? =ab e/\EntAt H F e x
inductive OwnE (H:Hp)(e:dm)(te:f'):Prop
 |mk (tr:f')(rs:bc V)(h1:H te=ab (.tup [.ref tr,.bl e.2.2]))(h2:H tr=ab (.tup rs))(h3:RulesAt H e.2.1 rs):OwnE H e te
inductive PlayerAt (H:Hp)(CP x:f')(es:bc dm):Prop
 |mk (dx de:f')(kvs:bc (aS×V))(h1:H x=ab (.ins CP dx [("entries",.ref de)]))(h2:H de=ab (.dK kvs))(hn:∀v:Int,(∀e∈es,e.1≠v)->bH kvs (.inl v)=A')(hs:∀e∈es,∃te,bH kvs (.inl e.1)=ab (.ref te)/\OwnE H e te):PlayerAt H CP x es
def EA:HO->Prop
 |.lst _=>False
 |_=>True
def Kept(H H':Hp):Prop:=∀b o,EA o->H b=ab o->H' b=ab o
theorem Same.kept(k:Same H H'):Kept H H':=λb o _ e=>k b o e
theorem RuleAt.mono(h:RuleAt H r x)(k:Kept H H'):RuleAt H' r x:=by
 obtain⟨q,sv,hx,h1,h2⟩:=h;exact⟨q,sv,hx,k _ _ trivial h1,k _ _ trivial h2⟩
theorem RulesAt.mono(h:RulesAt H Ja xs)(k:Kept H H'):RulesAt H' Ja xs:=
 ⟨h.len,λi x e=>let ⟨r,a,b⟩:=h.at_ i x e;⟨r,a,b.mono k⟩⟩
theorem PlayerAt.mono(h:PlayerAt H CP x es)(k:Kept H H'):PlayerAt H' CP x es:=by
 obtain⟨dx,de,kvs,h1,h2,hn,hs⟩:=h;refine⟨dx,de,kvs,k _ _ trivial h1,k _ _ trivial h2,hn,λe he=>?_⟩;obtain⟨te,a,tr,rs,b1,b2,b3⟩:=hs e he;exact⟨te,a,tr,rs,k _ _ trivial b1,k _ _ trivial b2,b3.mono k⟩
def ju(Ja:bc (bc Int×ER))(bs:bc ER)(ow:ER):ER:=match Ja.find? λr=>r.1.all (cu bs)with
 |some r=>r.2
 |none=>ow
def Near(n:Nat)(Ja:bc (bc Int×ER)):Prop:=∀r∈Ja,r.1.length<=900/\∀l∈r.1,1<=ao l/\ao l<=(n:Int)
theorem Near.mono(h:Near m Ja)(hmn:m<=n):Near n Ja:=λr hr=>⟨(h r hr).1,λl hl=>by
 have:=(h r hr).2 l hl;lia⟩
theorem ja(h1:1<=ao l)(h2:ao l<=(bs.length:Int)):cj bs (ao l) (decide (0 < l))=.bl (cu bs l):=by
 obtain⟨e,_⟩|e:=lA (bs:=bs) h1
 ·obtain⟨b,_,e2⟩:=fU (p:=decide (0 < l)) h1 h2;rw[e]at e2;cases e2
 ·exact e
def kH:Sp:=λvs H Q _=>∃(l:Int) (f:f') (bs:bc ER),vs=[.int l,.ref f]/\H f=ab (.lst<|bs.map V.bl)/\bs.length<=900/\1<=ao l/\Q (cj bs (ao l) (decide (0 < l))) H
inductive AF (vs:bc V)(H:Hp)(Q:VK):Prop
 |mk (p f:f')(c:bc Int)(bs:bc ER)(h0:vs=[.ref p,.ref f])(h1:H p=ab (.tup<|c.map V.int))(h2:H f=ab (.lst<|bs.map V.bl))(h3:bs.length<=900)(h4:∀l∈c,1<=ao l/\ao l<=(bs.length:Int))(q:Q (.bl<|c.all<|cu bs) H):AF vs H Q
def xk:Sp:=λvs H Q _=>AF vs H Q
inductive Dl (CP:f')(vs:bc V)(H:Hp)(Q:VK):Prop
 |mk (x b:f')(es:bc dm)(e:dm)(bs:bc ER)(h0:vs=[.ref x,.int e.1,.ref b])(h1:PlayerAt H CP x es)(h2:H b=ab (.lst<|bs.map V.bl))(h3:bs.length<=900)(h4:e∈es)(h5:Near bs.length e.2.1)(q:Q (.bl<|ju e.2.1 bs e.2.2) H):Dl CP vs H Q
def oX(CP:f'):Sp:=λvs H Q _=>Dl CP vs H Q
inductive AG (CP:f')(vs:bc V)(H:Hp)(Q:VK):Prop
 |mk (x dx l:f')(es:bc dm)(xs:bc V)(F:f'->Prop)(h0:vs=[.ref x,.ref l])(h1:H x=ab (.ins CP dx []))(h2:H l=ab (.lst xs))(h3:EntsAt H F es xs)(h4:(es.map (·.1)).Nodup)(h5:es.length<=900)(h6:∀e∈es,e.2.1.length<=900)
  (q:∀H',PlayerAt H' CP x es->(∀b o,b≠x->H b=ab o->H' b=ab o)->Q .non H'):AG CP vs H Q
def xm(CP:f'):Sp:=λvs H Q _=>AG CP vs H Q
theorem il{α:Type}{p:α->ER}{l:bc α}{i:Nat}{x:α}(hx:l[i]? =ab x) (JZ:(l.take i).find? p=A') (hp:p x=kz):l.find? p=ab x:=by
 have et:l.take (i+1)=l.take i++[x]:=by rw[FD,hx];rfl
 rw[<-Ig (i+1) l,et,MS,Im,JZ,Im,Le hp];rfl
theorem gi{α:Type}{p:α->ER}{l:bc α}{i:Nat}{x:α}(hx:l[i]? =ab x) (JZ:(l.take i).find? p=A') (hp:p x=B'):(l.take<|i+1).find? p=none:=by
 have et:l.take (i+1)=l.take i++[x]:=by rw[FD,hx];rfl
 rw[et,Im,JZ,List.find?_cons_of_neg<|by rw[hp];exact i'];rfl
theorem uG{bs:bc ER}{c:bc Int}{l:Int}(hl:l∈c)(h:cu bs l=B'):c.all (cu bs)=false:=by
 cases g:c.all (cu bs)with
 |false=>rfl
 |true=>rw[Gq.mp g l hl]at h;cases h
section
variable {K:gV}
theorem oY:ax ["literal","filling","variable"] ["literal","filling"] (ah gf):=⟨rfl,rfl,rfl,by decide+kernel,rfl,by decide+kernel,by decide+kernel⟩
theorem uH(F:Fun K "stands_by" "stands_by" gf f fd)(T:oW mg):FnOk P w K mg base bD 1 f fd ["literal","filling"] kH:=by
 have sc:=oY;refine F.ok oY (λvs H Q E h=>?_) λHL A outer s H vs Q E hr h=>?_
 ·obtain⟨l,f,bs,rfl,_⟩:=h;rfl
 obtain⟨l,g,bs,rfl,hg,h9,h1,q⟩:=h;have hu:=hr.units;refine⟨_,(af (aB (i:=2) sc.nd rfl (E8 rfl)<|aq br rfl T.abs FG<|aa (pv 0) ae)
  (af (aJ (aD (aK hu) (pv 2) aj<|ay _) (ai gT) az)
  (af (aJ (aD fF (pv 2) (aq aH rfl T.len Fj<|aa (pv 1) ae)<|ay _) (ai<|am bw) az)
  (ai<|am<|aM (aK hu) (aA av (pv 1) (aE eG (pv 2) aj) λ_ _=>rfl) (aM fF (pv 0) aj<|ay _)<|ay _)))),?_⟩
 have h0:decide (V.int (ao l)=V.int 0)=false:=E_ λz=>by
  have:=V.int.inj z;lia
 refine⟨_,rfl,l,rfl,_,rfl,.inl ⟨rfl,_,rfl,?_⟩⟩;show if decide (V.int (ao l)=V.int 0)=kz then _ else _
 rw[h0];refine aG ⟨_,rfl,_,rfl,.ref g,_,rfl,.inl ⟨_,SqL.of hg,rfl⟩,_,_,rfl,rfl,_,rfl,hE (λc=>?_) λc=>?_⟩
 ·have c':((bs.length:Nat):Int) < ao l:=by
   have z:=Fv c;rw[ka]at z;exact z
  rw[qt c']at q;exact q
 ·have c':ao l<=((bs.length:Nat):Int):=by
   rw[Hz,ka]at c;exact Int.not_lt.mp c
  obtain⟨b,hb,e⟩:=fU (p:=decide (0 < l)) h1 c';rw[e]at q;refine⟨_,rfl,_,rfl,_,_,rfl,rfl,.inl ⟨g,_,_,.bl b,rfl,rfl,SqL.of hg,hb,_,rfl,_,_,rfl,rfl,.inl ⟨rfl,?_⟩⟩⟩;rw[ff];exact q
theorem xn:ax ["literals","begun","literal"] ["literals","begun"] (ah mj):=⟨rfl,rfl,rfl,by decide+kernel,rfl,by decide+kernel,by decide+kernel⟩
inductive sA (p:f')(g:f')(H:Hp)(c:bc Int)(bs:bc ER)(i:Nat)(σ:bc (kb V))(H2:Hp):Prop
 |mk (v2:kb V)(i0:σ=[ab<|.ref p,ab<|.ref g,v2])(i1:H2=H)(i2:(c.take i).all (cu bs)=kz):sA p g H c bs i σ H2
theorem xo(F:Fun K "all_stand" "all_stand" mj f fd)(Md:Fn P w K mg base 1 "stands_by" f1 d1 ["literal","filling"] kH):FnOk P w K mg base bD 2 f fd ["literals","begun"] xk:=by
 have sc:=xn;refine F.ok xn (λvs H Q E h=>?_) λHL A outer s H vs Q E hr h=>?_
 ·obtain⟨p,f,c,bs,rfl,_⟩:=h;rfl
 obtain⟨p,g,c,bs,rfl,hp,hg,h9,J4,q⟩:=h;refine⟨_,(af (aU Fg rfl (bQ<|pv 0) (ap (i:=2) sc.nd rfl<|E8 rfl)
   (ai<|aJ (bO<|aP<|aC Md hr (by lia) rfl<|aa (pv 2)<|aa (pv 1) ae) (ai<|am bK) az))
  (ai<|am bK)),?_⟩
 refine⟨_,rfl,p,rfl,⟨_,SqT.of hp⟩,dU (K:=K) (a:=p) (xs:=c.map V.int) (sA p g H c bs) ⟨A',rfl,rfl,rfl⟩ ?_ ?_ ?_⟩
 ·rintro i σ H2 _ ⟨_,_,e,_⟩;rw[e];exact SqT.of hp
 ·rintro i x σ H2 hx ⟨v2,rfl,rfl,JB⟩;obtain⟨l,hl,rfl⟩:∃l,c[i]? =ab l/\x=.int l:=by
   rw[Fk]at hx;cases e:c[i]? with
   |none=>rw[e]at hx;cases hx
   |some l=>rw[e]at hx;exact⟨l,rfl,(Fe hx).symm⟩
  have U7:=Fd hl;have e:c.take (i+1)=c.take i++[l]:=by rw[FD,hl];rfl
  exists _,rfl,_,rfl,l,g,bs,rfl,hg,h9,(J4 l U7).1;rw[ja (J4 l U7).1 (J4 l U7).2];exists _,rfl;cases gh:cu bs l with
  |true=>
   refine aG ⟨_,rfl,rfl,?_⟩;rw[e,IR,JB,Ib,Pr,gh];rfl
  |false=>
   refine aL ?_;rw[uG U7 gh]at q;exact q
 ·rintro σ H2 ⟨v2,rfl,rfl,JB⟩;rw[E3<|by rw[ka];exact lb _]at JB;rw[JB]at q;exact q
theorem oZ:ax ["self","variable","begun","entry","rule"] ["self","variable","begun"] (ah gg):=⟨rfl,rfl,rfl,by decide+kernel,rfl,by decide+kernel,by decide+kernel⟩
inductive sB (x:f')(e:dm)(b:f')(te:f')(H:Hp)(bs:bc ER)(i:Nat)(σ:bc (kb V))(H2:Hp):Prop
 |mk (v4:kb V)(i0:σ=[ab (.ref x),ab (.int e.1),ab (.ref b),ab (.ref te),v4])(i1:H2=H)(i2:(e.2.1.take i).find? (λr=>r.1.all<|cu bs)=A'):sB x e b te H bs i σ H2
theorem uI(F:Fun K "answer" "Planned.answer" gg f fd)(T:BW K mg CP CN)(QG:Fn P w K mg base 2 "all_stand" f1 d1 ["literals","begun"] xk):FnOk P w K mg base bD 3 f fd ["self","variable","begun"] (oX CP):=by
 have sc:=oZ;refine F.ok oZ (λvs H Q E h=>?_) λHL A outer s H vs Q E hr h=>?_
 ·obtain⟨x,b,es,e,bs,rfl,_⟩:=h;rfl
 obtain⟨x,b,es,e,bs,rfl,Kj,hb,h9,he,Rq,q⟩:=h;have hu:=hr.units;have N':=rh hr;obtain⟨dx,de,kvs,h1,h2,hn,hs⟩:=Kj;obtain⟨te,a1,tr,rs,b1,b2,b3⟩:=hs e he;have g:=DGet.k (k:=FS e.1) h2;rw[a1]at g;refine⟨_,(af (aJ (jD<|iE N' (pv 1)<|dn (pv 0) rfl) (ai gT) az)
  (af (aB (i:=3) sc.nd rfl (E8 rfl)<|g9 N' (dn (pv 0) rfl) (pv 1) λ_ _=>rfl)
  (af (aU Fg rfl (bQ<|aA av (pv 3) aj λ_ _=>rfl) (ap (i:=4) sc.nd rfl<|E8 rfl)
   (ai<|aJ (aP<|aC QG hr (by lia) rfl<|aa (aA av (pv 4) aj λ_ _=>rfl)<|aa (pv 2) ae) (ai<|am<|aA av (pv 4) aj λ_ _=>rfl) az))
  (ai<|am<|aA av (pv 3) aj λ_ _=>rfl)))),?_⟩
 refine⟨_,rfl,_,rfl,x,CP,dx,_,_,rfl,h1,T.cl,T.ne,rfl,de,_,rfl,g,_,rfl,aG ?_⟩;exists _,rfl,x,CP,dx,_,_,rfl,h1,T.cl,T.ne,rfl,_,rfl,de,_,rfl,g;refine⟨_,rfl,.inr (.inl ⟨te,_,0,_,rfl,rfl,SqT.of b1,rfl,tr,rfl,⟨_,SqT.of b2⟩,dU (K:=K) (a:=tr) (xs:=rs)
  (sB x e b te H bs) ⟨A',rfl,rfl,rfl⟩ ?_ ?_ ?_⟩)⟩
 ·rintro i σ H2 _ ⟨_,_,e2,_⟩;rw[e2];exact SqT.of b2
 ·rintro i y σ H2 hy ⟨v4,rfl,rfl,JZ⟩;obtain⟨r,ND,qa,sv,rfl,c1,c2⟩:=b3.at_ i y hy;have YI:=Fd ND;have et:e.2.1.take (i+1)=e.2.1.take i++[r]:=by rw[FD,ND];rfl
  refine⟨_,rfl,.inr<|.inl ⟨qa,_,0,_,rfl,rfl,SqT.of c1,rfl,_,rfl,sv,b,r.1,bs,rfl,c2,hb,h9,(Rq r YI).2,_,rfl,?_⟩⟩;cases gh:r.1.all (cu bs)with
  |true=>
   refine aL ⟨_,rfl,.inr<|.inl ⟨qa,_,1,_,rfl,rfl,SqT.of c1,rfl,?_⟩⟩;have ea:ju e.2.1 bs e.2.2=r.2:=by
    unfold ju;have ef:e.2.1.find? (λr=>r.1.all<|cu bs)=ab r:=il ND JZ gh;rw[ef]
   rw[ea]at q;exact q
  |false=>
   exact aG ⟨_,rfl,rfl,gi ND JZ gh⟩
 ·rintro σ H2 ⟨v4,rfl,rfl,JZ⟩;rw[E3<|by rw[b3.len];exact lb _]at JZ;refine⟨_,rfl,.inr<|.inl ⟨te,_,1,_,rfl,rfl,SqT.of b1,rfl,?_⟩⟩;unfold ju at q;rw[JZ]at q;exact q
end
theorem qS{α β:Type}{f:α->β}(hf:∀a b,f a=f b->a=b){l:bc α}(h:l.Nodup):(l.map f).Nodup:=Kw f (λa b hab z=>hab<|hf a b z) h
theorem xp(h:H D=ab (.lst ys)):Kept H (upd H D<|.lst zs):=λb o n e=>by
 have hb:b≠D:=λz=>by
  rw[z,h]at e;rw[<-Fe e]at n;exact n
 rw[al hb];exact e
theorem Kept.trans(a:Kept H H1)(b:Kept H1 H2):Kept H H2:=λc o n h=>b c o n<|a c o n h
theorem OwnE.mono(h:OwnE H e te)(k:Kept H H'):OwnE H' e te:=by
 obtain⟨tr,rs,h1,h2,h3⟩:=h;exact⟨tr,rs,k _ _ trivial h1,k _ _ trivial h2,h3.mono k⟩
theorem sC:∀{kvs:bc (aS×V)} {j:Nat} {kv:aS×V},(kvs.map (·.1)).Nodup->kvs[j]? =ab kv->bH kvs kv.1=ab kv.2
 |[],_,_,_,h=>by simp at h
 |p::r,0,kv,_,h=>by
  have e:p=kv:=by simpa using h
  subst e;exact bL rfl
 |p::r,j+1,kv,n,h=>by
  rw[FA,GK]at n;have h':r[j]? =ab kv:=by simpa using h
  have PJ:¬p.1=kv.1:=λe=>n.1<|e▸IF (Fd h');rw[bE PJ];exact sC n.2 h'
theorem o6:∀{kvs:bc (aS×V)} {k:aS},k∉kvs.map (·.1)->bH kvs k=A'
 |[],_,_=>rfl
 |p::r,k,h=>by
  rw[FA,Fl,not_or]at h;rw[bE λe=>h.1 e.symm];exact o6 h.2
structure Pairs (H:Hp)(es:bc dm)(ts:bc f')(kvs:bc (aS×V)):Prop where
 tl:ts.length=es.length
 ks:kvs.map (·.1)=es.map λe=>(FS e.1:aS)
 tup:∀(j:Nat) (t:f') (kv:aS×V),ts[j]? =ab t->kvs[j]? =ab kv->H t=ab (.tup [kV kv.1,kv.2])
 own:∀(j:Nat) (e:dm),es[j]? =ab e->∃te,kvs[j]? =ab (FS e.1,.ref te)/\OwnE H e te
theorem Pairs.kl(h:Pairs H es ts kvs):kvs.length=es.length:=by
 have:=Gg Hv h.ks;simpa using this
theorem Pairs.snoc(h:Pairs H es ts kvs)(k:Kept H H')(ht:H' t=ab (.tup [.int e.1,.ref te]))(ho:OwnE H' e te):Pairs H' (es++[e]) (ts++[t]) (kvs++[(FS e.1,.ref te)]):=by
 have kl:=h.kl;refine⟨by simp [h.tl],by simp [h.ks],λj t' kv h1 h2=>?_,λj e' h1=>?_⟩
 ·by_cases hj:j < ts.length
  ·rw[Ga hj]at h1;rw[Ga<|by rw[kl,<-h.tl];exact hj]at h2;exact k _ _ trivial<|h.tup j t' kv h1 h2
  ·have hb:=(ES.mp h1).1;rw[C',FL]at hb;have ej:j=ts.length:=by lia
   subst ej;rw[F0<|lb _,HI]at h1;rw[F0 (by rw[kl,h.tl];exact lb _),kl,h.tl,HI]at h2;cases h1;cases h2;exact ht
 ·by_cases hj:j < es.length
  ·rw[Ga hj]at h1;obtain⟨te',a,b⟩:=h.own j e' h1;exact⟨te',by rw[Ga<|by rw[kl];exact hj];exact a,b.mono k⟩
  ·have hb:=(ES.mp h1).1;rw[C',FL]at hb;have ej:j=es.length:=by lia
   subst ej;rw[F0<|lb _,HI]at h1;cases h1;exact⟨te,by rw[F0 (by rw[kl];exact lb _),kl,HI];rfl,ho⟩
theorem Pairs.player(h:Pairs H es ts kvs)(nd:(es.map (·.1)).Nodup)(h1:H x=ab (.ins CP dx [("entries",.ref de)]))(h2:H de=ab (.dK kvs)):PlayerAt H CP x es/\(kvs.map (·.1)).Nodup:=by
 have nk:(kvs.map (·.1)).Nodup:=by
  rw[h.ks];have e:(es.map λe=>(FS e.1:aS))=(es.map (·.1)).map FS:=by rw[FX];rfl
  rw[e];exact qS (λ_ _ z=>GR z) nd
 refine⟨⟨dx,de,kvs,h1,h2,λv hv=>o6 ?_,λe he=>?_⟩,nk⟩
 ·rw[h.ks];intro hm;obtain⟨e,he,ee⟩:=FW.mp hm;exact hv e he<|GR ee
 ·obtain⟨j,hj⟩:=Ih.mp he;obtain⟨te,a,b⟩:=h.own j e hj;exact⟨te,sC nk a,b⟩
section
variable {K:gV}
theorem xq:ax ["self","plan"] ["self","plan"] (ah mm):=⟨rfl,rfl,rfl,by decide+kernel,rfl,by decide+kernel,by decide+kernel⟩
inductive sE (D:f')(H:Hp)(es:bc dm)(i:Nat)(σ:bc (kb V))(ys:bc V)(H2:Hp):Prop
 |mk (i0:(∃v0,σ=[v0]))(i1:H2 D=ab (.lst ys))(i2:Same H H2)(ts:bc f')(kvs:bc (aS×V))(i3:ys=ts.map V.ref)(i4:Pairs H2 (es.take i) ts kvs):sE D H es i σ ys H2
theorem zq(F:Fun K "__init__" "Planned.__init__" mm f fd)(T:BW K mg CP CN):FnOk P w K mg base bD 1 f fd ["self","plan"] (xm CP):=by
 have sc:=xq;refine F.ok xq (λvs H Q E h=>?_) λHL A outer s H vs Q E hr h=>?_
 ·obtain⟨x,dx,l,es,xs,G,rfl,_⟩:=h;rfl
 obtain⟨x,dx,l,es,xs,G,rfl,h1,h2,h3,nd,e9,r9,q⟩:=h;exists _,(ai<|jH (pv 0) (bn (gM rfl) rfl T.dict Jm<|aa (bj (NY:=["entry"]) (idx:=[A']) rfl ⟨by with_unfolding_all rfl,(by with_unfolding_all exact trivial),λ_=>by rfl,by rfl,by rfl,by rfl,by decide⟩ (bi<|pv 1) (λ_ _ _ _=>(ap (i:=0) (show Gd (["entry"]:bc Str) by decide+kernel) rfl<|E8 rfl)) (λ_ _ _ _=>b_) λ_ _ _ _=>(bx<|aa (aA (bR (K:=K) rfl) (pv 0) aj λ_ _=>rfl)<|aa (bx<|aa (bn (j_ (K:=K) rfl) rfl T.tuple GE<|aa (aA (bR (K:=K) rfl) (pv 0) aj λ_ _=>rfl) ae)<|aa (aA (bR (K:=K) rfl) (pv 0) aj λ_ _=>rfl) ae) ae)) ae) rfl);refine⟨_,rfl,l,rfl,⟨_,SqL.of h2⟩,λD hD=>?_⟩;refine cZ (K:=K) (a:=l) (xs:=xs) (sE D H es)
  ⟨⟨A',rfl⟩,ad,ag hD _,[],[],rfl,⟨rfl,rfl,λj t kv e=>by simp at e,λj e e1=>by simp at e1⟩⟩ ?_ ?_ ?_
 ·rintro i σ ys H2 _ ⟨_,MX,k,_⟩;exact⟨MX,SqL.of<|k _ _ h2⟩
 ·rintro i y σ ys H2 hy ⟨⟨v0,rfl⟩,MX,k,ts,kvs,rfl,hp⟩;obtain⟨e,he,p,lr,rs,rfl,p1,p2,p3,_⟩:=h3.at_ i y hy;have Wl:=k _ _ p1;have p2':=k _ _ p2;have IL:i < es.length:=(ES.mp he).1;have et:es.take (i+1)=es.take i++[e]:=by rw[FD,he];rfl
  refine dF ⟨_,rfl,.inr<|.inl ⟨p,_,0,_,rfl,rfl,SqT.of Wl,rfl,_,rfl,.inr<|.inl ⟨p,_,1,_,rfl,rfl,SqT.of Wl,rfl,lr,_,rfl,.inl ⟨SqL.of p2',λtr ZP=>?_⟩⟩⟩⟩;refine⟨_,rfl,.inr<|.inl ⟨p,_,2,_,rfl,rfl,SqT.of<|ag ZP _ _ _ Wl,rfl,(by show 2<=sizeLine;decide),λte ZQ=>⟨(by show 2<=sizeLine;decide),λpt S9=>?_⟩⟩⟩;have k3:=ag ZP<|.tup rs;have s3:upd H2 tr (.tup rs) tr=ab (.tup rs):=ad;generalize upd H2 tr (.tup rs)=H3 at k3 s3 ZQ S9 ⊢;have k4:=ag ZQ<|.tup [.ref tr,.bl e.2.2];have s4:upd H3 te (.tup [.ref tr,.bl e.2.2]) te=ab (.tup [.ref tr,.bl e.2.2]):=ad;generalize upd H3 te (.tup [.ref tr,.bl e.2.2])=H4 at k4 s4 S9 ⊢;have k5:=ag S9<|.tup [.int e.1,.ref te];have s5:upd H4 pt (.tup [.int e.1,.ref te]) pt=ab (.tup [.int e.1,.ref te]):=ad;generalize upd H4 pt (.tup [.int e.1,.ref te])=H5 at k5 s5 ⊢;have k25:=k3.trans<|k4.trans k5;have U_:=k25 _ _ MX;have kd:=xp (zs:=(ts++[pt]).map V.ref) U_;refine⟨U_,?_,⟨_,rfl⟩,ad,?_,ts++[pt],kvs++[(FS e.1,.ref te)],by simp,?_⟩
  ·rw[ka,hp.tl,FO];exact au (by lia)
  ·exact(k.trans k25).upd_new hD _
  ·rw[et];have e1:ts.map V.ref++[V.ref pt]=(ts++[pt]).map V.ref:=by simp
   rw[e1];exact hp.snoc ((Same.kept k25).trans kd) (kd _ _ trivial s5) ⟨tr,rs,kd _ _ trivial<|k5 _ _ s4,kd _ _ trivial<|k5 _ _<|k4 _ _ s3,(p3.mono<|Same.kept<|k.trans k25).mono kd⟩
 ·rintro σ ys H2 ⟨_,MX,k,ts,kvs,rfl,hp⟩;rw[E3<|by rw[h3.len];exact lb _]at hp;have x2:=k _ _ h1;refine⟨D,ts,kvs,rfl,MX,by rw[hp.kl,hp.tl],hp.tup,?_,by rw[hp.kl];exact FM e9 (by decide),λde hde=>?_⟩
  ·have e:(es.map λe=>(FS e.1:aS))=(es.map (·.1)).map FS:=by rw[FX];rfl
   rw[hp.ks,e];exact qS (λ_ _ z=>GR z) nd
  ·have k3:=ag hde<|.dK kvs;have s3:upd H2 de (.dK kvs) de=ab (.dK kvs):=ad;generalize upd H2 de (.dK kvs)=H3 at k3 s3 ⊢;have x3:=k3 _ _ x2;have PJ:de≠x:=λz=>by rw[z,x3]at s3;cases s3
   exists _,rfl,x,CP,dx,[],rfl,x3,T.cl,T.ne,(by decide);have kx:∀b o,b≠x->H3 b=ab o->upd H3 x (.ins CP dx [("entries",.ref de)]) b=ab o:=λb o hb e=>by rw[al hb];exact e
   refine q _ ?_ λb o hb e=>kx b o hb<|k3 _ _<|k _ _ e;have U2:Pairs (upd H3 x<|.ins CP dx [("entries",.ref de)]) es ts kvs:=by
    have kk:∀b o,(∀C d fs,o≠.ins C d fs)->H2 b=ab o->upd H3 x (.ins CP dx [("entries",.ref de)]) b=ab o:=λb o ho e=>kx b o (λz=>by
     subst z;rw[x2]at e;exact ho _ _ _ (Fe e).symm) (k3 _ _ e)
    refine⟨hp.tl,hp.ks,λj t kv a1 a2=>kk _ _ (λ_ _ _ z=>nomatch z)<|hp.tup j t kv a1 a2,λj e a1=>?_⟩;obtain⟨te,b1,tr,rs,c1,c2,c3⟩:=hp.own j e a1;refine⟨te,b1,tr,rs,kk _ _ (λ_ _ _ z=>nomatch z) c1,kk _ _ (λ_ _ _ z=>nomatch z) c2,c3.len,λi y hy=>?_⟩;obtain⟨r,d1,qa,sv,rfl,d2,d3⟩:=c3.at_ i y hy;exact⟨r,d1,qa,sv,rfl,kk _ _ (λ_ _ _ z=>nomatch z) d2,kk _ _ (λ_ _ _ z=>nomatch z) d3⟩
   exact(U2.player nd ad<|kx _ _ PJ s3).1
end
abbrev mn:Gs:=cH 68
def uJ(es:bc dm)(v:Int)(bs:bc ER):V:=match es.find? λe=>decide (e.1=v)with
 |some e=>.bl<|ju e.2.1 bs e.2.2
 |none=>.non
inductive AH (vs:bc V)(H:Hp)(Q:VK):Prop
 |mk (l b:f')(v:Int)(es:bc dm)(xs:bc V)(G:f'->Prop)(bs:bc ER)(h0:vs=[.ref l,.int v,.ref b])(h1:H l=ab (.lst xs))(h2:EntsAt H G es xs)(h3:H b=ab (.lst<|bs.map V.bl))(h4:bs.length<=900)(h5:∀e∈es,e.1=v->Near bs.length e.2.1)(q:∀H':Hp,Same H H'->Q (uJ es v bs) H'):AH vs H Q
def xr:Sp:=λvs H Q _=>AH vs H Q
theorem EntAt.mono(h:EntAt H G e x)(k:Same H H'):EntAt H' G e x:=by
 obtain⟨p,lr,rs,hx,h1,h2,h3,h4⟩:=h;exact⟨p,lr,rs,hx,k _ _ h1,k _ _ h2,h3.mono<|Same.kept k,h4⟩
def o7(bs:bc ER):V->ER
 |.int l=>!cu bs l
 |_=>B'
theorem xt(bs:bc ER)(c:bc Int):decide (V.int (((((c.map V.int).filter<|o7 bs).map id).length:Nat):Int)=V.int 0)=c.all (cu bs):=by
 rw[ka]
 induction c with
 |nil=>rfl
 |cons l r ih=>
  rw[FA,Ib];cases g:cu bs l with
  |true=>
   rw[FP (p:=o7 bs) (a:=V.int l) (by show¬(!cu bs l)=kz;rw[g];exact i'),ih];rfl
  |false=>
   rw[FJ (p:=o7 bs) (a:=V.int l) (by show(!cu bs l)=kz;rw[g];rfl),FI];exact E_ λz=>by
    have:=V.int.inj z;lia
theorem BX(h1:1<=ao l)(h2:ao l<=(bs.length:Int)):∃b,kL (bs.map V.bl) (ao l - 1)=ab (.bl b)/\(!decide (V.bl b=V.bl (decide (0 < l))))=!cu bs l:=by
 obtain⟨b,hb,e⟩:=fU (p:=decide (0 < l)) h1 h2;exists b,hb;rw[ja h1 h2]at e;rw[ff,V.bl.inj e]
section
variable {K:gV}
theorem xu:ax ["_law_plan_here","_law_variable","_law_begun","_law_mine","_law_rules","_law_otherwise","_law_literals","_law_value"] ["_law_plan_here","_law_variable","_law_begun"] (ah mn):=⟨rfl,rfl,rfl,by decide+kernel,rfl,by decide+kernel,by decide+kernel⟩
inductive o8 (l:f')(v:Int)(b:f')(H:Hp)(es:bc dm)(i:Nat)(σ:bc (kb V))(H2:Hp):Prop
 |mk (v3:kb V)(v4:kb V)(v5:kb V)(v6:kb V)(v7:kb V)(i0:σ=[ab (.ref l),ab (.int v),ab (.ref b),v3,v4,v5,v6,v7])(i1:Same H H2)(i2:(es.take i).find? (λe=>decide (e.1=v))=A'):o8 l v b H es i σ H2
inductive o9 (l:f')(v:Int)(b:f')(e:dm)(lr:f')(H2:Hp)(bs:bc ER)(j:Nat)(σ:bc (kb V))(H3:Hp):Prop
 |mk (v6:kb V)(v7:kb V)(i0:σ=[ab (.ref l),ab (.int v),ab (.ref b),ab (.int e.1),ab (.ref lr),ab (.bl e.2.2),v6,v7])(i1:Same H2 H3)(i2:(e.2.1.take j).find? (λr=>r.1.all<|cu bs)=A'):o9 l v b e lr H2 bs j σ H3
theorem zr(F:Fun K "_law_answer" "_law_answer" mn f fd)(T:oW mg):FnOk P w K mg base bD 1 f fd ["_law_plan_here","_law_variable","_law_begun"] xr:=by
 have sc:=xu;refine F.ok xu (λvs H Q E h=>?_) λHL A outer s H vs Q E hr h=>?_
 ·obtain⟨l,b,v,es,xs,G,bs,rfl,_⟩:=h;rfl
 obtain⟨l,b,v,es,xs,G,bs,rfl,h1,h2,h3,h9,Rq,q⟩:=h;have hu:=hr.units;refine⟨_,(af (aU Fg rfl (bi<|pv 0) (eF rfl<|aW (ap (i:=3) sc.nd rfl<|E8 rfl)<|aW (ap (i:=4) sc.nd rfl<|E8 rfl)<|aW (ap (i:=5) sc.nd rfl<|E8 rfl) dh)
   (ai (aJ (aD (aK hu) (pv 3) (pv 1)<|ay _) (af (aU Fg rfl (bi<|pv 4) (eF rfl<|aW (ap (i:=6) sc.nd rfl<|E8 rfl)<|aW (ap (i:=7) sc.nd rfl<|E8 rfl) dh)
     (ai<|aJ (aD (aK hu) (aq aH rfl T.len Fj<|aa (bj (NY:=["_law_one","_law_begun"]) (idx:=[A',ab 2]) rfl ⟨by with_unfolding_all rfl,(by with_unfolding_all exact⟨rfl,trivial⟩),λ_=>by rfl,by rfl,by rfl,by rfl,by decide⟩ (bQ<|pv 6) (λ_ _ _ _=>(ap (i:=0) (show Gd (["_law_one","_law_begun"]:bc Str) by decide+kernel) rfl<|E8 rfl)) (λ_ _ _ _=>(ca<|aD (gK hu) (aA (bR (K:=K) rfl) (pv 1) (aE eG (aq br rfl T.abs FG<|aa (pv 0) ae) aj) λ_ _=>rfl) (aM fF (pv 0) aj<|ay _)<|ay _)) λ_ _ _ _=>(pv 0)) ae) aj<|ay _) (ai<|am<|pv 7) az))
    (ai<|am<|pv 5)) az)))
  (ai<|am bw)),?_⟩
 refine⟨_,rfl,l,rfl,⟨_,SqL.of h1⟩,cw (K:=K) (a:=l) (xs:=xs) (o8 l v b H es) ⟨A',A',A',A',A',rfl,Same.refl _,rfl⟩ ?_ ?_ ?_⟩
 ·rintro i σ H2 _ ⟨_,_,_,_,_,_,k2,_⟩;exact SqL.of<|k2 _ _ h1
 ·rintro i x σ H2 hx ⟨v3,v4,v5,v6,v7,rfl,k2,JZ⟩;obtain⟨e,he,RM⟩:=h2.at_ i x hx;obtain⟨p,lr,rs,rfl,p1,p2,p3,_⟩:=RM.mono k2;have SK:=Fd he;have et:es.take (i+1)=es.take i++[e]:=by rw[FD,he];rfl
  exists p,_,rfl,SqT.of p1,rfl,_,_,rfl,_,_,rfl,_,_,rfl,rfl;refine⟨_,rfl,_,rfl,.inl ⟨rfl,_,rfl,?_⟩⟩;by_cases hv:e.1=v
  ·have ef:es.find? (λe=>decide (e.1=v))=ab e:=il he JZ<|E2 hv;have ed:uJ es v bs=.bl (ju e.2.1 bs e.2.2):=by
    unfold uJ;rw[ef]
   rw[ed]at q;rw[E2<|Gg V.int hv];refine aL ?_;refine⟨_,rfl,lr,rfl,⟨_,SqL.of p2⟩,cw (K:=K) (a:=lr) (xs:=rs) (o9 l v b e lr H2 bs) ⟨_,_,rfl,Same.refl _,rfl⟩ ?_ ?_ ?_⟩
   ·rintro j σ H3 _ ⟨_,_,_,k3,_⟩;exact SqL.of<|k3 _ _ p2
   ·rintro j y σ H3 hy ⟨v6,v7,rfl,k3,Rp⟩;obtain⟨r,ND,UY⟩:=p3.at_ j y hy;obtain⟨qa,sv,rfl,c1,c2⟩:=UY.mono<|Same.kept k3;have YI:=Fd ND;obtain⟨hr9,ZW⟩:=Rq e SK hv r YI;have et2:e.2.1.take (j+1)=e.2.1.take j++[r]:=by rw[FD,ND];rfl
    exists qa,_,rfl,SqT.of c1,rfl,_,_,rfl,_,_,rfl,rfl;refine⟨_,rfl,sv,rfl,⟨_,SqT.of c2⟩,λD hD=>?_⟩;refine cm [ab<|.ref b] (o7 bs) id rfl c2 hD (by rw[ka];lia) ?_ ?_ ?_
    ·intro x hx H' R k r';obtain⟨z,hz,rfl⟩:=fm hx;obtain⟨bb,Tf,Te⟩:=BX (ZW z hz).1 (ZW z hz).2;refine⟨_,rfl,_,rfl,z,rfl,_,_,rfl,rfl,.inl ⟨b,_,_,.bl bb,rfl,rfl,SqL.of<|k _ _<|k3 _ _<|k2 _ _ h3,Tf,_,rfl,_,_,rfl,rfl,.inl ⟨rfl,_,rfl,?_⟩⟩⟩;rw[Te];exact r'
    ·intro x hx _ H' R k r';exact⟨_,rfl,r'⟩
    ·have kD:=ag hD<|.lst<|((r.1.map V.int).filter<|o7 bs).map id;refine⟨.ref D,_,rfl,.inl ⟨_,SqL.of ad,rfl⟩,.inl ⟨rfl,_,rfl,?_⟩⟩;rw[xt];cases gh:r.1.all (cu bs)with
     |true=>
      have ea:ju e.2.1 bs e.2.2=r.2:=by
       unfold ju;have ef:e.2.1.find? (λr=>r.1.all<|cu bs)=ab r:=il ND Rp gh;rw[ef]
      rw[ea]at q;exact aL ⟨_,rfl,q _<|k2.trans<|k3.trans kD⟩
     |false=>
      exact aG ⟨_,_,rfl,k3.trans kD,gi ND Rp gh⟩
   ·rintro σ H3 ⟨v6,v7,rfl,k3,Rp⟩;rw[E3<|by rw[p3.len];exact lb _]at Rp;exists _,rfl;unfold ju at q;rw[Rp]at q;exact q _<|k2.trans k3
  ·rw[E_ λz=>hv<|V.int.inj z];exact aG ⟨_,_,_,_,_,rfl,k2,gi he JZ<|E_ hv⟩
 ·rintro σ H2 ⟨v3,v4,v5,v6,v7,rfl,k2,JZ⟩;rw[E3<|by rw[h2.len];exact lb _]at JZ;unfold uJ at q;rw[JZ]at q;exact q _ k2
end
abbrev mo:Gs:=cH 12
abbrev jb:Gs:=cH 13
structure BY (mg:Str->kb j'):Prop where
 any:mg "any"=A'
 all:mg "all"=A'
def qT:Sp:=λvs H Q _=>∃(p f:f') (c:bc Int) (bs:bc ER),vs=[.ref p,.ref f]/\H p=ab (.tup<|c.map V.int)/\H f=ab (.lst<|bs.map V.bl)/\bs.length<=900/\c.length<=900/\(∀l∈c,1<=ao l)/\∀H':Hp,Same H H'->Q (.bl<|c.any<|cu bs) H'
def im:Sp:=λvs H Q _=>∃(v:V) (f:f') (t:Str) (cs:bc (bc Int)) (bs:bc ER),vs=[v,.ref f]/\RD H (fz t cs) v/\H f=ab (.lst<|bs.map V.bl)/\bs.length<=900/\Small cs/\(∀c∈cs,∀l∈c,1<=ao l)/\∀H':Hp,Same H H'->Q (.bl<|cs.all λc=>c.any<|cu bs) H'
section
variable {K:gV}
theorem xv:ax ["clause","filling"] ["clause","filling"] (ah mo):=⟨rfl,rfl,rfl,by decide+kernel,rfl,by decide+kernel,by decide+kernel⟩
theorem zt(F:Fun K "some_stands" "some_stands" mo f fd)(T:BY mg)(Md:Fn P w K mg base 1 "stands_by" f1 d1 ["literal","filling"] kH):FnOk P w K mg base bD 2 f fd ["clause","filling"] qT:=by
 have sc:=xv;refine F.ok xv (λvs H Q E h=>?_) λHL A outer s H vs Q E hr h=>?_
 ·obtain⟨p,f,c,bs,rfl,_⟩:=h;rfl
 obtain⟨p,g,c,bs,rfl,hp,hg,h9,Up,J4,q⟩:=h;refine⟨_,(ai<|am<|aq (jQ rfl) rfl T.any Jx<|aa (bj (NY:=["literal","filling"]) (idx:=[A',ab 1]) rfl ⟨by with_unfolding_all rfl,(by with_unfolding_all exact⟨rfl,trivial⟩),λ_=>by rfl,by rfl,by rfl,by rfl,by decide⟩ (bQ<|pv 0) (λ_ _ _ _=>(ap (i:=0) (show Gd (["literal","filling"]:bc Str) by decide+kernel) rfl<|E8 rfl)) (λ_ _ _ _=>b_) λ_ _ _ _=>(aC Md hr (by lia) rfl<|aa (pv 0)<|aa (pv 1) ae)) ae),?_⟩;refine⟨_,rfl,p,rfl,⟨_,SqT.of hp⟩,λD hD=>?_⟩;refine cm [ab<|.ref g] (λ_=>kz) (B9 λl=>cj bs (ao l) (decide (0 < l))) rfl hp hD (by rw[ka];lia) (λ_ _ _ _ _ r=>r) ?_ ?_
 ·intro x hx _ H' R k r;obtain⟨z,hz,rfl⟩:=fm hx;exact⟨_,rfl,_,rfl,z,g,bs,rfl,k _ _ hg,h9,J4 z hz,r⟩
 rw[qo,FX];refine⟨D,_,rfl,SqL.of ad,?_,?_⟩
 ·exact oq c bs
 ·rw[qu c bs J4];exact q _<|ag hD _
theorem sF:ax ["sentence","filling"] ["sentence","filling"] (ah jb):=⟨rfl,rfl,rfl,by decide+kernel,rfl,by decide+kernel,by decide+kernel⟩
theorem xw(F:Fun K "comes_true" "comes_true" jb f fd)(T:BY mg)(KY:Fn P w K mg base 2 "some_stands" f1 d1 ["clause","filling"] qT):FnOk P w K mg base bD 3 f fd ["sentence","filling"] im:=by
 have sc:=sF;refine F.ok sF (λvs H Q E h=>?_) λHL A outer s H vs Q E hr h=>?_
 ·obtain⟨v,f,t,cs,bs,rfl,_⟩:=h;rfl
 obtain⟨v,g,t,cs,bs,rfl,hd,hg,h9,MW,J4,q⟩:=h;obtain⟨p,qa,xs,rfl,h1,h2,h3⟩:=cx hd;refine⟨_,(ai<|am<|aq (vB rfl) rfl T.all PB<|aa (bj (NY:=["clause","filling"]) (idx:=[A',ab 1]) rfl ⟨by with_unfolding_all rfl,(by with_unfolding_all exact⟨rfl,trivial⟩),λ_=>by rfl,by rfl,by rfl,by rfl,by decide⟩ (bi<|aA av (pv 0) aj λ_ _=>rfl) (λ_ _ _ _=>(ap (i:=0) (show Gd (["clause","filling"]:bc Str) by decide+kernel) rfl<|E8 rfl)) (λ_ _ _ _=>b_) λ_ _ _ _=>(aC KY hr (by lia) rfl<|aa (pv 0)<|aa (pv 1) ae)) ae),?_⟩;refine⟨_,rfl,.inr<|.inl ⟨p,_,1,.ref qa,rfl,rfl,SqT.of h1,rfl,qa,rfl,⟨_,SqL.of h2⟩,λD hD=>?_⟩⟩;refine cZ (K:=K) (a:=qa) (xs:=xs) (λi σ ys H2=>(∃v0,σ=[v0,ab<|.ref g])/\ys=(cs.take i).map (λc=>V.bl<|c.any<|cu bs)/\H2 D=ab (.lst ys)/\Same H H2) ⟨⟨A',rfl⟩,rfl,ad,ag hD _⟩ ?_ ?_ ?_
 ·rintro i σ ys H2 _ ⟨_,_,h,k⟩;exact⟨h,SqL.of<|k _ _ h2⟩
 ·rintro i x σ ys H2 hx ⟨⟨v0,rfl⟩,Lg,MX,k⟩;obtain⟨c,hc,tc,rfl,JA⟩:=h3.get hx;have Q8:=Fd hc;have e:cs.take (i+1)=cs.take i++[c]:=by rw[FD,hc];rfl
  refine dF ⟨_,rfl,_,rfl,tc,g,c,bs,rfl,k _ _ JA,k _ _ hg,h9,MW.2 c Q8,J4 c Q8,λH3 k3=>⟨k3 _ _ MX,?_,⟨_,rfl⟩,?_,ad,(k.trans k3).upd_new hD _⟩⟩
  ·have:ys.length<=cs.length:=by
    rw[Lg,ka,FO];lia
   exact au (by have:=MW.1;lia)
  ·rw[e,Fh,<-Lg];rfl
 ·rintro σ ys H2 ⟨_,Lg,MX,k⟩;rw[E3<|by rw[h3.length];exact lb _]at Lg;refine⟨D,ys,rfl,SqL.of MX,?_,?_⟩
  ·rw[Lg,Jt];exact Gq.mpr λ_ _=>rfl
  ·have e:ys.all gr=cs.all λc=>c.any (cu bs):=by
    rw[Lg,Jt];rfl
   rw[e];exact q H2 k
end
abbrev dN:=Nat->bc ER->ER
def bz(es:bc dm)(i:Nat)(bs:bc ER):ER:=match es.find? λe=>decide (e.1=1+(i:Int))with
 |some e=>ju e.2.1 bs e.2.2
 |none=>B'
def bU(t:Str)(hw:ER)(i:Nat):ER:=bP t i == hw
def dO(es:dN)(t:Str)(hw:ER)(i:Nat)(st:bc ER×bc ER):bc ER×bc ER:=if bU t hw i=kz then(st.1++[es i st.1],st.2)else(st.1++[st.2.headD B'],st.2.tail)
def bV(es:dN)(t:Str)(hw:ER)(os:bc ER):Nat->bc ER×bc ER
 |0=>([],os)
 |i+1=>dO es t hw i<|bV es t hw os i
def dS(t:Str)(hw:ER)(i:Nat):Nat:=((Fy i).filter λi=>!bU t hw i).length
theorem eY(t:Str)(hw:ER)(i:Nat):dS t hw (i+1)=dS t hw i+(if bU t hw i=kz then 0 else 1):=by
 unfold dS;rw[GJ,Gc,C'];cases g:bU t hw i with
 |true=>rw[FP<|by rw[g];decide];rfl
 |false=>rw[FJ<|by rw[g];rfl];rfl
theorem uK(t:Str)(hw:ER)(h:i<=j):dS t hw i<=dS t hw j:=by
 induction j with
 |zero=>rw[Nat.le_zero.mp h];exact lb _
 |succ j ih=>
  obtain g|g:=Nat.lt_or_ge i (j+1)
  ·have:=ih (by lia);rw[eY];lia
  ·rw[show i=j+1 by lia];exact lb _
theorem nu(t:Str)(hw:ER)(i:Nat):dS t hw i<=i:=by
 unfold dS;have:=FH (λi=>!bU t hw i)<|Fy i;rw[Gr]at this;exact this
theorem jc(es:dN)(t:Str)(hw:ER)(os:bc ER):∀i,(bV es t hw os i).1.length=i
 |0=>rfl
 |i+1=>by
  have ih:=jc es t hw os i;show(dO es t hw i<|bV es t hw os i).1.length=i+1
  unfold dO
  split
  ·rw[C',ih];rfl
  ·rw[C',ih];rfl
theorem mq(es:dN)(t:Str)(hw:ER)(os:bc ER):∀i,(bV es t hw os i).2.length=os.length - dS t hw i
 |0=>rfl
 |i+1=>by
  have ih:=mq es t hw os i;show(dO es t hw i<|bV es t hw os i).2.length=_
  rw[eY];unfold dO
  split
  ·exact ih
  ·rw[List.length_tail,ih];lia
def io(es:dN)(t:Str)(hw:ER):Nat->Nat->bc ER->bc ER->bc ER
 |0,_,bg,_=>bg
 |f+1,i,bg,r=>io es t hw f (i+1) (dO es t hw i (bg,r)).1 (dO es t hw i (bg,r)).2
theorem sG(es:dN)(t:Str)(hw:ER)(os:bc ER):∀f i,io es t hw f i (bV es t hw os i).1 (bV es t hw os i).2=(bV es t hw os<|i+f).1
 |0,_=>rfl
 |f+1,i=>by
  show io es t hw f (i+1) (bV es t hw os<|i+1).1 (bV es t hw os<|i+1).2=_
  rw[sG es t hw os f<|i+1,show i+1+f=i+(f+1) by lia]
def bN(es:dN)(t:Str)(hw:ER)(JC:bc ER->ER):Nat->Nat->bc ER->bc ER->kb (bc ER)
 |0,_,bg,ot=>if JC bg=kz then ab ot else A'
 |f+1,i,bg,ot=>if bU t hw i=kz then bN es t hw JC f (i+1) (bg++[es i bg]) ot else(bN es t hw JC f (i+1) (bg++[B'])<|ot++[B']).or (bN es t hw JC f (i+1) (bg++[kz])<|ot++[kz])
def fS:Nat->bc (bc ER)
 |0=>[[]]
 |m+1=>(fS m).map (B'::·)++(fS m).map (kz::·)
def kW(t:Str)(hw:ER):Nat->Nat->Nat
 |0,_=>0
 |f+1,i=>kW t hw f (i+1)+(if bU t hw i=kz then 0 else 1)
theorem xx(t:Str)(hw:ER):∀f i,dS t hw i+kW t hw f i=dS t hw (i+f)
 |0,_=>rfl
 |f+1,i=>by
  have ih:=xx t hw f<|i+1;rw[eY,show i+1+f=i+(f+1) by lia]at ih;show dS t hw i+(kW t hw f (i+1)+_)=_
  lia
theorem kI{α β:Type}(g:α->β)(p:β->ER):∀l:bc α,(l.map g).find? p=(l.find? λx=>p<|g x).map g
 |[]=>rfl
 |a::l=>by
  rw[FA,Gv,Gv];cases p (g a)with
  |true=>rfl
  |false=>exact kI g p l
theorem gj(es:dN)(t:Str)(hw:ER)(JC:bc ER->ER):∀f i bg ot,bN es t hw JC f i bg ot=((fS<|kW t hw f i).find? λr=>JC<|io es t hw f i bg r).map (ot++·)
 |0,i,bg,ot=>by
  show(if JC bg=kz then ab ot else A')=(N9 (λr=>JC bg) [[]]).map (ot++·)
  rw[Gv];cases JC bg with
  |true=>simp
  |false=>rfl
 |f+1,i,bg,ot=>by
  show(if bU t hw i=kz then bN es t hw JC f (i+1) (bg++[es i bg]) ot else(bN es t hw JC f (i+1) (bg++[B'])<|ot++[B']).or (bN es t hw JC f (i+1) (bg++[kz])<|ot++[kz]))
   =((fS<|kW t hw f (i+1)+(if bU t hw i=kz then 0 else 1)).find? λr=>JC<|io es t hw f (i+1) (dO es t hw i (bg,r)).1 (dO es t hw i (bg,r)).2).map (ot++·)
  unfold dO;cases g:bU t hw i with
  |true=>
   simp only [J5];exact gj es t hw JC f (i+1) _ ot
  |false=>
   simp only [IX,Lz];rw[gj es t hw JC f (i+1) _ _,gj es t hw JC f (i+1) _ _];show _=(N9 _ ((fS<|kW t hw f<|i+1).map (B'::·)++(fS<|kW t hw f<|i+1).map (kz::·))).map (ot++·)
   rw[Im,kI,kI];have e:∀b:ER,∀o:kb (bc ER),o.map ((ot++[b])++·)=(o.map (b::·)).map (ot++·):=λb o=>by
    cases o with
    |none=>rfl
    |some r=>simp
   rw[e,e];show _=Option.map (ot++·) ((((fS<|kW t hw f<|i+1).find? λr=>JC<|io es t hw f (i+1) (bg++[B']) r).map (B'::·)).or (((fS<|kW t hw f<|i+1).find? λr=>JC<|io es t hw f (i+1) (bg++[kz]) r).map (kz::·)))
   cases(fS<|kW t hw f<|i+1).find? λr=>JC (io es t hw f (i+1) (bg++[B']) r)<;>rfl
def jw(m x:Nat):bc ER:=(Fy m).map λk=>decide (x / 2 ^ (m - 1 - k) % 2=1)
theorem mr(b:ER)(h:x < 2 ^ m):jw (m+1) (if b=kz then 2 ^ m+x else x)=b::jw m x:=by
 unfold jw;rw[List.range_succ_eq_map,FA,FX];have p0:0 < 2 ^ m:=Nv m;refine List.cons_eq_cons.mpr ⟨?_,Ht λk hk=>?_⟩
 ·show decide ((if b=kz then 2 ^ m+x else x) / 2 ^ (m+1 - 1 - 0) % 2=1)=b
  rw[show m+1 - 1 - 0=m by lia];cases b with
  |true=>
   rw[Fc rfl,Nat.add_div_left _ p0,Nf h];rfl
  |false=>
   rw[E7 i',Nf h];rfl
 ·have L':k < m:=FZ.mp hk;show decide ((if b=kz then 2 ^ m+x else x) / 2 ^ (m+1 - 1 - (k+1)) % 2=1)=decide (x / 2 ^ (m - 1 - k) % 2=1)
  rw[show m+1 - 1 - (k+1)=m - 1 - k by lia];cases b with
  |false=>rw[E7 i']
  |true=>
   rw[Fc rfl];have e:2 ^ m=2 ^ (m - 1 - k)*(2*2 ^ k):=by
    rw[<-Nat.pow_succ',<-Nat.pow_add]
    congr 1
    lia
   rw[e,Nat.mul_add_div<|Nv _,Nat.mul_add_mod]
theorem mt:∀m,fS m=(Fy (2 ^ m)).map (jw m)
 |0=>rfl
 |m+1=>by
  have ih:=mt m;show(fS m).map (B'::·)++(fS m).map (kz::·)=_
  have er:Fy (2 ^ (m+1))=Fy (2 ^ m)++(Fy (2 ^ m)).map (2 ^ m+·):=by
   rw[show 2 ^ (m+1)=2 ^ m+2 ^ m by rw[ID];lia,List.range_add]
  rw[er,Fh,ih,FX,FX,FX]
  congr 1
  ·refine Ht λx hx=>?_;have:=mr B'<|FZ.mp hx;rw[E7 i']at this;exact this.symm
  ·refine Ht λx hx=>?_;have:=mr kz<|FZ.mp hx;rw[Fc rfl]at this;exact this.symm
theorem ip:∀m,∀r∈fS m,r.length=m
 |0,r,h=>by rw[Fb.mp h];rfl
 |m+1,r,h=>by
  obtain w|w:=FN.mp h
  ·obtain⟨z,hz,rfl⟩:=FW.mp w;rw[FI,ip m z hz]
  ·obtain⟨z,hz,rfl⟩:=FW.mp w;rw[FI,ip m z hz]
theorem o_(es:dN)(t:Str)(hw:ER)(JC:bc ER->ER)(n:Nat):bN es t hw JC n 0 [] []=(fS<|dS t hw n).find? λr=>JC (bV es t hw r n).1:=by
 rw[gj];have e:=xx t hw n 0;have e0:dS t hw 0=0:=rfl;rw[e0,Jn,Jn]at e;rw[e];have e2:(λr=>JC<|io es t hw n 0 [] r)=λr=>JC (bV es t hw r n).1:=by
  funext r
  have:=sG es t hw r n 0;rw[Jn]at this;exact Gg JC this
 rw[e2];cases N9 (λr=>JC (bV es t hw r n).1) (fS<|dS t hw n)<;>rfl
inductive OptAt (H:Hp):kb (bc ER)->V->Prop
 |no:OptAt H A' .non
 |yes (a:f') (r:bc ER) (h:H a=ab (.lst<|r.map V.bl)):OptAt H (ab r) (.ref a)
structure PlanOk (es:bc dm)(t:Str)(hw:ER):Prop where
 has:∀i,i < t.length->bU t hw i=kz->∃e,es.find? (λe=>decide (e.1=1+(i:Int)))=ab e/\e∈es/\e.1=1+(i:Int)
 near:∀e∈es,∃i:Nat,i < t.length/\e.1=1+(i:Int)/\Near i e.2.1
theorem PlanOk.nearAt{es:bc dm}{t:Str}{hw:ER}(h:PlanOk es t hw){e:dm}{i:Nat}(he:e∈es)(hi:e.1=1+(i:Int)):Near i e.2.1:=by
 obtain⟨j,_,e2,n⟩:=h.near e he;have:j=i:=by lia
 rw[<-this];exact n
def nF(es:dN)(t:Str)(hw:ER):Nat->bc ER->bc ER
 |0,bs=>bs
 |f+1,bs=>if bU t hw bs.length=kz then nF es t hw f (bs++[es bs.length bs])else bs
def Cb(es:dN)(t:Str)(hw:ER)(bs:bc ER):bc ER:=nF es t hw (t.length - bs.length) bs
theorem xy(es:dN)(t:Str)(hw:ER):∀f bs,bs.length<=(nF es t hw f bs).length/\(nF es t hw f bs).length<=bs.length+f
 |0,bs=>⟨lb _,lb _⟩
 |f+1,bs=>by
  unfold nF
  split
  ·have ih:=xy es t hw f<|bs++[es bs.length bs];rw[C']at ih;have e1:[es bs.length bs].length=1:=rfl;lia
  ·lia
theorem sH(es:dN)(t:Str)(hw:ER)(JC:bc ER->ER):∀f bg ot,bN es t hw JC f bg.length bg ot=
  if(nF es t hw f bg).length=bg.length+f then(if JC (nF es t hw f bg)=kz then ab ot else A')
  else(bN es t hw JC (bg.length+f - (nF es t hw f bg).length - 1) ((nF es t hw f bg).length+1) (nF es t hw f bg++[B'])<|ot++[B']).or
   (bN es t hw JC (bg.length+f - (nF es t hw f bg).length - 1) ((nF es t hw f bg).length+1) (nF es t hw f bg++[kz])<|ot++[kz])
 |0,bg,ot=>by
  show(if JC bg=kz then ab ot else A')=if bg.length=bg.length then(if JC bg=kz then ab ot else A')else _
  rw[Fc rfl]
 |f+1,bg,ot=>by
  show(if bU t hw bg.length=kz then bN es t hw JC f (bg.length+1) (bg++[es bg.length bg]) ot else(bN es t hw JC f (bg.length+1) (bg++[B'])<|ot++[B']).or (bN es t hw JC f (bg.length+1) (bg++[kz])<|ot++[kz]))=_
  cases g:bU t hw bg.length with
  |true=>
   have e:nF es t hw (f+1) bg=nF es t hw f (bg++[es bg.length bg]):=by
    show(if bU t hw bg.length=kz then _ else _)=_
    rw[g,Fc rfl]
   rw[Fc rfl,e];have ih:=sH es t hw JC f (bg++[es bg.length bg]) ot;have el:(bg++[es bg.length bg]).length=bg.length+1:=by rw[C'];rfl
   rw[el,show bg.length+1+f=bg.length+(f+1) by lia]at ih;exact ih
  |false=>
   have e:nF es t hw (f+1) bg=bg:=by
    show(if bU t hw bg.length=kz then _ else _)=_
    rw[g,E7 i']
   rw[E7 i',e,E7 (by lia),show bg.length+(f+1) - bg.length - 1=f by lia]
theorem nw(h:bs.length+f=t.length):Cb es t hw bs=nF es t hw f bs:=by
 unfold Cb;rw[show t.length - bs.length=f by lia]
abbrev u0:Gs:=cH 26
abbrev cU:Gs:=cH 27
def fC(cs:bc (bc Int))(hw:ER)(bs:bc ER):ER:=(cs.all λc=>c.any<|cu bs) != hw
theorem zu(t:Str)(hw:ER)(i:Nat):decide (bP t i=hw)=bU t hw i:=by
 unfold bU;cases bP t i<;>cases hw<;>rfl
theorem pb(b:ER):decide (V.str (aN b)=V.str (ET "wisher"))=b:=by
 have z:=dl b kz;have z2:aN kz=ET "wisher":=rfl;rw[z2]at z;rw[z];cases b<;>rfl
theorem gR(b:ER)(bs:bc ER):bs.map V.bl++[V.bl b]=(bs++[b]).map V.bl:=by simp
theorem xz(h:0 < n):LW 0 n=ab 0:=by
 unfold LW;have e:(decide ((0:Int)<=0)&&decide ((0:Int) < (n:Int)))=true:=by
  rw[E2 (by lia:(0:Int) < (n:Int))];rfl
 show(if(decide ((0:Int)<=0)&&decide ((0:Int) < (n:Int)))=kz then ab (0:Int).toNat else A')=ab 0
 rw[Fc e];rfl
structure zv (C:f')(PA:Hp->f'->dN->Str->ER->Prop):Prop where
 mono:∀{H H':Hp} {x:f'} {A:dN} {t:Str} {hw:ER},PA H x A t hw->Same H H'->PA H' x A t hw
 ins:∀{H:Hp} {x:f'} {A:dN} {t:Str} {hw:ER},PA H x A t hw->∃dx fs,H x=ab (.ins C dx fs)/\fs.lookup ("answer":Str)=A'
 off:∀{H H':Hp} {x T:f'} {A:dN} {t:Str} {hw:ER} {pos:Pos} {qual:Str},PA H x A t hw->Off T H H'->TabAt H T pos qual->PA H' x A t hw
inductive AI (PA:Hp->f'->dN->Str->ER->Prop)(vs:bc V)(H:Hp)(Q:VK):Prop
 |mk (x b:f')(A:dN)(t:Str)(hw:ER)(bs:bc ER)(h0:vs=[.ref x,.int<|(bs.length:Int)+1,.ref b])(h1:PA H x A t hw)(h2:H b=ab (.lst<|bs.map V.bl))(h3:bs.length < t.length)(h4:t.length<=8)(h5:bU t hw bs.length=kz)(q:∀H':Hp,Same H H'->Q (.bl<|A bs.length bs) H'):AI PA vs H Q
def ny(PA:Hp->f'->dN->Str->ER->Prop):Sp:=λvs H Q _=>AI PA vs H Q
inductive EB (PA:Hp->f'->dN->Str->ER->Prop)(vs:bc V)(H:Hp)(Q:VK):Prop
 |mk (p x b:f')(t:Str)(w:V)(hw:ER)(es:dN)(bg:bc ER)(h0:vs=[.ref p,.str<|aN hw,.ref x,.ref b])(h1:H p=ab (.tup [.str t,w]))(h2:t.length<=8)(h3:PA H x es t hw)(h5:H b=ab (.lst<|bg.map V.bl))(h6:bg.length<=t.length)
  (q:∀(l:f') (H':Hp),Same H H'->H l=A'->H' l=ab (.lst<|(Cb es t hw bg).map V.bl)->Q (.ref l) H'):EB PA vs H Q
def pc(PA:Hp->f'->dN->Str->ER->Prop):Sp:=λvs H Q _=>EB PA vs H Q
section
variable {K:gV}{PA:Hp->f'->dN->Str->ER->Prop}
theorem Dm:ax ["sentence","hand","player","begun","filling"] ["sentence","hand","player","begun"] (ah u0):=⟨rfl,rfl,rfl,by decide+kernel,rfl,by decide+kernel,by decide+kernel⟩
inductive xA (p x b l:f')(t:Str)(hw:ER)(es:dN)(bg:bc ER)(H:Hp)(m:Nat)(σ:St)(H4:Hp):Prop
 |mk (LR:bc ER)(i0:σ=[ab<|.ref p,ab<|.str<|aN hw,ab<|.ref x,ab<|.ref b,ab<|.ref l])(i1:H4 l=ab (.lst<|LR.map V.bl))(i2:LR.length+m=t.length)(i3:Cb es t hw bg=Cb es t hw LR)(i4:Same H H4):xA p x b l t hw es bg H m σ H4
theorem AJ{f4:f'}{d4:E6}(F:Fun K "played_on" "played_on" u0 f fd)(T:oW mg)(PK:zv CP PA)(HH:Fn P w K mg base 1 "hand_of" f1 d1 ["sentence","variable"] eJ)
  (MB:uX P w K mg base bD 5 CP "answer" f4 d4 ["self","variable","begun"] (ny PA)):FnOk P w K mg base bD 6 f fd ["sentence","hand","player","begun"] (pc PA):=by
 have sc:=Dm;refine F.ok Dm (λvs H Q E h=>?_) λHL A outer s H vs Q E hr h=>?_
 ·obtain⟨p,x,b,t,w,hw,es,bg,rfl,_⟩:=h;rfl
 obtain⟨p,x,b,t,w,hw,es,bg,rfl,h1,t8,Kj,hb,Sj,q⟩:=h;have hu:=hr.units;refine⟨_,(af (aB (i:=4) sc.nd rfl (E8 rfl)<|bn fh rfl T.list HM<|aa (pv 3) ae)
  (af (u6 Fg (PW.pt<|fb (aD kZ (aq aH rfl T.len Fj<|aa (pv 4) ae) (aq aH rfl T.len Fj<|aa (aA av (pv 0) aj λ_ _=>rfl) ae)<|ay _)<|du<|aD (aK hu) (aC HH hr (by lia) rfl<|aa (pv 0)<|aa (aE bI (aq aH rfl T.len Fj<|aa (pv 4) ae) aj) ae) (pv 1)<|ay _)
   (ai<|bG<|cK Fp FB FC bh (pv 4)<|aa (oB MB (pv 2) hr (by lia)<|aa (aE bI (aq aH rfl T.len Fj<|aa (pv 4) ae) aj)<|aa (pv 4) ae) ae))
  (ai<|am<|pv 4))),?_⟩
 refine⟨_,rfl,b,_,rfl,.inl<|SqL.of hb,λl nl=>?_⟩;have k1:=ag nl<|.lst<|bg.map V.bl;have s1:upd H l (.lst<|bg.map V.bl) l=ab (.lst<|bg.map V.bl):=ad;generalize upd H l (.lst<|bg.map V.bl)=H1 at k1 s1 ⊢;exists xA p x b l t hw es bg H,⟨t.length - bg.length,bg,rfl,s1,by lia,rfl,k1⟩;rintro m σ H4 ⟨LR,rfl,g1,g2,g3,k4⟩;have g0:=k4 _ _ h1;have nl4:p≠l:=qZ g0 g1 (by intro z;cases z);refine⟨_,rfl,.ref l,_,rfl,.inl ⟨_,SqL.of g1,rfl⟩,_,rfl,.inr<|.inl ⟨p,_,0,.str t,rfl,rfl,SqT.of g0,rfl,.str t,_,rfl,⟨FQ (au<|by lia),rfl⟩,_,_,rfl,rfl,_,rfl,?_⟩⟩;rw[ka];have Mx:∀{Q':Prop},(Cb es t hw LR=LR->Q')->(m=0\/bU t hw LR.length=B')->Q':=λhq hc=>hq (by
  rw[nw g2];obtain rfl|hc:=hc
  ·rfl
  ·cases m with
   |zero=>rfl
   |succ m=>
    show(if bU t hw LR.length=kz then _ else _)=_
    rw[hc,E7 i'])
 cases m with
 |zero=>
  rw[E_ (by lia:¬(LR.length:Int) < (t.length:Int))];refine aG<|aG ?_;refine⟨_,rfl,q l H4 k4 nl ?_⟩;rw[g3,Mx id<|.inl rfl];exact g1
 |succ m=>
  rw[E2 (by lia:(LR.length:Int) < (t.length:Int))];refine aL ?_;have hi:LR.length < t.length:=by lia
  refine⟨_,rfl,_,rfl,.ref l,_,rfl,.inl ⟨_,SqL.of g1,rfl⟩,_,_,rfl,rfl,p,t,w,LR.length,?_,g0,hi,by lia,_,rfl,.inl ⟨rfl,_,rfl,?_⟩⟩
  ·rw[ka];rfl
  rw[dl,zu];cases go:bU t hw LR.length with
  |true=>
   have U1:=PK.mono Kj k4;obtain⟨dx,fs,x1,xl⟩:=PK.ins U1;refine aL ⟨xA p x b l t hw es bg H m,λσ' H' z=>⟨m,JJ _,z⟩,?_⟩;refine⟨_,rfl,.inl ⟨rfl,_,SqL.of g1⟩,_,rfl,x,dx,_,rfl,x1,xl,_,rfl,.ref l,_,rfl,.inl ⟨_,SqL.of g1,rfl⟩,_,_,rfl,rfl,_,rfl,x,l,es,t,hw,LR,(by rw[ka];rfl),U1,g1,hi,t8,go,λH5 k5=>⟨l,_,_,rfl,rfl,k5 _ _ g1,?_,?_⟩⟩
   ·rw[ka];exact au (by lia)
   refine⟨LR++[es LR.length LR],rfl,?_,?_,?_,(k4.trans k5).upd_new nl _⟩
   ·rw[ad,<-gR]
   ·rw[C'];show LR.length+1+m=t.length
    lia
   ·rw[g3,nw g2,nw (f:=m) (by rw[C'];show LR.length+1+m=t.length;lia)];show(if bU t hw LR.length=kz then _ else _)=_
    rw[go,Fc rfl]
  |false=>
   refine aG ⟨_,rfl,q l H4 k4 nl ?_⟩;rw[g3,Mx id<|.inr go];exact g1
end
structure xB (P:E9)(w:Ft)(K:gV)(mg:Str->kb j')(base:FU)(lf:f')(JC:bc ER->ER)(n:Nat)(C:Hp->Prop):Prop where
 mono:∀H H',Same H H'->C H->C H'
 obj:∀H,C H->∃o fd,H lf=ab (cq lf o)/\o.data=.func fd
 fn:BC P w K mg base 4 lf (λvs H Q _=>∃(l:f') (bs:bc ER),vs=[.ref l]/\C H/\H l=ab (.lst<|bs.map V.bl)/\bs.length=n/\∀H',Same H H'->Q (.bl<|JC bs) H')
inductive xC (P:E9)(w:Ft)(K:gV)(mg:Str->kb j')(base:FU)(PA:Hp->f'->dN->Str->ER->Prop)(fu:Nat)(vs:bc V)(H:Hp)(Q:VK):Prop
 |mk (p x lf b o:f')(t:Str)(wv:V)(hw:ER)(es:dN)(JC:bc ER->ER)(C:Hp->Prop)(bg ot:bc ER)(h0:vs=[.ref p,.str<|aN hw,.ref x,.ref lf,.ref b,.ref o])(h1:H p=ab (.tup [.str t,wv]))(t8:t.length<=8)(pl:PA H x es t hw)
  (L:xB P w K mg base lf JC t.length C) (hC:C H) (h2:H b=ab (.lst<|bg.map V.bl)) (h3:H o=ab (.lst<|ot.map V.bl)) (h4:bg.length+fu=t.length) (h5:ot.length<=bg.length)
  (q:∀(v:V) (H':Hp),Same H H'->OptAt H' (bN es t hw JC fu bg.length bg ot) v->(∀a,v=.ref a->a=o\/H a=A')->Q v H'):xC P w K mg base PA fu vs H Q
def sI(P:E9)(w:Ft)(K:gV)(mg:Str->kb j')(base:FU)(PA:Hp->f'->dN->Str->ER->Prop)(fu:Nat):Sp:=λvs H Q _=>xC P w K mg base PA fu vs H Q
def cG(P:E9)(w:Ft)(K:gV)(mg:Str->kb j')(base:FU)(PA:Hp->f'->dN->Str->ER->Prop)(n:Nat):Sp:=λvs H Q E=>∃g,g < n/\sI P w K mg base PA g vs H Q E
section
variable {K:gV}{PA:Hp->f'->dN->Str->ER->Prop}
theorem sJ:ax ["sentence","hand","player","loses","begun","others","filling","value","found"] ["sentence","hand","player","loses","begun","others"] (ah cU):=⟨rfl,rfl,rfl,by decide+kernel,rfl,by decide+kernel,by decide+kernel⟩
inductive AK (p x lf b o l:f')(hw:ER)(es:dN)(t:Str)(JC:bc ER->ER)(fl ot:bc ER)(g:Nat)(H1:Hp)(j:Nat)(σ:St)(H2:Hp):Prop
 |mk (v7:kb V)(v8:kb V)(i0:σ=[ab<|.ref p,ab<|.str<|aN hw,ab<|.ref x,ab<|.ref lf,ab<|.ref b,ab<|.ref o,ab<|.ref l,v7,v8])(i1:Same H1 H2)(i2:(1<=j->bN es t hw JC g (fl.length+1) (fl++[B']) (ot++[B'])=A'))(i3:(2<=j->bN es t hw JC g (fl.length+1) (fl++[kz]) (ot++[kz])=A')):AK p x lf b o l hw es t JC fl ot g H1 j σ H2
theorem nz{fu:Nat}(F:Fun K "first_loss" "first_loss" cU f fd)(T:oW mg)(PK:zv CP PA)(JD:Fn P w K mg base 6 "played_on" f4 d4 ["sentence","hand","player","begun"] (pc PA))
  (Lx:Fn P w K mg base (fu+6) "first_loss" f fd ["sentence","hand","player","loses","begun","others"] (cG P w K mg base PA fu)):FnOk P w K mg base bD (fu+7) f fd ["sentence","hand","player","loses","begun","others"] (sI P w K mg base PA fu):=by
 have sc:=sJ;refine F.ok sJ (λvs H Q E h=>?_) λHL A outer s H vs Q E hr h=>?_
 ·obtain⟨p,x,lf,b,o,t,wv,hw,es,JC,C,bg,ot,rfl,_⟩:=h;rfl
 obtain⟨p,x,lf,b,o,t,wv,hw,es,JC,C,bg,ot,rfl,h1,t8,Kj,L,hC,hb,ho,G',hot,q⟩:=h;have hu:=hr.units;refine⟨_,(af (aB (i:=6) sc.nd rfl (E8 rfl)<|aC JD hr (by lia) rfl<|aa (pv 0)<|aa (pv 1)<|aa (pv 2)<|aa (pv 4) ae)
  (af (aJ (aD (aK hu) (aq aH rfl T.len Fj<|aa (pv 6) ae) (aq aH rfl T.len Fj<|aa (aA av (pv 0) aj λ_ _=>rfl) ae)<|ay _) (ai<|am<|fE (aP<|wf (k:=4) (i:=3) (hr.mono<|by lia)<|aa (pv 6) ae) (pv 5) bw) az)
  (af (aU Fg rfl (bQ<|bx<|aa bK<|aa bK ae) (ap (i:=7) sc.nd rfl<|E8 rfl)
   (af (aB (i:=8) sc.nd rfl (E8 rfl)<|aC Lx hr (by lia) rfl<|aa (pv 0)<|aa (pv 1)<|aa (pv 2)<|aa (pv 3)<|aa (aE fi (pv 6)<|be<|aa (pv 7) ae)<|aa (aE fi (pv 5)<|be<|aa (pv 7) ae) ae)
   (ai<|aJ (aD gU (pv 8) bw<|ay _) (ai<|am<|pv 8) az)))
  (ai<|am bw)))),?_⟩
 refine⟨_,rfl,_,rfl,_,rfl,_,rfl,p,x,b,t,wv,hw,es,bg,rfl,h1,t8,Kj,hb,by lia,λl H1 k1 nl hl=>?_⟩;have g1:=k1 _ _ h1;rw[nw G']at hl;have hon:=xy es t hw fu bg;rw[sH]at q;generalize nF es t hw fu bg=fl at hl hon q;refine⟨_,rfl,.ref l,_,rfl,.inl ⟨_,SqL.of hl,rfl⟩,_,rfl,.inr<|.inl ⟨p,_,0,.str t,rfl,rfl,SqT.of g1,rfl,.str t,_,rfl,⟨FQ (au<|by lia),rfl⟩,.inl ⟨rfl,_,rfl,?_⟩⟩⟩;rw[ka];by_cases hf:fl.length=t.length
 ·rw[E2 (show V.int (fl.length:Nat)=V.int (t.length:Nat) by rw[hf])];rw[Fc (show fl.length=bg.length+fu by lia)]at q;obtain⟨ob,fdb,e1,e2⟩:=L.obj H1<|L.mono _ _ k1 hC;refine aL ⟨lf,rfl,_,rfl,_,ob,fdb,L.fn,e1,e2,l,fl,rfl,L.mono _ _ k1 hC,hl,hf,λH2 k2=>⟨_,rfl,?_⟩⟩;have NA:=k1.trans k2;cases g:JC fl with
  |true=>
   rw[g,Fc rfl]at q;exact aL ⟨_,rfl,q _ H2 NA (.yes o ot<|NA _ _ ho) λa z=>.inl (V.ref.inj z).symm⟩
  |false=>
   rw[g,E7 i']at q;exact aG<|q _ H2 NA .no λa z=>nomatch z
 ·rw[E_ (show¬V.int (fl.length:Nat)=V.int (t.length:Nat)from λz=>hf (by have:=V.int.inj z;lia))];rw[E7 (show¬fl.length=bg.length+fu by lia)]at q;have eg:fl.length+1+(bg.length+fu - fl.length - 1)=t.length:=by lia
  have ge:bg.length+fu - fl.length - 1 < fu:=by lia
  generalize bg.length+fu - fl.length - 1=g at eg ge q;refine aG ⟨(by show 2<=sizeLine;decide),λa na=>?_⟩;have k2:=ag na<|.tup [.bl B',.bl kz];have s2:upd H1 a (.tup [.bl B',.bl kz]) a=ab (.tup [.bl B',.bl kz]):=ad;generalize upd H1 a (.tup [.bl B',.bl kz])=H2 at k2 s2 ⊢;have NA:=k1.trans k2;refine⟨a,rfl,⟨_,SqT.of s2⟩,dU (K:=K) (a:=a) (xs:=[.bl B',.bl kz]) (AK p x lf b o l hw es t JC fl ot g H2)
   ⟨A',A',rfl,Same.refl _,λz=>by lia,λz=>by lia⟩ ?_ ?_ ?_⟩
  ·rintro j σ H3 _ ⟨_,_,_,k3,_⟩;exact SqT.of<|k3 _ _ s2
  ·rintro j y σ H3 hy ⟨v7,v8,rfl,k3,w1,w2⟩;have O5:=NA.trans k3;obtain⟨bb,rfl,hj⟩:∃bb,y=.bl bb/\((j=0/\bb=B')\/(j=1/\bb=kz)):=by
    obtain rfl|rfl:=(by have:=(ES.mp hy).1;simp at this;lia:j=0\/j=1)
    ·exact⟨B',by simpa using hy.symm,.inl ⟨rfl,rfl⟩⟩
    ·exact⟨kz,by simpa using hy.symm,.inr ⟨rfl,rfl⟩⟩
   refine⟨_,rfl,_,rfl,_,rfl,_,rfl,_,rfl,_,rfl,(by show 1<=sizeLine;decide),λl1 n1=>?_⟩;have k4:=ag n1<|.lst [.bl bb];refine⟨l,l1,_,_,rfl,rfl,k4 _ _<|k3 _ _<|k2 _ _ hl,ad,?_,λl2 n2=>?_⟩
   ·rw[ka];exact FQ<|au (by show fl.length+1<=1000;lia)
   have k5:=k4.trans<|ag n2<|.lst<|fl.map V.bl++[.bl bb];have s5:upd (upd H3 l1<|.lst [.bl bb]) l2 (.lst<|fl.map V.bl++[.bl bb]) l2=ab (.lst<|(fl++[bb]).map V.bl):=by rw[ad,gR]
   generalize upd (upd H3 l1<|.lst [.bl bb]) l2 (.lst<|fl.map V.bl++[.bl bb])=H5 at k5 s5 ⊢;refine⟨_,rfl,_,rfl,(by show 1<=sizeLine;decide),λl3 n3=>?_⟩;have k6:=ag n3<|.lst [.bl bb];refine⟨o,l3,_,_,rfl,rfl,k6 _ _<|k5 _ _<|O5 _ _ ho,ad,?_,λl4 n4=>?_⟩
   ·rw[ka];exact FQ<|au (by show ot.length+1<=1000;lia)
   have n4':H5 l4=none:=k6.free n4;have k7:=k6.trans<|ag n4<|.lst<|ot.map V.bl++[.bl bb];have s7:upd (upd H5 l3<|.lst [.bl bb]) l4 (.lst<|ot.map V.bl++[.bl bb]) l4=ab (.lst<|(ot++[bb]).map V.bl):=by rw[ad,gR]
   generalize upd (upd H5 l3<|.lst [.bl bb]) l4 (.lst<|ot.map V.bl++[.bl bb])=H7 at k7 s7 ⊢;have TQ:=O5.trans<|k5.trans k7;refine⟨g,ge,p,x,lf,l2,l4,t,wv,hw,es,JC,C,fl++[bb],ot++[bb],rfl,TQ _ _ h1,t8,PK.mono Kj TQ,L,L.mono _ _ TQ hC,k7 _ _ s5,s7,(by rw[C'];exact eg),(by rw[C',C'];show ot.length+1<=fl.length+1;lia),λv H' k' hv YE=>?_⟩;rw[C']at hv;have PH:OptAt H' (bN es t hw JC g (fl.length+1) (fl++[bb])<|ot++[bb]) v:=hv;have k0':=TQ.trans k';have ZK:=k3.trans<|k5.trans<|k7.trans k';exists _,rfl,rfl,_,rfl;cases Se:bN es t hw JC g (fl.length+1) (fl++[bb]) (ot++[bb])with
   |none=>
    rw[Se]at PH;cases PH;refine Ee rfl ?_;obtain⟨rfl,rfl⟩|⟨rfl,rfl⟩:=hj
    ·exact⟨_,_,rfl,ZK,λ_=>Se,λz=>by lia⟩
    ·exact⟨_,_,rfl,ZK,λ_=>w1<|lb _,λ_=>Se⟩
   |some r=>
    rw[Se]at PH;cases PH with
    |yes a' r' ha'=>
     have en:decide (V.ref a'=V.non)=false:=E_ λz=>by cases z
     rw[en];refine aL ⟨_,rfl,q _ H' k0' ?_ λa2 z=>.inr ?_⟩
     ·obtain⟨rfl,rfl⟩|⟨rfl,rfl⟩:=hj
      ·rw[Se];exact .yes a' r ha'
      ·rw[w1<|lb _,Se];exact .yes a' r ha'
     ·obtain h|h:=YE a2 z
      ·rw[h];exact(O5.trans k5).free n4'
      ·exact TQ.free h
  ·rintro σ H3 ⟨v7,v8,rfl,k3,w1,w2⟩;rw[w1 (by decide),w2<|by decide]at q;exact q _ H3 (NA.trans k3) .no λa z=>nomatch z
theorem sK(F:Fun K "first_loss" "first_loss" cU f fd)(T:oW mg)(PK:zv CP PA)(JD:Fn P w K mg base 6 "played_on" f4 d4 ["sentence","hand","player","begun"] (pc PA))
  (b:Binds K fd ["sentence","hand","player","loses","begun","others"] []) (kp:x' K (.ref f)=kz) (at_:mg "first_loss"=ab (.ref f)):∀fu,FnOk P w K mg base bD (fu+6) f fd ["sentence","hand","player","loses","begun","others"]<|cG P w K mg base PA fu
 |0=>⟨λ_ _ _ _ h=>by obtain⟨_,z,_⟩:=h;lia,λ_ _ _ _ _ _ _ _ _ _ _ _ _ h=>by obtain⟨_,z,_⟩:=h;lia⟩
 |fu+1=>by
  have ih:=sK F T PK JD b kp at_ fu;have st:=nz (fu:=fu) F T PK JD ⟨ih,b,kp,at_⟩;refine⟨λvs H Q E h=>?_,λA outer s H args us vs Q E hr e0 hb hv h=>?_⟩
  ·obtain⟨g,_,p,x,lf,b,o,t,wv,hw,es,JC,C,bg,ot,rfl,_⟩:=h;rfl
  ·obtain⟨g,hg,h⟩:=h;by_cases e:g=fu
   ·subst e;exact st.run A outer s H args us vs Q E hr e0 hb hv h
   ·exact ih.run A outer s H args us vs Q E (hr.mono<|by lia) e0 hb hv ⟨g,by lia,h⟩
theorem pd(F:Fun K "first_loss" "first_loss" cU f fd)(T:oW mg)(PK:zv CP PA)(JD:Fn P w K mg base 6 "played_on" f4 d4 ["sentence","hand","player","begun"] (pc PA))
  (b:Binds K fd ["sentence","hand","player","loses","begun","others"] []) (kp:x' K (.ref f)=kz) (at_:mg "first_loss"=ab (.ref f)):FnOk P w K mg base bD 15 f fd ["sentence","hand","player","loses","begun","others"] (cG P w K mg base PA 9):=sK F T PK JD b kp at_ 9
end
abbrev jd:Gs:=cH 16
abbrev mv:Gs:=cH 18
def pe:Sp:=λvs H Q _=>∃(v:Int) (b:ER),vs=[.int v,.bl b]/\Q (.int (if b=kz then v else -v)) H
def xD:Sp:=λvs H Q _=>∃(v:V) (b:f') (t:Str) (cs:bc (bc Int)) (bs:bc ER),vs=[v,.ref b]/\RD H (fz t cs) v/\H b=ab (.lst<|bs.map V.bl)/\cs.length<=900/\(∀c∈cs,c.length<=900)/\(∀c∈cs,∀l∈c,1<=ao l)/\
 ∀(p q:f') (ys:bc V) (H':Hp),Same H H'->H q=A'->H' p=ab (.tup [.str t,.ref q])->H' q=ab (.lst ys)->CLs H' (mN bs cs) ys->Q (.ref p) H'
structure EC (mg:Str->kb j'):Prop where
 tuple:mg "tuple"=A'
 list:mg "list"=A'
 enumerate:mg "enumerate"=A'
section
variable {K:gV}
theorem zw:ax ["variable","value"] ["variable","value"] (ah jd):=⟨rfl,rfl,rfl,by decide+kernel,rfl,by decide+kernel,by decide+kernel⟩
theorem xE(F:Fun K "literal_by" "literal_by" jd f fd):FnOk P w K mg base bD 1 f fd ["variable","value"] pe:=by
 refine F.ok zw (λvs H Q E h=>?_) λHL A outer s H vs Q E hr h=>?_
 ·obtain⟨v,b,rfl,_⟩:=h;rfl
 obtain⟨v,b,rfl,q⟩:=h;exists _,(ai<|am<|fE (aP<|pv 1) (pv 0)<|dC cC<|pv 0);exists _,rfl,b,rfl;cases b with
 |true=>exact⟨_,rfl,q⟩
 |false=>exact⟨_,rfl,_,rfl,q⟩
theorem xF:ax ["sentence","begun","clauses","place","value"] ["sentence","begun"] (ah mv):=⟨rfl,rfl,rfl,by decide+kernel,rfl,by decide+kernel,by decide+kernel⟩
theorem zx(F:Fun K "left_of" "left_of" mv f fd)(T:EC mg)(HW:Fn P w K mg base 1 "literal_by" f1 d1 ["variable","value"] pe)(Gu:Fn P w K mg base 1 "clauses_behind" f2 d2 ["clauses","literal"] dg):
  FnOk P w K mg base bD 2 f fd ["sentence","begun"] xD:=by
 have sc:=xF;refine F.ok xF (λvs H Q E h=>?_) λHL A outer s H vs Q E hr h=>?_
 ·obtain⟨v,b,t,cs,bs,rfl,_⟩:=h;rfl
 obtain⟨v,b,t,cs,bs,rfl,hd,hb,hn,Up,J4,q⟩:=h;obtain⟨p,qa,xs,rfl,h1,h2,h3⟩:=cx hd;have hu:=hr.units;refine⟨_,(af (aB (i:=2) sc.nd rfl (E8 rfl)<|bn fh rfl T.list HM<|aa (aA av (pv 0) aj λ_ _=>rfl) ae)
  (af (aU Fg rfl (hJ rfl T.enumerate<|pv 1) (eF rfl<|aW (ap (i:=3) sc.nd rfl<|E8 rfl)<|aW (ap (i:=4) sc.nd rfl<|E8 rfl) dh)
   (ai<|aB (i:=2) sc.nd rfl (E8 rfl)<|aC Gu hr (by lia) rfl<|aa (pv 2)<|aa (aC HW hr (by lia) rfl<|aa (aE bI (pv 3) aj)<|aa (pv 4) ae) ae))
  (ai<|am<|bx<|aa (aA av (pv 0) aj λ_ _=>rfl)<|aa (pv 2) ae))),?_⟩
 refine⟨_,rfl,.inr<|.inl ⟨p,_,1,.ref qa,rfl,rfl,SqT.of h1,rfl,qa,xs,rfl,.inl<|SqL.of h2,λl0 Ud=>?_⟩⟩;have k1:Same H (upd H l0<|.lst xs):=ag Ud _;refine⟨_,rfl,b,rfl,⟨_,SqL.of<|k1 _ _ hb⟩,fJ (K:=K) (a:=b) (xs:=bs.map V.bl)
  (λi σ H2=>∃l v3 v4,σ=[ab<|.ref p,ab<|.ref b,ab<|.ref l,v3,v4]/\H l=A'/\∃ys,H2 l=ab (.lst ys)/\CLs H2 (mN (bs.take i) cs) ys/\Same H H2)
  ⟨l0,A',A',rfl,Ud,xs,ad,by rw[N7,yL J4];exact h3.mono k1,k1⟩ ?_ ?_ ?_⟩
 ·rintro i σ H2 _ ⟨_,_,_,_,_,_,_,_,k2⟩;exact SqL.of<|k2 _ _ hb
 ·rintro i x σ H2 t1 hx ⟨l,v3,v4,rfl,hl,ys,g1,g2,k2⟩ ht1;have PM:i < bs.length:=by
   have:=(ES.mp hx).1
   rwa [ka]at this
  obtain⟨bb,rfl,Za⟩:∃bb,x=.bl bb/\bs[i]? =ab bb:=by
   rw[Fk]at hx;cases e:bs[i]? with
   |none=>rw[e]at hx;cases hx
   |some z=>rw[e]at hx;exact⟨z,(Fe hx).symm,rfl⟩
  have k3:Same H2 (upd H2 t1<|.tup [.int i,.bl bb]):=ag ht1 _;exists t1,_,rfl,SqT.of ad,rfl,_,_,rfl,_,_,rfl,rfl;exists _,rfl,_,rfl,_,_,rfl,rfl,_,rfl,_,bb,rfl;have cl9:∀c∈mN (bs.take i) cs,c.length<=900:=λc hc=>by
   obtain⟨d,hd,rfl⟩:=qm hc;exact FM (FH _ _)<|Up d hd
  refine⟨l,_,ys,mN (bs.take i) cs,rfl,k3 _ _ g1,g2.mono k3,FM (rB _ _) hn,cl9,λl2 ys2 H4 k4 NG g3 g4=>?_⟩;have k5:=k2.trans<|k3.trans k4;refine⟨l2,_,_,rfl,(k2.trans k3).free NG,ys2,g3,?_,k5⟩;have e:bs.take (i+1)=bs.take i++[bb]:=by rw[FD,Za];rfl
  rw[e,n5 J4];have el:(bs.take i).length=i:=by rw[FO];lia
  rw[el];exact g4
 ·rintro σ H2 ⟨l,v3,v4,rfl,hl,ys,g1,g2,k2⟩;rw[ka,E3<|lb _]at g2;refine⟨_,rfl,.inr<|.inl ⟨p,_,0,.str t,rfl,rfl,SqT.of<|k2 _ _ h1,rfl,_,rfl,(by show 2<=sizeLine;decide),λp2 RI=>?_⟩⟩;have k3:Same H2 (upd H2 p2<|.tup [.str t,.ref l]):=ag RI _;exact q p2 l ys _ (k2.trans k3) hl ad (k3 _ _ g1)<|g2.mono k3
end
abbrev jr:Gs:=cH 54
abbrev mw:Gs:=cH 55
def xG(f:Nat):Sp:=λvs H Q _=>∃(t:Str) (q:f') (i:Nat) (xs:bc V) (cs:bc (bc Int)),vs=[.str t,.ref q,.int<|(i:Int)+1]/\H q=ab (.lst xs)/\CLs H cs xs/\Small cs/\Rng i t.length cs/\t.length=i+f/\t.length<=900/\
 ∀H':Hp,Same H H'->Q (.str<|aN<|ci t f i cs) H'
def AL:Nat->Sp
 |0=>λ_ _ _ _=>False
 |f+1=>xG f
def sL(n:Nat):Sp:=λvs H Q E=>∃f,f<=n/\xG f vs H Q E
def xH:Sp:=λvs H Q _=>∃(v:V) (b:f') (t:Str) (cs:bc (bc Int)) (bs:bc ER),vs=[v,.ref b]/\RD H (fz t cs) v/\H b=ab (.lst<|bs.map V.bl)/\Small cs/\Rng 0 t.length cs/\t.length<=8/\bs.length<=t.length/\
 ∀H':Hp,Same H H'->Q (.str<|aN<|ci t (t.length - bs.length) bs.length<|mN bs cs) H'
section
variable {K:gV}
theorem xI:ax ["turns","clauses","variable","hand","value","left"] ["turns","clauses","variable"] (ah jr):=⟨rfl,rfl,rfl,by decide+kernel,rfl,by decide+kernel,by decide+kernel⟩
theorem qU{fu:Nat}{f3 f4:f'}{d3 d4:E6}(F:Fun K "winner_left" "winner_left" jr f fd)(T:uZ mg)(HH:Fn P w K mg base 1 "hand_of" f1 d1 ["sentence","variable"] eJ)(HV:Fn P w K mg base 1 "other_hand" f2 d2 ["hand"] ib)
  (HW:Fn P w K mg base 1 "literal_by" f3 d3 ["variable","value"] pe) (Gu:Fn P w K mg base 1 "clauses_behind" f4 d4 ["clauses","literal"] dg) (KW:Fn P w K mg base (fu+1) "winner_left" f fd ["turns","clauses","variable"] (AL fu)):
  FnOk P w K mg base bD (fu+2) f fd ["turns","clauses","variable"] (xG fu):=by
 have sc:=xI;refine F.ok xI (λvs H Q E h=>?_) λHL A outer s H vs Q E hr h=>?_
 ·obtain⟨t,q,i,xs,cs,rfl,_⟩:=h;rfl
 obtain⟨t,qa,i,xs,cs,rfl,hq,hcs,MW,Px,G',h9,q⟩:=h;have hu:=hr.units;refine⟨_,(af (aJ (aD (By hu) (bx ae) (pv 1)<|by with_unfolding_all rfl) (ai<|am<|ba rfl T.g_SPOILER) az)
  (af (aJ (bO<|jG (pv 1) λ_=>rfl) (ai<|am<|ba rfl T.g_WISHER) az)
  (af (aB (i:=3) sc.nd rfl (E8 rfl)<|aC HH hr (by lia) rfl<|aa (bx<|aa (pv 0)<|aa (pv 1) ae)<|aa (pv 2) ae)
  (af (aU Fg rfl (bQ<|bx<|aa bK<|aa bK ae) (ap (i:=4) sc.nd rfl<|E8 rfl)
   (af (aB (i:=5) sc.nd rfl (E8 rfl)<|aC Gu hr (by lia) rfl<|aa (pv 1)<|aa (aC HW hr (by lia) rfl<|aa (pv 2)<|aa (pv 4) ae) ae)
   (ai<|aJ (aD (aK hu) (aC KW hr (by lia) rfl<|aa (pv 0)<|aa (pv 5)<|aa (aE bI (pv 2) aj) ae) (pv 3)<|ay _) (ai<|am<|pv 3) az)))
  (ai<|am<|aC HV hr (by lia) rfl<|aa (pv 3) ae))))),?_⟩
 refine⟨FF _,λe he=>⟨_,rfl,.tuple [],cs.map rm,cX ad bM,di (by rw[al<|ak hq he];exact hq) (hcs.mono<|ag he _).rds,(by decide+kernel),jU cs,(by decide+kernel),_,rfl,?_⟩⟩;rw[yO];have k1:Same H (upd H e<|.tup []):=ag he _;generalize upd H e (.tup [])=H1 at k1;cases g1:cs.contains []with
 |true=>
  rw[hX g1]at q;exact aL<|q H1 k1
 |false=>
 refine aG ?_;have RH:=k1 _ _ hq;exists _,rfl,!xs.isEmpty,.inl ⟨xs,SqL.of RH,rfl⟩;have exs:xs.isEmpty=cs.isEmpty:=by
  have:=hcs.length;cases cs<;>cases xs
  ·rfl
  ·cases this
  ·cases this
  ·rfl
 rw[exs];cases g2:cs.isEmpty with
 |true=>
  have e0:cs=[]:=Nh.mp g2;rw[e0,jY]at q;exact aL<|q H1 k1
 |false=>
 refine aG ?_;have hfu:=Px.fuel g1 g2;obtain⟨gu,rfl⟩:∃gu,fu=gu+1:=⟨fu - 1,by lia⟩;refine⟨_,rfl,_,rfl,(by show 2<=sizeLine;decide),λp hp=>?_⟩;have k2:Same H1 (upd H1 p<|.tup [.str t,.ref qa]):=ag hp _;have rp:upd H1 p (.tup [.str t,.ref qa]) p=ab (.tup [.str t,.ref qa]):=ad;generalize upd H1 p (.tup [.str t,.ref qa])=H2 at k2 rp;exists _,rfl,p,t,_,i,rfl,rp,hfu,h9;refine⟨(by show 2<=sizeLine;decide),λa ha=>?_⟩;have k3:Same H2 (upd H2 a<|.tup [.bl B',.bl kz]):=ag ha _;have ra:upd H2 a (.tup [.bl B',.bl kz]) a=ab (.tup [.bl B',.bl kz]):=ad;generalize upd H2 a (.tup [.bl B',.bl kz])=H3 at k3 ra;have O5:=k1.trans<|k2.trans k3;refine⟨a,rfl,⟨_,SqT.of ra⟩,dU (K:=K) (a:=a) (xs:=[.bl B',.bl kz])
  (λj σ H4=>∃v4 v5,σ=[ab<|.str t,ab<|.ref qa,ab<|.int<|(i:Int)+1,ab<|.str<|aN<|bP t i,v4,v5]/\Same H3 H4/\(1<=j->ci t gu (i+1) (behind (lit i B') cs)≠bP t i)/\(2<=j->ci t gu (i+1) (behind (lit i kz) cs)≠bP t i))
  ⟨A',A',rfl,Same.refl _,λz=>by lia,λz=>by lia⟩ ?_ ?_ ?_⟩
 ·rintro j σ H4 _ ⟨_,_,_,k4,_⟩;exact SqT.of<|k4 _ _ ra
 ·rintro j x σ H4 hx ⟨v4,v5,rfl,k4,w1,w2⟩;have RP:=O5.trans k4;obtain⟨bb,rfl,hj⟩:∃bb,x=.bl bb/\((j=0/\bb=B')\/(j=1/\bb=kz)):=by
   obtain rfl|rfl:=(by have:=(ES.mp hx).1;simp at this;lia:j=0\/j=1)
   ·exact⟨B',by simpa using hx.symm,.inl ⟨rfl,rfl⟩⟩
   ·exact⟨kz,by simpa using hx.symm,.inr ⟨rfl,rfl⟩⟩
  exists _,rfl,_,rfl,_,rfl,(i:Int)+1,bb,rfl;have el:(if bb=kz then(i:Int)+1 else -((i:Int)+1))=lit i bb:=rfl;rw[el];refine⟨qa,_,xs,cs,rfl,RP _ _ hq,hcs.mono RP,MW.1,MW.2,λq2 ys H5 k5 RQ r5 c5=>?_⟩;exists _,rfl,_,rfl,_,rfl,_,_,rfl,rfl;refine⟨t,q2,i+1,ys,behind (lit i bb) cs,?_,r5,c5,MW.behind _,Px.behind bb,by lia,h9,λH6 k6=>?_⟩
  ·have:((i:Int)+1+1)=(((i+1:Nat):Int)+1):=by lia
   rw[<-this];rfl
  refine⟨_,rfl,.inl ⟨rfl,_,rfl,?_⟩⟩;rw[dl];refine hE (λg=>?_) λg=>?_
  ·have z:=yN g1 g2 bb<|Fv g;rw[z]at q;exact⟨_,rfl,q H6<|RP.trans<|k5.trans k6⟩
  ·have z:ci t gu (i+1) (behind (lit i bb) cs)≠bP t i:=λz=>g<|E2 z;obtain⟨rfl,rfl⟩|⟨rfl,rfl⟩:=hj
   ·exact⟨_,_,rfl,k4.trans<|k5.trans k6,λ_=>z,λz=>by lia⟩
   ·exact⟨_,_,rfl,k4.trans<|k5.trans k6,λ_=>w1<|lb _,λ_=>z⟩
 ·rintro σ H4 ⟨v4,v5,rfl,k4,w1,w2⟩;have z:=vL g1 g2 (w1<|by decide) (w2<|by decide);rw[z]at q;exact⟨_,rfl,_,rfl,q H4<|O5.trans k4⟩
theorem xJ{f3 f4:f'}{d3 d4:E6}(F:Fun K "winner_left" "winner_left" jr f fd)(T:uZ mg)(HH:Fn P w K mg base 1 "hand_of" f1 d1 ["sentence","variable"] eJ)(HV:Fn P w K mg base 1 "other_hand" f2 d2 ["hand"] ib)
  (HW:Fn P w K mg base 1 "literal_by" f3 d3 ["variable","value"] pe) (Gu:Fn P w K mg base 1 "clauses_behind" f4 d4 ["clauses","literal"] dg) (b:Binds K fd ["turns","clauses","variable"] []) (kp:x' K (.ref f)=kz) (at_:mg "winner_left"=ab (.ref f)):
  ∀fu,FnOk P w K mg base bD (fu+1) f fd ["turns","clauses","variable"]<|AL fu
 |0=>⟨λ_ _ _ _ h=>h.elim,λ_ _ _ _ _ _ _ _ _ _ _ _ _ h=>h.elim⟩
 |fu+1=>qU F T HH HV HW Gu ⟨xJ F T HH HV HW Gu b kp at_ fu,b,kp,at_⟩
theorem BZ{f3 f4:f'}{d3 d4:E6}(F:Fun K "winner_left" "winner_left" jr f fd)(T:uZ mg)(HH:Fn P w K mg base 1 "hand_of" f1 d1 ["sentence","variable"] eJ)(HV:Fn P w K mg base 1 "other_hand" f2 d2 ["hand"] ib)
  (HW:Fn P w K mg base 1 "literal_by" f3 d3 ["variable","value"] pe) (Gu:Fn P w K mg base 1 "clauses_behind" f4 d4 ["clauses","literal"] dg) (b:Binds K fd ["turns","clauses","variable"] []) (kp:x' K (.ref f)=kz) (at_:mg "winner_left"=ab (.ref f)):
  FnOk P w K mg base bD 10 f fd ["turns","clauses","variable"] (sL 8):=by
 have R:=xJ F T HH HV HW Gu b kp at_;refine⟨λvs H Q E h=>?_,λA outer s H args us vs Q E hr e0 hb hv h=>?_⟩
 ·obtain⟨fu,_,t,q,i,xs,cs,rfl,_⟩:=h;rfl
 ·obtain⟨fu,hf,h⟩:=h;exact(R<|fu+1).run A outer s H args us vs Q E (hr.mono<|by lia) e0 hb hv h
theorem xK:ax ["sentence","begun","left"] ["sentence","begun"] (ah mw):=⟨rfl,rfl,rfl,by decide+kernel,rfl,by decide+kernel,by decide+kernel⟩
theorem zy(F:Fun K "winner_from" "winner_from" mw f fd)(T:uZ mg)(RB:Fn P w K mg base 2 "left_of" f1 d1 ["sentence","begun"] xD)(KW:Fn P w K mg base 10 "winner_left" f2 d2 ["turns","clauses","variable"] (sL 8)):
  FnOk P w K mg base bD 11 f fd ["sentence","begun"] xH:=by
 have sc:=xK;refine F.ok xK (λvs H Q E h=>?_) λHL A outer s H vs Q E hr h=>?_
 ·obtain⟨v,b,t,cs,bs,rfl,_⟩:=h;rfl
 obtain⟨v,b,t,cs,bs,rfl,hd,hb,MW,Px,h8,Sj,q⟩:=h;have hu:=hr.units;have J4:∀c∈cs,∀l∈c,1<=ao l:=λc hc l hl=>by
  have:=Px c hc l hl;lia
 refine⟨_,(af (aB (i:=2) sc.nd rfl (E8 rfl)<|aC RB hr (by lia) rfl<|aa (pv 0)<|aa (pv 1) ae)
  (ai<|am<|aC KW hr (by lia) rfl<|aa (aA av (pv 2) aj λ_ _=>rfl)<|aa (aA av (pv 2) aj λ_ _=>rfl)<|aa (aE bI (aq aH rfl T.len Fj<|aa (pv 1) ae) aj) ae)),?_⟩
 refine⟨_,rfl,_,rfl,v,b,t,cs,bs,rfl,hd,hb,MW.1,MW.2,J4,λp qa ys H1 k1 _ g1 g2 g3=>?_⟩;refine⟨_,rfl,.inr<|.inl ⟨p,_,0,.str t,rfl,rfl,SqT.of g1,rfl,_,rfl,.inr<|.inl ⟨p,_,1,.ref qa,rfl,rfl,SqT.of g1,rfl,_,rfl,.ref b,_,rfl,.inl ⟨_,SqL.of<|k1 _ _ hb,rfl⟩,_,_,rfl,rfl,?_⟩⟩⟩;refine⟨t.length - bs.length,by lia,t,qa,bs.length,ys,mN bs cs,by rw[ka];rfl,g2,g3,⟨FM (rB _ _) MW.1,λc hc=>?_⟩,λc hc l hl=>?_,by lia,by lia,λH2 k2=>q H2<|k1.trans k2⟩
 ·obtain⟨d,hd,rfl⟩:=qm hc;exact FM (FH _ _)<|MW.2 d hd
 ·obtain⟨d,hd,rfl⟩:=qm hc;obtain⟨h1,h2⟩:=Gf.mp hl;exact⟨Fv h2,(Px d hd l h1).2⟩
end
abbrev fw:Gs:=cH 28
abbrev eM:F':=Ek (Ej<|ar fw) 3
abbrev nA:Str:=("losing_play":Str)++".<locals>."++"<lambda>"
structure LoseIn (PA:Hp->f'->dN->Str->ER->Prop)(H:Hp)(p x:f')(t:Str)(cs:bc (bc Int))(hw:ER)(es:dN):Prop where
 rd:RD H (fz t cs) (.ref p)
 t8:t.length<=8
 pl:PA H x es t hw
 sm:Small cs
 pos:∀c∈cs,∀l∈c,1<=ao l
theorem LoseIn.mono{PA:Hp->f'->dN->Str->ER->Prop}(PK:zv CP PA)(h:LoseIn PA H p x t cs hw es)(k:Same H H'):LoseIn PA H' p x t cs hw es:=⟨dY k _ _ h.rd,h.t8,PK.mono h.pl k,h.sm,h.pos⟩
abbrev xL(H:Hp)(T:f'):Prop:=TabAt H T (El eM) nA
theorem LoseIn.off{CP p x T:f'}{PA:Hp->f'->dN->Str->ER->Prop}{H H':Hp}{t:Str}{cs:bc (bc Int)}{hw:ER}{es:dN}{pos:Pos}{qual:Str}(PK:zv CP PA)(h:LoseIn PA H p x t cs hw es)(k:Off T H H')(tb:TabAt H T pos qual):LoseIn PA H' p x t cs hw es:=⟨qB h.rd k tb,h.t8,PK.off h.pl k tb,h.sm,h.pos⟩
theorem OptAt.to(h:OptAt H r v)(k:∀a xs,H a=ab (.lst xs)->H' a=ab (.lst xs)):OptAt H' r v:=by
 cases h with
 |no=>exact .no
 |yes a r ha=>exact .yes a r<|k _ _ ha
inductive xM (PA:Hp->f'->dN->Str->ER->Prop)(T:f')(vs:bc V)(H:Hp)(Q:VK):Prop
 |mk (p x:f')(t:Str)(cs:bc (bc Int))(hw:ER)(es:dN)(h0:vs=[.ref p,.str<|aN hw,.ref x])(h1:LoseIn PA H p x t cs hw es)(h2:xL H T)
  (q:∀(v:V) (H':Hp),Off T H H'->xL H' T->OptAt H' (bN es t hw (fC cs hw) t.length 0 [] []) v->(∀a,v=.ref a->H a=A')->Q v H'):xM PA T vs H Q
def iq(PA:Hp->f'->dN->Str->ER->Prop)(T:f'):Sp:=λvs H Q _=>xM PA T vs H Q
section
variable {K:gV}{PA:Hp->f'->dN->Str->ER->Prop}
theorem sM:ax ["sentence","hand","player"] ["sentence","hand","player"] (ah fw):=⟨rfl,rfl,rfl,by decide+kernel,rfl,by decide+kernel,by decide+kernel⟩
theorem zA:oF "filling" ["sentence","hand"] (BH eM):=⟨rfl,rfl,rfl,rfl,HJ.mpr ⟨rfl,HJ.mpr ⟨rfl,J3 _⟩⟩,by decide+kernel,by decide+kernel,by decide+kernel⟩
theorem uL{lf p:f'}{o1 o2:Obj}{hw:ER}(TH:uZ mg)(Ly:Fn P w K mg base 3 "comes_true" f1 d1 ["sentence","filling"] im)(t8:t.length<=8)(MW:Small cs)(J4:∀c∈cs,∀l∈c,1<=ao l)(ne:a1≠a2):
  xB P w K mg base lf (fC cs hw) t.length (λH=>LamAt H lf nA (BF eM) (BG eM) (BH eM) [("sentence",a1),("hand",a2)]/\CapAt H [(a1,o1),(a2,o2)] [.ref p,.str<|aN hw]/\RD H (fz t cs) (.ref p)):=by
 refine⟨λH H' k h=>⟨h.1.mono λb o z=>k _ _ z,h.2.1.mono λb o z=>k _ _ z,dY k _ _ h.2.2⟩,λH h=>?_,?_⟩
 ·obtain⟨pm,O8,c,e,_⟩:=h.1;exact⟨_,_,e,rfl⟩
 refine yW (k:=3) (qual:=nA) (params:=BF eM) (body:=BG eM) zA (λ_ _ _ _ _=>rfl) λvs H Q E h=>?_;obtain⟨l,bs,rfl,⟨YY,RY,ZX⟩,hl,hn,hq⟩:=h;refine⟨.ref l,[(a1,o1),(a2,o2)],[.ref p,.str<|aN hw],rfl,YY,RY,rfl,?_,λc A outer s hr=>?_⟩
 ·show [a1,a2].Nodup
  simp [ne]
 have hu:=hr.units;have T:=TH;refine⟨_,(aM (gK hu) (aC Ly hr (by omega) rfl<|aa (pv 1)<|aa (pv 0) ae) (aM (aK hu) (pv 2) (ba rfl T.g_WISHER)<|ay _)<|ay _),?_⟩;refine⟨_,rfl,_,rfl,.ref p,l,t,cs,bs,rfl,yX ZX RY,RY.less hl (λ_ z=>nomatch z),by omega,MW,J4,λH1 k1=>⟨_,rfl,.inl ⟨rfl,.inl ⟨rfl,?_⟩⟩⟩⟩;rw[pb,ff];exact hq _<|ue RY.look k1
theorem pf{f2:f'}{d2:E6}(F:FunL K "losing_play" "losing_play" fw f fd c)(L:iK mg base c T)(TH:uZ mg)(PK:zv CP PA)(Ly:Fn P w K mg base 3 "comes_true" f1 d1 ["sentence","filling"] im)
  (Lx:Fn P w K mg base 15 "first_loss" f2 d2 ["sentence","hand","player","loses","begun","others"] (cG P w K mg base PA 9)):FnOk P w K mg base bD 16 f fd ["sentence","hand","player"] (iq PA T):=by
 have sc:=sM;refine F.ok sM (λvs H Q E h=>?_) λA outer s H vs Q E hr h=>?_
 ·obtain⟨p,x,t,cs,hw,es,rfl,_⟩:=h;rfl
 obtain⟨p,x,t,cs,hw,es,rfl,QY,tab,q⟩:=h;refine⟨_,(ai<|am<|BE ["sentence","hand"] Lx hr (by lia) rfl (λ_=>rfl) (HJ.mpr ⟨rfl,HJ.mpr ⟨rfl,J3 _⟩⟩)<|aa (pv 0)<|aa (pv 1)<|aa (pv 2)<|aa (BB L rfl)<|aa (be ae)<|aa (be ae) ae),?_⟩;refine⟨_,rfl,_,rfl,_,rfl,tab,λlf H1 nlf off tab1 ZJ=>⟨FF _,λb nb=>⟨FF _,λo no=>?_⟩⟩⟩;have k2:=ag nb<|.lst [];have Yj:upd H1 b (.lst []) o=none:=no;have sb:upd (upd H1 b<|.lst []) o (.lst []) b=ab (.lst []):=ag Yj _ _ _ ad;have k3:=k2.trans<|ag Yj<|.lst [];have so:upd (upd H1 b<|.lst []) o (.lst []) o=ab (.lst []):=ad;have n1o:H1 o=none:=k2.free Yj;refine⟨?_,λce hce JZ=>?_⟩
 ·intro y hy;obtain rfl|hy:=Fl.mp hy
  ·exact⟨0,_,rfl,rfl⟩
  ·obtain rfl|hy:=Fl.mp hy
   ·exact⟨1,_,rfl,rfl⟩
   ·exact absurd hy (by simp)
 cases hce with
 |cons c1 r1=>
 cases r1 with
 |cons c2 r2=>
 cases r2;rename_i q1 q2;obtain⟨a1,o1⟩:=q1;obtain⟨a2,o2⟩:=q2;obtain⟨e1,u1,d1,v1⟩:=c1;obtain⟨e2,u2,d2,v2⟩:=c2;have z1:=v1 0 (.ref p) rfl rfl;have z2:=v2 1 (.str<|aN hw) rfl rfl;have Sm:ab _=ab a1:=e1;have Zl:ab _=ab a2:=e2;have ne:a1≠a2:=λz=>by
  have i:=(Fe Sm).trans<|z.trans (Fe Zl).symm;exact absurd i<|Fi<|JJ _
 have Yr:LamAt H1 lf nA (BF eM) (BG eM) (BH eM) [("sentence",a1),("hand",a2)]:=by
  rw[<-Fe Sm,<-Fe Zl];exact ZJ
 clear e1 e2 Sm Zl ZJ v1 v2;generalize upd (upd H1 b<|.lst []) o (.lst [])=H3 at sb k3 so JZ;have in1:HX a1 [(a1,o1),(a2,o2)]=ab o1:=by simp
 have in2:HX a2 [(a1,o1),(a2,o2)]=ab o2:=by
  have hb:(a2 == a1)=false:=by simpa using GP ne
  rw[Hh,hb];simp
 have kp:Same H3 (gx H3 [(a1,o1),(a2,o2)]):=uc JZ;have k4:=k3.trans kp;have Th:CapAt (gx H3 [(a1,o1),(a2,o2)]) [(a1,o1),(a2,o2)] [.ref p,.str<|aN hw]:=.cons ⟨eE in1,u1,d1,z1⟩<|.cons ⟨eE in2,u2,d2,z2⟩ .nil;have SI:=LoseIn.mono PK (LoseIn.off PK QY off tab) k4;obtain⟨pp,qa,zs,ep,p1,p2,p3⟩:=cx SI.rd;cases ep;refine⟨t.length,Nat.lt_succ_of_le QY.t8,p,x,lf,b,o,t,_,hw,es,fC cs hw,_,[],[],rfl,p1,QY.t8,SI.pl,uL TH Ly QY.t8 QY.sm QY.pos ne,⟨Yr.mono λb o z=>k4 _ _ z,Th,SI.rd⟩,kp _ _ sb,kp _ _ so,(by show 0+t.length=t.length;lia),lb _,λv H' k' hv YE=>?_⟩;have ko:=v_ JZ k';refine q v _ (off.same<|k3.trans ko) (tab1.mono<|k3.trans ko) ?_ λa z=>?_
 ·refine hv.to λa xs ha=>?_;obtain y|⟨o',y⟩:=aT [(a1,o1),(a2,o2)] a
  ·rw[bu y];exact ha
  ·rw[k' a _<|eE y]at ha;cases ha
 ·obtain h|h:=YE a z
  ·rw[h];exact off.free tab1 n1o
  ·exact off.free tab1<|k4.free h
end
abbrev je:Gs:=cH 48
inductive sN (vs:bc V)(H:Hp)(Q:VK):Prop
 |mk (p q:f')(t:Str)(xs:bc V)(cs ds:bc (bc Int))(v:V)(d:Fq)(h0:vs=[.ref p,v])(h1:SentAt H p q t xs cs)(h2:RD H d v)(h3:DC d)(h4:bJ t cs d=ab ds)
  (h5:∀(r l:f') (ys:bc V) (H':Hp),Same H H'->H l=A'->H' r=ab (.tup [.str t,.ref l])->H' l=ab (.lst ys)->CLs H' ds ys->Q (.ref r) H'):sN vs H Q
def ph:Sp:=λvs H Q _=>sN vs H Q
theorem AM{H:Hp}{s:Nx}{p:f'}(h:H p=ab (.tup s.zs)):RD H s.d (.ref p):=by
 cases s with
 |unit i=>exact cX h<|aO (gJ _)<|aO (fj _) bM
 |drop i=>exact cX h<|aO (gJ _)<|aO (fj _) bM
 |pure z=>exact cX h<|aO (gJ _)<|aO (fj _) bM
 |within i j=>exact cX h<|aO (gJ _)<|aO (fj _)<|aO (fj _) bM
 |blocked i z=>exact cX h<|aO (gJ _)<|aO (fj _)<|aO (fj _) bM
theorem Dn(s:Nx):DC s.d:=by
 cases s with
 |unit i=>exact λds e=>by cases e;exact rX
 |drop i=>exact λds e=>by cases e;exact rW
 |pure z=>exact λds e=>by cases e;exact rY
 |within i j=>exact λds e=>by cases e;exact lV
 |blocked i z=>exact λds e=>by cases e;exact kr
section
variable {K:gV}
theorem uM(F:Fun K "smaller_by" "smaller_by" iU f fd)(NO:Fn P w K mg base 5 "clauses_after" g gd ["sentence","step"] rZ):FnOk P w K mg base bD 6 f fd ["sentence","step"] ph:=by
 have sc:=se;refine F.ok se (λvs H Q E h=>?_) λHL A outer s H vs Q E hr h=>?_
 ·obtain⟨p,q,t,xs,cs,ds,v,d,rfl,_⟩:=h;rfl
 obtain⟨p,q,t,xs,cs,ds,v,d,rfl,S,hd,Rn,e,q1⟩:=h;refine⟨_,(af (aB (i:=2) sc.nd rfl (E8 rfl)<|aC NO hr (by lia) rfl<|aa (pv 0)<|aa (pv 1) ae)
  (af (aJ (aD u7 (pv 2) bw<|ay _) (ai gT) az)
  (ai<|am<|bx<|aa (aA av (pv 0) aj λ_ _=>rfl)<|aa (pv 2) ae))),?_⟩
 refine⟨_,rfl,_,rfl,p,q,t,xs,cs,v,d,rfl,S,hd,Rn,λv' H1 k1 r1=>?_⟩;rw[e]at r1;obtain⟨l,ys,rfl,nl,hl,hc⟩:=r1;exists _,rfl,rfl,_,rfl;rw[E_ (λz=>nomatch z)];refine aG ⟨_,rfl,.inr<|.inl ⟨p,_,0,.str t,rfl,rfl,SqT.of<|k1 _ _ S.hp,rfl,_,rfl,(by show 2<=sizeLine;decide),λr Qh=>?_⟩⟩;have k2:=ag Qh<|.tup [.str t,.ref l];exact q1 r l ys _ (k1.trans k2) nl ad (k2 _ _ hl)<|hc.mono k2
theorem sO:ax ["sentence","step","holders"] ["sentence"] (ah je):=⟨rfl,rfl,rfl,by decide+kernel,rfl,by decide+kernel,by decide+kernel⟩
theorem xN{g4 g5:f'}{e4 e5:E6}(F:Fun K "next_step" "next_step" je f fd)(PU:Fn P w K mg base 4 "next_short" g1 e1 ["sentence"] (nh λt cs=>cS (dr t cs) cs.length))(PV:Fn P w K mg base 1 "holders_of" g2 e2 ["clauses"] wS)(QE:Fn P w K mg base 1 "next_pure" g3 e3 ["holders"] wU)
  (Pb:Fn P w K mg base 2 "next_within" g4 e4 ["clauses","holders"] sq) (Oq:Fn P w K mg base 3 "next_blocked" g5 e5 ["sentence","holders"] w_):FnOk P w K mg base bD 5 f fd ["sentence"] (nh eW):=by
 have sc:=sO;refine F.ok sO (λvs H Q E h=>?_) λHL A outer s H vs Q E hr h=>?_
 ·obtain⟨p,q,t,xs,cs,rfl,_⟩:=h;rfl
 obtain⟨p,q,t,xs,cs,rfl,S,hu,q'⟩:=h;refine⟨_,(af (aB (i:=1) sc.nd rfl (E8 rfl)<|aC PU hr (by lia) rfl<|aa (pv 0) ae)
  (af (aJ (aD gU (pv 1) bw<|ay _) (ai<|am<|pv 1) az)
  (af (aB (i:=2) sc.nd rfl (E8 rfl)<|aC PV hr (by lia) rfl<|aa (aA av (pv 0) aj λ_ _=>rfl) ae)
  (af (aB (i:=1) sc.nd rfl (E8 rfl)<|aC QE hr (by lia) rfl<|aa (pv 2) ae)
  (af (aJ (aD gU (pv 1) bw<|ay _) (ai<|am<|pv 1) az)
  (af (aB (i:=1) sc.nd rfl (E8 rfl)<|aC Pb hr (by lia) rfl<|aa (aA av (pv 0) aj λ_ _=>rfl)<|aa (pv 2) ae)
  (af (aJ (aD gU (pv 1) bw<|ay _) (ai<|am<|pv 1) az)
  (ai<|am<|aC Oq hr (by lia) rfl<|aa (pv 0)<|aa (pv 2) ae)))))))),?_⟩
 refine⟨_,rfl,p,q,t,xs,cs,rfl,S,hu,λv H1 k1 r1=>?_⟩;have Mx:∀{o:kb Nx} {H':Hp} {v:V},Same H H'->RS H' o v->eW t cs=o->Q v H':=λ{o H' v} k r e=>q' v H' k (by rw[e];exact r);cases o1:cS (dr t cs) cs.length with
 |some s=>
  have en:eW t cs=ab s:=by unfold eW;rw[o1];rfl
  rw[o1]at r1;obtain⟨r,rfl,ND⟩:=r1;exists _,rfl,rfl,_,rfl;rw[E_ (λz=>nomatch z)];exact aL ⟨_,rfl,Mx (o:=ab s) k1 ⟨r,rfl,ND⟩ en⟩
 |none=>
  rw[o1]at r1;have r1':v=.non:=r1;subst r1';exists _,rfl,rfl,_,rfl;rw[E2 rfl];refine aG ?_;have S1:=S.mono k1;refine⟨_,rfl,.inr<|.inl ⟨p,_,1,.ref q,rfl,rfl,SqT.of S1.hp,rfl,q,xs,cs,rfl,S1.hq,S1.hcs,S1.hn,S1.hc,hu,λa kvs H2 k2 hA=>?_⟩⟩;have k12:=k1.trans k2;have S2:=S.mono k12;refine⟨_,rfl,a,kvs,_,_,rfl,hA,λv H3 k3 r3=>?_⟩;have k13:=k12.trans k3;cases o2:ii cs with
  |some s=>
   have en:eW t cs=ab s:=by unfold eW;rw[o1,o2];rfl
   have Tr:RS H3 (ii cs) v:=r3;rw[o2]at Tr;obtain⟨r,rfl,ND⟩:=Tr;exists _,rfl,rfl,_,rfl;rw[E_ (λz=>nomatch z)];exact aL ⟨_,rfl,Mx (o:=ab s) k13 ⟨r,rfl,ND⟩ en⟩
  |none=>
   have Tr:RS H3 (ii cs) v:=r3;rw[o2]at Tr;have Wk:v=.non:=Tr;subst Wk;exists _,rfl,rfl,_,rfl;rw[E2 rfl];refine aG ?_;have S3:=S.mono k13;refine⟨_,rfl,.inr<|.inl ⟨p,_,1,.ref q,rfl,rfl,SqT.of S3.hp,rfl,_,rfl,q,a,xs,cs,kvs,rfl,S3.hq,S3.hcs,S3.hn,S3.hc,hA.mono k3,λv H4 k4 r4=>?_⟩⟩;have k14:=k13.trans k4;cases o3:fP cs with
   |some s=>
    have en:eW t cs=ab s:=by unfold eW;rw[o1,o2,o3];rfl
    rw[o3]at r4;obtain⟨r,rfl,ND⟩:=r4;exists _,rfl,rfl,_,rfl;rw[E_ (λz=>nomatch z)];exact aL ⟨_,rfl,Mx (o:=ab s) k14 ⟨r,rfl,ND⟩ en⟩
   |none=>
    rw[o3]at r4;have r4':v=.non:=r4;subst r4';exists _,rfl,rfl,_,rfl;rw[E2 rfl];refine aG ?_;have S4:=S.mono k14;refine⟨_,rfl,_,rfl,p,q,a,t,xs,cs,kvs,rfl,S4,hA.mono<|k3.trans k4,λv H5 k5 r5=>?_⟩;exact Mx (k14.trans k5) r5 (by unfold eW;rw[o1,o2,o3];rfl)
end
abbrev mx:Gs:=g_ (cH 51) 0
abbrev jf:Gs:=cH 52
structure Do (K:gV)(mg:Str->kb j')(CP CL:f'):Prop where
 dict:mg "dict"=A'
 isinstance:mg "isinstance"=A'
 tuple:mg "tuple"=A'
 clP:Cls K CP
 clL:Cls K CL
 nv:NoAttr K CL "variables"
 ni:NoAttr K CL "innermost"
 nl:NoAttr K CL "layers"
 g_LedBack:gF mg "LedBack" (.ref CL)
 ha:FR K (.ref CP) "__class__"=ab (ab<|.builtin "object.__class__")
 hn:Kp K (.builtin "object.__class__") "__get__"=ab (ab<|.builtin "getset_descriptor.__get__")
 htk:Lh K (.builtin "object.__class__")=ab kz
 hm:Ma K CP (.type "object")=ab kz
 kit:Hl K (.ref CP) (.ref CL)=ab B'
def BtX(x:f')(H H':Hp):Prop:=∀b o,b≠x->H b=ab o->H' b=ab o
theorem zB{kvs:bc (aS×V)}{k:aS}{y:V}{p:V->Prop}(e:bH kvs k=ab y)(h:∀kv∈kvs,p kv.2):p y:=by
 unfold bH at e;cases g:kvs.find? λkv=>decide (kv.1=k)with
 |none=>rw[g]at e;cases e
 |some kv=>
  rw[g]at e;rw[<-Fe e];exact h kv<|Gy g
def LvF(H:Hp)(kvs:bc (aS×V))(g:Int->bc ER->ER->ER):Prop:=∀v:Int,(bH kvs (.inl v)=A'/\∀bs i,g v bs i=i)\/∃(te lf:f') (c:bc Int) (b:ER),bH kvs (.inl v)=ab (.ref te)/\H te=ab (.tup [.ref lf,.bl b])/\H lf=ab (.tup<|c.map V.int)/\c.length<=900/\(∀l∈c,1<=ao l)/\∀bs i,g v bs i=if c.any (cu bs)=kz then i else b
theorem B0(h:∀kv∈kvs,LvAt H kv.2):∃g,LvF H kvs g:=by
 have z:∀v:Int,∃gv:bc ER->ER->ER,(bH kvs (.inl v)=A'/\∀bs i,gv bs i=i)\/∃(te lf:f') (c:bc Int) (b:ER),bH kvs (.inl v)=ab (.ref te)/\H te=ab (.tup [.ref lf,.bl b])/\H lf=ab (.tup<|c.map V.int)/\c.length<=900/\(∀l∈c,1<=ao l)/\∀bs i,gv bs i=if c.any (cu bs)=kz then i else b:=λv=>by
  cases e:bH kvs (.inl v)with
  |none=>exact⟨λ_ i=>i,.inl ⟨rfl,λ_ _=>rfl⟩⟩
  |some y=>
   obtain⟨te,lf,c,b,rfl,h1,h2,h3,h4⟩:LvAt H y:=zB e h;exact⟨λbs i=>if c.any (cu bs)=kz then i else b,.inr ⟨te,lf,c,b,rfl,h1,h2,h3,h4,λ_ _=>rfl⟩⟩
 exact⟨λv=>(z v).choose,λv=>(z v).choose_spec⟩
def nG(es:bc dm)(t:Str)(hw:ER)(bs:bc ER):Nat->bc ER
 |0=>[]
 |k+1=>nG es t hw bs k++[if bU t hw k=kz then bz es k (nG es t hw bs k)else bs.getD k B']
theorem ir(es:bc dm)(t:Str)(hw:ER)(bs:bc ER):∀k,(nG es t hw bs k).length=k
 |0=>rfl
 |k+1=>by rw[nG,C',ir es t hw bs k];rfl
def B1(es:bc dm)(g:Int->bc ER->ER->ER)(t:Str)(hw:ER):dN:=λi bs=>g ((i:Int)+1) bs<|bz es i<|nG es t hw bs i
inductive LedX (H:Hp)(CP CL x:f')(es:bc dm)(g:Int->bc ER->ER->ER)(t:Str)(hw:ER):Prop
 |mk (dx d pl la a:f')(kvs:bc (aS×V))(h1:H x=ab (.ins CL dx [("variables",.ref d),("innermost",.ref pl),("layers",.ref la)]))(h2:H d=ab (.dK ((bo t hw).map λk=>((FS k:aS),V.bl kz))))(h3:H la=ab (.lst [.ref a]))(h4:H a=ab (.dK kvs))(h5:LvF H kvs g)(h6:PlayerAt H CP pl es):LedX H CP CL x es g t hw
def AN(H:Hp)(CP CL x:f')(es:bc dm)(t:Str)(hw:ER):Prop:=∃g,LedX H CP CL x es g t hw
inductive AO (CP CL:f')(vs:bc V)(H:Hp)(Q:VK):Prop
 |mk (x dx p q pl:f')(es:bc dm)(t:Str)(xs:bc V)(cs:bc (bc Int))(v:V)(s:Nx)(hw:ER)(h0:vs=[.ref x,.ref p,v,.str<|aN hw,.ref pl])(hx:H x=ab (.ins CL dx []))(h1:SentAt H p q t xs cs)(hu:∀c∈cs,uW c)(h2:RD H s.d v)(h3:ng t cs s)(h4:PlayerAt H CP pl es)
  (q:∀H',BtX x H H'->AN H' CP CL x es t hw->Q .non H'):AO CP CL vs H Q
def xO(CP CL:f'):Sp:=λvs H Q _=>AO CP CL vs H Q
inductive Dp (H1:Hp)(D:f')(ks:bc Int)(i:Nat)(σ:St)(ys:bc V)(H2:Hp):Prop
 |mk (v0:kb V)(ts:bc f')(h0:σ=[v0])(h1:H2 D=ab (.lst ys))(h2:Same H1 H2)(h3:ys=ts.map V.ref)(h4:PrsAt H2 ts ((ks.take i).map λk=>((FS k:aS),V.bl kz))):Dp H1 D ks i σ ys H2
theorem qV(t:Str)(hw:ER):(bo t hw).Nodup:=by
 unfold bo;refine Kw _ (λa b h z=>h ?_)<|List.nodup_range.sublist L9;lia
theorem xP(t:Str)(hw:ER):(bo t hw).length<=t.length:=by
 unfold bo;rw[ka];have:=FH (λi=>bP t i == hw) (Fy t.length)
 rwa [Gr]at this
theorem BtX.of(k:Same H H'):BtX x H H':=λb o _ e=>k b o e
theorem BtX.put(k:BtX x H H'):BtX x H (upd H' x o):=λb u hb e=>by rw[al hb];exact k b u hb e
theorem BtX.trans(k:BtX x H H')(j:BtX x H' NK):BtX x H NK:=λb u hb e=>j b u hb<|k b u hb e
theorem BtX.cls(hx:H x=ab (.ins C dx fs))(k:BtX x H H'):∀{cs:bc (bc Int)} {xs:bc V},CLs H cs xs->CLs H' cs xs
 |_,_,.nil=>.nil
 |_,_,.cons ⟨t,e,h⟩ r=>.cons ⟨t,e,k _ _ (λz=>by rw[z,hx]at h;cases h) h⟩<|BtX.cls hx k r
theorem BtX.sent(hx:H x=ab (.ins C dx fs))(k:BtX x H H')(S:SentAt H p q t xs cs):SentAt H' p q t xs cs:=
 ⟨k _ _ (λz=>by have:=S.hp;rw[z,hx]at this;cases this) S.hp,k _ _ (λz=>by have:=S.hq;rw[z,hx]at this;cases this) S.hq,k.cls hx S.hcs,S.ht,S.hn,S.hok,S.hc⟩
theorem PlayerAt.monoX{CL:f'}(h:PlayerAt H CP pl es)(hx:H x=ab (.ins CL dx fs))(np:pl≠x)(k:∀b o,b≠x->EA o->H b=ab o->H' b=ab o):PlayerAt H' CP pl es:=by
 have kt:∀b xs,H b=ab (.tup xs)->H' b=ab (.tup xs):=λb xs e=>k b _ (λz=>by rw[z,hx]at e;cases e) trivial e;obtain⟨dx,de,kvs,h1,h2,hn,hs⟩:=h;refine⟨dx,de,kvs,k _ _ np trivial h1,k _ _ (λz=>by rw[z,hx]at h2;cases h2) trivial h2,hn,λe he=>?_⟩;obtain⟨te,a,tr,rs,b1,b2,b3⟩:=hs e he;refine⟨te,a,tr,rs,kt _ _ b1,kt _ _ b2,b3.len,λi y z=>?_⟩;obtain⟨r,z1,q,sv,z2,z3,z4⟩:=b3.at_ i y z;exact⟨r,z1,q,sv,z2,kt _ _ z3,kt _ _ z4⟩
section
variable {K:gV}{CL:f'}
theorem xQ:ax ["self","sentence","step","hand","player"] ["self","sentence","step","hand","player"] (ah mx):=⟨rfl,rfl,rfl,by decide+kernel,rfl,by decide+kernel,by decide+kernel⟩
theorem zC(F:Fun K "__init__" "LedBack.__init__" mx f fd)(T:Do K mg CP CL)(Kz:Fn P w K mg base 2 "variables_of" g1 e1 ["sentence","hand"] qH)(PR:Fn P w K mg base 4 "own_values" g2 e2 ["sentence","step","hand"] xf):FnOk P w K mg base bD 5 f fd ["self","sentence","step","hand","player"] (xO CP CL):=by
 have sc:=xQ;refine F.ok xQ (λvs H Q E h=>?_) λHL A outer s H vs Q E hr h=>?_
 ·obtain⟨x,dx,p,q,pl,es,t,xs,cs,v,s,hw,rfl,_⟩:=h;rfl
 obtain⟨x,dx,p,qa,pl,es,t,xs,cs,v,s,hw,rfl,hx,S,Rl,hd,hok,ZZ,q⟩:=h;obtain⟨dp,de,kvp,Kj,_,_,_⟩:=id ZZ;have ht:=S.ht;refine⟨_,(af (jH (pv 0) (bn (gM rfl) rfl T.dict Jm<|aa (bj (NY:=["variable"]) (idx:=[A']) rfl ⟨by with_unfolding_all rfl,(by with_unfolding_all exact trivial),λ_=>by rfl,by rfl,by rfl,by rfl,by decide⟩ (bi<|aC Kz hr (by lia) rfl<|aa (pv 1)<|aa (pv 3) ae) (λ_ _ _ _=>(ap (i:=0) (show Gd (["variable"]:bc Str) by decide+kernel) rfl<|E8 rfl)) (λ_ _ _ _=>b_) λ_ _ _ _=>(bx<|aa (pv 0)<|aa bK ae)) ae) rfl)
  (af (jH (pv 0) (pv 4) rfl)
  (af (jH (pv 0) (be ae) rfl)
  (af (aJ (aP<|aq mR rfl T.isinstance GW<|aa (pv 4)<|aa (ba rfl T.g_LedBack) ae) (af (jH (pv 0) (dn (pv 4) rfl) rfl)
   (ai<|bG<|cK Fp Lr PySem.F.type_list_extend tK (dn (pv 0) rfl)<|aa (dn (pv 4) rfl) ae)) az)
  (ai<|bG<|cK Fp FB FC bh (dn (pv 0) rfl)<|aa (aC PR hr (by lia) rfl<|aa (pv 1)<|aa (pv 2)<|aa (pv 3) ae) ae))))),?_⟩
 refine⟨_,rfl,_,rfl,p,t,_,hw,rfl,S.hp,(by lia),λl H1 k1 hl=>?_⟩;refine⟨l,rfl,⟨_,SqL.of hl⟩,λD nD=>?_⟩;have ZO:=xP t hw;refine cZ (K:=K) (a:=l) (xs:=(bo t hw).map V.int) (Dp H1 D<|bo t hw) ⟨A',[],rfl,ad,ag nD _,rfl,⟨rfl,λj t k v e=>by simp at e⟩⟩ ?_ ?_ ?_
 ·rintro i σ ys H2 _ ⟨_,_,_,h1,h2,_⟩;exact⟨h1,SqL.of<|h2 _ _ hl⟩
 ·rintro i y σ ys H2 hy ⟨v0,ts,rfl,h1,h2,rfl,h4⟩;obtain⟨z,rfl,hz⟩:=cM hy;have PM:=(ES.mp hz).1;have et:=FD (l:=bo t hw) (i:=i);rw[hz]at et;refine dF ⟨_,rfl,(by show 2<=sizeLine;decide),λpt UQ=>?_⟩;have k3:=ag UQ<|.tup [.int z,.bl kz];have s3:upd H2 pt (.tup [.int z,.bl kz]) pt=ab (.tup [.int z,.bl kz]):=ad;generalize upd H2 pt (.tup [.int z,.bl kz])=H3 at k3 s3 ⊢;have d3:=k3 _ _ h1;have tl:=h4.len;rw[ka,FO]at tl;have Yh:pt≠D:=λe=>by rw[e,d3]at s3;cases s3
  refine⟨d3,by rw[ka];exact au (by lia),_,ts++[pt],rfl,ad,(h2.trans k3).upd_new nD _,by rw[Fh];rfl,?_⟩;rw[et,Fh];refine((h4.mono k3).but d3).snoc ?_;rw[al Yh];exact s3
 rintro σ ys H2 ⟨_,ts,_,h1,h2,rfl,h4⟩;rw[E3<|by rw[ka];exact lb _]at h4;refine⟨D,ts,_,rfl,h1,h4.len,(λi t kv e1 e2=>h4.at_ i t kv.1 kv.2 e1 e2),?_,(by rw[ka];lia),λd nd=>?_⟩
 ·rw[FX];exact Kw _ (λa b h z=>h<|GR z)<|qV t hw
 have kd:=ag nd<|.dK<|(bo t hw).map λk=>((FS k:aS),V.bl kz);have NA:=k1.trans<|h2.trans kd;have sx:=NA _ _ hx;have sd:upd H2 d (.dK<|(bo t hw).map λk=>((FS k:aS),V.bl kz)) d=ab (.dK<|(bo t hw).map λk=>((FS k:aS),V.bl kz)):=ad;generalize upd H2 d _=H3 at NA sx sd ⊢;clear k1 h2 kd h1 h4 nd;refine⟨_,rfl,x,CL,dx,_,rfl,sx,T.clL,T.nv,(by show 0 < 1000;decide),?_⟩;have b1:BtX x H (upd H3 x<|.ins CL dx [("variables",.ref d)]):=(BtX.of NA).put;have s1:upd H3 x (.ins CL dx [("variables",.ref d)]) x=ab (.ins CL dx [("variables",.ref d)]):=ad;show u5 _ _ _ _ (upd H3 x<|.ins CL dx [("variables",.ref d)])
 generalize e4:upd H3 x (.ins CL dx [("variables",.ref d)])=H4 at b1 s1 ⊢;have e4:=e4.symm;refine⟨_,rfl,_,rfl,x,CL,dx,_,rfl,s1,T.clL,T.ni,(by show 1 < 1000;decide),?_⟩;have b2:BtX x H (upd H4 x<|.ins CL dx [("variables",.ref d),("innermost",.ref pl)]):=b1.put;have s2:upd H4 x (.ins CL dx [("variables",.ref d),("innermost",.ref pl)]) x=ab (.ins CL dx [("variables",.ref d),("innermost",.ref pl)]):=ad;show u5 _ _ _ _ (upd H4 x<|.ins CL dx [("variables",.ref d),("innermost",.ref pl)])
 generalize e5:upd H4 x (.ins CL dx [("variables",.ref d),("innermost",.ref pl)])=H5 at b2 s2 ⊢;have e5:=e5.symm;refine⟨FF _,λla Tz=>?_⟩;have k6:=ag Tz<|.lst [];have s6:upd H5 la (.lst []) la=ab (.lst []):=ad;have Vm:=k6 _ _ s2;have b6:=b2.trans<|BtX.of k6;generalize e6:upd H5 la (.lst [])=H6 at k6 s6 Vm b6 ⊢;have e6:=e6.symm;refine⟨_,rfl,x,CL,dx,_,rfl,Vm,T.clL,T.nl,(by show 2 < 1000;decide),?_⟩;have nlx:la≠x:=λe=>by rw[e,Vm]at s6;cases s6
 have b7:BtX x H (upd H6 x<|.ins CL dx [("variables",.ref d),("innermost",.ref pl),("layers",.ref la)]):=b6.put;have s7:upd H6 x (.ins CL dx [("variables",.ref d),("innermost",.ref pl),("layers",.ref la)]) x=ab (.ins CL dx [("variables",.ref d),("innermost",.ref pl),("layers",.ref la)]):=ad;have l7:upd H6 x (.ins CL dx [("variables",.ref d),("innermost",.ref pl),("layers",.ref la)]) la=ab (.lst []):=by rw[al nlx];exact s6
 show u5 _ _ _ _ (upd H6 x<|.ins CL dx [("variables",.ref d),("innermost",.ref pl),("layers",.ref la)])
 generalize e7:upd H6 x (.ins CL dx [("variables",.ref d),("innermost",.ref pl),("layers",.ref la)])=H7 at b7 s7 l7 ⊢;have e7:=e7.symm;have TF:d≠x:=λe=>by rw[e,sx]at sd;cases sd
 have d5:H5 d=ab (.dK<|(bo t hw).map λk=>((FS k:aS),V.bl kz)):=by rw[e5,al TF,e4,al TF];exact sd
 have d7:H7 d=ab (.dK<|(bo t hw).map λk=>((FS k:aS),V.bl kz)):=by rw[e7,al TF,e6];exact ag Tz _ _ _ d5
 have Zy:pl≠x:=λe=>by
  rw[e,hx]at Kj;cases Kj
 have p7:=b7 _ _ Zy Kj;refine⟨_,rfl,.ref pl,.ref CP,CL,B',rfl,.ins p7 T.clP T.ha T.hn T.htk T.hm,T.kit,B',rfl,aG ?_⟩;obtain⟨b,rfl,hb⟩:=wO hd;have hb7:=b7 _ _ (λz=>by rw[z,hx]at hb;cases hb) hb;refine⟨_,rfl,x,CL,dx,_,_,rfl,s7,T.clL,T.nl,rfl,.inl ⟨rfl,_,SqL.of l7⟩,_,rfl,_,rfl,_,rfl,p,qa,t,xs,cs,_,s,hw,rfl,b7.sent hx S,Rl,AM hb7,hok,λa kvs H8 k8 na ha RV=>?_⟩;refine⟨la,_,_,rfl,rfl,k8 _ _ l7,au (by show 0<=1000;decide),?_⟩;have la8:=k8 _ _ l7;have nn:∀{b:f'} {o:HO},H8 b=ab o->(∀ys,o≠.lst ys)->upd H8 la (.lst ([]++[.ref a])) b=ab o:=λ{b o} e h=>by
  rw[al λz=>by rw[z,la8]at e;exact h _ (Fe e).symm];exact e
 obtain⟨g,hg⟩:=B0 RV;refine q _ (λc o hc e=>?_) ⟨g,dx,d,pl,la,a,kvs,nn (k8 _ _ s7) (λ_ z=>nomatch z),nn (k8 _ _ d7) (λ_ z=>nomatch z),ad,nn ha (λ_ z=>nomatch z),λv=>?_,ZZ.monoX hx Zy λb o nbx n e=>?_⟩
 ·by_cases z:c=la
  ·have:=b2 _ _ hc e;rw[z,Tz]at this;cases this
  ·rw[al z];exact k8 _ _<|b7 _ _ hc e
 ·obtain h|⟨te,lf,c,b,e1,e2,e3,e4⟩:=hg v
  ·exact .inl h
  ·exact .inr ⟨te,lf,c,b,e1,nn e2 (λ_ z=>nomatch z),nn e3 (λ_ z=>nomatch z),e4⟩
 ·refine nn (k8 _ _<|b7 _ _ nbx e) λys z=>?_;rw[z]at n;exact n
inductive xR (CP CL:f')(vs:bc V)(H:Hp)(Q:VK):Prop
 |mk (p q pl:f')(es:bc dm)(t:Str)(xs:bc V)(cs ds:bc (bc Int))(v:V)(s:Nx)(hw:ER)(h0:vs=[.ref p,v,.str<|aN hw,.ref pl])(h1:SentAt H p q t xs cs)(hu:∀c∈cs,uW c)(h2:RD H s.d v)(h3:ng t cs s)(h3':bJ t cs s.d=ab ds)(h4:PlayerAt H CP pl es)
  (q1:∀x H',Same H H'->AN H' CP CL x es t hw->Q (.ref x) H'):xR CP CL vs H Q
def sP(CP CL:f'):Sp:=λvs H Q _=>xR CP CL vs H Q
theorem sQ:ax ["sentence","step","hand","player"] ["sentence","step","hand","player"] (ah jf):=⟨rfl,rfl,rfl,by decide+kernel,rfl,by decide+kernel,by decide+kernel⟩
theorem xS(F:Fun K "player_back" "player_back" jf f fd)(PQ:Fn P w K mg base 6 "smaller_by" g1 e1 ["sentence","step"] ph)(RE:C4 P w K mg base 5 "LedBack" CL g2 e2 ["self","sentence","step","hand","player"] (xO CP CL)):FnOk P w K mg base bD 7 f fd ["sentence","step","hand","player"] (sP CP CL):=by
 have sc:=sQ;refine F.ok sQ (λvs H Q E h=>?_) λHL A outer s H vs Q E hr h=>?_
 ·obtain⟨p,q,pl,es,t,xs,cs,ds,v,d,hw,rfl,_⟩:=h;rfl
 obtain⟨p,qa,pl,es,t,xs,cs,ds,v,s,hw,rfl,S,Rl,hd,hok,eds,Kj,q1⟩:=h;refine⟨_,(af (bG<|aC PQ hr (by lia) rfl<|aa (pv 0)<|aa (pv 1) ae)
  (ai<|am<|vZ RE hr (by lia) rfl<|aa (pv 0)<|aa (pv 1)<|aa (pv 2)<|aa (pv 3) ae)),?_⟩
 refine⟨_,rfl,_,rfl,p,qa,t,xs,cs,ds,v,s.d,rfl,S,hd,Dn s,eds,λr l ys H1 k1 _ _ _ _=>?_⟩;refine⟨_,rfl,_,rfl,_,rfl,_,rfl,λx dx nx TF PJ=>?_⟩;have k2:Same H1 (upd (upd H1 dx<|.own x) x<|.ins CL dx []):=λb o e=>by
  rw[al<|ak e nx,al<|ak e TF];exact e
 have NA:=k1.trans k2;refine⟨x,dx,p,qa,pl,es,t,xs,cs,v,s,hw,rfl,ad,⟨NA _ _ S.hp,NA _ _ S.hq,S.hcs.mono NA,S.ht,S.hn,S.hok,S.hc⟩,Rl,dY NA _ _ hd,hok,Kj.mono<|Same.kept NA,λH3 k3 hL=>⟨rfl,q1 x H3 (λb o e=>k3 b o (ak e<|k1.free nx)<|NA _ _ e) hL⟩⟩
end
abbrev gk:Gs:=cH 62
structure Dq (mg:Str->kb j'):Prop where
 len:mg "len"=A'
 range:mg "range"=A'
 abs:mg "abs"=A'
 int:mg "int"=A'
inductive sR (vs:bc V)(H:Hp)(Q:VK):Prop
 |mk (p qa:f')(t:Str)(xs:bc V)(cs:bc (bc Int))(h0:vs=[.ref p])(h1:H p=ab (.tup [.str t,.ref qa]))(h2:H qa=ab (.lst xs))(h3:CLs H cs xs)(h4:Rng 0 t.length cs)(h5:WS t)(h6:t.length<=8)(h7:∀(p:f') (xs:bc V) (H':Hp),Same H H'->H' p=ab (.lst xs)->xs.length=t.length+1->LV H' p t cs 0 xs->Q (.ref p) H'):sR vs H Q
def pi:Sp:=λvs H Q _=>sR vs H Q
theorem xT(b x y:ER):js (.bl b) [.bl x,.bl y]=if b then(x || y)else !(x&&y):=by
 cases b<;>cases x<;>cases y<;>rfl
theorem Dr(h:ch=119\/ch=115):decide (V.str ⟨#[ch]⟩=V.str (ET "s"))=!decide (ch=119):=by
 obtain rfl|rfl:=h<;>decide+kernel
theorem pj(b:ER)(x y:V):kL [x,y] (if b then 1 else 0)=ab (if b then y else x):=by
 cases b<;>rfl
section
variable {K:gV}
theorem pq:ax ["_law_sentence_here","_law_turns","_law_clauses","_law_count","_law_level","_law_number","_law_comes_here","_law_clause","_law_some","_law_literal","_law_levels_here","_law_k","_law_two"] ["_law_sentence_here"] (ah gk):=⟨rfl,rfl,rfl,by decide+kernel,rfl,by decide+kernel,by decide+kernel⟩
inductive pw (p:f')(t:Str)(qa:f')(lv:f')(cs:bc (bc Int))(H:Hp)(i:Nat)(σ:bc (kb V))(G:Hp):Prop
 |mk (x5:kb V)(x6:kb V)(x7:kb V)(x8:kb V)(x9:kb V)(i0:σ=[ab (.ref p),ab (.str t),ab (.ref qa),ab (.int (t.length:Int)),ab (.ref lv),x5,x6,x7,x8,x9,A',A',A'])(i1:G lv=ab (.lst ((Fy i).map λm=>V.bl<|bS t cs (t.length - t.length) t.length m)))(i2:Same H G):pw p t qa lv cs H i σ G
inductive px (p:f')(t:Str)(qa:f')(lv:f')(i:Nat)(cs:bc (bc Int))(G:Hp)(j:Nat)(σ:bc (kb V))(G2:Hp):Prop
 |mk (x7:kb V)(x8:kb V)(x9:kb V)(i0:σ=[ab (.ref p),ab (.str t),ab (.ref qa),ab (.int (t.length:Int)),ab (.ref lv),ab (.int (0+(i:Int))),ab (.bl ((cs.take j).all λc=>c.any<|dQ t.length i)),x7,x8,x9,A',A',A'])(i1:G2=G):px p t qa lv i cs G j σ G2
inductive py (p:f')(t:Str)(qa:f')(lv:f')(i:Nat)(cs:bc (bc Int))(j:Nat)(c:bc Int)(tc:f')(G2:Hp)(k:Nat)(σ:bc (kb V))(G3:Hp):Prop
 |mk (x9:kb V)(i0:σ=[ab (.ref p),ab (.str t),ab (.ref qa),ab (.int (t.length:Int)),ab (.ref lv),ab (.int (0+(i:Int))),ab (.bl ((cs.take j).all λc=>c.any<|dQ t.length i)),ab<|.ref tc,ab<|.bl<|(c.take k).any<|dQ t.length i,x9,A',A',A'])(i1:G3=G2):py p t qa lv i cs j c tc G2 k σ G3
inductive pz (p:f')(t:Str)(qa:f')(l:f')(cs:bc (bc Int))(H:Hp)(j:Nat)(σ:bc (kb V))(H3:Hp):Prop
 |mk (x4:kb V)(x5:kb V)(x6:kb V)(x7:kb V)(x8:kb V)(x9:kb V)(RG:kb V)(QQ:kb V)(ys:bc V)(i0:σ=[ab<|.ref p,ab<|.str t,ab<|.ref qa,ab<|.int (t.length:Int),x4,x5,x6,x7,x8,x9,ab<|.ref l,RG,QQ])(i1:H3 l=ab (.lst ys))(i2:ys.length=j+1)(i3:LV H3 l t cs (t.length - j) ys)(i4:Same H H3):pz p t qa l cs H j σ H3
inductive pA (p:f')(t:Str)(qa:f')(D:f')(x6:kb V)(x7:kb V)(x8:kb V)(x9:kb V)(l:f')(k:Nat)(cs:bc (bc Int))(H3:Hp)(i:Nat)(σ:bc (kb V))(G:Hp):Prop
 |mk (x5:kb V)(QQ:kb V)(i0:σ=[ab (.ref p),ab (.str t),ab (.ref qa),ab (.int (t.length:Int)),ab (.ref D),x5,x6,x7,x8,x9,ab (.ref l),ab (.int (k:Int)),QQ])(i1:G D=ab (.lst ((Fy i).map λm=>V.bl<|bS t cs (t.length - k) k m)))(i2:Same H3 G):pA p t qa D x6 x7 x8 x9 l k cs H3 i σ G
theorem uN(F:Fun K "_law_levels" "_law_levels" gk f fd)(T:Dq mg):FnOk P w K mg base bD 1 f fd ["_law_sentence_here"] pi:=by
 have sc:=pq;refine F.ok pq (λvs H Q E h=>?_) λHL A outer s H vs Q E hr h=>?_
 ·obtain⟨p,qa,t,xs,cs,rfl,_⟩:=h;rfl
 obtain⟨p,qa,t,xs,cs,rfl,h1,h2,h3,Px,YC,h8,q⟩:=h;have hu:=hr.units;have p8:∀k,k<=8->2 ^ k<=256:=λk hk=>LK (by decide) hk;have e2n:=rD t.length;have p8n:=p8 _ h8;refine⟨_,(af (A7 (pv 0)<|eF rfl<|aW (ap (i:=1) sc.nd rfl<|E8 rfl)<|aW (ap (i:=2) sc.nd rfl<|E8 rfl) dh)
  (af (aB (i:=3) sc.nd rfl (E8 rfl)<|aq aH rfl T.len Fj<|aa (pv 1) ae)
  (af (aB (i:=4) sc.nd rfl (E8 rfl)<|be ae)
  (af (aU Fg rfl (cE rfl T.range<|aa (aE pU aj<|pv 3) ae) (ap (i:=5) sc.nd rfl<|E8 rfl)
   (af (aB (i:=6) sc.nd rfl (E8 rfl) bK)
   (af (aU Fg rfl (bi<|pv 2) (ap (i:=7) sc.nd rfl<|E8 rfl)
    (af (aB (i:=8) sc.nd rfl (E8 rfl) bK)
    (af (aU Fg rfl (bQ<|pv 7) (ap (i:=9) sc.nd rfl<|E8 rfl)
     (ai<|aB (i:=8) sc.nd rfl (E8 rfl)<|Ch (pv 8)<|iw<|aM (aK hu) (aM (aK hu) (aE pW (aE pV (pv 5)<|aE eG (pv 3)<|aq br rfl T.abs FG<|aa (pv 9) ae) aj) aj<|ay _) (aM fF (pv 9) aj<|ay _)<|ay _))
    (ai<|aB (i:=6) sc.nd rfl (E8 rfl)<|iy (pv 6)<|iw<|pv 8))))
   (ai<|bG<|cK Fp FB FC bh (pv 4)<|aa (pv 6) ae))))
  (af (aB (i:=10) sc.nd rfl (E8 rfl)<|be<|aa (pv 4) ae)
  (af (aU Fg rfl (t6 rfl T.range<|aa (aE eG (pv 3) aj)<|aa (dC cC aj)<|aa (dC cC aj) ae) (ap (i:=11) sc.nd rfl<|E8 rfl)
   (af (aB (i:=4) sc.nd rfl (E8 rfl)<|be ae)
   (af (aU Fg rfl (cE rfl T.range<|aa (aE pU aj<|pv 11) ae) (ap (i:=5) sc.nd rfl<|E8 rfl)
    (af (aB (i:=12) sc.nd rfl (E8 rfl)<|be<|aa (aA av (aA av (pv 10) aj λ_ _=>rfl) (aE eI aj<|pv 5) λ_ _=>rfl)<|aa (aA av (aA av (pv 10) aj λ_ _=>rfl) (aE bI (aE eI aj<|pv 5) aj) λ_ _=>rfl) ae)
    (ai<|bG<|cK Fp FB FC bh (pv 4)<|aa (aA av (be<|aa (aM iD bK (pv 12)<|by with_unfolding_all rfl)<|aa (aM cJ bK (pv 12)<|by with_unfolding_all rfl) ae) (bn iA rfl T.int Ic<|aa (aM (aK hu) (aA av (pv 1) (pv 11) λ_ _=>rfl) bA<|ay _) ae) λ_ _=>rfl) ae)))
   (ai<|bG<|cK Fp Lq PySem.F.type_list_insert tQ (pv 10)<|aa aj<|aa (pv 4) ae))))
  (ai<|am<|pv 10))))))),?_⟩
 refine⟨_,rfl,p,_,rfl,SqT.of h1,rfl,_,_,rfl,_,_,rfl,rfl,?_⟩;refine⟨_,rfl,.str t,_,rfl,⟨FQ (au<|by lia),rfl⟩,?_⟩;refine⟨FF _,λlv RV=>?_⟩;have k1:=ag RV<|.lst [];have r1:upd H lv (.lst []) lv=ab (.lst []):=ad;generalize upd H lv (.lst [])=H1 at k1 r1;refine⟨_,rfl,_,_,rfl,rfl,⟨by lia,by lia,by decide⟩,((2 ^ t.length:Nat):Int),Gg (λz=>[V.int z]) e2n,(Pu (by decide)<|Kg _),(by lia),?_⟩;refine cF (lo:=0) (n:=2 ^ t.length) (pw p t qa lv cs H)
  ⟨A',A',A',A',A',rfl,r1,k1⟩ ?_ ?_
 ·rintro i σ G hi ⟨x5,x6,x7,x8,x9,rfl,g1,kG⟩;refine⟨_,rfl,qa,rfl,⟨_,SqL.of<|kG _ _ h2⟩,cw (K:=K) (a:=qa) (xs:=xs)
   (px p t qa lv i cs G) ⟨_,_,_,rfl,rfl⟩ ?_ ?_ ?_⟩
  ·rintro j σ G2 _ ⟨_,_,_,_,rfl⟩;exact SqL.of<|kG _ _ h2
  ·rintro j x σ G2 hx ⟨x7,x8,x9,rfl,rfl⟩;obtain⟨c,hc,tc,rfl,JA⟩:=h3.get hx;have Q8:c∈cs:=Fd hc;refine⟨_,rfl,tc,rfl,⟨_,SqT.of<|kG _ _ JA⟩,dU (K:=K) (a:=tc) (xs:=c.map V.int)
    (py p t qa lv i cs j c tc G2) ⟨_,rfl,rfl⟩ ?_ ?_ ?_⟩
   ·rintro k σ G3 _ ⟨_,_,rfl⟩;exact SqT.of<|kG _ _ JA
   ·rintro k x σ G3 hx ⟨x9,rfl,rfl⟩;obtain⟨z,rfl,hz⟩:=cM hx;have hzr:=Px c Q8 z<|Fd hz;have ea:(c.take<|k+1).any (dQ t.length i)=((c.take k).any (dQ t.length i) || dQ t.length i z):=by
     rw[FD,hz,List.any_append];show(_ || (dQ t.length i z || B'))=_
     rw[Mc]
    refine⟨_,rfl,_,rfl,?_⟩;cases ga:(c.take k).any (dQ t.length i)with
    |true=>exact aL ⟨_,by rw[ea,ga];rfl,rfl⟩
    |false=>
     refine aG ⟨_,rfl,_,rfl,_,rfl,z,rfl,_,_,rfl,rfl,_,_,rfl,rfl,(by show(0:Int)<=(t.length:Int) - ao z;lia),_,_,rfl,rfl,.inl ⟨rfl,_,rfl,_,_,rfl,rfl,.inl ⟨rfl,?_⟩⟩⟩;have eb:=yR (n:=t.length) (num:=i) (z:=z) hzr.2 (by lia);rw[Pt];refine⟨ab<|.int z,?_,rfl⟩;rw[ea,ga,KF,<-eb,Pt];rfl
   ·rintro σ G3 ⟨x9,rfl,rfl⟩;rw[ka,E3<|lb _];have e:(cs.take<|j+1).all (λc=>c.any<|dQ t.length i)=((cs.take j).all (λc=>c.any<|dQ t.length i)&&c.any (dQ t.length i)):=by
     rw[FD,hc,IR];show(_&&(c.any (dQ t.length i)&&kz))=_
     rw[Bool.and_true]
    refine⟨_,rfl,_,rfl,?_⟩;cases ga:(cs.take j).all λc=>c.any (dQ t.length i)with
    |true=>exact aL ⟨_,rfl,_,_,_,by rw[e,ga];rfl,rfl⟩
    |false=>exact aG ⟨_,_,_,by rw[e,ga];rfl,rfl⟩
  ·rintro σ G2 ⟨x7,x8,x9,rfl,rfl⟩;rw[<-h3.length,E3<|lb _];refine⟨_,rfl,.inl ⟨rfl,_,SqL.of g1⟩,_,rfl,lv,_,_,rfl,rfl,g1,(by rw[ka,Gr];exact au<|by lia),?_⟩;refine⟨_,_,_,_,_,rfl,?_,kG.upd_new RV _⟩;rw[ad,GJ,Fh,HI];rfl
 rintro σ G ⟨x5,x6,x7,x8,x9,rfl,g1,kG⟩;have eR:(Fy (2 ^ t.length)).map (λm=>V.bl<|bS t cs (t.length - t.length) t.length m)=qq t cs t.length:=rfl;rw[eR]at g1;refine⟨_,rfl,(by show 1<=sizeLine;decide),λl hl=>?_⟩;have UT:lv≠l:=ak g1 hl;have kl:Same G (upd G l<|.lst [.ref lv]):=ag hl _;have rl:upd G l (.lst [.ref lv]) l=ab (.lst [.ref lv]):=ad;have nl:H l=none:=kG.free hl;generalize upd G l (.lst [.ref lv])=H2 at kl rl;refine⟨_,rfl,_,_,rfl,rfl,_,rfl,_,rfl,(t.length:Int) - 1,-1,rfl,⟨by lia,by lia,by lia,by lia⟩,qp (lo:=(t.length:Int) - 1)
  (pz p t qa l cs H)
  ⟨_,_,_,_,_,_,A',A',[.ref lv],rfl,rl,rfl,λd hd=>?_,kG.trans kl⟩ ?_ ?_⟩
 ·have:d=0:=by
   have:d < 1:=hd;lia
  subst this;exact⟨lv,rfl,UT,kl _ _ g1⟩
 ·rintro j σ H3 hj ⟨x4,x5,x6,x7,x8,x9,RG,QQ,ys,rfl,g1,g2,g3,k3⟩;have hj':j < t.length:=by lia
  obtain⟨k,hk⟩:∃k:Nat,t.length=k+j+1:=⟨t.length - j - 1,by lia⟩;have ek:(t.length:Int) - 1 - (j:Int)=(k:Int):=by lia
  have eL:t.length - j=k+1:=by lia
  rw[eL]at g3;obtain⟨a0,g4,g5,g6⟩:=g3 0 (by lia);rw[Pq]at g6;have p8k:=p8 k (by lia);have e2k:=rD k;rw[ek];have Tb:k < t.cps.toList.length:=by
   rw[Gh];show k < t.length
   lia
  have On:=E1 Tb;have Y_:=YC _<|JK Tb;refine⟨FF _,λD hD=>?_⟩;have k4:=ag hD<|.lst [];have r4:upd H3 D (.lst []) D=ab (.lst []):=ad;have UT:D≠l:=GP<|ak g1 hD;generalize upd H3 D (.lst [])=H4 at k4 r4;refine⟨_,rfl,_,_,rfl,rfl,⟨by lia,by lia,by decide⟩,((2 ^ k:Nat):Int),Gg (λz=>[V.int z]) e2k,(Pu (by decide)<|Kg _),(by lia),?_⟩;refine cF (lo:=0) (n:=2 ^ k) (pA p t qa D x6 x7 x8 x9 l k cs H3)
   ⟨_,_,rfl,r4,k4⟩ ?_ ?_
  ·rintro i σ G hi ⟨x5,QQ,rfl,d1,kG⟩;have get:∀(H':Hp) (m:Nat) (i:Int),Same H3 H'->m < 2 ^ (k+1)->i=(m:Int)->∀R:VK,R (.bl<|bS t cs (t.length - (k+1)) (k+1) m) H'->D6 K (.ref a0) (.int i) H' R:=λH' m i k' hm hi R r=>
    .inl ⟨a0,_,i,_,rfl,rfl,SqL.of<|k' _ _ g6,qr hm hi,r⟩
   refine⟨_,rfl,.inl ⟨l,ys,0,.ref a0,rfl,rfl,SqL.of<|kG _ _ g1,bf (j:=0) g4,_,rfl,_,_,rfl,rfl,.inl ⟨by decide,by decide⟩,get G (2*i) _ kG (by rw[ID];lia) (by lia) _ ?_⟩⟩;refine⟨_,rfl,.inl ⟨l,ys,0,.ref a0,rfl,rfl,SqL.of<|kG _ _ g1,bf (j:=0) g4,_,rfl,_,_,rfl,rfl,.inl ⟨by decide,by decide⟩,_,_,rfl,rfl,get G (2*i+1) _ kG (by rw[ID];lia) (by lia) _ ?_⟩⟩;have Rz:=vS (cs:=cs) (show k < t.length by lia) i;generalize bS t cs (t.length - (k+1)) (k+1) (2*i)=u1 at Rz;generalize bS t cs (t.length - (k+1)) (k+1) (2*i+1)=u2 at Rz;refine⟨(by show 2<=sizeLine;decide),λtw htw=>?_⟩;have k5:=ag htw<|.lst [.bl u1,.bl u2];have r5:upd G tw (.lst [.bl u1,.bl u2]) tw=ab (.lst [.bl u1,.bl u2]):=ad;have d5:=k5 _ _ d1;generalize upd G tw (.lst [.bl u1,.bl u2])=G2 at k5 r5 d5;refine⟨_,rfl,.inl ⟨rfl,_,SqL.of d5⟩,_,rfl,tw,_,rfl,.inl<|SqL.of r5,rfl,rfl,_,rfl,tw,_,rfl,.inl<|SqL.of r5,rfl,rfl,(by show 2<=sizeLine;decide),λpk hpk=>?_⟩;have k6:=ag hpk<|.lst [.bl<|js (.bl kz) [.bl u1,.bl u2],.bl (!js (.bl B') [.bl u1,.bl u2])];have r6:upd G2 pk (.lst [.bl<|js (.bl kz) [.bl u1,.bl u2],.bl (!js (.bl B') [.bl u1,.bl u2])]) pk=ab (.lst [.bl<|js (.bl kz) [.bl u1,.bl u2],.bl (!js (.bl B') [.bl u1,.bl u2])]):=ad;have d6:=k6 _ _ d5;change _ at r6;refine⟨_,rfl,_,rfl,.inr<|.inr ⟨t,(k:Int),_,rfl,rfl,FQ (au<|by lia),bf On,.inl ⟨rfl,.inr ⟨_,rfl,.inl ⟨pk,_,_,_,rfl,rfl,SqL.of r6,pj _ _ _,?_⟩⟩⟩⟩⟩;rw[Dr Y_];have ew:decide (t.cps.toList[k]=119)=bP t k:=(mO On).symm;rw[ew];have ev:(if(!bP t k)=kz then V.bl (!js (.bl B') [.bl u1,.bl u2])else V.bl (js (.bl kz) [.bl u1,.bl u2]))=.bl (bS t cs (t.length - k) k i):=by
    rw[Rz,xT,xT];cases bP t k<;>cases u1<;>cases u2<;>rfl
   rw[ev];refine⟨D,_,_,rfl,rfl,d6,(by rw[ka,Gr];exact au<|by lia),?_⟩;refine⟨_,_,rfl,?_,(kG.trans<|k5.trans k6).upd_new hD _⟩;rw[ad,GJ,Fh];rfl
  ·rintro σ G ⟨x5,QQ,rfl,d1,kG⟩;have eR:(Fy (2 ^ k)).map (λm=>V.bl<|bS t cs (t.length - k) k m)=qq t cs k:=rfl;rw[eR]at d1;have l1:=kG _ _ g1;refine⟨_,rfl,.inl ⟨rfl,_,SqL.of l1⟩,_,rfl,l,ys,0,.ref D,rfl,rfl,l1,JP _,by lia,by rw[g2];exact au (by lia),?_⟩;have e3:t.length - (j+1)=k:=by lia
   refine⟨_,_,_,_,_,_,_,_,.ref D::ys,rfl,ad,by rw[FI,g2],e3▸LV.cons (lo:=k+1) (g3.keep λb o hb PJ=>?_) UT ?_ rfl,(k3.trans kG).upd_new nl _⟩
   ·rw[al PJ];exact kG _ _ hb
   ·rw[al UT];exact d1
 ·rintro σ H3 ⟨x4,x5,x6,x7,x8,x9,RG,QQ,ys,rfl,g1,g2,g3,k3⟩;have eN:((t.length:Int) - 1 - -1).toNat=t.length:=by lia
  rw[eN]at g2 g3;rw[HI]at g3;exact⟨_,rfl,q l ys H3 k3 g1 g2 g3⟩
end
abbrev eZ:Gs:=cH 56
def my:Sp:=λvs H Q _=>∃(v:V) (b:f') (t:Str) (cs:bc (bc Int)) (bs:bc ER),vs=[v,.ref b]/\RD H (fz t cs) v/\H b=ab (.lst<|bs.map V.bl)/\Small cs/\Rng 0 t.length cs/\t.length<=8/\bs.length < t.length/\
 ∀(l:f') (H':Hp),Same H H'->H l=A'->H' l=ab (.lst<|(d_ t cs bs).map V.bl)->Q (.ref l) H'
section
variable {K:gV}
theorem mz:ax ["sentence","begun","hand"] ["sentence","begun"] (ah eZ):=⟨rfl,rfl,rfl,by decide+kernel,rfl,by decide+kernel,by decide+kernel⟩
theorem qW(F:Fun K "winning_choices" "winning_choices" eZ f fd)(T:uZ mg)(HH:Fn P w K mg base 1 "hand_of" f1 d1 ["sentence","variable"] eJ)(O_:Fn P w K mg base 11 "winner_from" f2 d2 ["sentence","begun"] xH):FnOk P w K mg base bD 12 f fd ["sentence","begun"] my:=by
 have sc:=mz;refine F.ok mz (λvs H Q E h=>?_) λHL A outer s H vs Q E hr h=>?_
 ·obtain⟨v,b,t,cs,bs,rfl,_⟩:=h;rfl
 obtain⟨v,b,t,cs,bs,rfl,hd,hb,MW,Px,h8,Sj,q⟩:=h;obtain⟨p,qa,xs,rfl,h1,h2,h3⟩:=cx hd;have hu:=hr.units;refine⟨_,(af (aB (i:=2) sc.nd rfl (Ie rfl)<|aC HH hr (by lia) rfl<|aa (pv 0)<|aa (aE bI (aq aH rfl T.len Fj<|aa (pv 1) ae) aj) ae)
  (ai<|am<|bj (NY:=["value","hand","sentence","begun"]) (idx:=[A',ab 2,ab 0,ab 1]) rfl ⟨by with_unfolding_all rfl,(by with_unfolding_all exact⟨rfl,rfl,rfl,trivial⟩),λ_=>by rfl,by rfl,by rfl,by rfl,by decide⟩ (bQ<|bx<|aa bK<|aa bK ae) (λ_ _ _ _=>(ap (i:=0) (show Gd (["value","hand","sentence","begun"]:bc Str) by decide+kernel) rfl<|E8 rfl)) (λ_ _ _ _=>(ca<|aD (aK hu) (aC O_ hr (by lia) rfl<|aa (pv 2)<|aa (aE fi (pv 3)<|be<|aa (pv 0) ae) ae) (pv 1)<|ay _)) λ_ _ _ _=>(pv 0))),?_⟩
 refine⟨_,rfl,_,rfl,.ref b,_,rfl,.inl ⟨_,SqL.of hb,rfl⟩,_,_,rfl,rfl,p,t,_,bs.length,by rw[ka];rfl,h1,Sj,by lia,?_⟩;refine⟨(by show 2<=sizeLine;decide),λa ha=>⟨a,rfl,⟨_,SqT.of ad⟩,λD hD=>?_⟩⟩;have k1:Same H (upd H a<|.tup [.bl B',.bl kz]):=ag ha _;have r1:upd H a (.tup [.bl B',.bl kz]) a=ab (.tup [.bl B',.bl kz]):=ad;show gD _ _ _ _ _ _ (upd H a<|.tup [.bl B',.bl kz]) _
 have Zg:upd H a (.tup [.bl B',.bl kz]) D=none:=hD;clear hD;generalize upd H a (.tup [.bl B',.bl kz])=H1 at k1 r1 Zg;refine t7 [ab<|.str<|aN<|bP t bs.length,ab<|.ref p,ab<|.ref b] (λx=>match x with
  |.bl c=>decide (ci t (t.length - (bs.length+1)) (bs.length+1) (mN (bs++[c]) cs)=bP t bs.length)
  |_=>B') (λx=>x) rfl r1 Zg (by decide) ?_ ?_ ?_
 ·intro x hx H' R k r;obtain⟨c,rfl⟩:∃c,x=.bl c:=by
   obtain rfl|hx:=Fl.mp hx
   ·exact⟨_,rfl⟩
   ·exact⟨_,Fb.mp hx⟩
  have k0:=k1.trans k;refine⟨_,rfl,_,rfl,_,rfl,(by show 1<=sizeLine;decide),λl hl=>?_⟩;have k2:Same H' (upd H' l<|.lst [.bl c]):=ag hl _;refine⟨b,l,bs.map V.bl,[.bl c],rfl,rfl,k2 _ _<|k0 _ _ hb,ad,?_,λl2 NG=>?_⟩
  ·rw[ka];exact FQ<|au (by show bs.length+1<=1000;lia)
  have k3:=ag NG<|.lst<|bs.map V.bl++[.bl c];have e:bs.map V.bl++[.bl c]=(bs++[c]).map V.bl:=by
   rw[Fh];rfl
  have k4:=k0.trans<|k2.trans k3;refine⟨.ref p,l2,t,cs,bs++[c],rfl,dY k4 _ _ hd,by rw[<-e];exact ad,MW,Px,h8,by rw[C',FL];lia,λH5 k5=>?_⟩;refine⟨_,rfl,.inl ⟨rfl,_,rfl,?_⟩⟩;rw[dl,C',FL];exact r H5<|k2.trans<|k3.trans k5
 ·intro x hx _ H' R k r;exact⟨_,rfl,r H'<|Same.refl _⟩
 ·intro H2 k2 MX;refine q D H2 (k1.trans k2) (k1.free Zg) ?_;rw[MX,Lc];have e:∀g:ER->ER,∀c:bc ER,(c.map V.bl).filter (λx=>match x with|.bl c=>g c|_=>B')=(c.filter g).map V.bl:=λg c=>by
   rw[IQ];rfl
  exact Gg (λz=>ab<|HO.lst z)<|e _ [B',kz]
end
abbrev mB:Gs:=cH 50
abbrev jg:Gs:=g_ (cH 51) 1
abbrev jh:Gs:=g_ (cH 51) 2
structure B2 (K:gV)(mg:Str->kb j')(CL:f'):Prop where
 zip:mg "zip"=A'
 range:mg "range"=A'
 cl:Cls K CL
 nv:NoAttr K CL "variables"
 ni:NoAttr K CL "innermost"
 nl:NoAttr K CL "layers"
inductive AQ (vs:bc V)(H:Hp)(Q:VK):Prop
 |mk (a b:f')(kvs:bc (aS×V))(g:Int->bc ER->ER->ER)(v:Int)(bs:bc ER)(i:ER)(h0:vs=[.ref a,.int v,.ref b,.bl i])(h1:H a=ab (.dK kvs))(h2:LvF H kvs g)(h3:H b=ab (.lst<|bs.map V.bl))(h4:bs.length<=900)(q:∀H',Same H H'->Q (.bl<|g v bs i) H'):AQ vs H Q
def xU:Sp:=λvs H Q _=>AQ vs H Q
inductive AR (CP CL:f')(vs:bc V)(H:Hp)(Q:VK):Prop
 |mk (x fs f0 b:f')(es:bc dm)(g:Int->bc ER->ER->ER)(t:Str)(hw:ER)(n:Nat)(LR bs:bc ER)(hn:LR.length=n)(z:Int)(hz:z=(n:Int)+1)(h0:vs=[.ref x,.int z,.ref fs])(h1:LedX H CP CL x es g t hw)(ok:PlanOk es t hw)(h2:H fs=ab (.lst [.ref f0,.ref b]))(h3:H f0=ab (.lst<|LR.map V.bl))(h4:H b=ab (.lst<|bs.map V.bl))(h5:n < t.length)(t8:t.length<=8)(h6:bs.length<=900)(h7:bU t hw n=kz)
  (q:∀(l:f') (H':Hp),Same H H'->H l=A'->H' l=ab (.lst [.bl<|bz es n LR,.bl<|g ((n:Int)+1) bs<|bz es n LR])->Q (.ref l) H'):AR CP CL vs H Q
def xV(CP CL:f'):Sp:=λvs H Q _=>AR CP CL vs H Q
def zD(CP CL:f')(H:Hp)(x:f')(A:dN)(t:Str)(hw:ER):Prop:=∃es g,LedX H CP CL x es g t hw/\PlanOk es t hw/\A=B1 es g t hw
theorem LvF.to(h:LvF H kvs g)(k:∀b xs,H b=ab (.tup xs)->H' b=ab (.tup xs)):LvF H' kvs g:=λv=>by
 obtain h|⟨te,lf,c,b,e,h1,h2,r⟩:=h v
 ·exact .inl h
 ·exact .inr ⟨te,lf,c,b,e,k _ _ h1,k _ _ h2,r⟩
theorem LedX.mono{CL:f'}(h:LedX H CP CL x es g t hw)(k:Same H H'):LedX H' CP CL x es g t hw:=by
 obtain⟨dx,d,pl,la,a,kvs,h1,h2,h3,h4,h5,h6⟩:=h;exact⟨dx,d,pl,la,a,kvs,k _ _ h1,k _ _ h2,k _ _ h3,k _ _ h4,h5.to λb xs e=>k _ _ e,h6.mono<|Same.kept k⟩
theorem PlayerAt.off(h:PlayerAt H CP x es)(k:Off T H H')(t:TabAt H T pos qual):PlayerAt H' CP x es:=by
 have kt:∀b xs,H b=ab (.tup xs)->H' b=ab (.tup xs):=λb xs e=>k.at_ t e λ_ z=>nomatch z
 obtain⟨dx,de,kvs,h1,h2,hn,hs⟩:=h;refine⟨dx,de,kvs,k.at_ t h1 (λ_ z=>nomatch z),k.at_ t h2 (λ_ z=>nomatch z),hn,λe he=>?_⟩;obtain⟨te,a,tr,rs,b1,b2,b3⟩:=hs e he;refine⟨te,a,tr,rs,kt _ _ b1,kt _ _ b2,b3.len,λi y z=>?_⟩;obtain⟨r,z1,q,sv,z2,z3,z4⟩:=b3.at_ i y z;exact⟨r,z1,q,sv,z2,kt _ _ z3,kt _ _ z4⟩
theorem nB(CP CL:f'):zv CL (zD CP CL) where
 mono:=λ⟨es,g,h,o,e⟩ k=>⟨es,g,h.mono k,o,e⟩
 ins:=λ⟨es,g,⟨dx,d,pl,la,a,kvs,h1,_,_,_,_,_⟩,_⟩=>⟨dx,_,h1,rfl⟩
 off:=λ⟨es,g,⟨dx,d,pl,la,a,kvs,h1,h2,h3,h4,h5,h6⟩,o,e⟩ k tb=>⟨es,g,⟨dx,d,pl,la,a,kvs,k.at_ tb h1 (λ_ z=>nomatch z),k.at_ tb h2 (λ_ z=>nomatch z),k.at_ tb h3 (λ_ z=>nomatch z),k.at_ tb h4 (λ_ z=>nomatch z),h5.to (λb xs e=>k.at_ tb e λ_ z=>nomatch z),h6.off k tb⟩,o,e⟩
def AS(CP:f')(H:Hp)(x:f')(A:dN)(t:Str)(hw:ER):Prop:=∃es,PlayerAt H CP x es/\PlanOk es t hw/\A=bz es
theorem kJ(CP:f'):zv CP (AS CP) where
 mono:=λ⟨es,h,o,e⟩ k=>⟨es,h.mono<|Same.kept k,o,e⟩
 ins:=λ⟨es,⟨dx,de,kvs,h1,_,_,_⟩,_⟩=>⟨dx,_,h1,rfl⟩
 off:=λ⟨es,h,o,e⟩ k tb=>⟨es,h.off k tb,o,e⟩
theorem sS(t:Str)(hw:ER){i:Nat}{z:Int}(hz:z=(i:Int)+1)(hi:i < t.length):bH ((bo t hw).map λk=>((FS k:aS),V.bl kz)) (.inl z)=if bU t hw i=kz then ab (.bl kz)else none:=by
 subst hz;have e1:∀(ks:bc Int) (z:Int),bH (ks.map λk=>((FS k:aS),V.bl kz)) (.inl z)=if z∈ks then ab (.bl kz)else none:=λks z=>by
  induction ks with
  |nil=>rfl
  |cons k r ih=>
   rw[FA];by_cases e:k=z
   ·rw[bL (show((FS k:aS),V.bl kz).1=.inl z by rw[e]),Fc<|by rw[e];exact Fz]
   ·rw[bE (show¬((FS k:aS),V.bl kz).1=.inl z from λh=>e<|GR h),ih];by_cases g:z∈r
    ·rw[Fc g,Fc<|Fx _ g]
    ·rw[E7 g,E7 (λh=>by obtain h|h:=Fl.mp h;exact e h.symm;exact g h)]
 rw[e1];have e2:((i:Int)+1∈bo t hw)↔bU t hw i=true:=by
  unfold bo bU;rw[FW];constructor
  ·rintro⟨j,hj,e⟩;have:j=i:=by lia
   subst this;exact(Gf.mp hj).2
  ·intro h;exact⟨i,Gf.mpr ⟨FZ.mpr hi,h⟩,by lia⟩
 by_cases g:bU t hw i=kz
 ·rw[Fc g,Fc<|e2.mpr g]
 ·rw[E7 g,E7 λh=>g<|e2.mp h]
inductive ED (H:Hp)(D:f')(i:Nat)(σ:St)(ys:bc V)(H2:Hp):Prop
 |mk (v0:kb V)(h0:σ=[v0])(h1:H2 D=ab (.lst ys))(h2:Same H H2)(h3:i=0->ys=[])(h4:i=1->∃f0:f',ys=[.ref f0]/\f0≠D/\H f0=A'/\H2 f0=ab (.lst [])):ED H D i σ ys H2
inductive AT (x b F f0:f')(es:bc dm)(t:Str)(hw:ER)(bs:bc ER)(H:Hp)(i:Nat)(σ:St)(H2:Hp):Prop
 |mk (v4 v5 v6 v7:kb V)(i0:σ=[ab<|.ref x,ab<|.int<|(bs.length:Int)+1,ab<|.ref b,ab<|.ref F,v4,v5,v6,v7])(i1:H2 f0=ab (.lst<|(nG es t hw bs i).map V.bl))(i2:H2 F=ab (.lst [.ref f0]))(i3:Same H H2):AT x b F f0 es t hw bs H i σ H2
inductive xW (x b F f0 tl:f')(z:Int)(n:Nat)(r:ER)(LR:bc ER)(us:bc V)(H:Hp)(i:Nat)(σ:St)(H2:Hp):Prop
 |mk (v6 v7:kb V)(i0:σ=[ab<|.ref x,ab<|.int<|(n:Int)+1,ab<|.ref b,ab<|.ref F,ab<|.int z,ab<|.ref tl,v6,v7])(i1:H2 f0=ab (.lst<|(LR++if i=0 then []else [r]).map V.bl))(i2:H2 F=ab (.lst [.ref f0]))(i3:Same H H2)(i4:H2 tl=ab (.lst us)):xW x b F f0 tl z n r LR us H i σ H2
section
variable {K:gV}{CL:f'}
theorem xX:ax ["values","variable","begun","inner"] ["values","variable","begun","inner"] (ah mB):=⟨rfl,rfl,rfl,by decide+kernel,rfl,by decide+kernel,by decide+kernel⟩
theorem zE(F:Fun K "led_value" "led_value" mB f fd)(KY:Fn P w K mg base 2 "some_stands" f1 d1 ["clause","filling"] qT):FnOk P w K mg base bD 3 f fd ["values","variable","begun","inner"] xU:=by
 have sc:=xX;refine F.ok xX (λvs H Q E h=>?_) λHL A outer s H vs Q E hr h=>?_
 ·obtain⟨a,b,kvs,g,v,bs,i,rfl,_⟩:=h;rfl
 obtain⟨a,b,kvs,g,v,bs,i,rfl,ha,hg,hb,h9,q⟩:=h;have hu:=hr.units;have N':=rh hr;have gt:=DGet.k (k:=FS v) ha;refine⟨_,(af (aJ (PW.pt<|fb (jD<|vj N' (pv 1)<|pv 0)<|du<|bO<|aP<|aC KY hr (by lia) rfl<|aa (aA av (g9 N' (pv 0) (pv 1) λ_ _=>rfl) aj λ_ _=>rfl)<|aa (pv 2) ae) (ai<|am<|aA av (g9 N' (pv 0) (pv 1) λ_ _=>rfl) aj λ_ _=>rfl) az)
  (ai<|am<|pv 3)),?_⟩
 obtain⟨e,eg⟩|⟨te,lf,c,bb,e,h1,h2,h3,h4,eg⟩:=hg v
 ·rw[e]at gt;refine⟨_,rfl,_,rfl,a,_,rfl,gt,_,rfl,aG<|aG ⟨_,rfl,?_⟩⟩;have z:=q H<|Same.refl _;rw[eg]at z;exact z
 ·rw[e]at gt;refine⟨_,rfl,_,rfl,a,_,rfl,gt,_,rfl,aL ⟨_,rfl,_,rfl,a,_,rfl,gt,.inr<|.inl ⟨te,_,0,.ref lf,rfl,rfl,SqT.of h1,rfl,_,rfl,lf,b,c,bs,rfl,h2,hb,h9,h3,h4,λH1 k1=>⟨_,rfl,?_⟩⟩⟩⟩;have z:=q H1 k1;rw[eg]at z;cases gc:c.any (cu bs)with
  |true=>
   rw[gc,Fc rfl]at z;exact aG ⟨_,rfl,z⟩
  |false=>
   rw[gc,E7 i']at z;have gt1:=DGet.k (k:=FS v)<|k1 _ _ ha;rw[e]at gt1;exact aL ⟨_,rfl,_,rfl,a,_,rfl,gt1,.inr<|.inl ⟨te,_,1,.bl bb,rfl,rfl,SqT.of<|k1 _ _ h1,rfl,z⟩⟩
theorem sT:ax ["self","variable","fillings","told","values","begun"] ["self","variable","fillings"] (ah jg):=⟨rfl,rfl,rfl,by decide+kernel,rfl,by decide+kernel,by decide+kernel⟩
inductive AU (x fs l sl la a b:f')(z:Int)(r:ER)(v:ER)(H:Hp)(i:Nat)(σ:St)(H2:Hp):Prop
 |mk (v4 v5:kb V)(i0:σ=[ab<|.ref x,ab<|.int z,ab<|.ref fs,ab<|.ref l,v4,v5])(i1:H2 l=ab (.lst (if i=0 then [.bl r]else [.bl r,.bl v])))(i2:Same H H2)(i3:H2 la=ab (.lst [.ref a]))(i4:H2 sl=ab (.lst [.ref b])):AU x fs l sl la a b z r v H i σ H2
theorem xY(F:Fun K "answers" "LedBack.answers" jg f fd)(T:B2 K mg CL)(MB:uX P w K mg base bD 3 CP "answer" f1 d1 ["self","variable","begun"] (oX CP))(QF:Fn P w K mg base 3 "led_value" f2 d2 ["values","variable","begun","inner"] xU):FnOk P w K mg base bD 4 f fd ["self","variable","fillings"] (xV CP CL):=by
 have sc:=sT;refine F.ok sT (λvs H Q E h=>?_) λHL A outer s H vs Q E hr h=>?_
 ·obtain⟨x,fs,f0,b,es,g,t,hw,n,LR,bs,_,z,_,rfl,_⟩:=h;rfl
 obtain⟨x,fs,f0,b,es,g,t,hw,n,LR,bs,hn,z,rfl,rfl,hL,hok,Z5,Y4,hb,Np,t8,h9,ho,q⟩:=h;have hu:=hr.units;obtain⟨dx,d,pl,la,a,kvs,h1,h2,h3,h4,h5,h6⟩:=id hL;obtain⟨dp,de,kvp,p1,_⟩:=id h6;obtain⟨e,hf,SK,Uj⟩:=hok.has _ Np ho;have ea:bz es n LR=ju e.2.1 LR e.2.2:=by
  unfold bz;rw[hf]
 refine⟨_,(af (aB (i:=3) sc.nd rfl (E8 rfl)<|be<|aa (oB MB (dn (pv 0) rfl) hr (by lia)<|aa (pv 1)<|aa (aA av (pv 2) aj λ_ _=>rfl) ae) ae)
  (af (aU Fg rfl (vV rfl T.zip (dn (pv 0) rfl)<|dj dW (pv 2) (dw aj) fg) (eF rfl<|aW (ap (i:=4) sc.nd rfl<|E8 rfl)<|aW (ap (i:=5) sc.nd rfl<|E8 rfl) dh)
   (ai<|bG<|cK Fp FB FC bh (pv 3)<|aa (aC QF hr (by lia) rfl<|aa (pv 4)<|aa (pv 1)<|aa (pv 5)<|aa (aA av (pv 3) (dC cC aj) λ_ _=>rfl) ae) ae))
  (ai<|am<|pv 3))),?_⟩
 refine⟨_,rfl,x,CL,dx,_,_,rfl,h1,T.cl,T.ni,rfl,pl,dp,_,rfl,p1,rfl,_,rfl,_,rfl,.inl ⟨fs,_,0,.ref f0,rfl,rfl,SqL.of Z5,rfl,pl,f0,es,e,LR,(by rw[Uj,Lf];rfl),h6,Y4,by lia,SK,hn▸hok.nearAt SK Uj,(by show 1<=sizeLine;decide),λl nl=>?_⟩⟩;rw[<-ea];generalize bz es n LR=r at q;have k1:=ag nl<|.lst [.bl r];have s1:upd H l (.lst [.bl r]) l=ab (.lst [.bl r]):=ad;generalize upd H l (.lst [.bl r])=H1 at k1 s1 ⊢;refine⟨_,rfl,x,CL,dx,_,_,rfl,k1 _ _ h1,T.cl,T.nl,rfl,_,rfl,1,rfl,fs,_,rfl,SqL.of<|k1 _ _ Z5,λsl UO=>?_⟩;have k2:=ag UO<|.lst<|dq [.ref f0,.ref b] (ab 1) A';have s2:upd H1 sl (.lst<|dq [.ref f0,.ref b] (ab 1) A') sl=ab (.lst [.ref b]):=ad;generalize upd H1 sl (.lst<|dq [.ref f0,.ref b] (ab 1) A')=H2 at k2 s2 ⊢;have NA:=k1.trans k2;refine⟨la,sl,rfl,rfl,⟨_,SqL.of<|NA _ _ h3⟩,⟨_,SqL.of s2⟩,mV (K:=K) (a:=la) (b:=sl) (xs:=[.ref a]) (ys:=[.ref b]) (n:=1) rfl (lb _) (AU x fs l sl la a b ((n:Int)+1) r (g ((n:Int)+1) bs r) H) ⟨A',A',rfl,k2 _ _ s1,NA,NA _ _ h3,s2⟩ ?_ ?_ ?_⟩
 ·rintro i σ H3 _ ⟨_,_,_,_,_,g3,g4⟩;exact⟨SqL.of g3,SqL.of g4⟩
 ·rintro i y z σ H3 t1 hy hz ⟨v4,v5,rfl,g1,k3,g3,g4⟩ nt1;obtain rfl:i=0:=by have:=(ES.mp hy).1;simp at this;lia
  cases hy;cases hz;have k4:=ag nt1<|.tup [.ref a,.ref b];exists t1,_,rfl,SqT.of ad,rfl,_,_,rfl,_,_,rfl,rfl;have Q0:upd H3 t1 (.tup [.ref a,.ref b]) l=ab (.lst [.bl r]):=k4 _ _ g1;have Uw:=k4 _ _ g3;have g4':=k4 _ _ g4;have RP:=k3.trans k4;show zN _ _ _ (upd H3 t1<|.tup [.ref a,.ref b])
  generalize upd H3 t1 (.tup [.ref a,.ref b])=H4 at RP Q0 Uw g4' ⊢;refine⟨_,rfl,.inl ⟨rfl,_,SqL.of Q0⟩,_,rfl,_,rfl,_,rfl,_,rfl,1,rfl,.inl ⟨l,_,-1,.bl r,rfl,rfl,SqL.of Q0,rfl,a,b,kvs,g,_,bs,r,rfl,RP _ _ h4,h5.to λb xs e=>RP _ _ e,RP _ _ hb,h9,λH5 k5=>⟨l,_,_,rfl,rfl,k5 _ _ Q0,au (by show 1<=1000;decide),?_⟩⟩⟩;exact⟨_,_,rfl,ad,(RP.trans k5).upd_new nl _,(by rw[al<|ak h3 nl];exact k5 _ _ Uw),(by rw[al<|GP<|ak s1 UO];exact k5 _ _ g4')⟩
 ·rintro σ H3 ⟨v4,v5,rfl,g1,k3,_,_⟩;exact⟨_,rfl,q l H3 k3 nl g1⟩
theorem sU:ax ["self","variable","begun","fillings","lesser","told","filling","value"] ["self","variable","begun"] (ah jh):=⟨rfl,rfl,rfl,by decide+kernel,rfl,by decide+kernel,by decide+kernel⟩
theorem xZ(F:Fun K "answer" "LedBack.answer" jh f fd)(T:B2 K mg CL)(MB:uX P w K mg base bD 3 CP "answer" f1 d1 ["self","variable","begun"] (oX CP))(PX:uX P w K mg base bD 4 CL "answers" f2 d2 ["self","variable","fillings"] (xV CP CL)):FnOk P w K mg base bD 5 f fd ["self","variable","begun"] (ny<|zD CP CL):=by
 have sc:=sU;refine F.ok sU (λvs H Q E h=>?_) λHL A outer s H vs Q E hr h=>?_
 ·obtain⟨x,b,A,t,hw,bs,rfl,_⟩:=h;rfl
 obtain⟨x,b,A0,t,hw,bs,rfl,hPA,hb,Sj,t8,ho,q⟩:=h;obtain⟨es,g,hL,hok,rfl⟩:=hPA;have hu:=hr.units;have N':=rh hr;obtain⟨dx,d,pl,la,a,kvs,h1,h2,h3,h4,h5,h6⟩:=id hL;have gt:=DGet.k (k:=FS<|(bs.length:Int)+1) h2;rw[sS t hw rfl Sj,Fc ho]at gt;refine⟨_,(af (aJ (jD<|iE N' (pv 1)<|dn (pv 0) rfl) (ai<|am<|oB MB (dn (pv 0) rfl) hr (by lia)<|aa (pv 1)<|aa (pv 2) ae) az)
  (af (cY (i:=3) sc.nd rfl rfl (NY:=["values"]) (idx:=[A']) rfl ⟨by with_unfolding_all rfl,(by with_unfolding_all exact trivial),λ_=>by rfl,by rfl,by rfl,by rfl,by decide⟩ (bi<|dn (pv 0) rfl) (λ_ _ _ _=>(ap (i:=0) (show Gd (["values"]:bc Str) by decide+kernel) rfl<|E8 rfl)) (λ_ _ _ _=>b_) (λ_ _ _ _=>(be ae))<|by with_unfolding_all rfl)
  (af (aU Fg rfl (eO rfl T.range<|aa aj<|aa (pv 1) ae) (ap (i:=4) sc.nd rfl<|Ie rfl)
   (af (aJ (jD<|vj N' (pv 4)<|dn (pv 0) rfl) (ai<|aB (i:=5) sc.nd rfl (E8 rfl)<|oB PX (pv 0) hr (by lia)<|aa (pv 4)<|aa (aE fi (pv 3)<|be<|aa (pv 2) ae) ae)<|ai<|cY (i:=5) sc.nd rfl rfl (NY:=["filling","begun","lesser"]) (idx:=[A',ab 2,ab 4]) rfl ⟨by with_unfolding_all rfl,(by with_unfolding_all exact⟨rfl,rfl,trivial⟩),λ_=>by rfl,by rfl,by rfl,by rfl,by decide⟩ (bi<|pv 3) (λ_ _ _ _=>(ap (i:=0) (show Gd (["filling","begun","lesser"]:bc Str) by decide+kernel) rfl<|E8 rfl)) (λ_ _ _ _=>b_) (λ_ _ _ _=>(aA (bR (K:=K) rfl) (pv 1) (aE eG (pv 2) aj) λ_ _=>rfl))<|by with_unfolding_all rfl)
   (ai (aU Fg rfl (vV rfl T.zip (pv 3)<|pv 5) (eF rfl<|aW (ap (i:=6) sc.nd rfl<|E8 rfl)<|aW (ap (i:=7) sc.nd rfl<|E8 rfl) dh)
    (ai<|bG<|cK Fp FB FC bh (pv 6)<|aa (pv 7) ae)))))
  (ai<|am<|aA av (oB PX (pv 0) hr (by lia)<|aa (pv 1)<|aa (aE fi (pv 3)<|be<|aa (pv 2) ae) ae) (dC cC aj) λ_ _=>rfl)))),?_⟩
 refine⟨_,rfl,_,rfl,x,CL,dx,_,_,rfl,h1,T.cl,T.nv,rfl,d,_,rfl,gt,_,rfl,aG ?_⟩;refine⟨_,rfl,x,CL,dx,_,_,rfl,h1,T.cl,T.nl,rfl,la,rfl,⟨_,SqL.of h3⟩,λD nD=>?_⟩;refine cZ (K:=K) (a:=la) (xs:=[.ref a]) (ED H D) ⟨A',rfl,ad,ag nD _,λ_=>rfl,λz=>nomatch z⟩ ?_ ?_ ?_
 ·rintro i σ ys H2 _ ⟨_,_,g1,k2,_,_⟩;exact⟨g1,SqL.of<|k2 _ _ h3⟩
 ·rintro i y σ ys H2 hy ⟨v0,rfl,g1,k2,e0,_⟩;obtain rfl:i=0:=by have:=(ES.mp hy).1;simp at this;lia
  obtain rfl:=e0 rfl;refine dF ⟨FF _,λf0 Sw=>?_⟩;have k3:=ag Sw<|.lst [];have TC:f0≠D:=λz=>by rw[z,g1]at Sw;cases Sw
  exact⟨k3 _ _ g1,au (by show 0<=1000;decide),_,rfl,ad,(k2.trans k3).upd_new nD _,(λz=>nomatch z),λ_=>⟨f0,rfl,TC,k2.free Sw,by rw[al TC];exact ad⟩⟩
 rintro σ ys H2 ⟨_,_,g1,k2,_,e1⟩;obtain⟨f0,rfl,TC,Sw,Y4⟩:=e1 rfl;have en:((bs.length:Int)+1 - 1).toNat=bs.length:=by lia
 refine⟨_,rfl,_,_,rfl,⟨by decide,by decide,by lia,by lia⟩,cF (lo:=1) (n:=((bs.length:Int)+1 - 1).toNat)
  (AT x b D f0 es t hw bs H) ⟨A',A',A',A',rfl,Y4,g1,k2⟩ ?_ ?_⟩
 ·rintro i σ H4 hi ⟨v4,v5,v6,v7,rfl,j1,j2,k4⟩;rw[en]at hi;have cu:i < t.length:=by lia
  have gt2:=DGet.k (k:=FS (1+(i:Int)))<|k4 _ _ h2;rw[sS t hw (Lf _ _) cu]at gt2;exists _,rfl,_,rfl,x,CL,dx,_,_,rfl,k4 _ _ h1,T.cl,T.nv,rfl,d,_,rfl,gt2,_,rfl;cases go:bU t hw i with
  |true=>
   rw[Fc rfl];refine aL ⟨_,rfl,x,dx,_,rfl,k4 _ _ h1,rfl,_,rfl,_,rfl,_,rfl,(by show 1<=sizeLine;decide),λl1 n1=>?_⟩;have k5:=ag n1<|.lst [.ref b];refine⟨D,l1,_,_,rfl,rfl,k5 _ _ j2,ad,(by show 2<=sizeLine;decide),λl2 n2=>?_⟩;have k6:=k5.trans<|ag n2<|.lst ([.ref f0]++[.ref b]);have s6:upd (upd H4 l1<|.lst [.ref b]) l2 (.lst ([.ref f0]++[.ref b])) l2=ab (.lst [.ref f0,.ref b]):=ad;generalize upd (upd H4 l1<|.lst [.ref b]) l2 (.lst ([.ref f0]++[.ref b]))=H6 at k6 s6 ⊢;have Sy:=k4.trans k6;refine⟨x,l2,f0,b,es,g,t,hw,i,nG es t hw bs i,bs,ir _ _ _ _ _,_,Lf _ _,rfl,hL.mono Sy,hok,s6,k6 _ _ j1,Sy _ _ hb,cu,t8,by lia,go,λtl H7 k7 R9 Sb=>?_⟩;have Yw:=Sy.trans k7;have d5:=k7 _ _<|k6 _ _ j2;have f5:=k7 _ _<|k6 _ _ j1;have Yg:tl≠f0:=λz=>by rw[z,k6 _ _ j1]at R9;cases R9
   have ef:nG es t hw bs (i+1)=nG es t hw bs i++[bz es i<|nG es t hw bs i]:=by rw[nG,go,Fc rfl]
   generalize bz es i (nG es t hw bs i)=r at Sb ef;obtain⟨us,TX⟩:∃us,H7 tl=ab (.lst (.bl r::us)):=⟨_,Sb⟩;refine⟨_,rfl,_,rfl,D,tl,rfl,rfl,⟨_,SqL.of d5⟩,⟨_,SqL.of TX⟩,mV (K:=K) (a:=D) (b:=tl) (xs:=[.ref f0]) (ys:=.bl r::us) (n:=1) rfl (Hx<|FF _) (xW x b D f0 tl (1+(i:Int)) bs.length r (nG es t hw bs i) (.bl r::us) H) ⟨_,_,rfl,(by rw[Fc rfl,GA];exact f5),d5,Yw,TX⟩ ?_ ?_ ?_⟩
   ·rintro n σ H6 _ ⟨_,_,_,_,z2,_,z4⟩;exact⟨SqL.of z2,SqL.of z4⟩
   ·rintro n y z σ H6 t1 hy hz ⟨w6,w7,rfl,z1,z2,k6,z4⟩ nt1;obtain rfl:n=0:=by have:=(ES.mp hy).1;simp at this;lia
    cases hy;cases hz;have k7:=ag nt1<|.tup [.ref f0,.bl r];exists t1,_,rfl,SqT.of ad,rfl,_,_,rfl,_,_,rfl,rfl;rw[Fc rfl,GA]at z1;exists _,rfl,.inl ⟨rfl,_,SqL.of<|k7 _ _ z1⟩,_,rfl,f0,_,_,rfl,rfl,k7 _ _ z1,(by rw[ka,ir];exact au<|by lia);exact⟨_,_,rfl,(by rw[ad,E7 (by decide),<-gR]),(by rw[al<|GP TC];exact k7 _ _ z2),(k6.trans k7).upd_new Sw _,(by rw[al Yg];exact k7 _ _ z4)⟩
   ·rintro σ H6 ⟨w6,w7,rfl,z1,z2,k6,_⟩;rw[E7 (by decide),<-ef]at z1;exact⟨_,_,_,_,rfl,z1,z2,k6⟩
  |false=>
   rw[E7 i'];refine aG ⟨_,rfl,D,rfl,⟨_,SqL.of j2⟩,λtl R9=>?_⟩;have Z_:bs[i]? =ab (bs.getD i B'):=by rw[Fo,E1 hi];rfl
   have ef:nG es t hw bs (i+1)=nG es t hw bs i++[bs.getD i B']:=by rw[nG,go,E7 i']
   generalize bs.getD i B'=r at Z_ ef;refine df [ab<|.ref b,ab<|.int (1+(i:Int))] (λ_=>kz) (λ_=>.bl r) rfl j2 R9 (by show 1<=9000;decide) (λ_ _ _ _ _ r=>r) (λy hy _ H' R k rr=>⟨_,rfl,_,rfl,_,_,rfl,rfl,.inl ⟨b,_,_,.bl r,rfl,rfl,SqL.of<|k _ _<|k4 _ _ hb,(by rw[show(1:Int)+(i:Int) - 1=(i:Int) by lia];exact bf<|by rw[Fk,Z_];rfl),rr⟩⟩) ?_;have k5:=ag R9<|.lst<|(([V.ref f0].filter λ_=>kz).map λ_=>.bl r);have Sb:upd H4 tl (.lst<|(([V.ref f0].filter λ_=>kz).map λ_=>.bl r)) tl=ab (.lst<|.bl r::[]):=ad;have Yg:tl≠f0:=λz=>by rw[z,j1]at R9;cases R9
   generalize upd H4 tl (.lst<|(([V.ref f0].filter λ_=>kz).map λ_=>.bl r))=H7 at k5 Sb ⊢;have Yw:=k4.trans k5;have d5:=k5 _ _ j2;have f5:=k5 _ _ j1;obtain⟨us,TX⟩:∃us,H7 tl=ab (.lst (.bl r::us)):=⟨_,Sb⟩;refine⟨_,rfl,_,rfl,D,tl,rfl,rfl,⟨_,SqL.of d5⟩,⟨_,SqL.of TX⟩,mV (K:=K) (a:=D) (b:=tl) (xs:=[.ref f0]) (ys:=.bl r::us) (n:=1) rfl (Hx<|FF _) (xW x b D f0 tl (1+(i:Int)) bs.length r (nG es t hw bs i) (.bl r::us) H) ⟨_,_,rfl,(by rw[Fc rfl,GA];exact f5),d5,Yw,TX⟩ ?_ ?_ ?_⟩
   ·rintro n σ H6 _ ⟨_,_,_,_,z2,_,z4⟩;exact⟨SqL.of z2,SqL.of z4⟩
   ·rintro n y z σ H6 t1 hy hz ⟨w6,w7,rfl,z1,z2,k6,z4⟩ nt1;obtain rfl:n=0:=by have:=(ES.mp hy).1;simp at this;lia
    cases hy;cases hz;have k7:=ag nt1<|.tup [.ref f0,.bl r];exists t1,_,rfl,SqT.of ad,rfl,_,_,rfl,_,_,rfl,rfl;rw[Fc rfl,GA]at z1;exists _,rfl,.inl ⟨rfl,_,SqL.of<|k7 _ _ z1⟩,_,rfl,f0,_,_,rfl,rfl,k7 _ _ z1,(by rw[ka,ir];exact au<|by lia);exact⟨_,_,rfl,(by rw[ad,E7 (by decide),<-gR]),(by rw[al<|GP TC];exact k7 _ _ z2),(k6.trans k7).upd_new Sw _,(by rw[al Yg];exact k7 _ _ z4)⟩
   ·rintro σ H6 ⟨w6,w7,rfl,z1,z2,k6,_⟩;rw[E7 (by decide),<-ef]at z1;exact⟨_,_,_,_,rfl,z1,z2,k6⟩
 ·rintro σ H4 ⟨v4,v5,v6,v7,rfl,j1,j2,k4⟩;rw[en]at j1;refine⟨_,rfl,x,dx,_,rfl,k4 _ _ h1,rfl,_,rfl,_,rfl,_,rfl,(by show 1<=sizeLine;decide),λl1 n1=>?_⟩;have k5:=ag n1<|.lst [.ref b];refine⟨D,l1,_,_,rfl,rfl,k5 _ _ j2,ad,(by show 2<=sizeLine;decide),λl2 n2=>?_⟩;have k6:=k5.trans<|ag n2<|.lst ([.ref f0]++[.ref b]);have s6:upd (upd H4 l1<|.lst [.ref b]) l2 (.lst ([.ref f0]++[.ref b])) l2=ab (.lst [.ref f0,.ref b]):=ad;generalize upd (upd H4 l1<|.lst [.ref b]) l2 (.lst ([.ref f0]++[.ref b]))=H6 at k6 s6 ⊢;have Sy:=k4.trans k6;refine⟨x,l2,f0,b,es,g,t,hw,bs.length,nG es t hw bs bs.length,bs,ir _ _ _ _ _,_,rfl,rfl,hL.mono Sy,hok,s6,k6 _ _ j1,Sy _ _ hb,Sj,t8,by lia,ho,λtl H7 k7 R9 Sb=>⟨1,rfl,.inl ⟨tl,_,-1,_,rfl,rfl,SqL.of Sb,rfl,q H7<|Sy.trans k7⟩⟩⟩
end
section
variable {K:gV}{CL:f'}
theorem x_(G:uX P w K mg base bD 3 CP "answer" f fd ps (oX CP)):uX P w K mg base bD 5 CP "answer" f fd ps (ny<|AS CP):=by
 refine⟨(G.ok.mono<|by decide).imp λvs H Q E h=>?_,G.b,G.cl,G.me⟩;obtain⟨x,b,A,t,hw,bs,rfl,⟨es,Kj,hok,rfl⟩,hb,Sj,t8,ho,q⟩:=h;obtain⟨e,hf,SK,Uj⟩:=hok.has _ Sj ho;have ea:bz es bs.length bs=ju e.2.1 bs e.2.2:=by
  unfold bz;rw[hf]
 exact⟨x,b,es,e,bs,(by rw[Uj,Lf]),Kj,hb,by lia,SK,hok.nearAt SK Uj,by rw[<-ea];exact q H<|Same.refl _⟩
theorem B3(F:Fun K "played_on" "played_on" u0 f fd)(T:oW mg)(G1:Fn P w K mg base 1 "hand_of" f1 d1 ["sentence","variable"] eJ)(G2:uX P w K mg base bD 3 CP "answer" f4 d4 ["self","variable","begun"] (oX CP)):FnOk P w K mg base bD 6 f fd ["sentence","hand","player","begun"] (pc<|AS CP):=AJ F T (kJ CP) G1<|x_ G2
theorem B4(F:Fun K "played_on" "played_on" u0 f fd)(T:oW mg)(G1:Fn P w K mg base 1 "hand_of" f1 d1 ["sentence","variable"] eJ)(G2:uX P w K mg base bD 5 CL "answer" f4 d4 ["self","variable","begun"] (ny<|zD CP CL)):FnOk P w K mg base bD 6 f fd ["sentence","hand","player","begun"] (pc<|zD CP CL):=AJ F T (nB CP CL) G1 G2
end
abbrev e_:Gs:=cH 69
abbrev gl:Gs:=cH 70
abbrev gm:Gs:=cH 71
abbrev ji:Gs:=cH 72
abbrev gn:Gs:=cH 73
inductive ya (vs:bc V)(H:Hp)(Q:VK):Prop
 |mk (p l oa:f')(t:Str)(w:V)(hw:ER)(es:bc dm)(xs:bc V)(os:bc ER)(h0:vs=[.ref p,.str (aN hw),.ref l,.ref oa])(h1:H p=ab (.tup [.str t,w]))(h2:t.length<=8)(h3:H l=ab (.lst xs))(h3':EntsAt H (λ_=>True) es xs)(h4:PlanOk es t hw)(h5:H oa=ab (.lst<|os.map V.bl))(h6:os.length=dS t hw t.length)
  (q:∀(l:f') (H':Hp),Same H H'->H l=A'->H' l=ab (.lst<|(bV (bz es) t hw os t.length).1.map V.bl)->Q (.ref l) H'):ya vs H Q
def sV:Sp:=λvs H Q _=>ya vs H Q
inductive sW (vs:bc V)(H:Hp)(Q:VK):Prop
 |mk (v:V)(f:f')(t:Str)(cs:bc (bc Int))(bs:bc ER)(h0:vs=[v,.ref f])(h1:RD H (fz t cs) v)(h2:H f=ab (.lst (bs.map V.bl)))(h3:Small cs)(h4:∀c∈cs,∀l∈c,1<=ao l/\ao l<=(bs.length:Int))(q:∀H':Hp,Same H H'->Q (.bl (cs.all λc=>c.any<|cu bs)) H'):sW vs H Q
def pB:Sp:=λvs H Q _=>sW vs H Q
structure zF (H:Hp)(ls:bc (bc ER))(xs:bc V):Prop where
 len:xs.length=ls.length
 at_:∀(i:Nat) (x:V),xs[i]? =ab x->∃r a,ls[i]? =ab r/\x=.ref a/\H a=ab (.lst<|r.map V.bl)
inductive sX (vs:bc V)(H:Hp)(Q:VK):Prop
 |mk (m:Nat)(h0:vs=[.int (m:Int)])(h1:m<=8)(q:∀(l:f') (xs:bc V) (H':Hp),Same H H'->H' l=ab (.lst xs)->zF H' (fS m) xs->Q (.ref l) H'):sX vs H Q
def pC:Sp:=λvs H Q _=>sX vs H Q
inductive yb (vs:bc V)(H:Hp)(Q:VK):Prop
 |mk (p:f')(t:Str)(w:V)(hw:ER)(h0:vs=[.ref p,.str<|aN hw])(h1:H p=ab (.tup [.str t,w]))(h2:t.length<=8)(q:∀H':Hp,Same H H'->Q (.int (dS t hw t.length:Nat)) H'):yb vs H Q
def sY:Sp:=λvs H Q _=>yb vs H Q
inductive sZ (vs:bc V)(H:Hp)(Q:VK):Prop
 |mk (p l:f')(t:Str)(cs:bc (bc Int))(hw:ER)(es:bc dm)(xs:bc V)(h0:vs=[.ref p,.str (aN hw),.ref l])(h1:RD H (fz t cs) (.ref p))(h2:t.length<=8)(h3:H l=ab (.lst xs))(h3':EntsAt H (λ_=>True) es xs)(h4:PlanOk es t hw)(h5:Small cs)(h6:∀c∈cs,∀l∈c,1<=ao l/\ao l<=(t.length:Int))
  (q:∀(v:V) (H':Hp),Same H H'->OptAt H' (bN (bz es) t hw (fC cs hw) t.length 0 [] []) v->Q v H'):sZ vs H Q
def pD:Sp:=λvs H Q _=>sZ vs H Q
def pE(bs:bc ER):V->ER
 |.int l=>cu bs l
 |_=>B'
theorem zG(bs:bc ER)(c:bc Int):decide (V.int (((((c.map V.int).filter<|pE bs).map id).length:Nat):Int)=V.int 0)=!c.any (cu bs):=by
 rw[ka]
 induction c with
 |nil=>rfl
 |cons l r ih=>
  rw[FA,GL];cases g:cu bs l with
  |false=>
   rw[FP (p:=pE bs) (a:=V.int l) (by show¬cu bs l=kz;rw[g];exact i'),ih];rfl
  |true=>
   rw[FJ (p:=pE bs) (a:=V.int l) g,FI];exact E_ λz=>by
    have:=V.int.inj z;lia
theorem zH(h1:1<=ao l)(h2:ao l<=(bs.length:Int)):∃b,kL (bs.map V.bl) (ao l - 1)=ab (.bl b)/\decide (V.bl b=V.bl (decide (0 < l)))=cu bs l:=by
 obtain⟨b,hb,e⟩:=fU (p:=decide (0 < l)) h1 h2;exists b,hb;rw[ja h1 h2]at e;rw[ff,V.bl.inj e]
theorem EntsAt.mono(h:EntsAt H (λ_=>True) es xs)(k:Same H H'):EntsAt H' (λ_=>True) es xs:=⟨h.len,λi y hy=>let ⟨e,a1,b1⟩:=h.at_ i y hy;⟨e,a1,b1.mono k⟩⟩
theorem yc{t:Str}{hw:ER}{i:Nat}{z:Int}(h:z=(i:Int)+1):(bP t (ao z - 1).toNat == hw)=bU t hw i:=by
 subst h;have e:(ao ((i:Int)+1) - 1).toNat=i:=by
  rw[cL<|by lia];lia
 rw[e];rfl
theorem B5(hok:PlanOk es t hw)(hi:i < t.length)(ho:bU t hw i=kz):uJ es (1+(i:Int)) bs=.bl (bz es i bs):=by
 obtain⟨e,hf,_,_⟩:=hok.has i hi ho;unfold uJ bz;rw[hf]
inductive AV (H:Hp)(D p:f')(t:Str)(hw:ER)(i:Nat)(σ:St)(ys:bc V)(H2:Hp):Prop
 |mk (v0:kb V)(h0:σ=[v0,ab<|.str<|aN hw,ab<|.ref p])(h1:ys.length=dS t hw i)(h2:H2 D=ab (.lst ys))(h3:Same H H2):AV H D p t hw i σ ys H2
section
variable {K:gV}
theorem mC:ax ["_law_sentence_here","_law_hand","_law_plan_here","_law_others","_law_filling","_law_left","_law_variable"] ["_law_sentence_here","_law_hand","_law_plan_here","_law_others"] (ah e_):=⟨rfl,rfl,rfl,by decide+kernel,rfl,by decide+kernel,by decide+kernel⟩
inductive pF (p:f')(hw:ER)(l:f')(oa:f')(fl:f')(b:f')(es:bc dm)(t:Str)(os:bc ER)(H:Hp)(i:Nat)(σ:bc (kb V))(H4:Hp):Prop
 |mk (v6:kb V)(i0:σ=[ab<|.ref p,ab<|.str<|aN hw,ab<|.ref l,ab<|.ref oa,ab<|.ref fl,ab<|.ref b,v6])(i1:H4 fl=ab (.lst<|(bV (bz es) t hw os i).1.map V.bl))(i2:H4 b=ab (.lst<|(bV (bz es) t hw os i).2.map V.bl))(i3:Same H H4):pF p hw l oa fl b es t os H i σ H4
theorem qX(F:Fun K "_law_played" "_law_played" e_ f fd)(T:oW mg)(KI:Fn P w K mg base 1 "_law_own" f1 d1 ["_law_turns","_law_hand","_law_literal"] su)(Pi:Fn P w K mg base 1 "_law_answer" f2 d2 ["_law_plan_here","_law_variable","_law_begun"] xr):FnOk P w K mg base bD 2 f fd ["_law_sentence_here","_law_hand","_law_plan_here","_law_others"] sV:=by
 have sc:=mC;refine F.ok mC (λvs H Q E h=>?_) λHL A outer s H vs Q E hr h=>?_
 ·obtain⟨p,l,oa,t,w,hw,es,xs,os,rfl,_⟩:=h;rfl
 obtain⟨p,l,oa,t,w,hw,es,xs,os,rfl,h1,t8,hl,RX,hok,ho,YL,q⟩:=h;have hu:=hr.units;refine⟨_,(af (aB (i:=4) sc.nd rfl (E8 rfl)<|be ae)
  (af (aB (i:=5) sc.nd rfl (E8 rfl)<|bn fh rfl T.list HM<|aa (pv 3) ae)
  (af (aU Fg rfl (eO rfl T.range<|aa aj<|aa (aE bI (aq aH rfl T.len Fj<|aa (aA av (pv 0) aj λ_ _=>rfl) ae) aj) ae) (ap (i:=6) sc.nd rfl<|E8 rfl)
   (ai<|aJ (aP<|aC KI hr (by lia) rfl<|aa (aA av (pv 0) aj λ_ _=>rfl)<|aa (pv 1)<|aa (pv 6) ae) (ai<|bG<|cK Fp FB FC bh (pv 4)<|aa (aC Pi hr (by lia) rfl<|aa (pv 2)<|aa (pv 6)<|aa (pv 4) ae) ae)<|ai<|bG<|cK Fp FB FC bh (pv 4)<|aa (cK Fp Ms PySem.F.type_list_pop vi (pv 5)<|aa aj ae) ae))
  (ai<|am<|pv 4)))),?_⟩
 refine⟨FF _,λfl RK=>?_⟩;have Ym:H fl=none:=RK;have k1:=ag RK<|.lst [];have s1:upd H fl (.lst []) fl=ab (.lst []):=ad;generalize upd H fl (.lst [])=H1 at k1 s1 ⊢;refine⟨_,rfl,oa,_,rfl,.inl<|SqL.of<|k1 _ _ ho,λb hb=>?_⟩;have Yn:b≠fl:=(ak s1 hb).symm;have nb:H b=none:=k1.free hb;have k2:=ag hb<|.lst<|os.map V.bl;have s2:upd H1 b (.lst<|os.map V.bl) b=ab (.lst<|os.map V.bl):=ad;have Zs:=k2 _ _ s1;generalize upd H1 b (.lst<|os.map V.bl)=H2 at k2 s2 Zs ⊢;have O5:=k1.trans k2;have en:((t.length:Int)+1 - 1).toNat=t.length:=by lia
 refine⟨_,rfl,.inr (.inl ⟨p,_,0,.str t,rfl,rfl,SqT.of<|O5 _ _ h1,rfl,.str t,_,rfl,⟨FQ (au<|by lia),rfl⟩,_,_,rfl,rfl,_,_,rfl,⟨by decide,by decide,by lia,by lia⟩,cF (lo:=1) (n:=((t.length:Int)+1 - 1).toNat)
  (pF p hw l oa fl b es t os H)
  ⟨A',rfl,Zs,s2,O5⟩ ?_ ?_⟩)⟩
 ·rintro i σ H4 hi ⟨v6,rfl,g1,g2,k4⟩;rw[en]at hi;refine⟨_,rfl,.inr<|.inl ⟨p,_,0,.str t,rfl,rfl,SqT.of<|k4 _ _ h1,rfl,_,rfl,_,rfl,t,hw,1+(i:Int),rfl,(by rw[cL<|by lia];lia),(by rw[cL<|by lia];lia),by lia,_,rfl,?_⟩⟩;rw[yc (t:=t) (hw:=hw) (i:=i) (z:=1+(i:Int))<|by lia];have l1:=jc (bz es) t hw os i;have l2:=mq (bz es) t hw os i;have SX:bV (bz es) t hw os (i+1)=dO (bz es) t hw i (bV (bz es) t hw os i):=rfl;have hc1:=eY t hw i;have Si:=uK t hw (show i+1<=t.length by lia);generalize bV (bz es) t hw os i=S1 at SX g1 g2 l1 l2;obtain⟨fs,lf⟩:=S1;have l1':fs.length=i:=l1;have l2':lf.length=os.length - dS t hw i:=l2;cases go:bU t hw i with
  |true=>
   refine aL ?_;refine⟨_,rfl,.inl ⟨rfl,_,SqL.of g1⟩,_,rfl,_,rfl,_,rfl,l,fl,1+(i:Int),es,xs,λ_=>True,fs,rfl,k4 _ _ hl,RX.mono k4,g1,by lia,λe he hev=>(hok.nearAt he hev).mono (by lia),λH5 k5=>?_⟩;rw[B5 hok hi go];refine⟨fl,_,_,rfl,rfl,k5 _ _ g1,?_,?_⟩
   ·rw[ka];exact au (by lia)
   refine⟨_,rfl,?_,?_,(k4.trans k5).upd_new Ym _⟩
   ·rw[ad,SX];unfold dO;rw[Fc go,<-gR]
   ·rw[al Yn,SX];unfold dO;rw[Fc go];exact k5 _ _ g2
  |false=>
   refine aG ?_;rw[go,E7 i']at hc1;obtain⟨b0,lr,rfl⟩:∃b0 lr,lf=b0::lr:=by
    cases lf with
    |nil=>
     simp at l2';lia
    |cons b0 lr=>exact⟨b0,lr,rfl⟩
   exists _,rfl,.inl ⟨rfl,_,SqL.of g1⟩,_,rfl,.inl ⟨rfl,_,SqL.of g2⟩,b,_,0,0,.bl b0,rfl,rfl,g2,by decide,by decide,xz (by simp),rfl;refine⟨fl,_,_,rfl,rfl,(by rw[al<|GP Yn];exact g1),?_,?_⟩
   ·rw[ka];exact au (by lia)
   refine⟨_,rfl,?_,?_,(k4.upd_new nb _).upd_new Ym _⟩
   ·rw[ad,SX];unfold dO;rw[E7 (by rw[go];exact i'),<-gR];rfl
   ·rw[al Yn,ad,SX];unfold dO;rw[E7<|by rw[go];exact i'];rfl
 ·rintro σ H4 ⟨v6,rfl,g1,g2,k4⟩;rw[en]at g1;exact⟨_,rfl,q fl H4 k4 Ym g1⟩
theorem pG:ax ["_law_sentence_here","_law_filling","_law_clause"] ["_law_sentence_here","_law_filling"] (ah gl):=⟨rfl,rfl,rfl,by decide+kernel,rfl,by decide+kernel,by decide+kernel⟩
inductive pH (p:f')(g:f')(H:Hp)(cs:bc (bc Int))(bs:bc ER)(i:Nat)(σ:bc (kb V))(H2:Hp):Prop
 |mk (v2:kb V)(i0:σ=[ab (.ref p),ab (.ref g),v2])(i1:Same H H2)(i2:((cs.take i).all λc=>c.any<|cu bs)=kz):pH p g H cs bs i σ H2
theorem uO(F:Fun K "_law_comes" "_law_comes" gl f fd)(T:oW mg):FnOk P w K mg base bD 1 f fd ["_law_sentence_here","_law_filling"] pB:=by
 have sc:=pG;refine F.ok pG (λvs H Q E h=>?_) λHL A outer s H vs Q E hr h=>?_
 ·obtain⟨v,f,t,cs,bs,rfl,_⟩:=h;rfl
 obtain⟨v,g,t,cs,bs,rfl,hd,hg,MW,J4,q⟩:=h;obtain⟨p,qa,xs,rfl,h1,h2,h3⟩:=cx hd;have hu:=hr.units;refine⟨_,(af (aU Fg rfl (bi<|aA av (pv 0) aj λ_ _=>rfl) (ap (i:=2) sc.nd rfl<|E8 rfl)
   (ai<|aJ (aD (aK hu) (aq aH rfl T.len Fj<|aa (bj (NY:=["_law_one","_law_filling"]) (idx:=[A',ab 1]) rfl ⟨by with_unfolding_all rfl,(by with_unfolding_all exact⟨rfl,trivial⟩),λ_=>by rfl,by rfl,by rfl,by rfl,by decide⟩ (bQ<|pv 2) (λ_ _ _ _=>(ap (i:=0) (show Gd (["_law_one","_law_filling"]:bc Str) by decide+kernel) rfl<|E8 rfl)) (λ_ _ _ _=>(ca<|aD (aK hu) (aA (bR (K:=K) rfl) (pv 1) (aE eG (aq br rfl T.abs FG<|aa (pv 0) ae) aj) λ_ _=>rfl) (aM fF (pv 0) aj<|ay _)<|ay _)) λ_ _ _ _=>(pv 0)) ae) aj<|ay _) (ai<|am bK) az))
  (ai<|am bK)),?_⟩
 refine⟨_,rfl,.inr (.inl ⟨p,_,1,.ref qa,rfl,rfl,SqT.of h1,rfl,qa,rfl,⟨_,SqL.of h2⟩,cw (K:=K) (a:=qa) (xs:=xs)
  (pH p g H cs bs) ⟨A',rfl,Same.refl _,rfl⟩ ?_ ?_ ?_⟩)⟩
 ·rintro i σ H2 _ ⟨_,_,k2,_⟩;exact SqL.of<|k2 _ _ h2
 ·rintro i x σ H2 hx ⟨v2,rfl,k2,JB⟩;obtain⟨c,hc,tc,rfl,JA⟩:=h3.get hx;have Q8:=Fd hc;have e:cs.take (i+1)=cs.take i++[c]:=by rw[FD,hc];rfl
  refine⟨_,rfl,tc,rfl,⟨_,SqT.of<|k2 _ _ JA⟩,λD hD=>?_⟩;refine cm [ab<|.ref g] (pE bs) id rfl (k2 _ _ JA) hD (by rw[ka];have:=MW.2 c Q8;lia) ?_ ?_ ?_
  ·intro x hx H' R k r';obtain⟨z,hz,rfl⟩:=fm hx;obtain⟨bb,Tf,Te⟩:=zH (J4 c Q8 z hz).1 (J4 c Q8 z hz).2;refine⟨_,rfl,_,rfl,z,rfl,_,_,rfl,rfl,.inl ⟨g,_,_,.bl bb,rfl,rfl,SqL.of<|k _ _<|k2 _ _ hg,Tf,_,rfl,_,_,rfl,rfl,.inl ⟨rfl,_,rfl,?_⟩⟩⟩;rw[Te];exact r'
  ·intro x hx _ H' R k r';exact⟨_,rfl,r'⟩
  ·have kD:=ag hD<|.lst<|((c.map V.int).filter<|pE bs).map id;refine⟨.ref D,_,rfl,.inl ⟨_,SqL.of ad,rfl⟩,.inl ⟨rfl,_,rfl,?_⟩⟩;rw[zG];cases gc:c.any (cu bs)with
   |true=>
    refine aG ⟨_,rfl,k2.trans kD,?_⟩;rw[e,IR,JB,Ib,Pr,gc];rfl
   |false=>
    have ef:(cs.all λc=>c.any<|cu bs)=false:=Ju.mpr ⟨c,Q8,by rw[gc];exact i'⟩;rw[ef]at q;exact aL<|q _<|k2.trans kD
 ·rintro σ H2 ⟨v2,rfl,k2,JB⟩;rw[E3<|by rw[h3.length];exact lb _]at JB;rw[JB]at q;exact q _ k2
theorem s_:ax ["_law_sentence_here","_law_hand"] ["_law_sentence_here","_law_hand"] (ah ji):=⟨rfl,rfl,rfl,by decide+kernel,rfl,by decide+kernel,by decide+kernel⟩
theorem yd(F:Fun K "_law_many" "_law_many" ji f fd)(T:oW mg)(KI:Fn P w K mg base 1 "_law_own" f1 d1 ["_law_turns","_law_hand","_law_literal"] su):FnOk P w K mg base bD 2 f fd ["_law_sentence_here","_law_hand"] sY:=by
 have sc:=s_;refine F.ok s_ (λvs H Q E h=>?_) λHL A outer s H vs Q E hr h=>?_
 ·obtain⟨p,t,w,hw,rfl,_⟩:=h;rfl
 obtain⟨p,t,w,hw,rfl,hp,t8,q⟩:=h;have hu:=hr.units;refine⟨_,(ai<|am<|aq aH rfl T.len Fj<|aa (bj (NY:=["_law_k","_law_hand","_law_sentence_here"]) (idx:=[A',ab 1,ab 0]) rfl ⟨by with_unfolding_all rfl,(by with_unfolding_all exact⟨rfl,rfl,trivial⟩),λ_=>by rfl,by rfl,by rfl,by rfl,by decide⟩ (cE rfl T.range<|aa (aq aH rfl T.len Fj<|aa (aA av (pv 0) aj λ_ _=>rfl) ae) ae) (λ_ _ _ _=>(ap (i:=0) (show Gd (["_law_k","_law_hand","_law_sentence_here"]:bc Str) by decide+kernel) rfl<|E8 rfl)) (λ_ _ _ _=>(ca<|bO<|aP<|aC KI hr (by lia) rfl<|aa (aA (bR (K:=K) rfl) (pv 2) aj λ_ _=>rfl)<|aa (pv 1)<|aa (aE bI (pv 0) aj) ae)) λ_ _ _ _=>(pv 0)) ae),?_⟩;refine⟨_,rfl,.inr<|.inl ⟨p,_,0,.str t,rfl,rfl,SqT.of hp,rfl,.str t,_,rfl,⟨FQ (au<|by lia),rfl⟩,(t.length:Int),rfl,(by lia),(by lia),λD hD=>?_⟩⟩;have en:((t.length:Int)).toNat=t.length:=by lia
 refine dG (lo:=0) (n:=((t.length:Int)).toNat) (AV H D p t hw) ⟨A',rfl,rfl,ad,ag hD _⟩ ?_ ?_ ?_
 ·rintro i σ ys H2 _ ⟨_,_,_,h2,_⟩;exact h2
 ·rintro i σ ys H2 hi ⟨v0,rfl,hl,h2,k2⟩;rw[en]at hi;have hc:=eY t hw i;have hle:=nu t hw i;refine⟨_,rfl,.inr<|.inl ⟨p,_,0,.str t,rfl,rfl,SqT.of<|k2 _ _ hp,rfl,_,rfl,_,rfl,_,_,rfl,rfl,t,hw,(0:Int)+(i:Int)+1,rfl,(by rw[cL<|by lia];lia),(by rw[cL<|by lia];lia),by lia,_,rfl,?_⟩⟩;rw[yc (t:=t) (hw:=hw) (i:=i) (z:=(0:Int)+(i:Int)+1)<|by lia];cases go:bU t hw i with
  |true=>
   rw[go,Fc rfl]at hc;exact aG ⟨_,rfl,by rw[hc];exact hl,h2,k2⟩
  |false=>
   rw[go,E7 i']at hc;refine aL ⟨_,rfl,h2,au (by lia),_,rfl,by rw[C',hl,hc];rfl,ad,k2.upd_new hD _⟩
 ·rintro σ ys H2 ⟨v0,rfl,hl,h2,k2⟩;rw[en]at hl;exists .ref D,_,rfl,.inl ⟨_,SqL.of h2,rfl⟩;rw[hl];exact q H2 k2
theorem pI:ax ["_law_many_here"] ["_law_many_here"] (ah gm):=⟨rfl,rfl,rfl,by decide+kernel,rfl,by decide+kernel,by decide+kernel⟩
inductive pJ (m:Nat)(D:f')(H:Hp)(i:Nat)(σ:bc (kb V))(ys:bc V)(H2:Hp):Prop
 |mk (i0:(∃v0,σ=[v0,ab<|.int (m:Int)]))(i1:H2 D=ab (.lst ys))(i2:Same H H2)(i3:ys.length=i)(i4:∀(j:Nat) (y:V),ys[j]? =ab y->∃a,y=.ref a/\a≠D/\H2 a=ab (.lst<|(jw m j).map V.bl)):pJ m D H i σ ys H2
theorem uP(F:Fun K "_law_lists" "_law_lists" gm f fd)(T:oW mg):FnOk P w K mg base bD 1 f fd ["_law_many_here"] pC:=by
 have sc:=pI;refine F.ok pI (λvs H Q E h=>?_) λHL A outer s H vs Q E hr h=>?_
 ·obtain⟨m,rfl,_⟩:=h;rfl
 obtain⟨m,rfl,m8,q⟩:=h;have hu:=hr.units;have p8:2 ^ m<=256:=LK (by decide) m8;have eb:=mt m;have ep:(1:Int)*2 ^ ((m:Int)).toNat=((2 ^ m:Nat):Int):=by
  rw[Qg,Jv,Int.natCast_pow];rfl
 generalize 2 ^ m=N at p8 ep eb;refine⟨_,(ai<|am<|bj (NY:=["_law_number","_law_many_here"]) (idx:=[A',ab 0]) rfl ⟨by with_unfolding_all rfl,(by with_unfolding_all exact⟨rfl,trivial⟩),λ_=>by rfl,by rfl,by rfl,by rfl,by decide⟩ (cE rfl T.range<|aa (aE pU aj<|pv 0) ae) (λ_ _ _ _=>(ap (i:=0) (show Gd (["_law_number","_law_many_here"]:bc Str) by decide+kernel) rfl<|Ie rfl)) (λ_ _ _ _=>b_) λ_ _ _ _=>(bj (NY:=["_law_k","_law_number","_law_many_here"]) (idx:=[A',ab 0,ab 1]) rfl ⟨by with_unfolding_all rfl,(by with_unfolding_all exact⟨rfl,rfl,trivial⟩),λ_=>by rfl,by rfl,by rfl,by rfl,by decide⟩ (cE rfl T.range<|aa (pv 1) ae) (λ_ _ _ _=>(ap (i:=0) (show Gd (["_law_k","_law_number","_law_many_here"]:bc Str) by decide+kernel) rfl<|E8 rfl)) (λ_ _ _ _=>b_) λ_ _ _ _=>(aM (aK hu) (aE pW (aE pV (pv 1)<|aE eG (aE eG (pv 2) aj)<|pv 0) aj) aj<|ay _))),?_⟩;exists _,rfl,_,_,rfl,rfl,⟨by lia,by lia,by decide⟩;rw[ep];refine⟨(N:Int),rfl,(by lia),(by lia),λD hD=>?_⟩;have en:((N:Int)).toNat=N:=by lia
 refine dG (lo:=0) (n:=((N:Int)).toNat) (pJ m D H) ⟨⟨A',rfl⟩,ad,ag hD _,rfl,λj y e=>by simp at e⟩ ?_ ?_ ?_
 ·rintro i σ ys H2 _ ⟨_,h2,_⟩;exact h2
 ·rintro i σ ys H2 hi ⟨⟨v0,rfl⟩,h2,k2,hl,JB⟩;rw[en]at hi;refine dF ⟨_,rfl,(m:Int),rfl,(by lia),(by lia),λD2 Qj=>?_⟩;refine n6 (n:=m) [ab<|.int<|(0:Int)+(i:Int),ab<|.int (m:Int)] (λk=>.bl (decide (V.int (Hn (((0:Int)+(i:Int)) / 2 ^ ((m:Int) - 1 - ((0:Int)+(k:Int))).toNat) 1)=V.int 1))) rfl Qj (by lia) (λ_ _ _ r=>r) ?_ ?_
  ·intro k hk H' R k' r;exact⟨_,rfl,_,rfl,_,_,rfl,rfl,_,rfl,_,_,rfl,rfl,_,_,rfl,rfl,(by show(0:Int)<=(m:Int) - 1 - ((0:Int)+(k:Int));lia),_,_,rfl,rfl,.inl ⟨rfl,r⟩⟩
  have Uz:(Fy m).map (λk:Nat=>V.bl (decide (V.int (Hn (((0:Int)+(i:Int)) / 2 ^ ((m:Int) - 1 - ((0:Int)+(k:Int))).toNat) 1)=V.int 1)))=(jw m i).map V.bl:=by
   unfold jw;rw[FX];refine Ht λk hk=>?_;have L':k < m:=FZ.mp hk;have e1:((m:Int) - 1 - ((0:Int)+(k:Int))).toNat=m - 1 - k:=by lia
   have e2:(0:Int)+(i:Int)=(i:Int):=by lia
   rw[e1,e2];exact Gg V.bl<|oj i<|m - 1 - k
  rw[Uz];have nD:D2≠D:=(ak h2 Qj).symm;have k3:=ag Qj<|.lst<|(jw m i).map V.bl;have s3:upd H2 D2 (.lst<|(jw m i).map V.bl) D2=ab (.lst<|(jw m i).map V.bl):=ad;generalize upd H2 D2 (.lst<|(jw m i).map V.bl)=H3 at k3 s3 ⊢;refine⟨k3 _ _ h2,au (by lia),⟨_,rfl⟩,ad,(k2.trans k3).upd_new hD _,by rw[C',hl];rfl,λj y hj=>?_⟩;by_cases IL:j < ys.length
  ·rw[Ga IL]at hj;obtain⟨a,a1,a2,a3⟩:=JB j y hj;exact⟨a,a1,a2,by rw[al a2];exact k3 _ _ a3⟩
  ·have hb:=(ES.mp hj).1;rw[C',FL]at hb;have ej:j=i:=by lia
   subst ej;rw[F0 (by lia),hl,HI]at hj;cases hj;exact⟨D2,rfl,nD,by rw[al nD];exact s3⟩
 ·rintro σ ys H2 ⟨_,h2,k2,hl,JB⟩;rw[en]at hl;refine q D ys H2 k2 h2 ⟨by rw[hl,eb,ka,Gr],λj y hj=>?_⟩;obtain⟨a,a1,_,a3⟩:=JB j y hj;have hb:=(ES.mp hj).1;refine⟨jw m j,a,?_,a1,a3⟩;rw[eb,Fk,L8<|by lia];rfl
theorem pK:ax ["_law_sentence_here","_law_hand","_law_plan_here","_law_others"] ["_law_sentence_here","_law_hand","_law_plan_here"] (ah gn):=⟨rfl,rfl,rfl,by decide+kernel,rfl,by decide+kernel,by decide+kernel⟩
inductive pM (p:f')(hw:ER)(l:f')(H2:Hp)(t:Str)(cs:bc (bc Int))(es:bc dm)(i:Nat)(σ:bc (kb V))(H3:Hp):Prop
 |mk (v3:kb V)(i0:σ=[ab (.ref p),ab (.str (aN hw)),ab (.ref l),v3])(i1:Same H2 H3)(i2:((fS (dS t hw t.length)).take i).find? (λr=>fC cs hw (bV (bz es) t hw r t.length).1)=A'):pM p hw l H2 t cs es i σ H3
theorem uQ{f4:f'}{d4:E6}(F:Fun K "_law_first" "_law_first" gn f fd)(PY:Fn P w K mg base 1 "_law_lists" f1 d1 ["_law_many_here"] pC)(QI:Fn P w K mg base 2 "_law_many" f2 d2 ["_law_sentence_here","_law_hand"] sY)(P1:Fn P w K mg base 1 "_law_comes" f3 d3 ["_law_sentence_here","_law_filling"] pB)
  (Pg:Fn P w K mg base 2 "_law_played" f4 d4 ["_law_sentence_here","_law_hand","_law_plan_here","_law_others"] sV):FnOk P w K mg base bD 3 f fd ["_law_sentence_here","_law_hand","_law_plan_here"] pD:=by
 have sc:=pK;refine F.ok pK (λvs H Q E h=>?_) λHL A outer s H vs Q E hr h=>?_
 ·obtain⟨p,l,t,cs,hw,es,xs,rfl,_⟩:=h;rfl
 obtain⟨p,l,t,cs,hw,es,xs,rfl,hd,t8,hl,RX,hok,MW,J4,q⟩:=h;rw[o_]at q;obtain⟨pp,qa,zs,ep,h1,h2,h3⟩:=cx hd;cases ep;have hu:=hr.units;refine⟨_,(af (aU Fg rfl (bi<|aC PY hr (by lia) rfl<|aa (aC QI hr (by lia) rfl<|aa (pv 0)<|aa (pv 1) ae) ae) (ap (i:=3) sc.nd rfl<|E8 rfl)
   (ai<|aJ (aD (gK hu) (aC P1 hr (by lia) rfl<|aa (pv 0)<|aa (aC Pg hr (by lia) rfl<|aa (pv 0)<|aa (pv 1)<|aa (pv 2)<|aa (pv 3) ae) ae) (aM (aK hu) (pv 1) bA<|ay _)<|ay _) (ai<|am<|pv 3) az))
  (ai<|am bw)),?_⟩
 refine⟨_,rfl,_,rfl,p,t,_,hw,rfl,h1,t8,λH1 k1=>⟨dS t hw t.length,rfl,FM (nu _ _ _) t8,λll ys H2 k2 Sf RM=>?_⟩⟩;have NA:=k1.trans k2;have G':=ip<|dS t hw t.length;refine⟨ll,rfl,⟨_,SqL.of Sf⟩,cw (K:=K) (a:=ll) (xs:=ys)
  (pM p hw l H2 t cs es) ⟨A',rfl,Same.refl _,rfl⟩ ?_ ?_ ?_⟩
 ·rintro i σ H3 _ ⟨_,_,k3,_⟩;exact SqL.of<|k3 _ _ Sf
 ·rintro i y σ H3 hy ⟨v3,rfl,k3,JZ⟩;obtain⟨r,a,ND,rfl,ha⟩:=RM.at_ i y hy;have hrl:=G' r<|Fd ND;have O5:=NA.trans k3;refine⟨_,rfl,_,rfl,_,rfl,_,rfl,_,rfl,p,l,a,t,_,hw,es,xs,r,rfl,O5 _ _ h1,t8,O5 _ _ hl,RX.mono O5,hok,k3 _ _ ha,hrl,λfl H4 k4 _ RK=>?_⟩;have Kj:=jc (bz es) t hw r t.length;refine⟨.ref p,fl,t,cs,_,rfl,dY (O5.trans k4) _ _ hd,RK,MW,λc hc z hz=>by have:=J4 c hc z hz;lia,λH5 k5=>⟨_,rfl,.inl ⟨rfl,.inl ⟨rfl,_,rfl,?_⟩⟩⟩⟩;rw[pb,ff];have k35:=k4.trans k5;cases g:fC cs hw (bV (bz es) t hw r t.length).1 with
  |true=>
   have g':(!((cs.all λc=>c.any<|cu (bV (bz es) t hw r t.length).1) == hw))=true:=g;rw[g'];rw[il (p:=λr=>fC cs hw (bV (bz es) t hw r t.length).1) ND JZ g]at q;exact aL ⟨_,rfl,q _ H5 (O5.trans k35)<|.yes a r<|k35 _ _<|k3 _ _ ha⟩
  |false=>
   have g':(!((cs.all λc=>c.any<|cu (bV (bz es) t hw r t.length).1) == hw))=false:=g;rw[g'];exact aG ⟨_,rfl,k3.trans k35,gi (p:=λr=>fC cs hw (bV (bz es) t hw r t.length).1) ND JZ g⟩
 ·rintro σ H3 ⟨v3,rfl,k3,JZ⟩;rw[E3<|by rw[RM.len];exact lb _]at JZ;rw[JZ]at q;exact q _ H3 (NA.trans k3) .no
end
def pN(ns:bc Int)(i:Nat):dm:=(1+(i:Int),(bv i (kU ns (gy ns) (1+(i:Int)) / 8) (kU ns (gy ns) (1+(i:Int)) % 4).toNat).1,decide (V.int (kU ns (gy ns) (1+(i:Int)) / 4 % 2)=V.int 1))
def fB(ns:bc Int)(t:Str)(hw:ER):bc dm:=((Fy t.length).filter λi=>bP t i == hw).map<|pN ns
theorem qY(ns:bc Int)(t:Str)(hw:ER):xi ns t hw=.list ((fB ns t hw).map λe=>qR e.1 e.2.1 e.2.2):=by
 unfold xi fB;rw[FX];rfl
theorem mD(num:Int):∀k,∀l∈(dM num k).1,1<=ao l/\ao l<=(k:Int)
 |0,_,h=>nomatch h
 |k+1,l,h=>by
  have ih:=mD num k;have h':l∈(gb (1+(k:Int))<|dM num k).1:=h;unfold gb at h'
  split at h'
  ·obtain w|w:=FN.mp h'
   ·have:=ih l w;lia
   ·rw[Fb.mp w,(t9 (v:=1+(k:Int)) (by lia)<|iM _).1];lia
  ·have:=ih l h';lia
theorem kK(m:Nat)(num:Int):∀k,∀r∈(bv m num k).1,∀l∈r.1,1<=ao l/\ao l<=(m:Int)
 |0,_,h=>nomatch h
 |k+1,r,h=>by
  obtain w|w:=FN.mp h
  ·exact kK m num k r w
  ·rw[Fb.mp w];exact mD _ _
theorem pO(h:e∈fB ns t hw):∃i,i < t.length/\e=pN ns i:=by
 obtain⟨i,hi,rfl⟩:=FW.mp h;exact⟨i,FZ.mp (Gf.mp hi).1,rfl⟩
theorem ye(h:i<=900):Near i (pN ns i).2.1:=λr hr=>⟨FM (jq _ _ _ r hr) h,kK _ _ _ r hr⟩
theorem zI:(pN ns i).2.1.length<=3:=by
 have m0:=Hc (kU ns (gy ns) (1+(i:Int))) (show(4:Int)≠0 by decide);have m1:=GY (kU ns (gy ns) (1+(i:Int))) (show(0:Int) < 4 by decide);show(bv _ _ _).1.length<=3
 rw[kF];lia
theorem zJ(ns:bc Int)(t:Str)(hw:ER):((fB ns t hw).map (·.1)).Nodup:=by
 unfold fB;rw[FX];have e:(((·.1):dm->Int)∘pN ns)=λ(i:Nat)=>1+(i:Int):=rfl;rw[e];exact qS (λa b h=>by lia)<|Qf _ List.nodup_range
theorem ti(h:RD H (.bool b) v):v=.bl b:=by
 unfold RD at h;exact h
theorem yf(h:RD H (.int b) v):v=.int b:=by
 unfold RD at h;exact h
theorem pP:∀{ns:bc Int} {xs:bc V},eP H (ns.map .int) xs->xs=ns.map V.int
 |[],_,h=>a_ h
 |n::ns,_,h=>by
  obtain⟨x,r,rfl,h0,k0⟩:=aI h;rw[yf h0,pP k0];rfl
theorem yg(h:eP H (Ja.map md) xs):RulesAt H Ja xs:=by
 refine⟨by simpa using dX h,λi x hi=>?_⟩;have IL:i < Ja.length:=by
  have:=(ES.mp hi).1;have h2:=dX h;rw[ka]at h2;lia
 exists Ja[i],E1 IL;have hx:=dy h hi;have e:(Ja.map md).getD i .none=md Ja[i]:=by
  rw[Fo,Fk,E1 IL];rfl
 rw[e]at hx;obtain⟨qa,ys,rfl,h1,h2⟩:=aV hx;obtain⟨x0,r0,rfl,h0,k0⟩:=aI h2;obtain⟨x1,r1,rfl,h3,k1⟩:=aI k0;obtain rfl:=a_ k1;obtain⟨sv,zs,rfl,h4,h5⟩:=aV h0;obtain rfl:=pP h5;obtain rfl:=ti h3;exact⟨qa,sv,rfl,h1,h4⟩
theorem tj(h:RD H (.list<|es.map λe=>qR e.1 e.2.1 e.2.2) v):∃l xs,v=.ref l/\H l=ab (.lst xs)/\EntsAt H (λ_=>True) es xs:=by
 obtain⟨l,xs,rfl,hl,hx⟩:=cg h;refine⟨l,xs,rfl,hl,by simpa using dX hx,λi x hi=>?_⟩;have IL:i < es.length:=by
  have:=(ES.mp hi).1;have h2:=dX hx;rw[ka]at h2;lia
 exists es[i],E1 IL;have hy:=dy hx hi;have e:(es.map λe=>qR e.1 e.2.1 e.2.2).getD i .none=qR es[i].1 es[i].2.1 es[i].2.2:=by
  rw[Fo,Fk,E1 IL];rfl
 rw[e]at hy;obtain⟨p,ys,rfl,h1,h2⟩:=aV hy;obtain⟨x0,r0,rfl,h0,k0⟩:=aI h2;obtain⟨x1,r1,rfl,h3,k1⟩:=aI k0;obtain⟨x2,r2,rfl,h4,k2⟩:=aI k1;obtain rfl:=a_ k2;obtain rfl:=yf h0;obtain rfl:=ti h4;obtain⟨lr,rs,rfl,h5,h6⟩:=cg h3;exact⟨p,lr,rs,rfl,h1,h5,yg h6,trivial⟩
theorem zK(ns:bc Int)(h8:t.length<=900):PlanOk (fB ns t hw) t hw:=by
 refine⟨λi hi ho=>?_,λe he=>?_⟩
 ·have hm:pN ns i∈fB ns t hw:=FW.mpr ⟨i,Gf.mpr ⟨FZ.mpr hi,ho⟩,rfl⟩;cases hf:(fB ns t hw).find? (λe=>decide (e.1=1+(i:Int)))with
  |none=>exact absurd (E2 (rfl:(pN ns i).1=1+(i:Int)))<|HC.mp hf _ hm
  |some e=>exact⟨e,rfl,Gy hf,Fv<|JX (p:=λe:dm=>decide (e.1=1+(i:Int))) hf⟩
 ·obtain⟨i,hi,rfl⟩:=pO he;exact⟨i,hi,rfl,ye<|by lia⟩
section
variable {K:gV}{CL:f'}
theorem uR(F:Fun K "first_loss" "first_loss" cU f fd)(T:oW mg)(G:Fn P w K mg base 6 "played_on" f4 d4 ["sentence","hand","player","begun"] (pc<|AS CP))
  (b:Binds K fd ["sentence","hand","player","loses","begun","others"] []) (kp:x' K (.ref f)=kz) (at_:mg "first_loss"=ab (.ref f)):FnOk P w K mg base bD 15 f fd ["sentence","hand","player","loses","begun","others"] (cG P w K mg base (AS CP) 9):=pd F T (kJ CP) G b kp at_
theorem uS(F:Fun K "first_loss" "first_loss" cU f fd)(T:oW mg)(G:Fn P w K mg base 6 "played_on" f4 d4 ["sentence","hand","player","begun"] (pc<|zD CP CL))
  (b:Binds K fd ["sentence","hand","player","loses","begun","others"] []) (kp:x' K (.ref f)=kz) (at_:mg "first_loss"=ab (.ref f)):FnOk P w K mg base bD 15 f fd ["sentence","hand","player","loses","begun","others"] (cG P w K mg base (zD CP CL) 9):=pd F T (nB CP CL) G b kp at_
theorem uT(F:FunL K "losing_play" "losing_play" fw f fd c)(L:iK mg base c T)(TH:uZ mg)(G1:Fn P w K mg base 3 "comes_true" f1 d1 ["sentence","filling"] im)(G2:Fn P w K mg base 15 "first_loss" f2 d2 ["sentence","hand","player","loses","begun","others"] (cG P w K mg base (AS CP) 9)):FnOk P w K mg base bD 16 f fd ["sentence","hand","player"] (iq (AS CP) T):=pf F L TH (kJ CP) G1 G2
theorem uU(F:FunL K "losing_play" "losing_play" fw f fd c)(L:iK mg base c T)(TH:uZ mg)(G1:Fn P w K mg base 3 "comes_true" f1 d1 ["sentence","filling"] im)(G2:Fn P w K mg base 15 "first_loss" f2 d2 ["sentence","hand","player","loses","begun","others"] (cG P w K mg base (zD CP CL) 9)):FnOk P w K mg base bD 16 f fd ["sentence","hand","player"] (iq (zD CP CL) T):=pf F L TH (nB CP CL) G1 G2
end
abbrev nC:Gs:=cH 74
def tp(K:gV)(T:f'):Sp:=λvs H Q _=>∃(a:f') (ns:bc Int),vs=[.ref a]/\SqL K H a (ns.map V.int)/\ns.length<=63/\xL H T/\∀H',Q (.bl kz) H'
structure EE (mg:Str->kb j'):Prop where
 int:mg "int"=A'
 isinstance:mg "isinstance"=A'
 len:mg "len"=A'
 list:mg "list"=A'
theorem EM:eQ "list" "list"=ab true:=by decide+kernel
theorem tu(A:dN):∀f bs ot,bs.length+f=t.length->gw t (!hw) (λbs=>bs.length=t.length/\gG cs bs=!hw) f bs->∃r,bN A t hw (fC cs hw) f bs.length bs ot=ab r
 |0,bs,ot,_,w=>⟨ot,by
  show(if fC cs hw bs=kz then ab ot else A')=ab ot
  have e:fC cs hw bs=true:=by
   show(gG cs bs != hw)=kz
   rw[w.2];cases hw<;>rfl
  rw[Fc e]⟩
 |f+1,bs,ot,h,w=>by
  have w':if bP t bs.length=!hw then gw t (!hw) (λbs=>bs.length=t.length/\gG cs bs=!hw) f (bs++[B'])\/gw t (!hw) (λbs=>bs.length=t.length/\gG cs bs=!hw) f (bs++[kz])else gw t (!hw) (λbs=>bs.length=t.length/\gG cs bs=!hw) f (bs++[B'])/\gw t (!hw) (λbs=>bs.length=t.length/\gG cs bs=!hw) f (bs++[kz]):=w
  have l1:∀b,(bs++[b]).length=bs.length+1:=λb=>by rw[C'];rfl
  have go:∀b Wn,gw t (!hw) (λbs=>bs.length=t.length/\gG cs bs=!hw) f (bs++[b])->∃r,bN A t hw (fC cs hw) f (bs.length+1) (bs++[b]) Wn=ab r:=λb Wn z=>by
   have:=tu A f (bs++[b]) Wn (by rw[l1];lia) z;rw[l1]at this;exact this
  show∃r,(if bU t hw bs.length=kz then bN A t hw (fC cs hw) f (bs.length+1) (bs++[A bs.length bs]) ot else(bN A t hw (fC cs hw) f (bs.length+1) (bs++[B'])<|ot++[B']).or (bN A t hw (fC cs hw) f (bs.length+1) (bs++[kz])<|ot++[kz]))=ab r
  cases g:bU t hw bs.length with
  |true=>
   have e:¬bP t bs.length=!hw:=by
    unfold bU at g;rw[eq_of_beq g];cases hw<;>decide
   rw[E7 e]at w';rw[Fc rfl];cases A bs.length bs with
   |true=>exact go kz ot w'.2
   |false=>exact go B' ot w'.1
  |false=>
   have e:bP t bs.length=!hw:=by
    unfold bU at g;revert g;cases bP t bs.length<;>cases hw<;>decide
   rw[Fc e]at w';rw[E7 i'];cases o:bN A t hw (fC cs hw) f (bs.length+1) (bs++[B']) (ot++[B'])with
   |some r=>exact⟨r,rfl⟩
   |none=>
    obtain w'|w':=w'
    ·obtain⟨r,e⟩:=go B' (ot++[B']) w';rw[o]at e;cases e
    ·exact go kz _ w'
theorem mE(A:dN)(hr:Rng 0 t.length cs)(h:bS t cs t.length 0 0=!hw):∃r,bN A t hw (fC cs hw) t.length 0 [] []=ab r/\r.length=dS t hw t.length:=by
 obtain⟨r,e⟩:=tu A t.length [] [] (Jn _)<|oA hr (!hw) t.length [] (Jn _) h;have e':bN A t hw (fC cs hw) t.length 0 [] []=ab r:=e;exists r,e';rw[o_]at e';exact ip _ r<|Gy e'
theorem Few.at(F:Few t cs)(hp:H p=ab (.tup [.str t,.ref q]))(hq:H q=ab (.lst xs))(h:CLs H cs xs):SentAt H p q t xs cs:=
 ⟨hp,hq,h,by have:=F.t8;lia,by have:=F.many;lia,F.lits,λc hc=>by have:=F.c4 c hc;lia⟩
structure Sty (T:f')(H:Hp)(p l pL:f')(t:Str)(cs:bc (bc Int))(es:bc dm)(ys:bc V):Prop where
 rd:RD H (fz t cs) (.ref p)
 rl:RD H (.list<|es.map λe=>qR e.1 e.2.1 e.2.2) (.ref l)
 pl:H pL=ab (.lst ys)
 lv:LV H pL t cs 0 ys
 tb:xL H T
theorem Sty.off(h:Sty T H p l pL t cs es ys)(k:Off T H H')(tb:xL H' T):Sty T H' p l pL t cs es ys:=
 ⟨qB h.rd k h.tb,qB h.rl k h.tb,k.at_ h.tb h.pl (λ_ z=>nomatch z),λd hd=>by
  obtain⟨a,h1,h2,h3⟩:=h.lv d hd;exact⟨a,h1,h2,k.at_ h.tb h3 (λ_ z=>nomatch z)⟩,tb⟩
theorem Sty.mono(h:Sty T H p l pL t cs es ys)(k:Same H H'):Sty T H' p l pL t cs es ys:=h.off (Off.of k)<|h.tb.mono k
section
variable {K:gV}{CL:f'}
theorem AW:ax ["_law_script","_law_sentence_here","_law_levels_here","_law_hand","_law_plan_here","_law_due","_law_step","_law_told","_law_choices"] ["_law_script"] (ah nC):=⟨rfl,rfl,rfl,by decide+kernel,rfl,by decide+kernel,by decide+kernel⟩
theorem B6{f3 f4 f5 f6 f7 f8 f9 Ux:f'}{d3 d4 d5 d6 d7 d8 d9 d10:E6}(F:Fun K "law" "law" nC f fd)(T:EE mg)(NQ:Fn P w K mg base 2 "_law_sentence" f1 d1 ["_law_script","_law_most"] (wn K))(Ph:Fn P w K mg base 1 "_law_levels" f2 d2 ["_law_sentence_here"] pi)
  (QH:Fn P w K mg base 2 "_law_plan" f3 d3 ["_law_script","_law_sentence_here","_law_hand"] (sw K)) (P2:C4 P w K mg base 1 "Planned" CP f4 d4 ["self","plan"] (xm CP)) (PZ:Fn P w K mg base 3 "_law_first" f5 d5 ["_law_sentence_here","_law_hand","_law_plan_here"] pD) (Pc:Fn P w K mg base 16 "losing_play" f6 d6 ["sentence","hand","player"] (iq (AS CP) T')) (Os:Fn P w K mg base 16 "losing_play" f7 d7 ["sentence","hand","player"] (iq (zD CP CL) T'))
  (QD:Fn P w K mg base 5 "next_step" f8 d8 ["sentence"] (nh eW)) (Pa:Fn P w K mg base 7 "player_back" f9 d9 ["sentence","step","hand","player"] (sP CP CL)) (MY:Fn P w K mg base 12 "winning_choices" Ux d10 ["sentence","begun"] my):FnOk P w K mg base bD 17 f fd ["_law_script"] (tp K T'):=by
 have sc:=AW;refine F.ok AW (λvs H Q E h=>?_) λHL A outer s H vs Q E hr h=>?_
 ·obtain⟨a,ns,rfl,_⟩:=h;rfl
 obtain⟨a,ns,rfl,hS,hl,TZ,q⟩:=h;have hu:=hr.units;refine⟨_,(af (aB (i:=1) sc.nd rfl (Ie rfl)<|aC NQ hr (by lia) rfl<|aa (pv 0)<|aa aj ae)
  (af (aB (i:=2) sc.nd rfl (Ie rfl)<|aC Ph hr (by lia) rfl<|aa (pv 1) ae)
  (af (aB (i:=3) sc.nd rfl (E8 rfl)<|aA av (be<|aa bA<|aa bA ae) (bn iA rfl T.int Ic<|aa (aA av (aA av (pv 2) aj λ_ _=>rfl) aj λ_ _=>rfl) ae) λ_ _=>rfl)
  (af (aB (i:=4) sc.nd rfl (E8 rfl)<|aC QH hr (by lia) rfl<|aa (pv 0)<|aa (pv 1)<|aa (pv 3) ae)
  (af (aB (i:=5) sc.nd rfl (E8 rfl)<|aC PZ hr (by lia) rfl<|aa (pv 1)<|aa (pv 3)<|aa (pv 4) ae)
  (af (aJ (PW.pt<|gz (aD u7 (pv 5) bw<|ay _)<|fD<|aD (gK hu) (aC Pc hr (by lia) rfl<|aa (pv 1)<|aa (pv 3)<|aa (vZ P2 hr (by lia) rfl<|aa (pv 4) ae) ae) (pv 5)<|ay _) (ai<|am bK) az)
  (af (aB (i:=6) sc.nd rfl (E8 rfl)<|aC QD hr (by lia) rfl<|aa (pv 1) ae)
  (af (aJ (aD gU (pv 6) bw<|ay _) (af (aB (i:=7) sc.nd rfl (E8 rfl)<|aC Os hr (by lia) rfl<|aa (pv 1)<|aa (pv 3)<|aa (aC Pa hr (by lia) rfl<|aa (pv 1)<|aa (pv 6)<|aa (pv 3)<|aa (vZ P2 hr (by lia) rfl<|aa (pv 4) ae) ae) ae)
   (ai<|aJ (PW.pt<|gz (bO<|aP<|aq dZ rfl T.isinstance GW<|aa (pv 7)<|aa (jy (v:=.ty "list") rfl T.list HM rfl) ae)<|fD<|aD (gK hu) (aq aH rfl T.len Fj<|aa (pv 7) ae) (aq aH rfl T.len Fj<|aa (pv 5) ae)<|ay _) (ai<|am bK) az)) az)
  (af (aJ (aD (aK hu) (aq aH rfl T.len Fj<|aa (aA av (pv 1) aj λ_ _=>rfl) ae) aj<|ay _) (ai<|am bK) az)
  (af (cY (i:=8) sc.nd rfl rfl (NY:=["_law_value","_law_levels_here","_law_sentence_here"]) (idx:=[A',ab 2,ab 1]) rfl ⟨by with_unfolding_all rfl,(by with_unfolding_all exact⟨rfl,rfl,trivial⟩),λ_=>by rfl,by rfl,by rfl,by rfl,by decide⟩ (bi<|be<|aa bK<|aa bK ae) (λ_ _ _ _=>(ap (i:=0) (show Gd (["_law_value","_law_levels_here","_law_sentence_here"]:bc Str) by decide+kernel) rfl<|E8 rfl)) (λ_ _ _ _=>(ca<|aD (aK hu) (aA (bR (K:=K) rfl) (aA (bR (K:=K) rfl) (pv 1) aj λ_ _=>rfl) (bn iA rfl T.int Ic<|aa (pv 0) ae) λ_ _=>rfl) (aM (aK hu) (aA (bR (K:=K) rfl) (aA (bR (K:=K) rfl) (pv 2) aj λ_ _=>rfl) aj λ_ _=>rfl) bA<|ay _)<|ay _)) (λ_ _ _ _=>(pv 0))<|by with_unfolding_all rfl)
  (ai<|am<|aM (aK hu) (aC MY hr (by lia) rfl<|aa (pv 1)<|aa (be ae) ae) (pv 8)<|ay _))))))))))),?_⟩
 refine⟨_,rfl,a,ns,8,rfl,hS,hl,(by decide),(by decide),λp t cs H1 k1 hd ok c4=>?_⟩;have Sb:=ok.len;have MW:=ok.small (by lia);have J4:∀c∈cs,∀l∈c,1<=ao l:=λc hc=>(ok.cl c hc).pos;have Ro:∀c∈cs,∀l∈c,1<=ao l/\ao l<=(t.length:Int):=λc hc l hl=>⟨J4 c hc l hl,(ok.cl c hc).2 l hl⟩;have Px:Rng 0 t.length cs:=λc hc l hl=>by have:=Ro c hc l hl;exact⟨by lia,this.2⟩
 obtain⟨pp,qa,zs,ep,h1,h2,h3⟩:=cx hd;cases ep;have t8:t.length<=8:=by lia
 refine⟨_,rfl,p,qa,t,zs,cs,rfl,h1,h2,h3,Px,ok.ws,t8,λpL ys H2 k2 hpL ZL Ze=>?_⟩;refine⟨(by show 2<=sizeLine;decide),λlh hlh=>?_⟩;have k3:=ag hlh<|.lst [.str<|ET "wisher",.str<|ET "spoiler"];have r3:upd H2 lh (.lst [.str<|ET "wisher",.str<|ET "spoiler"]) lh=ab (.lst [.str<|ET "wisher",.str<|ET "spoiler"]):=ad;generalize upd H2 lh (.lst [.str<|ET "wisher",.str<|ET "spoiler"])=H3 at k3 r3 ⊢;obtain⟨ra,UY,T3⟩:=Ze.at (d:=0) (by lia) (j:=0) rfl;refine⟨_,rfl,.inl ⟨pL,ys,0,.ref ra,rfl,rfl,SqL.of<|k3 _ _ hpL,UY,.inl ⟨ra,_,0,_,rfl,rfl,SqL.of<|k3 _ _ T3,qr (m:=0) (by decide) rfl,.inr ⟨_,rfl,.inl ⟨lh,_,_,_,rfl,rfl,SqL.of r3,pj _ _ _,?_⟩⟩⟩⟩⟩;obtain⟨hw,ehw,elv⟩:∃hw,(if bS t cs (t.length - 0) 0 0=kz then V.str (ET "spoiler")else V.str (ET "wisher"))=.str (aN hw)/\bS t cs t.length 0 0=!hw:=⟨!bS t cs t.length 0 0,(by
  show(if bS t cs t.length 0 0=kz then _ else _)=_
  cases bS t cs t.length 0 0<;>rfl),(Bool.not_not _).symm⟩
 rw[ehw];have O5:=k1.trans<|k2.trans k3;have k13:=k2.trans k3;refine⟨_,rfl,_,rfl,_,rfl,a,p,ns,t,_,hw,rfl,O5.seq hS,k13 _ _ h1,(by lia),λl H4 k4 rl=>?_⟩;rw[qY]at rl;have hok:=zK ns (t:=t) (hw:=hw) (by lia);have e8:∀e∈fB ns t hw,∃i,i < t.length/\e=pN ns i:=λe he=>pO he;have nd:=zJ ns t hw;have e20:(fB ns t hw).length<=8:=by
  unfold fB;rw[ka];have:=FH (λi=>bP t i == hw)<|Fy t.length;rw[Gr]at this;lia
 generalize fB ns t hw=es at rl e8 nd e20 hok;have e9:∀e∈es,e.2.1.length<=900:=λe he=>by
  obtain⟨i,_,rfl⟩:=e8 e he;exact FM zI (by decide)
 have k14:=k13.trans k4;have st:Sty T' H4 p l pL t cs es ys:=⟨dY k14 _ _ hd,rl,k4 _ _<|k3 _ _ hpL,λd hd=>by
  obtain⟨a,z1,z2,z3⟩:=Ze d hd;exact⟨a,z1,z2,k4 _ _<|k3 _ _ z3⟩,TZ.mono<|O5.trans k4⟩
 have Fw:Few t cs:=⟨ok.ws,by lia,by have:=ok.many;lia,λc hc=>⟨(oy (n:=0) (ok.cl c hc).1).1,λl hl=>Ro c hc l hl⟩,c4⟩;obtain⟨r1,er1,lr1⟩:=mE (bz es) Px elv;have lr8:r1.length<=8:=by have:=nu t hw t.length;lia
 clear Ze T3 UY hpL rl k14 k13 O5 k4 k3 k2 k1 r3 h1 h2 h3 hd hS TZ e8 ehw;obtain⟨l',xs,el,Q6,RX⟩:=tj st.rl;cases el;refine⟨_,rfl,_,rfl,_,rfl,p,l,t,cs,hw,es,xs,rfl,st.rd,t8,Q6,RX,hok,MW,Ro,λdv H5 k5 Z7=>?_⟩;rw[er1]at Z7;cases Z7 with
 |yes da _ Z8=>
 have RO:=st.mono k5;have eD:decide (V.ref da=V.non)=false:=E_ λz=>by cases z
 refine⟨_,rfl,rfl,_,rfl,?_⟩;rw[eD];refine aG ⟨_,rfl,_,rfl,_,rfl,λx dx hx hdx PJ=>?_⟩;have k6:Same H5 (upd (upd H5 dx<|.own x) x<|.ins CP dx []):=λb o e=>by
  rw[al<|ak e hx,al<|ak e hdx];exact e
 have s6:upd (upd H5 dx<|.own x) x (.ins CP dx []) x=ab (.ins CP dx []):=ad;have x5:H5 x=none:=hx;generalize upd (upd H5 dx<|.own x) x (.ins CP dx [])=H6 at k6 s6 ⊢;refine⟨x,dx,l,es,xs,λ_=>True,rfl,s6,k6 _ _<|k5 _ _ Q6,(RX.mono<|k5.trans k6),nd,by lia,e9,λH7 Kj kx=>⟨rfl,?_⟩⟩;have k57:Same H5 H7:=λb o e=>kx b o (ak e x5)<|k6 _ _ e;have Rh:=RO.mono k57;refine⟨p,x,t,cs,hw,bz es,rfl,⟨Rh.rd,t8,⟨es,Kj,hok,rfl⟩,MW,J4⟩,Rh.tb,λfv H8 k8 tb8 hfv _=>?_⟩;rw[er1]at hfv;cases hfv with
 |yes fa _ SJ=>
 have Vo:=Rh.off k8 tb8;have SN:=k8.at_ Rh.tb (k57 _ _ Z8) λ_ z=>nomatch z
 refine⟨_,rfl,vK (di SJ<|hW r1) (di SN<|hW r1) (jX r1) ⟨B',rfl,aG ?_⟩⟩;clear Q6 RX st RO Rh k57 kx Kj k6 s6 k5 Z8 SJ k8 tb8;obtain⟨pp,qb,ws,ep,g1,g2,g3⟩:=cx Vo.rd;cases ep;refine⟨_,rfl,p,qb,t,ws,cs,rfl,Fw.at g1 g2 g3,λc hc=>(Fw.ok c hc).1,λv9 H9 k9 rs=>?_⟩;have Vn:=Vo.mono k9;have Y6:=k9 _ _ SN;clear Vo SN k9 g1 g2 g3;unfold zM;dsimp only;refine mW λN hN=>?_;have key:∀v7 Rb,Sty T' Rb p l pL t cs es ys->N [ab<|.ref a,ab<|.ref p,ab<|.ref pL,ab<|.str<|aN hw,ab<|.ref l,ab<|.ref da,ab v9,v7,A'] Rb:=by
  intro v7 Rb O2;refine hN _ _ ?_;clear hN;obtain⟨pp,qc,us,ep,g1,g2,g3⟩:=cx O2.rd;cases ep;refine⟨_,rfl,.inr<|.inl ⟨p,_,0,.str t,rfl,rfl,SqT.of g1,rfl,.str t,_,rfl,⟨FQ (au<|by lia),rfl⟩,.inl ⟨rfl,_,rfl,?_⟩⟩⟩;by_cases t0:t.length=0
  ·rw[E2 (show V.int (t.length:Nat)=V.int 0 by rw[t0];rfl)];exact aL<|q _
  rw[E_ (show¬V.int (t.length:Nat)=V.int 0 from λz=>t0 (by have:=V.int.inj z;lia))];refine aG ⟨(by show 2<=sizeLine;decide),λvl ZO=>⟨vl,rfl,⟨_,SqL.of ad⟩,λD2 Qj=>?_⟩⟩;have k7:Same Rb (upd Rb vl<|.lst [.bl B',.bl kz]):=ag ZO _;have r7:upd Rb vl (.lst [.bl B',.bl kz]) vl=ab (.lst [.bl B',.bl kz]):=ad;show gD _ _ _ _ _ _ (upd Rb vl<|.lst [.bl B',.bl kz]) _
  have SR:upd Rb vl (.lst [.bl B',.bl kz]) D2=none:=Qj;clear Qj;generalize upd Rb vl (.lst [.bl B',.bl kz])=Vh at k7 r7 SR;obtain⟨a1,g4,g5⟩:=O2.lv.at (d:=1) (by lia) (j:=1) rfl;have hc:t.cps.toList[0]? =ab (t.cps.toList[0]'(by rw[Gh];show 0 < t.length;lia)):=E1 _;have ec:decide (V.str ⟨#[t.cps.toList[0]'(by rw[Gh];show 0 < t.length;lia)]⟩=V.str (ET "w"))=bP t 0:=by rw[vM,mO hc]
  refine df [ab<|.ref pL,ab<|.ref p] (λx=>match x with
   |.bl c=>bS t cs (t.length - (0+1)) (0+1) (2*0+(if c=kz then 1 else 0)) == bP t 0
   |_=>B') (λx=>x) rfl r7 SR (by decide) ?_ ?_ ?_
  ·intro x hx H' R k r;obtain⟨c,rfl⟩:∃c,x=.bl c:=by
    obtain rfl|hx:=Fl.mp hx
    ·exact⟨_,rfl⟩
    ·exact⟨_,Fb.mp hx⟩
   have k10:=k7.trans k;refine⟨_,rfl,.inl ⟨pL,ys,1,.ref a1,rfl,rfl,SqL.of<|k10 _ _ O2.pl,g4,_,rfl,.inr ⟨_,rfl,.inl ⟨a1,_,_,_,rfl,rfl,SqL.of<|k10 _ _ g5,qr (m:=2*0+(if c=kz then 1 else 0)) (by cases c<;>decide) (by cases c<;>rfl),_,rfl,.inr<|.inl ⟨p,_,0,.str t,rfl,rfl,SqT.of<|k10 _ _ g1,rfl,.inr<|.inr ⟨t,0,_,rfl,rfl,FQ (au<|by lia),bf hc,.inl ⟨rfl,?_⟩⟩⟩⟩⟩⟩⟩;rw[ec];refine .inl ⟨rfl,_,rfl,?_⟩;rw[ff];exact r
  ·intro x hx _ H' R k r;exact⟨_,rfl,r⟩
  have ch:=om (t:=t) (cs:=cs) (size:=0) (num:=0) Px (by lia) (by decide);have ed:(([.bl B',.bl kz]:bc V).filter (λx=>match x with
   |.bl c=>bS t cs (t.length - (0+1)) (0+1) (2*0+(if c=kz then 1 else 0)) == bP t 0
   |_=>B')).map (λx=>x)=(d_ t cs<|cO 0 0).map V.bl:=by
   rw[ch,Lc];have e:∀g:ER->ER,∀c:bc ER,(c.map V.bl).filter (λx=>match x with|.bl c=>g c|_=>B')=(c.filter g).map V.bl:=λg c=>by
    rw[IQ];rfl
   exact e _ [B',kz]
  rw[ed];have k8:=ag SR<|.lst<|(d_ t cs<|cO 0 0).map V.bl;have r8:upd Vh D2 (.lst<|(d_ t cs<|cO 0 0).map V.bl) D2=ab (.lst<|(d_ t cs<|cO 0 0).map V.bl):=ad;generalize upd Vh D2 (.lst<|(d_ t cs<|cO 0 0).map V.bl)=H12 at k8 r8;refine⟨_,rfl,FF _,λe ne=>?_⟩;have k9:=ag ne<|.lst [];refine⟨.ref p,e,t,cs,cO 0 0,rfl,(O2.mono<|k7.trans<|k8.trans k9).rd,ad,MW,Px,t8,(by rw[fo];lia),λlc H13 k13 _ hlc=>?_⟩;exact⟨_,rfl,vJ (di hlc<|hW _) (di (k13 _ _<|k9 _ _ r8)<|hW _) (jX _)<|q _⟩
 cases o:eW t cs with
 |none=>
  rw[o]at rs;have rs':v9=.non:=rs;subst rs';refine⟨_,rfl,rfl,_,rfl,?_⟩;rw[E2 rfl];exact aG<|key _ _ Vn
 |some s0=>
  rw[o]at rs;obtain⟨b9,rfl,hb9⟩:=rs;obtain⟨_,ds,ha,_⟩:=uz Fw o;obtain⟨s1,SX,YN⟩:=wN ha;have Zt:=AM hb9;rw[SX]at ha Zt;refine⟨_,rfl,rfl,_,rfl,?_⟩;rw[E_ (λz=>nomatch z)];refine aL ?_;obtain⟨l',xs,el,hl9,RX⟩:=tj Vn.rl;cases el;refine⟨_,rfl,_,rfl,_,rfl,_,rfl,_,rfl,_,rfl,λx dx hx hdx PJ=>?_⟩;have k6:Same H9 (upd (upd H9 dx<|.own x) x<|.ins CP dx []):=λb o e=>by
   rw[al<|ak e hx,al<|ak e hdx];exact e
  have s6:upd (upd H9 dx<|.own x) x (.ins CP dx []) x=ab (.ins CP dx []):=ad;have x5:H9 x=none:=hx;generalize upd (upd H9 dx<|.own x) x (.ins CP dx [])=H6 at k6 s6 ⊢;refine⟨x,dx,l,es,xs,λ_=>True,rfl,s6,k6 _ _ hl9,RX.mono k6,nd,by lia,e9,λH7 Kj kx=>⟨rfl,?_⟩⟩;have Yv:Same H9 H7:=λb o e=>kx b o (ak e x5)<|k6 _ _ e;have Rh:=Vn.mono Yv;obtain⟨pp,qb,ws,ep,g1,g2,g3⟩:=cx Rh.rd;cases ep;refine⟨p,qb,x,es,t,ws,cs,ds,.ref b9,s1,hw,rfl,Fw.at g1 g2 g3,λc hc=>(Fw.ok c hc).1,dY Yv _ _ Zt,YN,ha,Kj,λy Rb k10 hL=>?_⟩;obtain⟨g,hL⟩:=hL;have O2:=Rh.mono k10;obtain⟨r2,er2,lr2⟩:=mE (B1 es g t hw) Px elv;refine⟨p,y,t,cs,hw,B1 es g t hw,rfl,⟨O2.rd,t8,⟨es,g,hL,hok,rfl⟩,MW,J4⟩,O2.tb,λfv Vh k11 tb11 hfv _=>?_⟩;rw[er2]at hfv;cases hfv with
  |yes fa _ SJ=>
  have Vp:=O2.off k11 tb11;have Um:=k11.at_ O2.tb (k10 _ _<|Yv _ _ Y6) λ_ z=>nomatch z
  refine⟨_,rfl,.ref fa,_,"list",kz,rfl,.lst SJ,bB EM,kz,rfl,aG ⟨_,rfl,.ref fa,_,rfl,.inl ⟨_,SqL.of SJ,rfl⟩,_,rfl,.ref da,_,rfl,.inl ⟨_,SqL.of Um,rfl⟩,.inl ⟨rfl,_,rfl,Ee (by rw[ka,ka,lr2,lr1])<|key _ _ Vp⟩⟩⟩
end
theorem gp{P:bc j'->Prop}(h:P [])(us:bc j')(e:us.length=0):P us:=by
 rw[KU.mp e];exact h
theorem bq{P:bc j'->Prop}(h:∀x us,us.length=n->P (x::us))(us:bc j')(e:us.length=n+1):P us:=by
 obtain⟨x,r,rfl⟩:=List.exists_cons_of_length_eq_add_one e;exact h x r<|Nat.succ.inj e
theorem AX{P:bc j'->Prop}(h:∀x0,P [x0]):∀us,us.length=1->P us:=bq (P:=λr=>P<|r) λx0=>gp (P:=λr=>P<|x0::r)<|h x0
theorem jj{P:bc j'->Prop}(h:∀x0 x1,P [x0,x1]):∀us,us.length=2->P us:=bq (P:=λr=>P<|r) λx0=>bq (P:=λr=>P<|x0::r) λx1=>gp (P:=λr=>P<|x0::x1::r)<|h x0 x1
theorem nE{P:bc j'->Prop}(h:∀x0 x1 x2,P [x0,x1,x2]):∀us,us.length=3->P us:=bq (P:=λr=>P<|r) λx0=>bq (P:=λr=>P<|x0::r) λx1=>bq (P:=λr=>P<|x0::x1::r) λx2=>gp (P:=λr=>P<|x0::x1::x2::r)<|h x0 x1 x2
theorem Ds{P:bc j'->Prop}(h:∀x0 x1 x2 x3,P [x0,x1,x2,x3]):∀us,us.length=4->P us:=bq (P:=λr=>P<|r) λx0=>bq (P:=λr=>P<|x0::r) λx1=>bq (P:=λr=>P<|x0::x1::r) λx2=>bq (P:=λr=>P<|x0::x1::x2::r) λx3=>gp (P:=λr=>P<|x0::x1::x2::x3::r)<|h x0 x1 x2 x3
theorem EN{P:bc j'->Prop}(h:∀x0 x1 x2 x3 x4,P [x0,x1,x2,x3,x4]):∀us,us.length=5->P us:=bq (P:=λr=>P<|r) λx0=>bq (P:=λr=>P<|x0::r) λx1=>bq (P:=λr=>P<|x0::x1::r) λx2=>bq (P:=λr=>P<|x0::x1::x2::r) λx3=>bq (P:=λr=>P<|x0::x1::x2::x3::r) λx4=>gp (P:=λr=>P<|x0::x1::x2::x3::x4::r)<|h x0 x1 x2 x3 x4
theorem EF{P:bc j'->Prop}(h:∀x0 x1 x2 x3 x4 x5,P [x0,x1,x2,x3,x4,x5]):∀us,us.length=6->P us:=bq (P:=λr=>P<|r) λx0=>bq (P:=λr=>P<|x0::r) λx1=>bq (P:=λr=>P<|x0::x1::r) λx2=>bq (P:=λr=>P<|x0::x1::x2::r) λx3=>bq (P:=λr=>P<|x0::x1::x2::x3::r) λx4=>bq (P:=λr=>P<|x0::x1::x2::x3::x4::r) λx5=>gp (P:=λr=>P<|x0::x1::x2::x3::x4::x5::r)<|h x0 x1 x2 x3 x4 x5
theorem all_mk {l:JN}{w:Ft}{K:gV}{h:FU}{mg:Str->kb j'}{fa f1 f2 f3 f4 f5 f6 f7 f8 f9 Ux f11 f12 f13 f14 f15 f16 f17 f18 f19 f20 f21 f22 f23 f24 f25 f26 f27 f28 f29 f30 f31 f32 f33 f34 f35 f36 f37 f38 f39 f40 f41 f42 f43 f44 f45 f46 f48 f49 f50 f51 f52 f53 f54 f55 f56 f57 f58 f59 f60 f61 f62 f63 Zj:f'}(X:K.In h)(G:h.Ns EO mg)(SJ:mg "law"=ab (.ref fa))
  {od1 an1 od2 an2 od3 an3 od4 an4 od5 an5 od6 an6 od7 an7 od8 an8 od9 an9 Xh an10 Xg an11 Xf an12 Xe an13 Xd an14 Xc an15 Xb an16 Xa an17 W' an18 W_ an19 W9 an20 W8 an21 W7 an22 W6 an23 W5 an24 W4 an25 W3 an26 W2 an27 W1 an28 W0 an29 WZ an30 WY an31 WX an32 WW an33 WV an34 WU an35 WT an36 WR an37 WQ an38 WO an39 WN an40 WM an41 WL an42 WK an43 WJ an44 WI an45 WH an46 WG an48 WE an49 WD an50 WC an51 WB an52 WA an53 Wz an54 Wy an55 Wx an56 Ww an57 Wv an58 Wu an59 Wt an60 Ws an61 Wr an62 Wq an63 Wp UH:kb f'} {sl1 sl2 sl3 sl4 sl5 sl6 sl7 sl8 sl9 Wh Wg Wf We Wd Wc Wb Wa V' V_ V9 V8 V7 V6 V5 V4 V3 V2 V1 V0 VZ VY VX VW VU VT VS VR VQ VP VO VN VM VL VJ VI VH VG VF VE VD VC VB VA Vz Vy Vx Vw Vv Vu Vt Vs Vr Vq:HK (kb j')} {oc1 kV1 dc1 pm1 cd1 ct1 oc2 kV2 dc2 pm2 cd2 ct2 oc3 kV3 dc3 pm3 cd3 ct3 oc4 kV4 dc4 pm4 cd4 ct4 oc5 kV5 dc5 pm5 cd5 ct5 oc6 kV6 dc6 pm6 cd6 ct6 oc7 kV7 dc7 pm7 cd7 ct7 oc8 kV8 dc8 pm8 cd8 ct8 oc9 kV9 dc9 pm9 cd9 ct9 Yd kV10 dc10 pm10 cd10 ct10 Yc kV11 dc11 pm11 cd11 ct11 Yb kV12 dc12 pm12 cd12 ct12 X' kV13 dc13 pm13 cd13 ct13 X_ kV14 dc14 pm14 cd14 ct14 X9 kV15 dc15 pm15 cd15 ct15 X8 kV16 dc16 pm16 cd16 ct16 X7 kV17 dc17 pm17 cd17 ct17 X6 kV18 dc18 pm18 cd18 ct18 X5 kV19 dc19 pm19 cd19 ct19 X4 kV20 dc20 pm20 cd20 ct20 X3 kV21 dc21 pm21 cd21 ct21 X2 kV22 dc22 pm22 cd22 ct22 X1 kV23 dc23 pm23 cd23 ct23 X0 kV24 dc24 pm24 cd24 ct24 XZ kV25 dc25 pm25 cd25 ct25 XY kV26 dc26 pm26 cd26 ct26 XX kV27 dc27 pm27 cd27 ct27 XW kV28 dc28 pm28 cd28 ct28 XU kV29 dc29 pm29 cd29 ct29 XT kV30 dc30 pm30 cd30 ct30 XS kV31 dc31 pm31 cd31 ct31 XR kV32 dc32 pm32 cd32 ct32 XQ kV33 dc33 pm33 cd33 ct33 XO kV34 dc34 pm34 cd34 ct34 XN kV35 dc35 pm35 cd35 ct35 XM kV36 dc36 pm36 cd36 ct36 XJ kV37 dc37 pm37 cd37 ct37 XI kV38 dc38 pm38 cd38 ct38 XH kV39 dc39 pm39 cd39 ct39 XG kV40 dc40 pm40 cd40 ct40 XF kV41 dc41 pm41 cd41 ct41 XE kV42 dc42 pm42 cd42 ct42 XD kV43 dc43 pm43 cd43 ct43 XC kV44 dc44 pm44 cd44 ct44 XB kV45 dc45 pm45 cd45 ct45 XA kV46 dc46 pm46 ct46 Xz kV48 dc48 pm48 cd48 ct48 Xy kV49 dc49 pm49 cd49 ct49 Xx kV50 dc50 pm50 cd50 ct50 Xw kV51 dc51 pm51 cd51 ct51 Xv kV52 dc52 pm52 cd52 ct52 Xu kV53 dc53 pm53 cd53 ct53 Xs kV54 dc54 pm54 cd54 ct54 Xr kV55 dc55 pm55 cd55 ct55 Xq kV56 dc56 pm56 cd56 ct56 Xp kV57 dc57 pm57 cd57 ct57 Xo kV58 dc58 pm58 cd58 ct58 Xn kV59 dc59 pm59 cd59 ct59 Xm kV60 dc60 pm60 cd60 ct60 Xl kV61 dc61 pm61 cd61 ct61 Xk kV62 dc62 pm62 cd62 ct62 Xj kV63 dc63 pm63 cd63 ct63 Xi kV64 dc64 pm64 cd64 UA:j'}
  {CP CL CN:f'}
  (a1:EX K EO "is_number"=ab (ab (.ref f1))) (l1:K.lookup f1=ab ⟨oc1,od1,.func (EZ "is_number" "is_number" (aw lN) (ar lN) (ah lN) .none kV1 dc1 pm1 an1 cd1 ct1),sl1⟩) (c1:EU K cd1 "is_number"=kz) (k1:x' K (.ref f1)=kz)
  (a2:EX K EO "is_place"=ab (ab (.ref f2))) (l2:K.lookup f2=ab ⟨oc2,od2,.func (EZ "is_place" "is_place" (aw fW) (ar fW) (ah fW) .none kV2 dc2 pm2 an2 cd2 ct2),sl2⟩) (c2:EU K cd2 "is_place"=kz) (k2:x' K (.ref f2)=kz)
  (a3:EX K EO "begins_with"=ab (ab (.ref f3))) (l3:K.lookup f3=ab ⟨oc3,od3,.func (EZ "begins_with" "begins_with" (aw uo) (ar uo) (ah uo) .none kV3 dc3 pm3 an3 cd3 ct3),sl3⟩) (c3:EU K cd3 "begins_with"=kz) (k3:x' K (.ref f3)=kz)
  (a4:EX K EO "stands_by"=ab (ab (.ref f4))) (l4:K.lookup f4=ab ⟨oc4,od4,.func (EZ "stands_by" "stands_by" (aw gf) (ar gf) (ah gf) .none kV4 dc4 pm4 an4 cd4 ct4),sl4⟩) (c4:EU K cd4 "stands_by"=kz) (k4:x' K (.ref f4)=kz)
  (a5:EX K EO "some_stands"=ab (ab (.ref f5))) (l5:K.lookup f5=ab ⟨oc5,od5,.func (EZ "some_stands" "some_stands" (aw mo) (ar mo) (ah mo) .none kV5 dc5 pm5 an5 cd5 ct5),sl5⟩) (c5:EU K cd5 "some_stands"=kz) (k5:x' K (.ref f5)=kz)
  (a6:EX K EO "comes_true"=ab (ab (.ref f6))) (l6:K.lookup f6=ab ⟨oc6,od6,.func (EZ "comes_true" "comes_true" (aw jb) (ar jb) (ah jb) .none kV6 dc6 pm6 an6 cd6 ct6),sl6⟩) (c6:EU K cd6 "comes_true"=kz) (k6:x' K (.ref f6)=kz)
  (a7:EX K EO "hand_of"=ab (ab (.ref f7))) (l7:K.lookup f7=ab ⟨oc7,od7,.func (EZ "hand_of" "hand_of" (aw fV) (ar fV) (ah fV) .none kV7 dc7 pm7 an7 cd7 ct7),sl7⟩) (c7:EU K cd7 "hand_of"=kz) (k7:x' K (.ref f7)=kz)
  (a8:EX K EO "other_hand"=ab (ab (.ref f8))) (l8:K.lookup f8=ab ⟨oc8,od8,.func (EZ "other_hand" "other_hand" (aw iV) (ar iV) (ah iV) .none kV8 dc8 pm8 an8 cd8 ct8),sl8⟩) (c8:EU K cd8 "other_hand"=kz) (k8:x' K (.ref f8)=kz)
  (a9:EX K EO "literal_by"=ab (ab (.ref f9))) (l9:K.lookup f9=ab ⟨oc9,od9,.func (EZ "literal_by" "literal_by" (aw jd) (ar jd) (ah jd) .none kV9 dc9 pm9 an9 cd9 ct9),sl9⟩) (c9:EU K cd9 "literal_by"=kz) (k9:x' K (.ref f9)=kz)
  (a10:EX K EO "clauses_behind"=ab (ab (.ref Ux))) (l10:K.lookup Ux=ab ⟨Yd,Xh,.func (EZ "clauses_behind" "clauses_behind" (aw fZ) (ar fZ) (ah fZ) .none kV10 dc10 pm10 an10 cd10 ct10),Wh⟩) (c10:EU K cd10 "clauses_behind"=kz) (k10:x' K (.ref Ux)=kz)
  (a11:EX K EO "left_of"=ab (ab (.ref f11))) (l11:K.lookup f11=ab ⟨Yc,Xg,.func (EZ "left_of" "left_of" (aw mv) (ar mv) (ah mv) .none kV11 dc11 pm11 an11 cd11 ct11),Wg⟩) (c11:EU K cd11 "left_of"=kz) (k11:x' K (.ref f11)=kz)
  (a12:EX K EO "variables_of"=ab (ab (.ref f12))) (l12:K.lookup f12=ab ⟨Yb,Xf,.func (EZ "variables_of" "variables_of" (aw lW) (ar lW) (ah lW) .none kV12 dc12 pm12 an12 cd12 ct12),Wf⟩) (c12:EU K cd12 "variables_of"=kz) (k12:x' K (.ref f12)=kz)
  (a13:EX K EO "dropped"=ab (ab (.ref f13))) (l13:K.lookup f13=ab ⟨X',Xe,.func (EZ "dropped" "dropped" (aw eU) (ar eU) (ah eU) .none kV13 dc13 pm13 an13 cd13 ct13),We⟩) (c13:EU K cd13 "dropped"=kz) (k13:x' K (.ref f13)=kz)
  (a14:EX K EO "all_stand"=ab (ab (.ref f14))) (l14:K.lookup f14=ab ⟨X_,Xd,.func (EZ "all_stand" "all_stand" (aw mj) (ar mj) (ah mj) .none kV14 dc14 pm14 an14 cd14 ct14),Wd⟩) (c14:EU K cd14 "all_stand"=kz) (k14:x' K (.ref f14)=kz)
  (a15:FR K (.ref CP) "__init__"=ab (ab (.ref f15))) (i15:HZ K (.ref f15)=kz) (l15:K.lookup f15=ab ⟨X9,Xc,.func (EZ "__init__" "Planned.__init__" (aw mm) (ar mm) (ah mm) .none kV15 dc15 pm15 an15 cd15 ct15),Wc⟩) (c15:EU K cd15 "Planned.__init__"=kz) (k15:x' K (.ref f15)=kz)
  (a16:FR K (.ref CP) "answer"=ab (ab (.ref f16))) (i16:HZ K (.ref f16)=kz) (l16:K.lookup f16=ab ⟨X8,Xb,.func (EZ "answer" "Planned.answer" (aw gg) (ar gg) (ah gg) .none kV16 dc16 pm16 an16 cd16 ct16),Wb⟩) (c16:EU K cd16 "Planned.answer"=kz) (k16:x' K (.ref f16)=kz)
  (a17:EX K EO "is_of"=ab (ab (.ref f17))) (l17:K.lookup f17=ab ⟨X7,Xa,.func (EZ "is_of" "is_of" (aw lO) (ar lO) (ah lO) .none kV17 dc17 pm17 an17 cd17 ct17),Wa⟩) (c17:EU K cd17 "is_of"=kz) (k17:x' K (.ref f17)=kz)
  (a18:EX K EO "is_unit"=ab (ab (.ref f18))) (l18:K.lookup f18=ab ⟨X6,W',.func (EZ "is_unit" "is_unit" (aw fX) (ar fX) (ah fX) .none kV18 dc18 pm18 an18 cd18 ct18),V'⟩) (c18:EU K cd18 "is_unit"=kz) (k18:x' K (.ref f18)=kz)
  (a19:EX K EO "holds_all"=ab (ab (.ref f19))) (l19:K.lookup f19=ab ⟨X5,W_,.func (EZ "holds_all" "holds_all" (aw iO) (ar iO) (ah iO) .none kV19 dc19 pm19 an19 cd19 ct19),V_⟩) (c19:EU K cd19 "holds_all"=kz) (k19:x' K (.ref f19)=kz)
  (a20:EX K EO "has_other_way"=ab (ab (.ref f20))) (l20:K.lookup f20=ab ⟨X4,W9,.func (EZ "has_other_way" "has_other_way" (aw fY) (ar fY) (ah fY) .none kV20 dc20 pm20 an20 cd20 ct20),V9⟩) (c20:EU K cd20 "has_other_way"=kz) (k20:x' K (.ref f20)=kz)
  (a21:EX K EO "is_blocked"=ab (ab (.ref f21))) (l21:K.lookup f21=ab ⟨X3,W8,.func (EZ "is_blocked" "is_blocked" (aw lP) (ar lP) (ah lP) .none kV21 dc21 pm21 an21 cd21 ct21),V8⟩) (c21:EU K cd21 "is_blocked"=kz) (k21:x' K (.ref f21)=kz)
  (a22:EX K EO "behind_drop"=ab (ab (.ref f22))) (l22:K.lookup f22=ab ⟨X2,W7,.func (EZ "behind_drop" "behind_drop" (aw iP) (ar iP) (ah iP) .none kV22 dc22 pm22 an22 cd22 ct22),V7⟩) (c22:EU K cd22 "behind_drop"=kz) (k22:x' K (.ref f22)=kz)
  (a23:EX K EO "behind_unit"=ab (ab (.ref f23))) (l23:K.lookup f23=ab ⟨X1,W6,.func (EZ "behind_unit" "behind_unit" (aw iQ) (ar iQ) (ah iQ) .none kV23 dc23 pm23 an23 cd23 ct23),V6⟩) (c23:EU K cd23 "behind_unit"=kz) (k23:x' K (.ref f23)=kz)
  (a24:EX K EO "behind_within"=ab (ab (.ref f24))) (l24:K.lookup f24=ab ⟨X0,W5,.func (EZ "behind_within" "behind_within" (aw iS) (ar iS) (ah iS) .none kV24 dc24 pm24 an24 cd24 ct24),V5⟩) (c24:EU K cd24 "behind_within"=kz) (k24:x' K (.ref f24)=kz)
  (a25:EX K EO "behind_pure"=ab (ab (.ref f25))) (l25:K.lookup f25=ab ⟨XZ,W4,.func (EZ "behind_pure" "behind_pure" (aw iR) (ar iR) (ah iR) .none kV25 dc25 pm25 an25 cd25 ct25),V4⟩) (c25:EU K cd25 "behind_pure"=kz) (k25:x' K (.ref f25)=kz)
  (a26:EX K EO "behind_blocked"=ab (ab (.ref f26))) (l26:K.lookup f26=ab ⟨XY,W3,.func (EZ "behind_blocked" "behind_blocked" (aw ut) (ar ut) (ah ut) .none kV26 dc26 pm26 an26 cd26 ct26),V3⟩) (c26:EU K cd26 "behind_blocked"=kz) (k26:x' K (.ref f26)=kz)
  (a27:EX K EO "clauses_after"=ab (ab (.ref f27))) (l27:K.lookup f27=ab ⟨XX,W2,.func (EZ "clauses_after" "clauses_after" (aw iT) (ar iT) (ah iT) .none kV27 dc27 pm27 an27 cd27 ct27),V2⟩) (c27:EU K cd27 "clauses_after"=kz) (k27:x' K (.ref f27)=kz)
  (a28:EX K EO "smaller_by"=ab (ab (.ref f28))) (l28:K.lookup f28=ab ⟨XW,W1,.func (EZ "smaller_by" "smaller_by" (aw iU) (ar iU) (ah iU) .none kV28 dc28 pm28 an28 cd28 ct28),V1⟩) (c28:EU K cd28 "smaller_by"=kz) (k28:x' K (.ref f28)=kz)
  (a29:EX K EO "next_short"=ab (ab (.ref f29))) (l29:K.lookup f29=ab ⟨XU,W0,.func (EZ "next_short" "next_short" (aw f_) (ar f_) (ah f_) .none kV29 dc29 pm29 an29 cd29 ct29),V0⟩) (c29:EU K cd29 "next_short"=kz) (k29:x' K (.ref f29)=kz)
  (a30:EX K EO "holders_of"=ab (ab (.ref f30))) (l30:K.lookup f30=ab ⟨XT,WZ,.func (EZ "holders_of" "holders_of" (aw kB) (ar kB) (ah kB) .none kV30 dc30 pm30 an30 cd30 ct30),VZ⟩) (c30:EU K cd30 "holders_of"=kz) (k30:x' K (.ref f30)=kz)
  (a31:EX K EO "next_pure"=ab (ab (.ref f31))) (l31:K.lookup f31=ab ⟨XS,WY,.func (EZ "next_pure" "next_pure" (aw gQ) (ar gQ) (ah gQ) .none kV31 dc31 pm31 an31 cd31 ct31),VY⟩) (c31:EU K cd31 "next_pure"=kz) (k31:x' K (.ref f31)=kz)
  (a32:EX K EO "fewest_holders"=ab (ab (.ref f32))) (l32:K.lookup f32=ab ⟨XR,WX,.func (EZ "fewest_holders" "fewest_holders" (aw qO) (ar qO) (ah qO) .none kV32 dc32 pm32 an32 cd32 ct32),VX⟩) (c32:EU K cd32 "fewest_holders"=kz) (k32:x' K (.ref f32)=kz)
  (a33:EX K EO "next_within"=ab (ab (.ref f33))) (l33:K.lookup f33=ab ⟨XQ,WW,.func (EZ "next_within" "next_within" (aw i8) (ar i8) (ah i8) .none kV33 dc33 pm33 an33 cd33 ct33),VW⟩) (c33:EU K cd33 "next_within"=kz) (k33:x' K (.ref f33)=kz)
  (a34:EX K EO "next_blocked"=ab (ab (.ref f34))) (l34:K.lookup f34=ab ⟨XO,WV,.func (EZ "next_blocked" "next_blocked" (aw kE) (ar kE) (ah kE) .none kV34 dc34 pm34 an34 cd34 ct34),VU⟩) (c34:EU K cd34 "next_blocked"=kz) (k34:x' K (.ref f34)=kz)
  (a35:EX K EO "next_step"=ab (ab (.ref f35))) (l35:K.lookup f35=ab ⟨XN,WU,.func (EZ "next_step" "next_step" (aw je) (ar je) (ah je) .none kV35 dc35 pm35 an35 cd35 ct35),VT⟩) (c35:EU K cd35 "next_step"=kz) (k35:x' K (.ref f35)=kz)
  (a36:EX K EO "own_values"=ab (ab (.ref f36))) (l36:K.lookup f36=ab ⟨XM,WT,.func (EZ "own_values" "own_values" (aw ma) (ar ma) (ah ma) .none kV36 dc36 pm36 an36 cd36 ct36),VS⟩) (c36:EU K cd36 "own_values"=kz) (k36:x' K (.ref f36)=kz)
  (a37:EX K EO "led_value"=ab (ab (.ref f37))) (l37:K.lookup f37=ab ⟨XJ,WR,.func (EZ "led_value" "led_value" (aw mB) (ar mB) (ah mB) .none kV37 dc37 pm37 an37 cd37 ct37),VR⟩) (c37:EU K cd37 "led_value"=kz) (k37:x' K (.ref f37)=kz)
  (a38:FR K (.ref CL) "__init__"=ab (ab (.ref f38))) (i38:HZ K (.ref f38)=kz) (l38:K.lookup f38=ab ⟨XI,WQ,.func (EZ "__init__" "LedBack.__init__" (aw mx) (ar mx) (ah mx) .none kV38 dc38 pm38 an38 cd38 ct38),VQ⟩) (c38:EU K cd38 "LedBack.__init__"=kz) (k38:x' K (.ref f38)=kz)
  (a39:FR K (.ref CL) "answers"=ab (ab (.ref f39))) (i39:HZ K (.ref f39)=kz) (l39:K.lookup f39=ab ⟨XH,WO,.func (EZ "answers" "LedBack.answers" (aw jg) (ar jg) (ah jg) .none kV39 dc39 pm39 an39 cd39 ct39),VP⟩) (c39:EU K cd39 "LedBack.answers"=kz) (k39:x' K (.ref f39)=kz)
  (a40:FR K (.ref CL) "answer"=ab (ab (.ref f40))) (i40:HZ K (.ref f40)=kz) (l40:K.lookup f40=ab ⟨XG,WN,.func (EZ "answer" "LedBack.answer" (aw jh) (ar jh) (ah jh) .none kV40 dc40 pm40 an40 cd40 ct40),VO⟩) (c40:EU K cd40 "LedBack.answer"=kz) (k40:x' K (.ref f40)=kz)
  (a41:EX K EO "player_back"=ab (ab (.ref f41))) (l41:K.lookup f41=ab ⟨XF,WM,.func (EZ "player_back" "player_back" (aw jf) (ar jf) (ah jf) .none kV41 dc41 pm41 an41 cd41 ct41),VN⟩) (c41:EU K cd41 "player_back"=kz) (k41:x' K (.ref f41)=kz)
  (a42:EX K EO "played_on"=ab (ab (.ref f42))) (l42:K.lookup f42=ab ⟨XE,WL,.func (EZ "played_on" "played_on" (aw u0) (ar u0) (ah u0) .none kV42 dc42 pm42 an42 cd42 ct42),VM⟩) (c42:EU K cd42 "played_on"=kz) (k42:x' K (.ref f42)=kz)
  (a43:EX K EO "played_on"=ab (ab (.ref f43))) (l43:K.lookup f43=ab ⟨XD,WK,.func (EZ "played_on" "played_on" (aw u0) (ar u0) (ah u0) .none kV43 dc43 pm43 an43 cd43 ct43),VL⟩) (c43:EU K cd43 "played_on"=kz) (k43:x' K (.ref f43)=kz)
  (a44:EX K EO "first_loss"=ab (ab (.ref f44))) (l44:K.lookup f44=ab ⟨XC,WJ,.func (EZ "first_loss" "first_loss" (aw cU) (ar cU) (ah cU) .none kV44 dc44 pm44 an44 cd44 ct44),VJ⟩) (c44:EU K cd44 "first_loss"=kz) (k44:x' K (.ref f44)=kz)
  (a45:EX K EO "first_loss"=ab (ab (.ref f45))) (l45:K.lookup f45=ab ⟨XB,WI,.func (EZ "first_loss" "first_loss" (aw cU) (ar cU) (ah cU) .none kV45 dc45 pm45 an45 cd45 ct45),VI⟩) (c45:EU K cd45 "first_loss"=kz) (k45:x' K (.ref f45)=kz)
  {QC:f'} {UC:Obj} (a46:EX K EO "losing_play"=ab (ab (.ref f46))) (l46:K.lookup f46=ab ⟨XA,WH,.func (EZ "losing_play" "losing_play" (aw fw) (ar fw) (ah fw) .none kV46 dc46 pm46 an46 (.ref QC) ct46),VH⟩) (c46:EU K (.ref QC) "losing_play"=kz) (k46:x' K (.ref f46)=kz) (lc46:K.lookup QC=ab UC) (pc46:Ac UC 193) (nc46:QC≠193)
  (a48:EX K EO "winner_left"=ab (ab (.ref f48))) (l48:K.lookup f48=ab ⟨Xz,WG,.func (EZ "winner_left" "winner_left" (aw jr) (ar jr) (ah jr) .none kV48 dc48 pm48 an48 cd48 ct48),VG⟩) (c48:EU K cd48 "winner_left"=kz) (k48:x' K (.ref f48)=kz)
  (a49:EX K EO "winner_from"=ab (ab (.ref f49))) (l49:K.lookup f49=ab ⟨Xy,WE,.func (EZ "winner_from" "winner_from" (aw mw) (ar mw) (ah mw) .none kV49 dc49 pm49 an49 cd49 ct49),VF⟩) (c49:EU K cd49 "winner_from"=kz) (k49:x' K (.ref f49)=kz)
  (a50:EX K EO "winning_choices"=ab (ab (.ref f50))) (l50:K.lookup f50=ab ⟨Xx,WD,.func (EZ "winning_choices" "winning_choices" (aw eZ) (ar eZ) (ah eZ) .none kV50 dc50 pm50 an50 cd50 ct50),VE⟩) (c50:EU K cd50 "winning_choices"=kz) (k50:x' K (.ref f50)=kz)
  (a51:EX K EO "_law_cell_at"=ab (ab (.ref f51))) (l51:K.lookup f51=ab ⟨Xw,WC,.func (EZ "_law_cell_at" "_law_cell_at" (aw lI) (ar lI) (ah lI) .none kV51 dc51 pm51 an51 cd51 ct51),VD⟩) (c51:EU K cd51 "_law_cell_at"=kz) (k51:x' K (.ref f51)=kz)
  (a52:EX K EO "_law_mix"=ab (ab (.ref f52))) (l52:K.lookup f52=ab ⟨Xv,WB,.func (EZ "_law_mix" "_law_mix" (aw uk) (ar uk) (ah uk) .none kV52 dc52 pm52 an52 cd52 ct52),VC⟩) (c52:EU K cd52 "_law_mix"=kz) (k52:x' K (.ref f52)=kz)
  (a53:EX K EO "_law_drawn"=ab (ab (.ref f53))) (l53:K.lookup f53=ab ⟨Xu,WA,.func (EZ "_law_drawn" "_law_drawn" (aw iL) (ar iL) (ah iL) .none kV53 dc53 pm53 an53 cd53 ct53),VB⟩) (c53:EU K cd53 "_law_drawn"=kz) (k53:x' K (.ref f53)=kz)
  (a54:EX K EO "_law_sentence"=ab (ab (.ref f54))) (l54:K.lookup f54=ab ⟨Xs,Wz,.func (EZ "_law_sentence" "_law_sentence" (aw lJ) (ar lJ) (ah lJ) .none kV54 dc54 pm54 an54 cd54 ct54),VA⟩) (c54:EU K cd54 "_law_sentence"=kz) (k54:x' K (.ref f54)=kz)
  (a55:EX K EO "_law_levels"=ab (ab (.ref f55))) (l55:K.lookup f55=ab ⟨Xr,Wy,.func (EZ "_law_levels" "_law_levels" (aw gk) (ar gk) (ah gk) .none kV55 dc55 pm55 an55 cd55 ct55),Vz⟩) (c55:EU K cd55 "_law_levels"=kz) (k55:x' K (.ref f55)=kz)
  (a56:EX K EO "_law_own"=ab (ab (.ref f56))) (l56:K.lookup f56=ab ⟨Xq,Wx,.func (EZ "_law_own" "_law_own" (aw uE) (ar uE) (ah uE) .none kV56 dc56 pm56 an56 cd56 ct56),Vy⟩) (c56:EU K cd56 "_law_own"=kz) (k56:x' K (.ref f56)=kz)
  (a57:EX K EO "_law_plan"=ab (ab (.ref f57))) (l57:K.lookup f57=ab ⟨Xp,Ww,.func (EZ "_law_plan" "_law_plan" (aw i9) (ar i9) (ah i9) .none kV57 dc57 pm57 an57 cd57 ct57),Vx⟩) (c57:EU K cd57 "_law_plan"=kz) (k57:x' K (.ref f57)=kz)
  (a58:EX K EO "_law_answer"=ab (ab (.ref f58))) (l58:K.lookup f58=ab ⟨Xo,Wv,.func (EZ "_law_answer" "_law_answer" (aw mn) (ar mn) (ah mn) .none kV58 dc58 pm58 an58 cd58 ct58),Vw⟩) (c58:EU K cd58 "_law_answer"=kz) (k58:x' K (.ref f58)=kz)
  (a59:EX K EO "_law_played"=ab (ab (.ref f59))) (l59:K.lookup f59=ab ⟨Xn,Wu,.func (EZ "_law_played" "_law_played" (aw e_) (ar e_) (ah e_) .none kV59 dc59 pm59 an59 cd59 ct59),Vv⟩) (c59:EU K cd59 "_law_played"=kz) (k59:x' K (.ref f59)=kz)
  (a60:EX K EO "_law_comes"=ab (ab (.ref f60))) (l60:K.lookup f60=ab ⟨Xm,Wt,.func (EZ "_law_comes" "_law_comes" (aw gl) (ar gl) (ah gl) .none kV60 dc60 pm60 an60 cd60 ct60),Vu⟩) (c60:EU K cd60 "_law_comes"=kz) (k60:x' K (.ref f60)=kz)
  (a61:EX K EO "_law_lists"=ab (ab (.ref f61))) (l61:K.lookup f61=ab ⟨Xl,Ws,.func (EZ "_law_lists" "_law_lists" (aw gm) (ar gm) (ah gm) .none kV61 dc61 pm61 an61 cd61 ct61),Vt⟩) (c61:EU K cd61 "_law_lists"=kz) (k61:x' K (.ref f61)=kz)
  (a62:EX K EO "_law_many"=ab (ab (.ref f62))) (l62:K.lookup f62=ab ⟨Xk,Wr,.func (EZ "_law_many" "_law_many" (aw ji) (ar ji) (ah ji) .none kV62 dc62 pm62 an62 cd62 ct62),Vs⟩) (c62:EU K cd62 "_law_many"=kz) (k62:x' K (.ref f62)=kz)
  (a63:EX K EO "_law_first"=ab (ab (.ref f63))) (l63:K.lookup f63=ab ⟨Xj,Wq,.func (EZ "_law_first" "_law_first" (aw gn) (ar gn) (ah gn) .none kV63 dc63 pm63 an63 cd63 ct63),Vr⟩) (c63:EU K cd63 "_law_first"=kz) (k63:x' K (.ref f63)=kz)
  (a64:EX K EO "law"=ab (ab (.ref Zj))) (l64:K.lookup Zj=ab ⟨Xi,Wp,.func (EZ "law" "law" (aw nC) (ar nC) (ah nC) .none kV64 dc64 pm64 UH cd64 UA),Vq⟩) (c64:EU K cd64 "law"=kz) (k64:x' K (.ref Zj)=kz)
  (z0:EX K EO "len"=ab A')
  (z1:EX K EO "range"=ab A')
  (z2:EX K EO "tuple"=ab A')
  (z3:EX K EO "sorted"=ab A')
  (z4:EX K EO "isinstance"=ab A')
  (z5:EX K EO "int"=ab A')
  (z6:EX K EO "bool"=ab A')
  (z7:EX K EO "list"=ab A')
  (z8:EX K EO "all"=ab A')
  (z9:EX K EO "enumerate"=ab A')
  (z10:EX K EO "abs"=ab A')
  (z11:EX K EO "any"=ab A')
  (z12:EX K EO "max"=ab A')
  (z13:EX K EO "dict"=ab A')
  (z14:EX K EO "min"=ab A')
  {tW tS:Tok} (zW:EX K EO "WISHER"=ab (ab (.str (ET "wisher") tW))) (zS:EX K EO "SPOILER"=ab (ab (.str (ET "spoiler") tS)))
  (zZ:EX K EO "zip"=ab A')
  (CPy:EX K EO "Planned"=ab (ab (.ref CP)))
  (CLy:EX K EO "LedBack"=ab (ab (.ref CL)))
  (yCN:EX K EO "NoVariable"=ab (ab (.ref CN)))
  (p1:HR K CP OZ=kz)
  (p2:Ij K CP=kz)
  (p3:Ji K CP=kz)
  (p4:FR K (.ref CP) "__setattr__"=ab (ab (.builtin "object.__setattr__")))
  (p5:FR K (.ref CP) "entries"=ab A')
  (p6:FR K (.ref CP) "__class__"=ab (ab (.builtin "object.__class__")))
  (p7:Kp K (.builtin "object.__class__") "__get__"=ab (ab (.builtin "getset_descriptor.__get__")))
  (p8:Lh K (.builtin "object.__class__")=ab kz)
  (p9:Ma K CP (.type "object")=ab kz)
  (pk:Hl K (.ref CP) (.ref CL)=ab B')
  (CPmk:JV K CP=kz)
  (CPkc:x' K (.ref CP)=kz)
  (e1:HR K CL OZ=kz)
  (e2:Ij K CL=kz)
  (e3:Ji K CL=kz)
  (e4:FR K (.ref CL) "__setattr__"=ab (ab (.builtin "object.__setattr__")))
  (e5:FR K (.ref CL) "variables"=ab A')
  (e6:FR K (.ref CL) "innermost"=ab A')
  (e7:FR K (.ref CL) "layers"=ab A')
  (CLmk:JV K CL=kz)
  (CLkc:x' K (.ref CL)=kz)
  (xCN:Oz K CN [.type "ValueError",.type "Exception",.type "BaseException",.type "object"] "ValueError.__new__"=kz)
  :∃ fd:E6,(∀ (s:Bs) (v:j'),MO s fd ⟨[v],[]⟩ [("_law_script",v)])/\(∀ T∈([193]:bc f'),∃ c,HS h c T)/\∀ base:FU,K.In base->base.Ns EO mg->BM mg base->FnOk l.prog w K mg base bD 17 fa fd ["_law_script"] (tp K 193):=by
 have e:=SJ.symm.trans (EY X G a64);cases e;have F1:=aF (st:=lN) l1 c1 k1;have b1:=F1.binds (ps:=["thing"]) λ_ _ _ _ _ _ us hl=>by revert us;exact AX λ_=>rfl
 have m1:=EY X G a1;have F2:=aF (st:=fW) l2 c2 k2;have b2:=F2.binds (ps:=["thing","many"]) λ_ _ _ _ _ _ us hl=>by revert us;exact jj λ_ _=>rfl
 have m2:=EY X G a2;have F3:=aF (st:=uo) l3 c3 k3;have b3:=F3.binds (ps:=["thing","word","many"]) λ_ _ _ _ _ _ us hl=>by revert us;exact nE λ_ _ _=>rfl
 have m3:=EY X G a3;have F4:=aF (st:=gf) l4 c4 k4;have b4:=F4.binds (ps:=["literal","filling"]) λ_ _ _ _ _ _ us hl=>by revert us;exact jj λ_ _=>rfl
 have m4:=EY X G a4;have F5:=aF (st:=mo) l5 c5 k5;have b5:=F5.binds (ps:=["clause","filling"]) λ_ _ _ _ _ _ us hl=>by revert us;exact jj λ_ _=>rfl
 have m5:=EY X G a5;have F6:=aF (st:=jb) l6 c6 k6;have b6:=F6.binds (ps:=["sentence","filling"]) λ_ _ _ _ _ _ us hl=>by revert us;exact jj λ_ _=>rfl
 have m6:=EY X G a6;have F7:=aF (st:=fV) l7 c7 k7;have b7:=F7.binds (ps:=["sentence","variable"]) λ_ _ _ _ _ _ us hl=>by revert us;exact jj λ_ _=>rfl
 have m7:=EY X G a7;have F8:=aF (st:=iV) l8 c8 k8;have b8:=F8.binds (ps:=["hand"]) λ_ _ _ _ _ _ us hl=>by revert us;exact AX λ_=>rfl
 have m8:=EY X G a8;have F9:=aF (st:=jd) l9 c9 k9;have b9:=F9.binds (ps:=["variable","value"]) λ_ _ _ _ _ _ us hl=>by revert us;exact jj λ_ _=>rfl
 have m9:=EY X G a9;have F10:=aF (st:=fZ) l10 c10 k10;have b10:=F10.binds (ps:=["clauses","literal"]) λ_ _ _ _ _ _ us hl=>by revert us;exact jj λ_ _=>rfl
 have m10:=EY X G a10;have F11:=aF (st:=mv) l11 c11 k11;have b11:=F11.binds (ps:=["sentence","begun"]) λ_ _ _ _ _ _ us hl=>by revert us;exact jj λ_ _=>rfl
 have m11:=EY X G a11;have F12:=aF (st:=lW) l12 c12 k12;have b12:=F12.binds (ps:=["sentence","hand"]) λ_ _ _ _ _ _ us hl=>by revert us;exact jj λ_ _=>rfl
 have m12:=EY X G a12;have F13:=aF (st:=eU) l13 c13 k13;have b13:=F13.binds (ps:=["sentence","hand","literals"]) λ_ _ _ _ _ _ us hl=>by revert us;exact nE λ_ _ _=>rfl
 have m13:=EY X G a13;have F14:=aF (st:=mj) l14 c14 k14;have b14:=F14.binds (ps:=["literals","begun"]) λ_ _ _ _ _ _ us hl=>by revert us;exact jj λ_ _=>rfl
 have m14:=EY X G a14;have F15:=aF (st:=mm) l15 c15 k15;have b15:=F15.binds (ps:=["self","plan"]) λ_ _ _ _ _ _ us hl=>by revert us;exact jj λ_ _=>rfl
 have F16:=aF (st:=gg) l16 c16 k16;have b16:=F16.binds (ps:=["self","variable","begun"]) λ_ _ _ _ _ _ us hl=>by revert us;exact nE λ_ _ _=>rfl
 have F17:=aF (st:=lO) l17 c17 k17;have b17:=F17.binds (ps:=["sentence","literal","hand"]) λ_ _ _ _ _ _ us hl=>by revert us;exact nE λ_ _ _=>rfl
 have m17:=EY X G a17;have F18:=aF (st:=fX) l18 c18 k18;have b18:=F18.binds (ps:=["sentence","clause"]) λ_ _ _ _ _ _ us hl=>by revert us;exact jj λ_ _=>rfl
 have m18:=EY X G a18;have F19:=aF (st:=iO) l19 c19 k19;have b19:=F19.binds (ps:=["clause","literals"]) λ_ _ _ _ _ _ us hl=>by revert us;exact jj λ_ _=>rfl
 have m19:=EY X G a19;have F20:=aF (st:=fY) l20 c20 k20;have b20:=F20.binds (ps:=["clause","other","literal"]) λ_ _ _ _ _ _ us hl=>by revert us;exact nE λ_ _ _=>rfl
 have m20:=EY X G a20;have F21:=aF (st:=lP) l21 c21 k21;have b21:=F21.binds (ps:=["clause","literal","opposed"]) λ_ _ _ _ _ _ us hl=>by revert us;exact nE λ_ _ _=>rfl
 have m21:=EY X G a21;have F22:=aF (st:=iP) l22 c22 k22;have b22:=F22.binds (ps:=["sentence","place"]) λ_ _ _ _ _ _ us hl=>by revert us;exact jj λ_ _=>rfl
 have m22:=EY X G a22;have F23:=aF (st:=iQ) l23 c23 k23;have b23:=F23.binds (ps:=["sentence","place"]) λ_ _ _ _ _ _ us hl=>by revert us;exact jj λ_ _=>rfl
 have m23:=EY X G a23;have F24:=aF (st:=iS) l24 c24 k24;have b24:=F24.binds (ps:=["sentence","place","within"]) λ_ _ _ _ _ _ us hl=>by revert us;exact nE λ_ _ _=>rfl
 have m24:=EY X G a24;have F25:=aF (st:=iR) l25 c25 k25;have b25:=F25.binds (ps:=["sentence","literal"]) λ_ _ _ _ _ _ us hl=>by revert us;exact jj λ_ _=>rfl
 have m25:=EY X G a25;have F26:=aF (st:=ut) l26 c26 k26;have b26:=F26.binds (ps:=["sentence","place","literal"]) λ_ _ _ _ _ _ us hl=>by revert us;exact nE λ_ _ _=>rfl
 have m26:=EY X G a26;have F27:=aF (st:=iT) l27 c27 k27;have b27:=F27.binds (ps:=["sentence","step"]) λ_ _ _ _ _ _ us hl=>by revert us;exact jj λ_ _=>rfl
 have m27:=EY X G a27;have F28:=aF (st:=iU) l28 c28 k28;have b28:=F28.binds (ps:=["sentence","step"]) λ_ _ _ _ _ _ us hl=>by revert us;exact jj λ_ _=>rfl
 have m28:=EY X G a28;have F29:=aF (st:=f_) l29 c29 k29;have b29:=F29.binds (ps:=["sentence"]) λ_ _ _ _ _ _ us hl=>by revert us;exact AX λ_=>rfl
 have m29:=EY X G a29;have F30:=aF (st:=kB) l30 c30 k30;have b30:=F30.binds (ps:=["clauses"]) λ_ _ _ _ _ _ us hl=>by revert us;exact AX λ_=>rfl
 have m30:=EY X G a30;have F31:=aF (st:=gQ) l31 c31 k31;have b31:=F31.binds (ps:=["holders"]) λ_ _ _ _ _ _ us hl=>by revert us;exact AX λ_=>rfl
 have m31:=EY X G a31;have F32:=aF (st:=qO) l32 c32 k32;have b32:=F32.binds (ps:=["holders","literals","many"]) λ_ _ _ _ _ _ us hl=>by revert us;exact nE λ_ _ _=>rfl
 have m32:=EY X G a32;have F33:=aF (st:=i8) l33 c33 k33;have b33:=F33.binds (ps:=["clauses","holders"]) λ_ _ _ _ _ _ us hl=>by revert us;exact jj λ_ _=>rfl
 have m33:=EY X G a33;have F34:=aF (st:=kE) l34 c34 k34;have b34:=F34.binds (ps:=["sentence","holders"]) λ_ _ _ _ _ _ us hl=>by revert us;exact jj λ_ _=>rfl
 have m34:=EY X G a34;have F35:=aF (st:=je) l35 c35 k35;have b35:=F35.binds (ps:=["sentence"]) λ_ _ _ _ _ _ us hl=>by revert us;exact AX λ_=>rfl
 have m35:=EY X G a35;have F36:=aF (st:=ma) l36 c36 k36;have b36:=F36.binds (ps:=["sentence","step","hand"]) λ_ _ _ _ _ _ us hl=>by revert us;exact nE λ_ _ _=>rfl
 have m36:=EY X G a36;have F37:=aF (st:=mB) l37 c37 k37;have b37:=F37.binds (ps:=["values","variable","begun","inner"]) λ_ _ _ _ _ _ us hl=>by revert us;exact Ds λ_ _ _ _=>rfl
 have m37:=EY X G a37;have F38:=aF (st:=mx) l38 c38 k38;have b38:=F38.binds (ps:=["self","sentence","step","hand","player"]) λ_ _ _ _ _ _ us hl=>by revert us;exact EN λ_ _ _ _ _=>rfl
 have F39:=aF (st:=jg) l39 c39 k39;have b39:=F39.binds (ps:=["self","variable","fillings"]) λ_ _ _ _ _ _ us hl=>by revert us;exact nE λ_ _ _=>rfl
 have F40:=aF (st:=jh) l40 c40 k40;have b40:=F40.binds (ps:=["self","variable","begun"]) λ_ _ _ _ _ _ us hl=>by revert us;exact nE λ_ _ _=>rfl
 have F41:=aF (st:=jf) l41 c41 k41;have b41:=F41.binds (ps:=["sentence","step","hand","player"]) λ_ _ _ _ _ _ us hl=>by revert us;exact Ds λ_ _ _ _=>rfl
 have m41:=EY X G a41;have F42:=aF (st:=u0) l42 c42 k42;have b42:=F42.binds (ps:=["sentence","hand","player","begun"]) λ_ _ _ _ _ _ us hl=>by revert us;exact Ds λ_ _ _ _=>rfl
 have m42:=EY X G a42;have F43:=aF (st:=u0) l43 c43 k43;have b43:=F43.binds (ps:=["sentence","hand","player","begun"]) λ_ _ _ _ _ _ us hl=>by revert us;exact Ds λ_ _ _ _=>rfl
 have m43:=EY X G a43;have F44:=aF (st:=cU) l44 c44 k44;have b44:=F44.binds (ps:=["sentence","hand","player","loses","begun","others"]) λ_ _ _ _ _ _ us hl=>by revert us;exact EF λ_ _ _ _ _ _=>rfl
 have ZI:=EY X G a44;have F45:=aF (st:=cU) l45 c45 k45;have b45:=F45.binds (ps:=["sentence","hand","player","loses","begun","others"]) λ_ _ _ _ _ _ us hl=>by revert us;exact EF λ_ _ _ _ _ _=>rfl
 have ZH:=EY X G a45;have S0:FunL K "losing_play" "losing_play" fw f46 _ QC:=⟨_,_,_,_,_,_,_,_,rfl,l46,c46⟩;have F46:=S0.toFun k46;have b46:=F46.binds (ps:=["sentence","hand","player"]) λ_ _ _ _ _ _ us hl=>by revert us;exact nE λ_ _ _=>rfl
 have ZG:=EY X G a46;have F48:=aF (st:=jr) l48 c48 k48;have b48:=F48.binds (ps:=["turns","clauses","variable"]) λ_ _ _ _ _ _ us hl=>by revert us;exact nE λ_ _ _=>rfl
 have ZF:=EY X G a48;have F49:=aF (st:=mw) l49 c49 k49;have b49:=F49.binds (ps:=["sentence","begun"]) λ_ _ _ _ _ _ us hl=>by revert us;exact jj λ_ _=>rfl
 have m49:=EY X G a49;have F50:=aF (st:=eZ) l50 c50 k50;have b50:=F50.binds (ps:=["sentence","begun"]) λ_ _ _ _ _ _ us hl=>by revert us;exact jj λ_ _=>rfl
 have m50:=EY X G a50;have F51:=aF (st:=lI) l51 c51 k51;have b51:=F51.binds (ps:=["_law_script","_law_k"]) λ_ _ _ _ _ _ us hl=>by revert us;exact jj λ_ _=>rfl
 have m51:=EY X G a51;have F52:=aF (st:=uk) l52 c52 k52;have b52:=F52.binds (ps:=["_law_cell","_law_k","_law_mixed"]) λ_ _ _ _ _ _ us hl=>by revert us;exact nE λ_ _ _=>rfl
 have m52:=EY X G a52;have F53:=aF (st:=iL) l53 c53 k53;have b53:=F53.binds (ps:=["_law_number","_law_count"]) λ_ _ _ _ _ _ us hl=>by revert us;exact jj λ_ _=>rfl
 have m53:=EY X G a53;have F54:=aF (st:=lJ) l54 c54 k54;have b54:=F54.binds (ps:=["_law_script","_law_most"]) λ_ _ _ _ _ _ us hl=>by revert us;exact jj λ_ _=>rfl
 have m54:=EY X G a54;have F55:=aF (st:=gk) l55 c55 k55;have b55:=F55.binds (ps:=["_law_sentence_here"]) λ_ _ _ _ _ _ us hl=>by revert us;exact AX λ_=>rfl
 have m55:=EY X G a55;have F56:=aF (st:=uE) l56 c56 k56;have b56:=F56.binds (ps:=["_law_turns","_law_hand","_law_literal"]) λ_ _ _ _ _ _ us hl=>by revert us;exact nE λ_ _ _=>rfl
 have m56:=EY X G a56;have F57:=aF (st:=i9) l57 c57 k57;have b57:=F57.binds (ps:=["_law_script","_law_sentence_here","_law_hand"]) λ_ _ _ _ _ _ us hl=>by revert us;exact nE λ_ _ _=>rfl
 have m57:=EY X G a57;have F58:=aF (st:=mn) l58 c58 k58;have b58:=F58.binds (ps:=["_law_plan_here","_law_variable","_law_begun"]) λ_ _ _ _ _ _ us hl=>by revert us;exact nE λ_ _ _=>rfl
 have m58:=EY X G a58;have F59:=aF (st:=e_) l59 c59 k59;have b59:=F59.binds (ps:=["_law_sentence_here","_law_hand","_law_plan_here","_law_others"]) λ_ _ _ _ _ _ us hl=>by revert us;exact Ds λ_ _ _ _=>rfl
 have m59:=EY X G a59;have F60:=aF (st:=gl) l60 c60 k60;have b60:=F60.binds (ps:=["_law_sentence_here","_law_filling"]) λ_ _ _ _ _ _ us hl=>by revert us;exact jj λ_ _=>rfl
 have m60:=EY X G a60;have F61:=aF (st:=gm) l61 c61 k61;have b61:=F61.binds (ps:=["_law_many_here"]) λ_ _ _ _ _ _ us hl=>by revert us;exact AX λ_=>rfl
 have m61:=EY X G a61;have F62:=aF (st:=ji) l62 c62 k62;have b62:=F62.binds (ps:=["_law_sentence_here","_law_hand"]) λ_ _ _ _ _ _ us hl=>by revert us;exact jj λ_ _=>rfl
 have m62:=EY X G a62;have F63:=aF (st:=gn) l63 c63 k63;have b63:=F63.binds (ps:=["_law_sentence_here","_law_hand","_law_plan_here"]) λ_ _ _ _ _ _ us hl=>by revert us;exact nE λ_ _ _=>rfl
 have m63:=EY X G a63;have F64:=aF (st:=nC) l64 c64 k64;have TG:DB mg:=⟨Cm X G z0,Cm X G z1,Cm X G z2,Cm X G z3⟩;have TH:uZ mg:=⟨Cm X G z0,⟨_,EY X G zW,⟨_,rfl⟩⟩,⟨_,EY X G zS,⟨_,rfl⟩⟩⟩;have TP:Em mg:=⟨Cm X G z4,Cm X G z5,Cm X G z6,Cm X G z2,Cm X G z7,Cm X G z0,Cm X G z8,Cm X G z9⟩;have TA:y_ mg:=⟨Cm X G z10,Cm X G z0,Cm X G z11,⟨_,EY X G zW,⟨_,rfl⟩⟩,⟨_,EY X G zS,⟨_,rfl⟩⟩⟩;have TV:DD mg:=⟨Cm X G z10,Cm X G z12,Cm X G z2,Cm X G z7,Cm X G z0,Cm X G z1⟩;have TS:oW mg:=⟨Cm X G z4,Cm X G z6,Cm X G z2,Cm X G z7,Cm X G z10,Cm X G z0,Cm X G z1,Cm X G z13⟩;have TNl:BY mg:=⟨Cm X G z11,Cm X G z8⟩;have TN:Ca mg:=⟨Cm X G z10,Cm X G z0,Cm X G z9,Cm X G z14,Cm X G z7,Cm X G z1,⟨_,EY X G zW,⟨_,rfl⟩⟩,⟨_,EY X G zS,⟨_,rfl⟩⟩⟩;have TVl:Dq mg:=⟨Cm X G z0,Cm X G z1,Cm X G z10,Cm X G z5⟩;have TL:EC mg:=⟨Cm X G z2,Cm X G z7,Cm X G z9⟩;have Zn:Dj mg:=⟨Cm X G z10,Cm X G z13,Cm X G z2,⟨_,EY X G zW,⟨_,rfl⟩⟩,⟨_,EY X G zS,⟨_,rfl⟩⟩⟩;have TW:EE mg:=⟨Cm X G z5,Cm X G z4,Cm X G z0,Cm X G z7⟩;have S5:Cls K CP:=⟨p1,p2,p3,p4⟩;have R4:Cls K CL:=⟨e1,e2,e3,e4⟩;have TPl:BW K mg CP CN:=⟨TS.tuple,TS.dict,S5,p5,EY X G yCN,xCN⟩;have TLd:Do K mg CP CL:=⟨Zn.dict,TS.isinstance,Zn.tuple,S5,R4,e5,e6,e7,⟨_,EY X G CLy,rfl⟩,p6,p7,p8,p9,pk⟩;have TLA:B2 K mg CL:=⟨Cm X G zZ,TS.range,R4,e5,e6,e7⟩;refine⟨EZ "law" "law" (aw nC) (ar nC) (ah nC) .none kV64 dc64 pm64 UH cd64 UA,λs v=>.of_eq rfl,HJ.mpr ⟨⟨QC,lE X lc46 pc46 nc46⟩,J3 _⟩,λbase Vc _ Zh=>?_⟩;have L46:iK mg base QC 193:=⟨lE Vc lc46 pc46 nc46,Zh⟩;have G1:Fn l.prog w K mg base _ "is_number" _ _ _ _:=⟨y9 F1 TP,b1,k1,m1⟩;have G2:Fn l.prog w K mg base _ "is_place" _ _ _ _:=⟨up F2 G1,b2,k2,m2⟩;have G3:Fn l.prog w K mg base _ "begins_with" _ _ _ _:=⟨BR F3 TP,b3,k3,m3⟩;have G4:Fn l.prog w K mg base _ "stands_by" _ _ _ _:=⟨uH F4 TS,b4,k4,m4⟩;have G5:Fn l.prog w K mg base _ "some_stands" _ _ _ _:=⟨zt F5 TNl G4,b5,k5,m5⟩;have G6:Fn l.prog w K mg base _ "comes_true" _ _ _ _:=⟨xw F6 TNl G5,b6,k6,m6⟩;have G7:Fn l.prog w K mg base _ "hand_of" _ _ _ _:=⟨um F7 TH,b7,k7,m7⟩;have G8:Fn l.prog w K mg base _ "other_hand" _ _ _ _:=⟨wJ F8 TH,b8,k8,m8⟩;have G9:Fn l.prog w K mg base _ "literal_by" _ _ _ _:=⟨xE F9,b9,k9,m9⟩;have Vi:Fn l.prog w K mg base _ "clauses_behind" _ _ _ _:=⟨uw F10 TV,b10,k10,m10⟩;have G11:Fn l.prog w K mg base _ "left_of" _ _ _ _:=⟨zx F11 TL G9 Vi,b11,k11,m11⟩;have G12:Fn l.prog w K mg base _ "variables_of" _ _ _ _:=⟨zd F12 TV G7,b12,k12,m12⟩;have G13:Fn l.prog w K mg base _ "dropped" _ _ _ _:=⟨qI F13 TV G8 G12,b13,k13,m13⟩;have G14:Fn l.prog w K mg base _ "all_stand" _ _ _ _:=⟨xo F14 G4,b14,k14,m14⟩;have G15:C4 l.prog w K mg base _ "Planned" CP _ _ _ _:=⟨zq F15 TPl,b15,⟨CPmk,a15,i15,CPkc⟩,EY X G CPy⟩;have Zq:uX l.prog w K mg base bD _ CP "answer" _ _ _ _:=⟨uI F16 TPl G14,b16,S5,⟨a16,i16,k16⟩⟩;have Ti:Fn l.prog w K mg base _ "is_of" _ _ _ _:=⟨za F17 TA G7,b17,k17,m17⟩;have G18:Fn l.prog w K mg base _ "is_unit" _ _ _ _:=⟨uq F18 TA Ti,b18,k18,m18⟩;have G19:Fn l.prog w K mg base _ "holds_all" _ _ _ _:=⟨wA F19,b19,k19,m19⟩;have G20:Fn l.prog w K mg base _ "has_other_way" _ _ _ _:=⟨ur F20 TA,b20,k20,m20⟩;have G21:Fn l.prog w K mg base _ "is_blocked" _ _ _ _:=⟨zb F21 G20,b21,k21,m21⟩;have G22:Fn l.prog w K mg base _ "behind_drop" _ _ _ _:=⟨wC F22 TA G2 G13,b22,k22,m22⟩;have G23:Fn l.prog w K mg base _ "behind_unit" _ _ _ _:=⟨wD F23 TA G2 G18 Vi,b23,k23,m23⟩;have G24:Fn l.prog w K mg base _ "behind_within" _ _ _ _:=⟨wE F24 TA G2 G19,b24,k24,m24⟩;have G25:Fn l.prog w K mg base _ "behind_pure" _ _ _ _:=⟨wF F25 TA G1 Ti Vi,b25,k25,m25⟩;have G26:Fn l.prog w K mg base _ "behind_blocked" _ _ _ _:=⟨BS F26 TA G2 G1 Ti G21,b26,k26,m26⟩;have G27:Fn l.prog w K mg base _ "clauses_after" _ _ _ _:=⟨wH F27 G3 G22 G23 G25 G24 G26,b27,k27,m27⟩;have G28:Fn l.prog w K mg base _ "smaller_by" _ _ _ _:=⟨uM F28 G27,b28,k28,m28⟩;have G29:Fn l.prog w K mg base _ "next_short" _ _ _ _:=⟨uA F29 TN G18 Ti,b29,k29,m29⟩;have G30:Fn l.prog w K mg base _ "holders_of" _ _ _ _:=⟨zl F30 TN,b30,k30,m30⟩;have G31:Fn l.prog w K mg base _ "next_pure" _ _ _ _:=⟨wW F31,b31,k31,m31⟩;have G32:Fn l.prog w K mg base _ "fewest_holders" _ _ _ _:=⟨BU F32 TN,b32,k32,m32⟩;have G33:Fn l.prog w K mg base _ "next_within" _ _ _ _:=⟨w9 F33 TN G32 G19,b33,k33,m33⟩;have G34:Fn l.prog w K mg base _ "next_blocked" _ _ _ _:=⟨zo F34 TN Ti G21,b34,k34,m34⟩;have G35:Fn l.prog w K mg base _ "next_step" _ _ _ _:=⟨xN F35 G29 G30 G31 G33 G34,b35,k35,m35⟩;have G36:Fn l.prog w K mg base _ "own_values" _ _ _ _:=⟨zp F36 Zn G13 Ti,b36,k36,m36⟩;have G37:Fn l.prog w K mg base _ "led_value" _ _ _ _:=⟨zE F37 G5,b37,k37,m37⟩;have G38:C4 l.prog w K mg base _ "LedBack" CL _ _ _ _:=⟨zC F38 TLd G12 G36,b38,⟨CLmk,a38,i38,CLkc⟩,EY X G CLy⟩;have G39:uX l.prog w K mg base bD _ CL "answers" _ _ _ _:=⟨xY F39 TLA Zq G37,b39,R4,⟨a39,i39,k39⟩⟩;have G40:uX l.prog w K mg base bD _ CL "answer" _ _ _ _:=⟨xZ F40 TLA Zq G39,b40,R4,⟨a40,i40,k40⟩⟩;have G41:Fn l.prog w K mg base _ "player_back" _ _ _ _:=⟨xS F41 G28 G38,b41,k41,m41⟩;have G42:Fn l.prog w K mg base _ "played_on" _ _ _ _:=⟨B3 F42 TS G7 Zq,b42,k42,m42⟩;have G43:Fn l.prog w K mg base _ "played_on" _ _ _ _:=⟨B4 F43 TS G7 G40,b43,k43,m43⟩;have G44:Fn l.prog w K mg base _ "first_loss" _ _ _ _:=⟨uR F44 TS G42 b44 k44 ZI,b44,k44,ZI⟩;have G45:Fn l.prog w K mg base _ "first_loss" _ _ _ _:=⟨uS F45 TS G43 b45 k45 ZH,b45,k45,ZH⟩;have G46:Fn l.prog w K mg base _ "losing_play" _ _ _ _:=⟨uT S0 L46 TH G6 G44,b46,k46,ZG⟩;have G47:Fn l.prog w K mg base _ "losing_play" _ _ _ _:=⟨uU S0 L46 TH G6 G45,b46,k46,ZG⟩;have G48:Fn l.prog w K mg base _ "winner_left" _ _ _ _:=⟨BZ F48 TH G7 G8 G9 Vi b48 k48 ZF,b48,k48,ZF⟩;have G49:Fn l.prog w K mg base _ "winner_from" _ _ _ _:=⟨zy F49 TH G11 G48,b49,k49,m49⟩;have G50:Fn l.prog w K mg base _ "winning_choices" _ _ _ _:=⟨qW F50 TH G7 G49,b50,k50,m50⟩;have G51:Fn l.prog w K mg base _ "_law_cell_at" _ _ _ _:=⟨y4 F51 TG,b51,k51,m51⟩;have G52:Fn l.prog w K mg base _ "_law_mix" _ _ _ _:=⟨BP F52,b52,k52,m52⟩;have G53:Fn l.prog w K mg base _ "_law_drawn" _ _ _ _:=⟨wq F53 TG,b53,k53,m53⟩;have G54:Fn l.prog w K mg base _ "_law_sentence" _ _ _ _:=⟨y8 F54 TG G51 G52 G53,b54,k54,m54⟩;have G55:Fn l.prog w K mg base _ "_law_levels" _ _ _ _:=⟨uN F55 TVl,b55,k55,m55⟩;have Zo:Fn l.prog w K mg base _ "_law_own" _ _ _ _:=⟨BV F56 TS,b56,k56,m56⟩;have G57:Fn l.prog w K mg base _ "_law_plan" _ _ _ _:=⟨xj F57 TS G51 G52 Zo,b57,k57,m57⟩;have G58:Fn l.prog w K mg base _ "_law_answer" _ _ _ _:=⟨zr F58 TS,b58,k58,m58⟩;have G59:Fn l.prog w K mg base _ "_law_played" _ _ _ _:=⟨qX F59 TS Zo G58,b59,k59,m59⟩;have G60:Fn l.prog w K mg base _ "_law_comes" _ _ _ _:=⟨uO F60 TS,b60,k60,m60⟩;have G61:Fn l.prog w K mg base _ "_law_lists" _ _ _ _:=⟨uP F61 TS,b61,k61,m61⟩;have G62:Fn l.prog w K mg base _ "_law_many" _ _ _ _:=⟨yd F62 TS Zo,b62,k62,m62⟩;have G63:Fn l.prog w K mg base _ "_law_first" _ _ _ _:=⟨uQ F63 G61 G62 G60 G59,b63,k63,m63⟩;exact B6 F64 TW G54 G55 G57 G15 G63 G46 G47 G35 G41 G50
theorem walk {l:JN}{q:E9}{loose:bc Str}{XP:(Str->kb j')->FU->Prop}{YP:Ft->FU->Prop}{d:DefRec}{K:M9->gV}(hn:l.most=ab 63)(Ul:d.params.defaults=[])
  (hY:∀ (w:Ft) (h:FU),YP w h->(K w.params).In h/\∀ T∈([193]:bc f'),h.get? T=ab (Iu #[])) (Us:∀ P:M9,(([193]:bc f').all λT=>((K P).lookup T).isNone)=kz)
  (F:∀ (w:Ft) (mg:Str->kb j') (fa:f') (h:FU),(K w.params).In h->h.Ns EO mg->mg d.name=ab (.ref fa)->
   ∃ fd:E6,(∀ (s:Bs) (u:j'),MO s fd ⟨[u],[]⟩ [("_law_script",u)])/\(∀ T∈([193]:bc f'),∃ c,HS h c T)/\∀ base:FU,(K w.params).In base->base.Ns EO mg->BM mg base->FnOk l.prog w (K w.params) mg base bD 17 fa fd ["_law_script"] (tp (K w.params) 193)):
  M7 q loose XP YP l.row.toRowW d [] (λf vs=>Mm f vs):=
 L2.walk_ofT (n:=63) (k:=17) (x:="_law_script") (sp:=λw=>tp (K w.params) 193) [193] hn (by decide) Ul ⟨rfl,by decide,by decide⟩ hY Us F λ_ _ a ns hl hT hS=>⟨a,ns,rfl,hS,hl,TabAt.start (hT 193 Fz),λ_=>rfl⟩
end K95
open PySem PySem.W PySem.Calls PyProof.Rows
set_option maxRecDepth 100000
set_option maxHeartbeats 0
noncomputable def K95.vQ:E9:=view GN [1,2,3,5,6,7,9,10,11,12,13,14,15,16,17,18,20,21,23,24,25,26,27,28,30,31,32,33,34,35,36,37,38,39,40,41,42,43,44,45,46,47,48,49,50,51,52,54,55,56,58,59,60,61,62,63,64,65,66,67,68,69,70,71,72,73,74]
theorem K95.said:OpenLaw.wellSaid GM=true:=(congrFun Fast.te9446332074065402090 GM).trans (by kernel_rfl)
theorem K95.seen (w:Ft)(os:L0):HD.lookAt GN 11 (ab (.ref 6)) 3296 w os (HD.seenAt GN K95.vQ [] (λs=>xlAt K95.vQ [] s&&recOk [] s) kz w)=ab (kz,openGood K95.vQ []):=by kernel_rfl
local macro_rules|`(tactic|o_head $H)=>`(tactic|refine HD.head (q:=K95.vQ) (loose:=[]) (lv:=[]) $H (N:=6592) (HD.left (by kernel_rfl) (fun s=>by kernel_rfl) (by kernel_rfl) (by kernel_rfl) (fun w=>by kernel_rfl) K95.seen (fun w os=>by kernel_rfl)) (by rfl) (by rfl) (by rfl) (by rfl) (by assumption) (by decide+kernel) ⟨rfl,rfl,rfl,rfl,rfl,by decide+kernel⟩ ?hw ?hc)
theorem PySem.Challenge.cw_oathduel_k95_whole_losers_lose_holds : PySem.Challenge.rw_oathduel_k95_whole_losers_lose.Holds := by
 w_on
 refine holds_law K95.said λsaid=>?_
 k_head
 (case hw=>w_witness2)
 k_fill
 refine K95.walk (l:=GM) rfl rfl (λw h Y=>⟨PySem.W.km_in_of Y,PySem.W.km_tabs_of Y⟩) (λP=>by kernel_rfl) ?F
 case F=>
  intro w mg fa h KX G hmg;refine' K95.all_mk KX G hmg ?a1 ?l1 ?c1 ?k1 ?a2 ?l2 ?c2 ?k2 ?a3 ?l3 ?c3 ?k3 ?a4 ?l4 ?c4 ?k4 ?a5 ?l5 ?c5 ?k5 ?a6 ?l6 ?c6 ?k6 ?a7 ?l7 ?c7 ?k7 ?a8 ?l8 ?c8 ?k8 ?a9 ?l9 ?c9 ?k9 ?a10 ?l10 ?c10 ?k10 ?a11 ?l11 ?c11 ?k11 ?a12 ?l12 ?c12 ?k12 ?a13 ?l13 ?c13 ?k13 ?a14 ?l14 ?c14 ?k14 ?a15 ?i15 ?l15 ?c15 ?k15 ?a16 ?i16 ?l16 ?c16 ?k16 ?a17 ?l17 ?c17 ?k17 ?a18 ?l18 ?c18 ?k18 ?a19 ?l19 ?c19 ?k19 ?a20 ?l20 ?c20 ?k20 ?a21 ?l21 ?c21 ?k21 ?a22 ?l22 ?c22 ?k22 ?a23 ?l23 ?c23 ?k23 ?a24 ?l24 ?c24 ?k24 ?a25 ?l25 ?c25 ?k25 ?a26 ?l26 ?c26 ?k26 ?a27 ?l27 ?c27 ?k27 ?a28 ?l28 ?c28 ?k28 ?a29 ?l29 ?c29 ?k29 ?a30 ?l30 ?c30 ?k30 ?a31 ?l31 ?c31 ?k31 ?a32 ?l32 ?c32 ?k32 ?a33 ?l33 ?c33 ?k33 ?a34 ?l34 ?c34 ?k34 ?a35 ?l35 ?c35 ?k35 ?a36 ?l36 ?c36 ?k36 ?a37 ?l37 ?c37 ?k37 ?a38 ?i38 ?l38 ?c38 ?k38 ?a39 ?i39 ?l39 ?c39 ?k39 ?a40 ?i40 ?l40 ?c40 ?k40 ?a41 ?l41 ?c41 ?k41 ?a42 ?l42 ?c42 ?k42 ?a43 ?l43 ?c43 ?k43 ?a44 ?l44 ?c44 ?k44 ?a45 ?l45 ?c45 ?k45 ?a46 ?l46 ?c46 ?k46 ?lc46 ?pc46 ?nc46 ?a48 ?l48 ?c48 ?k48 ?a49 ?l49 ?c49 ?k49 ?a50 ?l50 ?c50 ?k50 ?a51 ?l51 ?c51 ?k51 ?a52 ?l52 ?c52 ?k52 ?a53 ?l53 ?c53 ?k53 ?a54 ?l54 ?c54 ?k54 ?a55 ?l55 ?c55 ?k55 ?a56 ?l56 ?c56 ?k56 ?a57 ?l57 ?c57 ?k57 ?a58 ?l58 ?c58 ?k58 ?a59 ?l59 ?c59 ?k59 ?a60 ?l60 ?c60 ?k60 ?a61 ?l61 ?c61 ?k61 ?a62 ?l62 ?c62 ?k62 ?a63 ?l63 ?c63 ?k63 ?a64 ?l64 ?c64 ?k64 ?z0 ?z1 ?z2 ?z3 ?z4 ?z5 ?z6 ?z7 ?z8 ?z9 ?z10 ?z11 ?z12 ?z13 ?z14 ?zW ?zS ?zZ ?CPy ?CLy ?yCN ?p1 ?p2 ?p3 ?p4 ?p5 ?p6 ?p7 ?p8 ?p9 ?pk ?CPmk ?CPkc ?e1 ?e2 ?e3 ?e4 ?e5 ?e6 ?e7 ?CLmk ?CLkc ?xCN
  (case zZ=>k_is)
  (case CPy=>k_is)
  (case CLy=>k_is)
  (case yCN=>k_is)
  (case a1=>k_is)
  (case l1=>k_is)
  (case c1=>k_is)
  (case k1=>k_is)
  (case a2=>k_is)
  (case l2=>k_is)
  (case c2=>k_is)
  (case k2=>k_is)
  (case a3=>k_is)
  (case l3=>k_is)
  (case c3=>k_is)
  (case k3=>k_is)
  (case a4=>k_is)
  (case l4=>k_is)
  (case c4=>k_is)
  (case k4=>k_is)
  (case a5=>k_is)
  (case l5=>k_is)
  (case c5=>k_is)
  (case k5=>k_is)
  (case a6=>k_is)
  (case l6=>k_is)
  (case c6=>k_is)
  (case k6=>k_is)
  (case a7=>k_is)
  (case l7=>k_is)
  (case c7=>k_is)
  (case k7=>k_is)
  (case a8=>k_is)
  (case l8=>k_is)
  (case c8=>k_is)
  (case k8=>k_is)
  (case a9=>k_is)
  (case l9=>k_is)
  (case c9=>k_is)
  (case k9=>k_is)
  (case a10=>k_is)
  (case l10=>k_is)
  (case c10=>k_is)
  (case k10=>k_is)
  (case a11=>k_is)
  (case l11=>k_is)
  (case c11=>k_is)
  (case k11=>k_is)
  (case a12=>k_is)
  (case l12=>k_is)
  (case c12=>k_is)
  (case k12=>k_is)
  (case a13=>k_is)
  (case l13=>k_is)
  (case c13=>k_is)
  (case k13=>k_is)
  (case a14=>k_is)
  (case l14=>k_is)
  (case c14=>k_is)
  (case k14=>k_is)
  (case a15=>k_is)
  (case i15=>k_is)
  (case l15=>k_is)
  (case c15=>k_is)
  (case k15=>k_is)
  (case a16=>k_is)
  (case i16=>k_is)
  (case l16=>k_is)
  (case c16=>k_is)
  (case k16=>k_is)
  (case a17=>k_is)
  (case l17=>k_is)
  (case c17=>k_is)
  (case k17=>k_is)
  (case a18=>k_is)
  (case l18=>k_is)
  (case c18=>k_is)
  (case k18=>k_is)
  (case a19=>k_is)
  (case l19=>k_is)
  (case c19=>k_is)
  (case k19=>k_is)
  (case a20=>k_is)
  (case l20=>k_is)
  (case c20=>k_is)
  (case k20=>k_is)
  (case a21=>k_is)
  (case l21=>k_is)
  (case c21=>k_is)
  (case k21=>k_is)
  (case a22=>k_is)
  (case l22=>k_is)
  (case c22=>k_is)
  (case k22=>k_is)
  (case a23=>k_is)
  (case l23=>k_is)
  (case c23=>k_is)
  (case k23=>k_is)
  (case a24=>k_is)
  (case l24=>k_is)
  (case c24=>k_is)
  (case k24=>k_is)
  (case a25=>k_is)
  (case l25=>k_is)
  (case c25=>k_is)
  (case k25=>k_is)
  (case a26=>k_is)
  (case l26=>k_is)
  (case c26=>k_is)
  (case k26=>k_is)
  (case a27=>k_is)
  (case l27=>k_is)
  (case c27=>k_is)
  (case k27=>k_is)
  (case a28=>k_is)
  (case l28=>k_is)
  (case c28=>k_is)
  (case k28=>k_is)
  (case a29=>k_is)
  (case l29=>k_is)
  (case c29=>k_is)
  (case k29=>k_is)
  (case a30=>k_is)
  (case l30=>k_is)
  (case c30=>k_is)
  (case k30=>k_is)
  (case a31=>k_is)
  (case l31=>k_is)
  (case c31=>k_is)
  (case k31=>k_is)
  (case a32=>k_is)
  (case l32=>k_is)
  (case c32=>k_is)
  (case k32=>k_is)
  (case a33=>k_is)
  (case l33=>k_is)
  (case c33=>k_is)
  (case k33=>k_is)
  (case a34=>k_is)
  (case l34=>k_is)
  (case c34=>k_is)
  (case k34=>k_is)
  (case a35=>k_is)
  (case l35=>k_is)
  (case c35=>k_is)
  (case k35=>k_is)
  (case a36=>k_is)
  (case l36=>k_is)
  (case c36=>k_is)
  (case k36=>k_is)
  (case a37=>k_is)
  (case l37=>k_is)
  (case c37=>k_is)
  (case k37=>k_is)
  (case a38=>k_is)
  (case i38=>k_is)
  (case l38=>k_is)
  (case c38=>k_is)
  (case k38=>k_is)
  (case a39=>k_is)
  (case i39=>k_is)
  (case l39=>k_is)
  (case c39=>k_is)
  (case k39=>k_is)
  (case a40=>k_is)
  (case i40=>k_is)
  (case l40=>k_is)
  (case c40=>k_is)
  (case k40=>k_is)
  (case a41=>k_is)
  (case l41=>k_is)
  (case c41=>k_is)
  (case k41=>k_is)
  (case a42=>k_is)
  (case l42=>k_is)
  (case c42=>k_is)
  (case k42=>k_is)
  (case a43=>k_is)
  (case l43=>k_is)
  (case c43=>k_is)
  (case k43=>k_is)
  (case a44=>k_is)
  (case l44=>k_is)
  (case c44=>k_is)
  (case k44=>k_is)
  (case a45=>k_is)
  (case l45=>k_is)
  (case c45=>k_is)
  (case k45=>k_is)
  (case a46=>k_is)
  (case l46=>k_is)
  (case c46=>k_is)
  (case k46=>k_is)
  (case lc46=>k_is)
  (case pc46=>exact⟨_,_,_,_,_,_,_,_,rfl,rfl,rfl,rfl,rfl,rfl,rfl,rfl⟩)
  (case nc46=>show (_:Nat)≠_;decide)
  (case a48=>k_is)
  (case l48=>k_is)
  (case c48=>k_is)
  (case k48=>k_is)
  (case a49=>k_is)
  (case l49=>k_is)
  (case c49=>k_is)
  (case k49=>k_is)
  (case a50=>k_is)
  (case l50=>k_is)
  (case c50=>k_is)
  (case k50=>k_is)
  (case a51=>k_is)
  (case l51=>k_is)
  (case c51=>k_is)
  (case k51=>k_is)
  (case a52=>k_is)
  (case l52=>k_is)
  (case c52=>k_is)
  (case k52=>k_is)
  (case a53=>k_is)
  (case l53=>k_is)
  (case c53=>k_is)
  (case k53=>k_is)
  (case a54=>k_is)
  (case l54=>k_is)
  (case c54=>k_is)
  (case k54=>k_is)
  (case a55=>k_is)
  (case l55=>k_is)
  (case c55=>k_is)
  (case k55=>k_is)
  (case a56=>k_is)
  (case l56=>k_is)
  (case c56=>k_is)
  (case k56=>k_is)
  (case a57=>k_is)
  (case l57=>k_is)
  (case c57=>k_is)
  (case k57=>k_is)
  (case a58=>k_is)
  (case l58=>k_is)
  (case c58=>k_is)
  (case k58=>k_is)
  (case a59=>k_is)
  (case l59=>k_is)
  (case c59=>k_is)
  (case k59=>k_is)
  (case a60=>k_is)
  (case l60=>k_is)
  (case c60=>k_is)
  (case k60=>k_is)
  (case a61=>k_is)
  (case l61=>k_is)
  (case c61=>k_is)
  (case k61=>k_is)
  (case a62=>k_is)
  (case l62=>k_is)
  (case c62=>k_is)
  (case k62=>k_is)
  (case a63=>k_is)
  (case l63=>k_is)
  (case c63=>k_is)
  (case k63=>k_is)
  (case a64=>k_is)
  (case l64=>k_is)
  (case c64=>k_is)
  (case k64=>k_is)
  (case z0=>k_is)
  (case z1=>k_is)
  (case z2=>k_is)
  (case z3=>k_is)
  (case z4=>k_is)
  (case z5=>k_is)
  (case z6=>k_is)
  (case z7=>k_is)
  (case z8=>k_is)
  (case z9=>k_is)
  (case z10=>k_is)
  (case z11=>k_is)
  (case z12=>k_is)
  (case z13=>k_is)
  (case z14=>k_is)
  (case zW=>k_is)
  (case zS=>k_is)
  (case p1=>k_is)
  (case p2=>k_is)
  (case p3=>k_is)
  (case p4=>k_is)
  (case p5=>k_is)
  (case p6=>k_is)
  (case p7=>k_is)
  (case p8=>k_is)
  (case p9=>k_is)
  (case pk=>kit_is)
  (case CPmk=>k_is)
  (case CPkc=>k_is)
  (case e1=>k_is)
  (case e2=>k_is)
  (case e3=>k_is)
  (case e4=>k_is)
  (case e5=>k_is)
  (case e6=>k_is)
  (case e7=>k_is)
  (case CLmk=>k_is)
  (case CLkc=>k_is)
  (case xCN=>k_exc)
