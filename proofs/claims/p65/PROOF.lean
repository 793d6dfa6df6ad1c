import PyProof.Rows.All
import Wide.All
import OpenK.AllK
import Wide.FinOn
import Lean
import PyProof.EqAt
import PyProof.EqKinds
import PyProof.TupleCall
import PyProof.Rows.TopTwo
import KE.KIsAll
import PyProof.ExcAttrAll.ValueError
import KE.KTryMore
import KE.KRevIter
import PyProof.SetRoads
import PySem.Challenge.RW_firstpowers_k65_whole_kinds_of_tables
set_option Elab.async false
set_option linter.all false
set_option maxRecDepth 100000
set_option maxHeartbeats 8000000
open _root_ renaming List->G0,Nat->G3,Int->P4,Option->P7,if_pos->D4,if_neg->D5,decide_eq_true->D9,Array->S9,decide_eq_false->T6,Bool->M7,of_decide_eq_true->C7,String->V8,StateT->W8,decide_eq_true_eq->X3,beq_self_eq_true->Z4,decide_eq_true_iff->aA,exists_eq_left'->bR,ForInStep->dR,if_true->fU,of_decide_eq_false->g9,decide_eq_false_iff_not->i7,if_false->l8,bne_self_eq_false->oY,decide_true->uO,dif_pos->xM
open PySem renaming Value->G1,Shared->G2,wpAny_pure->P3,Addr->P5,starEach->R4,wpAny->R7,model->S2,Program->S7,foldedSetIterable->M0,Expr->M5,SetTable->M8,wpAny_mono->M9,Around->N3,wpAny_loadPart'->N7,World->N8,FuncData->N9,compareOp->B0,Heap->F4,wpAny_holding->L7,wpAny_call_entry->O0,PyData->A6,wpAny_truthy_bool->E1,wpAny_setState_of->E2,mainGlobals->E3,eval->E5,binaryOp->J3,Stmt->J9,backTo->K6,rawInt->K7,bootBuiltins->Q5,Scope->U2,cellsFrom->V1,behindInMarks->W1,wpAny_seqItems->X1,wpAny_newObj_type->X2,ofAClassStatement->X5,wpAny_standAt->Y3,attributeBase->Y4,Comprehension->Y5,swapsWith->Y6,wpAny_askSetting->Y9,wpAny_passesOwn->aH,codeAny_builtin->aJ,holding->aK,codeAny->aL,sysModules->aU,plainId_quiet->aY,mem_of_lookup->aZ,letOwnedTupleGo->bM,wpAny_specialOf->bP,wpAny_pyIter_list->bX,searchCouldBeSeen->b8,Keyword->cK,tupleKeyHash->cO,swapsWithSole->cV,swappedStores->cW,assignEach->dG,richCompare->dL,wpAny_callSpecial?_slot->dO,sliceBounds->dP,keywordEach->dQ,hashByValue->dU,richCompare_meets_room->dX,assign->fJ,wpAny_rule->fK,Fin->fM,wpAny_newList->fV,compTurn->f6,wpAny_execs_nil->gA,codeAny_mono->gH,wpAny_typeOf->gI,wpAny_Call_Name_kw->gS,wpAny_tryCatch->hZ,IsTupleKey->iA,wpAny_binaryOp_repeat_ref->iC,standAt->iH,CmpOp->iI,comprehension->iN,wpAny_comprehension_free->iO,lastMarks->iU,wpAny_forIn_list->iW,noFill_tuple_add->iY,backToKw->iZ,compEnvC->i5,wpAny_isInstance->j5,builtinsNs->kJ,IsPart->kL,typeIs_int->kO,wpAny_Call_method_late->kP,call_meets->kQ,theTreesLotGoes->lB,wpAny_updateSeq->lH,builtinLookup_eq_fast->lM,isSubtype_tuple_tuple->lO,lookup_relabel_local->l9,intBits_le_iff->mG,isSubtype_type->mI,wpAny_newTuple->mJ,wpAny_letGo->mP,setAddHashedIn->mS,PassesOwn->mU,getItem->mV,callerA->mW,eqIsQuiet->mX,assignInOrder->nA,seq_tuple_add->nB,tupleKind_room_in1->nN,reduceHash->nO,wpAny_pyHash_tuple->nX,name_of_addr->n9,concat_meets->oA,wpAny_sequenceKey->oB,seqIndex_neg->oC,valueAt->oF,call_meetsIn->oG,wpAny_pyIter_enum->oN,setField->oP,wpAny_pyIter_slot->oQ,wpAny_storeSet_of->o3,wpAny_eqBool_int->o6,wpAny_execs_cons->o7,pyIter->o8,Result->pA,seqSlot_of->pG,Model->pM,wpAny_field->pN,seqIndex_of->pO,pushCells_keeps->pX,codeAny_of_tree->pY,typeLookup_type->qA,setItem->qJ,BindsTo->qK,Setting->qL,wpAny_Name->qO,bindName->qP,wpAny_bindName->qQ,pyNext->qR,bindL->qT,bindC->qU,stored->qY,atKey->qZ,newFunctionEnv->q0,compPost->rA,wpAny_is_plain->rC,entryFor_alias->rF,carriedByValue->rL,rangeSize_one->rQ,intBits_le_64->rR,eval_ListComp->rV,wpAny_notedAt->rW,wpAny_attempt->sG,setSearchFrom->sM,noteFrame->sP,Within->sT,call_range_1->sV,isTrue->sZ,codeAny_loop->tD,relabel->tE,interactive->tR,IsRangeIter->tS,Operator->tT,sizeLine_eq->tU,bindArgs->tV,data2->tW,subscripted->tX,wpAny_noted->tY,wpAny_of_eq->t8,entryFor->uD,setRelay->uN,truthy->uW,wpAny_load->u0,typeIs_str->u9,PlainAttrs->v6,typeOf->v7,call->v9,closureFor->w6,seqRepeat?->w8,preSum->xA,argsOk->xB,release->xG,Params->x5,newSet->IB
open PySem.W renaming Frag->G5,kia_one->K4,keepIn->a5,fnOf->cJ,methodObj->iF,cellsFrom_some->kK,instObj->k9,kat_nil->lG,lookIn->lS,kitOne->lV,codeIn->lW,tabObj->mC,tabIn->nE,mg_of->nJ,kitx_list->n4,kitx_dict->n6,nsIn->o5,plainGet->o9,OpenLaw->p7,kat_one->qG,findIn->qS,CodeHd->rB,Looks->sI,hideAll_size->tP,hideAll_none->tQ,kas_first_eq->uJ,hideAll_get->uP,kdx_collect->uU,of_hideAll->uV,kitx_float->u4,kitx_tuple->u5,callWith_K->u6,codeRec_of->u7,ki_setBack->v5,hasDictIn->xH,plainOver->xI,specialIn->xJ,kitx_none->xK,kitx_bool->xL,eq_bytes->xN,ne_bytes->xO,kitx_int->xP,kitx_str->xQ,kitx_own->xR,ki_setAt->xS,kat_cons->xU,hideAll->xX,takesIn->xY,kat_yes->xZ,InstAt->x4,tab_of->x8,KatLex->y8,kat_go->y9,kat_no->z6,kat_lt->z8,mroIn->IC,WalkO->ID
open List renaming range->G6,getElem?_eq_getElem->G7,length_map->G8,mem_singleton->G9,length_append->P0,mem_cons_self->P6,mem_append_right->P8,mem_of_getElem?->D0,append_assoc->D1,getElem?_map->D2,mem_range->D3,getElem?_eq_some_iff->D6,length_cons->D8,mem_cons_of_mem->R3,mem_append->R5,length_range->R6,mem_map->R8,getElem?_append_right->S0,getD_eq_getElem?_getD->S1,mem_cons->S5,size_toArray->S6,map_map->S8,length_take->T3,map_cons->T7,take_of_length_le->T8,take_append_drop->M1,getElem?_append_left->N2,mem_append_left->N4,replicate->N5,pairwise_append->N6,length_nil->B2,length_drop->B3,map_congr_left->B6,length_reverse->B7,take_add_one->B8,all_eq_true->C3,pairwise_iff_getElem->C5,map_append->C6,mem_map_of_mem->C8,getElem_mem->C9,mem_of_mem_drop->L5,nodup_cons->L9,nil_append->O2,pairwise_map->O4,drop_eq_nil_of_le->O5,mem_of_mem_take->O6,getElem?_range->O9,lookup_cons->A3,not_mem_nil->A5,pairwise_singleton->A8,mem_reverse->A9,getElem_range->E8,mem_filter->J1,append_nil->J4,flatMap_append->J5,getElem?_eq_none->J8,flatMap_cons->K1,getElem?_set_ne->K3,drop_sublist->Q0,length_singleton->Q1,zip_cons_cons->Q9,getElem?_drop->U0,getElem?_cons_zero->U1,reverse_perm->U9,replicate_succ->V2,extract_eq_drop_take->V7,all_map->W3,eq_nil_of_length_eq_zero->W6,drop_append_of_le_length->W9,take_append_of_le_length->X0,find?_cons->X6,getElem_of_mem->X9,cons_append->Y8,getElem_idxOf->Z9,drop_drop->aB,take_sublist->aM,flatten_cons->aN,length_erase_of_mem->aX,length_eq_zero_iff->a6,getElem?_cons_succ->a9,mem_filterMap->bE,map_nil->bG,length_pos_of_mem->bJ,pairwise_cons->bK,perm_append_comm->bV,getElem?_reverse->bW,mem_erase_of_ne->cB,getElem?_of_mem->cE,getLastD_eq_getLast?->cR,getLast?_eq_getElem?->cS,filterMap_cons->cT,getElem?_take_of_lt->cY,idxOf_lt_length_iff->dA,forIn_cons->dE,getElem?_set_self->dW,getElem?_set->eF,ext_getElem?->eT,take_zero->eU,nodup_append->fE,pairwise_reverse->fH,length_filter_le->fI,take_length->fN,nodup_range->fO,any_eq_true->fP,mem_flatMap->fQ,length->fY,drop_eq_nil_iff->f8,foldl_cons->gB,Nodup->g7,length_eraseIdx_of_lt->g8,map->hO,drop_eq_getElem_cons->iD,getElem?_eq_none_iff->iE,zip_nil_left->iJ,mapM_toArray->iM,getElem?_replicate->iV,range'_succ->i8,ext_getElem->i9,getElem_map->j0,all_toArray->j8,map_flatMap->kH,range_succ_eq_map->kW,length_eq_one_iff->k5,of_mem_zip->lA,range_succ->lD,length_replicate->lJ,countP_le_length->lK,countP_eq_length->lL,getElem?_toArray->lN,drop_take->mK,take_take->mL,getLast?_concat->mM,countP_pos_iff->mZ,take_succ_cons->m7,any_cons->nD,zip_nil_right->nK,getElem?_take->nQ,find?_eq_none->nW,getElem_take->oU,getElem_drop->oV,countP_cons->pH,append_cons->pI,perm_middle->pL,map_id->pS,sum_append->p8,idxOf_cons->p9,foldl->qW,drop_zero->rG,all_cons->rX,map_take->r9,map_drop->sA,lookup->tZ,range'->uA
open PySem.Heap renaming get?_push_of_some->P1,lt_size->R1,get?_push_size->T5,get?_update_self->F5,SameBut->E4,get?_update_ne->Y0,size_push->b9,get?_update_other->kN
open Nat renaming le_refl->P2,le_of_lt->R9,le_trans->S4,ne_of_lt->T2,zero_le->M6,lt_of_lt_of_le->N0,lt_irrefl->C4,lt_or_ge->A0,lt_succ_self->A4,lt_trans->E6,lt_of_le_of_ne->E9,pow_succ->I0,add_sub_cancel'->J6,le_of_eq->K0,ne_of_gt->Q6,zero_add->Q8,lt_of_succ_le->U4,not_lt->U5,lt_of_succ_lt->U8,not_lt_zero->V4,lt_of_le_of_lt->V9,add_zero->W4,mod_lt->X7,mul_comm->Y2,min_le_right->Y7,le_add_right->Z0,pow_le_pow_right->aP,succ_le_succ->a8,mul_succ->bI,div_div_eq_div_mul->bL,le_add_left->bQ,add_assoc->bS,lt_succ_of_lt->bY,lt_trichotomy->b6,one_pos->cG,succ_mul->cL,succ_pos->cN,add_le_add_left->cU,min_eq_left->dF,sub_lt->dH,pos_of_ne_zero->dI,mul_add->dS,dvd_of_mod_eq_zero->eL,le_mul_of_pos_left->eM,succ_le_of_lt->eZ,pow_zero->e9,le_of_not_lt->fL,mod_eq_of_lt->fT,div_add_mod->gD,sub_self->gK,add_sub_cancel_left->j6,add_comm->kT,mod_eq_zero_of_dvd->kZ,mul_le_mul->mH,add_mod->mQ,div_one->mR,mul_le_mul_left->m8,mul_assoc->nF,eq_zero_or_pos->nU,add_right_comm->nV,dvd_add_right->oO,le_of_succ_le->oS,sub_pos_of_lt->oT,le_succ_of_le->oX,le_succ->pQ,add_mul->pT,pow_pos->pU,max_eq_left->qD,min_le_left->qH,mod_add_div->qI,gcd->qN,le_of_dvd->sE,mul_zero->tG,zero_mul->tJ,mod_mod->uL,mul_mod->uM,sub_le->xC,succ->y6
open Array renaming length_toList->P9,getElem?_toList->T9,toList_append->H0,getElem?_eq_some_iff->A7,toList_push->U7,getElem?_eq_getElem->V6,forIn_toList->W0,toList_extract->aS,getD_eq_getD_getElem?->b7,getElem_toList->cC,getElem?_eq_none_iff->cF,size_setIfInBounds->dD,toList_reverse->f7,isEmpty_eq_false_iff->gZ,toList_setIfInBounds->hJ,toList_map->j7,getElem?_eq_none->kX,replicate->lI,mem_toList_iff->lU,toArray_toList->mO,isEmpty_iff->oH,toList_zip->pK,getD->rE,size_map->rK,toList->sU
open PyProof.Rows renaming Keyed->D7,arrOf->T1,pendingOf->B1,SortSt->B9,IntsAre->U3,slot_tuple_getitem->V5,callWith_type1->Y1,boot_all->aD,failedOf->aR,seqObj->a7,get?_update_seq->gE,lt_int->gG,assignInOrder_cons->gO,envOfC->gU,AllBare->iG,listUpdate_at->iT,subscriptTail_builtinR->kM,entry_list_sort->lC,slot_list_sort->mD,args_list_sort->mE,seqEpoch_at->mN,entry_tuple_getitem->mY,IsTup->m9,tupleItemsOf_->nC,args_tuple_getitem->nM,assignInOrder_nil->nZ,plain_sorted->oI,entry_sorted->oJ,args_sorted1->oK,listItems_at->oW,callWith_builtin1->pB,kind_sorted->pP,boot_isinstance->pZ,list_sort_plain->qE,oneTypeOnly'_eq->qF,slicePart_none->qV,subscriptTail->rS,reverseSlice'->sH,mergeAt'->uF,binarySort'->uG,keyKind'->uH,general'->uI,recsOf->uQ,boot_range->u3,Subscript_->u8,setPending->xD,oneLt'->z7,seen->IA
open Bool renaming false_ne_true->R0,false_eq_true->C0,and_eq_true->O1,eq_iff_iff->Q7,eq_false_iff->X4,or_eq_true->bO,and_false->eO,not_true->fX,false_and->lR,or_eq_false_iff->mB,and_true->nG,true_and->nH,not_false->rJ,or_false->rT,true_or->sW
open PySem.SetTable renaming bits->S3,below->T4,runEnd->O3,turns->O7,sizeAbove->J0,Probe->Q4,insertAt->U6,advance->Z6,grown->cH,toList_insertAt->dB,insertAt_perm->fC,slot->iQ,has->kY,layClean->oZ,fresh->rH,fits->sF,leap->sJ,laid->sK,fill->sL,probeStart->uR,sameMemory->uS,gaveWay->xV,tooFull->xW
open PySem.PyData renaming canLayAll0->C1,canLay0->F6,eqv->F7,depthAll->F8,eqvAll->L0,depth->K2,int->bH
open Classical renaming byContradiction->F9,em->IE
open PySem.Value renaming ref->L6,type->Z7,int->dJ,bool->gL,none->kI,isInt->lQ,str->mT,isInt_shape->nY,isStrOf->rP,float->tO
open PySem.NameKind renaming free->L8,cell->Q2
open PySem.SetTable.layClean renaming free->O8
open PySem.Heap.SameBut renaming update->A1,refl->bZ,trans->xF
open Option.some renaming inj->A2,injEq->aT
open Option renaming map_eq_some_iff->E7,getD_some->cM,isSome_iff_exists->cX,map_eq_none_iff->eQ,isSome_some->gW,getD_none->pE
open PySem.Obj renaming mapSeq->J7,mapFields->fW
open Sum renaming inl->K5,inr->cI
open Function renaming comp_apply->K8,comp_def->eI
open Ne renaming symm->K9
open PySem.SetTable.probe renaming go->V0
open ForInStep renaming yield->V3,done->y3
open Or renaming inl->W5,inr->bU
open PySem.Around renaming under_plainId->W7
open PySem.PassesOwn renaming never->X8
open PySem.F renaming plain_min_loop->Z5,slot_tuple_lt->bT,args_tuple_add_2->cZ,args_tuple_lt_2->dM,entry_tuple_add->dN,entry_tuple_lt->dY,slot_tuple_add->dZ,slot_dict_get->fG,slot_int_rmul->gC,slot_tuple_index->iP,args_dict_get_3->i0,plainAttrs_dict->i4,plainAttrs_list->i6,entry_min_loop->j9,slot_dict_items->kG,entry_dict_get->kU,args_int_rmul_2->oE,plain_list_iadd->oR,slot_tuple_hash->o4,entry_int_rmul->pF,fills_int_mul->pW,slot_set_iter->qB,args_tuple_index_2->rD,entry_tuple_index->rN,args_dict_items_1->rO,slot_list_append->rY,type_list_append->rZ,plainAttrs_tuple->sB,type_tuple_index->sC,entry_dict_items->sN,slot_list_index->sQ,type_list_index->sR,type_dict_items->sS,args_list_lt_2->tH,type_dict_get->tL,entry_list_lt->tN,slot_list_lt->uK
open PySem.Builtin.Tuple renaming tupleItemsOf->Z8,tupleHashOf->aF,tupleExact->aW,tupleCompareSizes->fF,tupleIsExact->gX,tupleTooMany->gY
open PySem.SetTable.sizeAbove renaming go->aC
open PySem.Builtin.Slice renaming slicePlaces->aE,sliceAdjust->cP,sliceApplied->gV,slicePartIndex->pV,sliceFields->rM
open Decidable renaming byContradiction->aG
open PyProof.Rows.LCg renaming lst->aO
open Int renaming toNat_natCast->aQ,mul_nonneg->eG,emod_nonneg->gF,fdiv_eq_ediv_of_nonneg->gP,fmod_eq_emod_of_nonneg->gQ,emod_lt_of_pos->iB,le_refl->mF,lt_of_lt_of_le->nP,mul_comm->oM,pow_pos->pR,le_of_lt->tF,ne_of_gt->tK,mul_pos->uB,pow_add->uC,toNat->xT
open True renaming intro->aV
open PySem.Calls renaming callWith_builtin->bF,call_function_entry->cQ,evalArgs_plain->fZ,Name_function_global->gM,spliced_cons->gR,spliced_nil->n8
open Std.Legacy.Range renaming forIn_eq_forIn_range'->cA,size->tM
open PySem.Builtin.List renaming listTooLong->c9,listLengthHint->gJ,listSameRef->iR,listExtendWith->qM,listFitsIndex->qX
open PySem.Builtin.SmallTypes renaming stopIteration->eJ
open PySem.SetTable.below renaming go->eN
open PySem.SeqAt renaming shaped->g6
open List.Pairwise renaming nil->iK,imp_of_mem->sD
open StateT renaming run_pure->lE,run_lift->qC,lift->uE
open List.Perm renaming trans->lF,append->pJ,eq_of_pairwise->sO,cons_inv->xE,swap->y4,refl->z9
namespace L2
open PySem PySem.Spec PyProof.Rows
abbrev Key:=Sum P4 Str
def Qz:Key->G1->M7
 | .inl k,v=>lQ k v
 | .inr x,v=>rP x v
def TQ (w:N8):Key->P4
 | .inl k=>hashInt k
 | .inr x=>hashStr w x
theorem jL: ∀ {k:Key} {v:G1},Qz k v=true->(∃i t,k=K5 i/\v=dJ i t)\/(∃x t,k=cI x/\v=mT x t)
 | .inl i,v,h=>by
  obtain⟨t,e⟩:=nY (k:=i) (v:=v) h;exact .inl ⟨i,t,rfl,e⟩
 | .inr x,v,h=>by
  obtain⟨t,e⟩:=Value.isStrOf_shape (x:=x) (v:=v) h;exact .inr ⟨x,t,rfl,e⟩
theorem GJ (i:P4)(t:Tok):Qz (.inl i) (.int i t)=true:=by simp [Qz,lQ]
theorem GK (x:Str)(t:Tok):Qz (.inr x) (.str x t)=true:=by simp [Qz,rP]
theorem La (a b:P4):decide ((K5 a:Key)=K5 b)=(a==b):=by
 by_cases e:a=b
 ·subst e;simp
 ·have h: ¬ (K5 a:Key)=K5 b:=λq=>e (Sum.inl.inj q)
  rw [T6 h];exact(beq_eq_false_iff_ne.mpr e).symm
theorem Lb (a b:Str):decide ((cI a:Key)=cI b)=decide (a=b):=by
 by_cases e:a=b
 ·subst e;simp
 ·have h: ¬ (cI a:Key)=cI b:=λq=>e (Sum.inr.inj q)
  rw [T6 h,T6 e]
theorem Lc (a:P4)(b:Str):decide ((K5 a:Key)=cI b)=false:=T6 (λq=>nomatch q)
theorem Ld (a:Str)(b:P4):decide ((cI a:Key)=K5 b)=false:=T6 (λq=>nomatch q)
def jU (prog:S7)(w:N8):PySem.KeyKind prog w Key where
 is:=Qz
 hash:=TQ w
 inj:=λv a b ha hb=>by
  rcases jL ha with ⟨i,t,rfl,rfl⟩|⟨x,t,rfl,rfl⟩
  ·rcases jL hb with ⟨j,u,rfl,e⟩|⟨y,u,rfl,e⟩
   ·injection e with e1 _;rw [e1]
   ·exact nomatch e
  ·rcases jL hb with ⟨j,u,rfl,e⟩|⟨y,u,rfl,e⟩
   ·exact nomatch e
   ·injection e with e1 _;rw [e1]
 byValue:=λk v h=>by
  rcases jL h with ⟨i,t,rfl,rfl⟩|⟨x,t,rfl,rfl⟩<;>rfl
 pyHash:=λhv h=>by
  rcases jL hv with ⟨i,t,rfl,rfl⟩|⟨x,t,rfl,rfl⟩
  ·exact wpAny_pyHash_int h
  ·exact wpAny_pyHash_str h
 eqBool:=λhu hv h=>by
  rcases jL hu with ⟨i,t,rfl,rfl⟩|⟨x,t,rfl,rfl⟩
  ·rcases jL hv with ⟨j,u,rfl,rfl⟩|⟨y,u,rfl,rfl⟩
   ·rw [La] at h;exact o6 h
   ·rw [Lc] at h;exact SeqAt.EqAt.int_str i t y u _ _ _ _ h
  ·rcases jL hv with ⟨j,u,rfl,rfl⟩|⟨y,u,rfl,rfl⟩
   ·rw [Ld] at h;exact SeqAt.EqAt.str_int x t j u _ _ _ _ h
   ·rw [Lb] at h;exact wpAny_eqBool_str h
 «strs» :=λk x t v h=>by
  rcases jL h with ⟨i,u,rfl,e⟩|⟨y,u,rfl,e⟩
  ·exact nomatch e
  ·injection e with e1 _
   subst e1;cases v<;>rfl
theorem Ut (prog:S7)(w:N8)(i:P4)(t:Tok):(jU prog w).is (.inl i) (.int i t)=true:=GJ i t
theorem Uu (prog:S7)(w:N8)(x:Str)(t:Tok):(jU prog w).is (.inr x) (.str x t)=true:=GK x t
inductive V where
 |non|bl (b:M7)|int (i:P4)|str (x:Str)|byt (b:S9 UInt8)|flt (b:UInt64)|ref (a:P5)|ty (n:V8)
 deriving DecidableEq
def RelV:V->G1->Prop
 | .non,u=>u=kI
 | .bl b,u=>u=gL b
 | .int i,u=> ∃t,u=dJ i t
 | .str x,u=> ∃t,u=mT x t
 | .byt b,u=> ∃t,u=Value.bytes b t
 | .flt b,u=> ∃t,u=tO b t
 | .ref a,u=>u=L6 a
 | .ty n,u=>u=Z7 n
abbrev Vals:G0 V->G0 G1->Prop:=Paired RelV
theorem Vals.length {xs:G0 V}{us:G0 G1}(r:Vals xs us):xs.length=us.length:=Paired.length r
theorem Vals.get: ∀ {xs:G0 V} {us:G0 G1} {i:G3} {x:V},Vals xs us->xs[i]? =some x-> ∃u,us[i]? =some u/\RelV x u
 |_,_,_,_,.nil,e=>by simp at e
 |_,_,0,_,.cons r _,e=>by simp at e;subst e;exact⟨_,rfl,r⟩
 |_,_,i+1,x,.cons _ t,e=>by
  obtain⟨u,h1,h2⟩:=Vals.get (i:=i) (x:=x) t (by simpa using e);exact⟨u,by simpa using h1,h2⟩
variable {u:G1}
theorem Vals.set {x:V}(r:RelV x u): ∀ {xs:G0 V} {us:G0 G1} (i:G3),Vals xs us->Vals (xs.set i x) (us.set i u)
 |_,_,_,.nil=> .nil
 |_,_,0,.cons _ t=> .cons r t
 |_,_,i+1,.cons q t=> .cons q (Vals.set r i t)
theorem Vals.append: ∀ {xs ys:G0 V} {us ws:G0 G1},Vals xs us->Vals ys ws->Vals (xs++ys) (us++ws)
 |_,_,_,_,.nil,s=>s
 |_,_,_,_,.cons r t,s=> .cons r (Vals.append t s)
theorem Vals.take: ∀ {xs:G0 V} {us:G0 G1} (n:G3),Vals xs us->Vals (xs.take n) (us.take n)
 |_,_,0,_=> .nil
 |_,_,_+1,.nil=> .nil
 |_,_,n+1,.cons r t=> .cons r (Vals.take n t)
theorem Vals.drop: ∀ {xs:G0 V} {us:G0 G1} (n:G3),Vals xs us->Vals (xs.drop n) (us.drop n)
 |_,_,0,r=>r
 |_,_,_+1,.nil=> .nil
 |_,_,n+1,.cons _ t=>Vals.drop n t
def RelO:P7 V->P7 G1->Prop
 |some v,some u=>RelV v u
 |none,none=>True
 |_,_=>False
def KV {κ:Type}:G0 (κ×V)->G0 (κ×G1)->Prop:=Paired λ(p:κ×V) (q:κ×G1)=>p.1=q.1/\RelV p.2 q.2
def kV:Key->V
 | .inl i=> .int i
 | .inr x=> .str x
inductive HO where
 /-- a list -/
 |lst (xs:G0 V)
 /-- a tuple (never changes) -/
 |tup (xs:G0 V)
 /-- a dict whose keys are ints and texts;one whose keys are tuples of ints and texts (the empty one is both) -/
 |dK (kvs:G0 (Key×V))|dT (kvs:G0 (G0 Key×V))
 /-- a set of ints: its members,its size -/
 |set (S:P4->M7) (n:G3)
 /-- an instance of the class at C,its dict at dx,its attributes -/
 |ins (C dx:P5) (fs:G0 (Str×V))
 /-- the dict of the instance at x -/
 |own (x:P5)
 /-- the dict of an exception -/
 |xd (fs:G0 (Str×V))
 /-- a bound method,f of x -/
 |met (f x:P5)
 /-- a range object lo,lo+1,.. below hi -/
 |rng (lo hi:P4)
 /-- a thing that is known to the object (the script;a dict while a loop walks it):read,never written while it is so -/
 |frz (o:Obj) (u:HO)
 /-- a code object's table -/
 |tbl (ps:S9 G1)
 /-- any other thing,by what is true of its one object (a def of one's own: SetO a S n:=HO.ext λh=> ..) -/
 |ext (φ:F4->Prop)
abbrev Hp:=P5->P7 HO
def upd (H:Hp)(a:P5)(o:HO):Hp:=λb=>if b=a then some o else H b
variable {H:Hp}{a:P5}{o:HO}
theorem ji:upd H a o a=some o:=by unfold upd;rw [D4 rfl]
variable {b:P5}
theorem jg (h:b≠a):upd H a o b=H b:=by unfold upd;rw [D5 h]
theorem Uv {u:HO}(h:H a=some o)(h':H b=some u)(d:o≠u):a≠b:=by
 intro e;subst e;rw [h] at h';exact d (A2 h')
theorem je (h:H a=some o)(h':H b=none):a≠b:=by
 intro e;subst e;rw [h] at h';cases h'
def IsTupN (h:F4)(a:P5)(items:S9 G1):Prop:= ∃o,h.get? a=some o/\o.cls= .type "tuple" /\o.dict=none/\ ∃n,o.data= .seq items n
theorem IsTupN.tup {h:F4}{a:P5}{items:S9 G1}(x:IsTupN h a items):m9 h a items:=let ⟨o,e,c,_,n,d⟩:=x;⟨o,e,c,n,d⟩
theorem IsTupN.new (h:F4)(items:S9 G1):IsTupN (h.push {cls:= .type "tuple",data:= .seq items}) h.objs.size items:=⟨_,T5 _ rfl,rfl,rfl,_,rfl⟩
section
variable (P:S7)(w:N8)
def ObjOk (H:Hp)(h:F4)(a:P5):HO->Prop
 | .lst xs=>xs.length<=sizeLine/\ ∃ (its:G0 G1) (n:G3),Vals xs its/\h.get? a=some {cls:= .type "list",data:= .seq its.toArray n}
 | .tup xs=>xs.length<=sizeLine/\ ∃its:G0 G1,Vals xs its/\IsTupN h a its.toArray
 | .dK kvs=>kvs.length<=sizeLine/\(a==aU)=false/\ ∃vs,KV kvs vs/\h.DictOf (jU P w) a vs
 | .dT kvs=>kvs.length<=sizeLine/\(a==aU)=false/\ ∃xs:G0 (G0 Key×P5×G1),
  Paired (λ(p:G0 Key×V) (q:G0 Key×P5×G1)=>p.1=q.1/\H q.2.1=some (.tup (p.1.map kV))/\RelV p.2 q.2.2) kvs xs/\
  ∃o es ep,h.get? a=some o/\o.ExactDict/\o.data= .dict es ep/\es.toList=xs.map (entryOfKey (tupleKind (jU P w)))/\(xs.map (·.1)).Nodup
 | .set S n=>h.SetOf (intKind P w) a S n
 | .ins C dx fs=>H dx=some (.own a)/\fs.length<=1000/\dx≠a/\h.get? a=some (k9 C dx)/\
  ∃mA,h.Ns1 dx mA/\(∀f,RelO (fs.lookup f) (mA f))/\sT mA (fs.map (·.1))
 | .own _=> ∃o,h.get? a=some o
 | .xd fs=> ∃mA,h.Ns1 a mA/\ ∀f,RelO (fs.lookup f) (mA f)
 | .rng lo hi=> ∃t u v,h.get? a=some {cls:= .type "range",data:= .fields #[.int lo t,.int hi u,.int 1 v]}
 | .frz o u=>h.get? a=some o/\ObjOk H h a u
 | .tbl ps=>h.get? a=some {cls:= .none,data:= .fields ps}
 | .met f x=>h.get? a=some (iF (.ref f) (.ref x))
 | .ext φ=>φ h/\(∃o,h.get? a=some o)/\ ∀h1 h2:F4,φ h1->(∀o,h1.get? a=some o->h2.get? a=some o)->φ h2
def HOk (H:Hp)(h:F4):Prop:= ∀a o,H a=some o->ObjOk P w H h a o
end
section
variable {P:S7}{w:N8}{H H':Hp}{h h':F4}{a:P5}{o:HO}
theorem ObjOk.lt (x:ObjOk P w H h a o):a<h.objs.size:=by
 cases o with
 |lst xs=>obtain⟨_,_,_,_,e⟩:=x;exact R1 e
 |tup xs=>obtain⟨_,_,_,p⟩:=x;exact p.tup.lt
 |dK kvs=>obtain⟨_,_,_,_,o,_,_,e,_⟩:=x;exact R1 e
 |dT kvs=>obtain⟨_,_,_,_,o,_,_,e,_⟩:=x;exact R1 e
 |set S n=>obtain⟨o,_,_,_,e,_⟩:=x;exact R1 e
 |ins C dx fs=>obtain⟨_,_,_,e,_⟩:=x;exact R1 e
 |own y=>obtain⟨_,e⟩:=x;exact R1 e
 |xd fs=>obtain⟨_,⟨_,_,_,e,_⟩,_⟩:=x;exact R1 e
 |rng lo hi=>obtain⟨_,_,_,e⟩:=x;exact R1 e
 |frz ob u=>obtain⟨e,_⟩:=x;exact R1 e
 |tbl ps=>exact R1 (show h.get? a=some _ from x)
 |met f y=>exact R1 (show h.get? a=some _ from x)
 |ext φ=>obtain⟨_,⟨_,e⟩,_⟩:=x;exact R1 e
theorem Paired.mapP {α β:Type}{F G:α->β->Prop}: ∀ {KC:G0 α} {KF:G0 β},Paired F KC KF->(∀a b,F a b->G a b)->Paired G KC KF
 |_,_,.nil,_=> .nil
 |_,_,.cons r t,f=> .cons (f _ _ r) (Paired.mapP t f)
theorem ObjOk.stay (x:ObjOk P w H h a o)(k: ∀b u,(b=a\/H b=some (.own a))->h.get? b=some u->h'.get? b=some u)
 (ho: ∀b,H b=some (.own a)->H' b=some (.own a))(ht: ∀b xs,H b=some (.tup xs)->H' b=some (.tup xs)):ObjOk P w H' h' a o:=by
 induction o with
 |lst xs=>obtain⟨z,its,n,r,e⟩:=x;exact⟨z,its,n,r,k _ _ (.inl rfl) e⟩
 |tup xs=>obtain⟨z,its,r,ob,e,c⟩:=x;exact⟨z,its,r,ob,k _ _ (.inl rfl) e,c⟩
 |dK kvs=>obtain⟨z,y,vs,r,ob,es,ep,e,c⟩:=x;exact⟨z,y,vs,r,ob,es,ep,k _ _ (.inl rfl) e,c⟩
 |dT kvs=>
  obtain⟨z,y,xs,r,ob,es,ep,e,c⟩:=x;exact⟨z,y,xs,Paired.mapP r λp q z=>⟨z.1,ht _ _ z.2.1,z.2.2⟩,ob,es,ep,k _ _ (.inl rfl) e,c⟩
 |set S n=>obtain⟨ob,es,ep,t,e,c⟩:=x;exact⟨ob,es,ep,t,k _ _ (.inl rfl) e,c⟩
 |ins C dx fs=>
  obtain⟨d,z,ne,e,mA,⟨od,es,ep,e2,c⟩,r⟩:=x;exact⟨ho _ d,z,ne,k _ _ (.inl rfl) e,mA,⟨od,es,ep,k _ _ (.inr d) e2,c⟩,r⟩
 |own y=>obtain⟨ob,e⟩:=x;exact⟨ob,k _ _ (.inl rfl) e⟩
 |xd fs=>obtain⟨mA,⟨od,es,ep,e,c⟩,r⟩:=x;exact⟨mA,⟨od,es,ep,k _ _ (.inl rfl) e,c⟩,r⟩
 |rng lo hi=>obtain⟨t,u,v,e⟩:=x;exact⟨t,u,v,k _ _ (.inl rfl) e⟩
 |frz ob u ih=>obtain⟨e,q⟩:=x;exact⟨k _ _ (.inl rfl) e,ih q⟩
 |tbl ps=>
  have e:h.get? a=some {cls:= .none,data:= .fields ps}:=x;show h'.get? a=some {cls:= .none,data:= .fields ps};exact k a _ (.inl rfl) e
 |met f y=>
  have e:h.get? a=some (iF (.ref f) (.ref y)):=x;show h'.get? a=some (iF (.ref f) (.ref y));exact k a _ (.inl rfl) e
 |ext φ=>obtain⟨p,⟨o,e⟩,st⟩:=x;exact⟨st _ _ p λo q=>k _ _ (.inl rfl) q,⟨o,k _ _ (.inl rfl) e⟩,st⟩
theorem HOk.lt (x:HOk P w H h)(e:H a=some o):a<h.objs.size:=(x a o e).lt
theorem HOk.fresh (x:HOk P w H h)(e:h.objs.size<=a):H a=none:=by
 cases q:H a with
 |none=>rfl
 |some u=>exact absurd (N0 (x.lt q) e) (C4 _)
theorem HOk.kept (x:HOk P w H h)(k: ∀b u,h.get? b=some u->h'.get? b=some u):HOk P w H h':=λa o e=>
 (x a o e).stay (λb u _ q=>k b u q) (λ_ q=>q) λ_ _ q=>q
theorem HOk.laid (x:HOk P w H h)(k: ∀b u,h.get? b=some u->h'.get? b=some u)(hp:h.objs.size<=a)(new:ObjOk P w (upd H a o) h' a o):HOk P w (upd H a o) h':=λb u e=>by
 have hn:=x.fresh hp
 by_cases hb:b=a
 ·subst hb;rw [ji] at e;cases e;exact new
 ·rw [jg hb] at e;exact(x b u e).stay (λc v _ q=>k c v q) (λc q=>by rw [jg (je q hn)];exact q) λc xs q=>by rw [jg (je q hn)];exact q
end
def Rd (H:Hp)(a:P5)(u:HO):Prop:=H a=some u\/ ∃o,H a=some (.frz o u)
variable {P:S7}{w:N8}{h:F4}
theorem Rd.ok {u:HO}(r:Rd H a u)(x:HOk P w H h):ObjOk P w H h a u:=by
 rcases r with r|⟨o,r⟩
 ·exact x a u r
 ·obtain⟨_,q⟩:=x a _ r;exact q
def Mut:P7 HO->Prop
 |some (.lst _)=>True
 |some (.dK _)=>True
 |some (.dT _)=>True
 |some (.set _ _)=>True
 |some (.ins _ _ _)=>True
 |some (.ext _)=>True
 |_=>False
section
variable {P:S7}{w:N8}{H:Hp}{h h':F4}{x e:P5}{o':HO}
theorem HOk.write (ok:HOk P w H h)(mu:Mut (H x))(he:e=x\/H e=some (.own x))(k: ∀b u,b≠e->h.get? b=some u->h'.get? b=some u)(heo: ∃u,h'.get? e=some u)
 (new:ObjOk P w (upd H x o') h' x o'):HOk P w (upd H x o') h':=λb u q=>by
 have nown: ∀c y,H c=some (.own y)->c≠x:=λc y r z=>by subst z;rw [r] at mu;exact mu
 have ntup: ∀c xs,H c=some (.tup xs)->c≠x:=λc xs r z=>by subst z;rw [r] at mu;exact mu
 by_cases hb:b=x
 ·subst hb;rw [ji] at q;cases q;exact new
 ·rw [jg hb] at q
  by_cases hbe:b=e
  ·have q':H b=some (.own x):=by
    rcases he with z|z
    ·exact absurd (hbe.trans z) hb
    ·rw [hbe];exact z
   rw [q] at q';cases q';obtain⟨v,hv⟩:=heo;exact⟨v,by rw [hbe];exact hv⟩
  ·refine(ok b u q).stay (λc v hc r=>k c v ?_ r) (λc r=>by rw [jg (nown c b r)];exact r) λc xs r=>by rw [jg (ntup c xs r)];exact r
   rcases hc with rfl|hc
   ·exact hbe
   ·rintro rfl;rcases he with z|z
    ·exact nown c b hc z
    ·rw [hc] at z;cases z;exact hb rfl
end
structure Un (fs ex:G0 P5)(H H':Hp)(h h':F4):Prop where
 keep: ∀b o,h.get? b=some o->H b=none->b ∉ fs->b ∉ ex->h'.get? b=some o
 slot: ∀b o,h.get? b=some o->H b=none->b∈fs->b ∉ ex-> ∃sl,h'.get? b=some {o with slots:=sl}
 free: ∀b o,h.get? b=some o->H b=none->b ∉ ex->H' b=none
 there: ∀b o,h.get? b=some o->b ∉ ex-> ∃o',h'.get? b=some o'
 tups: ∀b xs,H b=some (.tup xs)->H' b=some (.tup xs)
 frzs: ∀b o u,H b=some (.frz o u)->H' b=some (.frz o u)
 tbls: ∀b ps,H b=some (.tbl ps)-> ∃more,H' b=some (.tbl (ps++more))
section
variable {fs fs' ex ex':G0 P5}{H H1 H2:Hp}{h h1 h2 h':F4}{a x e:P5}{o:HO}
theorem Un.any (u:Un fs ex H H1 h h1){b:P5}{ob:Obj}(q:h.get? b=some ob)(n:H b=none)(hx:b ∉ ex): ∃sl,h1.get? b=some {ob with slots:=sl}:=by
 by_cases hb:b∈fs
 ·exact u.slot b ob q n hb hx
 ·exact⟨ob.slots,u.keep b ob q n hb hx⟩
theorem Un.kept (k: ∀b u,h.get? b=some u->h'.get? b=some u):Un fs ex H H h h':=
 ⟨λb ob q _ _ _=>k b ob q,λb ob q _ _ _=>⟨ob.slots,k b ob q⟩,λ_ _ _ n _=>n,λb ob q _=>⟨ob,k b ob q⟩,λ_ _ q=>q,λ_ _ _ q=>q,λ_ ps q=>⟨#[],by rw [q];simp⟩⟩
theorem Un.refl:Un fs ex H H h h:=Un.kept λ_ _ q=>q
theorem Un.laid (k: ∀b u,h.get? b=some u->h'.get? b=some u)(hp:h.objs.size<=a)(hn:H a=none):Un fs ex H (upd H a o) h h' where
 keep:=λb u q _ _ _=>k b u q
 slot:=λb u q _ _ _=>⟨u.slots,k b u q⟩
 free:=λb u q n _=>by rw [jg (T2 (N0 (R1 q) hp))];exact n
 there:=λb u q _=>⟨u,k b u q⟩
 tups:=λb xs q=>by rw [jg (je q hn)];exact q
 frzs:=λb u xs q=>by rw [jg (je q hn)];exact q
 tbls:=λb ps q=>⟨#[],by rw [jg (je q hn),q];simp⟩
theorem Un.write (mu:Mut (H x))(he:e=x\/H e=some (.own x))(k: ∀b u,b≠e->h.get? b=some u->h'.get? b=some u)(heo: ∃u,h'.get? e=some u):Un fs ex H (upd H x o) h h':=by
 have hx: ∀b,H b=none->b≠x:=λb n z=>by subst z;rw [n] at mu;exact mu
 have hb: ∀b,H b=none->b≠e:=λb n z=>by
  subst z;rcases he with r|r
  ·exact hx b n r
  ·rw [n] at r;cases r
 have hm: ∀b u,H b=some u-> ¬Mut (some u)->b≠x:=λb u q nm z=>by subst z;rw [q] at mu;exact nm mu
 refine⟨λb u q n _ _=>k b u (hb b n) q,λb u q n _ _=>⟨u.slots,k b u (hb b n) q⟩,λb u q n _=>by rw [jg (hx b n)];exact n,λb u q _=> ?_,
  λb xs q=>by rw [jg (hm b _ q λz=>z)];exact q,λb u xs q=>by rw [jg (hm b _ q λz=>z)];exact q,λb ps q=>⟨#[],by rw [jg (hm b _ q λz=>z),q];simp⟩⟩
 by_cases hbe:b=e
 ·subst hbe;exact heo
 ·exact⟨u,k b u hbe q⟩
end
def trk (h:F4)(H:Hp):G0 P5:=(G6 h.objs.size).filter λa=>(H a).isSome
def RK (h:F4)(H:Hp):F4:=xX h (trk h H)
theorem GL (h:F4)(H:Hp):(RK h H).objs.size=h.objs.size:=tP _ _
theorem Yh {o:Obj}(e:h.get? b=some o)(n:H b=none):(RK h H).get? b=some o:=
 uP _ e λhm=>by
  have q:(H b).isSome=true:=(J1.mp hm).2;rw [n] at q;simp at q
theorem Bq {o:Obj}(e:(RK h H).get? b=some o):h.get? b=some o/\H b=none:=by
 have e':h.get? b=some o:=uV (trk h H) e;refine⟨e',?_⟩;cases q:H b with
 |none=>rfl
 |some x=>
  have hm:b∈trk h H:=J1.mpr ⟨D3.mpr (R1 e'),by simp [q]⟩;have z:(RK h H).get? b=none:=tQ (trk h H) hm;rw [z] at e;cases e
def Br (g h:F4)(L:P5):G0 (P5×Obj):=(G6 h.objs.size).filterMap λa=>if a=L\/(g.get? a).isSome=true then none else (h.get? a).map λo=>(a,o)
def rest (g h:F4)(L d:P5):G0 (P5×Obj):=(Br g h L).filter λp=>decide (p.1≠d)
structure Mod (K:G5)(mg:Str->P7 G1)(base:F4):Prop where
 kin:K.In base
 glob:base.Ns E3 mg
 blt: ∃mb,base.Ns kJ mb/\ ∀x:Str,x≠ "__name__" ->mb x=Q5 x
 nolimit:base.NoLimit
structure Cx where
 prog:S7
 w:N8
 K:G5
 mg:Str->P7 G1
 base:F4
 A:N3
 N:G0 Str
 s₀:G2
 H₀:Hp
 env:Env
 outer:G0 Env
 stack:G0 Env
 ex:G0 P5
 fn:Str->M7
 calm:M7
 pn:G0 (P5×Obj)
 xe:G1->G2->Prop
def frs (l:G0 Env):G0 P5:=l.filterMap (·.frame)
abbrev Cx.fs (X:Cx):G0 P5:=frs X.outer
def Vis (sc:U2)(x:Str):Prop:=sc.names.lookup x=some .local\/sc.names.lookup x=some .cell\/sc.names.lookup x=some .free
def Loc (sc:U2)(x:Str):Prop:=sc.names.lookup x=some .local\/sc.names.lookup x=some .cell
def TR (env:Env)(h:F4)(m:Str->P7 G1)(x:Str)(u:G1):Prop:=
 (env.kindOf x=some .local/\m x=some u)\/((env.kindOf x=some .cell\/env.kindOf x=some .free)/\ ∃c,env.cells.lookup x=some c/\h.IsCell c (some u))
structure Cx.Ok (X:Cx):Prop where
 mod:Mod X.K X.mg X.base
 kind:X.env.scope.kind= .function
 glob:X.env.globals=E3
 blt:X.env.builtins=kJ
 above:X.s₀.heap.objs.size<=X.env.locals
 inj: ∀x y c,X.env.cells.lookup x=some c->X.env.cells.lookup y=some c->x=y
 has: ∀x,(X.env.kindOf x=some .cell\/X.env.kindOf x=some .free)-> ∃c,X.env.cells.lookup x=some c
 cab: ∀x c,X.fn x=true->X.env.cells.lookup x=some c->X.s₀.heap.objs.size<=c
 hd:X.calm=true->X.A.handled=none
 frames:X.A.frames=some X.stack
 stk:X.stack=X.outer\/(X.stack=X.env::X.outer/\X.env.frame=some X.env.locals)
 exf: ∀b∈X.ex,b≠X.env.locals/\ ∀x c,X.env.cells.lookup x=some c->c≠b
 bs: ∀b o,X.base.get? b=some o->X.s₀.heap.get? b=some o/\X.H₀ b=none
 bsz:X.base.objs.size<=X.s₀.heap.objs.size
 noex: ∀b o,X.base.get? b=some o->b ∉ X.ex
 exfs: ∀b∈X.ex,b ∉ X.fs
 funs:X.s₀.heap.FunFrames X.base X.outer
 frf: ∀b∈X.fs,X.H₀ b=none
structure Inv (X:Cx)(pins:G0 (P5×Obj))(σ:G0 (P7 V))(H:Hp)(s:G2):Prop where
 ok:X.Ok
 os:s.os=X.s₀.os
 bare:iG s.gens
 base:Un X.fs X.ex X.H₀ H X.s₀.heap s.heap
 loc: ∃m,s.heap.Ns X.env.locals m/\ ∀ (i:G3) (x:Str) (v:V),X.N[i]? =some x->σ[i]? =some (some v)->Vis X.env.scope x-> ∃u,RelV v u/\TR X.env s.heap m x u
 cell: ∀x c,X.env.cells.lookup x=some c-> ∃v,s.heap.IsCell c v
 free:H X.env.locals=none
 freeC: ∀x c,X.env.cells.lookup x=some c->H c=none
 pin: ∀p∈X.pn++pins,s.heap.get? p.1=some p.2/\H p.1=none/\p.1≠X.env.locals/\p.1 ∉ X.fs/\ ∀v,p.2.data≠ .cell v
 hok:HOk X.prog X.w H s.heap
 len:σ.length=X.N.length
section
variable {X:Cx}{pins:G0 (P5×Obj)}{σ:G0 (P7 V)}{H H':Hp}{s:G2}{h':F4}
theorem Cx.Ok.nofr (ok:X.Ok){b:P5}{o:Obj}(e:X.base.get? b=some o):b ∉ X.fs:=λhb=>by
 have:=(ok.funs.mem hb).1;rw [e] at this;cases this
theorem Inv.bs (I:Inv X pins σ H s): ∀b o,X.base.get? b=some o->s.heap.get? b=some o/\H b=none:=λb o e=>
 ⟨I.base.keep b o (I.ok.bs b o e).1 (I.ok.bs b o e).2 (I.ok.nofr e) (I.ok.noex b o e),I.base.free b o (I.ok.bs b o e).1 (I.ok.bs b o e).2 (I.ok.noex b o e)⟩
theorem Inv.bk (I:Inv X pins σ H s): ∀b o,X.base.get? b=some o->s.heap.get? b=some o:=λb o e=>(I.bs b o e).1
theorem Inv.mod (I:Inv X pins σ H s):Mod X.K X.mg X.base:=I.ok.mod
theorem Inv.kIn (I:Inv X pins σ H s):X.K.In s.heap:=I.ok.mod.kin.keeps I.bk
theorem Inv.lt (I:Inv X pins σ H s):X.env.locals<s.heap.objs.size:=let ⟨_,hn,_⟩:=I.loc;hn.lt
theorem Inv.sz (I:Inv X pins σ H s):X.s₀.heap.objs.size<=s.heap.objs.size:=S4 I.ok.above (R9 I.lt)
theorem Inv.nofs (I:Inv X pins σ H s){a:P5}(h:s.heap.objs.size<=a):a ∉ X.fs:=λhb=>by
 obtain⟨_,o,ho,_⟩:=I.ok.funs.mem hb;exact absurd (N0 (R1 ho) (S4 I.sz h)) (C4 _)
theorem Inv.cne (I:Inv X pins σ H s): ∀x c,X.env.cells.lookup x=some c->c≠X.env.locals:=λx c e z=>by
 obtain⟨v,o,ho,hd⟩:=I.cell x c e;obtain⟨m,⟨o',es,ep,ho',hd',_⟩,_⟩:=I.loc;rw [z,ho'] at ho;cases ho;rw [hd'] at hd;cases hd
theorem Inv.funs (I:Inv X pins σ H s):s.heap.FunFrames X.base X.outer:=by
 have all: ∀ (l:G0 Env),(∀b∈frs l,b∈X.fs)->X.s₀.heap.FunFrames X.base l->s.heap.FunFrames X.base l:=by
  intro l
  induction l with
  |nil=>intro _ _;trivial
  |cons env r ih=>
   intro hs hl;obtain⟨hk,⟨L,o,hf,hn,ho,hd⟩,hr⟩:=hl;have hL:L∈X.fs:=hs L (by unfold frs;rw [cT,hf];exact P6);obtain⟨sl,e⟩:=I.base.slot L o ho (I.ok.frf L hL) hL λz=>I.ok.exfs L z hL
   exact⟨hk,⟨L,_,hf,hn,e,hd⟩,ih (λb hb=>hs b (by unfold frs;rw [cT,hf];exact R3 _ hb)) hr⟩
 exact all X.outer (λ_ hb=>hb) I.ok.funs
theorem Inv.stack (I:Inv X pins σ H s):s.heap.FunFrames X.base X.stack:=by
 rcases I.ok.stk with e|⟨e,hf⟩
 ·rw [e];exact I.funs
 ·rw [e];obtain⟨m,hn,_⟩:=I.loc;refine .cons (by rw [I.ok.kind];decide) hf hn ?_ I.funs;exact Heap.get?_none_of_le (S4 I.ok.bsz I.ok.above)
theorem Inv.stkSub (I:Inv X pins σ H s): ∀b∈frs X.stack,b∈X.env.locals::X.fs:=λb hb=>by
 rcases I.ok.stk with e|⟨e,hf⟩
 ·rw [e] at hb;exact R3 _ hb
 ·rw [e] at hb;unfold frs at hb;rw [cT,hf] at hb;exact hb
theorem Inv.stkFree (I:Inv X pins σ H s): ∀b∈frs X.stack,H b=none:=λb hb=>by
 rcases S5.mp (I.stkSub b hb) with e|hb
 ·rw [e];exact I.free
 ·obtain⟨_,o,ho,_⟩:=I.ok.funs.mem hb;exact I.base.free b o ho (I.ok.frf b hb) λz=>I.ok.exfs b z hb
variable {t':G3}
theorem Inv.step {g':S9 GenState}{d':Drawn}{ch:G0 P5}(I:Inv X pins σ H s)
 (hch: ∀b∈ch,(b∈X.ex\/X.s₀.heap.objs.size<=b)/\b≠X.env.locals/\(∀x c,X.env.cells.lookup x=some c->c≠b)/\ ∀p∈X.pn++pins,p.1≠b)
 (keep: ∀b o,b≠X.env.locals->b ∉ X.fs->b ∉ ch->s.heap.get? b=some o->H b=none->h'.get? b=some o)
 (slot: ∀b o,b≠X.env.locals->b∈X.fs->b ∉ ch->s.heap.get? b=some o->H b=none-> ∃sl,h'.get? b=some {o with slots:=sl})(free: ∀b o,b ∉ ch->s.heap.get? b=some o->H b=none->H' b=none)
 (there: ∀b o,b ∉ ch->s.heap.get? b=some o-> ∃o',h'.get? b=some o')
 (tups: ∀b xs,H b=some (.tup xs)->H' b=some (.tup xs))(frzs: ∀b o u,H b=some (.frz o u)->H' b=some (.frz o u))(tbls: ∀b ps,H b=some (.tbl ps)-> ∃more,H' b=some (.tbl (ps++more)))
 (ns: ∀m,s.heap.Ns X.env.locals m->h'.Ns X.env.locals m)(hok:HOk X.prog X.w H' h')(hg:iG g'):
 Inv X pins σ H' {s with heap:=h',gens:=g',drawn:=d',toks:=t'}:=by
 have neL: ∀b o,X.s₀.heap.get? b=some o->b≠X.env.locals:=λb o e=>T2 (N0 (R1 e) I.ok.above)
 have neC: ∀b o,X.s₀.heap.get? b=some o->b ∉ X.ex->b ∉ ch:=λb o e hx hb=>by
  rcases (hch b hb).1 with z|z
  ·exact hx z
  ·exact absurd (N0 (R1 e) z) (C4 _)
 have cellK: ∀x c,X.env.cells.lookup x=some c-> ∀v,s.heap.IsCell c v->h'.IsCell c v:=λx c e v ⟨o,ho,hd⟩=>by
  have nch:c ∉ ch:=λz=>(hch c z).2.2.1 x c e rfl
  by_cases hc:c∈X.fs
  ·obtain⟨sl,q⟩:=slot c o (I.cne x c e) hc nch ho (I.freeC x c e);exact⟨_,q,hd⟩
  ·exact⟨o,keep c o (I.cne x c e) hc nch ho (I.freeC x c e),hd⟩
 refine⟨I.ok,I.os,hg,⟨λb o e n hb hx=> ?_,λb o e n hb hx=> ?_,λb o e n hx=> ?_,λb o e hx=> ?_,λb xs e=>tups b xs (I.base.tups b xs e),λb o xs e=>frzs b o xs (I.base.frzs b o xs e),λb ps e=> ?_⟩,?_,λx c e=> ?_,?_,λx c e=> ?_,λp hp=> ?_,hok,I.len⟩
 ·exact keep b o (neL b o e) hb (neC b o e hx) (I.base.keep b o e n hb hx) (I.base.free b o e n hx)
 ·obtain⟨sl,e1⟩:=I.base.slot b o e n hb hx;obtain⟨sl',e2⟩:=slot b _ (neL b o e) hb (neC b o e hx) e1 (I.base.free b o e n hx);exact⟨sl',e2⟩
 ·obtain⟨o',e1⟩:=I.base.there b o e hx;exact free b o' (neC b o e hx) e1 (I.base.free b o e n hx)
 ·obtain⟨o',e1⟩:=I.base.there b o e hx;exact there b o' (neC b o e hx) e1
 ·obtain⟨m1,e1⟩:=I.base.tbls b ps e;obtain⟨m2,e2⟩:=tbls b _ e1;exact⟨m1++m2,by rw [e2,Array.append_assoc]⟩
 ·obtain⟨m,hn,hl⟩:=I.loc;refine⟨m,ns m hn,λi x v e1 e2 e3=> ?_⟩;obtain⟨u,r,l⟩:=hl i x v e1 e2 e3;refine⟨u,r,?_⟩;rcases l with l|⟨k,c,e,z⟩
  ·exact .inl l
  ·exact .inr ⟨k,c,e,cellK x c e _ z⟩
 ·obtain⟨v,z⟩:=I.cell x c e;exact⟨v,cellK x c e v z⟩
 ·obtain⟨m,⟨o,_,_,ho,_⟩,_⟩:=I.loc;exact free _ o (λz=>(hch _ z).2.1 rfl) ho I.free
 ·obtain⟨v,o,ho,hd⟩:=I.cell x c e;exact free c o (λz=>(hch c z).2.2.1 x c e rfl) ho (I.freeC x c e)
 ·obtain⟨e,n,ne,nf,d⟩:=I.pin p hp;have nch:p.1 ∉ ch:=λz=>(hch p.1 z).2.2.2 p hp rfl
  exact⟨keep p.1 p.2 ne nf nch e n,free p.1 p.2 nch e n,ne,nf,d⟩
theorem Inv.un (I:Inv X pins σ H s)(u:Un X.fs [] H H' s.heap h')(hok:HOk X.prog X.w H' h'):Inv X pins σ H' {s with heap:=h',toks:=t'}:=by
 obtain⟨m,⟨o,es,ep,ho,r⟩,_⟩:=id I.loc;obtain⟨sl,hL⟩:=u.any ho I.free (by simp);exact I.step (g':=s.gens) (d':=s.drawn) (ch:= []) (λ_ z=>nomatch z) (λb o _ hb _ e n=>u.keep b o e n hb (by simp)) (λb o _ hb _ e n=>u.slot b o e n hb (by simp)) (λb o _ e n=>u.free b o e n (by simp)) (λb o _ e=>u.there b o e (by simp)) u.tups u.frzs u.tbls (λm' hm=>by
  obtain⟨o',es',ep',ho',r'⟩:=hm;rw [ho] at ho';cases ho';exact⟨_,es',ep',hL,r'⟩) hok I.bare
theorem Inv.call {g':S9 GenState}{d':Drawn}{ch:G0 P5}(I:Inv X pins σ H s)(u:Un (frs X.stack) ch H H' s.heap h')(hok:HOk X.prog X.w H' h')(hg:iG g')
 (hch: ∀b∈ch,(b∈X.ex\/X.s₀.heap.objs.size<=b)/\b≠X.env.locals/\(∀x c,X.env.cells.lookup x=some c->c≠b)/\ ∀p∈X.pn++pins,p.1≠b):
 Inv X pins σ H' {s with heap:=h',gens:=g',drawn:=d',toks:=t'}:=by
 obtain⟨m,⟨o,es,ep,ho,r⟩,_⟩:=id I.loc;obtain⟨sl,hL⟩:=u.any ho I.free λz=>(hch _ z).2.1 rfl
 exact I.step (ch:=ch) hch (λb o hL hb hc e n=>u.keep b o e n (λz=>(S5.mp (I.stkSub b z)).elim hL hb) hc) (λb o _ _ hc e n=>u.any e n hc) (λb o hc e n=>u.free b o e n hc) (λb o hc e=>u.there b o e hc) u.tups u.frzs u.tbls (λm' hm=>by
  obtain⟨o',es',ep',ho',r'⟩:=hm;rw [ho] at ho';cases ho';exact⟨_,es',ep',hL,r'⟩) hok hg
theorem Inv.turned {it:P5}(I:Inv X pins σ H s)(k: ∀b o,b≠it->s.heap.get? b=some o->h'.get? b=some o)(hn:H it=none)(hL:it≠X.env.locals)
 (h1:it∈X.ex\/X.s₀.heap.objs.size<=it)(h2: ∀x c,X.env.cells.lookup x=some c->c≠it)(h3: ∀p∈X.pn++pins,p.1≠it):Inv X pins σ H {s with heap:=h',toks:=t'}:=by
 have nit: ∀b u,H b=some u->b≠it:=λb u e z=>by rw [z,hn] at e;cases e
 refine I.step (g':=s.gens) (d':=s.drawn) (ch:= [it]) (λb hb=> ?_) (λb o _ _ hc e _=>k b o (λz=>hc (by simp [z])) e) (λb o _ _ hc e _=>⟨o.slots,k b o (λz=>hc (by simp [z])) e⟩) (λ_ _ _ _ n=>n)
  (λb o hc e=>⟨o,k b o (λz=>hc (by simp [z])) e⟩) (λ_ _ e=>e) (λ_ _ _ e=>e) (λb ps e=>⟨#[],by rw [e];simp⟩) (λm hm=> ?_) (λb u e=> ?_) I.bare
 ·have e:b=it:=by simpa using hb
  subst e;exact⟨h1,hL,h2,h3⟩
 ·obtain⟨o,es,ep,ho,r⟩:=hm;exact⟨o,es,ep,k _ o (K9 hL) ho,r⟩
 ·refine(I.hok b u e).stay (λc v hc q=>k c v ?_ q) (λ_ q=>q) λ_ _ q=>q
  rcases hc with z|z
  ·rw [z];exact nit b u e
  ·exact nit c _ z
theorem Inv.tok (I:Inv X pins σ H s)(t:G3):Inv X pins σ H {s with toks:=t}:=I.un (h':=s.heap) (t':=t) Un.refl I.hok
theorem Inv.kept (I:Inv X pins σ H s)(k: ∀b u,s.heap.get? b=some u->h'.get? b=some u):Inv X pins σ H {s with heap:=h',toks:=t'}:=I.un (Un.kept k) (I.hok.kept k)
theorem Inv.laid {a:P5}{o:HO}(I:Inv X pins σ H s)(k: ∀b u,s.heap.get? b=some u->h'.get? b=some u)(hp:s.heap.objs.size<=a)(new:ObjOk X.prog X.w (upd H a o) h' a o):
 Inv X pins σ (upd H a o) {s with heap:=h',toks:=t'}:=I.un (Un.laid k hp (I.hok.fresh hp)) (I.hok.laid k hp new)
theorem Inv.write {x e:P5}{o:HO}(I:Inv X pins σ H s)(mu:Mut (H x))(he:e=x\/H e=some (.own x))(k: ∀b u,b≠e->s.heap.get? b=some u->h'.get? b=some u)(heo: ∃u,h'.get? e=some u)
 (new:ObjOk X.prog X.w (upd H x o) h' x o):Inv X pins σ (upd H x o) {s with heap:=h',toks:=t'}:=I.un (Un.write mu he k heo) (I.hok.write mu he k heo new)
theorem Inv.weak {IF:G0 (P7 V)}(I:Inv X pins σ H s)(hl:IF.length=σ.length)(w: ∀ (i:G3) v,IF[i]? =some (some v)->σ[i]? =some (some v)):Inv X pins IF H s:=
 ⟨I.ok,I.os,I.bare,I.base,let ⟨m,hn,hl'⟩:=I.loc;⟨m,hn,λi x v e1 e2 e3=>hl' i x v e1 (w i v e2) e3⟩,I.cell,I.free,I.freeC,I.pin,I.hok,hl.trans I.len⟩
theorem Inv.pins_of {pins':G0 (P5×Obj)}(I:Inv X pins σ H s)(h: ∀p∈pins',s.heap.get? p.1=some p.2/\H p.1=none/\p.1≠X.env.locals/\p.1 ∉ X.fs/\ ∀v,p.2.data≠ .cell v):Inv X pins' σ H s:=
 ⟨I.ok,I.os,I.bare,I.base,I.loc,I.cell,I.free,I.freeC,λp hp=>(R5.mp hp).elim (λz=>I.pin p (N4 _ z)) (h p),I.hok,I.len⟩
theorem XC {N:G0 Str}(hN:N.Nodup){i j:G3}{x:Str}(a:N[i]? =some x)(b:N[j]? =some x):i=j:=by
 obtain⟨h1,e1⟩:=D6.mp a;obtain⟨h2,e2⟩:=D6.mp b;exact(List.getElem_inj hN).mp (e1.trans e2.symm)
theorem GM {M:pM}{A:N3}{E:G1->G2->Prop}{i:G3}{x:Str}{v:V}{u:G1}{Q:Unit->G2->Prop}(I:Inv X pins σ H s)(hN:X.N.Nodup)(hi:X.N[i]? =some x)(hx:Loc X.env.scope x)(r:RelV v u)
 (h: ∀s',Inv X pins (σ.set i (some v)) H s'->(∃a,E4 a s.heap s'.heap/\(a=X.env.locals\/X.env.cells.lookup x=some a))->Q () s')(hf:X.fn x=true\/X.env.scope.names.lookup x=some .local:=by first|exact .inl rfl|exact .inr rfl|assumption):R7 M A (storeName X.env x u) Q E s:=by
 obtain⟨m,hn,hl⟩:=id I.loc;have hcls:(X.env.scope.kind== .class||(X.env.scope.kind== .module&&X.env.locals !=X.env.globals))=false:=by rw [I.ok.kind];rfl
 have KG:i<σ.length:=by rw [I.len];exact(D6.mp hi).1
 have cne:=I.cne;have tracked: ∀ {a:P5} {h':F4},(∃o,s.heap.get? a=some o/\H a=none)->E4 a s.heap h'->HOk X.prog X.w H h':=λ{a h'} ha hs b ob e=>by
  obtain⟨_,_,hfree⟩:=ha;refine(I.hok b ob e).stay (λc w' hc q=>(hs.2 c ?_).trans q) (λ_ q=>q) λ_ _ q=>q
  rintro rfl;rcases hc with rfl|hc
  ·rw [hfree] at e;cases e
  ·rw [hfree] at hc;cases hc
 rcases hx with hk|hk
 ·refine wpAny_storeName_local hk hn (λh' hn' hs=> ?_) hcls;obtain⟨oL,_,_,hoL,_⟩:=id hn;refine h _ ⟨I.ok,I.os,I.bare,⟨λb o e n hb hx=> ?_,λb o e n hb hx=> ?_,I.base.free,λb o e hx=> ?_,I.base.tups,I.base.frzs,I.base.tbls⟩,⟨_,hn',λj y v' e1 e2 e3=> ?_⟩,λy c e=> ?_,I.free,I.freeC,λp hp=> ?_,tracked ⟨oL,hoL,I.free⟩ hs,by simpa using I.len⟩ ⟨_,hs,.inl rfl⟩
  ·exact(hs.2 b (T2 (N0 (R1 e) I.ok.above))).trans (I.base.keep b o e n hb hx)
  ·obtain⟨sl,e1⟩:=I.base.slot b o e n hb hx;exact⟨sl,(hs.2 b (T2 (N0 (R1 e) I.ok.above))).trans e1⟩
  ·obtain⟨o',e1⟩:=I.base.there b o e hx;exact⟨o',(hs.2 b (T2 (N0 (R1 e) I.ok.above))).trans e1⟩
  ·by_cases hj:j=i
   ·subst hj;rw [hi] at e1;cases e1;rw [dW KG] at e2;cases e2;exact⟨u,r,.inl ⟨hk,by simp⟩⟩
   ·rw [K3 (K9 hj)] at e2;obtain⟨u',r',q⟩:=hl j y v' e1 e2 e3;refine⟨u',r',?_⟩;rcases q with ⟨k,e⟩|⟨k,c,e,z⟩
    ·refine .inl ⟨k,?_⟩;have:y≠x:=λe=>hj (XC hN e1 (e ▸ hi))
     simp [this,e]
    ·exact .inr ⟨k,c,e,z.sameBut hs (cne y c e)⟩
  ·obtain⟨w',z⟩:=I.cell y c e;exact⟨w',z.sameBut hs (cne y c e)⟩
  ·obtain⟨e,n,ne,nf,d⟩:=I.pin p hp;exact⟨(hs.2 p.1 ne).trans e,n,ne,nf,d⟩
 ·have hfn:X.fn x=true:=by
   rcases hf with z|z
   ·exact z
   ·rw [z] at hk;cases hk
  obtain⟨c,hc⟩:=I.ok.has x (.inl hk);obtain⟨w',z⟩:=I.cell x c hc;refine wpAny_storeName_cell I.ok.kind hk hc z (λh' hc' hs=> ?_);obtain⟨oc,hoc,hocd⟩:=id z;refine h {s with heap:=h'} ⟨I.ok,I.os,I.bare,⟨λb o e n hb hx=> ?_,λb o e n hb hx=> ?_,I.base.free,λb o e hx=> ?_,I.base.tups,I.base.frzs,I.base.tbls⟩,⟨m,hn.sameBut hs (K9 (cne x c hc)),λj y v' e1 e2 e3=> ?_⟩,λy c' e=> ?_,I.free,I.freeC,λp hp=> ?_,tracked ⟨oc,hoc,I.freeC x c hc⟩ hs,by simpa using I.len⟩ ⟨c,hs,.inr hc⟩
  ·exact(hs.2 b (T2 (N0 (R1 e) (I.ok.cab x c hfn hc)))).trans (I.base.keep b o e n hb hx)
  ·obtain⟨sl,e1⟩:=I.base.slot b o e n hb hx;exact⟨sl,(hs.2 b (T2 (N0 (R1 e) (I.ok.cab x c hfn hc)))).trans e1⟩
  ·obtain⟨o',e1⟩:=I.base.there b o e hx;exact⟨o',(hs.2 b (T2 (N0 (R1 e) (I.ok.cab x c hfn hc)))).trans e1⟩
  ·by_cases hj:j=i
   ·subst hj;rw [hi] at e1;cases e1;rw [dW KG] at e2;cases e2;exact⟨u,r,.inr ⟨.inl hk,c,hc,hc'⟩⟩
   ·rw [K3 (K9 hj)] at e2;obtain⟨u',r',q⟩:=hl j y v' e1 e2 e3;refine⟨u',r',?_⟩;rcases q with q|⟨k,c',e,z'⟩
    ·exact .inl q
    ·refine .inr ⟨k,c',e,z'.sameBut hs ?_⟩;rintro rfl;exact hj (XC hN e1 (I.ok.inj _ _ _ e hc ▸ hi))
  ·by_cases hcc:c'=c
   ·subst hcc;exact⟨_,hc'⟩
   ·obtain⟨w2,z2⟩:=I.cell y c' e;exact⟨w2,z2.sameBut hs hcc⟩
  ·obtain⟨e,n,ne,nf,d⟩:=I.pin p hp;refine⟨(hs.2 p.1 ?_).trans e,n,ne,nf,d⟩;intro q;rw [q,hoc] at e;have q':oc=p.2:=A2 e;exact d w' (by rw [<-q'];exact hocd)
theorem Zl {M:pM}{A:N3}{E:G1->G2->Prop}{i:G3}{x:Str}{v:V}{u:G1}{Q:Unit->G2->Prop}(I:Inv X pins σ H s)(hN:X.N.Nodup)(hi:X.N[i]? =some x)(hx:Loc X.env.scope x)(r:RelV v u)
 (h: ∀s',Inv X pins (σ.set i (some v)) H s'->Q () s')(hf:X.fn x=true\/X.env.scope.names.lookup x=some .local:=by first|exact .inl rfl|exact .inr rfl|assumption):R7 M A (storeName X.env x u) Q E s:=
 GM I hN hi hx r (λs' I' _=>h s' I') hf
theorem Inv.call' {s':G2}{ch:G0 P5}(I:Inv X pins σ H s)(ho:s'.os=s.os)(u:Un (frs X.stack) ch H H' s.heap s'.heap)(hok:HOk X.prog X.w H' s'.heap)(hg:iG s'.gens)
 (hch: ∀b∈ch,(b∈X.ex\/X.s₀.heap.objs.size<=b)/\b≠X.env.locals/\(∀x c,X.env.cells.lookup x=some c->c≠b)/\ ∀p∈X.pn++pins,p.1≠b):Inv X pins σ H' s':=by
 obtain⟨h',g',d',t',o'⟩:=s';have e:o'=s.os:=ho;subst e;exact I.call (g':=g') (t':=t') (d':=d') u hok hg hch
end
abbrev XK:=G1->P7 P5->Hp->Prop
abbrev St:=G0 (P7 V)
abbrev VK:=V->Hp->Prop
abbrev TE:=St->Hp->VK->Prop
abbrev TT:=St->Hp->(M7->Hp->Prop)->Prop
abbrev TA:=St->Hp->(G0 V->Hp->Prop)->Prop
structure Ends where
 nx:St->Hp->Prop
 rt:VK
 bk:St->Hp->Prop:=λ_ _=>False
 ct:St->Hp->Prop:=λ_ _=>False
abbrev TS:=Ends->St->Hp->Prop
def EP (X:Cx)(pins:G0 (P5×Obj))(σ:St)(Q:VK)(u:G1)(s':G2):Prop:= ∃v H',Inv X pins σ H' s'/\RelV v u/\Q v H'
def TP (X:Cx)(pins:G0 (P5×Obj))(σ:St)(Q:M7->Hp->Prop)(b:M7)(s':G2):Prop:= ∃H',Inv X pins σ H' s'/\Q b H'
def AP (X:Cx)(pins:G0 (P5×Obj))(σ:St)(Q:G0 V->Hp->Prop)(us:G0 G1)(s':G2):Prop:= ∃vs H',Inv X pins σ H' s'/\Vals vs us/\Q vs H'
def SP (X:Cx)(pins:G0 (P5×Obj))(D:Ends)(f:Flow)(s':G2):Prop:=
 match f with
 | .next=> ∃IF H',Inv X pins IF H' s'/\D.nx IF H'
 | .brk=> ∃IF H',Inv X pins IF H' s'/\D.bk IF H'
 | .cont=> ∃IF H',Inv X pins IF H' s'/\D.ct IF H'
 | .ret u=> ∃v IF H',Inv X pins IF H' s'/\RelV v u/\D.rt v H'
def PE (X:Cx)(e:M5)(t:TE):Prop:=
 ∀ (pins:G0 (P5×Obj)) (s:G2) (σ:St) (H:Hp) (Q:VK),Inv X pins σ H s->t σ H Q->R7 (S2 X.prog X.w) X.A (E5 e X.env) (EP X pins σ Q) X.xe s
def PT (X:Cx)(e:M5)(t:TT):Prop:=
 ∀ (pins:G0 (P5×Obj)) (s:G2) (σ:St) (H:Hp) (Q:M7->Hp->Prop),Inv X pins σ H s->t σ H Q->R7 (S2 X.prog X.w) X.A (isTrue e X.env (E5 e X.env)) (TP X pins σ Q) X.xe s
def PW (X:Cx)(e:M5)(t:TT):Prop:=
 ∀ (whole:Sem G1) (pins:G0 (P5×Obj)) (s:G2) (σ:St) (H:Hp) (Q:M7->Hp->Prop),Inv X pins σ H s->t σ H Q->R7 (S2 X.prog X.w) X.A (isTrue e X.env whole) (TP X pins σ Q) X.xe s
variable {X:Cx}
theorem PW.pt {e:M5}{t:TT}(h:PW X e t):PT X e t:=h _
def PA (X:Cx)(es:G0 M5)(t:TA):Prop:=
 ∀ (pos:Pos) (pins:G0 (P5×Obj)) (s:G2) (σ:St) (H:Hp) (Q:G0 V->Hp->Prop),Inv X pins σ H s->t σ H Q->R7 (S2 X.prog X.w) X.A (spliced (K6 pos (R4 es X.env))) (AP X pins σ Q) X.xe s
def PS (X:Cx)(st:J9)(t:TS):Prop:=
 ∀ (pins:G0 (P5×Obj)) (s:G2) (σ:St) (H:Hp) (D:Ends),Inv X pins σ H s->t D σ H->R7 (S2 X.prog X.w) X.A (exec st X.env) (SP X pins D) X.xe s
def PSs (X:Cx)(st:G0 J9)(t:TS):Prop:=
 ∀ (pins:G0 (P5×Obj)) (s:G2) (σ:St) (H:Hp) (D:Ends),Inv X pins σ H s->t D σ H->R7 (S2 X.prog X.w) X.A (execs st X.env) (SP X pins D) X.xe s
variable {A:N3}{s:G2}
theorem thn {α:Type}{t:Sem α}{Q Q':α->G2->Prop}{M:pM}{E:G1->G2->Prop}(h:R7 M A t Q E s)(hQ: ∀a s,Q a s->Q' a s):R7 M A t Q' E s:=M9 h hQ λ_ _ x=>x
section
variable {X:Cx}
def SV (i:G3):TE:=λσ H Q=> ∃v,σ[i]? =some (some v)/\Q v H
def tC (v:V):TE:=λ_ H Q=>Q v H
variable {x:Str}
theorem Le {i:G3}{pos:Pos}(hN:X.N[i]? =some x)(hv:Vis X.env.scope x)(hd:(x==("__debug__" :Str))=false:=by decide)(hcd:(x==("__classdict__" :Str))=false:=by decide):PE X (.Name x pos) (SV i):=by
 intro pins s σ H Q I h;obtain⟨v,e,h⟩:=h;obtain⟨m,hn,hl⟩:=I.loc;obtain⟨u,r,l⟩:=hl i x v hN e hv;have fin:EP X pins σ Q u s:=⟨v,H,I,r,h⟩;rcases l with ⟨hk,hm⟩|⟨hk,c,hc,hcell⟩
 ·exact qO (wpAny_loadName_local I.ok.kind hk hn hm fin) hd
 ·rcases hk with hk|hk
  ·exact qO (wpAny_loadName_cell I.ok.kind hk hc hcell fin) hd
  ·exact qO (wpAny_loadName_free I.ok.kind hk hc hcell fin hcd) hd
theorem pe_int {i j pos}:PE X (.Constant (.int i) j pos) (tC (.int i)):=λ_ _ _ H _ I h=>wpAny_Constant_int ⟨.int i,H,I.tok _,⟨_,rfl⟩,h⟩
theorem pe_bl {b j pos}:PE X (.Constant (.bool b) j pos) (tC (.bl b)):=λ_ _ _ H _ I h=>Constant_bool ⟨.bl b,H,I,rfl,h⟩
theorem pe_non {j pos}:PE X (.Constant .none j pos) (tC .non):=λ_ _ _ H _ I h=>Constant_none ⟨.non,H,I,rfl,h⟩
def Gl (X:Cx)(x:Str):Prop:=X.env.kindOf x=some .globalImplicit
variable {u:G1}
theorem GN {E:G1->G2->Prop}{pins:G0 (P5×Obj)}{s:G2}{σ:St}{H:Hp}{pos:Pos}{Q:G1->G2->Prop}(I:Inv X pins σ H s)(hg:Gl X x)(hm:X.mg x=some u)(h:Q u s)
 (hd:(x==("__debug__" :Str))=false:=by decide):R7 (S2 X.prog X.w) X.A (E5 (.Name x pos) X.env) Q E s:=
 gM I.ok.kind hg (Calls.loadGlobal_global (by rw [I.ok.glob];exact I.mod.glob.keeps I.bk) hm h) hd
theorem WI {E:G1->G2->Prop}{pins:G0 (P5×Obj)}{s:G2}{σ:St}{H:Hp}{pos:Pos}{Q:G1->G2->Prop}(I:Inv X pins σ H s)(hg:Gl X x)(hm:X.mg x=none)(hv:Q5 x=some u)(h:Q u s)
 (hn:x≠ "__name__" :=by decide)(hd:(x==("__debug__" :Str))=false:=by decide):R7 (S2 X.prog X.w) X.A (E5 (.Name x pos) X.env) Q E s:=by
 obtain⟨mb,h1,h2⟩:=I.mod.blt;exact gM I.ok.kind hg (Calls.loadGlobal_builtin (by rw [I.ok.glob];exact I.mod.glob.keeps I.bk) hm (by rw [I.ok.blt];exact h1.keeps I.bk) ((h2 x hn).trans hv) h) hd
theorem Bs {v:V}{pos:Pos}(hg:Gl X x)(hm:X.mg x=some u)(r:RelV v u)(hd:(x==("__debug__" :Str))=false:=by decide):PE X (.Name x pos) (tC v):=
 λ_ _ _ H _ I h=>GN I hg hm ⟨v,H,I,r,h⟩ hd
theorem Bv {v:V}{pos:Pos}(hg:Gl X x)(hm:X.mg x=none)(hv:Q5 x=some u)(r:RelV v u)(hn:x≠ "__name__" :=by decide)(hd:(x==("__debug__" :Str))=false:=by decide):PE X (.Name x pos) (tC v):=
 λ_ _ _ H _ I h=>WI I hg hm hv ⟨v,H,I,r,h⟩ hn hd
variable {a b:M5}{ta tb:TE}{pos:Pos}
def tB (t:TE):TT:=λσ H Q=>t σ H λx H1=> ∃c,x= .bl c/\Q c H1
theorem Lf {e:M5}{t:TE}(h:PE X e t)(he: ∀whole,isTrue e X.env whole=(do let v <-whole;iH e.pos;aK [v] (uW v)):=by intro _;rfl):PT X e (tB t):=by
 intro pins s σ H Q I hw;refine isTrue_plain (thn (h pins s σ H _ I hw) λv s1 ⟨x,H1,I1,r1,q1⟩=> ?_) (he _);obtain⟨d,rfl,q⟩:=q1;cases r1;exact E1 ⟨H1,I1,q⟩
variable {tA tB':TT}{rest:G0 M5}
def tOr (t u:TT):TT:=λσ H Q=>t σ H λc H1=>if c=true then Q true H1 else u σ H1 Q
def SW (t:TT):TT:=λσ H Q=>t σ H λc H1=>Q (!c) H1
theorem Lg (ha:PT X a tA):PW X (.BoolOp .Or [a] pos) tA:=by
 intro wh pins s σ H Q I h;refine isTrue_or (thn (ha pins s σ H Q I h) λc s1 e=> ?_);cases c with
 |false=>exact isTrue_or_nil e
 |true=>exact e
theorem Eo (ha:PT X a tA)(hb:PW X (.BoolOp .Or (b::rest) pos) tB'):PW X (.BoolOp .Or (a::b::rest) pos) (tOr tA tB'):=by
 intro wh pins s σ H Q I h;refine isTrue_or (thn (ha pins s σ H _ I h) λc s1 ⟨H1,I1,q1⟩=> ?_);cases c with
 |true=>exact⟨H1,I1,q1⟩
 |false=>exact hb wh pins s1 σ H1 Q I1 q1
theorem Lh (ha:PT X a tA):PT X (.UnaryOp .Not a pos) (SW tA):=by
 intro pins s σ H Q I h;exact isTrue_not (ha pins s σ H (λc H1=>Q (!c) H1) I h)
def Li (ta tb:TE):TE:=λσ H Q=>ta σ H λx H1=> ∃c,x= .bl c/\if c=true then tb σ H1 Q else Q (.bl false) H1
def SX (ta tb:TE):TE:=λσ H Q=>ta σ H λx H1=> ∃c,x= .bl c/\if c=true then Q (.bl true) H1 else tb σ H1 Q
def Lj (ta:TE):TE:=λσ H Q=>ta σ H λx H1=> ∃c,x= .bl c/\Q (.bl (!c)) H1
theorem Lk {op}{t:TE}(h:PE X a t):PE X (.BoolOp op [a] pos) t:=λpins s σ H Q I hw=>BoolOp_one (h pins s σ H Q I hw)
theorem Ll (ha:PE X a ta)(hb:PE X (.BoolOp .And (b::rest) pos) tb):PE X (.BoolOp .And (a::b::rest) pos) (Li ta tb):=by
 intro pins s σ H Q I h;refine BoolOp_and (thn (ha pins s σ H _ I h) λv s1 ⟨x,H1,I1,r1,q1⟩=> ?_);obtain⟨c,rfl,q1⟩:=q1;cases r1;refine E1 ?_;cases c with
 |true=>exact hb pins s1 σ H1 Q I1 q1
 |false=>exact⟨.bl false,H1,I1,rfl,q1⟩
theorem Ep (ha:PE X a ta)(hb:PE X (.BoolOp .Or (b::rest) pos) tb):PE X (.BoolOp .Or (a::b::rest) pos) (SX ta tb):=by
 intro pins s σ H Q I h;refine BoolOp_or (thn (ha pins s σ H _ I h) λv s1 ⟨x,H1,I1,r1,q1⟩=> ?_);obtain⟨c,rfl,q1⟩:=q1;cases r1;refine E1 ?_;cases c with
 |false=>exact hb pins s1 σ H1 Q I1 q1
 |true=>exact⟨.bl true,H1,I1,rfl,q1⟩
theorem Lm (ha:PE X a ta):PE X (.UnaryOp .Not a pos) (Lj ta):=by
 intro pins s σ H Q I h;refine UnaryOp_ (thn (ha pins s σ H _ I h) λv s1 ⟨x,H1,I1,r1,q1⟩=> ?_);obtain⟨c,rfl,q1⟩:=q1;cases r1;exact not_of (E1 ⟨.bl (!c),H1,I1,rfl,q1⟩)
def tIf (t:TT)(ta tb:TE):TE:=λσ H Q=>t σ H λc H1=>if c=true then ta σ H1 Q else tb σ H1 Q
theorem RL {c:M5}(hc:PT X c tA)(ha:PE X a ta)(hb:PE X b tb):PE X (.IfExp c a b pos) (tIf tA ta tb):=by
 intro pins s σ H Q I h;refine wpAny_IfExp (thn (hc pins s σ H _ I h) λd s1 ⟨H1,I1,q1⟩=> ?_);cases d with
 |true=>exact ha pins s1 σ H1 Q I1 q1
 |false=>exact hb pins s1 σ H1 Q I1 q1
end
def SqL (K:G5)(H:Hp)(a:P5)(xs:G0 V):Prop:=
 Rd H a (.lst xs)\/
  ∃ (o:Obj) (its:S9 G1) (n:G3),K.lookup a=some o/\o.cls= .type "list" /\o.dict=none/\o.data= .seq its n/\its.size<=sizeLine/\Vals xs its.toList
def SqT (K:G5)(H:Hp)(a:P5)(xs:G0 V):Prop:=
 Rd H a (.tup xs)\/
  ∃ (o:Obj) (its:S9 G1) (n:G3),K.lookup a=some o/\o.cls= .type "tuple" /\o.data= .seq its n/\its.size<=sizeLine/\Vals xs its.toList
def TU:G1->P7 V
 | .none=>some .non
 | .bool b=>some (.bl b)
 | .int i _=>some (.int i)
 | .str x _=>some (.str x)
 | .bytes b _=>some (.byt b)
 | .float b _=>some (.flt b)
 | .ref a=>some (.ref a)
 | .type n=>some (.ty n)
 |_=>none
theorem RelV.abs {x:V}(r:RelV x u):TU u=some x:=by
 cases x with
 |non=>cases r;rfl
 |bl _=>cases r;rfl
 |int _=>obtain⟨t,rfl⟩:=r;rfl
 |str _=>obtain⟨t,rfl⟩:=r;rfl
 |byt _=>obtain⟨t,rfl⟩:=r;rfl
 |flt _=>obtain⟨t,rfl⟩:=r;rfl
 |ref _=>cases r;rfl
 |ty _=>cases r;rfl
theorem RelV.inj {x y:V}(r:RelV x u)(q:RelV y u):x=y:=A2 (r.abs.symm.trans q.abs)
theorem Vals.inj: ∀ {xs ys:G0 V} {us:G0 G1},Vals xs us->Vals ys us->xs=ys
 |_,_,_,.nil,.nil=>rfl
 |_,_,_,.cons r t,.cons r' t'=>by rw [r.inj r',Vals.inj t t']
section
variable {X:Cx}{pins:G0 (P5×Obj)}{σ:St}{H:Hp}{s:G2}{a:P5}{xs ys:G0 V}
theorem SqL.of {K:G5}(h:H a=some (.lst xs)):SqL K H a xs:= .inl (.inl h)
theorem SqT.of {K:G5}(h:H a=some (.tup xs)):SqT K H a xs:= .inl (.inl h)
theorem Inv.list (I:Inv X pins σ H s)(h:SqL X.K H a xs): ∃its:G0 G1,Vals xs its/\PlainL s.heap a its.toArray/\xs.length<=sizeLine:=by
 rcases h with h|⟨o,its,n,hk,hc,hd,hs,hz,r⟩
 ·obtain⟨z,its,n,r,e⟩:=h.ok I.hok;exact⟨its,r,⟨_,n,e,rfl,rfl,rfl⟩,z⟩
 ·refine⟨its.toList,r,⟨o,n,I.kIn a o hk,hc,hd,by simpa using hs⟩,?_⟩;have e:=r.length;simp only [P9] at e;omega
theorem Inv.tuple (I:Inv X pins σ H s)(h:SqT X.K H a xs): ∃its:G0 G1,Vals xs its/\m9 s.heap a its.toArray/\xs.length<=sizeLine:=by
 rcases h with h|⟨o,its,n,hk,hc,hs,hz,r⟩
 ·obtain⟨z,its,r,p⟩:=h.ok I.hok;exact⟨its,r,p.tup,z⟩
 ·refine⟨its.toList,r,⟨o,I.kIn a o hk,hc,n,by simpa using hs⟩,?_⟩;have e:=r.length;simp only [P9] at e;omega
theorem Inv.list_inj (I:Inv X pins σ H s)(h:SqL X.K H a xs)(h':SqL X.K H a ys):xs=ys:=by
 obtain⟨its,r,⟨o,n,e,_,_,d⟩,_⟩:=I.list h;obtain⟨its',r',⟨o',n',e',_,_,d'⟩,_⟩:=I.list h';rw [e] at e';cases e';rw [d] at d';injection d' with d1 _
 have:its=its':=by simpa using congrArg sU d1
 subst this;exact r.inj r'
theorem Inv.tuple_inj (I:Inv X pins σ H s)(h:SqT X.K H a xs)(h':SqT X.K H a ys):xs=ys:=by
 obtain⟨its,r,⟨o,e,_,n,d⟩,_⟩:=I.tuple h;obtain⟨its',r',⟨o',e',_,n',d'⟩,_⟩:=I.tuple h';rw [e] at e';cases e';rw [d] at d';injection d' with d1 _
 have:its=its':=by simpa using congrArg sU d1
 subst this;exact r.inj r'
end
abbrev Cx.wish (X:Cx)(E:G1->G2->Prop):Cx:= {X with xe:=E}
abbrev Cx.nox (X:Cx):Cx:=X.wish λ_ _=>False
theorem Cx.Ok.wish (ok:X.Ok)(E:G1->G2->Prop):(X.wish E).Ok:=
 ⟨ok.mod,ok.kind,ok.glob,ok.blt,ok.above,ok.inj,ok.has,ok.cab,ok.hd,ok.frames,ok.stk,ok.exf,ok.bs,ok.bsz,ok.noex,ok.exfs,ok.funs,ok.frf⟩
theorem Cx.Ok.unwish {E:G1->G2->Prop}(ok:(X.wish E).Ok):X.Ok:=
 ⟨ok.mod,ok.kind,ok.glob,ok.blt,ok.above,ok.inj,ok.has,ok.cab,ok.hd,ok.frames,ok.stk,ok.exf,ok.bs,ok.bsz,ok.noex,ok.exfs,ok.funs,ok.frf⟩
section
variable {X:Cx}{pins:G0 (P5×Obj)}{σ:St}{H:Hp}{s:G2}{E:G1->G2->Prop}
theorem Inv.wish (I:Inv X pins σ H s)(E:G1->G2->Prop):Inv (X.wish E) pins σ H s:=⟨I.ok.wish E,I.os,I.bare,I.base,I.loc,I.cell,I.free,I.freeC,I.pin,I.hok,I.len⟩
theorem Inv.unwish (I:Inv (X.wish E) pins σ H s):Inv X pins σ H s:=⟨I.ok.unwish,I.os,I.bare,I.base,I.loc,I.cell,I.free,I.freeC,I.pin,I.hok,I.len⟩
theorem SP.unwish {D:Ends}{f:Flow}{s':G2}(h:SP (X.wish E) pins D f s'):SP X pins D f s':=by
 cases f with
 |next=>obtain⟨IF,H',I,q⟩:=h;exact⟨IF,H',I.unwish,q⟩
 |brk=>obtain⟨IF,H',I,q⟩:=h;exact⟨IF,H',I.unwish,q⟩
 |cont=>obtain⟨IF,H',I,q⟩:=h;exact⟨IF,H',I.unwish,q⟩
 |ret u=>obtain⟨v,IF,H',I,r,q⟩:=h;exact⟨v,IF,H',I.unwish,r,q⟩
theorem PSs.nox {st:G0 J9}{t:TS}(h:PSs X.nox st t):PSs X st t:=λpins s σ H D I hw=>
 M9 (h pins s σ H D (I.wish _) hw) (λ_ _ q=>q.unwish) λ_ _ z=>False.elim z
end
section
variable {X:Cx}{st:J9}{rest:G0 J9}{t u:TS}{e:M5}{te:TE}{pos:Pos}
def Ln:TS:=λD σ H=>D.nx σ H
def SY (t u:TS):TS:=λD σ H=>t {D with nx:=u D} σ H
theorem pss_nil:PSs X [] Ln:=λ_ _ σ H _ I h=>gA ⟨σ,H,I,h⟩
theorem RM (h1:PS X st t)(h2:PSs X rest u):PSs X (st::rest) (SY t u):=by
 intro pins s σ H D I h;refine o7 (thn (h1 pins s σ H {D with nx:=u D} I h) λf s1 q=> ?_);cases f with
 |next=>
  obtain⟨IF,H',I',q⟩:=q;exact h2 pins s1 IF H' D I' q
 |ret v=>exact q
 |brk=>exact q
 |cont=>exact q
theorem Bw (h1:PS X st t):PSs X [st] t:=by
 intro pins s σ H D I h;refine o7 (thn (h1 pins s σ H D I h) λf s1 q=> ?_);cases f with
 |next=>exact gA q
 |ret v=>exact q
 |brk=>exact q
 |cont=>exact q
theorem Inv.quiet {pins:G0 (P5×Obj)}{σ:St}{H:Hp}{s:G2}(I:Inv X pins σ H s):tR X.env=false:=by simp [tR,I.ok.kind]
def Lo (te:TE):TS:=λD σ H=>te σ H λ_ H1=>D.nx σ H1
theorem Bx (he:PE X e te)(hs:Y6 e none pos.line X.env=pure false:=by rfl):PS X (.Expr e pos) (Lo te):=by
 intro pins s σ H D I h;exact wpAny_Expr_any (thn (he pins s σ H _ I h) λv s1 ⟨x,H1,I1,r1,q1⟩=>⟨σ,H1,I1,q1⟩) I.quiet hs
def SZ (te:TE):TS:=λD σ H=>te σ H D.rt
theorem Lp (he:PE X e te):PS X (.Return (some e) pos) (SZ te):=by
 intro pins s σ H D I h;exact wpAny_Return_some (thn (he pins s σ H _ I h) λv s1 ⟨x,H1,I1,r1,q1⟩=>⟨x,σ,H1,I1,r1,q1⟩)
def Ta (c:TT)(t u:TS):TS:=λD σ H=>c σ H λb H1=>if b=true then t D σ H1 else u D σ H1
theorem Er {c:M5}{a b:G0 J9}{tc:TT}(hc:PT X c tc)(ha:PSs X a t)(hb:PSs X b u):PS X (.If c a b pos) (Ta tc t u):=by
 intro pins s σ H D I h;refine wpAny_If (thn (hc pins s σ H _ I h) λd s1 ⟨H1,I1,q1⟩=> ?_);cases d with
 |true=>exact ha pins s1 σ H1 D I1 q1
 |false=>exact hb pins s1 σ H1 D I1 q1
end
abbrev TG:=V->St->Hp->(St->Hp->Prop)->Prop
abbrev TGs:=G0 V->St->Hp->(St->Hp->Prop)->Prop
def PG (X:Cx)(target:M5)(t:TG):Prop:=
 ∀ (pins:G0 (P5×Obj)) (s:G2) (σ:St) (H:Hp) (v:V) (u:G1) (Q:St->Hp->Prop),Inv X pins σ H s->RelV v u->t v σ H Q->
  R7 (S2 X.prog X.w) X.A (fJ target X.env u) (λ_ s'=> ∃IF H',Inv X pins IF H' s'/\Q IF H') X.xe s
def PGs (X:Cx)(ts:G0 M5)(t:TGs):Prop:=
 ∀ (pins:G0 (P5×Obj)) (s:G2) (σ:St) (H:Hp) (vs:G0 V) (us:G0 G1) (Q:St->Hp->Prop),Inv X pins σ H s->Vals vs us->t vs σ H Q->
  R7 (S2 X.prog X.w) X.A (nA ((dG ts X.env).map (·.2)) us) (λ_ s'=> ∃IF H',Inv X pins IF H' s'/\Q IF H') X.xe s
abbrev Es:=V->V->V->Hp->(Hp->Prop)->Prop
def Tb (X:Cx)(t:Es):Prop:=
 ∀ (pins:G0 (P5×Obj)) (s:G2) (σ:St) (H:Hp) (o i v:V) (ov iv u:G1) (Q:Hp->Prop),Inv X pins σ H s->RelV o ov->RelV i iv->RelV v u->t o i v H Q->
  R7 (S2 X.prog X.w) X.A (qJ ov iv u) (λ_ s'=> ∃H',Inv X pins σ H' s'/\Q H') X.xe s
section
variable {X:Cx}{pos:Pos}
def wJ (i:G3):TG:=λv σ H Q=>Q (σ.set i (some v)) H
theorem vg {i:G3}{x:Str}(hN:X.N.Nodup)(hi:X.N[i]? =some x)(hx:Loc X.env.scope x)(hf:X.fn x=true\/X.env.scope.names.lookup x=some .local:=by first|exact .inl rfl|exact .inr rfl|assumption):PG X (.Name x pos) (wJ i):=by
 intro pins s σ H v u Q I r h;exact wpAny_assign_Name (Zl I hN hi hx r (λs' I'=>⟨_,H,I',h⟩) hf)
def Et:TGs:=λvs σ H Q=>vs= []/\Q σ H
def GO (t:TG)(u:TGs):TGs:=λvs σ H Q=> ∃v r,vs=v::r/\t v σ H λIF H'=>u r IF H' Q
theorem GP:PGs X [] Et:=by
 intro pins s σ H vs us Q I r h;obtain⟨e,h⟩:=h;subst e;cases r;exact nZ ⟨σ,H,I,h⟩
theorem Zm {e:M5}{es:G0 M5}{t:TG}{u:TGs}(h1:PG X e t)(h2:PGs X es u)
 (hs:(dG (e::es) X.env).map (·.2)=fJ e X.env::(dG es X.env).map (·.2):=by rfl):PGs X (e::es) (GO t u):=by
 intro pins s σ H vs us Q I r h;obtain⟨v,vr,e1,h⟩:=h;subst e1;cases r with
 |cons r rr=>
  rw [hs];refine gO (thn (h1 pins s σ H _ _ _ I r h) λ_ s1 ⟨IS,H1,I1,q1⟩=> ?_);exact h2 pins s1 IS H1 _ _ Q I1 rr q1
def Eu (K:G5)(n:G3)(t:TGs):TG:=λv σ H Q=> ∃a xs,v= .ref a/\SqT K H a xs/\xs.length=n/\t xs σ H Q
theorem NE {es:G0 M5}{k:G3}{t:TGs}{n:G3}(hc:X.calm=true)(h:PGs X es t)
 (hn:(dG es X.env).length=n:=by rfl)(hst:(dG es X.env).findIdx? (·.1)=none:=by rfl):PG X (.Tuple es k pos) (Eu X.K n t):=by
 intro pins s σ H v u Q I r hw;obtain⟨a,xs,e1,hq,hl,hw⟩:=hw;subst e1;cases r;obtain⟨its,rv,ht,hz⟩:=I.tuple hq;refine assign_Tuple_tuple (I.ok.hd hc) ht (by simp [hn,<-hl,rv.length]) hst λh' hx=> ?_
 have I1:Inv X pins σ H {s with heap:=h'}:=I.kept (t':=s.toks) λb o e=>hx b o (T2 (R1 e)) e
 exact h pins _ σ H xs _ Q I1 (by simpa using rv) hw
def TV (to ti:TE)(t:Es):TG:=λv σ H Q=>to σ H λo H1=>ti σ H1 λi H2=>t o i v H2 λH3=>Q σ H3
theorem Lq {o i:M5}{to ti:TE}{t:Es}(ho:PE X o to)(hi:PE X i ti)(hs:Tb X t)
 (ha: ∀v,fJ (.Subscript o i pos) X.env v=(do
  let ov <-aK [v] (E5 o X.env)
  let iv <-aK [v,ov] (E5 i X.env)
  iH pos
  aK [v,ov,iv] (qJ ov iv v)
  xG [v,ov,iv] []):=by intro _;rfl):PG X (.Subscript o i pos) (TV to ti t):=by
 intro pins s σ H v u Q I r h;rw [ha];refine wpAny_bind (L7 (thn (ho pins s σ H _ I h) λov s1 ⟨x,H1,I1,r1,q1⟩=> ?_));refine wpAny_bind (L7 (thn (hi pins s1 σ H1 _ I1 q1) λiv s2 ⟨y,H2,I2,r2,q2⟩=> ?_));refine wpAny_bind (Y3 (wpAny_bind (L7 (thn (hs pins s2 σ H2 x y v ov iv u _ I2 r1 r2 r q2) λ_ s3 ⟨H3,I3,q3⟩=> ?_))));exact wpAny_release ⟨σ,H3,I3,q3⟩
def NF (te:TE)(g:TG):TS:=λD σ H=>te σ H λx H1=>g x σ H1 D.nx
theorem Lr {tg e:M5}{te:TE}{g:TG}(he:PE X e te)(hg:PG X tg g)(hs:cV [tg] e pos.line X.env=pure false:=by rfl)(hw:cW [tg] e X.env=pure none:=by rfl)
 (h1:(dG [tg] X.env).map (·.2)= [fJ tg X.env]:=by rfl):PS X (.Assign [tg] e pos) (NF te g):=by
 intro pins s σ H D I h;refine wpAny_Assign_stores (thn (he pins s σ H _ I h) λv s1 ⟨x,H1,I1,r1,q1⟩=> ?_) hs hw;rw [h1];exact thn (hg pins s1 σ H1 x v _ I1 r1 q1) λ_ s2 q=>q
theorem Ls {i:G3}{x:Str}{e:M5}{te:TE}{pos':Pos}(hN:X.N.Nodup)(hi:X.N[i]? =some x)(hx:Loc X.env.scope x)(he:PE X e te)(hs:Y6 e (some (.Name x pos')) pos.line X.env=pure false:=by rfl)(hf:X.fn x=true\/X.env.scope.names.lookup x=some .local:=by first|exact .inl rfl|exact .inr rfl|assumption):
 PS X (.Assign [.Name x pos'] e pos) (NF te (wJ i)):=by
 intro pins s σ H D I h;refine wpAny_Assign_Name (thn (he pins s σ H _ I h) λv s1 ⟨y,H1,I1,r1,q1⟩=> ?_) hs;exact Zl I1 hN hi hx r1 (λs2 I2=>⟨_,H1,I2,q1⟩) hf
def Tc (i j:G3)(ta:TA):TS:=λD σ H=>ta σ H λvs H1=> ∃v w,vs= [v,w]/\D.nx ((σ.set i (some v)).set j (some w)) H1
theorem Lt {i j:G3}{x y:Str}{a b:M5}{ta:TA}{px py pt:Pos}{kt k2 pt2}(hc:X.calm=true)(hN:X.N.Nodup)(hi:X.N[i]? =some x)(hj:X.N[j]? =some y)(hij:i≠j)
 (hx:X.env.scope.names.lookup x=some .local)(hy:X.env.scope.names.lookup y=some .local)(ha:PA X [a,b] ta)
 (hw:cW [.Tuple [.Name x px,.Name y py] kt pt] (.Tuple [a,b] k2 pt2) X.env=pure (some [x,y]))
 (hs:cV [.Tuple [.Name x px,.Name y py] kt pt] (.Tuple [a,b] k2 pt2) pos.line X.env=pure false:=by rfl):
 PS X (.Assign [.Tuple [.Name x px,.Name y py] kt pt] (.Tuple [a,b] k2 pt2) pos) (Tc i j ta):=by
 intro pins s σ H D I h;rw [exec_Assign_arm];refine wpAny_bind (Y3 ?_);rw [hs];refine wpAny_bind (P3 ?_);rw [D5 (by decide)];refine wpAny_bind (Tuple_ (thn (ha _ pins s σ H _ I h) λus s1 ⟨vs,H1,I1,r1,q1⟩=> ?_));obtain⟨v,w,e1,q1⟩:=q1;subst e1;obtain⟨u1,u2,rfl,rv,rw'⟩: ∃u1 u2,us= [u1,u2]/\RelV v u1/\RelV w u2:=by
  cases r1 with
  |cons p q=>
   cases q with
   |cons p' q'=>
    cases q';exact⟨_,_,rfl,p,p'⟩
 refine X2 ?_ (by show 2<=sizeLine;decide);have I2:Inv X pins σ H1 {s1 with heap:=s1.heap.push {cls:= .type "tuple",data:= .seq [u1,u2].toArray}}:=I1.kept (t':=s1.toks) λb o e=>P1 _ e
 rw [hw];refine wpAny_bind (P3 ?_);show R7 (S2 X.prog X.w) X.A (do rule "assign.swapped-stores";let items <-unpackItems (.ref s1.heap.objs.size) 2 none;nA [λv=>qP X.env y v,λv=>qP X.env x v] items.reverse;pure Flow.next) _ _ _;refine wpAny_bind (fK (wpAny_bind (unpackItems_tuple (items:= #[u1,u2]) (I.ok.hd hc) (IsTup.new s1.heap _) λh' hx'=> ?_)));have I3:=I2.kept (h':=h') (t':=s1.toks) λb o e=>hx' b o (T2 (R1 e)) e
 show R7 _ _ (nA [λv=>qP X.env y v,λv=>qP X.env x v] [u2,u1] >>= λ_=>pure Flow.next) _ _ _;refine wpAny_bind (gO (qQ (Zl I3 hN hj (.inl hy) rw' (λs2 I4=> ?_) (.inr hy))));refine gO (qQ (Zl I4 hN hi (.inl hx) rv (λs3 I5=>nZ (P3 ?_)) (.inr hx)));rw [List.set_comm _ _ (K9 hij)] at I5;exact⟨_,H1,I5,q1⟩
def NG (c:TT)(tb:TS):TS:=λD σ H=> ∃W:G3->St->Hp->Prop,(∃m,W m σ H)/\ ∀m σ H,W m σ H->
 c σ H λb H1=>if b=true then ∃N:St->Hp->Prop,(∀IF H',N IF H'-> ∃m',m'<m/\W m' IF H')/\tb {D with nx:=N,ct:=N,bk:=D.nx} σ H1 else D.nx σ H1
theorem RN {c:M5}{body:G0 J9}{tc:TT}{tb:TS}(hp:mU (S2 X.prog X.w) X.A X.env X.xe)(hc:PT X c tc)(hb:PSs X body tb):PS X (.While c body [] pos) (NG tc tb):=by
 intro pins s σ H D I h;obtain⟨W,⟨m0,w0⟩,turn⟩:=h;refine wpAny_While (codeAny_whileLoop (λn s'=> ∃IF H',Inv X pins IF H' s'/\W n IF H') ?_ m0 ⟨σ,H,I,w0⟩);rintro n s1 ⟨IS,H1,I1,w1⟩;refine aH hp (thn (hc pins s1 IS H1 _ I1 (turn n IS H1 w1)) λb s2 ⟨H2,I2,q2⟩=> ?_);cases b with
 |true=>
  obtain⟨N,hN,q2⟩:=q2;rw [D4 rfl];refine aH hp (thn (hb pins s2 IS H2 _ I2 q2) λf s3 q3=> ?_);cases f with
  |next=>
   obtain⟨IK,H3,I3,n3⟩:=q3;obtain⟨m',hm,w3⟩:=hN IK H3 n3;exact⟨m',hm,IK,H3,I3,w3⟩
  |cont=>
   obtain⟨IK,H3,I3,n3⟩:=q3;obtain⟨m',hm,w3⟩:=hN IK H3 n3;exact⟨m',hm,IK,H3,I3,w3⟩
  |brk=>exact q3
  |ret v=>exact q3
 |false=>
  rw [D5 R0];exact gA ⟨IS,H2,I2,q2⟩
end
structure It where
 go:G3->Hp->Prop
 yld:G3->Hp->V->Hp->Prop
 stop:G3->Hp->Prop
def Uw (X:Cx)(pins:G0 (P5×Obj))(H:Hp)(b:P5):Prop:=
 H b=none/\b≠X.env.locals/\b ∉ X.fs/\(b∈X.ex\/X.s₀.heap.objs.size<=b)/\(∀x c,X.env.cells.lookup x=some c->c≠b)/\ ∀p∈X.pn++pins,p.1≠b
theorem Inv.fpOk {pins:G0 (P5×Obj)}{σ:St}{H':Hp}(I:Inv X pins σ H s)(hb:s.heap.objs.size<=b)(hn:H' b=none):Uw X pins H' b:=by
 refine⟨hn,Q6 (N0 I.lt hb),I.nofs hb,.inr (S4 I.sz hb),λx c e z=> ?_,λp hp z=> ?_⟩
 ·obtain⟨v,q⟩:=I.cell x c e;exact absurd (N0 q.lt (by rw [z];exact hb)) (C4 _)
 ·exact absurd (N0 (R1 (I.pin p hp).1) (by rw [z];exact hb)) (C4 _)
structure Turn (P:S7)(w:N8)(K:G5)(tg:M5)(J:It)(fp:G0 P5)(it:P5)(tn:G3->F4->Prop):Prop where
 mem:it∈fp
 obj: ∀i h,tn i h-> ∀b∈fp,∃o,h.get? b=some o/\ ∀v,o.data≠ .cell v
 keep: ∀i h h',tn i h->(∀b∈fp,∀o,h.get? b=some o->h'.get? b=some o)->tn i h'
 item: ∀ (X:Cx),X.prog=P->X.w=w->X.K=K->X.calm=true-> ∀ (i:G3) (pins:G0 (P5×Obj)) (s:G2) (σ:St) (H:Hp) (E:G1->G2->Prop),Inv X pins σ H s->(∀b∈fp,Uw X pins H b)->tn i s.heap->J.go i H->
  R7 (S2 P w) X.A (qR (.ref it)) (λr s1=> ∃u,r=some u/\
   R7 (S2 P w) X.A (bM tg (.ref it) u) (λ_ s2=> ∃x H',Inv X pins σ H' s2/\RelV x u/\J.yld i H x H'/\tn (i+1) s2.heap/\ ∀b∈fp,H' b=none) E s1) E s
 done: ∀ (X:Cx),X.prog=P->X.w=w->X.K=K->X.calm=true-> ∀ (i:G3) (pins:G0 (P5×Obj)) (s:G2) (σ:St) (H:Hp) (E:G1->G2->Prop),Inv X pins σ H s->(∀b∈fp,Uw X pins H b)->tn i s.heap->J.stop i H->
  R7 (S2 P w) X.A (qR (.ref it)) (λr s1=>r=none/\Inv X pins σ H s1) E s
 self: ∀ (A:N3) (i:G3) (s:G2) (Q:G1->G2->Prop) (E:G1->G2->Prop),tn i s.heap->Q (.ref it) s->R7 (S2 P w) A (o8 (.ref it)) Q E s
abbrev TI:=St->Hp->(It->Hp->Prop)->Prop
def PIE (X:Cx)(pins:G0 (P5×Obj))(σ:St)(tg:M5)(R:It->Hp->Prop)(itv:G1)(s2:G2):Prop:=
 ∃ (it:P5) (fp:G0 P5) (tn:G3->F4->Prop) (J:It) (H':Hp),itv= .ref it/\Inv X pins σ H' s2/\Turn X.prog X.w X.K tg J fp it tn/\tn 0 s2.heap/\(∀b∈fp,Uw X pins H' b)/\R J H'
def PI (X:Cx)(tg iter:M5)(wi:TI):Prop:=
 ∀ (pins:G0 (P5×Obj)) (s:G2) (σ:St) (H:Hp) (R:It->Hp->Prop),Inv X pins σ H s->wi σ H R->
  R7 (S2 X.prog X.w) X.A (E5 iter X.env) (λv s1=>R7 (S2 X.prog X.w) X.A (o8 v) (PIE X pins σ tg R) X.xe s1) X.xe s
variable {tg:M5}
theorem By {M : pM} {E : G1 → G2 → Prop} {it : P5} {o : Obj} {n : V8} {vs : S9 G1} {Q : Unit → G2 → Prop} (ho : s.heap.get? it = some o) (hc : o.cls = .type n) (hd : o.data = .fields vs)
    (hn : ["enumerate", "zip", "dict_itemiterator", "dict_reverseitemiterator", "odict_iterator", "itertools.zip_longest", "itertools.pairwise"].contains n = false) (hQ : Q () s) : R7 M A (bM tg (.ref it) u) Q E s := by
  unfold bM
  cases tg <;> first
    | exact P3 hQ
    | (cases u <;> first
        | exact P3 hQ
        | (refine wpAny_bind (u0 ho ?_)
           rw [hc, hd]
           show R7 M A (if (["enumerate", "zip", "dict_itemiterator", "dict_reverseitemiterator", "odict_iterator", "itertools.zip_longest", "itertools.pairwise"].contains n && vs[0]? == some (K7 _)) = true then _ else _) Q E s
           rw [D5 (by intro h; rw [hn, lR] at h; cases h)]
           exact P3 hQ))
def Itl (K:G5)(a:P5):It:=
 ⟨λi H=> ∃xs x,SqL K H a xs/\xs[i]? =some x,λi H x H'=>H'=H/\ ∀xs,SqL K H a xs->xs[i]? =some x,λi H=> ∃xs,SqL K H a xs/\xs.length<=i⟩
def Itt (K:G5)(a:P5):It:=
 ⟨λi H=> ∃xs x,SqT K H a xs/\xs[i]? =some x,λi H x H'=>H'=H/\ ∀xs,SqT K H a xs->xs[i]? =some x,λi H=> ∃xs,SqT K H a xs/\xs.length<=i⟩
def Itr (lo:P4)(n:G3):It:=⟨λi _=>i<n,λi H x H'=>H'=H/\x= .int (lo+i),λi _=>n<=i⟩
variable {K:G5}
theorem Vd (a it:P5):Turn P w K tg (Itl K a) [it] it (λi h=>h.IsListIter it a i) where
 mem:=by simp
 obj:=λi h st b hb=>by
  have e:b=it:=by simpa using hb
  subst e;obtain⟨o,e,c,d⟩:=st;exact⟨o,e,λv z=>by rw [d] at z;cases z⟩
 keep:=λi h h' st k=>st.at λo e=>k it (by simp) o e
 item:=by
  intro X hP hw hK hc i pins s σ H E I hf st hg;subst hP hw hK;obtain⟨xs,x,hq,hx⟩:=hg;obtain⟨its,rv,p,hz⟩:=I.list hq;obtain⟨u,hu,ru⟩:=rv.get hx;obtain⟨f0,f1,f2,f3,f4,f5⟩:=hf it (by simp);refine wpAny_pyNext_list_item st p.isList (x:=u) (by simpa using hu) λh' st' sb=> ?_
  have I1:Inv X pins σ H {s with heap:=h'}:=I.turned (t':=s.toks) (λb o hb e=>(sb.2 b hb).trans e) f0 f1 f3 f4 f5;obtain⟨o,e,c,d⟩:=id st';exact⟨u,rfl,By (s:= {s with heap:=h'}) e c d (by decide) ⟨x,H,I1,ru,⟨rfl,λys hy=>by rw [I.list_inj hy hq];exact hx⟩,st',λb hb=>(hf b hb).1⟩⟩
 done:=by
  intro X hP hw hK hc i pins s σ H E I hf st hg;subst hP hw hK;obtain⟨xs,hq,hx⟩:=hg;obtain⟨its,rv,p,hz⟩:=I.list hq;obtain⟨f0,f1,f2,f3,f4,f5⟩:=hf it (by simp);have hl:=rv.length;exact wpAny_pyNext_list_end (I.ok.hd hc) st p.isList (by simp;omega) λh' eb=>⟨rfl,I.turned (t':=s.toks) (λb o hb e=>eb b o hb e) f0 f1 f3 f4 f5⟩
 self:=λ_ _ _ _ _ st h=>wpAny_pyIter_listiter st h
theorem QB (a it:P5):Turn P w K tg (Itt K a) [it] it (λi h=>h.IsTupleIter it a i) where
 mem:=by simp
 obj:=λi h st b hb=>by
  have e:b=it:=by simpa using hb
  subst e;obtain⟨o,e,c,d⟩:=st;exact⟨o,e,λv z=>by rw [d] at z;cases z⟩
 keep:=λi h h' st k=>st.at λo e=>k it (by simp) o e
 item:=by
  intro X hP hw hK hc i pins s σ H E I hf st hg;subst hP hw hK;obtain⟨xs,x,hq,hx⟩:=hg;obtain⟨its,rv,p,hz⟩:=I.tuple hq;obtain⟨u,hu,ru⟩:=rv.get hx;obtain⟨f0,f1,f2,f3,f4,f5⟩:=hf it (by simp);refine wpAny_pyNext_tuple_item st (show s.heap.IsTuple a its.toArray from p) (x:=u) (by simpa using hu) λh' st' sb=> ?_
  have I1:Inv X pins σ H {s with heap:=h'}:=I.turned (t':=s.toks) (λb o hb e=>(sb.2 b hb).trans e) f0 f1 f3 f4 f5;obtain⟨o,e,c,d⟩:=id st';exact⟨u,rfl,By (s:= {s with heap:=h'}) e c d (by decide) ⟨x,H,I1,ru,⟨rfl,λys hy=>by rw [I.tuple_inj hy hq];exact hx⟩,st',λb hb=>(hf b hb).1⟩⟩
 done:=by
  intro X hP hw hK hc i pins s σ H E I hf st hg;subst hP hw hK;obtain⟨xs,hq,hx⟩:=hg;obtain⟨its,rv,p,hz⟩:=I.tuple hq;obtain⟨f0,f1,f2,f3,f4,f5⟩:=hf it (by simp);have hl:=rv.length;exact wpAny_pyNext_tuple_end (I.ok.hd hc) st (show s.heap.IsTuple a its.toArray from p) (by simp;omega) λh' eb=>⟨rfl,I.turned (t':=s.toks) (λb o hb e=>eb b o hb e) f0 f1 f3 f4 f5⟩
 self:=λ_ _ _ _ _ st h=>wpAny_pyIter_tupleiter st h
theorem QC (it:P5)(lo:P4)(n:G3):Turn P w K tg (Itr lo n) [it] it (λi h=>tS h it (lo+(i:G3)*1) ((n:P4)-(i:G3)) 1) where
 mem:=by simp
 obj:=λi h st b hb=>by
  have e:b=it:=by simpa using hb
  subst e;exact⟨_,st,λv z=>by
   have z':Data.fields _=Data.cell v:=z;cases z'⟩
 keep:=λi h h' st k=>k it (by simp) _ st
 item:=by
  intro X hP hw hK hc i pins s σ H E I hf st hg;subst hP hw hK;obtain⟨f0,f1,f2,f3,f4,f5⟩:=hf it (by simp);have W:=Walks.range (prog:=X.prog) (w:=X.w) (I.ok.hd hc) it lo 1 n;refine W.item i s _ _ hg st λv h' tk hv st' kk=> ?_
  obtain⟨t,rfl⟩:=hv;have I1:Inv X pins σ H {s with heap:=h',toks:=tk}:=I.turned (λb o hb e=>kk b o (by simpa using hb) e) f0 f1 f3 f4 f5;refine⟨_,rfl,By (s:= {s with heap:=h',toks:=tk}) (n:= "range_iterator") st' rfl rfl (by decide) ⟨.int (lo+i),H,I1,⟨t,?_⟩,⟨rfl,rfl⟩,st',λb hb=>(hf b hb).1⟩⟩;rw [Int.mul_one]
 done:=by
  intro X hP hw hK hc i pins s σ H E I hf st hg;subst hP hw hK;obtain⟨f0,f1,f2,f3,f4,f5⟩:=hf it (by simp);exact wpAny_pyNext_range_end (I.ok.hd hc) st (by have:n<=i:=hg;omega) λh' eb=>⟨rfl,I.turned (t':=s.toks) (λb o hb e=>eb b o hb e) f0 f1 f3 f4 f5⟩
 self:=λ_ _ _ _ _ st h=>wpAny_pyIter_rangeiter st h
section
variable {X:Cx}{tg:M5}
def Lu (K:G5)(tl:TE):TI:=λσ H R=>tl σ H λx H1=> ∃a,x= .ref a/\(∃xs,SqL K H1 a xs)/\R (Itl K a) H1
theorem Bz {l:M5}{tl:TE}(hl:PE X l tl):PI X tg l (Lu X.K tl):=by
 intro pins s σ H R I h;refine thn (hl pins s σ H _ I h) λv s1 ⟨x,H1,I1,r1,q1⟩=> ?_
 obtain⟨a,e,⟨xs,hq⟩,q⟩:=q1;subst e;cases r1;obtain⟨its,rv,p,hz⟩:=I1.list hq;refine bX p.isList ?_;refine⟨s1.heap.objs.size,[s1.heap.objs.size],_,_,H1,rfl,I1.kept (t':=s1.toks) λb o e=>P1 _ e,Vd a _,⟨_,T5 _ rfl,rfl,rfl⟩,λb hb=> ?_,q⟩;have e:b=s1.heap.objs.size:=by simpa using hb
 subst e;exact I1.fpOk (P2 _) (I1.hok.fresh (P2 _))
variable {pins:G0 (P5×Obj)}
theorem RO {σ:St}{H:Hp}{s:G2}{R:It->Hp->Prop}{E:G1->G2->Prop}{lo hi:P4}{t u v:Tok}{tk:G3}(I:Inv X pins σ H s)(h1: -(2^62)<=lo)(h2:lo<2^62)(h3: -(2^62)<=hi)(h4:hi<2^62)
 (q:R (Itr lo (hi-lo).toNat) H):R7 (S2 X.prog X.w) X.A (o8 (.ref s.heap.objs.size)) (PIE X pins σ tg R) E {s with heap:=s.heap.push {cls:= .type "range",data:= .fields #[.int lo t,.int hi u,.int 1 v]},toks:=tk}:=by
 refine wpAny_pyIter_range (IsRange.new ..) (small_one h1 h2 h3 h4) ?_;have I1:Inv X pins σ H {s with heap:=s.heap.push {cls:= .type "range",data:= .fields #[.int lo t,.int hi u,.int 1 v]},toks:=tk}:=I.kept λb o e=>P1 _ e
 refine⟨(s.heap.push {cls:= .type "range",data:= .fields #[.int lo t,.int hi u,.int 1 v]}).objs.size,[(s.heap.push {cls:= .type "range",data:= .fields #[.int lo t,.int hi u,.int 1 v]}).objs.size],_,_,H,rfl,
  I1.kept (t':=tk) λb o e=>P1 _ e,QC _ lo (hi-lo).toNat,?_,λb hb=> ?_,q⟩
 ·have e1:lo+((0:G3):P4)*1=lo:=by simp
  have e2:(((hi-lo).toNat:G3):P4)-((0:G3):P4)=Builtin.Range.rangeSize lo hi 1:=by rw [rQ];split<;>omega
  show tS _ _ (lo+((0:G3):P4)*1) ((((hi-lo).toNat:G3):P4)-((0:G3):P4)) 1;rw [e1,e2];exact T5 _ rfl
 ·have e:b=(s.heap.push {cls:= .type "range",data:= .fields #[.int lo t,.int hi u,.int 1 v]}).objs.size:=by simpa using hb
  subst e;exact I1.fpOk (P2 _) (I1.hok.fresh (P2 _))
def Lv (ta:TA):TI:=λσ H R=>ta σ H λvs H1=> ∃j:P4,vs= [.int j]/\ -(2^62)<=j/\j<2^62/\R (Itr 0 j.toNat) H1
theorem GQ {a:M5}{ta:TA}{p pos:Pos}(hg:Gl X "range")(hm:X.mg "range" =none)(ha:PA X [a] ta)(hs:R4 [a] X.env= [(false,E5 a X.env)]:=by rfl):PI X tg (.Call (.Name "range" p) [a] [] pos) (Lv ta):=by
 intro pins s σ H R I h;refine Call_ (WI I hg hm u3 (Y1 (thn (ha pos pins s σ H _ I h) λus s1 ⟨vs,H1,I1,r1,q1⟩=> ?_) hs rfl));obtain⟨j,e,q1,q2,q⟩:=q1;subst e;cases r1 with
 |cons r rr=>
  cases rr;obtain⟨t,rfl⟩:=r;exact sV (RO I1 (by omega) (by omega) q1 q2 (by simpa using q))
def Td (wi:TI)(g:TG)(tb:TS):TS:=λD σ H=>wi σ H λJ H1=> ∃W:G3->G3->St->Hp->Prop,(∃m,W 0 m σ H1)/\ ∀i m σ H,W i m σ H->
 (J.stop i H/\D.nx σ H)\/(J.go i H/\ ∃N:St->Hp->Prop,(∀IF H',N IF H'-> ∃m',m'<m/\W (i+1) m' IF H')/\ ∀x H',J.yld i H x H'->g x σ H' λIH H2=>tb {D with nx:=N,ct:=N,bk:=D.nx} IH H2)
def wQ (fp:G0 P5)(h:F4):G0 (P5×Obj):=fp.filterMap λb=>(h.get? b).map λo=>(b,o)
theorem zi {fp:G0 P5}{h:F4}{b:P5}{o:Obj}(hb:b∈fp)(e:h.get? b=some o):(b,o)∈wQ fp h:=bE.mpr ⟨b,hb,by rw [e];rfl⟩
theorem vJ {fp:G0 P5}{h:F4}{p:P5×Obj}(hp:p∈wQ fp h):p.1∈fp/\h.get? p.1=some p.2:=by
 obtain⟨b,hb,e⟩:=bE.mp hp;cases q:h.get? b with
 |none=>rw [q] at e;cases e
 |some o=>
  rw [q] at e;have e':(b,o)=p:=A2 e;subst e';exact⟨hb,q⟩
theorem Inv.pinned {σ:St}{H:Hp}{s:G2}{fp:G0 P5}(I:Inv X pins σ H s)(hf: ∀b∈fp,Uw X pins H b)(ho: ∀b∈fp,∃o,s.heap.get? b=some o/\ ∀v,o.data≠ .cell v):Inv X (pins++wQ fp s.heap) σ H s:=
 I.pins_of λp hp=>(R5.mp hp).elim (λz=>I.pin p (P8 _ z)) λz=>by
  obtain⟨hb,e⟩:=vJ z;obtain⟨f0,f1,f2,_⟩:=hf p.1 hb;obtain⟨o,e',d⟩:=ho p.1 hb;rw [e] at e';cases e';exact⟨e,f0,f1,f2,d⟩
theorem Inv.unpinned {pl:G0 (P5×Obj)}{σ:St}{H:Hp}{s:G2}(I:Inv X (pins++pl) σ H s):Inv X pins σ H s:=I.pins_of λp hp=>I.pin p (P8 _ (N4 _ hp))
theorem Lw {iter:M5}{body:G0 J9}{wi:TI}{g:TG}{tb:TS}{pos:Pos}(hp:mU (S2 X.prog X.w) X.A X.env X.xe)(hc:X.calm=true)(hi:PI X tg iter wi)(hg:PG X tg g)(hb:PSs X body tb)
 (hs: ∀x,M0 iter X.env x=pure x:=by intro _;rfl):PS X (.For tg iter body [] pos) (Td wi g tb):=by
 intro pins s σ H D I h;refine wpAny_For (thn (hi pins s σ H _ I h) λv s1 h1=>thn h1 λitv s2 h2=> ?_) hs;obtain⟨it,fp,tn,J,H2,e,I2,T,st2,f2,W,⟨m0,w0⟩,turn⟩:=h2;subst e
 -- what stays true of the iterator's objects through the loop
 have stat: ∀ {H':Hp},(∀b∈fp,H' b=none)-> ∀b∈fp,Uw X pins H' b:=λhn b hb=>⟨hn b hb,(f2 b hb).2⟩
 refine codeAny_forLoop_any (λn s'=> ∃i IF H',Inv X pins IF H' s'/\tn i s'.heap/\(∀b∈fp,H' b=none)/\W i n IF H') ?_ m0 ⟨0,σ,H2,I2,st2,λb hb=>(f2 b hb).1,w0⟩;rintro n s3 ⟨i,IK,H3,I3,st3,fr3,w3⟩;rcases turn i n IK H3 w3 with ⟨stop,qn⟩|⟨go,N,hN,step⟩
 ·refine aH hp (thn (T.done X rfl rfl rfl hc i pins s3 IK H3 X.xe I3 (stat fr3) st3 stop) λr s4 ⟨hr,I4⟩=> ?_);subst hr;exact gA ⟨IK,H3,I4,qn⟩
 ·refine aH hp (thn (T.item X rfl rfl rfl hc i pins s3 IK H3 X.xe I3 (stat fr3) st3 go) λr s4 ⟨u,hr,h4⟩=> ?_);subst hr;refine aH hp (thn h4 λ_ s5 ⟨x,H5,I5,r5,y5,st5,fr5⟩=> ?_);have I5':=I5.pinned (stat fr5) (T.obj _ _ st5);refine aH hp (thn (hg _ s5 IK H5 x u _ I5' r5 (step x H5 y5)) λ_ s6 ⟨KJ,H6,I6,q6⟩=> ?_);refine aH hp (thn (hb _ s6 KJ H6 _ I6 q6) λf s7 q7=> ?_);have again: ∀ {IP:St} {H7:Hp},Inv X (pins++wQ fp s5.heap) IP H7 s7->N IP H7-> ∃m,m<n/\ ∃i IF H',Inv X pins IF H' s7/\tn i s7.heap/\(∀b∈fp,H' b=none)/\W i m IF H':=λ{IP H7} I7 n7=>by
   obtain⟨m',hm,w7⟩:=hN IP H7 n7;refine⟨m',hm,i+1,IP,H7,I7.unpinned,T.keep _ _ _ st5 λb hb o e=>(I7.pin (b,o) (P8 _ (P8 _ (zi hb e)))).1,λb hb=> ?_,w7⟩;obtain⟨o,e,d⟩:=T.obj _ _ st5 b hb;exact(I7.pin (b,o) (P8 _ (P8 _ (zi hb e)))).2.1
  cases f with
  |next=>obtain⟨IP,H7,I7,n7⟩:=q7;exact again I7 n7
  |cont=>obtain⟨IP,H7,I7,n7⟩:=q7;exact again I7 n7
  |brk=>obtain⟨IP,H7,I7,q7⟩:=q7;exact⟨IP,H7,I7.unpinned,q7⟩
  |ret v=>obtain⟨x7,IP,H7,I7,r7,q7⟩:=q7;exact⟨x7,IP,H7,I7.unpinned,r7,q7⟩
end
abbrev R2:=V->V->Hp->VK->Prop
def OpR (X:Cx)(f:G1->G1->Sem G1)(r:R2):Prop:=
 ∀ (pins:G0 (P5×Obj)) (s:G2) (σ:St) (H:Hp) (x y:V) (v u:G1) (Q:VK),Inv X pins σ H s->RelV x v->RelV y u->r x y H Q->
  R7 (S2 X.prog X.w) X.A (f v u) (EP X pins σ Q) X.xe s
def UnR (X:Cx)(f:G1->Sem G1)(r:V->Hp->VK->Prop):Prop:=
 ∀ (pins:G0 (P5×Obj)) (s:G2) (σ:St) (H:Hp) (x:V) (v:G1) (Q:VK),Inv X pins σ H s->RelV x v->r x H Q->
  R7 (S2 X.prog X.w) X.A (f v) (EP X pins σ Q) X.xe s
def CallR (X:Cx)(f:G1)(r:G0 V->Hp->VK->Prop):Prop:=
 ∀ (pins:G0 (P5×Obj)) (s:G2) (σ:St) (H:Hp) (xs:G0 V) (us:G0 G1) (Q:VK),Inv X pins σ H s->Vals xs us->r xs H Q->
  R7 (S2 X.prog X.w) X.A (call f us) (EP X pins σ Q) X.xe s
def tOp (r:R2)(ta tb:TE):TE:=λσ H Q=>ta σ H λx H1=>tb σ H1 λy H2=>r x y H2 Q
def tUn (r:V->Hp->VK->Prop)(ta:TE):TE:=λσ H Q=>ta σ H λx H1=>r x H1 Q
def rI (C:P4->P4->Prop)(g:P4->P4->V):R2:=λx y H Q=> ∃i j,x= .int i/\y= .int j/\C i j/\Q (g i j) H
def rI0 (g:P4->P4->V):R2:=λx y H Q=> ∃i j,x= .int i/\y= .int j/\Q (g i j) H
def rU (g:P4->V):V->Hp->VK->Prop:=λx H Q=> ∃i,x= .int i/\Q (g i) H
section
variable {X:Cx}{a b c:M5}{ta tb tc:TE}{pos:Pos}
theorem Ev (ha:PE X a ta)(hb:PE X b tb){pins:G0 (P5×Obj)}{s:G2}{σ:St}{H:Hp}{R:V->V->Hp->Prop}(I:Inv X pins σ H s)
 (h:ta σ H λx H1=>tb σ H1 λy H2=>R x y H2){Q:G1->G2->Prop}{f:G1->G1->Sem G1}
 (hf: ∀v u s2 x y H2,Inv X pins σ H2 s2->RelV x v->RelV y u->R x y H2->R7 (S2 X.prog X.w) X.A (f v u) Q X.xe s2):
 R7 (S2 X.prog X.w) X.A (E5 a X.env) (λv II=>R7 (S2 X.prog X.w) X.A (E5 b X.env) (λu IW=>R7 (S2 X.prog X.w) X.A (f v u) Q X.xe IW) X.xe II) X.xe s:=by
 refine thn (ha pins s σ H _ I h) λv s1 ⟨x,H1,I1,r1,q1⟩=> ?_
 refine thn (hb pins s1 σ H1 _ I1 q1) λu s2 ⟨y,H2,I2,r2,q2⟩=> ?_
 exact hf v u s2 x y H2 I2 r1 r2 q2
theorem Ew {op:tT}{r:R2}(ho:OpR X (J3 op) r)(ha:PE X a ta)(hb:PE X b tb):PE X (.BinOp a op b pos) (tOp r ta tb):=by
 intro pins s σ H Q I h;exact wpAny_BinOp (Ev ha hb I h λv u s2 x y H2 I2 rx ry q=>ho pins s2 σ H2 x y v u Q I2 rx ry q)
theorem Ex {op:UnaryOp}{r:V->Hp->VK->Prop}(ho:UnR X (unaryOp op) r)(ha:PE X a ta):PE X (.UnaryOp op a pos) (tUn r ta):=by
 intro pins s σ H Q I h;exact UnaryOp_ (thn (ha pins s σ H _ I h) λv s1 ⟨x,H1,I1,r1,q1⟩=>ho pins s1 σ H1 x v Q I1 r1 q1)
theorem opI {f:G1->G1->Sem G1}{C:P4->P4->Prop}{g:P4->P4->P4}
 (rule: ∀ (i j:P4) (t u:Tok) (s:G2) (Q:G1->G2->Prop) (E:G1->G2->Prop),C i j->Q (.int (g i j) s.toks) {s with toks:=s.toks+1}->R7 (S2 X.prog X.w) X.A (f (.int i t) (.int j u)) Q E s):
 OpR X f (rI C λi j=> .int (g i j)):=by
 intro pins s σ H x y v u Q I rx ry h;obtain⟨i,j,rfl,rfl,hc,q⟩:=h;obtain⟨t,rfl⟩:=rx;obtain⟨t',rfl⟩:=ry;exact rule i j t t' s _ _ hc ⟨.int (g i j),H,I.tok _,⟨_,rfl⟩,q⟩
theorem Te {f:G1->G1->Sem G1}{g:P4->P4->P4}
 (rule: ∀ (i j:P4) (t u:Tok) (s:G2) (Q:G1->G2->Prop) (E:G1->G2->Prop),Q (.int (g i j) s.toks) {s with toks:=s.toks+1}->R7 (S2 X.prog X.w) X.A (f (.int i t) (.int j u)) Q E s):
 OpR X f (rI0 λi j=> .int (g i j)):=by
 intro pins s σ H x y v u Q I rx ry h;obtain⟨i,j,rfl,rfl,q⟩:=h;obtain⟨t,rfl⟩:=rx;obtain⟨t',rfl⟩:=ry;exact rule i j t t' s _ _ ⟨.int (g i j),H,I.tok _,⟨_,rfl⟩,q⟩
theorem Ea {f:G1->G1->Sem G1}{g:P4->P4->M7}
 (rule: ∀ (i j:P4) (t u:Tok) (s:G2) (Q:G1->G2->Prop) (E:G1->G2->Prop),Q (.bool (g i j)) s->R7 (S2 X.prog X.w) X.A (f (.int i t) (.int j u)) Q E s):
 OpR X f (rI0 λi j=> .bl (g i j)):=by
 intro pins s σ H x y v u Q I rx ry h;obtain⟨i,j,rfl,rfl,q⟩:=h;obtain⟨t,rfl⟩:=rx;obtain⟨t',rfl⟩:=ry;exact rule i j t t' s _ _ ⟨.bl (g i j),H,I,rfl,q⟩
def Tf (i j:P4):Prop:=0<j/\j<1073741824
def Eb (i j:P4):Prop:=0<=j/\j<=1000000/\i.natAbs<2^64
def CMul (i j:P4):Prop:=(-(2^64)<i/\i<2^64)\/(-(2^64)<j/\j<2^64)
theorem CMul.ok {i j:P4}(h:CMul i j):IntMulOk i j:=by
 rcases h with ⟨h1,h2⟩|⟨h1,h2⟩
 ·exact .of_left (rR h1 h2)
 ·exact .of_right (rR h1 h2)
theorem op_add:OpR X (J3 .Add) (rI0 λi j=> .int (i+j)):=Te λ_ _ _ _ _ _ _ q=>add_int q
theorem Ly:OpR X (J3 .Sub) (rI0 λi j=> .int (i-j)):=Te λ_ _ _ _ _ _ _ q=>sub_int q
theorem op_mul:OpR X (J3 .Mult) (rI CMul λi j=> .int (i*j)):=opI λ_ _ _ _ _ _ _ hc q=>mul_int q hc.ok
theorem BA:OpR X (J3 .FloorDiv) (rI Tf λi j=> .int (i / j)):=opI λi j _ _ _ _ _ hc q=>by
 have h1:(0:P4)<j:=hc.1;have h2:j<1073741824:=hc.2;exact floordiv_int (by omega) (by rw [gP i (by omega)];exact q) (.inl (PyProof.noPylong_small (by omega)))
theorem Lz:OpR X (J3 .Mod) (rI (λ_ j=>0<j) λi j=> .int (i%j)):=opI λi j _ _ _ _ _ hc q=>by
 have h1:(0:P4)<j:=hc;exact mod_int' (by omega) (by rw [gQ i (by omega)];exact q)
theorem LB:OpR X (J3 .Pow) (rI Eb λi j=> .int (i^j.toNat)):=opI λ_ _ _ _ _ _ _ hc q=>pow_int_small hc.1 hc.2.1 hc.2.2 q
theorem LD:OpR X (J3 .LShift) (rI Eb λi j=> .int (i*2^j.toNat)):=opI λ_ _ _ _ _ _ _ hc q=>lshift_int_small hc.1 hc.2.1 hc.2.2 q
theorem unI {f:G1->Sem G1}{g:P4->P4}
 (rule: ∀ (i:P4) (t:Tok) (s:G2) (Q:G1->G2->Prop) (E:G1->G2->Prop),Q (.int (g i) s.toks) {s with toks:=s.toks+1}->R7 (S2 X.prog X.w) X.A (f (.int i t)) Q E s):
 UnR X f (rU λi=> .int (g i)):=by
 intro pins s σ H x v Q I rx h;obtain⟨i,rfl,q⟩:=h;obtain⟨t,rfl⟩:=rx;exact rule i t s _ _ ⟨.int (g i),H,I.tok _,⟨_,rfl⟩,q⟩
theorem LF:UnR X (unaryOp .USub) (rU λi=> .int (-i)):=unI λ_ _ _ _ _ q=>neg_int q
end
def Tg:V->V->M7
 | .non,.non=>true| .non,.int _=>true| .int _,.non=>true| .non,.bl _=>true| .bl _,.non=>true| .non,.str _=>true| .str _,.non=>true
 | .int _,.int _=>true| .bl _,.bl _=>true| .str _,.str _=>true| .byt _,.byt _=>true
 | .int _,.str _=>true| .str _,.int _=>true| .bl _,.str _=>true| .str _,.bl _=>true
 |_,_=>false
def rEq:R2:=λx y H Q=>Tg x y=true/\Q (.bl (decide (x=y))) H
def rNe:R2:=λx y H Q=>Tg x y=true/\Q (.bl (!decide (x=y))) H
theorem GR {i j:P4}:decide (V.int i=V.int j)=(i==j):=by
 rw [Q7];simp
theorem NH {i j:M7}:decide (V.bl i=V.bl j)=(i==j):=by
 rw [Q7];simp
theorem GS {i j:Str}:decide (V.str i=V.str j)=(i==j):=by
 rw [Q7];simp
theorem GT {i j:S9 UInt8}:decide (V.byt i=V.byt j)=(i.toList==j.toList):=by
 rw [Q7];cases i;cases j;simp
section
variable {X:Cx}{a b c:M5}{ta tb tc:TE}{pos:Pos}
theorem jD {pins:G0 (P5×Obj)}{σ:St}{H:Hp}{s:G2}{Q:VK}{k k':M7}(I:Inv X pins σ H s)(q:Q (.bl k) H)(e:k=k'):EP X pins σ Q (.bool k') s:=by
 subst e;exact⟨.bl k,H,I,rfl,q⟩
theorem op_eq:OpR X (B0 .Eq) rEq:=by
 intro pins s σ H x y v u Q I rx ry h;obtain⟨hs,q⟩:=h;cases x with
 |non=>
  cases rx;cases y with
  |non=>cases ry;exact PySem.EqNone.eq_none_none (jD I q (by simp))
  |bl j=>cases ry;exact PySem.EqNone.eq_none_bool (jD I q (by simp))
  |int j=>obtain⟨t',rfl⟩:=ry;exact PySem.EqNone.eq_none_int (jD I q (by simp))
  |str j=>obtain⟨t',rfl⟩:=ry;exact PySem.EqNone.eq_none_str (jD I q (by simp))
  |_=>exact absurd (show false=true from hs) R0
 |bl i=>
  cases rx;cases y with
  |non=>cases ry;exact PySem.EqNone.eq_bool_none (jD I q (by simp))
  |bl j=>cases ry;exact eq_bool (jD I q NH)
  |str j=>obtain⟨t',rfl⟩:=ry;exact PySem.EqMixed.eq_bool_str (jD I q (by simp))
  |_=>exact absurd (show false=true from hs) R0
 |int i=>
  obtain⟨t,rfl⟩:=rx;cases y with
  |non=>cases ry;exact PySem.EqNone.eq_int_none (jD I q (by simp))
  |int j=>obtain⟨t',rfl⟩:=ry;exact eq_int (jD I q GR)
  |str j=>obtain⟨t',rfl⟩:=ry;exact PySem.EqMixed.eq_int_str (jD I q (by simp))
  |_=>exact absurd (show false=true from hs) R0
 |str i=>
  obtain⟨t,rfl⟩:=rx;cases y with
  |non=>cases ry;exact PySem.EqNone.eq_str_none (jD I q (by simp))
  |bl j=>cases ry;exact PySem.EqMixed.eq_str_bool (jD I q (by simp))
  |int j=>obtain⟨t',rfl⟩:=ry;exact PySem.EqMixed.eq_str_int (jD I q (by simp))
  |str j=>obtain⟨t',rfl⟩:=ry;exact eq_str (jD I q GS)
  |_=>exact absurd (show false=true from hs) R0
 |byt i=>
  obtain⟨t,rfl⟩:=rx;cases y with
  |byt j=>obtain⟨t',rfl⟩:=ry;exact xN (jD I q GT)
  |_=>exact absurd (show false=true from hs) R0
 |_=>cases y<;>exact absurd (show false=true from hs) R0
theorem op_ne:OpR X (B0 .NotEq) rNe:=by
 intro pins s σ H x y v u Q I rx ry h;obtain⟨hs,q⟩:=h;cases x with
 |non=>
  cases rx;cases y with
  |non=>cases ry;exact PySem.EqNone.ne_none_none (jD I q (by simp))
  |bl j=>cases ry;exact PySem.EqNone.ne_none_bool (jD I q (by simp))
  |int j=>obtain⟨t',rfl⟩:=ry;exact PySem.EqNone.ne_none_int (jD I q (by simp))
  |str j=>obtain⟨t',rfl⟩:=ry;exact PySem.EqNone.ne_none_str (jD I q (by simp))
  |_=>exact absurd (show false=true from hs) R0
 |bl i=>
  cases rx;cases y with
  |non=>cases ry;exact PySem.EqNone.ne_bool_none (jD I q (by simp))
  |bl j=>cases ry;exact ne_bool (jD I q (congrArg not NH))
  |str j=>obtain⟨t',rfl⟩:=ry;exact PySem.EqMixed.ne_bool_str (jD I q (by simp))
  |_=>exact absurd (show false=true from hs) R0
 |int i=>
  obtain⟨t,rfl⟩:=rx;cases y with
  |non=>cases ry;exact PySem.EqNone.ne_int_none (jD I q (by simp))
  |int j=>obtain⟨t',rfl⟩:=ry;exact ne_int (jD I q (congrArg not GR))
  |str j=>obtain⟨t',rfl⟩:=ry;exact PySem.EqMixed.ne_int_str (jD I q (by simp))
  |_=>exact absurd (show false=true from hs) R0
 |str i=>
  obtain⟨t,rfl⟩:=rx;cases y with
  |non=>cases ry;exact PySem.EqNone.ne_str_none (jD I q (by simp))
  |bl j=>cases ry;exact PySem.EqMixed.ne_str_bool (jD I q (by simp))
  |int j=>obtain⟨t',rfl⟩:=ry;exact PySem.EqMixed.ne_str_int (jD I q (by simp))
  |str j=>obtain⟨t',rfl⟩:=ry;exact ne_str (jD I q (congrArg not GS))
  |_=>exact absurd (show false=true from hs) R0
 |byt i=>
  obtain⟨t,rfl⟩:=rx;cases y with
  |byt j=>obtain⟨t',rfl⟩:=ry;exact xO (jD I q (congrArg not GT))
  |_=>exact absurd (show false=true from hs) R0
 |_=>cases y<;>exact absurd (show false=true from hs) R0
theorem Ey:OpR X (B0 .Lt) (rI0 λi j=> .bl (decide (i<j))):=Ea λ_ _ _ _ _ _ _ q=>lt_int q
theorem Ez:OpR X (B0 .LtE) (rI0 λi j=> .bl (decide (i<=j))):=Ea λ_ _ _ _ _ _ _ q=>le_int q
theorem EA:OpR X (B0 .Gt) (rI0 λi j=> .bl (decide (j<i))):=Ea λ_ _ _ _ _ _ _ q=>gt_int q
theorem EB:OpR X (B0 .GtE) (rI0 λi j=> .bl (decide (j<=i))):=Ea λ_ _ _ _ _ _ _ q=>ge_int q
theorem LH:OpR X (B0 .Is) (λx y H Q=>y= .non/\Q (.bl (decide (x= .non))) H):=by
 intro pins s σ H x y v u Q I rx ry h;obtain⟨rfl,q⟩:=h;cases ry;refine is_none_gen (jD I q ?_);cases x<;>first
  |(cases rx;rfl)
  |(obtain⟨t,rfl⟩:=rx;rfl)
variable {r:R2}
theorem OpR.or {f:G1->G1->Sem G1}{r':R2}(h:OpR X f r)(h':OpR X f r'):OpR X f (λx y H Q=>r x y H Q\/r' x y H Q):=by
 intro pins s σ H x y v u Q I rx ry q;rcases q with q|q
 ·exact h pins s σ H x y v u Q I rx ry q
 ·exact h' pins s σ H x y v u Q I rx ry q
theorem NI (b:M5){op:iI}(h:op≠ .In:=by decide)(h2:op≠ .NotIn:=by decide):W1 op b=false:=by
 have e1:(op==CmpOp.In)=false:=by cases op<;>first|rfl|exact absurd rfl h
 have e2:(op==CmpOp.NotIn)=false:=by cases op<;>first|rfl|exact absurd rfl h2
 cases b<;>simp [W1,e1,e2]
theorem BB {op:iI}(ho:OpR X (B0 op) r)(ha:PE X a ta)(hb:PE X b tb)(hm:W1 op b=false):PE X (.Compare a [op] [b] pos) (tOp r ta tb):=by
 intro pins s σ H Q I h;exact wpAny_Compare1 (Ev ha hb I h λv u s2 x y H2 I2 rx ry q=>ho pins s2 σ H2 x y v u Q I2 rx ry q) hm
def BC (t:TE):TT:=λσ H Q=>t σ H λx H'=> ∃k,x= .bl k/\Q k H'
theorem BD {op:iI}(ho:OpR X (B0 op) r)(ha:PE X a ta)(hb:PE X b tb)(hm:W1 op b=false):PT X (.Compare a [op] [b] pos) (BC (tOp r ta tb)):=by
 intro pins s σ H Q I h;refine wpAny_isTrue_Compare1 (thn (ha pins s σ H _ I h) λv s1 ⟨x,H1,I1,r1,q1⟩=>thn (hb pins s1 σ H1 _ I1 q1) λu s2 ⟨y,H2,I2,r2,q2⟩=>
  thn (ho pins s2 σ H2 x y v u _ I2 r1 r2 q2) λc s3 ⟨z,H3,I3,r3,k,e,q3⟩=> ?_) hm
 subst e;cases r3;exact E1 ⟨H3,I3,q3⟩
def GU (r r':R2)(ta tb tc:TE):TE:=λσ H Q=>ta σ H λx H1=>tb σ H1 λy H2=>r x y H2 λz H3=> ∃k,z= .bl k/\
 (if k=true then tc σ H3 λw' H4=>r' y w' H4 Q else Q (.bl false) H3)
theorem RQ {op op':iI}{r':R2}(ho:OpR X (B0 op) r)(ho':OpR X (B0 op') r')(ha:PE X a ta)(hb:PE X b tb)(hc:PE X c tc)
 (hm:iU [op,op'] [b,c]=false:=by with_unfolding_all rfl):PE X (.Compare a [op,op'] [b,c] pos) (GU r r' ta tb tc):=by
 intro pins s σ H Q I h;refine Compare_chain (thn (ha pins s σ H _ I h) λv s1 ⟨x,H1,I1,r1,q1⟩=>chain_link (thn (hb pins s1 σ H1 _ I1 q1) λu s2 ⟨y,H2,I2,r2,q2⟩=>
  thn (ho pins s2 σ H2 x y v u _ I2 r1 r2 q2) λd s3 ⟨z,H3,I3,r3,k,e,q3⟩=> ?_)) hm
 subst e;cases r3;refine E1 ?_;cases k with
 |false=>exact ite_ff ⟨.bl false,H3,I3,rfl,q3⟩
 |true=>exact ite_tt (chain_last (thn (hc pins s3 σ H3 _ I3 q3) λw' s4 ⟨z',H4,I4,r4,q4⟩=>ho' pins s4 σ H4 y z' u w' Q I4 r2 r4 q4))
theorem RR {op op':iI}{r':R2}(ho:OpR X (B0 op) r)(ho':OpR X (B0 op') r')(ha:PE X a ta)(hb:PE X b tb)(hc:PE X c tc)
 (hm:iU [op,op'] [b,c]=false:=by with_unfolding_all rfl):PT X (.Compare a [op,op'] [b,c] pos) (BC (GU r r' ta tb tc)):=by
 intro pins s σ H Q I h;refine isTrue_chain (thn (ha pins s σ H _ I h) λv s1 ⟨x,H1,I1,r1,q1⟩=>test_link (thn (hb pins s1 σ H1 _ I1 q1) λu s2 ⟨y,H2,I2,r2,q2⟩=>
  thn (ho pins s2 σ H2 x y v u _ I2 r1 r2 q2) λd s3 ⟨z,H3,I3,r3,k,e,q3⟩=> ?_)) hm
 subst e;cases r3;refine E1 ?_;cases k with
 |false=>
  obtain⟨k',e',q'⟩:=q3;cases e';exact ite_ff ⟨H3,I3,q'⟩
 |true=>
  refine ite_tt (test_last (thn (hc pins s3 σ H3 _ I3 q3) λw' s4 ⟨z',H4,I4,r4,q4⟩=>thn (ho' pins s4 σ H4 y z' u w' _ I4 r2 r4 q4) λd' s5 ⟨z2,H5,I5,r5,k2,e2,q5⟩=> ?_));subst e2;cases r5;exact E1 ⟨H5,I5,q5⟩
theorem Ve:(sizeLine:G3)<2^63:=by rw [tU];decide
theorem vK {x:V}{us:G0 G1}(r:Vals [x] us): ∃u,us= [u]/\RelV x u:=by
 cases r with
 |cons r1 r2=>cases r2;exact⟨_,rfl,r1⟩
theorem RS {x y:V}{us:G0 G1}(r:Vals [x,y] us): ∃u w',us= [u,w']/\RelV x u/\RelV y w':=by
 cases r with
 |cons r1 r2=>
  cases r2 with
  |cons r3 r4=>cases r4;exact⟨_,_,rfl,r1,r3⟩
theorem GV (hc:X.calm=true):CallR X (.builtin "max") (λxs H Q=> ∃i j,xs= [.int i,.int j]/\Q (.int (if j>i then j else i)) H):=by
 intro pins s σ H xs us Q I r h;obtain⟨i,j,rfl,q⟩:=h;obtain⟨u,w',rfl,⟨t,rfl⟩,⟨t',rfl⟩⟩:=RS r;refine max_two_ints (I.ok.hd hc) λh' tk k=>⟨_,H,I.kept k,?_,q⟩
 by_cases hj:j>i
 ·rw [D4 hj,D4 hj];exact⟨_,rfl⟩
 ·rw [D5 hj,D5 hj];exact⟨_,rfl⟩
theorem GW (hc:X.calm=true):CallR X (.builtin "min") (λxs H Q=> ∃i j,xs= [.int i,.int j]/\Q (.int (if j<i then j else i)) H):=by
 intro pins s σ H xs us Q I r h;obtain⟨i,j,rfl,q⟩:=h;obtain⟨u,w',rfl,⟨t,rfl⟩,⟨t',rfl⟩⟩:=RS r;refine min_two_ints (I.ok.hd hc) λh' tk k=>⟨_,H,I.kept k,?_,q⟩
 by_cases hj:j<i
 ·rw [D4 hj,D4 hj];exact⟨_,rfl⟩
 ·rw [D5 hj,D5 hj];exact⟨_,rfl⟩
theorem call_int1:CallR X (.type "int") (λxs H Q=>(∃i,xs= [.int i]/\Q (.int i) H)\/ ∃k,xs= [.bl k]/\Q (.int (if k then 1 else 0)) H):=by
 intro pins s σ H xs us Q I r h;rcases h with ⟨i,rfl,q⟩|⟨k,rfl,q⟩
 ·obtain⟨u,rfl,t,rfl⟩:=vK r;exact call_int_int ⟨.int i,H,I,⟨_,rfl⟩,q⟩
 ·obtain⟨u,rfl,r1⟩:=vK r;cases r1;exact call_int_bool ⟨.int (if k then 1 else 0),H,I.tok _,⟨_,rfl⟩,q⟩
end
structure ObjM (h:F4)(x dx C:P5)(mA:Str->P7 G1):Prop where
 obj:h.get? x=some (k9 C dx)
 ns:h.Ns1 dx mA
 ne:dx≠x
theorem GX {dx:P5}{mA:Str->P7 G1}(n:h.Ns1 dx mA): ∃od,h.get? dx=some od/\ ∀name,lS name od=some (mA name):=by
 obtain⟨o,es,ep,ho,hd,hk,_,hm⟩:=n;refine⟨o,ho,λname=> ?_⟩;have e:=hm name;unfold nsFind findBy at e;rw [<-Array.find?_toList] at e;unfold lS;rw [hd];dsimp only;split
 ·rename_i y q;rw [q] at e;exact congrArg some e
 ·rename_i q;rw [q] at e;have a:es.toList.any (·.refKey)=false:=by
   rw [List.any_eq_false];intro y hy;obtain⟨z,t,hkey⟩:=hk y (lU.mp hy);simp [DictEntry.refKey,hkey]
  have a': ¬es.toList.any (·.refKey)=true:=by rw [a];exact R0
  rw [D5 a'];exact congrArg some e
theorem ObjM.look {x dx C:P5}{mA:Str->P7 G1}(I:ObjM h x dx C mA): ∃od,x4 h x (k9 C dx) C (some od)/\ ∀name,lS name od=some (mA name):=
 let ⟨od,ho,hl⟩:=GX I.ns
 ⟨od,⟨I.obj,rfl,rfl,ho⟩,hl⟩
section
variable {P:S7}{w:N8}{H H':Hp}{h h':F4}{a C dx:P5}{fs fs':G0 (Str×V)}
theorem BE (hok:HOk P w H h)(e:H a=some (.ins C dx fs)): ∃mA,ObjM h a dx C mA/\(∀f,RelO (fs.lookup f) (mA f))/\sT mA (fs.map (·.1))/\fs.length<=1000/\H dx=some (.own a):=by
 obtain⟨d,z,ne,ob,mA,n,r,q⟩:=(show ObjOk P w H h a (.ins C dx fs) from hok a _ e);exact⟨mA,⟨ob,n,ne⟩,r,q,z,d⟩
end
structure Cls (K:G5)(C:P5):Prop where
 pg:o9 K C Str.empty=true
 hd:xH K C=true
 po:xI K C=true
 sa:qS K (.ref C) "__setattr__" =some (some (.builtin "object.__setattr__"))
theorem Cls.get {C:P5}(c:Cls K C)(f:Str):o9 K C f=true:=c.pg
section
variable {X:Cx}{pins:G0 (P5×Obj)}{σ:St}{H:Hp}{s:G2}{A:N3}{E:G1->G2->Prop}{Q:G1->G2->Prop}{c:G1}{b:M7}
inductive TyOf (K:G5)(H:Hp):V->G1->Prop where
 |non:TyOf K H .non (.type "NoneType")
 |bl (x:M7):TyOf K H (.bl x) (.type "bool")
 |int (i:P4):TyOf K H (.int i) (.type "int")
 |str (x:Str):TyOf K H (.str x) (.type "str")
 |flt (x:UInt64):TyOf K H (.flt x) (.type "float")
 |lst {a:P5} {xs:G0 V} (e:H a=some (.lst xs)):TyOf K H (.ref a) (.type "list")
 |frz {a:P5} {o:Obj} {xs:G0 V} (e:H a=some (.frz o (.lst xs))):TyOf K H (.ref a) (.type "list")
 |tup {a:P5} {xs:G0 V} (e:H a=some (.tup xs)):TyOf K H (.ref a) (.type "tuple")
 |dK {a:P5} {kvs:G0 (Key×V)} (e:H a=some (.dK kvs)):TyOf K H (.ref a) (.type "dict")
 |dT {a:P5} {kvs:G0 (G0 Key×V)} (e:H a=some (.dT kvs)):TyOf K H (.ref a) (.type "dict")
 |ins {a C dx:P5} {fs:G0 (Str×V)} (e:H a=some (.ins C dx fs)) (cl:Cls K C) (ha:qS K (.ref C) "__class__" =some (some (.builtin "object.__class__")))
  (hn:xJ K (.builtin "object.__class__") "__get__" =some (some (.builtin "getset_descriptor.__get__"))) (htk:xY K (.builtin "object.__class__")=some true)
  (hm:IC K C (.type "object")=some true):TyOf K H (.ref a) (.ref C)
theorem GY {x:V}{u t:G1}(I:Inv X pins σ H s)(rx:RelV x u)(ty:TyOf X.K H x t)(e:lV X.K t c=some b)(h: ∀tk,Q (.bool b) {s with toks:=tk}):
 R7 (S2 X.prog X.w) A (call (.builtin "isinstance") [u,c]) Q E s:=by
 cases ty with
 |non=>cases (show u=kI from rx);exact K4 xK I.kIn aV e (λz=>nomatch z) h
 |bl y=>cases (show u=gL y from rx);exact K4 xL I.kIn aV e (λz=>nomatch z) h
 |int i=>obtain⟨t,q⟩:=(show ∃t,u=dJ i t from rx);cases q;exact K4 xP I.kIn aV e (λz=>nomatch z) h
 |str y=>obtain⟨t,q⟩:=(show ∃t,u=mT y t from rx);cases q;exact K4 xQ I.kIn aV e (λz=>nomatch z) h
 |flt y=>obtain⟨t,q⟩:=(show ∃t,u=tO y t from rx);cases q;exact K4 u4 I.kIn aV e (λz=>nomatch z) h
 | @lst a xs ea=>
  cases (show u=L6 a from rx);obtain⟨_,_,n,_,h1⟩:=(show ObjOk X.prog X.w H s.heap a (.lst xs) from I.hok a _ ea);exact K4 n4 I.kIn ⟨_,h1,rfl⟩ e (λz=>nomatch z) h
 | @frz a ob xs ea=>
  cases (show u=L6 a from rx);obtain⟨_,_,_,n,_,h1⟩:=(show ObjOk X.prog X.w H s.heap a (.frz ob (.lst xs)) from I.hok a _ ea);exact K4 n4 I.kIn ⟨_,h1,rfl⟩ e (λz=>nomatch z) h
 | @tup a xs ea=>
  cases (show u=L6 a from rx);obtain⟨_,_,_,p⟩:=(show ObjOk X.prog X.w H s.heap a (.tup xs) from I.hok a _ ea);obtain⟨o,h1,h2,_⟩:=p;exact K4 u5 I.kIn ⟨o,h1,h2⟩ e (λz=>nomatch z) h
 | @dK a kvs ea=>
  cases (show u=L6 a from rx);obtain⟨_,_,vs,_,p⟩:=(show ObjOk X.prog X.w H s.heap a (.dK kvs) from I.hok a _ ea);obtain⟨o,es,ep,h1,h2,_⟩:=p;exact K4 n6 I.kIn ⟨o,h1,h2.1⟩ e (λz=>nomatch z) h
 | @dT a kvs ea=>
  cases (show u=L6 a from rx);obtain⟨_,_,xs,_,o,es,ep,h1,h2,_⟩:=(show ObjOk X.prog X.w H s.heap a (.dT kvs) from I.hok a _ ea);exact K4 n6 I.kIn ⟨o,h1,h2.1⟩ e (λz=>nomatch z) h
 | @ins a C dx fs ea cl ha hn htk hm=>
  cases (show u=L6 a from rx);obtain⟨mA,O,_⟩:=BE I.hok ea;obtain⟨od,J,_⟩:=O.look;exact K4 (xR (cl.get _) cl.hd ha hn htk hm) I.kIn J e (λz=>nomatch z) h
end
structure Room (k:G3)(A:N3):Prop where
 hd:A.handled=none
 dp:A.depth+3*k+5<recursionLimit
 un:A.units+16*k+200<cLine
 gd:A.guards=some []
variable {k:G3}
theorem Room.deeper (r:Room (k+1) A)(env:Env):Room k (A.deeper env):=
 ⟨r.hd,by have:=r.dp;show A.depth+1+3*k+5<_;omega,by have:=r.un;show A.units+3+16*k+200<_;omega,r.gd⟩
theorem Room.depth (r:Room k A):A.depth<recursionLimit:=by have:=r.dp;omega
theorem Room.units (r:Room k A):A.units+64<cLine:=by have:=r.un;omega
def Th:TA:=λ_ H Q=>Q [] H
def LJ (ta:TE)(tr:TA):TA:=λσ H Q=>ta σ H λx H1=>tr σ H1 λxs H2=>Q (x::xs) H2
section
variable {X:Cx}{e:M5}{es:G0 M5}{te:TE}{t:TA}{pos:Pos}
theorem pa_nil:PA X [] Th:=λ_ _ _ _ H Q I h=>n8 ⟨[],H,I,.nil,h⟩
theorem yu (ha:PE X e te)(hr:PA X es t)(hs:R4 (e::es) X.env=(false,E5 e X.env)::R4 es X.env:=by rfl):PA X (e::es) (LJ te t):=by
 intro pos pins s σ H Q I h;rw [hs];show R7 _ _ (spliced ((false,E5 e X.env)::K6 pos (R4 es X.env))) _ _ s;refine gR (thn (ha pins s σ H _ I h) λu s1 ⟨x,H1,I1,r1,q1⟩=> ?_);exact thn (hr pos pins s1 σ H1 _ I1 q1) λus s2 ⟨xs,H2,I2,r2,q2⟩=>⟨x::xs,H2,I2,.cons r1 r2,q2⟩
def Ti (t:TA):TE:=λσ H Q=>t σ H λxs H1=>xs.length<=sizeLine/\ ∀p,H1 p=none->Q (.ref p) (upd H1 p (.tup xs))
def Tj (t:TA):TE:=λσ H Q=>t σ H λxs H1=>xs.length<=sizeLine/\ ∀p,H1 p=none->Q (.ref p) (upd H1 p (.lst xs))
theorem LK {x1}(h:PA X es t):PE X (.Tuple es x1 pos) (Ti t):=by
 intro pins s σ H Q I hq;refine wpAny_Tuple_spliced (thn (h pos pins s σ H _ I hq) λus s1 ⟨xs,H1,I1,r,z,q⟩=>⟨by rw [<-r.length];exact z,?_⟩);have hf:H1 s1.heap.objs.size=none:=I1.hok.fresh (P2 _);refine⟨.ref s1.heap.objs.size,upd H1 s1.heap.objs.size (.tup xs),I1.laid (t':=s1.toks) (λb u e=>P1 _ e) (P2 _) ?_,rfl,q _ hf⟩;exact⟨z,us,r,IsTupN.new _ _⟩
theorem LL (h:PA X es t):PE X (.List es pos) (Tj t):=by
 intro pins s σ H Q I hq;refine wpAny_List_spliced (thn (h pos pins s σ H _ I hq) λus s1 ⟨xs,H1,I1,r,z,q⟩=>⟨by rw [<-r.length];exact z,?_⟩);have hf:H1 s1.heap.objs.size=none:=I1.hok.fresh (P2 _);refine⟨.ref s1.heap.objs.size,upd H1 s1.heap.objs.size (.lst xs),I1.laid (t':=s1.toks) (λb u e=>P1 _ e) (P2 _) ?_,rfl,q _ hf⟩;exact⟨z,us,0,r,T5 _ rfl⟩
end
abbrev Sp:=G0 V->Hp->VK->XK->Prop
abbrev CXT:=G0 Env->Hp->G2->XK->G1->G2->Prop
structure Env0 (P:S7)(w:N8)(K:G5)(mg:Str->P7 G1)(base:F4)(A:N3)(outer:G0 Env)(s:G2)(H:Hp):Prop where
 frames:A.frames=some outer
 mod:Mod K mg base
 bs: ∀b o,base.get? b=some o->s.heap.get? b=some o/\H b=none
 bsz:base.objs.size<=s.heap.objs.size
 funs:s.heap.FunFrames base outer
 frf: ∀b∈frs outer,H b=none
 hok:HOk P w H s.heap
 bare:iG s.gens
def CE (outer:G0 Env)(P:S7)(w:N8)(H:Hp)(s:G2)(Q:VK)(u:G1)(s':G2):Prop:=
 ∃v H',s'.os=s.os/\iG s'.gens/\Un (frs outer) [] H H' s.heap s'.heap/\HOk P w H' s'.heap/\RelV v u/\Q v H'
def CR (CX:CXT)(outer:G0 Env)(P:S7)(w:N8)(H:Hp)(s:G2)(Q:VK)(E:XK)(r:pA)(s':G2):Prop:=
 match r with
 | .ok (.ret u)=>CE outer P w H s Q u s'
 | .ok _=>False
 | .error e=>CX outer H s E e s'
structure FnOk (P:S7)(w:N8)(K:G5)(mg:Str->P7 G1)(base:F4)(CX:CXT)(k:G3)(f:P5)(fd:N9)(ps:G0 Str)(sp:Sp):Prop where
 len: ∀vs H Q E,sp vs H Q E->vs.length=ps.length
 run: ∀ (A:N3) (outer:G0 Env) (s:G2) (H:Hp) (args:Args) (us:G0 G1) (vs:G0 V) (Q:VK) (E:XK),Room k A->Env0 P w K mg base A outer s H->qK s fd args (ps.zip us)->Vals vs us->sp vs H Q E->
  aL (S2 P w) A (.call (.ref f) args) (CR CX outer P w H s Q E) s
section
variable {X:Cx}{pins:G0 (P5×Obj)}{σ:St}{H:Hp}{s s':G2}
theorem Inv.env0 (I:Inv X pins σ H s):Env0 X.prog X.w X.K X.mg X.base X.A X.stack s H:=
 ⟨I.ok.frames,I.ok.mod,I.bs,S4 I.ok.bsz I.sz,I.stack,I.stkFree,I.hok,I.bare⟩
theorem Inv.after {Q:VK}{u:G1}(I:Inv X pins σ H s)(h:CE X.stack X.prog X.w H s Q u s'):EP X pins σ Q u s':=by
 obtain⟨v,H',os,bare,un,hok,r,q⟩:=h;obtain⟨hh,g,d,t,os'⟩:=s';obtain rfl:os'=s.os:=os;exact⟨v,H',I.call (h':=hh) (g':=g) (d':=d) (t':=t) (ch:= []) un hok bare (λb z=>absurd z (by simp)),r,q⟩
end
def LM (sp:Sp)(dvs:G0 V)(E:XK)(t:TA):TE:=λσ H Q=>t σ H λvs H1=>sp (vs++dvs) H1 Q E
def Binds (K:G5)(fd:N9)(ps:G0 Str)(ds:G0 G1):Prop:=
 ∀ (s:G2) (us:G0 G1),K.In s.heap->(us++ds).length=ps.length->qK s fd ⟨us,[]⟩ (ps.zip (us++ds))
theorem Binds.all {fd:N9}{ps:G0 Str}(h: ∀us:G0 G1,us.length=ps.length->tV fd ⟨us,[]⟩=pure (ps.zip us)):Binds K fd ps []:=λs us _ hl=>by
 rw [J4] at hl ⊢;exact .of_eq (h us hl)
def GZ (CX:CXT)(X:Cx)(E:XK):Prop:= ∀ (pins:G0 (P5×Obj)) (σ:St) (H:Hp) (s:G2) (e:G1) (s':G2),Inv X pins σ H s->CX X.stack H s E e s'->X.xe e s'
section
variable {X:Cx}{CX:CXT}{k:G3}{f C:P5}{fd:N9}{ps:G0 Str}{sp:Sp}{dvs:G0 V}{ds:G0 G1}{E:XK}{x m:Str}{p pos apos:Pos}{e o:M5}{es:G0 M5}{ta:TE}{t:TA}
theorem LP {pins:G0 (P5×Obj)}{σ:St}{H:Hp}{s:G2}{Q:VK}{us:G0 G1}{vs:G0 V}(F:FnOk X.prog X.w X.K X.mg X.base CX k f fd ps sp)(hr:Room k X.A)(hb:Binds X.K fd ps ds)(hd:Vals dvs ds)(hx:GZ CX X E)
 (I:Inv X pins σ H s)(r:Vals vs us)(h:sp (vs++dvs) H Q E):R7 (S2 X.prog X.w) X.A (call (.ref f) us) (EP X pins σ Q) X.xe s:=by
 have r2:Vals (vs++dvs) (us++ds):=r.append hd;have hl:(us++ds).length=ps.length:=by rw [<-r2.length];exact F.len _ _ _ _ h
 refine wpAny_call (gH (F.run X.A X.stack s H ⟨us,[]⟩ (us++ds) (vs++dvs) Q E hr I.env0 (hb s us I.kIn hl) r2 h) λr s' hq=> ?_);cases r with
 |error e=>exact hx pins σ H s e s' I hq
 |ok fl=>
  cases fl with
  |ret u=>exact I.after hq
  |next=>exact False.elim hq
  |brk=>exact False.elim hq
  |cont=>exact False.elim hq
theorem BF (F:FnOk X.prog X.w X.K X.mg X.base CX k f fd ps sp)(hr:Room k X.A)(hg:Gl X x)(hm:X.mg x=some (.ref f))(hk:a5 X.K (.ref f)=true)(hb:Binds X.K fd ps ds)(hd:Vals dvs ds)(hx:GZ CX X E)
 (ha:PA X (e::es) t)(hdb:(x==("__debug__" :Str))=false:=by decide)(he:R4 (e::es) X.env=(false,E5 e X.env)::R4 es X.env:=by rfl)(hpl:(K6 pos (R4 es X.env)).any (·.1)=false:=by rfl):
 PE X (.Call (.Name x p) (e::es) [] pos) (LM sp dvs E t):=by
 intro pins s σ H Q I h;refine gS (GN I hg hm ?_ hdb);refine u6 (h₀:=X.base) I.ok.mod.kin hk (thn (ha pos pins s σ H _ I h) λus s1 ⟨vs,H1,I1,r,q⟩=>⟨I1.kIn,?_⟩) he hpl;exact LP F hr hb hd hx I1 r q
end
structure FnScope (N P:G0 Str)(sc:U2):Prop where
 kind:sc.kind= .function
 co:sc.isCoroutine=false
 gen:sc.isGenerator=false
 nd:N.Nodup
 pre:N.take P.length=P
 par: ∀x∈P,sc.names.lookup x=some .local\/sc.names.lookup x=some .cell
 nofree: ∀y∈sc.names,y.2≠ .free
variable {kindOf:Str->P7 NameKind}{x:Str}
theorem Vf: ∀ {binds:G0 (Str×G1)} {m:Str->P7 G1},(∀v,(x,v) ∉ binds)->qT kindOf binds m x=m x
 | [],_,_=>rfl
 |(n,v)::r,m,h=>by
  unfold qT;rw [Vf λw hw=>h w (R3 _ hw)];split
  ·have:x≠n:=by rintro rfl;exact h v P6
   simp [this]
  ·rfl
theorem Vg: ∀ {binds:G0 (Str×G1)} {m:Str->P7 G1},(∀v,(x,v) ∉ binds)->qU kindOf binds m x=m x
 | [],_,_=>rfl
 |(n,v)::r,m,h=>by
  unfold qU;rw [Vg λw hw=>h w (R3 _ hw)];split
  ·rfl
  ·have:x≠n:=by rintro rfl;exact h v P6
   simp [this]
theorem Vh {v:G1}: ∀ {P:G0 Str} {vs:G0 G1} {i:G3} {m:Str->P7 G1},P.Nodup->P[i]? =some x->vs[i]? =some v->kindOf x=some .local->
 qT kindOf (P.zip vs) m x=some v
 | [],_,_,_,_,h,_,_=>by simp at h
 |_::_,[],_,_,_,_,h,_=>by simp at h
 |p::P,w::vs,0,m,nd,h1,h2,hk=>by
  simp at h1 h2;subst h1;subst h2;show qT kindOf ((p,w)::P.zip vs) m p=_;unfold qT;rw [Vf λv hv=>(L9.mp nd).1 (lA hv).1,D4 hk];simp
 |p::P,w::vs,i+1,m,nd,h1,h2,hk=>by
  show qT kindOf ((p,w)::P.zip vs) m x=_;unfold qT;exact Vh (i:=i) (L9.mp nd).2 (by simpa using h1) (by simpa using h2) hk
theorem Vi {v:G1}: ∀ {P:G0 Str} {vs:G0 G1} {i:G3} {m:Str->P7 G1},P.Nodup->P[i]? =some x->vs[i]? =some v->kindOf x≠some .local->
 qU kindOf (P.zip vs) m x=some v
 | [],_,_,_,_,h,_,_=>by simp at h
 |_::_,[],_,_,_,_,h,_=>by simp at h
 |p::P,w::vs,0,m,nd,h1,h2,hk=>by
  simp at h1 h2;subst h1;subst h2;show qU kindOf ((p,w)::P.zip vs) m p=_;unfold qU;rw [Vg λv hv=>(L9.mp nd).1 (lA hv).1,D5 hk];simp
 |p::P,w::vs,i+1,m,nd,h1,h2,hk=>by
  show qU kindOf ((p,w)::P.zip vs) m x=_;unfold qU;exact Vi (i:=i) (L9.mp nd).2 (by simpa using h1) (by simpa using h2) hk
def start (N:G0 Str)(vs:G0 V):St:=vs.map some++N5 (N.length-vs.length) none
def RT (CX:CXT)(P:S7)(w:N8)(K:G5)(mg:Str->P7 G1)(base:F4)(N:G0 Str)(qual:Str)(scope:U2)(f:P5)(cd:G1)(A:N3)(outer:G0 Env)(s:G2)(H:Hp)(E:XK):Cx where
 prog:=P
 w:=w
 K:=K
 mg:=mg
 base:=base
 A:=A.deeper (gU qual scope s.heap.objs.size f cd)
 N:=N
 s₀:=s
 H₀:=H
 env:=gU qual scope s.heap.objs.size f cd
 outer:=outer
 stack:=gU qual scope s.heap.objs.size f cd::outer
 ex:= []
 calm:=true
 fn:=λ_=>true
 pn:= []
 xe:=λe s'=>R7 (S2 P w) (A.deeper (gU qual scope s.heap.objs.size f cd)) (leaving (gU qual scope s.heap.objs.size f cd) e) (λ_ s''=>CX outer H s E e s'') (λe' s''=>CX outer H s E e' s'') s'
theorem vL {sc:U2}{n:G3}(h:sc.names.lookup x=some .cell): ∃c,(V1 n sc.names []).lookup x=some c:=by
 have q:=kK sc.names n [] (.inl h);exact cX.mp q
theorem Pa {CX:CXT}{mg:Str->P7 G1}{base:F4}{N ps:G0 Str}{qual:Str}{scope:U2}{f:P5}{cd:G1}{outer:G0 Env}{s1:G2}{E:XK}{us:G0 G1}{vs:G0 V}
 (S:FnScope N ps scope)(hd:A.handled=none)(e0:Env0 P w K mg base A outer s H)(hl:vs.length=ps.length)(r:Vals vs us)
 (x:InCallC s s.heap.objs.size (qT (gU qual scope s.heap.objs.size f cd).kindOf (ps.zip us) λ_=>none) (V1 (s.heap.objs.size+1) scope.names []) (qU (gU qual scope s.heap.objs.size f cd).kindOf (ps.zip us) λ_=>none) s1):
 Inv (RT CX P w K mg base N qual scope f cd A outer s H E) [] (start N vs) H s1:=by
 have hpl:ps.length<=N.length:=by have:=congrArg fY S.pre;rw [T3] at this;omega
 obtain⟨h1,tk,rfl,hk⟩:=x.done;have noA: ∀b:P5,b ∉ (RT CX P w K mg base N qual scope f cd A outer s H E).ex:=λb z=>absurd (show b∈([]:G0 P5) from z) (by simp)
 refine⟨⟨e0.mod,S.kind,rfl,rfl,P2 _,λy z c h1 h2=> ?_,λy hy=> ?_,λy c _ h=> ?_,λ_=>hd,Around.frames_deeper e0.frames,.inr ⟨rfl,rfl⟩,λb z=>absurd z (noA b),e0.bs,e0.bsz,λb _ _=>noA b,λb z=>absurd z (noA b),e0.funs,e0.frf⟩,
  rfl,e0.bare,Un.kept hk,⟨_,x.toInCall.ns,λi y v h1 h2 h3=> ?_⟩,λy c h=>⟨_,x.cell y c h⟩,e0.hok.fresh (P2 _),λy c h=> ?_,λp hp=>absurd (show p∈([]:G0 (P5×Obj)) from hp) (by simp),e0.hok.kept hk,?_⟩
 ·exact n9 x.apart (aZ h1) (aZ h2)
 ·have hy:scope.names.lookup y=some .cell\/scope.names.lookup y=some .free:=hy;rcases hy with hy|hy
  ·exact vL hy
  ·exact absurd rfl (S.nofree _ (aZ hy))
 ·exact R9 (x.above y c (aZ h))
 ·have hi:i<vs.length:=by
   unfold start at h2
   by_cases hi:i<vs.length
   ·exact hi
   ·rw [S0 (by simpa using hi)] at h2;rw [iV] at h2;split at h2<;>cases h2
  have ha:vs[i]? =some v:=by
   unfold start at h2;rw [N2 (by simpa using hi),D2] at h2;cases e:vs[i]? with
   |none=>rw [e] at h2;cases h2
   |some a=>rw [e] at h2;cases h2;rfl
  obtain⟨u,hu,rv⟩:=r.get ha;have hp:ps[i]? =some y:=by
   rw [<-S.pre,cY (by omega)];exact h1
  have ndP:ps.Nodup:=by rw [<-S.pre];exact S.nd.sublist (aM _ _)
  refine⟨u,rv,?_⟩;rcases S.par y (D0 hp) with k|k
  ·exact .inl ⟨k,Vh ndP hp hu k⟩
  ·obtain⟨c,e⟩:=vL (n:=s.heap.objs.size+1) k;refine .inr ⟨.inl k,c,e,?_⟩;have q:=x.cell y c e;rw [Vi ndP hp hu (by show scope.names.lookup y≠_;rw [k];decide)] at q;exact q
 ·exact e0.hok.fresh (R9 (x.above y c (aZ h)))
 ·unfold start;show _=N.length;rw [P0,G8,lJ];omega
theorem EC {CX:CXT}{mg:Str->P7 G1}{base:F4}{f:P5}{name qual:Str}{params:Arguments}{body:G0 J9}{scope:U2}{dV kV doc pm cdv ct oc:G1}{an od:P7 P5}{osl:S9 (P7 G1)}{N ps:G0 Str}{sp:Sp}(lk:K.lookup f=some ⟨oc,od,.func (cJ name qual params body scope dV kV doc pm an cdv ct),osl⟩)(hcd:lW K cdv qual=true)(S:FnScope N ps scope)
 (len: ∀vs H Q E,sp vs H Q E->vs.length=ps.length)
 (hbody: ∀ (A:N3) (outer:G0 Env) (s:G2) (H:Hp) (vs:G0 V) (Q:VK) (E:XK),Room k (A.deeper (gU qual scope s.heap.objs.size f cdv))->sp vs H Q E->
  ∃t,PSs (RT CX P w K mg base N qual scope f cdv A outer s H E) body t/\t {nx:=λ_ H'=>Q .non H',rt:=Q} (start N vs) H):
 FnOk P w K mg base CX (k+1) f (cJ name qual params body scope dV kV doc pm an cdv ct) ps sp:=by
 refine⟨len,λA outer s H args us vs Q E hr e0 hb r hsp=> ?_⟩;have hl:=len _ _ _ _ hsp;have KX:K.In s.heap:=e0.mod.kin.keeps λb o e=>(e0.bs b o e).1
 have lim:s.heap.NoLimit:=e0.mod.nolimit.keeps λb o e=>(e0.bs b o e).1
 have hkind: ∀y∈ps.zip us,scope.names.lookup y.1=some .local\/(scope.names.lookup y.1=some .cell/\((V1 (s.heap.objs.size+1) scope.names []).lookup y.1).isSome=true):=λ⟨n,v⟩ hy=>by
  rcases S.par n (lA hy).1 with q|q
  ·exact .inl q
  ·exact .inr ⟨q,kK _ _ _ (.inl q)⟩
 refine codeAny_call_function hr.depth (KX _ _ lk) rfl S.co S.gen rfl (u7 KX hcd) (hb _ _ _ _ ?_);refine wpAny_newFunctionEnv_cells S.kind hkind λenv he s1 x=> ?_
 subst he;refine⟨lim.keeps x.toInCall.keep,codeAny_func ?_⟩;obtain⟨t,ht,hq⟩:=hbody A outer s H vs Q E (hr.deeper _) hsp;have I:Inv (RT CX P w K mg base N qual scope f cdv A outer s H E) [] (start N vs) H s1:=Pa S hr.hd e0 hl r x;refine M9 (ht [] s1 (start N vs) H _ I hq) (λfl s' hs=> ?_) λe s' hs=>hs
 have fin: ∀ {IF:St} {H':Hp} {v:V} {u:G1},Inv (RT CX P w K mg base N qual scope f cdv A outer s H E) [] IF H' s'->RelV v u->Q v H'->CE outer P w H s Q u s':=
  λ{IF H' v u} J rv q=>⟨v,H',J.os,J.bare,J.base,J.hok,rv,q⟩
 cases fl with
 |ret u=>
  obtain⟨v,IF,H',J,rv,q⟩:=hs;exact fin J rv q
 |next=>
  obtain⟨IF,H',J,q⟩:=hs;exact fin (v:=V.non) (u:=kI) J rfl q
 |brk=>
  obtain⟨_,_,_,q⟩:=hs;exact False.elim q
 |cont=>
  obtain⟨_,_,_,q⟩:=hs;exact False.elim q
section
variable {X:Cx}{x:Str}{p pos:Pos}{e:M5}{es:G0 M5}{t:TA}{id T:V8}{r:G0 V->Hp->VK->Prop}
def tCB (r:G0 V->Hp->VK->Prop)(t:TA):TE:=λσ H Q=>t σ H λvs H1=>r vs H1 Q
theorem Zn (hc:CallR X (.builtin id) r)(hg:Gl X x)(hm:X.mg x=none)(hv:Q5 x=some (.builtin id))(ha:PA X (e::es) t)(hn:x≠ "__name__" :=by decide)(hdb:(x==("__debug__" :Str))=false:=by decide)
 (he:R4 (e::es) X.env=(false,E5 e X.env)::R4 es X.env:=by rfl)(hpl:(K6 pos (R4 es X.env)).any (·.1)=false:=by rfl):PE X (.Call (.Name x p) (e::es) [] pos) (tCB r t):=by
 intro pins s σ H Q I h;refine gS (WI I hg hm hv ?_ hn hdb);exact pB (thn (ha pos pins s σ H _ I h) λus s1 ⟨vs,H1,I1,r1,q1⟩=>hc pins s1 σ H1 vs us Q I1 r1 q1) he hpl
theorem Vj (hc:CallR X (.type T) r)(hg:Gl X x)(hm:X.mg x=none)(hv:Q5 x=some (.type T))(ha:PA X (e::es) t)(hn:x≠ "__name__" :=by decide)(hdb:(x==("__debug__" :Str))=false:=by decide)
 (he:R4 (e::es) X.env=(false,E5 e X.env)::R4 es X.env:=by rfl)(hpl:(K6 pos (R4 es X.env)).any (·.1)=false:=by rfl):PE X (.Call (.Name x p) (e::es) [] pos) (tCB r t):=by
 intro pins s σ H Q I h;refine gS (WI I hg hm hv ?_ hn hdb);exact Y1 (thn (ha pos pins s σ H _ I h) λus s1 ⟨vs,H1,I1,r1,q1⟩=>hc pins s1 σ H1 vs us Q I1 r1 q1) he hpl
end
end L2
namespace HT
open PySem PyProof.Rows
def jy:G0 P4->G0 P4->M7
 | [],[]=>false
 | [],_::_=>true
 |_::_,[]=>false
 |x::xs,y::ys=>if x=y then jy xs ys else decide (x<y)
theorem WJ (x y:P4)(xs ys:G0 P4):jy (x::xs) (y::ys)=if x=y then jy xs ys else decide (x<y):=rfl
theorem Yi:jy [] []=false:=rfl
theorem Wv (y:P4)(ys:G0 P4):jy [] (y::ys)=true:=rfl
theorem Ww (x:P4)(xs:G0 P4):jy (x::xs) []=false:=rfl
theorem XD (A:N3)(s:G2)(a:P4)(t:Tok)(c:P4)(u:Tok): ∃e,SeqAt.EqAt A s (.int a t) (.int c u) e/\(e=true↔a=c):=
 ⟨(a==c),SeqAt.EqAt.int_int a t c u,by simp⟩
theorem RU (A:N3)(s:G2)(a:P4)(t:Tok)(c:P4)(u:Tok)(prog:S7)(w:N8)(E:G1->G2->Prop)(Q:G1->G2->Prop)(h:Q (.bool (decide (a<c))) s):
 R7 (S2 prog w) A (dL .Lt (.int a t) (.int c u)) Q E s:=
 (gG h:R7 (S2 prog w) A (B0 .Lt (.int a t) (.int c u)) Q E s)
section
open PySem.SeqAt
open PySem.AutoSeq1 (wpAny_loadPart')
open PySem.MeetsSeq PySem.MeetsSeq2 PySem.MeetsSeq3
theorem vM (l b:P5)(items items2:S9 G1)(n n2:G3)(dd dd2:P7 P5)(sl sl2:S9 (P7 G1))(ns ms:G0 P4)(hi:U3 items.toList ns)(hj:U3 items2.toList ms):
 Meets (Builtin.«tuple.__lt__» ⟨[.ref l,.ref b],[]⟩)
  (λ_ R s=>s.heap.get? l=some {cls:= .type "tuple",dict:=dd,data:= .seq items n,slots:=sl}/\s.heap.get? b=some {cls:= .type "tuple",dict:=dd2,data:= .seq items2 n2,slots:=sl2}/\
   R (.ok (.ret (.bool (jy ns ms)))) s):=
 .of_wp λprog w A R s h=>by
  obtain⟨hp,g,d,tk,os⟩:=s;obtain⟨hl,hb,h⟩:=h;have f2:=AutoSeq1.sub_tuple_tuple;have z1:items.size=ns.length:=by rw [<-hi.length];simp
  have z2:items2.size=ms.length:=by rw [<-hj.length];simp
  wp_walk using N7 hl,N7 hb,iW _ (λrest b s'=>b.1=none/\s'=⟨hp,g,d,tk,os⟩/\ ∃ (vs ws:G0 G1) (ns' ms':G0 P4),rest=vs.zip ws/\
   U3 vs ns'/\U3 ws ms'/\ns'.length+items2.size=ms'.length+items.size/\R (.ok (.ret (.bool (jy ns' ms')))) ⟨hp,g,d,tk,os⟩) _
  case turn=>
   rintro ⟨y,x⟩ rest b s' ⟨hb',rfl,vs,ws,ns',ms',hz,hvi,hwi,hlen,hR⟩;cases hvi with
   |nil=>rw [iJ] at hz;cases hz
   |cons a t hvi'=>
    cases hwi with
    |nil=>rw [nK] at hz;cases hz
    |cons c u hwi'=>
     rw [Q9] at hz;injection hz with hyx hrest
     injection hyx with hy hx
     subst hy hx;rw [WJ] at hR;simp only [D8] at hlen;obtain⟨e,he,hiff⟩:=XD A.in1 ⟨hp,g,d,tk,os⟩ a t c u;refine wpAny_bind (he prog w _ _ ?_);cases e with
     |true=>
      rw [D4 (hiff.mp rfl)] at hR
      wp_walk
      exact⟨rfl,rfl,_,_,_,_,hrest,hvi',hwi',by omega,hR⟩
     |false=>
      rw [D5 (λq=>absurd (hiff.mpr q) R0)] at hR;have hri:=RU A.in1 ⟨hp,g,d,tk,os⟩ a t c u prog w
      wp_walk using hri
      exact⟨_,rfl,by simpa using hR⟩
  case fin=>
   rintro ⟨b1,b2⟩ s' ⟨hb',rfl,vs,ws,ns',ms',hz,hvi,hwi,hlen,hR⟩;simp only at hb';subst hb';have hv:jy ns' ms'=decide (items.size<items2.size):=by
    cases hvi with
    |nil=>
     cases hwi with
     |nil=>
      simp only [B2] at hlen;rw [Yi];exact(T6 (by omega)).symm
     |cons c u hw=>
      simp only [B2,D8] at hlen;rw [Wv];exact(D9 (by omega)).symm
    |cons a t hv=>
     cases hwi with
     |nil=>
      simp only [B2,D8] at hlen;rw [Ww];exact(T6 (by omega)).symm
     |cons c u hw=>
      rw [Q9] at hz;cases hz
   rw [hv] at hR
   wp_walk
   exact⟨_,rfl,by simpa [fF] using hR⟩
  case h=>
   exact⟨rfl,rfl,items.toList,items2.toList,ns,ms,rfl,hi,hj,by omega,h⟩
end
section
variable {prog:S7}{w:N8}{A:N3}{E:G1->G2->Prop}{s:G2}
theorem QD {l b:P5}{items items2:S9 G1}{ns ms:G0 P4}{Q:G1->G2->Prop}(hl:m9 s.heap l items)(hb:m9 s.heap b items2)(hi:U3 items.toList ns)(hj:U3 items2.toList ms)
 (hu:A.units<cLine)(h:Q (.bool (jy ns ms)) s):R7 (S2 prog w) A (B0 .Lt (.ref l) (.ref b)) Q E s:=by
 obtain⟨⟨cls,dd,data,sl⟩,ho,hc,n,hd⟩:=id hl;obtain⟨⟨cls2,dd2,tW,sl2⟩,ho2,hc2,n2,hd2⟩:=id hb;simp only at hc hd hc2 hd2;subst hc hd hc2 hd2;exact dX (op:= .Lt) ⟨_,ho,rfl⟩ ⟨_,ho2,rfl⟩ bT dY (dM _ _) (vM l b items items2 n n2 dd dd2 sl sl2 ns ms hi hj)
  ⟨ho,ho2,show gL (jy ns ms)≠Value.notImplemented/\Q (.bool (jy ns ms)) s from ⟨(λx=>nomatch x),h⟩⟩ hu
theorem BG {t b:P5}{vs ws:G0 G1}{Q:G1->G2->Prop}(ht:m9 s.heap t vs.toArray)(hb:m9 s.heap b ws.toArray)(hv:vs≠ [])
 (h1:ws= []->Q (.ref t) s)(h2:ws≠ []->Q (.ref s.heap.objs.size) {s with heap:=s.heap.push {cls:= .type "tuple",data:= .seq (vs++ws).toArray}})
 (hsz:vs.length+ws.length<=sizeLine):R7 (S2 prog w) A (J3 .Add (.ref t) (.ref b)) Q E s:=by
 obtain⟨⟨cls,dd,data,sl⟩,ho,hc,n,hd⟩:=id ht;obtain⟨⟨cls2,dd2,tW,sl2⟩,ho2,hc2,n2,hd2⟩:=id hb;simp only at hc hd hc2 hd2;subst hc hd hc2 hd2;have e:vs.toArray++ws.toArray=(vs++ws).toArray:=by simp
 by_cases hw:ws= []
 ·exact oA ⟨_,ho,rfl⟩ ⟨_,ho2,rfl⟩ iY nB dZ dN (cZ _ _)
   (tuple_addW1 t b vs.toArray ws.toArray n n2 dd dd2 sl sl2 (by simpa using hv) (by simp [hw])) ⟨ho,ho2,h1 hw⟩
 ·refine oA ⟨_,ho,rfl⟩ ⟨_,ho2,rfl⟩ iY nB dZ dN (cZ _ _)
   (tuple_addW2 t b vs.toArray ws.toArray n n2 dd dd2 sl sl2 (by simpa using hv) (by simpa using hw) (by rw [S6,S6];exact hsz)) ⟨ho,ho2,?_⟩
  rw [e];exact h2 hw
def sIx (n d:G3):P7 P4->G3
 |none=>d
 |some v=>if v<0 then (v+(n:P4)).toNat else min v.toNat n
theorem LQ (n d:G3)(hd:d<=n)(o:P7 P4):sIx n d o<=n:=by
 cases o with
 |none=>exact hd
 |some v=>
  show (if v<0 then (v+(n:P4)).toNat else min v.toNat n)<=n
  by_cases hv:v<0
  ·rw [D4 hv];omega
  ·rw [D5 hv];exact Y7 _ _
theorem Pb (v:P4)(n d:G3):(if v<0 then max (v+(n:P4)) 0 else min v (n:P4))=((sIx n d (some v):G3):P4):=by
 show (if v<0 then max (v+(n:P4)) 0 else min v (n:P4))=(((if v<0 then (v+(n:P4)).toNat else min v.toNat n):G3):P4)
 by_cases hv:v<0
 ·simp only [D4 hv];omega
 ·simp only [D5 hv];omega
theorem QF (lo hi:P7 P4)(n:G3):cP lo hi 1 (n:P4)=(((sIx n 0 lo:G3):P4),((sIx n n hi:G3):P4)):=by
 have h1: ¬ ((1:P4)<0):=by omega
 unfold cP;simp only [h1,l8];refine Prod.ext ?_ ?_
 ·cases lo with
  |none=>rfl
  |some v=>exact Pb v n 0
 ·cases hi with
  |none=>rfl
  |some v=>exact Pb v n n
theorem QH (i j:G3):aE (i:P4) (j:P4) 1=j-i:=by
 unfold aE;have h1:(1:P4)>0:=by omega
 simp only [h1,fU,Int.ediv_one];split<;>omega
theorem WK {v:G1}{o:P7 P4}{Q:P7 P4->G2->Prop}(p:kL v o)(h:Q o s):R7 (S2 prog w) A (pV v) Q E s:=by
 cases p with
 |none=>exact qV h
 |int i t=>exact slicePart_int h
theorem yp {sl:P5}{vl vu:G1}{lo hi:P7 P4}{n:G3}{Q:P4×P4×G3->G2->Prop}(hs:s.heap.IsSliceOf sl vl vu .none)(pl:kL vl lo)(pu:kL vu hi)
 (h:Q (((sIx n 0 lo:G3):P4),1,sIx n n hi-sIx n 0 lo) s):R7 (S2 prog w) A (gV (.ref sl) (pure (n:P4))) Q E s:=by
 obtain⟨os,hos,hcs,hds⟩:=id hs;unfold gV rM;refine wpAny_bind (wpAny_bind (pN hos hds (x:=vl) rfl (wpAny_bind (pN hos hds (x:=vu) rfl (wpAny_bind (pN hos hds (x:= .none) rfl (P3 ?_)))))));refine wpAny_bind (qV ?_);show R7 _ _ (if ((1:P4)==0)=true then _ else _) _ _ s;rw [D5 (by decide)];refine wpAny_bind (WK pl (wpAny_bind (WK pu (wpAny_bind (P3 ?_)))));show R7 _ _ (match cP lo hi 1 (n:P4) with|(lo,hi)=>pure (lo,(1:P4),aE lo hi 1)) _ _ s;rw [QF lo hi n];show R7 _ _ (pure (((sIx n 0 lo:G3):P4),(1:P4),aE ((sIx n 0 lo:G3):P4) ((sIx n n hi:G3):P4) 1)) _ _ s;rw [QH];exact P3 h
theorem RV (xs:S9 G1)(i k:G3):((G6 k).filterMap λ(m:G3)=>xs[((i:P4)+(m:P4)*1).toNat]?).toArray=((xs.toList.drop i).take k).toArray:=by
 have e:(λ(m:G3)=>xs[((i:P4)+(m:P4)*1).toNat]?)=λm=>xs[i+m]? :=by
  funext m
  have:((i:P4)+(m:P4)*1).toNat=i+m:=by omega
  rw [this]
 rw [e];have:=pick_run xs i k;rw [List.filterMap_map] at this;have e2:((λx=>xs[x]?)∘λx=>i+x)=λm=>xs[i+m]? :=rfl
 rw [e2] at this;rw [this]
theorem Jx {t sl:P5}{items:S9 G1}{vl vu:G1}{lo hi:P7 P4}{Q:G1->G2->Prop}(ht:m9 s.heap t items)(hs:s.heap.IsSliceOf sl vl vu .none)(pl:kL vl lo)(pu:kL vu hi)
 (hw: ¬ (sIx items.size 0 lo=0/\sIx items.size items.size hi=items.size))
 (h:Q (.ref s.heap.objs.size) {s with heap:=s.heap.push {cls:= .type "tuple",data:= .seq ((items.toList.drop (sIx items.size 0 lo)).take (sIx items.size items.size hi-sIx items.size 0 lo)).toArray}})
 (hsz:items.size<=sizeLine):R7 (S2 prog w) A (mV (.ref t) (.ref sl)) Q E s:=by
 have htake:sizeOk (.seq ((items.toList.drop (sIx items.size 0 lo)).take (sIx items.size items.size hi-sIx items.size 0 lo)).toArray):=by
  show ((items.toList.drop (sIx items.size 0 lo)).take (sIx items.size items.size hi-sIx items.size 0 lo)).toArray.size<=sizeLine;rw [S6,T3,B3,P9];omega
 have hj:sIx items.size items.size hi<=items.size:=LQ _ _ (P2 _) hi;obtain⟨os,hos,hcs,hds⟩:=id hs;have hTs:s.TypeIs (.ref sl) "slice" :=⟨os,hos,hcs⟩;unfold mV
 try with_reducible refine L7 ?_
 first|refine wpAny_bind (P3 ?_)|skip
 refine wpAny_bind (oB ht.typeIs (by decide) ?_);refine wpAny_bind (dO (name:=Str.ofString "__getitem__") ht.typeIs V5
  (O0 V5 ht.typeIs mY ?_ (nM _ _)))
 show R7 _ _ (Z8 (.ref t) >>= _) _ _ s;refine wpAny_bind (nC ht ?_);refine wpAny_bind (gI hTs ?_);rw [D4 (by decide)];refine wpAny_bind (yp hs pl pu ?_);have hno: ¬ ((((sIx items.size 0 lo:G3):P4)==0&&(1:P4)==1&&(sIx items.size items.size hi-sIx items.size 0 lo)==items.size)=true):=by
  intro q;rw [O1,O1] at q;have q1:((sIx items.size 0 lo:G3):P4)=0:=eq_of_beq q.1.1;have q2:sIx items.size items.size hi-sIx items.size 0 lo=items.size:=eq_of_beq q.2;exact hw ⟨by omega,by omega⟩
 show R7 _ _ (if (((sIx items.size 0 lo:G3):P4)==0&&(1:P4)==1&&(sIx items.size items.size hi-sIx items.size 0 lo)==items.size)=true then _ else _) _ _ s;rw [D5 hno,RV]
 first
  |exact wpAny_bind (m:=aW _) (X2 (P3 ⟨_,rfl,P3 h⟩) htake)
  |exact wpAny_bind (m:=aW _) (X2 (wpAny_bind (P3 (P3 ⟨_,rfl,P3 h⟩))) htake)
  |exact wpAny_bind (wpAny_bind (m:=aW _) (X2 (P3 (P3 ⟨_,rfl,P3 h⟩)) htake))
  |exact wpAny_bind (wpAny_bind (m:=aW _) (X2 (P3 ⟨_,rfl,P3 h⟩) htake))
end
end HT
namespace L2
open PySem PySem.Spec PyProof.Rows
abbrev TO:=St->Hp->(P7 P4->Hp->Prop)->Prop
def PO (X:Cx)(e:P7 M5)(t:TO):Prop:=
 ∀ (pins:G0 (P5×Obj)) (s:G2) (σ:St) (H:Hp) (Q:P7 P4->Hp->Prop),Inv X pins σ H s->t σ H Q->
  R7 (S2 X.prog X.w) X.A (evalPart e X.env) (λu s'=> ∃o H',Inv X pins σ H' s'/\kL u o/\Q o H') X.xe s
def ED (t:TE):TO:=λσ H Q=>t σ H λx H1=> ∃i,x= .int i/\Q (some i) H1
section
variable {X:Cx}{e:M5}{te:TE}{lo hi:P7 M5}{tl th:TO}{pos p2:Pos}
theorem BH (h:PE X e te):PO X (some e) (ED te):=by
 intro pins s σ H Q I hw;rw [evalPart_some];refine thn (h pins s σ H _ I hw) λu s1 ⟨x,H1,I1,r1,q1⟩=> ?_
 obtain⟨i,rfl,q⟩:=q1;obtain⟨t,rfl⟩:=r1;exact⟨some i,H1,I1,.int i t,q⟩
def SlR (X:Cx)(r:V->P7 P4->P7 P4->Hp->VK->Prop):Prop:=
 ∀ (pins:G0 (P5×Obj)) (s:G2) (σ:St) (H:Hp) (x:V) (v vl vu:G1) (lo hi:P7 P4) (sl:P5) (Q:VK),Inv X pins σ H s->RelV x v->s.heap.IsSliceOf sl vl vu .none->kL vl lo->kL vu hi->r x lo hi H Q->
  ∃T id,typeLookup (.type T) "__getitem__" =pure (some (.builtin id))/\s.TypeIs v T/\R7 (S2 X.prog X.w) X.A (mV v (.ref sl)) (EP X pins σ Q) X.xe s
theorem SlR.or {r r':V->P7 P4->P7 P4->Hp->VK->Prop}(h:SlR X r)(h':SlR X r'):SlR X (λx lo hi H Q=>r x lo hi H Q\/r' x lo hi H Q):=by
 intro pins s σ H x v vl vu lo hi sl Q I rx hs pl pu q;rcases q with q|q
 ·exact h pins s σ H x v vl vu lo hi sl Q I rx hs pl pu q
 ·exact h' pins s σ H x v vl vu lo hi sl Q I rx hs pl pu q
def tSl (r:V->P7 P4->P7 P4->Hp->VK->Prop)(te:TE)(tl th:TO):TE:=λσ H Q=>te σ H λx H1=>tl σ H1 λl H2=>th σ H2 λu H3=>r x l u H3 Q
theorem RW {r:V->P7 P4->P7 P4->Hp->VK->Prop}(hr:SlR X r)(he:PE X e te)(hl:PO X lo tl)(hu:PO X hi th):PE X (.Subscript e (.Slice lo hi none p2) pos) (tSl r te tl th):=by
 intro pins s σ H Q I h;refine u8 (thn (he pins s σ H _ I h) λv s1 ⟨x,H1,I1,r1,q1⟩=> ?_);refine wpAny_Slice (thn (hl pins s1 σ H1 _ I1 q1) λvl s2 ⟨l,H2,I2,pl,q2⟩=>thn (hu pins s2 σ H2 _ I2 q2) λvu s3 ⟨u,H3,I3,pu,q3⟩=> ?_);rw [evalPart_none];refine P3 ?_;have I4:Inv X pins σ H3 {s3 with heap:=s3.heap.push {cls:= .type "slice",data:= .fields #[vl,vu,.none]}}:=I3.kept (t':=s3.toks) λb ob q=>P1 _ q
 obtain⟨T,id,hT,ht,hg⟩:=hr pins {s3 with heap:=s3.heap.push {cls:= .type "slice",data:= .fields #[vl,vu,.none]}} σ H3 x v vl vu l u s3.heap.objs.size Q I4 r1 (Heap.IsSliceOf.new ..) pl pu q3;show R7 (S2 X.prog X.w) X.A (rS e (.Slice lo hi none p2) v (.ref s3.heap.objs.size)) (EP X pins σ Q) X.xe {s3 with heap:=s3.heap.push {cls:= .type "slice",data:= .fields #[vl,vu,.none]}};exact tail_any (ops:= [.ref s3.heap.objs.size,v]) ht hT hg (by with_unfolding_all rfl)
def RH (xs:G0 V)(lo hi:P7 P4):G0 V:=(xs.drop (HT.sIx xs.length 0 lo)).take (HT.sIx xs.length xs.length hi-HT.sIx xs.length 0 lo)
theorem ZB (xs:G0 V)(lo hi:P7 P4):(RH xs lo hi).length<=xs.length:=by
 unfold RH;rw [T3,B3];omega
def TW (K:G5):V->P7 P4->P7 P4->Hp->VK->Prop:=λx lo hi H Q=> ∃a xs,x= .ref a/\SqT K H a xs/\
 ¬ (HT.sIx xs.length 0 lo=0/\HT.sIx xs.length xs.length hi=xs.length)/\ ∀p,H p=none->Q (.ref p) (upd H p (.tup (RH xs lo hi)))
theorem sl_tup:SlR X (TW X.K):=by
 intro pins s σ H x v vl vu lo hi sl Q I rx hs pl pu h;obtain⟨a,xs,rfl,hx,hw,q⟩:=h;cases rx;obtain⟨its,r,ht,hz⟩:=I.tuple hx;have hlen:its.toArray.size=xs.length:=by rw [S6];exact r.length.symm
 refine⟨"tuple",_,PyProof.Rows.slot_tuple_getitem.lookup,ht.typeIs,?_⟩;refine HT.Jx ht hs pl pu (by rw [hlen];exact hw) ?_ (by rw [hlen];exact hz);rw [hlen];refine⟨.ref s.heap.objs.size,_,I.laid (t':=s.toks) (o:= .tup (RH xs lo hi)) (λb ob q=>P1 _ q) (P2 _) ?_,rfl,q _ (I.hok.fresh (P2 _))⟩;exact⟨S4 (ZB xs lo hi) hz,_,(r.drop (HT.sIx xs.length 0 lo)).take (HT.sIx xs.length xs.length hi-HT.sIx xs.length 0 lo),IsTupN.new _ _⟩
def EE (K:G5):R2:=λx y H Q=> ∃a b xs ys,x= .ref a/\y= .ref b/\SqT K H a xs/\SqT K H b ys/\xs≠ []/\xs.length+ys.length<=sizeLine/\
 (ys= []->Q (.ref a) H)/\(ys≠ []-> ∀p,H p=none->Q (.ref p) (upd H p (.tup (xs++ys))))
theorem Vals.nil_iff {xs:G0 V}{us:G0 G1}(r:Vals xs us):us= []↔xs= []:=by
 cases r with
 |nil=>simp
 |cons _ _=>simp
theorem op_catT:OpR X (J3 .Add) (EE X.K):=by
 intro pins s σ H x y v u Q I rx ry h;obtain⟨a,b,xs,ys,rfl,rfl,ha,hb,hx,hz,q1,q2⟩:=h;cases rx;cases ry;obtain⟨its,r1,p1,_⟩:=I.tuple ha;obtain⟨its2,r2,p2,_⟩:=I.tuple hb;refine HT.BG p1 p2 (λz=>hx (r1.nil_iff.mp z)) (λz=>⟨.ref a,H,I,rfl,q1 (r2.nil_iff.mp z)⟩) (λz=> ?_) (by rw [<-r1.length,<-r2.length];exact hz);refine⟨.ref s.heap.objs.size,_,I.laid (t':=s.toks) (o:= .tup (xs++ys)) (λb ob q=>P1 _ q) (P2 _) ?_,rfl,q2 (λw=>z (r2.nil_iff.mpr w)) _ (I.hok.fresh (P2 _))⟩;exact⟨by rw [P0];exact hz,_,r1.append r2,IsTupN.new _ _⟩
end
def ixN (n:G3)(i:P4):P7 G3:=if 0<=i then (if i<n then some i.toNat else none) else if-(n:P4)<=i then some (i+n).toNat else none
def atI {α:Type}(xs:G0 α)(i:P4):P7 α:=(ixN xs.length i).bind λj=>xs[j]?
theorem Pc {n:G3}{i:P4}{j:G3}(h:ixN n i=some j):seqIndex? i n=some j/\j<n/\ -(n:P4)<=i/\i<n:=by
 unfold ixN at h
 by_cases h0:0<=i
 ·rw [D4 h0] at h
  by_cases h1:i<n
  ·rw [D4 h1] at h;have e:i.toNat=j:=A2 h;exact⟨by rw [pO h0 h1,e],by omega,by omega,h1⟩
  ·rw [D5 h1] at h;cases h
 ·rw [D5 h0] at h
  by_cases h1: -(n:P4)<=i
  ·rw [D4 h1] at h;have e:(i+n).toNat=j:=A2 h;exact⟨by rw [oC (by omega) h1,e],by omega,h1,by omega⟩
  ·rw [D5 h1] at h;cases h
theorem Ux {α:Type}{xs:G0 α}{i:P4}{v:α}(h:atI xs i=some v): ∃j,seqIndex? i xs.length=some j/\xs[j]? =some v/\j<xs.length/\ -(xs.length:P4)<=i/\i<xs.length:=by
 unfold atI at h;cases e:ixN xs.length i with
 |none=>rw [e] at h;cases h
 |some j=>
  rw [e] at h;obtain⟨h1,h2,h3,h4⟩:=Pc e;exact⟨j,h1,h,h2,h3,h4⟩
theorem Yj {α:Type}{xs:G0 α}{j:G3}{v:α}(h:xs[j]? =some v):atI xs (j:P4)=some v:=by
 have hj:j<xs.length:=(D6.mp h).1;have e:ixN xs.length (j:P4)=some j:=by
  unfold ixN;rw [D4 (by omega),D4 (by omega)];simp
 unfold atI;rw [e];exact h
def Yk (b:M5):Prop:= ∀o i,tX b false o i=operate [o,i] (mV o i)
def IxR (X:Cx)(r:R2):Prop:=
 ∀ (value slice:M5) (pins:G0 (P5×Obj)) (s:G2) (σ:St) (H:Hp) (x y:V) (v u:G1) (Q:VK),Inv X pins σ H s->RelV x v->RelV y u->r x y H Q->
  tX slice false v u=operate [v,u] (mV v u)->R7 (S2 X.prog X.w) X.A (rS value slice v u) (EP X pins σ Q) X.xe s
def MtR (X:Cx)(id:V8)(r:V->G0 V->Hp->VK->Prop):Prop:=
 ∀ (pins:G0 (P5×Obj)) (s:G2) (σ:St) (H:Hp) (x:V) (xs:G0 V) (v:G1) (us:G0 G1) (Q:VK),Inv X pins σ H s->RelV x v->Vals xs us->r x xs H Q->
  R7 (S2 X.prog X.w) X.A (call (.builtin id) (v::us)) (EP X pins σ Q) X.xe s
section
variable {X:Cx}{a b:M5}{ta tb:TE}{pos:Pos}
theorem IxR.or {r r':R2}(h:IxR X r)(h':IxR X r'):IxR X (λx y H Q=>r x y H Q\/r' x y H Q):=by
 intro value slice pins s σ H x y v u Q I rx ry q hs;rcases q with q|q
 ·exact h value slice pins s σ H x y v u Q I rx ry q hs
 ·exact h' value slice pins s σ H x y v u Q I rx ry q hs
theorem EF {r:R2}(hr:IxR X r)(ha:PE X a ta)(hb:PE X b tb)(hs:Yk b):PE X (.Subscript a b pos) (tOp r ta tb):=by
 intro pins s σ H Q I h;exact u8 (Ev ha hb I h λv u s2 x y H2 I2 rx ry q=>hr a b pins s2 σ H2 x y v u Q I2 rx ry q (hs _ _))
def Tk (K:G5):R2:=λx y H Q=> ∃p xs i v,x= .ref p/\y= .int i/\SqL K H p xs/\atI xs i=some v/\Q v H
def Tl (K:G5):R2:=λx y H Q=> ∃p xs i v,x= .ref p/\y= .int i/\SqT K H p xs/\atI xs i=some v/\Q v H
def Tn:R2:=λx y H Q=> ∃z i c,x= .str z/\y= .int i/\z.length<=sizeLine/\atI z.cps.toList i=some c/\Q (.str ⟨#[c]⟩) H
theorem ix_list:IxR X (Tk X.K):=by
 intro value slice pins s σ H x y v u Q I rx ry h hs;obtain⟨p,xs,i,z,rfl,rfl,hq,he,q⟩:=h;cases rx;obtain⟨t,rfl⟩:=ry;obtain⟨its,r,pl,hz⟩:=I.list hq;obtain⟨j,h1,h2,h3,h4,h5⟩:=Ux he;obtain⟨w,ew,rw'⟩:=r.get h2;have hl:=r.length;have hn:=Ve;have fin:EP X pins σ Q w s:=⟨z,H,I,rw',q⟩
 by_cases h0:0<=i
 ·have hj:i.toNat=j:=by
   rw [pO h0 h5] at h1;exact A2 h1
  exact item_listR pl.isList h0 (by omega) (by rw [hj];simpa using ew) fin hs
 ·have hj:(i+(its.toArray.size:P4)).toNat=j:=by
   rw [oC (by omega) h4] at h1;rw [S6,<-hl];exact A2 h1
  exact kM (x:=w) pl.isList.typeIs slot_list_getitem.lookup
   (wpAny_getItem_list_neg (Q:=λr s'=>r=w/\EP X pins σ Q r s') pl.isList (by omega) (by rw [S6]<;>omega) (by omega) (by rw [hj];simpa using ew) ⟨rfl,fin⟩) hs
theorem ix_tup:IxR X (Tl X.K):=by
 intro value slice pins s σ H x y v u Q I rx ry h hs;obtain⟨p,xs,i,z,rfl,rfl,hq,he,q⟩:=h;cases rx;obtain⟨t,rfl⟩:=ry;obtain⟨its,r,pl,hz⟩:=I.tuple hq;obtain⟨j,h1,h2,h3,h4,h5⟩:=Ux he;obtain⟨w,ew,rw'⟩:=r.get h2;have hl:=r.length;have hn:=Ve;have fin:EP X pins σ Q w s:=⟨z,H,I,rw',q⟩;exact kM (x:=w) pl.typeIs slot_tuple_getitem.lookup
  (getItem_tuple (j:=j) (Q:=λr s'=>r=w/\EP X pins σ Q r s') pl (by omega) (by omega) (by rw [S6,<-hl];exact h1) (by simpa using ew) ⟨rfl,fin⟩) hs
theorem LU:IxR X Tn:=by
 intro value slice pins s σ H x y v u Q I rx ry h hs;obtain⟨z,i,c,rfl,rfl,hz,he,q⟩:=h;obtain⟨t,rfl⟩:=rx;obtain⟨t',rfl⟩:=ry;obtain⟨j,h1,h2,h3,h4,h5⟩:=Ux he;have hl:z.cps.toList.length=z.length:=by simp [Str.length]
 rw [hl] at h1 h4 h5;have hn:=Ve;exact tail_any (u9 s z t) slot_str_getitem.lookup (getItem_str (c:=c) (by
  have e1:decide (i< -(2^63:P4))=false:=T6 (by omega);have e2:decide (i>=2^63)=false:=T6 (by omega);rw [e1,e2,rT]) (by rw [h1];simpa using h2) ⟨.str ⟨#[c]⟩,H,I.tok _,⟨_,rfl⟩,q⟩) hs
def rIx (K:G5):R2:=λx y H Q=>Tk K x y H Q\/Tl K x y H Q\/Tn x y H Q
theorem LV:IxR X (rIx X.K):=ix_list.or (ix_tup.or LU)
theorem QJ (its:G0 G1)(n j:G3)(u:G1):J7 (·.setIfInBounds j u) {cls:= .type "list",data:= .seq its.toArray n}= {cls:= .type "list",data:= .seq (its.set j u).toArray n}:=by
 simp [J7]
theorem Inv.lst {pins:G0 (P5×Obj)}{σ:St}{H:Hp}{s:G2}{p:P5}{xs:G0 V}(I:Inv X pins σ H s)(h:H p=some (.lst xs)):
 ∃ (its:G0 G1) (n:G3),Vals xs its/\s.heap.get? p=some {cls:= .type "list",data:= .seq its.toArray n}/\xs.length<=sizeLine:=by
 obtain⟨z,its,n,r,e⟩:=I.hok p _ h;exact⟨its,n,r,e,z⟩
theorem Inv.lstUpd {pins:G0 (P5×Obj)}{σ:St}{H:Hp}{s:G2}{p:P5}{xs ys:G0 V}{its its':G0 G1}{n n':G3}{f:Obj->Obj}(I:Inv X pins σ H s)(h:H p=some (.lst xs))
 (ho:s.heap.get? p=some {cls:= .type "list",data:= .seq its.toArray n})(hf:f {cls:= .type "list",data:= .seq its.toArray n}= {cls:= .type "list",data:= .seq its'.toArray n'})(r:Vals ys its')(hz:ys.length<=sizeLine)(t:G3):
 Inv X pins σ (upd H p (.lst ys)) {s with heap:=s.heap.update p f,toks:=t}:=by
 have e:(s.heap.update p f).get? p=some {cls:= .type "list",data:= .seq its'.toArray n'}:=by
  rw [F5 f ho (by rw [hf]<;>rfl),hf]
 refine I.write (x:=p) (e:=p) (by rw [h];trivial) (.inl rfl) (λb u hb q=>(kN _ _ (K9 hb)).trans q) ⟨_,e⟩ ?_;exact⟨hz,its',n',r,e⟩
def EG:V->V->V->Hp->(Hp->Prop)->Prop:=λo i v H Q=> ∃p xs k j,o= .ref p/\i= .int k/\H p=some (.lst xs)/\ixN xs.length k=some j/\Q (upd H p (.lst (xs.set j v)))
theorem RX:Tb X EG:=by
 intro pins s σ H o i v ov iv u Q I ro ri rv h;obtain⟨p,xs,k,j,rfl,rfl,hp,hj,q⟩:=h;cases ro;obtain⟨t,rfl⟩:=ri;obtain⟨its,n,r,ho,hz⟩:=I.lst hp;obtain⟨h1,h2,h3,h4⟩:=Pc hj;have hl:=r.length;have hn:=Ve;have I':Inv X pins σ (upd H p (.lst (xs.set j v))) {s with heap:=s.heap.update p (J7 (·.setIfInBounds j u))}:=
  I.lstUpd hp ho (QJ its n j u) (r.set rv j) (by rw [List.length_set];exact hz) s.toks
 by_cases h0:0<=k
 ·have hk:k.toNat=j:=by
   rw [pO h0 h4] at h1;exact A2 h1
  exact xS ho h0 (by omega) (by rw [S6,<-hl];exact h4) (by rw [hk];exact⟨_,I',q⟩)
 ·have hk:(k+(its.toArray.size:P4)).toNat=j:=by
   rw [oC (by omega) h3] at h1;rw [S6,<-hl];exact A2 h1
  exact v5 ho (by omega) (by rw [S6,<-hl];exact h3) (by omega) (by rw [hk];exact⟨_,I',q⟩)
theorem Vk (lo hi:P7 P4)(n:G3):(dP lo hi none n).1=((HT.sIx n 0 lo:G3):P4)/\(dP lo hi none n).2.1=((HT.sIx n n hi:G3):P4)/\(dP lo hi none n).2.2=1:=by
 refine⟨?_,?_,rfl⟩
 ·cases lo with
  |none=>simp [dP,HT.sIx]
  |some i=>
   simp only [dP,HT.sIx,pE,show (1:P4)>0 by decide,fU]
   by_cases h:i<0
   ·simp only [h,fU]<;>omega
   ·simp only [h,l8]<;>omega
 ·cases hi with
  |none=>simp [dP,HT.sIx]
  |some i=>
   simp only [dP,HT.sIx,pE,show (1:P4)>0 by decide,fU]
   by_cases h:i<0
   ·simp only [h,fU]<;>omega
   ·simp only [h,l8]<;>omega
theorem Yl (its:G0 G1)(lo hi:P7 P4):slicePick its.toArray lo hi none=((its.drop (HT.sIx its.length 0 lo)).take (HT.sIx its.length its.length hi-HT.sIx its.length 0 lo)).toArray:=by
 obtain⟨h1,h2,h3⟩:=Vk lo hi its.toArray.size;unfold slicePick;rw [h1,h2,h3];simp only [sliceRange_one,pick_run,S6]<;>rfl
def TX (K:G5):V->P7 P4->P7 P4->Hp->VK->Prop:=λx lo hi H Q=> ∃a xs,x= .ref a/\SqL K H a xs/\ ∀p,H p=none->Q (.ref p) (upd H p (.lst (RH xs lo hi)))
theorem BI:SlR X (TX X.K):=by
 intro pins s σ H x v vl vu lo hi sl Q I rx hs pl pu h;obtain⟨a,xs,rfl,hx,q⟩:=h;cases rx;obtain⟨its,r,ht,hz⟩:=I.list hx;have hlen:=r.length;refine⟨"list",_,slot_list_getitem.lookup,ht.isList.typeIs,?_⟩;refine wpAny_getItem_list_slice ht.isList hs pl pu .none (by simp) ?_ (by rw [S6]<;>omega);rw [Yl,<-hlen];refine⟨.ref s.heap.objs.size,_,I.laid (t':=s.toks) (o:= .lst (RH xs lo hi)) (λb ob q=>P1 _ q) (P2 _) ?_,rfl,q _ (I.hok.fresh (P2 _))⟩;exact⟨S4 (ZB xs lo hi) hz,_,0,(r.drop (HT.sIx xs.length 0 lo)).take (HT.sIx xs.length xs.length hi-HT.sIx xs.length 0 lo),T5 _ rfl⟩
theorem call_len_seq:CallR X (.builtin "len") (λxs H Q=> ∃p ys,xs= [.ref p]/\(SqL X.K H p ys\/SqT X.K H p ys)/\Q (.int ys.length) H):=by
 intro pins s σ H xs us Q I r h;obtain⟨p,ys,rfl,hq,q⟩:=h;obtain⟨u,rfl,rx⟩:=vK r;cases rx;have hn:=Ve;rcases hq with hq|hq
 ·obtain⟨its,r',pl,hz⟩:=I.list hq;have hlen:=r'.length;exact Calls.call_len_list pl.isList (by simp only [S6]<;>omega) ⟨.int ys.length,H,I.tok _,⟨s.toks+1,by rw [S6,hlen]⟩,q⟩
 ·obtain⟨its,r',pl,hz⟩:=I.tuple hq;have hlen:=r'.length;exact len_tuple pl (by simp only [S6]<;>omega) ⟨.int ys.length,H,I.tok _,⟨s.toks+1,by rw [S6,hlen]⟩,q⟩
theorem call_tuple_of:CallR X (.type "tuple") (λxs H Q=> ∃p ys,xs= [.ref p]/\((SqL X.K H p ys/\ ∀l,H l=none->Q (.ref l) (upd H l (.tup ys)))\/(SqT X.K H p ys/\Q (.ref p) H))):=by
 intro pins s σ H xs us Q I r h;obtain⟨p,ys,rfl,h⟩:=h;obtain⟨u,rfl,rx⟩:=vK r;cases rx;rcases h with ⟨hq,q⟩|⟨hq,q⟩
 ·obtain⟨its,r',pl,hz⟩:=I.list hq;have hlen:=r'.length;refine call_tuple_list pl.isList (λh' kp=> ?_) (by simp only [S6]<;>omega);have I1:Inv X pins σ H {s with heap:=h'}:=I.kept (t':=s.toks) kp;have I2:Inv X pins σ (upd H h'.objs.size (.tup ys)) {s with heap:=h'.push {cls:= .type "tuple",data:= .seq its.toArray}}:=
   I1.laid (t':=s.toks) (λb o e=>P1 _ e) (P2 _) (show ObjOk X.prog X.w _ _ _ (.tup ys) from ⟨hz,its,r',IsTupN.new _ _⟩)
  exact⟨.ref h'.objs.size,_,I2,rfl,q _ (I1.hok.fresh (P2 _))⟩
 ·obtain⟨its,r',pl,hz⟩:=I.tuple hq;exact call_tuple_same pl ⟨.ref p,H,I,rfl,q⟩
def tyV (K:G5)(T:V8)(x:V)(H:Hp):Prop:=match x with
 | .str _=>T= "str"
 | .int _=>T= "int"
 | .ref p=>(T= "list" /\ ∃xs,SqL K H p xs)\/(T= "tuple" /\ ∃o,K.lookup p=some o/\o.cls= .type "tuple" /\o.dict=none)\/
  (T= "dict" /\((∃kvs,H p=some (.dK kvs))\/ ∃kvs,H p=some (.dT kvs)))\/(T= "set" /\ ∃S n,H p=some (.set S n))
 |_=>False
theorem NJ {pins:G0 (P5×Obj)}{σ:St}{H:Hp}{s:G2}{T:V8}{x:V}{v:G1}(I:Inv X pins σ H s)(r:RelV x v)(ty:tyV X.K T x H):
 s.TypeIs v T/\ ∀a,v= .ref a-> ∃ob,s.heap.get? a=some ob/\ob.dict=none:=by
 cases x with
 |str z=>
  obtain⟨t,rfl⟩:=r;cases (show T= "str" from ty);exact⟨u9 s z t,λ_ e=>nomatch e⟩
 |int i=>
  obtain⟨t,rfl⟩:=r;cases (show T= "int" from ty);exact⟨kO s i t,λ_ e=>nomatch e⟩
 |ref p=>
  cases r;rcases ty with ⟨rfl,xs,hq⟩|⟨rfl,o,hk,hc,hd⟩|⟨rfl,hk⟩|⟨rfl,S,n,hk⟩
  ·obtain⟨its,_,pl,_⟩:=I.list hq;refine⟨pl.isList.typeIs,λa e=> ?_⟩;cases e;obtain⟨o,n,e,c,hd,_⟩:=pl;exact⟨o,e,hd⟩
  ·refine⟨⟨o,I.kIn p o hk,hc⟩,λa e=> ?_⟩;cases e;exact⟨o,I.kIn _ o hk,hd⟩
  ·have z: ∃o,s.heap.get? p=some o/\o.ExactDict:=by
    rcases hk with ⟨kvs,hk⟩|⟨kvs,hk⟩
    ·obtain⟨_,_,_,_,o,_,_,e,ex,_⟩:=I.hok p _ hk;exact⟨o,e,ex⟩
    ·obtain⟨_,_,_,_,o,_,_,e,ex,_⟩:=I.hok p _ hk;exact⟨o,e,ex⟩
   obtain⟨o,e,ex⟩:=z;refine⟨⟨o,e,ex.1⟩,λa e2=> ?_⟩;cases e2;exact⟨o,e,ex.2.1⟩
  ·obtain⟨o,_,_,_,e,ex,_⟩:=I.hok p _ hk;refine⟨⟨o,e,ex.1⟩,λa e2=> ?_⟩;cases e2;exact⟨o,e,ex.2.1⟩
 |_=>exact False.elim ty
def TY (K:G5)(T:V8)(r:V->G0 V->Hp->VK->Prop)(to:TE):TE:=λσ H Q=>to σ H λx H1=>tyV K T x H1/\r x [] H1 Q
def tBM (K:G5)(T:V8)(r:V->G0 V->Hp->VK->Prop)(to:TE)(t:TA):TE:=λσ H Q=>to σ H λx H1=>tyV K T x H1/\t σ H1 λxs H2=>r x xs H2 Q
variable {o e:M5}{es:G0 M5}{to:TE}{t:TA}{name:Str}{apos cpos:Pos}{T id:V8}{r:V->G0 V->Hp->VK->Prop}
theorem LW (pa:v6 T)(slot:Slot T name id)(hty:v7 (.builtin id)=pure (.type "method_descriptor"))(hm:MtR X id r)(ho:PE X o to)
 (hbase:Y4 o name X.env (E5 o X.env)=E5 o X.env:=by rfl)(hline:(apos.endLine==cpos.line)=true:=by rfl):PE X (.Call (.Attribute o name apos) [] [] cpos) (TY X.K T r to):=by
 intro pins s σ H Q I h;refine wpAny_Call_method0_late hbase hline (thn (ho pins s σ H _ I h) λv s1 ⟨x,H1,I1,r1,ty,q1⟩=> ?_);obtain⟨h1,h2⟩:=NJ I1 r1 ty;exact⟨T,id,pa,slot,hty,h1,h2,bF rfl (PySem.evalArgs_none (hm pins s1 σ H1 x [] v [] Q I1 r1 .nil q1))⟩
theorem LX (pa:v6 T)(slot:Slot T name id)(hty:v7 (.builtin id)=pure (.type "method_descriptor"))(hm:MtR X id r)(ho:PE X o to)(ha:PA X (e::es) t)
 (hbase:Y4 o name X.env (E5 o X.env)=E5 o X.env:=by rfl)
 (hfew:((K6 cpos (R4 (e::es) X.env)).all (λx=> !x.1)&&(iZ cpos (dQ [] X.env)).all (λx=>x.1.isSome)
  &&decide ((e::es).length+([]:G0 cK).length+(if ([]:G0 cK).isEmpty then 0 else 1)<30))=true:=by rfl)
 (hline:(apos.endLine==cpos.line)=true:=by rfl)(hs:R4 (e::es) X.env=(false,E5 e X.env)::R4 es X.env:=by rfl)(hplain:(K6 cpos (R4 es X.env)).any (·.1)=false:=by rfl):
 PE X (.Call (.Attribute o name apos) (e::es) [] cpos) (tBM X.K T r to t):=by
 intro pins s σ H Q I h;refine kP hbase hfew hline rfl (thn (ho pins s σ H _ I h) λv s1 ⟨x,H1,I1,r1,ty,q1⟩=> ?_);obtain⟨h1,h2⟩:=NJ I1 r1 ty;refine⟨T,id,pa,slot,hty,h1,h2,?_⟩;have hA:=ha cpos pins s1 σ H1 _ I1 q1;rw [hs] at hA ⊢;refine bF (by show (false||(K6 cpos (R4 es X.env)).any (·.1))=false;rw [hplain]<;>rfl) (fZ ?_);exact thn hA λus s2 ⟨vs,H2,I2,r2,q2⟩=>hm pins s2 σ H2 x vs v us Q I2 r1 r2 q2
end
def MtM (X:Cx)(id:V8)(r:V->G0 V->Hp->VK->Prop):Prop:=
 ∀ (pins:G0 (P5×Obj)) (s:G2) (σ:St) (H:Hp) (x:V) (xs:G0 V) (v:G1) (us:G0 G1) (Q:VK),Inv X pins σ H s->RelV x v->Vals xs us->r x xs H Q->
  R7 (S2 X.prog X.w) X.A (call (.builtin id) (v::us)) (EP X pins σ Q) X.xe s
theorem Vals.one: ∀ {x:V} {us:G0 G1},Vals [x] us-> ∃u,us= [u]/\RelV x u
 |_,_,.cons r .nil=>⟨_,rfl,r⟩
theorem Vals.zero: ∀ {us:G0 G1},Vals [] us->us= []
 |_,.nil=>rfl
theorem Vals.rep {xs:G0 V}{us:G0 G1}(h:Vals xs us): ∀k:G3,Vals (N5 k xs).flatten (N5 k us).flatten
 |0=> .nil
 |k+1=>by
  rw [V2,V2,aN,aN];exact Vals.append h (Vals.rep h k)
theorem ZC (its:G0 G1): ∀ (k:G3) (acc:G0 G1),
 qW (λx1 x2=>x1++x2) acc.toArray (N5 k its.toArray)=(acc++(N5 k its).flatten).toArray
 |0,acc=>by simp
 |k+1,acc=>by
  have e:acc.toArray++its.toArray=(acc++its).toArray:=by simp
  have e2:(acc++its)++(N5 k its).flatten=acc++(N5 (k+1) its).flatten:=by
   rw [V2,aN,D1]
  rw [<-e2,<-ZC its k (acc++its),<-e,V2,gB]
section
variable {X:Cx}{pins:G0 (P5×Obj)}{σ:St}{H:Hp}{s:G2}{l b:P5}{xs ys zs:G0 V}
theorem Inv.lset {its its':G0 G1}{n:G3}{f:S9 G1->S9 G1}{t':G3}(I:Inv X pins σ H s)(hH:H l=some (.lst xs))
 (e:s.heap.get? l=some {cls:= .type "list",data:= .seq its.toArray n})(hf:f its.toArray=its'.toArray)(hv:Vals ys its')(hz:ys.length<=sizeLine):
 Inv X pins σ (upd H l (.lst ys)) {s with heap:=s.heap.update l (J7 f),toks:=t'}:=by
 have q:=PySem.IsL.update e f;rw [hf] at q;refine I.write (x:=l) (e:=l) (by rw [hH];exact trivial) (.inl rfl) (λb' u hb hu=>(kN s.heap (J7 f) (K9 hb)).trans hu) ⟨_,q⟩ ?_;exact⟨hz,its',_,hv,q⟩
theorem Inv.lnew {its:G0 G1}{t':G3}(I:Inv X pins σ H s)(hv:Vals ys its)(hz:ys.length<=sizeLine):
 Inv X pins σ (upd H s.heap.objs.size (.lst ys)) {s with heap:=s.heap.push {cls:= .type "list",data:= .seq its.toArray},toks:=t'}:=
 I.laid (λ_ _ q=>P1 _ q) (P2 _) ⟨hz,its,0,hv,T5 _ rfl⟩
theorem Inv.fresh (I:Inv X pins σ H s):H s.heap.objs.size=none:=I.hok.fresh (P2 _)
theorem Inv.lstM (I:Inv X pins σ H s)(hH:H l=some (.lst xs)):xs.length<=sizeLine/\ ∃ (its:G0 G1) (n:G3),Vals xs its/\xs.length=its.length/\s.heap.get? l=some {cls:= .type "list",data:= .seq its.toArray n}:=by
 obtain⟨z,its,n,r,e⟩:=I.hok l _ hH;exact⟨z,its,n,r,r.length,e⟩
theorem RY {n:G3}(h:n<=sizeLine):c9 n=false:=by
 unfold c9;exact T6 (by omega)
end
section
variable {X:Cx}
def BJ:V->G0 V->Hp->VK->Prop:=λx vs H Q=> ∃l xs y,x= .ref l/\vs= [y]/\H l=some (.lst xs)/\xs.length<sizeLine/\Q .non (upd H l (.lst (xs++ [y])))
theorem Pd:MtM X "list.append" BJ:=by
 intro pins s σ H x vs v us Q I rx rv h;obtain⟨l,xs,y,rfl,rfl,hH,hz,q⟩:=h;cases rx;obtain⟨u,rfl,ru⟩:=rv.one;obtain⟨z,its,n,r,hl,e⟩:=I.lstM hH;refine kQ F.slot_list_append ⟨_,e,rfl⟩ F.entry_list_append (F.args_list_append_2 _ _) (PySem.list_append l its.toArray n u (by rw [S6];omega)) ⟨e,?_⟩;refine⟨.non,_,I.lset (its':=its++ [u]) hH e (by simp) (r.append (.cons ru .nil)) ?_,rfl,q⟩;rw [P0,Q1];omega
def TZ:R2:=λx y H Q=> ∃l b xs zs,x= .ref l/\y= .ref b/\H l=some (.lst xs)/\H b=some (.lst zs)/\xs.length+zs.length<=sizeLine/\ ∀p,H p=none->Q (.ref p) (upd H p (.lst (xs++zs)))
theorem LY:OpR X (J3 .Add) TZ:=by
 intro pins s σ H x y v u Q I rx ry h;obtain⟨l,b,xs,zs,rfl,rfl,hH,hB,hz,q⟩:=h;cases rx;cases ry;obtain⟨z,its,n,r,hl,e⟩:=I.lstM hH;obtain⟨z2,its2,n2,r2,hl2,e2⟩:=I.lstM hB;refine PySem.P.add_list e e2 ?_ (by rw [S6,S6];omega);have ea:its.toArray++its2.toArray=(its++its2).toArray:=by simp
 rw [ea];exact⟨.ref _,_,I.lnew (t':=s.toks) (r.append r2) (by rw [P0];omega),rfl,q _ I.fresh⟩
def Ha:R2:=λx y H Q=> ∃l k xs,x= .ref l/\y= .int k/\H l=some (.lst xs)/\ -(2^63)<=k/\k<2^63/\xs.length*k.toNat<=sizeLine/\
 ∀p,H p=none->Q (.ref p) (upd H p (.lst (N5 k.toNat xs).flatten))
theorem Uy {α:Type}(xs:G0 α)(k:G3):(N5 k xs).flatten.length=k*xs.length:=by
 induction k with
 |zero=>simp
 |succ k ih=>rw [V2,aN,P0,ih,cL,kT]
theorem LZ:OpR X (J3 .Mult) Ha:=by
 intro pins s σ H x y v u Q I rx ry h;obtain⟨l,k,xs,rfl,rfl,hH,h1,h2,hz,q⟩:=h;cases rx;obtain⟨t,rfl⟩:=ry;obtain⟨z,its,n,r,hl,e⟩:=I.lstM hH;have hlen:its.toArray.size*k.toNat<=sizeLine:=by rw [S6,<-hl];exact hz
 have hcap: ¬its.toArray.size*k.toNat>(2^63-1) / 8:=by
  have:(sizeLine:G3)<=(2^63-1) / 8:=by decide
  omega
 have hfit: ¬ (!qX k)=true:=by
  rw [fitsIndex_both h1 h2];exact R0
 have hlong: ¬c9 (its.toArray.size*k.toNat)=true:=by
  rw [RY hlen];exact R0
 have hnew:qW (λx1 x2=>x1++x2) #[] (N5 (if its.toArray.isEmpty=true then 0 else k.toNat) its.toArray)=(N5 k.toNat its).flatten.toArray:=by
  have f0: ∀m:G3,qW (λx1 x2=>x1++x2) #[] (N5 m its.toArray)=(N5 m its).flatten.toArray:=λm=>by
   have:=ZC its m [];rw [O2] at this;exact this
  rw [f0];cases its with
  |nil=>simp
  |cons a r'=>rw [D5 (by simp)]
 refine iC (T:= "list") (U:= "int") (by decide) ⟨_,e,rfl⟩ (λs'=>kO s' k t) noFill_list_mul pW gC repeat_list F.slot_int_index.lookup
  (kQ gC (kO s k t) pF (oE _ _) (int___rmul___int_list k t l its.toArray n)
   ⟨e,rfl,⟨_,e,rfl⟩,kQ F.slot_list_mul ⟨_,e,rfl⟩ F.entry_list_mul (F.args_list_mul_2 _ _) (AutoListH.list___mul___list_int_3 l its.toArray n k t hfit hcap hlong) ⟨e,?_⟩⟩)
 rw [hnew];exact⟨.ref _,_,I.lnew (t':=s.toks) (r.rep k.toNat) (by rw [Uy,Y2];exact hz),rfl,q _ I.fresh⟩
end
end L2
namespace Att
open PySem PySem.W PySem.Calls PyProof.Rows
theorem ZD {P:x5}{h:F4}: ∀ (ns:G0 P4) (vs:G0 G1),WellAll P h vs (ns.map WData.int)->U3 vs ns:=by
 intro ns
 induction ns with
 |nil=>
  intro vs w;rw [bG] at w;cases w;exact .nil
 |cons n ns ih=>
  intro vs w;rw [T7] at w;cases w with
  |cons a b=>
   cases a;exact .cons _ _ (ih _ b)
theorem Pe {l:OpenLaw}{n:G3}(hn:l.most=some n){P:x5}{h:F4}{args:G0 WData}{vals:G0 G1}
 (hpre:l.row.toRowW.claim.pre args=true)(hwl:WellAll P h vals args):
 ∃a vs ns,vals= [L6 a]/\args= [WData.list (ns.map WData.int)]/\h.get? a=some {cls:= .type "list",data:= .seq vs.toArray}/\U3 vs ns/\ns.length<=n:=by
 have hsh:WShape.hasAll [] args [.list .int]=true:=(pre_splitW hpre).1;have hc:l.pre.holds [] {args:=args}=true:=(pre_splitW hpre).2;obtain⟨d,r,rfl,h1,h2⟩:=hasAllW_cons hsh;obtain rfl:=hasAllW_nil h2;obtain⟨xs,rfl,h3⟩:=hasW_list h1;obtain⟨ns,rfl⟩:=items_int h3;have hlen:ns.length<=n:=by
  unfold OpenLaw.pre at hc;have h4:(WTm.not (.lt (.lit (.int (n:P4))) (.len (.arg 0)))).holds [] {args:= [.list (ns.map .int)]}=true:=by
   have h4:=(holds_andW hc).1;rw [hn] at h4;exact h4
  have h5:=condW_of h4 (w_not (w_lt w_lit (w_len_list (w_arg rfl))));rw [G8] at h5;refine fL λq=> ?_
  have q':(n:P4)<((ns.length:G3):P4):=by omega
  first
   |(rw [D9 q'] at h5;exact absurd h5 (by decide))
   |(simp at h5;omega)
 cases hwl with
 |cons w1 w2=>
  cases w2;cases w1 with
  |list ho hall=>exact⟨_,_,ns,rfl,rfl,ho,ZD ns _ hall,hlen⟩
theorem Pf (l:OpenLaw)(args:G0 WData):l.row.toRowW.claim.post args (.bool true) args=true:=
 postW_of (r:=l.row.toRowW) (X:=(true==true))
  (show WShape.has [] (.bool true) .bool=true by first|rfl|decide|simp [WShape.has,WShape.arms,WShape.armsAll])
  (show (WTm.eq .res (.lit (.bool true))).value [] {args:=args,res:=some (.bool true),after:=args}=some (.bool (true==true)) from w_eq_bool (w_res rfl) w_lit) rfl
theorem attach_call {l:OpenLaw}{n:G3}{q:S7}{loose:G0 Str}{XP:(Str->P7 G1)->F4->Prop}{YP:N8->F4->Prop}{d:DefRec}
 (hn:l.most=some n)(hdf:d.params.defaults= [])
 (call: ∀ (w:N8) (s₀ II:G2) (mg mb:Str->P7 G1) (fa:P5) (o:Obj) (pm cd doc:G1) (a:P5) (vs:G0 G1) (ns:G0 P4),
  Ground q loose [] XP w s₀ mg mb II.heap->YP w II.heap->
  II.heap.get? fa=some o->o.data= .func (docDef d.name d.params d.body d.scope pm cd doc)->II.heap.CodeRec cd d.name->mg d.name=some (.ref fa)->
  II.heap.get? a=some {cls:= .type "list",data:= .seq vs.toArray}->U3 vs ns->ns.length<=n->II.gens= #[]->
  aL (S2 l.prog w) mW (.call (.ref fa) ⟨[.ref a],[]⟩) (λr s'=>r= .ok (.ret (.bool true))/\OldK II.heap s'.heap/\s'.os=II.os/\iG s'.gens) II):
 WalkO q loose XP YP l.row.toRowW d [] (λf vs=>v9 f vs):=by
 intro w s₀ II mg mb G Y fa o pm cd doc dV kV ho hd hcd hD hmg hg args vals as hpre hlay hrd hwl hlo;obtain rfl:dV= .none:=Dflts.none hD hdf;obtain rfl:kV= .none:=Dflts.noKw hD;obtain⟨a,vs,ns,rfl,rfl,hobj,hints,hlen⟩:=Pe hn hpre hwl;refine enter_call (gH (call w s₀ II mg mb fa o pm cd doc a vs ns G Y ho (fd_plain hd) hcd hmg hobj hints hlen hg) λr s' hq=> ?_);obtain⟨rfl,h2,h3,h4⟩:=hq;exact⟨.inl ⟨.bool true,.bool true,[],rfl,λ_=>rfl,.bool true,Pf l _,λ_=>⟨iK,λ_ hm=>(nomatch hm)⟩⟩,h2,h3,h4⟩
end Att
namespace L2
open PySem PySem.Spec PyProof.Rows
theorem Vl: ∀ {vs:G0 G1} {ns:G0 P4},U3 vs ns->Vals (ns.map V.int) vs
 |_,_,.nil=> .nil
 |_,_,.cons n t h=> .cons ⟨t,rfl⟩ (Vl h)
def Only (H:Hp):Prop:= ∀b,H b=none\/ ∃o xs,H b=some (.frz o (.lst xs))
def yw (s:J9):Arguments:=match s with
 | .FunctionDef _ a _ _ _ _ _ _ _ _=>a
 |_=> {posonlyargs:= [],args:= [],vararg:=none,kwonlyargs:= [],kw_defaults:= [],kwarg:=none,defaults:= []}
def zS (s:J9):G0 J9:=match s with
 | .FunctionDef _ _ b _ _ _ _ _ _ _=>b
 |_=> []
def jd (s:J9):U2:=match s with
 | .FunctionDef _ _ _ _ _ _ sc _ _ _=>sc
 |_=> {kind:= .function,names:= [],isGenerator:=false,isCoroutine:=false}
abbrev CX0:CXT:=λ_ _ _ _ _ _=>False
abbrev E0:XK:=λ_ _ _=>False
variable {X:Cx}
theorem EH:GZ CX0 X E0:=λ_ _ _ _ _ _ _ h=>h.elim
structure Fun (K:G5)(x qual:Str)(st:J9)(f:P5)(fd:N9):Prop where
 ex: ∃ (oc:G1) (od:P7 P5) (kV doc pm:G1) (an:P7 P5) (cdv ct:G1) (osl:S9 (P7 G1)),
  fd=cJ x qual (yw st) (zS st) (jd st) .none kV doc pm an cdv ct/\K.lookup f=some ⟨oc,od,.func fd,osl⟩/\lW K cdv qual=true
 kp:a5 K (.ref f)=true
section
variable {P:S7}{w:N8}{K:G5}{mg:Str->P7 G1}{base:F4}
variable {qual:Str}
theorem Fun.ok {x:Str}{st:J9}{f:P5}{fd:N9}{N ps:G0 Str}{k:G3}{sp:Sp}(F:Fun K x qual st f fd)(S:FnScope N ps (jd st))(len: ∀vs H Q E,sp vs H Q E->vs.length=ps.length)
 (hbody: ∀ (cdv:G1) (A:N3) (outer:G0 Env) (s:G2) (H:Hp) (vs:G0 V) (Q:VK) (E:XK),Room k (A.deeper (gU qual (jd st) s.heap.objs.size f cdv))->sp vs H Q E->
  ∃t,PSs (RT CX0 P w K mg base N qual (jd st) f cdv A outer s H E).nox (zS st) t/\t {nx:=λ_ H'=>Q .non H',rt:=Q} (start N vs) H):FnOk P w K mg base CX0 (k+1) f fd ps sp:=by
 obtain⟨oc,od,kV,doc,pm,an,cdv,ct,osl,rfl,lk,hcd⟩:=F.ex;refine EC lk hcd S len λA outer s H vs Q E hr hsp=> ?_
 obtain⟨t,h,q⟩:=hbody cdv A outer s H vs Q E hr hsp;exact⟨t,h.nox,q⟩
theorem Fun.binds {x:Str}{st:J9}{f:P5}{fd:N9}{ps:G0 Str}(F:Fun K x qual st f fd)
 (h: ∀ (kV doc pm:G1) (an:P7 P5) (cdv ct:G1) (us:G0 G1),us.length=ps.length->tV (cJ x qual (yw st) (zS st) (jd st) .none kV doc pm an cdv ct) ⟨us,[]⟩=pure (ps.zip us)):Binds K fd ps []:=by
 obtain⟨oc,od,kV,doc,pm,an,cdv,ct,osl,rfl,lk,hcd⟩:=F.ex;exact .all (h kV doc pm an cdv ct)
theorem Oa {x:Str}{st:J9}{f:P5}{oc:G1}{od an:P7 P5}{osl:S9 (P7 G1)}{kV doc pm cdv ct:G1}(l:K.lookup f=some ⟨oc,od,.func (cJ x qual (yw st) (zS st) (jd st) .none kV doc pm an cdv ct),osl⟩)
 (c:lW K cdv qual=true)(k:a5 K (.ref f)=true):Fun K x qual st f (cJ x qual (yw st) (zS st) (jd st) .none kV doc pm an cdv ct):=⟨⟨oc,od,kV,doc,pm,an,cdv,ct,osl,rfl,l,c⟩,k⟩
end
theorem jF {n:G3}(h:n<=1000):n<sizeLine:=V9 h (by decide)
theorem Wt {A B:Prop}(h:B):if false=true then A else B:=by
 rw [D5 R0];exact h
theorem QK {A B:Prop}(h:A):if true=true then A else B:=by
 rw [D4 rfl];exact h
theorem Uz {c A B:Prop}[Decidable c](h1:c->A)(h2: ¬c->B):if c then A else B:=by
 by_cases h:c
 ·rw [D4 h];exact h1 h
 ·rw [D5 h];exact h2 h
section
variable {κ:Type}[DecidableEq κ]
def Vm (kvs:G0 (κ×V))(k:κ):P7 V:=(kvs.find? λkv=>decide (kv.1=k)).map (·.2)
def UA (kvs:G0 (κ×V))(k:κ)(v:V):G0 (κ×V):=
 if (kvs.any λkv=>decide (kv.1=k))=true then kvs.map (λkv=>if kv.1=k then (kv.1,v) else kv) else kvs++ [(k,v)]
theorem Zo {p:κ×V}{r:G0 (κ×V)}{k:κ}(e:p.1=k):Vm (p::r) k=some p.2:=by simp [Vm,X6,e]
theorem Zp {p:κ×V}{r:G0 (κ×V)}{k:κ}(e: ¬p.1=k):Vm (p::r) k=Vm r k:=by simp [Vm,X6,e]
theorem Zq (k:κ): ∀kvs:G0 (κ×V),(kvs.any λkv=>decide (kv.1=k))=(Vm kvs k).isSome
 | []=>rfl
 |p::r=>by
  rw [nD]
  by_cases e:p.1=k
  ·simp only [Zo e,D9 e,sW,gW]
  ·rw [Zp e,T6 e,Bool.false_or];exact Zq k r
theorem ZE (kvs:G0 (κ×V))(k:κ)(v:V):(UA kvs k v).length<=kvs.length+1:=by
 unfold UA;split
 ·rw [G8];omega
 ·rw [P0,D8,B2];omega
theorem RZ {kvs:G0 (κ×V)}{k:κ}(v:V)(h:Vm kvs k=none):UA kvs k v=kvs++ [(k,v)]:=by
 unfold UA;rw [Zq,h];exact D5 (by decide)
theorem RelO.isSome_eq {o:P7 V}{u:P7 G1}(r:RelO o u):o.isSome=u.isSome:=by
 cases o with
 |none=>cases u with
  |none=>rfl
  |some _=>exact(show False from r).elim
 |some _=>cases u with
  |none=>exact(show False from r).elim
  |some _=>rfl
theorem RelO.getD {o:P7 V}{u:P7 G1}{d:V}{d':G1}(r:RelO o u)(rd:RelV d d'):RelV (o.getD d) (u.getD d'):=by
 cases o with
 |none=>cases u with
  |none=>exact rd
  |some _=>exact(show False from r).elim
 |some _=>cases u with
  |none=>exact(show False from r).elim
  |some _=>exact r
theorem KV.val {kvs:G0 (κ×V)}{vs:G0 (κ×G1)}(r:KV kvs vs)(k:κ):RelO (Vm kvs k) (oF vs k):=by
 unfold KV at r
 induction r with
 |nil=>exact aV
 | @cons p q ps qs h t ih=>
  obtain⟨h1,h2⟩:=h
  by_cases e:p.1=k
  ·have e':q.1=k:=h1.symm.trans e;have b:oF (q::qs) k=some q.2:=by simp [oF,X6,e']
   rw [Zo e,b];exact h2
  ·have e': ¬q.1=k:=λz=>e (h1.trans z)
   have b:oF (q::qs) k=oF qs k:=by simp [oF,X6,e']
   rw [Zp e,b];exact ih
theorem KV.any {kvs:G0 (κ×V)}{vs:G0 (κ×G1)}(r:KV kvs vs)(k:κ):(kvs.any λkv=>decide (kv.1=k))=vs.any λkv=>decide (kv.1=k):=by
 unfold KV at r
 induction r with
 |nil=>rfl
 |cons h t ih=>rw [nD,nD,ih,h.1]
theorem KV.repl {kvs:G0 (κ×V)}{vs:G0 (κ×G1)}(r:KV kvs vs)(k:κ){y:V}{u:G1}(ry:RelV y u):
 KV (kvs.map λkv=>if kv.1=k then (kv.1,y) else kv) (vs.map λkv=>if kv.1=k then (kv.1,u) else kv):=by
 unfold KV at r ⊢
 induction r with
 |nil=>exact .nil
 | @cons p q ps qs h t ih=>
  rw [T7,T7];refine .cons ?_ ih;obtain⟨h1,h2⟩:=h
  by_cases e:p.1=k
  ·rw [D4 e,D4 (h1.symm.trans e)];exact⟨h1,ry⟩
  ·rw [D5 e,D5 (λz=>e (h1.trans z))];exact⟨h1,h2⟩
theorem KV.put {kvs:G0 (κ×V)}{vs:G0 (κ×G1)}(r:KV kvs vs)(k:κ){y:V}{u:G1}(ry:RelV y u):KV (UA kvs k y) (qY vs k u):=by
 unfold UA qY;rw [r.any k]
 by_cases e:(vs.any λkv=>decide (kv.1=k))=true
 ·rw [D4 e,D4 e];exact r.repl k ry
 ·rw [D5 e,D5 e];exact Paired.snoc r ⟨rfl,ry⟩
theorem KV.length {kvs:G0 (κ×V)}{vs:G0 (κ×G1)}(r:KV kvs vs):kvs.length=vs.length:=Paired.length r
end
variable {P:S7}{w:N8}
theorem BK {k:Key}{u:G1}(r:RelV (kV k) u):(jU P w).is k u=true:=by
 cases k with
 |inl i=>obtain⟨t,e⟩:=(show ∃t,u=dJ i t from r);subst e;exact Ut P w i t
 |inr x=>obtain⟨t,e⟩:=(show ∃t,u=mT x t from r);subst e;exact Uu P w x t
theorem Vn: ∀ {ks:G0 Key} {us:G0 G1},Vals (ks.map kV) us->ItemsAre (jU P w) ks us
 | [],_,r=>by rw [bG] at r;cases r;exact .nil
 |k::ks,_,r=>by
  rw [T7] at r;cases r with
  |cons h t=>exact .cons (BK h) (Vn t)
abbrev KT (H:Hp):G0 (G0 Key×V)->G0 (G0 Key×P5×G1)->Prop:=Paired λp q=>p.1=q.1/\H q.2.1=some (.tup (p.1.map kV))/\RelV p.2 q.2.2
variable {H:Hp}{kvs:G0 (G0 Key×V)}{xs:G0 (G0 Key×P5×G1)}
theorem KT.val (r:KT H kvs xs)(k:G0 Key):RelO (Vm kvs k) ((qZ xs k).map (·.2)):=by
 induction r with
 |nil=>exact aV
 | @cons p q ps qs h t ih=>
  obtain⟨h1,_,h2⟩:=h
  by_cases e:p.1=k
  ·have e':q.1=k:=h1.symm.trans e;have b:qZ (q::qs) k=some q.2:=by simp [qZ,X6,e']
   rw [Zo e,b];exact h2
  ·have e': ¬q.1=k:=λz=>e (h1.trans z)
   have b:qZ (q::qs) k=qZ qs k:=by simp [qZ,X6,e']
   rw [Zp e,b];exact ih
theorem KT.repl (r:KT H kvs xs)(k:G0 Key){y:V}{u:G1}(ry:RelV y u):
 KT H (kvs.map λkv=>if kv.1=k then (kv.1,y) else kv) (xs.map (putAt k u)):=by
 induction r with
 |nil=>exact .nil
 | @cons p q ps qs h t ih=>
  rw [T7,T7];refine .cons ?_ ih;obtain⟨h1,h2,h3⟩:=h;unfold putAt
  by_cases e:p.1=k
  ·rw [D4 e,D4 (h1.symm.trans e)];exact⟨h1,h2,ry⟩
  ·rw [D5 e,D5 (λz=>e (h1.trans z))];exact⟨h1,h2,h3⟩
theorem KT.put (r:KT H kvs xs)(k:G0 Key){b:P5}{y:V}{u:G1}(hb:H b=some (.tup (k.map kV)))(ry:RelV y u):
 KT H (UA kvs k y) (storedH xs k b u):=by
 have e:(kvs.any λkv=>decide (kv.1=k))=(qZ xs k).isSome:=by
  rw [Zq,(r.val k).isSome_eq,Option.isSome_map]
 unfold UA storedH;rw [e]
 by_cases q:(qZ xs k).isSome=true
 ·rw [D4 q,D4 q];exact r.repl k ry
 ·rw [D5 q,D5 q];exact Paired.snoc r ⟨rfl,hb,ry⟩
theorem KT.keeps {H':Hp}(r:KT H kvs xs)(ht: ∀b ys,H b=some (.tup ys)->H' b=some (.tup ys)):KT H' kvs xs:=
 Paired.mapP r λ_ _ z=>⟨z.1,ht _ _ z.2.1,z.2.2⟩
section
variable {P:S7}{w:N8}{H:Hp}{h:F4}{a:P5}
theorem Ob {u:HO}(ok:HOk P w H h)(e:Rd H a u):ObjOk P w H h a u:=e.ok ok
theorem BL {kvs:G0 (Key×V)}(ok:HOk P w H h)(e:Rd H a (.dK kvs)):kvs.length<=sizeLine/\(a==aU)=false/\ ∃vs,KV kvs vs/\h.DictOf (jU P w) a vs:=
 show ObjOk P w H h a (.dK kvs) from Ob ok e
theorem BM {kvs:G0 (Key×V)}(ok:HOk P w H h)(e:H a=some (.dK kvs)):kvs.length<=sizeLine/\(a==aU)=false/\ ∃vs,KV kvs vs/\h.DictOf (jU P w) a vs:=BL ok (.inl e)
theorem Pg {ks:G0 Key}(ok:HOk P w H h)(e:H a=some (.tup (ks.map kV))):(tupleKind (jU P w)).is h ks a:=by
 obtain⟨_,its,r,o,h1,h2,_,n,h3⟩:=(show ObjOk P w H h a (.tup (ks.map kV)) from ok a _ e);exact⟨o,its.toArray,n,h1,h2,h3,by simpa using Vn r⟩
theorem BN {kvs:G0 (G0 Key×V)}(ok:HOk P w H h)(e:Rd H a (.dT kvs)):kvs.length<=sizeLine/\(a==aU)=false/\
 ∃xs,KT H kvs xs/\h.DictOfH (tupleKind (jU P w)) a xs:=by
 obtain⟨z,y,xs,r,o,es,ep,h1,h2,h3,h4,h5⟩:=(show ObjOk P w H h a (.dT kvs) from Ob ok e);refine⟨z,y,xs,r,o,es,ep,h1,h2,h3,h4,λx hx=> ?_,h5⟩;have all: ∀ {l:G0 (G0 Key×V)} {m:G0 (G0 Key×P5×G1)},KT H l m-> ∀x∈m,(tupleKind (jU P w)).is h x.1 x.2.1:=by
  intro l m q
  induction q with
  |nil=>intro x hx;exact nomatch hx
  | @cons p q ps qs hq t ih=>
   intro x hx;rcases S5.mp hx with e|hx
   ·subst e;exact Pg ok (by rw [<-hq.1];exact hq.2.1)
   ·exact ih x hx
 exact all r x hx
theorem EI {kvs:G0 (G0 Key×V)}(ok:HOk P w H h)(e:H a=some (.dT kvs)):kvs.length<=sizeLine/\(a==aU)=false/\
 ∃xs,KT H kvs xs/\h.DictOfH (tupleKind (jU P w)) a xs:=BN ok (.inl e)
end
def DGet (H:Hp)(a:P5)(y:V)(r:P7 V):Prop:=
 (∃kvs k,Rd H a (.dK kvs)/\y=kV k/\r=Vm kvs k)\/ ∃kvs k b,Rd H a (.dT kvs)/\y= .ref b/\H b=some (.tup (k.map kV))/\r=Vm kvs k
def DPut (H:Hp)(a:P5)(y v:V)(H':Hp):Prop:=
 (∃kvs k,H a=some (.dK kvs)/\y=kV k/\kvs.length<sizeLine/\H'=upd H a (.dK (UA kvs k v)))\/
 ∃kvs k b,H a=some (.dT kvs)/\y= .ref b/\H b=some (.tup (k.map kV))/\kvs.length<sizeLine/\H'=upd H a (.dT (UA kvs k v))
variable {a:P5}
theorem DGet.k {kvs:G0 (Key×V)}{k:Key}(e:H a=some (.dK kvs)):DGet H a (kV k) (Vm kvs k):= .inl ⟨kvs,k,.inl e,rfl,rfl⟩
theorem DPut.k {kvs:G0 (Key×V)}{k:Key}{v:V}(e:H a=some (.dK kvs))(hl:kvs.length<sizeLine):DPut H a (kV k) v (upd H a (.dK (UA kvs k v))):= .inl ⟨kvs,k,e,rfl,hl,rfl⟩
section
variable {X:Cx}{pins:G0 (P5×Obj)}{σ:St}{H:Hp}{s:G2}{a:P5}{y v:V}{u r:G1}{o:P7 V}{A:N3}{E:G1->G2->Prop}
theorem Inv.big (I:Inv X pins σ H s):aU<s.heap.objs.size:=by
 have h:E3<s.heap.objs.size:=(I.mod.glob.keeps I.bk).lt;exact E6 (by decide) h
theorem Ph {h':F4}{t':G3}{ob:HO}(I:Inv X pins σ H s)(mu:Mut (H a))(hs:E4 a s.heap h')(he: ∃q,h'.get? a=some q)(new:ObjOk X.prog X.w (upd H a ob) h' a ob):
 Inv X pins σ (upd H a ob) {s with heap:=h',toks:=t'}:=
 I.write (x:=a) (e:=a) mu (.inl rfl) (λb q hb z=>(hs.2 b hb).trans z) he new
theorem Oc {P:S7}{w:N8}{H':Hp}{h':F4}{kvs:G0 (Key×V)}{vs:G0 (Key×G1)}(z:kvs.length<=sizeLine)(hd:(a==aU)=false)(rel:KV kvs vs)(dd:h'.DictOf (jU P w) a vs):
 ObjOk P w H' h' a (.dK kvs):=⟨z,hd,vs,rel,dd⟩
theorem Pi {H':Hp}{Q:Unit->G2->Prop}(hu:A.units+1<cLine)(I:Inv X pins σ H s)(g:DPut H a y v H')(ry:RelV y u)(rv:RelV v r)(h: ∀s',Inv X pins σ H' s'->Q () s'):
 R7 (S2 X.prog X.w) A (qJ (.ref a) u r) Q E s:=by
 rcases g with ⟨kvs,k,e,ey,l,eH⟩|⟨kvs,k,b,e,ey,eb,l,eH⟩
 ·subst ey eH;obtain⟨z,hd,vs,rel,dd⟩:=BM I.hok e;have hz:vs.length<=sizeLine:=by rw [<-rel.length];exact z
  have hl:(UA kvs k v).length<=sizeLine:=by have:=ZE kvs k v;omega
  refine wpAny_setItem_pairs (hsz:=hz) (BK ry) dd λh' dd' hs=>h _ ?_
  have he: ∃q,h'.get? a=some q:=let ⟨q,_,_,hq,_⟩:=dd';⟨q,hq⟩;exact Ph I (by rw [e];exact aV) hs he (Oc hl hd (rel.put k rv) dd')
 ·subst ey eH;cases (show u=L6 b from ry);obtain⟨z,hd,xs,rel,dd⟩:=EI I.hok e;have hz:xs.length<=sizeLine:=by rw [<-Paired.length rel];exact z
  have hl:(UA kvs k v).length<=sizeLine:=by have:=ZE kvs k v;omega
  refine wpAny_setItem_heap (hsz:=hz) (nN hu) (Pg I.hok eb) dd λh' dd' hs=>h _ ?_
  obtain⟨q,es,ep,hq,h2,h3,h4,_,h5⟩:=dd';refine Ph I (by rw [e];exact aV) hs ⟨q,hq⟩ ⟨hl,hd,_,(rel.put k eb rv).keeps λc ys ec=> ?_,q,es,ep,hq,h2,h3,h4,h5⟩;rw [jg (Uv ec e (λz=>nomatch z))];exact ec
end
def EJ (td ty tv:TE):TS:=λD σ H=>tv σ H λv H1=>td σ H1 λx H2=>ty σ H2 λy H3=> ∃a H4,x= .ref a/\DPut H3 a y v H4/\D.nx σ H4
section
variable {X:Cx}{o i e value:M5}{pos pos' tpos:Pos}{td ty tv:TE}
theorem BO (hu:X.A.units+1<cLine)(ho:PE X o td)(hi:PE X i ty)(hv:PE X value tv)(hs:Y6 value (some (.Subscript o i pos')) pos.line X.env=pure false):
 PS X (.Assign [.Subscript o i pos'] value pos) (EJ td ty tv):=by
 intro pins s σ H D I h;refine wpAny_Assign_Subscript (thn (hv pins s σ H _ I h) λr s1 ⟨v,H1,I1,rv,q1⟩=>thn (ho pins s1 σ H1 _ I1 q1) λu s2 ⟨x,H2,I2,rx,q2⟩=>thn (hi pins s2 σ H2 _ I2 q2) λiv s3 ⟨y,H3,I3,ry,a,H4,ex,g,q3⟩=> ?_) hs;subst ex;obtain rfl:u=L6 a:=rx;exact Pi hu I3 g ry rv λs4 I4=>⟨σ,H4,I4,q3⟩
end
theorem Ma (h:F4)(hb:aU<h.objs.size):ObjOk P w H (h.push {cls:= .type "dict",data:= .dict #[]}) h.objs.size (.dK []):=
 ⟨M6 _,beq_eq_false_iff_ne.mpr (K9 (T2 hb)),[],.nil,Heap.DictOf.new h⟩
def Od:TE:=λ_ H Q=> ∀p,H p=none->Q (.ref p) (upd H p (.dK []))
section
variable {X:Cx}{pos:Pos}
theorem pe_dnewK:PE X (.Dict [] [] pos) Od:=λpins s σ H Q I h=>
 wpAny_Dict_empty ⟨.ref s.heap.objs.size,_,I.laid (a:=s.heap.objs.size) (o:= .dK []) (t':=s.toks) (λ_ _ q=>P1 _ q) (P2 _) (Ma s.heap I.big),rfl,h _ (I.hok.fresh (P2 _))⟩
end
structure M2 (X:Cx)(o:M5)(m:Str)(apos:Pos)(e f:M5)(cpos:Pos):Prop where
 base:Y4 o m X.env (E5 o X.env)=E5 o X.env
 few:((K6 cpos (R4 [e,f] X.env)).all (λx=> !x.1)&&(iZ cpos (dQ [] X.env)).all (λx=>x.1.isSome)
  &&decide (([e,f]:G0 M5).length+([]:G0 cK).length+(if ([]:G0 cK).isEmpty then 0 else 1)<30))=true
 line:(apos.endLine==cpos.line)=true
 trees:K6 cpos (R4 [e,f] X.env)= [(false,E5 e X.env),(false,E5 f X.env)]
def IsD (H:Hp)(a:P5):Prop:=(∃kvs,Rd H a (.dK kvs))\/ ∃kvs,Rd H a (.dT kvs)
theorem Oe {pins:G0 (P5×Obj)}{σ:St}{s:G2}(I:Inv X pins σ H s)(d:IsD H a):
 s.TypeIs (.ref a) "dict" /\(∀b,L6 a= .ref b-> ∃ob,s.heap.get? b=some ob/\ob.dict=none)/\(a==aU)=false:=by
 rcases d with ⟨kvs,e⟩|⟨kvs,e⟩
 ·obtain⟨_,hd,vs,_,dd⟩:=BL I.hok e;refine⟨dd.typeIs,λb q=> ?_,hd⟩;cases q;obtain⟨ob,_,_,h1,h2,_⟩:=dd;exact⟨ob,h1,h2.2.1⟩
 ·obtain⟨_,hd,xs,_,dd⟩:=BN I.hok e;refine⟨dd.typeIs,λb q=> ?_,hd⟩;cases q;obtain⟨ob,_,_,h1,h2,_⟩:=dd;exact⟨ob,h1,h2.2.1⟩
section
variable {X:Cx}{pins:G0 (P5×Obj)}{σ:St}{H:Hp}{s:G2}{a:P5}{y d:V}{u r:G1}{o:P7 V}{A:N3}{E:G1->G2->Prop}
theorem Of {Q:G1->G2->Prop}(hu:A.units+1<cLine)(I:Inv X pins σ H s)(g:DGet H a y o)(ry:RelV y u)(rd:RelV d r)(h: ∀w' s',Inv X pins σ H s'->RelV (o.getD d) w'->Q w' s'):
 R7 (S2 X.prog X.w) A (call (.builtin "dict.get") [.ref a,u,r]) Q E s:=by
 rcases g with ⟨kvs,k,e,ey,l⟩|⟨kvs,k,b,e,ey,eb,l⟩
 ·subst ey;obtain⟨z,hd,vs,rel,dd⟩:=BL I.hok e;refine oG fG dd.typeIs kU (i0 _ _ _) (meets_dict_get_default (jU X.prog X.w) a (BK ry) hd r) ⟨_,dd.mapOf,h _ _ (I.tok _) ?_⟩;rw [l];exact(rel.val k).getD rd
 ·subst ey;cases (show u=L6 b from ry);obtain⟨z,hd,xs,rel,dd⟩:=BN I.hok e;refine oG fG dd.typeIs kU (i0 _ _ _) (meetsH_dict_get_default (tupleKind (jU X.prog X.w)) a b hd r) ⟨nN hu,k,xs,Pg I.hok eb,dd,h _ _ (I.tok _) ?_⟩;rw [l];exact(rel.val k).getD rd
end
def Og (td ty tx:TE):TE:=λσ H Q=>td σ H λx H1=> ∃a,x= .ref a/\IsD H1 a/\ty σ H1 λy H2=>tx σ H2 λz H3=> ∃o,DGet H3 a y o/\Q (o.getD z) H3
section
variable {X:Cx}{o e f:M5}{apos cpos:Pos}{td ty tx:TE}
theorem Mb (hu:X.A.units+1<cLine)(ho:PE X o td)(he:PE X e ty)(hf:PE X f tx)(m:M2 X o "get" apos e f cpos):PE X (.Call (.Attribute o "get" apos) [e,f] [] cpos) (Og td ty tx):=by
 intro pins s σ H Q I h;refine wpAny_Call_method m.base m.few m.line i4 fG tL (thn (ho pins s σ H _ I h) λu s1 ⟨x,H1,I1,rx,a,ex,d,q1⟩=> ?_);subst ex;obtain rfl:u=L6 a:=rx;obtain⟨t1,t2,_⟩:=Oe I1 d;refine⟨t1,t2,?_⟩;rw [m.trees];refine bF rfl (fZ (gR (thn (he pins s1 σ H1 _ I1 q1) λiv s2 ⟨y,H2,I2,ry,q2⟩=>
  gR (thn (hf pins s2 σ H2 _ I2 q2) λfv s3 ⟨z,H3,I3,rz,ov,g,q3⟩=>n8 ?_))))
 exact Of hu I3 g ry rz λw' s4 I4 rw'=>⟨_,H3,I4,rw',q3⟩
end
def wK (names:G0 (Str×NameKind))(env:Env)(cs:G0 (Str×P5)):G0 (Str×P5):=
 names.foldl (λcs p=>if p.2= .free then (match env.cells.lookup p.1 with|some c=>(p.1,c)::cs|none=>cs) else cs) cs
theorem zO (p:Str×NameKind)(l:G0 (Str×NameKind))(env:Env)(cs:G0 (Str×P5)):
 wK (p::l) env cs=wK l env (if p.2= .free then (match env.cells.lookup p.1 with|some c=>(p.1,c)::cs|none=>cs) else cs):=rfl
variable {env:Env}
theorem ZF {f:Str×NameKind->G0 (Str×P5)->Sem (dR (G0 (Str×P5)))}
 (h1: ∀p cs,p.2≠ .free->f p cs=pure (.yield cs))(h2: ∀p cs c,p.2= .free->env.cells.lookup p.1=some c->f p cs=pure (.yield ((p.1,c)::cs))):
 ∀ (l:G0 (Str×NameKind)) (cs:G0 (Str×P5)),(∀p∈l,p.2= .free-> ∃c,env.cells.lookup p.1=some c)->forIn l cs f=pure (wK l env cs)
 | [],cs,_=>rfl
 |p::l,cs,h=>by
  have ih:=ZF h1 h2 l
  by_cases hp:p.2= .free
  ·obtain⟨c,hc⟩:=h p P6 hp;rw [dE,h2 p cs c hp hc,pure_bind];show forIn l ((p.1,c)::cs) f=_;rw [ih _ λq hq=>h q (R3 _ hq),zO,D4 hp,hc]
  ·rw [dE,h1 p cs hp,pure_bind];show forIn l cs f=_;rw [ih _ λq hq=>h q (R3 _ hq),zO,D5 hp]
variable {scope:U2}
theorem vN (h: ∀p∈scope.names,p.2= .free-> ∃c,env.cells.lookup p.1=some c):w6 scope env=pure (wK scope.names env []):=by
 simp only [w6];rw [ZF (env:=env) (λp cs hp=> ?_) (λp cs c hp hc=> ?_) _ _ h]
 ·rfl
 ·obtain⟨n,k⟩:=p;have hb:(k==L8)=false:=by simpa using hp
  simp only [hb,C0,l8]
 ·obtain⟨n,k⟩:=p;have hb:(k==L8)=true:=by simpa using hp
  have hc':env.cells.lookup n=some c:=hc;simp only [hb,fU,cellOf,hc',pure_bind]
theorem ZG: ∀ (l:G0 (Str×NameKind)) (cs:G0 (Str×P5)),(∀p∈cs,env.cells.lookup p.1=some p.2)-> ∀p∈wK l env cs,env.cells.lookup p.1=some p.2
 | [],cs,h,p,hp=>h p hp
 |q::l,cs,h,p,hp=>by
  rw [zO] at hp;refine ZG l _ (λr hr=> ?_) p hp
  by_cases hq:q.2= .free
  ·rw [D4 hq] at hr;cases e:env.cells.lookup q.1 with
   |none=>rw [e] at hr;exact h r hr
   |some c=>
    rw [e] at hr;rcases S5.mp hr with rfl|hr
    ·exact e
    ·exact h r hr
  ·rw [D5 hq] at hr;exact h r hr
theorem ZH: ∀ (l:G0 (Str×NameKind)) (cs:G0 (Str×P5)),∀p∈cs,p∈wK l env cs
 | [],cs,p,hp=>hp
 |q::l,cs,p,hp=>by
  rw [zO];refine ZH l _ p ?_
  by_cases hq:q.2= .free
  ·rw [D4 hq];cases e:env.cells.lookup q.1 with
   |none=>exact hp
   |some c=>exact R3 _ hp
  ·rw [D5 hq];exact hp
variable {x:Str}
theorem ZI {c:P5}(hc:env.cells.lookup x=some c): ∀ (l:G0 (Str×NameKind)) (cs:G0 (Str×P5)),(x,L8)∈l->(x,c)∈wK l env cs
 |q::l,cs,h=>by
  rw [zO];rcases S5.mp h with e|h
  ·subst e;rw [D4 rfl,hc];exact ZH l _ _ P6
  ·exact ZI hc l _ h
theorem zj {α:Type}: ∀ {l:G0 (Str×α)} {x:Str} {c:α},l.lookup x=some c->(x,c)∈l
 | [],_,_,h=>by simp at h
 |(n,k)::r,x,c,h=>by
  rw [A3] at h;cases hx:x==n with
  |true=>
   rw [hx] at h;have e:x=n:=eq_of_beq hx;cases h;subst e;exact P6
  |false=>rw [hx] at h;exact R3 _ (zj h)
theorem WL {α:Type}: ∀ {l:G0 (Str×α)} {x:Str} {c:α},(x,c)∈l-> ∃c',l.lookup x=some c'
 |(n,k)::r,x,c,h=>by
  rw [A3];cases hx:x==n with
  |true=>exact⟨_,rfl⟩
  |false=>
   rcases S5.mp h with e|h
   ·cases e;simp at hx
   ·exact WL h
theorem WM {l:G0 (Str×NameKind)}{c:P5}(h:(wK l env []).lookup x=some c):env.cells.lookup x=some c:=
 ZG l [] (λ_ z=>nomatch z) (x,c) (zj h)
theorem Pj {l:G0 (Str×NameKind)}{c:P5}(hc:env.cells.lookup x=some c)(h:(x,L8)∈l):(wK l env []).lookup x=some c:=by
 obtain⟨c',e⟩:=WL (ZI hc l [] h);have:=WM e;rw [hc] at this;cases this;exact e
theorem ye {κ:Type}{f:Str×κ->Str×κ}{g:Str->κ->κ}(hf: ∀n k,f (n,k)=(n,g n k))(x:Str): ∀l:G0 (Str×κ),(l.map f).lookup x=(l.lookup x).map (g x)
 | []=>rfl
 |(n,k)::r=>by
  rw [T7,hf,A3,A3,ye hf x r];cases same:x==n with
  |false=>rfl
  |true=>rw [eq_of_beq same];rfl
theorem jl {names:G0 (Str×NameKind)}{k:NameKind}(found:
 (names.map λ(n,k)=>if (k==L8&&env.scope.kind== .function&&env.kindOf n==some .cell) then (n,Q2) else (n,k)).lookup x=some k):
  names.lookup x=some k\/names.lookup x=some .free:=by
 rw [ye (g:=λn k=>if (k==L8&&env.scope.kind== .function&&env.kindOf n==some .cell) then .cell else k) (λn k=>by dsimp only;split<;>rfl)] at found;obtain⟨k0,was,now⟩:=E7.mp found;split at now
 ·rename_i c;simp only [O1,beq_iff_eq] at c;exact .inr (by rw [was,c.1.1])
 ·exact .inl (by rw [was,now])
theorem wa: ∀ (names:G0 (Str×NameKind)) (n:G3) (acc:G0 (Str×P5)) (p:Str×P5),p∈V1 n names acc->p∈acc\/(n<=p.2/\(p.1,Q2)∈names)
 | [],_,_,_,h=> .inl h
 |(x,k)::r,n,acc,p,h=>by
  unfold V1 at h;split at h
  ·rename_i hk;rcases wa r (n+1) _ p h with z|⟨z1,z2⟩
   ·rcases S5.mp z with e|z
    ·subst e;have:k= .cell:=by simpa using hk
     subst this;exact .inr ⟨P2 _,P6⟩
    ·exact .inl z
   ·exact .inr ⟨by omega,R3 _ z2⟩
  ·rcases wa r n acc p h with z|⟨z1,z2⟩
   ·exact .inl z
   ·exact .inr ⟨z1,R3 _ z2⟩
theorem jE: ∀ (names:G0 (Str×NameKind)) (n:G3) (acc:G0 (Str×P5)),V1 n names acc=V1 n names []++acc
 | [],_,_=>rfl
 |(x,k)::r,n,acc=>by
  unfold V1;split
  ·rw [jE r (n+1) ((x,n)::acc),jE r (n+1) [(x,n)],D1];rfl
  ·exact jE r n acc
theorem yS {α:Type}(l l':G0 (Str×α))(x:Str):(l++l').lookup x=(match l.lookup x with|some c=>some c|none=>l'.lookup x):=by
 induction l with
 |nil=>rfl
 |cons p l ih=>
  obtain⟨n,c⟩:=p;rw [Y8,A3,A3];cases x==n with
  |true=>rfl
  |false=>exact ih
theorem vh {names:G0 (Str×NameKind)}(here:names.lookup x=some .cell):
 (names.map λ(n,k)=>if (k==L8&&env.scope.kind== .function&&env.kindOf n==some .cell) then (n,Q2) else (n,k)).lookup x=some .cell:=by
 rw [ye (g:=λn k=>if (k==L8&&env.scope.kind== .function&&env.kindOf n==some .cell) then .cell else k) (λn k=>by dsimp only;split<;>rfl),here];simp
section
variable {M:pM}{A:N3}{E:G1->G2->Prop}{s:G2}
theorem QL (h:F4)(names:G0 (Str×NameKind)):(∀n c,(n,c)∈V1 h.objs.size names []->(pushCells h names).IsCell c none/\h.objs.size<=c)/\(V1 h.objs.size names []).Pairwise λx y=>x.2≠y.2:=
 have laid:=cellsFrom_ok names h h.objs.size [] ⟨by simp,.nil⟩ (P2 _)
 ⟨laid.empty,laid.apart⟩
theorem JZ {scope:U2}{globals:P5}{closure:G0 (Str×P5)}{qual:Str}{func:P7 P5}{code:G1}{outer:Env}{builtins:P5}{Q:Env->G2->Prop}
 (hQ: ∀h',h'.Ns s.heap.objs.size (λ_=>none)->(∀b o,s.heap.get? b=some o->h'.get? b=some o)->(∀n c,(n,c)∈V1 (s.heap.objs.size+1) scope.names []->h'.IsCell c none/\s.heap.objs.size+1<=c)->
  ((V1 (s.heap.objs.size+1) scope.names []).Pairwise λx y=>x.2≠y.2)->
  Q (newEnv scope s.heap.objs.size globals (V1 (s.heap.objs.size+1) scope.names closure) qual func code (some outer) builtins) {s with heap:=h'}):
 R7 M A (q0 scope globals closure [] qual func code (some outer) builtins) Q E s:=by
 have names:=QL (s.heap.push {cls:= .type "dict",data:= .dict #[]}) scope.names;have first:(s.heap.push {cls:= .type "dict",data:= .dict #[]}).objs.size=s.heap.objs.size+1:=b9 ..
 rw [first] at names;unfold q0;refine wpAny_bind (wpAny_alloc (wpAny_bind (wpAny_layCells _ (λn k cs=>rfl) _ _ _ _ ?_)));simp only [gW,fU];rw [first];exact wpAny_bind (P3 (P3 (hQ _ ((Heap.Ns.new _ _).keeps (pX _ _)) (λb o here=>pX _ _ b o (P1 _ here)) names.1 names.2)))
end
def jp (X:Cx)(scope:U2)(C:P5):G0 (Str×P5):=V1 (C+1) scope.names (wK scope.names X.env [])
def yy (X:Cx)(scope:U2)(C:P5)(s₀:G2)(H₀:Hp)(ex:G0 P5):Cx:=
 {X with s₀:=s₀,H₀:=H₀,env:=i5 scope (jp X scope C) C X.env,outer:=X.stack,ex:=ex,fn:=λx=>scope.names.lookup x==some .cell,pn:= [],xe:=λ_ _=>False}
def jf (X:Cx)(scope:U2)(X':Cx):Prop:= ∃C s₀ H₀ ex,X'=yy X scope C s₀ H₀ ex
structure BlockOk (X:Cx)(scope:U2)(js:G0 G3):Prop where
 kind:scope.kind= .function
 locs: ∀p∈scope.names,p.2= .local->scope.names.lookup p.1=some .local
 cels: ∀p∈scope.names,p.2= .cell->scope.names.lookup p.1=some .cell
 free: ∀p∈scope.names,p.2= .free->X.env.scope.names.lookup p.1=some .cell\/X.env.scope.names.lookup p.1=some .free
 js: ∀ (i:G3) (x:Str),X.N[i]? =some x->(scope.names.lookup x=some .local\/scope.names.lookup x=some .cell)->i∈js
variable {js:G0 G3}
theorem jS (S:BlockOk X scope js){C:P5}{x:Str}{c:P5}(h:(jp X scope C).lookup x=some c):
 (scope.names.lookup x≠some .cell/\X.env.cells.lookup x=some c)\/(scope.names.lookup x=some .cell/\(x,c)∈V1 (C+1) scope.names []):=by
 unfold jp at h;rw [jE,yS] at h;cases e:(V1 (C+1) scope.names []).lookup x with
 |some d=>
  rw [e] at h;cases h;have m:=zj e;rcases wa _ _ _ _ m with z|⟨_,z⟩
  ·exact absurd z (by simp)
  ·exact .inr ⟨S.cels _ z rfl,m⟩
 |none=>
  rw [e] at h;refine .inl ⟨λz=> ?_,WM h⟩;obtain⟨d,hd⟩:=vL (sc:=scope) (n:=C+1) z;rw [e] at hd;cases hd
theorem wB (S:BlockOk X scope js){C:P5}{x:Str}{c:P5}(hc:X.env.cells.lookup x=some c)(h:(x,L8)∈scope.names)(hn:scope.names.lookup x≠some .cell):(jp X scope C).lookup x=some c:=by
 unfold jp;rw [jE,yS];cases e:(V1 (C+1) scope.names []).lookup x with
 |some d=>
  rcases wa _ _ _ _ (zj e) with z|⟨_,z⟩
  ·exact absurd z (by simp)
  ·exact absurd (S.cels _ z rfl) hn
 |none=>exact Pj hc h
def zk:G0 G3->St->St
 | [],σ=>σ
 |j::js,σ=>zk js (σ.set j none)
theorem Jy: ∀ (js:G0 G3) (σ:St),(zk js σ).length=σ.length
 | [],_=>rfl
 |j::js,σ=>by rw [zk,Jy js];simp
theorem vO: ∀ (js:G0 G3) (σ:St) (i:G3) (v:V),(zk js σ)[i]? =some (some v)->σ[i]? =some (some v)
 | [],_,_,_,h=>h
 |j::js,σ,i,v,h=>by
  have h1:=vO js _ i v h
  by_cases e:i=j
  ·subst e;rw [eF] at h1;simp at h1
  ·rwa [K3 (K9 e)] at h1
theorem jR: ∀ (js:G0 G3) (σ:St) (i:G3) (v:V),i∈js-> ¬ (zk js σ)[i]? =some (some v)
 |j::js,σ,i,v,hm,h=>by
  rcases S5.mp hm with rfl|hm
  ·have h1:=vO js _ i v h;rw [eF] at h1;simp at h1
  ·exact jR js _ i v hm h
theorem HOk.track {h:F4}{o:HO}(x:HOk P w H h)(hn:H a=none)(new:ObjOk P w (upd H a o) h a o):HOk P w (upd H a o) h:=λb u e=>by
 by_cases hb:b=a
 ·subst hb;rw [ji] at e;cases e;exact new
 ·rw [jg hb] at e;exact(x b u e).stay (λc v _ q=>q) (λc q=>by rw [jg (je q hn)];exact q) λc xs q=>by rw [jg (je q hn)];exact q
def Agree (σ IF:St):Prop:=IF.length=σ.length/\ ∀ (i:G3) (v:V),σ[i]? =some (some v)->IF[i]? =some (some v)
theorem Agree.set {σ:St}{j:G3}(v:V)(h: ∀u,¬σ[j]? =some (some u)):Agree σ (σ.set j (some v)):=⟨by simp,λi u q=>by
 by_cases e:j=i
 ·subst e;exact absurd q (h u)
 ·rw [K3 e];exact q⟩
theorem Agree.trans {a b c:St}(x:Agree a b)(y:Agree b c):Agree a c:=⟨y.1.trans x.1,λi v h=>y.2 i v (x.2 i v h)⟩
def PTs (X:Cx)(ifs:G0 M5)(t:TT):Prop:=
 ∀ (pins:G0 (P5×Obj)) (s:G2) (σ:St) (H:Hp) (Q:M7->Hp->Prop),Inv X pins σ H s->t σ H Q->
  R7 (S2 X.prog X.w) X.A (forIn ifs true λc r=>if r=true then do let ok <-isTrue c X.env (E5 c X.env);pure (V3 ok) else pure (V3 r)) (TP X pins σ Q) X.xe s
def To:TT:=λ_ H Q=>Q true H
theorem BP:PTs X [] To:=λ_ _ _ H _ I h=>wpAny_tests_nil ⟨H,I,h⟩
theorem BQ {c:M5}{t:TT}(hc:PT X c t):PTs X [c] t:=λpins s σ H Q I h=>wpAny_tests_one (hc pins s σ H Q I h)
def vP (iter target:M5)(ifs:G0 M5)(it:G1)(env:Env)(act:Sem Unit)(nxt:Code):Sem fM:=do
 iH iter.pos
 match <-qR it with
 |none=>pure (.done .next)
 |some v=>
  bM target it v
  fJ target env v
  let mut ok:=true
  for c in ifs do
   if ok then ok <-isTrue c env (E5 c env)
  if ok then act
  again nxt
variable {elt iter:M5}{pos:Pos}{ifs:G0 M5}
theorem XE {prog:S7}{A:N3}{R:pA->G2->Prop}{s:G2}{target:M5}{gens:G0 Y5}{depth:G3}{it acc:G1}{act:Sem Unit}(I:G3->G2->Prop)
 (heq:f6 (.ListComp elt gens scope pos) depth it acc env=vP iter target ifs it env act (.compLoop (.ListComp elt gens scope pos) depth it acc env))
 (turn: ∀n s,I n s->R7 (S2 prog w) A (qR it) (λr II=>match r with
  |none=>R (.ok .next) II
  |some v=>R7 (S2 prog w) A (bM target it v) (λ_ II=>R7 (S2 prog w) A (fJ target env v) (λ_ IW=>
   R7 (S2 prog w) A (forIn ifs true λc r=>if r=true then do let ok <-sZ c env (E5 c env);pure (V3 ok) else pure (V3 r)) (λok IO=>
    if ok=true then R7 (S2 prog w) A act (λ_ IY=> ∃m,m<n/\I m IY) (λ_ _=>False) IO
    else ∃m,m<n/\I m IO) (λ_ _=>False) IW) (λ_ _=>False) II) (λ_ _=>False) II) (λ_ _=>False) s)
 (n:G3)(h:I n s):
 aL (S2 prog w) A (.compLoop (.ListComp elt gens scope pos) depth it acc env) R s:=by
 refine tD rfl I (λn s hI=> ?_) n h;show R7 _ A ((f6 (.ListComp elt gens scope pos) depth it acc env).onRaise (λx=>do sP x env;lB x)) _ _ s;refine tY ?_;rw [heq];unfold vP;refine wpAny_bind (Y3 (wpAny_bind (M9 (turn n s hI) (λr II IM=> ?_) λ_ _ h'=>h'.elim)));cases r with
 |none=>exact P3 IM
 |some v=>
  refine wpAny_bind (M9 IM (λ_ II IM=> ?_) λ_ _ h'=>h'.elim);refine wpAny_bind (M9 IM (λ_ IW KA=>wpAny_bind (M9 KA (λok IO IZ=> ?_) λ_ _ h'=>h'.elim)) λ_ _ h'=>h'.elim);cases ok with
  |false=>exact P3 ⟨rfl,IZ⟩
  |true=>exact wpAny_bind (M9 IZ (λ_ IY KB=>P3 ⟨rfl,KB⟩) λ_ _ h'=>h'.elim)
abbrev TM:=St->Hp->G0 V->(G0 V->Hp->Prop)->Prop
def Ec (X:Cx)(D:P5)(act:Sem Unit)(t:TM):Prop:=
 ∀ (pins:G0 (P5×Obj)) (s:G2) (σ:St) (H:Hp) (ys:G0 V) (us:G0 G1) (Q:G0 V->Hp->Prop),Inv X ([(D,aO us)]++pins) σ H s->Vals ys us->ys.length<=sizeLine->D∈X.ex->(∀x c,X.env.cells.lookup x=some c->c≠D)->(∀p∈X.pn++pins,p.1≠D)->t σ H ys Q->
  R7 (S2 X.prog X.w) X.A act (λ_ s'=> ∃ys' us' H',Vals ys' us'/\Inv X ([(D,aO us')]++pins) σ H' s'/\Q ys' H') (λ_ _=>False) s
def Oh (te:TE):TM:=λσ H ys Q=>te σ H λy H1=>Q (ys++ [y]) H1
def WN (elt:M5)(env:Env)(acc:G1):Sem Unit:=do let _ <-call (.builtin "list.append") [acc,<-E5 elt env]
variable {te:TE}
theorem Ym {D:P5}(hx:X.xe=λ_ _=>False)(he:PE X elt te):Ec X D (WN elt X.env (.ref D)) (Oh te):=by
 intro pins s σ H ys us Q I hv hz DX cD pD h;have q:=he _ s σ H _ I h;rw [hx] at q;unfold WN;refine wpAny_bind (M9 q (λy s1 ⟨yv,H1,I1,r1,q1⟩=> ?_) λ_ _ z=>z);have zD:=I1.pin (D,aO us) (P8 _ (N4 _ P6));refine wpAny_bind (append_at (its:=us.toArray) (n:=us.length) zD.1 (λh11 hs11 hD11=>P3 ?_) (by rw [S6,<-hv.length];exact hz));have I10u:Inv X pins σ H1 s1:=I1.pins_of λp hp=>I1.pin p (P8 _ (P8 _ hp))
 have I11:Inv X pins σ H1 {s1 with heap:=h11}:=I10u.turned (t':=s1.toks) (it:=D) (λb o hb e=>hs11.extBut b o hb e) zD.2.1 zD.2.2.1 (.inl DX) cD pD;have eD:h11.get? D=some (aO (us++ [y])):=by rw [hD11];exact congrArg some (LCg.lst_snoc us y)
 refine⟨ys++ [yv],us++ [y],H1,hv.append (.cons r1 .nil),I11.pins_of λp hp=> ?_,q1⟩;rcases R5.mp hp with z|z
 ·rcases G9.mp z with rfl
  exact⟨eD,zD.2.1,zD.2.2.1,zD.2.2.2.1,λv z=>by cases z⟩
 ·exact I11.pin p (P8 _ z)
def Ed (js : G0 G3) (wi : TI) (g : TG) (tt : TT) (tm : TM) : TE := fun σ H Q => wi σ H fun J H1 =>
  ∃ W : G3 → G3 → G0 V → Hp → Prop, (∃ m, W 0 m [] H1) ∧ ∀ i m ys H, W i m ys H → ys.length ≤ sizeLine ∧
    ((J.stop i H ∧ ∀ p, H p = none → Q (.ref p) (upd H p (.lst ys))) ∨
     (J.go i H ∧ ∀ x H', J.yld i H x H' → g x (zk js σ) H' fun IH H2 => Agree (zk js σ) IH ∧ tt IH H2 fun b H3 =>
        if b = true then tm IH H3 ys fun ys' H4 => ∃ m', m' < m ∧ W (i + 1) m' ys' H4 else ∃ m', m' < m ∧ W (i + 1) m' ys H3))
def tLC (js:G0 G3)(wi:TI)(g:TG)(tt:TT)(te:TE):TE:=Ed js wi g tt (Oh te)
variable {tg:M5}{wi:TI}{g:TG}{tt:TT}
theorem Pk {e:M5}{rest:G0 Y5}{pos0:Pos}{tm:TM}{use:P7 (G1->Sem Unit)}{Qv:G1->G2->Prop}(hc:X.calm=true)(S:BlockOk X scope js)(hi:PI X tg iter wi)
 (he0:e= .ListComp elt (⟨tg,iter,ifs,0⟩::rest) scope pos)
 (hg: ∀X',jf X scope X'->PG X' tg g)(ht: ∀X',jf X scope X'->PTs X' ifs tt)
 (act:Env->G1->Sem Unit)(hturn: ∀it acc env,f6 e 0 it acc env=vP iter tg ifs it env (act env acc) (.compLoop e 0 it acc env))(he: ∀X',jf X scope X'-> ∀D,Ec X' D (act X'.env (.ref D)) tm)
 (hs: ∀x,M0 iter X.env x=pure x){pins:G0 (P5×Obj)}{s:G2}{σ:St}{H:Hp}{Q:VK}(I:Inv X pins σ H s)(h:Ed js wi g tt tm σ H Q)
 (fin: ∀ (D C:P5) (H':Hp) (s':G2) (m:Str->P7 G1),s'.heap.Ns C m->(∀h',E4 C s'.heap h'->Inv X pins σ H' {s' with heap:=h'})->H' C=none->C≠X.env.locals->C ∉ X.fs->X.s₀.heap.objs.size<=C->(∀x c,X.env.cells.lookup x=some c->c≠C)->(∀p∈X.pn++pins,p.1≠C)->
  Q (.ref D) H'->rA (S2 X.prog X.w) X.A X.xe use Qv (.ref D) C (.ok .next) s'):
 R7 (S2 X.prog X.w) X.A (iN e scope X.env pos0 (newList []) false (E5 iter X.env) use) Qv X.xe s:=by
 have hclos:=vN (scope:=scope) (env:=X.env) (λp hp e=>I.ok.has p.1 (S.free p hp e));subst he0;refine iO (use:=use) rfl hs hclos S.kind S.locs (thn (hi pins s σ H _ I h) λv s1 h1=>thn h1 λitv s2 h2=> ?_);obtain⟨it,fp,tn,J,H2,e,I2,T,st2,f2,W,⟨m0,w0⟩,turn⟩:=h2;subst e;refine X2 (JZ (λIM IU IX IN IV=> ?_));dsimp only at IU IX IN IV ⊢;generalize hD:s2.heap.objs.size=D;generalize hH3:s2.heap.push {cls:= .type "list",dict:=none,data:= .seq ([]:G0 G1).toArray}=h3 at IU IX IN IV ⊢;have sz3:h3.objs.size=D+1:=by rw [<-hH3,b9,hD]
 have up3: ∀b o,s2.heap.get? b=some o->h3.get? b=some o:=λb o e=>hH3 ▸ P1 _ e
 have I3:Inv X pins σ H2 {s2 with heap:=h3}:=I2.kept (t':=s2.toks) up3;have hD3:h3.get? D=some (aO []):=by rw [<-hH3,<-hD];exact T5 _ rfl
 have fD:Uw X pins H2 D:=I2.fpOk (by rw [hD];exact P2 _) (I2.hok.fresh (by rw [hD];exact P2 _));have obf: ∀b∈fp,∃o,s2.heap.get? b=some o/\ ∀v,o.data≠ .cell v:=T.obj _ _ st2;have ltf: ∀b∈fp,b<D:=λb hb=>by obtain⟨o,e,_⟩:=obf b hb;rw [<-hD];exact R1 e
 generalize hC:h3.objs.size=C at IU IN IV ⊢;have CD:C=D+1:=hC.symm.trans sz3;have upC: ∀b o,h3.get? b=some o->IM.get? b=some o:=IX;generalize hX:yy X scope C {s2 with heap:=h3} H2 (fp++ [D])=X';have iX:jf X scope X':=⟨C,_,_,_,hX.symm⟩;have hf: ∀b∈fp++ [D],Uw X pins H2 b:=λb hb=>(R5.mp hb).elim (f2 b) λz=>by rw [G9.mp z];exact fD
 have cl: ∀x c,(jp X scope C).lookup x=some c->X.env.cells.lookup x=some c\/C<c:=λx c e=>by
  rcases jS S e with ⟨_,z⟩|⟨_,z⟩
  ·exact .inl z
  ·exact .inr (U4 (IN x c z).2)
 have olt: ∀x c,X.env.cells.lookup x=some c->c<C:=λx c e=>by obtain⟨v,q⟩:=I3.cell x c e;rw [<-hC];exact q.lt
 have ltb: ∀b∈fp++ [D],b<C:=λb hb=>(R5.mp hb).elim (λz=>by have:=ltf b z;rw [CD];exact bY this) λz=>by rw [G9.mp z,CD];exact A4 _
 have okX:X'.Ok:=by
  subst hX;refine⟨I.ok.mod,S.kind,I.ok.glob,I.ok.blt,K0 hC,λx y c e1 e2=> ?_,λx hx=> ?_,λx c z e=> ?_,I.ok.hd,I.ok.frames,.inl rfl,λb hb=>⟨T2 (ltb b hb),λx c e=>(cl x c e).elim (λz=>(hf b hb).2.2.2.2.1 x c z) λz=>Q6 (E6 (ltb b hb) z)⟩,
   I3.bs,S4 I.ok.bsz I3.sz,λb o e hb=> ?_,λb hb z=> ?_,I3.stack,I3.stkFree⟩
  ·rcases jS S e1 with ⟨_,z1⟩|⟨_,z1⟩<;>rcases jS S e2 with ⟨_,z2⟩|⟨_,z2⟩
   ·exact I.ok.inj x y c z1 z2
   ·exact absurd (E6 (olt x c z1) (U4 (IN y c z2).2)) (C4 _)
   ·exact absurd (E6 (olt y c z2) (U4 (IN x c z1).2)) (C4 _)
   ·exact n9 IV z1 z2
  ·have own:scope.names.lookup x=some .cell-> ∃c,(jp X scope C).lookup x=some c:=λz=>by
    obtain⟨c,hc⟩:=vL (sc:=scope) (n:=C+1) z;exact⟨c,by unfold jp;rw [jE,yS,hc]⟩
   have shr:scope.names.lookup x=some .free-> ∃c,(jp X scope C).lookup x=some c:=λz=>by
    have fm:=zj z;obtain⟨c,hc⟩:=I.ok.has x (S.free _ fm rfl);exact⟨c,wB S hc fm (by rw [z];decide)⟩
   rcases hx with hx|hx
   ·rcases jl (env:=X.env) hx with z|z
    ·exact own z
    ·exact shr z
   ·rcases jl (env:=X.env) hx with z|z<;>exact shr z
  ·have z':scope.names.lookup x=some .cell:=by
    have z2:(scope.names.lookup x==some Q2)=true:=z;simpa using z2
   rcases jS S e with ⟨n,_⟩|⟨_,m⟩
   ·exact absurd z' n
   ·show h3.objs.size<=c;rw [hC];exact R9 (U4 (IN x c m).2)
  ·rcases (hf b hb).2.2.2.1 with z|z
   ·exact I.ok.noex b o e z
   ·exact absurd (N0 (R1 e) (S4 I.ok.bsz z)) (C4 _)
  ·rcases S5.mp (I.stkSub b z) with q|q
   ·exact(hf b hb).2.1 q
   ·exact(hf b hb).2.2.1 q
 -- the block's first state
 have I4:Inv X' [(D,aO [])] (zk js σ) H2 {s2 with heap:=IM}:=by
  subst hX;have hDC:D≠C:=by rw [CD];exact T2 (A4 _)
  refine⟨okX,rfl,I2.bare,Un.kept (λb u e=>upC b u e),⟨_,IU,λi x v e1 e2 e3=> ?_⟩,λx c e=> ?_,I3.hok.fresh (K0 hC),λx c e=>(cl x c e).elim (λz=>I2.freeC x c z) (λz=>I3.hok.fresh (by rw [<-hC] at z;exact R9 z)),λp hp=> ?_,I3.hok.kept upC,(Jy js σ).trans I2.len⟩
  ·have fr:scope.names.lookup x=some .free:=by
    rcases e3 with e3|e3|e3
    ·rcases jl (env:=X.env) e3 with z|z
     ·exact absurd e2 (jR js σ i v (S.js i x e1 (.inl z)))
     ·exact z
    ·rcases jl (env:=X.env) e3 with z|z
     ·exact absurd e2 (jR js σ i v (S.js i x e1 (.inr z)))
     ·exact z
    ·rcases jl (env:=X.env) e3 with z|z<;>exact z
   have fm:=zj fr;obtain⟨m,hm,hl⟩:=I2.loc;have vis:=S.free _ fm rfl;obtain⟨u,r,lk⟩:=hl i x v e1 (vO js σ i v e2) (.inr vis);have kd:(tE scope X.env).names.lookup x=some .cell\/(tE scope X.env).names.lookup x=some .free:=by
    rcases e3 with e3|e3|e3
    ·rcases jl (env:=X.env) e3 with z|z
     ·rw [fr] at z;cases z
     ·exfalso;have z2:=e3
      -- a local's kind stays
      exact absurd e2 (jR js σ i v (S.js i x e1 (.inl (by
       have q: ∀ (l:G0 (Str×NameKind)),(l.map λ(n,k)=>if (k==L8&&X.env.scope.kind== .function&&X.env.kindOf n==some .cell) then (n,Q2) else (n,k)).lookup x=some .local->l.lookup x=some .local:=by
        intro l
        induction l with
        |nil=>intro h;simp at h
        |cons p l ih=>
         obtain⟨n,k'⟩:=p;intro h;have h':tZ x ((if (k'==L8&&X.env.scope.kind== .function&&X.env.kindOf n==some .cell)=true then (n,Q2) else (n,k'))::(l.map λ(n,k)=>if (k==L8&&X.env.scope.kind== .function&&X.env.kindOf n==some .cell) then (n,Q2) else (n,k)))=some .local:=h;rw [A3]
         by_cases hc:(k'==L8&&X.env.scope.kind== .function&&X.env.kindOf n==some .cell)=true
         ·rw [D4 hc,A3] at h';cases hx:x==n with
          |true=>rw [hx] at h';cases h'
          |false=>rw [hx] at h';exact ih h'
         ·rw [D5 hc,A3] at h';cases hx:x==n with
          |true=>rw [hx] at h';exact h'
          |false=>rw [hx] at h';exact ih h'
       exact q _ z2))))
    ·exact .inl e3
    ·exact .inr e3
   rcases lk with ⟨k,_⟩|⟨_,c,hc,hcell⟩
   ·have k':X.env.scope.names.lookup x=some .local:=k;rcases vis with z|z<;>(rw [k'] at z;cases z)
   ·refine⟨u,r,.inr ⟨kd,c,wB S hc fm (by rw [fr];decide),?_⟩⟩;obtain⟨o,ho,hd⟩:=hcell;exact⟨o,upC _ _ (up3 _ _ ho),hd⟩
  ·rcases jS S e with ⟨_,z⟩|⟨_,z⟩
   ·obtain⟨v,o,ho,hd⟩:=I2.cell x c z;exact⟨v,o,upC _ _ (up3 _ _ ho),hd⟩
   ·exact⟨none,(IN x c z).1⟩
  ·have hp':p∈ [(D,aO [])]:=hp;rcases G9.mp hp' with rfl
   refine⟨upC _ _ hD3,fD.1,hDC,λz=> ?_,λv z=>by cases z⟩;rcases S5.mp (I.stkSub D z) with q|q
   ·exact fD.2.1 q
   ·exact fD.2.2.1 q
 have st4:tn 0 IM:=T.keep _ _ _ st2 λb _ o e=>upC _ _ (up3 _ _ e)
 have eA:X'.A=X.A:=by rw [<-hX];rfl
 have eP:X'.prog=X.prog:=by rw [<-hX];rfl
 have eW:X'.w=X.w:=by rw [<-hX];rfl
 have eK:X'.K=X.K:=by rw [<-hX];rfl
 have eC:X'.calm=true:=by rw [<-hX];exact hc
 have eV:X'.env=i5 scope (jp X scope C) C X.env:=by rw [<-hX];rfl
 have eE:X'.xe=λ_ _=>False:=by rw [<-hX];rfl
 -- what stays true of the iterator's objects
 have stat: ∀ {us:G0 G1} {H':Hp},(∀b∈fp,H' b=none)-> ∀b∈fp,Uw X' [(D,aO us)] H' b:=λ{us H'} hn b hb=>by
  have q:=hf b (N4 _ hb);subst hX;refine⟨hn b hb,T2 (ltb b (N4 _ hb)),λz=> ?_,.inl (N4 _ hb),λx c e=>(cl x c e).elim (λz=>q.2.2.2.2.1 x c z) (λz=>Q6 (E6 (ltb b (N4 _ hb)) z)),λp hp=> ?_⟩
  ·rcases S5.mp (I.stkSub b z) with r|r
   ·exact q.2.1 r
   ·exact q.2.2.1 r
  ·have hp':p∈ [(D,aO us)]:=hp;rcases G9.mp hp' with rfl
   exact Q6 (ltf b hb)
 have loop: ∀IO:G2,IO= {s2 with heap:=IM}->
  aL (S2 X.prog X.w) X.A (.compLoop (.ListComp elt (⟨tg,iter,ifs,0⟩::rest) scope pos) 0 (.ref it) (.ref D) (i5 scope (jp X scope C) C X.env))
   (rA (S2 X.prog X.w) X.A X.xe use Qv (.ref D) C) IO:=by
  rintro IO rfl;refine XE (act:=act (i5 scope (jp X scope C) C X.env) (.ref D)) (λn s'=> ∃i ys us H',Vals ys us/\Inv X' [(D,aO us)] (zk js σ) H' s'/\tn i s'.heap/\(∀b∈fp,H' b=none)/\W i n ys H') (hturn _ _ _) ?_ m0
   ⟨0,[],[],H2,.nil,I4,st4,λb hb=>(f2 b hb).1,w0⟩
  rintro n s5 ⟨i,ys,us,H5,hv5,I5,st5,fr5,w5⟩;obtain⟨hz,tr⟩:=turn i n ys H5 w5;rcases tr with ⟨stop,qn⟩|⟨go,step⟩
  ·have q:=T.done X' eP eW eK eC i _ s5 _ H5 (λ_ _=>False) I5 (stat fr5) st5 stop;rw [eA] at q;refine M9 q (λr s6 ⟨hr,I6⟩=> ?_) λ_ _ z=>z
   subst hr;obtain⟨m6,hm6,_⟩:=I6.loc;rw [eV] at hm6;have zD:=I6.pin (D,aO us) (P8 _ P6);have HD:H5 D=none:=zD.2.1;have oD:s6.heap.get? D=some (aO us):=zD.1;have hDC:D≠C:=by rw [CD];exact T2 (A4 _)
   have HC:H5 C=none:=by have z:=I6.free;rw [eV] at z;exact z
   have B:=I6.base;have os6:s6.os=s2.os:=by have z:=I6.os;rw [<-hX] at z;exact z
   have Bu:Un (frs X.stack) (fp++ [D]) H2 H5 h3 s6.heap:=by rw [<-hX] at B;exact B
   have neC: ∀b o,h3.get? b=some o->b≠C:=λb o e=>by rw [<-hC];exact T2 (R1 e)
   refine fin D C (upd H5 D (.lst ys)) s6 m6 hm6 (λh' hs'=> ?_) (by rw [jg (K9 hDC)];exact HC) ?_ ?_ ?_ (λx c e=>T2 (olt x c e)) ?_ (qn D HD)
   ·have hk5:HOk X.prog X.w H5 h':=λb u e=>by
     have z:=I6.hok b u e;rw [eP,eW] at z;refine z.stay (λc v hc q=>hs'.extBut c v ?_ q) (λ_ q=>q) λ_ _ q=>q
     rcases hc with rfl|hc
     ·exact je e HC
     ·exact je hc HC
    refine I3.call' (ch:=fp++ [D]) os6 ⟨λb o e n hb hx=> ?_,λb o e n hb hx=> ?_,λb o e n hx=> ?_,λb o e hx=> ?_,λb xs e=> ?_,λb o u e=> ?_,λb ps e=> ?_⟩ (hk5.track HD ?_) I6.bare λb hb=> ?_
    ·exact hs'.extBut b o (neC b o e) (Bu.keep b o e n hb hx)
    ·obtain⟨sl,q⟩:=Bu.slot b o e n hb hx;exact⟨sl,hs'.extBut b _ (neC b o e) q⟩
    ·rw [jg λz=>hx (by rw [z];exact P8 _ P6)];exact Bu.free b o e n hx
    ·obtain⟨o',q⟩:=Bu.there b o e hx;exact⟨o',hs'.extBut b _ (neC b o e) q⟩
    ·have z:=Bu.tups b xs e;rw [jg (je z HD)];exact z
    ·have z:=Bu.frzs b o u e;rw [jg (je z HD)];exact z
    ·obtain⟨more,z⟩:=Bu.tbls b ps e;exact⟨more,by rw [jg (je z HD)];exact z⟩
    ·exact⟨hz,us,us.length,hv5,hs'.extBut D _ hDC oD⟩
    ·have q:=hf b hb;exact⟨q.2.2.2.1,q.2.1,q.2.2.2.2.1,q.2.2.2.2.2⟩
   ·rw [<-hC];exact Q6 I3.lt
   ·exact I3.nofs (K0 hC)
   ·rw [<-hC];exact I3.sz
   ·intro p hp;have:=(I3.pin p hp).1;rw [<-hC];exact T2 (R1 this)
  ·have q:=T.item X' eP eW eK eC i _ s5 _ H5 (λ_ _=>False) I5 (stat fr5) st5 go;rw [eA] at q;refine M9 q (λr s6 ⟨u,hr,h6⟩=> ?_) λ_ _ z=>z
   subst hr;refine M9 h6 (λ_ s7 ⟨x,H7,I7,r7,y7,st7,fr7⟩=> ?_) λ_ _ z=>z
   have I7':=I7.pinned (stat fr7) (T.obj _ _ st7);have q7:=hg X' iX _ s7 _ H7 x u _ I7' r7 (step x H7 y7);rw [eP,eW,eA,eV,eE] at q7;refine M9 q7 (λ_ s8 ⟨IQ,H8,I8,ag8,q8⟩=> ?_) λ_ _ z=>z
   have q9:=ht X' iX _ s8 IQ H8 _ I8 q8;rw [eP,eW,eA,eV,eE] at q9;refine M9 q9 (λok s9 ⟨H9,I9,q9⟩=> ?_) λ_ _ z=>z
   have keepT: ∀ {IF:St} {H':Hp} {s':G2} {us:G0 G1},Inv X' ([(D,aO us)]++wQ fp s7.heap) IF H' s'->tn (i+1) s'.heap/\ ∀b∈fp,H' b=none:=λ{IF H' s' us} I'=>
    ⟨T.keep _ _ _ st7 λb hb o e=>(I'.pin (b,o) (P8 _ (P8 _ (zi hb e)))).1,λb hb=>by
     obtain⟨o,e,_⟩:=T.obj _ _ st7 b hb;exact(I'.pin (b,o) (P8 _ (P8 _ (zi hb e)))).2.1⟩
   cases ok with
   |false=>
    have q9: ∃m',m'<n/\W (i+1) m' ys H9:=q9;obtain⟨m',hm,w9⟩:=q9;obtain⟨t9,f9⟩:=keepT I9;exact⟨m',hm,i+1,ys,us,H9,hv5,(I9.unpinned).weak ag8.1.symm ag8.2,t9,f9,w9⟩
   |true=>
    have q9:tm IQ H9 ys λys' H4=> ∃m',m'<n/\W (i+1) m' ys' H4:=q9
    have DX:D∈X'.ex:=by rw [<-hX];exact P8 _ P6
    have pD: ∀p∈X'.pn++wQ fp s7.heap,p.1≠D:=λp hp=>by
     have hp':p∈wQ fp s7.heap:=by rw [<-hX] at hp;simpa [yy] using hp
     exact T2 (ltf _ (vJ hp').1)
    have cD: ∀x c,X'.env.cells.lookup x=some c->c≠D:=λx c e=>by
     rw [eV] at e;exact(cl x c e).elim (λz=>fD.2.2.2.2.1 x c z) λz=>Q6 (E6 (by rw [CD];exact A4 _) z)
    have q10:=he X' iX D _ s9 IQ H9 ys us _ I9 hv5 hz DX cD pD q9;rw [eP,eW,eA,eV] at q10;show R7 _ _ (act _ _) _ _ s9;refine M9 q10 (λ_ s10 ⟨ys',us',H10,hv10,I10,m',hm,w10⟩=> ?_) λ_ _ z=>z
    obtain⟨t10,f10⟩:=keepT I10;exact⟨m',hm,i+1,ys',us',H10,hv10,(I10.unpinned).weak ag8.1.symm ag8.2,t10,f10,w10⟩
 exact codeAny_compStart_list (loop _ rfl) (T.self X.A 0 _ _ _ st4 (loop _ rfl))
theorem Oi (hc:X.calm=true)(S:BlockOk X scope js)(hi:PI X tg iter wi)
 (hg: ∀X',jf X scope X'->PG X' tg g)(ht: ∀X',jf X scope X'->PTs X' ifs tt)(he: ∀X',jf X scope X'->PE X' elt te)
 (hs: ∀x,M0 iter X.env x=pure x:=by intro _;rfl):PE X (.ListComp elt [⟨tg,iter,ifs,0⟩] scope pos) (tLC js wi g tt te):=by
 intro pins s σ H Q I h;rw [rV];exact Pk (use:=none) hc S hi rfl hg ht (WN elt) (λ_ _ _=>rfl) (λX' hX D=>Ym (by obtain⟨_,_,_,_,rfl⟩:=hX;rfl) (he X' hX)) hs I h
  λD C H' s' m hn hk _ _ _ _ _ _ q=>⟨m,hn,λh' hs'=>⟨.ref D,H',hk h' hs',rfl,q⟩⟩
theorem Pl {e:M5}{rest:G0 Y5}{pos' spos:Pos}{g':TG}{tm:TM}(hc:X.calm=true)(S:BlockOk X scope js)(hi:PI X tg iter wi)
 (he0:e= .ListComp elt (⟨tg,iter,ifs,0⟩::rest) scope pos)(hg: ∀X',jf X scope X'->PG X' tg g)(ht: ∀X',jf X scope X'->PTs X' ifs tt)
 (act:Env->G1->Sem Unit)(hturn: ∀it acc env,f6 e 0 it acc env=vP iter tg ifs it env (act env acc) (.compLoop e 0 it acc env))(he: ∀X',jf X scope X'-> ∀D,Ec X' D (act X'.env (.ref D)) tm)
 (hg':PG X (.Name x pos') g')(hsw:Y6 e (some (.Name x pos')) spos.line X.env=pure true)
 (hs: ∀x,M0 iter X.env x=pure x):PS X (.Assign [.Name x pos'] e spos) (NF (Ed js wi g tt tm) g'):=by
 intro pins s σ H Dn I h;rw [exec_Assign_Name_used _ _ _ _ hsw];refine wpAny_bind (Y3 (wpAny_bind ?_));subst he0;rw [arm_evalThenUse_ListComp];show R7 _ X.A (do let _ <-iN (.ListComp elt (⟨tg,iter,ifs,0⟩::rest) scope pos) scope X.env _ (newList []) false (E5 iter X.env) (some (fJ (.Name x pos') X.env))) _ _ s;refine wpAny_bind (M9 (Pk (use:=some (fJ (.Name x pos') X.env)) (Qv:=λ_ s'=>SP X pins Dn .next s') hc S hi rfl hg ht act hturn he hs I h ?_) (λ_ s' hq=>P3 (P3 hq)) λ_ _ e=>e);intro D C H' s' m hn hk HC nL nf sz ncell npin q;show R7 _ X.A (fJ (.Name x pos') X.env (.ref D)) _ _ s';obtain⟨o,es,ep,ho,hd,hr⟩:=id hn;have I1:Inv X pins σ H' s':=hk s'.heap (bZ ..);have I2:Inv X (pins++ [(C,o)]) σ H' s':=I1.pins_of λp hp=>by
  rcases R5.mp hp with z|z
  ·exact I1.pin p (P8 _ z)
  ·rcases G9.mp z with rfl
   exact⟨ho,HC,nL,nf,λv z=>by rw [hd] at z;cases z⟩
 refine M9 (hg' _ s' σ H' (.ref D) (.ref D) _ I2 rfl q) (λ_ s3 ⟨IK,H3,I3,q3⟩=> ?_) λ_ _ z=>z
 have pC:=I3.pin (C,o) (P8 _ (P8 _ P6));refine⟨m,hn.at' λo' e'=> ?_,λh' hs'=> ?_⟩
 ·rw [ho] at e';cases e';exact pC.1
 ·exact⟨IK,H3,(I3.unpinned).turned (t':=s3.toks) (it:=C) (λb o hb e=>hs'.extBut b o hb e) pC.2.1 nL (.inr sz) ncell npin,q3⟩
theorem Mc {pos' spos:Pos}{g':TG}(hc:X.calm=true)(S:BlockOk X scope js)(hi:PI X tg iter wi)
 (hg: ∀X',jf X scope X'->PG X' tg g)(ht: ∀X',jf X scope X'->PTs X' ifs tt)(he: ∀X',jf X scope X'->PE X' elt te)
 (hg':PG X (.Name x pos') g')(hsw:Y6 (.ListComp elt [⟨tg,iter,ifs,0⟩] scope pos) (some (.Name x pos')) spos.line X.env=pure true)
 (hs: ∀x,M0 iter X.env x=pure x:=by intro _;rfl):PS X (.Assign [.Name x pos'] (.ListComp elt [⟨tg,iter,ifs,0⟩] scope pos) spos) (NF (tLC js wi g tt te) g'):=
 Pl hc S hi rfl hg ht (WN elt) (λ_ _ _=>rfl) (λX' hX D=>Ym (by obtain⟨_,_,_,_,rfl⟩:=hX;rfl) (he X' hX)) hg' hsw hs
def QM (e iter:M5)(env:Env)(acc:G1):Sem Unit:=do
 let x <-E5 iter env
 iH iter.pos
 let x <-M0 iter env x
 let _ <-runOwn (.compStart e 1 (<-aK [x] (o8 x)) acc env) env
def mIn (wi : TI) (g : TG) (tt : TT) (tm : TM) : TM := fun σ H ys Q => wi σ H fun J H1 =>
  ∃ W : G3 → G3 → G0 V → Hp → Prop, (∃ m, W 0 m ys H1) ∧ ∀ i m ys H, W i m ys H → ys.length ≤ sizeLine ∧
    ((J.stop i H ∧ Q ys H) ∨
     (J.go i H ∧ ∀ x H', J.yld i H x H' → g x σ H' fun IH H2 => Agree σ IH ∧ tt IH H2 fun b H3 =>
        if b = true then tm IH H3 ys fun ys' H4 => ∃ m', m' < m ∧ W (i + 1) m' ys' H4 else ∃ m', m' < m ∧ W (i + 1) m' ys H3))
theorem vQ {prog:S7}{A:N3}{R:pA->G2->Prop}{s:G2}{g0 g1:Y5}{it acc:G1}(ha:g1.is_async=0)
 (h0:aL (S2 prog w) A (.compLoop (.ListComp elt [g0,g1] scope pos) 1 it acc env) R s)
 (h:R7 (S2 prog w) A (o8 it) (λit' s'=>aL (S2 prog w) A (.compLoop (.ListComp elt [g0,g1] scope pos) 1 it' acc env) R s')
  (notedBy (S2 prog w) A env λx s'=>R (.error x) s') s):
 aL (S2 prog w) A (.compStart (.ListComp elt [g0,g1] scope pos) 1 it acc env) R s:=by
 obtain⟨tg,iter,ifs,as⟩:=g1;cases (show as=0 from ha);refine pY (rW ?_);obtain⟨hp,g,d,tk,os⟩:=s;unfold compStart
 wp_walk
 refine Y9 ?_;split
 ·exact P3 ⟨rfl,h0⟩
 ·exact wpAny_bind (fK (wpAny_bind (Y3 (wpAny_bind (M9 h (λ_ _ on=>P3 ⟨rfl,on⟩) λ_ _ x=>x)))))
theorem Pm {D:P5}{g0:Y5}(hc:X.calm=true)(hx:X.xe=λ_ _=>False)
 (hi:PI X tg iter wi)(hg:PG X tg g)(ht:PTs X ifs tt)(he:PE X elt te)(hs: ∀x,M0 iter X.env x=pure x):
 Ec X D (QM (.ListComp elt [g0,⟨tg,iter,ifs,0⟩] scope pos) iter X.env (.ref D)) (mIn wi g tt (Oh te)):=by
 intro pins s σ H ys us Q I hv hz DX cD pD h;have q:=hi _ s σ H _ I h;rw [hx] at q;unfold QM;refine wpAny_bind (M9 q (λv s1 h1=>wpAny_bind (Y3 (wpAny_bind (t8 (hs v) (wpAny_bind (L7 (M9 h1 (λitv s2 h2=> ?_) λ_ _ z=>z))))))) λ_ _ z=>z);obtain⟨it,fp,tn,J,H2,e,I2,T,st2,f2,W,⟨m0,w0⟩,turn⟩:=h2;subst e;refine wpAny_bind (wpAny_runOwn ?_);have neD: ∀b∈fp,b≠D:=λb hb=>by
  have z:=(f2 b hb).2.2.2.2.2 (D,aO us) (P8 _ (N4 _ P6));exact K9 z
 have stat: ∀ {us':G0 G1} {H':Hp},(∀b∈fp,H' b=none)-> ∀b∈fp,Uw X ([(D,aO us')]++pins) H' b:=λ{us' H'} hn b hb=>by
  have q:=f2 b hb;refine⟨hn b hb,q.2.1,q.2.2.1,q.2.2.2.1,q.2.2.2.2.1,λp hp=> ?_⟩;rcases R5.mp hp with z|z
  ·exact q.2.2.2.2.2 p (N4 _ z)
  ·rcases R5.mp z with z|z
   ·rcases G9.mp z with rfl
    exact K9 (neD b hb)
   ·exact q.2.2.2.2.2 p (P8 _ (P8 _ z))
 have loop:aL (S2 X.prog X.w) X.A (.compLoop (.ListComp elt [g0,⟨tg,iter,ifs,0⟩] scope pos) 1 (.ref it) (.ref D) X.env)
  (λr s'=>match r with| .ok f=>R7 (S2 X.prog X.w) X.A (pure ()) (λ_ s'=> ∃ys' us' H',Vals ys' us'/\Inv X ([(D,aO us')]++pins) σ H' s'/\Q ys' H') (λ_ _=>False) s'| .error e=>cameBackBy (S2 X.prog X.w) X.A X.env (λ_ _=>False) e s') s2:=by
  refine XE (act:=WN elt X.env (.ref D)) (λn s'=> ∃i ys us H',Vals ys us/\Inv X ([(D,aO us)]++pins) σ H' s'/\tn i s'.heap/\(∀b∈fp,H' b=none)/\W i n ys H') rfl ?_ m0
   ⟨0,ys,us,H2,hv,I2,st2,λb hb=>(f2 b hb).1,w0⟩
  rintro n s5 ⟨i,ys,us,H5,hv5,I5,st5,fr5,w5⟩;obtain⟨hz,tr⟩:=turn i n ys H5 w5;rcases tr with ⟨stop,qn⟩|⟨go,step⟩
  ·refine M9 (T.done X rfl rfl rfl hc i _ s5 _ H5 (λ_ _=>False) I5 (stat fr5) st5 stop) (λr s6 ⟨hr,I6⟩=> ?_) λ_ _ z=>z
   subst hr;exact P3 ⟨ys,us,H5,hv5,I6,qn⟩
  ·refine M9 (T.item X rfl rfl rfl hc i _ s5 _ H5 (λ_ _=>False) I5 (stat fr5) st5 go) (λr s6 ⟨u,hr,h6⟩=> ?_) λ_ _ z=>z
   subst hr;refine M9 h6 (λ_ s7 ⟨x,H7,I7,r7,y7,st7,fr7⟩=> ?_) λ_ _ z=>z
   have I7':=I7.pinned (stat fr7) (T.obj _ _ st7);have q7:=hg _ s7 _ H7 x u _ I7' r7 (step x H7 y7);rw [hx] at q7;refine M9 q7 (λ_ s8 ⟨IQ,H8,I8,ag8,q8⟩=> ?_) λ_ _ z=>z
   have q9:=ht _ s8 IQ H8 _ I8 q8;rw [hx] at q9;refine M9 q9 (λok s9 ⟨H9,I9,q9⟩=> ?_) λ_ _ z=>z
   have keepT: ∀ {IF:St} {H':Hp} {s':G2} {us:G0 G1},Inv X (([(D,aO us)]++pins)++wQ fp s7.heap) IF H' s'->tn (i+1) s'.heap/\ ∀b∈fp,H' b=none:=λ{IF H' s' us} I'=>
    ⟨T.keep _ _ _ st7 λb hb o e=>(I'.pin (b,o) (P8 _ (P8 _ (zi hb e)))).1,λb hb=>by
     obtain⟨o,e,_⟩:=T.obj _ _ st7 b hb;exact(I'.pin (b,o) (P8 _ (P8 _ (zi hb e)))).2.1⟩
   cases ok with
   |false=>
    have q9: ∃m',m'<n/\W (i+1) m' ys H9:=q9;obtain⟨m',hm,w9⟩:=q9;obtain⟨t9,f9⟩:=keepT I9;exact⟨m',hm,i+1,ys,us,H9,hv5,(I9.unpinned).weak ag8.1.symm ag8.2,t9,f9,w9⟩
   |true=>
    have q9:Oh te IQ H9 ys λys' H4=> ∃m',m'<n/\W (i+1) m' ys' H4:=q9
    have pD': ∀p∈X.pn++(pins++wQ fp s7.heap),p.1≠D:=λp hp=>by
     rcases R5.mp hp with z|z
     ·exact pD p (N4 _ z)
     ·rcases R5.mp z with z|z
      ·exact pD p (P8 _ z)
      ·exact neD _ (vJ z).1
    rw [D1] at I9;have q10:=Ym (D:=D) hx he (pins++wQ fp s7.heap) s9 IQ H9 ys us _ I9 hv5 hz DX cD pD' q9;show R7 _ _ (WN _ _ _) _ _ s9;refine M9 q10 (λ_ s10 ⟨ys',us',H10,hv10,I10,m',hm,w10⟩=> ?_) λ_ _ z=>z
    rw [<-D1] at I10;obtain⟨t10,f10⟩:=keepT I10;exact⟨m',hm,i+1,ys',us',H10,hv10,(I10.unpinned).weak ag8.1.symm ag8.2,t10,f10,w10⟩
 exact vQ rfl loop (T.self X.A 0 _ _ _ st2 loop)
theorem Po (elt iter tg iter' tg':M5)(ifs ifs':G0 M5)(scope:U2)(pos:Pos)(it acc:G1)(env:Env):
 f6 (.ListComp elt [⟨tg,iter,ifs,0⟩,⟨tg',iter',ifs',0⟩] scope pos) 0 it acc env=
  vP iter tg ifs it env (QM (.ListComp elt [⟨tg,iter,ifs,0⟩,⟨tg',iter',ifs',0⟩] scope pos) iter' env acc) (.compLoop (.ListComp elt [⟨tg,iter,ifs,0⟩,⟨tg',iter',ifs',0⟩] scope pos) 0 it acc env):=by
 unfold vP QM;simp only [bind_assoc,pure_bind];rfl
def Ee (js:G0 G3)(wi:TI)(g:TG)(tt:TT)(wi':TI)(g':TG)(tt':TT)(te:TE):TE:=Ed js wi g tt (mIn wi' g' tt' (Oh te))
theorem Oj {iter' tg':M5}{ifs':G0 M5}{wi':TI}{g':TG}{tt':TT}(hc:X.calm=true)(S:BlockOk X scope js)(hi:PI X tg iter wi)
 (hg: ∀X',jf X scope X'->PG X' tg g)(ht: ∀X',jf X scope X'->PTs X' ifs tt)(hi': ∀X',jf X scope X'->PI X' tg' iter' wi')
 (hg': ∀X',jf X scope X'->PG X' tg' g')(ht': ∀X',jf X scope X'->PTs X' ifs' tt')(he: ∀X',jf X scope X'->PE X' elt te)
 (hs: ∀x,M0 iter X.env x=pure x:=by intro _;rfl)(hs': ∀env x,M0 iter' env x=pure x:=by intro _ _;rfl):
 PE X (.ListComp elt [⟨tg,iter,ifs,0⟩,⟨tg',iter',ifs',0⟩] scope pos) (Ee js wi g tt wi' g' tt' te):=by
 intro pins s σ H Q I h;rw [rV];exact Pk (use:=none) hc S hi rfl hg ht (λenv acc=>QM (.ListComp elt [⟨tg,iter,ifs,0⟩,⟨tg',iter',ifs',0⟩] scope pos) iter' env acc) (λ_ _ _=>Po ..)
  (λX' hX D=>Pm (by obtain⟨_,_,_,_,rfl⟩:=hX;exact hc) (by obtain⟨_,_,_,_,rfl⟩:=hX;rfl) (hi' X' hX) (hg' X' hX) (ht' X' hX) (he X' hX) (hs' _)) hs I h
  λD C H' s' m hn hk _ _ _ _ _ _ q=>⟨m,hn,λh' hs'=>⟨.ref D,H',hk h' hs',rfl,q⟩⟩
inductive D where
 |non|bl (b:M7)|int (i:P4)|str (x:Str)|tup (ds:G0 D)|lst (a:P5)|dic (x:Str) (i:P4)|dct (a:P5)|scr (ns:G0 P4)|exc (C:P5)|fn (a:P5)
def Scr (K:G5)(H:Hp)(a:P5)(ns:G0 P4):Prop:=
 (∃o,H a=some (.frz o (.lst (ns.map V.int))))\/
  ∃ (o:Obj) (its:S9 G1) (n:G3),K.lookup a=some o/\o.cls= .type "list" /\o.dict=none/\o.data= .seq its n/\its.size<=sizeLine/\Vals (ns.map V.int) its.toList
theorem Scr.sq {K:G5}{ns:G0 P4}(h:Scr K H a ns):SqL K H a (ns.map V.int):=h.elim (λz=> .inl (.inr z)) .inr
mutual
def RelD (K:G5)(H:Hp):D->V->Prop
 | .non,v=>v= .non
 | .bl b,v=>v= .bl b
 | .int i,v=>v= .int i
 | .str x,v=>v= .str x
 | .tup ds,v=> ∃a vs,v= .ref a/\H a=some (.tup vs)/\RelDs K H ds vs
 | .lst a,v=>v= .ref a/\ ∃vs,H a=some (.lst vs)
 | .dic x i,v=> ∃a,v= .ref a/\H a=some (.dK [(cI x,V.int i)])
 | .dct a,v=>v= .ref a
 | .scr ns,v=> ∃a,v= .ref a/\Scr K H a ns
 | .exc C,v=> ∃x o vs,v= .ref x/\H x=some (.frz o (.own 0))/\o.cls= .ref C/\o.data= .fields vs
 | .fn a,v=>v= .ref a/\a5 K (.ref a)=true
def RelDs (K:G5)(H:Hp):G0 D->G0 V->Prop
 | [],vs=>vs= []
 |d::ds,vs=> ∃v r,vs=v::r/\RelD K H d v/\RelDs K H ds r
end
structure Kept (H H':Hp):Prop where
 tup: ∀a xs,H a=some (.tup xs)->H' a=some (.tup xs)
 lst: ∀a xs,H a=some (.lst xs)-> ∃ys,H' a=some (.lst ys)
 dic: ∀a x i,H a=some (.dK [(cI x,V.int i)])->H' a=some (.dK [(cI x,V.int i)])
 frz: ∀a o u,H a=some (.frz o u)->H' a=some (.frz o u)
theorem Kept.refl (H:Hp):Kept H H:=⟨λ_ _ h=>h,λ_ xs h=>⟨xs,h⟩,λ_ _ _ h=>h,λ_ _ _ h=>h⟩
theorem Kept.trans {A B C:Hp}(x:Kept A B)(y:Kept B C):Kept A C:=
 ⟨λa xs h=>y.tup a xs (x.tup a xs h),λa xs h=>let ⟨_,e⟩:=x.lst a xs h;y.lst a _ e,λa k i h=>y.dic a k i (x.dic a k i h),λa o u h=>y.frz a o u (x.frz a o u h)⟩
theorem Kept.new {H:Hp}{p:P5}{o:HO}(h:H p=none):Kept H (upd H p o):=
 ⟨λa xs e=>by rw [jg (je e h)];exact e,λa xs e=>⟨xs,by rw [jg (je e h)];exact e⟩,λa k i e=>by rw [jg (je e h)];exact e,λa o u e=>by rw [jg (je e h)];exact e⟩
theorem Kept.put {H:Hp}{p:P5}{xs ys:G0 V}(h:H p=some (.lst xs)):Kept H (upd H p (.lst ys)):=
 ⟨λa zs e=>by rw [jg (Uv e h (by intro z;cases z))];exact e,λa zs e=>by
  by_cases q:a=p
  ·subst q;exact⟨ys,ji⟩
  ·exact⟨zs,by rw [jg q];exact e⟩,
  λa k i e=>by rw [jg (Uv e h (by intro z;cases z))];exact e,λa o u e=>by rw [jg (Uv e h (by intro z;cases z))];exact e⟩
def DObj (o:HO):Prop:=(∃kvs:G0 (P4×V),o= .dK (kvs.map λp=>((K5 p.1:Key),p.2)))\/ ∃φ,o= .ext φ
theorem DObj.no {o:HO}(d:DObj o):(∀xs,o≠ .tup xs)/\(∀xs,o≠ .lst xs)/\(∀x i,o≠ .dK [(cI x,V.int i)])/\(∀p u,o≠ .frz p u)/\ ∀ps,o≠ .tbl ps:=by
 rcases d with ⟨kvs,rfl⟩|⟨φ,rfl⟩
 ·refine⟨λ_ z=>(nomatch z),λ_ z=>(nomatch z),λx i z=> ?_,λ_ _ z=>(nomatch z),λ_ z=>(nomatch z)⟩;injection z with z
  cases kvs with
  |nil=>cases z
  |cons p r=>injection z with z _;injection z with z _;cases z
 ·exact⟨λ_ z=>(nomatch z),λ_ z=>(nomatch z),λ_ _ z=>(nomatch z),λ_ _ z=>(nomatch z),λ_ z=>(nomatch z)⟩
theorem Kept.putD {H:Hp}{p:P5}{o o':HO}(h:H p=some o)(d:DObj o):Kept H (upd H p o'):=by
 obtain⟨d1,d2,d3,d4,_⟩:=d.no;have ne: ∀ {a:P5} {u:HO},H a=some u->o≠u->a≠p:=λe n z=>by subst z;rw [h] at e;injection e with e;exact n e
 exact⟨λa xs e=>by rw [jg (ne e (d1 xs))];exact e,λa xs e=>⟨xs,by rw [jg (ne e (d2 xs))];exact e⟩,λa x i e=>by rw [jg (ne e (d3 x i))];exact e,λa q u e=>by rw [jg (ne e (d4 q u))];exact e⟩
mutual
theorem RelD.mono {K:G5}{H H':Hp}(k:Kept H H'): ∀ {d:D} {v:V},RelD K H d v->RelD K H' d v
 | .non,_,h=>h
 | .bl _,_,h=>h
 | .int _,_,h=>h
 | .str _,_,h=>h
 | .tup ds,v,h=>by
  obtain⟨a,vs,e,h1,h2⟩:=(show ∃a vs,v= .ref a/\H a=some (.tup vs)/\RelDs K H ds vs from h);exact⟨a,vs,e,k.tup _ _ h1,RelDs.mono k h2⟩
 | .lst a,v,h=>by
  obtain⟨e,vs,h1⟩:=(show v= .ref a/\ ∃vs,H a=some (.lst vs) from h);exact⟨e,k.lst _ _ h1⟩
 | .dic x i,v,h=>by
  obtain⟨a,e,h1⟩:=(show ∃a,v= .ref a/\H a=some (.dK [(cI x,V.int i)]) from h);exact⟨a,e,k.dic _ _ _ h1⟩
 | .dct a,v,h=>h
 | .scr ns,v,h=>by
  obtain⟨a,e,h1⟩:=(show ∃a,v= .ref a/\Scr K H a ns from h);exact⟨a,e,h1.elim (λ⟨o,z⟩=> .inl ⟨o,k.frz _ _ _ z⟩) .inr⟩
 | .exc C,v,h=>by
  obtain⟨x,o,vs,e,h1,r⟩:=(show ∃x o vs,v= .ref x/\H x=some (.frz o (.own 0))/\o.cls= .ref C/\o.data= .fields vs from h);exact⟨x,o,vs,e,k.frz _ _ _ h1,r⟩
 | .fn a,v,h=>h
theorem RelDs.mono {K:G5}{H H':Hp}(k:Kept H H'): ∀ {ds:G0 D} {vs:G0 V},RelDs K H ds vs->RelDs K H' ds vs
 | [],_,h=>h
 |d::ds,vs,h=>by
  obtain⟨v,r,e,h1,h2⟩:=(show ∃v r,vs=v::r/\RelD K H d v/\RelDs K H ds r from h);exact⟨v,r,e,RelD.mono k h1,RelDs.mono k h2⟩
end
section
variable {K:G5}{H:Hp}
theorem RelDs.nil:RelDs K H [] []:=rfl
theorem RelDs.cons {d:D}{v:V}{ds:G0 D}{vs:G0 V}(h:RelD K H d v)(t:RelDs K H ds vs):RelDs K H (d::ds) (v::vs):=⟨v,vs,rfl,h,t⟩
theorem RelDs.length: ∀ {ds:G0 D} {vs:G0 V},RelDs K H ds vs->ds.length=vs.length
 | [],_,h=>by cases (show _= [] from h);rfl
 |d::ds,vs,h=>by
  obtain⟨v,r,e,_,h2⟩:=(show ∃v r,vs=v::r/\RelD K H d v/\RelDs K H ds r from h);subst e;simp [RelDs.length h2]
theorem RelDs.append: ∀ {ds es:G0 D} {vs us:G0 V},RelDs K H ds vs->RelDs K H es us->RelDs K H (ds++es) (vs++us)
 | [],_,_,_,h,g=>by cases (show _= [] from h);exact g
 |d::ds,es,vs,us,h,g=>by
  obtain⟨v,r,e,h1,h2⟩:=(show ∃v r,vs=v::r/\RelD K H d v/\RelDs K H ds r from h);subst e;exact .cons h1 (RelDs.append h2 g)
theorem RelDs.get: ∀ {ds:G0 D} {vs:G0 V} {i:G3} {d:D},RelDs K H ds vs->ds[i]? =some d-> ∃v,vs[i]? =some v/\RelD K H d v
 |d'::ds,vs,i,d,h,e=>by
  obtain⟨v,r,q,h1,h2⟩:=(show ∃v r,vs=v::r/\RelD K H d' v/\RelDs K H ds r from h);subst q;cases i with
  |zero=>simp at e;subst e;exact⟨v,rfl,h1⟩
  |succ i=>
   obtain⟨u,q1,q2⟩:=RelDs.get h2 (i:=i) (d:=d) (by simpa using e);exact⟨u,by simpa using q1,q2⟩
theorem RelDs.take (n:G3): ∀ {ds:G0 D} {vs:G0 V},RelDs K H ds vs->RelDs K H (ds.take n) (vs.take n):=by
 induction n with
 |zero=>intro ds vs _;exact(rfl:RelDs K H [] [])
 |succ n ih=>
  intro ds vs h;cases ds with
  |nil=>cases (show vs= [] from h);exact .nil
  |cons d ds=>
   obtain⟨v,r,e,h1,h2⟩:=(show ∃v r,vs=v::r/\RelD K H d v/\RelDs K H ds r from h);subst e;exact .cons h1 (ih h2)
theorem RelDs.drop (n:G3): ∀ {ds:G0 D} {vs:G0 V},RelDs K H ds vs->RelDs K H (ds.drop n) (vs.drop n):=by
 induction n with
 |zero=>intro ds vs h;exact h
 |succ n ih=>
  intro ds vs h;cases ds with
  |nil=>cases (show vs= [] from h);exact .nil
  |cons d ds=>
   obtain⟨v,r,e,h1,h2⟩:=(show ∃v r,vs=v::r/\RelD K H d v/\RelDs K H ds r from h);subst e;exact ih h2
theorem RelDs.set {d:D}{v:V}(q:RelD K H d v): ∀ {ds:G0 D} {vs:G0 V} (i:G3),RelDs K H ds vs->RelDs K H (ds.set i d) (vs.set i v)
 | [],_,_,h=>by cases (show _= [] from h);exact .nil
 |e::ds,vs,i,h=>by
  obtain⟨u,r,z,h1,h2⟩:=(show ∃u r,vs=u::r/\RelD K H e u/\RelDs K H ds r from h);subst z;cases i with
  |zero=>exact .cons q h2
  |succ i=>exact .cons h1 (RelDs.set q i h2)
theorem wR: ∀ns:G0 P4,RelDs K H (ns.map D.int) (ns.map V.int)
 | []=> .nil
 |n::ns=> .cons rfl (wR ns)
end
inductive DC where
 |ik (kv:G0 (P4×D))
 |tk (ep:G3) (kv:G0 (G0 (G0 P4)×D))
structure HD where
 ls:P5->P7 (G0 D)
 dc:P5->P7 DC
instance:CoeFun HD λ_=>P5->P7 (G0 D):=⟨HD.ls⟩
def zZ (h:HD)(a:P5)(ds:G0 D):HD:=⟨λb=>if b=a then some ds else h b,h.dc⟩
def UB (h:HD)(a:P5):HD:=⟨λb=>if b=a then none else h b,h.dc⟩
theorem jc {h:HD}{a:P5}{ds:G0 D}:zZ h a ds a=some ds:=D4 rfl
theorem wo {h:HD}{a b:P5}{ds:G0 D}(e:b≠a):zZ h a ds b=h b:=D5 e
theorem zP {h:HD}{a:P5}{ds:G0 D}(e:h a=none):UB (zZ h a ds) a=h:=by
 obtain⟨l,d⟩:=h;refine congrArg (HD.mk · d) ?_
 funext b
 show (if b=a then none else if b=a then some ds else l b)=l b
 by_cases q:b=a
 ·subst q;rw [D4 rfl];exact e.symm
 ·rw [D5 q,D5 q]
def LN:G0 Str:= ["law","_law_right","_law_words","_law_other_words","_law_many_right","_law_all","_law_told_row","_law_all_right","_law_desk_right","_law_signs_right","_law_lists_right","_law_text_right"]
def TabK (K:G5)(P:P5):Prop:= ∃x∈LN,∃c,nE K x=some (c,P)
def CodesOk (H:Hp)(ps:S9 G1):Prop:=TriplesOk ps.toList/\ ∀pos cv,codeAmong pos ps.toList=some cv-> ∃ (c:P5) (o:Obj) (vs:S9 G1) (q:Str) (t:Tok),cv= .ref c/\H c=some (.frz o (.own 0))/\o.data= .fields vs/\vs[1]? =some (.str q t)
def CTabs (K:G5)(H:Hp):Prop:= ∀P,TabK K P-> ∃ps,H P=some (.tbl ps)/\CodesOk H ps
theorem CodesOk.mono {H H':Hp}{ps:S9 G1}(k: ∀a o u,H a=some (.frz o u)->H' a=some (.frz o u))(c:CodesOk H ps):CodesOk H' ps:=
 ⟨c.1,λpos cv e=>let ⟨c',o,vs,q,t,e1,e2,r⟩:=c.2 pos cv e;⟨c',o,vs,q,t,e1,k _ _ _ e2,r⟩⟩
theorem CTabs.mono {K:G5}{H H':Hp}(x:CTabs K H)(k: ∀a o u,H a=some (.frz o u)->H' a=some (.frz o u))(kt: ∀a ps,H a=some (.tbl ps)->H' a=some (.tbl ps)):CTabs K H':=λP hP=>
 let ⟨ps,e,c⟩:=x P hP;⟨ps,kt _ _ e,c.mono k⟩
theorem CTabs.new {K:G5}{H:Hp}{p:P5}{o:HO}(x:CTabs K H)(e:H p=none):CTabs K (upd H p o):=
 x.mono (λa o' u h=>by rw [jg (je h e)];exact h) λa ps h=>by rw [jg (je h e)];exact h
theorem CTabs.put {K:G5}{H:Hp}{p:P5}{o:HO}{xs:G0 V}(x:CTabs K H)(e:H p=some (.lst xs)):CTabs K (upd H p o):=
 x.mono (λa o' u h=>by rw [jg (Uv h e (by intro z;cases z))];exact h) λa ps h=>by rw [jg (Uv h e (by intro z;cases z))];exact h
def BR (T:G0 (G0 P4)):P4:=nO (aF (T.map λr=>nO (aF (r.map hashInt))))
def Hb (a:P5)(ep:G3)(xs:G0 (G0 (G0 P4)×P5×V)):HO:= .ext λh=>(a==aU)=false/\xs.length<=sizeLine/\ ∃ys:G0 (G0 (G0 P4)×P5×G1),Paired (λp q=>p.1=q.1/\p.2.1=q.2.1/\RelV p.2.2 q.2.2) xs ys/\
 ∃o es,h.get? a=some o/\o.ExactDict/\o.data= .dict es ep/\es.toList=ys.map λx=>⟨BR x.1,.ref x.2.1,x.2.2⟩
def DRel (K:G5)(H:Hp)(a:P5):DC->Prop
 | .ik kv=> ∃kvs:G0 (P4×V),H a=some (.dK (kvs.map λp=>((K5 p.1:Key),p.2)))/\kv.map (·.1)=kvs.map (·.1)/\RelDs K H (kv.map (·.2)) (kvs.map (·.2))
 | .tk ep kv=> ∃xs:G0 (G0 (G0 P4)×P5×V),H a=some (Hb a ep xs)/\(kv.map (·.1)).Nodup/\kv.map (·.1)=xs.map (·.1)/\(∀x∈xs,RelD K H (.tup (x.1.map λr=> .tup (r.map D.int))) (.ref x.2.1))/\RelDs K H (kv.map (·.2)) (xs.map (·.2.2))
theorem DRel.obj {K:G5}{H:Hp}{a:P5}: ∀ {c:DC},DRel K H a c-> ∃o,H a=some o/\DObj o
 | .ik _,⟨kvs,e,_⟩=>⟨_,e,.inl ⟨kvs,rfl⟩⟩
 | .tk _ _,⟨xs,e,_⟩=>⟨_,e,.inr ⟨_,rfl⟩⟩
theorem DRel.mono {K:G5}{H H':Hp}{a:P5}(k:Kept H H')(z: ∀o,H a=some o->H' a=some o): ∀ {c:DC},DRel K H a c->DRel K H' a c
 | .ik _,⟨kvs,e,q,r⟩=>⟨kvs,z _ e,q,r.mono k⟩
 | .tk _ _,⟨xs,e,n,q,t,r⟩=>⟨xs,z _ e,n,q,λx hx=>(t x hx).mono k,r.mono k⟩
structure RelH (K:G5)(h:HD)(H:Hp):Prop where
 ls: ∀a ds,h a=some ds-> ∃vs,H a=some (.lst vs)/\RelDs K H ds vs
 tb:CTabs K H
 dc: ∀a c,h.dc a=some c->DRel K H a c
instance {K:G5}{h:HD}{H:Hp}:CoeFun (RelH K h H) λ_=> ∀a ds,h a=some ds-> ∃vs,H a=some (.lst vs)/\RelDs K H ds vs:=⟨RelH.ls⟩
structure Sub (h h':HD):Prop where
 ls: ∀a ds,h a=some ds->h' a=some ds
 dc: ∀a c,h.dc a=some c->h'.dc a=some c
instance {h h':HD}:CoeFun (Sub h h') λ_=> ∀a ds,h a=some ds->h' a=some ds:=⟨Sub.ls⟩
theorem Sub.refl (h:HD):Sub h h:=⟨λ_ _ e=>e,λ_ _ e=>e⟩
theorem Sub.trans {a b c:HD}(x:Sub a b)(y:Sub b c):Sub a c:=⟨λd ds e=>y d ds (x d ds e),λd ds e=>y.dc d ds (x.dc d ds e)⟩
theorem Sub.drop (h:HD)(a:P5):Sub (UB h a) h:=⟨λb ds e=>by
 have e:(if b=a then none else h b)=some ds:=e;split at e
 ·cases e
 ·exact e,λ_ _ e=>e⟩
theorem Sub.new {h:HD}{p:P5}{ds:G0 D}(e:h p=none):Sub h (zZ h p ds):=⟨λa es q=>(by
 rw [wo];exact q;intro z;subst z;rw [e] at q;cases q),λ_ _ e=>e⟩
section
variable {K:G5}{h h':HD}{H:Hp}
theorem RelH.sub (r:RelH K h H)(s:Sub h' h):RelH K h' H:=⟨λa ds e=>r a ds (s a ds e),r.tb,λa c e=>r.dc a c (s.dc a c e)⟩
theorem RelH.free (r:RelH K h H){p:P5}(e:H p=none):h p=none:=by
 cases q:h p with
 |none=>rfl
 |some ds=>obtain⟨vs,z,_⟩:=r p ds q;rw [e] at z;cases z
theorem RelH.freeC (r:RelH K h H){p:P5}(e:H p=none):h.dc p=none:=by
 cases q:h.dc p with
 |none=>rfl
 |some c=>obtain⟨o,z,_⟩:=(r.dc p c q).obj;rw [e] at z;cases z
theorem RelH.dcN (r:RelH K h H){p:P5}{o:HO}(e:H p=none): ∀a c,h.dc a=some c->DRel K (upd H p o) a c:=λa c q=>
 (r.dc a c q).mono (.new e) λu z=>by rw [jg (je z e)];exact z
theorem RelH.new (r:RelH K h H){p:P5}{o:HO}(e:H p=none):RelH K h (upd H p o):=⟨λa ds q=>by
 obtain⟨vs,z,w⟩:=r a ds q;exact⟨vs,by rw [jg (je z e)];exact z,w.mono (.new e)⟩,r.tb.new e,r.dcN e⟩
theorem RelH.newL (r:RelH K h H){p:P5}{ds:G0 D}{vs:G0 V}(e:H p=none)(q:RelDs K H ds vs):RelH K (zZ h p ds) (upd H p (.lst vs)):=⟨λa es z=>by
 by_cases w:a=p
 ·subst w;rw [jc] at z;cases z;exact⟨vs,ji,q.mono (.new e)⟩
 ·rw [wo w] at z;obtain⟨us,z1,z2⟩:=r a es z;exact⟨us,by rw [jg w];exact z1,z2.mono (.new e)⟩,r.tb.new e,r.dcN e⟩
theorem RelH.put (r:RelH K h H){p:P5}{ds:G0 D}{vs us:G0 V}(e:H p=some (.lst us))(q:RelDs K H ds vs):RelH K (zZ h p ds) (upd H p (.lst vs)):=⟨λa es z=>by
 by_cases w:a=p
 ·subst w;rw [jc] at z;cases z;exact⟨vs,ji,q.mono (.put e)⟩
 ·rw [wo w] at z;obtain⟨us,z1,z2⟩:=r a es z;exact⟨us,by rw [jg w];exact z1,z2.mono (.put e)⟩,r.tb.put e,λa c z=>(r.dc a c z).mono (.put e) λo w=>by
   obtain⟨u,w',d⟩:=(r.dc a c z).obj;rw [jg (Uv w' e (d.no.2.1 _))];exact w⟩
end
def NK (h:HD)(p:P5)(c:DC):HD:=⟨h.ls,λb=>if b=p then some c else h.dc b⟩
theorem vR {h:HD}{p:P5}{c:DC}:(NK h p c).dc p=some c:=D4 rfl
theorem Yn {h:HD}{a p:P5}{c:DC}(e:a≠p):(NK h p c).dc a=h.dc a:=D5 e
theorem Sub.newC {h:HD}{p:P5}{c:DC}(e:h.dc p=none):Sub h (NK h p c):=⟨λ_ _ e=>e,λa d q=>by
 rw [Yn];exact q;intro z;subst z;rw [e] at q;cases q⟩
section
variable {K:G5}{h:HD}{H:Hp}
theorem RelH.newC (r:RelH K h H){p:P5}{o:HO}{c:DC}(e:H p=none)(d:DRel K (upd H p o) p c):RelH K (NK h p c) (upd H p o):=⟨(r.new e).ls,r.tb.new e,λa k z=>by
 by_cases w:a=p
 ·subst w;rw [vR] at z;cases z;exact d
 ·rw [Yn w] at z;exact r.dcN e a k z⟩
theorem RelH.putC (r:RelH K h H){p:P5}{o o':HO}{c:DC}(e:H p=some o)(ob:DObj o)(d:DRel K (upd H p o') p c):RelH K (NK h p c) (upd H p o'):=by
 obtain⟨d1,d2,d3,d4,d5⟩:=ob.no;have ne: ∀ {a:P5} {u:HO},H a=some u->o≠u->a≠p:=λq n z=>by subst z;rw [e] at q;injection q with q;exact n q
 refine⟨λa ds z=> ?_,r.tb.mono (λa q u z=>by rw [jg (ne z (d4 q u))];exact z) (λa ps z=>by rw [jg (ne z (d5 ps))];exact z),λa k z=> ?_⟩
 ·obtain⟨vs,z1,z2⟩:=r a ds z;exact⟨vs,by rw [jg (ne z1 (d2 vs))];exact z1,z2.mono (.putD e ob)⟩
 ·by_cases w:a=p
  ·subst w;rw [vR] at z;cases z;exact d
  ·rw [Yn w] at z;exact(r.dc a k z).mono (.putD e ob) λu q=>by rw [jg w];exact q
end
abbrev SD:=G0 (P7 D)
def RelS (K:G5)(H:Hp)(IG:SD)(σ:St):Prop:=IG.length=σ.length/\ ∀ (i:G3) (d:D),IG[i]? =some (some d)-> ∃v,σ[i]? =some (some v)/\RelD K H d v
theorem RelS.mono {K:G5}{H H':Hp}{IG:SD}{σ:St}(r:RelS K H IG σ)(k:Kept H H'):RelS K H' IG σ:=⟨r.1,λi d e=>let ⟨v,a,b⟩:=r.2 i d e;⟨v,a,b.mono k⟩⟩
theorem RelS.set {K:G5}{H:Hp}{IG:SD}{σ:St}{d:D}{v:V}(r:RelS K H IG σ)(q:RelD K H d v)(i:G3):RelS K H (IG.set i (some d)) (σ.set i (some v)):=⟨by simp [r.1],λj e h=>by
 by_cases z:i=j
 ·subst z;rw [eF] at h ⊢
  by_cases hl:i<IG.length
  ·rw [D4 rfl,D4 hl] at h;rw [D4 rfl,D4 (by rw [<-r.1];exact hl)];cases h;exact⟨v,rfl,q⟩
  ·rw [D4 rfl,D5 hl] at h;cases h
 ·rw [K3 z] at h ⊢;exact r.2 j e h⟩
theorem RelS.clear1 {K:G5}{H:Hp}{IG:SD}{σ:St}(r:RelS K H IG σ)(i:G3):RelS K H (IG.set i none) (σ.set i none):=⟨by simp [r.1],λj e h=>by
 by_cases z:i=j
 ·subst z;rw [eF] at h;split at h
  ·split at h<;>cases h
  ·contradiction
 ·rw [K3 z] at h ⊢;exact r.2 j e h⟩
def jK:G0 G3->SD->SD
 | [],σ=>σ
 |j::js,σ=>jK js (σ.set j none)
theorem RelS.clear {K:G5}{H:Hp}: ∀ (js:G0 G3) {IG:SD} {σ:St},RelS K H IG σ->RelS K H (jK js IG) (zk js σ)
 | [],_,_,r=>r
 |j::js,_,_,r=>RelS.clear js (r.clear1 j)
abbrev KD:=D->HD->Prop
abbrev TED:=SD->HD->KD->Prop
abbrev TTD:=SD->HD->(M7->HD->Prop)->Prop
abbrev TAD:=SD->HD->(G0 D->HD->Prop)->Prop
abbrev RD2:=D->D->HD->KD->Prop
abbrev RDn:=G0 D->HD->KD->Prop
structure EndsD where
 nx:SD->HD->Prop
 rt:KD
 bk:SD->HD->Prop:=λ_ _=>False
 ct:SD->HD->Prop:=λ_ _=>False
abbrev TSD:=EndsD->SD->HD->Prop
abbrev TGD:=D->SD->HD->(SD->HD->Prop)->Prop
def BS (K:G5)(H:Hp)(Qd:KD)(Q:VK):Prop:= ∀d v h' H',Kept H H'->RelH K h' H'->RelD K H' d v->Qd d h'->Q v H'
def LE (K:G5)(t:TED):TE:=λσ H Q=> ∃IG h Qd,RelS K H IG σ/\RelH K h H/\t IG h Qd/\BS K H Qd Q
def LT (K:G5)(t:TTD):TT:=λσ H Q=> ∃IG h Qd,RelS K H IG σ/\RelH K h H/\t IG h Qd/\ ∀b h' H',Kept H H'->RelH K h' H'->Qd b h'->Q b H'
def LA (K:G5)(t:TAD):TA:=λσ H Q=> ∃IG h Qd,RelS K H IG σ/\RelH K h H/\t IG h Qd/\ ∀ds vs h' H',Kept H H'->RelH K h' H'->RelDs K H' ds vs->Qd ds h'->Q vs H'
def LR (K:G5)(f:RD2):R2:=λx y H Q=> ∃dx dy h Qd,RelD K H dx x/\RelD K H dy y/\RelH K h H/\f dx dy h Qd/\BS K H Qd Q
def LC (K:G5)(f:RDn):G0 V->Hp->VK->Prop:=λxs H Q=> ∃ds h Qd,RelDs K H ds xs/\RelH K h H/\f ds h Qd/\BS K H Qd Q
def LG (K:G5)(g:TGD):TG:=λv σ H Q=> ∃d IG h Qd,RelD K H d v/\RelS K H IG σ/\RelH K h H/\g d IG h Qd/\ ∀IJ h' IF H',Kept H H'->RelS K H' IJ IF->RelH K h' H'->Qd IJ h'->Q IF H'
def LS (K:G5)(t:TSD):TS:=λIR σ H=> ∃IG h Dd,RelS K H IG σ/\RelH K h H/\t Dd IG h/\
 (∀IJ h' IF H',Kept H H'->RelS K H' IJ IF->RelH K h' H'->Dd.nx IJ h'->IR.nx IF H')/\BS K H Dd.rt IR.rt/\
 (∀IJ h' IF H',Kept H H'->RelS K H' IJ IF->RelH K h' H'->Dd.bk IJ h'->IR.bk IF H')/\(∀IJ h' IF H',Kept H H'->RelS K H' IJ IF->RelH K h' H'->Dd.ct IJ h'->IR.ct IF H')
theorem PE.imp {X:Cx}{e:M5}{t t':TE}(h:PE X e t)(i: ∀σ H Q,t' σ H Q->t σ H Q):PE X e t':=λpins s σ H Q I q=>h pins s σ H Q I (i σ H Q q)
theorem PT.imp {X:Cx}{e:M5}{t t':TT}(h:PT X e t)(i: ∀σ H Q,t' σ H Q->t σ H Q):PT X e t':=λpins s σ H Q I q=>h pins s σ H Q I (i σ H Q q)
theorem PW.imp {X:Cx}{e:M5}{t t':TT}(h:PW X e t)(i: ∀σ H Q,t' σ H Q->t σ H Q):PW X e t':=λwh pins s σ H Q I q=>h wh pins s σ H Q I (i σ H Q q)
theorem PA.imp {X:Cx}{e:G0 M5}{t t':TA}(h:PA X e t)(i: ∀σ H Q,t' σ H Q->t σ H Q):PA X e t':=λpos pins s σ H Q I q=>h pos pins s σ H Q I (i σ H Q q)
theorem PS.imp {X:Cx}{e:J9}{t t':TS}(h:PS X e t)(i: ∀D σ H,t' D σ H->t D σ H):PS X e t':=λpins s σ H D I q=>h pins s σ H D I (i D σ H q)
theorem PSs.imp {X:Cx}{e:G0 J9}{t t':TS}(h:PSs X e t)(i: ∀D σ H,t' D σ H->t D σ H):PSs X e t':=λpins s σ H D I q=>h pins s σ H D I (i D σ H q)
theorem PG.imp {X:Cx}{e:M5}{t t':TG}(h:PG X e t)(i: ∀v σ H Q,t' v σ H Q->t v σ H Q):PG X e t':=λpins s σ H v u Q I r q=>h pins s σ H v u Q I r (i v σ H Q q)
theorem OpR.imp {X:Cx}{f:G1->G1->Sem G1}{r r':R2}(h:OpR X f r)(i: ∀x y H Q,r' x y H Q->r x y H Q):OpR X f r':=λpins s σ H x y v u Q I a b q=>h pins s σ H x y v u Q I a b (i x y H Q q)
theorem CallR.imp {X:Cx}{f:G1}{r r':G0 V->Hp->VK->Prop}(h:CallR X f r)(i: ∀xs H Q,r' xs H Q->r xs H Q):CallR X f r':=λpins s σ H xs us Q I a q=>h pins s σ H xs us Q I a (i xs H Q q)
def Md (i:G3):TED:=λσ h Q=> ∃d,σ[i]? =some (some d)/\Q d h
def dC (d:D):TED:=λ_ h Q=>Q d h
def dOp (f:RD2)(ta tb:TED):TED:=λσ h Q=>ta σ h λx h1=>tb σ h1 λy h2=>f x y h2 Q
def ZJ:TAD:=λ_ h Q=>Q [] h
def zm (ta:TED)(tr:TAD):TAD:=λσ h Q=>ta σ h λx h1=>tr σ h1 λxs h2=>Q (x::xs) h2
def EK (t:TAD):TED:=λσ h Q=>t σ h λds h1=>ds.length<=sizeLine/\Q (.tup ds) h1
def Ol (t:TAD):TED:=λσ h Q=>t σ h λds h1=>ds.length<=sizeLine/\ ∀p,h1 p=none->Q (.lst p) (zZ h1 p ds)
def dCB (r:RDn)(t:TAD):TED:=λσ h Q=>t σ h λds h1=>r ds h1 Q
def vS (t:TED):TTD:=λσ h Q=>t σ h λx h1=> ∃k,x= .bl k/\Q k h1
def ZK (r r':RD2)(ta tb tc:TED):TED:=λσ h Q=>ta σ h λx h1=>tb σ h1 λy h2=>r x y h2 λz h3=> ∃k,z= .bl k/\
 (if k=true then tc σ h3 λw h4=>r' y w h4 Q else Q (.bl false) h3)
def FS (t u:TTD):TTD:=λσ h Q=>t σ h λc h1=>if c=true then Q true h1 else u σ h1 Q
def QN (t:TTD):TTD:=λσ h Q=>t σ h λc h1=>Q (!c) h1
def Me (ta tb:TED):TED:=λσ h Q=>ta σ h λx h1=> ∃c,x= .bl c/\if c=true then tb σ h1 Q else Q (.bl false) h1
def EL (ta tb:TED):TED:=λσ h Q=>ta σ h λx h1=> ∃c,x= .bl c/\if c=true then Q (.bl true) h1 else tb σ h1 Q
def Mf (ta:TED):TED:=λσ h Q=>ta σ h λx h1=> ∃c,x= .bl c/\Q (.bl (!c)) h1
def dIf (t:TTD)(ta tb:TED):TED:=λσ h Q=>t σ h λc h1=>if c=true then ta σ h1 Q else tb σ h1 Q
section
variable {K:G5}
theorem Om (i:G3): ∀σ H Q,LE K (Md i) σ H Q->SV i σ H Q:=λσ H Q ⟨IG,h,Qd,rs,rh,⟨d,e,q⟩,p⟩=>let ⟨v,e1,e2⟩:=rs.2 i d e;⟨v,e1,p d v h H (.refl H) rh e2 q⟩
theorem Ef {d:D}{v:V}(r: ∀H,RelD K H d v): ∀σ H Q,LE K (dC d) σ H Q->tC v σ H Q:=λσ H Q ⟨IG,h,Qd,rs,rh,q,p⟩=>p d v h H (.refl H) rh (r H) q
variable {H:Hp}
theorem jA {H1:Hp}{Qd:KD}{Q:VK}(p:BS K H Qd Q)(k:Kept H H1):BS K H1 Qd Q:=λd v h' H' k'=>p d v h' H' (k.trans k')
variable {ta:TED}
theorem LE.bind {σ:St}{IG:SD}{h:HD}{kd:KD}{k:VK}(rs:RelS K H IG σ)(rh:RelH K h H)(t:ta IG h kd)(f: ∀d v h' H',Kept H H'->RelS K H' IG σ->RelH K h' H'->RelD K H' d v->kd d h'->k v H'):LE K ta σ H k:=
 ⟨IG,h,kd,rs,rh,t,λd v h' H' kp r1 r2 q=>f d v h' H' kp (rs.mono kp) r1 r2 q⟩
theorem LT.bind {ta:TTD}{σ:St}{IG:SD}{h:HD}{kd:M7->HD->Prop}{k:M7->Hp->Prop}(rs:RelS K H IG σ)(rh:RelH K h H)(t:ta IG h kd)(f: ∀b h' H',Kept H H'->RelS K H' IG σ->RelH K h' H'->kd b h'->k b H'):LT K ta σ H k:=
 ⟨IG,h,kd,rs,rh,t,λb h' H' kp r1 q=>f b h' H' kp (rs.mono kp) r1 q⟩
theorem LA.bind {ta:TAD}{σ:St}{IG:SD}{h:HD}{kd:G0 D->HD->Prop}{k:G0 V->Hp->Prop}(rs:RelS K H IG σ)(rh:RelH K h H)(t:ta IG h kd)(f: ∀ds vs h' H',Kept H H'->RelS K H' IG σ->RelH K h' H'->RelDs K H' ds vs->kd ds h'->k vs H'):LA K ta σ H k:=
 ⟨IG,h,kd,rs,rh,t,λd v h' H' kp r1 r2 q=>f d v h' H' kp (rs.mono kp) r1 r2 q⟩
variable {tb:TED}
theorem BT {f:RD2}: ∀σ H Q,LE K (dOp f ta tb) σ H Q->tOp (LR K f) (LE K ta) (LE K tb) σ H Q:=λσ H Q ⟨IG,h,Qd,rs,rh,t,p⟩=>
 LE.bind rs rh t λd v h1 H1 k1 rs1 rh1 r1 t1=>LE.bind rs1 rh1 t1 λd2 v2 h2 H2 k2 rs2 rh2 r2 t2=>⟨d,d2,h2,Qd,r1.mono k2,r2,rh2,t2,jA p (k1.trans k2)⟩
theorem On: ∀σ H Q,LA K ZJ σ H Q->Th σ H Q:=λσ H Q ⟨IG,h,Qd,rs,rh,t,p⟩=>p [] [] h H (.refl H) rh rfl t
theorem BU {tr:TAD}: ∀σ H Q,LA K (zm ta tr) σ H Q->LJ (LE K ta) (LA K tr) σ H Q:=λσ H Q ⟨IG,h,Qd,rs,rh,t,p⟩=>
 LE.bind rs rh t λd v h1 H1 k1 rs1 rh1 r1 t1=>LA.bind rs1 rh1 t1 λds vs h2 H2 k2 rs2 rh2 r2 t2=>p _ _ h2 H2 (k1.trans k2) rh2 (.cons (r1.mono k2) r2) t2
theorem Oo {t:TAD}: ∀σ H Q,LE K (EK t) σ H Q->Ti (LA K t) σ H Q:=λσ H Q ⟨IG,h,Qd,rs,rh,t,p⟩=>
 LA.bind rs rh t λds vs h1 H1 k1 rs1 rh1 r1 ⟨z,q⟩=>⟨by rw [<-r1.length];exact z,λa ha=>p (.tup ds) (.ref a) h1 _ (k1.trans (.new ha)) (rh1.new ha) ⟨a,vs,rfl,ji,r1.mono (.new ha)⟩ q⟩
theorem Op {t:TAD}: ∀σ H Q,LE K (Ol t) σ H Q->Tj (LA K t) σ H Q:=λσ H Q ⟨IG,h,Qd,rs,rh,t,p⟩=>
 LA.bind rs rh t λds vs h1 H1 k1 rs1 rh1 r1 ⟨z,q⟩=>⟨by rw [<-r1.length];exact z,λa ha=>p (.lst a) (.ref a) _ _ (k1.trans (.new ha)) (rh1.newL ha r1) ⟨rfl,vs,ji⟩ (q a (rh1.free ha))⟩
theorem Oq {r:RDn}{t:TAD}: ∀σ H Q,LE K (dCB r t) σ H Q->tCB (LC K r) (LA K t) σ H Q:=λσ H Q ⟨IG,h,Qd,rs,rh,t,p⟩=>
 LA.bind rs rh t λds vs h1 H1 k1 rs1 rh1 r1 q=>⟨ds,h1,Qd,r1,rh1,q,jA p k1⟩
theorem Pp {t:TED}: ∀σ H Q,LT K (vS t) σ H Q->BC (LE K t) σ H Q:=λσ H Q ⟨IG,h,Qd,rs,rh,t,p⟩=>
 LE.bind rs rh t λd v h1 H1 k1 rs1 rh1 r1 ⟨k,e,q⟩=>by subst e;exact⟨k,r1,p k h1 H1 k1 rh1 q⟩
theorem Mg {t:TED}: ∀σ H Q,LT K (vS t) σ H Q->tB (LE K t) σ H Q:=λσ H Q ⟨IG,h,Qd,rs,rh,t,p⟩=>
 LE.bind rs rh t λd v h1 H1 k1 rs1 rh1 r1 ⟨k,e,q⟩=>by subst e;exact⟨k,r1,p k h1 H1 k1 rh1 q⟩
theorem XF {r r':RD2}{tc:TED}: ∀σ H Q,LE K (ZK r r' ta tb tc) σ H Q->GU (LR K r) (LR K r') (LE K ta) (LE K tb) (LE K tc) σ H Q:=λσ H Q ⟨IG,h,Qd,rs,rh,t,p⟩=>
 LE.bind rs rh t λd v h1 H1 k1 rs1 rh1 r1 t1=>LE.bind rs1 rh1 t1 λd2 v2 h2 H2 k2 rs2 rh2 r2 t2=>⟨d,d2,h2,_,r1.mono k2,r2,rh2,t2,λd3 v3 h3 H3 k3 rh3 r3 ⟨k,e,q⟩=>by
  subst e;refine⟨k,r3,?_⟩;cases k with
  |true=>
   rw [D4 rfl] at q ⊢;exact LE.bind (rs2.mono k3) rh3 q λd4 v4 h4 H4 k4 rs4 rh4 r4 t4=>⟨d2,d4,h4,Qd,(r2.mono k3).mono k4,r4,rh4,t4,jA p (k1.trans (k2.trans (k3.trans k4)))⟩
  |false=>
   rw [D5 R0] at q ⊢;exact p (.bl false) _ h3 H3 (k1.trans (k2.trans k3)) rh3 rfl q⟩
theorem EM {t u:TTD}: ∀σ H Q,LT K (FS t u) σ H Q->tOr (LT K t) (LT K u) σ H Q:=λσ H Q ⟨IG,h,Qd,rs,rh,t,p⟩=>
 LT.bind rs rh t λb h1 H1 k1 rs1 rh1 q=>by
  cases b with
  |true=>rw [D4 rfl] at q ⊢;exact p _ _ _ k1 rh1 q
  |false=>rw [D5 R0] at q ⊢;exact⟨IG,h1,Qd,rs1,rh1,q,λb h' H' k=>p b h' H' (k1.trans k)⟩
theorem Os {t:TTD}: ∀σ H Q,LT K (QN t) σ H Q->SW (LT K t) σ H Q:=λσ H Q ⟨IG,h,Qd,rs,rh,t,p⟩=>
 LT.bind rs rh t λb h1 H1 k1 rs1 rh1 q=>p _ _ _ k1 rh1 q
theorem Ot: ∀σ H Q,LE K (Me ta tb) σ H Q->Li (LE K ta) (LE K tb) σ H Q:=λσ H Q ⟨IG,h,Qd,rs,rh,t,p⟩=>
 LE.bind rs rh t λd v h1 H1 k1 rs1 rh1 r1 ⟨c,e,q⟩=>by
  subst e;refine⟨c,r1,?_⟩;cases c with
  |true=>rw [D4 rfl] at q ⊢;exact⟨IG,h1,Qd,rs1,rh1,q,jA p k1⟩
  |false=>rw [D5 R0] at q ⊢;exact p (.bl false) _ _ _ k1 rh1 rfl q
theorem EN: ∀σ H Q,LE K (EL ta tb) σ H Q->SX (LE K ta) (LE K tb) σ H Q:=λσ H Q ⟨IG,h,Qd,rs,rh,t,p⟩=>
 LE.bind rs rh t λd v h1 H1 k1 rs1 rh1 r1 ⟨c,e,q⟩=>by
  subst e;refine⟨c,r1,?_⟩;cases c with
  |true=>rw [D4 rfl] at q ⊢;exact p (.bl true) _ _ _ k1 rh1 rfl q
  |false=>rw [D5 R0] at q ⊢;exact⟨IG,h1,Qd,rs1,rh1,q,jA p k1⟩
theorem Ou: ∀σ H Q,LE K (Mf ta) σ H Q->Lj (LE K ta) σ H Q:=λσ H Q ⟨IG,h,Qd,rs,rh,t,p⟩=>
 LE.bind rs rh t λd v h1 H1 k1 rs1 rh1 r1 ⟨c,e,q⟩=>by subst e;exact⟨c,r1,p (.bl (!c)) _ _ _ k1 rh1 rfl q⟩
theorem EO {t:TTD}: ∀σ H Q,LE K (dIf t ta tb) σ H Q->tIf (LT K t) (LE K ta) (LE K tb) σ H Q:=λσ H Q ⟨IG,h,Qd,rs,rh,t,p⟩=>
 LT.bind rs rh t λb h1 H1 k1 rs1 rh1 q=>by
  cases b with
  |true=>rw [D4 rfl] at q ⊢;exact⟨IG,h1,Qd,rs1,rh1,q,jA p k1⟩
  |false=>rw [D5 R0] at q ⊢;exact⟨IG,h1,Qd,rs1,rh1,q,jA p k1⟩
end
abbrev QE (X:Cx)(e:M5)(t:TED):Prop:=PE X e (LE X.K t)
abbrev QT (X:Cx)(e:M5)(t:TTD):Prop:=PT X e (LT X.K t)
abbrev QW (X:Cx)(e:M5)(t:TTD):Prop:=PW X e (LT X.K t)
abbrev QA (X:Cx)(es:G0 M5)(t:TAD):Prop:=PA X es (LA X.K t)
abbrev QS (X:Cx)(s:J9)(t:TSD):Prop:=PS X s (LS X.K t)
abbrev QSs (X:Cx)(s:G0 J9)(t:TSD):Prop:=PSs X s (LS X.K t)
abbrev QG (X:Cx)(e:M5)(t:TGD):Prop:=PG X e (LG X.K t)
abbrev OpQ (X:Cx)(f:G1->G1->Sem G1)(r:RD2):Prop:=OpR X f (LR X.K r)
abbrev vi (X:Cx)(f:G1)(r:RDn):Prop:=CallR X f (LC X.K r)
section
variable {X:Cx}{a b c e:M5}{es rest:G0 M5}{ta tb tc te:TED}{t u:TAD}{tt tu:TTD}{pos:Pos}{f r r':RD2}
theorem qv (i:G3){x:Str}(hN:X.N[i]? =some x:=by rfl)(hv:Vis X.env.scope x:=by first|exact W5 rfl|exact bU (W5 rfl)|exact bU (bU rfl))(hd:(x==("__debug__" :Str))=false:=by decide)
 (hcd:(x==("__classdict__" :Str))=false:=by decide):QE X (.Name x pos) (Md i):=(Le hN hv hd hcd).imp (Om i)
theorem Hc {i:P4}{j:G3}:QE X (.Constant (.int i) j pos) (dC (.int i)):=pe_int.imp (Ef λ_=>rfl)
theorem qbl {i:M7}{j:G3}:QE X (.Constant (.bool i) j pos) (dC (.bl i)):=pe_bl.imp (Ef λ_=>rfl)
theorem Hd {j:G3}:QE X (.Constant .none j pos) (dC .non):=pe_non.imp (Ef λ_=>rfl)
theorem EQ {x:Str}{i:P4}{tk:Tok}(hg:Gl X x)(hm:X.mg x=some (.int i tk))(hd:(x==("__debug__" :Str))=false:=by decide):QE X (.Name x pos) (dC (.int i)):=
 (Bs (v:= .int i) hg hm ⟨tk,rfl⟩ hd).imp (Ef λ_=>rfl)
theorem qop {op:tT}(ho:OpQ X (J3 op) f)(ha:QE X a ta)(hb:QE X b tb):QE X (.BinOp a op b pos) (dOp f ta tb):=(Ew ho ha hb).imp BT
theorem He {op:iI}(ho:OpQ X (B0 op) f)(ha:QE X a ta)(hb:QE X b tb)(hm:W1 op b=false):QE X (.Compare a [op] [b] pos) (dOp f ta tb):=(BB ho ha hb hm).imp BT
theorem ER {op:iI}(ho:OpQ X (B0 op) f)(ha:QE X a ta)(hb:QE X b tb)(hm:W1 op b=false):QT X (.Compare a [op] [b] pos) (vS (dOp f ta tb)):=
 (BD ho ha hb hm).imp λσ H Q h=>by
  obtain⟨IG,h,Qd,rs,rh,t,p⟩:=Pp (t:=dOp f ta tb) σ H Q h;exact BT σ H _ ⟨IG,h,Qd,rs,rh,t,p⟩
theorem Ov {op op':iI}(ho:OpQ X (B0 op) r)(ho':OpQ X (B0 op') r')(ha:QE X a ta)(hb:QE X b tb)(hc:QE X c tc)(hm:iU [op,op'] [b,c]=false:=by with_unfolding_all rfl):
 QE X (.Compare a [op,op'] [b,c] pos) (ZK r r' ta tb tc):=(RQ ho ho' ha hb hc hm).imp XF
theorem BV {op op':iI}(ho:OpQ X (B0 op) r)(ho':OpQ X (B0 op') r')(ha:QE X a ta)(hb:QE X b tb)(hc:QE X c tc)(hm:iU [op,op'] [b,c]=false:=by with_unfolding_all rfl):
 QT X (.Compare a [op,op'] [b,c] pos) (vS (ZK r r' ta tb tc)):=(RR ho ho' ha hb hc hm).imp λσ H Q h=>by
 obtain⟨IG,h,Qd,rs,rh,t,p⟩:=Pp (t:=ZK r r' ta tb tc) σ H Q h;exact XF σ H _ ⟨IG,h,Qd,rs,rh,t,p⟩
theorem ES (ha:QE X a ta)(he: ∀whole,isTrue a X.env whole=(do let v <-whole;iH a.pos;aK [v] (uW v)):=by intro _;rfl):QT X a (vS ta):=(Lf ha he).imp Mg
theorem Hf (ha:QT X a tt):QW X (.BoolOp .Or [a] pos) tt:=Lg ha
theorem Hg (ha:QT X a tt)(hb:QW X (.BoolOp .Or (b::rest) pos) tu):QW X (.BoolOp .Or (a::b::rest) pos) (FS tt tu):=(Eo ha hb).imp EM
theorem ET (ha:QT X a tt):QT X (.UnaryOp .Not a pos) (QN tt):=(Lh ha).imp Os
theorem Hh {op:BoolOp}(ha:QE X a ta):QE X (.BoolOp op [a] pos) ta:=Lk ha
theorem Hi (ha:QE X a ta)(hb:QE X (.BoolOp .And (b::rest) pos) tb):QE X (.BoolOp .And (a::b::rest) pos) (Me ta tb):=(Ll ha hb).imp Ot
theorem qor (ha:QE X a ta)(hb:QE X (.BoolOp .Or (b::rest) pos) tb):QE X (.BoolOp .Or (a::b::rest) pos) (EL ta tb):=(Ep ha hb).imp EN
theorem Hj (ha:QE X a ta):QE X (.UnaryOp .Not a pos) (Mf ta):=(Lm ha).imp Ou
theorem qif {c:M5}(hc:QT X c tt)(ha:QE X a ta)(hb:QE X b tb):QE X (.IfExp c a b pos) (dIf tt ta tb):=(RL hc ha hb).imp EO
theorem NL:QA X [] ZJ:=pa_nil.imp On
theorem Pq (ha:QE X e te)(hr:QA X es t)(hs:R4 (e::es) X.env=(false,E5 e X.env)::R4 es X.env:=by rfl):QA X (e::es) (zm te t):=(yu ha hr hs).imp BU
theorem Hk {k:G3}(h:QA X es t):QE X (.Tuple es k pos) (EK t):=(LK h).imp Oo
theorem Hl (h:QA X es t):QE X (.List es pos) (Ol t):=(LL h).imp Op
end
def UC:TSD:=λD σ h=>D.nx σ h
def WO (t u:TSD):TSD:=λD σ h=>t {D with nx:=u D} σ h
def BW (te:TED):TSD:=λD σ h=>te σ h λ_ h1=>D.nx σ h1
def RI (te:TED):TSD:=λD σ h=>te σ h D.rt
def Mh (c:TTD)(t u:TSD):TSD:=λD σ h=>c σ h λb h1=>if b=true then t D σ h1 else u D σ h1
def Mi (i:G3)(te:TED):TSD:=λD σ h=>te σ h λd h1=>D.nx (σ.set i (some d)) h1
def EU (te:TED)(g:TGD):TSD:=λD σ h=>te σ h λx h1=>g x σ h1 D.nx
def EV (i j:G3)(ta:TAD):TSD:=λD σ h=>ta σ h λds h1=> ∃v w,ds= [v,w]/\D.nx ((σ.set i (some v)).set j (some w)) h1
def gN (i:G3):TGD:=λd σ h Q=>Q (σ.set i (some d)) h
def gT2 (i j:G3):TGD:=λd σ h Q=> ∃x y,d= .tup [x,y]/\Q ((σ.set i (some x)).set j (some y)) h
section
variable {K:G5}
theorem LS.of {t:TSD}{IR:Ends}{σ:St}{H:Hp}{IG:SD}{h:HD}{Dd:EndsD}(rs:RelS K H IG σ)(rh:RelH K h H)(q:t Dd IG h)
 (nx: ∀IJ h' IF H',Kept H H'->RelS K H' IJ IF->RelH K h' H'->Dd.nx IJ h'->IR.nx IF H')(rt:BS K H Dd.rt IR.rt)
 (bk: ∀IJ h' IF H',Kept H H'->RelS K H' IJ IF->RelH K h' H'->Dd.bk IJ h'->IR.bk IF H')(ct: ∀IJ h' IF H',Kept H H'->RelS K H' IJ IF->RelH K h' H'->Dd.ct IJ h'->IR.ct IF H'):LS K t IR σ H:=⟨IG,h,Dd,rs,rh,q,nx,rt,bk,ct⟩
theorem BX: ∀D σ H,LS K UC D σ H->Ln D σ H:=λD σ H ⟨IG,h,Dd,rs,rh,q,nx,_⟩=>nx IG h σ H (.refl H) rs rh q
theorem Ow {t u:TSD}: ∀D σ H,LS K (WO t u) D σ H->SY (LS K t) (LS K u) D σ H:=λD σ H ⟨IG,h,Dd,rs,rh,q,nx,rt,bk,ct⟩=>
 LS.of rs rh q (λIJ h' IF H' k rs' rh' q'=>⟨IJ,h',Dd,rs',rh',q',λa b c d k'=>nx a b c d (k.trans k'),jA rt k,λa b c d k'=>bk a b c d (k.trans k'),λa b c d k'=>ct a b c d (k.trans k')⟩) rt bk ct
variable {te:TED}
theorem BY: ∀D σ H,LS K (BW te) D σ H->Lo (LE K te) D σ H:=λD σ H ⟨IG,h,Dd,rs,rh,q,nx,rt,bk,ct⟩=>
 LE.bind rs rh q λd v h1 H1 k1 rs1 rh1 r1 q1=>nx _ _ _ _ k1 rs1 rh1 q1
theorem Ox: ∀D σ H,LS K (RI te) D σ H->SZ (LE K te) D σ H:=λD σ H ⟨IG,h,Dd,rs,rh,q,nx,rt,bk,ct⟩=>⟨IG,h,Dd.rt,rs,rh,q,rt⟩
theorem EW {c:TTD}{t u:TSD}: ∀D σ H,LS K (Mh c t u) D σ H->Ta (LT K c) (LS K t) (LS K u) D σ H:=λD σ H ⟨IG,h,Dd,rs,rh,q,nx,rt,bk,ct⟩=>
 LT.bind rs rh q λb h1 H1 k rs1 rh1 q1=>by
  cases b with
  |true=>rw [D4 rfl] at q1 ⊢;exact⟨IG,h1,Dd,rs1,rh1,q1,λa b c d k'=>nx a b c d (k.trans k'),jA rt k,λa b c d k'=>bk a b c d (k.trans k'),λa b c d k'=>ct a b c d (k.trans k')⟩
  |false=>rw [D5 R0] at q1 ⊢;exact⟨IG,h1,Dd,rs1,rh1,q1,λa b c d k'=>nx a b c d (k.trans k'),jA rt k,λa b c d k'=>bk a b c d (k.trans k'),λa b c d k'=>ct a b c d (k.trans k')⟩
theorem Pr {i:G3}: ∀D σ H,LS K (Mi i te) D σ H->NF (LE K te) (wJ i) D σ H:=λD σ H ⟨IG,h,Dd,rs,rh,q,nx,rt,bk,ct⟩=>
 LE.bind rs rh q λd v h1 H1 k1 rs1 rh1 r1 q1=>nx _ _ _ _ k1 (rs1.set r1 i) rh1 q1
theorem Oy {g:TGD}: ∀D σ H,LS K (EU te g) D σ H->NF (LE K te) (LG K g) D σ H:=λD σ H ⟨IG,h,Dd,rs,rh,q,nx,rt,bk,ct⟩=>
 LE.bind rs rh q λd v h1 H1 k1 rs1 rh1 r1 q1=>⟨d,IG,h1,_,r1,rs1,rh1,q1,λa b c e k'=>nx a b c e (k1.trans k')⟩
theorem Oz {i j:G3}{ta:TAD}: ∀D σ H,LS K (EV i j ta) D σ H->Tc i j (LA K ta) D σ H:=λD σ H ⟨IG,h,Dd,rs,rh,q,nx,rt,bk,ct⟩=>
 LA.bind rs rh q λds vs h1 H1 k1 rs1 rh1 r1 ⟨x,y,e,q1⟩=>by
  subst e;obtain⟨v,r,e,r2,r3⟩:=(show ∃v r,vs=v::r/\RelD K H1 x v/\RelDs K H1 [y] r from r1);obtain⟨w,r',e',r4,r5⟩:=(show ∃v r',r=v::r'/\RelD K H1 y v/\RelDs K H1 [] r' from r3);cases (show r'= [] from r5);subst e' e;exact⟨v,w,rfl,nx _ _ _ _ k1 ((rs1.set r2 i).set r4 j) rh1 q1⟩
theorem BZ (i:G3): ∀v σ H Q,LG K (gN i) v σ H Q->wJ i v σ H Q:=λv σ H Q ⟨d,IG,h,Qd,r,rs,rh,q,p⟩=>p _ _ _ _ (.refl H) (rs.set r i) rh q
theorem vT {H:Hp}{x y:D}{vs:G0 V}(r:RelDs K H [x,y] vs): ∃v w,vs= [v,w]/\RelD K H x v/\RelD K H y w:=by
 obtain⟨v,r1,e,r2,r3⟩:=(show ∃v r,vs=v::r/\RelD K H x v/\RelDs K H [y] r from r);obtain⟨w,z,e',r4,r5⟩:=(show ∃v z,r1=v::z/\RelD K H y v/\RelDs K H [] z from r3);cases (show z= [] from r5);subst e' e;exact⟨v,w,rfl,r2,r4⟩
theorem jw {H:Hp}{x:D}{vs:G0 V}(r:RelDs K H [x] vs): ∃v,vs= [v]/\RelD K H x v:=by
 obtain⟨v,r1,e,r2,r3⟩:=(show ∃v r,vs=v::r/\RelD K H x v/\RelDs K H [] r from r);cases (show r1= [] from r3);exact⟨v,e,r2⟩
theorem OA (i j:G3): ∀v σ H Q,LG K (gT2 i j) v σ H Q->Eu K 2 (GO (wJ i) (GO (wJ j) Et)) v σ H Q:=λv σ H Q ⟨d,IG,h,Qd,r,rs,rh,⟨x,y,e,q⟩,p⟩=>by
 subst e;obtain⟨a,vs,e,hH,r1⟩:=(show ∃a vs,v= .ref a/\H a=some (.tup vs)/\RelDs K H [x,y] vs from r);obtain⟨v1,v2,e1,r2,r3⟩:=vT r1;subst e e1;exact⟨a,[v1,v2],rfl,SqT.of hH,rfl,v1,[v2],rfl,v2,[],rfl,rfl,p _ _ _ _ (.refl H) ((rs.set r2 i).set r3 j) rh q⟩
end
section
variable {X:Cx}{st:J9}{sts:G0 J9}{t u:TSD}{e:M5}{te:TED}{pos:Pos}
theorem OB:QSs X [] UC:=pss_nil.imp BX
theorem Ca (h1:QS X st t)(h2:QSs X sts u):QSs X (st::sts) (WO t u):=(RM h1 h2).imp Ow
theorem OC (h1:QS X st t):QSs X [st] t:=Bw h1
theorem EX (he:QE X e te)(hs:Y6 e none pos.line X.env=pure false:=by rfl):QS X (.Expr e pos) (BW te):=(Bx he hs).imp BY
theorem Hm (he:QE X e te):QS X (.Return (some e) pos) (RI te):=(Lp he).imp Ox
theorem Hn {c:M5}{a b:G0 J9}{tc:TTD}(hc:QT X c tc)(ha:QSs X a t)(hb:QSs X b u):QS X (.If c a b pos) (Mh tc t u):=(Er hc ha hb).imp EW
variable {i:G3}{x:Str}
theorem Ho {pos':Pos}(hN:X.N.Nodup)(hi:X.N[i]? =some x)(hx:Loc X.env.scope x)(he:QE X e te)(hs:Y6 e (some (.Name x pos')) pos.line X.env=pure false:=by rfl)
 (hf:X.fn x=true\/X.env.scope.names.lookup x=some .local:=by first|exact .inl rfl|exact .inr rfl|assumption):QS X (.Assign [.Name x pos'] e pos) (Mi i te):=(Ls hN hi hx he hs hf).imp Pr
theorem Cb (hN:X.N.Nodup)(hi:X.N[i]? =some x)(hx:Loc X.env.scope x)(hf:X.fn x=true\/X.env.scope.names.lookup x=some .local:=by first|exact .inl rfl|exact .inr rfl|assumption):QG X (.Name x pos) (gN i):=
 (vg hN hi hx hf).imp (BZ i)
theorem OD {j:G3}{y:Str}{p1 p2:Pos}{k:G3}(hc:X.calm=true)(hN:X.N.Nodup)(hi:X.N[i]? =some x)(hj:X.N[j]? =some y)(hx:Loc X.env.scope x)(hy:Loc X.env.scope y)
 (hf:X.fn x=true\/X.env.scope.names.lookup x=some .local:=by first|exact .inl rfl|exact .inr rfl|assumption)(hf2:X.fn y=true\/X.env.scope.names.lookup y=some .local:=by first|exact .inl rfl|exact .inr rfl|assumption):
 QG X (.Tuple [.Name x p1,.Name y p2] k pos) (gT2 i j):=(NE hc (Zm (vg hN hi hx hf) (Zm (vg hN hj hy hf2) GP))).imp (OA i j)
theorem Hq {tg:M5}{g:TGD}(he:QE X e te)(hg:QG X tg g)(hs:cV [tg] e pos.line X.env=pure false:=by rfl)(hsw:cW [tg] e X.env=pure none:=by rfl)
 (h1:(dG [tg] X.env).map (·.2)= [fJ tg X.env]:=by rfl):QS X (.Assign [tg] e pos) (EU te g):=(Lr he hg hs hsw h1).imp Oy
theorem Hr {j:G3}{y:Str}{a b:M5}{ta:TAD}{px py pt:Pos}{kt k2 pt2}(hc:X.calm=true)(hN:X.N.Nodup)(hi:X.N[i]? =some x)(hj:X.N[j]? =some y)(hij:i≠j)
 (hx:X.env.scope.names.lookup x=some .local)(hy:X.env.scope.names.lookup y=some .local)(ha:QA X [a,b] ta)
 (hw:cW [.Tuple [.Name x px,.Name y py] kt pt] (.Tuple [a,b] k2 pt2) X.env=pure (some [x,y]))
 (hs:cV [.Tuple [.Name x px,.Name y py] kt pt] (.Tuple [a,b] k2 pt2) pos.line X.env=pure false:=by rfl):
 QS X (.Assign [.Tuple [.Name x px,.Name y py] kt pt] (.Tuple [a,b] k2 pt2) pos) (EV i j ta):=(Lt hc hN hi hj hij hx hy ha hw hs).imp Oz
end
abbrev ItD:=HD->P7 (G0 D)
def FT (K:G5)(H:Hp)(j:ItD)(J:It):Prop:= ∀H' h',Kept H H'->RelH K h' H'-> ∀ds,j h'=some ds-> ∀i:G3,
 (∀d,ds[i]? =some d->J.go i H'/\ ∀x H'',J.yld i H' x H''->Kept H' H''/\RelH K h' H''/\RelD K H'' d x)/\(ds.length<=i->J.stop i H')
abbrev TID:=SD->HD->(ItD->HD->Prop)->Prop
def LI (K:G5)(t:TID):TI:=λσ H R=> ∃IG h Rd,RelS K H IG σ/\RelH K h H/\t IG h Rd/\ ∀j J h' H',Kept H H'->RelH K h' H'->FT K H' j J->Rd j h'->R J H'
abbrev QI (X:Cx)(tg iter:M5)(t:TID):Prop:=PI X tg iter (LI X.K t)
theorem PI.imp {X:Cx}{tg e:M5}{t t':TI}(h:PI X tg e t)(i: ∀σ H R,t' σ H R->t σ H R):PI X tg e t':=λpins s σ H R I q=>h pins s σ H R I (i σ H R q)
def iL (te:TED):TID:=λσ h R=>te σ h λx h1=> ∃a,x= .lst a/\R (λh=>h a) h1
def iR1 (ta:TAD):TID:=λσ h R=>ta σ h λds h1=> ∃n:P4,ds= [.int n]/\ -(2^62)<=n/\n<2^62/\R (λ_=>some ((G6 n.toNat).map λ(k:G3)=>D.int (k:P4))) h1
section
variable {K:G5}
theorem Vo (H:Hp)(a:P5):FT K H (λh=>h a) (Itl K a):=λH' h' k rh ds e i=>by
 obtain⟨vs,hv,r⟩:=rh a ds e;refine⟨λd hd=> ?_,λhl=>⟨vs,SqL.of hv,by rw [<-r.length];exact hl⟩⟩;obtain⟨v,e1,e2⟩:=r.get hd;refine⟨⟨vs,v,SqL.of hv,e1⟩,λx H'' ⟨eH,hx⟩=> ?_⟩;subst eH;have:=hx vs (SqL.of hv);rw [e1] at this;cases this;exact⟨.refl _,rh,e2⟩
theorem Mj {H:Hp}{a:P5}{vs:G0 V}{ds:G0 D}(hv:H a=some (.tup vs))(r:RelDs K H ds vs):FT K H (λ_=>some ds) (Itt K a):=λH' h' k rh ds' e i=>by
 cases e;have hv':=k.tup _ _ hv;have r':=r.mono k;refine⟨λd hd=> ?_,λhl=>⟨vs,SqT.of hv',by rw [<-r.length];exact hl⟩⟩;obtain⟨v,e1,e2⟩:=r'.get hd;refine⟨⟨vs,v,SqT.of hv',e1⟩,λx H'' ⟨eH,hx⟩=> ?_⟩;subst eH;have:=hx vs (SqT.of hv');rw [e1] at this;cases this;exact⟨.refl _,rh,e2⟩
theorem QP (H:Hp)(lo:P4)(n:G3)(ds:G0 D)(hd:ds=(G6 n).map λ(k:G3)=>D.int (lo+(k:P4))):FT K H (λ_=>some ds) (Itr lo n):=λH' h' k rh ds' e i=>by
 cases e;subst hd;refine⟨λd hd=> ?_,λhl=>(show n<=i by simpa using hl)⟩;rw [D2] at hd;have hi:i<n:=by
  by_cases z:i<n
  ·exact z
  ·rw [J8 (by simpa using z)] at hd;cases hd
 rw [O9 hi] at hd;cases hd;refine⟨hi,λx H'' ⟨eH,hx⟩=> ?_⟩;subst eH hx;exact⟨.refl _,rh,rfl⟩
theorem Cc {te:TED}: ∀σ H R,LI K (iL te) σ H R->Lu K (LE K te) σ H R:=λσ H R ⟨IG,h,Rd,rs,rh,q,p⟩=>
 LE.bind rs rh q λd v h1 H1 k1 rs1 rh1 r1 ⟨a,e,q1⟩=>by
  subst e;obtain⟨e,vs,hv⟩:=(show v= .ref a/\ ∃vs,H1 a=some (.lst vs) from r1);exact⟨a,e,⟨vs,SqL.of hv⟩,p _ _ _ _ k1 rh1 (Vo H1 a) q1⟩
theorem EY {ta:TAD}: ∀σ H R,LI K (iR1 ta) σ H R->Lv (LA K ta) σ H R:=λσ H R ⟨IG,h,Rd,rs,rh,q,p⟩=>
 LA.bind rs rh q λds vs h1 H1 k1 rs1 rh1 r1 ⟨n,e,b1,b2,q1⟩=>by
  subst e;obtain⟨v,e,r2⟩:=jw r1;cases (show v= .int n from r2);exact⟨n,e,b1,b2,p _ _ _ _ k1 rh1 (QP H1 0 n.toNat _ (by simp)) q1⟩
end
def Eg (ti:TID)(g:TGD)(tb:TSD):TSD:=λD σ h=>ti σ h λj h1=> ∃ (n:G3) (W:G3->SD->HD->Prop),W 0 σ h1/\ ∀i IF h',W i IF h'-> ∃ds,j h'=some ds/\ds.length<=n/\(ds.length<=i->D.nx IF h')/\
 ∀d,ds[i]? =some d->g d IF h' λIH h2=>tb {D with nx:=λIK h3=> ∃h4,Sub h4 h3/\W (i+1) IK h4,ct:=λIK h3=> ∃h4,Sub h4 h3/\W (i+1) IK h4,bk:=D.nx} IH h2
theorem OE {K:G5}{ti:TID}{g:TGD}{tb:TSD}: ∀D σ H,LS K (Eg ti g tb) D σ H->Td (LI K ti) (LG K g) (LS K tb) D σ H:=λD σ H ⟨IG,h,Dd,rs,rh,q,nx,rt,bk,ct⟩=>by
 refine⟨IG,h,_,rs,rh,q,λj J h1 H1 k1 rh1 jo ⟨n,W,w0,turn⟩=> ?_⟩;refine⟨λi m IF H'=>m=n-i/\Kept H1 H'/\ ∃IJ h',RelS K H' IJ IF/\RelH K h' H'/\W i IJ h',⟨n-0,rfl,.refl _,IG,h1,rs.mono k1,rh1,w0⟩,?_⟩;rintro i m IF H' ⟨rfl,kp,IJ,h',rs',rh',w⟩;obtain⟨ds,ej,hn,stop,go⟩:=turn i IJ h' w;have jo':=jo H' h' kp rh' ds ej i
 by_cases hi:i<ds.length
 ·obtain⟨g1,y1⟩:=jo'.1 ds[i] (G7 hi);refine .inr ⟨g1,λIH H2=>Kept H1 H2/\ ∃IL h2,RelS K H2 IL IH/\RelH K h2 H2/\W (i+1) IL h2,λIH H2 ⟨k2,a,b,c,d,e⟩=>⟨n-(i+1),by omega,rfl,k2,a,b,c,d,e⟩,λx H'' y=> ?_⟩;obtain⟨k2,rh2,r2⟩:=y1 x H'' y;refine⟨ds[i],IJ,h',_,r2,rs'.mono k2,rh2,go ds[i] (G7 hi),λKK h3 IK H3 k3 rs3 rh3 q3=> ?_⟩;have kk:Kept H H3:=k1.trans (kp.trans (k2.trans k3));have kk1:Kept H1 H3:=kp.trans (k2.trans k3);exact⟨KK,h3,_,rs3,rh3,q3,λa b c d k4 rs4 rh4 ⟨h4,sb,w4⟩=>⟨kk1.trans k4,a,h4,rs4,rh4.sub sb,w4⟩,jA rt kk,λa b c d k4 rs4 rh4 q4=>nx a b c d (kk.trans k4) rs4 rh4 q4,λa b c d k4 rs4 rh4 ⟨h4,sb,w4⟩=>⟨kk1.trans k4,a,h4,rs4,rh4.sub sb,w4⟩⟩
 ·exact .inl ⟨jo'.2 (U5.mp hi),nx _ _ _ _ (k1.trans kp) rs' rh' (stop (U5.mp hi))⟩
def vd:TTD:=λ_ h Q=>Q true h
def WP (bind:D->SD->SD->Prop)(js:G0 G3)(ti:TID)(tt:TTD)(te:TED):TED:=λσ h Q=>ti σ h λj h1=> ∃ (n:G3) (W:G3->G0 D->HD->Prop),W 0 [] h1/\ ∀i ys h',W i ys h'->ys.length<=sizeLine/\
 ∃ds,j h'=some ds/\ds.length<=n/\(ds.length<=i-> ∀p,h' p=none->Q (.lst p) (zZ h' p ys))/\
  ∀d,ds[i]? =some d-> ∃IH,bind d (jK js σ) IH/\tt IH h' λb h3=>if b=true then te IH h3 λy h4=> ∃h5,Sub h5 h4/\W (i+1) (ys++ [y]) h5 else ∃h5,Sub h5 h3/\W (i+1) ys h5
def bN (i:G3):D->SD->SD->Prop:=λd σ IH=>IH=σ.set i (some d)
def b2 (i j:G3):D->SD->SD->Prop:=λd σ IH=> ∃x y,d= .tup [x,y]/\IH=(σ.set i (some x)).set j (some y)
theorem OF {K:G5}: ∀σ H Q,LT K vd σ H Q->To σ H Q:=λσ H Q ⟨IG,h,Qd,rs,rh,q,p⟩=>p true h H (.refl H) rh q
def Ps (K:G5)(js:G0 G3)(bind:D->SD->SD->Prop)(g:TG):Prop:= ∀ (σ:St) (IG IL:SD) (H:Hp) (d:D) (v:V) (Q:St->Hp->Prop),RelS K H (jK js IG) (zk js σ)->RelD K H d v->bind d (jK js IG) IL->
 (∀IH,Agree (zk js σ) IH->RelS K H IL IH->Q IH H)->g v (zk js σ) H Q
theorem Cd {K:G5}{js:G0 G3}{i:G3}(hi:i∈js):Ps K js (bN i) (wJ i):=λσ IG IL H d v Q rs r b q=>by
 cases (show IL=_ from b);exact q _ (.set v λu=>jR js σ i u hi) (rs.set r i)
theorem EZ {K:G5}{js:G0 G3}{i j:G3}(hi:i∈js)(hj:j∈js)(hij:i≠j):Ps K js (b2 i j) (Eu K 2 (GO (wJ i) (GO (wJ j) Et))):=λσ IG IL H d v Q rs r b q=>by
 obtain⟨x,y,e,e2⟩:=b;subst e e2;obtain⟨a,vs,e,hH,r1⟩:=(show ∃a vs,v= .ref a/\H a=some (.tup vs)/\RelDs K H [x,y] vs from r);obtain⟨v1,v2,e1,r2,r3⟩:=vT r1;subst e e1;refine⟨a,[v1,v2],rfl,SqT.of hH,rfl,v1,[v2],rfl,v2,[],rfl,rfl,q _ (.trans (.set v1 λu=>jR js σ i u hi) (.set v2 λu z=> ?_)) ((rs.set r2 i).set r3 j)⟩;rw [K3 hij] at z;exact jR js σ j u hj z
theorem Ce {K:G5}{bind:D->SD->SD->Prop}{js:G0 G3}{ti:TID}{tt:TTD}{te:TED}{g:TG}(hb:Ps K js bind g): ∀σ H Q,LE K (WP bind js ti tt te) σ H Q->tLC js (LI K ti) g (LT K tt) (LE K te) σ H Q:=
 λσ H Q ⟨IG,h,Qd,rs,rh,q,p⟩=>by
  refine⟨IG,h,_,rs,rh,q,λj J h1 H1 k1 rh1 jo ⟨n,W,w0,turn⟩=> ?_⟩;refine⟨λi m ys H'=>m=n-i/\Kept H1 H'/\ ∃ds h',RelDs K H' ds ys/\RelH K h' H'/\W i ds h',⟨n-0,rfl,.refl _,[],h1,rfl,rh1,w0⟩,?_⟩;rintro i m ys H' ⟨rfl,kp,yd,h',ry,rh',w⟩;obtain⟨hz,ds,ej,hn,stop,go⟩:=turn i yd h' w;refine⟨by rw [<-ry.length];exact hz,?_⟩;have jo':=jo H' h' kp rh' ds ej i;have kk:Kept H H':=k1.trans kp
  by_cases hi:i<ds.length
  ·obtain⟨g1,y1⟩:=jo'.1 ds[i] (G7 hi);refine .inr ⟨g1,λx H'' y=> ?_⟩;obtain⟨k2,rh2,r2⟩:=y1 x H'' y;obtain⟨IL,bd,q2⟩:=go ds[i] (G7 hi);refine hb σ IG IL H'' ds[i] x _ (((rs.mono (kk.trans k2))).clear js) r2 bd λIH ag rs2=>⟨ag,?_⟩
   refine LT.bind rs2 rh2 q2 λb h3 H3 k3 rs3 rh3 q3=> ?_
   cases b with
   |true=>
    rw [D4 rfl] at q3 ⊢;refine LE.bind rs3 rh3 q3 λd4 v4 h4 H4 k4 rs4 rh4 r4 ⟨h5,sb,w5⟩=>⟨n-(i+1),by omega,rfl,kp.trans (k2.trans (k3.trans k4)),yd++ [d4],h5,(ry.mono (k2.trans (k3.trans k4))).append (.cons r4 .nil),rh4.sub sb,w5⟩
   |false=>
    rw [D5 R0] at q3 ⊢;obtain⟨h5,sb,w5⟩:=q3;exact⟨n-(i+1),by omega,rfl,kp.trans (k2.trans k3),yd,h5,ry.mono (k2.trans k3),rh3.sub sb,w5⟩
  ·refine .inl ⟨jo'.2 (U5.mp hi),λa ha=>p (.lst a) (.ref a) _ _ (kk.trans (.new ha)) (rh'.newL ha ry) ⟨rfl,ys,ji⟩ (stop (U5.mp hi) a (rh'.free ha))⟩
theorem wb {X:Cx}{scope:U2}{C:P5}{s₀:G2}{H₀:Hp}{ex:G0 P5}{i:G3}{x:Str}{p:Pos}(hN:X.N.Nodup)(hx:X.N[i]? =some x)(hl:scope.names.lookup x=some .local\/scope.names.lookup x=some .cell):
 PG (yy X scope C s₀ H₀ ex) (.Name x p) (wJ i):=by
 rcases hl with z|z
 ·exact vg hN hx (.inl (l9 z)) (.inr (l9 z))
 ·exact vg hN hx (.inr (vh z)) (.inl (by show (scope.names.lookup x==some Q2)=true;rw [z];rfl))
section
variable {X:Cx}{tg e iter elt:M5}{te:TED}{ti:TID}{g:TGD}{tb:TSD}{tt:TTD}{pos:Pos}{ta:TAD}{scope:U2}{js:G0 G3}{ifs:G0 M5}
theorem Cf (he:QE X e te):QI X tg e (iL te):=(Bz he).imp Cc
theorem Sa {p:Pos}{a:M5}(hg:Gl X "range")(hm:X.mg "range" =none)(ha:QA X [a] ta)(hs:R4 [a] X.env= [(false,E5 a X.env)]:=by rfl):QI X tg (.Call (.Name "range" p) [a] [] pos) (iR1 ta):=(GQ hg hm ha hs).imp EY
theorem Hs {body:G0 J9}(hp:mU (S2 X.prog X.w) X.A X.env X.xe)(hc:X.calm=true)(hi:QI X tg iter ti)(hg:QG X tg g)(hb:QSs X body tb)(hs: ∀x,M0 iter X.env x=pure x:=by intro _;rfl):
 QS X (.For tg iter body [] pos) (Eg ti g tb):=(Lw hp hc hi hg hb hs).imp OE
theorem Cg:PTs X [] (LT X.K vd):=λpins s σ H Q I h=>BP pins s σ H Q I (OF σ H Q h)
theorem Ch {c:M5}(hc:QT X c tt):PTs X [c] (LT X.K tt):=BQ hc
theorem qlc {i:G3}{x:Str}{p:Pos}(hc:X.calm=true)(S:BlockOk X scope js)(hi:QI X (.Name x p) iter ti)(hj:i∈js)(hN:X.N.Nodup)(hx:X.N[i]? =some x)(hl:scope.names.lookup x=some .local\/scope.names.lookup x=some .cell)
 (ht: ∀X',jf X scope X'->PTs X' ifs (LT X'.K tt))(he: ∀X',jf X scope X'->QE X' elt te)(hs: ∀x,M0 iter X.env x=pure x:=by intro _;rfl):
 QE X (.ListComp elt [⟨.Name x p,iter,ifs,0⟩] scope pos) (WP (bN i) js ti tt te):=
 (Oi hc S hi (λX' hX=>by obtain⟨C,s₀,H₀,ex,rfl⟩:=hX;exact wb hN hx hl) (λX' hX=>by have:=ht X' hX;obtain⟨C,s₀,H₀,ex,rfl⟩:=hX;exact this)
  (λX' hX=>by have:=he X' hX;obtain⟨C,s₀,H₀,ex,rfl⟩:=hX;exact this) hs).imp (Ce (Cd hj))
theorem Ht {i j:G3}{x y:Str}{p1 p2 p3:Pos}{k:G3}(hc:X.calm=true)(S:BlockOk X scope js)(hi:QI X (.Tuple [.Name x p1,.Name y p2] k p3) iter ti)(hj:i∈js)(hj2:j∈js)(hij:i≠j)(hN:X.N.Nodup)(hx:X.N[i]? =some x)(hy:X.N[j]? =some y)
 (hl:scope.names.lookup x=some .local\/scope.names.lookup x=some .cell)(hl2:scope.names.lookup y=some .local\/scope.names.lookup y=some .cell)
 (ht: ∀X',jf X scope X'->PTs X' ifs (LT X'.K tt))(he: ∀X',jf X scope X'->QE X' elt te)(hs: ∀x,M0 iter X.env x=pure x:=by intro _;rfl):
 QE X (.ListComp elt [⟨.Tuple [.Name x p1,.Name y p2] k p3,iter,ifs,0⟩] scope pos) (WP (b2 i j) js ti tt te):=
 (Oi hc S hi (λX' hX=>by
  obtain⟨C,s₀,H₀,ex,rfl⟩:=hX;exact NE hc (Zm (wb hN hx hl) (Zm (wb hN hy hl2) GP))) (λX' hX=>by have:=ht X' hX;obtain⟨C,s₀,H₀,ex,rfl⟩:=hX;exact this)
  (λX' hX=>by have:=he X' hX;obtain⟨C,s₀,H₀,ex,rfl⟩:=hX;exact this) hs).imp (Ce (EZ hj hj2 hij))
end
def LSp (K:G5)(spd:RDn):Sp:=λvs H Q _=>LC K spd vs H Q
theorem Ci {K:G5}{spd:RDn}{t:TAD}{E:XK}: ∀σ H Q,LE K (dCB spd t) σ H Q->LM (LSp K spd) [] E (LA K t) σ H Q:=λσ H Q ⟨IG,h,Qd,rs,rh,t,p⟩=>
 LA.bind rs rh t λds vs h1 H1 k1 rs1 rh1 r1 q=>by rw [J4];exact⟨ds,h1,Qd,r1,rh1,q,jA p k1⟩
section
variable {X:Cx}{k:G3}{f:P5}{fd:N9}{ps:G0 Str}{spd:RDn}{x:Str}{p pos:Pos}{e:M5}{es:G0 M5}{t:TAD}
theorem Sb (F:FnOk X.prog X.w X.K X.mg X.base CX0 k f fd ps (LSp X.K spd))(hr:Room k X.A)(hg:Gl X x)(hm:X.mg x=some (.ref f))(hk:a5 X.K (.ref f)=true)(hb:Binds X.K fd ps [])
 (ha:QA X (e::es) t)(hdb:(x==("__debug__" :Str))=false:=by decide)(he:R4 (e::es) X.env=(false,E5 e X.env)::R4 es X.env:=by rfl)(hpl:(K6 pos (R4 es X.env)).any (·.1)=false:=by rfl):
 QE X (.Call (.Name x p) (e::es) [] pos) (dCB spd t):=(BF F hr hg hm hk hb .nil EH ha hdb he hpl).imp Ci
theorem OG {id:V8}{r:RDn}(hc:vi X (.builtin id) r)(hg:Gl X x)(hm:X.mg x=none)(hv:Q5 x=some (.builtin id))(ha:QA X (e::es) t)(hn:x≠ "__name__" :=by decide)(hdb:(x==("__debug__" :Str))=false:=by decide)
 (he:R4 (e::es) X.env=(false,E5 e X.env)::R4 es X.env:=by rfl)(hpl:(K6 pos (R4 es X.env)).any (·.1)=false:=by rfl):QE X (.Call (.Name x p) (e::es) [] pos) (dCB r t):=(Zn hc hg hm hv ha hn hdb he hpl).imp Oq
theorem Cj {T:V8}{r:RDn}(hc:vi X (.type T) r)(hg:Gl X x)(hm:X.mg x=none)(hv:Q5 x=some (.type T))(ha:QA X (e::es) t)(hn:x≠ "__name__" :=by decide)(hdb:(x==("__debug__" :Str))=false:=by decide)
 (he:R4 (e::es) X.env=(false,E5 e X.env)::R4 es X.env:=by rfl)(hpl:(K6 pos (R4 es X.env)).any (·.1)=false:=by rfl):QE X (.Call (.Name x p) (e::es) [] pos) (dCB r t):=(Vj hc hg hm hv ha hn hdb he hpl).imp Oq
end
def wS (N:G0 Str)(ds:G0 D):SD:=ds.map some++N5 (N.length-ds.length) none
theorem QQ {K:G5}{H:Hp}{N:G0 Str}{ds:G0 D}{vs:G0 V}(r:RelDs K H ds vs):RelS K H (wS N ds) (start N vs):=by
 have hl:=r.length;refine⟨by unfold wS start;simp [hl],λi d e=> ?_⟩;unfold wS at e;unfold start
 by_cases hi:i<ds.length
 ·rw [N2 (by simpa using hi),D2] at e;cases q:ds[i]? with
  |none=>rw [q] at e;cases e
  |some d'=>
   rw [q] at e;cases e;obtain⟨v,e1,e2⟩:=r.get q;exact⟨v,by rw [N2 (by simpa [<-hl] using hi),D2,e1];rfl,e2⟩
 ·rw [S0 (by simpa using hi),iV] at e;split at e<;>cases e
def RJ (Q:KD):EndsD:= {nx:=λ_ h=> ∃h',Sub h' h/\Q .non h',rt:=λd h=> ∃h',Sub h' h/\Q d h'}
section
variable {P:S7}{w:N8}{K:G5}{mg:Str->P7 G1}{base:F4}
theorem Fun.okD {x qual:Str}{st:J9}{f:P5}{fd:N9}{N ps:G0 Str}{k:G3}{spd:RDn}(F:Fun K x qual st f fd)(S:FnScope N ps (jd st))(len: ∀ds h Q,spd ds h Q->ds.length=ps.length)
 (tb:TSD)(hbody: ∀ (cdv:G1) (A:N3) (outer:G0 Env) (s:G2) (H:Hp) (E:XK),Room k (A.deeper (gU qual (jd st) s.heap.objs.size f cdv))->QSs (RT CX0 P w K mg base N qual (jd st) f cdv A outer s H E).nox (zS st) tb)
 (read: ∀ds h Q,spd ds h Q->tb (RJ Q) (wS N ds) h):FnOk P w K mg base CX0 (k+1) f fd ps (LSp K spd):=by
 refine F.ok S (λvs H Q E h=> ?_) (λcdv A outer s H vs Q E hr h=> ?_)
 ·obtain⟨ds,h,Qd,r,rh,q,p⟩:=h;rw [<-r.length];exact len _ _ _ q
 ·obtain⟨ds,h,Qd,r,rh,q,p⟩:=h;refine⟨_,hbody cdv A outer s H E hr,wS N ds,h,RJ Qd,QQ r,rh,read ds h Qd q,λIJ h' IF H' k rs' rh' ⟨h2,sb,q'⟩=>p .non .non h2 H' k (rh'.sub sb) rfl q',λd v h' H' k rh' r' ⟨h2,sb,q'⟩=>p d v h2 H' k (rh'.sub sb) r' q',λ_ _ _ _ _ _ _ z=>z.elim,λ_ _ _ _ _ _ _ z=>z.elim⟩
end
section
variable {X:Cx}{iter elt:M5}{te:TED}{ti:TID}{tt:TTD}{pos spos:Pos}{scope:U2}{js:G0 G3}{ifs:G0 M5}
theorem OH {i k:G3}{x y:Str}{p py:Pos}(hc:X.calm=true)(hN:X.N.Nodup)(hk:X.N[k]? =some y)(hy:Loc X.env.scope y)(S:BlockOk X scope js)(hi:QI X (.Name x p) iter ti)(hj:i∈js)(hx:X.N[i]? =some x)(hl:scope.names.lookup x=some .local\/scope.names.lookup x=some .cell)
 (ht: ∀X',jf X scope X'->PTs X' ifs (LT X'.K tt))(he: ∀X',jf X scope X'->QE X' elt te)
 (hsw:Y6 (.ListComp elt [⟨.Name x p,iter,ifs,0⟩] scope pos) (some (.Name y py)) spos.line X.env=pure true:=by rfl)
 (hf:X.fn y=true\/X.env.scope.names.lookup y=some .local:=by first|exact .inl rfl|exact .inr rfl|assumption)(hs: ∀x,M0 iter X.env x=pure x:=by intro _;rfl):
 QS X (.Assign [.Name y py] (.ListComp elt [⟨.Name x p,iter,ifs,0⟩] scope pos) spos) (Mi k (WP (bN i) js ti tt te)):=by
 have base:PS X (.Assign [.Name y py] (.ListComp elt [⟨.Name x p,iter,ifs,0⟩] scope pos) spos) (NF (tLC js (LI X.K ti) (wJ i) (LT X.K tt) (LE X.K te)) (wJ k)):=
  Mc hc S hi (λX' hX=>by obtain⟨C,s₀,H₀,ex,rfl⟩:=hX;exact wb hN hx hl) (λX' hX=>by have:=ht X' hX;obtain⟨C,s₀,H₀,ex,rfl⟩:=hX;exact this)
   (λX' hX=>by have:=he X' hX;obtain⟨C,s₀,H₀,ex,rfl⟩:=hX;exact this) (vg hN hk hy hf) hsw hs
 exact base.imp λD σ H h=>by
  obtain⟨IG,hd,Qd,rs,rh,t,p⟩:=Pr (K:=X.K) D σ H h;exact Ce (Cd hj) σ H _ ⟨IG,hd,Qd,rs,rh,t,p⟩
end
def dIn (i':G3)(ti:TID)(tt:TTD)(te:TED)(V:G0 D->HD->Prop)(ys:G0 D):SD->HD->Prop:=λσ h=>ti σ h λj h1=> ∃ (n:G3) (W:G3->G0 D->HD->Prop),W 0 ys h1/\ ∀i ys h',W i ys h'->ys.length<=sizeLine/\
 ∃ds,j h'=some ds/\ds.length<=n/\(ds.length<=i->V ys h')/\
  ∀d,ds[i]? =some d->tt (σ.set i' (some d)) h' λb h3=>if b=true then te (σ.set i' (some d)) h3 λy h4=> ∃h5,Sub h5 h4/\W (i+1) (ys++ [y]) h5 else ∃h5,Sub h5 h3/\W (i+1) ys h5
def Mk (bind:D->SD->SD->Prop)(js:G0 G3)(ti:TID)(tt:TTD)(i':G3)(ti':TID)(tt':TTD)(te:TED):TED:=λσ h Q=>ti σ h λj h1=> ∃ (n:G3) (W:G3->G0 D->HD->Prop),W 0 [] h1/\ ∀i ys h',W i ys h'->ys.length<=sizeLine/\
 ∃ds,j h'=some ds/\ds.length<=n/\(ds.length<=i-> ∀p,h' p=none->Q (.lst p) (zZ h' p ys))/\
  ∀d,ds[i]? =some d-> ∃IH,bind d (jK js σ) IH/\tt IH h' λb h3=>if b=true then dIn i' ti' tt' te (λys' h6=> ∃h5,Sub h5 h6/\W (i+1) ys' h5) ys IH h3 else ∃h5,Sub h5 h3/\W (i+1) ys h5
def Pt (K:G5)(js:G0 G3)(i':G3)(bind:D->SD->SD->Prop)(g:TG):Prop:= ∀ (σ:St) (IG IL:SD) (H:Hp) (d:D) (v:V) (Q:St->Hp->Prop),RelS K H (jK js IG) (zk js σ)->RelD K H d v->bind d (jK js IG) IL->
 (∀IH,Agree (zk js σ) IH->(∀u,¬IH[i']? =some (some u))->RelS K H IL IH->Q IH H)->g v (zk js σ) H Q
theorem NM {K:G5}{js:G0 G3}{i i':G3}(hi:i∈js)(hi':i'∈js)(hne:i≠i'):Pt K js i' (bN i) (wJ i):=λσ IG IL H d v Q rs r b q=>by
 cases (show IL=_ from b);refine q _ (.set v λu=>jR js σ i u hi) (λu z=> ?_) (rs.set r i);rw [K3 hne] at z;exact jR js σ i' u hi' z
theorem NN {K:G5}{bind:D->SD->SD->Prop}{js:G0 G3}{i':G3}{ti ti':TID}{tt tt':TTD}{te:TED}{g:TG}(hb:Pt K js i' bind g): ∀σ H Q,LE K (Mk bind js ti tt i' ti' tt' te) σ H Q->Ee js (LI K ti) g (LT K tt) (LI K ti') (wJ i') (LT K tt') (LE K te) σ H Q:=
 λσ H Q ⟨IG,h,Qd,rs,rh,q,p⟩=>by
  refine⟨IG,h,_,rs,rh,q,λj J h1 H1 k1 rh1 jo ⟨n,W,w0,turn⟩=> ?_⟩;refine⟨λi m ys H'=>m=n-i/\Kept H1 H'/\ ∃ds h',RelDs K H' ds ys/\RelH K h' H'/\W i ds h',⟨n-0,rfl,.refl _,[],h1,rfl,rh1,w0⟩,?_⟩;rintro i m ys H' ⟨rfl,kp,yd,h',ry,rh',w⟩;obtain⟨hz,ds,ej,hn,stop,go⟩:=turn i yd h' w;refine⟨by rw [<-ry.length];exact hz,?_⟩;have jo':=jo H' h' kp rh' ds ej i;have kk:Kept H H':=k1.trans kp
  by_cases hi:i<ds.length
  ·obtain⟨g1,y1⟩:=jo'.1 ds[i] (G7 hi);refine .inr ⟨g1,λx H'' y=> ?_⟩;obtain⟨k2,rh2,r2⟩:=y1 x H'' y;obtain⟨IL,bd,q2⟩:=go ds[i] (G7 hi);refine hb σ IG IL H'' ds[i] x _ (((rs.mono (kk.trans k2))).clear js) r2 bd λIH ag un rs2=>⟨ag,?_⟩
   refine LT.bind rs2 rh2 q2 λb h3 H3 k3 rs3 rh3 q3=> ?_
   cases b with
   |true=>
    rw [D4 rfl] at q3 ⊢
    -- the second clause
    refine⟨IL,h3,_,rs3,rh3,q3,λj2 J2 h4 H4 k4 rh4 jo2 ⟨n2,W2,w20,turn2⟩=> ?_⟩;refine⟨λi2 m2 ys2 H5=>m2=n2-i2/\Kept H4 H5/\ ∃ds h5,RelDs K H5 ds ys2/\RelH K h5 H5/\W2 i2 ds h5,⟨n2-0,rfl,.refl _,yd,h4,ry.mono (k2.trans (k3.trans k4)),rh4,w20⟩,?_⟩;rintro i2 m2 ys2 H5 ⟨rfl,kp5,yd5,h5,ry5,rh5,w5⟩;obtain⟨hz5,ds5,ej5,hn5,stop5,go5⟩:=turn2 i2 yd5 h5 w5;refine⟨by rw [<-ry5.length];exact hz5,?_⟩;have jo5:=jo2 H5 h5 kp5 rh5 ds5 ej5 i2;have kk5:Kept H1 H5:=kp.trans (k2.trans (k3.trans (k4.trans kp5)))
    by_cases hi5:i2<ds5.length
    ·obtain⟨g5,y5⟩:=jo5.1 ds5[i2] (G7 hi5);refine .inr ⟨g5,λx6 H6 yy6=> ?_⟩;obtain⟨k6,rh6,r6⟩:=y5 x6 H6 yy6;refine⟨.set x6 un,?_⟩;have rs6:=(rs3.mono (k4.trans (kp5.trans k6))).set r6 i';refine LT.bind rs6 rh6 (go5 ds5[i2] (G7 hi5)) λb h7 H7 k7 rs7 rh7 q7=> ?_
     cases b with
     |true=>
      rw [D4 rfl] at q7 ⊢;exact LE.bind rs7 rh7 q7 λd8 v8 h8 H8 k8 rs8 rh8 r8 ⟨h9,sb,w9⟩=>⟨n2-(i2+1),by omega,rfl,kp5.trans (k6.trans (k7.trans k8)),yd5++ [d8],h9,(ry5.mono (k6.trans (k7.trans k8))).append (.cons r8 .nil),rh8.sub sb,w9⟩
     |false=>
      rw [D5 R0] at q7 ⊢;obtain⟨h9,sb,w9⟩:=q7;exact⟨n2-(i2+1),by omega,rfl,kp5.trans (k6.trans k7),yd5,h9,ry5.mono (k6.trans k7),rh7.sub sb,w9⟩
    ·obtain⟨h9,sb,w9⟩:=stop5 (U5.mp hi5);exact .inl ⟨jo5.2 (U5.mp hi5),n-(i+1),by omega,rfl,kk5,yd5,h9,ry5,rh5.sub sb,w9⟩
   |false=>
    rw [D5 R0] at q3 ⊢;obtain⟨h5,sb,w5⟩:=q3;exact⟨n-(i+1),by omega,rfl,kp.trans (k2.trans k3),yd,h5,ry.mono (k2.trans k3),rh3.sub sb,w5⟩
  ·refine .inl ⟨jo'.2 (U5.mp hi),λa ha=>p (.lst a) (.ref a) _ _ (kk.trans (.new ha)) (rh'.newL ha ry) ⟨rfl,ys,ji⟩ (stop (U5.mp hi) a (rh'.free ha))⟩
section
variable {X:Cx}{iter iter' elt:M5}{te:TED}{ti ti':TID}{tt tt':TTD}{pos:Pos}{scope:U2}{js:G0 G3}{ifs ifs':G0 M5}
theorem Hu {i i':G3}{x y:Str}{p py:Pos}(hc:X.calm=true)(S:BlockOk X scope js)(hi:QI X (.Name x p) iter ti)(hj:i∈js)(hj':i'∈js)(hne:i≠i')(hN:X.N.Nodup)(hx:X.N[i]? =some x)(hy:X.N[i']? =some y)
 (hl:scope.names.lookup x=some .local\/scope.names.lookup x=some .cell)(hl':scope.names.lookup y=some .local\/scope.names.lookup y=some .cell)
 (ht: ∀X',jf X scope X'->PTs X' ifs (LT X'.K tt))(hi': ∀X',jf X scope X'->QI X' (.Name y py) iter' ti')(ht': ∀X',jf X scope X'->PTs X' ifs' (LT X'.K tt'))(he: ∀X',jf X scope X'->QE X' elt te)
 (hs: ∀x,M0 iter X.env x=pure x:=by intro _;rfl)(hs': ∀env x,M0 iter' env x=pure x:=by intro _ _;rfl):
 QE X (.ListComp elt [⟨.Name x p,iter,ifs,0⟩,⟨.Name y py,iter',ifs',0⟩] scope pos) (Mk (bN i) js ti tt i' ti' tt' te):=
 (show PE X _ (Ee js (LI X.K ti) (wJ i) (LT X.K tt) (LI X.K ti') (wJ i') (LT X.K tt') (LE X.K te)) from Oj hc S hi (λX' hX=>by obtain⟨C,s₀,H₀,ex,rfl⟩:=hX;exact wb hN hx hl) (λX' hX=>by have:=ht X' hX;obtain⟨C,s₀,H₀,ex,rfl⟩:=hX;exact this) (λX' hX=>by have:=hi' X' hX;obtain⟨C,s₀,H₀,ex,rfl⟩:=hX;exact this)
  (λX' hX=>by obtain⟨C,s₀,H₀,ex,rfl⟩:=hX;exact wb hN hy hl') (λX' hX=>by have:=ht' X' hX;obtain⟨C,s₀,H₀,ex,rfl⟩:=hX;exact this)
  (λX' hX=>by have:=he X' hX;obtain⟨C,s₀,H₀,ex,rfl⟩:=hX;exact this) hs hs').imp (NN (NM hj hj' hne))
end
def Hv:RD2:=λx y h Q=>match x,y with
 | .int i,.int j=>Q (.int (i+j)) h
 | .tup a,.tup b=>a.length+b.length<=sizeLine/\Q (.tup (a++b)) h
 | .lst a,.lst b=> ∃xs ys,h a=some xs/\h b=some ys/\xs.length+ys.length<=sizeLine/\ ∀p,h p=none->Q (.lst p) (zZ h p (xs++ys))
 |_,_=>False
def Tp:RD2:=λx y h Q=>match x,y with
 | .int i,.int j=>Q (.int (i-j)) h
 |_,_=>False
def Tq:RD2:=λx y h Q=>match x,y with
 | .int i,.int j=>CMul i j/\Q (.int (i*j)) h
 | .lst a,.int k=> ∃xs,h a=some xs/\ -(2^63)<=k/\k<2^63/\xs.length*k.toNat<=sizeLine/\ ∀p,h p=none->Q (.lst p) (zZ h p (N5 k.toNat xs).flatten)
 |_,_=>False
def Hw:RD2:=λx y h Q=>match x,y with
 | .int i,.int j=>0<j/\Q (.int (i%j)) h
 |_,_=>False
def Sc:RD2:=λx y h Q=>match x,y with
 | .int i,.int j=>Tf i j/\Q (.int (i / j)) h
 |_,_=>False
def Tr:RD2:=λx y h Q=>match x,y with
 | .int i,.int j=>Eb i j/\Q (.int (i^j.toNat)) h
 |_,_=>False
def NO (p:P4->P4->M7):RD2:=λx y h Q=>match x,y with
 | .int i,.int j=>Q (.bl (p i j)) h
 |_,_=>False
def eqD:RD2:=λx y h Q=>match x,y with
 | .int i,.int j=>Q (.bl (decide (i=j))) h
 | .bl i,.bl j=>Q (.bl (decide (i=j))) h
 | .str i,.str j=>Q (.bl (decide (i=j))) h
 |_,_=>False
def neD:RD2:=λx y h Q=>match x,y with
 | .int i,.int j=>Q (.bl (!decide (i=j))) h
 | .bl i,.bl j=>Q (.bl (!decide (i=j))) h
 | .str i,.str j=>Q (.bl (!decide (i=j))) h
 |_,_=>False
section
variable {X:Cx}
theorem ZL {f:G1->G1->Sem G1}{C:P4->P4->Prop}{g:P4->P4->V}{gd:P4->P4->D}{r:RD2}(ho:OpR X f (rI C g))(hg: ∀i j H,RelD X.K H (gd i j) (g i j))
 (hr: ∀x y h Q,r x y h Q-> ∃i j,x= .int i/\y= .int j/\C i j/\Q (gd i j) h):OpQ X f r:=ho.imp λx y H Q ⟨dx,dy,h,Qd,rx,ry,rh,q,p⟩=>by
 obtain⟨i,j,e1,e2,c,q'⟩:=hr dx dy h Qd q;subst e1 e2;exact⟨i,j,rx,ry,c,p _ _ _ _ (.refl H) rh (hg i j H) q'⟩
theorem vU {f:G1->G1->Sem G1}{g:P4->P4->V}{gd:P4->P4->D}{r:RD2}(ho:OpR X f (rI0 g))(hg: ∀i j H,RelD X.K H (gd i j) (g i j))
 (hr: ∀x y h Q,r x y h Q-> ∃i j,x= .int i/\y= .int j/\Q (gd i j) h):OpQ X f r:=ho.imp λx y H Q ⟨dx,dy,h,Qd,rx,ry,rh,q,p⟩=>by
 obtain⟨i,j,e1,e2,q'⟩:=hr dx dy h Qd q;subst e1 e2;exact⟨i,j,rx,ry,p _ _ _ _ (.refl H) rh (hg i j H) q'⟩
theorem WQ:OpQ X (J3 .Sub) Tp:=vU (gd:=λi j=> .int (i-j)) Ly (λ_ _ _=>rfl) λx y h Q q=>by
 cases x<;>cases y<;>first|exact False.elim q|exact⟨_,_,rfl,rfl,q⟩
theorem ZM:OpQ X (J3 .Mod) Hw:=ZL (gd:=λi j=> .int (i%j)) Lz (λ_ _ _=>rfl) λx y h Q q=>by
 cases x<;>cases y<;>first|exact False.elim q|exact⟨_,_,rfl,rfl,q.1,q.2⟩
theorem Ck:OpQ X (J3 .FloorDiv) Sc:=ZL (gd:=λi j=> .int (i / j)) BA (λ_ _ _=>rfl) λx y h Q q=>by
 cases x<;>cases y<;>first|exact False.elim q|exact⟨_,_,rfl,rfl,q.1,q.2⟩
theorem NP:OpQ X (J3 .Pow) Tr:=ZL (gd:=λi j=> .int (i^j.toNat)) LB (λ_ _ _=>rfl) λx y h Q q=>by
 cases x<;>cases y<;>first|exact False.elim q|exact⟨_,_,rfl,rfl,q.1,q.2⟩
theorem Yo {p:P4->P4->M7}: ∀x y h Q,NO p x y h Q-> ∃i j,x= .int i/\y= .int j/\Q (.bl (p i j)) h:=λx y h Q q=>by
 cases x<;>cases y<;>first|exact False.elim q|exact⟨_,_,rfl,rfl,q⟩
theorem Cl:OpQ X (B0 .Lt) (NO λi j=>decide (i<j)):=vU (gd:=λi j=> .bl (decide (i<j))) Ey (λ_ _ _=>rfl) Yo
theorem Ml:OpQ X (B0 .LtE) (NO λi j=>decide (i<=j)):=vU (gd:=λi j=> .bl (decide (i<=j))) Ez (λ_ _ _=>rfl) Yo
theorem Sd:OpQ X (B0 .Gt) (NO λi j=>decide (j<i)):=vU (gd:=λi j=> .bl (decide (j<i))) EA (λ_ _ _=>rfl) Yo
theorem Cm:OpQ X (B0 .GtE) (NO λi j=>decide (j<=i)):=vU (gd:=λi j=> .bl (decide (j<=i))) EB (λ_ _ _=>rfl) Yo
theorem FU {α:Type}[DecidableEq α]{f:α->V}(hf: ∀a b,f a=f b->a=b)(a b:α):decide (f a=f b)=decide (a=b):=by
 by_cases h:a=b
 ·subst h;simp
 ·rw [T6 h,T6 (λe=>h (hf a b e))]
theorem oq_eq:OpQ X (B0 .Eq) eqD:=op_eq.imp λx y H Q ⟨dx,dy,h,Qd,rx,ry,rh,q,p⟩=>by
 cases dx<;>cases dy<;>first
  |exact False.elim q
  |(cases (show x= .int _ from rx);cases (show y= .int _ from ry);refine⟨rfl,p _ _ _ _ (.refl H) rh ?_ q⟩;rw [FU (f:=V.int) (λa b e=>by cases e;rfl)];rfl)
  |(cases (show x= .bl _ from rx);cases (show y= .bl _ from ry);refine⟨rfl,p _ _ _ _ (.refl H) rh ?_ q⟩;rw [FU (f:=V.bl) (λa b e=>by cases e;rfl)];rfl)
  |(cases (show x= .str _ from rx);cases (show y= .str _ from ry);refine⟨rfl,p _ _ _ _ (.refl H) rh ?_ q⟩;rw [FU (f:=V.str) (λa b e=>by cases e;rfl)];rfl)
theorem oq_ne:OpQ X (B0 .NotEq) neD:=op_ne.imp λx y H Q ⟨dx,dy,h,Qd,rx,ry,rh,q,p⟩=>by
 cases dx<;>cases dy<;>first
  |exact False.elim q
  |(cases (show x= .int _ from rx);cases (show y= .int _ from ry);refine⟨rfl,p _ _ _ _ (.refl H) rh ?_ q⟩;rw [FU (f:=V.int) (λa b e=>by cases e;rfl)];rfl)
  |(cases (show x= .bl _ from rx);cases (show y= .bl _ from ry);refine⟨rfl,p _ _ _ _ (.refl H) rh ?_ q⟩;rw [FU (f:=V.bl) (λa b e=>by cases e;rfl)];rfl)
  |(cases (show x= .str _ from rx);cases (show y= .str _ from ry);refine⟨rfl,p _ _ _ _ (.refl H) rh ?_ q⟩;rw [FU (f:=V.str) (λa b e=>by cases e;rfl)];rfl)
def OI (K:G5):R2:=λx y H Q=> ∃a b xs ys,x= .ref a/\y= .ref b/\SqT K H a xs/\SqT K H b ys/\xs= []/\Q (.ref b) H
theorem op_catT0:OpR X (J3 .Add) (OI X.K):=by
 intro pins s σ H x y v u Q I rx ry h;obtain⟨a,b,xs,ys,rfl,rfl,ha,hb,hx,q⟩:=h;cases rx;cases ry;obtain⟨its,r1,p1,_⟩:=I.tuple ha;obtain⟨its2,r2,p2,_⟩:=I.tuple hb;have hv:its= []:=r1.nil_iff.mpr hx;obtain⟨⟨cls,dd,data,sl⟩,ho,hc,n,hd⟩:=id p1;obtain⟨⟨cls2,dd2,tW,sl2⟩,ho2,hc2,n2,hd2⟩:=id p2;simp only at hc hd hc2 hd2;subst hc hd hc2 hd2;exact oA ⟨_,ho,rfl⟩ ⟨_,ho2,rfl⟩ iY nB dZ dN (cZ _ _)
  (tuple_addW0 a b its.toArray its2.toArray n n2 dd dd2 sl sl2 (by simp [hv])) ⟨ho,ho2,.ref b,H,I,rfl,q⟩
theorem wC:OpQ X (J3 .Add) Hv:=(op_add.or (op_catT.or (op_catT0.or LY))).imp λx y H Q ⟨dx,dy,h,Qd,rx,ry,rh,q,p⟩=>by
 cases dx<;>cases dy<;>first
  |exact False.elim q
  |skip
 ·exact .inl ⟨_,_,rx,ry,p (.int _) _ _ _ (.refl H) rh rfl q⟩
 ·rename_i ds es;obtain⟨a,vs,e1,h1,r1⟩:=(show ∃a vs,x= .ref a/\H a=some (.tup vs)/\RelDs X.K H ds vs from rx);obtain⟨b,us,e2,h2,r2⟩:=(show ∃a vs,y= .ref a/\H a=some (.tup vs)/\RelDs X.K H es vs from ry);subst e1 e2;obtain⟨hz,q⟩:=q
  by_cases hv:vs= []
  ·subst hv;have e:ds= []:=a6.mp r1.length;subst e;exact .inr (.inr (.inl ⟨a,b,[],us,rfl,rfl,SqT.of h1,SqT.of h2,rfl,p (.tup es) _ _ _ (.refl H) rh ⟨b,us,rfl,h2,r2⟩ q⟩))
  ·refine .inr (.inl ⟨a,b,vs,us,rfl,rfl,SqT.of h1,SqT.of h2,hv,by rw [<-r1.length,<-r2.length];exact hz,λe=> ?_,λ_ c hc=> ?_⟩)
   ·subst e;have e:es= []:=a6.mp r2.length;subst e;rw [J4] at q;exact p (.tup ds) _ _ _ (.refl H) rh ⟨a,vs,rfl,h1,r1⟩ q
   ·exact p (.tup (ds++es)) _ _ _ (.new hc) (rh.new hc) ⟨c,vs++us,rfl,ji,(r1.append r2).mono (.new hc)⟩ q
 ·rename_i a b;obtain⟨xs,ys,h1,h2,hz,q⟩:=q;obtain⟨vs,e1,r1⟩:=rh a xs h1;obtain⟨us,e2,r2⟩:=rh b ys h2;refine .inr (.inr (.inr ⟨a,b,vs,us,rx.1,ry.1,e1,e2,by rw [<-r1.length,<-r2.length];exact hz,λc hc=> ?_⟩));exact p (.lst c) _ _ _ (.new hc) (rh.newL hc (r1.append r2)) ⟨rfl,_,ji⟩ (q c (rh.free hc))
theorem RelDs.flat {K:G5}{H:Hp}{ds:G0 D}{vs:G0 V}(r:RelDs K H ds vs): ∀k:G3,RelDs K H (N5 k ds).flatten (N5 k vs).flatten
 |0=>by simp;exact .nil
 |k+1=>by rw [V2,V2,aN,aN];exact r.append (RelDs.flat r k)
theorem oq_mul:OpQ X (J3 .Mult) Tq:=(op_mul.or LZ).imp λx y H Q ⟨dx,dy,h,Qd,rx,ry,rh,q,p⟩=>by
 cases dx<;>cases dy<;>first
  |exact False.elim q
  |skip
 ·exact .inl ⟨_,_,rx,ry,q.1,p (.int _) _ _ _ (.refl H) rh rfl q.2⟩
 ·obtain⟨xs,h1,b1,b2,hz,q⟩:=q;obtain⟨vs,e1,r1⟩:=rh _ xs h1;refine .inr ⟨_,_,vs,rx.1,ry,e1,b1,b2,by rw [<-r1.length];exact hz,λc hc=> ?_⟩;exact p (.lst c) _ _ _ (.new hc) (rh.newL hc (r1.flat _)) ⟨rfl,_,ji⟩ (q c (rh.free hc))
end
def ixD:RD2:=λx y h Q=>match x,y with
 | .tup ds,.int i=> ∃d,atI ds i=some d/\Q d h
 | .lst a,.int i=> ∃ds d,h a=some ds/\atI ds i=some d/\Q d h
 | .scr ns,.int i=> ∃n,atI ns i=some n/\Q (.int n) h
 |_,_=>False
theorem Pu {K:G5}{H:Hp}{ds:G0 D}{vs:G0 V}(r:RelDs K H ds vs){i:P4}{d:D}(e:atI ds i=some d): ∃v,atI vs i=some v/\RelD K H d v:=by
 unfold atI at e ⊢;rw [<-r.length];cases q:ixN ds.length i with
 |none=>rw [q] at e;cases e
 |some j=>rw [q] at e;exact r.get e
theorem Cn {α β:Type}(f:α->β){xs:G0 α}{i:P4}{x:α}(e:atI xs i=some x):atI (xs.map f) i=some (f x):=by
 unfold atI at e ⊢;rw [G8];cases q:ixN xs.length i with
 |none=>rw [q] at e;cases e
 |some j=>
  rw [q] at e;show (xs.map f)[j]? =_;rw [D2,(show xs[j]? =some x from e)];rfl
section
variable {X:Cx}{a b e:M5}{ta tb te:TED}{pos p2:Pos}
theorem Se: ∀σ H Q,LE X.K (dOp ixD ta tb) σ H Q->tOp (rIx X.K) (LE X.K ta) (LE X.K tb) σ H Q:=λσ H Q ⟨IG,h,Qd,rs,rh,t,p⟩=>
 LE.bind rs rh t λdx x h1 H1 k1 rs1 rh1 r1 t1=>LE.bind rs1 rh1 t1 λdy y h2 H2 k2 rs2 rh2 ry q=>by
  have rx:=r1.mono k2;have kk:=k1.trans k2;cases dx<;>cases dy<;>first
   |exact False.elim q
   |skip
  ·rename_i ds i;obtain⟨d,e,q⟩:=q;obtain⟨a,vs,e1,hH,r⟩:=(show ∃a vs,x= .ref a/\H2 a=some (.tup vs)/\RelDs X.K H2 ds vs from rx);obtain⟨v,e2,rv⟩:=Pu r e;exact .inr (.inl ⟨a,vs,i,v,e1,ry,SqT.of hH,e2,p _ _ _ _ kk rh2 rv q⟩)
  ·rename_i a i;obtain⟨ds,d,hd,e,q⟩:=q;obtain⟨vs,hH,r⟩:=rh2 a ds hd;obtain⟨v,e2,rv⟩:=Pu r e;exact .inl ⟨a,vs,i,v,rx.1,ry,SqL.of hH,e2,p _ _ _ _ kk rh2 rv q⟩
  ·rename_i ns i;obtain⟨n,e,q⟩:=q;obtain⟨a,e1,hS⟩:=(show ∃a,x= .ref a/\Scr X.K H2 a ns from rx);exact .inl ⟨a,_,i,.int n,e1,ry,hS.sq,Cn V.int e,p (.int n) _ _ _ kk rh2 rfl q⟩
theorem qix (ha:QE X a ta)(hb:QE X b tb)(hs:Yk b):QE X (.Subscript a b pos) (dOp ixD ta tb):=(EF LV ha hb hs).imp Se
end
def FV:RDn:=λds h Q=>match ds with
 | [.tup xs]=>Q (.int xs.length) h
 | [.lst a]=> ∃xs,h a=some xs/\Q (.int xs.length) h
 | [.scr ns]=>Q (.int ns.length) h
 |_=>False
def Sf:RDn:=λds h Q=>match ds with
 | [.int i]=>Q (.int i) h
 | [.bl k]=>Q (.int (if k then 1 else 0)) h
 |_=>False
def Sg:RDn:=λds h Q=>match ds with
 | [.int i,.int j]=>Q (.int (if j>i then j else i)) h
 |_=>False
def NQ:RDn:=λds h Q=>match ds with
 | [.tup xs]=>Q (.tup xs) h
 | [.lst a]=> ∃xs,h a=some xs/\Q (.tup xs) h
 |_=>False
def XG:RDn:=λds h Q=>match ds with
 | [.lst a]=> ∃xs,h a=some xs/\Q (.tup xs) (UB h a)
 |_=>False
section
variable {X:Cx}
theorem OJ:vi X (.builtin "len") FV:=call_len_seq.imp λxs H Q ⟨ds,h,Qd,r,rh,q,p⟩=>by
 unfold FV at q;split at q
 ·rename_i es;obtain⟨v,e,r1⟩:=jw r;obtain⟨a,vs,e1,hH,r2⟩:=(show ∃a vs,v= .ref a/\H a=some (.tup vs)/\RelDs X.K H es vs from r1);subst e e1;exact⟨a,vs,rfl,.inr (SqT.of hH),by rw [<-r2.length];exact p (.int _) _ _ _ (.refl H) rh rfl q⟩
 ·rename_i a;obtain⟨es,hd,q⟩:=q;obtain⟨v,e,r1⟩:=jw r;obtain⟨vs,hH,r2⟩:=rh a es hd;have e1:v= .ref a:=r1.1;subst e e1;exact⟨a,vs,rfl,.inl (SqL.of hH),by rw [<-r2.length];exact p (.int _) _ _ _ (.refl H) rh rfl q⟩
 ·rename_i ns;obtain⟨v,e,r1⟩:=jw r;obtain⟨a,e1,hS⟩:=(show ∃a,v= .ref a/\Scr X.K H a ns from r1);subst e e1;exact⟨a,_,rfl,.inl hS.sq,by rw [G8];exact p (.int _) _ _ _ (.refl H) rh rfl q⟩
 ·exact q.elim
theorem NR:vi X (.type "int") Sf:=call_int1.imp λxs H Q ⟨ds,h,Qd,r,rh,q,p⟩=>by
 unfold Sf at q;split at q
 ·rename_i i;obtain⟨v,e,r1⟩:=jw r;cases (show v= .int i from r1);exact .inl ⟨i,e,p (.int i) _ _ _ (.refl H) rh rfl q⟩
 ·rename_i k;obtain⟨v,e,r1⟩:=jw r;cases (show v= .bl k from r1);exact .inr ⟨k,e,p (.int _) _ _ _ (.refl H) rh rfl q⟩
 ·exact q.elim
theorem OK (hc:X.calm=true):vi X (.builtin "max") Sg:=(GV hc).imp λxs H Q ⟨ds,h,Qd,r,rh,q,p⟩=>by
 unfold Sg at q;split at q
 ·rename_i i j;obtain⟨v,w,e,r1,r2⟩:=vT r;cases (show v= .int i from r1);cases (show w= .int j from r2);exact⟨i,j,e,p (.int _) _ _ _ (.refl H) rh rfl q⟩
 ·exact q.elim
theorem cq_tuple:vi X (.type "tuple") NQ:=call_tuple_of.imp λxs H Q ⟨ds,h,Qd,r,rh,q,p⟩=>by
 unfold NQ at q;split at q
 ·rename_i es;obtain⟨v,e,r1⟩:=jw r;obtain⟨a,vs,e1,hH,r2⟩:=(show ∃a vs,v= .ref a/\H a=some (.tup vs)/\RelDs X.K H es vs from r1);subst e e1;exact⟨a,vs,rfl,.inr ⟨SqT.of hH,p (.tup es) _ _ _ (.refl H) rh ⟨a,vs,rfl,hH,r2⟩ q⟩⟩
 ·rename_i a;obtain⟨es,hd,q⟩:=q;obtain⟨v,e,r1⟩:=jw r;obtain⟨vs,hH,r2⟩:=rh a es hd;have e1:v= .ref a:=r1.1;subst e e1;exact⟨a,vs,rfl,.inl ⟨SqL.of hH,λc hc=>p (.tup es) _ _ _ (.new hc) (rh.new hc) ⟨c,vs,rfl,ji,r2.mono (.new hc)⟩ q⟩⟩
 ·exact q.elim
theorem zQ:vi X (.type "tuple") XG:=cq_tuple.imp λxs H Q ⟨ds,h,Qd,r,rh,q,p⟩=>by
 unfold XG at q;split at q
 ·rename_i a;obtain⟨es,hd,q⟩:=q;exact⟨[.lst a],h,λd h'=>Qd d (UB h' a),r,rh,⟨es,hd,q⟩,λd v h' H' k rh' rd q'=>p d v _ H' k (rh'.sub (Sub.drop h' a)) rd q'⟩
 ·exact q.elim
end
def Vp:D->P7 V8
 | .non=>some "NoneType" | .bl _=>some "bool" | .int _=>some "int" | .str _=>some "str" | .tup _=>some "tuple" | .lst _=>some "list" | .dic _ _=>some "dict" | .dct _=>none| .scr _=>none| .exc _=>none| .fn _=>none
def OL (T:V8)(n:V8):M7:=n==T||(T== "int" &&n== "bool")
theorem Mm {K:G5}{H:Hp}{d:D}{v:V}{n:V8}(r:RelD K H d v)(e:Vp d=some n):TyOf K H v (.type n):=by
 cases d with
 |non=>cases (show v= .non from r);cases e;exact .non
 |bl b=>cases (show v= .bl b from r);cases e;exact .bl b
 |int i=>cases (show v= .int i from r);cases e;exact .int i
 |str x=>cases (show v= .str x from r);cases e;exact .str x
 |tup ds=>
  obtain⟨a,vs,e1,hH,_⟩:=(show ∃a vs,v= .ref a/\H a=some (.tup vs)/\RelDs K H ds vs from r);subst e1;cases e;exact .tup hH
 |lst a=>
  obtain⟨e1,vs,hH⟩:=(show v= .ref a/\ ∃vs,H a=some (.lst vs) from r);subst e1;cases e;exact .lst hH
 |dic x i=>
  obtain⟨a,e1,hH⟩:=(show ∃a,v= .ref a/\H a=some (.dK [(cI x,V.int i)]) from r);subst e1;cases e;exact .dK hH
 |dct a=>cases e
 |scr ns=>cases e
 |exc C=>cases e
 |fn a=>cases e
def Co:G0 V8:= ["NoneType","bool","int","str","tuple","list","dict"]
theorem QR {d:D}{n:V8}(e:Vp d=some n):n∈Co:=by
 cases d<;>cases e<;>decide
def Sh (K:G5):Prop:= ∀n∈Co,∀T∈ ["tuple","int","bool","list","str"],lV K (.type n) (.type T)=some (OL T n)
theorem Cp (K:G5):Sh K:=by
 intro n hn T hT;simp only [Co,S5,A5,or_false] at hn hT;rcases hn with rfl|rfl|rfl|rfl|rfl|rfl|rfl<;>rcases hT with rfl|rfl|rfl|rfl|rfl<;>with_unfolding_all rfl
theorem Pv {X:Cx}(T:V8):CallR X (.builtin "isinstance") (λxs H Q=> ∃x t b,xs= [x,.ty T]/\TyOf X.K H x t/\lV X.K t (.type T)=some b/\Q (.bl b) H):=by
 intro pins s σ H xs us Q I r h;obtain⟨x,t,b,rfl,ty,e,q⟩:=h;obtain⟨u,w',rfl,rx,rt⟩:=RS r;cases (show w'=Z7 T from rt);exact GY I rx ty e λtk=>⟨.bl b,H,I.tok tk,rfl,q⟩
def dIs (T:V8)(ta:TED):TED:=λσ h Q=>ta σ h λx h1=> ∃n,Vp x=some n/\Q (.bl (OL T n)) h1
theorem Si {X:Cx}{a:M5}{ta:TED}{T:V8}{t:Str}{p p2 pos:Pos}(hT:T∈ ["tuple","int","bool","list","str"])(hg:Gl X "isinstance")(hm:X.mg "isinstance" =none)(hg2:Gl X t)(hm2:X.mg t=none)(hv:Q5 t=some (.type T))(ha:QE X a ta)
 (hn:t≠ "__name__" :=by decide)(hd:(t==("__debug__" :Str))=false:=by decide)
 (h1:R4 [a,.Name t p2] X.env=(false,E5 a X.env)::R4 [.Name t p2] X.env:=by rfl)(h2:(K6 pos (R4 [.Name t p2] X.env)).any (·.1)=false:=by rfl):
 QE X (.Call (.Name "isinstance" p) [a,.Name t p2] [] pos) (dIs T ta):=
 (Zn (Pv T) hg hm pZ (yu ha (yu (Bv (v:= .ty T) hg2 hm2 hv rfl hn hd) pa_nil (by rfl)) h1) (by decide) (by decide) h1 h2).imp
  λσ H Q ⟨IG,h,Qd,rs,rh,t,p⟩=>LE.bind rs rh t λd v h1 H1 k1 rs1 rh1 r1 ⟨n,e,q⟩=>⟨v,.type n,OL T n,rfl,Mm r1 e,Cp _ n (QR e) T hT,p (.bl _) _ _ _ k1 rh1 rfl q⟩
theorem Pw (bs:G0 M7):(G6 bs.length).all (λi=>bs.getD i false)=bs.all id:=by
 induction bs with
 |nil=>rfl
 |cons b bs ih=>
  rw [D8,kW,rX,W3,rX];show (b&&_)=(b&&bs.all id);rw [<-ih];rfl
theorem Px {bs:G0 M7}{its:G0 G1}(r:Vals (bs.map V.bl) its){i:G3}{v:G1}(e:its[i]? =some v):v= .bool (bs.getD i false):=by
 have hl:=r.length;rw [G8] at hl;have hi:i<its.length:=(D6.mp e).1;have hb:(bs.map V.bl)[i]? =some (.bl bs[i]):=by rw [D2,G7 (by omega)];rfl
 obtain⟨u,e1,r1⟩:=r.get hb;rw [e] at e1;cases e1;rw [S1,G7 (by omega)];exact r1
section
variable {X:Cx}
theorem Yp (hc:X.calm=true):CallR X (.builtin "all") (λxs H Q=> ∃ (a:P5) (bs:G0 M7),xs= [.ref a]/\SqL X.K H a (bs.map V.bl)/\Q (.bl (bs.all id)) H):=by
 intro pins s σ H xs us Q I r h;obtain⟨a,bs,rfl,hS,q⟩:=h;obtain⟨u,rfl,ru⟩:=vK r;cases ru;obtain⟨its,rv,pl,hz⟩:=I.list hS;have hl:=pl.isList;have hlt:a<s.heap.objs.size:=by obtain⟨_,e,_⟩:=hl;exact R1 e
 refine call_all_walk (bX hl ?_);refine⟨s.heap.objs.size,_,_,_,_,_,λi=>bs.getD i false,rfl,Walks.list (A:=X.A.in1) (show X.A.in1.handled=none from I.ok.hd hc) s.heap.objs.size a (T2 hlt) its.toArray,⟨⟨_,T5 _ rfl,rfl,rfl⟩,hl.push _⟩,?_,λh' tk hk=> ?_⟩
 ·intro i v s' Q' E' hP hQ;have e:its[i]? =some v:=by simpa using hP
  rw [Px rv e];exact E1 hQ
 ·have hn:its.toArray.size=bs.length:=by rw [S6,<-rv.length,G8]
  rw [hn,Pw];exact⟨.bl _,H,I.kept (t':=tk) (λb o e=>hk b o (λz=>by rw [G9.mp z] at e;exact absurd (R1 e) (C4 _)) (P1 _ e)),rfl,q⟩
theorem ZN {K:G5}{H:Hp}: ∀ {bs:G0 M7} {vs:G0 V},RelDs K H (bs.map D.bl) vs->vs=bs.map V.bl
 | [],_,h=>h
 |b::bs,vs,h=>by
  obtain⟨v,r,e,h1,h2⟩:=(show ∃v r,vs=v::r/\RelD K H (.bl b) v/\RelDs K H (bs.map D.bl) r from h);rw [e,ZN h2,(show v= .bl b from h1)];rfl
def Cq:RDn:=λds h Q=> ∃ (a:P5) (bs:G0 M7),ds= [.lst a]/\h a=some (bs.map D.bl)/\Q (.bl (bs.all id)) (UB h a)
theorem Vq (hc:X.calm=true):vi X (.builtin "all") Cq:=(Yp hc).imp λxs H Q ⟨ds,h,Qd,r,rh,⟨a,bs,e,hd,q⟩,p⟩=>by
 subst e;obtain⟨v,e,r1⟩:=jw r;obtain⟨vs,hH,r2⟩:=rh a _ hd;have e1:v= .ref a:=r1.1;rw [ZN r2] at hH;subst e e1;exact⟨a,bs,rfl,SqL.of hH,p (.bl _) _ _ _ (.refl H) (rh.sub (Sub.drop h a)) rfl q⟩
end
def Ts (to:TED)(te:TED):TED:=λσ h Q=>to σ h λx h1=> ∃a,x= .lst a/\te σ h1 λy h2=> ∃xs,h2 a=some xs/\xs.length<sizeLine/\Q .non (zZ h2 a (xs++ [y]))
section
variable {X:Cx}{o e i:M5}{to te ti:TED}{apos cpos pos:Pos}
theorem Hx (ho:QE X o to)(he:QE X e te)(hbase:Y4 o "append" X.env (E5 o X.env)=E5 o X.env:=by rfl)
 (hfew:((K6 cpos (R4 [e] X.env)).all (λx=> !x.1)&&(iZ cpos (dQ [] X.env)).all (λx=>x.1.isSome)&&decide ([e].length+([]:G0 cK).length+(if ([]:G0 cK).isEmpty then 0 else 1)<30))=true:=by rfl)
 (hline:(apos.endLine==cpos.line)=true:=by rfl)(hs:R4 [e] X.env=(false,E5 e X.env)::R4 [] X.env:=by rfl)(hplain:(K6 cpos (R4 [] X.env)).any (·.1)=false:=by rfl):
 QE X (.Call (.Attribute o "append" apos) [e] [] cpos) (Ts to te):=
 (LX i6 rY rZ Pd ho (yu he pa_nil hs) hbase hfew hline hs hplain).imp
  λσ H Q ⟨IG,h,Qd,rs,rh,t,p⟩=>LE.bind rs rh t λd v h1 H1 k1 rs1 rh1 r1 ⟨a,e,q⟩=>by
   subst e;obtain⟨e1,vs,hH⟩:=(show v= .ref a/\ ∃vs,H1 a=some (.lst vs) from r1);subst e1;refine⟨.inl ⟨rfl,vs,SqL.of hH⟩,?_⟩;refine LE.bind rs1 rh1 q λy u h2 H2 k2 rs2 rh2 r2 ⟨xs,hx,hz,q2⟩=> ?_
   obtain⟨ws,hW,r3⟩:=rh2 a xs hx;refine⟨a,ws,u,rfl,rfl,hW,by rw [<-r3.length];exact hz,p .non _ _ _ (k1.trans (k2.trans (.put hW))) (rh2.put hW (r3.append (.cons r2 .nil))) rfl q2⟩
def OM (to ti:TED):TGD:=λd σ h Q=>to σ h λo h1=>ti σ h1 λi h2=> ∃a k xs j,o= .lst a/\i= .int k/\h2 a=some xs/\ixN xs.length k=some j/\Q σ (zZ h2 a (xs.set j d))
theorem ON (ho:QE X o to)(hi:QE X i ti)
 (ha: ∀v,fJ (.Subscript o i pos) X.env v=(do
  let ov <-aK [v] (E5 o X.env)
  let iv <-aK [v,ov] (E5 i X.env)
  iH pos
  aK [v,ov,iv] (qJ ov iv v)
  xG [v,ov,iv] []):=by intro _;rfl):QG X (.Subscript o i pos) (OM to ti):=
 (Lq ho hi RX ha).imp λv σ H Q ⟨d,IG,h,Qd,r,rs,rh,q,p⟩=>
  LE.bind rs rh q λd1 v1 h1 H1 k1 rs1 rh1 r1 q1=>LE.bind rs1 rh1 q1 λd2 v2 h2 H2 k2 rs2 rh2 r2 ⟨a,k,xs,j,e1,e2,hx,hj,q2⟩=>by
   subst e1 e2;have e3:v1= .ref a:=(r1.mono k2).1;obtain⟨ws,hW,r3⟩:=rh2 a xs hx;refine⟨a,ws,k,j,e3,r2,hW,by rw [<-r3.length];exact hj,p _ _ _ _ (k1.trans (k2.trans (.put hW))) (rs2.mono (.put hW)) (rh2.put hW (RelDs.set ((r.mono k1).mono k2) j r3)) q2⟩
end
def Py (N:G0 Str)(sc:G0 (Str×NameKind))(scope:U2)(js:G0 G3):M7:=
 scope.kind== .function&&scope.names.all (λp=>p.2 != .cell||scope.names.lookup p.1==some .cell)&&scope.names.all (λp=>p.2 != .local||scope.names.lookup p.1==some .local)&&
 scope.names.all (λp=>p.2 != .free||sc.lookup p.1==some .cell||sc.lookup p.1==some .free)&&
 (G6 N.length).all λi=>(scope.names.lookup (N.getD i Str.empty) !=some .local&&scope.names.lookup (N.getD i Str.empty) !=some .cell)||js.contains i
theorem zG {X:Cx}{scope:U2}{js:G0 G3}(h:Py X.N X.env.scope.names scope js=true):BlockOk X scope js:=by
 unfold Py at h;simp only [O1] at h;obtain⟨⟨⟨⟨h1,h2⟩,h3⟩,h4⟩,h5⟩:=h;refine⟨eq_of_beq h1,λp hp e=> ?_,λp hp e=> ?_,λp hp e=> ?_,λi x e1 e2=> ?_⟩
 ·have:=C3.mp h3 p hp;rw [e] at this;simpa using this
 ·have:=C3.mp h2 p hp;rw [e] at this;simpa using this
 ·have:=C3.mp h4 p hp;rw [e] at this;simpa using this
 ·have hi:i<X.N.length:=(D6.mp e1).1;have:=C3.mp h5 i (D3.mpr hi);rw [S1,e1,cM] at this;rcases e2 with e2|e2<;>(rw [e2] at this;simpa using this)
theorem qpt {X:Cx}{e:M5}{t:TTD}(h:QW X e t):QT X e t:=h.pt
theorem Pz {i:G3}{js:G0 G3}{ti:TID}{te:TED}{σ:SD}{h h1:HD}{Q:KD}{ds:G0 D}{j:ItD}(f:D->D)(hz:ds.length<=sizeLine)(hj:j h1=some ds)
 (ht: ∀R:ItD->HD->Prop,R j h1->ti σ h R)(he: ∀d∈ds,∀Q':KD,Q' (f d) h1->te ((jK js σ).set i (some d)) h1 Q')(hq: ∀p,h1 p=none->Q (.lst p) (zZ h1 p (ds.map f))):WP (bN i) js ti vd te σ h Q:=by
 refine ht _ ⟨ds.length,λk ys h'=>h'=h1/\ys=(ds.take k).map f,⟨rfl,by simp⟩,?_⟩;rintro k ys h' ⟨rfl,rfl⟩;refine⟨by simp only [G8,T3];omega,ds,hj,P2 _,λhl p hp=> ?_,λd hd=>⟨_,rfl,?_⟩⟩
 ·rw [T8 hl];exact hq p hp
 ·unfold vd;dsimp only;rw [D4 rfl];refine he d (D0 hd) _ ⟨h',Sub.refl _,rfl,?_⟩;rw [B8,hd];simp
end L2
namespace HT
open PySem PySem.Spec PyProof.Rows
section
variable {prog:S7}{w:N8}{A:N3}{E:G1->G2->Prop}{s:G2}
theorem vj {t sl:P5}{items:S9 G1}{vl vu:G1}{lo hi:P7 P4}{Q:G1->G2->Prop}(ht:m9 s.heap t items)(hs:s.heap.IsSliceOf sl vl vu .none)(pl:kL vl lo)(pu:kL vu hi)
 (hw:sIx items.size 0 lo=0/\sIx items.size items.size hi=items.size)(h:Q (.ref t) s):R7 (S2 prog w) A (mV (.ref t) (.ref sl)) Q E s:=by
 obtain⟨os,hos,hcs,hds⟩:=id hs;have hTs:s.TypeIs (.ref sl) "slice" :=⟨os,hos,hcs⟩;unfold mV
 try with_reducible refine L7 ?_
 first|refine wpAny_bind (P3 ?_)|skip
 refine wpAny_bind (oB ht.typeIs (by decide) ?_);refine wpAny_bind (dO (name:=Str.ofString "__getitem__") ht.typeIs V5
  (O0 V5 ht.typeIs mY ?_ (nM _ _)))
 show R7 _ _ (Z8 (.ref t) >>= _) _ _ s;refine wpAny_bind (nC ht ?_);refine wpAny_bind (gI hTs ?_);rw [D4 (by decide)];refine wpAny_bind (yp hs pl pu ?_);have hyes:((((sIx items.size 0 lo:G3):P4)==0&&(1:P4)==1&&(sIx items.size items.size hi-sIx items.size 0 lo)==items.size)=true):=by
  rw [hw.1,hw.2];simp
 show R7 _ _ (if (((sIx items.size 0 lo:G3):P4)==0&&(1:P4)==1&&(sIx items.size items.size hi-sIx items.size 0 lo)==items.size)=true then _ else _) _ _ s;rw [D4 hyes];refine wpAny_bind (m:=gX (.ref t)) ?_;unfold gX;refine wpAny_bind (gI ht.typeIs (P3 ?_));rw [D4 (by decide)];exact wpAny_bind (fK (P3 ⟨_,rfl,P3 h⟩))
end
end HT
namespace L2
open PySem PySem.Spec PyProof.Rows
def Hy (K:G5):V->P7 P4->P7 P4->Hp->VK->Prop:=λx lo hi H Q=> ∃a xs,x= .ref a/\SqT K H a xs/\(HT.sIx xs.length 0 lo=0/\HT.sIx xs.length xs.length hi=xs.length)/\Q (.ref a) H
variable {X:Cx}
theorem sl_whole:SlR X (Hy X.K):=by
 intro pins s σ H x v vl vu lo hi sl Q I rx hs pl pu h;obtain⟨a,xs,rfl,hx,hw,q⟩:=h;cases rx;obtain⟨its,r,ht,hz⟩:=I.tuple hx;have hlen:its.toArray.size=xs.length:=by rw [S6];exact r.length.symm
 refine⟨"tuple",_,PyProof.Rows.slot_tuple_getitem.lookup,ht.typeIs,?_⟩;exact HT.vj ht hs pl pu (by rw [hlen];exact hw) ⟨.ref a,H,I,rfl,q⟩
def QU {α:Type}(xs:G0 α)(lo hi:P7 P4):G0 α:=(xs.drop (HT.sIx xs.length 0 lo)).take (HT.sIx xs.length xs.length hi-HT.sIx xs.length 0 lo)
abbrev TOD:=SD->HD->(P7 P4->HD->Prop)->Prop
def OO (t:TED):TOD:=λσ h Q=>t σ h λx h1=> ∃i,x= .int i/\Q (some i) h1
def LO (K:G5)(t:TOD):TO:=λσ H Q=> ∃IG h Qd,RelS K H IG σ/\RelH K h H/\t IG h Qd/\ ∀o h' H',Kept H H'->RelH K h' H'->Qd o h'->Q o H'
theorem LO.bind {K:G5}{ta:TOD}{σ:St}{H:Hp}{IG:SD}{h:HD}{kd:P7 P4->HD->Prop}{k:P7 P4->Hp->Prop}(rs:RelS K H IG σ)(rh:RelH K h H)(t:ta IG h kd)(f: ∀o h' H',Kept H H'->RelS K H' IG σ->RelH K h' H'->kd o h'->k o H'):LO K ta σ H k:=
 ⟨IG,h,kd,rs,rh,t,λo h' H' kp r1 q=>f o h' H' kp (rs.mono kp) r1 q⟩
theorem PO.imp {e:P7 M5}{t t':TO}(h:PO X e t)(i: ∀σ H Q,t' σ H Q->t σ H Q):PO X e t':=λpins s σ H Q I q=>h pins s σ H Q I (i σ H Q q)
abbrev QO (X:Cx)(e:P7 M5)(t:TOD):Prop:=PO X e (LO X.K t)
theorem Cr {e:M5}{te:TED}(he:QE X e te):QO X (some e) (OO te):=(BH he).imp λσ H Q ⟨IG,h,Qd,rs,rh,q,p⟩=>
 LE.bind rs rh q λd v h1 H1 k1 rs1 rh1 r1 ⟨i,e,q1⟩=>by subst e;exact⟨i,r1,p _ _ _ k1 rh1 q1⟩
def slD:D->P7 P4->P7 P4->HD->KD->Prop:=λx lo hi h Q=>match x with
 | .tup ds=>Q (.tup (QU ds lo hi)) h
 | .scr ns=> ∀p,h p=none->Q (.lst p) (zZ h p ((QU ns lo hi).map D.int))
 | .lst a=> ∃ds,h a=some ds/\ ∀p,h p=none->Q (.lst p) (zZ h p (QU ds lo hi))
 |_=>False
def dSl (te:TED)(tl th:TOD):TED:=λσ h Q=>te σ h λx h1=>tl σ h1 λl h2=>th σ h2 λu h3=>slD x l u h3 Q
theorem Yq {K:G5}{H:Hp}{ds:G0 D}{vs:G0 V}(r:RelDs K H ds vs)(lo hi:P7 P4):RelDs K H (QU ds lo hi) (RH vs lo hi):=by
 unfold QU RH;rw [r.length];exact(r.drop _).take _
theorem Cs {α β:Type}(f:α->β)(xs:G0 α)(lo hi:P7 P4):QU (xs.map f) lo hi=(QU xs lo hi).map f:=by
 unfold QU;rw [G8,r9,sA]
theorem OP {e:M5}{te:TED}{lo hi:P7 M5}{tl th:TOD}{pos p2:Pos}(he:QE X e te)(hl:QO X lo tl)(hu:QO X hi th):QE X (.Subscript e (.Slice lo hi none p2) pos) (dSl te tl th):=
 (RW (sl_tup.or (sl_whole.or BI)) he hl hu).imp λσ H Q ⟨IG,h,Qd,rs,rh,q,p⟩=>
  LE.bind rs rh q λd v h1 H1 k1 rs1 rh1 r1 q1=>LO.bind rs1 rh1 q1 λl h2 H2 k2 rs2 rh2 q2=>LO.bind rs2 rh2 q2 λu h3 H3 k3 rs3 rh3 q3=>by
   have rv:=(r1.mono k2).mono k3;have kk:=k1.trans (k2.trans k3);cases d<;>first
    |exact False.elim q3
    |skip
   ·rename_i ds;obtain⟨a,vs,e1,hH,r⟩:=(show ∃a vs,v= .ref a/\H3 a=some (.tup vs)/\RelDs X.K H3 ds vs from rv)
    by_cases hw:HT.sIx vs.length 0 l=0/\HT.sIx vs.length vs.length u=vs.length
    ·refine .inr (.inl ⟨a,vs,e1,SqT.of hH,hw,p (.tup (QU ds l u)) _ _ _ kk rh3 ⟨a,vs,rfl,hH,?_⟩ q3⟩);have z:=Yq r l u;have e:RH vs l u=vs:=by unfold RH;rw [hw.1,hw.2];simp
     rwa [e] at z
    ·exact .inl ⟨a,vs,e1,SqT.of hH,hw,λc hc=>p (.tup (QU ds l u)) _ _ _ (kk.trans (.new hc)) (rh3.new hc) ⟨c,_,rfl,ji,(Yq r l u).mono (.new hc)⟩ q3⟩
   ·rename_i a;obtain⟨ds,hd,q3⟩:=q3;obtain⟨vs,hH,r⟩:=rh3 a ds hd;exact .inr (.inr ⟨a,vs,rv.1,SqL.of hH,λc hc=>p (.lst c) _ _ _ (kk.trans (.new hc)) (rh3.newL hc (Yq r l u)) ⟨rfl,_,ji⟩ (q3 c (rh3.free hc))⟩)
   ·rename_i ns;obtain⟨a,e1,hS⟩:=(show ∃a,v= .ref a/\Scr X.K H3 a ns from rv);refine .inr (.inr ⟨a,_,e1,hS.sq,λc hc=>p (.lst c) _ _ _ (kk.trans (.new hc)) (rh3.newL hc ?_) ⟨rfl,_,ji⟩ (q3 c (rh3.free hc))⟩);have z:=Yq (wR (K:=X.K) (H:=H3) ns) l u
    rwa [Cs] at z
end L2
namespace HT
open PySem PySem.Spec PyProof.Rows
open Sem (wp)
open Builtin
theorem Zd:fillsNumberSlot (.type "tuple") "mul" =pure false:=
 PySem.fillsNumberSlot_seq (id:= "tuple.__mul__") (r:=some (.builtin "tuple.__rmul__")) F.slot_tuple_mul.lookup (by decide +kernel) F.slot_tuple_rmul.lookup (by decide +kernel)
theorem Vr:w8 (.type "tuple")=pure (some (.builtin "tuple.__mul__")):=by
 unfold w8;rw [pG (T:= "tuple") (name:= "__mul__") (id:= "tuple.__mul__") F.slot_tuple_mul.lookup (by decide +kernel),pG (T:= "tuple") (name:= "__rmul__") (id:= "tuple.__rmul__") F.slot_tuple_rmul.lookup (by decide +kernel)];rfl
section
variable {prog:S7}{w:N8}{A:N3}{E:G1->G2->Prop}{s:G2}
theorem Yr {k:P4}{t:Tok}{l:P5}{o:Obj}{its:S9 G1}{n:G3}{P:fM->G2->Prop}(at_:s.heap.get? l=some o)(tup:o.cls= .type "tuple")(dat:o.data= .seq its n)(h:P (.done (.ret .notImplemented)) s):R7 (S2 prog w) A (Builtin.«int.__rmul__» ⟨[.int k t,.ref l],[]⟩) P E s:=by
 obtain⟨c,dd,dt,sl⟩:=o;cases tup;cases dat;obtain⟨hp,g,d,tk,os⟩:=s
 wp_walk
 exact h
theorem UD {l:P5}{its:S9 G1}{n:G3}{x:P4}{u:Tok}{dd:P7 P5}{sl:S9 (P7 G1)}{P:fM->G2->Prop}(at_:s.heap.get? l=some {cls:= .type "tuple",dict:=dd,data:= .seq its n,slots:=sl})(fits: -(2^63)<=x/\x<2^63)
 (same:(its.isEmpty||x==1)=true->P (.done (.ret (.ref l))) s)
 (gone:(its.isEmpty||x==1)=false->(decide (x<=0)||its.isEmpty)=true->P (.done (.ret (.ref s.heap.objs.size))) {s with heap:=s.heap.push {cls:= .type "tuple",data:= .seq #[]}})
 (more:(its.isEmpty||x==1)=false->(decide (x<=0)||its.isEmpty)=false-> ¬ (its.size:P4)*x>(2^63-1) / 8/\gY ((its.size:P4)*x)=false/\((N5 x.toNat its).foldl (· ++ ·) #[]).size<=sizeLine/\
  P (.done (.ret (.ref s.heap.objs.size))) {s with heap:=s.heap.push {cls:= .type "tuple",data:= .seq ((N5 x.toNat its).foldl (· ++ ·) #[])}}):
 R7 (S2 prog w) A (Builtin.«tuple.__mul__» ⟨[.ref l,.int x u],[]⟩) P E s:=by
 obtain⟨hp,g,d,tk,os⟩:=s
 wp_walk
 rw [D5 (by simp only [bO,X3];omega)]
 wp_walk
 cases c1:(its.isEmpty||x==1) with
 |true=>
  rw [D4 rfl]
  wp_walk
  exact same c1
 |false=>
  rw [D5 R0];cases c2:(decide (x<=0)||its.isEmpty) with
  |true=>
   rw [D4 rfl]
   wp_walk
   exact gone c1 c2
  |false=>
   obtain⟨m1,m2,m3,m4⟩:=more c1 c2;rw [D5 R0];dsimp only;rw [D5 m1,m2,D5 R0]
   wp_walk
   exact m4
end
end HT
namespace L2
open PySem PySem.Spec PyProof.Rows
def Sj (K:G5):R2:=λx y H Q=> ∃ (a:P5) (k:P4) (xs:G0 V),x= .ref a/\y= .int k/\SqT K H a xs/\ -(2^63)<=k/\k<2^63/\xs.length*k.toNat<=sizeLine/\
 ((xs= []\/k=1)->Q (.ref a) H)/\(¬ (xs= []\/k=1)-> ∀p,H p=none->Q (.ref p) (upd H p (.tup (N5 k.toNat xs).flatten)))
theorem Zr {l:G0 G1}:l.toArray= #[]↔l= []:=by cases l<;>simp
variable {X:Cx}
theorem Ct:OpR X (J3 .Mult) (Sj X.K):=by
 intro pins s σ H x y v u Q I rx ry h;obtain⟨a,k,xs,rfl,rfl,hH,h1,h2,hz,q1,q2⟩:=h;cases rx;obtain⟨t,rfl⟩:=ry;obtain⟨its,r,ht,_⟩:=I.tuple hH;obtain⟨⟨cls,dd,data,sl⟩,ho,hc,n,hd⟩:=id ht;simp only at hc hd;subst hc hd;have hl:=r.length;have hnew:(N5 k.toNat its.toArray).foldl (· ++ ·) #[]=(N5 k.toNat its).flatten.toArray:=by
  have:=ZC its k.toNat [];rw [O2] at this;exact this
 have few:its.length*k.toNat<=sizeLine:=by rw [<-hl];exact hz
 have free:=I.hok.fresh (P2 _);refine iC (T:= "tuple") (U:= "int") (by decide) ⟨_,ho,rfl⟩ (λs'=>kO s' k t) HT.Zd pW gC HT.Vr F.slot_int_index.lookup
  (O0 gC (kO s k t) pF (HT.Yr ho rfl rfl ⟨_,rfl,rfl,⟨_,ho,rfl⟩,O0 F.slot_tuple_mul ⟨_,ho,rfl⟩ F.entry_tuple_mul (HT.UD ho ⟨h1,h2⟩ (λc=> ?_) (λc c0=> ?_) (λc c0=> ?_)) (F.args_tuple_mul_2 _ _)⟩) (oE _ _))
 ·refine⟨_,rfl,.ref a,H,I,rfl,q1 ?_⟩;simp only [bO,beq_iff_eq,oH,Zr] at c;exact c.imp (λe=>r.nil_iff.mp e) id
 ·simp only [mB,beq_eq_false_iff_ne,gZ,ne_eq,Zr] at c;have k0:k.toNat=0:=by
   simp only [bO,X3,oH,Zr] at c0;have:=c0.resolve_right c.1;omega
  have last:=q2 (λz=>z.elim (λe=>c.1 (r.nil_iff.mpr e)) c.2) _ free;rw [k0] at last;exact⟨_,rfl,.ref s.heap.objs.size,_,I.laid (t':=s.toks) (o:= .tup []) (λb ob q=>P1 _ q) (P2 _) ⟨by decide,[],.nil,IsTupN.new _ _⟩,rfl,last⟩
 ·simp only [mB,beq_eq_false_iff_ne,gZ,ne_eq,Zr,i7] at c c0;have em:((its.toArray.size:G3):P4)*k=((its.length*k.toNat:G3):P4):=by rw [Int.natCast_mul,S6,show ((k.toNat:G3):P4)=k by omega]
  have cap:(sizeLine:G3)<=(2^63-1) / 8:=by decide
  rw [em,hnew];refine⟨by omega,by unfold gY;exact T6 (by omega),by rw [S6,Uy,Y2];exact few,_,rfl,.ref s.heap.objs.size,_,I.laid (t':=s.toks) (o:= .tup (N5 k.toNat xs).flatten) (λb ob q=>P1 _ q) (P2 _) ⟨by rw [Uy,Y2];exact hz,_,r.rep k.toNat,IsTupN.new _ _⟩,rfl,q2 (λz=>z.elim (λe=>c.1 (r.nil_iff.mpr e)) c.2) _ free⟩
def Tt:RD2:=λx y h Q=>match x,y with
 | .tup ds,.int k=> -(2^63)<=k/\k<2^63/\ds.length*k.toNat<=sizeLine/\Q (.tup (N5 k.toNat ds).flatten) h
 |x,y=>Tq x y h Q
theorem Jz:OpQ X (J3 .Mult) Tt:=(oq_mul.or Ct).imp λx y H Q ⟨dx,dy,h,Qd,rx,ry,rh,q,p⟩=>by
 by_cases ht: ∃ds k,dx= .tup ds/\dy= .int k
 ·obtain⟨ds,k,e1,e2⟩:=ht;subst e1 e2;obtain⟨b1,b2,hz,q⟩:=q;obtain⟨a,vs,e,hH,r⟩:=(show ∃a vs,x= .ref a/\H a=some (.tup vs)/\RelDs X.K H ds vs from rx);refine .inr ⟨a,k,vs,e,ry,SqT.of hH,b1,b2,by rw [<-r.length];exact hz,λhs=> ?_,λ_ c hc=>p (.tup _) _ _ _ (.new hc) (rh.new hc) ⟨c,_,rfl,ji,(r.flat _).mono (.new hc)⟩ q⟩;refine p (.tup _) _ _ _ (.refl H) rh ⟨a,vs,rfl,hH,?_⟩ q;rcases hs with e0|e1
  ·subst e0;have:ds= []:=a6.mp r.length;subst this;simpa using r
  ·subst e1;simpa using r
 ·refine .inl ⟨dx,dy,h,Qd,rx,ry,rh,?_,p⟩;unfold Tt at q;split at q
  ·exact absurd ⟨_,_,rfl,rfl⟩ ht
  ·exact q
def Tu:D->HD->KD->Prop:=λx h Q=>match x with
 | .int i=>Q (.int (-i)) h
 |_=>False
def dUn (f:D->HD->KD->Prop)(ta:TED):TED:=λσ h Q=>ta σ h λx h1=>f x h1 Q
theorem Hz {a:M5}{ta:TED}{pos:Pos}(ha:QE X a ta):QE X (.UnaryOp .USub a pos) (dUn Tu ta):=
 (Ex LF ha).imp λσ H Q ⟨IG,h,Qd,rs,rh,t,p⟩=>LE.bind rs rh t λd v h1 H1 k1 rs1 rh1 r1 q=>by
  cases d<;>first
   |exact False.elim q
   |exact⟨_,r1,p (.int _) _ _ _ k1 rh1 rfl q⟩
def OQ (K:G5)(tl:TE):TI:=λσ H R=>tl σ H λx H1=> ∃a,x= .ref a/\((∃xs,SqL K H1 a xs/\R (Itl K a) H1)\/ ∃xs,SqT K H1 a xs/\R (Itt K a) H1)
theorem OR {tg l:M5}{tl:TE}(hl:PE X l tl):PI X tg l (OQ X.K tl):=by
 intro pins s σ H R I h;refine thn (hl pins s σ H _ I h) λv s1 ⟨x,H1,I1,r1,q1⟩=> ?_
 obtain⟨a,e,q⟩:=q1;subst e;cases r1;rcases q with ⟨xs,hq,q⟩|⟨xs,hq,q⟩
 ·obtain⟨its,rv,p,hz⟩:=I1.list hq;refine bX p.isList ?_;refine⟨s1.heap.objs.size,[s1.heap.objs.size],_,_,H1,rfl,I1.kept (t':=s1.toks) λb o e=>P1 _ e,Vd a _,⟨_,T5 _ rfl,rfl,rfl⟩,λb hb=> ?_,q⟩;have e:b=s1.heap.objs.size:=by simpa using hb
  subst e;exact I1.fpOk (P2 _) (I1.hok.fresh (P2 _))
 ·obtain⟨its,rv,p,hz⟩:=I1.tuple hq;refine wpAny_pyIter_tuple (show s1.heap.IsTuple a its.toArray from p) ?_;refine⟨s1.heap.objs.size,[s1.heap.objs.size],_,_,H1,rfl,I1.kept (t':=s1.toks) λb o e=>P1 _ e,QB a _,⟨_,T5 _ rfl,rfl,rfl⟩,λb hb=> ?_,q⟩;have e:b=s1.heap.objs.size:=by simpa using hb
  subst e;exact I1.fpOk (P2 _) (I1.hok.fresh (P2 _))
def iS (te:TED):TID:=λσ h R=>te σ h λx h1=>match x with
 | .lst a=>R (λh=>h a) h1
 | .tup ds=>R (λ_=>some ds) h1
 | .scr ns=>R (λ_=>some (ns.map D.int)) h1
 |_=>False
variable {K:G5}
theorem Mn {H:Hp}{a:P5}{ns:G0 P4}(hs:Scr K H a ns):FT K H (λ_=>some (ns.map D.int)) (Itl K a):=λH' h' k rh ds' e i=>by
 cases e;have hs':Scr K H' a ns:=hs.elim (λ⟨o,z⟩=> .inl ⟨o,k.frz _ _ _ z⟩) .inr;refine⟨λd hd=> ?_,λhl=>⟨_,hs'.sq,by simpa using hl⟩⟩;obtain⟨v,e1,e2⟩:=(wR (K:=K) (H:=H') ns).get hd;refine⟨⟨_,v,hs'.sq,e1⟩,λx H'' ⟨eH,hx⟩=> ?_⟩;subst eH;have:=hx _ hs'.sq;rw [e1] at this;cases this;exact⟨.refl _,rh,e2⟩
theorem OS {te:TED}: ∀σ H R,LI K (iS te) σ H R->OQ K (LE K te) σ H R:=λσ H R ⟨IG,h,Rd,rs,rh,q,p⟩=>
 LE.bind rs rh q λd v h1 H1 k1 rs1 rh1 r1 q1=>by
  cases d<;>first
   |exact False.elim q1
   |skip
  ·rename_i ds;obtain⟨a,vs,e,hv,r⟩:=(show ∃a vs,v= .ref a/\H1 a=some (.tup vs)/\RelDs K H1 ds vs from r1);exact⟨a,e,.inr ⟨vs,SqT.of hv,p _ _ _ _ k1 rh1 (Mj hv r) q1⟩⟩
  ·rename_i a;obtain⟨e,vs,hv⟩:=(show v= .ref a/\ ∃vs,H1 a=some (.lst vs) from r1);exact⟨a,e,.inl ⟨vs,SqL.of hv,p _ _ _ _ k1 rh1 (Vo H1 a) q1⟩⟩
  ·rename_i ns;obtain⟨a,e,hS⟩:=(show ∃a,v= .ref a/\Scr K H1 a ns from r1);exact⟨a,e,.inl ⟨_,hS.sq,p _ _ _ _ k1 rh1 (Mn hS) q1⟩⟩
theorem OT {tg e:M5}{te:TED}(he:QE X e te):QI X tg e (iS te):=(OR he).imp OS
def NS:TSD:=λ_ _ _=>False
theorem OU {st:J9}:QS X st NS:=λ_ _ _ _ _ _ ⟨_,_,_,_,_,z,_⟩=>z.elim
structure Zs (mg:Str->P7 G1):Prop where
 len:mg "len" =none
 max:mg "max" =none
 min:mg "min" =none
 divmod:mg "divmod" =none
 all:mg "all" =none
 any:mg "any" =none
 repr:mg "repr" =none
 sum:mg "sum" =none
 sorted:mg "sorted" =none
 int:mg "int" =none
 tuple:mg "tuple" =none
 list:mg "list" =none
 set:mg "set" =none
 bool:mg "bool" =none
 isinstance:mg "isinstance" =none
 range:mg "range" =none
 zip:mg "zip" =none
 enumerate:mg "enumerate" =none
 reversed:mg "reversed" =none
def jh (P:S7)(w:N8)(K:G5)(mg:Str->P7 G1)(base:F4)(n:G3)(x:Str)(ps:G0 Str)(sp:RDn):Prop:=
 ∃ (g:P5) (gd:N9),FnOk P w K mg base CX0 n g gd ps (LSp K sp)/\Binds K gd ps []/\a5 K (.ref g)=true/\mg x=some (.ref g)
def PB:RDn:=λds h Q=> ∃ns,ds= [.scr ns]/\(∀a,h a=none)/\ns.length<=63/\ ∀h',Q (.bl true) h'
def Bm (mg:Str->P7 G1)(base:F4):Prop:= ∃bm ob,mg "__builtins__" =some (.ref bm)/\bm≠kJ/\base.get? bm=some ob/\ob.cls= .type "module" /\ob.dict=some kJ/\ob.data= .plain
def wD (K:G5):G0 (P5×P5):=LN.filterMap (nE K)
theorem TabK.mem {P:P5}(h:TabK K P): ∃c,(c,P)∈wD K:=let ⟨x,hx,c,e⟩:=h;⟨c,bE.mpr ⟨x,hx,e⟩⟩
theorem PC {P:S7}{w:N8}{mg mb:Str->P7 G1}{k:G3}{fa a:P5}{fd:N9}{x:Str}{II:G2}{vs:G0 G1}{ns:G0 P4}
 (KX:K.In II.heap)(hns:II.heap.Ns E3 mg)(hb:II.heap.Ns kJ mb)(hbb: ∀x:Str,x≠ "__name__" ->mb x=Q5 x)(hlim:II.heap.NoLimit)(hg:II.gens= #[])
 (ha:II.heap.get? a=some {cls:= .type "list",data:= .seq vs.toArray})(hi:U3 vs ns)(hl:ns.length<=63)(hr:Room k mW)
 (hbm:Bm mg II.heap)(F: ∀base:F4,K.In base->base.Ns E3 mg->Bm mg base->FnOk P w K mg base CX0 k fa fd [x] (LSp K PB))(hbind: ∀ (s:G2) (u:G1),qK s fd ⟨[u],[]⟩ [(x,u)])
 (hT: ∀p∈wD K,rB II.heap p.1 p.2/\II.heap.get? p.2=some (mC #[])/\K.lookup p.2=none):
 aL (S2 P w) mW (.call (.ref fa) ⟨[.ref a],[]⟩) (λr s'=>r= .ok (.ret (.bool true))/\OldK II.heap s'.heap/\s'.os=II.os/\iG s'.gens) II:=by
 have rv:=Vl hi;have lenV:=hi.length;have hz:ns.length<=sizeLine:=S4 hl (by decide);have hT': ∀b,b∈(wD K).map (·.2)-> ∃c,rB II.heap c b/\II.heap.get? b=some (mC #[])/\K.lookup b=none:=λb hb=>by
  obtain⟨p,hp,rfl⟩:=R8.mp hb;exact⟨p.1,hT p hp⟩
 have core: ∀H:Hp,Scr K H a ns->HOk P w H II.heap->(∀b u,H b=some u->(b=a/\K.lookup a=none/\ ∃o xs,u= .frz o (.lst xs))\/(b∈(wD K).map (·.2)/\u= .tbl #[]))->(∀b,b∈(wD K).map (·.2)->H b=some (.tbl #[]))->
  aL (S2 P w) mW (.call (.ref fa) ⟨[.ref a],[]⟩) (λr s'=>r= .ok (.ret (.bool true))/\OldK II.heap s'.heap/\s'.os=II.os/\iG s'.gens) II:=by
  intro H hS hok hA hTt;have noA: ∀ {b:P5} {o:Obj} {es:S9 DictEntry} {ep:G3},II.heap.get? b=some o->o.data= .dict es ep->H b=none:=λ{b o es ep} e d=>by
   cases q:H b with
   |none=>rfl
   |some u=>
    rcases hA b u q with ⟨rfl,_,_⟩|⟨z,_⟩
    ·rw [ha] at e;cases e;have d':Data.seq vs.toArray _=Data.dict es ep:=d;cases d'
    ·obtain⟨c,_,e2,_⟩:=hT' b z;rw [e2] at e;cases e;have d':Data.fields _=Data.dict es ep:=d;cases d'
  have nsK: ∀ {b:P5} {m:Str->P7 G1},II.heap.Ns b m->(RK II.heap H).Ns b m:=λ{b m} ⟨o,es,ep,e,d,r⟩=>⟨o,es,ep,Yh e (noA e d),d,r⟩
  have hKb:K.In (RK II.heap H):=λb o e=>Yh (KX b o e) (by
   cases q:H b with
   |none=>rfl
   |some u=>
    rcases hA b u q with ⟨rfl,z,_⟩|⟨z,_⟩
    ·rw [z] at e;cases e
    ·obtain⟨c,_,_,z2⟩:=hT' b z;rw [z2] at e;cases e)
  have hM:Mod K mg (RK II.heap H):=⟨hKb,nsK hns,⟨mb,nsK hb,hbb⟩,let ⟨mc,h1,h2⟩:=hlim;⟨mc,nsK h1,h2⟩⟩;have e0:Env0 P w K mg (RK II.heap H) mW [] II H:=⟨rfl,hM,λb o e=>Bq e,K0 (GL _ _),trivial,λb hb=>absurd (show b∈([]:G0 P5) from hb) (by simp),hok,.of_eq hg⟩;have hsp:LSp K PB [.ref a] H (λv _=>v= .bl true) (λ_ _ _=>False):=by
   refine⟨[.scr ns],⟨λ_=>none,λ_=>none⟩,λd _=>d= .bl true,⟨.ref a,[],rfl,⟨a,rfl,hS⟩,rfl⟩,⟨λb ds e=>(by cases e),λp hp=> ?_,λb c e=>(by cases e)⟩,⟨ns,rfl,λ_=>rfl,hl,λ_=>rfl⟩,?_⟩
   ·obtain⟨c,hc⟩:=hp.mem;exact⟨#[],hTt p (C8 (f:=(·.2)) hc),trivial,λpos cv e=>(by cases e)⟩
   ·intro d v h' H' _ _ r e;subst e;exact r
  have hBm:Bm mg (RK II.heap H):=by
   obtain⟨bm,ob,b1,b2,b3,b4,r⟩:=hbm;refine⟨bm,ob,b1,b2,Yh b3 ?_,b4,r⟩;cases q:H bm with
   |none=>rfl
   |some u=>
    rcases hA bm u q with ⟨rfl,_,_⟩|⟨z,_⟩
    ·rw [ha] at b3;cases b3;exact absurd (Value.type.inj b4) (by decide)
    ·obtain⟨c,_,e2,_⟩:=hT' bm z;rw [e2] at b3;cases b3;cases b4
  refine gH ((F _ hKb (nsK hns) hBm).run mW [] II H ⟨[.ref a],[]⟩ [.ref a] [.ref a] _ _ hr e0 (hbind II (.ref a)) (.cons rfl .nil) hsp) λr s' h=> ?_
  cases r with
  |error e=>exact False.elim h
  |ok fl=>
   cases fl with
   |next=>exact False.elim h
   |brk=>exact False.elim h
   |cont=>exact False.elim h
   |ret u=>
    obtain⟨v,H',os,bare,un,hok',r',q⟩:=h;have q':v= .bl true:=q;subst q';obtain rfl:u=gL true:=r';have one: ∀b o,II.heap.get? b=some o->s'.heap.get? b=some o\/(b∈(wD K).map (·.2)/\ ∃more,s'.heap.get? b=some (mC more)):=λb o e=>by
     cases q:H b with
     |none=>exact .inl (un.keep b o e q (by intro z;exact absurd (show b∈([]:G0 P5) from z) (by simp)) (by simp))
     |some u=>
      rcases hA b u q with ⟨rfl,_,ob,xs,rfl⟩|⟨z,rfl⟩
      ·have z2:=un.frzs _ ob _ q;obtain⟨e1,_⟩:=hok _ _ q;obtain⟨e2,_⟩:=hok' _ _ z2;rw [e] at e1;cases e1;exact .inl e2
      ·obtain⟨more,z2⟩:=un.tbls b _ q;exact .inr ⟨z,_,(show s'.heap.get? b=some _ from hok' b _ z2)⟩
    refine⟨rfl,⟨λb o e=> ?_,λb o e=> ?_⟩,os,bare⟩
    ·rcases one b o e with z|⟨z,more,z2⟩
     ·exact .inl z
     ·obtain⟨c,hc,e2,_⟩:=hT' b z;rw [e] at e2;cases e2;refine .inr (.inl ⟨(hc.tab e).isCodeTable,rfl,#[],more,rfl,?_⟩);rw [z2];simp
    ·rcases one b o e with z|⟨z,more,z2⟩
     ·exact⟨_,z⟩
     ·exact⟨_,z2⟩
 have nT:a ∉ (wD K).map (·.2):=λz=>by
  obtain⟨c,_,e2,_⟩:=hT' a z;rw [ha] at e2;cases e2
 have okT: ∀ {H:Hp} (b:P5),b∈(wD K).map (·.2)->ObjOk P w H II.heap b (.tbl #[]):=λb hb=>let ⟨_,_,e,_⟩:=hT' b hb;e
 cases hk:K.lookup a with
 |some o=>
  have e:=KX a o hk;rw [ha] at e;cases e;refine core (λb=>if b∈(wD K).map (·.2) then some (.tbl #[]) else none) (.inr ⟨_,vs.toArray,_,hk,rfl,rfl,rfl,by rw [S6,lenV];exact hz,by simpa using rv⟩) (λb u z=> ?_) (λb u z=> ?_) λb hb=>D4 hb
  ·by_cases hb:b∈(wD K).map (·.2)
   ·have z':=(D4 hb).symm.trans z;cases z';exact okT b hb
   ·have z':=(D5 hb).symm.trans z;cases z'
  ·by_cases hb:b∈(wD K).map (·.2)
   ·have z':=(D4 hb).symm.trans z;cases z';exact .inr ⟨hb,rfl⟩
   ·have z':=(D5 hb).symm.trans z;cases z'
 |none=>
  refine core (λb=>if b=a then some (.frz {cls:= .type "list",data:= .seq vs.toArray} (.lst (ns.map V.int))) else if b∈(wD K).map (·.2) then some (.tbl #[]) else none) (.inl ⟨{cls:= .type "list",data:= .seq vs.toArray},D4 rfl⟩) (λb u z=> ?_) (λb u z=> ?_) λb hb=> ?_
  ·by_cases hb:b=a
   ·have z':=(D4 hb).symm.trans z;cases z';subst hb;exact⟨ha,by rw [G8];exact hz,vs,_,rv,ha⟩
   ·have z':=(D5 hb).symm.trans z
    by_cases hb2:b∈(wD K).map (·.2)
    ·have z2:=(D4 hb2).symm.trans z';cases z2;exact okT b hb2
    ·have z2:=(D5 hb2).symm.trans z';cases z2
  ·by_cases hb:b=a
   ·have z':=(D4 hb).symm.trans z;cases z';exact .inl ⟨hb,hk,_,_,rfl⟩
   ·have z':=(D5 hb).symm.trans z
    by_cases hb2:b∈(wD K).map (·.2)
    ·have z2:=(D4 hb2).symm.trans z';cases z2;exact .inr ⟨hb2,rfl⟩
    ·have z2:=(D5 hb2).symm.trans z';cases z2
  ·have:b≠a:=λz=>nT (z ▸ hb)
   show (if b=a then _ else _)=_;rw [D5 this,D4 hb]
def Sk (q:S7)(K:G5):M7:=LN.all λx=>match nE K x with
 |some p=>(K.lookup p.2).isNone&&((uQ q).find? (λe=>e.name==x)).isSome
 |none=>true
theorem Mo {l:p7}{k:G3}{q:S7}{loose:G0 Str}{XP:(Str->P7 G1)->F4->Prop}{YP:N8->F4->Prop}{d:DefRec}{K:x5->G5}{x:Str}(hn:l.most=some 63)(hdf:d.params.defaults= [])(hr:Room k mW)
 (hY: ∀ (w:N8) (h:F4),YP w h->(K w.params).In h)(hB: ∀w:N8,Sk q (K w.params)=true)
 (F: ∀ (w:N8) (mg:Str->P7 G1) (fa:P5) (h:F4),(K w.params).In h->h.Ns E3 mg->mg d.name=some (.ref fa)->
  ∃fd:N9,(∀ (s:G2) (u:G1),qK s fd ⟨[u],[]⟩ [(x,u)])/\ ∀base:F4,(K w.params).In base->base.Ns E3 mg->Bm mg base->FnOk l.prog w (K w.params) mg base CX0 k fa fd [x] (LSp (K w.params) PB)):
 ID q loose XP YP l.row.toRowW d [] (λf vs=>v9 f vs):=by
 refine Att.attach_call hn hdf λw s₀ II mg mb fa o pm cd doc a vs ns G Y ho hd hcd hmg hobj hints hlen hg=> ?_
 have KX:=hY w _ Y;obtain⟨fd,hb,hF⟩:=F w mg fa _ KX G.T.g hmg;refine PC KX G.T.g G.T.b G.T.builtins G.T.nolimit hg hobj hints hlen hr G.T.bmain hF hb λp hp=> ?_
 obtain⟨x,hx,e⟩:=bE.mp hp;have z:=C3.mp (hB w) x hx;rw [e] at z;simp only [O1,Option.isNone_iff_eq_none] at z;obtain⟨dd,hdd⟩:=cX.mp z.2;have t:=x8 (c:=p.1) (P:=p.2) G.T KX hdd e;exact⟨t.1,t.2,z.1⟩
def zg:M5->M7
 | .Starred .. =>false
 |_=>true
theorem UE {e:M5}{es:G0 M5}{env:Env}(h:zg e=true):R4 (e::es) env=(false,E5 e env)::R4 es env:=by
 cases e<;>first|rfl|cases h
theorem qac {e:M5}{es:G0 M5}{te:TED}{t:TAD}(ha:QE X e te)(hr:QA X es t)(h:zg e=true:=by rfl):QA X (e::es) (zm te t):=Pq ha hr (UE h)
theorem UF {α:Type}{xs:G0 α}{i:P4}(h0:0<=i)(h1:i<xs.length): ∃x∈xs,atI xs i=some x:=by
 have hk:i.toNat<xs.length:=by omega
 have ek:i=((i.toNat:G3):P4):=by omega
 have z:=Yj (G7 hk);rw [<-ek] at z;exact⟨xs[i.toNat],C9 hk,z⟩
variable {h h':HD}{p:P5}{L:G0 D}
theorem Sub.both (s:Sub h h'):Sub (zZ h p L) (zZ h' p L):=⟨λa ds e=>(by
 by_cases q:a=p
 ·subst q;rw [jc] at e ⊢;exact e
 ·rw [wo q] at e ⊢;exact s a ds e),s.dc⟩
theorem Sub.newAt (s:Sub h h')(e:h' p=none):Sub h (zZ h' p L):=s.trans (.new e)
structure But (p:P5)(h h':HD):Prop where
 ls: ∀a ds,a≠p->h a=some ds->h' a=some ds
 dc: ∀a c,h.dc a=some c->h'.dc a=some c
instance {p:P5}{h h':HD}:CoeFun (But p h h') λ_=> ∀a ds,a≠p->h a=some ds->h' a=some ds:=⟨But.ls⟩
variable {q:P5}
theorem But.new (s:But p h h')(e:h' q=none):But p h (zZ h' q L):=⟨λa ds n z=>(by
 have:=s a ds n z;rw [wo (λw=>by subst w;rw [e] at this;cases this)];exact this),s.dc⟩
theorem But.put (s:But p h h'):But p h (zZ h' p L):=⟨λa ds n z=>(by rw [wo n];exact s a ds n z),s.dc⟩
theorem But.putNew (s:But p h h')(e:h q=none):But p h (zZ h' q L):=⟨λa ds n z=>(by
 rw [wo (λw=>by subst w;rw [e] at z;cases z)];exact s a ds n z),s.dc⟩
theorem But.sub (s:But p h h')(e:h' p=some L):Sub (zZ h p L) h':=⟨λa ds z=>(by
 by_cases q:a=p
 ·subst q;rw [jc] at z;cases z;exact e
 ·rw [wo q] at z;exact s a ds q z),s.dc⟩
theorem But.upd:But p h (zZ h p L):=⟨λa ds n z=>(by rw [wo n];exact z),λ_ _ e=>e⟩
theorem jT (e:h p=some L)(f:h q=none):q≠p:=λz=>by subst z;rw [e] at f;cases f
theorem ze {M:G0 D}(e:h p=some L)(f:h q=none):zZ h q M p=some L:=by rw [wo (λz=>by subst z;rw [e] at f;cases f)];exact e
theorem jx {a b:P5}{M:G0 D}(n:b≠a)(e:h b=some M):zZ h a L b=some M:=by rw [wo n];exact e
theorem PD {n:G3}{i:G3}{d:D}(h:((G6 n).map λ(k:G3)=>D.int (k:P4))[i]? =some d):i<n/\d= .int i:=by
 rw [D2] at h
 by_cases hi:i<n
 ·rw [O9 hi] at h;cases h;exact⟨hi,rfl⟩
 ·rw [J8 (by simpa using hi)] at h;cases h
theorem ju {t u:TSD}{E:EndsD}{σ:SD}(V:SD->HD->Prop)(first: ∀K:SD->HD->Prop,(∀IF h',V IF h'->K IF h')->t {E with nx:=K} σ h)(rest: ∀IF h',V IF h'->u E IF h'):WO t u E σ h:=first (u E) rest
theorem PF (b:But p h h')(e:h' q=none)(n:q≠p):h q=none:=by
 cases z:h q with
 |none=>rfl
 |some ds=>rw [b q ds n z] at e;cases e
def Nxt (E:EndsD)(V:SD->HD->Prop):EndsD:= {E with nx:=λIK h3=> ∃h4,Sub h4 h3/\V IK h4,ct:=λIK h3=> ∃h4,Sub h4 h3/\V IK h4,bk:=E.nx}
theorem Ys {ta:TAD}{g:TGD}{tb:TSD}{E:EndsD}{σ:SD}{h1:HD}(n:G3)(W:G3->SD->HD->Prop)(hn:n<1000000)
 (ht: ∀R:G0 D->HD->Prop,R [.int (n:P4)] h1->ta σ h R)(w0:W 0 σ h1)(done: ∀IF h',W n IF h'->E.nx IF h')
 (turn: ∀i IF h',i<n->W i IF h'->g (.int (i:P4)) IF h' λIH h2=>tb (Nxt E λIK h4=>i+1<=n/\W (i+1) IK h4) IH h2):Eg (iR1 ta) g tb E σ h:=by
 refine ht _ ⟨(n:P4),rfl,by omega,by omega,n,λi IF h'=>i<=n/\W i IF h',⟨M6 _,w0⟩,?_⟩;rintro i IF h' ⟨hi,w⟩;refine⟨_,rfl,by simp,λhl=> ?_,λd hd=> ?_⟩
 ·have:i=n:=by simp at hl;omega
  subst this;exact done _ _ w
 ·obtain⟨hi',e⟩:=PD hd;have hi2:i<n:=by omega
  subst e;exact turn i IF h' hi2 w
theorem ZO {g:TGD}{tb:TSD}{E:EndsD}{σ:SD}{h1:HD}{j:ItD}(ds:G0 D)(W:G3->SD->HD->Prop)
 (hj: ∀i IF h',W i IF h'->j h'=some ds)(w0:W 0 σ h1)(done: ∀IF h',W ds.length IF h'->E.nx IF h')
 (turn: ∀i d IF h',ds[i]? =some d->W i IF h'->g d IF h' λIH h2=>tb (Nxt E λIK h4=>i+1<=ds.length/\W (i+1) IK h4) IH h2):
 ∃ (n:G3) (W:G3->SD->HD->Prop),W 0 σ h1/\ ∀i IF h',W i IF h'-> ∃ds,j h'=some ds/\ds.length<=n/\(ds.length<=i->E.nx IF h')/\
  ∀d,ds[i]? =some d->g d IF h' λIH h2=>tb {E with nx:=λIK h3=> ∃h4,Sub h4 h3/\W (i+1) IK h4,ct:=λIK h3=> ∃h4,Sub h4 h3/\W (i+1) IK h4,bk:=E.nx} IH h2:=by
 refine⟨ds.length,λi IF h'=>i<=ds.length/\W i IF h',⟨M6 _,w0⟩,?_⟩;rintro i IF h' ⟨hi,w⟩;refine⟨ds,hj i IF h' w,P2 _,λhl=> ?_,λd hd=>turn i d IF h' hd w⟩;have:i=ds.length:=by omega
 subst this;exact done _ _ w
end L2
namespace L2
open PySem PySem.Spec PyProof.Rows PySem.SeqAt
mutual
def ToP (h:HD):D->A6->Prop
 |d,.none=>d= .non
 |d,.bool b=>d= .bl b
 |d,.int i=>d= .int i
 |d,.str x=>d= .str x
 |d,.tuple ps=> ∃ds,d= .tup ds/\ToPs h ds ps
 |d,.list ps=> ∃a ds,d= .lst a/\h a=some ds/\ToPs h ds ps
 |_,.dict _=>False
def ToPs (h:HD):G0 D->G0 A6->Prop
 |ds,[]=>ds= []
 |ds,p::ps=> ∃d r,ds=d::r/\ToP h d p/\ToPs h r ps
end
section
variable {X:Cx}{pins:G0 (P5×Obj)}{σ:St}{H:Hp}{s:G2}{h:HD}
mutual
theorem zo (I:Inv X pins σ H s)(rh:RelH X.K h H): ∀ {p:A6} {d:D} {v:V} {u:G1},ToP h d p->RelD X.K H d v->RelV v u-> ∃as,Reads s.heap u p as
 | .none,d,v,u,t,r,ru=>by cases (show d= .non from t);cases (show v= .non from r);cases (show u= .none from ru);exact⟨[],.none⟩
 | .bool b,d,v,u,t,r,ru=>by cases (show d= .bl b from t);cases (show v= .bl b from r);cases (show u= .bool b from ru);exact⟨[],.bool b⟩
 | .int i,d,v,u,t,r,ru=>by cases (show d= .int i from t);cases (show v= .int i from r);obtain⟨k,rfl⟩:=(show ∃t,u=dJ i t from ru);exact⟨[],.int i k⟩
 | .str x,d,v,u,t,r,ru=>by cases (show d= .str x from t);cases (show v= .str x from r);obtain⟨k,rfl⟩:=(show ∃t,u=mT x t from ru);exact⟨[],.str x k⟩
 | .tuple ps,d,v,u,t,r,ru=>by
  obtain⟨ds,e,ts⟩:=(show ∃ds,d= .tup ds/\ToPs h ds ps from t);subst e;obtain⟨a,vs,e,hH,rs⟩:=(show ∃a vs,v= .ref a/\H a=some (.tup vs)/\RelDs X.K H ds vs from r);subst e;cases (show u= .ref a from ru);obtain⟨its,rv,ht,_⟩:=I.tuple (SqT.of hH);obtain⟨o,ho,hc,n,hd⟩:=ht;obtain⟨as,q⟩:=reads_Ds I rh ts rs rv;exact⟨as,.tuple ho hc hd q⟩
 | .list ps,d,v,u,t,r,ru=>by
  obtain⟨a,ds,e,ha,ts⟩:=(show ∃a ds,d= .lst a/\h a=some ds/\ToPs h ds ps from t);subst e;obtain⟨vs,hH,rs⟩:=rh a ds ha;have e:v= .ref a:=r.1;subst e;cases (show u= .ref a from ru);obtain⟨its,rv,pl,_⟩:=I.list (SqL.of hH);obtain⟨o,ho,hc,n,hd⟩:=pl.isList;obtain⟨as,q⟩:=reads_Ds I rh ts rs rv;exact⟨a::as,.list ho hc hd q⟩
 | .dict _,_,_,_,t,_,_=>(show False from t).elim
theorem reads_Ds (I:Inv X pins σ H s)(rh:RelH X.K h H): ∀ {ps:G0 A6} {ds:G0 D} {vs:G0 V} {us:G0 G1},ToPs h ds ps->RelDs X.K H ds vs->Vals vs us-> ∃as,ReadsAll s.heap us ps as
 | [],ds,vs,us,t,r,rv=>by
  cases (show ds= [] from t);cases (show vs= [] from r);cases rv;exact⟨[],.nil⟩
 |p::ps,ds,vs,us,t,r,rv=>by
  obtain⟨d,dr,e,t1,t2⟩:=(show ∃d r,ds=d::r/\ToP h d p/\ToPs h r ps from t);subst e;obtain⟨v,vr,e,r1,r2⟩:=(show ∃v r,vs=v::r/\RelD X.K H d v/\RelDs X.K H dr r from r);subst e;cases rv with
  |cons ru rt=>
   obtain⟨as,q1⟩:=zo I rh t1 r1 ru;obtain⟨bs,q2⟩:=reads_Ds I rh t2 r2 rt;exact⟨as++bs,.cons q1 q2⟩
end
end
def eqE:RD2:=λx y h Q=>match x,y with
 | .int i,.int j=>Q (.bl (decide (i=j))) h
 | .bl i,.bl j=>Q (.bl (decide (i=j))) h
 | .str i,.str j=>Q (.bl (decide (i=j))) h
 |x,y=> ∃p q,ToP h x p/\ToP h y q/\g6 p=true/\g6 q=true/\Q (.bl (F7 p q)) h
def neE:RD2:=λx y h Q=>match x,y with
 | .int i,.int j=>Q (.bl (!decide (i=j))) h
 | .bl i,.bl j=>Q (.bl (!decide (i=j))) h
 | .str i,.str j=>Q (.bl (!decide (i=j))) h
 |x,y=> ∃p q,ToP h x p/\ToP h y q/\g6 p=true/\g6 q=true/\Q (.bl (!F7 p q)) h
section
variable {X:Cx}
def eqG:RD2:=λx y h Q=> ∃p q,ToP h x p/\ToP h y q/\g6 p=true/\g6 q=true/\Q (.bl (F7 p q)) h
def neG:RD2:=λx y h Q=> ∃p q,ToP h x p/\ToP h y q/\g6 p=true/\g6 q=true/\Q (.bl (!F7 p q)) h
theorem OV (hu:X.A.units+64<cLine):OpQ X (B0 .Eq) eqG:=by
 intro pins s σ H x y v u Q I rx ry h;obtain⟨dx,dy,h,Qd,r1,r2,rh,⟨p,q,t1,t2,s1,s2,qq⟩,post⟩:=h;obtain⟨as,a1⟩:=zo I rh t1 r1 rx;obtain⟨bs,b1⟩:=zo I rh t2 r2 ry;exact compareEq_shaped a1 b1 s1 s2 hu ⟨.bl _,H,I,rfl,post (.bl _) _ _ _ (.refl H) rh rfl qq⟩
theorem OW (hu:X.A.units+64<cLine):OpQ X (B0 .NotEq) neG:=by
 intro pins s σ H x y v u Q I rx ry h;obtain⟨dx,dy,h,Qd,r1,r2,rh,⟨p,q,t1,t2,s1,s2,qq⟩,post⟩:=h;obtain⟨as,a1⟩:=zo I rh t1 r1 rx;obtain⟨bs,b1⟩:=zo I rh t2 r2 ry;exact compareNe_shaped a1 b1 s1 s2 hu ⟨.bl _,H,I,rfl,post (.bl _) _ _ _ (.refl H) rh rfl qq⟩
theorem OpQ.or' {f:G1->G1->Sem G1}{r r' r2:RD2}(h:OpQ X f r)(h':OpQ X f r')(i: ∀x y hh Q,r2 x y hh Q->r x y hh Q\/r' x y hh Q):OpQ X f r2:=λpins s σ H x y v u Q I rx ry ⟨dx,dy,hd,Qd,r1,r2',rh,q,p⟩=>
 (i dx dy hd Qd q).elim (λz=>h pins s σ H x y v u Q I rx ry ⟨dx,dy,hd,Qd,r1,r2',rh,z,p⟩) λz=>h' pins s σ H x y v u Q I rx ry ⟨dx,dy,hd,Qd,r1,r2',rh,z,p⟩
theorem ZP (hu:X.A.units+64<cLine):OpQ X (B0 .Eq) eqE:=oq_eq.or' (OV hu) λx y h Q q=>by
 unfold eqE at q;split at q
 ·exact .inl q
 ·exact .inl q
 ·exact .inl q
 ·exact .inr q
theorem PH (hu:X.A.units+64<cLine):OpQ X (B0 .NotEq) neE:=oq_ne.or' (OW hu) λx y h Q q=>by
 unfold neE at q;split at q
 ·exact .inl q
 ·exact .inl q
 ·exact .inl q
 ·exact .inr q
def isN:D->M7
 | .non=>true
 |_=>false
def isV (neg:M7):RD2:=λx y h Q=>match y with
 | .non=>Q (.bl (neg !=isN x)) h
 | .bl c=>match x with
  | .bl b=>Q (.bl (neg !=(b==c))) h
  | .non=>Q (.bl neg) h
  |_=>False
 |_=>False
theorem Cu {K:G5}{H:Hp}{d:D}{v:V}(r:RelD K H d v):decide (v=V.non)=isN d:=by
 cases d with
 |non=>cases (show v= .non from r);rfl
 |bl b=>cases (show v= .bl b from r);rfl
 |int b=>cases (show v= .int b from r);rfl
 |str b=>cases (show v= .str b from r);rfl
 |tup ds=>obtain⟨a,vs,e,_⟩:=(show ∃a vs,v= .ref a/\H a=some (.tup vs)/\RelDs K H ds vs from r);subst e;rfl
 |lst a=>cases (show v= .ref a from r.1);rfl
 |dic x i=>obtain⟨a,e,_⟩:=(show ∃a,v= .ref a/\H a=some (.dK [(cI x,V.int i)]) from r);subst e;rfl
 |dct a=>cases (show v= .ref a from r);rfl
 |scr ns=>obtain⟨a,e,_⟩:=(show ∃a,v= .ref a/\Scr K H a ns from r);subst e;rfl
 |exc C=>obtain⟨x,o,vs,e,_⟩:=(show ∃x o vs,v= .ref x/\H x=some (.frz o (.own 0))/\o.cls= .ref C/\o.data= .fields vs from r);subst e;rfl
 |fn a=>cases (show v= .ref a from r.1);rfl
theorem Sl:OpQ X (B0 .Is) (isV false):=by
 intro pins s σ H x y v u Q I rx ry h;obtain⟨dx,dy,h,Qd,r1,r2,rh,q,post⟩:=h;cases dy with
 |non=>
  have e:y= .non:=r2;subst e;refine LH pins s σ H x .non v u Q I rx ry ⟨rfl,?_⟩;rw [Cu r1];have q':Qd (.bl (isN dx)) h:=by simpa [isV] using q
  exact post (.bl _) _ _ _ (.refl H) rh rfl q'
 |bl c=>
  have e:y= .bl c:=r2;subst e;cases (show u= .bool c from ry);cases dx<;>first
   |exact False.elim q
   |skip
  ·have e:x= .non:=r1;subst e;cases (show v= .none from rx);exact rC (by rfl) ⟨.bl false,H,I,rfl,post (.bl false) _ _ _ (.refl H) rh rfl q⟩
  ·rename_i b;have e:x= .bl b:=r1;subst e;cases (show v= .bool b from rx);have eb:(gL b==gL c)=(b==c):=by cases b<;>cases c<;>rfl
   refine rC (by rfl) ⟨.bl (b==c),H,I,by rw [eb];rfl,post (.bl (b==c)) _ _ _ (.refl H) rh rfl ?_⟩;simpa [isV] using q
 |_=>exact False.elim q
end
end L2
namespace HT
open PySem PySem.Spec PyProof.Rows
section
variable {prog:S7}{w:N8}{A:N3}{E:G1->G2->Prop}{s:G2}
theorem Vs (k:P4){vs:G0 G1}{ns:G0 P4}(hi:U3 vs ns)(j:G3)(h:j<ns.length): ∃t,vs[j]? =some (.int ns[j] t):=by
 induction hi generalizing j with
 |nil=>simp at h
 |cons n t r ih=>
  cases j with
  |zero=>exact⟨t,rfl⟩
  |succ j=>obtain⟨u,e⟩:=ih j (by simpa using h);exact⟨u,by simpa using e⟩
theorem UG {a:P5}{vs:G0 G1}{ns:G0 P4}{k:P4}{t:Tok}{Q:G1->G2->Prop}(ht:m9 s.heap a vs.toArray)(hi:U3 vs ns)(hk:k∈ns)(h:Q (.int (ns.idxOf k:G3) s.toks) {s with toks:=s.toks+1}):
 R7 (S2 prog w) A (call (.builtin "tuple.index") [.ref a,.int k t]) Q E s:=by
 refine O0 iP ht.typeIs rN ?_ (rD _ _);unfold Builtin.«tuple.index»;have hj:ns.idxOf k<ns.length:=dA.mpr hk;have hlen:=hi.length;show R7 _ _ (Z8 (.ref a) >>= _) _ _ s;refine wpAny_bind (nC ht ?_);have go:R7 (S2 prog w) A.in1 (forIn [0:min vs.toArray.size vs.toArray.size] ((none,()):P7 fM×Unit) λi __s=>
  match vs.toArray[i]? with
  |some y=>do
   let b <-eqBool y (.int k t)
   if b=true then do
    let r <-retInt ((i:G3):P4)
    pure (y3 (some r,()))
    else pure (V3 (none,()))
  |x=>pure (V3 (none,())))
  (λr s'=>r=(some (.done (.ret (.int (ns.idxOf k:G3) s.toks))),())/\s'= {s with toks:=s.toks+1}) E s:=by
  rw [cA];refine iW _ (λrest b s'=>b=(none,())/\s'=s/\ ∃i,i<=ns.idxOf k/\rest=uA i (ns.length-i)) _ ?_ ?_ _ _ ⟨rfl,rfl,0,M6 _,?_⟩
  ·rintro x rest b s' ⟨rfl,rfl,i,hil,e⟩;have hin:i<ns.length:=by omega
   obtain⟨n,hn⟩: ∃n,ns.length-i=n+1:=⟨ns.length-i-1,by omega⟩;rw [hn,i8] at e;injection e with e1 e2
   subst e1 e2;obtain⟨u,hu⟩:=Vs k hi x hin;have hu':vs.toArray[x]? =some (.int ns[x] u):=by simpa using hu
   rw [hu'];refine wpAny_bind (o6 ?_)
   by_cases hx:x=ns.idxOf k
   ·have he:(ns[x]==k)=true:=by subst hx;simpa using Z9 hj
    rw [D4 he];subst hx;refine wpAny_bind ?_;exact wpAny_bind (wpAny_mkInt (P3 (P3 ⟨rfl,rfl⟩)))
   ·have hlt:x<ns.idxOf k:=by omega
    have he: ¬ (ns[x]==k)=true:=by rw [ne_of_lt_idxOf hlt hin];exact R0
    rw [D5 he];refine P3 ⟨rfl,rfl,x+1,hlt,?_⟩;have:n=ns.length-(x+1):=by omega
    rw [this]
  ·rintro b s' ⟨rfl,rfl,i,hil,e⟩;have hin:i<ns.length:=by omega
   obtain⟨n,hn⟩: ∃n,ns.length-i=n+1:=⟨ns.length-i-1,by omega⟩;rw [hn,i8] at e;cases e
  ·simp [hlen]
 refine wpAny_bind (P3 (wpAny_bind (P3 (wpAny_bind (M9 go (λr s' e=> ?_) λ_ _ e=>e)))));obtain⟨rfl,rfl⟩:=e;exact P3 ⟨_,rfl,h⟩
end
section
variable {prog:S7}{w:N8}{A:N3}{E:G1->G2->Prop}{s:G2}
theorem QV {l:P5}{vs:G0 G1}{ns:G0 P4}{Q:G1->G2->Prop}(hl:m9 s.heap l vs.toArray)(hI:U3 vs ns)(h64:vs.length<64)
 (h: ∀ (h1 h':F4) (out:S9 G1) (ns':G0 P4) (c:G3),(∀b o,s.heap.get? b=some o->h1.get? b=some o)->(∀b o,h1.get? b=some o->h'.get? b=some o)->h'.get? h1.objs.size=some (a7 "list" out c)->
  U3 out.toList ns'->ns'.Perm ns->ns'.Pairwise (· <= ·)->Q (.ref h1.objs.size) {s with heap:=h'}):R7 (S2 prog w) A (call (.builtin "sorted") [.ref l]) Q E s:=by
 have few:vs.length<=sizeLine:=R9 (E6 h64 (by decide));obtain⟨o,at_,cl,n,dat⟩:=hl;refine cQ pP oI oJ (oK _) (wpAny_bind (P3 (wpAny_bind (wpAny_collect_seq l (.inr rfl) at_ cl dat (λh1 grown=> ?_) (by simpa using few)))));have fresh:(h1.push (a7 "list" vs.toArray 0)).get? h1.objs.size=some (a7 "list" vs.toArray 0):=T5 _ rfl;refine wpAny_bind (fV (wpAny_bind (L7 (O0 mD ⟨_,fresh,rfl⟩ lC (list_sort_tree fresh hI h64 λout ns' i1 i2 i3=>⟨_,rfl,?_⟩) (mE _)))) few);obtain⟨c,lies⟩:=sortedHeap_at (vs:=vs) (out:=out) fresh;refine P3 ⟨_,rfl,h h1 _ out ns' c grown (λb ob e=> ?_) lies i1 i2 i3⟩;have lt:=R1 e;rw [sortedHeap_old (T2 lt) (by rw [size_push'];exact bY lt)];exact P1 _ e
end
end HT
namespace L2
open PySem PySem.Spec PyProof.Rows
theorem WR: ∀ {ns:G0 P4} {us:G0 G1},Vals (ns.map V.int) us->U3 us ns
 | [],_,r=>by cases r;exact .nil
 |n::ns,_,r=>by
  cases r with
  |cons r t=>obtain⟨k,rfl⟩:=r;exact .cons n k (WR t)
theorem ZQ: ∀ {ns:G0 P4} {us:G0 G1},U3 us ns->Vals (ns.map V.int) us
 |_,_,.nil=> .nil
 |_,_,.cons n t r=> .cons ⟨t,rfl⟩ (ZQ r)
theorem jX {K:G5}{H:Hp}: ∀ {ns:G0 P4} {vs:G0 V},RelDs K H (ns.map D.int) vs->vs=ns.map V.int
 | [],_,h=>h
 |n::ns,vs,h=>by
  obtain⟨v,r,e,h1,h2⟩:=(show ∃v r,vs=v::r/\RelD K H (.int n) v/\RelDs K H (ns.map D.int) r from h);rw [e,jX h2,(show v= .int n from h1)];rfl
theorem ZR: ∀ {xs:G0 V} {us:G0 G1},xs.length=us.length->(∀ (i:G3) (x:V) (u:G1),xs[i]? =some x->us[i]? =some u->RelV x u)->Vals xs us
 | [],[],_,_=> .nil
 |x::xs,u::us,hl,h=> .cons (h 0 x u rfl rfl) (ZR (by simpa using hl) λi y w e1 e2=>h (i+1) y w (by simpa using e1) (by simpa using e2))
 | [],_::_,hl,_=>by simp at hl
 |_::_,[],hl,_=>by simp at hl
theorem WS (ns:G0 P4): ∀k,k<=ns.length->xA (λi=>ns.getD i 0) k=(ns.take k).sum
 |0,_=>by simp [xA]
 |k+1,h=>by
  have hk:k<ns.length:=by omega
  rw [xA,WS ns k (by omega),B8,G7 hk,p8,S1,G7 hk];simp
variable {X:Cx}
theorem Yt (hc:X.calm=true):CallR X (.builtin "sum") (λxs H Q=> ∃ (a:P5) (ns:G0 P4),xs= [.ref a]/\SqL X.K H a (ns.map V.int)/\Q (.int ns.sum) H):=by
 intro pins s σ H xs us Q I r h;obtain⟨a,ns,rfl,hS,q⟩:=h;obtain⟨u,rfl,ru⟩:=vK r;cases ru;obtain⟨its,rv,pl,hz⟩:=I.list hS;have hl:=pl.isList;have hlt:a<s.heap.objs.size:=by obtain⟨_,e,_⟩:=hl;exact R1 e
 have hi:=WR rv;have hn:its.length=ns.length:=hi.length;refine call_sum_walkAnyS (bX hl ?_);refine⟨s.heap.objs.size,_,_,_,_,_,_,λi=>ns.getD i 0,rfl,(Walks.list (A:=X.A.in1) (show X.A.in1.handled=none from I.ok.hd hc) s.heap.objs.size a (T2 hlt) its.toArray).toS,⟨⟨_,T5 _ rfl,rfl,rfl⟩,hl.push _⟩,?_,?_,λs' t' hm=> ?_⟩
 ·intro b hb;simp only [S5,A5,or_false] at hb;show b<(s.heap.push _).objs.size;rw [b9];rcases hb with e|e
  ·rw [e];exact A4 _
  ·rw [e];exact bY hlt
 ·intro i v hP;have e:its[i]? =some v:=by simpa using hP
  have hil:i<ns.length:=by rw [<-hn];exact(D6.mp e).1
  obtain⟨t,e2⟩:=HT.Vs 0 hi i hil;rw [e] at e2;cases e2;refine⟨t,?_⟩;show dJ ns[i] t=dJ (ns.getD i 0) t;rw [S1,G7 hil];rfl
 ·have e:xA (λi=>ns.getD i 0) its.toArray.size=ns.sum:=by
   rw [S6,hn,WS ns _ (P2 _),fN]
  rw [e];obtain⟨h',g',d',tk',o'⟩:=s';obtain⟨m1,m2,m3,m4,_⟩:=hm;simp only at m1 m2 m3 m4;subst m2 m3 m4;refine⟨.int ns.sum,H,I.kept (t':=tk') (λb o e=>m1 b o (λz=> ?_) (P1 _ e)),⟨_,rfl⟩,q⟩;rw [G9.mp z] at e;exact absurd (R1 e) (C4 _)
def OX:RDn:=λds h Q=> ∃ (a:P5) (ns:G0 P4),ds= [.lst a]/\h a=some (ns.map D.int)/\Q (.int ns.sum) (UB h a)
theorem PJ (hc:X.calm=true):vi X (.builtin "sum") OX:=(Yt hc).imp λxs H Q ⟨ds,h,Qd,r,rh,⟨a,ns,e,hd,q⟩,p⟩=>by
 subst e;obtain⟨v,e,r1⟩:=jw r;obtain⟨vs,hH,r2⟩:=rh a _ hd;have e1:v= .ref a:=r1.1;rw [jX r2] at hH;subst e e1;exact⟨a,ns,rfl,SqL.of hH,p (.int _) _ _ _ (.refl H) (rh.sub (Sub.drop h a)) rfl q⟩
def Cv:RDn:=λds h Q=> ∃ns:G0 P4,(ds= [.tup (ns.map D.int)]\/ ∃a,ds= [.lst a]/\h a=some (ns.map D.int))/\ns.length<64/\ ∀ (p:P5) (ns':G0 P4),h p=none->ns'.Perm ns->ns'.Pairwise (· <= ·)->Q (.lst p) (zZ h p (ns'.map D.int))
theorem call_sorted_ints:CallR X (.builtin "sorted") (λxs H Q=> ∃ (a:P5) (ns:G0 P4),xs= [.ref a]/\(SqL X.K H a (ns.map V.int)\/SqT X.K H a (ns.map V.int))/\ns.length<64/\ ∀ (p:P5) (ns':G0 P4),H p=none->ns'.Perm ns->ns'.Pairwise (· <= ·)->Q (.ref p) (upd H p (.lst (ns'.map V.int)))):=by
 intro pins s σ H xs us Q I r h;obtain⟨a,ns,rfl,hS,h64,q⟩:=h;obtain⟨u,rfl,ru⟩:=vK r;cases ru;have fin: ∀ (vs:G0 G1) (out:S9 G1) (ns':G0 P4),U3 out.toList ns'->ns'.Perm ns->ns'.Pairwise (· <= ·)->EP X pins σ Q (.ref (s.heap.objs.size+1)) {s with heap:=sortedAll s.heap vs out}:=λvs out ns' a1 a2 a3=>by
  obtain⟨e,he⟩:=sortedAll_at s.heap vs out;have hf:H (s.heap.objs.size+1)=none:=I.hok.fresh (pQ _);refine⟨.ref _,_,I.laid (t':=s.toks) (o:= .lst (ns'.map V.int)) (λb ob q=>sortedAll_old q) (pQ _) ?_,rfl,q _ ns' hf a2 a3⟩;refine⟨?_,out.toList,e,ZQ a1,he⟩;rw [G8,a2.length_eq];exact R9 (E6 h64 (by decide))
 rcases hS with hS|hS
 ·obtain⟨its,rv,pl,hz⟩:=I.list hS;have hi:=WR rv;exact sorted_ints pl.isList hi (by rw [hi.length];exact h64) (fin its)
 ·obtain⟨its,rv,pl,hz⟩:=I.tuple hS;have hi:=WR rv;refine HT.QV pl hi (by rw [hi.length];exact h64) λh1 h' out ns' c k1 k2 lies a1 a2 a3=> ?_
  have I1:=I.kept (t':=s.toks) k1;refine⟨.ref _,_,I1.laid (t':=s.toks) (o:= .lst (ns'.map V.int)) k2 (P2 _) ⟨?_,out.toList,c,ZQ a1,lies⟩,rfl,q _ ns' (I1.hok.fresh (P2 _)) a2 a3⟩;rw [G8,a2.length_eq];exact R9 (E6 h64 (by decide))
theorem PK:vi X (.builtin "sorted") Cv:=call_sorted_ints.imp λxs H Q ⟨ds,h,Qd,r,rh,⟨ns,hd,h64,q⟩,p⟩=>by
 have fin: ∀ (c:P5) (ns':G0 P4),H c=none->ns'.Perm ns->ns'.Pairwise (· <= ·)->Q (.ref c) (upd H c (.lst (ns'.map V.int))):=λc ns' hc a b=>
  p (.lst c) _ _ _ (.new hc) (rh.newL hc (wR ns')) ⟨rfl,_,ji⟩ (q c ns' (rh.free hc) a b)
 rcases hd with e|⟨a,e,ha⟩
 ·subst e;obtain⟨v,e,r1⟩:=jw r;obtain⟨a,vs,e1,hH,r2⟩:=(show ∃a vs,v= .ref a/\H a=some (.tup vs)/\RelDs X.K H (ns.map D.int) vs from r1);rw [jX r2] at hH;subst e e1;exact⟨a,ns,rfl,.inr (SqT.of hH),h64,fin⟩
 ·subst e;obtain⟨v,e,r1⟩:=jw r;obtain⟨vs,hH,r2⟩:=rh a _ ha;have e1:v= .ref a:=r1.1;rw [jX r2] at hH;subst e e1;exact⟨a,ns,rfl,.inl (SqL.of hH),h64,fin⟩
def Tv (to te:TED):TED:=λσ h Q=>to σ h λx h1=> ∃ns:G0 P4,x= .tup (ns.map D.int)/\te σ h1 λy h2=> ∃k:P4,y= .int k/\k∈ns/\Q (.int (ns.idxOf k:G3)) h2
section
variable {X:Cx}{o e i:M5}{to te ti:TED}{apos cpos:Pos}
theorem HA (ho:QE X o to)(he:QE X e te)(hbase:Y4 o "index" X.env (E5 o X.env)=E5 o X.env:=by rfl)
 (hfew:((K6 cpos (R4 [e] X.env)).all (λx=> !x.1)&&(iZ cpos (dQ [] X.env)).all (λx=>x.1.isSome)&&decide ([e].length+([]:G0 cK).length+(if ([]:G0 cK).isEmpty then 0 else 1)<30))=true:=by rfl)
 (hline:(apos.endLine==cpos.line)=true:=by rfl)(hs:R4 [e] X.env=(false,E5 e X.env)::R4 [] X.env:=by rfl)(hplain:(K6 cpos (R4 [] X.env)).any (·.1)=false:=by rfl):
 QE X (.Call (.Attribute o "index" apos) [e] [] cpos) (Tv to te):=by
 intro pins s σ H Q I h;obtain⟨IG,h,Qd,rs,rh,t,p⟩:=h;have h1:LE X.K to σ H (λv H1=> ∃ (ns:G0 P4) (a:P5) (h1:HD),v= .ref a/\H1 a=some (.tup (ns.map V.int))/\RelH X.K h1 H1/\Kept H H1/\te IG h1 λy h2=> ∃k:P4,y= .int k/\k∈ns/\Qd (.int (ns.idxOf k:G3)) h2):=
  ⟨IG,h,_,rs,rh,t,λd v h' H' k rh' rd ⟨ns,e,q⟩=>by
   subst e;obtain⟨a,vs,e1,hH,r2⟩:=(show ∃a vs,v= .ref a/\H' a=some (.tup vs)/\RelDs X.K H' (ns.map D.int) vs from rd);rw [jX r2] at hH;exact⟨ns,a,h',e1,hH,rh',k,q⟩⟩
 refine kP hbase hfew hline rfl (thn (ho pins s σ H _ I h1) λv s1 ⟨x,H1,I1,r1,ns,a,h1,ex,hH,rh1,k1,q1⟩=> ?_);subst ex;cases (show v= .ref a from r1);obtain⟨z,its,rv,ob,g1,g2,g3,g4⟩:=(show ObjOk X.prog X.w H1 s1.heap a (.tup (ns.map V.int)) from I1.hok a _ hH);refine⟨"tuple","tuple.index",sB,iP,sC,⟨ob,g1,g2⟩,λb e=>by cases e;exact⟨ob,g1,g3⟩,?_⟩;have h2:LA X.K (zm te ZJ) σ H1 (λus H2=> ∃ (k:P4) (h2:HD),us= [.int k]/\k∈ns/\RelH X.K h2 H2/\Kept H1 H2/\Qd (.int (ns.idxOf k:G3)) h2):=
  ⟨IG,h1,λds h2=> ∃k:P4,ds= [.int k]/\k∈ns/\Qd (.int (ns.idxOf k:G3)) h2,rs.mono k1,rh1,by
   show te IG h1 λy h2=> ∃k:P4,[y]= [.int k]/\k∈ns/\Qd (.int (ns.idxOf k:G3)) h2
   have:(λy h2=> ∃k:P4,y=D.int k/\k∈ns/\Qd (.int (ns.idxOf k:G3)) h2)=λy h2=> ∃k:P4,[y]= [D.int k]/\k∈ns/\Qd (.int (ns.idxOf k:G3)) h2:=by
    funext y h2;simp
   rw [<-this];exact q1,λds vs h' H' k rh' rd ⟨kk,e,hm,q⟩=>by
   subst e;obtain⟨v,e,r2⟩:=jw rd;cases (show v= .int kk from r2);exact⟨kk,h',e,hm,rh',k,q⟩⟩
 have hA:=(Pq he NL hs:QA X [e] (zm te ZJ)) cpos pins s1 σ H1 _ I1 h2;rw [hs] at hA ⊢;refine bF (by show (false||(K6 cpos (R4 [] X.env)).any (·.1))=false;rw [hplain]<;>rfl) (fZ ?_);refine thn hA λus s2 ⟨vs,H2,I2,r2,k,h2,ev,hm,rh2,k2,q2⟩=> ?_
 subst ev;obtain⟨u,rfl,ru⟩:=vK r2;obtain⟨tk,rfl⟩:=ru;obtain⟨its2,rv2,ht2,_⟩:=I2.tuple (SqT.of (k2.tup _ _ hH));exact HT.UG ht2 (WR rv2) hm ⟨.int _,H2,I2.tok _,⟨_,rfl⟩,p (.int _) _ _ _ (k1.trans k2) rh2 rfl q2⟩
end
def OY (ta:TA):TE:=λσ H Q=>ta σ H λvs H1=> ∃j:P4,vs= [.int j]/\ ∀p,H1 p=none->Q (.ref p) (upd H1 p (.rng 0 j))
variable {a:M5}{p pos:Pos}
theorem Mp {ta:TA}(hg:Gl X "range")(hm:X.mg "range" =none)(ha:PA X [a] ta)(hs:R4 [a] X.env= [(false,E5 a X.env)]:=by rfl):PE X (.Call (.Name "range" p) [a] [] pos) (OY ta):=by
 intro pins s σ H Q I h;refine Call_ (WI I hg hm u3 (Y1 (thn (ha pos pins s σ H _ I h) λus s1 ⟨vs,H1,I1,r1,q1⟩=> ?_) hs rfl));obtain⟨j,e,q⟩:=q1;subst e;obtain⟨u,rfl,ru⟩:=vK r1;obtain⟨t,rfl⟩:=ru;refine sV ⟨.ref s1.heap.objs.size,_,I1.laid (o:= .rng 0 j) (λb ob q=>P1 _ q) (P2 _) ?_,rfl,q _ (I1.hok.fresh (P2 _))⟩;exact⟨_,_,_,T5 _ rfl⟩
theorem Yu (hc:X.calm=true):CallR X (.type "list") (λxs H Q=> ∃ (p:P5) (n:G3),xs= [.ref p]/\H p=some (.rng 0 (n:P4))/\n<=1000/\ ∀l,H l=none->Q (.ref l) (upd H l (.lst ((G6 n).map λ(k:G3)=>V.int (k:P4))))):=by
 intro pins s σ H xs us Q I r h;obtain⟨p,n,rfl,hH,hn,q⟩:=h;obtain⟨u,rfl,ru⟩:=vK r;cases ru;obtain⟨t,u,v,e⟩:=(show ObjOk X.prog X.w H s.heap p (.rng 0 (n:P4)) from I.hok p _ hH);refine call_list_range (n:=n) (I.ok.hd hc) e (small_one (by decide) (by decide) (by omega) (by omega)) ?_ (S4 hn (by decide)) λh' tk acc c' kp e' hacc=> ?_
 ·rw [rQ];try (split<;>omega)
 ·refine⟨.ref s.heap.objs.size,_,I.laid (t':=tk) (o:= .lst ((G6 n).map λ(k:G3)=>V.int (k:P4))) (λb ob q=>kp b ob q) (P2 _) ?_,rfl,q _ (I.hok.fresh (P2 _))⟩;obtain⟨hs,hit⟩:=hacc;refine⟨by rw [G8,R6];exact R9 (jF hn),acc.toList,c',?_,by simpa using e'⟩;refine ZR (by simp [hs]) λi x u hx hu=> ?_
  rw [D2] at hx;have hi:i<n:=by
   by_cases z:i<n
   ·exact z
   ·rw [J8 (by simpa using z)] at hx;cases hx
  rw [O9 hi] at hx;cases hx;obtain⟨t,e⟩:=hit i u (by simpa using hu);exact⟨t,by rw [e];simp⟩
def OZ (ta:TAD):TED:=λσ h Q=>ta σ h λds h1=> ∃n:G3,ds= [.int (n:P4)]/\n<=1000/\ ∀p,h1 p=none->Q (.lst p) (zZ h1 p ((G6 n).map λ(k:G3)=>D.int (k:P4)))
theorem Vt {K:G5}{H:Hp}(f:G3->P4): ∀l:G0 G3,RelDs K H (l.map λk=>D.int (f k)) (l.map λk=>V.int (f k))
 | []=> .nil
 |k::l=> .cons rfl (Vt f l)
theorem Kept.drop2 {H:Hp}{p q:P5}{o o':HO}(hp:H p=none)(hq:upd H p o q=none):Kept H (upd (upd H p o) q o'):=(Kept.new hp).trans (.new hq)
variable {p2:Pos}
theorem Sm {ta:TAD}{pos2:Pos}(hc:X.calm=true)(hg:Gl X "list")(hm:X.mg "list" =none)(hg2:Gl X "range")(hm2:X.mg "range" =none)(ha:QA X [a] ta)(hs:R4 [a] X.env= [(false,E5 a X.env)]:=by rfl)
 (h1:R4 [.Call (.Name "range" p2) [a] [] pos2] X.env=(false,E5 (.Call (.Name "range" p2) [a] [] pos2) X.env)::R4 [] X.env:=by rfl)(h2:(K6 pos (R4 [] X.env)).any (·.1)=false:=by rfl):
 QE X (.Call (.Name "list" p) [.Call (.Name "range" p2) [a] [] pos2] [] pos) (OZ ta):=
 (Vj (Yu hc) hg hm (by decide +kernel) (yu (Mp hg2 hm2 ha hs) pa_nil h1) (by decide) (by decide) h1 h2).imp
  λσ H Q ⟨IG,h,Qd,rs,rh,t,post⟩=>LA.bind rs rh t λds vs h1 H1 k1 rs1 rh1 r1 ⟨n,e,hn,q⟩=>by
   subst e;obtain⟨v,e,r2⟩:=jw r1;cases (show v= .int (n:P4) from r2);refine⟨n,e,λc hcn=>⟨c,n,rfl,ji,hn,λl hl=> ?_⟩⟩;have rh2:=(rh1.new (o:= .rng 0 (n:P4)) hcn);exact post (.lst l) (.ref l) _ _ (k1.trans (.drop2 hcn hl)) (rh2.newL hl (Vt (λk=>(k:P4)) (G6 n))) ⟨rfl,_,ji⟩ (q l (rh2.free hl))
structure JE (X:Cx)(e:M5)(t:TED):Prop where
 to:QE X e t
structure JT (X:Cx)(e:M5)(t:TTD):Prop where
 to:QT X e t
structure JW (X:Cx)(e:M5)(t:TTD):Prop where
 to:QW X e t
structure JA (X:Cx)(e:G0 M5)(t:TAD):Prop where
 to:QA X e t
structure JS (X:Cx)(e:J9)(t:TSD):Prop where
 to:QS X e t
structure JSs (X:Cx)(e:G0 J9)(t:TSD):Prop where
 to:QSs X e t
structure JG (X:Cx)(e:M5)(t:TGD):Prop where
 to:QG X e t
structure JI (X:Cx)(tg e:M5)(t:TID):Prop where
 to:QI X tg e t
structure JO (X:Cx)(e:P7 M5)(t:TOD):Prop where
 to:QO X e t
section
variable {X:Cx}{a b c e:M5}{es rest:G0 M5}{ta tb tc te:TED}{t u:TAD}{tt tu:TTD}{pos:Pos}{f r r':RD2}
theorem jv (i:G3){x:Str}(hN:X.N[i]? =some x:=by rfl)(hv:Vis X.env.scope x:=by first|exact W5 rfl|exact bU (W5 rfl)|exact bU (bU rfl))(hd:(x==("__debug__" :Str))=false:=by decide)(hcd:(x==("__classdict__" :Str))=false:=by decide):JE X (.Name x pos) (Md i):=⟨qv (i:=i) (hN:=hN) (hv:=hv) (hd:=hd) (hcd:=hcd)⟩
theorem jz {i:P4}{j:G3}:JE X (.Constant (.int i) j pos) (dC (.int i)):=⟨Hc⟩
theorem jbl {i:M7}{j:G3}:JE X (.Constant (.bool i) j pos) (dC (.bl i)):=⟨qbl⟩
theorem Tw {j:G3}:JE X (.Constant .none j pos) (dC .non):=⟨Hd⟩
theorem QX {x:Str}{i:P4}{tk:Tok}(hg:Gl X x)(hm:X.mg x=some (.int i tk))(hd:(x==("__debug__" :Str))=false:=by decide):JE X (.Name x pos) (dC (.int i)):=⟨EQ (hg:=hg) (hm:=hm) (hd:=hd)⟩
theorem jop {op:tT}(ho:OpQ X (J3 op) f)(ha:JE X a ta)(hb:JE X b tb):JE X (.BinOp a op b pos) (dOp f ta tb):=⟨qop (ho:=ho) (ha:=ha.to) (hb:=hb.to)⟩
theorem Tx {op:iI}(ho:OpQ X (B0 op) f)(ha:JE X a ta)(hb:JE X b tb)(hm:W1 op b=false):JE X (.Compare a [op] [b] pos) (dOp f ta tb):=⟨He (ho:=ho) (ha:=ha.to) (hb:=hb.to) (hm:=hm)⟩
theorem Cw {op:iI}(ho:OpQ X (B0 op) f)(ha:JE X a ta)(hb:JE X b tb)(hm:W1 op b=false):JT X (.Compare a [op] [b] pos) (vS (dOp f ta tb)):=⟨ER (ho:=ho) (ha:=ha.to) (hb:=hb.to) (hm:=hm)⟩
theorem Aa {op op':iI}(ho:OpQ X (B0 op) r)(ho':OpQ X (B0 op') r')(ha:JE X a ta)(hb:JE X b tb)(hc:JE X c tc)(hm:iU [op,op'] [b,c]=false:=by with_unfolding_all rfl):JE X (.Compare a [op,op'] [b,c] pos) (ZK r r' ta tb tc):=⟨Ov (ho:=ho) (ho':=ho') (ha:=ha.to) (hb:=hb.to) (hc:=hc.to) (hm:=hm)⟩
theorem Cy {op op':iI}(ho:OpQ X (B0 op) r)(ho':OpQ X (B0 op') r')(ha:JE X a ta)(hb:JE X b tb)(hc:JE X c tc)(hm:iU [op,op'] [b,c]=false:=by with_unfolding_all rfl):JT X (.Compare a [op,op'] [b,c] pos) (vS (ZK r r' ta tb tc)):=⟨BV (ho:=ho) (ho':=ho') (ha:=ha.to) (hb:=hb.to) (hc:=hc.to) (hm:=hm)⟩
theorem Yv (ha:JE X a ta)(he: ∀whole,isTrue a X.env whole=(do let v <-whole;iH a.pos;aK [v] (uW v)):=by intro _;rfl):JT X a (vS ta):=⟨ES (ha:=ha.to) (he:=he)⟩
theorem Eh (ha:JT X a tt):JW X (.BoolOp .Or [a] pos) tt:=⟨Hf (ha:=ha.to)⟩
theorem Ei (ha:JT X a tt)(hb:JW X (.BoolOp .Or (b::rest) pos) tu):JW X (.BoolOp .Or (a::b::rest) pos) (FS tt tu):=⟨Hg (ha:=ha.to) (hb:=hb.to)⟩
theorem Yw (ha:JT X a tt):JT X (.UnaryOp .Not a pos) (QN tt):=⟨ET (ha:=ha.to)⟩
theorem GG {op:BoolOp}(ha:JE X a ta):JE X (.BoolOp op [a] pos) ta:=⟨Hh (ha:=ha.to)⟩
theorem Mq (ha:JE X a ta)(hb:JE X (.BoolOp .And (b::rest) pos) tb):JE X (.BoolOp .And (a::b::rest) pos) (Me ta tb):=⟨Hi (ha:=ha.to) (hb:=hb.to)⟩
theorem jor (ha:JE X a ta)(hb:JE X (.BoolOp .Or (b::rest) pos) tb):JE X (.BoolOp .Or (a::b::rest) pos) (EL ta tb):=⟨qor (ha:=ha.to) (hb:=hb.to)⟩
theorem HB (ha:JE X a ta):JE X (.UnaryOp .Not a pos) (Mf ta):=⟨Hj (ha:=ha.to)⟩
theorem jif {c:M5}(hc:JT X c tt)(ha:JE X a ta)(hb:JE X b tb):JE X (.IfExp c a b pos) (dIf tt ta tb):=⟨qif (hc:=hc.to) (ha:=ha.to) (hb:=hb.to)⟩
theorem Vu:JA X [] ZJ:=⟨NL⟩
theorem Cz {k:G3}(h:JA X es t):JE X (.Tuple es k pos) (EK t):=⟨Hk (h:=h.to)⟩
theorem PL (h:JA X es t):JE X (.List es pos) (Ol t):=⟨Hl (h:=h.to)⟩
end
section
variable {X:Cx}{st:J9}{sts:G0 J9}{t u:TSD}{e:M5}{te:TED}{pos:Pos}
theorem NT:JSs X [] UC:=⟨OB⟩
theorem wL (h1:JS X st t)(h2:JSs X sts u):JSs X (st::sts) (WO t u):=⟨Ca (h1:=h1.to) (h2:=h2.to)⟩
theorem zl (h1:JS X st t):JSs X [st] t:=⟨OC (h1:=h1.to)⟩
theorem Ze (he:JE X e te)(hs:Y6 e none pos.line X.env=pure false:=by rfl):JS X (.Expr e pos) (BW te):=⟨EX (he:=he.to) (hs:=hs)⟩
theorem yc (he:JE X e te):JS X (.Return (some e) pos) (RI te):=⟨Hm (he:=he.to)⟩
theorem Ty {c:M5}{a b:G0 J9}{tc:TTD}(hc:JT X c tc)(ha:JSs X a t)(hb:JSs X b u):JS X (.If c a b pos) (Mh tc t u):=⟨Hn (hc:=hc.to) (ha:=ha.to) (hb:=hb.to)⟩
variable {i:G3}{x:Str}
theorem HE {pos':Pos}(hN:X.N.Nodup)(hi:X.N[i]? =some x)(hx:Loc X.env.scope x)(he:JE X e te)(hs:Y6 e (some (.Name x pos')) pos.line X.env=pure false:=by rfl)(hf:X.fn x=true\/X.env.scope.names.lookup x=some .local:=by first|exact .inl rfl|exact .inr rfl|assumption):JS X (.Assign [.Name x pos'] e pos) (Mi i te):=⟨Ho (hN:=hN) (hi:=hi) (hx:=hx) (he:=he.to) (hs:=hs) (hf:=hf)⟩
theorem CA (hN:X.N.Nodup)(hi:X.N[i]? =some x)(hx:Loc X.env.scope x)(hf:X.fn x=true\/X.env.scope.names.lookup x=some .local:=by first|exact .inl rfl|exact .inr rfl|assumption):JG X (.Name x pos) (gN i):=⟨Cb (hN:=hN) (hi:=hi) (hx:=hx) (hf:=hf)⟩
theorem NU {j:G3}{y:Str}{p1 p2:Pos}{k:G3}(hc:X.calm=true)(hN:X.N.Nodup)(hi:X.N[i]? =some x)(hj:X.N[j]? =some y)(hx:Loc X.env.scope x)(hy:Loc X.env.scope y)(hf:X.fn x=true\/X.env.scope.names.lookup x=some .local:=by first|exact .inl rfl|exact .inr rfl|assumption)(hf2:X.fn y=true\/X.env.scope.names.lookup y=some .local:=by first|exact .inl rfl|exact .inr rfl|assumption):JG X (.Tuple [.Name x p1,.Name y p2] k pos) (gT2 i j):=⟨OD (hc:=hc) (hN:=hN) (hi:=hi) (hj:=hj) (hx:=hx) (hy:=hy) (hf:=hf) (hf2:=hf2)⟩
theorem Sn {tg:M5}{g:TGD}(he:JE X e te)(hg:JG X tg g)(hs:cV [tg] e pos.line X.env=pure false:=by rfl)(hsw:cW [tg] e X.env=pure none:=by rfl)(h1:(dG [tg] X.env).map (·.2)= [fJ tg X.env]:=by rfl):JS X (.Assign [tg] e pos) (EU te g):=⟨Hq (he:=he.to) (hg:=hg.to) (hs:=hs) (hsw:=hsw) (h1:=h1)⟩
theorem HF {j:G3}{y:Str}{a b:M5}{ta:TAD}{px py pt:Pos}{kt k2 pt2}(hc:X.calm=true)(hN:X.N.Nodup)(hi:X.N[i]? =some x)(hj:X.N[j]? =some y)(hij:i≠j)(hx:X.env.scope.names.lookup x=some .local)(hy:X.env.scope.names.lookup y=some .local)(ha:JA X [a,b] ta)(hw:cW [.Tuple [.Name x px,.Name y py] kt pt] (.Tuple [a,b] k2 pt2) X.env=pure (some [x,y]))(hs:cV [.Tuple [.Name x px,.Name y py] kt pt] (.Tuple [a,b] k2 pt2) pos.line X.env=pure false:=by rfl):JS X (.Assign [.Tuple [.Name x px,.Name y py] kt pt] (.Tuple [a,b] k2 pt2) pos) (EV i j ta):=⟨Hr (hc:=hc) (hN:=hN) (hi:=hi) (hj:=hj) (hij:=hij) (hx:=hx) (hy:=hy) (ha:=ha.to) (hw:=hw) (hs:=hs)⟩
end
section
variable {X:Cx}{tg e iter elt:M5}{te:TED}{ti:TID}{g:TGD}{tb:TSD}{tt:TTD}{pos:Pos}{ta:TAD}{scope:U2}{js:G0 G3}{ifs:G0 M5}
theorem CB (he:JE X e te):JI X tg e (iL te):=⟨Cf (he:=he.to)⟩
theorem So {p:Pos}{a:M5}(hg:Gl X "range")(hm:X.mg "range" =none)(ha:JA X [a] ta)(hs:R4 [a] X.env= [(false,E5 a X.env)]:=by rfl):JI X tg (.Call (.Name "range" p) [a] [] pos) (iR1 ta):=⟨Sa (hg:=hg) (hm:=hm) (ha:=ha.to) (hs:=hs)⟩
theorem CC {body:G0 J9}(hp:mU (S2 X.prog X.w) X.A X.env X.xe)(hc:X.calm=true)(hi:JI X tg iter ti)(hg:JG X tg g)(hb:JSs X body tb)(hs: ∀x,M0 iter X.env x=pure x:=by intro _;rfl):JS X (.For tg iter body [] pos) (Eg ti g tb):=⟨Hs (hp:=hp) (hc:=hc) (hi:=hi.to) (hg:=hg.to) (hb:=hb.to) (hs:=hs)⟩
theorem yA:PTs X [] (LT X.K vd):=Cg
theorem PM {c:M5}(hc:JT X c tt):PTs X [c] (LT X.K tt):=Ch (hc:=hc.to)
theorem jlc {i:G3}{x:Str}{p:Pos}(hc:X.calm=true)(S:BlockOk X scope js)(hi:JI X (.Name x p) iter ti)(hj:i∈js)(hN:X.N.Nodup)(hx:X.N[i]? =some x)(hl:scope.names.lookup x=some .local\/scope.names.lookup x=some .cell)(ht: ∀X',jf X scope X'->PTs X' ifs (LT X'.K tt))(he: ∀X',jf X scope X'->JE X' elt te)(hs: ∀x,M0 iter X.env x=pure x:=by intro _;rfl):JE X (.ListComp elt [⟨.Name x p,iter,ifs,0⟩] scope pos) (WP (bN i) js ti tt te):=⟨qlc (hc:=hc) (S:=S) (hi:=hi.to) (hj:=hj) (hN:=hN) (hx:=hx) (hl:=hl) (ht:=ht) (he:=λX' hX=>(he X' hX).to) (hs:=hs)⟩
theorem HG {i j:G3}{x y:Str}{p1 p2 p3:Pos}{k:G3}(hc:X.calm=true)(S:BlockOk X scope js)(hi:JI X (.Tuple [.Name x p1,.Name y p2] k p3) iter ti)(hj:i∈js)(hj2:j∈js)(hij:i≠j)(hN:X.N.Nodup)(hx:X.N[i]? =some x)(hy:X.N[j]? =some y)(hl:scope.names.lookup x=some .local\/scope.names.lookup x=some .cell)(hl2:scope.names.lookup y=some .local\/scope.names.lookup y=some .cell)(ht: ∀X',jf X scope X'->PTs X' ifs (LT X'.K tt))(he: ∀X',jf X scope X'->JE X' elt te)(hs: ∀x,M0 iter X.env x=pure x:=by intro _;rfl):JE X (.ListComp elt [⟨.Tuple [.Name x p1,.Name y p2] k p3,iter,ifs,0⟩] scope pos) (WP (b2 i j) js ti tt te):=⟨Ht (hc:=hc) (S:=S) (hi:=hi.to) (hj:=hj) (hj2:=hj2) (hij:=hij) (hN:=hN) (hx:=hx) (hy:=hy) (hl:=hl) (hl2:=hl2) (ht:=ht) (he:=λX' hX=>(he X' hX).to) (hs:=hs)⟩
end
section
variable {X:Cx}{k:G3}{f:P5}{fd:N9}{ps:G0 Str}{spd:RDn}{x:Str}{p pos:Pos}{e:M5}{es:G0 M5}{t:TAD}
theorem Sr (F:FnOk X.prog X.w X.K X.mg X.base CX0 k f fd ps (LSp X.K spd))(hr:Room k X.A)(hg:Gl X x)(hm:X.mg x=some (.ref f))(hk:a5 X.K (.ref f)=true)(hb:Binds X.K fd ps [])(ha:JA X (e::es) t)(hdb:(x==("__debug__" :Str))=false:=by decide)(he:R4 (e::es) X.env=(false,E5 e X.env)::R4 es X.env:=by rfl)(hpl:(K6 pos (R4 es X.env)).any (·.1)=false:=by rfl):JE X (.Call (.Name x p) (e::es) [] pos) (dCB spd t):=⟨Sb (F:=F) (hr:=hr) (hg:=hg) (hm:=hm) (hk:=hk) (hb:=hb) (ha:=ha.to) (hdb:=hdb) (he:=he) (hpl:=hpl)⟩
theorem wT {id:V8}{r:RDn}(hc:vi X (.builtin id) r)(hg:Gl X x)(hm:X.mg x=none)(hv:Q5 x=some (.builtin id))(ha:JA X (e::es) t)(hn:x≠ "__name__" :=by decide)(hdb:(x==("__debug__" :Str))=false:=by decide)(he:R4 (e::es) X.env=(false,E5 e X.env)::R4 es X.env:=by rfl)(hpl:(K6 pos (R4 es X.env)).any (·.1)=false:=by rfl):JE X (.Call (.Name x p) (e::es) [] pos) (dCB r t):=⟨OG (hc:=hc) (hg:=hg) (hm:=hm) (hv:=hv) (ha:=ha.to) (hn:=hn) (hdb:=hdb) (he:=he) (hpl:=hpl)⟩
theorem zH {T:V8}{r:RDn}(hc:vi X (.type T) r)(hg:Gl X x)(hm:X.mg x=none)(hv:Q5 x=some (.type T))(ha:JA X (e::es) t)(hn:x≠ "__name__" :=by decide)(hdb:(x==("__debug__" :Str))=false:=by decide)(he:R4 (e::es) X.env=(false,E5 e X.env)::R4 es X.env:=by rfl)(hpl:(K6 pos (R4 es X.env)).any (·.1)=false:=by rfl):JE X (.Call (.Name x p) (e::es) [] pos) (dCB r t):=⟨Cj (hc:=hc) (hg:=hg) (hm:=hm) (hv:=hv) (ha:=ha.to) (hn:=hn) (hdb:=hdb) (he:=he) (hpl:=hpl)⟩
end
section
variable {X:Cx}{iter elt:M5}{te:TED}{ti:TID}{tt:TTD}{pos spos:Pos}{scope:U2}{js:G0 G3}{ifs:G0 M5}
theorem Ab {i k:G3}{x y:Str}{p py:Pos}(hc:X.calm=true)(hN:X.N.Nodup)(hk:X.N[k]? =some y)(hy:Loc X.env.scope y)(S:BlockOk X scope js)(hi:JI X (.Name x p) iter ti)(hj:i∈js)(hx:X.N[i]? =some x)(hl:scope.names.lookup x=some .local\/scope.names.lookup x=some .cell)(ht: ∀X',jf X scope X'->PTs X' ifs (LT X'.K tt))(he: ∀X',jf X scope X'->JE X' elt te)(hsw:Y6 (.ListComp elt [⟨.Name x p,iter,ifs,0⟩] scope pos) (some (.Name y py)) spos.line X.env=pure true:=by rfl)(hf:X.fn y=true\/X.env.scope.names.lookup y=some .local:=by first|exact .inl rfl|exact .inr rfl|assumption)(hs: ∀x,M0 iter X.env x=pure x:=by intro _;rfl):JS X (.Assign [.Name y py] (.ListComp elt [⟨.Name x p,iter,ifs,0⟩] scope pos) spos) (Mi k (WP (bN i) js ti tt te)):=⟨OH (hc:=hc) (hN:=hN) (hk:=hk) (hy:=hy) (S:=S) (hi:=hi.to) (hj:=hj) (hx:=hx) (hl:=hl) (ht:=ht) (he:=λX' hX=>(he X' hX).to) (hsw:=hsw) (hf:=hf) (hs:=hs)⟩
end
section
variable {X:Cx}{iter iter' elt:M5}{te:TED}{ti ti':TID}{tt tt':TTD}{pos:Pos}{scope:U2}{js:G0 G3}{ifs ifs':G0 M5}
theorem HH {i i':G3}{x y:Str}{p py:Pos}(hc:X.calm=true)(S:BlockOk X scope js)(hi:JI X (.Name x p) iter ti)(hj:i∈js)(hj':i'∈js)(hne:i≠i')(hN:X.N.Nodup)(hx:X.N[i]? =some x)(hy:X.N[i']? =some y)(hl:scope.names.lookup x=some .local\/scope.names.lookup x=some .cell)(hl':scope.names.lookup y=some .local\/scope.names.lookup y=some .cell)(ht: ∀X',jf X scope X'->PTs X' ifs (LT X'.K tt))(hi': ∀X',jf X scope X'->JI X' (.Name y py) iter' ti')(ht': ∀X',jf X scope X'->PTs X' ifs' (LT X'.K tt'))(he: ∀X',jf X scope X'->JE X' elt te)(hs: ∀x,M0 iter X.env x=pure x:=by intro _;rfl)(hs': ∀env x,M0 iter' env x=pure x:=by intro _ _;rfl):JE X (.ListComp elt [⟨.Name x p,iter,ifs,0⟩,⟨.Name y py,iter',ifs',0⟩] scope pos) (Mk (bN i) js ti tt i' ti' tt' te):=⟨Hu (hc:=hc) (S:=S) (hi:=hi.to) (hj:=hj) (hj':=hj') (hne:=hne) (hN:=hN) (hx:=hx) (hy:=hy) (hl:=hl) (hl':=hl') (ht:=ht) (hi':=λX' hX=>(hi' X' hX).to) (ht':=ht') (he:=λX' hX=>(he X' hX).to) (hs:=hs) (hs':=hs')⟩
end
section
variable {X:Cx}{a b e:M5}{ta tb te:TED}{pos p2:Pos}
theorem jix (ha:JE X a ta)(hb:JE X b tb)(hs:Yk b):JE X (.Subscript a b pos) (dOp ixD ta tb):=⟨qix (ha:=ha.to) (hb:=hb.to) (hs:=hs)⟩
end
theorem PN {ta:TED}{T:V8}{t:Str}(hT:T∈ ["tuple","int","bool","list","str"])(hg:Gl X "isinstance")(hm:X.mg "isinstance" =none)(hg2:Gl X t)(hm2:X.mg t=none)(hv:Q5 t=some (.type T))(ha:JE X a ta)(hn:t≠ "__name__" :=by decide)(hd:(t==("__debug__" :Str))=false:=by decide)(h1:R4 [a,.Name t p2] X.env=(false,E5 a X.env)::R4 [.Name t p2] X.env:=by rfl)(h2:(K6 pos (R4 [.Name t p2] X.env)).any (·.1)=false:=by rfl):JE X (.Call (.Name "isinstance" p) [a,.Name t p2] [] pos) (dIs T ta):=⟨Si (hT:=hT) (hg:=hg) (hm:=hm) (hg2:=hg2) (hm2:=hm2) (hv:=hv) (ha:=ha.to) (hn:=hn) (hd:=hd) (h1:=h1) (h2:=h2)⟩
section
variable {X:Cx}{o e i:M5}{to te ti:TED}{apos cpos pos:Pos}
theorem Ss (ho:JE X o to)(he:JE X e te)(hbase:Y4 o "append" X.env (E5 o X.env)=E5 o X.env:=by rfl)(hfew:((K6 cpos (R4 [e] X.env)).all (λx=> !x.1)&&(iZ cpos (dQ [] X.env)).all (λx=>x.1.isSome)&&decide ([e].length+([]:G0 cK).length+(if ([]:G0 cK).isEmpty then 0 else 1)<30))=true:=by rfl)(hline:(apos.endLine==cpos.line)=true:=by rfl)(hs:R4 [e] X.env=(false,E5 e X.env)::R4 [] X.env:=by rfl)(hplain:(K6 cpos (R4 [] X.env)).any (·.1)=false:=by rfl):JE X (.Call (.Attribute o "append" apos) [e] [] cpos) (Ts to te):=⟨Hx (ho:=ho.to) (he:=he.to) (hbase:=hbase) (hfew:=hfew) (hline:=hline) (hs:=hs) (hplain:=hplain)⟩
theorem NV (ho:JE X o to)(hi:JE X i ti)(ha: ∀v,fJ (.Subscript o i pos) X.env v=(do
 let ov <-aK [v] (E5 o X.env)
 let iv <-aK [v,ov] (E5 i X.env)
 iH pos
 aK [v,ov,iv] (qJ ov iv v)
 xG [v,ov,iv] []):=by intro _;rfl):JG X (.Subscript o i pos) (OM to ti):=⟨ON (ho:=ho.to) (hi:=hi.to) (ha:=ha)⟩
end
theorem jpt {e:M5}{t:TTD}(h:JW X e t):JT X e t:=⟨qpt (h:=h.to)⟩
variable {te:TED}
theorem PP {e:M5}(he:JE X e te):JO X (some e) (OO te):=⟨Cr (he:=he.to)⟩
theorem Ac {e:M5}{lo hi:P7 M5}{tl th:TOD}(he:JE X e te)(hl:JO X lo tl)(hu:JO X hi th):JE X (.Subscript e (.Slice lo hi none p2) pos) (dSl te tl th):=⟨OP (he:=he.to) (hl:=hl.to) (hu:=hu.to)⟩
theorem Tz {ta:TED}(ha:JE X a ta):JE X (.UnaryOp .USub a pos) (dUn Tu ta):=⟨Hz (ha:=ha.to)⟩
theorem zE {tg e:M5}(he:JE X e te):JI X tg e (iS te):=⟨OT (he:=he.to)⟩
theorem XH {st:J9}:JS X st NS:=⟨OU⟩
theorem jac {e:M5}{es:G0 M5}{t:TAD}(ha:JE X e te)(hr:JA X es t)(h:zg e=true:=by rfl):JA X (e::es) (zm te t):=⟨qac (ha:=ha.to) (hr:=hr.to) (h:=h)⟩
section
variable {X:Cx}{o e i:M5}{to te ti:TED}{apos cpos:Pos}
theorem HI (ho:JE X o to)(he:JE X e te)(hbase:Y4 o "index" X.env (E5 o X.env)=E5 o X.env:=by rfl)(hfew:((K6 cpos (R4 [e] X.env)).all (λx=> !x.1)&&(iZ cpos (dQ [] X.env)).all (λx=>x.1.isSome)&&decide ([e].length+([]:G0 cK).length+(if ([]:G0 cK).isEmpty then 0 else 1)<30))=true:=by rfl)(hline:(apos.endLine==cpos.line)=true:=by rfl)(hs:R4 [e] X.env=(false,E5 e X.env)::R4 [] X.env:=by rfl)(hplain:(K6 cpos (R4 [] X.env)).any (·.1)=false:=by rfl):JE X (.Call (.Attribute o "index" apos) [e] [] cpos) (Tv to te):=⟨HA (ho:=ho.to) (he:=he.to) (hbase:=hbase) (hfew:=hfew) (hline:=hline) (hs:=hs) (hplain:=hplain)⟩
end
theorem Su {ta:TAD}{pos2:Pos}(hc:X.calm=true)(hg:Gl X "list")(hm:X.mg "list" =none)(hg2:Gl X "range")(hm2:X.mg "range" =none)(ha:JA X [a] ta)(hs:R4 [a] X.env= [(false,E5 a X.env)]:=by rfl)(h1:R4 [.Call (.Name "range" p2) [a] [] pos2] X.env=(false,E5 (.Call (.Name "range" p2) [a] [] pos2) X.env)::R4 [] X.env:=by rfl)(h2:(K6 pos (R4 [] X.env)).any (·.1)=false:=by rfl):JE X (.Call (.Name "list" p) [.Call (.Name "range" p2) [a] [] pos2] [] pos) (OZ ta):=⟨Sm (hc:=hc) (hg:=hg) (hm:=hm) (hg2:=hg2) (hm2:=hm2) (ha:=ha.to) (hs:=hs) (h1:=h1) (h2:=h2)⟩
section
variable {P:S7}{w:N8}{K:G5}{mg:Str->P7 G1}{base:F4}
theorem Fun.okJ {x qual:Str}{st:J9}{f:P5}{fd:N9}{N ps:G0 Str}{k:G3}{spd:RDn}(F:Fun K x qual st f fd)(S:FnScope N ps (jd st))(len: ∀ds h Q,spd ds h Q->ds.length=ps.length)
 (tb:TSD)(hbody: ∀ (cdv:G1) (A:N3) (outer:G0 Env) (s:G2) (H:Hp) (E:XK),Room k (A.deeper (gU qual (jd st) s.heap.objs.size f cdv))->JSs (RT CX0 P w K mg base N qual (jd st) f cdv A outer s H E).nox (zS st) tb)
 (read: ∀ds h Q,spd ds h Q->tb (RJ Q) (wS N ds) h):FnOk P w K mg base CX0 (k+1) f fd ps (LSp K spd):=F.okD S len tb (λcdv A outer s H E hr=>(hbody cdv A outer s H E hr).to) read
end
def yB (r:G0 P4):D:= .tup (r.map D.int)
def jC (T:G0 (G0 P4)):D:= .tup (T.map yB)
def UH (n:G3)(r:G0 P4):Prop:=r.length=n/\ ∀x∈r,0<=x/\x<=1000000
def GoodTab (n:G3)(T:G0 (G0 P4)):Prop:=T.length=n/\ ∀r∈T,UH n r
structure Sq (n e:G3)(T:G0 (G0 P4)):Prop where
 len:T.length=n
 row: ∀r∈T,r.length=n
 nn: ∀r∈T,∀x∈r,0<=x
 bit: ∀r∈T,∀x∈r,x<2^e
variable {n:G3}{T:G0 (G0 P4)}
theorem GoodTab.sq (g:GoodTab n T):Sq n 20 T:=⟨g.1,λr hr=>(g.2 r hr).1,λr hr x hx=>((g.2 r hr).2 x hx).1,λr hr x hx=>Int.lt_of_le_of_lt ((g.2 r hr).2 x hx).2 (by decide)⟩
variable {e f:G3}
theorem Sq.mono (h:Sq n e T)(l:e<=f):Sq n f T:=⟨h.len,h.row,h.nn,λr hr x hx=>nP (h.bit r hr x hx) (by
 have:(2:G3)^e<=2^f:=aP (by decide) l;have h2:((2^e:G3):P4)<=((2^f:G3):P4):=by exact_mod_cast this
 simpa using h2)⟩
def ent (T:G0 (G0 P4))(i j:G3):P4:=(T.getD i []).getD j 0
def mkT (n:G3)(f:G3->G3->P4):G0 (G0 P4):=(G6 n).map λi=>(G6 n).map λj=>f i j
theorem yC {i j:G3}{f:G3->G3->P4}(hi:i<n)(hj:j<n):ent (mkT n f) i j=f i j:=by
 unfold ent mkT;simp [S1,hi,hj]
theorem wc {α:Type}(xs:G0 α)(d:α):xs=(G6 xs.length).map λi=>xs.getD i d:=by
 apply i9 (by simp);intro i h1 h2;simp [S1,h1]
theorem Sq.eq_mk (h:Sq n e T):T=mkT n (ent T):=by
 have h1:=wc T [];rw [h.len] at h1;unfold mkT
 conv=>lhs;rw [h1]
 apply B6;intro i hi;have hi':i<T.length:=by rw [h.len];exact D3.mp hi
 have hr:(T.getD i []).length=n:=by
  rw [S1,G7 hi'];exact h.row _ (C9 hi')
 have h2:=wc (T.getD i []) 0;rw [hr] at h2;exact h2
theorem XI {f g:G3->G3->P4}(h: ∀i j,i<n->j<n->f i j=g i j):mkT n f=mkT n g:=by
 unfold mkT;apply B6;intro i hi;apply B6;intro j hj;exact h i j (D3.mp hi) (D3.mp hj)
theorem Sq.of_mk {f:G3->G3->P4}(h0: ∀i j,i<n->j<n->0<=f i j)(h1: ∀i j,i<n->j<n->f i j<2^e):Sq n e (mkT n f):=by
 have key: ∀r∈mkT n f,∃i,i<n/\r=(G6 n).map λj=>f i j:=λr hr=>by
  obtain⟨i,hi,e⟩:=R8.mp hr;exact⟨i,D3.mp hi,e.symm⟩
 refine⟨by simp [mkT],λr hr=> ?_,λr hr x hx=> ?_,λr hr x hx=> ?_⟩
 ·obtain⟨i,_,e⟩:=key r hr;rw [e];simp
 ·obtain⟨i,hi,e⟩:=key r hr;rw [e] at hx;obtain⟨j,hj,e2⟩:=R8.mp hx;rw [<-e2];exact h0 i j hi (D3.mp hj)
 ·obtain⟨i,hi,e⟩:=key r hr;rw [e] at hx;obtain⟨j,hj,e2⟩:=R8.mp hx;rw [<-e2];exact h1 i j hi (D3.mp hj)
theorem Sq.ent_nn (h:Sq n e T){i j:G3}(hi:i<n)(hj:j<n):0<=ent T i j/\ent T i j<2^e:=by
 have hi':i<T.length:=by rw [h.len];exact hi
 have hr:T.getD i []=T[i]:=by rw [S1,G7 hi'];rfl
 have hm:T[i]∈T:=C9 hi';have hj':j<T[i].length:=by rw [h.row _ hm];exact hj
 have he:ent T i j=T[i][j]:=by unfold ent;rw [hr,S1,G7 hj'];rfl
 rw [he];exact⟨h.nn _ hm _ (C9 hj'),h.bit _ hm _ (C9 hj')⟩
variable {U:G0 (G0 P4)}
theorem Sq.ext (h:Sq n e T)(g:Sq n f U)(k: ∀i j,i<n->j<n->ent T i j=ent U i j):T=U:=by
 rw [h.eq_mk,g.eq_mk];exact XI k
def jB (n:G3)(f:G3->P4):P4:=((G6 n).map f).sum
theorem wU (f:G3->P4):jB 0 f=0:=rfl
theorem jt (n:G3)(f:G3->P4):jB (n+1) f=jB n f+f n:=by
 unfold jB;rw [lD,C6,p8];simp
theorem jV {f g:G3->P4}(h: ∀k,k<n->f k=g k):jB n f=jB n g:=by
 unfold jB;congr 1;apply B6;intro k hk;exact h k (D3.mp hk)
theorem vV {f:G3->P4}(h: ∀k,k<n->0<=f k):0<=jB n f:=by
 induction n with
 |zero=>exact mF _
 |succ n ih=>rw [jt];have:=ih λk hk=>h k (by omega);have:=h n (by omega);omega
theorem Yx {f:G3->P4}{b:P4}(h: ∀k,k<n->f k<=b):jB n f<=n*b:=by
 induction n with
 |zero=>simp [wU]
 |succ n ih=>
  rw [jt];have h1:=ih λk hk=>h k (by omega);have h2:=h n (by omega)
  have:((n+1:G3):P4)*b=(n:P4)*b+b:=by rw [Int.natCast_add,Int.add_mul];simp
  omega
theorem PQ (n:G3)(f g:G3->P4):jB n (λk=>f k+g k)=jB n f+jB n g:=by
 induction n with
 |zero=>rfl
 |succ n ih=>rw [jt,jt,jt,ih];omega
theorem ZS (n:G3)(c:P4)(f:G3->P4):jB n (λk=>c*f k)=c*jB n f:=by
 induction n with
 |zero=>simp [wU]
 |succ n ih=>rw [jt,jt,ih,Int.mul_add]
theorem QY (n:G3)(c:P4)(f:G3->P4):jB n (λk=>f k*c)=jB n f*c:=by
 rw [oM,<-ZS];exact jV λk _=>oM _ _
theorem QZ (m n:G3)(f:G3->G3->P4):jB m (λi=>jB n (f i))=jB n (λj=>jB m λi=>f i j):=by
 induction m with
 |zero=>
  rw [wU]
  induction n with
  |zero=>rfl
  |succ n ih=>rw [jt,<-ih,wU];rfl
 |succ m ih=>
  rw [jt,ih,<-PQ];exact jV λj _=>(jt m λi=>f i j).symm
theorem Vv {f:G3->P4}{i:G3}(hi:i<n)(h: ∀k,k<n->k≠i->f k=0):jB n f=f i:=by
 induction n with
 |zero=>omega
 |succ n ih=>
  rw [jt]
  by_cases e:i=n
  ·subst e;have:jB i f=0:=by
    have:jB i f=jB i (λ_=>0*1):=jV λk hk=>by rw [h k (by omega) (by omega)];rfl
    rw [this,ZS];simp
   omega
  ·rw [ih (by omega) λk hk hne=>h k (by omega) hne,h n (by omega) (by omega)];omega
theorem PR {f:G3->P4}(h: ∀k,k<n->0<=f k):0<jB n f↔ ∃k,k<n/\0<f k:=by
 induction n with
 |zero=>simp [wU]
 |succ n ih=>
  rw [jt];have h1:=vV λk (hk:k<n)=>h k (by omega)
  have h2:=h n (by omega);have ih':=ih λk hk=>h k (by omega)
  constructor
  ·intro z
   by_cases q:0<f n
   ·exact⟨n,by omega,q⟩
   ·obtain⟨k,a,b⟩:=ih'.mp (by omega);exact⟨k,by omega,b⟩
  ·rintro ⟨k,a,b⟩
   by_cases q:k=n
   ·subst q;omega
   ·have:=ih'.mpr ⟨k,by omega,b⟩;omega
def yr (n:G3)(T U:G0 (G0 P4)):G0 (G0 P4):=mkT n λi j=>jB n λk=>ent T i k*ent U k j
theorem Sq.mul (h:Sq n e T)(g:Sq n f U)(hn:n<=8):Sq n (e+f+3) (yr n T U):=by
 have nn: ∀i j,i<n->j<n-> ∀k,k<n->0<=ent T i k*ent U k j:=λi j hi hj k hk=>eG (h.ent_nn hi hk).1 (g.ent_nn hk hj).1
 refine Sq.of_mk (λi j hi hj=>vV (nn i j hi hj)) λi j hi hj=> ?_
 have hle: ∀k,k<n->ent T i k*ent U k j<=2^e*2^f-1:=λk hk=>by
  have a:=h.ent_nn hi hk;have b:=g.ent_nn hk hj;have:ent T i k*ent U k j<2^e*2^f:=by
   have p:(0:P4)<2^f:=pR (by decide)
   calc ent T i k*ent U k j<=ent T i k*2^f:=Int.mul_le_mul_of_nonneg_left (tF b.2) a.1
    _<2^e*2^f:=Int.mul_lt_mul_of_pos_right a.2 p
  omega
 have s:=Yx hle;have p:(0:P4)<2^e*2^f:=uB (pR (by decide)) (pR (by decide));have e1:(2:P4)^(e+f+3)=8*(2^e*2^f):=by rw [uC,uC];rw [oM];rfl
 rw [e1];have hn':(n:P4)<=8:=by omega
 have:(n:P4)*(2^e*2^f-1)<=8*(2^e*2^f-1):=Int.mul_le_mul_of_nonneg_right hn' (by omega);omega
theorem yf {i j:G3}(hi:i<n)(hj:j<n):ent (yr n T U) i j=jB n λk=>ent T i k*ent U k j:=yC hi hj
def UI (n:G3):G0 (G0 P4):=mkT n λi j=>if i=j then 1 else 0
theorem Sq.one (n:G3):Sq n 1 (UI n):=Sq.of_mk (f:=λi j=>if i=j then 1 else 0) (λi j _ _=>by split<;>decide) λi j _ _=>by split<;>decide
theorem mul_assoc {g:G3}{V:G0 (G0 P4)}(hT:Sq n e T)(hU:Sq n f U)(hV:Sq n g V)(hn:n<=8):yr n (yr n T U) V=yr n T (yr n U V):=by
 refine((hT.mul hU hn).mul hV hn).ext (hT.mul (hU.mul hV hn) hn) λi j hi hj=> ?_
 rw [yf hi hj,yf hi hj];have e1:(jB n λk=>ent (yr n T U) i k*ent V k j)=jB n λk=>jB n λl=>ent T i l*ent U l k*ent V k j:=
  jV λk hk=>by rw [yf hi hk,<-QY]
 have e2:(jB n λl=>ent T i l*ent (yr n U V) l j)=jB n λl=>jB n λk=>ent T i l*(ent U l k*ent V k j):=
  jV λl hl=>by rw [yf hl hj,<-ZS]
 rw [e1,e2,QZ];exact jV λl _=>jV λk _=>Int.mul_assoc _ _ _
theorem XJ (hT:Sq n e T)(hn:n<=8):yr n (UI n) T=T:=by
 refine((Sq.one n).mul hT hn).ext hT λi j hi hj=> ?_
 rw [yf hi hj,Vv hi λk hk hne=>by rw [UI,yC hi hk,D5 (K9 hne)];simp];rw [UI,yC hi hi,D4 rfl];simp
theorem Mr (hT:Sq n e T)(hn:n<=8):yr n T (UI n)=T:=by
 refine(hT.mul (Sq.one n) hn).ext hT λi j hi hj=> ?_
 rw [yf hi hj,Vv hj λk hk hne=>by rw [UI,yC hk hj,D5 hne];simp];rw [UI,yC hj hj,D4 rfl];simp
def jZ (n:G3)(T:G0 (G0 P4)):G3->G0 (G0 P4)
 |0=>UI n
 |k+1=>yr n (jZ n T k) T
theorem Sq.pow (hT:Sq n e T)(hn:n<=8): ∀k,Sq n (k*(e+3)+1) (jZ n T k)
 |0=>(Sq.one n).mono (by omega)
 |k+1=>((Sq.pow hT hn k).mul hT hn).mono (by rw [cL];omega)
def jj (n:G3)(T:G0 (G0 P4)):G0 (G0 P4):=mkT n λi j=>if ent T i j=0 then 0 else 1
def Zt (n:G3)(o:G0 G3)(T:G0 (G0 P4)):G0 (G0 P4):=mkT n λi j=>ent T (o.idxOf i) (o.idxOf j)
theorem Sq.mark (T:G0 (G0 P4)):Sq n 1 (jj n T):=Sq.of_mk (f:=λi j=>if ent T i j=0 then 0 else 1) (λi j _ _=>by split<;>decide) λi j _ _=>by split<;>decide
structure Ord (n:G3)(o:G0 G3):Prop where
 len:o.length=n
 all: ∀i,i<n->i∈o
theorem Ord.lt {o:G0 G3}(h:Ord n o){i:G3}(hi:i<n):o.idxOf i<n:=by rw [<-h.len];exact dA.mpr (h.all i hi)
theorem Sq.ren {o:G0 G3}(h:Sq n e T)(ho:Ord n o):Sq n e (Zt n o T):=Sq.of_mk (λi j hi hj=>(h.ent_nn (ho.lt hi) (ho.lt hj)).1) λi j hi hj=>(h.ent_nn (ho.lt hi) (ho.lt hj)).2
def jI (T:G0 (G0 P4)):M7:=T.all λr=>r.all λx=>decide (x≠0)
theorem UJ (n:G3)(f:G3->G3->P4):jI (mkT n f)=true↔ ∀i j,i<n->j<n->f i j≠0:=by
 unfold jI mkT;simp only [W3,C3,D3,K8,X3];exact⟨λh i j hi hj=>h i hi j hj,λh i hi j hj=>h i j hi hj⟩
theorem ZT (h:Sq n e T):jI (jj n T)=jI T:=by
 have h1:jI T=jI (mkT n (ent T)):=by rw [<-h.eq_mk]
 rw [h1,Q7,jj,UJ,UJ];constructor
 ·intro z i j hi hj w;exact z i j hi hj (by rw [D4 w])
 ·intro z i j hi hj w;rw [D5 (z i j hi hj)] at w;cases w
def MulOk (i j:P4):Prop:= ∃m n:G3,i.natAbs<2^m/\j.natAbs<2^n/\m+n<=134217728
theorem MulOk.ok {i j:P4}(h:MulOk i j):IntMulOk i j:=by
 obtain⟨m,n,a,b,c⟩:=h;exact .of_le (mG.mpr a) (mG.mpr b) c
theorem CF:OpR X (J3 .Mult) (rI MulOk λi j=> .int (i*j)):=opI λ_ _ _ _ _ _ _ hc q=>mul_int q hc.ok
def HJ:RD2:=λx y h Q=>match x,y with
 | .int i,.int j=>MulOk i j/\Q (.int (i*j)) h
 |_,_=>False
theorem CG:OpQ X (J3 .Mult) HJ:=ZL (gd:=λi j=> .int (i*j)) CF (λ_ _ _=>rfl) λx y h Q q=>by
 cases x<;>cases y<;>first|exact False.elim q|exact⟨_,_,rfl,rfl,q.1,q.2⟩
theorem ZU {x:P4}(h0:0<=x)(h1:x<2^e):x.natAbs<2^e:=by
 have:((2^e:G3):P4)=2^e:=by simp
 omega
theorem Ms {x y:P4}(hx:0<=x/\x<2^e)(hy:0<=y/\y<2^f)(h:e+f<=134217728):MulOk x y:=⟨e,f,ZU hx.1 hx.2,ZU hy.1 hy.2,h⟩
section
variable {α β:Type}{i i':G3}{js:G0 G3}{ti ti':TID}{te:TED}{σ:SD}{h:HD}{Q:KD}{j:ItD}
theorem lcA (xs:G0 α)(c g:α->D)(hz:xs.length<=1000)(hj:j h=some (xs.map c))(ht: ∀R:ItD->HD->Prop,R j h->ti σ h R)
 (he: ∀x∈xs,∀Q':KD,Q' (g x) h->te ((jK js σ).set i (some (c x))) h Q')(hq: ∀p,h p=none->Q (.lst p) (zZ h p (xs.map g))):WP (bN i) js ti vd te σ h Q:=by
 refine ht _ ⟨xs.length,λk ys h'=>h'=h/\ys=(xs.take k).map g,⟨rfl,by simp⟩,?_⟩;rintro k ys h' ⟨rfl,rfl⟩;refine⟨by simp only [G8,T3];exact R9 (jF (by omega)),xs.map c,hj,by simp,λhl p hp=> ?_,λd hd=>⟨_,rfl,?_⟩⟩
 ·rw [T8 (by simpa using hl)];exact hq p hp
 ·unfold vd;dsimp only;rw [D4 rfl];rw [D2] at hd;cases hx:xs[k]? with
  |none=>rw [hx] at hd;cases hd
  |some x=>
   rw [hx] at hd;cases hd;refine he x (D0 hx) _ ⟨h',Sub.refl _,rfl,?_⟩;rw [B8,hx];simp
theorem lcB (xs:G0 α)(c:α->D)(ys:α->G0 β)(c':β->D)(g:α->β->D)(hz:(xs.flatMap ys).length<=1000)(hj:j h=some (xs.map c))(ht: ∀R:ItD->HD->Prop,R j h->ti σ h R)
 (hin: ∀x∈xs,∀R:ItD->HD->Prop,R (λ_=>some ((ys x).map c')) h->ti' ((jK js σ).set i (some (c x))) h R)
 (he: ∀x∈xs,∀y∈ys x,∀Q':KD,Q' (g x y) h->te (((jK js σ).set i (some (c x))).set i' (some (c' y))) h Q')(hq: ∀p,h p=none->Q (.lst p) (zZ h p (xs.flatMap λx=>(ys x).map (g x)))):Mk (bN i) js ti vd i' ti' vd te σ h Q:=by
 have len: ∀l:G0 α,(l.flatMap λx=>(ys x).map (g x)).length=(l.flatMap ys).length:=λl=>by
  induction l with
  |nil=>rfl
  |cons x l ih=>simp [K1,ih]
 have lek: ∀k,((xs.take k).flatMap ys).length<=(xs.flatMap ys).length:=λk=>by
  conv=>rhs;rw [<-M1 k xs,J5,P0]
  omega
 have lek1: ∀k x m,xs[k]? =some x->m<=(ys x).length->((xs.take k).flatMap ys).length+m<=(xs.flatMap ys).length:=λk x m hx hm=>by
  have:=lek (k+1);rw [B8,hx,J5,P0] at this;simp at this;simp;omega
 refine ht _ ⟨xs.length,λk zs h'=>h'=h/\zs=(xs.take k).flatMap λx=>(ys x).map (g x),⟨rfl,by simp⟩,?_⟩;rintro k zs h' ⟨rfl,rfl⟩;refine⟨by rw [len];exact R9 (jF (S4 (lek k) hz)),xs.map c,hj,by simp,λhl p hp=> ?_,λd hd=>⟨_,rfl,?_⟩⟩
 ·rw [T8 (by simpa using hl)];exact hq p hp
 ·unfold vd;dsimp only;rw [D4 rfl];rw [D2] at hd;cases hx:xs[k]? with
  |none=>rw [hx] at hd;cases hd
  |some x=>
   rw [hx] at hd;cases hd;have xm:=D0 hx;refine hin x xm _ ⟨(ys x).length,λm zs h2=>h2=h'/\zs=((xs.take k).flatMap λx=>(ys x).map (g x))++((ys x).take m).map (g x),⟨rfl,by simp⟩,?_⟩;rintro m zs h2 ⟨rfl,rfl⟩;refine⟨?_,(ys x).map c',rfl,by simp,λhl=>⟨h2,Sub.refl _,rfl,?_⟩,λd hd=> ?_⟩
   ·rw [P0,len,G8,T3];have:=lek1 k x (min m (ys x).length) hx (Y7 _ _);exact R9 (jF (by omega))
   ·have hm:(ys x).take m=ys x:=T8 (by simpa using hl);rw [hm,B8,hx,J5];simp
   ·rw [D2] at hd;cases hy:(ys x)[m]? with
    |none=>rw [hy] at hd;cases hd
    |some y=>
     rw [hy] at hd;cases hd
     first
      |rw [D4 rfl]
      |(dsimp only;rw [D4 rfl])
     refine he x xm y (D0 hy) _ ⟨h2,Sub.refl _,rfl,?_⟩;rw [B8,hy];simp
theorem NW (xs:G0 α)(c g:α->D)(hz:xs.length<=1000)(hj:j h=some (xs.map c))(ht: ∀R:ItD->HD->Prop,R j h->ti σ h R)
 (he: ∀x∈xs,∀Q':KD,Q' (g x) h->te ((jK js σ).set i (some (c x))) h Q')(hq:Q (.tup (xs.map g)) h):dCB XG (zm (WP (bN i) js ti vd te) ZJ) σ h Q:=by
 show WP (bN i) js ti vd te σ h (λx h1=>XG [x] h1 Q);exact lcA xs c g hz hj ht he λp hp=>(show ∃ys,zZ h p (xs.map g) p=some ys/\Q (.tup ys) (UB (zZ h p (xs.map g)) p) from ⟨_,jc,by rw [zP hp];exact hq⟩)
theorem HK (xs:G0 α)(c:α->D)(g:α->P4)(hz:xs.length<=1000)(hj:j h=some (xs.map c))(ht: ∀R:ItD->HD->Prop,R j h->ti σ h R)
 (he: ∀x∈xs,∀Q':KD,Q' (.int (g x)) h->te ((jK js σ).set i (some (c x))) h Q')(hq:Q (.int (xs.map g).sum) h):dCB OX (zm (WP (bN i) js ti vd te) ZJ) σ h Q:=by
 show WP (bN i) js ti vd te σ h (λx h1=>OX [x] h1 Q);exact lcA xs c (λx=> .int (g x)) hz hj ht he λp hp=>⟨p,xs.map g,rfl,by rw [jc,S8];rfl,by rw [zP hp];exact hq⟩
theorem HL (xs:G0 α)(c:α->D)(g:α->M7)(hz:xs.length<=1000)(hj:j h=some (xs.map c))(ht: ∀R:ItD->HD->Prop,R j h->ti σ h R)
 (he: ∀x∈xs,∀Q':KD,Q' (.bl (g x)) h->te ((jK js σ).set i (some (c x))) h Q')(hq:Q (.bl (xs.all g)) h):dCB Cq (zm (WP (bN i) js ti vd te) ZJ) σ h Q:=by
 show WP (bN i) js ti vd te σ h (λx h1=>Cq [x] h1 Q);exact lcA xs c (λx=> .bl (g x)) hz hj ht he λp hp=>⟨p,xs.map g,rfl,by rw [jc,S8];rfl,by rw [zP hp,W3];exact hq⟩
theorem HM (xs:G0 α)(c:α->D)(ys:α->G0 β)(c':β->D)(g:α->β->M7)(hz:(xs.flatMap ys).length<=1000)(hj:j h=some (xs.map c))(ht: ∀R:ItD->HD->Prop,R j h->ti σ h R)
 (hin: ∀x∈xs,∀R:ItD->HD->Prop,R (λ_=>some ((ys x).map c')) h->ti' ((jK js σ).set i (some (c x))) h R)
 (he: ∀x∈xs,∀y∈ys x,∀Q':KD,Q' (.bl (g x y)) h->te (((jK js σ).set i (some (c x))).set i' (some (c' y))) h Q')(hq:Q (.bl (xs.all λx=>(ys x).all (g x))) h):dCB Cq (zm (Mk (bN i) js ti vd i' ti' vd te) ZJ) σ h Q:=by
 show Mk (bN i) js ti vd i' ti' vd te σ h (λx h1=>Cq [x] h1 Q);refine lcB xs c ys c' (λx y=> .bl (g x y)) hz hj ht hin he λp hp=> ?_
 ·have e:(xs.flatMap λx=>(ys x).map λy=>D.bl (g x y))=(xs.flatMap λx=>(ys x).map (g x)).map D.bl:=by
   clear hz hj ht hin he hq
   induction xs with
   |nil=>rfl
   |cons x l ih=>simp [K1,ih,S8]
  refine⟨p,xs.flatMap λx=>(ys x).map (g x),rfl,by rw [jc,e],?_⟩;rw [zP hp];have e2:(xs.flatMap λx=>(ys x).map (g x)).all id=xs.all λx=>(ys x).all (g x):=by
   clear hz hj ht hin he hq e
   induction xs with
   |nil=>rfl
   |cons x l ih=>simp [K1,ih,W3]
  rw [e2];exact hq
end
end L2
namespace L2
open PySem PySem.Spec PyProof.Rows PySem.SeqAt
def vk (o:G0 G3):D:= .tup (o.map λ(k:G3)=>D.int (k:P4))
def Ordr (n:G3)(o:G0 G3):Prop:=o.Perm (G6 n)
variable {n:G3}{o:G0 G3}
theorem Ordr.ord (h:Ordr n o):Ord n o:=⟨by rw [h.length_eq,R6],λi hi=>h.mem_iff.mpr (D3.mpr hi)⟩
def zC (o:G0 G3):G0 P4:=o.map λ(k:G3)=>(k:P4)
theorem Yy (o:G0 G3):vk o= .tup ((zC o).map D.int):=by unfold vk zC;rw [S8];rfl
theorem Mt (o:G0 G3)(i:G3):(zC o).idxOf (i:P4)=o.idxOf i:=by
 induction o with
 |nil=>rfl
 |cons a o ih=>
  show ((a:P4)::zC o).idxOf (i:P4)=_;rw [p9,p9,ih]
  by_cases e:a=i
  ·subst e;simp
  ·have e1:(a==i)=false:=by simpa using e
   have e2:((a:P4)==(i:P4))=false:=by simp;omega
   rw [e1,e2]
variable {i:G3}
theorem Mu (h:i∈o):(i:P4)∈zC o:=R8.mpr ⟨i,h,rfl⟩
theorem Vw: ∀n:G3,(zC (G6 n)).Pairwise (· <= ·):=λn=>by
 unfold zC;rw [O4];exact G0.pairwise_le_range.imp λh=>by omega
theorem wq (h:HD): ∀ns:G0 P4,ToPs h (ns.map D.int) (ns.map bH)
 | []=>rfl
 |n::ns=>⟨_,_,rfl,rfl,wq h ns⟩
theorem vn: ∀ns:G0 P4,C1 (ns.map bH)=true
 | []=>rfl
 |n::ns=>by show (F6 (.int n)&&_)=true;rw [vn ns];rfl
theorem ZV: ∀ns:G0 P4,L0 (ns.map bH) (ns.map bH)=true
 | []=>rfl
 |n::ns=>by show ((n==n)&&L0 _ _)=true;rw [ZV ns];simp
theorem JB: ∀ns:G0 P4,F8 (ns.map bH)<=1
 | []=>by simp [F8]
 |n::ns=>by
  have:=JB ns;simp only [T7,F8,K2];omega
theorem yg (ns:G0 P4):g6 (.list (ns.map .int))=true:=by
 unfold g6;have h1:F6 (.list (ns.map .int))=true:=by simp only [F6];exact vn ns
 have h2:=JB ns;have h3:K2 (.list (ns.map .int))<=64:=by simp only [K2];omega
 rw [h1,D9 h3];rfl
def yt (r:G0 P4):A6:= .tuple (r.map .int)
def vW (T:G0 (G0 P4)):A6:= .tuple (T.map yt)
theorem Vx (h:HD): ∀T:G0 (G0 P4),ToPs h (T.map yB) (T.map yt)
 | []=>rfl
 |r::T=>⟨_,_,rfl,⟨_,rfl,wq h r⟩,Vx h T⟩
theorem JC (h:HD)(T:G0 (G0 P4)):ToP h (jC T) (vW T):=⟨_,rfl,Vx h T⟩
theorem wt: ∀T:G0 (G0 P4),C1 (T.map yt)=true
 | []=>rfl
 |r::T=>by
  show (F6 (yt r)&&_)=true;rw [wt T];have:F6 (yt r)=true:=by unfold yt;simp only [F6];exact vn r
  rw [this];rfl
theorem wV: ∀T:G0 (G0 P4),F8 (T.map yt)<=3
 | []=>by simp [F8]
 |r::T=>by
  have:=wV T;have h2:=JB r;simp only [T7,F8,K2,yt];omega
theorem yT (T:G0 (G0 P4)):g6 (vW T)=true:=by
 unfold g6;have h1:F6 (vW T)=true:=by unfold vW;simp only [F6];exact wt T
 have h2:=wV T;have h3:K2 (vW T)<=64:=by unfold vW;simp only [K2];omega
 rw [h1,D9 h3];rfl
variable {e:G3}{T:G0 (G0 P4)}
theorem PU (h:Sq n e T){i:G3}(hi:i<n):atI (T.map yB) (i:P4)=some (yB (T.getD i [])):=by
 have hi':i<T.length:=by rw [h.len];exact hi
 exact Yj (by rw [D2,S1,G7 hi'];rfl)
theorem Sq.getRow (h:Sq n e T){i:G3}(hi:i<n):T.getD i []∈T:=by
 have hi':i<T.length:=by rw [h.len];exact hi
 rw [S1,G7 hi'];exact C9 hi'
theorem UK {r:G0 P4}(h:r.length=n){j:G3}(hj:j<n):atI (r.map D.int) (j:P4)=some (.int (r.getD j 0)):=by
 have hj':j<r.length:=by rw [h];exact hj
 exact Yj (by rw [D2,S1,G7 hj'];rfl)
theorem Ad (n:G3)(f:G3->G3->P4):D.tup ((G6 n).map λi=>D.tup ((G6 n).map λj=>D.int (f i j)))=jC (mkT n f):=by
 unfold jC yB mkT;rw [S8]
 congr 1
 apply B6;intro i _;simp [S8,eI]
theorem CH (T:G0 (G0 P4))(f:P4->P4):D.tup (T.map λr=>D.tup (r.map λx=>D.int (f x)))=jC (T.map λr=>r.map f):=by
 unfold jC yB;rw [S8]
 congr 1
 apply B6;intro r _;simp [S8,eI]
theorem CI (h:Sq n e T):jj n T=T.map λr=>r.map λx=>if x≠0 then 1 else 0:=by
 conv=>rhs;rw [h.eq_mk]
 unfold jj mkT;rw [S8];apply B6;intro i _;simp only [K8,S8];apply B6;intro j _;simp only [K8]
 by_cases z:ent T i j=0
 ·rw [D4 z,D5 (by simpa using z)]
 ·rw [D5 z,D4 z]
theorem Mv (h:Sq n e T)(h6:n<=6):(T.flatMap λr=>r).length<=1000:=by
 have: ∀U:G0 (G0 P4),(∀r∈U,r.length=n)->(U.flatMap λr=>r).length=U.length*n:=λU=>by
  induction U with
  |nil=>intro _;simp
  |cons r U ih=>
   intro hU;rw [K1,P0,ih λr hr=>hU r (R3 _ hr),hU r P6,D8,cL];omega
 rw [this T h.row,h.len];have:=mH h6 h6;omega
variable {U:G0 (G0 P4)}
theorem Mw (h:Sq n e T):(T.map λr=>D.tup ((G6 n).map λj=>D.int (jB n λm=>r.getD m 0*ent U m j)))=(yr n T U).map yB:=by
 conv=>lhs;rw [wc T [],h.len]
 unfold yr mkT;rw [S8,S8];apply B6;intro i _;simp only [K8,yB,S8];rfl
theorem pow_add (h:Sq n e T)(hn:n<=8)(a:G3): ∀b,jZ n T (a+b)=yr n (jZ n T a) (jZ n T b)
 |0=>by rw [show jZ n T 0=UI n from rfl,Mr (h.pow hn a) hn];rfl
 |b+1=>by
  show yr n (jZ n T (a+b)) T=yr n (jZ n T a) (yr n (jZ n T b) T);rw [pow_add h hn a b,mul_assoc (h.pow hn a) (h.pow hn b) h hn]
theorem PV (h:Sq n e T)(hn:n<=8):jZ n T 1=T:=XJ h hn
theorem Vy (h:Sq n e T)(hn:n<=8)(b:G3):jZ n T (b+1)=yr n T (jZ n T b):=by
 rw [kT,pow_add h hn,PV h hn]
theorem Mx {a b:G0 P4}(h:a.Perm b):a.sum=b.sum:=by
 induction h with
 |nil=>rfl
 |cons x _ ih=>simp [ih]
 |swap x y l=>simp;omega
 |trans _ _ i1 i2=>rw [i1,i2]
theorem Ordr.nodup (h:Ordr n o):o.Nodup:=h.symm.nodup fO
theorem PX (h:Ordr n o)(f:G3->P4):jB n (λm=>f (o.idxOf m))=jB n f:=by
 unfold jB;have h1:((G6 n).map λm=>f (o.idxOf m)).sum=(o.map λm=>f (o.idxOf m)).sum:=Mx (h.symm.map _);have hl:=h.ord.len;have h2:(o.map λm=>f (o.idxOf m))=(G6 n).map f:=by
  apply i9 (by simp [hl]);intro i a b;simp only [j0,E8];rw [h.nodup.idxOf_getElem]
 rw [h1,h2]
variable {j:G3}
theorem wu (hi:i<n)(hj:j<n):ent (Zt n o T) i j=ent T (o.idxOf i) (o.idxOf j):=yC hi hj
theorem CJ {f : G3} (h : Sq n e T) (g : Sq n f U) (ho : Ordr n o) (hn : n ≤ 8) : Zt n o (yr n T U) = yr n (Zt n o T) (Zt n o U) :=
  ((h.mul g hn).ren ho.ord).ext ((h.ren ho.ord).mul (g.ren ho.ord) hn) fun i j hi hj => by
    rw [wu hi hj, yf (ho.ord.lt hi) (ho.ord.lt hj), yf hi hj, ← PX ho]
    exact jV fun k hk => by rw [wu hi hk, wu hk hj]
theorem CK (ho:Ordr n o){i j:G3}(hi:i<n)(hj:j<n)(e:o.idxOf i=o.idxOf j):i=j:=by
 have a:o.idxOf i<o.length:=by rw [ho.ord.len];exact ho.ord.lt hi
 have b:o.idxOf j<o.length:=by rw [ho.ord.len];exact ho.ord.lt hj
 have c:=Z9 a;have d:=Z9 b;rw [<-c,<-d];simp only [e]
theorem CL (ho : Ordr n o) : Zt n o (UI n) = UI n :=
  ((Sq.one n).ren ho.ord).ext (Sq.one n) fun i j hi hj => by
    rw [wu hi hj, UI, yC (ho.ord.lt hi) (ho.ord.lt hj), yC hi hj]
    by_cases e : i = j
    · rw [D4 e, D4 (by rw [e])]
    · rw [D5 e, D5 (fun z => e (CK ho hi hj z))]
theorem PY (h:Sq n e T)(ho:Ordr n o)(hn:n<=8): ∀k,Zt n o (jZ n T k)=jZ n (Zt n o T) k
 |0=>CL ho
 |k+1=>by
  show Zt n o (yr n (jZ n T k) T)=yr n (jZ n (Zt n o T) k) (Zt n o T);rw [CJ (h.pow hn k) h ho hn,PY h ho hn k]
theorem Yz (hi:i<n)(hj:j<n):ent (jj n T) i j=if ent T i j=0 then 0 else 1:=yC hi hj
theorem XL (h: ∀i j,i<n->j<n->(ent T i j=0↔ent U i j=0)):jj n T=jj n U:=XI λi j hi hj=>by
 by_cases z:ent T i j=0
 ·rw [D4 z,D4 ((h i j hi hj).mp z)]
 ·rw [D5 z,D5 (λw=>z ((h i j hi hj).mpr w))]
theorem yD (hi:i<n)(hj:j<n):ent (jj n T) i j=0↔ent T i j=0:=by
 rw [Yz hi hj]
 by_cases z:ent T i j=0
 ·rw [D4 z];simp [z]
 ·rw [D5 z];simp [z]
theorem ZW (T:G0 (G0 P4)):jj n (jj n T)=jj n T:=XL λi j hi hj=>yD hi hj
theorem zR {f:G3}(h:Sq n e T)(g:Sq n f U)(hi:i<n)(hj:j<n):ent (yr n T U) i j≠0↔ ∃k,k<n/\ent T i k≠0/\ent U k j≠0:=by
 rw [yf hi hj];have nn: ∀k,k<n->0<=ent T i k*ent U k j:=λk hk=>eG (h.ent_nn hi hk).1 (g.ent_nn hk hj).1
 have s:=vV nn;have p:=PR nn;constructor
 ·intro z;obtain⟨k,hk,w⟩:=p.mp (by omega);refine⟨k,hk,λq=> ?_,λq=> ?_⟩
  ·rw [q] at w;simp at w
  ·rw [q] at w;simp at w
 ·rintro ⟨k,hk,a,b⟩ z;have c:=(h.ent_nn hi hk).1;have d:=(g.ent_nn hk hj).1;have:0<ent T i k*ent U k j:=uB (by omega) (by omega);have:=p.mpr ⟨k,hk,this⟩;omega
theorem yU {f:G3}(h:Sq n e T)(g:Sq n f U):jj n (yr n T U)=jj n (yr n (jj n T) (jj n U)):=
 XL λi j hi hj=>by
  have a:=zR h g hi hj;have b:=zR (Sq.mark (n:=n) T) (Sq.mark (n:=n) U) hi hj;have c:(∃k,k<n/\ent T i k≠0/\ent U k j≠0)↔ ∃k,k<n/\ent (jj n T) i k≠0/\ent (jj n U) k j≠0:=
   ⟨λ⟨k,hk,x,y⟩=>⟨k,hk,λz=>x ((yD hi hk).mp z),λz=>y ((yD hk hj).mp z)⟩,λ⟨k,hk,x,y⟩=>⟨k,hk,λz=>x ((yD hi hk).mpr z),λz=>y ((yD hk hj).mpr z)⟩⟩
  exact⟨λz=>aG λw=>(a.mpr (c.mpr (b.mp w))) z,λz=>aG λw=>(b.mpr (c.mp (a.mp w))) z⟩
theorem XM (h:Sq n e T)(hn:n<=8): ∀k,jj n (jZ n T k)=jj n (jZ n (jj n T) k)
 |0=>rfl
 |k+1=>by
  show jj n (yr n (jZ n T k) T)=jj n (yr n (jZ n (jj n T) k) (jj n T));rw [yU (h.pow hn k) h,yU ((Sq.mark (n:=n) T).pow hn k) (Sq.mark (n:=n) T),ZW,XM h hn k]
theorem vX (h:Sq n e T):jI T=true↔ ∀i j,i<n->j<n->ent T i j≠0:=by
 have h1:jI T=jI (mkT n (ent T)):=by rw [<-h.eq_mk]
 rw [h1,UJ]
variable {a:G3}
theorem PZ (h:Sq n e T)(hn:n<=8)(ha:0<a)(f:jI (jZ n T a)=true):jI (jZ n T (a+1))=true:=by
 rw [vX (h.pow hn _)] at f ⊢;intro i j hi hj;obtain⟨b,rfl⟩: ∃b,a=b+1:=⟨a-1,by omega⟩;have z:=f i j hi hj;rw [Vy h hn b,zR h (h.pow hn b) hi hj] at z;obtain⟨k,hk,x,_⟩:=z;rw [Vy h hn (b+1),zR h (h.pow hn (b+1)) hi hj];exact⟨k,hk,x,f k j hk hj⟩
theorem UL (h:Sq n e T)(hn:n<=8)(ha:0<a)(f:jI (jZ n T a)=true): ∀b,jI (jZ n T (a+b))=true
 |0=>f
 |b+1=>PZ (a:=a+b) h hn (by omega) (UL h hn ha f b)
theorem Ordr.map_idx (h:Ordr n o):o.map (λm=>o.idxOf m)=G6 n:=by
 have hl:=h.ord.len;apply i9 (by simp [hl]);intro i a b;simp only [j0,E8];rw [h.nodup.idxOf_getElem]
def vo (n:G3)(o:G0 G3):G0 G3:=(G6 n).map λi=>o.idxOf i
theorem Ordr.back (h:Ordr n o):Ordr n (vo n o):=by
 have:=h.symm.map (λm=>o.idxOf m);rw [h.map_idx] at this;exact this
theorem vY (h:Ordr n o){i:G3}(hi:i<n):o.idxOf ((vo n o).idxOf i)=i:=by
 have a:(vo n o).idxOf i<(vo n o).length:=by rw [h.back.ord.len];exact h.back.ord.lt hi
 have b:=Z9 a;have c:(vo n o)[(vo n o).idxOf i]=o.idxOf ((vo n o).idxOf i):=by simp only [vo,j0,E8]
 rw [<-c];exact b
theorem Mz (h : Sq n e T) (ho : Ordr n o) : Zt n (vo n o) (Zt n o T) = T :=
  ((h.ren ho.ord).ren ho.back.ord).ext h fun i j hi hj => by
    rw [wu hi hj, wu (ho.back.ord.lt hi) (ho.back.ord.lt hj), vY ho hi, vY ho hj]
section
variable {prog:S7}{w:N8}{A:N3}{E:G1->G2->Prop}{s:G2}
theorem UM {Q:fM->G2->Prop}(hh:A.handled=none)(hE: ∀h' e,(∀b o,s.heap.get? b=some o->h'.get? b=some o)->(∃o,h'.get? e=some o/\o.cls= .type "StopIteration")->E (.ref e) {s with heap:=h'}):R7 (S2 prog w) A eJ Q E s:=by
 obtain⟨hp,g,d,tk,os⟩:=s;unfold eJ
 wp_walk
 unfold raiseNew;refine wpAny_bind (wpAny_handled ?_);rw [hh];exact wpAny_bind (P3 (wpAny_throw (hE _ _ (λb o q=>P1 _ (P1 _ q)) ⟨_,T5 _ rfl,rfl⟩)))
end
section
variable {X:Cx}{pins:G0 (P5×Obj)}{σ:G0 (P7 V)}{H:Hp}{s:G2}{h':F4}
theorem Inv.turnL {t':G3}{ch:G0 P5}(I:Inv X pins σ H s)(k: ∀b o,b ∉ ch->s.heap.get? b=some o->h'.get? b=some o)(hc: ∀b∈ch,Uw X pins H b):Inv X pins σ H {s with heap:=h',toks:=t'}:=by
 refine I.step (g':=s.gens) (d':=s.drawn) (ch:=ch) (λb hb=>let ⟨_,f1,_,f3,f4,f5⟩:=hc b hb;⟨f3,f1,f4,f5⟩) (λb o _ _ nb e _=>k b o nb e) (λb o _ _ nb e _=>⟨o.slots,k b o nb e⟩) (λ_ _ _ _ n=>n)
  (λb o nb e=>⟨o,k b o nb e⟩) (λ_ _ e=>e) (λ_ _ _ e=>e) (λb ps e=>⟨#[],by rw [e];simp⟩) (λm hm=> ?_) (λb u e=> ?_) I.bare
 ·obtain⟨o,es,ep,ho,r⟩:=hm;exact⟨o,es,ep,k _ o (λz=>(hc _ z).2.1 rfl) ho,r⟩
 ·refine(I.hok b u e).stay (λc v hb q=>k c v (λz=> ?_) q) (λ_ q=>q) λ_ _ q=>q
  have f:=(hc c z).1;rcases hb with w|w
  ·rw [w,e] at f;cases f
  ·rw [w] at f;cases f
theorem Inv.turnLaid {t':G3}{ch:G0 P5}{a:P5}{o:HO}(I:Inv X pins σ H s)(k: ∀b u,b ∉ ch->s.heap.get? b=some u->h'.get? b=some u)(hc: ∀b∈ch,Uw X pins H b)(hp:s.heap.objs.size<=a)
 (new:ObjOk X.prog X.w (upd H a o) h' a o):Inv X pins σ (upd H a o) {s with heap:=h',toks:=t'}:=by
 have hn:=I.hok.fresh hp;refine I.step (g':=s.gens) (d':=s.drawn) (ch:=ch) (λb hb=>let ⟨_,f1,_,f3,f4,f5⟩:=hc b hb;⟨f3,f1,f4,f5⟩) (λb u _ _ nb e _=>k b u nb e) (λb u _ _ nb e _=>⟨u.slots,k b u nb e⟩)
  (λb u _ e n=>by rw [jg (T2 (N0 (R1 e) hp))];exact n) (λb u nb e=>⟨u,k b u nb e⟩) (λb xs q=>by rw [jg (je q hn)];exact q) (λb u xs q=>by rw [jg (je q hn)];exact q)
  (λb ps q=>⟨#[],by rw [jg (je q hn),q];simp⟩) (λm hm=> ?_) (λb u e=> ?_) I.bare
 ·obtain⟨u,es,ep,ho,r⟩:=hm;exact⟨u,es,ep,k _ u (λz=>(hc _ z).2.1 rfl) ho,r⟩
 ·by_cases hb:b=a
  ·subst hb;rw [ji] at e;cases e;exact new
  ·rw [jg hb] at e;refine(I.hok b u e).stay (λc v hb q=>k c v (λz=> ?_) q) (λc q=>by rw [jg (je q hn)];exact q) λc xs q=>by rw [jg (je q hn)];exact q
   have f:=(hc c z).1;rcases hb with w|w
   ·rw [w,e] at f;cases f
   ·rw [w] at f;cases f
end
def Da (ds:G0 D):G0 D:=ds.zipIdx.map λp=> .tup [.int (p.2:P4),p.1]
theorem XN {ds:G0 D}{d:D}(h:(Da ds)[i]? =some d): ∃x,ds[i]? =some x/\d= .tup [.int (i:P4),x]:=by
 unfold Da at h;rw [D2,List.getElem?_zipIdx] at h;cases q:ds[i]? with
 |none=>rw [q] at h;cases h
 |some x=>
  rw [q] at h;refine⟨x,rfl,?_⟩;have h':some (D.tup [.int ((0+i:G3):P4),x])=some d:=h;rw [Q8] at h';exact(A2 h').symm
theorem vp (ds:G0 D):(Da ds).length=ds.length:=by simp [Da]
def Db (c:TTD)(tb:TSD):TSD:=λD σ h=> ∃W:G3->SD->HD->Prop,(∃m,W m σ h)/\ ∀m IF h',W m IF h'->c IF h' λb h1=>
 if b=true then tb {D with nx:=λIH h2=> ∃m' h3,m'<m/\Sub h3 h2/\W m' IH h3,ct:=λIH h2=> ∃m' h3,m'<m/\Sub h3 h2/\W m' IH h3,bk:=D.nx} IF h1 else D.nx IF h1
theorem MB {K:G5}{c:TTD}{tb:TSD}: ∀D σ H,LS K (Db c tb) D σ H->NG (LT K c) (LS K tb) D σ H:=λD σ H ⟨IG,h,Dd,rs,rh,⟨W,⟨m0,w0⟩,turn⟩,nx,rt,bk,ct⟩=>by
 refine⟨λm IF H'=>Kept H H'/\ ∃IJ h',RelS K H' IJ IF/\RelH K h' H'/\W m IJ h',⟨m0,.refl _,IG,h,rs,rh,w0⟩,?_⟩;rintro m IF H' ⟨kp,IJ,h',rs',rh',w⟩;refine LT.bind rs' rh' (turn m IJ h' w) λb h1 H1 k1 rs1 rh1 q1=> ?_
 cases b with
 |false=>
  rw [D5 R0] at q1 ⊢;exact nx _ _ _ _ (kp.trans k1) rs1 rh1 q1
 |true=>
  rw [D4 rfl] at q1 ⊢;have kk:Kept H H1:=kp.trans k1;refine⟨λIH H2=>Kept H H2/\ ∃m',m'<m/\ ∃IL h2,RelS K H2 IL IH/\RelH K h2 H2/\W m' IL h2,λIH H2 ⟨k2,m',hm,a,b,c,d,e⟩=>⟨m',hm,k2,a,b,c,d,e⟩,?_⟩;exact⟨IJ,h1,_,rs1,rh1,q1,λa b c d k4 rs4 rh4 ⟨m',h4,hm,sb,w4⟩=>⟨kk.trans k4,m',hm,a,h4,rs4,rh4.sub sb,w4⟩,jA rt kk,λa b c d k4 rs4 rh4 q4=>nx a b c d (kk.trans k4) rs4 rh4 q4,λa b c d k4 rs4 rh4 ⟨m',h4,hm,sb,w4⟩=>⟨kk.trans k4,m',hm,a,h4,rs4,rh4.sub sb,w4⟩⟩
section
variable {X:Cx}{pos:Pos}
theorem Ae {c:M5}{body:G0 J9}{tc:TTD}{tb:TSD}(hp:mU (S2 X.prog X.w) X.A X.env X.xe)(hc:JT X c tc)(hb:JSs X body tb):JS X (.While c body [] pos) (Db tc tb):=⟨(RN hp hc.to hb.to).imp MB⟩
end
theorem MC {c:TTD}{tb:TSD}{E:EndsD}{σ:SD}{h:HD}(W:G3->SD->HD->Prop)(m:G3)(w0:W m σ h)
 (turn: ∀m IF h',W m IF h'->c IF h' λb h1=>if b=true then tb {E with nx:=λIH h2=> ∃m' h3,m'<m/\Sub h3 h2/\W m' IH h3,ct:=λIH h2=> ∃m' h3,m'<m/\Sub h3 h2/\W m' IH h3,bk:=E.nx} IF h1 else E.nx IF h1):Db c tb E σ h:=⟨W,⟨m,w0⟩,turn⟩
def inE (neg:M7):RD2:=λx y h Q=> ∃ (p:A6) (ps:G0 A6),ToP h x p/\(ToP h y (.list ps)\/ToP h y (.tuple ps))/\p.canLay0=true/\C1 ps=true/\p.depth<=60/\Q (.bl (neg !=ps.any λz=>F7 z p)) h
section
variable {X:Cx}
theorem Sv (hu:X.A.units+64<cLine):OpQ X (B0 .In) (inE false):=by
 intro pins s σ H x y v u Q I rx ry h;obtain⟨dx,dy,h,Qd,r1,r2,rh,⟨p,ps,t1,t2,c1,c2,c3,qq⟩,post⟩:=h;obtain⟨as,a1⟩:=zo I rh t1 r1 rx;have hu':X.A.units+1+min (F8 ps) p.depth<cLine:=by have:=Y7 (F8 ps) p.depth;omega
 have q':Qd (.bl (ps.any λz=>F7 z p)) h:=by simpa using qq
 rcases t2 with t2|t2
 ·obtain⟨bs,b1⟩:=zo I rh t2 r2 ry;exact in_list_reads b1 a1 c2 c1 hu' ⟨.bl _,H,I,rfl,post (.bl _) _ _ _ (.refl H) rh rfl q'⟩
 ·obtain⟨bs,b1⟩:=zo I rh t2 r2 ry;exact in_tuple_reads b1 a1 c2 c1 hu' ⟨.bl _,H,I,rfl,post (.bl _) _ _ _ (.refl H) rh rfl q'⟩
theorem XO (hu:X.A.units+64<cLine):OpQ X (B0 .NotIn) (inE true):=by
 intro pins s σ H x y v u Q I rx ry h;obtain⟨dx,dy,h,Qd,r1,r2,rh,⟨p,ps,t1,t2,c1,c2,c3,qq⟩,post⟩:=h;obtain⟨as,a1⟩:=zo I rh t1 r1 rx;have hu':X.A.units+1+min (F8 ps) p.depth<cLine:=by have:=Y7 (F8 ps) p.depth;omega
 have q':Qd (.bl (!ps.any λz=>F7 z p)) h:=by simpa using qq
 rcases t2 with t2|t2
 ·obtain⟨bs,b1⟩:=zo I rh t2 r2 ry;exact notIn_list_reads b1 a1 c2 c1 hu' ⟨.bl _,H,I,rfl,post (.bl _) _ _ _ (.refl H) rh rfl q'⟩
 ·obtain⟨bs,b1⟩:=zo I rh t2 r2 ry;exact notIn_tuple_reads b1 a1 c2 c1 hu' ⟨.bl _,H,I,rfl,post (.bl _) _ _ _ (.refl H) rh rfl q'⟩
end
theorem MD {X:Cx}(hu:X.A.units+64<cLine):MtM X "list.index" (λx vs H Q=> ∃ (a:P5) (y:V) (dy:D) (h:HD) (p:A6) (ps:G0 A6) (j:G3) (z:A6),x= .ref a/\vs= [y]/\RelD X.K H dy y/\RelH X.K h H/\ToP h (.lst a) (.list ps)/\ToP h dy p/\p.canLay0=true/\C1 ps=true/\p.depth<=60/\j<1000000/\ps[j]? =some z/\F7 z p=true/\(∀m y,m<j->ps[m]? =some y->F7 y p=false)/\Q (.int (j:P4)) H):=by
 intro pins s σ H x vs v us Q I rx rv h;obtain⟨a,y,dy,h,p,ps,j,z,rfl,rfl,rd,rh,t1,t2,c1,c2,c3,hj,hz,hit,hno,q⟩:=h;cases rx;obtain⟨u,rfl,ru⟩:=vK rv;obtain⟨a',ds,ea,ha,ts⟩:=(show ∃a' ds,D.lst a= .lst a'/\h a'=some ds/\ToPs h ds ps from t1);cases ea;obtain⟨ws,hH,_⟩:=rh a ds ha;obtain⟨as,r1⟩:=zo I rh t1 (show RelD X.K H (.lst a) (.ref a) from ⟨rfl,ws,hH⟩) (show RelV (.ref a) (.ref a) from rfl);obtain⟨bs,r2⟩:=zo I rh t2 rd ru;cases r1 with
 |list h1 h2 h3 h4=>
  rename_i o its n cs;have em:=readsAll_map ps _ _ c2 h4;have gm: ∀m (hm:m<its.size),ps[m]? =some (readOf s.heap its[m]):=λm hm=>by
   rw [<-em,D2,T9,V6 hm];rfl
  have hlen:its.size=ps.length:=by rw [<-em,G8,P9]
  have hjs:j<its.size:=by rw [hlen];exact(D6.mp hz).1
  have hu':X.A.units+1+min (F8 ps) p.depth<cLine:=by have:=Y7 (F8 ps) p.depth;omega
  obtain⟨oc,od,odt,osl⟩:=o;simp only at h2 h3;subst h2 h3;refine kQ F.slot_list_index ⟨_,h1,rfl⟩ F.entry_list_index (F.args_list_index_2 _ _) (list_indexAt a its n od osl u (λy=>F7 (readOf s.heap y) p) j hjs (by omega) ?_ ?_) ⟨h1,items_eqAt h4 r2 c2 c1 hu',?_⟩
  ·have:=gm j hjs;rw [hz] at this;injection this with this
   rw [<-this];exact hit
  ·intro m hm hmj;exact hno m _ hmj (gm m hm)
  ·exact⟨.int (j:P4),H,I.tok _,⟨_,rfl⟩,q⟩
def HN (to te:TED):TED:=λσ h Q=>to σ h λx h1=> ∃a,x= .lst a/\te σ h1 λy h2=> ∃ (p:A6) (ps:G0 A6) (j:G3) (z:A6),ToP h2 (.lst a) (.list ps)/\ToP h2 y p/\p.canLay0=true/\C1 ps=true/\p.depth<=60/\j<1000000/\ps[j]? =some z/\F7 z p=true/\(∀m y,m<j->ps[m]? =some y->F7 y p=false)/\Q (.int (j:P4)) h2
section
variable {X:Cx}{o e i:M5}{to te ti:TED}{apos cpos:Pos}
theorem HP (hu : X.A.units + 64 < cLine) (ho : JE X o to) (he : JE X e te) (hbase : Y4 o "index" X.env (E5 o X.env) = E5 o X.env := by rfl)
    (hfew : ((K6 cpos (R4 [e] X.env)).all (fun x => !x.1) && (iZ cpos (dQ [] X.env)).all (fun x => x.1.isSome) && decide ([e].length + ([] : G0 cK).length + (if ([] : G0 cK).isEmpty then 0 else 1) < 30)) = true := by rfl)
    (hline : (apos.endLine == cpos.line) = true := by rfl) (hs : R4 [e] X.env = (false, E5 e X.env) :: R4 [] X.env := by rfl) (hplain : (K6 cpos (R4 [] X.env)).any (·.1) = false := by rfl) :
    JE X (.Call (.Attribute o "index" apos) [e] [] cpos) (HN to te) :=
  ⟨(LX i6 sQ sR (MD hu) ho.to (yu he.to pa_nil hs) hbase hfew hline hs hplain).imp
    fun σ H Q ⟨IG, h, Qd, rs, rh, t, p⟩ => LE.bind rs rh t fun d v h1 H1 k1 rs1 rh1 r1 ⟨a, e, q⟩ => by
      subst e
      obtain ⟨e1, vs, hH⟩ := (show v = .ref a ∧ ∃ vs, H1 a = some (.lst vs) from r1)
      subst e1
      refine ⟨.inl ⟨rfl, vs, SqL.of hH⟩, ?_⟩
      refine LE.bind rs1 rh1 q fun y u h2 H2 k2 rs2 rh2 r2 ⟨pd, ps, j, z, t1, t2, c1, c2, c3, hj, hz, hit, hno, q2⟩ => ?_
      exact ⟨a, u, y, h2, pd, ps, j, z, rfl, rfl, r2, rh2, t1, t2, c1, c2, c3, hj, hz, hit, hno, p (.int _) _ _ _ (k1.trans k2) rh2 rfl q2⟩⟩
end
section
variable {α:Type}{i i':G3}{js:G0 G3}{ti:TID}{te:TED}{σ:SD}{h:HD}{Q:KD}{j:ItD}
theorem HQ (xs:G0 α)(c c' g:α->D)(hz:xs.length<=1000)(hj:j h=some (xs.map λx=> .tup [c x,c' x]))(ht: ∀R:ItD->HD->Prop,R j h->ti σ h R)
 (he: ∀x∈xs,∀Q':KD,Q' (g x) h->te (((jK js σ).set i (some (c x))).set i' (some (c' x))) h Q')(hq: ∀p,h p=none->Q (.lst p) (zZ h p (xs.map g))):WP (b2 i i') js ti vd te σ h Q:=by
 refine ht _ ⟨xs.length,λk ys h'=>h'=h/\ys=(xs.take k).map g,⟨rfl,by simp⟩,?_⟩;rintro k ys h' ⟨rfl,rfl⟩;refine⟨by simp only [G8,T3];exact R9 (jF (by omega)),_,hj,by simp,λhl p hp=> ?_,λd hd=> ?_⟩
 ·rw [T8 (by simpa using hl)];exact hq p hp
 ·rw [D2] at hd;cases hx:xs[k]? with
  |none=>rw [hx] at hd;cases hd
  |some x=>
   rw [hx] at hd;cases hd;refine⟨_,⟨_,_,rfl,rfl⟩,?_⟩;unfold vd;dsimp only;rw [D4 rfl];refine he x (D0 hx) _ ⟨h',Sub.refl _,rfl,?_⟩;rw [B8,hx];simp
end
def IsS (n:G3)(S:G0 G3):Prop:= ∃p:G3->M7,S=(G6 n).filter p
def itF {α:Type}(f:α->α)(x:α):G3->α
 |0=>x
 |k+1=>f (itF f x k)
variable {α:Type}
theorem UN (f:α->α)(x:α)(a:G3): ∀b,itF f x (a+b)=itF f (itF f x a) b
 |0=>rfl
 |b+1=>by show f (itF f x (a+b))=f (itF f (itF f x a) b);rw [UN f x a b]
theorem Vz {α:Type}{f:α->α}{x:α}{p:G3}(e:itF f x (a+p)=itF f x a)(r:G3): ∀q,itF f x (a+p*q+r)=itF f x (a+r)
 |0=>by simp
 |q+1=>by
  have h1:a+p*(q+1)+r=(a+p)+(p*q+r):=by rw [bI];omega
  rw [h1,UN,e,<-UN,<-bS,Vz e r q]
theorem CM {α:Type}{f:α->α}{x:α}{m k:G3}(e:itF f x m=itF f x a)(ha:a<m)(hk:a<=k):itF f x (a+(k-a)%(m-a))=itF f x k:=by
 have e':itF f x (a+(m-a))=itF f x a:=by rw [show a+(m-a)=m by omega];exact e
 have h:=Vz e' ((k-a)%(m-a)) ((k-a) / (m-a));have h2:=gD (k-a) (m-a);rw [show a+(m-a)*((k-a) / (m-a))+(k-a)%(m-a)=k by omega] at h;exact h.symm
theorem ZX [DecidableEq α]: ∀ {l m:G0 α},l.Nodup->(∀x∈l,x∈m)->l.length<=m.length
 | [],_,_,_=>M6 _
 |a::l,m,nd,h=>by
  have hm:=h a P6;have h2:l.length<=(m.erase a).length:=ZX (L9.mp nd).2 λx hx=>by
   have hxa:x≠a:=λe=>(L9.mp nd).1 (e ▸ hx)
   exact(cB hxa).mpr (h x (R3 _ hx))
  rw [aX hm] at h2;have:=bJ hm;simp only [D8];omega
def HR (S:G0 G3):A6:=yt (zC S)
theorem CN (h:HD)(S:G0 G3):ToP h (vk S) (HR S):=by rw [Yy];exact⟨_,rfl,wq h _⟩
theorem WT: ∀a b:G0 P4,L0 (a.map bH) (b.map bH)=decide (a=b)
 | [],[]=>by simp [L0]
 | [],_::_=>by simp [L0]
 |_::_,[]=>by simp [L0]
 |x::a,y::b=>by
  show ((x==y)&&L0 (a.map .int) (b.map .int))=_;rw [WT a b,Q7];simp
theorem Dc (a b:G0 P4):F7 (yt a) (yt b)=decide (a=b):=WT a b
theorem De {α:Type}{f:G3->α}{L:G3}(h:1<=L):atI ((G6 L).map f) (-1)=some (f (L-1)):=by
 unfold atI ixN;rw [G8,R6,D5 (by decide),D4 (by omega)];show ((G6 L).map f)[(-1+(L:P4)).toNat]? =_;rw [show (-1+(L:P4)).toNat=L-1 by omega,D2,O9 (by omega)];rfl
structure Enc {α:Type}[DecidableEq α](e:α->D)(p:α->A6):Prop where
 to: ∀ (h:HD) a,ToP h (e a) (p a)
 lay: ∀a,(p a).canLay0=true
 dp: ∀a,(p a).depth<=60
 eq: ∀a b,F7 (p a) (p b)=decide (a=b)
section
variable {α:Type}[DecidableEq α]{e:α->D}{p:α->A6}
theorem Enc.tos (E:Enc e p)(h:HD): ∀as:G0 α,ToPs h (as.map e) (as.map p)
 | []=>rfl
 |a::as=>⟨_,_,rfl,E.to h a,E.tos h as⟩
theorem Enc.lays (E:Enc e p): ∀as:G0 α,C1 (as.map p)=true
 | []=>rfl
 |a::as=>by show (F6 (p a)&&_)=true;rw [E.lays as,E.lay a];rfl
theorem NX (E:Enc e p){neg:M7}{x:α}{as:G0 α}{a:P5}{h:HD}{Q:KD}(ha:h a=some (as.map e))(q: ∀b:M7,(b=true↔x∈as)->Q (.bl (neg !=b)) h):inE neg (e x) (.lst a) h Q:=by
 refine⟨p x,as.map p,E.to h x,.inl ⟨a,_,rfl,ha,E.tos h as⟩,E.lay x,E.lays as,E.dp x,q _ ?_⟩;rw [List.any_map,fP];constructor
 ·rintro ⟨y,hy,z⟩;have:y=x:=by simpa [K8,E.eq] using z
  rw [<-this];exact hy
 ·intro hi;exact⟨x,hi,by simp [K8,E.eq]⟩
theorem Af (E:Enc e p){x:α}{as:G0 α}{a:P5}{h:HD}(ha:h a=some (as.map e))(hx:x∈as)(hl:as.length<=100000):
 ∃ (j:G3) (q:A6) (qs:G0 A6) (z:A6),as[j]? =some x/\ToP h (.lst a) (.list qs)/\ToP h (e x) q/\q.canLay0=true/\C1 qs=true/\q.depth<=60/\j<1000000/\qs[j]? =some z/\F7 z q=true/\(∀m y,m<j->qs[m]? =some y->F7 y q=false):=by
 have hj:=dA.mpr hx;have ex:as[as.idxOf x]? =some x:=by rw [G7 hj,Z9 hj]
 refine⟨as.idxOf x,p x,as.map p,p x,ex,⟨a,_,rfl,ha,E.tos h as⟩,E.to h x,E.lay x,E.lays as,E.dp x,by omega,?_,by rw [E.eq,D9 rfl],λm y hm hy=> ?_⟩
 ·rw [D2,ex];rfl
 ·rw [D2] at hy;have hml:m<as.length:=by omega
  rw [G7 hml] at hy;cases hy;rw [E.eq];have:=List.not_of_lt_findIdx (p:=(· ==x)) (xs:=as) hm;simpa using this
end
theorem wv: ∀a b:G0 (G0 P4),L0 (a.map yt) (b.map yt)=decide (a=b)
 | [],[]=>by simp [L0]
 | [],_::_=>by simp [L0]
 |_::_,[]=>by simp [L0]
 |x::a,y::b=>by
  show (F7 (yt x) (yt y)&&L0 (a.map yt) (b.map yt))=_;rw [wv a b,Dc,Q7];simp
theorem encT:Enc jC vW:=⟨JC,λT=>by unfold vW;simp only [F6];exact wt T,λT=>by unfold vW;simp only [K2];have:=wV T;omega,wv⟩
def mk1 (n:G3)(T:G0 (G0 P4))(M:G0 (G0 P4)):G0 (G0 P4):=jj n (yr n M T)
def ww (n:G3)(T:G0 (G0 P4))(i:G3):G0 (G0 P4):=itF (mk1 n T) (jj n T) i
theorem Df (n:G3)(T:G0 (G0 P4)): ∀i,∃M,ww n T i=jj n M
 |0=>⟨T,rfl⟩
 |_+1=>⟨_,rfl⟩
theorem YA (n:G3)(T:G0 (G0 P4))(i:G3):Sq n 1 (ww n T i):=by
 obtain⟨M,e⟩:=Df n T i;rw [e];exact Sq.mark M
theorem Zu (h:Sq n e T)(hn:n<=8): ∀i,ww n T i=jj n (jZ n T (i+1))
 |0=>by
  show jj n T=jj n (yr n (UI n) T);rw [XJ h hn]
 |i+1=>by
  show jj n (yr n (ww n T i) T)=jj n (yr n (jZ n T (i+1)) T);rw [Zu h hn i,yU (Sq.mark (n:=n) _) h,yU (h.pow hn (i+1)) h,ZW]
def RP (n:G3)(T:G0 (G0 P4))(k i j:G3):Prop:=ent (jZ n T k) i j≠0
section
variable {n e:G3}{T:G0 (G0 P4)}
theorem zF (h:Sq n e T)(hn:n<=8)(a b:G3){i j:G3}(hi:i<n)(hj:j<n):RP n T (a+b) i j↔ ∃k,k<n/\RP n T a i k/\RP n T b k j:=by
 unfold RP;rw [pow_add h hn a b];exact zR (h.pow hn a) (h.pow hn b) hi hj
theorem vq (h:Sq n e T)(hn:n<=8){c x:G3}(hx:x<n)(l:RP n T c x x): ∀q,RP n T (c*(q+1)) x x
 |0=>by rw [Q8,Nat.mul_one];exact l
 |q+1=>by
  rw [bI];exact(zF h hn _ _ hx hx).mpr ⟨x,hx,vq h hn hx l q,l⟩
theorem zT {i j:G3}(hi:i<n)(hj:j<n):RP n T 0 i j↔i=j:=by
 unfold RP;show ent (UI n) i j≠0↔_;unfold UI;rw [yC hi hj]
 by_cases z:i=j
 ·simp [z]
 ·simp [z]
theorem VA (h:Sq n e T)(hn:n<=8): ∀ (m:G3) {i j:G3},i<n->j<n->RP n T m i j-> ∃v:G3->G3,v 0=i/\v m=j/\(∀t,t<=m->v t<n)/\ ∀t,t<m->RP n T 1 (v t) (v (t+1))
 |0,i,j,hi,hj,r=>by
  have:=(zT hi hj).mp r;exact⟨λ_=>i,rfl,this,λ_ _=>hi,λt ht=>by omega⟩
 |m+1,i,j,hi,hj,r=>by
  obtain⟨k,hk,r1,r2⟩:=(zF h hn m 1 hi hj).mp r;obtain⟨v,v0,vm,vl,vr⟩:=VA h hn m hi hk r1;refine⟨λt=>if t<=m then v t else j,?_,?_,λt _=> ?_,λt ht=> ?_⟩
  ·simp [v0]
  ·show (if m+1<=m then v (m+1) else j)=j;rw [D5 (by omega)]
  ·show (if t<=m then v t else j)<n;split
   ·exact vl t (by assumption)
   ·exact hj
  ·show RP n T 1 (if t<=m then v t else j) (if t+1<=m then v (t+1) else j);rw [D4 (by omega)]
   by_cases z:t+1<=m
   ·rw [D4 z];exact vr t (by omega)
   ·rw [D5 z,show t=m by omega,vm];exact r2
theorem zU (h:Sq n e T)(hn:n<=8){m:G3}{v:G3->G3}(vl: ∀t,t<=m->v t<n)(vr: ∀t,t<m->RP n T 1 (v t) (v (t+1)))(a:G3): ∀b,a+b<=m->RP n T b (v a) (v (a+b))
 |0,hb=>(zT (vl a (by omega)) (vl a (by omega))).mpr rfl
 |b+1,hb=>(zF h hn b 1 (vl a (by omega)) (vl _ hb)).mpr ⟨v (a+b),vl _ (by omega),zU h hn vl vr a b (by omega),vr (a+b) (by omega)⟩
theorem NY {n:G3}{v:G3->G3}(hv: ∀t,t<=n->v t<n): ∃a b,a<b/\b<=n/\v a=v b:=by
 by_cases z: ∃a b,a<b/\b<=n/\v a=v b
 ·exact z
 ·exfalso;have nd:((G6 (n+1)).map v).Nodup:=by
   unfold g7;rw [O4];refine sD (λ{a b} _ hb hab=> ?_) (List.pairwise_lt_range (n:=n+1));intro e;exact z ⟨a,b,hab,by have:=D3.mp hb;omega,e⟩
  have:=ZX nd (m:=G6 n) λx hx=>by
   obtain⟨t,ht,e⟩:=R8.mp hx;rw [<-e];exact D3.mpr (hv t (by have:=D3.mp ht;omega))
  simp at this;omega
theorem CO (h:Sq n e T)(h6:n<=6){m i j:G3}(hm:n<=m)(hi:i<n)(hj:j<n)(r:RP n T m i j):RP n T (m+60) i j:=by
 have hn:n<=8:=by omega
 obtain⟨v,v0,vm,vl,vr⟩:=VA h hn m hi hj r;obtain⟨a,b,hab,hbn,eq⟩:=NY (n:=n) (v:=v) λt ht=>vl t (by omega)
 have ha:=vl a (by omega);have p1:RP n T a i (v a):=by have:=zU h hn vl vr 0 a (by omega);rw [v0,Q8] at this;exact this
 have p2:RP n T (b-a) (v a) (v a):=by
  have:=zU h hn vl vr a (b-a) (by omega);rw [show a+(b-a)=b by omega,<-eq] at this;exact this
 have p3:RP n T (m-a) (v a) j:=by
  have:=zU h hn vl vr a (m-a) (by omega);rw [show a+(m-a)=m by omega,vm] at this;exact this
 have p4:RP n T 60 (v a) (v a):=by
  have hc:b-a=1\/b-a=2\/b-a=3\/b-a=4\/b-a=5\/b-a=6:=by omega
  rcases hc with c|c|c|c|c|c<;>rw [c] at p2
  ·exact vq h hn ha p2 59
  ·exact vq h hn ha p2 29
  ·exact vq h hn ha p2 19
  ·exact vq h hn ha p2 14
  ·exact vq h hn ha p2 11
  ·exact vq h hn ha p2 9
 have p5:RP n T (60+(m-a)) (v a) j:=(zF h hn _ _ ha hj).mpr ⟨v a,ha,p4,p3⟩;have p6:RP n T (a+(60+(m-a))) i j:=(zF h hn _ _ hi hj).mpr ⟨v a,ha,p1,p5⟩;rw [show a+(60+(m-a))=m+60 by omega] at p6;exact p6
end
theorem yV {f g:G3->P4}(h: ∀k,k<n->f k<=g k):jB n f<=jB n g:=by
 induction n with
 |zero=>exact mF _
 |succ n ih=>rw [jt,jt];have:=ih λk hk=>h k (by omega);have:=h n (by omega);omega
theorem WU {f g:G3->P4}(h: ∀k,k<n->f k<=g k)(e:jB n g<=jB n f): ∀k,k<n->f k=g k:=by
 induction n with
 |zero=>intro k hk;omega
 |succ n ih=>
  rw [jt,jt] at e;have a:=yV λk (hk:k<n)=>h k (by omega)
  have b:=h n (by omega);intro k hk
  by_cases z:k=n
  ·subst z;omega
  ·exact ih (λk hk=>h k (by omega)) (by omega) k (by omega)
section
variable {n e:G3}{T:G0 (G0 P4)}
def tot (n:G3)(T:G0 (G0 P4))(k:G3):P4:=jB n λi=>jB n λj=>ent (jj n (jZ n T k)) i j
theorem JD {M:G0 (G0 P4)}{i j:G3}(hi:i<n)(hj:j<n):ent (jj n M) i j=if ent M i j=0 then 0 else 1:=yC hi hj
theorem CP (h:Sq n e T)(h6:n<=6){m:G3}(hm:n<=m): ∀i j,i<n->j<n->ent (jj n (jZ n T m)) i j<=ent (jj n (jZ n T (m+60))) i j:=λi j hi hj=>by
 rw [JD hi hj,JD hi hj]
 by_cases z:ent (jZ n T m) i j=0
 ·rw [D4 z];split<;>omega
 ·rw [D5 z,D5 (CO h h6 hm hi hj z)];exact mF _
theorem ME (h:Sq n e T)(h6:n<=6){m:G3}(hm:n<=m):jj n (jZ n T m)=jj n (jZ n T (m+60))\/tot n T m+1<=tot n T (m+60):=by
 have le:=CP h h6 hm;have a:tot n T m<=tot n T (m+60):=yV λi hi=>yV λj hj=>le i j hi hj
 by_cases z:tot n T (m+60)<=tot n T m
 ·left;refine(Sq.mark (n:=n) _).ext (Sq.mark (n:=n) _) λi j hi hj=> ?_
  have b:=WU (λi hi=>yV λj hj=>le i j hi hj) z i hi;exact WU (λj hj=>le i j hi hj) (by rw [b];exact mF _) j hj
 ·right;omega
theorem VB (k:G3)(h6:n<=6):0<=tot n T k/\tot n T k<=36:=by
 have r: ∀i,i<n->0<=(jB n λj=>ent (jj n (jZ n T k)) i j)/\(jB n λj=>ent (jj n (jZ n T k)) i j)<=6:=λi hi=>by
  have a: ∀j,j<n->0<=ent (jj n (jZ n T k)) i j/\ent (jj n (jZ n T k)) i j<=1:=λj hj=>by
   rw [JD hi hj];split<;>omega
  refine⟨vV λj hj=>(a j hj).1,?_⟩;have:=Yx (f:=λj=>ent (jj n (jZ n T k)) i j) λj hj=>(a j hj).2
  omega
 refine⟨vV λi hi=>(r i hi).1,?_⟩;have b:=Yx (f:=λi=>jB n λj=>ent (jj n (jZ n T k)) i j) λi hi=>(r i hi).2
 unfold tot;omega
theorem Ga (h:Sq n e T)(h6:n<=6): ∃t,t<=36/\jj n (jZ n T (n+60*t))=jj n (jZ n T (n+60*(t+1))):=by
 by_cases z: ∃t,t<=36/\jj n (jZ n T (n+60*t))=jj n (jZ n T (n+60*(t+1)))
 ·exact z
 ·exfalso;have g: ∀t:G3,t<=37->(t:P4)<=tot n T (n+60*t):=by
   intro t
   induction t with
   |zero=>intro _;exact(VB _ h6).1
   |succ t ih=>
    intro ht;have a:=ih (by omega);rcases ME h h6 (m:=n+60*t) (by omega) with b|b
    ·exact(z ⟨t,by omega,by rw [b];rfl⟩).elim
    ·have e1:n+60*t+60=n+60*(t+1):=by omega
     rw [e1] at b;omega
  have a:=g 37 (P2 _);have b:=(VB (T:=T) (n+60*37) h6).2;omega
theorem Dg (h:Sq n e T)(h1:1<=n)(h6:n<=6){L:G3}(nd:((G6 L).map (ww n T)).Nodup):L<=2225:=by
 by_cases z:L<=2225
 ·exact z
 ·exfalso;obtain⟨t,ht,eq⟩:=Ga h h6;have e1:ww n T (n+60*t-1)=ww n T (n+60*t+59):=by
   rw [Zu h (by omega),Zu h (by omega),show n+60*t-1+1=n+60*t by omega,show n+60*t+59+1=n+60*(t+1) by omega];exact eq
  have inj:=nd;unfold g7 at inj;rw [O4] at inj;have h2:=C5.mp inj (n+60*t-1) (n+60*t+59) (by simp;omega) (by simp;omega) (by omega);simp only [E8] at h2;exact h2 e1
structure Course (n:G3)(T:G0 (G0 P4))(L J:G3):Prop where
 nd:((G6 L).map (ww n T)).Nodup
 lt:J<L
 eq:ww n T L=ww n T J
end
theorem call_divmodB {X:Cx}:CallR X (.builtin "divmod") (λxs H Q=> ∃i j,xs= [.int i,.int j]/\(0<j/\j<2^200)/\ ∀p,H p=none->Q (.ref p) (upd H p (.tup [.int (i / j),.int (i%j)]))):=by
 intro pins s σ H xs us Q I r h;obtain⟨i,j,rfl,⟨h1,h2⟩,q⟩:=h;obtain⟨u,w',rfl,⟨t,rfl⟩,⟨t',rfl⟩⟩:=RS r;refine divmod_int (by omega) ?_ (.inl (PyProof.noPylong_of_log2 ?_))
 ·rw [gP i (by omega),gQ i (by omega)];have hn:H s.heap.objs.size=none:=I.hok.fresh (P2 _);refine⟨.ref s.heap.objs.size,_,?_,rfl,q _ hn⟩;refine I.laid (λb o e=>P1 _ e) (P2 _) ⟨by simp only [D8,B2];rw [tU];decide,[.int (i / j) s.toks,.int (i%j) (s.toks+1)],.cons ⟨_,rfl⟩ (.cons ⟨_,rfl⟩ .nil),?_⟩;exact⟨_,T5 s.heap rfl,rfl,rfl,0,rfl⟩
 ·have h3:j.natAbs<2^200:=ZU (by omega) h2;have h4:=(Nat.log2_lt (by omega:j.natAbs≠0)).mpr h3;omega
def CQ:RDn:=λds h Q=> ∃i j:P4,ds= [.int i,.int j]/\(0<j/\j<2^200)/\Q (.tup [.int (i / j),.int (i%j)]) h
theorem Gb {X:Cx}:vi X (.builtin "divmod") CQ:=call_divmodB.imp λxs H Q ⟨ds,h,Qd,r,rh,⟨i,j,e,c,q⟩,p⟩=>by
 subst e;obtain⟨v,w,e,r1,r2⟩:=vT r;cases (show v= .int i from r1);cases (show w= .int j from r2);exact⟨i,j,e,c,λa ha=>p (.tup [.int (i / j),.int (i%j)]) _ _ _ (.new ha) (rh.new ha) ⟨a,_,rfl,ji,.cons rfl (.cons rfl .nil)⟩ q⟩
theorem Ag {L J:G3}(c:Course n T L J){i:G3}(hi:J<=i):ww n T (J+(i-J)%(L-J))=ww n T i:=CM c.eq c.lt hi
theorem Gc {prog:S7}{w:N8}{A:N3}(hh:A.handled=none)(it t:P5)(items:S9 G1)(n:G3)(hn:items.size<=n):
 Draws prog w A it [it,t] n (λ_ _=>False) (λi h=>i=n/\h.IsListIter it t n/\h.IsList t items) where
 live:=λ_ _ st=>let ⟨o,ho,_⟩:=st.2.1;⟨o,ho⟩
 frame:=λ_ _ _ st hk=>⟨st.1,st.2.1.at λo e=>hk it (by simp) o e,st.2.2.at λo e=>hk t (by simp) o e⟩
 item:=λi s Q E hi st hQ=>absurd st.1 (T2 hi)
 done:=λs Q E st hE=>wpAny_nextOf_list_end hh st.2.1 st.2.2 (kX hn) hE
def Sw (K:G5)(a:P5):It:=
 ⟨λi H=> ∃xs x,SqL K H a xs/\xs[i]? =some x,λi H x H'=> ∃p v,H p=none/\(∀xs,SqL K H a xs->xs[i]? =some v)/\x= .ref p/\H'=upd H p (.tup [.int i,v]),λi H=> ∃xs,SqL K H a xs/\xs.length<=i⟩
theorem Gd {P:S7}{w:N8}{K:G5}{es:G0 M5}{k:G3}{pos:Pos}(a it e:P5)(hei:e≠it)(hae:a≠e)(hai:a≠it):Turn P w K (.Tuple es k pos) (Sw K a) [e,it] e (λi h=>(∃old,IsEnum h e it i old)/\h.IsListIter it a i) where
 mem:=by simp
 obj:=λi h st b hb=>by
  rcases S5.mp hb with z|z
  ·subst z;obtain⟨old,q⟩:=st.1;exact⟨_,q,λv z=>by cases z⟩
  ·have z:=G9.mp z;subst z;obtain⟨o,q,c,d⟩:=st.2;exact⟨o,q,λv z=>by rw [d] at z;cases z⟩
 keep:=λi h h' st k=>⟨let ⟨old,q⟩:=st.1;⟨old,k e (by simp) _ q⟩,st.2.at λo q=>k it (by simp) o q⟩
 item:=by
  intro X hP hw hK hc i pins s σ H E I hf st hg;subst hP hw hK;obtain⟨xs,x,hq,hx⟩:=hg;obtain⟨its,rv,p,hz⟩:=I.list hq;obtain⟨u,hu,ru⟩:=rv.get hx;have hi:i<its.toArray.size:=by have:=(D6.mp hu).1;simpa using this
  obtain⟨old,he⟩:=st.1;have helt:e<s.heap.objs.size:=R1 he;refine wpAny_pyNext_enum_itemD (Draws.list (prog:=X.prog) (w:=X.w) (A:=X.A.in1) (I.ok.hd hc) it a hai its.toArray) he ⟨st.2,p.isList⟩ hi hei (by simp [hei,K9 hae]) λx' h' tk hx' ho hs' hT hsz hk=> ?_
  have ex:x'=u:=A2 (hx'.symm.trans (show its.toArray[i]? =some u by simpa using hu));subst ex;refine⟨_,rfl,wpAny_letOwnedTupleGo_enum ho λh2 he2 hs2=> ?_⟩;have hn:H s.heap.objs.size=none:=I.hok.fresh (P2 _);have hT2:h2.get? s.heap.objs.size=some {cls:= .type "tuple",data:= .seq #[.int i tk,x']}:=(hs2.2 _ (Q6 helt)).trans hT;refine⟨.ref s.heap.objs.size,upd H s.heap.objs.size (.tup [.int i,x]),?_,rfl,⟨_,x,hn,λys hy=>by rw [I.list_inj hy hq];exact hx,rfl,rfl⟩,⟨⟨x',by simpa using he2⟩,hs'.1.at λo y=>(hs2.2 it (K9 hei)).trans y⟩,λb hb=> ?_⟩
  ·refine I.turnLaid (h':=h2) (t':=tk+1) (ch:= [e,it]) (λb u hb q=> ?_) hf (P2 _) ⟨by show 2<=sizeLine;decide,[.int i tk,x'],.cons ⟨tk,rfl⟩ (.cons ru .nil),⟨_,hT2,rfl,rfl,_,rfl⟩⟩;have b1:b≠e:=λz=>hb (by simp [z])
   have b2:b≠it:=λz=>hb (by simp [z])
   exact(hs2.2 b b1).trans (hk b u b1 b2 q)
  ·have f:=(hf b hb).1;have:b≠s.heap.objs.size:=λz=>by
    rcases S5.mp hb with w|w
    ·rw [<-w,z] at helt;exact absurd helt (C4 _)
    ·have w:=G9.mp w;obtain⟨o,ho',_⟩:=st.2;have:=R1 ho';rw [<-w,z] at this;exact absurd this (C4 _)
   rw [jg this];exact f
 done:=by
  intro X hP hw hK hc i pins s σ H E I hf st hg;subst hP hw hK;obtain⟨xs,hq,hx⟩:=hg;obtain⟨its,rv,p,hz⟩:=I.list hq;obtain⟨old,he⟩:=st.1;have hl:=rv.length;refine wpAny_pyNext_enum_endD (Gc (prog:=X.prog) (w:=X.w) (A:=X.A.in1) (I.ok.hd hc) it a its.toArray i (by simp;omega)) he ⟨rfl,st.2,p.isList⟩ λh' hx'=>⟨rfl,I.turnL (t':=s.toks) (ch:= [it]) (λb o hb q=>hx' b o (λz=>hb (by simp [z])) q) λb hb=>hf b (R3 _ hb)⟩
 self:=λ_ _ _ _ _ st h=>let ⟨_,q⟩:=st.1;oN q h
section
variable {X:Cx}
def Ah (K:G5)(ta:TA):TI:=λσ H R=>ta σ H λvs H1=> ∃a,vs= [.ref a]/\(∃xs,SqL K H1 a xs)/\R (Sw K a) H1
theorem MF {es:G0 M5}{k:G3}{tp:Pos}{a:M5}{ta:TA}{p pos:Pos}(hg:Gl X "enumerate")(hm:X.mg "enumerate" =none)(ha:PA X [a] ta)(hs:R4 [a] X.env= [(false,E5 a X.env)]:=by rfl):
 PI X (.Tuple es k tp) (.Call (.Name "enumerate" p) [a] [] pos) (Ah X.K ta):=by
 intro pins s σ H R I h;refine Call_ (WI I hg hm (show Q5 "enumerate" =some (.type "enumerate") by decide +kernel) (Y1 (thn (ha pos pins s σ H _ I h) λus s1 ⟨vs,H1,I1,r1,q1⟩=> ?_) hs rfl));obtain⟨a,e,⟨xs,hq⟩,q⟩:=q1;subst e;cases r1 with
 |cons r rr=>
  cases rr;cases r;obtain⟨its,rv,p,hz⟩:=I1.list hq;have hlt:a<s1.heap.objs.size:=by obtain⟨o,ho,_⟩:=p.isList;exact R1 ho
  refine call_enumerate_list p.isList λh' he hit _ hk=> ?_
  refine oN he ?_;refine⟨s1.heap.objs.size+1,[s1.heap.objs.size+1,s1.heap.objs.size],_,_,H1,rfl,I1.kept (t':=s1.toks) hk,Gd a s1.heap.objs.size (s1.heap.objs.size+1) (Q6 (A4 _)) (T2 (bY hlt)) (T2 hlt),⟨⟨_,he⟩,hit⟩,λb hb=> ?_,q⟩;have hb':s1.heap.objs.size<=b:=by
   rcases S5.mp hb with w|w
   ·rw [w];exact pQ _
   ·rw [G9.mp w];exact P2 _
  exact I1.fpOk hb' (I1.hok.fresh hb')
end
def iEL (ta:TAD):TID:=λσ h R=>ta σ h λxs h1=> ∃a,xs= [.lst a]/\R (λh=>(h a).map Da) h1
section
variable {K:G5}
theorem Ge (H:Hp)(a:P5):FT K H (λh=>(h a).map Da) (Sw K a):=λH' h' k rh ds' e i=>by
 have e:(h' a).map Da=some ds':=e;cases hd:h' a with
 |none=>rw [hd] at e;cases e
 |some ds=>
  rw [hd] at e;cases e;obtain⟨vs,hv',r'⟩:=rh a ds hd;refine⟨λd hd=> ?_,λhl=>⟨vs,SqL.of hv',by rw [<-r'.length,<-vp];exact hl⟩⟩;obtain⟨x,hx,ed⟩:=XN hd;subst ed;obtain⟨v,e1,e2⟩:=r'.get hx;refine⟨⟨vs,v,SqL.of hv',e1⟩,λx' H'' ⟨p,v',hp,hx',ex,eH⟩=> ?_⟩;subst ex eH;have ev:v'=v:=by have:=hx' vs (SqL.of hv');rw [e1] at this;exact(A2 this).symm
  subst ev;have k2:Kept H' (upd H' p (.tup [.int i,v'])):= .new hp;exact⟨k2,RelH.new rh hp,p,[.int i,v'],rfl,ji,_,_,rfl,rfl,_,_,rfl,e2.mono k2,rfl⟩
theorem MG {ta:TAD}: ∀σ H R,LI K (iEL ta) σ H R->Ah K (LA K ta) σ H R:=λσ H R ⟨IG,h,Rd,rs,rh,q,p⟩=>
 LA.bind rs rh q λds vs h1 H1 k1 rs1 rh1 r1 ⟨a,e,q1⟩=>by
  subst e;obtain⟨v,e,r2⟩:=jw r1;obtain⟨e',ws,hv⟩:=(show v= .ref a/\ ∃vs,H1 a=some (.lst vs) from r2);subst e';exact⟨a,e,⟨ws,SqL.of hv⟩,p _ _ _ _ k1 rh1 (Ge H1 a) q1⟩
end
section
variable {X:Cx}
theorem MJ {es:G0 M5}{k:G3}{tp:Pos}{a:M5}{ta:TAD}{p pos:Pos}(hg:Gl X "enumerate")(hm:X.mg "enumerate" =none)(ha:JA X [a] ta)(hs:R4 [a] X.env= [(false,E5 a X.env)]:=by rfl):
 JI X (.Tuple es k tp) (.Call (.Name "enumerate" p) [a] [] pos) (iEL ta):=⟨(MF hg hm ha.to hs).imp MG⟩
end
section
variable {n e f:G3}{M T U:G0 (G0 P4)}
theorem Dh (h:Sq n e T)(g:Sq n f U):jj n (yr n T (jj n U))=jj n (yr n T U):=by
 rw [yU h (Sq.mark (n:=n) U),ZW,<-yU h g]
end
def vt (d:D)(a b:P4):M7:=match d with
 | .int x=>decide (a<=x)&&decide (x<=b)
 |_=>false
def YB (d:D)(m:P4):M7:=match d with
 | .tup es=>es.all λx=>vt x 0 (m-1)
 |_=>false
end L2
set_option maxRecDepth 35000
namespace L2
open PySem PySem.Spec PyProof.Rows PySem.SeqAt
def Sx (T:G0 (G0 P4))(n p:G3):G0 G3:=(G6 n).filter λj=>decide (ent T p j>0)
def cnt (T:G0 (G0 P4))(n o:G3):G3->G3->P4
 |0,p=>if p=o then 1 else 0
 |t+1,p=>((Sx T n p).map (cnt T n o t)).sum
section
variable {T:G0 (G0 P4)}{n o:G3}
def HS (T:G0 (G0 P4))(n o t p:G3):G3:=(Sx T n p).findIdx λj=>decide (cnt T n o t j>0)
def nxt (T:G0 (G0 P4))(n o t p:G3):G3:=(Sx T n p).getD (HS T n o t p) 0
end
theorem MK {α:Type}{xs:G0 α}{x:α}(h1:1<=xs.length)(h:xs[xs.length-1]? =some x):atI xs (-1)=some x:=by
 unfold atI ixN;rw [D5 (by decide),D4 (by omega)];show xs[(-1+(xs.length:P4)).toNat]? =_;rw [show (-1+(xs.length:P4)).toNat=xs.length-1 by omega];exact h
end L2
namespace L2
open PySem PySem.Spec PyProof.Rows
theorem ObjOk.there {P:S7}{w:N8}{H:Hp}{h:F4}{a:P5}{o:HO}(x:ObjOk P w H h a o): ∃u,h.get? a=some u:=by
 cases o with
 |lst xs=>obtain⟨_,_,_,_,e⟩:=x;exact⟨_,e⟩
 |tup xs=>obtain⟨_,_,_,p⟩:=x;obtain⟨o,e,_⟩:=p;exact⟨_,e⟩
 |dK kvs=>obtain⟨_,_,_,_,o,_,_,e,_⟩:=x;exact⟨_,e⟩
 |dT kvs=>obtain⟨_,_,_,_,o,_,_,e,_⟩:=x;exact⟨_,e⟩
 |set S n=>obtain⟨o,_,_,_,e,_⟩:=x;exact⟨_,e⟩
 |ins C dx fs=>obtain⟨_,_,_,e,_⟩:=x;exact⟨_,e⟩
 |own y=>obtain⟨_,e⟩:=x;exact⟨_,e⟩
 |xd fs=>obtain⟨_,⟨_,_,_,e,_⟩,_⟩:=x;exact⟨_,e⟩
 |rng lo hi=>obtain⟨_,_,_,e⟩:=x;exact⟨_,e⟩
 |frz ob u=>obtain⟨e,_⟩:=x;exact⟨_,e⟩
 |tbl ps=>exact⟨_,(show h.get? a=some _ from x)⟩
 |met f y=>exact⟨_,(show h.get? a=some _ from x)⟩
 |ext φ=>obtain⟨_,⟨_,e⟩,_⟩:=x;exact⟨_,e⟩
end L2
namespace L2
open PySem PySem.Spec PyProof.Rows PySem.W
abbrev TXD:=SD->HD->(Str->HD->Prop)->Prop
abbrev RDx:=G0 D->HD->(Str->HD->Prop)->Prop
abbrev N1:G0 Str:= ["_law_call","_law_found","_law_e","_law_word"]
end L2
namespace L2
open PySem PySem.Spec PyProof.Rows PySem.SeqAt
theorem vZ {α:Type}{p q:α->M7}: ∀ {l:G0 α},(∀x∈l,p x=true->q x=true)->(∃x,x∈l/\p x=false/\q x=true)->l.countP p+1<=l.countP q
 | [],_,⟨_,hx,_⟩=>by cases hx
 |a::l,hm,⟨x,hx,h1,h2⟩=>by
  have hm': ∀x∈l,p x=true->q x=true:=λy hy=>hm y (R3 _ hy)
  have le:l.countP p<=l.countP q:=List.countP_mono_left hm';rw [pH,pH]
  by_cases z:x=a
  ·subst z;rw [h1,h2];simp;omega
  ·have hx':x∈l:=(S5.mp hx).resolve_left z;have:=vZ hm' ⟨x,hx',h1,h2⟩
   by_cases w:p a=true
   ·rw [w,hm a P6 w];simp;omega
   ·rw [show p a=false by simpa using w];simp;omega
theorem CS {n:G3}(P:G3->G3->M7)(up: ∀m i,i<n->P m i=true->P (m+1) i=true)(st: ∀m,(∀i,i<n->P (m+1) i=P m i)-> ∀i,i<n->P (m+2) i=P (m+1) i)
 (M:G3)(hM: ∀m,M<=m-> ∀i,i<n->P m i=true)(ne: ∃i,i<n/\P 0 i=true): ∀i,i<n->P (n-1) i=true:=by
 have key: ∀m,(∀i,i<n->P m i=true)\/m+1<=(G6 n).countP (P m):=by
  intro m
  induction m with
  |zero=>
   obtain⟨i,hi,e⟩:=ne;exact .inr (mZ.mpr ⟨i,D3.mpr hi,e⟩)
  |succ m ih=>
   rcases ih with ih|ih
   ·exact .inl λi hi=>up m i hi (ih i hi)
   ·by_cases eq: ∀i,i<n->P (m+1) i=P m i
    ·left;have go: ∀t i,i<n->P (m+t+1) i=P (m+t) i:=by
      intro t
      induction t with
      |zero=>exact eq
      |succ t iht=>exact st (m+t) iht
     have all: ∀t i,i<n->P (m+t) i=P m i:=by
      intro t
      induction t with
      |zero=>intro i _;rfl
      |succ t iht=>intro i hi;rw [<-iht i hi];exact go t i hi
     intro i hi;rw [eq i hi,<-all M i hi];exact hM (m+M) (by omega) i hi
    ·right;have ⟨i,hi⟩: ∃i,i<n/\P (m+1) i≠P m i:=F9 λw=>eq λi hi=>F9 λw2=>w ⟨i,hi,w2⟩
     have hf:P m i=false:=by
      cases hp:P m i with
      |false=>rfl
      |true=>exact absurd ((up m i hi.1 hp).trans hp.symm) hi.2
     have ht:P (m+1) i=true:=by
      cases hp:P (m+1) i with
      |true=>rfl
      |false=>exact absurd (hp.trans hf.symm) hi.2
     have:=vZ (l:=G6 n) (p:=P m) (q:=P (m+1)) (λx hx=>up m x (D3.mp hx)) ⟨i,D3.mpr hi.1,hf,ht⟩;omega
 intro i hi;rcases key (n-1) with h|h
 ·exact h i hi
 ·have hle:(G6 n).countP (P (n-1))<=(G6 n).length:=lK;rw [R6] at hle;have:(G6 n).countP (P (n-1))=(G6 n).length:=by rw [R6];omega
  exact lL.mp this i (D3.mpr hi)
section
variable {n e:G3}{T:G0 (G0 P4)}
instance (k i j:G3):Decidable (RP n T k i j):=inferInstanceAs (Decidable (ent (jZ n T k) i j≠0))
theorem ZY (h:Sq n e T)(hn:n<=8)(n2:2<=n){K:G3}(f: ∀i j,i<n->j<n->RP n T K i j)(f1: ∀i j,i<n->j<n->RP n T (K+1) i j): ∃s c,1<=s/\s<=n-1/\c<n/\RP n T s c c:=by
 refine F9 λz=> ?_
 have drop: ∀m i j,i<n->j<n->n<=m->RP n T m i j->RP n T (m-n) i j:=by
  intro m i j hi hj hm r;obtain⟨v,v0,vm,vl,vr⟩:=VA h hn m hi hj r;obtain⟨a,b,hab,hbn,eq⟩:=NY (n:=n) (v:=v) λt ht=>vl t (by omega)
  have ha:=vl a (by omega);have p2:RP n T (b-a) (v a) (v a):=by
   have:=zU h hn vl vr a (b-a) (by omega);rw [show a+(b-a)=b by omega,<-eq] at this;exact this
  have hba:b-a=n:=by
   by_cases w:b-a<=n-1
   ·exact absurd ⟨b-a,v a,by omega,w,ha,p2⟩ z
   ·omega
  have a0:a=0:=by omega
  have bn:b=n:=by omega
  subst a0;subst bn;have p3:=zU h hn vl vr b (m-b) (by omega);rw [show b+(m-b)=m by omega,vm,<-eq,v0] at p3;exact p3
 have h0:0<n:=by omega
 have mod0: ∀m,RP n T m 0 0->m%n=0:=by
  intro m
  induction m using G3.strongRecOn with
  |_ m ih=>
   intro r
   by_cases w:m<n
   ·by_cases y:m=0
    ·subst y;exact Nat.zero_mod n
    ·exact absurd ⟨m,0,by omega,by omega,h0,r⟩ z
   ·rw [Nat.mod_eq_sub_mod (by omega)];exact ih (m-n) (by omega) (drop m 0 0 h0 h0 (by omega) r)
 have a:=eL (mod0 K (f 0 0 h0 h0));have b:=eL (mod0 (K+1) (f1 0 0 h0 h0));have c:=(oO a).mp b;have:=sE (by decide) c;omega
theorem HU (h:Sq n e T)(n1:1<=n)(h6:n<=6){K:G3}(hK:1<=K)(f:jI (jZ n T K)=true): ∃k,1<=k/\k<=30/\jI (jZ n T k)=true:=by
 have hn:n<=8:=by omega
 have all: ∀m,K<=m-> ∀i j,i<n->j<n->RP n T m i j:=λm hm=>by
  have:=UL h hn (a:=K) (by omega) f (m-K);rw [show K+(m-K)=m by omega] at this;exact(vX (h.pow hn m)).mp this
 have pre: ∀j,j<n-> ∃k,k<n/\RP n T 1 k j:=λj hj=>by
  have:=all (K-1+1) (by omega) 0 j (by omega) hj;obtain⟨k,hk,_,r⟩:=(zF h hn (K-1) 1 (by omega) hj).mp this;exact⟨k,hk,r⟩
 have keep: ∀i m t,i<n->(∀j,j<n->RP n T m i j)-> ∀j,j<n->RP n T (m+t) i j:=by
  intro i m t hi r
  induction t with
  |zero=>exact r
  |succ t ih=>intro j hj;obtain⟨k,hk,r1⟩:=pre j hj;exact(zF h hn (m+t) 1 hi hj).mpr ⟨k,hk,ih k hk,r1⟩
 by_cases n2:2<=n
 ·obtain⟨s,c,s1,sn,hc,rc⟩:=ZY h hn n2 (all K (P2 _)) (all (K+1) (by omega));have e1: ∀m,s*(m+1)=s+s*m:=λm=>by rw [bI];omega
  have A:=CS (n:=n) (λm j=>decide (RP n T (s*m) c j)) (λm j hj r=>D9 (by rw [e1];exact(zF h hn s (s*m) hc hj).mpr ⟨c,hc,rc,C7 r⟩))
   (λm eq j hj=>by
    have key: ∀m,RP n T (s*(m+1)) c j↔ ∃k,k<n/\RP n T (s*m) c k/\RP n T s k j:=λm=>by rw [bI];exact zF h hn (s*m) s hc hj
    have eq2: ∀k,k<n->(RP n T (s*(m+1)) c k↔RP n T (s*m) c k):=λk hk=>by simpa using eq k hk
    have:RP n T (s*(m+1+1)) c j↔RP n T (s*(m+1)) c j:=by
     rw [key (m+1),key m];exact⟨λ⟨k,hk,a,b⟩=>⟨k,hk,(eq2 k hk).mp a,b⟩,λ⟨k,hk,a,b⟩=>⟨k,hk,(eq2 k hk).mpr a,b⟩⟩
    simpa using this) K (λm hm j hj=>D9 (all _ (S4 hm (eM m s1)) c j hc hj)) ⟨c,hc,D9 (by rw [tG];exact(zT hc hc).mpr rfl)⟩
  have any_iff: ∀m i,((G6 (m+1)).any (λt=>decide (RP n T t i c))=true)↔ ∃t,t<=m/\RP n T t i c:=λm i=>by
   rw [fP];exact⟨λ⟨t,ht,r⟩=>⟨t,by have:=D3.mp ht;omega,C7 r⟩,λ⟨t,ht,r⟩=>⟨t,D3.mpr (by omega),D9 r⟩⟩
  have stp: ∀m i,i<n->((∃t,t<=m+1/\RP n T t i c)↔(i=c\/ ∃k,k<n/\RP n T 1 i k/\ ∃t,t<=m/\RP n T t k c)):=λm i hi=>by
   constructor
   ·rintro ⟨t,ht,r⟩;cases t with
    |zero=>exact .inl ((zT hi hc).mp r)
    |succ t=>
     rw [kT] at r;obtain⟨k,hk,a,b⟩:=(zF h hn 1 t hi hc).mp r;exact .inr ⟨k,hk,a,t,by omega,b⟩
   ·rintro (r|⟨k,hk,a,t,ht,b⟩)
    ·exact⟨0,by omega,(zT hi hc).mpr r⟩
    ·exact⟨1+t,by omega,(zF h hn 1 t hi hc).mpr ⟨k,hk,a,b⟩⟩
  have beq: ∀ {a b:M7},(a=true↔b=true)->a=b:=λ{a b} h=>by cases a<;>cases b<;>simp_all
  have B:=CS (n:=n) (λm i=>(G6 (m+1)).any (λt=>decide (RP n T t i c))) (λm i hi r=>by
   obtain⟨t,ht,r⟩:=(any_iff m i).mp r;exact(any_iff (m+1) i).mpr ⟨t,by omega,r⟩)
   (λm eq i hi=>beq (by
    have eq2: ∀k,k<n->((∃t,t<=m+1/\RP n T t k c)↔ ∃t,t<=m/\RP n T t k c):=λk hk=>by
     rw [<-any_iff (m+1) k,<-any_iff m k];have:=eq k hk;rw [this]
    rw [any_iff (m+2) i,any_iff (m+1) i,stp (m+1) i hi,stp m i hi];exact⟨λw=>w.elim .inl λ⟨k,hk,a,b⟩=> .inr ⟨k,hk,a,(eq2 k hk).mp b⟩,λw=>w.elim .inl λ⟨k,hk,a,b⟩=> .inr ⟨k,hk,a,(eq2 k hk).mpr b⟩⟩))
   K (λm hm i hi=>(any_iff m i).mpr ⟨K,hm,all K (P2 _) i c hi hc⟩) ⟨c,hc,(any_iff 0 c).mpr ⟨0,P2 _,(zT hc hc).mpr rfl⟩⟩
  refine⟨(n-1)+s*(n-1),by omega,?_,(vX (h.pow hn _)).mpr λi j hi hj=> ?_⟩
  ·have a:=mH (show s<=5 by omega) (show n-1<=5 by omega);omega
  ·obtain⟨t,ht,r⟩:=(any_iff (n-1) i).mp (B i hi);have row: ∀j,j<n->RP n T (t+s*(n-1)) i j:=λj hj=>(zF h hn t (s*(n-1)) hi hj).mpr ⟨c,hc,r,C7 (A j hj)⟩
   have:=keep i (t+s*(n-1)) (n-1-t) hi row j hj;rw [show t+s*(n-1)+(n-1-t)=n-1+s*(n-1) by omega] at this;exact this
 ·have hn1:n=1:=by omega
  refine⟨1,P2 _,by decide,(vX (h.pow hn 1)).mpr λi j hi hj=> ?_⟩;obtain⟨k,hk,r⟩:=pre j hj;rw [show i=k by omega];exact r
end
section
variable {n e:G3}{T:G0 (G0 P4)}
theorem vw (h:Sq n e T)(hn:n<=8){a b i j k:G3}(hi:i<n)(hk:k<n)(hj:j<n)(x:RP n T a i k)(y:RP n T b k j):RP n T (a+b) i j:=(zF h hn a b hi hj).mpr ⟨k,hk,x,y⟩
theorem ZZ (h:Sq n e T)(hn:n<=8){k:G3}:jI (jZ n T k)=true↔ ∀i j,i<n->j<n->RP n T k i j:=vX (h.pow hn k)
theorem Di (h:Sq n e T)(hn:n<=8){i j:G3}:RP n T 1 i j↔ent T i j≠0:=by unfold RP;rw [PV h hn]
end
theorem Ai {n:G3}(P:G3->G3->M7)(up: ∀m i,i<n->P m i=true->P (m+1) i=true)(st: ∀m,(∀i,i<n->P (m+1) i=P m i)-> ∀i,i<n->P (m+2) i=P (m+1) i)
 (M:G3)(hM: ∀m,M<=m-> ∀i,i<n->P m i=true){s:G3}(c0:s<=(G6 n).countP (P 0)): ∀i,i<n->P (n-s) i=true:=by
 have key: ∀m,(∀i,i<n->P m i=true)\/m+s<=(G6 n).countP (P m):=by
  intro m
  induction m with
  |zero=>exact .inr (by omega)
  |succ m ih=>
   rcases ih with ih|ih
   ·exact .inl λi hi=>up m i hi (ih i hi)
   ·by_cases eq: ∀i,i<n->P (m+1) i=P m i
    ·left;have go: ∀t i,i<n->P (m+t+1) i=P (m+t) i:=by
      intro t
      induction t with
      |zero=>exact eq
      |succ t iht=>exact st (m+t) iht
     have all: ∀t i,i<n->P (m+t) i=P m i:=by
      intro t
      induction t with
      |zero=>intro i _;rfl
      |succ t iht=>intro i hi;rw [<-iht i hi];exact go t i hi
     intro i hi;rw [eq i hi,<-all M i hi];exact hM (m+M) (by omega) i hi
    ·right;have ⟨i,hi⟩: ∃i,i<n/\P (m+1) i≠P m i:=F9 λw=>eq λi hi=>F9 λw2=>w ⟨i,hi,w2⟩
     have hf:P m i=false:=by
      cases hp:P m i with
      |false=>rfl
      |true=>exact absurd ((up m i hi.1 hp).trans hp.symm) hi.2
     have ht:P (m+1) i=true:=by
      cases hp:P (m+1) i with
      |true=>rfl
      |false=>exact absurd (hp.trans hf.symm) hi.2
     have:=vZ (l:=G6 n) (p:=P m) (q:=P (m+1)) (λx hx=>up m x (D3.mp hx)) ⟨i,D3.mpr hi.1,hf,ht⟩;omega
 have hle: ∀m,(G6 n).countP (P m)<=n:=λm=>by
  have:(G6 n).countP (P m)<=(G6 n).length:=lK
  rwa [R6] at this
 have:=hle 0;intro i hi;rcases key (n-s) with h|h
 ·exact h i hi
 ·have hl:=hle (n-s);have:(G6 n).countP (P (n-s))=(G6 n).length:=by rw [R6];omega
  exact lL.mp this i (D3.mpr hi)
theorem VC {n:G3}: ∀ {vs:G0 G3},vs.Nodup->(∀v∈vs,v<n)->vs.length<=(G6 n).countP λi=>decide (i∈vs)
 | [],_,_=>M6 _
 |v::vs,nd,lt=>by
  rw [L9] at nd;have ih:=VC (n:=n) nd.2 λw hw=>lt w (R3 _ hw)
  have:=vZ (l:=G6 n) (p:=λi=>decide (i∈vs)) (q:=λi=>decide (i∈v::vs)) (λx _ hx=>D9 (R3 _ (C7 hx))) ⟨v,D3.mpr (lt v P6),T6 nd.1,D9 P6⟩;rw [D8];omega
section
variable {n e:G3}{T:G0 (G0 P4)}
theorem bEq {a b:M7}(h:a=true↔b=true):a=b:=by cases a<;>cases b<;>simp_all
theorem Dj (h:Sq n e T)(hn:n<=8){K:G3}(all: ∀m,K<=m-> ∀i j,i<n->j<n->RP n T m i j){s c:G3}(s1:1<=s)(hc:c<n)(rc:RP n T s c c): ∀j,j<n->RP n T (s*(n-1)) c j:=by
 have e1: ∀m,s*(m+1)=s+s*m:=λm=>by rw [bI];omega
 have A:=CS (n:=n) (λm j=>decide (RP n T (s*m) c j)) (λm j hj r=>D9 (by rw [e1];exact(zF h hn s (s*m) hc hj).mpr ⟨c,hc,rc,C7 r⟩))
  (λm eq j hj=>by
   have key: ∀m,RP n T (s*(m+1)) c j↔ ∃k,k<n/\RP n T (s*m) c k/\RP n T s k j:=λm=>by rw [bI];exact zF h hn (s*m) s hc hj
   have eq2: ∀k,k<n->(RP n T (s*(m+1)) c k↔RP n T (s*m) c k):=λk hk=>by simpa using eq k hk
   have:RP n T (s*(m+1+1)) c j↔RP n T (s*(m+1)) c j:=by
    rw [key (m+1),key m];exact⟨λ⟨k,hk,a,b⟩=>⟨k,hk,(eq2 k hk).mp a,b⟩,λ⟨k,hk,a,b⟩=>⟨k,hk,(eq2 k hk).mpr a,b⟩⟩
   simpa using this) K (λm hm j hj=>D9 (all _ (S4 hm (eM m s1)) c j hc hj)) ⟨c,hc,D9 (by rw [tG];exact(zT hc hc).mpr rfl)⟩
 exact λj hj=>C7 (A j hj)
theorem CT (h:Sq n e T)(hn:n<=8){K:G3}(all: ∀m,K<=m-> ∀i j,i<n->j<n->RP n T m i j)(S:G3->M7){s:G3}(s1:1<=s)(c0:s<=(G6 n).countP S): ∀i,i<n-> ∃t c,t<=n-s/\c<n/\S c=true/\RP n T t i c:=by
 classical
 have exS: ∃c,c<n/\S c=true:=by
  obtain⟨c,hc,e⟩:=mZ.mp (show 0<(G6 n).countP S by omega);exact⟨c,D3.mp hc,e⟩
 obtain⟨KH,KI,KL⟩:=exS
 let R:G3->G3->Prop:=λm i=> ∃t c,t<=m/\c<n/\S c=true/\RP n T t i c
 have stp: ∀m i,i<n->(R (m+1) i↔(S i=true\/ ∃k,k<n/\RP n T 1 i k/\R m k)):=λm i hi=>by
  constructor
  ·rintro ⟨t,c,ht,hc,ec,r⟩;cases t with
   |zero=>rw [(zT hi hc).mp r];exact .inl ec
   |succ t=>
    rw [kT] at r;obtain⟨k,hk,a,b⟩:=(zF h hn 1 t hi hc).mp r;exact .inr ⟨k,hk,a,t,c,by omega,hc,ec,b⟩
  ·rintro (r|⟨k,hk,a,t,c,ht,hc,ec,b⟩)
   ·exact⟨0,i,by omega,hi,r,(zT hi hi).mpr rfl⟩
   ·exact⟨1+t,c,by omega,hc,ec,(zF h hn 1 t hi hc).mpr ⟨k,hk,a,b⟩⟩
 have A:=Ai (n:=n) (s:=s) (λm i=>decide (R m i)) (λm i hi r=>by
  have r:=C7 r;obtain⟨t,c,ht,x⟩:=r;exact D9 ⟨t,c,by omega,x⟩) (λm eq i hi=>bEq (by
  rw [aA,aA,stp (m+1) i hi,stp m i hi];have eq2: ∀k,k<n->(R (m+1) k↔R m k):=λk hk=>by
   have:=eq k hk;rw [Q7,aA,aA] at this;exact this
  exact⟨λz=>z.imp id λ⟨k,hk,a,b⟩=>⟨k,hk,a,(eq2 k hk).mp b⟩,λz=>z.imp id λ⟨k,hk,a,b⟩=>⟨k,hk,a,(eq2 k hk).mpr b⟩⟩)) K (λm hm i hi=>D9 ⟨m,KH,P2 _,KI,KL,all m hm i KH hi KI⟩) (by
  have e:(G6 n).countP (λi=>decide (R 0 i))=(G6 n).countP S:=List.countP_congr λi hi=>by
   have hi:=D3.mp hi;rw [aA];constructor
   ·rintro ⟨t,c,ht,hc,ec,r⟩;rw [show t=0 by omega] at r;rw [(zT hi hc).mp r];exact ec
   ·exact λr=>⟨0,i,P2 _,hi,r,(zT hi hi).mpr rfl⟩
  rw [e];exact c0)
 exact λi hi=>C7 (A i hi)
theorem CU (h:Sq n e T)(hn:n<=8){K:G3}(all: ∀m,K<=m-> ∀i j,i<n->j<n->RP n T m i j)(S:G3->M7){s q:G3}(s1:1<=s)(q1:1<=q)(c0:s<=(G6 n).countP S)(rd: ∀c,c<n->S c=true->RP n T q c c)(on: ∀c,c<n->S c=true-> ∃d,d<n/\S d=true/\RP n T 1 c d):
 jI (jZ n T (n-s+q*(n-1)))=true:=(ZZ h hn).mpr λi j hi hj=>by
 obtain⟨t,c,ht,hc,ec,r⟩:=CT h hn all S s1 c0 i hi;have stay: ∀d,∃c',c'<n/\S c'=true/\RP n T (t+d) i c':=by
  intro d
  induction d with
  |zero=>exact⟨c,hc,ec,r⟩
  |succ d ih=>
   obtain⟨c',hc',ec',r'⟩:=ih;obtain⟨d',hd',ed',rd'⟩:=on c' hc' ec';exact⟨d',hd',ed',vw (a:=t+d) (b:=1) h hn hi hc' hd' r' rd'⟩
 obtain⟨c',hc',ec',r'⟩:=stay (n-s-t);rw [show t+(n-s-t)=n-s by omega] at r';exact vw h hn hi hc' hj r' (Dj h hn all q1 hc' (rd c' hc' ec') j hj)
theorem Dk (h:Sq n e T)(hn:n<=8)(n2:2<=n){K:G3}(all: ∀m,K<=m-> ∀i j,i<n->j<n->RP n T m i j): ∃m,1<=m/\m<=(n-1)*(n-1)+1/\jI (jZ n T m)=true:=by
 obtain⟨s0,c0,s01,s0n,hc0,rc0⟩:=ZY h hn n2 (all K (P2 _)) (all (K+1) (by omega));have least: ∀s,(1<=s/\s<=n-1/\ ∃c,c<n/\RP n T s c c)-> ∃s c,1<=s/\s<=n-1/\c<n/\RP n T s c c/\ ∀t d,1<=t->t<s->d<n-> ¬RP n T t d d:=by
  intro s
  induction s using G3.strongRecOn with
  |_ s ih=>
   rintro ⟨s1,sn,c,hc,rc⟩
   by_cases z: ∃t d,1<=t/\t<s/\d<n/\RP n T t d d
   ·obtain⟨t,d,t1,ts,hd,rd⟩:=z;exact ih t ts ⟨t1,by omega,d,hd,rd⟩
   ·exact⟨s,c,s1,sn,hc,rc,λt d t1 ts hd rd=>z ⟨t,d,t1,ts,hd,rd⟩⟩
 obtain⟨s,c,s1,sn,hc,rc,mn⟩:=least s0 ⟨s01,s0n,c0,hc0,rc0⟩;obtain⟨v,v0,vs,vl,vr⟩:=VA h hn s hc hc rc;have nd:((G6 s).map v).Nodup:=by
  unfold g7;rw [O4,C5];intro a b ha hb hab;rw [R6] at ha hb;rw [E8,E8];intro ev;have:=zU h hn vl vr a (b-a) (by omega);rw [show a+(b-a)=b by omega,<-ev] at this;exact mn (b-a) (v a) (by omega) (by omega) (vl a (by omega)) this
 have cn:=VC (n:=n) nd (λx hx=>by obtain⟨t,ht,rfl⟩:=R8.mp hx;exact vl t (by have:=D3.mp ht;omega));rw [G8,R6] at cn;have mem: ∀x,decide (x∈(G6 s).map v)=true↔ ∃t,t<s/\v t=x:=λx=>by
  rw [aA,R8];exact⟨λ⟨t,ht,e⟩=>⟨t,D3.mp ht,e⟩,λ⟨t,ht,e⟩=>⟨t,D3.mpr ht,e⟩⟩
 have F:=CU h hn all (λx=>decide (x∈(G6 s).map v)) s1 s1 cn (λx hx ex=>by
  obtain⟨t,ht,rfl⟩:=(mem x).mp ex;have a:=zU h hn vl vr t (s-t) (by omega);rw [show t+(s-t)=s by omega,vs,<-v0] at a;have b:=zU h hn vl vr 0 t (by omega);rw [Q8] at b;have:=vw h hn (vl t (by omega)) (vl 0 (by omega)) (vl t (by omega)) a b
  rwa [show s-t+t=s by omega] at this) (λx hx ex=>by
  obtain⟨t,ht,rfl⟩:=(mem x).mp ex
  by_cases z:t+1<s
  ·exact⟨v (t+1),vl _ (by omega),(mem _).mpr ⟨t+1,z,rfl⟩,vr t ht⟩
  ·refine⟨v 0,vl _ (by omega),(mem _).mpr ⟨0,by omega,rfl⟩,?_⟩;have:=vr t ht
   rwa [show t+1=s by omega,vs,<-v0] at this)
 refine⟨n-s+s*(n-1),by omega,?_,F⟩;obtain⟨a,rfl⟩: ∃a,n=a+2:=⟨n-2,by omega⟩;have x1:s*(a+2-1)=s*a+s:=by rw [show a+2-1=a+1 by omega,bI]
 have x2:(a+2-1)*(a+2-1)=(a+1)*a+(a+1):=by rw [show a+2-1=a+1 by omega,bI]
 have x3:s*a<=(a+1)*a:=Nat.mul_le_mul_right a (by omega);rw [x1,x2];omega
end
end L2
namespace HT
open PySem PySem.Spec PyProof.Rows
variable {j:G3}
theorem YC {xs:S9 G3}(r:xs.toList.Pairwise (· < ·)): ∀ (fuel lo hi:G3),hi-lo<=fuel->hi<=xs.size->lo<=hi->(∀i,i<lo-> ∀v,xs[i]? =some v->v<j)->(∀i,hi<=i-> ∀v,xs[i]? =some v->j<=v)->
 (∀i,i<eN xs j fuel lo hi-> ∀v,xs[i]? =some v->v<j)/\(∀i,eN xs j fuel lo hi<=i-> ∀v,xs[i]? =some v->j<=v)/\eN xs j fuel lo hi<=xs.size
 |0,lo,hi,f,hs,lh,a,b=>by
  have:lo=hi:=by omega
  subst this;exact⟨a,b,hs⟩
 |fuel+1,lo,hi,f,hs,lh,a,b=>by
  unfold eN
  by_cases c:lo<hi
  ·rw [D4 c];have hm:(lo+hi) / 2<xs.size:=by omega
   have mono: ∀ (i k u v:G3),i<=k->xs[i]? =some u->xs[k]? =some v->u<=v:=λi k u v ik e1 e2=>by
    rcases A0 i k with z|z
    ·have i1:=(A7.mp e1);have i2:=(A7.mp e2);obtain⟨h1,e1'⟩:=i1;obtain⟨h2,e2'⟩:=i2;have:=C5.mp r i k (by simpa using h1) (by simpa using h2) z;simp only [cC] at this;omega
    ·have:i=k:=by omega
     subst this;rw [e1] at e2;cases e2;exact P2 _
   have em:xs.getD ((lo+hi) / 2) j=xs[(lo+hi) / 2]:=by simp [rE,hm]
   dsimp only
   by_cases d:xs.getD ((lo+hi) / 2) j<j
   ·rw [D4 d];refine YC r fuel _ hi (by omega) hs (by omega) (λi hi' v hv=> ?_) b;have:=mono i ((lo+hi) / 2) v xs[(lo+hi) / 2] (by omega) hv (by simp [hm]);omega
   ·rw [D5 d];refine YC r fuel lo _ (by omega) (by omega) (by omega) a (λi hi' v hv=> ?_);have:=mono ((lo+hi) / 2) i xs[(lo+hi) / 2] v hi' (by simp [hm]) hv;omega
  ·rw [D5 c];have:lo=hi:=by omega
   subst this;exact⟨a,b,hs⟩
theorem Ja {xs:S9 G3}(r:xs.toList.Pairwise (· < ·))(j:G3):(∀i,i<T4 xs j-> ∀v,xs[i]? =some v->v<j)/\(∀i,T4 xs j<=i-> ∀v,xs[i]? =some v->j<=v)/\T4 xs j<=xs.size:=
 YC r xs.size 0 xs.size (by omega) (P2 _) (M6 _) (λi h=>absurd h (V4 _)) (λi h v e=>by rw [kX h] at e;cases e)
theorem UO {xs:S9 G3}(r:xs.toList.Pairwise (· < ·))(no:xs[T4 xs j]? ≠some j):(U6 xs (T4 xs j) j).toList.Pairwise (· < ·):=by
 obtain⟨a,b,hs⟩:=Ja r j;rw [dB,N6,bK];have low: ∀v∈xs.toList.take (T4 xs j),v<j:=λv hv=>by
  obtain⟨i,hi⟩:=cE hv;rw [nQ] at hi;split at hi
  ·rename_i c;exact a i c v (by simpa using hi)
  ·cases hi
 have high: ∀v∈xs.toList.drop (T4 xs j),j<v:=λv hv=>by
  obtain⟨i,hi⟩:=cE hv;rw [U0] at hi;have hi':xs[T4 xs j+i]? =some v:=by simpa using hi
  have le:=b _ (Z0 _ _) v hi';rcases A0 j v with z|z
  ·exact z
  ·have ev:v=j:=by omega
   subst ev;cases i with
   |zero=>exact(no hi').elim
   |succ i=>
    obtain⟨h1,e1⟩:=A7.mp hi';have h0:T4 xs v<xs.size:=by omega
    have le0:=b _ (P2 _) xs[T4 xs v] (by simp [h0]);have lt:=C5.mp r (T4 xs v) (T4 xs v+(i+1)) (by simpa using h0) (by simpa using h1) (by omega);simp only [cC] at lt;omega
 exact⟨r.sublist (aM _ _),⟨high,r.sublist (Q0 _ _)⟩,λu hu v hv=>by
  rcases S5.mp hv with e|e
  ·rw [e];exact low u hu
  ·exact E6 (low u hu) (high v e)⟩
structure Tab (L:M7)(n:G3)(t:M8):Prop where
 fits:t.fits n=true
 led:t.led=L
 dum:t.dummies= #[]
 rise:t.plain=true\/n<=1->t.place.toList.Pairwise (· < ·)
theorem Gf {t:M8}{n:G3}(h:t.fits n=true):t.place.size=n:=by
 simp only [sF,O1,beq_iff_eq] at h;exact h.1
theorem Gg {t:M8}(h:t.slot j= .empty):t.place[T4 t.place j]? ≠some j:=λe=>by
 unfold iQ at h;dsimp only at h;rw [D4 (by rw [e];exact Z4 _)] at h;cases h
theorem WV {t:M8}(d:t.dummies= #[]):t.slot j≠ .dummy:=λh=>by
 unfold iQ at h;dsimp only at h;split at h
 ·cases h
 ·rw [d] at h;have:kY #[] j=false:=by unfold kY;simp
  rw [this] at h;cases h
theorem YD (f:G3->P7 G3): ∀l:G0 G3,((l.filterMap λj=>(f j).map (j,·)).map (·.1)).Sublist l
 | []=> .slnil
 |j::l=>by
  rw [cT];cases e:(f j).map (j,·) with
  |none=>exact(YD f l).cons _
  |some q=>
   obtain⟨v,_,rfl⟩:=E7.mp e;exact(YD f l).cons₂ _
abbrev Zv (es:S9 (P4×G1))(ep:G3)(t:M8):Obj:= {cls:= .type "set",dict:=none,data:= .set es ep t,slots:= #[]}
abbrev Wx (w:N8):M7:= !(w.params.followText "set-order")
theorem UP:isSubtype (.type "set") (.type "set")=pure true:=by rw [mI];kernel_rfl
theorem slot_si_next:Slot "set_iterator" "__next__" "set_iterator.__next__" :=
 .of (owner:= "set_iterator") (n:= "__next__") (by rw [qA,lM];kernel_rfl) (by decide +kernel) (by decide +kernel) (by decide +kernel) (.inl (by kernel_rfl)) (by rw [mI];kernel_rfl)
theorem YE:uD table "set_iterator.__next__" =some Builtin.«set_iterator.__next__» :=entryFor_of_tree (by kernel_rfl)
theorem VD (a:G1):xB "set_iterator.__next__" ⟨[a],[]⟩:=by unfold xB;kernel_rfl
theorem Wy:uD table "set.__iter__" =some Builtin.«frozenset.__iter__» :=rF (id':= "frozenset.__iter__") (by kernel_rfl) rfl (by decide +kernel) (by kernel_rfl)
abbrev itO (first:G1)(i:G3)(a:P5)(n ep:G3):Obj:= {cls:= .type "set_iterator",data:= .fields #[first,K7 i,.ref a,K7 n,K7 ep]}
inductive Mode (w:N8)(a:P5)(es:S9 (P4×G1))(ep:G3)(t:M8):G0 G1->(G1->G3->F4->Prop)->P5->Prop
 |text (b:w.params.followText "set-order" =true):Mode w a es ep t ((pickOrder (w.params.setOrder a ep) es).toList.map (·.2)) (λf _ _=>f=K7 0) a
 |drawn (b:w.params.followText "set-order" =false) (d:t.plain=false) (two:1<es.size) (ord:G0 G3) (p:ord.Perm (G6 es.size)) (tp:P5):
  Mode w a es ep t (ord.map λj=>(es.getD j (0,.none)).2) (λf _ h=>f= .ref tp/\h.IsTuple tp (ord.map λj=>K7 (j:G3)).toArray) tp
 |table (b:w.params.followText "set-order" =false) (d:t.plain=true\/es.size<=1):Mode w a es ep t (es.toList.map (·.2)) (λf i _=> ∃slot:G3,f=K7 slot/\T4 t.place slot=i) a
section
variable {prog:S7}{w:N8}{A:N3}{E:G1->G2->Prop}{s:G2}{a I tp:P5}{es:S9 (P4×G1)}{ep n i:G3}{t:M8}{ns:G0 P4}{first:G1}
theorem Dl {Q:G1->G2->Prop}(S:Tab (Wx w) es.size t)(b:w.params.followText "set-order" =true)(ha:s.heap.get? a=some (Zv es ep t))(hI:s.heap.get? I=some (itO (K7 0) i a es.size ep))(aI:a≠I)
 {x:G1}(hx:((pickOrder (w.params.setOrder a ep) es).toList.map (·.2))[i]? =some x)(q: ∀h',h'.get? I=some (itO (K7 0) (i+1) a es.size ep)->E4 I s.heap h'->Q x {s with heap:=h'}):
 R7 (S2 prog w) A (Builtin.«set_iterator.__next__» ⟨[.ref I],[]⟩) (λfin s'=> ∃v,fin= .done (.ret v)/\Q v s') E s:=by
 have told: ∀ {Q:qL->G2->Prop} {E':G1->G2->Prop} {A':N3} {s':G2},Q ⟨prog,w.params⟩ s'->R7 (S2 prog w) A' ask Q E' s':=λq=>Y9 q
 have state:=λ{P:S9 (P4×G1)×G3×M8->G2->Prop} {E':G1->G2->Prop} {A':N3}=>E2 (prog:=prog) (w:=w) (A:=A') (E:=E') (Q:=P) (s:=s) ha rfl S.fits
 obtain⟨hp,g,d,tk,os⟩:=s;rw [D2] at hx;obtain⟨⟨k,x'⟩,hx1,rfl⟩:=E7.mp hx;have hx':(pickOrder (w.params.setOrder a ep) es)[((i:G3):P4).toNat]? =some (k,x'):=by rw [aQ,<-T9];exact hx1
 have z1:=F5 (fW λv=>v.setIfInBounds 0 (K7 ((xT 0:G3):P4))) hI rfl;have z2:=F5 (fW λv=>v.setIfInBounds 1 (K7 ((i:P4)+1))) z1 rfl;have fin:=q _ z2 ((A1 ..).trans (A1 ..))
 wp_walk using state,told
 rw [hx']
 wp_walk
 exact⟨_,rfl,fin⟩
theorem Gh {Q:G1->G2->Prop}{ord:G0 G3}(S:Tab (Wx w) es.size t)(ha:s.heap.get? a=some (Zv es ep t))(hI:s.heap.get? I=some (itO (.ref tp) i a es.size ep))(aI:a≠I)(ht:s.heap.IsTuple tp (ord.map λj=>K7 (j:G3)).toArray)(p:ord.Perm (G6 es.size))
 {x:G1}(hx:(ord.map λj=>(es.getD j (0,.none)).2)[i]? =some x)(q: ∀h',h'.get? I=some (itO (.ref tp) (i+1) a es.size ep)->E4 I s.heap h'->Q x {s with heap:=h'}):
 R7 (S2 prog w) A (Builtin.«set_iterator.__next__» ⟨[.ref I],[]⟩) (λfin s'=> ∃v,fin= .done (.ret v)/\Q v s') E s:=by
 have state:=λ{P:S9 (P4×G1)×G3×M8->G2->Prop} {E':G1->G2->Prop} {A':N3}=>E2 (prog:=prog) (w:=w) (A:=A') (E:=E') (Q:=P) (s:=s) ha rfl S.fits
 obtain⟨⟨oc,od,odt,osl⟩,hol,hc,c,hd⟩:=ht;simp only at hc hd;subst hc hd;obtain⟨hp,g,d,tk,os⟩:=s;rw [D2] at hx;obtain⟨j,hj,rfl⟩:=E7.mp hx;have jlt:j<es.size:=D3.mp (p.mem_iff.mp (D0 hj));have hj':((ord.map λj=>K7 (j:G3)).toArray)[((i:G3):P4).toNat]? =some (K7 (j:G3)):=by simp [hj]
 have ej:es[((j:G3):P4).toNat]? =some (es.getD j (0,.none)):=by simp [jlt,rE]
 have z1:=F5 (fW λv=>v.setIfInBounds 1 (K7 ((i:P4)+1))) hI rfl;have fin:=q _ z1 (A1 ..)
 wp_walk using state
 rw [hj'];show R7 _ _ (setNextDrawn a ((j:G3):P4).toNat ((ep:G3):P4).toNat >>= _) _ _ _
 wp_walk using state
 rw [ej]
 wp_walk
 exact⟨_,rfl,fin⟩
theorem Gi {Q:G1->G2->Prop}{slot:G3}(S:Tab (Wx w) es.size t)(b:w.params.followText "set-order" =false)(pl:t.plain=true\/es.size<=1)(ha:s.heap.get? a=some (Zv es ep t))(hI:s.heap.get? I=some (itO (K7 slot) i a es.size ep))(aI:a≠I)(hs:T4 t.place slot=i)
 {x:G1}(hx:(es.toList.map (·.2))[i]? =some x)(q: ∀h' (slot':G3),T4 t.place slot'=i+1->h'.get? I=some (itO (K7 slot') (i+1) a es.size ep)->E4 I s.heap h'->Q x {s with heap:=h'}):
 R7 (S2 prog w) A (Builtin.«set_iterator.__next__» ⟨[.ref I],[]⟩) (λfin s'=> ∃v,fin= .done (.ret v)/\Q v s') E s:=by
 have told: ∀ {Q:qL->G2->Prop} {E':G1->G2->Prop} {A':N3} {s':G2},Q ⟨prog,w.params⟩ s'->R7 (S2 prog w) A' ask Q E' s':=λq=>Y9 q
 have state:=λ{P:S9 (P4×G1)×G3×M8->G2->Prop} {E':G1->G2->Prop} {A':N3}=>E2 (prog:=prog) (w:=w) (A:=A') (E:=E') (Q:=P) (s:=s) ha rfl S.fits
 have led:t.led=true:=by rw [S.led];show (!(w.params.followText "set-order"))=true;rw [b];rfl
 have nd:(!t.plain&&decide (es.size>1))=false:=by
  rcases pl with z|z
  ·rw [z];rfl
  ·rw [T6 (by omega),eO]
 obtain⟨hp,g,d,tk,os⟩:=s;rw [D2] at hx;obtain⟨⟨k,x'⟩,hx1,rfl⟩:=E7.mp hx;have lt:i<es.size:=by have:=(D6.mp hx1).1;simpa using this
 have ps:=Gf S.fits;have ltp:i<t.place.size:=by omega
 have ex:es[i]? =some (k,x'):=by rw [<-T9];exact hx1
 have ep':t.place[i]? =some t.place[i]:=by simp [ltp]
 have rise:=S.rise pl;have next:T4 t.place (t.place[i]+1)=i+1:=by
  obtain⟨b1,b2,b3⟩:=Ja rise (t.place[i]+1);have mono:=λ(u v:G3) (hu:u<t.place.size) (hv:v<t.place.size) (uv:u<v)=>C5.mp rise u v (by simpa using hu) (by simpa using hv) uv
  simp only [cC] at mono;rcases b6 (T4 t.place (t.place[i]+1)) (i+1) with z|z|z
  ·have:=b2 i (by omega) _ ep';omega
  ·exact z
  ·have h1:i+1<t.place.size:=by omega
   have:=b1 (i+1) z _ (by simp [h1]:t.place[i+1]? =some t.place[i+1]);have:=mono i (i+1) ltp h1 (by omega);omega
 have z1:=F5 (fW λv=>v.setIfInBounds 0 (K7 ((t.place[i]+1:G3):P4))) hI rfl;have z2:=F5 (fW λv=>v.setIfInBounds 1 (K7 ((i:P4)+1))) z1 rfl;have fin:=q _ _ next z2 ((A1 ..).trans (A1 ..))
 wp_walk using state,told
 split
 ·rename_i z;have z':(!t.plain&&decide (es.size>1))=true:=z;rw [nd] at z';cases z'
 wp_walk
 rw [show ((slot:G3):P4).toNat=slot from aQ _,hs,ex,ep']
 wp_walk
 exact⟨_,rfl,fin⟩
theorem Gj {vals:G0 G1}{md:G1->G3->F4->Prop}{Q:fM->G2->Prop}(calm:A.handled=none)(S:Tab (Wx w) es.size t)(M:Mode w a es ep t vals md tp)(ha:s.heap.get? a=some (Zv es ep t))(hI:s.heap.get? I=some (itO first i a es.size ep))(aI:a≠I)(hm:md first i s.heap)(hx:vals[i]? =none)
 (q: ∀h' e,(∀b o,b≠I->s.heap.get? b=some o->h'.get? b=some o)->(∃o,h'.get? e=some o/\o.cls= .type "StopIteration")->E (.ref e) {s with heap:=h'}):
 R7 (S2 prog w) A (Builtin.«set_iterator.__next__» ⟨[.ref I],[]⟩) Q E s:=by
 have told: ∀ {Q:qL->G2->Prop} {E':G1->G2->Prop} {A':N3} {s':G2},Q ⟨prog,w.params⟩ s'->R7 (S2 prog w) A' ask Q E' s':=λq=>Y9 q
 have state:=λ{P:S9 (P4×G1)×G3×M8->G2->Prop} {E':G1->G2->Prop} {A':N3}=>E2 (prog:=prog) (w:=w) (A:=A') (E:=E') (Q:=P) (s:=s) ha rfl S.fits
 have stop:=λ{h1:F4} {Q':fM->G2->Prop} (same:E4 I s.heap h1)=>L2.UM (prog:=prog) (w:=w) (A:=A) (E:=E) (s:= {s with heap:=h1}) (Q:=Q') calm λh' e grown st=>q h' e (λb o nb x=>grown b o (same.extBut b o nb x)) st
 obtain⟨hp,g,d,tk,os⟩:=s;have put: ∀ {P:Unit->G2->Prop} {E':G1->G2->Prop} {k:G3} {v:G1} {h1:F4},k<5->E4 I hp h1->(∃fs:S9 G1,fs.size=5/\h1.get? I=some {cls:= .type "set_iterator",data:= .fields fs})->(∀h',E4 I hp h'->(∃fs:S9 G1,fs.size=5/\h'.get? I=some {cls:= .type "set_iterator",data:= .fields fs})->P () ⟨h',g,d,tk,os⟩)->R7 (S2 prog w) A (oP (.ref I) k v) P E' ⟨h1,g,d,tk,os⟩:=λhk same ⟨fs,hfs,e⟩ q'=>wpAny_setField_rec (s:=⟨_,g,d,tk,os⟩) e (by omega) λh' z' same'=>q' h' (same.trans same') ⟨_,by simpa using hfs,z'⟩
 cases M with
 |text b=>
  subst hm;have e:(pickOrder (w.params.setOrder a ep) es)[((i:G3):P4).toNat]? =none:=by
   rw [D2] at hx;rw [aQ,<-T9];exact eQ.mp hx
  wp_walk using state,told
  rw [e];show R7 _ _ (oP (.ref I) 2 .none >>= _) _ _ _;exact wpAny_bind (put (by decide) (bZ _ _) ⟨_,rfl,hI⟩ λh' same _=>stop same)
 |drawn b dp two ord p tp=>
  obtain⟨rfl,⟨oc,od,odt,osl⟩,hol,hc,c,hd⟩:=hm;simp only at hc hd;subst hc hd;have e:((ord.map λj=>K7 (j:G3)).toArray)[((i:G3):P4).toNat]? =none:=by
   rw [D2] at hx;simp [eQ.mp hx]
  wp_walk using state
  rw [e];show R7 _ _ (oP (.ref I) 0 (K7 0) >>= λ_=>oP (.ref I) 2 .none >>= _) _ _ _;exact wpAny_bind (put (by decide) (bZ _ _) ⟨_,rfl,hI⟩ λh1 same1 there1=>wpAny_bind (put (by decide) same1 there1 λh' same _=>stop same))
 |table b pl=>
  obtain⟨slot,rfl,hs⟩:=hm;have led:t.led=true:=by rw [S.led];show (!(w.params.followText "set-order"))=true;rw [b];rfl
  have nd:(!t.plain&&decide (es.size>1))=false:=by
   rcases pl with z|z
   ·rw [z];rfl
   ·rw [T6 (by omega),eO]
  have e:es[i]? =none:=by
   rw [D2] at hx;rw [<-T9];exact eQ.mp hx
  wp_walk using state,told
  split
  ·rename_i z;have z':(!t.plain&&decide (es.size>1))=true:=z;rw [nd] at z';cases z'
  wp_walk
  rw [show ((slot:G3):P4).toNat=slot from aQ _,hs,e];show R7 _ _ (oP (.ref I) 2 .none >>= _) _ _ _;exact wpAny_bind (put (by decide) (bZ _ _) ⟨_,rfl,hI⟩ λh' same _=>stop same)
end
theorem YF:uD table "set_iterator.__iter__" =some Builtin.«dict_keyiterator.__iter__» :=rF (id':= "dict_keyiterator.__iter__") (by kernel_rfl) (by first|rfl|decide +kernel|(unfold String.splitOn;simp +decide [String.splitOnAux])) (by decide +kernel) (by kernel_rfl)
theorem Jb:Slot "set_iterator" "__iter__" "set_iterator.__iter__" := .of (owner:= "set_iterator") (n:= "__iter__") (by rw [qA,lM];kernel_rfl) (by decide +kernel) (by decide +kernel) (by decide +kernel) (.inl (by kernel_rfl)) (by rw [mI];kernel_rfl)
theorem VE (a:G1):xB "set_iterator.__iter__" ⟨[a],[]⟩:=by unfold xB;kernel_rfl
section
variable {prog:S7}{w:N8}{A:N3}{E:G1->G2->Prop}{s:G2}{a I tp:P5}{es:S9 (P4×G1)}{ep n i:G3}{t:M8}{ns:G0 P4}{first:G1}{vals:G0 G1}{md:G1->G3->F4->Prop}
theorem Mode.keep {f:G1}{h h':F4}(M:Mode w a es ep t vals md tp)(m:md f i h)(k: ∀o,h.get? tp=some o->h'.get? tp=some o):md f i h':=by
 cases M with
 |text b=>exact m
 |drawn b dp two ord p tp=>exact⟨m.1,m.2.at λo e=>k o e⟩
 |table b pl=>exact m
theorem Dm {Q:P7 G1->G2->Prop}(ty:s.TypeIs (.ref I) "set_iterator")
 (h:R7 (S2 prog w) A.in1 (Builtin.«set_iterator.__next__» ⟨[.ref I],[]⟩) (λfin s'=> ∃v,fin= .done (.ret v)/\Q (some v) s') (λe s'=>s'.TypeIs e "StopIteration" /\Q none s') s):R7 (S2 prog w) A (qR (.ref I)) Q E s:=
 wpAny_bind (sG (dO (name:= "__next__") ty slot_si_next (M9 (O0 slot_si_next ty YE h (VD _)) (λ_ _ q=>P3 q) λe s' q=>wpAny_bind (j5 (b:=true) q.1 isSubtype_stop (P3 q.2)))))
theorem Do (calm:A.handled=none)(S:Tab (Wx w) es.size t)(M:Mode w a es ep t vals md tp)(aI:a≠I)(tI:tp≠I):
 Walks prog w A I [I,a,tp] [I] vals.length (λi v=>vals[i]? =some v) (λi h=>h.get? a=some (Zv es ep t)/\ ∃first,h.get? I=some (itO first i a es.size ep)/\md first i h) where
 sub:=λb hb=>by simp only [G9] at hb;simp [hb]
 frame:=λi h h' ⟨ha,f,hI,m⟩ k=>⟨k a (by simp) _ ha,f,k I (by simp) _ hI,M.keep m λo e=>k tp (by simp) o e⟩
 item:=λi s Q E hi ⟨ha,f,hI,m⟩ q=>by
  have hx:vals[i]? =some vals[i]:=by simp [hi]
  refine Dm ⟨_,hI,rfl⟩ ?_;have fin: ∀ {f':G1} h',md f' (i+1) s.heap->h'.get? I=some (itO f' (i+1) a es.size ep)->E4 I s.heap h'->Q (some vals[i]) {s with heap:=h'}:=λh' m' e same=>
   q vals[i] h' s.toks hx ⟨same.extBut _ _ aI ha,_,e,M.keep m' λo x=>same.extBut _ _ tI x⟩ λb o nb x=>same.extBut _ _ (by simpa using nb) x
  cases M with
  |text b=>
   subst m;exact Dl S b ha hI aI hx λh' e same=>fin h' rfl e same
  |drawn b dp two ord p tp=>
   obtain⟨rfl,ht⟩:=m;exact Gh S ha hI aI ht p hx λh' e same=>fin h' ⟨rfl,ht⟩ e same
  |table b pl=>
   obtain⟨slot,rfl,hs⟩:=m;exact Gi S b pl ha hI aI hs hx λh' slot' hs' e same=>fin h' ⟨slot',rfl,hs'⟩ e same
 done:=λs Q E ⟨ha,f,hI,m⟩ q=>by
  refine Dm ⟨_,hI,rfl⟩ (Gj calm S M ha hI aI m (by simp) λh' e kept ⟨o,ho,hc⟩=>⟨⟨o,ho,hc⟩,q h' s.toks λb ob nb x=>kept b ob (by simpa using nb) x⟩)
 self:=λi s Q E ⟨ha,f,hI,m⟩ q=>oQ ⟨_,hI,rfl⟩ Jb (O0 Jb ⟨_,hI,rfl⟩ YF (P3 ⟨_,rfl,_,_,⟨_,hI,rfl⟩,slot_si_next.lookup,q⟩) (VE _))
end
theorem JF {α:Type}: ∀ (l:G0 α) (i:G3) {x:α},l[i]? =some x->(x::l.eraseIdx i).Perm l
 | [],i,x,h=>by cases h
 |y::l,0,x,h=>by cases h;exact .refl _
 |y::l,i+1,x,h=>(y4 y x _).trans ((JF l i h).cons y)
theorem Dp {α:Type}(next:G3->G3): ∀ (fuel k:G3) (left:G0 α) (out:S9 α),left.length=fuel->(pickOrder.go next fuel k left out).toList.Perm (out.toList++left)
 |0,k,left,out,h=>by
  rw [W6 h,J4];exact .refl _
 |fuel+1,k,left,out,h=>by
  unfold pickOrder.go;have lt:next k%left.length<left.length:=X7 _ (by omega);have hx:left[next k%left.length]? =some left[next k%left.length]:=by simp [lt]
  rw [hx];refine(Dp next fuel (k+1) _ _ (by rw [g8 lt];omega)).trans ?_;rw [U7,D1];exact(JF left _ hx).append_left _
theorem Dq {α:Type}(next:G3->G3)(xs:S9 α):(pickOrder next xs).toList.Perm xs.toList:=by
 have:=Dp next xs.size 0 xs.toList #[] (by simp);rw [Array.toList_empty,O2] at this;exact this
section
variable {prog:S7}{w:N8}{A:N3}{E:G1->G2->Prop}{s:G2}{a I tp:P5}{es:S9 (P4×G1)}{ep n i:G3}{t:M8}{ns:G0 P4}{first:G1}{vals:G0 G1}{md:G1->G3->F4->Prop}
theorem Mode.perm (M:Mode w a es ep t vals md tp):vals.Perm (es.toList.map (·.2)):=by
 cases M with
 |text b=>exact(Dq _ es).map _
 |drawn b dp two ord p tp=>
  refine(p.map _).trans ?_;have:(G6 es.size).map (λj=>(es.getD j (0,.none)).2)=es.toList.map (·.2):=by
   refine eT λj=> ?_
   rw [D2,D2]
   by_cases hj:j<es.size
   ·rw [O9 hj];simp [hj,rE]
   ·rw [J8 (by simpa using hj),J8 (by simpa using hj)];rfl
  rw [this]
 |table b pl=>exact .refl _
theorem XQ {α:Type}{Q:G0 α->G2->Prop}: ∀ (n:G3) (xs:G0 α) (s:G2),xs.length=n->(∀ys d,ys.Perm xs->Q ys {s with drawn:=d})->R7 (S2 prog w) A (drawOrder n xs) Q E s
 |0,xs,s,h,q=>by
  rw [W6 h] at q;exact P3 (q [] s.drawn (.refl _))
 |n+1,[],s,h,q=>by cases h
 |n+1,x::r,s,h,q=>by
  have pickd: ∀ {P:G3->G2->Prop} {E':G1->G2->Prop},(∀i d,i<(x::r).length->P i {s with drawn:=d})->R7 (S2 prog w) A (choose .order (x::r).length) P E' s:=λp _ _ _=>⟨by simp,p _ _ (X7 _ (by simp))⟩
  refine wpAny_bind (pickd λi d hi=> ?_);have hx:(x::r)[i]? =some (x::r)[i]:=by rw [G7 hi]
  rw [hx];refine wpAny_bind (XQ n _ {s with drawn:=d} (by rw [g8 hi];simp at h ⊢;omega) λys d' p=>P3 (q _ d' ?_));exact(p.cons _).trans (JF _ _ hx)
theorem ML {Q:G1->G2->Prop}(S:Tab (Wx w) es.size t)(ha:s.heap.get? a=some (Zv es ep t))(few:es.size<1000)
 (k: ∀h' d I tp vals md first,Mode w a es ep t vals md tp->(∀b o,s.heap.get? b=some o->h'.get? b=some o)->s.heap.objs.size<=I->tp≠I->(tp=a\/s.heap.objs.size<=tp)->tp<h'.objs.size->h'.get? I=some (itO first 0 a es.size ep)->md first 0 h'->Q (.ref I) {s with heap:=h',drawn:=d}):
 R7 (S2 prog w) A (o8 (.ref a)) Q E s:=by
 have ty:s.TypeIs (.ref a) "set" :=⟨_,ha,rfl⟩;have told: ∀ {Q:qL->G2->Prop} {E':G1->G2->Prop} {A':N3} {s':G2},Q ⟨prog,w.params⟩ s'->R7 (S2 prog w) A' ask Q E' s':=λq=>Y9 q
 have state:=λ{P:S9 (P4×G1)×G3×M8->G2->Prop} {E':G1->G2->Prop} {A':N3} {s':G2} (e:s'.heap.get? a=some (Zv es ep t))=>E2 (prog:=prog) (w:=w) (A:=A') (E:=E') (Q:=P) (s:=s') e rfl S.fits
 refine oQ ty qB (O0 qB ty Wy ?_ (F.args_set_iter_1 _));have state0:=λ{P:S9 (P4×G1)×G3×M8->G2->Prop} {E':G1->G2->Prop} {A':N3}=>state (P:=P) (E':=E') (A':=A') (s':=s) ha
 cases b:w.params.followText "set-order" with
 |true=>
  wp_walk using state0,told
  have at_:(s.heap.push (itO (K7 0) 0 a es.size ep)).get? s.heap.objs.size=some (itO (K7 0) 0 a es.size ep):=T5 _ rfl;have nI:a≠s.heap.objs.size:=λz=>C4 _ (z ▸ R1 ha)
  refine⟨_,rfl,"set_iterator",_,⟨_,at_,rfl⟩,slot_si_next.lookup,?_⟩;exact k _ s.drawn s.heap.objs.size a _ _ (K7 0) (.text b) (λb o e=>P1 _ e) (P2 _) nI (.inl rfl) (R1 (P1 _ ha)) at_ rfl
 |false=>
  cases dd:(!t.plain&&decide (es.size>1)) with
  |false=>
   have pl:t.plain=true\/es.size<=1:=by
    cases hp:t.plain with
    |true=>exact .inl rfl
    |false=>rw [hp] at dd;have:=g9 (show decide (es.size>1)=false from dd);exact .inr (by omega)
   have at_:(s.heap.push (itO (K7 0) 0 a es.size ep)).get? s.heap.objs.size=some (itO (K7 0) 0 a es.size ep):=T5 _ rfl;have nI:a≠s.heap.objs.size:=λz=>C4 _ (z ▸ R1 ha)
   have zero:T4 t.place 0=0:=by
    obtain⟨b1,_,b3⟩:=Ja (S.rise pl) 0;rcases nU (T4 t.place 0) with z|z
    ·exact z
    ·have h0:0<t.place.size:=by omega
     exact absurd (b1 0 z _ (by simp [h0]:t.place[0]? =some t.place[0])) (V4 _)
   have fin:=k _ s.drawn s.heap.objs.size a _ _ (K7 0) (.table b pl) (λb o e=>P1 _ e) (P2 _) nI (.inl rfl) (R1 (P1 _ ha)) at_ ⟨0,rfl,zero⟩
   wp_walk using state0,told
   split
   ·rename_i z;have z':(!w.params.followText "set-order" &&(!t.plain&&decide (es.size>1)))=true:=z;rw [b,dd] at z';cases z'
   wp_walk using state0
   exact⟨_,rfl,"set_iterator",_,⟨_,at_,rfl⟩,slot_si_next.lookup,fin⟩
  |true=>
   have pf:t.plain=false/\1<es.size:=by
    rw [O1] at dd;exact⟨by simpa using dd.1,C7 dd.2⟩
   wp_walk using state0,told
   split
   rotate_left
   ·rename_i z;exact(z (show (!w.params.followText "set-order" &&(!t.plain&&decide (es.size>1)))=true by rw [b,dd];rfl)).elim
   refine wpAny_bind (XQ es.size (G6 es.size) s (by simp) λord d p=> ?_);have len:ord.length=es.size:=by rw [p.length_eq];simp
   have t0:(s.heap.push {cls:= .type "tuple",data:= .seq (ord.map λ(i:G3)=>K7 i).toArray}).get? s.heap.objs.size=some {cls:= .type "tuple",data:= .seq (ord.map λ(i:G3)=>K7 i).toArray}:=T5 _ rfl;refine wpAny_bind (mJ ?_ (by rw [G8,len];exact S4 (R9 few) (by decide)));have ha1:(s.heap.push {cls:= .type "tuple",data:= .seq (ord.map λ(i:G3)=>K7 i).toArray}).get? a=some (Zv es ep t):=P1 _ ha;have state1:=λ{P:S9 (P4×G1)×G3×M8->G2->Prop} {E':G1->G2->Prop} {A':N3}=>state (P:=P) (E':=E') (A':=A') (s':= {s with heap:=s.heap.push {cls:= .type "tuple",data:= .seq (ord.map λ(i:G3)=>K7 i).toArray},drawn:=d}) ha1
   wp_walk using state1
   have at_:=T5 (s.heap.push {cls:= .type "tuple",data:= .seq (ord.map λ(i:G3)=>K7 i).toArray}) (o:=itO (.ref s.heap.objs.size) 0 a es.size ep) rfl;have lt1:s.heap.objs.size<(s.heap.push {cls:= .type "tuple",data:= .seq (ord.map λ(i:G3)=>K7 i).toArray}).objs.size:=R1 t0;refine⟨_,rfl,"set_iterator",_,⟨_,at_,rfl⟩,slot_si_next.lookup,?_⟩;exact k _ d _ s.heap.objs.size _ _ (.ref s.heap.objs.size) (.drawn b pf.1 pf.2 ord p s.heap.objs.size) (λb o e=>P1 _ (P1 _ e)) (R9 lt1) (T2 lt1) (.inr (P2 _)) (R1 (P1 _ t0)) at_ ⟨rfl,⟨_,P1 _ t0,rfl,0,rfl⟩⟩
end
section
variable {prog:S7}{w:N8}{A:N3}{E:G1->G2->Prop}{s:G2}{a:P5}{es:S9 (P4×G1)}{ep:G3}{t:M8}{ns:G0 P4}
theorem MM {Q:M7->G2->Prop}(ty:s.TypeIs (.ref a) "set")(q:Q false s):R7 (S2 prog w) A (gJ (.ref a)) Q E s:=by
 have parts:splitId "set.__len__" =some ("set","__len__"):=by decide +kernel
 have f2:=UP;unfold gJ;refine wpAny_bind (bP ty F.slot_set_len.lookup ?_);dsimp only;rw [parts];dsimp only
 wp_walk
 exact q
def Aj (s:G2)(es:S9 (P4×G1))(r:pA)(s':G2):Prop:=
 ∃h' d tk acc c,r= .ok (.ret (.ref s.heap.objs.size))/\s'= {s with heap:=h',drawn:=d,toks:=tk}/\h'.get? s.heap.objs.size=some {cls:= .type "list",dict:=none,data:= .seq acc c,slots:= #[]}/\(∀b o,s.heap.get? b=some o->h'.get? b=some o)/\acc.toList.Perm (es.toList.map (·.2))
theorem Gk (calm:A.handled=none)(S:Tab (Wx w) es.size t)(ha:s.heap.get? a=some (Zv es ep t))(few:es.size<1000):
 aL (S2 prog w) A (.builtin "proto.collect" ⟨[.ref a],[]⟩) (Aj s es) s:=by
 have nS:s.heap.objs.size≠a:=λz=>C4 _ (z ▸ R1 ha)
 have old: ∀ {b o o'},s.heap.get? b=some o->(s.heap.push o').get? b=some o:=λe=>P1 _ e
 refine aJ F.entry_proto_collect ?_
 wp_walk
 refine⟨aY oR _,aJ F.entry_list_iadd ?_⟩;rw [W7 oR];have ha1:(s.heap.push {cls:= .type "list",data:= .seq #[]}).get? a=some (Zv es ep t):=old ha;have hS:(s.heap.push {cls:= .type "list",data:= .seq #[]}).get? s.heap.objs.size=some {cls:= .type "list",data:= .seq #[]}:=T5 _ rfl;have ty:Shared.TypeIs {s with heap:=s.heap.push {cls:= .type "list",data:= .seq #[]}} (.ref a) "set" :=⟨_,ha1,rfl⟩;have other:iR (.ref s.heap.objs.size) (.ref a)=false:=by simp [iR,nS]
 have iter:=λ{P:G1->G2->Prop} {E':G1->G2->Prop} {A':N3}=>ML (prog:=prog) (w:=w) (A:=A') (E:=E') (Q:=P) (s:= {s with heap:=s.heap.push {cls:= .type "list",data:= .seq #[]}}) S ha1 (by omega)
 show R7 _ A.in1 (qM (.ref s.heap.objs.size) (.ref a) (.ref s.heap.objs.size)) _ _ _
 wp_walk using iter
 intro h1 d I tp vals md first M kept lo tI tpo tpl hI hm
 have ha2:h1.get? a=some (Zv es ep t):=kept _ _ ha1;have hS2:h1.get? s.heap.objs.size=some {cls:= .type "list",data:= .seq #[]}:=kept _ _ hS;have ty2:Shared.TypeIs {s with heap:=h1,drawn:=d} (.ref a) "set" :=⟨_,ha2,rfl⟩;refine wpAny_bind (L7 (MM ty2 ?_))
 wp_walk
 have lt:a<s.heap.objs.size:=R1 ha;have e1:(s.heap.push {cls:= .type "list",data:= .seq #[]}).objs.size=s.heap.objs.size+1:=b9 ..;have lo':s.heap.objs.size+1<=I:=by rw [<-e1];exact lo
 have aI:a≠I:=λz=>by subst z;exact absurd lt (U5.mpr (oS lo'))
 have SI:s.heap.objs.size≠I:=T2 lo';have Stp:s.heap.objs.size≠tp:=by
  rcases tpo with z|z
  ·rw [z];exact nS
  ·exact T2 (N0 (by rw [e1];exact A4 _) z)
 have hS3:=F5 (J7 λx=>x.push kI) hS2 rfl;have hS4:=F5 (J7 λx=>x.pop) hS3 rfl;have same:E4 s.heap.objs.size h1 ((h1.update s.heap.objs.size (J7 λx=>x.push kI)).update s.heap.objs.size (J7 λx=>x.pop)):=(A1 ..).trans (A1 ..);have W:=Do (prog:=prog) (A:=A.in1) calm S M aI tI;refine⟨aY F.plain_extend_loop _,codeAny_extend_loopS W.toS ?_ s.heap.objs.size (by simp [SI,nS,Stp]) _ vals.length 0 _ #[] _ rfl (M6 _) ⟨same.extBut _ _ nS.symm ha2,first,same.extBut _ _ SI.symm hI,M.keep hm λo e=>same.extBut _ _ Stp.symm e⟩ hS4 (ItemsOf.nil _) λs' acc c' moved hS' items=> ?_⟩
 ·rw [M.perm.length_eq,G8,P9];exact S4 (R9 few) (by decide)
 have same_vals:acc.toList=vals:=by
  refine eT λi=> ?_
  rw [T9];cases e:acc[i]? with
  |some v=>exact(items.2 i v e).symm
  |none=>
   have:vals.length<=i:=by rw [<-items.1];exact cF.mp e
   exact(J8 this).symm
 obtain⟨h',g',d',tk',os'⟩:=s';have mg:g'=s.gens:=moved.gens;have md':d'=d:=moved.drawn;have mo:os'=s.os:=moved.os;subst mg md' mo;refine⟨h',d',tk',acc,c',rfl,rfl,hS',λb o e=> ?_,by rw [same_vals];exact M.perm⟩;have lb:=R1 e;have nb:b≠s.heap.objs.size:=T2 lb;have nbI:b≠I:=λz=>by subst z;exact absurd lb (U5.mpr (oS lo'))
 exact moved.heap b o (by simp [nb,nbI]) (same.extBut _ _ nb (kept _ _ (old e)))
end
end HT
namespace L2
open PySem PySem.Spec PyProof.Rows PySem.SeqAt
theorem Inv.drew {X:Cx}{pins:G0 (P5×Obj)}{σ:St}{H:Hp}{s:G2}(I:Inv X pins σ H s)(d:Drawn):Inv X pins σ H {s with drawn:=d}:=⟨I.ok,I.os,I.bare,I.base,I.loc,I.cell,I.free,I.freeC,I.pin,I.hok,I.len⟩
end L2
namespace L2
theorem IsS.ext {n:G3}{S S':G0 G3}(h:IsS n S)(h':IsS n S')(m: ∀j,j∈S↔j∈S'):S=S':=by
 obtain⟨p,rfl⟩:=h;obtain⟨q,rfl⟩:=h';refine List.filter_congr λj hj=> ?_
 have:=m j;rw [J1,J1] at this;have e:p j=true↔q j=true:=⟨λz=>(this.mp ⟨hj,z⟩).2,λz=>(this.mpr ⟨hj,z⟩).2⟩;cases hp:p j<;>cases hq:q j<;>simp_all
theorem XR: ∀ (L:G0 G3) (g d:G3),d∣L.foldl qN g↔d∣g/\ ∀l∈L,d∣l
 | [],g,d=>by simp
 |x::L,g,d=>by
  show d∣L.foldl qN (qN g x)↔_;rw [XR L,Nat.dvd_gcd_iff];simp only [S5,forall_eq_or_imp];exact⟨λ⟨⟨a,b⟩,c⟩=>⟨a,b,c⟩,λ⟨a,b,c⟩=>⟨⟨a,b⟩,c⟩⟩
end L2
namespace HT
open PySem PyProof.Rows
section
variable {prog:S7}{w:N8}{A:N3}{E:G1->G2->Prop}{σ α β:Type}{J:G2->Prop}
def Tm (prog:S7)(w:N8)(A:N3)(E:G1->G2->Prop)(J:G2->Prop){σ α:Type}(m:W8 σ Sem α)(Q:α->σ->Prop)(st:σ):Prop:=
 ∀s,J s->R7 (S2 prog w) A (m.run st) (λr s'=>Q r.1 r.2/\J s') E s
theorem Tm.pure {a:α}{Q:α->σ->Prop}{st:σ}(h:Q a st):Tm prog w A E J (Pure.pure a:W8 σ Sem α) Q st:=λs j=>by
 rw [lE];exact P3 ⟨h,j⟩
theorem Tm.bind {m:W8 σ Sem α}{f:α->W8 σ Sem β}{Q:β->σ->Prop}{st:σ}(h:Tm prog w A E J m (λa st'=>Tm prog w A E J (f a) Q st') st):Tm prog w A E J (m >>= f) Q st:=λs j=>by
 rw [StateT.run_bind];exact wpAny_bind (M9 (h s j) (λr s' x=>x.1 s' x.2) λ_ _ e=>e)
theorem Tm.get {Q:σ->σ->Prop}{st:σ}(h:Q st st):Tm prog w A E J (MonadState.get:W8 σ Sem σ) Q st:=λs j=>by
 show R7 _ _ ((StateT.get:W8 σ Sem σ).run st) _ _ _;exact P3 ⟨h,j⟩
theorem Tm.mono {m:W8 σ Sem α}{Q Q':α->σ->Prop}{st:σ}(h:Tm prog w A E J m Q st)(q: ∀a st',Q a st'->Q' a st'):Tm prog w A E J m Q' st:=λs j=>
 M9 (h s j) (λr s' x=>⟨q _ _ x.1,x.2⟩) λ_ _ e=>e
theorem Tm.range' {f:G3->β->W8 σ Sem (dR β)}(I:G3->β->σ->Prop){Q:β->σ->Prop}{b:G3}(step: ∀i c st,i<b->I i c st->Tm prog w A E J (f i c) (λr st'=>match r with| .done c'=>Q c' st'| .yield c'=>I (i+1) c' st') st)(fin: ∀c st,I b c st->Q c st):
 ∀ (k i:G3) (c:β) (st:σ),i+k=b->I i c st->Tm prog w A E J (forIn (uA i k) c f) Q st
 |0,i,c,st,e,h=>by
  rw [List.range'_zero,List.forIn_nil];exact .pure (fin c st (by rw [<-e];exact h))
 |k+1,i,c,st,e,h=>by
  rw [i8,dE];refine .bind ((step i c st (by omega) h).mono λr st' x=> ?_);cases r with
  |done c'=>exact .pure x
  |yield c'=>exact Tm.range' I step fin k (i+1) c' st' (by omega) x
theorem Tm.range {f:G3->β->W8 σ Sem (dR β)}(I:G3->β->σ->Prop){Q:β->σ->Prop}{a b:G3}{c:β}{st:σ}(hab:a<=b)(h:I a c st)(step: ∀i c st,i<b->I i c st->Tm prog w A E J (f i c) (λr st'=>match r with| .done c'=>Q c' st'| .yield c'=>I (i+1) c' st') st)(fin: ∀c st,I b c st->Q c st):
 Tm prog w A E J (forIn [a:b] c f) Q st:=λs j=>by
 rw [cA];have e:([a:b]:Std.Legacy.Range).size=b-a:=by simp [tM]
 rw [e];exact Tm.range' I step fin (b-a) a c st (by omega) h s j
end
section
variable {prog:S7}{w:N8}{A:N3}{E:G1->G2->Prop}{J:G2->Prop}{κ:SortKind}{U:D7->Prop}{R:D7->D7->M7}
def Vb (prog:S7)(w:N8)(A:N3)(J:G2->Prop)(κ:SortKind)(U:D7->Prop)(R:D7->D7->M7):Prop:=
 ∀x y,U x->U y-> ∀s,J s->R7 (S2 prog w) A (keyLt' κ x.1 y.1) (λb s'=>b=R x y/\J s') (λ_ _=>False) s
theorem Tm.lt {x y:D7}{st:B9}{Q:P7 M7->B9->Prop}(a:Vb prog w A J κ U R)(k:kindOf st=κ)(hx:U x)(hy:U y)(q:Q (some (R x y)) st):Tm prog w A E J (lt' x y) Q st:=by
 rw [lt'_eq];refine .bind (.get ?_);rw [k];intro s j;rw [StateT.run_bind];refine wpAny_bind ?_;show R7 _ _ ((uE _:W8 B9 Sem _).run st) _ _ _;rw [qC];refine wpAny_bind (sG (M9 (a x y hx hy s j) (λb s' x=> ?_) λ_ _ e=>e.elim));obtain⟨rfl,j'⟩:=x;exact P3 (Tm.pure (prog:=prog) (w:=w) (A:=A) (E:=E) (J:=J) q s' j')
theorem Tm.elem {arr:S9 D7}{i:G3}{x:D7}{st:B9}{Q:D7->B9->Prop}(e:arr[i]? =some x)(q:Q x st):Tm prog w A E J (elem' arr i) Q st:=by
 rw [elem'_eq,e];exact .pure q
theorem Ak {n lo hi:G3}{g:G3->M7}{st:B9}{f:G3->P7 (P7 G3)×G3×G3->W8 B9 Sem (dR (P7 (P7 G3)×G3×G3))}(anti: ∀i j,i<=j->j<n->g j=true->g i=true)
 (h1:lo<=hi)(h2:hi<=n)(a1: ∀i,i<lo->g i=true)(a2: ∀i,hi<=i->i<n->g i=false)
 (stop: ∀i l,Tm prog w A E J (f i (none,l,l)) (λr st'=>st'=st/\r= .done (none,l,l)) st)
 (step: ∀i l u,l<u->u<=n->Tm prog w A E J (f i (none,l,u)) (λr st'=>st'=st/\r=if g (l+(u-l) / 2)=true then .yield (none,l+(u-l) / 2+1,u) else .yield (none,l,l+(u-l) / 2)) st):
 Tm prog w A E J (forIn [0:n] (none,lo,hi) f) (λc st'=>st'=st/\c.1=none/\c.2.2<=n/\(∀i,i<c.2.2->g i=true)/\ ∀i,c.2.2<=i->i<n->g i=false) st:=by
 have no: ∀i j,i<=j->j<n->g i=false->g j=false:=λi j hij hj z=>by
  cases hb:g j with
  |false=>rfl
  |true=>rw [anti i j hij hj hb] at z;cases z
 refine Tm.range (λi c st'=>st'=st/\c.1=none/\c.2.1<=c.2.2/\c.2.2<=n/\(∀i,i<c.2.1->g i=true)/\(∀i,c.2.2<=i->i<n->g i=false)/\c.2.2-c.2.1+i<=n) (M6 _) ⟨rfl,rfl,h1,h2,a1,a2,by dsimp only;omega⟩ ?_ ?_
 ·rintro i ⟨r,l,u⟩ _ hi ⟨rfl,hr,b1,b2,b3,b4,b5⟩;dsimp only at hr b1 b2 b3 b4 b5;subst hr
  by_cases z:l=u
  ·subst z;refine(stop i l).mono ?_;rintro _ _ ⟨rfl,rfl⟩;exact⟨rfl,rfl,b2,b3,b4⟩
  ·refine(step i l u (by omega) b2).mono ?_;rintro _ _ ⟨rfl,rfl⟩;cases hg:g (l+(u-l) / 2) with
   |true=>
    rw [D4 rfl];exact⟨rfl,rfl,by dsimp only;omega,b2,λj hj=>anti j _ (by dsimp only at hj;omega) (by omega) hg,b4,by dsimp only;omega⟩
   |false=>
    rw [D5 (by decide)];exact⟨rfl,rfl,by dsimp only;omega,by dsimp only;omega,b3,λj hj hn=>no _ j hj hn hg,by dsimp only;omega⟩
 ·rintro ⟨r,l,u⟩ _ ⟨rfl,hr,b1,b2,b3,b4,b5⟩;dsimp only at hr b1 b2 b3 b4 b5 ⊢;exact⟨rfl,hr,b2,λj hj=>b3 j (by omega),b4⟩
def gal:M7->D7->S9 D7->G3->G3->G3->W8 B9 Sem (P7 G3):=sortPriv% PySem.Builtin.gallop
def byd (R:D7->D7->M7)(left:M7)(key:D7)(arr:S9 D7)(base i:G3):M7:=
 match arr[base+i]? with
 |some x=>if left=true then R x key else !R key x
 |none=>false
theorem Dr {left:M7}{key:D7}{arr:S9 D7}{base n hint:G3}{st:B9}{Q:P7 G3->B9->Prop}(a:Vb prog w A J κ U R)(k:kindOf st=κ)(uk:U key)(ua: ∀i,i<n-> ∃x,arr[base+i]? =some x/\U x)
 (anti: ∀i j,i<=j->j<n->byd R left key arr base j=true->byd R left key arr base i=true)(hh:hint<n)
 (q: ∀m,m<=n->(∀i,i<m->byd R left key arr base i=true)->(∀i,m<=i->i<n->byd R left key arr base i=false)->Q (some m) st):Tm prog w A E J (gal left key arr base n hint) Q st:=by
 have ask: ∀i (Q':P7 M7->B9->Prop),i<n->Q' (some (byd R left key arr base i)) st->Tm prog w A E J (do let x <-elem' arr (base+i);if left=true then lt' x key else do let b <-lt' key x;Pure.pure (b.map λz=> !z)) Q' st:=λi Q' hi q'=>by
  obtain⟨x,ex,ux⟩:=ua i hi;refine .bind (.elem ex ?_);unfold byd at q';rw [ex] at q';cases left with
  |true=>exact .lt a k ux uk q'
  |false=>exact .bind (.lt a k uk ux (.pure q'))
 have no: ∀i j,i<=j->j<n->byd R left key arr base i=false->byd R left key arr base j=false:=λi j hij hj z=>by
  cases hb:byd R left key arr base j with
  |false=>rfl
  |true=>rw [anti i j hij hj hb] at z;cases z
 unfold gal;refine .bind (ask hint _ hh ?_);dsimp only;cases hb:byd R left key arr base hint with
 |true=>
  rw [D4 rfl];refine .bind (Tm.mono (Tm.range (λi c st'=>st'=st/\c.1=none/\c.2.1<c.2.2/\hint+c.2.1<n/\byd R left key arr base (hint+c.2.1)=true/\i+1<=c.2.2)
   (Q:=λc st'=>st'=st/\c.1=none/\c.2.1<c.2.2/\hint+c.2.1<n/\byd R left key arr base (hint+c.2.1)=true/\(n-hint<=c.2.2\/byd R left key arr base (hint+c.2.2)=false)) (M6 _) ⟨rfl,rfl,by decide,by omega,by simpa using hb,by decide⟩ ?_ ?_) ?_)
  ·rintro i ⟨r,lo,of⟩ _ hi ⟨rfl,hr,h1,h2,h3,h4⟩;dsimp only at hr h1 h2 h3 h4 ⊢;subst hr
   by_cases z:of>=n-hint
   ·rw [D4 z];exact .pure ⟨rfl,rfl,h1,h2,h3,.inl z⟩
   ·rw [D5 z];refine .bind (ask (hint+of) _ (by omega) ?_);dsimp only;cases hc:byd R left key arr base (hint+of) with
    |true=>exact .pure ⟨rfl,rfl,by dsimp only;omega,by dsimp only;omega,hc,by dsimp only;omega⟩
    |false=>exact .pure ⟨rfl,rfl,h1,h2,h3,.inr hc⟩
  ·rintro ⟨r,lo,of⟩ _ ⟨rfl,hr,h1,h2,h3,h4⟩;exact⟨rfl,hr,h1,h2,h3,.inl (by dsimp only at h4 ⊢;omega)⟩
  ·rintro ⟨r,lo,of⟩ _ ⟨rfl,hr,h1,h2,h3,h4⟩;dsimp only at hr h1 h2 h3 h4 ⊢;subst hr;dsimp only;refine .bind (Tm.mono (Ak (g:=byd R left key arr base) anti (by omega) (by omega) (λi hi=>anti i _ (by omega) h2 h3) (λi hi hn=> ?_) (λi l=> ?_) (λi l u hl hu=> ?_)) ?_)
   ·rcases h4 with z|z
    ·omega
    ·exact no (hint+of) i (by omega) hn z
   ·rw [D4 (P2 l)];exact .pure ⟨rfl,rfl⟩
   ·rw [D5 (show ¬l>=u by omega)];refine .bind (ask (l+(u-l) / 2) _ (by omega) ?_);dsimp only;cases byd R left key arr base (l+(u-l) / 2)<;>exact .pure ⟨rfl,rfl⟩
   ·rintro ⟨r,l,u⟩ _ ⟨rfl,hr,b2,b3,b4⟩;dsimp only at hr b2 b3 b4 ⊢;subst hr;exact .pure (q u b2 b3 b4)
 |false=>
  rw [D5 (by decide)];refine .bind (Tm.mono (Tm.range (λi c st'=>st'=st/\c.1=none/\c.2.1<c.2.2/\c.2.1<=hint/\byd R left key arr base (hint-c.2.1)=false/\i+1<=c.2.2)
   (Q:=λc st'=>st'=st/\c.1=none/\c.2.1<c.2.2/\c.2.1<=hint/\byd R left key arr base (hint-c.2.1)=false/\(hint+1<=c.2.2\/byd R left key arr base (hint-c.2.2)=true)) (M6 _) ⟨rfl,rfl,by decide,by dsimp only;omega,by simpa using hb,by decide⟩ ?_ ?_) ?_)
  ·rintro i ⟨r,lo,of⟩ _ hi ⟨rfl,hr,h1,h2,h3,h4⟩;dsimp only at hr h1 h2 h3 h4 ⊢;subst hr
   by_cases z:of>=hint+1
   ·rw [D4 z];exact .pure ⟨rfl,rfl,h1,h2,h3,.inl z⟩
   ·rw [D5 z];refine .bind (ask (hint-of) _ (by omega) ?_);dsimp only;cases hc:byd R left key arr base (hint-of) with
    |false=>exact .pure ⟨rfl,rfl,by dsimp only;omega,by dsimp only;omega,hc,by dsimp only;omega⟩
    |true=>exact .pure ⟨rfl,rfl,h1,h2,h3,.inr hc⟩
  ·rintro ⟨r,lo,of⟩ _ ⟨rfl,hr,h1,h2,h3,h4⟩;exact⟨rfl,hr,h1,h2,h3,.inl (by dsimp only at h4 ⊢;omega)⟩
  ·rintro ⟨r,lo,of⟩ _ ⟨rfl,hr,h1,h2,h3,h4⟩;dsimp only at hr h1 h2 h3 h4 ⊢;subst hr;dsimp only;refine .bind (Tm.mono (Ak (g:=byd R left key arr base) anti (by omega) (by omega) (λi hi=> ?_) (λi hi hn=>no _ i hi hn h3) (λi l=> ?_) (λi l u hl hu=> ?_)) ?_)
   ·rcases h4 with z|z
    ·omega
    ·exact anti i (hint-of) (by omega) (by omega) z
   ·rw [D4 (P2 l)];exact .pure ⟨rfl,rfl⟩
   ·rw [D5 (show ¬l>=u by omega)];refine .bind (ask (l+(u-l) / 2) _ (by omega) ?_);dsimp only;cases byd R left key arr base (l+(u-l) / 2)<;>exact .pure ⟨rfl,rfl⟩
   ·rintro ⟨r,l,u⟩ _ ⟨rfl,hr,b2,b3,b4⟩;dsimp only at hr b2 b3 b4 ⊢;subst hr;exact .pure (q u b2 b3 b4)
end
section
variable {κ:Type}{U:κ->Prop}{R:κ->κ->M7}{al bl:G0 κ}
structure Ordd (U:κ->Prop)(R:κ->κ->M7):Prop where
 asym: ∀x y,U x->U y->R x y=true->R y x=false
 neg: ∀x y z,U x->U y->U z->R x z=true->R x y=true\/R y z=true
theorem Ordd.refl (o:Ordd U R){x:κ}(u:U x):R x x=false:=by
 cases h:R x x with
 |false=>rfl
 |true=>have:=o.asym x x u u h;rw [h] at this;exact this
theorem Ordd.trans (o:Ordd U R){x y z:κ}(ux:U x)(uy:U y)(uz:U z)(a:R y x=false)(b:R z y=false):R z x=false:=by
 cases h:R z x with
 |false=>rfl
 |true=>
  rcases o.neg z y x uz uy ux h with z|z
  ·rw [b] at z;cases z
  ·rw [a] at z;cases z
abbrev Srt (R:κ->κ->M7)(l:G0 κ):Prop:=l.Pairwise λx y=>R y x=false
structure MI (R:κ->κ->M7)(al bl:G0 κ)(ia ib:G3)(out:G0 κ):Prop where
 perm:out.Perm (al.take ia++bl.take ib)
 srt:Srt R out
 ra: ∀x∈out,∀y∈al.drop ia,R y x=false
 rb: ∀x∈out,∀y∈bl.drop ib,R y x=false
theorem za {l:G0 κ}{i:G3}{y:κ}(h:l[i]? =some y):l.drop i=y::l.drop (i+1):=by
 obtain⟨hi,e⟩:=D6.mp h;rw [iD hi,e]
theorem Wa {l:G0 κ}{i:G3}{y:κ}(h:l[i]? =some y):l.take (i+1)=l.take i++ [y]:=by
 rw [B8,h];rfl
theorem MI.start (al bl:G0 κ):MI R al bl 0 0 []:=⟨.refl _,.nil,λx hx=>(A5 hx).elim,λx hx=>(A5 hx).elim⟩
variable {ia ib:G3}
theorem MI.pushB {out:G0 κ}{y:κ}(m:MI R al bl ia ib out)(o:Ordd U R)(ua: ∀x∈al,U x)(ub: ∀x∈bl,U x)(sa:Srt R al)(sb:Srt R bl)(hy:bl[ib]? =some y)(lt: ∀z,al[ia]? =some z->R y z=true):MI R al bl ia (ib+1) (out++ [y]):=by
 have dy:=za hy;have uy:=ub y (D0 hy);have sdb:Srt R (bl.drop ib):=sb.sublist (Q0 _ _);rw [dy] at sdb;refine⟨?_,?_,λx hx z hz=> ?_,λx hx z hz=> ?_⟩
 ·rw [Wa hy,<-D1];exact m.perm.append_right _
 ·refine N6.mpr ⟨m.srt,A8 _ _,λx hx z hz=> ?_⟩;rw [G9.mp hz];exact m.rb x hx y (by rw [dy];exact P6 ..)
 ·rcases R5.mp hx with w|w
  ·exact m.ra x w z hz
  ·rw [G9.mp w];cases e:al[ia]? with
   |none=>rw [O5 (iE.mp e)] at hz;cases hz
   |some a0=>
    have da:=za e;have ua0:=ua a0 (D0 e);have sda:Srt R (al.drop ia):=sa.sublist (Q0 _ _);rw [da] at sda hz;have l0:=o.asym y a0 uy ua0 (lt a0 e);rcases S5.mp hz with v|v
    ·rw [v];exact l0
    ·exact o.trans uy ua0 (ua z (L5 v)) l0 ((bK.mp sda).1 z v)
 ·rcases R5.mp hx with w|w
  ·exact m.rb x w z (by rw [dy];exact R3 _ hz)
  ·rw [G9.mp w];exact(bK.mp sdb).1 z hz
theorem MI.pushA {out:G0 κ}{y:κ}(m:MI R al bl ia ib out)(o:Ordd U R)(ua: ∀x∈al,U x)(ub: ∀x∈bl,U x)(sa:Srt R al)(sb:Srt R bl)(hy:al[ia]? =some y)(ge: ∀z,bl[ib]? =some z->R z y=false):MI R al bl (ia+1) ib (out++ [y]):=by
 have dy:=za hy;have uy:=ua y (D0 hy);have sda:Srt R (al.drop ia):=sa.sublist (Q0 _ _);rw [dy] at sda;refine⟨?_,?_,λx hx z hz=> ?_,λx hx z hz=> ?_⟩
 ·rw [Wa hy];refine(m.perm.append_right [y]).trans ?_;rw [D1,D1];exact(bV).append_left _
 ·refine N6.mpr ⟨m.srt,A8 _ _,λx hx z hz=> ?_⟩;rw [G9.mp hz];exact m.ra x hx y (by rw [dy];exact P6 ..)
 ·rcases R5.mp hx with w|w
  ·exact m.ra x w z (by rw [dy];exact R3 _ hz)
  ·rw [G9.mp w];exact(bK.mp sda).1 z hz
 ·rcases R5.mp hx with w|w
  ·exact m.rb x w z hz
  ·rw [G9.mp w];cases e:bl[ib]? with
   |none=>rw [O5 (iE.mp e)] at hz;cases hz
   |some b0=>
    have db:=za e;have ub0:=ub b0 (D0 e);have sdb:Srt R (bl.drop ib):=sb.sublist (Q0 _ _);rw [db] at sdb hz;have l0:=ge b0 e;rcases S5.mp hz with v|v
    ·rw [v];exact l0
    ·exact o.trans uy ub0 (ub z (L5 v)) l0 ((bK.mp sdb).1 z v)
theorem MI.manyA (o:Ordd U R)(ua: ∀x∈al,U x)(ub: ∀x∈bl,U x)(sa:Srt R al)(sb:Srt R bl): ∀ (k:G3) {ia:G3} {out:G0 κ},MI R al bl ia ib out->ia+k<=al.length->(∀i,i<k-> ∀y,al[ia+i]? =some y-> ∀z,bl[ib]? =some z->R z y=false)->MI R al bl (ia+k) ib (out++(al.drop ia).take k)
 |0,ia,out,m,_,_=>by rw [eU,J4];exact m
 |k+1,ia,out,m,hk,h=>by
  obtain⟨y,hy⟩: ∃y,al[ia]? =some y:=⟨_,G7 (by omega)⟩;have m1:=m.pushA o ua ub sa sb hy (h 0 (by omega) y hy);have:=MI.manyA o ua ub sa sb k m1 (by omega) (λi hi y hy=>h (i+1) (by omega) y (by rw [show ia+(i+1)=ia+1+i by omega];exact hy));rw [show ia+(k+1)=ia+1+k by omega,za hy,m7,pI];exact this
theorem MI.manyB (o:Ordd U R)(ua: ∀x∈al,U x)(ub: ∀x∈bl,U x)(sa:Srt R al)(sb:Srt R bl): ∀ (k:G3) {ib:G3} {out:G0 κ},MI R al bl ia ib out->ib+k<=bl.length->(∀i,i<k-> ∀y,bl[ib+i]? =some y-> ∀z,al[ia]? =some z->R y z=true)->MI R al bl ia (ib+k) (out++(bl.drop ib).take k)
 |0,ib,out,m,_,_=>by rw [eU,J4];exact m
 |k+1,ib,out,m,hk,h=>by
  obtain⟨y,hy⟩: ∃y,bl[ib]? =some y:=⟨_,G7 (by omega)⟩;have m1:=m.pushB o ua ub sa sb hy (h 0 (by omega) y hy);have:=MI.manyB o ua ub sa sb k m1 (by omega) (λi hi y hy=>h (i+1) (by omega) y (by rw [show ib+(i+1)=ib+1+i by omega];exact hy));rw [show ib+(k+1)=ib+1+k by omega,za hy,m7,pI];exact this
theorem MI.all {out:G0 κ}(m:MI R al bl al.length bl.length out):out.Perm (al++bl)/\Srt R out:=by
 have:=m.perm;rw [fN,fN] at this;exact⟨this,m.srt⟩
theorem MI.done {out:G0 κ}(m:MI R al bl ia ib out)(o:Ordd U R)(ua: ∀x∈al,U x)(ub: ∀x∈bl,U x)(sa:Srt R al)(sb:Srt R bl)(ha:ia<=al.length)(hb:ib<=bl.length)(h:ia=al.length\/ib=bl.length):(out++al.drop ia++bl.drop ib).Perm (al++bl)/\Srt R (out++al.drop ia++bl.drop ib):=by
 have m1:=MI.manyA o ua ub sa sb (al.length-ia) m (by omega) (λi hi y hy z hz=>by
  have:=(D6.mp hz).1;omega)
 rw [show ia+(al.length-ia)=al.length by omega,T8 (by rw [B3];exact P2 _)] at m1;have m2:=MI.manyB o ua ub sa sb (bl.length-ib) m1 (by omega) (λi hi y hy z hz=>by
  have:=(D6.mp hz).1;omega)
 rw [show ib+(bl.length-ib)=bl.length by omega,T8 (l:=bl.drop ib) (by rw [B3];exact P2 _)] at m2;exact m2.all
theorem MI.lastA {out:G0 κ}(m:MI R al bl ia ib out)(o:Ordd U R)(ua: ∀x∈al,U x)(ub: ∀x∈bl,U x)(sa:Srt R al)(sb:Srt R bl)(ha:ia+1=al.length)(hb:ib<=bl.length)(h: ∀y∈bl,∀z,al[al.length-1]? =some z->R y z=true):(out++bl.drop ib++al.drop ia).Perm (al++bl)/\Srt R (out++bl.drop ib++al.drop ia):=by
 have m2:=MI.manyB o ua ub sa sb (bl.length-ib) m (by omega) (λi hi y hy z hz=>h y (D0 hy) z (by rw [<-ha];exact hz));rw [show ib+(bl.length-ib)=bl.length by omega,T8 (by rw [B3];exact P2 _)] at m2;have m1:=MI.manyA o ua ub sa sb (al.length-ia) m2 (by omega) (λi hi y hy z hz=>by
  have:=(D6.mp hz).1;omega)
 rw [show ia+(al.length-ia)=al.length by omega,T8 (l:=al.drop ia) (by rw [B3];exact P2 _)] at m1;exact m1.all
end
section
variable {prog:S7}{w:N8}{A:N3}{E:G1->G2->Prop}{J:G2->Prop}{κ:SortKind}{U:D7->Prop}{R:D7->D7->M7}
theorem Tm.rule {σ:Type}{x:V8}{Q:Unit->σ->Prop}{st:σ}(q:Q () st):Tm prog w A E J (liftM (PySem.rule x):W8 σ Sem Unit) Q st:=λs j=>by
 show R7 _ _ ((uE _:W8 σ Sem _).run st) _ _ _;rw [qC];exact wpAny_bind (fK (P3 ⟨q,j⟩))
theorem Tm.modify {σ:Type}{f:σ->σ}{Q:Unit->σ->Prop}{st:σ}(q:Q () (f st)):Tm prog w A E J (_root_.modify f:W8 σ Sem PUnit) Q st:=λs j=>by
 rw [StateT.run_modify];exact P3 ⟨q,j⟩
def mLo:S9 D7->S9 D7->W8 B9 Sem (S9 D7):=sortPriv% PySem.Builtin.mergeLo
def Gal (st st':B9):Prop:=kindOf st'=kindOf st/\T1 st'=T1 st/\B1 st'=B1 st/\aR st'=aR st
theorem Gal.refl (st:B9):Gal st st:=⟨rfl,rfl,rfl,rfl⟩
theorem Zw (a:S9 D7)(i:G3):(a.extract i).toList=a.toList.drop i:=by
 rw [aS,V7];exact T8 (by simp)
theorem XS (a:S9 D7)(i k:G3):(a.extract i (i+k)).toList=(a.toList.drop i).take k:=by
 rw [aS,V7,j6]
def va (R:D7->D7->M7)(a b c:S9 D7):Prop:=c.toList.Perm (a.toList++b.toList)/\Srt R c.toList
structure Two (U:D7->Prop)(R:D7->D7->M7)(a b:S9 D7):Prop where
 o:Ordd U R
 ua: ∀x∈a.toList,U x
 ub: ∀x∈b.toList,U x
 sa:Srt R a.toList
 sb:Srt R b.toList
 last: ∀y∈b.toList,∀z,a.toList[a.toList.length-1]? =some z->R y z=true
abbrev MA (R:D7->D7->M7)(a b:S9 D7)(ia ib:G3)(out:S9 D7):Prop:=MI R a.toList b.toList ia ib out.toList
section
variable {a b out:S9 D7}{ia ib:G3}
theorem MA.done (t:Two U R a b)(m:MA R a b ia ib out)(ha:ia<=a.size)(hb:ib<=b.size)(h:ia=a.size\/ib=b.size):va R a b (out++a.extract ia++b.extract ib):=by
 have:=MI.done m t.o t.ua t.ub t.sa t.sb (by simpa using ha) (by simpa using hb) (by simpa using h);unfold va;rw [H0,H0,Zw,Zw];exact this
theorem MA.lastA (t:Two U R a b)(m:MA R a b ia ib out)(ha:ia+1=a.size)(hb:ib<=b.size):va R a b (out++b.extract ib++a.extract ia):=by
 have:=MI.lastA m t.o t.ua t.ub t.sa t.sb (by simpa using ha) (by simpa using hb) t.last;unfold va;rw [H0,H0,Zw,Zw];exact this
theorem MA.pushB (t:Two U R a b){y:D7}(m:MA R a b ia ib out)(hy:b.toList[ib]? =some y)(lt: ∀z,a.toList[ia]? =some z->R y z=true):MA R a b ia (ib+1) (out.push y):=by
 have:=MI.pushB m t.o t.ua t.ub t.sa t.sb hy lt;show MI R _ _ _ _ (out.push y).toList;rw [U7];exact this
theorem MA.pushA (t:Two U R a b){y:D7}(m:MA R a b ia ib out)(hy:a.toList[ia]? =some y)(ge: ∀z,b.toList[ib]? =some z->R z y=false):MA R a b (ia+1) ib (out.push y):=by
 have:=MI.pushA m t.o t.ua t.ub t.sa t.sb hy ge;show MI R _ _ _ _ (out.push y).toList;rw [U7];exact this
theorem MA.manyA (t:Two U R a b)(m:MA R a b ia ib out)(k:G3)(hk:ia+k<=a.size)(h: ∀i,i<k-> ∀y,a.toList[ia+i]? =some y-> ∀z,b.toList[ib]? =some z->R z y=false):MA R a b (ia+k) ib (out++a.extract ia (ia+k)):=by
 have:=MI.manyA t.o t.ua t.ub t.sa t.sb k m (by simpa using hk) h;show MI R _ _ _ _ (out++a.extract ia (ia+k)).toList;rw [H0,XS];exact this
theorem MA.manyB (t:Two U R a b)(m:MA R a b ia ib out)(k:G3)(hk:ib+k<=b.size)(h: ∀i,i<k-> ∀y,b.toList[ib+i]? =some y-> ∀z,a.toList[ia]? =some z->R y z=true):MA R a b ia (ib+k) (out++b.extract ib (ib+k)):=by
 have:=MI.manyB t.o t.ua t.ub t.sa t.sb k m (by simpa using hk) h;show MI R _ _ _ _ (out++b.extract ib (ib+k)).toList;rw [H0,XS];exact this
end
variable {arr:S9 D7}{base:G3}
theorem yq {left:M7}{key x:D7}{i:G3}(h:arr.toList[base+i]? =some x):byd R left key arr base i=if left=true then R x key else !R key x:=by
 unfold byd;rw [<-T9,h]
theorem Wb {l:G0 D7}(s:Srt R l)(o:Ordd U R)(u: ∀x∈l,U x){i j:G3}{x y:D7}(hij:i<=j)(hx:l[i]? =some x)(hy:l[j]? =some y):R y x=false:=by
 by_cases z:i=j
 ·subst z;rw [hx] at hy;injection hy with hy;subst hy
  exact o.refl (u x (D0 hx))
 ·obtain⟨h1,e1⟩:=D6.mp hx;obtain⟨h2,e2⟩:=D6.mp hy;have:=C5.mp s i j h1 h2 (by omega);rw [e1,e2] at this;exact this
theorem Wc {i:G3}(h:i<arr.size): ∃x,arr.toList[i]? =some x/\arr[i]? =some x:=⟨arr[i],by simp [h],by simp [h]⟩
theorem TB {y:D7}{n hint:G3}{st:B9}{Q:P7 G3->B9->Prop}(ak:Vb prog w A J κ U R)(kd:kindOf st=κ)(o:Ordd U R)(u: ∀x∈arr.toList,U x)(s:Srt R arr.toList)(uy:U y)(hn:base+n<=arr.size)(hh:hint<n)
 (q: ∀k,k<=n->(∀i,i<k-> ∀x,arr.toList[base+i]? =some x->R y x=false)->(∀i,k<=i->i<n-> ∀x,arr.toList[base+i]? =some x->R y x=true)->Q (some k) st):Tm prog w A E J (gal false y arr base n hint) Q st:=by
 refine Dr ak kd uy (λi hi=> ?_) (λi j hij hj h=> ?_) hh (λk k1 k2 k3=>q k k1 (λi hi x hx=> ?_) (λi h1 h2 x hx=> ?_))
 ·obtain⟨x,lx,ex⟩:=Wc (show base+i<arr.size by omega);exact⟨x,ex,u x (D0 lx)⟩
 ·obtain⟨x,lx,_⟩:=Wc (show base+i<arr.size by omega);obtain⟨z,lz,_⟩:=Wc (show base+j<arr.size by omega);rw [yq lz] at h;rw [yq lx];have hz:R y z=false:=by simpa using h
  have:=o.trans (u x (D0 lx)) (u z (D0 lz)) uy (Wb s o u (by omega) lx lz) hz;simp [this]
 ·have:=k2 i hi;rw [yq hx] at this;simpa using this
 ·have:=k3 i h1 h2;rw [yq hx] at this;simpa using this
theorem TC {y:D7}{n hint:G3}{st:B9}{Q:P7 G3->B9->Prop}(ak:Vb prog w A J κ U R)(kd:kindOf st=κ)(o:Ordd U R)(u: ∀x∈arr.toList,U x)(s:Srt R arr.toList)(uy:U y)(hn:base+n<=arr.size)(hh:hint<n)
 (q: ∀k,k<=n->(∀i,i<k-> ∀x,arr.toList[base+i]? =some x->R x y=true)->(∀i,k<=i->i<n-> ∀x,arr.toList[base+i]? =some x->R x y=false)->Q (some k) st):Tm prog w A E J (gal true y arr base n hint) Q st:=by
 refine Dr ak kd uy (λi hi=> ?_) (λi j hij hj h=> ?_) hh (λk k1 k2 k3=>q k k1 (λi hi x hx=> ?_) (λi h1 h2 x hx=> ?_))
 ·obtain⟨x,lx,ex⟩:=Wc (show base+i<arr.size by omega);exact⟨x,ex,u x (D0 lx)⟩
 ·obtain⟨x,lx,_⟩:=Wc (show base+i<arr.size by omega);obtain⟨z,lz,_⟩:=Wc (show base+j<arr.size by omega);rw [yq lz] at h;rw [yq lx];have hz:R z y=true:=by simpa using h
  rcases o.neg z x y (u z (D0 lz)) (u x (D0 lx)) uy hz with v|v
  ·rw [Wb s o u (by omega) lx lz] at v;cases v
  ·simp [v]
 ·have:=k2 i hi;rw [yq hx] at this;simpa using this
 ·have:=k3 i h1 h2;rw [yq hx] at this;simpa using this
section
variable {σ α β γ:Type}{c:Prop}[Decidable c]{t e:W8 σ Sem α}{Q:α->σ->Prop}{st:σ}{x y:β}{z:γ}
theorem Tm.if2 (T:c->Tm prog w A E J t Q st)(F: ¬c->Tm prog w A E J e Q st):Tm prog w A E J (if c then t else e) Q st:=by
 split
 ·exact T ‹_›
 ·exact F ‹_›
theorem Tm.eq2 {x y:G3}(T:x=y->Tm prog w A E J t Q st)(F: ¬x=y->Tm prog w A E J e Q st):Tm prog w A E J (if (x==y)=true then t else e) Q st:=
 .if2 (λh=>T (eq_of_beq h)) λh=>F λg=>h (beq_iff_eq.mpr g)
theorem Tm.both {f:β->W8 σ Sem α}(he:e=f y)(ht:t=f x)(H: ∀m,Tm prog w A E J (f m) Q st):Tm prog w A E J (if c then t else e) Q st:=by
 subst he ht;exact .if2 (λ_=>H _) λ_=>H _
theorem Tm.join {f:β->γ->W8 σ Sem α}{I:β->γ->Prop}(he:e=f x z)(G: ∀m o,I m o->Tm prog w A E J (f m o) Q st)(T:c->(∀m o,I m o->Tm prog w A E J (f m o) Q st)->Tm prog w A E J t Q st)(F: ¬c->I x z):Tm prog w A E J (if c then t else e) Q st:=by
 subst he;exact .if2 (λh=>T h G) λh=>G _ _ (F h)
end
theorem Ej {A B C D F:Type}{P:A×B×C×D×F->Prop}(h: ∀a b c d f,P (a,b,c,d,f)): ∀c,P c:=λc=>h c.1 c.2.1 c.2.2.1 c.2.2.2.1 c.2.2.2.2
theorem Ek {A B C D F G:Type}{P:A×B×C×D×F×G->Prop}(h: ∀a b c d f g,P (a,b,c,d,f,g)): ∀c,P c:=λc=>h c.1 c.2.1 c.2.2.1 c.2.2.2.1 c.2.2.2.2.1 c.2.2.2.2.2
theorem El {A B C D F G H:Type}{P:A×B×C×D×F×G×H->Prop}(h: ∀a b c d f g k,P (a,b,c,d,f,g,k)): ∀c,P c:=λc=>h c.1 c.2.1 c.2.2.1 c.2.2.2.1 c.2.2.2.2.1 c.2.2.2.2.2.1 c.2.2.2.2.2.2
theorem wM {a:S9 D7}(u: ∀x∈a.toList,U x){i:G3}(h:i<a.size){P:Prop}(q: ∀y,a[i]? =some y->a.toList[i]? =some y->U y->P):P:=q a[i] (by simp [h]) (by simp [h]) (u _ (by simp))
structure LoI (R:D7->D7->M7)(a b:S9 D7)(st st':B9)(n:G3)(out:S9 D7)(ia ib:G3):Prop where
 g:Gal st st'
 m:MA R a b ia ib out
 a:ia+1<a.size
 b:ib<b.size
 n:n<=ia+ib
def LoO (R:D7->D7->M7)(a b:S9 D7)(st st':B9)(n:G3)(r:P7 (S9 D7))(out:S9 D7)(ia ib:G3):Prop:=Gal st st'/\match r with|some c=>va R a b c|none=>LoI R a b st st' n out ia ib
section
variable {a b out:S9 D7}{st st':B9}{n k ia ib:G3}
theorem LoI.more (h:LoI R a b st st' n out ia ib)(l:k<=n):LoI R a b st st' k out ia ib:=⟨h.g,h.m,h.a,h.b,S4 l h.n⟩
theorem LoI.here (h:LoI R a b st st' n out ia ib):LoI R a b st st' (ia+ib) out ia ib:=⟨h.g,h.m,h.a,h.b,P2 _⟩
theorem LoI.at {s:B9}(h:LoI R a b st st' n out ia ib)(g:Gal st s)(l:k<=n):LoI R a b st s k out ia ib:=⟨g,h.m,h.a,h.b,S4 l h.n⟩
theorem LoI.never {P:Prop}(h:LoI R a b st st' n out ia ib)(l:a.size+b.size<=n):P:=absurd (S4 l h.n) (Nat.not_le_of_lt (Nat.add_lt_add (U8 h.a) h.b))
end
theorem Al {a b:S9 D7}{st:B9}{Q:S9 D7->B9->Prop}(ak:Vb prog w A J κ U R)(kd:kindOf st=κ)(t:Two U R a b)
 (na:1<=a.size)(nb:1<=b.size)(first: ∀y z,b.toList[0]? =some y->a.toList[0]? =some z->R y z=true)
 (q: ∀c st',Gal st st'->va R a b c->Q c st'):Tm prog w A E J (mLo a b) Q st:=by
 refine .bind (.rule (.bind (wM t.ub nb λb0 eb0 lb0 ub0=> .elem eb0 ?_)));have m0:MA R a b 0 1 #[b0]:=MA.pushB t (out:= #[]) (MI.start _ _) lb0 (λz hz=>first _ z lb0 hz);refine .eq2 (x:=1) (y:=b.size) (λz1=> .pure (q _ _ (Gal.refl st) (MA.done t m0 (M6 _) nb (.inr z1)))) λz1=> .eq2 (x:=0+1) (y:=a.size) (λz2=> .pure (q _ _ (Gal.refl st) (MA.lastA t m0 z2 nb))) λz2=> .bind (.get ?_)
 refine .bind (Tm.mono (Tm.range (λi c st'=>LoI R a b st st' (i+1) c.2.1 c.2.2.1 c.2.2.2.1)
  (Q:=λc st'=> ∃r,c.1=some r/\Gal st st'/\va R a b r) (M6 _) ⟨Gal.refl st,m0,E9 na z2,E9 nb z1,P2 _⟩ ?_ ?_) ?_)
 ·intro i c st1 hi;revert c;refine Ej λr out ia ib mg h=> ?_
  refine .bind (Tm.mono (Tm.range (λj c st'=>LoI R a b st st' (ia+ib+j) c.2.1 c.2.2.1 c.2.2.2.1)
   (Q:=λc st'=>LoO R a b st st' (ia+ib+1) c.1 c.2.1 c.2.2.1 c.2.2.2.1) (M6 _) h.here ?_ ?_) ?_)
  ·intro j c st2 hj;revert c;refine Ek λr out ja jb ac bc h=> ?_
   refine .bind (wM t.ub h.b λy ey ly uy=> .elem ey (.bind (wM t.ua (U8 h.a) λx ex lx ux=> .elem ex (.bind (.lt ak (h.g.1.trans kd) uy ux (.if2 (c:=R y x=true) (λhb=> .bind (.elem ey ?_)) λhb=> .bind (.elem ex ?_)))))))
   ·have m1:=MA.pushB t h.m ly (λz hz=>by rw [lx] at hz;injection hz with hz;rw [<-hz];exact hb);refine .eq2 (x:=jb+1) (y:=b.size) (λc1=> .pure ⟨h.g,MA.done t m1 (R9 (U8 h.a)) h.b (.inr c1)⟩) λc1=> ?_
    have d:LoI R a b st st2 (ia+ib+(j+1)) (out.push y) ja (jb+1):=⟨h.g,m1,h.a,E9 (eZ h.b) c1,a8 h.n⟩;exact .if2 (λ_=> .pure ⟨h.g,d.more (cU (bQ _ _) _)⟩) λ_=> .pure d
   ·have m1:=MA.pushA t h.m lx (λz hz=>by rw [ly] at hz;injection hz with hz;rw [<-hz];exact X4.mpr hb);refine .eq2 (x:=ja+1+1) (y:=a.size) (λc1=> .pure ⟨h.g,MA.lastA t m1 c1 (R9 h.b)⟩) λc1=> ?_
    have d:LoI R a b st st2 (ia+ib+(j+1)) (out.push x) (ja+1) jb:=⟨h.g,m1,E9 (eZ h.a) c1,h.b,S4 (a8 h.n) (K0 (Nat.succ_add _ _).symm)⟩;exact .if2 (λ_=> .pure ⟨h.g,d.more (cU (bQ _ _) _)⟩) λ_=> .pure d
  ·exact λc st2 h=>h.never (bQ _ _)
  ·intro c st2;revert c;refine Ek λr out ja jb ac bc h'=> ?_
   cases r with
   |some r=>exact .pure ⟨r,rfl,h'⟩
   |none=>
   replace h':=h'.2
   refine .bind (.rule (.bind (Tm.mono (Tm.range (λj c st'=>LoI R a b st st' (ja+jb+j) c.2.1 c.2.2.1 c.2.2.2.1)
    (Q:=λc st'=>LoO R a b st st' (ja+jb) c.1 c.2.1 c.2.2.1 c.2.2.2.1) (M6 _) h'.here ?_ ?_) ?_)))
   ·clear h;intro j c st2 hj;revert c;refine El λr out pa pb mg ac bc h=> ?_
    refine wM t.ub h.b λy ey ly uy=> ?_
    have g2:0<a.size-pa:=oT (U8 h.a);have g1:pa+(a.size-pa)<=a.size:=K0 (J6 (R9 (U8 h.a)));refine Tm.both (y:=mg) (x:=mg-1) (by rfl) (by rfl) λmg=> ?_
    refine .bind (Tm.modify (.bind (.elem ey (.bind (TB (base:=pa) (n:=a.size-pa) ak (h.g.1.trans kd) t.o t.ua t.sa uy g1 g2 λk k1 k2 k3=> ?_)))));refine Tm.join (I:=λo ia=>MA R a b ia pb o/\ia+1<a.size/\pa<=ia/\ ∀x,a.toList[ia]? =some x->R y x=true) (x:=out) (z:=pa) (by rfl) ?_ ?_ ?_
    ·refine λo qa i1=> ?_
     have M2:=MA.pushB t i1.1 ly i1.2.2.2;have p1:=U8 i1.2.1;refine .bind (.elem ey (.eq2 (x:=pb+1) (y:=b.size) (λc3=> .pure ⟨h.g,MA.done t M2 (R9 p1) (K0 c3) (.inr c3)⟩) λc3=> ?_));have c8:pb+1<b.size:=E9 (eZ h.b) c3;have g2:=oT c8;refine .bind (wM t.ua p1 λx ex lx ux=> .elem ex (.bind (TC (base:=pb+1) (n:=b.size-(pb+1)) ak (h.g.1.trans kd) t.o t.ub t.sb ux (K0 (J6 (R9 c8))) g2 λk' q1 q2 q3=> ?_)));dsimp only;generalize ep:pb+1=p2 at M2 q1 q2 q3 c8 g2 ⊢;generalize eo:o.push y=o2 at M2 ⊢;refine Tm.join (I:=λo ib=>MA R a b qa ib o/\ib<b.size/\p2<=ib/\ ∀x',b.toList[ib]? =some x'->R x' x=false) (x:=o2) (z:=p2) (by rfl) ?_ ?_ ?_
     ·refine λo qb i2=> ?_
      have M4:=MA.pushA t i2.1 lx i2.2.2.2;refine .bind (.elem ex (.eq2 (x:=qa+1+1) (y:=a.size) (λc5=> .pure ⟨h.g,MA.lastA t M4 c5 (R9 i2.2.1)⟩) λc5=> ?_));have n1:ja+jb+j<=pa+pb:=h.n;have n2:ja+jb+(j+1)<=qa+1+qb:=by have:=i1.2.2.1;have:=i2.2.2.1;omega
      have d:LoI R a b st st2 (ja+jb+(j+1)) (o.push x) (qa+1) qb:=⟨h.g,M4,E9 (eZ i1.2.1) c5,i2.2.1,n2⟩;exact .if2 (λ_=> .pure ⟨h.g,d.at h.g (Z0 _ _)⟩) λ_=> .pure (d.at h.g (P2 _))
     ·intro kz' H;have g3:p2+k'<=b.size:=S4 (cU q1 _) (K0 (J6 (R9 c8)));have M3:=MA.manyB t M2 k' g3 (λi hi y' hy z hz=>by rw [lx] at hz;injection hz with hz;rw [<-hz];exact q2 i hi y' hy);exact .eq2 (x:=p2+k') (y:=b.size) (λc4=> .pure ⟨h.g,MA.done t M3 (R9 p1) g3 (.inr c4)⟩) λc4=>H _ _ ⟨M3,E9 g3 c4,Z0 _ _,λz hz=>q3 k' (P2 _) (by omega) z hz⟩
     ·exact λkz'=>⟨M2,c8,P2 _,λz hz=>q3 0 (fL kz') g2 z hz⟩
    ·intro kz H;have g3:pa+k<=a.size:=S4 (cU k1 _) g1;have m1:=MA.manyA t h.m k g3 (λi hi x hx z hz=>by rw [ly] at hz;injection hz with hz;rw [<-hz];exact k2 i hi x hx);exact .eq2 (x:=pa+k+1) (y:=a.size) (λc1=> .pure ⟨h.g,MA.lastA t m1 c1 (R9 h.b)⟩) λc1=> .eq2 (x:=pa+k) (y:=a.size) (λc2=> .pure ⟨h.g,MA.done t m1 g3 (R9 h.b) (.inl c2)⟩) λc2=>H _ _ ⟨m1,E9 (E9 g3 c2) c1,Z0 _ _,λx hx=>k3 k (P2 _) (by omega) x hx⟩
    ·exact λkz=>⟨h.m,h.a,P2 _,λx hx=>k3 0 (fL kz) g2 x hx⟩
   ·exact λc st3 h=>h.never (bQ _ _)
   ·intro c st3;revert c;refine El λr out pa pb mg ac bc h3=> ?_
    cases r with
    |some r=>exact .pure ⟨r,rfl,h3⟩
    |none=>exact .bind (Tm.modify (.pure (h3.2.at h3.1 (S4 (a8 h.n) h'.n))))
 ·exact λc st1 h=>h.never (Z0 _ _)
 ·intro c st1;revert c;refine Ej λr out ia ib mg h=> ?_
  obtain⟨c,rfl,gl,wh⟩:=h;exact .pure (q c st1 gl wh)
end
section
variable {prog:S7}{w:N8}{A:N3}{E:G1->G2->Prop}{J:G2->Prop}{κ:SortKind}{U:D7->Prop}{R:D7->D7->M7}
abbrev Flp (R:D7->D7->M7):D7->D7->M7:=λx y=>R y x
theorem Ordd.flip (o:Ordd U R):Ordd U (Flp R):=⟨λx y ux uy h=>o.asym y x uy ux h,λx y z ux uy uz h=>(o.neg z y x uz uy ux h).symm⟩
variable {l:G0 D7}
theorem zf (s:Srt R l):Srt (Flp R) l.reverse:=fH.mpr s
theorem XT (s:Srt (Flp R) l):Srt R l.reverse:=fH.mpr s
variable {n:G3}
theorem Ds (h1:1<=n)(hn:n<=l.length):l.reverse[l.length-n]? =l[n-1]? :=by
 rw [bW (by omega)]
 congr 1;omega
theorem we {z:D7}(hn:n<=l.length)(h:l.reverse[l.length-n]? =some z):1<=n/\l[n-1]? =some z:=by
 have:=(D6.mp h).1;rw [B7] at this;have n1:1<=n:=by omega
 exact⟨n1,by rw [<-Ds n1 hn];exact h⟩
theorem Jc (l:G0 D7){n:G3}(hn:n<=l.length):l.reverse.drop (l.length-n)=(l.take n).reverse:=by
 rw [List.drop_reverse]
 congr 2;omega
def MH (R:D7->D7->M7)(a b:S9 D7)(na nb:G3)(out:S9 D7):Prop:=MI (Flp R) b.toList.reverse a.toList.reverse (b.toList.length-nb) (a.toList.length-na) out.toList
structure TwoH (U:D7->Prop)(R:D7->D7->M7)(a b:S9 D7):Prop where
 o:Ordd U R
 ua: ∀x∈a.toList,U x
 ub: ∀x∈b.toList,U x
 sa:Srt R a.toList
 sb:Srt R b.toList
 first: ∀z∈a.toList,∀y,b.toList[0]? =some y->R y z=true
section
variable {a b out:S9 D7}{na nb:G3}
theorem TwoH.fa (t:TwoH U R a b): ∀x∈a.toList.reverse,U x:=λx hx=>t.ua x (A9.mp hx)
theorem TwoH.fb (t:TwoH U R a b): ∀x∈b.toList.reverse,U x:=λx hx=>t.ub x (A9.mp hx)
theorem MH.start (a b:S9 D7):MH R a b a.toList.length b.toList.length #[]:=by
 unfold MH;rw [gK,gK];exact MI.start _ _
theorem MH.pushA (t:TwoH U R a b){y:D7}(m:MH R a b na nb out)(h1:1<=na)(hn:na<=a.toList.length)(hb:nb<=b.toList.length)(hy:a.toList[na-1]? =some y)(lt: ∀z,1<=nb->b.toList[nb-1]? =some z->R z y=true):MH R a b (na-1) nb (out.push y):=by
 have:=MI.pushB m t.o.flip t.fb t.fa (zf t.sb) (zf t.sa) (by rw [Ds h1 hn];exact hy) (λz hz=>lt z (we hb hz).1 (we hb hz).2);unfold MH;rw [U7,show a.toList.length-(na-1)=a.toList.length-na+1 by omega];exact this
theorem MH.pushB (t:TwoH U R a b){y:D7}(m:MH R a b na nb out)(h1:1<=nb)(hn:nb<=b.toList.length)(ha:na<=a.toList.length)(hy:b.toList[nb-1]? =some y)(ge: ∀z,1<=na->a.toList[na-1]? =some z->R y z=false):MH R a b na (nb-1) (out.push y):=by
 have:=MI.pushA m t.o.flip t.fb t.fa (zf t.sb) (zf t.sa) (by rw [Ds h1 hn];exact hy) (λz hz=>ge z (we ha hz).1 (we ha hz).2);unfold MH;rw [U7,show b.toList.length-(nb-1)=b.toList.length-nb+1 by omega];exact this
theorem Jd (a:S9 D7)(n:G3):(a.extract 0 n).toList=a.toList.take n:=by
 rw [aS,V7,rG,Nat.sub_zero]
theorem MH.done (t:TwoH U R a b)(m:MH R a b na nb out)(ha:na<=a.toList.length)(hb:nb<=b.toList.length)(h:na=0\/nb=0):va R a b (a.extract 0 na++b.extract 0 nb++out.reverse):=by
 have:=MI.done m t.o.flip t.fb t.fa (zf t.sb) (zf t.sa) (by rw [B7];omega) (by rw [B7];omega) (by rw [B7,B7];omega);rw [Jc _ ha,Jc _ hb] at this;have e:(a.extract 0 na++b.extract 0 nb++out.reverse).toList=(out.toList++(b.toList.take nb).reverse++(a.toList.take na).reverse).reverse:=by
  rw [H0,H0,Jd,Jd,f7];simp [D1]
 unfold va;rw [e];refine⟨(U9 _).trans (this.1.trans ?_),XT this.2⟩;exact(pJ (U9 _) (U9 _)).trans bV
theorem MH.firstB (t:TwoH U R a b)(m:MH R a b na nb out)(ha:na<=a.toList.length)(hb:nb=1)(hb':1<=b.toList.length):va R a b (b.extract 0 nb++a.extract 0 na++out.reverse):=by
 subst hb;have:=MI.lastA m t.o.flip t.fb t.fa (zf t.sb) (zf t.sa) (by rw [B7];omega) (by rw [B7];omega) (λz hz y hy=>by
  rw [B7] at hy;have:=(we hb' hy).2;exact t.first z (A9.mp hz) y (by simpa using this))
 rw [Jc _ ha,Jc _ hb'] at this;have e:(b.extract 0 1++a.extract 0 na++out.reverse).toList=(out.toList++(a.toList.take na).reverse++(b.toList.take 1).reverse).reverse:=by
  rw [H0,H0,Jd,Jd,f7];simp [D1]
 unfold va;rw [e];refine⟨(U9 _).trans (this.1.trans ?_),XT this.2⟩;exact(pJ (U9 _) (U9 _)).trans bV
theorem XU (l:G0 D7){p n:G3}(h1:p<=n)(hn:n<=l.length):(l.reverse.drop (l.length-n)).take (n-p)=((l.drop p).take (n-p)).reverse:=by
 rw [Jc l hn,List.take_reverse,T3,mK,dF hn,show n-(n-p)=p by omega]
theorem Dt (a:S9 D7){p n:G3}(h:p<=n):(a.extract p n).reverse.toList=((a.toList.drop p).take (n-p)).reverse:=by
 rw [f7,aS,V7]
theorem MH.manyA (t:TwoH U R a b)(m:MH R a b na nb out)(p:G3)(hp:p<=na)(hn:na<=a.toList.length)(hb:nb<=b.toList.length)(h: ∀i,p<=i->i<na-> ∀y,a.toList[i]? =some y-> ∀z,1<=nb->b.toList[nb-1]? =some z->R z y=true):MH R a b p nb (out++(a.extract p na).reverse):=by
 have:=MI.manyB t.o.flip t.fb t.fa (zf t.sb) (zf t.sa) (na-p) m (by rw [B7];omega) (λi hi y hy z hz=>by
  rw [bW (by omega)] at hy;exact h _ (by omega) (by omega) y hy z (we hb hz).1 (we hb hz).2)
 rw [XU _ hp hn] at this;unfold MH;rw [H0,Dt _ hp,show a.toList.length-p=a.toList.length-na+(na-p) by omega];exact this
theorem MH.manyB (t:TwoH U R a b)(m:MH R a b na nb out)(p:G3)(hp:p<=nb)(hn:nb<=b.toList.length)(ha:na<=a.toList.length)(h: ∀i,p<=i->i<nb-> ∀y,b.toList[i]? =some y-> ∀z,1<=na->a.toList[na-1]? =some z->R y z=false):MH R a b na p (out++(b.extract p nb).reverse):=by
 have:=MI.manyA t.o.flip t.fb t.fa (zf t.sb) (zf t.sa) (nb-p) m (by rw [B7];omega) (λi hi y hy z hz=>by
  rw [bW (by omega)] at hy;exact h _ (by omega) (by omega) y hy z (we ha hz).1 (we ha hz).2)
 rw [XU _ hp hn] at this;unfold MH;rw [H0,Dt _ hp,show b.toList.length-p=b.toList.length-nb+(nb-p) by omega];exact this
end
def mHi:S9 D7->S9 D7->W8 B9 Sem (S9 D7):=sortPriv% PySem.Builtin.mergeHi
section
variable {arr:S9 D7}{y:D7}{n hint:G3}{st:B9}{Q:P7 G3->B9->Prop}
theorem Sy (ak:Vb prog w A J κ U R)(kd:kindOf st=κ)(o:Ordd U R)(u: ∀x∈arr.toList,U x)(s:Srt R arr.toList)(uy:U y)(hn:n<=arr.size)(hh:hint<n)
 (q: ∀k,k<=n->(∀i,i<k-> ∀x,arr.toList[i]? =some x->R y x=false)->(∀i,k<=i->i<n-> ∀x,arr.toList[i]? =some x->R y x=true)->Q (some k) st):Tm prog w A E J (gal false y arr 0 n hint) Q st:=
 TB ak kd o u s uy (by rw [Q8];exact hn) hh λk h k2 k3=>q k h (λi hi x hx=>k2 i hi x (by rw [Q8];exact hx)) λi hi hj x hx=>k3 i hi hj x (by rw [Q8];exact hx)
theorem Sz (ak:Vb prog w A J κ U R)(kd:kindOf st=κ)(o:Ordd U R)(u: ∀x∈arr.toList,U x)(s:Srt R arr.toList)(uy:U y)(hn:n<=arr.size)(hh:hint<n)
 (q: ∀k,k<=n->(∀i,i<k-> ∀x,arr.toList[i]? =some x->R x y=true)->(∀i,k<=i->i<n-> ∀x,arr.toList[i]? =some x->R x y=false)->Q (some k) st):Tm prog w A E J (gal true y arr 0 n hint) Q st:=
 TC ak kd o u s uy (by rw [Q8];exact hn) hh λk h k2 k3=>q k h (λi hi x hx=>k2 i hi x (by rw [Q8];exact hx)) λi hi hj x hx=>k3 i hi hj x (by rw [Q8];exact hx)
end
structure HiI (R:D7->D7->M7)(a b:S9 D7)(st st':B9)(n N na nb:G3)(out:S9 D7):Prop where
 g:Gal st st'
 m:MH R a b na nb out
 a':na<=a.size
 b':nb<=b.size
 a:1<=na
 b:2<=nb
 n:n+na+nb<=N
def HiO (R:D7->D7->M7)(a b:S9 D7)(st st':B9)(n N:G3)(r:P7 (S9 D7))(na nb:G3)(out:S9 D7):Prop:=Gal st st'/\match r with|some c=>va R a b c|none=>HiI R a b st st' n N na nb out
section
variable {a b out:S9 D7}{st st' s:B9}{n N k M na nb:G3}
theorem HiI.at (h:HiI R a b st st' n N na nb out)(g:Gal st s)(l:n+na+nb<=N->k+na+nb<=M):HiI R a b st s k M na nb out:=⟨g,h.m,h.a',h.b',h.a,h.b,l h.n⟩
theorem HiI.here (h:HiI R a b st st' n N na nb out):HiI R a b st st' 0 (na+nb) na nb out:=h.at h.g λ_=>by omega
theorem HiI.never {P:Prop}(h:HiI R a b st st' n N na nb out)(l:N<=n):P:=by have:=h.n;have:=h.a;omega
theorem HiI.le (h:HiI R a b st st' n N na nb out):na+nb<=a.size+b.size:=Nat.add_le_add h.a' h.b'
theorem HiI.a1 (h:HiI R a b st st' n N na nb out):na-1<a.size:=N0 (dH h.a cG) h.a'
theorem HiI.b1 (h:HiI R a b st st' n N na nb out):nb-1<b.size:=N0 (dH (U8 h.b) cG) h.b'
end
theorem NZ (h:2<=n)(c: ¬n-1=1):2<=n-1:=by omega
theorem Du (c: ¬n-1=0):1<=n-1:=dI c
theorem Am {a b:S9 D7}{st:B9}{Q:S9 D7->B9->Prop}(ak:Vb prog w A J κ U R)(kd:kindOf st=κ)(t:TwoH U R a b)
 (na:1<=a.size)(nb:1<=b.size)(last: ∀y z,b.toList[b.size-1]? =some y->a.toList[a.size-1]? =some z->R y z=true)
 (q: ∀c st',Gal st st'->va R a b c->Q c st'):Tm prog w A E J (mHi a b) Q st:=by
 refine .bind (.rule (.bind (wM t.ua (dH na cG) λa0 ea0 la0 ua0=> .elem ea0 ?_)));have m0:MH R a b (a.size-1) b.size #[a0]:=MH.pushA t (MH.start (R:=R) a b) na (P2 _) (P2 _) la0 (λz _ hz=>last z a0 hz la0);have n1:a.size-1<=a.size:=xC _ _;refine .eq2 (x:=a.size-1) (y:=0) (λz1=> .pure (q _ _ (Gal.refl st) (MH.done t m0 n1 (P2 _) (.inl z1)))) λz1=> .eq2 (x:=b.size) (y:=1) (λz2=> .pure (q _ _ (Gal.refl st) (MH.firstB t m0 n1 z2 nb))) λz2=> .bind (.get ?_)
 refine .bind (Tm.mono (Tm.range (λi c st'=>HiI R a b st st' (i+1) (a.size+b.size) c.2.1 c.2.2.1 c.2.2.2.1)
  (Q:=λc st'=> ∃r,c.1=some r/\Gal st st'/\va R a b r) (M6 _) ⟨Gal.refl st,m0,n1,P2 _,Du z1,by dsimp only;omega,by dsimp only;omega⟩ ?_ ?_) ?_)
 ·intro i c st1 hi;revert c;refine Ej λr ia ib out mg h=> ?_
  refine .bind (Tm.mono (Tm.range (λj c st'=>HiI R a b st st' j (ia+ib) c.2.1 c.2.2.1 c.2.2.2.1)
   (Q:=λc st'=>HiO R a b st st' 1 (ia+ib) c.1 c.2.1 c.2.2.1 c.2.2.2.1) (M6 _) h.here ?_ ?_) ?_)
  ·intro j c st2 hj;revert c;refine Ek λr ja jb out ac bc h=> ?_
   refine .bind (wM t.ub h.b1 λy ey ly uy=> .elem ey (.bind (wM t.ua h.a1 λx ex lx ux=> .elem ex (.bind (.lt ak (h.g.1.trans kd) uy ux (.if2 (c:=R y x=true) (λhb=> .bind (.elem ex ?_)) λhb=> .bind (.elem ey ?_)))))))
   ·have m1:=MH.pushA t h.m h.a h.a' h.b' lx (λz _ hz=>by rw [ly] at hz;injection hz with hz;rw [<-hz];exact hb);refine .eq2 (x:=ja-1) (y:=0) (λc1=> .pure ⟨h.g,MH.done t m1 (R9 h.a1) h.b' (.inl c1)⟩) λc1=> ?_
    have d:HiI R a b st st2 (j+1) (ia+ib) (ja-1) jb (out.push x):=⟨h.g,m1,R9 h.a1,h.b',Du c1,h.b,by have:j+ja+jb<=ia+ib:=h.n;have:1<=ja:=h.a;have:2<=jb:=h.b;omega⟩;exact .if2 (λ_=> .pure ⟨h.g,d.at h.g λ_=>by omega⟩) λ_=> .pure d
   ·have m1:=MH.pushB t h.m (R9 h.b) h.b' h.a' ly (λz _ hz=>by rw [lx] at hz;injection hz with hz;rw [<-hz];exact X4.mpr hb);refine .eq2 (x:=jb-1) (y:=1) (λc1=> .pure ⟨h.g,MH.firstB t m1 h.a' c1 nb⟩) λc1=> ?_
    have d:HiI R a b st st2 (j+1) (ia+ib) ja (jb-1) (out.push y):=⟨h.g,m1,h.a',R9 h.b1,h.a,NZ h.b c1,by have:j+ja+jb<=ia+ib:=h.n;have:1<=ja:=h.a;have:2<=jb:=h.b;omega⟩;exact .if2 (λ_=> .pure ⟨h.g,d.at h.g λ_=>by omega⟩) λ_=> .pure d
  ·exact λc st2 h'=>h'.never h.le
  ·intro c st2;revert c;refine Ek λr ja jb out ac bc h'=> ?_
   cases r with
   |some r=>exact .pure ⟨r,rfl,h'⟩
   |none=>
   replace h':=h'.2
   refine .bind (.rule (.bind (Tm.mono (Tm.range (λj c st'=>HiI R a b st st' j (ja+jb) c.2.1 c.2.2.1 c.2.2.2.1)
    (Q:=λc st'=>HiO R a b st st' 0 (ja+jb) c.1 c.2.1 c.2.2.1 c.2.2.2.1) (M6 _) h'.here ?_ ?_) ?_)))
   ·clear h;intro j c st2 hj;revert c;refine El λr pa pb out mg ac bc h=> ?_
    refine wM t.ub h.b1 λy ey ly uy=> ?_
    refine Tm.both (y:=mg) (x:=mg-1) (by rfl) (by rfl) λmg=> ?_
    refine .bind (Tm.modify (.bind (.elem ey (.bind (Sy (n:=pa) ak (h.g.1.trans kd) t.o t.ua t.sa uy h.a' (dH h.a cG) λk k1 k2 k3=> ?_)))));dsimp only;generalize eac:pa-k=ac;refine Tm.join (I:=λna o=>MH R a b na pb o/\1<=na/\na<=pa/\ ∀z,a.toList[na-1]? =some z->R y z=false) (x:=pa) (z:=out) (by rfl) ?_ ?_ ?_
    ·refine λqa o i1=> ?_
     have la:=S4 i1.2.2.1 h.a';have M2:=MH.pushB t i1.1 (R9 h.b) h.b' la ly (λz _ hz=>i1.2.2.2 z hz);refine .bind (.elem ey (.eq2 (x:=pb-1) (y:=1) (λc3=> .pure ⟨h.g,MH.firstB t M2 la c3 nb⟩) λc3=> ?_));have c8:=NZ h.b c3;have lb:=R9 h.b1;have n1:j+pa+pb<=ja+jb:=h.n;have n2:pb=pb-1+1:=(Nat.sub_add_cancel (R9 h.b)).symm;refine .bind (wM t.ua (N0 (dH i1.2.1 cG) la) λx ex lx ux=> .elem ex (.bind (Sz (n:=pb-1) ak (h.g.1.trans kd) t.o t.ub t.sb ux lb (dH (U8 c8) cG) λk' q1 q2 q3=> ?_)));dsimp only;dsimp only at c8 lb;generalize ep:pb-1=p2 at M2 q1 q2 q3 c8 lb n2 ⊢;generalize eo:o.push y=o2 at M2 ⊢;generalize ebc:p2-k'=bc;refine Tm.join (I:=λnb o=>MH R a b qa nb o/\2<=nb/\nb<=p2/\ ∀z,b.toList[nb-1]? =some z->R z x=true) (x:=p2) (z:=o2) (by rfl) ?_ ?_ ?_
     ·refine λqb o i2=> ?_
      have lb':=S4 i2.2.2.1 lb;have M4:=MH.pushA t i2.1 i1.2.1 la lb' lx (λz _ hz=>i2.2.2.2 z hz);have la':=S4 (xC qa 1) la;refine .bind (.elem ex (.eq2 (x:=qa-1) (y:=0) (λc5=> .pure ⟨h.g,MH.done t M4 la' lb' (.inl c5)⟩) λc5=> ?_));have n3:j+1+(qa-1)+qb<=ja+jb:=by have:=i1.2.1;have:=i1.2.2.1;have:=i2.2.2.1;omega
      have d:HiI R a b st st2 (j+1) (ja+jb) (qa-1) qb (o.push x):=⟨h.g,M4,la',lb',Du c5,i2.2.1,n3⟩;exact .if2 (λ_=> .pure ⟨h.g,d.at h.g λ_=>by omega⟩) λ_=> .pure (d.at h.g id)
     ·intro kz' H;have M3:=MH.manyB t M2 k' q1 lb la (λi hi1 hi2 y' hy z hz1 hz=>by rw [lx] at hz;injection hz with hz;rw [<-hz];exact q3 i hi1 hi2 y' hy);exact .eq2 (x:=k') (y:=1) (λc4=> .pure ⟨h.g,MH.firstB t M3 la c4 nb⟩) λc4=> .eq2 (x:=k') (y:=0) (λc7=> .pure ⟨h.g,MH.done t M3 la (S4 q1 lb) (.inr c7)⟩) λc7=>H _ _ ⟨M3,by omega,q1,λz hz=>q2 (k'-1) (dH (dI c7) cG) z hz⟩
     ·exact λkz'=>⟨M2,c8,P2 _,λz hz=>q2 (p2-1) (by omega) z hz⟩
    ·intro kz H;have m1:=MH.manyA t h.m k k1 h.a' h.b' (λi hi1 hi2 x hx z hz1 hz=>by rw [ly] at hz;injection hz with hz;rw [<-hz];exact k3 i hi1 hi2 x hx);exact .eq2 (x:=k) (y:=0) (λc1=> .pure ⟨h.g,MH.done t m1 (S4 k1 h.a') h.b' (.inl c1)⟩) λc1=>H _ _ ⟨m1,dI c1,k1,λz hz=>k2 (k-1) (dH (dI c1) cG) z hz⟩
    ·exact λkz=>⟨h.m,h.a,P2 _,λz hz=>k2 (pa-1) (by have:1<=pa:=h.a;omega) z hz⟩
   ·exact λc st3 h=>h.never h'.le
   ·intro c st3;revert c;refine El λr pa pb out mg ac bc h3=> ?_
    cases r with
    |some r=>exact .pure ⟨r,rfl,h3⟩
    |none=>exact .bind (Tm.modify (.pure (h3.2.at h3.1 λl=>by have n1:i+1+ia+ib<=a.size+b.size:=h.n;have n2:1+ja+jb<=ia+ib:=h'.n;dsimp only at l ⊢;omega)))
 ·exact λc st1 h=>h.never (Z0 _ _)
 ·intro c st1;revert c;refine Ej λr ia ib out mg h=> ?_
  obtain⟨c,rfl,gl,wh⟩:=h;exact .pure (q c st1 gl wh)
end
section
variable {prog:S7}{w:N8}{A:N3}{E:G1->G2->Prop}{J:G2->Prop}{κ:SortKind}{U:D7->Prop}{R:D7->D7->M7}
def seg (l:G0 D7)(p n:G3):G0 D7:=(l.drop p).take n
variable {n:G3}
theorem WW {l:G0 D7}{p i:G3}(hi:i<n):(seg l p n)[i]? =l[p+i]? :=by
 unfold seg;rw [cY hi,U0]
theorem Wd {l:G0 D7}{p:G3}(h:p+n<=l.length):(seg l p n).length=n:=by
 unfold seg;rw [T3,B3];omega
theorem UQ {l:G0 D7}{p:G3}{x:D7}(h:x∈seg l p n):x∈l:=L5 (O6 h)
theorem TD {left:M7}{arr:S9 D7}{y:D7}{base hint:G3}{st:B9}{Q:P7 G3->B9->Prop}(ak:Vb prog w A J κ U R)(kd:kindOf st=κ)(o:Ordd U R)(u: ∀x∈arr.toList,U x)(s:Srt R (seg arr.toList base n))(uy:U y)(hn:base+n<=arr.size)(hh:hint<n)
 (q: ∀k,k<=n->(∀x∈(seg arr.toList base n).take k,(if left=true then R x y else !R y x)=true)->(∀x∈(seg arr.toList base n).drop k,(if left=true then R x y else !R y x)=false)->Q (some k) st):Tm prog w A E J (gal left y arr base n hint) Q st:=by
 have ln:arr.toList.length=arr.size:=by simp
 have sl:(seg arr.toList base n).length=n:=Wd (by omega);have us: ∀x∈seg arr.toList base n,U x:=λx hx=>u x (UQ hx)
 refine Dr ak kd uy (λi hi=> ?_) (λi j hij hj h=> ?_) hh (λk k1 k2 k3=>q k k1 (λx hx=> ?_) (λx hx=> ?_))
 ·obtain⟨x,lx,ex⟩:=Wc (show base+i<arr.size by omega);exact⟨x,ex,u x (D0 lx)⟩
 ·obtain⟨x,lx,_⟩:=Wc (show base+i<arr.size by omega);obtain⟨z,lz,_⟩:=Wc (show base+j<arr.size by omega);have ux:=u x (D0 lx);have uz:=u z (D0 lz);have le:=Wb s o us hij (by rw [WW (by omega)];exact lx) (by rw [WW hj];exact lz);rw [yq lz] at h;rw [yq lx];cases left with
  |true=>
   have hz:R z y=true:=by simpa using h
   rcases o.neg z x y uz ux uy hz with v|v
   ·rw [le] at v;cases v
   ·simp [v]
  |false=>
   have hz:R y z=false:=by simpa using h
   have:=o.trans ux uz uy le hz;simp [this]
 ·obtain⟨i,hi,e⟩:=X9 hx;rw [T3,sl] at hi;have lx:arr.toList[base+i]? =some x:=by
   rw [<-WW (n:=n) (by omega),G7 (by omega),<-e,oU]
  have:=k2 i (by omega);rw [yq lx] at this;exact this
 ·obtain⟨i,hi,e⟩:=X9 hx;rw [B3,sl] at hi;have lx:arr.toList[base+(k+i)]? =some x:=by
   rw [<-WW (n:=n) (by omega),G7 (by omega),<-e,oV]
  have:=k3 (k+i) (by omega) (by omega);rw [yq lx] at this;exact this
theorem XV: ∀ (m:G0 D7) (arr:S9 D7) (p d:G3),p+d+m.length<=arr.size->((m.zipIdx d).foldl (λ(c:S9 D7) (x:D7×G3)=>c.setIfInBounds (p+x.2) x.1) arr).toList=arr.toList.take (p+d)++m++arr.toList.drop (p+d+m.length)
 | [],arr,p,d,_=>by simp
 |x::m,arr,p,d,h=>by
  rw [D8] at h;rw [List.zipIdx_cons,gB];rw [XV m _ p (d+1) (by rw [dD];omega)];have hl:arr.toList.length=arr.size:=by simp
  rw [hJ];have e1:(arr.toList.set (p+d) x).take (p+(d+1))=arr.toList.take (p+d)++ [x]:=by
   rw [show p+(d+1)=p+d+1 by omega,B8,dW (by omega)];rw [List.take_set_of_le (P2 _)];rfl
  have e2:(arr.toList.set (p+d) x).drop (p+(d+1)+m.length)=arr.toList.drop (p+d+(m.length+1)):=by
   rw [List.drop_set_of_lt (by omega),show p+(d+1)+m.length=p+d+(m.length+1) by omega]
  rw [e1,e2,D8];simp [D1]
end
section
variable {prog:S7}{w:N8}{A:N3}{E:G1->G2->Prop}{J:G2->Prop}{κ:SortKind}{U:D7->Prop}{R:D7->D7->M7}
theorem Tm.set {σ:Type}{st st':σ}{Q:PUnit->σ->Prop}(q:Q ⟨⟩ st'):Tm prog w A E J (MonadStateOf.set st':W8 σ Sem PUnit) Q st:=λs j=>by
 show R7 _ _ ((StateT.set st':W8 σ Sem PUnit).run st) _ _ _;exact P3 ⟨q,j⟩
theorem Dv (a:S9 D7){p n:G3}(h:p<=n):(a.extract p n).toList=seg a.toList p (n-p):=by
 rw [aS,V7];rfl
theorem Dw (o:Ordd U R){l:G0 D7}(u: ∀x∈l,U x)(s:Srt R l){z:D7}(hz:l[l.length-1]? =some z){x:D7}(hx:x∈l):R z x=false:=by
 obtain⟨i,hi,e⟩:=X9 hx;exact Wb s o u (show i<=l.length-1 by omega) (by rw [G7 hi,e]) hz
theorem XW (o:Ordd U R){l:G0 D7}(u: ∀x∈l,U x)(s:Srt R l){z:D7}(hz:l[0]? =some z){x:D7}(hx:x∈l):R x z=false:=by
 obtain⟨i,hi,e⟩:=X9 hx;exact Wb s o u (M6 _) hz (by rw [G7 hi,e])
theorem We (o:Ordd U R){X Y c:G0 D7}{k k2:G3}{y0 x9:D7}(uX: ∀x∈X,U x)(uY: ∀x∈Y,U x)(sX:Srt R X)(sY:Srt R Y)(hy:Y[0]? =some y0)(hx:X[X.length-1]? =some x9)
 (f1: ∀x∈X.take k,R y0 x=false)(g2: ∀y∈Y.drop k2,R y x9=false)(hp:c.Perm (X.drop k++Y.take k2))(sc:Srt R c):(X.take k++c++Y.drop k2).Perm (X++Y)/\Srt R (X.take k++c++Y.drop k2):=by
 have uy0:=uY y0 (D0 hy);have ux9:=uX x9 (D0 hx);constructor
 ·have e:X++Y=X.take k++(X.drop k++Y.take k2)++Y.drop k2:=by
   rw [<-D1,M1,D1,M1]
  rw [e];exact(hp.append_left _).append_right _
 ·have inX: ∀x∈X.take k,∀z∈X.drop k,R z x=false:=λx hx z hz=>by
   have:Srt R (X.take k++X.drop k):=by rw [M1];exact sX
   exact(N6.mp this).2.2 x hx z hz
  have inY: ∀x∈Y.take k2,∀z∈Y.drop k2,R z x=false:=λx hx z hz=>by
   have:Srt R (Y.take k2++Y.drop k2):=by rw [M1];exact sY
   exact(N6.mp this).2.2 x hx z hz
  have xy: ∀x∈X.take k,∀y∈Y,R y x=false:=λx hx y hy'=>o.trans (uX x (O6 hx)) uy0 (uY y hy') (f1 x hx) (XW o uY sY hy hy')
  have yx: ∀x∈X,∀y∈Y.drop k2,R y x=false:=λx hx' y hy'=>o.trans (uX x hx') ux9 (uY y (L5 hy')) (Dw o uX sX hx hx') (g2 y hy')
  have xc: ∀x∈X.take k,∀z∈c,R z x=false:=λx hx z hz=>by
   rcases R5.mp (hp.mem_iff.mp hz) with v|v
   ·exact inX x hx z v
   ·exact xy x hx z (O6 v)
  refine N6.mpr ⟨N6.mpr ⟨sX.sublist (aM _ _),sc,xc⟩,sY.sublist (Q0 _ _),λx hx y hy=> ?_⟩;rcases R5.mp hx with v|v
  ·exact xy x v y (L5 hy)
  ·rcases R5.mp (hp.mem_iff.mp v) with v|v
   ·exact yx x (L5 v) y hy
   ·exact inY x v y hy
theorem VF (l:G0 D7){p n m:G3}:l=l.take p++(seg l p n++seg l (p+n) m)++l.drop (p+n+m):=by
 unfold seg;have e1:(l.drop (p+n)).take m++l.drop (p+n+m)=l.drop (p+n):=by
  rw [show l.drop (p+n+m)=(l.drop (p+n)).drop m by rw [aB],M1]
 have e2:(l.drop p).take n++l.drop (p+n)=l.drop p:=by
  rw [show l.drop (p+n)=(l.drop p).drop n by rw [aB],M1]
 rw [D1,D1,e1,e2,M1]
theorem An {st:B9}{Q:M7->B9->Prop}{i sa na pw sb nb pw2:G3}(ak:Vb prog w A J κ U R)(kd:kindOf st=κ)(o:Ordd U R)(u: ∀x∈(T1 st).toList,U x)(p1:(B1 st)[i]? =some (sa,na,pw))(p2:(B1 st)[i+1]? =some (sb,nb,pw2))
 (hs:sa+na=sb)(n1:1<=na)(n2:1<=nb)(hz:sb+nb<=(T1 st).size)(s1:Srt R (seg (T1 st).toList sa na))(s2:Srt R (seg (T1 st).toList sb nb))(hf:aR st=none)
 (q: ∀st' Z,kindOf st'=κ->aR st'=none->B1 st'=((B1 st).setIfInBounds i (sa,na+nb,pw)).eraseIdxIfInBounds (i+1)->(T1 st').toList=(T1 st).toList.take sa++Z++(T1 st).toList.drop (sb+nb)->Z.Perm (seg (T1 st).toList sa na++seg (T1 st).toList sb nb)->Srt R Z->Q true st'):
 Tm prog w A E J (uF i) Q st:=by
 have ln:(T1 st).toList.length=(T1 st).size:=by simp
 unfold uF;refine .bind (.get ?_);dsimp only;rw [p1,p2];dsimp only;refine .bind (Tm.set ?_);subst hs;have lX:(seg (T1 st).toList sa na).length=na:=Wd (by omega);have lY:(seg (T1 st).toList (sa+na) nb).length=nb:=Wd (by omega);have uX: ∀x∈seg (T1 st).toList sa na,U x:=λx hx=>u x (UQ hx)
 have uY: ∀x∈seg (T1 st).toList (sa+na) nb,U x:=λx hx=>u x (UQ hx)
 obtain⟨y0,ly0,ey0⟩:=Wc (arr:=T1 st) (show sa+na<(T1 st).size by omega);obtain⟨x9,lx9,ex9⟩:=Wc (arr:=T1 st) (show sa+(na-1)<(T1 st).size by omega);have hy:(seg (T1 st).toList (sa+na) nb)[0]? =some y0:=by rw [WW (by omega)];exact ly0
 have hx:(seg (T1 st).toList sa na)[(seg (T1 st).toList sa na).length-1]? =some x9:=by rw [lX,WW (by omega)];exact lx9
 have uy0:=u y0 (D0 ly0);have ux9:=u x9 (D0 lx9);have c3:=VF (T1 st).toList (p:=sa) (n:=na) (m:=nb);have same: ∀ (st':B9),T1 st'=T1 st-> ∀k k2,(∀x∈(seg (T1 st).toList sa na).take k,R y0 x=false)->(∀y∈(seg (T1 st).toList (sa+na) nb).drop k2,R y x9=false)->(na<=k\/k2=0)->Srt R (seg (T1 st).toList sa na++seg (T1 st).toList (sa+na) nb):=λst' e k k2 f1 g2 h=>by
  have pl:(((seg (T1 st).toList sa na).drop k++(seg (T1 st).toList (sa+na) nb).take k2)).Perm ((seg (T1 st).toList sa na).drop k++(seg (T1 st).toList (sa+na) nb).take k2):= .refl _;have sc:Srt R ((seg (T1 st).toList sa na).drop k++(seg (T1 st).toList (sa+na) nb).take k2):=by
   rcases h with h|h
   ·rw [O5 (by omega),O2];exact s2.sublist (aM _ _)
   ·rw [h,eU,J4];exact s1.sublist (Q0 _ _)
  have:=(We o uX uY s1 s2 hy hx f1 g2 pl sc).2;rw [<-D1,M1,D1,M1] at this;exact this
 refine .bind (.elem ey0 (.bind (TD (left:=false) ak kd o u s1 uy0 (show sa+na<=(T1 st).size by omega) (by omega) λk k1 f1 f2=> ?_)));have f1: ∀x∈(seg (T1 st).toList sa na).take k,R y0 x=false:=λx hx=>by simpa using f1 x hx
 have f2: ∀x∈(seg (T1 st).toList sa na).drop k,R y0 x=true:=λx hx=>by simpa using f2 x hx
 dsimp only
 by_cases z1:na-k=0
 ·rw [D4 (by simpa using z1)];refine .pure (q _ (seg (T1 st).toList sa na++seg (T1 st).toList (sa+na) nb) kd hf rfl c3 (.refl _) (same st rfl k nb f1 (λy hy=> ?_) (.inl (by omega))));rw [O5 (by omega)] at hy;cases hy
 rw [D5 (by simpa using z1)];refine .bind (.elem (show _=some x9 by rw [show sa+k+(na-k)-1=sa+(na-1) by omega];exact ex9) (.bind (TD (left:=true) ak kd o u s2 ux9 (show sa+na+nb<=(T1 st).size by omega) (by omega) λk2 j1 g1 g2=> ?_)));have g1: ∀y∈(seg (T1 st).toList (sa+na) nb).take k2,R y x9=true:=λx hx=>by simpa using g1 x hx
 have g2: ∀y∈(seg (T1 st).toList (sa+na) nb).drop k2,R y x9=false:=λx hx=>by simpa using g2 x hx
 dsimp only
 by_cases z2:k2=0
 ·rw [D4 (by simpa using z2)];exact .pure (q _ _ kd hf rfl c3 (.refl _) (same st rfl k k2 f1 g2 (.inr z2)))
 rw [D5 (by simpa using z2)];have eX:((T1 st).extract (sa+k) (sa+na)).toList=(seg (T1 st).toList sa na).drop k:=by
  rw [Dv _ (by omega)];unfold seg;rw [mK,aB,show sa+na-(sa+k)=na-k by omega]
 have eY:((T1 st).extract (sa+na) (sa+na+k2)).toList=(seg (T1 st).toList (sa+na) nb).take k2:=by
  rw [Dv _ (by omega)];unfold seg;rw [mL,show sa+na+k2-(sa+na)=min k2 nb by omega]
 have sx:((T1 st).extract (sa+k) (sa+na)).size=na-k:=by rw [<-P9,eX,B3,lX]
 have sy:((T1 st).extract (sa+na) (sa+na+k2)).size=k2:=by rw [<-P9,eY,T3,lY];omega
 have hx2: ∀z,((seg (T1 st).toList sa na).drop k)[((seg (T1 st).toList sa na).drop k).length-1]? =some z->z=x9:=λz hz'=>by
  rw [B3,U0,lX,show k+(na-k-1)=na-1 by omega] at hz';rw [lX] at hx;rw [hx] at hz';injection hz' with hz';exact hz'.symm
 have hy2: ∀z,((seg (T1 st).toList (sa+na) nb).take k2)[0]? =some z->z=y0:=λz hz'=>by
  rw [cY (by omega),hy] at hz';injection hz' with hz';exact hz'.symm
 have put: ∀c:S9 D7,va R ((T1 st).extract (sa+k) (sa+na)) ((T1 st).extract (sa+na) (sa+na+k2)) c->(c.toList.zipIdx.foldl (λ(d:S9 D7) (x:D7×G3)=>d.setIfInBounds (sa+k+x.2) x.1) (T1 st)).toList=(T1 st).toList.take sa++((seg (T1 st).toList sa na).take k++c.toList++(seg (T1 st).toList (sa+na) nb).drop k2)++(T1 st).toList.drop (sa+na+nb):=λc wh=>by
  have lc:c.toList.length=na-k+k2:=by
   rw [wh.1.length_eq,P0,P9,P9,sx,sy]
  have:=XV c.toList (T1 st) (sa+k) 0 (by omega);rw [this,lc,W4,show sa+k+(na-k+k2)=sa+na+k2 by omega];have e1:(T1 st).toList.take (sa+k)=(T1 st).toList.take sa++(seg (T1 st).toList sa na).take k:=by
   unfold seg;rw [mL,dF k1,List.take_add]
  have e2:(T1 st).toList.drop (sa+na+k2)=(seg (T1 st).toList (sa+na) nb).drop k2++(T1 st).toList.drop (sa+na+nb):=by
   unfold seg;have h1:((T1 st).toList.drop (sa+na)).drop k2=(((T1 st).toList.drop (sa+na)).take nb++((T1 st).toList.drop (sa+na)).drop nb).drop k2:=by rw [M1]
   rw [W9 (by rw [T3,B3];omega),aB,aB] at h1;exact h1
  rw [e1,e2];simp [D1]
 have jr: ∀c:S9 D7,va R ((T1 st).extract (sa+k) (sa+na)) ((T1 st).extract (sa+na) (sa+na+k2)) c->_:=λc wh=>We o (c:=c.toList) uX uY s1 s2 hy hx f1 g2 (by have:=wh.1;rw [eX,eY] at this;exact this) wh.2
 by_cases z3:na-k<=k2
 ·rw [D4 z3];refine .bind (Al ak kd ⟨o,λx hx=> ?_,λx hx=> ?_,?_,?_,λy hy z hz'=> ?_⟩ (by rw [sx];omega) (by rw [sy];omega) (λy z hy' hz'=> ?_) λc st' gl wh=> .bind (Tm.modify (.bind (.get (.pure ?_)))))
  ·rw [eX] at hx;exact uX x (L5 hx)
  ·rw [eY] at hx;exact uY x (O6 hx)
  ·rw [eX];exact s1.sublist (Q0 _ _)
  ·rw [eY];exact s2.sublist (aM _ _)
  ·rw [eY] at hy;rw [eX] at hz';rw [hx2 z hz'];exact g1 y hy
  ·rw [eY] at hy';rw [eX] at hz';rw [hy2 y hy'];exact f2 z (D0 hz')
  ·have e:aR st'=none:=gl.2.2.2.trans hf;show Q (aR st').isNone _;rw [e];refine q _ _ (gl.1.trans kd) e gl.2.2.1 ?_ (jr c wh).1 (jr c wh).2;have ea:T1 st'=T1 st:=gl.2.1;show (c.toList.zipIdx.foldl _ (T1 st')).toList=_;rw [ea];exact put c wh
 ·rw [D5 z3];refine .bind (Am ak kd ⟨o,λx hx=> ?_,λx hx=> ?_,?_,?_,λz hz' y hy'=> ?_⟩ (by rw [sx];omega) (by rw [sy];omega) (λy z hy' hz'=> ?_) λc st' gl wh=> .bind (Tm.modify (.bind (.get (.pure ?_)))))
  ·rw [eX] at hx;exact uX x (L5 hx)
  ·rw [eY] at hx;exact uY x (O6 hx)
  ·rw [eX];exact s1.sublist (Q0 _ _)
  ·rw [eY];exact s2.sublist (aM _ _)
  ·rw [eY] at hy';rw [eX] at hz';rw [hy2 y hy'];exact f2 z hz'
  ·rw [eY] at hy';rw [eX,sx] at hz';have:=hx2 z (by rw [B3,lX];exact hz');rw [this];exact g1 y (D0 hy')
  ·have e:aR st'=none:=gl.2.2.2.trans hf;show Q (aR st').isNone _;rw [e];refine q _ _ (gl.1.trans kd) e gl.2.2.1 ?_ (jr c wh).1 (jr c wh).2;have ea:T1 st'=T1 st:=gl.2.1;show (c.toList.zipIdx.foldl _ (T1 st')).toList=_;rw [ea];exact put c wh
end
section
variable {prog:S7}{w:N8}{A:N3}{E:G1->G2->Prop}{J:G2->Prop}{κ:SortKind}{U:D7->Prop}{R:D7->D7->M7}
def Lies (st:B9)(P Z S:G0 D7):Prop:=(T1 st).toList=P++Z++S
def Arr (st st':B9):Prop:=kindOf st'=kindOf st/\B1 st'=B1 st/\aR st'=aR st/\gallopOf st'=gallopOf st
theorem Arr.refl (st:B9):Arr st st:=⟨rfl,rfl,rfl,rfl⟩
theorem MN (xs:S9 D7)(P Z S:G0 D7)(h:xs.toList=P++Z++S):(mirror xs P.length (P.length+Z.length) ((P.length+Z.length-P.length) / 2)).toList=P++Z.reverse++S:=by
 have hl:xs.size=P.length+Z.length+S.length:=by rw [<-P9,h];simp [bS]
 refine eT λk=> ?_
 rw [T9,getElem?_mirror_all (by omega)]
 by_cases c:P.length<=k/\k<P.length+Z.length
 ·rw [D4 c,<-T9,h,D1,D1];have e1:(P++(Z++S))[P.length+(P.length+Z.length)-1-k]? =Z[P.length+Z.length-1-k]? :=by
   rw [S0 (by omega),N2 (by omega)]
   congr 1;omega
  have e2:(P++(Z.reverse++S))[k]? =Z[P.length+Z.length-1-k]? :=by
   rw [S0 (by omega),N2 (by rw [B7];omega),bW (by omega)]
   congr 1;omega
  rw [e1,e2]
 ·rw [D5 c,<-T9,h,D1,D1]
  by_cases d:k<P.length
  ·rw [N2 d,N2 d]
  ·have e1:(P++(Z++S))[k]? =S[k-P.length-Z.length]? :=by
    rw [S0 (by omega),S0 (by omega)]
   have e2:(P++(Z.reverse++S))[k]? =S[k-P.length-Z.length]? :=by
    rw [S0 (by omega),S0 (by rw [B7];omega),B7]
   rw [e1,e2]
theorem Tm.rev {st:B9}{P Z S:G0 D7}{i j:G3}{Q:Unit->B9->Prop}(h:Lies st P Z S)(hi:i=P.length)(hj:j=P.length+Z.length)(q: ∀st',Arr st st'->Lies st' P Z.reverse S->Q () st'):Tm prog w A E J (sH i j) Q st:=by
 rw [reverseSlice'_eq];subst hi hj;exact .modify (q _ ⟨rfl,rfl,rfl,rfl⟩ (MN _ P Z S h))
theorem Tm.ltAt {st:B9}{x y:D7}{i j:G3}{Q:P7 M7->B9->Prop}(ak:Vb prog w A J κ U R)(kd:kindOf st=κ)(hx:(T1 st).toList[i]? =some x)(hy:(T1 st).toList[j]? =some y)(ux:U x)(uy:U y)(q:Q (some (R x y)) st):Tm prog w A E J (ltAt' i j) Q st:=by
 rw [ltAt'_eq];exact .bind (.get (.bind (.elem (by rw [<-T9];exact hx) (.bind (.elem (by rw [<-T9];exact hy) (.lt ak kd ux uy q))))))
abbrev Dsc (R:D7->D7->M7)(l:G0 D7):Prop:=l.Pairwise λx y=>R x y=false
theorem CV {l:G0 D7}(d:Dsc R l):Srt R l.reverse:=fH.mpr d
theorem MO (o:Ordd U R){l:G0 D7}{x y:D7}(u: ∀z∈l++ [x],U z)(uy:U y)(s:Srt R (l++ [x]))(h:R y x=false):Srt R (l++ [x]++ [y]):=by
 refine N6.mpr ⟨s,A8 _ _,λz hz v hv=> ?_⟩;rw [G9.mp hv];have ux:=u x (by simp);rcases R5.mp hz with w|w
 ·exact o.trans (u z hz) ux uy ((N6.mp s).2.2 z w x (by simp)) h
 ·rw [G9.mp w];exact h
theorem MP {l m:G0 D7}(s:Dsc R (l++m))(alike: ∀x∈m,∀y∈m,R x y=false):Dsc R (l++m.reverse):=by
 obtain⟨a,b,c⟩:=N6.mp s;refine N6.mpr ⟨a,?_,λx hx y hy=>c x hx y (A9.mp hy)⟩;rw [C5];intro i j hi hj _;exact alike _ (A9.mp (C9 hi)) _ (A9.mp (C9 hj))
end
section
variable {prog:S7}{w:N8}{A:N3}{E:G1->G2->Prop}{J:G2->Prop}{κ:SortKind}{U:D7->Prop}{R:D7->D7->M7}
theorem Arr.trans {a b c:B9}(x:Arr a b)(y:Arr b c):Arr a c:=⟨y.1.trans x.1,y.2.1.trans x.2.1,y.2.2.1.trans x.2.2.1,y.2.2.2.trans x.2.2.2⟩
variable {P Z:G0 D7}
theorem Lies.rest {st:B9}{S:G0 D7}(h:Lies st P Z S){i:G3}:(T1 st).toList[P.length+Z.length+i]? =S[i]? :=by
 rw [h,S0 (by rw [P0];omega),P0]
 congr 1;omega
theorem Lies.end {st:B9}{W S:G0 D7}{x:D7}(h:Lies st P (W++ [x]) S):(T1 st).toList[P.length+W.length]? =some x:=by
 rw [h,D1,S0 (by omega),D1,S0 (by omega)];simp
theorem WX {l:G0 D7}(h:1<=l.length): ∃W x,l=W++ [x]:=by
 rcases List.eq_nil_or_concat l with e|⟨W,x,e⟩
 ·subst e;simp at h
 ·exact⟨W,x,by rw [e,List.concat_eq_append]⟩
structure Fall (R:D7->D7->M7)(T Z1 Z2:G0 D7)(n:G3):Prop where
 len:(Z1++Z2).length=n
 perm:(Z1++Z2).Perm (T.take n)
 dsc:Dsc R (Z1++Z2)
 alike: ∀x∈Z2,∀y∈Z2,R x y=false
 ne:1<=Z2.length
variable {T:G0 D7}{n:G3}
theorem Fall.turn {Z1 Z2:G0 D7}(f:Fall R T Z1 Z2 n):Fall R T Z1 Z2.reverse n:=
 ⟨by have:=f.len;simp only [P0,B7] at this ⊢;exact this,((U9 Z2).append_left Z1).trans f.perm,MP f.dsc f.alike,λx hx y hy=>f.alike x (A9.mp hx) y (A9.mp hy),by rw [B7];exact f.ne⟩
theorem Fall.mem {Z1 Z2:G0 D7}(f:Fall R T Z1 Z2 n){x:D7}(h:x∈Z1++Z2):x∈T:=O6 (f.perm.mem_iff.mp h)
theorem Je {y:D7}(h:Z.Perm (T.take n))(hy:T[n]? =some y):(Z++ [y]).Perm (T.take (n+1)):=by
 rw [Wa hy];exact h.append_right _
theorem Fall.below (o:Ordd U R){T Z1 Z2:G0 D7}{n:G3}{x y:D7}(u: ∀x∈T,U x)(f:Fall R T Z1 Z2 n)(hx:x∈Z2)(hy:T[n]? =some y)(h:R y x=true):Fall R T (Z1++Z2) [y] (n+1):=by
 have uy:=u y (D0 hy);have ux:=u x (f.mem (R5.mpr (.inr hx)));have xy:=o.asym y x uy ux h;refine⟨by rw [P0,f.len];rfl,Je f.perm hy,?_,λa ha b hb=> ?_,by simp⟩
 ·refine N6.mpr ⟨f.dsc,A8 _ _,λz hz v hv=> ?_⟩;rw [G9.mp hv];have uz:=u z (f.mem hz);have zx:R z x=false:=by
   rcases R5.mp hz with w|w
   ·exact(N6.mp f.dsc).2.2 z w x hx
   ·exact f.alike z w x hx
  exact o.trans uy ux uz xy zx
 ·rw [G9.mp ha,G9.mp hb];exact o.refl uy
theorem Fall.like (o:Ordd U R){T Z1 Z2:G0 D7}{n:G3}{x y:D7}(u: ∀x∈T,U x)(f:Fall R T Z1 Z2 n)(hx:x∈Z2)(hy:T[n]? =some y)(h:R y x=false)(h':R x y=false):Fall R T Z1 (Z2++ [y]) (n+1):=by
 have uy:=u y (D0 hy);have ux:=u x (f.mem (R5.mpr (.inr hx)));have zy: ∀z∈Z1++Z2,R z y=false:=λz hz=>by
  have uz:=u z (f.mem hz);have zx:R z x=false:=by
   rcases R5.mp hz with w|w
   ·exact(N6.mp f.dsc).2.2 z w x hx
   ·exact f.alike z w x hx
  exact o.trans uy ux uz h' zx
 have yz: ∀z∈Z2,R y z=false:=λz hz=>o.trans (u z (f.mem (R5.mpr (.inr hz)))) ux uy (f.alike x hx z hz) h
 refine⟨by rw [<-D1,P0,f.len];rfl,by rw [<-D1];exact Je f.perm hy,?_,λa ha b hb=> ?_,by simp⟩
 ·rw [<-D1];refine N6.mpr ⟨f.dsc,A8 _ _,λz hz v hv=> ?_⟩;rw [G9.mp hv];exact zy z hz
 ·rcases R5.mp ha with p|p<;>rcases R5.mp hb with r|r
  ·exact f.alike a p b r
  ·rw [G9.mp r];exact zy a (R5.mpr (.inr p))
  ·rw [G9.mp p];exact yz b r
  ·rw [G9.mp p,G9.mp r];exact o.refl uy
theorem Lies.more {st:B9}{m:G3}{y:D7}(L:Lies st P Z (T.drop m))(hy:T[m]? =some y):Lies st P (Z++ [y]) (T.drop (m+1)):=by
 unfold Lies at L ⊢;rw [L,za hy];simp
theorem Lies.part {st:B9}{Z1 Z2 S:G0 D7}:Lies st P (Z1++Z2) S↔Lies st (P++Z1) Z2 S:=by
 unfold Lies;simp only [D1]
theorem Lies.two {st:B9}{m:G3}{y:D7}(L:Lies st P Z (T.drop m))(lz:Z.length=m)(m1:1<=m)(hy:T[m]? =some y):(T1 st).toList[P.length+m]? =some y/\ ∃W x,Z=W++ [x]/\(T1 st).toList[P.length+m-1]? =some x:=by
 have a:=L.rest (i:=0);rw [U0,lz,W4,W4,hy] at a;obtain⟨W,x,e⟩:=WX (l:=Z) (by omega);subst e;refine⟨a,W,x,rfl,?_⟩;rw [<-L.end]
 congr 1
 rw [P0,Q1] at lz;omega
section
variable {σ ρ τ α:Type}{st:σ}
theorem Tm.rangeN {f:G3->P7 ρ×τ->W8 σ Sem (dR (P7 ρ×τ))}(I:G3->τ->σ->Prop){Q:τ->σ->Prop}{Q':P7 ρ×τ->σ->Prop}{a b:G3}{c:τ}(hab:a<=b)(h:I a c st)(step: ∀i c st,i<b->I i c st->Tm prog w A E J (f i (none,c)) (λr st'=>match r with| .done c'=>c'.1=none/\Q c'.2 st'| .yield c'=>c'.1=none/\I (i+1) c'.2 st') st)(fin: ∀c st,I b c st->Q c st)(q: ∀c st,Q c st->Q' (none,c) st):Tm prog w A E J (forIn [a:b] ((none:P7 ρ),c) f) Q' st:=by
 refine Tm.mono (Tm.range (λi c st=>c.1=none/\I i c.2 st) (Q:=λc st=>c.1=none/\Q c.2 st) hab ⟨rfl,h⟩ ?_ λc st h=>⟨h.1,fin _ _ h.2⟩) ?_
 ·rintro i ⟨_,c⟩ st hi ⟨rfl,h⟩;exact(step i c st hi h).mono λr st' x=>by cases r<;>exact x
 ·rintro ⟨_,c⟩ st ⟨rfl,h⟩;exact q c st h
theorem Tm.fork {c:Prop}[Decidable c]{t e:W8 σ Sem α}{Q:α->σ->Prop}(I:σ->Prop)(G: ∀s,I s->Tm prog w A E J e Q s)(T:c->(∀s,I s->Tm prog w A E J e Q s)->Tm prog w A E J t Q st)(F: ¬c->I st):Tm prog w A E J (if c then t else e) Q st:=
 .if2 (λh=>T h G) λh=>G _ (F h)
end
section
variable {st:B9}{P T Z:G0 D7}{m:G3}
theorem Dx {f:G3->P7 (P7 G3)×G3->W8 B9 Sem (dR (P7 (P7 G3)×G3))}{G:G3->P7 M7->W8 B9 Sem (dR (P7 (P7 G3)×G3))}{Q:P7 (P7 G3)×G3->B9->Prop}(ak:Vb prog w A J κ U R)(kd:kindOf st=κ)(o:Ordd U R)(u: ∀x∈T,U x)
 (hf: ∀i n,f i (none,n)=ltAt' (P.length+n) (P.length+n-1) >>= G n)(hG: ∀n,G n (some true)=Pure.pure (.done (none,n))/\G n (some false)=Pure.pure (.yield (none,n+1)))
 (m1:1<=m)(m2:m<=T.length)(L:Lies st P Z (T.drop m))(p:Z.Perm (T.take m))(s:Srt R Z)
 (q: ∀n Z',1<=n->n<=T.length->Lies st P Z' (T.drop n)->Z'.Perm (T.take n)->Srt R Z'->(∀y,T[n]? =some y-> ∃W x,Z'=W++ [x]/\R y x=true)->Q (none,n) st):Tm prog w A E J (forIn [m:T.length] ((none:P7 (P7 G3)),m) f) Q st:=by
 refine Tm.rangeN (λi c s=>s=st/\c=i/\1<=i/\ ∃Z,Lies st P Z (T.drop i)/\Z.Perm (T.take i)/\Srt R Z) (Q:=λn s=>s=st/\Q (none,n) st) m2 ⟨rfl,rfl,m1,Z,L,p,s⟩ ?_ ?_ λc s h=>h.1 ▸ h.2
 ·rintro _ i _ hi ⟨rfl,rfl,i1,Z,L,p,s⟩;have hy:=G7 hi;obtain⟨ay,W,x,rfl,ax⟩:=L.two (by rw [p.length_eq,T3,dF (R9 hi)]) i1 hy;have uy:=u _ (C9 hi);have uZ: ∀z∈W++ [x],U z:=λz hz=>u z (O6 (p.mem_iff.mp hz))
  rw [hf];refine .bind (.ltAt ak kd ay ax uy (uZ x (by simp)) ?_);cases hb:R T[i] x with
  |true=>
   rw [(hG _).1];exact .pure ⟨rfl,rfl,q i _ i1 (R9 hi) L p s λy h=>⟨W,x,rfl,by rw [hy] at h;injection h with h;rw [<-h];exact hb⟩⟩
  |false=>
   rw [(hG _).2];exact .pure ⟨rfl,rfl,rfl,a8 (M6 _),_,L.more hy,Je p hy,MO o uZ uy s hb⟩
 ·rintro _ _ ⟨rfl,rfl,i1,Z,L,p,s⟩;exact⟨rfl,q _ Z i1 (P2 _) L p s λy h=>absurd (D6.mp h).1 (C4 _)⟩
end
def Fell (R:D7->D7->M7)(P T:G0 D7)(st st':B9)(n k:G3):Prop:=Arr st st'/\ ∃Z1 Z2,Lies st' P (Z1++Z2) (T.drop n)/\Fall R T Z1 Z2 n/\Z2.length=k+1
theorem Fell.rev {st s2:B9}{k:G3}{Q:Unit->B9->Prop}(h:Fell R P T st s2 n k)(q: ∀s3,Fell R P T st s3 n k->Q () s3):Tm prog w A E J (sH (P.length+n-(k+1)) (P.length+n)) Q s2:=by
 obtain⟨ar,Z1,Z2,L,F,l⟩:=h;have l12:=F.len;rw [P0] at l12;exact .rev (Lies.part.mp L) (by rw [P0];omega) (by rw [P0];omega) λs3 ar3 L3=>q s3 ⟨ar.trans ar3,Z1,_,Lies.part.mpr L3,F.turn,by rw [B7];exact l⟩
theorem MQ {st:B9}{Q:P7 G3->B9->Prop}(ak:Vb prog w A J κ U R)(kd:kindOf st=κ)(o:Ordd U R)(u: ∀x∈T,U x)(h:Lies st P [] T)(h1:1<=T.length)
 (q: ∀n st' Z,1<=n->n<=T.length->Arr st st'->Lies st' P Z (T.drop n)->Z.Perm (T.take n)->Srt R Z->Q (some n) st'):Tm prog w A E J (countRun' P.length T.length) Q st:=by
 refine .bind (Dx (m:=1) (Z:=T.take 1) ak kd o u (by exact λi n=>rfl) (by exact λn=>⟨rfl,rfl⟩) (P2 _) h1 ?_ (.refl _) ?_ λn Z n1 n2 L p sr br=> ?_)
 ·unfold Lies at h ⊢;rw [h,J4,D1,M1]
 ·match T,h1 with
  |x::r,_=>exact A8 _ _
 refine .eq2 (x:=n) (y:=T.length) (λz1=> .pure (q n _ _ n1 n2 (Arr.refl _) L p sr)) λz1=> ?_
 have n3:n<T.length:=E9 n2 z1;have hy:=G7 n3;have uZ: ∀z∈Z,U z:=λz hz=>u z (O6 (p.mem_iff.mp hz))
 obtain⟨W,x,e,yx⟩:=br _ hy;have lz:Z.length=n:=by rw [p.length_eq,T3,dF n2]
 have xin:x∈Z:=by rw [e];simp
 have xl:Z[Z.length-1]? =some x:=by rw [e];simp
 have F0:(∀p∈Z,∀r∈Z,R p r=false)->Fall R T [] Z n:=λal=>⟨lz,p,C5.mpr λi j hi hj _=>al _ (C9 hi) _ (C9 hj),al,by rw [lz];exact n1⟩
 refine Tm.fork (λs=>Fell R P T st s (n+1) 0) ?_ ?_ ?_
 ·intro s1 F1;refine .bind (.rule (.bind (Tm.rangeN (λi c s=>c.1=i/\Fell R P T st s c.1 c.2) (Q:=λc s=>c.1<=T.length/\Fell R P T st s c.1 c.2) n3 ⟨rfl,F1⟩ ?_ (λc s h=>⟨K0 h.1,h.2⟩) ?_)))
  ·intro i c s2 hi h2;have hc:c.1<T.length:=by rw [h2.1];exact hi
   have hy:=G7 hc;have uy:=u _ (C9 hc);obtain⟨e1,ar2,Z1,Z2,L2,F2,l2⟩:=h2;have l12:=F2.len;obtain⟨ay,W,x,eW,ax⟩:=L2.two l12 (by rw [<-l12,P0,l2];exact bQ _ _) hy;have xin:x∈Z2:=by
    obtain⟨V,v,e⟩:=WX F2.ne;have e':=congrArg List.getLast? eW;rw [e,<-D1,mM,mM] at e';injection e' with e'
    rw [e,<-e'];simp
   have ux:=u x (F2.mem (R5.mpr (.inr xin)));refine .bind (.ltAt ak (ar2.1.trans kd) ay ax uy ux (.if2 (c:=R _ x=true) (λhb=> ?_) λhb=> .bind (.ltAt ak (ar2.1.trans kd) ax ay ux uy (.if2 (c:=R x _=true) (λhc'=> .pure ⟨rfl,R9 hc,ar2,Z1,Z2,L2,F2,l2⟩) λhc'=> ?_))))
   ·refine Tm.fork (λs=>Fell R P T st s (c.1+1) 0) (λs h=> .pure ⟨rfl,congrArg y6 e1,h⟩) (λzq H=> .bind ?_) λzq=>⟨ar2,Z1++Z2,[T[c.1]],L2.more hy,F2.below o u xin hy hb,rfl⟩
    have l12':=l12;rw [P0] at l12';exact .rev (Lies.part.mp L2) (by rw [P0];dsimp only;omega) (by rw [P0];dsimp only;omega) λs3 ar3 L3=>H s3 ⟨ar2.trans ar3,Z1++Z2.reverse,[T[c.1]],(Lies.part.mpr L3).more hy,F2.turn.below o u (A9.mpr xin) hy hb,rfl⟩
   ·refine .pure ⟨rfl,congrArg y6 e1,ar2,Z1,Z2++ [T[c.1]],?_,F2.like o u xin hy (X4.mpr hb) (X4.mpr hc'),by rw [P0,l2];rfl⟩;rw [<-D1];exact L2.more hy
  ·intro c s2 h2;refine Tm.fork (λs=> ∃k,Fell R P T st s c.1 k) ?_ (λzq H=> .bind (h2.2.rev λs h=>H s ⟨_,h⟩)) λzq=>⟨_,h2.2⟩
   intro s3 h3;obtain⟨k,ar3,Z1,Z2,L3,F3,l3⟩:=h3;have m1:1<=c.1:=by rw [<-F3.len,P0,l3];exact bQ _ _
   exact .bind (.rev L3 rfl (by rw [F3.len]) λs4 ar4 L4=> .bind (Dx ak ((ar3.trans ar4).1.trans kd) o u (by exact λi n=>rfl) (by exact λn=>⟨rfl,rfl⟩) m1 h2.1 L4 ((U9 _).trans F3.perm) (CV F3.dsc) λn Z n1 n2 L p sr _=> .pure (q n s4 Z n1 n2 (ar3.trans ar4) L p sr)))
 ·intro z2 H;obtain⟨x0,V,eV⟩: ∃x0 V,Z=x0::V:=by
   match Z,xin with
   |a::r,_=>exact⟨a,r,rfl⟩
  have ux:=uZ x xin;have ux0:=uZ x0 (by rw [eV];simp);have a0:(T1 st).toList[P.length]? =some x0:=by rw [L,eV];simp
  have a1:(T1 st).toList[P.length+n-1]? =some x:=by
   obtain⟨_,W',x',e',ax⟩:=L.two lz n1 hy;rw [e] at e';rw [ax,(List.append_inj' e' rfl).2 |> λh=>(List.cons.inj h).1]
  exact .bind (.ltAt ak kd a0 a1 ux0 ux (.if2 (c:=R x0 x=true) (λ_=> .pure (q n _ _ n1 n2 (Arr.refl _) L p sr)) λhr0=> .bind (.rev L rfl (by rw [lz]) λs1 ar1 L1=>H s1 ⟨ar1,_,_,L1.more hy,Fall.below o u (Z1:= []) (Fall.turn (F0 λp hp r hr=>o.trans (uZ r hr) ux (uZ p hp) (Dw o uZ sr xl hr) (X4.mpr λv=>(o.neg p x0 x (uZ p hp) ux0 ux v).elim (λv=>by rw [XW o uZ sr (z:=x0) (by rw [eV];rfl) hp] at v;cases v) hr0))) (A9.mpr xin) hy yx,rfl⟩)))
 ·intro z2;have w0:W= []:=W6 (by rw [e,P0,Q1] at lz;omega);have f: ∀z∈Z,z=x:=λz hz=>by rw [e,w0] at hz;exact G9.mp hz
  exact⟨Arr.refl st,_,_,L.more hy,Fall.below o u (Z1:= []) (F0 λp hp r hr=>by rw [f p hp,f r hr];exact o.refl (uZ x xin)) xin hy yx,rfl⟩
end
section
variable {prog:S7}{w:N8}{A:N3}{E:G1->G2->Prop}{J:G2->Prop}{κ:SortKind}{U:D7->Prop}{R:D7->D7->M7}
theorem MR (xs:S9 D7)(P Z S:G0 D7)(y:D7)(l:G3)(hl:l<=Z.length)(h:xs.toList=P++Z++y::S):(bubble xs (P.length+Z.length) (Z.length-l)).toList=P++(Z.take l++ [y]++Z.drop l)++S:=by
 have hz:xs.size=P.length+Z.length+(S.length+1):=by rw [<-P9,h];simp [bS]
 have at_: ∀k,xs[k]? =(P++Z++y::S)[k]? :=λk=>by rw [<-T9,h]
 refine eT λk=> ?_
 rw [T9,getElem?_bubble (by omega) _ (by omega)];have lt:(Z.take l).length=l:=by rw [T3];omega
 by_cases c:k=P.length+Z.length-(Z.length-l)
 ·rw [D4 c,at_];have e1:(P++Z++y::S)[P.length+Z.length]? =some y:=by
   rw [S0 (by rw [P0];omega),P0,gK];rfl
  have e2:(P++(Z.take l++ [y]++Z.drop l)++S)[k]? =some y:=by
   rw [D1,S0 (by omega),D1,D1,S0 (by rw [lt];omega),lt,show k-P.length-l=0 by omega];rfl
  rw [e1,e2]
 ·rw [D5 c]
  by_cases d:P.length+Z.length-(Z.length-l)<k/\k<=P.length+Z.length
  ·rw [D4 d,at_];have e1:(P++Z++y::S)[k-1]? =Z[k-1-P.length]? :=by
    rw [D1,S0 (by omega),N2 (by omega)]
   have e2:(P++(Z.take l++ [y]++Z.drop l)++S)[k]? =Z[k-1-P.length]? :=by
    rw [D1,S0 (by omega),N2 (by simp only [P0,T3,B3,Q1];omega),S0 (by rw [P0,lt];simp;omega),P0,lt,U0]
    congr 1;simp;omega
   rw [e1,e2]
  ·rw [D5 d,at_]
   by_cases f:k<P.length+l
   ·have e1:(P++Z++y::S)[k]? =(P++Z.take l)[k]? :=by
     have:P++Z++y::S=P++Z.take l++(Z.drop l++y::S):=by
      rw [D1,D1,<-D1 (Z.take l),M1]
     rw [this,N2 (by rw [P0,lt];omega)]
    have e2:(P++(Z.take l++ [y]++Z.drop l)++S)[k]? =(P++Z.take l)[k]? :=by
     have:P++(Z.take l++ [y]++Z.drop l)++S=P++Z.take l++([y]++Z.drop l++S):=by simp [D1]
     rw [this,N2 (by rw [P0,lt];omega)]
    rw [e1,e2]
   ·have e1:(P++Z++y::S)[k]? =S[k-P.length-Z.length-1]? :=by
     rw [S0 (by rw [P0];omega),P0,List.getElem?_cons,D5 (by omega)]
     congr 1;omega
    have e2:(P++(Z.take l++ [y]++Z.drop l)++S)[k]? =S[k-P.length-Z.length-1]? :=by
     rw [S0 (by simp only [P0,T3,B3,Q1];omega)]
     congr 1;simp only [P0,T3,B3,Q1];omega
    rw [e1,e2]
theorem CW (o:Ordd U R){Z:G0 D7}{y:D7}{l:G3}(u: ∀z∈Z,U z)(uy:U y)(s:Srt R Z)(a: ∀z∈Z.take l,R y z=false)(b: ∀z∈Z.drop l,R y z=true):Srt R (Z.take l++ [y]++Z.drop l):=by
 have s':Srt R (Z.take l++Z.drop l):=by rw [M1];exact s
 obtain⟨s1,s2,s3⟩:=N6.mp s';refine N6.mpr ⟨N6.mpr ⟨s1,A8 _ _,λx hx z hz=> ?_⟩,s2,λx hx z hz=> ?_⟩
 ·rw [G9.mp hz];exact a x hx
 ·rcases R5.mp hx with v|v
  ·exact s3 x v z hz
  ·rw [G9.mp v];exact o.asym y z uy (u z (L5 hz)) (b z hz)
theorem Ao {st:B9}{Q:M7->B9->Prop}{P T Z:G0 D7}{n k:G3}(ak:Vb prog w A J κ U R)(kd:kindOf st=κ)(o:Ordd U R)(u: ∀x∈T,U x)(h:Lies st P Z (T.drop k))(hp:Z.Perm (T.take k))(hs:Srt R Z)(k1:1<=k)(kn:k<=n)(hn:n<=T.length)
 (q: ∀st' Z',Arr st st'->Lies st' P Z' (T.drop n)->Z'.Perm (T.take n)->Srt R Z'->Q true st'):Tm prog w A E J (uG P.length n k) Q st:=by
 unfold uG;refine .bind (Tm.mono (Tm.range (λi c s1=>Arr st s1/\c.1=none/\1<=i/\ ∃Z,Lies s1 P Z (T.drop i)/\Z.Perm (T.take i)/\Srt R Z) (Q:=λc s1=>Arr st s1/\c.1=none/\ ∃Z,Lies s1 P Z (T.drop n)/\Z.Perm (T.take n)/\Srt R Z) (by omega) ⟨Arr.refl st,rfl,by omega,Z,by rw [qD k1];exact h,by rw [qD k1];exact hp,hs⟩ ?_ ?_) ?_)
 ·rintro i ⟨r,c2⟩ s1 hi ⟨ar,hr,i1,Z,L,p,s⟩;dsimp only at hr ⊢;subst hr;obtain⟨y,hy⟩: ∃y,T[i]? =some y:=⟨_,G7 (by omega)⟩;have uy:=u y (D0 hy);have lz:Z.length=i:=by rw [p.length_eq,T3];omega
  have uZ: ∀z∈Z,U z:=λz hz=>u z (O6 (p.mem_iff.mp hz))
  have ay:(T1 s1).toList[P.length+i]? =some y:=by
   have:=L.rest (i:=0);rw [U0,lz] at this;rw [W4] at this;rw [this];exact hy
  have az: ∀m,m<i-> ∃z,Z[m]? =some z/\(T1 s1).toList[P.length+m]? =some z:=λm hm=>by
   refine⟨Z[m],G7 (by omega),?_⟩;rw [L,D1,S0 (by omega),N2 (by omega),j6,G7 (by omega)]
  refine .bind (Tm.mono (Tm.range (λj c s2=>s2=s1/\c.1=none/\c.2.1<=c.2.2/\c.2.2<=i/\(∀z∈Z.take c.2.1,R y z=false)/\(∀z∈Z.drop c.2.2,R y z=true)/\c.2.2-c.2.1+j<=i) (Q:=λc s2=>s2=s1/\c.1=none/\c.2.1<=i/\(∀z∈Z.take c.2.1,R y z=false)/\(∀z∈Z.drop c.2.1,R y z=true)) (M6 _) ⟨rfl,rfl,M6 _,P2 _,λz hz=> ?_,λz hz=> ?_,by dsimp only;omega⟩ ?_ ?_) ?_)
  ·dsimp only at hz;rw [eU] at hz;cases hz
  ·dsimp only at hz;rw [O5 (by omega)] at hz;cases hz
  ·rintro j ⟨r,l,v⟩ _ hj ⟨rfl,hr,b1,b2,b3,b4,b5⟩;dsimp only at hr b1 b2 b3 b4 b5 ⊢;subst hr
   by_cases c1:l>=v
   ·rw [D4 c1];have:l=v:=by omega
    subst this;exact .pure ⟨rfl,rfl,b2,b3,b4⟩
   rw [D5 c1];obtain⟨z,hz,ez⟩:=az ((l+v) / 2) (by omega);have uz:=uZ z (D0 hz);refine .bind (.ltAt ak (ar.1.trans kd) ay ez uy uz ?_);dsimp only;cases hb:R y z with
   |true=>
    rw [D4 rfl];refine .pure ⟨rfl,rfl,by dsimp only;omega,by dsimp only;omega,b3,λx hx=> ?_,by dsimp only;omega⟩;dsimp only at hx;have zx:R x z=false:=by
     obtain⟨t,ht,e⟩:=X9 hx;rw [B3] at ht;exact Wb s o uZ (show (l+v) / 2<=(l+v) / 2+t by omega) hz (by rw [G7 (by omega),<-e,oV])
    rcases o.neg y x z uy (uZ x (L5 hx)) uz hb with w|w
    ·exact w
    ·rw [zx] at w;cases w
   |false=>
    rw [D5 (by decide)];refine .pure ⟨rfl,rfl,by dsimp only;omega,b2,λx hx=> ?_,b4,by dsimp only;omega⟩;dsimp only at hx;have xz:R z x=false:=by
     obtain⟨t,ht,e⟩:=X9 hx;rw [T3] at ht;exact Wb s o uZ (show t<=(l+v) / 2 by omega) (by rw [G7 (by omega),<-e,oU]) hz
    exact o.trans (uZ x (O6 hx)) uz uy xz hb
  ·rintro ⟨r,l,v⟩ _ ⟨rfl,hr,b1,b2,b3,b4,b5⟩;dsimp only at hr b1 b2 b3 b4 b5 ⊢;have:l=v:=by omega
   subst this;exact⟨rfl,hr,b2,b3,b4⟩
  ·rintro ⟨r,l,v⟩ s2 ⟨rfl,hr,b2,b3,b4⟩;dsimp only at hr b2 b3 b4 ⊢;subst hr;dsimp only;refine .bind ?_;show Tm prog w A E J (moveDown' (P.length+i) (P.length+l)) _ _;rw [moveDown'_eq];refine .modify (.pure ⟨ar.trans ⟨rfl,rfl,rfl,rfl⟩,rfl,by omega,Z.take l++ [y]++Z.drop l,?_,?_,CW o uZ uy s b3 b4⟩)
   ·have:=MR (T1 s2) P Z (T.drop (i+1)) y l (by omega) (by rw [<-za hy];exact L);rw [lz] at this;rw [show P.length+i-(P.length+l)=i-l by omega];exact this
   ·refine lF ?_ (Je p hy);rw [D1];have e:Z++ [y]=Z.take l++(Z.drop l++ [y]):=by rw [<-D1,M1]
    rw [e];exact(bV).append_left _
 ·rintro ⟨r,c2⟩ s1 ⟨ar,hr,i1,Z,L,p,s⟩;exact⟨ar,hr,Z,L,p,s⟩
 ·rintro ⟨r,c2⟩ s1 ⟨ar,hr,Z,L,p,s⟩;dsimp only at hr ⊢;subst hr;exact .pure (q s1 Z ar L p s)
end
section
variable {prog:S7}{w:N8}{A:N3}{E:G1->G2->Prop}{J:G2->Prop}{κ:SortKind}{U:D7->Prop}{R:D7->D7->M7}
def Stk (R:D7->D7->M7)(l:G0 D7):G0 (G3×G3×G3)->G3->G3->Prop
 | [],s,e=>s=e
 |(p,n,_)::rest,s,e=>p=s/\1<=n/\Srt R (seg l p n)/\Stk R l rest (s+n) e
variable {l:G0 D7}
theorem Stk.le: ∀ {pl:G0 (G3×G3×G3)} {s e:G3},Stk R l pl s e->s+pl.length<=e
 | [],s,e,h=>by cases h;simp
 |(p,n,_)::rest,s,e,⟨_,n1,_,h⟩=>by have:=Stk.le h;simp only [D8];omega
theorem MS {l':G0 D7}{p n e:G3}(h:l.take e=l'.take e)(he:p+n<=e):seg l p n=seg l' p n:=by
 have cut: ∀k:G0 D7,seg k p n=seg (k.take e) p n:=λk=>by
  unfold seg;rw [mK,mL,dF (by omega)]
 rw [cut l,cut l',h]
theorem Stk.same {l l':G0 D7}: ∀ {pl:G0 (G3×G3×G3)} {s e:G3},Stk R l pl s e->l.take e=l'.take e->Stk R l' pl s e
 | [],s,e,h,_=>h
 |(p,n,_)::rest,s,e,⟨a,b,c,d⟩,h=>by
  have:=d.le;exact⟨a,b,by rw [<-MS h (by omega)];exact c,d.same h⟩
theorem Stk.shift {l':G0 D7}: ∀ {pl:G0 (G3×G3×G3)} {s e:G3},Stk R l pl s e->l.drop s=l'.drop s->Stk R l' pl s e
 | [],s,e,h,_=>h
 |(p,n,_)::rest,s,e,⟨a,b,c,d⟩,h=>by
  subst a;refine⟨rfl,b,by unfold seg at c ⊢;rw [<-h];exact c,d.shift ?_⟩;rw [<-aB,<-aB,h]
theorem Stk.append: ∀ {a b:G0 (G3×G3×G3)} {s e:G3},Stk R l (a++b) s e↔ ∃m,Stk R l a s m/\Stk R l b m e
 | [],b,s,e=>⟨λh=>⟨s,rfl,h⟩,λ⟨m,h,h'⟩=>by cases h;exact h'⟩
 |(p,n,w)::a,b,s,e=>by
  constructor
  ·rintro ⟨x,y,z,h⟩;obtain⟨m,h1,h2⟩:=Stk.append.mp h;exact⟨m,⟨x,y,z,h1⟩,h2⟩
  ·rintro ⟨m,⟨x,y,z,h1⟩,h2⟩;exact⟨x,y,z,Stk.append.mpr ⟨m,h1,h2⟩⟩
structure Bt (R:D7->D7->M7)(κ:SortKind)(l0:G0 D7)(lo:G3)(st:B9):Prop where
 kind:kindOf st=κ
 failed:aR st=none
 perm:(T1 st).toList.Perm l0
 stk:Stk R (T1 st).toList (B1 st).toList 0 lo
variable {l0:G0 D7}{lo:G3}
theorem Bt.size {st:B9}(b:Bt R κ l0 lo st):(T1 st).size=l0.length:=by rw [<-P9,b.perm.length_eq]
theorem Bt.merge {st:B9}{Q:M7->B9->Prop}{i:G3}(ak:Vb prog w A J κ U R)(o:Ordd U R)(u: ∀x∈l0,U x)(b:Bt R κ l0 lo st)(hlo:lo<=l0.length)(hi:i+1<(B1 st).size)
 (q: ∀st',Bt R κ l0 lo st'->(B1 st').size+1=(B1 st).size->(T1 st').toList.drop lo=(T1 st).toList.drop lo->Q true st'):Tm prog w A E J (uF i) Q st:=by
 have lp:(B1 st).toList.length=(B1 st).size:=by simp
 obtain⟨⟨sa,na,pw⟩,hx⟩: ∃x,(B1 st).toList[i]? =some x:=⟨_,G7 (by omega)⟩;obtain⟨⟨sb,nb,pw2⟩,hy⟩: ∃y,(B1 st).toList[i+1]? =some y:=⟨_,G7 (by omega)⟩;have e:(B1 st).toList=(B1 st).toList.take i++(sa,na,pw)::(sb,nb,pw2)::(B1 st).toList.drop (i+2):=by
  rw [<-za hy,<-za hx,M1]
 have stk:=b.stk;rw [e] at stk;obtain⟨m,k1,em,n1,s1,eb,n2,s2,k2⟩:=Stk.append.mp stk;subst em;subst eb;have le:=k2.le;have sz:=b.size;have hz:sa+na+nb<=(T1 st).size:=by omega
 have ln:(T1 st).toList.length=(T1 st).size:=by simp
 refine An ak b.kind o (λx hx=>u x (b.perm.mem_iff.mp hx)) (by rw [<-T9];exact hx) (by rw [<-T9];exact hy) rfl n1 n2 hz s1 s2 b.failed λst' Z kd hf hp ha pz sz'=> ?_
 have hpl:(B1 st').toList=(B1 st).toList.take i++(sa,na+nb,pw)::(B1 st).toList.drop (i+2):=by
  rw [hp,Array.eraseIdxIfInBounds_eq,xM (by rw [dD];exact hi),Array.toList_eraseIdx,hJ];generalize (B1 st).toList.drop (i+2)=B at e ⊢;have li:((B1 st).toList.take i).length=i:=by rw [T3];omega
  generalize (B1 st).toList.take i=A at e li ⊢;rw [e];subst li;simp [List.set_append,List.eraseIdx_append];intro z;omega
 have lZ:Z.length=na+nb:=by rw [pz.length_eq,P0,Wd (by omega),Wd (by omega)]
 have lt:((T1 st).toList.take sa).length=sa:=by rw [T3];omega
 refine q st' ⟨kd,hf,?_,?_⟩ ?_ ?_
 ·rw [ha];refine lF ?_ b.perm;have c3:=VF (T1 st).toList (p:=sa) (n:=na) (m:=nb);have pp:=(pz.append_left ((T1 st).toList.take sa)).append_right ((T1 st).toList.drop (sa+na+nb));rw [<-c3] at pp;exact pp
 ·rw [hpl,ha];refine Stk.append.mpr ⟨sa,k1.same ?_,rfl,by omega,?_,?_⟩
  ·rw [D1,X0 (by omega),T8 (l:=(T1 st).toList.take sa) (by omega)]
  ·unfold seg;rw [D1,W9 (by omega),O5 (by omega),O2,X0 (by omega),T8 (by omega)];exact sz'
  ·rw [<-bS];refine k2.shift ?_;have:((T1 st).toList.take sa++Z).length=sa+na+nb:=by rw [P0,lt,lZ];omega
   rw [W9 (by omega),O5 (as:=(T1 st).toList.take sa++Z) (by omega),O2]
 ·rw [<-P9,<-P9,hpl];have:(B1 st).toList.length=((B1 st).toList.take i++(sa,na,pw)::(sa+na,nb,pw2)::(B1 st).toList.drop (i+2)).length:=congrArg fY e;rw [this];simp only [P0,D8];omega
 ·rw [ha];have c1:((T1 st).toList.take sa++Z).length=sa+na+nb:=by rw [P0,lt,lZ];omega
  have c2:sa+na+nb<=lo:=by omega
  rw [List.drop_append,O5 (as:=(T1 st).toList.take sa++Z) (by omega),O2,aB,c1]
  congr 1;omega
theorem Bt.run {Z:G0 D7}{n:G3}{s1 s2:B9}(b:Bt R κ l0 lo s1)(hlo:lo<=l0.length)(ar:Arr s1 s2)(L:Lies s2 ((T1 s1).toList.take lo) Z (((T1 s1).toList.drop lo).drop n))(p:Z.Perm (((T1 s1).toList.drop lo).take n))(sr:Srt R Z)(hn:n<=l0.length-lo):Bt R κ l0 lo s2/\Srt R (seg (T1 s2).toList lo n):=by
 have ln:(T1 s1).toList.length=l0.length:=b.perm.length_eq;have lP:((T1 s1).toList.take lo).length=lo:=by rw [T3];omega
 have lZ:Z.length=n:=by rw [p.length_eq,T3,B3];omega
 have e:(T1 s2).toList=(T1 s1).toList.take lo++Z++((T1 s1).toList.drop lo).drop n:=L;refine⟨⟨ar.1.trans b.kind,ar.2.2.1.trans b.failed,?_,?_⟩,?_⟩
 ·rw [e];refine lF ?_ b.perm;have pp:=(p.append_left ((T1 s1).toList.take lo)).append_right (((T1 s1).toList.drop lo).drop n);rw [D1 _ (((T1 s1).toList.drop lo).take n),M1,M1] at pp;exact pp
 ·rw [ar.2.1];refine b.stk.same ?_;rw [e,D1,X0 (by omega),T8 (l:=(T1 s1).toList.take lo) (by omega)]
 ·rw [e];unfold seg;rw [D1,W9 (by omega),O5 (by omega),O2,X0 (by omega),T8 (by omega)];exact sr
theorem Bt.push {n:G3}{s:B9}(b:Bt R κ l0 lo s)(n1:1<=n)(g:Srt R (seg (T1 s).toList lo n)):Bt R κ l0 (lo+n) (xD s ((B1 s).push (lo,n,0))):=by
 refine⟨b.kind,b.failed,b.perm,?_⟩;show Stk R (T1 s).toList ((B1 s).push (lo,n,0)).toList 0 (lo+n);rw [U7];exact Stk.append.mpr ⟨lo,b.stk,rfl,n1,g,rfl⟩
theorem Stk.mod {f:G3×G3×G3->G3×G3×G3}(hf: ∀x,(f x).1=x.1/\(f x).2.1=x.2.1): ∀ {pl:G0 (G3×G3×G3)} {k s e:G3},Stk R l pl s e->Stk R l (pl.modify k f) s e
 | [],k,s,e,h=>by rw [List.modify_nil];exact h
 |(p,n,w)::rest,0,s,e,⟨a,b,c,d⟩=>by
  rw [List.modify_zero_cons];have e1:=(hf (p,n,w)).1;have e2:=(hf (p,n,w)).2;generalize f (p,n,w)=x at e1 e2;obtain⟨p',n',w'⟩:=x;dsimp only at e1 e2;subst e1 e2;exact⟨a,b,c,d⟩
 |(p,n,w)::rest,k+1,s,e,⟨a,b,c,d⟩=>by
  rw [List.modify_succ_cons];exact⟨a,b,c,d.mod hf⟩
theorem Bt.mod {k:G3}{s:B9}{f:G3×G3×G3->G3×G3×G3}(b:Bt R κ l0 lo s)(hf: ∀x,(f x).1=x.1/\(f x).2.1=x.2.1):Bt R κ l0 lo (xD s ((B1 s).modify k f)):=by
 refine⟨b.kind,b.failed,b.perm,?_⟩;show Stk R (T1 s).toList ((B1 s).modify k f).toList 0 lo;rw [Array.toList_modify];exact b.stk.mod hf
theorem MT (c:M7)(x:G3):(if c=true then x-1 else x)<=x:=by cases c<;>simp
theorem CY {st:B9}{Q:Unit->B9->Prop}(ak:Vb prog w A J κ U R)(o:Ordd U R)(u: ∀x∈l0,U x)(kd:kindOf st=κ)(hf:aR st=none)(hp:B1 st= #[])(hl:(T1 st).toList=l0)
 (q: ∀st',aR st'=none->(T1 st').toList.Perm l0->Srt R (T1 st').toList->Q () st'):Tm prog w A E J sortRuns' Q st:=by
 have b0:Bt R κ l0 0 st:=⟨kd,hf,by rw [hl],by rw [hp];rfl⟩;rw [sortRuns'_eq];refine .bind (.get ?_);dsimp only;rw [b0.size];generalize minRun' l0.length l0.length 0=mr;refine .bind (Tm.mono (Tm.range (λi c s1=>c.1=none/\c.2<=l0.length/\i<=c.2/\Bt R κ l0 c.2 s1) (Q:=λc s1=>c.1=none/\Bt R κ l0 l0.length s1) (M6 _) ⟨rfl,M6 _,M6 _,b0⟩ ?_ ?_) ?_)
 ·rintro i ⟨r,lo⟩ s1 hi ⟨hr,h1,h2,b⟩;dsimp only at hr h1 h2 b ⊢;subst hr
  by_cases z1:lo>=l0.length
  ·rw [D4 z1];have:lo=l0.length:=by omega
   subst this;exact .pure ⟨rfl,b⟩
  rw [D5 z1];have ln:(T1 s1).toList.length=l0.length:=b.perm.length_eq;have lP:((T1 s1).toList.take lo).length=lo:=by rw [T3];omega
  have lT:((T1 s1).toList.drop lo).length=l0.length-lo:=by rw [B3,ln]
  have uT: ∀x∈(T1 s1).toList.drop lo,U x:=λx hx=>u x (b.perm.mem_iff.mp (L5 hx))
  have ct:=λ{Q}=>MQ (prog:=prog) (w:=w) (A:=A) (E:=E) (J:=J) (Q:=Q) (st:=s1) (P:=(T1 s1).toList.take lo) (T:=(T1 s1).toList.drop lo) ak b.kind o uT (by unfold Lies;rw [J4,M1]) (by omega)
  rw [lP,lT] at ct;refine .bind (ct λn s2 Z n1 n2 ar L p sr=> ?_);dsimp only
  by_cases z2:n<mr
  ·rw [D4 z2];have bn:=λ{Q}=>Ao (prog:=prog) (w:=w) (A:=A) (E:=E) (J:=J) (Q:=Q) (st:=s2) (P:=(T1 s1).toList.take lo) (T:=(T1 s1).toList.drop lo) (n:=min (l0.length-lo) mr) ak (ar.1.trans b.kind) o uT L p sr n1 (by omega) (by omega)
   rw [lP] at bn;refine .bind (.rule (.bind (bn λs3 Z3 ar3 L3 p3 sr3=> ?_)));obtain⟨B,G⟩:=b.run h1 (ar.trans ar3) L3 p3 sr3 (by omega);have N1:1<=min (l0.length-lo) mr:=by omega
   rw [D5 (by decide)];refine .bind (.get ?_);split
   ·refine .bind (Tm.mono (Tm.range (λj c s4=>c.1=none/\Bt R κ l0 lo s4/\Srt R (seg (T1 s4).toList lo (min (l0.length-lo) mr))) (Q:=λc s4=>c.1=none/\Bt R κ l0 lo s4/\Srt R (seg (T1 s4).toList lo (min (l0.length-lo) mr))) (M6 _) ⟨rfl,B,G⟩ ?_ (λ_ _ h=>h)) ?_)
    ·rintro j ⟨r,c⟩ s4 hj ⟨hr,B4,G4⟩;dsimp only at hr ⊢;subst hr;refine .bind (.get ?_);split
     ·rename_i older heq;split
      ·exact .pure ⟨rfl,B4,G4⟩
      ·have two:(B1 s4).size>1:=aG λz=>by rw [D5 z] at heq;cases heq
       refine .bind (Bt.merge ak o u B4 h1 (by omega) λs5 B5 _ dr=> ?_);refine .pure ⟨rfl,B5,?_⟩;unfold seg at G4 ⊢;rw [dr];exact G4
     ·exact .pure ⟨rfl,B4,G4⟩
    ·rintro ⟨r,c⟩ s4 ⟨hr,B4,G4⟩;dsimp only at hr ⊢;subst hr;dsimp only;refine .bind (.modify (.bind (.modify (.pure ⟨rfl,?_,?_,Bt.push (Bt.mod B4 λx=>⟨rfl,rfl⟩) N1 G4⟩))))
     ·dsimp only;omega
     ·dsimp only;omega
   ·refine .bind (.modify (.pure ⟨rfl,?_,?_,Bt.push B N1 G⟩))
    ·dsimp only;omega
    ·dsimp only;omega
  ·rw [D5 z2];obtain⟨B,G⟩:=b.run h1 ar L p sr n2;have N1:=n1;refine .bind (.get ?_);split
   ·refine .bind (Tm.mono (Tm.range (λj c s4=>c.1=none/\Bt R κ l0 lo s4/\Srt R (seg (T1 s4).toList lo (n))) (Q:=λc s4=>c.1=none/\Bt R κ l0 lo s4/\Srt R (seg (T1 s4).toList lo (n))) (M6 _) ⟨rfl,B,G⟩ ?_ (λ_ _ h=>h)) ?_)
    ·rintro j ⟨r,c⟩ s4 hj ⟨hr,B4,G4⟩;dsimp only at hr ⊢;subst hr;refine .bind (.get ?_);split
     ·rename_i older heq;split
      ·exact .pure ⟨rfl,B4,G4⟩
      ·have two:(B1 s4).size>1:=aG λz=>by rw [D5 z] at heq;cases heq
       refine .bind (Bt.merge ak o u B4 h1 (by omega) λs5 B5 _ dr=> ?_);refine .pure ⟨rfl,B5,?_⟩;unfold seg at G4 ⊢;rw [dr];exact G4
     ·exact .pure ⟨rfl,B4,G4⟩
    ·rintro ⟨r,c⟩ s4 ⟨hr,B4,G4⟩;dsimp only at hr ⊢;subst hr;dsimp only;refine .bind (.modify (.bind (.modify (.pure ⟨rfl,?_,?_,Bt.push (Bt.mod B4 λx=>⟨rfl,rfl⟩) N1 G4⟩))))
     ·dsimp only;omega
     ·dsimp only;omega
   ·refine .bind (.modify (.pure ⟨rfl,?_,?_,Bt.push B N1 G⟩))
    ·dsimp only;omega
    ·dsimp only;omega
 ·rintro ⟨r,lo⟩ s1 ⟨hr,h1,h2,b⟩;dsimp only at hr h1 h2 b;have:lo=l0.length:=by omega
  subst this;exact⟨hr,b⟩
 ·rintro ⟨r,lo⟩ s1 ⟨hr,b⟩;dsimp only at hr ⊢;subst hr;dsimp only;have le0:=b.stk.le;have lp0:(B1 s1).toList.length=(B1 s1).size:=by simp
  refine .bind (Tm.mono (Tm.range (λj c s4=>c.1=none/\Bt R κ l0 l0.length s4/\(B1 s4).size+j<=l0.length) (Q:=λc s4=>c.1=none/\Bt R κ l0 l0.length s4/\(B1 s4).size<=1) (M6 _) ⟨rfl,b,by omega⟩ ?_ (λc s4 ⟨x,y,z⟩=>⟨x,y,by omega⟩)) ?_)
  ·rintro j ⟨r,c⟩ s4 hj ⟨hr,B4,z4⟩;dsimp only at hr ⊢;subst hr;refine .bind (.get ?_)
   by_cases c1:(B1 s4).size<=1
   ·rw [D4 c1];exact .pure ⟨rfl,B4,c1⟩
   rw [D5 c1];refine .bind (Bt.merge ak o u B4 (P2 _) (V9 (Nat.add_le_add_right (MT _ _) 1) (by omega)) λs5 B5 z5 _=> ?_);exact .pure ⟨rfl,B5,by omega⟩
  ·rintro ⟨r,c⟩ s4 ⟨hr,B4,z4⟩;dsimp only at hr ⊢;subst hr;refine .pure (q s4 B4.failed B4.perm ?_);have stk:=B4.stk;have ln:(T1 s4).toList.length=l0.length:=B4.perm.length_eq;have lp:(B1 s4).toList.length=(B1 s4).size:=by simp
   generalize (B1 s4).toList=pl at stk lp
   match pl,stk,lp with
   | [],e,_=>
    have:l0.length=0:=e.symm;have:(T1 s4).toList= []:=a6.mp (by omega);rw [this];exact .nil
   | [(p,n,_)],⟨e1,_,sr,e2⟩,_=>
    subst e1;have en:n=l0.length:=by have:0+n=l0.length:=e2;omega
    unfold seg at sr;rw [rG,T8 (by omega)] at sr;exact sr
   |_::_::_,_,h=>simp only [D8] at h;omega
end
section
variable {prog:S7}{w:N8}{A:N3}{E:G1->G2->Prop}{s:G2}{κ:SortKind}{U:D7->Prop}{R:D7->D7->M7}
def Ba (s:G2)(a:P5)(h':F4):Prop:= ∀b o,b≠a->s.heap.get? b=some o->h'.get? b=some o
def Only (s:G2)(h':F4):G2->Prop:=λs'=> ∃tk,s'= {s with heap:=h',toks:=tk}
theorem XX {M:pM}{α β:Type}{c:Prop}[Decidable c]{m m':Sem α}{F:α->Sem β}{Q:β->G2->Prop}(h:R7 M A ((if c then m else m') >>= F) Q E s):R7 M A (if c then m >>= F else m' >>= F) Q E s:=by
 by_cases z:c
 ·rw [D4 z] at h ⊢;exact h
 ·rw [D5 z] at h ⊢;exact h
theorem JH (vs:G0 G1):(vs.toArray.zip vs.toArray).toList=vs.map λv=>(v,v):=by
 rw [pK];show vs.zip vs=_
 induction vs with
 |nil=>rfl
 |cons v vs ih=>rw [Q9,ih,T7]
theorem MU {a:P5}{vs:G0 G1}{n:G3}{P:Fin->G2->Prop}(ho:s.heap.get? a=some (a7 "list" vs.toArray n))(hz:vs.length<=sizeLine)
 (hk:2<=vs.length-> ∀h',Ba s a h'->R7 (S2 prog w) A (uH vs.toArray) (λk s'=>k=κ/\Only s h' s') (λ_ _=>False) {s with heap:=h'})(ak: ∀h',Ba s a h'->Vb prog w A (Only s h') κ U R)(o:Ordd U R)(u: ∀v∈vs,U (v,v))
 (q: ∀ (out:G0 G1) (c tk:G3) (h':F4),Ba s a h'->h'.get? a=some (a7 "list" out.toArray c)->out.Perm vs->(out.map λv=>(v,v)).Pairwise (λx y=>R y x=false)->P (.done (.ret .none)) {s with heap:=h',toks:=tk}):
 R7 (S2 prog w) A (Builtin.«list.sort» ⟨[.ref a],[]⟩) P E s:=by
 have alt:=R1 ho;have sv:vs.toArray.size=vs.length:=S6 ..;rw [qE];refine wpAny_bind (oW ho rfl ?_);obtain⟨c1,ho1⟩: ∃c,(s.heap.update a (J7 λ_=>(#[]:S9 G1))).get? a=some (a7 "list" #[] c):=⟨_,gE ho λ_=> #[]⟩;refine wpAny_bind (iT ho rfl ?_ (by rw [sv];exact hz) (M6 _));refine wpAny_bind (mN ho1 rfl ?_);refine wpAny_bind (mJ ?_ hz);refine wpAny_bind (fV ?_ (M6 _));refine L7 ?_;have past:Ba s a (((s.heap.update a (J7 λ_=>(#[]:S9 G1))).push {cls:= .type "tuple",data:= .seq vs.toArray.toList.toArray}).push {cls:= .type "list",data:= .seq ([]:G0 G1).toArray}):=λb x ne e=>by
  refine P1 _ (P1 _ ?_);rw [Y0 _ _ _ _ ne];exact e
 have ho3:=P1 ({cls:= .type "list",data:= .seq ([]:G0 G1).toArray}:Obj) (P1 ({cls:= .type "tuple",data:= .seq vs.toArray.toList.toArray}:Obj) ho1);revert past ho3;generalize ((s.heap.update a (J7 λ_=>(#[]:S9 G1))).push ({cls:= .type "tuple",data:= .seq vs.toArray.toList.toArray}:Obj)).push ({cls:= .type "list",data:= .seq ([]:G0 G1).toArray}:Obj)=H3;intro past ho3;have kd:R7 (S2 prog w) A (if vs.toArray.size<2 then pure uI else uH vs.toArray) (λk s0=>(2<=vs.length->k=κ)/\Only s H3 s0) (λ_ _=>False) {s with heap:=H3}:=by
  by_cases c:vs.toArray.size<2
  ·rw [D4 c];exact P3 ⟨λz=>by omega,s.toks,rfl⟩
  ·rw [D5 c];exact M9 (hk (by omega) H3 past) (λk s0 x=>⟨λ_=>x.1,x.2⟩) λ_ _ e=>e
 have rn: ∀k s0,(2<=vs.length->k=κ)->Only s H3 s0->R7 (S2 prog w) A ((if vs.toArray.size<2 then pure () else sortRuns':W8 B9 Sem Unit).run (SortSt.mk' k (vs.toArray.zip vs.toArray) #[] 7 none)) (λr s'=>(aR r.2=none/\(T1 r.2).toList.Perm (vs.map λv=>(v,v))/\Srt R (T1 r.2).toList)/\Only s H3 s') E s0:=by
  intro k s0 ek j
  by_cases c:vs.toArray.size<2
  ·rw [D4 c,lE];refine P3 ⟨⟨rfl,?_,?_⟩,j⟩
   ·show (vs.toArray.zip vs.toArray).toList.Perm _;rw [JH]
   ·show Srt R (vs.toArray.zip vs.toArray).toList;rw [JH];rw [sv] at c
    match vs,c with
    | [],_=>exact iK
    | [v],_=>exact A8 _ _
  ·rw [D5 c];have ek:=ek (by omega);subst ek;refine CY (E:=E) (ak H3 past) o (l0:=vs.map λv=>(v,v)) (st:=SortSt.mk' k (vs.toArray.zip vs.toArray) #[] 7 none) (λx hx=> ?_) rfl rfl rfl (JH vs) (Q:=λ_ st'=>aR st'=none/\(T1 st').toList.Perm (vs.map λv=>(v,v))/\Srt R (T1 st').toList) (λst' a1 a2 a3=>⟨a1,a2,a3⟩) s0 j;obtain⟨v,hv,rfl⟩:=R8.mp hx;exact u v hv
 dsimp only;refine XX (wpAny_bind (M9 kd (λk s0 x=> ?_) λ_ _ e=>e.elim));refine wpAny_bind (M9 (rn k s0 x.1 x.2) ?_ λ_ _ e=>e);rintro ⟨⟨⟩,st'⟩ s1 ⟨⟨hf,hp,hs⟩,tk,rfl⟩;dsimp only;have eo:((T1 st').map λx=>x.2)=((T1 st').toList.map λx=>x.2).toArray:=by
  rw [<-j7,mO]
 have two:(T1 st').toList=((T1 st').toList.map λx=>x.2).map λv=>(v,v):=by
  rw [S8];refine(pS _).symm.trans (B6 λx hx=> ?_);obtain⟨v,_,rfl⟩:=R8.mp (hp.mem_iff.mp hx);rfl
 have po:((T1 st').toList.map λx=>x.2).Perm vs:=by
  have:=hp.map λx=>x.2
  rw [S8] at this;refine this.trans ?_;rw [show ((λx:D7=>x.2)∘λv:G1=>(v,v))=id from rfl,pS]
 rw [two] at hs;rw [eo];generalize (T1 st').toList.map (λx=>x.2)=out at hs po;obtain⟨c2,ho4⟩: ∃c,(H3.update a (J7 λ_=>out.toArray)).get? a=some (a7 "list" out.toArray c):=⟨_,gE ho3 λ_=>out.toArray⟩;refine wpAny_bind (mN (s:= {s with heap:=H3,toks:=tk}) ho3 rfl ?_);refine wpAny_bind (iT (s:= {s with heap:=H3,toks:=tk}) ho3 rfl ?_ (M6 _) (by rw [S6,po.length_eq];exact oX hz));rw [hf];simp only [oY,C0,l8];refine P3 (q out c2 tk _ (λb x ne e=> ?_) ho4 po hs);rw [Y0 _ _ _ _ ne];exact past b x ne e
abbrev Wf (h h':F4):Prop:= ∀b o,h.get? b=some o->h'.get? b=some o
end
theorem yW: ∀a b:G0 P4,jy a b=true->jy b a=false
 | [],[],h=>rfl
 | [],_::_,_=>rfl
 |_::_,[],h=>by cases h
 |x::xs,y::ys,h=>by
  unfold jy at h ⊢
  by_cases e:x=y
  ·subst e;rw [D4 rfl] at h ⊢;exact yW xs ys h
  ·rw [D5 e] at h;rw [D5 (K9 e)];have:=C7 h;exact T6 (by omega)
theorem Wg: ∀a b c:G0 P4,jy a c=true->jy a b=true\/jy b c=true
 | [],[],c,h=> .inr h
 | [],_::_,_,_=> .inl rfl
 |_::_,_,[],h=>by cases h
 |x::xs,[],z::zs,h=> .inr rfl
 |x::xs,y::ys,z::zs,h=>by
  unfold jy at h ⊢
  by_cases e:x=z
  ·subst e;rw [D4 rfl] at h
   by_cases f:x=y
   ·subst f;rw [D4 rfl,D4 rfl];exact Wg xs ys zs h
   ·rw [D5 f,D5 (K9 f)]
    by_cases g:x<y
    ·exact .inl (D9 g)
    ·exact .inr (D9 (by omega))
  ·rw [D5 e] at h;have lt:=C7 h
   by_cases f:x=y
   ·subst f;rw [D5 e];exact .inr h
   ·rw [D5 f]
    by_cases g:x<y
    ·exact .inl (D9 g)
    ·refine .inr ?_;rw [D5 (by omega)];exact D9 (by omega)
theorem vx: ∀a b:G0 P4,jy a b=false->jy b a=false->a=b
 | [],[],_,_=>rfl
 | [],_::_,h,_=>by cases h
 |_::_,[],_,h=>by cases h
 |x::xs,y::ys,h,h'=>by
  unfold jy at h h'
  by_cases e:x=y
  ·subst e;rw [D4 rfl] at h h';rw [vx xs ys h h']
  ·rw [D5 e] at h;rw [D5 (K9 e)] at h';have:=g9 h;have:=g9 h';omega
theorem Dy {U:D7->Prop}(key:G1->G0 P4):Ordd U (λx y=>jy (key x.1) (key y.1)):=⟨λx y _ _ h=>yW _ _ h,λx y z _ _ _ h=>Wg _ _ _ h⟩
def IT (h:F4)(v:G1)(ns:G0 P4):Prop:= ∃a its,v= .ref a/\m9 h a its/\U3 its.toList ns
theorem IT.keeps {h h':F4}{v:G1}{ns:G0 P4}(x:IT h v ns)(k:Wf h h'):IT h' v ns:=let ⟨a,its,e,t,i⟩:=x;⟨a,its,e,t.keeps k,i⟩
theorem XY: ∀ {vs:G0 G1} {ns ms:G0 P4},U3 vs ns->U3 vs ms->ns=ms
 |_,_,_,.nil,.nil=>rfl
 |_,_,_,.cons n t a,.cons _ _ b=>by rw [XY a b]
theorem IT.one {h:F4}{v:G1}{ns ms:G0 P4}(x:IT h v ns)(y:IT h v ms):ns=ms:=by
 obtain⟨a,its,rfl,⟨o,e,c,n,d⟩,i⟩:=x;obtain⟨a',its',e2,⟨o',e',c',n',d'⟩,i'⟩:=y;cases e2;rw [e] at e';cases e';rw [d] at d';cases d';exact XY i i'
open Classical in
noncomputable def zp (h:F4)(v:G1):G0 P4:=if e: ∃ns,IT h v ns then e.choose else []
theorem IT.nums {h:F4}{v:G1}{ns:G0 P4}(x:IT h v ns):zp h v=ns:=by
 have e: ∃ns,IT h v ns:=⟨ns,x⟩;unfold zp;rw [xM e];exact e.choose_spec.one x
section
variable {prog:S7}{w:N8}{A:N3}{E:G1->G2->Prop}{s:G2}
theorem Jf {α β:Type}{M:pM}{f:α->Sem β}(r:α->β): ∀ (l:G0 α) {Q:G0 β->G2->Prop},(∀v∈l,∀Q':β->G2->Prop,Q' (r v) s->R7 M A (f v) Q' E s)->Q (l.map r) s->R7 M A (l.mapM f) Q E s
 | [],_,_,q=>by
  rw [List.mapM_nil];exact P3 q
 |v::l,Q,hf,q=>by
  rw [List.mapM_cons];refine wpAny_bind (hf v P6 _ (wpAny_bind ?_));exact Jf r l (λu hu=>hf u (R3 _ hu)) (P3 q)
def zh (h:F4):G1->P7 G1
 | .ref a=>match h.get? a with
  |some o=>match o.data with
   | .seq xs _=>xs[0]?
   |_=>none
  |none=>none
 |_=>none
variable {v:G1}{ns:G0 P4}
theorem MV {Q:P7 G1->G2->Prop}(x:IT s.heap v ns)(q:Q (zh s.heap v) s):R7 (S2 prog w) A (firstOfTuple' v) Q E s:=by
 obtain⟨a,its,rfl,⟨o,e,c,n,d⟩,i⟩:=x;have fe:zh s.heap (.ref a)=its[0]? :=by
  unfold zh;dsimp only;rw [e];dsimp only;rw [d]
 rw [uJ];refine wpAny_bind (PySem.W.Looks.here (show sI (S2 prog w) s.heap (v7 (.ref a)) o.cls from (PySem.W.Looks.ld e).andThen .now) ?_);rw [c,D5 (by decide)];refine wpAny_bind (oW e d (P3 ?_));rw [<-fe];exact q
variable {h:F4}
theorem Gm (x:IT h v []):zh h v=none:=by
 obtain⟨a,its,rfl,⟨o,e,c,n,d⟩,i⟩:=x;unfold zh;dsimp only;rw [e];dsimp only;rw [d];dsimp only;obtain⟨l⟩:=its;cases i;rfl
theorem WY {n:P4}(x:IT h v (n::ns)): ∃t,zh h v=some (.int n t):=by
 obtain⟨a,its,rfl,⟨o,e,c,k,d⟩,i⟩:=x;obtain⟨l⟩:=its;cases i with
 |cons _ t i=>exact⟨t,by unfold zh;dsimp only;rw [e];dsimp only;rw [d];rfl⟩
theorem MW (x:IT h v ns):(zh h v).isSome= !ns.isEmpty:=by
 cases ns with
 |nil=>rw [Gm x];rfl
 |cons n ns=>obtain⟨t,e⟩:=WY x;rw [e];rfl
noncomputable def Dz (h:F4)(vs:G0 G1):SortKind:=
 if (vs.all λv=> !(zp h v).isEmpty)=true then tuples' true else if ((vs[0]?.map λv=> !(zp h v).isEmpty)=some true) then uI else oneType'
theorem DA {vs:G0 G1}(h2:2<=vs.length)(x: ∀v∈vs,∃ns,IT h v ns){Q:SortKind->G2->Prop}(e:Wf h s.heap)(q:Q (Dz h vs) s):R7 (S2 prog w) A (uH vs.toArray) Q E s:=by
 have fr: ∀v∈vs,(zh s.heap v).isSome= !(zp h v).isEmpty:=λv hv=>by
  obtain⟨ns,t⟩:=x v hv;rw [t.nums,MW (t.keeps e)]
 rw [keyKind'_eq,iM,map_eq_pure_bind];refine wpAny_bind (wpAny_bind (Jf (zh s.heap) vs (λv hv Q' q'=> ?_) (P3 ?_)))
 ·obtain⟨ns,t⟩:=x v hv;exact MV (t.keeps e) q'
 have all_:((vs.map (zh s.heap)).toArray.all λo=>o.isSome)=vs.all λv=> !(zp h v).isEmpty:=by
  rw [j8,W3];rw [Q7,C3,C3];exact⟨λz v hv=>by rw [<-fr v hv];exact z v hv,λz v hv=>by show (zh s.heap v).isSome=true;rw [fr v hv];exact z v hv⟩
 rw [all_];unfold Dz at q
 by_cases a1:(vs.all λv=> !(zp h v).isEmpty)=true
 ·rw [D4 a1] at q;rw [D4 a1];refine wpAny_bind (fK ?_);obtain⟨fs,efs,nums,ne⟩: ∃fs:G0 G1,vs.map (zh s.heap)=fs.map some/\(∀f∈fs,∃n t,f=dJ n t)/\fs.length=vs.length:=by
   have go: ∀l:G0 G1,(∀v∈l,v∈vs)-> ∃fs:G0 G1,l.map (zh s.heap)=fs.map some/\(∀f∈fs,∃n t,f=dJ n t)/\fs.length=l.length:=by
    intro l
    induction l with
    |nil=>exact λ_=>⟨[],rfl,λf hf=>absurd hf A5,rfl⟩
    |cons v l ih=>
     intro sub;obtain⟨fs,e1,e2,e3⟩:=ih λu hu=>sub u (R3 _ hu)
     have hv:=sub v P6;obtain⟨ns,t⟩:=x v hv;have ne:=C3.mp a1 v hv;rw [t.nums] at ne;cases ns with
     |nil=>cases ne
     |cons n ns=>
      obtain⟨tk,ef⟩:=WY (t.keeps e);refine⟨.int n tk::fs,by rw [T7,T7,ef,e1],λf hf=> ?_,by rw [D8,D8,e3]⟩;rcases S5.mp hf with rfl|hf
      ·exact⟨n,tk,rfl⟩
      ·exact e2 f hf
   exact go vs λ_ hv=>hv
  rw [efs];have fm:((fs.map some).toArray.filterMap id)=fs.toArray:=by simp
  rw [fm,qF,iM,map_eq_pure_bind];refine wpAny_bind (wpAny_bind (wpAny_bind (Jf (λ_=>Z7 "int") fs (λf hf Q' q'=> ?_) (P3 ?_))))
  ·obtain⟨n,t,rfl⟩:=nums f hf;exact P3 q'
  ·match fs,ne with
   | [],ne=>rw [B2] at ne;omega
   |f::fs,_=>
    have h0:(hO (λ_=>Z7 "int") (f::fs)).toArray[0]? =some (Z7 "int"):=by simp
    have h1:((hO (λ_=>Z7 "int") (f::fs)).toArray.all λy=>y==Z7 "int")=true:=by
     rw [j8,W3,C3];exact λ_ _=>rfl
    rw [h0];simp only [h1,fU];exact P3 (P3 q)
 rw [D5 a1] at q;rw [D5 a1]
 match vs,h2,x,fr,q with
 |v::vs,h2,x,fr,q=>
  have h0:((hO (zh s.heap) (v::vs)).toArray[0]?.bind id).isSome= !(zp h v).isEmpty:=by
   rw [<-fr v P6];simp
  rw [h0];have h0':(((v::vs)[0]?.map λv=> !(zp h v).isEmpty)=some true)↔(!(zp h v).isEmpty)=true:=by simp
  by_cases a2:(!(zp h v).isEmpty)=true
  ·rw [D4 (h0'.mpr a2)] at q;rw [D4 a2];exact P3 q
  rw [D5 λz=>a2 (h0'.mp z)] at q;rw [D5 a2];rw [qF,iM,map_eq_pure_bind];refine wpAny_bind (wpAny_bind (wpAny_bind (Jf (λ_=>Z7 "tuple") (v::vs) (λf hf Q' q'=> ?_) (P3 ?_))))
  ·obtain⟨ns,t⟩:=x f hf;obtain⟨a,its,rfl,⟨o,e1,c,n,d⟩,i⟩:=t.keeps e;refine PySem.W.Looks.here (show sI (S2 prog w) s.heap (v7 (.ref a)) o.cls from (PySem.W.Looks.ld e1).andThen .now) ?_;rw [c];exact q'
  ·have h3:(hO (λ_=>Z7 "tuple") (v::vs)).toArray[0]? =some (Z7 "tuple"):=by simp
   have h1:((hO (λ_=>Z7 "tuple") (v::vs)).toArray.all λy=>y==Z7 "tuple")=true:=by
    rw [j8,W3,C3];exact λ_ _=>rfl
   rw [h3];simp only [h1,fU];exact P3 (P3 q)
theorem XZ {fin:M7}{Q:M7->G2->Prop}{m n:G3}(ef:fin=decide (m<n)): ∀ {vs us:G0 G1} {ns ms:G0 P4} (i:G3),U3 vs ns->U3 us ms->ns.length+n=ms.length+m->Q (jy ns ms) s->y8 prog w A true fin Q (vs.zip us) i s
 |_,_,_,_,i,.nil,.nil,l,q=>by
  subst ef;rw [iJ];refine lG ?_;rw [T6 (by rw [B2] at l;omega)];exact q
 |_,_,_,_,i,.nil,.cons c u y,l,q=>by
  subst ef;rw [iJ];refine lG ?_;rw [D9 (by rw [B2,D8] at l;omega)];exact q
 |_,_,_,_,i,.cons a t x,.nil,l,q=>by
  subst ef;rw [nK];refine lG ?_;rw [T6 (by rw [B2,D8] at l;omega)];exact q
 |_,_,_,_,i,.cons a t x,.cons c u y,l,q=>by
  rw [Q9];rw [WJ] at q;obtain⟨e,he,hiff⟩:=XD A s a t c u;refine xU (he prog w _ _ ?_);refine y9 (λz=>xZ ?_) λz=>z6 ?_
  ·rw [D4 (hiff.mp z)] at q;exact XZ ef (i+1) x y (by rw [D8,D8] at l;omega) q
  ·rw [D5 λz'=>by rw [hiff.mpr z'] at z;cases z] at q;cases (true&&i==0) with
   |true=>exact oneLt_int q
   |false=>exact qG _ _ (gG q)
theorem Ap {u:G1}{ms:G0 P4}{Q:M7->G2->Prop}(hu:A.units<cLine)(x:IT s.heap v ns)(y:IT s.heap u ms)(q:Q (jy ns ms) s):R7 (S2 prog w) A (z7 true v u) Q E s:=by
 obtain⟨a,its,rfl,⟨⟨cls,dd,data,sl⟩,e1,c,n,d⟩,i⟩:=x;obtain⟨b,its2,rfl,⟨⟨cls2,dd2,tW,sl2⟩,e2,c2,n2,d2⟩,i2⟩:=y;simp only at c d c2 d2;subst c d c2 d2;rw [oneLt'_eq];simp only [fU];refine wpAny_bind (wpAny_cRoomFor hu (wpAny_bind (wpAny_callSpecialIfBound?_slot ⟨_,e1,rfl⟩ bT (kQ bT ⟨_,e1,rfl⟩ dY (dM _ _) (vM a b its its2 n n2 dd dd2 sl sl2 ns ms i i2) ⟨e1,e2,?_⟩))));exact E1 q
theorem Aq {u:G1}{ms:G0 P4}{Q:M7->G2->Prop}(hu:A.units<cLine)(x:IT s.heap v ns)(y:IT s.heap u ms)(q:Q (jy ns ms) s):R7 (S2 prog w) A (z7 false v u) Q E s:=by
 obtain⟨a,its,rfl,t,i⟩:=x;obtain⟨b,its2,rfl,t2,i2⟩:=y;exact qG _ _ (QD t t2 i i2 hu q)
theorem DB {vs:G0 G1}(hu:A.units<cLine){h':F4}(k:Wf s.heap h'):Vb prog w A (Only s h') (Dz s.heap vs) (λx=> ∃ns,IT s.heap x.1 ns) (λx y=>jy (zp s.heap x.1) (zp s.heap y.1)):=by
 rintro ⟨x,x'⟩ ⟨y,y'⟩ ⟨ns,tx⟩ ⟨ms,ty⟩ s1 ⟨tk,rfl⟩;dsimp only at tx ty ⊢;have q:(jy ns ms=jy (zp s.heap x) (zp s.heap y)/\Only s h' {s with heap:=h',toks:=tk}):=⟨by rw [tx.nums,ty.nums],tk,rfl⟩;have kx:=tx.keeps k;have ky:=ty.keeps k;unfold Dz
 by_cases a1:(vs.all λv=> !(zp s.heap v).isEmpty)=true
 ·rw [D4 a1];obtain⟨a,its,rfl,⟨o,e1,c,n,d⟩,i⟩:=kx;obtain⟨b,its2,rfl,⟨o2,e2,c2,n2,d2⟩,i2⟩:=ky;refine z8 e1 d e2 d2 (XZ rfl 0 i i2 ?_ q);have z1:=i.length;have z2:=i2.length;rw [P9] at z1 z2;omega
 rw [D5 a1]
 by_cases a2:(vs[0]?.map λv=> !(zp s.heap v).isEmpty)=some true
 ·rw [D4 a2];show R7 _ _ (z7 false x y) _ _ _;exact Aq hu kx ky q
 ·rw [D5 a2,keyLt'_oneType];exact Ap hu kx ky q
end
end HT
namespace L2
open PySem PySem.Spec PyProof.Rows PySem.SeqAt HT
theorem VG {α β:Type}{f:α->β}: ∀ {out:G0 β} {l:G0 α},out.Perm (l.map f)-> ∃l':G0 α,l'.Perm l/\l'.map f=out
 | [],l,p=>by
  have e:=p.length_eq;rw [G8,B2] at e;exact⟨[],by rw [W6 e.symm],rfl⟩
 |x::out,l,p=>by
  obtain⟨y,hy,rfl⟩:=R8.mp (p.mem_iff.mp P6);obtain⟨l1,l2,rfl⟩:=List.append_of_mem hy;have p2:out.Perm ((l1++l2).map f):=by
   refine xE (a:=f y) (p.trans ?_);rw [C6,C6,T7];exact pL
  obtain⟨l',a,b⟩:=VG p2;exact⟨y::l',(a.cons y).trans pL.symm,by rw [T7,b]⟩
def TF (H:Hp)(v:V)(ns:G0 P4):Prop:= ∃a,v= .ref a/\H a=some (.tup (ns.map V.int))
abbrev tI (ns:G0 P4):D:= .tup (ns.map D.int)
theorem DD {K:G5}{H:Hp}: ∀ {ps:G0 (V×G0 P4)},(∀p∈ps,TF H p.1 p.2)->RelDs K H ((ps.map (·.2)).map tI) (ps.map (·.1))
 | [],_=> .nil
 |p::ps,h=> .cons (by
  obtain⟨a,e,hH⟩:=h p P6;exact⟨a,_,e,hH,wR _⟩) (DD λq hq=>h q (R3 _ hq))
abbrev toI (S:G0 G3):G0 P4:=S.map λ(k:G3)=>(k:P4)
def leS (a b:G0 G3):M7:= !HT.jy (toI b) (toI a)
def Ar (l:G0 (G0 G3)):G0 (G0 G3):=l.mergeSort leS
theorem Gn (l:G0 (G0 G3)):(Ar l).Perm l:=List.mergeSort_perm _ _
end L2
namespace L2
open PySem PySem.Spec PyProof.Rows PySem.SeqAt
theorem Qa: ∀l:G0 P4,C1 (l.map bH)=true
 | []=>rfl
 |x::l=>by show (F6 (.int x)&&_)=true;rw [Qa l];rfl
variable {h:HD}
theorem CZ {neg:M7}{x:G3}{S:G0 G3}{Q:KD}(q: ∀b:M7,(b=true↔x∈S)->Q (.bl (neg !=b)) h):inE neg (.int (x:P4)) (vk S) h Q:=by
 refine⟨.int x,(zC S).map bH,rfl,.inr (CN h S),rfl,Qa _,(by show (0:G3)<=60;decide),q _ ?_⟩;rw [fP];constructor
 ·rintro ⟨z,hz,e⟩;obtain⟨m,hm,rfl⟩:=R8.mp hz;obtain⟨y,hy,rfl⟩:=R8.mp (show m∈S.map λ(k:G3)=>(k:P4) from hm);have:(y:P4)=x:=by simpa [F7] using e
  have:y=x:=by omega
  exact this ▸ hy
 ·intro z;exact⟨.int x,R8.mpr ⟨_,R8.mpr ⟨x,z,rfl⟩,rfl⟩,by simp [F7]⟩
theorem Jg {h':HD}{a:P5}(sb:Sub h h')(e:h' a=none):h a=none:=by
 cases z:h a with
 |none=>rfl
 |some ds=>rw [sb a ds z] at e;cases e
theorem Sub.over {h':HD}{a:P5}{ds:G0 D}(sb:Sub h h')(e:h a=none):Sub h (zZ h' a ds):=⟨λb xs k=>jx (λz=>by subst z;rw [e] at k;cases k) (sb b xs k),sb.dc⟩
theorem Fa {x:G3}{S:G0 G3}{Q:KD}(q:Q (.bl (!decide (x∈S))) h):inE true (.int (x:P4)) (vk S) h Q:=CZ λbo hb=>by
 have:(true !=bo)= !decide (x∈S):=by
  cases bo with
  |true=>rw [D9 (hb.mp rfl)];rfl
  |false=>rw [T6 λz=>by have:=hb.mpr z;cases this];rfl
 rw [this];exact q
def wk (T:G0 (G0 P4)):G3->G3->G3->M7
 |0,i,j=>decide (i=j)|| !decide (ent T i j=0)
 |b+1,i,j=>wk T b i j||(wk T b i b&&wk T b b j)
theorem UR (T:G0 (G0 P4)): ∀b i,wk T b i i=true
 |0,i=>by unfold wk;rw [D9 rfl];rfl
 |b+1,i=>by unfold wk;rw [UR T b i];rfl
theorem As (T:G0 (G0 P4))(b i:G3):wk T (b+1) i b=wk T b i b:=by
 show (wk T b i b||(wk T b i b&&wk T b b b))=_;cases wk T b i b<;>rfl
theorem Au (T:G0 (G0 P4))(b j:G3):wk T (b+1) b j=wk T b b j:=by
 show (wk T b b j||(wk T b b b&&wk T b b j))=_;cases wk T b b j<;>cases wk T b b b<;>rfl
variable {T:G0 (G0 P4)}
theorem wk_by {b i j:G3}:wk T (b+1) i j=true↔wk T b i j=true\/(wk T b i b=true/\wk T b b j=true):=by
 show (wk T b i j||(wk T b i b&&wk T b b j))=true↔_;rw [bO,O1]
theorem yh: ∀ {b i k j:G3},k<b->wk T b i k=true->wk T b k j=true->wk T b i j=true
 |b+1,i,k,j,hk,x,y=>by
  by_cases e:k=b
  ·subst e;rw [As] at x;rw [Au] at y;exact wk_by.mpr (.inr ⟨x,y⟩)
  ·have lt:k<b:=by omega
   rcases wk_by.mp x with x|⟨x1,x2⟩
   ·rcases wk_by.mp y with y|⟨y1,y2⟩
    ·exact wk_by.mpr (.inl (yh lt x y))
    ·exact wk_by.mpr (.inr ⟨yh lt x y1,y2⟩)
   ·rcases wk_by.mp y with y|⟨y1,y2⟩
    ·exact wk_by.mpr (.inr ⟨x1,yh lt x2 y⟩)
    ·exact wk_by.mpr (.inr ⟨x1,y2⟩)
theorem Zx {P:G3->G3->Prop}(r: ∀i,P i i)(a: ∀i j,ent T i j≠0->P i j)(t: ∀i k j,P i k->P k j->P i j): ∀ {b i j:G3},wk T b i j=true->P i j
 |0,i,j,h=>by
  have h:(decide (i=j)|| !decide (ent T i j=0))=true:=h;rw [bO] at h;rcases h with h|h
  ·rw [C7 h];exact r j
  ·exact a i j λz=>by rw [D9 z] at h;cases h
 |b+1,i,j,h=>by
  rcases wk_by.mp h with h|⟨h1,h2⟩
  ·exact Zx r a t h
  ·exact t _ _ _ (Zx r a t h1) (Zx r a t h2)
theorem Fb {n e:G3}(h:Sq n e T)(i j:G3)(z:ent T i j≠0):j<n:=by
 by_cases hj:j<n
 ·exact hj
 ·exfalso;apply z;unfold ent
  by_cases hi:i<T.length
  ·have hr:=h.row (T.getD i []) (by rw [S1,G7 hi];exact C9 hi);rw [S1,J8 (by rw [hr];omega)];rfl
  ·rw [S1 (l:=T),J8 (by omega)];rfl
section
variable {X:Cx}{iter iter' elt:M5}{te:TED}{ti ti':TID}{tt tt':TTD}{pos spos:Pos}{scope:U2}{js:G0 G3}{ifs ifs':G0 M5}
theorem DE {i i' k:G3}{x z y:Str}{p pz py:Pos}(hc:X.calm=true)(hN:X.N.Nodup)(hk:X.N[k]? =some y)(hy:Loc X.env.scope y)(S:BlockOk X scope js)(hi:JI X (.Name x p) iter ti)(hj:i∈js)(hj':i'∈js)(hne:i≠i')(hx:X.N[i]? =some x)(hz:X.N[i']? =some z)
 (hl:scope.names.lookup x=some .local\/scope.names.lookup x=some .cell)(hl':scope.names.lookup z=some .local\/scope.names.lookup z=some .cell)
 (ht: ∀X',jf X scope X'->PTs X' ifs (LT X'.K tt))(hi': ∀X',jf X scope X'->JI X' (.Name z pz) iter' ti')(ht': ∀X',jf X scope X'->PTs X' ifs' (LT X'.K tt'))(he: ∀X',jf X scope X'->JE X' elt te)
 (hsw:Y6 (.ListComp elt [⟨.Name x p,iter,ifs,0⟩,⟨.Name z pz,iter',ifs',0⟩] scope pos) (some (.Name y py)) spos.line X.env=pure true:=by rfl)
 (hf:X.fn y=true\/X.env.scope.names.lookup y=some .local:=by first|exact .inl rfl|exact .inr rfl|assumption)(hs: ∀x,M0 iter X.env x=pure x:=by intro _;rfl)(hs': ∀env x,M0 iter' env x=pure x:=by intro _ _;rfl):
 JS X (.Assign [.Name y py] (.ListComp elt [⟨.Name x p,iter,ifs,0⟩,⟨.Name z pz,iter',ifs',0⟩] scope pos) spos) (Mi k (Mk (bN i) js ti tt i' ti' tt' te)):=by
 have base:PS X (.Assign [.Name y py] (.ListComp elt [⟨.Name x p,iter,ifs,0⟩,⟨.Name z pz,iter',ifs',0⟩] scope pos) spos) (NF (Ee js (LI X.K ti) (wJ i) (LT X.K tt) (LI X.K ti') (wJ i') (LT X.K tt') (LE X.K te)) (wJ k)):=
  Pl hc S hi.to rfl (λX' hX=>by obtain⟨C,s₀,H₀,ex,rfl⟩:=hX;exact wb hN hx hl) (λX' hX=>by have:=ht X' hX;obtain⟨C,s₀,H₀,ex,rfl⟩:=hX;exact this)
   (λenv acc=>QM (.ListComp elt [⟨.Name x p,iter,ifs,0⟩,⟨.Name z pz,iter',ifs',0⟩] scope pos) iter' env acc) (λ_ _ _=>Po ..)
   (λX' hX D=>by
    have a:=(hi' X' hX).to;have b:=ht' X' hX;have c:=(he X' hX).to;obtain⟨C,s₀,H₀,ex,rfl⟩:=hX;exact Pm (g:=wJ i') hc rfl a (wb hN hz hl') b c (hs' _))
   (vg hN hk hy hf) hsw hs
 exact⟨base.imp λD σ H h=>by
  obtain⟨IG,hd,Qd,rs,rh,t,p⟩:=Pr (K:=X.K) D σ H h;exact NN (NM hj hj' hne) σ H _ ⟨IG,hd,Qd,rs,rh,t,p⟩⟩
end
def TH (g:G3->G3->M7)(w:G0 G3)(j:G3):M7:=g (w.getLastD 0) j&&(decide (w.headD 0<j)&& !decide (j∈w))
def HV (g:G3->G3->M7)(n:G3)(w:G0 G3):G0 (G0 G3):=((G6 n).filter (TH g w)).map λj=>w++ [j]
def lev (g:G3->G3->M7)(n:G3):G3->G0 (G0 G3)
 |0=>(G6 n).map λi=> [i]
 |t+1=>(lev g n t).flatMap (HV g n)
def SA (g:G3->G3->M7)(n:G3):G3->G0 (G0 G3)
 |0=> []
 |t+1=>SA g n t++(lev g n t).filter λw=>g (w.getLastD 0) (w.headD 0)
def TJ (T:G0 (G0 P4))(i j:G3):M7:=decide (ent T i j>0)
def Qb (T:G0 (G0 P4))(n:G3):G0 (G0 G3):=Ar (SA (TJ T) n n)
theorem at_end {w:G0 G3}{t:G3}(h:w.length=t+1):atI (w.map λ(k:G3)=>D.int (k:P4)) (-1)=some (.int ((w.getLastD 0:G3):P4)):=by
 refine MK (by rw [G8];omega) ?_;rw [G8,D2,cR,cS,G7 (by omega)];rfl
end L2
namespace HT
open PySem PySem.Spec PyProof.Rows
def vy (lt:G1->G1->M7):G1->G0 G1->G1
 |b,[]=>b
 |b,v::r=>vy lt (if lt v b=true then v else b) r
section
variable {prog:S7}{w:N8}{A:N3}{E:G1->G2->Prop}{s:G2}{h0:F4}{l I S:P5}{vs:G0 G1}{lt:G1->G1->M7}
def TK (prog:S7)(w:N8)(A:N3)(h0:F4)(vs:G0 G1)(lt:G1->G1->M7):Prop:=
 ∀v∈vs,∀u∈vs,∀ (s:G2) (E Q:G1->G2->Prop),Wf h0 s.heap->Q (.bool (lt v u)) s->R7 (S2 prog w) A (dL .Lt v u) Q E s
structure At (h0:F4)(l I S:P5)(vs:G0 G1)(i:G3)(st:S9 G1)(h:F4):Prop where
 kept:Wf h0 h
 it:h.IsListIter I l i
 lst:h.IsList l vs.toArray
 store: ∃c,h.get? S=some (a7 "list" st c)
theorem At.put {i:G3}{st st':S9 G1}{h:F4}(x:At h0 l I S vs i st h)(nI:S≠I)(nl:S≠l)(n0:h0.get? S=none):At h0 l I S vs i st' (h.update S (J7 λ_=>st')):=by
 obtain⟨c,e⟩:=x.store;have other: ∀b o,b≠S->h.get? b=some o->(h.update S (J7 λ_=>st')).get? b=some o:=λb o ne z=>(Y0 _ _ _ _ ne).trans z
 exact⟨λb o z=>other b o (λq=>by rw [q,n0] at z;cases z) (x.kept b o z),x.it.at λo z=>other I o (K9 nI) z,x.lst.at λo z=>other l o (K9 nl) z,⟨_,F5 _ e rfl⟩⟩
theorem At.step {i j:G3}{st:S9 G1}{h h':F4}(x:At h0 l I S vs i st h)(k: ∀b o,b ∉ [I]->h.get? b=some o->h'.get? b=some o)(nI:S≠I)(n0:h0.get? I=none)(y:h'.IsListIter I l j)(z:h'.IsList l vs.toArray):At h0 l I S vs j st h':=
 ⟨λb o e=>k b o (λq=>by rw [G9.mp q,n0] at e;cases e) (x.kept b o e),y,z,let ⟨c,e⟩:=x.store;⟨c,k S _ (λq=>nI (G9.mp q)) e⟩⟩
theorem MX (calm:A.in1.handled=none)(nlI:l≠I)(nI:S≠I)(nl:S≠l)(nS:h0.get? S=none)(nI0:h0.get? I=none)(cmp:TK prog w A.in1 h0 vs lt): ∀ (r:G0 G1) (i:G3) (vb:G1) (h:F4) (tk:G3),vs.drop i=r->i<=vs.length->vb∈vs->At h0 l I S vs i #[vb,vb] h->
 aL (S2 prog w) A (.builtin "min.loop" ⟨[.ref I,.none,.ref S],[]⟩) (λres s'=>res= .ok (.ret (vy lt vb r))/\ ∃h' tk',s'= {s with heap:=h',toks:=tk'}/\Wf h0 h') {s with heap:=h,toks:=tk}:=by
 have W:=Walks.list (prog:=prog) (w:=w) calm I l nlI vs.toArray;have again:(toString "min" ++toString ".loop" :V8)= "min.loop" :=by decide
 intro r
 induction r with
 |nil=>
  intro i vb h tk dr il mb x;have ei:i=vs.toArray.size:=by
   rw [S6];exact Nat.le_antisymm il (f8.mp dr)
  obtain⟨c,e⟩:=x.store;refine aJ j9 ?_;rw [W7 Z5];refine wpAny_bind (X1 e rfl (wpAny_bind (hZ (W.done _ _ _ ⟨by rw [<-ei];exact x.it,x.lst⟩ λh' tk' k=> ?_))));have keep:Wf h0 h':=λb o z=>k b o (λq=>by rw [G9.mp q,nI0] at z;cases z) (x.kept b o z)
  refine wpAny_bind (lH (k S _ (λq=>nI (G9.mp q)) e) rfl (wpAny_bind (mP (P3 ⟨rfl,_,tk',rfl,λb o z=> ?_⟩))));exact(Y0 _ _ _ _ λq=>by rw [q,nS] at z;cases z).trans (keep b o z)
 |cons v r ih=>
  intro i vb h tk dr il mb x;obtain⟨c,e⟩:=x.store;have hi:i<vs.length:=by
   rcases A0 i vs.length with z|z
   ·exact z
   ·rw [f8.mpr z] at dr;cases dr
  have dr':vs[i]=v/\vs.drop (i+1)=r:=by
   rw [iD hi] at dr;injection dr with a b
   exact⟨a,b⟩
  refine aJ j9 ?_;rw [W7 Z5];refine wpAny_bind (X1 e rfl (wpAny_bind (hZ (W.item i _ _ _ (by rw [S6];exact hi) ⟨x.it,x.lst⟩ λu h' tk' pu st' k=> ?_))));have eu:u=v:=by
   rw [lN,G7 hi,dr'.1] at pu;injection pu with pu
   exact pu.symm
  subst eu;have mu:u∈vs:=dr'.1 ▸ C9 hi;have y:=At.step x k nI nI0 st'.1 st'.2;have e':h'.get? S=some (a7 "list" #[vb,vb] c):=k S _ (λq=>nI (G9.mp q)) e;refine wpAny_bind (P3 ?_);have ans: ∀F:M7->Sem Fin,∀ (P:Fin->G2->Prop) (E:G1->G2->Prop) (H:G1->Sem M7),R7 (S2 prog w) A.in1 (F (lt u vb)) P E {s with heap:=h',toks:=tk'}->R7 (S2 prog w) A.in1 (tryCatch (aK [u,u] (do let a <-dL .Lt u vb;let yes <-aK [a] (uW a);letGo [a];pure yes)) H >>= F) P E {s with heap:=h',toks:=tk'}:=λF P E H q=>
   wpAny_bind (hZ (L7 (wpAny_bind (cmp u mu vb mb _ _ _ y.kept (wpAny_bind (L7 (E1 (wpAny_bind (mP (P3 q))))))))))
  refine ans _ _ _ _ ?_;cases c1:lt u vb with
  |true=>
   have z:=At.put (st':= #[u,u]) y nI nl nS;refine wpAny_bind (lH e' rfl (wpAny_bind (mP ?_)));have nx:=ih (i+1) u _ tk' dr'.2 hi mu z;rw [again];refine P3 ⟨aY Z5 _,?_⟩;unfold vy;rw [D4 c1];exact nx
  |false=>
   refine wpAny_bind (mP ?_);have nx:=ih (i+1) vb _ tk' dr'.2 hi mb y;rw [again];refine P3 ⟨aY Z5 _,?_⟩;unfold vy;rw [D5 (by rw [c1];exact R0)];exact nx
theorem Qc {h:F4}{b:P5}(z:h.objs.size<=b):h.get? b=none:=by
 cases e:h.get? b with
 |none=>rfl
 |some o=>exact absurd (R1 e) (U5.mpr z)
theorem MY {v0:G1}{r:G0 G1}{Q:G1->G2->Prop}(calm:A.in1.handled=none)(hl:s.heap.IsList l vs.toArray)(ev:vs=v0::r)(cmp:TK prog w A.in1 s.heap vs lt)
 (q: ∀h' tk,Wf s.heap h'->Q (vy lt v0 r) {s with heap:=h',toks:=tk}):R7 (S2 prog w) A (call (.builtin "min") [.ref l]) Q E s:=by
 have again:(toString "min" ++toString ".loop" :V8)= "min.loop" :=by decide
 obtain⟨ol,el,rl⟩:=id hl;have ll:=R1 el;refine call_function_tree F.kind_min F.plain_min F.entry_min (F.args_min1 _) (wpAny_bind (t8 (show Builtin.Builtins.bindParams "min" ["key","default"] 0 ⟨[],[]⟩=pure [none,none] from rfl) (wpAny_bind (P3 (wpAny_bind (bX hl (wpAny_bind (X2 ?_))))))));rw [again];refine P3 ⟨aY Z5 _,?_⟩;have big:s.heap.objs.size<(s.heap.push {cls:= .type "list_iterator",data:= .fields #[.ref l,.int 0 0]}).objs.size:=by rw [b9];exact A4 _
 have it1:(s.heap.push {cls:= .type "list_iterator",data:= .fields #[.ref l,.int 0 0]}).IsListIter s.heap.objs.size l 0:=⟨_,T5 _ rfl,rfl,rfl⟩;have k1:Wf s.heap (s.heap.push {cls:= .type "list_iterator",data:= .fields #[.ref l,.int 0 0]}):=λb o e=>P1 _ e
 revert big it1 k1;generalize s.heap.push {cls:= .type "list_iterator",data:= .fields #[.ref l,.int 0 0]}=H1;intro big it1 k1;have x:At s.heap l s.heap.objs.size H1.objs.size vs 0 #[] (H1.push {cls:= .type "list",data:= .seq #[]}):=
  ⟨λb o e=>P1 _ (k1 b o e),it1.at λo e=>P1 _ e,hl.at λo e=>P1 _ (k1 _ _ e),0,T5 _ rfl⟩
 have nlI:l≠s.heap.objs.size:=T2 ll;have nI:H1.objs.size≠s.heap.objs.size:=(T2 big).symm;have nl:H1.objs.size≠l:=(T2 (E6 ll big)).symm;have n1:s.heap.get? s.heap.objs.size=none:=Qc (P2 _);have n2:s.heap.get? H1.objs.size=none:=Qc (R9 big);obtain⟨c,e⟩:=x.store;have W:=Walks.list (prog:=prog) (w:=w) calm s.heap.objs.size l nlI vs.toArray;have m0:v0∈vs:=by rw [ev];exact P6
 refine aJ j9 ?_;rw [W7 Z5];refine wpAny_bind (X1 e rfl (wpAny_bind (hZ (W.item 0 _ _ _ (by rw [ev];exact cN _) ⟨x.it,x.lst⟩ λu h' tk' pu st' k=> ?_))));have eu:u=v0:=by
  rw [lN,ev] at pu;injection pu with pu
  exact pu.symm
 subst eu;have y:=At.step x k nI n1 st'.1 st'.2;refine wpAny_bind (P3 ?_);refine wpAny_bind (lH (k _ _ (λz=>nI (G9.mp z)) e) rfl ?_);rw [again];refine P3 ⟨aY Z5 _,gH (MX (s:=s) calm nlI nI nl n2 n1 cmp r 1 u _ tk' (by rw [ev];rfl) (by rw [ev];exact a8 (M6 _)) m0 (At.put (st':= #[u,u]) y nI nl n2)) λres s' z=> ?_⟩;obtain⟨rfl,h2,tk2,rfl,k2⟩:=z;exact q h2 tk2 k2
end
end HT
namespace HT
open PySem PySem.Spec PyProof.Rows PySem.SeqAt
open PySem.AutoSeq1 (wpAny_loadPart')
open PySem.MeetsSeq PySem.MeetsSeq2 PySem.MeetsSeq3
inductive Lx (prog:S7)(w:N8)(A:N3)(s:G2):G0 G1->G0 G1->M7->Prop
 |nn:Lx prog w A s [] [] false
 |nc (u:G1) (us:G0 G1):Lx prog w A s [] (u::us) true
 |cn (v:G1) (vs:G0 G1):Lx prog w A s (v::vs) [] false
 |same {v u:G1} {vs us:G0 G1} {b:M7} (e:EqAt A s v u true) (t:Lx prog w A s vs us b):Lx prog w A s (v::vs) (u::us) b
 |unlike {v u:G1} {vs us:G0 G1} {b:M7} (e:EqAt A s v u false) (t: ∀ (Q E:G1->G2->Prop),Q (.bool b) s->R7 (S2 prog w) A (dL .Lt v u) Q E s):Lx prog w A s (v::vs) (u::us) b
theorem Lx.short {prog:S7}{w:N8}{A:N3}{s:G2}{vs us:G0 G1}{b:M7}{m n:G3}(t:Lx prog w A s vs us b)(z:vs.zip us= [])(l:vs.length+n=us.length+m):b=decide (m<n):=by
 cases t with
 |nn=>rw [B2] at l;exact(T6 (by omega)).symm
 |nc u us=>rw [B2,D8] at l;exact(D9 (by omega)).symm
 |cn v vs=>rw [B2,D8] at l;exact(T6 (by omega)).symm
 |same e t=>rw [Q9] at z;cases z
 |unlike e t=>rw [Q9] at z;cases z
theorem VH (l b:P5)(items items2:S9 G1)(n n2:G3)(dd dd2:P7 P5)(sl sl2:S9 (P7 G1))(r:M7):
 Meets (Builtin.«tuple.__lt__» ⟨[.ref l,.ref b],[]⟩)
  (λA R s=>s.heap.get? l=some {cls:= .type "tuple",dict:=dd,data:= .seq items n,slots:=sl}/\s.heap.get? b=some {cls:= .type "tuple",dict:=dd2,data:= .seq items2 n2,slots:=sl2}/\
   (∀prog w,Lx prog w A.in1 s items.toList items2.toList r)/\R (.ok (.ret (.bool r))) s):=
 .of_wp λprog w A R s h=>by
  obtain⟨hp,g,d,tk,os⟩:=s;obtain⟨hl,hb,ht,h⟩:=h;have f2:=AutoSeq1.sub_tuple_tuple
  wp_walk using N7 hl,N7 hb,iW _ (λrest b s'=>b.1=none/\s'=⟨hp,g,d,tk,os⟩/\ ∃ (vs us:G0 G1),rest=vs.zip us/\Lx prog w A.in1 ⟨hp,g,d,tk,os⟩ vs us r/\vs.length+items2.size=us.length+items.size) _
  case turn=>
   rintro ⟨y,x⟩ rest b s' ⟨hb',rfl,vs,us,hz,t,hlen⟩;cases t with
   |nn=>cases hz
   |nc u us=>cases hz
   |cn v vs=>cases hz
   |same e t=>
    rw [Q9] at hz;injection hz with hyx hrest
    injection hyx with hy hx
    subst hy hx;simp only [D8] at hlen;refine wpAny_bind (e prog w _ _ ?_)
    wp_walk
    exact⟨rfl,rfl,_,_,hrest,t,by omega⟩
   |unlike e t=>
    rw [Q9] at hz;injection hz with hyx hrest
    injection hyx with hy hx
    subst hy hx;refine wpAny_bind (e prog w _ _ ?_);have hri:=λ{Q E:G1->G2->Prop}=>t Q E
    wp_walk using hri
    exact⟨_,rfl,by simpa using h⟩
  case fin=>
   rintro ⟨b1,b2⟩ s' ⟨hb',rfl,vs,us,hz,t,hlen⟩;simp only at hb';subst hb';have hv:=t.short hz.symm hlen;rw [hv] at h
   wp_walk
   exact⟨_,rfl,by simpa [fF] using h⟩
  case h=>
   exact⟨rfl,rfl,items.toList,items2.toList,rfl,ht prog w,by rw [P9,P9];omega⟩
theorem Wh {α:Type}{p vs:G0 α}{x:α}{items:S9 α}(e:items.toList=p++x::vs){i:G3}(l:p.length=i):items[((i:G3):P4).toNat]? =some x:=by
 rw [aQ,<-T9,e,<-l];simp
theorem at_end {α:Type}{p:G0 α}{items:S9 α}(e:items.toList=p){i:G3}(l:p.length=i):items[((i:G3):P4).toNat]? =none:=by
 rw [aQ,<-T9,e,<-l];simp
section
variable {prog:S7}{w:N8}{A:N3}{R:pA->G2->Prop}{s:G2}{l b:P5}{items items2:S9 G1}{n n2:G3}{dd dd2:P7 P5}{sl sl2:S9 (P7 G1)}{r:M7}
theorem YG (hl:s.heap.get? l=some {cls:= .type "list",dict:=dd,data:= .seq items n,slots:=sl})(hb:s.heap.get? b=some {cls:= .type "list",dict:=dd2,data:= .seq items2 n2,slots:=sl2})(h:R (.ok (.ret (.bool r))) s):
 ∀ {vs us:G0 G1},Lx prog w A.in1 s vs us r-> ∀ (i:G3) (p q:G0 G1),items.toList=p++vs->items2.toList=q++us->p.length=i->q.length=i->
  R7 (S2 prog w) A.in1 (Builtin.«list.__eq__.loop» ⟨[.ref l,.ref b,K7 i,K7 0],[]⟩) (λfin s'=>match fin with| .done f=>R (.ok f) s'| .again c'=>c'.quiet=true/\aL (S2 prog w) A c' R s') (λe s'=>R (.error e) s') s:=by
 intro vs us t;obtain⟨hp,g,d,tk,os⟩:=s
 induction t with
 |nn=>
  intro i p q e1 e2 l1 l2;rw [J4] at e1 e2;have z1:items.size=i:=by rw [<-P9,e1];exact l1
  have z2:items2.size=i:=by rw [<-P9,e2];exact l2
  wp_walk using N7 hl,N7 hb
  rw [at_end e1 l1]
  wp_walk using N7 hl,N7 hb
  show R (.ok (.ret (.bool (decide (items.size<items2.size))))) _;rw [z1,z2,show decide (i<i)=false from T6 (C4 _)];exact h
 |nc u us=>
  intro i p q e1 e2 l1 l2;rw [J4] at e1;have z1:items.size=i:=by rw [<-P9,e1];exact l1
  have z2:i<items2.size:=by rw [<-P9,e2,P0,l2,D8];omega
  wp_walk using N7 hl,N7 hb
  rw [at_end e1 l1]
  wp_walk using N7 hl,N7 hb
  show R (.ok (.ret (.bool (decide (items.size<items2.size))))) _;rw [z1,show decide (i<items2.size)=true from D9 z2];exact h
 |cn v vs=>
  intro i p q e1 e2 l1 l2;rw [J4] at e2;have z1:i<items.size:=by rw [<-P9,e1,P0,l1,D8];omega
  have z2:items2.size=i:=by rw [<-P9,e2];exact l2
  wp_walk using N7 hl,N7 hb
  rw [Wh e1 l1,at_end e2 l2]
  wp_walk using N7 hl,N7 hb
  show R (.ok (.ret (.bool (decide (items.size<items2.size))))) _;rw [z2,show decide (items.size<i)=false from T6 (by omega)];exact h
 | @same v u vs us b0 e t ih=>
  intro i p q e1 e2 l1 l2
  wp_walk using N7 hl,N7 hb
  rw [Wh e1 l1,Wh e2 l2];refine wpAny_bind (e prog w _ _ ?_)
  wp_walk
  rw [show ((i:P4)+1)=((i+1:G3):P4) by omega];exact⟨aY plain_eq_loop _,aJ entry_eq_loop (by
   rw [W7 plain_eq_loop _];exact ih h (i+1) (p++ [v]) (q++ [u]) (by rw [e1,D1];rfl) (by rw [e2,D1];rfl) (by rw [P0,l1];rfl) (by rw [P0,l2];rfl))⟩
 | @unlike v u vs us b0 e t=>
  intro i p q e1 e2 l1 l2
  wp_walk using N7 hl,N7 hb
  rw [Wh e1 l1,Wh e2 l2];refine wpAny_bind (e prog w _ _ ?_);have hri:=λ{Q E:G1->G2->Prop}=>t Q E
  wp_walk using N7 hl,N7 hb
  rw [Wh e1 l1,Wh e2 l2]
  wp_walk using hri
  exact h
end
theorem US (l b:P5)(items items2:S9 G1)(n n2:G3)(dd dd2:P7 P5)(sl sl2:S9 (P7 G1))(r:M7):
 Meets (Builtin.«list.__lt__» ⟨[.ref l,.ref b],[]⟩)
  (λA R s=>s.heap.get? l=some {cls:= .type "list",dict:=dd,data:= .seq items n,slots:=sl}/\s.heap.get? b=some {cls:= .type "list",dict:=dd2,data:= .seq items2 n2,slots:=sl2}/\
   (∀prog w,Lx prog w A.in1 s items.toList items2.toList r)/\R (.ok (.ret (.bool r))) s):=by
 intro prog w A R s h;obtain⟨hl,hb,ht,h⟩:=h;have f3:=AutoSeq1.sub_list_list;have fin:=YG (prog:=prog) (w:=w) (A:=A) hl hb h (ht prog w) 0 [] [] rfl rfl rfl rfl;obtain⟨hp,g,d,tk,os⟩:=s
 wp_walk using N7 hl,N7 hb
 exact⟨aY plain_eq_loop _,aJ entry_eq_loop (by
  rw [W7 plain_eq_loop _];exact fin)⟩
end HT
namespace HT
open PySem PySem.Spec PyProof.Rows PySem.SeqAt
mutual
/-- may they be compared? -/
def alk:A6->A6->M7
 | .int _,.int _=>true
 | .tuple xs,.tuple ys=>alks xs ys
 | .list xs,.list ys=>alks xs ys
 |_,_=>false
def alks:G0 A6->G0 A6->M7
 |x::xs,y::ys=>alk x y&&alks xs ys
 |_,_=>true
end
mutual
def ltP:A6->A6->M7
 | .int i,.int j=>decide (i<j)
 | .tuple xs,.tuple ys=>ltPs xs ys
 | .list xs,.list ys=>ltPs xs ys
 |_,_=>false
def ltPs:G0 A6->G0 A6->M7
 | [],[]=>false
 | [],_::_=>true
 |_::_,[]=>false
 |x::xs,y::ys=>if F7 x y=true then ltPs xs ys else ltP x y
end
theorem Fc {prog:S7}{w:N8}{A:N3}{E:G1->G2->Prop}{s:G2}{l b:P5}{o o2:Obj}{items items2:S9 G1}{n n2:G3}{r:M7}{Q:G1->G2->Prop}(e1:s.heap.get? l=some o)(c1:o.cls= .type "tuple")(d1:o.data= .seq items n)(e2:s.heap.get? b=some o2)(c2:o2.cls= .type "tuple")(d2:o2.data= .seq items2 n2)
 (t: ∀prog w,Lx prog w A.in1 s items.toList items2.toList r)(hu:A.units<cLine)(q:Q (.bool r) s):R7 (S2 prog w) A (dL .Lt (.ref l) (.ref b)) Q E s:=by
 obtain⟨cls,dd,data,sl⟩:=o;obtain⟨cls2,dd2,tW,sl2⟩:=o2;simp only at c1 d1 c2 d2;subst c1 d1 c2 d2;have g:=VH l b items items2 n n2 dd dd2 sl sl2 r;refine dX (op:= .Lt) ⟨_,e1,rfl⟩ ⟨_,e2,rfl⟩ bT dY (dM _ _) g ?_ hu;refine⟨e1,e2,t,?_⟩;exact And.intro (by intro x;cases x) q
theorem MZ {prog:S7}{w:N8}{A:N3}{E:G1->G2->Prop}{s:G2}{l b:P5}{o o2:Obj}{items items2:S9 G1}{n n2:G3}{r:M7}{Q:G1->G2->Prop}(e1:s.heap.get? l=some o)(c1:o.cls= .type "list")(d1:o.data= .seq items n)(e2:s.heap.get? b=some o2)(c2:o2.cls= .type "list")(d2:o2.data= .seq items2 n2)
 (t: ∀prog w,Lx prog w A.in1 s items.toList items2.toList r)(hu:A.units<cLine)(q:Q (.bool r) s):R7 (S2 prog w) A (dL .Lt (.ref l) (.ref b)) Q E s:=by
 obtain⟨cls,dd,data,sl⟩:=o;obtain⟨cls2,dd2,tW,sl2⟩:=o2;simp only at c1 d1 c2 d2;subst c1 d1 c2 d2;have g:=US l b items items2 n n2 dd dd2 sl sl2 r;refine dX (op:= .Lt) ⟨_,e1,rfl⟩ ⟨_,e2,rfl⟩ uK tN (tH _ _) g ?_ hu;refine⟨e1,e2,t,?_⟩;exact And.intro (by intro x;cases x) q
mutual
theorem Qe: ∀ (p q:A6) (A:N3) (s:G2) (v u:G1) (as bs:G0 P5),Reads s.heap v p as->Reads s.heap u q bs->p.canLay0=true->q.canLay0=true->alk p q=true->A.units+p.depth<cLine->
 ∀ (prog:S7) (w:N8) (Q E:G1->G2->Prop),Q (.bool (ltP p q)) s->R7 (S2 prog w) A (dL .Lt v u) Q E s
 | .int i,q,A,s,v,u,as,bs,rp,rq,c1,c2,al,hu,prog,w,Q,E,h=>by
  cases q with
  |int j=>
   cases rp;cases rq;exact(gG h:R7 (S2 prog w) A (B0 .Lt (.int i _) (.int j _)) Q E s)
  |none=>cases al
  |bool _=>cases al
  |str _=>cases al
  |list _=>cases al
  |tuple _=>cases al
  |dict _=>cases al
 | .tuple xs,q,A,s,v,u,as,bs,rp,rq,c1,c2,al,hu,prog,w,Q,E,h=>by
  cases q with
  |tuple ys=>
   cases rp with
   |tuple e1 k1 d1 r1=>
    cases rq with
    |tuple e2 k2 d2 r2=>
     have c1':C1 xs=true:=by simpa only [F6] using c1
     have c2':C1 ys=true:=by simpa only [F6] using c2
     have du:A.units+(F8 xs+1)<cLine:=by simpa only [K2] using hu
     exact Fc e1 k1 d1 e2 k2 d2 (λprog w=>lx_reads xs ys A.in1 s _ _ _ _ r1 r2 c1' c2' al (by show A.units+1+_<_;omega) prog w) (by omega) h
  |none=>cases al
  |bool _=>cases al
  |str _=>cases al
  |list _=>cases al
  |int _=>cases al
  |dict _=>cases al
 | .none,q,A,s,v,u,as,bs,rp,rq,c1,c2,al,hu,prog,w,Q,E,h=>by cases al
 | .bool _,q,A,s,v,u,as,bs,rp,rq,c1,c2,al,hu,prog,w,Q,E,h=>by cases al
 | .str _,q,A,s,v,u,as,bs,rp,rq,c1,c2,al,hu,prog,w,Q,E,h=>by cases al
 | .list xs,q,A,s,v,u,as,bs,rp,rq,c1,c2,al,hu,prog,w,Q,E,h=>by
  cases q with
  |list ys=>
   cases rp with
   |list e1 k1 d1 r1=>
    cases rq with
    |list e2 k2 d2 r2=>
     have c1':C1 xs=true:=by simpa only [F6] using c1
     have c2':C1 ys=true:=by simpa only [F6] using c2
     have du:A.units+(F8 xs+1)<cLine:=by simpa only [K2] using hu
     exact MZ e1 k1 d1 e2 k2 d2 (λprog w=>lx_reads xs ys A.in1 s _ _ _ _ r1 r2 c1' c2' al (by show A.units+1+_<_;omega) prog w) (by omega) h
  |none=>cases al
  |bool _=>cases al
  |str _=>cases al
  |tuple _=>cases al
  |int _=>cases al
  |dict _=>cases al
 | .dict _,q,A,s,v,u,as,bs,rp,rq,c1,c2,al,hu,prog,w,Q,E,h=>by cases al
theorem lx_reads: ∀ (xs ys:G0 A6) (A:N3) (s:G2) (vs us:G0 G1) (as bs:G0 P5),ReadsAll s.heap vs xs as->ReadsAll s.heap us ys bs->C1 xs=true->C1 ys=true->alks xs ys=true->A.units+F8 xs<cLine->
 ∀ (prog:S7) (w:N8),Lx prog w A s vs us (ltPs xs ys)
 | [],[],A,s,vs,us,as,bs,ra,rb,_,_,_,_,prog,w=>by
  cases ra;cases rb;exact .nn
 | [],y::ys,A,s,vs,us,as,bs,ra,rb,_,_,_,_,prog,w=>by
  cases ra;cases rb with
  |cons r rs=>exact .nc _ _
 |x::xs,[],A,s,vs,us,as,bs,ra,rb,_,_,_,_,prog,w=>by
  cases rb;cases ra with
  |cons r rs=>exact .cn _ _
 |x::xs,y::ys,A,s,vs,us,as,bs,ra,rb,c1,c2,al,hu,prog,w=>by
  cases ra with
  |cons r rs=>
   cases rb with
   |cons r' rs'=>
    have d1:x.canLay0=true/\C1 xs=true:=by simpa [C1] using c1
    have d2:y.canLay0=true/\C1 ys=true:=by simpa [C1] using c2
    have al':alk x y=true/\alks xs ys=true:=by simpa [alks] using al
    have dx:A.units+x.depth<cLine/\A.units+F8 xs<cLine:=by simp only [F8] at hu;omega
    have eq:=eqAt_reads x y A s _ _ _ _ r r' d1.1 d2.1 (by have:=qH x.depth y.depth;omega);unfold ltPs;cases e:F7 x y with
    |true=>
     rw [e] at eq;rw [D4 rfl];exact .same eq (lx_reads xs ys A s _ _ _ _ rs rs' d1.2 d2.2 al'.2 dx.2 prog w)
    |false=>
     rw [e] at eq;rw [D5 R0];exact .unlike eq λQ E q=>Qe x y A s _ _ _ _ r r' d1.1 d2.1 al'.1 dx.1 prog w Q E q
end
end HT
namespace L2
open PySem PySem.Spec PyProof.Rows PySem.SeqAt HT
theorem Qf {K:G5}{H:Hp}: ∀ {xs:G0 (D×A6)} {vs:G0 V} {us:G0 G1},RelDs K H (xs.map (·.1)) vs->Vals vs us-> ∃zs:G0 (G1×V×(D×A6)),us=zs.map (·.1)/\vs=zs.map (·.2.1)/\xs=zs.map (·.2.2)/\ ∀z∈zs,RelV z.2.1 z.1/\RelD K H z.2.2.1 z.2.1
 | [],vs,us,r,q=>by
  have e:vs= []:=r;subst e;cases q;exact⟨[],rfl,rfl,rfl,λz hz=>absurd hz A5⟩
 |x::xs,vs,us,r,q=>by
  obtain⟨v,vs',e,r1,r2⟩:=(show ∃v r,vs=v::r/\RelD K H x.1 v/\RelDs K H (xs.map (·.1)) r from r);subst e;cases q with
  |cons q1 q2=>
   obtain⟨zs,e1,e2,e3,g⟩:=Qf r2 q2;refine⟨(_,v,x)::zs,by rw [T7,<-e1],by rw [T7,<-e2],by rw [T7,<-e3],λz hz=> ?_⟩;rcases S5.mp hz with rfl|hz
   ·exact⟨q1,r1⟩
   ·exact g z hz
open Classical in
noncomputable def readOf (h:F4)(v:G1):A6:=if e: ∃p as,p.canLay0=true/\Reads h v p as then e.choose else .none
theorem DF {h:F4}{v:G1}{p:A6}{as:G0 P5}(c:p.canLay0=true)(r:Reads h v p as):readOf h v=p:=by
 have e: ∃p as,p.canLay0=true/\Reads h v p as:=⟨p,as,c,r⟩;unfold readOf;rw [xM e];obtain⟨as',c',r'⟩:=e.choose_spec;exact Reads.unique _ _ v _ _ c' r' r
theorem yE {lt:G1->G1->M7}{zs:G0 (G1×V×(D×A6))}{m:D×A6}(hlt: ∀z∈zs,∀y∈zs,lt z.1 y.1=ltP z.2.2.2 y.2.2.2)(low: ∀z∈zs,z.2.2=m\/(ltP m.2 z.2.2.2=true/\ltP z.2.2.2 m.2=false))(self:ltP m.2 m.2=false):
 ∀ (zr:G0 (G1×V×(D×A6))) (zb:G1×V×(D×A6)),(∀z∈zb::zr,z∈zs)->(∃z∈zb::zr,z.2.2=m)-> ∃z∈zs,vy lt zb.1 (zr.map (·.1))=z.1/\z.2.2=m
 | [],zb,sub,⟨z,hz,e⟩=>by
  rw [G9.mp hz] at e;exact⟨zb,sub zb P6,rfl,e⟩
 |z1::zr,zb,sub,hm=>by
  have mb:=sub zb P6;have m1:=sub z1 (R3 _ P6);have subr: ∀z∈zr,z∈zs:=λz hz=>sub z (R3 _ (R3 _ hz))
  have two: ∀y,y∈zs-> ∀z∈y::zr,z∈zs:=λy hy z hz=>by
   rcases S5.mp hz with rfl|hz
   ·exact hy
   ·exact subr z hz
  show ∃z∈zs,vy lt (if lt z1.1 zb.1=true then z1.1 else zb.1) (zr.map (·.1))=z.1/\_;rw [hlt z1 m1 zb mb]
  by_cases cb:zb.2.2=m
  ·have no:ltP z1.2.2.2 zb.2.2.2=false:=by
    rw [cb];rcases low z1 m1 with e|e
    ·rw [e];exact self
    ·exact e.2
   rw [D5 (by rw [no];exact R0)];exact yE hlt low self zr zb (two zb mb) ⟨zb,P6,cb⟩
  ·by_cases c1:z1.2.2=m
   ·have yes:ltP z1.2.2.2 zb.2.2.2=true:=by
     rw [c1];rcases low zb mb with e|e
     ·exact absurd e cb
     ·exact e.1
    rw [D4 yes];exact yE hlt low self zr z1 (two z1 m1) ⟨z1,P6,c1⟩
   ·have hr: ∃z∈zr,z.2.2=m:=by
     obtain⟨z,hz,e⟩:=hm;rcases S5.mp hz with rfl|hz
     ·exact absurd e cb
     ·rcases S5.mp hz with rfl|hz
      ·exact absurd e c1
      ·exact⟨z,hz,e⟩
    obtain⟨z,hz,e⟩:=hr
    by_cases c:ltP z1.2.2.2 zb.2.2.2=true
    ·rw [D4 c];exact yE hlt low self zr z1 (two z1 m1) ⟨z,R3 _ hz,e⟩
    ·rw [D5 c];exact yE hlt low self zr zb (two zb mb) ⟨z,R3 _ hz,e⟩
def TL:RDn:=λds h Q=> ∃ (a:P5) (xs:G0 (D×A6)) (m:D×A6),ds= [.lst a]/\h a=some (xs.map (·.1))/\(∀x∈xs,ToP h x.1 x.2/\x.2.canLay0=true/\x.2.depth<=60/\ ∀y∈xs,alk x.2 y.2=true)/\m∈xs/\(∀x∈xs,x=m\/(ltP m.2 x.2=true/\ltP x.2 m.2=false))/\ltP m.2 m.2=false/\Q m.1 h
theorem Fd {X:Cx}{k:G3}(hc:X.calm=true)(hr:Room k X.A):vi X (.builtin "min") TL:=by
 intro pins s σ H xs us Q I r h;obtain⟨ds,h,Qd,rd,rh,⟨a,xs,m,e,ha,g,hm,low,self,q⟩,post⟩:=h;subst e;obtain⟨v,e,r1⟩:=jw rd;obtain⟨vs,hH,r2⟩:=rh a _ ha;have e1:v= .ref a:=r1.1;subst e e1;obtain⟨u,rfl,ru⟩:=vK r;cases ru;obtain⟨its,rv,pl,hz⟩:=I.list (SqL.of hH);obtain⟨zs,rfl,rfl,rfl,gz⟩:=Qf r2 rv;have rz: ∀z∈zs,∃as,Reads s.heap z.1 z.2.2.2 as:=λz hz=>zo I rh (g _ (C8 hz)).1 (gz z hz).2 (gz z hz).1
 have pz: ∀z∈zs,readOf s.heap z.1=z.2.2.2:=λz hz=>by
  obtain⟨as,r⟩:=rz z hz;exact DF (g _ (C8 hz)).2.1 r
 obtain⟨z0,zr,ez⟩: ∃z0 zr,zs=z0::zr:=by
  cases zs with
  |nil=>cases hm
  |cons z0 zr=>exact⟨z0,zr,rfl⟩
 have hu:=hr.un;refine HT.MY (lt:=λv u=>ltP (readOf s.heap v) (readOf s.heap u)) (v0:=z0.1) (r:=zr.map (·.1)) (I.ok.hd hc) pl.isList (by rw [ez];rfl) (λv hv u hu' s' E Q' kp q'=> ?_) λh' tk kp=> ?_
 ·obtain⟨z,hz,rfl⟩:=R8.mp hv;obtain⟨y,hy,rfl⟩:=R8.mp hu';obtain⟨as,ra⟩:=rz z hz;obtain⟨bs,rb⟩:=rz y hy;have g1:=g _ (C8 hz);have g2:=g _ (C8 hy);dsimp only at q';rw [pz z hz,pz y hy] at q';exact Qe _ _ _ s' _ _ _ _ (PyProof.Rows.Reads.keeps kp ra) (PyProof.Rows.Reads.keeps kp rb) g1.2.1 g2.2.1 (g1.2.2.2 _ (C8 hy)) (by show X.A.units+1+_<_;have:=g1.2.2.1;omega) _ _ _ _ q'
 ·obtain⟨z,hz,el,em⟩:=yE (lt:=λv u=>ltP (readOf s.heap v) (readOf s.heap u)) (m:=m) (λz hz y hy=>by rw [pz z hz,pz y hy]) (λz hz=>low _ (C8 hz)) self zr z0 (λz hz=>by rw [ez];exact hz) (by
   obtain⟨z,hz,e⟩:=R8.mp hm;exact⟨z,by rw [<-ez];exact hz,e⟩)
  rw [el];exact⟨z.2.1,H,I.kept kp,(gz z hz).1,post m.1 _ _ _ (.refl H) rh (by rw [<-em];exact(gz z hz).2) q⟩
end L2
namespace L2
open PySem PySem.Spec PyProof.Rows PySem.SeqAt
def wf:G0 (G0 P4)->G0 (G0 P4)->M7
 | [],[]=>false
 | [],_::_=>true
 |_::_,[]=>false
 |a::A,b::B=>if a=b then wf A B else HT.jy a b
theorem DG: ∀A:G0 (G0 P4),wf A A=false
 | []=>rfl
 |a::A=>by show (if a=a then wf A A else _)=false;rw [D4 rfl];exact DG A
theorem Na {a b c:G0 P4}(x:HT.jy a b=true)(y:HT.jy b c=true):HT.jy a c=true:=by
 rcases HT.Wg a c b x with z|z
 ·exact z
 ·rw [HT.yW _ _ y] at z;cases z
theorem YH: ∀ {A B C:G0 (G0 P4)},wf A B=true->wf B C=true->wf A C=true
 | [],[],_,x,_=>by cases x
 | [],_::_,[],_,y=>by cases y
 | [],_::_,_::_,_,_=>rfl
 |_::_,[],_,x,_=>by cases x
 |_::_,_::_,[],_,y=>by cases y
 |a::A,b::B,c::C,x,y=>by
  change (if a=b then wf A B else HT.jy a b)=true at x
  change (if b=c then wf B C else HT.jy b c)=true at y
  show (if a=c then wf A C else HT.jy a c)=true
  by_cases e1:a=b
  ·subst e1;rw [D4 rfl] at x
   by_cases e2:a=c
   ·rw [D4 e2] at y ⊢;exact YH x y
   ·rw [D5 e2] at y ⊢;exact y
  ·rw [D5 e1] at x
   by_cases e2:b=c
   ·subst e2;rw [D5 e1];exact x
   ·rw [D5 e2] at y;have z:=Na x y;have ne:a≠c:=λw=>by subst w;rw [HT.yW _ _ x] at y;cases y
    rw [D5 ne];exact z
theorem Qg: ∀A B:G0 (G0 P4),A=B\/wf A B=true\/wf B A=true
 | [],[]=> .inl rfl
 | [],_::_=> .inr (.inl rfl)
 |_::_,[]=> .inr (.inr rfl)
 |a::A,b::B=>by
  show _\/(if a=b then wf A B else HT.jy a b)=true\/(if b=a then wf B A else HT.jy b a)=true
  by_cases e:a=b
  ·subst e;rw [D4 rfl,D4 rfl];rcases Qg A B with z|z|z
   ·exact .inl (by rw [z])
   ·exact .inr (.inl z)
   ·exact .inr (.inr z)
  ·rw [D5 e,D5 (K9 e)];cases x:HT.jy a b with
   |true=>exact .inr (.inl rfl)
   |false=>
    cases y:HT.jy b a with
    |true=>exact .inr (.inr rfl)
    |false=>exact absurd (HT.vx _ _ x y) e
theorem DH {A B:G0 (G0 P4)}(x:wf A B=true):wf B A=false:=by
 cases y:wf B A with
 |false=>rfl
 |true=>have:=YH x y;rw [DG] at this;cases this
theorem Qh: ∀ {xs:G0 (G0 (G0 P4))},xs≠ []-> ∃m∈xs,∀x∈xs,x=m\/wf m x=true
 | [],h=>absurd rfl h
 | [a],_=>⟨a,G9.mpr rfl,λx hx=> .inl (G9.mp hx)⟩
 |a::b::xs,_=>by
  obtain⟨m,hm,low⟩:=Qh (xs:=b::xs) (λq=>by cases q);rcases Qg a m with e|e|e
  ·subst e;exact⟨a,P6,λx hx=>(S5.mp hx).elim .inl λz=>low x z⟩
  ·refine⟨a,P6,λx hx=>(S5.mp hx).elim .inl λz=> ?_⟩;rcases low x z with q|q
   ·subst q;exact .inr e
   ·exact .inr (YH e q)
  ·refine⟨m,R3 _ hm,λx hx=>(S5.mp hx).elim (λz=> ?_) λz=>low x z⟩;subst z;exact .inr e
theorem Qi: ∀a b:G0 P4,HT.ltPs (a.map .int) (b.map .int)=HT.jy a b
 | [],[]=>rfl
 | [],_::_=>rfl
 |_::_,[]=>rfl
 |x::a,y::b=>by
  show (if (x==y)=true then HT.ltPs (a.map .int) (b.map .int) else decide (x<y))=if x=y then HT.jy a b else decide (x<y)
  rw [Qi a b]
  by_cases c:x=y
  ·rw [D4 c,D4 (by simpa using c)]
  ·rw [D5 c,D5 (by simpa using c)]
theorem Qj: ∀a b:G0 P4,HT.alks (a.map .int) (b.map .int)=true
 | [],_=>by unfold HT.alks;rfl
 |_::_,[]=>rfl
 |x::a,y::b=>by
  show (true&&HT.alks (a.map .int) (b.map .int))=true;rw [Qj a b];rfl
theorem VI: ∀A B:G0 (G0 P4),HT.ltPs (A.map yt) (B.map yt)=wf A B
 | [],[]=>rfl
 | [],_::_=>rfl
 |_::_,[]=>rfl
 |a::A,b::B=>by
  show (if F7 (yt a) (yt b)=true then HT.ltPs (A.map yt) (B.map yt) else HT.ltPs (a.map .int) (b.map .int))=if a=b then wf A B else HT.jy a b
  rw [Dc,VI A B,Qi]
  by_cases c:a=b
  ·rw [D4 (D9 c),D4 c]
  ·rw [D5 (by rw [T6 c];exact R0),D5 c]
theorem UT (A B:G0 (G0 P4)):HT.ltP (vW A) (vW B)=wf A B:=VI A B
theorem VJ: ∀A B:G0 (G0 P4),HT.alks (A.map yt) (B.map yt)=true
 | [],_=>by unfold HT.alks;rfl
 |_::_,[]=>rfl
 |a::A,b::B=>by
  show (HT.alks (a.map .int) (b.map .int)&&HT.alks (A.map yt) (B.map yt))=true;rw [Qj,VJ A B];rfl
theorem Fe (A B:G0 (G0 P4)):HT.alk (vW A) (vW B)=true:=VJ A B
def zV (n:G3):G3->G0 (G0 G3)
 |0=> [[]]
 |k+1=>(zV n k).flatMap λo=>((G6 n).filter λp=> !decide (p∈o)).map λp=>o++ [p]
variable {n:G3}
theorem DI: ∀ {k:G3} {o:G0 G3},o∈zV n k->o.length=k/\ ∀x∈o,x<n
 |0,o,h=>by rw [G9.mp h];exact⟨rfl,λx hx=>by cases hx⟩
 |k+1,o,h=>by
  obtain⟨p,hp,ho⟩:=fQ.mp h;obtain⟨x,hx,rfl⟩:=R8.mp ho;obtain⟨a,b⟩:=DI hp;refine⟨by rw [P0,a];rfl,λy hy=> ?_⟩;rcases R5.mp hy with z|z
  ·exact b y z
  ·rw [G9.mp z];exact D3.mp (J1.mp hx).1
theorem Qk: ∀n,n<6-> ∀k,k<6->(zV n k).length<=120:=by decide +kernel
theorem DJ: ∀n,n<6->((zV n n).all λo=>o.isPerm (G6 n))=true:=by decide +kernel
theorem VL (h5:n<=5){o:G0 G3}(h:o∈zV n n):Ordr n o:=List.isPerm_iff.mp (C3.mp (DJ n (by omega)) o h)
theorem VM {o:G0 G3}(d:o.Nodup)(lt: ∀x∈o,x<n): ∀k,k<=o.length->o.take k∈zV n k
 |0,_=>by rw [eU];exact G9.mpr rfl
 |k+1,h=>by
  have hk:k<o.length:=h;refine fQ.mpr ⟨o.take k,VM d lt k (by omega),R8.mpr ⟨o[k],J1.mpr ⟨D3.mpr (lt _ (C9 hk)),?_⟩,by rw [B8,G7 hk];rfl⟩⟩;rw [Bool.not_eq_true',i7];intro z;obtain⟨j,hj,e⟩:=List.mem_take_iff_getElem.mp z;have a:=d.idxOf_getElem j (by omega);have b:=d.idxOf_getElem k hk;rw [e,b] at a;omega
theorem VN {o:G0 G3}(h:Ordr n o):o∈zV n n:=by
 have:=VM h.nodup (λx hx=>D3.mp (h.mem_iff.mp hx)) n (by rw [h.ord.len];exact P2 _)
 rwa [T8 (by rw [h.ord.len];exact P2 _)] at this
def Orb (n:G3)(M x:G0 (G0 P4)):Prop:= ∃o,Ordr n o/\x=Zt n o M
theorem DK {o:G0 G3}(h:Ordr n o){i:G3}(hi:i<n):(vo n o).idxOf i=o.getD i 0:=by
 have lt:(vo n o).idxOf i<n:=h.back.ord.lt hi;have e:=vY h hi;have a:o.idxOf ((vo n o).idxOf i)<o.length:=by rw [e,h.ord.len];exact hi
 have b:=Z9 a;rw [S1,G7 (by rw [h.ord.len];exact hi)];show _=o[i]'(by rw [h.ord.len];exact hi);have c:o[o.idxOf ((vo n o).idxOf i)]=o[i]'(by rw [h.ord.len];exact hi):=by congr 1
 rw [<-c];exact b.symm
variable {e:G3}{M x:G0 (G0 P4)}
theorem VO {y:G0 (G0 P4)}(h:Sq n e M)(a:Orb n M x)(b:Orb n x y):Orb n M y:=by
 obtain⟨o,ho,rfl⟩:=a;obtain⟨p,hp,rfl⟩:=b;have hc:Ordr n ((G6 n).map λi=>o.idxOf (p.idxOf i)):=by
  have e1:((G6 n).map λi=>o.idxOf (p.idxOf i))=(vo n p).map λm=>o.idxOf m:=by unfold vo;rw [S8];rfl
  rw [e1];exact(hp.back.map _).trans ho.back
 refine⟨_,hc.back,((h.ren ho.ord).ren hp.ord).ext (h.ren hc.back.ord) λi j hi hj=> ?_⟩;have g: ∀k,k<n->((G6 n).map λi=>o.idxOf (p.idxOf i)).getD k 0=o.idxOf (p.idxOf k):=λk hk=>by
  rw [S1,D2,O9 hk];rfl
 rw [wu hi hj,wu (hp.ord.lt hi) (hp.ord.lt hj),wu hi hj,DK hc hi,DK hc hj,g i hi,g j hj]
theorem Nb (h:Sq n e M)(a:Orb n M x):Orb n x M:=by
 obtain⟨o,ho,rfl⟩:=a;exact⟨_,ho.back,(Mz h ho).symm⟩
theorem DL (h:Sq n e M)(a:Orb n M x):Sq n e x:=by
 obtain⟨o,ho,rfl⟩:=a;exact h.ren ho.ord
def Lst (n:G3)(M m:G0 (G0 P4)):Prop:=Orb n M m/\ ∀x,Orb n M x->x=m\/wf m x=true
variable {m:G0 (G0 P4)}
theorem Lst.only {k:G0 (G0 P4)}(a:Lst n M m)(b:Lst n M k):m=k:=by
 rcases a.2 k b.1 with e|e
 ·exact e.symm
 ·rcases b.2 m a.1 with e'|e'
  ·exact e'
  ·rw [DH e] at e';cases e'
theorem Lst.on (h:Sq n e M)(o:Orb n M x)(a:Lst n M m):Lst n x m:=
 ⟨VO (DL h o) (Nb h o) a.1,λy hy=>a.2 y (VO h o hy)⟩
theorem Bb {e:G3}(h5:n<=5)(hm:m∈(zV n n).map λo=>Zt n o M)(low: ∀x∈(zV n n).map λo=>Zt n o M,x=m\/wf m x=true):Lst n M m:=by
 obtain⟨o,ho,rfl⟩:=R8.mp hm;exact⟨⟨o,VL h5 ho,rfl⟩,λx ⟨p,hp,e⟩=>low x (R8.mpr ⟨p,VN hp,e.symm⟩)⟩
section
variable {α β:Type}{i i':G3}{js:G0 G3}{ti ti':TID}{te:TED}{σ:SD}{h:HD}{Q:KD}{j:ItD}
theorem HW {tt:TTD}(xs:G0 α)(c:α->D)(ys:α->G0 β)(c':β->D)(ok:α->β->M7)(g:α->β->D)(hz:(xs.flatMap ys).length<=1000)(hj:j h=some (xs.map c))(ht: ∀R:ItD->HD->Prop,R j h->ti σ h R)
 (hin: ∀x∈xs,∀R:ItD->HD->Prop,R (λ_=>some ((ys x).map c')) h->ti' ((jK js σ).set i (some (c x))) h R)
 (hp: ∀x∈xs,∀y∈ys x,∀Q':M7->HD->Prop,Q' (ok x y) h->tt (((jK js σ).set i (some (c x))).set i' (some (c' y))) h Q')
 (he: ∀x∈xs,∀y∈ys x,∀Q':KD,Q' (g x y) h->te (((jK js σ).set i (some (c x))).set i' (some (c' y))) h Q')(hq: ∀p,h p=none->Q (.lst p) (zZ h p (xs.flatMap λx=>((ys x).filter (ok x)).map (g x)))):Mk (bN i) js ti vd i' ti' tt te σ h Q:=by
 have fl: ∀x k,(((ys x).take k).filter (ok x)).length<=(ys x).length:=λx k=>S4 (fI _ _) (by rw [T3];exact Y7 _ _)
 have len: ∀l:G0 α,(l.flatMap λx=>((ys x).filter (ok x)).map (g x)).length<=(l.flatMap ys).length:=λl=>by
  induction l with
  |nil=>exact P2 _
  |cons x l ih=>
   rw [K1,K1,P0,P0,G8];have:=fI (ok x) (ys x);omega
 have lek: ∀k,((xs.take k).flatMap ys).length<=(xs.flatMap ys).length:=λk=>by
  conv=>rhs;rw [<-M1 k xs,J5,P0]
  omega
 have lek1: ∀k x,xs[k]? =some x->((xs.take k).flatMap ys).length+(ys x).length<=(xs.flatMap ys).length:=λk x hx=>by
  have:=lek (k+1);rw [B8,hx,J5,P0] at this;simpa using this
 refine ht _ ⟨xs.length,λk zs h'=>h'=h/\zs=(xs.take k).flatMap λx=>((ys x).filter (ok x)).map (g x),⟨rfl,by simp⟩,?_⟩;rintro k zs h' ⟨rfl,rfl⟩;refine⟨R9 (jF (S4 (len _) (S4 (lek k) hz))),xs.map c,hj,by simp,λhl p hp=> ?_,λd hd=>⟨_,rfl,?_⟩⟩
 ·rw [T8 (by simpa using hl)];exact hq p hp
 ·unfold vd;dsimp only;rw [D4 rfl];rw [D2] at hd;cases hx:xs[k]? with
  |none=>rw [hx] at hd;cases hd
  |some x=>
   rw [hx] at hd;cases hd;have xm:=D0 hx;have r1:=lek1 k x hx;refine hin x xm _ ⟨(ys x).length,λm zs h2=>h2=h'/\zs=((xs.take k).flatMap λx=>((ys x).filter (ok x)).map (g x))++(((ys x).take m).filter (ok x)).map (g x),⟨rfl,by simp⟩,?_⟩;rintro m zs h2 ⟨rfl,rfl⟩;refine⟨?_,(ys x).map c',rfl,by simp,λhl=>⟨h2,Sub.refl _,rfl,?_⟩,λd hd=> ?_⟩
   ·rw [P0,G8];have a:=len (xs.take k);have b:=fl x m;exact R9 (jF (by omega))
   ·have hm:(ys x).take m=ys x:=T8 (by simpa using hl);rw [hm,B8,hx,J5];simp
   ·rw [D2] at hd;cases hy:(ys x)[m]? with
    |none=>rw [hy] at hd;cases hd
    |some y=>
     rw [hy] at hd;cases hd;have ym:=D0 hy;refine hp x xm y ym _ ?_;cases e:ok x y with
     |true=>
      refine QK (he x xm y ym _ ⟨h2,Sub.refl _,rfl,?_⟩);rw [B8,hy];simp [e]
     |false=>
      refine Wt ⟨h2,Sub.refl _,rfl,?_⟩;rw [B8,hy];simp [e]
end
theorem Nc {xs:G0 (G0 (G0 P4))}{A:P5}{h:HD}(hm:m∈xs)(low: ∀x∈xs,x=m\/wf m x=true)(kA:h A=some (xs.map jC)): ∃ys:G0 (D×A6),h A=some (ys.map (·.1))/\(∀x∈ys,ToP h x.1 x.2/\x.2.canLay0=true/\x.2.depth<=60/\ ∀y∈ys,HT.alk x.2 y.2=true)/\(jC m,vW m)∈ys/\(∀x∈ys,x=(jC m,vW m)\/(HT.ltP (vW m) x.2=true/\HT.ltP x.2 (vW m)=false))/\HT.ltP (vW m) (vW m)=false:=by
 refine⟨xs.map (λU=>(jC U,vW U)),by rw [kA,S8];rfl,?_,R8.mpr ⟨_,hm,rfl⟩,?_,by rw [UT];exact DG m⟩
 ·intro x hx;obtain⟨U,hU,rfl⟩:=R8.mp hx;refine⟨JC _ U,?_,?_,λy hy=> ?_⟩
  ·show F6 (.tuple (U.map yt))=true;simp only [F6];exact wt U
  ·show K2 (.tuple (U.map yt))<=60;have:=wV U;simp only [K2];omega
  ·obtain⟨W,hW,rfl⟩:=R8.mp hy;exact Fe U W
 ·intro x hx;obtain⟨U,hU,rfl⟩:=R8.mp hx;rcases low U hU with e|e
  ·exact .inl (by rw [e])
  ·exact .inr ⟨by rw [UT];exact e,by rw [UT];exact DH e⟩
theorem DM:zV n n≠ []:=λz=>by
 have:=VN (n:=n) (z9 (G6 n));rw [z] at this;cases this
def SB:RDn:=λds h Q=>(∃i j:P4,ds= [.int i,.int j]/\Q (.int (if j<i then j else i)) h)\/TL ds h Q
theorem DN {X:Cx}{k:G3}(hc:X.calm=true)(hr:Room k X.A):vi X (.builtin "min") SB:=by
 intro pins s σ H xs us Q I r h;obtain⟨ds,h,Qd,rd,rh,z,post⟩:=h;rcases z with ⟨i,j,rfl,z⟩|z
 ·refine GW hc pins s σ H xs us Q I r ⟨i,j,?_,post (.int (if j<i then j else i)) _ _ _ (.refl H) rh rfl z⟩;obtain⟨v,vr,e,r1,r2⟩:=(show ∃v r,xs=v::r/\RelD X.K H (.int i) v/\RelDs X.K H [.int j] r from rd);obtain⟨w,e2,r3⟩:=jw r2;rw [e,e2,show v= .int i from r1,show w= .int j from r3]
 ·exact Fd hc hr pins s σ H xs us Q I r ⟨ds,h,Qd,rd,rh,z,post⟩
section
variable {α:Type}{i:G3}{js:G0 G3}{ti:TID}{te:TED}{σ:SD}{h:HD}{Q:KD}
theorem Av (xs:G0 α)(c g:α->D)(P:P5->HD->Prop)(hz:xs.length<=1000)(ht: ∀R:ItD->HD->Prop,(∀A h1,P A h1->R (λh=>h A) h1)->ti σ h R)(hP: ∀A h1,P A h1->h1 A=some (xs.map c))(he: ∀A h1,P A h1-> ∀x∈xs,∀Q':KD,Q' (g x) h1->te ((jK js σ).set i (some (c x))) h1 Q')(hq: ∀A h1,P A h1-> ∀p,h1 p=none->Q (.lst p) (zZ h1 p (xs.map g))):WP (bN i) js ti vd te σ h Q:=
 ht _ λA h1 hp=>(lcA (ti:=λ_ h R=>R (λh=>h A) h) (j:=λh=>h A) xs c g hz (hP A h1 hp) (λR r=>r) (he A h1 hp) (hq A h1 hp):WP (bN i) js (λ_ h R=>R (λh=>h A) h) vd te σ h1 Q)
theorem Ff {h1:HD}{j:ItD}(ds:G0 D)(W:G3->G0 D->HD->Prop)(hn:ds.length<=1000)(ht: ∀R:ItD->HD->Prop,R j h1->ti σ h R)(hj: ∀k ys h',W k ys h'->j h'=some ds)
 (w0:W 0 [] h1)(wl: ∀k ys h',W k ys h'->ys.length<=k)(turn: ∀k d ys h',ds[k]? =some d->W k ys h'->te ((jK js σ).set i (some d)) h' λy h4=> ∃h5,Sub h5 h4/\(k+1<=ds.length/\W (k+1) (ys++ [y]) h5))
 (done: ∀ys h',W ds.length ys h'-> ∀p,h' p=none->Q (.lst p) (zZ h' p ys)):WP (bN i) js ti vd te σ h Q:=by
 refine ht _ ⟨ds.length,λk ys h'=>k<=ds.length/\W k ys h',⟨M6 _,w0⟩,?_⟩;rintro k ys h' ⟨hk,w⟩;refine⟨S4 (wl k ys h' w) (R9 (jF (by omega))),ds,hj k ys h' w,P2 _,λhl p hp=> ?_,λd hd=>⟨_,rfl,?_⟩⟩
 ·have:k=ds.length:=by omega
  subst this;exact done ys h' w p hp
 ·unfold vd;dsimp only;rw [D4 rfl];exact turn k d ys h' hd w
end
end L2
namespace L2
open PySem PySem.Spec PyProof.Rows
def s5:G3->G3
 |0=>0
 |d+1=>5*s5 d+1
theorem DO: ∀d,4*s5 d+1=5^d
 |0=>rfl
 |d+1=>by have:=DO d;rw [I0];show 4*(5*s5 d+1)+1=_;omega
theorem Bc (a:G3): ∀b,s5 (a+b)=5^b*s5 a+s5 b
 |0=>by show s5 a=1*s5 a+0;omega
 |b+1=>by
  show 5*s5 (a+b)+1=5^(b+1)*s5 a+(5*s5 b+1);rw [Bc a b,I0,dS,Y2 (5^b) 5,nF];omega
theorem Bd: ∀d,s5 d%2=d%2
 |0=>rfl
 |d+1=>by have:=Bd d;show (5*s5 d+1)%2=_;omega
theorem Aw (m:G3):s5 (2*m)=2*(s5 m*(2*s5 m+1)):=by
 rw [Nat.two_mul,Bc,<-DO m];have:(4*s5 m+1)*s5 m+s5 m=2*(s5 m*(2*s5 m+1)):=by
  rw [pT,dS,dS];have e1:4*s5 m*s5 m=4*(s5 m*s5 m):=nF ..;have e2:s5 m*(2*s5 m)=2*(s5 m*s5 m):=by rw [Nat.mul_left_comm]
  rw [e1,e2];omega
 exact this
theorem Be (k x:G3):Nat.Coprime (2^k) (2*x+1):=by
 refine Nat.Coprime.pow_left k ?_;show qN 2 (2*x+1)=1;rw [Nat.gcd_rec,show (2*x+1)%2=1 by omega];rfl
theorem Bf: ∀ (k d:G3),2^k∣s5 d->2^k∣d
 |0,d,_=>by rw [e9];exact Nat.one_dvd _
 |k+1,d,h=>by
  have ev:d%2=0:=by
   rw [<-Bd d];exact kZ (Nat.dvd_trans ⟨2^k,by rw [I0,Y2]⟩ h)
  obtain⟨m,rfl⟩: ∃m,d=2*m:=⟨d / 2,by omega⟩;rw [Aw,I0,Y2] at h;have h1:2^k∣s5 m*(2*s5 m+1):=Nat.dvd_of_mul_dvd_mul_left (by decide) h;have h2:=Bf k m ((Be k (s5 m)).dvd_of_dvd_mul_right h1);rw [I0,Y2];exact Nat.mul_dvd_mul_left 2 h2
def f5 (N:G3):G3->G3->G3
 |0,a=>a
 |d+1,a=>(f5 N d a*5+1)%N
variable {N:G3}
theorem Ax (a:G3): ∀d,f5 N d a%N=(5^d*a+s5 d)%N
 |0=>by show a%N=(1*a+0)%N;rw [Nat.one_mul,W4]
 |d+1=>by
  show (f5 N d a*5+1)%N%N=(5^(d+1)*a+(5*s5 d+1))%N;rw [uL,mQ,uM,Ax a d,<-uM,<-mQ,pT,I0]
  congr 1
  have:5^d*a*5=5^d*5*a:=by rw [Nat.mul_right_comm]
  omega
theorem Ay (hN:0<N){a:G3}(ha:a<N): ∀d,f5 N d a<N
 |0=>ha
 |d+1=>X7 _ hN
theorem Bg (a:G3)(b:G3): ∀d,f5 N (b+d) a=f5 N d (f5 N b a)
 |0=>rfl
 |d+1=>by show (f5 N (b+d) a*5+1)%N=_;rw [Bg a b d];rfl
variable {k:G3}
theorem Nd {a d:G3}(ha:a<2^k)(d0:0<d)(hd:d<2^k):f5 (2^k) d a≠a:=λe=>by
 have e1:=Ax (N:=2^k) a d;rw [e] at e1;have le:a<=5^d*a+s5 d:=S4 (eM a (pU (by decide))) (Z0 _ _);have dv:2^k∣5^d*a+s5 d-a:=eL (Nat.sub_mod_eq_zero_of_mod_eq e1.symm);have e2:5^d*a+s5 d-a=s5 d*(2*(2*a)+1):=by
  rw [<-DO d,pT,dS];have:4*s5 d*a=s5 d*(2*(2*a)):=by
   rw [Y2 4,nF];congr 1;omega
  omega
 rw [e2] at dv;have:=sE d0 (Bf k d ((Be k (2*a)).dvd_of_dvd_mul_right dv));omega
theorem Fg {a:G3}(hN:N=2^k)(ha:a<N): ∀ {i j:G3},i<j->j<N->f5 N i a≠f5 N j a:=λ{i j} ij jN e=>by
 subst hN;have:=Bg (N:=2^k) a i (j-i);rw [J6 (R9 ij)] at this;exact Nd (Ay (pU (by decide)) ha i) (by omega) (by omega) ((this.symm.trans e.symm))
theorem Fh: ∀ {xs:G0 G3},xs.Nodup->(∀x∈xs,x<N)->N<=xs.length-> ∀e,e<N->e∈xs:=λ{xs} nd lt le e he=>by
 have p:(G6 N).length<=(xs.filter λx=>decide (x<N)).length:=by
  rw [R6,List.filter_eq_self.mpr λx hx=>D9 (lt x hx)];exact le
 refine F9 λno=> ?_
 have key: ∀ (ys zs:G0 G3),ys.Nodup->(∀y∈ys,y∈zs)->ys.length<=zs.length:=by
  intro ys
  induction ys with
  |nil=>intro zs _ _;exact M6 _
  |cons y ys ih=>
   intro zs d s;obtain⟨d1,d2⟩:=L9.mp d;have hy:=s y P6;have:=ih (zs.erase y) d2 λx hx=>(cB (show x≠y from λq=>d1 (by rw [<-q];exact hx))).mpr (s x (R3 _ hx))
   rw [aX hy] at this;have:0<zs.length:=bJ hy;rw [D8];omega
 have:=key (e::xs) (G6 N) (L9.mpr ⟨no,nd⟩) λy hy=>by
  rcases S5.mp hy with q|q
  ·rw [q];exact D3.mpr he
  ·exact D3.mpr (lt y q)
 rw [D8,R6] at this;omega
theorem Bh {a e:G3}(hN:N=2^k)(ha:a<N)(he:e<N): ∃m,m<N/\f5 N m a=e:=by
 have nd:((G6 N).map λm=>f5 N m a).Nodup:=by
  rw [g7,O4];refine C5.mpr λi j hi hj ij=> ?_
  rw [E8,E8];rw [R6] at hj;exact Fg hN ha ij hj
 have:=Fh nd (λx hx=>by
  obtain⟨m,_,rfl⟩:=R8.mp hx;exact Ay (by rw [hN];exact pU (by decide)) ha m) (by rw [G8,R6];exact P2 _) e he
 obtain⟨m,hm,e⟩:=R8.mp this;exact⟨m,D3.mp hm,e⟩
def zn (t:M8):G3->Q4->Q4
 |0,p=>p
 |n+1,p=>zn t n (t.advance p)
theorem Jh (t:M8): ∀ (a b:G3) (p:Q4),zn t (a+b) p=zn t b (zn t a p)
 |0,b,p=>by rw [Q8];rfl
 |a+1,b,p=>by rw [nV];exact Jh t a b _
def UU (t:M8)(i q:G3)(d:P7 G3):Q4:= {j:=i,more:=O3 t.mask i-i,i:=i,perturb:=q,dummy:=d}
theorem vz (t:M8): ∀ (m:G3) (p:Q4),p.more=m->zn t (m+1) p=UU t ((p.i*5+1+p.perturb / 32)%(t.mask+1)) (p.perturb / 32) p.dummy
 |0,p,e=>by
  show t.advance p=_;unfold Z6;rw [D5 (by omega)];rfl
 |m+1,p,e=>by
  have a:t.advance p= {p with j:=p.j+1,more:=p.more-1}:=by unfold Z6;rw [D4 (by omega)]
  show zn t (m+1) (t.advance p)=_;rw [a,vz t m _ (by show p.more-1=m;omega)]
theorem DP (mask i:G3):O3 mask i-i<=9:=by unfold O3;split<;>omega
def Vc (N:G3)(b:G3):G3->G3
 |0=>b%N
 |L+1=>(Vc N b L*5+1+b / 32^(L+1))%N
theorem DQ (t:M8)(h:P4): ∀L,∃n,n<=10*L/\zn t n (t.probeStart h)=UU t (Vc (t.mask+1) (S3 h) L) (S3 h / 32^L) none
 |0=>⟨0,P2 _,by rw [e9,mR];rfl⟩
 |L+1=>by
  obtain⟨n,hn,e⟩:=DQ t h L;have s:=DP t.mask (Vc (t.mask+1) (S3 h) L);refine⟨n+(O3 t.mask (Vc (t.mask+1) (S3 h) L)-Vc (t.mask+1) (S3 h) L+1),by omega,?_⟩;rw [Jh,e];refine(vz t _ (UU t _ _ none) rfl).trans ?_;show UU t ((Vc (t.mask+1) (S3 h) L*5+1+S3 h / 32^L / 32)%(t.mask+1)) (S3 h / 32^L / 32) none=_;rw [bL,<-I0];rfl
theorem Fi (h:P4):S3 h<2^64:=by unfold S3;omega
theorem YI (h:P4): ∀m,Vc N (S3 h) (13+m)=f5 N m (Vc N (S3 h) 13)
 |0=>rfl
 |m+1=>by
  show (Vc N (S3 h) (13+m)*5+1+S3 h / 32^(13+m+1))%N=(f5 N m (Vc N (S3 h) 13)*5+1)%N;rw [YI h m,Nat.div_eq_of_lt (N0 (Fi h) ?_),W4];exact S4 (show 2^64<=32^13 by decide) (aP (by decide) (by omega))
variable {t:M8}
theorem Nf (hN:t.mask+1=2^k)(h:P4){e:G3}(he:e<=t.mask): ∃n,n<10*O7 t.mask/\(zn t n (t.probeStart h)).j=e:=by
 obtain⟨m,hm,em⟩:=Bh hN (a:=Vc (t.mask+1) (S3 h) 13) (X7 _ (cN _)) (show e<t.mask+1 by omega);obtain⟨n,hn,en⟩:=DQ t h (13+m);refine⟨n,by unfold O7;omega,?_⟩;rw [en,<-em,<-YI h m];rfl
theorem DR {P:G3->Prop}: ∀n,P n-> ∃m,m<=n/\P m/\ ∀k,k<m-> ¬P k:=λn=>by
 induction n using G3.strongRecOn with
 |ind n ih=>
  intro h;rcases IE (∃k,k<n/\P k) with ⟨k,lt,pk⟩|no
  ·obtain⟨m,a,b,c⟩:=ih k lt pk;exact⟨m,by omega,b,c⟩
  ·exact⟨n,P2 _,h,λk lt pk=>no ⟨k,lt,pk⟩⟩
variable {h:P4}
theorem Bi {f:G3->P4}(d:t.dummies= #[]): ∀ (n fuel:G3) (p:Q4),n<fuel->t.slot (zn t n p).j= .empty->(∀k,k<n->t.slot (zn t k p).j≠ .empty)->p.dummy=none->
 (V0 t f h fuel p=some (.empty (zn t n p).j none)/\ ∀k,k<n-> ∀i,t.slot (zn t k p).j= .live i->f i≠h)\/
 (∃k i,k<n/\t.slot (zn t k p).j= .live i/\f i=h/\(∀k',k'<k-> ∀i',t.slot (zn t k' p).j= .live i'->f i'≠h)/\V0 t f h fuel p=some (.candidate (zn t k p).j i (zn t (k+1) p)))
 |_,0,_,lt,_,_,_=>absurd lt (V4 _)
 |0,fuel+1,p,_,he,_,hd=>by
  refine .inl ⟨?_,λk hk=>absurd hk (V4 _)⟩;have he:t.slot p.j= .empty:=he;unfold V0;rw [he,hd];rfl
 |n+1,fuel+1,p,lt,he,ne,hd=>by
  have h0:t.slot p.j≠ .empty:=ne 0 (cN _);cases hs:t.slot p.j with
  |empty=>exact absurd hs h0
  |dummy=>exact absurd hs (HT.WV d)
  |live i=>
   by_cases e:f i=h
   ·refine .inr ⟨0,i,cN _,hs,e,λk' hk=>absurd hk (V4 _),?_⟩;unfold V0;rw [hs];show (if (f i==h)=true then _ else _)=_;rw [D4 (by rw [e];exact Z4 h)];rfl
   ·have ad:(t.advance p).dummy=none:=by unfold Z6;split<;>exact hd
    have step:V0 t f h (fuel+1) p=V0 t f h fuel (t.advance p):=by
     conv=>lhs;unfold V0
     rw [hs];show (if (f i==h)=true then _ else _)=_;rw [D5 (by simpa using e)]
    rcases Bi d n fuel (t.advance p) (by omega) he (λk hk=>ne (k+1) (by omega)) ad with ⟨a,b⟩|⟨k,i',hk,a,b,c,g⟩
    ·refine .inl ⟨by rw [step];exact a,λk hk i2 hi=> ?_⟩;cases k with
     |zero=>rw [show t.slot (zn t 0 p).j= .live i from hs] at hi;cases hi;exact e
     |succ k=>exact b k (by omega) i2 hi
    ·refine .inr ⟨k+1,i',by omega,a,b,λk' hk' i2 hi=> ?_,by rw [step];exact g⟩;cases k' with
     |zero=>rw [show t.slot (zn t 0 p).j= .live i from hs] at hi;cases hi;exact e
     |succ k'=>exact c k' (by omega) i2 hi
theorem UV (hN:t.mask+1=2^k)(h:P4){e:G3}(he:e<=t.mask)(em:t.slot e= .empty): ∃n,n<10*O7 t.mask/\t.slot (zn t n (t.probeStart h)).j= .empty/\ ∀m,m<n->t.slot (zn t m (t.probeStart h)).j≠ .empty:=by
 obtain⟨n,hn,ej⟩:=Nf hN h he;obtain⟨m,a,b,c⟩:=DR (P:=λn=>t.slot (zn t n (t.probeStart h)).j= .empty) n (by rw [ej];exact em);exact⟨m,by omega,b,c⟩
theorem DS (r:t.place.toList.Pairwise (· < ·)){i j:G3}(h:t.place[i]? =some j):t.slot j= .live i:=by
 obtain⟨lo,hi,_⟩:=HT.Ja r j;have e:T4 t.place j=i:=by
  rcases b6 (T4 t.place j) i with z|z|z
  ·obtain⟨hlt,ev⟩:=A7.mp h;have hb:T4 t.place j<t.place.size:=by omega
   have a:=hi (T4 t.place j) (P2 _) t.place[T4 t.place j] (V6 hb);have b:=C5.mp r (T4 t.place j) i (by simpa using hb) (by simpa using hlt) z;simp only [cC] at b;omega
  ·exact z
  ·exact absurd (lo i z j h) (C4 _)
 unfold iQ;dsimp only;rw [e,h,D4 (Z4 _)]
theorem DT {i j:G3}(h:t.slot j= .live i):t.place[i]? =some j:=by
 unfold iQ at h;dsimp only at h;split at h
 ·rename_i c;injection h with h
  subst h;exact eq_of_beq c
 ·split at h<;>cases h
theorem Ji (d:t.dummies= #[])(r:t.place.toList.Pairwise (· < ·)){j:G3}:t.slot j= .empty↔ ∀i:G3,t.place[i]? ≠some j:=by
 constructor
 ·intro h i e;rw [DS r e] at h;cases h
 ·intro h;cases e:t.slot j with
  |empty=>rfl
  |dummy=>exact absurd e (HT.WV d)
  |live i=>exact absurd (DT e) (h i)
variable {u:M8}
theorem Ng (e:t.mask=u.mask)(p:Q4):t.advance p=u.advance p:=by
 unfold Z6;rw [e]
theorem yF (e:t.mask=u.mask): ∀ (n:G3) (p:Q4),zn t n p=zn u n p
 |0,_=>rfl
 |n+1,p=>by show zn t n (t.advance p)=zn u n (u.advance p);rw [Ng e,yF e n]
theorem yX (e:t.mask=u.mask)(h:P4):t.probeStart h=u.probeStart h:=by
 unfold uR;rw [e]
def Way (t:M8)(h:P4)(j:G3):Prop:= ∃n,(zn t n (t.probeStart h)).j=j/\ ∀m,m<n->t.slot (zn t m (t.probeStart h)).j≠ .empty
theorem Way.more (e:t.mask=u.mask)(f: ∀j,u.slot j= .empty->t.slot j= .empty){h:P4}{j:G3}(w:Way t h j):Way u h j:=by
 obtain⟨n,a,b⟩:=w;refine⟨n,by rw [<-yX e,<-yF e];exact a,λm hm z=>b m hm ?_⟩;rw [<-yX e,<-yF e] at z;exact f _ z
theorem Bj {α:Type}(xs:G0 α)(x:α){p:G3}(hp:p<=xs.length)(i:G3):(xs.take p++x::xs.drop p)[i]? =if i<p then xs[i]? else if i=p then some x else xs[i-1]? :=by
 have tl:(xs.take p).length=p:=by rw [T3];omega
 by_cases a:i<p
 ·rw [D4 a,N2 (by omega),nQ,D4 a]
 ·rw [D5 a,S0 (by omega),tl]
  by_cases b:i=p
  ·rw [D4 b,b,gK];rfl
  ·rw [D5 b,show i-p=(i-p-1)+1 by omega,a9,U0]
   congr 1;omega
structure Laid (t:M8)(hs:G0 P4):Prop where
 pow: ∃k,t.mask+1=2^k
 big:7<=t.mask
 dum:t.dummies= #[]
 rise:t.place.toList.Pairwise (· < ·)
 size:t.place.size=hs.length
 room:hs.length<=t.mask
 low: ∀ (i j:G3),t.place[i]? =some j->j<=t.mask
 way: ∀ (i:G3) (h:P4) (j:G3),hs[i]? =some h->t.place[i]? =some j->Way t h j
variable {hs:G0 P4}
theorem Laid.free (l:Laid t hs): ∃e,e<=t.mask/\t.slot e= .empty:=by
 refine F9 λno=> ?_
 have nd:t.place.toList.Nodup:=l.rise.imp λ{a b} z=>T2 z
 have all: ∀e,e<t.mask+1->e∈t.place.toList:=λe he=>by
  refine F9 λz=>no ⟨e,by omega,(Ji l.dum l.rise).mpr λi q=>z ?_⟩
  exact lU.mpr (Array.mem_of_getElem? q)
 have key: ∀ (ys zs:G0 G3),ys.Nodup->(∀y∈ys,y∈zs)->ys.length<=zs.length:=by
  intro ys
  induction ys with
  |nil=>intro zs _ _;exact M6 _
  |cons y ys ih=>
   intro zs d s;obtain⟨d1,d2⟩:=L9.mp d;have hy:=s y P6;have:=ih (zs.erase y) d2 λx hx=>(cB (show x≠y from λq=>d1 (by rw [<-q];exact hx))).mpr (s x (R3 _ hx))
   rw [aX hy] at this;have:0<zs.length:=bJ hy;rw [D8];omega
 have:=key (G6 (t.mask+1)) t.place.toList fO λy hy=>all y (D3.mp hy)
 rw [R6,P9,l.size] at this;have:=l.room;omega
theorem Laid.search (l:Laid t hs)(h:P4): ∃n,n<10*O7 t.mask/\t.slot (zn t n (t.probeStart h)).j= .empty/\(∀m,m<n->t.slot (zn t m (t.probeStart h)).j≠ .empty)/\ ∀i:G3,hs[i]? =some h-> ∃m,m<n/\t.slot (zn t m (t.probeStart h)).j= .live i:=by
 obtain⟨k,hk⟩:=l.pow;obtain⟨e,he,em⟩:=l.free;obtain⟨n,a,b,c⟩:=UV hk h he em;refine⟨n,a,b,c,λi hi=> ?_⟩;obtain⟨j,hj⟩: ∃j,t.place[i]? =some j:=⟨t.place[i]'(by rw [l.size];exact(D6.mp hi).1),V6 _⟩;obtain⟨m,x,y⟩:=l.way i h j hi hj;have lv:t.slot (zn t m (t.probeStart h)).j= .live i:=by rw [x];exact DS l.rise hj
 refine⟨m,?_,lv⟩;rcases b6 m n with z|z|z
 ·exact z
 ·rw [z,b] at lv;cases lv
 ·exact absurd b (y n z)
theorem DU (t:M8)(j:G3):(t.put j).1.place.toList=t.place.toList.take (T4 t.place j)++j::t.place.toList.drop (T4 t.place j):=dB ..
theorem DV (d:t.dummies= #[])(j:G3):(t.put j).1.dummies= #[]:=by
 show (if kY t.dummies j then _ else t.dummies)= #[];rw [d,D5 (by simp [kY])]
theorem Laid.put (l:Laid t hs){h:P4}{j:G3}(em:t.slot j= .empty)(jm:j<=t.mask)(w:Way t h j)(room:hs.length+1<=t.mask):Laid (t.put j).1 (hs.take (t.put j).2++h::hs.drop (t.put j).2):=by
 have pe:(t.put j).2=T4 t.place j:=rfl;have me:t.mask=(t.put j).1.mask:=rfl;have pl:=DU t j;have hp:T4 t.place j<=t.place.size:=(HT.Ja l.rise j).2.2;have hp1:T4 t.place j<=t.place.toList.length:=by rw [P9];exact hp
 have hp2:T4 t.place j<=hs.length:=by rw [<-l.size];exact hp
 have rise:(t.put j).1.place.toList.Pairwise (· < ·):=HT.UO l.rise (HT.Gg em);have at1: ∀i:G3,(t.put j).1.place[i]? =if i<T4 t.place j then t.place[i]? else if i=T4 t.place j then some j else t.place[i-1]? :=λi=>by
  have:=Bj t.place.toList j hp1 i;rw [<-pl] at this;simpa using this
 have sl: ∀x,(t.put j).1.slot x= .empty->t.slot x= .empty:=λx hx=>by
  rw [Ji (DV l.dum j) rise] at hx;rw [Ji l.dum l.rise];intro i e
  by_cases c:i<T4 t.place j
  ·exact hx i (by rw [at1,D4 c];exact e)
  ·exact hx (i+1) (by rw [at1,D5 (by omega),D5 (by omega)];exact e)
 rw [pe];refine⟨l.pow,l.big,DV l.dum j,rise,?_,?_,λi x hx=> ?_,λi g x hg hx=> ?_⟩
 ·rw [<-P9,pl];simp only [P0,D8,T3,B3,P9];have:=l.size;omega
 ·show _<=t.mask;simp only [P0,D8,T3,B3];omega
 ·rw [at1] at hx;split at hx
  ·exact l.low _ _ hx
  ·split at hx
   ·injection hx with hx;subst hx;exact jm
   ·exact l.low _ _ hx
 ·rw [at1] at hx;rw [Bj hs h hp2] at hg
  by_cases c:i<T4 t.place j
  ·rw [D4 c] at hg hx;exact(l.way i g x hg hx).more me sl
  ·rw [D5 c] at hg hx
   by_cases b:i=T4 t.place j
   ·rw [D4 b] at hg hx;injection hg with hg;injection hx with hx
    subst hg hx;exact w.more me sl
   ·rw [D5 b] at hg hx;exact(l.way (i-1) g x hg hx).more me sl
theorem Go (a b:G3)(led:M7):Laid (.fresh a b led) []:=⟨⟨3,rfl⟩,P2 7,rfl,iK,rfl,M6 _,λi j h=>by simp [rH] at h,λi h j e=>by simp at e⟩
theorem Bk (t:M8): ∀ (k i q m j:G3) (d:P7 G3),k<=m->zn t k ⟨j,m,i,q,d⟩=⟨j+k,m-k,i,q,d⟩
 |0,i,q,m,j,d,_=>rfl
 |k+1,i,q,m,j,d,h=>by
  have a:t.advance ⟨j,m,i,q,d⟩=⟨j+1,m-1,i,q,d⟩:=by unfold Z6;rw [D4 (show m>0 by omega)]
  show zn t k (t.advance ⟨j,m,i,q,d⟩)=_;rw [a,Bk t k i q (m-1) (j+1) d (by omega)]
  congr 1<;>omega
def SC (t:M8)(E:G3->M7)(h:P4)(j:G3):Prop:= ∃n,(zn t n (t.probeStart h)).j=j/\ ∀m,m<n->E (zn t m (t.probeStart h)).j=false
variable {owner:S9 (P7 G3)}
theorem Ql: ∀ (fuel L n:G3) {j:G3},zn t n (t.probeStart h)=UU t (Vc (t.mask+1) (S3 h) L) (S3 h / 32^L) none->(∀m,m<n->(owner.getD (zn t m (t.probeStart h)).j (some 0)).isNone=false)->
 O8 t.mask owner fuel (Vc (t.mask+1) (S3 h) L) (S3 h / 32^L)=some j->(owner.getD j (some 0)).isNone=true/\SC t (λx=>(owner.getD x (some 0)).isNone) h j
 |0,_,_,_,_,_,e=>by cases e
 |fuel+1,L,n,j,hn,ne,e=>by
  unfold O8 at e;generalize hI:Vc (t.mask+1) (S3 h) L=I at hn e;have run: ∀k,k<=O3 t.mask I-I->(zn t (n+k) (t.probeStart h)).j=I+k:=λk hk=>by
   rw [Jh,hn];exact congrArg SetTable.Probe.j (Bk t k I _ _ I none hk)
  have re:I<=O3 t.mask I:=by unfold O3;split<;>omega
  split at e
  ·rename_i k hk;injection e with e
   subst e;obtain⟨a,b,c⟩:=List.find?_range_eq_some.mp hk;have kl:=D3.mp b;refine⟨a,n+k,run k (by omega),λm hm=> ?_⟩;rcases A0 m n with z|z
   ·exact ne m z
   ·have:=c (m-n) (by omega);have r:=run (m-n) (by omega);rw [J6 z] at r;show (owner.getD (zn t m (t.probeStart h)).j (some 0)).isNone=false;rw [r];simpa using this
  ·rename_i hk;have none:=nW.mp hk;have nx:=vz t _ (UU t I (S3 h / 32^L) .none) rfl;refine Ql fuel (L+1) (n+(O3 t.mask I-I+1)) (j:=j) ?_ (λm hm=> ?_) ?_
   ·rw [Jh,hn];refine nx.trans ?_;show UU t ((I*5+1+S3 h / 32^L / 32)%(t.mask+1)) (S3 h / 32^L / 32) .none=_;rw [bL,<-I0,<-hI];rfl
   ·rcases A0 m n with z|z
    ·exact ne m z
    ·have:=none (m-n) (D3.mpr (by omega));have r:=run (m-n) (by omega);rw [J6 z] at r;rw [r];exact X4.mpr this
   ·rw [show sJ t.mask I (S3 h / 32^L)=((I*5+1+S3 h / 32^L / 32)%(t.mask+1),S3 h / 32^L / 32) from rfl] at e;dsimp only at e;rw [bL,<-I0,<-hI] at e;exact e
theorem DW (hN:t.mask+1=2^k){e:G3}(he:e<=t.mask)(em:(owner.getD e (some 0)).isNone=true): ∃j,O8 t.mask owner (O7 t.mask) (S3 h%(t.mask+1)) (S3 h)=some j:=by
 obtain⟨m,hm,e1⟩:=Bh hN (a:=Vc (t.mask+1) (S3 h) 13) (X7 _ (cN _)) (show e<t.mask+1 by omega);rw [<-YI h m] at e1;have go: ∀ (fuel L:G3),(∃L',L<=L'/\L'<L+fuel/\Vc (t.mask+1) (S3 h) L'=e)-> ∃j,O8 t.mask owner fuel (Vc (t.mask+1) (S3 h) L) (S3 h / 32^L)=some j:=by
  intro fuel
  induction fuel with
  |zero=>rintro L ⟨L',a,b,_⟩;omega
  |succ fuel ih=>
   rintro L ⟨L',a,b,c⟩;unfold O8;generalize hI:Vc (t.mask+1) (S3 h) L=I;split
   ·rename_i k hk;exact⟨_,rfl⟩
   ·rename_i hk;have none:=nW.mp hk;have ne:I≠e:=λz=>by
     have re:I<=O3 t.mask I:=by unfold O3;split<;>omega
     have:=none 0 (D3.mpr (by omega));rw [W4,z] at this;exact this em
    have lt:L+1<=L':=by
     rcases A0 L L' with z|z
     ·exact z
     ·have:L=L':=by omega
      subst this;exact absurd (hI.symm.trans c) ne
    obtain⟨j,hj⟩:=ih (L+1) ⟨L',lt,by omega,c⟩;refine⟨j,?_⟩;rw [show sJ t.mask I (S3 h / 32^L)=((I*5+1+S3 h / 32^L / 32)%(t.mask+1),S3 h / 32^L / 32) from rfl];dsimp only;rw [bL,<-I0,<-hI];exact hj
 have:=go (O7 t.mask) 0 ⟨13+m,M6 _,by unfold O7;omega,e1⟩;rw [e9,mR] at this;exact this
def emO (owner:S9 (P7 G3))(x:G3):M7:=(owner.getD x (some 0)).isNone
theorem emO_iff {x:G3}:emO owner x=true↔owner[x]? =some none:=by
 unfold emO;rw [b7];cases owner[x]? with
 |none=>simp
 |some o=>cases o<;>simp
structure Own (t:M8)(hs:G0 P4)(owner:S9 (P7 G3))(k:G3):Prop where
 size:owner.size=t.mask+1
 lt: ∀x i:G3,owner[x]? =some (some i)->i<k
 inj: ∀x y i:G3,owner[x]? =some (some i)->owner[y]? =some (some i)->x=y
 all: ∀i,i<k-> ∃x:G3,owner[x]? =some (some i)
 way: ∀ (x i:G3) (h:P4),owner[x]? =some (some i)->hs[i]? =some h->SC t (emO owner) h x
theorem Own.free (o:Own t hs owner k)(room:k<=t.mask): ∃e,e<=t.mask/\emO owner e=true:=by
 refine F9 λno=> ?_
 have got: ∀x,x<t.mask+1-> ∃i,owner[x]? =some (some i):=λx hx=>by
  have hs':x<owner.size:=by rw [o.size];exact hx
  cases e:owner[x]? with
  |none=>rw [cF] at e;omega
  |some v=>
   cases v with
   |none=>exact absurd ⟨x,by omega,emO_iff.mpr e⟩ no
   |some i=>exact⟨i,rfl⟩
 have gi: ∀x,x<t.mask+1->owner[x]? =some (some (((owner[x]?).getD none).getD 0)):=λx hx=>by
  obtain⟨i,e⟩:=got x hx;rw [e];rfl
 have nd:((G6 (t.mask+1)).map λx=>((owner[x]?).getD none).getD 0).Nodup:=by
  rw [g7,O4];refine C5.mpr λa b ha hb ab e=> ?_
  rw [E8,E8] at e;rw [R6] at ha hb;have x1:=gi a ha;have x2:=gi b hb;rw [e] at x1;have:=o.inj a b _ x1 x2;omega
 have:=ZX (m:=G6 k) nd λy hy=>by
  obtain⟨x,hx,rfl⟩:=R8.mp hy;exact D3.mpr (o.lt x _ (gi x (D3.mp hx)))
 rw [G8,R6,R6] at this;omega
variable {n:G3}
theorem Own.step (hN:t.mask+1=2^n)(o:Own t hs owner k)(room:k<=t.mask)(hk:hs[k]? =some h): ∃j,O8 t.mask owner (O7 t.mask) (S3 h%(t.mask+1)) (S3 h)=some j/\Own t hs (owner.setIfInBounds j (some k)) (k+1):=by
 obtain⟨e,he,em⟩:=o.free room;obtain⟨j,hj⟩:=DW (h:=h) hN he em;have w:=Ql (t:=t) (owner:=owner) (h:=h) (O7 t.mask) 0 0 (j:=j) (by rw [e9,mR];rfl) (λm hm=>absurd hm (V4 _)) (by rw [e9,mR];exact hj);have jn:owner[j]? =some none:=emO_iff.mp w.1;have js:j<owner.size:=(A7.mp jn).1;have at1: ∀x:G3,(owner.setIfInBounds j (some k))[x]? =if j=x then some (some k) else owner[x]? :=λx=>by
  rw [Array.getElem?_setIfInBounds]
  by_cases c:j=x
  ·rw [D4 c,D4 c,D4 js]
  ·rw [D5 c,D5 c]
 have old: ∀x i:G3,(owner.setIfInBounds j (some k))[x]? =some (some i)->(x=j/\i=k)\/(x≠j/\owner[x]? =some (some i)):=λx i hx=>by
  rw [at1] at hx;split at hx
  ·rename_i c;injection hx with hx;injection hx with hx;exact .inl ⟨c.symm,hx.symm⟩
  ·rename_i c;exact .inr ⟨K9 c,hx⟩
 have emm: ∀x,emO owner x=false->emO (owner.setIfInBounds j (some k)) x=false:=λx hx=>by
  refine X4.mpr λz=> ?_
  rw [emO_iff,at1] at z;split at z
  ·cases z
  ·rw [emO_iff.mpr z] at hx;cases hx
 refine⟨j,hj,by rw [dD];exact o.size,λx i hx=> ?_,λx y i hx hy=> ?_,λi hi=> ?_,λx i g hx hg=> ?_⟩
 ·rcases old x i hx with ⟨_,e⟩|⟨_,e⟩
  ·omega
  ·have:=o.lt x i e;omega
 ·rcases old x i hx with ⟨a,b⟩|⟨a,b⟩<;>rcases old y i hy with ⟨c,d⟩|⟨c,d⟩
  ·rw [a,c]
  ·have:=o.lt y i d;omega
  ·have:=o.lt x i b;omega
  ·exact o.inj x y i b d
 ·by_cases c:i=k
  ·exact⟨j,by rw [at1,D4 rfl,c]⟩
  ·obtain⟨x,hx⟩:=o.all i (by omega);have ne: ¬j=x:=λz=>by rw [<-z,jn] at hx;cases hx
   exact⟨x,by rw [at1,D5 ne];exact hx⟩
 ·rcases old x i hx with ⟨a,b⟩|⟨a,b⟩
  ·rw [b,hk] at hg;injection hg with hg
   rw [a,<-hg];obtain⟨m,p,q⟩:=w.2;exact⟨m,p,λm' hm=>emm _ (q m' hm)⟩
  ·obtain⟨m,p,q⟩:=o.way x i g b hg;exact⟨m,p,λm' hm=>emm _ (q m' hm)⟩
theorem Nh (t:M8)(hs:G0 P4):Own t hs (lI (t.mask+1) none) 0:=by
 have no: ∀x i:G3,(lI (t.mask+1) (none:P7 G3))[x]? ≠some (some i):=λx i e=>by
  rw [Array.getElem?_replicate] at e;split at e<;>cases e
 exact⟨Array.size_replicate,λx i e=>absurd e (no x i),λx y i e=>absurd e (no x i),λi hi=>absurd hi (V4 _),λx i h e=>absurd e (no x i)⟩
theorem Qm (hN:t.mask+1=2^n)(room:hs.length<=t.mask){F:P7 (S9 (P7 G3)×G3)->P4->P7 (S9 (P7 G3)×G3)}
 (hF: ∀owner k h j,O8 t.mask owner (O7 t.mask) (S3 h%(t.mask+1)) (S3 h)=some j->F (some (owner,k)) h=some (owner.setIfInBounds j (some k),k+1)): ∀ (rest:G0 P4) (k:G3) (owner:S9 (P7 G3)),Own t hs owner k->k<=hs.length->hs.drop k=rest-> ∃owner',rest.foldl F (some (owner,k))=some (owner',hs.length)/\Own t hs owner' hs.length
 | [],k,owner,o,kl,e=>by
  have:k=hs.length:=by have:=f8.mp e;omega
  subst this;exact⟨owner,rfl,o⟩
 |h::rest,k,owner,o,kl,e=>by
  have hk:hs[k]? =some h:=by
   have:(hs.drop k)[0]? =some h:=by rw [e];rfl
   rwa [U0,W4] at this
  have lt:k<hs.length:=(D6.mp hk).1;obtain⟨j,hj,o'⟩:=o.step hN (by omega) hk;have e2:hs.drop (k+1)=rest:=by rw [<-List.tail_drop,e];rfl
  obtain⟨owner',a,b⟩:=Qm hN room hF rest (k+1) _ o' lt e2;exact⟨owner',by rw [gB,hF _ _ _ _ hj];exact a,b⟩
theorem Ni (hN:t.mask+1=2^n)(room:hs.length<=t.mask){F:P7 (S9 (P7 G3)×G3)->P4->P7 (S9 (P7 G3)×G3)}
 (hF: ∀owner k h j,O8 t.mask owner (O7 t.mask) (S3 h%(t.mask+1)) (S3 h)=some j->F (some (owner,k)) h=some (owner.setIfInBounds j (some k),k+1)): ∃owner,(hs.foldl F (some (lI (t.mask+1) none,0))).map (·.1)=some owner/\Own t hs owner hs.length:=by
 obtain⟨owner,a,b⟩:=Qm hN room hF hs 0 _ (Nh t hs) (M6 _) rfl;exact⟨owner,by rw [a];rfl,b⟩
theorem Fj {hashes:S9 P4}(hN:t.mask+1=2^n)(room:hashes.size<=t.mask): ∃owner,oZ t.mask hashes=some owner/\Own t hashes.toList owner hashes.toList.length:=by
 unfold oZ;rw [<-Array.foldl_toList];refine Ni hN (by rw [P9];exact room) λowner k h j hj=> ?_
 show (O8 t.mask owner _ _ _).bind _=_;rw [hj];rfl
theorem UW: ∀ (n:G3) (p:Q4),p.j+p.more<=t.mask->(zn t n p).j<=t.mask
 |0,p,h=>by show p.j<=t.mask;omega
 |n+1,p,h=>by
  refine UW n (t.advance p) ?_;unfold Z6;split
  ·show p.j+1+(p.more-1)<=t.mask;omega
  ·have:(p.i*5+1+p.perturb / 32)%(t.mask+1)<t.mask+1:=X7 _ (cN _);show (p.i*5+1+p.perturb / 32)%(t.mask+1)+(O3 t.mask ((p.i*5+1+p.perturb / 32)%(t.mask+1))-(p.i*5+1+p.perturb / 32)%(t.mask+1))<=t.mask;unfold O3;split<;>omega
theorem VP (t:M8)(h:P4):(t.probeStart h).j+(t.probeStart h).more<=t.mask:=by
 have:S3 h%(t.mask+1)<t.mask+1:=X7 _ (cN _);show S3 h%(t.mask+1)+(O3 t.mask (S3 h%(t.mask+1))-S3 h%(t.mask+1))<=t.mask;unfold O3;split<;>omega
theorem Az {T0 T':M8}{E:G3->M7}{j:G3}(em:T0.mask=T'.mask)(f: ∀y,y<=T0.mask->E y=false->T'.slot y≠ .empty)(w:SC T0 E h j):Way T' h j:=by
 obtain⟨n,a,b⟩:=w;refine⟨n,by rw [<-yX em,<-yF em];exact a,λm hm=> ?_⟩;rw [<-yX em,<-yF em];exact f _ (UW m _ (VP T0 h)) (b m hm)
theorem Fk {mask finger moves:G3}{led plain:M7}{hashes:S9 P4}(hN:mask+1=2^n)(h7:7<=mask)(room:hashes.size<=mask): ∃t' order,sK mask finger moves led plain hashes=some (t',order)/\t'.mask=mask/\t'.led=led/\t'.plain=plain/\order.toList.Perm (G6 hashes.size)/\Laid t' (order.toList.map λi=>hashes.toList.getD i 0):=by
 obtain⟨T0,hm⟩: ∃T0:M8,T0.mask=mask:=⟨{rH 0 0 true with mask:=mask},rfl⟩;subst hm;obtain⟨owner,ho,own⟩:=Fj (t:=T0) (hashes:=hashes) hN room;unfold sK;rw [ho];refine⟨_,_,rfl,rfl,rfl,rfl,?_⟩;generalize hl:((G6 (T0.mask+1)).filterMap λj=>(owner.getD j none).map (j,·))=live;have osz:owner.size=T0.mask+1:=own.size;have mem: ∀x i:G3,(x,i)∈live↔owner[x]? =some (some i):=λx i=>by
  rw [<-hl,bE];constructor
  ·rintro ⟨j,hj,e⟩;rw [b7] at e;cases z:owner[j]? with
   |none=>rw [z] at e;cases e
   |some v=>
    rw [z] at e;cases v with
    |none=>cases e
    |some w=>cases e;exact z
  ·intro e;have lt:x<owner.size:=(A7.mp e).1;refine⟨x,D3.mpr (by omega),?_⟩;rw [b7,e];rfl
 have sub:(live.map (·.1)).Sublist (G6 (T0.mask+1)):=by rw [<-hl];exact HT.YD _ _
 have rise:(live.map (·.1)).Pairwise (· < ·):=G0.pairwise_lt_range.sublist sub;have nd:(live.map (·.2)).Nodup:=by
  rw [g7,O4];rw [O4] at rise;refine rise.imp_of_mem λ{a b} ha hb lt e=> ?_
  have:=own.inj a.1 b.1 a.2 ((mem _ _).mp ha) (by rw [e];exact(mem _ _).mp hb);omega
 have len0:hashes.toList.length=hashes.size:=P9;have pm:(live.map (·.2)).Perm (G6 hashes.size):=by
  refine(List.perm_ext_iff_of_nodup nd fO).mpr λi=> ?_
  rw [D3];constructor
  ·intro h;obtain⟨⟨x,i'⟩,a,rfl⟩:=R8.mp h;have:=own.lt x i' ((mem _ _).mp a);omega
  ·intro h;obtain⟨x,hx⟩:=own.all i (by omega);exact R8.mpr ⟨(x,i),(mem _ _).mpr hx,rfl⟩
 have ll:live.length=hashes.size:=by have:=pm.length_eq;rwa [G8,R6] at this
 refine⟨pm,⟨n,hN⟩,h7,rfl,rise,?_,?_,λi j hj=> ?_,λi h x hh hx=> ?_⟩
 ·simp
 ·show _<=T0.mask;simp only [G8];omega
 ·have hj:(live.map (·.1))[i]? =some j:=by simpa using hj
  have:=D3.mp (sub.subset (D0 hj));show j<=T0.mask;omega
 ·have hx:(live.map (·.1))[i]? =some x:=by simpa using hx
  have hh:((live.map (·.2)).map λi=>hashes.toList.getD i 0)[i]? =some h:=hh;rw [D2] at hx;obtain⟨⟨x',i'⟩,e1,e2⟩:=E7.mp hx;have e2:x'=x:=e2;subst e2;rw [D2,D2,e1] at hh;have hh:hashes.toList.getD i' 0=h:=by injection hh
  have ow:=(mem _ _).mp (D0 e1);have lt:=own.lt _ _ ow;have hg:hashes.toList[i']? =some h:=by
   rw [<-hh,S1,G7 lt];rfl
  refine Az (T0:=T0) rfl (λy hy hb z=> ?_) (own.way _ _ _ ow hg);rw [Ji rfl rise] at z;cases e:owner[y]? with
  |none=>rw [cF] at e;omega
  |some v=>
   cases v with
   |none=>rw [emO_iff.mpr e] at hb;cases hb
   |some w=>
    obtain⟨i2,h2⟩:=cE (R8.mpr ⟨(y,w),(mem _ _).mpr e,rfl⟩:y∈live.map (·.1));exact z i2 (by simpa using h2)
theorem Laid.stands (l:Laid t hs):t.gaveWay=false:=by
 obtain⟨k,hk⟩:=l.pow;have b:=l.big;cases k with
 |zero=>rw [e9] at hk;omega
 |succ k=>
  rw [I0] at hk;unfold xV;refine beq_false_of_ne ?_;omega
theorem Qn: ∀ (fuel k n:G3),3<=k-> ∃m,3<=m/\aC n fuel (2^k)=2^m/\(n<2^(k+fuel)->n<2^m)
 |0,k,n,h=>⟨k,h,rfl,λz=>z⟩
 |fuel+1,k,n,h=>by
  unfold aC
  by_cases c:2^k<=n
  ·rw [D4 c,<-I0];obtain⟨m,a,b,d⟩:=Qn fuel (k+1) n (by omega);exact⟨m,a,b,λz=>d (by rw [nV,bS];exact z)⟩
  ·rw [D5 c];exact⟨k,h,rfl,λ_=>by omega⟩
theorem above (h:n<2^67): ∃m,J0 n=2^m/\n<J0 n/\8<=J0 n:=by
 obtain⟨m,a,b,c⟩:=Qn 64 3 n (by decide);have b:J0 n=2^m:=b;refine⟨m,b,by rw [b];exact c h,?_⟩;rw [b];exact aP (show 0<2 by decide) a
end L2
namespace L2
open PySem PySem.Spec PyProof.Rows HT
variable {prog:S7}{w:N8}{A:N3}{E:G1->G2->Prop}{s:G2}{a:P5}{es:S9 (P4×G1)}{ep:G3}{t:M8}
theorem Laid.fits {hs:G0 P4}(l:Laid t hs){n:G3}(e:hs.length=n):t.fits n=true:=by
 have a:=l.size;have b:=l.room;have c:=l.dum;simp only [sF,sL,O1,beq_iff_eq,X3,c];simp;omega
theorem Qo (t:M8):t.sameMemory t.moves t.mask=some true:=by
 unfold uS;rw [D4 (Z4 _)]
theorem Qp {b:P5}{Q:M7->G2->Prop}(q:Q true s):R7 (S2 prog w) A (isSame (.ref b) (.ref b)) Q E s:=by
 unfold isSame;dsimp only;rw [D4 (Z4 _)];exact P3 q
variable {eqk:G3->M7}
theorem UX {Q:SetFound->G2->Prop}{x:G1}{h:P4}{n:G3}(l:Laid t (es.toList.map (·.1)))(ho:s.heap.get? a=some (Zv es ep t))
 (refs: ∀ (i:G3) (y:G1),es[i]? =some (h,y)-> ∃b,y= .ref b)
 (IA: ∀Q':M7->G2->Prop,Q' false s->R7 (S2 prog w) A (b8 x ((es.filter (·.1==h)).toList.map (·.2))) Q' E s)
 (cmp: ∀ (i:G3) (y:G1),es[i]? =some (h,y)-> ∀Q':M7->G2->Prop,Q' (eqk i) s->R7 (S2 prog w) A (aK [y] (eqBool y x)) Q' E s)
 (em:t.slot (zn t n (t.probeStart h)).j= .empty)(nb:n<10*O7 t.mask)(ne: ∀m,m<n->t.slot (zn t m (t.probeStart h)).j≠ .empty)
 (free:(∀m i,m<n->t.slot (zn t m (t.probeStart h)).j= .live i->(es[i]?.map (·.1)).getD 0=h->eqk i=false)->Q (.free (zn t n (t.probeStart h)).j false) s)
 (there: ∀ (i:G3) (y:G1),es[i]? =some (h,y)->eqk i=true->Q (.there none) s):
 ∀ (r k fuel:G3) (stand:P7 Q4),k+r=n->r<fuel->stand.getD (t.probeStart h)=zn t k (t.probeStart h)->(∀m i,m<k->t.slot (zn t m (t.probeStart h)).j= .live i->(es[i]?.map (·.1)).getD 0=h->eqk i=false)->
  R7 (S2 prog w) A (sM a x h true fuel stand) Q E s:=by
 intro r
 induction r using G3.strongRecOn with
 |ind r ih=>
 intro k fuel stand kr rf st old;obtain⟨fuel,rfl⟩: ∃f,fuel=f+1:=⟨fuel-1,by omega⟩;have fit:t.fits es.size=true:=l.fits (by rw [G8,P9]);unfold sM;refine wpAny_bind (E2 ho rfl fit ?_);dsimp only;rw [l.stands];simp only [C0,↓reduceIte];have ad: ∀m,zn t m (zn t k (t.probeStart h))=zn t (k+m) (t.probeStart h):=λm=>(Jh t k m _).symm
 have dn: ∀ (m:G3) (p:Q4),p.dummy=none->(zn t m p).dummy=none:=λm=>by
  induction m with
  |zero=>exact λp hp=>hp
  |succ m ihm=>exact λp hp=>ihm _ (by unfold Z6;split<;>exact hp)
 have out:=Bi (f:=λi=>(es[i]?.map (·.1)).getD 0) (h:=h) l.dum r (10*O7 t.mask) (zn t k (t.probeStart h)) (by omega) (by rw [ad,kr];exact em) (λm hm=>by rw [ad];exact ne _ (by omega)) (dn _ _ rfl);have e0:t.probe (λi=>(es[i]?.map (·.1)).getD 0) h (stand.getD (t.probeStart h))=V0 t (λi=>(es[i]?.map (·.1)).getD 0) h (10*O7 t.mask) (zn t k (t.probeStart h)):=by rw [st];rfl
 rw [<-e0] at out;split
 ·rename_i met hmet;have hmet:t.probe (λi=>(es[i]?.map (·.1)).getD 0) h (stand.getD (t.probeStart h))=some met:=hmet;rw [hmet] at out;rcases out with ⟨e,no⟩|⟨m,i,mr,sl,hi,no,e⟩
  ·injection e with e
   subst e;dsimp only;refine P3 ?_;rw [ad,kr];refine free λm i hm sl hi=> ?_
   rcases A0 m k with z|z
   ·exact old m i z sl hi
   ·refine absurd hi (no (m-k) (by omega) i ?_);rw [ad,J6 z];exact sl
  ·injection e with e
   subst e;dsimp only;obtain⟨y,ei⟩: ∃y,es[i]? =some (h,y):=by
    obtain⟨lt,_⟩:=A7.mp (DT sl);have sz:i<es.size:=by have:=l.size;rw [G8,P9] at this;omega
    rw [V6 sz] at hi ⊢;have hi:es[i].1=h:=hi;exact⟨es[i].2,by rw [<-hi]⟩
   cases hl:t.led
   ·simp only [rJ,↓reduceIte];refine wpAny_bind (IA _ ?_);simp only [C0,↓reduceIte];rw [ei];dsimp only;refine wpAny_bind (cmp i y ei _ ?_);refine wpAny_bind (E2 ho rfl fit ?_);dsimp only;cases ek:eqk i with
    |true=>simp only [nG,↓reduceIte];exact P3 (there i y ei ek)
    |false=>
     simp only [eO,C0,↓reduceIte,Qo,sl,ei];obtain⟨b,rfl⟩:=refs i y ei;refine wpAny_bind (Qp ?_);refine wpAny_bind (P3 ?_);simp only [↓reduceIte];refine ih (r-(m+1)) (by omega) (k+(m+1)) fuel (some _) (by omega) (by omega) (by show zn t (m+1) _=_;rw [ad]) (λm' i' hm' sl' hi'=> ?_);rcases A0 m' k with z|z
     ·exact old m' i' z sl' hi'
     ·have e1:zn t m' (t.probeStart h)=zn t (m'-k) (zn t k (t.probeStart h)):=by rw [ad,J6 z]
      rw [e1] at sl';rcases A0 (m'-k) m with y|y
      ·exact absurd hi' (no (m'-k) y i' sl')
      ·have e2:m'-k=m:=by omega
       rw [e2,sl] at sl';injection sl' with sl'
       rw [<-sl'];exact ek
   ·simp only [fX,C0,↓reduceIte];rw [ei];dsimp only;refine wpAny_bind (cmp i y ei _ ?_);refine wpAny_bind (E2 ho rfl fit ?_);dsimp only;cases ek:eqk i with
    |true=>simp only [nG,↓reduceIte];exact P3 (there i y ei ek)
    |false=>
     simp only [eO,C0,↓reduceIte,Qo,sl,ei];obtain⟨b,rfl⟩:=refs i y ei;refine wpAny_bind (Qp ?_);refine wpAny_bind (P3 ?_);simp only [↓reduceIte];refine ih (r-(m+1)) (by omega) (k+(m+1)) fuel (some _) (by omega) (by omega) (by show zn t (m+1) _=_;rw [ad]) (λm' i' hm' sl' hi'=> ?_);rcases A0 m' k with z|z
     ·exact old m' i' z sl' hi'
     ·have e1:zn t m' (t.probeStart h)=zn t (m'-k) (zn t k (t.probeStart h)):=by rw [ad,J6 z]
      rw [e1] at sl';rcases A0 (m'-k) m with y|y
      ·exact absurd hi' (no (m'-k) y i' sl')
      ·have e2:m'-k=m:=by omega
       rw [e2,sl] at sl';injection sl' with sl'
       rw [<-sl'];exact ek
 ·rename_i hmet;rcases out with ⟨e,_⟩|⟨_,_,_,_,_,_,e⟩<;>exact(hmet _ e).elim
theorem Gp {Q:SetFound->G2->Prop}{x:G1}{h:P4}(l:Laid t (es.toList.map (·.1)))(few:t.mask<=9000)(ho:s.heap.get? a=some (Zv es ep t))
 (refs: ∀ (i:G3) (y:G1),es[i]? =some (h,y)-> ∃b,y= .ref b)
 (IA: ∀Q':M7->G2->Prop,Q' false s->R7 (S2 prog w) A (b8 x ((es.filter (·.1==h)).toList.map (·.2))) Q' E s)
 (cmp: ∀ (i:G3) (y:G1),es[i]? =some (h,y)-> ∀Q':M7->G2->Prop,Q' (eqk i) s->R7 (S2 prog w) A (aK [y] (eqBool y x)) Q' E s)
 (free: ∀j,(∀ (i:G3) (y:G1),es[i]? =some (h,y)->eqk i=false)->t.slot j= .empty->j<=t.mask->Way t h j->Q (.free j false) s)
 (there: ∀ (i:G3) (y:G1),es[i]? =some (h,y)->eqk i=true->Q (.there none) s):R7 (S2 prog w) A (setSearch a x h true) Q E s:=by
 obtain⟨n,nb,em,ne,met⟩:=l.search h;refine UX l ho refs IA cmp em nb ne (λal=>free _ (λi y e=> ?_) em (UW n _ (VP t h)) ⟨n,rfl,ne⟩) there n 0 100000 none (Q8 n) (by unfold O7 at nb;omega) rfl (λm i hm=>absurd hm (V4 _));have e1:(es.toList.map (·.1))[i]? =some h:=by
  rw [D2,T9,e];rfl
 obtain⟨m,hm,sl⟩:=met i e1;exact al m i hm sl (by rw [e];rfl)
theorem Laid.plain {hs:G0 P4}(l:Laid t hs)(b:M7):Laid {t with plain:=b} hs:=
 ⟨l.pow,l.big,l.dum,l.rise,l.size,l.room,l.low,λi h j x y=>Way.more (t:=t) (u:= {t with plain:=b}) rfl (λ_ z=>z) (l.way i h j x y)⟩
theorem Gq (es:S9 (P4×G1))(h:P4)(x:G1)(p:G3):(U6 es p (h,x)).toList.map (·.1)=(es.toList.map (·.1)).take p++h::(es.toList.map (·.1)).drop p:=by
 rw [dB,C6,T7,r9,sA]
theorem Qq: ∀ (fuel k n:G3),aC n fuel (2^k)<=2^k\/aC n fuel (2^k)<=2*n
 |0,k,n=> .inl (P2 _)
 |fuel+1,k,n=>by
  unfold aC
  by_cases c:2^k<=n
  ·rw [D4 c,<-I0];rcases Qq fuel (k+1) n with z|z
   ·refine .inr (S4 z ?_);rw [I0];omega
   ·exact .inr z
  ·rw [D5 c];exact .inl (P2 _)
theorem UY {hashes:S9 P4}{w:G3}(hw:hashes.size<=w)(few:w<=40000):J0 w<=80008/\ ∃t' order,t.relaid hashes w=some (t',order)/\t'.led=t.led/\w<=t'.mask/\t'.mask<=2*w+8/\order.toList.Perm (G6 hashes.size)/\Laid t' (order.toList.map λi=>hashes.toList.getD i 0):=by
 obtain⟨m,a,b,c⟩:=above (n:=w) (by omega);have u:J0 w<=8\/J0 w<=2*w:=Qq 64 3 w;refine⟨by omega,?_⟩;obtain⟨t',order,x,mk,y,z,p,q⟩:=Fk (mask:=J0 w-1) (finger:=t.finger) (moves:=t.movedTo (J0 w-1)) (led:=t.led) (plain:=t.plain) (hashes:=hashes) (n:=m) (by rw [<-a];omega) (by omega) (by omega);exact⟨t',order,x,y,by rw [mk];omega,by rw [mk];omega,p,q⟩
theorem DY {Q:Unit->G2->Prop}{wd:G3}(l:Laid t (es.toList.map (·.1)))(ho:s.heap.get? a=some (Zv es ep t))(hw:es.size<=wd)(few:wd<=40000)
 (k: ∀es' t' h',es'.toList.Perm es.toList->Laid t' (es'.toList.map (·.1))->t'.led=t.led->wd<=t'.mask->t'.mask<=2*wd+8->h'.get? a=some (Zv es' (ep+1) t')->E4 a s.heap h'->Q () {s with heap:=h'}):R7 (S2 prog w) A (uN a wd) Q E s:=by
 have fit:t.fits es.size=true:=l.fits (by rw [G8,P9]);obtain⟨up,t',order,er,ld,m1,m2,pm,l'⟩:=UY (t:=t) (hashes:=es.map (·.1)) (w:=wd) (by rw [rK];exact hw) few;unfold uN;refine wpAny_bind (E2 ho rfl fit ?_);dsimp only;rw [er];have sl: ¬J0 wd>sizeLine:=U5.mpr (S4 up (by decide));simp only [sl,↓reduceIte];have fe: ∀l:G0 G3,(∀i∈l,i<es.size)->l.filterMap (λi=>es[i]?)=l.map (λi=>es.toList.getD i (0,.none)):=λl=>by
  induction l with
  |nil=>exact λ_=>rfl
  |cons i l ih=>
   intro h;have hi:=h i P6;have e:es[i]? =some (es.toList.getD i (0,.none)):=by
    rw [S1,T9,V6 hi];rfl
   rw [List.filterMap_cons_some e,T7,ih λx hx=>h x (R3 _ hx)]
 rw [rK] at pm;have lt: ∀i∈order.toList,i<es.size:=λi hi=>D3.mp (pm.mem_iff.mp hi)
 have e1:(order.filterMap (es[·]?)).toList=order.toList.map (λi=>es.toList.getD i (0,.none)):=by
  rw [Array.toList_filterMap];exact fe _ lt
 have e2:es.toList=(G6 es.size).map (λi=>es.toList.getD i (0,.none)):=by
  have:=wc es.toList (0,(.none:G1))
  rwa [P9] at this
 have pe:(order.filterMap (es[·]?)).toList.Perm es.toList:=by
  have:=pm.map (λi=>es.toList.getD i (0,.none));rw [<-e2] at this;rw [e1];exact this
 have sz:(order.filterMap (es[·]?)).size=es.size:=by have:=pe.length_eq;rwa [P9,P9] at this
 have hh:(order.filterMap (es[·]?)).toList.map (·.1)=order.toList.map λi=>(es.map (·.1)).toList.getD i 0:=by
  rw [e1,S8];refine B6 λi hi=> ?_
  show (es.toList.getD i (0,.none)).1=(es.map (·.1)).toList.getD i 0;have z:i<es.toList.length:=by rw [P9];exact lt i hi
  rw [j7,S1,S1,D2,G7 z];rfl
 rw [<-hh] at l';refine wpAny_bind ?_;show R7 _ _ (ite _ _ _) _ _ _;rw [D5 (by rw [sz];simp)];refine P3 ?_;dsimp only;exact o3 (s:=s) ho rfl (k _ t' _ pe l' ld m1 m2 (F5 _ ho rfl) (A1 ..)) (by rw [sz];exact S4 (show es.size<=40000 by omega) (by decide))
theorem Fl {Q:M7->G2->Prop}{b:P5}{h:P4}{bv:M7}{fuel:G3}(l:Laid t (es.toList.map (·.1)))(few:t.mask<=9000)(lean:es.size*5<t.mask*3)(ho:s.heap.get? a=some (Zv es ep t))
 (refs: ∀ (i:G3) (y:G1),es[i]? =some (h,y)-> ∃b,y= .ref b)
 (IA: ∀Q':M7->G2->Prop,Q' false s->R7 (S2 prog w) A (b8 (.ref b) ((es.filter (·.1==h)).toList.map (·.2))) Q' E s)
 (cmp: ∀ (i:G3) (y:G1),es[i]? =some (h,y)-> ∀Q':M7->G2->Prop,Q' (eqk i) s->R7 (S2 prog w) A (aK [y] (eqBool y (.ref b))) Q' E s)
 (byv: ∀Q':M7->G2->Prop,Q' bv s->R7 (S2 prog w) A (dU 8 (.ref b)) Q' E s)
 (new:(∀ (i:G3) (y:G1),es[i]? =some (h,y)->eqk i=false)-> ∀es' ep' t' h',es'.toList.Perm (es.push (h,.ref b)).toList->Laid t' (es'.toList.map (·.1))->t'.mask<=max t.mask (8*es.size+16)->es'.size*5<t'.mask*3->t'.led=t.led->h'.get? a=some (Zv es' ep' t')->E4 a s.heap h'->Q true {s with heap:=h'})
 (there: ∀ (i:G3) (y:G1),es[i]? =some (h,y)->eqk i=true->Q false s):R7 (S2 prog w) A (mS a (.ref b) h (fuel+1)) Q E s:=by
 have fit:t.fits es.size=true:=l.fits (by rw [G8,P9]);have sz:(es.toList.map (·.1)).length=es.size:=by rw [G8,P9]
 unfold mS;refine wpAny_bind (E2 ho rfl fit ?_);dsimp only;rw [show byScan (.ref b) es=false from rfl];simp only [C0,↓reduceIte];refine wpAny_bind (Gp (eqk:=eqk) l few ho refs IA cmp (λj no em jm wy=> ?_) (λi y e ek=> ?_))
 ·dsimp only;refine wpAny_bind (E2 ho rfl fit ?_);dsimp only;have l1:=l.put em jm wy (by rw [sz];have:=l.big;omega);have l1:=(congrArg (Laid (t.put j).1) (Gq es h (.ref b) (t.put j).2)).mpr l1;have z0:(U6 es (t.put j).2 (h,.ref b)).size=es.size+1:=by
   have:=(fC es (t.put j).2 (h,(.ref b:G1))).length_eq;rw [P9,P9,Array.size_push] at this;exact this
  have z1:(U6 es (t.put j).2 (h,.ref b)).size<=sizeLine:=by
   rw [z0];exact S4 (show es.size+1<=10000 by omega) (by decide)
  have rest: ∀t2:M8,Laid t2 ((U6 es (t.put j).2 (h,.ref b)).toList.map (·.1))->t2.led=t.led->t2.mask=t.mask->R7 (S2 prog w) A (do storeSet a (U6 es (t.put j).2 (h,.ref b)) t2;if (!false&&t2.tooFull)=true then (do uN a (cH (es.size+1));pure true) else pure true) Q E s:=λt2 l2 ld mk=>by
   refine wpAny_bind (o3 (s:=s) ho rfl ?_ z1);have o1:(s.heap.update a (Obj.putSet (U6 es (t.put j).2 (h,.ref b)) t2)).get? a=some (Zv (U6 es (t.put j).2 (h,.ref b)) (ep+1) t2):=F5 _ ho rfl;cases tf:t2.tooFull with
   |true=>
    simp only [rJ,nG,↓reduceIte];refine wpAny_bind (DY (wd:=cH (es.size+1)) (ep:=ep+1) l2 o1 (by rw [z0];unfold cH;split<;>omega) (by unfold cH;split<;>omega) λes' t' h' pe l' ld' m1 m2 o2 sb=> ?_);refine P3 (new no es' (ep+1+1) t' h' (pe.trans (fC ..)) l' ?_ ?_ (ld'.trans ld) o2 (xF (A1 ..) sb))
    ·unfold cH at m2;split at m2<;>omega
    ·have:=pe.length_eq;rw [P9,P9,z0] at this;unfold cH at m1;split at m1<;>omega
   |false=>
   simp only [eO,C0,↓reduceIte];refine P3 (new no _ (ep+1) t2 _ (fC ..) l2 (by omega) ?_ ld (F5 _ ho rfl) (A1 ..));rw [z0];have s2:=l2.size;rw [G8,P9,z0] at s2;have: ¬ (t2.fill*5>=t2.mask*3):=by simpa [xW] using tf
   have f2:t2.fill=es.size+1:=by unfold sL;rw [l2.dum,s2];rfl
   omega
  cases hp:(t.put j).1.plain
  ·simp only [C0,↓reduceIte];refine wpAny_bind (P3 ?_);simp only [↓reduceIte];exact rest (t.put j).1 l1 rfl rfl
  ·simp only [↓reduceIte];refine wpAny_bind (byv _ ?_);cases bv
   ·simp only [C0,↓reduceIte];exact rest _ (l1.plain false) rfl rfl
   ·simp only [↓reduceIte];exact rest (t.put j).1 l1 rfl rfl
 ·exact P3 (there i y e ek)
end L2
namespace L2
open PySem PySem.Spec PyProof.Rows HT
def DZ (h h':F4):Prop:= ∀ (b:P5) (o:Obj),o.cls= .type "tuple" ->h.get? b=some o->h'.get? b=some o
theorem yG {α β:Type}{M:pM}{A:N3}{E:G1->G2->Prop}{s:G2}{f:α->β->Sem (dR β)}{r:β}{Q:β->G2->Prop}: ∀ (l:G0 α),(∀x∈l,∀Q':dR β->G2->Prop,Q' (.yield r) s->R7 M A (f x r) Q' E s)->Q r s->R7 M A (forIn l r f) Q E s
 | [],_,q=>P3 q
 |x::l,h,q=>by
  rw [dE];exact wpAny_bind (h x (.head _) _ (yG l (λy hy=>h y (.tail _ hy)) q))
structure MemK (prog:S7)(w:N8)(K:Type)[DecidableEq K] where
 is:F4->K->P5->Prop
 hash:K->P4
 inj: ∀ {h:F4} {x y:K} {a:P5},is h x a->is h y a->x=y
 keep: ∀ {h h':F4} {x:K} {a:P5},DZ h h'->is h x a->is h' x a
 hashed: ∀ {A:N3} {E:G1->G2->Prop} {s:G2} {x:K} {a:P5} {Q:P4->G2->Prop},A.units+8<cLine->is s.heap x a->(∀tk,Q (hash x) {s with toks:=tk})->R7 (S2 prog w) A (pyHash (.ref a)) Q E s
 same: ∀ {A:N3} {E:G1->G2->Prop} {s:G2} {x y:K} {a b:P5} {Q:M7->G2->Prop},A.units+8<cLine->is s.heap x a->is s.heap y b->Q (decide (x=y)) s->R7 (S2 prog w) A (eqBool (.ref a) (.ref b)) Q E s
 quiet: ∀ {A:N3} {E:G1->G2->Prop} {s:G2} {x:K} {a:P5} {Q:M7->G2->Prop},is s.heap x a->Q true s->R7 (S2 prog w) A (mX 8 (.ref a)) Q E s
 cls: ∀ {A:N3} {E:G1->G2->Prop} {s:G2} {x:K} {a:P5} {Q:M7->G2->Prop},is s.heap x a->Q false s->R7 (S2 prog w) A (X5 8 (.ref a)) Q E s
 byv: ∀ {A:N3} {E:G1->G2->Prop} {s:G2} {x:K} {a:P5} {Q:M7->G2->Prop},is s.heap x a->Q true s->R7 (S2 prog w) A (dU 8 (.ref a)) Q E s
section
variable {prog:S7}{w:N8}{A:N3}{E:G1->G2->Prop}{s:G2}{K:Type}[DecidableEq K]
theorem Fm (M:MemK prog w K){x:K}{a:P5}{qY:G0 G1}{Q:M7->G2->Prop}(hx:M.is s.heap x a)(hs: ∀y∈qY,∃k b,y= .ref b/\M.is s.heap k b)(q:Q false s):R7 (S2 prog w) A (b8 (.ref a) qY) Q E s:=by
 unfold b8;refine wpAny_bind (yG qY (λy hy Q' q'=> ?_) (P3 q));obtain⟨k,b,rfl,hk⟩:=hs y hy
 by_cases c:(a==b)=true
 ·simp only [c,sW,↓reduceIte];exact P3 q'
 ·simp only [c,show rL (.ref a)=false from rfl,lR,rT,C0,↓reduceIte];refine wpAny_bind (M.quiet hx (wpAny_bind (M.quiet hk (wpAny_bind (M.cls hx (wpAny_bind (M.cls hk ?_)))))));exact P3 q'
structure SetT (M:MemK prog w K)(L:M7)(is:K->P5->Prop)(f:P4×G1->K)(es:S9 (P4×G1))(t:M8)(ks:G0 K):Prop where
 laid:Laid t (es.toList.map (·.1))
 led:t.led=L
 lean:es.size*5<t.mask*3
 mask:t.mask<=8*ks.length+16
 each: ∀e∈es.toList,e.1=M.hash (f e)/\ ∃b,e.2= .ref b/\is (f e) b
 nd:(es.toList.map f).Nodup
 mem: ∀k,k∈es.toList.map f↔k∈ks
theorem Wi: ∀ {xs ys:G0 K},xs.Nodup->(∀x∈xs,x∈ys)->xs.length<=ys.length
 | [],_,_,_=>M6 _
 |x::xs,ys,nd,h=>by
  obtain⟨n1,n2⟩:=L9.mp nd;have le:=Wi (ys:=ys.erase x) n2 λy hy=>(cB (λ(e:y=x)=>n1 (by rw [<-e];exact hy))).mpr (h y (.tail _ hy))
  rw [aX (h x (.head _))] at le;have pos:=bJ (h x (.head _));rw [D8];omega
variable {L:M7}{is:K->P5->Prop}{f:P4×G1->K}{es:S9 (P4×G1)}{t:M8}{ks:G0 K}
theorem SetT.size {M:MemK prog w K}(S:SetT M L is f es t ks):es.size<=ks.length:=by
 have:=Wi S.nd λk hk=>(S.mem k).mp hk
 rwa [G8,P9] at this
theorem SetT.tab {M:MemK prog w K}(S:SetT M L is f es t ks):Tab L es.size t:=
 ⟨S.laid.fits (by rw [G8,P9]),S.led,S.laid.dum,λ_=>S.laid.rise⟩
theorem SetT.imp {M:MemK prog w K}{is':K->P5->Prop}(S:SetT M L is f es t ks)(h: ∀k b,is k b->is' k b):SetT M L is' f es t ks:=
 ⟨S.laid,S.led,S.lean,S.mask,λe he=>by
  obtain⟨a,b,c,d⟩:=S.each e he;exact⟨a,b,c,h _ _ d⟩,S.nd,S.mem⟩
theorem Ra {M:MemK prog w K}{ep:G3}{a b:P5}{k:K}{Q:M7->G2->Prop}(hu:A.units+8<cLine)(S:SetT M L is f es t ks)(ho:s.heap.get? a=some (Zv es ep t))(few:ks.length<1000)(to: ∀k b,is k b->M.is s.heap k b)(hk:is k b)
 (q: ∀r f' es' ep' t' h' tk,SetT M L is f' es' t' (k::ks)->h'.get? a=some (Zv es' ep' t')->E4 a s.heap h'->Q r {s with heap:=h',toks:=tk}):R7 (S2 prog w) A (setAdd a (.ref b)) Q E s:=by
 refine L7 (wpAny_bind (M.hashed hu (to _ _ hk) λtk=>L7 ?_));show R7 _ _ (mS a (.ref b) (M.hash k) (99999+1)) _ _ _;have at_: ∀ (i:G3) (y:G1),es[i]? =some (M.hash k,y)->(M.hash k,y)∈es.toList:=λi y e=>by
  rw [<-T9] at e;exact D0 e
 refine Fl (s:= {s with toks:=tk}) (eqk:=λi=>match es[i]? with
  |some e=>decide (f e=k)
  |none=>false) (bv:=true) S.laid (S4 S.mask (by omega)) S.lean ho (λi y e=> ?_) (λQ' q'=> ?_) (λi y e Q' q'=> ?_) (λQ' q'=>M.byv (to _ _ hk) q') (λno es' ep' t' h' pe l' mk ln ld o' sb=> ?_) (λi y e ek=> ?_)
 ·obtain⟨_,c,d,_⟩:=S.each _ (at_ i y e);exact⟨c,d⟩
 ·refine Fm M (to _ _ hk) (λy hy=> ?_) q';obtain⟨e,he,rfl⟩:=R8.mp hy;obtain⟨_,c,d,i⟩:=S.each e (by rw [Array.toList_filter] at he;exact(J1.mp he).1);exact⟨_,c,d,to _ _ i⟩
 ·obtain⟨_,c,d,i'⟩:=S.each _ (at_ i y e);have d:y= .ref c:=d;subst d;simp only [e] at q';exact L7 (M.same hu (to _ _ i') (to _ _ hk) q')
 ·have kn:k ∉ ks:=λz=>by
   obtain⟨e,he,fe⟩:=R8.mp ((S.mem k).mpr z);obtain⟨i,hi⟩:=cE he;obtain⟨e1,e2⟩:=e;have h1:=(S.each _ he).1;rw [fe] at h1;have h1:e1=M.hash k:=h1;subst h1;have hi:es[i]? =some (M.hash k,e2):=by rw [<-T9];exact hi
   have:=no i e2 hi;simp only [hi,fe,uO] at this;cases this
  have same: ∀e∈es.toList,(if e=(M.hash k,.ref b) then k else f e)=f e:=λe he=>by
   by_cases c:e=(M.hash k,.ref b)
   ·rw [D4 c];obtain⟨_,c',d,i⟩:=S.each e he;rw [c] at d;cases d;exact M.inj (to _ _ hk) (to _ _ i)
   ·rw [D5 c]
  have me:(es.toList.map λe=>if e=(M.hash k,.ref b) then k else f e)=es.toList.map f:=B6 same;have pk:=pe.map λe=>if e=(M.hash k,.ref b) then k else f e
  rw [U7,C6,me] at pk;have one:(hO (λe=>if e=(M.hash k,.ref b) then k else f e) [(M.hash k,.ref b)])= [k]:=by simp
  rw [one] at pk;have sz:=S.size;refine q true (λe=>if e=(M.hash k,.ref b) then k else f e) es' ep' t' h' tk ⟨l',ld.trans S.led,ln,?_,λe he=> ?_,pk.nodup_iff.mpr ?_,λm=>pk.mem_iff.trans ?_⟩ o' sb
  ·have:=S.mask;rw [D8];omega
  ·have z:=pe.mem_iff.mp he;rw [U7] at z;rcases R5.mp z with z|z
   ·rw [same e z];exact S.each e z
   ·have z:=G9.mp z;subst z;rw [D4 rfl];exact⟨rfl,b,rfl,hk⟩
  ·rw [fE];refine⟨S.nd,by simp,λx hx y hy e=> ?_⟩;have:y=k:=by simpa using hy
   subst this;subst e;exact kn ((S.mem _).mp hx)
  ·rw [R5,S.mem m,G9,S5,or_comm]
 ·have hin:k∈ks:=by
   simp only [e,X3] at ek;rw [<-ek];exact(S.mem _).mp (C8 (at_ i y e))
  refine q false f es ep t s.heap tk ⟨S.laid,S.led,S.lean,?_,S.each,S.nd,λm=>(S.mem m).trans ?_⟩ ho (bZ _ _)
  ·have:=S.mask;rw [D8];omega
  ·rw [S5];exact⟨.inr,λz=>z.elim (λe=>e ▸ hin) id⟩
end
section
variable {prog:S7}{w:N8}{A:N3}{E:G1->G2->Prop}{s:G2}
theorem Fn (n:G3){v:G1}(h:rL v=true):X5 n v=pure false:=by
 cases v<;>first|(cases h;done)|simp [X5]
theorem Bl {n:P4}{v:G1}(h:(intKind prog w).is n v=true): ∃tk,v= .int n tk:=by
 cases v<;>simp [intKind,lQ] at h;exact⟨_,by rw [h]⟩
theorem Gr {ks:G0 P4}{vs:G0 G1}(h:ItemsAre (intKind prog w) ks vs): ∀v∈vs,∃n tk,v= .int n tk:=by
 induction h with
 |nil=>exact λv hv=>absurd hv A5
 |cons h1 _ ih=>
  intro v hv;rcases S5.mp hv with rfl|hv
  ·obtain⟨tk,e⟩:=Bl h1;exact⟨_,tk,e⟩
  ·exact ih v hv
theorem Rb (d:G3){x:G0 P4}{a:P5}{Q:M7->G2->Prop}:iA (intKind prog w) s.heap x a->Q false s->R7 (S2 prog w) A (X5 (d+1) (.ref a)) Q E s
 |⟨_,_,_,ho,hc,hd,hi⟩,q=>by
  unfold X5;refine wpAny_bind (gI (T:= "tuple") ⟨_,ho,hc⟩ ?_);simp only [Z4,↓reduceIte,pure_bind,fX,C0];refine wpAny_bind (X1 ho hd (wpAny_bind ?_));simp only [<-W0];refine yG _ (λv hv Q' q'=> ?_) (P3 q);rw [Fn d (hi.byValue v hv)];exact P3 q'
theorem Fo (d:G3)(m:P4)(tk:Tok):dU d (.int m tk)=pure true:=by cases d<;>rfl
theorem Rc (d:G3){x:G0 P4}{a:P5}{Q:M7->G2->Prop}:iA (intKind prog w) s.heap x a->Q true s->R7 (S2 prog w) A (dU (d+1) (.ref a)) Q E s
 |⟨_,_,_,ho,hc,hd,hi⟩,q=>by
  unfold dU;refine wpAny_bind (bP (T:= "tuple") ⟨_,ho,hc⟩ F.slot_tuple_hash.lookup ?_);refine wpAny_bind (X1 ho hd (wpAny_bind ?_));simp only [cM,<-W0];refine yG _ (λv hv Q' q'=> ?_) (P3 q);obtain⟨m,tk,rfl⟩:=Gr hi v hv;rw [Fo];exact P3 q'
def HX (prog:S7)(w:N8):MemK prog w (G0 P4) where
 is:=λh x a=>iA (intKind prog w) h x a
 hash:=cO (intKind prog w)
 inj:=λhx hy=>hx.inj hy
 keep:=λk ⟨o,items,n,ho,hc,hd,hi⟩=>⟨o,items,n,k _ o hc ho,hc,hd,hi⟩
 hashed:=λhu hk q=>nX (by omega) hk (q _)
 same:=λhu hx hy q=>wpAny_eqBool_tuple (by omega) hx hy q
 quiet:=λhk q=>wpAny_eqIsQuiet_tuple hk q
 cls:=λhk q=>Rb 7 hk q
 byv:=λhk q=>Rc 7 hk q
end
end L2
namespace L2
open PySem PySem.Spec PyProof.Rows HT PySem.SeqAt
section
variable {prog:S7}{w:N8}{A:N3}{E:G1->G2->Prop}{a I:P5}{fp wr:G0 P5}{n:G3}{P:G3->G1->Prop}{St:G3->F4->Prop}{K:Type}[DecidableEq K]{M:MemK prog w K}{L:M7}{is:K->P5->Prop}{key:G3->K}
theorem Nj (L:M7)(f:P4×G1->K):SetT M L is f #[] (.fresh 0 0 L) []:=⟨Go 0 0 L,rfl,(by show 0*5<7*3;decide),(by show 7<=8*0+16;decide),λe he=>absurd he (by simp),by simp,λk=>by simp⟩
variable {s:G2}
end
theorem WZ {prog:S7}{w:N8}: ∀ {vs:G0 G1} {ns:G0 P4},U3 vs ns->ItemsAre (intKind prog w) ns vs
 |_,_,.nil=> .nil
 |_,_,.cons n t a=> .cons (by simp [intKind,lQ]) (WZ a)
theorem AA {X:Cx}{pins:G0 (P5×Obj)}{σ:St}{H:Hp}{s:G2}(I:Inv X pins σ H s)(k:G0 P4)(b:P5)(h:H b=some (.tup (k.map V.int))):(HX X.prog X.w).is s.heap k b:=by
 obtain⟨_,us,r2,o,e,c,_,n,d⟩:=I.hok b _ h;exact⟨o,us.toArray,n,e,c,d,WZ (WR r2)⟩
end L2
namespace L2
open PySem PySem.Spec PyProof.Rows PySem.SeqAt HT
def pcS (T:G0 (G0 P4))(n p:G3):G0 G3:=(G6 n).filter λj=>wk T n p j&&wk T n j p
def FW (T:G0 (G0 P4))(n:G3):G0 (G0 G3):=((G6 n).filter λp=>decide ((pcS T n p).headD 0=p)).map (pcS T n)
section
variable {T:G0 (G0 P4)}{n e:G3}
theorem AB (p:G3):IsS n (pcS T n p):=⟨_,rfl⟩
variable {p:G3}
theorem mem_pc {j:G3}:j∈pcS T n p↔j<n/\wk T n p j=true/\wk T n j p=true:=by
 unfold pcS;rw [J1,D3,O1]
theorem Re (hp:p<n):p∈pcS T n p:=mem_pc.mpr ⟨hp,UR T n p,UR T n p⟩
theorem Fp {q:G3}(hp:p<n)(h:q∈pcS T n p):pcS T n q=pcS T n p:=by
 obtain⟨hq,h1,h2⟩:=mem_pc.mp h;refine(AB q).ext (AB p) λj=> ?_
 rw [mem_pc,mem_pc];exact⟨λ⟨a,b,c⟩=>⟨a,yh hq h1 b,yh hq c h2⟩,λ⟨a,b,c⟩=>⟨a,yh hp h2 b,yh hp c h1⟩⟩
theorem Fq (hp:p<n): ∃r,pcS T n p=(pcS T n p).headD 0::r:=by
 cases h:pcS T n p with
 |nil=>have:=Re (T:=T) hp;rw [h] at this;cases this
 |cons x r=>exact⟨r,rfl⟩
theorem Fr (hp:p<n):(pcS T n p).headD 0<n/\pcS T n ((pcS T n p).headD 0)=pcS T n p:=by
 obtain⟨r,h⟩:=Fq (T:=T) hp;have m:(pcS T n p).headD 0∈pcS T n p:=by
  generalize (pcS T n p).headD 0=x at h;rw [h];exact P6
 exact⟨(mem_pc.mp m).1,Fp hp m⟩
theorem mem_pcs {S:G0 G3}:S∈FW T n↔ ∃p,p<n/\S=pcS T n p:=by
 unfold FW;rw [R8];constructor
 ·rintro ⟨p,hp,rfl⟩;exact⟨p,D3.mp (J1.mp hp).1,rfl⟩
 ·rintro ⟨p,hp,rfl⟩;obtain⟨a,b⟩:=Fr (T:=T) hp;exact⟨(pcS T n p).headD 0,J1.mpr ⟨D3.mpr a,D9 (by rw [b])⟩,b⟩
end
end L2
namespace L2
open PySem PySem.Spec PyProof.Rows HT PySem.SeqAt
section
variable {prog:S7}{w:N8}{A:N3}{E:G1->G2->Prop}{s:G2}
inductive RowsIn (prog:S7)(w:N8)(h:F4):G0 (G0 P4)->G0 G1->Prop
 |nil:RowsIn prog w h [] []
 |cons {r:G0 P4} {b:P5} {T:G0 (G0 P4)} {vs:G0 G1}:iA (intKind prog w) h r b->RowsIn prog w h T vs->RowsIn prog w h (r::T) (.ref b::vs)
variable {h:F4}
theorem RowsIn.one: ∀ {T U:G0 (G0 P4)} {vs:G0 G1},RowsIn prog w h T vs->RowsIn prog w h U vs->T=U
 |_,_,_,.nil,.nil=>rfl
 |_,_,_,.cons a x,.cons b y=>by rw [a.inj b,x.one y]
theorem RowsIn.keep {h':F4}(k:DZ h h'): ∀ {T:G0 (G0 P4)} {vs:G0 G1},RowsIn prog w h T vs->RowsIn prog w h' T vs
 |_,_,.nil=> .nil
 |_,_,.cons ⟨o,items,n,ho,hc,hd,hi⟩ x=> .cons ⟨o,items,n,k _ o hc ho,hc,hd,hi⟩ (x.keep k)
theorem RowsIn.each: ∀ {T:G0 (G0 P4)} {vs:G0 G1},RowsIn prog w h T vs-> ∀v∈vs,∃r b,v= .ref b/\iA (intKind prog w) h r b
 |_,_,.nil,v,hv=>absurd hv A5
 |_,_,.cons a x,v,hv=>by
  rcases S5.mp hv with e|hv
  ·exact⟨_,_,e,a⟩
  ·exact x.each v hv
def UZ (prog:S7)(w:N8)(h:F4)(T:G0 (G0 P4))(a:P5):Prop:= ∃o items n,h.get? a=some o/\o.cls= .type "tuple" /\o.data= .seq items n/\RowsIn prog w h T items.toList
def Fs (prog:S7)(w:N8)(T:G0 (G0 P4)):P4:=nO (aF (T.map (cO (intKind prog w))))
theorem VQ {Q:S9 P4->G2->Prop}(hu:A.units+4<cLine): ∀ {vs:G0 G1} {U:G0 (G0 P4)} (b:S9 P4) (s1:G2),s1.heap=s.heap->RowsIn prog w s.heap U vs->(∀tk,Q (b++(U.map (cO (intKind prog w))).toArray) {s1 with toks:=tk})->
 R7 (S2 prog w) A (forIn vs b λx r=>do let h <-pyHash x;pure (V3 (r.push h))) Q E s1
 |_,_,b,s1,_,.nil,q=>P3 (by have:=q s1.toks;simpa using this)
 |_,_,b,s1,e1,.cons (r:=r) (T:=U) a x,q=>by
  rw [dE];refine wpAny_bind (wpAny_bind (nX (by omega) (by rw [e1];exact a) (P3 ?_)));exact VQ hu (b.push (cO (intKind prog w) r)) _ e1 x λtk=>by
   have:=q tk;rw [T7] at this;simpa using this
variable {T:G0 (G0 P4)}{a:P5}
theorem Nk {Q:P4->G2->Prop}(hu:A.units+8<cLine)(hT:UZ prog w s.heap T a)(q: ∀tk,Q (Fs prog w T) {s with toks:=tk}):R7 (S2 prog w) A (pyHash (.ref a)) Q E s:=by
 obtain⟨o,items,n,ho,hc,hd,hi⟩:=hT;have ty:s.TypeIs (.ref a) "tuple" :=⟨o,ho,hc⟩;have room:A.units<cLine:=by omega
 have slot:=λ{M:pM} {A':N3} {E':G1->G2->Prop} {P:P7 G1->G2->Prop}=>bP (M:=M) (A:=A') (E:=E') (Q:=P) ty F.slot_tuple_hash.lookup
 unfold pyHash pyHashByItsType;refine wpAny_bind (wpAny_cRoomFor_or (.inr room) (wpAny_bind (slot ?_)));rw [D5 (by simp)];refine wpAny_bind (slot (wpAny_bind (wpAny_callSpecialIfBoundUnlessNone?_slot ty o4 (O0 o4 ty F.entry_tuple_hash ?_ (F.args_tuple_hash_1 _)))));show R7 _ _ (Z8 (.ref a) >>= _) _ _ s;refine wpAny_bind (wpAny_tupleItemsOf ho hd (wpAny_bind ?_));rw [<-W0];refine VQ (A:=A.in1) (show A.units+1+4<cLine by omega) #[] s rfl hi λtk=> ?_
 have told:=q (tk+1);unfold Fs nO at told;show R7 _ _ (retInt (aF ((#[]:S9 P4)++(T.map (cO (intKind prog w))).toArray).toList)) _ _ _;rw [show ((#[]:S9 P4)++(T.map (cO (intKind prog w))).toArray).toList=T.map (cO (intKind prog w)) by simp];refine wpAny_ret_mkInt ?_;show R7 _ _ (pyHashByItsType.reduced _) _ _ _;unfold pyHashByItsType.reduced;split
 ·rename_i c;rw [D4 c] at told;exact P3 told
 ·rename_i c;rw [D5 c] at told;exact wpAny_bind (fK (P3 told))
theorem Rf (d:G3){x:G0 P4}{a:P5}{Q:M7->G2->Prop}:iA (intKind prog w) s.heap x a->Q true s->R7 (S2 prog w) A (mX (d+1) (.ref a)) Q E s
 |⟨_,_,_,ho,hc,hd,hi⟩,q=>by
  unfold mX;refine wpAny_bind (bP (T:= "tuple") ⟨_,ho,hc⟩ F.slot_tuple_eq.lookup (wpAny_bind (j5 (T:= "tuple") ⟨_,ho,hc⟩ lO ?_)));simp only [fX,C0,↓reduceIte];refine wpAny_bind (X1 ho hd (wpAny_bind ?_));simp only [cM,<-W0];refine yG _ (λv hv Q' q'=> ?_) (P3 q);rw [eqIsQuiet_byValue d (hi.byValue v hv)];exact P3 q'
variable {Q:M7->G2->Prop}
theorem Rg:UZ prog w s.heap T a->Q true s->R7 (S2 prog w) A (mX 8 (.ref a)) Q E s
 |⟨_,_,_,ho,hc,hd,hi⟩,q=>by
  unfold mX;refine wpAny_bind (bP (T:= "tuple") ⟨_,ho,hc⟩ F.slot_tuple_eq.lookup (wpAny_bind (j5 (T:= "tuple") ⟨_,ho,hc⟩ lO ?_)));simp only [fX,C0,↓reduceIte];refine wpAny_bind (X1 ho hd (wpAny_bind ?_));simp only [cM,<-W0];refine yG _ (λv hv Q' q'=> ?_) (P3 q);obtain⟨r,b,rfl,hr⟩:=hi.each v hv;exact wpAny_bind (Rf 6 hr (P3 q'))
theorem Ft:UZ prog w s.heap T a->Q false s->R7 (S2 prog w) A (X5 8 (.ref a)) Q E s
 |⟨_,_,_,ho,hc,hd,hi⟩,q=>by
  unfold X5;refine wpAny_bind (gI (T:= "tuple") ⟨_,ho,hc⟩ ?_);simp only [Z4,↓reduceIte,pure_bind,fX,C0];refine wpAny_bind (X1 ho hd (wpAny_bind ?_));simp only [<-W0];refine yG _ (λv hv Q' q'=> ?_) (P3 q);obtain⟨r,b,rfl,hr⟩:=hi.each v hv;exact wpAny_bind (Rb 6 hr (P3 q'))
theorem Fu:UZ prog w s.heap T a->Q true s->R7 (S2 prog w) A (dU 8 (.ref a)) Q E s
 |⟨_,_,_,ho,hc,hd,hi⟩,q=>by
  unfold dU;refine wpAny_bind (bP (T:= "tuple") ⟨_,ho,hc⟩ F.slot_tuple_hash.lookup (wpAny_bind (X1 ho hd (wpAny_bind ?_))));simp only [cM,<-W0];refine yG _ (λv hv Q' q'=> ?_) (P3 q);obtain⟨r,b,rfl,hr⟩:=hi.each v hv;exact wpAny_bind (Rc 6 hr (P3 q'))
theorem Ya: ∀ {ks:G0 P4} {vs:G0 G1},ItemsAre (intKind prog w) ks vs->ReadsAll h vs (ks.map bH) []
 |_,_,.nil=> .nil
 |_,_,.cons a x=>by
  obtain⟨tk,rfl⟩:=Bl a;exact .cons (as:= []) (bs:= []) (.int _ _) (Ya x)
theorem JJ: ∀ {T:G0 (G0 P4)} {vs:G0 G1},RowsIn prog w h T vs->ReadsAll h vs (T.map yt) []
 |_,_,.nil=> .nil
 |_,_,.cons ⟨_,_,_,ho,hc,hd,hi⟩ x=> .cons (as:= []) (bs:= []) (.tuple ho hc hd (Ya hi)) (JJ x)
theorem Fv {U:G0 (G0 P4)}{b:P5}(hu:A.units+8<cLine)(hT:UZ prog w s.heap T a)(hU:UZ prog w s.heap U b)(q:Q (decide (T=U)) s):R7 (S2 prog w) A (eqBool (.ref a) (.ref b)) Q E s:=by
 obtain⟨_,_,_,ho,hc,hd,hi⟩:=hT;obtain⟨_,_,_,ho',hc',hd',hi'⟩:=hU;have lay: ∀V:G0 (G0 P4),F6 (.tuple (V.map yt))=true:=λV=>by simp only [F6];exact wt V
 have dep:K2 (.tuple (T.map yt))<=4:=by simp only [K2];have:=wV T;omega
 refine eqBoolOverData prog w A E s _ _ _ _ _ _ Q (.tuple ho hc hd (JJ hi)) (.tuple ho' hc' hd' (JJ hi')) (lay T) (lay U) (by have:=qH (K2 (.tuple (T.map yt))) (K2 (.tuple (U.map yt)));omega) ?_;show Q (L0 (T.map yt) (U.map yt)) s;rw [wv];exact q
def SE (prog:S7)(w:N8):MemK prog w (G0 (G0 P4)) where
 is:=λh T a=>UZ prog w h T a
 hash:=Fs prog w
 inj:=λ⟨_,_,_,ho,_,hd,hi⟩ ⟨_,_,_,ho',_,hd',hi'⟩=>by
  rw [ho] at ho';cases ho';rw [hd] at hd';cases hd';exact hi.one hi'
 keep:=λk ⟨o,items,n,ho,hc,hd,hi⟩=>⟨o,items,n,k _ o hc ho,hc,hd,hi.keep k⟩
 hashed:=λhu hk q=>Nk hu hk q
 same:=λhu hx hy q=>Fv hu hx hy q
 quiet:=λhk q=>Rg hk q
 cls:=λhk q=>Ft hk q
 byv:=λhk q=>Fu hk q
end
def Nl (H:Hp):G0 V->G0 (G0 P4)->Prop
 | [],[]=>True
 |v::vs,r::T=>(∃c,v= .ref c/\H c=some (.tup (r.map V.int)))/\Nl H vs T
 |_,_=>False
def Em (H:Hp)(T:G0 (G0 P4))(b:P5):Prop:= ∃us,H b=some (.tup us)/\Nl H us T
theorem Rh {X:Cx}{pins:G0 (P5×Obj)}{σ:St}{H:Hp}{s:G2}(I:Inv X pins σ H s): ∀ {vs:G0 V} {T:G0 (G0 P4)} {us:G0 G1},Nl H vs T->Vals vs us->RowsIn X.prog X.w s.heap T us
 | [],[],_,_,.nil=> .nil
 |_::_,r::_,_,⟨⟨c,e,hc⟩,x⟩,.cons rv y=>by
  subst e;cases rv;exact .cons (AA I r c hc) (Rh I x y)
theorem AC {X:Cx}{pins:G0 (P5×Obj)}{σ:St}{H:Hp}{s:G2}(I:Inv X pins σ H s)(T:G0 (G0 P4))(b:P5)(h:Em H T b):(SE X.prog X.w).is s.heap T b:=by
 obtain⟨us,hb,x⟩:=h;obtain⟨_,its,rv,o,e,c,_,n,d⟩:=I.hok b _ hb;exact⟨o,its.toArray,n,e,c,d,by rw [List.toList_toArray];exact Rh I x rv⟩
theorem Ri {K:G5}{H:Hp}: ∀ {T:G0 (G0 P4)} {vs:G0 V},RelDs K H (T.map yB) vs->Nl H vs T
 | [],vs,r=>by
  have:vs= []:=r;subst this;exact aV
 |row::T,vs,r=>by
  obtain⟨v,us,e,r1,r2⟩:=(show ∃v r,vs=v::r/\RelD K H (yB row) v/\RelDs K H (T.map yB) r from r);obtain⟨a,ws,e4,hH,r4⟩:=(show ∃a vs,v= .ref a/\H a=some (.tup vs)/\RelDs K H (row.map D.int) vs from r1);rw [jX r4] at hH;subst e;exact⟨⟨a,e4,hH⟩,Ri r2⟩
end L2
namespace L2
open PySem PySem.Spec PyProof.Rows PySem.W
structure DefIn (K:Frag)(x:Str)(st:J9)(f:P5)(fd:N9):Prop where
 at_:nsIn K E3 x=some (some (.ref f))
 fn:Fun K x x st f fd
variable {K:Frag}{h base:F4}{mg:Str->P7 G1}{x:Str}{st:J9}{f:P5}{fd:N9}{P:S7}{w:N8}{n:G3}{ps:G0 Str}
theorem AD {oc:G1}{od an:P7 P5}{osl:S9 (P7 G1)}{kV doc pm cdv ct:G1}(a:nsIn K E3 x=some (some (.ref f)))(l:K.lookup f=some ⟨oc,od,.func (fnOf x x (yw st) (zS st) (jd st) .none kV doc pm an cdv ct),osl⟩)
 (c:codeIn K cdv x=true)(k:keepIn K (.ref f)=true):DefIn K x st f (fnOf x x (yw st) (zS st) (jd st) .none kV doc pm an cdv ct):=⟨a,Oa l c k⟩
abbrev SF (x:Str)(st:J9)(ps:G0 Str):Prop:= ∀ (kV doc pm:G1) (an:P7 P5) (cdv ct:G1) (us:G0 G1),us.length=ps.length->tV (fnOf x x (yw st) (zS st) (jd st) .none kV doc pm an cdv ct) ⟨us,[]⟩=pure (ps.zip us)
theorem DefIn.nm (d:DefIn K x st f fd)(X:K.In h)(G:h.Ns E3 mg):mg x=some (.ref f):=mg_of X G d.at_
theorem DefIn.cal {sp:RDn}(d:DefIn K x st f fd)(l:OpenLaw)(w:N8)(base:F4)(X:K.In h)(G:h.Ns E3 mg)(ok:FnOk l.prog w K mg base CX0 n f fd ps (LSp K sp))(b:SF x st ps:=by first|(exact λ_ _ _ _ _ _ us hl=>match us,hl with| [_],_=>rfl)|(exact λ_ _ _ _ _ _ us hl=>match us,hl with| [_,_],_=>rfl)|(exact λ_ _ _ _ _ _ us hl=>match us,hl with| [_,_,_],_=>rfl)|(exact λ_ _ _ _ _ _ us hl=>match us,hl with| [_,_,_,_],_=>rfl)|(exact λ_ _ _ _ _ _ us hl=>match us,hl with| [_,_,_,_,_],_=>rfl)):jh l.prog w K mg base n x ps sp:=⟨_,_,ok,d.fn.binds b,d.fn.kp,d.nm X G⟩
def zsB (K:Frag):M7:= ["len","max","min","divmod","all","any","repr","sum","sorted","int","tuple","list","set","bool","isinstance","range","zip","enumerate","reversed"].all λx=>nsIn K E3 (Str.ofString x)==some none
theorem SG (X:K.In h)(G:h.Ns E3 mg)(e:zsB K=true):Zs mg:=by
 unfold zsB at e;rw [C3] at e;have m:=λ(x:V8) hx=>mg_none_of X G (beq_iff_eq.mp (e x hx))
 exact⟨m "len" (by decide),m "max" (by decide),m "min" (by decide),m "divmod" (by decide),m "all" (by decide),m "any" (by decide),m "repr" (by decide),m "sum" (by decide),m "sorted" (by decide),m "int" (by decide),m "tuple" (by decide),m "list" (by decide),m "set" (by decide),m "bool" (by decide),m "isinstance" (by decide),m "range" (by decide),m "zip" (by decide),m "enumerate" (by decide),m "reversed" (by decide)⟩
end L2
namespace L2
open PySem PySem.Spec PyProof.Rows
def kvV (kvs:G0 (P4×V)):G0 (Key×V):=kvs.map λp=>((K5 p.1:Key),p.2)
def Wu {α:Type}(kv:G0 (P4×α))(k:P4):P7 α:=(kv.find? λp=>decide (p.1=k)).map (·.2)
def Xa {α:Type}(kv:G0 (P4×α))(k:P4)(d:α):G0 (P4×α):=if (Wu kv k).isSome then kv.map (λp=>if p.1=k then (p.1,d) else p) else kv++ [(k,d)]
section
variable {α:Type}{kv r:G0 (P4×α)}{p:P4×α}{k:P4}
theorem YJ (e:p.1=k):Wu (p::r) k=some p.2:=by simp [Wu,X6,e]
theorem YK (e: ¬p.1=k):Wu (p::r) k=Wu r k:=by simp [Wu,X6,e]
end
section
variable {K:G5}{H:Hp}{k:P4}
theorem Zy: ∀ {kv:G0 (P4×D)} {kvs:G0 (P4×V)},kv.map (·.1)=kvs.map (·.1)->RelDs K H (kv.map (·.2)) (kvs.map (·.2))->(∀d,Wu kv k=some d-> ∃v,Vm (kvV kvs) (K5 k)=some v/\RelD K H d v)/\(Wu kv k=none->Vm (kvV kvs) (K5 k)=none)
 | [],[],_,_=>⟨λ_ z=>(nomatch z),λ_=>rfl⟩
 |p::r,[],e,_=>by cases e
 | [],q::s,e,_=>by cases e
 |p::r,q::s,e,h=>by
  rw [T7,T7] at e;injection e with e1 e2
  obtain⟨v,t,z,h1,h2⟩:=(show ∃v t,q.2::s.map (·.2)=v::t/\RelD K H p.2 v/\RelDs K H (r.map (·.2)) t from h);injection z with z1 z2
  subst z1;subst z2
  by_cases c:p.1=k
  ·rw [YJ c];refine⟨λd z=> ?_,λz=>by cases z⟩;injection z with z
   subst z;exact⟨q.2,Zo (by show (K5 q.1:Key)=_;rw [<-e1,c]),h1⟩
  ·rw [YK c];have n: ¬ (K5 q.1:Key)=K5 k:=λz=>by injection z with z;exact c (e1.trans z)
   show (∀d,_-> ∃v,Vm ((K5 q.1,q.2)::kvV s) _=_/\_)/\(_->Vm ((K5 q.1,q.2)::kvV s) _=_);rw [Zp n];exact Zy e2 h2
theorem Nm {kv:G0 (P4×D)}{kvs:G0 (P4×V)}{d:D}{v:V}(e:kv.map (·.1)=kvs.map (·.1))(r:RelDs K H (kv.map (·.2)) (kvs.map (·.2)))(rd:RelD K H d v): ∃kvs',UA (kvV kvs) (K5 k) v=kvV kvs'/\(Xa kv k d).map (·.1)=kvs'.map (·.1)/\RelDs K H ((Xa kv k d).map (·.2)) (kvs'.map (·.2)):=by
 have g:=Zy (k:=k) e r
 by_cases c:(Wu kv k).isSome
 ·obtain⟨d0,hd0⟩:=cX.mp c;obtain⟨v0,hv0,_⟩:=g.1 d0 hd0;refine⟨kvs.map λp=>if p.1=k then (p.1,v) else p,?_,?_,?_⟩
  ·unfold UA;rw [Zq,hv0];show hO _ (kvV kvs)=_;unfold kvV;rw [S8,S8];refine B6 λp _=> ?_
   show (if (K5 p.1:Key)=K5 k then _ else _)=_
   by_cases z:p.1=k
   ·rw [D4 (by rw [z])];show _=((K5 (if p.1=k then (p.1,v) else p).1:Key),(if p.1=k then (p.1,v) else p).2);rw [D4 z]
   ·rw [D5 (λw=>z (by injection w))];show _=((K5 (if p.1=k then (p.1,v) else p).1:Key),(if p.1=k then (p.1,v) else p).2);rw [D5 z]
  ·unfold Xa;rw [D4 c,S8,S8];have a1:kv.map ((·.1)∘λp=>if p.1=k then (p.1,d) else p)=kv.map (·.1):=B6 λp _=>by show (if p.1=k then (p.1,d) else p).1=p.1;split<;>rfl
   have a2:kvs.map ((·.1)∘λp=>if p.1=k then (p.1,v) else p)=kvs.map (·.1):=B6 λp _=>by show (if p.1=k then (p.1,v) else p).1=p.1;split<;>rfl
   rw [a1,a2,e]
  ·unfold Xa;rw [D4 c];clear g c hd0 hv0
   induction kv generalizing kvs with
   |nil=>cases kvs with
    |nil=>exact .nil
    |cons q s=>cases e
   |cons p t ih=>cases kvs with
    |nil=>cases e
    |cons q s=>
     rw [T7,T7] at e;injection e with e1 e2
     obtain⟨u,w,z,h1,h2⟩:=(show ∃v t',q.2::s.map (·.2)=v::t'/\RelD K H p.2 v/\RelDs K H (t.map (·.2)) t' from r);injection z with z1 z2
     subst z1;subst z2;refine⟨(if q.1=k then (q.1,v) else q).2,_,rfl,?_,ih e2 h2⟩;show RelD K H (if p.1=k then (p.1,d) else p).2 _
     by_cases z:p.1=k
     ·rw [D4 z,D4 (e1 ▸ z)];exact rd
     ·rw [D5 z,D5 (e1 ▸ z)];exact h1
 ·have hn:Wu kv k=none:=by simpa using c
  refine⟨kvs++ [(k,v)],?_,?_,?_⟩
  ·rw [RZ v (g.2 hn)];unfold kvV;rw [C6];rfl
  ·unfold Xa;rw [D5 c,C6,C6,e];rfl
  ·unfold Xa;rw [D5 c,C6,C6];exact r.append (.cons rd .nil)
theorem Nn {α:Type}{kv:G0 (P4×α)}{d:α}:(Xa kv k d).length<=kv.length+1:=by
 unfold Xa;split
 ·rw [G8];omega
 ·rw [P0];exact P2 _
end
def AE:TED:=λ_ h Q=> ∀p,h.dc p=none->Q (.dct p) (NK h p (.ik []))
section
variable {X:Cx}
theorem AF {pos:Pos}:JE X (.Dict [] [] pos) AE:=⟨pe_dnewK.imp λσ H Q ⟨IG,h,Qd,rs,rh,t,p⟩ q hq=>
 p (.dct q) (.ref q) _ _ (.new hq) (rh.newC (c:= .ik []) hq ⟨[],ji,rfl,.nil⟩) rfl (t q (rh.freeC hq))⟩
def SH (td ty tv:TED):TSD:=λE σ h=>tv σ h λv h1=>td σ h1 λx h2=>ty σ h2 λy h3=> ∃a k kv,x= .dct a/\y= .int k/\h3.dc a=some (.ik kv)/\kv.length<1000/\E.nx σ (NK h3 a (.ik (Xa kv k v)))
theorem SJ {k : G3} {o i value : M5} {td ty tv : TED} {pos pos' : Pos} (hr : Room k X.A) (ho : JE X o td) (hi : JE X i ty) (hv : JE X value tv) (hs : Y6 value (some (.Subscript o i pos')) pos.line X.env = pure false := by rfl) : JS X (.Assign [.Subscript o i pos'] value pos) (SH td ty tv) :=
  ⟨(BO (by have := hr.un; omega) ho.to hi.to hv.to hs).imp fun D σ H ⟨IG, h, Dd, rs, rh, t, nx, _⟩ => LE.bind rs rh t fun d v h1 H1 k1 rs1 rh1 r1 t1 => LE.bind rs1 rh1 t1 fun d2 v2 h2 H2 k2 rs2 rh2 r2 t2 => LE.bind rs2 rh2 t2 fun d3 v3 h3 H3 k3 rs3 rh3 r3 ⟨a, x, kv, e1, e2, e, hl, q⟩ => by
    subst e1 e2
    cases (show v2 = .ref a from r2)
    cases (show v3 = .int x from r3)
    obtain ⟨kvs, hH, ek, rv⟩ := (show ∃ kvs : G0 (P4 × V), _ from rh3.dc a _ e)
    obtain ⟨kvs', p1, p2, p3⟩ := Nm (k := x) ek rv ((r1.mono k2).mono k3)
    have ob : DObj (.dK (kvV kvs)) := .inl ⟨kvs, rfl⟩
    have hl' : (kvV kvs).length < sizeLine := by
      unfold kvV
      rw [G8, show kvs.length = kv.length by have := congrArg fY ek; simpa using this.symm]
      exact N0 hl (by decide)
    refine ⟨a, _, rfl, .k (k := K5 x) hH hl', nx IG _ σ _ (k1.trans (k2.trans (k3.trans (.putD hH ob)))) (rs3.mono (.putD hH ob)) (rh3.putC (c := .ik (Xa kv x d)) hH ob ⟨kvs', ?_, p2, p3.mono (.putD hH ob)⟩) q⟩
    rw [ji]
    exact congrArg (fun z => some (HO.dK z)) p1⟩
def AG (td ty tx:TED):TED:=λσ h Q=>td σ h λx h1=> ∃a kv0,x= .dct a/\h1.dc a=some (.ik kv0)/\ty σ h1 λy h2=>tx σ h2 λz h3=> ∃k kv,y= .int k/\h3.dc a=some (.ik kv)/\Q ((Wu kv k).getD z) h3
theorem AH {k : G3} {o e f : M5} {td ty tx : TED} {apos cpos : Pos} (hr : Room k X.A) (ho : JE X o td) (he : JE X e ty) (hf : JE X f tx) (m : M2 X o "get" apos e f cpos := by exact ⟨rfl, rfl, rfl, rfl⟩) : JE X (.Call (.Attribute o "get" apos) [e, f] [] cpos) (AG td ty tx) :=
  ⟨(Mb (by have := hr.un; omega) ho.to he.to hf.to m).imp fun σ H Q ⟨IG, h, Qd, rs, rh, t, post⟩ => LE.bind rs rh t fun d v h1 H1 k1 rs1 rh1 r1 ⟨a, kv0, e1, z1, t1⟩ => by
    subst e1
    cases (show v = .ref a from r1)
    obtain ⟨kvs0, hH0, _⟩ := (show ∃ kvs : G0 (P4 × V), _ from rh1.dc a _ z1)
    refine ⟨a, rfl, .inl ⟨_, .inl hH0⟩, LE.bind rs1 rh1 t1 fun d2 v2 h2 H2 k2 rs2 rh2 r2 t2 => LE.bind rs2 rh2 t2 fun d3 v3 h3 H3 k3 rs3 rh3 r3 ⟨x, kv, e2, e, q⟩ => ?_⟩
    subst e2
    cases (show v2 = .int x from r2)
    obtain ⟨kvs, hH, ek, rv⟩ := (show ∃ kvs : G0 (P4 × V), _ from rh3.dc a _ e)
    refine ⟨_, .k (k := K5 x) hH, post ((Wu kv x).getD d3) _ _ _ (k1.trans (k2.trans k3)) rh3 ?_ q⟩
    show RelD X.K H3 ((Wu kv x).getD d3) ((Vm (kvV kvs) (K5 x)).getD v3)
    cases g : Wu kv x with
    | none => rw [(Zy ek rv).2 g]; exact r3
    | some d => obtain ⟨u, hu, ru⟩ := (Zy ek rv).1 d g; rw [hu]; exact ru⟩
theorem AI {P:S7}{w:N8}{k:P4}{v:G1}(h:(jU P w).is (K5 k) v=true):RelV (.int k) v:=nY h
end
theorem Sub.overC {h h':HD}{a:P5}{c:DC}(sb:Sub h h')(e:h.dc a=none):Sub h (NK h' a c):=⟨sb.ls,λb xs z=>by
 rw [Yn (λw=>by subst w;rw [e] at z;cases z)];exact sb.dc b xs z⟩
end L2
namespace L2
theorem Rj {g:G3->G3->M7}{n:G3}: ∀ {t:G3} {w:G0 G3},w.length=t+1->(∀i∈w,i<n)->w.Nodup->(∀i∈w,w.headD 0<=i)->(∀i x y,w[i]? =some x->w[i+1]? =some y->g x y=true)->w∈lev g n t
 |0,w,hl,lt,_,_,_=>by
  obtain⟨a,rfl⟩:=k5.mp hl;exact R8.mpr ⟨a,D3.mpr (lt a (by simp)),rfl⟩
 |t+1,w,hl,lt,nd,low,go=>by
  obtain⟨v,j,rfl⟩: ∃v j,w=v++ [j]:=⟨w.dropLast,w.getLast (by intro z;rw [z] at hl;cases hl),(List.dropLast_concat_getLast _).symm⟩;have lv:v.length=t+1:=by rw [P0,Q1] at hl;omega
  have hd:(v++ [j]).headD 0=v.headD 0:=by cases v with|nil=>cases lv|cons a r=>rfl
  have nv:=fE.mp nd;have jn:j ∉ v:=λz=>nv.2.2 j z j (by simp) rfl
  have hh:v.headD 0∈v:=by cases v with|nil=>cases lv|cons a r=>exact P6 ..
  rw [hd] at low;have mv:=Rj (g:=g) (n:=n) lv (λi hi=>lt i (N4 _ hi)) nv.1 (λi hi=>low i (N4 _ hi)) λi x y e1 e2=>go i x y (by rw [N2 (D6.mp e1).1];exact e1) (by rw [N2 (D6.mp e2).1];exact e2)
  refine fQ.mpr ⟨v,mv,R8.mpr ⟨j,J1.mpr ⟨D3.mpr (lt j (by simp)),?_⟩,rfl⟩⟩;have la:v[t]? =some (v.getLastD 0):=by rw [cR,cS,lv,Nat.add_sub_cancel,G7 (by omega)];rfl
  have g1:=go t _ j (by rw [N2 (by omega)];exact la) (by rw [S0 (by omega),lv,gK];rfl);have lj:=low j (by simp);have ne:v.headD 0≠j:=λz=>jn (z ▸ hh)
  unfold TH;rw [g1,D9 (show v.headD 0<j by omega),T6 jn];rfl
theorem Rk {g:G3->G3->M7}{n s:G3}{w:G0 G3}(h:w∈lev g n s)(b:g (w.getLastD 0) (w.headD 0)=true): ∀t,s<t->w∈SA g n t
 |t+1,ht=>by
  rcases A0 s t with z|z
  ·exact N4 _ (Rk h b t z)
  ·have:t=s:=by omega
   subst this;exact P8 _ (J1.mpr ⟨h,b⟩)
theorem Xb {n:G3}{w:G0 G3}(nd:w.Nodup)(lt: ∀i∈w,i<n):w.length<=n:=by
 have:=Wi (ys:=G6 n) nd λx hx=>D3.mpr (lt x hx)
 rwa [R6] at this
section
variable {n e:G3}{T:G0 (G0 P4)}
theorem Gs {w:G0 G3}(ne:w≠ [])(lt: ∀i∈w,i<n)(nd:w.Nodup)(low: ∀i∈w,w.headD 0<=i)(go: ∀i x y,w[i]? =some x->w[i+1]? =some y->ent T x y>0)(back:ent T (w.getLastD 0) (w.headD 0)>0):w∈Qb T n:=by
 obtain⟨t,ht⟩: ∃t,w.length=t+1:=⟨w.length-1,by have:=List.length_pos_iff.mpr ne;omega⟩;have:=Xb nd lt;exact(Gn _).mem_iff.mpr (Rk (Rj (g:=TJ T) ht lt nd low λi x y e1 e2=>D9 (go i x y e1 e2)) (D9 back) n (by omega))
theorem Rl (h:Sq n e T){i j:G3}(hi:i<n)(hj:j<n)(z:ent T i j≠0):ent T i j>0:=by have:=(h.ent_nn hi hj).1;omega
theorem Gt (h:Sq n e T)(hn:n<=8){m:G3}(m1:1<=m){v:G3->G3}(vl: ∀t,v t<n)(per: ∀t,v (t+m)=v t)(inj: ∀a b,a<m->b<m->v a=v b->a=b)(st: ∀t,RP n T 1 (v t) (v (t+1))): ∃s,(G6 m).map (λt=>v (s+t))∈Qb T n:=by
 obtain⟨s,hs⟩: ∃s,∀t,v s<=v t:=by
  have key: ∀k,∃s,∀t,t<k+1->v s<=v t:=λk=>by
   induction k with
   |zero=>exact⟨0,λt ht=>by rw [show t=0 by omega];exact P2 _⟩
   |succ k ih=>
    obtain⟨s,hs⟩:=ih;rcases A0 (v (k+1)) (v s) with z|z
    ·exact⟨k+1,λt ht=>by
      rcases A0 t (k+1) with y|y
      ·have:=hs t y;omega
      ·rw [show t=k+1 by omega];exact P2 _⟩
    ·exact⟨s,λt ht=>by
      rcases A0 t (k+1) with y|y
      ·exact hs t y
      ·rw [show t=k+1 by omega];exact z⟩
  obtain⟨s,hs⟩:=key m;have red: ∀t,v t=v (t%m):=λt=>by
   have: ∀q r,v (r+q*m)=v r:=λq r=>by
    induction q with
    |zero=>rw [tJ,W4]
    |succ q ih=>rw [cL,<-bS,per,ih]
   have e:=this (t / m) (t%m);rw [Y2,qI] at e;exact e
  exact⟨s,λt=>by rw [red t];exact hs _ (by have:=X7 t m1;omega)⟩
 have red: ∀t,v t=v (t%m):=λt=>by
  have: ∀q r,v (r+q*m)=v r:=λq r=>by
   induction q with
   |zero=>rw [tJ,W4]
   |succ q ih=>rw [cL,<-bS,per,ih]
  have e:=this (t / m) (t%m);rw [Y2,qI] at e;exact e
 have hd:((G6 m).map λt=>v (s+t)).headD 0=v s:=by
  obtain⟨k,rfl⟩: ∃k,m=k+1:=⟨m-1,by omega⟩;rw [kW];rfl
 refine⟨s,Gs ?_ (λi hi=>by obtain⟨t,_,rfl⟩:=R8.mp hi;exact vl _) ?_ (λi hi=>by obtain⟨t,_,rfl⟩:=R8.mp hi;rw [hd];exact hs _) (λi x y e1 e2=> ?_) ?_⟩
 ·intro z;have:=congrArg fY z;rw [G8,R6] at this;simp at this;omega
 ·refine O4.mpr ((fO (n:=m)).imp_of_mem λ{a b} ha hb ne z=> ?_);have ha:=D3.mp ha;have hb:=D3.mp hb;have z:v (s+a)=v (s+b):=z;rw [red (s+a),red (s+b)] at z;have:=inj _ _ (X7 _ m1) (X7 _ m1) z;refine ne ?_;have d1:=gD (s+a) m;have d2:=gD (s+b) m;rcases b6 ((s+a) / m) ((s+b) / m) with c|c|c
  ·have:=m8 m (show (s+a) / m+1<=(s+b) / m from c);rw [dS] at this;omega
  ·rw [c] at d1;omega
  ·have:=m8 m (show (s+b) / m+1<=(s+a) / m from c);rw [dS] at this;omega
 ·have h1:=(D6.mp e2).1;rw [G8,R6] at h1;rw [D2,O9 (by omega)] at e1 e2;injection e1 with e1
  injection e2 with e2
  subst e1;subst e2;exact Rl h (vl _) (vl _) ((Di h hn).mp (st (s+i)))
 ·have la:((G6 m).map λt=>v (s+t)).getLastD 0=v (s+(m-1)):=by
   rw [cR,cS,G8,R6,D2,O9 (by omega)];rfl
  rw [hd,la];have:=st (s+(m-1));rw [show s+(m-1)+1=s+m by omega,per] at this;exact Rl h (vl _) (vl _) ((Di h hn).mp this)
def Rm (T:G0 (G0 P4))(n:G3):G3:=((Qb T n).map fY).foldl qN 0
theorem Rn {w:G0 G3}(hw:w∈Qb T n):Rm T n∣w.length:=((XR _ 0 (Rm T n)).mp (Nat.dvd_refl _)).2 _ (C8 hw)
theorem VR (h:Sq n e T)(hn:n<=8): ∀ (m:G3) {p:G3},p<n->RP n T m p p->Rm T n∣m:=by
 intro m
 induction m using G3.strongRecOn with
 |_ m ih=>
  intro p hp r;rcases nU m with z|m1
  ·rw [z];exact Nat.dvd_zero _
  obtain⟨v,v0,vm,vl,vr⟩:=VA h hn m hp hp r
  by_cases c: ∃a b,a<b/\b<m/\v a=v b
  ·obtain⟨a,b,ab,bm,e1⟩:=c;have r1:=zU h hn vl vr a (b-a) (by omega);rw [show a+(b-a)=b by omega,<-e1] at r1;have r2:=zU h hn vl vr 0 a (by omega);rw [Q8,v0] at r2;have r3:=zU h hn vl vr b (m-b) (by omega);rw [show b+(m-b)=m by omega,vm,<-e1] at r3;have d1:=ih (b-a) (by omega) (vl a (by omega)) r1;have d2:=ih (a+(m-b)) (by omega) hp (vw h hn hp (vl a (by omega)) hp r2 r3);have:=Nat.dvd_add d1 d2
   rwa [show b-a+(a+(m-b))=m by omega] at this
  ·obtain⟨s,hs⟩:=Gt h hn (T:=T) (n:=n) m1 (v:=λt=>v (t%m)) (λt=>vl _ (by have:=X7 t m1;omega)) (λt=>by show v ((t+m)%m)=_;rw [Nat.add_mod_right]) (λa b ha hb z=>by
    have z:v (a%m)=v (b%m):=z;rw [fT ha,fT hb] at z;rcases b6 a b with y|y|y
    ·exact absurd ⟨a,b,y,hb,z⟩ c
    ·exact y
    ·exact absurd ⟨b,a,y,ha,z.symm⟩ c) (λt=>by
    show RP n T 1 (v (t%m)) (v ((t+1)%m));have lt:=X7 t m1;have:=vr (t%m) lt;rcases A0 (t%m+1) m with z|z
    ·rw [show (t+1)%m=t%m+1 by rw [mQ,fT (show 1<m by omega),fT z]];exact this
    ·have e2:(t+1)%m=0:=by
      rw [<-gD t m,show m*(t / m)+t%m+1=m*(t / m+1) by rw [dS];omega];exact Nat.mul_mod_right _ _
     rw [e2,v0,<-vm,show m=t%m+1 by omega];rw [show t%(t%m+1)=t%m by rw [show t%m+1=m by omega]];exact this)
   have:=Rn hs
   rwa [G8,R6] at this
theorem SK (h:Sq n e T)(hn:n<=8){i j:G3}(hi:i<n)(w:wk T n i j=true):j<n/\ ∃k,RP n T k i j:=
 Zx (P:=λi j=>i<n->j<n/\ ∃k,RP n T k i j) (λi hi=>⟨hi,0,(zT hi hi).mpr rfl⟩) (λi j z hi=>⟨Fb h i j z,1,(Di h hn).mpr z⟩) (λi k j a b hi=>by
  obtain⟨hk,k1,r1⟩:=a hi;obtain⟨hj,k2,r2⟩:=b hk;exact⟨hj,k1+k2,vw h hn hi hk hj r1 r2⟩) w hi
theorem Fw (h:Sq n e T)(hn:n<=8)(one:(FW T n).length=1){i j:G3}(hi:i<n)(hj:j<n): ∃k,RP n T k i j:=by
 obtain⟨S,e1⟩:=k5.mp one;have a:pcS T n i∈FW T n:=mem_pcs.mpr ⟨i,hi,rfl⟩;have b:pcS T n j∈FW T n:=mem_pcs.mpr ⟨j,hj,rfl⟩;rw [e1] at a b;have:j∈pcS T n i:=by rw [G9.mp a,<-G9.mp b];exact Re hj
 exact(SK h hn hi (mem_pc.mp this).2.1).2
end
section
variable {n e:G3}{T U:G0 (G0 P4)}
theorem Ro (h:Sq n e T){o:G0 G3}(ho:Ordr n o)(hn:n<=8){k i j:G3}(hi:i<n)(hj:j<n):RP n (Zt n o T) k i j↔RP n T k (o.idxOf i) (o.idxOf j):=by
 unfold RP;rw [<-PY h ho hn,wu hi hj]
end
end L2
set_option maxRecDepth 35000
namespace L2
section
variable {n e:G3}{T:G0 (G0 P4)}
theorem Fx {a l b d:G3}(h1:d∣a+b)(h2:d∣l+b):a%d=l%d:=by
 have key: ∀a l:G3,a<=l->d∣a+b->d∣l+b->a%d=l%d:=λa l c h1 h2=>by
  obtain⟨t,rfl⟩:=Nat.exists_eq_add_of_le c;have:d∣t:=(oO h1).mp (by rw [show a+b+t=a+t+b by omega];exact h2);rw [mQ,kZ this,W4,uL]
 rcases Nat.le_total a l with c|c
 ·exact key a l c h1 h2
 ·exact(key l a c h2 h1).symm
theorem fit (h:Sq n e T)(hn:n<=8)(one:(FW T n).length=1){i j k l:G3}(hi:i<n)(hj:j<n)(a:RP n T k i j)(b:RP n T l i j):k%Rm T n=l%Rm T n:=by
 obtain⟨c,rc⟩:=Fw h hn one hj hi;exact Fx (VR h hn _ hi (vw h hn hi hj hi a rc)) (VR h hn _ hi (vw h hn hi hj hi b rc))
end
end L2
namespace L2
open PySem PySem.Spec PyProof.Rows
section
variable {X:Cx}{k i:G3}{ps N Pn:G0 Str}{spd:RDn}{x:Str}{p pos pos':Pos}{e e2 e3 e4 iter elt:M5}{es ifs:G0 M5}{t:TAD}{te te2 te3 te4:TED}{ti:TID}{tt:TTD}{scope sc:U2}{c:M5}
theorem jk (C:jh X.prog X.w X.K X.mg X.base k x ps spd)(hr:Room k X.A)(ha:JA X (e::es) t)(hg:Gl X x:=by rfl)(hdb:(x==("__debug__" :Str))=false:=by decide)(he:R4 (e::es) X.env=(false,E5 e X.env)::R4 es X.env:=by rfl)(hpl:(K6 pos (R4 es X.env)).any (·.1)=false:=by rfl):JE X (.Call (.Name x p) (e::es) [] pos) (dCB spd t):=by
 obtain⟨g,gd,F,hb,hk,hm⟩:=C;exact Sr F hr hg hm hk hb ha hdb he hpl
theorem j1 (a:JE X e te)(h:zg e=true:=by rfl):JA X [e] (zm te ZJ):=jac a Vu h
theorem j2 (a:JE X e te)(b:JE X e2 te2)(h:zg e=true:=by rfl)(h2:zg e2=true:=by rfl):JA X [e,e2] (zm te (zm te2 ZJ)):=jac a (j1 b h2) h
theorem j3 (a:JE X e te)(b:JE X e2 te2)(c:JE X e3 te3)(h:zg e=true:=by rfl)(h2:zg e2=true:=by rfl)(h3:zg e3=true:=by rfl):JA X [e,e2,e3] (zm te (zm te2 (zm te3 ZJ))):=jac a (j2 b c h2 h3) h
theorem j4 (a:JE X e te)(b:JE X e2 te2)(c:JE X e3 te3)(d:JE X e4 te4)(h:zg e=true:=by rfl)(h2:zg e2=true:=by rfl)(h3:zg e3=true:=by rfl)(h4:zg e4=true:=by rfl):JA X [e,e2,e3,e4] (zm te (zm te2 (zm te3 (zm te4 ZJ)))):=jac a (j3 b c d h2 h3 h4) h
theorem No (Z:Zs X.mg)(a:JE X e te)(hg:Gl X "len" :=by rfl)(h:zg e=true:=by rfl)(he:R4 [e] X.env=(false,E5 e X.env)::R4 [] X.env:=by rfl)(hpl:(K6 pos (R4 [] X.env)).any (·.1)=false:=by rfl):JE X (.Call (.Name "len" p) [e] [] pos) (dCB FV (zm te ZJ)):=wT OJ hg Z.len PySem.boot_len (j1 a h) (by decide) (by decide) he hpl
theorem jse (i:G3)(S:FnScope X.N Pn sc)(he:JE X e te)(hi:X.N[i]? =some x:=by rfl)(hx:Loc X.env.scope x:=by first|exact W5 rfl|exact bU rfl)(hs:Y6 e (some (.Name x pos')) pos.line X.env=pure false:=by rfl)(hf:X.fn x=true\/X.env.scope.names.lookup x=some .local:=by first|exact .inl rfl|exact .inr rfl|assumption):JS X (.Assign [.Name x pos'] e pos) (Mi i te):=HE S.nd hi hx he hs hf
theorem jgn (i:G3)(S:FnScope X.N Pn sc)(hi:X.N[i]? =some x:=by rfl)(hx:Loc X.env.scope x:=by first|exact W5 rfl|exact bU rfl)(hf:X.fn x=true\/X.env.scope.names.lookup x=some .local:=by first|exact .inl rfl|exact .inr rfl|assumption):JG X (.Name x pos) (gN i):=CA S.nd hi hx hf
theorem jl0 (i:G3)(S:FnScope X.N Pn sc)(hi:JI X (.Name x p) iter ti)(he: ∀C s₀ H₀ ex,JE (yy X scope C s₀ H₀ ex) elt te)(hc:X.calm=true:=by rfl)(hB:Py X.N X.env.scope.names scope [i]=true:=by rfl)(hx:X.N[i]? =some x:=by rfl)(hl:scope.names.lookup x=some .local\/scope.names.lookup x=some .cell:=by first|exact W5 rfl|exact bU rfl)(hs: ∀x,M0 iter X.env x=pure x:=by intro _;rfl):JE X (.ListComp elt [⟨.Name x p,iter,[],0⟩] scope pos) (WP (bN i) [i] ti vd te):=
 jlc hc (zG hB) hi (G9.mpr rfl) S.nd hx hl (λX' hX=>yA) (λX' hX=>by obtain⟨C,s₀,H₀,ex,rfl⟩:=hX;exact he C s₀ H₀ ex) hs
theorem fsc {N P:G0 Str}(a:sc.kind= .function:=by rfl)(b:sc.isCoroutine=false:=by rfl)(c:sc.isGenerator=false:=by rfl)(d:N.Nodup:=by decide +kernel)(e:N.take P.length=P:=by rfl)(f: ∀x∈P,sc.names.lookup x=some .local\/sc.names.lookup x=some .cell:=by decide +kernel)(g: ∀y∈sc.names,y.2≠ .free:=by decide +kernel):FnScope N P sc:=⟨a,b,c,d,e,f,g⟩
theorem jc1 {op:iI}{f:RD2}(ho:OpQ X (B0 op) f)(ha:JE X e te)(hb:JE X e2 te2)(hm:W1 op e2=false:=by exact NI _):JE X (.Compare e [op] [e2] pos) (dOp f te te2):=Tx ho ha hb hm
theorem jt1 {op:iI}{f:RD2}(ho:OpQ X (B0 op) f)(ha:JE X e te)(hb:JE X e2 te2)(hm:W1 op e2=false:=by exact NI _):JT X (.Compare e [op] [e2] pos) (vS (dOp f te te2)):=Cw ho ha hb hm
theorem ji1 (ha:JE X e te)(hb:JE X e2 te2)(hs:Yk e2:=by exact λ_ _=>rfl):JE X (.Subscript e e2 pos) (dOp ixD te te2):=jix ha hb hs
theorem jrg {tg:M5}(Z:Zs X.mg)(ha:JE X e te)(hg:Gl X "range" :=by rfl)(h:zg e=true:=by rfl)(hs:R4 [e] X.env= [(false,E5 e X.env)]:=by rfl):JI X tg (.Call (.Name "range" p) [e] [] pos) (iR1 (zm te ZJ)):=So hg Z.range (j1 ha h) hs
end
section
variable {P:S7}{w:N8}{K:G5}{mg:Str->P7 G1}{base:F4}{x qual:Str}{st:J9}{f:P5}{fd:N9}{N ps:G0 Str}{k:G3}
theorem Fun.okM {spd:RDn}(F:Fun K x qual st f fd)(S:FnScope N ps (jd st)){tb:TSD}(hbody: ∀ {cdv:G1} {A:N3} {outer:G0 Env} {s:G2} {H:Hp} {E:XK},Room k (A.deeper (gU qual (jd st) s.heap.objs.size f cdv))->JSs (RT CX0 P w K mg base N qual (jd st) f cdv A outer s H E).nox (zS st) tb)
 (read: ∀ds h Q,spd ds h Q->ds.length=ps.length/\tb (RJ Q) (wS N ds) h):FnOk P w K mg base CX0 (k+1) f fd ps (LSp K spd):=F.okJ S (λds h Q q=>(read ds h Q q).1) tb (λ_ _ _ _ _ _ hr=>hbody hr) λds h Q q=>(read ds h Q q).2
end
theorem wE {t u:TSD}{E:EndsD}{σ:SD}{h:HD}(IS:SD)(first: ∀K:SD->HD->Prop,K IS h->t {E with nx:=K} σ h)(rest:u E IS h):WO t u E σ h:=first (u E) rest
theorem sz0:0<=sizeLine:=by decide
theorem sz1:1<=sizeLine:=by decide
theorem sz2:2<=sizeLine:=by decide
theorem sz3:3<=sizeLine:=by decide
theorem sz4:4<=sizeLine:=by decide
theorem sz6:6<=sizeLine:=by decide
section
variable {X:Cx}{s0 s1 s2 s3 s4 s5 s6 s7:J9}{t0 t1 t2 t3 t4 t5 t6 t7:TSD}{c:M5}{tc:TTD}{pos:Pos}
theorem js2 (a:JS X s0 t0)(b:JS X s1 t1):JSs X [s0,s1] (WO t0 t1):=(wL a (zl b))
theorem js3 (a:JS X s0 t0)(b:JS X s1 t1)(c:JS X s2 t2):JSs X [s0,s1,s2] (WO t0 (WO t1 t2)):=(wL a (wL b (zl c)))
theorem js4 (a:JS X s0 t0)(b:JS X s1 t1)(c:JS X s2 t2)(d:JS X s3 t3):JSs X [s0,s1,s2,s3] (WO t0 (WO t1 (WO t2 t3))):=(wL a (wL b (wL c (zl d))))
theorem js5 (a:JS X s0 t0)(b:JS X s1 t1)(c:JS X s2 t2)(d:JS X s3 t3)(e:JS X s4 t4):JSs X [s0,s1,s2,s3,s4] (WO t0 (WO t1 (WO t2 (WO t3 t4)))):=(wL a (wL b (wL c (wL d (zl e)))))
theorem Us (hc:JT X c tc)(h:JS X s0 t0):JS X (.If c [s0] [] pos) (Mh tc t0 UC):=Ty hc (zl h) NT
end
end L2
namespace L2
open PySem PySem.Spec PyProof.Rows HT
def Qr:Hp->G0 (P5×HO)->Hp
 |H,[]=>H
 |H,p::ps=>Qr (upd H p.1 p.2) ps
theorem yY: ∀ {ps:G0 (P5×HO)} {H:Hp} {b:P5},b ∉ ps.map (·.1)->Qr H ps b=H b
 | [],_,_,_=>rfl
 |p::ps,H,b,n=>by
  rw [T7,S5,not_or] at n;exact(yY (H:=upd H p.1 p.2) n.2).trans (jg n.1)
theorem Xc: ∀ {ps:G0 (P5×HO)} {H:Hp},(ps.map (·.1)).Nodup-> ∀p∈ps,Qr H ps p.1=some p.2
 |p::ps,H,nd,q,hq=>by
  rw [T7,L9] at nd;rcases S5.mp hq with e|e
  ·subst e;exact(yY (H:=upd H q.1 q.2) nd.1).trans ji
  ·exact Xc (H:=upd H p.1 p.2) nd.2 q e
theorem Qs: ∀ {ps qs:G0 (P5×HO)} {H:Hp},Qr H (ps++qs)=Qr (Qr H ps) qs
 | [],_,_=>rfl
 |p::ps,qs,H=>Qs (ps:=ps) (H:=upd H p.1 p.2)
theorem wg {ps:G0 (P5×HO)}{H:Hp}(fr: ∀p∈ps,H p.1=none){b:P5}{o:HO}(e:H b=some o):Qr H ps b=some o:=by
 rw [yY];exact e;intro z;obtain⟨p,hp,rfl⟩:=R8.mp z;rw [fr p hp] at e;cases e
theorem SL {ps:G0 (P5×HO)}{H:Hp}(fr: ∀p∈ps,H p.1=none):Kept H (Qr H ps):=
 ⟨λ_ _ e=>wg fr e,λ_ xs e=>⟨xs,wg fr e⟩,λ_ _ _ e=>wg fr e,λ_ _ _ e=>wg fr e⟩
theorem RelH.newM {K:G5}{h:HD}: ∀ {ps:G0 (P5×HO)} {H:Hp},RelH K h H->(ps.map (·.1)).Nodup->(∀p∈ps,H p.1=none)->RelH K h (Qr H ps)
 | [],_,r,_,_=>r
 |p::ps,H,r,nd,fr=>by
  rw [T7,L9] at nd;refine RelH.newM (ps:=ps) (H:=upd H p.1 p.2) (r.new (fr p P6)) nd.2 λq hq=> ?_
  have ne:q.1≠p.1:=λz=>nd.1 (z ▸ C8 (f:=(·.1)) hq)
  rw [jg ne];exact fr q (R3 _ hq)
theorem HOk.bare {P:S7}{w:N8}{H:Hp}{h:F4}{a:P5}(x:HOk P w H h)(e:h.get? a=none):H a=none:=by
 cases q:H a with
 |none=>rfl
 |some u=>obtain⟨v,z⟩:=(x a u q).there;rw [e] at z;cases z
section
variable {X:Cx}{pins:G0 (P5×Obj)}{σ:St}{H:Hp}{s:G2}{h':F4}
theorem Inv.laidM {ps:G0 (P5×HO)}{t':G3}(I:Inv X pins σ H s)(k: ∀b u,s.heap.get? b=some u->h'.get? b=some u)(nd:(ps.map (·.1)).Nodup)(hp: ∀p∈ps,s.heap.get? p.1=none)
 (new: ∀p∈ps,ObjOk X.prog X.w (Qr H ps) h' p.1 p.2):Inv X pins σ (Qr H ps) {s with heap:=h',toks:=t'}:=by
 have fr: ∀p∈ps,H p.1=none:=λp hq=>I.hok.bare (hp p hq)
 refine I.un ⟨λb u q _ _ _=>k b u q,λb u q _ _ _=>⟨u.slots,k b u q⟩,λb u q n _=> ?_,λb u q _=>⟨u,k b u q⟩,λb xs q=>wg fr q,λb u xs q=>wg fr q,λb ps' q=>⟨#[],by rw [wg fr q];simp⟩⟩ λb u e=> ?_
 ·rw [yY];exact n;intro z;obtain⟨p,hq,rfl⟩:=R8.mp z;rw [hp p hq] at q;cases q
 ·by_cases hb:b∈ps.map (·.1)
  ·obtain⟨p,hq,rfl⟩:=R8.mp hb;rw [Xc nd p hq] at e;cases e;exact new p hq
  ·rw [yY hb] at e;exact(I.hok b u e).stay (λc v _ q=>k c v q) (λc q=>wg fr q) λc xs q=>wg fr q
end
abbrev Yb (a:P5):Obj:= {cls:= .type "dict_items",data:= .fields #[.ref a]}
section
variable {X:Cx}
def AJ:V->G0 V->Hp->VK->Prop:=λx vs H Q=> ∃a kv,x= .ref a/\vs= []/\H a=some (.dK kv)/\ ∀p,H p=none->Q (.ref p) (upd H p (.frz (Yb a) (.own 0)))
theorem Np:MtR X "dict.items" AJ:=by
 intro pins s σ H x vs v us Q I rx rv ⟨a,kv,e1,e2,e,q⟩;subst e1 e2;cases rx;have hus:=rv.zero;subst hus;obtain⟨z,hd,vs,rel,dd⟩:=BM I.hok e;refine oG kG dd.typeIs sN (rO _) (meets_dict_items (jU X.prog X.w) a hd) ⟨⟨vs,dd⟩,?_⟩;have new:(s.heap.push (Yb a)).get? s.heap.objs.size=some (Yb a):=T5 _ rfl;exact⟨.ref s.heap.objs.size,_,I.laid (t':=s.toks) (a:=s.heap.objs.size) (o:= .frz (Yb a) (.own 0)) (λb u e=>P1 _ e) (P2 _) ⟨new,⟨_,new⟩⟩,rfl,q _ (I.hok.fresh (P2 _))⟩
theorem Yc {α β:Type}{R:α->β->Prop}: ∀ {xs:G0 α} {ys:G0 β} {i:G3} {x:α} {y:β},Paired R xs ys->xs[i]? =some x->ys[i]? =some y->R x y
 |_,_,0,_,_,.cons r _,e1,e2=>by simp at e1 e2;subst e1 e2;exact r
 |_,_,i+1,_,_,.cons _ t,e1,e2=>Yc t (by simpa using e1) (by simpa using e2)
 |_,_,_,_,_,.nil,e1,_=>by cases e1
theorem Xd {α β:Type}{l:G0 α}{m:G0 β}(h:l.length=m.length):(l.zip m).map (·.1)=l:=List.map_fst_zip (K0 h)
theorem Xe {α β:Type}{l:G0 α}{m:G0 β}(h:l.length=m.length):(l.zip m).map (·.2)=m:=List.map_snd_zip (K0 h.symm)
theorem YL {k:G3}(hc:X.calm=true)(hr:Room k X.A):CallR X (.builtin "sorted") (λxs H Q=> ∃ (p a:P5) (kns:G0 (P4×P4)),xs= [.ref p]/\H p=some (.frz (Yb a) (.own 0))/\H a=some (.dK (kvV (kns.map λx=>(x.1,V.int x.2))))/\kns.length<1000/\
 ∀ (ps:G0 (P5×HO)) (q:P5) (ts:G0 (V×G0 P4)),(ps.map (·.1)).Nodup->(∀x∈ps,H x.1=none)->Qr H ps q=none->(∀x∈ts,TF (Qr H ps) x.1 x.2)->(ts.map (·.2)).Perm (kns.map λx=> [x.1,x.2])->(ts.map (·.2)).Pairwise (λx y=>HT.jy y x=false)->Q (.ref q) (upd (Qr H ps) q (.lst (ts.map (·.1))))):=by
 intro pins s σ H xs us Q I r h;obtain⟨p,a,kns,rfl,hp,ha,few,q⟩:=h;obtain⟨u,rfl,ru⟩:=vK r;cases ru;have hu:X.A.in1.in1.units<cLine:=by
  have:=hr.un;show X.A.units+1+1<cLine;omega
 obtain⟨z,hd,vs,rel,o,es,ep,ho,r1⟩:=BM I.hok ha;have dd:s.heap.DictAt (jU X.prog X.w) a vs ep:=⟨o,es,ho,r1⟩;have hl:vs.length=kns.length:=by rw [<-rel.length];unfold kvV;rw [G8,G8]
 have hv:s.heap.IsItemsView p a:=⟨_,(I.hok p _ hp).1,rfl,rfl⟩;refine cQ pP oI oJ (oK _) (wpAny_bind (P3 (wpAny_bind (uU (I.ok.hd hc) hv dd (by rw [hl];exact S4 (R9 few) (by decide)) λh1 tk as kept len G=> ?_))));have la:as.length=kns.length:=len.trans hl;have tup: ∀z∈as.zip kns,∃key x,RelV (.int z.2.1) key/\RelV (.int z.2.2) x/\h1.get? z.1=some {cls:= .type "tuple",data:= .seq #[key,x]}:=λz hz=>by
  obtain⟨j,hj⟩:=List.mem_iff_getElem?.mp hz;have e1:as[j]? =some z.1:=by have:=congrArg (λl=>l[j]?) (Xd la);simp only [D2,hj] at this;exact this.symm
  have e2:kns[j]? =some z.2:=by have:=congrArg (λl=>l[j]?) (Xe la);simp only [D2,hj] at this;exact this.symm
  obtain⟨key,kk,x,e3,e4,e5⟩:=G.pairs j z.1 e1;have e6:(kvV (kns.map λx=>(x.1,V.int x.2)))[j]? =some ((K5 z.2.1:Key),V.int z.2.2):=by
   unfold kvV;rw [S8,D2,e2];rfl
  obtain⟨g1,g2⟩:=Yc rel e6 e3;have g1:(K5 z.2.1:Key)=kk:=g1;subst g1;exact⟨key,x,AI e4,g2,e5⟩
 have IT1: ∀z∈as.zip kns,IT h1 (.ref z.1) [z.2.1,z.2.2]:=λz hz=>by
  obtain⟨key,x,⟨t1,rfl⟩,⟨t2,rfl⟩,e⟩:=tup z hz;exact⟨z.1,_,rfl,⟨_,e,rfl,_,rfl⟩,.cons _ _ (.cons _ _ .nil)⟩
 have er:as.map L6=(as.zip kns).map λz=>L6 z.1:=by
  conv=>lhs;rw [<-Xd la]
  rw [S8];rfl
 have hz:(as.map L6).length<=sizeLine:=by rw [G8,la];exact S4 (R9 few) (by decide)
 have fresh:(h1.push (a7 "list" (as.map L6).toArray 0)).get? h1.objs.size=some (a7 "list" (as.map L6).toArray 0):=T5 _ rfl;have kp: ∀h',Ba {s with heap:=h1.push (a7 "list" (as.map L6).toArray 0),toks:=tk} h1.objs.size h'->Wf h1 h':=λh' p b x e=>p b x (T2 (R1 e)) (P1 _ e)
 have it: ∀v∈as.map L6,∃ns,IT h1 v ns:=λv hv=>by
  rw [er] at hv;obtain⟨z,hz,rfl⟩:=R8.mp hv;exact⟨_,IT1 z hz⟩
 refine wpAny_bind (fV (wpAny_bind (L7 (O0 mD ⟨_,fresh,rfl⟩ lC (MU (s:= {s with heap:=h1.push (a7 "list" (as.map L6).toArray 0),toks:=tk}) (κ:=Dz h1 (as.map L6)) (U:=λx=> ∃ns,IT h1 x.1 ns) (R:=λx y=>HT.jy (zp h1 x.1) (zp h1 y.1)) fresh hz
  (λh2 h' p=>DA (s:= {s with heap:=h',toks:=tk}) h2 it (kp h' p) ⟨rfl,tk,rfl⟩) (λh' p=>DB (s:= {s with heap:=h1}) hu (kp h' p)) (Dy _) it λout c tk' h' p' e1 e2 e3=>⟨_,rfl,?_⟩) (mE _)))) hz)
 refine P3 ⟨_,rfl,?_⟩;rw [er] at e2;obtain⟨zs,pz,rfl⟩:=VG e2;have inz: ∀z∈zs,z∈as.zip kns:=λz hz=>pz.mem_iff.mp hz
 have k2:=kp h' p';generalize hps:(as.zip kns).map (λz=>(z.1,HO.tup [V.int z.2.1,V.int z.2.2]))=ps;have kps:ps.map (·.1)=as:=by rw [<-hps,S8];exact Xd la
 have nd:as.Nodup:=G.rise.imp λ{x y} l=>T2 l
 have ndq:((ps++ [(h1.objs.size,HO.lst (zs.map λz=>V.ref z.1))]).map (·.1)).Nodup:=by
  rw [C6,kps,fE];refine⟨nd,by simp,λx hx y hy e=> ?_⟩;have:y=h1.objs.size:=by simpa using hy
  exact absurd (G.there hx) (by rw [e,this];exact C4 _)
 have big: ∀p∈ps++ [(h1.objs.size,HO.lst (zs.map λz=>V.ref z.1))],s.heap.get? p.1=none:=λp hp=>by
  cases e:s.heap.get? p.1 with
  |none=>rfl
  |some u=>
  rcases R5.mp hp with w|w
  ·exact absurd (G.above p.1 (kps ▸ C8 w)) (U5.mpr (R9 (R1 e)))
  ·rw [G9.mp w] at e;exact absurd (R1 (kept _ _ e)) (C4 _)
 have I2:=I.laidM (t':=tk') (h':=h') (ps:=ps++ [(h1.objs.size,HO.lst (zs.map λz=>V.ref z.1))]) (λb u e=>k2 b u (kept b u e)) ndq big (λp hp=>by
  rcases R5.mp hp with w|w
  ·rw [<-hps] at w;obtain⟨z,hz,rfl⟩:=R8.mp w;obtain⟨key,x,ry1,ry2,e⟩:=tup z hz;exact⟨by show 2<=sizeLine;decide,[key,x],.cons ry1 (.cons ry2 .nil),_,k2 _ _ e,rfl,rfl,0,rfl⟩
  ·rw [G9.mp w];refine⟨?_,_,c,?_,e1⟩
   ·rw [G8,pz.length_eq,List.length_zip,la,Nat.min_self];exact S4 (R9 few) (by decide)
   ·have vv: ∀l:G0 (P5×P4×P4),Vals (l.map λz=>V.ref z.1) (l.map λz=>L6 z.1):=λl=>by
     induction l with
     |nil=>exact .nil
     |cons z l ih=>exact .cons rfl ih
    exact vv zs)
 rw [Qs] at I2;have fr: ∀x∈ps,H x.1=none:=λx hx=>I.hok.bare (big x (N4 _ hx))
 have ndp:(ps.map (·.1)).Nodup:=kps ▸ nd;have ino:h1.objs.size ∉ ps.map (·.1):=λw=>by
  rw [kps] at w;exact absurd (G.there w) (C4 _)
 have e7:(zs.map λz=>((V.ref z.1,[z.2.1,z.2.2]):V×G0 P4)).map (·.1)=zs.map λz=>V.ref z.1:=by rw [S8];rfl
 have e8:(zs.map λz=>((V.ref z.1,[z.2.1,z.2.2]):V×G0 P4)).map (·.2)=zs.map λz=> [z.2.1,z.2.2]:=by rw [S8];rfl
 refine⟨.ref h1.objs.size,_,I2,rfl,?_⟩;have fin:=q ps h1.objs.size (zs.map λz=>(V.ref z.1,[z.2.1,z.2.2])) ndp fr (by rw [yY ino];exact I.hok.bare (big _ (P8 _ (G9.mpr rfl)))) (λx hx=> ?_) ?_ ?_
 ·rw [e7] at fin;exact fin
 ·obtain⟨z,hz,rfl⟩:=R8.mp hx;refine⟨z.1,rfl,?_⟩;exact Xc ndp (z.1,HO.tup [V.int z.2.1,V.int z.2.2]) (hps ▸ C8 (f:=λz:P5×P4×P4=>(z.1,HO.tup [V.int z.2.1,V.int z.2.2])) (inz z hz))
 ·rw [e8];have:=(pz.map λz:P5×P4×P4=> [z.2.1,z.2.2]);rw [show (as.zip kns).map (λz:P5×P4×P4=> [z.2.1,z.2.2])=kns.map λx=> [x.1,x.2] by rw [<-Xe la,S8,Xe la];rfl] at this;exact this
 ·rw [e8];rw [O4,O4] at e3;rw [O4];refine e3.imp_of_mem λ{x y} hx hy e=> ?_
  rw [(IT1 x (inz x hx)).nums,(IT1 y (inz y hy)).nums] at e;exact e
def HY (td:TED):TED:=λσ h Q=>td σ h λx h1=> ∃ (a:P5) (kns:G0 (P4×P4)),x= .dct a/\h1.dc a=some (.ik (kns.map λx=>(x.1,D.int x.2)))/\kns.length<1000/\ ∀ (p:P5) (mss:G0 (G0 P4)),h1 p=none->mss.Perm (kns.map λx=> [x.1,x.2])->mss.Pairwise (λx y=>HT.jy y x=false)->Q (.lst p) (zZ h1 p (mss.map tI))
theorem HZ {k : G3} {o : M5} {td : TED} {p apos cpos pos : Pos} (hr : Room k X.A) (hc : X.calm = true) (hg : Gl X "sorted") (hm : X.mg "sorted" = none) (ho : JE X o td) (hbase : Y4 o "items" X.env (E5 o X.env) = E5 o X.env := by rfl) (hline : (apos.endLine == cpos.line) = true := by rfl)
    (h1 : R4 [.Call (.Attribute o "items" apos) [] [] cpos] X.env = (false, E5 (.Call (.Attribute o "items" apos) [] [] cpos) X.env) :: R4 [] X.env := by rfl) (h2 : (K6 pos (R4 [] X.env)).any (·.1) = false := by rfl) :
    JE X (.Call (.Name "sorted" p) [.Call (.Attribute o "items" apos) [] [] cpos] [] pos) (HY td) :=
  ⟨(Zn (YL hc hr) hg hm (by decide +kernel) (yu (LW i4 kG sS Np ho.to hbase hline) pa_nil h1) (by decide) (by decide) h1 h2).imp
    fun σ H Q ⟨IG, h, Qd, rs, rh, t, post⟩ => LE.bind rs rh t fun d v h1 H1 k1 rs1 rh1 r1 ⟨a, kns, e, hd, few, q⟩ => by
      subst e
      cases (show v = .ref a from r1)
      obtain ⟨kvs, hH, ek, rv⟩ := (show ∃ kvs : G0 (P4 × V), _ from rh1.dc a _ hd)
      have ekv : kvs = kns.map fun x => (x.1, V.int x.2) := by
        clear hd hH q few
        induction kns generalizing kvs with
        | nil => cases kvs with
          | nil => rfl
          | cons _ _ => cases ek
        | cons y kns ih => cases kvs with
          | nil => cases ek
          | cons w kvs =>
            rw [T7, T7, T7] at ek
            injection ek with e1 e2
            obtain ⟨u, tl, z, g1, g2⟩ := (show ∃ v t, w.2 :: kvs.map (·.2) = v :: t ∧ RelD X.K H1 (.int y.2) v ∧ RelDs X.K H1 ((kns.map fun x => (x.1, D.int x.2)).map (·.2)) t from rv)
            injection z with z1 z2
            subst z1 z2
            rw [T7, ← ih kvs e2 g2]
            have g1 : w.2 = V.int y.2 := g1
            rw [← g1]
            obtain ⟨w1, w2⟩ := w
            have e1 : y.1 = w1 := e1
            subst e1
            rfl
      subst ekv
      refine ⟨.inr (.inr (.inl ⟨rfl, .inl ⟨_, hH⟩⟩)), a, _, rfl, rfl, hH, fun c hcn => ?_⟩
      have rh2 := rh1.new (o := .frz (Yb a) (.own 0)) hcn
      refine ⟨c, a, kns, rfl, ji, by rw [jg (je hH hcn)]; exact hH, few, fun ps l ts nd fr hl ht pm srt => ?_⟩
      have rh3 := rh2.newM nd fr
      exact post (.lst l) (.ref l) _ _ (k1.trans ((Kept.new hcn).trans ((SL fr).trans (.new hl)))) (rh3.newL hl (DD ht)) ⟨rfl, _, ji⟩ (q l (ts.map (·.2)) (rh3.free hl) pm srt)⟩
end
end L2
namespace L2
open PySem PySem.Spec PyProof.Rows
def Nq (n:G3)(H:G0 (G0 P4)):G3->G0 (G0 P4)->P4->P4
 |0,_,_=>0
 |m+1,F,k=>if jI F=true then k else Nq n H m (jj n (yr n F H)) (k+1)
def vc (n:G3)(T:G0 (G0 P4)):P4:=Nq n (jj n T) ((n-1)*(n-1)+1) (jj n T) 1
section
variable {α β:Type}
def Zz (ts:G0 α):G3->G0 (G0 α)
 |0=> [[]]
 |m+1=>(Zz ts m).flatMap λr=>ts.map λt=>r++ [t]
theorem JK (ts:G0 α): ∀m,(Zz ts m).length=ts.length^m
 |0=>rfl
 |m+1=>by
  have: ∀l:G0 (G0 α),(l.flatMap λr=>ts.map λt=>r++ [t]).length=l.length*ts.length:=λl=>by
   induction l with
   |nil=>simp
   |cons x l ih=>rw [K1,P0,ih,G8,D8,cL];omega
  show ((Zz ts m).flatMap _).length=_;rw [this,JK ts m,I0]
theorem VS (ts:G0 α): ∀ {m:G3} {r:G0 α},r∈Zz ts m->r.length=m/\ ∀x∈r,x∈ts
 |0,r,h=>by
  rw [G9.mp h];exact⟨rfl,λx hx=>by cases hx⟩
 |m+1,r,h=>by
  obtain⟨q,hq,h2⟩:=fQ.mp h;obtain⟨t,ht,rfl⟩:=R8.mp h2;obtain⟨l,a⟩:=VS ts hq;refine⟨by rw [P0,l];rfl,λx hx=> ?_⟩;rcases R5.mp hx with z|z
  ·exact a x z
  ·rw [G9.mp z];exact ht
theorem Xf (f:α->β)(ts:G0 α): ∀m,Zz (ts.map f) m=(Zz ts m).map (hO f)
 |0=>rfl
 |m+1=>by
  show (Zz (ts.map f) m).flatMap _=((Zz ts m).flatMap _).map _;rw [Xf f ts m,kH,List.flatMap_map]
  congr 1
  funext r
  rw [S8,S8];exact B6 λt _=>by simp
end
def rwB:G3->G0 (G0 P4)
 |0=> [[]]
 |m+1=>(rwB m).map (· ++ [0])++(rwB m).map (· ++ [1])
theorem Rp: ∀m,(rwB m).length=2^m
 |0=>rfl
 |m+1=>by rw [rwB,P0,G8,G8,Rp m,I0];omega
def zI (s:G3):G0 (G0 (G0 P4)):=Zz (Zz [0,1] s) s
def Xg (s:G3):G0 (G0 (G0 P4)):=Zz (rwB s) s
variable {s:G3}
theorem Fy {T:G0 (G0 P4)}(l:T.length=s)(r: ∀x∈T,x.length=s/\ ∀y∈x,y∈ [(0:P4),1]):Sq s 1 T:=
 have b: ∀x∈T,∀y∈x,0<=y/\y<2^1:=λx hx y hy=>by
  have:=(r x hx).2 y hy;simp only [S5,A5,or_false] at this;rcases this with rfl|rfl<;>decide
 ⟨l,λx hx=>(r x hx).1,λx hx y hy=>(b x hx y hy).1,λx hx y hy=>(b x hx y hy).2⟩
theorem Qt {T:G0 (G0 P4)}(h:T∈zI s):Sq s 1 T:=Fy (VS _ h).1 λx hx=>VS _ ((VS _ h).2 x hx)
theorem YM (h3:s<=3):(zI s).length<=512/\(Xg s).length<=512:=by
 unfold zI Xg;rw [JK,JK,JK,Rp]
 match s,h3 with
 |0,_=>decide
 |1,_=>decide
 |2,_=>decide
 |3,_=>decide
def FX (s:G3)(kv:G0 (P4×P4))(T:G0 (G0 P4)):G0 (P4×P4):=Xa kv (vc s T) ((Wu kv (vc s T)).getD 0+1)
def GH (s:G3)(l:G0 (G0 (G0 P4))):G0 (P4×P4):=l.foldl (FX s) []
theorem Xh {s:G3}: ∀ (l:G0 (G0 (G0 P4))) (kv:G0 (P4×P4)),(l.foldl (FX s) kv).length<=kv.length+l.length
 | [],kv=>P2 _
 |T::l,kv=>by
  have:=Xh (s:=s) l (FX s kv T);have p:(FX s kv T).length<=kv.length+1:=Nn;rw [gB,D8];omega
def dnI (p:P4×P4):P4×D:=(p.1,.int p.2)
theorem Xi: ∀ (kv:G0 (P4×P4)) (k:P4),Wu (kv.map dnI) k=(Wu kv k).map D.int
 | [],k=>rfl
 |p::r,k=>by
  by_cases e:p.1=k
  ·rw [T7,YJ (p:=dnI p) e,YJ e];rfl
  ·rw [T7,YK (p:=dnI p) e,YK e];exact Xi r k
theorem Fz (kv:G0 (P4×P4))(k c:P4):Xa (kv.map dnI) k (.int c)=(Xa kv k c).map dnI:=by
 unfold Xa;rw [Xi];cases e:Wu kv k with
 |none=>simp [dnI]
 |some d=>
  simp only [Option.map_some,gW,fU];rw [S8,S8];refine B6 λp _=> ?_
  show (if p.1=k then (p.1,D.int c) else dnI p)=dnI (if p.1=k then (p.1,c) else p);split<;>rfl
def GI (s:G3):G0 (G0 P4):=((G6 7).filter λ(k:G3)=>decide ((k:P4)∈(Xg s).map (vc s))).map λ(k:G3)=> [(k:P4),(((Xg s).map (vc s)).count (k:P4):G3)]
theorem Ka:GH 1 (zI 1)= [(0,1),(1,1)]:=by decide +kernel
theorem Kb:GH 2 (zI 2)= [(0,13),(2,2),(1,1)]:=by decide +kernel
theorem Kc:GH 3 (zI 3)= [(0,373),(2,72),(4,18),(5,6),(3,42),(1,1)]:=by decide +kernel
theorem SM:GI 1= [[0,1],[1,1]]:=by decide +kernel
theorem SN:GI 2= [[0,13],[1,1],[2,2]]:=by decide +kernel
theorem AK:(Xg 3).map (vc 3)= [0,0,0,0,0,0,0,0,0,0,0,0,0,0,0,0,0,0,0,0,0,0,0,0,0,0,0,0,0,0,0,0,0,0,0,0,0,0,0,0,0,0,0,0,0,0,0,0,0,0,0,0,0,0,0,0,0,0,0,0,0,0,0,0,0,0,0,0,0,0,0,0,0,0,0,0,0,0,0,0,0,0,0,0,0,0,0,0,0,0,0,0,0,0,0,0,0,0,0,0,0,0,0,0,0,0,0,0,0,0,0,0,0,0,0,0,0,0,0,0,0,0,0,0,0,0,0,0,0,0,0,0,0,0,0,0,0,0,0,0,0,0,0,0,0,0,0,0,0,0,0,0,0,0,0,0,0,0,0,0,0,0,0,5,0,4,0,3,0,5,0,4,0,3,4,3,0,4,0,3,0,3,0,3,0,3,2,2,0,2,2,2,0,0,0,0,0,0,0,0,0,0,0,0,0,0,0,0,0,0,0,0,0,0,0,0,0,0,0,0,0,0,0,0,0,4,0,3,0,3,0,2,0,3,4,3,0,2,2,2,0,3,0,2,0,2,0,2,0,3,2,2,0,2,2,2,0,0,0,0,0,0,0,0,0,0,0,5,0,0,4,3,0,0,0,0,0,0,0,0,0,0,4,3,0,0,3,2,0,0,0,0,0,0,0,2,0,0,5,4,0,0,3,2,0,0,0,4,0,0,0,2,0,0,3,3,0,0,3,2,0,0,0,0,0,0,0,0,0,0,4,3,0,0,3,3,0,0,0,0,0,0,0,0,0,0,3,2,0,0,2,2,0,0,0,4,0,0,0,2,0,0,3,3,0,0,2,2,0,0,0,2,0,0,0,2,0,0,2,2,0,0,2,2,0,0,0,0,0,0,0,0,0,0,5,4,0,4,3,3,0,0,0,0,0,0,0,0,0,4,3,3,0,2,2,2,0,5,0,4,0,3,0,2,0,4,4,2,0,3,3,2,0,3,0,3,0,2,0,2,0,3,2,2,0,2,2,2,0,0,0,0,0,0,0,0,0,2,3,2,0,2,2,2,0,0,0,0,0,0,0,0,0,2,3,2,0,2,2,2,0,3,0,3,0,3,0,2,0,2,3,2,0,2,2,2,0,2,0,2,0,2,0,2,0,2,2,2,0,2,2,1]:=by decide +kernel
theorem SO:GI 3= [[0,373],[1,1],[2,72],[3,42],[4,18],[5,6]]:=by unfold GI;rw [AK];decide +kernel
theorem YN {l m:G0 (G0 P4)}(p:l.Perm m)(a:l.Pairwise λx y=>HT.jy y x=false)(b:m.Pairwise λx y=>HT.jy y x=false):l=m:=
 p.eq_of_pairwise (λx y _ _ e1 e2=>(HT.vx _ _ e2 e1)) a b
theorem AL (h1:1<=s)(h3:s<=3){mss:G0 (G0 P4)}(p:mss.Perm ((GH s (zI s)).map λx=> [x.1,x.2]))(a:mss.Pairwise λx y=>HT.jy y x=false):mss=GI s:=by
 have c:s=1\/s=2\/s=3:=by omega
 rcases c with rfl|rfl|rfl
 ·rw [Ka] at p;rw [SM];exact YN p a (by decide)
 ·rw [Kb] at p;rw [SN];exact YN (p.trans (by decide)) a (by decide)
 ·rw [Kc] at p;rw [SO];exact YN (p.trans (by decide)) a (by decide)
section
variable {α β:Type}{i i':G3}{js:G0 G3}{ti ti':TID}{te:TED}{σ:SD}{h:HD}{Q:KD}{j:ItD}
theorem Kd (j':ItD)(xs:G0 α)(c:α->D)(ys:α->G0 β)(c':β->D)(g:α->β->D)(hz:(xs.flatMap ys).length<=1000)(hj:j h=some (xs.map c))(ht: ∀R:ItD->HD->Prop,R j h->ti σ h R)
 (hin: ∀x∈xs,∀R:ItD->HD->Prop,R j' h->ti' ((jK js σ).set i (some (c x))) h R)
 (hj': ∀x∈xs,j' h=some ((ys x).map c'))(he: ∀x∈xs,∀y∈ys x,∀Q':KD,Q' (g x y) h->te (((jK js σ).set i (some (c x))).set i' (some (c' y))) h Q')(hq: ∀p,h p=none->Q (.lst p) (zZ h p (xs.flatMap λx=>(ys x).map (g x)))):Mk (bN i) js ti vd i' ti' vd te σ h Q:=by
 have len: ∀l:G0 α,(l.flatMap λx=>(ys x).map (g x)).length=(l.flatMap ys).length:=λl=>by
  induction l with
  |nil=>rfl
  |cons x l ih=>simp [K1,ih]
 have lek: ∀k,((xs.take k).flatMap ys).length<=(xs.flatMap ys).length:=λk=>by
  conv=>rhs;rw [<-M1 k xs,J5,P0]
  omega
 have lek1: ∀k x m,xs[k]? =some x->m<=(ys x).length->((xs.take k).flatMap ys).length+m<=(xs.flatMap ys).length:=λk x m hx hm=>by
  have:=lek (k+1);rw [B8,hx,J5,P0] at this;simp at this;simp;omega
 refine ht _ ⟨xs.length,λk zs h'=>h'=h/\zs=(xs.take k).flatMap λx=>(ys x).map (g x),⟨rfl,by simp⟩,?_⟩;rintro k zs h' ⟨rfl,rfl⟩;refine⟨by rw [len];exact R9 (jF (S4 (lek k) hz)),xs.map c,hj,by simp,λhl p hp=> ?_,λd hd=>⟨_,rfl,?_⟩⟩
 ·rw [T8 (by simpa using hl)];exact hq p hp
 ·unfold vd;dsimp only;rw [D4 rfl];rw [D2] at hd;cases hx:xs[k]? with
  |none=>rw [hx] at hd;cases hd
  |some x=>
   rw [hx] at hd;cases hd;have xm:=D0 hx;refine hin x xm _ ⟨(ys x).length,λm zs h2=>h2=h'/\zs=((xs.take k).flatMap λx=>(ys x).map (g x))++((ys x).take m).map (g x),⟨rfl,by simp⟩,?_⟩;rintro m zs h2 ⟨rfl,rfl⟩;refine⟨?_,(ys x).map c',hj' x xm,by simp,λhl=>⟨h2,Sub.refl _,rfl,?_⟩,λd hd=> ?_⟩
   ·rw [P0,len,G8,T3];have:=lek1 k x (min m (ys x).length) hx (Y7 _ _);exact R9 (jF (by omega))
   ·have hm:(ys x).take m=ys x:=T8 (by simpa using hl);rw [hm,B8,hx,J5];simp
   ·rw [D2] at hd;cases hy:(ys x)[m]? with
    |none=>rw [hy] at hd;cases hd
    |some y=>
     rw [hy] at hd;cases hd
     first
      |rw [D4 rfl]
      |(dsimp only;rw [D4 rfl])
     refine he x xm y (D0 hy) _ ⟨h2,Sub.refl _,rfl,?_⟩;rw [B8,hy];simp
end
end L2
namespace L2
open PySem PySem.Spec PyProof.Rows HT
variable {iter:M5}{ifs:G0 M5}
theorem Rq {prog:S7}{w:N8}{A:N3}{R:pA->G2->Prop}{s:G2}{e target:M5}{depth:G3}{it acc:G1}{env:Env}{act:Sem Unit}(I:G3->G2->Prop)
 (hq:(Code.compLoop e depth it acc env).quiet=true)(hd:(S2 prog w).den (.compLoop e depth it acc env)=(f6 e depth it acc env).onRaise (λx=>do sP x env;lB x))(hA:A.under (.compLoop e depth it acc env)=A)
 (heq:f6 e depth it acc env=vP iter target ifs it env act (.compLoop e depth it acc env))
 (turn: ∀n s,I n s->R7 (S2 prog w) A (qR it) (λr II=>match r with
  |none=>R (.ok .next) II
  |some v=>R7 (S2 prog w) A (bM target it v) (λ_ II=>R7 (S2 prog w) A (fJ target env v) (λ_ IW=>
   R7 (S2 prog w) A (forIn ifs true λc r=>if r=true then do let ok <-sZ c env (E5 c env);pure (V3 ok) else pure (V3 r)) (λok IO=>
    if ok=true then R7 (S2 prog w) A act (λ_ IY=> ∃m,m<n/\I m IY) (λ_ _=>False) IO
    else ∃m,m<n/\I m IO) (λ_ _=>False) IW) (λ_ _=>False) II) (λ_ _=>False) II) (λ_ _=>False) s)
 (n:G3)(h:I n s):
 aL (S2 prog w) A (.compLoop e depth it acc env) R s:=by
 refine tD hq I (λn s hI=> ?_) n h;rw [hd,hA];refine tY ?_;rw [heq];unfold vP;refine wpAny_bind (Y3 (wpAny_bind (M9 (turn n s hI) (λr II IM=> ?_) λ_ _ h'=>h'.elim)));cases r with
 |none=>exact P3 IM
 |some v=>
  refine wpAny_bind (M9 IM (λ_ II IM=> ?_) λ_ _ h'=>h'.elim);refine wpAny_bind (M9 IM (λ_ IW KA=>wpAny_bind (M9 KA (λok IO IZ=> ?_) λ_ _ h'=>h'.elim)) λ_ _ h'=>h'.elim);cases ok with
  |false=>exact P3 ⟨rfl,IZ⟩
  |true=>exact wpAny_bind (M9 IZ (λ_ IY KB=>P3 ⟨rfl,KB⟩) λ_ _ h'=>h'.elim)
abbrev TMG (α:Type):=St->Hp->α->(α->Hp->Prop)->Prop
def AM {α:Type}(X:Cx)(Acc:α->Obj->Prop)(D:P5)(act:Sem Unit)(t:TMG α):Prop:=
 ∀ (pins:G0 (P5×Obj)) (s:G2) (σ:St) (H:Hp) (ys:α) (o:Obj) (Q:α->Hp->Prop),Inv X ([(D,o)]++pins) σ H s->Acc ys o->D∈X.ex->(∀x c,X.env.cells.lookup x=some c->c≠D)->(∀p∈X.pn++pins,p.1≠D)->t σ H ys Q->
  R7 (S2 X.prog X.w) X.A act (λ_ s'=> ∃ys' o' H',Acc ys' o'/\Inv X ([(D,o')]++pins) σ H' s'/\Q ys' H') (λ_ _=>False) s
def tCG {α : Type} (Acc : α → Obj → Prop) (ho : Obj → HO) (a0 : α) (js : G0 G3) (wi : TI) (g : TG) (tt : TT) (tm : TMG α) : TE := fun σ H Q => wi σ H fun J H1 =>
  ∃ W : G3 → G3 → α → Hp → Prop, (∃ m, W 0 m a0 H1) ∧ ∀ i m ys H, W i m ys H →
    ((J.stop i H ∧ ∀ p o, H p = none → Acc ys o → Q (.ref p) (upd H p (ho o))) ∨
     (J.go i H ∧ ∀ x H', J.yld i H x H' → g x (zk js σ) H' fun IH H2 => Agree (zk js σ) IH ∧ tt IH H2 fun b H3 =>
        if b = true then tm IH H3 ys fun ys' H4 => ∃ m', m' < m ∧ W (i + 1) m' ys' H4 else ∃ m', m' < m ∧ W (i + 1) m' ys H3))
structure CompK (P:S7)(w:N8)(e:M5)(g:Y5)(rest:G0 Y5)(mk:Sem G1)(o0:Obj):Prop where
 cl:clausesOf e=g::rest
 quiet: ∀it acc env,(Code.compLoop e 0 it acc env).quiet=true
 den: ∀it acc env,(S2 P w).den (.compLoop e 0 it acc env)=(f6 e 0 it acc env).onRaise (λx=>do sP x env;lB x)
 under: ∀A it acc env,Around.under A (.compLoop e 0 it acc env)=A
 start: ∀ {A:N3} {R:pA->G2->Prop} {s:G2} {it acc env},aL (S2 P w) A (.compLoop e 0 it acc env) R s->R7 (S2 P w) A (o8 it) (λit' s'=>aL (S2 P w) A (.compLoop e 0 it' acc env) R s') (notedBy (S2 P w) A env λx s'=>R (.error x) s') s->aL (S2 P w) A (.compStart e 0 it acc env) R s
 live:o0.isFreed=false
 made: ∀ {A:N3} {Q:G1->G2->Prop} {E:G1->G2->Prop} {s:G2},Q (.ref s.heap.objs.size) {s with heap:=s.heap.push o0}->R7 (S2 P w) A mk Q E s
variable {X:Cx}{scope:U2}
theorem AN {α:Type}{Acc:α->Obj->Prop}{ho:Obj->HO}{a0:α}{mk:Sem G1}{o0:Obj}{e tg:M5}{rest:G0 Y5}{pos0:Pos}{js:G0 G3}{wi:TI}{g:TG}{tt:TT}{tm:TMG α}{use:P7 (G1->Sem Unit)}{Qv:G1->G2->Prop}(hc:X.calm=true)(S:BlockOk X scope js)(hi:PI X tg iter wi)
 (ck:CompK X.prog X.w e ⟨tg,iter,ifs,0⟩ rest mk o0)(acc0:Acc a0 o0)(nocell: ∀a o,Acc a o-> ∀v,o.data≠ .cell v)(okO: ∀ {a o H h p},Acc a o->h.get? p=some o->ObjOk X.prog X.w H h p (ho o))
 (hg: ∀X',jf X scope X'->PG X' tg g)(ht: ∀X',jf X scope X'->PTs X' ifs tt)
 (act:Env->G1->Sem Unit)(hturn: ∀it acc env,f6 e 0 it acc env=vP iter tg ifs it env (act env acc) (.compLoop e 0 it acc env))(he: ∀X',jf X scope X'-> ∀D,AM X' Acc D (act X'.env (.ref D)) tm)
 (hs: ∀x,M0 iter X.env x=pure x){pins:G0 (P5×Obj)}{s:G2}{σ:St}{H:Hp}{Q:VK}(I:Inv X pins σ H s)(h:tCG Acc ho a0 js wi g tt tm σ H Q)
 (fin: ∀ (D C:P5) (H':Hp) (s':G2) (m:Str->P7 G1),s'.heap.Ns C m->(∀h',E4 C s'.heap h'->Inv X pins σ H' {s' with heap:=h'})->H' C=none->C≠X.env.locals->C ∉ X.fs->X.s₀.heap.objs.size<=C->(∀x c,X.env.cells.lookup x=some c->c≠C)->(∀p∈X.pn++pins,p.1≠C)->
  Q (.ref D) H'->rA (S2 X.prog X.w) X.A X.xe use Qv (.ref D) C (.ok .next) s'):
 R7 (S2 X.prog X.w) X.A (iN e scope X.env pos0 mk false (E5 iter X.env) use) Qv X.xe s:=by
 have hclos:=vN (scope:=scope) (env:=X.env) (λp hp e=>I.ok.has p.1 (S.free p hp e));refine iO (use:=use) ck.cl hs hclos S.kind S.locs (thn (hi pins s σ H _ I h) λv s1 h1=>thn h1 λitv s2 h2=> ?_);obtain⟨it,fp,tn,J,H2,e,I2,T,st2,f2,W,⟨m0,w0⟩,turn⟩:=h2;subst e;refine ck.made (JZ (λIM IU IX IN IV=> ?_));dsimp only at IU IX IN IV ⊢;generalize hD:s2.heap.objs.size=D;generalize hH3:s2.heap.push o0=h3 at IU IX IN IV ⊢;have sz3:h3.objs.size=D+1:=by rw [<-hH3,b9,hD]
 have up3: ∀b o,s2.heap.get? b=some o->h3.get? b=some o:=λb o e=>hH3 ▸ P1 _ e
 have I3:Inv X pins σ H2 {s2 with heap:=h3}:=I2.kept (t':=s2.toks) up3;have hD3:h3.get? D=some o0:=by rw [<-hH3,<-hD];exact T5 _ ck.live
 have fD:Uw X pins H2 D:=I2.fpOk (by rw [hD];exact P2 _) (I2.hok.fresh (by rw [hD];exact P2 _));have obf: ∀b∈fp,∃o,s2.heap.get? b=some o/\ ∀v,o.data≠ .cell v:=T.obj _ _ st2;have ltf: ∀b∈fp,b<D:=λb hb=>by obtain⟨o,e,_⟩:=obf b hb;rw [<-hD];exact R1 e
 generalize hC:h3.objs.size=C at IU IN IV ⊢;have CD:C=D+1:=hC.symm.trans sz3;have upC: ∀b o,h3.get? b=some o->IM.get? b=some o:=IX;generalize hX:yy X scope C {s2 with heap:=h3} H2 (fp++ [D])=X';have iX:jf X scope X':=⟨C,_,_,_,hX.symm⟩;have hf: ∀b∈fp++ [D],Uw X pins H2 b:=λb hb=>(R5.mp hb).elim (f2 b) λz=>by rw [G9.mp z];exact fD
 have cl: ∀x c,(jp X scope C).lookup x=some c->X.env.cells.lookup x=some c\/C<c:=λx c e=>by
  rcases jS S e with ⟨_,z⟩|⟨_,z⟩
  ·exact .inl z
  ·exact .inr (U4 (IN x c z).2)
 have olt: ∀x c,X.env.cells.lookup x=some c->c<C:=λx c e=>by obtain⟨v,q⟩:=I3.cell x c e;rw [<-hC];exact q.lt
 have ltb: ∀b∈fp++ [D],b<C:=λb hb=>(R5.mp hb).elim (λz=>by have:=ltf b z;rw [CD];exact bY this) λz=>by rw [G9.mp z,CD];exact A4 _
 have okX:X'.Ok:=by
  subst hX;refine⟨I.ok.mod,S.kind,I.ok.glob,I.ok.blt,K0 hC,λx y c e1 e2=> ?_,λx hx=> ?_,λx c z e=> ?_,I.ok.hd,I.ok.frames,.inl rfl,λb hb=>⟨T2 (ltb b hb),λx c e=>(cl x c e).elim (λz=>(hf b hb).2.2.2.2.1 x c z) λz=>Q6 (E6 (ltb b hb) z)⟩,
   I3.bs,S4 I.ok.bsz I3.sz,λb o e hb=> ?_,λb hb z=> ?_,I3.stack,I3.stkFree⟩
  ·rcases jS S e1 with ⟨_,z1⟩|⟨_,z1⟩<;>rcases jS S e2 with ⟨_,z2⟩|⟨_,z2⟩
   ·exact I.ok.inj x y c z1 z2
   ·exact absurd (E6 (olt x c z1) (U4 (IN y c z2).2)) (C4 _)
   ·exact absurd (E6 (olt y c z2) (U4 (IN x c z1).2)) (C4 _)
   ·exact n9 IV z1 z2
  ·have own:scope.names.lookup x=some .cell-> ∃c,(jp X scope C).lookup x=some c:=λz=>by
    obtain⟨c,hc⟩:=vL (sc:=scope) (n:=C+1) z;exact⟨c,by unfold jp;rw [jE,yS,hc]⟩
   have shr:scope.names.lookup x=some .free-> ∃c,(jp X scope C).lookup x=some c:=λz=>by
    have fm:=zj z;obtain⟨c,hc⟩:=I.ok.has x (S.free _ fm rfl);exact⟨c,wB S hc fm (by rw [z];decide)⟩
   rcases hx with hx|hx
   ·rcases jl (env:=X.env) hx with z|z
    ·exact own z
    ·exact shr z
   ·rcases jl (env:=X.env) hx with z|z<;>exact shr z
  ·have z':scope.names.lookup x=some .cell:=by
    have z2:(scope.names.lookup x==some Q2)=true:=z;simpa using z2
   rcases jS S e with ⟨n,_⟩|⟨_,m⟩
   ·exact absurd z' n
   ·show h3.objs.size<=c;rw [hC];exact R9 (U4 (IN x c m).2)
  ·rcases (hf b hb).2.2.2.1 with z|z
   ·exact I.ok.noex b o e z
   ·exact absurd (N0 (R1 e) (S4 I.ok.bsz z)) (C4 _)
  ·rcases S5.mp (I.stkSub b z) with q|q
   ·exact(hf b hb).2.1 q
   ·exact(hf b hb).2.2.1 q
 -- the block's first state
 have I4:Inv X' [(D,o0)] (zk js σ) H2 {s2 with heap:=IM}:=by
  subst hX;have hDC:D≠C:=by rw [CD];exact T2 (A4 _)
  refine⟨okX,rfl,I2.bare,Un.kept (λb u e=>upC b u e),⟨_,IU,λi x v e1 e2 e3=> ?_⟩,λx c e=> ?_,I3.hok.fresh (K0 hC),λx c e=>(cl x c e).elim (λz=>I2.freeC x c z) (λz=>I3.hok.fresh (by rw [<-hC] at z;exact R9 z)),λp hp=> ?_,I3.hok.kept upC,(Jy js σ).trans I2.len⟩
  ·have fr:scope.names.lookup x=some .free:=by
    rcases e3 with e3|e3|e3
    ·rcases jl (env:=X.env) e3 with z|z
     ·exact absurd e2 (jR js σ i v (S.js i x e1 (.inl z)))
     ·exact z
    ·rcases jl (env:=X.env) e3 with z|z
     ·exact absurd e2 (jR js σ i v (S.js i x e1 (.inr z)))
     ·exact z
    ·rcases jl (env:=X.env) e3 with z|z<;>exact z
   have fm:=zj fr;obtain⟨m,hm,hl⟩:=I2.loc;have vis:=S.free _ fm rfl;obtain⟨u,r,lk⟩:=hl i x v e1 (vO js σ i v e2) (.inr vis);have kd:(tE scope X.env).names.lookup x=some .cell\/(tE scope X.env).names.lookup x=some .free:=by
    rcases e3 with e3|e3|e3
    ·rcases jl (env:=X.env) e3 with z|z
     ·rw [fr] at z;cases z
     ·exfalso;have z2:=e3
      -- a local's kind stays
      exact absurd e2 (jR js σ i v (S.js i x e1 (.inl (by
       have q: ∀ (l:G0 (Str×NameKind)),(l.map λ(n,k)=>if (k==L8&&X.env.scope.kind== .function&&X.env.kindOf n==some .cell) then (n,Q2) else (n,k)).lookup x=some .local->l.lookup x=some .local:=by
        intro l
        induction l with
        |nil=>intro h;simp at h
        |cons p l ih=>
         obtain⟨n,k'⟩:=p;intro h;have h':tZ x ((if (k'==L8&&X.env.scope.kind== .function&&X.env.kindOf n==some .cell)=true then (n,Q2) else (n,k'))::(l.map λ(n,k)=>if (k==L8&&X.env.scope.kind== .function&&X.env.kindOf n==some .cell) then (n,Q2) else (n,k)))=some .local:=h;rw [A3]
         by_cases hc:(k'==L8&&X.env.scope.kind== .function&&X.env.kindOf n==some .cell)=true
         ·rw [D4 hc,A3] at h';cases hx:x==n with
          |true=>rw [hx] at h';cases h'
          |false=>rw [hx] at h';exact ih h'
         ·rw [D5 hc,A3] at h';cases hx:x==n with
          |true=>rw [hx] at h';exact h'
          |false=>rw [hx] at h';exact ih h'
       exact q _ z2))))
    ·exact .inl e3
    ·exact .inr e3
   rcases lk with ⟨k,_⟩|⟨_,c,hc,hcell⟩
   ·have k':X.env.scope.names.lookup x=some .local:=k;rcases vis with z|z<;>(rw [k'] at z;cases z)
   ·refine⟨u,r,.inr ⟨kd,c,wB S hc fm (by rw [fr];decide),?_⟩⟩;obtain⟨o,ho,hd⟩:=hcell;exact⟨o,upC _ _ (up3 _ _ ho),hd⟩
  ·rcases jS S e with ⟨_,z⟩|⟨_,z⟩
   ·obtain⟨v,o,ho,hd⟩:=I2.cell x c z;exact⟨v,o,upC _ _ (up3 _ _ ho),hd⟩
   ·exact⟨none,(IN x c z).1⟩
  ·have hp':p∈ [(D,o0)]:=hp;rcases G9.mp hp' with rfl
   refine⟨upC _ _ hD3,fD.1,hDC,λz=> ?_,nocell _ _ acc0⟩;rcases S5.mp (I.stkSub D z) with q|q
   ·exact fD.2.1 q
   ·exact fD.2.2.1 q
 have st4:tn 0 IM:=T.keep _ _ _ st2 λb _ o e=>upC _ _ (up3 _ _ e)
 have eA:X'.A=X.A:=by rw [<-hX];rfl
 have eP:X'.prog=X.prog:=by rw [<-hX];rfl
 have eW:X'.w=X.w:=by rw [<-hX];rfl
 have eK:X'.K=X.K:=by rw [<-hX];rfl
 have eC:X'.calm=true:=by rw [<-hX];exact hc
 have eV:X'.env=i5 scope (jp X scope C) C X.env:=by rw [<-hX];rfl
 have eE:X'.xe=λ_ _=>False:=by rw [<-hX];rfl
 -- what stays true of the iterator's objects
 have stat: ∀ {us:Obj} {H':Hp},(∀b∈fp,H' b=none)-> ∀b∈fp,Uw X' [(D,us)] H' b:=λ{us H'} hn b hb=>by
  have q:=hf b (N4 _ hb);subst hX;refine⟨hn b hb,T2 (ltb b (N4 _ hb)),λz=> ?_,.inl (N4 _ hb),λx c e=>(cl x c e).elim (λz=>q.2.2.2.2.1 x c z) (λz=>Q6 (E6 (ltb b (N4 _ hb)) z)),λp hp=> ?_⟩
  ·rcases S5.mp (I.stkSub b z) with r|r
   ·exact q.2.1 r
   ·exact q.2.2.1 r
  ·have hp':p∈ [(D,us)]:=hp;rcases G9.mp hp' with rfl
   exact Q6 (ltf b hb)
 have loop: ∀IO:G2,IO= {s2 with heap:=IM}->
  aL (S2 X.prog X.w) X.A (.compLoop e 0 (.ref it) (.ref D) (i5 scope (jp X scope C) C X.env))
   (rA (S2 X.prog X.w) X.A X.xe use Qv (.ref D) C) IO:=by
  rintro IO rfl;refine Rq (act:=act (i5 scope (jp X scope C) C X.env) (.ref D)) (λn s'=> ∃i ys us H',Acc ys us/\Inv X' [(D,us)] (zk js σ) H' s'/\tn i s'.heap/\(∀b∈fp,H' b=none)/\W i n ys H') (ck.quiet _ _ _) (ck.den _ _ _) (ck.under _ _ _ _) (hturn _ _ _) ?_ m0
   ⟨0,a0,o0,H2,acc0,I4,st4,λb hb=>(f2 b hb).1,w0⟩
  rintro n s5 ⟨i,ys,us,H5,hv5,I5,st5,fr5,w5⟩;have tr:=turn i n ys H5 w5;rcases tr with ⟨stop,qn⟩|⟨go,step⟩
  ·have q:=T.done X' eP eW eK eC i _ s5 _ H5 (λ_ _=>False) I5 (stat fr5) st5 stop;rw [eA] at q;refine M9 q (λr s6 ⟨hr,I6⟩=> ?_) λ_ _ z=>z
   subst hr;obtain⟨m6,hm6,_⟩:=I6.loc;rw [eV] at hm6;have zD:=I6.pin (D,us) (P8 _ P6);have HD:H5 D=none:=zD.2.1;have oD:s6.heap.get? D=some (us):=zD.1;have hDC:D≠C:=by rw [CD];exact T2 (A4 _)
   have HC:H5 C=none:=by have z:=I6.free;rw [eV] at z;exact z
   have B:=I6.base;have os6:s6.os=s2.os:=by have z:=I6.os;rw [<-hX] at z;exact z
   have Bu:Un (frs X.stack) (fp++ [D]) H2 H5 h3 s6.heap:=by rw [<-hX] at B;exact B
   have neC: ∀b o,h3.get? b=some o->b≠C:=λb o e=>by rw [<-hC];exact T2 (R1 e)
   refine fin D C (upd H5 D (ho us)) s6 m6 hm6 (λh' hs'=> ?_) (by rw [jg (K9 hDC)];exact HC) ?_ ?_ ?_ (λx c e=>T2 (olt x c e)) ?_ (qn D us HD hv5)
   ·have hk5:HOk X.prog X.w H5 h':=λb u e=>by
     have z:=I6.hok b u e;rw [eP,eW] at z;refine z.stay (λc v hc q=>hs'.extBut c v ?_ q) (λ_ q=>q) λ_ _ q=>q
     rcases hc with rfl|hc
     ·exact je e HC
     ·exact je hc HC
    refine I3.call' (ch:=fp++ [D]) os6 ⟨λb o e n hb hx=> ?_,λb o e n hb hx=> ?_,λb o e n hx=> ?_,λb o e hx=> ?_,λb xs e=> ?_,λb o u e=> ?_,λb ps e=> ?_⟩ (hk5.track HD ?_) I6.bare λb hb=> ?_
    ·exact hs'.extBut b o (neC b o e) (Bu.keep b o e n hb hx)
    ·obtain⟨sl,q⟩:=Bu.slot b o e n hb hx;exact⟨sl,hs'.extBut b _ (neC b o e) q⟩
    ·rw [jg λz=>hx (by rw [z];exact P8 _ P6)];exact Bu.free b o e n hx
    ·obtain⟨o',q⟩:=Bu.there b o e hx;exact⟨o',hs'.extBut b _ (neC b o e) q⟩
    ·have z:=Bu.tups b xs e;rw [jg (je z HD)];exact z
    ·have z:=Bu.frzs b o u e;rw [jg (je z HD)];exact z
    ·obtain⟨more,z⟩:=Bu.tbls b ps e;exact⟨more,by rw [jg (je z HD)];exact z⟩
    ·exact okO hv5 (hs'.extBut D _ hDC oD)
    ·have q:=hf b hb;exact⟨q.2.2.2.1,q.2.1,q.2.2.2.2.1,q.2.2.2.2.2⟩
   ·rw [<-hC];exact Q6 I3.lt
   ·exact I3.nofs (K0 hC)
   ·rw [<-hC];exact I3.sz
   ·intro p hp;have:=(I3.pin p hp).1;rw [<-hC];exact T2 (R1 this)
  ·have q:=T.item X' eP eW eK eC i _ s5 _ H5 (λ_ _=>False) I5 (stat fr5) st5 go;rw [eA] at q;refine M9 q (λr s6 ⟨u,hr,h6⟩=> ?_) λ_ _ z=>z
   subst hr;refine M9 h6 (λ_ s7 ⟨x,H7,I7,r7,y7,st7,fr7⟩=> ?_) λ_ _ z=>z
   have I7':=I7.pinned (stat fr7) (T.obj _ _ st7);have q7:=hg X' iX _ s7 _ H7 x u _ I7' r7 (step x H7 y7);rw [eP,eW,eA,eV,eE] at q7;refine M9 q7 (λ_ s8 ⟨IQ,H8,I8,ag8,q8⟩=> ?_) λ_ _ z=>z
   have q9:=ht X' iX _ s8 IQ H8 _ I8 q8;rw [eP,eW,eA,eV,eE] at q9;refine M9 q9 (λok s9 ⟨H9,I9,q9⟩=> ?_) λ_ _ z=>z
   have keepT: ∀ {IF:St} {H':Hp} {s':G2} {us:Obj},Inv X' ([(D,us)]++wQ fp s7.heap) IF H' s'->tn (i+1) s'.heap/\ ∀b∈fp,H' b=none:=λ{IF H' s' us} I'=>
    ⟨T.keep _ _ _ st7 λb hb o e=>(I'.pin (b,o) (P8 _ (P8 _ (zi hb e)))).1,λb hb=>by
     obtain⟨o,e,_⟩:=T.obj _ _ st7 b hb;exact(I'.pin (b,o) (P8 _ (P8 _ (zi hb e)))).2.1⟩
   cases ok with
   |false=>
    have q9: ∃m',m'<n/\W (i+1) m' ys H9:=q9;obtain⟨m',hm,w9⟩:=q9;obtain⟨t9,f9⟩:=keepT I9;exact⟨m',hm,i+1,ys,us,H9,hv5,(I9.unpinned).weak ag8.1.symm ag8.2,t9,f9,w9⟩
   |true=>
    have q9:tm IQ H9 ys λys' H4=> ∃m',m'<n/\W (i+1) m' ys' H4:=q9
    have DX:D∈X'.ex:=by rw [<-hX];exact P8 _ P6
    have pD: ∀p∈X'.pn++wQ fp s7.heap,p.1≠D:=λp hp=>by
     have hp':p∈wQ fp s7.heap:=by rw [<-hX] at hp;simpa [yy] using hp
     exact T2 (ltf _ (vJ hp').1)
    have cD: ∀x c,X'.env.cells.lookup x=some c->c≠D:=λx c e=>by
     rw [eV] at e;exact(cl x c e).elim (λz=>fD.2.2.2.2.1 x c z) λz=>Q6 (E6 (by rw [CD];exact A4 _) z)
    have q10:=he X' iX D _ s9 IQ H9 ys us _ I9 hv5 DX cD pD q9;rw [eP,eW,eA,eV] at q10;show R7 _ _ (act _ _) _ _ s9;refine M9 q10 (λ_ s10 ⟨ys',us',H10,hv10,I10,m',hm,w10⟩=> ?_) λ_ _ z=>z
    obtain⟨t10,f10⟩:=keepT I10;exact⟨m',hm,i+1,ys',us',H10,hv10,(I10.unpinned).weak ag8.1.symm ag8.2,t10,f10,w10⟩
 exact ck.start (loop _ rfl) (T.self X.A 0 _ _ _ st4 (loop _ rfl))
variable {elt:M5}
theorem Nr {P:S7}{w:N8}{tg:M5}{rest:G0 Y5}{pos:Pos}:CompK P w (.SetComp elt (⟨tg,iter,ifs,0⟩::rest) scope pos) ⟨tg,iter,ifs,0⟩ rest (IB (.type "set")) (Zv #[] 0 (.fresh 0 0 (Wx w))) where
 cl:=rfl
 quiet:=λ_ _ _=>rfl
 den:=λ_ _ _=>rfl
 under:=λ_ _ _ _=>rfl
 start:=λ{A R s it acc env} h0 h=>pY (rW (by
  unfold compStart;show R7 (S2 P w) A (ask >>= _) _ _ s;exact wpAny_bind (Y9 (wpAny_ite (Uz (λ_=>wpAny_bind (P3 (P3 ⟨rfl,h0⟩))) λ_=>wpAny_bind (fK (wpAny_bind (Y3 (wpAny_bind (M9 h (λ_ _ q=>P3 ⟨rfl,q⟩) λ_ _ q=>q))))))))))
 live:=rfl
 made:=λ{A Q E s} q=>by
  obtain⟨hp,g,d,tk,os⟩:=s;have told: ∀ {Q:qL->G2->Prop} {E':G1->G2->Prop} {A':N3} {s':G2},Q ⟨P,w.params⟩ s'->R7 (S2 P w) A' ask Q E' s':=λq=>Y9 q
  unfold IB setsByText
  wp_walk using told
  exact q
abbrev SQ:=P5×G0 (G0 P4)
def SR (P:S7)(w:N8)(ps:G0 SQ)(o:Obj):Prop:= ∃f es ep t,o=Zv es ep t/\SetT (SE P w) (Wx w) (λk b=>(b,k)∈ps) f es t (ps.map (·.2)).reverse
def Rr (elt:M5)(env:Env)(acc:G1):Sem Unit:=do let v <-E5 elt env;iH elt.pos;let _ <-call (.builtin "set.add") [acc,v]
def TN (te:TE):TMG (G0 SQ):=λσ H ps Q=>te σ H λy H1=> ∃b T,y= .ref b/\Em H1 T b/\(∀p∈ps,Em H1 p.2 p.1)/\ps.length<999/\Q (ps++ [(b,T)]) H1
variable {k:G3}
theorem Nt {D:P5}{te:TE}(hr:Room k X.A)(hx:X.xe=λ_ _=>False)(he:PE X elt te):AM X (SR X.prog X.w) D (Rr elt X.env (.ref D)) (TN te):=by
 rintro pins s σ H ps _ Q I ⟨f,es,ep,t,rfl,S⟩ DX cD pD h;have q:=he _ s σ H _ I h;rw [hx] at q;unfold Rr;refine wpAny_bind (M9 q (λy s1 ⟨yv,H1,I1,r1,b,T,e,hT,hps,few,q1⟩=> ?_) λ_ _ z=>z);subst e;cases r1;have zD:=I1.pin (D,Zv es ep t) (P8 _ (N4 _ P6));have I10u:Inv X pins σ H1 s1:=I1.pins_of λp hp=>I1.pin p (P8 _ (P8 _ hp))
 refine wpAny_bind (Y3 (wpAny_bind (O0 F.slot_set_add ⟨_,zD.1,rfl⟩ F.entry_set_add ?_ (F.args_set_add_2 _ _))));unfold Builtin.«set.add» Builtin.Frozenset.oneOther;simp only [List.isEmpty_nil,bind_assoc];unfold Builtin.Frozenset.addrOf;refine wpAny_bind (P3 ?_)
 try dsimp only
 refine wpAny_bind (P3 ?_)
 try dsimp only
 refine wpAny_bind (Ra (M:=SE X.prog X.w) (is:=λk b'=>(b',k)∈ps++ [(b,T)]) (k:=T) (by have:=hr.un;show X.A.units+1+8<cLine;omega) (S.imp λk b' z=>N4 _ z) zD.1 (by rw [B7,G8];omega) (λk b' z=> ?_) (P8 _ P6) λr f' es' ep' t' h' tk S' e' sb=> ?_)
 ·refine AC I1 k b' ?_;rcases R5.mp z with z|z
  ·exact hps _ z
  ·cases G9.mp z;exact hT
 ·refine P3 ⟨_,rfl,P3 ?_⟩;have I11:Inv X pins σ H1 {s1 with heap:=h',toks:=tk}:=I10u.turned (t':=tk) (it:=D) (λb o hb e=>sb.extBut b o hb e) zD.2.1 zD.2.2.1 (.inl DX) cD pD;refine⟨ps++ [(b,T)],Zv es' ep' t',H1,⟨f',es',ep',t',rfl,by rw [C6,List.reverse_append];exact S'⟩,I11.pins_of λp hp=> ?_,q1⟩;rcases R5.mp hp with z|z
  ·rcases G9.mp z with rfl
   exact⟨e',zD.2.1,zD.2.2.1,zD.2.2.2.1,λv z=>by cases z⟩
  ·exact I11.pin p (P8 _ z)
abbrev AO (o:Obj):HO:= .frz o (.own 0)
theorem SS {tg:M5}{pos:Pos}{js:G0 G3}{wi:TI}{g:TG}{tt:TT}{te:TE}(hr:Room k X.A)(hc:X.calm=true)(S:BlockOk X scope js)(hi:PI X tg iter wi)
 (hg: ∀X',jf X scope X'->PG X' tg g)(ht: ∀X',jf X scope X'->PTs X' ifs tt)(he: ∀X',jf X scope X'->PE X' elt te)
 (hs: ∀x,M0 iter X.env x=pure x:=by intro _;rfl):PE X (.SetComp elt [⟨tg,iter,ifs,0⟩] scope pos) (tCG (SR X.prog X.w) AO [] js wi g tt (TN te)):=by
 intro pins s σ H Q I h;show R7 _ _ (iN (.SetComp elt [⟨tg,iter,ifs,0⟩] scope pos) scope X.env _ (IB (.type "set")) false (E5 iter X.env)) _ _ s;exact AN (ho:=AO) (use:=none) hc S hi Nr ⟨λ_=> [],#[],0,_,rfl,Nj (Wx X.w) _⟩ (λa o ⟨_,_,_,_,e,_⟩ v=>by subst e;exact λz=>nomatch z) (λ{a o H h p} _ e=>⟨e,⟨_,e⟩⟩) hg ht (Rr elt) (λ_ _ _=>rfl) (λX' hX D=>by obtain⟨C,s₀,H₀,ex,e⟩:=hX;have z:=he X' ⟨C,s₀,H₀,ex,e⟩;subst e;exact Nt (X:=yy X scope C s₀ H₀ ex) hr rfl z) hs I h
  λD C H' s' m hn hk _ _ _ _ _ _ q=>⟨m,hn,λh' hs'=>⟨.ref D,H',hk h' hs',rfl,q⟩⟩
section
variable {prog:S7}{w:N8}{A:N3}{E:G1->G2->Prop}{s:G2}
theorem Nu {a:P5}{v:G1}{n:G3}{P:fM->G2->Prop}(ho:s.heap.get? a=some (a7 "list" [v].toArray n))
 (q: ∀ (c tk:G3) (h':F4),Ba s a h'->h'.get? a=some (a7 "list" [v].toArray c)->P (.done (.ret .none)) {s with heap:=h',toks:=tk}):
 R7 (S2 prog w) A (Builtin.«list.sort» ⟨[.ref a],[]⟩) P E s:=by
 have alt:=R1 ho;rw [qE];refine wpAny_bind (oW ho rfl ?_);obtain⟨c1,ho1⟩: ∃c,(s.heap.update a (J7 λ_=>(#[]:S9 G1))).get? a=some (a7 "list" #[] c):=⟨_,gE ho λ_=> #[]⟩;refine wpAny_bind (iT ho rfl ?_ (by show 1<=sizeLine;decide) (M6 _));refine wpAny_bind (mN ho1 rfl ?_);refine wpAny_bind (mJ ?_ (by show 1<=sizeLine;decide));refine wpAny_bind (fV ?_ (M6 _));refine L7 ?_;have past:Ba s a (((s.heap.update a (J7 λ_=>(#[]:S9 G1))).push {cls:= .type "tuple",data:= .seq [v].toArray.toList.toArray}).push {cls:= .type "list",data:= .seq ([]:G0 G1).toArray}):=λb x ne e=>by
  refine P1 _ (P1 _ ?_);rw [Y0 _ _ _ _ ne];exact e
 have ho3:=P1 ({cls:= .type "list",data:= .seq ([]:G0 G1).toArray}:Obj) (P1 ({cls:= .type "tuple",data:= .seq [v].toArray.toList.toArray}:Obj) ho1);revert past ho3;generalize ((s.heap.update a (J7 λ_=>(#[]:S9 G1))).push ({cls:= .type "tuple",data:= .seq [v].toArray.toList.toArray}:Obj)).push ({cls:= .type "list",data:= .seq ([]:G0 G1).toArray}:Obj)=H3;intro past ho3;have c: [v].toArray.size<2:=by show 1<2;decide
 dsimp only;refine XX (wpAny_bind ?_);rw [D4 c];refine P3 (wpAny_bind ?_);rw [D4 c,lE];refine P3 ?_;dsimp only;obtain⟨c2,ho4⟩: ∃c,(H3.update a (J7 λ_=> [v].toArray)).get? a=some (a7 "list" [v].toArray c):=⟨_,gE ho3 λ_=> [v].toArray⟩;have eo:(T1 (SortSt.mk' uI ([v].toArray.zip [v].toArray) #[] 7 none)).map (λx=>x.2)= [v].toArray:=by
  show Array.map (λx=>x.2) ([v].toArray.zip [v].toArray)=_;apply Array.toList_inj.mp;rw [j7,pK];rfl
 rw [eo];refine wpAny_bind (mN (s:= {s with heap:=H3}) ho3 rfl ?_);refine wpAny_bind (iT (s:= {s with heap:=H3}) ho3 rfl ?_ (M6 _) (by show 1<=sizeLine+1;decide));simp only [oY,C0,l8];refine P3 (q c2 s.toks _ (λb x ne e=> ?_) ho4);rw [Y0 _ _ _ _ ne];exact past b x ne e
end
theorem Nv {K:Type}{l:G0 K}{M:K}(nd:l.Nodup)(ne:l≠ [])(all: ∀x∈l,x=M):l= [M]:=by
 match l,nd,ne,all with
 | [x],_,_,all=>rw [all x P6]
 |x::y::r,nd,_,all=>
  have e1:=all x P6;have e2:=all y (R3 _ P6);subst e1;subst e2;exact absurd P6 (L9.mp nd).1
 | [],_,ne,_=>exact absurd rfl ne
theorem VT (hc:X.calm=true)(hr:Room k X.A):CallR X (.builtin "sorted") (λxs H Q=> ∃ (p:P5) (o:Obj) (ps:G0 SQ) (M:G0 (G0 P4)),xs= [.ref p]/\H p=some (AO o)/\SR X.prog X.w ps o/\ps≠ []/\ps.length<1000/\(∀x∈ps,x.2=M)/\ ∀ (q b:P5),H q=none->(b,M)∈ps->Q (.ref q) (upd H q (.lst [.ref b]))):=by
 intro pins s σ H xs us Q I r h;obtain⟨p,o,ps,M,rfl,hp,⟨f,es,ep,t,rfl,S⟩,ne,few,all,q⟩:=h;obtain⟨u,rfl,ru⟩:=vK r;cases ru;have fm:es.toList.map f= [M]:=Nv S.nd (λz=>by
  obtain⟨x,xs,e⟩:=List.exists_cons_of_ne_nil ne;have:=(S.mem x.2).mpr (by rw [A9];exact C8 (by rw [e];exact P6));rw [z] at this;cases this) λx hx=>by
  have:=(S.mem x).mp hx;rw [A9] at this;obtain⟨y,hy,rfl⟩:=R8.mp this;exact all y hy
 have sz:es.toList.length=1:=by have:=congrArg fY fm;simpa using this
 obtain⟨e,ee⟩: ∃e,es.toList= [e]:=by
  match h:es.toList,sz with
  | [e],_=>exact⟨e,rfl⟩
 have fe:f e=M:=by rw [ee] at fm;simpa using fm
 obtain⟨_,b,eb,hb⟩:=S.each e (by rw [ee];exact P6);rw [fe] at hb;refine cQ pP oI oJ (oK _) (wpAny_bind (P3 (wpAny_bind (wpAny_bind (wpAny_runValue (gH (Gk (I.ok.hd hc) S.tab (I.hok p _ hp).1 (by have:=P9 (xs:=es);omega)) λres s' listed=> ?_))))));obtain⟨h1,d,tk,acc,c0,rfl,rfl,made,kept,pm⟩:=listed;refine wpAny_bind (u0 made (P3 ?_));rw [ee,List.map_singleton,eb] at pm;have al:acc.toList= [.ref b]:=List.perm_singleton.mp pm;have ac:acc= [L6 b].toArray:=by rw [<-al,mO]
 subst ac;have fresh:(h1.push (a7 "list" [L6 b].toArray 0)).get? h1.objs.size=some (a7 "list" [L6 b].toArray 0):=T5 _ rfl;have kp: ∀h',Ba {s with heap:=h1.push (a7 "list" [L6 b].toArray 0),drawn:=d,toks:=tk} h1.objs.size h'->Wf h1 h':=λh' p b x e=>p b x (T2 (R1 e)) (P1 _ e)
 refine wpAny_bind (fV (wpAny_bind (L7 (O0 mD ⟨_,fresh,rfl⟩ lC (Nu (s:= {s with heap:=h1.push (a7 "list" [L6 b].toArray 0),drawn:=d,toks:=tk}) fresh λc tk' h' p' e1=>⟨_,rfl,?_⟩) (mE _)))) (by show 1<=sizeLine;decide));have I1:=(I.kept (t':=s.toks) kept).drew d;refine P3 ⟨_,rfl,.ref _,_,I1.laid (t':=tk') (o:= .lst [.ref b]) (kp h' p') (P2 _) ⟨by show 1<=sizeLine;decide,_,c,.cons rfl .nil,e1⟩,rfl,q _ b (I1.hok.fresh (P2 _)) hb⟩
def Ke (bind:D->SD->SD->Prop)(js:G0 G3)(ti:TID)(tt:TTD)(te:TED):TED:=λσ h Q=>ti σ h λj h1=> ∃ (n:G3) (M:G0 (G0 P4)) (W:G3->G0 (G0 (G0 P4))->HD->Prop),W 0 [] h1/\ ∀i ys h',W i ys h'->ys.length<999/\
 ∃ds,j h'=some ds/\ds.length<=n/\(ds.length<=i->ys≠ []/\(∀y∈ys,y=M)/\ ∀p,h' p=none->Q (.lst p) (zZ h' p [jC M]))/\
  ∀d,ds[i]? =some d-> ∃IH,bind d (jK js σ) IH/\tt IH h' λb h3=>if b=true then te IH h3 λy h4=> ∃T h5,y=jC T/\Sub h5 h4/\W (i+1) (ys++ [T]) h5 else ∃h5,Sub h5 h3/\W (i+1) ys h5
theorem tab_of {K:G5}{H:Hp}{T:G0 (G0 P4)}{b:P5}(r:RelD K H (jC T) (.ref b)):Em H T b:=by
 obtain⟨a,vs,e,hH,r1⟩:=(show ∃a vs,V.ref b= .ref a/\H a=some (.tup vs)/\RelDs K H (T.map yB) vs from r);cases e;exact⟨vs,hH,Ri r1⟩
theorem Kf {i : G3} {x : Str} {p p0 pos pos0 : Pos} {js : G0 G3} {ti : TID} {tt : TTD} {te : TED} (hr : Room k X.A) (hc : X.calm = true) (hgl : Gl X "sorted") (hm : X.mg "sorted" = none) (S : BlockOk X scope js) (hi : JI X (.Name x p) iter ti) (hj : i ∈ js) (hN : X.N.Nodup) (hx : X.N[i]? = some x) (hl : scope.names.lookup x = some .local ∨ scope.names.lookup x = some .cell)
    (ht : ∀ X', jf X scope X' → PTs X' ifs (LT X'.K tt)) (he : ∀ X', jf X scope X' → JE X' elt te) (hs : ∀ x, M0 iter X.env x = pure x := by intro _; rfl)
    (h1 : R4 [.SetComp elt [⟨.Name x p, iter, ifs, 0⟩] scope pos] X.env = (false, E5 (.SetComp elt [⟨.Name x p, iter, ifs, 0⟩] scope pos) X.env) :: R4 [] X.env := by rfl) (h2 : (K6 pos0 (R4 [] X.env)).any (·.1) = false := by rfl) :
    JE X (.Call (.Name "sorted" p0) [.SetComp elt [⟨.Name x p, iter, ifs, 0⟩] scope pos] [] pos0) (Ke (bN i) js ti tt te) :=
  ⟨(Zn (VT hc hr) hgl hm (by decide +kernel) (yu (SS (g := wJ i) (tt := LT X.K tt) (te := LE X.K te) hr hc S hi.to (fun X' hX => by obtain ⟨C, s₀, H₀, ex, rfl⟩ := hX; exact wb hN hx hl) (fun X' hX => by have := ht X' hX; obtain ⟨C, s₀, H₀, ex, rfl⟩ := hX; exact this) (fun X' hX => by have := (he X' hX).to; obtain ⟨C, s₀, H₀, ex, rfl⟩ := hX; exact this) hs) pa_nil h1) (by decide) (by decide) h1 h2).imp
    fun σ H Q ⟨IG, h, Qd, rs, rh, q, post⟩ => by
      refine ⟨IG, h, _, rs, rh, q, fun j J h1 H1 k1 rh1 jo ⟨n, M, W, w0, turn⟩ => ?_⟩
      refine ⟨fun i m ps H' => m = n - i ∧ Kept H1 H' ∧ ∃ h', (∀ y ∈ ps, RelD X.K H' (jC y.2) (.ref y.1)) ∧ RelH X.K h' H' ∧ W i (ps.map (·.2)) h', ⟨n - 0, rfl, .refl _, h1, (fun y hy => nomatch hy), rh1, w0⟩, ?_⟩
      rintro i m ps H' ⟨rfl, kp, h', ry, rh', w⟩
      obtain ⟨hz, ds, ej, hn, stop, go⟩ := turn i _ h' w
      rw [G8] at hz
      have jo' := jo H' h' kp rh' ds ej i
      have kk : Kept H H' := k1.trans kp
      by_cases hi : i < ds.length
      · obtain ⟨g1, y1⟩ := jo'.1 ds[i] (G7 hi)
        refine .inr ⟨g1, fun x H'' y => ?_⟩
        obtain ⟨k2, rh2, r2⟩ := y1 x H'' y
        obtain ⟨IL, bd, q2⟩ := go ds[i] (G7 hi)
        refine Cd hj σ IG IL H'' ds[i] x _ (((rs.mono (kk.trans k2))).clear js) r2 bd fun IH ag rs2 => ⟨ag, ?_⟩
        refine LT.bind rs2 rh2 q2 fun b h3 H3 k3 rs3 rh3 q3 => ?_
        cases b with
        | true =>
          rw [D4 rfl] at q3 ⊢
          refine LE.bind rs3 rh3 q3 fun d4 v4 h4 H4 k4 rs4 rh4 r4 ⟨T, h5, ed, sb, w5⟩ => ?_
          subst ed
          obtain ⟨b, vs, eb, _⟩ := (show ∃ a vs, v4 = .ref a ∧ H4 a = some (.tup vs) ∧ _ from r4)
          subst eb
          have ry4 : ∀ y ∈ ps, RelD X.K H4 (jC y.2) (.ref y.1) := fun y hy => (ry y hy).mono (k2.trans (k3.trans k4))
          refine ⟨b, T, rfl, tab_of r4, fun y hy => tab_of (ry4 y hy), hz, n - (i + 1), by omega, rfl, kp.trans (k2.trans (k3.trans k4)), h5, fun y hy => ?_, rh4.sub sb, by rw [C6]; exact w5⟩
          rcases R5.mp hy with z | z
          · exact ry4 y z
          · rw [G9.mp z]; exact r4
        | false =>
          rw [D5 R0] at q3 ⊢
          obtain ⟨h5, sb, w5⟩ := q3
          exact ⟨n - (i + 1), by omega, rfl, kp.trans (k2.trans k3), h5, fun y hy => (ry y hy).mono (k2.trans k3), rh3.sub sb, w5⟩
      · obtain ⟨ne, all, fin⟩ := stop (U5.mp hi)
        refine .inl ⟨jo'.2 (U5.mp hi), fun p o hpn acc => ⟨p, o, ps, M, rfl, ji, acc, fun z => ne (by rw [z]; rfl), by omega, fun y hy => all _ (C8 hy), fun l b hl hb => ?_⟩⟩
        have rh2 := rh'.new (o := AO o) hpn
        have rd := ((ry _ hb).mono (.new hpn : Kept H' (upd H' p (AO o))))
        exact post (.lst l) (.ref l) _ _ (kk.trans ((Kept.new hpn).trans (.new hl))) (rh2.newL hl (.cons rd .nil)) ⟨rfl, _, ji⟩ (fin l (rh2.free hl))⟩
def Wz:G3->G0 (G0 P4)
 |1=> [[1]]
 |2=> [[0,1],[1,1]]
 |_=> [[0,0,1],[1,0,0],[1,1,0]]
def Gu (s:G3):P4:=((s:P4)-1)*((s:P4)-1)+1
def okS (s:G3)(T:G0 (G0 P4)):M7:=decide (Wz s∈(zV s s).map λo=>Zt s o (jj s T))&&((zV s s).map λo=>Zt s o (jj s T)).all λx=>decide (x=Wz s)||wf (Wz s) x
theorem Xj {s:G3}{T:G0 (G0 P4)}(h3:s<=3)(ok:okS s T=true):Lst s (jj s T) (Wz s):=by
 unfold okS at ok;rw [O1,X3,C3] at ok;exact Bb (e:=1) (by omega) ok.1 λx hx=>by
  have:=ok.2 x hx;rw [bO,X3] at this;exact this
theorem Kg: ∀ {s:G3},1<=s->s<=3->(zI s).all (λT=> !decide (vc s T=Gu s)||okS s T)=true/\(zI s).any (λT=>decide (vc s T=Gu s))=true
 |1,_,_=>by decide +kernel
 |2,_,_=>by decide +kernel
 |3,_,_=>by decide +kernel
end L2
namespace L2
open PySem PySem.Spec PyProof.Rows
def Kh:RD2:=λx y h Q=>match x,y with
 | .int i,.int j=>Eb i j/\Q (.int (i*2^j.toNat)) h
 |_,_=>False
theorem AQ {X:Cx}:OpQ X (J3 .LShift) Kh:=ZL (gd:=λi j=> .int (i*2^j.toNat)) LD (λ_ _ _=>rfl) λx y h Q q=>by
 cases x<;>cases y<;>first|exact False.elim q|exact⟨_,_,rfl,rfl,q.1,q.2⟩
end L2
namespace My
open PySem L2
def top (i:G3):J9:=PySem.Challenge.pw_firstpowers_k65_whole_kinds_of_tables.main.body.getD i (.Pass ⟨0,0,0,0⟩)
abbrev JL:J9:=top 8
theorem Xk:FnScope ["thing"] ["thing"] (jd JL):=fsc
abbrev vA:J9:=top 9
theorem VU:FnScope ["thing","least","most"] ["thing","least","most"] (jd vA):=fsc
abbrev JM:J9:=top 10
theorem Xl:FnScope ["thing","size"] ["thing","size"] (jd JM):=fsc
abbrev yH:J9:=top 11
theorem Jj:FnScope ["thing","size","each"] ["thing","size"] (jd yH):=fsc
abbrev JN:J9:=top 12
theorem Xm:FnScope ["thing","size"] ["thing","size"] (jd JN):=fsc
abbrev wN:J9:=top 13
theorem yI:FnScope ["thing","size","number"] ["thing","size"] (jd wN):=fsc
abbrev zW:J9:=top 14
theorem wW:FnScope ["thing","row"] ["thing"] (jd zW):=fsc
abbrev yJ:J9:=top 15
theorem YO:FnScope ["thing"] ["thing"] (jd yJ):=fsc
abbrev yK:J9:=top 16
theorem YQ:FnScope ["table","thing"] ["table","thing"] (jd yK):=fsc
abbrev yi:J9:=top 17
theorem WA:FnScope ["thing","least","most"] ["thing","least","most"] (jd yi):=fsc
abbrev yL:J9:=top 19
theorem zt:FnScope ["one","other","size","row","place","by"] ["one","other"] (jd yL):=fsc
abbrev Rs:J9:=top 21
theorem RG:FnScope ["table","row","number"] ["table"] (jd Rs):=fsc
abbrev Xn:J9:=top 22
theorem YR:FnScope ["table","row","number"] ["table"] (jd Xn):=fsc
abbrev Wj:J9:=top 23
theorem wX:FnScope ["table","order","olds","name","one","other"] ["table","order"] (jd Wj):=fsc
abbrev yj:J9:=top 25
theorem WB:FnScope ["ahead","table"] ["ahead","table"] (jd yj):=fsc
abbrev zu:J9:=top 26
theorem jM:FnScope ["table","told","later"] ["table"] (jd zu):=fsc
abbrev vB:J9:=top 27
theorem VV:FnScope ["table"] ["table"] (jd vB):=fsc
abbrev yk:J9:=top 29
theorem vf:FnScope ["table","at","each"] ["table"] (jd yk):=fsc
abbrev yM:J9:=top 31
theorem zB:FnScope ["size","rows","last","one","other"] ["size"] (jd yM):=fsc
abbrev wx:J9:=top 32
theorem Zf:FnScope ["size"] ["size"] (jd wx):=fsc
abbrev JP:J9:=top 36
theorem yo:FnScope ["things","many","told","step","row","thing"] ["things","many"] (jd JP):=fsc
abbrev zJ:J9:=top 37
theorem Jk:FnScope ["size"] ["size"] (jd zJ):=fsc
abbrev yN:J9:=top 38
theorem wn:FnScope ["size","told","step","order","place"] ["size"] (jd yN):=fsc
abbrev JQ:J9:=top 39
theorem wz:FnScope ["size","counts","table","k","told"] ["size"] (jd JQ):=fsc
abbrev yl:J9:=top 40
theorem wO:FnScope ["table","marked","order"] ["table"] (jd yl):=fsc
abbrev zX:J9:=top 41
theorem zM:FnScope ["size","slowest","table"] ["size"] (jd zX):=fsc
abbrev vC:J9:=top 43
theorem VW:FnScope ["_law_script","_law_k"] ["_law_script","_law_k"] (jd vC):=fsc
abbrev JR:J9:=top 44
theorem Wk:FnScope ["_law_cell_here","_law_left"] ["_law_cell_here"] (jd JR):=fsc
abbrev vD:J9:=top 45
theorem wI:FnScope ["_law_pen_here","_law_many","_law_left","_law_found","_law_stir"] ["_law_pen_here","_law_many"] (jd vD):=fsc
abbrev vE:J9:=top 46
theorem VX:FnScope ["_law_pen_here"] ["_law_pen_here"] (jd vE):=fsc
abbrev yO:J9:=top 47
theorem jq:FnScope ["_law_pen_here","_law_size_here","_law_way","_law_often","_law_most","_law_rows","_law_one","_law_row","_law_other","_law_goes"] ["_law_pen_here","_law_size_here"] (jd yO):=fsc
abbrev zK:J9:=top 48
theorem jH:FnScope ["_law_size_here","_law_rows","_law_some","_law_k","_law_many","_law_table_here"] ["_law_size_here"] (jd zK):=fsc
abbrev Gv:J9:=top 49
theorem VY:FnScope ["_law_script","_law_cell_here","_law_pen_here","_law_table_here","_law_least"] ["_law_script"] (jd Gv):=fsc
section
variable {P:S7}{w:N8}{K:G5}{mg:Str->P7 G1}{base:F4}
/-- no def is asked of the script's list: a thing -/
def Rt:D->M7
 | .int _=>true
 |_=>false
/-- a row of so many numbers from 0 on -/
def En:D->M7
 | .int i=>decide (0<=i)
 |_=>false
def Bn (d:D)(k:P4):M7:=match d with
 | .tup ds=>decide ((ds.length:P4)=k)&&ds.all En
 |_=>false
/-! every part has a kind that is told,and no tuple is long -/
mutual
def okD:D->M7
 | .scr _=>false| .exc _=>false| .fn _=>false| .dct _=>false
 | .tup ds=>decide (ds.length<=1000)&&okDs ds
 |_=>true
def okDs:G0 D->M7
 | []=>true
 |d::ds=>okD d&&okDs ds
end
theorem Qu: ∀ {ds:G0 D},okDs ds=true-> ∀d∈ds,okD d=true
 |d::ds,h,x,hx=>by
  have h':(okD d&&okDs ds)=true:=h;rw [O1] at h';rcases S5.mp hx with e|e
  ·subst e;exact h'.1
  ·exact Qu h'.2 x e
theorem Ru: ∀ {ds:G0 D},(∀d∈ds,okD d=true)->okDs ds=true
 | [],_=>rfl
 |d::ds,h=>by
  show (okD d&&okDs ds)=true;rw [h d P6,Ru λx hx=>h x (R3 _ hx)];rfl
theorem Xo {ds:G0 D}(h:okD (.tup ds)=true):ds.length<=1000/\ ∀d∈ds,okD d=true:=by
 have h':(decide (ds.length<=1000)&&okDs ds)=true:=h;rw [O1] at h';exact⟨C7 h'.1,Qu h'.2⟩
theorem Qw {ds:G0 D}(h:ds.length<=1000)(h2: ∀d∈ds,okD d=true):okD (.tup ds)=true:=by
 show (decide (ds.length<=1000)&&okDs ds)=true;rw [D9 h,Ru h2];rfl
theorem Jl {d:D}(h:okD d=true): ∃n,Vp d=some n:=by
 cases d<;>first|exact⟨_,rfl⟩|cases h
/-- a table -/
def FY:D->M7
 | .tup rs=>decide (1<=rs.length)&&decide (rs.length<=6)&&rs.all λr=>Bn r rs.length
 |_=>false
def vF:RDn:=λds h Q=> ∃d n,ds= [d]/\Vp d=some n/\Q (.bl (Rt d)) h
variable {n:G3}{f:P5}{fd:N9}
theorem Xp (Z:Zs mg)(F:Fun K "is_whole" "is_whole" JL f fd):FnOk P w K mg base CX0 (n+1) f fd ["thing"] (LSp K vF):=by
 refine F.okM Xk (λhr=>(zl (yc (Mq (PN (T:= "int") (by decide) rfl Z.isinstance rfl Z.int (by decide +kernel) (jv 0)) (GG (HB (PN (T:= "bool") (by decide) rfl Z.isinstance rfl Z.bool (by decide +kernel) (jv 0)))))))) ?_;rintro ds h Q ⟨d,nm,rfl,hn,q⟩;refine⟨rfl,?_⟩;simp only [RI,Me,dIs,Md,wS,T7,bG,D8,B2,Y8,O2,U1,aT,D.bl.injEq,Mf,RJ,bR,hn];cases d<;>cases hn<;>exact⟨h,Sub.refl h,q⟩
def yP:RDn:=λds h Q=> ∃d,∃a b:P4,ds= [d,.int a,.int b]/\okD d=true/\Q (.bl (vt d a b)) h
theorem VZ (Z:Zs mg)(F:Fun K "is_within" "is_within" vA f fd)(JX:jh P w K mg base n "is_whole" ["thing"] vF):FnOk P w K mg base CX0 (n+1) f fd ["thing","least","most"] (LSp K yP):=by
 refine F.okM VU (λhr=>(zl (yc (Mq (jk JX hr (j1 (jv 0))) (GG (Aa Ml Ml (jv 1) (jv 0) (jv 2))))))) ?_;rintro ds h Q ⟨d,a,b,rfl,ok,q⟩;refine⟨rfl,?_⟩;obtain⟨nm,hn⟩:=Jl ok;refine⟨_,rfl,d,nm,rfl,hn,Rt d,rfl,?_⟩;cases d with
 |int x=>
  refine QK ⟨_,rfl,_,rfl,_,rfl,?_⟩;show if decide (a<=x)=true then _ else _
  by_cases h1:a<=x
  ·rw [D9 h1];simp only [vt,D9 h1,nH] at q;exact QK ⟨_,rfl,h,Sub.refl h,q⟩
  ·rw [T6 h1];simp only [vt,T6 h1,lR] at q;exact Wt ⟨h,Sub.refl h,q⟩
 |_=>exact Wt ⟨h,Sub.refl h,q⟩
def Wl:RDn:=λds h Q=> ∃d,∃n:P4,ds= [d,.int n]/\okD d=true/\Q (.bl (vt d 0 (n-1))) h
theorem Xq (Z:Zs mg)(F:Fun K "is_place" "is_place" JM f fd)(vH:jh P w K mg base n "is_within" ["thing","least","most"] yP):FnOk P w K mg base CX0 (n+1) f fd ["thing","size"] (LSp K Wl):=by
 refine F.okM Xl (λhr=>(zl (yc (jk vH hr (j3 (jv 0) jz (jop WQ (jv 1) jz)))))) ?_;rintro ds h Q ⟨d,k,rfl,ok,q⟩;refine⟨rfl,?_⟩;exact⟨_,rfl,_,rfl,d,0,k-1,rfl,ok,h,Sub.refl h,q⟩
def Jm:RDn:=λds h Q=> ∃d,∃n:P4,ds= [d,.int n]/\okD d=true/\Q (.bl (YB d n)) h
theorem YS (Z:Zs mg)(F:Fun K "are_places" "are_places" yH f fd)(GA:jh P w K mg base n "is_place" ["thing","size"] Wl):FnOk P w K mg base CX0 (n+1) f fd ["thing","size"] (LSp K Jm):=by
 refine F.okM Jj (λhr=>(zl (yc (Mq (PN (T:= "tuple") (by decide) rfl Z.isinstance rfl Z.tuple (by decide +kernel) (jv 0)) (GG (wT (Vq rfl) rfl Z.all aD (j1 (jl0 2 Jj (zE (jv 0)) (λ_ _ _ _=>(jk GA hr (j2 (jv 2) (jv 1)))))))))))) ?_;rintro ds h Q ⟨d,k,rfl,ok,q⟩;refine⟨rfl,?_⟩;obtain⟨nm,hn⟩:=Jl ok;refine⟨_,rfl,nm,hn,?_⟩;cases d with
 |tup es=>
  cases hn;obtain⟨hl,ht⟩:=Xo ok;refine⟨_,rfl,QK ?_⟩;exact HL es (λx=>x) (λx=>vt x 0 (k-1)) hl (by rw [List.map_id']) (λR r=>⟨_,rfl,r⟩) (λx hx Q' q'=>⟨_,rfl,_,rfl,x,k,rfl,ht x hx,q'⟩) ⟨h,Sub.refl h,q⟩
 |_=>cases hn<;>exact⟨_,rfl,Wt ⟨h,Sub.refl h,q⟩⟩
theorem Yd: ∀ {a b:G0 A6},L0 a b=true->a.length=b.length
 | [],[],_=>rfl
 | [],_::_,h=>by simp [L0] at h
 |_::_,[],h=>by simp [L0] at h
 |x::a,y::b,h=>by
  have h2:(F7 x y&&L0 a b)=true:=h;rw [D8,D8,Yd (Bool.and_eq_true_iff.mp h2).2]
def Ki (n:G3)(d:D):Prop:=(okD d=true/\YB d (n:P4)=false)\/ ∃o:G0 G3,d=vk o/\(∀x∈o,x<n)/\o.length<=60/\o.length≠n
def Wm:RDn:=λds h Q=> ∃d,∃n:G3,ds= [d,.int (n:P4)]/\n<=6/\((∃o,d=vk o/\Ordr n o/\Q (.bl true) h)\/(Ki n d/\Q (.bl false) h))
theorem Xr (Z:Zs mg)(F:Fun K "is_order" "is_order" JN f fd)(Uh:jh P w K mg base n "are_places" ["thing","size"] Jm):FnOk P w K mg base CX0 (n+1) f fd ["thing","size"] (LSp K Wm):=by
 refine F.okM Xm (λhr=>(zl (yc (Mq (jk Uh hr (j2 (jv 0) (jv 1))) (GG (jc1 (ZP hr.units) (wT PK rfl Z.sorted (by decide +kernel) (j1 (jv 0))) (Su rfl rfl Z.list rfl Z.range (j1 (jv 1))))))))) ?_;rintro ds h Q ⟨d,k,rfl,hk,q⟩;refine⟨rfl,?_⟩;rcases q with ⟨o,rfl,ho,q⟩|⟨⟨ok,bad⟩|⟨o,rfl,hlt,hle,hne⟩,q⟩
 ·have hlen:o.length=k:=ho.ord.len;have hle:o.length<=60:=by omega
  have hlt: ∀x∈o,x<k:=λx hx=>D3.mp (ho.mem_iff.mp hx)
  have okO:okD (vk o)=true:=Qw (by rw [G8];omega) λd hd=>by obtain⟨x,_,rfl⟩:=R8.mp hd;rfl
  have plO:YB (vk o) (k:P4)=true:=by
   show (o.map _).all _=true;rw [C3];intro x hx;obtain⟨i,hi,rfl⟩:=R8.mp hx;have:=hlt i hi;show (decide ((0:P4)<=(i:P4))&&decide ((i:P4)<=(k:P4)-1))=true;rw [D9 (show (0:P4)<=(i:P4) by omega),D9 (show (i:P4)<=(k:P4)-1 by omega)];rfl
  have hlc:(zC o).length<=60:=by unfold zC;rw [G8];exact hle
  refine⟨_,rfl,_,rfl,vk o,(k:P4),rfl,okO,?_⟩;rw [plO];refine⟨_,rfl,QK ⟨_,rfl,zC o,W5 (by rw [Yy]),by omega,λp1 ns' e1 hp hpw=>⟨_,rfl,k,rfl,by omega,λp2 e2=> ?_⟩⟩⟩;have er:((G6 k).map λ(i:G3)=>D.int (i:P4))=(zC (G6 k)).map D.int:=by unfold zC;rw [S8];rfl
  refine⟨.list (ns'.map .int),.list ((zC (G6 k)).map .int),⟨p1,_,rfl,ze jc e2,wq _ _⟩,⟨p2,_,rfl,by rw [jc,er],wq _ _⟩,yg _,yg _,h,Sub.newAt (Sub.newAt (Sub.refl h) e1) e2,?_⟩;have ee:F7 (.list (ns'.map .int)) (.list ((zC (G6 k)).map .int))=true:=by
   have es:ns'=zC (G6 k):=sO (le:=λ(x y:P4)=>x<=y) (λ_ _ _ _ a b=>Int.le_antisymm a b) hpw (Vw k) (hp.trans (ho.map _));rw [es];exact ZV _
  rw [ee];exact q
 ·refine⟨_,rfl,_,rfl,d,(k:P4),rfl,ok,?_⟩;rw [bad];exact⟨_,rfl,Wt ⟨h,Sub.refl h,q⟩⟩
 ·skip
  have okO:okD (vk o)=true:=Qw (by rw [G8];omega) λd hd=>by obtain⟨x,_,rfl⟩:=R8.mp hd;rfl
  have plO:YB (vk o) (k:P4)=true:=by
   show (o.map _).all _=true;rw [C3];intro x hx;obtain⟨i,hi,rfl⟩:=R8.mp hx;have:=hlt i hi;show (decide ((0:P4)<=(i:P4))&&decide ((i:P4)<=(k:P4)-1))=true;rw [D9 (show (0:P4)<=(i:P4) by omega),D9 (show (i:P4)<=(k:P4)-1 by omega)];rfl
  have hlc:(zC o).length<=60:=by unfold zC;rw [G8];exact hle
  refine⟨_,rfl,_,rfl,vk o,(k:P4),rfl,okO,?_⟩;rw [plO];refine⟨_,rfl,QK ⟨_,rfl,zC o,W5 (by rw [Yy]),by omega,λp1 ns' e1 hp hpw=>⟨_,rfl,k,rfl,by omega,λp2 e2=> ?_⟩⟩⟩;have er:((G6 k).map λ(i:G3)=>D.int (i:P4))=(zC (G6 k)).map D.int:=by unfold zC;rw [S8];rfl
  refine⟨.list (ns'.map .int),.list ((zC (G6 k)).map .int),⟨p1,_,rfl,ze jc e2,wq _ _⟩,⟨p2,_,rfl,by rw [jc,er],wq _ _⟩,yg _,yg _,h,Sub.newAt (Sub.newAt (Sub.refl h) e1) e2,?_⟩;have ee:F7 (.list (ns'.map .int)) (.list ((zC (G6 k)).map .int))=false:=by
   cases hb:F7 (.list (ns'.map .int)) (.list ((zC (G6 k)).map .int)) with
   |false=>rfl
   |true=>
    have:=Yd (show L0 (ns'.map .int) ((zC (G6 k)).map .int)=true from hb);rw [G8,G8,hp.length_eq] at this;unfold zC at this;rw [G8,G8,R6] at this;exact absurd this hne
  rw [ee];exact q
def yQ:RDn:=λds h Q=> ∃d k,ds= [d,.int k]/\okD d=true/\Q (.bl (Bn d k)) h
theorem Wn (Z:Zs mg)(F:Fun K "is_table_row" "is_table_row" wN f fd)(JX:jh P w K mg base n "is_whole" ["thing"] vF):FnOk P w K mg base CX0 (n+1) f fd ["thing","size"] (LSp K yQ):=by
 refine F.okM yI (λhr=>(js2 (Us (jpt (Ei (Yw (Yv (PN (T:= "tuple") (by decide) rfl Z.isinstance rfl Z.tuple (by decide +kernel) (jv 0)))) (Eh (jt1 oq_ne (No Z (jv 0)) (jv 1))))) (yc jbl)) (yc (wT (Vq rfl) rfl Z.all aD (j1 (jl0 2 yI (zE (jv 0)) (λ_ _ _ _=>(Mq (jk JX hr (j1 (jv 2))) (GG (jc1 Cm (jv 2) jz)))))))))) ?_;rintro ds h Q ⟨d,k,rfl,ok,q⟩;refine⟨rfl,?_⟩;obtain⟨nm,hn⟩:=Jl ok;simp only [WO,Mh,FS,QN,vS,dIs,Md,wS,T7,bG,D8,B2,N5,Y8,O2,U1,aT,D.bl.injEq,RI,dC,RJ,UC,dCB,zm,ZJ,dOp,FV,a9,neD,bR,hn];cases d with
 |tup es=>
  cases hn;obtain⟨hl,ht⟩:=Xo ok;simp only [OL]
  by_cases hk:(es.length:P4)=k
  ·simp only [hk];simp;refine Pz (ds:=es) (h1:=h) (j:=λ_=>some es) (λx=> .bl (En x)) (R9 (jF hl)) rfl (λR r=>⟨.tup es,rfl,r⟩) (λd hd Q' q'=> ?_) (λp hp=> ?_)
   ·obtain⟨nn,hnn⟩:=Jl (ht d hd);refine⟨d,rfl,d,nn,rfl,hnn,Rt d,rfl,?_⟩;cases d with
    |int i=>exact QK ⟨.int i,rfl,q'⟩
    |_=>exact Wt q'
   ·refine⟨p,es.map En,rfl,by rw [jc];simp,h,?_,?_⟩
    ·rw [zP hp];exact Sub.refl h
    ·simpa [Bn,hk,W3,eI] using q
  ·simp [hk];exact⟨h,Sub.refl h,by simpa [Bn,hk] using q⟩
 |_=>cases hn<;>exact⟨h,Sub.refl h,q⟩
def wY:RDn:=λds h Q=> ∃d,ds= [d]/\okD d=true/\Q (.bl (FY d)) h
theorem JU (Z:Zs mg)(F:Fun K "has_table_form" "has_table_form" zW f fd)(WG:jh P w K mg base n "is_table_row" ["thing","size"] yQ)(jQ: ∃tk,mg "MOST_ROWS" =some (.int 6 tk)):FnOk P w K mg base CX0 (n+1) f fd ["thing"] (LSp K wY):=by
 obtain⟨tk_MOST_ROWS,m_MOST_ROWS⟩:=jQ;refine F.okM wW (λhr=>(js2 (Us (jpt (Ei (Yw (Yv (PN (T:= "tuple") (by decide) rfl Z.isinstance rfl Z.tuple (by decide +kernel) (jv 0)))) (Eh (Yw (Cy Ml Ml jz (No Z (jv 0)) (QX rfl m_MOST_ROWS)))))) (yc jbl)) (yc (wT (Vq rfl) rfl Z.all aD (j1 (jl0 1 wW (zE (jv 0)) (λ_ _ _ _=>(jk WG hr (j2 (jv 1) (No Z (jv 0))))))))))) ?_;rintro ds h Q ⟨d,rfl,ok,q⟩;refine⟨rfl,?_⟩;obtain⟨nm,hn⟩:=Jl ok;simp only [WO,Mh,FS,QN,vS,dIs,Md,wS,T7,bG,D8,B2,N5,Y8,O2,U1,aT,D.bl.injEq,RI,dC,RJ,UC,dCB,zm,ZJ,ZK,FV,NO,bR,hn];cases d with
 |tup es=>
  cases hn;obtain⟨hl,ht⟩:=Xo ok;simp only [OL]
  by_cases h1:1<=es.length
  ·by_cases h6:es.length<=6
   ·have h1':(1:P4)<=es.length:=by omega
    have h6':(es.length:P4)<=6:=by omega
    simp [h1',h6'];refine Pz (ds:=es) (h1:=h) (j:=λ_=>some es) (λx=> .bl (Bn x es.length)) (R9 (jF hl)) rfl (λR r=>⟨.tup es,rfl,r⟩) (λd hd Q' q'=> ?_) (λp hp=> ?_)
    ·exact⟨d,rfl,.tup es,rfl,d,es.length,rfl,ht d hd,q'⟩
    ·refine⟨p,es.map λx=>Bn x es.length,rfl,by rw [jc];simp,h,?_,?_⟩
     ·rw [zP hp];exact Sub.refl h
     ·simpa [FY,h1,h6,W3,eI] using q
   ·have h1':(1:P4)<=es.length:=by omega
    have h6': ¬ (es.length:P4)<=6:=by omega
    simp [h1',h6'];exact⟨h,Sub.refl h,by simpa [FY,h1,h6] using q⟩
  ·have h1': ¬ (1:P4)<=es.length:=by omega
   simp [h1'];exact⟨h,Sub.refl h,by simpa [FY,h1] using q⟩
 |_=>cases hn<;>exact⟨h,Sub.refl h,q⟩
theorem FA {x:P4}(h:0<=x):En (.int x)=true:=D9 h
variable {e:G3}{T:G0 (G0 P4)}
theorem FB (h:Sq n e T){r:G0 P4}(hr:r∈T):Bn (yB r) n=true:=by
 simp only [Bn,yB,G8,h.row r hr,uO,nH,W3,C3,K8];intro x hx;exact FA (h.nn r hr x hx)
theorem FC (h:Sq n e T)(h1:1<=n)(h6:n<=6):FY (jC T)=true:=by
 simp only [FY,jC,G8,h.len,D9 h1,D9 h6,nH,W3,C3,K8];intro r hr;exact FB h hr
theorem AR (h:Sq n e T)(h6:n<=6):okD (jC T)=true:=
 Qw (by rw [G8,h.len];omega) λd hd=>by
  obtain⟨r,hr,rfl⟩:=R8.mp hd;exact Qw (by rw [G8,h.row r hr];omega) λd hd=>by obtain⟨x,_,rfl⟩:=R8.mp hd;rfl
def zv:RDn:=λds h Q=> ∃T,∃n e:G3,ds= [jC T]/\Sq n e T/\1<=n/\n<=6/\Q .non h
theorem YT (Z:Zs mg)(F:Fun K "want_table" "want_table" yJ f fd)(Zh:jh P w K mg base n "has_table_form" ["thing"] wY):FnOk P w K mg base CX0 (n+1) f fd ["thing"] (LSp K zv):=by
 refine F.okM YO (λhr=>(zl (Us (Yw (Yv (jk Zh hr (j1 (jv 0))))) XH))) ?_;rintro ds h Q ⟨T,k,b,rfl,hT,h1,h6,q⟩;refine⟨rfl,?_⟩;refine⟨_,rfl,jC T,rfl,AR hT h6,_,rfl,?_⟩;rw [FC hT h1 h6];exact Wt ⟨h,Sub.refl h,q⟩
def Jn:RDn:=λds h Q=> ∃ (T:G0 (G0 P4)) (o:G0 G3) (n:G3),ds= [jC T,vk o]/\T.length=n/\Ordr n o/\n<=6/\Q .non h
theorem YU (Z:Zs mg)(F:Fun K "want_order" "want_order" yK f fd)(Gz:jh P w K mg base n "is_order" ["thing","size"] Wm):FnOk P w K mg base CX0 (n+1) f fd ["table","thing"] (LSp K Jn):=by
 refine F.okM YQ (λhr=>(zl (Us (Yw (Yv (jk Gz hr (j2 (jv 1) (No Z (jv 0)))))) XH))) ?_;rintro ds h Q ⟨T,o,k,rfl,hT,ho,h6,q⟩;refine⟨rfl,?_⟩;refine⟨_,rfl,_,rfl,_,k,by rw [G8,hT],h6,.inl ⟨o,rfl,ho,_,rfl,?_⟩⟩;exact Wt ⟨h,Sub.refl h,q⟩
def zc:RDn:=λds h Q=> ∃k lo hi:P4,ds= [.int k,.int lo,.int hi]/\lo<=k/\k<=hi/\Q .non h
theorem WC (Z:Zs mg)(F:Fun K "want_number" "want_number" yi f fd)(vH:jh P w K mg base n "is_within" ["thing","least","most"] yP):FnOk P w K mg base CX0 (n+1) f fd ["thing","least","most"] (LSp K zc):=by
 refine F.okM WA (λhr=>(zl (Us (Yw (Yv (jk vH hr (j3 (jv 0) (jv 1) (jv 2))))) XH))) ?_;rintro ds h Q ⟨k,lo,hi,rfl,h1,h2,q⟩;refine⟨rfl,?_⟩;refine⟨_,rfl,_,rfl,_,rfl,.int k,lo,hi,rfl,rfl,_,rfl,?_⟩;have e0:vt (.int k) lo hi=true:=by
  show (decide (lo<=k)&&decide (k<=hi))=true;rw [D9 h1,D9 h2];rfl
 rw [e0];exact Wt ⟨h,Sub.refl h,q⟩
def Jo:RDn:=λds h Q=> ∃T U,∃n e f:G3,ds= [jC T,jC U]/\Sq n e T/\Sq n f U/\e+f<=1000000/\n<=6/\Q (jC (yr n T U)) h
theorem YV (Z:Zs mg)(F:Fun K "multiplied" "multiplied" yL f fd):FnOk P w K mg base CX0 (n+1) f fd ["one","other"] (LSp K Jo):=by
 refine F.okM zt (λhr=>(js2 (jse 2 zt (No Z (jv 0))) (yc (zH zQ rfl Z.tuple (by decide +kernel) (j1 (jl0 3 zt (zE (jv 0)) (λ_ _ _ _=>(zH zQ rfl Z.tuple (by decide +kernel) (j1 (jl0 4 zt (jrg Z (jv 2)) (λ_ _ _ _=>(wT (PJ rfl) rfl Z.sum (by decide +kernel) (j1 (jl0 5 zt (jrg Z (jv 2)) (λ_ _ _ _=>(jop CG (ji1 (jv 3) (jv 5)) (ji1 (ji1 (jv 1) (jv 5)) (jv 4)))))))))))))))))) ?_;rintro ds h Q ⟨T,U,k,b,f,rfl,hT,hU,hb,h6,q⟩;refine⟨rfl,?_⟩;refine ju (λIF h'=>IF= [some (jC T),some (jC U),some (.int (k:P4)),none,none,none]/\h=h') (λC hC=>⟨_,rfl,hC _ _ ⟨by rw [G8,hT.len];rfl,rfl⟩⟩) ?_;rintro _ _ ⟨rfl,rfl⟩;refine NW T yB (λr=> .tup ((G6 k).map λj=> .int (jB k λm=>r.getD m 0*ent U m j))) (by rw [hT.len];omega) rfl (λR r=>⟨_,rfl,r⟩) (λr hr Q' q'=> ?_) ⟨h,Sub.refl h,?_⟩
 ·refine NW (G6 k) (λj=> .int (j:P4)) (λj=> .int (jB k λm=>r.getD m 0*ent U m j)) (by rw [R6];omega) rfl (λR rr=>⟨_,rfl,(k:P4),rfl,by omega,by omega,rr⟩) (λj hj Q'' q''=> ?_) q';refine HK (G6 k) (λm=> .int (m:P4)) (λm=>r.getD m 0*ent U m j) (by rw [R6];omega) rfl (λR rr=>⟨_,rfl,(k:P4),rfl,by omega,by omega,rr⟩) (λm hm Q3 q3=> ?_) q'';have hm':=D3.mp hm;have hj':=D3.mp hj;refine⟨_,rfl,_,rfl,_,UK (hT.row r hr) hm',_,rfl,_,rfl,_,PU hU hm',_,rfl,_,UK (hU.row _ (Sq.getRow hU hm')) hj',?_,q3⟩;refine Ms (e:=b) (f:=f) ?_ (hU.ent_nn hm' hj') (by omega);have hm2:m<r.length:=by rw [hT.row r hr];exact hm'
  have e1:r.getD m 0=r[m]:=by rw [S1,G7 hm2];rfl
  rw [e1];exact⟨hT.nn r hr _ (C9 hm2),hT.bit r hr _ (C9 hm2)⟩
 ·rw [Mw hT];exact q
def Rv:RDn:=λds h Q=> ∃T,∃n e:G3,ds= [jC T]/\Sq n e T/\1<=n/\n<=6/\Q (.bl (jI T)) h
theorem FD (Z:Zs mg)(F:Fun K "full" "full" Rs f fd)(jW:jh P w K mg base n "want_table" ["thing"] zv):FnOk P w K mg base CX0 (n+1) f fd ["table"] (LSp K Rv):=by
 refine F.okM RG (λhr=>(js2 (Ze (jk jW hr (j1 (jv 0)))) (yc (wT (Vq rfl) rfl Z.all aD (j1 (HH (i:=1) (i':=2) (js:= [1,2]) rfl (zG (by rfl)) (zE (jv 0)) (by decide) (by decide) (by decide) RG.nd rfl rfl (by first|exact W5 rfl|exact bU rfl) (by first|exact W5 rfl|exact bU rfl) (λX' hX=>yA) (λX' hX=>by obtain⟨C,s₀,H₀,ex,rfl⟩:=hX;exact(zE (jv 1))) (λX' hX=>yA) (λX' hX=>by obtain⟨C,s₀,H₀,ex,rfl⟩:=hX;exact(jc1 oq_ne (jv 2) jz)))))))) ?_;rintro ds h Q ⟨T,k,b,rfl,hT,h1,h6,q⟩;refine⟨rfl,?_⟩;refine wE [some (jC T),none,none] (λC hC=>⟨_,rfl,T,k,b,rfl,hT,h1,h6,hC⟩) ?_;refine HM T yB (λr=>r) D.int (λ_ x=>decide (x≠0)) (Mv hT h6) rfl (λR r=>⟨_,rfl,r⟩) (λr hr R rr=>⟨_,rfl,rr⟩) (λr hr x hx Q' q'=>⟨_,rfl,?_⟩) ⟨h,Sub.refl h,q⟩;show Q' (.bl (!decide (x=0))) h;have e:(!decide (x=0))=decide (x≠0):=by simp
 rw [e];exact q'
def ZA:RDn:=λds h Q=> ∃T,∃n e:G3,ds= [jC T]/\Sq n e T/\1<=n/\n<=6/\Q (jC (jj n T)) h
theorem Nw (Z:Zs mg)(F:Fun K "marks" "marks" Xn f fd)(jW:jh P w K mg base n "want_table" ["thing"] zv):FnOk P w K mg base CX0 (n+1) f fd ["table"] (LSp K ZA):=by
 refine F.okM YR (λhr=>(js2 (Ze (jk jW hr (j1 (jv 0)))) (yc (zH zQ rfl Z.tuple (by decide +kernel) (j1 (jl0 1 YR (zE (jv 0)) (λ_ _ _ _=>(zH zQ rfl Z.tuple (by decide +kernel) (j1 (jl0 2 YR (zE (jv 1)) (λ_ _ _ _=>(jif (jt1 oq_ne (jv 2) jz) jz jz)))))))))))) ?_;rintro ds h Q ⟨T,k,b,rfl,hT,h1,h6,q⟩;refine⟨rfl,?_⟩;refine wE [some (jC T),none,none] (λC hC=>⟨_,rfl,T,k,b,rfl,hT,h1,h6,hC⟩) ?_;refine NW T yB (λr=> .tup (r.map λx=> .int (if x≠0 then 1 else 0))) (by rw [hT.len];omega) rfl (λR r=>⟨_,rfl,r⟩) (λr hr Q' q'=> ?_) ⟨h,Sub.refl h,?_⟩
 ·refine NW r D.int (λx=> .int (if x≠0 then 1 else 0)) (by rw [hT.row r hr];omega) rfl (λR r=>⟨_,rfl,r⟩) (λx hx Q'' q''=>⟨_,rfl,_,rfl,?_⟩) q'
  by_cases z:x=0
  ·subst z;exact Wt q''
  ·have e:(!decide (x=0))=true:=by simp [z]
   rw [e];rw [D4 z] at q'';exact QK q''
 ·rw [CH,<-CI hT];exact q
def Ye:RDn:=λds h Q=> ∃T,∃n e:G3,∃o,ds= [jC T,vk o]/\Sq n e T/\Ordr n o/\1<=n/\n<=6/\Q (jC (Zt n o T)) h
theorem Gw (Z:Zs mg)(F:Fun K "renamed" "renamed" Wj f fd)(jW:jh P w K mg base n "want_table" ["thing"] zv)(Uk:jh P w K mg base n "want_order" ["table","thing"] Jn):FnOk P w K mg base CX0 (n+1) f fd ["table","order"] (LSp K Ye):=by
 refine F.okM wX (λhr=>(js4 (Ze (jk jW hr (j1 (jv 0)))) (Ze (jk Uk hr (j2 (jv 0) (jv 1)))) (jse 2 wX (jl0 3 wX (jrg Z (No Z (jv 0))) (λ_ _ _ _=>(HI (jv 1) (jv 3))))) (yc (zH zQ rfl Z.tuple (by decide +kernel) (j1 (jl0 4 wX (zE (jv 2)) (λ_ _ _ _=>(zH zQ rfl Z.tuple (by decide +kernel) (j1 (jl0 5 wX (zE (jv 2)) (λ_ _ _ _=>(ji1 (ji1 (jv 0) (jv 4)) (jv 5))))))))))))) ?_;rintro ds h Q ⟨T,k,b,o,rfl,hT,ho,h1,h6,q⟩;refine⟨rfl,?_⟩;refine wE [some (jC T),some (vk o),none,none,none,none] (λC hC=>⟨_,rfl,T,k,b,rfl,hT,h1,h6,hC⟩) ?_;refine wE [some (jC T),some (vk o),none,none,none,none] (λC hC=>⟨_,rfl,_,rfl,T,o,k,rfl,hT.len,ho,h6,hC⟩) ?_;have lt: ∀i,i∈G6 k->o.idxOf i<k:=λi hi=>ho.ord.lt (D3.mp hi)
 refine ju (λIF h'=> ∃p,IF= [some (jC T),some (vk o),some (.lst p),none,none,none]/\h p=none/\h'=zZ h p ((G6 k).map λi=> .int ((o.idxOf i:G3):P4))) (λC hC=> ?_) ?_
 ·refine lcA (G6 k) (λj=> .int (j:P4)) (λi=> .int ((o.idxOf i:G3):P4)) (by rw [R6];omega) rfl (λR r=>⟨_,rfl,(k:P4),by rw [G8,hT.len],by omega,by omega,r⟩) (λi hi Q' q'=> ?_) (λp hp=>hC _ _ ⟨p,rfl,hp,rfl⟩);refine⟨_,rfl,zC o,Yy o,_,rfl,(i:P4),rfl,Mu (ho.mem_iff.mpr hi),?_⟩;rw [Mt];exact q'
 rintro _ _ ⟨p,rfl,hp,rfl⟩;refine NW (j:=λh=>h p) (G6 k) (λi=> .int ((o.idxOf i:G3):P4)) (λi=> .tup ((G6 k).map λj=> .int (ent T (o.idxOf i) (o.idxOf j)))) (by rw [R6];omega) jc (λR r=>⟨_,rfl,r⟩) (λi hi Q' q'=> ?_) ⟨h,Sub.newAt (Sub.refl h) hp,?_⟩
 ·refine NW (j:=λh=>h p) (G6 k) (λi=> .int ((o.idxOf i:G3):P4)) (λj=> .int (ent T (o.idxOf i) (o.idxOf j))) (by rw [R6];omega) jc (λR r=>⟨_,rfl,r⟩) (λj hj Q'' q''=> ?_) q';exact⟨_,rfl,_,rfl,_,PU hT (lt i hi),_,rfl,_,UK (hT.row _ (Sq.getRow hT (lt i hi))) (lt j hj),q''⟩
 ·rw [Ad];exact q
def ve:RDn:=λds h Q=> ∃M T,∃n e:G3,ds= [jC M,jC T]/\Sq n 1 M/\Sq n e T/\1<=n/\n<=6/\e<=1000/\Q (jC (mk1 n T M)) h
theorem WD (Z:Zs mg)(F:Fun K "marks_after" "marks_after" yj f fd)(Wr:jh P w K mg base n "marks" ["table"] ZA)(Ui:jh P w K mg base n "multiplied" ["one","other"] Jo):FnOk P w K mg base CX0 (n+1) f fd ["ahead","table"] (LSp K ve):=by
 refine F.okM WB (λhr=>(zl (yc (jk Wr hr (j1 (jk Ui hr (j2 (jv 0) (jv 1)))))))) ?_;rintro ds h Q ⟨M,T,n,b,rfl,hM,hT,h1,h6,hb,q⟩;refine⟨rfl,?_⟩;exact⟨_,rfl,_,rfl,M,T,n,1,b,rfl,hM,hT,by omega,h6,yr n M T,n,_,rfl,hM.mul hT (by omega),h1,h6,h,Sub.refl h,q⟩
def wA:RDn:=λds h Q=> ∃T,∃n e:G3,ds= [jC T]/\Sq n e T/\1<=n/\n<=6/\e<=1000/\ ∀A L J h',h A=none->h' A=some ((G6 L).map λi=>jC (ww n T i))->Sub h h'->Course n T L J->L<=2225->Q (.tup [.lst A,.int ((J:G3):P4)]) h'
theorem vG (Z:Zs mg)(F:Fun K "marks_and_return" "marks_and_return" zu f fd)(Wr:jh P w K mg base n "marks" ["table"] ZA)(Ju:jh P w K mg base n "marks_after" ["ahead","table"] ve):FnOk P w K mg base CX0 (n+1) f fd ["table"] (LSp K wA):=by
 refine F.okM jM (λhr=>(js4 (jse 1 jM (PL (j1 (jk Wr hr (j1 (jv 0)))))) (jse 2 jM (jk Ju hr (j2 (ji1 (jv 1) (Tz jz)) (jv 0)))) (Ae X8 (Cw (XO hr.units) (jv 2) (jv 1) (by with_unfolding_all rfl)) (js2 (Ze (Ss (jv 1) (jv 2))) (jse 2 jM (jk Ju hr (j2 (jv 2) (jv 0)))))) (yc (Cz (j2 (jv 1) (HP hr.units (jv 1) (jv 2))))))) ?_;rintro ds h Q ⟨T,n,bb,rfl,hT,h1,h6,hb,q⟩;refine⟨rfl,?_⟩;refine ju (λIF h'=> ∃A,IF= [some (jC T),some (.lst A),none]/\h A=none/\h' A=some ((G6 1).map λi=>jC (ww n T i))/\Sub h h') (λC hC=>⟨_,rfl,T,n,bb,rfl,hT,h1,h6,sz1,λA eA=>hC _ _ ⟨A,rfl,eA,jc,Sub.newAt (Sub.refl h) eA⟩⟩) ?_;rintro _ h1' ⟨A,rfl,fA,kA,sbA⟩;refine wE [some (jC T),some (.lst A),some (jC (ww n T 1))] (λC hC=>⟨_,rfl,_,_,kA,De (by decide),_,rfl,ww n T 0,T,n,bb,rfl,YA n T 0,hT,h1,h6,hb,hC⟩) ?_;refine ju (λIF h'=> ∃L,IF= [some (jC T),some (.lst A),some (jC (ww n T L))]/\h' A=some ((G6 L).map λi=>jC (ww n T i))/\Sub h h'/\L<=2225/\((G6 L).map (ww n T)).Nodup/\ww n T L∈(G6 L).map (ww n T)) (λC hC=> ?_) ?_
 ·refine MC (λm IF h'=> ∃L,IF= [some (jC T),some (.lst A),some (jC (ww n T L))]/\h' A=some ((G6 L).map λi=>jC (ww n T i))/\Sub h h'/\m=2226-L/\((G6 L).map (ww n T)).Nodup) _ ⟨_,rfl,kA,sbA,rfl,by simp⟩ ?_;rintro m _ h2 ⟨L,rfl,kA2,sb2,hm,nd⟩;have hL:=Dg hT h1 h6 nd;have kA3:h2 A=some (((G6 L).map (ww n T)).map jC):=by rw [kA2,S8];rfl
  refine⟨_,rfl,_,rfl,NX encT kA3 λbo hbo=>⟨_,rfl,Uz (λc=> ?_) (λc=> ?_)⟩⟩
  rotate_left
  ·refine hC _ _ ⟨L,rfl,kA2,sb2,hL,nd,hbo.mp ?_⟩;cases bo with
   |true=>rfl
   |false=>exact absurd rfl c
  have hni:ww n T L ∉ (G6 L).map (ww n T):=λz=>by rw [hbo.mpr z] at c;exact absurd c (by decide)
  refine ju (λIF h'=>IF= [some (jC T),some (.lst A),some (jC (ww n T L))]/\h' A=some ((G6 (L+1)).map λi=>jC (ww n T i))/\Sub h h') (λC2 hC2=> ?_) ?_
  ·refine⟨_,rfl,A,rfl,_,rfl,_,kA2,?_,hC2 _ _ ⟨rfl,?_,?_⟩⟩
   ·rw [G8,R6];exact V9 hL (by decide)
   ·rw [jc,lD,C6];rfl
   ·exact(sb2).over fA
  rintro _ h3 ⟨rfl,kA4,sb4⟩;refine⟨_,rfl,_,rfl,ww n T L,T,n,bb,rfl,YA n T L,hT,h1,h6,hb,2226-(L+1),_,by omega,Sub.refl _,L+1,rfl,kA4,sb4,rfl,?_⟩;rw [lD,C6,fE];exact⟨nd,by simp,λx hx y hy=>by rw [G9.mp (show y∈ [ww n T L] from hy)];intro e;exact hni (e ▸ hx)⟩
 rintro _ h3 ⟨L,rfl,kA3,sb3,hL,nd,hin⟩;have kA4:h3 A=some (((G6 L).map (ww n T)).map jC):=by rw [kA3,S8];rfl
 obtain⟨J,pd,ps,zz,hat,t1,t2,c1,c2,c3,c4,c5,c6,c7⟩:=Af encT kA4 hin (by simp;omega);have hJL:J<L:=by have:=(D6.mp hat).1;simpa using this
 have hJe:ww n T L=ww n T J:=by
  rw [D2,O9 hJL] at hat;injection hat with hat
  exact hat.symm
 exact⟨_,rfl,_,rfl,A,rfl,_,rfl,pd,ps,J,zz,t1,t2,c1,c2,c3,c4,c5,c6,c7,sz2,h3,Sub.refl _,q A L J h3 fA kA3 sb3 ⟨nd,hJL,hJe⟩ hL⟩
def Za:RDn:=λds h Q=> ∃T,∃n e:G3,ds= [jC T]/\Sq n e T/\1<=n/\n<=6/\e<=1000/\ ∀A L J h',h A=none->h' A=some ((G6 L).map λi=>jC (ww n T i))->Sub h h'->Course n T L J->L<=2225->Q (.lst A) h'
theorem Ua (Z:Zs mg)(F:Fun K "all_marks" "all_marks" vB f fd)(Jv:jh P w K mg base n "marks_and_return" ["table"] wA):FnOk P w K mg base CX0 (n+1) f fd ["table"] (LSp K Za):=by
 refine F.okM VV (λhr=>(zl (yc (ji1 (jk Jv hr (j1 (jv 0))) jz)))) ?_;rintro ds h Q ⟨T,n,bb,rfl,hT,h1,h6,hb,q⟩;refine⟨rfl,?_⟩;exact⟨_,rfl,T,n,bb,rfl,hT,h1,h6,hb,λA L J h' fA kA sb c hL=>⟨_,rfl,h',Sub.refl _,q A L J h' fA kA sb c hL⟩⟩
def Fst (n:G3)(T:G0 (G0 P4)):P7 G3->Prop
 |none=> ∀k,1<=k->jI (jZ n T k)=false
 |some k=>1<=k/\k<=30/\jI (jZ n T k)=true/\ ∀j,1<=j->j<k->jI (jZ n T j)=false
def FZ:P7 G3->D
 |none=> .non
 |some k=> .int (k:P4)
section
variable {n e:G3}{T:G0 (G0 P4)}
theorem Qx (h:Sq n e T)(n1:1<=n)(h6:n<=6): ∃o,Fst n T o:=by
 by_cases z: ∃k,1<=k/\jI (jZ n T k)=true
 ·obtain⟨K,hK,f⟩:=z;obtain⟨k,k1,k30,fk⟩:=HU h n1 h6 hK f;clear f hK
  induction k using G3.strongRecOn with
  |_ k ih=>
   by_cases w: ∃j,1<=j/\j<k/\jI (jZ n T j)=true
   ·obtain⟨j,j1,jk,fj⟩:=w;exact ih j jk j1 (by omega) fj
   ·exact⟨some k,k1,k30,fk,λj j1 jk=>by
     cases hf:jI (jZ n T j) with
     |false=>rfl
     |true=>exact absurd ⟨j,j1,jk,hf⟩ w⟩
 ·exact⟨none,λk hk=>by
   cases hf:jI (jZ n T k) with
   |false=>rfl
   |true=>exact absurd ⟨k,hk,hf⟩ z⟩
theorem FE {o:P7 G3}(ho:Fst n T o){i:G3}(hi:jI (jZ n T (i+1))=true)(lo: ∀m,m<i->jI (jZ n T (m+1))=false):o=some (i+1):=by
 cases o with
 |none=>have:=ho (i+1) (by omega);rw [hi] at this;cases this
 |some k=>
  obtain⟨k1,k30,fk,fl⟩:=ho;have a: ¬ (i+1<k):=λz=>by have:=fl (i+1) (by omega) z;rw [hi] at this;cases this
  have b: ¬ (k<i+1):=λz=>by have:=lo (k-1) (by omega);rw [show k-1+1=k by omega,fk] at this;cases this
  rw [show k=i+1 by omega]
theorem Nx {o:P7 G3}(ho:Fst n T o)(lo: ∀m,m<30->jI (jZ n T (m+1))=false):o=none:=by
 cases o with
 |none=>rfl
 |some k=>
  obtain⟨k1,k30,fk,fl⟩:=ho;have:=lo (k-1) (by omega);rw [show k-1+1=k by omega,fk] at this;cases this
theorem yZ (h:Sq n e T)(hn:n<=8)(i:G3):jI (ww n T i)=jI (jZ n T (i+1)):=by rw [Zu h hn,ZT (h.pow hn _)]
end
def zd:RDn:=λds h Q=> ∃T,∃n e:G3,∃o,ds= [jC T]/\Sq n e T/\1<=n/\n<=6/\e<=1000/\Fst n T o/\Q (FZ o) h
theorem WE (Z:Zs mg)(F:Fun K "first_power" "first_power" yk f fd)(Xx:jh P w K mg base n "all_marks" ["table"] Za)(AY:jh P w K mg base n "full" ["table"] Rv):FnOk P w K mg base CX0 (n+1) f fd ["table"] (LSp K zd):=by
 refine F.okM vf (λhr=>(js2 (CC X8 rfl (MJ rfl Z.enumerate (j1 (jk Xx hr (j1 (jv 0))))) (NU (i:=1) (j:=2) rfl vf.nd rfl rfl (W5 rfl) (W5 rfl)) (zl (Us (Yv (jk AY hr (j1 (jv 2)))) (yc (jop wC (jv 1) jz))))) (yc Tw))) ?_;rintro ds h Q ⟨T,k,b,o,rfl,hT,h1,h6,hb,ho,q⟩;refine⟨rfl,?_⟩;have hn:k<=8:=by omega
 refine ju (λIF h'=>o=none/\Sub h h') (λC hC=> ?_) ?_
 ·refine⟨_,rfl,T,k,b,rfl,hT,h1,h6,hb,λA L J h' fA kA sb hc hL=>⟨A,rfl,?_⟩⟩;refine ZO (j:=λh=>(h A).map Da) (Da ((G6 L).map λi=>jC (ww k T i))) (λi IF h2=> ∃a b',IF= [some (jC T),a,b']/\h'=h2/\ ∀m,m<i->jI (jZ k T (m+1))=false) (λi IF h2 ⟨_,_,_,e,_⟩=>by rw [<-e];show (h' A).map Da=_;rw [kA];rfl) ⟨none,none,rfl,rfl,λm hm=>absurd hm (V4 _)⟩ ?_ ?_
  ·rintro IF h2 ⟨a,b',e,eh,lo⟩;rw [vp,G8,R6] at lo;refine hC _ _ ⟨Nx ho λm _=> ?_,eh ▸ sb⟩
   by_cases z:m<L
   ·exact lo m z
   ·have lt:=hc.lt;rw [<-yZ hT hn m,<-Ag hc (show J<=m by omega),yZ hT hn];exact lo _ (by have:=X7 (m-J) (show 0<L-J by omega);omega)
  rintro i d _ _ hd ⟨a,b',rfl,rfl,lo⟩;obtain⟨x,hx,rfl⟩:=XN hd;have hil:i+1<=(Da ((G6 L).map λi=>jC (ww k T i))).length:=(D6.mp hd).1;have hiL:i<L:=by rw [vp,G8,R6] at hil;exact hil
  rw [D2,O9 hiL] at hx;injection hx with hx
  subst hx;refine⟨_,_,rfl,_,rfl,ww k T i,k,1,rfl,YA k T i,h1,h6,_,rfl,?_⟩;rw [yZ hT hn];cases hf:jI (jZ k T (i+1)) with
  |true=>
   refine QK ⟨_,rfl,h,sb,?_⟩;rw [FE ho hf lo] at q;exact q
  |false=>
   refine Wt ⟨_,Sub.refl _,hil,_,_,rfl,rfl,λm hm=> ?_⟩
   by_cases z:m=i
   ·subst z;exact hf
   ·exact lo m (by omega)
 rintro _ h2 ⟨e,sb⟩;subst e;exact⟨h,sb,q⟩
def ST (n i:G3):G0 P4:=if i+1=n then ((N5 n 0).set ((i+1)%n) 1).set (1%n) 1 else (N5 n 0).set ((i+1)%n) 1
def Rw (n:G3):G0 (G0 P4):=(G6 n).map (ST n)
def FF (n:G3):G0 (G0 P4):=((G6 (n-1)).map λi=>(G6 n).map λj=>if j=i+1 then (1:P4) else 0)++ [(G6 n).map λj=>if j<2 then (1:P4) else 0]
theorem FG (h1:2<=n)(h6:n<=6):FF n=Rw n:=by
 rcases (show n=2\/n=3\/n=4\/n=5\/n=6 by omega) with e|e|e|e|e<;>subst e<;>decide +kernel
def Jp:RDn:=λds h Q=> ∃n:G3,ds= [.int (n:P4)]/\2<=n/\n<=6/\Q (jC (Rw n)) h
theorem YW (Z:Zs mg)(F:Fun K "slow_table" "slow_table" yM f fd)(jP:jh P w K mg base n "want_number" ["thing","least","most"] zc)(jQ: ∃tk,mg "MOST_ROWS" =some (.int 6 tk)):FnOk P w K mg base CX0 (n+1) f fd ["size"] (LSp K Jp):=by
 obtain⟨tk_MOST_ROWS,m_MOST_ROWS⟩:=jQ;refine F.okM zB (λhr=>(js4 (Ze (jk jP hr (j3 (jv 0) jz (QX rfl m_MOST_ROWS)))) (Ab (i:=3) (k:=1) (js:= [3]) rfl zB.nd rfl (W5 rfl) (zG (by rfl)) (jrg Z (jop WQ (jv 0) jz)) (by decide) rfl (by first|exact W5 rfl|exact bU rfl) (λX' hX=>yA) (λX' hX=>by obtain⟨C,s₀,H₀,ex,rfl⟩:=hX;exact(zH zQ rfl Z.tuple (by decide +kernel) (j1 (jl0 4 zB (jrg Z (jv 0)) (λ_ _ _ _=>(jif (jt1 (ZP hr.units) (jv 4) (jop wC (jv 3) jz)) jz jz))))))) (jse 2 zB (zH zQ rfl Z.tuple (by decide +kernel) (j1 (jl0 4 zB (jrg Z (jv 0)) (λ_ _ _ _=>(jif (jt1 Cl (jv 4) jz) jz jz)))))) (yc (jop wC (zH cq_tuple rfl Z.tuple (by decide +kernel) (j1 (jv 1))) (Cz (j1 (jv 2))))))) ?_;rintro ds h Q ⟨k,rfl,h2,h6,q⟩;refine⟨rfl,?_⟩;refine wE [some (.int (k:P4)),none,none,none,none] (λC hC=>⟨_,rfl,(k:P4),2,6,rfl,by omega,by omega,hC⟩) ?_;refine ju (λIF h'=> ∃R,IF= [some (.int (k:P4)),some (.lst R),none,none,none]/\h R=none/\h'=zZ h R (((G6 (k-1)).map λi=>(G6 k).map λj=>if j=i+1 then (1:P4) else 0).map yB)) (λC hC=> ?_) ?_
 ·refine lcA (G6 (k-1)) (λi=> .int (i:P4)) (λi=>yB ((G6 k).map λj=>if j=i+1 then (1:P4) else 0)) (by rw [R6];omega) rfl (λR r=>⟨_,rfl,((k-1:G3):P4),by rw [show ((k-1:G3):P4)=(k:P4)-1 by omega],by omega,by omega,r⟩) (λi hi Q' q'=> ?_) (λp hp=>hC _ _ ⟨p,rfl,hp,by rw [S8];rfl⟩);refine NW (G6 k) (λj=> .int (j:P4)) (λj=> .int (if j=i+1 then 1 else 0)) (by rw [R6];omega) rfl (λR r=>⟨_,rfl,(k:P4),rfl,by omega,by omega,r⟩) (λj hj Q'' q''=>⟨_,rfl,_,rfl,_,rfl,?_⟩) ?_
  ·by_cases z:j=i+1
   ·subst z;rw [D4 rfl] at q'';rw [D9 (by omega)];exact QK q''
   ·rw [D5 z] at q'';rw [T6 (by omega)];exact Wt q''
  ·unfold yB at q';rw [S8] at q';exact q'
 rintro _ _ ⟨R,rfl,fR,rfl⟩;refine ju (λIF h'=>IF= [some (.int (k:P4)),some (.lst R),some (yB ((G6 k).map λj=>if j<2 then (1:P4) else 0)),none,none]/\zZ h R (((G6 (k-1)).map λi=>(G6 k).map λj=>if j=i+1 then (1:P4) else 0).map yB)=h') (λC hC=> ?_) ?_
 ·refine NW (G6 k) (λj=> .int (j:P4)) (λj=> .int (if j<2 then 1 else 0)) (by rw [R6];omega) rfl (λR r=>⟨_,rfl,(k:P4),rfl,by omega,by omega,r⟩) (λj hj Q'' q''=>⟨_,rfl,_,rfl,?_⟩) (hC _ _ ⟨by unfold yB;rw [S8];rfl,rfl⟩);refine Uz (λc=> ?_) (λc=> ?_)
  ·have c':(j:P4)<2:=C7 c;rw [D4 (by omega)] at q'';exact q''
  ·have c': ¬ (j:P4)<2:=λz=>c (D9 z)
   rw [D5 (by omega)] at q'';exact q''
 rintro _ _ ⟨rfl,rfl⟩;refine⟨_,rfl,_,jc,_,rfl,sz1,?_,h,Sub.newAt (Sub.refl h) fR,?_⟩
 ·simp only [G8,R6,D8,B2];exact R9 (jF (by omega))
 ·have e:jC (FF k)= .tup (((G6 (k-1)).map λi=>(G6 k).map λj=>if j=i+1 then (1:P4) else 0).map yB++ [yB ((G6 k).map λj=>if j<2 then (1:P4) else 0)]):=by unfold jC FF;rw [C6];rfl
  rw [FG h2 h6] at e;rw [<-e];exact q
def zY:RDn:=λds h Q=> ∃n:G3,ds= [.int (n:P4)]/\1<=n/\n<=6/\Q (.int (((n:P4)-1)*((n:P4)-1)+1)) h
theorem Zg (Z:Zs mg)(F:Fun K "slowest_power" "slowest_power" wx f fd)(jP:jh P w K mg base n "want_number" ["thing","least","most"] zc)(jQ: ∃tk,mg "MOST_ROWS" =some (.int 6 tk)):FnOk P w K mg base CX0 (n+1) f fd ["size"] (LSp K zY):=by
 obtain⟨tk_MOST_ROWS,m_MOST_ROWS⟩:=jQ;refine F.okM Zf (λhr=>(js2 (Ze (jk jP hr (j3 (jv 0) jz (QX rfl m_MOST_ROWS)))) (yc (jop wC (jop Jz (jop WQ (jv 0) jz) (jop WQ (jv 0) jz)) jz)))) ?_;rintro ds h Q ⟨k,rfl,h1,h6,q⟩;refine⟨rfl,?_⟩;refine⟨_,rfl,(k:P4),1,6,rfl,by omega,by omega,_,rfl,_,rfl,W5 ⟨by omega,by omega⟩,h,Sub.refl h,q⟩
variable {te:TED}{E:EndsD}{σ:SD}{h:HD}
theorem Bo {i k:G3}{d:D}(x:te (σ.set i (some d)) h λv h1=>E.nx ((σ.set i (some d)).set k (some v)) h1):gN i d σ h (λIH h2=>Mi k te E IH h2):=x
def Kj:D->ItD
 | .lst a=>λh=>h a
 | .tup ds=>λ_=>some ds
 |_=>λ_=>none
theorem FH (ts:G0 D)(k:G3):((Zz ts k).flatMap λr=>ts.map λt=>D.tup (r++ [t]))=(Zz ts (k+1)).map D.tup:=by
 show _=((Zz ts k).flatMap _).map D.tup;rw [kH]
 congr 1
 funext r
 rw [S8];rfl
theorem FI {α:Type}{ts:G0 α}(h8:ts.length<=8): ∀ {k:G3},k<3->((Zz ts k).flatMap λ_=>ts).length<=1000:=λ{k} hk=>by
 have: ∀l:G0 (G0 α),(l.flatMap λ_=>ts).length=l.length*ts.length:=λl=>by
  induction l with
  |nil=>simp
  |cons x l ih=>rw [K1,P0,ih,D8,cL];omega
 rw [this,JK];have a:ts.length^k<=8^2:=S4 (Nat.pow_le_pow_left h8 k) (aP (by decide) (by omega));have:=mH a h8;omega
def Wo:RDn:=λds h Q=> ∃x ts,∃m:G3,ds= [x,.int (m:P4)]/\(x= .tup ts\/ ∃a,x= .lst a/\h a=some ts)/\m<=3/\ts.length<=8/\ ∀A h',h A=none->h' A=some ((Zz ts m).map D.tup)->Sub h h'->Q (.lst A) h'
theorem Xs (Z:Zs mg)(F:Fun K "all_rows" "all_rows" JP f fd):FnOk P w K mg base CX0 (n+1) f fd ["things","many"] (LSp K Wo):=by
 refine F.okM yo (λhr=>(js3 (jse 2 yo (PL (j1 (Cz Vu)))) (CC X8 rfl (jrg Z (jv 1)) (jgn 3 yo) (zl (DE (i:=4) (i':=5) (k:=2) (js:= [4,5]) rfl yo.nd rfl (W5 rfl) (zG (by rfl)) (zE (jv 2)) (by decide) (by decide) (by decide) rfl rfl (by first|exact W5 rfl|exact bU rfl) (by first|exact W5 rfl|exact bU rfl) (λX' hX=>yA) (λX' hX=>by obtain⟨C,s₀,H₀,ex,rfl⟩:=hX;exact(zE (jv 0))) (λX' hX=>yA) (λX' hX=>by obtain⟨C,s₀,H₀,ex,rfl⟩:=hX;exact(jop wC (jv 4) (Cz (j1 (jv 5)))))))) (yc (jv 2)))) ?_;rintro ds h Q ⟨x,ts,m,rfl,hx,h3,h8,q⟩;refine⟨rfl,?_⟩;refine ju (λIF h'=> ∃A,IF= [some x,some (.int (m:P4)),some (.lst A),none,none,none]/\h A=none/\h' A=some ((Zz ts 0).map D.tup)/\Sub h h') (λC hC=>⟨sz0,sz1,λA eA=>hC _ _ ⟨A,rfl,eA,jc,Sub.new eA⟩⟩) ?_;rintro _ h1 ⟨A,rfl,fA,kA,sb⟩;refine ju (λIF h'=> ∃A a b c,IF= [some x,some (.int (m:P4)),some (.lst A),a,b,c]/\h A=none/\h' A=some ((Zz ts m).map D.tup)/\Sub h h') (λC hC=> ?_) ?_
 ·refine Ys (h1:=h1) m (λk IF h'=> ∃A a b c,IF= [some x,some (.int (m:P4)),some (.lst A),a,b,c]/\h A=none/\h' A=some ((Zz ts k).map D.tup)/\Sub h h') (by omega) (λR r=>⟨_,rfl,r⟩) ⟨A,none,none,none,rfl,fA,kA,sb⟩ (λIF h' z=>hC _ _ z) ?_;clear kA sb fA;rintro k _ h2 hk ⟨A,a,b,c,rfl,fA,kA,sb⟩;refine Bo ?_;refine Kd (j:=λh=>h A) (Kj x) (Zz ts k) D.tup (λ_=>ts) id (λr t=> .tup (r++ [t])) (FI h8 (by omega)) kA (λR r=>⟨_,rfl,r⟩) (λr hr R rr=> ?_) (λr hr=> ?_) (λr hr t ht Q' q'=>⟨_,rfl,_,rfl,sz1,?_,q'⟩) (λB eB=>⟨_,Sub.refl _,hk,B,_,_,_,rfl,Jg sb eB,?_,Sub.newAt sb eB⟩)
  ·rcases hx with rfl|⟨a,rfl,ka⟩<;>exact⟨_,rfl,rr⟩
  ·rw [pS];rcases hx with rfl|⟨a,rfl,ka⟩
   ·rfl
   ·exact sb _ _ ka
  ·rw [(VS ts hr).1];exact S4 (show k+1<=6 by omega) (by decide)
  ·rw [jc,FH]
 rintro _ h2 ⟨A,a,b,c,rfl,fA,kA,sb⟩;exact⟨_,rfl,_,Sub.refl _,q A _ fA kA sb⟩
theorem Rx (s:G3):(Zz ((Zz [D.int 0,D.int 1] s).map D.tup) s).map D.tup=(zI s).map jC:=by
 have e1:(Zz [D.int 0,D.int 1] s).map D.tup=(Zz [(0:P4),1] s).map yB:=by
  rw [show [D.int 0,D.int 1]= [(0:P4),1].map D.int from rfl,Xf,S8];rfl
 rw [e1,Xf,S8];rfl
def zw:RDn:=λds h Q=> ∃s:G3,ds= [.int (s:P4)]/\s<=3/\ ∀A h',h A=none->h' A=some ((zI s).map jC)->Sub h h'->Q (.lst A) h'
theorem Jq (Z:Zs mg)(F:Fun K "all_mark_tables" "all_mark_tables" zJ f fd)(Yf:jh P w K mg base n "all_rows" ["things","many"] Wo):FnOk P w K mg base CX0 (n+1) f fd ["size"] (LSp K zw):=by
 refine F.okM Jk (λhr=>(zl (yc (jk Yf hr (j2 (jk Yf hr (j2 (Cz (j2 jz jz)) (jv 0))) (jv 0)))))) ?_;rintro ds h Q ⟨s,rfl,h3,q⟩;refine⟨rfl,?_⟩;refine⟨sz2,_,rfl,_,_,s,rfl,.inl rfl,h3,by decide,λA h' fA kA sb=>⟨_,rfl,_,_,s,rfl,.inr ⟨A,rfl,kA⟩,h3,?_,λB h'' fB kB sb'=>⟨_,Sub.refl _,q B h'' (Jg sb fB) (by rw [kB,Rx]) (sb.trans sb')⟩⟩⟩;rw [G8,JK];exact aP (j:=3) (by decide) h3
theorem FJ (x:te σ h λv h1=>SB [v] h1 λd h2=>E.rt d h2):RI (dCB SB (zm te ZJ)) E σ h:=x
theorem noF {c:M7}{A B:Prop}(h:c=false)(x:B):if c=true then A else B:=by subst h;exact Wt x
theorem Ry (o:G0 G3)(p:G3):vk (o++ [p])= .tup (o.map (λ(k:G3)=>D.int (k:P4))++ [.int (p:P4)]):=by unfold vk;rw [C6];rfl
theorem Ny {k:G3}:(zV n (k+1)).map vk=(zV n k).flatMap λo=>((G6 n).filter λp=> !decide (p∈o)).map λp=>vk (o++ [p]):=by
 show ((zV n k).flatMap _).map vk=_;rw [kH]
 congr 1
 funext o
 rw [S8];rfl
def Jr:RDn:=λds h Q=> ∃n:G3,ds= [.int (n:P4)]/\n<=5/\ ∀A h',h A=none->h' A=some ((zV n n).map vk)->Sub h h'->Q (.lst A) h'
theorem YX (Z:Zs mg)(F:Fun K "all_orders" "all_orders" yN f fd):FnOk P w K mg base CX0 (n+1) f fd ["size"] (LSp K Jr):=by
 refine F.okM wn (λhr=>(js3 (jse 1 wn (PL (j1 (Cz Vu)))) (CC X8 rfl (jrg Z (jv 0)) (jgn 2 wn) (zl (DE (i:=3) (i':=4) (k:=1) (js:= [3,4]) rfl wn.nd rfl (W5 rfl) (zG (by rfl)) (zE (jv 1)) (by decide) (by decide) (by decide) rfl rfl (by first|exact W5 rfl|exact bU rfl) (by first|exact W5 rfl|exact bU rfl) (λX' hX=>yA) (λX' hX=>by obtain⟨C,s₀,H₀,ex,rfl⟩:=hX;exact(jrg Z (jv 0))) (λX' hX=>by obtain⟨C,s₀,H₀,ex,rfl⟩:=hX;exact PM (Cw (XO hr.units) (jv 4) (jv 3) (by with_unfolding_all rfl))) (λX' hX=>by obtain⟨C,s₀,H₀,ex,rfl⟩:=hX;exact(jop wC (jv 3) (Cz (j1 (jv 4)))))))) (yc (jv 1)))) ?_;rintro ds h Q ⟨n,rfl,h5,q⟩;refine⟨rfl,?_⟩;refine ju (λIF h'=> ∃A,IF= [some (.int (n:P4)),some (.lst A),none,none,none]/\h A=none/\h' A=some ((zV n 0).map vk)/\Sub h h') (λC hC=>⟨sz0,sz1,λA eA=>hC _ _ ⟨A,rfl,eA,jc,Sub.new eA⟩⟩) ?_;rintro _ h1 ⟨A,rfl,fA,kA,sb⟩;refine ju (λIF h'=> ∃A a b c,IF= [some (.int (n:P4)),some (.lst A),a,b,c]/\h A=none/\h' A=some ((zV n n).map vk)/\Sub h h') (λC hC=> ?_) ?_
 ·refine Ys (h1:=h1) n (λk IF h'=> ∃A a b c,IF= [some (.int (n:P4)),some (.lst A),a,b,c]/\h A=none/\h' A=some ((zV n k).map vk)/\Sub h h') (by omega) (λR r=>⟨_,rfl,r⟩) ⟨A,none,none,none,rfl,fA,kA,sb⟩ (λIF h' z=>hC _ _ z) ?_;clear kA sb fA;rintro k _ h2 hk ⟨A,a,b,c,rfl,fA,kA,sb⟩;have l1:=Qk n (by omega) k (by omega);have fl: ∀l:G0 (G0 G3),(l.flatMap λ_=>G6 n).length<=l.length*5:=λl=>by
   induction l with
   |nil=>exact P2 _
   |cons x l ih=>rw [K1,P0,R6,D8];omega
  have l2:=fl (zV n k);refine Bo ?_;refine HW (j:=λh=>h A) (zV n k) vk (λ_=>G6 n) (λ(k:G3)=>D.int (k:P4)) (λo p=> !decide (p∈o)) (λo p=>vk (o++ [p])) (by omega) kA (λR r=>⟨_,rfl,r⟩) (λo ho R r=>⟨_,rfl,(n:P4),rfl,by omega,by omega,r⟩) (λo ho p hp Q' q'=>⟨_,rfl,_,rfl,Fa ⟨_,rfl,q'⟩⟩) (λo ho p hp Q' q'=>⟨_,rfl,_,rfl,sz1,?_,by rw [Ry] at q';exact q'⟩) (λB eB=>⟨_,Sub.refl _,hk,B,_,_,_,rfl,Jg sb eB,?_,Sub.newAt sb eB⟩)
  ·rw [G8,(DI ho).1];exact S4 (show k+1<=6 by omega) (by decide)
  ·rw [jc,Ny]
 rintro _ h2 ⟨A,a,b,c,rfl,fA,kA,sb⟩;exact⟨_,rfl,_,Sub.refl _,q A _ fA kA sb⟩
def SU:P7 G3->P4
 |none=>0
 |some k=>(k:P4)
section
variable {n e:G3}{T:G0 (G0 P4)}
theorem Ub (h:Sq n e T)(i:G3):jj n (yr n (ww n T i) (jj n T))=ww n T (i+1):=Dh (YA n T i) h
theorem Qy (h:Sq n e T): ∀ (d m i:G3),d<m->jI (ww n T (i+d))=true->(∀j,i<=j->j<i+d->jI (ww n T j)=false)->Nq n (jj n T) m (ww n T i) ((i:P4)+1)=((i+d:G3):P4)+1
 |0,m+1,i,_,f,_=>by show (if _ then _ else _)=_;rw [D4 (show jI (ww n T i)=true from f)];rfl
 |d+1,m+1,i,hd,f,lo=>by
  show (if _ then _ else _)=_;rw [D5 (by rw [lo i (P2 _) (by omega)];exact R0),Ub h];have:=Qy h d m (i+1) (by omega) (by rw [show i+1+d=i+(d+1) by omega];exact f) λj h1 h2=>lo j (by omega) (by omega)
  rw [show ((i:P4)+1+1)=((i+1:G3):P4)+1 by omega,this];omega
theorem Rz (h:Sq n e T): ∀ (m i:G3) (c:P4),(∀j,i<=j->j<i+m->jI (ww n T j)=false)->Nq n (jj n T) m (ww n T i) c=0
 |0,_,_,_=>rfl
 |m+1,i,c,lo=>by
  show (if _ then _ else _)=_;rw [D5 (by rw [lo i (P2 _) (by omega)];exact R0),Ub h];exact Rz h m (i+1) _ λj h1 h2=>lo j (by omega) (by omega)
theorem RA (h:Sq n e T)(n1:1<=n)(h6:n<=6){k:G3}(ho:Fst n T (some k)):k<=(n-1)*(n-1)+1:=by
 have hn:n<=8:=by omega
 obtain⟨k1,k30,fk,fl⟩:=ho;have all: ∀m,k<=m-> ∀i j,i<n->j<n->RP n T m i j:=λm hm=>by
  have:=UL h hn (a:=k) (by omega) fk (m-k);rw [show k+(m-k)=m by omega] at this;exact(ZZ h hn).mp this
 have low: ∀m,1<=m->jI (jZ n T m)=true->k<=m:=λm m1 f=>fL λz=>by
  have:=fl m m1 z;rw [f] at this;cases this
 by_cases n2:2<=n
 ·obtain⟨m,m1,mb,fm⟩:=Dk h hn n2 all;exact S4 (low m m1 fm) mb
 ·have n1':n=1:=by omega
  subst n1';obtain⟨c,hc,_,b⟩:=(zF h hn (k-1) 1 (show 0<1 by decide) (show 0<1 by decide)).mp (all ((k-1)+1) (by omega) 0 0 (by decide) (by decide));have:c=0:=by omega
  subst this;exact low 1 (P2 _) ((ZZ h hn).mpr λi j hi hj=>by rw [show i=0 by omega,show j=0 by omega];exact b)
theorem YY (h:Sq n e T)(n1:1<=n)(h6:n<=6){o:P7 G3}(ho:Fst n T o):vc n T=SU o:=by
 have hn:n<=8:=by omega
 cases o with
 |none=>exact Rz h _ 0 1 λj _ _=>by rw [yZ h hn];exact ho (j+1) (by omega)
 |some k=>
  have kb:=RA h n1 h6 ho;obtain⟨k1,k30,fk,fl⟩:=ho;have:=Qy h (k-1) ((n-1)*(n-1)+1) 0 (by omega) (by rw [yZ h hn,show 0+(k-1)+1=k by omega];exact fk) λj _ hj=>by rw [yZ h hn];exact fl (j+1) (by omega) (by omega)
  refine Eq.trans this ?_;show ((0+(k-1):G3):P4)+1=(k:P4);omega
end
theorem Nz (s:G3)(l:G0 (G0 (G0 P4)))(T:G0 (G0 P4)):GH s (l++ [T])=FX s (GH s l) T:=by
 unfold GH;rw [List.foldl_append];rfl
theorem FK (s:G3)(kv:G0 (P4×P4))(T:G0 (G0 P4)):Xa (kv.map dnI) (vc s T) (.int ((Wu kv (vc s T)).getD 0+1))=(FX s kv T).map dnI:=Fz kv _ _
theorem FL (kv:G0 (P4×P4))(k:P4):(Wu (kv.map dnI) k).getD (.int 0)= .int ((Wu kv k).getD 0):=by
 rw [Xi];cases Wu kv k<;>rfl
def Wp:RDn:=λds h Q=> ∃s:G3,ds= [.int (s:P4)]/\1<=s/\s<=3/\ ∀A h',h A=none->h' A=some ((GI s).map tI)->Sub h h'->Q (.lst A) h'
theorem Xt (Z:Zs mg)(F:Fun K "by_first" "by_first" JQ f fd)(jP:jh P w K mg base n "want_number" ["thing","least","most"] zc)(zL:jh P w K mg base n "all_mark_tables" ["size"] zw)(jG:jh P w K mg base n "first_power" ["table"] zd)(jY: ∃tk,mg "MOST_LISTED" =some (.int 3 tk)):FnOk P w K mg base CX0 (n+1) f fd ["size"] (LSp K Wp):=by
 obtain⟨tk_MOST_LISTED,m_MOST_LISTED⟩:=jY;refine F.okM wz (λhr=>(js4 (Ze (jk jP hr (j3 (jv 0) jz (QX rfl m_MOST_LISTED)))) (jse 1 wz AF) (CC X8 rfl (zE (jk zL hr (j1 (jv 0)))) (jgn 2 wz) (js3 (jse 3 wz (jk jG hr (j1 (jv 2)))) (jse 4 wz (jif (jt1 Sl (jv 3) Tw) jz (jv 3))) (SJ hr (jv 1) (jv 4) (jop wC (AH hr (jv 1) (jv 4) jz) jz)))) (yc (HZ hr rfl rfl Z.sorted (jv 1))))) ?_;rintro ds h Q ⟨s,rfl,h1,h3,q⟩;refine⟨rfl,?_⟩;refine wE [some (.int (s:P4)),none,none,none,none] (λC hC=>⟨_,rfl,(s:P4),1,3,rfl,by omega,by omega,hC⟩) ?_;refine ju (λIF h'=> ∃cd,IF= [some (.int (s:P4)),some (.dct cd),none,none,none]/\h'.dc cd=some (.ik [])/\h.dc cd=none/\Sub h h') (λC hC p ep=>hC _ _ ⟨p,rfl,vR,ep,Sub.newC ep⟩) ?_;rintro _ h2 ⟨cd,rfl,kc,fc,sb⟩;refine ju (λIF h'=> ∃a b c,IF= [some (.int (s:P4)),some (.dct cd),a,b,c]/\h'.dc cd=some (.ik ((GH s (zI s)).map dnI))/\Sub h h') (λC hC=>⟨_,rfl,s,rfl,h3,λA h' fA kA sbA=> ?_⟩) ?_
 ·refine ZO (j:=λh=>h A) ((zI s).map jC) (λi IF h'=> ∃a b c,IF= [some (.int (s:P4)),some (.dct cd),a,b,c]/\h'.dc cd=some (.ik ((GH s ((zI s).take i)).map dnI))/\h' A=some ((zI s).map jC)/\Sub h h') (λi IF h' ⟨_,_,_,_,_,z,_⟩=>z) ⟨none,none,none,rfl,sbA.dc _ _ kc,kA,sb.trans sbA⟩ (λIF h' ⟨a,b,c,es,kc,_,sb⟩=>hC _ _ ⟨a,b,c,es,by rw [kc,G8,fN],sb⟩) ?_;clear kc sb;rintro i d _ h4 hd ⟨a,b,c,rfl,kc,kA,sb⟩;rw [D2] at hd;obtain⟨T,hT,rfl⟩:=E7.mp hd;have sq:=Qt (D0 hT);obtain⟨o,ho⟩:=Qx sq h1 (by omega);have so:=YY sq h1 (by omega) ho;have il:i<(zI s).length:=(D6.mp hT).1;refine ju (λIF h'=>IF= [some (.int (s:P4)),some (.dct cd),some (jC T),some (FZ o),c]/\h4=h') (λC' hC'=>⟨_,rfl,T,s,1,o,rfl,sq,h1,by omega,by decide,ho,hC' _ _ ⟨rfl,rfl⟩⟩) ?_;rintro _ _ ⟨rfl,rfl⟩;refine ju (λIF h'=>IF= [some (.int (s:P4)),some (.dct cd),some (jC T),some (FZ o),some (.int (vc s T))]/\h4=h') (λC' hC'=>⟨_,rfl,_,rfl,?_⟩) ?_
  ·rw [so] at hC';cases o with
   |none=>exact QK (hC' _ _ ⟨rfl,rfl⟩)
   |some k=>exact Wt ⟨_,rfl,hC' _ _ ⟨rfl,rfl⟩⟩
  rintro _ _ ⟨rfl,rfl⟩;have few:(GH s ((zI s).take i)).length<1000:=by
   have:=Xh (s:=s) ((zI s).take i) [];have b:=(YM h3).1;rw [T3] at this;exact V9 this (by simp only [B2];omega)
  refine⟨_,rfl,cd,_,rfl,kc,_,rfl,_,_,rfl,kc,?_⟩;rw [FL];refine⟨_,rfl,_,rfl,cd,_,_,rfl,rfl,kc,by rw [G8];exact few,_,Sub.refl _,by rw [G8];exact il,_,_,_,rfl,?_,kA,sb.overC fc⟩;rw [vR,FK,B8,hT];show _=some (DC.ik ((GH s (_++ [T])).map dnI));rw [Nz]
 clear kc sb;rintro _ h4 ⟨a,b,c,rfl,kc,sb⟩;have few:(GH s (zI s)).length<1000:=by
  have:=Xh (s:=s) (zI s) [];have b:=(YM h3).1;exact V9 this (by simp only [B2];omega)
 exact⟨_,rfl,cd,_,rfl,kc,few,λp mss fp pm srt=>⟨_,Sub.refl _,q p _ (Jg sb fp) (by rw [jc,AL h1 h3 pm srt]) (sb.newAt fp)⟩⟩
def zN:RDn:=λds h Q=> ∃T,∃n e:G3,ds= [jC T]/\Sq n e T/\1<=n/\n<=5/\ ∀m h',Lst n (jj n T) m->Sub h h'->Q (jC m) h'
theorem WF (Z:Zs mg)(F:Fun K "least_alike" "least_alike" yl f fd)(jW:jh P w K mg base n "want_table" ["thing"] zv)(Wr:jh P w K mg base n "marks" ["table"] ZA)(Ug:jh P w K mg base n "all_orders" ["size"] Jr)(RE:jh P w K mg base n "renamed" ["table","order"] Ye)(wP: ∃tk,mg "MOST_RENAMED" =some (.int 5 tk)):FnOk P w K mg base CX0 (n+1) f fd ["table"] (LSp K zN):=by
 obtain⟨tk_MOST_RENAMED,m_MOST_RENAMED⟩:=wP;refine F.okM wO (λhr=>(js4 (Ze (jk jW hr (j1 (jv 0)))) (Us (jt1 Sd (No Z (jv 0)) (QX rfl m_MOST_RENAMED)) XH) (jse 1 wO (jk Wr hr (j1 (jv 0)))) (yc (wT (DN rfl hr) rfl Z.min (by decide +kernel) (j1 (jl0 2 wO (zE (jk Ug hr (j1 (No Z (jv 0))))) (λ_ _ _ _=>(jk RE hr (j2 (jv 1) (jv 2)))))))))) ?_;rintro ds h Q ⟨T,n,b,rfl,hT,n1,h5,q⟩;refine⟨rfl,?_⟩;refine wE [some (jC T),none,none] (λC hC=>⟨_,rfl,T,n,b,rfl,hT,n1,by omega,hC⟩) ?_;refine wE [some (jC T),none,none] (λC hC=>⟨_,rfl,_,rfl,noF (T6 (by rw [G8,hT.len];omega)) (hC)⟩) ?_;refine wE [some (jC T),some (jC (jj n T)),none] (λC hC=>⟨_,rfl,T,n,b,rfl,hT,n1,by omega,hC⟩) ?_;have l1:=Qk n (by omega) n (by omega);refine FJ ?_;refine Av (zV n n) vk (λo=>jC (Zt n o (jj n T))) (λA h1=>h A=none/\h1 A=some ((zV n n).map vk)/\Sub h h1) (by omega) (λR r=>⟨_,rfl,n,by rw [G8,hT.len],h5,λA h' fA kA sb=>r A h' ⟨fA,kA,sb⟩⟩) (λA h1 z=>z.2.1) (λA h1 z o ho Q' q'=>⟨_,rfl,_,rfl,jj n T,n,1,o,rfl,Sq.mark T,VL h5 ho,n1,by omega,q'⟩) (λA h1 z p ep=> ?_);obtain⟨m,hm,low⟩:=Qh (xs:=(zV n n).map λo=>Zt n o (jj n T)) (λz=>DM (List.map_eq_nil_iff.mp z));obtain⟨ys,g1,g2,g3,g4,g5⟩:=Nc (h:=zZ h1 p ((zV n n).map λo=>jC (Zt n o (jj n T)))) hm low (by rw [jc,S8];rfl);exact .inr ⟨p,ys,(jC m,vW m),rfl,g1,g2,g3,g4,g5,_,Sub.refl _,q m _ (Bb (e:=1) h5 hm low) (Sub.newAt z.2.2 ep)⟩
theorem RB {o:P7 G3}{k:P4}(k1:1<=k){h:HD}{Q:KD}(q:Q (.bl (decide (SU o=k))) h):eqE (FZ o) (.int k) h Q:=by
 cases o with
 |none=>
  have:decide (SU none=k)=false:=T6 (by show ¬ (0=k);omega);rw [this] at q;exact⟨.none,.int k,rfl,rfl,rfl,rfl,q⟩
 |some m=>exact q
def wZ:RDn:=λds h Q=> ∃s:G3,ds= [.int (s:P4)]/\1<=s/\s<=3/\ ∀A h',h A=none->h' A=some [jC (Wz s)]->Sub h h'->Q (.lst A) h'
theorem JV (Z:Zs mg)(F:Fun K "slowest_tables" "slowest_tables" zX f fd)(jP:jh P w K mg base n "want_number" ["thing","least","most"] zc)(zA:jh P w K mg base n "slowest_power" ["size"] zY)(jG:jh P w K mg base n "first_power" ["table"] zd)(zL:jh P w K mg base n "all_mark_tables" ["size"] zw)(jO:jh P w K mg base n "least_alike" ["table"] zN)(jY: ∃tk,mg "MOST_LISTED" =some (.int 3 tk)):FnOk P w K mg base CX0 (n+1) f fd ["size"] (LSp K wZ):=by
 obtain⟨tk_MOST_LISTED,m_MOST_LISTED⟩:=jY;refine F.okM zM (λhr=>(js3 (Ze (jk jP hr (j3 (jv 0) jz (QX rfl m_MOST_LISTED)))) (jse 1 zM (jk zA hr (j1 (jv 0)))) (yc (Kf (i:=2) (js:= [2]) hr rfl rfl Z.sorted (zG (by rfl)) (zE (jk zL hr (j1 (jv 0)))) (by decide) zM.nd rfl (by first|exact W5 rfl|exact bU rfl) (λX' hX=>by obtain⟨C,s₀,H₀,ex,rfl⟩:=hX;exact PM (jt1 (ZP hr.units) (jk jG hr (j1 (jv 2))) (jv 1))) (λX' hX=>by obtain⟨C,s₀,H₀,ex,rfl⟩:=hX;exact(jk jO hr (j1 (jv 2)))))))) ?_;rintro ds h Q ⟨s,rfl,h1,h3,q⟩;refine⟨rfl,?_⟩;refine wE [some (.int (s:P4)),none,none] (λC hC=>⟨_,rfl,(s:P4),1,3,rfl,by omega,by omega,hC⟩) ?_;refine wE [some (.int (s:P4)),some (.int (Gu s)),none] (λC hC=>⟨_,rfl,s,rfl,h1,by omega,hC⟩) ?_;have few:=(YM h3).1;obtain⟨sa,sx⟩:=Kg h1 h3;rw [C3] at sa;rw [fP] at sx;have v1:1<=Gu s:=by
  have:=eG (show 0<=(s:P4)-1 by omega) (show 0<=(s:P4)-1 by omega);unfold Gu;omega
 refine⟨_,rfl,s,rfl,h3,λA h' fA kA sb=>⟨(zI s).length,Wz s,(λi ys h'=>i<=(zI s).length/\(∀y∈ys,y=Wz s)/\ys.length<=i/\((∃T∈(zI s).take i,vc s T=Gu s)->ys≠ [])/\h' A=some ((zI s).map jC)/\Sub h h'),⟨M6 _,λy hy=>(nomatch hy),P2 _,λ⟨T,hT,_⟩=>(nomatch hT),kA,sb⟩,?_⟩⟩;clear kA sb;rintro i ys h2 ⟨hi,all,le,ne,kA,sb⟩;refine⟨by omega,_,kA,by rw [G8];exact P2 _,λhl=>⟨ne ?_,all,λp hp=>⟨_,Sub.refl _,q p _ (Jg sb hp) jc (sb.newAt hp)⟩⟩,λd hd=>⟨_,rfl,?_⟩⟩
 ·rw [G8] at hl;obtain⟨T,hT,e⟩:=sx;rw [T8 hl];exact⟨T,hT,C7 e⟩
 rw [D2] at hd;obtain⟨T,hT,rfl⟩:=E7.mp hd;have tm:=D0 hT;have sq:=Qt tm;have il:i+1<=(zI s).length:=(D6.mp hT).1;obtain⟨o,ho⟩:=Qx sq h1 (by omega);have so:=YY sq h1 (by omega) ho;have tk:(zI s).take (i+1)=(zI s).take i++ [T]:=by rw [B8,hT];rfl
 refine⟨_,rfl,T,s,1,o,rfl,sq,h1,by omega,by decide,ho,_,rfl,RB v1 ⟨_,rfl,?_⟩⟩;rw [<-so]
 by_cases z:vc s T=Gu s
 ·rw [D9 z];have ok:okS s T=true:=by
   have:=sa T tm;rw [D9 z] at this;simpa using this
  have ls:=Xj h3 ok;refine QK ⟨_,rfl,T,s,1,rfl,sq,h1,by omega,λm h4 lm sb4=>⟨m,_,rfl,Sub.refl _,il,λy hy=> ?_,by rw [P0];exact a8 le,λ_=>by simp,sb4 _ _ kA,sb.trans sb4⟩⟩;rcases R5.mp hy with w|w
  ·exact all y w
  ·rw [G9.mp w];exact lm.only ls
 ·rw [T6 z];refine Wt ⟨_,Sub.refl _,il,all,oX le,λ⟨U,hU,e⟩=>ne ?_,kA,sb⟩;rw [tk] at hU;rcases R5.mp hU with w|w
  ·exact⟨U,w,e⟩
  ·rw [G9.mp w] at e;exact absurd e z
def Zb:RDn:=λds h Q=> ∃ns k,ds= [.scr ns,.int k]/\0<=k/\ ∀n,Q (.int n) h
theorem Uc (Z:Zs mg)(F:Fun K "_law_cell" "_law_cell" vC f fd):FnOk P w K mg base CX0 (n+1) f fd ["_law_script","_law_k"] (LSp K Zb):=by
 refine F.okM VW (λhr=>(js2 (Us (jt1 Cl (jv 1) (No Z (jv 0))) (yc (ji1 (jv 0) (jv 1)))) (yc jz))) ?_;rintro ds h Q ⟨ns,k,rfl,h0,q⟩;refine⟨rfl,?_⟩;simp only [WO,Mh,vS,dOp,Md,wS,T7,bG,D8,B2,Y8,O2,a9,U1,aT,dCB,zm,ZJ,FV,NO,D.bl.injEq,RI,ixD,RJ,bR,UC,dC];refine Uz (λc=> ?_) (λ_=>⟨h,Sub.refl h,q 0⟩);have c':k<(ns.length:P4):=C7 c;have hk:k.toNat<ns.length:=by omega
 have ek:k=((k.toNat:G3):P4):=by omega
 have z:=Yj (G7 hk);rw [<-ek] at z;exact⟨ns[k.toNat],z,h,Sub.refl h,q _⟩
def Wq:RDn:=λds h Q=> ∃c,ds= [.int c]/\ ∀p l fl,h p=none->0<=l->(fl=0\/fl=1)->Q (.lst p) (zZ h p [.int l,.int fl])
theorem Xu (Z:Zs mg)(F:Fun K "_law_pen" "_law_pen" JR f fd):FnOk P w K mg base CX0 (n+1) f fd ["_law_cell_here"] (LSp K Wq):=by
 refine F.okM Wk (λhr=>(js2 (jse 1 Wk (wT (OK rfl) rfl Z.max (by decide +kernel) (j2 (jv 0) (jop WQ jz (jv 0))))) (yc (PL (j2 (jv 1) (zH NR rfl Z.int (by decide +kernel) (j1 (jc1 Cm (jv 1) (jop NP jz jz))))))))) ?_;rintro ds h Q ⟨c,rfl,q⟩;refine⟨rfl,?_⟩;simp only [WO,Mi,dCB,zm,Md,wS,T7,bG,D8,B2,N5,Y8,O2,U1,aT,dOp,dC,Tp,ZJ,Sg,RI,Ol,List.set_cons_succ,List.set_cons_zero,a9,Tr,NO,Sf,RJ,bR];refine⟨⟨by decide,by decide,by decide⟩,by decide,λp hp=>⟨_,Sub.refl _,q p _ _ hp ?_ ?_⟩⟩
 ·split<;>omega
 ·split<;>simp<;>omega
def wF:RDn:=λds h Q=> ∃p l fl m,ds= [.lst p,.int m]/\h p=some [.int l,.int fl]/\0<=l/\0<m/\m<2^200/\ ∀r l',0<=r->r<m->0<=l'->Q (.int r) (zZ h p [.int l',.int fl])
theorem Ud (Z:Zs mg)(F:Fun K "_law_draw" "_law_draw" vD f fd):FnOk P w K mg base CX0 (n+1) f fd ["_law_pen_here","_law_many"] (LSp K wF):=by
 refine F.okM wI (λhr=>(js5 (Ty (jt1 oq_eq (ji1 (jv 0) jz) jz) (js3 (Sn (wT Gb rfl Z.divmod (by decide +kernel) (j2 (ji1 (jv 0) jz) (jv 1))) (NU (i:=2) (j:=3) rfl wI.nd rfl rfl (W5 rfl) (W5 rfl))) (Sn (jv 2) (NV (jv 0) jz)) (yc (jv 3))) NT) (jse 4 wI (jop ZM (jop Jz (jop wC (jop ZM (ji1 (jv 0) jz) jz) jz) jz) jz)) (jse 4 wI (jop ZM (jop wC (jop Jz (jv 4) (jv 4)) jz) jz)) (Sn (jop ZM (jop wC (jop Jz (jv 4) jz) jz) jz) (NV (jv 0) jz)) (yc (jop ZM (jop Ck (ji1 (jv 0) jz) jz) (jv 1))))) ?_;rintro ds h Q ⟨p,l,fl,m,rfl,hp,h0,hm,hm2,q⟩;refine⟨rfl,?_⟩;refine wE [some (.lst p),some (.int m),none,none,none] (λC hC=>⟨_,rfl,_,_,hp,rfl,?_⟩) ?_
 ·show ∃k,D.bl (decide (fl=1))= .bl k/\_;refine⟨_,rfl,Uz (λ_=> ?_) λ_=>hC⟩;exact⟨_,rfl,_,_,hp,rfl,_,rfl,_,_,rfl,⟨hm,hm2⟩,_,_,rfl,_,rfl,_,rfl,p,0,_,0,rfl,rfl,hp,rfl,_,rfl,_,Sub.refl _,q (l%m) (l / m) (gF _ (tK hm)) (iB _ hm) (Int.ediv_nonneg h0 (tF hm))⟩
 refine ju (λIF h'=> ∃z:P4,IF= [some (.lst p),some (.int m),none,none,some (.int z)]/\(0<=z/\z<2147483629)/\h=h') (λC hC=>⟨_,rfl,_,_,hp,rfl,by decide,.inr ⟨by decide,by decide⟩,by decide,hC _ _ ⟨_,rfl,⟨gF _ (by decide),iB _ (by decide)⟩,rfl⟩⟩) ?_;rintro _ _ ⟨z,rfl,⟨z0,z1⟩,rfl⟩;refine ju (λIF h'=> ∃y:P4,IF= [some (.lst p),some (.int m),none,none,some (.int y)]/\h=h') (λC hC=>⟨_,rfl,_,rfl,.inl ⟨nP (by decide) z0,Int.lt_trans z1 (by decide)⟩,by decide,hC _ _ ⟨_,rfl,rfl⟩⟩) ?_;rintro _ _ ⟨y,rfl,rfl⟩;refine ju (λIF h'=> ∃x:P4,IF= [some (.lst p),some (.int m),none,none,some (.int y)]/\0<=x/\h'=zZ h p [.int x,.int fl]) (λC hC=>⟨_,rfl,.inr ⟨by decide,by decide⟩,by decide,_,rfl,p,0,_,0,rfl,rfl,hp,rfl,hC _ _ ⟨_,rfl,gF _ (by decide),rfl⟩⟩) ?_;rintro _ _ ⟨x,rfl,x0,rfl⟩;exact⟨_,rfl,_,_,jc,rfl,⟨by decide,by decide⟩,_,rfl,hm,_,Sub.refl _,q (x / 32%m) x (gF _ (tK hm)) (iB _ hm) x0⟩
def Zc:RDn:=λds h Q=> ∃p l fl,ds= [.lst p]/\h p=some [.int l,.int fl]/\0<=l/\ ∀ (k:G3) l',1<=k->k<=6->0<=l'->Q (.int (k:P4)) (zZ h p [.int l',.int fl])
theorem Ue (Z:Zs mg)(F:Fun K "_law_size" "_law_size" vE f fd)(jJ:jh P w K mg base n "_law_draw" ["_law_pen_here","_law_many"] wF):FnOk P w K mg base CX0 (n+1) f fd ["_law_pen_here"] (LSp K Zc):=by
 refine F.okM VX (λhr=>(zl (yc (ji1 (PL (jac jz (by exact(jac jz (by exact(jac jz (by exact(jac jz (by exact(jac jz (by exact(jac jz (by exact(jac jz (by exact(jac jz (by exact(j4 jz jz jz jz)))))))))))))))))) (jk jJ hr (j2 (jv 0) jz)))))) ?_;rintro ds h Q ⟨p,l,fl,rfl,hp,h0,q⟩;refine⟨rfl,?_⟩;simp only [RI,dOp,Ol,zm,dC,ZJ,D8,B2,dCB,Md,wS,T7,bG,Y8,O2,U1,aT,ixD,RJ,bR];refine⟨by decide,λp1 e1=>⟨p,l,fl,12,rfl,ze hp e1,h0,by decide,by decide,λr l' r0 r1 l0=> ?_⟩⟩;obtain⟨d,hd,ed⟩:=UF (xs:= [D.int 1,D.int 2,D.int 3,D.int 4,D.int 5,D.int 3,D.int 4,D.int 2,D.int 6,D.int 5,D.int 4,D.int 3]) r0 r1;refine⟨_,d,jx (jT hp e1) jc,ed,_,Sub.both (Sub.newAt (Sub.refl h) e1),?_⟩;have q': ∀k:G3,1<=k->k<=6->Q (.int (k:P4)) (zZ h p [.int l',.int fl]):=λk a b=>q k l' a b l0
 simp only [S5,A5,or_false] at hd;rcases hd with e|e|e|e|e|e|e|e|e|e|e|e<;>subst e
 ·exact q' 1 (by decide) (by decide)
 ·exact q' 2 (by decide) (by decide)
 ·exact q' 3 (by decide) (by decide)
 ·exact q' 4 (by decide) (by decide)
 ·exact q' 5 (by decide) (by decide)
 ·exact q' 3 (by decide) (by decide)
 ·exact q' 4 (by decide) (by decide)
 ·exact q' 2 (by decide) (by decide)
 ·exact q' 6 (by decide) (by decide)
 ·exact q' 5 (by decide) (by decide)
 ·exact q' 4 (by decide) (by decide)
 ·exact q' 3 (by decide) (by decide)
def Js:RDn:=λds h Q=> ∃p l fl,∃k:G3,ds= [.lst p,.int (k:P4)]/\h p=some [.int l,.int fl]/\0<=l/\1<=k/\k<=6/\ ∀T l',GoodTab k T->0<=l'->Q (jC T) (zZ h p [.int l',.int fl])
theorem YZ (Z:Zs mg)(F:Fun K "_law_table" "_law_table" yO f fd)(jJ:jh P w K mg base n "_law_draw" ["_law_pen_here","_law_many"] wF):FnOk P w K mg base CX0 (n+1) f fd ["_law_pen_here","_law_size_here"] (LSp K Js):=by
 refine F.okM jq (λhr=>(js5 (HF (i:=2) (j:=3) rfl jq.nd rfl rfl (by decide) rfl rfl (j2 (jk jJ hr (j2 (jv 0) jz)) (ji1 (PL (j3 jz jz jz)) (jk jJ hr (j2 (jv 0) jz)))) rfl) (jse 4 jq (ji1 (PL (j4 jz jz jz (jop NP jz jz))) (jk jJ hr (j2 (jv 0) jz)))) (jse 5 jq (PL Vu)) (CC X8 rfl (jrg Z (jv 1)) (jgn 6 jq) (js3 (jse 7 jq (PL Vu)) (CC X8 rfl (jrg Z (jv 1)) (jgn 8 jq) (js5 (jse 9 jq (jc1 oq_eq (jk jJ hr (j2 (jv 0) (jv 3))) jz)) (Us (jt1 Cl (jv 2) jz) (jse 9 jq (jor (jc1 oq_eq (jv 8) (jop ZM (jop wC (jv 6) jz) (jv 1))) (GG (Mq (jv 9) (GG (jc1 (ZP hr.units) (jk jJ hr (j2 (jv 0) jz)) (jv 2)))))))) (Us (jt1 oq_eq (jv 2) jz) (jse 9 jq (jor (Mq (jv 9) (GG (jc1 oq_eq (jop ZM (jop WQ (jv 8) (jv 6)) jz) jz))) (GG (jc1 (ZP hr.units) (jv 8) (jop wC (jv 6) jz)))))) (Us (jt1 oq_eq (jv 2) jz) (jse 9 jq (Mq (jv 9) (GG (jc1 Cm (jv 8) (jv 6)))))) (Ze (Ss (jv 7) (jop Jz (zH NR rfl Z.int (by decide +kernel) (j1 (jv 9))) (jop wC jz (jk jJ hr (j2 (jv 0) (jv 4))))))))) (Ze (Ss (jv 5) (zH cq_tuple rfl Z.tuple (by decide +kernel) (j1 (jv 7))))))) (yc (zH cq_tuple rfl Z.tuple (by decide +kernel) (j1 (jv 5)))))) ?_;rintro ds h Q ⟨p,l,fl,k,rfl,hp,h0,hk1,hk6,q⟩;refine⟨rfl,?_⟩;refine ju (λIF h'=> ∃way o l2,IF= [some (.lst p),some (.int (k:P4)),some (.int way),some (.int o),none,none,none,none,none,none]/\0<o/\o<1000/\0<=l2/\h' p=some [.int l2,.int fl]/\But p h h') (λC hC=>⟨_,rfl,p,l,fl,6,rfl,hp,h0,by decide,by decide,λway l1 w0 w1 l10=>⟨sz3,λp1 e1=>⟨_,rfl,p,l1,fl,3,rfl,ze jc e1,l10,by decide,by decide,λr l2 r0 r1 l20=> ?_⟩⟩⟩) ?_
 ·obtain⟨oft,ho,eo⟩:=UF (xs:= [D.int 2,D.int 3,D.int 5]) r0 r1;obtain⟨o,e,o1,o2⟩: ∃o:P4,oft= .int o/\0<o/\o<1000:=by
   simp only [S5,A5,or_false] at ho;rcases ho with e|e|e<;>exact⟨_,e,by decide,by decide⟩
  subst e;exact⟨_,_,jx (jT jc e1) jc,eo,_,_,rfl,hC _ _ ⟨way,o,l2,rfl,o1,o2,l20,jc,((But.upd).new e1).put⟩⟩
 rintro _ h1 ⟨way,o,l2,rfl,o1,o2,l20,kA,bA⟩;refine ju (λIF h'=> ∃m l3,IF= [some (.lst p),some (.int (k:P4)),some (.int way),some (.int o),some (.int m),none,none,none,none,none]/\0<m/\m<=1000000/\0<=l3/\h' p=some [.int l3,.int fl]/\But p h h') (λC hC=>⟨⟨by decide,by decide,by decide⟩,sz4,λp1 e1=>⟨_,rfl,p,l2,fl,4,rfl,ze kA e1,l20,by decide,by decide,λr l3 r0 r1 l30=> ?_⟩⟩) ?_
 ·obtain⟨most,ho,eo⟩:=UF (xs:= [D.int 1,D.int 1,D.int 3,D.int (10^xT 6)]) r0 r1;obtain⟨m,e,m1,m2⟩: ∃o:P4,most= .int o/\0<o/\o<=1000000:=by
   simp only [S5,A5,or_false] at ho;rcases ho with e|e|e|e<;>exact⟨_,e,by decide,by decide⟩
  subst e;exact⟨_,_,jx (jT kA e1) jc,eo,hC _ _ ⟨m,l3,rfl,m1,m2,l30,jc,(bA.new e1).put⟩⟩
 clear kA bA;rintro _ h2 ⟨m,l3,rfl,m1,m2,l30,kB,bB⟩;refine ju (λIF h'=> ∃R,IF= [some (.lst p),some (.int (k:P4)),some (.int way),some (.int o),some (.int m),some (.lst R),none,none,none,none]/\R≠p/\h R=none/\h' R=some []/\h' p=some [.int l3,.int fl]/\But p h h') (λC hC=>⟨sz0,λR eR=>hC _ _ ⟨R,rfl,jT kB eR,PF bB eR (jT kB eR),jc,ze kB eR,bB.new eR⟩⟩) ?_;clear kB bB;rintro _ h3 ⟨R,rfl,nR,fR,kR,kC,bC⟩;refine ju (λIF h'=> ∃a b c d l4 rows,IF= [some (.lst p),some (.int (k:P4)),some (.int way),some (.int o),some (.int m),some (.lst R),a,b,c,d]/\0<=l4/\h' p=some [.int l4,.int fl]/\h' R=some (rows.map yB)/\But p h h'/\GoodTab k rows) (λC hC=> ?_) (λIF h' ⟨a,b,c,d,l4,rows,e,l40,kD,kE,bD,g⟩=>by subst e;exact⟨_,rfl,_,kE,_,bD.sub kD,q rows l4 g l40⟩);refine Ys k (λi IF h'=> ∃a b c d l4 rows,IF= [some (.lst p),some (.int (k:P4)),some (.int way),some (.int o),some (.int m),some (.lst R),a,b,c,d]/\0<=l4/\h' p=some [.int l4,.int fl]/\h' R=some (rows.map yB)/\But p h h'/\rows.length=i/\ ∀r∈rows,UH k r) (by omega) (λR' r=>⟨_,rfl,r⟩)
  ⟨none,none,none,none,l3,[],rfl,l30,kC,kR,bC,rfl,λr hr=>nomatch hr⟩ (λIF h' z=>hC _ _ z) ?_
 clear kC kR bC;rintro i _ h4 hi ⟨a,b,c,d,l4,rows,rfl,l40,kD,kE,bD,g1,g2⟩;refine ju (λIF h'=> ∃S,IF= [some (.lst p),some (.int (k:P4)),some (.int way),some (.int o),some (.int m),some (.lst R),some (.int (i:P4)),some (.lst S),c,d]/\S≠p/\S≠R/\h S=none/\h' S=some []/\h' p=some [.int l4,.int fl]/\h' R=some (rows.map yB)/\But p h h') (λC hC=>⟨sz0,λS eS=>hC _ _ ⟨S,rfl,jT kD eS,jT kE eS,PF bD eS (jT kD eS),jc,ze kD eS,ze kE eS,bD.new eS⟩⟩) ?_;clear kD kE bD;rintro _ h5 ⟨S,rfl,nS,nSR,fS,kS,kD,kE,bD⟩;refine ju (λIF h'=> ∃c d l5 row,IF= [some (.lst p),some (.int (k:P4)),some (.int way),some (.int o),some (.int m),some (.lst R),some (.int (i:P4)),some (.lst S),c,d]/\0<=l5/\h' p=some [.int l5,.int fl]/\h' R=some (rows.map yB)/\h' S=some (row.map D.int)/\But p h h'/\UH k row) (λC hC=> ?_) ?_
 rotate_left
 ·rintro _ h6 ⟨c,d,l5,row,rfl,l50,kD,kE,kF,bD,g⟩;refine⟨_,rfl,R,rfl,_,rfl,_,kF,_,kE,?_,_,Sub.refl _,by omega,_,_,_,_,l5,rows++ [row],rfl,l50,jx (K9 nR) kD,?_,bD.putNew fR,by rw [P0,g1];rfl,?_⟩
  ·rw [G8];exact V9 (show rows.length<=1000 by omega) (by decide)
  ·rw [jc,C6];rfl
  ·intro r hr;rcases R5.mp hr with z|z
   ·exact g2 r z
   ·rw [G9.mp z];exact g
 refine Ys k (λj IF h'=> ∃c d l5 row,IF= [some (.lst p),some (.int (k:P4)),some (.int way),some (.int o),some (.int m),some (.lst R),some (.int (i:P4)),some (.lst S),c,d]/\0<=l5/\h' p=some [.int l5,.int fl]/\h' R=some (rows.map yB)/\h' S=some (row.map D.int)/\But p h h'/\row.length=j/\ ∀x∈row,0<=x/\x<=1000000) (by omega) (λR' r=>⟨_,rfl,r⟩)
  ⟨_,_,l4,[],rfl,l40,kD,kE,kS,bD,rfl,λr hr=>nomatch hr⟩ (λIF h' z=>hC _ _ z) ?_
 clear kD kE kS bD;rintro j _ h6 hj ⟨c,d,l5,row,rfl,l50,kD,kE,kF,bD,g1',g2'⟩;refine ju (λIF h'=> ∃ (g:M7) (l6:P4),IF= [some (.lst p),some (.int (k:P4)),some (.int way),some (.int o),some (.int m),some (.lst R),some (.int (i:P4)),some (.lst S),some (.int (j:P4)),some (.bl g)]/\0<=l6/\h' p=some [.int l6,.int fl]/\h' R=some (rows.map yB)/\h' S=some (row.map D.int)/\But p h h') (λC hC=>⟨_,rfl,_,rfl,p,l5,fl,o,rfl,kD,l50,o1,by omega,λr l6 r0 r1 l60=>hC _ _ ⟨_,l6,rfl,l60,jc,jx nR kE,jx nS kF,bD.put⟩⟩) ?_;clear kD kE kF bD;rintro _ _ ⟨g,l6,rfl,l60,kD,kE,kF,bD⟩;refine ju (λIF h'=> ∃ (g:M7) (l6:P4),IF= [some (.lst p),some (.int (k:P4)),some (.int way),some (.int o),some (.int m),some (.lst R),some (.int (i:P4)),some (.lst S),some (.int (j:P4)),some (.bl g)]/\0<=l6/\h' p=some [.int l6,.int fl]/\h' R=some (rows.map yB)/\h' S=some (row.map D.int)/\But p h h') (λC hC=>⟨_,rfl,_,rfl,Uz (λ_=>⟨_,rfl,_,rfl,_,rfl,by omega,_,rfl,Uz (λ_=>hC _ _ ⟨_,l6,rfl,l60,kD,kE,kF,bD⟩) λ_=>⟨_,rfl,_,rfl,Uz (λ_=>⟨_,rfl,p,l6,fl,2,rfl,kD,l60,by decide,by decide,λr l7 r0 r1 l70=>⟨_,rfl,hC _ _ ⟨_,l7,rfl,l70,jc,jx nR kE,jx nS kF,bD.put⟩⟩⟩) λ_=>hC _ _ ⟨_,l6,rfl,l60,kD,kE,kF,bD⟩⟩⟩) λ_=>hC _ _ ⟨_,l6,rfl,l60,kD,kE,kF,bD⟩⟩) ?_;clear kD kE kF bD;rintro _ _ ⟨g,l6,rfl,l60,kD,kE,kF,bD⟩;refine ju (λIF h'=> ∃ (g:M7) (l6:P4),IF= [some (.lst p),some (.int (k:P4)),some (.int way),some (.int o),some (.int m),some (.lst R),some (.int (i:P4)),some (.lst S),some (.int (j:P4)),some (.bl g)]/\0<=l6/\h' p=some [.int l6,.int fl]/\h' R=some (rows.map yB)/\h' S=some (row.map D.int)/\But p h h') (λC hC=>⟨_,rfl,_,rfl,Uz (λ_=>⟨_,rfl,_,rfl,Uz (λ_=>⟨_,rfl,_,rfl,by decide,_,rfl,Uz (λ_=>hC _ _ ⟨_,l6,rfl,l60,kD,kE,kF,bD⟩) λ_=>⟨_,rfl,_,rfl,hC _ _ ⟨_,l6,rfl,l60,kD,kE,kF,bD⟩⟩⟩) λ_=>⟨_,rfl,Uz (λ_=>hC _ _ ⟨_,l6,rfl,l60,kD,kE,kF,bD⟩) λ_=>⟨_,rfl,_,rfl,hC _ _ ⟨_,l6,rfl,l60,kD,kE,kF,bD⟩⟩⟩⟩) λ_=>hC _ _ ⟨_,l6,rfl,l60,kD,kE,kF,bD⟩⟩) ?_;clear kD kE kF bD;rintro _ _ ⟨g,l6,rfl,l60,kD,kE,kF,bD⟩;refine ju (λIF h'=> ∃ (g:M7) (l6:P4),IF= [some (.lst p),some (.int (k:P4)),some (.int way),some (.int o),some (.int m),some (.lst R),some (.int (i:P4)),some (.lst S),some (.int (j:P4)),some (.bl g)]/\0<=l6/\h' p=some [.int l6,.int fl]/\h' R=some (rows.map yB)/\h' S=some (row.map D.int)/\But p h h') (λC hC=>⟨_,rfl,_,rfl,Uz (λ_=>⟨_,rfl,_,rfl,Uz (λ_=>⟨_,rfl,_,rfl,hC _ _ ⟨_,l6,rfl,l60,kD,kE,kF,bD⟩⟩) λ_=>hC _ _ ⟨_,l6,rfl,l60,kD,kE,kF,bD⟩⟩) λ_=>hC _ _ ⟨_,l6,rfl,l60,kD,kE,kF,bD⟩⟩) ?_;clear kD kE kF bD;rintro _ _ ⟨g,l6,rfl,l60,kD,kE,kF,bD⟩;have gi: ∀x r:P4,0<=r->r<m->x=0\/x=1->CMul x (1+r)/\0<=x*(1+r)/\x*(1+r)<=1000000:=λx r r0 r1 hx=>by
  rcases hx with e|e<;>subst e
  ·exact⟨.inl ⟨by decide,by decide⟩,by omega,by omega⟩
  ·exact⟨.inl ⟨by decide,by decide⟩,by omega,by omega⟩
 refine⟨_,rfl,S,rfl,_,rfl,_,rfl,_,rfl,p,l6,fl,m,rfl,kD,l60,m1,by omega,λr l7 r0 r1 l70=> ?_⟩;have gg:=gi (if g=true then 1 else 0) r r0 r1 (by cases g<;>decide);refine⟨gg.1,_,jx nS kF,?_,_,Sub.refl _,by omega,_,_,l7,row++ [(if g=true then 1 else 0)*(1+r)],rfl,l70,jx (K9 nS) jc,jx (K9 nSR) (jx nR kE),?_,(bD.put).putNew fS,by rw [P0,g1'];rfl,?_⟩
 ·rw [G8];exact V9 (show row.length<=1000 by omega) (by decide)
 ·rw [jc,C6];rfl
 ·intro x hx;rcases R5.mp hx with z|z
  ·exact g2' x z
  ·rw [G9.mp z];exact gg.2
theorem AS {t2:TED}{c2:TTD}{t u:TSD}(x:te σ h λv h1=>OX [v] h1 λd h2=>t2 σ h2 λw h3=>neD d w h3 λy h4=> ∃k,y= .bl k/\if k=true then (if true=true then t E σ h4 else u E σ h4) else c2 σ h4 λb h5=>if b=true then t E σ h5 else u E σ h5):Mh (FS (vS (dOp neD (dCB OX (zm te ZJ)) t2)) c2) t u E σ h:=x
theorem FM {t u:TSD}(x:te σ h λv h1=>Cq [v] h1 λd h2=> ∃k,d= .bl k/\if (!k)=true then t E σ h2 else u E σ h2):Mh (QN (vS (dCB Cq (zm te ZJ)))) t u E σ h:=x
def NA (s:G3):G0 G3:=(G6 7).filter λ(k:G3)=>decide ((k:P4)∈(Xg s).map (vc s))
def Bp (s k:G3):P4:=(((Xg s).map (vc s)).count (k:P4):G3)
theorem FN (s:G3):((NA s).map λ(k:G3)=>D.tup [.int (k:P4),.int (Bp s k)])=(GI s).map tI:=by
 unfold GI NA;rw [S8];rfl
theorem FO {s:G3}(h1:1<=s)(h3:s<=3):((NA s).map (Bp s)).sum=1*2^((s:P4)*(s:P4)).toNat:=by
 have e:(NA s).map (Bp s)=(GI s).map λr=>r.getD 1 0:=by unfold GI NA Bp;rw [S8];rfl
 rw [e];have c:s=1\/s=2\/s=3:=by omega
 rcases c with rfl|rfl|rfl
 ·rw [SM];decide
 ·rw [SN];decide
 ·rw [SO];decide
theorem NB {s:G3}(h1:1<=s)(h3:s<=3): ∃c,atI ((GI s).map tI) (-1)=some (.tup [.int (Gu s),.int c]):=by
 have c:s=1\/s=2\/s=3:=by omega
 rcases c with rfl|rfl|rfl
 ·rw [SM];exact⟨1,rfl⟩
 ·rw [SN];exact⟨2,rfl⟩
 ·rw [SO];exact⟨6,rfl⟩
theorem NC (s:G3):(NA s).length<=1000:=S4 (fI _ _) (by rw [R6];decide)
theorem AT: ∀ {s:G3},1<=s->s<=3->Sq s 1 (Wz s)/\okS s (Wz s)=true/\vc s (Wz s)=Gu s
 |1,_,_=>⟨⟨rfl,by decide,by decide,by decide⟩,by decide +kernel,by decide +kernel⟩
 |2,_,_=>⟨⟨rfl,by decide,by decide,by decide⟩,by decide +kernel,by decide +kernel⟩
 |3,_,_=>⟨⟨rfl,by decide,by decide,by decide⟩,by decide +kernel,by decide +kernel⟩
theorem ND: ∀ {s:G3},2<=s->s<=3->Sq s 1 (Rw s)/\okS s (Rw s)=true
 |2,_,_=>⟨⟨by decide,by decide,by decide,by decide⟩,by decide +kernel⟩
 |3,_,_=>⟨⟨by decide,by decide,by decide,by decide⟩,by decide +kernel⟩
theorem FP {Q:KD}(q:Q (.bl true) h):eqE (jC T) (jC T) h Q:=⟨vW T,vW T,JC h T,JC h T,yT T,yT T,by rw [show F7 (vW T) (vW T)=true from by rw [encT.eq];simp];exact q⟩
theorem FQ {Q:KD}(q:Q (.bl false) h):neE (jC T) (jC T) h Q:=⟨vW T,vW T,JC h T,JC h T,yT T,yT T,by rw [show F7 (vW T) (vW T)=true from by rw [encT.eq];simp];exact q⟩
def wG:RDn:=λds h Q=> ∃s:G3,ds= [.int (s:P4)]/\1<=s/\s<=3/\ ∀h',Sub h h'->Q (.bl true) h'
theorem Jt (Z:Zs mg)(F:Fun K "_law_size_right" "_law_size_right" zK f fd)(Gy:jh P w K mg base n "by_first" ["size"] Wp)(zA:jh P w K mg base n "slowest_power" ["size"] zY)(Zi:jh P w K mg base n "slowest_tables" ["size"] wZ)(jG:jh P w K mg base n "first_power" ["table"] zd)(jO:jh P w K mg base n "least_alike" ["table"] zN)(Uj:jh P w K mg base n "slow_table" ["size"] Jp):FnOk P w K mg base CX0 (n+1) f fd ["_law_size_here"] (LSp K wG):=by
 refine F.okM jH (λhr=>(js5 (jse 1 jH (jk Gy hr (j1 (jv 0)))) (Us (jpt (Ei (jt1 oq_ne (wT (PJ rfl) rfl Z.sum (by decide +kernel) (j1 (HG (i:=3) (j:=4) (js:= [3,4]) rfl (zG (by rfl)) (zE (jv 1)) (by decide) (by decide) (by decide) jH.nd rfl rfl (by first|exact W5 rfl|exact bU rfl) (by first|exact W5 rfl|exact bU rfl) (λX' hX=>yA) (λX' hX=>by obtain⟨C,s₀,H₀,ex,rfl⟩:=hX;exact(jv 4))))) (jop AQ jz (jop Jz (jv 0) (jv 0)))) (Eh (jt1 (PH hr.units) (ji1 (ji1 (jv 1) (Tz jz)) jz) (jk zA hr (j1 (jv 0))))))) (yc jbl)) (jse 2 jH (jk Zi hr (j1 (jv 0)))) (Us (Yw (Yv (wT (Vq rfl) rfl Z.all aD (j1 (jl0 5 jH (zE (jv 2)) (λ_ _ _ _=>(Mq (jc1 (ZP hr.units) (jk jO hr (j1 (jv 5))) (jv 5)) (GG (jc1 (ZP hr.units) (jk jG hr (j1 (jv 5))) (jk zA hr (j1 (jv 0)))))))))))) (yc jbl)) (yc (jor (jc1 oq_eq (jv 0) jz) (GG (Tx (Sv hr.units) (jk jO hr (j1 (jk Uj hr (j1 (jv 0))))) (jv 2) (by with_unfolding_all rfl))))))) ?_;rintro ds h Q ⟨s,rfl,h1,h3,q⟩;refine⟨rfl,?_⟩;have v1:1<=Gu s:=by
  have:=eG (show 0<=(s:P4)-1 by omega) (show 0<=(s:P4)-1 by omega);unfold Gu;omega
 obtain⟨sq,okT,snT⟩:=AT h1 h3;have ls:=Xj h3 okT;refine ju (λIF h'=> ∃A,IF= [some (.int (s:P4)),some (.lst A),none,none,none,none]/\h' A=some ((GI s).map tI)/\Sub h h') (λC hC=>⟨_,rfl,s,rfl,h1,h3,λA h' fA kA sb=>hC _ _ ⟨A,rfl,kA,sb⟩⟩) ?_;rintro _ h2 ⟨A,rfl,kA,sb⟩;refine wE [some (.int (s:P4)),some (.lst A),none,none,none,none] (λC hC=>AS (HQ (j:=λh=>h A) (NA s) (λ(k:G3)=>D.int (k:P4)) (λk=> .int (Bp s k)) (λk=> .int (Bp s k)) (NC s) (by rw [FN];exact kA) (λR r=>⟨_,rfl,r⟩) (λk hk Q' q'=>⟨_,rfl,q'⟩) (λp hp=>⟨p,(NA s).map (Bp s),rfl,by rw [jc,S8];rfl,?_⟩))) ?_
 ·rw [zP hp];obtain⟨c,ec⟩:=NB h1 h3;refine⟨_,rfl,_,rfl,.inl ⟨by omega,by omega⟩,⟨eG (by omega) (by omega),?_,by decide⟩,?_⟩
  ·have:=Int.mul_le_mul (show (s:P4)<=3 by omega) (show (s:P4)<=3 by omega) (by omega) (by decide);omega
  show ∃k,D.bl (!decide ((((NA s).map (Bp s)).sum:P4)=_))= .bl k/\_;rw [FO h1 h3,D9 rfl];refine⟨_,rfl,Wt ⟨_,rfl,_,_,kA,ec,_,rfl,_,rfl,s,rfl,h1,by omega,?_⟩⟩;show ∃k,D.bl (!decide (Gu s=Gu s))= .bl k/\_;rw [D9 rfl];exact⟨_,rfl,Wt (hC)⟩
 refine ju (λIF h'=> ∃B,IF= [some (.int (s:P4)),some (.lst A),some (.lst B),none,none,none]/\h' B=some [jC (Wz s)]/\Sub h h') (λC hC=>⟨_,rfl,s,rfl,h1,h3,λB h' fB kB sb'=>hC _ _ ⟨B,rfl,kB,sb.trans sb'⟩⟩) ?_;clear kA sb;rintro _ h3' ⟨B,rfl,kB,sb⟩;refine ju (λIF h'=>IF= [some (.int (s:P4)),some (.lst A),some (.lst B),none,none,none]/\h' B=some [jC (Wz s)]/\Sub h h') (λC hC=>FM (Ff (h1:=h3') (j:=λh=>h B) [jC (Wz s)] (λk ys h'=>ys=N5 k (D.bl true)/\h' B=some [jC (Wz s)]/\Sub h h') (by show 1<=1000;decide) (λR r=>⟨_,rfl,r⟩) (λ_ _ _ z=>z.2.1) ⟨rfl,kB,sb⟩ (λk ys h' z=>by rw [z.1,lJ];exact P2 _) (λk d ys h' hd w=> ?_) (λys h' w p2 e2=> ?_))) ?_
 ·obtain⟨w1,w2,w3⟩:=w;have ed:d=jC (Wz s):=G9.mp (D0 hd);have hk:k+1<= [jC (Wz s)].length:=(D6.mp hd).1;subst ed;refine⟨_,rfl,Wz s,s,1,rfl,sq,h1,by omega,λm h4 lm sb4=> ?_⟩;have em:m=Wz s:=lm.only ls;subst em;obtain⟨o,ho⟩:=Qx sq h1 (by omega);have so:=YY sq h1 (by omega) ho;refine⟨_,rfl,FP ⟨_,rfl,QK ⟨_,rfl,Wz s,s,1,o,rfl,sq,h1,by omega,by decide,ho,_,rfl,s,rfl,h1,by omega,RB v1 ?_⟩⟩⟩;rw [<-so,snT,D9 rfl];exact⟨_,Sub.refl _,hk,by rw [w1,List.replicate_succ'],sb4 _ _ w2,w3.trans sb4⟩
 ·obtain⟨w1,w2,w3⟩:=w;have w1:ys= [D.bl true]:=w1;subst w1;refine⟨p2,[true],rfl,jc,?_⟩;rw [zP e2];exact⟨_,rfl,Wt (hC _ _ ⟨rfl,w2,w3⟩)⟩
 clear kB sb;rintro _ h4 ⟨rfl,kB,sb⟩;refine⟨_,rfl,_,rfl,Uz (λ_=>⟨_,Sub.refl _,q _ sb⟩) λz=> ?_⟩;have s2:2<=s:=by
  rcases A0 s 2 with w|w
  ·exact absurd (D9 (show (s:P4)=1 by omega)) z
  ·exact w
 obtain⟨sqs,oks⟩:=ND s2 h3;refine⟨_,rfl,s,rfl,s2,by omega,Rw s,s,1,rfl,sqs,h1,by omega,λm h5 lm sb5=> ?_⟩;have em:m=Wz s:=lm.only (Xj h3 oks);subst em;exact⟨_,rfl,NX encT (as:= [Wz s]) (sb5 _ _ kB) λb hb=>by rw [hb.mpr P6];exact⟨_,Sub.refl _,q _ (sb.trans sb5)⟩⟩
theorem AU {o:P7 G3}{Q:KD}(q:Q (.bl false) h):neE (FZ o) (FZ o) h Q:=by
 cases o with
 |none=>exact⟨.none,.none,rfl,rfl,rfl,rfl,q⟩
 |some k=>show Q (.bl (!decide ((k:P4)=(k:P4)))) h;rw [D9 rfl];exact q
theorem AV {i:G3}(h:i<6): ∃s:G3,atI [D.int 1,.int 2,.int 2,.int 2,.int 2,.int 3] (i:P4)=some (.int (s:P4))/\1<=s/\s<=3:=by
 match i,h with
 |0,_=>exact⟨1,rfl,by decide,by decide⟩
 |1,_=>exact⟨2,rfl,by decide,by decide⟩
 |2,_=>exact⟨2,rfl,by decide,by decide⟩
 |3,_=>exact⟨2,rfl,by decide,by decide⟩
 |4,_=>exact⟨2,rfl,by decide,by decide⟩
 |5,_=>exact⟨3,rfl,by decide,by decide⟩
theorem RC (h:Sq n e T)(hn:n<=8){o:P7 G3}(ho:Fst n T o):Fst n (jj n T) o:=by
 have x: ∀k,jI (jZ n (jj n T) k)=jI (jZ n T k):=λk=>by
  rw [<-ZT (Sq.pow (Sq.mark T) hn k),<-XM h hn,ZT (h.pow hn k)]
 cases o with
 |none=>exact λk hk=>(x k).trans (ho k hk)
 |some k=>exact⟨ho.1,ho.2.1,(x k).trans ho.2.2.1,λj j1 j2=>(x j).trans (ho.2.2.2 j j1 j2)⟩
theorem FR {m:G0 (G0 P4)}(h:Sq n e T)(hn:n<=8)(om:Orb n T m){o:P7 G3}(ho:Fst n T o):Fst n m o:=by
 obtain⟨p,hp,rfl⟩:=om;have g:=h.ren hp.ord;have x: ∀k,jI (jZ n (Zt n p T) k)=jI (jZ n T k):=λk=>by
  rw [Q7,ZZ g hn,ZZ h hn];refine⟨λx i j hi hj=> ?_,λx i j hi hj=>(Ro h hp hn hi hj).mpr (x _ _ (hp.ord.lt hi) (hp.ord.lt hj))⟩;have:=(Ro h hp hn (hp.back.ord.lt hi) (hp.back.ord.lt hj)).mp (x _ _ (hp.back.ord.lt hi) (hp.back.ord.lt hj))
  rwa [vY hp hi,vY hp hj] at this
 cases o with
 |none=>exact λk hk=>(x k).trans (ho k hk)
 |some k=>exact⟨ho.1,ho.2.1,(x k).trans ho.2.2.1,λj j1 j2=>(x j).trans (ho.2.2.2 j j1 j2)⟩
theorem RD {m:G0 (G0 P4)}(o:Orb n (jj n T) m):jj n m=m:=by
 have hm:Sq n 1 m:=DL (Sq.mark T) o;obtain⟨o,ho,rfl⟩:=o;refine(Sq.mark _).ext hm λi j hi hj=> ?_
 rw [Yz hi hj,wu hi hj,Yz (ho.ord.lt hi) (ho.ord.lt hj)];split<;>split<;>first|rfl|contradiction
theorem AW (Z:Zs mg)(F:Fun K "law" "law" Gv f fd)(ya:jh P w K mg base n "_law_size_right" ["_law_size_here"] wG)(Xv:jh P w K mg base n "_law_cell" ["_law_script","_law_k"] Zb)(Gx:jh P w K mg base n "_law_pen" ["_law_cell_here"] Wq)(jJ:jh P w K mg base n "_law_draw" ["_law_pen_here","_law_many"] wF)(Uf:jh P w K mg base n "_law_table" ["_law_pen_here","_law_size_here"] Js)(Xw:jh P w K mg base n "_law_size" ["_law_pen_here"] Zc)(jO:jh P w K mg base n "least_alike" ["table"] zN)(jG:jh P w K mg base n "first_power" ["table"] zd):FnOk P w K mg base CX0 (n+1) f fd ["_law_script"] (LSp K PB):=by
 refine F.okM VY (λhr=>(js3 (Us (Yw (Yv (jk ya hr (j1 jz)))) (yc jbl)) (CC X8 rfl (CB (jop wC (PL (j1 (jk Xv hr (j2 (jv 0) jz)))) (Ac (jv 0) (PP jz) (PP jz)))) (jgn 1 VY) (js5 (jse 2 VY (jk Gx hr (j1 (jv 1)))) (Us (Yw (Yv (jk ya hr (j1 (ji1 (PL (jac jz (by exact(jac jz (by exact(j4 jz jz jz jz)))))) (jk jJ hr (j2 (jv 2) jz))))))) (yc jbl)) (jse 3 VY (jk Uf hr (j2 (jv 2) (wT (DN rfl hr) rfl Z.min (by decide +kernel) (j2 jz (jk Xw hr (j1 (jv 2)))))))) (jse 4 VY (jk jO hr (j1 (jv 3)))) (Us (jpt (Ei (jt1 (PH hr.units) (jk jG hr (j1 (jv 4))) (jk jG hr (j1 (jv 3)))) (Eh (jt1 (PH hr.units) (jk jO hr (j1 (jv 4))) (jv 4))))) (yc jbl)))) (yc jbl))) ?_;rintro ds h Q ⟨ns,rfl,hh,hns,q⟩;refine⟨rfl,?_⟩;refine ju (λIF h'=>IF= [some (.scr ns),none,none,none,none]) (λC hC=>⟨1,rfl,by decide,by decide,λh' _=>⟨_,rfl,Wt (hC _ _ rfl)⟩⟩) ?_;rintro _ h rfl;refine ju (λIF h'=>True) (λC hC=> ?_) (λIF h3 hV=>⟨h3,Sub.refl _,q h3⟩);refine⟨_,rfl,ns,0,rfl,(by decide),λn0=>⟨sz1,λp1 e1=>⟨_,rfl,_,rfl,_,rfl,λp2 e2=>⟨_,_,ze jc e2,jc,?_,λp3 e3=>⟨p3,rfl,?_⟩⟩⟩⟩⟩
 ·have:(QU ns (some 1) (some 2)).length<=ns.length:=by unfold QU;rw [T3,B3];omega
  rw [G8];exact R9 (jF (by simp only [D8,B2];omega))
 generalize hcs:([D.int n0]++(QU ns (some 1) (some 2)).map D.int)=cs;have hint: ∀d∈cs,∃c,d= .int c:=λd hd=>by
  rw [<-hcs] at hd;rcases R5.mp hd with z|z
  ·exact⟨n0,G9.mp z⟩
  ·obtain⟨x,_,e⟩:=R8.mp z;exact⟨x,e.symm⟩
 refine ZO cs (λi IF h'=> ∃a1 a2 a3 a4,IF= [some (.scr ns),a1,a2,a3,a4]/\h' p3=some cs) (λi IF h' ⟨_,_,_,_,_,k⟩=>k) ⟨_,_,_,_,rfl,jc⟩ (λIF h' _=>hC _ _ aV) ?_;rintro i d _ h4 hi ⟨b1,b2,b3,b4,rfl,k3⟩;obtain⟨c,rfl⟩:=hint d (D0 hi);have hil:i<cs.length:=(D6.mp hi).1;show WO _ _ _ [some (.scr ns),some (.int c),b2,b3,b4] h4;refine ju (λIF h'=> ∃p l fl,IF= [some (.scr ns),some (.int c),some (.lst p),b3,b4]/\h' p=some [.int l,.int fl]/\0<=l/\h' p3=some cs/\p3≠p) (λC hC=> ?_) ?_
 ·refine⟨_,rfl,c,rfl,λp l fl ep l0 _=>hC _ _ ⟨p,l,fl,rfl,jc,l0,ze k3 ep,K9 (jT k3 ep)⟩⟩
 rintro _ h5 ⟨p,l,fl,rfl,kp,l0,k3,n3⟩;refine ju (λIF h'=> ∃l',IF= [some (.scr ns),some (.int c),some (.lst p),b3,b4]/\h' p=some [.int l',.int fl]/\0<=l'/\h' p3=some cs) (λC hC=> ?_) ?_
 ·refine⟨sz6,λq1 f1=>⟨_,rfl,p,l,fl,6,rfl,ze kp f1,l0,by decide,by decide,λr l' r0 r4 l0'=> ?_⟩⟩;obtain⟨r,rfl⟩:=Int.eq_ofNat_of_zero_le r0;obtain⟨s,hs,s1,s3⟩:=AV (i:=r) (by omega);exact⟨_,_,jx (jT kp f1) jc,hs,s,rfl,s1,s3,λh' sb=>⟨_,rfl,Wt (hC _ _ ⟨l',rfl,sb _ _ jc,l0',sb _ _ (jx n3 (ze k3 f1))⟩)⟩⟩
 clear kp l0 k3;rintro _ h6 ⟨l,rfl,kp,l0,k3⟩;have m5: ∀k:G3,(if (k:P4)<5 then (k:P4) else 5)=(((if k<5 then k else 5):G3):P4):=λk=>by split<;>split<;>omega
 have b1: ∀k:G3,1<=k->1<=(if k<5 then k else 5)/\(if k<5 then k else 5)<=5:=λk hk=>by split<;>omega
 refine ju (λIF h'=> ∃T,∃n:G3,IF= [some (.scr ns),some (.int c),some (.lst p),some (jC T),b4]/\GoodTab n T/\1<=n/\n<=5/\h' p3=some cs) (λC hC=>⟨_,rfl,_,rfl,p,l,fl,rfl,kp,l0,λk l2 k1 k6 l20=> .inl ⟨5,(k:P4),rfl,p,l2,fl,_,by rw [m5],jc,l20,(b1 k k1).1,S4 (b1 k k1).2 (by decide),λT l3 gT l30=>hC _ _ ⟨T,_,rfl,gT,(b1 k k1).1,(b1 k k1).2,jx n3 (jx n3 k3)⟩⟩⟩) ?_;clear kp k3;rintro _ h7 ⟨T,n,rfl,gT,n1,n5,k3⟩;have hT:=gT.sq;have hn:n<=8:=by omega
 refine ju (λIF h'=> ∃m,IF= [some (.scr ns),some (.int c),some (.lst p),some (jC T),some (jC m)]/\Lst n (jj n T) m/\h' p3=some cs) (λC hC=>⟨_,rfl,T,n,20,rfl,hT,n1,n5,λm h' lm sb=>hC _ _ ⟨m,rfl,lm,sb _ _ k3⟩⟩) ?_;clear k3;rintro _ h8 ⟨m,rfl,lm,k3⟩;have hm:Sq n 1 m:=DL (Sq.mark T) lm.1;obtain⟨o,ho⟩:=Qx hT n1 (by omega);have hom:Fst n m o:=FR (Sq.mark T) hn lm.1 (RC hT hn ho);refine⟨_,rfl,m,n,1,o,rfl,hm,n1,by omega,by decide,hom,_,rfl,T,n,20,o,rfl,hT,n1,by omega,by decide,ho,AU ⟨_,rfl,Wt ⟨_,rfl,m,n,1,rfl,hm,n1,n5,λm' h9 lm' sb=> ?_⟩⟩⟩;rw [RD lm.1] at lm';have em:m'=m:=lm'.only (Lst.on (Sq.mark T) lm.1 lm);subst em;exact⟨_,rfl,FQ ⟨_,rfl,Wt ⟨_,Sub.refl _,hil,_,_,_,_,rfl,sb _ _ k3⟩⟩⟩
end
theorem AX {l:p7}{w:N8}{K:G5}{h:F4}{mg:Str->P7 G1}{fa:P5}(X:K.In h)(G:h.Ns E3 mg)(hfa:mg "law" =some (.ref fa))
 (d0:DefIn K "is_whole" JL fu0 eu0)
 (d1:DefIn K "is_within" vA fu1 eu1)
 (d2:DefIn K "is_place" JM fu2 eu2)
 (d3:DefIn K "are_places" yH fu3 eu3)
 (d4:DefIn K "is_order" JN fu4 eu4)
 (d5:DefIn K "is_table_row" wN fu5 eu5)
 (d6:DefIn K "has_table_form" zW fu6 eu6)
 (d7:DefIn K "want_table" yJ fu7 eu7)
 (d8:DefIn K "want_order" yK fu8 eu8)
 (d9:DefIn K "want_number" yi fu9 eu9)
 (d10:DefIn K "multiplied" yL fu10 eu10)
 (d11:DefIn K "full" Rs fu11 eu11)
 (d12:DefIn K "marks" Xn fu12 eu12)
 (d13:DefIn K "renamed" Wj fu13 eu13)
 (d14:DefIn K "marks_after" yj fu14 eu14)
 (d15:DefIn K "marks_and_return" zu fu15 eu15)
 (d16:DefIn K "all_marks" vB fu16 eu16)
 (d17:DefIn K "first_power" yk fu17 eu17)
 (d18:DefIn K "slow_table" yM fu18 eu18)
 (d19:DefIn K "slowest_power" wx fu19 eu19)
 (d20:DefIn K "all_rows" JP fu20 eu20)
 (d21:DefIn K "all_mark_tables" zJ fu21 eu21)
 (d22:DefIn K "all_orders" yN fu22 eu22)
 (d23:DefIn K "by_first" JQ fu23 eu23)
 (d24:DefIn K "least_alike" yl fu24 eu24)
 (d25:DefIn K "slowest_tables" zX fu25 eu25)
 (d26:DefIn K "_law_cell" vC fu26 eu26)
 (d27:DefIn K "_law_pen" JR fu27 eu27)
 (d28:DefIn K "_law_draw" vD fu28 eu28)
 (d29:DefIn K "_law_size" vE fu29 eu29)
 (d30:DefIn K "_law_table" yO fu30 eu30)
 (d31:DefIn K "_law_size_right" zK fu31 eu31)
 (d32:DefIn K "law" Gv fu32 eu32)
 {tk0:Tok}(v0:o5 K E3 "MOST_ROWS" =some (some (.int 6 tk0)))
 {tk1:Tok}(v1:o5 K E3 "MOST_LISTED" =some (some (.int 3 tk1)))
 {tk2:Tok}(v2:o5 K E3 "MOST_RENAMED" =some (some (.int 5 tk2)))
 (z:zsB K=true)
 : ∃fd:N9,(∀ (s:G2) (v:G1),qK s fd ⟨[v],[]⟩ [("_law_script",v)])/\ ∀base:F4,K.In base->base.Ns E3 mg->Bm mg base->FnOk l.prog w K mg base CX0 12 fa fd ["_law_script"] (LSp K PB):=by
 have e:=hfa.symm.trans (d32.nm X G);cases e;have jQ: ∃tk,mg "MOST_ROWS" =some (.int 6 tk):=⟨_,nJ X G v0⟩;have jY: ∃tk,mg "MOST_LISTED" =some (.int 3 tk):=⟨_,nJ X G v1⟩;have wP: ∃tk,mg "MOST_RENAMED" =some (.int 5 tk):=⟨_,nJ X G v2⟩;have Z:=SG X G z;obtain⟨_,_,kV,dc,pm,an,cd,ct,_,rfl,_⟩:=d32.fn.ex;refine⟨cJ "law" "law" (yw Gv) (zS Gv) (jd Gv) .none kV dc pm an cd ct,λs v=> .of_eq rfl,λbase _ _ B=> ?_⟩;have Yg:=λn=>d0.cal l w base X G (Xp (n:=n+0) Z d0.fn)
 have Ws:=λn=>d1.cal l w base X G (VZ (n:=n+1) Z d1.fn (Yg (n+0)))
 have GF:=λn=>d2.cal l w base X G (Xq (n:=n+2) Z d2.fn (Ws (n+0)))
 have Uo:=λn=>d3.cal l w base X G (YS (n:=n+3) Z d3.fn (GF (n+0)))
 have GE:=λn=>d4.cal l w base X G (Xr (n:=n+4) Z d4.fn (Uo (n+0)))
 have WH:=λn=>d5.cal l w base X G (Wn (n:=n+1) Z d5.fn (Yg (n+0)))
 have Zj:=λn=>d6.cal l w base X G (JU (n:=n+2) Z d6.fn (WH (n+0)) jQ)
 have wH:=λn=>d7.cal l w base X G (YT (n:=n+3) Z d7.fn (Zj (n+0)))
 have Ur:=λn=>d8.cal l w base X G (YU (n:=n+5) Z d8.fn (GE (n+0)))
 have wm:=λn=>d9.cal l w base X G (WC (n:=n+2) Z d9.fn (Ws (n+0)))
 have Up:=λn=>d10.cal l w base X G (YV (n:=n+0) Z d10.fn)
 have AZ:=λn=>d11.cal l w base X G (FD (n:=n+4) Z d11.fn (wH (n+0)))
 have XB:=λn=>d12.cal l w base X G (Nw (n:=n+4) Z d12.fn (wH (n+0)))
 have RF:=λn=>d13.cal l w base X G (Gw (n:=n+6) Z d13.fn (wH (n+2)) (Ur (n+0)))
 have Va:=λn=>d14.cal l w base X G (WD (n:=n+5) Z d14.fn (XB (n+0)) (Up (n+4)))
 have Jw:=λn=>d15.cal l w base X G (vG (n:=n+6) Z d15.fn (XB (n+1)) (Va (n+0)))
 have XA:=λn=>d16.cal l w base X G (Ua (n:=n+7) Z d16.fn (Jw (n+0)))
 have wj:=λn=>d17.cal l w base X G (WE (n:=n+8) Z d17.fn (XA (n+0)) (AZ (n+3)))
 have Uq:=λn=>d18.cal l w base X G (YW (n:=n+3) Z d18.fn (wm (n+0)) jQ)
 have yR:=λn=>d19.cal l w base X G (Zg (n:=n+3) Z d19.fn (wm (n+0)) jQ)
 have GC:=λn=>d20.cal l w base X G (Xs (n:=n+0) Z d20.fn)
 have yb:=λn=>d21.cal l w base X G (Jq (n:=n+1) Z d21.fn (GC (n+0)))
 have Um:=λn=>d22.cal l w base X G (YX (n:=n+0) Z d22.fn)
 have GD:=λn=>d23.cal l w base X G (Xt (n:=n+9) Z d23.fn (wm (n+6)) (yb (n+7)) (wj (n+0)) jY)
 have yn:=λn=>d24.cal l w base X G (WF (n:=n+7) Z d24.fn (wH (n+3)) (XB (n+2)) (Um (n+6)) (RF (n+0)) wP)
 have Zk:=λn=>d25.cal l w base X G (JV (n:=n+9) Z d25.fn (wm (n+6)) (yR (n+5)) (wj (n+0)) (yb (n+7)) (yn (n+1)) jY)
 have Xy:=λn=>d26.cal l w base X G (Uc (n:=n+0) Z d26.fn)
 have GB:=λn=>d27.cal l w base X G (Xu (n:=n+0) Z d27.fn)
 have vI:=λn=>d28.cal l w base X G (Ud (n:=n+0) Z d28.fn)
 have Xz:=λn=>d29.cal l w base X G (Ue (n:=n+1) Z d29.fn (vI (n+0)))
 have Ul:=λn=>d30.cal l w base X G (YZ (n:=n+1) Z d30.fn (vI (n+0)))
 have JY:=λn=>d31.cal l w base X G (Jt (n:=n+10) Z d31.fn (GD (n+0)) (yR (n+6)) (Zk (n+0)) (wj (n+1)) (yn (n+2)) (Uq (n+6)))
 exact AW (n:=11) Z d32.fn (JY 0) (Xy 10) (GB 10) (vI 10) (Ul 9) (Xz 9) (yn 3) (wj 2)
end My
namespace PySem.W.Fast
def tw1028176968280087375:=()
def tw6342038762584575253:=()
def tw5464846601081948994:=()
def tw6397814872240352471:=()
def tw1258160164924478851:=()
def tw10418763856073312142:=()
def tw16812011620499529939:=()
def tw8841591338009230692:=()
def tw11512810333317087988:=()
def tw9709744392868051187:=()
def tw16686871281554601900:=()
def tw12182271699086602964:=()
def tw14637760484447965140:=()
def tw10599074709930761257:=()
def tw11491243699979469968:=()
def tw9309592372965576943:=()
def tw9873455199301425319:=()
def tw6922981887940499110:=()
def tw636337822606733732:=()
def tw3040961752298876718:=()
def tw9755578608747474478:=()
def tw8374698055918779895:=()
def tw14801731464744314842:=()
def tw6112675468274051968:=()
def tw759738816122761354:=()
def tw7247540669115627826:=()
def tw6423213678066248134:=()
def tw13818557838646574172:=()
def tw2450832953982311360:=()
def tw12624108076621249293:=()
def tw12466036782115051210:=()
def tw13587051308253714710:=()
def tw10676666299742417131:=()
def tw6005570433924654087:=()
def tw9208556757341339740:=()
def tw18426820927107051120:=()
def tw9960545173388351605:=()
def tw9308619669197123970:=()
def tw17055170342066675005:=()
def tw13849653072914151289:=()
def tw11690139437410414189:=()
def tw2274887198077396830:=()
def tw14051672462689572824:=()
def tw10220753557388303812:=()
def tw11283421961624390133:=()
def tw5412453292342168462:=()
def tw16436807657255088920:=()
def tw9048893155216021548:=()
def tw4267179280461771728:=()
def tw15538505686505165927:=()
def tw7850945898978667323:=()
def tw8602467083329758933:=()
def tw10152867382620214453:=()
def tw12955853027495875023:=()
def tw77575529729951489:=()
def tw11147869896147731928:=()
def tw14999100390937886320:=()
def tw5751785578732491623:=()
def tw12392835185823518617:=()
def tw16156121882171479376:=()
def tw3269605912943850161:=()
def tw13551422842305592501:=()
def tw11259623867572480511:=()
def tw9911593635995796208:=()
def tw2234862344320209456:=()
def tw7708079432453198847:=()
def tw3960359834409389997:=()
def tw1957197890560987866:=()
def tw11710689855387944771:=()
def tw8850882936874195237:=()
def tw16130823943602774397:=()
def tw10885980829868540214:=()
def tw8557196521147496816:=()
def tw17217807816738825017:=()
def tw10196957947903627518:=()
def tw4606443530857077834:=()
def tw11740645355117274019:=()
def tw3184428107625277211:=()
def tw6126068584302440024:=()
def tw9364290641382488811:=()
def tw1385232174881979826:=()
def tw14042559827637414971:=()
def tw12738044409287672363:=()
def tw4634046481139759074:=()
def tw7063153087339576468:=()
def tw6298542285275281366:=()
def tw2465116943499070947:=()
def tw5710738144098033327:=()
def tw10625710706324041035:=()
def tw8147672013282978559:=()
def tw9272444012944823623:=()
def tw12852550303702891328:=()
def tw18342255665634686116:=()
def tw752066387680652870:=()
def tw15842790464321842174:=()
def tw11275142082901495500:=()
def tw6190221256674701985:=()
def tw1329782203273236435:=()
def tw15379372712323015929:=()
def tw4190908948045200865:=()
def tw7203195806374282206:=()
def tw11753142177755070089:=()
def tw16697676443625099454:=()
def tw17705337147964889350:=()
def tw8276418893251238691:=()
def tw2900214052312608627:=()
def tw16136162580376766192:=()
def tw2998508284925643884:=()
def tw9156808642504436059:=()
def tw5035328762248412655:=()
def tw14732619107413170705:=()
def tw720296586661093799:=()
def tw2122993485054232534:=()
def tw15734334234965667456:=()
def tw13586995228271348295:=()
def tw5743488370544996997:=()
def tw11070883925990492843:=()
def tw6940231356143862241:=()
def tw1507049510935675161:=()
def tw11281365056608317078:=()
def tw7671452484769930715:=()
def tw9934713217056576927:=()
def tw9777966730782586448:=()
def tw16463084952761233885:=()
def tw918611805633331617:=()
def tw4637512599849002528:=()
def tw14623002986844498058:=()
def tw211083041592867703:=()
def tw7414416583010362070:=()
def tw13397098109276378972:=()
def tw7232699991692496202:=()
def tw16809614611202966750:=()
end PySem.W.Fast
open PySem PySem.W PyProof.Rows
set_option maxRecDepth 100000 in
set_option maxHeartbeats 0 in
theorem PySem.Challenge.cw_firstpowers_k65_whole_kinds_of_tables_holds : PySem.Challenge.rw_firstpowers_k65_whole_kinds_of_tables.Holds := by
  w_on; o_law; k_head; (case hw => w_witness2)
  k_fill
  refine L2.Mo (l := PySem.Challenge.rw_firstpowers_k65_whole_kinds_of_tables) (k := 12) (x := "_law_script") rfl rfl ⟨rfl, by decide, by decide, rfl⟩ (fun w h Y => PySem.W.kIn_of Y) ?B ?F
  case B => intro w; kernel_rfl
  case F =>
    intro w mg fa h KX G hmg
    refine' My.AX KX G hmg ?d0 ?d1 ?d2 ?d3 ?d4 ?d5 ?d6 ?d7 ?d8 ?d9 ?d10 ?d11 ?d12 ?d13 ?d14 ?d15 ?d16 ?d17 ?d18 ?d19 ?d20 ?d21 ?d22 ?d23 ?d24 ?d25 ?d26 ?d27 ?d28 ?d29 ?d30 ?d31 ?d32 ?v0 ?v1 ?v2 ?z
    case d0 | d1 | d2 | d3 | d4 | d5 | d6 | d7 | d8 | d9 | d10 | d11 | d12 | d13 | d14 | d15 | d16 | d17 | d18 | d19 | d20 | d21 | d22 | d23 | d24 | d25 | d26 | d27 | d28 | d29 | d30 | d31 | d32 => refine' L2.AD ?a ?l ?c ?k; (case a => k_is); (case l => k_is); (case c => k_is); (case k => k_is)
    case v0 | v1 | v2 => k_is
    case z => kernel_rfl
